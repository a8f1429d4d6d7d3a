import PyProof.Rows.All
import Wide.All
import OpenK.AllK
import Wide.FinOn
import Lean
import PyProof.EqAt
import PyProof.EqKinds
import PyProof.TupleCall
import PySem.Challenge.RW_standtogether_k05_rows_by_numbers
set_option Elab.async false
set_option linter.all false
set_option maxRecDepth 100000
set_option maxHeartbeats 4000000
section
open PySem PySem.Spec PyProof.Rows
theorem xwo{p:Prop}(h:p:=by omega):p:=h
theorem xws{p:Prop}(h:p:=by simp):p:=h
theorem xwk{p:Prop}(h:p:=by kernel_rfl):p:=h
theorem xwd{p:Prop}(h:p:=by decide):p:=h
theorem xwD{p:Prop}(h:p:=by decide +kernel):p:=h
theorem xwO{p:Prop}(h:p:=by first|exact Or.inl rfl|exact Or.inr rfl):p:=h
theorem xwV{p:Prop}(h:p:=by first|exact Or.inl rfl|exact Or.inr (Or.inl rfl)|exact Or.inr (Or.inr rfl)):p:=h
theorem xwA{p:Prop}(h:p:=by first|exact .inl rfl|exact .inr rfl|assumption):p:=h
theorem xwN{i:Nat}{l:List Nat}(h:l.contains i=false):i∉l:=λm=>by rw[List.contains_iff_mem.mpr m] at h;cases h
def waa:=@Heap.get?_push_of_some
def wab:=@wpAny_bind
def wac:=@List.getElem?_eq_getElem
def wad:=@wpAny_pure
def wae:=@Bool.and_eq_true
def waf:=@List.size_toArray
def wag:=@List.length_map
def wah:=@List.mem_cons_of_mem
def wai:=@Heap.lt_size
def waj:=@Heap.get?_push_size
def wak:=@List.not_mem_nil
def wal:=@Nat.le_refl
def wam:=@List.getElem?_eq_some_iff
def wan:=@List.length_cons
def wap:=@List.mem_cons
def war:=@decide_eq_true_eq
def was:=@Nat.lt_of_lt_of_le
def wat:=@decide_eq_true
def wau:=@List.mem_cons_self
def wav:=@List.length_append
def waw:=@decide_eq_false
def wax:=@List.mem_append
def way:=@List.getElem?_set_self
def waz:=@List.mem_append_right
def waA:=@Option.some.inj
def waC:=@wpS_bind
def waD:=@wpS_pure
def waH:=@List.mem_of_getElem?
def waI:=@List.exists_cons_of_ne_nil
def waL:=@Nat.lt_irrefl
def waM:=@Nat.ne_of_lt
def waN:=@Nat.le_trans
def waO:=@False.elim
def waR:=@List.mem_append_left
def waT:=@Nat.le_add_right
end
section
namespace L2
open PySem PySem.Spec PyProof.Rows
abbrev Key:=Sum Int Str
def zuq:Key->Value->Bool
 |.inl k,v=>Value.isInt k v
 |.inr x,v=>Value.isStrOf x v
def keyH(w:World):Key->Int
 |.inl k=>hashInt k
 |.inr x=>hashStr w x
theorem zbi:∀{k:Key}{v:Value},zuq k v=true->(∃ i t,k=Sum.inl i/\v=Value.int i t)\/(∃ x t,k=Sum.inr x/\v=Value.str x t)
 |.inl i,v,h=>by obtain ⟨t,e⟩:=Value.isInt_shape (k:=i) (v:=v) h;exact .inl ⟨i,t,rfl,e⟩
 |.inr x,v,h=>by obtain ⟨t,e⟩:=Value.isStrOf_shape (x:=x) (v:=v) h;exact .inr ⟨x,t,rfl,e⟩
theorem zus(a b:Int):decide ((Sum.inl a:Key)=Sum.inl b)=(a == b):=by
 by_cases e:a=b
 ·subst e;simp
 ·have h:¬ (Sum.inl a:Key)=Sum.inl b:=λq=>e (Sum.inl.inj q);rw[decide_eq_false h];exact (beq_eq_false_iff_ne.mpr e).symm
theorem zuZ(a b:Str):decide ((Sum.inr a:Key)=Sum.inr b)=decide (a=b):=by
 by_cases e:a=b
 ·subst e;simp
 ·have h:¬ (Sum.inr a:Key)=Sum.inr b:=λq=>e (Sum.inr.inj q);rw[decide_eq_false h,decide_eq_false e]
theorem zvb(a:Int)(b:Str):decide ((Sum.inl a:Key)=Sum.inr b)=false:=waw (λq=>nomatch q)
theorem zuv(a:Str)(b:Int):decide ((Sum.inr a:Key)=Sum.inl b)=false:=waw (λq=>nomatch q)
def znH(prog:Program)(w:World):PySem.KeyKind prog w Key where
 is:=zuq
 hash:=keyH w
 inj:=λv a b ha hb=>by
  rcases zbi ha with ⟨i,t,rfl,rfl⟩|⟨x,t,rfl,rfl⟩
  ·rcases zbi hb with ⟨j,u,rfl,e⟩|⟨y,u,rfl,e⟩
   ·injection e with e1 _;rw[e1]
   ·exact nomatch e
  ·rcases zbi hb with ⟨j,u,rfl,e⟩|⟨y,u,rfl,e⟩
   ·exact nomatch e
   ·injection e with e1 _;rw[e1]
 byValue:=λk v h=>by rcases zbi h with ⟨i,t,rfl,rfl⟩|⟨x,t,rfl,rfl⟩ <;> rfl
 pyHash:=λhv h=>by
  rcases zbi hv with ⟨i,t,rfl,rfl⟩|⟨x,t,rfl,rfl⟩
  ·exact wpAny_pyHash_int h
  ·exact wpAny_pyHash_str h
 eqBool:=λhu hv h=>by
  rcases zbi hu with ⟨i,t,rfl,rfl⟩|⟨x,t,rfl,rfl⟩
  ·rcases zbi hv with ⟨j,u,rfl,rfl⟩|⟨y,u,rfl,rfl⟩
   ·rw[zus] at h;exact wpAny_eqBool_int h
   ·rw[zvb] at h;exact SeqAt.EqAt.int_str i t y u _ _ _ _ h
  ·rcases zbi hv with ⟨j,u,rfl,rfl⟩|⟨y,u,rfl,rfl⟩
   ·rw[zuv] at h;exact SeqAt.EqAt.str_int x t j u _ _ _ _ h
   ·rw[zuZ] at h;exact wpAny_eqBool_str h
 «strs» := λk x t v h=>by
  rcases zbi h with ⟨i,u,rfl,e⟩|⟨y,u,rfl,e⟩
  ·exact nomatch e
  ·injection e with e1 _;subst e1;cases v <;> rfl
end L2
namespace L2
open PySem PySem.Spec PyProof.Rows
inductive V where
 |non|bl (b:Bool)|int (i:Int)|str (x:Str)|byt (b:Array UInt8)|flt (b:UInt64)|ref (a:Addr)|ty (n:String)
 deriving DecidableEq
def zbO:V->Value->Prop
 |.non,u=>u=Value.none
 |.bl b,u=>u=Value.bool b
 |.int i,u=>∃ t,u=Value.int i t
 |.str x,u=>∃ t,u=Value.str x t
 |.byt b,u=>∃ t,u=Value.bytes b t
 |.flt b,u=>∃ t,u=Value.float b t
 |.ref a,u=>u=Value.ref a
 |.ty n,u=>u=Value.type n
abbrev zaW:List V->List Value->Prop:=Paired zbO
theorem zaW.length{xs:List V}{us:List Value}(r:zaW xs us):xs.length=us.length:=Paired.length r
theorem zaW.get:∀{xs:List V}{us:List Value}{i:Nat}{x:V},zaW xs us->xs[i]? = some x->∃ u,us[i]? = some u/\zbO x u
 |_,_,_,_,.nil,e=>by simp at e
 |_,_,0,_,.cons r _,e=>by simp at e;subst e;exact ⟨_,rfl,r⟩
 |_,_,i+1,x,.cons _ t,e=>by obtain ⟨u,h1,h2⟩:=zaW.get (i:=i) (x:=x) t (by simpa using e);exact ⟨u,by simpa using h1,h2⟩
theorem zaW.set{x:V}{u:Value}(r:zbO x u):∀{xs:List V}{us:List Value}(i:Nat),zaW xs us->zaW (xs.set i x) (us.set i u)
 |_,_,_,.nil=>.nil
 |_,_,0,.cons _ t=>.cons r t
 |_,_,i+1,.cons q t=>.cons q (zaW.set r i t)
theorem zaW.append:∀{xs ys:List V}{us ws:List Value},zaW xs us->zaW ys ws->zaW (xs++ys) (us++ws)
 |_,_,_,_,.nil,s=>s
 |_,_,_,_,.cons r t,s=>.cons r (zaW.append t s)
theorem zaW.take:∀{xs:List V}{us:List Value}(n:Nat),zaW xs us->zaW (xs.take n) (us.take n)
 |_,_,0,_=>.nil
 |_,_,_+1,.nil=>.nil
 |_,_,n+1,.cons r t=>.cons r (zaW.take n t)
theorem zaW.drop:∀{xs:List V}{us:List Value}(n:Nat),zaW xs us->zaW (xs.drop n) (us.drop n)
 |_,_,0,r=>r
 |_,_,_+1,.nil=>.nil
 |_,_,n+1,.cons _ t=>zaW.drop n t
def ztF:Option V->Option Value->Prop
 |some v,some u=>zbO v u
 |none,none=>True
 |_,_=>False
def KV{κ:Type}:List (κ×V)->List (κ×Value)->Prop:=Paired λ(p:κ×V) (q:κ×Value)=>p.1=q.1/\zbO p.2 q.2
def kV:Key->V
 |.inl i=>.int i
 |.inr x=>.str x
inductive HO where
  |lst (xs:List V)
  |tup (xs:List V)
  |dK (kvs:List (Key×V))|dT (kvs:List (List Key×V))
  |set (S:Int->Bool) (n:Nat)
  |ins (C dx:Addr) (fs:List (Str×V))
  |own (x:Addr)
  |xd (fs:List (Str×V))
  |met (f x:Addr)
  |rng (lo hi:Int)
  |frz (o:Obj) (u:HO)
  |tbl (ps:Array Value)
  |ext (φ : Heap->Prop)
abbrev Hp:=Addr->Option HO
def upd(H:Hp)(a:Addr)(o:HO):Hp:=λb=>if b=a then some o else H b
theorem zan{H:Hp}{a:Addr}{o:HO}:upd H a o a=some o:=by unfold upd;rw[if_pos rfl]
theorem zag{H:Hp}{a b:Addr}{o:HO}(h:b≠a):upd H a o b=H b:=by unfold upd;rw[if_neg h]
theorem zah{H:Hp}{a b:Addr}{o:HO}(h:H a=some o)(h':H b=none):a≠b:=by intro e;subst e;rw[h] at h';cases h'
section
variable(P:Program)(w:World)
def zcw(H:Hp)(h:Heap)(a:Addr):HO->Prop
 |.lst xs=>xs.length<=sizeLine/\∃(its:List Value)(n:Nat),zaW xs its/\h.get? a=some { cls:=.type "list",data:=.seq its.toArray n }
 |.tup xs=>xs.length<=sizeLine/\∃ its:List Value,zaW xs its/\∃ n,h.get? a=some { cls:=.type "tuple",data:=.seq its.toArray n }
 |.dK kvs=>kvs.length<=sizeLine/\(a == sysModules)=false/\∃ vs,KV kvs vs/\h.DictOf (znH P w) a vs
 |.dT kvs=>kvs.length<=sizeLine/\(a == sysModules)=false/\∃ xs:List (List Key×Addr×Value),
   Paired (λ(p:List Key×V) (q:List Key×Addr×Value)=>p.1=q.1/\H q.2.1=some (.tup (p.1.map kV))/\zbO p.2 q.2.2) kvs xs /\
   ∃ o es ep,h.get? a=some o/\o.ExactDict/\o.data=.dict es ep/\es.toList=xs.map (entryOfKey (tupleKind (znH P w)))/\(xs.map (·.1)).Nodup
 |.set S n=>h.SetOf (intKind P w) a S n
 |.ins C dx fs=>H dx=some (.own a)/\fs.length<=1000/\dx≠a/\h.get? a=some (W.instObj C dx) /\
   ∃ mA,h.Ns1 dx mA/\(∀ f,ztF (fs.lookup f) (mA f))/\PySem.Within mA (fs.map (·.1))
 |.own _=>∃ o,h.get? a=some o
 |.xd fs=>∃ mA,h.Ns1 a mA/\∀ f,ztF (fs.lookup f) (mA f)
 |.rng lo hi=>∃ t u v,h.get? a=some { cls:=.type "range",data:=.fields #[.int lo t,.int hi u,.int 1 v] }
 |.frz o u=>h.get? a=some o/\zcw H h a u
 |.tbl ps=>h.get? a=some { cls:=.none,data:=.fields ps }
 |.met f x=>h.get? a=some (W.methodObj (.ref f) (.ref x))
 |.ext φ => φ h/\(∃ o,h.get? a=some o)/\∀ h1 h2:Heap,φ h1->(∀ o,h1.get? a=some o->h2.get? a=some o)->φ h2
def HOk(H:Hp)(h:Heap):Prop:=∀ a o,H a=some o->zcw P w H h a o
end
section
variable{P:Program}{w:World}{H H':Hp}{h h':Heap}{a:Addr}{o:HO}
theorem zcw.lt(x:zcw P w H h a o):a<h.objs.size:=by
 cases o with
 |lst xs=>obtain ⟨_,_,_,_,e⟩:=x;exact wai e
 |tup xs=>obtain ⟨_,_,_,_,e⟩:=x;exact wai e
 |dK kvs=>obtain ⟨_,_,_,_,o,_,_,e,_⟩:=x;exact wai e
 |dT kvs=>obtain ⟨_,_,_,_,o,_,_,e,_⟩:=x;exact wai e
 |set S n=>obtain ⟨o,_,_,_,e,_⟩:=x;exact wai e
 |ins C dx fs=>obtain ⟨_,_,_,e,_⟩:=x;exact wai e
 |own y=>obtain ⟨_,e⟩:=x;exact wai e
 |xd fs=>obtain ⟨_,⟨_,_,_,e,_⟩,_⟩:=x;exact wai e
 |rng lo hi=>obtain ⟨_,_,_,e⟩:=x;exact wai e
 |frz ob u=>obtain ⟨e,_⟩:=x;exact wai e
 |tbl ps=>exact wai (show h.get? a=some _ from x)
 |met f y=>exact wai (show h.get? a=some _ from x)
 |ext φ => obtain ⟨_,⟨_,e⟩,_⟩:=x;exact wai e
theorem Paired.mapP{α β:Type}{F G:α->β->Prop}:∀{l₁:List α}{l₂:List β},Paired F l₁ l₂->(∀ a b,F a b->G a b)->Paired G l₁ l₂
 |_,_,.nil,_=>.nil
 |_,_,.cons r t,f=>.cons (f _ _ r) (Paired.mapP t f)
theorem zcw.stay(x:zcw P w H h a o)(k:∀ b u,(b=a\/H b=some (.own a))->h.get? b=some u->h'.get? b=some u)
  (ho:∀ b,H b=some (.own a)->H' b=some (.own a)) (ht:∀ b xs,H b=some (.tup xs)->H' b=some (.tup xs)):zcw P w H' h' a o:=by
 induction o with
 |lst xs=>obtain ⟨z,its,n,r,e⟩:=x;exact ⟨z,its,n,r,k _ _ (.inl rfl) e⟩
 |tup xs=>obtain ⟨z,its,r,n,e⟩:=x;exact ⟨z,its,r,n,k _ _ (.inl rfl) e⟩
 |dK kvs=>obtain ⟨z,y,vs,r,ob,es,ep,e,c⟩:=x;exact ⟨z,y,vs,r,ob,es,ep,k _ _ (.inl rfl) e,c⟩
 |dT kvs =>
  obtain ⟨z,y,xs,r,ob,es,ep,e,c⟩:=x;exact ⟨z,y,xs,Paired.mapP r λp q z=>⟨z.1,ht _ _ z.2.1,z.2.2⟩,ob,es,ep,k _ _ (.inl rfl) e,c⟩
 |set S n=>obtain ⟨ob,es,ep,t,e,c⟩:=x;exact ⟨ob,es,ep,t,k _ _ (.inl rfl) e,c⟩
 |ins C dx fs =>
  obtain ⟨d,z,ne,e,mA,⟨od,es,ep,e2,c⟩,r⟩:=x;exact ⟨ho _ d,z,ne,k _ _ (.inl rfl) e,mA,⟨od,es,ep,k _ _ (.inr d) e2,c⟩,r⟩
 |own y=>obtain ⟨ob,e⟩:=x;exact ⟨ob,k _ _ (.inl rfl) e⟩
 |xd fs=>obtain ⟨mA,⟨od,es,ep,e,c⟩,r⟩:=x;exact ⟨mA,⟨od,es,ep,k _ _ (.inl rfl) e,c⟩,r⟩
 |rng lo hi=>obtain ⟨t,u,v,e⟩:=x;exact ⟨t,u,v,k _ _ (.inl rfl) e⟩
 |frz ob u ih=>obtain ⟨e,q⟩:=x;exact ⟨k _ _ (.inl rfl) e,ih q⟩
 |tbl ps =>
  have e:h.get? a=some { cls:=.none,data:=.fields ps }:=x;show h'.get? a=some { cls:=.none,data:=.fields ps };exact k a _ (.inl rfl) e
 |met f y =>
  have e:h.get? a=some (W.methodObj (.ref f) (.ref y)):=x;show h'.get? a=some (W.methodObj (.ref f) (.ref y));exact k a _ (.inl rfl) e
 |ext φ => obtain ⟨p,⟨o,e⟩,st⟩:=x;exact ⟨st _ _ p λo q=>k _ _ (.inl rfl) q,⟨o,k _ _ (.inl rfl) e⟩,st⟩
theorem HOk.lt(x:HOk P w H h)(e:H a=some o):a<h.objs.size:=(x a o e).lt
theorem HOk.fresh(x:HOk P w H h)(e:h.objs.size<=a):H a=none:=by
 cases q:H a with
 |none=>rfl
 |some u=>exact absurd (was (x.lt q) e) (waL _)
theorem HOk.kept(x:HOk P w H h)(k:∀ b u,h.get? b=some u->h'.get? b=some u):HOk P w H h':=λa o e =>
 (x a o e).stay (λb u _ q=>k b u q) (λ_ q=>q) λ_ _ q=>q
theorem HOk.laid(x:HOk P w H h)(k:∀ b u,h.get? b=some u->h'.get? b=some u)(hp:h.objs.size<=a)(new:zcw P w (upd H a o) h' a o):HOk P w (upd H a o) h':=λb u e=>by
 have hn:=x.fresh hp;by_cases hb:b=a
 ·subst hb;rw[zan] at e;cases e;exact new
 ·rw[zag hb] at e;exact (x b u e).stay (λc v _ q=>k c v q) (λc q=>by rw[zag (zah q hn)];exact q) λc xs q=>by rw[zag (zah q hn)];exact q
end
def Rd(H:Hp)(a:Addr)(u:HO):Prop:=H a=some u\/∃ o,H a=some (.frz o u)
theorem Rd.of{H:Hp}{a:Addr}{u:HO}(h:H a=some u):Rd H a u:=.inl h
theorem Rd.ok{P:Program}{w:World}{H:Hp}{h:Heap}{a:Addr}{u:HO}(r:Rd H a u)(x:HOk P w H h):zcw P w H h a u:=by
 rcases r with r|⟨o,r⟩
 ·exact x a u r
 ·obtain ⟨_,q⟩:=x a _ r;exact q
def Mut:Option HO->Prop
 |some (.lst _)=>True
 |some (.dK _)=>True
 |some (.dT _)=>True
 |some (.set _ _)=>True
 |some (.ins _ _ _)=>True
 |some (.ext _)=>True
 |_=>False
section
variable{P:Program}{w:World}{H:Hp}{h h':Heap}{x e:Addr}{o':HO}
theorem HOk.write(ok:HOk P w H h)(mu:Mut (H x))(he:e=x\/H e=some (.own x))(k:∀ b u,b≠e->h.get? b=some u->h'.get? b=some u)(heo:∃ u,h'.get? e=some u)
  (new:zcw P w (upd H x o') h' x o'):HOk P w (upd H x o') h':=λb u q=>by
 have nown:∀ c y,H c=some (.own y)->c≠x:=λc y r z=>by subst z;rw[r] at mu;exact mu
 have ntup:∀ c xs,H c=some (.tup xs)->c≠x:=λc xs r z=>by subst z;rw[r] at mu;exact mu
 by_cases hb:b=x
 ·subst hb;rw[zan] at q;cases q;exact new
 ·rw[zag hb] at q;by_cases hbe:b=e
  ·have q':H b=some (.own x):=by
    rcases he with z|z
    ·exact absurd (hbe.trans z) hb
    ·rw[hbe];exact z
   rw[q] at q';cases q';obtain ⟨v,hv⟩:=heo;exact ⟨v,by rw[hbe];exact hv⟩
  ·refine (ok b u q).stay (λc v hc r=>k c v ?_ r) (λc r=>by rw[zag (nown c b r)];exact r) λc xs r=>by rw[zag (ntup c xs r)];exact r
   rcases hc with rfl|hc
   ·exact hbe
   ·rintro rfl;rcases he with z|z
    ·exact nown c b hc z
    ·rw[hc] at z;cases z;exact hb rfl
end
structure Un(fs ex:List Addr)(H H':Hp)(h h':Heap):Prop where
 keep:∀ b o,h.get? b=some o->H b=none->b∉fs->b∉ex->h'.get? b=some o
 slot:∀ b o,h.get? b=some o->H b=none->b∈fs->b∉ex->∃ sl,h'.get? b=some { o with slots:=sl }
 free:∀ b o,h.get? b=some o->H b=none->b∉ex->H' b=none
 there:∀ b o,h.get? b=some o->b∉ex->∃ o',h'.get? b=some o'
 tups:∀ b xs,H b=some (.tup xs)->H' b=some (.tup xs)
 frzs:∀ b o u,H b=some (.frz o u)->H' b=some (.frz o u)
 tbls:∀ b ps,H b=some (.tbl ps)->∃ more,H' b=some (.tbl (ps++more))
section
variable{fs fs' ex ex':List Addr}{H H1 H2:Hp}{h h1 h2 h':Heap}{a x e:Addr}{o:HO}
theorem Un.any(u:Un fs ex H H1 h h1){b:Addr}{ob:Obj}(q:h.get? b=some ob)(n:H b=none)(hx:b∉ex):∃ sl,h1.get? b=some { ob with slots:=sl }:=by
 by_cases hb:b∈fs
 ·exact u.slot b ob q n hb hx
 ·exact ⟨ob.slots,u.keep b ob q n hb hx⟩
theorem Un.trans(a:Un fs ex H H1 h h1)(b:Un fs ex H1 H2 h1 h2):Un fs ex H H2 h h2 where
 keep:=λc ob q n hc hx=>b.keep c ob (a.keep c ob q n hc hx) (a.free c ob q n hx) hc hx
 slot:=λc ob q n hc hx=>by obtain ⟨sl,e1⟩:=a.slot c ob q n hc hx;obtain ⟨sl',e2⟩:=b.slot c _ e1 (a.free c ob q n hx) hc hx;exact ⟨sl',e2⟩
 free:=λc ob q n hx=>by obtain ⟨o',e1⟩:=a.there c ob q hx;exact b.free c o' e1 (a.free c ob q n hx) hx
 there:=λc ob q hx=>by obtain ⟨o',e1⟩:=a.there c ob q hx;exact b.there c o' e1 hx
 tups:=λc xs q=>b.tups c xs (a.tups c xs q)
 frzs:=λc ob xs q=>b.frzs c ob xs (a.frzs c ob xs q)
 tbls:=λc ps q=>by obtain ⟨m1,e1⟩:=a.tbls c ps q;obtain ⟨m2,e2⟩:=b.tbls c _ e1;exact ⟨m1++m2,by rw[e2,Array.append_assoc]⟩
theorem Un.kept(k:∀ b u,h.get? b=some u->h'.get? b=some u):Un fs ex H H h h' :=
 ⟨λb ob q _ _ _=>k b ob q,λb ob q _ _ _=>⟨ob.slots,k b ob q⟩,λ_ _ _ n _=>n,λb ob q _=>⟨ob,k b ob q⟩,λ_ _ q=>q,λ_ _ _ q=>q,λ_ ps q=>⟨#[],by rw[q];simp⟩⟩
theorem Un.refl:Un fs ex H H h h:=Un.kept λ_ _ q=>q
theorem Un.laid(k:∀ b u,h.get? b=some u->h'.get? b=some u)(hp:h.objs.size<=a)(hn:H a=none):Un fs ex H (upd H a o) h h' where
 keep:=λb u q _ _ _=>k b u q
 slot:=λb u q _ _ _=>⟨u.slots,k b u q⟩
 free:=λb u q n _=>by rw[zag (Nat.ne_of_lt (Nat.lt_of_lt_of_le (Heap.lt_size q) hp))];exact n
 there:=λb u q _=>⟨u,k b u q⟩
 tups:=λb xs q=>by rw[zag (zah q hn)];exact q
 frzs:=λb u xs q=>by rw[zag (zah q hn)];exact q
 tbls:=λb ps q=>⟨#[],by rw[zag (zah q hn),q];simp⟩
theorem Un.write(mu:Mut (H x))(he:e=x\/H e=some (.own x))(k:∀ b u,b≠e->h.get? b=some u->h'.get? b=some u)(heo:∃ u,h'.get? e=some u):Un fs ex H (upd H x o) h h':=by
 have hx:∀ b,H b=none->b≠x:=λb n z=>by subst z;rw[n] at mu;exact mu
 have hb:∀ b,H b=none->b≠e:=λb n z=>by
  subst z;rcases he with r|r
  ·exact hx b n r
  ·rw[n] at r;cases r
 have hm:∀ b u,H b=some u->¬ Mut (some u)->b≠x:=λb u q nm z=>by subst z;rw[q] at mu;exact nm mu
 refine ⟨λb u q n _ _=>k b u (hb b n) q,λb u q n _ _=>⟨u.slots,k b u (hb b n) q⟩,λb u q n _=>by rw[zag (hx b n)];exact n,λb u q _=>?_,
  λb xs q=>by rw[zag (hm b _ q λz=>z)];exact q,λb u xs q=>by rw[zag (hm b _ q λz=>z)];exact q,λb ps q=>⟨#[],by rw[zag (hm b _ q λz=>z),q];simp⟩⟩
 by_cases hbe:b=e
 ·subst hbe;exact heo
 ·exact ⟨u,k b u hbe q⟩
theorem Un.mono(u:Un fs ex H H1 h h1)(hs:∀ b∈fs,b∈fs')(hx:∀ b∈ex,b∈ex'):Un fs' ex' H H1 h h1 :=
 ⟨λb ob q n hb he=>u.keep b ob q n (λz=>hb (hs b z)) λz=>he (hx b z),λ_ _ q n _ he=>u.any q n λz=>he (hx _ z),λb ob q n he=>u.free b ob q n λz=>he (hx b z),λb ob q he=>u.there b ob q λz=>he (hx b z),u.tups,u.frzs,u.tbls⟩
end
def trk(h:Heap)(H:Hp):List Addr:=(List.range h.objs.size).filter λa=>(H a).isSome
def zpo(h:Heap)(H:Hp):Heap:=W.hideAll h (trk h H)
theorem zot(h:Heap)(H:Hp):(zpo h H).objs.size=h.objs.size:=W.hideAll_size _ _
theorem zps{h:Heap}{H:Hp}{b:Addr}{o:Obj}(e:h.get? b=some o)(n:H b=none):(zpo h H).get? b=some o :=
 W.hideAll_get _ e λhm=>by have q:(H b).isSome=true:=(List.mem_filter.mp hm).2;rw[n] at q;simp at q
theorem zst{h:Heap}{H:Hp}{b:Addr}{o:Obj}(e:(zpo h H).get? b=some o):h.get? b=some o/\H b=none:=by
 have e':h.get? b=some o:=W.of_hideAll (trk h H) e;refine ⟨e',?_⟩;cases q:H b with
 |none=>rfl
 |some x =>
  have hm:b∈trk h H:=List.mem_filter.mpr ⟨List.mem_range.mpr (wai e'),by simp[q]⟩;have z:(zpo h H).get? b=none:=W.hideAll_none (trk h H) hm;rw[z] at e;cases e
def zsW(g h:Heap)(L:Addr):List (Addr×Obj):=(List.range h.objs.size).filterMap λa=>if a=L\/(g.get? a).isSome=true then none else (h.get? a).map λo=>(a,o)
def zbq(g h:Heap)(L d:Addr):List (Addr×Obj):=(zsW g h L).filter λp=>decide (p.1≠d)
end L2
namespace L2
open PySem PySem.Spec PyProof.Rows
structure Mod(K:W.Frag)(mg:Str->Option Value)(base:Heap):Prop where
 kin:K.In base
 glob:base.Ns mainGlobals mg
 blt:∃ mb,base.Ns builtinsNs mb/\∀ x:Str,x≠"__name__"->mb x=bootBuiltins x
 nolimit:base.NoLimit
structure Cx where
 prog:Program
 w:World
 K:W.Frag
 mg:Str->Option Value
 base:Heap
 A:Around
 N:List Str
 s₀:Shared
 H₀:Hp
 env:Env
 outer:List Env
 stack:List Env
 ex:List Addr
 fn:Str->Bool
 calm:Bool
 pn:List (Addr×Obj)
 xe:Value->Shared->Prop
def frs(l:List Env):List Addr:=l.filterMap (·.frame)
abbrev Cx.fs(X:Cx):List Addr:=frs X.outer
def Vis(sc:Scope)(x:Str):Prop:=sc.names.lookup x=some .local\/sc.names.lookup x=some .cell\/sc.names.lookup x=some .free
def Loc(sc:Scope)(x:Str):Prop:=sc.names.lookup x=some .local\/sc.names.lookup x=some .cell
def Look(env:Env)(h:Heap)(m:Str->Option Value)(x:Str)(u:Value):Prop :=
 (env.kindOf x=some .local/\m x=some u)\/((env.kindOf x=some .cell\/env.kindOf x=some .free)/\∃ c,env.cells.lookup x=some c/\h.IsCell c (some u))
structure Cx.Ok(X:Cx):Prop where
 mod:Mod X.K X.mg X.base
 kind:X.env.scope.kind=.function
 glob:X.env.globals=mainGlobals
 blt:X.env.builtins=builtinsNs
 above:X.s₀.heap.objs.size<=X.env.locals
 inj:∀ x y c,X.env.cells.lookup x=some c->X.env.cells.lookup y=some c->x=y
 has:∀ x,(X.env.kindOf x=some .cell\/X.env.kindOf x=some .free)->∃ c,X.env.cells.lookup x=some c
 cab:∀ x c,X.fn x=true->X.env.cells.lookup x=some c->X.s₀.heap.objs.size<=c
 hd:X.calm=true->X.A.handled=none
 frames:X.A.frames=some X.stack
 stk:X.stack=X.outer\/(X.stack=X.env::X.outer/\X.env.frame=some X.env.locals)
 exf:∀ b∈X.ex,b≠X.env.locals/\∀ x c,X.env.cells.lookup x=some c->c≠b
 bs:∀ b o,X.base.get? b=some o->X.s₀.heap.get? b=some o/\X.H₀ b=none
 bsz:X.base.objs.size<=X.s₀.heap.objs.size
 noex:∀ b o,X.base.get? b=some o->b∉X.ex
 exfs:∀ b∈X.ex,b∉X.fs
 funs:X.s₀.heap.FunFrames X.base X.outer
 frf:∀ b∈X.fs,X.H₀ b=none
structure Inv(X:Cx)(pS:List (Addr×Obj))(Y:List (Option V))(H:Hp)(s:Shared):Prop where
 ok:X.Ok
 os:s.os=X.s₀.os
 bare:AllBare s.gens
 base:Un X.fs X.ex X.H₀ H X.s₀.heap s.heap
 loc:∃ m,s.heap.Ns X.env.locals m/\∀(i:Nat)(x:Str)(v:V),X.N[i]? = some x->Y[i]? = some (some v)->Vis X.env.scope x->∃ u,zbO v u/\Look X.env s.heap m x u
 cell:∀ x c,X.env.cells.lookup x=some c->∃ v,s.heap.IsCell c v
 free:H X.env.locals=none
 freeC:∀ x c,X.env.cells.lookup x=some c->H c=none
 pin:∀ p∈X.pn++pS,s.heap.get? p.1=some p.2/\H p.1=none/\p.1≠X.env.locals/\p.1∉X.fs/\∀ v,p.2.data≠.cell v
 hok:HOk X.prog X.w H s.heap
 len:Y.length=X.N.length
section
variable{X:Cx}{pS:List (Addr×Obj)}{Y:List (Option V)}{H H':Hp}{s:Shared}{h':Heap}
theorem Cx.Ok.nofr(ok:X.Ok){b:Addr}{o:Obj}(e:X.base.get? b=some o):b∉X.fs:=λhb=>by have:=(ok.funs.mem hb).1;rw[e] at this;cases this
theorem Inv.bs(I:Inv X pS Y H s):∀ b o,X.base.get? b=some o->s.heap.get? b=some o/\H b=none:=λb o e =>
 ⟨I.base.keep b o (I.ok.bs b o e).1 (I.ok.bs b o e).2 (I.ok.nofr e) (I.ok.noex b o e),I.base.free b o (I.ok.bs b o e).1 (I.ok.bs b o e).2 (I.ok.noex b o e)⟩
theorem Inv.bk(I:Inv X pS Y H s):∀ b o,X.base.get? b=some o->s.heap.get? b=some o:=λb o e=>(I.bs b o e).1
theorem Inv.mod(I:Inv X pS Y H s):Mod X.K X.mg X.base:=I.ok.mod
theorem Inv.kIn(I:Inv X pS Y H s):X.K.In s.heap:=I.ok.mod.kin.keeps I.bk
theorem Inv.nolimit(I:Inv X pS Y H s):s.heap.NoLimit:=I.ok.mod.nolimit.keeps I.bk
theorem Inv.fr(I:Inv X pS Y H s):∃ m,Fr X.base X.env.locals s.heap m :=
 let ⟨m,hn,_⟩:=I.loc
 ⟨m,hn,I.bk,waN I.ok.bsz I.ok.above⟩
theorem Inv.lt(I:Inv X pS Y H s):X.env.locals<s.heap.objs.size:=let ⟨_,hn,_⟩:=I.loc;hn.lt
theorem Inv.sz(I:Inv X pS Y H s):X.s₀.heap.objs.size<=s.heap.objs.size:=waN I.ok.above (Nat.le_of_lt I.lt)
theorem Inv.nofs(I:Inv X pS Y H s){a:Addr}(h:s.heap.objs.size<=a):a∉X.fs:=λhb=>by obtain ⟨_,o,ho,_⟩:=I.ok.funs.mem hb;exact absurd (was (wai ho) (waN I.sz h)) (waL _)
theorem Inv.cne(I:Inv X pS Y H s):∀ x c,X.env.cells.lookup x=some c->c≠X.env.locals:=λx c e z=>by obtain ⟨v,o,ho,hd⟩:=I.cell x c e;obtain ⟨m,⟨o',es,ep,ho',hd',_⟩,_⟩:=I.loc;rw[z,ho'] at ho;cases ho;rw[hd'] at hd;cases hd
theorem Inv.funs(I:Inv X pS Y H s):s.heap.FunFrames X.base X.outer:=by
 have all:∀(l:List Env),(∀ b∈frs l,b∈X.fs)->X.s₀.heap.FunFrames X.base l->s.heap.FunFrames X.base l:=by
  intro l
  induction l with
  |nil=>intro _ _;trivial
  |cons env r ih =>
   intro hs hl;obtain ⟨hk,⟨L,o,hf,hn,ho,hd⟩,hr⟩:=hl;have hL:L∈X.fs:=hs L (by unfold frs;rw[List.filterMap_cons,hf];exact wau);obtain ⟨sl,e⟩:=I.base.slot L o ho (I.ok.frf L hL) hL λz=>I.ok.exfs L z hL;exact ⟨hk,⟨L,_,hf,hn,e,hd⟩,ih (λb hb=>hs b (by unfold frs;rw[List.filterMap_cons,hf];exact wah _ hb)) hr⟩
 exact all X.outer (λ_ hb=>hb) I.ok.funs
theorem Inv.stack(I:Inv X pS Y H s):s.heap.FunFrames X.base X.stack:=by
 rcases I.ok.stk with e|⟨e,hf⟩
 ·rw[e];exact I.funs
 ·rw[e];obtain ⟨m,hn,_⟩:=I.loc;refine .cons (by rw[I.ok.kind];decide) hf hn ?_ I.funs;exact Heap.get?_none_of_le (waN I.ok.bsz I.ok.above)
theorem Inv.stkSub(I:Inv X pS Y H s):∀ b∈frs X.stack,b∈X.env.locals::X.fs:=λb hb=>by
 rcases I.ok.stk with e|⟨e,hf⟩
 ·rw[e] at hb;exact wah _ hb
 ·rw[e] at hb;unfold frs at hb;rw[List.filterMap_cons,hf] at hb;exact hb
theorem Inv.stkFree(I:Inv X pS Y H s):∀ b∈frs X.stack,H b=none:=λb hb=>by
 rcases wap.mp (I.stkSub b hb) with e|hb
 ·rw[e];exact I.free
 ·obtain ⟨_,o,ho,_⟩:=I.ok.funs.mem hb;exact I.base.free b o ho (I.ok.frf b hb) λz=>I.ok.exfs b z hb
theorem Inv.step{g':Array GenState}{t':Nat}{d':Drawn}{ch:List Addr}(I:Inv X pS Y H s)
  (hch:∀ b∈ch,(b∈X.ex\/X.s₀.heap.objs.size<=b)/\b≠X.env.locals/\(∀ x c,X.env.cells.lookup x=some c->c≠b)/\∀ p∈X.pn++pS,p.1≠b)
  (keep:∀ b o,b≠X.env.locals->b∉X.fs->b∉ch->s.heap.get? b=some o->H b=none->h'.get? b=some o)
  (slot:∀ b o,b≠X.env.locals->b∈X.fs->b∉ch->s.heap.get? b=some o->H b=none->∃ sl,h'.get? b=some { o with slots:=sl }) (free:∀ b o,b∉ch->s.heap.get? b=some o->H b=none->H' b=none)
  (there:∀ b o,b∉ch->s.heap.get? b=some o->∃ o',h'.get? b=some o')
  (tups:∀ b xs,H b=some (.tup xs)->H' b=some (.tup xs)) (frzs:∀ b o u,H b=some (.frz o u)->H' b=some (.frz o u)) (tbls:∀ b ps,H b=some (.tbl ps)->∃ more,H' b=some (.tbl (ps++more)))
  (ns:∀ m,s.heap.Ns X.env.locals m->h'.Ns X.env.locals m) (hok:HOk X.prog X.w H' h') (hg:AllBare g') :
  Inv X pS Y H' { s with heap:=h',gens:=g',drawn:=d',toks:=t' }:=by
 have neL:∀ b o,X.s₀.heap.get? b=some o->b≠X.env.locals:=λb o e=>waM (was (wai e) I.ok.above);have neC:∀ b o,X.s₀.heap.get? b=some o->b∉X.ex->b∉ch:=λb o e hx hb=>by
  rcases (hch b hb).1 with z|z
  ·exact hx z
  ·exact absurd (was (wai e) z) (waL _)
 have cellK:∀ x c,X.env.cells.lookup x=some c->∀ v,s.heap.IsCell c v->h'.IsCell c v:=λx c e v ⟨o,ho,hd⟩=>by
  have nch:c∉ch:=λz=>(hch c z).2.2.1 x c e rfl;by_cases hc:c∈X.fs
  ·obtain ⟨sl,q⟩:=slot c o (I.cne x c e) hc nch ho (I.freeC x c e);exact ⟨_,q,hd⟩
  ·exact ⟨o,keep c o (I.cne x c e) hc nch ho (I.freeC x c e),hd⟩
 refine ⟨I.ok,I.os,hg,⟨λb o e n hb hx=>?_,λb o e n hb hx=>?_,λb o e n hx=>?_,λb o e hx=>?_,λb xs e=>tups b xs (I.base.tups b xs e),λb o xs e=>frzs b o xs (I.base.frzs b o xs e),λb ps e=>?_⟩,?_,λx c e=>?_,?_,λx c e=>?_,λp hp=>?_,hok,I.len⟩
 ·exact keep b o (neL b o e) hb (neC b o e hx) (I.base.keep b o e n hb hx) (I.base.free b o e n hx)
 ·obtain ⟨sl,e1⟩:=I.base.slot b o e n hb hx;obtain ⟨sl',e2⟩:=slot b _ (neL b o e) hb (neC b o e hx) e1 (I.base.free b o e n hx);exact ⟨sl',e2⟩
 ·obtain ⟨o',e1⟩:=I.base.there b o e hx;exact free b o' (neC b o e hx) e1 (I.base.free b o e n hx)
 ·obtain ⟨o',e1⟩:=I.base.there b o e hx;exact there b o' (neC b o e hx) e1
 ·obtain ⟨m1,e1⟩:=I.base.tbls b ps e;obtain ⟨m2,e2⟩:=tbls b _ e1;exact ⟨m1++m2,by rw[e2,Array.append_assoc]⟩
 ·obtain ⟨m,hn,hl⟩:=I.loc;refine ⟨m,ns m hn,λi x v e1 e2 e3=>?_⟩;obtain ⟨u,r,l⟩:=hl i x v e1 e2 e3;refine ⟨u,r,?_⟩;rcases l with l|⟨k,c,e,z⟩
  ·exact .inl l
  ·exact .inr ⟨k,c,e,cellK x c e _ z⟩
 ·obtain ⟨v,z⟩:=I.cell x c e;exact ⟨v,cellK x c e v z⟩
 ·obtain ⟨m,⟨o,_,_,ho,_⟩,_⟩:=I.loc;exact free _ o (λz=>(hch _ z).2.1 rfl) ho I.free
 ·obtain ⟨v,o,ho,hd⟩:=I.cell x c e;exact free c o (λz=>(hch c z).2.2.1 x c e rfl) ho (I.freeC x c e)
 ·obtain ⟨e,n,ne,nf,d⟩:=I.pin p hp;have nch:p.1∉ch:=λz=>(hch p.1 z).2.2.2 p hp rfl;exact ⟨keep p.1 p.2 ne nf nch e n,free p.1 p.2 nch e n,ne,nf,d⟩
theorem Inv.un{t':Nat}(I:Inv X pS Y H s)(u:Un X.fs [] H H' s.heap h')(hok:HOk X.prog X.w H' h'):Inv X pS Y H' { s with heap:=h',toks:=t' }:=by
 obtain ⟨m,⟨o,es,ep,ho,r⟩,_⟩:=id I.loc;obtain ⟨sl,hL⟩:=u.any ho I.free xws;exact I.step (g':=s.gens) (d':=s.drawn) (ch:=[]) (λ_ z=>nomatch z) (λb o _ hb _ e n=>u.keep b o e n hb xws) (λb o _ hb _ e n=>u.slot b o e n hb xws) (λb o _ e n=>u.free b o e n xws) (λb o _ e=>u.there b o e xws) u.tups u.frzs u.tbls (λm' hm=>by obtain ⟨o',es',ep',ho',r'⟩:=hm;rw[ho] at ho';cases ho';exact ⟨_,es',ep',hL,r'⟩) hok I.bare
theorem Inv.call{g':Array GenState}{t':Nat}{d':Drawn}{ch:List Addr}(I:Inv X pS Y H s)(u:Un (frs X.stack) ch H H' s.heap h')(hok:HOk X.prog X.w H' h')(hg:AllBare g')
  (hch:∀ b∈ch,(b∈X.ex\/X.s₀.heap.objs.size<=b)/\b≠X.env.locals/\(∀ x c,X.env.cells.lookup x=some c->c≠b)/\∀ p∈X.pn++pS,p.1≠b) :
  Inv X pS Y H' { s with heap:=h',gens:=g',drawn:=d',toks:=t' }:=by
 obtain ⟨m,⟨o,es,ep,ho,r⟩,_⟩:=id I.loc;obtain ⟨sl,hL⟩:=u.any ho I.free λz=>(hch _ z).2.1 rfl;exact I.step (ch:=ch) hch (λb o hL hb hc e n=>u.keep b o e n (λz=>(wap.mp (I.stkSub b z)).elim hL hb) hc) (λb o _ _ hc e n=>u.any e n hc) (λb o hc e n=>u.free b o e n hc) (λb o hc e=>u.there b o e hc) u.tups u.frzs u.tbls (λm' hm=>by obtain ⟨o',es',ep',ho',r'⟩:=hm;rw[ho] at ho';cases ho';exact ⟨_,es',ep',hL,r'⟩) hok hg
theorem Inv.turned{t':Nat}{it:Addr}(I:Inv X pS Y H s)(k:∀ b o,b≠it->s.heap.get? b=some o->h'.get? b=some o)(hn:H it=none)(hL:it≠X.env.locals)
  (h1:it∈X.ex\/X.s₀.heap.objs.size<=it) (h2:∀ x c,X.env.cells.lookup x=some c->c≠it) (h3:∀ p∈X.pn++pS,p.1≠it):Inv X pS Y H { s with heap:=h',toks:=t' }:=by
 have nit:∀ b u,H b=some u->b≠it:=λb u e z=>by rw[z,hn] at e;cases e
 refine I.step (g':=s.gens) (d':=s.drawn) (ch:=[it]) (λb hb=>?_) (λb o _ _ hc e _=>k b o (λz=>hc (by simp[z])) e) (λb o _ _ hc e _=>⟨o.slots,k b o (λz=>hc (by simp[z])) e⟩) (λ_ _ _ _ n=>n)
  (λb o hc e=>⟨o,k b o (λz=>hc (by simp[z])) e⟩) (λ_ _ e=>e) (λ_ _ _ e=>e) (λb ps e=>⟨#[],by rw[e];simp⟩) (λm hm=>?_) (λb u e=>?_) I.bare
 ·have e:b=it:=by simpa using hb
  subst e;exact ⟨h1,hL,h2,h3⟩
 ·obtain ⟨o,es,ep,ho,r⟩:=hm;exact ⟨o,es,ep,k _ o (Ne.symm hL) ho,r⟩
 ·refine (I.hok b u e).stay (λc v hc q=>k c v ?_ q) (λ_ q=>q) λ_ _ q=>q;rcases hc with z|z
  ·rw[z];exact nit b u e
  ·exact nit c _ z
theorem Inv.tok(I:Inv X pS Y H s)(t:Nat):Inv X pS Y H { s with toks:=t }:=I.un (h':=s.heap) (t':=t) Un.refl I.hok
theorem Inv.kept{t':Nat}(I:Inv X pS Y H s)(k:∀ b u,s.heap.get? b=some u->h'.get? b=some u):Inv X pS Y H { s with heap:=h',toks:=t' }:=I.un (Un.kept k) (I.hok.kept k)
theorem Inv.laid{a:Addr}{o:HO}{t':Nat}(I:Inv X pS Y H s)(k:∀ b u,s.heap.get? b=some u->h'.get? b=some u)(hp:s.heap.objs.size<=a)(new:zcw X.prog X.w (upd H a o) h' a o) :
  Inv X pS Y (upd H a o) { s with heap:=h',toks:=t' }:=I.un (Un.laid k hp (I.hok.fresh hp)) (I.hok.laid k hp new)
theorem Inv.write{x e:Addr}{o:HO}{t':Nat}(I:Inv X pS Y H s)(mu:Mut (H x))(he:e=x\/H e=some (.own x))(k:∀ b u,b≠e->s.heap.get? b=some u->h'.get? b=some u)(heo:∃ u,h'.get? e=some u)
  (new:zcw X.prog X.w (upd H x o) h' x o):Inv X pS Y (upd H x o) { s with heap:=h',toks:=t' }:=I.un (Un.write mu he k heo) (I.hok.write mu he k heo new)
theorem Inv.weak{Y':List (Option V)}(I:Inv X pS Y H s)(hl:Y'.length = Y.length)(w:∀(i:Nat) v,Y'[i]? = some (some v)->Y[i]? = some (some v)):Inv X pS Y' H s :=
 ⟨I.ok,I.os,I.bare,I.base,let ⟨m,hn,hl'⟩:=I.loc;⟨m,hn,λi x v e1 e2 e3=>hl' i x v e1 (w i v e2) e3⟩,I.cell,I.free,I.freeC,I.pin,I.hok,hl.trans I.len⟩
theorem Inv.pins_of{pins':List (Addr×Obj)}(I:Inv X pS Y H s)(h:∀ p∈pins',s.heap.get? p.1=some p.2/\H p.1=none/\p.1≠X.env.locals/\p.1∉X.fs/\∀ v,p.2.data≠.cell v):Inv X pins' Y H s :=
 ⟨I.ok,I.os,I.bare,I.base,I.loc,I.cell,I.free,I.freeC,λp hp=>(wax.mp hp).elim (λz=>I.pin p (waR _ z)) (h p),I.hok,I.len⟩
theorem zie{N:List Str}(hN:N.Nodup){i j:Nat}{x:Str}(a:N[i]? = some x)(b:N[j]? = some x):i=j:=by obtain ⟨h1,e1⟩:=wam.mp a;obtain ⟨h2,e2⟩:=wam.mp b;exact (List.getElem_inj hN).mp (e1.trans e2.symm)
theorem zhd{M:Model}{A:Around}{E:Value->Shared->Prop}{i:Nat}{x:Str}{v:V}{u:Value}{Q:Unit->Shared->Prop}(I:Inv X pS Y H s)(hN:X.N.Nodup)(hi:X.N[i]? = some x)(hx:Loc X.env.scope x)(r:zbO v u)
  (h:∀ s',Inv X pS (Y.set i (some v)) H s'->(∃ a,Heap.SameBut a s.heap s'.heap/\(a=X.env.locals\/X.env.cells.lookup x=some a))->Q () s') (hf:X.fn x=true\/X.env.scope.names.lookup x=some .local:=by exact xwA):wpAny M A (storeName X.env x u) Q E s:=by
 obtain ⟨m,hn,hl⟩:=id I.loc;have hcls:(X.env.scope.kind == .class || (X.env.scope.kind == .module && X.env.locals != X.env.globals))=false:=by rw[I.ok.kind];rfl
 have hiσ:i < Y.length:=by rw[I.len];exact (wam.mp hi).1
 have cne:=I.cne;have tracked:∀{a:Addr}{h':Heap},(∃ o,s.heap.get? a=some o/\H a=none)->Heap.SameBut a s.heap h'->HOk X.prog X.w H h':=λ{a h'} ha hs b ob e=>by
  obtain ⟨_,_,hfree⟩:=ha;refine (I.hok b ob e).stay (λc w' hc q=>(hs.2 c ?_).trans q) (λ_ q=>q) λ_ _ q=>q;rintro rfl;rcases hc with rfl|hc
  ·rw[hfree] at e;cases e
  ·rw[hfree] at hc;cases hc
 rcases hx with hk|hk
 ·refine wpAny_storeName_local hk hn (λh' hn' hs=>?_) hcls;obtain ⟨oL,_,_,hoL,_⟩:=id hn;refine h _ ⟨I.ok,I.os,I.bare,⟨λb o e n hb hx=>?_,λb o e n hb hx=>?_,I.base.free,λb o e hx=>?_,I.base.tups,I.base.frzs,I.base.tbls⟩,⟨_,hn',λj y v' e1 e2 e3=>?_⟩,λy c e=>?_,I.free,I.freeC,λp hp=>?_,tracked ⟨oL,hoL,I.free⟩ hs,by simpa using I.len⟩ ⟨_,hs,.inl rfl⟩
  ·exact (hs.2 b (waM (was (wai e) I.ok.above))).trans (I.base.keep b o e n hb hx)
  ·obtain ⟨sl,e1⟩:=I.base.slot b o e n hb hx;exact ⟨sl,(hs.2 b (waM (was (wai e) I.ok.above))).trans e1⟩
  ·obtain ⟨o',e1⟩:=I.base.there b o e hx;exact ⟨o',(hs.2 b (waM (was (wai e) I.ok.above))).trans e1⟩
  ·by_cases hj:j=i
   ·subst hj;rw[hi] at e1;cases e1;rw[List.getElem?_set_self hiσ] at e2;cases e2;exact ⟨u,r,.inl ⟨hk,xws⟩⟩
   ·rw[List.getElem?_set_ne (Ne.symm hj)] at e2;obtain ⟨u',r',q⟩:=hl j y v' e1 e2 e3;refine ⟨u',r',?_⟩;rcases q with ⟨k,e⟩|⟨k,c,e,z⟩
    ·refine .inl ⟨k,?_⟩;have:y≠x:=λe=>hj (zie hN e1 (e ▸ hi));simp[this,e]
    ·exact .inr ⟨k,c,e,z.sameBut hs (cne y c e)⟩
  ·obtain ⟨w',z⟩:=I.cell y c e;exact ⟨w',z.sameBut hs (cne y c e)⟩
  ·obtain ⟨e,n,ne,nf,d⟩:=I.pin p hp;exact ⟨(hs.2 p.1 ne).trans e,n,ne,nf,d⟩
 ·have hfn:X.fn x=true:=by
   rcases hf with z|z
   ·exact z
   ·rw[z] at hk;cases hk
  obtain ⟨c,hc⟩:=I.ok.has x (.inl hk);obtain ⟨w',z⟩:=I.cell x c hc;refine wpAny_storeName_cell I.ok.kind hk hc z (λh' hc' hs=>?_);obtain ⟨oc,hoc,hocd⟩:=id z;refine h { s with heap:=h' } ⟨I.ok,I.os,I.bare,⟨λb o e n hb hx=>?_,λb o e n hb hx=>?_,I.base.free,λb o e hx=>?_,I.base.tups,I.base.frzs,I.base.tbls⟩,⟨m,hn.sameBut hs (Ne.symm (cne x c hc)),λj y v' e1 e2 e3=>?_⟩,λy c' e=>?_,I.free,I.freeC,λp hp=>?_,tracked ⟨oc,hoc,I.freeC x c hc⟩ hs,by simpa using I.len⟩ ⟨c,hs,.inr hc⟩
  ·exact (hs.2 b (waM (was (wai e) (I.ok.cab x c hfn hc)))).trans (I.base.keep b o e n hb hx)
  ·obtain ⟨sl,e1⟩:=I.base.slot b o e n hb hx;exact ⟨sl,(hs.2 b (waM (was (wai e) (I.ok.cab x c hfn hc)))).trans e1⟩
  ·obtain ⟨o',e1⟩:=I.base.there b o e hx;exact ⟨o',(hs.2 b (waM (was (wai e) (I.ok.cab x c hfn hc)))).trans e1⟩
  ·by_cases hj:j=i
   ·subst hj;rw[hi] at e1;cases e1;rw[List.getElem?_set_self hiσ] at e2;cases e2;exact ⟨u,r,.inr ⟨.inl hk,c,hc,hc'⟩⟩
   ·rw[List.getElem?_set_ne (Ne.symm hj)] at e2;obtain ⟨u',r',q⟩:=hl j y v' e1 e2 e3;refine ⟨u',r',?_⟩;rcases q with q|⟨k,c',e,z'⟩
    ·exact .inl q
    ·refine .inr ⟨k,c',e,z'.sameBut hs ?_⟩;rintro rfl;exact hj (zie hN e1 (I.ok.inj _ _ _ e hc ▸ hi))
  ·by_cases hcc:c'=c
   ·subst hcc;exact ⟨_,hc'⟩
   ·obtain ⟨w2,z2⟩:=I.cell y c' e;exact ⟨w2,z2.sameBut hs hcc⟩
  ·obtain ⟨e,n,ne,nf,d⟩:=I.pin p hp;refine ⟨(hs.2 p.1 ?_).trans e,n,ne,nf,d⟩;intro q;rw[q,hoc] at e;have q':oc=p.2:=waA e;exact d w' (by rw[<- q'];exact hocd)
theorem zih{M:Model}{A:Around}{E:Value->Shared->Prop}{i:Nat}{x:Str}{v:V}{u:Value}{Q:Unit->Shared->Prop}(I:Inv X pS Y H s)(hN:X.N.Nodup)(hi:X.N[i]? = some x)(hx:Loc X.env.scope x)(r:zbO v u)
  (h:∀ s',Inv X pS (Y.set i (some v)) H s'->Q () s') (hf:X.fn x=true\/X.env.scope.names.lookup x=some .local:=by exact xwA):wpAny M A (storeName X.env x u) Q E s :=
 zhd I hN hi hx r (λs' I' _=>h s' I') hf
theorem Inv.call'{s':Shared}{ch:List Addr}(I:Inv X pS Y H s)(ho:s'.os=s.os)(u:Un (frs X.stack) ch H H' s.heap s'.heap)(hok:HOk X.prog X.w H' s'.heap)(hg:AllBare s'.gens)
  (hch:∀ b∈ch,(b∈X.ex\/X.s₀.heap.objs.size<=b)/\b≠X.env.locals/\(∀ x c,X.env.cells.lookup x=some c->c≠b)/\∀ p∈X.pn++pS,p.1≠b):Inv X pS Y H' s':=by
 obtain ⟨h',g',d',t',o'⟩:=s';have e:o'=s.os:=ho;subst e;exact I.call (g':=g') (t':=t') (d':=d') u hok hg hch
end
abbrev XK:=Value->Option Addr->Hp->Prop
abbrev St:=List (Option V)
abbrev VK:=V->Hp->Prop
abbrev TE:=St->Hp->VK->Prop
abbrev TT:=St->Hp->(Bool->Hp->Prop)->Prop
abbrev TA:=St->Hp->(List V->Hp->Prop)->Prop
structure zru where
 nx:St->Hp->Prop
 rt:VK
 bk:St->Hp->Prop:=λ_ _=>False
 ct:St->Hp->Prop:=λ_ _=>False
abbrev TS:=zru->St->Hp->Prop
def EP(X:Cx)(pS:List (Addr×Obj))(Y:St)(Q:VK)(u:Value)(s':Shared):Prop:=∃ v H',Inv X pS Y H' s'/\zbO v u/\Q v H'
def TP(X:Cx)(pS:List (Addr×Obj))(Y:St)(Q:Bool->Hp->Prop)(b:Bool)(s':Shared):Prop:=∃ H',Inv X pS Y H' s'/\Q b H'
def AP(X:Cx)(pS:List (Addr×Obj))(Y:St)(Q:List V->Hp->Prop)(us:List Value)(s':Shared):Prop:=∃ vs H',Inv X pS Y H' s'/\zaW vs us/\Q vs H'
def SP(X:Cx)(pS:List (Addr×Obj))(D:zru)(f:Flow)(s':Shared):Prop :=
 match f with
 |.next=>∃ Y' H',Inv X pS Y' H' s'/\D.nx Y' H'
 |.brk=>∃ Y' H',Inv X pS Y' H' s'/\D.bk Y' H'
 |.cont=>∃ Y' H',Inv X pS Y' H' s'/\D.ct Y' H'
 |.ret u=>∃ v Y' H',Inv X pS Y' H' s'/\zbO v u/\D.rt v H'
def PE(X:Cx)(e:Expr)(t:TE):Prop :=
 ∀(pS:List (Addr×Obj))(s:Shared)(Y:St)(H:Hp)(Q:VK),Inv X pS Y H s->t Y H Q->wpAny (model X.prog X.w) X.A (eval e X.env) (EP X pS Y Q) X.xe s
def PT(X:Cx)(e:Expr)(t:TT):Prop :=
 ∀(pS:List (Addr×Obj))(s:Shared)(Y:St)(H:Hp)(Q:Bool->Hp->Prop),Inv X pS Y H s->t Y H Q->wpAny (model X.prog X.w) X.A (isTrue e X.env (eval e X.env)) (TP X pS Y Q) X.xe s
def PW(X:Cx)(e:Expr)(t:TT):Prop :=
 ∀(whole:Sem Value)(pS:List (Addr×Obj))(s:Shared)(Y:St)(H:Hp)(Q:Bool->Hp->Prop),Inv X pS Y H s->t Y H Q->wpAny (model X.prog X.w) X.A (isTrue e X.env whole) (TP X pS Y Q) X.xe s
theorem PW.pt{X:Cx}{e:Expr}{t:TT}(h:PW X e t):PT X e t:=h _
def PA(X:Cx)(es:List Expr)(t:TA):Prop :=
 ∀(pos:Pos)(pS:List (Addr×Obj))(s:Shared)(Y:St)(H:Hp)(Q:List V->Hp->Prop),Inv X pS Y H s->t Y H Q->wpAny (model X.prog X.w) X.A (spliced (backTo pos (starEach es X.env))) (AP X pS Y Q) X.xe s
def PS(X:Cx)(st:Stmt)(t:TS):Prop :=
 ∀(pS:List (Addr×Obj))(s:Shared)(Y:St)(H:Hp)(D:zru),Inv X pS Y H s->t D Y H->wpAny (model X.prog X.w) X.A (exec st X.env) (SP X pS D) X.xe s
def PSs(X:Cx)(st:List Stmt)(t:TS):Prop :=
 ∀(pS:List (Addr×Obj))(s:Shared)(Y:St)(H:Hp)(D:zru),Inv X pS Y H s->t D Y H->wpAny (model X.prog X.w) X.A (execs st X.env) (SP X pS D) X.xe s
theorem thn{α:Type}{t:Sem α}{Q Q':α->Shared->Prop}{M:Model}{A:Around}{E:Value->Shared->Prop}{s:Shared}(h:wpAny M A t Q E s)(hQ:∀ a s,Q a s->Q' a s):wpAny M A t Q' E s:=wpAny_mono h hQ λ_ _ x=>x
end L2
namespace L2
open PySem PySem.Spec PyProof.Rows
section
variable{X:Cx}
def zwm(i:Nat):TE:=λY H Q=>∃ v,Y[i]? = some (some v)/\Q v H
def tC(v:V):TE:=λ_ H Q=>Q v H
theorem zcq{i:Nat}{x:Str}{pos:Pos}(hN:X.N[i]? = some x)(hv:Vis X.env.scope x)(hd:(x == ("__debug__" : Str))=false:=by decide)(hcd:(x == ("__classdict__" : Str))=false:=by decide):PE X (.Name x pos) (zwm i):=by
 intro pS s Y H Q I h;obtain ⟨v,e,h⟩:=h;obtain ⟨m,hn,hl⟩:=I.loc;obtain ⟨u,r,l⟩:=hl i x v hN e hv;have fin:EP X pS Y Q u s:=⟨v,H,I,r,h⟩
 rcases l with ⟨hk,hm⟩|⟨hk,c,hc,hcell⟩
 ·exact wpAny_Name (wpAny_loadName_local I.ok.kind hk hn hm fin) hd
 ·rcases hk with hk|hk
  ·exact wpAny_Name (wpAny_loadName_cell I.ok.kind hk hc hcell fin) hd
  ·exact wpAny_Name (wpAny_loadName_free I.ok.kind hk hc hcell fin hcd) hd
theorem zrB{i j pos}:PE X (.Constant (.int i) j pos) (tC (.int i)):=λ_ _ _ H _ I h=>wpAny_Constant_int ⟨.int i,H,I.tok _,⟨_,rfl⟩,h⟩
theorem zvx{b j pos}:PE X (.Constant (.bool b) j pos) (tC (.bl b)):=λ_ _ _ H _ I h=>Constant_bool ⟨.bl b,H,I,rfl,h⟩
theorem zuk{j pos}:PE X (.Constant .none j pos) (tC .non):=λ_ _ _ H _ I h=>Constant_none ⟨.non,H,I,rfl,h⟩
theorem zvl{x j pos}:PE X (.Constant (.str x) j pos) (tC (.str x)):=λ_ _ _ H _ I h=>Calls.Constant_str ⟨.str x,H,I.tok _,⟨_,rfl⟩,h⟩
def Gl(X:Cx)(x:Str):Prop:=X.env.kindOf x=some .globalImplicit
theorem zg5{E:Value->Shared->Prop}{pS:List (Addr×Obj)}{s:Shared}{Y:St}{H:Hp}{x:Str}{u:Value}{pos:Pos}{Q:Value->Shared->Prop}(I:Inv X pS Y H s)(hg:Gl X x)(hm:X.mg x=some u)(h:Q u s)
  (hd:(x == ("__debug__" : Str))=false:=by decide):wpAny (model X.prog X.w) X.A (eval (.Name x pos) X.env) Q E s :=
 Calls.Name_function_global I.ok.kind hg (Calls.loadGlobal_global (by rw[I.ok.glob];exact I.mod.glob.keeps I.bk) hm h) hd
theorem zfd{E:Value->Shared->Prop}{pS:List (Addr×Obj)}{s:Shared}{Y:St}{H:Hp}{x:Str}{u:Value}{pos:Pos}{Q:Value->Shared->Prop}(I:Inv X pS Y H s)(hg:Gl X x)(hm:X.mg x=none)(hv:bootBuiltins x=some u)(h:Q u s)
  (hn:x≠"__name__":=by decide) (hd:(x == ("__debug__" : Str))=false:=by decide):wpAny (model X.prog X.w) X.A (eval (.Name x pos) X.env) Q E s:=by
 obtain ⟨mb,h1,h2⟩:=I.mod.blt;exact Calls.Name_function_global I.ok.kind hg (Calls.loadGlobal_builtin (by rw[I.ok.glob];exact I.mod.glob.keeps I.bk) hm (by rw[I.ok.blt];exact h1.keeps I.bk) ((h2 x hn).trans hv) h) hd
theorem znS{x:Str}{v:V}{u:Value}{pos:Pos}(hg:Gl X x)(hm:X.mg x=some u)(r:zbO v u)(hd:(x == ("__debug__" : Str))=false:=by decide):PE X (.Name x pos) (tC v) :=
 λ_ _ _ H _ I h=>zg5 I hg hm ⟨v,H,I,r,h⟩ hd
theorem zi2{x:Str}{v:V}{u:Value}{pos:Pos}(hg:Gl X x)(hm:X.mg x=none)(hv:bootBuiltins x=some u)(r:zbO v u)(hn:x≠"__name__":=by decide)(hd:(x == ("__debug__" : Str))=false:=by decide):PE X (.Name x pos) (tC v) :=
 λ_ _ _ H _ I h=>zfd I hg hm hv ⟨v,H,I,r,h⟩ hn hd
variable{a b:Expr}{ta tb:TE}{pos:Pos}
def tB(t:TE):TT:=λY H Q=>t Y H λx H1=>∃ c,x=.bl c/\Q c H1
theorem ztY{e:Expr}{t:TE}(h:PE X e t)(he:∀ whole,isTrue e X.env whole=(do let v <- whole;standAt e.pos;holding [v] (truthy v)):=by intro _;rfl):PT X e (tB t):=by intro pS s Y H Q I hw;refine isTrue_plain (thn (h pS s Y H _ I hw) λv s1 ⟨x,H1,I1,r1,q1⟩=>?_) (he _);obtain ⟨d,rfl,q⟩:=q1;cases r1;exact wpAny_truthy_bool ⟨H1,I1,q⟩
variable{tA tB':TT}{zbq:List Expr}
def tAnd(t u:TT):TT:=λY H Q=>t Y H λc H1=>if c=true then u Y H1 Q else Q false H1
def tOr(t u:TT):TT:=λY H Q=>t Y H λc H1=>if c=true then Q true H1 else u Y H1 Q
def tNot(t:TT):TT:=λY H Q=>t Y H λc H1=>Q (!c) H1
theorem zsf(ha:PT X a tA):PW X (.BoolOp .And [a] pos) tA:=by
 intro wh pS s Y H Q I h;refine isTrue_and (thn (ha pS s Y H Q I h) λc s1 e=>?_);cases c with
 |true=>exact isTrue_and_nil e
 |false=>exact e
theorem zud(ha:PT X a tA):PW X (.BoolOp .Or [a] pos) tA:=by
 intro wh pS s Y H Q I h;refine isTrue_or (thn (ha pS s Y H Q I h) λc s1 e=>?_);cases c with
 |false=>exact isTrue_or_nil e
 |true=>exact e
theorem zu4(ha:PT X a tA)(hb:PW X (.BoolOp .And (b::zbq) pos) tB'):PW X (.BoolOp .And (a::b::zbq) pos) (tAnd tA tB'):=by
 intro wh pS s Y H Q I h;refine isTrue_and (thn (ha pS s Y H _ I h) λc s1 ⟨H1,I1,q1⟩=>?_);cases c with
 |true=>exact hb wh pS s1 Y H1 Q I1 q1
 |false=>exact ⟨H1,I1,q1⟩
theorem zvW(ha:PT X a tA)(hb:PW X (.BoolOp .Or (b::zbq) pos) tB'):PW X (.BoolOp .Or (a::b::zbq) pos) (tOr tA tB'):=by
 intro wh pS s Y H Q I h;refine isTrue_or (thn (ha pS s Y H _ I h) λc s1 ⟨H1,I1,q1⟩=>?_);cases c with
 |true=>exact ⟨H1,I1,q1⟩
 |false=>exact hb wh pS s1 Y H1 Q I1 q1
theorem zuy(ha:PT X a tA):PT X (.UnaryOp .Not a pos) (tNot tA):=by intro pS s Y H Q I h;exact isTrue_not (ha pS s Y H (λc H1=>Q (!c) H1) I h)
def zwd(ta tb:TE):TE:=λY H Q=>ta Y H λx H1=>∃ c,x=.bl c/\if c=true then tb Y H1 Q else Q (.bl false) H1
def tOrV(ta tb:TE):TE:=λY H Q=>ta Y H λx H1=>∃ c,x=.bl c/\if c=true then Q (.bl true) H1 else tb Y H1 Q
def zvP(ta:TE):TE:=λY H Q=>ta Y H λx H1=>∃ c,x=.bl c/\Q (.bl (!c)) H1
theorem zuh{op}{t:TE}(h:PE X a t):PE X (.BoolOp op [a] pos) t:=λpS s Y H Q I hw=>BoolOp_one (h pS s Y H Q I hw)
theorem zvp(ha:PE X a ta)(hb:PE X (.BoolOp .And (b::zbq) pos) tb):PE X (.BoolOp .And (a::b::zbq) pos) (zwd ta tb):=by
 intro pS s Y H Q I h;refine BoolOp_and (thn (ha pS s Y H _ I h) λv s1 ⟨x,H1,I1,r1,q1⟩=>?_);obtain ⟨c,rfl,q1⟩:=q1;cases r1;refine wpAny_truthy_bool ?_;cases c with
 |true=>exact hb pS s1 Y H1 Q I1 q1
 |false=>exact ⟨.bl false,H1,I1,rfl,q1⟩
theorem zvJ(ha:PE X a ta)(hb:PE X (.BoolOp .Or (b::zbq) pos) tb):PE X (.BoolOp .Or (a::b::zbq) pos) (tOrV ta tb):=by
 intro pS s Y H Q I h;refine BoolOp_or (thn (ha pS s Y H _ I h) λv s1 ⟨x,H1,I1,r1,q1⟩=>?_);obtain ⟨c,rfl,q1⟩:=q1;cases r1;refine wpAny_truthy_bool ?_;cases c with
 |false=>exact hb pS s1 Y H1 Q I1 q1
 |true=>exact ⟨.bl true,H1,I1,rfl,q1⟩
theorem ztN(ha:PE X a ta):PE X (.UnaryOp .Not a pos) (zvP ta):=by intro pS s Y H Q I h;refine UnaryOp_ (thn (ha pS s Y H _ I h) λv s1 ⟨x,H1,I1,r1,q1⟩=>?_);obtain ⟨c,rfl,q1⟩:=q1;cases r1;exact not_of (wpAny_truthy_bool ⟨.bl (!c),H1,I1,rfl,q1⟩)
end
end L2
namespace L2
open PySem PySem.Spec PyProof.Rows
def SqL(K:W.Frag)(H:Hp)(a:Addr)(xs:List V):Prop :=
 Rd H a (.lst xs) \/
  ∃(o:Obj)(its:Array Value)(n:Nat),K.lookup a=some o/\o.cls=.type "list"/\o.dict=none/\o.data=.seq its n/\its.size<=sizeLine/\zaW xs its.toList
def SqT(K:W.Frag)(H:Hp)(a:Addr)(xs:List V):Prop :=
 Rd H a (.tup xs) \/
  ∃(o:Obj)(its:Array Value)(n:Nat),K.lookup a=some o/\o.cls=.type "tuple"/\o.data=.seq its n/\its.size<=sizeLine/\zaW xs its.toList
def absV:Value->Option V
 |.none=>some .non
 |.bool b=>some (.bl b)
 |.int i _=>some (.int i)
 |.str x _=>some (.str x)
 |.bytes b _=>some (.byt b)
 |.float b _=>some (.flt b)
 |.ref a=>some (.ref a)
 |.type n=>some (.ty n)
 |_=>none
theorem zbO.abs{x:V}{u:Value}(r:zbO x u):absV u=some x:=by
 cases x with
 |non=>cases r;rfl
 |bl _=>cases r;rfl
 |int _=>obtain ⟨t,rfl⟩:=r;rfl
 |str _=>obtain ⟨t,rfl⟩:=r;rfl
 |byt _=>obtain ⟨t,rfl⟩:=r;rfl
 |flt _=>obtain ⟨t,rfl⟩:=r;rfl
 |ref _=>cases r;rfl
 |ty _=>cases r;rfl
theorem zbO.inj{x y:V}{u:Value}(r:zbO x u)(q:zbO y u):x=y:=waA (r.abs.symm.trans q.abs)
theorem zaW.inj:∀{xs ys:List V}{us:List Value},zaW xs us->zaW ys us->xs=ys
 |_,_,_,.nil,.nil=>rfl
 |_,_,_,.cons r t,.cons r' t'=>by rw[r.inj r',zaW.inj t t']
section
variable{X:Cx}{pS:List (Addr×Obj)}{Y:St}{H:Hp}{s:Shared}{a:Addr}{xs ys:List V}
theorem SqL.of{K:W.Frag}(h:H a=some (.lst xs)):SqL K H a xs:=.inl (.inl h)
theorem SqT.of{K:W.Frag}(h:H a=some (.tup xs)):SqT K H a xs:=.inl (.inl h)
theorem Inv.list(I:Inv X pS Y H s)(h:SqL X.K H a xs):∃ its:List Value,zaW xs its/\PlainL s.heap a its.toArray/\xs.length<=sizeLine:=by
 rcases h with h|⟨o,its,n,hk,hc,hd,hs,hz,r⟩
 ·obtain ⟨z,its,n,r,e⟩:=h.ok I.hok;exact ⟨its,r,⟨_,n,e,rfl,rfl,rfl⟩,z⟩
 ·refine ⟨its.toList,r,⟨o,n,I.kIn a o hk,hc,hd,by simpa using hs⟩,?_⟩;have e:=r.length;simp only[Array.length_toList] at e;omega
theorem Inv.tuple(I:Inv X pS Y H s)(h:SqT X.K H a xs):∃ its:List Value,zaW xs its/\IsTup s.heap a its.toArray/\xs.length<=sizeLine:=by
 rcases h with h|⟨o,its,n,hk,hc,hs,hz,r⟩
 ·obtain ⟨z,its,r,n,e⟩:=h.ok I.hok;exact ⟨its,r,⟨_,e,rfl,n,rfl⟩,z⟩
 ·refine ⟨its.toList,r,⟨o,I.kIn a o hk,hc,n,by simpa using hs⟩,?_⟩;have e:=r.length;simp only[Array.length_toList] at e;omega
theorem Inv.list_inj(I:Inv X pS Y H s)(h:SqL X.K H a xs)(h':SqL X.K H a ys):xs=ys:=by
 obtain ⟨its,r,⟨o,n,e,_,_,d⟩,_⟩:=I.list h;obtain ⟨its',r',⟨o',n',e',_,_,d'⟩,_⟩:=I.list h';rw[e] at e';cases e';rw[d] at d';injection d' with d1 _;have:its=its':=by simpa using congrArg Array.toList d1
 subst this;exact r.inj r'
theorem Inv.tuple_inj(I:Inv X pS Y H s)(h:SqT X.K H a xs)(h':SqT X.K H a ys):xs=ys:=by
 obtain ⟨its,r,⟨o,e,_,n,d⟩,_⟩:=I.tuple h;obtain ⟨its',r',⟨o',e',_,n',d'⟩,_⟩:=I.tuple h';rw[e] at e';cases e';rw[d] at d';injection d' with d1 _;have:its=its':=by simpa using congrArg Array.toList d1
 subst this;exact r.inj r'
end
abbrev Cx.wish(X:Cx)(E:Value->Shared->Prop):Cx:={ X with xe:=E }
abbrev Cx.nox(X:Cx):Cx:=X.wish λ_ _=>False
theorem Cx.Ok.wish{X:Cx}(ok:X.Ok)(E:Value->Shared->Prop):(X.wish E).Ok :=
 ⟨ok.mod,ok.kind,ok.glob,ok.blt,ok.above,ok.inj,ok.has,ok.cab,ok.hd,ok.frames,ok.stk,ok.exf,ok.bs,ok.bsz,ok.noex,ok.exfs,ok.funs,ok.frf⟩
theorem Cx.Ok.unwish{X:Cx}{E:Value->Shared->Prop}(ok:(X.wish E).Ok):X.Ok :=
 ⟨ok.mod,ok.kind,ok.glob,ok.blt,ok.above,ok.inj,ok.has,ok.cab,ok.hd,ok.frames,ok.stk,ok.exf,ok.bs,ok.bsz,ok.noex,ok.exfs,ok.funs,ok.frf⟩
section
variable{X:Cx}{pS:List (Addr×Obj)}{Y:St}{H:Hp}{s:Shared}{E:Value->Shared->Prop}
theorem Inv.wish(I:Inv X pS Y H s)(E:Value->Shared->Prop):Inv (X.wish E) pS Y H s:=⟨I.ok.wish E,I.os,I.bare,I.base,I.loc,I.cell,I.free,I.freeC,I.pin,I.hok,I.len⟩
theorem Inv.unwish(I:Inv (X.wish E) pS Y H s):Inv X pS Y H s:=⟨I.ok.unwish,I.os,I.bare,I.base,I.loc,I.cell,I.free,I.freeC,I.pin,I.hok,I.len⟩
theorem SP.unwish{D:zru}{f:Flow}{s':Shared}(h:SP (X.wish E) pS D f s'):SP X pS D f s':=by
 cases f with
 |next=>obtain ⟨Y',H',I,q⟩:=h;exact ⟨Y',H',I.unwish,q⟩
 |brk=>obtain ⟨Y',H',I,q⟩:=h;exact ⟨Y',H',I.unwish,q⟩
 |cont=>obtain ⟨Y',H',I,q⟩:=h;exact ⟨Y',H',I.unwish,q⟩
 |ret u=>obtain ⟨v,Y',H',I,r,q⟩:=h;exact ⟨v,Y',H',I.unwish,r,q⟩
theorem PE.nox{e:Expr}{t:TE}(h:PE X.nox e t):PE X e t:=λpS s Y H Q I hw =>
 wpAny_mono (h pS s Y H Q (I.wish _) hw) (λ_ _ ⟨v,H',I',r,q⟩=>⟨v,H',I'.unwish,r,q⟩) λ_ _ z=>waO z
theorem PT.nox{e:Expr}{t:TT}(h:PT X.nox e t):PT X e t:=λpS s Y H Q I hw =>
 wpAny_mono (h pS s Y H Q (I.wish _) hw) (λ_ _ ⟨H',I',q⟩=>⟨H',I'.unwish,q⟩) λ_ _ z=>waO z
theorem PSs.nox{st:List Stmt}{t:TS}(h:PSs X.nox st t):PSs X st t:=λpS s Y H D I hw =>
 wpAny_mono (h pS s Y H D (I.wish _) hw) (λ_ _ q=>q.unwish) λ_ _ z=>waO z
end
section
variable{X:Cx}{st:Stmt}{zbq:List Stmt}{t u:TS}{e:Expr}{te:TE}{pos:Pos}
def zvC:TS:=λD Y H=>D.nx Y H
def tSeq(t u:TS):TS:=λD Y H=>t { D with nx:=u D } Y H
theorem zsg:PSs X [] zvC:=λ_ _ Y H _ I h=>wpAny_execs_nil ⟨Y,H,I,h⟩
theorem zqF(h1:PS X st t)(h2:PSs X zbq u):PSs X (st::zbq) (tSeq t u):=by
 intro pS s Y H D I h;refine wpAny_execs_cons (thn (h1 pS s Y H { D with nx:=u D } I h) λf s1 q=>?_);cases f with
 |next =>
  obtain ⟨Y',H',I',q⟩:=q;exact h2 pS s1 Y' H' D I' q
 |ret v=>exact q
 |brk=>exact q
 |cont=>exact q
theorem znu(h1:PS X st t):PSs X [st] t:=by
 intro pS s Y H D I h;refine wpAny_execs_cons (thn (h1 pS s Y H D I h) λf s1 q=>?_);cases f with
 |next=>exact wpAny_execs_nil q
 |ret v=>exact q
 |brk=>exact q
 |cont=>exact q
theorem Inv.quiet{pS:List (Addr×Obj)}{Y:St}{H:Hp}{s:Shared}(I:Inv X pS Y H s):interactive X.env=false:=by simp[interactive,I.ok.kind]
def zvV(te:TE):TS:=λD Y H=>te Y H λ_ H1=>D.nx Y H1
theorem zsb(he:PE X e te)(hs:swapsWith e none pos.line X.env=pure false:=by rfl):PS X (.Expr e pos) (zvV te):=by intro pS s Y H D I h;exact wpAny_Expr_any (thn (he pS s Y H _ I h) λv s1 ⟨x,H1,I1,r1,q1⟩=>⟨Y,H1,I1,q1⟩) I.quiet hs
def tRet(te:TE):TS:=λD Y H=>te Y H D.rt
theorem zrG(he:PE X e te):PS X (.Return (some e) pos) (tRet te):=by intro pS s Y H D I h;exact wpAny_Return_some (thn (he pS s Y H _ I h) λv s1 ⟨x,H1,I1,r1,q1⟩=>⟨x,Y,H1,I1,r1,q1⟩)
def tIfS(c:TT)(t u:TS):TS:=λD Y H=>c Y H λb H1=>if b=true then t D Y H1 else u D Y H1
theorem zvO{c:Expr}{a b:List Stmt}{tc:TT}(hc:PT X c tc)(ha:PSs X a t)(hb:PSs X b u):PS X (.If c a b pos) (tIfS tc t u):=by
 intro pS s Y H D I h;refine wpAny_If (thn (hc pS s Y H _ I h) λd s1 ⟨H1,I1,q1⟩=>?_);cases d with
 |true=>exact ha pS s1 Y H1 D I1 q1
 |false=>exact hb pS s1 Y H1 D I1 q1
end
abbrev TG:=V->St->Hp->(St->Hp->Prop)->Prop
abbrev TGs:=List V->St->Hp->(St->Hp->Prop)->Prop
def PG(X:Cx)(target:Expr)(t:TG):Prop :=
 ∀(pS:List (Addr×Obj))(s:Shared)(Y:St)(H:Hp)(v:V)(u:Value)(Q:St->Hp->Prop),Inv X pS Y H s->zbO v u->t v Y H Q ->
  wpAny (model X.prog X.w) X.A (assign target X.env u) (λ_ s'=>∃ Y' H',Inv X pS Y' H' s'/\Q Y' H') X.xe s
def PGs(X:Cx)(ts:List Expr)(t:TGs):Prop :=
 ∀(pS:List (Addr×Obj))(s:Shared)(Y:St)(H:Hp)(vs:List V)(us:List Value)(Q:St->Hp->Prop),Inv X pS Y H s->zaW vs us->t vs Y H Q ->
  wpAny (model X.prog X.w) X.A (assignInOrder ((assignEach ts X.env).map (·.2)) us) (λ_ s'=>∃ Y' H',Inv X pS Y' H' s'/\Q Y' H') X.xe s
abbrev zwn:=V->V->V->Hp->(Hp->Prop)->Prop
def PSet(X:Cx)(t:zwn):Prop :=
 ∀(pS:List (Addr×Obj))(s:Shared)(Y:St)(H:Hp)(o i v:V)(ov iv u:Value)(Q:Hp->Prop),Inv X pS Y H s->zbO o ov->zbO i iv->zbO v u->t o i v H Q ->
  wpAny (model X.prog X.w) X.A (setItem ov iv u) (λ_ s'=>∃ H',Inv X pS Y H' s'/\Q H') X.xe s
section
variable{X:Cx}{pos:Pos}
def zum(i:Nat):TG:=λv Y H Q=>Q (Y.set i (some v)) H
theorem zkI{i:Nat}{x:Str}(hN:X.N.Nodup)(hi:X.N[i]? = some x)(hx:Loc X.env.scope x)(hf:X.fn x=true\/X.env.scope.names.lookup x=some .local:=by exact xwA):PG X (.Name x pos) (zum i):=by intro pS s Y H v u Q I r h;exact wpAny_assign_Name (zih I hN hi hx r (λs' I'=>⟨_,H,I',h⟩) hf)
def gNil:TGs:=λvs Y H Q=>vs=[]/\Q Y H
def zvS(t:TG)(u:TGs):TGs:=λvs Y H Q=>∃ v r,vs=v::r/\t v Y H λY' H'=>u r Y' H' Q
theorem zs3:PGs X [] gNil:=by intro pS s Y H vs us Q I r h;obtain ⟨e,h⟩:=h;subst e;cases r;exact assignInOrder_nil ⟨Y,H,I,h⟩
theorem zlT{e:Expr}{es:List Expr}{t:TG}{u:TGs}(h1:PG X e t)(h2:PGs X es u)
  (hs:(assignEach (e::es) X.env).map (·.2)=assign e X.env::(assignEach es X.env).map (·.2):=by rfl):PGs X (e::es) (zvS t u):=by
 intro pS s Y H vs us Q I r h;obtain ⟨v,vr,e1,h⟩:=h;subst e1;cases r with
 |cons r rr =>
  rw[hs];refine assignInOrder_cons (thn (h1 pS s Y H _ _ _ I r h) λ_ s1 ⟨Y1,H1,I1,q1⟩=>?_);exact h2 pS s1 Y1 H1 _ _ Q I1 rr q1
def gTup(K:W.Frag)(n:Nat)(t:TGs):TG:=λv Y H Q=>∃ a xs,v=.ref a/\SqT K H a xs/\xs.length=n/\t xs Y H Q
theorem ztT{es:List Expr}{k:Nat}{t:TGs}{n:Nat}(hc:X.calm=true)(h:PGs X es t)
  (hn:(assignEach es X.env).length=n:=by rfl) (hst:(assignEach es X.env).findIdx? (·.1)=none:=by rfl):PG X (.Tuple es k pos) (gTup X.K n t):=by
 intro pS s Y H v u Q I r hw;obtain ⟨a,xs,e1,hq,hl,hw⟩:=hw;subst e1;cases r;obtain ⟨its,rv,ht,hz⟩:=I.tuple hq;refine assign_Tuple_tuple (I.ok.hd hc) ht (by simp[hn,<- hl,rv.length]) hst λh' hx=>?_;have I1:Inv X pS Y H { s with heap:=h' }:=I.kept (t':=s.toks) λb o e=>hx b o (waM (wai e)) e;exact h pS _ Y H xs _ Q I1 (by simpa using rv) hw
def zm6(to ti:TE)(t:zwn):TG:=λv Y H Q=>to Y H λo H1=>ti Y H1 λi H2=>t o i v H2 λH3=>Q Y H3
theorem zuG{o i:Expr}{to ti:TE}{t:zwn}(ho:PE X o to)(hi:PE X i ti)(hs:PSet X t)
  (ha:∀ v,assign (.Subscript o i pos) X.env v=(do
   let ov <- holding [v] (eval o X.env);let iv <- holding [v,ov] (eval i X.env)
   standAt pos
   holding [v,ov,iv] (setItem ov iv v)
   release [v,ov,iv] []):=by intro _;rfl):PG X (.Subscript o i pos) (zm6 to ti t):=by
 intro pS s Y H v u Q I r h;rw[ha];refine wab (wpAny_holding (thn (ho pS s Y H _ I h) λov s1 ⟨x,H1,I1,r1,q1⟩=>?_));refine wab (wpAny_holding (thn (hi pS s1 Y H1 _ I1 q1) λiv s2 ⟨y,H2,I2,r2,q2⟩=>?_));refine wab (wpAny_standAt (wab (wpAny_holding (thn (hs pS s2 Y H2 x y v ov iv u _ I2 r1 r2 r q2) λ_ s3 ⟨H3,I3,q3⟩=>?_))));exact wpAny_release ⟨Y,H3,I3,q3⟩
def tAsg(te:TE)(g:TG):TS:=λD Y H=>te Y H λx H1=>g x Y H1 D.nx
theorem zul{tg e:Expr}{te:TE}{g:TG}(he:PE X e te)(hg:PG X tg g)(hs:swapsWithSole [tg] e pos.line X.env=pure false:=by rfl)(hw:swappedStores [tg] e X.env=pure none:=by rfl)
  (h1:(assignEach [tg] X.env).map (·.2)=[assign tg X.env]:=by rfl):PS X (.Assign [tg] e pos) (tAsg te g):=by
 intro pS s Y H D I h;refine wpAny_Assign_stores (thn (he pS s Y H _ I h) λv s1 ⟨x,H1,I1,r1,q1⟩=>?_) hs hw;rw[h1];exact thn (hg pS s1 Y H1 x v _ I1 r1 q1) λ_ s2 q=>q
theorem zpe{i:Nat}{x:Str}{e:Expr}{te:TE}{pos':Pos}(hN:X.N.Nodup)(hi:X.N[i]? = some x)(hx:Loc X.env.scope x)(he:PE X e te)(hs:swapsWith e (some (.Name x pos')) pos.line X.env=pure false:=by rfl)(hf:X.fn x=true\/X.env.scope.names.lookup x=some .local:=by exact xwA) :
  PS X (.Assign [.Name x pos'] e pos) (tAsg te (zum i)):=by
 intro pS s Y H D I h;refine wpAny_Assign_Name (thn (he pS s Y H _ I h) λv s1 ⟨y,H1,I1,r1,q1⟩=>?_) hs;exact zih I1 hN hi hx r1 (λs2 I2=>⟨_,H1,I2,q1⟩) hf
end
section
variable{X:Cx}{pos:Pos}
def zvo(c:TT)(tb:TS):TS:=λD Y H=>∃ W:Nat->St->Hp->Prop,(∃ m,W m Y H)/\∀ m Y H,W m Y H ->
 c Y H λb H1=>if b=true then ∃ N:St->Hp->Prop,(∀ Y' H',N Y' H'->∃ m',m'<m/\W m' Y' H')/\tb { D with nx:=N,ct:=N,bk:=D.nx } Y H1 else D.nx Y H1
theorem zp0{c:Expr}{body:List Stmt}{tc:TT}{tb:TS}(hp:PassesOwn (model X.prog X.w) X.A X.env X.xe)(hc:PT X c tc)(hb:PSs X body tb):PS X (.While c body [] pos) (zvo tc tb):=by
 intro pS s Y H D I h;obtain ⟨W,⟨m0,w0⟩,turn⟩:=h;refine wpAny_While (codeAny_whileLoop (λn s'=>∃ Y' H',Inv X pS Y' H' s'/\W n Y' H') ?_ m0 ⟨Y,H,I,w0⟩);rintro n s1 ⟨Y1,H1,I1,w1⟩;refine wpAny_passesOwn hp (thn (hc pS s1 Y1 H1 _ I1 (turn n Y1 H1 w1)) λb s2 ⟨H2,I2,q2⟩=>?_);cases b with
 |true =>
  obtain ⟨N,hN,q2⟩:=q2;rw[if_pos rfl];refine wpAny_passesOwn hp (thn (hb pS s2 Y1 H2 _ I2 q2) λf s3 q3=>?_);cases f with
  |next =>
   obtain ⟨Y3,H3,I3,n3⟩:=q3;obtain ⟨m',hm,w3⟩:=hN Y3 H3 n3;exact ⟨m',hm,Y3,H3,I3,w3⟩
  |cont =>
   obtain ⟨Y3,H3,I3,n3⟩:=q3;obtain ⟨m',hm,w3⟩:=hN Y3 H3 n3;exact ⟨m',hm,Y3,H3,I3,w3⟩
  |brk=>exact q3
  |ret v=>exact q3
 |false =>
  rw[if_neg Bool.false_ne_true];exact wpAny_execs_nil ⟨Y1,H2,I2,q2⟩
end
structure It where
 go:Nat->Hp->Prop
 yld:Nat->Hp->V->Hp->Prop
 stop:Nat->Hp->Prop
def zhO(X:Cx)(pS:List (Addr×Obj))(H:Hp)(b:Addr):Prop :=
 H b=none/\b≠X.env.locals/\b∉X.fs/\(b∈X.ex\/X.s₀.heap.objs.size<=b)/\(∀ x c,X.env.cells.lookup x=some c->c≠b)/\∀ p∈X.pn++pS,p.1≠b
theorem Inv.fpOk{X:Cx}{pS:List (Addr×Obj)}{Y:St}{H H':Hp}{s:Shared}{b:Addr}(I:Inv X pS Y H s)(hb:s.heap.objs.size<=b)(hn:H' b=none):zhO X pS H' b:=by
 refine ⟨hn,Nat.ne_of_gt (was I.lt hb),I.nofs hb,.inr (waN I.sz hb),λx c e z=>?_,λp hp z=>?_⟩
 ·obtain ⟨v,q⟩:=I.cell x c e;exact absurd (was q.lt (by rw[z];exact hb)) (waL _)
 ·exact absurd (was (wai (I.pin p hp).1) (by rw[z];exact hb)) (waL _)
structure zpq(P:Program)(w:World)(K:W.Frag)(tg:Expr)(J:It)(fp:List Addr)(it:Addr)(tn:Nat->Heap->Prop):Prop where
 mem:it∈fp
 obj:∀ i h,tn i h->∀ b∈fp,∃ o,h.get? b=some o/\∀ v,o.data≠.cell v
 keep:∀ i h h',tn i h->(∀ b∈fp,∀ o,h.get? b=some o->h'.get? b=some o)->tn i h'
 item:∀(X:Cx),X.prog=P->X.w=w->X.K=K->X.calm=true->∀(i:Nat)(pS:List (Addr×Obj))(s:Shared)(Y:St)(H:Hp)(E:Value->Shared->Prop),Inv X pS Y H s->(∀ b∈fp,zhO X pS H b)->tn i s.heap->J.go i H ->
  wpAny (model P w) X.A (pyNext (.ref it)) (λr s1=>∃ u,r=some u /\
   wpAny (model P w) X.A (letOwnedTupleGo tg (.ref it) u) (λ_ s2=>∃ x H',Inv X pS Y H' s2/\zbO x u/\J.yld i H x H'/\tn (i+1) s2.heap/\∀ b∈fp,H' b=none) E s1) E s
 done:∀(X:Cx),X.prog=P->X.w=w->X.K=K->X.calm=true->∀(i:Nat)(pS:List (Addr×Obj))(s:Shared)(Y:St)(H:Hp)(E:Value->Shared->Prop),Inv X pS Y H s->(∀ b∈fp,zhO X pS H b)->tn i s.heap->J.stop i H ->
  wpAny (model P w) X.A (pyNext (.ref it)) (λr s1=>r=none/\Inv X pS Y H s1) E s
 self:∀(A:Around)(i:Nat)(s:Shared)(Q:Value->Shared->Prop)(E:Value->Shared->Prop),tn i s.heap->Q (.ref it) s->wpAny (model P w) A (pyIter (.ref it)) Q E s
abbrev TI:=St->Hp->(It->Hp->Prop)->Prop
def PIE(X:Cx)(pS:List (Addr×Obj))(Y:St)(tg:Expr)(R:It->Hp->Prop)(itv:Value)(s2:Shared):Prop :=
 ∃(it:Addr)(fp:List Addr)(tn:Nat->Heap->Prop)(J:It)(H':Hp),itv=.ref it/\Inv X pS Y H' s2/\zpq X.prog X.w X.K tg J fp it tn/\tn 0 s2.heap/\(∀ b∈fp,zhO X pS H' b)/\R J H'
def PI(X:Cx)(tg iter:Expr)(wi:TI):Prop :=
 ∀(pS:List (Addr×Obj))(s:Shared)(Y:St)(H:Hp)(R:It->Hp->Prop),Inv X pS Y H s->wi Y H R ->
  wpAny (model X.prog X.w) X.A (eval iter X.env) (λv s1=>wpAny (model X.prog X.w) X.A (pyIter v) (PIE X pS Y tg R) X.xe s1) X.xe s
theorem zs6{M:Model}{A:Around}{E:Value->Shared->Prop}{s:Shared}{tg:Expr}{it:Addr}{u:Value}{o:Obj}{n:String}{vs:Array Value}{Q:Unit->Shared->Prop}(ho:s.heap.get? it=some o)(hc:o.cls=.type n)(hd:o.data=.fields vs)
  (hn:["enumerate","zip","dict_itemiterator","dict_reverseitemiterator","odict_iterator","itertools.zip_longest","itertools.pairwise"].contains n=false) (hQ:Q () s):wpAny M A (letOwnedTupleGo tg (.ref it) u) Q E s:=by
 unfold letOwnedTupleGo;cases tg <;> first
  |exact wad hQ
  | (cases u <;> first
    |exact wad hQ
    | (refine wab (wpAny_load ho ?_)
       rw[hc,hd];show wpAny M A (if (["enumerate","zip","dict_itemiterator","dict_reverseitemiterator","odict_iterator","itertools.zip_longest","itertools.pairwise"].contains n && vs[0]? == some (rawInt _))=true then _ else _) Q E s;rw[if_neg (by intro h;rw[hn,Bool.false_and] at h;cases h)];exact wad hQ))
def Itl(K:W.Frag)(a:Addr):It :=
 ⟨λi H=>∃ xs x,SqL K H a xs/\xs[i]? = some x,λi H x H'=>H'=H/\∀ xs,SqL K H a xs->xs[i]? = some x,λi H=>∃ xs,SqL K H a xs/\xs.length<=i⟩
def Itt(K:W.Frag)(a:Addr):It :=
 ⟨λi H=>∃ xs x,SqT K H a xs/\xs[i]? = some x,λi H x H'=>H'=H/\∀ xs,SqT K H a xs->xs[i]? = some x,λi H=>∃ xs,SqT K H a xs/\xs.length<=i⟩
def Itr(lo:Int)(n:Nat):It:=⟨λi _=>i<n,λi H x H'=>H'=H/\x=.int (lo+i),λi _=>n<=i⟩
theorem znl{P:Program}{w:World}{K:W.Frag}{tg:Expr}(a it:Addr):zpq P w K tg (Itl K a) [it] it (λi h=>h.IsListIter it a i) where
 mem:=by simp
 obj:=λi h st b hb=>by
  have e:b=it:=by simpa using hb
  subst e;obtain ⟨o,e,c,d⟩:=st;exact ⟨o,e,λv z=>by rw[d] at z;cases z⟩
 keep:=λi h h' st k=>st.at λo e=>k it xws o e
 item:=by intro X hP hw hK hc i pS s Y H E I hf st hg;subst hP hw hK;obtain ⟨xs,x,hq,hx⟩:=hg;obtain ⟨its,rv,p,hz⟩:=I.list hq;obtain ⟨u,hu,ru⟩:=rv.get hx;obtain ⟨f0,f1,f2,f3,f4,f5⟩:=hf it xws;refine wpAny_pyNext_list_item st p.isList (x:=u) (by simpa using hu) λh' st' sb=>?_;have I1:Inv X pS Y H { s with heap:=h' }:=I.turned (t':=s.toks) (λb o hb e=>(sb.2 b hb).trans e) f0 f1 f3 f4 f5;obtain ⟨o,e,c,d⟩:=id st';exact ⟨u,rfl,zs6 (s:={ s with heap:=h' }) e c d xwd ⟨x,H,I1,ru,⟨rfl,λys hy=>by rw[I.list_inj hy hq];exact hx⟩,st',λb hb=>(hf b hb).1⟩⟩
 done:=by intro X hP hw hK hc i pS s Y H E I hf st hg;subst hP hw hK;obtain ⟨xs,hq,hx⟩:=hg;obtain ⟨its,rv,p,hz⟩:=I.list hq;obtain ⟨f0,f1,f2,f3,f4,f5⟩:=hf it xws;have hl:=rv.length;exact wpAny_pyNext_list_end (I.ok.hd hc) st p.isList (by simp;omega) λh' eb=>⟨rfl,I.turned (t':=s.toks) (λb o hb e=>eb b o hb e) f0 f1 f3 f4 f5⟩
 self:=λ_ _ _ _ _ st h=>wpAny_pyIter_listiter st h
theorem zmW{P:Program}{w:World}{K:W.Frag}{tg:Expr}(a it:Addr):zpq P w K tg (Itt K a) [it] it (λi h=>h.IsTupleIter it a i) where
 mem:=by simp
 obj:=λi h st b hb=>by
  have e:b=it:=by simpa using hb
  subst e;obtain ⟨o,e,c,d⟩:=st;exact ⟨o,e,λv z=>by rw[d] at z;cases z⟩
 keep:=λi h h' st k=>st.at λo e=>k it xws o e
 item:=by intro X hP hw hK hc i pS s Y H E I hf st hg;subst hP hw hK;obtain ⟨xs,x,hq,hx⟩:=hg;obtain ⟨its,rv,p,hz⟩:=I.tuple hq;obtain ⟨u,hu,ru⟩:=rv.get hx;obtain ⟨f0,f1,f2,f3,f4,f5⟩:=hf it xws;refine wpAny_pyNext_tuple_item st (show s.heap.IsTuple a its.toArray from p) (x:=u) (by simpa using hu) λh' st' sb=>?_;have I1:Inv X pS Y H { s with heap:=h' }:=I.turned (t':=s.toks) (λb o hb e=>(sb.2 b hb).trans e) f0 f1 f3 f4 f5;obtain ⟨o,e,c,d⟩:=id st';exact ⟨u,rfl,zs6 (s:={ s with heap:=h' }) e c d xwd ⟨x,H,I1,ru,⟨rfl,λys hy=>by rw[I.tuple_inj hy hq];exact hx⟩,st',λb hb=>(hf b hb).1⟩⟩
 done:=by intro X hP hw hK hc i pS s Y H E I hf st hg;subst hP hw hK;obtain ⟨xs,hq,hx⟩:=hg;obtain ⟨its,rv,p,hz⟩:=I.tuple hq;obtain ⟨f0,f1,f2,f3,f4,f5⟩:=hf it xws;have hl:=rv.length;exact wpAny_pyNext_tuple_end (I.ok.hd hc) st (show s.heap.IsTuple a its.toArray from p) (by simp;omega) λh' eb=>⟨rfl,I.turned (t':=s.toks) (λb o hb e=>eb b o hb e) f0 f1 f3 f4 f5⟩
 self:=λ_ _ _ _ _ st h=>wpAny_pyIter_tupleiter st h
theorem zmQ{P:Program}{w:World}{K:PySem.W.Frag}{tg:Expr}(it:Addr)(lo:Int)(n:Nat):zpq P w K tg (Itr lo n) [it] it (λi h=>IsRangeIter h it (lo+(i:Nat) * 1) ((n:Int)-(i:Nat)) 1) where
 mem:=by simp
 obj:=λi h st b hb=>by
  have e:b=it:=by simpa using hb
  subst e;exact ⟨_,st,λv z=>by have z':Data.fields _=Data.cell v:=z;cases z'⟩
 keep:=λi h h' st k=>k it xws _ st
 item:=by intro X hP hw hK hc i pS s Y H E I hf st hg;subst hP hw hK;obtain ⟨f0,f1,f2,f3,f4,f5⟩:=hf it xws;have W:=Walks.range (prog:=X.prog) (w:=X.w) (I.ok.hd hc) it lo 1 n;refine W.item i s _ _ hg st λv h' tk hv st' kk=>?_;obtain ⟨t,rfl⟩:=hv;have I1:Inv X pS Y H { s with heap:=h',toks:=tk }:=I.turned (λb o hb e=>kk b o (by simpa using hb) e) f0 f1 f3 f4 f5;refine ⟨_,rfl,zs6 (s:={ s with heap:=h',toks:=tk }) (n:="range_iterator") st' rfl rfl xwd ⟨.int (lo+i),H,I1,⟨t,?_⟩,⟨rfl,rfl⟩,st',λb hb=>(hf b hb).1⟩⟩;rw[Int.mul_one]
 done:=by intro X hP hw hK hc i pS s Y H E I hf st hg;subst hP hw hK;obtain ⟨f0,f1,f2,f3,f4,f5⟩:=hf it xws;exact wpAny_pyNext_range_end (I.ok.hd hc) st (by have:n<=i:=hg;omega) λh' eb=>⟨rfl,I.turned (t':=s.toks) (λb o hb e=>eb b o hb e) f0 f1 f3 f4 f5⟩
 self:=λ_ _ _ _ _ st h=>wpAny_pyIter_rangeiter st h
end L2
namespace L2
open PySem PySem.Spec PyProof.Rows
section
variable{X:Cx}{tg:Expr}
def zwi(K:W.Frag)(tl:TE):TI:=λY H R=>tl Y H λx H1=>∃ a,x=.ref a/\(∃ xs,SqL K H1 a xs)/\R (Itl K a) H1
def iTup(K:W.Frag)(tl:TE):TI:=λY H R=>tl Y H λx H1=>∃ a,x=.ref a/\(∃ xs,SqT K H1 a xs)/\R (Itt K a) H1
theorem ztu{l:Expr}{tl:TE}(hl:PE X l tl):PI X tg l (zwi X.K tl):=by
 intro pS s Y H R I h;refine thn (hl pS s Y H _ I h) λv s1 ⟨x,H1,I1,r1,q1⟩=>?_;obtain ⟨a,e,⟨xs,hq⟩,q⟩:=q1;subst e;cases r1;obtain ⟨its,rv,p,hz⟩:=I1.list hq;refine wpAny_pyIter_list p.isList ?_;refine ⟨s1.heap.objs.size,[s1.heap.objs.size],_,_,H1,rfl,I1.kept (t':=s1.toks) λb o e=>waa _ e,znl a _,⟨_,waj _ rfl,rfl,rfl⟩,λb hb=>?_,q⟩;have e:b=s1.heap.objs.size:=by simpa using hb
 subst e;exact I1.fpOk (wal _) (I1.hok.fresh (wal _))
theorem zuJ{l:Expr}{tl:TE}(hl:PE X l tl):PI X tg l (iTup X.K tl):=by
 intro pS s Y H R I h;refine thn (hl pS s Y H _ I h) λv s1 ⟨x,H1,I1,r1,q1⟩=>?_;obtain ⟨a,e,⟨xs,hq⟩,q⟩:=q1;subst e;cases r1;obtain ⟨its,rv,p,hz⟩:=I1.tuple hq;refine wpAny_pyIter_tuple (show s1.heap.IsTuple a its.toArray from p) ?_;refine ⟨s1.heap.objs.size,[s1.heap.objs.size],_,_,H1,rfl,I1.kept (t':=s1.toks) λb o e=>waa _ e,zmW a _,⟨_,waj _ rfl,rfl,rfl⟩,λb hb=>?_,q⟩;have e:b=s1.heap.objs.size:=by simpa using hb
 subst e;exact I1.fpOk (wal _) (I1.hok.fresh (wal _))
theorem zpN{pS:List (Addr×Obj)}{Y:St}{H:Hp}{s:Shared}{R:It->Hp->Prop}{E:Value->Shared->Prop}{lo hi:Int}{t u v:Tok}{tk:Nat}(I:Inv X pS Y H s)(h1:-(2 ^ 62)<=lo)(h2:lo<2 ^ 62)(h3:-(2 ^ 62)<=hi)(h4:hi<2 ^ 62)
  (q:R (Itr lo (hi-lo).toNat) H):wpAny (model X.prog X.w) X.A (pyIter (.ref s.heap.objs.size)) (PIE X pS Y tg R) E { s with heap:=s.heap.push { cls:=.type "range",data:=.fields #[.int lo t,.int hi u,.int 1 v] },toks:=tk }:=by
 refine wpAny_pyIter_range (IsRange.new ..) (small_one h1 h2 h3 h4) ?_;have I1:Inv X pS Y H { s with heap:=s.heap.push { cls:=.type "range",data:=.fields #[.int lo t,.int hi u,.int 1 v] },toks:=tk }:=I.kept λb o e=>waa _ e;refine ⟨(s.heap.push { cls:=.type "range",data:=.fields #[.int lo t,.int hi u,.int 1 v] }).objs.size,[(s.heap.push { cls:=.type "range",data:=.fields #[.int lo t,.int hi u,.int 1 v] }).objs.size],_,_,H,rfl,
  I1.kept (t':=tk) λb o e=>waa _ e,zmQ _ lo (hi-lo).toNat,?_,λb hb=>?_,q⟩
 ·have e1:lo+((0:Nat):Int) * 1=lo:=by simp
  have e2:(((hi-lo).toNat:Nat):Int)-((0:Nat):Int)=Builtin.Range.rangeSize lo hi 1:=by rw[rangeSize_one];split <;> omega
  show IsRangeIter _ _ (lo+((0:Nat):Int) * 1) ((((hi-lo).toNat:Nat):Int)-((0:Nat):Int)) 1;rw[e1,e2];exact waj _ rfl
 ·have e:b=(s.heap.push { cls:=.type "range",data:=.fields #[.int lo t,.int hi u,.int 1 v] }).objs.size:=by simpa using hb
  subst e;exact I1.fpOk (wal _) (I1.hok.fresh (wal _))
def zvK(ta:TA):TI:=λY H R=>ta Y H λvs H1=>∃ j:Int,vs=[.int j]/\-(2 ^ 62)<=j/\j<2 ^ 62/\R (Itr 0 j.toNat) H1
theorem zoC{a:Expr}{ta:TA}{p pos:Pos}(hg:Gl X "range")(hm:X.mg "range"=none)(ha:PA X [a] ta)(hs:starEach [a] X.env=[(false,eval a X.env)]:=by rfl):PI X tg (.Call (.Name "range" p) [a] [] pos) (zvK ta):=by
 intro pS s Y H R I h;refine Call_ (zfd I hg hm boot_range (PyProof.Rows.callWith_type1 (thn (ha pos pS s Y H _ I h) λus s1 ⟨vs,H1,I1,r1,q1⟩=>?_) hs rfl));obtain ⟨j,e,q1,q2,q⟩:=q1;subst e;cases r1 with
 |cons r rr =>
  cases rr;obtain ⟨t,rfl⟩:=r;exact call_range_1 (zpN I1 xwo xwo q1 q2 (by simpa using q))
def tFor(wi:TI)(g:TG)(tb:TS):TS:=λD Y H=>wi Y H λJ H1=>∃ W:Nat->Nat->St->Hp->Prop,(∃ m,W 0 m Y H1)/\∀ i m Y H,W i m Y H ->
 (J.stop i H/\D.nx Y H)\/(J.go i H/\∃ N:St->Hp->Prop,(∀ Y' H',N Y' H'->∃ m',m'<m/\W (i+1) m' Y' H')/\∀ x H',J.yld i H x H'->g x Y H' λY2 H2=>tb { D with nx:=N,ct:=N,bk:=D.nx } Y2 H2)
def zfp(fp:List Addr)(h:Heap):List (Addr×Obj):=fp.filterMap λb=>(h.get? b).map λo=>(b,o)
theorem zef{fp:List Addr}{h:Heap}{b:Addr}{o:Obj}(hb:b∈fp)(e:h.get? b=some o):(b,o)∈zfp fp h:=List.mem_filterMap.mpr ⟨b,hb,by rw[e];rfl⟩
theorem zor{fp:List Addr}{h:Heap}{p:Addr×Obj}(hp:p∈zfp fp h):p.1∈fp/\h.get? p.1=some p.2:=by
 obtain ⟨b,hb,e⟩:=List.mem_filterMap.mp hp;cases q:h.get? b with
 |none=>rw[q] at e;cases e
 |some o =>
  rw[q] at e;have e':(b,o)=p:=waA e;subst e';exact ⟨hb,q⟩
theorem Inv.pinned{pS:List (Addr×Obj)}{Y:St}{H:Hp}{s:Shared}{fp:List Addr}(I:Inv X pS Y H s)(hf:∀ b∈fp,zhO X pS H b)(ho:∀ b∈fp,∃ o,s.heap.get? b=some o/\∀ v,o.data≠.cell v):Inv X (pS++zfp fp s.heap) Y H s :=
 I.pins_of λp hp=>(wax.mp hp).elim (λz=>I.pin p (waz _ z)) λz=>by obtain ⟨hb,e⟩:=zor z;obtain ⟨f0,f1,f2,_⟩:=hf p.1 hb;obtain ⟨o,e',d⟩:=ho p.1 hb;rw[e] at e';cases e';exact ⟨e,f0,f1,f2,d⟩
theorem Inv.unpinned{pS pl:List (Addr×Obj)}{Y:St}{H:Hp}{s:Shared}(I:Inv X (pS++pl) Y H s):Inv X pS Y H s:=I.pins_of λp hp=>I.pin p (waz _ (waR _ hp))
theorem zuD{iter:Expr}{body:List Stmt}{wi:TI}{g:TG}{tb:TS}{pos:Pos}(hp:PassesOwn (model X.prog X.w) X.A X.env X.xe)(hc:X.calm=true)(hi:PI X tg iter wi)(hg:PG X tg g)(hb:PSs X body tb)
  (hs:∀ x,foldedSetIterable iter X.env x=pure x:=by intro _;rfl):PS X (.For tg iter body [] pos) (tFor wi g tb):=by
 intro pS s Y H D I h;refine wpAny_For (thn (hi pS s Y H _ I h) λv s1 h1=>thn h1 λitv s2 h2=>?_) hs;obtain ⟨it,fp,tn,J,H2,e,I2,T,st2,f2,W,⟨m0,w0⟩,turn⟩:=h2;subst e;have stat:∀{H':Hp},(∀ b∈fp,H' b=none)->∀ b∈fp,zhO X pS H' b:=λhn b hb=>⟨hn b hb,(f2 b hb).2⟩
 refine codeAny_forLoop_any (λn s'=>∃ i Y' H',Inv X pS Y' H' s'/\tn i s'.heap/\(∀ b∈fp,H' b=none)/\W i n Y' H') ?_ m0 ⟨0,Y,H2,I2,st2,λb hb=>(f2 b hb).1,w0⟩;rintro n s3 ⟨i,Y3,H3,I3,st3,fr3,w3⟩;rcases turn i n Y3 H3 w3 with ⟨stop,qn⟩|⟨go,N,hN,step⟩
 ·refine wpAny_passesOwn hp (thn (T.done X rfl rfl rfl hc i pS s3 Y3 H3 X.xe I3 (stat fr3) st3 stop) λr s4 ⟨hr,I4⟩=>?_);subst hr;exact wpAny_execs_nil ⟨Y3,H3,I4,qn⟩
 ·refine wpAny_passesOwn hp (thn (T.item X rfl rfl rfl hc i pS s3 Y3 H3 X.xe I3 (stat fr3) st3 go) λr s4 ⟨u,hr,h4⟩=>?_);subst hr;refine wpAny_passesOwn hp (thn h4 λ_ s5 ⟨x,H5,I5,r5,y5,st5,fr5⟩=>?_);have I5':=I5.pinned (stat fr5) (T.obj _ _ st5);refine wpAny_passesOwn hp (thn (hg _ s5 Y3 H5 x u _ I5' r5 (step x H5 y5)) λ_ s6 ⟨Y6,H6,I6,q6⟩=>?_);refine wpAny_passesOwn hp (thn (hb _ s6 Y6 H6 _ I6 q6) λf s7 q7=>?_);have again:∀{Y7:St}{H7:Hp},Inv X (pS++zfp fp s5.heap) Y7 H7 s7->N Y7 H7->∃ m,m<n/\∃ i Y' H',Inv X pS Y' H' s7/\tn i s7.heap/\(∀ b∈fp,H' b=none)/\W i m Y' H':=λ{Y7 H7} I7 n7=>by obtain ⟨m',hm,w7⟩:=hN Y7 H7 n7;refine ⟨m',hm,i+1,Y7,H7,I7.unpinned,T.keep _ _ _ st5 λb hb o e=>(I7.pin (b,o) (waz _ (waz _ (zef hb e)))).1,λb hb=>?_,w7⟩;obtain ⟨o,e,d⟩:=T.obj _ _ st5 b hb;exact (I7.pin (b,o) (waz _ (waz _ (zef hb e)))).2.1
  cases f with
  |next=>obtain ⟨Y7,H7,I7,n7⟩:=q7;exact again I7 n7
  |cont=>obtain ⟨Y7,H7,I7,n7⟩:=q7;exact again I7 n7
  |brk=>obtain ⟨Y7,H7,I7,q7⟩:=q7;exact ⟨Y7,H7,I7.unpinned,q7⟩
  |ret v=>obtain ⟨x7,Y7,H7,I7,r7,q7⟩:=q7;exact ⟨x7,Y7,H7,I7.unpinned,r7,q7⟩
end
end L2
namespace L2
open PySem PySem.Spec PyProof.Rows
abbrev R2:=V->V->Hp->VK->Prop
def OpR(X:Cx)(f:Value->Value->Sem Value)(r:R2):Prop :=
 ∀(pS:List (Addr×Obj))(s:Shared)(Y:St)(H:Hp)(x y:V)(v u:Value)(Q:VK),Inv X pS Y H s->zbO x v->zbO y u->r x y H Q ->
  wpAny (model X.prog X.w) X.A (f v u) (EP X pS Y Q) X.xe s
def UnR(X:Cx)(f:Value->Sem Value)(r:V->Hp->VK->Prop):Prop :=
 ∀(pS:List (Addr×Obj))(s:Shared)(Y:St)(H:Hp)(x:V)(v:Value)(Q:VK),Inv X pS Y H s->zbO x v->r x H Q ->
  wpAny (model X.prog X.w) X.A (f v) (EP X pS Y Q) X.xe s
def zcj(X:Cx)(f:Value)(r:List V->Hp->VK->Prop):Prop :=
 ∀(pS:List (Addr×Obj))(s:Shared)(Y:St)(H:Hp)(xs:List V)(us:List Value)(Q:VK),Inv X pS Y H s->zaW xs us->r xs H Q ->
  wpAny (model X.prog X.w) X.A (call f us) (EP X pS Y Q) X.xe s
def tOp(r:R2)(ta tb:TE):TE:=λY H Q=>ta Y H λx H1=>tb Y H1 λy H2=>r x y H2 Q
def tUn(r:V->Hp->VK->Prop)(ta:TE):TE:=λY H Q=>ta Y H λx H1=>r x H1 Q
def rI(C:Int->Int->Prop)(g:Int->Int->V):R2:=λx y H Q=>∃ i j,x=.int i/\y=.int j/\C i j/\Q (g i j) H
def rI0(g:Int->Int->V):R2:=λx y H Q=>∃ i j,x=.int i/\y=.int j/\Q (g i j) H
def rU(g:Int->V):V->Hp->VK->Prop:=λx H Q=>∃ i,x=.int i/\Q (g i) H
section
variable{X:Cx}{a b c:Expr}{ta tb tc:TE}{pos:Pos}
theorem zvX(ha:PE X a ta)(hb:PE X b tb){pS:List (Addr×Obj)}{s:Shared}{Y:St}{H:Hp}{R:V->V->Hp->Prop}(I:Inv X pS Y H s)
  (h:ta Y H λx H1=>tb Y H1 λy H2=>R x y H2) {Q:Value->Shared->Prop} {f:Value->Value->Sem Value}
  (hf:∀ v u s2 x y H2,Inv X pS Y H2 s2->zbO x v->zbO y u->R x y H2->wpAny (model X.prog X.w) X.A (f v u) Q X.xe s2) :
  wpAny (model X.prog X.w) X.A (eval a X.env) (λv s₁=>wpAny (model X.prog X.w) X.A (eval b X.env) (λu s₂=>wpAny (model X.prog X.w) X.A (f v u) Q X.xe s₂) X.xe s₁) X.xe s:=by
 refine thn (ha pS s Y H _ I h) λv s1 ⟨x,H1,I1,r1,q1⟩=>?_;refine thn (hb pS s1 Y H1 _ I1 q1) λu s2 ⟨y,H2,I2,r2,q2⟩=>?_;exact hf v u s2 x y H2 I2 r1 r2 q2
theorem zur{op:Operator}{r:R2}(ho:OpR X (binaryOp op) r)(ha:PE X a ta)(hb:PE X b tb):PE X (.BinOp a op b pos) (tOp r ta tb):=by intro pS s Y H Q I h;exact wpAny_BinOp (zvX ha hb I h λv u s2 x y H2 I2 rx ry q=>ho pS s2 Y H2 x y v u Q I2 rx ry q)
theorem zvc{op:UnaryOp}{r:V->Hp->VK->Prop}(ho:UnR X (unaryOp op) r)(ha:PE X a ta):PE X (.UnaryOp op a pos) (tUn r ta):=by intro pS s Y H Q I h;exact UnaryOp_ (thn (ha pS s Y H _ I h) λv s1 ⟨x,H1,I1,r1,q1⟩=>ho pS s1 Y H1 x v Q I1 r1 q1)
theorem opI{f:Value->Value->Sem Value}{C:Int->Int->Prop}{g:Int->Int->Int}
  (rule:∀(i j:Int)(t u:Tok)(s:Shared)(Q:Value->Shared->Prop)(E:Value->Shared->Prop),C i j->Q (.int (g i j) s.toks) { s with toks:=s.toks+1 }->wpAny (model X.prog X.w) X.A (f (.int i t) (.int j u)) Q E s) :
  OpR X f (rI C λi j=>.int (g i j)):=by
 intro pS s Y H x y v u Q I rx ry h;obtain ⟨i,j,rfl,rfl,hc,q⟩:=h;obtain ⟨t,rfl⟩:=rx;obtain ⟨t',rfl⟩:=ry;exact rule i j t t' s _ _ hc ⟨.int (g i j),H,I.tok _,⟨_,rfl⟩,q⟩
theorem opI0{f:Value->Value->Sem Value}{g:Int->Int->Int}
  (rule:∀(i j:Int)(t u:Tok)(s:Shared)(Q:Value->Shared->Prop)(E:Value->Shared->Prop),Q (.int (g i j) s.toks) { s with toks:=s.toks+1 }->wpAny (model X.prog X.w) X.A (f (.int i t) (.int j u)) Q E s) :
  OpR X f (rI0 λi j=>.int (g i j)):=by
 intro pS s Y H x y v u Q I rx ry h;obtain ⟨i,j,rfl,rfl,q⟩:=h;obtain ⟨t,rfl⟩:=rx;obtain ⟨t',rfl⟩:=ry;exact rule i j t t' s _ _ ⟨.int (g i j),H,I.tok _,⟨_,rfl⟩,q⟩
theorem zv2{f:Value->Value->Sem Value}{g:Int->Int->Bool}
  (rule:∀(i j:Int)(t u:Tok)(s:Shared)(Q:Value->Shared->Prop)(E:Value->Shared->Prop),Q (.bool (g i j)) s->wpAny (model X.prog X.w) X.A (f (.int i t) (.int j u)) Q E s) :
  OpR X f (rI0 λi j=>.bl (g i j)):=by
 intro pS s Y H x y v u Q I rx ry h;obtain ⟨i,j,rfl,rfl,q⟩:=h;obtain ⟨t,rfl⟩:=rx;obtain ⟨t',rfl⟩:=ry;exact rule i j t t' s _ _ ⟨.bl (g i j),H,I,rfl,q⟩
def CDiv(i j:Int):Prop:=0<j/\j<1073741824
def CPow(i j:Int):Prop:=0<=j/\j<=1000000/\i.natAbs<2 ^ 64
def zv0(i j:Int):Prop:=(-(2 ^ 64)<i/\i<2 ^ 64)\/(-(2 ^ 64)<j/\j<2 ^ 64)
theorem zv0.ok{i j:Int}(h:zv0 i j):IntMulOk i j:=by
 rcases h with ⟨h1,h2⟩|⟨h1,h2⟩
 ·exact .of_left (intBits_le_64 h1 h2)
 ·exact .of_right (intBits_le_64 h1 h2)
theorem zuN:OpR X (binaryOp .Add) (rI0 λi j=>.int (i+j)):=opI0 λ_ _ _ _ _ _ _ q=>add_int q
theorem zuQ:OpR X (binaryOp .Sub) (rI0 λi j=>.int (i-j)):=opI0 λ_ _ _ _ _ _ _ q=>sub_int q
theorem ztQ:OpR X (binaryOp .Mult) (rI zv0 λi j=>.int (i * j)):=opI λ_ _ _ _ _ _ _ hc q=>mul_int q hc.ok
theorem zsa:OpR X (binaryOp .FloorDiv) (rI CDiv λi j=>.int (i / j)):=opI λi j _ _ _ _ _ hc q=>by have h1:(0:Int)<j:=hc.1;have h2:j<1073741824:=hc.2;exact floordiv_int xwo (by rw[Int.fdiv_eq_ediv_of_nonneg i xwo];exact q) (.inl (PyProof.noPylong_small xwo))
theorem zuo:OpR X (binaryOp .Mod) (rI (λ_ j=>0<j) λi j=>.int (i % j)):=opI λi j _ _ _ _ _ hc q=>by have h1:(0:Int)<j:=hc;exact mod_int' xwo (by rw[Int.fmod_eq_emod_of_nonneg i xwo];exact q)
theorem zuU:OpR X (binaryOp .Pow) (rI CPow λi j=>.int (i ^ j.toNat)):=opI λ_ _ _ _ _ _ _ hc q=>pow_int_small hc.1 hc.2.1 hc.2.2 q
theorem unI{f:Value->Sem Value}{g:Int->Int}
  (rule:∀(i:Int)(t:Tok)(s:Shared)(Q:Value->Shared->Prop)(E:Value->Shared->Prop),Q (.int (g i) s.toks) { s with toks:=s.toks+1 }->wpAny (model X.prog X.w) X.A (f (.int i t)) Q E s) :
  UnR X f (rU λi=>.int (g i)):=by
 intro pS s Y H x v Q I rx h;obtain ⟨i,rfl,q⟩:=h;obtain ⟨t,rfl⟩:=rx;exact rule i t s _ _ ⟨.int (g i),H,I.tok _,⟨_,rfl⟩,q⟩
theorem zrq:UnR X (unaryOp .USub) (rU λi=>.int (-i)):=unI λ_ _ _ _ _ q=>neg_int q
end
section
variable{X:Cx}{a b c:Expr}{ta tb tc:TE}{pos:Pos}
theorem zvh{pS:List (Addr×Obj)}{Y:St}{H:Hp}{s:Shared}{Q:VK}{k k':Bool}(I:Inv X pS Y H s)(q:Q (.bl k) H)(e:k=k'):EP X pS Y Q (.bool k') s:=by subst e;exact ⟨.bl k,H,I,rfl,q⟩
theorem zvs:OpR X (compareOp .Lt) (rI0 λi j=>.bl (decide (i<j))):=zv2 λ_ _ _ _ _ _ _ q=>lt_int q
theorem zvG:OpR X (compareOp .LtE) (rI0 λi j=>.bl (decide (i<=j))):=zv2 λ_ _ _ _ _ _ _ q=>le_int q
theorem zvH:OpR X (compareOp .Gt) (rI0 λi j=>.bl (decide (j<i))):=zv2 λ_ _ _ _ _ _ _ q=>gt_int q
theorem zvI:OpR X (compareOp .GtE) (rI0 λi j=>.bl (decide (j<=i))):=zv2 λ_ _ _ _ _ _ _ q=>ge_int q
theorem OpR.or{f:Value->Value->Sem Value}{r r':R2}(h:OpR X f r)(h':OpR X f r'):OpR X f (λx y H Q=>r x y H Q\/r' x y H Q):=by
 intro pS s Y H x y v u Q I rx ry q;rcases q with q|q
 ·exact h pS s Y H x y v u Q I rx ry q
 ·exact h' pS s Y H x y v u Q I rx ry q
theorem zfK(b:Expr){op:CmpOp}(h:op≠.In:=by decide)(h2:op≠.NotIn:=by decide):behindInMarks op b=false:=by
 have e1:(op == CmpOp.In)=false:=by cases op <;> first|rfl|exact absurd rfl h
 have e2:(op == CmpOp.NotIn)=false:=by cases op <;> first|rfl|exact absurd rfl h2
 cases b <;> simp[behindInMarks,e1,e2]
theorem ztw{op:CmpOp}{r:R2}(ho:OpR X (compareOp op) r)(ha:PE X a ta)(hb:PE X b tb)(hm:behindInMarks op b=false):PE X (.Compare a [op] [b] pos) (tOp r ta tb):=by intro pS s Y H Q I h;exact wpAny_Compare1 (zvX ha hb I h λv u s2 x y H2 I2 rx ry q=>ho pS s2 Y H2 x y v u Q I2 rx ry q) hm
def zwj(t:TE):TT:=λY H Q=>t Y H λx H'=>∃ k,x=.bl k/\Q k H'
theorem zkN{op:CmpOp}{r:R2}(ho:OpR X (compareOp op) r)(ha:PE X a ta)(hb:PE X b tb)(hm:behindInMarks op b=false):PT X (.Compare a [op] [b] pos) (zwj (tOp r ta tb)):=by
 intro pS s Y H Q I h;refine wpAny_isTrue_Compare1 (thn (ha pS s Y H _ I h) λv s1 ⟨x,H1,I1,r1,q1⟩=>thn (hb pS s1 Y H1 _ I1 q1) λu s2 ⟨y,H2,I2,r2,q2⟩ =>
  thn (ho pS s2 Y H2 x y v u _ I2 r1 r2 q2) λc s3 ⟨z,H3,I3,r3,k,e,q3⟩=>?_) hm
 subst e;cases r3;exact wpAny_truthy_bool ⟨H3,I3,q3⟩
def zrp(r r':R2)(ta tb tc:TE):TE:=λY H Q=>ta Y H λx H1=>tb Y H1 λy H2=>r x y H2 λz H3=>∃ k,z=.bl k /\
 (if k=true then tc Y H3 λw' H4=>r' y w' H4 Q else Q (.bl false) H3)
theorem zpu{op op':CmpOp}{r r':R2}(ho:OpR X (compareOp op) r)(ho':OpR X (compareOp op') r')(ha:PE X a ta)(hb:PE X b tb)(hc:PE X c tc)
  (hm:lastMarks [op,op'] [b,c]=false:=by with_unfolding_all rfl):PE X (.Compare a [op,op'] [b,c] pos) (zrp r r' ta tb tc):=by
 intro pS s Y H Q I h;refine Compare_chain (thn (ha pS s Y H _ I h) λv s1 ⟨x,H1,I1,r1,q1⟩=>chain_link (thn (hb pS s1 Y H1 _ I1 q1) λu s2 ⟨y,H2,I2,r2,q2⟩ =>
  thn (ho pS s2 Y H2 x y v u _ I2 r1 r2 q2) λd s3 ⟨z,H3,I3,r3,k,e,q3⟩=>?_)) hm
 subst e;cases r3;refine wpAny_truthy_bool ?_;cases k with
 |false=>exact ite_ff ⟨.bl false,H3,I3,rfl,q3⟩
 |true=>exact ite_tt (chain_last (thn (hc pS s3 Y H3 _ I3 q3) λw' s4 ⟨z',H4,I4,r4,q4⟩=>ho' pS s4 Y H4 y z' u w' Q I4 r2 r4 q4))
theorem zjp:(sizeLine:Nat)<2 ^ 63:=by rw[sizeLine_eq];decide
theorem zeJ{x:V}{us:List Value}(r:zaW [x] us):∃ u,us=[u]/\zbO x u:=by
 cases r with
 |cons r1 r2=>cases r2;exact ⟨_,rfl,r1⟩
theorem zkx{x y:V}{us:List Value}(r:zaW [x,y] us):∃ u w',us=[u,w']/\zbO x u/\zbO y w':=by
 cases r with
 |cons r1 r2 =>
  cases r2 with
  |cons r3 r4=>cases r4;exact ⟨_,_,rfl,r1,r3⟩
theorem zoW(hc:X.calm=true):zcj X (.builtin "max") (λxs H Q=>∃ i j,xs=[.int i,.int j]/\Q (.int (if j > i then j else i)) H):=by
 intro pS s Y H xs us Q I r h;obtain ⟨i,j,rfl,q⟩:=h;obtain ⟨u,w',rfl,⟨t,rfl⟩,⟨t',rfl⟩⟩:=zkx r;refine max_two_ints (I.ok.hd hc) λh' tk k=>⟨_,H,I.kept k,?_,q⟩
 by_cases hj:j > i
 ·rw[if_pos hj,if_pos hj];exact ⟨_,rfl⟩
 ·rw[if_neg hj,if_neg hj];exact ⟨_,rfl⟩
theorem zn6(hc:X.calm=true):zcj X (.builtin "min") (λxs H Q=>∃ i j,xs=[.int i,.int j]/\Q (.int (if j<i then j else i)) H):=by
 intro pS s Y H xs us Q I r h;obtain ⟨i,j,rfl,q⟩:=h;obtain ⟨u,w',rfl,⟨t,rfl⟩,⟨t',rfl⟩⟩:=zkx r;refine min_two_ints (I.ok.hd hc) λh' tk k=>⟨_,H,I.kept k,?_,q⟩
 by_cases hj:j<i
 ·rw[if_pos hj,if_pos hj];exact ⟨_,rfl⟩
 ·rw[if_neg hj,if_neg hj];exact ⟨_,rfl⟩
end
end L2
namespace L2
open PySem PySem.Spec PyProof.Rows
structure ObjM(h:Heap)(x dx C:Addr)(mA:Str->Option Value):Prop where
 obj:h.get? x=some (W.instObj C dx)
 ns:h.Ns1 dx mA
 ne:dx≠x
section
variable{prog:Program}{w:World}{A:Around}{E:Value->Shared->Prop}{s:Shared}{K:W.Frag}{x dx C f:Addr}{mA:Str->Option Value}{name:Str}{v:Value}
end
section
variable{P:Program}{w:World}{H H':Hp}{h h':Heap}{a C dx:Addr}{fs fs':List (Str×V)}
end
structure Cls(K:W.Frag)(C:Addr):Prop where
 pg:W.plainGet K C Str.empty=true
 hd:W.hasDictIn K C=true
 po:W.plainOver K C=true
 sa:W.findIn K (.ref C) "__setattr__"=some (some (.builtin "object.__setattr__"))
theorem Cls.get{K:W.Frag}{C:Addr}(c:Cls K C)(f:Str):W.plainGet K C f=true:=c.pg
structure Con(K:W.Frag)(C:Addr)(f:Str)(v:V)(u:Value):Prop where
 at_:W.findIn K (.ref C) f=some (some u)
 rel:zbO v u
 get:W.specialIn K u "__get__"=some none
 cp:W.copiedNames.contains f=false
structure Meth(K:W.Frag)(C:Addr)(m:Str)(f:Addr):Prop where
 at_:W.findIn K (.ref C) m=some (some (.ref f))
 fn:W.isFn K (.ref f)=true
 kp:W.keepIn K (.ref f)=true
section
variable{X:Cx}{pS:List (Addr×Obj)}{Y:St}{H:Hp}{s:Shared}{a C dx:Addr}{fs:List (Str×V)}{f:Str}{v:V}{A:Around}{E:Value->Shared->Prop}
end
section
variable{X:Cx}{o e value:Expr}{f:Str}{pos pos' tpos:Pos}{ta tv:TE}
end
section
variable{X:Cx}{pS:List (Addr×Obj)}{Y:St}{H:Hp}{s:Shared}{A:Around}{E:Value->Shared->Prop}{Q:Value->Shared->Prop}{c:Value}{b:Bool}
inductive zoX(K:W.Frag)(H:Hp):V->Value->Prop where
 |non:zoX K H .non (.type "NoneType")
 |bl (x:Bool):zoX K H (.bl x) (.type "bool")
 |int (i:Int):zoX K H (.int i) (.type "int")
 |str (x:Str):zoX K H (.str x) (.type "str")
 |flt (x:UInt64):zoX K H (.flt x) (.type "float")
 |lst {a:Addr} {xs:List V} (e:H a=some (.lst xs)):zoX K H (.ref a) (.type "list")
 |frz {a:Addr} {o:Obj} {xs:List V} (e:H a=some (.frz o (.lst xs))):zoX K H (.ref a) (.type "list")
 |tup {a:Addr} {xs:List V} (e:H a=some (.tup xs)):zoX K H (.ref a) (.type "tuple")
 |dK {a:Addr} {kvs:List (Key×V)} (e:H a=some (.dK kvs)):zoX K H (.ref a) (.type "dict")
 |dT {a:Addr} {kvs:List (List Key×V)} (e:H a=some (.dT kvs)):zoX K H (.ref a) (.type "dict")
 |ins {a C dx:Addr} {fs:List (Str×V)} (e:H a=some (.ins C dx fs)) (cl:Cls K C) (ha:W.findIn K (.ref C) "__class__"=some (some (.builtin "object.__class__")))
   (hn:W.specialIn K (.builtin "object.__class__") "__get__"=some (some (.builtin "getset_descriptor.__get__"))) (htk:W.takesIn K (.builtin "object.__class__")=some true)
   (hm:W.mroIn K C (.type "object")=some true):zoX K H (.ref a) (.ref C)
end
end L2
namespace L2
open PySem PySem.Spec PyProof.Rows
structure zdD(k:Nat)(A:Around):Prop where
 hd:A.handled=none
 dp:A.depth+3 * k+5<recursionLimit
 un:A.units+16 * k+200<cLine
theorem zdD.mono{j k:Nat}{A:Around}(r:zdD k A)(h:j<=k):zdD j A:=⟨r.hd,by have:=r.dp;omega,by have:=r.un;omega⟩
theorem zdD.deeper{k:Nat}{A:Around}(r:zdD (k+1) A)(env:Env):zdD k (A.deeper env) :=
 ⟨r.hd,by have:=r.dp;show A.depth+1+3 * k+5<_;omega,by have:=r.un;show A.units+3+16 * k+200<_;omega⟩
theorem zdD.in1{k:Nat}{A:Around}(r:zdD (k+1) A):zdD k A.in1 :=
 ⟨r.hd,by have:=r.dp;show A.depth+3 * k+5<_;omega,by have:=r.un;show A.units+1+16 * k+200<_;omega⟩
theorem zdD.depth{k:Nat}{A:Around}(r:zdD k A):A.depth<recursionLimit:=by have:=r.dp;omega
theorem zdD.units{k:Nat}{A:Around}(r:zdD k A):A.units+64<cLine:=by have:=r.un;omega
def tNil:TA:=λ_ H Q=>Q [] H
def zva(ta:TE)(tr:TA):TA:=λY H Q=>ta Y H λx H1=>tr Y H1 λxs H2=>Q (x::xs) H2
section
variable{X:Cx}{e:Expr}{es:List Expr}{te:TE}{t:TA}{pos:Pos}
theorem zcD:PA X [] tNil:=λ_ _ _ _ H Q I h=>Calls.spliced_nil ⟨[],H,I,.nil,h⟩
theorem zbb(ha:PE X e te)(hr:PA X es t)(hs:starEach (e::es) X.env=(false,eval e X.env)::starEach es X.env:=by rfl):PA X (e::es) (zva te t):=by intro pos pS s Y H Q I h;rw[hs];show wpAny _ _ (spliced ((false,eval e X.env)::backTo pos (starEach es X.env))) _ _ s;refine Calls.spliced_cons (thn (ha pS s Y H _ I h) λu s1 ⟨x,H1,I1,r1,q1⟩=>?_);exact thn (hr pos pS s1 Y H1 _ I1 q1) λus s2 ⟨xs,H2,I2,r2,q2⟩=>⟨x::xs,H2,I2,.cons r1 r2,q2⟩
def tTup(t:TA):TE:=λY H Q=>t Y H λxs H1=>xs.length<=sizeLine/\∀ p,H1 p=none->Q (.ref p) (upd H1 p (.tup xs))
def tLst(t:TA):TE:=λY H Q=>t Y H λxs H1=>xs.length<=sizeLine/\∀ p,H1 p=none->Q (.ref p) (upd H1 p (.lst xs))
theorem zrI{x1}(h:PA X es t):PE X (.Tuple es x1 pos) (tTup t):=by intro pS s Y H Q I hq;refine wpAny_Tuple_spliced (thn (h pos pS s Y H _ I hq) λus s1 ⟨xs,H1,I1,r,z,q⟩=>⟨by rw[<- r.length];exact z,?_⟩);have hf:H1 s1.heap.objs.size=none:=I1.hok.fresh (wal _);refine ⟨.ref s1.heap.objs.size,upd H1 s1.heap.objs.size (.tup xs),I1.laid (t':=s1.toks) (λb u e=>waa _ e) (wal _) ?_,rfl,q _ hf⟩;exact ⟨z,us,r,⟨_,waj _ rfl⟩⟩
theorem ztH(h:PA X es t):PE X (.List es pos) (tLst t):=by intro pS s Y H Q I hq;refine wpAny_List_spliced (thn (h pos pS s Y H _ I hq) λus s1 ⟨xs,H1,I1,r,z,q⟩=>⟨by rw[<- r.length];exact z,?_⟩);have hf:H1 s1.heap.objs.size=none:=I1.hok.fresh (wal _);refine ⟨.ref s1.heap.objs.size,upd H1 s1.heap.objs.size (.lst xs),I1.laid (t':=s1.toks) (λb u e=>waa _ e) (wal _) ?_,rfl,q _ hf⟩;exact ⟨z,us,0,r,waj _ rfl⟩
end
abbrev Sp:=List V->Hp->VK->XK->Prop
abbrev CXT:=List Env->Hp->Shared->XK->Value->Shared->Prop
structure zpZ(P:Program)(w:World)(K:W.Frag)(mg:Str->Option Value)(base:Heap)(A:Around)(outer:List Env)(s:Shared)(H:Hp):Prop where
 frames:A.frames=some outer
 mod:Mod K mg base
 bs:∀ b o,base.get? b=some o->s.heap.get? b=some o/\H b=none
 bsz:base.objs.size<=s.heap.objs.size
 funs:s.heap.FunFrames base outer
 frf:∀ b∈frs outer,H b=none
 hok:HOk P w H s.heap
 bare:AllBare s.gens
def CE(outer:List Env)(P:Program)(w:World)(H:Hp)(s:Shared)(Q:VK)(u:Value)(s':Shared):Prop :=
 ∃ v H',s'.os=s.os/\AllBare s'.gens/\Un (frs outer) [] H H' s.heap s'.heap/\HOk P w H' s'.heap/\zbO v u/\Q v H'
def CR(CX:CXT)(outer:List Env)(P:Program)(w:World)(H:Hp)(s:Shared)(Q:VK)(E:XK)(r:Result)(s':Shared):Prop :=
 match r with
 |.ok (.ret u)=>CE outer P w H s Q u s'
 |.ok _=>False
 |.error e=>CX outer H s E e s'
structure zff(P:Program)(w:World)(K:W.Frag)(mg:Str->Option Value)(base:Heap)(CX:CXT)(k:Nat)(f:Addr)(fd:FuncData)(ps:List Str)(sp:Sp):Prop where
 len:∀ vs H Q E,sp vs H Q E->vs.length=ps.length
 run:∀(A:Around)(outer:List Env)(s:Shared)(H:Hp)(args:Args)(us:List Value)(vs:List V)(Q:VK)(E:XK),zdD k A->zpZ P w K mg base A outer s H->BindsTo s fd args (ps.zip us)->zaW vs us->sp vs H Q E ->
  codeAny (model P w) A (.call (.ref f) args) (CR CX outer P w H s Q E) s
theorem zff.mono{P:Program}{w:World}{K:W.Frag}{mg:Str->Option Value}{base:Heap}{CX:CXT}{j k:Nat}{f:Addr}{fd:FuncData}{ps:List Str}{sp:Sp}(F:zff P w K mg base CX j f fd ps sp)(h:j<=k) :
  zff P w K mg base CX k f fd ps sp:=⟨F.len,λA outer s H args us vs Q E hr=>F.run A outer s H args us vs Q E (hr.mono h)⟩
theorem zff.imp{P:Program}{w:World}{K:W.Frag}{mg:Str->Option Value}{base:Heap}{CX:CXT}{k:Nat}{f:Addr}{fd:FuncData}{ps:List Str}{sp sp':Sp}(F:zff P w K mg base CX k f fd ps sp)
  (h:∀ vs H Q E,sp' vs H Q E->sp vs H Q E):zff P w K mg base CX k f fd ps sp' :=
 ⟨λvs H Q E q=>F.len vs H Q E (h _ _ _ _ q),λA outer s H args us vs Q E hr he hb hv hs=>F.run A outer s H args us vs Q E hr he hb hv (h _ _ _ _ hs)⟩
theorem zpZ.in1{P:Program}{w:World}{K:W.Frag}{mg:Str->Option Value}{base:Heap}{A:Around}{outer:List Env}{s:Shared}{H:Hp}(e:zpZ P w K mg base A outer s H) :
  zpZ P w K mg base A.in1 outer s H:=⟨e.frames,e.mod,e.bs,e.bsz,e.funs,e.frf,e.hok,e.bare⟩
section
variable{X:Cx}{pS:List (Addr×Obj)}{Y:St}{H:Hp}{s s':Shared}
theorem Inv.env0(I:Inv X pS Y H s):zpZ X.prog X.w X.K X.mg X.base X.A X.stack s H :=
 ⟨I.ok.frames,I.ok.mod,I.bs,waN I.ok.bsz I.sz,I.stack,I.stkFree,I.hok,I.bare⟩
theorem Inv.after{Q:VK}{u:Value}(I:Inv X pS Y H s)(h:CE X.stack X.prog X.w H s Q u s'):EP X pS Y Q u s':=by obtain ⟨v,H',os,bare,un,hok,r,q⟩:=h;obtain ⟨hh,g,d,t,os'⟩:=s';obtain rfl:os'=s.os:=os;exact ⟨v,H',I.call (h':=hh) (g':=g) (d':=d) (t':=t) (ch:=[]) un hok bare (λb z=>absurd z xws),r,q⟩
end
def ztt(sp:Sp)(dvs:List V)(E:XK)(t:TA):TE:=λY H Q=>t Y H λvs H1=>sp (vs++dvs) H1 Q E
def zf2(K:W.Frag)(fd:FuncData)(ps:List Str)(ds:List Value):Prop :=
 ∀(s:Shared)(us:List Value),K.In s.heap->(us++ds).length=ps.length->BindsTo s fd ⟨us,[]⟩ (ps.zip (us++ds))
theorem zf2.all{K:W.Frag}{fd:FuncData}{ps:List Str}(h:∀ us:List Value,us.length=ps.length->bindArgs fd ⟨us,[]⟩=pure (ps.zip us)):zf2 K fd ps []:=λs us _ hl=>by rw[List.append_nil] at hl ⊢;exact .of_eq (h us hl)
def zcW(CX:CXT)(X:Cx)(E:XK):Prop:=∀(pS:List (Addr×Obj))(Y:St)(H:Hp)(s:Shared)(e:Value)(s':Shared),Inv X pS Y H s->CX X.stack H s E e s'->X.xe e s'
section
variable{X:Cx}{CX:CXT}{k:Nat}{f C:Addr}{fd:FuncData}{ps:List Str}{sp:Sp}{dvs:List V}{ds:List Value}{E:XK}{x m:Str}{p pos apos:Pos}{e o:Expr}{es:List Expr}{ta:TE}{t:TA}
theorem zug{pS:List (Addr×Obj)}{Y:St}{H:Hp}{s:Shared}{Q:VK}{us:List Value}{vs:List V}(F:zff X.prog X.w X.K X.mg X.base CX k f fd ps sp)(hr:zdD k X.A)(hb:zf2 X.K fd ps ds)(hd:zaW dvs ds)(hx:zcW CX X E)
  (I:Inv X pS Y H s) (r:zaW vs us) (h:sp (vs++dvs) H Q E):wpAny (model X.prog X.w) X.A (call (.ref f) us) (EP X pS Y Q) X.xe s:=by
 have r2:zaW (vs++dvs) (us++ds):=r.append hd;have hl:(us++ds).length=ps.length:=by rw[<- r2.length];exact F.len _ _ _ _ h
 refine wpAny_call (codeAny_mono (F.run X.A X.stack s H ⟨us,[]⟩ (us++ds) (vs++dvs) Q E hr I.env0 (hb s us I.kIn hl) r2 h) λr s' hq=>?_);cases r with
 |error e=>exact hx pS Y H s e s' I hq
 |ok fl =>
  cases fl with
  |ret u=>exact I.after hq
  |next=>exact waO hq
  |brk=>exact waO hq
  |cont=>exact waO hq
theorem znq(F:zff X.prog X.w X.K X.mg X.base CX k f fd ps sp)(hr:zdD k X.A)(hg:Gl X x)(hm:X.mg x=some (.ref f))(hk:W.keepIn X.K (.ref f)=true)(hb:zf2 X.K fd ps ds)(hd:zaW dvs ds)(hx:zcW CX X E)
  (ha:PA X (e::es) t) (hdb:(x == ("__debug__" : Str))=false:=by decide) (he:starEach (e::es) X.env=(false,eval e X.env)::starEach es X.env:=by rfl) (hpl:(backTo pos (starEach es X.env)).any (·.1)=false:=by rfl) :
  PE X (.Call (.Name x p) (e::es) [] pos) (ztt sp dvs E t):=by
 intro pS s Y H Q I h;refine wpAny_Call_Name_kw (zg5 I hg hm ?_ hdb);refine W.callWith_K (h₀:=X.base) I.ok.mod.kin hk (thn (ha pos pS s Y H _ I h) λus s1 ⟨vs,H1,I1,r,q⟩=>⟨I1.kIn,?_⟩) he hpl;exact zug F hr hb hd hx I1 r q
structure Mk(K:W.Frag)(C f:Addr):Prop where
 makes:W.makesIn K C=true
 init:W.findIn K (.ref C) "__init__"=some (some (.ref f))
 fn:W.isFn K (.ref f)=true
 kp:W.keepIn K (.ref C)=true
end
def PK(X:Cx)(kws:List Keyword)(t:TA):Prop :=
 ∀(pos:Pos)(pS:List (Addr×Obj))(s:Shared)(Y:St)(H:Hp)(Q:List V->Hp->Prop),Inv X pS Y H s->t Y H Q->wpAny (model X.prog X.w) X.A (evalAll ((backToKw pos (keywordEach kws X.env)).map (·.2))) (AP X pS Y Q) X.xe s
section
variable{X:Cx}{CX:CXT}{k:Nat}{f C:Addr}{fd:FuncData}{ps ks:List Str}{sp:Sp}{E:XK}{x m:Str}{p pos apos kpos:Pos}{e o:Expr}{es:List Expr}{kws:List Keyword}{te ta:TE}{t tk:TA}{nm:Option Str}
theorem zu8:PK X [] tNil:=λ_ _ _ _ H Q I h=>wpAny_evalAll_nil ⟨[],H,I,.nil,h⟩
theorem zsw(ha:PE X e te)(hr:PK X kws t):PK X (⟨nm,e,kpos⟩::kws) (zva te t):=by intro pos pS s Y H Q I h;show wpAny _ _ (evalAll ((do let v <- eval e X.env;standAt pos;pure v)::(backToKw pos (keywordEach kws X.env)).map (·.2))) _ _ s;refine wpAny_evalAll_cons (wab (thn (ha pS s Y H _ I h) λu s1 ⟨x,H1,I1,r1,q1⟩=>wab (wpAny_standAt (wad ?_))));exact thn (hr pos pS s1 Y H1 _ I1 q1) λus s2 ⟨xs,H2,I2,r2,q2⟩=>⟨x::xs,H2,I2,.cons r1 r2,q2⟩
structure KBinds(K:W.Frag)(fd:FuncData)(ps ks:List Str)(g:List Value->List Value->List Value)(gV:List V->List V->List V):Prop where
 to:∀(s:Shared)(us ws:List Value),K.In s.heap->(g us ws).length=ps.length->BindsTo s fd ⟨us,ks.zip ws⟩ (ps.zip (g us ws))
 rel:∀{vs:List V}{us:List Value}{zs:List V}{ws:List Value},zaW vs us->zaW zs ws->zaW (gV vs zs) (g us ws)
variable{g:List Value->List Value->List Value}{gV:List V->List V->List V}
end
structure zay(N P:List Str)(sc:Scope):Prop where
 kind:sc.kind=.function
 co:sc.isCoroutine=false
 gen:sc.isGenerator=false
 nd:N.Nodup
 pre:N.take P.length=P
 par:∀ x∈P,sc.names.lookup x=some .local\/sc.names.lookup x=some .cell
 nofree:∀ y∈sc.names,y.2≠.free
theorem zjb{kindOf:Str->Option NameKind}{x:Str}:∀{binds:List (Str×Value)}{m:Str->Option Value},(∀ v,(x,v)∉binds)->bindL kindOf binds m x=m x
 |[],_,_=>rfl
 | (n,v)::r,m,h=>by
  unfold bindL;rw[zjb λw hw=>h w (List.mem_cons_of_mem _ hw)];split
  ·have:x≠n:=by rintro rfl;exact h v wau
   simp[this]
  ·rfl
theorem zkm{kindOf:Str->Option NameKind}{x:Str}:∀{binds:List (Str×Value)}{m:Str->Option Value},(∀ v,(x,v)∉binds)->bindC kindOf binds m x=m x
 |[],_,_=>rfl
 | (n,v)::r,m,h=>by
  unfold bindC;rw[zkm λw hw=>h w (List.mem_cons_of_mem _ hw)];split
  ·rfl
  ·have:x≠n:=by rintro rfl;exact h v wau
   simp[this]
theorem zju{kindOf:Str->Option NameKind}{x:Str}{v:Value}:∀{P:List Str}{vs:List Value}{i:Nat}{m:Str->Option Value},P.Nodup->P[i]? = some x->vs[i]? = some v->kindOf x=some .local ->
  bindL kindOf (P.zip vs) m x=some v
 |[],_,_,_,_,h,_,_=>by simp at h
 |_::_,[],_,_,_,_,h,_=>by simp at h
 |p::P,w::vs,0,m,nd,h1,h2,hk=>by simp at h1 h2;subst h1;subst h2;show bindL kindOf ((p,w)::P.zip vs) m p=_;unfold bindL;rw[zjb λv hv=>(List.nodup_cons.mp nd).1 (List.of_mem_zip hv).1,if_pos hk];simp
 |p::P,w::vs,i+1,m,nd,h1,h2,hk=>by show bindL kindOf ((p,w)::P.zip vs) m x=_;unfold bindL;exact zju (i:=i) (List.nodup_cons.mp nd).2 (by simpa using h1) (by simpa using h2) hk
theorem zjA{kindOf:Str->Option NameKind}{x:Str}{v:Value}:∀{P:List Str}{vs:List Value}{i:Nat}{m:Str->Option Value},P.Nodup->P[i]? = some x->vs[i]? = some v->kindOf x≠some .local ->
  bindC kindOf (P.zip vs) m x=some v
 |[],_,_,_,_,h,_,_=>by simp at h
 |_::_,[],_,_,_,_,h,_=>by simp at h
 |p::P,w::vs,0,m,nd,h1,h2,hk=>by simp at h1 h2;subst h1;subst h2;show bindC kindOf ((p,w)::P.zip vs) m p=_;unfold bindC;rw[zkm λv hv=>(List.nodup_cons.mp nd).1 (List.of_mem_zip hv).1,if_neg hk];simp
 |p::P,w::vs,i+1,m,nd,h1,h2,hk=>by show bindC kindOf ((p,w)::P.zip vs) m x=_;unfold bindC;exact zjA (i:=i) (List.nodup_cons.mp nd).2 (by simpa using h1) (by simpa using h2) hk
def start(N:List Str)(vs:List V):St:=vs.map some++List.replicate (N.length-vs.length) none
def zlo(CX:CXT)(P:Program)(w:World)(K:W.Frag)(mg:Str->Option Value)(base:Heap)(N:List Str)(qual:Str)(scope:Scope)(f:Addr)(cd:Value)(A:Around)(outer:List Env)(s:Shared)(H:Hp)(E:XK):Cx where
 prog:=P
 w:=w
 K:=K
 mg:=mg
 base:=base
 A:=A.deeper (envOfC qual scope s.heap.objs.size f cd)
 N:=N
 s₀:=s
 H₀:=H
 env:=envOfC qual scope s.heap.objs.size f cd
 outer:=outer
 stack:=envOfC qual scope s.heap.objs.size f cd::outer
 ex:=[]
 calm:=true
 fn:=λ_=>true
 pn:=[]
 xe:=λe s'=>wpAny (model P w) (A.deeper (envOfC qual scope s.heap.objs.size f cd)) (leaving (envOfC qual scope s.heap.objs.size f cd) e) (λ_ s''=>CX outer H s E e s'') (λe' s''=>CX outer H s E e' s'') s'
theorem zmr{sc:Scope}{n:Nat}{x:Str}(h:sc.names.lookup x=some .cell):∃ c,(cellsFrom n sc.names []).lookup x=some c:=by have q:=W.cellsFrom_some sc.names n [] (.inl h);exact Option.isSome_iff_exists.mp q
theorem zjH{CX:CXT}{P:Program}{w:World}{K:W.Frag}{mg:Str->Option Value}{base:Heap}{N ps:List Str}{qual:Str}{scope:Scope}{f:Addr}{cd:Value}{A:Around}{outer:List Env}{s s1:Shared}{H:Hp}{E:XK}{us:List Value}{vs:List V}
  (S:zay N ps scope) (hd:A.handled=none) (e0:zpZ P w K mg base A outer s H) (hl:vs.length=ps.length) (r:zaW vs us)
  (x:InCallC s s.heap.objs.size (bindL (envOfC qual scope s.heap.objs.size f cd).kindOf (ps.zip us) λ_=>none) (cellsFrom (s.heap.objs.size+1) scope.names []) (bindC (envOfC qual scope s.heap.objs.size f cd).kindOf (ps.zip us) λ_=>none) s1) :
  Inv (zlo CX P w K mg base N qual scope f cd A outer s H E) [] (start N vs) H s1:=by
 have hpl:ps.length<=N.length:=by have:=congrArg List.length S.pre;rw[List.length_take] at this;omega
 obtain ⟨h1,tk,rfl,hk⟩:=x.done;have noA:∀ b:Addr,b∉(zlo CX P w K mg base N qual scope f cd A outer s H E).ex:=λb z=>absurd (show b∈([]:List Addr) from z) xws;refine ⟨⟨e0.mod,S.kind,rfl,rfl,wal _,λy z c h1 h2=>?_,λy hy=>?_,λy c _ h=>?_,λ_=>hd,Around.frames_deeper e0.frames,.inr ⟨rfl,rfl⟩,λb z=>absurd z (noA b),e0.bs,e0.bsz,λb _ _=>noA b,λb z=>absurd z (noA b),e0.funs,e0.frf⟩,
  rfl,e0.bare,Un.kept hk,⟨_,x.toInCall.ns,λi y v h1 h2 h3=>?_⟩,λy c h=>⟨_,x.cell y c h⟩,e0.hok.fresh (wal _),λy c h=>?_,λp hp=>absurd (show p∈([]:List (Addr×Obj)) from hp) xws,e0.hok.kept hk,?_⟩
 ·exact name_of_addr x.apart (PySem.mem_of_lookup h1) (PySem.mem_of_lookup h2)
 ·have hy:scope.names.lookup y=some .cell\/scope.names.lookup y=some .free:=hy;rcases hy with hy|hy
  ·exact zmr hy
  ·exact absurd rfl (S.nofree _ (PySem.mem_of_lookup hy))
 ·exact Nat.le_of_lt (x.above y c (PySem.mem_of_lookup h))
 ·have hi:i<vs.length:=by
   unfold start at h2;by_cases hi:i<vs.length
   ·exact hi
   ·rw[List.getElem?_append_right (by simpa using hi)] at h2;rw[List.getElem?_replicate] at h2;split at h2 <;> cases h2
  have ha:vs[i]? = some v:=by
   unfold start at h2;rw[List.getElem?_append_left (by simpa using hi),List.getElem?_map] at h2;cases e:vs[i]? with
   |none=>rw[e] at h2;cases h2
   |some a=>rw[e] at h2;cases h2;rfl
  obtain ⟨u,hu,rv⟩:=r.get ha;have hp:ps[i]? = some y:=by rw[<- S.pre,List.getElem?_take_of_lt xwo];exact h1
  have ndP:ps.Nodup:=by rw[<- S.pre];exact S.nd.sublist (List.take_sublist _ _)
  refine ⟨u,rv,?_⟩;rcases S.par y (waH hp) with k|k
  ·exact .inl ⟨k,zju ndP hp hu k⟩
  ·obtain ⟨c,e⟩:=zmr (n:=s.heap.objs.size+1) k;refine .inr ⟨.inl k,c,e,?_⟩;have q:=x.cell y c e;rw[zjA ndP hp hu (by show scope.names.lookup y≠_;rw[k];decide)] at q;exact q
 ·exact e0.hok.fresh (Nat.le_of_lt (x.above y c (PySem.mem_of_lookup h)))
 ·unfold start;show _=N.length;rw[List.length_append,List.length_map,List.length_replicate];omega
theorem zt8{CX:CXT}{P:Program}{w:World}{K:W.Frag}{mg:Str->Option Value}{base:Heap}{k:Nat}{f:Addr}{name qual:Str}{params:Arguments}{body:List Stmt}{scope:Scope}{dV kV doc pm cdv ct oc:Value}{an od:Option Addr}
  {osl:Array (Option Value)} {N ps:List Str} {sp:Sp} (lk:K.lookup f=some ⟨oc,od,.func (W.fnOf name qual params body scope dV kV doc pm an cdv ct),osl⟩) (hcd:W.codeIn K cdv qual=true) (S:zay N ps scope)
  (len:∀ vs H Q E,sp vs H Q E->vs.length=ps.length)
  (hbody:∀(A:Around)(outer:List Env)(s:Shared)(H:Hp)(vs:List V)(Q:VK)(E:XK),zdD k (A.deeper (envOfC qual scope s.heap.objs.size f cdv))->sp vs H Q E ->
   ∃ t,PSs (zlo CX P w K mg base N qual scope f cdv A outer s H E) body t/\t { nx:=λ_ H'=>Q .non H',rt:=Q } (start N vs) H) :
  zff P w K mg base CX (k+1) f (W.fnOf name qual params body scope dV kV doc pm an cdv ct) ps sp:=by
 refine ⟨len,λA outer s H args us vs Q E hr e0 hb r hsp=>?_⟩;have hl:=len _ _ _ _ hsp;have KX:K.In s.heap:=e0.mod.kin.keeps λb o e=>(e0.bs b o e).1;have lim:s.heap.NoLimit:=e0.mod.nolimit.keeps λb o e=>(e0.bs b o e).1;have hkind:∀ y∈ps.zip us,scope.names.lookup y.1=some .local\/(scope.names.lookup y.1=some .cell/\((cellsFrom (s.heap.objs.size+1) scope.names []).lookup y.1).isSome=true):=λ⟨n,v⟩ hy=>by
  rcases S.par n (List.of_mem_zip hy).1 with q|q
  ·exact .inl q
  ·exact .inr ⟨q,W.cellsFrom_some _ _ _ (.inl q)⟩
 refine codeAny_call_function hr.depth (KX _ _ lk) rfl S.co S.gen rfl (W.codeRec_of KX hcd) (hb _ _ _ _ ?_);refine wpAny_newFunctionEnv_cells S.kind hkind λenv he s1 x=>?_;subst he;refine ⟨lim.keeps x.toInCall.keep,codeAny_func ?_⟩;obtain ⟨t,ht,hq⟩:=hbody A outer s H vs Q E (hr.deeper _) hsp;have I:Inv (zlo CX P w K mg base N qual scope f cdv A outer s H E) [] (start N vs) H s1:=zjH S hr.hd e0 hl r x;refine wpAny_mono (ht [] s1 (start N vs) H _ I hq) (λfl s' hs=>?_) λe s' hs=>hs;have fin:∀{Y':St}{H':Hp}{v:V}{u:Value},Inv (zlo CX P w K mg base N qual scope f cdv A outer s H E) [] Y' H' s'->zbO v u->Q v H'->CE outer P w H s Q u s' :=
  λ{Y' H' v u} J rv q=>⟨v,H',J.os,J.bare,J.base,J.hok,rv,q⟩
 cases fl with
 |ret u =>
  obtain ⟨v,Y',H',J,rv,q⟩:=hs;exact fin J rv q
 |next =>
  obtain ⟨Y',H',J,q⟩:=hs;exact fin (v:=V.non) (u:=Value.none) J rfl q
 |brk =>
  obtain ⟨_,_,_,q⟩:=hs;exact waO q
 |cont =>
  obtain ⟨_,_,_,q⟩:=hs;exact waO q
end L2
namespace L2
open PySem PySem.Spec PyProof.Rows
section
variable{X:Cx}{x:Str}{p pos:Pos}{e:Expr}{es:List Expr}{t:TA}{id T:String}{r:List V->Hp->VK->Prop}
def tCB(r:List V->Hp->VK->Prop)(t:TA):TE:=λY H Q=>t Y H λvs H1=>r vs H1 Q
theorem zdj(hc:zcj X (.builtin id) r)(hg:Gl X x)(hm:X.mg x=none)(hv:bootBuiltins x=some (.builtin id))(ha:PA X (e::es) t)(hn:x≠"__name__":=by decide)(hdb:(x == ("__debug__" : Str))=false:=by decide)
  (he:starEach (e::es) X.env=(false,eval e X.env)::starEach es X.env:=by rfl) (hpl:(backTo pos (starEach es X.env)).any (·.1)=false:=by rfl):PE X (.Call (.Name x p) (e::es) [] pos) (tCB r t):=by
 intro pS s Y H Q I h;refine wpAny_Call_Name_kw (zfd I hg hm hv ?_ hn hdb);exact PyProof.Rows.callWith_builtin1 (thn (ha pos pS s Y H _ I h) λus s1 ⟨vs,H1,I1,r1,q1⟩=>hc pS s1 Y H1 vs us Q I1 r1 q1) he hpl
theorem zhb(hc:zcj X (.type T) r)(hg:Gl X x)(hm:X.mg x=none)(hv:bootBuiltins x=some (.type T))(ha:PA X (e::es) t)(hn:x≠"__name__":=by decide)(hdb:(x == ("__debug__" : Str))=false:=by decide)
  (he:starEach (e::es) X.env=(false,eval e X.env)::starEach es X.env:=by rfl) (hpl:(backTo pos (starEach es X.env)).any (·.1)=false:=by rfl):PE X (.Call (.Name x p) (e::es) [] pos) (tCB r t):=by
 intro pS s Y H Q I h;refine wpAny_Call_Name_kw (zfd I hg hm hv ?_ hn hdb);exact PyProof.Rows.callWith_type1 (thn (ha pos pS s Y H _ I h) λus s1 ⟨vs,H1,I1,r1,q1⟩=>hc pS s1 Y H1 vs us Q I1 r1 q1) he hpl
end
end L2
namespace HT
open PySem PyProof.Rows
section
open PySem.SeqAt
open PySem.AutoSeq1 (wpAny_loadPart')
open PySem.MeetsSeq PySem.MeetsSeq2 PySem.MeetsSeq3
end
section
variable{prog:Program}{w:World}{A:Around}{E:Value->Shared->Prop}{s:Shared}
theorem cat_tup{t b:Addr}{vs ws:List Value}{Q:Value->Shared->Prop}(ht:IsTup s.heap t vs.toArray)(hb:IsTup s.heap b ws.toArray)(hv:vs≠[])
  (h1:ws=[]->Q (.ref t) s) (h2:ws≠[]->Q (.ref s.heap.objs.size) { s with heap:=s.heap.push { cls:=.type "tuple",data:=.seq (vs++ws).toArray } })
  (hsz:vs.length+ws.length<=sizeLine):wpAny (model prog w) A (binaryOp .Add (.ref t) (.ref b)) Q E s:=by
 obtain ⟨⟨cls,dd,data,sl⟩,ho,hc,n,hd⟩:=id ht;obtain ⟨⟨cls2,dd2,data2,sl2⟩,ho2,hc2,n2,hd2⟩:=id hb;simp only at hc hd hc2 hd2;subst hc hd hc2 hd2;have e:vs.toArray++ws.toArray=(vs++ws).toArray:=by simp
 by_cases hw:ws=[]
 ·exact concat_meets ⟨_,ho,rfl⟩ ⟨_,ho2,rfl⟩ noFill_tuple_add seq_tuple_add PySem.F.slot_tuple_add PySem.F.entry_tuple_add (PySem.F.args_tuple_add_2 _ _)
   (tuple_addW1 t b vs.toArray ws.toArray n n2 dd dd2 sl sl2 (by simpa using hv) (by simp[hw])) ⟨ho,ho2,h1 hw⟩
 ·refine concat_meets ⟨_,ho,rfl⟩ ⟨_,ho2,rfl⟩ noFill_tuple_add seq_tuple_add PySem.F.slot_tuple_add PySem.F.entry_tuple_add (PySem.F.args_tuple_add_2 _ _)
   (tuple_addW2 t b vs.toArray ws.toArray n n2 dd dd2 sl sl2 (by simpa using hv) (by simpa using hw) (by rw[List.size_toArray,List.size_toArray];exact hsz)) ⟨ho,ho2,?_⟩
  rw[e];exact h2 hw
def sIx(n d:Nat):Option Int->Nat
 |none=>d
 |some v=>if v<0 then (v+(n:Int)).toNat else min v.toNat n
theorem sIx_none(n d:Nat):sIx n d none=d:=rfl
theorem sIx_nat(n d k:Nat):sIx n d (some (k:Int))=min k n:=by show (if (k:Int)<0 then ((k:Int)+(n:Int)).toNat else min (k:Int).toNat n)=min k n;rw[if_neg xwo,Int.toNat_natCast]
theorem ztL(n d:Nat)(hd:d<=n)(o:Option Int):sIx n d o<=n:=by
 cases o with
 |none=>exact hd
 |some v =>
  show (if v<0 then (v+(n:Int)).toNat else min v.toNat n)<=n;by_cases hv:v<0
  ·rw[if_pos hv];omega
  ·rw[if_neg hv];exact Nat.min_le_right _ _
theorem zn0(v:Int)(n d:Nat):(if v<0 then max (v+(n:Int)) 0 else min v (n:Int))=((sIx n d (some v):Nat):Int):=by
 show (if v<0 then max (v+(n:Int)) 0 else min v (n:Int))=(((if v<0 then (v+(n:Int)).toNat else min v.toNat n):Nat):Int)
 by_cases hv:v<0
 ·simp only[if_pos hv];omega
 ·simp only[if_neg hv];omega
theorem zmY(lo hi:Option Int)(n:Nat):Builtin.Slice.sliceAdjust lo hi 1 (n:Int)=(((sIx n 0 lo:Nat):Int),((sIx n n hi:Nat):Int)):=by
 have h1:¬ ((1:Int)<0):=by omega
 unfold Builtin.Slice.sliceAdjust;simp only[h1,if_false];refine Prod.ext ?_ ?_
 ·cases lo with
  |none=>rfl
  |some v=>exact zn0 v n 0
 ·cases hi with
  |none=>rfl
  |some v=>exact zn0 v n n
theorem zmD(i j:Nat):Builtin.Slice.slicePlaces (i:Int) (j:Int) 1=j-i:=by
 unfold Builtin.Slice.slicePlaces;have h1:(1:Int) > 0:=by omega
 simp only[h1,if_true,Int.ediv_one];split <;> omega
theorem zh7{v:Value}{o:Option Int}{Q:Option Int->Shared->Prop}(p:IsPart v o)(h:Q o s):wpAny (model prog w) A (Builtin.Slice.slicePartIndex v) Q E s:=by
 cases p with
 |none=>exact slicePart_none h
 |int i t=>exact slicePart_int h
theorem sliceApplied_gen{sl:Addr}{vl vu:Value}{lo hi:Option Int}{n:Nat}{Q:Int×Int×Nat->Shared->Prop}(hs:s.heap.IsSliceOf sl vl vu .none)(pl:IsPart vl lo)(pu:IsPart vu hi)
  (h:Q (((sIx n 0 lo:Nat):Int),1,sIx n n hi-sIx n 0 lo) s):wpAny (model prog w) A (Builtin.Slice.sliceApplied (.ref sl) (pure (n:Int))) Q E s:=by
 obtain ⟨os,hos,hcs,hds⟩:=id hs;unfold Builtin.Slice.sliceApplied Builtin.Slice.sliceFields;refine wab (wab (wpAny_field hos hds (x:=vl) rfl (wab (wpAny_field hos hds (x:=vu) rfl (wab (wpAny_field hos hds (x:=.none) rfl (wad ?_)))))));refine wab (slicePart_none ?_);show wpAny _ _ (if ((1:Int) == 0)=true then _ else _) _ _ s;rw[if_neg xwd];refine wab (zh7 pl (wab (zh7 pu (wab (wad ?_)))));show wpAny _ _ (match Builtin.Slice.sliceAdjust lo hi 1 (n:Int) with|(lo,hi)=>pure (lo,(1:Int),Builtin.Slice.slicePlaces lo hi 1)) _ _ s;rw[zmY lo hi n];show wpAny _ _ (pure (((sIx n 0 lo:Nat):Int),(1:Int),Builtin.Slice.slicePlaces ((sIx n 0 lo:Nat):Int) ((sIx n n hi:Nat):Int) 1)) _ _ s;rw[zmD];exact wad h
theorem zp1(xs:Array Value)(i k:Nat):((List.range k).filterMap λ(m:Nat)=>xs[((i:Int)+(m:Int) * 1).toNat]?).toArray=((xs.toList.drop i).take k).toArray:=by
 have e:(λ(m:Nat)=>xs[((i:Int)+(m:Int) * 1).toNat]?)=λm=>xs[i+m]? := by
  funext m;have:((i:Int)+(m:Int) * 1).toNat=i+m:=by omega
  rw[this]
 rw[e];have:=pick_run xs i k;rw[List.filterMap_map] at this;have e2:((λx=>xs[x]?) ∘ λx=>i+x)=λm=>xs[i+m]? := rfl;rw[e2] at this;rw[this]
theorem getItem_tuple_cut{t sl:Addr}{items:Array Value}{vl vu:Value}{lo hi:Option Int}{Q:Value->Shared->Prop}(ht:IsTup s.heap t items)(hs:s.heap.IsSliceOf sl vl vu .none)(pl:IsPart vl lo)(pu:IsPart vu hi)
  (hw:¬ (sIx items.size 0 lo=0/\sIx items.size items.size hi=items.size))
  (h:Q (.ref s.heap.objs.size) { s with heap:=s.heap.push { cls:=.type "tuple",data:=.seq ((items.toList.drop (sIx items.size 0 lo)).take (sIx items.size items.size hi-sIx items.size 0 lo)).toArray } })
  (hsz:items.size<=sizeLine):wpAny (model prog w) A (getItem (.ref t) (.ref sl)) Q E s:=by
 have htake:sizeOk (.seq ((items.toList.drop (sIx items.size 0 lo)).take (sIx items.size items.size hi-sIx items.size 0 lo)).toArray):=by show ((items.toList.drop (sIx items.size 0 lo)).take (sIx items.size items.size hi-sIx items.size 0 lo)).toArray.size<=sizeLine;rw[List.size_toArray,List.length_take,List.length_drop,Array.length_toList];omega
 have hj:sIx items.size items.size hi<=items.size:=ztL _ _ (wal _) hi;obtain ⟨os,hos,hcs,hds⟩:=id hs;have hTs:s.TypeIs (.ref sl) "slice":=⟨os,hos,hcs⟩
 unfold getItem
 try with_reducible refine wpAny_holding ?_
 first|refine wab (wad ?_)|skip
 refine wab (wpAny_sequenceKey ht.typeIs xwd ?_);refine wab (wpAny_callSpecial?_slot (name:=Str.ofString "__getitem__") ht.typeIs PyProof.Rows.slot_tuple_getitem
  (wpAny_call_entry PyProof.Rows.slot_tuple_getitem ht.typeIs entry_tuple_getitem ?_ (args_tuple_getitem _ _)))
 show wpAny _ _ (Builtin.Tuple.tupleItemsOf (.ref t) >>= _) _ _ s;refine wab (tupleItemsOf_ ht ?_);refine wab (wpAny_typeOf hTs ?_);rw[if_pos xwd];refine wab (sliceApplied_gen hs pl pu ?_);have hno:¬ ((((sIx items.size 0 lo:Nat):Int) == 0 && (1:Int) == 1 && (sIx items.size items.size hi-sIx items.size 0 lo) == items.size)=true):=by intro q;rw[Bool.and_eq_true,Bool.and_eq_true] at q;have q1:((sIx items.size 0 lo:Nat):Int)=0:=eq_of_beq q.1.1;have q2:sIx items.size items.size hi-sIx items.size 0 lo=items.size:=eq_of_beq q.2;exact hw ⟨xwo,xwo⟩
 show wpAny _ _ (if (((sIx items.size 0 lo:Nat):Int) == 0 && (1:Int) == 1 && (sIx items.size items.size hi-sIx items.size 0 lo) == items.size)=true then _ else _) _ _ s;rw[if_neg hno,zp1]
 first
  |exact wab (m:=Builtin.Tuple.tupleExact _) (wpAny_newObj_type (wad ⟨_,rfl,wad h⟩) htake)
  |exact wab (m:=Builtin.Tuple.tupleExact _) (wpAny_newObj_type (wab (wad (wad ⟨_,rfl,wad h⟩))) htake)
  |exact wab (wab (m:=Builtin.Tuple.tupleExact _) (wpAny_newObj_type (wad (wad ⟨_,rfl,wad h⟩)) htake))
  |exact wab (wab (m:=Builtin.Tuple.tupleExact _) (wpAny_newObj_type (wad ⟨_,rfl,wad h⟩) htake))
end
end HT
namespace L2
open PySem PySem.Spec PyProof.Rows
abbrev TO:=St->Hp->(Option Int->Hp->Prop)->Prop
def PO(X:Cx)(e:Option Expr)(t:TO):Prop :=
 ∀(pS:List (Addr×Obj))(s:Shared)(Y:St)(H:Hp)(Q:Option Int->Hp->Prop),Inv X pS Y H s->t Y H Q ->
  wpAny (model X.prog X.w) X.A (evalPart e X.env) (λu s'=>∃ o H',Inv X pS Y H' s'/\IsPart u o/\Q o H') X.xe s
def ztd:TO:=λ_ H Q=>Q none H
def zvU(t:TE):TO:=λY H Q=>t Y H λx H1=>∃ i,x=.int i/\Q (some i) H1
theorem intsAre_of{ns:List Int}:∀{us:List Value},zaW (ns.map V.int) us->IntsAre us ns:=by
 induction ns with
 |nil=>intro us r;rw[List.map_nil] at r;cases r;exact .nil
 |cons n ns ih =>
  intro us r;rw[List.map_cons] at r;cases r with
  |cons r1 r2 =>
   obtain ⟨t,e⟩:=r1;subst e;exact .cons n t (ih r2)
section
variable{X:Cx}{e:Expr}{te:TE}{lo hi:Option Expr}{tl th:TO}{pos p2:Pos}
theorem zth:PO X none ztd:=by intro pS s Y H Q I h;rw[evalPart_none];exact wad ⟨none,H,I,.none,h⟩
theorem zsT(h:PE X e te):PO X (some e) (zvU te):=by intro pS s Y H Q I hw;rw[evalPart_some];refine thn (h pS s Y H _ I hw) λu s1 ⟨x,H1,I1,r1,q1⟩=>?_;obtain ⟨i,rfl,q⟩:=q1;obtain ⟨t,rfl⟩:=r1;exact ⟨some i,H1,I1,.int i t,q⟩
def SlR(X:Cx)(r:V->Option Int->Option Int->Hp->VK->Prop):Prop :=
 ∀(pS:List (Addr×Obj))(s:Shared)(Y:St)(H:Hp)(x:V)(v vl vu:Value)(lo hi:Option Int)(sl:Addr)(Q:VK),Inv X pS Y H s->zbO x v->s.heap.IsSliceOf sl vl vu .none->IsPart vl lo->IsPart vu hi->r x lo hi H Q ->
  ∃ T id,typeLookup (.type T) "__getitem__"=pure (some (.builtin id))/\s.TypeIs v T/\wpAny (model X.prog X.w) X.A (getItem v (.ref sl)) (EP X pS Y Q) X.xe s
theorem SlR.or{r r':V->Option Int->Option Int->Hp->VK->Prop}(h:SlR X r)(h':SlR X r'):SlR X (λx lo hi H Q=>r x lo hi H Q\/r' x lo hi H Q):=by
 intro pS s Y H x v vl vu lo hi sl Q I rx hs pl pu q;rcases q with q|q
 ·exact h pS s Y H x v vl vu lo hi sl Q I rx hs pl pu q
 ·exact h' pS s Y H x v vl vu lo hi sl Q I rx hs pl pu q
def tSl(r:V->Option Int->Option Int->Hp->VK->Prop)(te:TE)(tl th:TO):TE:=λY H Q=>te Y H λx H1=>tl Y H1 λl H2=>th Y H2 λu H3=>r x l u H3 Q
theorem zlE{r:V->Option Int->Option Int->Hp->VK->Prop}(hr:SlR X r)(he:PE X e te)(hl:PO X lo tl)(hu:PO X hi th):PE X (.Subscript e (.Slice lo hi none p2) pos) (tSl r te tl th):=by intro pS s Y H Q I h;refine Subscript_ (thn (he pS s Y H _ I h) λv s1 ⟨x,H1,I1,r1,q1⟩=>?_);refine wpAny_Slice (thn (hl pS s1 Y H1 _ I1 q1) λvl s2 ⟨l,H2,I2,pl,q2⟩=>thn (hu pS s2 Y H2 _ I2 q2) λvu s3 ⟨u,H3,I3,pu,q3⟩=>?_);rw[evalPart_none];refine wad ?_;have I4:Inv X pS Y H3 { s3 with heap:=s3.heap.push { cls:=.type "slice",data:=.fields #[vl,vu,.none] } }:=I3.kept (t':=s3.toks) λb ob q=>waa _ q;obtain ⟨T,id,hT,ht,hg⟩:=hr pS { s3 with heap:=s3.heap.push { cls:=.type "slice",data:=.fields #[vl,vu,.none] } } Y H3 x v vl vu l u s3.heap.objs.size Q I4 r1 (Heap.IsSliceOf.new ..) pl pu q3;show wpAny (model X.prog X.w) X.A (subscriptTail e (.Slice lo hi none p2) v (.ref s3.heap.objs.size)) (EP X pS Y Q) X.xe { s3 with heap:=s3.heap.push { cls:=.type "slice",data:=.fields #[vl,vu,.none] } };exact tail_any (ops:=[.ref s3.heap.objs.size,v]) ht hT hg (by with_unfolding_all rfl)
def znf(xs:List V)(lo hi:Option Int):List V:=(xs.drop (HT.sIx xs.length 0 lo)).take (HT.sIx xs.length xs.length hi-HT.sIx xs.length 0 lo)
theorem zgW(xs:List V)(lo hi:Option Int):(znf xs lo hi).length<=xs.length:=by unfold znf;rw[List.length_take,List.length_drop];omega
def rSlT(K:W.Frag):V->Option Int->Option Int->Hp->VK->Prop:=λx lo hi H Q=>∃ a xs,x=.ref a/\SqT K H a xs /\
 ¬ (HT.sIx xs.length 0 lo=0/\HT.sIx xs.length xs.length hi=xs.length)/\∀ p,H p=none->Q (.ref p) (upd H p (.tup (znf xs lo hi)))
theorem zvi:SlR X (rSlT X.K):=by
 intro pS s Y H x v vl vu lo hi sl Q I rx hs pl pu h;obtain ⟨a,xs,rfl,hx,hw,q⟩:=h;cases rx;obtain ⟨its,r,ht,hz⟩:=I.tuple hx;have hlen:its.toArray.size=xs.length:=by rw[List.size_toArray];exact r.length.symm
 refine ⟨"tuple",_,PyProof.Rows.slot_tuple_getitem.lookup,ht.typeIs,?_⟩;refine HT.getItem_tuple_cut ht hs pl pu (by rw[hlen];exact hw) ?_ (by rw[hlen];exact hz);rw[hlen];refine ⟨.ref s.heap.objs.size,_,I.laid (t':=s.toks) (o:=.tup (znf xs lo hi)) (λb ob q=>waa _ q) (wal _) ?_,rfl,q _ (I.hok.fresh (wal _))⟩;exact ⟨waN (zgW xs lo hi) hz,_,(r.drop (HT.sIx xs.length 0 lo)).take (HT.sIx xs.length xs.length hi-HT.sIx xs.length 0 lo),_,waj _ rfl⟩
def zvT(K:W.Frag):R2:=λx y H Q=>∃ a b xs ys,x=.ref a/\y=.ref b/\SqT K H a xs/\SqT K H b ys/\xs≠[]/\xs.length+ys.length<=sizeLine /\
 (ys=[]->Q (.ref a) H)/\(ys≠[]->∀ p,H p=none->Q (.ref p) (upd H p (.tup (xs++ys))))
theorem zaW.nil_iff{xs:List V}{us:List Value}(r:zaW xs us):us=[] ↔ xs=[]:=by
 cases r with
 |nil=>simp
 |cons _ _=>simp
theorem zrS:OpR X (binaryOp .Add) (zvT X.K):=by intro pS s Y H x y v u Q I rx ry h;obtain ⟨a,b,xs,ys,rfl,rfl,ha,hb,hx,hz,q1,q2⟩:=h;cases rx;cases ry;obtain ⟨its,r1,p1,_⟩:=I.tuple ha;obtain ⟨its2,r2,p2,_⟩:=I.tuple hb;refine HT.cat_tup p1 p2 (λz=>hx (r1.nil_iff.mp z)) (λz=>⟨.ref a,H,I,rfl,q1 (r2.nil_iff.mp z)⟩) (λz=>?_) (by rw[<- r1.length,<- r2.length];exact hz);refine ⟨.ref s.heap.objs.size,_,I.laid (t':=s.toks) (o:=.tup (xs++ys)) (λb ob q=>waa _ q) (wal _) ?_,rfl,q2 (λw=>z (r2.nil_iff.mpr w)) _ (I.hok.fresh (wal _))⟩;exact ⟨by rw[List.length_append];exact hz,_,r1.append r2,_,waj _ rfl⟩
end
end L2
namespace L2
open PySem PySem.Spec PyProof.Rows
def ixN(n:Nat)(i:Int):Option Nat:=if 0<=i then (if i<n then some i.toNat else none) else if -(n:Int)<=i then some (i+n).toNat else none
def atI{α:Type}(xs:List α)(i:Int):Option α:=(ixN xs.length i).bind λj=>xs[j]?
theorem zk7{n:Nat}{i:Int}{j:Nat}(h:ixN n i=some j):seqIndex? i n=some j/\j<n/\-(n:Int)<=i/\i<n:=by
 unfold ixN at h;by_cases h0:0<=i
 ·rw[if_pos h0] at h;by_cases h1:i<n
  ·rw[if_pos h1] at h;have e:i.toNat=j:=waA h;exact ⟨by rw[seqIndex_of h0 h1,e],xwo,xwo,h1⟩
  ·rw[if_neg h1] at h;cases h
 ·rw[if_neg h0] at h;by_cases h1:-(n:Int)<=i
  ·rw[if_pos h1] at h;have e:(i+n).toNat=j:=waA h;exact ⟨by rw[seqIndex_neg xwo h1,e],xwo,h1,xwo⟩
  ·rw[if_neg h1] at h;cases h
theorem zo4{α:Type}{xs:List α}{i:Int}{v:α}(h:atI xs i=some v):∃ j,seqIndex? i xs.length=some j/\xs[j]? = some v/\j<xs.length/\-(xs.length:Int)<=i/\i<xs.length:=by
 unfold atI at h;cases e:ixN xs.length i with
 |none=>rw[e] at h;cases h
 |some j =>
  rw[e] at h;obtain ⟨h1,h2,h3,h4⟩:=zk7 e;exact ⟨j,h1,h,h2,h3,h4⟩
theorem zhX{α:Type}{xs:List α}{j:Nat}{v:α}(h:xs[j]? = some v):atI xs (j:Int)=some v:=by
 have hj:j<xs.length:=(wam.mp h).1;have e:ixN xs.length (j:Int)=some j:=by unfold ixN;rw[if_pos xwo,if_pos xwo];simp
 unfold atI;rw[e];exact h
def zhV(b:Expr):Prop:=∀ o i,subscripted b false o i=operate [o,i] (getItem o i)
def IxR(X:Cx)(r:R2):Prop :=
 ∀(value slice:Expr)(pS:List (Addr×Obj))(s:Shared)(Y:St)(H:Hp)(x y:V)(v u:Value)(Q:VK),Inv X pS Y H s->zbO x v->zbO y u->r x y H Q ->
  subscripted slice false v u=operate [v,u] (getItem v u)->wpAny (model X.prog X.w) X.A (subscriptTail value slice v u) (EP X pS Y Q) X.xe s
def MtR(X:Cx)(id:String)(r:V->List V->Hp->VK->Prop):Prop :=
 ∀(pS:List (Addr×Obj))(s:Shared)(Y:St)(H:Hp)(x:V)(xs:List V)(v:Value)(us:List Value)(Q:VK),Inv X pS Y H s->zbO x v->zaW xs us->r x xs H Q ->
  wpAny (model X.prog X.w) X.A (call (.builtin id) (v::us)) (EP X pS Y Q) X.xe s
section
variable{X:Cx}{a b:Expr}{ta tb:TE}{pos:Pos}
theorem IxR.or{r r':R2}(h:IxR X r)(h':IxR X r'):IxR X (λx y H Q=>r x y H Q\/r' x y H Q):=by
 intro value slice pS s Y H x y v u Q I rx ry q hs;rcases q with q|q
 ·exact h value slice pS s Y H x y v u Q I rx ry q hs
 ·exact h' value slice pS s Y H x y v u Q I rx ry q hs
theorem MtR.or{id:String}{r r':V->List V->Hp->VK->Prop}(h:MtR X id r)(h':MtR X id r'):MtR X id (λx xs H Q=>r x xs H Q\/r' x xs H Q):=by
 intro pS s Y H x xs v us Q I rx rs q;rcases q with q|q
 ·exact h pS s Y H x xs v us Q I rx rs q
 ·exact h' pS s Y H x xs v us Q I rx rs q
theorem zta{r:R2}(hr:IxR X r)(ha:PE X a ta)(hb:PE X b tb)(hs:zhV b):PE X (.Subscript a b pos) (tOp r ta tb):=by intro pS s Y H Q I h;exact Subscript_ (zvX ha hb I h λv u s2 x y H2 I2 rx ry q=>hr a b pS s2 Y H2 x y v u Q I2 rx ry q (hs _ _))
def rIxL(K:W.Frag):R2:=λx y H Q=>∃ p xs i v,x=.ref p/\y=.int i/\SqL K H p xs/\atI xs i=some v/\Q v H
def rIxT(K:W.Frag):R2:=λx y H Q=>∃ p xs i v,x=.ref p/\y=.int i/\SqT K H p xs/\atI xs i=some v/\Q v H
theorem zkJ:IxR X (rIxL X.K):=by
 intro value slice pS s Y H x y v u Q I rx ry h hs;obtain ⟨p,xs,i,z,rfl,rfl,hq,he,q⟩:=h;cases rx;obtain ⟨t,rfl⟩:=ry;obtain ⟨its,r,pl,hz⟩:=I.list hq;obtain ⟨j,h1,h2,h3,h4,h5⟩:=zo4 he;obtain ⟨w,ew,rw'⟩:=r.get h2;have hl:=r.length;have hn:=zjp;have fin:EP X pS Y Q w s:=⟨z,H,I,rw',q⟩
 by_cases h0:0<=i
 ·have hj:i.toNat=j:=by rw[seqIndex_of h0 h5] at h1;exact waA h1
  exact item_listR pl.isList h0 xwo (by rw[hj];simpa using ew) fin hs
 ·have hj:(i+(its.toArray.size:Int)).toNat=j:=by rw[seqIndex_neg xwo h4] at h1;rw[List.size_toArray,<- hl];exact waA h1
  exact subscriptTail_builtinR (x:=w) pl.isList.typeIs slot_list_getitem.lookup
   (wpAny_getItem_list_neg (Q:=λr s'=>r=w/\EP X pS Y Q r s') pl.isList xwo (by rw[List.size_toArray] <;> omega) xwo (by rw[hj];simpa using ew) ⟨rfl,fin⟩) hs
theorem ztS:IxR X (rIxT X.K):=by
 intro value slice pS s Y H x y v u Q I rx ry h hs;obtain ⟨p,xs,i,z,rfl,rfl,hq,he,q⟩:=h;cases rx;obtain ⟨t,rfl⟩:=ry;obtain ⟨its,r,pl,hz⟩:=I.tuple hq;obtain ⟨j,h1,h2,h3,h4,h5⟩:=zo4 he;obtain ⟨w,ew,rw'⟩:=r.get h2;have hl:=r.length;have hn:=zjp;have fin:EP X pS Y Q w s:=⟨z,H,I,rw',q⟩
 exact subscriptTail_builtinR (x:=w) pl.typeIs slot_tuple_getitem.lookup
  (getItem_tuple (j:=j) (Q:=λr s'=>r=w/\EP X pS Y Q r s') pl xwo xwo (by rw[List.size_toArray,<- hl];exact h1) (by simpa using ew) ⟨rfl,fin⟩) hs
theorem zmC(its:List Value)(n j:Nat)(u:Value):Obj.mapSeq (·.setIfInBounds j u) { cls:=.type "list",data:=.seq its.toArray n }={ cls:=.type "list",data:=.seq (its.set j u).toArray n }:=by simp[Obj.mapSeq]
theorem Inv.lst{pS:List (Addr×Obj)}{Y:St}{H:Hp}{s:Shared}{p:Addr}{xs:List V}(I:Inv X pS Y H s)(h:H p=some (.lst xs)) :
  ∃(its:List Value)(n:Nat),zaW xs its/\s.heap.get? p=some { cls:=.type "list",data:=.seq its.toArray n }/\xs.length<=sizeLine:=by
 obtain ⟨z,its,n,r,e⟩:=I.hok p _ h;exact ⟨its,n,r,e,z⟩
theorem Inv.lstUpd{pS:List (Addr×Obj)}{Y:St}{H:Hp}{s:Shared}{p:Addr}{xs ys:List V}{its its':List Value}{n n':Nat}{f:Obj->Obj}(I:Inv X pS Y H s)(h:H p=some (.lst xs))
  (ho:s.heap.get? p=some { cls:=.type "list",data:=.seq its.toArray n }) (hf:f { cls:=.type "list",data:=.seq its.toArray n }={ cls:=.type "list",data:=.seq its'.toArray n' }) (r:zaW ys its') (hz:ys.length<=sizeLine) (t:Nat) :
  Inv X pS Y (upd H p (.lst ys)) { s with heap:=s.heap.update p f,toks:=t }:=by
 have e:(s.heap.update p f).get? p=some { cls:=.type "list",data:=.seq its'.toArray n' }:=by rw[Heap.get?_update_self f ho (by rw[hf] <;> rfl),hf]
 refine I.write (x:=p) (e:=p) (by rw[h];trivial) (.inl rfl) (λb u hb q=>(Heap.get?_update_other _ _ (Ne.symm hb)).trans q) ⟨_,e⟩ ?_;exact ⟨hz,its',n',r,e⟩
def zvY:V->V->V->Hp->(Hp->Prop)->Prop:=λo i v H Q=>∃ p xs k j,o=.ref p/\i=.int k/\H p=some (.lst xs)/\ixN xs.length k=some j/\Q (upd H p (.lst (xs.set j v)))
theorem zq9:PSet X zvY:=by
 intro pS s Y H o i v ov iv u Q I ro ri rv h;obtain ⟨p,xs,k,j,rfl,rfl,hp,hj,q⟩:=h;cases ro;obtain ⟨t,rfl⟩:=ri;obtain ⟨its,n,r,ho,hz⟩:=I.lst hp;obtain ⟨h1,h2,h3,h4⟩:=zk7 hj;have hl:=r.length;have hn:=zjp;have I':Inv X pS Y (upd H p (.lst (xs.set j v))) { s with heap:=s.heap.update p (Obj.mapSeq (·.setIfInBounds j u)) } :=
  I.lstUpd hp ho (zmC its n j u) (r.set rv j) (by rw[List.length_set];exact hz) s.toks
 by_cases h0:0<=k
 ·have hk:k.toNat=j:=by rw[seqIndex_of h0 h4] at h1;exact waA h1
  exact W.ki_setAt ho h0 xwo (by rw[List.size_toArray,<- hl];exact h4) (by rw[hk];exact ⟨_,I',q⟩)
 ·have hk:(k+(its.toArray.size:Int)).toNat=j:=by rw[seqIndex_neg xwo h3] at h1;rw[List.size_toArray,<- hl];exact waA h1
  exact W.ki_setBack ho xwo (by rw[List.size_toArray,<- hl];exact h3) xwo (by rw[hk];exact ⟨_,I',q⟩)
theorem zja(lo hi:Option Int)(n:Nat):(sliceBounds lo hi none n).1=((HT.sIx n 0 lo:Nat):Int)/\(sliceBounds lo hi none n).2.1=((HT.sIx n n hi:Nat):Int)/\(sliceBounds lo hi none n).2.2=1:=by
 refine ⟨?_,?_,rfl⟩
 ·cases lo with
  |none=>simp[sliceBounds,HT.sIx]
  |some i =>
   simp only[sliceBounds,HT.sIx,Option.getD_none,show (1:Int) > 0 by decide,if_true];by_cases h:i<0
   ·simp only[h,if_true] <;> omega
   ·simp only[h,if_false] <;> omega
 ·cases hi with
  |none=>simp[sliceBounds,HT.sIx]
  |some i =>
   simp only[sliceBounds,HT.sIx,Option.getD_none,show (1:Int) > 0 by decide,if_true];by_cases h:i<0
   ·simp only[h,if_true] <;> omega
   ·simp only[h,if_false] <;> omega
theorem ziw(its:List Value)(lo hi:Option Int):slicePick its.toArray lo hi none=((its.drop (HT.sIx its.length 0 lo)).take (HT.sIx its.length its.length hi-HT.sIx its.length 0 lo)).toArray:=by obtain ⟨h1,h2,h3⟩:=zja lo hi its.toArray.size;unfold slicePick;rw[h1,h2,h3];simp only[sliceRange_one,pick_run,waf] <;> rfl
def rSlL(K:W.Frag):V->Option Int->Option Int->Hp->VK->Prop:=λx lo hi H Q=>∃ a xs,x=.ref a/\SqL K H a xs/\∀ p,H p=none->Q (.ref p) (upd H p (.lst (znf xs lo hi)))
theorem zs2:SlR X (rSlL X.K):=by intro pS s Y H x v vl vu lo hi sl Q I rx hs pl pu h;obtain ⟨a,xs,rfl,hx,q⟩:=h;cases rx;obtain ⟨its,r,ht,hz⟩:=I.list hx;have hlen:=r.length;refine ⟨"list",_,slot_list_getitem.lookup,ht.isList.typeIs,?_⟩;refine wpAny_getItem_list_slice ht.isList hs pl pu .none xws ?_ (by rw[List.size_toArray] <;> omega);rw[ziw,<- hlen];refine ⟨.ref s.heap.objs.size,_,I.laid (t':=s.toks) (o:=.lst (znf xs lo hi)) (λb ob q=>waa _ q) (wal _) ?_,rfl,q _ (I.hok.fresh (wal _))⟩;exact ⟨waN (zgW xs lo hi) hz,_,0,(r.drop (HT.sIx xs.length 0 lo)).take (HT.sIx xs.length xs.length hi-HT.sIx xs.length 0 lo),waj _ rfl⟩
theorem zfM:zcj X (.builtin "len") (λxs H Q=>∃ p ys,xs=[.ref p]/\(SqL X.K H p ys\/SqT X.K H p ys)/\Q (.int ys.length) H):=by
 intro pS s Y H xs us Q I r h;obtain ⟨p,ys,rfl,hq,q⟩:=h;obtain ⟨u,rfl,rx⟩:=zeJ r;cases rx;have hn:=zjp;rcases hq with hq|hq
 ·obtain ⟨its,r',pl,hz⟩:=I.list hq;have hlen:=r'.length;exact Calls.call_len_list pl.isList (by simp only[waf] <;> omega) ⟨.int ys.length,H,I.tok _,⟨s.toks+1,by rw[List.size_toArray,hlen]⟩,q⟩
 ·obtain ⟨its,r',pl,hz⟩:=I.tuple hq;have hlen:=r'.length;exact len_tuple pl (by simp only[waf] <;> omega) ⟨.int ys.length,H,I.tok _,⟨s.toks+1,by rw[List.size_toArray,hlen]⟩,q⟩
theorem zjd:zcj X (.builtin "len") (λxs H Q=>∃ z,xs=[.str z]/\z.length<=sizeLine/\Q (.int z.length) H):=by intro pS s Y H xs us Q I r h;obtain ⟨z,rfl,hz,q⟩:=h;obtain ⟨u,rfl,t,rfl⟩:=zeJ r;have hn:=zjp;exact len_str xwo ⟨.int z.length,H,I.tok _,⟨_,rfl⟩,q⟩
theorem zcj.or{f:Value}{r r':List V->Hp->VK->Prop}(h:zcj X f r)(h':zcj X f r'):zcj X f (λxs H Q=>r xs H Q\/r' xs H Q):=by
 intro pS s Y H xs us Q I rs q;rcases q with q|q
 ·exact h pS s Y H xs us Q I rs q
 ·exact h' pS s Y H xs us Q I rs q
theorem zjT:zcj X (.type "list") (λxs H Q=>∃ p ys,xs=[.ref p]/\(SqL X.K H p ys\/SqT X.K H p ys)/\∀ l,H l=none->Q (.ref l) (upd H l (.lst ys))):=by
 intro pS s Y H xs us Q I r h;obtain ⟨p,ys,rfl,hq,q⟩:=h;obtain ⟨u,rfl,rx⟩:=zeJ r;cases rx;have fin:∀(its:List Value),zaW ys its->ys.length<=sizeLine->∀(h':Heap)(c':Nat),(∀ b o',s.heap.get? b=some o'->h'.get? b=some o') ->
   h'.get? s.heap.objs.size=some { cls:=.type "list",dict:=none,data:=.seq its.toArray c',slots:=#[] }->EP X pS Y Q (.ref s.heap.objs.size) { s with heap:=h' }:=λits r' hz h' c' kp e =>
  ⟨.ref s.heap.objs.size,_,I.laid (t':=s.toks) kp (wal _) (show zcw X.prog X.w _ h' _ (.lst ys) from ⟨hz,its,c',r',e⟩),rfl,q _ (I.hok.fresh (wal _))⟩
 rcases hq with hq|hq
 ·obtain ⟨its,r',pl,hz⟩:=I.list hq;have hlen:=r'.length;obtain ⟨o,ho,hc,n,hd⟩:=pl.isList;exact call_list_seq p (.inl rfl) ho hc hd (λh' c' kp e=>fin its r' hz h' c' kp e) (by simp only[waf] <;> omega)
 ·obtain ⟨its,r',pl,hz⟩:=I.tuple hq;have hlen:=r'.length;obtain ⟨o,ho,hc,n,hd⟩:=pl;exact call_list_seq p (.inr rfl) ho hc hd (λh' c' kp e=>fin its r' hz h' c' kp e) (by simp only[waf] <;> omega)
theorem zhU:zcj X (.type "tuple") (λxs H Q=>∃ p ys,xs=[.ref p]/\((SqL X.K H p ys/\∀ l,H l=none->Q (.ref l) (upd H l (.tup ys)))\/(SqT X.K H p ys/\Q (.ref p) H))):=by
 intro pS s Y H xs us Q I r h;obtain ⟨p,ys,rfl,h⟩:=h;obtain ⟨u,rfl,rx⟩:=zeJ r;cases rx;rcases h with ⟨hq,q⟩|⟨hq,q⟩
 ·obtain ⟨its,r',pl,hz⟩:=I.list hq;have hlen:=r'.length;refine call_tuple_list pl.isList (λh' kp=>?_) (by simp only[waf] <;> omega);have I1:Inv X pS Y H { s with heap:=h' }:=I.kept (t':=s.toks) kp;have I2:Inv X pS Y (upd H h'.objs.size (.tup ys)) { s with heap:=h'.push { cls:=.type "tuple",data:=.seq its.toArray } } :=
   I1.laid (t':=s.toks) (λb o e=>waa _ e) (wal _) (show zcw X.prog X.w _ _ _ (.tup ys) from ⟨hz,its,r',_,waj _ rfl⟩)
  exact ⟨.ref h'.objs.size,_,I2,rfl,q _ (I1.hok.fresh (wal _))⟩
 ·obtain ⟨its,r',pl,hz⟩:=I.tuple hq;exact call_tuple_same pl ⟨.ref p,H,I,rfl,q⟩
def tyV(K:W.Frag)(T:String)(x:V)(H:Hp):Prop:=match x with
 |.str _=>T="str"
 |.int _=>T="int"
 |.ref p=>(T="list"/\∃ xs,SqL K H p xs)\/(T="tuple"/\∃ o,K.lookup p=some o/\o.cls=.type "tuple"/\o.dict=none) \/
   (T="dict"/\((∃ kvs,H p=some (.dK kvs))\/∃ kvs,H p=some (.dT kvs)))\/(T="set"/\∃ S n,H p=some (.set S n))
 |_=>False
theorem zuW{pS:List (Addr×Obj)}{Y:St}{H:Hp}{s:Shared}{T:String}{x:V}{v:Value}(I:Inv X pS Y H s)(r:zbO x v)(ty:tyV X.K T x H) :
  s.TypeIs v T/\∀ a,v=.ref a->∃ ob,s.heap.get? a=some ob/\ob.dict=none:=by
 cases x with
 |str z =>
  obtain ⟨t,rfl⟩:=r;cases (show T="str" from ty);exact ⟨typeIs_str s z t,λ_ e=>nomatch e⟩
 |int i =>
  obtain ⟨t,rfl⟩:=r;cases (show T="int" from ty);exact ⟨typeIs_int s i t,λ_ e=>nomatch e⟩
 |ref p =>
  cases r;rcases ty with ⟨rfl,xs,hq⟩|⟨rfl,o,hk,hc,hd⟩|⟨rfl,hk⟩|⟨rfl,S,n,hk⟩
  ·obtain ⟨its,_,pl,_⟩:=I.list hq;refine ⟨pl.isList.typeIs,λa e=>?_⟩;cases e;obtain ⟨o,n,e,c,hd,_⟩:=pl;exact ⟨o,e,hd⟩
  ·refine ⟨⟨o,I.kIn p o hk,hc⟩,λa e=>?_⟩;cases e;exact ⟨o,I.kIn _ o hk,hd⟩
  ·have z:∃ o,s.heap.get? p=some o/\o.ExactDict:=by
    rcases hk with ⟨kvs,hk⟩|⟨kvs,hk⟩
    ·obtain ⟨_,_,_,_,o,_,_,e,ex,_⟩:=I.hok p _ hk;exact ⟨o,e,ex⟩
    ·obtain ⟨_,_,_,_,o,_,_,e,ex,_⟩:=I.hok p _ hk;exact ⟨o,e,ex⟩
   obtain ⟨o,e,ex⟩:=z;refine ⟨⟨o,e,ex.1⟩,λa e2=>?_⟩;cases e2;exact ⟨o,e,ex.2.1⟩
  ·obtain ⟨o,_,_,_,e,ex,_⟩:=I.hok p _ hk;refine ⟨⟨o,e,ex.1⟩,λa e2=>?_⟩;cases e2;exact ⟨o,e,ex.2.1⟩
 |_=>exact waO ty
def tBM(K:W.Frag)(T:String)(r:V->List V->Hp->VK->Prop)(to:TE)(t:TA):TE:=λY H Q=>to Y H λx H1=>tyV K T x H1/\t Y H1 λxs H2=>r x xs H2 Q
variable{o e:Expr}{es:List Expr}{to:TE}{t:TA}{name:Str}{apos cpos:Pos}{T id:String}{r:V->List V->Hp->VK->Prop}
theorem zo1(pa:PlainAttrs T)(slot:Slot T name id)(hty:typeOf (.builtin id)=pure (.type "method_descriptor"))(hm:MtR X id r)(ho:PE X o to)(ha:PA X (e::es) t)
  (hbase:attributeBase o name X.env (eval o X.env)=eval o X.env:=by rfl)
  (hfew:((backTo cpos (starEach (e::es) X.env)).all (λx=>!x.1) && (backToKw cpos (keywordEach [] X.env)).all (λx=>x.1.isSome)
   && decide ((e::es).length+([]:List Keyword).length+(if ([]:List Keyword).isEmpty then 0 else 1)<30))=true:=by rfl)
  (hline:(apos.endLine == cpos.line)=true:=by rfl) (hs:starEach (e::es) X.env=(false,eval e X.env)::starEach es X.env:=by rfl) (hplain:(backTo cpos (starEach es X.env)).any (·.1)=false:=by rfl) :
  PE X (.Call (.Attribute o name apos) (e::es) [] cpos) (tBM X.K T r to t):=by
 intro pS s Y H Q I h;refine wpAny_Call_method_late hbase hfew hline rfl (thn (ho pS s Y H _ I h) λv s1 ⟨x,H1,I1,r1,ty,q1⟩=>?_);obtain ⟨h1,h2⟩:=zuW I1 r1 ty;refine ⟨T,id,pa,slot,hty,h1,h2,?_⟩;have hA:=ha cpos pS s1 Y H1 _ I1 q1;rw[hs] at hA ⊢;refine Calls.callWith_builtin (by show (false || (backTo cpos (starEach es X.env)).any (·.1))=false;rw[hplain] <;> rfl) (Calls.evalArgs_plain ?_);exact thn hA λus s2 ⟨vs,H2,I2,r2,q2⟩=>hm pS s2 Y H2 x vs v us Q I2 r1 r2 q2
end
end L2
namespace L2
open PySem PySem.Spec PyProof.Rows
def MtM(X:Cx)(id:String)(r:V->List V->Hp->VK->Prop):Prop :=
 ∀(pS:List (Addr×Obj))(s:Shared)(Y:St)(H:Hp)(x:V)(xs:List V)(v:Value)(us:List Value)(Q:VK),Inv X pS Y H s->zbO x v->zaW xs us->r x xs H Q ->
  wpAny (model X.prog X.w) X.A (call (.builtin id) (v::us)) (EP X pS Y Q) X.xe s
theorem zaW.one:∀{x:V}{us:List Value},zaW [x] us->∃ u,us=[u]/\zbO x u
 |_,_,.cons r .nil=>⟨_,rfl,r⟩
theorem zaW.dropLast{xs:List V}{us:List Value}(h:zaW xs us):zaW xs.dropLast us.dropLast:=by
 induction h with
 |nil=>exact .nil
 |cons r t ih =>
  cases t with
  |nil=>exact .nil
  |cons q t'=>exact .cons r ih
theorem zaW.eraseIdx:∀{xs:List V}{us:List Value}(i:Nat),zaW xs us->zaW (xs.eraseIdx i) (us.eraseIdx i)
 |_,_,_,.nil=>.nil
 |_,_,0,.cons _ t=>t
 |_,_,i+1,.cons r t=>.cons r (zaW.eraseIdx i t)
theorem zaW.reverse{xs:List V}{us:List Value}(h:zaW xs us):zaW xs.reverse us.reverse:=by
 induction h with
 |nil=>exact .nil
 |cons r t ih=>rw[List.reverse_cons,List.reverse_cons];exact zaW.append ih (.cons r .nil)
theorem zjQ{α:Type}:∀(l:List α)(i:Nat),(l.eraseIdx i).length<=l.length
 |[],_=>wal _
 |_::_,0=>Nat.le_succ _
 |_::r,i+1=>Nat.succ_le_succ (zjQ r i)
section
variable{X:Cx}{pS:List (Addr×Obj)}{Y:St}{H:Hp}{s:Shared}{l b:Addr}{xs ys zs:List V}
theorem Inv.lset{its its':List Value}{n:Nat}{f:Array Value->Array Value}{t':Nat}(I:Inv X pS Y H s)(hH:H l=some (.lst xs))
  (e:s.heap.get? l=some { cls:=.type "list",data:=.seq its.toArray n }) (hf:f its.toArray=its'.toArray) (hv:zaW ys its') (hz:ys.length<=sizeLine) :
  Inv X pS Y (upd H l (.lst ys)) { s with heap:=s.heap.update l (Obj.mapSeq f),toks:=t' }:=by
 have q:=PySem.IsL.update e f;rw[hf] at q;refine I.write (x:=l) (e:=l) (by rw[hH];exact trivial) (.inl rfl) (λb' u hb hu=>(Heap.get?_update_other s.heap (Obj.mapSeq f) (Ne.symm hb)).trans hu) ⟨_,q⟩ ?_;exact ⟨hz,its',_,hv,q⟩
theorem Inv.lnew{its:List Value}{t':Nat}(I:Inv X pS Y H s)(hv:zaW ys its)(hz:ys.length<=sizeLine) :
  Inv X pS Y (upd H s.heap.objs.size (.lst ys)) { s with heap:=s.heap.push { cls:=.type "list",data:=.seq its.toArray },toks:=t' } :=
 I.laid (λ_ _ q=>waa _ q) (wal _) ⟨hz,its,0,hv,waj _ rfl⟩
theorem Inv.fresh(I:Inv X pS Y H s):H s.heap.objs.size=none:=I.hok.fresh (wal _)
theorem Inv.lstM(I:Inv X pS Y H s)(hH:H l=some (.lst xs)):xs.length<=sizeLine/\∃(its:List Value)(n:Nat),zaW xs its/\xs.length=its.length/\s.heap.get? l=some { cls:=.type "list",data:=.seq its.toArray n }:=by obtain ⟨z,its,n,r,e⟩:=I.hok l _ hH;exact ⟨z,its,n,r,r.length,e⟩
theorem zlB{n:Nat}(h:n<=sizeLine):Builtin.List.listTooLong n=false:=by unfold Builtin.List.listTooLong;exact waw xwo
end
section
variable{X:Cx}
def zsQ:V->List V->Hp->VK->Prop:=λx vs H Q=>∃ l xs y,x=.ref l/\vs=[y]/\H l=some (.lst xs)/\xs.length<sizeLine/\Q .non (upd H l (.lst (xs++[y])))
theorem zgY:MtM X "list.append" zsQ:=by intro pS s Y H x vs v us Q I rx rv h;obtain ⟨l,xs,y,rfl,rfl,hH,hz,q⟩:=h;cases rx;obtain ⟨u,rfl,ru⟩:=rv.one;obtain ⟨z,its,n,r,hl,e⟩:=I.lstM hH;refine call_meets F.slot_list_append ⟨_,e,rfl⟩ F.entry_list_append (F.args_list_append_2 _ _) (PySem.list_append l its.toArray n u (by rw[List.size_toArray];omega)) ⟨e,?_⟩;refine ⟨.non,_,I.lset (its':=its++[u]) hH e xws (r.append (.cons ru .nil)) ?_,rfl,q⟩;rw[List.length_append,List.length_singleton];omega
def zt9:V->List V->Hp->VK->Prop:=λx vs H Q=>∃ l b xs zs,x=.ref l/\vs=[.ref b]/\H l=some (.lst xs)/\H b=some (.lst zs)/\xs.length+zs.length<=sizeLine/\Q .non (upd H l (.lst (xs++zs)))
theorem zoL:MtM X "list.extend" zt9:=by
 intro pS s Y H x vs v us Q I rx rv h;obtain ⟨l,b,xs,zs,rfl,rfl,hH,hB,hz,q⟩:=h;cases rx;obtain ⟨u,rfl,ru⟩:=rv.one;cases ru;obtain ⟨z,its,n,r,hl,e⟩:=I.lstM hH;obtain ⟨z2,its2,n2,r2,hl2,e2⟩:=I.lstM hB;have hsz:its.toArray.size+its2.toArray.size<=sizeLine:=by rw[List.size_toArray,List.size_toArray];omega
 have hlong:¬ (!its.toArray.isEmpty && Builtin.List.listTooLong (its.toArray.size+its2.toArray.size))=true:=by rw[zlB hsz,Bool.and_false];exact Bool.false_ne_true
 refine call_meets F.slot_list_extend ⟨_,e,rfl⟩ F.entry_list_extend (F.args_list_extend_2 _ _)
  (AutoSeq1.list_extend_list_list_0 l its.toArray n b its2.toArray n2 hlong (by rw[List.size_toArray];omega) xwo) ⟨e,e2,?_⟩
 refine ⟨.non,_,I.lset (its':=its++its2) hH e xws (r.append r2) ?_,rfl,q⟩;rw[List.length_append];omega
def ztU:V->List V->Hp->VK->Prop:=λx vs H Q=>∃ l xs i k y,x=.ref l/\vs=[.int i]/\H l=some (.lst xs)/\-(2 ^ 63)<=i/\i<2 ^ 63/\seqIndex? i xs.length=some k/\xs[k]? = some y/\Q y (upd H l (.lst (xs.eraseIdx k)))
theorem zpz:MtM X "list.pop" ztU:=by
 intro pS s Y H x vs v us Q I rx rv h;obtain ⟨l,xs,i,k,y,rfl,rfl,hH,h1,h2,hk,hy,q⟩:=h;cases rx;obtain ⟨u,rfl,ru⟩:=rv.one;obtain ⟨t,rfl⟩:=ru;obtain ⟨z,its,n,r,hl,e⟩:=I.lstM hH;obtain ⟨w,hw,rw'⟩:=r.get hy;refine call_meets F.slot_list_pop ⟨_,e,rfl⟩ F.entry_list_pop (F.args_list_pop_2 _ _)
  (MeetsSeq.list_pop_at l its.toArray n i t k w (fitsIndex_both h1 h2) (by rw[List.size_toArray,<- hl];exact hk) (by rw[<- Array.getElem?_toList];exact hw) (by rw[List.size_toArray];omega)) ⟨e,?_⟩
 refine ⟨y,_,I.lset (its':=its.eraseIdx k) hH e ?_ (r.eraseIdx k) ?_,rw',q⟩
 ·show its.toArray.eraseIdxIfInBounds k=(its.eraseIdx k).toArray;rw[List.eraseIdxIfInBounds_toArray]
 ·have:=zjQ xs k;omega
def rCat:R2:=λx y H Q=>∃ l b xs zs,x=.ref l/\y=.ref b/\H l=some (.lst xs)/\H b=some (.lst zs)/\xs.length+zs.length<=sizeLine/\∀ p,H p=none->Q (.ref p) (upd H p (.lst (xs++zs)))
theorem zu1:OpR X (binaryOp .Add) rCat:=by
 intro pS s Y H x y v u Q I rx ry h;obtain ⟨l,b,xs,zs,rfl,rfl,hH,hB,hz,q⟩:=h;cases rx;cases ry;obtain ⟨z,its,n,r,hl,e⟩:=I.lstM hH;obtain ⟨z2,its2,n2,r2,hl2,e2⟩:=I.lstM hB;refine PySem.P.add_list e e2 ?_ (by rw[List.size_toArray,List.size_toArray];omega);have ea:its.toArray++its2.toArray=(its++its2).toArray:=by simp
 rw[ea];exact ⟨.ref _,_,I.lnew (t':=s.toks) (r.append r2) (by rw[List.length_append];omega),rfl,q _ I.fresh⟩
end
section
variable{prog:Program}{w:World}{A:Around}{E:Value->Shared->Prop}{s:Shared}
set_option maxRecDepth 100000 in
end
section
variable{X:Cx}
end
end L2
namespace Att
open PySem PySem.W PySem.Calls PyProof.Rows
theorem zgz{P:Params}{h:Heap}:∀(ns:List Int)(vs:List Value),WellAll P h vs (ns.map WData.int)->IntsAre vs ns:=by
 intro ns
 induction ns with
 |nil =>
  intro vs w;rw[List.map_nil] at w;cases w;exact .nil
 |cons n ns ih =>
  intro vs w;rw[List.map_cons] at w;cases w with
  |cons a b =>
   cases a;exact .cons _ _ (ih _ b)
theorem znO{l:OpenLaw}{n:Nat}(hn:l.most=some n){P:Params}{h:Heap}{args:List WData}{vals:List Value}
  (hpre:l.row.toRowW.claim.pre args=true) (hwl:WellAll P h vals args) :
  ∃ a vs ns,vals=[Value.ref a]/\args=[WData.list (ns.map WData.int)]/\h.get? a=some { cls:=.type "list",data:=.seq vs.toArray }/\IntsAre vs ns/\ns.length<=n:=by
 have hsh:WShape.hasAll [] args [.list .int]=true:=(pre_splitW hpre).1;have hc:l.pre.holds [] { args:=args }=true:=(pre_splitW hpre).2;obtain ⟨d,r,rfl,h1,h2⟩:=hasAllW_cons hsh;obtain rfl:=hasAllW_nil h2;obtain ⟨xs,rfl,h3⟩:=hasW_list h1;obtain ⟨ns,rfl⟩:=items_int h3;have hlen:ns.length<=n:=by
  unfold OpenLaw.pre at hc;have h4:(WTm.not (.lt (.lit (.int (n:Int))) (.len (.arg 0)))).holds [] { args:=[.list (ns.map .int)] }=true:=by have h4:=(holds_andW hc).1;rw[hn] at h4;exact h4
  have h5:=condW_of h4 (w_not (w_lt w_lit (w_len_list (w_arg rfl))));rw[List.length_map] at h5;refine Nat.le_of_not_lt λq=>?_;have q':(n:Int)<((ns.length:Nat):Int):=by omega
  first
   | (rw[decide_eq_true q'] at h5;exact absurd h5 xwd)
   | (simp at h5;omega)
 cases hwl with
 |cons w1 w2 =>
  cases w2;cases w1 with
  |list ho hall=>exact ⟨_,_,ns,rfl,rfl,ho,zgz ns _ hall,hlen⟩
theorem zoZ(l:OpenLaw)(args:List WData):l.row.toRowW.claim.post args (.bool true) args=true :=
 postW_of (r:=l.row.toRowW) (X:=(true == true))
  (show WShape.has [] (.bool true) .bool=true by first|rfl|decide|simp[WShape.has,WShape.arms,WShape.armsAll])
  (show (WTm.eq .res (.lit (.bool true))).value [] { args:=args,res:=some (.bool true),after:=args }=some (.bool (true == true)) from w_eq_bool (w_res rfl) w_lit) rfl
theorem attach_call{l:OpenLaw}{n:Nat}{q:Program}{loose:List Str}{XP:(Str->Option Value)->Heap->Prop}{YP:World->Heap->Prop}{d:DefRec}
  (hn:l.most=some n) (hdf:d.params.defaults=[])
  (call:∀(w:World)(s₀ s₁:Shared)(mg mb:Str->Option Value)(fa:Addr)(o:Obj)(pm cd doc:Value)(a:Addr)(vs:List Value)(ns:List Int),
   Ground q loose [] XP w s₀ mg mb s₁.heap->YP w s₁.heap ->
   s₁.heap.get? fa=some o->o.data=.func (docDef d.name d.params d.body d.scope pm cd doc)->s₁.heap.CodeRec cd d.name->mg d.name=some (.ref fa) ->
   s₁.heap.get? a=some { cls:=.type "list",data:=.seq vs.toArray }->IntsAre vs ns->ns.length<=n->s₁.gens=#[] ->
   codeAny (model l.prog w) callerA (.call (.ref fa) ⟨[.ref a],[]⟩) (λr s'=>r=.ok (.ret (.bool true))/\OldK s₁.heap s'.heap/\s'.os=s₁.os/\AllBare s'.gens) s₁) :
  WalkO q loose XP YP l.row.toRowW d [] (λf vs=>PySem.call f vs):=by
 intro w s₀ s₁ mg mb G Yq fa o pm cd doc dV kV ho hd hcd hD hmg hg args vals as hpre hlay hrd hwl hlo;obtain rfl:dV=.none:=Dflts.none hD hdf;obtain rfl:kV=.none:=Dflts.noKw hD;obtain ⟨a,vs,ns,rfl,rfl,hobj,hints,hlen⟩:=znO hn hpre hwl;refine enter_call (codeAny_mono (call w s₀ s₁ mg mb fa o pm cd doc a vs ns G Yq ho (fd_plain hd) hcd hmg hobj hints hlen hg) λr s' hq=>?_);obtain ⟨rfl,h2,h3,h4⟩:=hq;exact ⟨.inl ⟨.bool true,.bool true,[],rfl,λ_=>rfl,.bool true,zoZ l _,λ_=>⟨List.Pairwise.nil,λ_ hm=>(nomatch hm)⟩⟩,h2,h3,h4⟩
section
variable{prog:Program}{w:World}{A:Around}{E:Value->Shared->Prop}{s:Shared}{K:Frag}
end
end Att
namespace L2
open PySem PySem.Spec PyProof.Rows
theorem vals_ints:∀{vs:List Value}{ns:List Int},IntsAre vs ns->zaW (ns.map V.int) vs
 |_,_,.nil=>.nil
 |_,_,.cons n t h=>.cons ⟨t,rfl⟩ (vals_ints h)
end L2
namespace L2
open PySem PySem.Spec PyProof.Rows
end L2
namespace L2
open PySem PySem.Spec PyProof.Rows
def zeI(s:Stmt):Arguments:=match s with
 |.FunctionDef _ a _ _ _ _ _ _ _ _=>a
 |_=>{ posonlyargs:=[],args:=[],vararg:=none,kwonlyargs:=[],kw_defaults:=[],kwarg:=none,defaults:=[] }
def zcr(s:Stmt):List Stmt:=match s with
 |.FunctionDef _ _ b _ _ _ _ _ _ _=>b
 |_=>[]
def zal(s:Stmt):Scope:=match s with
 |.FunctionDef _ _ _ _ _ _ sc _ _ _=>sc
 |_=>{ kind:=.function,names:=[],isGenerator:=false,isCoroutine:=false }
abbrev CX0:CXT:=λ_ _ _ _ _ _=>False
structure Fun(K:W.Frag)(x qual:Str)(st:Stmt)(f:Addr)(fd:FuncData):Prop where
 ex:∃(oc:Value)(od:Option Addr)(kV doc pm:Value)(an:Option Addr)(cdv ct:Value)(osl:Array (Option Value)),
  fd=W.fnOf x qual (zeI st) (zcr st) (zal st) .none kV doc pm an cdv ct/\K.lookup f=some ⟨oc,od,.func fd,osl⟩/\W.codeIn K cdv qual=true
 kp:W.keepIn K (.ref f)=true
section
variable{P:Program}{w:World}{K:W.Frag}{mg:Str->Option Value}{base:Heap}
theorem Fun.ok{x qual:Str}{st:Stmt}{f:Addr}{fd:FuncData}{N ps:List Str}{k:Nat}{sp:Sp}(F:Fun K x qual st f fd)(S:zay N ps (zal st))(len:∀ vs H Q E,sp vs H Q E->vs.length=ps.length)
  (hbody:∀(cdv:Value)(A:Around)(outer:List Env)(s:Shared)(H:Hp)(vs:List V)(Q:VK)(E:XK),zdD k (A.deeper (envOfC qual (zal st) s.heap.objs.size f cdv))->sp vs H Q E ->
   ∃ t,PSs (zlo CX0 P w K mg base N qual (zal st) f cdv A outer s H E).nox (zcr st) t/\t { nx:=λ_ H'=>Q .non H',rt:=Q } (start N vs) H):zff P w K mg base CX0 (k+1) f fd ps sp:=by
 obtain ⟨oc,od,kV,doc,pm,an,cdv,ct,osl,rfl,lk,hcd⟩:=F.ex;refine zt8 lk hcd S len λA outer s H vs Q E hr hsp=>?_;obtain ⟨t,h,q⟩:=hbody cdv A outer s H vs Q E hr hsp;exact ⟨t,h.nox,q⟩
theorem Fun.binds{x qual:Str}{st:Stmt}{f:Addr}{fd:FuncData}{ps:List Str}(F:Fun K x qual st f fd)
  (h:∀(kV doc pm:Value)(an:Option Addr)(cdv ct:Value)(us:List Value),us.length=ps.length->bindArgs (W.fnOf x qual (zeI st) (zcr st) (zal st) .none kV doc pm an cdv ct) ⟨us,[]⟩=pure (ps.zip us)):zf2 K fd ps []:=by
 obtain ⟨oc,od,kV,doc,pm,an,cdv,ct,osl,rfl,lk,hcd⟩:=F.ex;exact .all (h kV doc pm an cdv ct)
theorem zra{x qual:Str}{st:Stmt}{f:Addr}{oc:Value}{od an:Option Addr}{osl:Array (Option Value)}{kV doc pm cdv ct:Value}(l:K.lookup f=some ⟨oc,od,.func (W.fnOf x qual (zeI st) (zcr st) (zal st) .none kV doc pm an cdv ct),osl⟩)
  (c:W.codeIn K cdv qual=true) (k:W.keepIn K (.ref f)=true):Fun K x qual st f (W.fnOf x qual (zeI st) (zcr st) (zal st) .none kV doc pm an cdv ct):=⟨⟨oc,od,kV,doc,pm,an,cdv,ct,osl,rfl,l,c⟩,k⟩
end
section
variable{X:Cx}
end
theorem iteF{A B:Prop}(h:B):if false=true then A else B:=by rw[if_neg Bool.false_ne_true];exact h
theorem iteT{A B:Prop}(h:A):if true=true then A else B:=by rw[if_pos rfl];exact h
def zbR(H H':Hp):Prop:=∀ b o,H b=some o->H' b=some o
theorem zbR.refl(H:Hp):zbR H H:=λ_ _ h=>h
theorem zbR.trans{H H1 H2:Hp}(a:zbR H H1)(b:zbR H1 H2):zbR H H2:=λc o h=>b c o (a c o h)
theorem zbR.free{H H':Hp}(e:zbR H H'){l:Addr}(h:H' l=Option.none):H l=Option.none:=by
 cases q:H l with
 |none=>rfl
 |some o =>
  rw[e l o q] at h;cases h
theorem zbR.seq{K:W.Frag}{H H':Hp}{a:Addr}{xs:List V}(e:zbR H H')(h:SqL K H a xs):SqL K H' a xs:=by
 rcases h with (h|⟨o,h⟩)|h
 ·exact .inl (.inl (e _ _ h))
 ·exact .inl (.inr ⟨o,e _ _ h⟩)
 ·exact .inr h
section
variable{κ:Type} [DecidableEq κ]
def zpp(kvs:List (κ×V))(k:κ):Option V:=(kvs.find? λkv=>decide (kv.1=k)).map (·.2)
def zvB(kvs:List (κ×V))(k:κ)(v:V):List (κ×V) :=
 if (kvs.any λkv=>decide (kv.1=k))=true then kvs.map (λkv=>if kv.1=k then (kv.1,v) else kv) else kvs++[(k,v)]
def zuB(kvs:List (κ×V))(k:κ):List (κ×V):=kvs.filter λkv=>decide (kv.1≠k)
theorem zlG{p:κ×V}{r:List (κ×V)}{k:κ}(e:p.1=k):zpp (p::r) k=some p.2:=by simp[zpp,List.find?_cons,e]
theorem zmk{p:κ×V}{r:List (κ×V)}{k:κ}(e:¬ p.1=k):zpp (p::r) k=zpp r k:=by simp[zpp,List.find?_cons,e]
theorem ztF.getD{o:Option V}{u:Option Value}{d:V}{d':Value}(r:ztF o u)(rd:zbO d d'):zbO (o.getD d) (u.getD d'):=by
 cases o with
 |none=>cases u with
  |none=>exact rd
  |some _=>exact (show False from r).elim
 |some _=>cases u with
  |none=>exact (show False from r).elim
  |some _=>exact r
theorem KV.val{kvs:List (κ×V)}{vs:List (κ×Value)}(r:KV kvs vs)(k:κ):ztF (zpp kvs k) (valueAt vs k):=by
 unfold KV at r
 induction r with
 |nil=>exact True.intro
 |@cons p q ps qs h t ih =>
  obtain ⟨h1,h2⟩:=h;by_cases e:p.1=k
  ·have e':q.1=k:=h1.symm.trans e;have b:valueAt (q::qs) k=some q.2:=by simp[valueAt,List.find?_cons,e']
   rw[zlG e,b];exact h2
  ·have e':¬ q.1=k:=λz=>e (h1.trans z);have b:valueAt (q::qs) k=valueAt qs k:=by simp[valueAt,List.find?_cons,e']
   rw[zmk e,b];exact ih
theorem KV.any{kvs:List (κ×V)}{vs:List (κ×Value)}(r:KV kvs vs)(k:κ):(kvs.any λkv=>decide (kv.1=k))=vs.any λkv=>decide (kv.1=k):=by
 unfold KV at r
 induction r with
 |nil=>rfl
 |cons h t ih=>rw[List.any_cons,List.any_cons,ih,h.1]
theorem KV.drop{kvs:List (κ×V)}{vs:List (κ×Value)}(r:KV kvs vs)(k:κ):KV (zuB kvs k) (without vs k):=by
 unfold KV at r ⊢;unfold zuB without
 induction r with
 |nil=>exact .nil
 |@cons p q ps qs h t ih =>
  obtain ⟨h1,h2⟩:=h;rw[List.filter_cons,List.filter_cons];by_cases e:p.1=k
  ·have a:¬ decide (p.1≠k)=true:=by simp[e]
   have b:¬ decide (q.1≠k)=true:=by simp[h1.symm.trans e]
   rw[if_neg a,if_neg b];exact ih
  ·have e':¬ q.1=k:=λz=>e (h1.trans z);have a:decide (p.1≠k)=true:=by simp[e]
   have b:decide (q.1≠k)=true:=by simp[e']
   rw[if_pos a,if_pos b];exact .cons ⟨h1,h2⟩ ih
theorem KV.length{kvs:List (κ×V)}{vs:List (κ×Value)}(r:KV kvs vs):kvs.length=vs.length:=Paired.length r
end
abbrev KT(H:Hp):List (List Key×V)->List (List Key×Addr×Value)->Prop:=Paired λp q=>p.1=q.1/\H q.2.1=some (.tup (p.1.map kV))/\zbO p.2 q.2.2
theorem KT.val{H:Hp}{kvs:List (List Key×V)}{xs:List (List Key×Addr×Value)}(r:KT H kvs xs)(k:List Key):ztF (zpp kvs k) ((atKey xs k).map (·.2)):=by
 induction r with
 |nil=>exact True.intro
 |@cons p q ps qs h t ih =>
  obtain ⟨h1,_,h2⟩:=h;by_cases e:p.1=k
  ·have e':q.1=k:=h1.symm.trans e;have b:atKey (q::qs) k=some q.2:=by simp[atKey,List.find?_cons,e']
   rw[zlG e,b];exact h2
  ·have e':¬ q.1=k:=λz=>e (h1.trans z);have b:atKey (q::qs) k=atKey qs k:=by simp[atKey,List.find?_cons,e']
   rw[zmk e,b];exact ih
theorem KT.keeps{H H':Hp}{kvs:List (List Key×V)}{xs:List (List Key×Addr×Value)}(r:KT H kvs xs)(ht:∀ b ys,H b=some (.tup ys)->H' b=some (.tup ys)):KT H' kvs xs :=
 Paired.mapP r λ_ _ z=>⟨z.1,ht _ _ z.2.1,z.2.2⟩
section
variable{P:Program}{w:World}{H:Hp}{h:Heap}{a:Addr}
end
def DGet(H:Hp)(a:Addr)(y:V)(r:Option V):Prop :=
 (∃ kvs k,Rd H a (.dK kvs)/\y=kV k/\r=zpp kvs k)\/∃ kvs k b,Rd H a (.dT kvs)/\y=.ref b/\H b=some (.tup (k.map kV))/\r=zpp kvs k
def DPut(H:Hp)(a:Addr)(y v:V)(H':Hp):Prop :=
 (∃ kvs k,H a=some (.dK kvs)/\y=kV k/\kvs.length<sizeLine/\H'=upd H a (.dK (zvB kvs k v))) \/
 ∃ kvs k b,H a=some (.dT kvs)/\y=.ref b/\H b=some (.tup (k.map kV))/\kvs.length<sizeLine/\H'=upd H a (.dT (zvB kvs k v))
theorem DGet.k{H:Hp}{a:Addr}{kvs:List (Key×V)}{k:Key}(e:H a=some (.dK kvs)):DGet H a (kV k) (zpp kvs k):=.inl ⟨kvs,k,.inl e,rfl,rfl⟩
theorem DPut.k{H:Hp}{a:Addr}{kvs:List (Key×V)}{k:Key}{v:V}(e:H a=some (.dK kvs))(hl:kvs.length<sizeLine):DPut H a (kV k) v (upd H a (.dK (zvB kvs k v))):=.inl ⟨kvs,k,e,rfl,hl,rfl⟩
section
variable{X:Cx}{pS:List (Addr×Obj)}{Y:St}{H:Hp}{s:Shared}{a:Addr}{y v:V}{u r:Value}{o:Option V}{A:Around}{E:Value->Shared->Prop}
end
section
variable{X:Cx}{pS:List (Addr×Obj)}{Y:St}{H:Hp}{s:Shared}{a:Addr}{kvs:List (Key×V)}{k:Key}{u:Value}{A:Around}{E:Value->Shared->Prop}
end
section
variable{X:Cx}{o i e value:Expr}{pos pos' tpos:Pos}{td ty tv:TE}
end
section
variable{X:Cx}{pos:Pos}
end
structure M1(X:Cx)(o:Expr)(m:Str)(apos:Pos)(e:Expr)(cpos:Pos):Prop where
 base:attributeBase o m X.env (eval o X.env)=eval o X.env
 few:((backTo cpos (starEach [e] X.env)).all (λx=>!x.1) && (backToKw cpos (keywordEach [] X.env)).all (λx=>x.1.isSome)
  && decide (([e]:List Expr).length+([]:List Keyword).length+(if ([]:List Keyword).isEmpty then 0 else 1)<30))=true
 line:(apos.endLine == cpos.line)=true
 trees:backTo cpos (starEach [e] X.env)=[(false,eval e X.env)]
structure M2(X:Cx)(o:Expr)(m:Str)(apos:Pos)(e f:Expr)(cpos:Pos):Prop where
 base:attributeBase o m X.env (eval o X.env)=eval o X.env
 few:((backTo cpos (starEach [e,f] X.env)).all (λx=>!x.1) && (backToKw cpos (keywordEach [] X.env)).all (λx=>x.1.isSome)
  && decide (([e,f]:List Expr).length+([]:List Keyword).length+(if ([]:List Keyword).isEmpty then 0 else 1)<30))=true
 line:(apos.endLine == cpos.line)=true
 trees:backTo cpos (starEach [e,f] X.env)=[(false,eval e X.env),(false,eval f X.env)]
section
variable{X:Cx}{pS:List (Addr×Obj)}{Y:St}{H:Hp}{s:Shared}{a:Addr}{y d:V}{u r:Value}{o:Option V}{A:Around}{E:Value->Shared->Prop}
end
section
variable{X:Cx}{o e f:Expr}{apos cpos:Pos}{td ty tx:TE}
end
end L2
end
section
namespace PV
open PySem PySem.Spec L2
inductive Dt where
 |non|bl (b:Bool)|int (i:Int)|str (x:Str)|tup (l:List Dt)|lst (l:List Dt)|dct (ks:List (Int×Int))|scr (ns:List Int)
inductive B where
 |val (d:Dt)|own (l:List Dt)|own2 (l:List (List Dt))|dic (l:List (Int×Dt))|tab (q:Str)|opq|exc (C:Addr)
abbrev Ev:=List (Option B)
inductive R(α:Type) where
 |ok (a:α)|er (n:Nat)|no
def R.bind{α β:Type}(r:R α)(f:α->R β):R β:=match r with
 |.ok a=>f a
 |.er n=>.er n
 |.no=>.no
@[simp] theorem R.bind_ok {α β:Type} (a:α) (f:α->R β):(R.ok a).bind f=f a:=rfl
@[simp] theorem R.bind_er {α β:Type} (n:Nat) (f:α->R β):(R.er n).bind f=.er n:=rfl
@[simp] theorem R.bind_no {α β:Type} (f:α->R β):(R.no).bind f=.no:=rfl
theorem R.bind_assoc{α β γ:Type}(r:R α)(f:α->R β)(g:β->R γ):(r.bind f).bind g=r.bind λa=>(f a).bind g:=by
 cases r <;> rfl
def zhz(K:W.Frag)(H:Hp)(a:Addr)(xs:List V):Prop :=
 H a=some (.tup xs)\/∃(its:Array Value)(n:Nat),K.lookup a=some { cls:=.type "tuple",data:=.seq its n }/\its.size<=sizeLine/\zaW xs its.toList
theorem zhz.of{K:W.Frag}{H:Hp}{a:Addr}{xs:List V}(h:H a=some (.tup xs)):zhz K H a xs:=.inl h
theorem zhz.sq{K:W.Frag}{H:Hp}{a:Addr}{xs:List V}(h:zhz K H a xs):SqT K H a xs:=by
 rcases h with h|⟨its,n,h1,h2,h3⟩
 ·exact .inl (.inl h)
 ·exact .inr ⟨_,its,n,h1,rfl,rfl,h2,h3⟩
theorem zhz.same{K:W.Frag}{H H':Hp}{a:Addr}{xs:List V}(e:zbR H H')(h:zhz K H a xs):zhz K H' a xs:=h.elim (λz=>.inl (e _ _ z)) .inr
mutual
def Rep(K:W.Frag)(G:Hp):Dt->V->Prop
 |.non,v=>v=.non
 |.bl b,v=>v=.bl b
 |.int i,v=>v=.int i
 |.str x,v=>v=.str x
 |.tup l,v=>∃ a vs,v=.ref a/\zhz K G a vs/\za1 K G l vs
 |.lst l,v=>∃ a vs,v=.ref a/\G a=some (.lst vs)/\za1 K G l vs
 |.dct ks,v=>∃ a,v=.ref a/\G a=some (.dK (ks.map λp=>(.inl p.1,.int p.2)))
 |.scr ns,v=>∃ a,v=.ref a/\SqL K G a (ns.map V.int)
def za1(K:W.Frag)(G:Hp):List Dt->List V->Prop
 |[],vs=>vs=[]
 |d::ds,vs=>∃ v r,vs=v::r/\Rep K G d v/\za1 K G ds r
end
theorem zaA{K:W.Frag}{H H':Hp}{a:Addr}{xs:List V}(e:zbR H H')(h:SqT K H a xs):SqT K H' a xs:=by
 rcases h with (h|⟨o,h⟩)|h
 ·exact .inl (.inl (e _ _ h))
 ·exact .inl (.inr ⟨o,e _ _ h⟩)
 ·exact .inr h
mutual
theorem Rep.same{K:W.Frag}{G G':Hp}(e:zbR G G'):∀{d:Dt}{v:V},Rep K G d v->Rep K G' d v
 |.non,_,h=>by unfold Rep at h ⊢;exact h
 |.bl _,_,h=>by unfold Rep at h ⊢;exact h
 |.int _,_,h=>by unfold Rep at h ⊢;exact h
 |.str _,_,h=>by unfold Rep at h ⊢;exact h
 |.tup l,_,h=>by unfold Rep at h ⊢;obtain ⟨a,vs,h1,h2,h3⟩:=h;exact ⟨a,vs,h1,h2.same e,za1.same e h3⟩
 |.lst l,_,h=>by unfold Rep at h ⊢;obtain ⟨a,vs,h1,h2,h3⟩:=h;exact ⟨a,vs,h1,e _ _ h2,za1.same e h3⟩
 |.dct _,_,h=>by unfold Rep at h ⊢;obtain ⟨a,h1,h2⟩:=h;exact ⟨a,h1,e _ _ h2⟩
 |.scr ns,_,h=>by unfold Rep at h ⊢;obtain ⟨a,h1,h2⟩:=h;exact ⟨a,h1,e.seq h2⟩
theorem za1.same{K:W.Frag}{G G':Hp}(e:zbR G G'):∀{ds:List Dt}{vs:List V},za1 K G ds vs->za1 K G' ds vs
 |[],_,h=>by unfold za1 at h ⊢;exact h
 |d::ds,_,h=>by unfold za1 at h ⊢;obtain ⟨v,r,h1,h2,h3⟩:=h;exact ⟨v,r,h1,Rep.same e h2,za1.same e h3⟩
end
theorem za1.nil{K:W.Frag}{G:Hp}:za1 K G [] []:=by unfold za1;rfl
theorem za1.cons{K:W.Frag}{G:Hp}{d:Dt}{ds:List Dt}{v:V}{vs:List V}(h:Rep K G d v)(t:za1 K G ds vs):za1 K G (d::ds) (v::vs):=by unfold za1;exact ⟨v,vs,rfl,h,t⟩
theorem za1.nil_inv{K:W.Frag}{G:Hp}{vs:List V}(h:za1 K G [] vs):vs=[]:=by unfold za1 at h;exact h
theorem za1.cons_inv{K:W.Frag}{G:Hp}{d:Dt}{ds:List Dt}{vs:List V}(h:za1 K G (d::ds) vs):∃ v r,vs=v::r/\Rep K G d v/\za1 K G ds r:=by unfold za1 at h;exact h
theorem za1.length{K:W.Frag}{G:Hp}:∀{ds:List Dt}{vs:List V},za1 K G ds vs->ds.length=vs.length
 |[],_,h=>by rw[h.nil_inv];rfl
 |d::ds,_,h=>by obtain ⟨v,r,rfl,_,h3⟩:=h.cons_inv;simp[za1.length h3]
theorem za1.get{K:W.Frag}{G:Hp}:∀{ds:List Dt}{vs:List V}{i:Nat}{d:Dt},za1 K G ds vs->ds[i]? = some d->∃ v,vs[i]? = some v/\Rep K G d v
 |[],_,_,_,_,e=>by simp at e
 |d::ds,_,0,_,h,e=>by obtain ⟨v,r,rfl,h2,h3⟩:=h.cons_inv;simp at e;subst e;exact ⟨v,rfl,h2⟩
 |d::ds,_,i+1,_,h,e=>by obtain ⟨v,r,rfl,h2,h3⟩:=h.cons_inv;obtain ⟨u,e1,e2⟩:=za1.get (i:=i) h3 (by simpa using e);exact ⟨u,by simpa using e1,e2⟩
theorem za1.append{K:W.Frag}{G:Hp}:∀{ds es:List Dt}{vs us:List V},za1 K G ds vs->za1 K G es us->za1 K G (ds++es) (vs++us)
 |[],_,_,_,h,t=>by rw[h.nil_inv];exact t
 |d::ds,_,_,_,h,t=>by obtain ⟨v,r,rfl,h2,h3⟩:=h.cons_inv;exact za1.cons h2 (za1.append h3 t)
theorem za1.take{K:W.Frag}{G:Hp}:∀(n:Nat){ds:List Dt}{vs:List V},za1 K G ds vs->za1 K G (ds.take n) (vs.take n)
 |0,_,_,_=>by simpa using za1.nil
 |n+1,[],_,h=>by rw[h.nil_inv];simpa using za1.nil
 |n+1,d::ds,_,h=>by obtain ⟨v,r,rfl,h2,h3⟩:=h.cons_inv;exact za1.cons h2 (za1.take n h3)
theorem za1.drop{K:W.Frag}{G:Hp}:∀(n:Nat){ds:List Dt}{vs:List V},za1 K G ds vs->za1 K G (ds.drop n) (vs.drop n)
 |0,_,_,h=>h
 |n+1,[],_,h=>by rw[h.nil_inv];simpa using za1.nil
 |n+1,d::ds,_,h=>by obtain ⟨v,r,rfl,h2,h3⟩:=h.cons_inv;exact za1.drop n h3
theorem za1.reverse{K:W.Frag}{G:Hp}:∀{ds:List Dt}{vs:List V},za1 K G ds vs->za1 K G ds.reverse vs.reverse
 |[],_,h=>by rw[h.nil_inv];exact za1.nil
 |d::ds,_,h=>by obtain ⟨v,r,rfl,h2,h3⟩:=h.cons_inv;rw[List.reverse_cons,List.reverse_cons];exact (za1.reverse h3).append (za1.cons h2 za1.nil)
theorem za1.set{K:W.Frag}{G:Hp}{d:Dt}{v:V}(hv:Rep K G d v):∀(i:Nat){ds:List Dt}{vs:List V},za1 K G ds vs->za1 K G (ds.set i d) (vs.set i v)
 |_,[],_,h=>by rw[h.nil_inv];exact za1.nil
 |0,d'::ds,_,h=>by obtain ⟨v,r,rfl,h2,h3⟩:=h.cons_inv;exact za1.cons hv h3
 |i+1,d'::ds,_,h=>by obtain ⟨v,r,rfl,h2,h3⟩:=h.cons_inv;exact za1.cons h2 (za1.set hv i h3)
theorem za1.eraseIdx{K:W.Frag}{G:Hp}:∀(i:Nat){ds:List Dt}{vs:List V},za1 K G ds vs->za1 K G (ds.eraseIdx i) (vs.eraseIdx i)
 |_,[],_,h=>by rw[h.nil_inv];exact za1.nil
 |0,d'::ds,_,h=>by obtain ⟨v,r,rfl,h2,h3⟩:=h.cons_inv;exact h3
 |i+1,d'::ds,_,h=>by obtain ⟨v,r,rfl,h2,h3⟩:=h.cons_inv;exact za1.cons h2 (za1.eraseIdx i h3)
theorem za1.dropLast{K:W.Frag}{G:Hp}{ds:List Dt}{vs:List V}(h:za1 K G ds vs):za1 K G ds.dropLast vs.dropLast:=by rw[List.dropLast_eq_take,List.dropLast_eq_take,h.length];exact h.take _
abbrev Wn:=Addr->Option Nat
structure zbu(G H:Hp)(w:Wn)(G' H':Hp)(w':Wn):Prop where
 g:zbR G G'
 fr:∀ b o,G' b=some o->G b≠none\/H b=none\/w b≠none
 h:∀ b o,H b=some o->w b=none->H' b=some o
 w:∀ b,w' b≠none->w b≠none\/H b=none
 k:∀ b,H' b=none->H b=none
theorem zbu.refl(G H:Hp)(w:Wn):zbu G H w G H w :=
 ⟨zbR.refl G,λb o e=>.inl (by rw[e];simp),λ_ _ e _=>e,λ_ e=>.inl e,λ_ e=>e⟩
theorem zbu.trans{G H G1 H1 G2 H2:Hp}{w w1 w2:Wn}(a:zbu G H w G1 H1 w1)(b:zbu G1 H1 w1 G2 H2 w2):zbu G H w G2 H2 w2:=by
 have hn:=a.k;refine ⟨a.g.trans b.g,λc o e=>?_,λc o e z=>?_,λc e=>?_,λc e=>a.k c (b.k c e)⟩
 ·rcases b.fr c o e with q|q|q
  ·cases q':G1 c with
   |none=>exact absurd q' q
   |some u=>exact a.fr c u q'
  ·exact .inr (.inl (hn c q))
  ·rcases a.w c q with z|z
   ·exact .inr (.inr z)
   ·exact .inr (.inl z)
 ·have e1:=a.h c o e z;refine b.h c o e1 ?_;cases q:w1 c with
  |none=>rfl
  |some k =>
   rcases a.w c (by rw[q];simp) with r|r
   ·exact absurd z r
   ·rw[e] at r;cases r
 ·rcases b.w c e with q|q
  ·exact a.w c q
  ·exact .inr (hn c q)
structure Cn where
 G₀:Hp
 H₀:Hp
 w₀:Wn
 pp:List Nat
 σ₀:St
 ex:Nat->Prop
 xv:Nat->Value
 nw:Bool
def RtG(nw:Bool)(K:W.Frag)(H0 G H:Hp)(w:Wn)(d:Dt)(v:V):Prop:=match nw with
 |false=>Rep K G d v
 |true=>∃ l p vs,d=.lst l/\v=.ref p/\H0 p=none/\H p=some (.lst vs)/\G p=none/\w p=none/\za1 K G l vs
def cHO(c:Addr)(q:Str):HO:=.ext λh=>h.CodeRec (.ref c) q
def xHO(l C:Addr):HO:=.ext λh=>∃ o vs,h.get? l=some o/\o.cls=.ref C/\o.data=.fields vs
def RB(K:W.Frag)(G H:Hp)(w:Wn)(i:Nat)(v:V):B->Prop
 |.val d=>Rep K G d v
 |.own ds=>∃ a vs,v=.ref a/\w a=some i/\H a=some (.lst vs)/\za1 K G ds vs
 |.own2 dss=>∃ a as,v=.ref a/\w a=some i/\H a=some (.lst (as.map V.ref))/\(a::as).Nodup/\Paired (λb ds=>w b=some i/\∃ vs,H b=some (.lst vs)/\za1 K G ds vs) as dss
 |.tab q=>∃ P ps,v=.ref P/\w P=some i/\H P=some (.tbl ps)/\TriplesOk ps.toList/\∀ pos cv,codeAmong pos ps.toList=some cv->∃ c,cv=.ref c/\G c=some (cHO c q)
 |.dic ds=>∃ a us,v=.ref a/\w a=some i/\H a=some (.dK us)/\Paired (λ(p:Int×Dt) (q:Key×V)=>q.1=.inl p.1/\Rep K G p.2 q.2) ds us
 |.opq=>True
 |.exc C=>∃ l,v=.ref l/\G l=some (xHO l C)
structure Rel(K:W.Frag)(C:Cn)(G:Hp)(w:Wn)(Z:Ev)(Y:St)(H:Hp):Prop where
 gh:zbR G H
 wg:∀ b,w b≠none->G b=none
 wh:∀ b,w b≠none->H b≠none
 len:Z.length = Y.length
 sl:∀ i b,Z[i]? = some (some b)->∃ v,Y[i]? = some (some v)/\RB K G H w i v b
 en:zbu C.G₀ C.H₀ C.w₀ G H w
 pin:∀ i∈C.pp,Y[i]? = C.σ₀[i]?
structure zeh(G H G' H':Hp):Prop where
 g:zbR G G'
 h:zbR H H'
 gh:zbR G' H'
 fr:∀ b o,G' b=some o->G b≠none\/H b=none
theorem zeh.refl{G H:Hp}(e:zbR G H):zeh G H G H:=⟨.refl _,.refl _,e,λb o q=>.inl (by rw[q];simp)⟩
theorem zeh.trans{G H G1 H1 G2 H2:Hp}(a:zeh G H G1 H1)(b:zeh G1 H1 G2 H2):zeh G H G2 H2 :=
 ⟨a.g.trans b.g,a.h.trans b.h,b.gh,λc o e=>by
  rcases b.fr c o e with q|q
  ·cases q':G1 c with
   |none=>exact absurd q' q
   |some u=>exact a.fr c u q'
  ·exact .inr (a.h.free q)⟩
theorem zeh.step{G H G' H':Hp}{w:Wn}(a:zeh G H G' H'):zbu G H w G' H' w :=
 ⟨a.g,λb o e=>(a.fr b o e).elim .inl λz=>.inr (.inl z),λb o e _=>a.h b o e,λ_ e=>.inl e,λ_ e=>a.h.free e⟩
theorem zen{α β:Type}{F F':α->β->Prop}(f:∀ a b,F a b->F' a b):∀{l₁:List α}{l₂:List β},Paired F l₁ l₂->Paired F' l₁ l₂
 |_,_,.nil=>.nil
 |_,_,.cons r t=>.cons (f _ _ r) (zen f t)
theorem RB.grow{K:W.Frag}{G H G' H':Hp}{w w':Wn}{i j:Nat}{v:V}{b:B}(g:zbR G G')(h:∀ a o,w a=some i->H a=some o->H' a=some o/\w' a=some j)(r:RB K G H w i v b):RB K G' H' w' j v b:=by
 cases b with
 |val d=>exact Rep.same g r
 |own ds =>
  obtain ⟨a,vs,h1,h2,h3,h4⟩:=r;obtain ⟨e1,e2⟩:=h a _ h2 h3;exact ⟨a,vs,h1,e2,e1,za1.same g h4⟩
 |own2 dss =>
  obtain ⟨a,as,h1,h2,h3,h4,h5⟩:=r;obtain ⟨e1,e2⟩:=h a _ h2 h3;refine ⟨a,as,h1,e2,e1,h4,zen (λb ds ⟨q1,vs,q2,q3⟩=>?_) h5⟩;obtain ⟨e1,e2⟩:=h b _ q1 q2;exact ⟨e2,vs,e1,za1.same g q3⟩
 |tab q =>
  obtain ⟨P,ps,h1,h2,h3,h4,h5⟩:=r;obtain ⟨e1,e2⟩:=h P _ h2 h3;exact ⟨P,ps,h1,e2,e1,h4,λpos cv e=>let ⟨c,q1,q2⟩:=h5 pos cv e;⟨c,q1,g _ _ q2⟩⟩
 |dic ds =>
  obtain ⟨a,us,h1,h2,h3,h4⟩:=r;obtain ⟨e1,e2⟩:=h a _ h2 h3;exact ⟨a,us,h1,e2,e1,zen (λp q z=>⟨z.1,Rep.same g z.2⟩) h4⟩
 |opq=>exact trivial
 |exc C =>
  obtain ⟨l,h1,h2⟩:=r;exact ⟨l,h1,g _ _ h2⟩
theorem Rel.grow{K:W.Frag}{C:Cn}{G H G' H':Hp}{w:Wn}{Z:Ev}{Y:St}(r:Rel K C G w Z Y H)(a:zeh G H G' H'):Rel K C G' w Z Y H':=by
 refine ⟨a.gh,λb e=>?_,λb e z=>r.wh b e (a.h.free z),r.len,λi b e=>?_,r.en.trans a.step,r.pin⟩
 ·cases q:G' b with
  |none=>rfl
  |some o =>
   rcases a.fr b o q with z|z
   ·exact absurd (r.wg b e) z
   ·exact absurd z (r.wh b e)
 ·obtain ⟨v,h1,h2⟩:=r.sl i b e;exact ⟨v,h1,h2.grow a.g λa' o e1 e2=>⟨a.h _ _ e2,e1⟩⟩
theorem zeh.new{G H:Hp}{p:Addr}{o:HO}(gh:zbR G H)(hp:H p=none):zeh G H (upd G p o) (upd H p o):=by
 refine ⟨λb u e=>?_,λb u e=>?_,λb u e=>?_,λb u e=>?_⟩
 ·rw[zag (zah (gh b u e) hp)];exact e
 ·rw[zag (zah e hp)];exact e
 ·by_cases hb:b=p
  ·subst hb;rw[zan] at e ⊢;exact e
  ·rw[zag hb] at e ⊢;exact gh b u e
 ·by_cases hb:b=p
  ·subst hb;exact .inr hp
  ·rw[zag hb] at e;exact .inl (by rw[e];simp)
theorem zeh.newH{G H:Hp}{p:Addr}{o:HO}(gh:zbR G H)(hp:H p=none):zeh G H G (upd H p o):=by
 refine ⟨.refl _,λb u e=>?_,λb u e=>?_,λb u e=>.inl (by rw[e];simp)⟩
 ·rw[zag (zah e hp)];exact e
 ·rw[zag (zah (gh b u e) hp)];exact gh b u e
def zcm{α:Type}(ex:Nat->Prop)(κ:α->Prop):R α->Prop
 |.ok a=>κ a
 |.er n=>ex n
 |.no=>False
def kE(K:W.Frag)(C:Cn)(Y:St)(Q:VK)(G H:Hp)(w:Wn)(a:Dt×Ev):Prop :=
 ∀ v G' H' w',zbu G H w G' H' w'->Rel K C G' w' a.2 Y H'->Rep K G' a.1 v->Q v H'
def kT(K:W.Frag)(C:Cn)(Y:St)(Q:Bool->Hp->Prop)(G H:Hp)(w:Wn)(a:Bool×Ev):Prop :=
 ∀ G' H' w',zbu G H w G' H' w'->Rel K C G' w' a.2 Y H'->Q a.1 H'
def kN(K:W.Frag)(C:Cn)(Y:St)(Q:VK)(G H:Hp)(w:Wn)(a:List Dt×Ev):Prop :=
 ∀ p vs G' H' w',zbu G H w G' H' w'->Rel K C G' w' a.2 Y H'->H p=none->H' p=some (.lst vs)->G' p=none->w' p=none->za1 K G' a.1 vs->Q (.ref p) H'
inductive Fl where
 |nx|bk|ct|rt (d:Dt)
def kS(K:W.Frag)(C:Cn)(D:zru)(G H:Hp)(w:Wn)(a:Fl×Ev):Prop :=
 match a.1 with
 |.nx=>∀ Y' G' H' w',zbu G H w G' H' w'->Rel K C G' w' a.2 Y' H'->D.nx Y' H'
 |.bk=>∀ Y' G' H' w',zbu G H w G' H' w'->Rel K C G' w' a.2 Y' H'->D.bk Y' H'
 |.ct=>∀ Y' G' H' w',zbu G H w G' H' w'->Rel K C G' w' a.2 Y' H'->D.ct Y' H'
 |.rt d=>∀ v Y' G' H' w',zbu G H w G' H' w'->Rel K C G' w' a.2 Y' H'->RtG C.nw K C.H₀ G' H' w' d v->D.rt v H'
abbrev De:=Ev->R (Dt×Ev)
abbrev DT:=Ev->R (Bool×Ev)
abbrev DN:=Ev->R (List Dt×Ev)
abbrev DS:=Ev->R (Fl×Ev)
def tE(K:W.Frag)(C:Cn)(f:De):TE:=λY H Q=>∃ G w Z,Rel K C G w Z Y H/\zcm C.ex (kE K C Y Q G H w) (f Z)
def tT(K:W.Frag)(C:Cn)(f:DT):TT:=λY H Q=>∃ G w Z,Rel K C G w Z Y H/\zcm C.ex (kT K C Y Q G H w) (f Z)
def tN(K:W.Frag)(C:Cn)(f:DN):TE:=λY H Q=>∃ G w Z,Rel K C G w Z Y H/\zcm C.ex (kN K C Y Q G H w) (f Z)
def tS(K:W.Frag)(C:Cn)(f:DS):TS:=λD Y H=>∃ G w Z,Rel K C G w Z Y H/\zcm C.ex (kS K C D G H w) (f Z)
abbrev JE(X:Cx)(C:Cn)(e:Expr)(f:De):Prop:=PE X e (tE X.K C f)
abbrev JT(X:Cx)(C:Cn)(e:Expr)(f:DT):Prop:=PT X e (tT X.K C f)
abbrev JW(X:Cx)(C:Cn)(e:Expr)(f:DT):Prop:=PW X e (tT X.K C f)
abbrev JN(X:Cx)(C:Cn)(e:Expr)(f:DN):Prop:=PE X e (tN X.K C f)
abbrev JS(X:Cx)(C:Cn)(st:Stmt)(f:DS):Prop:=PS X st (tS X.K C f)
abbrev JSs(X:Cx)(C:Cn)(st:List Stmt)(f:DS):Prop:=PSs X st (tS X.K C f)
abbrev zqH(α:Type):=Hp->Hp->Wn->α->Prop
def Stp{α:Type}(κ:zqH α):Prop:=∀ G H w G1 H1 w1 a,zbu G H w G1 H1 w1->κ G H w a->κ G1 H1 w1 a
section
variable{K:W.Frag}{C:Cn}{Y:St}
theorem zbI{Q:VK}:Stp (λG H w=>kE K C Y Q G H w):=λ_ _ _ _ _ _ _ s k v G' H' w' s'=>k v G' H' w' (s.trans s')
theorem zpr{Q:Bool->Hp->Prop}:Stp (λG H w=>kT K C Y Q G H w):=λ_ _ _ _ _ _ _ s k G' H' w' s'=>k G' H' w' (s.trans s')
theorem zf9{Q:VK}:Stp (λG H w=>kN K C Y Q G H w):=λG H w G1 H1 w1 _ s k p vs G' H' w' s' r q1 q2 q3 q4 q5 =>
 k p vs G' H' w' (s.trans s') r (s.k p q1) q2 q3 q4 q5
theorem zdT{D:zru}:Stp (λG H w=>kS K C D G H w):=λG H w G1 H1 w1 a s k=>by
 obtain ⟨f,Z⟩:=a;cases f with
 |nx=>exact λY' G' H' w' s'=>k Y' G' H' w' (s.trans s')
 |bk=>exact λY' G' H' w' s'=>k Y' G' H' w' (s.trans s')
 |ct=>exact λY' G' H' w' s'=>k Y' G' H' w' (s.trans s')
 |rt d=>exact λv Y' G' H' w' s'=>k v Y' G' H' w' (s.trans s')
theorem zcm.step{α:Type}{ex:Nat->Prop}{κ:zqH α}(st:Stp κ){G H G1 H1:Hp}{w w1:Wn}(s:zbu G H w G1 H1 w1):∀{r:R α},zcm ex (κ G H w) r->zcm ex (κ G1 H1 w1) r
 |.ok _,p=>st _ _ _ _ _ _ _ s p
 |.er _,p=>p
 |.no,p=>p
theorem zdE{α:Type}{κ:zqH α}(st:Stp κ){G H:Hp}{w:Wn}{Z:Ev}{fa:De}{g:Dt×Ev->R α}{Q:VK}(r:Rel K C G w Z Y H)(p:zcm C.ex (κ G H w) ((fa Z).bind g))
  (k:∀ d Z1 v G1 H1 w1,Rel K C G1 w1 Z1 Y H1->zbu G H w G1 H1 w1->Rep K G1 d v->zcm C.ex (κ G1 H1 w1) (g (d,Z1))->Q v H1):tE K C fa Y H Q:=by
 refine ⟨G,w,Z,r,?_⟩;cases e:fa Z with
 |ok a =>
  rw[e] at p;intro v G' H' w' s' r' q;exact k a.1 a.2 v G' H' w' r' s' q (zcm.step st s' p)
 |er n=>rw[e] at p;exact p
 |no=>rw[e] at p;exact p
theorem zuH{α:Type}{κ:zqH α}(st:Stp κ){G H:Hp}{w:Wn}{Z:Ev}{fa:DT}{g:Bool×Ev->R α}{Q:Bool->Hp->Prop}(r:Rel K C G w Z Y H)(p:zcm C.ex (κ G H w) ((fa Z).bind g))
  (k:∀ b Z1 G1 H1 w1,Rel K C G1 w1 Z1 Y H1->zbu G H w G1 H1 w1->zcm C.ex (κ G1 H1 w1) (g (b,Z1))->Q b H1):tT K C fa Y H Q:=by
 refine ⟨G,w,Z,r,?_⟩;cases e:fa Z with
 |ok a =>
  rw[e] at p;intro G' H' w' s' r';exact k a.1 a.2 G' H' w' r' s' (zcm.step st s' p)
 |er n=>rw[e] at p;exact p
 |no=>rw[e] at p;exact p
theorem zwg{α:Type}{κ:zqH α}{G H:Hp}{w:Wn}{Z:Ev}{fa:DN}{g:List Dt×Ev->R α}{Q:VK}(r:Rel K C G w Z Y H)(p:zcm C.ex (κ G H w) ((fa Z).bind g))
  (k:∀ ds Z1 a vs G1 H1 w1,Rel K C G1 w1 Z1 Y H1->zbu G H w G1 H1 w1->H a=none->H1 a=some (.lst vs)->G1 a=none->w1 a=none->za1 K G1 ds vs->zcm C.ex (κ G H w) (g (ds,Z1))->Q (.ref a) H1):tN K C fa Y H Q:=by
 refine ⟨G,w,Z,r,?_⟩;cases e:fa Z with
 |ok a =>
  rw[e] at p;intro v vs G' H' w' s' r' q1 q2 q3 q4 q5;exact k a.1 a.2 v vs G' H' w' r' s' q1 q2 q3 q4 q5 p
 |er n=>rw[e] at p;exact p
 |no=>rw[e] at p;exact p
end
section
variable{X:Cx}
theorem _root_.L2.PE.weak{e:Expr}{t t':TE}(h:PE X e t)(k:∀ Y H Q,t' Y H Q->t Y H Q):PE X e t':=λpS s Y H Q I q=>h pS s Y H Q I (k Y H Q q)
theorem _root_.L2.PT.weak{e:Expr}{t t':TT}(h:PT X e t)(k:∀ Y H Q,t' Y H Q->t Y H Q):PT X e t':=λpS s Y H Q I q=>h pS s Y H Q I (k Y H Q q)
theorem _root_.L2.PW.weak{e:Expr}{t t':TT}(h:PW X e t)(k:∀ Y H Q,t' Y H Q->t Y H Q):PW X e t':=λwh pS s Y H Q I q=>h wh pS s Y H Q I (k Y H Q q)
theorem _root_.L2.PA.weak{e:List Expr}{t t':TA}(h:PA X e t)(k:∀ Y H Q,t' Y H Q->t Y H Q):PA X e t':=λpos pS s Y H Q I q=>h pos pS s Y H Q I (k Y H Q q)
theorem _root_.L2.PS.weak{e:Stmt}{t t':TS}(h:PS X e t)(k:∀ D Y H,t' D Y H->t D Y H):PS X e t':=λpS s Y H D I q=>h pS s Y H D I (k D Y H q)
theorem _root_.L2.PSs.weak{e:List Stmt}{t t':TS}(h:PSs X e t)(k:∀ D Y H,t' D Y H->t D Y H):PSs X e t':=λpS s Y H D I q=>h pS s Y H D I (k D Y H q)
end
section
variable{K:W.Frag}{C:Cn}{Y:L2.St}{G H:Hp}{w:Wn}{Z:Ev}{i:Nat}{v:V}
theorem Rel.freeze{d:Dt}{b0:B}(r:Rel K C G w Z Y H)(S:List Addr)(hS:∀ b∈S,w b=some i)(hi:Z[i]? = some (some b0))(hv:Y[i]? = some (some v))
  (hr:Rep K (λb=>if b∈S then H b else G b) d v) :
  Rel K C (λb=>if b∈S then H b else G b) (λb=>if b∈S then none else w b) (Z.set i (some (.val d))) Y H /\
   zbu G H w (λb=>if b∈S then H b else G b) H (λb=>if b∈S then none else w b):=by
 have gS:∀ b∈S,G b=none:=λb hb=>r.wg b (by rw[hS b hb];simp);have st:zbu G H w (λb=>if b∈S then H b else G b) H (λb=>if b∈S then none else w b):=by
  refine ⟨λb o e=>?_,λb o e=>?_,λb o e _=>e,λb e=>?_,λ_ e=>e⟩
  ·have:b∉S:=λz=>by rw[gS b z] at e;cases e
   simp[this,e]
  ·by_cases hb:b∈S
   ·exact .inr (.inr (by rw[hS b hb];simp))
   ·simp[hb] at e;exact .inl (by rw[e];simp)
  ·by_cases hb:b∈S
   ·simp[hb] at e
   ·simp[hb] at e;exact .inl e
 refine ⟨⟨λb o e=>?_,λb e=>?_,λb e=>?_,by simpa using r.len,λj b e=>?_,r.en.trans st,r.pin⟩,st⟩
 ·by_cases hb:b∈S
  ·simp[hb] at e;exact e
  ·simp[hb] at e;exact r.gh b o e
 ·by_cases hb:b∈S
  ·simp[hb] at e
  ·simp[hb] at e ⊢;exact r.wg b e
 ·by_cases hb:b∈S
  ·simp[hb] at e
  ·simp[hb] at e;exact r.wh b e
 ·by_cases hj:j=i
  ·subst hj;rw[List.getElem?_set_self (List.getElem?_eq_some_iff.mp hi).1] at e;cases e;exact ⟨v,hv,hr⟩
  ·rw[List.getElem?_set_ne (Ne.symm hj)] at e;obtain ⟨v',h1,h2⟩:=r.sl j b e;refine ⟨v',h1,h2.grow st.g λa o e1 e2=>⟨e2,?_⟩⟩;have:a∉S:=λz=>by rw[hS a z] at e1;exact hj (waA e1).symm
   simp[this,e1]
end
def zab(i:Nat):De:=λZ=>match Z[i]? with
 |some (some (.val d))=>.ok (d,Z)
 |_=>.no
def zd8(i:Nat):De:=λZ=>match Z[i]? with
 |some (some (.val d))=>.ok (d,Z)
 |some (some (.own ds))=>.ok (.lst ds,Z.set i (some (.val (.lst ds))))
 |some (some (.own2 dss))=>.ok (.lst (dss.map .lst),Z.set i (some (.val (.lst (dss.map .lst)))))
 |_=>.no
theorem zgF{K:W.Frag}{G:Hp}:∀{as:List Addr}{dss:List (List Dt)},Paired (λb ds=>∃ vs,G b=some (.lst vs)/\za1 K G ds vs) as dss->za1 K G (dss.map .lst) (as.map V.ref)
 |_,_,.nil=>za1.nil
 |a::as,ds::dss,.cons ⟨vs,h1,h2⟩ t=>za1.cons (by unfold Rep;exact ⟨a,vs,rfl,h1,h2⟩) (zgF t)
theorem zda{α β:Type}{F:α->β->Prop}:∀{l₁:List α}{l₂:List β},Paired F l₁ l₂->∀ a∈l₁,∃ b,F a b
 |_,_,.cons r t,a,h=>by
  rcases wap.mp h with rfl|h
  ·exact ⟨_,r⟩
  ·exact zda t a h
theorem zb4{α β:Type}{F F':α->β->Prop}:∀{l₁:List α}{l₂:List β},Paired F l₁ l₂->(∀ a b,a∈l₁->F a b->F' a b)->Paired F' l₁ l₂
 |_,_,.nil,_=>.nil
 |_,_,.cons r t,f=>.cons (f _ _ wau r) (zb4 t λa b h=>f a b (wah _ h))
section
variable{X:Cx}{C:Cn}
theorem zaa(i:Nat){x:Str}{pos:Pos}(hN:X.N[i]? = some x:=by rfl)(hv:Vis X.env.scope x:=by exact xwV)(hd:(x == ("__debug__" : Str))=false:=by decide)
  (hcd:(x == ("__classdict__" : Str))=false:=by decide):JE X C (.Name x pos) (zab i):=(zcq hN hv hd hcd).weak λY H Q ⟨G,w,Z,r,p⟩=>by
 unfold zab at p;split at p
 ·rename_i d e;obtain ⟨v,h1,h2⟩:=r.sl i _ e;exact ⟨v,h1,p v G H w (.refl _ _ _) r h2⟩
 ·exact p.elim
theorem ze7(i:Nat){x:Str}{pos:Pos}(hN:X.N[i]? = some x:=by rfl)(hv:Vis X.env.scope x:=by exact xwV)(hd:(x == ("__debug__" : Str))=false:=by decide)
  (hcd:(x == ("__classdict__" : Str))=false:=by decide):JE X C (.Name x pos) (zd8 i):=(zcq hN hv hd hcd).weak λY H Q ⟨G,w,Z,r,p⟩=>by
 unfold zd8 at p;split at p
 ·rename_i d e;obtain ⟨v,h1,h2⟩:=r.sl i _ e;exact ⟨v,h1,p v G H w (.refl _ _ _) r h2⟩
 ·rename_i ds e;obtain ⟨v,h1,a,vs,rfl,h2,h3,h4⟩:=r.sl i _ e;have hr:Rep X.K (λb=>if b∈[a] then H b else G b) (.lst ds) (.ref a):=by
   unfold Rep;refine ⟨a,vs,rfl,(by simp[h3]),za1.same (λb o e=>?_) h4⟩;have:b≠a:=λz=>by subst z;rw[r.wg b (by rw[h2];simp)] at e;cases e
   simp[this,e]
  obtain ⟨r',s'⟩:=r.freeze [a] (λb hb=>by simp at hb;subst hb;exact h2) e h1 hr;exact ⟨_,h1,p _ _ _ _ s' r' hr⟩
 ·rename_i dss e;obtain ⟨v,h1,a,as,rfl,h2,h3,h4,h5⟩:=r.sl i _ e;have hS:∀ b∈a::as,w b=some i:=λb hb=>by
   rcases wap.mp hb with rfl|hb
   ·exact h2
   ·obtain ⟨_,z,_⟩:=zda h5 b hb;exact z
  have sg:zbR G (λb=>if b∈a::as then H b else G b):=λb o e=>by
   have:b∉a::as:=λz=>by rw[r.wg b (by rw[hS b z];simp)] at e;cases e
   simp only[this,if_false];exact e
  have hr:Rep X.K (λb=>if b∈a::as then H b else G b) (.lst (dss.map .lst)) (.ref a):=by unfold Rep;refine ⟨a,as.map V.ref,rfl,(by simp[h3]),zgF (zb4 h5 λb ds hb ⟨q1,vs,q2,q3⟩=>⟨vs,?_,za1.same sg q3⟩)⟩;simp[hb,q2]
  obtain ⟨r',s'⟩:=r.freeze (a::as) hS e h1 hr;exact ⟨_,h1,p _ _ _ _ s' r' hr⟩
 ·exact p.elim
def dC(d:Dt):De:=λZ=>.ok (d,Z)
theorem zar{i j pos}:JE X C (.Constant (.int i) j pos) (dC (.int i)):=PE.weak zrB λY H Q ⟨G,w,Z,r,p⟩=>p _ G H w (.refl _ _ _) r (by unfold Rep;rfl)
theorem zdB{b j pos}:JE X C (.Constant (.bool b) j pos) (dC (.bl b)):=PE.weak zvx λY H Q ⟨G,w,Z,r,p⟩=>p _ G H w (.refl _ _ _) r (by unfold Rep;rfl)
theorem zok{j pos}:JE X C (.Constant .none j pos) (dC .non):=PE.weak zuk λY H Q ⟨G,w,Z,r,p⟩=>p _ G H w (.refl _ _ _) r (by unfold Rep;rfl)
theorem zez{x j pos}:JE X C (.Constant (.str x) j pos) (dC (.str x)):=PE.weak zvl λY H Q ⟨G,w,Z,r,p⟩=>p _ G H w (.refl _ _ _) r (by unfold Rep;rfl)
theorem zrW{x:Str}{i:Int}{t:Tok}{pos:Pos}(hg:Gl X x)(hm:X.mg x=some (.int i t))(hd:(x == ("__debug__" : Str))=false:=by decide):JE X C (.Name x pos) (dC (.int i)) :=
 (znS (v:=.int i) hg hm ⟨t,rfl⟩ hd).weak λY H Q ⟨G,w,Z,r,p⟩=>p _ G H w (.refl _ _ _) r (by unfold Rep;rfl)
def dOp(g:Dt->Dt->R Dt)(fa fb:De):De:=λZ=>(fa Z).bind λa=>(fb a.2).bind λb=>(g a.1 b.1).bind λz=>.ok (z,b.2)
def Op2(K:W.Frag)(r:R2)(g:Dt->Dt->R Dt):Prop:=∀(G H:Hp)(x y:V)(dx dy z:Dt)(Q:VK),zbR G H->Rep K G dx x->Rep K G dy y->g dx dy=.ok z ->
 (∀ v G' H',zeh G H G' H'->Rep K G' z v->Q v H')->r x y H Q
def zhN(g:Dt->Dt->R Dt):Prop:=∀ x y n,g x y≠.er n
variable{a b:Expr}{fa fb:De}{pos:Pos}
theorem ziA{r:R2}{g:Dt->Dt->R Dt}{Y:L2.St}{H:Hp}{Q:VK}(h2:Op2 X.K r g)(he:zhN g)(h:tE X.K C (dOp g fa fb) Y H Q):tOp r (tE X.K C fa) (tE X.K C fb) Y H Q:=by
 obtain ⟨G,w,Z,rr,p⟩:=h;refine zdE (κ:=λG H w=>kE X.K C Y Q G H w) zbI rr p λd Z1 v G1 H1 w1 r1 s1 q1 p1=>?_;refine zdE (κ:=λG H w=>kE X.K C Y Q G H w) zbI r1 p1 λd2 Z2 v2 G2 H2 w2 r2 s2 q2 p2=>?_;cases e:g d d2 with
 |ok z =>
  simp only[e,R.bind_ok] at p2;refine h2 G2 H2 v v2 d d2 z Q r2.gh (q1.same s2.g) q2 e λv3 G3 H3 gr q3=>?_;exact p2 v3 G3 H3 w2 gr.step (r2.grow gr) q3
 |er n=>exact absurd e (he _ _ _)
 |no=>simp only[e,R.bind_no] at p2;exact p2.elim
theorem zk0{op:Operator}{r:R2}{g:Dt->Dt->R Dt}(ho:OpR X (binaryOp op) r)(h2:Op2 X.K r g)(he:zhN g)(ha:JE X C a fa)(hb:JE X C b fb):JE X C (.BinOp a op b pos) (dOp g fa fb) :=
 (zur ho ha hb).weak λY H Q h=>ziA h2 he h
theorem zr7{op:CmpOp}{r:R2}{g:Dt->Dt->R Dt}(ho:OpR X (compareOp op) r)(h2:Op2 X.K r g)(he:zhN g)(ha:JE X C a fa)(hb:JE X C b fb)(hm:behindInMarks op b=false):JE X C (.Compare a [op] [b] pos) (dOp g fa fb) :=
 (ztw ho ha hb hm).weak λY H Q h=>ziA h2 he h
def dTB(f:De):DT:=λZ=>(f Z).bind λa=>match a.1 with
 |.bl b=>.ok (b,a.2)
 |_=>.no
theorem zcJ{K:W.Frag}{G:Hp}{b:Bool}{v:V}(h:Rep K G (.bl b) v):v=.bl b:=by unfold Rep at h;exact h
theorem za6{K:W.Frag}{G:Hp}{b:Int}{v:V}(h:Rep K G (.int b) v):v=.int b:=by unfold Rep at h;exact h
theorem zfF{K:W.Frag}{G:Hp}{b:Str}{v:V}(h:Rep K G (.str b) v):v=.str b:=by unfold Rep at h;exact h
theorem zgk{K:W.Frag}{G:Hp}{v:V}(h:Rep K G .non v):v=.non:=by unfold Rep at h;exact h
theorem zdv{K:W.Frag}{G:Hp}{l:List Dt}{v:V}(h:Rep K G (.tup l) v):∃ a vs,v=.ref a/\zhz K G a vs/\za1 K G l vs:=by unfold Rep at h;exact h
theorem zb0{K:W.Frag}{G:Hp}{l:List Dt}{v:V}(h:Rep K G (.tup l) v):∃ a vs,v=.ref a/\SqT K G a vs/\za1 K G l vs:=by obtain ⟨a,vs,h1,h2,h3⟩:=zdv h;exact ⟨a,vs,h1,h2.sq,h3⟩
theorem zaJ{K:W.Frag}{G:Hp}{l:List Dt}{v:V}(h:Rep K G (.lst l) v):∃ a vs,v=.ref a/\G a=some (.lst vs)/\za1 K G l vs:=by unfold Rep at h;exact h
theorem ziE{f:De}{Y:L2.St}{H:Hp}{Q:Bool->Hp->Prop}(h:tT X.K C (dTB f) Y H Q):tE X.K C f Y H λx H'=>∃ k,x=.bl k/\Q k H':=by
 obtain ⟨G,w,Z,r,p⟩:=h;refine zdE (κ:=λG H w=>kT X.K C Y Q G H w) zpr r p λd Z1 v G1 H1 w1 r1 s1 q1 p1=>?_;cases d with
 |bl b=>exact ⟨b,zcJ q1,p1 G1 H1 w1 (.refl _ _ _) r1⟩
 |_=>exact p1.elim
theorem zfP{op:CmpOp}{r:R2}{g:Dt->Dt->R Dt}(ho:OpR X (compareOp op) r)(h2:Op2 X.K r g)(he:zhN g)(ha:JE X C a fa)(hb:JE X C b fb)(hm:behindInMarks op b=false):JT X C (.Compare a [op] [b] pos) (dTB (dOp g fa fb)) :=
 (zkN ho ha hb hm).weak λY H Q h=>by have h':=ziE h;exact ziA h2 he h'
theorem zbJ{e:Expr}{f:De}(h:JE X C e f)(he:∀ whole,isTrue e X.env whole=(do let v <- whole;standAt e.pos;holding [v] (truthy v)):=by intro _;rfl):JT X C e (dTB f) :=
 (ztY h he).weak λY H Q h=>ziE h
def zb2(f:DT):DT:=λZ=>(f Z).bind λa=>.ok (!a.1,a.2)
def ziU(f g:DT):DT:=λZ=>(f Z).bind λa=>if a.1=true then g a.2 else .ok (false,a.2)
def zh1(f g:DT):DT:=λZ=>(f Z).bind λa=>if a.1=true then .ok (true,a.2) else g a.2
variable{tA tB':DT}{zbq:List Expr}
theorem ze8(ha:JT X C a tA):JT X C (.UnaryOp .Not a pos) (zb2 tA):=(zuy ha).weak λY H Q ⟨G,w,Z,r,p⟩ =>
 zuH (κ:=λG H w=>kT X.K C Y Q G H w) zpr r p λb Z1 G1 H1 w1 r1 s1 p1=>p1 G1 H1 w1 (.refl _ _ _) r1
theorem znM(ha:JT X C a tA):JW X C (.BoolOp .And [a] pos) tA:=zsf ha
theorem zjj(ha:JT X C a tA):JW X C (.BoolOp .Or [a] pos) tA:=zud ha
theorem zrb(ha:JT X C a tA)(hb:JW X C (.BoolOp .And (b::zbq) pos) tB'):JW X C (.BoolOp .And (a::b::zbq) pos) (ziU tA tB'):=(zu4 ha hb).weak λY H Q ⟨G,w,Z,r,p⟩=>by
 refine zuH (κ:=λG H w=>kT X.K C Y Q G H w) zpr r p λb Z1 G1 H1 w1 r1 s1 p1=>?_;cases b with
 |true=>exact ⟨G1,w1,Z1,r1,p1⟩
 |false=>exact p1 G1 H1 w1 (.refl _ _ _) r1
theorem zll(ha:JT X C a tA)(hb:JW X C (.BoolOp .Or (b::zbq) pos) tB'):JW X C (.BoolOp .Or (a::b::zbq) pos) (zh1 tA tB'):=(zvW ha hb).weak λY H Q ⟨G,w,Z,r,p⟩=>by
 refine zuH (κ:=λG H w=>kT X.K C Y Q G H w) zpr r p λb Z1 G1 H1 w1 r1 s1 p1=>?_;cases b with
 |true=>exact p1 G1 H1 w1 (.refl _ _ _) r1
 |false=>exact ⟨G1,w1,Z1,r1,p1⟩
theorem JW.jt{e:Expr}{f:DT}(h:JW X C e f):JT X C e f:=PW.pt h
def ziZ(fa fb:De):De:=λZ=>(fa Z).bind λa=>match a.1 with
 |.bl true=>fb a.2
 |.bl false=>.ok (.bl false,a.2)
 |_=>.no
def dOr(fa fb:De):De:=λZ=>(fa Z).bind λa=>match a.1 with
 |.bl true=>.ok (.bl true,a.2)
 |.bl false=>fb a.2
 |_=>.no
def zv3(fa:De):De:=λZ=>(fa Z).bind λa=>match a.1 with
 |.bl b=>.ok (.bl (!b),a.2)
 |_=>.no
theorem zfI{op}{f:De}(h:JE X C a f):JE X C (.BoolOp op [a] pos) f:=zuh h
theorem zh4(ha:JE X C a fa)(hb:JE X C (.BoolOp .And (b::zbq) pos) fb):JE X C (.BoolOp .And (a::b::zbq) pos) (ziZ fa fb):=(zvp ha hb).weak λY H Q ⟨G,w,Z,r,p⟩=>by
 refine zdE (κ:=λG H w=>kE X.K C Y Q G H w) zbI r p λd Z1 v G1 H1 w1 r1 s1 q1 p1=>?_;cases d with
 |bl b =>
  refine ⟨b,zcJ q1,?_⟩;cases b with
  |true=>exact ⟨G1,w1,Z1,r1,p1⟩
  |false=>exact p1 _ G1 H1 w1 (.refl _ _ _) r1 (by unfold Rep;rfl)
 |_=>exact p1.elim
theorem zuX(ha:JE X C a fa)(hb:JE X C (.BoolOp .Or (b::zbq) pos) fb):JE X C (.BoolOp .Or (a::b::zbq) pos) (dOr fa fb):=(zvJ ha hb).weak λY H Q ⟨G,w,Z,r,p⟩=>by
 refine zdE (κ:=λG H w=>kE X.K C Y Q G H w) zbI r p λd Z1 v G1 H1 w1 r1 s1 q1 p1=>?_;cases d with
 |bl b =>
  refine ⟨b,zcJ q1,?_⟩;cases b with
  |true=>exact p1 _ G1 H1 w1 (.refl _ _ _) r1 (by unfold Rep;rfl)
  |false=>exact ⟨G1,w1,Z1,r1,p1⟩
 |_=>exact p1.elim
theorem zro(ha:JE X C a fa):JE X C (.UnaryOp .Not a pos) (zv3 fa):=(ztN ha).weak λY H Q ⟨G,w,Z,r,p⟩=>by
 refine zdE (κ:=λG H w=>kE X.K C Y Q G H w) zbI r p λd Z1 v G1 H1 w1 r1 s1 q1 p1=>?_;cases d with
 |bl b=>exact ⟨b,zcJ q1,p1 _ G1 H1 w1 (.refl _ _ _) r1 (by unfold Rep;rfl)⟩
 |_=>exact p1.elim
abbrev DA:=Ev->R (List Dt×Ev)
def kA(K:W.Frag)(C:Cn)(Y:L2.St)(Q:List V->Hp->Prop)(G H:Hp)(w:Wn)(a:List Dt×Ev):Prop :=
 ∀ vs G' H' w',zbu G H w G' H' w'->Rel K C G' w' a.2 Y H'->za1 K G' a.1 vs->Q vs H'
theorem zvu{K:W.Frag}{Y:L2.St}{Q:List V->Hp->Prop}:Stp (λG H w=>kA K C Y Q G H w):=λ_ _ _ _ _ _ _ s k v G' H' w' s'=>k v G' H' w' (s.trans s')
def tAd(K:W.Frag)(C:Cn)(f:DA):TA:=λY H Q=>∃ G w Z,Rel K C G w Z Y H/\zcm C.ex (kA K C Y Q G H w) (f Z)
abbrev JA(X:Cx)(C:Cn)(es:List Expr)(f:DA):Prop:=PA X es (tAd X.K C f)
def dA0:DA:=λZ=>.ok ([],Z)
def dA(fa:De)(fr:DA):DA:=λZ=>(fa Z).bind λa=>(fr a.2).bind λb=>.ok (a.1::b.1,b.2)
theorem zve{K:W.Frag}{Y:L2.St}{α:Type}{κ:zqH α}(st:Stp κ){G H:Hp}{w:Wn}{Z:Ev}{fa:DA}{g:List Dt×Ev->R α}{Q:List V->Hp->Prop}(r:Rel K C G w Z Y H)(p:zcm C.ex (κ G H w) ((fa Z).bind g))
  (k:∀ ds Z1 vs G1 H1 w1,Rel K C G1 w1 Z1 Y H1->zbu G H w G1 H1 w1->za1 K G1 ds vs->zcm C.ex (κ G1 H1 w1) (g (ds,Z1))->Q vs H1):tAd K C fa Y H Q:=by
 refine ⟨G,w,Z,r,?_⟩;cases e:fa Z with
 |ok a =>
  rw[e] at p;intro v G' H' w' s' r' q;exact k a.1 a.2 v G' H' w' r' s' q (zcm.step st s' p)
 |er n=>rw[e] at p;exact p
 |no=>rw[e] at p;exact p
theorem za4:JA X C [] dA0:=PA.weak zcD λY H Q ⟨G,w,Z,r,p⟩=>p _ G H w (.refl _ _ _) r za1.nil
theorem zao{e:Expr}{es:List Expr}{fr:DA}(ha:JE X C e fa)(hr:JA X C es fr)(hs:starEach (e::es) X.env=(false,eval e X.env)::starEach es X.env:=by rfl):JA X C (e::es) (dA fa fr) :=
 (zbb ha hr hs).weak λY H Q ⟨G,w,Z,r,p⟩=>by refine zdE (κ:=λG H w=>kA X.K C Y Q G H w) zvu r p λd Z1 v G1 H1 w1 r1 s1 q1 p1=>?_;refine zve (κ:=λG H w=>kA X.K C Y Q G H w) zvu r1 p1 λds Z2 vs G2 H2 w2 r2 s2 q2 p2=>?_;exact p2 _ G2 H2 w2 (.refl _ _ _) r2 (za1.cons (q1.same s2.g) q2)
def zdC{α:Type}(l:List α):Bool:=decide (l.length<=16777216)
def zgD(f:DA):De:=λZ=>(f Z).bind λa=>if zdC a.1=true then .ok (.tup a.1,a.2) else .no
def zbQ(f:DA):DN:=λZ=>(f Z).bind λa=>if zdC a.1=true then .ok (a.1,a.2) else .no
theorem zgV{α:Type}{l:List α}(h:zdC l=true):l.length<=sizeLine:=by have:=of_decide_eq_true h;rw[show sizeLine=16777216 from by decide];exact this
theorem zfL{x1}{es:List Expr}{f:DA}(h:JA X C es f):JE X C (.Tuple es x1 pos) (zgD f):=(zrI h).weak λY H Q ⟨G,w,Z,r,p⟩=>by
 refine zve (κ:=λG H w=>kE X.K C Y Q G H w) zbI r p λds Z1 vs G1 H1 w1 r1 s1 q1 p1=>?_;by_cases hf:zdC ds=true
 ·simp only[hf,if_true] at p1;refine ⟨by rw[<- q1.length];exact zgV hf,λa ha=>?_⟩;have gr:zeh G1 H1 (upd G1 a (.tup vs)) (upd H1 a (.tup vs)):=.new r1.gh ha;exact p1 _ _ _ w1 gr.step (r1.grow gr) (by unfold Rep;exact ⟨a,vs,rfl,zhz.of zan,q1.same gr.g⟩)
 ·simp only[hf] at p1;exact p1.elim
theorem zbz{es:List Expr}{f:DA}(h:JA X C es f):JN X C (.List es pos) (zbQ f):=(ztH h).weak λY H Q ⟨G,w,Z,r,p⟩=>by
 refine zve (κ:=λG H w=>kN X.K C Y Q G H w) zf9 r p λds Z1 vs G1 H1 w1 r1 s1 q1 p1=>?_;by_cases hf:zdC ds=true
 ·simp only[hf,if_true] at p1;refine ⟨by rw[<- q1.length];exact zgV hf,λa ha=>?_⟩;have gr:zeh G1 H1 G1 (upd H1 a (.lst vs)):=.newH r1.gh ha;exact p1 a vs _ _ w1 gr.step (r1.grow gr) ha zan (r1.gh.free ha) (by
   cases z:w1 a with
   |none=>rfl
   |some k=>exact absurd ha (r1.wh a (by rw[z];simp))) q1
 ·simp only[hf] at p1;exact p1.elim
def dFz(f:DN):De:=λZ=>(f Z).bind λa=>.ok (.lst a.1,a.2)
theorem Rel.know{K:W.Frag}{Y:L2.St}{G H:Hp}{w:Wn}{Z:Ev}{p:Addr}{o:HO}(r:Rel K C G w Z Y H)(hp:H p=some o)(hg:G p=none)(hw:w p=none)(H0:Hp)(G0:Hp)(w0:Wn)(s:zbu G0 H0 w0 G H w)(h0:H0 p=none)
  (e0:C.H₀ p=none\/C.w₀ p≠none\/C.G₀ p≠none):Rel K C (upd G p o) w Z Y H/\zbu G0 H0 w0 (upd G p o) H w:=by
 have sg:zbR G (upd G p o):=λb u e=>by rw[zag (zah e hg)];exact e
 have s1:∀{G1 H1:Hp}{w1:Wn},zbu G1 H1 w1 G H w->(H1 p=none\/w1 p≠none\/G1 p≠none)->zbu G1 H1 w1 (upd G p o) H w:=λs z=>by
  refine ⟨s.g.trans sg,λb u e=>?_,s.h,s.w,s.k⟩;by_cases hb:b=p
  ·subst hb;rcases z with z|z|z
   ·exact .inr (.inl z)
   ·exact .inr (.inr z)
   ·exact .inl z
  ·rw[zag hb] at e;exact s.fr b u e
 refine ⟨⟨λb u e=>?_,λb e=>?_,r.wh,r.len,λi b e=>?_,s1 r.en e0,r.pin⟩,s1 s (.inl h0)⟩
 ·by_cases hb:b=p
  ·subst hb;rw[zan] at e;cases e;exact hp
  ·rw[zag hb] at e;exact r.gh b u e
 ·by_cases hb:b=p
  ·subst hb;rw[hw] at e;exact absurd rfl e
  ·rw[zag hb];exact r.wg b e
 ·obtain ⟨v,h1,h2⟩:=r.sl i b e;exact ⟨v,h1,h2.grow sg λ_ _ e1 e2=>⟨e2,e1⟩⟩
end
section
variable{X:Cx}{C:Cn}{a b e:Expr}{fa fb:De}{pos:Pos}
theorem za8{f:DN}(h:JN X C e f):JE X C e (dFz f):=PE.weak h λY H Q ⟨G,w,Z,r,p⟩=>by
 refine zwg (κ:=λG H w=>kE X.K C Y Q G H w) r p λds Z1 a vs G1 H1 w1 r1 s1 h0 h1 h2 h3 q1 p1=>?_;obtain ⟨r',s'⟩:=r1.know h1 h2 h3 H G w s1 h0 (.inl (r.en.k a h0));have sg:zbR G1 (upd G1 a (.lst vs)):=λb u e=>by rw[zag (zah e h2)];exact e
 exact p1 _ _ _ _ s' r' (by unfold Rep;exact ⟨a,vs,rfl,zan,q1.same sg⟩)
def zaw(f g:DS):DS:=λZ=>(f Z).bind λa=>match a.1 with
 |.nx=>g a.2
 |fl=>.ok (fl,a.2)
def dNx:DS:=λZ=>.ok (.nx,Z)
variable{st:Stmt}{zbq:List Stmt}{fs gs:DS}
theorem zaH:JSs X C [] dNx:=PSs.weak zsg λD Y H ⟨G,w,Z,r,p⟩=>p Y G H w (.refl _ _ _) r
theorem zad(h1:JS X C st fs)(h2:JSs X C zbq gs):JSs X C (st::zbq) (zaw fs gs):=PSs.weak (zqF h1 h2) λD Y H ⟨G,w,Z,r,p⟩=>by
 refine ⟨G,w,Z,r,?_⟩;unfold zaw at p;cases e:fs Z with
 |ok x =>
  rw[e] at p;obtain ⟨fl,Z1⟩:=x;cases fl with
  |nx=>exact λY' G' H' w' s' r'=>⟨G',w',Z1,r',zcm.step zdT s' p⟩
  |bk=>exact p
  |ct=>exact p
  |rt d=>exact p
 |er n=>rw[e] at p;exact p
 |no=>rw[e] at p;exact p
theorem zai(h1:JS X C st fs):JSs X C [st] fs:=znu h1
def dEx(f:De):DS:=λZ=>(f Z).bind λa=>.ok (.nx,a.2)
theorem zcR(he:JE X C e fa)(hs:swapsWith e none pos.line X.env=pure false:=by rfl):JS X C (.Expr e pos) (dEx fa):=PS.weak (zsb he hs) λD Y H ⟨G,w,Z,r,p⟩ =>
 zdE (κ:=λG H w=>kS X.K C D G H w) zdT r p λd Z1 v G1 H1 w1 r1 s1 q1 p1=>p1 Y G1 H1 w1 (.refl _ _ _) r1
def zaV(f:De):DS:=λZ=>(f Z).bind λa=>.ok (.rt a.1,a.2)
theorem za5(hn:C.nw=false)(he:JE X C e fa):JS X C (.Return (some e) pos) (zaV fa):=PS.weak (zrG he) λD Y H ⟨G,w,Z,r,p⟩ =>
 zdE (κ:=λG H w=>kS X.K C D G H w) zdT r p λd Z1 v G1 H1 w1 r1 s1 q1 p1=>p1 v Y G1 H1 w1 (.refl _ _ _) r1 (by rw[hn];exact q1)
def zdL(f:DN):DS:=λZ=>(f Z).bind λa=>.ok (.rt (.lst a.1),a.2)
theorem ziq{f:DN}(hn:C.nw=true)(he:JN X C e f):JS X C (.Return (some e) pos) (zdL f):=PS.weak (zrG he) λD Y H ⟨G,w,Z,r,p⟩ =>
 zwg (κ:=λG H w=>kS X.K C D G H w) r p λds Z1 a vs G1 H1 w1 r1 s1 h0 h1 h2 h3 q1 p1=>p1 _ Y G1 H1 w1 s1 r1 (by rw[hn];exact ⟨ds,a,vs,rfl,rfl,r.en.k a h0,h1,h2,h3,q1⟩)
def dIf(c:DT)(f g:DS):DS:=λZ=>(c Z).bind λb=>if b.1=true then f b.2 else g b.2
theorem zbN{c:Expr}{A B:List Stmt}{tc:DT}(hc:JT X C c tc)(ha:JSs X C A fs)(hb:JSs X C B gs):JS X C (.If c A B pos) (dIf tc fs gs):=PS.weak (zvO hc ha hb) λD Y H ⟨G,w,Z,r,p⟩=>by
 refine zuH (κ:=λG H w=>kS X.K C D G H w) zdT r p λb Z1 G1 H1 w1 r1 s1 p1=>?_;cases b with
 |true=>exact ⟨G1,w1,Z1,r1,p1⟩
 |false=>exact ⟨G1,w1,Z1,r1,p1⟩
theorem Rel.setVal{K:W.Frag}{Y:L2.St}{G H:Hp}{w:Wn}{Z:Ev}{i:Nat}{d:Dt}{v:V}(r:Rel K C G w Z Y H)(hi:i < Z.length)(hp:i∉C.pp)(h:Rep K G d v):Rel K C G w (Z.set i (some (.val d))) (Y.set i (some v)) H:=by
 refine ⟨r.gh,r.wg,r.wh,by simpa using r.len,λj b e=>?_,r.en,λj hj=>?_⟩
 ·by_cases hj:j=i
  ·subst hj;rw[List.getElem?_set_self hi] at e;cases e;exact ⟨v,way (by rw[<- r.len];exact hi),h⟩
  ·rw[List.getElem?_set_ne (Ne.symm hj)] at e;obtain ⟨v',h1,h2⟩:=r.sl j b e;exact ⟨v',by rw[List.getElem?_set_ne (Ne.symm hj)];exact h1,h2⟩
 ·have:i≠j:=λz=>hp (z ▸ hj);rw[List.getElem?_set_ne this];exact r.pin j hj
theorem Rel.setOwn{K:W.Frag}{Y:L2.St}{G0 H0:Hp}{w0:Wn}{G H:Hp}{w:Wn}{Z:Ev}{i:Nat}{ds:List Dt}{p:Addr}{vs:List V}(r:Rel K C G w Z Y H)(hi:i < Z.length)(hpp:i∉C.pp)(hp:H p=some (.lst vs))(hg:G p=none)(hw:w p=none)
  (q:za1 K G ds vs) (s:zbu G0 H0 w0 G H w) (h0:H0 p=none) (en0:C.H₀ p=none) :
  Rel K C G (λb=>if b=p then some i else w b) (Z.set i (some (.own ds))) (Y.set i (some (.ref p))) H/\zbu G0 H0 w0 G H (λb=>if b=p then some i else w b):=by
 have s1:∀{G1 H1:Hp}{w1:Wn},zbu G1 H1 w1 G H w->H1 p=none->zbu G1 H1 w1 G H (λb=>if b=p then some i else w b):=λs z=>by
  refine ⟨s.g,s.fr,s.h,λb e=>?_,s.k⟩;by_cases hb:b=p
  ·subst hb;exact .inr z
  ·simp[hb] at e;exact s.w b e
 refine ⟨⟨r.gh,λb e=>?_,λb e=>?_,by simpa using r.len,λj b e=>?_,s1 r.en en0,λj hj=>?_⟩,s1 s h0⟩
 ·by_cases hb:b=p
  ·subst hb;exact hg
  ·simp[hb] at e;exact r.wg b e
 ·by_cases hb:b=p
  ·subst hb;rw[hp];simp
  ·simp[hb] at e;exact r.wh b e
 ·by_cases hj:j=i
  ·subst hj;rw[List.getElem?_set_self hi] at e;cases e;exact ⟨_,way (by rw[<- r.len];exact hi),p,vs,rfl,xws,hp,q⟩
  ·rw[List.getElem?_set_ne (Ne.symm hj)] at e;obtain ⟨v',h1,h2⟩:=r.sl j b e;refine ⟨v',by rw[List.getElem?_set_ne (Ne.symm hj)];exact h1,h2.grow (.refl _) λa o e1 e2=>⟨e2,?_⟩⟩;have:a≠p:=λz=>by subst z;rw[hw] at e1;cases e1
   simp[this,e1]
 ·have:i≠j:=λz=>hpp (z ▸ hj);rw[List.getElem?_set_ne this];exact r.pin j hj
def zbc(i:Nat)(f:De):DS:=λZ=>(f Z).bind λa=>if i<a.2.length then .ok (.nx,a.2.set i (some (.val a.1))) else .no
theorem zaX{i:Nat}{x:Str}{pos':Pos}(hN:X.N.Nodup)(hi:X.N[i]? = some x)(hx:Loc X.env.scope x)(hp:i∉C.pp)(he:JE X C e fa)(hs:swapsWith e (some (.Name x pos')) pos.line X.env=pure false:=by rfl)
  (hf:X.fn x=true\/X.env.scope.names.lookup x=some .local:=by exact xwA):JS X C (.Assign [.Name x pos'] e pos) (zbc i fa) :=
 PS.weak (zpe hN hi hx he hs) λD Y H ⟨G,w,Z,r,p⟩=>by
  refine zdE (κ:=λG H w=>kS X.K C D G H w) zdT r p λd Z1 v G1 H1 w1 r1 s1 q1 p1=>?_;by_cases hl:i < Z1.length
  ·simp only[hl,if_true] at p1;exact p1 _ G1 H1 w1 (.refl _ _ _) (r1.setVal hl hp q1)
  ·simp only[hl,if_false] at p1;exact p1.elim
def zb6(i:Nat)(f:DN):DS:=λZ=>(f Z).bind λa=>if i<a.2.length then .ok (.nx,a.2.set i (some (.own a.1))) else .no
theorem zdu{i:Nat}{x:Str}{pos':Pos}{f:DN}(hN:X.N.Nodup)(hi:X.N[i]? = some x)(hx:Loc X.env.scope x)(hp:i∉C.pp)(he:JN X C e f)(hs:swapsWith e (some (.Name x pos')) pos.line X.env=pure false:=by rfl)
  (hf:X.fn x=true\/X.env.scope.names.lookup x=some .local:=by exact xwA):JS X C (.Assign [.Name x pos'] e pos) (zb6 i f) :=
 PS.weak (zpe hN hi hx he hs) λD Y H ⟨G,w,Z,r,p⟩=>by
  refine zwg (κ:=λG H w=>kS X.K C D G H w) r p λds Z1 a vs G1 H1 w1 r1 s1 h0 h1 h2 h3 q1 p1=>?_;by_cases hl:i < Z1.length
  ·simp only[hl,if_true] at p1;obtain ⟨r',s'⟩:=r1.setOwn hl hp h1 h2 h3 q1 s1 h0 (r.en.k a h0);exact p1 _ _ _ _ s' r'
  ·simp only[hl,if_false] at p1;exact p1.elim
def zoD(i:Nat)(fb:De):De:=λZ=>match Z[i]? with
 |some (some _)=>(fb Z).bind λb=>match b.2[i]?,b.1 with
  |some (some (.own ds)),.int k=>match atI ds k with
   |some d=>.ok (d,b.2)
   |none=>.no
  |_,_=>.no
 |_=>.no
theorem zi0{K:W.Frag}{G:Hp}{ds:List Dt}{vs:List V}{k:Int}{d:Dt}(h:za1 K G ds vs)(e:atI ds k=some d):∃ v,atI vs k=some v/\Rep K G d v:=by
 unfold atI at e ⊢;rw[<- h.length];cases q:ixN ds.length k with
 |none=>rw[q] at e;cases e
 |some j =>
  rw[q] at e;exact h.get e
theorem zgE(i:Nat){x:Str}{ps:Pos}(hN:X.N[i]? = some x:=by rfl)(hb:JE X C b fb)(hv:Vis X.env.scope x:=by exact xwV)(hd:(x == ("__debug__" : Str))=false:=by decide)
  (hcd:(x == ("__classdict__" : Str))=false:=by decide) (hs:zhV b:=by exact λ_ _=>rfl):JE X C (.Subscript (.Name x ps) b pos) (zoD i fb) :=
 PE.weak (zta zkJ (zcq hN hv hd hcd) hb hs) λY H Q ⟨G,w,Z,r,p⟩=>by
  unfold zoD at p;split at p
  ·rename_i b0 e0;obtain ⟨v0,h0,_⟩:=r.sl i b0 e0;refine ⟨v0,h0,?_⟩;refine zdE (κ:=λG H w=>kE X.K C Y Q G H w) zbI r p λd Z1 v G1 H1 w1 r1 s1 q1 p1=>?_;dsimp only at p1;split at p1
   ·rename_i ds k e1;obtain ⟨v1,h1,a,vs,rfl,h2,h3,h4⟩:=r1.sl i _ e1;rw[h0] at h1;cases h1;split at p1
    ·rename_i d' e2;obtain ⟨v2,h5,h6⟩:=zi0 h4 e2;exact ⟨a,vs,k,v2,rfl,za6 q1,SqL.of h3,h5,p1 v2 G1 H1 w1 (.refl _ _ _) r1 h6⟩
    ·exact p1.elim
   ·exact p1.elim
  ·exact p.elim
end
def zne(K:W.Frag)(J:It)(G:Hp)(ds:List Dt):Prop:=∀(i:Nat)(G1 H:Hp),zbR G G1->zbR G1 H ->
 (∀ d,ds[i]? = some d->J.go i H/\∀ x H',J.yld i H x H'->∃ G2,zeh G1 H G2 H'/\Rep K G2 d x)/\(ds.length<=i->J.stop i H)
def kI(K:W.Frag)(C:Cn)(Y:L2.St)(Q:It->Hp->Prop)(G H:Hp)(w:Wn)(a:List Dt×Ev):Prop :=
 ∀ J G' H' w',zbu G H w G' H' w'->Rel K C G' w' a.2 Y H'->zne K J G' a.1->Q J H'
def tI(K:W.Frag)(C:Cn)(f:DA):TI:=λY H Q=>∃ G w Z,Rel K C G w Z Y H/\zcm C.ex (kI K C Y Q G H w) (f Z)
abbrev JI(X:Cx)(C:Cn)(tg iter:Expr)(f:DA):Prop:=PI X tg iter (tI X.K C f)
section
variable{X:Cx}{C:Cn}{tg iter:Expr}{fa:De}{pos:Pos}
theorem zv6{K:W.Frag}{Y:L2.St}{α:Type}{κ:zqH α}(st:Stp κ){G H:Hp}{w:Wn}{Z:Ev}{fa:DA}{g:List Dt×Ev->R α}{Q:It->Hp->Prop}(r:Rel K C G w Z Y H)(p:zcm C.ex (κ G H w) ((fa Z).bind g))
  (k:∀ ds Z1 J G1 H1 w1,Rel K C G1 w1 Z1 Y H1->zbu G H w G1 H1 w1->zne K J G1 ds->zcm C.ex (κ G1 H1 w1) (g (ds,Z1))->Q J H1):tI K C fa Y H Q:=by
 refine ⟨G,w,Z,r,?_⟩;cases e:fa Z with
 |ok a =>
  rw[e] at p;intro v G' H' w' s' r' q;exact k a.1 a.2 v G' H' w' r' s' q (zcm.step st s' p)
 |er n=>rw[e] at p;exact p
 |no=>rw[e] at p;exact p
theorem PI.or{t t':TI}(h:PI X tg iter t)(h':PI X tg iter t'):PI X tg iter (λY H Q=>t Y H Q\/t' Y H Q):=λpS s Y H Q I q=>q.elim (h pS s Y H Q I) (h' pS s Y H Q I)
theorem PI.weak{t t':TI}(h:PI X tg iter t)(k:∀ Y H Q,t' Y H Q->t Y H Q):PI X tg iter t':=λpS s Y H Q I q=>h pS s Y H Q I (k Y H Q q)
def dIt(f:De):DA:=λZ=>(f Z).bind λa=>match a.1 with
 |.lst l=>.ok (l,a.2)
 |.tup l=>.ok (l,a.2)
 |_=>.no
theorem zvq{K:W.Frag}{G:Hp}{a:Addr}{vs:List V}{ds:List Dt}(hs:SqT K G a vs)(q:za1 K G ds vs):zne K (Itt K a) G ds:=λi G1 H s1 s2=>by refine ⟨λd e=>?_,λh=>⟨vs,zaA s2 (zaA s1 hs),by rw[<- q.length];exact h⟩⟩;obtain ⟨v,e1,e2⟩:=q.get e;refine ⟨⟨vs,v,zaA s2 (zaA s1 hs),e1⟩,λx H' y=>?_⟩;obtain ⟨rfl,y⟩:=y;have:=y vs (zaA s2 (zaA s1 hs));rw[e1] at this;cases this;exact ⟨G1,.refl s2,e2.same s1⟩
theorem zsX{K:W.Frag}{G:Hp}{a:Addr}{vs:List V}{ds:List Dt}(hs:SqL K G a vs)(q:za1 K G ds vs):zne K (Itl K a) G ds:=λi G1 H s1 s2=>by refine ⟨λd e=>?_,λh=>⟨vs,s2.seq (s1.seq hs),by rw[<- q.length];exact h⟩⟩;obtain ⟨v,e1,e2⟩:=q.get e;refine ⟨⟨vs,v,s2.seq (s1.seq hs),e1⟩,λx H' y=>?_⟩;obtain ⟨rfl,y⟩:=y;have:=y vs (s2.seq (s1.seq hs));rw[e1] at this;cases this;exact ⟨G1,.refl s2,e2.same s1⟩
theorem zbS(h:JE X C iter fa):JI X C tg iter (dIt fa):=PI.weak (PI.or (ztu h) (zuJ h)) λY H Q ⟨G,w,Z,r,p⟩=>by
 unfold dIt at p;cases e:fa Z with
 |ok x =>
  obtain ⟨d,Z1⟩:=x;cases d with
  |lst l =>
   rw[e] at p;refine .inl ⟨G,w,Z,r,?_⟩;rw[e];intro v G' H' w' s' r' q;obtain ⟨a,vs,rfl,h1,h2⟩:=zaJ q;exact ⟨a,rfl,⟨vs,SqL.of (r'.gh _ _ h1)⟩,p _ G' H' w' s' r' (zsX (SqL.of h1) h2)⟩
  |tup l =>
   rw[e] at p;refine .inr ⟨G,w,Z,r,?_⟩;rw[e];intro v G' H' w' s' r' q;obtain ⟨a,vs,rfl,h1,h2⟩:=zb0 q;exact ⟨a,rfl,⟨vs,zaA r'.gh h1⟩,p _ G' H' w' s' r' (zvq h1 h2)⟩
  |_=>rw[e] at p;exact p.elim
 |er n=>rw[e] at p;exact .inl ⟨G,w,Z,r,by rw[e];exact p⟩
 |no=>rw[e] at p;exact p.elim
def zbG(lo:Int)(n:Nat):List Dt:=(List.range n).map λk=>.int (lo+(k:Nat))
theorem zuS{K:W.Frag}{G:Hp}{lo:Int}{n:Nat}:zne K (Itr lo n) G (zbG lo n):=λi G1 H s1 s2=>by
 refine ⟨λd e=>?_,λh=>show n<=i by simpa [zbG] using h⟩;unfold zbG at e;rw[List.getElem?_map] at e;by_cases hi:i<n
 ·rw[List.getElem?_range hi] at e;cases e;refine ⟨hi,λx H' y=>?_⟩;obtain ⟨rfl,rfl⟩:=y;exact ⟨G1,.refl s2,by unfold Rep;rfl⟩
 ·rw[List.getElem?_eq_none (by simpa using hi)] at e;cases e
def zgR(j:Int):Bool:=decide (-4611686018427387904<=j) && decide (j<4611686018427387904)
theorem ziB{j:Int}(h:zgR j=true):-(2 ^ 62)<=j/\j<2 ^ 62:=by unfold zgR at h;rw[Bool.and_eq_true] at h;have h1:=of_decide_eq_true h.1;have h2:=of_decide_eq_true h.2;omega
def zbH(fa:De):DA:=λZ=>(fa Z).bind λa=>match a.1 with
 |.int j=>if zgR j=true then .ok (zbG 0 j.toNat,a.2) else .no
 |_=>.no
theorem zcA{e:Expr}{p ps:Pos}(hg:Gl X "range")(hm:X.mg "range"=none)(he:JE X C e fa)(hs:starEach [e] X.env=[(false,eval e X.env)]:=by rfl):JI X C tg (.Call (.Name "range" p) [e] [] ps) (zbH fa) :=
 PI.weak (zoC hg hm (zao he za4 (by rw[hs];rfl)) hs) λY H Q ⟨G,w,Z,r,p⟩=>by
  unfold zbH at p;refine ⟨G,w,Z,r,?_⟩;unfold dA dA0;cases e:fa Z with
  |ok x =>
   obtain ⟨d,Z1⟩:=x;rw[e] at p;intro vs G' H' w' s' r' q;obtain ⟨v,t,rfl,q1,q2⟩:=q.cons_inv;rw[q2.nil_inv];cases d with
   |int j =>
    simp only[R.bind_ok] at p;by_cases hj:zgR j=true
    ·simp only[hj,if_true] at p;exact ⟨j,by rw[za6 q1],(ziB hj).1,(ziB hj).2,p _ G' H' w' s' r' zuS⟩
    ·simp only[hj] at p;exact p.elim
   |_=>exact p.elim
  |er n=>rw[e] at p;exact p
  |no=>rw[e] at p;exact p
abbrev DG:=Dt->Ev->R Ev
def kG(K:W.Frag)(C:Cn)(Q:L2.St->Hp->Prop)(G H:Hp)(w:Wn)(Z:Ev):Prop :=
 ∀ Y' G' H' w',zbu G H w G' H' w'->Rel K C G' w' Z Y' H'->Q Y' H'
def tG(K:W.Frag)(C:Cn)(g:DG):TG:=λv Y H Q=>∃ G w Z d,Rel K C G w Z Y H/\Rep K G d v/\zcm C.ex (kG K C Q G H w) (g d Z)
abbrev JG(X:Cx)(C:Cn)(tg:Expr)(g:DG):Prop:=PG X tg (tG X.K C g)
theorem PG.weak{t t':TG}(h:PG X tg t)(k:∀ v Y H Q,t' v Y H Q->t v Y H Q):PG X tg t':=λpS s Y H v u Q I r q=>h pS s Y H v u Q I r (k v Y H Q q)
def zaU(i:Nat):DG:=λd Z=>if i < Z.length then .ok (Z.set i (some (.val d))) else .no
theorem zaM{i:Nat}{x:Str}(hN:X.N.Nodup)(hi:X.N[i]? = some x)(hx:Loc X.env.scope x)(hp:i∉C.pp)(hf:X.fn x=true\/X.env.scope.names.lookup x=some .local:=by exact xwA):JG X C (.Name x pos) (zaU i) :=
 PG.weak (zkI hN hi hx hf) λv Y H Q ⟨G,w,Z,d,r,q,p⟩=>by
  unfold zaU at p;by_cases hl:i < Z.length
  ·simp only[hl,if_true] at p;exact p _ G H w (.refl _ _ _) (r.setVal hl hp q)
  ·simp only[hl,if_false] at p;exact p.elim
def zlt(i j:Nat):DG:=λd Z=>match d with
 |.tup [a,b]=>if i < Z.length/\j < Z.length then .ok ((Z.set i (some (.val a))).set j (some (.val b))) else .no
 |_=>.no
theorem zrU{i j k:Nat}{x y:Str}{p1 p2:Pos}(hc:X.calm=true)(hN:X.N.Nodup)(hi:X.N[i]? = some x)(hj:X.N[j]? = some y)(hx:Loc X.env.scope x)(hy:Loc X.env.scope y)(hp:i∉C.pp)(hq:j∉C.pp)
  (hf:X.fn x=true\/X.env.scope.names.lookup x=some .local:=by exact xwA) (hf2:X.fn y=true\/X.env.scope.names.lookup y=some .local:=by exact xwA)
  (hs1:(assignEach [.Name x p1,.Name y p2] X.env).map (·.2)=assign (.Name x p1) X.env::(assignEach [.Name y p2] X.env).map (·.2):=by rfl) (hs2:(assignEach [.Name y p2] X.env).map (·.2)=assign (.Name y p2) X.env::(assignEach [] X.env).map (·.2):=by rfl)
  (hn:(assignEach [.Name x p1,.Name y p2] X.env).length=2:=by rfl) (hst:(assignEach [.Name x p1,.Name y p2] X.env).findIdx? (·.1)=none:=by rfl):JG X C (.Tuple [.Name x p1,.Name y p2] k pos) (zlt i j) :=
 PG.weak (ztT hc (zlT (zkI hN hi hx hf) (zlT (zkI hN hj hy hf2) zs3 hs2) hs1) hn hst) λv Y H Q ⟨G,w,Z,d,r,q,p⟩=>by
  unfold zlt at p;split at p
  ·rename_i a b;obtain ⟨ad,vs,rfl,h1,h2⟩:=zb0 q;obtain ⟨v1,t,rfl,q1,q2⟩:=h2.cons_inv;obtain ⟨v2,t2,rfl,q3,q4⟩:=q2.cons_inv;rw[q4.nil_inv] at h1;by_cases hl:i < Z.length/\j < Z.length
   ·simp only[hl,and_self,if_true] at p;have r1:=r.setVal hl.1 hp q1;have r2:=r1.setVal (i:=j) (by simpa using hl.2) hq q3;exact ⟨ad,_,rfl,zaA r.gh h1,rfl,v1,_,rfl,v2,_,rfl,rfl,p _ G H w (.refl _ _ _) r2⟩
   ·simp only[hl,if_false] at p;exact p.elim
  ·exact p.elim
def zmS(g:DG)(body:DS):List Dt->DS
 |[],Z=>.ok (.nx,Z)
 |d::r,Z=>(g d Z).bind λZ1=>(body Z1).bind λa=>match a.1 with
  |.nx=>zmS g body r a.2
  |.ct=>zmS g body r a.2
  |.bk=>.ok (.nx,a.2)
  |.rt v=>.ok (.rt v,a.2)
def zeU(fi:DA)(g:DG)(body:DS):DS:=λZ=>(fi Z).bind λa=>zmS g body a.1 a.2
theorem zcX{body:List Stmt}{fi:DA}{g:DG}{fb:DS}(hp:PassesOwn (model X.prog X.w) X.A X.env X.xe)(hc:X.calm=true)(hi:JI X C tg iter fi)(hg:JG X C tg g)(hb:JSs X C body fb)
  (hs:∀ x,foldedSetIterable iter X.env x=pure x:=by intro _;rfl):JS X C (.For tg iter body [] pos) (zeU fi g fb) :=
 PS.weak (zuD hp hc hi hg hb hs) λD Y H ⟨G,w,Z,r,p⟩=>by
  refine zv6 (κ:=λG H w=>kS X.K C D G H w) zdT r p λds Z1 J G1 H1 w1 r1 s1 it p1=>?_;refine ⟨λi m Y' H'=>m=ds.length-i/\i<=ds.length/\∃ G' w' Z',zbR G1 G'/\Rel X.K C G' w' Z' Y' H'/\zcm C.ex (kS X.K C D G' H' w') (zmS g fb (ds.drop i) Z'),
   ⟨ds.length,xws,Nat.zero_le _,G1,w1,Z1,.refl _,r1,by simpa using p1⟩,?_⟩
  rintro i m Y2 H2 ⟨rfl,hi,G2,w2,Z2,s2,r2,p2⟩;obtain ⟨it1,it2⟩:=it i G2 H2 s2 r2.gh;by_cases hlt:i<ds.length
  ·have ed:ds.drop i=ds[i]::ds.drop (i+1):=List.drop_eq_getElem_cons hlt;obtain ⟨go,yl⟩:=it1 ds[i] (by simp[hlt]);rw[ed] at p2;refine .inr ⟨go,λY' H'=>(ds.length-(i+1))=ds.length-(i+1)/\i+1<=ds.length/\∃ G' w' Z',zbR G1 G'/\Rel X.K C G' w' Z' Y' H'/\zcm C.ex (kS X.K C D G' H' w') (zmS g fb (ds.drop (i+1)) Z'),
    λY' H' h=>⟨ds.length-(i+1),xwo,h⟩,λx H' y=>?_⟩
   obtain ⟨G3,gr,q3⟩:=yl x H' y;have r3:=r2.grow gr;have p3:=zcm.step (κ:=λG H w=>kS X.K C D G H w) zdT gr.step (w1:=w2) p2;refine ⟨G3,w2,Z2,ds[i],r3,q3,?_⟩;unfold zmS at p3;cases eg:g ds[i] Z2 with
   |ok Z3 =>
    rw[eg] at p3;intro Y4 G4 H4 w4 s4 r4;have p4:=zcm.step (κ:=λG H w=>kS X.K C D G H w) zdT s4 p3;refine ⟨G4,w4,Z3,r4,?_⟩;cases eb:fb Z3 with
    |ok z =>
     obtain ⟨fl,Z5⟩:=z;rw[R.bind_ok,eb] at p4;have sG:zbR G1 G4:=(s2.trans gr.g).trans s4.g;cases fl with
     |nx=>exact λY6 G6 H6 w6 s6 r6=>⟨rfl,hlt,G6,w6,Z5,sG.trans s6.g,r6,zcm.step (κ:=λG H w=>kS X.K C D G H w) zdT s6 p4⟩
     |ct=>exact λY6 G6 H6 w6 s6 r6=>⟨rfl,hlt,G6,w6,Z5,sG.trans s6.g,r6,zcm.step (κ:=λG H w=>kS X.K C D G H w) zdT s6 p4⟩
     |bk=>exact p4
     |rt v=>exact p4
    |er n=>rw[R.bind_ok,eb] at p4;exact p4
    |no=>rw[R.bind_ok,eb] at p4;exact p4
   |er n=>rw[eg] at p3;exact p3
   |no=>rw[eg] at p3;exact p3
  ·have e:i=ds.length:=by omega
   subst e;simp only[List.drop_length] at p2;exact .inl ⟨it2 (wal _),p2 Y2 G2 H2 w2 (.refl _ _ _) r2⟩
def zbp(c:DT)(body:DS):Nat->DS
 |0,_=>.no
 |n+1,Z=>(c Z).bind λt=>if t.1=true then (body t.2).bind λa=>match a.1 with
   |.nx=>zbp c body n a.2
   |.ct=>zbp c body n a.2
   |.bk=>.ok (.nx,a.2)
   |.rt v=>.ok (.rt v,a.2)
  else .ok (.nx,t.2)
theorem zlP(n:Nat){c:Expr}{body:List Stmt}{tc:DT}{fb:DS}(hp:PassesOwn (model X.prog X.w) X.A X.env X.xe)(hc:JT X C c tc)(hb:JSs X C body fb):JS X C (.While c body [] pos) (zbp tc fb n) :=
 PS.weak (zp0 hp hc hb) λD Y H ⟨G,w,Z,r,p⟩=>by
  refine ⟨λm Y' H'=>∃ G' w' Z',Rel X.K C G' w' Z' Y' H'/\zcm C.ex (kS X.K C D G' H' w') (zbp tc fb m Z'),⟨n,G,w,Z,r,p⟩,?_⟩;rintro m Y1 H1 ⟨G1,w1,Z1,r1,p1⟩;cases m with
  |zero=>exact p1.elim
  |succ m =>
   unfold zbp at p1;refine zuH (κ:=λG H w=>kS X.K C D G H w) zdT r1 p1 λb Z2 G2 H2 w2 r2 s2 p2=>?_;cases b with
   |false=>exact p2 Y1 G2 H2 w2 (.refl _ _ _) r2
   |true =>
    refine ⟨λY' H'=>∃ G' w' Z',Rel X.K C G' w' Z' Y' H'/\zcm C.ex (kS X.K C D G' H' w') (zbp tc fb m Z'),λY' H' h=>⟨m,Nat.lt_succ_self _,h⟩,G2,w2,Z2,r2,?_⟩;have p2:zcm C.ex (kS X.K C D G2 H2 w2) ((fb Z2).bind λa=>match a.1 with
     |.nx=>zbp tc fb m a.2
     |.ct=>zbp tc fb m a.2
     |.bk=>.ok (.nx,a.2)
     |.rt v=>.ok (.rt v,a.2)):=p2
    cases eb:fb Z2 with
    |ok z =>
     obtain ⟨fl,Z5⟩:=z;rw[eb] at p2;cases fl with
     |nx=>exact λY6 G6 H6 w6 s6 r6=>⟨G6,w6,Z5,r6,zcm.step (κ:=λG H w=>kS X.K C D G H w) zdT s6 p2⟩
     |ct=>exact λY6 G6 H6 w6 s6 r6=>⟨G6,w6,Z5,r6,zcm.step (κ:=λG H w=>kS X.K C D G H w) zdT s6 p2⟩
     |bk=>exact p2
     |rt v=>exact p2
    |er n=>rw[eb] at p2;exact p2
    |no=>rw[eb] at p2;exact p2
end
abbrev FD:=List B->R (Dt×List B)
def znx:B->Bool
 |.val _=>false
 |_=>true
def zbX(bs:List B):List Bool:=bs.map znx
structure PRel(K:W.Frag)(G H:Hp)(w:Wn)(bs:List B)(vs:List V):Prop where
 gh:zbR G H
 wg:∀ b,w b≠none->G b=none
 wh:∀ b,w b≠none->H b≠none
 len:bs.length=vs.length
 sl:∀(j:Nat)(b:B)(v:V),bs[j]? = some b->vs[j]? = some v->RB K G H w j v b
structure zqK(K:W.Frag)(G H:Hp)(w:Wn)(ks:List Bool)(bs:List B)(vs:List V):Prop where
 gh:zbR G H
 wg:∀ b,w b≠none->G b=none
 wh:∀ b,w b≠none->H b≠none
 sl:∀(j:Nat)(v:V),ks[j]? = some true->vs[j]? = some v->∃ b,bs[j]? = some b/\RB K G H w j v b
def zsq(nw:Bool)(K:W.Frag)(xv:Nat->Value)(ks:List Bool)(F:FD):Sp:=λvs H Q E=>∃ G w bs,vs.length=ks.length/\zbX bs=ks/\PRel K G H w bs vs /\
 match F bs with
 |.ok a=>∀ v G' H' w',zbu G H w G' H' w'->zqK K G' H' w' ks a.2 vs->RtG nw K H G' H' w' a.1 v->Q v H'
 |.er n=>∀ G' H' w',zbu G H w G' H' w'->E (xv n) none H'
 |.no=>False
def EXc(C:Cn):XK:=λu a H'=>a=none/\∃ n,u=C.xv n/\C.ex n/\∃ G' w',zbu C.G₀ C.H₀ C.w₀ G' H' w'
inductive Arg where
 |d (x:Dt)|s (i:Nat)
def zdg(K:W.Frag)(G:Hp)(Y:L2.St):List Arg->List V->Prop
 |[],vs=>vs=[]
 |.d x::r,vs=>∃ v t,vs=v::t/\Rep K G x v/\zdg K G Y r t
 |.s i::r,vs=>∃ v t,vs=v::t/\Y[i]? = some (some v)/\zdg K G Y r t
theorem zdg.same{K:W.Frag}{G G':Hp}{Y:L2.St}(e:zbR G G'):∀{as:List Arg}{vs:List V},zdg K G Y as vs->zdg K G' Y as vs
 |[],_,h=>h
 |.d _::_,_,⟨v,t,h1,h2,h3⟩=>⟨v,t,h1,h2.same e,zdg.same e h3⟩
 |.s _::_,_,⟨v,t,h1,h2,h3⟩=>⟨v,t,h1,h2,zdg.same e h3⟩
abbrev DAr:=Ev->R (List Arg×Ev)
def kAr(K:W.Frag)(C:Cn)(Y:L2.St)(Q:List V->Hp->Prop)(G H:Hp)(w:Wn)(a:List Arg×Ev):Prop :=
 ∀ vs G' H' w',zbu G H w G' H' w'->Rel K C G' w' a.2 Y H'->zdg K G' Y a.1 vs->Q vs H'
def tAr(K:W.Frag)(C:Cn)(f:DAr):TA:=λY H Q=>∃ G w Z,Rel K C G w Z Y H/\zcm C.ex (kAr K C Y Q G H w) (f Z)
abbrev JAr(X:Cx)(C:Cn)(es:List Expr)(f:DAr):Prop:=PA X es (tAr X.K C f)
theorem zoE{K:W.Frag}{C:Cn}{Y:L2.St}{Q:List V->Hp->Prop}:Stp (λG H w=>kAr K C Y Q G H w):=λ_ _ _ _ _ _ _ s k v G' H' w' s'=>k v G' H' w' (s.trans s')
theorem zqU{K:W.Frag}{C:Cn}{Y:L2.St}{α:Type}{κ:zqH α}(st:Stp κ){G H:Hp}{w:Wn}{Z:Ev}{fa:DAr}{g:List Arg×Ev->R α}{Q:List V->Hp->Prop}(r:Rel K C G w Z Y H)(p:zcm C.ex (κ G H w) ((fa Z).bind g))
  (k:∀ as Z1 vs G1 H1 w1,Rel K C G1 w1 Z1 Y H1->zbu G H w G1 H1 w1->zdg K G1 Y as vs->zcm C.ex (κ G1 H1 w1) (g (as,Z1))->Q vs H1):tAr K C fa Y H Q:=by
 refine ⟨G,w,Z,r,?_⟩;cases e:fa Z with
 |ok a =>
  rw[e] at p;intro v G' H' w' s' r' q;exact k a.1 a.2 v G' H' w' r' s' q (zcm.step st s' p)
 |er n=>rw[e] at p;exact p
 |no=>rw[e] at p;exact p
def dR0:DAr:=λZ=>.ok ([],Z)
def dR(fa:De)(fr:DAr):DAr:=λZ=>(fa Z).bind λa=>(fr a.2).bind λb=>.ok (.d a.1::b.1,b.2)
def dRO(i:Nat)(fr:DAr):DAr:=λZ=>match Z[i]? with
 |some (some _)=>(fr Z).bind λb=>.ok (.s i::b.1,b.2)
 |_=>.no
section
variable{X:Cx}{C:Cn}{fa:De}{fr:DAr}{pos:Pos}
theorem zat:JAr X C [] dR0:=PA.weak zcD λY H Q ⟨G,w,Z,r,p⟩=>p _ G H w (.refl _ _ _) r rfl
theorem zae{e:Expr}{es:List Expr}(ha:JE X C e fa)(hr:JAr X C es fr)(hs:starEach (e::es) X.env=(false,eval e X.env)::starEach es X.env:=by rfl):JAr X C (e::es) (dR fa fr) :=
 PA.weak (zbb ha hr hs) λY H Q ⟨G,w,Z,r,p⟩=>by refine zdE (κ:=λG H w=>kAr X.K C Y Q G H w) zoE r p λd Z1 v G1 H1 w1 r1 s1 q1 p1=>?_;refine zqU (κ:=λG H w=>kAr X.K C Y Q G H w) zoE r1 p1 λas Z2 vs G2 H2 w2 r2 s2 q2 p2=>?_;exact p2 _ G2 H2 w2 (.refl _ _ _) r2 ⟨v,vs,rfl,q1.same s2.g,q2⟩
theorem ze0(i:Nat){x:Str}{ps:Pos}{es:List Expr}(hr:JAr X C es fr)(hN:X.N[i]? = some x:=by rfl)(hv:Vis X.env.scope x:=by exact xwV)(hd:(x == ("__debug__" : Str))=false:=by decide)
  (hcd:(x == ("__classdict__" : Str))=false:=by decide) (hs:starEach (.Name x ps::es) X.env=(false,eval (.Name x ps) X.env)::starEach es X.env:=by rfl):JAr X C (.Name x ps::es) (dRO i fr) :=
 PA.weak (zbb (zcq hN hv hd hcd) hr hs) λY H Q ⟨G,w,Z,r,p⟩=>by
  unfold dRO at p;split at p
  ·rename_i b e;obtain ⟨v,h1,_⟩:=r.sl i b e;refine ⟨v,h1,?_⟩;refine zqU (κ:=λG H w=>kAr X.K C Y Q G H w) zoE r p λas Z2 vs G2 H2 w2 r2 s2 q2 p2=>?_;exact p2 _ G2 H2 w2 (.refl _ _ _) r2 ⟨v,vs,rfl,h1,q2⟩
  ·exact p.elim
end
def zrd(as:List Arg)(j:Nat):Option Nat:=match as[j]? with
 |some (.s i)=>some i
 |_=>none
def zdI(i:Nat):Nat->List Arg->Option Nat
 |_,[]=>none
 |j,.s i'::r=>if i'=i then some j else zdI i (j+1) r
 |j,.d _::r=>zdI i (j+1) r
def zdY(as:List Arg)(i:Nat):Option Nat:=zdI i 0 as
def zbs(as:List Arg):Nat->List Arg->Bool
 |_,[]=>true
 |j,.s i::r=>(zdY as i == some j) && zbs as (j+1) r
 |j,.d _::r=>zbs as (j+1) r
def zm2(as:List Arg):Bool:=zbs as 0 as
theorem zeG{as:List Arg}:∀{l:List Arg}{j k:Nat}{i:Nat},zbs as j l=true->l[k]? = some (.s i)->zdY as i=some (j+k)
 |[],_,_,_,_,e=>by simp at e
 |.s i'::r,j,0,i,h,e=>by simp at e;subst e;unfold zbs at h;rw[Bool.and_eq_true] at h;simpa using h.1
 |.s i'::r,j,k+1,i,h,e=>by unfold zbs at h;rw[Bool.and_eq_true] at h;have:=zeG (k:=k) h.2 (by simpa using e);rw[this];congr 1;omega
 |.d x::r,j,0,i,h,e=>by simp at e
 |.d x::r,j,k+1,i,h,e=>by unfold zbs at h;have:=zeG (k:=k) h (by simpa using e);rw[this];congr 1;omega
theorem zf8{i:Nat}:∀{l:List Arg}{j m:Nat},zdI i j l=some m->∃ k,m=j+k/\l[k]? = some (.s i)
 |[],_,_,h=>by simp[zdI] at h
 |.s i'::r,j,m,h=>by
  unfold zdI at h;split at h
  ·rename_i e;subst e;cases h;exact ⟨0,rfl,rfl⟩
  ·obtain ⟨k,h1,h2⟩:=zf8 h;exact ⟨k+1,xwo,by simpa using h2⟩
 |.d x::r,j,m,h=>by unfold zdI at h;obtain ⟨k,h1,h2⟩:=zf8 h;exact ⟨k+1,xwo,by simpa using h2⟩
theorem zqO{as:List Arg}{i j:Nat}(h:zdY as i=some j):as[j]? = some (.s i):=by
 obtain ⟨k,h1,h2⟩:=zf8 h;have:j=k:=by omega
 subst this;exact h2
theorem zl6{as:List Arg}{i j:Nat}(u:zm2 as=true)(h:as[j]? = some (.s i)):zdY as i=some j:=by have:=zeG (j:=0) u h;simpa using this
def za3(Z:Ev):List Arg->R (List B)
 |[]=>.ok []
 |.d x::r=>(za3 Z r).bind λbs=>.ok (.val x::bs)
 |.s i::r=>match Z[i]? with
  |some (some b)=>if znx b=true then (za3 Z r).bind λbs=>.ok (b::bs) else .no
  |_=>.no
def zgm(as:List Arg)(bs:List B):Nat->Ev->Ev
 |_,[]=>[]
 |i,o::r=>(match zdY as i with|some j=>bs[j]?|none=>o)::zgm as bs (i+1) r
theorem zmb{as:List Arg}{bs:List B}:∀{Z:Ev}{k i:Nat},(zgm as bs k Z)[i]? = Z[i]?.map λo=>match zdY as (k+i) with|some j=>bs[j]?|none=>o
 |[],_,_=>by simp[zgm]
 |o::r,k,0=>by simp[zgm]
 |o::r,k,i+1=>by
  have:=zmb (as:=as) (bs:=bs) (Z:=r) (k:=k+1) (i:=i);simp only[zgm,List.getElem?_cons_succ];rw[this];have e:k+1+i=k+(i+1):=by omega
  rw[e]
theorem zlS{as:List Arg}{bs:List B}:∀{Z:Ev}{k:Nat},(zgm as bs k Z).length = Z.length
 |[],_=>rfl
 |o::r,k=>by simp[zgm,zlS (Z:=r)]
def zaj(F:FD)(fa:DAr):De:=λZ=>(fa Z).bind λa=>if zm2 a.1=true then (za3 a.2 a.1).bind λbs=>(F bs).bind λz=>.ok (z.1,zgm a.1 z.2 0 a.2) else .no
theorem zdW{Z:Ev}:∀{as:List Arg}{bs:List B}{j i:Nat},za3 Z as=.ok bs->as[j]? = some (.s i)->∃ b,Z[i]? = some (some b)/\bs[j]? = some b/\znx b=true
 |[],bs,j,i,h,e=>by simp at e
 |.d x::r,bs,j,i,h,e=>by
  unfold za3 at h;cases q:za3 Z r with
  |ok l =>
   rw[q] at h;simp only[R.bind_ok,R.ok.injEq] at h;subst h;cases j with
   |zero=>simp at e
   |succ j =>
    obtain ⟨b,h1,h2,h3⟩:=zdW (j:=j) q (by simpa using e);exact ⟨b,h1,by simpa using h2,h3⟩
  |er n=>rw[q] at h;simp at h
  |no=>rw[q] at h;simp at h
 |.s i'::r,bs,j,i,h,e=>by
  unfold za3 at h;split at h
  ·rename_i b eb;split at h
   ·rename_i ob;cases q:za3 Z r with
    |ok l =>
     rw[q] at h;simp only[R.bind_ok,R.ok.injEq] at h;subst h;cases j with
     |zero=>simp at e;subst e;exact ⟨b,eb,rfl,ob⟩
     |succ j =>
      obtain ⟨b,h1,h2,h3⟩:=zdW (j:=j) q (by simpa using e);exact ⟨b,h1,by simpa using h2,h3⟩
    |er n=>rw[q] at h;simp at h
    |no=>rw[q] at h;simp at h
   ·cases h
  ·cases h
theorem zek{Z:Ev}:∀{as:List Arg}{n:Nat},za3 Z as≠.er n
 |[],n,h=>by simp[za3] at h
 |.d x::r,n,h=>by
  unfold za3 at h;cases q:za3 Z r with
  |ok l=>rw[q] at h;simp at h
  |er m=>exact zek q
  |no=>rw[q] at h;simp at h
 |.s i::r,n,h=>by
  unfold za3 at h;split at h
  ·split at h
   ·cases q:za3 Z r with
    |ok l=>rw[q] at h;simp at h
    |er m=>exact zek q
    |no=>rw[q] at h;simp at h
   ·cases h
  ·cases h
def wIn(w:Wn)(as:List Arg):Wn:=λb=>(w b).bind (zdY as)
def zpn(w w':Wn)(as:List Arg):Wn:=λb=>match w' b with
 |some j=>zrd as j
 |none=>if (w b).bind (zdY as)=none then w b else none
section
variable{K:W.Frag}{C:Cn}{Y:L2.St}{G H:Hp}{w:Wn}{Z:Ev}
theorem ziR(r:Rel K C G w Z Y H):∀{as l:List Arg}{vs:List V}{bs:List B}{k j:Nat}{b:B}{v:V},(∀ m i,l[m]? = some (.s i)->zdY as i=some (k+m))->zdg K G Y l vs->za3 Z l=.ok bs->bs[j]? = some b->vs[j]? = some v->RB K G H (wIn w as) (k+j) v b
 |as,[],vs,bs,k,j,b,v,hu,ha,hr,hb,hv=>by simp[za3] at hr;subst hr;simp at hb
 |as,.d x::l,vs,bs,k,j,b,v,hu,ha,hr,hb,hv=>by
  obtain ⟨v0,t,rfl,h2,h3⟩:=ha;unfold za3 at hr;cases q:za3 Z l with
  |ok l' =>
   rw[q] at hr;simp only[R.bind_ok,R.ok.injEq] at hr;subst hr;cases j with
   |zero=>simp at hb hv;subst hb;subst hv;exact h2
   |succ j =>
    have:=ziR r (as:=as) (k:=k+1) (j:=j) (λm i e=>by rw[hu (m+1) i (by simpa using e)];congr 1;omega) h3 q (by simpa using hb) (by simpa using hv);have e:k+1+j=k+(j+1):=by omega
    rw[e] at this;exact this
  |er n=>rw[q] at hr;simp at hr
  |no=>rw[q] at hr;simp at hr
 |as,.s i::l,vs,bs,k,j,b,v,hu,ha,hr,hb,hv=>by
  obtain ⟨v0,t,rfl,h2,h3⟩:=ha;unfold za3 at hr;split at hr
  ·rename_i b0 eb;split at hr
   ·rename_i ob;cases q:za3 Z l with
    |ok l' =>
     rw[q] at hr;simp only[R.bind_ok,R.ok.injEq] at hr;subst hr;cases j with
     |zero =>
      simp at hb hv;subst hb;subst hv;obtain ⟨v1,h4,h5⟩:=r.sl i _ eb;rw[h2] at h4;cases h4;exact h5.grow (.refl _) λa o e1 e2=>⟨e2,by unfold wIn;rw[e1];exact hu 0 i rfl⟩
     |succ j =>
      have:=ziR r (as:=as) (k:=k+1) (j:=j) (λm i e=>by rw[hu (m+1) i (by simpa using e)];congr 1;omega) h3 q (by simpa using hb) (by simpa using hv);have e:k+1+j=k+(j+1):=by omega
      rw[e] at this;exact this
    |er n=>rw[q] at hr;simp at hr
    |no=>rw[q] at hr;simp at hr
   ·cases hr
  ·cases hr
theorem zgd:∀{as:List Arg}{vs:List V}{bs:List B},zdg K G Y as vs->za3 Z as=.ok bs->bs.length=vs.length
 |[],vs,bs,ha,hr=>by simp[za3] at hr;subst hr;cases ha;rfl
 |.d x::l,vs,bs,ha,hr=>by
  obtain ⟨v0,t,rfl,h2,h3⟩:=ha;unfold za3 at hr;cases q:za3 Z l with
  |ok l'=>rw[q] at hr;simp only[R.bind_ok,R.ok.injEq] at hr;subst hr;simp[zgd h3 q]
  |er n=>rw[q] at hr;simp at hr
  |no=>rw[q] at hr;simp at hr
 |.s i::l,vs,bs,ha,hr=>by
  obtain ⟨v0,t,rfl,h2,h3⟩:=ha;unfold za3 at hr;split at hr
  ·split at hr
   ·cases q:za3 Z l with
    |ok l'=>rw[q] at hr;simp only[R.bind_ok,R.ok.injEq] at hr;subst hr;simp[zgd h3 q]
    |er n=>rw[q] at hr;simp at hr
    |no=>rw[q] at hr;simp at hr
   ·cases hr
  ·cases hr
theorem zgo:∀{as:List Arg}{vs:List V}{j i:Nat},zdg K G Y as vs->as[j]? = some (.s i)->∃ v,vs[j]? = some v/\Y[i]? = some (some v)
 |[],_,_,_,_,e=>by simp at e
 |.d x::l,vs,j,i,ha,e=>by
  obtain ⟨v0,t,rfl,h2,h3⟩:=ha;cases j with
  |zero=>simp at e
  |succ j=>obtain ⟨v,e1,e2⟩:=zgo (j:=j) h3 (by simpa using e);exact ⟨v,by simpa using e1,e2⟩
 |.s i'::l,vs,j,i,ha,e=>by
  obtain ⟨v0,t,rfl,h2,h3⟩:=ha;cases j with
  |zero=>simp at e;subst e;exact ⟨v0,rfl,h2⟩
  |succ j=>obtain ⟨v,e1,e2⟩:=zgo (j:=j) h3 (by simpa using e);exact ⟨v,by simpa using e1,e2⟩
theorem Rel.back{as:List Arg}{vs:List V}{bs bs':List B}{ks:List Bool}{G' H':Hp}{w':Wn}(r:Rel K C G w Z Y H)(u:zm2 as=true)(ha:zdg K G Y as vs)(hr:za3 Z as=.ok bs)(hk:zbX bs=ks)
  (s:zbu G H (wIn w as) G' H' w') (pb:zqK K G' H' w' ks bs' vs):Rel K C G' (zpn w w' as) (zgm as bs' 0 Z) Y H'/\zbu G H w G' H' (zpn w w' as):=by
 have wi:∀ b,wIn w as b≠none->w b≠none:=λb e z=>e (by unfold wIn;rw[z];rfl);have wi2:∀ b,w b=none->wIn w as b=none:=λb z=>by unfold wIn;rw[z];rfl
 have st:zbu G H w G' H' (zpn w w' as):=by
  refine ⟨s.g,λb o e=>?_,λb o e z=>s.h b o e (wi2 b z),λb e=>?_,s.k⟩
  ·rcases s.fr b o e with q|q|q
   ·exact .inl q
   ·exact .inr (.inl q)
   ·exact .inr (.inr (wi b q))
  ·unfold zpn at e;split at e
   ·rename_i j ej;rcases s.w b (by rw[ej];simp) with q|q
    ·exact .inl (wi b q)
    ·exact .inr q
   ·split at e
    ·exact .inl e
    ·exact absurd rfl e
 have keep:∀ a o,w a≠none->(w a).bind (zdY as)=none->H a=some o->H' a=some o/\w' a=none/\G' a=none:=λa o e1 e2 e3=>by
  have e4:wIn w as a=none:=e2;have e5:=s.h a o e3 e4;have e6:w' a=none:=by
   cases q:w' a with
   |none=>rfl
   |some j =>
    rcases s.w a (by rw[q];simp) with z|z
    ·exact absurd e4 z
    ·rw[e3] at z;cases z
  refine ⟨e5,e6,?_⟩;cases q:G' a with
  |none=>rfl
  |some o' =>
   rcases s.fr a o' q with z|z|z
   ·exact absurd (r.wg a e1) z
   ·rw[e3] at z;cases z
   ·exact absurd e4 z
 refine ⟨⟨pb.gh,λb e=>?_,λb e=>?_,by rw[zlS];exact r.len,λi b e=>?_,r.en.trans st,r.pin⟩,st⟩
 ·unfold zpn at e;split at e
  ·rename_i j ej;exact pb.wg b (by rw[ej];simp)
  ·split at e
   ·rename_i e2;cases q:H b with
    |none=>exact absurd q (r.wh b e)
    |some o=>exact (keep b o e e2 q).2.2
   ·exact absurd rfl e
 ·unfold zpn at e;split at e
  ·rename_i j ej;exact pb.wh b (by rw[ej];simp)
  ·split at e
   ·rename_i e2;cases q:H b with
    |none=>exact absurd q (r.wh b e)
    |some o=>rw[(keep b o e e2 q).1];simp
   ·exact absurd rfl e
 ·rw[zmb,Nat.zero_add] at e;cases q:zdY as i with
  |some j =>
   have ej:=zqO q;obtain ⟨v,e1,e2⟩:=zgo ha ej;obtain ⟨b0,h1,h2,h3⟩:=zdW hr ej;have hkj:ks[j]? = some true:=by rw[<- hk];unfold zbX;rw[List.getElem?_map,h2];simp[h3]
   obtain ⟨b',h4,h5⟩:=pb.sl j v hkj e1;rw[h1] at e;simp only[q,Option.map_some] at e;rw[h4] at e;have e':b'=b:=by simpa using e
   subst e';refine ⟨v,e2,h5.grow (.refl _) λa o q1 q2=>⟨q2,?_⟩⟩;unfold zpn zrd;rw[q1];simp only;rw[ej]
  |none =>
   cases e1:Z[i]? with
   |none=>rw[e1] at e;simp at e
   |some o0 =>
    rw[e1] at e;simp only[q,Option.map_some,Option.some.injEq] at e;subst e;obtain ⟨v,h1,h2⟩:=r.sl i b e1;refine ⟨v,h1,h2.grow s.g λa o q1 q2=>?_⟩;have z:(w a).bind (zdY as)=none:=by rw[q1];exact q
    obtain ⟨k1,k2,_⟩:=keep a o (by rw[q1];simp) z q2;refine ⟨k1,?_⟩;unfold zpn;rw[k2];simp only;rw[if_pos z];exact q1
end
section
variable{X:Cx}{C:Cn}{CX:CXT}{k:Nat}{f:Addr}{fd:FuncData}{ps:List Str}{ks:List Bool}{Fd:FD}{x:Str}{p pos:Pos}{e:Expr}{es:List Expr}{far:DAr}
theorem zpg{Y:L2.St}{H:Hp}{Q:VK}(h:tE X.K C (zaj Fd far) Y H Q)(hks:∀ bs,Fd bs≠.no->zbX bs=ks):ztt (zsq false X.K C.xv ks Fd) [] (EXc C) (tAr X.K C far) Y H Q:=by
 obtain ⟨G,w,Z,r,p⟩:=h;refine zqU (κ:=λG H w=>kE X.K C Y Q G H w) zbI r p λas Z1 vs G1 H1 w1 r1 s1 q1 p1=>?_;rw[List.append_nil];by_cases hu:zm2 as=true
 ·simp only[hu,if_true] at p1;cases er:za3 Z1 as with
  |ok bs =>
   rw[er,R.bind_ok] at p1;have hk:zbX bs=ks:=by refine hks bs λz=>?_;rw[z] at p1;exact p1
   have hl:bs.length=vs.length:=zgd q1 er;refine ⟨G1,wIn w1 as,bs,by rw[<- hk,<- hl];simp[zbX],hk,⟨r1.gh,λb e=>r1.wg b λz=>e (by unfold wIn;rw[z];rfl),λb e=>r1.wh b λz=>e (by unfold wIn;rw[z];rfl),hl,λj b v e1 e2=>?_⟩,?_⟩
   ·have:=ziR r1 (as:=as) (k:=0) (j:=j) (λm i e=>by rw[Nat.zero_add];exact zl6 hu e) q1 er e1 e2;rw[Nat.zero_add] at this;exact this
   ·cases ef:Fd bs with
    |ok z =>
     rw[ef,R.bind_ok] at p1;intro v G' H' w' s' pb q;obtain ⟨r',st⟩:=r1.back hu q1 er hk s' pb;exact p1 v G' H' _ st r' q
    |er n =>
     rw[ef] at p1;intro G' H' w' s';refine ⟨rfl,n,rfl,p1,G',λ_=>none,r1.en.trans ⟨s'.g,λb o e=>?_,λb o e z=>s'.h b o e (by unfold wIn;rw[z];rfl),λb e=>absurd rfl e,s'.k⟩⟩;rcases s'.fr b o e with q|q|q
     ·exact .inl q
     ·exact .inr (.inl q)
     ·exact .inr (.inr λz=>q (by unfold wIn;rw[z];rfl))
    |no=>rw[ef] at p1;exact p1.elim
  |er n=>exact absurd er zek
  |no=>rw[er] at p1;exact p1.elim
 ·simp only[hu] at p1;exact p1.elim
theorem ztp(F:zff X.prog X.w X.K X.mg X.base CX k f fd ps (zsq false X.K C.xv ks Fd))(hr:zdD k X.A)(hg:Gl X x)(hm:X.mg x=some (.ref f))(hk:W.keepIn X.K (.ref f)=true)(hb:zf2 X.K fd ps [])(hx:zcW CX X (EXc C))(hks:∀ bs,Fd bs≠.no->zbX bs=ks)
  (ha:JAr X C (e::es) far) (hdb:(x == ("__debug__" : Str))=false:=by decide) (he:starEach (e::es) X.env=(false,eval e X.env)::starEach es X.env:=by rfl) (hpl:(backTo pos (starEach es X.env)).any (·.1)=false:=by rfl) :
  JE X C (.Call (.Name x p) (e::es) [] pos) (zaj Fd far) :=
 PE.weak (znq F hr hg hm hk hb .nil hx ha hdb he hpl) λY H Q h=>zpg h hks
def zc4(F:FD)(fa:DAr):DN:=λZ=>(fa Z).bind λa=>if zm2 a.1=true then (za3 a.2 a.1).bind λbs=>(F bs).bind λz=>match z.1 with
  |.lst l=>.ok (l,zgm a.1 z.2 0 a.2)
  |_=>.no
 else .no
theorem zm4{Y:L2.St}{H:Hp}{Q:VK}(h:tN X.K C (zc4 Fd far) Y H Q)(hks:∀ bs,Fd bs≠.no->zbX bs=ks):ztt (zsq true X.K C.xv ks Fd) [] (EXc C) (tAr X.K C far) Y H Q:=by
 obtain ⟨G,w,Z,r,p⟩:=h;refine zqU (κ:=λG H w=>kN X.K C Y Q G H w) zf9 r p λas Z1 vs G1 H1 w1 r1 s1 q1 p1=>?_;rw[List.append_nil];by_cases hu:zm2 as=true
 ·simp only[hu,if_true] at p1;cases er:za3 Z1 as with
  |ok bs =>
   rw[er,R.bind_ok] at p1;have hk:zbX bs=ks:=by refine hks bs λz=>?_;rw[z] at p1;exact p1
   have hl:bs.length=vs.length:=zgd q1 er;refine ⟨G1,wIn w1 as,bs,by rw[<- hk,<- hl];simp[zbX],hk,⟨r1.gh,λb e=>r1.wg b λz=>e (by unfold wIn;rw[z];rfl),λb e=>r1.wh b λz=>e (by unfold wIn;rw[z];rfl),hl,λj b v e1 e2=>?_⟩,?_⟩
   ·have:=ziR r1 (as:=as) (k:=0) (j:=j) (λm i e=>by rw[Nat.zero_add];exact zl6 hu e) q1 er e1 e2;rw[Nat.zero_add] at this;exact this
   ·cases ef:Fd bs with
    |ok z =>
     rw[ef,R.bind_ok] at p1;intro v G' H' w' s' pb q;obtain ⟨r',st⟩:=r1.back hu q1 er hk s' pb;obtain ⟨l,pp,us,e1,e2,e3,e4,e5,e6,e7⟩:=q;subst e2;rw[e1] at p1;refine p1 pp us G' H' _ st r' e3 e4 e5 ?_ e7;have w1p:w1 pp=none:=by
      cases zz:w1 pp with
      |none=>rfl
      |some k=>exact absurd e3 (r1.wh pp (by rw[zz];simp))
     unfold zpn;rw[e6,w1p];rfl
    |er n =>
     rw[ef] at p1;intro G' H' w' s';refine ⟨rfl,n,rfl,p1,G',λ_=>none,r1.en.trans ⟨s'.g,λb o e=>?_,λb o e z=>s'.h b o e (by unfold wIn;rw[z];rfl),λb e=>absurd rfl e,s'.k⟩⟩;rcases s'.fr b o e with q|q|q
     ·exact .inl q
     ·exact .inr (.inl q)
     ·exact .inr (.inr λz=>q (by unfold wIn;rw[z];rfl))
    |no=>rw[ef] at p1;exact p1.elim
  |er n=>exact absurd er zek
  |no=>rw[er] at p1;exact p1.elim
 ·simp only[hu] at p1;exact p1.elim
theorem zsU(F:zff X.prog X.w X.K X.mg X.base CX k f fd ps (zsq true X.K C.xv ks Fd))(hr:zdD k X.A)(hg:Gl X x)(hm:X.mg x=some (.ref f))(hk:W.keepIn X.K (.ref f)=true)(hb:zf2 X.K fd ps [])(hx:zcW CX X (EXc C))(hks:∀ bs,Fd bs≠.no->zbX bs=ks)
  (ha:JAr X C (e::es) far) (hdb:(x == ("__debug__" : Str))=false:=by decide) (he:starEach (e::es) X.env=(false,eval e X.env)::starEach es X.env:=by rfl) (hpl:(backTo pos (starEach es X.env)).any (·.1)=false:=by rfl) :
  JN X C (.Call (.Name x p) (e::es) [] pos) (zc4 Fd far) :=
 PE.weak (znq F hr hg hm hk hb .nil hx ha hdb he hpl) λY H Q h=>zm4 h hks
def za7:List Bool->Ev->R (List B)
 |[],_=>.ok []
 |false::ks,_::Z=>(za7 ks Z).bind λl=>.ok (.val .non::l)
 |true::ks,some b::Z=>(za7 ks Z).bind λl=>.ok (b::l)
 |_,_=>.no
def zax(nw:Bool)(ks:List Bool)(m:Nat)(body:DS):FD:=λbs=>if zbX bs=ks then (body (bs.map some++List.replicate m none)).bind λa=>match a.1 with
  |.nx=>if nw=true then .no else (za7 ks a.2).bind λl=>.ok (.non,l)
  |.rt d=>(za7 ks a.2).bind λl=>.ok (d,l)
  |_=>.no
 else .no
theorem zas{nw:Bool}{ks:List Bool}{m:Nat}{body:DS}:∀ bs,zax nw ks m body bs≠.no->zbX bs=ks:=λbs h=>by
 unfold zax at h;by_cases e:zbX bs=ks
 ·exact e
 ·rw[if_neg e] at h;exact absurd rfl h
theorem zeQ:∀{ks:List Bool}{Z:Ev}{l:List B}{j:Nat},za7 ks Z=.ok l->ks[j]? = some true->∃ b,l[j]? = some b/\Z[j]? = some (some b)
 |[],_,_,_,_,e=>by simp at e
 |false::ks,[],l,j,h,e=>by simp[za7] at h
 |true::ks,[],l,j,h,e=>by simp[za7] at h
 |false::ks,o::Z,l,j,h,e=>by
  unfold za7 at h;cases q:za7 ks Z with
  |ok l' =>
   rw[q] at h;simp only[R.bind_ok,R.ok.injEq] at h;subst h;cases j with
   |zero=>simp at e
   |succ j=>obtain ⟨b,h1,h2⟩:=zeQ (j:=j) q (by simpa using e);exact ⟨b,by simpa using h1,by simpa using h2⟩
  |er n=>rw[q] at h;simp at h
  |no=>rw[q] at h;simp at h
 |true::ks,none::Z,l,j,h,e=>by simp[za7] at h
 |true::ks,some b::Z,l,j,h,e=>by
  unfold za7 at h;cases q:za7 ks Z with
  |ok l' =>
   rw[q] at h;simp only[R.bind_ok,R.ok.injEq] at h;subst h;cases j with
   |zero=>exact ⟨b,rfl,rfl⟩
   |succ j=>obtain ⟨b,h1,h2⟩:=zeQ (j:=j) q (by simpa using e);exact ⟨b,by simpa using h1,by simpa using h2⟩
  |er n=>rw[q] at h;simp at h
  |no=>rw[q] at h;simp at h
theorem zeg:∀{ks:List Bool}{Z:Ev}{n:Nat},za7 ks Z≠.er n
 |[],_,_,h=>by simp[za7] at h
 |false::ks,[],n,h=>by simp[za7] at h
 |true::ks,[],n,h=>by simp[za7] at h
 |false::ks,o::Z,n,h=>by
  unfold za7 at h;cases q:za7 ks Z with
  |ok l'=>rw[q] at h;simp at h
  |er m=>exact zeg q
  |no=>rw[q] at h;simp at h
 |true::ks,none::Z,n,h=>by simp[za7] at h
 |true::ks,some b::Z,n,h=>by
  unfold za7 at h;cases q:za7 ks Z with
  |ok l'=>rw[q] at h;simp at h
  |er m=>exact zeg q
  |no=>rw[q] at h;simp at h
def zaT(ks:List Bool):List Nat:=(List.range ks.length).filter λj=>ks[j]? == some true
def zrs(CX:CXT)(P:Program)(w:World)(K:W.Frag)(mg:Str->Option Value)(base:Heap):Prop :=
 ∀(N:List Str)(qual:Str)(scope:Scope)(f:Addr)(cdv:Value)(A:Around)(outer:List Env)(s:Shared)(H:Hp)(E E':XK),scope.kind=.function->(∀ u a H',E' u a H'->E u a H') ->
  zcW CX (zlo CX P w K mg base N qual scope f cdv A outer s H E) E'
theorem zaI{P:Program}{w:World}{K:W.Frag}{mg:Str->Option Value}{base:Heap}{xq qual:Str}{st:Stmt}{N:List Str}{xv:Nat->Value}{m:Nat}{fb:DS}(nw:Bool)(lv:zrs CX P w K mg base)(F:Fun K xq qual st f fd)(S:zay N ps (zal st))(hl:ps.length=ks.length)(hm:N.length=ks.length+m)
  (hbody:∀(X:Cx)(C:Cn),(∃ cdv A outer s H E,X=zlo CX P w K mg base N qual (zal st) f cdv A outer s H E)->C.pp=zaT ks->C.xv=xv->C.nw=nw->zdD k X.A->zcW CX X (EXc C)->PassesOwn (model X.prog X.w) X.A X.env X.xe->JSs X C (zcr st) fb) :
  zff P w K mg base CX (k+1) f fd ps (zsq nw K xv ks (zax nw ks m fb)):=by
 obtain ⟨oc,od,kV,doc,pm,an,cdv,ct,osl,rfl,lk,hcd⟩:=F.ex;refine zt8 lk hcd S (λvs H Q E ⟨_,_,_,h,_⟩=>h.trans hl.symm) λA outer s H vs Q E hr hsp=>?_;obtain ⟨G,w0,bs,hv,hk,pr,hF⟩:=hsp;let X:=zlo CX P w K mg base N qual (zal st) f cdv A outer s H E;let C:Cn:=⟨G,H,w0,zaT ks,L2.start N vs,λn=>zax nw ks m fb bs=.er n,xv,nw⟩
 have hE:∀ u a H',EXc C u a H'->E u a H':=λu a H' ⟨ea,n,eu,en,G',w',s'⟩=>by subst ea;subst eu;have en':zax nw ks m fb bs=.er n:=en;rw[en'] at hF;exact hF G' H' w' s'
 have hb:=hbody X C ⟨cdv,A,outer,s,H,E,rfl⟩ rfl rfl rfl hr (lv N qual (zal st) f cdv A outer s H E (EXc C) S.kind hE) PassesOwn.leaving;refine ⟨_,hb,G,w0,bs.map some++List.replicate m none,?_,?_⟩
 ·refine ⟨pr.gh,pr.wg,pr.wh,?_,λi b e=>?_,.refl _ _ _,λi _=>rfl⟩
  ·unfold L2.start;simp only[wav,wag,List.length_replicate];have:=pr.len;omega
  ·have hi:i<bs.length:=by
    by_cases hi:i<bs.length
    ·exact hi
    ·rw[List.getElem?_append_right (by simpa using hi),List.getElem?_replicate] at e;split at e <;> cases e
   rw[List.getElem?_append_left (by simpa using hi),List.getElem?_map] at e;have eb:bs[i]? = some b:=by
    cases q:bs[i]? with
    |none=>rw[q] at e;cases e
    |some z=>rw[q] at e;cases e;rfl
   have hiv:i<vs.length:=by rw[<- pr.len];exact hi
   refine ⟨vs[i],?_,pr.sl i b vs[i] eb (by simp[hiv])⟩;unfold L2.start;rw[List.getElem?_append_left (by simpa using hiv),List.getElem?_map];simp[hiv]
 ·have hF':match zax nw ks m fb bs with
   |.ok a=>∀ v G' H' w',zbu G H w0 G' H' w'->zqK K G' H' w' ks a.2 vs->RtG nw K H G' H' w' a.1 v->Q v H'
   |.er n=>∀ G' H' w',zbu G H w0 G' H' w'->E (xv n) none H'
   |.no=>False:=hF
  have er:zax nw ks m fb bs=(fb (bs.map some++List.replicate m none)).bind λa=>match a.1 with
   |.nx=>if nw=true then .no else (za7 ks a.2).bind λl=>.ok (.non,l)
   |.rt d=>(za7 ks a.2).bind λl=>.ok (d,l)
   |_=>.no:=by unfold zax;rw[if_pos hk]
  have back:∀{Z':Ev}{l:List B}{Y':L2.St}{G' H':Hp}{w':Wn},za7 ks Z'=.ok l->Rel K C G' w' Z' Y' H'->zqK K G' H' w' ks l vs:=λ{Z' l Y' G' H' w'} eb r'=>by
   refine ⟨r'.gh,r'.wg,r'.wh,λj v e1 e2=>?_⟩;obtain ⟨b,h1,h2⟩:=zeQ eb e1;obtain ⟨v',h3,h4⟩:=r'.sl j b h2;have hj:j<ks.length:=(wam.mp e1).1;have hp:Y'[j]? = (L2.start N vs)[j]? := r'.pin j (by show j∈zaT ks;unfold zaT;rw[List.mem_filter];exact ⟨List.mem_range.mpr hj,by simp[e1]⟩)
   have hs:(L2.start N vs)[j]? = some (some v):=by unfold L2.start;rw[List.getElem?_append_left (by simpa using (List.getElem?_eq_some_iff.mp e2).1),List.getElem?_map,e2];rfl
   rw[hp,hs] at h3;cases h3;exact ⟨b,h1,h4⟩
  cases ef:fb (bs.map some++List.replicate m none) with
  |ok z =>
   obtain ⟨fl,Z'⟩:=z;rw[ef,R.bind_ok] at er;cases fl with
   |nx =>
    cases nw with
    |true=>rw[er] at hF';exact hF'.elim
    |false =>
     intro Y' G' H' w' s' r';have er:zax false ks m fb bs=(za7 ks Z').bind λl=>.ok (.non,l):=er;cases eb:za7 ks Z' with
     |ok l =>
      rw[er] at hF';simp only[eb,R.bind_ok] at hF';exact hF' _ G' H' w' s' (back eb r') (by unfold RtG Rep;rfl)
     |er n=>exact absurd eb zeg
     |no=>rw[er] at hF';simp only[eb,R.bind_no] at hF'
   |rt d =>
    intro v Y' G' H' w' s' r' q;cases eb:za7 ks Z' with
    |ok l =>
     rw[er] at hF';simp only[eb,R.bind_ok] at hF';exact hF' _ G' H' w' s' (back eb r') q
    |er n=>exact absurd eb zeg
    |no=>rw[er] at hF';simp only[eb,R.bind_no] at hF'
   |bk=>rw[er] at hF';exact hF'.elim
   |ct=>rw[er] at hF';exact hF'.elim
  |er n =>
   show zax nw ks m fb bs=.er n;rw[er,ef];rfl
  |no=>rw[er,ef] at hF';exact hF'.elim
theorem xwQ{P:Program}{w:World}{K:W.Frag}{mg:Str->Option Value}{base:Heap}{xq qual:Str}{st:Stmt}{N:List Str}{xv:Nat->Value}{m:Nat}{fb:DS}(nw:Bool)(lv:zrs CX P w K mg base)(F:Fun K xq qual st f fd)(S:zay N ps (zal st))(hl:ps.length=ks.length)(hm:N.length=ks.length+m)
  (hbody:∀ cdv A outer s H E cG cH cw cσ cex,nw=nw->zdD k (zlo CX P w K mg base N qual (zal st) f cdv A outer s H E).A->zcW CX (zlo CX P w K mg base N qual (zal st) f cdv A outer s H E) (EXc (⟨cG,cH,cw,zaT ks,cσ,cex,xv,nw⟩:Cn))->PassesOwn (model (zlo CX P w K mg base N qual (zal st) f cdv A outer s H E).prog (zlo CX P w K mg base N qual (zal st) f cdv A outer s H E).w) (zlo CX P w K mg base N qual (zal st) f cdv A outer s H E).A (zlo CX P w K mg base N qual (zal st) f cdv A outer s H E).env (zlo CX P w K mg base N qual (zal st) f cdv A outer s H E).xe->JSs (zlo CX P w K mg base N qual (zal st) f cdv A outer s H E) (⟨cG,cH,cw,zaT ks,cσ,cex,xv,nw⟩:Cn) (zcr st) fb) :
  zff P w K mg base CX (k+1) f fd ps (zsq nw K xv ks (zax nw ks m fb)):=zaI nw lv F S hl hm λX ⟨cG,cH,cw,_,cσ,cex,_,_⟩ ⟨cdv,A,outer,s,H,E,e⟩ h1 h2 h3=>by subst e;dsimp only at h1 h2 h3;subst h1 h2 h3;exact hbody cdv A outer s H E cG cH cw cσ cex rfl
end
mutual
def zeC:Dt->PyData
 |.non=>.none
 |.bl b=>.bool b
 |.int i=>.int i
 |.str x=>.str x
 |.tup l=>.tuple (zex l)
 |.lst l=>.list (zex l)
 |.dct _=>.dict []
 |.scr ns=>.list (ns.map .int)
def zex:List Dt->List PyData
 |[]=>[]
 |d::ds=>zeC d::zex ds
end
def okN:Nat->Dt->Bool
 |_,.non=>true
 |_,.bl _=>true
 |_,.int _=>true
 |_,.str x=>PySem.PyData.strOk x
 |0,.tup _=>false
 |0,.lst _=>false
 |n+1,.tup l=>l.all (okN n)
 |n+1,.lst l=>l.all (okN n)
 |_,.dct _=>false
 |_,.scr _=>false
mutual
def eqD:Dt->Dt->Bool
 |.non,.non=>true
 |.bl a,.bl b=>a == b
 |.bl a,.int j=>(if a then 1 else 0) == j
 |.int i,.bl b=>i == (if b then 1 else 0)
 |.int i,.int j=>i == j
 |.str x,.str y=>x == y
 |.lst xs,.lst ys=>zkn xs ys
 |.tup xs,.tup ys=>zkn xs ys
 |_,_=>false
def zkn:List Dt->List Dt->Bool
 |[],[]=>true
 |x::xs,y::ys=>eqD x y && zkn xs ys
 |_,_=>false
end
theorem zib{n:Nat}(ih:∀ d,okN n d=true->(zeC d).canLay0=true/\(zeC d).depth<=n):∀ l:List Dt,l.all (okN n)=true->PyData.canLayAll0 (zex l)=true/\PyData.depthAll (zex l)<=n
 |[],_=>by simp[zex,PyData.canLayAll0,PyData.depthAll]
 |d::ds,h=>by simp only[List.all_cons,wae] at h;obtain ⟨h1,h2⟩:=ih d h.1;obtain ⟨h3,h4⟩:=zib ih ds h.2;simp only[zex,PyData.canLayAll0,PyData.depthAll,h1,h3,Bool.and_self,true_and];omega
theorem zkj:∀(n:Nat)(d:Dt),okN n d=true->(zeC d).canLay0=true/\(zeC d).depth<=n
 |n,.non,_=>by simp[zeC,PyData.canLay0,PyData.depth]
 |n,.bl _,_=>by simp[zeC,PyData.canLay0,PyData.depth]
 |n,.int _,_=>by simp[zeC,PyData.canLay0,PyData.depth]
 |n,.str x,h=>by
  have h:PySem.PyData.strOk x=true:=by cases n <;> simpa [okN] using h
  simp[zeC,PyData.canLay0,PyData.depth,h]
 |0,.tup _,h=>by simp[okN] at h
 |0,.lst _,h=>by simp[okN] at h
 |n+1,.tup l,h=>by obtain ⟨h1,h2⟩:=zib (zkj n) l (by simpa [okN] using h);simp only[zeC,PyData.canLay0,PyData.depth,h1,true_and];omega
 |n+1,.lst l,h=>by obtain ⟨h1,h2⟩:=zib (zkj n) l (by simpa [okN] using h);simp only[zeC,PyData.canLay0,PyData.depth,h1,true_and];omega
 |n,.dct _,h=>by cases n <;> simp[okN] at h
 |n,.scr _,h=>by cases n <;> simp[okN] at h
mutual
theorem zl8:∀(n:Nat)(x y:Dt),okN n x=true->okN n y=true->PyData.eqv (zeC x) (zeC y)=eqD x y
 |n,.non,y,h,h'=>by cases y <;> first|(cases n <;> simp[okN] at h';done)|simp[zeC,PyData.eqv,eqD]
 |n,.bl _,y,h,h'=>by cases y <;> first|(cases n <;> simp[okN] at h';done)|simp[zeC,PyData.eqv,eqD]
 |n,.int _,y,h,h'=>by cases y <;> first|(cases n <;> simp[okN] at h';done)|simp[zeC,PyData.eqv,eqD]
 |n,.str _,y,h,h'=>by cases y <;> first|(cases n <;> simp[okN] at h';done)|simp[zeC,PyData.eqv,eqD]
 |0,.tup _,y,h,h'=>by simp[okN] at h
 |0,.lst _,y,h,h'=>by simp[okN] at h
 |n+1,.tup l,y,h,h'=>by
  cases y with
  |tup l'=>simp only[zeC,PyData.eqv,eqD];exact zkH n l l' (by simpa [okN] using h) (by simpa [okN] using h')
  |dct _=>simp[okN] at h'
  |scr _=>simp[okN] at h'
  |_=>simp[zeC,PyData.eqv,eqD]
 |n+1,.lst l,y,h,h'=>by
  cases y with
  |lst l'=>simp only[zeC,PyData.eqv,eqD];exact zkH n l l' (by simpa [okN] using h) (by simpa [okN] using h')
  |dct _=>simp[okN] at h'
  |scr _=>simp[okN] at h'
  |_=>simp[zeC,PyData.eqv,eqD]
 |n,.dct _,y,h,h'=>by cases n <;> simp[okN] at h
 |n,.scr _,y,h,h'=>by cases n <;> simp[okN] at h
theorem zkH:∀(n:Nat)(x y:List Dt),x.all (okN n)=true->y.all (okN n)=true->PyData.eqvAll (zex x) (zex y)=zkn x y
 |n,[],[],_,_=>by simp[zex,PyData.eqvAll,zkn]
 |n,[],_::_,_,_=>by simp[zex,PyData.eqvAll,zkn]
 |n,_::_,[],_,_=>by simp[zex,PyData.eqvAll,zkn]
 |n,a::as,b::bs,h,h'=>by simp only[List.all_cons,wae] at h h';simp only[zex,PyData.eqvAll,zkn];rw[zl8 n a b h.1 h'.1,zkH n as bs h.2 h'.2]
end
section
variable{X:Cx}{pS:List (Addr×Obj)}{Y:L2.St}{H:Hp}{s:Shared}
mutual
theorem zdp(I:L2.Inv X pS Y H s):∀(n:Nat)(d:Dt)(v:V)(u:Value),okN n d=true->Rep X.K H d v->zbO v u->∃ as,Reads s.heap u (zeC d) as
 |n,.non,v,u,_,h,r=>by rw[zgk h] at r;cases r;exact ⟨[],by simp only[zeC];exact .none⟩
 |n,.bl b,v,u,_,h,r=>by rw[zcJ h] at r;cases r;exact ⟨[],by simp only[zeC];exact .bool _⟩
 |n,.int b,v,u,_,h,r=>by rw[za6 h] at r;obtain ⟨t,rfl⟩:=r;exact ⟨[],by simp only[zeC];exact .int _ _⟩
 |n,.str b,v,u,_,h,r=>by rw[zfF h] at r;obtain ⟨t,rfl⟩:=r;exact ⟨[],by simp only[zeC];exact .str _ _⟩
 |0,.tup l,v,u,hk,h,r=>by simp[okN] at hk
 |0,.lst l,v,u,hk,h,r=>by simp[okN] at hk
 |n+1,.tup l,v,u,hk,h,r=>by obtain ⟨a,vs,rfl,h1,h2⟩:=zb0 h;cases r;obtain ⟨its,rv,⟨o,e,c,k,dd⟩,_⟩:=I.tuple h1;obtain ⟨as,q⟩:=zeM I n l vs its (by simpa [okN] using hk) h2 rv;exact ⟨as,by simp only[zeC];exact .tuple e c dd (by simpa using q)⟩
 |n+1,.lst l,v,u,hk,h,r=>by obtain ⟨a,vs,rfl,h1,h2⟩:=zaJ h;cases r;obtain ⟨its,rv,⟨o,k,e,c,_,dd⟩,_⟩:=I.list (SqL.of h1);obtain ⟨as,q⟩:=zeM I n l vs its (by simpa [okN] using hk) h2 rv;exact ⟨a::as,by simp only[zeC];exact .list e c dd (by simpa using q)⟩
 |n,.dct _,v,u,hk,h,r=>by cases n <;> simp[okN] at hk
 |n,.scr _,v,u,hk,h,r=>by cases n <;> simp[okN] at hk
theorem zeM(I:L2.Inv X pS Y H s):∀(n:Nat)(ds:List Dt)(vs:List V)(us:List Value),ds.all (okN n)=true->za1 X.K H ds vs->zaW vs us->∃ as,ReadsAll s.heap us (zex ds) as
 |n,[],vs,us,_,h,r=>by rw[h.nil_inv] at r;cases r;exact ⟨[],by simp only[zex];exact .nil⟩
 |n,d::ds,vs,us,hk,h,r=>by
  obtain ⟨v,t,rfl,h1,h2⟩:=h.cons_inv;cases r with
  |cons r1 r2 =>
   simp only[List.all_cons,wae] at hk;obtain ⟨as,q1⟩:=zdp I n d v _ hk.1 h1 r1;obtain ⟨bs,q2⟩:=zeM I n ds t _ hk.2 h2 r2;exact ⟨as++bs,by simp only[zex];exact .cons q1 q2⟩
end
mutual
theorem zoa(I:L2.Inv X pS Y H s):∀(n:Nat)(d d':Dt)(v:V),okN n d=true->okN n d'=true->Rep X.K H d v->Rep X.K H d' v->d=d'
 |n,.non,d',v,hk,hk',h,h'=>by rw[zgk h] at h';cases d' <;> unfold Rep at h' <;> first|(obtain ⟨a,vs,z,_⟩:=h';cases z;done)|(obtain ⟨a,z,_⟩:=h';cases z;done)|(cases h';rfl)|(cases h';done)|rfl
 |n,.bl b,d',v,hk,hk',h,h'=>by rw[zcJ h] at h';cases d' <;> unfold Rep at h' <;> first|(obtain ⟨a,vs,z,_⟩:=h';cases z;done)|(obtain ⟨a,z,_⟩:=h';cases z;done)|(cases h';rfl)|(cases h';done)|rfl
 |n,.int b,d',v,hk,hk',h,h'=>by rw[za6 h] at h';cases d' <;> unfold Rep at h' <;> first|(obtain ⟨a,vs,z,_⟩:=h';cases z;done)|(obtain ⟨a,z,_⟩:=h';cases z;done)|(cases h';rfl)|(cases h';done)|rfl
 |n,.str b,d',v,hk,hk',h,h'=>by rw[zfF h] at h';cases d' <;> unfold Rep at h' <;> first|(obtain ⟨a,vs,z,_⟩:=h';cases z;done)|(obtain ⟨a,z,_⟩:=h';cases z;done)|(cases h';rfl)|(cases h';done)|rfl
 |0,.tup l,d',v,hk,_,h,h'=>by simp[okN] at hk
 |0,.lst l,d',v,hk,_,h,h'=>by simp[okN] at hk
 |n+1,.tup l,d',v,hk,hk',h,h'=>by
  obtain ⟨a,vs,rfl,h1,h2⟩:=zb0 h;cases d' with
  |tup l' =>
   obtain ⟨a',vs',e,h3,h4⟩:=zb0 h';cases e;rw[I.tuple_inj h3 h1] at h4;rw[zig I n l l' vs (by simpa [okN] using hk) (by simpa [okN] using hk') h2 h4]
  |lst l' =>
   obtain ⟨a',vs',e,h3,h4⟩:=zaJ h';cases e;obtain ⟨its,rv,⟨o,e,c,k,dd⟩,_⟩:=I.tuple h1;obtain ⟨its',rv',⟨o',k',e',c',_,dd'⟩,_⟩:=I.list (SqL.of h3);rw[e] at e';cases e';rw[c] at c';exact absurd c' xwd
  |dct _=>simp[okN] at hk'
  |scr _=>simp[okN] at hk'
  |non=>cases zgk h'
  |bl _=>cases zcJ h'
  |int _=>cases za6 h'
  |str _=>cases zfF h'
 |n+1,.lst l,d',v,hk,hk',h,h'=>by
  obtain ⟨a,vs,rfl,h1,h2⟩:=zaJ h;cases d' with
  |lst l' =>
   obtain ⟨a',vs',e,h3,h4⟩:=zaJ h';cases e;rw[h1] at h3;cases h3;rw[zig I n l l' vs (by simpa [okN] using hk) (by simpa [okN] using hk') h2 h4]
  |tup l' =>
   obtain ⟨a',vs',e,h3,h4⟩:=zb0 h';cases e;obtain ⟨its,rv,⟨o,e,c,k,dd⟩,_⟩:=I.tuple h3;obtain ⟨its',rv',⟨o',k',e',c',_,dd'⟩,_⟩:=I.list (SqL.of h1);rw[e] at e';cases e';rw[c] at c';exact absurd c' xwd
  |dct _=>simp[okN] at hk'
  |scr _=>simp[okN] at hk'
  |non=>cases zgk h'
  |bl _=>cases zcJ h'
  |int _=>cases za6 h'
  |str _=>cases zfF h'
 |n,.dct _,d',v,hk,_,h,h'=>by cases n <;> simp[okN] at hk
 |n,.scr _,d',v,hk,_,h,h'=>by cases n <;> simp[okN] at hk
theorem zig(I:L2.Inv X pS Y H s):∀(n:Nat)(ds ds':List Dt)(vs:List V),ds.all (okN n)=true->ds'.all (okN n)=true->za1 X.K H ds vs->za1 X.K H ds' vs->ds=ds'
 |n,[],ds',vs,_,_,h,h'=>by
  rw[h.nil_inv] at h';cases ds' with
  |nil=>rfl
  |cons d t=>obtain ⟨v,r,z,_⟩:=h'.cons_inv;cases z
 |n,d::ds,ds',vs,hk,hk',h,h'=>by
  obtain ⟨v,t,rfl,h1,h2⟩:=h.cons_inv;cases ds' with
  |nil=>cases h'.nil_inv
  |cons d' t' =>
   obtain ⟨v',r',z,h3,h4⟩:=h'.cons_inv;cases z;simp only[List.all_cons,wae] at hk hk';rw[zoa I n d d' v hk.1 hk'.1 h1 h3,zig I n ds t' t hk.2 hk'.2 h2 h4]
end
end
def zv9(K:W.Frag)(neg:Bool):R2:=λx y H Q=>∃ dx dy,Rep K H dx x/\Rep K H dy y/\okN 60 dx=true/\okN 60 dy=true/\Q (.bl (if neg then !eqD dx dy else eqD dx dy)) H
theorem zfr{d:Dt}(h:okN 60 d=true):SeqAt.shaped (zeC d)=true:=by obtain ⟨h1,h2⟩:=zkj 60 d h;unfold SeqAt.shaped;rw[h1,Bool.true_and];exact wat xwo
section
variable{X:Cx}
theorem zrr(hu:X.A.units+64<cLine):OpR X (compareOp .Eq) (zv9 X.K false):=by intro pS s Y H x y v u Q I rx ry h;obtain ⟨dx,dy,h1,h2,h3,h4,q⟩:=h;obtain ⟨as,ra⟩:=zdp I 60 dx x v h3 h1 rx;obtain ⟨bs,rb⟩:=zdp I 60 dy y u h4 h2 ry;exact PyProof.Rows.eq_dataH ra rb (zfr h3) (zfr h4) hu ⟨.bl (eqD dx dy),H,I,(by rw[zl8 60 dx dy h3 h4];rfl),q⟩
theorem zrF(hu:X.A.units+64<cLine):OpR X (compareOp .NotEq) (zv9 X.K true):=by intro pS s Y H x y v u Q I rx ry h;obtain ⟨dx,dy,h1,h2,h3,h4,q⟩:=h;obtain ⟨as,ra⟩:=zdp I 60 dx x v h3 h1 rx;obtain ⟨bs,rb⟩:=zdp I 60 dy y u h4 h2 ry;exact PyProof.Rows.ne_dataH ra rb (zfr h3) (zfr h4) hu ⟨.bl (!eqD dx dy),H,I,(by rw[zl8 60 dx dy h3 h4];rfl),q⟩
def gEq(neg:Bool):Dt->Dt->R Dt:=λx y=>if (okN 60 x && okN 60 y)=true then .ok (.bl (if neg then !eqD x y else eqD x y)) else .no
theorem zk6(neg:Bool):zhN (gEq neg):=λx y n h=>by unfold gEq at h;split at h <;> cases h
theorem zoK{K:W.Frag}(neg:Bool):Op2 K (zv9 K neg) (gEq neg):=λG H x y dx dy z Q gh hx hy e k=>by
 unfold gEq at e;split at e
 ·rename_i h;rw[Bool.and_eq_true] at h;cases e;exact ⟨dx,dy,hx.same gh,hy.same gh,h.1,h.2,k _ G H (.refl gh) (by unfold Rep;rfl)⟩
 ·cases e
theorem zsi{pS:List (Addr×Obj)}{Y:L2.St}{H:Hp}{s:Shared}(I:L2.Inv X pS Y H s){A:Around}(hu:A.units+64<cLine){dx dy:Dt}{x y:V}{v u:Value}(h3:okN 60 dx=true)(h4:okN 60 dy=true)(h1:Rep X.K H dx x)(h2:Rep X.K H dy y)(rx:zbO x v)(ry:zbO y u) :
  SeqAt.EqAt A s v u (eqD dx dy):=by
 obtain ⟨as,ra⟩:=zdp I 60 dx x v h3 h1 rx;obtain ⟨bs,rb⟩:=zdp I 60 dy y u h4 h2 ry;obtain ⟨k1,k2⟩:=zkj 60 dx h3;obtain ⟨k3,k4⟩:=zkj 60 dy h4;have:=SeqAt.eqAt_reads (zeC dx) (zeC dy) A s v u as bs ra rb k1 k3 xwo;rw[zl8 60 dx dy h3 h4] at this;exact this
open Classical in
noncomputable def ziV(K:W.Frag)(H:Hp)(dx:Dt)(u:Value):Bool:=if ∃ d v,okN 60 d=true/\Rep K H d v/\zbO v u/\eqD d dx=true then true else false
theorem zlp{pS:List (Addr×Obj)}{Y:L2.St}{H:Hp}{s:Shared}(I:L2.Inv X pS Y H s){d dx:Dt}{v:V}{u:Value}(hk:okN 60 d=true)(h:Rep X.K H d v)(r:zbO v u):ziV X.K H dx u=eqD d dx:=by
 unfold ziV;split
 ·rename_i q;obtain ⟨d',v',k',h',r',e'⟩:=q;have ev:v'=v:=r'.inj r;subst ev;rw[zoa I 60 d d' v' hk k' h h'];exact e'.symm
 ·rename_i q;cases e:eqD d dx with
  |false=>rfl
  |true=>exact absurd ⟨d,v,hk,h,r,e⟩ q
theorem zeY{pS:List (Addr×Obj)}{Y:L2.St}{H:Hp}{s:Shared}(I:L2.Inv X pS Y H s){dx:Dt}:∀{ds:List Dt}{vs:List V}{us:List Value},ds.all (okN 60)=true->za1 X.K H ds vs->zaW vs us->us.any (ziV X.K H dx)=ds.any λd=>eqD d dx
 |[],vs,us,_,h,r=>by rw[h.nil_inv] at r;cases r;rfl
 |d::ds,vs,us,hk,h,r=>by
  obtain ⟨v,t,rfl,h1,h2⟩:=h.cons_inv;cases r with
  |cons r1 r2 =>
   simp only[List.all_cons,wae] at hk;simp only[List.any_cons];rw[zlp I hk.1 h1 r1,zeY I hk.2 h2 r2]
theorem zcE{pS:List (Addr×Obj)}{Y:L2.St}{H:Hp}{s:Shared}(I:L2.Inv X pS Y H s){A:Around}(hu:A.units+64<cLine){dx:Dt}{x:V}{v:Value}(hk:okN 60 dx=true)(hx:Rep X.K H dx x)(rx:zbO x v):∀{ds:List Dt}{vs:List V}{us:List Value},ds.all (okN 60)=true->za1 X.K H ds vs->zaW vs us->∀ u∈us,SeqAt.EqAt A s u v (ziV X.K H dx u)
 |[],vs,us,_,h,r,u,hu=>by rw[h.nil_inv] at r;cases r;cases hu
 |d::ds,vs,us,hks,h,r,u,hm=>by
  obtain ⟨v,t,rfl,h1,h2⟩:=h.cons_inv;cases r with
  |cons r1 r2 =>
   simp only[List.all_cons,wae] at hks;rcases wap.mp hm with rfl|hm
   ·rw[zlp I hks.1 h1 r1];exact zsi I hu hks.1 hk h1 hx r1 rx
   ·exact zcE I hu hk hx rx hks.2 h2 r2 u hm
def inD(x:Dt)(l:List Dt):Bool:=l.any λd=>eqD d x
def zv7(K:W.Frag)(neg:Bool):R2:=λx y H Q=>∃ dx ds,Rep K H dx x/\(Rep K H (.lst ds) y\/Rep K H (.tup ds) y)/\okN 60 dx=true/\ds.all (okN 60)=true/\Q (.bl (if neg then !inD dx ds else inD dx ds)) H
theorem zfg(A:Around):A.in1.units=A.units+1:=rfl
theorem zoh(hu:X.A.units+65<cLine):OpR X (compareOp .In) (zv7 X.K false):=by
 intro pS s Y H x y v u Q I rx ry h;obtain ⟨dx,ds,h1,h2,h3,h4,q⟩:=h;have hu1:X.A.in1.units+64<cLine:=by rw[zfg];omega
 rcases h2 with h2|h2
 ·obtain ⟨a,vs,rfl,k1,k2⟩:=zaJ h2;cases ry;obtain ⟨its,r,pl,hz⟩:=I.list (SqL.of k1);refine SeqAt.in_listAt (ziV X.K H dx) pl.isList (λw hw=>zcE I hu1 h3 h1 rx h4 k2 r w (by simpa using hw)) ⟨.bl _,H,I,rfl,?_⟩;rw[show its.toArray.any (ziV X.K H dx)=its.any (ziV X.K H dx) by simp,zeY I h4 k2 r];exact q
 ·obtain ⟨a,vs,rfl,k1,k2⟩:=zb0 h2;cases ry;obtain ⟨its,r,pl,hz⟩:=I.tuple k1;refine SeqAt.in_tupleAt (ziV X.K H dx) pl (λw hw=>zcE I hu1 h3 h1 rx h4 k2 r w (by simpa using hw)) ⟨.bl _,H,I,rfl,?_⟩;rw[show its.toArray.any (ziV X.K H dx)=its.any (ziV X.K H dx) by simp,zeY I h4 k2 r];exact q
theorem zo0(hu:X.A.units+65<cLine):OpR X (compareOp .NotIn) (zv7 X.K true):=by
 intro pS s Y H x y v u Q I rx ry h;obtain ⟨dx,ds,h1,h2,h3,h4,q⟩:=h;have hu1:X.A.in1.units+64<cLine:=by rw[zfg];omega
 rcases h2 with h2|h2
 ·obtain ⟨a,vs,rfl,k1,k2⟩:=zaJ h2;cases ry;obtain ⟨its,r,pl,hz⟩:=I.list (SqL.of k1);refine SeqAt.notIn_listAt (ziV X.K H dx) pl.isList (λw hw=>zcE I hu1 h3 h1 rx h4 k2 r w (by simpa using hw)) ⟨.bl _,H,I,rfl,?_⟩;rw[show its.toArray.any (ziV X.K H dx)=its.any (ziV X.K H dx) by simp,zeY I h4 k2 r];exact q
 ·obtain ⟨a,vs,rfl,k1,k2⟩:=zb0 h2;cases ry;obtain ⟨its,r,pl,hz⟩:=I.tuple k1;refine SeqAt.notIn_tupleAt (ziV X.K H dx) pl (λw hw=>zcE I hu1 h3 h1 rx h4 k2 r w (by simpa using hw)) ⟨.bl _,H,I,rfl,?_⟩;rw[show its.toArray.any (ziV X.K H dx)=its.any (ziV X.K H dx) by simp,zeY I h4 k2 r];exact q
def gIn(neg:Bool):Dt->Dt->R Dt:=λx y=>match y with
 |.lst ds=>if (okN 60 x && ds.all (okN 60))=true then .ok (.bl (if neg then !inD x ds else inD x ds)) else .no
 |.tup ds=>if (okN 60 x && ds.all (okN 60))=true then .ok (.bl (if neg then !inD x ds else inD x ds)) else .no
 |_=>.no
theorem zk9(neg:Bool):zhN (gIn neg):=λx y n h=>by
 unfold gIn at h;split at h
 ·split at h <;> cases h
 ·split at h <;> cases h
 ·cases h
theorem zop{K:W.Frag}(neg:Bool):Op2 K (zv7 K neg) (gIn neg):=λG H x y dx dy z Q gh hx hy e k=>by
 unfold gIn at e;split at e
 ·split at e
  ·rename_i h;rw[Bool.and_eq_true] at h;cases e;exact ⟨dx,_,hx.same gh,.inl (hy.same gh),h.1,h.2,k _ G H (.refl gh) (by unfold Rep;rfl)⟩
  ·cases e
 ·split at e
  ·rename_i h;rw[Bool.and_eq_true] at h;cases e;exact ⟨dx,_,hx.same gh,.inr (hy.same gh),h.1,h.2,k _ G H (.refl gh) (by unfold Rep;rfl)⟩
  ·cases e
 ·cases e
end
def zc3(i:Int):Bool:=decide (-18446744073709551616<i) && decide (i<18446744073709551616)
theorem zhT{i:Int}(h:zc3 i=true):-(2 ^ 64)<i/\i<2 ^ 64:=by unfold zc3 at h;rw[Bool.and_eq_true] at h;have h1:=of_decide_eq_true h.1;have h2:=of_decide_eq_true h.2;omega
def zdK:Dt->Dt->R Dt
 |.int i,.int j=>.ok (.int (i+j))
 |_,_=>.no
def zm6:Dt->Dt->R Dt
 |.int i,.int j=>.ok (.int (i-j))
 |_,_=>.no
def znY:Dt->Dt->R Dt
 |.int i,.int j=>if (zc3 i || zc3 j)=true then .ok (.int (i * j)) else .no
 |_,_=>.no
def zpG:Dt->Dt->R Dt
 |.int i,.int j=>if 0<j/\j<1073741824 then .ok (.int (i / j)) else .no
 |_,_=>.no
def zmO:Dt->Dt->R Dt
 |.int i,.int j=>if 0<j then .ok (.int (i % j)) else .no
 |_,_=>.no
def znr:Dt->Dt->R Dt
 |.int i,.int j=>if 0<=j/\j<=1000/\i.natAbs<18446744073709551616 then .ok (.int (i ^ j.toNat)) else .no
 |_,_=>.no
def zmv(f:Int->Int->Bool):Dt->Dt->R Dt
 |.int i,.int j=>.ok (.bl (f i j))
 |_,_=>.no
section
variable{K:W.Frag}
theorem za0{G:Hp}(i:Int):Rep K G (.int i) (.int i):=by unfold Rep;rfl
theorem zbK{G:Hp}(b:Bool):Rep K G (.bl b) (.bl b):=by unfold Rep;rfl
theorem zq8:Op2 K (rI0 λi j=>.int (i+j)) zdK:=λG H x y dx dy z Q gh hx hy e k=>by
 unfold zdK at e;split at e
 ·cases e;exact ⟨_,_,za6 hx,za6 hy,k _ G H (.refl gh) (za0 _)⟩
 ·cases e
theorem zsN:Op2 K (rI0 λi j=>.int (i-j)) zm6:=λG H x y dx dy z Q gh hx hy e k=>by
 unfold zm6 at e;split at e
 ·cases e;exact ⟨_,_,za6 hx,za6 hy,k _ G H (.refl gh) (za0 _)⟩
 ·cases e
theorem zrX:Op2 K (rI zv0 λi j=>.int (i * j)) znY:=λG H x y dx dy z Q gh hx hy e k=>by
 unfold znY at e;split at e
 ·split at e
  ·rename_i h;cases e;rw[Bool.or_eq_true] at h;exact ⟨_,_,za6 hx,za6 hy,h.elim (λz=>.inl (zhT z)) (λz=>.inr (zhT z)),k _ G H (.refl gh) (za0 _)⟩
  ·cases e
 ·cases e
theorem zsC:Op2 K (rI CDiv λi j=>.int (i / j)) zpG:=λG H x y dx dy z Q gh hx hy e k=>by
 unfold zpG at e;split at e
 ·split at e
  ·rename_i h;cases e;exact ⟨_,_,za6 hx,za6 hy,h,k _ G H (.refl gh) (za0 _)⟩
  ·cases e
 ·cases e
theorem zt7:Op2 K (rI (λ_ j=>0<j) λi j=>.int (i % j)) zmO:=λG H x y dx dy z Q gh hx hy e k=>by
 unfold zmO at e;split at e
 ·split at e
  ·rename_i h;cases e;exact ⟨_,_,za6 hx,za6 hy,h,k _ G H (.refl gh) (za0 _)⟩
  ·cases e
 ·cases e
theorem zsr:Op2 K (rI CPow λi j=>.int (i ^ j.toNat)) znr:=λG H x y dx dy z Q gh hx hy e k=>by
 unfold znr at e;split at e
 ·split at e
  ·rename_i h;cases e;exact ⟨_,_,za6 hx,za6 hy,⟨h.1,xwo,by have:=h.2.2;omega⟩,k _ G H (.refl gh) (za0 _)⟩
  ·cases e
 ·cases e
theorem zha{f:Int->Int->Bool}:Op2 K (rI0 λi j=>.bl (f i j)) (zmv f):=λG H x y dx dy z Q gh hx hy e k=>by
 unfold zmv at e;split at e
 ·cases e;exact ⟨_,_,za6 hx,za6 hy,k _ G H (.refl gh) (zbK _)⟩
 ·cases e
theorem zoi:zhN zdK:=λx y n h=>by unfold zdK at h;split at h <;> cases h
theorem zqv:zhN zm6:=λx y n h=>by unfold zm6 at h;split at h <;> cases h
theorem zpR:zhN znY:=λx y n h=>by unfold znY at h;split at h <;> first|cases h|(split at h <;> cases h)
theorem zp8:zhN zpG:=λx y n h=>by unfold zpG at h;split at h <;> first|cases h|(split at h <;> cases h)
theorem zp4:zhN zmO:=λx y n h=>by unfold zmO at h;split at h <;> first|cases h|(split at h <;> cases h)
theorem zqs:zhN znr:=λx y n h=>by unfold znr at h;split at h <;> first|cases h|(split at h <;> cases h)
theorem zfk{f:Int->Int->Bool}:zhN (zmv f):=λx y n h=>by unfold zmv at h;split at h <;> cases h
end
section
variable{X:Cx}{C:Cn}{a b:Expr}{fa fb:De}{pos:Pos}
theorem zeS(ha:JE X C a fa)(hb:JE X C b fb):JE X C (.BinOp a .Add b pos) (dOp zdK fa fb):=zk0 zuN zq8 zoi ha hb
theorem zmj(ha:JE X C a fa)(hb:JE X C b fb):JE X C (.BinOp a .Sub b pos) (dOp zm6 fa fb):=zk0 zuQ zsN zqv ha hb
theorem zji(ha:JE X C a fa)(hb:JE X C b fb):JE X C (.BinOp a .Mult b pos) (dOp znY fa fb):=zk0 ztQ zrX zpR ha hb
theorem zrx(ha:JE X C a fa)(hb:JE X C b fb):JE X C (.BinOp a .FloorDiv b pos) (dOp zpG fa fb):=zk0 zsa zsC zp8 ha hb
theorem zh3(ha:JE X C a fa)(hb:JE X C b fb):JE X C (.BinOp a .Mod b pos) (dOp zmO fa fb):=zk0 zuo zt7 zp4 ha hb
theorem znB(ha:JE X C a fa)(hb:JE X C b fb):JE X C (.BinOp a .Pow b pos) (dOp znr fa fb):=zk0 zuU zsr zqs ha hb
abbrev gLt:=zmv λi j=>decide (i<j)
abbrev gLe:=zmv λi j=>decide (i<=j)
abbrev gGt:=zmv λi j=>decide (j<i)
abbrev gGe:=zmv λi j=>decide (j<=i)
theorem zjg(hu:X.A.units+64<cLine)(ha:JE X C a fa)(hb:JE X C b fb):JE X C (.Compare a [.Eq] [b] pos) (dOp (gEq false) fa fb):=zr7 (zrr hu) (zoK false) (zk6 false) ha hb (zfK _)
theorem ztI(hu:X.A.units+65<cLine)(ha:JE X C a fa)(hb:JE X C b fb)(hm:behindInMarks .In b=false:=by rfl):JE X C (.Compare a [.In] [b] pos) (dOp (gIn false) fa fb):=zr7 (zoh hu) (zop false) (zk9 false) ha hb hm
theorem zty(ha:JE X C a fa)(hb:JE X C b fb):JT X C (.Compare a [.Lt] [b] pos) (dTB (dOp gLt fa fb)):=zfP zvs zha zfk ha hb (zfK _)
theorem zuM(ha:JE X C a fa)(hb:JE X C b fb):JT X C (.Compare a [.Gt] [b] pos) (dTB (dOp gGt fa fb)):=zfP zvH zha zfk ha hb (zfK _)
theorem zuA(ha:JE X C a fa)(hb:JE X C b fb):JT X C (.Compare a [.GtE] [b] pos) (dTB (dOp gGe fa fb)):=zfP zvI zha zfk ha hb (zfK _)
theorem zng(hu:X.A.units+64<cLine)(ha:JE X C a fa)(hb:JE X C b fb):JT X C (.Compare a [.Eq] [b] pos) (dTB (dOp (gEq false) fa fb)):=zfP (zrr hu) (zoK false) (zk6 false) ha hb (zfK _)
theorem zk8(hu:X.A.units+64<cLine)(ha:JE X C a fa)(hb:JE X C b fb):JT X C (.Compare a [.NotEq] [b] pos) (dTB (dOp (gEq true) fa fb)):=zfP (zrF hu) (zoK true) (zk6 true) ha hb (zfK _)
theorem zvM(hu:X.A.units+65<cLine)(ha:JE X C a fa)(hb:JE X C b fb)(hm:behindInMarks .In b=false:=by rfl):JT X C (.Compare a [.In] [b] pos) (dTB (dOp (gIn false) fa fb)):=zfP (zoh hu) (zop false) (zk9 false) ha hb hm
theorem zl2(hu:X.A.units+65<cLine)(ha:JE X C a fa)(hb:JE X C b fb)(hm:behindInMarks .NotIn b=false:=by rfl):JT X C (.Compare a [.NotIn] [b] pos) (dTB (dOp (gIn true) fa fb)):=zfP (zo0 hu) (zop true) (zk9 true) ha hb hm
def zvN(fa:De):De:=λZ=>(fa Z).bind λa=>match a.1 with
 |.int i=>.ok (.int (-i),a.2)
 |_=>.no
theorem zrh(ha:JE X C a fa):JE X C (.UnaryOp .USub a pos) (zvN fa):=PE.weak (zvc zrq ha) λY H Q ⟨G,w,Z,r,p⟩=>by
 refine zdE (κ:=λG H w=>kE X.K C Y Q G H w) zbI r p λd Z1 v G1 H1 w1 r1 s1 q1 p1=>?_;cases d with
 |int i=>exact ⟨i,za6 q1,p1 _ G1 H1 w1 (.refl _ _ _) r1 (za0 _)⟩
 |_=>exact p1.elim
def zjo(g g':Dt->Dt->R Dt)(fa fb fc:De):De:=λZ=>(fa Z).bind λa=>(fb a.2).bind λb=>(g a.1 b.1).bind λz=>match z with
 |.bl true=>(fc b.2).bind λc=>(g' b.1 c.1).bind λz'=>.ok (z',c.2)
 |.bl false=>.ok (.bl false,b.2)
 |_=>.no
end
def FnR(K:W.Frag)(r:List V->Hp->VK->Prop)(g:List Dt->R Dt):Prop:=∀(G H:Hp)(vs:List V)(ds:List Dt)(z:Dt)(Q:VK),zbR G H->za1 K G ds vs->g ds=.ok z ->
 (∀ v G' H',zeh G H G' H'->Rep K G' z v->Q v H')->r vs H Q
def FnN(K:W.Frag)(r:List V->Hp->VK->Prop)(g:List Dt->R (List Dt)):Prop:=∀(G H:Hp)(vs:List V)(ds:List Dt)(z:List Dt)(Q:VK),zbR G H->za1 K G ds vs->g ds=.ok z ->
 (∀ p zs,H p=none->za1 K G z zs->Q (.ref p) (upd H p (.lst zs)))->r vs H Q
def ziX{α:Type}(g:List Dt->R α):Prop:=∀ x n,g x≠.er n
def dFn(g:List Dt->R Dt)(fa:DA):De:=λZ=>(fa Z).bind λa=>(g a.1).bind λz=>.ok (z,a.2)
def zcV(g:List Dt->R (List Dt))(fa:DA):DN:=λZ=>(fa Z).bind λa=>(g a.1).bind λz=>.ok (z,a.2)
section
variable{X:Cx}{C:Cn}{e:Expr}{es:List Expr}{fa:DA}{p pos:Pos}{x:Str}{id T:String}{r:List V->Hp->VK->Prop}
theorem zoO{g:List Dt->R Dt}{Y:L2.St}{H:Hp}{Q:VK}(h:FnR X.K r g)(he:ziX g)(t:tE X.K C (dFn g fa) Y H Q):tCB r (tAd X.K C fa) Y H Q:=by
 obtain ⟨G,w,Z,rr,p⟩:=t;refine zve (κ:=λG H w=>kE X.K C Y Q G H w) zbI rr p λds Z1 vs G1 H1 w1 r1 s1 q1 p1=>?_;cases e:g ds with
 |ok z =>
  simp only[e,R.bind_ok] at p1;exact h G1 H1 vs ds z Q r1.gh q1 e λv G' H' gr q=>p1 v G' H' w1 gr.step (r1.grow gr) q
 |er n=>exact absurd e (he _ _)
 |no=>simp only[e,R.bind_no] at p1;exact p1.elim
theorem ziz{g:List Dt->R (List Dt)}{Y:L2.St}{H:Hp}{Q:VK}(h:FnN X.K r g)(he:ziX g)(t:tN X.K C (zcV g fa) Y H Q):tCB r (tAd X.K C fa) Y H Q:=by
 obtain ⟨G,w,Z,rr,p⟩:=t;refine zve (κ:=λG H w=>kN X.K C Y Q G H w) zf9 rr p λds Z1 vs G1 H1 w1 r1 s1 q1 p1=>?_;cases e:g ds with
 |ok z =>
  simp only[e,R.bind_ok] at p1;refine h G1 H1 vs ds z Q r1.gh q1 e λa zs ha q=>?_;have gr:zeh G1 H1 G1 (upd H1 a (.lst zs)):=.newH r1.gh ha;exact p1 a zs G1 _ w1 gr.step (r1.grow gr) ha zan (r1.gh.free ha) (by
   cases z:w1 a with
   |none=>rfl
   |some k=>exact absurd ha (r1.wh a (by rw[z];simp))) q
 |er n=>exact absurd e (he _ _)
 |no=>simp only[e,R.bind_no] at p1;exact p1.elim
theorem zej{g:List Dt->R Dt}(h:FnR X.K r g)(he:ziX g)(hc:zcj X (.builtin id) r)(hg:Gl X x)(hm:X.mg x=none)(hv:bootBuiltins x=some (.builtin id))(ha:JA X C (e::es) fa)(hn:x≠"__name__":=by decide)(hdb:(x == ("__debug__" : Str))=false:=by decide)
  (hs:starEach (e::es) X.env=(false,eval e X.env)::starEach es X.env:=by rfl) (hpl:(backTo pos (starEach es X.env)).any (·.1)=false:=by rfl):JE X C (.Call (.Name x p) (e::es) [] pos) (dFn g fa) :=
 PE.weak (zdj hc hg hm hv ha hn hdb hs hpl) λY H Q t=>zoO h he t
theorem zo7{g:List Dt->R Dt}(h:FnR X.K r g)(he:ziX g)(hc:zcj X (.type T) r)(hg:Gl X x)(hm:X.mg x=none)(hv:bootBuiltins x=some (.type T))(ha:JA X C (e::es) fa)(hn:x≠"__name__":=by decide)(hdb:(x == ("__debug__" : Str))=false:=by decide)
  (hs:starEach (e::es) X.env=(false,eval e X.env)::starEach es X.env:=by rfl) (hpl:(backTo pos (starEach es X.env)).any (·.1)=false:=by rfl):JE X C (.Call (.Name x p) (e::es) [] pos) (dFn g fa) :=
 PE.weak (zhb hc hg hm hv ha hn hdb hs hpl) λY H Q t=>zoO h he t
theorem zis{g:List Dt->R (List Dt)}(h:FnN X.K r g)(he:ziX g)(hc:zcj X (.builtin id) r)(hg:Gl X x)(hm:X.mg x=none)(hv:bootBuiltins x=some (.builtin id))(ha:JA X C (e::es) fa)(hn:x≠"__name__":=by decide)(hdb:(x == ("__debug__" : Str))=false:=by decide)
  (hs:starEach (e::es) X.env=(false,eval e X.env)::starEach es X.env:=by rfl) (hpl:(backTo pos (starEach es X.env)).any (·.1)=false:=by rfl):JN X C (.Call (.Name x p) (e::es) [] pos) (zcV g fa) :=
 PE.weak (zdj hc hg hm hv ha hn hdb hs hpl) λY H Q t=>ziz h he t
theorem znL{g:List Dt->R (List Dt)}(h:FnN X.K r g)(he:ziX g)(hc:zcj X (.type T) r)(hg:Gl X x)(hm:X.mg x=none)(hv:bootBuiltins x=some (.type T))(ha:JA X C (e::es) fa)(hn:x≠"__name__":=by decide)(hdb:(x == ("__debug__" : Str))=false:=by decide)
  (hs:starEach (e::es) X.env=(false,eval e X.env)::starEach es X.env:=by rfl) (hpl:(backTo pos (starEach es X.env)).any (·.1)=false:=by rfl):JN X C (.Call (.Name x p) (e::es) [] pos) (zcV g fa) :=
 PE.weak (zhb hc hg hm hv ha hn hdb hs hpl) λY H Q t=>ziz h he t
end
def zcG:List Dt->R Dt
 |[.lst l]=>.ok (.int l.length)
 |[.tup l]=>.ok (.int l.length)
 |[.scr l]=>.ok (.int l.length)
 |[.str x]=>if x.length<=16777216 then .ok (.int x.length) else .no
 |_=>.no
def rLen(K:W.Frag):List V->Hp->VK->Prop:=λxs H Q=>(∃ p ys,xs=[.ref p]/\(SqL K H p ys\/SqT K H p ys)/\Q (.int ys.length) H)\/∃ z,xs=[.str z]/\z.length<=sizeLine/\Q (.int z.length) H
theorem zew{K:W.Frag}{G:Hp}{d:Dt}{vs:List V}(h:za1 K G [d] vs):∃ v,vs=[v]/\Rep K G d v:=by obtain ⟨v,r,rfl,h1,h2⟩:=h.cons_inv;rw[h2.nil_inv];exact ⟨v,rfl,h1⟩
theorem zsF{K:W.Frag}{G:Hp}{d e:Dt}{vs:List V}(h:za1 K G [d,e] vs):∃ v u,vs=[v,u]/\Rep K G d v/\Rep K G e u:=by obtain ⟨v,r,rfl,h1,h2⟩:=h.cons_inv;obtain ⟨u,rfl,h3⟩:=zew h2;exact ⟨v,u,rfl,h1,h3⟩
theorem zld{K:W.Frag}{G:Hp}{l:List Int}{v:V}(h:Rep K G (.scr l) v):∃ a,v=.ref a/\SqL K G a (l.map V.int):=by unfold Rep at h;exact h
section
variable{K:W.Frag}
theorem ztK:FnR K (rLen K) zcG:=λG H vs ds z Q gh hr e k=>by
 unfold zcG at e;split at e
 ·obtain ⟨v,rfl,h1⟩:=zew hr;obtain ⟨a,us,rfl,h2,h3⟩:=zaJ h1;cases e;exact .inl ⟨a,us,rfl,.inl (SqL.of (gh _ _ h2)),by rw[<- h3.length];exact k _ G H (.refl gh) (za0 _)⟩
 ·obtain ⟨v,rfl,h1⟩:=zew hr;obtain ⟨a,us,rfl,h2,h3⟩:=zb0 h1;cases e;exact .inl ⟨a,us,rfl,.inr (zaA gh h2),by rw[<- h3.length];exact k _ G H (.refl gh) (za0 _)⟩
 ·obtain ⟨v,rfl,h1⟩:=zew hr;obtain ⟨a,rfl,h2⟩:=zld h1;cases e;exact .inl ⟨a,_,rfl,.inl (gh.seq h2),by rw[List.length_map];exact k _ G H (.refl gh) (za0 _)⟩
 ·split at e
  ·rename_i hx;obtain ⟨v,rfl,h1⟩:=zew hr;cases e;exact .inr ⟨_,by rw[zfF h1],by rw[show sizeLine=16777216 from by decide];exact hx,k _ G H (.refl gh) (za0 _)⟩
  ·cases e
 ·cases e
theorem zuV:ziX zcG:=λx n h=>by unfold zcG at h;split at h <;> first|cases h|(split at h <;> cases h)
def zkR:List Dt->R (List Dt)
 |[.lst l]=>.ok l
 |[.tup l]=>.ok l
 |_=>.no
theorem zrN:FnN K (λxs H Q=>∃ p ys,xs=[.ref p]/\(SqL K H p ys\/SqT K H p ys)/\∀ l,H l=none->Q (.ref l) (upd H l (.lst ys))) zkR:=λG H vs ds z Q gh hr e k=>by
 unfold zkR at e;split at e
 ·obtain ⟨v,rfl,h1⟩:=zew hr;obtain ⟨a,us,rfl,h2,h3⟩:=zaJ h1;cases e;exact ⟨a,us,rfl,.inl (SqL.of (gh _ _ h2)),λl hl=>k l us hl h3⟩
 ·obtain ⟨v,rfl,h1⟩:=zew hr;obtain ⟨a,us,rfl,h2,h3⟩:=zb0 h1;cases e;exact ⟨a,us,rfl,.inr (zaA gh h2),λl hl=>k l us hl h3⟩
 ·cases e
theorem zsh:ziX zkR:=λx n h=>by unfold zkR at h;split at h <;> cases h
def ze9:List Dt->R Dt
 |[.lst l]=>.ok (.tup l)
 |[.tup l]=>.ok (.tup l)
 |_=>.no
theorem zqy:FnR K (λxs H Q=>∃ p ys,xs=[.ref p]/\((SqL K H p ys/\∀ l,H l=none->Q (.ref l) (upd H l (.tup ys)))\/(SqT K H p ys/\Q (.ref p) H))) ze9:=λG H vs ds z Q gh hr e k=>by
 unfold ze9 at e;split at e
 ·obtain ⟨v,rfl,h1⟩:=zew hr;obtain ⟨a,us,rfl,h2,h3⟩:=zaJ h1;cases e;refine ⟨a,us,rfl,.inl ⟨SqL.of (gh _ _ h2),λl hl=>?_⟩⟩;have gr:zeh G H (upd G l (.tup us)) (upd H l (.tup us)):=.new gh hl;exact k _ _ _ gr (by unfold Rep;exact ⟨l,us,rfl,zhz.of zan,h3.same gr.g⟩)
 ·obtain ⟨v,rfl,h1⟩:=zew hr;obtain ⟨a,us,rfl,h2,h3⟩:=zdv h1;cases e;exact ⟨a,us,rfl,.inr ⟨zaA gh h2.sq,k _ G H (.refl gh) (by unfold Rep;exact ⟨a,us,rfl,h2,h3⟩)⟩⟩
 ·cases e
theorem zqP:ziX ze9:=λx n h=>by unfold ze9 at h;split at h <;> cases h
def ziC:List Dt->R Dt
 |[.int i,.int j]=>.ok (.int (if j > i then j else i))
 |_=>.no
def zi8:List Dt->R Dt
 |[.int i,.int j]=>.ok (.int (if j<i then j else i))
 |_=>.no
theorem ztk:FnR K (λxs H Q=>∃ i j,xs=[.int i,.int j]/\Q (.int (if j > i then j else i)) H) ziC:=λG H vs ds z Q gh hr e k=>by
 unfold ziC at e;split at e
 ·obtain ⟨v,u,rfl,h1,h2⟩:=zsF hr;cases e;exact ⟨_,_,by rw[za6 h1,za6 h2],k _ G H (.refl gh) (za0 _)⟩
 ·cases e
theorem zsO:FnR K (λxs H Q=>∃ i j,xs=[.int i,.int j]/\Q (.int (if j<i then j else i)) H) zi8:=λG H vs ds z Q gh hr e k=>by
 unfold zi8 at e;split at e
 ·obtain ⟨v,u,rfl,h1,h2⟩:=zsF hr;cases e;exact ⟨_,_,by rw[za6 h1,za6 h2],k _ G H (.refl gh) (za0 _)⟩
 ·cases e
theorem ztn:ziX ziC:=λx n h=>by unfold ziC at h;split at h <;> cases h
theorem zsj:ziX zi8:=λx n h=>by unfold zi8 at h;split at h <;> cases h
end
section
variable{X:Cx}
theorem zeo{α:Type}{f:α->V}{g:α->Value->Prop}(h:∀ a u,zbO (f a) u->g a u):∀{as:List α}{us:List Value}{i:Nat}{u:Value},zaW (as.map f) us->us[i]? = some u->∃ a,as[i]? = some a/\g a u
 |[],_,_,_,r,e=>by cases r;simp at e
 |a::as,_,0,u,.cons r t,e=>by simp at e;subst e;exact ⟨a,rfl,h a _ r⟩
 |a::as,_,i+1,u,.cons r t,e=>by obtain ⟨b,h1,h2⟩:=zeo h (i:=i) t (by simpa using e);exact ⟨b,by simpa using h1,h2⟩
theorem ziP:∀(bs:List Bool),((List.range bs.length).all λi=>(bs[i]?).getD true)=bs.all id:=λbs=>by
 rw[Bool.eq_iff_iff,List.all_eq_true,List.all_eq_true];constructor
 ·intro h b hb;obtain ⟨i,hi,rfl⟩:=List.mem_iff_getElem.mp hb;have:=h i (List.mem_range.mpr hi);simpa [hi] using this
 ·intro h i hi;have hi':=List.mem_range.mp hi;simpa [hi'] using h bs[i] (List.getElem_mem hi')
theorem zoH(hc:X.calm=true):zcj X (.builtin "all") (λxs H Q=>∃(p:Addr)(bs:List Bool),xs=[.ref p]/\SqL X.K H p (bs.map V.bl)/\Q (.bl (bs.all id)) H):=by
 intro pS s Y H xs us Q I r h;obtain ⟨p,bs,rfl,hq,q⟩:=h;obtain ⟨u,rfl,ru⟩:=zeJ r;cases ru;obtain ⟨its,rv,pl,hz⟩:=I.list hq;have hlt:p≠s.heap.objs.size:=by obtain ⟨o,n,e,_⟩:=id pl;exact waM (wai e)
 have hlen:its.length=bs.length:=by rw[<- rv.length];simp
 refine call_all_walk (wpAny_pyIter_list pl.isList ?_);refine ⟨s.heap.objs.size,_,_,_,_,_,λi=>(bs[i]?).getD true,rfl,Walks.list (A:=X.A.in1) (I.ok.hd hc) s.heap.objs.size p hlt its.toArray,⟨⟨_,waj _ rfl,rfl,rfl⟩,?_⟩,?_,λh' tk hk=>?_⟩
 ·obtain ⟨o,ho,hc',n,hd⟩:=pl.isList;exact ⟨o,waa _ ho,hc',n,hd⟩
 ·intro i v s' Q' E' hP hQ;obtain ⟨b,h1,h2⟩:=zeo (f:=V.bl) (g:=λb u=>u=Value.bool b) (λa u z=>z) rv (i:=i) (u:=v) (by simpa using hP);subst h2;simp only[h1,Option.getD_some] at hQ;exact wpAny_truthy_bool hQ
 ·refine ⟨.bl (bs.all id),H,I.kept (t':=tk) λb o e=>hk b o (λz=>?_) (waa _ e),?_,q⟩
  ·simp at z;exact absurd (z ▸ wai e) (waL _)
  ·show Value.bool _=_;rw[List.size_toArray,hlen,ziP]
def zeu:List Dt->Option (List Bool)
 |[]=>some []
 |.bl b::r=>(zeu r).map (b::·)
 |_=>none
theorem zhL{K:W.Frag}{G:Hp}:∀{ds:List Dt}{vs:List V}{bs:List Bool},za1 K G ds vs->zeu ds=some bs->vs=bs.map V.bl
 |[],_,_,h,e=>by rw[h.nil_inv];simp[zeu] at e;subst e;rfl
 |.bl b::r,_,bs,h,e=>by obtain ⟨v,t,rfl,h1,h2⟩:=h.cons_inv;simp only[zeu,Option.map_eq_some_iff] at e;obtain ⟨bs',e1,rfl⟩:=e;rw[zcJ h1,zhL h2 e1];rfl
 |.non::_,_,_,_,e=>by simp[zeu] at e
 |.int _::_,_,_,_,e=>by simp[zeu] at e
 |.str _::_,_,_,_,e=>by simp[zeu] at e
 |.tup _::_,_,_,_,e=>by simp[zeu] at e
 |.lst _::_,_,_,_,e=>by simp[zeu] at e
 |.dct _::_,_,_,_,e=>by simp[zeu] at e
 |.scr _::_,_,_,_,e=>by simp[zeu] at e
def zkK:List Dt->R Dt
 |[.lst l]=>match zeu l with
  |some bs=>.ok (.bl (bs.all id))
  |none=>.no
 |_=>.no
theorem ztV{K:W.Frag}:FnR K (λxs H Q=>∃(p:Addr)(bs:List Bool),xs=[.ref p]/\SqL K H p (bs.map V.bl)/\Q (.bl (bs.all id)) H) zkK:=λG H vs ds z Q gh hr e k=>by
 unfold zkK at e;split at e
 ·split at e
  ·rename_i bs eb;obtain ⟨v,rfl,h1⟩:=zew hr;obtain ⟨a,us,rfl,h2,h3⟩:=zaJ h1;cases e;rw[zhL h3 eb] at h2;exact ⟨a,bs,rfl,SqL.of (gh _ _ h2),k _ G H (.refl gh) (zbK _)⟩
  ·cases e
 ·cases e
theorem zuR:ziX zkK:=λx n h=>by unfold zkK at h;split at h <;> first|cases h|(split at h <;> cases h)
def zhB:List Dt->Option (List Int)
 |[]=>some []
 |.int b::r=>(zhB r).map (b::·)
 |_=>none
theorem zeD{K:W.Frag}{G:Hp}:∀{ds:List Dt}{vs:List V}{bs:List Int},za1 K G ds vs->zhB ds=some bs->vs=bs.map V.int
 |[],_,_,h,e=>by rw[h.nil_inv];simp[zhB] at e;subst e;rfl
 |.int b::r,_,bs,h,e=>by obtain ⟨v,t,rfl,h1,h2⟩:=h.cons_inv;simp only[zhB,Option.map_eq_some_iff] at e;obtain ⟨bs',e1,rfl⟩:=e;rw[za6 h1,zeD h2 e1];rfl
 |.non::_,_,_,_,e=>by simp[zhB] at e
 |.bl _::_,_,_,_,e=>by simp[zhB] at e
 |.str _::_,_,_,_,e=>by simp[zhB] at e
 |.tup _::_,_,_,_,e=>by simp[zhB] at e
 |.lst _::_,_,_,_,e=>by simp[zhB] at e
 |.dct _::_,_,_,_,e=>by simp[zhB] at e
 |.scr _::_,_,_,_,e=>by simp[zhB] at e
theorem zqZ(ns:List Int):zhB (ns.map .int)=some ns:=by
 induction ns with
 |nil=>rfl
 |cons n r ih=>simp[zhB,ih]
def zlM:List Int->Int
 |[]=>0
 |[a]=>a
 |a::b::r=>let m:=zlM (b::r);if a<m then m else a
def zmf:List Int->Int
 |[]=>0
 |[a]=>a
 |a::b::r=>let m:=zmf (b::r);if m<a then m else a
theorem zgx:∀(l:List Int),l≠[]->zlM l∈l/\∀ a∈l,a<=zlM l
 |[],h=>absurd rfl h
 |[a],_=>by simp[zlM]
 |a::b::r,_=>by
  obtain ⟨h1,h2⟩:=zgx (b::r) xws;simp only[zlM];split
  ·rename_i h;refine ⟨wah _ h1,λx hx=>?_⟩;rcases wap.mp hx with rfl|hx
   ·omega
   ·exact h2 x hx
  ·rename_i h;refine ⟨wau,λx hx=>?_⟩;rcases wap.mp hx with rfl|hx
   ·omega
   ·have:=h2 x hx;omega
theorem zg9:∀(l:List Int),l≠[]->zmf l∈l/\∀ a∈l,zmf l<=a
 |[],h=>absurd rfl h
 |[a],_=>by simp[zmf]
 |a::b::r,_=>by
  obtain ⟨h1,h2⟩:=zg9 (b::r) xws;simp only[zmf];split
  ·rename_i h;refine ⟨wah _ h1,λx hx=>?_⟩;rcases wap.mp hx with rfl|hx
   ·omega
   ·exact h2 x hx
  ·rename_i h;refine ⟨wau,λx hx=>?_⟩;rcases wap.mp hx with rfl|hx
   ·omega
   ·have:=h2 x hx;omega
theorem zqY{l:List Int}{m:Int}(h1:m∈l)(h2:∀ a∈l,a<=m):m=zlM l:=by obtain ⟨h3,h4⟩:=zgx l (by intro z;subst z;cases h1);have:=h2 _ h3;have:=h4 _ h1;omega
theorem zqX{l:List Int}{m:Int}(h1:m∈l)(h2:∀ a∈l,m<=a):m=zmf l:=by obtain ⟨h3,h4⟩:=zg9 l (by intro z;subst z;cases h1);have:=h2 _ h3;have:=h4 _ h1;omega
end
section
variable{X:Cx}
theorem zoT(hc:X.calm=true):zcj X (.builtin "max") (λxs H Q=>∃(p:Addr)(ns:List Int),xs=[.ref p]/\SqL X.K H p (ns.map V.int)/\ns≠[]/\Q (.int (zlM ns)) H):=by
 intro pS s Y H xs us Q I r h;obtain ⟨p,ns,rfl,hq,hne,q⟩:=h;obtain ⟨u,rfl,ru⟩:=zeJ r;cases ru;obtain ⟨its,rv,pl,hz⟩:=I.list hq;have hlt:p≠s.heap.objs.size:=by obtain ⟨o,n,e,_⟩:=id pl;exact waM (wai e)
 have hlen:its.length=ns.length:=by rw[<- rv.length];simp
 have hpos:0<ns.length:=by cases ns with|nil=>exact absurd rfl hne|cons a r=>simp
 refine call_max_walk (wpAny_pyIter_list pl.isList ?_);refine ⟨s.heap.objs.size,_,_,_,_,_,_,rfl,Walks.list (A:=X.A.in1) (I.ok.hd hc) s.heap.objs.size p hlt its.toArray,⟨⟨_,waj _ rfl,rfl,rfl⟩,?_⟩,?_,(by rw[List.size_toArray,hlen];exact hpos),CmpOf.ints_gt (λi=>(ns[i]?).getD 0) (λi v hP=>?_),λv h' tk hP hk=>?_⟩
 ·obtain ⟨o,ho,hc',n,hd⟩:=pl.isList;exact ⟨o,waa _ ho,hc',n,hd⟩
 ·intro b hb;rw[Heap.size_push];obtain ⟨o,n,e,_⟩:=id pl;rcases wap.mp hb with rfl|hb
  ·exact Nat.lt_succ_self _
  ·simp at hb;subst hb;exact Nat.lt_succ_of_lt (wai e)
 ·obtain ⟨a,h1,h2⟩:=zeo (f:=V.int) (g:=λa u=>∃ t,u=Value.int a t) (λa u z=>z) rv (i:=i) (u:=v) (by simpa using hP);simp only[h1,Option.getD_some];exact h2
 ·have hP:its.toArray[argBest (λi j=>decide (((ns[i]?).getD 0) > ((ns[j]?).getD 0))) (its.toArray.size-1)]? = some v:=hP;obtain ⟨a,h1,t,rfl⟩:=zeo (f:=V.int) (g:=λa u=>∃ t,u=Value.int a t) (λa u z=>z) rv (u:=v) (by simpa using hP);obtain ⟨k1,k2⟩:=argBest_gt (λi=>(ns[i]?).getD 0) (its.toArray.size-1);have ea:a=zlM ns:=by refine zqY (waH h1) λb hb=>?_;obtain ⟨j,hj,rfl⟩:=List.mem_iff_getElem.mp hb;have:=k2 j (by rw[List.size_toArray,hlen];omega);rw[show its.toArray.size-1=its.length-1 from by rw[List.size_toArray]] at this;simp only[h1,wac hj,Option.getD_some] at this;exact this
  subst ea;refine ⟨.int (zlM ns),H,I.kept (t':=tk) λb o e=>hk b o (λz=>?_) (waa _ e),⟨t,rfl⟩,q⟩;simp at z;exact absurd (z ▸ wai e) (waL _)
theorem zoN(hc:X.calm=true):zcj X (.builtin "min") (λxs H Q=>∃(p:Addr)(ns:List Int),xs=[.ref p]/\SqL X.K H p (ns.map V.int)/\ns≠[]/\Q (.int (zmf ns)) H):=by
 intro pS s Y H xs us Q I r h;obtain ⟨p,ns,rfl,hq,hne,q⟩:=h;obtain ⟨u,rfl,ru⟩:=zeJ r;cases ru;obtain ⟨its,rv,pl,hz⟩:=I.list hq;have hlt:p≠s.heap.objs.size:=by obtain ⟨o,n,e,_⟩:=id pl;exact waM (wai e)
 have hlen:its.length=ns.length:=by rw[<- rv.length];simp
 have hpos:0<ns.length:=by cases ns with|nil=>exact absurd rfl hne|cons a r=>simp
 refine call_min_walk (wpAny_pyIter_list pl.isList ?_);refine ⟨s.heap.objs.size,_,_,_,_,_,_,rfl,Walks.list (A:=X.A.in1) (I.ok.hd hc) s.heap.objs.size p hlt its.toArray,⟨⟨_,waj _ rfl,rfl,rfl⟩,?_⟩,?_,(by rw[List.size_toArray,hlen];exact hpos),CmpOf.ints_lt (λi=>(ns[i]?).getD 0) (λi v hP=>?_),λv h' tk hP hk=>?_⟩
 ·obtain ⟨o,ho,hc',n,hd⟩:=pl.isList;exact ⟨o,waa _ ho,hc',n,hd⟩
 ·intro b hb;rw[Heap.size_push];obtain ⟨o,n,e,_⟩:=id pl;rcases wap.mp hb with rfl|hb
  ·exact Nat.lt_succ_self _
  ·simp at hb;subst hb;exact Nat.lt_succ_of_lt (wai e)
 ·obtain ⟨a,h1,h2⟩:=zeo (f:=V.int) (g:=λa u=>∃ t,u=Value.int a t) (λa u z=>z) rv (i:=i) (u:=v) (by simpa using hP);simp only[h1,Option.getD_some];exact h2
 ·have hP:its.toArray[argBest (λi j=>decide (((ns[i]?).getD 0)<((ns[j]?).getD 0))) (its.toArray.size-1)]? = some v:=hP;obtain ⟨a,h1,t,rfl⟩:=zeo (f:=V.int) (g:=λa u=>∃ t,u=Value.int a t) (λa u z=>z) rv (u:=v) (by simpa using hP);obtain ⟨k1,k2⟩:=argBest_lt (λi=>(ns[i]?).getD 0) (its.toArray.size-1);have ea:a=zmf ns:=by refine zqX (waH h1) λb hb=>?_;obtain ⟨j,hj,rfl⟩:=List.mem_iff_getElem.mp hb;have:=k2 j (by rw[List.size_toArray,hlen];omega);rw[show its.toArray.size-1=its.length-1 from by rw[List.size_toArray]] at this;simp only[h1,wac hj,Option.getD_some] at this;exact this
  subst ea;refine ⟨.int (zmf ns),H,I.kept (t':=tk) λb o e=>hk b o (λz=>?_) (waa _ e),⟨t,rfl⟩,q⟩;simp at z;exact absurd (z ▸ wai e) (waL _)
def zjq:List Dt->R Dt
 |[.lst l]=>match zhB l with
  |some (a::r)=>.ok (.int (zlM (a::r)))
  |_=>.no
 |_=>.no
def zkf:List Dt->R Dt
 |[.lst l]=>match zhB l with
  |some (a::r)=>.ok (.int (zmf (a::r)))
  |_=>.no
 |_=>.no
theorem zso{K:W.Frag}:FnR K (λxs H Q=>∃(p:Addr)(ns:List Int),xs=[.ref p]/\SqL K H p (ns.map V.int)/\ns≠[]/\Q (.int (zlM ns)) H) zjq:=λG H vs ds z Q gh hr e k=>by
 unfold zjq at e;split at e
 ·split at e
  ·rename_i a r eb;obtain ⟨v,rfl,h1⟩:=zew hr;obtain ⟨ad,us,rfl,h2,h3⟩:=zaJ h1;cases e;rw[zeD h3 eb] at h2;exact ⟨ad,_,rfl,SqL.of (gh _ _ h2),xws,k _ G H (.refl gh) (za0 _)⟩
  ·cases e
 ·cases e
theorem ztf{K:W.Frag}:FnR K (λxs H Q=>∃(p:Addr)(ns:List Int),xs=[.ref p]/\SqL K H p (ns.map V.int)/\ns≠[]/\Q (.int (zmf ns)) H) zkf:=λG H vs ds z Q gh hr e k=>by
 unfold zkf at e;split at e
 ·split at e
  ·rename_i a r eb;obtain ⟨v,rfl,h1⟩:=zew hr;obtain ⟨ad,us,rfl,h2,h3⟩:=zaJ h1;cases e;rw[zeD h3 eb] at h2;exact ⟨ad,_,rfl,SqL.of (gh _ _ h2),xws,k _ G H (.refl gh) (za0 _)⟩
  ·cases e
 ·cases e
theorem zrO:ziX zjq:=λx n h=>by unfold zjq at h;split at h <;> first|cases h|(split at h <;> cases h)
theorem zs4:ziX zkf:=λx n h=>by unfold zkf at h;split at h <;> first|cases h|(split at h <;> cases h)
end
def tyD:Dt->String
 |.non=>"NoneType"
 |.bl _=>"bool"
 |.int _=>"int"
 |.str _=>"str"
 |.tup _=>"tuple"
 |.lst _=>"list"
 |.dct _=>"dict"
 |.scr _=>"list"
def zkr(t T:String):Bool:=(t == T) || (t == "bool" && T == "int")
section
variable{X:Cx}{pS:List (Addr×Obj)}{Y:L2.St}{H:Hp}{s:Shared}
theorem zre(I:L2.Inv X pS Y H s):∀{d:Dt}{v:V}{u:Value},Rep X.K H d v->zbO v u->∃ P:Heap->Prop,W.KitX X.K u (.type (tyD d)) P/\P s.heap/\u≠.builtin "__main__.__loader__#opaque"
 |.non,v,u,h,r=>by rw[zgk h] at r;cases r;exact ⟨_,W.kitx_none,True.intro,xws⟩
 |.bl b,v,u,h,r=>by rw[zcJ h] at r;cases r;exact ⟨_,W.kitx_bool,True.intro,xws⟩
 |.int b,v,u,h,r=>by rw[za6 h] at r;obtain ⟨t,rfl⟩:=r;exact ⟨_,W.kitx_int,True.intro,xws⟩
 |.str b,v,u,h,r=>by rw[zfF h] at r;obtain ⟨t,rfl⟩:=r;exact ⟨_,W.kitx_str,True.intro,xws⟩
 |.tup l,v,u,h,r=>by obtain ⟨a,vs,rfl,h1,h2⟩:=zb0 h;cases r;obtain ⟨its,rv,⟨o,e,c,k,dd⟩,_⟩:=I.tuple h1;exact ⟨_,W.kitx_tuple,⟨o,e,c⟩,xws⟩
 |.lst l,v,u,h,r=>by obtain ⟨a,vs,rfl,h1,h2⟩:=zaJ h;cases r;obtain ⟨its,rv,⟨o,k,e,c,_,dd⟩,_⟩:=I.list (SqL.of h1);exact ⟨_,W.kitx_list,⟨o,e,c⟩,xws⟩
 |.dct _,v,u,h,r=>by
  unfold Rep at h;obtain ⟨a,rfl,h1⟩:=h;cases r;obtain ⟨_,_,vs,_,o,es,ep,e1,e2,_⟩:=(show zcw X.prog X.w H s.heap a (.dK _) from I.hok a _ h1)
  exact ⟨_,W.kitx_dict,⟨o,e1,e2.1⟩,xws⟩
 |.scr l,v,u,h,r=>by obtain ⟨a,rfl,h1⟩:=zld h;cases r;obtain ⟨its,rv,⟨o,k,e,c,_,dd⟩,_⟩:=I.list h1;exact ⟨_,W.kitx_list,⟨o,e,c⟩,xws⟩
end
def zhl(T:String):Prop:=∀(K:W.Frag)(t:String),t∈["NoneType","bool","int","str","tuple","list","dict"]->W.kitOne K (.type t) (.type T)=some (zkr t T)
theorem zkY(d:Dt):tyD d∈["NoneType","bool","int","str","tuple","list","dict"]:=by cases d <;> simp[tyD]
theorem zk1:zhl "int":=λK t h=>by simp only[wap,wak,or_false] at h;rcases h with rfl|rfl|rfl|rfl|rfl|rfl|rfl <;> rfl
theorem ziQ:zhl "bool":=λK t h=>by simp only[wap,wak,or_false] at h;rcases h with rfl|rfl|rfl|rfl|rfl|rfl|rfl <;> rfl
theorem zdP:zhl "tuple":=λK t h=>by simp only[wap,wak,or_false] at h;rcases h with rfl|rfl|rfl|rfl|rfl|rfl|rfl <;> rfl
theorem ziv:zhl "list":=λK t h=>by simp only[wap,wak,or_false] at h;rcases h with rfl|rfl|rfl|rfl|rfl|rfl|rfl <;> rfl
def zfQ(T:String)(fa:De):De:=λZ=>(fa Z).bind λa=>.ok (.bl (zkr (tyD a.1) T),a.2)
def ztr(T U:String)(fa:De):De:=λZ=>(fa Z).bind λa=>.ok (.bl (zkr (tyD a.1) T || zkr (tyD a.1) U),a.2)
section
variable{X:Cx}{C:Cn}{e:Expr}{fa:De}{p p2 pos:Pos}
theorem zqr{T:String}(ok:zhl T):zcj X (.builtin "isinstance") (λxs H Q=>∃ d v,xs=[v,.ty T]/\Rep X.K H d v/\Q (.bl (zkr (tyD d) T)) H):=by intro pS s Y H xs us Q I r h;obtain ⟨d,v,rfl,h1,q⟩:=h;obtain ⟨u,w',rfl,r1,r2⟩:=zkx r;cases r2;obtain ⟨P,Zq,hp,hx⟩:=zre I h1 r1;exact W.kia_one Zq I.kIn hp (ok X.K (tyD d) (zkY d)) hx λtk=>⟨.bl _,H,I.tok tk,rfl,q⟩
theorem zoz{T U:String}(ok:zhl T)(ok2:zhl U):zcj X (.builtin "isinstance") (λxs H Q=>∃ d v a,xs=[v,.ref a]/\Rep X.K H d v/\SqT X.K H a [.ty T,.ty U]/\Q (.bl (zkr (tyD d) T || zkr (tyD d) U)) H):=by
 intro pS s Y H xs us Q I r h;obtain ⟨d,v,a,rfl,h1,ha,q⟩:=h;obtain ⟨u,w',rfl,r1,r2⟩:=zkx r;cases r2;obtain ⟨P,Zq,hp,hx⟩:=zre I h1 r1;obtain ⟨its,rv,⟨o,e,c,k,dd⟩,_⟩:=I.tuple ha;obtain ⟨x1,x2,rfl,q1,q2⟩:=zkx rv;cases q1;cases q2;obtain ⟨oc,od,odt,osl⟩:=o;simp only at c dd;subst c dd;refine W.kia_tup (its:=[Value.type T,Value.type U]) (b:=zkr (tyD d) T || zkr (tyD d) U) Zq I.kIn hp e ?_ hx λtk=>⟨.bl _,H,I.tok tk,rfl,q⟩
 unfold W.kitAny;rw[ok X.K (tyD d) (zkY d)];cases zkr (tyD d) T with
 |true=>rfl
 |false =>
  simp only[W.kitAny,ok2 X.K (tyD d) (zkY d)];cases zkr (tyD d) U <;> rfl
theorem zd2{T:String}{x2:Str}(ok:zhl T)(hg:Gl X "isinstance")(hm:X.mg "isinstance"=none)(hv:bootBuiltins "isinstance"=some (.builtin "isinstance"))(hg2:Gl X x2)(hm2:X.mg x2=none)(hv2:bootBuiltins x2=some (.type T))(ha:JE X C e fa)
  (hn:("isinstance" : Str)≠"__name__":=by decide) (hdb:(("isinstance" : Str) == ("__debug__" : Str))=false:=by decide) (hn2:x2≠"__name__":=by decide) (hdb2:(x2 == ("__debug__" : Str))=false:=by decide)
  (hs:starEach [e,.Name x2 p2] X.env=(false,eval e X.env)::starEach [.Name x2 p2] X.env:=by rfl) (hs2:starEach [.Name x2 p2] X.env=(false,eval (.Name x2 p2) X.env)::starEach [] X.env:=by rfl) (hpl:(backTo pos (starEach [.Name x2 p2] X.env)).any (·.1)=false:=by rfl) :
  JE X C (.Call (.Name "isinstance" p) [e,.Name x2 p2] [] pos) (zfQ T fa) :=
 PE.weak (zdj (zqr ok) hg hm hv (zbb ha (zbb (zi2 (v:=.ty T) hg2 hm2 hv2 rfl hn2 hdb2) zcD hs2) hs) hn hdb hs hpl) λY H Q ⟨G,w,Z,r,p⟩=>by refine zdE (κ:=λG H w=>kE X.K C Y Q G H w) zbI r p λd Z1 v G1 H1 w1 r1 s1 q1 p1=>?_;exact ⟨d,v,rfl,q1.same r1.gh,p1 _ G1 H1 w1 (.refl _ _ _) r1 (zbK _)⟩
theorem zsL{T U:String}{x2 x3:Str}{p3 pt:Pos}{kt}(ok:zhl T)(ok2:zhl U)(hg:Gl X "isinstance")(hm:X.mg "isinstance"=none)(hv:bootBuiltins "isinstance"=some (.builtin "isinstance"))(hg2:Gl X x2)(hm2:X.mg x2=none)(hv2:bootBuiltins x2=some (.type T))(hg3:Gl X x3)(hm3:X.mg x3=none)(hv3:bootBuiltins x3=some (.type U))(ha:JE X C e fa)
  (hn:("isinstance" : Str)≠"__name__":=by decide) (hdb:(("isinstance" : Str) == ("__debug__" : Str))=false:=by decide) (hn2:x2≠"__name__":=by decide) (hdb2:(x2 == ("__debug__" : Str))=false:=by decide) (hn3:x3≠"__name__":=by decide) (hdb3:(x3 == ("__debug__" : Str))=false:=by decide)
  (hs:starEach [e,.Tuple [.Name x2 p2,.Name x3 p3] kt pt] X.env=(false,eval e X.env)::starEach [.Tuple [.Name x2 p2,.Name x3 p3] kt pt] X.env:=by rfl) (hs2:starEach [.Tuple [.Name x2 p2,.Name x3 p3] kt pt] X.env=(false,eval (.Tuple [.Name x2 p2,.Name x3 p3] kt pt) X.env)::starEach [] X.env:=by rfl) (hpl:(backTo pos (starEach [.Tuple [.Name x2 p2,.Name x3 p3] kt pt] X.env)).any (·.1)=false:=by rfl)
  (hs3:starEach [.Name x2 p2,.Name x3 p3] X.env=(false,eval (.Name x2 p2) X.env)::starEach [.Name x3 p3] X.env:=by rfl) (hs4:starEach [.Name x3 p3] X.env=(false,eval (.Name x3 p3) X.env)::starEach [] X.env:=by rfl) :
  JE X C (.Call (.Name "isinstance" p) [e,.Tuple [.Name x2 p2,.Name x3 p3] kt pt] [] pos) (ztr T U fa) :=
 PE.weak (zdj (zoz ok ok2) hg hm hv (zbb ha (zbb (zrI (zbb (zi2 (v:=.ty T) hg2 hm2 hv2 rfl hn2 hdb2) (zbb (zi2 (v:=.ty U) hg3 hm3 hv3 rfl hn3 hdb3) zcD hs4) hs3)) zcD hs2) hs) hn hdb hs hpl) λY H Q ⟨G,w,Z,r,p⟩=>by refine zdE (κ:=λG H w=>kE X.K C Y Q G H w) zbI r p λd Z1 v G1 H1 w1 r1 s1 q1 p1=>?_;refine ⟨by show 2<=sizeLine;decide,λa ha=>?_⟩;have gr:zeh G1 H1 G1 (upd H1 a (.tup [.ty T,.ty U])):=.newH r1.gh ha;exact ⟨d,v,a,rfl,(q1.same r1.gh).same gr.h,SqT.of zan,p1 _ G1 _ w1 gr.step (r1.grow gr) (zbK _)⟩
def gIx:Dt->Dt->R Dt
 |.lst l,.int i=>match atI l i with
  |some d=>.ok d
  |none=>.no
 |.tup l,.int i=>match atI l i with
  |some d=>.ok d
  |none=>.no
 |.scr l,.int i=>match atI l i with
  |some d=>.ok (.int d)
  |none=>.no
 |_,_=>.no
theorem zsx{α β:Type}{f:α->β}{l:List α}{i:Int}{d:α}(ed:atI l i=some d):atI (l.map f) i=some (f d):=by
 unfold atI at ed ⊢;rw[List.length_map];cases q:ixN l.length i with
 |none=>rw[q] at ed;cases ed
 |some j =>
  rw[q] at ed;simp only[Option.bind_some] at ed ⊢;rw[List.getElem?_map,ed];rfl
theorem ztW{K:W.Frag}:Op2 K (λx y H Q=>rIxL K x y H Q\/rIxT K x y H Q) gIx:=λG H x y dx dy z Q gh hx hy e k=>by
 unfold gIx at e;split at e
 ·split at e
  ·rename_i d ed;cases e;obtain ⟨a,vs,rfl,h1,h2⟩:=zaJ hx;obtain ⟨v,e1,e2⟩:=zi0 h2 ed;exact .inl ⟨a,vs,_,v,rfl,za6 hy,SqL.of (gh _ _ h1),e1,k v G H (.refl gh) e2⟩
  ·cases e
 ·split at e
  ·rename_i d ed;cases e;obtain ⟨a,vs,rfl,h1,h2⟩:=zb0 hx;obtain ⟨v,e1,e2⟩:=zi0 h2 ed;exact .inr ⟨a,vs,_,v,rfl,za6 hy,zaA gh h1,e1,k v G H (.refl gh) e2⟩
  ·cases e
 ·split at e
  ·rename_i d ed;cases e;obtain ⟨a,rfl,h1⟩:=zld hx;exact .inl ⟨a,_,_,.int d,rfl,za6 hy,gh.seq h1,zsx ed,k _ G H (.refl gh) (za0 _)⟩
  ·cases e
 ·cases e
theorem ztz:zhN gIx:=λx y n h=>by unfold gIx at h;split at h <;> first|cases h|(split at h <;> cases h)
theorem zbP{a b:Expr}{fa fb:De}(ha:JE X C a fa)(hb:JE X C b fb)(hs:zhV b:=by exact λ_ _=>rfl):JE X C (.Subscript a b pos) (dOp gIx fa fb) :=
 PE.weak (zta (zkJ.or ztS) ha hb hs) λY H Q h=>ziA ztW ztz h
end
theorem Rel.mutate{K:W.Frag}{C:Cn}{Y:L2.St}{G H:Hp}{w:Wn}{Z:Ev}{i:Nat}{ds ds':List Dt}{a:Addr}{vs':List V}(r:Rel K C G w Z Y H)(hi:Z[i]? = some (some (.own ds)))(hv:Y[i]? = some (some (.ref a)))(hw:w a=some i)(h':za1 K G ds' vs') :
  Rel K C G w (Z.set i (some (.own ds'))) Y (upd H a (.lst vs'))/\zbu G H w G (upd H a (.lst vs')) w:=by
 have ga:G a=none:=r.wg a (by rw[hw];simp);have st:zbu G H w G (upd H a (.lst vs')) w:=by
  refine ⟨.refl _,λb o e=>.inl (by rw[e];simp),λb o e z=>?_,λ_ e=>.inl e,λb e=>?_⟩
  ·have:b≠a:=λq=>by subst q;rw[hw] at z;cases z
   rw[zag this];exact e
  ·by_cases hb:b=a
   ·subst hb;rw[zan] at e;cases e
   ·rw[zag hb] at e;exact e
 refine ⟨⟨λb o e=>?_,r.wg,λb e=>?_,by simpa using r.len,λj b e=>?_,r.en.trans st,r.pin⟩,st⟩
 ·rw[zag (zah e ga)];exact r.gh b o e
 ·by_cases hb:b=a
  ·subst hb;rw[zan];simp
  ·rw[zag hb];exact r.wh b e
 ·by_cases hj:j=i
  ·subst hj;rw[List.getElem?_set_self (List.getElem?_eq_some_iff.mp hi).1] at e;cases e;exact ⟨_,hv,a,vs',rfl,hw,zan,h'⟩
  ·rw[List.getElem?_set_ne (Ne.symm hj)] at e;obtain ⟨v',h1,h2⟩:=r.sl j b e;refine ⟨v',h1,h2.grow (.refl _) λb' o e1 e2=>⟨?_,e1⟩⟩;have:b'≠a:=λz=>by subst z;rw[hw] at e1;exact hj (waA e1).symm
   rw[zag this];exact e2
section
variable{X:Cx}{C:Cn}{e:Expr}{fa:De}{pos ps apos:Pos}{x:Str}
theorem zdz{K:W.Frag}{Y:L2.St}{G H:Hp}{w:Wn}{Z:Ev}{i:Nat}{ds:List Dt}(r:Rel K C G w Z Y H)(e:Z[i]? = some (some (.own ds))):∃ a vs,Y[i]? = some (some (.ref a))/\w a=some i/\H a=some (.lst vs)/\za1 K G ds vs:=by obtain ⟨v,h1,a,vs,rfl,h2,h3,h4⟩:=r.sl i _ e;exact ⟨a,vs,h1,h2,h3,h4⟩
def zev(i:Nat)(fa:De):De:=λZ=>match Z[i]? with
 |some (some (.own _))=>(fa Z).bind λa=>match a.2[i]? with
  |some (some (.own ds))=>if ds.length<16777216 then .ok (.non,a.2.set i (some (.own (ds++[a.1])))) else .no
  |_=>.no
 |_=>.no
theorem zdA:sizeLine=16777216:=by decide
theorem zla(i:Nat)(ha:JE X C e fa)(hN:X.N[i]? = some x:=by rfl)(hv:Vis X.env.scope x:=by exact xwV)(hd:(x == ("__debug__" : Str))=false:=by decide)(hcd:(x == ("__classdict__" : Str))=false:=by decide)
  (hbase:attributeBase (.Name x ps) "append" X.env (eval (.Name x ps) X.env)=eval (.Name x ps) X.env:=by rfl)
  (hfew:((backTo pos (starEach [e] X.env)).all (λx=>!x.1) && (backToKw pos (keywordEach [] X.env)).all (λx=>x.1.isSome) && decide ([e].length+([]:List Keyword).length+(if ([]:List Keyword).isEmpty then 0 else 1)<30))=true:=by rfl)
  (hline:(apos.endLine == pos.line)=true:=by rfl) (hs:starEach [e] X.env=(false,eval e X.env)::starEach [] X.env:=by rfl) (hplain:(backTo pos (starEach [] X.env)).any (·.1)=false:=by rfl) :
  JE X C (.Call (.Attribute (.Name x ps) "append" apos) [e] [] pos) (zev i fa) :=
 PE.weak (zo1 PySem.F.plainAttrs_list PySem.F.slot_list_append PySem.F.type_list_append zgY (zcq hN hv hd hcd) (zbb ha zcD hs) hbase hfew hline hs hplain) λY H Q ⟨G,w,Z,r,p⟩=>by
  unfold zev at p;split at p
  ·rename_i ds0 e0;obtain ⟨a,vs,h1,h2,h3,h4⟩:=zdz r e0;refine ⟨.ref a,h1,.inl ⟨rfl,vs,SqL.of h3⟩,?_⟩;refine zdE (κ:=λG H w=>kE X.K C Y Q G H w) zbI r p λd Z1 v G1 H1 w1 r1 s1 q1 p1=>?_;dsimp only at p1;split at p1
   ·rename_i ds e1;obtain ⟨a',vs',k1,k2,k3,k4⟩:=zdz r1 e1;rw[h1] at k1;cases k1;split at p1
    ·rename_i hl;obtain ⟨r',s'⟩:=r1.mutate e1 h1 k2 (k4.append (za1.cons q1 za1.nil));exact ⟨a,vs',v,rfl,rfl,k3,by rw[<- k4.length,zdA];exact hl,p1 _ _ _ _ s' r' (by unfold Rep;rfl)⟩
    ·exact p1.elim
   ·exact p1.elim
  ·exact p.elim
def zpC(ds:List Dt)(k:Int):Option (Dt×List Dt):=if zgR k=true then match ixN ds.length k with
  |some j=>match ds[j]? with
   |some d=>some (d,ds.eraseIdx j)
   |none=>none
  |none=>none
 else none
def zhE(i:Nat)(fa:De):De:=λZ=>match Z[i]? with
 |some (some (.own _))=>(fa Z).bind λa=>match a.2[i]?,a.1 with
  |some (some (.own ds)),.int k=>match zpC ds k with
   |some z=>.ok (z.1,a.2.set i (some (.own z.2)))
   |none=>.no
  |_,_=>.no
 |_=>.no
theorem zpY(i:Nat)(ha:JE X C e fa)(hN:X.N[i]? = some x:=by rfl)(hv:Vis X.env.scope x:=by exact xwV)(hd:(x == ("__debug__" : Str))=false:=by decide)(hcd:(x == ("__classdict__" : Str))=false:=by decide)
  (hbase:attributeBase (.Name x ps) "pop" X.env (eval (.Name x ps) X.env)=eval (.Name x ps) X.env:=by rfl)
  (hfew:((backTo pos (starEach [e] X.env)).all (λx=>!x.1) && (backToKw pos (keywordEach [] X.env)).all (λx=>x.1.isSome) && decide ([e].length+([]:List Keyword).length+(if ([]:List Keyword).isEmpty then 0 else 1)<30))=true:=by rfl)
  (hline:(apos.endLine == pos.line)=true:=by rfl) (hs:starEach [e] X.env=(false,eval e X.env)::starEach [] X.env:=by rfl) (hplain:(backTo pos (starEach [] X.env)).any (·.1)=false:=by rfl) :
  JE X C (.Call (.Attribute (.Name x ps) "pop" apos) [e] [] pos) (zhE i fa) :=
 PE.weak (zo1 PySem.F.plainAttrs_list PySem.F.slot_list_pop PySem.F.type_list_pop zpz (zcq hN hv hd hcd) (zbb ha zcD hs) hbase hfew hline hs hplain) λY H Q ⟨G,w,Z,r,p⟩=>by
  unfold zhE at p;split at p
  ·rename_i ds0 e0;obtain ⟨a,vs,h1,h2,h3,h4⟩:=zdz r e0;refine ⟨.ref a,h1,.inl ⟨rfl,vs,SqL.of h3⟩,?_⟩;refine zdE (κ:=λG H w=>kE X.K C Y Q G H w) zbI r p λd Z1 v G1 H1 w1 r1 s1 q1 p1=>?_;dsimp only at p1;split at p1
   ·rename_i ds k e1;obtain ⟨a',vs',k1,k2,k3,k4⟩:=zdz r1 e1;rw[h1] at k1;cases k1;split at p1
    ·rename_i z ez;unfold zpC at ez;split at ez
     ·rename_i hb;split at ez
      ·rename_i j ej;split at ez
       ·rename_i d ed;cases ez;obtain ⟨j1,j2,j3,j4⟩:=zk7 ej;obtain ⟨y,y1,y2⟩:=k4.get ed;obtain ⟨r',s'⟩:=r1.mutate e1 h1 k2 (k4.eraseIdx j);have hl:=k4.length;obtain ⟨b1,b2⟩:=ziB hb;exact ⟨a,vs',k,j,y,rfl,by rw[za6 q1],k3,xwo,xwo,by rw[<- hl];exact j1,y1,p1 _ _ _ _ s' r' y2⟩
       ·cases ez
      ·cases ez
     ·cases ez
    ·exact p1.elim
   ·exact p1.elim
  ·exact p.elim
end
theorem zsA{X:Cx}{pS:List (Addr×Obj)}{Y:L2.St}{H:Hp}{s:Shared}{a:Addr}{xs:List V}(I:L2.Inv X pS Y H s)(h:zhz X.K H a xs):∃(its:List Value)(n:Nat),zaW xs its/\s.heap.get? a=some { cls:=.type "tuple",data:=.seq its.toArray n }/\xs.length<=sizeLine:=by
 rcases h with h|⟨its,n,h1,h2,h3⟩
 ·obtain ⟨z,its,r,n,e⟩:=(show zcw X.prog X.w H s.heap a (.tup xs) from I.hok a _ h)
  exact ⟨its,n,r,e,z⟩
 ·refine ⟨its.toList,n,h3,by simpa using I.kIn a _ h1,?_⟩;have:=h3.length;simp only[Array.length_toList] at this;omega
def zvf(K:W.Frag):V->List V->Hp->VK->Prop:=λx vs H Q=>∃ l b xs zs,x=.ref l/\vs=[.ref b]/\H l=some (.lst xs)/\zhz K H b zs/\xs.length+zs.length<=sizeLine/\Q .non (upd H l (.lst (xs++zs)))
section
variable{X:Cx}
theorem znc:MtM X "list.extend" (zvf X.K):=by
 intro pS s Y H x vs v us Q I rx rv h;obtain ⟨l,b,xs,zs,rfl,rfl,hH,hB,hz,q⟩:=h;cases rx;obtain ⟨u,rfl,ru⟩:=zaW.one rv;cases ru;obtain ⟨z,its,n,r,hl,e⟩:=I.lstM hH;obtain ⟨its2,n2,r2,e2,z2⟩:=zsA I hB;have hl2:=r2.length;have hsz:its.toArray.size+its2.toArray.size<=sizeLine:=by rw[List.size_toArray,List.size_toArray];omega
 have hlong:¬ (!its.toArray.isEmpty && Builtin.List.listTooLong (its.toArray.size+its2.toArray.size))=true:=by rw[zlB hsz,Bool.and_false];exact Bool.false_ne_true
 refine PySem.call_meets F.slot_list_extend ⟨_,e,rfl⟩ F.entry_list_extend (F.args_list_extend_2 _ _)
  (AutoSeq1.list_extend_list_tuple_0 l its.toArray n b its2.toArray n2 hlong (by rw[List.size_toArray];omega) xwo) ⟨e,e2,?_⟩
 refine ⟨.non,_,I.lset (its':=its++its2) hH e xws (r.append r2) ?_,rfl,q⟩;rw[List.length_append];omega
theorem MtM.or{id:String}{r r':V->List V->Hp->VK->Prop}(h:MtM X id r)(h':MtM X id r'):MtM X id (λx xs H Q=>r x xs H Q\/r' x xs H Q):=by
 intro pS s Y H x xs v us Q I rx rs q;rcases q with q|q
 ·exact h pS s Y H x xs v us Q I rx rs q
 ·exact h' pS s Y H x xs v us Q I rx rs q
variable{C:Cn}{e:Expr}{fa fb:De}{pos ps apos:Pos}{x:Str}
def zrk:Dt->Option (List Dt)
 |.lst l=>some l
 |.tup l=>some l
 |_=>none
def zeP(i:Nat)(fa:De):De:=λZ=>match Z[i]? with
 |some (some (.own _))=>(fa Z).bind λa=>match a.2[i]?,zrk a.1 with
  |some (some (.own ds)),some l=>if ds.length+l.length<=16777216 then .ok (.non,a.2.set i (some (.own (ds++l)))) else .no
  |_,_=>.no
 |_=>.no
theorem zik(i:Nat)(ha:JE X C e fa)(hN:X.N[i]? = some x:=by rfl)(hv:Vis X.env.scope x:=by exact xwV)(hd:(x == ("__debug__" : Str))=false:=by decide)(hcd:(x == ("__classdict__" : Str))=false:=by decide)
  (hbase:attributeBase (.Name x ps) "extend" X.env (eval (.Name x ps) X.env)=eval (.Name x ps) X.env:=by rfl)
  (hfew:((backTo pos (starEach [e] X.env)).all (λx=>!x.1) && (backToKw pos (keywordEach [] X.env)).all (λx=>x.1.isSome) && decide ([e].length+([]:List Keyword).length+(if ([]:List Keyword).isEmpty then 0 else 1)<30))=true:=by rfl)
  (hline:(apos.endLine == pos.line)=true:=by rfl) (hs:starEach [e] X.env=(false,eval e X.env)::starEach [] X.env:=by rfl) (hplain:(backTo pos (starEach [] X.env)).any (·.1)=false:=by rfl) :
  JE X C (.Call (.Attribute (.Name x ps) "extend" apos) [e] [] pos) (zeP i fa) :=
 PE.weak (zo1 PySem.F.plainAttrs_list PySem.F.slot_list_extend PySem.F.type_list_extend (MtM.or zoL znc) (zcq hN hv hd hcd) (zbb ha zcD hs) hbase hfew hline hs hplain) λY H Q ⟨G,w,Z,r,p⟩=>by
  unfold zeP at p;split at p
  ·rename_i ds0 e0;obtain ⟨a,vs,h1,h2,h3,h4⟩:=zdz r e0;refine ⟨.ref a,h1,.inl ⟨rfl,vs,SqL.of h3⟩,?_⟩;refine zdE (κ:=λG H w=>kE X.K C Y Q G H w) zbI r p λd Z1 v G1 H1 w1 r1 s1 q1 p1=>?_;dsimp only at p1;split at p1
   ·rename_i ds l e1 el;obtain ⟨a',vs',k1,k2,k3,k4⟩:=zdz r1 e1;rw[h1] at k1;cases k1;split at p1
    ·rename_i hl;cases d with
     |lst l' =>
      cases el;obtain ⟨b,us,rfl,b1,b2⟩:=zaJ q1;obtain ⟨r',s'⟩:=r1.mutate e1 h1 k2 (k4.append b2);exact .inl ⟨a,b,vs',us,rfl,rfl,k3,r1.gh _ _ b1,by rw[<- k4.length,<- b2.length,zdA];exact hl,p1 _ _ _ _ s' r' (by unfold Rep;rfl)⟩
     |tup l' =>
      cases el;obtain ⟨b,us,rfl,b1,b2⟩:=zdv q1;obtain ⟨r',s'⟩:=r1.mutate e1 h1 k2 (k4.append b2);exact .inr ⟨a,b,vs',us,rfl,rfl,k3,b1.same r1.gh,by rw[<- k4.length,<- b2.length,zdA];exact hl,p1 _ _ _ _ s' r' (by unfold Rep;rfl)⟩
     |_=>cases el
    ·exact p1.elim
   ·exact p1.elim
  ·exact p.elim
def zm9(i:Nat):De:=λZ=>match Z[i]? with
 |some (some (.own ds))=>.ok (.int ds.length,Z)
 |_=>.no
theorem ztb(i:Nat){p:Pos}(hg:Gl X "len")(hm:X.mg "len"=none)(hN:X.N[i]? = some x:=by rfl)(hv:Vis X.env.scope x:=by exact xwV)(hd:(x == ("__debug__" : Str))=false:=by decide)(hcd:(x == ("__classdict__" : Str))=false:=by decide)
  (hs:starEach [.Name x ps] X.env=(false,eval (.Name x ps) X.env)::starEach [] X.env:=by rfl) (hpl:(backTo pos (starEach [] X.env)).any (·.1)=false:=by rfl):JE X C (.Call (.Name "len" p) [.Name x ps] [] pos) (zm9 i) :=
 PE.weak (zdj zfM hg hm PySem.boot_len (zbb (zcq hN hv hd hcd) zcD hs) xwd xwd hs hpl) λY H Q ⟨G,w,Z,r,p⟩=>by
  unfold zm9 at p;split at p
  ·rename_i ds e0;obtain ⟨a,vs,h1,h2,h3,h4⟩:=zdz r e0;exact ⟨.ref a,h1,a,vs,rfl,.inl (SqL.of h3),by rw[<- h4.length];exact p _ G H w (.refl _ _ _) r (za0 _)⟩
  ·exact p.elim
def ztC(neg:Bool)(i:Nat)(fb:De):De:=λZ=>match Z[i]? with
 |some (some (.own _))=>(fb Z).bind λb=>match b.2[i]? with
  |some (some (.own ds))=>(gEq neg (.lst ds) b.1).bind λz=>.ok (z,b.2)
  |_=>.no
 |_=>.no
theorem zqG{neg:Bool}{i:Nat}{Y:L2.St}{H:Hp}{Q:VK}(h:tE X.K C (ztC neg i fb) Y H Q):tOp (zv9 X.K neg) (zwm i) (tE X.K C fb) Y H Q:=by
 obtain ⟨G,w,Z,r,p⟩:=h;unfold ztC at p;split at p
 ·rename_i ds0 e0;obtain ⟨a,vs,h1,h2,h3,h4⟩:=zdz r e0;refine ⟨.ref a,h1,?_⟩;refine zdE (κ:=λG H w=>kE X.K C Y Q G H w) zbI r p λd Z1 v G1 H1 w1 r1 s1 q1 p1=>?_;dsimp only at p1;split at p1
  ·rename_i ds e1;obtain ⟨a',vs',k1,k2,k3,k4⟩:=zdz r1 e1;rw[h1] at k1;cases k1;unfold gEq at p1;split at p1
   ·rename_i hk;rw[Bool.and_eq_true] at hk;exact ⟨.lst ds,d,by unfold Rep;exact ⟨a,vs',rfl,k3,k4.same r1.gh⟩,q1.same r1.gh,hk.1,hk.2,p1 _ G1 H1 w1 (.refl _ _ _) r1 (zbK _)⟩
   ·exact p1.elim
  ·exact p1.elim
 ·exact p.elim
variable{b:Expr}
theorem zuT(i:Nat)(hu:X.A.units+64<cLine)(hb:JE X C b fb)(hN:X.N[i]? = some x:=by rfl)(hv:Vis X.env.scope x:=by exact xwV)(hd:(x == ("__debug__" : Str))=false:=by decide)(hcd:(x == ("__classdict__" : Str))=false:=by decide) :
  JT X C (.Compare (.Name x ps) [.NotEq] [b] pos) (dTB (ztC true i fb)):=PT.weak (zkN (zrF hu) (zcq hN hv hd hcd) hb (zfK _)) λY H Q h=>zqG (ziE h)
def zqz(neg:Bool)(i:Nat)(fa:De):De:=λZ=>(fa Z).bind λa=>match a.2[i]? with
 |some (some (.own ds))=>(gIn neg a.1 (.lst ds)).bind λz=>.ok (z,a.2)
 |_=>.no
theorem zpO{neg:Bool}{i:Nat}{Y:L2.St}{H:Hp}{Q:VK}(h:tE X.K C (zqz neg i fa) Y H Q):tOp (zv7 X.K neg) (tE X.K C fa) (zwm i) Y H Q:=by
 obtain ⟨G,w,Z,r,p⟩:=h;refine zdE (κ:=λG H w=>kE X.K C Y Q G H w) zbI r p λd Z1 v G1 H1 w1 r1 s1 q1 p1=>?_;dsimp only at p1;split at p1
 ·rename_i ds e1;obtain ⟨a,vs,k1,k2,k3,k4⟩:=zdz r1 e1;refine ⟨.ref a,k1,?_⟩;unfold gIn at p1;dsimp only at p1;by_cases hk:(okN 60 d && ds.all (okN 60))=true
  ·rw[if_pos hk] at p1;rw[Bool.and_eq_true] at hk;exact ⟨d,ds,q1.same r1.gh,.inl (by unfold Rep;exact ⟨a,vs,rfl,k3,k4.same r1.gh⟩),hk.1,hk.2,p1 _ G1 H1 w1 (.refl _ _ _) r1 (zbK _)⟩
  ·rw[if_neg hk] at p1;exact waO p1
 ·exact waO p1
theorem zuF(i:Nat)(hu:X.A.units+65<cLine)(ha:JE X C e fa)(hN:X.N[i]? = some x:=by rfl)(hv:Vis X.env.scope x:=by exact xwV)(hd:(x == ("__debug__" : Str))=false:=by decide)(hcd:(x == ("__classdict__" : Str))=false:=by decide)(hm:behindInMarks .In (.Name x ps)=false:=by rfl) :
  JT X C (.Compare e [.In] [.Name x ps] pos) (dTB (zqz false i fa)):=PT.weak (zkN (zoh hu) ha (zcq hN hv hd hcd) hm) λY H Q h=>zpO (ziE h)
def zn9(i:Nat)(fv fk:De):DS:=λZ=>(fv Z).bind λv=>match v.2[i]? with
 |some (some (.own _))=>(fk v.2).bind λk=>match k.2[i]?,k.1 with
  |some (some (.own ds)),.int n=>match ixN ds.length n with
   |some j=>.ok (.nx,k.2.set i (some (.own (ds.set j v.1))))
   |none=>.no
  |_,_=>.no
 |_=>.no
theorem zpf(i:Nat){k:Expr}{fk:De}{tp:Pos}(hv:JE X C e fa)(hk:JE X C k fk)(hN:X.N[i]? = some x:=by rfl)(hvi:Vis X.env.scope x:=by exact xwV)(hd:(x == ("__debug__" : Str))=false:=by decide)(hcd:(x == ("__classdict__" : Str))=false:=by decide)
  (ha:∀ v,assign (.Subscript (.Name x ps) k tp) X.env v=(do
   let ov <- holding [v] (eval (.Name x ps) X.env);let iv <- holding [v,ov] (eval k X.env)
   standAt tp
   holding [v,ov,iv] (setItem ov iv v)
   release [v,ov,iv] []):=by intro _;rfl)
  (hs:swapsWithSole [.Subscript (.Name x ps) k tp] e pos.line X.env=pure false:=by rfl) (hw:swappedStores [.Subscript (.Name x ps) k tp] e X.env=pure none:=by rfl)
  (h1:(assignEach [.Subscript (.Name x ps) k tp] X.env).map (·.2)=[assign (.Subscript (.Name x ps) k tp) X.env]:=by rfl):JS X C (.Assign [.Subscript (.Name x ps) k tp] e pos) (zn9 i fa fk) :=
 PS.weak (zul hv (zuG (zcq hN hvi hd hcd) hk zq9 ha) hs hw h1) λD Y H ⟨G,w,Z,r,p⟩=>by
  refine zdE (κ:=λG H w=>kS X.K C D G H w) zdT r p λd Z1 v G1 H1 w1 r1 s1 q1 p1=>?_;dsimp only at p1;split at p1
  ·rename_i ds0 e0;obtain ⟨a,vs,k1,k2,k3,k4⟩:=zdz r1 e0;refine ⟨.ref a,k1,?_⟩;refine zdE (κ:=λG H w=>kS X.K C D G H w) zdT r1 p1 λd2 Z2 v2 G2 H2 w2 r2 s2 q2 p2=>?_;dsimp only at p2;split at p2
   ·rename_i ds n e2;obtain ⟨a',vs',m1,m2,m3,m4⟩:=zdz r2 e2;rw[k1] at m1;cases m1;split at p2
    ·rename_i j ej;obtain ⟨r',s'⟩:=r2.mutate e2 k1 m2 (za1.set (q1.same s2.g) j m4);exact ⟨a,vs',n,j,rfl,za6 q2,m3,by rw[<- m4.length];exact ej,p2 _ _ _ _ s' r'⟩
    ·exact waO p2
   ·exact waO p2
  ·exact waO p1
end
theorem zdQ{env:Env}:∀(names:List (Str×NameKind))(cs:List (Str×Addr)),(∀ y∈names,y.2=.free->∃ c,env.cells.lookup y.1=some c)->(∀ x c,cs.lookup x=some c->env.cells.lookup x=some c) ->
  ∃ cl,(forIn names cs λ(y:Str×NameKind) (r:List (Str×Addr))=>(if (y.2 == NameKind.free)=true then do let a <- cellOf env y.1;pure (ForInStep.yield ((y.1,a)::r)) else pure (ForInStep.yield r):Sem (ForInStep (List (Str×Addr)))))=pure cl /\
   (∀ x c,cl.lookup x=some c->env.cells.lookup x=some c)/\(∀ x c,cs.lookup x=some c->∃ c',cl.lookup x=some c')/\∀ y∈names,y.2=.free->∃ c,cl.lookup y.1=some c
 |[],cs,_,h2=>⟨cs,rfl,h2,λx c e=>⟨c,e⟩,λy hy=>by cases hy⟩
 | (n,k)::r,cs,h1,h2=>by
  rw[List.forIn_cons];by_cases hk:k=.free
  ·subst hk;obtain ⟨c,hc⟩:=h1 (n,.free) wau rfl;obtain ⟨cl,e1,e2,e3,e4⟩:=zdQ r ((n,c)::cs) (λy hy=>h1 y (wah _ hy)) (λx c' e=>by
    rw[List.lookup_cons] at e;cases hx:x == n with
    |true=>rw[hx] at e;simp only[Option.some.injEq] at e;subst e;rw[beq_iff_eq.mp hx];exact hc
    |false=>rw[hx] at e;exact h2 x c' e)
   refine ⟨cl,?_,e2,λx c' e=>?_,λy hy hf=>?_⟩
   ·simp only[beq_self_eq_true,if_true];have:cellOf env n=pure c:=by unfold cellOf;rw[hc]
    rw[this];exact e1
   ·refine (e3 x (if x == n then c else c') ?_);rw[List.lookup_cons];cases hx:x == n with
    |true=>rfl
    |false=>exact e
   ·rcases wap.mp hy with rfl|hy
    ·exact e3 n c (by simp[List.lookup_cons])
    ·exact e4 y hy hf
  ·obtain ⟨cl,e1,e2,e3,e4⟩:=zdQ r cs (λy hy=>h1 y (wah _ hy)) h2;refine ⟨cl,?_,e2,e3,λy hy hf=>?_⟩
   ·have:(k == NameKind.free)=false:=by simpa using hk
    simp only[this,Bool.false_eq_true,if_false];exact e1
   ·rcases wap.mp hy with rfl|hy
    ·exact absurd hf hk
    ·exact e4 y hy hf
theorem zee{scope:Scope}{env:Env}(h:∀ y∈scope.names,y.2=.free->∃ c,env.cells.lookup y.1=some c):∃ cl,closureFor scope env=pure cl/\(∀ x c,cl.lookup x=some c->env.cells.lookup x=some c)/\∀ y∈scope.names,y.2=.free->∃ c,cl.lookup y.1=some c:=by obtain ⟨cl,e1,e2,_,e4⟩:=zdQ (env:=env) scope.names [] h (λx c e=>by simp at e);refine ⟨cl,?_,e2,e4⟩;unfold closureFor;exact (congrArg (λz:Sem (List (Str×Addr))=>z >>= λcs=>pure cs) e1).trans rfl
section
variable{prog:Program}{w:World}{A:Around}{R:Result->Shared->Prop}{s:Shared}
theorem zj2{elt target iter:Expr}{ifs:List Expr}{scope:Scope}{pos:Pos}{it acc:Value}{env:Env}(I:Nat->Shared->Prop)
  (turn:∀ n s,I n s->wpAny (model prog w) A (pyNext it) (λr s₁=>match r with
   |none=>R (.ok .next) s₁
   |some v=>wpAny (model prog w) A (letOwnedTupleGo target it v) (λ_ s₁'=>wpAny (model prog w) A (assign target env v) (λ_ s₂ =>
     wpAny (model prog w) A (forIn ifs true λc r=>if r=true then do let ok <- isTrue c env (eval c env);pure (ForInStep.yield ok) else pure (ForInStep.yield r)) (λok s₃ =>
      if ok=true then wpAny (model prog w) A (eval elt env) (λx s₄ =>
       wpAny (model prog w) A (call (.builtin "list.append") [acc,x]) (λ_ s₅=>∃ m,m<n/\I m s₅) (λ_ _=>False) s₄) (λ_ _=>False) s₃
      else ∃ m,m<n/\I m s₃) (λ_ _=>False) s₂) (λ_ _=>False) s₁') (λ_ _=>False) s₁) (λ_ _=>False) s)
  (n:Nat) (h:I n s) :
  codeAny (model prog w) A (.compLoop (.ListComp elt [⟨target,iter,ifs,0⟩] scope pos) 0 it acc env) R s:=by
 refine codeAny_loop rfl I (λn s hI=>?_) n h;show wpAny _ A ((compTurn (.ListComp elt [⟨target,iter,ifs,0⟩] scope pos) 0 it acc env).onRaise (λx=>do noteFrame x env;theTreesLotGoes x)) _ _ s;refine wpAny_noted ?_;rw[compTurn_list];refine wab (wpAny_standAt (wab (wpAny_mono (turn n s hI) (λr s₁ h₁=>?_) λ_ _ h'=>h'.elim)));cases r with
 |none=>exact wad h₁
 |some v =>
  refine wab (wpAny_mono h₁ (λ_ s₁' h₁'=>?_) λ_ _ h'=>h'.elim);refine wab (wpAny_mono h₁' (λ_ s₂ h₂=>wab (wpAny_mono h₂ (λok s₃ h₃=>?_) λ_ _ h'=>h'.elim)) λ_ _ h'=>h'.elim);cases ok with
  |false=>exact wad ⟨rfl,h₃⟩
  |true =>
   exact wab (wab (wpAny_mono h₃ (λx s₄ h₄=>wab (wpAny_mono h₄ (λ_ s₅ h₅=>wad (wad ⟨rfl,h₅⟩)) λ_ _ h'=>h'.elim)) λ_ _ h'=>h'.elim))
end
def zcs(X:Cx)(N':List Str)(scope:Scope)(cl:List (Str×Addr))(L:Addr)(s:Shared)(H:Hp)(fp:List Addr):Cx where
 prog:=X.prog
 w:=X.w
 K:=X.K
 mg:=X.mg
 base:=X.base
 A:=X.A
 N:=N'
 s₀:=s
 H₀:=H
 env:=compEnvC scope cl L X.env
 outer:=X.stack
 stack:=X.stack
 ex:=fp
 fn:=λ_=>false
 calm:=X.calm
 pn:=[]
 xe:=λ_ _=>False
def zfW(C:Cn)(n:Nat)(G H:Hp)(w:Wn)(Y:L2.St):Cn:=⟨G,H,w,List.range n,Y,λ_=>False,C.xv,false⟩
def zfC(N N':List Str)(names:List (Str×NameKind))(m:Nat):Bool:=decide (N'.length=N.length+m) && (List.range N.length).all λi=>match N'[i]? with
 |some x=>match names.lookup x with
  |some .free=>N[i]? == some x
  |some .local=>false
  |some .cell=>false
  |_=>true
 |none=>false
theorem zcc{env:Env}{x:Str}:∀{names:List (Str×NameKind)},(names.map λ(n,k)=>if (k == NameKind.free && env.scope.kind == .function && env.kindOf n == some .cell) then (n,NameKind.cell) else (n,k)).lookup x=(names.lookup x).map λk=>if (k == NameKind.free && env.scope.kind == .function && env.kindOf x == some .cell)=true then .cell else k
 |[]=>rfl
 | (n,k)::r=>by
  have ih:=zcc (env:=env) (x:=x) (names:=r);show List.lookup x ((if (k == NameKind.free && env.scope.kind == .function && env.kindOf n == some .cell)=true then (n,NameKind.cell) else (n,k))::_)=_;cases hx:x == n with
  |true =>
   have e:=beq_iff_eq.mp hx;subst e;simp only[List.lookup_cons,beq_self_eq_true,Option.map_some];split <;> simp[List.lookup_cons]
  |false =>
   simp only[List.lookup_cons,hx];split
   ·simp only[List.lookup_cons,hx];exact ih
   ·simp only[List.lookup_cons,hx];exact ih
theorem zaZ{α β:Type} [BEq α] [LawfulBEq α] {x:α} {b:β}:∀{l:List (α×β)},l.lookup x=some b->(x,b)∈l
 |[],h=>by simp at h
 | (n,k)::r,h=>by
  rw[List.lookup_cons] at h;cases hx:x == n with
  |true=>rw[hx] at h;simp at h;subst h;rw[beq_iff_eq.mp hx];exact wau
  |false=>rw[hx] at h;exact wah _ (zaZ h)
theorem zhh{scope:Scope}{env:Env}{x:Str}(h:Vis (relabel scope env) x):scope.names.lookup x=some .local\/scope.names.lookup x=some .cell\/scope.names.lookup x=some .free:=by
 have e:(relabel scope env).names.lookup x=_:=zcc (env:=env) (x:=x) (names:=scope.names);unfold Vis at h;rw[e] at h;cases q:scope.names.lookup x with
 |none=>rw[q] at h;simp at h
 |some k =>
  rw[q] at h;cases k <;> simp_all
section
variable{X:Cx}{C:Cn}
theorem zni{pS:List (Addr×Obj)}{Y:L2.St}{H:Hp}{s:Shared}{N':List Str}{scope:Scope}{cl:List (Str×Addr)}{m:Nat}{fp:List Addr}{h₁:Heap}{tk:Nat}{mm:Str->Option Value}(I:L2.Inv X pS Y H s)(hf:∀ b∈fp,zhO X pS H b)(ho:∀ b∈fp,∃ o,s.heap.get? b=some o)
  (hb:zfC X.N N' scope.names m=true) (hkind:scope.kind=.function) (hcell:∀ y∈scope.names,y.2≠.cell) (hfr:∀ y∈scope.names,y.2=.free->X.env.kindOf y.1=some .cell\/X.env.kindOf y.1=some .free)
  (hcl:∀ x c,cl.lookup x=some c->X.env.cells.lookup x=some c) (hcf:∀ y∈scope.names,y.2=.free->∃ c,cl.lookup y.1=some c)
  (hns:h₁.Ns s.heap.objs.size mm) (hk:∀ b o,s.heap.get? b=some o->h₁.get? b=some o) :
  L2.Inv (zcs X N' scope cl s.heap.objs.size s H fp) [] (Y++List.replicate m none) H { s with heap:=h₁,toks:=tk }:=by
 have hb1:N'.length=X.N.length+m:=by unfold zfC at hb;rw[Bool.and_eq_true] at hb;exact of_decide_eq_true hb.1
 have hb2:∀ i x,i<X.N.length->N'[i]? = some x->Vis (relabel scope X.env) x->X.N[i]? = some x/\scope.names.lookup x=some .free:=λi x hi e v=>by
  unfold zfC at hb;rw[Bool.and_eq_true,List.all_eq_true] at hb;have q:=hb.2 i (List.mem_range.mpr hi);simp only[e] at q;rcases zhh v with z|z|z
  ·simp[z] at q
  ·simp[z] at q
  ·simp[z] at q;exact ⟨q,z⟩
 have cellK:∀ c v,s.heap.IsCell c v->h₁.IsCell c v:=λc v ⟨o,e1,e2⟩=>⟨o,hk c o e1,e2⟩
 refine ⟨⟨I.ok.mod,hkind,I.ok.glob,I.ok.blt,wal _,λx y c h1 h2=>I.ok.inj x y c (hcl x c h1) (hcl y c h2),λx hx=>?_,λx c h _=>absurd h (by simp[zcs]),I.ok.hd,I.ok.frames,.inl rfl,λb hb=>⟨?_,λx c e=>(hf b hb).2.2.2.2.1 x c (hcl x c e)⟩,I.bs,waN I.ok.bsz I.sz,λb o e hb=>?_,λb hb z=>?_,I.stack,I.stkFree⟩,
  rfl,I.bare,Un.kept hk,⟨mm,hns,λi x v e1 e2 e3=>?_⟩,λx c e=>?_,I.hok.fresh (wal _),λx c e=>I.freeC x c (hcl x c e),λp hp=>absurd hp (by simp[zcs]),I.hok.kept hk,?_⟩
 ·
  have e:(relabel scope X.env).names.lookup x=_:=zcc (env:=X.env) (x:=x) (names:=scope.names);have hx':Vis (relabel scope X.env) x:=hx.elim (λz=>.inr (.inl z)) λz=>.inr (.inr z);rcases zhh hx' with z|z|z
  ·rw[z] at e;have hx2:(relabel scope X.env).names.lookup x=some .cell\/(relabel scope X.env).names.lookup x=some .free:=hx;rw[e] at hx2;simp at hx2
  ·exact absurd rfl (hcell _ (zaZ z))
  ·exact hcf _ (zaZ z) rfl
 ·intro z;obtain ⟨o,e⟩:=ho b hb;exact absurd (wai e) (by rw[z];exact waL _)
 ·rcases (hf b hb).2.2.2.1 with z|z
  ·exact I.ok.noex b o e z
  ·exact absurd (was (wai e) (waN I.ok.bsz z)) (waL _)
 ·rcases wap.mp (I.stkSub b z) with z|z
  ·exact (hf b hb).2.1 z
  ·exact (hf b hb).2.2.1 z
 ·have hi:i<X.N.length:=by
   by_cases hi:i<X.N.length
   ·exact hi
   ·rw[List.getElem?_append_right (by rw[I.len];omega),List.getElem?_replicate] at e2;split at e2 <;> cases e2
  rw[List.getElem?_append_left (by rw[I.len];exact hi)] at e2;obtain ⟨q1,q2⟩:=hb2 i x hi e1 e3;have hm:=zaZ q2;obtain ⟨m0,hn0,hl0⟩:=I.loc;have kc:=hfr _ hm rfl;obtain ⟨u,ru,lk⟩:=hl0 i x v q1 e2 (kc.elim (λz=>.inr (.inl z)) λz=>.inr (.inr z));refine ⟨u,ru,.inr ⟨?_,?_⟩⟩
  ·have e:(relabel scope X.env).names.lookup x=_:=zcc (env:=X.env) (x:=x) (names:=scope.names);show (relabel scope X.env).names.lookup x=some .cell\/(relabel scope X.env).names.lookup x=some .free;rw[e,q2];simp only[Option.map_some];split
   ·exact .inl rfl
   ·exact .inr rfl
  ·obtain ⟨c,hc⟩:=hcf _ hm rfl;refine ⟨c,hc,?_⟩;rcases lk with ⟨z,_⟩|⟨_,c',e',ic⟩
   ·rcases kc with y|y <;> (rw[y] at z;cases z)
   ·rw[hcl _ _ hc] at e';cases e';exact cellK _ _ ic
 ·obtain ⟨v,ic⟩:=I.cell x c (hcl x c e);exact ⟨v,cellK _ _ ic⟩
 ·show _=N'.length;rw[List.length_append,List.length_replicate,I.len,hb1]
theorem zs0{pS:List (Addr×Obj)}{Y Y':L2.St}{H H':Hp}{s s':Shared}{N':List Str}{scope:Scope}{cl:List (Str×Addr)}{fp:List Addr}{L:Addr}{h':Heap}{ps:List (Addr×Obj)}(I:L2.Inv X pS Y H s)(hf:∀ b∈fp,zhO X pS H b)(hL:s.heap.objs.size<=L)
  (J:L2.Inv (zcs X N' scope cl L s H fp) ps Y' H' s') (hs:Heap.SameBut L s'.heap h'):L2.Inv X pS Y H' { s' with heap:=h' }:=by
 have hne:∀ b o,s.heap.get? b=some o->b≠L:=λb o e z=>by subst z;exact absurd (was (wai e) hL) (waL _)
 have hfree:H' L=none:=J.free;have un:Un (frs X.stack) fp H H' s.heap s'.heap:=J.base;refine I.call' (s':={ s' with heap:=h' }) (ch:=fp) J.os ⟨λb o e n h1 h2=>?_,λb o e n h1 h2=>?_,un.free,λb o e h2=>?_,un.tups,un.frzs,un.tbls⟩ (λb o e=>?_) J.bare λb hb=>⟨(hf b hb).2.2.2.1,(hf b hb).2.1,(hf b hb).2.2.2.2.1,(hf b hb).2.2.2.2.2⟩
 ·exact (hs.2 b (hne b o e)).trans (un.keep b o e n h1 h2)
 ·obtain ⟨sl,q⟩:=un.slot b o e n h1 h2;exact ⟨sl,(hs.2 b (hne b o e)).trans q⟩
 ·obtain ⟨o',q⟩:=un.there b o e h2;exact ⟨o',(hs.2 b (hne b o e)).trans q⟩
 ·refine (J.hok b o e).stay (λc v hc q=>(hs.2 c ?_).trans q) (λ_ q=>q) λ_ _ q=>q;intro z;subst z;rcases hc with z|z
  ·subst z;rw[hfree] at e;cases e
  ·rw[hfree] at z;cases z
end
def zb5(g:DG)(ft:DT)(fe:De):List Dt->Ev->R (List Dt×Ev)
 |[],Z=>.ok ([],Z)
 |d::r,Z=>(g d Z).bind λZ1=>(ft Z1).bind λt=>if t.1=true then (fe t.2).bind λy=>(zb5 g ft fe r y.2).bind λz=>.ok (y.1::z.1,z.2) else zb5 g ft fe r t.2
def zaY(fi:DA)(g:DG)(ft:DT)(fe:De)(m:Nat):DN:=λZ=>(fi Z).bind λa=>if zdC a.1=true then match zb5 g ft fe a.1 (a.2++List.replicate m none) with
  |.ok z=>.ok (z.1,z.2.take a.2.length)
  |_=>.no
 else .no
theorem zcP{α β:Type}{r:R α}{f:α->R β}{b:β}(h:r.bind f=.ok b):∃ a,r=.ok a/\f a=.ok b:=by
 cases r with
 |ok a=>exact ⟨a,rfl,h⟩
 |er n=>cases h
 |no=>cases h
def JTs(X:Cx)(C:Cn)(ifs:List Expr)(ft:DT):Prop :=
 ∀(pS:List (Addr×Obj))(s:Shared)(Y:L2.St)(H:Hp)(Q:Bool->Hp->Prop),L2.Inv X pS Y H s->tT X.K C ft Y H Q ->
  wpAny (model X.prog X.w) X.A (forIn ifs true λc r=>if r=true then do let ok <- isTrue c X.env (eval c X.env);pure (ForInStep.yield ok) else pure (ForInStep.yield r)) (TP X pS Y Q) X.xe s
def dTT:DT:=λZ=>.ok (true,Z)
abbrev Hce(scope:Scope):Prop:=∀ y∈scope.names,y.2≠.cell
abbrev Hfr(X:Cx)(scope:Scope):Prop:=∀ y∈scope.names,y.2=.free->X.env.kindOf y.1=some .cell\/X.env.kindOf y.1=some .free
abbrev Hnm(scope:Scope):Prop:=∀ y∈scope.names,y.2=.local->scope.names.lookup y.1=some .local
abbrev Hbk(X:Cx)(C:Cn)(N':List Str)(scope:Scope)(tg:Expr)(ifs:List Expr)(elt:Expr)(g:DG)(ft:DT)(fe:De):Prop:=∀ cl L s H fp G H' w Y,JG (zcs X N' scope cl L s H fp) (zfW C X.N.length G H' w Y) tg g/\JTs (zcs X N' scope cl L s H fp) (zfW C X.N.length G H' w Y) ifs ft/\JE (zcs X N' scope cl L s H fp) (zfW C X.N.length G H' w Y) elt fe
abbrev nL(s2:Shared):Heap:=s2.heap.push { cls:=.type "list",dict:=none,data:=.seq ([]:List Value).toArray }
def PTs(X:Cx)(ifs:List Expr)(t:TT):Prop :=
 ∀(pS:List (Addr×Obj))(s:Shared)(Y:L2.St)(H:Hp)(Q:Bool->Hp->Prop),L2.Inv X pS Y H s->t Y H Q ->
  wpAny (model X.prog X.w) X.A (forIn ifs true λc r=>if r=true then do let ok <- isTrue c X.env (eval c X.env);pure (ForInStep.yield ok) else pure (ForInStep.yield r)) (TP X pS Y Q) X.xe s
section
variable{X:Cx}{C:Cn}
theorem zdn:JTs X C [] dTT:=λpS s Y H Q I ⟨G,w,Z,r,p⟩=>wpAny_tests_nil ⟨H,I,p G H w (.refl _ _ _) r⟩
theorem ziG{c:Expr}{ft:DT}(h:JT X C c ft):JTs X C [c] ft:=λpS s Y H Q I t=>wpAny_tests_one (h pS s Y H Q I t)
theorem Rel.upd_new{K:W.Frag}{Y:L2.St}{G H:Hp}{w:Wn}{Z:Ev}{p:Addr}{o:HO}(r:Rel K C G w Z Y H)(hg:G p=none)(hw:w p=none)(h0:C.H₀ p=none):Rel K C G w Z Y (upd H p o):=by
 refine ⟨λb u e=>?_,r.wg,λb e=>?_,r.len,λi b e=>?_,⟨r.en.g,r.en.fr,λb u e z=>?_,r.en.w,λb e=>?_⟩,r.pin⟩
 ·rw[zag (zah e hg)];exact r.gh b u e
 ·by_cases hb:b=p
  ·subst hb;rw[zan];simp
  ·rw[zag hb];exact r.wh b e
 ·obtain ⟨v,h1,h2⟩:=r.sl i b e;refine ⟨v,h1,h2.grow (.refl _) λa u e1 e2=>⟨?_,e1⟩⟩;have:a≠p:=λz=>by subst z;rw[hw] at e1;cases e1
  rw[zag this];exact e2
 ·rw[zag (zah e h0)];exact r.en.h b u e z
 ·by_cases hb:b=p
  ·subst hb;exact h0
  ·rw[zag hb] at e;exact r.en.k b e
theorem zbu.keep{G H G' H':Hp}{w w':Wn}{p:Addr}{o:HO}(s:zbu G H w G' H' w')(hg:G p=none)(hw:w p=none)(hp:H p=some o):G' p=none/\w' p=none/\H' p=some o:=by
 refine ⟨?_,?_,s.h p o hp hw⟩
 ·cases q:G' p with
  |none=>rfl
  |some u =>
   rcases s.fr p u q with z|z|z
   ·exact absurd hg z
   ·rw[hp] at z;cases z
   ·exact absurd hw z
 ·cases q:w' p with
  |none=>rfl
  |some k =>
   rcases s.w p (by rw[q];simp) with z|z
   ·exact absurd hw z
   ·rw[hp] at z;cases z
structure zn3(X:Cx)(pS:List (Addr×Obj))(H:Hp)(L:Addr)(s:Shared):Prop where
 fr:H L=none
 nl:L≠X.env.locals
 nw:L∈X.ex\/X.s₀.heap.objs.size<=L
 nc:∀ x c,X.env.cells.lookup x=some c->c≠L
 np:∀ p∈X.pn++pS,p.1≠L
 ns:∃ m,s.heap.Ns L m
theorem zlN{tg iter elt:Expr}{ifs:List Expr}{scope:Scope}{pos:Pos}{N':List Str}{m n:Nat}{tgt:TG}{tts:TT}{te:TE}(hc:X.calm=true)(hb:zfC X.N N' scope.names m=true)
  (hkind:scope.kind=.function) (hcell:Hce scope) (hfr:Hfr X scope)
  {pS:List (Addr×Obj)} {Y:L2.St} {s2:Shared} {cl:List (Str×Addr)} {RR:Value->Addr->Result->Shared->Prop} {E:Value->Shared->Prop}
  (hblk:∀ L s H fp,L2.Inv X pS Y H s->(∀ b∈fp,zhO X pS H b)->s.heap.objs.size<=L->PG (zcs X N' scope cl L s H fp) tg tgt/\PTs (zcs X N' scope cl L s H fp) ifs tts/\PE (zcs X N' scope cl L s H fp) elt te)
  (hcl:∀ x c,cl.lookup x=some c->X.env.cells.lookup x=some c) (hcf:∀ y∈scope.names,y.2=.free->∃ c,cl.lookup y.1=some c)
  {it:Addr} {fp:List Addr} {tn:Nat->Heap->Prop} {J:It} {H2:Hp} (I2:L2.Inv X pS Y H2 s2) (T:zpq X.prog X.w X.K tg J fp it tn) (st2:tn 0 s2.heap) (f2:∀ b∈fp,zhO X pS H2 b)
  (W:Addr->Nat->L2.St->Hp->List V->Prop) (w0:∀ D,H2 D=none->W D 0 (Y++List.replicate m none) (upd H2 D (.lst [])) [])
  (hstep:∀ D i Y' H' vs,H2 D=none->W D i Y' H' vs->H' D=some (.lst vs)->i<n->J.go i H'/\∀ x H7,J.yld i H' x H7->tgt x Y' H7 λY8 H8=>tts Y8 H8 λb H9=>if b=true then te Y8 H9 λv H10=>H10 D=some (.lst vs)/\vs.length<sizeLine/\W D (i+1) Y8 (upd H10 D (.lst (vs++[v]))) (vs++[v]) else H9 D=some (.lst vs)/\W D (i+1) Y8 H9 vs)
  (hstop:∀ D Y' H' vs,W D n Y' H' vs->J.stop n H')
  (fin:∀(D L:Addr)(s':Shared)(vs:List V)(Y':L2.St)(H':Hp),L2.Inv X pS Y H' s'->zn3 X pS H' L s'->H2 D=none->H' D=some (.lst vs)->Y'.length=X.N.length+m->W D n Y' H' vs->RR (.ref D) L (.ok .next) s') :
  wpAny (model X.prog X.w) X.A (newList []) (λacc s₃=>wpAny (model X.prog X.w) X.A (newFunctionEnv scope X.env.globals cl [] X.env.qual none .none (some X.env)) (λcenv s₄ =>
   codeAny (model X.prog X.w) X.A (.compStart (.ListComp elt [⟨tg,iter,ifs,0⟩] scope pos) 0 (.ref it) acc { cenv with scope:=relabel scope X.env }) (RR acc cenv.locals) s₄) E s₃) E s2:=by
 have hD:H2 s2.heap.objs.size=none:=I2.hok.fresh (wal _);refine wpAny_newObj_type (wpAny_newFunctionEnv hcell (by intro y hy;simp at hy) (λh₁ hns₁ hsb₁=>?_) hkind);dsimp only at hns₁ hsb₁ ⊢;have I3:L2.Inv X pS Y (upd H2 s2.heap.objs.size (.lst [])) { s2 with heap:=nL s2 } :=
  I2.laid (t':=s2.toks) (λb u e=>waa _ e) (wal _) ⟨Nat.zero_le _,[],0,.nil,waj _ rfl⟩
 have hob:∀ b∈fp,∃ o,s2.heap.get? b=some o:=λb hb=>let ⟨o,e,_⟩:=T.obj 0 _ st2 b hb;⟨o,e⟩;have hbD:∀ b∈fp,b≠s2.heap.objs.size:=λb hb z=>by obtain ⟨o,e⟩:=hob b hb;exact absurd (wai e) (by rw[z];exact waL _)
 have f3:∀ b∈fp,zhO X pS (upd H2 s2.heap.objs.size (.lst [])) b:=λb hb=>⟨by rw[zag (hbD b hb)];exact (f2 b hb).1,(f2 b hb).2⟩
 have hk3:∀ b o,(nL s2).get? b=some o->h₁.get? b=some o:=λb o e =>
  (hsb₁.2 b (waM (wai e))).trans (waa _ e)
 have J4:=zni (N':=N') (scope:=scope) (cl:=cl) (m:=m) (fp:=fp) (tk:=s2.toks+([]:List (Str×Value)).length) I3 f3 (λb hb=>by obtain ⟨o,e⟩:=hob b hb;exact ⟨o,waa _ e⟩) hb hkind hcell hfr hcl hcf hns₁ hk3;have st4:tn 0 h₁:=T.keep _ _ _ st2 λb hb o e=>hk3 b o (waa _ e);generalize hX':zcs X N' scope cl (nL s2).objs.size { s2 with heap:=nL s2 } (upd H2 s2.heap.objs.size (.lst [])) fp=X' at J4;have eP:X'.prog=X.prog:=by rw[<- hX'];rfl
 have eW:X'.w=X.w:=by rw[<- hX'];rfl
 have eK:X'.K=X.K:=by rw[<- hX'];rfl
 have eA:X'.A=X.A:=by rw[<- hX'];rfl
 have eC:X'.calm=true:=by rw[<- hX'];exact hc
 have eE:X'.xe=λ_ _=>False:=by rw[<- hX'];rfl
 have ePn:X'.pn=[]:=by rw[<- hX'];rfl
 have eN:X'.N.length=X.N.length+m:=by rw[<- hX'];show N'.length=_;unfold zfC at hb;rw[Bool.and_eq_true] at hb;exact of_decide_eq_true hb.1
 have eEx:X'.ex=fp:=by rw[<- hX'];rfl
 have hlenσ:Y.length=X.N.length:=I2.len;obtain ⟨hg,hts,he⟩:=hblk (nL s2).objs.size { s2 with heap:=nL s2 } (upd H2 s2.heap.objs.size (.lst [])) fp I3 f3 (wal _);rw[hX'] at hg hts he;have stat:∀{H':Hp},(∀ b∈fp,H' b=none)->∀ b∈fp,zhO X' [] H' b:=λhn b hb=>by have q:=J4.ok.exf b (by rw[eEx];exact hb);exact ⟨hn b hb,q.1,J4.ok.exfs b (by rw[eEx];exact hb),.inl (by rw[eEx];exact hb),q.2,λp hp=>by rw[ePn] at hp;simp at hp⟩
 have loop:∀ s₃:Shared,s₃={ s2 with heap:=h₁,toks:=s2.toks+([]:List (Str×Value)).length } ->
   codeAny (model X.prog X.w) X.A (.compLoop (.ListComp elt [⟨tg,iter,ifs,0⟩] scope pos) 0 (.ref it) (.ref s2.heap.objs.size) X'.env) (RR (.ref s2.heap.objs.size) (nL s2).objs.size) s₃:=by
  rintro s₃ rfl;refine zj2 (λk s'=>∃ i Y' H' vs,L2.Inv X' [] Y' H' s'/\tn i s'.heap/\(∀ b∈fp,H' b=none)/\k=n-i/\i<=n/\H' s2.heap.objs.size=some (.lst vs)/\W s2.heap.objs.size i Y' H' vs) ?_ n
   ⟨0,Y++List.replicate m none,_,[],J4,st4,λb hb=>(f3 b hb).1,xws,Nat.zero_le _,zan,w0 _ hD⟩
  rintro k s' ⟨i,Y',H',vs,J5,st5,fr5,rfl,hil,hd5,q5⟩;by_cases hlt:i<n
  ·obtain ⟨go,yl⟩:=hstep _ i Y' H' vs hD q5 hd5 hlt;have hIt:=T.item X' eP eW eK eC i [] s' Y' H' (λ_ _=>False) J5 (stat fr5) st5 go;rw[eA] at hIt;refine thn hIt λrr s6 ⟨u,hr,h6⟩=>?_;subst hr;refine thn h6 λ_ s7 ⟨x,H7,J7,rx7,y7,st7,fr7⟩=>?_;have q7:=yl x H7 y7;have J7':=J7.pinned (stat fr7) (T.obj _ _ st7);have hG:=hg ([]++zfp fp s7.heap) s7 Y' H7 x u _ J7' rx7 q7;rw[eP,eW,eA,eE] at hG;refine thn hG λ_ s8 ⟨Y8,H8,J8,q8⟩=>?_;have hT:=hts ([]++zfp fp s7.heap) s8 Y8 H8 _ J8 q8;rw[eP,eW,eA,eE] at hT;refine thn hT λok s9 ⟨H9,J9,q9⟩=>?_;have after:∀{σa:L2.St}{Ha:Hp}{sa:Shared},L2.Inv X' ([]++zfp fp s7.heap) σa Ha sa->tn (i+1) sa.heap/\∀ b∈fp,Ha b=none:=λ{σa Ha sa} Ja =>
    ⟨T.keep _ _ _ st7 λb hb o e=>(Ja.pin (b,o) (waz _ (waz _ (zef hb e)))).1,λb hb=>by obtain ⟨o,e,_⟩:=T.obj _ _ st7 b hb;exact (Ja.pin (b,o) (waz _ (waz _ (zef hb e)))).2.1⟩
   cases ok with
   |false =>
    rw[if_neg Bool.false_ne_true];rw[if_neg Bool.false_ne_true] at q9;obtain ⟨k1,k2⟩:=after J9;exact ⟨n-(i+1),xwo,i+1,Y8,H9,vs,J9.unpinned,k1,k2,rfl,hlt,q9.1,q9.2⟩
   |true =>
    rw[if_pos rfl];rw[if_pos rfl] at q9;have hEl:=he ([]++zfp fp s7.heap) s9 Y8 H9 _ J9 q9;rw[eP,eW,eA,eE] at hEl;refine thn hEl λxv s10 ⟨vy,H10,J10,ry,q10⟩=>?_;have hAp:=zgY (X:=X') ([]++zfp fp s7.heap) s10 Y8 H10 (.ref s2.heap.objs.size) [vy] (.ref s2.heap.objs.size) [xv] (λv H11=>H11=upd H10 s2.heap.objs.size (.lst (vs++[vy]))) J10 rfl (.cons ry .nil)
     ⟨s2.heap.objs.size,vs,vy,rfl,rfl,q10.1,q10.2.1,rfl⟩
    rw[eP,eW,eA,eE] at hAp;refine thn hAp λ_ s11 ⟨v11,H11,J11,_,e11⟩=>?_;subst e11;obtain ⟨k1,k2⟩:=after J11;exact ⟨n-(i+1),xwo,i+1,Y8,_,vs++[vy],J11.unpinned,k1,k2,rfl,hlt,zan,q10.2.2⟩
  ·have e:i=n:=by omega
   subst e;have hDn:=T.done X' eP eW eK eC i [] s' Y' H' (λ_ _=>False) J5 (stat fr5) st5 (hstop _ _ _ _ q5);rw[eA] at hDn;refine thn hDn λrr s6 ⟨hr,J6⟩=>?_;subst hr;have hl6:Y'.length=X.N.length+m:=by rw[J6.len,eN]
   obtain ⟨m6,hn6,_⟩:=id J6.loc;have eL:X'.env.locals=(nL s2).objs.size:=by rw[<- hX'];rfl
   rw[eL] at hn6;have frL:H' (nL s2).objs.size=none:=by rw[<- eL];exact J6.free
   rw[<- hX'] at J6;have IX:L2.Inv X pS Y H' s6:=zs0 (h':=s6.heap) I3 f3 (wal _) J6 ⟨rfl,λ_ _=>rfl⟩;have hLs:∀ b o,(nL s2).get? b=some o->(nL s2).objs.size≠b:=λb o e z=>absurd (wai e) (by rw[z];exact waL _);have lo:zn3 X pS H' (nL s2).objs.size s6:=by
    refine ⟨frL,λz=>?_,.inr I3.sz,λx c e z=>?_,λp hp z=>?_,m6,hn6⟩
    ·exact absurd I3.lt (by rw[<- z];exact waL _)
    ·obtain ⟨v,q⟩:=I3.cell x c e;exact absurd q.lt (by rw[z];exact waL _)
    ·exact hLs p.1 p.2 (I3.pin p hp).1 z.symm
   exact fin _ _ s6 vs Y' H' IX lo hD hd5 hl6 q5
 have envEq:X'.env=compEnvC scope cl (nL s2).objs.size X.env:=by rw[<- hX'];rfl
 rw[envEq] at loop;exact codeAny_compStart_list (loop _ rfl) (T.self X.A 0 _ _ _ st4 (loop _ rfl))
theorem zpx{tg iter elt:Expr}{ifs:List Expr}{scope:Scope}{pos:Pos}{N':List Str}{m:Nat}{g:DG}{ft:DT}{fe:De}(hc:X.calm=true)(hb:zfC X.N N' scope.names m=true)
  (hkind:scope.kind=.function) (hcell:Hce scope) (hfr:Hfr X scope)
  (hblk:Hbk X C N' scope tg ifs elt g ft fe)
  {pS:List (Addr×Obj)} {Y:L2.St} {s2:Shared} {cl:List (Str×Addr)} {RR:Value->Addr->Result->Shared->Prop} {E:Value->Shared->Prop}
  (hcl:∀ x c,cl.lookup x=some c->X.env.cells.lookup x=some c) (hcf:∀ y∈scope.names,y.2=.free->∃ c,cl.lookup y.1=some c)
  {it:Addr} {fp:List Addr} {tn:Nat->Heap->Prop} {J:It} {H2:Hp} (I2:L2.Inv X pS Y H2 s2) (T:zpq X.prog X.w X.K tg J fp it tn) (st2:tn 0 s2.heap) (f2:∀ b∈fp,zhO X pS H2 b)
  {ds zs:List Dt} {Z1 ρf:Ev} {G1:Hp} {w1:Wn} (r1:Rel X.K C G1 w1 Z1 Y H2) (Ko:Ev->Prop) (k0:Ko (Z1++List.replicate m none)) (hko:∀ d Z Z3 b Z4,Ko Z->g d Z=.ok Z3->ft Z3=.ok (b,Z4)->Ko Z4/\∀ y Z5,fe Z4=.ok (y,Z5)->Ko Z5)
  (it1:∀ i Z' G' w' Y' H',Rel X.K (zfW C X.N.length G1 H2 w1 (Y++List.replicate m none)) G' w' Z' Y' H'->Ko Z'->(∀ d,ds[i]? = some d->J.go i H'/\∀ x H7,J.yld i H' x H7->∃ G7,zeh G' H' G7 H7/\Rep X.K G7 d x)/\(ds.length<=i->J.stop i H')) (hfi:zdC ds=true) (ec:zb5 g ft fe ds (Z1++List.replicate m none)=.ok (zs,ρf))
  (fin:∀(D L:Addr)(s':Shared)(vs:List V)(G' H':Hp)(w':Wn),L2.Inv X pS Y H' s'->zn3 X pS H' L s'->zbu G1 H2 w1 G' H' w'->Rel X.K C G' w' (ρf.take Z1.length) Y H'->H2 D=none->H' D=some (.lst vs)->G' D=none->w' D=none->za1 X.K G' zs vs->RR (.ref D) L (.ok .next) s') :
  wpAny (model X.prog X.w) X.A (newList []) (λacc s₃=>wpAny (model X.prog X.w) X.A (newFunctionEnv scope X.env.globals cl [] X.env.qual none .none (some X.env)) (λcenv s₄ =>
   codeAny (model X.prog X.w) X.A (.compStart (.ListComp elt [⟨tg,iter,ifs,0⟩] scope pos) 0 (.ref it) acc { cenv with scope:=relabel scope X.env }) (RR acc cenv.locals) s₄) E s₃) E s2:=by
 generalize hC':zfW C X.N.length G1 H2 w1 (Y++List.replicate m none)=C' at it1;have c0:C'.H₀=H2:=by rw[<- hC'];rfl
 have hlenσ:Y.length=X.N.length:=I2.len;refine zlN (iter:=iter) (pos:=pos) (n:=ds.length) (tgt:=tG X.K C' g) (tts:=tT X.K C' ft) (te:=tE X.K C' fe) hc hb hkind hcell hfr (λL s H fp _ _ _=>by
  obtain ⟨a1,a2,a3⟩:=hblk cl L s H fp G1 H2 w1 (Y++List.replicate m none);rw[hC'] at a1 a2 a3;exact ⟨a1,a2,a3⟩) hcl hcf I2 T st2 f2
  (λD i Y' H' vs=>∃ Z' G' w' ac,Rel X.K C' G' w' Z' Y' H'/\G' D=none/\w' D=none/\za1 X.K G' ac vs/\ac.length<=i/\Ko Z'/\∃ z,zb5 g ft fe (ds.drop i) Z'=.ok z/\ac++z.1=zs/\z.2 = ρf) (λD hD=>?_) (λD i Y' H' vs hD ⟨Z',G',w',ac,r5,gd5,wd5,q5,hac,ko,z,ez,ez1,ez2⟩ hd5 hlt=>?_) (λD Y' H' vs ⟨Z',G',w',ac,r5,_,_,_,_,ko,_⟩=>(it1 _ _ _ _ _ _ r5 ko).2 (wal _)) λD L s' vs Y' H' IX lo hD hd5 hl6 ⟨Z',G',w',ac,r5,gd5,wd5,q5,hac,_,z,ez,ez1,ez2⟩=>?_
 ·have w0:w1 D=none:=by
   cases q:w1 D with
   |none=>rfl
   |some k=>exact absurd hD (r1.wh _ (by rw[q];simp))
  have base:Rel X.K C' G1 w1 (Z1++List.replicate m none) (Y++List.replicate m none) H2:=by
   refine ⟨r1.gh,r1.wg,r1.wh,by simp[r1.len],λi b e=>?_,by rw[<- hC'];exact .refl _ _ _,λi _=>by rw[<- hC'];rfl⟩;have hi':i < Z1.length:=by
    by_cases hi':i < Z1.length
    ·exact hi'
    ·rw[List.getElem?_append_right xwo,List.getElem?_replicate] at e;split at e <;> cases e
   rw[List.getElem?_append_left hi'] at e;obtain ⟨v,h1,h2⟩:=r1.sl i b e;exact ⟨v,by rw[List.getElem?_append_left (by rw[<- r1.len];exact hi')];exact h1,h2⟩
  exact ⟨Z1++List.replicate m none,G1,w1,[],base.upd_new (r1.gh.free hD) w0 (by rw[c0];exact hD),r1.gh.free hD,w0,za1.nil,Nat.zero_le _,k0,(zs,ρf),by simpa using ec,xws,rfl⟩
 ·have ed:ds.drop i=ds[i]::ds.drop (i+1):=List.drop_eq_getElem_cons hlt;obtain ⟨go,yl⟩:=(it1 i _ _ _ _ _ r5 ko).1 ds[i] (by simp[hlt]);refine ⟨go,λx H7 y7=>?_⟩;obtain ⟨G7,gr,rep7⟩:=yl x H7 y7;have keep7:=(gr.step (w:=w')).keep gd5 wd5 hd5;rw[ed] at ez;unfold zb5 at ez;obtain ⟨Z3,e3,ez⟩:=zcP ez;obtain ⟨t4,e4,ez⟩:=zcP ez;obtain ⟨b4,Z4⟩:=t4;obtain ⟨ko4,ko5⟩:=hko _ _ _ _ _ ko e3 e4;refine ⟨G7,w',Z',ds[i],r5.grow gr,rep7,?_⟩;rw[e3];intro Y8 G8 H8 w8 s8s r8;have keep8:=s8s.keep keep7.1 keep7.2.1 keep7.2.2;refine ⟨G8,w8,Z3,r8,?_⟩;rw[e4];intro G9 H9 w9 s9s r9;have keep9:=s9s.keep keep8.1 keep8.2.1 keep8.2.2;have sg9:=(gr.g.trans s8s.g).trans s9s.g;cases b4 with
  |false =>
   show (if false=true then _ else _);rw[if_neg Bool.false_ne_true];simp only[Bool.false_eq_true,if_false] at ez;exact ⟨keep9.2.2,Z4,G9,w9,ac,r9,keep9.1,keep9.2.1,q5.same sg9,xwo,ko4,z,ez,ez1,ez2⟩
  |true =>
   show (if true=true then _ else _);rw[if_pos rfl];simp only[if_true] at ez;obtain ⟨⟨yd,Z10⟩,e10,ez⟩:=zcP ez;obtain ⟨z',ez',ez3⟩:=zcP ez;refine ⟨G9,w9,Z4,r9,?_⟩;rw[e10];intro v G10 H10 w10 s10s r10 q10;have keep10:=s10s.keep keep9.1 keep9.2.1 keep9.2.2;cases ez3;refine ⟨keep10.2.2,?_,Z10,G10,w10,ac++[yd],r10.upd_new keep10.1 keep10.2.1 (by rw[c0];exact hD),keep10.1,keep10.2.1,(q5.same (sg9.trans s10s.g)).append (za1.cons q10 za1.nil),by simp;omega,ko5 _ _ e10,z',ez',by rw[<- ez1];simp,ez2⟩;have:=q5.length;have:=zgV hfi;omega
 ·simp only[List.drop_length] at ez;unfold zb5 at ez;cases ez;simp only[List.append_nil] at ez1;subst ez1;subst ez2;have cG:C'.G₀=G1:=by rw[<- hC'];rfl
  have cw:C'.w₀=w1:=by rw[<- hC'];rfl
  have en':zbu G1 H2 w1 G' H' w':=by have:=r5.en;rw[cG,c0,cw] at this;exact this
  have hρlen:Z'.length=X.N.length+m:=by rw[r5.len,hl6]
  refine fin _ _ s' vs G' H' w' IX lo en' ⟨r5.gh,r5.wg,r5.wh,?_,λi b e=>?_,r1.en.trans en',r1.pin⟩ hD hd5 gd5 wd5 q5
  ·rw[List.length_take,hρlen,r1.len,hlenσ];omega
  ·have hi':i < Z1.length:=by
    by_cases hi':i < Z1.length
    ·exact hi'
    ·rw[List.getElem?_eq_none (by rw[List.length_take];omega)] at e;cases e
   rw[List.getElem?_take_of_lt hi'] at e;obtain ⟨v,h1,h2⟩:=r5.sl i b e;refine ⟨v,?_,h2⟩;have hpi:=r5.pin i (by rw[<- hC'];exact List.mem_range.mpr (by rw[<- hlenσ,<- r1.len];exact hi'));rw[h1] at hpi;rw[<- hC'] at hpi;have hpi':some (some v)=(Y++List.replicate m none)[i]? := hpi;rw[List.getElem?_append_left (by rw[<- r1.len];exact hi')] at hpi';exact hpi'.symm
theorem zjU{tg iter elt:Expr}{ifs:List Expr}{scope:Scope}{pos:Pos}{N':List Str}{m:Nat}{g:DG}{ft:DT}{fe:De}(hc:X.calm=true)(hb:zfC X.N N' scope.names m=true)
  (hkind:scope.kind=.function) (hcell:Hce scope) (hfr:Hfr X scope)
  (hblk:Hbk X C N' scope tg ifs elt g ft fe)
  {pS:List (Addr×Obj)} {Y:L2.St} {s2:Shared} {cl:List (Str×Addr)} {RR:Value->Addr->Result->Shared->Prop} {E:Value->Shared->Prop}
  (hcl:∀ x c,cl.lookup x=some c->X.env.cells.lookup x=some c) (hcf:∀ y∈scope.names,y.2=.free->∃ c,cl.lookup y.1=some c)
  {it:Addr} {fp:List Addr} {tn:Nat->Heap->Prop} {J:It} {H2:Hp} (I2:L2.Inv X pS Y H2 s2) (T:zpq X.prog X.w X.K tg J fp it tn) (st2:tn 0 s2.heap) (f2:∀ b∈fp,zhO X pS H2 b)
  {ds zs:List Dt} {Z1 ρf:Ev} {G1:Hp} {w1:Wn} (r1:Rel X.K C G1 w1 Z1 Y H2) (it1:zne X.K J G1 ds) (hfi:zdC ds=true) (ec:zb5 g ft fe ds (Z1++List.replicate m none)=.ok (zs,ρf))
  (fin:∀(D L:Addr)(s':Shared)(vs:List V)(G' H':Hp)(w':Wn),L2.Inv X pS Y H' s'->zn3 X pS H' L s'->zbu G1 H2 w1 G' H' w'->Rel X.K C G' w' (ρf.take Z1.length) Y H'->H2 D=none->H' D=some (.lst vs)->G' D=none->w' D=none->za1 X.K G' zs vs->RR (.ref D) L (.ok .next) s') :
  wpAny (model X.prog X.w) X.A (newList []) (λacc s₃=>wpAny (model X.prog X.w) X.A (newFunctionEnv scope X.env.globals cl [] X.env.qual none .none (some X.env)) (λcenv s₄ =>
   codeAny (model X.prog X.w) X.A (.compStart (.ListComp elt [⟨tg,iter,ifs,0⟩] scope pos) 0 (.ref it) acc { cenv with scope:=relabel scope X.env }) (RR acc cenv.locals) s₄) E s₃) E s2 :=
 zpx hc hb hkind hcell hfr hblk hcl hcf I2 T st2 f2 r1 (λ_=>True) trivial (λ_ _ _ _ _ _ _ _=>⟨trivial,λ_ _ _=>trivial⟩) (λi Z' G' w' Y' H' r _=>it1 i G' H' r.en.g r.gh) hfi ec fin
theorem zdy{tg iter elt:Expr}{ifs:List Expr}{scope:Scope}{pos:Pos}{N':List Str}{m:Nat}{fi:DA}{g:DG}{ft:DT}{fe:De}(hi:JI X C tg iter fi)(hc:X.calm=true)(hb:zfC X.N N' scope.names m=true)
  (hkind:scope.kind=.function) (hcell:Hce scope) (hfr:Hfr X scope) (hnames:Hnm scope)
  (hblk:Hbk X C N' scope tg ifs elt g ft fe)
  (hs:∀ x,foldedSetIterable iter X.env x=pure x:=by intro _;rfl):JN X C (.ListComp elt [⟨tg,iter,ifs,0⟩] scope pos) (zaY fi g ft fe m):=by
 intro pS s Y H Q I ⟨G,w,Z,r,p⟩;rw[eval_ListComp];obtain ⟨cl,hclos,hcl,hcf⟩:=zee (scope:=scope) (env:=X.env) λy hy hf=>I.ok.has y.1 (hfr y hy hf);refine wpAny_comprehension_free (use:=none) rfl hs hclos hkind hnames ?_;refine thn (hi pS s Y H (λJ H2=>∃ ds Z1 G1 w1 zs ρf,Rel X.K C G1 w1 Z1 Y H2/\zne X.K J G1 ds/\zdC ds=true/\zb5 g ft fe ds (Z1++List.replicate m none)=.ok (zs,ρf)/\kN X.K C Y Q G1 H2 w1 (zs,ρf.take Z1.length)) I ?_) λv s1 h1=>thn h1 λitv s2 h2=>?_
 ·refine zv6 (κ:=λG H w=>kN X.K C Y Q G H w) zf9 r p λds Z1 J G1 H1 w1 r1 st1 it1 p1=>?_;dsimp only at p1;split at p1
  ·rename_i hfi;split at p1
   ·rename_i z ez;exact ⟨ds,Z1,G1,w1,z.1,z.2,r1,it1,hfi,ez,p1⟩
   ·exact p1.elim
  ·exact p1.elim
 obtain ⟨it,fp,tn,J,H2,rfl,I2,T,st2,f2,ds,Z1,G1,w1,zs,ρf,r1,it1,hfi,ec,kk⟩:=h2;refine zjU (RR:=λacc C=>compPost (model X.prog X.w) X.A X.xe none (EP X pS Y Q) acc C) hc hb hkind hcell hfr hblk hcl hcf I2 T st2 f2 r1 it1 hfi ec λD L s' vs G' H' w' I' lo st rel h0 h1 h2 h3 q=>?_;obtain ⟨mm,hn⟩:=lo.ns;refine ⟨mm,hn,λh' hsb=>⟨.ref D,H',?_,rfl,kk D vs G' H' w' st rel h0 h1 h2 h3 q⟩⟩;exact I'.turned (t':=s'.toks) (λb o hb e=>(hsb.2 b hb).trans e) lo.fr lo.nl lo.nw lo.nc lo.np
theorem zpI{tg iter elt:Expr}{ifs:List Expr}{scope:Scope}{pos spos:Pos}{N':List Str}{m i:Nat}{x:Str}{px:Pos}{fi:DA}{g:DG}{ft:DT}{fe:De}{fs:List Dt×Ev->R (Fl×Ev)}(hi:JI X C tg iter fi)(hc:X.calm=true)(hb:zfC X.N N' scope.names m=true)
  (hkind:scope.kind=.function) (hcell:Hce scope) (hfr:Hfr X scope) (hnames:Hnm scope)
  (hblk:Hbk X C N' scope tg ifs elt g ft fe)
  (hN:X.N.Nodup) (hix:X.N[i]? = some x) (hx:Loc X.env.scope x) (hsw:swapsWith (.ListComp elt [⟨tg,iter,ifs,0⟩] scope pos) (some (.Name x px)) spos.line X.env=pure true) (hf:X.fn x=true\/X.env.scope.names.lookup x=some .local)
  (hfs:∀(D:zru)(G1 H2 G' H':Hp)(w1 w':Wn)(Y:L2.St)(p:Addr)(zs:List Dt)(vs:List V)(ρf:Ev),zcm C.ex (kS X.K C D G1 H2 w1) (fs (zs,ρf))->zbu G1 H2 w1 G' H' w'->Rel X.K C G' w' ρf Y H'->H2 p=none->H' p=some (.lst vs)->G' p=none->w' p=none->za1 X.K G' zs vs->C.H₀ p=none->D.nx (Y.set i (some (.ref p))) H')
  (hs:∀ x,foldedSetIterable iter X.env x=pure x:=by intro _;rfl):JS X C (.Assign [.Name x px] (.ListComp elt [⟨tg,iter,ifs,0⟩] scope pos) spos) (λZ=>(zaY fi g ft fe m Z).bind fs):=by
 intro pS s Y H D I ⟨G,w,Z,r,p⟩;obtain ⟨cl,hclos,hcl,hcf⟩:=zee (scope:=scope) (env:=X.env) λy hy hf=>I.ok.has y.1 (hfr y hy hf);rw[exec_Assign_Name_used _ _ _ _ hsw];refine wab (wpAny_standAt (wab ?_));show wpAny _ X.A (do let _ <- comprehension (.ListComp elt [⟨tg,iter,ifs,0⟩] scope pos) scope X.env _ (newList []) false (eval iter X.env) (some (assign (.Name x px) X.env))) _ _ s;refine wab (wpAny_mono (wpAny_comprehension_free (use:=some (assign (.Name x px) X.env)) (Q:=λ_ s'=>SP X pS D .next s') rfl hs hclos hkind hnames ?_) (λ_ s' hq=>wad (wad hq)) λ_ _ e=>e);refine thn (hi pS s Y H (λJ H2=>∃ ds Z1 G1 w1 zs ρf,Rel X.K C G1 w1 Z1 Y H2/\zne X.K J G1 ds/\zdC ds=true/\zb5 g ft fe ds (Z1++List.replicate m none)=.ok (zs,ρf)/\zcm C.ex (kS X.K C D G1 H2 w1) (fs (zs,ρf.take Z1.length))) I ?_) λv s1 h1=>thn h1 λitv s2 h2=>?_
 ·have p':zcm C.ex (kS X.K C D G H w) ((fi Z).bind λa=>((if zdC a.1=true then match zb5 g ft fe a.1 (a.2++List.replicate m none) with
   |.ok z=>.ok (z.1,z.2.take a.2.length)
   |_=>.no
   else .no:R (List Dt×Ev))).bind fs):=by
   rw[<- R.bind_assoc];exact p
  refine zv6 (κ:=λG H w=>kS X.K C D G H w) zdT r p' λds Z1 J G1 H1 w1 r1 st1 it1 p1=>?_;dsimp only at p1;split at p1
  ·rename_i hfi;split at p1
   ·rename_i z ez;exact ⟨ds,Z1,G1,w1,z.1,z.2,r1,it1,hfi,ez,p1⟩
   ·exact waO p1
  ·exact waO p1
 obtain ⟨it,fp,tn,J,H2,rfl,I2,T,st2,f2,ds,Z1,G1,w1,zs,ρf,r1,it1,hfi,ec,kk⟩:=h2;refine zjU (RR:=λacc C=>compPost (model X.prog X.w) X.A X.xe (some (assign (.Name x px) X.env)) (λ_ s'=>SP X pS D .next s') acc C) hc hb hkind hcell hfr hblk hcl hcf I2 T st2 f2 r1 it1 hfi ec λDa L s' vs G' H' w' I' lo st rel h0 h1 h2 h3 q=>?_;show wpAny _ X.A (assign (.Name x px) X.env (.ref Da)) _ _ _;refine wpAny_assign_Name (zhd I' hN hix hx (v:=.ref Da) rfl (λs'' I'' hch=>?_) hf);obtain ⟨mm,hn⟩:=lo.ns;obtain ⟨a,sb,ha⟩:=hch;have hLa:L≠a:=by
  rcases ha with z|z
  ·rw[z];exact lo.nl
  ·exact λy=>lo.nc x a z y.symm
 refine ⟨mm,hn.sameBut sb hLa,λh' hsb=>⟨Y.set i (some (.ref Da)),H',?_,hfs D G1 H2 G' H' w1 w' Y Da zs vs _ kk st rel h0 h1 h2 h3 q (r1.en.k Da h0)⟩⟩;exact I''.turned (t':=s''.toks) (λb o hb e=>(hsb.2 b hb).trans e) lo.fr lo.nl lo.nw lo.nc lo.np
theorem zfy{tg iter elt:Expr}{ifs:List Expr}{scope:Scope}{pos spos:Pos}{N':List Str}{m i:Nat}{x:Str}{px:Pos}{fi:DA}{g:DG}{ft:DT}{fe:De}(hN:X.N.Nodup)(hix:X.N[i]? = some x)(hx:Loc X.env.scope x)(hp:i∉C.pp)(hi:JI X C tg iter fi)(hc:X.calm=true)(hb:zfC X.N N' scope.names m=true)
  (hkind:scope.kind=.function) (hcell:Hce scope) (hfr:Hfr X scope) (hnames:Hnm scope)
  (hblk:Hbk X C N' scope tg ifs elt g ft fe)
  (hsw:swapsWith (.ListComp elt [⟨tg,iter,ifs,0⟩] scope pos) (some (.Name x px)) spos.line X.env=pure true:=by rfl) (hf:X.fn x=true\/X.env.scope.names.lookup x=some .local:=by exact xwA)
  (hs:∀ x,foldedSetIterable iter X.env x=pure x:=by intro _;rfl):JS X C (.Assign [.Name x px] (.ListComp elt [⟨tg,iter,ifs,0⟩] scope pos) spos) (zbc i (dFz (zaY fi g ft fe m))):=by
 have h:=zpI (fs:=λa=>if i<a.2.length then .ok (.nx,a.2.set i (some (.val (.lst a.1)))) else .no) hi hc hb hkind hcell hfr hnames hblk hN hix hx hsw hf (λD G1 H2 G' H' w1 w' Y p zs vs ρf po st rel h0 h1 h2 h3 q h4=>?_) hs
 ·refine PS.weak h λD Y H t=>?_;obtain ⟨G,w,Z,r,p⟩:=t;refine ⟨G,w,Z,r,?_⟩;unfold zbc dFz at p;rw[R.bind_assoc] at p;exact p
 ·by_cases hl:i < ρf.length
  ·simp only[hl,if_true] at po;obtain ⟨r',s'⟩:=rel.know h1 h2 h3 H2 G1 w1 st h0 (.inl h4);have sg:zbR G' (upd G' p (.lst vs)):=λb u e=>by rw[zag (zah e h2)];exact e
   exact po _ _ _ _ s' (r'.setVal hl hp (by unfold Rep;exact ⟨p,vs,rfl,zan,q.same sg⟩))
  ·simp only[hl,if_false] at po;exact waO po
end
section
variable{X:Cx}{C:Cn}{a b c e:Expr}{fa fb fc:De}{pos:Pos}
theorem zmy{r r':R2}{g g':Dt->Dt->R Dt}{Y:L2.St}{H:Hp}{Q:VK}(h2:Op2 X.K r g)(he:zhN g)(h2':Op2 X.K r' g')(he':zhN g')(h:tE X.K C (zjo g g' fa fb fc) Y H Q):zrp r r' (tE X.K C fa) (tE X.K C fb) (tE X.K C fc) Y H Q:=by
 obtain ⟨G,w,Z,rr,p⟩:=h;refine zdE (κ:=λG H w=>kE X.K C Y Q G H w) zbI rr p λd Z1 v G1 H1 w1 r1 s1 q1 p1=>?_;refine zdE (κ:=λG H w=>kE X.K C Y Q G H w) zbI r1 p1 λd2 Z2 v2 G2 H2 w2 r2 s2 q2 p2=>?_;dsimp only at p2;cases e:g d d2 with
 |ok z =>
  simp only[e,R.bind_ok] at p2;refine h2 G2 H2 v v2 d d2 z _ r2.gh (q1.same s2.g) q2 e λv3 G3 H3 gr q3=>?_;have p3:=zcm.step (κ:=λG H w=>kE X.K C Y Q G H w) zbI gr.step (w1:=w2) p2;have r3:=r2.grow gr;cases z with
  |bl k =>
   refine ⟨k,zcJ q3,?_⟩;cases k with
   |false=>exact iteF (p3 _ G3 H3 w2 (.refl _ _ _) r3 (zbK _))
   |true =>
    refine iteT ?_;refine zdE (κ:=λG H w=>kE X.K C Y Q G H w) zbI r3 p3 λd4 Z4 v4 G4 H4 w4 r4 s4 q4 p4=>?_;dsimp only at p4;cases e':g' d2 d4 with
    |ok z' =>
     simp only[e',R.bind_ok] at p4;exact h2' G4 H4 v2 v4 d2 d4 z' Q r4.gh ((q2.same gr.g).same s4.g) q4 e' λv5 G5 H5 gr5 q5=>p4 v5 G5 H5 w4 gr5.step (r4.grow gr5) q5
    |er n=>exact absurd e' (he' _ _ _)
    |no=>simp only[e',R.bind_no] at p4;exact p4.elim
  |_=>exact waO p3
 |er n=>exact absurd e (he _ _ _)
 |no=>simp only[e,R.bind_no] at p2;exact p2.elim
theorem zqj{op op':CmpOp}{r r':R2}{g g':Dt->Dt->R Dt}(ho:OpR X (compareOp op) r)(h2:Op2 X.K r g)(hn:zhN g)(ho':OpR X (compareOp op') r')(h2':Op2 X.K r' g')(hn':zhN g')(ha:JE X C a fa)(hb:JE X C b fb)(hc:JE X C c fc)
  (hm:lastMarks [op,op'] [b,c]=false:=by with_unfolding_all rfl):JE X C (.Compare a [op,op'] [b,c] pos) (zjo g g' fa fb fc):=PE.weak (zpu ho ho' ha hb hc hm) λY H Q h=>zmy h2 hn h2' hn' h
def kO(K:W.Frag)(C:Cn)(Y:L2.St)(Q:Option Int->Hp->Prop)(G H:Hp)(w:Wn)(a:Option Int×Ev):Prop :=
 ∀ G' H' w',zbu G H w G' H' w'->Rel K C G' w' a.2 Y H'->Q a.1 H'
abbrev DO:=Ev->R (Option Int×Ev)
def tOd(K:W.Frag)(C:Cn)(f:DO):TO:=λY H Q=>∃ G w Z,Rel K C G w Z Y H/\zcm C.ex (kO K C Y Q G H w) (f Z)
abbrev JO(X:Cx)(C:Cn)(e:Option Expr)(f:DO):Prop:=PO X e (tOd X.K C f)
theorem PO.weak{e:Option Expr}{t t':TO}(h:PO X e t)(k:∀ Y H Q,t' Y H Q->t Y H Q):PO X e t':=λpS s Y H Q I q=>h pS s Y H Q I (k Y H Q q)
def dO0:DO:=λZ=>.ok (none,Z)
def dO1(fa:De):DO:=λZ=>(fa Z).bind λa=>match a.1 with
 |.int i=>.ok (some i,a.2)
 |_=>.no
theorem zwb{K:W.Frag}{Y:L2.St}{Q:Option Int->Hp->Prop}:Stp (λG H w=>kO K C Y Q G H w):=λ_ _ _ _ _ _ _ s k G' H' w' s'=>k G' H' w' (s.trans s')
theorem zeR:JO X C none dO0:=PO.weak zth λY H Q ⟨G,w,Z,r,p⟩=>p G H w (.refl _ _ _) r
theorem zeL(h:JE X C a fa):JO X C (some a) (dO1 fa):=PO.weak (zsT h) λY H Q ⟨G,w,Z,r,p⟩=>by
 refine zdE (κ:=λG H w=>kO X.K C Y Q G H w) zwb r p λd Z1 v G1 H1 w1 r1 s1 q1 p1=>?_;cases d with
 |int i=>exact ⟨i,za6 q1,p1 G1 H1 w1 (.refl _ _ _) r1⟩
 |_=>exact p1.elim
theorem zv8{K:W.Frag}{Y:L2.St}{α:Type}{κ:zqH α}(st:Stp κ){G H:Hp}{w:Wn}{Z:Ev}{fa:DO}{g:Option Int×Ev->R α}{Q:Option Int->Hp->Prop}(r:Rel K C G w Z Y H)(p:zcm C.ex (κ G H w) ((fa Z).bind g))
  (k:∀ o Z1 G1 H1 w1,Rel K C G1 w1 Z1 Y H1->zbu G H w G1 H1 w1->zcm C.ex (κ G1 H1 w1) (g (o,Z1))->Q o H1):tOd K C fa Y H Q:=by
 refine ⟨G,w,Z,r,?_⟩;cases e:fa Z with
 |ok a =>
  rw[e] at p;intro G' H' w' s' r';exact k a.1 a.2 G' H' w' r' s' (zcm.step st s' p)
 |er n=>rw[e] at p;exact p
 |no=>rw[e] at p;exact p
def zhj{α:Type}(xs:List α)(lo hi:Option Int):List α:=(xs.drop (HT.sIx xs.length 0 lo)).take (HT.sIx xs.length xs.length hi-HT.sIx xs.length 0 lo)
theorem zlA{K:W.Frag}{G:Hp}{ds:List Dt}{vs:List V}(h:za1 K G ds vs)(lo hi:Option Int):za1 K G (zhj ds lo hi) (znf vs lo hi):=by unfold zhj znf;rw[<- h.length];exact (h.drop _).take _
def zmL(fa:De)(fl fh:DO):DN:=λZ=>(fa Z).bind λa=>(fl a.2).bind λl=>(fh l.2).bind λh=>match a.1 with
 |.lst ds=>.ok (zhj ds l.1 h.1,h.2)
 |_=>.no
theorem zg7{K:W.Frag}{Y:L2.St}{G H:Hp}{w:Wn}{Z:Ev}{p:Addr}(r:Rel K C G w Z Y H)(hp:H p=none):w p=none:=by
 cases z:w p with
 |none=>rfl
 |some k=>exact absurd hp (r.wh p (by rw[z];simp))
theorem zlL{lo hi:Option Expr}{fl fh:DO}{p2:Pos}(ha:JE X C a fa)(hl:JO X C lo fl)(hh:JO X C hi fh):JN X C (.Subscript a (.Slice lo hi none p2) pos) (zmL fa fl fh) :=
 PE.weak (zlE zs2 ha hl hh) λY H Q ⟨G,w,Z,r,p⟩=>by
  refine zdE (κ:=λG H w=>kN X.K C Y Q G H w) zf9 r p λd Z1 v G1 H1 w1 r1 s1 q1 p1=>?_;refine zv8 (κ:=λG H w=>kN X.K C Y Q G H w) zf9 r1 p1 λl Z2 G2 H2 w2 r2 s2 p2=>?_;refine zv8 (κ:=λG H w=>kN X.K C Y Q G H w) zf9 r2 p2 λh Z3 G3 H3 w3 r3 s3 p3=>?_;cases d with
  |lst ds =>
   obtain ⟨ad,vs,rfl,h1,h2⟩:=zaJ (q1.same (s2.g.trans s3.g));refine ⟨ad,vs,rfl,SqL.of (r3.gh _ _ h1),λp hp=>?_⟩;have gr:zeh G3 H3 G3 (upd H3 p (.lst (znf vs l h))):=.newH r3.gh hp;exact p3 p _ G3 _ w3 gr.step (r3.grow gr) hp zan (r3.gh.free hp) (zg7 r3 hp) (zlA h2 l h)
  |_=>exact p3.elim
def zhk(fa:De):DN:=λZ=>(fa Z).bind λa=>match a.1 with
 |.lst ds=>.ok (ds.reverse,a.2)
 |_=>.no
theorem zu5{k1:Nat}{p1 p2 p3:Pos}(ha:JE X C a fa):JN X C (.Subscript a (.Slice none none (some (.UnaryOp .USub (.Constant (.int 1) k1 p1) p2)) p3) pos) (zhk fa):=by
 intro pS s Y H Q I ⟨G,w,Z,r,p⟩;refine PyProof.Rows.Subscript_ (thn (ha pS s Y H (λx H1=>∃ ad vs,x=.ref ad/\SqL X.K H1 ad vs/\∀ p,H1 p=none->Q (.ref p) (upd H1 p (.lst vs.reverse))) I ?_) λv s1 ⟨x,H1,I1,r1,ad,vs,ex,hx,q1⟩=>?_)
 ·refine zdE (κ:=λG H w=>kN X.K C Y Q G H w) zf9 r p λd Z1 v G1 H1 w1 r1 s1 q1 p1=>?_;cases d with
  |lst ds =>
   obtain ⟨ad,vs,rfl,h1,h2⟩:=zaJ q1;refine ⟨ad,vs,rfl,SqL.of (r1.gh _ _ h1),λp hp=>?_⟩;have gr:zeh G1 H1 G1 (upd H1 p (.lst vs.reverse)):=.newH r1.gh hp;exact p1 p _ G1 _ w1 gr.step (r1.grow gr) hp zan (r1.gh.free hp) (zg7 r1 hp) h2.reverse
  |_=>exact p1.elim
 subst ex;cases r1;obtain ⟨its,rv,ht,hz⟩:=I1.list hx;have hlen:=rv.length;refine wpAny_Slice (evalPart_none_step (evalPart_none_step (evalPart_some_step (thn (zvc (a:=.Constant (.int 1) k1 p1) (pos:=p2) zrq zrB pS s1 Y H1 (λx H2=>x=.int (-1)/\H2=H1) I1 ⟨1,rfl,rfl,rfl⟩) λvk s2 ⟨y,H2,I2,r2,ey,eH⟩=>?_))));subst ey;subst eH;obtain ⟨t,rfl⟩:=r2;have I4:L2.Inv X pS Y H2 { s2 with heap:=s2.heap.push { cls:=.type "slice",data:=.fields #[.none,.none,.int (-1) t] } }:=I2.kept (t':=s2.toks) λb ob q=>waa _ q;obtain ⟨its4,rv4,ht4,_⟩:=I4.list hx;have hlen4:=rv4.length;show wpAny (model X.prog X.w) X.A (PyProof.Rows.subscriptTail a (.Slice none none (some (.UnaryOp .USub (.Constant (.int 1) k1 p1) p2)) p3) (.ref ad) (.ref s2.heap.objs.size)) (EP X pS Y Q) X.xe { s2 with heap:=s2.heap.push { cls:=.type "slice",data:=.fields #[.none,.none,.int (-1) t] } };refine PyProof.Rows.tail_any (ops:=[.ref ad,.ref s2.heap.objs.size]) ht4.isList.typeIs slot_list_getitem.lookup ?_ (by with_unfolding_all rfl);refine wpAny_getItem_list_slice ht4.isList (Heap.IsSliceOf.new ..) .none .none (.int _ _) xwd ?_ (by rw[List.size_toArray] <;> omega);rw[W.krv_pick];refine ⟨.ref _,_,I4.laid (t':=s2.toks) (o:=.lst vs.reverse) (λb ob q=>waa _ q) (wal _) ?_,rfl,q1 _ (I4.hok.fresh (wal _))⟩;exact ⟨by rw[List.length_reverse];exact hz,its4.reverse,0,rv4.reverse,waj (o:={ cls:=.type "list",data:=.seq its4.toArray.toList.reverse.toArray }) _ rfl⟩
end
structure Dfn(nw:Bool)(P:Program)(w:World)(K:W.Frag)(mg:Str->Option Value)(base:Heap)(CX:CXT)(xv:Nat->Value)(k:Nat)(x:Str)(ks:List Bool)(F:FD):Prop where
 ex:∃(f:Addr)(fd:FuncData)(ps:List Str),zff P w K mg base CX k f fd ps (zsq nw K xv ks F)/\mg x=some (.ref f)/\W.keepIn K (.ref f)=true/\zf2 K fd ps []/\∀ bs,F bs≠.no->zbX bs=ks
theorem Dfn.mono{nw:Bool}{P:Program}{w:World}{K:W.Frag}{mg:Str->Option Value}{base:Heap}{CX:CXT}{xv:Nat->Value}{k k':Nat}{x:Str}{ks:List Bool}{F:FD}(D:Dfn nw P w K mg base CX xv k x ks F)(h:k<=k'):Dfn nw P w K mg base CX xv k' x ks F:=by obtain ⟨f,fd,ps,h1,h2⟩:=D.ex;exact ⟨f,fd,ps,h1.mono h,h2⟩
section
variable{X:Cx}{C:Cn}{CX:CXT}{k k':Nat}{ks:List Bool}{Fd:FD}{x:Str}{p pos:Pos}{e:Expr}{es:List Expr}{far:DAr}
theorem zaK(D:Dfn false X.prog X.w X.K X.mg X.base CX C.xv k x ks Fd)(hr:zdD k' X.A)(hk:k<=k')(hx:zcW CX X (EXc C))(ha:JAr X C (e::es) far)(hg:Gl X x:=by rfl)(hdb:(x == ("__debug__" : Str))=false:=by decide)(he:starEach (e::es) X.env=(false,eval e X.env)::starEach es X.env:=by rfl)
  (hpl:(backTo pos (starEach es X.env)).any (·.1)=false:=by rfl):JE X C (.Call (.Name x p) (e::es) [] pos) (zaj Fd far):=by
 obtain ⟨f,fd,ps,h1,h2,h3,h4,h5⟩:=D.ex;exact ztp h1 (hr.mono hk) hg h2 h3 h4 hx h5 ha hdb he hpl
end
section
variable{X:Cx}{C:Cn}{CX:CXT}{k k':Nat}{ks:List Bool}{Fd:FD}{x:Str}{p pos:Pos}{e:Expr}{es:List Expr}{far:DAr}
theorem zsY(D:Dfn true X.prog X.w X.K X.mg X.base CX C.xv k x ks Fd)(hr:zdD k' X.A)(hk:k<=k')(hx:zcW CX X (EXc C))(ha:JAr X C (e::es) far)(hg:Gl X x:=by rfl)(hdb:(x == ("__debug__" : Str))=false:=by decide)(he:starEach (e::es) X.env=(false,eval e X.env)::starEach es X.env:=by rfl)
  (hpl:(backTo pos (starEach es X.env)).any (·.1)=false:=by rfl):JN X C (.Call (.Name x p) (e::es) [] pos) (zc4 Fd far):=by
 obtain ⟨f,fd,ps,h1,h2,h3,h4,h5⟩:=D.ex;exact zsU h1 (hr.mono hk) hg h2 h3 h4 hx h5 ha hdb he hpl
end
def dNo:DS:=λ_=>.no
theorem zql{X:Cx}{C:Cn}{st:Stmt}:JS X C st dNo:=λ_ _ _ _ _ _ ⟨_,_,_,_,p⟩=>p.elim
section
variable{X:Cx}{C:Cn}{a b c e:Expr}{fa fb fc:De}{pos:Pos}
def zgM(fa fb:De):DN:=λZ=>(fa Z).bind λa=>(fb a.2).bind λb=>match a.1,b.1 with
 |.lst x,.lst y=>if x.length+y.length<=16777216 then .ok (x++y,b.2) else .no
 |_,_=>.no
theorem zj4(ha:JE X C a fa)(hb:JE X C b fb):JN X C (.BinOp a .Add b pos) (zgM fa fb):=PE.weak (zur zu1 ha hb) λY H Q ⟨G,w,Z,r,p⟩=>by
 refine zdE (κ:=λG H w=>kN X.K C Y Q G H w) zf9 r p λd Z1 v G1 H1 w1 r1 s1 q1 p1=>?_;refine zdE (κ:=λG H w=>kN X.K C Y Q G H w) zf9 r1 p1 λd2 Z2 v2 G2 H2 w2 r2 s2 q2 p2=>?_;dsimp only at p2;split at p2
 ·rename_i x y;split at p2
  ·rename_i hl;obtain ⟨ad,vs,rfl,h1,h2⟩:=zaJ (q1.same s2.g);obtain ⟨bd,us,rfl,h3,h4⟩:=zaJ q2;refine ⟨ad,bd,vs,us,rfl,rfl,r2.gh _ _ h1,r2.gh _ _ h3,by rw[<- h2.length,<- h4.length,zdA];exact hl,λp hp=>?_⟩;have gr:zeh G2 H2 G2 (upd H2 p (.lst (vs++us))):=.newH r2.gh hp;exact p2 p _ G2 _ w2 gr.step (r2.grow gr) hp zan (r2.gh.free hp) (zg7 r2 hp) (h2.append h4)
  ·exact p2.elim
 ·exact p2.elim
def zvR(ta:TA):TE:=λY H Q=>ta Y H λvs H1=>∃ j:Int,vs=[.int j]/\∀ p,H1 p=none->Q (.ref p) (upd H1 p (.rng 0 j))
theorem zuu{p:Pos}{ta:TA}(hg:Gl X "range")(hm:X.mg "range"=none)(ha:PA X [e] ta)(hs:starEach [e] X.env=[(false,eval e X.env)]:=by rfl):PE X (.Call (.Name "range" p) [e] [] pos) (zvR ta):=by intro pS s Y H Q I h;refine PyProof.Rows.Call_ (zfd I hg hm PyProof.Rows.boot_range (PyProof.Rows.callWith_type1 (thn (ha pos pS s Y H _ I h) λus s1 ⟨vs,H1,I1,r1,q1⟩=>?_) hs rfl));obtain ⟨j,e1,q⟩:=q1;subst e1;obtain ⟨u,rfl,t,rfl⟩:=zeJ r1;exact call_range_1 ⟨.ref s1.heap.objs.size,_,I1.laid (o:=.rng 0 j) (λb u e=>waa _ e) (wal _) ⟨_,_,_,waj _ rfl⟩,rfl,q _ (I1.hok.fresh (wal _))⟩
theorem zh2{lo:Int}:∀(n:Nat)(acc:List Value),acc.length=n->(∀(j:Nat) v,acc[j]? = some v->∃ t,v=Value.int (lo+j) t)->zaW ((List.range n).map λk=>V.int (lo+(k:Nat))) acc
 |0,[],_,_=>.nil
 |0,_::_,h,_=>by simp at h
 |n+1,[],h,_=>by simp at h
 |n+1,v::r,h,hv=>by
  rw[List.range_succ_eq_map,List.map_cons,List.map_map];obtain ⟨t,ht⟩:=hv 0 v rfl;refine .cons ⟨t,by simpa using ht⟩ ?_;have:=zh2 (lo:=lo+1) n r (by simpa using h) λj v' e=>by obtain ⟨t',ht'⟩:=hv (j+1) v' (by simpa using e);refine ⟨t',ht'.trans ?_⟩;congr 1;omega
  have e:(λk=>V.int (lo+1+(k:Nat)))=((λk:Nat=>V.int (lo+(k:Nat))) ∘ Nat.succ):=by funext k;show V.int _=V.int _;congr 1;simp only[Nat.succ_eq_add_one];omega
  rw[e] at this;exact this
theorem ziI(hc:X.calm=true):zcj X (.type "list") (λxs H Q=>∃(p:Addr)(j:Int),xs=[.ref p]/\H p=some (.rng 0 j)/\0<=j/\j<=16777216/\∀ l,H l=none->Q (.ref l) (upd H l (.lst ((List.range j.toNat).map λk=>V.int (0+(k:Nat)))))):=by
 intro pS s Y H xs us Q I r h;obtain ⟨p,j,rfl,hp,j0,j1,q⟩:=h;obtain ⟨u,rfl,ru⟩:=zeJ r;cases ru;obtain ⟨t,u,v,e⟩:=(show zcw X.prog X.w H s.heap p (.rng 0 j) from I.hok p _ hp)
 refine call_list_range (n:=j.toNat) (I.ok.hd hc) e (small_one xwo xwo xwo xwo) (by rw[rangeSize_one];split <;> omega) xwo λh' tk acc' c' hk hS hacc=>?_;refine ⟨.ref s.heap.objs.size,_,I.laid (t':=tk) hk (wal _) (o:=.lst ((List.range j.toNat).map λk=>V.int (0+(k:Nat)))) ⟨?_,acc'.toList,c',?_,by simpa using hS⟩,rfl,q _ (I.hok.fresh (wal _))⟩
 ·rw[List.length_map,List.length_range,zdA];omega
 ·refine zh2 j.toNat acc'.toList (by rw[Array.length_toList];exact hacc.1) λi v' ev=>?_;obtain ⟨t',ht'⟩:=hacc.2 i v' (by simpa using ev);exact ⟨t',by rw[ht',Int.mul_one]⟩
def zfZ(fa:De):DN:=λZ=>(fa Z).bind λa=>match a.1 with
 |.int j=>if 0<=j/\j<=16777216 then .ok (zbG 0 j.toNat,a.2) else .no
 |_=>.no
theorem zhR{K:W.Frag}{G:Hp}{lo:Int}:∀(l:List Nat),za1 K G (l.map λk=>.int (lo+(k:Nat))) (l.map λk=>V.int (lo+(k:Nat)))
 |[]=>za1.nil
 |k::r=>za1.cons (za0 _) (zhR r)
theorem zli{p1 p2 pos2:Pos}(hc:X.calm=true)(hg:Gl X "list")(hm:X.mg "list"=none)(hg2:Gl X "range")(hm2:X.mg "range"=none)(ha:JE X C e fa)(hs:starEach [e] X.env=[(false,eval e X.env)]:=by rfl)
  (hs2:starEach [.Call (.Name "range" p2) [e] [] pos2] X.env=(false,eval (.Call (.Name "range" p2) [e] [] pos2) X.env)::starEach [] X.env:=by rfl) (hpl:(backTo pos (starEach [] X.env)).any (·.1)=false:=by rfl) :
  JN X C (.Call (.Name "list" p1) [.Call (.Name "range" p2) [e] [] pos2] [] pos) (zfZ fa) :=
 PE.weak (zhb (ziI hc) hg hm PyProof.Rows.boot_list (zbb (zuu hg2 hm2 (zao ha za4 (by rw[hs];rfl)) hs) zcD hs2) xwd xwd hs2 hpl) λY H Q ⟨G,w,Z,r,p⟩=>by
  unfold zfZ at p;refine ⟨G,w,Z,r,?_⟩;unfold dA dA0;cases e:fa Z with
  |ok x =>
   obtain ⟨d,Z1⟩:=x;rw[e] at p;intro vs G1 H1 w1 s1 r1 q;obtain ⟨v,t,rfl,q1,q2⟩:=q.cons_inv;rw[q2.nil_inv];have p1:=zcm.step (κ:=λG H w=>kN X.K C Y Q G H w) zf9 s1 p;cases d with
   |int j =>
    refine ⟨j,by rw[za6 q1],λp hp=>?_⟩;have p1:zcm C.ex (kN X.K C Y Q G1 H1 w1) (if 0<=j/\j<=16777216 then .ok (zbG 0 j.toNat,Z1) else .no):=p1;by_cases hj:0<=j/\j<=16777216
    ·rw[if_pos hj] at p1;refine ⟨p,j,rfl,zan,hj.1,hj.2,λl hl=>?_⟩;have gr:zeh G1 H1 G1 (upd H1 p (.rng 0 j)):=.newH r1.gh hp;have r2:=r1.grow gr;have gr2:zeh G1 (upd H1 p (.rng 0 j)) G1 (upd (upd H1 p (.rng 0 j)) l (.lst ((List.range j.toNat).map λk=>V.int (0+(k:Nat))))):=.newH r2.gh hl;have hl1:H1 l=none:=gr.h.free hl;exact p1 l _ G1 _ w1 (gr.step.trans gr2.step) (r2.grow gr2) hl1 zan (r1.gh.free hl1) (zg7 r1 hl1) (zhR _)
    ·rw[if_neg hj] at p1;exact p1.elim
   |_=>exact waO p1
  |er n=>rw[e] at p;exact p
  |no=>rw[e] at p;exact p
end
section
variable{X:Cx}{C:Cn}{a b c e:Expr}{fa fb fc:De}{pos:Pos}
theorem zs8:OpR X (compareOp .IsNot) (λx y H Q=>∃ c d,x=.bl c/\y=.bl d/\Q (.bl (c != d)) H):=by intro pS s Y H x y v u Q I rx ry h;obtain ⟨c,d,rfl,rfl,q⟩:=h;cases rx;cases ry;exact PyProof.Rows.isnot_bool (zvh I q rfl)
def zrg(neg:Bool):Dt->Dt->R Dt
 |.bl b,.bl k=>.ok (.bl (if neg then b != k else b == k))
 |_,_=>.no
theorem zqi(neg:Bool):zhN (zrg neg):=λx y n h=>by unfold zrg at h;split at h <;> cases h
theorem zqt{K:W.Frag}:Op2 K (λx y H Q=>∃ c d,x=.bl c/\y=.bl d/\Q (.bl (c != d)) H) (zrg true):=λG H x y dx dy z Q gh hx hy e k=>by
 unfold zrg at e;split at e
 ·cases e;exact ⟨_,_,zcJ hx,zcJ hy,k _ G H (.refl gh) (zbK _)⟩
 ·cases e
theorem zsE(ha:JE X C a fa)(hb:JE X C b fb):JT X C (.Compare a [.IsNot] [b] pos) (dTB (dOp (zrg true) fa fb)):=zfP zs8 zqt (zqi _) ha hb (zfK _)
def zto(a:Int):List Int->List Int
 |[]=>[a]
 |b::r=>if a<=b then a::b::r else b::zto a r
def zaB:List Int->List Int
 |[]=>[]
 |a::r=>zto a (zaB r)
theorem zgH(a:Int):∀ l:List Int,(zto a l).Perm (a::l)
 |[]=>.refl _
 |b::r=>by
  unfold zto;split
  ·exact .refl _
  ·exact ((zgH a r).cons b).trans (.swap a b r)
theorem za9:∀ l:List Int,(zaB l).Perm l
 |[]=>.refl _
 |a::r=>(zgH a _).trans ((za9 r).cons a)
theorem zmt(a:Int):∀ l:List Int,l.Pairwise (· <= ·)->(zto a l).Pairwise (· <= ·)
 |[],_=>by simp[zto]
 |b::r,h=>by
  unfold zto;rw[List.pairwise_cons] at h;split
  ·rename_i z;refine List.pairwise_cons.mpr ⟨λx hx=>?_,List.pairwise_cons.mpr h⟩;rcases wap.mp hx with rfl|hx
   ·exact z
   ·exact Int.le_trans z (h.1 x hx)
  ·rename_i z;refine List.pairwise_cons.mpr ⟨λx hx=>?_,zmt a r h.2⟩;rcases wap.mp ((zgH a r).mem_iff.mp hx) with rfl|hx
   ·omega
   ·exact h.1 x hx
theorem zco:∀ l:List Int,(zaB l).Pairwise (· <= ·)
 |[]=>.nil
 |a::r=>zmt a _ (zco r)
theorem intsAre_of:∀{ns:List Int}{us:List Value},zaW (ns.map V.int) us->PyProof.Rows.IntsAre us ns
 |[],_,.nil=>.nil
 |n::ns,_,.cons ⟨t,h⟩ r=>by subst h;exact .cons n t (intsAre_of r)
theorem vals_ints:∀{ns:List Int}{us:List Value},PyProof.Rows.IntsAre us ns->zaW (ns.map V.int) us
 |_,_,.nil=>.nil
 |_,_,.cons n t h=>.cons ⟨t,rfl⟩ (vals_ints h)
theorem zmA:zcj X (.builtin "sorted") (λxs H Q=>∃(p:Addr)(ns:List Int),xs=[.ref p]/\SqL X.K H p (ns.map V.int)/\ns.length<64/\∀ l,H l=none->Q (.ref l) (upd H l (.lst ((zaB ns).map V.int)))):=by
 intro pS s Y H xs us Q I r h;obtain ⟨p,ns,rfl,hq,hl,q⟩:=h;obtain ⟨u,rfl,ru⟩:=zeJ r;cases ru;obtain ⟨its,rv,pl,hz⟩:=I.list hq;have hlen:its.length=ns.length:=by rw[<- rv.length];simp
 refine PyProof.Rows.sorted_ints pl.isList (intsAre_of rv) xwo λout ns' a1 a2 a3=>?_;have e:ns'=zaB ns:=W.lks_uniq (a2.trans (za9 ns).symm) a3 (zco ns);subst e;obtain ⟨c,hc⟩:=PyProof.Rows.sortedAll_at s.heap its out;refine ⟨.ref (s.heap.objs.size+1),_,I.laid (t':=s.toks) (λb o=>PyProof.Rows.sortedAll_old) (Nat.le_succ _) (o:=.lst ((zaB ns).map V.int)) ⟨?_,out.toList,c,vals_ints a1,?_⟩,rfl,q _ (I.hok.fresh (Nat.le_succ _))⟩
 ·rw[List.length_map,(za9 ns).length_eq,zdA];omega
 ·simpa using hc
def zbr:List Dt->R (List Dt)
 |[.lst l]=>match zhB l with
  |some ns=>if ns.length<64 then .ok ((zaB ns).map .int) else .no
  |none=>.no
 |_=>.no
theorem zdF{K:W.Frag}{G:Hp}:∀(ns:List Int),za1 K G (ns.map .int) (ns.map V.int)
 |[]=>za1.nil
 |n::r=>za1.cons (za0 n) (zdF r)
theorem zqo{K:W.Frag}:FnN K (λxs H Q=>∃(p:Addr)(ns:List Int),xs=[.ref p]/\SqL K H p (ns.map V.int)/\ns.length<64/\∀ l,H l=none->Q (.ref l) (upd H l (.lst ((zaB ns).map V.int)))) zbr:=λG H vs ds z Q gh hr e k=>by
 unfold zbr at e;split at e
 ·split at e
  ·rename_i ns en;split at e
   ·rename_i hl;obtain ⟨v,rfl,h1⟩:=zew hr;obtain ⟨a,us,rfl,h2,h3⟩:=zaJ h1;cases e;rw[zeD h3 en] at h2;exact ⟨a,ns,rfl,SqL.of (gh _ _ h2),hl,λl hl=>k l _ hl (zdF _)⟩
   ·cases e
  ·cases e
 ·cases e
theorem zqu:ziX zbr:=λx n h=>by
 unfold zbr at h;split at h
 ·split at h
  ·split at h <;> cases h
  ·cases h
 ·cases h
theorem zfq{x:Expr}{p:Pos}(hg:Gl X "sorted")(hm:X.mg "sorted"=none)(ha:JE X C x fa)(hs:starEach [x] X.env=(false,eval x X.env)::starEach [] X.env:=by rfl)(hpl:(backTo pos (starEach [] X.env)).any (·.1)=false:=by rfl) :
  JN X C (.Call (.Name "sorted" p) [x] [] pos) (zcV zbr (dA fa dA0)) :=
 zis zqo zqu zmA hg hm PyProof.Rows.boot_sorted (zao ha za4 hs) xwd xwd hs hpl
def zlb(x:Dt):List Dt->Option Nat
 |[]=>none
 |d::r=>if eqD d x=true then some 0 else (zlb x r).map (·+1)
theorem zg2{x:Dt}:∀{l:List Dt}{j:Nat},zlb x l=some j->∃ h:j<l.length,eqD l[j] x=true/\∀ m (hm:m<l.length),m<j->eqD l[m] x=false
 |[],_,h=>by simp[zlb] at h
 |d::r,j,h=>by
  unfold zlb at h;split at h
  ·rename_i e;cases h;exact ⟨xws,e,λm _ h=>absurd h (Nat.not_lt_zero _)⟩
  ·rename_i e;cases q:zlb x r with
   |none=>rw[q] at h;cases h
   |some i =>
    rw[q] at h;cases h;obtain ⟨h1,h2,h3⟩:=zg2 q;refine ⟨by simpa using h1,by simpa using h2,λm hm hlt=>?_⟩;cases m with
    |zero=>simpa using e
    |succ m=>simpa using h3 m (by simpa using hm) (Nat.lt_of_succ_lt_succ hlt)
theorem zfu{pS:List (Addr×Obj)}{Y:L2.St}{H:Hp}{s:Shared}(I:L2.Inv X pS Y H s){dx:Dt}:∀{ds:List Dt}{vs:List V}{us:List Value}{i:Nat}(h1:i<ds.length)(h2:i<us.length),ds.all (okN 60)=true->za1 X.K H ds vs->zaW vs us->ziV X.K H dx us[i]=eqD ds[i] dx
 |[],_,_,_,h1,_,_,_,_=>by simp at h1
 |d::ds,vs,us,i,h1,h2,hk,h,r=>by
  obtain ⟨v,t,rfl,k1,k2⟩:=h.cons_inv;cases r with
  |cons r1 r2 =>
   simp only[List.all_cons,wae] at hk;cases i with
   |zero=>exact zlp I hk.1 k1 r1
   |succ i=>exact zfu I (i:=i) (by simpa using h1) (by simpa using h2) hk.2 k2 r2
def rIdx(K:W.Frag):V->List V->Hp->VK->Prop:=λx vs H Q=>∃ a zs dx ds j y,x=.ref a/\vs=[y]/\H a=some (.lst zs)/\za1 K H ds zs/\Rep K H dx y/\okN 60 dx=true/\ds.all (okN 60)=true/\zlb dx ds=some j/\Q (.int j) H
theorem zpJ(hu:X.A.units+65<cLine):MtR X "list.index" (rIdx X.K):=by
 intro pS s Y H x vs v us Q I rx rv h;obtain ⟨a,zs,dx,ds,j,y,rfl,rfl,hH,h1,h2,h3,h4,h5,q⟩:=h;cases rx;obtain ⟨u,rfl,ru⟩:=zaW.one rv;have hu1:X.A.in1.units+64<cLine:=by rw[zfg];omega
 obtain ⟨z,its,n,r,hl,e⟩:=I.lstM hH;obtain ⟨k1,k2,k3⟩:=zg2 h5;have hlen:ds.length=its.length:=by rw[h1.length,r.length]
 have hj:(j:Int)<2 ^ 63-1:=by
  have:zs.length<=16777216:=by rw[<- zdA];exact z
  omega
 refine PySem.call_meets F.slot_list_index ⟨_,e,rfl⟩ F.entry_list_index (F.args_list_index_2 _ _)
  (SeqAt.list_indexAt a its.toArray n none #[] u (ziV X.K H dx) j (by rw[List.size_toArray];omega) hj ?_ ?_) ⟨e,λw hw=>zcE I hu1 h3 h2 ru h4 h1 r w (by simpa using hw),?_⟩
 ·have:=zfu I (dx:=dx) (i:=j) k1 xwo h4 h1 r;simpa [this] using k2
 ·intro m hm hlt;have hm':m<its.length:=by simpa using hm
  have:=zfu I (dx:=dx) (i:=m) xwo hm' h4 h1 r;have e3:=k3 m xwo hlt;simpa [this] using e3
 ·exact ⟨.int j,H,I.kept (t':=s.toks+1) (λ_ _ q=>q),⟨_,rfl⟩,q⟩
def zv4(fa fb:De):De:=λZ=>(fa Z).bind λa=>match a.1 with
 |.lst ds=>(fb a.2).bind λb=>if (okN 60 b.1 && ds.all (okN 60))=true then match zlb b.1 ds with
   |some j=>.ok (.int j,b.2)
   |none=>.no
  else .no
 |_=>.no
theorem zuO{apos:Pos}(hu:X.A.units+65<cLine)(ha:JE X C a fa)(hb:JE X C b fb)(hbase:attributeBase a "index" X.env (eval a X.env)=eval a X.env:=by rfl)
  (hfew:((backTo pos (starEach [b] X.env)).all (λx=>!x.1) && (backToKw pos (keywordEach [] X.env)).all (λx=>x.1.isSome) && decide ([b].length+([]:List Keyword).length+(if ([]:List Keyword).isEmpty then 0 else 1)<30))=true:=by rfl)
  (hline:(apos.endLine == pos.line)=true:=by rfl) (hs:starEach [b] X.env=(false,eval b X.env)::starEach [] X.env:=by rfl) (hplain:(backTo pos (starEach [] X.env)).any (·.1)=false:=by rfl) :
  JE X C (.Call (.Attribute a "index" apos) [b] [] pos) (zv4 fa fb) :=
 PE.weak (zo1 PySem.F.plainAttrs_list PySem.F.slot_list_index PySem.F.type_list_index (zpJ hu) ha (zbb hb zcD hs) hbase hfew hline hs hplain) λY H Q ⟨G,w,Z,r,p⟩=>by
  refine zdE (κ:=λG H w=>kE X.K C Y Q G H w) zbI r p λd Z1 v G1 H1 w1 r1 s1 q1 p1=>?_;cases d with
  |lst ds =>
   obtain ⟨ad,vs,rfl,h1,h2⟩:=zaJ q1;refine ⟨.inl ⟨rfl,vs,SqL.of (r1.gh _ _ h1)⟩,?_⟩;refine zdE (κ:=λG H w=>kE X.K C Y Q G H w) zbI r1 p1 λd2 Z2 v2 G2 H2 w2 r2 s2 q2 p2=>?_;dsimp only at p2;split at p2
   ·rename_i hk;rw[Bool.and_eq_true] at hk;split at p2
    ·rename_i j ej;exact ⟨ad,vs,d2,ds,j,v2,rfl,rfl,r2.gh _ _ (s2.g _ _ h1),(h2.same s2.g).same r2.gh,q2.same r2.gh,hk.1,hk.2,ej,p2 _ G2 H2 w2 (.refl _ _ _) r2 (za0 _)⟩
    ·exact waO p2
   ·exact waO p2
  |_=>exact waO p1
end
theorem zmU:typeLookup (.type "list_reverseiterator") "__len__"=pure none:=by rw[typeLookup_type,builtinLookup_eq_fast];kernel_rfl
theorem zpX:typeLookup (.type "list_reverseiterator") "__length_hint__"=pure (some (.builtin "list_reverseiterator.__length_hint__")):=by rw[typeLookup_type,builtinLookup_eq_fast];kernel_rfl
section
variable{prog:Program}{w:World}{A:Around}{E:Value->Shared->Prop}{s:Shared}
theorem zgv{R:Result->Shared->Prop}{it l:Addr}{items:Array Value}(hh:A.handled=none)(hit:s.heap.IsRevIter it l ((items.size:Int)-1))(hl:s.heap.IsList l items)(hne:l≠it)(S:Addr)(res:Value)(c₀:Nat)(hS:s.heap.get? S=some { cls:=.type "list",data:=.seq #[] c₀ })(hSl:S≠l)
  (hn:items.size<=sizeLine)
  (hR:∀ h' tk acc' c',(∀ b o,b≠S->b≠it->s.heap.get? b=some o->h'.get? b=some o)->h'.get? S=some { cls:=.type "list",dict:=none,data:=.seq acc' c',slots:=#[] } ->
   ItemsOf (λi v=>items[items.size-1-i]? = some v) acc' items.size->R (.ok (.ret res)) { s with heap:=h',toks:=tk }) :
  wpAny (model prog w) A.in1 (Builtin.List.listExtendWith (.ref S) (.ref it) res)
   (λfin s'=>match fin with|.done f=>R (.ok f) s'|.again c'=>c'.quiet=true/\codeAny (model prog w) A c' R s') (λe s'=>R (.error e) s') s:=by
 have hSI:S≠it:=λe=>by obtain ⟨o,ho,hc,_⟩:=hit;rw[e,ho] at hS;cases hS;simp at hc
 have hSf:S∉[it,l]:=λhm=>by
  rcases wap.mp hm with z|z
  ·exact hSI z
  ·exact hSl (List.mem_singleton.mp z)
 unfold Builtin.List.listExtendWith;refine wab (wpAny_typeOf (T:="list_reverseiterator") hit.typeIs ?_);have h1:Builtin.List.listSameRef (.ref S) (.ref it)=false:=by simp[Builtin.List.listSameRef,hSI]
 have h2:(Value.type "list_reverseiterator" == Value.type "list")=false:=by decide +kernel
 have h3:(Value.type "list_reverseiterator" == Value.type "tuple")=false:=by decide +kernel
 simp only[h1,h2,h3,Bool.or_false,Bool.false_eq_true,if_false];refine wab (wpAny_pyIter_revIter hit ?_);refine wab (wpAny_holding ?_);unfold Builtin.List.listLengthHint;refine wab (wpAny_specialOf hit.typeIs zmU ?_);show wpAny _ A.in1 (specialOf (Value.ref it) (Str.ofString "__length_hint__") >>= _) _ _ _;refine wab (wpAny_specialOf hit.typeIs zpX ?_)
 wp_delta
 refine wab (wpAny_isInstance (T:="list_reverseiterator") (b:=true) hit.typeIs (by rw[isSubtype_type];kernel_rfl) ?_);refine wpAny_ite_split (λh=>absurd h xwd) (λ_=>?_);refine wpAny_ite_split (λ_=>?_) (λh=>absurd xwD h);refine wpAny_ite_split (λh=>absurd h xwD) (λ_=>wad ?_);rw[if_neg xwD];have W:=(Walks.listRev (prog:=prog) (w:=w) (A:=A.in1) hh it l hne items).toS;have hst:0<=items.size/\s.heap.IsRevIter it l ((items.size:Int)-1-((0:Nat):Int))/\s.heap.IsList l items:=⟨Nat.zero_le _,by simpa using hit,hl⟩
 refine wad ⟨plainId_quiet F.plain_extend_loop _,codeAny_extend_loopS W hn _ hSf _ items.size 0 _ _ _ rfl (Nat.zero_le _) hst hS (ItemsOf.nil _) λs' acc' c' hm hS' hacc=>?_⟩;rw[Moved.eq_with hm];refine hR s'.heap s'.toks acc' c' (λb ob hb hb2 e=>hm.heap b ob (λhmem=>?_) e) hS' hacc;rcases wap.mp hmem with e'|hmem
 ·exact hb e'
 ·exact hb2 (List.mem_singleton.mp hmem)
theorem zpB{R:Result->Shared->Prop}{it l:Addr}{items:Array Value}(hh:A.handled=none)(hit:s.heap.IsRevIter it l ((items.size:Int)-1))(hl:s.heap.IsList l items)(hne:l≠it)(S:Addr)(hS:s.heap.get? S=some { cls:=.type "list",data:=.seq #[] })(hSl:S≠l)(hSI:S≠it)
  (hn:items.size<=sizeLine)
  (hR:∀ h' tk acc' c',(∀ b o,b≠S->b≠it->s.heap.get? b=some o->h'.get? b=some o)->h'.get? S=some { cls:=.type "list",dict:=none,data:=.seq acc' c',slots:=#[] } ->
   ItemsOf (λi v=>items[items.size-1-i]? = some v) acc' items.size->R (.ok (.ret .none)) { s with heap:=h',toks:=tk }) :
  wpAny (model prog w) A.in1 (Builtin.«list.__init__» ⟨[.ref S,.ref it],[]⟩)
   (λfin s'=>match fin with|.done f=>R (.ok f) s'|.again c'=>c'.quiet=true/\codeAny (model prog w) A c' R s') (λe s'=>R (.error e) s') s:=by
 show wpAny _ _ (do let old <- Builtin.List.listItems (.ref S);Builtin.List.listUpdate (.ref S) (λ_=>#[]);letGo old.toList.reverse;Builtin.List.listExtendWith (.ref S) (.ref it) .none) _ _ s;refine wab ?_;unfold Builtin.List.listItems;refine wab (wpAny_seqItems hS rfl (wad ?_));show wpAny _ _ (updateSeq S (λ_=>#[]) >>= λ_=>letGo (#[]:Array Value).toList.reverse >>= λ_=>Builtin.List.listExtendWith (.ref S) (.ref it) .none) _ _ s;refine wab (wpAny_updateSeq hS rfl ?_);have k2:=Heap.get?_update_self (Obj.mapSeq (λ_=>(#[]:Array Value))) hS rfl;have oth:∀ b o,b≠S->s.heap.get? b=some o->(s.heap.update S (Obj.mapSeq (λ_=>(#[]:Array Value)))).get? b=some o :=
  λb o hb e=>(Heap.get?_update_other _ _ (Ne.symm hb)).trans e
 refine wab (wpAny_letGo ?_);exact zgv hh (hit.at λo e=>oth it o (Ne.symm hSI) e) (hl.at λo e=>oth l o (Ne.symm hSl) e) hne S .none _ k2 hSl hn λh' tk acc' c' hk hS' hacc=>hR h' tk acc' c' (λb o hb hb2 e=>hk b o hb hb2 (oth b o hb e)) hS' hacc
theorem zqB{Q:Value->Shared->Prop}{it l:Addr}{items:Array Value}(hh:A.handled=none)(hit:s.heap.IsRevIter it l ((items.size:Int)-1))(hl:s.heap.IsList l items)(hne:l≠it)(hn:items.size<=sizeLine)
  (hQ:∀ h' tk acc' c',(∀ b o,b≠it->s.heap.get? b=some o->h'.get? b=some o) ->
   h'.get? s.heap.objs.size=some { cls:=.type "list",dict:=none,data:=.seq acc' c',slots:=#[] }->ItemsOf (λi v=>items[items.size-1-i]? = some v) acc' items.size->Q (.ref s.heap.objs.size) { s with heap:=h',toks:=tk }) :
  wpAny (model prog w) A (call (.type "list") [.ref it]) Q E s:=by
 refine callType_codes (Q₁:=λobj s₁=>obj=.ref s.heap.objs.size/\s₁={ s with heap:=s.heap.push { cls:=.type "list",data:=.seq #[] } }) F.called_list (F.typeCall_list_1 _) F.entry_list_init
  (code_list_new _ ⟨rfl,rfl⟩) λobj s₁ h₁=>?_
 obtain ⟨rfl,rfl⟩:=h₁;have kS:(s.heap.push { cls:=.type "list",data:=.seq #[] }).get? s.heap.objs.size=some { cls:=.type "list",data:=.seq #[] }:=waj _ rfl;have lt1:l≠s.heap.objs.size:=by obtain ⟨o,e,_⟩:=hl;exact waM (wai e)
 have lt2:it≠s.heap.objs.size:=by obtain ⟨o,e,_⟩:=hit;exact waM (wai e)
 refine ⟨⟨_,kS,rfl⟩,F.args_list_init_2 _ _,zpB (A:=A.in1) hh (hit.at λo e=>waa _ e) (hl.at λo e=>waa _ e) hne _ kS (Ne.symm lt1) (Ne.symm lt2) hn λh' tk acc' c' hk hS' hacc=>?_⟩;exact ⟨rfl,hQ h' tk acc' c' (λb o hb e=>hk b o (waM (wai e)) hb (waa _ e)) hS' hacc⟩
end
section
variable{X:Cx}{C:Cn}{a:Expr}{fa:De}{pos:Pos}
theorem zpD:bootBuiltins "reversed"=some (.type "reversed"):=by decide +kernel
theorem zqq{vs:List V}{its:List Value}{acc:Array Value}(r:zaW vs its)(h:ItemsOf (λi v=>its.toArray[its.toArray.size-1-i]? = some v) acc its.toArray.size):zaW vs.reverse acc.toList:=by
 have e:acc.toList=its.reverse:=by
  apply List.ext_getElem?;intro i;have hs:acc.size=its.length:=by simpa using h.1
  by_cases hi:i<its.length
  ·have:=h.2 i acc[i] (by simp[hs,hi]);rw[List.getElem?_reverse hi];have e2:acc.toList[i]? = some acc[i]:=by simp[hs,hi]
   rw[e2];simpa using this.symm
  ·rw[List.getElem?_eq_none (by simpa [hs] using hi),List.getElem?_eq_none (by simpa using hi)]
 rw[e];exact r.reverse
theorem ztv{p1 p2 pos2:Pos}(hc:X.calm=true)(hg:Gl X "list")(hm:X.mg "list"=none)(hg2:Gl X "reversed")(hm2:X.mg "reversed"=none)(ha:JE X C a fa)(hs:starEach [a] X.env=[(false,eval a X.env)]:=by rfl)
  (hs2:starEach [.Call (.Name "reversed" p2) [a] [] pos2] X.env=[(false,eval (.Call (.Name "reversed" p2) [a] [] pos2) X.env)]:=by rfl) :
  JN X C (.Call (.Name "list" p1) [.Call (.Name "reversed" p2) [a] [] pos2] [] pos) (zhk fa):=by
 intro pS s Y H Q I ⟨G,w,Z,r,p⟩;refine PyProof.Rows.Call_ (zfd I hg hm PyProof.Rows.boot_list (PyProof.Rows.callWith_type1 ?_ hs2 rfl));rw[hs2];show wpAny _ _ (spliced ((false,eval (.Call (.Name "reversed" p2) [a] [] pos2) X.env)::backTo pos (starEach [] X.env))) _ _ s;refine Calls.spliced_cons (PyProof.Rows.Call_ (zfd I hg2 hm2 zpD (PyProof.Rows.callWith_type1 (thn (zao ha za4 hs pos2 pS s Y H (λvs H1=>∃(ad:Addr)(zs:List V),vs=[.ref ad]/\SqL X.K H1 ad zs/\∀ p,H1 p=none->Q (.ref p) (upd H1 p (.lst zs.reverse))) I ?_) λus s1 ⟨vs,H1,I1,r1,q1⟩=>?_) hs rfl)))
 ·refine ⟨G,w,Z,r,?_⟩;unfold zhk at p;unfold dA dA0;cases e:fa Z with
  |ok x =>
   obtain ⟨d,Z1⟩:=x;rw[e] at p;intro vs G1 H1 w1 s1 r1 q;obtain ⟨v,t,rfl,q1,q2⟩:=q.cons_inv;rw[q2.nil_inv];have p1:=zcm.step (κ:=λG H w=>kN X.K C Y Q G H w) zf9 s1 p;cases d with
   |lst ds =>
    obtain ⟨ad,zs,rfl,h1,h2⟩:=zaJ q1;refine ⟨ad,zs,rfl,SqL.of (r1.gh _ _ h1),λp hp=>?_⟩;have gr:zeh G1 H1 G1 (upd H1 p (.lst zs.reverse)):=.newH r1.gh hp;exact p1 p _ G1 _ w1 gr.step (r1.grow gr) hp zan (r1.gh.free hp) (zg7 r1 hp) h2.reverse
   |_=>exact waO p1
  |er n=>rw[e] at p;exact p
  |no=>rw[e] at p;exact p
 ·obtain ⟨ad,zs,rfl,hq,q⟩:=q1;obtain ⟨u,rfl,ru⟩:=zeJ r1;cases ru;obtain ⟨its,rv,pl,hz⟩:=I1.list hq;have hlen:=rv.length;refine call_reversed_list pl.isList ?_;refine Calls.spliced_nil ?_;have ne:ad≠s1.heap.objs.size:=by obtain ⟨o,n,e,_⟩:=id pl;exact waM (wai e)
  have I2:L2.Inv X pS Y H1 { s1 with heap:=s1.heap.push (revObj ad ((its.toArray.size:Int)-1)) }:=I1.kept (t':=s1.toks) λb ob q=>waa _ q;have hit:Heap.IsRevIter (s1.heap.push (revObj ad ((its.toArray.size:Int)-1))) s1.heap.objs.size ad ((its.toArray.size:Int)-1):=⟨_,waj _ rfl,rfl,rfl⟩
  have hl2:Heap.IsList (s1.heap.push (revObj ad ((its.toArray.size:Int)-1))) ad its.toArray:=pl.isList.at λo e=>waa _ e;refine zqB (s:={ s1 with heap:=s1.heap.push (revObj ad ((its.toArray.size:Int)-1)) }) (I.ok.hd hc) hit hl2 ne (by rw[List.size_toArray];omega) λh' tk acc c' hk hS hacc=>?_;have hsz:(s1.heap.push (revObj ad ((its.toArray.size:Int)-1))).objs.size=s1.heap.objs.size+1:=Heap.size_push ..;have hS':h'.get? (s1.heap.objs.size+1)=some { cls:=.type "list",dict:=none,data:=.seq acc c',slots:=#[] }:=by rw[<- hsz];exact hS
  show EP X pS Y Q (.ref (s1.heap.push (revObj ad ((its.toArray.size:Int)-1))).objs.size) _;rw[hsz];refine ⟨.ref (s1.heap.objs.size+1),_,I1.laid (h':=h') (t':=tk) (o:=.lst zs.reverse) (λb o e=>hk b o (waM (wai e)) (waa _ e)) (Nat.le_succ _) ⟨?_,acc.toList,c',zqq rv hacc,by simpa using hS'⟩,rfl,q _ (I1.hok.fresh (Nat.le_succ _))⟩;rw[List.length_reverse];exact hz
end
section
variable{prog:Program}{w:World}{A:Around}{E:Value->Shared->Prop}{s:Shared}
theorem bnd:type_of% @wpAny_bind:=@wpAny_bind
theorem zlZ{it t:Addr}{i:Nat}{its:Array Value}{x:Value}{Q:Value->Shared->Prop}(k1:s.heap.IsTupleIter it t i)(k2:s.heap.IsTuple t its)(kx:its[i]? = some x)
  (kQ:∀ h',h'.IsTupleIter it t (i+1)->Heap.SameBut it s.heap h'->Q x { s with heap:=h' }):wpAny (model prog w) A (Builtin.SmallTypes.nextOf (.ref it)) Q E s:=by
 obtain ⟨o,e1,e2,e3⟩:=id k1;obtain ⟨o',e4,_,n',e5⟩:=k2;unfold Builtin.SmallTypes.nextOf;refine bnd (wpAny_callSpecial?_slot (name:=Str.ofString "__next__") k1.typeIs F.slot_tuple_iterator_next (wpAny_call_entry F.slot_tuple_iterator_next k1.typeIs F.entry_tuple_iterator_next ?_ (F.args_tuple_iterator_next_1 _)));show wpAny _ _ (field (.ref it) 0 >>= _) _ _ _;refine bnd (wpAny_field e1 e3 (x:=.ref t) rfl ?_);show wpAny _ _ (if (Value.ref t == Value.none)=true then _ else _) _ _ _;have nn:¬ ((Value.ref t == Value.none)=true):=Bool.false_ne_true;rw[if_neg nn];show wpAny _ _ (field (.ref it) 1 >>= _) _ _ _;refine bnd (wpAny_field e1 e3 (x:=.int i 0) rfl ?_);show wpAny _ _ (seqItems? (.ref t) >>= _) _ _ _;refine bnd (wpAny_seqItems e4 e5 ?_);simp only[Int.toNat_natCast,kx];refine bnd (wpAny_setField e1 e3 xws (wad ⟨x,rfl,wad (kQ _ ⟨_,Heap.get?_update_self _ e1 (Obj.isFreed_of_fields (Obj.data_mapFields e3 _)),(Obj.cls_mapFields ..).trans e2,?_⟩ (Heap.SameBut.update ..))⟩));rw[Obj.data_mapFields e3];simp[rawInt]
theorem zsS{it t:Addr}{i:Nat}{its:Array Value}{Q:Value->Shared->Prop}(hh:A.handled=none)(k1:s.heap.IsTupleIter it t i)(k2:s.heap.IsTuple t its)(kx:its[i]? = none)
  (kE:∀ h' e,Heap.ExtBut it s.heap h'->(∃ o,h'.get? e=some o/\o.cls=.type "StopIteration")->E (.ref e) { s with heap:=h' }):wpAny (model prog w) A (Builtin.SmallTypes.nextOf (.ref it)) Q E s:=by
 obtain ⟨o,e1,e2,e3⟩:=id k1;obtain ⟨o',e4,_,n',e5⟩:=k2;unfold Builtin.SmallTypes.nextOf;refine bnd (wpAny_callSpecial?_slot (name:=Str.ofString "__next__") k1.typeIs F.slot_tuple_iterator_next (wpAny_call_entry F.slot_tuple_iterator_next k1.typeIs F.entry_tuple_iterator_next ?_ (F.args_tuple_iterator_next_1 _)));show wpAny _ _ (field (.ref it) 0 >>= _) _ _ _;refine bnd (wpAny_field e1 e3 (x:=.ref t) rfl ?_);show wpAny _ _ (if (Value.ref t == Value.none)=true then _ else _) _ _ _;have nn:¬ ((Value.ref t == Value.none)=true):=Bool.false_ne_true;rw[if_neg nn];show wpAny _ _ (field (.ref it) 1 >>= _) _ _ _;refine bnd (wpAny_field e1 e3 (x:=.int i 0) rfl ?_);show wpAny _ _ (seqItems? (.ref t) >>= _) _ _ _;refine bnd (wpAny_seqItems e4 e5 ?_);simp only[Int.toNat_natCast,kx];refine bnd (wpAny_rule (wab (wpAny_setField e1 e3 xws ?_)));show wpAny _ _ (newExc (.type "StopIteration") [] >>= _) _ _ _;refine bnd ?_;simp only[newExc,newTuple];refine bnd (wpAny_newObj_type ?_ (by size_fits));refine (wab (m:=firstArgMember _ _)) (wpAny_of_eq (a:=Value.none) (by first|rfl|(simp only[firstArgMember];rfl)) ?_);refine wpAny_newObj_type ?_ (by size_fits);simp only[raiseNew];refine bnd (wpAny_handled ?_)
 first|rw[show A.in1.handled=none from hh]|rw[hh]
 refine bnd (wad (wpAny_throw ?_));exact kE _ _ (((Heap.SameBut.update ..).extBut.push _).push _) ⟨_,waj _ rfl,rfl⟩
structure Zp(h:Heap)(z TI TO i1 i2 l1 l2:Addr)(f0:Value)(k:Nat):Prop where
 z:IsZip h z TI TO f0
 ti:IsPair h TI (.ref i1) (.ref i2)
 to:∃ a b,IsPair h TO a b
 a1:h.IsTupleIter i1 l1 k
 a2:h.IsTupleIter i2 l2 k
structure ZpD(z TI TO i1 i2:Addr):Prop where
 d1:TI≠z
 d2:TO≠z
 d3:i1≠z
 d4:i2≠z
 d5:TI≠TO
 d6:TI≠i1
 d7:TI≠i2
 d8:TO≠i1
 d9:TO≠i2
 d0:i1≠i2
theorem Zp.keep{h h':Heap}{z TI TO i1 i2 l1 l2:Addr}{f0:Value}{k:Nat}(p:Zp h z TI TO i1 i2 l1 l2 f0 k)(e:∀ b∈[z,TI,TO,i1,i2],∀ o,h.get? b=some o->h'.get? b=some o):Zp h' z TI TO i1 i2 l1 l2 f0 k :=
 ⟨e z xws _ p.z,e TI xws _ p.ti,let ⟨a,b,q⟩:=p.to;⟨a,b,e TO xws _ q⟩,p.a1.at λo q=>e i1 xws o q,p.a2.at λo q=>e i2 xws o q⟩
variable{z TI TO i1 i2 l1 l2:Addr}{k:Nat}{xs ys:Array Value}
theorem zkD{x y:Value}{Q:Value->Shared->Prop}(D:ZpD z TI TO i1 i2)(p:Zp s.heap z TI TO i1 i2 l1 l2 .none k)(q1:s.heap.IsTuple l1 xs)(q2:s.heap.IsTuple l2 ys)(n1:∀ b∈[z,TI,TO,i1,i2],b≠l1)(n2:∀ b∈[z,TI,TO,i1,i2],b≠l2)
  (hx:xs[k]? = some x) (hy:ys[k]? = some y)
  (hQ:∀ h',Zp h' z TI TO i1 i2 l1 l2 (rawInt s.heap.objs.size) (k+1)->h'.get? s.heap.objs.size=some { cls:=.type "tuple",data:=.seq #[x,y] }->(∀ c o,c≠z->c≠TO->c≠i1->c≠i2->s.heap.get? c=some o->h'.get? c=some o)->Q (.ref s.heap.objs.size) { s with heap:=h' }) :
  wpAny (model prog w) A (Builtin.«zip.__next__» ⟨[.ref z],[]⟩) (λfin s'=>∃ v,fin=.done (.ret v)/\Q v s') E s:=by
 obtain ⟨pz,pti,⟨oa,ob,pto⟩,pa1,pa2⟩:=p;show wpAny _ _ (field (.ref z) 2 >>= _) _ _ _;refine bnd (wpAny_field pz rfl (x:=.bool false) rfl ?_);show wpAny _ _ (field (.ref z) 3 >>= _) _ _ _;refine bnd (wpAny_field pz rfl (x:=.ref TI) rfl ?_);refine bnd (wpAny_seqItems pti rfl ?_);show wpAny _ _ (Builtin.SmallTypes.ownedTupleIsFree (.ref z) >>= _) _ _ _;refine bnd ?_;unfold Builtin.SmallTypes.ownedTupleIsFree;refine bnd (wpAny_field pz rfl (x:=.none) rfl (wad ?_));simp only[if_true];refine bnd (wpAny_rule ?_);refine bnd (wpAny_field pz rfl (x:=.ref TO) rfl ?_);refine bnd (wpAny_setField_rec pz xws λg1 pz1 sb1=>?_);have pz1:IsZip g1 z TI TO .ellipsis:=pz1;refine bnd ?_;simp only[List.zipIdx_cons,List.zipIdx_nil,List.forIn_cons,List.forIn_nil];refine bnd (wab (wpAny_onRaise ?_));show wpAny _ _ (Builtin.SmallTypes.nextOf (.ref i1) >>= _) _ _ _;refine bnd (zlZ (pa1.extBut sb1.extBut D.d3) (q1.extBut sb1.extBut (Ne.symm (n1 z xws))) hx λg2 pa1' sb2=>wad ?_);have t2:IsPair g2 TO oa ob:=sb2.extBut _ _ D.d8 (sb1.extBut _ _ D.d2 pto);refine bnd (wpAny_seqItems t2 rfl ?_);refine bnd (wpAny_updateSeq_pair t2 λg3 t3 sb3=>?_);have t3:IsPair g3 TO x ob:=t3;refine bnd (wpAny_letGo (wad ?_));refine bnd (wab (wpAny_onRaise ?_));show wpAny _ _ (Builtin.SmallTypes.nextOf (.ref i2) >>= _) _ _ _;refine bnd (zlZ (((pa2.extBut sb1.extBut D.d4).extBut sb2.extBut D.d0.symm).extBut sb3.extBut D.d9.symm)
  (((q2.extBut sb1.extBut (Ne.symm (n2 z xws))).extBut sb2.extBut (Ne.symm (n2 i1 xws))).extBut sb3.extBut (Ne.symm (n2 TO xws))) hy λg4 pa2' sb4=>wad ?_)
 have t4:IsPair g4 TO x ob:=sb4.extBut _ _ D.d9 t3;refine bnd (wpAny_seqItems t4 rfl ?_);refine bnd (wpAny_updateSeq_pair t4 λg5 t5 sb5=>?_);have t5:IsPair g5 TO x y:=t5;refine bnd (wpAny_letGo (wad (wad ?_)));refine bnd (wpAny_seqItems t5 rfl ?_);refine bnd (wpAny_newTuple ?_);have sz:g5.objs.size=s.heap.objs.size:=by rw[sb5.1,sb4.1,sb3.1,sb2.1,sb1.1]
 have z5:IsZip g5 z TI TO .ellipsis:=sb5.extBut _ _ D.d2.symm (sb4.extBut _ _ D.d4.symm (sb3.extBut _ _ D.d2.symm (sb2.extBut _ _ D.d3.symm pz1)));have k5:∀ c o,c≠z->c≠TO->c≠i1->c≠i2->s.heap.get? c=some o->g5.get? c=some o:=λc o c1 c2 c3 c4 e =>
  sb5.extBut _ _ c2 (sb4.extBut _ _ c4 (sb3.extBut _ _ c2 (sb2.extBut _ _ c3 (sb1.extBut _ _ c1 e))))
 have p1:g5.IsTupleIter i1 l1 (k+1):=((pa1'.extBut sb3.extBut D.d8.symm).extBut sb4.extBut D.d0).extBut sb5.extBut D.d8.symm;have p2:g5.IsTupleIter i2 l2 (k+1):=pa2'.extBut sb5.extBut D.d9.symm;have ltz:z<g5.objs.size:=wai z5;show wpAny _ _ (Builtin.SmallTypes.ownedTupleHandOut (.ref z) (.ref g5.objs.size) >>= _) _ _ _;refine bnd ?_;unfold Builtin.SmallTypes.ownedTupleHandOut;have z6:IsZip (g5.push { cls:=.type "tuple",data:=.seq #[x,y] }) z TI TO .ellipsis:=waa _ z5;refine bnd (wpAny_setField_rec z6 xws λg7 z7 sb7=>?_);have z7:IsZip g7 z TI TO (rawInt g5.objs.size):=z7;refine wpAny_setField_rec z7 xws λg8 z8 sb8=>?_;have z8:IsZip g8 z TI TO (rawInt g5.objs.size):=z8;have up:∀ c o,c≠z->g5.get? c=some o->g8.get? c=some o:=λc o c1 e=>sb8.extBut _ _ c1 (sb7.extBut _ _ c1 (waa _ e));have t8:g8.get? g5.objs.size=some { cls:=.type "tuple",data:=.seq #[x,y] }:=sb8.extBut _ _ (Nat.ne_of_gt ltz) (sb7.extBut _ _ (Nat.ne_of_gt ltz) (waj _ rfl));rw[sz] at z8 t8;refine wad ⟨_,rfl,?_⟩;show Q (.ref g5.objs.size) _;rw[sz];exact hQ g8 ⟨z8,up _ _ D.d1 (k5 _ _ D.d1 D.d5 D.d6 D.d7 pti),⟨x,y,up _ _ D.d2 t5⟩,p1.at λo e=>up _ o D.d3 e,p2.at λo e=>up _ o D.d4 e⟩ t8 λc o c1 c2 c3 c4 e=>up c o c1 (k5 c o c1 c2 c3 c4 e)
theorem znb{Q:PySem.Fin->Shared->Prop}(hh:A.handled=none)(D:ZpD z TI TO i1 i2)(p:Zp s.heap z TI TO i1 i2 l1 l2 .none k)(q1:s.heap.IsTuple l1 xs)(n1:∀ b∈[z,TI,TO,i1,i2],b≠l1)
  (hx:xs[k]? = none)
  (hE:∀ h' e,(∀ c o,c≠z->c≠TO->c≠i1->c≠i2->s.heap.get? c=some o->h'.get? c=some o)->(∃ o,h'.get? e=some o/\o.cls=.type "StopIteration")->E (.ref e) { s with heap:=h' }) :
  wpAny (model prog w) A (Builtin.«zip.__next__» ⟨[.ref z],[]⟩) Q E s:=by
 obtain ⟨pz,pti,⟨oa,ob,pto⟩,pa1,pa2⟩:=p;show wpAny _ _ (field (.ref z) 2 >>= _) _ _ _;refine bnd (wpAny_field pz rfl (x:=.bool false) rfl ?_);show wpAny _ _ (field (.ref z) 3 >>= _) _ _ _;refine bnd (wpAny_field pz rfl (x:=.ref TI) rfl ?_);refine bnd (wpAny_seqItems pti rfl ?_);show wpAny _ _ (Builtin.SmallTypes.ownedTupleIsFree (.ref z) >>= _) _ _ _;refine bnd ?_;unfold Builtin.SmallTypes.ownedTupleIsFree;refine bnd (wpAny_field pz rfl (x:=.none) rfl (wad ?_));simp only[if_true];refine bnd (wpAny_rule ?_);refine bnd (wpAny_field pz rfl (x:=.ref TO) rfl ?_);refine bnd (wpAny_setField_rec pz xws λg1 pz1 sb1=>?_);have pz1:IsZip g1 z TI TO .ellipsis:=pz1;refine bnd ?_;simp only[List.zipIdx_cons,List.zipIdx_nil,List.forIn_cons,List.forIn_nil];refine bnd (wab (wpAny_onRaise ?_));show wpAny _ _ (Builtin.SmallTypes.nextOf (.ref i1) >>= _) _ _ _;refine bnd (zsS hh (pa1.extBut sb1.extBut D.d3) (q1.extBut sb1.extBut (Ne.symm (n1 z xws))) hx λg2 e sb2 he=>?_);obtain ⟨oe,e1,e2⟩:=he;have z2:IsZip g2 z TI TO .ellipsis:=sb2 _ _ D.d3.symm pz1;have ez:e≠z:=λq=>by subst q;rw[z2] at e1;cases e1;simp at e2
 exact wpAny_setField_rec z2 xws λg3 _ sb3=>hE g3 e (λc o c1 _ c3 _ q=>sb3.extBut _ _ c1 (sb2 _ _ c3 (sb1.extBut _ _ c1 q))) ⟨oe,sb3.extBut _ _ ez e1,e2⟩
end
section
variable{X:Cx}{pS:List (Addr×Obj)}{Y:L2.St}{H:Hp}{s:Shared}
theorem zti{a b:Addr}{xs:List V}(I:L2.Inv X pS Y H s)(hf:zhO X pS H b)(hs:SqT X.K H a xs):b≠a:=by
 rintro rfl;rcases hs with (h|⟨o,h⟩)|⟨o,its,n,h,_⟩
 ·rw[hf.1] at h;cases h
 ·rw[hf.1] at h;cases h
 ·have hb:=I.mod.kin b o h;rcases hf.2.2.2.1 with z|z
  ·exact I.ok.noex b o hb z
  ·exact absurd (was (wai hb) (waN I.ok.bsz z)) (waL _)
theorem zgn{fp:List Addr}{h':Heap}{o:HO}{a:Addr}{t':Nat}(I:L2.Inv X pS Y H s)(hf:∀ b∈fp,zhO X pS H b)(k:∀ b ob,b∉fp->s.heap.get? b=some ob->h'.get? b=some ob)(hp:s.heap.objs.size<=a)(ht:∀ b ob,s.heap.get? b=some ob->∃ ob',h'.get? b=some ob')
  (new:zcw X.prog X.w (upd H a o) h' a o):L2.Inv X pS Y (upd H a o) { s with heap:=h',toks:=t' }:=by
 have hn:=I.hok.fresh hp;have nf:∀ b u,H b=some u->b∉fp:=λb u e z=>by rw[(hf b z).1] at e;cases e
 refine I.call (g':=s.gens) (d':=s.drawn) (ch:=fp) ⟨λb u q _ _ hx=>k b u hx q,λb u q _ _ hx=>⟨u.slots,k b u hx q⟩,λb u q n _=>?_,λb u q hx=>⟨u,k b u hx q⟩,λb xs q=>?_,λb u xs q=>?_,λb ps q=>⟨#[],?_⟩⟩ (λb u e=>?_) I.bare
  λb hb=>⟨(hf b hb).2.2.2.1,(hf b hb).2.1,(hf b hb).2.2.2.2.1,(hf b hb).2.2.2.2.2⟩
 ·rw[zag (Nat.ne_of_lt (Nat.lt_of_lt_of_le (Heap.lt_size q) hp))];exact n
 ·rw[zag (zah q hn)];exact q
 ·rw[zag (zah q hn)];exact q
 ·rw[zag (zah q hn),q];simp
 ·by_cases hb:b=a
  ·subst hb;rw[zan] at e;cases e;exact new
  ·rw[zag hb] at e;refine (I.hok b u e).stay (λc v hc q=>k c v ?_ q) (λc q=>by rw[zag (zah q hn)];exact q) λc xs q=>by rw[zag (zah q hn)];exact q
   rcases hc with z|z
   ·rw[z];exact nf b u e
   ·exact nf c _ z
theorem zhc{fp:List Addr}{h':Heap}{t':Nat}(I:L2.Inv X pS Y H s)(hf:∀ b∈fp,zhO X pS H b)(k:∀ b ob,b∉fp->s.heap.get? b=some ob->h'.get? b=some ob):L2.Inv X pS Y H { s with heap:=h',toks:=t' }:=by
 have nf:∀ b u,H b=some u->b∉fp:=λb u e z=>by rw[(hf b z).1] at e;cases e
 refine I.call (g':=s.gens) (d':=s.drawn) (ch:=fp) ⟨λb u q _ _ hx=>k b u hx q,λb u q _ _ hx=>⟨u.slots,k b u hx q⟩,λb u q n _=>n,λb u q hx=>⟨u,k b u hx q⟩,λb xs q=>q,λb u xs q=>q,λb ps q=>⟨#[],by rw[q];simp⟩⟩ (λb u e=>?_) I.bare
  λb hb=>⟨(hf b hb).2.2.2.1,(hf b hb).2.1,(hf b hb).2.2.2.2.1,(hf b hb).2.2.2.2.2⟩
 refine (I.hok b u e).stay (λc v hc q=>k c v ?_ q) (λ_ q=>q) λ_ _ q=>q;rcases hc with z|z
 ·rw[z];exact nf b u e
 ·exact nf c _ z
end
def Itz(K:W.Frag)(a b:Addr):It :=
 ⟨λi H=>∃ xs ys x y,SqT K H a xs/\SqT K H b ys/\xs[i]? = some x/\ys[i]? = some y,
   λi H v H'=>∃ p x y,v=.ref p/\H p=none/\H'=upd H p (.tup [x,y])/\(∀ xs,SqT K H a xs->xs[i]? = some x)/\∀ ys,SqT K H b ys->ys[i]? = some y,
   λi H=>∃ xs,SqT K H a xs/\xs.length<=i⟩
theorem zqE{P:Program}{w:World}{K:W.Frag}{elts:List Expr}{x1}{ps:Pos}{a b z TI TO i1 i2:Addr}(D:ZpD z TI TO i1 i2):zpq P w K (.Tuple elts x1 ps) (Itz K a b) [z,TI,TO,i1,i2] z (λi h=>Zp h z TI TO i1 i2 a b .none i) where
 mem:=by simp
 obj:=λi h st c hc=>by
  obtain ⟨s1,s2,⟨oa,ob,s3⟩,⟨o4,s4,_,d4⟩,⟨o5,s5,_,d5⟩⟩:=st;simp only[wap,wak,or_false] at hc;rcases hc with rfl|rfl|rfl|rfl|rfl
  ·exact ⟨_,s1,λv q=>by cases q⟩
  ·exact ⟨_,s2,λv q=>by cases q⟩
  ·exact ⟨_,s3,λv q=>by cases q⟩
  ·exact ⟨_,s4,λv q=>by rw[d4] at q;cases q⟩
  ·exact ⟨_,s5,λv q=>by rw[d5] at q;cases q⟩
 keep:=λi h h' st k=>st.keep k
 item:=by
  intro X hP hw hK hc i pS s Y H E I hf st hg;subst hP hw hK;obtain ⟨xs,ys,x,y,q1,q2,hx,hy⟩:=hg;obtain ⟨its,rv,p,hz⟩:=I.tuple q1;obtain ⟨jts,rw',p',hz'⟩:=I.tuple q2;obtain ⟨u,hu,ru⟩:=rv.get hx;obtain ⟨v,hv,rv'⟩:=rw'.get hy;have hT:s.TypeIs (.ref z) "zip":=⟨_,st.z,rfl⟩
  unfold pyNext;refine wab (wpAny_attempt (wpAny_callSpecial?_slot (name:=Str.ofString "__next__") hT F.slot_zip_next (wpAny_call_entry F.slot_zip_next hT F.entry_zip_next
   (zkD (l1:=a) (l2:=b) (k:=i) (x:=u) (y:=v) D st (show s.heap.IsTuple a its.toArray from p) (show s.heap.IsTuple b jts.toArray from p') (λc hc=>zti I (hf c hc) q1) (λc hc=>zti I (hf c hc) q2) (by simpa using hu) (by simpa using hv) λh' st' ht hk=>wad ?_) (F.args_zip_next_1 _))))
  refine ⟨_,rfl,wpAny_letOwnedTupleGo_zip st'.z λh2 hz2 sb=>?_⟩;have hzp:∀ c∈[z,TI,TO,i1,i2],c≠s.heap.objs.size:=λc hc q=>by
   obtain ⟨s1,s2,⟨oa,ob,s3⟩,⟨o4,s4,_⟩,⟨o5,s5,_⟩⟩:=st;simp only[wap,wak,or_false] at hc;subst q;rcases hc with rfl|rfl|rfl|rfl|rfl
   ·exact absurd (wai s1) (waL _)
   ·exact absurd (wai s2) (waL _)
   ·exact absurd (wai s3) (waL _)
   ·exact absurd (wai s4) (waL _)
   ·exact absurd (wai s5) (waL _)
  have st2:Zp h2 z TI TO i1 i2 a b .none (i+1):=by refine ⟨hz2,sb.extBut _ _ D.d1 st'.ti,?_,st'.a1.extBut sb.extBut D.d3,st'.a2.extBut sb.extBut D.d4⟩;obtain ⟨oa,ob,q⟩:=st'.to;exact ⟨oa,ob,sb.extBut _ _ D.d2 q⟩
  have hk2:∀ c ob,c∉[z,TI,TO,i1,i2]->s.heap.get? c=some ob->h2.get? c=some ob:=λc ob nc e=>by simp only[wap,wak,or_false,not_or] at nc;exact sb.extBut _ _ nc.1 (hk c ob nc.1 nc.2.2.1 nc.2.2.2.1 nc.2.2.2.2 e)
  have hth:∀ c ob,s.heap.get? c=some ob->∃ ob',h2.get? c=some ob':=λc ob e=>by
   by_cases nc:c∈[z,TI,TO,i1,i2]
   ·obtain ⟨s1,s2,⟨oa,ob,s3⟩,⟨o4,s4,_⟩,⟨o5,s5,_⟩⟩:=st2;simp only[wap,wak,or_false] at nc;rcases nc with rfl|rfl|rfl|rfl|rfl
    ·exact ⟨_,s1⟩
    ·exact ⟨_,s2⟩
    ·exact ⟨_,s3⟩
    ·exact ⟨_,s4⟩
    ·exact ⟨_,s5⟩
   ·exact ⟨ob,hk2 c ob nc e⟩
  have hnew:h2.get? s.heap.objs.size=some { cls:=.type "tuple",data:=.seq #[u,v] }:=sb.extBut _ _ (Ne.symm (hzp z xws)) ht;have IN:L2.Inv X pS Y (upd H s.heap.objs.size (.tup [x,y])) { s with heap:=h2 }:=zgn (s:=s) (t':=s.toks) (o:=.tup [x,y]) I hf hk2 (wal _) hth ⟨by show 2<=sizeLine;decide,[u,v],.cons ru (.cons rv' .nil),0,hnew⟩;exact ⟨.ref s.heap.objs.size,_,IN,rfl,
   ⟨_,x,y,rfl,I.hok.fresh (wal _),rfl,λzs q=>by rw[I.tuple_inj q q1];exact hx,λzs q=>by rw[I.tuple_inj q q2];exact hy⟩,st2,λc hc=>by rw[zag (hzp c hc)];exact (hf c hc).1⟩
 done:=by
  intro X hP hw hK hc i pS s Y H E I hf st hg;subst hP hw hK;obtain ⟨xs,q1,hx⟩:=hg;obtain ⟨its,rv,p,hz⟩:=I.tuple q1;have hl:=rv.length;have hT:s.TypeIs (.ref z) "zip":=⟨_,st.z,rfl⟩
  unfold pyNext;refine wab (wpAny_attempt (wpAny_callSpecial?_slot (name:=Str.ofString "__next__") hT F.slot_zip_next (wpAny_call_entry F.slot_zip_next hT F.entry_zip_next
   (znb (l1:=a) (l2:=b) (k:=i) (xs:=its.toArray) (I.ok.hd hc) D st (show s.heap.IsTuple a its.toArray from p) (λc hc=>zti I (hf c hc) q1) (by simp;omega) λh' e hk he=>?_) (F.args_zip_next_1 _))))
  obtain ⟨o,ho,hcl⟩:=he;refine wab (wpAny_isInstance (T:="StopIteration") (b:=true) ⟨o,ho,hcl⟩ isSubtype_stop (wad ⟨rfl,?_⟩));refine zhc (t':=s.toks) I hf λc ob nc e=>?_;simp only[wap,wak,or_false,not_or] at nc;exact hk c ob nc.1 nc.2.2.1 nc.2.2.2.1 nc.2.2.2.2 e
 self:=λ_ _ _ _ _ st h=>wpAny_pyIter_zip st.z h
section
variable{prog:Program}{w:World}{A:Around}{E:Value->Shared->Prop}{s:Shared}
abbrev zt1(h:Heap)(a:Addr):Heap:=h.push { cls:=.type "tuple_iterator",data:=.fields #[.ref a,.int 0 0] }
abbrev zt2(h:Heap)(a b:Addr):Heap:=(zt1 h a).push { cls:=.type "tuple_iterator",data:=.fields #[.ref b,.int 0 0] }
abbrev zt3(h:Heap)(a b:Addr):Heap:=(zt2 h a b).push { cls:=.type "tuple",data:=.seq #[.ref h.objs.size,.ref (zt1 h a).objs.size] }
abbrev zt4(h:Heap)(a b:Addr):Heap:=(zt3 h a b).push { cls:=.type "tuple",data:=.seq #[.none,.none] }
abbrev zt5(h:Heap)(a b:Addr):Heap:=(zt4 h a b).push { cls:=.type "zip",data:=.fields #[.none,.bool false,.bool false,.ref (zt2 h a b).objs.size,.ref (zt3 h a b).objs.size] }
theorem zuE(a b:Addr)(xs ys:Array Value):Meets (Builtin.«zip.__new__» ⟨[.type "zip",.ref a,.ref b],[]⟩) (λ_ R s=>s.heap.IsTuple a xs/\s.heap.IsTuple b ys/\R (.ok (.ret (.ref (zt4 s.heap a b).objs.size))) { s with heap:=zt5 s.heap a b }) :=
 .of_wp λprog w A R s h=>by
  obtain ⟨hp,g,d,tk,os⟩:=s;obtain ⟨k1,k2,h⟩:=h;have hsub:=sub_zip;have t1:Heap.IsTuple (Shared.heap ⟨hp,g,d,tk,os⟩) a xs:=k1;have t2:Heap.IsTuple (Shared.heap ⟨hp.push { cls:=.type "tuple_iterator",data:=.fields #[.ref a,.int 0 0] },g,d,tk,os⟩) b ys:=Heap.IsTuple.push k2 _
  wp_walk using wpAny_pyIter_tuple t1,wpAny_pyIter_tuple t2
  exact ⟨_,rfl,h⟩
theorem zsG{a b:Addr}{xs ys:Array Value}{Q:Value->Shared->Prop}(k1:s.heap.IsTuple a xs)(k2:s.heap.IsTuple b ys)
  (h:∀ h',Zp h' (s.heap.objs.size+4) (s.heap.objs.size+2) (s.heap.objs.size+3) s.heap.objs.size (s.heap.objs.size+1) a b .none 0->(∀ c o,s.heap.get? c=some o->h'.get? c=some o)->Q (.ref (s.heap.objs.size+4)) { s with heap:=h' }) :
  wpAny (model prog w) A (call (.type "zip") [.ref a,.ref b]) Q E s:=by
 refine callType_new F.called_zip xwd (F.typeCall_zip_2 _ _) (F.newCall_zip_2 _ _) (λobj=>F.args_object_init_3 obj _ _) F.entry_zip_new (zuE a b xs ys) ⟨k1,k2,?_⟩;have e1:(zt1 s.heap a).objs.size=s.heap.objs.size+1:=Heap.size_push ..;have e2:(zt2 s.heap a b).objs.size=s.heap.objs.size+2:=by rw[Heap.size_push,e1]
 have e3:(zt3 s.heap a b).objs.size=s.heap.objs.size+3:=by rw[Heap.size_push,e2]
 have e4:(zt4 s.heap a b).objs.size=s.heap.objs.size+4:=by rw[Heap.size_push,e3]
 have g5:(zt5 s.heap a b).get? (zt4 s.heap a b).objs.size=some _:=waj _ rfl;have g4:(zt5 s.heap a b).get? (zt3 s.heap a b).objs.size=some _:=waa _ (waj _ rfl);have g3:(zt5 s.heap a b).get? (zt2 s.heap a b).objs.size=some _:=waa _ (waa _ (waj _ rfl));have g2:(zt5 s.heap a b).get? (zt1 s.heap a).objs.size=some _:=waa _ (waa _ (waa _ (waj _ rfl)));have g1:(zt5 s.heap a b).get? s.heap.objs.size=some _:=waa _ (waa _ (waa _ (waa _ (waj _ rfl))));show _/\_;rw[e2,e3,e4] at g5;rw[e1,e2] at g3;rw[e3] at g4;rw[e1] at g2;rw[e4];exact ⟨⟨_,g5,rfl⟩,h _ ⟨g5,g3,⟨_,_,g4⟩,⟨_,g1,rfl,rfl⟩,⟨_,g2,rfl,rfl⟩⟩ λc o q=>waa _ (waa _ (waa _ (waa _ (waa _ q))))⟩
end
theorem zuI(n:Nat):ZpD (n+4) (n+2) (n+3) n (n+1):=by constructor <;> (intro h;have h:(_:Nat)=(_:Nat):=h;omega)
theorem zu2{K:W.Frag}{G:Hp}{a b:Addr}{vs us:List V}{ds es:List Dt}(hs:SqT K G a vs)(ht:SqT K G b us)(q:za1 K G ds vs)(q':za1 K G es us)(hl:ds.length=es.length):zne K (Itz K a b) G ((ds.zip es).map λz=>.tup [z.1,z.2]):=λi G1 H s1 s2=>by
 have h1:=zaA s2 (zaA s1 hs);have h2:=zaA s2 (zaA s1 ht);refine ⟨λd e=>?_,λh=>⟨vs,h1,?_⟩⟩
 ·rw[List.getElem?_map] at e;have hi:i<ds.length:=by
   by_cases hi:i<ds.length
   ·exact hi
   ·rw[List.getElem?_eq_none (by rw[List.length_zip];omega)] at e;cases e
  have z1:ds[i]? = some ds[i]:=by simp[hi]
  have z2:es[i]? = some (es[i]'xwo):=by simp[show i<es.length by omega]
  obtain ⟨v,e1,e2⟩:=q.get z1;obtain ⟨u,e3,e4⟩:=q'.get z2;have ed:d=.tup [ds[i],es[i]'xwo]:=by rw[(List.getElem?_zip_eq_some (z:=(ds[i],es[i]'xwo))).mpr ⟨z1,z2⟩] at e;exact (waA e).symm
  refine ⟨⟨vs,us,v,u,h1,h2,e1,e3⟩,λx H' y=>?_⟩;obtain ⟨p,x',y',rfl,hp,rfl,k1,k2⟩:=y;have kx:=k1 vs h1;have ky:=k2 us h2;rw[e1] at kx;rw[e3] at ky;cases kx;cases ky;have gr:zeh G1 H (upd G1 p (.tup [v,u])) (upd H p (.tup [v,u])):=.new s2 hp;refine ⟨_,gr,?_⟩;rw[ed];unfold Rep;exact ⟨p,[v,u],rfl,zhz.of zan,za1.cons ((e2.same s1).same gr.g) (za1.cons ((e4.same s1).same gr.g) za1.nil)⟩
 ·rw[<- q.length];simpa [hl] using h
section
variable{X:Cx}{C:Cn}{elts:List Expr}{x1:Nat}{pt:Pos}{a b:Expr}{fa fb:De}{p pos:Pos}
end
section
variable{X:Cx}{pS:List (Addr×Obj)}{Y:L2.St}{H:Hp}{s:Shared}
end
end PV
end
section
namespace PV
open PySem PySem.Spec L2 PyProof.Rows
section
variable{X:Cx}{pS:List (Addr×Obj)}{Y:L2.St}{H:Hp}{s:Shared}
variable{kS a:Addr}{kz:List Int}{vs:List Value}{xs:List V}{Θ : Hp->Prop}{e1:Nat}{A:Around}{E:Value->Shared->Prop}{P:PySem.Fin->Shared->Prop}
abbrev lo(ys:Array Value)(n:Nat):Obj:=seqObj "list" ys n
end
section
variable{X:Cx}{pS:List (Addr×Obj)}{Y:L2.St}{H:Hp}{s:Shared}
end
theorem zrc{d:Dt}{bs:List B}:∀{Z:Ev}{k:Nat},zgm [.d d] bs k Z = Z
 |[],_=>rfl
 |o::r,k=>by show (match zdY [.d d] k with|some j=>bs[j]?|none=>o)::zgm [.d d] bs (k+1) r=_;rw[zrc (Z:=r)];rfl
section
variable{X:Cx}{C:Cn}{CX:CXT}{k k':Nat}{Fd:FD}{x:Str}{p pf kp pos:Pos}{a:Expr}{fa:De}
end
end PV
end
section
namespace PV
open PySem PySem.Spec L2
def zd9(g:DG)(ft:DT)(fe:DN):List Dt->Ev->R (List (List Dt)×Ev)
 |[],Z=>.ok ([],Z)
 |d::r,Z=>(g d Z).bind λZ1=>(ft Z1).bind λt=>if t.1=true then (fe t.2).bind λy=>(zd9 g ft fe r y.2).bind λz=>.ok (y.1::z.1,z.2) else zd9 g ft fe r t.2
def zlO(K:W.Frag)(H0:Hp)(D:Addr)(G H:Hp)(w:Wn)(dss:List (List Dt))(as:List Addr):Prop :=
 (D::as).Nodup/\Paired (λb ds=>H0 b=none/\G b=none/\w b=none/\∃ us,H b=some (.lst us)/\za1 K G ds us) as dss
theorem zlO.step{K:W.Frag}{H0 G H G' H':Hp}{w w':Wn}{D:Addr}{dss:List (List Dt)}{as:List Addr}(q:zlO K H0 D G H w dss as)(s:zbu G H w G' H' w'):zlO K H0 D G' H' w' dss as :=
 ⟨q.1,zen (λb ds ⟨h1,h2,h3,us,h4,h5⟩=>by obtain ⟨k1,k2,k3⟩:=s.keep h2 h3 h4;exact ⟨h1,k1,k2,us,k3,h5.same s.g⟩) q.2⟩
theorem zf5{α β:Type}{F:α->β->Prop}:∀{l:List α}{r:List β},Paired F l r->l.length=r.length
 |_,_,.nil=>rfl
 |_,_,.cons _ t=>by simp[zf5 t]
theorem zgQ{α β:Type}{F:α->β->Prop}{a:α}{b:β}(h:F a b):∀{l:List α}{r:List β},Paired F l r->Paired F (l++[a]) (r++[b])
 |_,_,.nil=>.cons h .nil
 |_,_,.cons x t=>.cons x (zgQ h t)
theorem zlO.len{K:W.Frag}{H0 G H:Hp}{w:Wn}{D:Addr}{dss:List (List Dt)}{as:List Addr}(q:zlO K H0 D G H w dss as):as.length=dss.length:=zf5 q.2
theorem zlO.snoc{K:W.Frag}{H0 G H:Hp}{w:Wn}{D p:Addr}{dss:List (List Dt)}{ds:List Dt}{us:List V}{as:List Addr}(q:zlO K H0 D G H w dss as)(nD:p≠D)(nA:p∉as)(h0:H0 p=none)(hg:G p=none)(hw:w p=none)(hp:H p=some (.lst us))(hr:za1 K G ds us):zlO K H0 D G H w (dss++[ds]) (as++[p]):=by
 refine ⟨?_,zgQ ⟨h0,hg,hw,us,hp,hr⟩ q.2⟩;have h:=q.1;rw[List.nodup_cons] at h ⊢;refine ⟨λz=>?_,?_⟩
 ·rcases wax.mp z with z|z
  ·exact h.1 z
  ·exact nD (List.mem_singleton.mp z).symm
 ·rw[List.nodup_append];exact ⟨h.2,xws,λx hx y hy=>by rw[List.mem_singleton.mp hy];exact λz=>nA (z ▸ hx)⟩
theorem zlO.updD{K:W.Frag}{H0 G H:Hp}{w:Wn}{D:Addr}{o:HO}{dss:List (List Dt)}{as:List Addr}(q:zlO K H0 D G H w dss as):zlO K H0 D G (upd H D o) w dss as :=
 ⟨q.1,zb4 q.2 λb ds hb ⟨h1,h2,h3,us,h4,h5⟩=>⟨h1,h2,h3,us,by rw[zag (show b≠D from λz=>(List.nodup_cons.mp q.1).1 (by rw[<- z];exact hb))];exact h4,h5⟩⟩
section
variable{X:Cx}{C:Cn}
theorem zmK{tg iter elt:Expr}{ifs:List Expr}{scope:Scope}{pos:Pos}{N':List Str}{m:Nat}{g:DG}{ft:DT}{fe:DN}(hc:X.calm=true)(hb:zfC X.N N' scope.names m=true)
  (hkind:scope.kind=.function) (hcell:∀ y∈scope.names,y.2≠.cell) (hfr:∀ y∈scope.names,y.2=.free->X.env.kindOf y.1=some .cell\/X.env.kindOf y.1=some .free)
  (hblk:∀ cl L s H fp G H' w Y,JG (zcs X N' scope cl L s H fp) (zfW C X.N.length G H' w Y) tg g/\JTs (zcs X N' scope cl L s H fp) (zfW C X.N.length G H' w Y) ifs ft/\JN (zcs X N' scope cl L s H fp) (zfW C X.N.length G H' w Y) elt fe)
  {pS:List (Addr×Obj)} {Y:L2.St} {s2:Shared} {cl:List (Str×Addr)} {RR:Value->Addr->Result->Shared->Prop} {E:Value->Shared->Prop}
  (hcl:∀ x c,cl.lookup x=some c->X.env.cells.lookup x=some c) (hcf:∀ y∈scope.names,y.2=.free->∃ c,cl.lookup y.1=some c)
  {it:Addr} {fp:List Addr} {tn:Nat->Heap->Prop} {J:It} {H2:Hp} (I2:L2.Inv X pS Y H2 s2) (T:zpq X.prog X.w X.K tg J fp it tn) (st2:tn 0 s2.heap) (f2:∀ b∈fp,zhO X pS H2 b)
  {ds:List Dt} {zs:List (List Dt)} {Z1 ρf:Ev} {G1:Hp} {w1:Wn} (r1:Rel X.K C G1 w1 Z1 Y H2) (it1:zne X.K J G1 ds) (hfi:zdC ds=true) (ec:zd9 g ft fe ds (Z1++List.replicate m none)=.ok (zs,ρf))
  (fin:∀(D L:Addr)(s':Shared)(as:List Addr)(G' H':Hp)(w':Wn),L2.Inv X pS Y H' s'->zn3 X pS H' L s'->zbu G1 H2 w1 G' H' w'->Rel X.K C G' w' (ρf.take Z1.length) Y H'->H2 D=none->H' D=some (.lst (as.map V.ref))->G' D=none->w' D=none->zlO X.K H2 D G' H' w' zs as->RR (.ref D) L (.ok .next) s') :
  wpAny (model X.prog X.w) X.A (newList []) (λacc s₃=>wpAny (model X.prog X.w) X.A (newFunctionEnv scope X.env.globals cl [] X.env.qual none .none (some X.env)) (λcenv s₄ =>
   codeAny (model X.prog X.w) X.A (.compStart (.ListComp elt [⟨tg,iter,ifs,0⟩] scope pos) 0 (.ref it) acc { cenv with scope:=relabel scope X.env }) (RR acc cenv.locals) s₄) E s₃) E s2:=by
 generalize hC':zfW C X.N.length G1 H2 w1 (Y++List.replicate m none)=C';have c0:C'.H₀=H2:=by rw[<- hC'];rfl
 have cG:C'.G₀=G1:=by rw[<- hC'];rfl
 have cw:C'.w₀=w1:=by rw[<- hC'];rfl
 have hlenσ:Y.length=X.N.length:=I2.len;refine zlN (iter:=iter) (pos:=pos) (n:=ds.length) (tgt:=tG X.K C' g) (tts:=tT X.K C' ft) (te:=tN X.K C' fe) hc hb hkind hcell hfr (λL s H fp _ _ _=>by
  obtain ⟨a1,a2,a3⟩:=hblk cl L s H fp G1 H2 w1 (Y++List.replicate m none);rw[hC'] at a1 a2 a3;exact ⟨a1,a2,a3⟩) hcl hcf I2 T st2 f2
  (λD i Y' H' vs=>∃ Z' G' w' ac as,vs=as.map V.ref/\Rel X.K C' G' w' Z' Y' H'/\G' D=none/\w' D=none/\zlO X.K H2 D G' H' w' ac as/\ac.length<=i/\∃ z,zd9 g ft fe (ds.drop i) Z'=.ok z/\ac++z.1=zs/\z.2 = ρf) (λD hD=>?_) (λD i Y' H' vs hD ⟨Z',G',w',ac,as,ev,r5,gd5,wd5,q5,hac,z,ez,ez1,ez2⟩ hd5 hlt=>?_) (λD Y' H' vs ⟨Z',G',w',ac,as,_,r5,_⟩=>(it1 _ G' H' (by have:=r5.en.g;rw[cG] at this;exact this) r5.gh).2 (wal _)) λD L s' vs Y' H' IX lo hD hd5 hl6 ⟨Z',G',w',ac,as,ev,r5,gd5,wd5,q5,hac,z,ez,ez1,ez2⟩=>?_
 ·have w0:w1 D=none:=by
   cases q:w1 D with
   |none=>rfl
   |some k=>exact absurd hD (r1.wh _ (by rw[q];simp))
  have base:Rel X.K C' G1 w1 (Z1++List.replicate m none) (Y++List.replicate m none) H2:=by
   refine ⟨r1.gh,r1.wg,r1.wh,by simp[r1.len],λi b e=>?_,by rw[<- hC'];exact .refl _ _ _,λi _=>by rw[<- hC'];rfl⟩;have hi':i < Z1.length:=by
    by_cases hi':i < Z1.length
    ·exact hi'
    ·rw[List.getElem?_append_right xwo,List.getElem?_replicate] at e;split at e <;> cases e
   rw[List.getElem?_append_left hi'] at e;obtain ⟨v,h1,h2⟩:=r1.sl i b e;exact ⟨v,by rw[List.getElem?_append_left (by rw[<- r1.len];exact hi')];exact h1,h2⟩
  exact ⟨Z1++List.replicate m none,G1,w1,[],[],rfl,base.upd_new (r1.gh.free hD) w0 (by rw[c0];exact hD),r1.gh.free hD,w0,⟨xws,.nil⟩,Nat.zero_le _,(zs,ρf),by simpa using ec,xws,rfl⟩
 ·subst ev;have ed:ds.drop i=ds[i]::ds.drop (i+1):=List.drop_eq_getElem_cons hlt;obtain ⟨go,yl⟩:=(it1 i G' H' (by have:=r5.en.g;rw[cG] at this;exact this) r5.gh).1 ds[i] (by simp[hlt]);refine ⟨go,λx H7 y7=>?_⟩;obtain ⟨G7,gr,rep7⟩:=yl x H7 y7;have keep7:=(gr.step (w:=w')).keep gd5 wd5 hd5;rw[ed] at ez;unfold zd9 at ez;obtain ⟨Z3,e3,ez⟩:=zcP ez;obtain ⟨t4,e4,ez⟩:=zcP ez;obtain ⟨b4,Z4⟩:=t4;refine ⟨G7,w',Z',ds[i],r5.grow gr,rep7,?_⟩;rw[e3];intro Y8 G8 H8 w8 s8s r8;have keep8:=s8s.keep keep7.1 keep7.2.1 keep7.2.2;refine ⟨G8,w8,Z3,r8,?_⟩;rw[e4];intro G9 H9 w9 s9s r9;have keep9:=s9s.keep keep8.1 keep8.2.1 keep8.2.2;have q9:=q5.step (((gr.step (w:=w')).trans s8s).trans s9s);cases b4 with
  |false =>
   show (if false=true then _ else _);rw[if_neg Bool.false_ne_true];simp only[Bool.false_eq_true,if_false] at ez;exact ⟨keep9.2.2,Z4,G9,w9,ac,as,rfl,r9,keep9.1,keep9.2.1,q9,xwo,z,ez,ez1,ez2⟩
  |true =>
   show (if true=true then _ else _);rw[if_pos rfl];simp only[if_true] at ez;obtain ⟨⟨yd,Z10⟩,e10,ez⟩:=zcP ez;obtain ⟨z',ez',ez3⟩:=zcP ez;refine ⟨G9,w9,Z4,r9,?_⟩;rw[e10];intro pn us G10 H10 w10 s10s r10 n0 n1 n2 n3 q10;have keep10:=s10s.keep keep9.1 keep9.2.1 keep9.2.2;cases ez3;have nD:pn≠D:=λz=>by rw[z,keep9.2.2] at n0;cases n0
   have h20:H2 pn=none:=by have:=r9.en.k pn n0;rw[c0] at this;exact this
   have nA:pn∉as:=λz=>by obtain ⟨_,_,_,_,us',e,_⟩:=zda q9.2 pn z;rw[n0] at e;cases e
   have hlen:=q9.len;have:=zgV hfi;exact ⟨keep10.2.2,by rw[List.length_map];omega,Z10,G10,w10,ac++[yd],as++[pn],xws,r10.upd_new keep10.1 keep10.2.1 (by rw[c0];exact hD),keep10.1,keep10.2.1,((q9.step s10s).snoc nD nA h20 n2 n3 n1 q10).updD,by simp;omega,z',ez',by rw[<- ez1];simp,ez2⟩
 ·subst ev;simp only[List.drop_length] at ez;unfold zd9 at ez;cases ez;simp only[List.append_nil] at ez1;subst ez1;subst ez2;have en':zbu G1 H2 w1 G' H' w':=by have:=r5.en;rw[cG,c0,cw] at this;exact this
  have hρlen:Z'.length=X.N.length+m:=by rw[r5.len,hl6]
  refine fin _ _ s' as G' H' w' IX lo en' ⟨r5.gh,r5.wg,r5.wh,?_,λi b e=>?_,r1.en.trans en',r1.pin⟩ hD hd5 gd5 wd5 q5
  ·rw[List.length_take,hρlen,r1.len,hlenσ];omega
  ·have hi':i < Z1.length:=by
    by_cases hi':i < Z1.length
    ·exact hi'
    ·rw[List.getElem?_eq_none (by rw[List.length_take];omega)] at e;cases e
   rw[List.getElem?_take_of_lt hi'] at e;obtain ⟨v,h1,h2⟩:=r5.sl i b e;refine ⟨v,?_,h2⟩;have hpi:=r5.pin i (by rw[<- hC'];exact List.mem_range.mpr (by rw[<- hlenσ,<- r1.len];exact hi'));rw[h1] at hpi;rw[<- hC'] at hpi;have hpi':some (some v)=(Y++List.replicate m none)[i]? := hpi;rw[List.getElem?_append_left (by rw[<- r1.len];exact hi')] at hpi';exact hpi'.symm
def zme(i:Nat)(fi:DA)(g:DG)(ft:DT)(fe:DN)(m:Nat):DS:=λZ=>(fi Z).bind λa=>if zdC a.1=true then match zd9 g ft fe a.1 (a.2++List.replicate m none) with
  |.ok z=>if i<a.2.length then .ok (.nx,(z.2.take a.2.length).set i (some (.own2 z.1))) else .no
  |_=>.no
 else .no
theorem Rel.setOwn2{K:W.Frag}{Y:L2.St}{G0 H0:Hp}{w0:Wn}{G H:Hp}{w:Wn}{Z:Ev}{i:Nat}{dss:List (List Dt)}{p:Addr}{as:List Addr}(r:Rel K C G w Z Y H)(hi:i < Z.length)(hpp:i∉C.pp)(hp:H p=some (.lst (as.map V.ref)))(hg:G p=none)(hw:w p=none)
  (q:zlO K H0 p G H w dss as) (s:zbu G0 H0 w0 G H w) (h0:H0 p=none) (en0:∀ b,H0 b=none->C.H₀ b=none) :
  Rel K C G (λb=>if b∈p::as then some i else w b) (Z.set i (some (.own2 dss))) (Y.set i (some (.ref p))) H/\zbu G0 H0 w0 G H (λb=>if b∈p::as then some i else w b):=by
 have fr:∀ b∈p::as,H0 b=none/\G b=none/\w b=none/\H b≠none:=λb hb=>by
  rcases wap.mp hb with rfl|hb
  ·exact ⟨h0,hg,hw,by rw[hp];simp⟩
  ·obtain ⟨ds,k1,k2,k3,us,k4,_⟩:=zda q.2 b hb;exact ⟨k1,k2,k3,by rw[k4];simp⟩
 have s1:∀{G1 H1:Hp}{w1:Wn},zbu G1 H1 w1 G H w->(∀ b∈p::as,H1 b=none)->zbu G1 H1 w1 G H (λb=>if b∈p::as then some i else w b):=λs z=>by
  refine ⟨s.g,s.fr,s.h,λb e=>?_,s.k⟩;by_cases hb:b∈p::as
  ·exact .inr (z b hb)
  ·simp only[hb,if_false] at e;exact s.w b e
 refine ⟨⟨r.gh,λb e=>?_,λb e=>?_,by simpa using r.len,λj b e=>?_,s1 r.en (λb hb=>en0 b (fr b hb).1),λj hj=>?_⟩,s1 s λb hb=>(fr b hb).1⟩
 ·by_cases hb:b∈p::as
  ·exact (fr b hb).2.1
  ·simp only[hb,if_false] at e;exact r.wg b e
 ·by_cases hb:b∈p::as
  ·exact (fr b hb).2.2.2
  ·simp only[hb,if_false] at e;exact r.wh b e
 ·by_cases hj:j=i
  ·subst hj;rw[List.getElem?_set_self hi] at e;cases e;refine ⟨_,way (by rw[<- r.len];exact hi),p,as,rfl,xws,hp,q.1,zb4 q.2 λb ds hb ⟨_,_,_,us,k4,k5⟩=>⟨?_,us,k4,k5⟩⟩;simp[wah _ hb,hb]
  ·rw[List.getElem?_set_ne (Ne.symm hj)] at e;obtain ⟨v',k1,k2⟩:=r.sl j b e;refine ⟨v',by rw[List.getElem?_set_ne (Ne.symm hj)];exact k1,k2.grow (.refl _) λa o e1 e2=>⟨e2,?_⟩⟩;have:a∉p::as:=λz=>by rw[(fr a z).2.2.1] at e1;cases e1
   simp only[this,if_false];exact e1
 ·have:i≠j:=λz=>hpp (z ▸ hj);rw[List.getElem?_set_ne this];exact r.pin j hj
theorem zkP{tg iter elt:Expr}{ifs:List Expr}{scope:Scope}{pos spos:Pos}{N':List Str}{m i:Nat}{x:Str}{px:Pos}{fi:DA}{g:DG}{ft:DT}{fe:DN}(hN:X.N.Nodup)(hix:X.N[i]? = some x)(hx:Loc X.env.scope x)(hp:i∉C.pp)(hi:JI X C tg iter fi)(hc:X.calm=true)(hb:zfC X.N N' scope.names m=true)
  (hkind:scope.kind=.function) (hcell:∀ y∈scope.names,y.2≠.cell) (hfr:∀ y∈scope.names,y.2=.free->X.env.kindOf y.1=some .cell\/X.env.kindOf y.1=some .free) (hnames:∀ y∈scope.names,y.2=.local->scope.names.lookup y.1=some .local)
  (hblk:∀ cl L s H fp G H' w Y,JG (zcs X N' scope cl L s H fp) (zfW C X.N.length G H' w Y) tg g/\JTs (zcs X N' scope cl L s H fp) (zfW C X.N.length G H' w Y) ifs ft/\JN (zcs X N' scope cl L s H fp) (zfW C X.N.length G H' w Y) elt fe)
  (hsw:swapsWith (.ListComp elt [⟨tg,iter,ifs,0⟩] scope pos) (some (.Name x px)) spos.line X.env=pure true:=by rfl) (hf:X.fn x=true\/X.env.scope.names.lookup x=some .local:=by exact xwA)
  (hs:∀ x,foldedSetIterable iter X.env x=pure x:=by intro _;rfl):JS X C (.Assign [.Name x px] (.ListComp elt [⟨tg,iter,ifs,0⟩] scope pos) spos) (zme i fi g ft fe m):=by
 intro pS s Y H D I ⟨G,w,Z,r,p⟩;obtain ⟨cl,hclos,hcl,hcf⟩:=zee (scope:=scope) (env:=X.env) λy hy hf=>I.ok.has y.1 (hfr y hy hf);rw[exec_Assign_Name_used _ _ _ _ hsw];refine wab (wpAny_standAt (wab ?_));show wpAny _ X.A (do let _ <- comprehension (.ListComp elt [⟨tg,iter,ifs,0⟩] scope pos) scope X.env _ (newList []) false (eval iter X.env) (some (assign (.Name x px) X.env))) _ _ s;refine wab (wpAny_mono (wpAny_comprehension_free (use:=some (assign (.Name x px) X.env)) (Q:=λ_ s'=>SP X pS D .next s') rfl hs hclos hkind hnames ?_) (λ_ s' hq=>wad (wad hq)) λ_ _ e=>e);refine thn (hi pS s Y H (λJ H2=>∃ ds Z1 G1 w1 zs ρf,Rel X.K C G1 w1 Z1 Y H2/\zne X.K J G1 ds/\zdC ds=true/\zd9 g ft fe ds (Z1++List.replicate m none)=.ok (zs,ρf)/\i < Z1.length/\zcm C.ex (kS X.K C D G1 H2 w1) (.ok (.nx,(ρf.take Z1.length).set i (some (.own2 zs))))) I ?_) λv s1 h1=>thn h1 λitv s2 h2=>?_
 ·refine zv6 (κ:=λG H w=>kS X.K C D G H w) zdT r p λds Z1 J G1 H1 w1 r1 st1 it1 p1=>?_;dsimp only at p1;split at p1
  ·rename_i hfi;split at p1
   ·rename_i z ez;split at p1
    ·rename_i hl;exact ⟨ds,Z1,G1,w1,z.1,z.2,r1,it1,hfi,ez,hl,p1⟩
    ·exact waO p1
   ·exact waO p1
  ·exact waO p1
 obtain ⟨it,fp,tn,J,H2,rfl,I2,T,st2,f2,ds,Z1,G1,w1,zs,ρf,r1,it1,hfi,ec,hil,kk⟩:=h2;refine zmK (RR:=λacc C=>compPost (model X.prog X.w) X.A X.xe (some (assign (.Name x px) X.env)) (λ_ s'=>SP X pS D .next s') acc C) hc hb hkind hcell hfr hblk hcl hcf I2 T st2 f2 r1 it1 hfi ec λDa L s' as G' H' w' I' lo st rel h0 h1 h2 h3 q=>?_;show wpAny _ X.A (assign (.Name x px) X.env (.ref Da)) _ _ _;refine wpAny_assign_Name (zhd I' hN hix hx (v:=.ref Da) rfl (λs'' I'' hch=>?_) hf);obtain ⟨mm,hn⟩:=lo.ns;obtain ⟨a,sb,ha⟩:=hch;have hLa:L≠a:=by
  rcases ha with z|z
  ·rw[z];exact lo.nl
  ·exact λy=>lo.nc x a z y.symm
 refine ⟨mm,hn.sameBut sb hLa,λh' hsb=>⟨Y.set i (some (.ref Da)),H',?_,?_⟩⟩
 ·exact I''.turned (t':=s''.toks) (λb o hb e=>(hsb.2 b hb).trans e) lo.fr lo.nl lo.nw lo.nc lo.np
 ·have hlr:i<(ρf.take Z1.length).length:=by rw[rel.len,<- r1.len];exact hil
  obtain ⟨r',s'⟩:=rel.setOwn2 hlr hp h1 h2 h3 q st h0 r1.en.k;exact kk _ _ _ _ s' r'
end
theorem zh9{α β:Type}{F F':α->β->Prop}{b:α}{d':β}:∀{l:List α}{r:List β}{j:Nat},Paired F l r->l.Nodup->l[j]? = some b->(∀ c d,c≠b->F c d->F' c d)->F' b d'->Paired F' l (r.set j d')
 |_,_,j,.nil,_,e,_,_=>by simp at e
 |x::l,y::r,0,.cons h t,nd,e,k,n=>by simp at e;subst e;refine .cons n (zb4 t λc d hc q=>k c d (λz=>?_) q);subst z;exact (List.nodup_cons.mp nd).1 hc
 |x::l,y::r,j+1,.cons h t,nd,e,k,n=>by
  have e':l[j]? = some b:=by simpa using e
  refine .cons (k x y (λz=>?_) h) (zh9 t (List.nodup_cons.mp nd).2 e' k n);subst z;exact (List.nodup_cons.mp nd).1 (waH e')
theorem zhG{α β:Type}{F:α->β->Prop}:∀{l:List α}{r:List β}{j:Nat}{d:β},Paired F l r->r[j]? = some d->∃ a,l[j]? = some a/\F a d
 |_,_,j,d,.nil,e=>by simp at e
 |x::l,y::r,0,d,.cons h t,e=>by simp at e;subst e;exact ⟨x,rfl,h⟩
 |x::l,y::r,j+1,d,.cons h t,e=>by obtain ⟨a,h1,h2⟩:=zhG (j:=j) t (by simpa using e);exact ⟨a,by simpa using h1,h2⟩
theorem Rel.mutate2{K:W.Frag}{C:Cn}{Y:L2.St}{G H:Hp}{w:Wn}{Z:Ev}{i j:Nat}{dss:List (List Dt)}{ds':List Dt}{a b:Addr}{as:List Addr}{us':List V}(r:Rel K C G w Z Y H)(hi:Z[i]? = some (some (.own2 dss)))(hv:Y[i]? = some (some (.ref a)))(hw:w a=some i)
  (ha:H a=some (.lst (as.map V.ref))) (nd:(a::as).Nodup) (hp:Paired (λb ds=>w b=some i/\∃ vs,H b=some (.lst vs)/\za1 K G ds vs) as dss) (hb:as[j]? = some b) (h':za1 K G ds' us') :
  Rel K C G w (Z.set i (some (.own2 (dss.set j ds')))) Y (upd H b (.lst us'))/\zbu G H w G (upd H b (.lst us')) w:=by
 have hbm:b∈as:=waH hb;obtain ⟨_,hwb,_⟩:=zda hp b hbm;have gb:G b=none:=r.wg b (by rw[hwb];simp);have nab:a≠b:=λz=>(List.nodup_cons.mp nd).1 (z ▸ hbm);have st:zbu G H w G (upd H b (.lst us')) w:=by
  refine ⟨.refl _,λc o e=>.inl (by rw[e];simp),λc o e z=>?_,λ_ e=>.inl e,λc e=>?_⟩
  ·have:c≠b:=λq=>by subst q;rw[hwb] at z;cases z
   rw[zag this];exact e
  ·by_cases hc:c=b
   ·subst hc;rw[zan] at e;cases e
   ·rw[zag hc] at e;exact e
 refine ⟨⟨λc o e=>?_,r.wg,λc e=>?_,by simpa using r.len,λk bb e=>?_,r.en.trans st,r.pin⟩,st⟩
 ·rw[zag (zah e gb)];exact r.gh c o e
 ·by_cases hc:c=b
  ·subst hc;rw[zan];simp
  ·rw[zag hc];exact r.wh c e
 ·by_cases hk:k=i
  ·subst hk;rw[List.getElem?_set_self (List.getElem?_eq_some_iff.mp hi).1] at e;cases e;refine ⟨_,hv,a,as,rfl,hw,by rw[zag nab];exact ha,nd,?_⟩;refine zh9 hp (List.nodup_cons.mp nd).2 hb (λc ds nc ⟨q1,vs,q2,q3⟩=>⟨q1,vs,by rw[zag nc];exact q2,q3⟩) ⟨hwb,us',zan,h'⟩
  ·rw[List.getElem?_set_ne (Ne.symm hk)] at e;obtain ⟨v',h1,h2⟩:=r.sl k bb e;refine ⟨v',h1,h2.grow (.refl _) λc o e1 e2=>⟨?_,e1⟩⟩;have:c≠b:=λz=>by subst z;rw[hwb] at e1;exact hk (waA e1).symm
   rw[zag this];exact e2
def zkc(i jx:Nat)(fk:De):De:=λZ=>match Z[i]? with
 |some (some (.own2 _))=>(fk Z).bind λk=>match k.2[i]?,k.1,k.2[jx]? with
  |some (some (.own2 dss)),.int n,some (some (.val d))=>match ixN dss.length n with
   |some j=>match dss[j]? with
    |some ds=>if ds.length<16777216 then .ok (.non,k.2.set i (some (.own2 (dss.set j (ds++[d]))))) else .no
    |none=>.no
   |none=>.no
  |_,_,_=>.no
 |_=>.no
section
variable{X:Cx}{C:Cn}{k:Expr}{fk:De}{pos ps py sp apos:Pos}{x y:Str}
theorem zs9(i jx:Nat)(hk:JE X C k fk)(hN:X.N[i]? = some x:=by rfl)(hNy:X.N[jx]? = some y:=by rfl)(hv:Vis X.env.scope x:=by exact xwV)(hvy:Vis X.env.scope y:=by exact xwV)
  (hd:(x == ("__debug__" : Str))=false:=by decide) (hcd:(x == ("__classdict__" : Str))=false:=by decide) (hdy:(y == ("__debug__" : Str))=false:=by decide) (hcdy:(y == ("__classdict__" : Str))=false:=by decide)
  (hix:zhV k:=by exact λ_ _=>rfl)
  (hbase:attributeBase (.Subscript (.Name x ps) k sp) "append" X.env (eval (.Subscript (.Name x ps) k sp) X.env)=eval (.Subscript (.Name x ps) k sp) X.env:=by rfl)
  (hfew:((backTo pos (starEach [.Name y py] X.env)).all (λx=>!x.1) && (backToKw pos (keywordEach [] X.env)).all (λx=>x.1.isSome) && decide ([Expr.Name y py].length+([]:List Keyword).length+(if ([]:List Keyword).isEmpty then 0 else 1)<30))=true:=by rfl)
  (hline:(apos.endLine == pos.line)=true:=by rfl) (hs:starEach [.Name y py] X.env=(false,eval (.Name y py) X.env)::starEach [] X.env:=by rfl) (hplain:(backTo pos (starEach [] X.env)).any (·.1)=false:=by rfl) :
  JE X C (.Call (.Attribute (.Subscript (.Name x ps) k sp) "append" apos) [.Name y py] [] pos) (zkc i jx fk) :=
 PE.weak (zo1 PySem.F.plainAttrs_list PySem.F.slot_list_append PySem.F.type_list_append zgY (zta zkJ (zcq hN hv hd hcd) hk hix) (zbb (zcq hNy hvy hdy hcdy) zcD hs) hbase hfew hline hs hplain) λY H Q ⟨G,w,Z,r,p⟩=>by
  unfold zkc at p;split at p
  ·rename_i dss0 e0;obtain ⟨v0,h0,_⟩:=r.sl i _ e0;refine ⟨v0,h0,?_⟩;refine zdE (κ:=λG H w=>kE X.K C Y Q G H w) zbI r p λd Z1 v G1 H1 w1 r1 s1 q1 p1=>?_;dsimp only at p1;split at p1
   ·rename_i dss n dy e1 ey;split at p1
    ·rename_i j ej;split at p1
     ·rename_i ds eds;split at p1
      ·rename_i hl;obtain ⟨v1,g1,a,as,rfl,g2,g3,g4,g5⟩:=r1.sl i _ e1;rw[h0] at g1;cases g1;obtain ⟨b,eb,hwb,us,hb,hrs⟩:=zhG g5 eds;obtain ⟨vy,gy,hy⟩:=r1.sl jx _ ey;have hlen:=zf5 g5;have hat:atI (as.map V.ref) n=some (.ref b):=by unfold atI;rw[List.length_map,hlen,ej];simp only[Option.bind_some];rw[List.getElem?_map,eb];rfl
       have hy':Rep X.K G1 dy vy:=hy;obtain ⟨r',s'⟩:=r1.mutate2 e1 h0 g2 g3 g4 g5 eb (hrs.append (za1.cons hy' za1.nil));exact ⟨a,as.map V.ref,n,.ref b,rfl,za6 q1,SqL.of g3,hat,.inl ⟨rfl,us,SqL.of hb⟩,vy,gy,b,us,vy,rfl,rfl,hb,by rw[<- hrs.length,zdA];exact hl,p1 _ _ _ _ s' r' (by unfold Rep;rfl)⟩
      ·exact waO p1
     ·exact waO p1
    ·exact waO p1
   ·exact waO p1
  ·exact p.elim
end
theorem zuw:bootBuiltins "len"=some (.builtin "len"):=PySem.boot_len
theorem zrn:bootBuiltins "max"=some (.builtin "max"):=PyProof.Rows.boot_max
theorem zr4:bootBuiltins "min"=some (.builtin "min"):=PyProof.Rows.boot_min
theorem ztJ:bootBuiltins "all"=some (.builtin "all"):=PyProof.Rows.boot_all
theorem zdf:bootBuiltins "isinstance"=some (.builtin "isinstance"):=PyProof.Rows.boot_isinstance
theorem zei:bootBuiltins "tuple"=some (.type "tuple"):=by decide +kernel
theorem zif:bootBuiltins "list"=some (.type "list"):=by decide +kernel
theorem znj:bootBuiltins "int"=some (.type "int"):=by decide +kernel
theorem zkX:bootBuiltins "bool"=some (.type "bool"):=by decide +kernel
section
variable{X:Cx}{C:Cn}{a b e:Expr}{fa fb:De}{p pos:Pos}
theorem zfe(hm:X.mg "len"=none)(ha:JE X C e fa)(hg:Gl X "len":=by rfl)(hs:starEach [e] X.env=(false,eval e X.env)::starEach [] X.env:=by rfl)(hpl:(backTo pos (starEach [] X.env)).any (·.1)=false:=by rfl):JE X C (.Call (.Name "len" p) [e] [] pos) (dFn zcG (dA fa dA0)) :=
 zej ztK zuV (zfM.or zjd) hg hm zuw (zao ha za4 hs) xwd xwd hs hpl
theorem zvg(hc:X.calm=true)(hm:X.mg "max"=none)(ha:JE X C a fa)(hb:JE X C b fb)(hg:Gl X "max":=by rfl)(hs:starEach [a,b] X.env=(false,eval a X.env)::starEach [b] X.env:=by rfl)(hs2:starEach [b] X.env=(false,eval b X.env)::starEach [] X.env:=by rfl)(hpl:(backTo pos (starEach [b] X.env)).any (·.1)=false:=by rfl):JE X C (.Call (.Name "max" p) [a,b] [] pos) (dFn ziC (dA fa (dA fb dA0))) :=
 zej ztk ztn (zoW hc) hg hm zrn (zao ha (zao hb za4 hs2) hs) xwd xwd hs hpl
theorem zvn(hc:X.calm=true)(hm:X.mg "min"=none)(ha:JE X C a fa)(hb:JE X C b fb)(hg:Gl X "min":=by rfl)(hs:starEach [a,b] X.env=(false,eval a X.env)::starEach [b] X.env:=by rfl)(hs2:starEach [b] X.env=(false,eval b X.env)::starEach [] X.env:=by rfl)(hpl:(backTo pos (starEach [b] X.env)).any (·.1)=false:=by rfl):JE X C (.Call (.Name "min" p) [a,b] [] pos) (dFn zi8 (dA fa (dA fb dA0))) :=
 zej zsO zsj (zn6 hc) hg hm zr4 (zao ha (zao hb za4 hs2) hs) xwd xwd hs hpl
theorem ztO(hc:X.calm=true)(hm:X.mg "min"=none)(ha:JE X C e fa)(hg:Gl X "min":=by rfl)(hs:starEach [e] X.env=(false,eval e X.env)::starEach [] X.env:=by rfl)(hpl:(backTo pos (starEach [] X.env)).any (·.1)=false:=by rfl):JE X C (.Call (.Name "min" p) [e] [] pos) (dFn zkf (dA fa dA0)) :=
 zej ztf zs4 (zoN hc) hg hm zr4 (zao ha za4 hs) xwd xwd hs hpl
theorem zue(hc:X.calm=true)(hm:X.mg "max"=none)(ha:JE X C e fa)(hg:Gl X "max":=by rfl)(hs:starEach [e] X.env=(false,eval e X.env)::starEach [] X.env:=by rfl)(hpl:(backTo pos (starEach [] X.env)).any (·.1)=false:=by rfl):JE X C (.Call (.Name "max" p) [e] [] pos) (dFn zjq (dA fa dA0)) :=
 zej zso zrO (zoT hc) hg hm zrn (zao ha za4 hs) xwd xwd hs hpl
theorem zsl(hc:X.calm=true)(hm:X.mg "all"=none)(ha:JE X C e fa)(hg:Gl X "all":=by rfl)(hs:starEach [e] X.env=(false,eval e X.env)::starEach [] X.env:=by rfl)(hpl:(backTo pos (starEach [] X.env)).any (·.1)=false:=by rfl):JE X C (.Call (.Name "all" p) [e] [] pos) (dFn zkK (dA fa dA0)) :=
 zej ztV zuR (zoH hc) hg hm ztJ (zao ha za4 hs) xwd xwd hs hpl
theorem znU(hm:X.mg "tuple"=none)(ha:JE X C e fa)(hg:Gl X "tuple":=by rfl)(hs:starEach [e] X.env=(false,eval e X.env)::starEach [] X.env:=by rfl)(hpl:(backTo pos (starEach [] X.env)).any (·.1)=false:=by rfl):JE X C (.Call (.Name "tuple" p) [e] [] pos) (dFn ze9 (dA fa dA0)) :=
 zo7 zqy zqP zhU hg hm zei (zao ha za4 hs) xwd xwd hs hpl
theorem zvr(hm:X.mg "list"=none)(ha:JE X C e fa)(hg:Gl X "list":=by rfl)(hs:starEach [e] X.env=(false,eval e X.env)::starEach [] X.env:=by rfl)(hpl:(backTo pos (starEach [] X.env)).any (·.1)=false:=by rfl):JN X C (.Call (.Name "list" p) [e] [] pos) (zcV zkR (dA fa dA0)) :=
 znL zrN zsh zjT hg hm zif (zao ha za4 hs) xwd xwd hs hpl
end
theorem zcH{nw:Bool}{P:Program}{w:World}{K:W.Frag}{mg:Str->Option Value}{base:Heap}{CX:CXT}{xv:Nat->Value}{k:Nat}{x qual:Str}{st:Stmt}{f:Addr}{fd:FuncData}{ps:List Str}{ks:List Bool}(hl:ps.length=ks.length)(U:Fun K x qual st f fd)(hm:mg x=some (.ref f))(hb:zf2 K fd ps []) :
  Dfn nw P w K mg base CX xv k x ks (λ_=>.no) :=
 ⟨f,fd,ps,⟨λvs H Q E ⟨_,_,_,h,_⟩=>h.trans hl.symm,λ_ _ _ _ _ _ _ _ _ _ _ _ _ ⟨_,_,_,_,_,_,h⟩=>waO h⟩,hm,U.kp,hb,λbs h=>absurd rfl h⟩
theorem zhx{k:Nat}{A:Around}(hr:zdD k A):A.units+64<cLine:=by have:=hr.un;omega
theorem zqx{k:Nat}{A:Around}(hr:zdD k A):A.units+65<cLine:=by have:=hr.un;omega
theorem zbg{names:List (Str×NameKind)}(h:(names.all λy=>y.2 != .cell)=true):∀ y∈names,y.2≠.cell:=λy hy z=>by rw[List.all_eq_true] at h;have:=h y hy;rw[z] at this;simp at this
theorem zbT{names:List (Str×NameKind)}(h:(names.all λy=>y.2 != .local || (names.lookup y.1 == some .local))=true):∀ y∈names,y.2=.local->names.lookup y.1=some .local:=λy hy z=>by rw[List.all_eq_true] at h;have:=h y hy;rw[z] at this;simpa using this
theorem zbA{names:List (Str×NameKind)}{env:Env}(h:(names.all λy=>y.2 != .free || (env.kindOf y.1 == some .cell || env.kindOf y.1 == some .free))=true):∀ y∈names,y.2=.free->env.kindOf y.1=some .cell\/env.kindOf y.1=some .free:=λy hy z=>by rw[List.all_eq_true] at h;have:=h y hy;rw[z] at this;simpa using this
end PV
end
section
namespace PV
open PySem PySem.Spec L2 PyProof.Rows
theorem znD{P:Program}{w:World}{H:Hp}{h h':Heap}(x:HOk P w H h)(k:∀ b u o,H b=some u->h.get? b=some o->h'.get? b=some o):HOk P w H h':=λa o e =>
 (x a o e).stay (λb u hb q=>by
  rcases hb with rfl|hb
  ·exact k _ _ _ e q
  ·exact k _ _ _ hb q) (λ_ z=>z) λ_ _ z=>z
theorem zun{P:Program}{w:World}{H:Hp}{h:Heap}{a:Addr}{o:HO}(x:zcw P w H h a o):∃ u,h.get? a=some u:=by
 induction o with
 |lst xs=>obtain ⟨_,_,_,_,e⟩:=x;exact ⟨_,e⟩
 |tup xs=>obtain ⟨_,_,_,_,e⟩:=x;exact ⟨_,e⟩
 |dK kvs=>obtain ⟨_,_,_,_,_,_,_,e,_⟩:=x;exact ⟨_,e⟩
 |dT kvs=>obtain ⟨_,_,_,_,_,_,_,e,_⟩:=x;exact ⟨_,e⟩
 |set S n=>obtain ⟨_,_,_,_,e,_⟩:=x;exact ⟨_,e⟩
 |ins C dx fs=>obtain ⟨_,_,_,e,_⟩:=x;exact ⟨_,e⟩
 |own y=>exact x
 |xd fs=>obtain ⟨_,⟨_,_,_,e,_⟩,_⟩:=x;exact ⟨_,e⟩
 |met f y=>exact ⟨_,x⟩
 |rng lo hi=>obtain ⟨_,_,_,e⟩:=x;exact ⟨_,e⟩
 |frz ob u ih=>exact ⟨_,x.1⟩
 |tbl ps=>exact ⟨_,x⟩
 |ext φ => exact x.2.1
def CXf(P:Program)(w:World):CXT:=λouter H s E e s' =>
 ∃(l:Addr)(cls a0:Value)(B:Heap)(H':Hp),e=.ref l/\s'.os=s.os/\AllBare s'.gens/\Un (frs outer) [] H H' s.heap s'.heap/\HOk P w H' s'.heap/\Heap.FlyingW B outer l cls a0 s'.heap /\
  (∀ b o,s.heap.get? b=some o->b∉frs outer->∃ u,B.get? b=some u)/\(∀ b u,H' b=some u->∃ o,B.get? b=some o)/\s.heap.get? l=none/\E cls none H'
def CXm:CXT:=λ_ H s E e s'=>∃(l:Addr)(cls:Value)(args:List Value)(h':Heap),e=.ref l/\s'={ s with heap:=h' }/\Heap.MadeExcOf s.heap h' l cls args/\E cls none H
def CXe(P:Program)(w:World):CXT:=λouter H s E e s'=>CXf P w outer H s E e s'\/CXm outer H s E e s'
theorem CXf.imp{P:Program}{w:World}{outer:List Env}{H:Hp}{s s':Shared}{E E':XK}{e:Value}(h:CXf P w outer H s E e s')(k:∀ u a H',E u a H'->E' u a H'):CXf P w outer H s E' e s':=by obtain ⟨l,cls,a0,B,H',h1,h2,h3,h4,h5,h6,h7,h8,h9,h10⟩:=h;exact ⟨l,cls,a0,B,H',h1,h2,h3,h4,h5,h6,h7,h8,h9,k _ _ _ h10⟩
theorem CXe.none{P:Program}{w:World}{outer:List Env}{H:Hp}{s s':Shared}{e:Value}(h:CXe P w outer H s (λ_ _ _=>False) e s'):False:=by rcases h with ⟨_,_,_,_,_,_,_,_,_,_,_,_,_,_,z⟩|⟨_,_,_,_,_,_,_,z⟩ <;> exact z
theorem zlx{env:Env}{outer:List Env}{L:Addr}(h:env.frame=some L):frs (env::outer)=L::frs outer:=by unfold frs;rw[List.filterMap_cons,h]
theorem zkg{P:Program}{w:World}{base:Heap}{A:Around}{env:Env}{outer:List Env}{s0 s1 s2:Shared}{H0 H1:Hp}{E E':XK}{e:Value}
  (hf:env.frame=some env.locals) (hfr:A.frames=some (env::outer)) (hL:s0.heap.objs.size<=env.locals) (os1:s1.os=s0.os) (bare1:AllBare s1.gens) (u01:Un (frs outer) [] H0 H1 s0.heap s1.heap) (frf:∀ b∈frs outer,H0 b=none)
  (fun1:s1.heap.FunFrames base (env::outer)) (hok1:HOk P w H1 s1.heap) (fr1:∀ b∈frs (env::outer),H1 b=none) (hx:CXe P w (env::outer) H1 s1 E' e s2) (hE:∀ u a H',E' u a H'->E u a H') {M:Model} {EE:Value->Shared->Prop} :
  wpAny M A (leaving env e) (λ_ s3=>CXf P w outer H0 s0 E e s3) EE s2:=by
 have inS:∀{b:Addr}{o:Obj},s0.heap.get? b=some o->b∉frs outer->b∉frs (env::outer):=λ{b o} e1 h1 h2=>by
  rw[zlx hf] at h2;rcases wap.mp h2 with z|z
  ·have:=wai e1;rw[z] at this;exact absurd (was this hL) (waL _)
  ·exact h1 z
 have newS:∀{b:Addr},s1.heap.get? b=none->s0.heap.get? b=none:=λ{b} e1=>by
  cases q:s0.heap.get? b with
  |none=>rfl
  |some o=>obtain ⟨o',e2⟩:=u01.there b o q xws;rw[e1] at e2;cases e2
 have outS:∀{b:Addr},b∈frs outer->b∈frs (env::outer):=λ{b} h=>by rw[zlx hf];exact wah _ h
 rcases hx with ⟨l,cls,a0,B,H',rfl,os,bare,un,hok,fl,hb1,hb2,hnw,he⟩|⟨l,cls,args,h',rfl,rfl,hm,he⟩
 ·refine wpAny_leaves_onW (base:=B) hfr hf fl λh3 fl3 up=>?_;have at3:∀{b:Addr}{u:Obj},B.get? b=some u->s2.heap.get? b=some u/\h3.get? b=some u:=λ{b u} e=>⟨fl.1 b u e,fl3.1 b u e⟩
  have slot:∀ b o,s0.heap.get? b=some o->b∈frs outer->∃ sl,h3.get? b=some { o with slots:=sl }:=λb o e1 hb=>by obtain ⟨sl1,e2⟩:=u01.slot b o e1 (frf b hb) hb xws;obtain ⟨sl2,e3⟩:=un.slot b _ e2 (u01.free b o e1 (frf b hb) xws) (outS hb) xws;obtain ⟨_,o4,e4,d4⟩:=fl.2.2.1.mem (b:=b) (outS hb);rw[e3] at e4;cases e4;obtain ⟨sl3,e5⟩:=up b _ e3 d4;exact ⟨sl3,e5⟩
  have hb1':∀ b o,s0.heap.get? b=some o->b∉frs outer->∃ u,B.get? b=some u:=λb o e1 hb=>by obtain ⟨o1,e2⟩:=u01.there b o e1 xws;exact hb1 b o1 e2 (inS e1 hb)
  refine ⟨l,cls,a0,B,H',rfl,os.trans os1,bare,⟨λb o e1 n hb _=>?_,λb o e1 n hb _=>slot b o e1 hb,λb o e1 n _=>?_,λb o e1 _=>?_,λb xs q=>un.tups b xs (u01.tups b xs q),λb o u q=>un.frzs b o u (u01.frzs b o u q),λb ps q=>?_⟩,znD hok λb u o q1 q2=>?_,fl3,hb1',hb2,newS hnw,hE _ _ _ he⟩
  ·have e2:=u01.keep b o e1 n hb xws;have n2:=u01.free b o e1 n xws;have e3:=un.keep b o e2 n2 (inS e1 hb) xws;obtain ⟨u,hu⟩:=hb1' b o e1 hb;obtain ⟨q1,q2⟩:=at3 hu;rw[e3] at q1;cases q1;exact q2
  ·obtain ⟨o1,e2⟩:=u01.there b o e1 xws;exact un.free b o1 e2 (u01.free b o e1 n xws) xws
  ·by_cases hb:b∈frs outer
   ·obtain ⟨sl,e2⟩:=slot b o e1 hb;exact ⟨_,e2⟩
   ·obtain ⟨u,hu⟩:=hb1' b o e1 hb;exact ⟨u,(at3 hu).2⟩
  ·obtain ⟨m1,e1⟩:=u01.tbls b ps q;obtain ⟨m2,e2⟩:=un.tbls b _ e1;exact ⟨m1++m2,by rw[e2,Array.append_assoc]⟩
  ·obtain ⟨o',ho'⟩:=hb2 b u q1;obtain ⟨z1,z2⟩:=at3 ho';rw[q2] at z1;cases z1;exact z2
 ·
  let fs:=frs (env::outer);have hin:∀ x∈env::outer,∀ a,x.frame=some a->a∈fs:=λx hx a ha=>List.mem_filterMap.mpr ⟨x,hx,ha⟩;refine wpAny_leaves_madeW (base:=W.hideAll s1.heap fs) (h:=s1.heap) hfr hf (λb o q=>W.of_hideAll _ q) (W.funFrames_hide fun1 hin) hm λh3 t fl3 _ _ up=>?_;have at3:∀{b:Addr}{u:Obj},s1.heap.get? b=some u->b∉fs->h3.get? b=some u:=λ{b u} e n=>fl3.1 b u (W.hideAll_get _ e n);have slot:∀ b o,s0.heap.get? b=some o->b∈frs outer->∃ sl,h3.get? b=some { o with slots:=sl }:=λb o e1 hb=>by obtain ⟨sl1,e2⟩:=u01.slot b o e1 (frf b hb) hb xws;obtain ⟨_,o4,e4,d4⟩:=fun1.mem (b:=b) (outS hb);rw[e2] at e4;cases e4;obtain ⟨sl3,e5⟩:=up b _ (hm.keeps _ _ e2) d4;exact ⟨sl3,e5⟩
  have hb1':∀ b o,s0.heap.get? b=some o->b∉frs outer->∃ u,(W.hideAll s1.heap fs).get? b=some u:=λb o e1 hb=>by obtain ⟨o1,e2⟩:=u01.there b o e1 xws;exact ⟨o1,W.hideAll_get _ e2 (inS e1 hb)⟩
  have tr:∀ b u,H1 b=some u->b∉fs:=λb u e z=>by rw[fr1 b z] at e;cases e
  refine ⟨l,cls,.ref t,W.hideAll s1.heap fs,H1,rfl,os1,bare1,⟨λb o e1 n hb _=>at3 (u01.keep b o e1 n hb xws) (inS e1 hb),λb o e1 n hb _=>slot b o e1 hb,λb o e1 n _=>u01.free b o e1 n xws,λb o e1 _=>?_,u01.tups,u01.frzs,u01.tbls⟩,znD hok1 λb u o q1 q2=>at3 q2 (tr b u q1),fl3,hb1',λb u q=>?_,newS hm.new,hE _ _ _ he⟩
  ·by_cases hb:b∈frs outer
   ·obtain ⟨sl,e2⟩:=slot b o e1 hb;exact ⟨_,e2⟩
   ·obtain ⟨u,hu⟩:=hb1' b o e1 hb;exact ⟨u,fl3.1 b u hu⟩
  ·obtain ⟨o,ho⟩:=zun (hok1 b u q);exact ⟨o,W.hideAll_get _ ho (tr b u q)⟩
theorem zaF{P:Program}{w:World}{K:W.Frag}{mg:Str->Option Value}{base:Heap}:zrs (CXe P w) P w K mg base:=λN qual scope f cdv A outer s H E E' hk hE pS Y H1 s1 e s2 I hx=>by have I':=I;refine wpAny_mono (zkg (base:=base) (s0:=s) (H0:=H) (E:=E) rfl I.ok.frames (wal _) I.os I.bare I.base I.ok.frf I.stack I.hok I.stkFree hx hE) (λ_ s3 h=>.inl h) λ_ _ h=>h
def zhI(n:Nat)(f:DA):DS:=λZ=>(f Z).bind λa=>if zdC a.1=true then .er n else .no
structure Xcls(K:W.Frag)(C:Addr):Prop where
 ex:∃ bm N nm q bs hdct sn sub ab col dd k0 k1 k2 k3 k5,K.lookup C=some (excClassObj nm q C N bs bm hdct sn sub ab col dd k0 k1 k2 k3 k5 "ValueError.__new__")/\(∀ h:Heap,K.In h->∃ mN,h.Ns N mN/\mN "__init__"=none)/\(∀ h:Heap,K.In h->OwnTail h [.type "ValueError",.type "Exception",.type "BaseException",.type "object"] bm)
section
variable{X:Cx}{C:Cn}{x:Str}{Cc:Addr}{np cpos pos:Pos}{e:Expr}{es:List Expr}{fa:DA}{n:Nat}{P:Program}{w:World}
theorem zi4(hx:zcW (CXe P w) X (EXc C))(hc:X.calm=true)(hcl:Xcls X.K Cc)(hm:X.mg x=some (.ref Cc))(hxv:C.xv n=.ref Cc)(ha:JA X C (e::es) fa)(hg:Gl X x:=by rfl)(hd:(x == ("__debug__" : Str))=false:=by decide)
  (he:starEach (e::es) X.env=(false,eval e X.env)::starEach es X.env:=by rfl) (hpl:(backTo cpos (starEach es X.env)).any (·.1)=false:=by rfl):JS X C (.Raise (some (.Call (.Name x np) (e::es) [] cpos)) none pos) (zhI n fa):=by
 intro pS s Y H D I ⟨G,w1,Z,r,p⟩;obtain ⟨tl,N,nm,q,bs,hdct,sn,sub,ab,col,dd,k0,k1,k2,k3,k5,lk,hN,hT⟩:=hcl.ex;obtain ⟨mN,hNs,hni⟩:=hN _ I.mod.kin;refine wpAny_Raise_call_subT (C:=Cc) (nm:=nm) (q:=q) (N:=N) (bs:=bs) (bm:=tl) (hdct:=hdct) (sn:=sn) (sub:=sub) (ab:=ab) (col:=col) (dd:=dd) (k0:=k0) (k1:=k1) (k2:=k2) (k3:=k3) (k5:=k5)
  F.excBase_ValueError (mN:=mN) ((hT _ I.kIn).hasType F.excBase_ValueError.hasBase) (I.ok.hd hc) (by rw[he];show (false || (backTo cpos (starEach es X.env)).any (·.1))=false;rw[hpl];rfl) hni (zg5 I hg hm ⟨rfl,?_⟩ hd)
 suffices hh:wpAny (model X.prog X.w) X.A (spliced (backTo cpos (starEach (e::es) X.env))) (λvs s₂=>([]:List (Str×Value))=[]/\vs.length<=sizeLine/\s₂.heap.get? Cc=some (excClassObj nm q Cc N bs tl hdct sn sub ab col dd k0 k1 k2 k3 k5 "ValueError.__new__")/\s₂.heap.Ns N mN/\OwnTail s₂.heap [.type "ValueError",.type "Exception",.type "BaseException",.type "object"] tl /\
   ∀ h' a,Heap.MadeExcOf s₂.heap h' a (.ref Cc) vs->X.xe (.ref a) { s₂ with heap:=h' }) X.xe s by
  rw[he] at hh ⊢;exact Calls.evalArgs_plain hh
 refine thn (ha cpos pS s Y H (λvs H2=>vs.length<=sizeLine/\EXc C (.ref Cc) none H2) I ?_) λus s2 ⟨vs,H2,I2,rv,hz,hE⟩=>⟨rfl,by rw[<- rv.length];exact hz,I2.kIn _ _ lk,hNs.keeps I2.bk,hT _ I2.kIn,λh' a hm'=>?_⟩
 ·refine ⟨G,w1,Z,r,?_⟩;have p':zcm C.ex (kS X.K C D G H w1) ((fa Z).bind λa=>if zdC a.1=true then R.er n else .no):=p;cases ef:fa Z with
  |ok z =>
   rw[ef,R.bind_ok] at p';intro vs G' H' w' st rel q1;by_cases hf:zdC z.1=true
   ·rw[if_pos hf] at p';exact ⟨by rw[<- q1.length];exact zgV hf,rfl,n,hxv.symm,p',G',w',r.en.trans st⟩
   ·rw[if_neg hf] at p';exact p'.elim
  |er m=>rw[ef] at p';exact p'
  |no=>rw[ef] at p';exact p'.elim
 ·exact hx pS Y H2 s2 (.ref a) _ I2 (.inr ⟨a,.ref Cc,us,h',rfl,rfl,hm',hE⟩)
end
abbrev bmV:List Value:=[.type "ValueError",.type "Exception",.type "BaseException",.type "object"]
structure Xin(K:W.Frag)(D:Addr):Prop where
 exc:W.excIn K D bmV "ValueError.__new__"=true
 ga:W.findIn K (.ref D) "__getattribute__"=some (some (.builtin "BaseException.__getattribute__"))
 gh:W.findIn K (.ref D) "__getattr__"=some none
 gc:W.findIn K (.ref D) "__class__"=some (some (.builtin "object.__class__"))
 mb:W.subIn K (.ref D) (.type "BaseException")=some true
theorem zdS{K:W.Frag}{C:Addr}(q:W.excIn K C bmV "ValueError.__new__"=true):∃ bm N nm qn bs hd sn sub ab col dd k0 k1 k2 k3 k5,
  K.lookup C=some (excClassObj nm qn C N bs bm hd sn sub ab col dd k0 k1 k2 k3 k5 "ValueError.__new__")/\W.tailIn K bmV bm=true/\W.nsOkIn K N=true/\W.nsIn K N "__init__"=some none:=by
 unfold W.excIn at q;split at q
 ·rename_i dd cd sl lk;split at q
  ·rename_i C2 bm k0 k1 k2 k3 mk k5 em es;simp only[wae,beq_iff_eq,Bool.not_eq_true'] at q;obtain ⟨⟨⟨⟨⟨e1,e2⟩,e3⟩,e4⟩,e5⟩,e6⟩:=q;subst e1 e2;obtain ⟨nm,bs,mro,ns,qn,hd,sn,sub,ab,col,del⟩:=cd;obtain ⟨sll⟩:=sl;dsimp only at em es e3 e5 e6;subst em e3 es;exact ⟨bm,ns,nm,qn,bs,hd,sn,sub,ab,col,dd,k0,k1,k2,k3,k5,lk,e4,e5,e6⟩
  ·cases q
 ·cases q
theorem Xin.cls{K:W.Frag}{C:Addr}(x:Xin K C):Xcls K C:=by obtain ⟨bm,N,nm,qn,bs,hd,sn,sub,ab,col,dd,k0,k1,k2,k3,k5,lk,e4,e5,e6⟩:=zdS x.exc;exact ⟨bm,N,nm,qn,bs,hd,sn,sub,ab,col,dd,k0,k1,k2,k3,k5,lk,λh X=>⟨_,.of_isNs (W.isNs_of_in X e5),W.nsMap_none_of_in X e5 e6⟩,λh X=>W.tail_of_in X e4⟩
section
variable{prog:Program}{w:World}{A:Around}{E:Value->Shared->Prop}{hh:Heap}{gg:Array GenState}{dr:Drawn}{tt:Nat}{os:OsState}{l C:Addr}{ob:Obj}{K:W.Frag}
theorem zup{R:Result->Shared->Prop}(x:Xin K C)(X:K.In hh)(hl:hh.get? l=some ob)(hcl:ob.cls=.ref C)(hR:R (.ok (.ret (.ref C))) ⟨hh,gg,dr,tt,os⟩) :
  codeAny (model prog w) A (.call (.builtin "getset_descriptor.__get__") ⟨[.builtin "object.__class__",.ref l,.ref C],[]⟩) R ⟨hh,gg,dr,tt,os⟩:=by
 obtain ⟨bm,N,nm,qn,bs,hd,sn,sub,ab,col,dd,k0,k1,k2,k3,k5,lk,e4,e5,e6⟩:=zdS x.exc;have hCl:=X _ _ lk;have TL:=W.tail_of_in X e4;have ty5:(⟨hh,gg,dr,tt,os⟩ : Shared).TypeIs (.builtin "object.__class__") "getset_descriptor":=F.typeOf_object_class;have inO:(Value.ref C::bm).contains (.type (".".intercalate ("object.__class__".cutAt '.').dropLast))=true:=by rw[F.owner_object_class,List.contains_cons,TL.hasType (b:=true) xwd];rfl
 refine codeAny_call_builtin F.slot_gs_get.plain F.entry_gs_get (F.slot_gs_get.check _ _ _ _ _ _ _ _ ty5 (F.args_gs_get _ _ _) ?_)
 repeat (any_goals (first|(with_reducible refine wpAny_loadPart_at hl ?_;rw[hcl])|(with_reducible refine wpAny_isSubtype_exc hCl ?_;rw[inO])|assumption|wp_step))
 refine ⟨Code.quiet_builtin _ xwD,codeAny_builtin F.entry_object_class ?_⟩
 repeat (any_goals (first|(with_reducible refine wpAny_loadPart_at hl ?_;rw[hcl])|assumption|wp_step))
theorem zqC{tk:Tok}{Q:Fin->Shared->Prop}(x:Xin K C)(X:K.In hh)(hl:hh.get? l=some ob)(hcl:ob.cls=.ref C)(hQ:Q (.done (.ret (.ref C))) ⟨hh,gg,dr,tt,os⟩) :
  wpAny (model prog w) A (Builtin.«object.__getattribute__» ⟨[.ref l,.str "__class__" tk],[]⟩) Q E ⟨hh,gg,dr,tt,os⟩:=by
 have ty5:(⟨hh,gg,dr,tt,os⟩ : Shared).TypeIs (.builtin "object.__class__") "getset_descriptor":=F.typeOf_object_class;have to5:=F.typeOf_object_class;have lk6:=F.slot_gs_get.lookup;have lk7:=F.slot_gs_set.lookup;have L1:=W.looks_findIn (M:=model prog w) X x.gc
 repeat (any_goals (first|(with_reducible refine wpAny_loadPart_at hl ?_;rw[hcl])|(with_reducible refine L1.at ?_)|assumption|wp_step))
 refine zup x X hl hcl ?_
 repeat (any_goals (first|assumption|wp_step))
theorem zoU{M:Model}(hl:hh.get? l=some ob)(hcl:ob.cls=.ref C):W.Looks M hh (typeOf (.ref l)) (.ref C):=hcl ▸ (W.Looks.ld hl).andThen .now
theorem zpP{M:Model}{nameV:Value}{Q:Unit->Shared->Prop}(x:Xin K C)(X:K.In hh)(hl:hh.get? l=some ob)(hcl:ob.cls=.ref C)(hQ:Q () ⟨hh,gg,dr,tt,os⟩) :
  wpAny M A (checkBuiltinCall "BaseException.__getattribute__" ⟨[.ref l,nameV],[]⟩) Q E ⟨hh,gg,dr,tt,os⟩:=by
 have e1:builtinKind "BaseException.__getattribute__"=some .slot:=by decide +kernel
 have e2:splitId "BaseException.__getattribute__"=some ("BaseException","__getattribute__"):=by decide +kernel
 have e3:=F.args_bexc_ga (.ref l) nameV;have e4:W.Looks M hh (isInstance (.ref l) (.type "BaseException")) true:=by unfold isInstance;exact (zoU hl hcl).andThen (W.looks_subIn X x.mb)
 simp only[checkBuiltinCall,e1,e2];refine wab (W.Looks.at e4 ?_)
 repeat (first|exact hQ|wp_step)
theorem zvQ{tk:Tok}{Q:Value->Shared->Prop}(x:Xin K C)(X:K.In hh)(hl:hh.get? l=some ob)(hcl:ob.cls=.ref C)(hQ:Q (.ref C) ⟨hh,gg,dr,tt,os⟩) :
  wpAny (model prog w) A (getAttrBy (.ref l) (.str "__class__" tk) false false) Q E ⟨hh,gg,dr,tt,os⟩:=by
 have fb:=F.attrBase_ValueError.ga.bind (.ref l);have n0:(false && onTheHeap (Value.builtin "BaseException.__getattribute__"))=false:=rfl;have n2:(Value.builtin "BaseException.__getattribute__" == Value.builtin "object.__getattribute__")=false:=by decide +kernel
 have n1:(onTheHeap (Value.ref C) && Value.builtin "BaseException.__getattribute__" == Value.builtin "object.__getattribute__")=false:=by rw[n2];rfl
 have L1:=W.looks_findIn (M:=model prog w) X x.ga;have L2:=W.looks_findIn (M:=model prog w) X x.gh
 repeat (any_goals (first|(with_reducible refine wpAny_loadPart_at hl ?_;rw[hcl])|(with_reducible refine W.Looks.at L1 ?_)|(with_reducible refine W.Looks.at L2 ?_)|assumption|wp_step))
 refine codeAny_call_builtin F.attrBase_ValueError.ga.plain F.entry_bexc_ga (zpP x X hl hcl (zqC x X hl hcl ?_))
 repeat (any_goals (first|assumption|wp_step))
theorem zsk{Q:Option Value->Shared->Prop}(x:Xin K C)(X:K.In hh)(hl:hh.get? l=some ob)(hcl:ob.cls=.ref C)(hQ:Q (some (.ref C)) ⟨hh,gg,dr,tt+1,os⟩) :
  wpAny (model prog w) A (getAttr? (.ref l) "__class__") Q E ⟨hh,gg,dr,tt,os⟩:=by
 unfold getAttr? getAttrBy?
 repeat (any_goals (first|(with_reducible apply zvQ x X hl hcl)|assumption|wp_step))
end
def XAt(l C:Addr)(h:Heap):Prop:=∃ o vs,h.get? l=some o/\o.cls=.ref C/\o.data=.fields vs
theorem zq1{K:W.Frag}{l C:Addr}(x:Xin K C):W.KitX K (.ref l) (.ref C) (XAt l C) where
 ty:=λM h X ⟨o,vs,h1,h2,h3⟩=>zoU h1 h2
 it:=λM h X _=>by obtain ⟨bm,N,nm,qn,bs,hd,sn,sub,ab,col,dd,k0,k1,k2,k3,k5,lk,e4,e5,e6⟩:=zdS x.exc;intro A' Q' E' s' k q;unfold isType loadHead;exact wab (wpAny_loadPart (k _ _ (X _ _ lk)) (wad q))
 ne:=λh tp dd its n sl X htp=>by obtain ⟨bm,N,nm,qn,bs,hd,sn,sub,ab,col,dd',k0,k1,k2,k3,k5,lk,e4,e5,e6⟩:=zdS x.exc;refine Bool.eq_false_iff.mpr λq=>?_;obtain rfl:C=tp:=Value.ref.inj (beq_iff_eq.mp q);have z:=congrArg Obj.cls (waA ((X _ _ lk).symm.trans htp));simp[excClassObj] at z
 ca:=λ{prog w A E Q s} X ⟨o,vs,h1,h2,h3⟩ k=>by obtain ⟨hh,gg,dr,tt,os⟩:=s;exact zsk x X h1 h2 k
def zhv(i:Nat)(C:Addr)(b:Bool):De:=λZ=>match Z[i]? with
 |some (some (.exc C'))=>if C'=C then .ok (.bl b,Z) else .no
 |_=>.no
section
variable{X:Cx}{C:Cn}{i:Nat}{Cc C2:Addr}{b:Bool}{x x2:Str}{p px p2 pos:Pos}
theorem zmo{v2:V}{u2:Value}(hxi:Xin X.K Cc)(hu:∀ u,zbO v2 u->u=u2)(hq:W.kitOne X.K (.ref Cc) u2=some b):zcj X (.builtin "isinstance") (λxs H Q=>∃ l,xs=[.ref l,v2]/\H l=some (xHO l Cc)/\Q (.bl b) H):=by intro pS s Y H xs us Q I r h;obtain ⟨l,rfl,hl,q⟩:=h;obtain ⟨u,u',rfl,r1,r2⟩:=zkx r;cases r1;obtain rfl:=hu u' r2;have ok:zcw X.prog X.w H s.heap l (xHO l Cc):=I.hok l _ hl;exact W.kia_one (zq1 hxi) I.kIn ok.1 hq xws λtk=>⟨.bl b,H,I.tok tk,rfl,q⟩
theorem zlX{Y:L2.St}{H:Hp}{Q:VK}{v2:V}(h:tE X.K C (zhv i Cc b) Y H Q):∃ v,Y[i]? = some (some v)/\∃ l,v=.ref l/\H l=some (xHO l Cc)/\Q (.bl b) H:=by
 obtain ⟨G,w,Z,r,p⟩:=h;unfold zhv at p;split at p
 ·rename_i C' e;split at p
  ·rename_i hC;subst hC;obtain ⟨v,h1,l,h2,h3⟩:=r.sl i _ e;exact ⟨v,h1,l,h2,r.gh _ _ h3,p _ G H w (.refl _ _ _) r (zbK _)⟩
  ·exact p.elim
 ·exact p.elim
theorem zfT(i:Nat)(hxi:Xin X.K Cc)(hq:W.kitOne X.K (.ref Cc) (.ref C2)=some b)(hg:Gl X "isinstance")(hm:X.mg "isinstance"=none)(hg2:Gl X x2)(hm2:X.mg x2=some (.ref C2))(hN:X.N[i]? = some x:=by rfl)(hvs:Vis X.env.scope x:=by exact xwV)
  (hd:(x == ("__debug__" : Str))=false:=by decide) (hcd:(x == ("__classdict__" : Str))=false:=by decide) (hv:bootBuiltins "isinstance"=some (.builtin "isinstance"):=by rfl) (hn:("isinstance" : Str)≠"__name__":=by decide) (hdb:(("isinstance" : Str) == ("__debug__" : Str))=false:=by decide) (hdb2:(x2 == ("__debug__" : Str))=false:=by decide)
  (hs:starEach [.Name x px,.Name x2 p2] X.env=(false,eval (.Name x px) X.env)::starEach [.Name x2 p2] X.env:=by rfl) (hs2:starEach [.Name x2 p2] X.env=(false,eval (.Name x2 p2) X.env)::starEach [] X.env:=by rfl) (hpl:(backTo pos (starEach [.Name x2 p2] X.env)).any (·.1)=false:=by rfl) :
  JE X C (.Call (.Name "isinstance" p) [.Name x px,.Name x2 p2] [] pos) (zhv i Cc b) :=
 PE.weak (zdj (zmo (v2:=.ref C2) hxi (λu h=>h) hq) hg hm hv (zbb (zcq hN hvs hd hcd) (zbb (znS (v:=.ref C2) hg2 hm2 rfl hdb2) zcD hs2) hs) hn hdb hs hpl) λY H Q h=>by obtain ⟨v,h1,l,rfl,h2,h3⟩:=zlX (v2:=.ref C2) h;exact ⟨_,h1,l,rfl,h2,h3⟩
theorem zrZ{T:String}(i:Nat)(hxi:Xin X.K Cc)(hq:W.kitOne X.K (.ref Cc) (.type T)=some b)(hg:Gl X "isinstance")(hm:X.mg "isinstance"=none)(hg2:Gl X x2)(hm2:X.mg x2=none)(hv2:bootBuiltins x2=some (.type T))(hN:X.N[i]? = some x:=by rfl)(hvs:Vis X.env.scope x:=by exact xwV)
  (hd:(x == ("__debug__" : Str))=false:=by decide) (hcd:(x == ("__classdict__" : Str))=false:=by decide) (hv:bootBuiltins "isinstance"=some (.builtin "isinstance"):=by rfl) (hn:("isinstance" : Str)≠"__name__":=by decide) (hdb:(("isinstance" : Str) == ("__debug__" : Str))=false:=by decide) (hn2:x2≠"__name__":=by decide) (hdb2:(x2 == ("__debug__" : Str))=false:=by decide)
  (hs:starEach [.Name x px,.Name x2 p2] X.env=(false,eval (.Name x px) X.env)::starEach [.Name x2 p2] X.env:=by rfl) (hs2:starEach [.Name x2 p2] X.env=(false,eval (.Name x2 p2) X.env)::starEach [] X.env:=by rfl) (hpl:(backTo pos (starEach [.Name x2 p2] X.env)).any (·.1)=false:=by rfl) :
  JE X C (.Call (.Name "isinstance" p) [.Name x px,.Name x2 p2] [] pos) (zhv i Cc b) :=
 PE.weak (zdj (zmo (v2:=.ty T) hxi (λu h=>h) hq) hg hm hv (zbb (zcq hN hvs hd hcd) (zbb (zi2 (v:=.ty T) hg2 hm2 hv2 rfl hn2 hdb2) zcD hs2) hs) hn hdb hs hpl) λY H Q h=>by obtain ⟨v,h1,l,rfl,h2,h3⟩:=zlX (v2:=.ty T) h;exact ⟨_,h1,l,rfl,h2,h3⟩
end
def zi3(XR:Cx)(N:List Str)(scope:Scope)(cl:List (Str×Addr))(qual:Str)(Fa:Addr)(cdv:Value)(s:Shared)(H:Hp)(E:XK):Cx where
 prog:=XR.prog
 w:=XR.w
 K:=XR.K
 mg:=XR.mg
 base:=XR.base
 A:=XR.A.deeper (W.envX qual scope s.heap.objs.size Fa cdv cl)
 N:=N
 s₀:=s
 H₀:=H
 env:=W.envX qual scope s.heap.objs.size Fa cdv cl
 outer:=XR.stack
 stack:=W.envX qual scope s.heap.objs.size Fa cdv cl::XR.stack
 ex:=[]
 fn:=λ_=>false
 calm:=true
 pn:=[]
 xe:=λe s'=>wpAny (model XR.prog XR.w) (XR.A.deeper (W.envX qual scope s.heap.objs.size Fa cdv cl)) (leaving (W.envX qual scope s.heap.objs.size Fa cdv cl) e) (λ_ s''=>CXf XR.prog XR.w XR.stack H s E e s'') (λ_ _=>False) s'
def zoY(names:List (Str×NameKind)):Bool:=names.all λy=>match y.2 with
 |.free=>true
 |.globalImplicit=>true
 |_=>false
theorem zf1{names:List (Str×NameKind)}(h:zoY names=true){x:Str}{k:NameKind}(e:names.lookup x=some k):k=.free\/k=.globalImplicit:=by have q:=List.all_eq_true.mp h (x,k) (zaZ e);cases k <;> simp at q <;> simp
structure zij(N:List Str)(names:List (Str×NameKind))(cl:List (Str×Addr))(Y:L2.St)(H:Hp)(h:Heap):Prop where
 inj:∀ x y c,cl.lookup x=some c->cl.lookup y=some c->x=y
 has:∀ x,names.lookup x=some .free->∃ c,cl.lookup x=some c
 is:∀ x c,cl.lookup x=some c->(∃ v,h.IsCell c v)/\H c=none
 val:∀(i:Nat)(x:Str)(v:V),N[i]? = some x->Y[i]? = some (some v)->names.lookup x=some .free->∃ u c,zbO v u/\cl.lookup x=some c/\h.IsCell c (some u)
section
variable{XR:Cx}{pS:List (Addr×Obj)}{σR Y:L2.St}{H:Hp}{s:Shared}{N:List Str}{scope:Scope}{cl:List (Str×Addr)}{qual name:Str}{Fa c':Addr}{params:Arguments}{body:Expr}{pm ctv:Value}{E:XK}
theorem zos{cdv:Value}{h₁:Heap}{tk:Nat}{mm:Str->Option Value}(J:L2.Inv XR pS σR H s)(hc:XR.calm=true)(hk:scope.kind=.function)(ho:zoY scope.names=true)(L:zij N scope.names cl Y H s.heap)(hl:Y.length=N.length)
  (hns:h₁.Ns s.heap.objs.size mm) (hkp:∀ b o,s.heap.get? b=some o->h₁.get? b=some o):L2.Inv (zi3 XR N scope cl qual Fa cdv s H E) [] Y H { s with heap:=h₁,toks:=tk }:=by
 have cellK:∀ c v,s.heap.IsCell c v->h₁.IsCell c v:=λc v ⟨o,e1,e2⟩=>⟨o,hkp c o e1,e2⟩
 refine ⟨⟨J.ok.mod,hk,rfl,rfl,wal _,L.inj,λx hx=>?_,λx c h _=>absurd h (by simp[zi3]),λ_=>J.ok.hd hc,Around.frames_deeper J.ok.frames,.inr ⟨rfl,rfl⟩,λb hb=>absurd hb (by simp[zi3]),J.bs,waN J.ok.bsz J.sz,λb o e z=>absurd z (by simp[zi3]),λb z=>absurd z (by simp[zi3]),J.stack,J.stkFree⟩,
  rfl,J.bare,Un.kept hkp,⟨mm,hns,λi x v e1 e2 e3=>?_⟩,λx c e=>?_,J.hok.fresh (wal _),λx c e=>(L.is x c e).2,λp hp=>absurd hp (by simp[zi3]),J.hok.kept hkp,hl⟩
 ·have hx':scope.names.lookup x=some .cell\/scope.names.lookup x=some .free:=hx;rcases hx' with z|z
  ·rcases zf1 ho z with q|q <;> cases q
  ·exact L.has x z
 ·have e3':scope.names.lookup x=some .local\/scope.names.lookup x=some .cell\/scope.names.lookup x=some .free:=e3;rcases e3' with z|z|z
  ·rcases zf1 ho z with q|q <;> cases q
  ·rcases zf1 ho z with q|q <;> cases q
  ·obtain ⟨u,c,r,hcl,ic⟩:=L.val i x v e1 e2 z;exact ⟨u,r,.inr ⟨.inr z,c,hcl,cellK _ _ ic⟩⟩
 ·obtain ⟨⟨v,ic⟩,_⟩:=L.is x c e;exact ⟨v,cellK _ _ ic⟩
theorem zqS{t:TE}(J:L2.Inv XR pS σR H s)(hc:XR.calm=true)(hroom:XR.A.depth<recursionLimit)(hk:scope.kind=.function)(ho:zoY scope.names=true)(L:zij N scope.names cl Y H s.heap)(hl:Y.length=N.length)
  (hF:s.heap.get? Fa=some (W.kla_obj name qual params body scope cl pm c' ctv)) (hcd:s.heap.CodeRec (.ref c') qual) (hbind:bindArgs (W.kla_fn name qual params body scope cl pm (.ref c') ctv) ⟨[],[]⟩=pure [])
  (hco:scope.isCoroutine=false) (hgen:scope.isGenerator=false) (hE:PE (zi3 XR N scope cl qual Fa (.ref c') s H E) body t) (ht:t Y H λ_ _=>False) :
  codeAny (model XR.prog XR.w) XR.A (.call (.ref Fa) ⟨[],[]⟩) (λr s'=>∃ e,r=.error e/\CXf XR.prog XR.w XR.stack H s E e s') s:=by
 have hcell:∀ y∈scope.names,y.2≠.cell:=λy hy z=>by have q:=List.all_eq_true.mp ho y hy;rw[z] at q;simp at q
 refine W.kla_callFunE hroom hF rfl hco hgen rfl hcd ?_;rw[hbind];refine wad (wpAny_newFunctionEnv hcell (by intro y hy;simp at hy) (λh₁ hns hsb=>?_) hk);have hkp:∀ b o,s.heap.get? b=some o->h₁.get? b=some o:=λb o e=>(hsb.2 b (waM (wai e))).trans (waa _ e);refine ⟨J.nolimit.keeps hkp,?_⟩;show codeAny _ _ (.expr body (W.envX qual scope s.heap.objs.size Fa (.ref c') cl)) _ _;refine W.kla_codeExpr (wpAny_mono (hE [] _ Y H (λ_ _=>False) (zos (tk:=s.toks+([]:List (Str×Value)).length) J hc hk ho L hl hns hkp) ht) (λv s' ⟨_,_,_,_,z⟩=>z.elim) λe s' h=>?_);exact wpAny_mono h (λ_ s'' q=>⟨e,rfl,q⟩) λ_ _ z=>z.elim
theorem zm3{cdv:Value}{C:Cn}(hE:∀ u a H',EXc C u a H'->E u a H'):zcW (CXe XR.prog XR.w) (zi3 XR N scope cl qual Fa cdv s H E) (EXc C):=λpS Y H1 s1 e s2 I hx =>
 zkg (base:=XR.base) (s0:=s) (H0:=H) rfl I.ok.frames (wal _) I.os I.bare I.base I.ok.frf I.stack I.hok I.stkFree hx hE
end
def zbo(Z:Ev):Ev:=Z.map λo=>match o with
 |some (.val d)=>some (.val d)
 |_=>none
theorem zpw{prog:Program}{w:World}{A:Around}{E:Value->Shared->Prop}{s:Shared}{K:W.Frag}{l C Cs:Addr}{Q:Bool->Shared->Prop}(X:K.In s.heap)(hx:XAt l C s.heap)(xs:Xin K Cs)(hsub:W.subIn K (.ref C) (.ref Cs)=some true)(hQ:Q true s) :
  wpAny (model prog w) A (excMatches (.ref l) (.ref Cs)) Q E s:=by
 obtain ⟨hh,gg,dr,tt,os⟩:=s;obtain ⟨ob,vs,h1,h2,h3⟩:=hx;obtain ⟨bm,N,nm,qn,bs,hd,sn,sub,ab,col,dd,k0,k1,k2,k3,k5,lk,e4,e5,e6⟩:=zdS xs.exc;have hCs:=X _ _ lk;have inB:(Value.ref Cs::bm).contains (.type "BaseException")=true:=by rw[List.contains_cons,(W.tail_of_in X e4).hasType (b:=true) xwd];rfl
 have nt:=tc_notTuple;have L1:=W.looks_subIn (M:=model prog w) X hsub;unfold excMatches
 repeat (first|(with_reducible refine wpAny_loadPart_at h1 ?_;rw[h2])|(with_reducible refine W.Looks.at L1 ?_)|with_reducible refine wpAny_loadPart_at hCs ?_|(with_reducible refine wpAny_isSubtype_exc hCs ?_;rw[inB])|wp_step)
 exact hQ
section
variable{X:Cx}{pS:List (Addr×Obj)}{Y:L2.St}{H:Hp}{s:Shared}
theorem zmI{x:Str}{i:Nat}{h':Heap}{tk:Nat}{v:Option Value}(I:L2.Inv X pS Y H s)(hN:X.N.Nodup)(hi:X.N[i]? = some x)
  (hn:∀ m,s.heap.Ns X.env.locals m->h'.Ns X.env.locals (λy=>if y=x then v else m y)) (hs:Heap.SameBut X.env.locals s.heap h'):L2.Inv X pS (Y.set i none) H { s with heap:=h',toks:=tk }:=by
 obtain ⟨m,hm,hl⟩:=id I.loc;have cne:=I.cne;have tr:HOk X.prog X.w H h':=znD I.hok λb u o e q=>(hs.2 b λz=>by subst z;rw[I.free] at e;cases e).trans q;refine ⟨I.ok,I.os,I.bare,⟨λb o e n hb hx=>?_,λb o e n hb hx=>?_,I.base.free,λb o e hx=>?_,I.base.tups,I.base.frzs,I.base.tbls⟩,⟨_,hn m hm,λj y v' e1 e2 e3=>?_⟩,λy c e=>?_,I.free,I.freeC,λp hp=>?_,tr,by simpa using I.len⟩
 ·exact (hs.2 b (waM (was (wai e) I.ok.above))).trans (I.base.keep b o e n hb hx)
 ·obtain ⟨sl,e1⟩:=I.base.slot b o e n hb hx;exact ⟨sl,(hs.2 b (waM (was (wai e) I.ok.above))).trans e1⟩
 ·obtain ⟨o',e1⟩:=I.base.there b o e hx;exact ⟨o',(hs.2 b (waM (was (wai e) I.ok.above))).trans e1⟩
 ·by_cases hj:j=i
  ·subst hj;have hlt:j < Y.length:=by rw[I.len];exact (wam.mp hi).1
   rw[List.getElem?_set_self hlt] at e2;cases e2
  ·rw[List.getElem?_set_ne (Ne.symm hj)] at e2;obtain ⟨u',r',q⟩:=hl j y v' e1 e2 e3;refine ⟨u',r',?_⟩;rcases q with ⟨k,e⟩|⟨k,c,e,z⟩
   ·refine .inl ⟨k,?_⟩;have:y≠x:=λe=>hj (zie hN e1 (e ▸ hi));simp[this,e]
   ·exact .inr ⟨k,c,e,z.sameBut hs (cne y c e)⟩
 ·obtain ⟨w',z⟩:=I.cell y c e;exact ⟨w',z.sameBut hs (cne y c e)⟩
 ·obtain ⟨e,n,ne,nf,d⟩:=I.pin p hp;exact ⟨(hs.2 p.1 ne).trans e,n,ne,nf,d⟩
theorem zhS{s1:Shared}{h:Heap}{l C:Addr}{a0:Value}{B:Heap}{H':Hp}(I:L2.Inv X pS Y H s)(os:s1.os=s.os)(bare:AllBare s1.gens)(un:Un (frs X.stack) [] H H' s.heap s1.heap)(hok:HOk X.prog X.w H' s1.heap)
  (fl:Heap.FlyingW B X.stack l (.ref C) a0 s1.heap) (hb1:∀ b o,s.heap.get? b=some o->b∉frs X.stack->∃ u,B.get? b=some u) (hb2:∀ b u,H' b=some u->∃ o,B.get? b=some o) (hnw:s.heap.get? l=none)
  (fl3:Heap.FlyingW B X.stack l (.ref C) a0 h) (up:s1.heap.UpToSlots h):H' l=none/\L2.Inv X pS Y (upd H' l (xHO l C)) { s1 with heap:=h }:=by
 have hl:H' l=none:=by
  cases q:H' l with
  |none=>rfl
  |some u=>obtain ⟨o,e⟩:=hb2 l u q;rw[fl.2.1] at e;cases e
 have at3:∀{b:Addr}{u:Obj},B.get? b=some u->s1.heap.get? b=some u/\h.get? b=some u:=λ{b u} e=>⟨fl.1 b u e,fl3.1 b u e⟩
 have slot:∀ b o,s.heap.get? b=some o->b∈frs X.stack->∃ sl,h.get? b=some { o with slots:=sl }:=λb o e1 hb=>by obtain ⟨sl2,e3⟩:=un.slot b o e1 (I.stkFree b hb) hb xws;obtain ⟨_,o4,e4,d4⟩:=fl.2.2.1.mem (b:=b) hb;rw[e3] at e4;cases e4;obtain ⟨sl3,e5⟩:=up b _ e3 d4;exact ⟨sl3,e5⟩
 refine ⟨hl,I.call' (s':={ s1 with heap:=h }) (ch:=[]) os ⟨λb o e1 n hb _=>?_,λb o e1 n hb _=>slot b o e1 hb,λb o e1 n _=>?_,λb o e1 _=>?_,λb xs q=>?_,λb o u q=>?_,λb ps q=>?_⟩ (λb u e=>?_) bare λb hb=>absurd hb xws⟩
 ·have e3:=un.keep b o e1 n hb xws;obtain ⟨u,hu⟩:=hb1 b o e1 hb;obtain ⟨q1,q2⟩:=at3 hu;rw[e3] at q1;cases q1;exact q2
 ·rw[zag (λz=>by subst z;rw[hnw] at e1;cases e1)];exact un.free b o e1 n xws
 ·by_cases hb:b∈frs X.stack
  ·obtain ⟨sl,e2⟩:=slot b o e1 hb;exact ⟨_,e2⟩
  ·obtain ⟨u,hu⟩:=hb1 b o e1 hb;exact ⟨u,(at3 hu).2⟩
 ·have:=un.tups b xs q;rw[zag (zah this hl)];exact this
 ·have:=un.frzs b o u q;rw[zag (zah this hl)];exact this
 ·obtain ⟨m,e⟩:=un.tbls b ps q;exact ⟨m,by rw[zag (zah e hl)];exact e⟩
 ·by_cases hb:b=l
  ·subst hb;rw[zan] at e;cases e;obtain ⟨oe,vs,e1,e2,e3,_⟩:=fl3.first;exact ⟨⟨oe,vs,e1,e2,e3⟩,⟨oe,e1⟩,λh1 h2 ⟨o,ws,q1,q2,q3⟩ k=>⟨o,ws,k o q1,q2,q3⟩⟩
  ·rw[zag hb] at e;refine (hok b u e).stay (λc o hc q=>?_) (λc z=>?_) λc xs z=>?_
   ·have hcu:∃ u',H' c=some u':=by
     rcases hc with rfl|hc
     ·exact ⟨_,e⟩
     ·exact ⟨_,hc⟩
    obtain ⟨u',hu'⟩:=hcu;obtain ⟨o',ho'⟩:=hb2 c u' hu';obtain ⟨q1,q2⟩:=at3 ho';rw[q] at q1;cases q1;exact q2
   ·rw[zag (zah z hl)];exact z
   ·rw[zag (zah z hl)];exact z
end
def zoV(X:Cx)(e:Value)(E:Value->Shared->Prop):Cx:={ X with A:=X.A.mark (some e),calm:=false,xe:=E }
theorem zog{X:Cx}{pS:List (Addr×Obj)}{Y:L2.St}{H:Hp}{s:Shared}{e:Value}{E:Value->Shared->Prop}(I:L2.Inv X pS Y H s):L2.Inv (zoV X e E) pS Y H s:=by have ok:=I.ok;exact ⟨⟨ok.mod,ok.kind,ok.glob,ok.blt,ok.above,ok.inj,ok.has,ok.cab,λh=>absurd h (by simp[zoV]),ok.frames,ok.stk,ok.exf,ok.bs,ok.bsz,ok.noex,ok.exfs,ok.funs,ok.frf⟩,I.os,I.bare,I.base,I.loc,I.cell,I.free,I.freeC,I.pin,I.hok,I.len⟩
theorem zoe{X:Cx}{pS:List (Addr×Obj)}{Y:L2.St}{H:Hp}{s:Shared}{e:Value}{E:Value->Shared->Prop}(hok:X.Ok)(I:L2.Inv (zoV X e E) pS Y H s):L2.Inv X pS Y H s :=
 ⟨hok,I.os,I.bare,I.base,I.loc,I.cell,I.free,I.freeC,I.pin,I.hok,I.len⟩
def EL(Cc:Addr)(H:Hp):XK:=λu _ H'=>u=.ref Cc/\zbR H H'
section
variable{X:Cx}{p1 p2 p3 p4 p5 p6 p7 p8 p9:Pos}{Cc Cs Fa:Addr}{H0:Hp}{iF ierr ie:Nat}{xF xerr xe xS:Str}
theorem zoo(hc:X.calm=true)(hN:X.N.Nodup)(hst:X.stack=X.env::X.outer)(hfrm:X.env.frame=some X.env.locals)
  (hF:∀ pS Y H s,L2.Inv X pS Y H s->zbR H0 H->codeAny (model X.prog X.w) X.A (.call (.ref Fa) ⟨[],[]⟩) (λr s'=>∃ e,r=.error e/\CXf X.prog X.w X.stack H s (EL Cc H) e s') s)
  (hFn:∀ pS Y H s,L2.Inv X pS Y H s->zbR H0 H->W.FnAt Fa s.heap)
  (xs:Xin X.K Cs) (hsub:W.subIn X.K (.ref Cc) (.ref Cs)=some true) (hmS:X.mg xS=some (.ref Cs)) (hgS:Gl X xS)
  (hNF:X.N[iF]? = some xF) (hNerr:X.N[ierr]? = some xerr) (hNe:X.N[ie]? = some xe) (hie:ie≠ierr) (kF:X.env.scope.names.lookup xF=some .local) (kerr:X.env.scope.names.lookup xerr=some .local) (ke:X.env.scope.names.lookup xe=some .local)
  (hd1:(xF == ("__debug__" : Str))=false:=by decide) (hd2:(xF == ("__classdict__" : Str))=false:=by decide) (hd3:(xS == ("__debug__" : Str))=false:=by decide) (hd4:(xe == ("__debug__" : Str))=false:=by decide) (hd5:(xe == ("__classdict__" : Str))=false:=by decide)
  (hsw:swapsWith (.Call (.Name xF p1) [] [] p2) none p3.line X.env=pure false:=by rfl) (hsw2:swapsWith (.Name xe p6) (some (.Name xerr p5)) p7.line X.env=pure false:=by rfl) :
  PS X (.Try [.Expr (.Call (.Name xF p1) [] [] p2) p3] [.ExceptHandler (some (.Name xS p4)) (some xe) [.Assign [.Name xerr p5] (.Name xe p6) p7] p8] [] [] p9)
   (λD Y H=>Y[iF]? = some (some (.ref Fa))/\zbR H0 H/\∀ l H',zbR H H'->H' l=none->D.nx (((Y.set ie (some (.ref l))).set ierr (some (.ref l))).set ie none) (upd H' l (xHO l Cc))):=by
 intro pS s Y H D I ⟨h0,eH,hD⟩;refine wpAny_Try_except ?_;refine wpAny_execs_cons ?_;have hv:∀ EE:Value->Shared->Prop,wpAny (model X.prog X.w) X.A (eval (.Name xF p1) X.env) (EP (X.wish EE) pS Y λv H'=>v=.ref Fa/\H'=H) EE s:=λEE =>
  zcq (X:=X.wish EE) (pos:=p1) hNF (.inl kF) hd1 hd2 pS s Y H (λv H'=>v=.ref Fa/\H'=H) (I.wish EE) ⟨_,h0,rfl,rfl⟩
 refine wpAny_Expr_any (wpAny_Call_Name_kw (wpAny_mono (hv _) (λu s1 ⟨v,H1,I1,r,e1,e2⟩=>?_) λ_ _ z=>z)) I.quiet hsw;subst e1 e2;cases r;have I1:=I1.unwish;refine W.callWith_F0 (hFn _ _ _ _ I1 eH) (wpAny_call (codeAny_mono (hF _ _ _ _ I1 eH) λr s2 ⟨e,er,hx⟩=>?_));subst er;obtain ⟨l,cls,a0,B,H',rfl,os,bare,un,hok,fl,hb1,hb2,hnw,ecls,same⟩:=hx;subst ecls;show wpAny _ _ (noteFrame (.ref l) X.env) _ _ s2;rw[hst] at fl;refine wpAny_looks_onW (by rw[I1.ok.frames,hst]) hfrm fl λh3 held3 up3=>?_;refine wpAny_landsW held3 λh4 fl4 up4=>?_;rw[<- hst] at fl fl4;obtain ⟨hl,I4⟩:=zhS I1 os bare un hok fl hb1 hb2 hnw fl4 (up3.trans up4);refine wpAny_handleBy_cons (codeAny_handlers_test ?_) (by intro q;cases q);refine zg5 (X:=zoV X (.ref l) λ_ _=>True) (zog I4) hgS hmS ?_ hd3;have xat:XAt l Cc h4:=by obtain ⟨oe,vs,q1,q2,q3,_⟩:=fl4.first;exact ⟨oe,vs,q1,q2,q3⟩
 refine zpw (K:=X.K) I4.kIn xat xs hsub ?_;refine codeAny_handlers_suite_as ?_;refine lands_againW fl4 λh5 fl5 up5=>?_;obtain ⟨_,I5⟩:=zhS I1 os bare un hok fl hb1 hb2 hnw fl5 ((up3.trans up4).trans up5);refine zih I5 hN hNe (.inl ke) (v:=.ref l) rfl (λs6 I6=>?_) (.inr ke);have hsuite:=λEE:Value->Shared->Prop=>znu (X:=zoV X (.ref l) EE) (zpe (pos:=p7) (pos':=p5) hN hNerr (.inl kerr) (zcq (pos:=p6) hNe (.inl ke) hd4 hd5) hsw2 (.inr kerr)) pS s6 (Y.set ie (some (.ref l))) (upd H' l (xHO l Cc)) { nx:=λY' H''=>Y'=(Y.set ie (some (.ref l))).set ierr (some (.ref l))/\H''=upd H' l (xHO l Cc),rt:=λ_ _=>False } (zog I6) ⟨.ref l,by rw[List.getElem?_set_self (by rw[I5.len];exact (wam.mp hNe).1)],rfl,rfl⟩
 refine wpAny_mono (hsuite _) (λf s7 h7=>?_) λ_ _ z=>z;cases f with
 |next =>
  obtain ⟨Y',H'',I7,e1,e2⟩:=h7;subst e1 e2;have I7:=zoe I4.ok I7;obtain ⟨m7,hm7,_⟩:=I7.loc;refine wpAny_nameGoes_keeps (env:=X.env) ke hm7 (by rw[I7.ok.kind];rfl) λh8 v hn8 hs8=>?_;refine ⟨_,_,zmI (x:=xe) (i:=ie) (v:=v) I7 hN hNe (λm hm=>?_) hs8,hD l H' same hl⟩;obtain ⟨o,es,ep,ho,hd,hk,hmm⟩:=hn8;obtain ⟨o',es',ep',ho',hd',hk',hm'⟩:=hm;obtain ⟨o7,es7,ep7,ho7,hd7,hk7,hm7'⟩:=hm7;rw[ho'] at ho7;cases ho7;rw[hd'] at hd7;cases hd7;exact ⟨o,es,ep,ho,hd,hk,λx=>by rw[hmm x];show (if x=xe then v else m7 x)=if x=xe then v else m x;rw[<- hm7' x,hm' x]⟩
 |brk=>obtain ⟨_,_,_,z⟩:=h7;exact z.elim
 |cont=>obtain ⟨_,_,_,z⟩:=h7;exact z.elim
 |ret u=>obtain ⟨_,_,_,_,_,z⟩:=h7;exact z.elim
end
def fHO(a:Addr)(ob:Obj):HO:=.ext λh=>h.get? a=some ob
structure zgl(X:Cx)(P:Addr):Prop where
 code:∃ c,X.env.code=.ref c/\W.CodeHd X.base c P
 blt:X.base.BuiltinsAt X.mg P
theorem zfJ{P:Program}{w:World}{H:Hp}{h:Heap}{a:Addr}{φ : Heap->Prop}{o:Obj}(h1:φ h)(h2:h.get? a=some o)(h3:∀ x y:Heap,φ x->(∀ o,x.get? a=some o->y.get? a=some o)->φ y):zcw P w H h a (.ext φ):=⟨h1,⟨o,h2⟩,h3⟩
theorem zlv{c:Addr}{q:Str}(x y:Heap)(h:x.CodeRec (.ref c) q)(k:∀ o,x.get? c=some o->y.get? c=some o):y.CodeRec (.ref c) q:=by obtain ⟨c',o,vs,t,e,h1,h2,h3⟩:=h;cases e;exact ⟨c,o,vs,t,rfl,k o h1,h2,h3⟩
structure zo8(P:Addr)(q:Str)(G H:Hp)(ps:Array Value):Prop where
 at_:H P=some (.tbl ps)
 tri:TriplesOk ps.toList
 cod:∀ pos cv,codeAmong pos ps.toList=some cv->∃ c,cv=.ref c/\G c=some (cHO c q)
section
variable{X:Cx}{pS:List (Addr×Obj)}{Y:L2.St}{H:Hp}{s:Shared}{P:Addr}{q:Str}{params:Arguments}{body:Expr}{scope:Scope}{pos:Pos}{cl:List (Str×Addr)}{ps:Array Value}{Q:VK}
theorem zu3(LB:zgl X P)(I:L2.Inv X pS Y H s)(hdef:defaultsOf params X.env=([],[]))(hcl:closureFor scope X.env=pure cl)(T:zo8 P (X.env.qual++"<lambda>") H H ps)
  (hA:∀ c Fa ctv,codeAmong pos ps.toList=none->H c=none->H Fa=none->c≠Fa->Q (.ref Fa) (upd (upd (upd H P (.tbl (ps++#[rawInt pos.line,rawInt pos.col,.ref c]))) c (cHO c (X.env.qual++"<lambda>"))) Fa (fHO Fa (W.kla_obj "<lambda>" (X.env.qual++"<lambda>") params body scope cl ((X.mg "__name__").getD .none) c ctv))))
  (hB:∀ c Fa ctv,codeAmong pos ps.toList=some (.ref c)->H Fa=none->Q (.ref Fa) (upd H Fa (fHO Fa (W.kla_obj "<lambda>" (X.env.qual++"<lambda>") params body scope cl ((X.mg "__name__").getD .none) c ctv)))) :
  wpAny (model X.prog X.w) X.A (eval (.Lambda params body scope pos) X.env) (EP X pS Y Q) X.xe s:=by
 obtain ⟨c0,hc0,C0⟩:=LB.code;have C0':=C0.keeps I.bk;have hg:=I.mod.glob.keeps I.bk;have oP:s.heap.get? P=some (W.tabObj ps):=I.hok P _ T.at_;have nP:∀ b o,X.base.get? b=some o->b≠P:=λb o e z=>by have:=(I.bs b o e).2;rw[z,T.at_] at this;cases this
 have hgP:mainGlobals≠P:=by obtain ⟨o,es,ep,e,_⟩:=I.mod.glob;exact nP _ _ e
 have hbl:s.heap.BuiltinsAt X.mg P:=by obtain ⟨bm,o,b1,b2,b3,b4,b5,b6⟩:=LB.blt;exact ⟨bm,o,b1,b2,b3,b4,I.bk _ _ b5,b6⟩
 refine W.kla_eval hdef ?_;cases hk:codeAmong pos ps.toList with
 |none =>
  refine W.kla_makeFunction (mg:=X.mg) hcl I.ok.glob hg hc0 C0' oP T.tri hk hgP hbl λc' ctv h' tk hx hge hlt hrec htb=>?_;have hcn:H c'=none:=I.hok.fresh hge;have hFn:H h'.objs.size=none:=I.hok.fresh (waN hge (Nat.le_of_lt hlt));have hne:c'≠h'.objs.size:=waM hlt;have cP:c'≠P:=λz=>by rw[z,T.at_] at hcn;cases hcn
  have fP:h'.objs.size≠P:=λz=>by rw[z,T.at_] at hFn;cases hFn
  have kp:∀ b o,b≠P->s.heap.get? b=some o->(h'.push (W.kla_obj "<lambda>" (X.env.qual++"<lambda>") params body scope cl ((X.mg "__name__").getD .none) c' ctv)).get? b=some o:=λb o hb e=>waa _ (hx b o hb e);have hq:=hA c' h'.objs.size ctv hk hcn hFn hne;refine ⟨.ref h'.objs.size,_,I.call' (s':={ s with heap:=h'.push (W.kla_obj "<lambda>" (X.env.qual++"<lambda>") params body scope cl ((X.mg "__name__").getD .none) c' ctv),toks:=tk }) (ch:=[]) rfl ⟨λb o e n _ _=>?_,λb o e n _ _=>?_,λb o e n _=>?_,λb o e _=>?_,λb xs z=>?_,λb o u z=>?_,λb pz z=>?_⟩ (λb u e=>?_) I.bare λb hb=>absurd hb xws,rfl,hq⟩
  ·exact kp b o (λz=>by rw[z,T.at_] at n;cases n) e
  ·exact ⟨o.slots,kp b o (λz=>by rw[z,T.at_] at n;cases n) e⟩
  ·have l1:=wai e;rw[zag (Nat.ne_of_lt (Nat.lt_trans (Nat.lt_of_lt_of_le l1 hge) hlt)),zag (Nat.ne_of_lt (Nat.lt_of_lt_of_le l1 hge)),zag (λz=>by rw[z,T.at_] at n;cases n)];exact n
  ·by_cases hb:b=P
   ·subst hb;exact ⟨_,waa _ htb⟩
   ·exact ⟨o,kp b o hb e⟩
  ·rw[zag (zah z hFn),zag (zah z hcn),zag (λy=>by rw[y,T.at_] at z;cases z)];exact z
  ·rw[zag (zah z hFn),zag (zah z hcn),zag (λy=>by rw[y,T.at_] at z;cases z)];exact z
  ·by_cases hb:b=P
   ·subst hb;rw[T.at_] at z;cases z;exact ⟨_,by rw[zag (Ne.symm fP),zag (Ne.symm cP),zan]⟩
   ·exact ⟨#[],by rw[zag (zah z hFn),zag (zah z hcn),zag hb,z];simp⟩
  ·by_cases hbF:b=h'.objs.size
   ·rw[hbF,zan] at e;cases e;rw[hbF];exact zfJ (waj _ rfl) (waj _ rfl) λx y h k=>k _ h
   ·rw[zag hbF] at e;by_cases hbc:b=c'
    ·rw[hbc,zan] at e;cases e;rw[hbc];have hr:=hrec.push (W.kla_obj "<lambda>" (X.env.qual++"<lambda>") params body scope cl ((X.mg "__name__").getD .none) c' ctv);obtain ⟨c2,o2,_,_,e2,h2,_⟩:=id hr;cases e2;exact zfJ hr h2 zlv
    ·rw[zag hbc] at e;by_cases hbP:b=P
     ·rw[hbP,zan] at e;cases e;rw[hbP];exact waa _ htb
     ·rw[zag hbP] at e;refine (I.hok b u e).stay (λd o hd z=>?_) (λd z=>?_) λd xs z=>?_
      ·refine kp d o (λy=>?_) z;rcases hd with hd|hd
       ·exact hbP (hd.symm.trans y)
       ·rw[y,T.at_] at hd;cases hd
      ·rw[zag (zah z hFn),zag (zah z hcn),zag (λy=>by rw[y,T.at_] at z;cases z)];exact z
      ·rw[zag (zah z hFn),zag (zah z hcn),zag (λy=>by rw[y,T.at_] at z;cases z)];exact z
 |some cv =>
  obtain ⟨c,rfl,hcG⟩:=T.cod pos cv hk;refine W.kla_makeFunctionHit (mg:=X.mg) hcl I.ok.glob hg hc0 C0' oP T.tri hk hbl λctv h' tk hkp hsz=>?_;have hFn:H h'.objs.size=none:=I.hok.fresh hsz;exact ⟨.ref h'.objs.size,_,I.laid (t':=tk) (λb u e=>waa _ (hkp b u e)) hsz (zfJ (waj _ rfl) (waj _ rfl) λx y h k=>k _ h),rfl,hB c h'.objs.size ctv hk hFn⟩
end
def znk(iF ierr ie:Nat)(Cc:Addr):DS:=λZ=>match Z[iF]? with
 |some (some .opq)=>if ierr < Z.length/\ie < Z.length then .ok (.nx,(Z.set ierr (some (.exc Cc))).set ie none) else .no
 |_=>.no
section
variable{X:Cx}{C:Cn}{p1 p2 p3 p4 p5 p6 p7 p8 p9:Pos}{Cc Cs Fa:Addr}{iF ierr ie:Nat}{xF xerr xe xS:Str}
theorem znA(hc:X.calm=true)(hN:X.N.Nodup)(hst:X.stack=X.env::X.outer)(hfrm:X.env.frame=some X.env.locals)(hw0:C.w₀=λ_=>none)(hpp:C.pp=[iF])(hσ0:C.σ₀[iF]? = some (some (.ref Fa)))
  (hF:∀ pS Y H s,L2.Inv X pS Y H s->zbR C.H₀ H->codeAny (model X.prog X.w) X.A (.call (.ref Fa) ⟨[],[]⟩) (λr s'=>∃ e,r=.error e/\CXf X.prog X.w X.stack H s (EL Cc H) e s') s)
  (hFn:∀ pS Y H s,L2.Inv X pS Y H s->zbR C.H₀ H->W.FnAt Fa s.heap)
  (xs:Xin X.K Cs) (hsub:W.subIn X.K (.ref Cc) (.ref Cs)=some true) (hmS:X.mg xS=some (.ref Cs)) (hgS:Gl X xS)
  (hNF:X.N[iF]? = some xF) (hNerr:X.N[ierr]? = some xerr) (hNe:X.N[ie]? = some xe) (hie:ie≠ierr) (hF1:ierr≠iF) (hF2:ie≠iF) (kF:X.env.scope.names.lookup xF=some .local) (kerr:X.env.scope.names.lookup xerr=some .local) (ke:X.env.scope.names.lookup xe=some .local)
  (hd1:(xF == ("__debug__" : Str))=false:=by decide) (hd2:(xF == ("__classdict__" : Str))=false:=by decide) (hd3:(xS == ("__debug__" : Str))=false:=by decide) (hd4:(xe == ("__debug__" : Str))=false:=by decide) (hd5:(xe == ("__classdict__" : Str))=false:=by decide)
  (hsw:swapsWith (.Call (.Name xF p1) [] [] p2) none p3.line X.env=pure false:=by rfl) (hsw2:swapsWith (.Name xe p6) (some (.Name xerr p5)) p7.line X.env=pure false:=by rfl) :
  JS X C (.Try [.Expr (.Call (.Name xF p1) [] [] p2) p3] [.ExceptHandler (some (.Name xS p4)) (some xe) [.Assign [.Name xerr p5] (.Name xe p6) p7] p8] [] [] p9) (znk iF ierr ie Cc) :=
 PS.weak (zoo hc hN hst hfrm hF hFn xs hsub hmS hgS hNF hNerr hNe hie kF kerr ke hd1 hd2 hd3 hd4 hd5 hsw hsw2) λD Y H ⟨G,w,Z,r,p⟩=>by
  unfold znk at p;split at p
  ·split at p
   ·rename_i hlen;have sm:zbR C.H₀ H:=λb o e=>r.en.h b o e (by rw[hw0]);refine ⟨by rw[r.pin iF (by rw[hpp];simp)];exact hσ0,sm,λl H' same hl=>?_⟩;have hHl:H l=none:=by
     cases q:H l with
     |none=>rfl
     |some u=>rw[same l u q] at hl;cases hl
    have hGl:G l=none:=by
     cases q:G l with
     |none=>rfl
     |some u=>rw[r.gh l u q] at hHl;cases hHl
    have wl:∀ b,w b≠none->b≠l:=λb e z=>by subst z;exact r.wh b e hHl
    have sG:zbR G (upd G l (xHO l Cc)):=λb u e=>by rw[zag (zah e hGl)];exact e
    have sH:zbR H (upd H' l (xHO l Cc)):=λb u e=>by rw[zag (zah e hHl)];exact same b u e
    have st:zbu G H w (upd G l (xHO l Cc)) (upd H' l (xHO l Cc)) w:=by
     refine ⟨sG,λb o e=>?_,λb o e _=>sH b o e,λb e=>.inl e,λb e=>?_⟩
     ·by_cases hb:b=l
      ·subst hb;exact .inr (.inl hHl)
      ·rw[zag hb] at e;exact .inl (by rw[e];simp)
     ·cases q:H b with
      |none=>rfl
      |some u=>rw[sH b u q] at e;cases e
    refine p _ _ _ _ st ⟨λb u e=>?_,λb e=>?_,λb e z=>?_,by simpa using r.len,λi b e=>?_,r.en.trans st,λi hi=>?_⟩
    ·by_cases hb:b=l
     ·subst hb;rw[zan] at e ⊢;exact e
     ·rw[zag hb] at e ⊢;exact same b u (r.gh b u e)
    ·rw[zag (wl b e)];exact r.wg b e
    ·cases q:H b with
     |none=>exact r.wh b e q
     |some u=>rw[sH b u q] at z;cases z
    ·by_cases h2:i=ie
     ·subst h2;rw[List.getElem?_set_self (by simpa using hlen.2)] at e;cases e
     ·rw[List.getElem?_set_ne (Ne.symm h2)] at e ⊢;by_cases h1:i=ierr
      ·subst h1;rw[List.getElem?_set_self hlen.1] at e;cases e;refine ⟨.ref l,?_,l,rfl,zan⟩;rw[List.getElem?_set_self (by rw[List.length_set,<- r.len];exact hlen.1)]
      ·rw[List.getElem?_set_ne (Ne.symm h1)] at e ⊢;rw[List.getElem?_set_ne (Ne.symm h2)];obtain ⟨v,q1,q2⟩:=r.sl i b e;exact ⟨v,q1,q2.grow sG λa o e1 e2=>⟨sH a o e2,e1⟩⟩
    ·rw[hpp] at hi;have:i=iF:=by simpa using hi
     subst this;rw[List.getElem?_set_ne hF2,List.getElem?_set_ne hF1,List.getElem?_set_ne hF2];exact r.pin i (by rw[hpp];simp)
   ·exact p.elim
  ·exact p.elim
end
theorem zvE{CX:CXT}{P:Program}{w:World}{K:W.Frag}{mg:Str->Option Value}{base:Heap}{k:Nat}{f:Addr}{name qual:Str}{params:Arguments}{body:List Stmt}{scope:Scope}{dV kV doc pm cdv ct oc:Value}{an od:Option Addr}
  {osl:Array (Option Value)} {N ps:List Str} {A:Around} {outer:List Env} {s:Shared} {H:Hp} {args:Args} {us:List Value} {vs:List V} {Q:VK} {E:XK} (lk:K.lookup f=some ⟨oc,od,.func (W.fnOf name qual params body scope dV kV doc pm an cdv ct),osl⟩) (hcd:W.codeIn K cdv qual=true) (S:zay N ps scope)
  (hr:zdD (k+1) A) (e0:zpZ P w K mg base A outer s H) (hb:BindsTo s (W.fnOf name qual params body scope dV kV doc pm an cdv ct) args (ps.zip us)) (r:zaW vs us) (hl:vs.length=ps.length)
  (hbody:∃ t,PSs (zlo CX P w K mg base N qual scope f cdv A outer s H E) body t/\t { nx:=λ_ H'=>Q .non H',rt:=Q } (start N vs) H) :
  codeAny (model P w) A (.call (.ref f) args) (CR CX outer P w H s Q E) s:=by
 have hin:K.In s.heap:=e0.mod.kin.keeps λb o e=>(e0.bs b o e).1;have nolim:s.heap.NoLimit:=e0.mod.nolimit.keeps λb o e=>(e0.bs b o e).1;have zbX:∀ y∈ps.zip us,scope.names.lookup y.1=some .local\/(scope.names.lookup y.1=some .cell/\((cellsFrom (s.heap.objs.size+1) scope.names []).lookup y.1).isSome=true):=λ⟨n,v⟩ hy=>by
  rcases S.par n (List.of_mem_zip hy).1 with q|q
  ·exact .inl q
  ·exact .inr ⟨q,W.cellsFrom_some _ _ _ (.inl q)⟩
 have dp:A.depth<recursionLimit:=by have:=hr.dp;omega
 refine codeAny_call_function dp (hin _ _ lk) rfl S.co S.gen rfl (W.codeRec_of hin hcd) (hb _ _ _ _ ?_);refine wpAny_newFunctionEnv_cells S.kind zbX λenv he s1 x=>?_;subst he;refine ⟨nolim.keeps x.toInCall.keep,codeAny_func ?_⟩;obtain ⟨t,ht,hq⟩:=hbody;have I:=zjH (CX:=CX) (K:=K) (mg:=mg) (base:=base) (E:=E) (qual:=qual) (f:=f) (cd:=cdv) S hr.hd e0 hl r x;refine wpAny_mono (ht [] s1 (start N vs) H _ I hq) (λfl s' hs=>?_) λe s' hs=>hs;cases fl with
 |ret u=>obtain ⟨v,Y',H',J,rv,q⟩:=hs;exact ⟨v,H',J.os,J.bare,J.base,J.hok,rv,q⟩
 |next=>obtain ⟨Y',H',J,q⟩:=hs;exact ⟨V.non,H',J.os,J.bare,J.base,J.hok,rfl,q⟩
 |brk=>obtain ⟨_,_,_,q⟩:=hs;exact q.elim
 |cont=>obtain ⟨_,_,_,q⟩:=hs;exact q.elim
theorem zkk{a b:Int}{t u:Tok}{c:Value}:∀{l:List Value},TriplesOk l->TriplesOk (l++[.int a t,.int b u,c]):=by
 intro l h
 fun_induction TriplesOk l with
 |case1=>simp[TriplesOk]
 |case2 x1 x2 x3 x4 x5 zbq ih=>simpa [TriplesOk] using ih h
 |case3=>exact h.elim
theorem zmu{p:Pos}{a b:Int}{t u:Tok}{c cv:Value}:∀{l:List Value},TriplesOk l->codeAmong p (l++[.int a t,.int b u,c])=some cv->codeAmong p l=some cv\/cv=c:=by
 intro l h e
 fun_induction TriplesOk l with
 |case1 =>
  simp only[List.nil_append,codeAmong] at e;split at e
  ·exact .inr (waA e).symm
  ·cases e
 |case2 x1 x2 x3 x4 x5 zbq ih =>
  simp only[List.cons_append,codeAmong] at e ⊢;split at e
  ·rename_i hh;rw[if_pos hh];exact .inl e
  ·rename_i hh;rw[if_neg hh];exact ih h e
 |case3=>exact h.elim
section
variable{K:W.Frag}{C:Cn}{G H:Hp}{w:Wn}{Z:Ev}{Y:L2.St}{j:Nat}{q:Str}{P c Fa:Addr}{ps:Array Value}{a b:Int}{t u:Tok}{ob:Obj}
theorem Rel.lamA(r:Rel K C G w Z Y H)(hj:Z[j]? = some (some (.tab q)))(hσ:Y[j]? = some (some (.ref P)))(hw:w P=some j)(T:zo8 P q G H ps)(hc:H c=none)(hF:H Fa=none)(hne:c≠Fa) :
  Rel K C (upd (upd G c (cHO c q)) Fa (fHO Fa ob)) w Z Y (upd (upd (upd H P (.tbl (ps++#[.int a t,.int b u,.ref c]))) c (cHO c q)) Fa (fHO Fa ob)) /\
   zbu G H w (upd (upd G c (cHO c q)) Fa (fHO Fa ob)) (upd (upd (upd H P (.tbl (ps++#[.int a t,.int b u,.ref c]))) c (cHO c q)) Fa (fHO Fa ob)) w:=by
 have gf:∀{x:Addr},H x=none->G x=none:=λ{x} e=>r.gh.free e;have cP:c≠P:=λz=>by rw[z,T.at_] at hc;cases hc
 have fP:Fa≠P:=λz=>by rw[z,T.at_] at hF;cases hF
 have gP:G P=none:=r.wg P (by rw[hw];simp);have sG:zbR G (upd (upd G c (cHO c q)) Fa (fHO Fa ob)):=λx o e=>by rw[zag (zah e (gf hF)),zag (zah e (gf hc))];exact e
 have oth:∀{x:Addr}{o:HO},x≠P->H x=some o->upd (upd (upd H P (.tbl (ps++#[.int a t,.int b u,.ref c]))) c (cHO c q)) Fa (fHO Fa ob) x=some o:=λ{x o} hx e=>by rw[zag (zah e hF),zag (zah e hc),zag hx];exact e
 have dom:∀ x,upd (upd (upd H P (.tbl (ps++#[.int a t,.int b u,.ref c]))) c (cHO c q)) Fa (fHO Fa ob) x=none->H x=none:=λx e=>by
  by_cases h1:x=Fa
  ·rw[h1,zan] at e;cases e
  ·rw[zag h1] at e;by_cases h2:x=c
   ·rw[h2,zan] at e;cases e
   ·rw[zag h2] at e;by_cases h3:x=P
    ·rw[h3,zan] at e;cases e
    ·rw[zag h3] at e;exact e
 have st:zbu G H w (upd (upd G c (cHO c q)) Fa (fHO Fa ob)) (upd (upd (upd H P (.tbl (ps++#[.int a t,.int b u,.ref c]))) c (cHO c q)) Fa (fHO Fa ob)) w:=by
  refine ⟨sG,λx o e=>?_,λx o e z=>oth (λy=>by rw[y,hw] at z;cases z) e,λx e=>.inl e,dom⟩;by_cases h1:x=Fa
  ·rw[h1];exact .inr (.inl hF)
  ·rw[zag h1] at e;by_cases h2:x=c
   ·rw[h2];exact .inr (.inl hc)
   ·rw[zag h2] at e;exact .inl (by rw[e];simp)
 refine ⟨⟨λx o e=>?_,λx e=>?_,λx e z=>r.wh x e (dom x z),r.len,λi bb e=>?_,r.en.trans st,r.pin⟩,st⟩
 ·by_cases h1:x=Fa
  ·rw[h1,zan] at e ⊢;exact e
  ·rw[zag h1] at e ⊢;by_cases h2:x=c
   ·rw[h2,zan] at e ⊢;exact e
   ·rw[zag h2] at e ⊢;rw[zag (λy=>by rw[y,gP] at e;cases e)];exact r.gh x o e
 ·have:=r.wh x e;rw[zag (λy=>this (by rw[y];exact hF)),zag (λy=>this (by rw[y];exact hc))];exact r.wg x e
 ·obtain ⟨v,e1,e2⟩:=r.sl i bb e;by_cases hi:i=j
  ·subst hi;rw[hj] at e;cases e;rw[hσ] at e1;cases e1;refine ⟨_,hσ,P,ps++#[.int a t,.int b u,.ref c],rfl,hw,?_,?_,λp cv hcv=>?_⟩
   ·rw[zag (Ne.symm fP),zag (Ne.symm cP),zan]
   ·rw[Array.toList_append];exact zkk T.tri
   ·rw[Array.toList_append] at hcv;rcases zmu T.tri hcv with z|z
    ·obtain ⟨c2,q1,q2⟩:=T.cod p cv z;exact ⟨c2,q1,sG _ _ q2⟩
    ·exact ⟨c,z,by rw[zag hne,zan]⟩
  ·refine ⟨v,e1,e2.grow sG λx o z1 z2=>⟨oth (λy=>?_) z2,z1⟩⟩;rw[y,hw] at z1;exact hi (waA z1).symm
theorem Rel.lamB(r:Rel K C G w Z Y H)(hF:H Fa=none):Rel K C (upd G Fa (fHO Fa ob)) w Z Y (upd H Fa (fHO Fa ob))/\zbu G H w (upd G Fa (fHO Fa ob)) (upd H Fa (fHO Fa ob)) w :=
 let gr:zeh G H (upd G Fa (fHO Fa ob)) (upd H Fa (fHO Fa ob)):=.new r.gh hF
 ⟨r.grow gr,gr.step⟩
theorem zl1{bs:List B}:∀{Z:Ev}{k:Nat},zgm [] bs k Z = Z
 |[],_=>rfl
 |o::r,k=>by unfold zgm;rw[zl1 (Z:=r)];rfl
end
def zqc(j:Nat)(q:Str)(fE:De):DN:=λZ=>match Z[j]? with
 |some (some (.tab q'))=>if q'=q then match fE (zbo Z) with
   |.er n=>if n<8 then .ok ([.int n],Z) else .no
   |_=>.no
  else .no
 |_=>.no
def zpS(C:Cn)(G H:Hp)(Y:L2.St):Cn:=⟨G,H,λ_=>none,[0],Y,λ_=>False,C.xv,true⟩
def zsz(C:Cn)(G H:Hp)(Y:L2.St)(n:Nat):Cn:=⟨G,H,λ_=>none,[],Y,λm=>m=n,C.xv,false⟩
abbrev HB(X:Cx)(C:Cn)(xr:Str)(st:Stmt)(f:Addr)(NR:List Str)(k:Nat)(cls:Nat->Addr)(dB:Nat->Addr->DS):Prop:=∀(XR:Cx)(CR:Cn)(n:Nat)(Fa:Addr),n<8->(∃ cdv A outer s H E,XR=zlo (CXe X.prog X.w) X.prog X.w X.K X.mg X.base NR xr (zal st) f cdv A outer s H E)->(∃ G H,CR=zpS C G H (start NR [.ref Fa]))->zdD (k+1) XR.A ->
   (∀ pS Y H s,L2.Inv XR pS Y H s->zbR CR.H₀ H->codeAny (model XR.prog XR.w) XR.A (.call (.ref Fa) ⟨[],[]⟩) (λr s'=>∃ e,r=.error e/\CXf XR.prog XR.w XR.stack H s (EL (cls n) H) e s') s) ->
   (∀ pS Y H s,L2.Inv XR pS Y H s->zbR CR.H₀ H->W.FnAt Fa s.heap)->JSs XR CR (zcr st) (dB n (cls n))
abbrev HD(m:Nat)(dB:Nat->Addr->DS):Prop:=∀ n C',n<8->∃ Z',dB n C' (some .opq::List.replicate m none)=.ok (.rt (.lst [.int n]),Z')
abbrev HL(X:Cx)(xv:Nat->Value)(k:Nat)(body:Expr)(scope:Scope)(fE:De):Prop:=∀(XL:Cx)(CL:Cn),(∃ XR cl Fa cdv s H E,XR.prog=X.prog/\XR.w=X.w/\XR.K=X.K/\XR.mg=X.mg/\XR.base=X.base/\XL=zi3 XR X.N scope cl (X.env.qual++"<lambda>") Fa cdv s H E)->CL.xv=xv->zdD k XL.A->zcW (CXe X.prog X.w) XL (EXc CL)->JE XL CL body fE
abbrev HA(X:Cx)(params:Arguments)(body:Expr)(scope:Scope):Prop:=∀ cl pm cdv ctv,bindArgs (W.kla_fn "<lambda>" (X.env.qual++"<lambda>") params body scope cl pm cdv ctv) ⟨[],[]⟩=pure []
abbrev kLo(X:Cx)(params:Arguments)(body:Expr)(scope:Scope)(cl:List (Str×Addr))(c:Addr)(ctv:Value):Obj:=W.kla_obj "<lambda>" (X.env.qual++"<lambda>") params body scope cl ((X.mg "__name__").getD .none) c ctv
structure zvj(X:Cx)(xv:Nat->Value)(k:Nat)(params:Arguments)(body:Expr)(scope:Scope)(fE:De):Prop where
 hE:HL X xv k body scope fE
 hfr:Hfr X scope
 hbind:HA X params body scope
 hdef:defaultsOf params X.env=([],[]):=by rfl
 hk:scope.kind=.function:=by rfl
 ho:zoY scope.names=true:=by rfl
 hco:scope.isCoroutine=false:=by rfl
 hgen:scope.isGenerator=false:=by rfl
structure zov(X:Cx)(xv:Nat->Value)(k n:Nat)(Z:Ev)(G:Hp)(Fa:Addr):Prop where
 ex:∃ params body scope cl c ctv fE,zvj X xv k params body scope fE/\(∀ x cc,cl.lookup x=some cc->X.env.cells.lookup x=some cc)/\(∀ y∈scope.names,y.2=.free->∃ c,cl.lookup y.1=some c) /\
  G Fa=some (fHO Fa (kLo X params body scope cl c ctv))/\G c=some (cHO c (X.env.qual++"<lambda>"))/\fE (zbo Z)=.er n
theorem zov.same{X:Cx}{xv:Nat->Value}{k n:Nat}{Z:Ev}{G G':Hp}{Fa:Addr}(L:zov X xv k n Z G Fa)(e:zbR G G'):zov X xv k n Z G' Fa:=by obtain ⟨params,body,scope,cl,c,ctv,fE,h1,h2,h3,h4,h5,h6⟩:=L.ex;exact ⟨params,body,scope,cl,c,ctv,fE,h1,h2,h3,e _ _ h4,e _ _ h5,h6⟩
def tLam(X:Cx)(P:Addr)(params:Arguments)(body:Expr)(scope:Scope)(lpos:Pos)(cl:List (Str×Addr)):TE:=λY H Q=>∃ ps:Array Value,zo8 P (X.env.qual++"<lambda>") H H ps /\
 (∀ c Fa ctv,codeAmong lpos ps.toList=none->H c=none->H Fa=none->c≠Fa->Q (.ref Fa) (upd (upd (upd H P (.tbl (ps++#[rawInt lpos.line,rawInt lpos.col,.ref c]))) c (cHO c (X.env.qual++"<lambda>"))) Fa (fHO Fa (kLo X params body scope cl c ctv)))) /\
 ∀ c Fa ctv,codeAmong lpos ps.toList=some (.ref c)->H Fa=none->Q (.ref Fa) (upd H Fa (fHO Fa (kLo X params body scope cl c ctv)))
section
variable{X:Cx}{C:Cn}{P:Addr}{params:Arguments}{body:Expr}{scope:Scope}{lpos:Pos}{cl:List (Str×Addr)}
theorem ztZ(LB:zgl X P)(hdef:defaultsOf params X.env=([],[]))(hcl:closureFor scope X.env=pure cl):PE X (.Lambda params body scope lpos) (tLam X P params body scope lpos cl):=λpS s Y H Q I ⟨ps,T,hA,hB⟩=>zu3 LB I hdef hcl T hA hB
theorem zpM{G H:Hp}{w:Wn}{Z:Ev}{Y:L2.St}{j:Nat}{Q:VK}(r:Rel X.K C G w Z Y H)(hj:Z[j]? = some (some (.tab (X.env.qual++"<lambda>"))))(hσj:Y[j]? = some (some (.ref P)))
  (k:∀ Fa c ctv G1 H1,Rel X.K C G1 w Z Y H1->zbu G H w G1 H1 w->G1 Fa=some (fHO Fa (kLo X params body scope cl c ctv))->G1 c=some (cHO c (X.env.qual++"<lambda>"))->Q (.ref Fa) H1):tLam X P params body scope lpos cl Y H Q:=by
 obtain ⟨vP,eP1,P',ps,rfl,hwP,hHP,htri,hcod⟩:=r.sl j _ hj;rw[hσj] at eP1;obtain rfl:P=P':=by injection eP1 with e1;injection e1 with e2;injection e2
 have T:zo8 P (X.env.qual++"<lambda>") G H ps:=⟨hHP,htri,hcod⟩
 have TH:zo8 P (X.env.qual++"<lambda>") H H ps:=⟨hHP,htri,λq cv z=>let ⟨c,z1,z2⟩:=hcod q cv z;⟨c,z1,r.gh _ _ z2⟩⟩
 refine ⟨ps,TH,λc Fa ctv _ hc hF hne=>?_,λc Fa ctv hk' hF=>?_⟩
 ·obtain ⟨rel1,st1⟩:=r.lamA (ob:=W.kla_obj "<lambda>" (X.env.qual++"<lambda>") params body scope cl ((X.mg "__name__").getD .none) c ctv) (a:=lpos.line) (b:=lpos.col) (t:=_) (u:=_) hj hσj hwP T hc hF hne;exact k Fa c ctv _ _ rel1 st1 zan (by rw[zag hne,zan])
 ·obtain ⟨rel1,st1⟩:=r.lamB (ob:=W.kla_obj "<lambda>" (X.env.qual++"<lambda>") params body scope cl ((X.mg "__name__").getD .none) c ctv) hF;obtain ⟨c2,e1,e2⟩:=hcod _ _ hk';cases e1;have hcH:=r.gh _ _ e2;exact k Fa c ctv _ _ rel1 st1 zan (by rw[zag (zah hcH hF)];exact e2)
end
section
variable{X:Cx}{C CY:Cn}{f:Addr}{fd:FuncData}{st:Stmt}{xq xr:Str}{NR:List Str}{m k n:Nat}{dB:Nat->Addr->DS}
theorem zpF(cls:Nat->Addr)(hxv:∀ n,n<8->C.xv n=.ref (cls n))(hfn:X.fn=λ_=>true)
  (Fu:Fun X.K xq xr st f fd) (S:zay NR ["call"] (zal st)) (hNR:NR.length=m+1) (hb:zf2 X.K fd ["call"] []) (hr:zdD (k+2) X.A)
  (hB:HB X C xr st f NR k cls dB)
  (hden:HD m dB) (hn8:n<8)
  {pS:List (Addr×Obj)} {Y σY:L2.St} {H1:Hp} {s1:Shared} (I1:L2.Inv X pS Y H1 s1) (e0:zpZ X.prog X.w X.K X.mg X.base X.A X.stack s1 H1)
  {G1:Hp} {w:Wn} {ρY Z:Ev} {Fa:Addr} (rel1:Rel X.K CY G1 w ρY σY H1) (hval:∀(i:Nat)(d:Dt),Z[i]? = some (some (.val d))->∃ v,Y[i]? = some (some v)/\Rep X.K G1 d v) (hlen:Z.length = Y.length) (L:zov X C.xv k n Z G1 Fa) {Q:VK} (kn:kN X.K CY σY Q G1 H1 w ([.int n],ρY)) :
  codeAny (model X.prog X.w) X.A (.call (.ref f) ⟨[.ref Fa],[]⟩) (L2.CR (CXe X.prog X.w) X.stack X.prog X.w H1 s1 Q (λ_ _ _=>False)) s1:=by
 obtain ⟨params,body,scope,cl,c,ctv,fE,A,hcl,hcf,gF,gc,hfE⟩:=L.ex;have hHF:=rel1.gh _ _ gF;have hHc:=rel1.gh _ _ gc;obtain ⟨oc,od,kV,doc,pm,an,cdv,ct,osl,rfl,lk,hcd⟩:=Fu.ex;refine zvE (CX:=CXe X.prog X.w) (k:=k+1) (E:=λ_ _ _=>False) (us:=[.ref Fa]) (vs:=[.ref Fa]) (N:=NR) (Q:=Q) lk hcd S hr e0 (by simpa using hb s1 [.ref Fa] I1.kIn rfl) (.cons rfl .nil) rfl ?_;let XR:=zlo (CXe X.prog X.w) X.prog X.w X.K X.mg X.base NR xr (zal st) f cdv X.A X.stack s1 H1 (λ_ _ _=>False);let CRR:=zpS C G1 H1 (start NR [.ref Fa]);have frs0:∀ x cc,cl.lookup x=some cc->cc∉frs X.stack:=λx cc e hmem=>by
  rcases wap.mp (I1.stkSub cc hmem) with z|z
  ·exact I1.cne x cc (hcl x cc e) z
  ·obtain ⟨_,o,ho',_⟩:=I1.ok.funs.mem z;exact absurd (wai ho') (Nat.not_lt.mpr (I1.ok.cab x cc (by rw[hfn]) (hcl x cc e)))
 have cells:∀ pinsR σR H2 s2,L2.Inv XR pinsR σR H2 s2->zij X.N scope.names cl Y H2 s2.heap:=λpinsR σR H2 s2 J=>by
  have mv:∀ x cc v,cl.lookup x=some cc->s1.heap.IsCell cc v->s2.heap.IsCell cc v:=λx cc v e ⟨o,e1,e2⟩ =>
   ⟨o,J.base.keep cc o e1 (I1.freeC x cc (hcl x cc e)) (frs0 x cc e) (by show cc∉([]:List Addr);simp),e2⟩
  refine ⟨λx y cc h1 h2=>I1.ok.inj x y cc (hcl x cc h1) (hcl y cc h2),λx e=>hcf _ (zaZ e) rfl,λx cc e=>?_,λi x v e1 e2 e3=>?_⟩
  ·obtain ⟨v,ic⟩:=I1.cell x cc (hcl x cc e);obtain ⟨o,e1,_⟩:=id ic;exact ⟨⟨v,mv x cc v e ic⟩,J.base.free cc o e1 (I1.freeC x cc (hcl x cc e)) (by show cc∉([]:List Addr);simp)⟩
  ·have hmem:=zaZ e3;have kc:=A.hfr _ hmem rfl;obtain ⟨m0,hn0,hl0⟩:=I1.loc;obtain ⟨u,ru,lk'⟩:=hl0 i x v e1 e2 (kc.elim (λz=>.inr (.inl z)) λz=>.inr (.inr z));obtain ⟨cc,hcc⟩:=hcf _ hmem rfl;refine ⟨u,cc,ru,hcc,?_⟩;rcases lk' with ⟨z,_⟩|⟨_,c',e',ic⟩
   ·rcases kc with y|y <;> (rw[y] at z;cases z)
   ·rw[hcl _ _ hcc] at e';cases e';exact mv x cc _ hcc ic
 have objs:∀ pinsR σR H2 s2,L2.Inv XR pinsR σR H2 s2->zbR H1 H2->s2.heap.get? Fa=some (kLo X params body scope cl c ctv)/\s2.heap.CodeRec (.ref c) (X.env.qual++"<lambda>"):=λpinsR σR H2 s2 J sm=>by have o1:zcw XR.prog XR.w H2 s2.heap Fa (fHO Fa _):=J.hok Fa _ (sm _ _ hHF);have o2:zcw XR.prog XR.w H2 s2.heap c (cHO c _):=J.hok c _ (sm _ _ hHc);exact ⟨o1.1,o2.1⟩
 have hrR:zdD (k+1) XR.A:=hr.deeper _;have hjs:=hB XR CRR n Fa hn8 ⟨cdv,X.A,X.stack,s1,H1,λ_ _ _=>False,rfl⟩ ⟨G1,H1,rfl⟩ hrR (λpinsR σR H2 s2 J sm=>?_) λpinsR σR H2 s2 J sm=>?_
 ·refine ⟨_,hjs,G1,λ_=>none,some .opq::List.replicate m none,?_,?_⟩
  ·refine ⟨rel1.gh,λb e=>absurd rfl e,λb e=>absurd rfl e,?_,λi b e=>?_,.refl _ _ _,λi _=>rfl⟩
   ·unfold L2.start;simp[hNR]
   ·cases i with
    |zero =>
     simp at e;subst e;exact ⟨.ref Fa,rfl,trivial⟩
    |succ i =>
     rw[List.getElem?_cons_succ,List.getElem?_replicate] at e;split at e <;> cases e
  ·obtain ⟨Z',e⟩:=hden n (cls n) hn8;rw[e];intro v Y' G' H' w' st' rel' rt;obtain ⟨l,pp,us,e1,rfl,e3,e4,e5,e6,e7⟩:=rt;injection e1 with e1;subst e1;have win:wIn w []=λ_=>none:=by funext b;unfold wIn;cases w b <;> rfl
   obtain ⟨r2,st2⟩:=rel1.back (as:=[]) (vs:=[]) (bs:=[]) (bs':=[]) (ks:=[]) rfl rfl rfl rfl (by rw[win];exact st') ⟨rel'.gh,rel'.wg,rel'.wh,λj' v' z=>by simp at z⟩;rw[zl1] at r2;have w1p:w pp=none:=by
    cases zz:w pp with
    |none=>rfl
    |some kk=>exact absurd e3 (rel1.wh pp (by rw[zz];simp))
   exact kn pp us G' H' _ st2 r2 e3 e4 e5 (by unfold zpn;rw[e6,w1p];rfl) e7
 ·
  obtain ⟨o1,o2⟩:=objs _ _ _ _ J sm;refine zqS (Y:=Y) (N:=X.N) (t:=tE X.K (zsz C G1 H2 Y n) fE) J rfl (by have:=hrR.dp;omega) A.hk A.ho (cells _ _ _ _ J) I1.len o1 o2 (A.hbind _ _ _ _) A.hco A.hgen ?_ ?_
  ·refine A.hE _ (zsz C G1 H2 Y n) ⟨XR,cl,Fa,.ref c,s2,H2,EL (cls n) H2,rfl,rfl,rfl,rfl,rfl,rfl⟩ rfl (hrR.deeper _) (zm3 λu a H' ⟨ea,n',eu,en,G',w',s'⟩=>?_);have en':n'=n:=en;subst en';exact ⟨eu.trans (hxv n' hn8),λb o e=>s'.h b o e rfl⟩
  ·refine ⟨G1,λ_=>none,zbo Z,⟨rel1.gh.trans sm,λb e=>absurd rfl e,λb e=>absurd rfl e,by unfold zbo;rw[List.length_map];exact hlen,λi b e=>?_,.refl _ _ _,λi hi=>by simp[zsz] at hi⟩,?_⟩
   ·unfold zbo at e;rw[List.getElem?_map] at e;cases q:Z[i]? with
    |none=>rw[q] at e;cases e
    |some o =>
     rw[q] at e;simp only[Option.map_some,Option.some.injEq] at e;split at e
     ·cases e;obtain ⟨v,e1,e2⟩:=hval i _ q;exact ⟨v,e1,e2⟩
     ·cases e
   ·rw[hfE];rfl
 ·obtain ⟨o1,_⟩:=objs _ _ _ _ J sm;exact ⟨_,_,_,_,o1⟩
end
theorem zt0{Yq:Cx}{pS:List (Addr×Obj)}{Y:L2.St}{H:Hp}{s s2:Shared}{Q:VK}{rr:Result}(I:L2.Inv Yq pS Y H s)(hq:L2.CR (CXe Yq.prog Yq.w) Yq.stack Yq.prog Yq.w H s Q (λ_ _ _=>False) rr s2){E:Value->Shared->Prop}:(match (generalizing:=false) rr with|.ok (.ret v)=>EP Yq pS Y Q v s2|.ok _=>False|.error e=>E e s2):=by
 cases rr with
 |error e=>exact (CXe.none hq).elim
 |ok fl =>
  cases fl with
  |ret u=>exact I.after hq
  |next=>exact waO hq
  |brk=>exact waO hq
  |cont=>exact waO hq
section
variable{X:Cx}{C:Cn}{P f:Addr}{fd:FuncData}{st:Stmt}{xq xr:Str}{NR:List Str}{m k j:Nat}{p pos lpos:Pos}{params:Arguments}{body:Expr}{scope:Scope}{fE:De}{dB:Nat->Addr->DS}
theorem zry(LB:zgl X P)(hfn:X.fn=λ_=>true)(hpp:j∈C.pp)(hσ0:C.σ₀[j]? = some (some (.ref P)))(cls:Nat->Addr)(hxv:∀ n,n<8->C.xv n=.ref (cls n))
  (Fu:Fun X.K xq xr st f fd) (S:zay NR ["call"] (zal st)) (hNR:NR.length=m+1) (hb:zf2 X.K fd ["call"] []) (hm:X.mg xr=some (.ref f)) (hr:zdD (k+2) X.A)
  (hB:HB X C xr st f NR k cls dB)
  (hden:HD m dB)
  (hE:HL X C.xv k body scope fE)
  (hdef:defaultsOf params X.env=([],[]):=by rfl) (hk:scope.kind=.function:=by rfl) (ho:zoY scope.names=true:=by rfl) (hfr:Hfr X scope)
  (hbind:HA X params body scope) (hco:scope.isCoroutine=false:=by rfl) (hgen:scope.isGenerator=false:=by rfl)
  (hg:Gl X xr:=by rfl) (hdb:(xr == ("__debug__" : Str))=false:=by decide) (he:starEach [.Lambda params body scope lpos] X.env=(false,eval (.Lambda params body scope lpos) X.env)::starEach [] X.env:=by rfl) (hpl:(backTo pos (starEach [] X.env)).any (·.1)=false:=by rfl) :
  JN X C (.Call (.Name xr p) [.Lambda params body scope lpos] [] pos) (zqc j (X.env.qual++"<lambda>") fE):=by
 intro pS s Y H Q I ⟨G,w,Z,r,pst⟩;unfold zqc at pst;split at pst
 case h_2=>exact pst.elim
 rename_i q' hj;split at pst
 case isFalse=>exact pst.elim
 rename_i hq';subst hq';split at pst
 case h_2=>exact pst.elim
 rename_i n hfE;split at pst
 case isFalse=>exact pst.elim
 rename_i hn8;have kn:kN X.K C Y Q G H w ([.int n],Z):=pst;obtain ⟨cl,hclos,hcl,hcf⟩:=zee (scope:=scope) (env:=X.env) λy hy hf=>I.ok.has y.1 (hfr y hy hf);have hσj:Y[j]? = some (some (.ref P)):=by rw[r.pin j hpp];exact hσ0
 refine wpAny_Call_Name_kw (zg5 I hg hm ?_ hdb);refine W.callWith_K (h₀:=X.base) I.ok.mod.kin Fu.kp ?_ he hpl;rw[he];refine Calls.spliced_cons (thn (ztZ LB hdef hclos pS s Y H (λv H1=>∃ Fa c ctv G1,v=.ref Fa/\Rel X.K C G1 w Z Y H1/\zbu G H w G1 H1 w/\G1 Fa=some (fHO Fa (kLo X params body scope cl c ctv))/\G1 c=some (cHO c (X.env.qual++"<lambda>"))) I (zpM r hj hσj λFa c ctv G1 H1 a1 a2 a3 a4=>⟨Fa,c,ctv,G1,rfl,a1,a2,a3,a4⟩)) λu s1 hEP=>?_);obtain ⟨v,H1,I1,rv,Fa,c,ctv,G1,rfl,rel1,st1,gF,gc⟩:=hEP;cases rv;show wpAny _ _ (spliced []) _ _ s1;refine Calls.spliced_nil ⟨I1.kIn,wpAny_call (codeAny_mono (zpF cls hxv hfn Fu S hNR hb hr hB hden hn8 I1 I1.env0 rel1 (λi d e=>rel1.sl i _ e) rel1.len ⟨_,_,_,cl,c,ctv,fE,⟨hE,hfr,hbind,hdef,hk,ho,hco,hgen⟩,hcl,hcf,gF,gc,hfE⟩ (zf9 _ _ _ _ _ _ _ st1 kn)) λrr s2 hq=>zt0 I1 hq)⟩
end
theorem zn2{P:Program}{w:World}{K:W.Frag}{mg mb:Str->Option Value}{CX:CXT}{k:Nat}{fa a PT cL:Addr}{fd:FuncData}{x:Str}{sp:Sp}{s₁:Shared}{vs:List Value}{ns:List Int}
  (KX:K.In s₁.heap) (hns:s₁.heap.Ns mainGlobals mg) (hb:s₁.heap.Ns builtinsNs mb) (hbb:∀ x:Str,x≠"__name__"->mb x=bootBuiltins x) (hlim:s₁.heap.NoLimit) (hg:s₁.gens=#[])
  (ha:s₁.heap.get? a=some { cls:=.type "list",data:=.seq vs.toArray }) (hi:IntsAre vs ns) (hl:ns.length<=sizeLine) (hr:zdD k callerA)
  (hPT:s₁.heap.get? PT=some (W.tabObj #[])) (hnt:W.noTabs K=true) (hcode:W.codeHdIn K cL PT=true) (hbm:s₁.heap.BuiltinsAt mg PT)
  (F:∀ base:Heap,K.In base->base.Ns mainGlobals mg->base.BuiltinsAt mg PT->zff P w K mg base CX k fa fd [x] sp) (hbind:∀(s:Shared)(u:Value),BindsTo s fd ⟨[u],[]⟩ [(x,u)])
  (hsp:∀ H:Hp,H PT=some (.tbl #[])->SqL K H a (ns.map V.int)->sp [.ref a] H (λv _=>v=.bl true) λ_ _ _=>False)
  (hCX:∀ H e s',CX [] H s₁ (λ_ _ _=>False) e s'->False) :
  codeAny (model P w) callerA (.call (.ref fa) ⟨[.ref a],[]⟩) (λr s'=>r=.ok (.ret (.bool true))/\OldK s₁.heap s'.heap/\s'.os=s₁.os/\AllBare s'.gens) s₁:=by
 have rv:=vals_ints hi;have lenV:=hi.length;have aP:a≠PT:=λz=>by rw[z,hPT] at ha;have:=congrArg Obj.cls (waA ha);cases this
 have kP:K.lookup PT=none:=by
  cases q:K.lookup PT with
  |none=>rfl
  |some o =>
   have e:=KX _ _ q;rw[hPT] at e;have h2:=List.all_eq_true.mp hnt (PT,o) (W.mem_of_lookupK q);cases e;exact absurd (show false=true from h2) Bool.false_ne_true
 have core:∀ H:Hp,(∀ b,b≠PT->H b=none\/∃ o xs,H b=some (.frz o (.lst xs)))->H PT=some (.tbl #[])->SqL K H a (ns.map V.int)->HOk P w H s₁.heap->(∀ b,H b≠none->b=a\/b=PT)->(H a≠none->K.lookup a=none) ->
   codeAny (model P w) callerA (.call (.ref fa) ⟨[.ref a],[]⟩) (λr s'=>r=.ok (.ret (.bool true))/\OldK s₁.heap s'.heap/\s'.os=s₁.os/\AllBare s'.gens) s₁:=by
  intro H hO hP hS hok hA hK;have base_of:∀{b:Addr}{o:Obj},s₁.heap.get? b=some o->H b=none->(zpo s₁.heap H).get? b=some o:=λe n=>zps e n;have ot:∀{b:Addr}{o:Obj},s₁.heap.get? b=some o->o.cls≠.type "list"->o.cls≠.none->H b=none:=λ{b o} e d1 d2=>by
   cases q:H b with
   |none=>rfl
   |some u =>
    rcases hA b (by rw[q];simp) with z|z
    ·rw[z,ha] at e;cases e;exact absurd rfl d1
    ·rw[z,hPT] at e;cases e;exact absurd rfl d2
  have noA:∀{b:Addr}{o:Obj}{es:Array DictEntry}{ep:Nat},s₁.heap.get? b=some o->o.data=.dict es ep->H b=none:=λ{b o es ep} e d=>by
   cases q:H b with
   |none=>rfl
   |some u =>
    rcases hA b (by rw[q];simp) with z|z
    ·rw[z,ha] at e;cases e;cases d
    ·rw[z,hPT] at e;cases e;cases d
  have nsK:∀{b:Addr}{m:Str->Option Value},s₁.heap.Ns b m->(zpo s₁.heap H).Ns b m:=λ{b m} ⟨o,es,ep,e,d,r⟩=>⟨o,es,ep,base_of e (noA e d),d,r⟩
  have hKb:K.In (zpo s₁.heap H):=λb o e=>base_of (KX b o e) (by
   cases q:H b with
   |none=>rfl
   |some u =>
    rcases hA b (by rw[q];simp) with z|z
    ·subst z;rw[hK (by rw[q];simp)] at e;cases e
    ·rw[z,kP] at e;cases e)
  have hM:Mod K mg (zpo s₁.heap H):=⟨hKb,nsK hns,⟨mb,nsK hb,hbb⟩,let ⟨mc,h1,h2⟩:=hlim;⟨mc,nsK h1,h2⟩⟩
  have hbm':(zpo s₁.heap H).BuiltinsAt mg PT:=by obtain ⟨bm,o,b1,b2,b3,b4,b5,b6,b7⟩:=hbm;exact ⟨bm,o,b1,b2,b3,b4,base_of b5 (ot b5 (by rw[b6];decide) (by rw[b6];intro z;cases z)),b6,b7⟩
  have e0:zpZ P w K mg (zpo s₁.heap H) callerA [] s₁ H:=⟨rfl,hM,λb o e=>zst e,Nat.le_of_eq (zot _ _),trivial,λb hb=>absurd (show b∈([]:List Addr) from hb) xws,hok,.of_eq hg⟩
  refine codeAny_mono ((F _ hKb (nsK hns) hbm').run callerA [] s₁ H ⟨[.ref a],[]⟩ [.ref a] [.ref a] _ _ hr e0 (hbind s₁ (.ref a)) (.cons rfl .nil) (hsp H hP hS)) λr s' h=>?_;cases r with
  |error e=>exact (hCX H e s' h).elim
  |ok fl =>
   cases fl with
   |next=>exact waO h
   |brk=>exact waO h
   |cont=>exact waO h
   |ret u =>
    obtain ⟨v,H',os,bare,un,hok',r',q⟩:=h;have q':v=.bl true:=q;subst q';obtain rfl:u=Value.bool true:=r';have kept:∀ b o,b≠PT->s₁.heap.get? b=some o->s'.heap.get? b=some o:=λb o hb e=>by
     cases q:H b with
     |none=>exact un.keep b o e q (by intro z;exact absurd (show b∈([]:List Addr) from z) xws) xws
     |some u =>
      rcases hO b hb with z|⟨ob,xs,z⟩
      ·rw[q] at z;cases z
      ·have z2:=un.frzs b ob _ z;obtain ⟨e1,_⟩:=hok b _ z;obtain ⟨e2,_⟩:=hok' b _ z2;rw[e] at e1;cases e1;exact e2
    obtain ⟨more,hm⟩:=un.tbls PT #[] hP;have hPT':s'.heap.get? PT=some (W.tabObj (#[]++more)):=hok' PT _ hm;have tab:=(W.codeHd_of_K KX hcode).tab hPT;refine ⟨rfl,⟨λb o e=>?_,λb o e=>?_⟩,os,bare⟩
    ·by_cases hb:b=PT
     ·subst hb;rw[hPT] at e;cases e;exact .inr (.inl ⟨tab.isCodeTable,rfl,#[],more,rfl,hPT'⟩)
     ·exact .inl (kept b o hb e)
    ·by_cases hb:b=PT
     ·subst hb;exact ⟨_,hPT'⟩
     ·exact ⟨o,kept b o hb e⟩
 cases hk:K.lookup a with
 |some o =>
  have e:=KX a o hk;rw[ha] at e;cases e;refine core (λb=>if b=PT then some (.tbl #[]) else none) (λb hb=>.inl (if_neg hb)) (if_pos rfl) (.inr ⟨_,vs.toArray,_,hk,rfl,rfl,rfl,by rw[List.size_toArray,lenV];exact hl,by simpa using rv⟩) (λb u z=>?_) (λb z=>?_) λz=>absurd (if_neg aP) z
  ·by_cases hb:b=PT
   ·have z':=(if_pos hb).symm.trans z;cases z';subst hb;exact hPT
   ·have z':=(if_neg hb).symm.trans z;cases z'
  ·by_cases hb:b=PT
   ·exact .inr hb
   ·exact absurd (if_neg hb) z
 |none =>
  refine core (λb=>if b=PT then some (.tbl #[]) else if b=a then some (.frz { cls:=.type "list",data:=.seq vs.toArray } (.lst (ns.map V.int))) else none) (λb hb=>?_) (if_pos rfl) (.inl (.inr ⟨{ cls:=.type "list",data:=.seq vs.toArray },(if_neg aP).trans (if_pos rfl)⟩)) (λb u z=>?_) (λb z=>?_) λ_=>hk
  ·by_cases hba:b=a
   ·exact .inr ⟨_,_,(if_neg hb).trans (if_pos hba)⟩
   ·exact .inl ((if_neg hb).trans (if_neg hba))
  ·by_cases hb:b=PT
   ·have z':=(if_pos hb).symm.trans z;cases z';subst hb;exact hPT
   ·have z:=(if_neg hb).symm.trans z;by_cases hba:b=a
    ·have z':=(if_pos hba).symm.trans z;cases z';subst hba;exact ⟨ha,by rw[List.length_map];exact hl,vs,_,rv,ha⟩
    ·have z':=(if_neg hba).symm.trans z;cases z'
  ·by_cases hb:b=PT
   ·exact .inr hb
   ·by_cases hba:b=a
    ·exact .inl hba
    ·exact absurd ((if_neg hb).trans (if_neg hba)) z
theorem zp3{l:W.OpenLaw}{n k:Nat}{q:Program}{loose:List Str}{XP:(Str->Option Value)->Heap->Prop}{YP:World->Heap->Prop}{d:DefRec}{K:Params->W.Frag}{CX:World->CXT}{sp:World->Sp}{x:Str}{PT:Addr}
  (hn:l.most=some n) (hn2:n<=sizeLine) (hdf:d.params.defaults=[]) (hr:zdD k callerA)
  (hY:∀(w:World)(h:Heap),YP w h->(K w.params).In h) (hYT:∀(w:World)(h:Heap),YP w h->h.get? PT=some (W.tabObj #[])) (hnt:∀ w:World,W.noTabs (K w.params)=true)
  (F:∀(w:World)(mg:Str->Option Value)(fa:Addr)(h:Heap),(K w.params).In h->h.Ns mainGlobals mg->mg d.name=some (.ref fa) ->
   ∃(fd:FuncData)(cL:Addr),(∀(s:Shared)(u:Value),BindsTo s fd ⟨[u],[]⟩ [(x,u)])/\W.codeHdIn (K w.params) cL PT=true /\
    ∀ base:Heap,(K w.params).In base->base.Ns mainGlobals mg->base.BuiltinsAt mg PT->zff l.prog w (K w.params) mg base (CX w) k fa fd [x] (sp w))
  (hsp:∀(w:World)(H:Hp)(a:Addr)(ns:List Int),ns.length<=n->H PT=some (.tbl #[])->SqL (K w.params) H a (ns.map V.int)->sp w [.ref a] H (λv _=>v=.bl true) λ_ _ _=>False)
  (hCX:∀(w:World)(H:Hp)(s:Shared)(e:Value)(s':Shared),CX w [] H s (λ_ _ _=>False) e s'->False) :
  W.WalkO q loose XP YP l.row.toRowW d [] (λf vs=>PySem.call f vs):=by
 refine Att.attach_call hn hdf λw s₀ s₁ mg mb fa o pm cd doc a vs ns G Yq ho hd hcd hmg hobj hints hlen hg=>?_;have KX:=hY w _ Yq;have hPT:=hYT w _ Yq;obtain ⟨fd,cL,hb,hcode,hF⟩:=F w mg fa _ KX G.T.g hmg;have hbm:s₁.heap.BuiltinsAt mg PT:=by
  obtain ⟨bm,ob,b1,b2,b3,b4,b5,b6⟩:=G.T.bmain;refine ⟨bm,ob,b1,b2,λz=>?_,λz=>?_,b3,b4,b5,b6⟩
  ·obtain ⟨o',es,ep,e,hd',_⟩:=G.T.g;rw[z,e] at b3;cases b3;rw[hd'] at b6;cases b6
  ·rw[z,hPT] at b3;cases b3;cases b4
 exact zn2 KX G.T.g G.T.b G.T.builtins G.T.nolimit hg hobj hints (waN hlen hn2) hr hPT (hnt w) hcode hbm hF hb (λH hP hS=>hsp w H a ns hlen hP hS) λH e s'=>hCX w H s₁ e s'
theorem zn1{X:Cx}{pS:List (Addr×Obj)}{Y:L2.St}{H:Hp}{s:Shared}{j:Nat}{x:Str}{o:Option V}(I:L2.Inv X pS Y H s)(hj:X.N[j]? = some x)(hv:¬ Vis X.env.scope x):L2.Inv X pS (Y.set j o) H s:=by
 refine ⟨I.ok,I.os,I.bare,I.base,?_,I.cell,I.free,I.freeC,I.pin,I.hok,by simpa using I.len⟩;obtain ⟨m,hn,hl⟩:=I.loc;refine ⟨m,hn,λi y v e1 e2 e3=>?_⟩;by_cases hi:i=j
 ·subst hi;rw[hj] at e1;cases e1;exact absurd e3 hv
 ·rw[List.getElem?_set_ne (Ne.symm hi)] at e2;exact hl i y v e1 e2 e3
def spT(K:W.Frag)(PT:Addr)(ok:List Int->Prop):Sp:=λvs H Q _=>∃ a ns,vs=[.ref a]/\SqL K H a (ns.map V.int)/\H PT=some (.tbl #[])/\ok ns/\∀ H',Q (.bl true) H'
def ztD(m:Nat)(q:Str)(fb:DS)(ns:List Int):Prop:=∃ Z',fb (some (.val (.scr ns))::(List.replicate m none++[some (.tab q)]))=.ok (.rt (.bl true),Z')
theorem zuY{P:Program}{w:World}{K:W.Frag}{mg:Str->Option Value}{base:Heap}{xq qual xs xt q:Str}{st:Stmt}{N:List Str}{xv:Nat->Value}{m k:Nat}{fb:DS}{f PT cL:Addr}{fd:FuncData}
  (Fu:Fun K xq qual st f fd) (hcL:fd.code=.ref cL) (hch:W.codeHdIn K cL PT=true) (S:zay N [xs] (zal st)) (hm:N.length=m+2) (hj:N[m+1]? = some xt) (hv:¬ Vis (zal st) xt) (hbm:base.BuiltinsAt mg PT) (hKb:K.In base)
  (hbody:∀(X:Cx)(C:Cn),(∃ cdv A outer s H E,X=zlo (CXe P w) P w K mg base N qual (zal st) f cdv A outer s H E)->C.pp=[m+1]->C.σ₀[m+1]? = some (some (.ref PT))->C.xv=xv->C.nw=false->zdD k X.A->zcW (CXe P w) X (EXc C)->PassesOwn (model X.prog X.w) X.A X.env X.xe->zgl X PT->JSs X C (zcr st) fb) :
  zff P w K mg base (CXe P w) (k+1) f fd [xs] (spT K PT (ztD m q fb)):=by
 obtain ⟨oc,od,kV,doc,pm,an,cdv,ct,osl,rfl,lk,hcd⟩:=Fu.ex;obtain rfl:cdv=.ref cL:=hcL;refine zt8 lk hcd S (λvs H Q E ⟨a,ns,h,_⟩=>by rw[h];rfl) λA outer s H vs Q E hr hsp=>?_;obtain ⟨a,ns,rfl,hS,hP,⟨Z',hok⟩,hQ⟩:=hsp;let X:=zlo (CXe P w) P w K mg base N qual (zal st) f (.ref cL) A outer s H E;let G:Hp:=λb=>if b=PT then none else H b
 let w0:Wn:=λb=>if b=PT then some (m+1) else none
 let Y1:L2.St:=(L2.start N [.ref a]).set (m+1) (some (.ref PT));let C:Cn:=⟨G,H,w0,[m+1],Y1,λ_=>False,xv,false⟩
 have lS:(L2.start N [V.ref a]).length=m+2:=by unfold L2.start;simp[hm]
 have hb:=hbody X C ⟨.ref cL,A,outer,s,H,E,rfl⟩ rfl (by show Y1[m+1]? = _;rw[List.getElem?_set_self (by rw[lS];omega)]) rfl rfl hr
  (zaF N qual (zal st) f (.ref cL) A outer s H E (EXc C) S.kind λu b H' ⟨_,n,_,z,_⟩=>z.elim) PassesOwn.leaving ⟨⟨cL,rfl,W.codeHd_of_K hKb hch⟩,hbm⟩
 refine ⟨λD Y H=>tS K C fb D (Y.set (m+1) (some (.ref PT))) H,λpS s' Y H' D I h=>hb pS s' _ H' D (zn1 I hj hv) h,G,w0,some (.val (.scr ns))::(List.replicate m none++[some (.tab q)]),?_,?_⟩
 ·have gP:G PT=none:=if_pos rfl;have gO:∀{b:Addr},b≠PT->G b=H b:=λh=>if_neg h;have wP:w0 PT=some (m+1):=if_pos rfl;have wO:∀ b,w0 b≠none->b=PT:=λb e=>by
   by_cases hb:b=PT
   ·exact hb
   ·exact absurd (if_neg hb) e
  refine ⟨λb o e=>?_,λb e=>by rw[wO b e];exact gP,λb e=>by rw[wO b e,hP];simp,by simp[lS],λi b e=>?_,.refl _ _ _,λi _=>rfl⟩
  ·by_cases hb:b=PT
   ·rw[hb,gP] at e;cases e
   ·rw[gO hb] at e;exact e
  ·cases i with
   |zero =>
    simp at e;subst e;refine ⟨.ref a,?_,?_⟩
    ·rw[List.getElem?_set_ne xwo];unfold L2.start;simp
    ·show Rep K G (.scr ns) (.ref a);unfold Rep;refine ⟨a,rfl,?_⟩;rcases hS with (h|⟨o,h⟩)|h
     ·exact .inl (.inl ((gO λz=>by rw[z,hP] at h;cases h).trans h))
     ·exact .inl (.inr ⟨o,(gO λz=>by rw[z,hP] at h;cases h).trans h⟩)
     ·exact .inr h
   |succ i =>
    rw[List.getElem?_cons_succ] at e;by_cases hi:i<m
    ·rw[List.getElem?_append_left (by simpa using hi),List.getElem?_replicate] at e;split at e <;> cases e
    ·rw[List.getElem?_append_right (by simpa using hi)] at e;simp only[List.length_replicate] at e;have him:i=m:=by
      by_cases h:i-m=0
      ·omega
      ·obtain ⟨y,hy⟩:=Nat.exists_eq_succ_of_ne_zero h;rw[hy] at e;simp at e
     subst him;simp at e;subst e;refine ⟨.ref PT,by rw[List.getElem?_set_self (by rw[lS];omega)],PT,#[],rfl,wP,hP,trivial,λpos cv z=>?_⟩;simp[codeAmong] at z
 ·rw[hok];intro v Y' G' H' w' _ _ rt;have:v=.bl true:=zcJ (K:=K) (G:=G') rt;subst this;exact hQ H'
theorem zr1{P:Program}{w:World}{X:Cx}{C:Cn}(h:∀ n,¬ C.ex n):zcW (CXe P w) X (EXc C):=λ_ _ _ _ _ _ _ hx=>by rcases hx with ⟨_,_,_,_,_,_,_,_,_,_,_,_,_,_,_,n,_,z,_⟩|⟨_,_,_,_,_,_,_,_,n,_,z,_⟩ <;> exact (h n z).elim
section
variable{X:Cx}{C:Cn}{a b:Expr}{fa fb:De}{pos:Pos}
def zfB:Dt->Dt->R Dt
 |.tup x,.tup y=>if x.length+y.length<=16777216 then .ok (.tup (x++y)) else .no
 |_,_=>.no
def zvk(K:W.Frag):R2:=λx y H Q=>∃ a b xs ys,x=.ref a/\y=.ref b/\SqT K H a xs/\SqT K H b ys/\xs.length+ys.length<=sizeLine /\
 (xs=[]->Q (.ref b) H)/\(xs≠[]->ys=[]->Q (.ref a) H)/\(xs≠[]->ys≠[]->∀ p,H p=none->Q (.ref p) (upd H p (.tup (xs++ys))))
theorem zqN{prog:Program}{w:World}{A:Around}{E:Value->Shared->Prop}{s:Shared}{t b:Addr}{ws:List Value}{Q:Value->Shared->Prop}(ht:IsTup s.heap t ([]:List Value).toArray)(hb:IsTup s.heap b ws.toArray)(h:Q (.ref b) s) :
  wpAny (model prog w) A (binaryOp .Add (.ref t) (.ref b)) Q E s:=by
 obtain ⟨⟨c1,d1,dt1,sl1⟩,e1,q1,n1,r1⟩:=id ht;obtain ⟨⟨c2,d2,dt2,sl2⟩,e2,q2,n2,r2⟩:=id hb;simp only at q1 r1 q2 r2;subst q1 r1 q2 r2;exact concat_meets ⟨_,e1,rfl⟩ ⟨_,e2,rfl⟩ noFill_tuple_add seq_tuple_add F.slot_tuple_add F.entry_tuple_add (F.args_tuple_add_2 _ _) (tuple_addW0 t b ([]:List Value).toArray ws.toArray n1 n2 d1 d2 sl1 sl2 rfl) ⟨e1,e2,h⟩
theorem zrP:OpR X (binaryOp .Add) (zvk X.K):=by
 intro pS s Y H x y v u Q I rx ry h;obtain ⟨a,b,xs,ys,rfl,rfl,ha,hb,hz,q0,q1,q2⟩:=h;by_cases hx:xs=[]
 ·subst hx;cases rx;cases ry;obtain ⟨its,r1,p1,_⟩:=I.tuple ha;obtain ⟨its2,r2,p2,_⟩:=I.tuple hb;obtain rfl:its=[]:=by cases r1;rfl
  exact zqN p1 p2 ⟨.ref b,H,I,rfl,q0 rfl⟩
 ·exact zrS pS s Y H _ _ v u Q I rx ry ⟨a,b,xs,ys,rfl,rfl,ha,hb,hx,hz,q1 hx,q2 hx⟩
theorem zp7:Op2 X.K (zvk X.K) zfB:=λG H x y dx dy z Q sm hx hy e k=>by
 unfold zfB at e;split at e
 ·rename_i l l';split at e
  ·rename_i hl;cases e;obtain ⟨a,vs,rfl,h1,h2⟩:=zb0 hx;obtain ⟨b,us,rfl,h3,h4⟩:=zb0 hy;have nil_of:∀{m:List Dt}{ws:List V},za1 X.K G m ws->ws=[]->m=[]:=λ{m ws} r z=>by have:=r.length;rw[z] at this;exact List.length_eq_zero_iff.mp this
   refine ⟨a,b,vs,us,rfl,rfl,zaA sm h1,zaA sm h3,by rw[<- h2.length,<- h4.length,zdA];exact hl,λz=>?_,λ_ z=>?_,λ_ _ p hp=>?_⟩
   ·rw[nil_of h2 z] at k;exact k _ G H (.refl sm) hy
   ·rw[nil_of h4 z,List.append_nil] at k;exact k _ G H (.refl sm) hx
   ·have gr:zeh G H (upd G p (.tup (vs++us))) (upd H p (.tup (vs++us))):=.new sm hp;exact k _ _ _ gr (by unfold Rep;exact ⟨p,_,rfl,zhz.of zan,(h2.same gr.g).append (h4.same gr.g)⟩)
  ·cases e
 ·cases e
theorem zpj:zhN zfB:=λx y n h=>by
 unfold zfB at h;split at h
 ·split at h <;> cases h
 ·cases h
theorem zn8(ha:JE X C a fa)(hb:JE X C b fb):JE X C (.BinOp a .Add b pos) (dOp zfB fa fb):=zk0 zrP zp7 zpj ha hb
theorem zsZ{p:Pos}:JE X C (.Dict [] [] p) (dC (.dct [])):=λpS s Y H Q I ⟨G,w,Z,r,q⟩=>by
 have big:sysModules<s.heap.objs.size:=Nat.lt_trans xwd (I.mod.glob.keeps I.bk).lt;have hf:H s.heap.objs.size=none:=I.hok.fresh (wal _);have ok:zcw X.prog X.w (upd H s.heap.objs.size (.dK [])) (s.heap.push { cls:=.type "dict",data:=.dict #[] }) s.heap.objs.size (.dK []):=⟨Nat.zero_le _,beq_eq_false_iff_ne.mpr (Ne.symm (waM big)),[],.nil,Heap.DictOf.new s.heap⟩
 refine wpAny_Dict_empty ⟨.ref s.heap.objs.size,_,I.laid (t':=s.toks) (λ_ _ z=>waa _ z) (wal _) ok,rfl,?_⟩;have gr:zeh G H (upd G s.heap.objs.size (.dK [])) (upd H s.heap.objs.size (.dK [])):=.new r.gh hf;exact q _ _ _ w gr.step (r.grow gr) (by unfold Rep;exact ⟨_,rfl,zan⟩)
end
def dAC(ds:List Dt):DA:=λZ=>.ok (ds,Z)
mutual
def zjR:Nat->Expr->Option Dt
 |0,_=>none
 |k+1,e=>match e with
  |.Constant (.int i) _ _=>some (.int i)
  |.Constant (.bool b) _ _=>some (.bl b)
  |.Constant .none _ _=>some .non
  |.Constant (.str x) _ _=>some (.str x)
  |.UnaryOp .USub (.Constant (.int i) _ _) _=>some (.int (-i))
  |.Tuple es _ _=>(zeO k es).bind λds=>if zdC ds=true then some (.tup ds) else none
  |.List es _=>(zeO k es).bind λds=>if zdC ds=true then some (.lst ds) else none
  |.Dict [] [] _=>some (.dct [])
  |_=>none
def zeO:Nat->List Expr->Option (List Dt)
 |_,[]=>some []
 |0,_::_=>none
 |k+1,e::es=>(zjR k e).bind λd=>(zeO k es).bind λds=>some (d::ds)
end
section
variable{X:Cx}{C:Cn}
theorem JE.eq{e:Expr}{f g:De}(h:JE X C e f)(q:f=g):JE X C e g:=q ▸ h
theorem JA.eq{e:List Expr}{f g:DA}(h:JA X C e f)(q:f=g):JA X C e g:=q ▸ h
mutual
theorem zoq:∀(k:Nat){e:Expr}{d:Dt},zjR k e=some d->JE X C e (dC d)/\∀ es,starEach (e::es) X.env=(false,eval e X.env)::starEach es X.env
 |0,e,d,h=>by simp[zjR] at h
 |k+1,e,d,h=>by
  unfold zjR at h;split at h
  ·cases h;exact ⟨zar,λ_=>rfl⟩
  ·cases h;exact ⟨zdB,λ_=>rfl⟩
  ·cases h;exact ⟨zok,λ_=>rfl⟩
  ·cases h;exact ⟨zez,λ_=>rfl⟩
  ·cases h;exact ⟨(zrh zar).eq rfl,λ_=>rfl⟩
  ·rename_i es x1 pos;obtain ⟨ds,hds,h⟩:=Option.bind_eq_some_iff.mp h;split at h
   ·rename_i hf;cases h;refine ⟨(zfL (zkU k hds)).eq ?_,λ_=>rfl⟩;funext Z;show (if zdC ds=true then _ else _)=_;rw[if_pos hf];rfl
   ·cases h
  ·rename_i es pos;obtain ⟨ds,hds,h⟩:=Option.bind_eq_some_iff.mp h;split at h
   ·rename_i hf;cases h;refine ⟨(za8 (zbz (zkU k hds))).eq ?_,λ_=>rfl⟩;funext Z;show (R.bind (if zdC ds=true then _ else _) _)=_;rw[if_pos hf];rfl
   ·cases h
  ·cases h;exact ⟨zsZ,λ_=>rfl⟩
  ·cases h
theorem zkU:∀(k:Nat){es:List Expr}{ds:List Dt},zeO k es=some ds->JA X C es (dAC ds)
 |k,[],ds,h=>by unfold zeO at h;cases h;exact za4
 |0,_::_,ds,h=>by simp[zeO] at h
 |k+1,e::es,ds,h=>by unfold zeO at h;obtain ⟨d,h1,h⟩:=Option.bind_eq_some_iff.mp h;obtain ⟨ds',h2,h⟩:=Option.bind_eq_some_iff.mp h;cases h;obtain ⟨j1,j2⟩:=zoq k h1;exact (zao j1 (zkU k h2) (j2 es)).eq rfl
end
theorem jd(k:Nat){e:Expr}{d:Dt}(h:zjR k e=some d):JE X C e (dC d):=(zoq k h).1
end
section
variable{X:Cx}{C:Cn}{a b:Expr}{fa fb:De}{pos:Pos}
end
end PV
end
section
namespace PV
open PySem PySem.Spec L2
open AutoSeq1 (wpAny_loadPart')
theorem zic(l:Addr)(items:Array Value)(n:Nat)(dd:Option Addr)(sl:Array (Option Value))(x:Value)(e:Value->Bool)(j:Nat)(hj:j<items.size)
  (hit:e items[j]=true) (hno:∀ m (hm:m<items.size),m<j->e items[m]=false) :
  Meets (Builtin.«tuple.index» ⟨[.ref l,x],[]⟩)
   (λA R s=>s.heap.get? l=some { cls:=.type "tuple",dict:=dd,data:=.seq items n,slots:=sl }/\(∀ y,y∈items->SeqAt.EqAt A.in1 s y x (e y))/\R (.ok (.ret (.int j s.toks))) { s with toks:=s.toks+1 }) :=
 .of_wp λprog w A R s h=>by
  obtain ⟨hp,g,d,tk,os⟩:=s;obtain ⟨hl,he,h⟩:=h
  wp_walk using wpAny_loadPart' hl
  change wpAny _ _ (forIn (m:=Sem) (Std.Legacy.Range.mk 0 (min items.size items.size) 1 xwd) (none,()) (λ(i:Nat) (__s:Option _×Unit)=>match items[i]? with
      |some y=>(do
       let b <- eqBool y x
       if b=true then do
         let r <- retInt i
         pure (ForInStep.done (some r,()))
        else pure (ForInStep.yield (none,())))
      |_=>pure (ForInStep.yield (none,())))) _ _ _
  rw[Std.Legacy.Range.forIn_eq_forIn_range'];simp only[Std.Legacy.Range.size,Nat.sub_zero,Nat.add_sub_cancel,Nat.div_one,Nat.min_self];refine wpAny_forIn_list _ (λzbq b s'=>b.1=none/\s'=⟨hp,g,d,tk,os⟩/\∃ i,zbq=List.range' i (items.size-i)/\i<=j) _ ?_ ?_ _ _ ⟨rfl,rfl,0,rfl,Nat.zero_le _⟩
  ·rintro i zbq b s' ⟨hb,rfl,k,hr,hk⟩;have hlt:k<items.size:=by omega
   obtain ⟨rfl,hrest⟩ : i=k/\zbq=List.range' (k+1) (items.size-(k+1)):=by
    have e:items.size-k=(items.size-(k+1))+1:=by omega
    rw[e,List.range'_succ] at hr;injection hr with h1 h2;exact ⟨h1,h2⟩
   rw[Array.getElem?_eq_getElem hlt];refine wab (he _ (Array.getElem_mem hlt) prog w _ _ ?_);by_cases hij:i=j
   ·subst hij;rw[hit]
    wp_walk
    exact ⟨_,rfl,h⟩
   ·rw[hno i hlt xwo]
    wp_walk
    exact ⟨rfl,rfl,i+1,hrest,xwo⟩
  ·rintro b s' ⟨hb,rfl,i,hr,hi⟩;have:items.size-i=0:=by
    cases e:items.size-i with
    |zero=>rfl
    |succ m=>rw[e,List.range'_succ] at hr;cases hr
   omega
section
variable{X:Cx}{C:Cn}{a b o e:Expr}{es:List Expr}{fa fb:De}{pos apos cpos:Pos}{name:Str}{id:String}{to:TE}{t:TA}{r:V->List V->Hp->VK->Prop}
theorem zux{pS:List (Addr×Obj)}{Y:L2.St}{H:Hp}{s:Shared}{ad:Addr}{xs:List V}(I:L2.Inv X pS Y H s)(h:zhz X.K H ad xs):s.TypeIs (.ref ad) "tuple"/\∀ b,Value.ref ad=.ref b->∃ ob,s.heap.get? b=some ob/\ob.dict=none:=by
 rcases h with h|⟨its,n,h,_⟩
 ·obtain ⟨z,its,r,n,e⟩:=I.hok ad _ h;exact ⟨⟨_,e,rfl⟩,λb q=>by cases q;exact ⟨_,e,rfl⟩⟩
 ·have e:=I.kIn ad _ h;exact ⟨⟨_,e,rfl⟩,λb q=>by cases q;exact ⟨_,e,rfl⟩⟩
def tBT(K:W.Frag)(r:V->List V->Hp->VK->Prop)(to:TE)(t:TA):TE:=λY H Q=>to Y H λx H1=>(∃ ad xs,x=.ref ad/\zhz K H1 ad xs)/\t Y H1 λxs H2=>r x xs H2 Q
theorem zua(slot:Slot "tuple" name id)(hty:typeOf (.builtin id)=pure (.type "method_descriptor"))(hm:MtR X id r)(ho:PE X o to)(ha:PA X (e::es) t)
  (hbase:attributeBase o name X.env (eval o X.env)=eval o X.env:=by rfl)
  (hfew:((backTo cpos (starEach (e::es) X.env)).all (λx=>!x.1) && (backToKw cpos (keywordEach [] X.env)).all (λx=>x.1.isSome)
   && decide ((e::es).length+([]:List Keyword).length+(if ([]:List Keyword).isEmpty then 0 else 1)<30))=true:=by rfl)
  (hline:(apos.endLine == cpos.line)=true:=by rfl) (hs:starEach (e::es) X.env=(false,eval e X.env)::starEach es X.env:=by rfl) (hplain:(backTo cpos (starEach es X.env)).any (·.1)=false:=by rfl) :
  PE X (.Call (.Attribute o name apos) (e::es) [] cpos) (tBT X.K r to t):=by
 intro pS s Y H Q I h;refine wpAny_Call_method_late hbase hfew hline rfl (thn (ho pS s Y H _ I h) λv s1 ⟨x,H1,I1,r1,⟨ad,xs,ex,hx⟩,q1⟩=>?_);subst ex;cases r1;obtain ⟨h1,h2⟩:=zux I1 hx;refine ⟨"tuple",id,PySem.F.plainAttrs_tuple,slot,hty,h1,h2,?_⟩;have hA:=ha cpos pS s1 Y H1 _ I1 q1;rw[hs] at hA ⊢;refine Calls.callWith_builtin (by show (false || (backTo cpos (starEach es X.env)).any (·.1))=false;rw[hplain] <;> rfl) (Calls.evalArgs_plain ?_);exact thn hA λus s2 ⟨vs,H2,I2,r2,q2⟩=>hm pS s2 Y H2 (.ref ad) vs (.ref ad) us Q I2 rfl r2 q2
def zwl(K:W.Frag):V->List V->Hp->VK->Prop:=λx vs H Q=>∃ ad zs dx ds j y,x=.ref ad/\vs=[y]/\SqT K H ad zs/\za1 K H ds zs/\Rep K H dx y/\okN 60 dx=true/\ds.all (okN 60)=true/\zlb dx ds=some j/\Q (.int j) H
theorem zpk(hu:X.A.units+65<cLine):MtR X "tuple.index" (zwl X.K):=by
 intro pS s Y H x vs v us Q I rx rv h;obtain ⟨ad,zs,dx,ds,j,y,rfl,rfl,hH,h1,h2,h3,h4,h5,q⟩:=h;cases rx;obtain ⟨u,rfl,ru⟩:=zaW.one rv;have hu1:X.A.in1.units+64<cLine:=by rw[zfg];omega
 obtain ⟨its,rr,ht,hz⟩:=I.tuple hH;obtain ⟨⟨oc,od,odt,osl⟩,e,hc,n,hd⟩:=ht;dsimp only at hc hd;subst hc hd;obtain ⟨k1,k2,k3⟩:=zg2 h5;have hlen:ds.length=its.length:=by rw[h1.length,rr.length]
 refine PySem.call_meets F.slot_tuple_index ⟨_,e,rfl⟩ F.entry_tuple_index (F.args_tuple_index_2 _ _)
  (zic ad its.toArray n od osl u (ziV X.K H dx) j (by rw[List.size_toArray];omega) ?_ ?_) ⟨e,λw hw=>zcE I hu1 h3 h2 ru h4 h1 rr w (by simpa using hw),?_⟩
 ·have:=zfu I (dx:=dx) (i:=j) k1 xwo h4 h1 rr;simpa [this] using k2
 ·intro m hm hlt;have hm':m<its.length:=by simpa using hm
  have:=zfu I (dx:=dx) (i:=m) xwo hm' h4 h1 rr;have e3:=k3 m xwo hlt;simpa [this] using e3
 ·exact ⟨.int j,H,I.kept (t':=s.toks+1) (λ_ _ q=>q),⟨_,rfl⟩,q⟩
def zjr(fa fb:De):De:=λZ=>(fa Z).bind λa=>match a.1 with
 |.tup ds=>(fb a.2).bind λb=>if (okN 60 b.1 && ds.all (okN 60))=true then match zlb b.1 ds with
   |some j=>.ok (.int j,b.2)
   |none=>.no
  else .no
 |_=>.no
theorem znw(hu:X.A.units+65<cLine)(ha:JE X C a fa)(hb:JE X C b fb)(hbase:attributeBase a "index" X.env (eval a X.env)=eval a X.env:=by rfl)
  (hfew:((backTo pos (starEach [b] X.env)).all (λx=>!x.1) && (backToKw pos (keywordEach [] X.env)).all (λx=>x.1.isSome) && decide ([b].length+([]:List Keyword).length+(if ([]:List Keyword).isEmpty then 0 else 1)<30))=true:=by rfl)
  (hline:(apos.endLine == pos.line)=true:=by rfl) (hs:starEach [b] X.env=(false,eval b X.env)::starEach [] X.env:=by rfl) (hplain:(backTo pos (starEach [] X.env)).any (·.1)=false:=by rfl) :
  JE X C (.Call (.Attribute a "index" apos) [b] [] pos) (zjr fa fb) :=
 PE.weak (zua PySem.F.slot_tuple_index PySem.F.type_tuple_index (zpk hu) ha (zbb hb zcD hs) hbase hfew hline hs hplain) λY H Q ⟨G,w,Z,r,p⟩=>by
  refine zdE (κ:=λG H w=>kE X.K C Y Q G H w) zbI r p λd Z1 v G1 H1 w1 r1 s1 q1 p1=>?_;cases d with
  |tup ds =>
   obtain ⟨ad,vs,rfl,h1,h2⟩:=zdv q1;refine ⟨⟨ad,vs,rfl,h1.same r1.gh⟩,?_⟩;refine zdE (κ:=λG H w=>kE X.K C Y Q G H w) zbI r1 p1 λd2 Z2 v2 G2 H2 w2 r2 s2 q2 p2=>?_;dsimp only at p2;split at p2
   ·rename_i hk;rw[Bool.and_eq_true] at hk;split at p2
    ·rename_i j ej;exact ⟨ad,vs,d2,ds,j,v2,rfl,rfl,zaA r2.gh (zaA s2.g h1.sq),(h2.same s2.g).same r2.gh,q2.same r2.gh,hk.1,hk.2,ej,p2 _ G2 H2 w2 (.refl _ _ _) r2 (za0 _)⟩
    ·exact waO p2
   ·exact waO p2
  |_=>exact waO p1
end
section
variable{X:Cx}{C:Cn}{e1 e2:Expr}{fk fv:De}{pos ps apos:Pos}{x:Str}
theorem zkx{y1 y2:V}{us:List Value}(h:zaW [y1,y2] us):∃ u1 u2,us=[u1,u2]/\zbO y1 u1/\zbO y2 u2:=by
 cases h with
 |cons h1 t=>cases t with
  |cons h2 t2=>cases t2;exact ⟨_,_,rfl,h1,h2⟩
end
structure Ep(h:Heap)(e it l:Addr)(i:Nat):Prop where
 e:∃ old,IsEnum h e it i old
 a:h.IsListIter it l i
theorem Ep.keep{h h':Heap}{e it l:Addr}{i:Nat}(p:Ep h e it l i)(k:∀ b∈[e,it],∀ o,h.get? b=some o->h'.get? b=some o):Ep h' e it l i :=
 ⟨let ⟨old,q⟩:=p.e;⟨old,k e xws _ q⟩,p.a.at λo q=>k it xws o q⟩
theorem zmq{X:Cx}{pS:List (Addr×Obj)}{Y:L2.St}{H:Hp}{s:Shared}{a b:Addr}{xs:List V}(I:L2.Inv X pS Y H s)(hf:zhO X pS H b)(hs:SqL X.K H a xs):b≠a:=by
 rintro rfl;rcases hs with (h|⟨o,h⟩)|⟨o,its,n,h,_⟩
 ·rw[hf.1] at h;cases h
 ·rw[hf.1] at h;cases h
 ·have hb:=I.mod.kin b o h;rcases hf.2.2.2.1 with z|z
  ·exact I.ok.noex b o hb z
  ·exact absurd (was (wai hb) (waN I.ok.bsz z)) (waL _)
section
variable{X:Cx}{C:Cn}{elts:List Expr}{x1:Nat}{pt:Pos}{a:Expr}{fa:De}{p pos:Pos}
end
end PV
end
section
namespace PV
open PySem PySem.Spec L2 PyProof.Rows
section
variable{X:Cx}{C:Cn}{a b:Expr}{fa fb:De}{pos:Pos}
end
section
variable{prog:Program}{w:World}{A:Around}{E:Value->Shared->Prop}{s:Shared}
theorem zeH{t sl:Addr}{items:Array Value}{vl vu:Value}{lo hi:Option Int}{Q:Value->Shared->Prop}(ht:IsTup s.heap t items)(hs:s.heap.IsSliceOf sl vl vu .none)(pl:IsPart vl lo)(pu:IsPart vu hi)
  (hw:HT.sIx items.size 0 lo=0/\HT.sIx items.size items.size hi=items.size) (h:Q (.ref t) s):wpAny (model prog w) A (getItem (.ref t) (.ref sl)) Q E s:=by
 obtain ⟨os,hos,hcs,hds⟩:=id hs;have hTs:s.TypeIs (.ref sl) "slice":=⟨os,hos,hcs⟩
 unfold getItem
 try with_reducible refine wpAny_holding ?_
 first|refine wab (wad ?_)|skip
 refine wab (wpAny_sequenceKey ht.typeIs xwd ?_);refine wab (wpAny_callSpecial?_slot (name:=Str.ofString "__getitem__") ht.typeIs PyProof.Rows.slot_tuple_getitem
  (wpAny_call_entry PyProof.Rows.slot_tuple_getitem ht.typeIs entry_tuple_getitem ?_ (args_tuple_getitem _ _)))
 show wpAny _ _ (Builtin.Tuple.tupleItemsOf (.ref t) >>= _) _ _ s;refine wab (tupleItemsOf_ ht ?_);refine wab (wpAny_typeOf hTs ?_);rw[if_pos xwd];refine wab (HT.sliceApplied_gen hs pl pu ?_);have hyes:(((HT.sIx items.size 0 lo:Nat):Int) == 0 && (1:Int) == 1 && (HT.sIx items.size items.size hi-HT.sIx items.size 0 lo) == items.size)=true:=by rw[hw.1,hw.2];simp
 show wpAny _ _ (if (((HT.sIx items.size 0 lo:Nat):Int) == 0 && (1:Int) == 1 && (HT.sIx items.size items.size hi-HT.sIx items.size 0 lo) == items.size)=true then _ else _) _ _ s;rw[if_pos hyes];refine wab ?_;unfold Builtin.Tuple.tupleIsExact;refine wab (wpAny_typeOf ht.typeIs (wad ?_));rw[if_pos xwd];refine wab (wpAny_rule ?_);exact wad ⟨_,rfl,wad h⟩
end
section
variable{X:Cx}{C:Cn}{a b e:Expr}{fa fb:De}{pos:Pos}
def rSlW(K:W.Frag):V->Option Int->Option Int->Hp->VK->Prop:=λx lo hi H Q=>∃ a xs,x=.ref a/\SqT K H a xs /\
 (HT.sIx xs.length 0 lo=0/\HT.sIx xs.length xs.length hi=xs.length)/\Q (.ref a) H
theorem zqm:SlR X (rSlW X.K):=by
 intro pS s Y H x v vl vu lo hi sl Q I rx hs pl pu h;obtain ⟨a,xs,rfl,hx,hw,q⟩:=h;cases rx;obtain ⟨its,r,ht,hz⟩:=I.tuple hx;have hlen:its.toArray.size=xs.length:=by rw[List.size_toArray];exact r.length.symm
 refine ⟨"tuple",_,PyProof.Rows.slot_tuple_getitem.lookup,ht.typeIs,?_⟩;exact zeH ht hs pl pu (by rw[hlen];exact hw) ⟨.ref a,H,I,rfl,q⟩
def zf6(fa:De)(fl fh:DO):De:=λZ=>(fa Z).bind λa=>(fl a.2).bind λl=>(fh l.2).bind λh=>match a.1 with
 |.tup ds=>.ok (.tup (zhj ds l.1 h.1),h.2)
 |_=>.no
theorem zkO{lo hi:Option Expr}{fl fh:DO}{p2:Pos}(ha:JE X C a fa)(hl:JO X C lo fl)(hh:JO X C hi fh):JE X C (.Subscript a (.Slice lo hi none p2) pos) (zf6 fa fl fh) :=
 PE.weak (zlE (zvi.or zqm) ha hl hh) λY H Q ⟨G,w,Z,r,p⟩=>by
  refine zdE (κ:=λG H w=>kE X.K C Y Q G H w) zbI r p λd Z1 v G1 H1 w1 r1 s1 q1 p1=>?_;refine zv8 (κ:=λG H w=>kE X.K C Y Q G H w) zbI r1 p1 λl Z2 G2 H2 w2 r2 s2 p2=>?_;refine zv8 (κ:=λG H w=>kE X.K C Y Q G H w) zbI r2 p2 λh Z3 G3 H3 w3 r3 s3 p3=>?_;cases d with
  |tup ds =>
   have q3:=q1.same (s2.g.trans s3.g);obtain ⟨ad,vs,rfl,h1,h2⟩:=zdv q3;dsimp only at p3;by_cases hw:HT.sIx ds.length 0 l=0/\HT.sIx ds.length ds.length h=ds.length
   ·refine .inr ⟨ad,vs,rfl,zaA r3.gh h1.sq,by rw[<- h2.length];exact hw,?_⟩;have e:zhj ds l h=ds:=by unfold zhj;rw[hw.1,hw.2,List.drop_zero,Nat.sub_zero,List.take_length]
    rw[e] at p3;exact p3 _ G3 H3 w3 (.refl _ _ _) r3 q3
   ·have fin:∀ p,H3 p=none->Q (.ref p) (upd H3 p (.tup (znf vs l h))):=λp hp=>by have gr:zeh G3 H3 (upd G3 p (.tup (znf vs l h))) (upd H3 p (.tup (znf vs l h))):=.new r3.gh hp;exact p3 _ _ _ w3 gr.step (r3.grow gr) (by unfold Rep;exact ⟨p,_,rfl,zhz.of zan,(zlA h2 l h).same gr.g⟩)
    exact .inl ⟨ad,vs,rfl,zaA r3.gh h1.sq,by rw[<- h2.length];exact hw,fin⟩
  |_=>exact p3.elim
end
section
variable{prog:Program}{w:World}{A:Around}{E:Value->Shared->Prop}{s:Shared}
theorem zkL{l:Addr}{vs:List Value}{Q:List Value->Shared->Prop}(hl:s.heap.IsTuple l vs.toArray)
  (h:Q vs { s with heap:=(s.heap.push (seqObj "list" #[] 0)).update s.heap.objs.size (Obj.mapSeq (·++vs.toArray)) }) (hsz:vs.length<=sizeLine) :
  wpAny (model prog w) A (collect (.ref l)) Q E s:=by
 obtain ⟨o,ho,hc,n,hd⟩:=id hl;unfold collect;refine wab (wpAny_runValue (codeAny_builtin entry_proto_collect' ?_));show wpAny _ _ (do again (.builtin "list.__iadd__" ⟨[<- newList [],.ref l],[]⟩)) _ _ s;refine wab (wpAny_newList (wad ⟨Code.quiet_builtin _ xwD,codeAny_builtin entry_list_iadd' ?_⟩));show wpAny _ _ (Builtin.List.listExtendWith (.ref s.heap.objs.size) (.ref l) (.ref s.heap.objs.size)) _ _ { s with heap:=s.heap.push (seqObj "list" #[] 0) };unfold Builtin.List.listExtendWith;have ho':(s.heap.push (seqObj "list" #[] 0)).get? l=some o:=waa _ ho;refine wab (wpAny_typeOf (T:="tuple") ⟨o,ho',hc⟩ ?_);have ht:(Value.type "tuple" == Value.type "tuple")=true:=by rfl
 rw[if_pos (by rw[ht];simp)];refine wab (listItems_at ho' hd ?_);refine wab (listItems_at (xs:=#[]) (n:=0) (waj _ rfl) rfl ?_);rw[if_neg xws];refine wab (listUpdate_at (xs:=#[]) (n:=0) (waj _ rfl) rfl ?_ (Nat.zero_le _) (by show (#[]++vs.toArray).size<=sizeLine+1;simp only[Array.size_append,waf,List.length_nil];omega));refine wad ?_;show wpAny (model prog w) A (do
   let o <- load s.heap.objs.size
   match o.data with
   |.seq xs _=>pure xs.toList
   |_=>unsupported "internal:collect") Q E { s with heap:=(s.heap.push (seqObj "list" #[] 0)).update s.heap.objs.size (Obj.mapSeq (·++vs.toArray)) }
 refine wab (wpAny_load (get?_update_seq (waj _ rfl) _) ?_);show wpAny _ _ (pure ((#[]:Array Value)++vs.toArray).toList) Q E _;rw[show ((#[]:Array Value)++vs.toArray).toList=vs by simp];exact wad h
theorem zjK{l:Addr}{vs:List Value}{ns:List Int}{Q:Value->Shared->Prop}(hl:s.heap.IsTuple l vs.toArray)(hI:IntsAre vs ns)(h64:vs.length<64)
  (h:∀(out:Array Value)(ns':List Int),IntsAre out.toList ns'->ns'.Perm ns->ns'.Pairwise (· <= ·)->Q (.ref (s.heap.objs.size+1)) { s with heap:=sortedAll s.heap vs out }) :
  wpAny (model prog w) A (call (.builtin "sorted") [.ref l]) Q E s:=by
 refine Calls.call_function_entry kind_sorted plain_sorted entry_sorted (args_sorted1 _) ?_;unfold Builtin.«sorted»;refine wab (m:=checkCount "sorted" 1 1 _) (wad ?_);refine wab (zkL hl ?_ (by rw[zdA];omega));refine wab (wpAny_newList ?_);have hsz:((s.heap.push (seqObj "list" #[] 0)).update s.heap.objs.size (Obj.mapSeq (·++vs.toArray))).objs.size=s.heap.objs.size+1:=by rw[Heap.size_update,size_push']
 have hoL:(((s.heap.push (seqObj "list" #[] 0)).update s.heap.objs.size (Obj.mapSeq (·++vs.toArray))).push (seqObj "list" vs.toArray 0)).get? (s.heap.objs.size+1)=some (seqObj "list" vs.toArray 0):=by rw[<- hsz];exact waj _ rfl
 show wpAny _ _ _ _ _ { s with heap:=((s.heap.push (seqObj "list" #[] 0)).update s.heap.objs.size (Obj.mapSeq (·++vs.toArray))).push (seqObj "list" vs.toArray 0) };rw[hsz];refine wab (wpAny_holding (wpAny_call_entry slot_list_sort ⟨_,hoL,rfl⟩ entry_list_sort (list_sort_tree hoL hI h64 λout ns' a1 a2 a3=>⟨_,rfl,?_⟩) (args_list_sort _)));exact wad ⟨_,rfl,h out ns' a1 a2 a3⟩
end
section
variable{X:Cx}{C:Cn}{a b e:Expr}{fa fb:De}{pos:Pos}
theorem zmw:zcj X (.builtin "sorted") (λxs H Q=>∃(p:Addr)(ns:List Int),xs=[.ref p]/\SqT X.K H p (ns.map V.int)/\ns.length<64/\∀ l,H l=none->Q (.ref l) (upd H l (.lst ((zaB ns).map V.int)))):=by
 intro pS s Y H xs us Q I r h;obtain ⟨p,ns,rfl,hq,hl,q⟩:=h;obtain ⟨u,rfl,ru⟩:=zeJ r;cases ru;obtain ⟨its,rv,pl,hz⟩:=I.tuple hq;have hlen:its.length=ns.length:=by rw[<- rv.length];simp
 refine zjK (show s.heap.IsTuple p its.toArray from pl) (PV.intsAre_of rv) xwo λout ns' a1 a2 a3=>?_;have e:ns'=zaB ns:=W.lks_uniq (a2.trans (za9 ns).symm) a3 (zco ns);subst e;obtain ⟨c,hc⟩:=PyProof.Rows.sortedAll_at s.heap its out;refine ⟨.ref (s.heap.objs.size+1),_,I.laid (t':=s.toks) (λb o=>PyProof.Rows.sortedAll_old) (Nat.le_succ _) (o:=.lst ((zaB ns).map V.int)) ⟨?_,out.toList,c,PV.vals_ints a1,?_⟩,rfl,q _ (I.hok.fresh (Nat.le_succ _))⟩
 ·rw[List.length_map,(za9 ns).length_eq,zdA];omega
 ·simpa using hc
def zc6:List Dt->R (List Dt)
 |[.tup l]=>match zhB l with
  |some ns=>if ns.length<64 then .ok ((zaB ns).map .int) else .no
  |none=>.no
 |_=>.no
theorem zpy{K:W.Frag}:FnN K (λxs H Q=>∃(p:Addr)(ns:List Int),xs=[.ref p]/\SqT K H p (ns.map V.int)/\ns.length<64/\∀ l,H l=none->Q (.ref l) (upd H l (.lst ((zaB ns).map V.int)))) zc6:=λG H vs ds z Q gh hr e k=>by
 unfold zc6 at e;split at e
 ·split at e
  ·rename_i ns en;split at e
   ·rename_i hl;obtain ⟨v,rfl,h1⟩:=zew hr;obtain ⟨a,us,rfl,h2,h3⟩:=zdv h1;cases e;rw[zeD h3 en] at h2;exact ⟨a,ns,rfl,zaA gh h2.sq,hl,λl hl=>k l _ hl (zdF _)⟩
   ·cases e
  ·cases e
 ·cases e
theorem zpK:ziX zc6:=λx n h=>by
 unfold zc6 at h;split at h
 ·split at h
  ·split at h <;> cases h
  ·cases h
 ·cases h
theorem zms{x:Expr}{p:Pos}(hg:Gl X "sorted")(hm:X.mg "sorted"=none)(ha:JE X C x fa)(hs:starEach [x] X.env=(false,eval x X.env)::starEach [] X.env:=by rfl)(hpl:(backTo pos (starEach [] X.env)).any (·.1)=false:=by rfl) :
  JN X C (.Call (.Name "sorted" p) [x] [] pos) (zcV zc6 (dA fa dA0)) :=
 zis zpy zpK zmw hg hm PyProof.Rows.boot_sorted (zao ha za4 hs) xwd xwd hs hpl
end
def spH(PT:Addr)(sp:Sp):Sp:=λvs H Q E=>sp (vs++[.ref PT]) H Q E
section
variable{X:Cx}{C:Cn}{CX:CXT}{k k':Nat}{ks:List Bool}{Fd:FD}{x:Str}{p pos:Pos}{e:Expr}{es:List Expr}{far:DAr}{j:Nat}{PT:Addr}
structure DfnT(P:Program)(w:World)(K:W.Frag)(mg:Str->Option Value)(base:Heap)(CX:CXT)(xv:Nat->Value)(k:Nat)(x:Str)(ks:List Bool)(PT:Addr)(F:FD):Prop where
 ex:∃(f:Addr)(fd:FuncData)(ps:List Str),zff P w K mg base CX k f fd ps (spH PT (zsq false K xv ks F))/\mg x=some (.ref f)/\W.keepIn K (.ref f)=true/\zf2 K fd ps []/\∀ bs,F bs≠.no->zbX bs=ks
end
section
variable{X:Cx}{C:Cn}{a b e:Expr}{fa fb:De}{pos apos:Pos}{zbq:List Expr}
end
end PV
end
section
namespace PV
open PySem PySem.Spec L2
structure ZpL(h:Heap)(z TI TO i1 i2 l1 l2:Addr)(f0:Value)(k:Nat):Prop where
 z:IsZip h z TI TO f0
 ti:IsPair h TI (.ref i1) (.ref i2)
 to:∃ a b,IsPair h TO a b
 a1:h.IsListIter i1 l1 k
 a2:h.IsListIter i2 l2 k
theorem ZpL.keep{h h':Heap}{z TI TO i1 i2 l1 l2:Addr}{f0:Value}{k:Nat}(p:ZpL h z TI TO i1 i2 l1 l2 f0 k)(e:∀ b∈[z,TI,TO,i1,i2],∀ o,h.get? b=some o->h'.get? b=some o):ZpL h' z TI TO i1 i2 l1 l2 f0 k :=
 ⟨e z xws _ p.z,e TI xws _ p.ti,let ⟨a,b,q⟩:=p.to;⟨a,b,e TO xws _ q⟩,p.a1.at λo q=>e i1 xws o q,p.a2.at λo q=>e i2 xws o q⟩
theorem zcL{z TI TO i1 i2 l1 l2:Addr}(D:ZpD z TI TO i1 i2)(n1:∀ b∈[z,TI,TO,i1,i2],b≠l1)(n2:∀ b∈[z,TI,TO,i1,i2],b≠l2):ZipApart z TI TO i1 i2 l1 l2 :=
 ⟨D.d1,D.d2,D.d3,D.d4,D.d5,D.d6,D.d7,D.d8,D.d9,D.d0,(n1 z xws).symm,(n1 TO xws).symm,(n1 i1 xws).symm,(n1 i2 xws).symm,(n2 z xws).symm,(n2 TO xws).symm,(n2 i1 xws).symm,(n2 i2 xws).symm⟩
def Itl(K:W.Frag)(a b:Addr):It :=
 ⟨λi H=>∃ xs ys x y,SqL K H a xs/\SqL K H b ys/\xs[i]? = some x/\ys[i]? = some y,
   λi H v H'=>∃ p x y,v=.ref p/\H p=none/\H'=upd H p (.tup [x,y])/\(∀ xs,SqL K H a xs->xs[i]? = some x)/\∀ ys,SqL K H b ys->ys[i]? = some y,
   λi H=>∃ xs ys,SqL K H a xs/\SqL K H b ys/\xs.length<=i⟩
theorem zpd{P:Program}{w:World}{K:W.Frag}{elts:List Expr}{x1}{ps:Pos}{a b z TI TO i1 i2:Addr}(D:ZpD z TI TO i1 i2):zpq P w K (.Tuple elts x1 ps) (Itl K a b) [z,TI,TO,i1,i2] z (λi h=>ZpL h z TI TO i1 i2 a b .none i) where
 mem:=by simp
 obj:=λi h st c hc=>by
  obtain ⟨s1,s2,⟨oa,ob,s3⟩,⟨o4,s4,_,d4⟩,⟨o5,s5,_,d5⟩⟩:=st;simp only[wap,wak,or_false] at hc;rcases hc with rfl|rfl|rfl|rfl|rfl
  ·exact ⟨_,s1,λv q=>by cases q⟩
  ·exact ⟨_,s2,λv q=>by cases q⟩
  ·exact ⟨_,s3,λv q=>by cases q⟩
  ·exact ⟨_,s4,λv q=>by rw[d4] at q;cases q⟩
  ·exact ⟨_,s5,λv q=>by rw[d5] at q;cases q⟩
 keep:=λi h h' st k=>st.keep k
 item:=by
  intro X hP hw hK hc i pS s Y H E I hf st hg;subst hP hw hK;obtain ⟨xs,ys,x,y,q1,q2,hx,hy⟩:=hg;obtain ⟨its,rv,p,hz⟩:=I.list q1;obtain ⟨jts,rw',p',hz'⟩:=I.list q2;obtain ⟨u,hu,ru⟩:=rv.get hx;obtain ⟨v,hv,rv'⟩:=rw'.get hy;obtain ⟨oa0,ob0,hto⟩:=st.to;have AP:=zcL D (λc hc=>zmq I (hf c hc) q1) (λc hc=>zmq I (hf c hc) q2);refine wpAny_pyNext_zip_item (x:=u) (y:=v) AP st.z st.ti hto st.a1 st.a2 p.isList p'.isList (by simpa using hu) (by simpa using hv) λh' b1 b2 b3 b4 ht b6 hk=>?_;refine ⟨_,rfl,wpAny_letOwnedTupleGo_zip b1 λh2 hz2 sb=>?_⟩;have hzp:∀ c∈[z,TI,TO,i1,i2],c≠s.heap.objs.size:=λc hc q=>by
   obtain ⟨s1,s2,⟨oa,ob,s3⟩,⟨o4,s4,_⟩,⟨o5,s5,_⟩⟩:=st;simp only[wap,wak,or_false] at hc;subst q;rcases hc with rfl|rfl|rfl|rfl|rfl
   ·exact absurd (wai s1) (waL _)
   ·exact absurd (wai s2) (waL _)
   ·exact absurd (wai s3) (waL _)
   ·exact absurd (wai s4) (waL _)
   ·exact absurd (wai s5) (waL _)
  have st2:ZpL h2 z TI TO i1 i2 a b .none (i+1) :=
   ⟨hz2,sb.extBut _ _ D.d1 (hk TI _ D.d1 D.d5 D.d6 D.d7 st.ti),⟨_,_,sb.extBut _ _ D.d2 b2⟩,b3.extBut sb.extBut D.d3,b4.extBut sb.extBut D.d4⟩
  have hk2:∀ c ob,c∉[z,TI,TO,i1,i2]->s.heap.get? c=some ob->h2.get? c=some ob:=λc ob nc e=>by simp only[wap,wak,or_false,not_or] at nc;exact sb.extBut _ _ nc.1 (hk c ob nc.1 nc.2.2.1 nc.2.2.2.1 nc.2.2.2.2 e)
  have hth:∀ c ob,s.heap.get? c=some ob->∃ ob',h2.get? c=some ob':=λc ob e=>by
   by_cases nc:c∈[z,TI,TO,i1,i2]
   ·obtain ⟨s1,s2,⟨oa,ob,s3⟩,⟨o4,s4,_⟩,⟨o5,s5,_⟩⟩:=st2;simp only[wap,wak,or_false] at nc;rcases nc with rfl|rfl|rfl|rfl|rfl
    ·exact ⟨_,s1⟩
    ·exact ⟨_,s2⟩
    ·exact ⟨_,s3⟩
    ·exact ⟨_,s4⟩
    ·exact ⟨_,s5⟩
   ·exact ⟨ob,hk2 c ob nc e⟩
  have hnew:h2.get? s.heap.objs.size=some { cls:=.type "tuple",data:=.seq #[u,v] }:=sb.extBut _ _ (Ne.symm (hzp z xws)) ht;have IN:L2.Inv X pS Y (upd H s.heap.objs.size (.tup [x,y])) { s with heap:=h2 }:=zgn (s:=s) (t':=s.toks) (o:=.tup [x,y]) I hf hk2 (wal _) hth ⟨by show 2<=sizeLine;decide,[u,v],.cons ru (.cons rv' .nil),0,hnew⟩;exact ⟨.ref s.heap.objs.size,_,IN,rfl,
   ⟨_,x,y,rfl,I.hok.fresh (wal _),rfl,λzs q=>by rw[I.list_inj q q1];exact hx,λzs q=>by rw[I.list_inj q q2];exact hy⟩,st2,λc hc=>by rw[zag (hzp c hc)];exact (hf c hc).1⟩
 done:=by
  intro X hP hw hK hc i pS s Y H E I hf st hg;subst hP hw hK;obtain ⟨xs,ys,q1,q2,hx⟩:=hg;obtain ⟨its,rv,p,hz⟩:=I.list q1;obtain ⟨jts,rw',p',hz'⟩:=I.list q2;have hl:=rv.length;obtain ⟨oa0,ob0,hto⟩:=st.to;have AP:=zcL D (λc hc=>zmq I (hf c hc) q1) (λc hc=>zmq I (hf c hc) q2);refine wpAny_pyNext_zip_end (I.ok.hd hc) AP st.z st.ti hto st.a1 st.a2 p.isList p'.isList (.inl (by simp;omega)) λh' hk=>⟨rfl,?_⟩
  refine zhc (t':=s.toks) I hf λc ob nc e=>?_;simp only[wap,wak,or_false,not_or] at nc;exact hk c ob nc.1 nc.2.2.1 nc.2.2.2.1 nc.2.2.2.2 e
 self:=λ_ _ _ _ _ st h=>wpAny_pyIter_zip st.z h
theorem zuC{K:W.Frag}{G:Hp}{a b:Addr}{vs us:List V}{ds es:List Dt}(hs:G a=some (.lst vs))(ht:G b=some (.lst us))(q:za1 K G ds vs)(q':za1 K G es us)(hl:ds.length=es.length):zne K (Itl K a b) G ((ds.zip es).map λz=>.tup [z.1,z.2]):=λi G1 H s1 s2=>by
 have h1:SqL K H a vs:=SqL.of (s2 _ _ (s1 _ _ hs));have h2:SqL K H b us:=SqL.of (s2 _ _ (s1 _ _ ht));refine ⟨λd e=>?_,λh=>⟨vs,us,h1,h2,?_⟩⟩
 ·rw[List.getElem?_map] at e;have hi:i<ds.length:=by
   by_cases hi:i<ds.length
   ·exact hi
   ·rw[List.getElem?_eq_none (by rw[List.length_zip];omega)] at e;cases e
  have z1:ds[i]? = some ds[i]:=by simp[hi]
  have z2:es[i]? = some (es[i]'xwo):=by simp[show i<es.length by omega]
  obtain ⟨v,e1,e2⟩:=q.get z1;obtain ⟨u,e3,e4⟩:=q'.get z2;have ed:d=.tup [ds[i],es[i]'xwo]:=by rw[(List.getElem?_zip_eq_some (z:=(ds[i],es[i]'xwo))).mpr ⟨z1,z2⟩] at e;exact (waA e).symm
  refine ⟨⟨vs,us,v,u,h1,h2,e1,e3⟩,λx H' y=>?_⟩;obtain ⟨p,x',y',rfl,hp,rfl,k1,k2⟩:=y;have kx:=k1 vs h1;have ky:=k2 us h2;rw[e1] at kx;rw[e3] at ky;cases kx;cases ky;have gr:zeh G1 H (upd G1 p (.tup [v,u])) (upd H p (.tup [v,u])):=.new s2 hp;refine ⟨_,gr,?_⟩;rw[ed];unfold Rep;exact ⟨p,[v,u],rfl,zhz.of zan,za1.cons ((e2.same s1).same gr.g) (za1.cons ((e4.same s1).same gr.g) za1.nil)⟩
 ·rw[<- q.length];simpa [hl] using h
def znG(fa fb:De):DA:=λZ=>(fa Z).bind λa=>(fb a.2).bind λb=>match a.1,b.1 with
 |.tup l,.tup r=>if l.length=r.length then .ok ((l.zip r).map λz=>.tup [z.1,z.2],b.2) else .no
 |.lst l,.lst r=>if l.length=r.length then .ok ((l.zip r).map λz=>.tup [z.1,z.2],b.2) else .no
 |_,_=>.no
section
variable{X:Cx}{C:Cn}{elts:List Expr}{x1:Nat}{pt:Pos}{a b:Expr}{fa fb:De}{p pos:Pos}
theorem ztj(hg:Gl X "zip")(hm:X.mg "zip"=none)(ha:JE X C a fa)(hb:JE X C b fb)(hs:starEach [a,b] X.env=(false,eval a X.env)::starEach [b] X.env:=by rfl)(hs2:starEach [b] X.env=(false,eval b X.env)::starEach [] X.env:=by rfl)(hpl:(backTo pos (starEach [b] X.env)).any (·.1)=false:=by rfl) :
  JI X C (.Tuple elts x1 pt) (.Call (.Name "zip" p) [a,b] [] pos) (znG fa fb):=by
 intro pS s Y H R I ⟨G,w,Z,r,pp⟩;refine PyProof.Rows.Call_ (zfd I hg hm PyProof.Rows.boot_zip (PyProof.Rows.callWith_type1 (thn (zao ha (zao hb za4 hs2) hs pos pS s Y H (λvs H1=>∃(l1 l2:Addr)(xs ys:List V),vs=[.ref l1,.ref l2]/\((SqT X.K H1 l1 xs/\SqT X.K H1 l2 ys/\R (Itz X.K l1 l2) H1)\/(SqL X.K H1 l1 xs/\SqL X.K H1 l2 ys/\R (Itl X.K l1 l2) H1))) I ?_) λus s1 ⟨vs,H1,I1,r1,q1⟩=>?_) hs hpl))
 ·refine ⟨G,w,Z,r,?_⟩;unfold znG at pp;unfold dA dA0;cases e:fa Z with
  |ok x =>
   obtain ⟨d,Z1⟩:=x;rw[e] at pp;simp only[PV.R.bind_ok] at pp ⊢;cases e2:fb Z1 with
   |ok y =>
    obtain ⟨d2,Z2⟩:=y;rw[e2] at pp;simp only[PV.R.bind_ok] at pp ⊢;intro vs G1 H1 w1 s1 r1 q;obtain ⟨v,u,rfl,k1,k2⟩:=zsF q;cases d with
    |tup l =>
     cases d2 with
     |tup l' =>
      dsimp only at pp;by_cases hl:l.length=l'.length
      ·rw[if_pos hl] at pp;obtain ⟨a1,xs,rfl,m1,m2⟩:=zb0 k1;obtain ⟨a2,ys,rfl,m3,m4⟩:=zb0 k2;exact ⟨a1,a2,xs,ys,rfl,.inl ⟨zaA r1.gh m1,zaA r1.gh m3,pp _ G1 H1 w1 s1 r1 (zu2 m1 m3 m2 m4 hl)⟩⟩
      ·rw[if_neg hl] at pp;exact pp.elim
     |_=>exact waO pp
    |lst l =>
     cases d2 with
     |lst l' =>
      dsimp only at pp;by_cases hl:l.length=l'.length
      ·rw[if_pos hl] at pp;obtain ⟨a1,xs,rfl,m1,m2⟩:=zaJ k1;obtain ⟨a2,ys,rfl,m3,m4⟩:=zaJ k2;exact ⟨a1,a2,xs,ys,rfl,.inr ⟨SqL.of (r1.gh _ _ m1),SqL.of (r1.gh _ _ m3),pp _ G1 H1 w1 s1 r1 (zuC m1 m3 m2 m4 hl)⟩⟩
      ·rw[if_neg hl] at pp;exact pp.elim
     |_=>exact waO pp
    |_=>exact waO pp
   |er n=>rw[e2] at pp;exact pp
   |no=>rw[e2] at pp;exact pp
  |er n=>rw[e] at pp;exact pp
  |no=>rw[e] at pp;exact pp
 ·obtain ⟨l1,l2,xs,ys,rfl,q⟩:=q1;obtain ⟨u1,u2,rfl,c1,c2⟩ : ∃ u1 u2,us=[u1,u2]/\zbO (.ref l1) u1/\zbO (.ref l2) u2:=by
   cases r1 with
   |cons h1 t=>cases t with
    |cons h2 t2=>cases t2;exact ⟨_,_,rfl,h1,h2⟩
  cases c1;cases c2;have D:ZpD (s1.heap.objs.size+4) (s1.heap.objs.size+2) (s1.heap.objs.size+3) s1.heap.objs.size (s1.heap.objs.size+1):=zuI _;have hfp:∀ c∈[s1.heap.objs.size+4,s1.heap.objs.size+2,s1.heap.objs.size+3,s1.heap.objs.size,s1.heap.objs.size+1],zhO X pS H1 c:=λc hc=>by
   have hle:s1.heap.objs.size<=c:=by
    simp only[wap,wak,or_false] at hc;rcases hc with rfl|rfl|rfl|rfl|rfl
    ·exact waT ..
    ·exact waT ..
    ·exact waT ..
    ·exact wal _
    ·exact waT ..
   exact I1.fpOk hle (I1.hok.fresh hle)
  rcases q with ⟨k1,k2,q⟩|⟨k1,k2,q⟩
  ·obtain ⟨its,rv,p1,_⟩:=I1.tuple k1;obtain ⟨jts,rw',p2,_⟩:=I1.tuple k2;refine zsG (show s1.heap.IsTuple l1 its.toArray from p1) (show s1.heap.IsTuple l2 jts.toArray from p2) λh' zp hk=>?_;refine wpAny_pyIter_zip zp.z ?_;exact ⟨s1.heap.objs.size+4,[s1.heap.objs.size+4,s1.heap.objs.size+2,s1.heap.objs.size+3,s1.heap.objs.size,s1.heap.objs.size+1],_,_,H1,rfl,I1.kept (t':=s1.toks) hk,zqE D,zp,hfp,q⟩
  ·obtain ⟨its,rv,p1,_⟩:=I1.list k1;obtain ⟨jts,rw',p2,_⟩:=I1.list k2;refine call_zip_2 p1.isList p2.isList λh' b1 b2 b3 b4 b5 b6 hk=>?_;refine wpAny_pyIter_zip b1 ?_;exact ⟨s1.heap.objs.size+4,[s1.heap.objs.size+4,s1.heap.objs.size+2,s1.heap.objs.size+3,s1.heap.objs.size,s1.heap.objs.size+1],_,_,H1,rfl,I1.kept (t':=s1.toks) hk,zpd D,⟨b1,b2,⟨_,_,b3⟩,b4,b5⟩,hfp,q⟩
end
end PV
end
section
namespace PV
open PySem PySem.Spec L2 PyProof.Rows
section
variable{X:Cx}{C:Cn}{pos:Pos}
end
section
variable{X:Cx}{C:Cn}{CX:CXT}{k k':Nat}{ks:List Bool}{Fd:FD}{x a b:Str}{p pos pa pb:Pos}
end
section
variable{X:Cx}{C:Cn}{a b:Expr}{fa fb:De}{pos:Pos}
end
end PV
end
section
end
section
namespace PV
open PySem PySem.Spec L2 PyProof.Rows
structure KeepO(i:Nat)(g:DG)(ft:DT)(fe:De):Prop where
 t:∀ d Z Z1 b Z2,g d Z=.ok Z1->ft Z1=.ok (b,Z2)->Z2[i]? = Z[i]?
 e:∀ Z y Z1,fe Z=.ok (y,Z1)->Z1[i]? = Z[i]?
section
variable{X:Cx}{C:Cn}
end
structure CBlk(X:Cx)(xr xc xl:Str)(ci:Nat)(scope:Scope)(N':List Str)(p2 p3 p5:Pos):Prop where
 hc:X.calm=true
 hci:X.N[ci]? = some xl
 hvl:Vis X.env.scope xl
 hb:zfC X.N N' scope.names 1=true
 hkind:scope.kind=.function
 hcell:Hce scope
 hfr:Hfr X scope
 hnames:Hnm scope
 hN':N'.Nodup
 hcs:N'[X.N.length]? = some xc
 hgl:∀ cl L s H fp,Gl (zcs X N' scope cl L s H fp) xr
 he:∀ cl L s H fp,starEach [.Name xc p2] (zcs X N' scope cl L s H fp).env=(false,eval (.Name xc p2) (zcs X N' scope cl L s H fp).env)::starEach [] (zcs X N' scope cl L s H fp).env
 hpl:∀ cl L s H fp,(backTo p3 (starEach [] (zcs X N' scope cl L s H fp).env)).any (·.1)=false
 hvx:∀ cl L s H fp,Vis (zcs X N' scope cl L s H fp).env.scope xc/\Loc (zcs X N' scope cl L s H fp).env.scope xc/\(zcs X N' scope cl L s H fp).env.scope.names.lookup xc=some .local
 hs:∀ x,foldedSetIterable (.Name xl p5) X.env x=pure x
 hdb:(xr == ("__debug__" : Str))=false:=by decide
 hdc:(xc == ("__debug__" : Str))=false:=by decide
 hdd:(xc == ("__classdict__" : Str))=false:=by decide
 hdl:(xl == ("__debug__" : Str))=false:=by decide
 hdm:(xl == ("__classdict__" : Str))=false:=by decide
section
variable{X:Cx}{C:Cn}{f:Addr}{fd:FuncData}{st:Stmt}{xq xr xc xl:Str}{NR:List Str}{m k n ci:Nat}{dB:Nat->Addr->DS}
end
structure CS(X:Cx)(C:Cn)(k n ci:Nat)(Z:Ev)(G0 H0:Hp)(w:Wn)(l:Nat)(Y:L2.St)(H:Hp):Prop where
 ex:∃(p:Addr)(G1:Hp)(Fs:List Addr),Fs.length=l/\Y[ci]? = some (some (.ref p))/\Rel X.K C G1 w Z Y H/\zbu G0 H0 w G1 H w/\H0 p=none/\C.H₀ p=none/\H p=some (.lst (Fs.map V.ref))/\G1 p=none/\w p=none/\∀ Fa∈Fs,zov X C.xv k n Z G1 Fa
structure AppOk(X:Cx)(xl:Str)(pa:Arguments)(b:Expr)(s:Scope)(l q4 q5 q6 q7:Pos):Prop where
 hsw:swapsWith (.Call (.Attribute (.Name xl q4) "append" q5) [.Lambda pa b s l] [] q6) none q7.line X.env=pure false
 hse:starEach [.Lambda pa b s l] X.env=(false,eval (.Lambda pa b s l) X.env)::starEach [] X.env
 hba:attributeBase (.Name xl q4) "append" X.env (eval (.Name xl q4) X.env)=eval (.Name xl q4) X.env
 hfw:((backTo q6 (starEach [.Lambda pa b s l] X.env)).all (λx=>!x.1) && (backToKw q6 (keywordEach [] X.env)).all (λx=>x.1.isSome) && decide ([Expr.Lambda pa b s l].length+([]:List Keyword).length+(if ([]:List Keyword).isEmpty then 0 else 1)<30))=true
 hln:(q5.endLine == q6.line)=true
 hpl:(backTo q6 (starEach [] X.env)).any (·.1)=false
section
variable{X:Cx}{C:Cn}{P f:Addr}{fd:FuncData}{st:Stmt}{xq xr xc xl:Str}{NR N':List Str}{m k n ci j l:Nat}{dB:Nat->Addr->DS}{Z:Ev}{G0 H0:Hp}{w:Wn}{scope:Scope}{p1 p2 p3 p4 p5 pos:Pos}
 (LB:zgl X P) (hjp:j∈C.pp) (hσ0:C.σ₀[j]? = some (some (.ref P))) (hip:ci∉C.pp)
include LB hjp hσ0 hip
variable(cls:Nat->Addr)(hxv:∀ n,n<8->C.xv n=.ref (cls n))(hfn:X.fn=λ_=>true)
 (Fu:Fun X.K xq xr st f fd) (S:zay NR ["call"] (zal st)) (hNR:NR.length=m+1) (hbi:zf2 X.K fd ["call"] []) (hm:X.mg xr=some (.ref f)) (hr:zdD (k+2) X.A) (hu:X.A.units+64<cLine)
 (hB:∀(C:Cn),(∀ n,n<8->C.xv n=.ref (cls n))->HB X C xr st f NR k cls dB) (hden:HD m dB)
include hxv hfn Fu S hNR hbi hm hr hu hB hden
omit LB hjp hσ0 in
end
end PV
end
section
end
section
namespace PV
open PySem PySem.Spec L2 PyProof.Rows
section
variable{X:Cx}{C:Cn}{CX:CXT}{k k':Nat}{ks:List Bool}{Fd:FD}{x a:Str}{eb:Expr}{fb:De}{p pos pa:Pos}
end
section
variable{X:Cx}{C:Cn}{e e':Expr}{fa fb:De}{pos:Pos}
end
section
variable{X:Cx}{C:Cn}{a b e:Expr}{fa fb:De}{pos apos p2:Pos}{zbq:List Expr}
end
section
variable{X:Cx}{C:Cn}{tg a b:Expr}{fa fb:De}{pos:Pos}
end
section
variable{X:Cx}{C:Cn}{pos ps py sp apos p1 p2 spos:Pos}{x y:Str}
end
section
variable{X:Cx}{C:Cn}{a b e:Expr}{fa fb:De}{pos ps:Pos}{x:Str}{ad:Addr}{D:List (Str×Str)}
end
section
variable{X:Cx}{C:Cn}{pos ps sp apos spos pd:Pos}{x:Str}{k v:Expr}{fk fv:De}
end
def LtAt(A:Around)(s:Shared)(u v:Value)(b:Bool):Prop:=∀(prog:Program)(w:World)(E:Value->Shared->Prop)(Q:Value->Shared->Prop),Q (.bool b) s->wpAny (model prog w) A (richCompare .Lt u v) Q E s
inductive ztE(A:Around)(s:Shared):List Value->List Value->Bool->Prop where
 |nil:ztE A s [] [] false
 |left {w:Value} {ws:List Value}:ztE A s [] (w::ws) true
 |right {v:Value} {vs:List Value}:ztE A s (v::vs) [] false
 |eq {v w:Value} {vs ws:List Value} {b:Bool} (h:SeqAt.EqAt A s v w true) (t:ztE A s vs ws b):ztE A s (v::vs) (w::ws) b
 |ne {v w:Value} {vs ws:List Value} {b:Bool} (h:SeqAt.EqAt A s v w false) (t:LtAt A s v w b):ztE A s (v::vs) (w::ws) b
section
open PySem.SeqAt
open PySem.AutoSeq1 (wpAny_loadPart')
open PySem.MeetsSeq PySem.MeetsSeq2 PySem.MeetsSeq3
end
section
variable{X:Cx}{pS:List (Addr×Obj)}{Y:L2.St}{H:Hp}{s:Shared}
end
section
variable{X:Cx}{C:Cn}{pS:List (Addr×Obj)}{Y:L2.St}{G1 H1:Hp}{w1:Wn}{Z1:Ev}{l q S I:Addr}{xs:List V}{kd:List (Dt×Dt)}{dv:Value}{R:Result->Shared->Prop}
end
section
variable{X:Cx}{C:Cn}{pS:List (Addr×Obj)}{Y:L2.St}{k:Nat}{x:Str}{params:Arguments}{body:Expr}{scope:Scope}{fE:De}
end
section
variable{X:Cx}{C:Cn}{pS:List (Addr×Obj)}{Y:L2.St}{G1 H1:Hp}{w1:Wn}{Z1:Ev}{l q:Addr}{xs:List V}{kd:List (Dt×Dt)}{s:Shared}{Q:Value->Shared->Prop}{E:Value->Shared->Prop}
end
section
variable{X:Cx}{C:Cn}{P:Addr}{j k:Nat}{x:Str}{params:Arguments}{body:Expr}{scope:Scope}{fE fa:De}{a:Expr}{p pos lpos kp kp2 cp:Pos}{cj:Nat}
end
end PV
end
section
namespace PV
open PySem PySem.Spec L2
section
variable{prog:Program}{w:World}{A:Around}{E:Value->Shared->Prop}{s:Shared}
structure ZpM(h:Heap)(z TI TO i1 i2 l1 l2:Addr)(f0:Value)(k:Nat):Prop where
 z:IsZip h z TI TO f0
 ti:IsPair h TI (.ref i1) (.ref i2)
 to:∃ a b,IsPair h TO a b
 a1:h.IsTupleIter i1 l1 k
 a2:h.IsListIter i2 l2 k
theorem ZpM.keep{h h':Heap}{z TI TO i1 i2 l1 l2:Addr}{f0:Value}{k:Nat}(p:ZpM h z TI TO i1 i2 l1 l2 f0 k)(e:∀ b∈[z,TI,TO,i1,i2],∀ o,h.get? b=some o->h'.get? b=some o):ZpM h' z TI TO i1 i2 l1 l2 f0 k :=
 ⟨e z xws _ p.z,e TI xws _ p.ti,let ⟨a,b,q⟩:=p.to;⟨a,b,e TO xws _ q⟩,p.a1.at λo q=>e i1 xws o q,p.a2.at λo q=>e i2 xws o q⟩
variable{z TI TO i1 i2 l1 l2:Addr}{k:Nat}{xs ys:Array Value}
end
section
variable{prog:Program}{w:World}{A:Around}{E:Value->Shared->Prop}{s:Shared}
end
section
variable{X:Cx}{C:Cn}{elts:List Expr}{x1:Nat}{pt:Pos}{a b:Expr}{fa fb:De}{p pos:Pos}
end
open AutoSeq1 (wpAny_loadPart')
section
variable{prog:Program}{w:World}{A:Around}{E:Value->Shared->Prop}{s:Shared}
end
structure EpT(h:Heap)(e it l:Addr)(i:Nat):Prop where
 e:∃ old,IsEnum h e it i old
 a:h.IsTupleIter it l i
theorem EpT.keep{h h':Heap}{e it l:Addr}{i:Nat}(p:EpT h e it l i)(k:∀ b∈[e,it],∀ o,h.get? b=some o->h'.get? b=some o):EpT h' e it l i :=
 ⟨let ⟨old,q⟩:=p.e;⟨old,k e xws _ q⟩,p.a.at λo q=>k it xws o q⟩
section
variable{X:Cx}{C:Cn}{elts:List Expr}{x1:Nat}{pt:Pos}{a:Expr}{fa:De}{p pos:Pos}
end
end PV
end
section
namespace PV
open PySem PySem.Spec L2 PyProof.Rows
section
variable{prog:Program}{w:World}{A:Around}{E:Value->Shared->Prop}{s:Shared}
end
section
variable{X:Cx}{C:Cn}{pos:Pos}
end
section
variable{X:Cx}
end
section
variable{X:Cx}{C:Cn}{e:Expr}{fa:De}{p pos:Pos}
end
abbrev DC:=Dt->Ev->R (Bool×Ev)
section
variable{X:Cx}{C:Cn}{pos:Pos}{op op':CmpOp}{ops:List CmpOp}{e:Expr}{r':Sem Value}{rs:List (Sem Value)}{g:Dt->Dt->R Dt}{r:R2}{fe:De}{f:DC}
end
def n2(i j:Int):Nat:=if i<j then ((j-i-1) / 2+1).toNat else 0
section
variable{X:Cx}{C:Cn}{tg e e':Expr}{fa fb:De}{p ps p3:Pos}{k3:Nat}
end
section
variable{X:Cx}{C:Cn}{a e:Expr}{fa fb:De}{p ps pos:Pos}
end
section
variable{prog:Program}{w:World}{A:Around}{E:Value->Shared->Prop}{s:Shared}
end
section
variable{X:Cx}{C:Cn}{a:Expr}{fa:De}{pos:Pos}
end
section
variable{X:Cx}{C:Cn}{a:Expr}{fa:De}{pos pn:Pos}{j:Nat}
end
section
variable{X:Cx}{C:Cn}{pos ps sp apos spos pd:Pos}{x:Str}{k v a:Expr}{fk fv fa:De}
end
def dd(ds:List Dt):List (Dt×Dt):=ds.map λd=>(d,d)
section
variable{X:Cx}{C:Cn}{pS:List (Addr×Obj)}{Y:L2.St}{G1 H1:Hp}{w1:Wn}{Z1:Ev}{l S I:Addr}{xs:List V}{ds:List Dt}{R:Result->Shared->Prop}
end
section
variable{X:Cx}{C:Cn}{pS:List (Addr×Obj)}{Y:L2.St}{G1 H1:Hp}{w1:Wn}{Z1:Ev}{l:Addr}{xs:List V}{ds:List Dt}{d0:Dt}{s:Shared}{Q:Value->Shared->Prop}{E:Value->Shared->Prop}
end
section
variable{X:Cx}{C:Cn}{e:Expr}{fa:De}{p pos:Pos}
end
end PV
end
section
namespace Ts
open PySem PyProof.Rows
def zim:Bool->Keyed->Array Keyed->Nat->Nat->Nat->StateT SortSt Sem (Option Nat):=sortPriv% PySem.Builtin.gallop
section
variable{prog:Program}{w:World}{A:Around}{E:Value->Shared->Prop}{s:Shared}
def Cp(prog:Program)(w:World)(A:Around)(s:Shared)(kd:SortKind)(P:Keyed->Prop)(r:Keyed->Int):Prop :=
 ∀(E:Value->Shared->Prop)(x y:Keyed)(st:SortSt)(Q:Option Bool->SortSt->Prop),P x->P y->kindOf st=kd->Q (some (decide (r x<r y))) st->wpS (model prog w) A E s (lt' x y) Q st
def bey(r:Keyed->Int)(left:Bool)(key x:Keyed):Bool:=if left=true then decide (r x<r key) else !decide (r key<r x)
theorem zau{arr:Array Keyed}{i:Nat}{x:Keyed}{st:SortSt}{Q:Keyed->SortSt->Prop}(h:arr[i]? = some x)(q:Q x st):wpS (model prog w) A E s (elem' arr i) Q st:=by rw[elem'_eq,h];exact waD q
theorem zmM{kd:SortKind}{P:Keyed->Prop}{r:Keyed->Int}(C:Cp prog w A s kd P r){left:Bool}{key x:Keyed}{arr:Array Keyed}{i:Nat}{st:SortSt}{Q:Option Bool->SortSt->Prop}(hk:kindOf st=kd)(hP:P key)(hx:arr[i]? = some x)(hp:P x)(q:Q (some (bey r left key x)) st) :
  wpS (model prog w) A E s (elem' arr i >>= λx=>if left=true then lt' x key else lt' key x >>= λo=>pure (o.map (!·))) Q st:=by
 refine waC (zau hx ?_);unfold bey at q;cases left with
 |true=>exact C E x key st Q hp hP hk q
 |false =>
  refine waC (C E key x st _ hP hp hk ?_);exact waD q
theorem zh8{kd:SortKind}{P:Keyed->Prop}{r:Keyed->Int}(C:Cp prog w A s kd P r){left:Bool}{key:Keyed}{arr:Array Keyed}{base n hint:Nat}{st:SortSt}{Q:Option Nat->SortSt->Prop}(hk:kindOf st=kd)(hP:P key){bb:Nat->Bool}
  (hv:∀ i,i<n->∃ x,arr[base+i]? = some x/\P x/\bb i=bey r left key x) (ha:∀ i j,i<=j->j<n->bb j=true->bb i=true) (hh:hint<n) (h:∀ k,k<=n->(∀ i,i<k->bb i=true)->(∀ i,k<=i->i<n->bb i=false)->Q (some k) st) :
  wpS (model prog w) A E s (zim left key arr base n hint) Q st:=by
 have hb:∀ i,i<n->∀{Q:Option Bool->SortSt->Prop},Q (some (bb i)) st->wpS (model prog w) A E s (elem' arr (base+i) >>= λx=>if left=true then lt' x key else lt' key x >>= λo=>pure (o.map (!·))) Q st:=λi hi Q q=>by obtain ⟨x,h1,h2,h3⟩:=hv i hi;exact zmM C hk hP h1 h2 (by rw[<- h3];exact q)
 have srch:∀ lo hi,lo<=hi->hi<=n->(∀ i,i<lo->bb i=true)->(∀ i,hi<=i->i<n->bb i=false)->∀(f:Nat->Option (Option Nat)×Nat×Nat->StateT SortSt Sem (ForInStep (Option (Option Nat)×Nat×Nat))),
   (∀ x lo hi,hi<=lo->f x (none,lo,hi)=pure (.done (none,lo,hi)))->(∀ x lo hi,¬ hi<=lo->∀ Q:ForInStep (Option (Option Nat)×Nat×Nat)->SortSt->Prop,lo+(hi-lo) / 2<n->Q (.yield (none,if bb (lo+(hi-lo) / 2)=true then (lo+(hi-lo) / 2+1,hi) else (lo,lo+(hi-lo) / 2))) st->wpS (model prog w) A E s (f x (none,lo,hi)) Q st) ->
   ∀ Q:Option (Option Nat)×Nat×Nat->SortSt->Prop,(∀ k,k<=n->(∀ i,i<k->bb i=true)->(∀ i,k<=i->i<n->bb i=false)->∀ lo,Q (none,lo,k) st)->wpS (model prog w) A E s (forIn [:n] (none,lo,hi) f) Q st:=by
  intro lo hi h1 h2 h3 h4 f f1 f2 Q hQ;refine wpS_forRange (I:=λt c st'=>st'=st/\∃ lo hi,c=(none,lo,hi)/\lo<=hi/\hi<=n/\hi-lo+t<=n/\(∀ i,i<lo->bb i=true)/\∀ i,hi<=i->i<n->bb i=false) ?_ ?_ ⟨rfl,lo,hi,rfl,h1,h2,xwo,h3,h4⟩
  ·rintro t c st' _ ht ⟨rfl,lo,hi,rfl,g1,g2,g3,g4,g5⟩;by_cases e:hi<=lo
   ·rw[f1 t lo hi e];refine waD (hQ hi g2 (λi hi'=>g4 i xwo) g5 lo)
   ·refine f2 t lo hi e _ xwo ?_;cases eb:bb (lo+(hi-lo) / 2) with
    |true =>
     refine ⟨rfl,lo+(hi-lo) / 2+1,hi,rfl,xwo,g2,xwo,λi hi'=>?_,g5⟩;exact ha i (lo+(hi-lo) / 2) xwo xwo eb
    |false =>
     refine ⟨rfl,lo,lo+(hi-lo) / 2,rfl,xwo,xwo,xwo,g4,λi hi' hn=>?_⟩;cases eq:bb i with
     |false=>rfl
     |true=>rw[ha (lo+(hi-lo) / 2) i hi' hn eq] at eb;cases eb
  ·rintro c st' ⟨rfl,lo,hi,rfl,g1,g2,g3,g4,g5⟩;have:max 0 n=n:=by omega
   rw[this] at g3;exact hQ hi g2 (λi hi'=>g4 i xwo) g5 lo
 have two:∀{lo hi:Nat}(Q:ForInStep (Option (Option Nat)×Nat×Nat)->SortSt->Prop)(b:Bool),b=bb (lo+(hi-lo) / 2)->Q (.yield (none,if bb (lo+(hi-lo) / 2)=true then (lo+(hi-lo) / 2+1,hi) else (lo,lo+(hi-lo) / 2))) st ->
   wpS (model prog w) A E s (if b=true then pure (ForInStep.yield (none,lo+(hi-lo) / 2+1,hi)) else pure (ForInStep.yield (none,lo,lo+(hi-lo) / 2)):StateT SortSt Sem (ForInStep (Option (Option Nat)×Nat×Nat))) Q st:=λ{lo hi} Q b e q=>by
  rw[<- e] at q;cases b with
  |true=>exact waD q
  |false=>exact waD q
 unfold zim;refine waC (hb hint hh ?_);cases eh:bb hint with
 |true =>
  dsimp only;rw[if_pos rfl];refine waC (wpS_mono (Q:=λc st'=>st'=st/\∃ lo ofs,c=(none,lo,ofs)/\lo<ofs/\hint+lo<n/\bb (hint+lo)=true/\(n-hint<=ofs\/bb (hint+ofs)=false)) (wpS_forRange (I:=λt c st'=>st'=st/\∃ lo ofs,c=(none,lo,ofs)/\t+1<=ofs/\lo<ofs/\hint+lo<n/\bb (hint+lo)=true) ?_ ?_ ⟨rfl,0,1,rfl,xwo,xwo,xwo,eh⟩) ?_)
  ·rintro t c st' _ ht ⟨rfl,lo,ofs,rfl,g1,g2,g3,g4⟩;dsimp only;by_cases e:ofs ≥ n-hint
   ·rw[if_pos e];exact waD ⟨rfl,lo,ofs,rfl,g2,g3,g4,.inl e⟩
   ·rw[if_neg e];refine waC (hb (hint+ofs) xwo ?_);dsimp only;cases eb:bb (hint+ofs) with
    |true=>exact waD ⟨rfl,ofs,2 * ofs+1,rfl,xwo,xwo,xwo,eb⟩
    |false=>exact waD ⟨rfl,lo,ofs,rfl,g2,g3,g4,.inr eb⟩
  ·rintro c st' ⟨rfl,lo,ofs,rfl,g1,g2,g3,g4⟩;exact ⟨rfl,lo,ofs,rfl,g2,g3,g4,.inl xwo⟩
  ·rintro c st' ⟨rfl,lo,ofs,rfl,g2,g3,g4,g5⟩;dsimp only;refine waC (srch (hint+lo+1) (hint+min ofs (n-hint)) xwo xwo (λi hi=>ha i (hint+lo) xwo g3 g4) (λi hi hn=>?_) _ (λx lo hi e=>if_pos e) (λx lo hi e Q hn q=>?_) _ (λk k1 k2 k3 lo=>?_))
   ·cases eq:bb i with
    |false=>rfl
    |true =>
     rcases g5 with g5|g5
     ·omega
     ·rw[ha (hint+ofs) i xwo hn eq] at g5;cases g5
   ·dsimp only;rw[if_neg e];refine waC (hb _ hn ?_);exact two Q _ rfl q
   ·dsimp only;exact waD (h k k1 k2 k3)
 |false =>
  dsimp only;rw[if_neg xws];refine waC (wpS_mono (Q:=λc st'=>st'=st/\∃ lo ofs,c=(none,lo,ofs)/\lo<ofs/\lo<=hint/\bb (hint-lo)=false/\(hint+1<=ofs\/(ofs<=hint/\bb (hint-ofs)=true))) (wpS_forRange (I:=λt c st'=>st'=st/\∃ lo ofs,c=(none,lo,ofs)/\t+1<=ofs/\lo<ofs/\lo<=hint/\bb (hint-lo)=false) ?_ ?_ ⟨rfl,0,1,rfl,xwo,xwo,xwo,eh⟩) ?_)
  ·rintro t c st' _ ht ⟨rfl,lo,ofs,rfl,g1,g2,g3,g4⟩;dsimp only;by_cases e:ofs ≥ hint+1
   ·rw[if_pos e];exact waD ⟨rfl,lo,ofs,rfl,g2,g3,g4,.inl e⟩
   ·rw[if_neg e];refine waC (hb (hint-ofs) xwo ?_);dsimp only;cases eb:bb (hint-ofs) with
    |true=>exact waD ⟨rfl,lo,ofs,rfl,g2,g3,g4,.inr ⟨xwo,eb⟩⟩
    |false=>exact waD ⟨rfl,ofs,2 * ofs+1,rfl,xwo,xwo,xwo,eb⟩
  ·rintro c st' ⟨rfl,lo,ofs,rfl,g1,g2,g3,g4⟩;exact ⟨rfl,lo,ofs,rfl,g2,g3,g4,.inl xwo⟩
  ·rintro c st' ⟨rfl,lo,ofs,rfl,g2,g3,g4,g5⟩;dsimp only;refine waC (srch (hint+1-min ofs (hint+1)) (hint-lo) xwo xwo (λi hi=>?_) (λi hi hn=>?_) _ (λx lo hi e=>if_pos e) (λx lo hi e Q hn q=>?_) _ (λk k1 k2 k3 lo=>?_))
   ·rcases g5 with g5|⟨g5,g6⟩
    ·omega
    ·exact ha i (hint-ofs) xwo xwo g6
   ·cases eq:bb i with
    |false=>rfl
    |true=>rw[ha (hint-lo) i hi hn eq] at g4;cases g4
   ·dsimp only;rw[if_neg e];refine waC (hb _ hn ?_);exact two Q _ rfl q
   ·dsimp only;exact waD (h k k1 k2 k3)
end
def Srt(r:Keyed->Int)(l:List Keyed):Prop:=l.Pairwise λx y=>r x<=r y
structure Mg(r:Keyed->Int)(a b out:List Keyed)(ia ib:Nat):Prop where
 pm:(out++(a.drop ia++b.drop ib)).Perm (a++b)
 so:Srt r out
 le:∀ x∈out,∀ y∈a.drop ia++b.drop ib,r x<=r y
variable{r:Keyed->Int}{a b out:List Keyed}{ia ib:Nat}
theorem Srt.drop{l:List Keyed}(h:Srt r l)(k:Nat):Srt r (l.drop k):=h.sublist (List.drop_sublist _ _)
theorem Srt.take{l:List Keyed}(h:Srt r l)(k:Nat):Srt r (l.take k):=h.sublist (List.take_sublist _ _)
theorem Srt.at{l:List Keyed}(h:Srt r l){i j:Nat}{x y:Keyed}(hij:i<=j)(hx:l[i]? = some x)(hy:l[j]? = some y):r x<=r y:=by
 rcases Nat.lt_or_eq_of_le hij with z|z
 ·obtain ⟨hi,rfl⟩:=wam.mp hx;obtain ⟨hj,rfl⟩:=wam.mp hy;exact List.pairwise_iff_getElem.mp h i j hi hj z
 ·subst z;rw[hx] at hy;cases hy;exact Int.le_refl _
theorem zcC{l:List Keyed}{k:Nat}{x:Keyed}(h:x∈l.drop k):∃ j,k<=j/\l[j]? = some x:=by obtain ⟨i,hi⟩:=List.getElem?_of_mem h;rw[List.getElem?_drop] at hi;exact ⟨k+i,xwo,hi⟩
theorem zeT{l:List Keyed}{k:Nat}{x:Keyed}(h:x∈l.take k):∃ j,j<k/\l[j]? = some x:=by
 obtain ⟨i,hi⟩:=List.getElem?_of_mem h;rw[List.getElem?_take] at hi;split at hi
 ·exact ⟨i,by assumption,hi⟩
 ·cases hi
theorem Mg.as(h:Mg r a b out ia ib)(ha:Srt r a)(hb:Srt r b)(k:Nat)(hk:∀ i x,i<k->a[ia+i]? = some x->∀ y,b[ib]? = some y->r x<=r y):Mg r a b (out++(a.drop ia).take k) (ia+k) ib:=by
 have e:(a.drop ia).take k++a.drop (ia+k)=a.drop ia:=by rw[<- List.drop_drop];exact List.take_append_drop k _
 have hin:∀ x∈(a.drop ia).take k,x∈a.drop ia:=λx hx=>List.mem_of_mem_take hx;refine ⟨?_,?_,?_⟩
 ·have:=h.pm;rw[<- e] at this;simpa [List.append_assoc] using this
 ·refine List.pairwise_append.mpr ⟨h.so,(ha.drop ia).take k,λx hx y hy=>h.le x hx y (waR _ (hin y hy))⟩
 ·intro x hx y hy;rcases wax.mp hx with hx|hx
  ·refine h.le x hx y ?_;rcases wax.mp hy with hy|hy
   ·exact waR _ (by rw[<- e];exact waz _ hy)
   ·exact waz _ hy
  ·obtain ⟨j,hj,ej⟩:=zeT hx;rw[List.getElem?_drop] at ej;rcases wax.mp hy with hy|hy
   ·obtain ⟨i,hi,ei⟩:=zcC hy;exact ha.at xwo ej ei
   ·obtain ⟨i,hi,ei⟩:=zcC hy;have hl:ib<b.length:=by have:=(wam.mp ei).1;omega
    have:=hk j x hj ej _ (wac hl);exact Int.le_trans this (hb.at hi (wac hl) ei)
theorem Mg.swap(h:Mg r a b out ia ib):Mg r b a out ib ia :=
 ⟨(List.Perm.append_left out List.perm_append_comm).trans (h.pm.trans List.perm_append_comm),h.so,λx hx y hy=>h.le x hx y (wax.mpr ((wax.mp hy).symm))⟩
theorem Mg.bs(h:Mg r a b out ia ib)(ha:Srt r a)(hb:Srt r b)(k:Nat)(hk:∀ i x,i<k->b[ib+i]? = some x->∀ y,a[ia]? = some y->r x<=r y):Mg r a b (out++(b.drop ib).take k) ia (ib+k):=(h.swap.as hb ha k hk).swap
theorem Mg.a1(h:Mg r a b out ia ib)(ha:Srt r a)(hb:Srt r b){x:Keyed}(hx:a[ia]? = some x)(hk:∀ y,b[ib]? = some y->r x<=r y):Mg r a b (out++[x]) (ia+1) ib:=by
 have:=h.as ha hb 1 (λi z hi hz y hy=>by
  have:i=0:=by omega
  subst this;rw[Nat.add_zero,hx] at hz;cases hz;exact hk y hy)
 rwa [show (a.drop ia).take 1=[x] by obtain ⟨hl,e⟩:=wam.mp hx;rw[List.drop_eq_getElem_cons hl,e];rfl] at this
theorem Mg.b1(h:Mg r a b out ia ib)(ha:Srt r a)(hb:Srt r b){x:Keyed}(hx:b[ib]? = some x)(hk:∀ y,a[ia]? = some y->r x<=r y):Mg r a b (out++[x]) ia (ib+1):=(h.swap.a1 hb ha hx hk).swap
def Mgd(r:Keyed->Int)(a b out:List Keyed):Prop:=out.Perm (a++b)/\Srt r out
theorem Mg.fin(h:Mg r a b out ia ib)(ha:Srt r a)(hb:Srt r b)(e:a.length<=ia\/b.length<=ib):Mgd r a b (out++(a.drop ia++b.drop ib)):=by
 refine ⟨h.pm,List.pairwise_append.mpr ⟨h.so,?_,h.le⟩⟩;rcases e with e|e
 ·rw[List.drop_eq_nil_iff.mpr e,List.nil_append];exact hb.drop ib
 ·rw[List.drop_eq_nil_iff.mpr e,List.append_nil];exact ha.drop ia
theorem Mg.finA(h:Mg r a b out ia ib)(ha:Srt r a)(hb:Srt r b)(e:ia+1=a.length)(hl:∀ x,a[ia]? = some x->∀ y∈b,r y<=r x):Mgd r a b (out++(b.drop ib++a.drop ia)):=by
 refine ⟨(List.Perm.append_left out List.perm_append_comm).trans h.pm,List.pairwise_append.mpr ⟨h.so,List.pairwise_append.mpr ⟨hb.drop ib,ha.drop ia,λy hy x hx=>?_⟩,λx hx y hy=>h.le x hx y (wax.mpr ((wax.mp hy).symm))⟩⟩;obtain ⟨i,hi,ei⟩:=zcC hx;have:i=ia:=by have:=(wam.mp ei).1;omega
 subst this;exact hl x ei y (List.mem_of_mem_drop hy)
def zlR:Array Keyed->Array Keyed->StateT SortSt Sem (Array Keyed):=sortPriv% PySem.Builtin.mergeLo
abbrev mkG(st:SortSt)(g:Nat):SortSt:=SortSt.mk' (kindOf st) (arrOf st) (pendingOf st) g (failedOf st)
theorem zii(a:Array Keyed)(i:Nat):(a.extract i).toList=a.toList.drop i:=by rw[Array.toList_extract,List.extract_eq_take_drop];exact List.take_of_length_le xws
theorem zga(a:Array Keyed)(i k:Nat):(a.extract i (i+k)).toList=(a.toList.drop i).take k:=by rw[Array.toList_extract,List.extract_eq_take_drop,Nat.add_sub_cancel_left]
section
variable{prog:Program}{w:World}{A:Around}{E:Value->Shared->Prop}{s:Shared}
theorem zdm{x:String}{st:SortSt}{Q:Unit->SortSt->Prop}(h:Q () st):wpS (model prog w) A E s (liftM (rule x):StateT SortSt Sem Unit) Q st:=wpS_lift (wpAny_rule ⟨rfl,h⟩)
theorem zam{c:Prop} [Decidable c] {α:Type} {m n:StateT SortSt Sem α} {st:SortSt} {Q:α->SortSt->Prop} (h1:c->wpS (model prog w) A E s m Q st) (h2:¬ c->wpS (model prog w) A E s n Q st):wpS (model prog w) A E s (if c then m else n) Q st:=by
 by_cases h:c
 ·rw[if_pos h];exact h1 h
 ·rw[if_neg h];exact h2 h
theorem zcz{kd:SortKind}{P:Keyed->Prop}{r:Keyed->Int}(C:Cp prog w A s kd P r){left:Bool}{key:Keyed}{a:Array Keyed}{i n hint:Nat}{st:SortSt}{Q:Option Nat->SortSt->Prop}(hk:kindOf st=kd)(hP:P key)(hPa:∀ x∈a.toList,P x)(ha:Srt r a.toList)(hn:i+n<=a.size)(hh:hint<n)
  (h:∀ k,k<=n->(∀ j x,j<k->a.toList[i+j]? = some x->bey r left key x=true)->(∀ j x,k<=j->j<n->a.toList[i+j]? = some x->bey r left key x=false)->Q (some k) st) :
  wpS (model prog w) A E s (zim left key a i n hint) Q st:=by
 have at_:∀ j,j<n->∃ x,a.toList[i+j]? = some x/\a[i+j]? = some x:=λj hj=>by
  have hl:i+j<a.size:=by omega
  exact ⟨a[i+j],by rw[Array.getElem?_toList];exact getElem?_pos a _ hl,getElem?_pos a _ hl⟩
 refine zh8 C hk hP (bb:=λj=>match a.toList[i+j]? with|some x=>bey r left key x|none=>false) (λj hj=>?_) (λj j' hjj hj' hb=>?_) hh (λk hk h1 h2=>h k hk (λj x hj hx=>?_) (λj x hkj hj hx=>?_))
 ·obtain ⟨x,e1,e2⟩:=at_ j hj;exact ⟨x,e2,hPa x (waH e1),by rw[e1]⟩
 ·obtain ⟨x,e1,_⟩:=at_ j xwo;obtain ⟨y,e2,_⟩:=at_ j' hj'
  try dsimp only at hb ⊢
  rw[e2] at hb;rw[e1];have:=ha.at (show i+j<=i+j' by omega) e1 e2;dsimp only at hb ⊢;unfold bey at hb ⊢;cases left with
  |true =>
   simp only[if_true,war] at hb ⊢;omega
  |false =>
   simp only[Bool.false_eq_true,if_false,Bool.not_eq_true',decide_eq_false_iff_not] at hb ⊢;omega
 ·have:=h1 j hj
  try dsimp only at this
  rw[hx] at this;exact this
 ·have:=h2 j hkj hj
  try dsimp only at this
  rw[hx] at this;exact this
def JL(r:Keyed->Int)(a b out:Array Keyed)(ia ib:Nat):Prop:=Mg r a.toList b.toList out.toList ia ib/\ia+1<a.size/\ib<b.size
theorem zkz{kd:SortKind}{P:Keyed->Prop}{r:Keyed->Int}(C:Cp prog w A s kd P r){a b:Array Keyed}{st:SortSt}{Q:Array Keyed->SortSt->Prop}(hk:kindOf st=kd)(hPa:∀ x∈a.toList,P x)(hPb:∀ x∈b.toList,P x)(ha:Srt r a.toList)(hb:Srt r b.toList)(ha0:0<a.size)(hb0:0<b.size)
  (h0:∀ x y,a.toList[0]? = some x->b.toList[0]? = some y->r y<=r x) (hl:∀ x,a.toList[a.size-1]? = some x->∀ y∈b.toList,r y<=r x) (h:∀ out g,Mgd r a.toList b.toList out.toList->Q out (mkG st g)):wpS (model prog w) A E s (zlR a b) Q st:=by
 have aA:∀ i,i<a.size->∃ x,a.toList[i]? = some x/\a[i]? = some x/\P x:=λi hi=>by
  have e:a.toList[i]? = some a[i]:=by rw[Array.getElem?_toList];exact getElem?_pos a _ hi
  exact ⟨a[i],e,getElem?_pos a _ hi,hPa _ (waH e)⟩
 have bA:∀ i,i<b.size->∃ x,b.toList[i]? = some x/\b[i]? = some x/\P x:=λi hi=>by
  have e:b.toList[i]? = some b[i]:=by rw[Array.getElem?_toList];exact getElem?_pos b _ hi
  exact ⟨b[i],e,getElem?_pos b _ hi,hPb _ (waH e)⟩
 have fin:∀{out:Array Keyed}{ia ib:Nat},Mg r a.toList b.toList out.toList ia ib->(a.size<=ia\/b.size<=ib)->Mgd r a.toList b.toList (out++a.extract ia++b.extract ib).toList:=λ{out ia ib} m e=>by rw[Array.toList_append,Array.toList_append,zii,zii,List.append_assoc];exact m.fin ha hb (by simpa using e)
 have finA:∀{out:Array Keyed}{ia ib:Nat},Mg r a.toList b.toList out.toList ia ib->ia+1=a.size->Mgd r a.toList b.toList (out++b.extract ib++a.extract ia).toList:=λ{out ia ib} m e=>by rw[Array.toList_append,Array.toList_append,zii,zii,List.append_assoc];exact m.finA ha hb (by simpa using e) λx hx=>hl x (by rw[show a.size-1=ia by omega];exact hx)
 unfold zlR;refine waC (zdm ?_);dsimp only;obtain ⟨y0,e1,e2,p0⟩:=bA 0 hb0;refine waC (zau e2 ?_);have m0:Mg r a.toList b.toList (#[y0]:Array Keyed).toList 0 1:=by
  have:Mg r a.toList b.toList [] 0 0:=⟨xws,.nil,λx hx=>by cases hx⟩
  exact this.b1 ha hb e1 λx hx=>h0 x y0 hx e1
 by_cases c1:(1 == b.size)=true
 ·rw[if_pos c1];exact waD (h _ (gallopOf st) (fin m0 (.inr (by have:=beq_iff_eq.mp c1;omega))))
 rw[if_neg c1];have hb1:1<b.size:=by have:¬ 1=b.size:=λz=>c1 (beq_iff_eq.mpr z);omega
 by_cases c2:(0+1 == a.size)=true
 ·rw[if_pos c2];exact waD (h _ (gallopOf st) (finA m0 (by have:=beq_iff_eq.mp c2;omega)))
 rw[if_neg c2];have ha1:1<a.size:=by have:¬ 0+1=a.size:=λz=>c2 (beq_iff_eq.mpr z);omega
 refine waC (wpS_get ?_)
 try dsimp only
 refine waC (wpS_mono (Q:=λc st'=>∃ g,st'=mkG st g/\∃ res,c.1=some res/\Mgd r a.toList b.toList res.toList) (wpS_forRange (I:=λt c st'=>∃ g,st'=mkG st g/\∃ out ia ib mg,c=(none,out,ia,ib,mg)/\JL r a b out ia ib/\t<=ia+ib) ?_ ?_ ⟨gallopOf st,rfl,_,_,_,_,rfl,⟨m0,xwo,hb1⟩,xwo⟩) ?_)
 rotate_left
 ·rintro c st' ⟨g,rfl,out,ia,ib,mg,rfl,⟨_,j1,j2⟩,j3⟩;omega
 ·rintro ⟨c1,c⟩ st' ⟨g,rfl,res,e,hm⟩;dsimp only at e ⊢;subst e;exact waD (h res g hm)
 rintro t c st1 _ ht ⟨g,rfl,out,ia,ib,mg,rfl,hJ,hc⟩;dsimp only;refine waC (wpS_mono (Q:=λc st'=>st'=mkG st g/\((∃ out ia2 ib2 ac bc,c=(none,out,ia2,ib2,ac,bc)/\JL r a b out ia2 ib2/\ia+ib+1<=ia2+ib2)\/∃ res,c.1=some res/\Mgd r a.toList b.toList res.toList)) (wpS_forRange (I:=λt c st'=>st'=mkG st g/\∃ out ia2 ib2 ac bc,c=(none,out,ia2,ib2,ac,bc)/\JL r a b out ia2 ib2/\ia+ib+t<=ia2+ib2) ?_ ?_ ⟨rfl,_,_,_,_,_,rfl,hJ,xwo⟩) ?_)
 ·rintro t c st2 _ ht ⟨rfl,out,ia,ib,ac,bc,rfl,⟨m,j1,j2⟩,hc⟩;dsimp only;obtain ⟨y,y1,y2,yP⟩:=bA ib j2;obtain ⟨x,x1,x2,xP⟩:=aA ia xwo;refine waC (zau y2 (waC (zau x2 (waC (C E y x _ _ yP xP hk ?_)))));dsimp only;by_cases hlt:r y<r x
  ·rw[if_pos (decide_eq_true hlt)];refine waC (zau y2 ?_);have m':Mg r a.toList b.toList (out.push y).toList ia (ib+1):=by rw[Array.toList_push];exact m.b1 ha hb y1 λz hz=>by rw[x1] at hz;cases hz;omega
   by_cases c3:(ib+1 == b.size)=true
   ·rw[if_pos c3];exact waD ⟨rfl,.inr ⟨_,rfl,fin m' (.inr (by have:=beq_iff_eq.mp c3;omega))⟩⟩
   rw[if_neg c3];have j2':ib+1<b.size:=by have:¬ ib+1=b.size:=λz=>c3 (beq_iff_eq.mpr z);omega
   by_cases c4:bc+1 ≥ mg
   ·rw[if_pos c4];exact waD ⟨rfl,.inl ⟨_,_,_,_,_,rfl,⟨m',j1,j2'⟩,xwo⟩⟩
   ·rw[if_neg c4];exact waD ⟨rfl,_,_,_,_,_,rfl,⟨m',j1,j2'⟩,xwo⟩
  ·rw[if_neg (by simpa using hlt)];refine waC (zau x2 ?_);have m':Mg r a.toList b.toList (out.push x).toList (ia+1) ib:=by rw[Array.toList_push];exact m.a1 ha hb x1 λz hz=>by rw[y1] at hz;cases hz;omega
   by_cases c3:(ia+1+1 == a.size)=true
   ·rw[if_pos c3];exact waD ⟨rfl,.inr ⟨_,rfl,finA m' (by have:=beq_iff_eq.mp c3;omega)⟩⟩
   rw[if_neg c3];have j1':ia+1+1<a.size:=by have:¬ ia+1+1=a.size:=λz=>c3 (beq_iff_eq.mpr z);omega
   by_cases c4:ac+1 ≥ mg
   ·rw[if_pos c4];exact waD ⟨rfl,.inl ⟨_,_,_,_,_,rfl,⟨m',j1',j2⟩,xwo⟩⟩
   ·rw[if_neg c4];exact waD ⟨rfl,_,_,_,_,_,rfl,⟨m',j1',j2⟩,xwo⟩
 ·rintro c st2 ⟨rfl,out,ia2,ib2,ac,bc,rfl,hJ2,hc2⟩;exact ⟨rfl,.inl ⟨_,_,_,_,_,rfl,hJ2,xwo⟩⟩
 rintro ⟨c1,c⟩ st2 ⟨rfl,hc1⟩;rcases hc1 with ⟨out,ia,ib,ac,bc,e,hJ,hc⟩|⟨res,e,hm⟩
 rotate_left
 ·dsimp only at e ⊢;subst e;exact waD ⟨g,rfl,res,rfl,hm⟩
 cases e;dsimp only;refine waC (zdm ?_);refine waC (wpS_mono (Q:=λc st'=>∃ g,st'=mkG st g/\((∃ out ia2 ib2 mg ac bc,c=(none,out,ia2,ib2,mg,ac,bc)/\JL r a b out ia2 ib2/\ia+ib<=ia2+ib2)\/∃ res,c.1=some res/\Mgd r a.toList b.toList res.toList)) (wpS_forRange (I:=λt c st'=>∃ g,st'=mkG st g/\∃ out ia2 ib2 mg ac bc,c=(none,out,ia2,ib2,mg,ac,bc)/\JL r a b out ia2 ib2/\ia+ib<=ia2+ib2) ?_ ?_ ⟨g,rfl,_,_,_,_,_,_,rfl,hJ,xwo⟩) ?_)
 rotate_left
 ·rintro c st2 ⟨g,rfl,out,ia2,ib2,mg,ac,bc,rfl,hJ2,hc2⟩;exact ⟨g,rfl,.inl ⟨_,_,_,_,_,_,rfl,hJ2,hc2⟩⟩
 ·rintro ⟨c1,c⟩ st2 ⟨g,rfl,hc1⟩;rcases hc1 with ⟨out,ia,ib,mg,ac,bc,e,hJ,hc⟩|⟨res,e,hm⟩
  ·cases e;dsimp only;refine waC (wpS_modify ?_);exact waD ⟨mg+1,rfl,_,_,_,_,rfl,hJ,xwo⟩
  ·dsimp only at e ⊢;subst e;exact waD ⟨g,rfl,res,rfl,hm⟩
 rintro t c st2 _ ht ⟨g,rfl,out,ia,ib,mg,ac,bc,rfl,⟨m,j1,j2⟩,hc2⟩;dsimp only;obtain ⟨y,y1,y2,yP⟩:=bA ib j2;refine zam (λhh=>?_) (λhh=>?_)
 all_goals
  refine waC (wpS_modify (waC (zau y2 (waC (zcz C hk yP hPa ha xwo xwo λk k1 k2 k3=>?_)))));dsimp only;have mA:Mg r a.toList b.toList (out++a.extract ia (ia+k)).toList (ia+k) ib:=by rw[Array.toList_append,zga];refine m.as ha hb k λi x hi hx z hz=>?_;rw[y1] at hz;cases hz;have:=k2 i x hi hx;unfold bey at this;simp only[Bool.false_eq_true,if_false,Bool.not_eq_true',decide_eq_false_iff_not] at this;omega
  have nA:∀ z,a.toList[ia+k]? = some z->r y<=r z:=λz hz=>by have hl:=(wam.mp hz).1;rw[Array.length_toList] at hl;have:=k3 k z (wal _) xwo hz;unfold bey at this;simp only[Bool.false_eq_true,if_false,Bool.not_eq_false',war] at this;omega
  refine zam (λhh=>?_) (λhh=>?_)
  ·have ck:=hh;refine zam (λhh=>?_) (λhh=>?_)
   ·have c3:=hh;exact waD ⟨_,rfl,.inr ⟨_,rfl,finA mA (by have:=beq_iff_eq.mp c3;omega)⟩⟩
   have c3:=hh;rw[beq_iff_eq] at c3;refine zam (λhh=>?_) (λhh=>?_)
   ·have c4:=hh;exact waD ⟨_,rfl,.inr ⟨_,rfl,fin mA (.inl (by have:=beq_iff_eq.mp c4;omega))⟩⟩
   have c4:=hh;rw[beq_iff_eq] at c4;refine waC (zau y2 ?_);have M2:=mA.b1 ha hb y1 nA;rw[<- Array.toList_push] at M2;refine zam (λhh=>?_) (λhh=>?_)
   ·have c5:=hh;exact waD ⟨_,rfl,.inr ⟨_,rfl,fin M2 (.inr (by have:=beq_iff_eq.mp c5;omega))⟩⟩
   have c5:=hh;rw[beq_iff_eq] at c5;obtain ⟨x,x1,x2,xP⟩:=aA (ia+k) xwo;refine waC (zau x2 (waC (zcz C hk xP hPb hb xwo xwo λk' k1' k2' k3'=>?_)));dsimp only;have mB:Mg r a.toList b.toList ((out++a.extract ia (ia+k)).push y++b.extract (ib+1) (ib+1+k')).toList (ia+k) (ib+1+k'):=by rw[Array.toList_append,zga];refine M2.bs ha hb k' λi z hi hz v hv=>?_;rw[x1] at hv;cases hv;have:=k2' i z hi hz;unfold bey at this;simp only[if_true,war] at this;omega
   have nB:∀ z,b.toList[ib+1+k']? = some z->r x<=r z:=λz hz=>by have hl:=(wam.mp hz).1;rw[Array.length_toList] at hl;have:=k3' k' z (wal _) xwo hz;unfold bey at this;simp only[if_true,decide_eq_false_iff_not] at this;omega
   refine zam (λhh=>?_) (λhh=>?_)
   ·refine zam (λhh=>?_) (λhh=>?_)
    ·have c6:=hh;exact waD ⟨_,rfl,.inr ⟨_,rfl,fin mB (.inr (by have:=beq_iff_eq.mp c6;omega))⟩⟩
    have c6:=hh;rw[beq_iff_eq] at c6;refine waC (zau x2 ?_);have M4:=mB.a1 ha hb x1 nB;rw[<- Array.toList_push] at M4;refine zam (λhh=>?_) (λhh=>?_)
    ·have c7:=hh;exact waD ⟨_,rfl,.inr ⟨_,rfl,finA M4 (by have:=beq_iff_eq.mp c7;omega)⟩⟩
    have c7:=hh;rw[beq_iff_eq] at c7;refine zam (λhh=>?_) (λhh=>?_)
    ·exact waD ⟨_,rfl,.inl ⟨_,_,_,_,_,_,rfl,⟨M4,xwo,xwo⟩,xwo⟩⟩
    ·exact waD ⟨_,rfl,_,_,_,_,_,_,rfl,⟨M4,xwo,xwo⟩,xwo⟩
   ·have ck':=hh;have e0:k'=0:=by omega
    subst e0;refine waC (zau x2 ?_);have M4:=M2.a1 ha hb x1 nB;rw[<- Array.toList_push] at M4;refine zam (λhh=>?_) (λhh=>?_)
    ·have c7:=hh;exact waD ⟨_,rfl,.inr ⟨_,rfl,finA M4 (by have:=beq_iff_eq.mp c7;omega)⟩⟩
    have c7:=hh;rw[beq_iff_eq] at c7;refine zam (λhh=>?_) (λhh=>?_)
    ·exact waD ⟨_,rfl,.inl ⟨_,_,_,_,_,_,rfl,⟨M4,xwo,xwo⟩,xwo⟩⟩
    ·exact waD ⟨_,rfl,_,_,_,_,_,_,rfl,⟨M4,xwo,xwo⟩,xwo⟩
  ·have ck:=hh;have e0:k=0:=by omega
   subst e0;refine waC (zau y2 ?_);have M2:=m.b1 ha hb y1 nA;rw[<- Array.toList_push] at M2;refine zam (λhh=>?_) (λhh=>?_)
   ·have c5:=hh;exact waD ⟨_,rfl,.inr ⟨_,rfl,fin M2 (.inr (by have:=beq_iff_eq.mp c5;omega))⟩⟩
   have c5:=hh;rw[beq_iff_eq] at c5;obtain ⟨x,x1,x2,xP⟩:=aA ia xwo;refine waC (zau x2 (waC (zcz C hk xP hPb hb xwo xwo λk' k1' k2' k3'=>?_)));dsimp only;have mB:Mg r a.toList b.toList (out.push y++b.extract (ib+1) (ib+1+k')).toList ia (ib+1+k'):=by rw[Array.toList_append,zga];refine M2.bs ha hb k' λi z hi hz v hv=>?_;rw[x1] at hv;cases hv;have:=k2' i z hi hz;unfold bey at this;simp only[if_true,war] at this;omega
   have nB:∀ z,b.toList[ib+1+k']? = some z->r x<=r z:=λz hz=>by have hl:=(wam.mp hz).1;rw[Array.length_toList] at hl;have:=k3' k' z (wal _) xwo hz;unfold bey at this;simp only[if_true,decide_eq_false_iff_not] at this;omega
   refine zam (λhh=>?_) (λhh=>?_)
   ·refine zam (λhh=>?_) (λhh=>?_)
    ·have c6:=hh;exact waD ⟨_,rfl,.inr ⟨_,rfl,fin mB (.inr (by have:=beq_iff_eq.mp c6;omega))⟩⟩
    have c6:=hh;rw[beq_iff_eq] at c6;refine waC (zau x2 ?_);have M4:=mB.a1 ha hb x1 nB;rw[<- Array.toList_push] at M4;refine zam (λhh=>?_) (λhh=>?_)
    ·have c7:=hh;exact waD ⟨_,rfl,.inr ⟨_,rfl,finA M4 (by have:=beq_iff_eq.mp c7;omega)⟩⟩
    have c7:=hh;rw[beq_iff_eq] at c7;refine zam (λhh=>?_) (λhh=>?_)
    ·exact waD ⟨_,rfl,.inl ⟨_,_,_,_,_,_,rfl,⟨M4,xwo,xwo⟩,xwo⟩⟩
    ·exact waD ⟨_,rfl,_,_,_,_,_,_,rfl,⟨M4,xwo,xwo⟩,xwo⟩
   ·have ck':=hh;have e0:k'=0:=by omega
    subst e0;refine waC (zau x2 ?_);have M4:=M2.a1 ha hb x1 nB;rw[<- Array.toList_push] at M4;refine zam (λhh=>?_) (λhh=>?_)
    ·have c7:=hh;exact waD ⟨_,rfl,.inr ⟨_,rfl,finA M4 (by have:=beq_iff_eq.mp c7;omega)⟩⟩
    have c7:=hh;rw[beq_iff_eq] at c7;refine zam (λhh=>?_) (λhh=>?_)
    ·exact waD ⟨_,rfl,.inl ⟨_,_,_,_,_,_,rfl,⟨M4,xwo,xwo⟩,xwo⟩⟩
    ·exact waD ⟨_,rfl,_,_,_,_,_,_,rfl,⟨M4,xwo,xwo⟩,xwo⟩
end
def zly:Array Keyed->Array Keyed->StateT SortSt Sem (Array Keyed):=sortPriv% PySem.Builtin.mergeHi
abbrev ng(r:Keyed->Int):Keyed->Int:=λx=>- r x
theorem Srt.rev{r:Keyed->Int}{l:List Keyed}(h:Srt r l):Srt (ng r) l.reverse:=by unfold Srt;rw[List.pairwise_reverse];exact h.imp λh=>by show-r _<=- r _;omega
theorem Srt.rev'{r:Keyed->Int}{l:List Keyed}(h:Srt (ng r) l):Srt r l.reverse:=by unfold Srt;rw[List.pairwise_reverse];exact h.imp λ{x y} h=>by have h':- r x<=- r y:=h;show r y<=r x;omega
theorem zfl(l:List Keyed){n:Nat}(h:n<=l.length):l.reverse.drop (l.length-n)=(l.take n).reverse:=by rw[List.drop_reverse,show l.length-(l.length-n)=n by omega]
theorem zgv(a:Array Keyed){i n:Nat}(hi:i<=n)(hn:n<=a.size):(a.extract i n).reverse.toList=(a.toList.reverse.drop (a.size-n)).take (n-i):=by
 have hn':n<=a.toList.length:=by rw[Array.length_toList];exact hn
 rw[show a.size=a.toList.length from rfl,zfl _ hn',Array.toList_reverse,Array.toList_extract,List.extract_eq_take_drop,List.take_reverse,List.length_take];congr 1;rw[List.drop_take];rw[show min n a.toList.length-(n-i)=i by omega]
theorem zq2(a:Array Keyed)(n:Nat):(a.extract 0 n).toList=a.toList.take n:=by rw[Array.toList_extract,List.extract_eq_take_drop];simp
theorem Mgd.rev{r:Keyed->Int}{a b l:List Keyed}(h:Mgd (ng r) b.reverse a.reverse l):Mgd r a b l.reverse:=by refine ⟨?_,h.2.rev'⟩;refine l.reverse_perm.trans (h.1.trans ?_);refine (List.perm_append_comm).trans ?_;exact (a.reverse_perm).append b.reverse_perm
section
variable{prog:Program}{w:World}{A:Around}{E:Value->Shared->Prop}{s:Shared}
def JH(r:Keyed->Int)(a b out:Array Keyed)(na nb:Nat):Prop:=Mg (ng r) b.toList.reverse a.toList.reverse out.toList (b.size-nb) (a.size-na)/\2<=nb/\nb<=b.size/\1<=na/\na<=a.size
def MS(a b:Array Keyed)(na nb:Nat):Nat:=(a.size-na)+(b.size-nb)
theorem msb{a b:Array Keyed}{na nb:Nat}(h1:1<=na)(h2:na<=a.size)(h3:2<=nb)(h4:nb<=b.size):MS a b na nb+3<=a.size+b.size:=by unfold MS;omega
theorem msA{a b:Array Keyed}{na nb:Nat}(h1:1<=na)(h2:na<=a.size):MS a b na nb+1<=MS a b (na-1) nb:=by unfold MS;omega
theorem msB{a b:Array Keyed}{na nb:Nat}(h1:1<=nb)(h2:nb<=b.size):MS a b na nb+1<=MS a b na (nb-1):=by unfold MS;omega
theorem msL{a b:Array Keyed}{na nb p q:Nat}(h1:p<=na)(h2:q<=nb):MS a b na nb<=MS a b p q:=by unfold MS;omega
theorem zk2{kd:SortKind}{P:Keyed->Prop}{r:Keyed->Int}(C:Cp prog w A s kd P r){a b:Array Keyed}{st:SortSt}{Q:Array Keyed->SortSt->Prop}(hk:kindOf st=kd)(hPa:∀ x∈a.toList,P x)(hPb:∀ x∈b.toList,P x)(ha:Srt r a.toList)(hb:Srt r b.toList)(ha0:0<a.size)(hb0:0<b.size)
  (h0:∀ y,b.toList[0]? = some y->∀ x∈a.toList,r y<=r x) (hl:∀ x y,a.toList[a.size-1]? = some x->b.toList[b.size-1]? = some y->r y<=r x) (h:∀ out g,Mgd r a.toList b.toList out.toList->Q out (mkG st g)):wpS (model prog w) A E s (zly a b) Q st:=by
 have sA:=hb.rev;have sB:=ha.rev;have aA:∀ na,1<=na->na<=a.size->∃ x,a.toList.reverse[a.size-na]? = some x/\a.toList[na-1]? = some x/\a[na-1]? = some x/\P x:=λna h1 h2=>by
  have hl:na-1<a.size:=by omega
  have e:a.toList[na-1]? = some a[na-1]:=by rw[Array.getElem?_toList];exact getElem?_pos a _ hl
  refine ⟨a[na-1],?_,e,getElem?_pos a _ hl,hPa _ (waH e)⟩;rw[List.getElem?_reverse (by rw[Array.length_toList];omega),Array.length_toList,show a.size-1-(a.size-na)=na-1 by omega];exact e
 have bA:∀ nb,1<=nb->nb<=b.size->∃ x,b.toList.reverse[b.size-nb]? = some x/\b.toList[nb-1]? = some x/\b[nb-1]? = some x/\P x:=λnb h1 h2=>by
  have hl:nb-1<b.size:=by omega
  have e:b.toList[nb-1]? = some b[nb-1]:=by rw[Array.getElem?_toList];exact getElem?_pos b _ hl
  refine ⟨b[nb-1],?_,e,getElem?_pos b _ hl,hPb _ (waH e)⟩;rw[List.getElem?_reverse (by rw[Array.length_toList];omega),Array.length_toList,show b.size-1-(b.size-nb)=nb-1 by omega];exact e
 have fin:∀{out:Array Keyed}{na nb:Nat},Mg (ng r) b.toList.reverse a.toList.reverse out.toList (b.size-nb) (a.size-na)->na<=a.size->nb<=b.size->(na=0\/nb=0)->Mgd r a.toList b.toList (a.extract 0 na++b.extract 0 nb++out.reverse).toList:=λ{out na nb} m h1 h2 e=>by have:=(m.fin sA sB (by simp;omega)).rev;rw[show b.size-nb=b.toList.length-nb from rfl,show a.size-na=a.toList.length-na from rfl,zfl _ (show nb<=b.toList.length by rw[Array.length_toList];exact h2),zfl _ (show na<=a.toList.length by rw[Array.length_toList];exact h1)] at this;rw[Array.toList_append,Array.toList_append,zq2,zq2,Array.toList_reverse];simpa [List.reverse_append] using this
 have finB:∀{out:Array Keyed}{na nb:Nat},Mg (ng r) b.toList.reverse a.toList.reverse out.toList (b.size-nb) (a.size-na)->na<=a.size->nb=1->Mgd r a.toList b.toList (b.extract 0 nb++a.extract 0 na++out.reverse).toList:=λ{out na nb} m h1 e=>by
  have:=(m.finA sA sB (by simp;omega) (λx hx y hy=>by rw[List.getElem?_reverse (by rw[Array.length_toList];omega),Array.length_toList,show b.size-1-(b.size-nb)=0 by omega] at hx;have:=h0 x hx y (List.mem_reverse.mp hy);show-r y<=- r x;omega)).rev
  rw[show b.size-nb=b.toList.length-nb from rfl,show a.size-na=a.toList.length-na from rfl,zfl _ (show nb<=b.toList.length by rw[Array.length_toList];omega),zfl _ (show na<=a.toList.length by rw[Array.length_toList];exact h1)] at this;rw[Array.toList_append,Array.toList_append,zq2,zq2,Array.toList_reverse];simpa [List.reverse_append] using this
 unfold zly;refine waC (zdm ?_);dsimp only;obtain ⟨x0,e0,e1,e2,p0⟩:=aA a.size xwo (wal _);refine waC (zau e2 ?_);have m0:Mg (ng r) b.toList.reverse a.toList.reverse (#[x0]:Array Keyed).toList (b.size-b.size) (a.size-(a.size-1)):=by
  have m:Mg (ng r) b.toList.reverse a.toList.reverse [] 0 0:=⟨xws,.nil,λx hx=>by cases hx⟩
  rw[Nat.sub_self] at e0;have:=m.b1 sA sB e0 λy hy=>by rw[List.getElem?_reverse (by rw[Array.length_toList];omega),Array.length_toList,Nat.sub_zero] at hy;have:=hl x0 y e1 hy;show-r x0<=- r y;omega
  rw[Nat.sub_self,show a.size-(a.size-1)=0+1 by omega];exact this
 refine zam (λw1=>?_) (λw1=>?_)
 ·exact waD (h _ (gallopOf st) (fin m0 xwo (wal _) (.inl (beq_iff_eq.mp w1))))
 rw[beq_iff_eq] at w1;refine zam (λw2=>?_) (λw2=>?_)
 ·exact waD (h _ (gallopOf st) (finB m0 xwo (beq_iff_eq.mp w2)))
 rw[beq_iff_eq] at w2;refine waC (wpS_get ?_)
 try dsimp only
 refine waC (wpS_mono (Q:=λc st'=>∃ g,st'=mkG st g/\∃ res,c.1=some res/\Mgd r a.toList b.toList res.toList) (wpS_forRange (I:=λt c st'=>∃ g,st'=mkG st g/\∃ na nb out mg,c=(none,na,nb,out,mg)/\JH r a b out na nb/\t<=MS a b na nb) ?_ ?_ ⟨gallopOf st,rfl,_,_,_,_,rfl,⟨m0,xwo,xwo,xwo,xwo⟩,xwo⟩) ?_)
 rotate_left
 ·rintro c st' ⟨g,rfl,na,nb,out,mg,rfl,⟨_,j1,j2,j3,j4⟩,j5⟩;have:=msb (a:=a) (b:=b) j3 j4 j1 j2;omega
 ·rintro ⟨c1,c⟩ st' ⟨g,rfl,res,e,hm⟩;dsimp only at e ⊢;subst e;exact waD (h res g hm)
 rintro t c st1 i9 ht9 ⟨g,rfl,na,nb,out,mg,rfl,hJ,hc9⟩;dsimp only;refine waC (wpS_mono (Q:=λc st'=>st'=mkG st g/\((∃ na2 nb2 out ac bc,c=(none,na2,nb2,out,ac,bc)/\JH r a b out na2 nb2/\MS a b na nb+1<=MS a b na2 nb2)\/∃ res,c.1=some res/\Mgd r a.toList b.toList res.toList)) (wpS_forRange (I:=λt c st'=>st'=mkG st g/\∃ na2 nb2 out ac bc,c=(none,na2,nb2,out,ac,bc)/\JH r a b out na2 nb2/\MS a b na nb+t<=MS a b na2 nb2) ?_ ?_ ⟨rfl,_,_,_,_,_,rfl,hJ,xwo⟩) ?_)
 ·rintro t c st2 i8 ht ⟨rfl,na,nb,out,ac,bc,rfl,⟨m,j1,j2,j3,j4⟩,hc⟩;clear i8 ht ht9 hc9 i9 w1 w2;dsimp only;obtain ⟨y,y1,y2,y3,yP⟩:=bA nb xwo j2;obtain ⟨x,x1,x2,x3,xP⟩:=aA na j3 j4;refine waC (zau y3 (waC (zau x3 (waC (C E y x _ _ yP xP hk ?_)))));dsimp only;by_cases hlt:r y<r x
  ·rw[if_pos (decide_eq_true hlt)];refine waC (zau x3 ?_);have m':Mg (ng r) b.toList.reverse a.toList.reverse (out.push x).toList (b.size-nb) (a.size-(na-1)):=by rw[Array.toList_push,show a.size-(na-1)=a.size-na+1 by omega];exact m.b1 sA sB x1 λz hz=>by rw[y1] at hz;cases hz;show-r x<=- r y;omega
   refine zam (λc3=>?_) (λc3=>?_)
   ·exact waD ⟨rfl,.inr ⟨_,rfl,fin m' xwo j2 (.inl (beq_iff_eq.mp c3))⟩⟩
   rw[beq_iff_eq] at c3;refine zam (λc4=>?_) (λc4=>?_)
   ·exact waD ⟨rfl,.inl ⟨_,_,_,_,_,rfl,⟨m',j1,j2,xwo,xwo⟩,by have:=msA (b:=b) (nb:=nb) j3 j4;omega⟩⟩
   ·exact waD ⟨rfl,_,_,_,_,_,rfl,⟨m',j1,j2,xwo,xwo⟩,by have:=msA (b:=b) (nb:=nb) j3 j4;omega⟩
  ·rw[if_neg (by simpa using hlt)];refine waC (zau y3 ?_);have m':Mg (ng r) b.toList.reverse a.toList.reverse (out.push y).toList (b.size-(nb-1)) (a.size-na):=by rw[Array.toList_push,show b.size-(nb-1)=b.size-nb+1 by omega];exact m.a1 sA sB y1 λz hz=>by rw[x1] at hz;cases hz;show-r y<=- r x;omega
   refine zam (λc3=>?_) (λc3=>?_)
   ·exact waD ⟨rfl,.inr ⟨_,rfl,finB m' j4 (beq_iff_eq.mp c3)⟩⟩
   rw[beq_iff_eq] at c3;refine zam (λc4=>?_) (λc4=>?_)
   ·exact waD ⟨rfl,.inl ⟨_,_,_,_,_,rfl,⟨m',xwo,xwo,j3,j4⟩,by have:=msB (a:=a) (na:=na) (Nat.le_of_succ_le j1) j2;omega⟩⟩
   ·exact waD ⟨rfl,_,_,_,_,_,rfl,⟨m',xwo,xwo,j3,j4⟩,by have:=msB (a:=a) (na:=na) (Nat.le_of_succ_le j1) j2;omega⟩
 ·rintro c st2 ⟨rfl,na2,nb2,out,ac,bc,rfl,hJ2,hc2⟩;exact ⟨rfl,.inl ⟨_,_,_,_,_,rfl,hJ2,xwo⟩⟩
 rintro ⟨c1,c⟩ st2 ⟨rfl,hc1⟩;rcases hc1 with ⟨na,nb,out,ac,bc,e,hJ,hc⟩|⟨res,e,hm⟩
 rotate_left
 ·dsimp only at e ⊢;subst e;exact waD ⟨g,rfl,res,rfl,hm⟩
 cases e;dsimp only;refine waC (zdm ?_);refine waC (wpS_mono (Q:=λc st'=>∃ g,st'=mkG st g/\((∃ na2 nb2 out mg ac bc,c=(none,na2,nb2,out,mg,ac,bc)/\JH r a b out na2 nb2/\MS a b na nb<=MS a b na2 nb2)\/∃ res,c.1=some res/\Mgd r a.toList b.toList res.toList)) (wpS_forRange (I:=λt c st'=>∃ g,st'=mkG st g/\∃ na2 nb2 out mg ac bc,c=(none,na2,nb2,out,mg,ac,bc)/\JH r a b out na2 nb2/\MS a b na nb<=MS a b na2 nb2) ?_ ?_ ⟨g,rfl,_,_,_,_,_,_,rfl,hJ,xwo⟩) ?_)
 rotate_left
 ·rintro c st2 ⟨g,rfl,na2,nb2,out,mg,ac,bc,rfl,hJ2,hc2⟩;exact ⟨g,rfl,.inl ⟨_,_,_,_,_,_,rfl,hJ2,hc2⟩⟩
 ·rintro ⟨c1,c⟩ st2 ⟨g,rfl,hc1⟩;rcases hc1 with ⟨na,nb,out,mg,ac,bc,e,hJ,hc⟩|⟨res,e,hm⟩
  ·cases e;dsimp only;refine waC (wpS_modify ?_);exact waD ⟨mg+1,rfl,_,_,_,_,rfl,hJ,xwo⟩
  ·dsimp only at e ⊢;subst e;exact waD ⟨g,rfl,res,rfl,hm⟩
 rintro t c st2 i8 ht ⟨g,rfl,na,nb,out,mg,ac,bc,rfl,⟨m,j1,j2,j3,j4⟩,hc2⟩;clear i8 ht hc ht9 hc9 i9 w1 w2;dsimp only;obtain ⟨y,y1,y2,y3,yP⟩:=bA nb xwo j2;refine zam (λ_=>?_) (λ_=>?_)
 all_goals
  refine waC (wpS_modify (waC (zau y3 (waC (zcz C hk yP hPa ha xwo xwo λp p1 p2 p3=>?_)))));dsimp only;have p2':∀ j z,j<p->a.toList[j]? = some z->r z<=r y:=λj z hj hz=>by have:=p2 j z hj (by rw[Nat.zero_add];exact hz);unfold bey at this;simp only[Bool.false_eq_true,if_false,Bool.not_eq_true',decide_eq_false_iff_not] at this;omega
  have p3':∀ j z,p<=j->j<na->a.toList[j]? = some z->r y<r z:=λj z hj hj' hz=>by have:=p3 j z hj hj' (by rw[Nat.zero_add];exact hz);unfold bey at this;simp only[Bool.false_eq_true,if_false,Bool.not_eq_false',war] at this;exact this
  have nA:∀ z,a.toList.reverse[a.size-p]? = some z->ng r y<=ng r z:=λz hz=>by
   by_cases p0:p=0
   ·subst p0;rw[Nat.sub_zero,List.getElem?_eq_none xws] at hz;cases hz
   rw[List.getElem?_reverse (by rw[Array.length_toList];omega),Array.length_toList,show a.size-1-(a.size-p)=p-1 by omega] at hz;have:=p2' (p-1) z xwo hz;show-r y<=- r z;omega
  refine zam (λck=>?_) (λck=>?_)
  ·have mA:Mg (ng r) b.toList.reverse a.toList.reverse (out++(a.extract p na).reverse).toList (b.size-nb) (a.size-p):=by rw[Array.toList_append,zgv a xwo xwo,show a.size-p=a.size-na+(na-p) by omega];refine m.bs sA sB (na-p) λi z hi hz v hv=>?_;rw[y1] at hv;cases hv;rw[List.getElem?_reverse (by rw[Array.length_toList];omega),Array.length_toList] at hz;have:=p3' _ z xwo xwo hz;show-r z<=- r y;omega
   refine zam (λc3=>?_) (λc3=>?_)
   ·exact waD ⟨_,rfl,.inr ⟨_,rfl,fin mA xwo xwo (.inl (beq_iff_eq.mp c3))⟩⟩
   rw[beq_iff_eq] at c3;have M2:=mA.a1 sA sB y1 nA;rw[<- Array.toList_push] at M2;have M3:Mg (ng r) b.toList.reverse a.toList.reverse ((out++(a.extract p na).reverse).push y).toList (b.size-(nb-1)) (a.size-p):=by rw[show b.size-(nb-1)=b.size-nb+1 by omega];exact M2
   refine waC (zau y3 ?_);refine zam (λc5=>?_) (λc5=>?_)
   ·exact waD ⟨_,rfl,.inr ⟨_,rfl,finB M3 xwo (beq_iff_eq.mp c5)⟩⟩
   rw[beq_iff_eq] at c5;obtain ⟨x,x1,x2,x3,xP⟩:=aA (p) xwo xwo;refine waC (zau x3 (waC (zcz C hk xP hPb hb xwo xwo λq q1 q2 q3=>?_)));dsimp only;have q2':∀ j z,j<q->b.toList[j]? = some z->r z<r x:=λj z hj hz=>by have:=q2 j z hj (by rw[Nat.zero_add];exact hz);unfold bey at this;simp only[if_true,war] at this;exact this
   have q3':∀ j z,q<=j->j<nb-1->b.toList[j]? = some z->r x<=r z:=λj z hj hj' hz=>by have:=q3 j z hj hj' (by rw[Nat.zero_add];exact hz);unfold bey at this;simp only[if_true,decide_eq_false_iff_not] at this;omega
   have nB:∀ z,b.toList.reverse[b.size-q]? = some z->ng r x<=ng r z:=λz hz=>by
    by_cases q0:q=0
    ·subst q0;rw[Nat.sub_zero,List.getElem?_eq_none xws] at hz;cases hz
    rw[List.getElem?_reverse (by rw[Array.length_toList];omega),Array.length_toList,show b.size-1-(b.size-q)=q-1 by omega] at hz;have:=q2' (q-1) z xwo hz;show-r x<=- r z;omega
   refine zam (λc9=>?_) (λc9=>?_)
   ·have M6:Mg (ng r) b.toList.reverse a.toList.reverse (((out++(a.extract p na).reverse).push y)++(b.extract q (nb-1)).reverse).toList (b.size-q) (a.size-p):=by rw[Array.toList_append,zgv b xwo xwo,show b.size-q=b.size-(nb-1)+(nb-1-q) by omega];refine M3.as sA sB (nb-1-q) λi z hi hz v hv=>?_;rw[x1] at hv;cases hv;rw[List.getElem?_reverse (by rw[Array.length_toList];omega),Array.length_toList] at hz;have:=q3' _ z xwo xwo hz;show-r z<=- r x;omega
    refine zam (λc6=>?_) (λc6=>?_)
    ·exact waD ⟨_,rfl,.inr ⟨_,rfl,finB M6 xwo (beq_iff_eq.mp c6)⟩⟩
    rw[beq_iff_eq] at c6;refine zam (λc6'=>?_) (λc6'=>?_)
    ·exact waD ⟨_,rfl,.inr ⟨_,rfl,fin M6 xwo xwo (.inr (beq_iff_eq.mp c6'))⟩⟩
    rw[beq_iff_eq] at c6';have M4:=M6.b1 sA sB x1 nB;rw[<- Array.toList_push] at M4;refine waC (zau x3 ?_);refine zam (λc7=>?_) (λc7=>?_)
    ·exact waD ⟨_,rfl,.inr ⟨_,rfl,fin (na:=p-1) (nb:=q) (by rw[show a.size-(p-1)=a.size-p+1 by omega];exact M4) xwo xwo (.inl (beq_iff_eq.mp c7))⟩⟩
    rw[beq_iff_eq] at c7;have M5:Mg (ng r) b.toList.reverse a.toList.reverse ((((out++(a.extract p na).reverse).push y)++(b.extract q (nb-1)).reverse).push x).toList (b.size-q) (a.size-(p-1)):=by rw[show a.size-(p-1)=a.size-p+1 by omega];exact M4
    refine zam (λc8=>?_) (λc8=>?_)
    ·exact waD ⟨_,rfl,.inl ⟨_,_,_,_,_,_,rfl,⟨M5,xwo,xwo,xwo,xwo⟩,waN hc2 (msL xwo xwo)⟩⟩
    ·exact waD ⟨_,rfl,_,_,_,_,_,_,rfl,⟨M5,xwo,xwo,xwo,xwo⟩,waN hc2 (msL xwo xwo)⟩
   ·have eq:q=nb-1:=by omega
    subst eq;have M4:=M3.b1 sA sB x1 nB;rw[<- Array.toList_push] at M4;refine waC (zau x3 ?_);refine zam (λc7=>?_) (λc7=>?_)
    ·exact waD ⟨_,rfl,.inr ⟨_,rfl,fin (na:=p-1) (nb:=(nb-1)) (by rw[show a.size-(p-1)=a.size-p+1 by omega];exact M4) xwo xwo (.inl (beq_iff_eq.mp c7))⟩⟩
    rw[beq_iff_eq] at c7;have M5:Mg (ng r) b.toList.reverse a.toList.reverse (((out++(a.extract p na).reverse).push y).push x).toList (b.size-(nb-1)) (a.size-(p-1)):=by rw[show a.size-(p-1)=a.size-p+1 by omega];exact M4
    refine zam (λc8=>?_) (λc8=>?_)
    ·exact waD ⟨_,rfl,.inl ⟨_,_,_,_,_,_,rfl,⟨M5,xwo,xwo,xwo,xwo⟩,waN hc2 (msL xwo xwo)⟩⟩
    ·exact waD ⟨_,rfl,_,_,_,_,_,_,rfl,⟨M5,xwo,xwo,xwo,xwo⟩,waN hc2 (msL xwo xwo)⟩
  ·have ep:p=na:=by omega
   subst ep;have M2:=m.a1 sA sB y1 nA;rw[<- Array.toList_push] at M2;have M3:Mg (ng r) b.toList.reverse a.toList.reverse (out.push y).toList (b.size-(nb-1)) (a.size-p):=by rw[show b.size-(nb-1)=b.size-nb+1 by omega];exact M2
   refine waC (zau y3 ?_);refine zam (λc5=>?_) (λc5=>?_)
   ·exact waD ⟨_,rfl,.inr ⟨_,rfl,finB M3 xwo (beq_iff_eq.mp c5)⟩⟩
   rw[beq_iff_eq] at c5;obtain ⟨x,x1,x2,x3,xP⟩:=aA (p) xwo xwo;refine waC (zau x3 (waC (zcz C hk xP hPb hb xwo xwo λq q1 q2 q3=>?_)));dsimp only;have q2':∀ j z,j<q->b.toList[j]? = some z->r z<r x:=λj z hj hz=>by have:=q2 j z hj (by rw[Nat.zero_add];exact hz);unfold bey at this;simp only[if_true,war] at this;exact this
   have q3':∀ j z,q<=j->j<nb-1->b.toList[j]? = some z->r x<=r z:=λj z hj hj' hz=>by have:=q3 j z hj hj' (by rw[Nat.zero_add];exact hz);unfold bey at this;simp only[if_true,decide_eq_false_iff_not] at this;omega
   have nB:∀ z,b.toList.reverse[b.size-q]? = some z->ng r x<=ng r z:=λz hz=>by
    by_cases q0:q=0
    ·subst q0;rw[Nat.sub_zero,List.getElem?_eq_none xws] at hz;cases hz
    rw[List.getElem?_reverse (by rw[Array.length_toList];omega),Array.length_toList,show b.size-1-(b.size-q)=q-1 by omega] at hz;have:=q2' (q-1) z xwo hz;show-r x<=- r z;omega
   refine zam (λc9=>?_) (λc9=>?_)
   ·have M6:Mg (ng r) b.toList.reverse a.toList.reverse ((out.push y)++(b.extract q (nb-1)).reverse).toList (b.size-q) (a.size-p):=by rw[Array.toList_append,zgv b xwo xwo,show b.size-q=b.size-(nb-1)+(nb-1-q) by omega];refine M3.as sA sB (nb-1-q) λi z hi hz v hv=>?_;rw[x1] at hv;cases hv;rw[List.getElem?_reverse (by rw[Array.length_toList];omega),Array.length_toList] at hz;have:=q3' _ z xwo xwo hz;show-r z<=- r x;omega
    refine zam (λc6=>?_) (λc6=>?_)
    ·exact waD ⟨_,rfl,.inr ⟨_,rfl,finB M6 xwo (beq_iff_eq.mp c6)⟩⟩
    rw[beq_iff_eq] at c6;refine zam (λc6'=>?_) (λc6'=>?_)
    ·exact waD ⟨_,rfl,.inr ⟨_,rfl,fin M6 xwo xwo (.inr (beq_iff_eq.mp c6'))⟩⟩
    rw[beq_iff_eq] at c6';have M4:=M6.b1 sA sB x1 nB;rw[<- Array.toList_push] at M4;refine waC (zau x3 ?_);refine zam (λc7=>?_) (λc7=>?_)
    ·exact waD ⟨_,rfl,.inr ⟨_,rfl,fin (na:=p-1) (nb:=q) (by rw[show a.size-(p-1)=a.size-p+1 by omega];exact M4) xwo xwo (.inl (beq_iff_eq.mp c7))⟩⟩
    rw[beq_iff_eq] at c7;have M5:Mg (ng r) b.toList.reverse a.toList.reverse (((out.push y)++(b.extract q (nb-1)).reverse).push x).toList (b.size-q) (a.size-(p-1)):=by rw[show a.size-(p-1)=a.size-p+1 by omega];exact M4
    refine zam (λc8=>?_) (λc8=>?_)
    ·exact waD ⟨_,rfl,.inl ⟨_,_,_,_,_,_,rfl,⟨M5,xwo,xwo,xwo,xwo⟩,waN hc2 (msL xwo xwo)⟩⟩
    ·exact waD ⟨_,rfl,_,_,_,_,_,_,rfl,⟨M5,xwo,xwo,xwo,xwo⟩,waN hc2 (msL xwo xwo)⟩
   ·have eq:q=nb-1:=by omega
    subst eq;have M4:=M3.b1 sA sB x1 nB;rw[<- Array.toList_push] at M4;refine waC (zau x3 ?_);refine zam (λc7=>?_) (λc7=>?_)
    ·exact waD ⟨_,rfl,.inr ⟨_,rfl,fin (na:=p-1) (nb:=(nb-1)) (by rw[show a.size-(p-1)=a.size-p+1 by omega];exact M4) xwo xwo (.inl (beq_iff_eq.mp c7))⟩⟩
    rw[beq_iff_eq] at c7;have M5:Mg (ng r) b.toList.reverse a.toList.reverse ((out.push y).push x).toList (b.size-(nb-1)) (a.size-(p-1)):=by rw[show a.size-(p-1)=a.size-p+1 by omega];exact M4
    refine zam (λc8=>?_) (λc8=>?_)
    ·exact waD ⟨_,rfl,.inl ⟨_,_,_,_,_,_,rfl,⟨M5,xwo,xwo,xwo,xwo⟩,waN hc2 (msL xwo xwo)⟩⟩
    ·exact waD ⟨_,rfl,_,_,_,_,_,_,rfl,⟨M5,xwo,xwo,xwo,xwo⟩,waN hc2 (msL xwo xwo)⟩
end
def zeX:Nat->StateT SortSt Sem Bool:=sortPriv% PySem.Builtin.mergeAt
theorem zb9{l:List Keyed}{i n j:Nat}(hj:j<n):((l.drop i).take n)[j]? = l[i+j]? := by rw[List.getElem?_take,if_pos hj,List.getElem?_drop]
theorem znv(p0:Nat):∀(m:List Keyed)(k:Nat)(arr:Array Keyed),p0+k+m.length<=arr.size->((m.zipIdx k).foldl (λa x=>a.setIfInBounds (p0+x.2) x.1) arr).toList=arr.toList.take (p0+k)++m++arr.toList.drop (p0+k+m.length)
 |[],k,arr,_=>by simp
 |x::m,k,arr,h=>by
  rw[List.zipIdx_cons,List.foldl_cons];rw[List.length_cons] at h;have ih:=znv p0 m (k+1) (arr.setIfInBounds (p0+k) x) (by rw[Array.size_setIfInBounds];omega);dsimp only at ih ⊢;rw[ih,Array.toList_setIfInBounds];have hl:p0+k<arr.toList.length:=by rw[Array.length_toList];omega
  rw[List.set_eq_take_append_cons_drop,if_pos hl,List.length_cons];have e1:(arr.toList.take (p0+k)++x::arr.toList.drop (p0+k+1)).take (p0+(k+1))=arr.toList.take (p0+k)++[x]:=by rw[List.take_append,List.length_take,show p0+(k+1)-min (p0+k) arr.toList.length=1 by omega];rw[List.take_of_length_le (by rw[List.length_take];omega)];rfl
  have e2:(arr.toList.take (p0+k)++x::arr.toList.drop (p0+k+1)).drop (p0+(k+1)+m.length)=arr.toList.drop (p0+k+(m.length+1)):=by rw[List.drop_append,List.length_take,List.drop_eq_nil_iff.mpr (by rw[List.length_take];omega),List.nil_append,show p0+(k+1)+m.length-min (p0+k) arr.toList.length=m.length+1 by omega,List.drop_succ_cons,List.drop_drop];congr 1;omega
  rw[e1,e2];simp
section
variable{r:Keyed->Int}{RA RB:List Keyed}{k q:Nat}{y x:Keyed}
theorem glue(sA:Srt r RA)(sB:Srt r RB)(hy:RB[0]? = some y)(hx:RA[RA.length-1]? = some x)(h1:∀ j z,j<k->RA[j]? = some z->r z<=r y)(h3:∀ j z,q<=j->RB[j]? = some z->r x<=r z){m:List Keyed}(hm:Mgd r (RA.drop k) (RB.take q) m) :
  (RA.take k++(m++RB.drop q)).Perm (RA++RB)/\Srt r (RA.take k++(m++RB.drop q)):=by
 have inm:∀ z∈m,z∈RA.drop k\/z∈RB.take q:=λz hz=>wax.mp (hm.1.mem_iff.mp hz);have ly:∀ z∈RB,r y<=r z:=λz hz=>by obtain ⟨j,e⟩:=List.getElem?_of_mem hz;exact sB.at (Nat.zero_le _) hy e
 have lx:∀ z∈RA,r z<=r x:=λz hz=>by obtain ⟨j,e⟩:=List.getElem?_of_mem hz;exact sA.at (by have:=(wam.mp e).1;omega) e hx
 constructor
 ·refine (List.Perm.append_left _ (hm.1.append_right _)).trans ?_;rw[List.append_assoc,List.take_append_drop,<- List.append_assoc,List.take_append_drop]
 ·refine List.pairwise_append.mpr ⟨sA.take k,List.pairwise_append.mpr ⟨hm.2,sB.drop q,λz hz v hv=>?_⟩,λz hz v hv=>?_⟩
  ·obtain ⟨j',g1,g2⟩:=zcC hv;rcases inm z hz with w|w
   ·exact Int.le_trans (lx z (List.mem_of_mem_drop w)) (h3 j' v g1 g2)
   ·obtain ⟨j,g3,g4⟩:=zeT w;exact sB.at xwo g4 g2
  ·obtain ⟨j,g1,g2⟩:=zeT hz;have zy:=h1 j z g1 g2;have vb:v∈RB->r z<=r v:=λw=>Int.le_trans zy (ly v w);rcases wax.mp hv with w|w
   ·rcases inm v w with w|w
    ·obtain ⟨j',g3,g4⟩:=zcC w;exact sA.at xwo g2 g4
    ·exact vb (List.mem_of_mem_take w)
   ·exact vb (List.mem_of_mem_drop w)
end
section
variable{prog:Program}{w:World}{A:Around}{E:Value->Shared->Prop}{s:Shared}
theorem ztg{st st':SortSt}{Q:PUnit->SortSt->Prop}(h:Q ⟨⟩ st'):wpS (model prog w) A E s (set st':StateT SortSt Sem PUnit) Q st:=by unfold wpS;rw[StateT.run_set];exact wad ⟨rfl,h⟩
theorem zfO{kd:SortKind}{P:Keyed->Prop}{r:Keyed->Int}(C:Cp prog w A s kd P r){left:Bool}{key:Keyed}{a:Array Keyed}{i n hint:Nat}{st:SortSt}{Q:Option Nat->SortSt->Prop}(hk:kindOf st=kd)(hP:P key)(hPa:∀ x∈a.toList,P x)(ha:Srt r ((a.toList.drop i).take n))(hn:i+n<=a.size)(hh:hint<n)
  (h:∀ k,k<=n->(∀ j x,j<k->a.toList[i+j]? = some x->bey r left key x=true)->(∀ j x,k<=j->j<n->a.toList[i+j]? = some x->bey r left key x=false)->Q (some k) st) :
  wpS (model prog w) A E s (zim left key a i n hint) Q st:=by
 have at_:∀ j,j<n->∃ x,a.toList[i+j]? = some x/\a[i+j]? = some x:=λj hj=>by
  have hl:i+j<a.size:=by omega
  exact ⟨a[i+j],by rw[Array.getElem?_toList];exact getElem?_pos a _ hl,getElem?_pos a _ hl⟩
 refine zh8 C hk hP (bb:=λj=>match a.toList[i+j]? with|some x=>bey r left key x|none=>false) (λj hj=>?_) (λj j' hjj hj' hb=>?_) hh (λk hk h1 h2=>h k hk (λj x hj hx=>?_) (λj x hkj hj hx=>?_))
 ·obtain ⟨x,e1,e2⟩:=at_ j hj;exact ⟨x,e2,hPa x (waH e1),by rw[e1]⟩
 ·obtain ⟨x,e1,_⟩:=at_ j xwo;obtain ⟨y,e2,_⟩:=at_ j' hj';have:=ha.at hjj (by rw[zb9 xwo];exact e1) (by rw[zb9 hj'];exact e2)
  try dsimp only at hb ⊢
  rw[e2] at hb;rw[e1];dsimp only at hb ⊢;unfold bey at hb ⊢;cases left with
  |true =>
   simp only[if_true,war] at hb ⊢;omega
  |false =>
   simp only[Bool.false_eq_true,if_false,Bool.not_eq_true',decide_eq_false_iff_not] at hb ⊢;omega
 ·have:=h1 j hj
  try dsimp only at this
  rw[hx] at this;exact this
 ·have:=h2 j hkj hj
  try dsimp only at this
  rw[hx] at this;exact this
theorem zle{kd:SortKind}{P:Keyed->Prop}{r:Keyed->Int}(C:Cp prog w A s kd P r){i sa na sb nb pw p2:Nat}{st:SortSt}{Q:Bool->SortSt->Prop}(hk:kindOf st=kd)(hf:failedOf st=none)(hP:∀ x∈(arrOf st).toList,P x)(e1:(pendingOf st)[i]? = some (sa,na,pw))(e2:(pendingOf st)[i+1]? = some (sb,nb,p2))(hsb:sb=sa+na)(hna:0<na)(hnb:0<nb)(hsz:sb+nb<=(arrOf st).size)
  (sA:Srt r (((arrOf st).toList.drop sa).take na)) (sB:Srt r (((arrOf st).toList.drop sb).take nb))
  (h:∀(arr':Array Keyed)(m:List Keyed)(g:Nat),arr'.toList=(arrOf st).toList.take sa++m++(arrOf st).toList.drop (sb+nb)->m.Perm (((arrOf st).toList.drop sa).take (na+nb))->Srt r m->Q true (SortSt.mk' (kindOf st) arr' (((pendingOf st).setIfInBounds i (sa,na+nb,pw)).eraseIdxIfInBounds (i+1)) g none)) :
  wpS (model prog w) A E s (zeX i) Q st:=by
 have at_:∀ j,j<(arrOf st).size->∃ x,(arrOf st).toList[j]? = some x/\(arrOf st)[j]? = some x/\P x:=λj hj=>by
  have e:(arrOf st).toList[j]? = some ((arrOf st)[j]'hj):=by rw[Array.getElem?_toList];exact getElem?_pos (arrOf st) j hj
  exact ⟨_,e,getElem?_pos (arrOf st) j hj,hP _ (waH e)⟩
 unfold zeX;refine waC (wpS_get ?_);have e1':(sortPriv% PySem.Builtin.SortState.pending) st=pendingOf st:=rfl;rw[e1',e1,e2];dsimp only;refine waC (ztg ?_);obtain ⟨y,y1,y2,yP⟩:=at_ sb xwo;refine waC (zau y2 (waC (zfO (a:=arrOf st) C hk yP hP sA xwo xwo λk k1 k2 k3=>?_)));dsimp only;have cut:((arrOf st).toList.drop sa).take (na+nb)=((arrOf st).toList.drop sa).take na++((arrOf st).toList.drop sb).take nb:=by rw[List.take_add,List.drop_drop,hsb]
 have whole:(arrOf st).toList=(arrOf st).toList.take sa++((arrOf st).toList.drop sa).take (na+nb)++(arrOf st).toList.drop (sb+nb):=by rw[List.append_assoc,show sb+nb=sa+(na+nb) by omega,<- List.drop_drop,List.take_append_drop,List.take_append_drop]
 have lenA:(((arrOf st).toList.drop sa).take na).length=na:=by rw[List.length_take,List.length_drop,Array.length_toList];omega
 have lenB:(((arrOf st).toList.drop sb).take nb).length=nb:=by rw[List.length_take,List.length_drop,Array.length_toList];omega
 have hy0:(((arrOf st).toList.drop sb).take nb)[0]? = some y:=by rw[zb9 hnb];exact y1
 have k2':∀ j z,j<k->(((arrOf st).toList.drop sa).take na)[j]? = some z->r z<=r y:=λj z hj hz=>by rw[zb9 xwo] at hz;have:=k2 j z hj hz;unfold bey at this;simp only[Bool.false_eq_true,if_false,Bool.not_eq_true',decide_eq_false_iff_not] at this;omega
 have k3':∀ j z,k<=j->j<na->(arrOf st).toList[sa+j]? = some z->r y<r z:=λj z hj hj' hz=>by have:=k3 j z hj hj' hz;unfold bey at this;simp only[Bool.false_eq_true,if_false,Bool.not_eq_false',war] at this;exact this
 obtain ⟨x,x1,x2,xP⟩:=at_ (sa+na-1) xwo;have hx0:(((arrOf st).toList.drop sa).take na)[(((arrOf st).toList.drop sa).take na).length-1]? = some x:=by rw[lenA,zb9 xwo,show sa+(na-1)=sa+na-1 by omega];exact x1
 have same:∀ q,(∀ j z,q<=j->(((arrOf st).toList.drop sb).take nb)[j]? = some z->r x<=r z)->(k=na\/q=0)->q<=nb->Q true (SortSt.mk' (kindOf st) (arrOf st) (((pendingOf st).setIfInBounds i (sa,na+nb,pw)).eraseIdxIfInBounds (i+1)) (gallopOf st) (failedOf st)):=λq hq e hqn=>by
  have hm:Mgd r ((((arrOf st).toList.drop sa).take na).drop k) ((((arrOf st).toList.drop sb).take nb).take q) ((((arrOf st).toList.drop sa).take na).drop k++(((arrOf st).toList.drop sb).take nb).take q):=by
   refine ⟨.refl _,?_⟩;rcases e with e|e
   ·rw[List.drop_eq_nil_iff.mpr xwo,List.nil_append];exact sB.take q
   ·subst e;rw[List.take_zero,List.append_nil];exact sA.drop k
  have g:=glue sA sB hy0 hx0 k2' hq hm;rw[List.append_assoc,List.take_append_drop,<- List.append_assoc,List.take_append_drop,<- cut] at g;have:=h (arrOf st) _ (gallopOf st) whole (.refl _) g.2;rw[<- hf] at this;exact this
 refine zam (λc1=>?_) (λc1=>?_)
 ·have:=beq_iff_eq.mp c1;exact waD (same nb (λj z hj hz=>absurd (wam.mp hz).1 xwo) (.inl xwo) (wal _))
 rw[beq_iff_eq] at c1;rw[show sa+k+(na-k)-1=sa+na-1 by omega];refine waC (zau x2 (waC (zfO (a:=arrOf st) C hk xP hP sB xwo xwo λq q1 q2 q3=>?_)));dsimp only;have q2':∀ j z,j<q->(arrOf st).toList[sb+j]? = some z->r z<r x:=λj z hj hz=>by have:=q2 j z hj hz;unfold bey at this;simp only[if_true,war] at this;exact this
 have q3':∀ j z,q<=j->(((arrOf st).toList.drop sb).take nb)[j]? = some z->r x<=r z:=λj z hj hz=>by have hjl:=(wam.mp hz).1;rw[zb9 xwo] at hz;have:=q3 j z hj xwo hz;unfold bey at this;simp only[if_true,decide_eq_false_iff_not] at this;omega
 refine zam (λc2=>?_) (λc2=>?_)
 ·exact waD (same q q3' (.inr (beq_iff_eq.mp c2)) q1)
 rw[beq_iff_eq] at c2;have xl:((arrOf st).extract (sa+k) sb).toList=(((arrOf st).toList.drop sa).take na).drop k:=by rw[Array.toList_extract,List.extract_eq_take_drop,List.drop_take,List.drop_drop,show sb-(sa+k)=na-k by omega]
 have yl:((arrOf st).extract sb (sb+q)).toList=(((arrOf st).toList.drop sb).take nb).take q:=by rw[zga,List.take_take,show min q nb=q by omega]
 have xs:((arrOf st).extract (sa+k) sb).size=na-k:=by rw[<- Array.length_toList,xl,List.length_drop,lenA]
 have ys:((arrOf st).extract sb (sb+q)).size=q:=by rw[<- Array.length_toList,yl,List.length_take,lenB];omega
 have px:∀ z∈((arrOf st).extract (sa+k) sb).toList,P z:=λz hz=>hP z (by rw[xl] at hz;exact List.mem_of_mem_drop (List.mem_of_mem_take (List.mem_of_mem_drop hz)));have py:∀ z∈((arrOf st).extract sb (sb+q)).toList,P z:=λz hz=>hP z (by rw[yl] at hz;exact List.mem_of_mem_drop (List.mem_of_mem_take (List.mem_of_mem_take hz)));have ax:∀ j z,((arrOf st).extract (sa+k) sb).toList[j]? = some z->r y<r z/\j<na-k:=λj z hz=>by have hl:=(wam.mp hz).1;rw[Array.length_toList,xs] at hl;rw[xl,List.getElem?_drop,zb9 xwo] at hz;exact ⟨k3' (k+j) z xwo xwo hz,hl⟩
 have ay:∀ j z,((arrOf st).extract sb (sb+q)).toList[j]? = some z->r z<r x/\(j=0->z=y):=λj z hz=>by have hl:=(wam.mp hz).1;rw[Array.length_toList,ys] at hl;rw[yl,List.getElem?_take,if_pos hl,zb9 xwo] at hz;refine ⟨q2' j z hl hz,λe=>?_⟩;subst e;rw[Nat.add_zero,y1] at hz;exact (waA hz).symm
 have lastx:∀ z,((arrOf st).extract (sa+k) sb).toList[((arrOf st).extract (sa+k) sb).size-1]? = some z->z=x:=λz hz=>by rw[xl,xs,List.getElem?_drop,zb9 xwo,show sa+(k+(na-k-1))=sa+na-1 by omega,x1] at hz;exact (waA hz).symm
 have sX:Srt r ((arrOf st).extract (sa+k) sb).toList:=by rw[xl];exact sA.drop k
 have sY:Srt r ((arrOf st).extract sb (sb+q)).toList:=by rw[yl];exact sB.take q
 have back:∀(out:Array Keyed)(g:Nat),Mgd r ((arrOf st).extract (sa+k) sb).toList ((arrOf st).extract sb (sb+q)).toList out.toList->Q true (SortSt.mk' (kindOf st) (out.toList.zipIdx.foldl (λa x=>a.setIfInBounds (sa+k+x.2) x.1) (arrOf st)) (((pendingOf st).setIfInBounds i (sa,na+nb,pw)).eraseIdxIfInBounds (i+1)) g none):=λout g hm=>by
  have ol:out.toList.length=na-k+q:=by rw[hm.1.length_eq,List.length_append,Array.length_toList,Array.length_toList,xs,ys]
  rw[xl,yl] at hm;have gl:=glue sA sB hy0 hx0 k2' q3' hm;rw[<- cut] at gl;refine h _ _ g ?_ gl.1 gl.2;rw[znv (sa+k) out.toList 0 (arrOf st) xwo,Nat.add_zero,ol];have t1:(arrOf st).toList.take (sa+k)=(arrOf st).toList.take sa++(((arrOf st).toList.drop sa).take na).take k:=by rw[List.take_take,show min k na=k by omega,List.take_add]
  have t2:(arrOf st).toList.drop (sa+k+(na-k+q))=(((arrOf st).toList.drop sb).take nb).drop q++(arrOf st).toList.drop (sb+nb):=by rw[List.drop_take,List.drop_drop,show sa+k+(na-k+q)=sb+q by omega,show sb+nb=sb+q+(nb-q) by omega,<- List.drop_drop (i:=nb-q) (j:=sb+q),List.take_append_drop]
  rw[t1,t2];simp[List.append_assoc]
 refine zam (λc3=>?_) (λc3=>?_)
 ·refine waC (zkz C hk px py sX sY (by rw[xs];omega) (by rw[ys];omega) (λx' y' hx' hy'=>?_) (λx' hx' y' hy'=>?_) (λout g hm=>?_))
  ·rw[(ay 0 y' hy').2 rfl];have:=(ax 0 x' hx').1;omega
  ·rw[lastx x' hx'];obtain ⟨j,hj⟩:=List.getElem?_of_mem hy';have:=(ay j y' hj).1;omega
  ·refine waC (wpS_modify (waC (wpS_get (waD ?_))));have:=back out g hm;rw[show (none:Option Value)=failedOf st from hf.symm] at this;have e3:((failedOf st).isNone)=true:=by rw[hf];rfl
   show Q ((failedOf st).isNone) _;rw[e3];exact this
 ·refine waC (zk2 C hk px py sX sY (by rw[xs];omega) (by rw[ys];omega) (λy' hy' x' hx'=>?_) (λx' y' hx' hy'=>?_) (λout g hm=>?_))
  ·rw[(ay 0 y' hy').2 rfl];obtain ⟨j,hj⟩:=List.getElem?_of_mem hx';have:=(ax j x' hj).1;omega
  ·rw[lastx x' hx'];have:=(ay _ y' hy').1;omega
  ·refine waC (wpS_modify (waC (wpS_get (waD ?_))));have:=back out g hm;rw[show (none:Option Value)=failedOf st from hf.symm] at this;have e3:((failedOf st).isNone)=true:=by rw[hf];rfl
   show Q ((failedOf st).isNone) _;rw[e3];exact this
end
def rk(r:Keyed->Int)(a:Array Keyed)(i:Nat):Int:=match a[i]? with
 |some x=>r x
 |none=>0
theorem zec{r:Keyed->Int}{a b:Array Keyed}{i j:Nat}(h:a[i]? = b[j]?):rk r a i=rk r b j:=by unfold rk;rw[h]
def SIn(r:Keyed->Int)(a:Array Keyed)(lo n:Nat):Prop:=∀ i j,lo<=i->i<=j->j<lo+n->rk r a i<=rk r a j
section
variable{prog:Program}{w:World}{A:Around}{E:Value->Shared->Prop}{s:Shared}
theorem zoI{kd:SortKind}{P:Keyed->Prop}{r:Keyed->Int}(C:Cp prog w A s kd P r){st:SortSt}{i j:Nat}{Q:Option Bool->SortSt->Prop}(hk:kindOf st=kd)(hP:∀ x∈(arrOf st).toList,P x)(hi:i<(arrOf st).size)(hj:j<(arrOf st).size)(q:Q (some (decide (rk r (arrOf st) i<rk r (arrOf st) j))) st):wpS (model prog w) A E s (ltAt' i j) Q st:=by
 have at_:∀ j,j<(arrOf st).size->∃ x,(arrOf st)[j]? = some x/\P x:=λj hj=>by
  have e:(arrOf st).toList[j]? = some ((arrOf st)[j]'hj):=by rw[Array.getElem?_toList];exact getElem?_pos (arrOf st) j hj
  exact ⟨_,getElem?_pos (arrOf st) j hj,hP _ (waH e)⟩
 obtain ⟨x,x1,xP⟩:=at_ i hi;obtain ⟨y,y1,yP⟩:=at_ j hj;unfold rk at q;rw[x1,y1] at q;unfold ltAt';refine waC (wpS_get ?_);exact waC (zau x1 (waC (zau y1 (C E x y st Q xP yP hk q))))
theorem zgP{kd:SortKind}{P:Keyed->Prop}{r:Keyed->Int}(C:Cp prog w A s kd P r){st:SortSt}{lo n ok:Nat}{Q:Bool->SortSt->Prop}(hk:kindOf st=kd)(hP:∀ x∈(arrOf st).toList,P x)(hn:lo+n<=(arrOf st).size)(hok:ok<=n)(h1:1<=n)(hs:SIn r (arrOf st) lo ok)
  (h:∀ a':Array Keyed,a'.Perm (arrOf st)->(∀ i,i<lo\/lo+n<=i->a'[i]? = (arrOf st)[i]?)->SIn r a' lo n->Q true (setArr st a')):wpS (model prog w) A E s (binarySort' lo n ok) Q st:=by
 unfold binarySort';refine waC (wpS_mono (Q:=λc st'=>∃ a':Array Keyed,c.1=none/\st'=setArr st a'/\a'.Perm (arrOf st)/\(∀ i,i<lo\/lo+n<=i->a'[i]? = (arrOf st)[i]?)/\SIn r a' lo n) (wpS_forRange (I:=λk c st'=>∃ a':Array Keyed,c=(none,())/\st'=setArr st a'/\a'.Perm (arrOf st)/\(∀ i,i<lo\/lo+n<=i->a'[i]? = (arrOf st)[i]?)/\SIn r a' lo k) ?_ ?_ ?_) ?_)
 ·rintro k c st' hk1 hkn ⟨a',rfl,rfl,pm,out,so⟩;have sz:a'.size=(arrOf st).size:=pm.size_eq;have hP':∀ x∈a'.toList,P x:=λx hx=>hP x ((Array.perm_iff_toList_perm.mp pm).mem_iff.mp hx)
  try dsimp only
  refine waC (wpS_mono (Q:=λc st'=>st'=setArr st a'/\∃ l rr,c=(none,l,rr)/\l<=k/\(∀ i,i<l->rk r a' (lo+i)<=rk r a' (lo+k))/\∀ i,l<=i->i<k->rk r a' (lo+k)<rk r a' (lo+i)) (wpS_forRange (I:=λt c st'=>st'=setArr st a'/\∃ l rr,c=(none,l,rr)/\l<=rr/\rr<=k/\rr-l+t<=k/\(∀ i,i<l->rk r a' (lo+i)<=rk r a' (lo+k))/\∀ i,rr<=i->i<k->rk r a' (lo+k)<rk r a' (lo+i)) ?_ ?_ ⟨rfl,0,k,rfl,xwo,xwo,xwo,λi hi=>by omega,λi hi hi'=>by omega⟩) ?_)
  ·rintro t c st2 _ ht ⟨rfl,l,rr,rfl,g1,g2,g3,g4,g5⟩;dsimp only;refine zam (λc1=>?_) (λc1=>?_)
   ·exact waD ⟨rfl,l,rr,rfl,xwo,g4,λi hi hi'=>g5 i xwo hi'⟩
   ·refine waC (zoI C (st:=setArr st a') hk hP' (show lo+k<a'.size by omega) (show lo+(l+rr) / 2<a'.size by omega) ?_);dsimp only;have ea:arrOf (setArr st a')=a':=rfl;rw[ea];by_cases hlt:rk r a' (lo+k)<rk r a' (lo+(l+rr) / 2)
    ·rw[if_pos (decide_eq_true hlt)];refine waD ⟨rfl,l,(l+rr) / 2,rfl,xwo,xwo,xwo,g4,λi hi hi'=>?_⟩;have:=so (lo+(l+rr) / 2) (lo+i) xwo xwo xwo;omega
    ·rw[if_neg (by simpa using hlt)];refine waD ⟨rfl,(l+rr) / 2+1,rr,rfl,xwo,xwo,xwo,λi hi=>?_,g5⟩;have:=so (lo+i) (lo+(l+rr) / 2) xwo xwo xwo;omega
  ·rintro c st2 ⟨rfl,l,rr,rfl,g1,g2,g3,g4,g5⟩;exact ⟨rfl,l,rr,rfl,xwo,g4,λi hi hi'=>g5 i xwo hi'⟩
  ·rintro c st2 ⟨rfl,l,rr,rfl,g1,g4,g5⟩;dsimp only;refine waC (wpS_modify ?_);have hb:∀ i,(bubble a' (lo+k) (lo+k-(lo+l)))[i]? = if i=lo+l then a'[lo+k]? else if lo+l<i/\i<=lo+k then a'[i-1]? else a'[i]? := λi=>by rw[getElem?_bubble xwo _ xwo,show lo+k-(lo+k-(lo+l))=lo+l by omega]
   refine waD ⟨bubble a' (lo+k) (lo+k-(lo+l)),rfl,rfl,(bubble_perm _ _ _).trans pm,λi hi=>?_,λi j hi hij hj=>?_⟩
   ·rw[hb i,if_neg xwo,if_neg xwo];exact out i hi
   ·have v:∀ i,lo<=i->i<lo+(k+1)->rk r (bubble a' (lo+k) (lo+k-(lo+l))) i=if i=lo+l then rk r a' (lo+k) else if lo+l<i then rk r a' (i-1) else rk r a' i:=λi h1 h2=>by
     unfold rk;rw[hb i];by_cases z1:i=lo+l
     ·rw[if_pos z1,if_pos z1]
     ·rw[if_neg z1,if_neg z1];by_cases z2:lo+l<i
      ·rw[if_pos ⟨z2,xwo⟩,if_pos z2]
      ·rw[if_neg xwo,if_neg z2]
    rw[v i hi xwo,v j xwo hj];by_cases z1:i=lo+l
    ·rw[if_pos z1];by_cases z2:j=lo+l
     ·rw[if_pos z2];exact Int.le_refl _
     ·rw[if_neg z2,if_pos xwo];have:=g5 (j-1-lo) xwo xwo;rw[show lo+(j-1-lo)=j-1 by omega] at this;omega
    ·rw[if_neg z1];by_cases z3:lo+l<i
     ·rw[if_pos z3,if_neg xwo,if_pos xwo];exact so (i-1) (j-1) xwo xwo xwo
     ·rw[if_neg z3];by_cases z2:j=lo+l
      ·rw[if_pos z2];have:=g4 (i-lo) xwo;rw[show lo+(i-lo)=i by omega] at this;exact this
      ·rw[if_neg z2];by_cases z4:lo+l<j
       ·rw[if_pos z4];exact so i (j-1) hi xwo xwo
       ·rw[if_neg z4];exact so i j hi hij xwo
 ·rintro c st' ⟨a',rfl,rfl,pm,out,so⟩;rw[show max (max ok 1) n=n by omega] at so;exact ⟨a',rfl,rfl,pm,out,so⟩
 ·refine ⟨arrOf st,rfl,rfl,.refl _,λi _=>rfl,λi j hi hij hj=>?_⟩;by_cases z:1<=ok
  ·exact hs i j hi hij xwo
  ·have:i=j:=by omega
   subst this;exact Int.le_refl _
 ·rintro ⟨c1,c⟩ st' ⟨a',e,rfl,pm,out,so⟩;dsimp only at e ⊢;subst e;exact waD (h a' pm out so)
end
def mir(a:Array Keyed)(i j:Nat):Array Keyed:=mirror a i j ((j-i) / 2)
structure Kp(b:Array Keyed)(lo hi:Nat)(a:Array Keyed):Prop where
 pm:a.Perm b
 out:∀ i,i<lo\/hi<=i->a[i]? = b[i]?
def DIn(r:Keyed->Int)(a:Array Keyed)(lo n:Nat):Prop:=∀ i j,lo<=i->i<=j->j<lo+n->rk r a j<=rk r a i
variable{r:Keyed->Int}
theorem Kp.size{b a:Array Keyed}{lo hi:Nat}(h:Kp b lo hi a):a.size=b.size:=h.pm.size_eq
theorem zjM{a:Array Keyed}{i j:Nat}(hj:j<=a.size)(k:Nat):(mir a i j)[k]? = if i<=k/\k<j then a[i+j-1-k]? else a[k]? := getElem?_mirror_all hj k
theorem Kp.mir{b a:Array Keyed}{lo hi i j:Nat}(h:Kp b lo hi a)(hi':lo<=i)(hj:j<=hi)(hs:hi<=b.size):Kp b lo hi (mir a i j) :=
 ⟨(mirror_perm _ _ _ _).trans h.pm,λk hk=>by rw[zjM (by rw[h.size];omega),if_neg xwo];exact h.out k hk⟩
theorem zfb{a:Array Keyed}{i j:Nat}(hj:j<=a.size)(he:∀ k,i<=k->k<j->rk r a k=rk r a (j-1))(k:Nat):rk r (mir a i j) k=rk r a k:=by
 by_cases z:i<=k/\k<j
 ·rw[zec (r:=r) (a:=mir a i j) (b:=a) (i:=k) (j:=i+j-1-k) (by rw[zjM hj,if_pos z]),he _ xwo xwo,he k z.1 z.2]
 ·exact zec (by rw[zjM hj,if_neg z])
theorem zgg{a:Array Keyed}{lo n:Nat}(hj:lo+n<=a.size)(h:DIn r a lo n):SIn r (mir a lo (lo+n)) lo n:=λi j hi hij hj'=>by rw[zec (r:=r) (a:=mir a lo (lo+n)) (b:=a) (i:=i) (j:=lo+(lo+n)-1-i) (by rw[zjM hj,if_pos xwo]),zec (r:=r) (a:=mir a lo (lo+n)) (b:=a) (i:=j) (j:=lo+(lo+n)-1-j) (by rw[zjM hj,if_pos xwo])];exact h _ _ xwo xwo xwo
section
variable{prog:Program}{w:World}{A:Around}{E:Value->Shared->Prop}{s:Shared}
theorem zdw{st:SortSt}{a:Array Keyed}{i j:Nat}{Q:Unit->SortSt->Prop}(h:Q () (setArr st (mir a i j))):wpS (model prog w) A E s (reverseSlice' i j) Q (setArr st a):=by rw[reverseSlice'_eq];exact wpS_modify h
theorem zi6{kd:SortKind}{P:Keyed->Prop}(C:Cp prog w A s kd P r){st:SortSt}{lo nrem:Nat}{b:Array Keyed}(eb:arrOf st=b){Q:Option Nat->SortSt->Prop}(hk:kindOf st=kd)(hP:∀ x∈b.toList,P x)(hn:lo+nrem<=b.size)(h1:1<=nrem)
  (h:∀(a:Array Keyed)(n:Nat),Kp b lo (lo+nrem) a->1<=n->n<=nrem->SIn r a lo n->Q (some n) (setArr st a)):wpS (model prog w) A E s (countRun' lo nrem) Q st:=by
 have lt:∀ a,Kp b lo (lo+nrem) a->∀ i j,i<lo+nrem->j<lo+nrem->∀{Q:Option Bool->SortSt->Prop},Q (some (decide (rk r a i<rk r a j))) (setArr st a)->wpS (model prog w) A E s (ltAt' i j) Q (setArr st a):=λa ka i j hi hj Q q =>
  zoI C (st:=setArr st a) hk (λx hx=>hP x ((Array.perm_iff_toList_perm.mp ka.pm).mem_iff.mp hx)) (show i<a.size by rw[ka.size];omega) (show j<a.size by rw[ka.size];omega) q
 have asc:∀ a,Kp b lo (lo+nrem) a->∀ n0,1<=n0->n0<=nrem->SIn r a lo n0->∀(f:Nat->Option (Option Nat)×Nat->StateT SortSt Sem (ForInStep (Option (Option Nat)×Nat))),(∀ x n,1<=n->n<nrem->∀ Q:ForInStep (Option (Option Nat)×Nat)->SortSt->Prop,Q (if rk r a (lo+n)<rk r a (lo+n-1) then .done (none,n) else .yield (none,n+1)) (setArr st a)->wpS (model prog w) A E s (f x (none,n)) Q (setArr st a)) ->
   ∀ Q:Option (Option Nat)×Nat->SortSt->Prop,(∀ n,n0<=n->n<=nrem->SIn r a lo n->(n=nrem\/rk r a (lo+n)<rk r a (lo+n-1))->Q (none,n) (setArr st a))->wpS (model prog w) A E s (forIn [n0:nrem] (none,n0) f) Q (setArr st a):=by
  intro a ka n0 h1 h2 so f hf Q hQ;refine wpS_forRange (I:=λx c st'=>st'=setArr st a/\c=(none,x)/\SIn r a lo x) ?_ ?_ ⟨rfl,rfl,so⟩
  ·rintro x c st' hx hxn ⟨rfl,rfl,so⟩;refine hf x x xwo hxn _ ?_;by_cases z:rk r a (lo+x)<rk r a (lo+x-1)
   ·rw[if_pos z];exact hQ x hx xwo so (.inr z)
   ·rw[if_neg z];refine ⟨rfl,rfl,λi j hi hij hj=>?_⟩;by_cases hjx:j<lo+x
    ·exact so i j hi hij hjx
    ·by_cases e:i=j
     ·subst e;exact Int.le_refl _
     ·have:=so i (lo+x-1) hi xwo xwo;have ej:j=lo+x:=by omega
      subst ej;omega
  ·rintro c st' ⟨rfl,rfl,so⟩;rw[show max n0 nrem=nrem by omega] at so ⊢;exact hQ nrem h2 (wal _) so (.inl rfl)
 have fstep:∀ a,Kp b lo (lo+nrem) a->∀ n,1<=n->n<nrem->∀ Q:ForInStep (Option (Option Nat)×Nat)->SortSt->Prop,Q (if rk r a (lo+n)<rk r a (lo+n-1) then .done (none,n) else .yield (none,n+1)) (setArr st a)->∀ g:Option Bool->StateT SortSt Sem (ForInStep (Option (Option Nat)×Nat)),(∀ c,g (some c)=if c=true then pure (.done (none,n)) else pure (.yield (none,n+1)))->wpS (model prog w) A E s (ltAt' (lo+n) (lo+n-1) >>= g) Q (setArr st a):=λa ka n h1 h2 Q q g hg=>by
  refine waC (lt a ka _ _ xwo xwo ?_);rw[hg];by_cases z:rk r a (lo+n)<rk r a (lo+n-1)
  ·rw[if_pos z] at q;rw[if_pos (decide_eq_true z)];exact waD q
  ·rw[if_neg z] at q;rw[if_neg (by simpa using z)];exact waD q
 have k0:Kp b lo (lo+nrem) (arrOf st):=by rw[eb];exact ⟨.refl _,λ_ _=>rfl⟩
 have s1:∀ a,SIn r a lo 1:=λa i j hi hij hj=>by
  have:i=j:=by omega
  subst this;exact Int.le_refl _
 unfold countRun';show wpS _ _ _ _ _ _ (setArr st (arrOf st));generalize arrOf st=a0 at k0 ⊢;refine waC (asc a0 k0 1 (wal _) h1 (s1 a0) _ (λx n h1 h2 Q q=>fstep a0 k0 n h1 h2 Q q _ λc=>rfl) _ λn g1 g2 so cs=>?_);dsimp only;refine zam (λc1=>?_) (λc1=>?_)
 ·exact waD (h a0 n k0 g1 g2 so)
 rw[beq_iff_eq] at c1;have cs:rk r a0 (lo+n)<rk r a0 (lo+n-1):=cs.resolve_left c1;have dstep:∀(a:Array Keyed)(x:Nat),1<=x->DIn r a lo x->rk r a (lo+x)<=rk r a (lo+x-1)->DIn r a lo (x+1):=λa x h1 dd hl i j hi hij hj=>by
  by_cases z:j<lo+x
  ·exact dd i j hi hij z
  ·by_cases e:i=j
   ·subst e;exact Int.le_refl _
   ·have:=dd i (lo+x-1) hi xwo xwo;have ej:j=lo+x:=by omega
    subst ej;omega
 refine zam (λc2=>?_) (λc2=>?_)
 ·refine waC (lt a0 k0 _ _ xwo xwo ?_);dsimp only;refine zam (λc3=>?_) (λc3=>?_)
  ·exact waD (h a0 n k0 g1 g2 so)
  have c3':¬ rk r a0 lo<rk r a0 (lo+n-1):=λz=>c3 (wat z);have eqs:∀ k,lo<=k->k<lo+n->rk r a0 k=rk r a0 (lo+n-1):=λk h h'=>by have u:=so lo k (wal _) h h';have v:=so k (lo+n-1) h xwo xwo;omega
  refine waC (zdw ?_);have sm:=zfb (r:=r) (a:=a0) (i:=lo) (j:=lo+n) (by rw[k0.size];omega) eqs;have k1:=k0.mir (i:=lo) (j:=lo+n) (wal _) xwo hn;have d1:DIn r (mir a0 lo (lo+n)) lo (n+1):=λi j hi hij hj=>by rw[sm,sm];refine dstep a0 n g1 (λi j hi hij hj=>?_) xwo i j hi hij hj;rw[eqs i hi xwo,eqs j xwo hj];exact Int.le_refl _
  generalize mir a0 lo (lo+n)=a1 at k1 d1 ⊢;refine waC (zdm ?_);refine waC (wpS_mono (Q:=λc st'=>∃ a x neq,c=(none,x,neq)/\st'=setArr st a/\Kp b lo (lo+nrem) a/\1<=x/\x<=nrem/\neq+1<=x/\DIn r a lo x/\∀ k,lo+x-(neq+1)<=k->k<lo+x->rk r a k=rk r a (lo+x-1)) (wpS_forRange (I:=λx c st'=>∃ a neq,c=(none,x,neq)/\st'=setArr st a/\Kp b lo (lo+nrem) a/\neq+1<=x/\DIn r a lo x/\∀ k,lo+x-(neq+1)<=k->k<lo+x->rk r a k=rk r a (lo+x-1)) ?_ ?_ ⟨a1,0,rfl,rfl,k1,xwo,d1,λk h h'=>by rw[show k=lo+(n+1)-1 by omega]⟩) ?_)
  ·rintro x c st' hx hxn ⟨a,neq,rfl,rfl,ka,q1,dd,ee⟩;dsimp only;have sz:=ka.size;refine waC (lt a ka (lo+x) (lo+x-1) xwo xwo ?_);dsimp only;refine zam (λc5=>?_) (λc5=>?_)
   ·have c5':=of_decide_eq_true c5;refine zam (λc6=>?_) (λc6=>?_)
    ·refine waC (zdw (waD ?_));have sm:=zfb (r:=r) (a:=a) (i:=lo+x-(neq+1)) (j:=lo+x) xwo ee;refine ⟨_,0,rfl,rfl,ka.mir xwo xwo hn,xwo,λi j hi hij hj=>?_,λk h h'=>by rw[show k=lo+(x+1)-1 by omega]⟩;rw[sm,sm];exact dstep a x xwo dd xwo i j hi hij hj
    ·exact waD ⟨a,0,rfl,rfl,ka,xwo,dstep a x xwo dd xwo,λk h h'=>by rw[show k=lo+(x+1)-1 by omega]⟩
   ·have c5':¬ rk r a (lo+x)<rk r a (lo+x-1):=λz=>c5 (wat z);refine waC (lt a ka (lo+x-1) (lo+x) xwo xwo ?_);dsimp only;refine zam (λc8=>?_) (λc8=>?_)
    ·exact waD ⟨a,x,neq,rfl,rfl,ka,xwo,xwo,q1,dd,ee⟩
    ·have c8':¬ rk r a (lo+x-1)<rk r a (lo+x):=λz=>c8 (wat z);refine waD ⟨a,neq+1,rfl,rfl,ka,xwo,dstep a x xwo dd xwo,λk h h'=>?_⟩;rw[show lo+(x+1)-1=lo+x by omega];by_cases z:k=lo+x
     ·rw[z]
     ·have:=ee k xwo xwo;omega
  ·rintro c st' ⟨a,neq,rfl,rfl,ka,q1,dd,ee⟩;rw[show max (n+1) nrem=nrem by omega] at q1 dd ee ⊢;exact ⟨a,nrem,neq,rfl,rfl,ka,h1,wal _,q1,dd,ee⟩
  ·rintro c st' ⟨a,x,neq,rfl,rfl,ka,q0,q1,q2,dd,ee⟩;dsimp only;have sz:=ka.size;refine zam (λc7=>?_) (λc7=>?_)
   ·have sm:=zfb (r:=r) (a:=a) (i:=lo+x-(neq+1)) (j:=lo+x) xwo ee;refine waC (zdw (waC (zdw ?_)));have ka':=ka.mir (i:=lo+x-(neq+1)) (j:=lo+x) xwo xwo hn;have dd':DIn r (mir a (lo+x-(neq+1)) (lo+x)) lo x:=λi j hi hij hj=>by rw[sm,sm];exact dd i j hi hij hj
    generalize mir a (lo+x-(neq+1)) (lo+x)=a2 at ka' dd' ⊢;have k3:=ka'.mir (i:=lo) (j:=lo+x) (wal _) xwo hn;have so3:=zgg (by rw[ka'.size];omega) dd';generalize mir a2 lo (lo+x)=a3 at k3 so3 ⊢;refine waC (asc a3 k3 x q0 q1 so3 _ (λy n h1 h2 Q q=>fstep a3 k3 n h1 h2 Q q _ λc=>rfl) _ λn g1 g2 so cs=>?_);exact waD (h a3 n k3 xwo g2 so)
   ·refine waC (zdw ?_);have k3:=ka.mir (i:=lo) (j:=lo+x) (wal _) xwo hn;have so3:=zgg (by rw[ka.size];omega) dd;generalize mir a lo (lo+x)=a3 at k3 so3 ⊢;refine waC (asc a3 k3 x q0 q1 so3 _ (λy n h1 h2 Q q=>fstep a3 k3 n h1 h2 Q q _ λc=>rfl) _ λn g1 g2 so cs=>?_);exact waD (h a3 n k3 xwo g2 so)
 ·have k1:=k0;have d1:DIn r a0 lo (n+1):=dstep a0 n g1 (λi j hi hij hj=>by
   have:i=j:=by omega
   subst this;exact Int.le_refl _) xwo
  generalize a0=a1 at k1 d1 ⊢;refine waC (zdm ?_);refine waC (wpS_mono (Q:=λc st'=>∃ a x neq,c=(none,x,neq)/\st'=setArr st a/\Kp b lo (lo+nrem) a/\1<=x/\x<=nrem/\neq+1<=x/\DIn r a lo x/\∀ k,lo+x-(neq+1)<=k->k<lo+x->rk r a k=rk r a (lo+x-1)) (wpS_forRange (I:=λx c st'=>∃ a neq,c=(none,x,neq)/\st'=setArr st a/\Kp b lo (lo+nrem) a/\neq+1<=x/\DIn r a lo x/\∀ k,lo+x-(neq+1)<=k->k<lo+x->rk r a k=rk r a (lo+x-1)) ?_ ?_ ⟨a1,0,rfl,rfl,k1,xwo,d1,λk h h'=>by rw[show k=lo+(n+1)-1 by omega]⟩) ?_)
  ·rintro x c st' hx hxn ⟨a,neq,rfl,rfl,ka,q1,dd,ee⟩;dsimp only;have sz:=ka.size;refine waC (lt a ka (lo+x) (lo+x-1) xwo xwo ?_);dsimp only;refine zam (λc5=>?_) (λc5=>?_)
   ·have c5':=of_decide_eq_true c5;refine zam (λc6=>?_) (λc6=>?_)
    ·refine waC (zdw (waD ?_));have sm:=zfb (r:=r) (a:=a) (i:=lo+x-(neq+1)) (j:=lo+x) xwo ee;refine ⟨_,0,rfl,rfl,ka.mir xwo xwo hn,xwo,λi j hi hij hj=>?_,λk h h'=>by rw[show k=lo+(x+1)-1 by omega]⟩;rw[sm,sm];exact dstep a x xwo dd xwo i j hi hij hj
    ·exact waD ⟨a,0,rfl,rfl,ka,xwo,dstep a x xwo dd xwo,λk h h'=>by rw[show k=lo+(x+1)-1 by omega]⟩
   ·have c5':¬ rk r a (lo+x)<rk r a (lo+x-1):=λz=>c5 (wat z);refine waC (lt a ka (lo+x-1) (lo+x) xwo xwo ?_);dsimp only;refine zam (λc8=>?_) (λc8=>?_)
    ·exact waD ⟨a,x,neq,rfl,rfl,ka,xwo,xwo,q1,dd,ee⟩
    ·have c8':¬ rk r a (lo+x-1)<rk r a (lo+x):=λz=>c8 (wat z);refine waD ⟨a,neq+1,rfl,rfl,ka,xwo,dstep a x xwo dd xwo,λk h h'=>?_⟩;rw[show lo+(x+1)-1=lo+x by omega];by_cases z:k=lo+x
     ·rw[z]
     ·have:=ee k xwo xwo;omega
  ·rintro c st' ⟨a,neq,rfl,rfl,ka,q1,dd,ee⟩;rw[show max (n+1) nrem=nrem by omega] at q1 dd ee ⊢;exact ⟨a,nrem,neq,rfl,rfl,ka,h1,wal _,q1,dd,ee⟩
  ·rintro c st' ⟨a,x,neq,rfl,rfl,ka,q0,q1,q2,dd,ee⟩;dsimp only;have sz:=ka.size;refine zam (λc7=>?_) (λc7=>?_)
   ·have sm:=zfb (r:=r) (a:=a) (i:=lo+x-(neq+1)) (j:=lo+x) xwo ee;refine waC (zdw (waC (zdw ?_)));have ka':=ka.mir (i:=lo+x-(neq+1)) (j:=lo+x) xwo xwo hn;have dd':DIn r (mir a (lo+x-(neq+1)) (lo+x)) lo x:=λi j hi hij hj=>by rw[sm,sm];exact dd i j hi hij hj
    generalize mir a (lo+x-(neq+1)) (lo+x)=a2 at ka' dd' ⊢;have k3:=ka'.mir (i:=lo) (j:=lo+x) (wal _) xwo hn;have so3:=zgg (by rw[ka'.size];omega) dd';generalize mir a2 lo (lo+x)=a3 at k3 so3 ⊢;refine waC (asc a3 k3 x q0 q1 so3 _ (λy n h1 h2 Q q=>fstep a3 k3 n h1 h2 Q q _ λc=>rfl) _ λn g1 g2 so cs=>?_);exact waD (h a3 n k3 xwo g2 so)
   ·refine waC (zdw ?_);have k3:=ka.mir (i:=lo) (j:=lo+x) (wal _) xwo hn;have so3:=zgg (by rw[ka.size];omega) dd;generalize mir a lo (lo+x)=a3 at k3 so3 ⊢;refine waC (asc a3 k3 x q0 q1 so3 _ (λy n h1 h2 Q q=>fstep a3 k3 n h1 h2 Q q _ λc=>rfl) _ λn g1 g2 so cs=>?_);exact waD (h a3 n k3 xwo g2 so)
end
variable{r:Keyed->Int}
theorem zir{a:Array Keyed}{i:Nat}{x:Keyed}(h:a.toList[i]? = some x):rk r a i=r x:=by unfold rk;rw[Array.getElem?_toList] at h;rw[h]
theorem SIn.srt{a:Array Keyed}{lo n:Nat}(h:SIn r a lo n):Srt r ((a.toList.drop lo).take n):=by
 refine List.pairwise_iff_getElem.mpr λi j hi hj hij=>?_;have hi':i<n:=by rw[List.length_take] at hi;omega
 have hj':j<n:=by rw[List.length_take] at hj;omega
 have e1:=zb9 (l:=a.toList) (i:=lo) hi';have e2:=zb9 (l:=a.toList) (i:=lo) hj';rw[List.getElem?_eq_getElem hi] at e1;rw[List.getElem?_eq_getElem hj] at e2;have:=h (lo+i) (lo+j) xwo xwo xwo;rwa [zir e1.symm,zir e2.symm] at this
theorem zsH{a:Array Keyed}{lo n:Nat}(hn:lo+n<=a.size)(h:Srt r ((a.toList.drop lo).take n)):SIn r a lo n:=λi j hi hij hj=>by
 have at_:∀ k,lo<=k->k<lo+n->∃ x,a.toList[k]? = some x/\((a.toList.drop lo).take n)[k-lo]? = some x:=λk h1 h2=>by
  have hl:k<a.toList.length:=by rw[Array.length_toList];omega
  refine ⟨_,wac hl,?_⟩;rw[zb9 xwo,show lo+(k-lo)=k by omega];exact wac hl
 obtain ⟨x,x1,x2⟩:=at_ i hi xwo;obtain ⟨y,y1,y2⟩:=at_ j xwo hj;rw[zir x1,zir y1];exact h.at xwo x2 y2
inductive zey(r:Keyed->Int)(a:Array Keyed):List (Nat×Nat×Nat)->Nat->Nat->Prop
 |nil {s:Nat}:zey r a [] s s
 |cons {s n p e:Nat} {l:List (Nat×Nat×Nat)} (h1:1<=n) (hs:SIn r a s n) (t:zey r a l (s+n) e):zey r a ((s,n,p)::l) s e
theorem zey.le{a:Array Keyed}:∀{l:List (Nat×Nat×Nat)}{s e:Nat},zey r a l s e->s+l.length<=e
 |[],_,_,.nil=>by simp
 |_::_,_,_,.cons h1 hs t=>by have:=t.le;simp;omega
theorem SIn.same{a a':Array Keyed}{lo n:Nat}(h:SIn r a lo n)(e:∀ i,lo<=i->i<lo+n->a'[i]? = a[i]?):SIn r a' lo n:=λi j hi hij hj=>by rw[zec (e i hi xwo),zec (e j xwo hj)];exact h i j hi hij hj
theorem zey.same{a a':Array Keyed}:∀{l:List (Nat×Nat×Nat)}{s e:Nat},zey r a l s e->(∀ i,s<=i->i<e->a'[i]? = a[i]?)->zey r a' l s e
 |[],_,_,.nil,_=>.nil
 |_::_,_,_,.cons h1 hs t,h=>.cons h1 (hs.same λi g1 g2=>h i g1 (by have:=t.le;omega)) (t.same λi g1 g2=>h i xwo g2)
theorem zey.split{a:Array Keyed}:∀{l m:List (Nat×Nat×Nat)}{s e:Nat},zey r a (l++m) s e->∃ k,zey r a l s k/\zey r a m k e
 |[],_,s,_,h=>⟨s,.nil,h⟩
 |_::_,_,_,_,.cons h1 hs t=>by obtain ⟨k,t1,t2⟩:=t.split;exact ⟨k,.cons h1 hs t1,t2⟩
theorem zey.join{a:Array Keyed}:∀{l m:List (Nat×Nat×Nat)}{s k e:Nat},zey r a l s k->zey r a m k e->zey r a (l++m) s e
 |[],_,_,_,_,.nil,h=>h
 |_::_,_,_,_,_,.cons h1 hs t,h=>.cons h1 hs (t.join h)
theorem zey.snoc{a:Array Keyed}{l:List (Nat×Nat×Nat)}{s e n p:Nat}(h:zey r a l s e)(h1:1<=n)(hs:SIn r a e n):zey r a (l++[(e,n,p)]) s (e+n):=h.join (.cons h1 hs .nil)
theorem zp2{p:Array (Nat×Nat×Nat)}{i:Nat}{x y:Nat×Nat×Nat}(h1:p[i]? = some x)(h2:p[i+1]? = some y)(z:Nat×Nat×Nat):p.toList=p.toList.take i++x::y::p.toList.drop (i+2)/\((p.setIfInBounds i z).eraseIdxIfInBounds (i+1)).toList=p.toList.take i++z::p.toList.drop (i+2):=by
 have g1:p.toList[i]? = some x:=by rw[Array.getElem?_toList];exact h1
 have g2:p.toList[i+1]? = some y:=by rw[Array.getElem?_toList];exact h2
 obtain ⟨l1,e1⟩:=wam.mp g1;obtain ⟨l2,e2⟩:=wam.mp g2;have d:p.toList.drop i=x::y::p.toList.drop (i+2):=by rw[List.drop_eq_getElem_cons l1,e1,List.drop_eq_getElem_cons l2,e2]
 constructor
 ·rw[<- d,List.take_append_drop]
 ·rw[Array.toList_eraseIdxIfInBounds,Array.toList_setIfInBounds,List.set_eq_take_append_cons_drop,if_pos l1,List.drop_eq_getElem_cons l2];rw[List.eraseIdx_append_of_length_le (by rw[List.length_take];omega),List.length_take,show i+1-min i p.toList.length=1 by omega];rfl
section
variable{prog:Program}{w:World}{A:Around}{E:Value->Shared->Prop}{s:Shared}
structure Sg(kd:SortKind)(r:Keyed->Int)(b:Array Keyed)(lo:Nat)(st:SortSt):Prop where
 kd:kindOf st=kd
 ok:failedOf st=none
 pm:(arrOf st).Perm b
 rs:zey r (arrOf st) (pendingOf st).toList 0 lo
theorem Sg.mergeAt{kd:SortKind}{P:Keyed->Prop}(C:Cp prog w A s kd P r){b:Array Keyed}(hP:∀ x∈b.toList,P x){lo i:Nat}{st:SortSt}{Q:Bool->SortSt->Prop}(h:Sg kd r b lo st)(hlo:lo<=b.size)(hi:i+1<(pendingOf st).size)
  (q:∀ st',Sg kd r b lo st'->(∀ j,lo<=j->(arrOf st')[j]? = (arrOf st)[j]?)->(pendingOf st').size+1=(pendingOf st).size->Q true st'):wpS (model prog w) A E s (zeX i) Q st:=by
 have sz:(arrOf st).size=b.size:=h.pm.size_eq;have e1:(pendingOf st)[i]? = some ((pendingOf st)[i]'xwo):=getElem?_pos (pendingOf st) i xwo;have e2:(pendingOf st)[i+1]? = some ((pendingOf st)[i+1]'hi):=getElem?_pos (pendingOf st) (i+1) hi;generalize (pendingOf st)[i]'xwo=x at e1;generalize (pendingOf st)[i+1]'hi=y at e2;obtain ⟨sa,na,pw⟩:=x;obtain ⟨sb,nb,p2⟩:=y;obtain ⟨d1,d2⟩:=zp2 e1 e2 (sa,na+nb,pw);have rs:=h.rs;rw[d1] at rs;obtain ⟨k,t1,t2⟩:=rs.split;cases t2 with
 |cons ha sa' t2 =>
  cases t2 with
  |cons hb sb' t3 =>
   have l3:=t3.le;refine zle C h.kd h.ok (λx hx=>hP x ((Array.perm_iff_toList_perm.mp h.pm).mem_iff.mp hx)) e1 e2 rfl xwo xwo xwo sa'.srt sb'.srt λarr' m g em pm so=>?_;have lm:m.length=na+nb:=by rw[pm.length_eq,List.length_take,List.length_drop,Array.length_toList];omega
   have lt:((arrOf st).toList.take sa).length=sa:=by rw[List.length_take,Array.length_toList];omega
   have out:∀ j,j<sa\/sa+(na+nb)<=j->arr'[j]? = (arrOf st)[j]? := λj hj=>by
    rw[<- Array.getElem?_toList,<- Array.getElem?_toList,em];rcases hj with hj|hj
    ·rw[List.append_assoc,List.getElem?_append_left xwo,List.getElem?_take,if_pos hj]
    ·rw[List.getElem?_append_right (by rw[List.length_append];omega),List.getElem?_drop,wav,lt,lm];congr 1;omega
   have ps:arr'.Perm (arrOf st):=by
    refine Array.perm_iff_toList_perm.mpr ?_;rw[em];have wh:(arrOf st).toList=(arrOf st).toList.take sa++((arrOf st).toList.drop sa).take (na+nb)++(arrOf st).toList.drop (sa+na+nb):=by rw[List.append_assoc,show sa+na+nb=sa+(na+nb) by omega,<- List.drop_drop,List.take_append_drop,List.take_append_drop]
    refine List.Perm.trans ?_ (List.Perm.of_eq wh.symm);exact (List.Perm.append_left _ pm).append_right _
   have sz':arr'.size=(arrOf st).size:=ps.size_eq;have sM:SIn r arr' sa (na+nb):=by refine zsH xwo ?_;rw[em,List.append_assoc,List.drop_append,lt,List.drop_eq_nil_iff.mpr xwo,List.nil_append,Nat.sub_self,List.drop_zero,List.take_append,lm,Nat.sub_self,List.take_zero,List.append_nil,List.take_of_length_le xwo];exact so
   refine q _ ⟨h.kd,rfl,ps.trans h.pm,?_⟩ (λj hj=>out j (.inr xwo)) ?_
   ·show zey r arr' _ 0 lo;have ep:(pendingOf (SortSt.mk' (kindOf st) arr' (((pendingOf st).setIfInBounds i (sa,na+nb,pw)).eraseIdxIfInBounds (i+1)) g none)).toList=(pendingOf st).toList.take i++(sa,na+nb,pw)::(pendingOf st).toList.drop (i+2):=d2;rw[ep];refine (t1.same λj _ hj=>out j (.inl hj)).join (.cons xwo sM ?_);rw[<- Nat.add_assoc];exact t3.same λj hj _=>out j (.inr xwo)
   ·show (((pendingOf st).setIfInBounds i (sa,na+nb,pw)).eraseIdxIfInBounds (i+1)).size+1=_;rw[<- Array.length_toList,d2,<- Array.length_toList,List.length_append,List.length_cons,List.length_take,List.length_drop];rw[<- Array.length_toList] at hi;omega
end
variable{r:Keyed->Int}
def zjn:StateT SortSt Sem Unit:=sortPriv% PySem.Builtin.sortRuns
theorem zey.modify{a:Array Keyed}{f:Nat×Nat×Nat->Nat×Nat×Nat}(hf:∀ x,(f x).1=x.1/\(f x).2.1=x.2.1):∀{l:List (Nat×Nat×Nat)}{s e:Nat}(i:Nat),zey r a l s e->zey r a (l.modify i f) s e
 |[],_,_,i,.nil=>by rw[List.modify_nil];exact .nil
 | (s,n,p)::l,_,_,0,.cons h1 hs t=>by rw[List.modify_zero_cons];obtain ⟨e1,e2⟩:=hf (s,n,p);have:f (s,n,p)=(s,n,(f (s,n,p)).2.2):=Prod.ext e1 (Prod.ext e2 rfl);rw[this];exact .cons h1 hs t
 |_::l,_,_,i+1,.cons h1 hs t=>by rw[List.modify_succ_cons];exact .cons h1 hs (zey.modify hf i t)
section
variable{prog:Program}{w:World}{A:Around}{E:Value->Shared->Prop}{s:Shared}
theorem Sg.arr{kd:SortKind}{b:Array Keyed}{lo hi:Nat}{st:SortSt}(h:Sg kd r b lo st){a:Array Keyed}(k:Kp (arrOf st) lo hi a):Sg kd r b lo (setArr st a) :=
 ⟨h.kd,h.ok,k.pm.trans h.pm,h.rs.same λi _ hi=>k.out i (.inl hi)⟩
theorem ziL{kd:SortKind}{P:Keyed->Prop}(C:Cp prog w A s kd P r){b:Array Keyed}(hP:∀ x∈b.toList,P x){st:SortSt}{Q:Unit->SortSt->Prop}(h0:Sg kd r b 0 st)(hsz:1<=b.size)
  (h:∀ st',Sg kd r b b.size st'->(pendingOf st').size<=1->Q () st'):wpS (model prog w) A E s zjn Q st:=by
 have sz:(arrOf st).size=b.size:=h0.pm.size_eq;have mloop:∀ lo,lo<=b.size->∀(st2:SortSt),Sg kd r b lo st2->∀ f:Nat->Option Unit×Unit->StateT SortSt Sem (ForInStep (Option Unit×Unit)),(∀ x st',Sg kd r b lo st'->∀ Q:ForInStep (Option Unit×Unit)->SortSt->Prop,Q (.done (none,())) st'->((pendingOf st').size > 1->wpS (model prog w) A E s (zeX ((pendingOf st').size-2)) (λok st''=>Q (if ok=true then .yield (none,()) else .done (some (),())) st'') st')->wpS (model prog w) A E s (f x (none,())) Q st') ->
   ∀ Q:Option Unit×Unit->SortSt->Prop,(∀ st',Sg kd r b lo st'->(∀ j,lo<=j->(arrOf st')[j]? = (arrOf st2)[j]?)->Q (none,()) st')->wpS (model prog w) A E s (forIn [:b.size] (none,()) f) Q st2:=by
  intro lo hlo st2 S2 f hf Q hQ;refine wpS_forRange (I:=λ_ c st'=>c=(none,())/\Sg kd r b lo st'/\∀ j,lo<=j->(arrOf st')[j]? = (arrOf st2)[j]?) ?_ ?_ ⟨rfl,S2,λ_ _=>rfl⟩
  ·rintro t c st' _ _ ⟨rfl,S,keep⟩;refine hf t st' S _ (hQ st' S keep) λg=>?_;exact S.mergeAt C hP hlo xwo λst'' S' k' _=>⟨rfl,S',λj hj=>(k' j hj).trans (keep j hj)⟩
  ·rintro c st' ⟨rfl,S,keep⟩;exact hQ st' S keep
 unfold zjn;refine waC (wpS_get ?_);have ez:((sortPriv% PySem.Builtin.SortState.a) st).size=b.size:=sz;rw[ez];refine waC (wpS_mono (Q:=λc st'=>c.1=none/\Sg kd r b b.size st') (wpS_forRange (I:=λt c st'=>∃ lo,c=(none,lo)/\Sg kd r b lo st'/\lo<=b.size/\t<=lo) ?_ ?_ ⟨0,rfl,h0,xwo,xwo⟩) ?_)
 ·rintro t c st1 _ ht ⟨lo,rfl,S1,hlo,htl⟩;dsimp only;refine zam (λc1=>?_) (λc1=>?_)
  ·have:lo=b.size:=by omega
   subst this;exact waD ⟨rfl,S1⟩
  have z1:(arrOf st1).size=b.size:=S1.pm.size_eq;have p1:∀ x∈(arrOf st1).toList,P x:=λx hx=>hP x ((Array.perm_iff_toList_perm.mp S1.pm).mem_iff.mp hx);refine waC (zi6 C rfl S1.kd p1 xwo xwo λa n ka n1 n2 so=>?_);dsimp only;have S2:=S1.arr ka;have za:=ka.size;refine zam (λc2=>?_) (λc2=>?_)
  ·refine waC (zdm ?_);have hF1:=Nat.le_min.mpr ⟨n2,Nat.le_of_lt c2⟩;have hF2:=Nat.min_le_left (b.size-lo) ((sortPriv% PySem.Builtin.minRun) b.size b.size 0);generalize min (b.size-lo) ((sortPriv% PySem.Builtin.minRun) b.size b.size 0)=N at hF1 hF2 ⊢;refine waC (zgP C (st:=setArr st1 a) S2.kd (λx hx=>p1 x ((Array.perm_iff_toList_perm.mp ka.pm).mem_iff.mp hx)) (show lo+N<=a.size by omega) hF1 xwo so λa' pm out so3=>?_);refine zam (λc3=>absurd c3 xws) (λ_=>?_);have S3:=S2.arr ⟨pm,out⟩;have so3:SIn r (arrOf (setArr (setArr st1 a) a')) lo N:=so3;have hN1:1<=N:=by omega
   generalize setArr (setArr st1 a) a'=st2 at S3 so3 ⊢;refine waC (wpS_get ?_);cases hb:(pendingOf st2).back? with
   |none =>
    dsimp only;refine waC (wpS_modify (waD ⟨lo+N,rfl,⟨S3.kd,S3.ok,S3.pm,?_⟩,xwo,xwo⟩));show zey r (arrOf st2) ((pendingOf st2).push (lo,N,0)).toList 0 (lo+N);rw[Array.toList_push];exact S3.rs.snoc hN1 so3
   |some v =>
    obtain ⟨s1,m1,pp⟩:=v;dsimp only;refine waC (mloop lo hlo st2 S3 _ (λx st' S Q q1 q2=>?_) _ λst' S keep=>?_)
    ·refine waC (wpS_get ?_);by_cases g:(pendingOf st').size > 1
     ·have eg:(pendingOf st')[(pendingOf st').size-2]? = some ((pendingOf st')[(pendingOf st').size-2]'xwo):=getElem?_pos (pendingOf st') _ xwo;rw[if_pos g,eg];dsimp only;refine zam (λ_=>waD q1) (λ_=>waC (wpS_mono (q2 g) λok st'' hq=>?_));cases ok with
      |true=>exact waD hq
      |false=>exact waD hq
     ·rw[if_neg g];exact waD q1
    ·dsimp only;refine waC (wpS_modify (waC (wpS_modify (waD ⟨lo+N,rfl,⟨S.kd,S.ok,S.pm,?_⟩,xwo,xwo⟩))));show zey r (arrOf st') (((pendingOf st').modify ((pendingOf st').size-1) _).push (lo,N,0)).toList 0 (lo+N);rw[Array.toList_push,Array.toList_modify];refine zey.snoc (zey.modify ?_ _ S.rs) hN1 (so3.same λi h1 h2=>keep i h1);exact λx=>⟨rfl,rfl⟩
  ·have S3:=S2;have so3:SIn r (arrOf (setArr st1 a)) lo n:=so;have hN1:1<=n:=n1;generalize setArr st1 a=st2 at S3 so3 ⊢;refine waC (wpS_get ?_);cases hb:(pendingOf st2).back? with
   |none =>
    dsimp only;refine waC (wpS_modify (waD ⟨lo+n,rfl,⟨S3.kd,S3.ok,S3.pm,?_⟩,xwo,xwo⟩));show zey r (arrOf st2) ((pendingOf st2).push (lo,n,0)).toList 0 (lo+n);rw[Array.toList_push];exact S3.rs.snoc hN1 so3
   |some v =>
    obtain ⟨s1,m1,pp⟩:=v;dsimp only;refine waC (mloop lo hlo st2 S3 _ (λx st' S Q q1 q2=>?_) _ λst' S keep=>?_)
    ·refine waC (wpS_get ?_);by_cases g:(pendingOf st').size > 1
     ·have eg:(pendingOf st')[(pendingOf st').size-2]? = some ((pendingOf st')[(pendingOf st').size-2]'xwo):=getElem?_pos (pendingOf st') _ xwo;rw[if_pos g,eg];dsimp only;refine zam (λ_=>waD q1) (λ_=>waC (wpS_mono (q2 g) λok st'' hq=>?_));cases ok with
      |true=>exact waD hq
      |false=>exact waD hq
     ·rw[if_neg g];exact waD q1
    ·dsimp only;refine waC (wpS_modify (waC (wpS_modify (waD ⟨lo+n,rfl,⟨S.kd,S.ok,S.pm,?_⟩,xwo,xwo⟩))));show zey r (arrOf st') (((pendingOf st').modify ((pendingOf st').size-1) _).push (lo,n,0)).toList 0 (lo+n);rw[Array.toList_push,Array.toList_modify];refine zey.snoc (zey.modify ?_ _ S.rs) hN1 (so3.same λi h1 h2=>keep i h1);exact λx=>⟨rfl,rfl⟩
 ·rintro c st' ⟨lo,rfl,S,g1,g2⟩;have:lo=b.size:=by omega
  subst this;exact ⟨rfl,S⟩
 ·rintro ⟨c1,c⟩ st' ⟨e,S⟩;dsimp only at e ⊢;subst e;dsimp only;refine waC (wpS_mono (Q:=λc st'=>c.1=none/\Sg kd r b b.size st'/\(pendingOf st').size<=1) (wpS_forRange (I:=λt c st'=>c=(none,())/\Sg kd r b b.size st'/\((pendingOf st').size<=1\/(pendingOf st').size+t<=b.size+1)) ?_ ?_ ⟨rfl,S,.inr (by have:=S.rs.le;rw[Array.length_toList] at this;omega)⟩) ?_)
  ·rintro t c st1 _ ht ⟨rfl,S1,g⟩;refine waC (wpS_get ?_);refine zam (λc1=>?_) (λc1=>?_)
   ·exact waD ⟨rfl,S1,c1⟩
   have c1':¬ (pendingOf st1).size<=1:=c1;have yes:∀ i,i+1<(pendingOf st1).size->∀ g:Bool->StateT SortSt Sem (ForInStep (Option Unit×Unit)),g true=pure (.yield (none,()))->∀ Q:ForInStep (Option Unit×Unit)->SortSt->Prop,(∀ st'',Sg kd r b b.size st''->(pendingOf st'').size+1=(pendingOf st1).size->Q (.yield (none,())) st'')->wpS (model prog w) A E s (zeX i >>= g) Q st1:=λi hi g hg Q hQ=>by refine waC (S1.mergeAt C hP (wal _) hi λst'' S' _ e=>?_);rw[hg];exact waD (hQ st'' S' e)
   refine yes _ ?_ _ ?_ _ λst'' S' e=>⟨rfl,S',xwo⟩
   rotate_left
   ·rfl
   have two:∀(c:Prop) [Decidable c] (n:Nat),¬ n<=1->(if c then n-2-1 else n-2)+1<n:=λc _ n hn=>by split <;> omega
   exact two _ _ c1'
  ·rintro c st1 ⟨rfl,S1,g⟩;exact ⟨rfl,S1,xwo⟩
  ·rintro ⟨c1,c⟩ st1 ⟨e,S1,g⟩;dsimp only at e ⊢;subst e;exact waD (h st1 S1 g)
end
section
variable{prog:Program}{w:World}{A:Around}{E:Value->Shared->Prop}{s:Shared}{r:Keyed->Int}
theorem zmV{kd:SortKind}{PK:Keyed->Prop}{x:Addr}{vs:List Value}{n:Nat}{P:Fin->Shared->Prop}(ho:s.heap.get? x=some (seqObj "list" vs.toArray n))(h2:2<=vs.length)(hz:vs.length<=sizeLine)
  (hkk:∀(h':Heap),(∀ b o,b≠x->s.heap.get? b=some o->h'.get? b=some o)->∀(Q:SortKind->Shared->Prop)(E:Value->Shared->Prop),Q kd { s with heap:=h' }->wpAny (model prog w) A (keyKind' vs.toArray) Q E { s with heap:=h' })
  (C:∀(h':Heap),(∀ b o,b≠x->s.heap.get? b=some o->h'.get? b=some o)->Cp prog w A { s with heap:=h' } kd PK r) (hP:∀ p∈(pairsOf vs).toList,PK p)
  (h:∀ out:Array Keyed,out.Perm (pairsOf vs)->SIn r out 0 vs.length->P (.done (.ret .none)) { s with heap:=sortedHeap s.heap x vs (out.map (·.2)) }) :
  wpAny (model prog w) A (Builtin.«list.sort» ⟨[.ref x],[]⟩) P E s:=by
 have hx:=wai ho;have hn2:¬ vs.toArray.size<2:=by rw[List.size_toArray];omega
 rw[list_sort_plain];refine wab (listItems_at ho rfl (wab (listUpdate_at ho rfl ?_)));have g1:=get?_update_seq ho λ_=>(#[]:Array Value)
 have keep:∀ b o,b≠x->s.heap.get? b=some o->(s.heap.update x (Obj.mapSeq λ_=>#[])).get? b=some o:=λb o hb e=>((Heap.SameBut.update s.heap x (Obj.mapSeq λ_=>#[])).2 b hb).trans e;refine wab (seqEpoch_at g1 rfl (wab (wpAny_newTuple (wab (wpAny_newList (wpAny_holding ?_))))));have k6:∀ b o,b≠x->s.heap.get? b=some o->(((s.heap.update x (Obj.mapSeq λ_=>#[])).push (seqObj "tuple" vs.toArray 0)).push (seqObj "list" #[] 0)).get? b=some o:=λb o hb e=>waa _ (waa _ (keep b o hb e));have g6:=waa (seqObj "list" #[] 0) (waa (seqObj "tuple" vs.toArray 0) g1);have hps:(pairsOf vs).size=vs.length:=pairsOf_size vs;show wpAny _ A _ P E { s with heap:=((s.heap.update x (Obj.mapSeq λ_=>#[])).push (seqObj "tuple" vs.toArray 0)).push (seqObj "list" #[] 0) };dsimp only;rw[if_neg hn2];refine wab (hkk _ k6 _ _ ?_);rw[if_neg hn2];have run:=ziL (E:=E) (C _ k6) hP (st:=SortSt.mk' kd (pairsOf vs) #[] 7 none) (Q:=λ_ st'=>Sg kd r (pairsOf vs) (pairsOf vs).size st'/\(pendingOf st').size<=1) ⟨rfl,rfl,.refl _,.nil⟩ xwo λst' S p=>⟨S,p⟩
 refine wab (wpAny_mono run ?_ λ_ _ e=>e);rintro ⟨⟨⟩,st'⟩ s' ⟨rfl,S,hp⟩;dsimp only at S hp ⊢;have so:SIn r (arrOf st') 0 vs.length:=by
  have rs:=S.rs;rw[hps] at rs;cases hl:(pendingOf st').toList with
  |nil =>
   rw[hl] at rs;generalize hv:vs.length=L at rs h2;cases rs;omega
  |cons p q =>
   have hq:q=[]:=by have:=congrArg List.length hl;rw[Array.length_toList,List.length_cons] at this;exact List.length_eq_zero_iff.mp xwo
   subst hq;rw[hl] at rs;generalize hv:vs.length=L at rs h2 ⊢;cases rs with
   |cons h1 hs t =>
    cases t;rw[Nat.zero_add];exact hs
 refine wab (seqEpoch_at g6 rfl (wab (listUpdate_at g6 rfl ?_ (hsz2:=by rw[Array.size_map,S.pm.size_eq,hps];exact Nat.le_succ_of_le hz))));rw[S.ok];simp only[bne_self_eq_false,Bool.false_eq_true,if_false];exact wad (h (arrOf st') S.pm so)
end
section
variable{prog:Program}{w:World}{A:Around}{E:Value->Shared->Prop}{s:Shared}{r:Keyed->Int}
theorem zjD{kd:SortKind}{PK:Keyed->Prop}{l:Addr}{vs:List Value}{Q:Value->Shared->Prop}(hl:s.heap.IsList l vs.toArray)(h2:2<=vs.length)(hz:vs.length<=sizeLine)
  (hkk:∀(A:Around)(h':Heap),(∀ b o,s.heap.get? b=some o->h'.get? b=some o)->∀(Q:SortKind->Shared->Prop)(E:Value->Shared->Prop),Q kd { s with heap:=h' }->wpAny (model prog w) A (keyKind' vs.toArray) Q E { s with heap:=h' })
  (C:∀(h':Heap),(∀ b o,s.heap.get? b=some o->h'.get? b=some o)->Cp prog w A.in1.in1 { s with heap:=h' } kd PK r) (hP:∀ p∈(pairsOf vs).toList,PK p)
  (h:∀ out:Array Keyed,out.Perm (pairsOf vs)->SIn r out 0 vs.length->Q (.ref (s.heap.objs.size+1)) { s with heap:=sortedAll s.heap vs (out.map (·.2)) }) :
  wpAny (model prog w) A (call (.builtin "sorted") [.ref l]) Q E s:=by
 have keep0:∀ b o,s.heap.get? b=some o->(((s.heap.push (seqObj "list" #[] 0)).update s.heap.objs.size (Obj.mapSeq (·++vs.toArray))).push (seqObj "list" vs.toArray 0)).get? b=some o:=λb o e=>waa _ (((Heap.SameBut.update (s.heap.push (seqObj "list" #[] 0)) s.heap.objs.size (Obj.mapSeq (·++vs.toArray))).2 b (waM (wai e))).trans (waa _ e));have zz:((s.heap.push (seqObj "list" #[] 0)).update s.heap.objs.size (Obj.mapSeq (·++vs.toArray))).objs.size=s.heap.objs.size+1:=(Heap.size_update ..).trans (size_push' ..);have ff:(((s.heap.push (seqObj "list" #[] 0)).update s.heap.objs.size (Obj.mapSeq (·++vs.toArray))).push (seqObj "list" vs.toArray 0)).get? ((s.heap.push (seqObj "list" #[] 0)).update s.heap.objs.size (Obj.mapSeq (·++vs.toArray))).objs.size=some (seqObj "list" vs.toArray 0):=waj _ rfl;rw[zz] at ff;refine Calls.call_function_entry kind_sorted plain_sorted entry_sorted (args_sorted1 (.ref l)) (by unfold Builtin.«sorted»;refine wab (m:=checkCount "sorted" 1 1 _) (wad (wab (collect_list hl (wab (wpAny_newList ?_ hz)))));show wpAny _ _ _ _ _ { s with heap:=((s.heap.push (seqObj "list" #[] 0)).update s.heap.objs.size (Obj.mapSeq (·++vs.toArray))).push (seqObj "list" vs.toArray 0) };rw[zz];refine wab (wpAny_holding (wpAny_call_entry slot_list_sort ⟨_,ff,rfl⟩ entry_list_sort (zmV (kd:=kd) (PK:=PK) (r:=r) ff h2 hz (λh' k=>hkk _ h' λb o e=>k b o (λz=>absurd (wai e) (by rw[z];exact Nat.not_lt.mpr (Nat.le_succ _))) (keep0 b o e)) (λh' k=>C h' λb o e=>k b o (λz=>absurd (wai e) (by rw[z];exact Nat.not_lt.mpr (Nat.le_succ _))) (keep0 b o e)) hP λout pm so=>⟨_,rfl,wad ⟨_,rfl,h out pm so⟩⟩) (args_list_sort _))))
end
end Ts
end
section
namespace Ts
open PySem PySem.W PyProof.Rows
inductive IL:List Value->List Int->Prop
 |nil:IL [] []
 |cons {a:Int} {t:Tok} {vs:List Value} {l:List Int} (h:IL vs l):IL (.int a t::vs) (a::l)
theorem IL.len{vs:List Value}{l:List Int}(h:IL vs l):vs.length=l.length:=by
 induction h with
 |nil=>rfl
 |cons h ih=>simp[ih]
def lxB:List Int->List Int->Bool
 |[],[]=>false
 |[],_::_=>true
 |_::_,[]=>false
 |x::xs,y::ys=>if x=y then lxB xs ys else decide (x<y)
section
variable{prog:Program}{w:World}{A:Around}{E:Value->Shared->Prop}{s:Shared}
theorem zpE{c:Bool}{a b:Int}{t u:Tok}{Q:Bool->Shared->Prop}(h:Q (decide (a<b)) s):wpAny (model prog w) A (oneLt' c (.int a t) (.int b u)) Q E s:=by
 cases c with
 |true=>exact oneLt_int h
 |false =>
  rw[oneLt'_eq];simp only[Bool.false_eq_true,if_false];exact wab (richCompare_gives (op:=.Lt) (typeIs_int s _ t) (typeIs_int s _ u) PySem.F.slot_int_lt PySem.F.entry_int_lt (PySem.F.args_int_lt_2 _ _) (gives_int_lt _ _ t u) (λx=>nomatch x) (wpAny_truthy_bool h))
theorem zpA{c:Bool}{Q:Bool->Shared->Prop}{xs:List Value}{l:List Int}(hx:IL xs l):∀{ys:List Value}{m:List Int}{i:Nat}{fin:Bool},IL ys m->fin=decide (l.length<m.length)->Q (lxB l m) s->KatLex prog w A c fin Q (xs.zip ys) i s:=by
 induction hx with
 |nil =>
  intro ys m i fin hy hf q;rw[List.zip_nil_left];refine kat_nil ?_;cases hy with
  |nil=>rw[hf];exact q
  |cons h=>rw[hf];simpa [lxB] using q
 |@cons a t vs l h ih =>
  intro ys m i fin hy hf q;cases hy with
  |nil=>rw[List.zip_nil_right];refine kat_nil ?_;rw[hf];simpa [lxB] using q
  |@cons b u ws k h' =>
   rw[List.zip_cons_cons];refine kat_cons (wpAny_eqBool_int (kat_go (λe=>kat_yes (ih h' (by rw[hf];simp) ?_)) λe=>kat_no (zpE ?_)))
   ·rw[beq_iff_eq] at e;unfold lxB at q;rw[if_pos e] at q;exact q
   ·have e':¬ a=b:=by simpa using e
    unfold lxB at q;rw[if_neg e'] at q;exact q
theorem zkC{c:Bool}{st:SortSt}{p q:Keyed}{x y:Addr}{ox oy:Obj}{xs ys:Array Value}{n k:Nat}{l m:List Int}{Q:Option Bool->SortSt->Prop}(hk:kindOf st=tuples' c)(px:p.1=.ref x)(py:q.1=.ref y)(hx:s.heap.get? x=some ox)(dx:ox.data=.seq xs n)(hy:s.heap.get? y=some oy)(dy:oy.data=.seq ys k)(ix:IL xs.toList l)(iy:IL ys.toList m)
  (h:Q (some (lxB l m)) st):wpS (model prog w) A E s (lt' p q) Q st:=by
 rw[lt'_eq];refine waC (wpS_get ?_);rw[hk,px,py];refine waC (wpS_lift (wpAny_attempt (kat_lt hx dx hy dy (zpA ix iy ?_ ⟨rfl,?_⟩))))
 ·rw[<- ix.len,<- iy.len,Array.length_toList,Array.length_toList]
 ·exact waD h
end
theorem lxB_irr:∀ a:List Int,lxB a a=false
 |[]=>rfl
 |x::xs=>by unfold lxB;rw[if_pos rfl];exact lxB_irr xs
theorem lxB_tr:∀{a b c:List Int},lxB a b=true->lxB b c=true->lxB a c=true
 |[],[],_,h,_=>by cases h
 |[],_::_,[],_,h=>by cases h
 |[],_::_,_::_,_,_=>rfl
 |_::_,[],_,h,_=>by cases h
 |_::_,_::_,[],_,h=>by cases h
 |x::xs,y::ys,z::zs,h,h'=>by
  unfold lxB at h h' ⊢;by_cases e1:x=y
  ·subst e1;rw[if_pos rfl] at h;by_cases e2:x=z
   ·rw[if_pos e2] at h' ⊢;exact lxB_tr h h'
   ·rw[if_neg e2] at h' ⊢;exact h'
  ·rw[if_neg e1,decide_eq_true_eq] at h;by_cases e2:y=z
   ·subst e2;rw[if_neg e1,decide_eq_true_eq];exact h
   ·rw[if_neg e2,decide_eq_true_eq] at h';rw[if_neg xwo,decide_eq_true_eq];omega
theorem lxB_tot:∀{a b:List Int},lxB a b=false->lxB b a=false->a=b
 |[],[],_,_=>rfl
 |[],_::_,h,_=>by cases h
 |_::_,[],_,h=>by cases h
 |x::xs,y::ys,h,h'=>by
  unfold lxB at h h';by_cases e1:x=y
  ·subst e1;rw[if_pos rfl] at h h';rw[lxB_tot h h']
  ·rw[if_neg e1,decide_eq_false_iff_not] at h;rw[if_neg (Ne.symm e1),decide_eq_false_iff_not] at h';omega
theorem zkh{α:Type}{p q:α->Bool}(hpq:∀ x,p x=true->q x=true):∀{L:List α},(L.filter p).length<=(L.filter q).length/\(∀ a∈L,q a=true->p a=false->(L.filter p).length<(L.filter q).length)
 |[]=>⟨wal _,λa h=>by cases h⟩
 |x::L=>by
  obtain ⟨h1,h2⟩:=zkh (p:=p) (q:=q) hpq (L:=L);cases hp:p x with
  |true =>
   have hq:=hpq x hp;rw[List.filter_cons_of_pos hp,List.filter_cons_of_pos hq,List.length_cons,List.length_cons];refine ⟨xwo,λa ha qa pa=>?_⟩;rcases wap.mp ha with z|z
   ·subst z;rw[hp] at pa;cases pa
   ·have:=h2 a z qa pa;omega
  |false =>
   rw[List.filter_cons_of_neg (by rw[hp];simp)];cases hq:q x with
   |true =>
    rw[List.filter_cons_of_pos hq,List.length_cons];exact ⟨xwo,λa ha qa pa=>by omega⟩
   |false =>
    rw[List.filter_cons_of_neg (by rw[hq];simp)];refine ⟨h1,λa ha qa pa=>?_⟩;rcases wap.mp ha with z|z
    ·subst z;rw[hq] at qa;cases qa
    ·exact h2 a z qa pa
def zsp(Ls:List (List Int))(a:List Int):Int:=((Ls.filter λl=>lxB l a).length:Nat)
theorem znN{Ls:List (List Int)}{a b:List Int}(ha:a∈Ls)(h:lxB a b=true):zsp Ls a<zsp Ls b:=by have:=(zkh (p:=λl=>lxB l a) (q:=λl=>lxB l b) (λx hx=>lxB_tr hx h) (L:=Ls)).2 a ha h (lxB_irr a);unfold zsp;omega
theorem zoG{Ls:List (List Int)}{a b:List Int}(ha:a∈Ls)(hb:b∈Ls):decide (zsp Ls a<zsp Ls b)=lxB a b:=by
 cases h:lxB a b with
 |true=>exact wat (znN ha h)
 |false =>
  refine waw λz=>?_;cases h':lxB b a with
  |true=>have:=znN hb h';omega
  |false=>rw[lxB_tot h h'] at z;omega
section
variable{prog:Program}{w:World}{A:Around}{s:Shared}
theorem zsn{c:Bool}{tk:Keyed->List Int}{Ls:List (List Int)}:Cp prog w A s (tuples' c) (λp=>tk p∈Ls/\∃ x o xs n,p.1=.ref x/\s.heap.get? x=some o/\o.data=.seq xs n/\IL xs.toList (tk p)) (λp=>zsp Ls (tk p)):=by intro E p q st Q hp hq hk h;obtain ⟨m1,x,o,xs,n,e1,e2,e3,e4⟩:=hp;obtain ⟨m2,y,o',ys,k,g1,g2,g3,g4⟩:=hq;refine zkC hk e1 g1 e2 e3 g2 g3 e4 g4 ?_;rw[<- zoG m1 m2];exact h
end
section
variable{prog:Program}{w:World}{A:Around}{E:Value->Shared->Prop}{s:Shared}
theorem zjE(vs:List Value):(pairsOf vs).map (·.2)=vs.toArray:=by
 unfold pairsOf;apply Array.ext
 ·simp
 ·intro i h1 h2;simp
theorem zqh{x:Addr}{vs:List Value}{n:Nat}{P:PySem.Fin->Shared->Prop}(ho:s.heap.get? x=some (seqObj "list" vs.toArray n))(h2:vs.length<2)
  (h:P (.done (.ret .none)) { s with heap:=sortedHeap s.heap x vs vs.toArray }) :
  wpAny (model prog w) A (Builtin.«list.sort» ⟨[.ref x],[]⟩) P E s:=by
 have hn2:vs.toArray.size<2:=by rw[List.size_toArray];exact h2
 rw[list_sort_plain];refine wab (listItems_at ho rfl (wab (listUpdate_at ho rfl ?_)));have g1:=get?_update_seq ho λ_=>(#[]:Array Value)
 refine wab (seqEpoch_at g1 rfl (wab (wpAny_newTuple (wab (wpAny_newList (wpAny_holding ?_))))));have g6:=waa (seqObj "list" #[] 0) (waa (seqObj "tuple" vs.toArray 0) g1);show wpAny _ A _ P E { s with heap:=((s.heap.update x (Obj.mapSeq λ_=>#[])).push (seqObj "tuple" vs.toArray 0)).push (seqObj "list" #[] 0) };dsimp only;rw[if_pos hn2];refine wab (wad ?_);rw[if_pos hn2,StateT.run_pure];refine wab (wad (wab (seqEpoch_at g6 rfl (wab (listUpdate_at g6 rfl ?_ (hsz2:=by rw[Array.size_map];show (pairsOf vs).size<=_;rw[pairsOf_size,sizeLine_eq];omega))))));simp only[bne_self_eq_false,Bool.false_eq_true,if_false];refine wad ?_;have h':P (.done (.ret .none)) { s with heap:=sortedHeap s.heap x vs ((pairsOf vs).map (·.2)) }:=by rw[zjE];exact h
 exact h'
theorem zmz{l:Addr}{vs:List Value}{Q:Value->Shared->Prop}(hl:s.heap.IsList l vs.toArray)(h2:vs.length<2)(h:Q (.ref (s.heap.objs.size+1)) { s with heap:=sortedAll s.heap vs vs.toArray }) :
  wpAny (model prog w) A (call (.builtin "sorted") [.ref l]) Q E s:=by
 have hz:vs.length<=sizeLine:=by rw[sizeLine_eq];omega
 have zz:((s.heap.push (seqObj "list" #[] 0)).update s.heap.objs.size (Obj.mapSeq (·++vs.toArray))).objs.size=s.heap.objs.size+1:=(Heap.size_update ..).trans (size_push' ..);have ff:(((s.heap.push (seqObj "list" #[] 0)).update s.heap.objs.size (Obj.mapSeq (·++vs.toArray))).push (seqObj "list" vs.toArray 0)).get? ((s.heap.push (seqObj "list" #[] 0)).update s.heap.objs.size (Obj.mapSeq (·++vs.toArray))).objs.size=some (seqObj "list" vs.toArray 0):=waj _ rfl;rw[zz] at ff;refine Calls.call_function_entry kind_sorted plain_sorted entry_sorted (args_sorted1 (.ref l)) (by unfold Builtin.«sorted»;refine wab (m:=checkCount "sorted" 1 1 _) (wad (wab (collect_list hl (wab (wpAny_newList ?_ hz)))));show wpAny _ _ _ _ _ { s with heap:=((s.heap.push (seqObj "list" #[] 0)).update s.heap.objs.size (Obj.mapSeq (·++vs.toArray))).push (seqObj "list" vs.toArray 0) };rw[zz];refine wab (wpAny_holding (wpAny_call_entry slot_list_sort ⟨_,ff,rfl⟩ entry_list_sort (zqh ff h2 ⟨_,rfl,wad ⟨_,rfl,h⟩⟩) (args_list_sort _))))
def intsOf(h:Heap):Value->List Int
 |.ref x=>match h.get? x with
  |some o=>match o.data with
   |.seq xs _=>xs.toList.map λv=>match v with
    |.int a _=>a
    |_=>0
   |_=>[]
  |none=>[]
 |_=>[]
theorem zuK{xs:List Value}{l:List Int}(h:IL xs l):(xs.map λv=>match v with|.int a _=>a|_=>0)=l:=by
 induction h with
 |nil=>rfl
 |cons h ih=>rw[List.map_cons,ih]
structure TupAt(h:Heap)(v:Value)(l:List Int):Prop where
 ex:∃ x o xs n,v=.ref x/\h.get? x=some o/\o.cls=.type "tuple"/\o.data=.seq xs n/\IL xs.toList l
 ne:l≠[]
theorem TupAt.ints{h:Heap}{v:Value}{l:List Int}(t:TupAt h v l):intsOf h v=l:=by obtain ⟨x,o,xs,n,rfl,ho,_,hd,hi⟩:=t.ex;unfold intsOf;simp only[ho,hd];exact zuK hi
theorem TupAt.keep{h h':Heap}{v:Value}{l:List Int}(k:∀ b o,h.get? b=some o->h'.get? b=some o)(t:TupAt h v l):TupAt h' v l:=by obtain ⟨x,o,xs,n,e,ho,hc,hd,hi⟩:=t.ex;exact ⟨⟨x,o,xs,n,e,k _ _ ho,hc,hd,hi⟩,t.ne⟩
theorem zrv{h:Heap}:∀{vs:List Value},(∀ v∈vs,∃ l,TupAt h v l)->∃ fs,KatTups h vs fs/\fs.length=vs.length/\∀ f∈fs,∃ a t,f=.int a t
 |[],_=>⟨[],.nil,rfl,xws⟩
 |v::vs,H=>by
  obtain ⟨fs,h1,h2,h3⟩:=zrv (vs:=vs) λv hv=>H v (wah _ hv);obtain ⟨l,t⟩:=H v wau;obtain ⟨x,o,xs,n,rfl,ho,hc,hd,hi⟩:=t.ex;have:∃ a k,xs[0]? = some (.int a k):=by
   have hx:xs.toList[0]? = xs[0]? := by rw[Array.getElem?_toList]
   rw[<- hx];have:=t.ne;revert hi;generalize xs.toList=ys;intro hi;cases hi with
   |nil=>exact absurd rfl this
   |cons h=>exact ⟨_,_,rfl⟩
  obtain ⟨a,k,hf⟩:=this;refine ⟨_,KatTups.cons ho hc hd hf h1,by simp[h2],λf hf=>?_⟩;rcases wap.mp hf with rfl|hf
  ·exact ⟨a,k,rfl⟩
  ·exact h3 f hf
theorem zjz{α β:Type}{x y:Array α}(f:α->β)(h:x.Perm y):(x.toList.map f).Perm (y.toList.map f):=(Array.perm_iff_toList_perm.mp h).map f
def rkT(h:Heap)(vs:List Value)(p:Keyed):Int:=zsp (vs.map (intsOf h)) (intsOf h p.1)
def PT(h:Heap)(vs:List Value)(p:Keyed):Prop:=p.1∈vs/\p.2=p.1/\∃ l,TupAt h p.1 l
theorem zrK{h:Heap}{vs:List Value}(ht:∀ v∈vs,∃ l,TupAt h v l):∀ p∈(pairsOf vs).toList,PT h vs p:=λk hk=>by
 have:k.1∈vs/\k.2=k.1:=by unfold pairsOf at hk;obtain ⟨i,hi,rfl⟩:=List.mem_iff_getElem.mp hk;simp
 exact ⟨this.1,this.2,ht _ this.1⟩
theorem zwa{h':Heap}{vs:List Value}(k:∀ b o,s.heap.get? b=some o->h'.get? b=some o):Cp prog w A { s with heap:=h' } (tuples' true) (PT s.heap vs) (rkT s.heap vs):=by
 intro E p q st Q hp hq hk h;obtain ⟨m1,_,l,t⟩:=hp;obtain ⟨m2,_,m,u⟩:=hq;refine zsn (prog:=prog) (w:=w) (A:=A) (s:={ s with heap:=h' }) (c:=true) (tk:=λp=>intsOf s.heap p.1) (Ls:=vs.map (intsOf s.heap)) E p q st Q ?_ ?_ hk h
 ·obtain ⟨x,o,xs,n,e,ho,hc,hd,hi⟩:=t.ex;exact ⟨List.mem_map_of_mem m1,x,o,xs,n,e,k _ _ ho,hd,by rw[t.ints];exact hi⟩
 ·obtain ⟨x,o,xs,n,e,ho,hc,hd,hi⟩:=u.ex;exact ⟨List.mem_map_of_mem m2,x,o,xs,n,e,k _ _ ho,hd,by rw[u.ints];exact hi⟩
theorem zsc{h':Heap}{vs:List Value}(ht:∀ v∈vs,∃ l,TupAt s.heap v l)(hv:0<vs.length)(k:∀ b o,s.heap.get? b=some o->h'.get? b=some o)(Q:SortKind->Shared->Prop)(E:Value->Shared->Prop)(q:Q (tuples' true) { s with heap:=h' }):wpAny (model prog w) A (keyKind' vs.toArray) Q E { s with heap:=h' }:=by
 obtain ⟨fs,h1,h2',h3⟩:=zrv (h:=h') (vs:=vs) λv hv=>by obtain ⟨l,t⟩:=ht v hv;exact ⟨l,t.keep k⟩
 exact kat_kind (s:={ s with heap:=h' }) (T:=.type "int") h1 xwo (λv hv=>by obtain ⟨a,t,rfl⟩:=h3 v hv;exact Looks.of_pure rfl) rfl q
theorem zu7{h:Heap}{vs:List Value}{out:Array Keyed}(pm:out.Perm (pairsOf vs))(ht:∀ v∈vs,∃ l,TupAt h v l)(so:SIn (rkT h vs) out 0 vs.length):(out.map (·.2)).toList.Perm vs/\(out.map (·.2)).toList.Pairwise (λa b=>lxB (intsOf h b) (intsOf h a)=false):=by
 have hs:out.size=vs.length:=by rw[pm.size_eq];exact pairsOf_size vs
 have hp:(out.map (·.2)).toList.Perm vs:=by have:=zjz (·.2) pm;rw[<- Array.toList_map,<- Array.toList_map,zjE] at this;exact this
 have hm:∀ x∈out.toList,PT h vs x:=λx hx=>zrK ht x ((Array.perm_iff_toList_perm.mp pm).mem_iff.mp hx);refine ⟨hp,?_⟩;rw[List.pairwise_iff_getElem];intro i j hi hj hij;rw[Array.length_toList,Array.size_map] at hi hj;simp only[Array.getElem_toList,Array.getElem_map];have e1:=hm out[i] (Array.getElem_mem_toList hi);have e2:=hm out[j] (Array.getElem_mem_toList hj);rw[e1.2.1,e2.2.1];have:=so i j (Nat.zero_le _) (Nat.le_of_lt hij) xwo;unfold rk at this;rw[Array.getElem?_eq_getElem hi,Array.getElem?_eq_getElem hj] at this;have r:=zoG (Ls:=vs.map (intsOf h)) (List.mem_map_of_mem (f:=intsOf h) e2.1) (List.mem_map_of_mem (f:=intsOf h) e1.1);rw[<- r];unfold rkT at this;dsimp only at this;exact waw xwo
theorem zu0{α:Type}{R:α->α->Prop}:∀{vs:List α},vs.length<2->vs.Pairwise R
 |[],_=>.nil
 |[a],_=>by simp
 |a::b::r,h=>by simp at h;omega
theorem sorted_tups{l:Addr}{vs:List Value}{Q:Value->Shared->Prop}(hl:s.heap.IsList l vs.toArray)(hz:vs.length<=sizeLine)(ht:∀ v∈vs,∃ l,TupAt s.heap v l)
  (h:∀ out:List Value,out.Perm vs->out.Pairwise (λa b=>lxB (intsOf s.heap b) (intsOf s.heap a)=false)->Q (.ref (s.heap.objs.size+1)) { s with heap:=sortedAll s.heap vs out.toArray }) :
  wpAny (model prog w) A (call (.builtin "sorted") [.ref l]) Q E s:=by
 by_cases h2:vs.length<2
 ·exact zmz hl h2 (h vs (.refl _) (zu0 h2))
 ·refine zjD (kd:=tuples' true) (r:=rkT s.heap vs) (PK:=PT s.heap vs) hl xwo hz (λA h' k Q E q=>zsc ht xwo k Q E q) (λh' k=>zwa k) (zrK ht) λout pm so=>?_;obtain ⟨h3,h4⟩:=zu7 pm ht so;have:=h _ h3 h4;rwa [Array.toArray_toList] at this
end
end Ts
end
section
namespace PV
open PySem PySem.Spec L2
def leL(a b:List Int):Bool:=!Ts.lxB b a
def ztq(a:List Int):List (List Int)->List (List Int)
 |[]=>[a]
 |b::r=>if leL a b=true then a::b::r else b::ztq a r
def zhu:List (List Int)->List (List Int)
 |[]=>[]
 |a::r=>ztq a (zhu r)
theorem zgL(a:List Int):∀ l:List (List Int),(ztq a l).Perm (a::l)
 |[]=>.refl _
 |b::r=>by
  unfold ztq;split
  ·exact .refl _
  ·exact ((zgL a r).cons b).trans (.swap a b r)
theorem zc1:∀ l:List (List Int),(zhu l).Perm l
 |[]=>.refl _
 |a::r=>(zgL a _).trans ((zc1 r).cons a)
theorem zuP{a b c:List Int}(h:leL a b=true)(h':leL b c=true):leL a c=true:=by
 unfold leL at *;rw[Bool.not_eq_true'] at *;cases e:Ts.lxB c a with
 |false=>rfl
 |true =>
  cases e1:Ts.lxB a b with
  |true=>rw[Ts.lxB_tr e e1] at h';cases h'
  |false =>
   rw[Ts.lxB_tot e1 h] at e;rw[e] at h';cases h'
theorem zrY{a b:List Int}(h:leL a b=false):leL b a=true:=by
 unfold leL at *;rw[Bool.not_eq_false'] at h;rw[Bool.not_eq_true'];cases e:Ts.lxB a b with
 |false=>rfl
 |true=>exact absurd (Ts.lxB_tr e h) (by rw[Ts.lxB_irr];simp)
theorem zqe{a b:List Int}(h:leL a b=true)(h':leL b a=true):a=b:=by unfold leL at *;rw[Bool.not_eq_true'] at *;exact Ts.lxB_tot h' h
theorem zlQ(a:List Int):∀ l:List (List Int),l.Pairwise (λx y=>leL x y=true)->(ztq a l).Pairwise (λx y=>leL x y=true)
 |[],_=>by simp[ztq]
 |b::r,h=>by
  unfold ztq;rw[List.pairwise_cons] at h;split
  ·rename_i z;refine List.pairwise_cons.mpr ⟨λx hx=>?_,List.pairwise_cons.mpr h⟩;rcases wap.mp hx with rfl|hx
   ·exact z
   ·exact zuP z (h.1 x hx)
  ·rename_i z;refine List.pairwise_cons.mpr ⟨λx hx=>?_,zlQ a r h.2⟩;rcases wap.mp ((zgL a r).mem_iff.mp hx) with rfl|hx
   ·exact zrY (by simpa using z)
   ·exact h.1 x hx
theorem zgr:∀ l:List (List Int),(zhu l).Pairwise (λx y=>leL x y=true)
 |[]=>.nil
 |a::r=>zlQ a _ (zgr r)
theorem zix:∀{l m:List (List Int)},l.Perm m->l.Pairwise (λx y=>leL x y=true)->m.Pairwise (λx y=>leL x y=true)->l=m
 |[],m,p,_,_=>by rw[p.symm.eq_nil]
 |a::l,[],p,_,_=>by have:=p.length_eq;simp at this
 |a::l,b::m,p,h,k=>by
  rw[List.pairwise_cons] at h k;have ab:a=b:=by
   have h1:leL a b=true:=by
    rcases wap.mp (p.mem_iff.mpr (wau:b∈b::m)) with e|e
    ·subst e;unfold leL;rw[Ts.lxB_irr];rfl
    ·exact h.1 b e
   have h2:leL b a=true:=by
    rcases wap.mp (p.mem_iff.mp (wau:a∈a::l)) with e|e
    ·subst e;unfold leL;rw[Ts.lxB_irr];rfl
    ·exact k.1 a e
   exact zqe h1 h2
  subst ab;rw[zix (List.Perm.cons_inv p) h.2 k.2]
def zr9(K:W.Frag):List V->Hp->VK->Prop:=λxs H Q=>∃(p:Addr)(ps:List (Addr×List Int)),xs=[.ref p]/\SqL K H p (ps.map λq=>V.ref q.1)/\(∀ q∈ps,SqT K H q.1 (q.2.map V.int)/\q.2≠[]) /\
 ∀ ps':List (Addr×List Int),ps'.Perm ps->ps'.map (·.2)=zhu (ps.map (·.2))->∀ l,H l=none->Q (.ref l) (upd H l (.lst (ps'.map λq=>V.ref q.1)))
theorem zj3:∀{as:List Addr}{us:List Value},zaW (as.map V.ref) us->us=as.map Value.ref
 |[],_,.nil=>rfl
 |a::as,_,.cons h t=>by cases h;rw[zj3 t];rfl
theorem zfU:∀(as:List Addr),zaW (as.map V.ref) (as.map Value.ref)
 |[]=>.nil
 |a::as=>.cons rfl (zfU as)
theorem ztM:∀{ns:List Int}{us:List Value},zaW (ns.map V.int) us->Ts.IL us ns
 |[],_,.nil=>.nil
 |n::ns,_,.cons ⟨t,h⟩ r=>by subst h;exact .cons (ztM r)
theorem zmB{X:Cx}:zcj X (.builtin "sorted") (zr9 X.K):=by
 intro pS s Y H xs us Q I r h;obtain ⟨p,ps,rfl,hq,ht,q⟩:=h;obtain ⟨u,rfl,ru⟩:=zeJ r;cases ru;obtain ⟨its,rv,pl,hz⟩:=I.list hq;have e0:(ps.map λq=>V.ref q.1)=(ps.map (·.1)).map V.ref:=by rw[List.map_map];rfl
 rw[e0] at rv;have ei:=zj3 rv;have tup:∀ q∈ps,Ts.TupAt s.heap (.ref q.1) q.2:=λq hq'=>by obtain ⟨h1,h2⟩:=ht q hq';obtain ⟨its',rv',⟨o,ho,hc,n,hd⟩,hz'⟩:=I.tuple h1;exact ⟨⟨q.1,o,its'.toArray,n,rfl,ho,hc,hd,by simpa using ztM rv'⟩,h2⟩
 have hlen:its.length<=sizeLine:=by rw[<- rv.length];rw[List.length_map] at hz;simpa using hz
 refine Ts.sorted_tups pl.isList hlen (λv hv=>?_) λout pm so=>?_
 ·rw[ei,List.map_map] at hv;obtain ⟨q,h1,rfl⟩:=List.mem_map.mp hv;exact ⟨q.2,tup q h1⟩
 ·let back:Value->Addr×List Int:=λv=>(match v with|.ref a=>a|_=>0,Ts.intsOf s.heap v)
  have eb:its.map back=ps:=by
   rw[ei,List.map_map,List.map_map];have:∀ q∈ps,((back ∘ Value.ref) ∘ λx=>x.1) q=q:=λq hq'=>by show (q.1,Ts.intsOf s.heap (.ref q.1))=q;rw[(tup q hq').ints]
   calc _=ps.map id:=List.map_congr_left this
    _=ps:=List.map_id _
  have pm':(out.map back).Perm ps:=by rw[<- eb];exact pm.map back
  have eo:out=((out.map back).map (·.1)).map Value.ref:=by
   rw[List.map_map,List.map_map];have:∀ v∈out,v=((Value.ref ∘ λx=>x.1) ∘ back) v:=λv hv=>by have hv':=pm.mem_iff.mp hv;rw[ei,List.map_map] at hv';obtain ⟨q,h1,rfl⟩:=List.mem_map.mp hv';rfl
   calc out=out.map id:=(List.map_id _).symm
    _=_:=List.map_congr_left this
  have es:(out.map back).map (·.2)=zhu (ps.map (·.2)):=by refine zix ((pm'.map _).trans (zc1 _).symm) ?_ (zgr _);rw[List.map_map,List.pairwise_map];refine so.imp λ{a b} hab=>?_;show leL (Ts.intsOf s.heap a) (Ts.intsOf s.heap b)=true;unfold leL;rw[hab];rfl
  obtain ⟨c,hc⟩:=PyProof.Rows.sortedAll_at s.heap its out.toArray;refine ⟨.ref (s.heap.objs.size+1),_,I.laid (t':=s.toks) (λb o=>PyProof.Rows.sortedAll_old) (Nat.le_succ _) (o:=.lst ((out.map back).map λq=>V.ref q.1)) ⟨?_,out,c,?_,?_⟩,rfl,q _ pm' es _ (I.hok.fresh (Nat.le_succ _))⟩
  ·rw[List.length_map,List.length_map,pm.length_eq];exact hlen
  ·have e1:((out.map back).map λq=>V.ref q.1)=((out.map back).map (·.1)).map V.ref:=by rw[List.map_map,List.map_map,List.map_map];rfl
   have e2:=zfU ((out.map back).map (·.1));rw[<- eo] at e2;rw[e1];exact e2
  ·simpa using hc
def zrD:List Dt->Option (List (List Int))
 |[]=>some []
 |.tup x::r=>match zhB x,zrD r with
  |some (a::l),some ls=>some ((a::l)::ls)
  |_,_=>none
 |_=>none
def zwk(l:List Int):Dt:=.tup (l.map .int)
def zft:List Dt->R (List Dt)
 |[.lst l]=>match zrD l with
  |some ls=>.ok ((zhu ls).map zwk)
  |none=>.no
 |_=>.no
theorem zjt{K:W.Frag}{G:Hp}:∀{ds:List Dt}{vs:List V}{ls:List (List Int)},za1 K G ds vs->zrD ds=some ls->∃ ps:List (Addr×List Int),vs=(ps.map λq=>V.ref q.1)/\ps.map (·.2)=ls/\∀ q∈ps,zhz K G q.1 (q.2.map V.int)/\q.2≠[]
 |[],_,ls,h,e=>by rw[h.nil_inv];simp[zrD] at e;subst e;exact ⟨[],rfl,rfl,xws⟩
 |d::r,_,ls,h,e=>by
  obtain ⟨v,t,rfl,h1,h2⟩:=h.cons_inv;unfold zrD at e;split at e
  ·rename_i e0;cases e0
  ·rename_i x r' e0;cases e0;split at e
   ·rename_i a l ls' e1 e2;cases e;obtain ⟨ps,q1,q2,q3⟩:=zjt h2 e2;obtain ⟨ad,us,rfl,m1,m2⟩:=zdv h1;rw[zeD m2 e1] at m1;refine ⟨(ad,a::l)::ps,by rw[q1];rfl,by rw[List.map_cons,q2],λq hq=>?_⟩;rcases wap.mp hq with rfl|hq
    ·exact ⟨m1,xws⟩
    ·exact q3 q hq
   ·cases e
  ·cases e
theorem zkp{K:W.Frag}{G:Hp}:∀{ps:List (Addr×List Int)},(∀ q∈ps,zhz K G q.1 (q.2.map V.int)/\q.2≠[])->za1 K G ((ps.map (·.2)).map zwk) (ps.map λq=>V.ref q.1)
 |[],_=>za1.nil
 |q::ps,h=>by refine za1.cons ?_ (zkp λz hz=>h z (wah _ hz));unfold zwk Rep;exact ⟨q.1,_,rfl,(h q wau).1,zdF _⟩
theorem zp9{K:W.Frag}:FnN K (zr9 K) zft:=λG H vs ds z Q gh hr e k=>by
 unfold zft at e;split at e
 ·split at e
  ·rename_i ls el;obtain ⟨v,rfl,h1⟩:=zew hr;obtain ⟨a,us,rfl,h2,h3⟩:=zaJ h1;cases e;obtain ⟨ps,e1,e2,e3⟩:=zjt h3 el;subst e1;refine ⟨a,ps,rfl,SqL.of (gh _ _ h2),λq hq=>⟨zaA gh (e3 q hq).1.sq,(e3 q hq).2⟩,λps' pm es l hl=>k l _ hl ?_⟩;rw[<- e2,<- es];exact zkp λq hq=>e3 q (pm.mem_iff.mp hq)
  ·cases e
 ·cases e
theorem zp5:ziX zft:=λx n h=>by
 unfold zft at h;split at h
 ·split at h <;> cases h
 ·cases h
section
variable{X:Cx}{C:Cn}{fa:De}{pos:Pos}
theorem zpt{x:Expr}{p:Pos}(hg:Gl X "sorted")(hm:X.mg "sorted"=none)(ha:JE X C x fa)(hs:starEach [x] X.env=(false,eval x X.env)::starEach [] X.env:=by rfl)(hpl:(backTo pos (starEach [] X.env)).any (·.1)=false:=by rfl) :
  JN X C (.Call (.Name "sorted" p) [x] [] pos) (zcV zft (dA fa dA0)) :=
 zis zp9 zp5 zmB hg hm PyProof.Rows.boot_sorted (zao ha za4 hs) xwd xwd hs hpl
end
end PV
end
section
namespace PV
open PySem PySem.Spec L2 PyProof.Rows
open AutoSeq1 (wpAny_loadPart')
section
variable{M:Model}{A:Around}{E:Value->Shared->Prop}{s:Shared}{env:Env}
end
section
variable{prog:Program}{w:World}{A:Around}{E:Value->Shared->Prop}{s:Shared}
end
end PV
end
section
namespace PV
open PySem PySem.Spec L2
structure EpU(h:Heap)(e it l:Addr)(i:Nat):Prop where
 e:∃ old,IsEnum h e it ((i+1:Nat):Int) old
 a:h.IsTupleIter it l i
theorem EpU.keep{h h':Heap}{e it l:Addr}{i:Nat}(p:EpU h e it l i)(k:∀ b∈[e,it],∀ o,h.get? b=some o->h'.get? b=some o):EpU h' e it l i :=
 ⟨let ⟨old,q⟩:=p.e;⟨old,k e xws _ q⟩,p.a.at λo q=>k it xws o q⟩
section
variable{X:Cx}{C:Cn}{elts:List Expr}{x1:Nat}{pt:Pos}{a:Expr}{fa:De}{p pos:Pos}
end
end PV
end
section
namespace PV
open PySem PySem.Spec L2 PyProof.Rows
def zrJ(K:W.Frag):List V->Hp->VK->Prop:=λxs H Q=>∃(p:Addr)(ns:List Int),xs=[.ref p]/\SqL K H p (ns.map V.int)/\ns.length<64/\∀ l,H l=none->Q (.ref l) (upd H l (.lst ((zaB ns).reverse.map V.int)))
theorem znJ{a b:List Int}(h:a.Perm b)(ha:a.Pairwise (· ≥ ·))(hb:b.Pairwise (· <= ·)):a=b.reverse:=by have:a.reverse=b:=W.lks_uniq ((List.reverse_perm a).trans h) (List.pairwise_reverse.mpr ha) hb;rw[<- this,List.reverse_reverse]
section
variable{X:Cx}{C:Cn}{fa:De}{x:Expr}{p pos cp kp:Pos}{cj:Nat}
theorem zq5{ta:TA}(hg:Gl X "sorted")(hm:X.mg "sorted"=none)(ha:PA X [x] ta)(he:backTo pos (starEach [x] X.env)=(false,eval x X.env)::backTo pos (starEach [] X.env):=by rfl)(hplain:(backTo pos (starEach [x] X.env)).any (·.1)=false:=by rfl)
  (hall:(backToKw pos (keywordEach [⟨some "reverse",.Constant (.bool true) cj cp,kp⟩] X.env)).all (·.1.isSome)=true:=by rfl) (hkw:(backToKw pos (keywordEach [⟨some "reverse",.Constant (.bool true) cj cp,kp⟩] X.env)).any (·.1.isNone)=false:=by rfl) (hks:(backToKw pos (keywordEach [⟨some "reverse",.Constant (.bool true) cj cp,kp⟩] X.env)).filterMap (·.1)=[Str.ofString "reverse"]:=by rfl) :
  PE X (.Call (.Name "sorted" p) [x] [⟨some "reverse",.Constant (.bool true) cj cp,kp⟩] pos) (tCB (zrJ X.K) ta):=by
 intro pS s Y H Q I h;refine wpAny_Call_Name_kw (zfd I hg hm boot_sorted (callWith_kw (thn (ha pos pS s Y H _ I h) λus s1 ⟨vs,H1,I1,r1,q1⟩=>?_) he hplain hall hkw));refine thn (zsw (nm:=some "reverse") (kpos:=kp) (zvx (b:=true) (j:=cj) (pos:=cp)) zu8 pos pS s1 Y H1 (λvs H2=>vs=[.bl true]/\H2=H1) I1 ⟨rfl,rfl⟩) λws s2 ⟨zs,H2,I2,r2,e2,eH⟩=>?_;subst e2;subst eH;obtain ⟨uw,rfl,ru⟩:=zeJ r2;cases ru;obtain ⟨q,ns,rfl,hq,hl,k⟩:=q1;obtain ⟨u,rfl,ru⟩:=zeJ r1;cases ru;rw[hks];obtain ⟨its,rv,pl,hz⟩:=I2.list hq;have hlen:its.length=ns.length:=by rw[<- rv.length];simp
 refine sorted_ints_rev (b:=true) pl.isList (intsAre_of rv) xwo λout ns' a1 a2 a3=>?_;have e:ns'=(zaB ns).reverse:=znJ (a2.trans (za9 ns).symm) a3 (zco ns);subst e;obtain ⟨c,hc⟩:=sortedAll_at s2.heap its out;refine ⟨.ref (s2.heap.objs.size+1),_,I2.laid (t':=s2.toks) (λb o=>sortedAll_old) (Nat.le_succ _) (o:=.lst ((zaB ns).reverse.map V.int)) ⟨?_,out.toList,c,vals_ints a1,?_⟩,rfl,k _ (I2.hok.fresh (Nat.le_succ _))⟩
 ·rw[List.length_map,List.length_reverse,(za9 ns).length_eq,zdA];omega
 ·simpa using hc
def zfv:List Dt->R (List Dt)
 |[.lst l]=>match zhB l with
  |some ns=>if ns.length<64 then .ok ((zaB ns).reverse.map .int) else .no
  |none=>.no
 |_=>.no
theorem zp6{K:W.Frag}:FnN K (zrJ K) zfv:=λG H vs ds z Q gh hr e k=>by
 unfold zfv at e;split at e
 ·split at e
  ·rename_i ns en;split at e
   ·rename_i hl;obtain ⟨v,rfl,h1⟩:=zew hr;obtain ⟨a,us,rfl,h2,h3⟩:=zaJ h1;cases e;rw[zeD h3 en] at h2;exact ⟨a,ns,rfl,SqL.of (gh _ _ h2),hl,λl hl=>k l _ hl (zdF _)⟩
   ·cases e
  ·cases e
 ·cases e
theorem zqW:ziX zfv:=λx n h=>by
 unfold zfv at h;split at h
 ·split at h
  ·split at h <;> cases h
  ·cases h
 ·cases h
theorem zqR(hg:Gl X "sorted")(hm:X.mg "sorted"=none)(ha:JE X C x fa)(hs:starEach [x] X.env=(false,eval x X.env)::starEach [] X.env:=by rfl)(he:backTo pos (starEach [x] X.env)=(false,eval x X.env)::backTo pos (starEach [] X.env):=by rfl)(hplain:(backTo pos (starEach [x] X.env)).any (·.1)=false:=by rfl)
  (hall:(backToKw pos (keywordEach [⟨some "reverse",.Constant (.bool true) cj cp,kp⟩] X.env)).all (·.1.isSome)=true:=by rfl) (hkw:(backToKw pos (keywordEach [⟨some "reverse",.Constant (.bool true) cj cp,kp⟩] X.env)).any (·.1.isNone)=false:=by rfl) (hks:(backToKw pos (keywordEach [⟨some "reverse",.Constant (.bool true) cj cp,kp⟩] X.env)).filterMap (·.1)=[Str.ofString "reverse"]:=by rfl) :
  JN X C (.Call (.Name "sorted" p) [x] [⟨some "reverse",.Constant (.bool true) cj cp,kp⟩] pos) (zcV zfv (dA fa dA0)) :=
 PE.weak (zq5 hg hm (zao ha za4 hs) he hplain hall hkw hks) λY H Q t=>ziz zp6 zqW t
end
end PV
end
section
namespace Lw
open PySem PySem.Spec L2 PV
def top(i:Nat):Stmt:=PySem.Challenge.pw_standtogether_k05_rows_by_numbers.main.body.getD i (.Pass ⟨0,0,0,0⟩)
def xvC(cls:Nat->Addr):Nat->Value:=λn=>.ref (cls n)
abbrev zhi:Str:=((Str.ofString "law")++".<locals>.")++"<lambda>"
abbrev Uf(K:W.Frag)(mg:Str->Option Value)(x:String)(i:Nat):Prop:=∃ f fd,Fun K (Str.ofString x) (Str.ofString x) (top i) f fd/\mg (Str.ofString x)=some (.ref f)
structure Tx(K:W.Frag)(mg:Str->Option Value)(cls:Nat->Addr):Prop where
 xc:∀ n,n<8->Xin K (cls n)
 xm0:mg (Str.ofString "NoGuests")=some (.ref (cls 0))
 xm1:mg (Str.ofString "NoParties")=some (.ref (cls 1))
 xm2:mg (Str.ofString "NoNumber")=some (.ref (cls 2))
 xm3:mg (Str.ofString "NoOrder")=some (.ref (cls 3))
 xm4:mg (Str.ofString "NoWeb")=some (.ref (cls 4))
 xm5:mg (Str.ofString "NoText")=some (.ref (cls 5))
 xm6:mg (Str.ofString "NoLine")=some (.ref (cls 6))
 xm7:mg (Str.ofString "NoDeed")=some (.ref (cls 7))
 xS:∃ Cs,Xin K Cs/\mg (Str.ofString "SeatError")=some (.ref Cs)/\∀ n,n<8->W.subIn K (.ref (cls n)) (.ref Cs)=some true
 xi:∀ n k,n<8->k<8->W.kitOne K (.ref (cls n)) (.ref (cls k))=some (n == k)
 xV:∀ n,n<8->W.kitOne K (.ref (cls n)) (.type "ValueError")=some true
 u_is_whole:Uf K mg "is_whole" 12
 u_check_guests:Uf K mg "check_guests" 13
 u_is_guest:Uf K mg "is_guest" 14
 u_are_guests:Uf K mg "are_guests" 15
 u_is_seating:Uf K mg "is_seating" 16
 u_sits:Uf K mg "sits" 17
 u_is_leaf:Uf K mg "is_leaf" 19
 u_row_as_written:Uf K mg "row_as_written" 20
 u_guests_in:Uf K mg "guests_in" 21
 u_orders_of:Uf K mg "orders_of" 22
 u_strung:Uf K mg "strung" 23
 u_all_rows:Uf K mg "all_rows" 24
 u_rows_of:Uf K mg "rows_of" 25
 u_runs:Uf K mg "runs" 26
 u_keeps:Uf K mg "keeps" 27
 u_has_row:Uf K mg "has_row" 28
 u_row_at:Uf K mg "row_at" 29
 u_number_of:Uf K mg "number_of" 30
 u__law_cell_at:Uf K mg "_law_cell_at" 32
 u__law_state:Uf K mg "_law_state" 33
 u__law_take:Uf K mg "_law_take" 34
 u__law_mixed_row:Uf K mg "_law_mixed_row" 35
 u__law_tree:Uf K mg "_law_tree" 36
 u__law_perms:Uf K mg "_law_perms" 37
 u__law_leaves:Uf K mg "_law_leaves" 38
 u__law_of_tree:Uf K mg "_law_of_tree" 39
 u__law_rows_by:Uf K mg "_law_rows_by" 40
 u__law_same:Uf K mg "_law_same" 41
 u__law_refused:Uf K mg "_law_refused" 42
 u_law:Uf K mg "law" 43
 b_ValueError:mg (Str.ofString "ValueError")=none
 b_all:mg (Str.ofString "all")=none
 b_bool:mg (Str.ofString "bool")=none
 b_int:mg (Str.ofString "int")=none
 b_isinstance:mg (Str.ofString "isinstance")=none
 b_len:mg (Str.ofString "len")=none
 b_list:mg (Str.ofString "list")=none
 b_max:mg (Str.ofString "max")=none
 b_min:mg (Str.ofString "min")=none
 b_range:mg (Str.ofString "range")=none
 b_reversed:mg (Str.ofString "reversed")=none
 b_sorted:mg (Str.ofString "sorted")=none
 b_tuple:mg (Str.ofString "tuple")=none
 b_zip:mg (Str.ofString "zip")=none
 g_MOST_GUESTS:∃ t,mg (Str.ofString "MOST_GUESTS")=some (.int 7 t)
section
variable{P:Program}{w:World}{K:W.Frag}{mg:Str->Option Value}{base:Heap}{xv:Nat->Value}{cls:Nat->Addr}
abbrev zmZ:List Str:=["thing"]
abbrev zfE:List Str:=["thing"]
theorem zkS:zay zmZ zfE (zal (top 12)):=⟨rfl,rfl,rfl,xwD,rfl,xwD,xwD⟩
noncomputable def zhF:DS:=(zaV (ziZ (zfQ "int" (zab 0)) (zv3 (zfQ "bool" (zab 0)))))
noncomputable def zbm:FD:=zax false [false] 0 zhF
theorem zfw(T:Tx K mg cls):Dfn false P w K mg base (CXe P w) (xvC cls) 3 (Str.ofString "is_whole") [false] zbm:=by obtain ⟨f,fd,U,hm⟩:=T.u_is_whole;refine ⟨f,fd,zfE,?_,hm,U.kp,U.binds (ps:=zfE) λ_ _ _ _ _ _ us hl=>match us,hl with|[_],_=>rfl,zas⟩;refine xwQ (k:=2) false zaF U zkS rfl rfl λ_ _ _ _ _ _ _ _ _ _ _ hnw hr hx hpo=>?_;exact (zai (by exact (za5 hnw (zh4 (zd2 zk1 rfl T.b_isinstance zdf rfl T.b_int znj (zaa 0)) (zfI (zro (zd2 ziQ rfl T.b_isinstance zdf rfl T.b_bool zkX (zaa 0))))))))
abbrev zht:List Str:=["n"]
abbrev zcT:List Str:=["n"]
theorem zgJ:zay zht zcT (zal (top 13)):=⟨rfl,rfl,rfl,xwD,rfl,xwD,xwD⟩
noncomputable def ze2:DS:=(dIf (zh1 (zb2 (dTB (zaj zbm (dR (zab 0) dR0)))) (zh1 (dTB (dOp gLt (zab 0) (dC (.int 1)))) (dTB (dOp gGt (zab 0) (dC (.int 7)))))) (zhI 0 (dA (dC (.str (Str.ofString "the guests are no whole number from 1 to 7"))) dA0)) dNx)
noncomputable def zba:FD:=zax false [false] 0 ze2
theorem ze6(T:Tx K mg cls):Dfn false P w K mg base (CXe P w) (xvC cls) 6 (Str.ofString "check_guests") [false] zba:=by obtain ⟨f,fd,U,hm⟩:=T.u_check_guests;refine ⟨f,fd,zcT,?_,hm,U.kp,U.binds (ps:=zcT) λ_ _ _ _ _ _ us hl=>match us,hl with|[_],_=>rfl,zas⟩;refine xwQ (k:=5) false zaF U zgJ rfl rfl λ_ _ _ _ _ _ _ _ _ _ _ hnw hr hx hpo=>?_;exact (zai (by exact (zbN (JW.jt (zll (ze8 (zbJ (zaK (zfw T) hr xwo hx (zae (zaa 0) zat)))) (zll (zty (zaa 0) zar) (zjj (zuM (zaa 0) (zrW rfl T.g_MOST_GUESTS.choose_spec)))))) (zai (by exact (zi4 hx rfl (T.xc 0 xwd).cls T.xm0 rfl (zao zez za4)))) zaH)))
abbrev zmN:List Str:=["n","thing"]
abbrev zfz:List Str:=["n","thing"]
theorem zlh:zay zmN zfz (zal (top 14)):=⟨rfl,rfl,rfl,xwD,rfl,xwD,xwD⟩
noncomputable def zel:DS:=(zaV (ziZ (zaj zbm (dR (zab 1) dR0)) (zjo gLe gLt (dC (.int 0)) (zab 1) (zab 0))))
noncomputable def zbD:FD:=zax false [false,false] 0 zel
theorem zmR(T:Tx K mg cls):Dfn false P w K mg base (CXe P w) (xvC cls) 6 (Str.ofString "is_guest") [false,false] zbD:=by obtain ⟨f,fd,U,hm⟩:=T.u_is_guest;refine ⟨f,fd,zfz,?_,hm,U.kp,U.binds (ps:=zfz) λ_ _ _ _ _ _ us hl=>match us,hl with|[_,_],_=>rfl,zas⟩;refine xwQ (k:=5) false zaF U zlh rfl rfl λ_ _ _ _ _ _ _ _ _ _ _ hnw hr hx hpo=>?_;exact (zai (by exact (za5 hnw (zh4 (zaK (zfw T) hr xwo hx (zae (zaa 1) zat)) (zfI (zqj zvG zha zfk zvs zha zfk zar (zaa 1) (zaa 0)))))))
abbrev zjY:List Str:=["n","thing"]
abbrev zdR:List Str:=["n","thing"]
theorem ziT:zay zjY zdR (zal (top 15)):=⟨rfl,rfl,rfl,xwD,rfl,xwD,xwD⟩
abbrev zdb:List Str:=["n","thing","part"]
theorem zgS:zdb.Nodup:=by decide +kernel
noncomputable def zko:DS:=(zaV (ziZ (zfQ "tuple" (zab 1)) (dFn zkK (dA (dFz (zaY (dIt (zab 1)) (zaU 2) dTT (zaj zbD (dR (zab 0) (dR (zab 2) dR0))) 1)) dA0))))
noncomputable def zcN:FD:=zax false [false,false] 0 zko
theorem zkb(T:Tx K mg cls):Dfn false P w K mg base (CXe P w) (xvC cls) 9 (Str.ofString "are_guests") [false,false] zcN:=by obtain ⟨f,fd,U,hm⟩:=T.u_are_guests;refine ⟨f,fd,zdR,?_,hm,U.kp,U.binds (ps:=zdR) λ_ _ _ _ _ _ us hl=>match us,hl with|[_,_],_=>rfl,zas⟩;refine xwQ (k:=8) false zaF U ziT rfl rfl λ_ _ _ _ _ _ _ _ _ _ _ hnw hr hx hpo=>?_;exact (zai (by exact (za5 hnw (zh4 (zd2 zdP rfl T.b_isinstance zdf rfl T.b_tuple zei (zaa 1)) (zfI (zsl rfl T.b_all (za8 (zdy (zbS (zaa 1)) rfl (N':=zdb) (m:=1) xwk rfl (zbg xwk) (zbA xwk) (zbT xwk) (λcl L s H fp G H' w Y=>⟨(zaM (i:=2) zgS rfl xwO (xwN rfl)),zdn,(zaK (zmR T) hr xwo (zr1 λ_ z=>z) (zae (zaa 0) (zae (zaa 2) zat)))⟩)))))))))
abbrev zjZ:List Str:=["n","thing"]
abbrev zdH:List Str:=["n","thing"]
theorem zid:zay zjZ zdH (zal (top 16)):=⟨rfl,rfl,rfl,xwD,rfl,xwD,xwD⟩
noncomputable def zj8:DS:=(zaw (dEx (zaj zba (dR (zab 0) dR0))) (zaV (ziZ (zaj zcN (dR (zab 0) (dR (zab 1) dR0))) (dOp (gEq false) (dFz (zcV zc6 (dA (zab 1) dA0))) (dFz (zfZ (zab 0)))))))
noncomputable def zcI:FD:=zax false [false,false] 0 zj8
theorem zjB(T:Tx K mg cls):Dfn false P w K mg base (CXe P w) (xvC cls) 12 (Str.ofString "is_seating") [false,false] zcI:=by obtain ⟨f,fd,U,hm⟩:=T.u_is_seating;refine ⟨f,fd,zdH,?_,hm,U.kp,U.binds (ps:=zdH) λ_ _ _ _ _ _ us hl=>match us,hl with|[_,_],_=>rfl,zas⟩;refine xwQ (k:=11) false zaF U zid rfl rfl λ_ _ _ _ _ _ _ _ _ _ _ hnw hr hx hpo=>?_;exact (zad (by exact (zcR (zaK (ze6 T) hr xwo hx (zae (zaa 0) zat)))) (zai (by exact (za5 hnw (zh4 (zaK (zkb T) hr xwo hx (zae (zaa 0) (zae (zaa 1) zat))) (zfI (zjg (zhx hr) (za8 (zms rfl T.b_sorted (zaa 1))) (za8 (zli rfl rfl T.b_list rfl T.b_range (zaa 0))))))))))
abbrev ztR:List Str:=["seating","party","places"]
abbrev znC:List Str:=["seating","party"]
theorem znh:zay ztR znC (zal (top 17)):=⟨rfl,rfl,rfl,xwD,rfl,xwD,xwD⟩
abbrev zgy:List Str:=["seating","party","places","guest"]
theorem zoA:zgy.Nodup:=by decide +kernel
noncomputable def znn:DS:=(zaw (zbc 2 (dFz (zaY (dIt (zab 1)) (zaU 3) dTT (zjr (zab 0) (zab 3)) 1))) (zaV (dOp (gEq false) (dOp zm6 (dFn zjq (dA (zab 2) dA0)) (dFn zkf (dA (zab 2) dA0))) (dOp zm6 (dFn zcG (dA (zab 1) dA0)) (dC (.int 1))))))
noncomputable def zj9:FD:=zax false [false,false] 1 znn
theorem ztX(T:Tx K mg cls):Dfn false P w K mg base (CXe P w) (xvC cls) 3 (Str.ofString "sits") [false,false] zj9:=by obtain ⟨f,fd,U,hm⟩:=T.u_sits;refine ⟨f,fd,znC,?_,hm,U.kp,U.binds (ps:=znC) λ_ _ _ _ _ _ us hl=>match us,hl with|[_,_],_=>rfl,zas⟩;refine xwQ (k:=2) false zaF U znh rfl rfl λ_ _ _ _ _ _ _ _ _ _ _ hnw hr hx hpo=>?_;exact (zad (by exact (zfy (i:=2) znh.nd rfl xwO (xwN rfl) (zbS (zaa 1)) rfl (N':=zgy) (m:=1) xwk rfl (zbg xwk) (zbA xwk) (zbT xwk) (λcl L s H fp G H' w Y=>⟨(zaM (i:=3) zoA rfl xwO (xwN rfl)),zdn,(znw (zqx hr) (zaa 0) (zaa 3))⟩))) (zai (by exact (za5 hnw (zjg (zhx hr) (zmj (zue rfl T.b_max (zaa 2)) (ztO rfl T.b_min (zaa 2))) (zmj (zfe T.b_len (zaa 1)) zar))))))
abbrev znR:List Str:=["tree"]
abbrev zgh:List Str:=["tree"]
theorem zmx:zay znR zgh (zal (top 19)):=⟨rfl,rfl,rfl,xwD,rfl,xwD,xwD⟩
noncomputable def znZ:DS:=(zaV (zv3 (zfQ "tuple" (zab 0))))
noncomputable def zbt:FD:=zax false [false] 0 znZ
theorem zgw(T:Tx K mg cls):Dfn false P w K mg base (CXe P w) (xvC cls) 3 (Str.ofString "is_leaf") [false] zbt:=by obtain ⟨f,fd,U,hm⟩:=T.u_is_leaf;refine ⟨f,fd,zgh,?_,hm,U.kp,U.binds (ps:=zgh) λ_ _ _ _ _ _ us hl=>match us,hl with|[_],_=>rfl,zas⟩;refine xwQ (k:=2) false zaF U zmx rfl rfl λ_ _ _ _ _ _ _ _ _ _ _ hnw hr hx hpo=>?_;exact (zai (by exact (za5 hnw (zro (zd2 zdP rfl T.b_isinstance zdf rfl T.b_tuple zei (zaa 0))))))
abbrev zfX:List Str:=["tree","guests","branch"]
abbrev zb8:List Str:=["tree"]
theorem zcb:zay zfX zb8 (zal (top 20)):=⟨rfl,rfl,rfl,xwD,rfl,xwD,xwD⟩
noncomputable def zd4(F_self:FD):DS:=(zaw (dIf (dTB (zaj zbt (dR (zab 0) dR0))) (zaV (dFz (zbQ (dA (zab 0) dA0)))) dNx) (zaw (zb6 1 (zbQ dA0)) (zaw (zeU (dIt (dOp gIx (zab 0) (dC (.int 1)))) (zaU 2) (dEx (zeP 1 (zaj F_self (dR (zab 2) dR0))))) (zaV (zd8 1)))))
noncomputable def zbk:Nat->FD
 |0=>λ_=>.no
 |n+1=>zax false [false] 2 (zd4 (zbk n))
theorem zd7(T:Tx K mg cls):∀ n,Dfn false P w K mg base (CXe P w) (xvC cls) (n+5) (Str.ofString "row_as_written") [false] (zbk n)
 |0=>by obtain ⟨f,fd,U,hm⟩:=T.u_row_as_written;exact zcH rfl U hm (U.binds (ps:=zb8) λ_ _ _ _ _ _ us hl=>match us,hl with|[_],_=>rfl)
 |n+1=>by have DS:=zd7 T n;obtain ⟨f,fd,U,hm⟩:=T.u_row_as_written;refine ⟨f,fd,zb8,?_,hm,U.kp,U.binds (ps:=zb8) λ_ _ _ _ _ _ us hl=>match us,hl with|[_],_=>rfl,zas⟩;refine zff.mono (j:=(n+5)+1) ?_ xwo;refine zaI (k:=n+5) false zaF U zcb rfl rfl λX C hX hpp hxv hnw hr hx hpo=>?_;obtain ⟨cG,cH,cw,cpp,cσ,cex,cxv,cnw⟩:=C;dsimp only at hpp hxv hnw;subst hpp hxv hnw;have hnw:(false:Bool)=false:=rfl;obtain ⟨cdv,A,outer,s,H,E,rfl⟩:=hX;exact (zad (by exact (zbN (zbJ (zaK (zgw T) hr xwo hx (zae (zaa 0) zat))) (zai (by exact (za5 hnw (za8 (zbz (zao (zaa 0) za4)))))) zaH)) (zad (by exact (zdu (i:=1) zcb.nd rfl xwO (xwN rfl) (zbz za4))) (zad (by exact (zcX hpo rfl (zbS (zbP (zaa 0) zar)) (zaM (i:=2) zcb.nd rfl xwO (xwN rfl)) (zai (by exact (zcR (zik 1 (zaK DS hr (wal _) hx (zae (zaa 2) zat)))))))) (zai (by exact (za5 hnw (ze7 1)))))))
abbrev zlr:List Str:=["tree"]
abbrev zeB:List Str:=["tree"]
theorem zjf:zay zlr zeB (zal (top 21)):=⟨rfl,rfl,rfl,xwD,rfl,xwD,xwD⟩
noncomputable def zkB:DS:=(zaV (dFz (zcV zbr (dA (zaj (zbk 8) (dR (zab 0) dR0)) dA0))))
noncomputable def zbB:FD:=zax false [false] 0 zkB
theorem zgB(T:Tx K mg cls):Dfn false P w K mg base (CXe P w) (xvC cls) 16 (Str.ofString "guests_in") [false] zbB:=by obtain ⟨f,fd,U,hm⟩:=T.u_guests_in;refine ⟨f,fd,zeB,?_,hm,U.kp,U.binds (ps:=zeB) λ_ _ _ _ _ _ us hl=>match us,hl with|[_],_=>rfl,zas⟩;refine xwQ (k:=15) false zaF U zjf rfl rfl λ_ _ _ _ _ _ _ _ _ _ _ hnw hr hx hpo=>?_;exact (zai (by exact (za5 hnw (za8 (zfq rfl T.b_sorted (zaK (zd7 T 8) hr xwo hx (zae (zaa 0) zat)))))))
abbrev zk5:List Str:=["things","orders","k","rest"]
abbrev zdt:List Str:=["things"]
theorem zcO:zay zk5 zdt (zal (top 22)):=⟨rfl,rfl,rfl,xwD,rfl,xwD,xwD⟩
noncomputable def zc8(F_self:FD):DS:=(zaw (dIf (dTB (dOp (gEq false) (dFn zcG (dA (zab 0) dA0)) (dC (.int 0)))) (zaV (dC (.lst [(.lst [])]))) dNx) (zaw (zb6 1 (zbQ dA0)) (zaw (zeU (zbH (dFn zcG (dA (zab 0) dA0))) (zaU 2) (zeU (dIt (zaj F_self (dR (dFz (zgM (dFz (zmL (zab 0) dO0 (dO1 (zab 2)))) (dFz (zmL (zab 0) (dO1 (dOp zdK (zab 2) (dC (.int 1)))) dO0)))) dR0))) (zaU 3) (dEx (zev 1 (dFz (zgM (dFz (zbQ (dA (dOp gIx (zab 0) (zab 2)) dA0))) (zab 3))))))) (zaV (zd8 1)))))
noncomputable def zc5:Nat->FD
 |0=>λ_=>.no
 |n+1=>zax false [false] 3 (zc8 (zc5 n))
theorem zgp(T:Tx K mg cls):∀ n,Dfn false P w K mg base (CXe P w) (xvC cls) (n+2) (Str.ofString "orders_of") [false] (zc5 n)
 |0=>by obtain ⟨f,fd,U,hm⟩:=T.u_orders_of;exact zcH rfl U hm (U.binds (ps:=zdt) λ_ _ _ _ _ _ us hl=>match us,hl with|[_],_=>rfl)
 |n+1=>by have DS:=zgp T n;obtain ⟨f,fd,U,hm⟩:=T.u_orders_of;refine ⟨f,fd,zdt,?_,hm,U.kp,U.binds (ps:=zdt) λ_ _ _ _ _ _ us hl=>match us,hl with|[_],_=>rfl,zas⟩;refine zff.mono (j:=(n+2)+1) ?_ xwo;refine zaI (k:=n+2) false zaF U zcO rfl rfl λX C hX hpp hxv hnw hr hx hpo=>?_;obtain ⟨cG,cH,cw,cpp,cσ,cex,cxv,cnw⟩:=C;dsimp only at hpp hxv hnw;subst hpp hxv hnw;have hnw:(false:Bool)=false:=rfl;obtain ⟨cdv,A,outer,s,H,E,rfl⟩:=hX;exact (zad (by exact (zbN (zng (zhx hr) (zfe T.b_len (zaa 0)) zar) (zai (by exact (za5 hnw (by refine jd 40 ?_;kernel_rfl)))) zaH)) (zad (by exact (zdu (i:=1) zcO.nd rfl xwO (xwN rfl) (zbz za4))) (zad (by exact (zcX hpo rfl (zcA rfl T.b_range (zfe T.b_len (zaa 0))) (zaM (i:=2) zcO.nd rfl xwO (xwN rfl)) (zai (by exact (zcX hpo rfl (zbS (zaK DS hr (wal _) hx (zae (za8 (by refine zj4 (za8 (zlL (zaa 0) zeR (zeL (zaa 2)))) ?_;exact (za8 (zlL (zaa 0) (zeL (zeS (zaa 2) zar)) zeR)))) zat))) (zaM (i:=3) zcO.nd rfl xwO (xwN rfl)) (zai (by exact (zcR (zla 1 (za8 (by refine zj4 (za8 (zbz (zao (zbP (zaa 0) (zaa 2)) za4))) ?_;exact (zaa 3)))))))))))) (zai (by exact (za5 hnw (ze7 1)))))))
abbrev zqI:List Str:=["choices","rows","choice","longer","row"]
abbrev zi9:List Str:=["choices"]
theorem zcY:zay zqI zi9 (zal (top 23)):=⟨rfl,rfl,rfl,xwD,rfl,xwD,xwD⟩
abbrev zfm:List Str:=["choices","rows","choice","longer","row","piece"]
theorem zkZ:zfm.Nodup:=by decide +kernel
noncomputable def ziF:DS:=(zaw (zbc 1 (dC (.lst [(.tup [])]))) (zaw (zeU (dIt (zab 0)) (zaU 2) (zaw (zb6 3 (zbQ dA0)) (zaw (zeU (dIt (zab 1)) (zaU 4) (dEx (zeP 3 (dFz (zaY (dIt (zab 2)) (zaU 5) dTT (dOp zfB (zab 4) (zab 5)) 1))))) (zbc 1 (zd8 3))))) (zaV (zab 1))))
noncomputable def zfc:FD:=zax false [false] 4 ziF
theorem zqg(T:Tx K mg cls):Dfn false P w K mg base (CXe P w) (xvC cls) 3 (Str.ofString "strung") [false] zfc:=by obtain ⟨f,fd,U,hm⟩:=T.u_strung;refine ⟨f,fd,zi9,?_,hm,U.kp,U.binds (ps:=zi9) λ_ _ _ _ _ _ us hl=>match us,hl with|[_],_=>rfl,zas⟩;refine xwQ (k:=2) false zaF U zcY rfl rfl λ_ _ _ _ _ _ _ _ _ _ _ hnw hr hx hpo=>?_;exact (zad (by exact (zaX (i:=1) zcY.nd rfl xwO (xwN rfl) (by refine jd 40 ?_;kernel_rfl))) (zad (by exact (zcX hpo rfl (zbS (zaa 0)) (zaM (i:=2) zcY.nd rfl xwO (xwN rfl)) (zad (by exact (zdu (i:=3) zcY.nd rfl xwO (xwN rfl) (zbz za4))) (zad (by exact (zcX hpo rfl (zbS (zaa 1)) (zaM (i:=4) zcY.nd rfl xwO (xwN rfl)) (zai (by exact (zcR (zik 3 (za8 (zdy (zbS (zaa 2)) rfl (N':=zfm) (m:=1) xwk rfl (zbg xwk) (zbA xwk) (zbT xwk) (λcl L s H fp G H' w Y=>⟨(zaM (i:=5) zkZ rfl xwO (xwN rfl)),zdn,(zn8 (zaa 4) (zaa 5))⟩))))))))) (zai (by exact (zaX (i:=1) zcY.nd rfl xwO (xwN rfl) (ze7 3)))))))) (zai (by exact (za5 hnw (zaa 1))))))
abbrev zm8:List Str:=["tree","choices","orders","rows","order"]
abbrev zed:List Str:=["tree"]
theorem zbV:zay zm8 zed (zal (top 24)):=⟨rfl,rfl,rfl,xwD,rfl,xwD,xwD⟩
abbrev zdX:List Str:=["tree","choices","orders","rows","order","branch"]
theorem ziS:zdX.Nodup:=by decide +kernel
noncomputable def zdZ(F_self:FD):DS:=(zaw (dIf (dTB (zaj zbt (dR (zab 0) dR0))) (zaV (dFz (zbQ (dA (zgD (dA (zab 0) dA0)) dA0)))) dNx) (zaw (zbc 1 (dFz (zaY (dIt (dOp gIx (zab 0) (dC (.int 1)))) (zaU 5) dTT (zaj F_self (dR (zab 5) dR0)) 1))) (zaw (dIf (dTB (dOp (gEq false) (dOp gIx (zab 0) (dC (.int 0))) (dC (.str (Str.ofString "row"))))) (zbc 2 (dFz (zbQ (dA (zab 1) (dA (dFz (zhk (zab 1))) dA0))))) (zbc 2 (zaj (zc5 8) (dR (zab 1) dR0)))) (zaw (zb6 3 (zbQ dA0)) (zaw (zeU (dIt (zab 2)) (zaU 4) (dEx (zeP 3 (zaj zfc (dR (zab 4) dR0))))) (zaV (zd8 3)))))))
noncomputable def zbW:Nat->FD
 |0=>λ_=>.no
 |n+1=>zax false [false] 4 (zdZ (zbW n))
theorem zh5(T:Tx K mg cls):∀ n,Dfn false P w K mg base (CXe P w) (xvC cls) (n+12) (Str.ofString "all_rows") [false] (zbW n)
 |0=>by obtain ⟨f,fd,U,hm⟩:=T.u_all_rows;exact zcH rfl U hm (U.binds (ps:=zed) λ_ _ _ _ _ _ us hl=>match us,hl with|[_],_=>rfl)
 |n+1=>by have DS:=zh5 T n;obtain ⟨f,fd,U,hm⟩:=T.u_all_rows;refine ⟨f,fd,zed,?_,hm,U.kp,U.binds (ps:=zed) λ_ _ _ _ _ _ us hl=>match us,hl with|[_],_=>rfl,zas⟩;refine zff.mono (j:=(n+12)+1) ?_ xwo;refine zaI (k:=n+12) false zaF U zbV rfl rfl λX C hX hpp hxv hnw hr hx hpo=>?_;obtain ⟨cG,cH,cw,cpp,cσ,cex,cxv,cnw⟩:=C;dsimp only at hpp hxv hnw;subst hpp hxv hnw;have hnw:(false:Bool)=false:=rfl;obtain ⟨cdv,A,outer,s,H,E,rfl⟩:=hX;exact (zad (by exact (zbN (zbJ (zaK (zgw T) hr xwo hx (zae (zaa 0) zat))) (zai (by exact (za5 hnw (za8 (zbz (zao (zfL (zao (zaa 0) za4)) za4)))))) zaH)) (zad (by exact (zfy (i:=1) zbV.nd rfl xwO (xwN rfl) (zbS (zbP (zaa 0) zar)) rfl (N':=zdX) (m:=1) xwk rfl (zbg xwk) (zbA xwk) (zbT xwk) (λcl L s H fp G H' w Y=>⟨(zaM (i:=5) ziS rfl xwO (xwN rfl)),zdn,(zaK DS hr (wal _) (zr1 λ_ z=>z) (zae (zaa 5) zat))⟩))) (zad (by exact (zbN (zng (zhx hr) (zbP (zaa 0) zar) zez) (zai (by exact (zaX (i:=2) zbV.nd rfl xwO (xwN rfl) (za8 (zbz (zao (zaa 1) (zao (za8 (ztv rfl rfl T.b_list rfl T.b_reversed (zaa 1))) za4))))))) (zai (by exact (zaX (i:=2) zbV.nd rfl xwO (xwN rfl) (zaK (zgp T 8) hr xwo hx (zae (zaa 1) zat))))))) (zad (by exact (zdu (i:=3) zbV.nd rfl xwO (xwN rfl) (zbz za4))) (zad (by exact (zcX hpo rfl (zbS (zaa 2)) (zaM (i:=4) zbV.nd rfl xwO (xwN rfl)) (zai (by exact (zcR (zik 3 (zaK (zqg T) hr xwo hx (zae (zaa 4) zat)))))))) (zai (by exact (za5 hnw (ze7 3)))))))))
abbrev zpi:List Str:=["n","tree"]
abbrev zg4:List Str:=["n","tree"]
theorem zmH:zay zpi zg4 (zal (top 25)):=⟨rfl,rfl,rfl,xwD,rfl,xwD,xwD⟩
noncomputable def znp:DS:=(zaw (dEx (zaj zba (dR (zab 0) dR0))) (zdL (zcV zft (dA (zaj (zbW 8) (dR (zab 1) dR0)) dA0))))
noncomputable def zbL:FD:=zax true [false,false] 0 znp
theorem zkq(T:Tx K mg cls):Dfn true P w K mg base (CXe P w) (xvC cls) 23 (Str.ofString "rows_of") [false,false] zbL:=by obtain ⟨f,fd,U,hm⟩:=T.u_rows_of;refine ⟨f,fd,zg4,?_,hm,U.kp,U.binds (ps:=zg4) λ_ _ _ _ _ _ us hl=>match us,hl with|[_,_],_=>rfl,zas⟩;refine xwQ (k:=22) true zaF U zmH rfl rfl λ_ _ _ _ _ _ _ _ _ _ _ hnw hr hx hpo=>?_;exact (zad (by exact (zcR (zaK (ze6 T) hr xwo hx (zae (zaa 0) zat)))) (zai (by exact (ziq hnw (zpt rfl T.b_sorted (zaK (zh5 T 8) hr xwo hx (zae (zaa 1) zat)))))))
abbrev zuj:List Str:=["numbers"]
abbrev zpc:List Str:=["numbers"]
theorem zrT:zay zuj zpc (zal (top 26)):=⟨rfl,rfl,rfl,xwD,rfl,xwD,xwD⟩
noncomputable def zui:DS:=(zaV (dOr (dOp (gEq false) (zab 0) (dFz (zcV zbr (dA (zab 0) dA0)))) (dOp (gEq false) (zab 0) (dFz (zcV zfv (dA (zab 0) dA0))))))
noncomputable def zjy:FD:=zax false [false] 0 zui
theorem zvy(T:Tx K mg cls):Dfn false P w K mg base (CXe P w) (xvC cls) 3 (Str.ofString "runs") [false] zjy:=by obtain ⟨f,fd,U,hm⟩:=T.u_runs;refine ⟨f,fd,zpc,?_,hm,U.kp,U.binds (ps:=zpc) λ_ _ _ _ _ _ us hl=>match us,hl with|[_],_=>rfl,zas⟩;refine xwQ (k:=2) false zaF U zrT rfl rfl λ_ _ _ _ _ _ _ _ _ _ _ hnw hr hx hpo=>?_;exact (zai (by exact (za5 hnw (zuX (zjg (zhx hr) (zaa 0) (za8 (zfq rfl T.b_sorted (zaa 0)))) (zfI (zjg (zhx hr) (zaa 0) (za8 (zqR rfl T.b_sorted (zaa 0)))))))))
abbrev zsI:List Str:=["tree","seating","places"]
abbrev ziK:List Str:=["tree","seating"]
theorem zmm:zay zsI ziK (zal (top 27)):=⟨rfl,rfl,rfl,xwD,rfl,xwD,xwD⟩
abbrev zfS:List Str:=["tree","seating","places","branch"]
theorem zm0:zfS.Nodup:=by decide +kernel
abbrev zfH:List Str:=["tree","seating","places","branch"]
theorem zm7:zfH.Nodup:=by decide +kernel
noncomputable def zg0(F_self:FD):DS:=(zaw (dIf (dTB (zaj zbt (dR (zab 0) dR0))) (zaV (dC (.bl true))) dNx) (zaw (dIf (zb2 (dTB (zaj zj9 (dR (zab 1) (dR (zaj zbB (dR (zab 0) dR0)) dR0))))) (zaV (dC (.bl false))) dNx) (zaw (dIf (dTB (dOp (gEq false) (dOp gIx (zab 0) (dC (.int 0))) (dC (.str (Str.ofString "row"))))) (zaw (zbc 2 (dFz (zaY (dIt (dOp gIx (zab 0) (dC (.int 1)))) (zaU 3) dTT (zjr (zab 1) (dOp gIx (zaj zbB (dR (zab 3) dR0)) (dC (.int 0)))) 1))) (dIf (zb2 (dTB (zaj zjy (dR (zab 2) dR0)))) (zaV (dC (.bl false))) dNx)) dNx) (zaV (dFn zkK (dA (dFz (zaY (dIt (dOp gIx (zab 0) (dC (.int 1)))) (zaU 3) dTT (zaj F_self (dR (zab 3) (dR (zab 1) dR0))) 1)) dA0))))))
noncomputable def zf4:Nat->FD
 |0=>λ_=>.no
 |n+1=>zax false [false,false] 1 (zg0 (zf4 n))
theorem zox(T:Tx K mg cls):∀ n,Dfn false P w K mg base (CXe P w) (xvC cls) (n+18) (Str.ofString "keeps") [false,false] (zf4 n)
 |0=>by obtain ⟨f,fd,U,hm⟩:=T.u_keeps;exact zcH rfl U hm (U.binds (ps:=ziK) λ_ _ _ _ _ _ us hl=>match us,hl with|[_,_],_=>rfl)
 |n+1=>by have DS:=zox T n;obtain ⟨f,fd,U,hm⟩:=T.u_keeps;refine ⟨f,fd,ziK,?_,hm,U.kp,U.binds (ps:=ziK) λ_ _ _ _ _ _ us hl=>match us,hl with|[_,_],_=>rfl,zas⟩;refine zff.mono (j:=(n+18)+1) ?_ xwo;refine zaI (k:=n+18) false zaF U zmm rfl rfl λX C hX hpp hxv hnw hr hx hpo=>?_;obtain ⟨cG,cH,cw,cpp,cσ,cex,cxv,cnw⟩:=C;dsimp only at hpp hxv hnw;subst hpp hxv hnw;have hnw:(false:Bool)=false:=rfl;obtain ⟨cdv,A,outer,s,H,E,rfl⟩:=hX;exact (zad (by exact (zbN (zbJ (zaK (zgw T) hr xwo hx (zae (zaa 0) zat))) (zai (by exact (za5 hnw zdB))) zaH)) (zad (by exact (zbN (ze8 (zbJ (zaK (ztX T) hr xwo hx (zae (zaa 1) (zae (zaK (zgB T) hr xwo hx (zae (zaa 0) zat)) zat))))) (zai (by exact (za5 hnw zdB))) zaH)) (zad (by exact (zbN (zng (zhx hr) (zbP (zaa 0) zar) zez) (zad (by exact (zfy (i:=2) zmm.nd rfl xwO (xwN rfl) (zbS (zbP (zaa 0) zar)) rfl (N':=zfS) (m:=1) xwk rfl (zbg xwk) (zbA xwk) (zbT xwk) (λcl L s H fp G H' w Y=>⟨(zaM (i:=3) zm0 rfl xwO (xwN rfl)),zdn,(znw (zqx hr) (zaa 1) (zbP (zaK (zgB T) hr xwo (zr1 λ_ z=>z) (zae (zaa 3) zat)) zar))⟩))) (zai (by exact (zbN (ze8 (zbJ (zaK (zvy T) hr xwo hx (zae (zaa 2) zat)))) (zai (by exact (za5 hnw zdB))) zaH)))) zaH)) (zai (by exact (za5 hnw (zsl rfl T.b_all (za8 (zdy (zbS (zbP (zaa 0) zar)) rfl (N':=zfH) (m:=1) xwk rfl (zbg xwk) (zbA xwk) (zbT xwk) (λcl L s H fp G H' w Y=>⟨(zaM (i:=3) zm7 rfl xwO (xwN rfl)),zdn,(zaK DS hr (wal _) (zr1 λ_ z=>z) (zae (zaa 3) (zae (zaa 1) zat)))⟩))))))))))
abbrev zns:List Str:=["n","tree","seating"]
abbrev zg3:List Str:=["n","tree","seating"]
theorem zmT:zay zns zg3 (zal (top 28)):=⟨rfl,rfl,rfl,xwD,rfl,xwD,xwD⟩
noncomputable def zom:DS:=(zaV (ziZ (zaj zcI (dR (zab 0) (dR (zab 2) dR0))) (zaj (zf4 8) (dR (zab 1) (dR (zab 2) dR0)))))
noncomputable def zbM:FD:=zax false [false,false,false] 0 zom
theorem zg6(T:Tx K mg cls):Dfn false P w K mg base (CXe P w) (xvC cls) 29 (Str.ofString "has_row") [false,false,false] zbM:=by obtain ⟨f,fd,U,hm⟩:=T.u_has_row;refine ⟨f,fd,zg3,?_,hm,U.kp,U.binds (ps:=zg3) λ_ _ _ _ _ _ us hl=>match us,hl with|[_,_,_],_=>rfl,zas⟩;refine xwQ (k:=28) false zaF U zmT rfl rfl λ_ _ _ _ _ _ _ _ _ _ _ hnw hr hx hpo=>?_;exact (zai (by exact (za5 hnw (zh4 (zaK (zjB T) hr xwo hx (zae (zaa 0) (zae (zaa 2) zat))) (zfI (zaK (zox T 8) hr xwo hx (zae (zaa 1) (zae (zaa 2) zat))))))))
abbrev zqa:List Str:=["n","tree","number","rows"]
abbrev ziO:List Str:=["n","tree","number"]
theorem zjF:zay zqa ziO (zal (top 29)):=⟨rfl,rfl,rfl,xwD,rfl,xwD,xwD⟩
noncomputable def zgb:DS:=(zaw (zbc 3 (dFz (zc4 zbL (dR (zab 0) (dR (zab 1) dR0))))) (zaw (dIf (zh1 (zb2 (dTB (zaj zbm (dR (zab 2) dR0)))) (zh1 (dTB (dOp gLt (zab 2) (dC (.int 0)))) (dTB (dOp gGe (zab 2) (dFn zcG (dA (zab 3) dA0)))))) (zhI 2 (dA (dC (.str (Str.ofString "this is no number of a row of the tree"))) dA0)) dNx) (zaV (dOp gIx (zab 3) (zab 2)))))
noncomputable def zdo:FD:=zax false [false,false,false] 1 zgb
theorem zlC(T:Tx K mg cls):Dfn false P w K mg base (CXe P w) (xvC cls) 26 (Str.ofString "row_at") [false,false,false] zdo:=by obtain ⟨f,fd,U,hm⟩:=T.u_row_at;refine ⟨f,fd,ziO,?_,hm,U.kp,U.binds (ps:=ziO) λ_ _ _ _ _ _ us hl=>match us,hl with|[_,_,_],_=>rfl,zas⟩;refine xwQ (k:=25) false zaF U zjF rfl rfl λ_ _ _ _ _ _ _ _ _ _ _ hnw hr hx hpo=>?_;exact (zad (by exact (zaX (i:=3) zjF.nd rfl xwO (xwN rfl) (za8 (zsY (zkq T) hr xwo hx (zae (zaa 0) (zae (zaa 1) zat)))))) (zad (by exact (zbN (JW.jt (zll (ze8 (zbJ (zaK (zfw T) hr xwo hx (zae (zaa 2) zat)))) (zll (zty (zaa 2) zar) (zjj (zuA (zaa 2) (zfe T.b_len (zaa 3))))))) (zai (by exact (zi4 hx rfl (T.xc 2 xwd).cls T.xm2 rfl (zao zez za4)))) zaH)) (zai (by exact (za5 hnw (zbP (zaa 3) (zaa 2)))))))
abbrev zk4:List Str:=["n","tree","seating"]
abbrev zeA:List Str:=["n","tree","seating"]
theorem zjG:zay zk4 zeA (zal (top 30)):=⟨rfl,rfl,rfl,xwD,rfl,xwD,xwD⟩
noncomputable def zdr:DS:=(zaw (dIf (zb2 (dTB (zaj zbM (dR (zab 0) (dR (zab 1) (dR (zab 2) dR0)))))) (zhI 2 (dA (dC (.str (Str.ofString "this seating is no row of the tree"))) dA0)) dNx) (zaV (zv4 (dFz (zc4 zbL (dR (zab 0) (dR (zab 1) dR0)))) (zab 2))))
noncomputable def zbv:FD:=zax false [false,false,false] 0 zdr
theorem zgO(T:Tx K mg cls):Dfn false P w K mg base (CXe P w) (xvC cls) 32 (Str.ofString "number_of") [false,false,false] zbv:=by obtain ⟨f,fd,U,hm⟩:=T.u_number_of;refine ⟨f,fd,zeA,?_,hm,U.kp,U.binds (ps:=zeA) λ_ _ _ _ _ _ us hl=>match us,hl with|[_,_,_],_=>rfl,zas⟩;refine xwQ (k:=31) false zaF U zjG rfl rfl λ_ _ _ _ _ _ _ _ _ _ _ hnw hr hx hpo=>?_;exact (zad (by exact (zbN (ze8 (zbJ (zaK (zg6 T) hr xwo hx (zae (zaa 0) (zae (zaa 1) (zae (zaa 2) zat)))))) (zai (by exact (zi4 hx rfl (T.xc 2 xwd).cls T.xm2 rfl (zao zez za4)))) zaH)) (zai (by exact (za5 hnw (zuO (zqx hr) (za8 (zsY (zkq T) hr xwo hx (zae (zaa 0) (zae (zaa 1) zat)))) (zaa 2))))))
abbrev zhw:List Str:=["script","k"]
abbrev zcQ:List Str:=["script","k"]
theorem zgj:zay zhw zcQ (zal (top 32)):=⟨rfl,rfl,rfl,xwD,rfl,xwD,xwD⟩
noncomputable def zb3:DS:=(zaw (dIf (dTB (dOp gLt (zab 1) (dFn zcG (dA (zab 0) dA0)))) (zaV (dOp gIx (zab 0) (zab 1))) dNx) (zaV (dC (.int 0))))
noncomputable def zcd:FD:=zax false [false,false] 0 zb3
theorem zhm(T:Tx K mg cls):Dfn false P w K mg base (CXe P w) (xvC cls) 3 (Str.ofString "_law_cell_at") [false,false] zcd:=by obtain ⟨f,fd,U,hm⟩:=T.u__law_cell_at;refine ⟨f,fd,zcQ,?_,hm,U.kp,U.binds (ps:=zcQ) λ_ _ _ _ _ _ us hl=>match us,hl with|[_,_],_=>rfl,zas⟩;refine xwQ (k:=2) false zaF U zgj rfl rfl λ_ _ _ _ _ _ _ _ _ _ _ hnw hr hx hpo=>?_;exact (zad (by exact (zbN (zty (zaa 1) (zfe T.b_len (zaa 0))) (zai (by exact (za5 hnw (zbP (zaa 0) (zaa 1))))) zaH)) (zai (by exact (za5 hnw zar))))
abbrev zj5:List Str:=["script","k","cell"]
abbrev zdU:List Str:=["script","k"]
theorem zfj:zay zj5 zdU (zal (top 33)):=⟨rfl,rfl,rfl,xwD,rfl,xwD,xwD⟩
noncomputable def zci:DS:=(zaw (zbc 2 (zaj zcd (dR (zab 0) (dR (zab 1) dR0)))) (zaw (dIf (dTB (dOp gGe (zab 2) (dOp znr (dC (.int 10)) (dC (.int 18))))) (zdL (zbQ (dA (dOp zm6 (zab 2) (dOp znr (dC (.int 10)) (dC (.int 18)))) (dA (dC (.bl true)) dA0)))) dNx) (zdL (zbQ (dA (dOp zmO (zab 2) (dC (.int 2147483647))) (dA (dC (.bl false)) dA0))))))
noncomputable def zck:FD:=zax true [false,false] 1 zci
theorem zjN(T:Tx K mg cls):Dfn true P w K mg base (CXe P w) (xvC cls) 6 (Str.ofString "_law_state") [false,false] zck:=by obtain ⟨f,fd,U,hm⟩:=T.u__law_state;refine ⟨f,fd,zdU,?_,hm,U.kp,U.binds (ps:=zdU) λ_ _ _ _ _ _ us hl=>match us,hl with|[_,_],_=>rfl,zas⟩;refine xwQ (k:=5) true zaF U zfj rfl rfl λ_ _ _ _ _ _ _ _ _ _ _ hnw hr hx hpo=>?_;exact (zad (by exact (zaX (i:=2) zfj.nd rfl xwO (xwN rfl) (zaK (zhm T) hr xwo hx (zae (zaa 0) (zae (zaa 1) zat))))) (zad (by exact (zbN (zuA (zaa 2) (znB zar zar)) (zai (by exact (ziq hnw (zbz (zao (zmj (zaa 2) (znB zar zar)) (zao zdB za4)))))) zaH)) (zai (by exact (ziq hnw (zbz (zao (zh3 (zaa 2) zar) (zao zdB za4))))))))
abbrev zkw:List Str:=["state","many","found","stirred"]
abbrev zeE:List Str:=["state","many"]
theorem zcK:zay zkw zeE (zal (top 34)):=⟨rfl,rfl,rfl,xwD,rfl,xwD,xwD⟩
noncomputable def zeK:DS:=(zaw (dIf (dTB (zoD 0 (dC (.int 1)))) (zaw (zbc 2 (dOp zmO (zoD 0 (dC (.int 0))) (zab 1))) (zaw (zn9 0 (dOp zpG (zoD 0 (dC (.int 0))) (zab 1)) (dC (.int 0))) (zaV (zab 2)))) dNx) (zaw (zn9 0 (dOp zmO (dOp zdK (dOp znY (zoD 0 (dC (.int 0))) (dC (.int 48271))) (dC (.int 29))) (dC (.int 2147483647))) (dC (.int 0))) (zaw (zbc 3 (dOp zmO (dOp zdK (dOp zdK (dOp znY (zoD 0 (dC (.int 0))) (zoD 0 (dC (.int 0)))) (dOp znY (dC (.int 39373)) (zoD 0 (dC (.int 0))))) (dC (.int 7))) (dC (.int 2147483629)))) (zaw (zbc 3 (dOp zmO (dOp zdK (dOp znY (zab 3) (zab 3)) (dOp znY (dC (.int 16807)) (zab 3))) (dC (.int 2147483587)))) (zaV (dOp zmO (dOp zpG (zab 3) (dC (.int 8))) (zab 1)))))))
noncomputable def zaq:FD:=zax false [true,false] 2 zeK
theorem zca(T:Tx K mg cls):Dfn false P w K mg base (CXe P w) (xvC cls) 3 (Str.ofString "_law_take") [true,false] zaq:=by obtain ⟨f,fd,U,hm⟩:=T.u__law_take;refine ⟨f,fd,zeE,?_,hm,U.kp,U.binds (ps:=zeE) λ_ _ _ _ _ _ us hl=>match us,hl with|[_,_],_=>rfl,zas⟩;refine xwQ (k:=2) false zaF U zcK rfl rfl λ_ _ _ _ _ _ _ _ _ _ _ hnw hr hx hpo=>?_;exact (zad (by exact (zbN (zbJ (zgE 0 (hb:=zar))) (zad (by exact (zaX (i:=2) zcK.nd rfl xwO (xwN rfl) (zh3 (zgE 0 (hb:=zar)) (zaa 1)))) (zad (by exact (zpf 0 (zrx (zgE 0 (hb:=zar)) (zaa 1)) zar)) (zai (by exact (za5 hnw (zaa 2)))))) zaH)) (zad (by exact (zpf 0 (zh3 (zeS (zji (zgE 0 (hb:=zar)) zar) zar) zar) zar)) (zad (by exact (zaX (i:=3) zcK.nd rfl xwO (xwN rfl) (zh3 (zeS (zeS (zji (zgE 0 (hb:=zar)) (zgE 0 (hb:=zar))) (zji zar (zgE 0 (hb:=zar)))) zar) zar))) (zad (by exact (zaX (i:=3) zcK.nd rfl xwO (xwN rfl) (zh3 (zeS (zji (zaa 3) (zaa 3)) (zji zar (zaa 3))) zar))) (zai (by exact (za5 hnw (zh3 (zrx (zaa 3) zar) (zaa 1)))))))))
abbrev zfY:List Str:=["state","things","left","found"]
abbrev zct:List Str:=["state","things"]
theorem zbZ:zay zfY zct (zal (top 35)):=⟨rfl,rfl,rfl,xwD,rfl,xwD,xwD⟩
noncomputable def zcu:DS:=(zaw (zb6 2 (zcV zkR (dA (zab 1) dA0))) (zaw (zb6 3 (zbQ dA0)) (zaw (zbp (dTB (ztC true 2 (dFz (zbQ dA0)))) (dEx (zev 3 (zhE 2 (zaj zaq (dRO 0 (dR (zm9 2) dR0)))))) 10) (zaV (zd8 3)))))
noncomputable def zaL:FD:=zax false [true,false] 2 zcu
theorem zd1(T:Tx K mg cls):Dfn false P w K mg base (CXe P w) (xvC cls) 6 (Str.ofString "_law_mixed_row") [true,false] zaL:=by obtain ⟨f,fd,U,hm⟩:=T.u__law_mixed_row;refine ⟨f,fd,zct,?_,hm,U.kp,U.binds (ps:=zct) λ_ _ _ _ _ _ us hl=>match us,hl with|[_,_],_=>rfl,zas⟩;refine xwQ (k:=5) false zaF U zbZ rfl rfl λ_ _ _ _ _ _ _ _ _ _ _ hnw hr hx hpo=>?_;exact (zad (by exact (zdu (i:=2) zbZ.nd rfl xwO (xwN rfl) (zvr T.b_list (zaa 1)))) (zad (by exact (zdu (i:=3) zbZ.nd rfl xwO (xwN rfl) (zbz za4))) (zad (by exact (zlP 10 hpo (zuT 2 (zhx hr) (za8 (zbz za4))) (zai (by exact (zcR (zla 3 (zpY 2 (zaK (zca T) hr xwo hx (ze0 0 (zae (ztb 2 rfl T.b_len) zat)))))))))) (zai (by exact (za5 hnw (ze7 3)))))))
abbrev zlm:List Str:=["state","guests","row","many","pieces","guest","branches"]
abbrev zds:List Str:=["state","guests"]
theorem zbF:zay zlm zds (zal (top 36)):=⟨rfl,rfl,rfl,xwD,rfl,xwD,xwD⟩
abbrev zd5:List Str:=["state","guests","row","many","pieces","%5","branches","guest"]
theorem zhp:zd5.Nodup:=by decide +kernel
abbrev zd0:List Str:=["state","guests","row","many","pieces","guest","branches","piece"]
theorem zhn:zd0.Nodup:=by decide +kernel
noncomputable def zbY(F_self:FD):DS:=(zaw (dIf (dTB (dOp (gEq false) (dFn zcG (dA (zab 1) dA0)) (dC (.int 1)))) (zaV (dOp gIx (zab 1) (dC (.int 0)))) dNx) (zaw (zbc 2 (zaj zaL (dRO 0 (dR (zab 1) dR0)))) (zaw (zbc 3 (dOp zdK (dC (.int 2)) (zaj zaq (dRO 0 (dR (dOp zm6 (dFn zcG (dA (zab 2) dA0)) (dC (.int 1))) dR0))))) (zaw (zme 4 (dIt (dFz (zmL (zab 2) dO0 (dO1 (zab 3))))) (zaU 7) dTT (zbQ (dA (zab 7) dA0)) 1) (zaw (zeU (dIt (dFz (zmL (zab 2) (dO1 (zab 3)) dO0))) (zaU 5) (dEx (zkc 4 5 (zaj zaq (dRO 0 (dR (zab 3) dR0)))))) (zaw (zbc 6 (dFn ze9 (dA (dFz (zaY (dIt (zd8 4)) (zaU 7) dTT (zaj F_self (dRO 0 (dR (zab 7) dR0))) 1)) dA0))) (zaw (dIf (ziU (dTB (dOp gGt (zab 3) (dC (.int 2)))) (dTB (dOp (gEq false) (zaj zaq (dRO 0 (dR (dC (.int 2)) dR0))) (dC (.int 1))))) (zaV (zgD (dA (dC (.str (Str.ofString "row"))) (dA (zab 6) dA0)))) dNx) (zaV (zgD (dA (dC (.str (Str.ofString "any"))) (dA (zab 6) dA0)))))))))))
noncomputable def zaN:Nat->FD
 |0=>λ_=>.no
 |n+1=>zax false [true,false] 5 (zbY (zaN n))
theorem zgu(T:Tx K mg cls):∀ n,Dfn false P w K mg base (CXe P w) (xvC cls) (n+8) (Str.ofString "_law_tree") [true,false] (zaN n)
 |0=>by obtain ⟨f,fd,U,hm⟩:=T.u__law_tree;exact zcH rfl U hm (U.binds (ps:=zds) λ_ _ _ _ _ _ us hl=>match us,hl with|[_,_],_=>rfl)
 |n+1=>by have DS:=zgu T n;obtain ⟨f,fd,U,hm⟩:=T.u__law_tree;refine ⟨f,fd,zds,?_,hm,U.kp,U.binds (ps:=zds) λ_ _ _ _ _ _ us hl=>match us,hl with|[_,_],_=>rfl,zas⟩;refine zff.mono (j:=(n+8)+1) ?_ xwo;refine zaI (k:=n+8) false zaF U zbF rfl rfl λX C hX hpp hxv hnw hr hx hpo=>?_;obtain ⟨cG,cH,cw,cpp,cσ,cex,cxv,cnw⟩:=C;dsimp only at hpp hxv hnw;subst hpp hxv hnw;have hnw:(false:Bool)=false:=rfl;obtain ⟨cdv,A,outer,s,H,E,rfl⟩:=hX;exact (zad (by exact (zbN (zng (zhx hr) (zfe T.b_len (zaa 1)) zar) (zai (by exact (za5 hnw (zbP (zaa 1) zar)))) zaH)) (zad (by exact (zaX (i:=2) zbF.nd rfl xwO (xwN rfl) (zaK (zd1 T) hr xwo hx (ze0 0 (zae (zaa 1) zat))))) (zad (by exact (zaX (i:=3) zbF.nd rfl xwO (xwN rfl) (zeS zar (zaK (zca T) hr xwo hx (ze0 0 (zae (zmj (zfe T.b_len (zaa 2)) zar) zat)))))) (zad (by exact (zkP (i:=4) zbF.nd rfl xwO (xwN rfl) (zbS (za8 (zlL (zaa 2) zeR (zeL (zaa 3))))) rfl (N':=zd5) (m:=1) xwk rfl (zbg xwk) (zbA xwk) (zbT xwk) (λcl L s H fp G H' w Y=>⟨(zaM (i:=7) zhp rfl xwO (xwN rfl)),zdn,(zbz (zao (zaa 7) za4))⟩))) (zad (by exact (zcX hpo rfl (zbS (za8 (zlL (zaa 2) (zeL (zaa 3)) zeR))) (zaM (i:=5) zbF.nd rfl xwO (xwN rfl)) (zai (by exact (zcR (zs9 4 5 (zaK (zca T) hr xwo hx (ze0 0 (zae (zaa 3) zat))))))))) (zad (by exact (zaX (i:=6) zbF.nd rfl xwO (xwN rfl) (znU T.b_tuple (za8 (zdy (zbS (ze7 4)) rfl (N':=zd0) (m:=1) xwk rfl (zbg xwk) (zbA xwk) (zbT xwk) (λcl L s H fp G H' w Y=>⟨(zaM (i:=7) zhn rfl xwO (xwN rfl)),zdn,(zaK DS hr (wal _) (zr1 λ_ z=>z) (ze0 0 (zae (zaa 7) zat)))⟩)))))) (zad (by exact (zbN (JW.jt (zrb (zuM (zaa 3) zar) (znM (zng (zhx hr) (zaK (zca T) hr xwo hx (ze0 0 (zae zar zat))) zar)))) (zai (by exact (za5 hnw (zfL (zao zez (zao (zaa 6) za4)))))) zaH)) (zai (by exact (za5 hnw (zfL (zao zez (zao (zaa 6) za4)))))))))))))
abbrev zka:List Str:=["n","found","turn","longer","row"]
abbrev zdO:List Str:=["n"]
theorem zby:zay zka zdO (zal (top 37)):=⟨rfl,rfl,rfl,xwD,rfl,xwD,xwD⟩
abbrev zdc:List Str:=["n","found","turn","longer","row","guest"]
theorem zg1:zdc.Nodup:=by decide +kernel
noncomputable def zdV:DS:=(zaw (zbc 1 (dC (.lst [(.tup [])]))) (zaw (zeU (zbH (zab 0)) (zaU 2) (zaw (zb6 3 (zbQ dA0)) (zaw (zeU (dIt (zab 1)) (zaU 4) (dEx (zeP 3 (dFz (zaY (zbH (zab 0)) (zaU 5) (dTB (dOp (gIn true) (zab 5) (zab 4))) (dOp zfB (zab 4) (zgD (dA (zab 5) dA0))) 1))))) (zbc 1 (zd8 3))))) (zaV (zab 1))))
noncomputable def zcn:FD:=zax false [false] 4 zdV
theorem zjX(T:Tx K mg cls):Dfn false P w K mg base (CXe P w) (xvC cls) 3 (Str.ofString "_law_perms") [false] zcn:=by obtain ⟨f,fd,U,hm⟩:=T.u__law_perms;refine ⟨f,fd,zdO,?_,hm,U.kp,U.binds (ps:=zdO) λ_ _ _ _ _ _ us hl=>match us,hl with|[_],_=>rfl,zas⟩;refine xwQ (k:=2) false zaF U zby rfl rfl λ_ _ _ _ _ _ _ _ _ _ _ hnw hr hx hpo=>?_;exact (zad (by exact (zaX (i:=1) zby.nd rfl xwO (xwN rfl) (by refine jd 40 ?_;kernel_rfl))) (zad (by exact (zcX hpo rfl (zcA rfl T.b_range (zaa 0)) (zaM (i:=2) zby.nd rfl xwO (xwN rfl)) (zad (by exact (zdu (i:=3) zby.nd rfl xwO (xwN rfl) (zbz za4))) (zad (by exact (zcX hpo rfl (zbS (zaa 1)) (zaM (i:=4) zby.nd rfl xwO (xwN rfl)) (zai (by exact (zcR (zik 3 (za8 (zdy (zcA rfl T.b_range (zaa 0)) rfl (N':=zdc) (m:=1) xwk rfl (zbg xwk) (zbA xwk) (zbT xwk) (λcl L s H fp G H' w Y=>⟨(zaM (i:=5) zg1 rfl xwO (xwN rfl)),(ziG (zl2 (zqx hr) (zaa 5) (zaa 4))),(zn8 (zaa 4) (zfL (zao (zaa 5) za4)))⟩))))))))) (zai (by exact (zaX (i:=1) zby.nd rfl xwO (xwN rfl) (ze7 3)))))))) (zai (by exact (za5 hnw (zaa 1))))))
abbrev zia:List Str:=["tree","found","branch"]
abbrev zcx:List Str:=["tree"]
theorem zce:zay zia zcx (zal (top 38)):=⟨rfl,rfl,rfl,xwD,rfl,xwD,xwD⟩
noncomputable def zdx(F_self:FD):DS:=(zaw (dIf (dTB (zfQ "int" (zab 0))) (zaV (dFz (zbQ (dA (zab 0) dA0)))) dNx) (zaw (zbc 1 (dFz (zbQ dA0))) (zaw (zeU (dIt (dOp gIx (zab 0) (dC (.int 1)))) (zaU 2) (zbc 1 (dFz (zgM (zab 1) (zaj F_self (dR (zab 2) dR0)))))) (zaV (zab 1)))))
noncomputable def zaO:Nat->FD
 |0=>λ_=>.no
 |n+1=>zax false [false] 2 (zdx (zaO n))
theorem zcy(T:Tx K mg cls):∀ n,Dfn false P w K mg base (CXe P w) (xvC cls) (n+2) (Str.ofString "_law_leaves") [false] (zaO n)
 |0=>by obtain ⟨f,fd,U,hm⟩:=T.u__law_leaves;exact zcH rfl U hm (U.binds (ps:=zcx) λ_ _ _ _ _ _ us hl=>match us,hl with|[_],_=>rfl)
 |n+1=>by have DS:=zcy T n;obtain ⟨f,fd,U,hm⟩:=T.u__law_leaves;refine ⟨f,fd,zcx,?_,hm,U.kp,U.binds (ps:=zcx) λ_ _ _ _ _ _ us hl=>match us,hl with|[_],_=>rfl,zas⟩;refine zff.mono (j:=(n+2)+1) ?_ xwo;refine zaI (k:=n+2) false zaF U zce rfl rfl λX C hX hpp hxv hnw hr hx hpo=>?_;obtain ⟨cG,cH,cw,cpp,cσ,cex,cxv,cnw⟩:=C;dsimp only at hpp hxv hnw;subst hpp hxv hnw;have hnw:(false:Bool)=false:=rfl;obtain ⟨cdv,A,outer,s,H,E,rfl⟩:=hX;exact (zad (by exact (zbN (zbJ (zd2 zk1 rfl T.b_isinstance zdf rfl T.b_int znj (zaa 0))) (zai (by exact (za5 hnw (za8 (zbz (zao (zaa 0) za4)))))) zaH)) (zad (by exact (zaX (i:=1) zce.nd rfl xwO (xwN rfl) (za8 (zbz za4)))) (zad (by exact (zcX hpo rfl (zbS (zbP (zaa 0) zar)) (zaM (i:=2) zce.nd rfl xwO (xwN rfl)) (zai (by exact (zaX (i:=1) zce.nd rfl xwO (xwN rfl) (za8 (by refine zj4 (zaa 1) ?_;exact (zaK DS hr (wal _) hx (zae (zaa 2) zat))))))))) (zai (by exact (za5 hnw (zaa 1)))))))
abbrev zh0:List Str:=["tree","row","left","places","here","many"]
abbrev zch:List Str:=["tree","row"]
theorem zbe:zay zh0 zch (zal (top 39)):=⟨rfl,rfl,rfl,xwD,rfl,xwD,xwD⟩
abbrev zcF:List Str:=["tree","row","left","places","here","many","at"]
theorem zf0:zcF.Nodup:=by decide +kernel
noncomputable def zbn(F_self:FD):DS:=(zaw (dIf (dTB (zfQ "int" (zab 0))) (zaV (dOp (gEq false) (zab 1) (zgD (dA (zab 0) dA0)))) dNx) (zaw (zbc 2 (zab 1)) (zaw (zb6 3 (zbQ dA0)) (zaw (zbp (dTB (dOp (gEq true) (zab 2) (zgD dA0))) (zaw (zbc 4 (dOp gIx (dFz (zaY (zbH (dFn zcG (dA (dOp gIx (zab 0) (dC (.int 1))) dA0))) (zaU 6) (dTB (dOp (gIn false) (dOp gIx (zab 2) (dC (.int 0))) (zaj (zaO 8) (dR (dOp gIx (dOp gIx (zab 0) (dC (.int 1))) (zab 6)) dR0)))) (zab 6) 1)) (dC (.int 0)))) (zaw (zbc 5 (dFn zcG (dA (zaj (zaO 8) (dR (dOp gIx (dOp gIx (zab 0) (dC (.int 1))) (zab 4)) dR0)) dA0))) (zaw (dIf (zh1 (dTB (zqz false 3 (zab 4))) (dTB (dOp (gEq true) (dFz (zcV zc6 (dA (zf6 (zab 2) dO0 (dO1 (zab 5))) dA0))) (dFz (zcV zbr (dA (zaj (zaO 8) (dR (dOp gIx (dOp gIx (zab 0) (dC (.int 1))) (zab 4)) dR0)) dA0)))))) (zaV (dC (.bl false))) dNx) (zaw (dIf (zb2 (dTB (zaj F_self (dR (dOp gIx (dOp gIx (zab 0) (dC (.int 1))) (zab 4)) (dR (zf6 (zab 2) dO0 (dO1 (zab 5))) dR0))))) (zaV (dC (.bl false))) dNx) (zaw (dEx (zev 3 (zab 4))) (zbc 2 (zf6 (zab 2) (dO1 (zab 5)) dO0))))))) 10) (zaV (dOr (dOp (gEq false) (dOp gIx (zab 0) (dC (.int 0))) (dC (.str (Str.ofString "any")))) (dOp (gIn false) (zd8 3) (zgD (dA (dFz (zcV zbr (dA (zd8 3) dA0))) (dA (dFz (zhk (dFz (zcV zbr (dA (zd8 3) dA0))))) dA0))))))))))
noncomputable def zbl:Nat->FD
 |0=>λ_=>.no
 |n+1=>zax false [false,false] 4 (zbn (zbl n))
theorem ze4(T:Tx K mg cls):∀ n,Dfn false P w K mg base (CXe P w) (xvC cls) (n+12) (Str.ofString "_law_of_tree") [false,false] (zbl n)
 |0=>by obtain ⟨f,fd,U,hm⟩:=T.u__law_of_tree;exact zcH rfl U hm (U.binds (ps:=zch) λ_ _ _ _ _ _ us hl=>match us,hl with|[_,_],_=>rfl)
 |n+1=>by have DS:=ze4 T n;obtain ⟨f,fd,U,hm⟩:=T.u__law_of_tree;refine ⟨f,fd,zch,?_,hm,U.kp,U.binds (ps:=zch) λ_ _ _ _ _ _ us hl=>match us,hl with|[_,_],_=>rfl,zas⟩;refine zff.mono (j:=(n+12)+1) ?_ xwo;refine zaI (k:=n+12) false zaF U zbe rfl rfl λX C hX hpp hxv hnw hr hx hpo=>?_;obtain ⟨cG,cH,cw,cpp,cσ,cex,cxv,cnw⟩:=C;dsimp only at hpp hxv hnw;subst hpp hxv hnw;have hnw:(false:Bool)=false:=rfl;obtain ⟨cdv,A,outer,s,H,E,rfl⟩:=hX;exact (zad (by exact (zbN (zbJ (zd2 zk1 rfl T.b_isinstance zdf rfl T.b_int znj (zaa 0))) (zai (by exact (za5 hnw (zjg (zhx hr) (zaa 1) (zfL (zao (zaa 0) za4)))))) zaH)) (zad (by exact (zaX (i:=2) zbe.nd rfl xwO (xwN rfl) (zaa 1))) (zad (by exact (zdu (i:=3) zbe.nd rfl xwO (xwN rfl) (zbz za4))) (zad (by exact (zlP 10 hpo (zk8 (zhx hr) (zaa 2) (zfL za4)) (zad (by exact (zaX (i:=4) zbe.nd rfl xwO (xwN rfl) (zbP (za8 (zdy (zcA rfl T.b_range (zfe T.b_len (zbP (zaa 0) zar))) rfl (N':=zcF) (m:=1) xwk rfl (zbg xwk) (zbA xwk) (zbT xwk) (λcl L s H fp G H' w Y=>⟨(zaM (i:=6) zf0 rfl xwO (xwN rfl)),(ziG (zvM (zqx hr) (zbP (zaa 2) zar) (zaK (zcy T 8) hr xwo (zr1 λ_ z=>z) (zae (zbP (zbP (zaa 0) zar) (zaa 6)) zat)))),(zaa 6)⟩))) zar))) (zad (by exact (zaX (i:=5) zbe.nd rfl xwO (xwN rfl) (zfe T.b_len (zaK (zcy T 8) hr xwo hx (zae (zbP (zbP (zaa 0) zar) (zaa 4)) zat))))) (zad (by exact (zbN (JW.jt (zll (zuF 3 (zqx hr) (zaa 4)) (zjj (zk8 (zhx hr) (za8 (zms rfl T.b_sorted (zkO (zaa 2) zeR (zeL (zaa 5))))) (za8 (zfq rfl T.b_sorted (zaK (zcy T 8) hr xwo hx (zae (zbP (zbP (zaa 0) zar) (zaa 4)) zat)))))))) (zai (by exact (za5 hnw zdB))) zaH)) (zad (by exact (zbN (ze8 (zbJ (zaK DS hr (wal _) hx (zae (zbP (zbP (zaa 0) zar) (zaa 4)) (zae (zkO (zaa 2) zeR (zeL (zaa 5))) zat))))) (zai (by exact (za5 hnw zdB))) zaH)) (zad (by exact (zcR (zla 3 (zaa 4)))) (zai (by exact (zaX (i:=2) zbe.nd rfl xwO (xwN rfl) (zkO (zaa 2) (zeL (zaa 5)) zeR))))))))))) (zai (by exact (za5 hnw (zuX (zjg (zhx hr) (zbP (zaa 0) zar) zez) (zfI (ztI (zqx hr) (ze7 3) (zfL (zao (za8 (zfq rfl T.b_sorted (ze7 3))) (zao (za8 (zu5 (za8 (zfq rfl T.b_sorted (ze7 3))))) za4)))))))))))))
abbrev zhq:List Str:=["tree","rows"]
abbrev zcS:List Str:=["tree","rows"]
theorem zgT:zay zhq zcS (zal (top 40)):=⟨rfl,rfl,rfl,xwD,rfl,xwD,xwD⟩
abbrev zcB:List Str:=["tree","rows","row"]
theorem zfx:zcB.Nodup:=by decide +kernel
noncomputable def zho:DS:=(zaV (dFz (zaY (dIt (zab 1)) (zaU 2) (dTB (zaj (zbl 8) (dR (zab 0) (dR (zab 2) dR0)))) (zab 2) 1)))
noncomputable def zb7:FD:=zax false [false,false] 0 zho
theorem zhs(T:Tx K mg cls):Dfn false P w K mg base (CXe P w) (xvC cls) 23 (Str.ofString "_law_rows_by") [false,false] zb7:=by obtain ⟨f,fd,U,hm⟩:=T.u__law_rows_by;refine ⟨f,fd,zcS,?_,hm,U.kp,U.binds (ps:=zcS) λ_ _ _ _ _ _ us hl=>match us,hl with|[_,_],_=>rfl,zas⟩;refine xwQ (k:=22) false zaF U zgT rfl rfl λ_ _ _ _ _ _ _ _ _ _ _ hnw hr hx hpo=>?_;exact (zai (by exact (za5 hnw (za8 (zdy (zbS (zaa 1)) rfl (N':=zcB) (m:=1) xwk rfl (zbg xwk) (zbA xwk) (zbT xwk) (λcl L s H fp G H' w Y=>⟨(zaM (i:=2) zfx rfl xwO (xwN rfl)),(ziG (zbJ (zaK (ze4 T 8) hr xwo (zr1 λ_ z=>z) (zae (zaa 0) (zae (zaa 2) zat))))),(zaa 2)⟩))))))
abbrev zlu:List Str:=["found","due"]
abbrev zdi:List Str:=["found","due"]
theorem zkd:zay zlu zdi (zal (top 41)):=⟨rfl,rfl,rfl,xwD,rfl,xwD,xwD⟩
abbrev zd3:List Str:=["found","due","one","other"]
theorem zhy:zd3.Nodup:=by decide +kernel
noncomputable def zc2(F_self:FD):DS:=(zaw (dIf (dTB (ztr "tuple" "list" (zab 1))) (zaw (dIf (zh1 (dTB (dOp (gEq true) (zfQ "tuple" (zab 0)) (zfQ "tuple" (zab 1)))) (dTB (dOp (gEq true) (zfQ "list" (zab 0)) (zfQ "list" (zab 1))))) (zaV (dC (.bl false))) dNx) (zaw (dIf (dTB (dOp (gEq true) (dFn zcG (dA (zab 0) dA0)) (dFn zcG (dA (zab 1) dA0)))) (zaV (dC (.bl false))) dNx) (zaV (dFn zkK (dA (dFz (zaY (znG (zab 0) (zab 1)) (zlt 2 3) dTT (zaj F_self (dR (zab 2) (dR (zab 3) dR0))) 2)) dA0))))) dNx) (zaV (ziZ (dOp (gEq false) (zab 0) (zab 1)) (dOp (gEq false) (zfQ "bool" (zab 0)) (zfQ "bool" (zab 1))))))
noncomputable def za2:Nat->FD
 |0=>λ_=>.no
 |n+1=>zax false [false,false] 0 (zc2 (za2 n))
theorem zdq(T:Tx K mg cls):∀ n,Dfn false P w K mg base (CXe P w) (xvC cls) (n+2) (Str.ofString "_law_same") [false,false] (za2 n)
 |0=>by obtain ⟨f,fd,U,hm⟩:=T.u__law_same;exact zcH rfl U hm (U.binds (ps:=zdi) λ_ _ _ _ _ _ us hl=>match us,hl with|[_,_],_=>rfl)
 |n+1=>by have DS:=zdq T n;obtain ⟨f,fd,U,hm⟩:=T.u__law_same;refine ⟨f,fd,zdi,?_,hm,U.kp,U.binds (ps:=zdi) λ_ _ _ _ _ _ us hl=>match us,hl with|[_,_],_=>rfl,zas⟩;refine zff.mono (j:=(n+2)+1) ?_ xwo;refine zaI (k:=n+2) false zaF U zkd rfl rfl λX C hX hpp hxv hnw hr hx hpo=>?_;obtain ⟨cG,cH,cw,cpp,cσ,cex,cxv,cnw⟩:=C;dsimp only at hpp hxv hnw;subst hpp hxv hnw;have hnw:(false:Bool)=false:=rfl;obtain ⟨cdv,A,outer,s,H,E,rfl⟩:=hX;exact (zad (by exact (zbN (zbJ (zsL zdP ziv rfl T.b_isinstance zdf rfl T.b_tuple zei rfl T.b_list zif (zaa 1))) (zad (by exact (zbN (JW.jt (zll (zk8 (zhx hr) (zd2 zdP rfl T.b_isinstance zdf rfl T.b_tuple zei (zaa 0)) (zd2 zdP rfl T.b_isinstance zdf rfl T.b_tuple zei (zaa 1))) (zjj (zk8 (zhx hr) (zd2 ziv rfl T.b_isinstance zdf rfl T.b_list zif (zaa 0)) (zd2 ziv rfl T.b_isinstance zdf rfl T.b_list zif (zaa 1)))))) (zai (by exact (za5 hnw zdB))) zaH)) (zad (by exact (zbN (zk8 (zhx hr) (zfe T.b_len (zaa 0)) (zfe T.b_len (zaa 1))) (zai (by exact (za5 hnw zdB))) zaH)) (zai (by exact (za5 hnw (zsl rfl T.b_all (za8 (zdy (ztj rfl T.b_zip (zaa 0) (zaa 1)) rfl (N':=zd3) (m:=2) xwk rfl (zbg xwk) (zbA xwk) (zbT xwk) (λcl L s H fp G H' w Y=>⟨(zrU (i:=2) (j:=3) rfl zhy rfl rfl xwO xwO (xwN rfl) (xwN rfl)),zdn,(zaK DS hr (wal _) (zr1 λ_ z=>z) (zae (zaa 2) (zae (zaa 3) zat)))⟩))))))))) zaH)) (zai (by exact (za5 hnw (zh4 (zjg (zhx hr) (zaa 0) (zaa 1)) (zfI (zjg (zhx hr) (zd2 ziQ rfl T.b_isinstance zdf rfl T.b_bool zkX (zaa 0)) (zd2 ziQ rfl T.b_isinstance zdf rfl T.b_bool zkX (zaa 1)))))))))
abbrev zcg:List Str:=["call","error","e","kinds"]
theorem zaR:zay zcg ["call"] (zal (top 42)):=⟨rfl,rfl,rfl,xwD,rfl,xwD,xwD⟩
abbrev zc7:List Str:=["call","error","e","kinds","k"]
theorem zf7:zc7.Nodup:=by decide +kernel
noncomputable def zaD(n:Nat)(Cc:Addr):DS:=(zaw (zbc 1 (dC .non)) (zaw (znk 0 1 2 Cc) (zaw (zbc 3 (dFz (zbQ (dA (zhv 1 Cc (n == 0)) (dA (zhv 1 Cc (n == 1)) (dA (zhv 1 Cc (n == 2)) dA0)))))) (zaw (zbc 3 (dFz (zgM (zab 3) (dFz (zbQ (dA (zhv 1 Cc (n == 3)) (dA (zhv 1 Cc (n == 4)) (dA (zhv 1 Cc (n == 5)) dA0)))))))) (zaw (zbc 3 (dFz (zgM (zab 3) (dFz (zbQ (dA (zhv 1 Cc (n == 6)) (dA (zhv 1 Cc (n == 7)) dA0))))))) (zaw (dIf (zb2 (dTB (zhv 1 Cc true))) dNo dNx) (zdL (zaY (zbH (dC (.int 8))) (zaU 4) (dTB (dOp gIx (zab 3) (zab 4))) (zab 4) 1))))))))
theorem ze5(T:Tx K mg cls){C:Cn}{k:Nat}{f:Addr}(XR:Cx)(CR:Cn)(n:Nat)(Fa:Addr)(hn:n<8)(hX:∃ cdv A outer s H E,XR=zlo (CXe P w) P w K mg base zcg (Str.ofString "_law_refused") (zal (top 42)) f cdv A outer s H E)(hC:∃ G H,CR=zpS C G H (L2.start zcg [.ref Fa]))(hr:zdD (k+1) XR.A)
  (hF:∀ pS Y H s,L2.Inv XR pS Y H s->zbR CR.H₀ H->codeAny (model XR.prog XR.w) XR.A (.call (.ref Fa) ⟨[],[]⟩) (λr s'=>∃ e,r=.error e/\CXf XR.prog XR.w XR.stack H s (EL (cls n) H) e s') s)
  (hFn:∀ pS Y H s,L2.Inv XR pS Y H s->zbR CR.H₀ H->W.FnAt Fa s.heap):JSs XR CR (zcr (top 42)) (zaD n (cls n)):=by
  obtain ⟨cdv,A,outer,s,H,E,rfl⟩:=hX;obtain ⟨G,H',rfl⟩:=hC;obtain ⟨Cs,xs,hmS,hsub⟩:=T.xS;have hnw:(zpS C G H' (L2.start zcg [.ref Fa])).nw=true:=rfl;exact (zad (by exact (zaX (i:=1) zaR.nd rfl xwO (show 1∉([0]:List Nat) by decide) zok)) (zad (by exact (znA rfl zaR.nd rfl rfl rfl rfl rfl hF hFn xs (hsub n hn) hmS rfl rfl rfl rfl xwd xwd xwd rfl rfl rfl)) (zad (by exact (zaX (i:=3) zaR.nd rfl xwO (show 3∉([0]:List Nat) by decide) (za8 (zbz (zao (zfT 1 (T.xc n hn) (T.xi n 0 hn xwd) rfl T.b_isinstance rfl T.xm0) (zao (zfT 1 (T.xc n hn) (T.xi n 1 hn xwd) rfl T.b_isinstance rfl T.xm1) (zao (zfT 1 (T.xc n hn) (T.xi n 2 hn xwd) rfl T.b_isinstance rfl T.xm2) za4))))))) (zad (by exact (zaX (i:=3) zaR.nd rfl xwO (show 3∉([0]:List Nat) by decide) (za8 (by refine zj4 (zaa 3) ?_;exact (za8 (zbz (zao (zfT 1 (T.xc n hn) (T.xi n 3 hn xwd) rfl T.b_isinstance rfl T.xm3) (zao (zfT 1 (T.xc n hn) (T.xi n 4 hn xwd) rfl T.b_isinstance rfl T.xm4) (zao (zfT 1 (T.xc n hn) (T.xi n 5 hn xwd) rfl T.b_isinstance rfl T.xm5) za4))))))))) (zad (by exact (zaX (i:=3) zaR.nd rfl xwO (show 3∉([0]:List Nat) by decide) (za8 (by refine zj4 (zaa 3) ?_;exact (za8 (zbz (zao (zfT 1 (T.xc n hn) (T.xi n 6 hn xwd) rfl T.b_isinstance rfl T.xm6) (zao (zfT 1 (T.xc n hn) (T.xi n 7 hn xwd) rfl T.b_isinstance rfl T.xm7) za4)))))))) (zad (by exact (zbN (ze8 (zbJ (zrZ 1 (T.xc n hn) (T.xV n hn) rfl T.b_isinstance rfl T.b_ValueError rfl))) (zai zql) zaH)) (zai (by exact (ziq hnw (zdy (zcA rfl T.b_range zar) rfl (N':=zc7) (m:=1) xwk rfl (zbg xwk) (zbA xwk) (zbT xwk) (λcl L s H fp G H' w Y=>⟨(zaM (i:=4) zf7 rfl xwO (xwN rfl)),(ziG (zbJ (zbP (zaa 3) (zaa 4)))),(zaa 4)⟩)))))))))))
theorem zd6:∀(n:Nat)(Cc:Addr),n<8->∃ Z,zaD n Cc (some .opq::List.replicate 3 none)=.ok (.rt (.lst [.int n]),Z):=by
 intro n Cc h
 match n,h with
 |0,_=>exact ⟨_,by simp[zaD,zaw,znk,zhv,zbc,zb6,dFz,zbQ,dA,dA0,dC,zgM,zab,zd8,dIf,zb2,dTB,dNx,dNo,zdL,zaY,zb5,zbH,zbG,zaU,dOp,gIx,ixN,zdC,R.bind];try rfl⟩
 |1,_=>exact ⟨_,by simp[zaD,zaw,znk,zhv,zbc,zb6,dFz,zbQ,dA,dA0,dC,zgM,zab,zd8,dIf,zb2,dTB,dNx,dNo,zdL,zaY,zb5,zbH,zbG,zaU,dOp,gIx,ixN,zdC,R.bind];try rfl⟩
 |2,_=>exact ⟨_,by simp[zaD,zaw,znk,zhv,zbc,zb6,dFz,zbQ,dA,dA0,dC,zgM,zab,zd8,dIf,zb2,dTB,dNx,dNo,zdL,zaY,zb5,zbH,zbG,zaU,dOp,gIx,ixN,zdC,R.bind];try rfl⟩
 |3,_=>exact ⟨_,by simp[zaD,zaw,znk,zhv,zbc,zb6,dFz,zbQ,dA,dA0,dC,zgM,zab,zd8,dIf,zb2,dTB,dNx,dNo,zdL,zaY,zb5,zbH,zbG,zaU,dOp,gIx,ixN,zdC,R.bind];try rfl⟩
 |4,_=>exact ⟨_,by simp[zaD,zaw,znk,zhv,zbc,zb6,dFz,zbQ,dA,dA0,dC,zgM,zab,zd8,dIf,zb2,dTB,dNx,dNo,zdL,zaY,zb5,zbH,zbG,zaU,dOp,gIx,ixN,zdC,R.bind];try rfl⟩
 |5,_=>exact ⟨_,by simp[zaD,zaw,znk,zhv,zbc,zb6,dFz,zbQ,dA,dA0,dC,zgM,zab,zd8,dIf,zb2,dTB,dNx,dNo,zdL,zaY,zb5,zbH,zbG,zaU,dOp,gIx,ixN,zdC,R.bind];try rfl⟩
 |6,_=>exact ⟨_,by simp[zaD,zaw,znk,zhv,zbc,zb6,dFz,zbQ,dA,dA0,dC,zgM,zab,zd8,dIf,zb2,dTB,dNx,dNo,zdL,zaY,zb5,zbH,zbG,zaU,dOp,gIx,ixN,zdC,R.bind];try rfl⟩
 |7,_=>exact ⟨_,by simp[zaD,zaw,znk,zhv,zbc,zb6,dFz,zbQ,dA,dA0,dC,zgM,zab,zd8,dIf,zb2,dTB,dNx,dNo,zdL,zaY,zb5,zbH,zbG,zaU,dOp,gIx,ixN,zdC,R.bind];try rfl⟩
abbrev zwf:List Str:=["script","k","state","n","tree","due","turn","number","row","bad","<tab>"]
abbrev zu6:List Str:=["script"]
theorem ze1:zay zwf zu6 (zal (top 43)):=⟨rfl,rfl,rfl,xwD,rfl,xwD,xwD⟩
noncomputable def zlw:DS:=(zaw (zeU (zbH (dFn ziC (dA (dC (.int 1)) (dA (dFn zi8 (dA (dFn zcG (dA (zab 0) dA0)) (dA (dC (.int 3)) dA0))) dA0)))) (zaU 1) (zaw (zb6 2 (zc4 zck (dR (zab 0) (dR (zab 1) dR0)))) (zaw (zbc 3 (dOp zdK (dC (.int 1)) (zaj zaq (dRO 2 (dR (dC (.int 6)) dR0))))) (zaw (zbc 4 (zaj (zaN 8) (dRO 2 (dR (dFz (zfZ (zab 3))) dR0)))) (zaw (zbc 5 (zaj zb7 (dR (zab 4) (dR (zaj zcn (dR (zab 3) dR0)) dR0)))) (zaw (zeU (zbH (dC (.int 6))) (zaU 6) (zaw (zbc 7 (zaj zaq (dRO 2 (dR (dFn zcG (dA (zab 5) dA0)) dR0)))) (zaw (dIf (zb2 (dTB (zaj (za2 4) (dR (zaj zdo (dR (zab 3) (dR (zab 4) (dR (zab 7) dR0)))) (dR (dOp gIx (zab 5) (zab 7)) dR0))))) (zaV (dC (.bl false))) dNx) (zaw (dIf (zh1 (zb2 (dTB (zaj (za2 4) (dR (zaj zbv (dR (zab 3) (dR (zab 4) (dR (dOp gIx (zab 5) (zab 7)) dR0)))) (dR (zab 7) dR0))))) (dTB (dOp (zrg true) (zaj zbM (dR (zab 3) (dR (zab 4) (dR (dOp gIx (zab 5) (zab 7)) dR0)))) (dC (.bl true))))) (zaV (dC (.bl false))) dNx) (zaw (zbc 8 (dFn ze9 (dA (zaj zaL (dRO 2 (dR (dFz (zfZ (zab 3))) dR0))) dA0))) (zaw (dIf (zb2 (dTB (zaj (za2 4) (dR (zaj zbM (dR (zab 3) (dR (zab 4) (dR (zab 8) dR0)))) (dR (dOp (gIn false) (zab 8) (zab 5)) dR0))))) (zaV (dC (.bl false))) dNx) (dIf (ziU (dTB (dOp (gIn true) (zab 8) (zab 5))) (dTB (dOp (gEq true) (dFz (zqc 10 zhi (zaj zbv (dR (zab 3) (dR (zab 4) (dR (zab 8) dR0)))))) (dC (.lst [(.int 2)]))))) (zaV (dC (.bl false))) dNx))))))) (zeU (dIt (dFz (zbQ (dA (dFn zcG (dA (zab 5) dA0)) (dA (zvN (dC (.int 1))) (dA (dC (.bl true)) (dA (dC .non) (dA (dC (.str (Str.ofString "0"))) (dA (dC (.tup [(.int 0)])) (dA (dOp znr (dC (.int 10)) (dC (.int 29))) dA0)))))))))) (zaU 9) (dIf (dTB (dOp (gEq true) (dFz (zqc 10 zhi (zaj zdo (dR (zab 3) (dR (zab 4) (dR (zab 9) dR0)))))) (dC (.lst [(.int 2)])))) (zaV (dC (.bl false))) dNx)))))))) (zaV (dC (.bl true))))
theorem zwe(T:Tx K mg cls){f PT cL:Addr}{fd:FuncData}(U:Fun K "law" "law" (top 43) f fd)(hcL:fd.code=.ref cL)(hch:W.codeHdIn K cL PT=true)(hbm:base.BuiltinsAt mg PT)(hKb:K.In base):zff P w K mg base (CXe P w) 38 f fd zu6 (spT K PT (ztD 9 zhi zlw)):=by
  obtain ⟨fR,fdR,UR,hmR⟩:=T.u__law_refused;refine zuY (k:=37) (m:=9) (xt:="<tab>") (xv:=xvC cls) U hcL hch ze1 rfl rfl (by unfold Vis;decide +kernel) hbm hKb λX C hX hpp hσ0 hxv hnw hr hx hpo hLB=>?_;obtain ⟨cdv,A,outer,s,H,E,rfl⟩:=hX;obtain ⟨cG,cH,cw,cpp,cσ,cex,cxv,cnw⟩:=C;dsimp only at hpp hσ0 hxv hnw;subst hpp hxv hnw;have hnw:(false:Bool)=false:=rfl;exact (zad (by exact (zcX hpo rfl (zcA rfl T.b_range (zvg rfl T.b_max zar (zvn rfl T.b_min (zfe T.b_len (zaa 0)) zar))) (zaM (i:=1) ze1.nd rfl xwO (show 1∉([10]:List Nat) by decide)) (zad (by exact (zdu (i:=2) ze1.nd rfl xwO (show 2∉([10]:List Nat) by decide) (zsY (zjN T) hr xwo hx (zae (zaa 0) (zae (zaa 1) zat))))) (zad (by exact (zaX (i:=3) ze1.nd rfl xwO (show 3∉([10]:List Nat) by decide) (zeS zar (zaK (zca T) hr xwo hx (ze0 2 (zae zar zat)))))) (zad (by exact (zaX (i:=4) ze1.nd rfl xwO (show 4∉([10]:List Nat) by decide) (zaK (zgu T 8) hr xwo hx (ze0 2 (zae (za8 (zli rfl rfl T.b_list rfl T.b_range (zaa 3))) zat))))) (zad (by exact (zaX (i:=5) ze1.nd rfl xwO (show 5∉([10]:List Nat) by decide) (zaK (zhs T) hr xwo hx (zae (zaa 4) (zae (zaK (zjX T) hr xwo hx (zae (zaa 3) zat)) zat))))) (zad (by exact (zcX hpo rfl (zcA rfl T.b_range zar) (zaM (i:=6) ze1.nd rfl xwO (show 6∉([10]:List Nat) by decide)) (zad (by exact (zaX (i:=7) ze1.nd rfl xwO (show 7∉([10]:List Nat) by decide) (zaK (zca T) hr xwo hx (ze0 2 (zae (zfe T.b_len (zaa 5)) zat))))) (zad (by exact (zbN (ze8 (zbJ (zaK (zdq T 4) hr xwo hx (zae (zaK (zlC T) hr xwo hx (zae (zaa 3) (zae (zaa 4) (zae (zaa 7) zat)))) (zae (zbP (zaa 5) (zaa 7)) zat))))) (zai (by exact (za5 hnw zdB))) zaH)) (zad (by exact (zbN (JW.jt (zll (ze8 (zbJ (zaK (zdq T 4) hr xwo hx (zae (zaK (zgO T) hr xwo hx (zae (zaa 3) (zae (zaa 4) (zae (zbP (zaa 5) (zaa 7)) zat)))) (zae (zaa 7) zat))))) (zjj (zsE (zaK (zg6 T) hr xwo hx (zae (zaa 3) (zae (zaa 4) (zae (zbP (zaa 5) (zaa 7)) zat)))) zdB)))) (zai (by exact (za5 hnw zdB))) zaH)) (zad (by exact (zaX (i:=8) ze1.nd rfl xwO (show 8∉([10]:List Nat) by decide) (znU T.b_tuple (zaK (zd1 T) hr xwo hx (ze0 2 (zae (za8 (zli rfl rfl T.b_list rfl T.b_range (zaa 3))) zat)))))) (zad (by exact (zbN (ze8 (zbJ (zaK (zdq T 4) hr xwo hx (zae (zaK (zg6 T) hr xwo hx (zae (zaa 3) (zae (zaa 4) (zae (zaa 8) zat)))) (zae (ztI (zqx hr) (zaa 8) (zaa 5)) zat))))) (zai (by exact (za5 hnw zdB))) zaH)) (zai (by exact (zbN (JW.jt (zrb (zl2 (zqx hr) (zaa 8) (zaa 5)) (znM (zk8 (zhx hr) (za8 (zry (k:=32) (st:=top 42) hLB rfl (show 10∈([10]:List Nat) by decide) hσ0 cls (λ_ _=>rfl) UR zaR rfl (UR.binds (ps:=["call"]) λ_ _ _ _ _ _ us hl=>match us,hl with|[_],_=>rfl) hmR (hr.mono xwo) (ze5 T) zd6 (λXL CL hXL hcv hr hx=>by
   obtain ⟨⟨xp,xw,xK,xmg,xb,xA,xN,xs,xH,xenv,xo,xst,xex,xfn,xc,xpn,xxe⟩,cl,Fa,cdv,s,H,E,e1,e2,e3,e4,e5,rfl⟩:=hXL;obtain ⟨cG,cH,cw,cpp,cσ,cex,cxv,cnw⟩:=CL;dsimp only at e1 e2 e3 e4 e5 hcv;subst e1 e2 e3 e4 e5 hcv;exact (zaK (zgO T) hr xwo hx (zae (zaa 3) (zae (zaa 4) (zae (zaa 8) zat))))) (hfr:=zbA xwk) (hbind:=λ_ _ _ _=>rfl))) (by refine jd 40 ?_;kernel_rfl))))) (zai (by exact (za5 hnw zdB))) zaH)))))))))) (zai (by exact (zcX hpo rfl (zbS (za8 (zbz (zao (zfe T.b_len (zaa 5)) (zao (zrh zar) (zao zdB (zao zok (zao zez (zao (by refine jd 40 ?_;kernel_rfl) (zao (znB zar zar) za4)))))))))) (zaM (i:=9) ze1.nd rfl xwO (show 9∉([10]:List Nat) by decide)) (zai (by exact (zbN (zk8 (zhx hr) (za8 (zry (k:=26) (st:=top 42) hLB rfl (show 10∈([10]:List Nat) by decide) hσ0 cls (λ_ _=>rfl) UR zaR rfl (UR.binds (ps:=["call"]) λ_ _ _ _ _ _ us hl=>match us,hl with|[_],_=>rfl) hmR (hr.mono xwo) (ze5 T) zd6 (λXL CL hXL hcv hr hx=>by
   obtain ⟨⟨xp,xw,xK,xmg,xb,xA,xN,xs,xH,xenv,xo,xst,xex,xfn,xc,xpn,xxe⟩,cl,Fa,cdv,s,H,E,e1,e2,e3,e4,e5,rfl⟩:=hXL;obtain ⟨cG,cH,cw,cpp,cσ,cex,cxv,cnw⟩:=CL;dsimp only at e1 e2 e3 e4 e5 hcv;subst e1 e2 e3 e4 e5 hcv;exact (zaK (zlC T) hr xwo hx (zae (zaa 3) (zae (zaa 4) (zae (zaa 9) zat))))) (hfr:=zbA xwk) (hbind:=λ_ _ _ _=>rfl))) (by refine jd 40 ?_;kernel_rfl)) (zai (by exact (za5 hnw zdB))) zaH))))))))))))) (zai (by exact (za5 hnw zdB))))
end
theorem zkW{x y:Dt}{bs:List B}:∀{Z:Ev}{k:Nat},zgm [.d x,.d y] bs k Z = Z
 |[],_=>rfl
 |o::r,k=>by show (match zdY [.d x,.d y] k with|some j=>bs[j]?|none=>o)::zgm [.d x,.d y] bs (k+1) r=_;rw[zkW (Z:=r)];rfl
theorem zde{F:FD}{fa:De}{Z Z':Ev}{d y:Dt}{l:List B}(h:fa Z=.ok (d,Z'))(hF:F [.val d]=.ok (y,l)):zaj F (dR fa dR0) Z=.ok (y,Z'):=by unfold zaj dR dR0;rw[h];simp only[R.bind_ok,zm2,zbs,if_true,za3,hF];rw[zrc]
theorem zeZ{F:FD}{fa fb:De}{Z Z' Z'':Ev}{d e y:Dt}{l:List B}(h:fa Z=.ok (d,Z'))(h2:fb Z'=.ok (e,Z''))(hF:F [.val d,.val e]=.ok (y,l)):zaj F (dR fa (dR fb dR0)) Z=.ok (y,Z''):=by unfold zaj dR dR0;rw[h];simp only[R.bind_ok,h2,zm2,zbs,if_true,za3,hF];rw[zkW]
theorem zku{i k:Nat}{d:Dt}:zdY [.s i,.d d] k=if i=k then some 0 else none:=by unfold zdY zdI;split <;> rfl
theorem zr0{i:Nat}{d:Dt}{b:B}{bs:List B}:∀{Z:Ev}{k:Nat},k<=i->zgm [.s i,.d d] (b::bs) k Z = Z.set (i-k) (some b)
 |[],k,_=>by simp[zgm]
 |o::r,k,h=>by
  unfold zgm;rw[zku];by_cases e:i=k
  ·subst e;simp only[if_true,Nat.sub_self,List.set_cons_zero];have:∀(r:Ev)(m:Nat),i<m->zgm [.s i,.d d] (b::bs) m r=r:=by
    intro r
    induction r with
    |nil=>intro m _;rfl
    |cons o r ih =>
     intro m hm;unfold zgm;rw[zku,if_neg xwo,ih (m+1) xwo]
   rw[this r (i+1) xwo];rfl
  ·rw[if_neg e,zr0 (k:=k+1) xwo];have:i-k=(i-(k+1))+1:=by omega
   rw[this,List.set_cons_succ]
theorem zhr{F:FD}{fb:De}{i:Nat}{Z:Ev}{d y:Dt}{st st':List Dt}{l:List B}(hi:Z[i]? = some (some (.own st)))(h:fb Z=.ok (d,Z))(hF:F [.own st,.val d]=.ok (y,.own st'::l)):zaj F (dRO i (dR fb dR0)) Z=.ok (y,Z.set i (some (.own st'))):=by
 have u:zm2 [.s i,.d d]=true:=by unfold zm2 zbs;rw[zku];simp[zbs]
 unfold zaj dRO dR dR0;simp only[hi,h,R.bind_ok,u,if_true,za3,znx,hF];rw[zr0 (Nat.zero_le _)];rfl
theorem zap{nw:Bool}{ks:List Bool}{m:Nat}{body:DS}{bs:List B}{d:Dt}{Z':Ev}{l:List B}(hk:zbX bs=ks)(hb:body (bs.map some++List.replicate m none)=.ok (.rt d,Z'))(hl:za7 ks Z'=.ok l):zax nw ks m body bs=.ok (d,l):=by unfold zax;rw[if_pos hk,hb];simp only[R.bind_ok,hl]
noncomputable def St(st:List Dt):Prop:=∃ s b,st=[.int s,.bl b]
theorem zdh{st:List Dt}{m:Int}(h:St st)(h0:0<m)(h1:m<1073741824):∃(v:Int)(st':List Dt),zaq [.own st,.val (.int m)]=.ok (.int v,[.own st',.val .non])/\St st'/\0<=v/\v<m:=by
 obtain ⟨s,b,rfl⟩:=h;cases b with
 |true =>
  refine ⟨s % m,[.int (s / m),.bl true],?_,⟨_,_,rfl⟩,Int.emod_nonneg _ xwo,Int.emod_lt_of_pos _ h0⟩;unfold zaq zax zeK;simp[zbX,znx,zaw,dIf,dTB,zoD,dC,atI,ixN,zbc,dOp,zmO,zab,zn9,zpG,zaV,za7,h0,h1]
 |false =>
  have e1:∃ a,(s * 48271+29) % 2147483647=a/\0<=a/\a<2147483647:=⟨_,rfl,Int.emod_nonneg _ xwd,Int.emod_lt_of_pos _ xwd⟩
  obtain ⟨a,ea,a0,a1⟩:=e1;have e2:∃ c,(a * a+39373 * a+7) % 2147483629=c/\0<=c/\c<2147483629:=⟨_,rfl,Int.emod_nonneg _ xwd,Int.emod_lt_of_pos _ xwd⟩
  obtain ⟨c,ec,c0,c1⟩:=e2;have sa:zc3 a=true:=by unfold zc3;simp;omega
  have sc:zc3 c=true:=by unfold zc3;simp;omega
  have s1:zc3 48271=true:=by decide
  have s2:zc3 39373=true:=by decide
  have s3:zc3 16807=true:=by decide
  refine ⟨(c * c+16807 * c) % 2147483587 / 8 % m,[.int a,.bl false],?_,⟨_,_,rfl⟩,Int.emod_nonneg _ xwo,Int.emod_lt_of_pos _ h0⟩;unfold zaq zax zeK;simp[zbX,znx,zaw,dIf,dTB,zoD,dC,atI,ixN,zbc,dOp,zmO,znY,zdK,zab,zn9,zpG,zaV,dNx,za7,h0,h1,ea,ec,sa,sc,s1,s2,s3]
theorem ziW:∀(n:Nat)(d:Dt),okN n d=true->okN (n+1) d=true
 |_,.non,_=>by simp[okN]
 |_,.bl _,_=>by simp[okN]
 |_,.int _,_=>by simp[okN]
 |n,.str x,h=>by cases n <;> simpa [okN] using h
 |0,.tup l,h=>by simp[okN] at h
 |0,.lst l,h=>by simp[okN] at h
 |n+1,.tup l,h=>by simp only[okN,List.all_eq_true] at h ⊢;exact λd hd=>ziW n d (h d hd)
 |n+1,.lst l,h=>by simp only[okN,List.all_eq_true] at h ⊢;exact λd hd=>ziW n d (h d hd)
 |n,.dct _,h=>by cases n <;> simp[okN] at h
 |n,.scr _,h=>by cases n <;> simp[okN] at h
theorem zkA{n:Nat}{v:Int}(h0:0<=v)(h1:v<n):ixN n v=some v.toNat:=by unfold ixN;rw[if_pos h0,if_pos h1]
theorem zep{α:Type}:∀{l:List α}{j:Nat}{d:α},l[j]? = some d->(d::l.eraseIdx j).Perm l
 |[],_,_,h=>by simp at h
 |a::l,0,d,h=>by simp at h;subst h;exact .refl _
 |a::l,j+1,d,h=>by have:=zep (l:=l) (j:=j) (d:=d) (by simpa using h);exact (List.Perm.swap a d _).trans (this.cons a)
theorem zbC{neg:Bool}{x y:Dt}(h1:okN 60 x=true)(h2:okN 60 y=true):gEq neg x y=.ok (.bl (if neg then !eqD x y else eqD x y)):=by unfold gEq;rw[h1,h2];rfl
theorem zjw{d:Dt}{l:List Dt}:eqD (.lst (d::l)) (.lst [])=false:=by rw[eqD];simp[zkn]
theorem zlq:eqD (.lst []) (.lst [])=true:=by rw[eqD,zkn]
theorem zuL{st found l:List Dt}{o:Option B}{b:Bool}(h:okN 60 (.lst l)=true)(e:(!eqD (.lst l) (.lst []))=b):dTB (ztC true 2 (dFz (zbQ dA0))) [some (.own st),o,some (.own l),some (.own found)]=.ok (b,[some (.own st),o,some (.own l),some (.own found)]):=by show (((gEq true (.lst l) (.lst [])).bind λz=>.ok (z,[some (.own st),o,some (.own l),some (.own found)])).bind λ(a:Dt×Ev)=>match a.1 with|.bl b=>.ok (b,a.2)|_=>.no)=_;rw[zbC h rfl];simp only[if_true,e];rfl
theorem zhC{things:Option B}:∀(n:Nat)(left found:List Dt)(st:List Dt),left.length<n->left.length+found.length<=1000->(∀ d∈left,okN 59 d=true)->St st->∃ st' p,St st'/\p.Perm left /\
  zbp (dTB (ztC true 2 (dFz (zbQ dA0)))) (dEx (zev 3 (zhE 2 (zaj zaq (dRO 0 (dR (zm9 2) dR0)))))) n [some (.own st),things,some (.own left),some (.own found)]=.ok (.nx,[some (.own st'),things,some (.own []),some (.own (found++p))])
 |0,left,found,st,h,_,_,_=>absurd h (Nat.not_lt_zero _)
 |n+1,[],found,st,h,hl,hk,hs=>by refine ⟨st,[],hs,.refl _,?_⟩;unfold zbp;rw[zuL (b:=false) rfl (by rw[zlq];rfl)];simp
 |n+1,d::left,found,st,h,hl,hk,hs=>by
  obtain ⟨v,st1,e,hs1,v0,v1⟩:=zdh (m:=((d::left).length:Nat)) hs (by simp only[wan];omega) (by simp only[wan] at hl ⊢;omega);have hv:v.toNat<(d::left).length:=by omega
  have hget:(d::left)[v.toNat]? = some (d::left)[v.toNat]:=by simp[hv]
  have hel:=zep hget;have hlen:((d::left).eraseIdx v.toNat).length=left.length:=by have:=hel.length_eq;simp only[wan] at this;omega
  obtain ⟨st',p,hs',hp,hw⟩:=zhC (things:=things) n ((d::left).eraseIdx v.toNat) (found++[(d::left)[v.toNat]]) st1 (by simp only[wan] at h;omega) (by simp only[wav,wan,List.length_nil] at hl ⊢;omega)
   (λx hx=>hk x (hel.mem_iff.mp (wah _ hx))) hs1
  refine ⟨st',(d::left)[v.toNat]::p,hs',((hp.cons _).trans hel),?_⟩;have hall:((d::left).all (okN 59))=true:=List.all_eq_true.mpr hk;have ec:zaj zaq (dRO 0 (dR (zm9 2) dR0)) [some (.own st),things,some (.own (d::left)),some (.own found)]=.ok (.int v,[some (.own st1),things,some (.own (d::left)),some (.own found)]):=zhr (Z:=[some (.own st),things,some (.own (d::left)),some (.own found)]) rfl rfl e;have hm:zgR v=true:=by unfold zgR;simp;simp only[wan] at hl v1;omega
  unfold zbp;have t1:=zuL (st:=st) (found:=found) (l:=d::left) (o:=things) (b:=true) (show okN 60 (.lst (d::left))=true from hall) (by rw[zjw];rfl);rw[t1];simp only[R.bind_ok,if_true];have t2:dEx (zev 3 (zhE 2 (zaj zaq (dRO 0 (dR (zm9 2) dR0))))) [some (.own st),things,some (.own (d::left)),some (.own found)]=.ok (.nx,[some (.own st1),things,some (.own ((d::left).eraseIdx v.toNat)),some (.own (found++[(d::left)[v.toNat]]))]):=by
   have hpop:zpC (d::left) v=some ((d::left)[v.toNat],(d::left).eraseIdx v.toNat):=by unfold zpC;rw[if_pos hm,zkA v0 v1];simp only[hget]
   unfold dEx zev zhE;simp only[List.getElem?_cons_succ,List.getElem?_cons_zero,ec,R.bind_ok,hpop,List.set_cons_succ,List.set_cons_zero];rw[if_pos xwo];rfl
  rw[t2];simp only[R.bind_ok];rw[hw];simp
theorem zhQ{l:List Dt}{st:List Dt}(hs:St st)(hl:l.length<10)(hk:∀ d∈l,okN 59 d=true):∃ st' p,St st'/\p.Perm l/\zaL [.own st,.val (.lst l)]=.ok (.lst p,[.own st',.val .non]):=by
 obtain ⟨st',p,hs',hp,hw⟩:=zhC (things:=some (.val (.lst l))) 10 l [] st hl (by simp;omega) hk hs;refine ⟨st',p,hs',hp,?_⟩;have hd:zcu [some (.own st),some (.val (.lst l)),none,none]=.ok (.rt (.lst p),[some (.own st'),some (.val (.lst l)),some (.own []),some (.val (.lst p))]):=by unfold zcu;have e1:zb6 2 (zcV zkR (dA (zab 1) dA0)) [some (.own st),some (.val (.lst l)),none,none]=.ok (.nx,[some (.own st),some (.val (.lst l)),some (.own l),none]):=rfl;have e2:zb6 3 (zbQ dA0) [some (.own st),some (.val (.lst l)),some (.own l),none]=.ok (.nx,[some (.own st),some (.val (.lst l)),some (.own l),some (.own [])]):=rfl;unfold zaw;rw[e1];simp only[R.bind_ok];rw[e2];simp only[R.bind_ok];rw[hw];rfl
 exact zap rfl hd rfl
theorem zav{g:Dt->Dt->R Dt}{fa fb:De}{Z Z1 Z2:Ev}{d e z:Dt}(h1:fa Z=.ok (d,Z1))(h2:fb Z1=.ok (e,Z2))(h3:g d e=.ok z):dOp g fa fb Z=.ok (z,Z2):=by unfold dOp;rw[h1];simp only[R.bind_ok,h2,h3]
theorem zaG{f:De}{Z Z1:Ev}{b:Bool}(h:f Z=.ok (.bl b,Z1)):dTB f Z=.ok (b,Z1):=by unfold dTB;rw[h];rfl
theorem zdG{c:DT}{f g:DS}{Z Z1:Ev}(h:c Z=.ok (true,Z1)):dIf c f g Z=f Z1:=by unfold dIf;rw[h];rfl
theorem zbU{c:DT}{f g:DS}{Z Z1:Ev}(h:c Z=.ok (false,Z1)):dIf c f g Z=g Z1:=by unfold dIf;rw[h];rfl
theorem zaf{f g:DS}{Z Z1:Ev}(h:f Z=.ok (.nx,Z1)):zaw f g Z=g Z1:=by unfold zaw;rw[h];rfl
theorem zcv{f g:DS}{Z Z1:Ev}{d:Dt}(h:f Z=.ok (.rt d,Z1)):zaw f g Z=.ok (.rt d,Z1):=by unfold zaw;rw[h];rfl
theorem zb1{f:De}{Z Z1:Ev}{d:Dt}(h:f Z=.ok (d,Z1)):zaV f Z=.ok (.rt d,Z1):=by unfold zaV;rw[h];rfl
theorem zbj{f:De}{i:Nat}{Z Z1:Ev}{d:Dt}(h:f Z=.ok (d,Z1))(hi:i < Z1.length):zbc i f Z=.ok (.nx,Z1.set i (some (.val d))):=by unfold zbc;rw[h];simp only[R.bind_ok,hi,if_true]
theorem zqf{f:DN}{i:Nat}{Z Z1:Ev}{d:List Dt}(h:f Z=.ok (d,Z1))(hi:i < Z1.length):zb6 i f Z=.ok (.nx,Z1.set i (some (.own d))):=by unfold zb6;rw[h];simp only[R.bind_ok,hi,if_true]
theorem zaQ{f:DN}{Z Z1:Ev}{d:List Dt}(h:f Z=.ok (d,Z1)):dFz f Z=.ok (.lst d,Z1):=by unfold dFz;rw[h];rfl
theorem zfa{f:De}{Z Z1:Ev}{d:Dt}(h:f Z=.ok (d,Z1)):dEx f Z=.ok (.nx,Z1):=by unfold dEx;rw[h];rfl
theorem zdd{g:List Dt->R Dt}{f:De}{Z Z1:Ev}{d z:Dt}(h:f Z=.ok (d,Z1))(hg:g [d]=.ok z):dFn g (dA f dA0) Z=.ok (z,Z1):=by unfold dFn dA dA0;rw[h];simp only[R.bind_ok,hg]
theorem zjk{f g:DT}{Z Z1:Ev}(h:f Z=.ok (false,Z1)):zh1 f g Z=g Z1:=by unfold zh1;rw[h];rfl
theorem zri{f g:DT}{Z Z1:Ev}(h:f Z=.ok (true,Z1)):zh1 f g Z=.ok (true,Z1):=by unfold zh1;rw[h];rfl
theorem zkQ{f g:DT}{Z Z1:Ev}(h:f Z=.ok (true,Z1)):ziU f g Z=g Z1:=by unfold ziU;rw[h];rfl
theorem znt{f g:DT}{Z Z1:Ev}(h:f Z=.ok (false,Z1)):ziU f g Z=.ok (false,Z1):=by unfold ziU;rw[h];rfl
theorem zcf{f:DT}{Z Z1:Ev}{b:Bool}(h:f Z=.ok (b,Z1)):zb2 f Z=.ok (!b,Z1):=by unfold zb2;rw[h];rfl
theorem zoS{Z0:Ev}{o:Option B}{d:Dt}:zaU Z0.length d (Z0++[o])=.ok (Z0++[some (.val d)]):=by unfold zaU;rw[if_pos xws];simp
theorem zjP{α:Type}{u f:α->Dt}{fe:De}{Z0:Ev}:∀{l:List α}{o:Option B},(∀ a∈l,fe (Z0++[some (.val (u a))])=.ok (f a,Z0++[some (.val (u a))]))->∃ o',zb5 (zaU Z0.length) dTT fe (l.map u) (Z0++[o])=.ok (l.map f,Z0++[o'])
 |[],o,_=>⟨o,rfl⟩
 |a::l,o,h=>by obtain ⟨o',e⟩:=zjP (l:=l) (o:=some (.val (u a))) λb hb=>h b (by simp[hb]);refine ⟨o',?_⟩;rw[List.map_cons,zb5,zoS];simp only[R.bind_ok,dTT,if_true];rw[h a xws];simp only[R.bind_ok];rw[e];rfl
theorem zc0{α:Type}{u f:α->Dt}{fe:De}{Z0:Ev}{fi:DA}{l:List α}{ds:List Dt}(hi:fi Z0=.ok (ds,Z0))(hd:ds=l.map u)(hl:l.length<=1000)(h:∀ a∈l,fe (Z0++[some (.val (u a))])=.ok (f a,Z0++[some (.val (u a))])){j:Nat}(hj:j = Z0.length) :
  zaY fi (zaU j) dTT fe 1 Z0=.ok (l.map f,Z0):=by
 subst hd;subst hj;obtain ⟨o',e⟩:=zjP (o:=none) h;unfold zaY;rw[hi];simp only[R.bind_ok];rw[if_pos (by unfold zdC;simp;omega)];show (match zb5 (zaU Z0.length) dTT fe (l.map u) (Z0++[none]) with|.ok z=>R.ok (z.1,z.2.take Z0.length)|_=>.no)=_;rw[e];simp
theorem zi1{α:Type}{a:α}{l:List α}:atI (a::l) 0=some a:=by unfold atI ixN;simp
theorem eqI{a b:Int}:eqD (.int a) (.int b)=(a == b):=by rw[eqD]
theorem zqk{x:Option B}{zbq:Ev}{o:Option B}{d:Dt}:zaU (zbq.length+1) d (x::(zbq++[o]))=.ok (x::(zbq++[some (.val d)])):=by unfold zaU;rw[if_pos xws];simp
theorem znE{α β:Type}{Rl:α->β->Prop}{u:α->Dt}{v:β->Dt}{fe:De}{zbq:Ev}:∀{l:List α}{st:List Dt}{o:Option B},
  (∀ a∈l,∀ st,St st->∃ y st',St st'/\Rl a y/\fe (some (.own st)::(zbq++[some (.val (u a))]))=.ok (v y,some (.own st')::(zbq++[some (.val (u a))])))->St st ->
  ∃ ys st' o',St st'/\Paired Rl l ys/\zb5 (zaU (zbq.length+1)) dTT fe (l.map u) (some (.own st)::(zbq++[o]))=.ok (ys.map v,some (.own st')::(zbq++[o']))
 |[],st,o,_,hs=>⟨[],st,o,hs,.nil,rfl⟩
 |a::l,st,o,h,hs=>by obtain ⟨y,st1,hs1,hr,e1⟩:=h a xws st hs;obtain ⟨ys,st',o',hs',hp,e⟩:=znE (l:=l) (st:=st1) (o:=some (.val (u a))) (λb hb=>h b (wah _ hb)) hs1;refine ⟨y::ys,st',o',hs',.cons hr hp,?_⟩;rw[List.map_cons,zb5,zqk];simp only[R.bind_ok,dTT,if_true];rw[e1];simp only[R.bind_ok];rw[e];rfl
theorem zqM{α β:Type}{Rl:α->β->Prop}{u:α->Dt}{v:β->Dt}{fe:De}{zbq:Ev}{fi:DA}{Z:Ev}{l:List α}{ds:List Dt}{st:List Dt}{j:Nat}(hi:fi Z=.ok (ds,some (.own st)::zbq))(hd:ds=l.map u)(hl:l.length<=1000)(hj:j=zbq.length+1)
  (h:∀ a∈l,∀ st,St st->∃ y st',St st'/\Rl a y/\fe (some (.own st)::(zbq++[some (.val (u a))]))=.ok (v y,some (.own st')::(zbq++[some (.val (u a))]))) (hs:St st) :
  ∃ ys st',St st'/\Paired Rl l ys/\zaY fi (zaU j) dTT fe 1 Z=.ok (ys.map v,some (.own st')::zbq):=by
 subst hd;subst hj;obtain ⟨ys,st',o',hs',hp,e⟩:=znE (o:=none) h hs;refine ⟨ys,st',hs',hp,?_⟩;unfold zaY;rw[hi];simp only[R.bind_ok];rw[if_pos (by unfold zdC;simp only[List.length_map,decide_eq_true_eq];omega)];show (match zb5 (zaU (zbq.length+1)) dTT fe (l.map u) (some (.own st)::(zbq++[none])) with|.ok z=>R.ok (z.1,z.2.take (zbq.length+1))|_=>.no)=_;rw[e];simp
theorem zfR{p:List Dt}{l:List Int}(h:p.Perm (l.map .int)):∃ q:List Int,q.Perm l/\p=q.map .int:=by
 refine ⟨p.map λd=>match d with|.int i=>i|_=>0,?_,?_⟩
 ·have:=h.map λd=>match d with|.int i=>i|_=>0
  rw[List.map_map] at this;have e:((λd=>match d with|.int i=>i|_=>0) ∘ Dt.int)=(id:Int->Int):=rfl;rw[e,List.map_id] at this;exact this
 ·rw[List.map_map]
  conv=>lhs;rw[<- List.map_id p]
  refine List.map_congr_left λd hd=>?_;obtain ⟨i,_,rfl⟩:=List.mem_map.mp (h.mem_iff.mp hd);rfl
noncomputable def isW:Dt->Bool
 |.int _=>true
 |_=>false
theorem zfD(d:Dt):zbm [.val d]=.ok (.bl (isW d),[.val .non]):=by
 cases d <;> simp[zbm,zax,zhF,zbX,znx,zaV,ziZ,zfQ,zab,zv3,zkr,tyD,za7,isW]
theorem zmp{n:Int}(h1:1<=n)(h7:n<=7):zba [.val (.int n)]=.ok (.non,[.val .non]):=by
 have e:zaj zbm (dR (zab 0) dR0) [some (.val (.int n))]=.ok (.bl true,[some (.val (.int n))]):=zde (Z':=[some (.val (.int n))]) rfl (zfD _);have a1:decide (n<1)=false:=by simp;omega
 have a2:decide (7<n)=false:=by simp;omega
 simp[zba,zax,ze2,zbX,znx,dIf,zh1,zb2,dTB,e,dOp,zab,dC,zmv,a1,a2,dNx,za7]
noncomputable def isG(n:Int):Dt->Bool
 |.int i=>decide (0<=i) && decide (i<n)
 |_=>false
theorem znd(n:Int)(d:Dt):zbD [.val (.int n),.val d]=.ok (.bl (isG n d),[.val .non,.val .non]):=by
 have e:zaj zbm (dR (zab 1) dR0) [some (.val (.int n)),some (.val d)]=.ok (.bl (isW d),[some (.val (.int n)),some (.val d)]):=zde (Z':=[some (.val (.int n)),some (.val d)]) rfl (zfD _);cases d with
 |int i =>
  by_cases h:0<=i
  ·simp[zbD,zax,zel,zbX,znx,zaV,ziZ,e,isW,zjo,dC,zab,zmv,h,isG,za7]
  ·simp[zbD,zax,zel,zbX,znx,zaV,ziZ,e,isW,zjo,dC,zab,zmv,h,isG,za7]
 |_=>simp[zbD,zax,zel,zbX,znx,zaV,ziZ,e,isW,isG,za7]
theorem zwh{neg:Bool}{i j:Int}:gEq neg (.int i) (.int j)=.ok (.bl (if neg then !(i == j) else (i == j))):=by rw[zbC rfl rfl,eqI]
theorem zpQ{Z0:Ev}{o:Option B}{d:Dt}:zaU Z0.length d (Z0++[o])=.ok (Z0++[some (.val d)]):=by unfold zaU;rw[if_pos xws];simp
theorem ziN:∀ a b:List Int,zkn (a.map .int) (b.map .int)=(a == b)
 |[],[]=>by rw[List.map_nil,zkn];rfl
 |[],b::r=>by rw[List.map_nil,List.map_cons,zkn];rfl;all_goals (intros;simp at *)
 |a::r,[]=>by rw[List.map_nil,List.map_cons,zkn];rfl;all_goals (intros;simp at *)
 |a::r,b::q=>by rw[List.map_cons,List.map_cons,zkn,eqI,ziN r q];rfl
theorem zqd(l:List Int)(n:Nat):okN (n+1) (.lst (l.map .int))=true:=by simp[okN]
noncomputable def zaC(n:Nat):List Int:=(List.range n).map λ(k:Nat)=>(k:Int)
theorem zmh(n:Nat):zbG 0 n=(zaC n).map .int:=by unfold zbG zaC;rw[List.map_map];refine List.map_congr_left λk _=>?_;simp
theorem zi5(i:Int):∀ l:List Int,inD (.int i) (l.map .int)=decide (i∈l)
 |[]=>by simp[inD]
 |a::r=>by
  have:=zi5 i r;unfold inD at this ⊢;rw[List.map_cons,List.any_cons,this,eqI];by_cases h:a=i
  ·subst h;simp
  ·have h':¬ i=a:=λz=>h z.symm;by_cases h2:i∈r <;> simp[h,h',h2]
theorem zem:∀(a b:List Int),a.Nodup->(∀ x∈a,x∈b)->b.length<=a.length->a.Perm b
 |[],b,_,_,h=>by have:b=[]:=List.length_eq_zero_iff.mp (by simpa using h);subst this;exact .refl _
 |x::a,b,hn,hs,hl=>by rw[List.nodup_cons] at hn;have hx:x∈b:=hs x xws;have hp:=List.perm_cons_erase hx;have hlen:=hp.length_eq;simp only[wan] at hlen hl;have:=zem a (b.erase x) hn.2 (λy hy=>(List.mem_erase_of_ne (λ(e:y=x)=>hn.1 (e ▸ hy))).mpr (hs y (by simp[hy]))) xwo;exact (this.cons x).trans hp.symm
theorem zes{n:Nat}{x:Int}:x∈zaC n ↔ 0<=x/\x<n:=by
 unfold zaC;rw[List.mem_map];constructor
 ·rintro ⟨k,hk,rfl⟩;have:=List.mem_range.mp hk;omega
 ·rintro ⟨h0,h1⟩;exact ⟨x.toNat,List.mem_range.mpr xwo,xwo⟩
theorem zbd(n:Nat):(zaC n).length=n:=by unfold zaC;simp
theorem zmG(n:Nat):(zaC n).Pairwise (· <= ·):=by unfold zaC;rw[List.pairwise_map];refine List.Pairwise.imp (R:=λa b=>a<b) (λ{a b} h=>by omega) List.pairwise_lt_range
theorem zbE(n:Nat):(zaC n).Nodup:=by unfold zaC;unfold List.Nodup;rw[List.pairwise_map];refine List.Pairwise.imp (R:=λa b=>a<b) (λ{a b} h=>by omega) List.pairwise_lt_range
theorem zhP{n:Nat}{l:List Int}:zaB l=zaC n ↔ l.Nodup/\(∀ x∈l,0<=x/\x<n)/\l.length=n:=by
 constructor
 ·intro h;have hp:l.Perm (zaC n):=by rw[<- h];exact (za9 l).symm
  exact ⟨hp.nodup_iff.mpr (zbE n),λx hx=>zes.mp (hp.mem_iff.mp hx),by rw[hp.length_eq,zbd]⟩
 ·rintro ⟨h1,h2,h3⟩;have hp:l.Perm (zaC n):=zem _ _ h1 (λx hx=>zes.mpr (h2 x hx)) (by rw[zbd];omega);exact W.lks_uniq ((za9 l).trans hp) (zco l) (zmG n)
theorem zoR{α:Type}{l:List α}{j:Nat}(h:j<l.length):zhj l none (some (j:Int))=l.take j:=by unfold zhj;rw[HT.sIx_nat,HT.sIx_none,List.drop_zero,Nat.min_eq_left xwo,Nat.sub_zero]
theorem zlV{α:Type}{l:List α}{j:Nat}(h:j<l.length):zhj l (some ((j:Int)+1)) none=l.drop (j+1):=by unfold zhj;rw[show (j:Int)+1=((j+1:Nat):Int) from rfl,HT.sIx_nat,HT.sIx_none,Nat.min_eq_left xwo,List.take_of_length_le xws]
theorem zhX{α:Type}{l:List α}{v:Int}(h0:0<=v)(h1:v<l.length):atI l v=l[v.toNat]? := by unfold atI;rw[zkA h0 h1];rfl
theorem ztl{l:List Dt}{v:Int}{d:Dt}(h0:0<=v)(h1:v<l.length)(hd:l[v.toNat]? = some d):gIx (.tup l) (.int v)=.ok d:=by unfold gIx;simp only[zhX h0 h1,hd]
theorem zlc{l:List Dt}{v:Int}{d:Dt}(h0:0<=v)(h1:v<l.length)(hd:l[v.toNat]? = some d):gIx (.lst l) (.int v)=.ok d:=by unfold gIx;simp only[zhX h0 h1,hd]
theorem zpT{fa:De}{fr:DA}{Z Z1 Z2:Ev}{d:Dt}{ds:List Dt}(h1:fa Z=.ok (d,Z1))(h2:fr Z1=.ok (ds,Z2)):dA fa fr Z=.ok (d::ds,Z2):=by unfold dA;rw[h1];simp only[R.bind_ok];rw[h2];rfl
theorem zou{f:DA}{Z Z1:Ev}{ds:List Dt}(h:f Z=.ok (ds,Z1))(hl:ds.length<=16777216):zbQ f Z=.ok (ds,Z1):=by unfold zbQ;rw[h];simp only[R.bind_ok];rw[if_pos (by unfold zdC;simpa using hl)]
theorem zrM{f:DA}{Z Z1:Ev}{ds:List Dt}(h:f Z=.ok (ds,Z1))(hl:ds.length<=16777216):zgD f Z=.ok (.tup ds,Z1):=by unfold zgD;rw[h];simp only[R.bind_ok];rw[if_pos (by unfold zdC;simpa using hl)]
theorem znX{ns:List Int}{k:Nat}:∃ c:Int,zcd [.val (.scr ns),.val (.int k)]=.ok (.int c,[.val .non,.val .non]):=by
 have e0:dTB (dOp gLt (zab 1) (dFn zcG (dA (zab 0) dA0))) [some (.val (.scr ns)),some (.val (.int k))]=.ok (decide ((k:Int)<ns.length),[some (.val (.scr ns)),some (.val (.int k))]):=zaG (zav (d:=.int k) (e:=.int ns.length) rfl rfl rfl);by_cases h:k<ns.length
 ·refine ⟨ns[k],zap (Z':=[some (.val (.scr ns)),some (.val (.int k))]) rfl ?_ rfl⟩;show zb3 [some (.val (.scr ns)),some (.val (.int k))]=_;unfold zb3;refine zcv ?_;rw[zdG (by rw[e0,decide_eq_true xwo])];refine zb1 (zav (d:=.scr ns) (e:=.int k) rfl rfl ?_);unfold gIx;simp only[zhX (l:=ns) (v:=(k:Int)) xwo xwo,Int.toNat_natCast,wac h]
 ·refine ⟨0,zap (Z':=[some (.val (.scr ns)),some (.val (.int k))]) rfl ?_ rfl⟩;show zb3 [some (.val (.scr ns)),some (.val (.int k))]=_;unfold zb3;rw[zaf (Z1:=[some (.val (.scr ns)),some (.val (.int k))]) (by rw[zbU (by rw[e0,decide_eq_false xwo])];rfl)];rfl
theorem zmX{ns:List Int}{k:Nat}:∃ st,St st/\zck [.val (.scr ns),.val (.int k)]=.ok (.lst st,[.val .non,.val .non]):=by
 obtain ⟨c,hc⟩:=znX (ns:=ns) (k:=k);have e1:zbc 2 (zaj zcd (dR (zab 0) (dR (zab 1) dR0))) [some (.val (.scr ns)),some (.val (.int k)),none]=.ok (.nx,[some (.val (.scr ns)),some (.val (.int k)),some (.val (.int c))]):=zbj (zeZ (Z':=[some (.val (.scr ns)),some (.val (.int k)),none]) (Z'':=[some (.val (.scr ns)),some (.val (.int k)),none]) rfl rfl hc) xws;have ep:dOp znr (dC (.int 10)) (dC (.int 18)) [some (.val (.scr ns)),some (.val (.int k)),some (.val (.int c))]=.ok (.int 1000000000000000000,[some (.val (.scr ns)),some (.val (.int k)),some (.val (.int c))]):=by refine zav rfl rfl ?_;show (if 0<=(18:Int)/\(18:Int)<=1000/\(10:Int).natAbs<18446744073709551616 then R.ok (Dt.int ((10:Int) ^ (18:Int).toNat)) else R.no)=_;rw[if_pos xwd];rfl
 have e2:dTB (dOp gGe (zab 2) (dOp znr (dC (.int 10)) (dC (.int 18)))) [some (.val (.scr ns)),some (.val (.int k)),some (.val (.int c))]=.ok (decide ((1000000000000000000:Int)<=c),[some (.val (.scr ns)),some (.val (.int k)),some (.val (.int c))]):=zaG (zav (d:=.int c) rfl ep rfl);by_cases h:(1000000000000000000:Int)<=c
 ·refine ⟨[.int (c-1000000000000000000),.bl true],⟨_,_,rfl⟩,zap (Z':=[some (.val (.scr ns)),some (.val (.int k)),some (.val (.int c))]) rfl ?_ rfl⟩;show zci [some (.val (.scr ns)),some (.val (.int k)),none]=_;unfold zci;rw[zaf e1];refine zcv ?_;rw[zdG (by rw[e2,decide_eq_true h])];unfold zdL zbQ;rw[dA,zav (d:=.int c) (z:=.int (c-1000000000000000000)) rfl ep rfl];rfl
 ·refine ⟨[.int (c % 2147483647),.bl false],⟨_,_,rfl⟩,zap (Z':=[some (.val (.scr ns)),some (.val (.int k)),some (.val (.int c))]) rfl ?_ rfl⟩;show zci [some (.val (.scr ns)),some (.val (.int k)),none]=_;unfold zci;rw[zaf e1,zaf (Z1:=[some (.val (.scr ns)),some (.val (.int k)),some (.val (.int c))]) (by rw[zbU (by rw[e2,decide_eq_false h])];rfl)];unfold zdL zbQ;rw[dA,zav (d:=.int c) (z:=.int (c % 2147483647)) rfl rfl rfl];rfl
theorem zr5{F:FD}{fa fb:De}{Z Z' Z'':Ev}{d e:Dt}{y:List Dt}{l:List B}(h:fa Z=.ok (d,Z'))(h2:fb Z'=.ok (e,Z''))(hF:F [.val d,.val e]=.ok (.lst y,l)):zc4 F (dR fa (dR fb dR0)) Z=.ok (y,Z''):=by unfold zc4 dR dR0;rw[h];simp only[R.bind_ok,h2,zm2,zbs,if_true,za3,hF];rw[zkW]
inductive Tr where
 |lf (i:Int)|nd (row:Bool) (l:List Tr)
noncomputable def wd(r:Bool):Str:=if r then Str.ofString "row" else Str.ofString "any"
mutual
noncomputable def toD:Tr->Dt
 |.lf i=>.int i
 |.nd r l=>.tup [.str (wd r),.tup (zkt l)]
noncomputable def zkt:List Tr->List Dt
 |[]=>[]
 |t::r=>toD t::zkt r
end
mutual
noncomputable def zac:Tr->List Int
 |.lf i=>[i]
 |.nd _ l=>zak l
noncomputable def zak:List Tr->List Int
 |[]=>[]
 |t::r=>zac t++zak r
end
mutual
noncomputable def dep:Tr->Nat
 |.lf _=>1
 |.nd _ l=>ziY l+1
noncomputable def ziY:List Tr->Nat
 |[]=>0
 |t::r=>max (dep t) (ziY r)
end
mutual
noncomputable def okT:Tr->Bool
 |.lf _=>true
 |.nd r l=>decide ((if r then 3 else 2)<=l.length) && znz l
noncomputable def znz:List Tr->Bool
 |[]=>true
 |t::r=>okT t && znz r
end
theorem zdk:∀ l:List Tr,zkt l=l.map toD
 |[]=>by simp[zkt]
 |t::r=>by simp[zkt,zdk r]
theorem zbh:∀ l:List Tr,zak l=l.flatMap zac
 |[]=>by simp[zak]
 |t::r=>by simp[zak,zbh r]
theorem zl7:∀ l:List Tr,znz l=l.all okT
 |[]=>by simp[znz]
 |t::r=>by simp[znz,zl7 r]
theorem zdN{n:Nat}:∀{l:List Tr},ziY l<=n ↔ ∀ t∈l,dep t<=n
 |[]=>by simp[ziY]
 |t::r=>by have:=zdN (n:=n) (l:=r);simp only[ziY,wap,forall_eq_or_imp];rw[<- this];omega
theorem zfi:∀(n:Nat)(t:Tr),dep t<=n->okT t=true->zac t≠[]
 |n,.lf i,_,_=>by simp[zac]
 |0,.nd r l,h,_=>by simp[dep] at h
 |n+1,.nd r l,h,ho=>by
  simp only[dep,okT,wae,war] at h ho;cases l with
  |nil=>have:=ho.1;cases r <;> simp at this
  |cons t q =>
   simp only[znz,wae] at ho;have:=zfi n t (by simp only[ziY] at h;omega) ho.2.1;simp only[zac,zak];intro z;exact this (List.append_eq_nil_iff.mp z).1
theorem zhJ{α:Type}{u:α->Dt}{f:α->List Dt}{fe:DN}{Z0:Ev}:∀{l:List α}{o:Option B},(∀ a∈l,fe (Z0++[some (.val (u a))])=.ok (f a,Z0++[some (.val (u a))]))->∃ o',zd9 (zaU Z0.length) dTT fe (l.map u) (Z0++[o])=.ok (l.map f,Z0++[o'])
 |[],o,_=>⟨o,rfl⟩
 |a::l,o,h=>by obtain ⟨o',e⟩:=zhJ (l:=l) (o:=some (.val (u a))) λb hb=>h b (wah _ hb);refine ⟨o',?_⟩;rw[List.map_cons,zd9,zoS];simp only[R.bind_ok,dTT,if_true];rw[h a xws];simp only[R.bind_ok];rw[e];rfl
theorem zgX{g:Int}:∀{l:List (List Int)}{j:Nat}{p:List Int},l[j]? = some p->(l.set j (p++[g])).flatten.Perm (l.flatten++[g])
 |[],j,p,h=>by simp at h
 |a::l,0,p,h=>by simp at h;subst h;simp only[List.set_cons_zero,List.flatten_cons,List.append_assoc];exact List.Perm.append_left _ List.perm_append_comm
 |a::l,j+1,p,h=>by have:=zgX (g:=g) (l:=l) (j:=j) (p:=p) (by simpa using h);simp only[List.set_cons_succ,List.flatten_cons,List.append_assoc];exact this.append_left a
noncomputable def lz(p:List Int):List Dt:=p.map .int
theorem zki{g r b6:Option B}{m:Nat}:∀{gs:List Int}{pss:List (List Int)}{st:List Dt}{o:Option B},0<m->m<=100->pss.length=m->(∀ p∈pss,p≠[])->pss.flatten.length+gs.length<=1000->St st ->
  ∃(pss':List (List Int))(st':List Dt)(o':Option B),St st'/\pss'.length=m/\(∀ p∈pss',p≠[])/\pss'.flatten.Perm (pss.flatten++gs) /\
   zmS (zaU 5) (dEx (zkc 4 5 (zaj zaq (dRO 0 (dR (zab 3) dR0))))) (gs.map .int) [some (.own st),g,r,some (.val (.int m)),some (.own2 (pss.map lz)),o,b6]=.ok (.nx,[some (.own st'),g,r,some (.val (.int m)),some (.own2 (pss'.map lz)),o',b6])
 |[],pss,st,o,_,_,hl,hne,_,hs=>⟨pss,st,o,hs,hl,hne,xws,rfl⟩
 |x::gs,pss,st,o,m0,m1,hl,hne,hb,hs=>by
  obtain ⟨v,st1,e,hs1,v0,v1⟩:=zdh (m:=(m:Nat)) hs xwo xwo;have hj:v.toNat<pss.length:=by omega
  obtain ⟨p,hp⟩ : ∃ p,pss[v.toNat]? = some p:=⟨_,wac hj⟩
  have hfs:=zgX (g:=x) hp;have hpl:p.length<=pss.flatten.length:=(List.sublist_flatten_of_mem (waH hp)).length_le;obtain ⟨pss',st',o',hs',hl',hne',hp',e'⟩:=zki (g:=g) (r:=r) (b6:=b6) (m:=m) (gs:=gs) (pss:=pss.set v.toNat (p++[x])) (st:=st1) (o:=some (.val (.int x))) m0 m1 (by simpa using hl) (λq hq=>by
    rcases List.mem_or_eq_of_mem_set hq with z|z
    ·exact hne q z
    ·rw[z];simp) (by rw[hfs.length_eq];simp only[wav,wan,List.length_nil] at hb ⊢;omega) hs1
  refine ⟨pss',st',o',hs',hl',hne',?_,?_⟩
  ·refine hp'.trans ((hfs.append_right gs).trans ?_);simp
  ·rw[List.map_cons,zmS];show ((dEx (zkc 4 5 (zaj zaq (dRO 0 (dR (zab 3) dR0))))) [some (.own st),g,r,some (.val (.int m)),some (.own2 (pss.map lz)),some (.val (.int x)),b6]).bind _=_;have ec:=zhr (F:=zaq) (fb:=zab 3) (i:=0) (Z:=[some (.own st),g,r,some (.val (.int m)),some (.own2 (pss.map lz)),some (.val (.int x)),b6]) rfl rfl e;have eB:dEx (zkc 4 5 (zaj zaq (dRO 0 (dR (zab 3) dR0)))) [some (.own st),g,r,some (.val (.int m)),some (.own2 (pss.map lz)),some (.val (.int x)),b6]=.ok (.nx,[some (.own st1),g,r,some (.val (.int m)),some (.own2 ((pss.set v.toNat (p++[x])).map lz)),some (.val (.int x)),b6]):=by
    refine zfa (d:=.non) ?_;have hx:(pss.map lz)[v.toNat]? = some (lz p):=by rw[List.getElem?_map,hp];rfl
    have hix:ixN (pss.map lz).length v=some v.toNat:=zkA v0 (by rw[List.length_map];omega);unfold zkc;simp only[List.getElem?_cons_succ,List.getElem?_cons_zero,ec,R.bind_ok,List.set_cons_zero,hix,hx];rw[if_pos (by unfold lz;rw[List.length_map];simp only[wan] at hb;omega)];simp only[List.set_cons_succ,List.set_cons_zero];rw[List.map_set];unfold lz;simp
   rw[eB];simp only[R.bind_ok];exact e'
theorem zvd{m:Nat}{pss:List (List Int)}(hl:pss.length=m)(h2:2<=m)(hne:∀ p∈pss,p≠[]):∀ p∈pss,p.length<pss.flatten.length:=by
 intro p hp;obtain ⟨a,b,rfl⟩:=List.append_of_mem hp;have:0<a.flatten.length+b.flatten.length:=by
  cases a with
  |cons q a =>
   have:=List.length_pos_iff.mpr (hne q xws);simp only[List.flatten_cons,wav];omega
  |nil =>
   cases b with
   |cons q b =>
    have:=List.length_pos_iff.mpr (hne q xws);simp only[List.flatten_cons,wav];omega
   |nil=>simp at hl;omega
 simp only[List.flatten_append,List.flatten_cons,wav];omega
noncomputable def zv1(p:List Int)(t:Tr):Prop:=okT t=true/\(zac t).Perm p/\dep t<=p.length
theorem zjC{k:Nat}:∀{pss:List (List Int)}{ts:List Tr},Paired zv1 pss ts->(∀ p∈pss,p.length<=k)->znz ts=true/\(zak ts).Perm pss.flatten/\ziY ts<=k/\ts.length=pss.length
 |_,_,.nil,_=>by simp[znz,zak,ziY]
 |p::pss,t::ts,.cons h r,hk=>by obtain ⟨a1,a2,a3,a4⟩:=zjC (k:=k) r λq hq=>hk q (wah _ hq);have:=hk p xws;obtain ⟨b1,b2,b3⟩:=h;simp only[znz,zak,ziY,List.flatten_cons,wan];exact ⟨by rw[b1,a1];rfl,b2.append a2,xwo,xwo⟩
theorem zj7:∀(n:Nat)(gs:List Int)(st:List Dt),gs.length<=n->n<=8->1<=gs.length->gs.length<=7->St st->∃ t st',St st'/\zv1 gs t/\zaN n [.own st,.val (.lst (gs.map .int))]=.ok (toD t,[.own st',.val .non])
 |0,gs,st,h,_,h1,_,_=>by omega
 |n+1,gs,st,h,h8,h1,h7,hs=>by
  by_cases hone:gs.length=1
  ·obtain ⟨g,rfl⟩:=List.length_eq_one_iff.mp hone;refine ⟨.lf g,st,hs,⟨rfl,.refl _,by simp[dep]⟩,zap (Z':=[some (.own st),some (.val (.lst [.int g])),none,none,none,none,none]) rfl ?_ rfl⟩;rw[toD];show zbY (zaN n) [some (.own st),some (.val (.lst [.int g])),none,none,none,none,none]=_;unfold zbY;refine zcv ?_;rw[zdG (Z1:=[some (.own st),some (.val (.lst [.int g])),none,none,none,none,none]) (zaG (zav (d:=.int 1) (e:=.int 1) rfl rfl (by rw[zbC rfl rfl,eqI];rfl)))];rfl
  ·
   obtain ⟨st1,p,hs1,hp,e1⟩:=zhQ (l:=gs.map .int) hs (by rw[List.length_map];omega) (λd hd=>by obtain ⟨i,_,rfl⟩:=List.mem_map.mp hd;rfl);obtain ⟨q,hq,rfl⟩:=zfR hp;have hql:=hq.length_eq;obtain ⟨v,st2,e2,hs2,v0,v1⟩:=zdh (m:=(q.length:Int)-1) hs1 xwo xwo;obtain ⟨m,hm⟩ : ∃ m:Nat,(m:Int)=2+v:=⟨(2+v).toNat,xwo⟩
   have m2:2<=m:=by omega
   have mq:m<=q.length:=by omega
   have cut1:zhj (q.map Dt.int) none (some (m:Int))=(q.take m).map .int:=by unfold zhj;rw[HT.sIx_nat];simp only[HT.sIx_none,List.drop_zero,Nat.sub_zero,wag];rw[Nat.min_eq_left mq,List.map_take]
   have cut2:zhj (q.map Dt.int) (some (m:Int)) none=(q.drop m).map .int:=by unfold zhj;rw[HT.sIx_nat];simp only[HT.sIx_none,wag];rw[Nat.min_eq_left mq,List.map_drop,List.take_of_length_le xws]
   let G:Option B:=some (.val (.lst (gs.map .int)));let Rw:Option B:=some (.val (.lst (q.map .int)));let Mn:Option B:=some (.val (.int m));have x1:zbc 2 (zaj zaL (dRO 0 (dR (zab 1) dR0))) [some (.own st),G,none,none,none,none,none]=.ok (.nx,[some (.own st1),G,Rw,none,none,none,none]) :=
    zbj (zhr (Z:=[some (.own st),G,none,none,none,none,none]) rfl rfl e1) xws
   have x2:zbc 3 (dOp zdK (dC (.int 2)) (zaj zaq (dRO 0 (dR (dOp zm6 (dFn zcG (dA (zab 2) dA0)) (dC (.int 1))) dR0)))) [some (.own st1),G,Rw,none,none,none,none]=.ok (.nx,[some (.own st2),G,Rw,Mn,none,none,none]):=by
    have ea:dOp zm6 (dFn zcG (dA (zab 2) dA0)) (dC (.int 1)) [some (.own st1),G,Rw,none,none,none,none]=.ok (.int ((q.length:Int)-1),[some (.own st1),G,Rw,none,none,none,none]):=by refine zav (d:=.int (q.map Dt.int).length) rfl rfl ?_;rw[List.length_map];rfl
    refine zbj (zav rfl (zhr (Z:=[some (.own st1),G,Rw,none,none,none,none]) rfl ea e2) (z:=.int m) ?_) xws;rw[hm];rfl
   obtain ⟨o7,c1⟩:=zhJ (Z0:=[some (.own st2),G,Rw,Mn,none,none,none]) (u:=Dt.int) (f:=λg=>[.int g]) (fe:=zbQ (dA (zab 7) dA0)) (l:=q.take m) (o:=none) λg _=>rfl;have hpm:(q.take m).map (λg=>[Dt.int g])=((q.take m).map λg=>[g]).map lz:=by rw[List.map_map];rfl
   have x3:zme 4 (dIt (dFz (zmL (zab 2) dO0 (dO1 (zab 3))))) (zaU 7) dTT (zbQ (dA (zab 7) dA0)) 1 [some (.own st2),G,Rw,Mn,none,none,none]=.ok (.nx,[some (.own st2),G,Rw,Mn,some (.own2 (((q.take m).map λg=>[g]).map lz)),none,none]):=by
    have ei:dIt (dFz (zmL (zab 2) dO0 (dO1 (zab 3)))) [some (.own st2),G,Rw,Mn,none,none,none]=.ok ((q.take m).map .int,[some (.own st2),G,Rw,Mn,none,none,none]):=by show R.ok (zhj (q.map Dt.int) none (some (m:Int)),_)=_;rw[cut1]
    unfold zme;rw[ei];simp only[R.bind_ok];rw[if_pos (by unfold zdC;simp only[List.length_map,List.length_take,decide_eq_true_eq];omega)];show (match zd9 (zaU 7) dTT (zbQ (dA (zab 7) dA0)) ((q.take m).map .int) ([some (.own st2),G,Rw,Mn,none,none,none]++[none]) with|.ok z=>if 4<7 then R.ok (Fl.nx,(z.2.take 7).set 4 (some (.own2 z.1))) else .no|_=>.no)=_;have c1':zd9 (zaU 7) dTT (zbQ (dA (zab 7) dA0)) ((q.take m).map .int) ([some (.own st2),G,Rw,Mn,none,none,none]++[none])=.ok ((q.take m).map (λg=>[Dt.int g]),[some (.own st2),G,Rw,Mn,none,none,none]++[o7]):=c1;rw[c1',hpm];rfl
   have hfl:((q.take m).map λg=>[g]).flatten=q.take m:=by
    induction q.take m with
    |nil=>rfl
    |cons a r ih=>simp[ih]
   obtain ⟨pss,st3,o5,hs3,hl3,hne3,hp3,e3⟩:=zki (g:=G) (r:=Rw) (b6:=none) (m:=m) (gs:=q.drop m) (pss:=(q.take m).map λg=>[g]) (st:=st2) (o:=none) xwo xwo (by rw[List.length_map,List.length_take];omega) (λp hp=>by obtain ⟨g,_,rfl⟩:=List.mem_map.mp hp;simp) (by rw[hfl,List.length_take,List.length_drop];omega) hs2;have hflp:pss.flatten.Perm gs:=by refine hp3.trans ?_;rw[hfl,List.take_append_drop];exact hq
   have x4:zeU (dIt (dFz (zmL (zab 2) (dO1 (zab 3)) dO0))) (zaU 5) (dEx (zkc 4 5 (zaj zaq (dRO 0 (dR (zab 3) dR0))))) [some (.own st2),G,Rw,Mn,some (.own2 (((q.take m).map λg=>[g]).map lz)),none,none]=.ok (.nx,[some (.own st3),G,Rw,Mn,some (.own2 (pss.map lz)),o5,none]):=by
    have ei:dIt (dFz (zmL (zab 2) (dO1 (zab 3)) dO0)) [some (.own st2),G,Rw,Mn,some (.own2 (((q.take m).map λg=>[g]).map lz)),none,none]=.ok ((q.drop m).map .int,[some (.own st2),G,Rw,Mn,some (.own2 (((q.take m).map λg=>[g]).map lz)),none,none]):=by show R.ok (zhj (q.map Dt.int) (some (m:Int)) none,_)=_;rw[cut2]
    unfold zeU;rw[ei];exact e3
   have hlt:=zvd hl3 m2 hne3;have hfll:=hflp.length_eq;let Fz:Option B:=some (.val (.lst ((pss.map lz).map .lst)));obtain ⟨ts,st4,hs4,hp4,e4⟩:=zqM (Rl:=zv1) (u:=λp=>.lst (lz p)) (v:=toD) (zbq:=[G,Rw,Mn,Fz,o5,none]) (fi:=dIt (zd8 4)) (fe:=zaj (zaN n) (dRO 0 (dR (zab 7) dR0))) (l:=pss) (ds:=(pss.map lz).map .lst) (j:=7) (Z:=[some (.own st3),G,Rw,Mn,some (.own2 (pss.map lz)),o5,none]) (st:=st3) rfl (by rw[List.map_map];rfl) xwo rfl
    (λp hp st' hs'=>by have:=hlt p hp;have hpos:=List.length_pos_iff.mpr (hne3 p hp);obtain ⟨t,st5,h5,h6,h7'⟩:=zj7 n p st' xwo xwo xwo xwo hs';exact ⟨t,st5,h5,h6,zhr (Z:=some (.own st')::([G,Rw,Mn,Fz,o5,none]++[some (.val (.lst (lz p)))])) rfl rfl h7'⟩) hs3
   obtain ⟨k1,k2,k3,k4⟩:=zjC (k:=gs.length-1) hp4 λp hp=>by have:=hlt p hp;omega
   have x5:zbc 6 (dFn ze9 (dA (dFz (zaY (dIt (zd8 4)) (zaU 7) dTT (zaj (zaN n) (dRO 0 (dR (zab 7) dR0))) 1)) dA0)) [some (.own st3),G,Rw,Mn,some (.own2 (pss.map lz)),o5,none]=.ok (.nx,[some (.own st4),G,Rw,Mn,Fz,o5,some (.val (.tup (ts.map toD)))]):=zbj (zdd (zaQ e4) rfl) xws;have pre:∀ X,zbY (zaN n) [some (.own st),G,none,none,none,none,none]=X ↔ zaw (dIf (ziU (dTB (dOp gGt (zab 3) (dC (.int 2)))) (dTB (dOp (gEq false) (zaj zaq (dRO 0 (dR (dC (.int 2)) dR0))) (dC (.int 1))))) (zaV (zgD (dA (dC (.str (Str.ofString "row"))) (dA (zab 6) dA0)))) dNx) (zaV (zgD (dA (dC (.str (Str.ofString "any"))) (dA (zab 6) dA0)))) [some (.own st4),G,Rw,Mn,Fz,o5,some (.val (.tup (ts.map toD)))]=X:=λX=>by
    unfold zbY;have x0:dTB (dOp (gEq false) (dFn zcG (dA (zab 1) dA0)) (dC (.int 1))) [some (.own st),G,none,none,none,none,none]=.ok (false,[some (.own st),G,none,none,none,none,none]):=by
     refine zaG (zav (d:=.int (gs.map Dt.int).length) rfl rfl ?_);rw[zbC rfl rfl,eqI,List.length_map];have:((gs.length:Int) == 1)=false:=by simp;omega
     rw[this];rfl
    rw[zaf (Z1:=[some (.own st),G,none,none,none,none,none]) (by rw[zbU x0];rfl),zaf x1,zaf x2,zaf x3,zaf x4,zaf x5]
   have fin:∀(r:Bool)(st5:List Dt),(r=true->3<=m)->St st5->zbY (zaN n) [some (.own st),G,none,none,none,none,none]=.ok (.rt (toD (.nd r ts)),[some (.own st5),G,Rw,Mn,Fz,o5,some (.val (.tup (ts.map toD)))])->∃ t st',St st'/\zv1 gs t/\zaN (n+1) [.own st,.val (.lst (gs.map .int))]=.ok (toD t,[.own st',.val .non]):=λr st5 hr hs5 hd=>by
    refine ⟨.nd r ts,st5,hs5,⟨?_,k2.trans hflp,?_⟩,zap (Z':=[some (.own st5),G,Rw,Mn,Fz,o5,some (.val (.tup (ts.map toD)))]) rfl hd rfl⟩
    ·simp only[okT,k1,Bool.and_true,war,k4,hl3];cases r with
     |false=>simpa using m2
     |true=>simpa using hr rfl
    ·simp only[dep];omega
   have hD:∀ r,toD (.nd r ts)=.tup [.str (wd r),.tup (ts.map toD)]:=λr=>by rw[toD,zdk]
   by_cases h3:2<m
   ·have y1:dTB (dOp gGt (zab 3) (dC (.int 2))) [some (.own st4),G,Rw,Mn,Fz,o5,some (.val (.tup (ts.map toD)))]=.ok (true,[some (.own st4),G,Rw,Mn,Fz,o5,some (.val (.tup (ts.map toD)))]):=by refine zaG (zav (d:=.int m) rfl rfl ?_);simp only[zmv];rw[decide_eq_true (by omega:(2:Int)<m)]
    obtain ⟨u,st5,e5,hs5,u0,u1⟩:=zdh (m:=2) hs4 xwd xwd;have ec:=zhr (F:=zaq) (fb:=dC (.int 2)) (i:=0) (Z:=[some (.own st4),G,Rw,Mn,Fz,o5,some (.val (.tup (ts.map toD)))]) rfl rfl e5;have y2:dTB (dOp (gEq false) (zaj zaq (dRO 0 (dR (dC (.int 2)) dR0))) (dC (.int 1))) [some (.own st4),G,Rw,Mn,Fz,o5,some (.val (.tup (ts.map toD)))]=.ok (u == 1,[some (.own st5),G,Rw,Mn,Fz,o5,some (.val (.tup (ts.map toD)))]):=zaG (zav ec rfl (by rw[zbC rfl rfl,eqI];rfl));by_cases hu:u=1
    ·refine fin true st5 (λ_=>by omega) hs5 ((pre _).mpr (zcv ?_));rw[zdG (by rw[zkQ y1,y2,hu];rfl),hD];rfl
    ·have hu':(u == 1)=false:=by simpa using hu
     refine fin false st5 (λz=>by cases z) hs5 ((pre _).mpr ?_);rw[zaf (Z1:=[some (.own st5),G,Rw,Mn,Fz,o5,some (.val (.tup (ts.map toD)))]) (by rw[zbU (by rw[zkQ y1,y2,hu'])];rfl),hD];rfl
   ·have y1:dTB (dOp gGt (zab 3) (dC (.int 2))) [some (.own st4),G,Rw,Mn,Fz,o5,some (.val (.tup (ts.map toD)))]=.ok (false,[some (.own st4),G,Rw,Mn,Fz,o5,some (.val (.tup (ts.map toD)))]):=by refine zaG (zav (d:=.int m) rfl rfl ?_);simp only[zmv];rw[decide_eq_false (by omega:¬ (2:Int)<m)]
    refine fin false st4 (λz=>by cases z) hs4 ((pre _).mpr ?_);rw[zaf (Z1:=[some (.own st4),G,Rw,Mn,Fz,o5,some (.val (.tup (ts.map toD)))]) (by rw[zbU (by rw[znt y1])];rfl),hD];rfl
noncomputable def tz(p:List Int):Dt:=.tup (p.map .int)
noncomputable def lp(ps:List (List Int)):List Dt:=ps.map tz
theorem zio(r:Bool):PySem.PyData.strOk (wd r)=true:=by cases r <;> decide +kernel
noncomputable def zvA:Tr->Bool
 |.lf _=>true
 |.nd _ _=>false
theorem zjh(t:Tr):zbt [.val (toD t)]=.ok (.bl (zvA t),[.val .non]):=by
 cases t with
 |lf i=>rw[toD];rfl
 |nd r l=>rw[toD];rfl
theorem zcU:∀{l:List Tr}{t:Tr},t∈l->(zac t).length<=(zak l).length
 |[],_,h=>by cases h
 |u::l,t,h=>by
  simp only[zak,wav];rcases wap.mp h with rfl|h
  ·omega
  ·have:=zcU h;omega
theorem eqS{x y:Str}:eqD (.str x) (.str y)=(x == y):=by rw[eqD]
theorem ztP(r:Bool):(wd r == Str.ofString "any") = !r:=by cases r <;> decide +kernel
theorem zrL(r:Bool):(wd r == Str.ofString "row")=r:=by cases r <;> decide +kernel
theorem znF:PySem.PyData.strOk (Str.ofString "any")=true:=by decide +kernel
theorem zjL:PySem.PyData.strOk (Str.ofString "row")=true:=by decide +kernel
theorem zlK{α:Type}(f:α->Bool):∀ l:List α,zeu (l.map λd=>.bl (f d))=some (l.map f)
 |[]=>rfl
 |a::r=>by rw[List.map_cons,zeu,zlK f r];rfl
theorem zrC{α:Type}(f:α->Bool)(l:List α):zkK [.lst (l.map λd=>.bl (f d))]=.ok (.bl (l.all f)):=by unfold zkK;simp only[zlK];rw[List.all_map];rfl
noncomputable def tdN:Nat->Dt->Bool
 |_,.int _=>true
 |_,.str x=>PySem.PyData.strOk x
 |n+1,.tup l=>decide (l.length<=1000) && l.all (tdN n)
 |_,_=>false
theorem zil{n:Nat}:∀(l:List Tr),ziY l<=n->znz l=true->l.length<=(zak l).length
 |[],_,_=>by simp
 |t::q,hd,ho=>by simp only[ziY] at hd;simp only[znz,wae] at ho;have h1:=List.length_pos_iff.mpr (zfi n t xwo ho.1);have h2:=zil (n:=n) q xwo ho.2;simp only[zak,wav,wan];omega
theorem okB{b:Bool}:okN 60 (.bl b)=true:=rfl
theorem eqB{a b:Bool}:eqD (.bl a) (.bl b)=(a == b):=by rw[eqD]
theorem zlW{f:Dt->Dt}{fe:De}{a b:Option B}:∀{l:List Dt}{o o2:Option B},(∀ d∈l,fe [a,b,some (.val d),some (.val d)]=.ok (f d,[a,b,some (.val d),some (.val d)]))->∃ o' o2',zb5 (zlt 2 3) dTT fe (l.map λd=>.tup [d,d]) [a,b,o,o2]=.ok (l.map f,[a,b,o',o2'])
 |[],o,o2,_=>⟨o,o2,rfl⟩
 |d::l,o,o2,h=>by obtain ⟨o',o2',e⟩:=zlW (l:=l) (o:=some (.val d)) (o2:=some (.val d)) λc hc=>h c (wah _ hc);refine ⟨o',o2',?_⟩;rw[List.map_cons,zb5];show (((fe [a,b,some (.val d),some (.val d)]).bind λy=>(zb5 (zlt 2 3) dTT fe (l.map λd=>.tup [d,d]) y.2).bind λz=>R.ok (y.1::z.1,z.2)):R _)=_;rw[h d xws];simp only[R.bind_ok];rw[e];rfl
theorem zhD:∀(l:List Dt),zeu (l.map λ_=>Dt.bl true)=some (l.map λ_=>true)
 |[]=>rfl
 |d::l=>by simp[zeu,zhD l]
theorem zgG{F:FD}{d:Dt}(h1:(zkr (tyD d) "tuple" || zkr (tyD d) "list")=false)(h2:okN 60 d=true)(h3:eqD d d=true):zc2 F [some (.val d),some (.val d)]=.ok (.rt (.bl true),[some (.val d),some (.val d)]):=by
 unfold zc2;have e0:dTB (ztr "tuple" "list" (zab 1)) [some (.val d),some (.val d)]=.ok (false,[some (.val d),some (.val d)]):=by show R.ok ((zkr (tyD d) "tuple" || zkr (tyD d) "list"),[some (B.val d),some (.val d)])=_;rw[h1]
 rw[zaf (Z1:=[some (.val d),some (.val d)]) (by rw[zbU e0];rfl)];refine zb1 ?_;have e1:dOp (gEq false) (zab 0) (zab 1) [some (.val d),some (.val d)]=.ok (.bl true,[some (.val d),some (.val d)]):=zav rfl rfl (by rw[zbC h2 h2,h3];rfl);have e2:dOp (gEq false) (zfQ "bool" (zab 0)) (zfQ "bool" (zab 1)) [some (.val d),some (.val d)]=.ok (.bl true,[some (.val d),some (.val d)]):=zav rfl rfl (by rw[zbC okB okB,eqB];simp)
 unfold ziZ;rw[e1];simp only[R.bind_ok];rw[e2]
theorem zmn{n:Nat}{l:List Dt}(hl:l.length<=1000)(hs:∀ d∈l,za2 (n+1) [.val d,.val d]=.ok (.bl true,[.val .non,.val .non])):za2 (n+2) [.val (.tup l),.val (.tup l)]=.ok (.bl true,[.val .non,.val .non]):=by
  refine zap (Z':=[some (.val (.tup l)),some (.val (.tup l))]) rfl ?_ rfl;show zc2 (za2 (n+1)) [some (.val (.tup l)),some (.val (.tup l))]=_;unfold zc2;refine zcv ?_;rw[zdG (Z1:=[some (.val (.tup l)),some (.val (.tup l))]) rfl];have t1:dTB (dOp (gEq true) (zfQ "tuple" (zab 0)) (zfQ "tuple" (zab 1))) [some (.val (.tup l)),some (.val (.tup l))]=.ok (false,[some (.val (.tup l)),some (.val (.tup l))]):=zaG (zav rfl rfl (by rw[zbC okB okB,eqB];simp));have t2:dTB (dOp (gEq true) (zfQ "list" (zab 0)) (zfQ "list" (zab 1))) [some (.val (.tup l)),some (.val (.tup l))]=.ok (false,[some (.val (.tup l)),some (.val (.tup l))]):=zaG (zav rfl rfl (by rw[zbC okB okB,eqB];simp));have t3:dTB (dOp (gEq true) (dFn zcG (dA (zab 0) dA0)) (dFn zcG (dA (zab 1) dA0))) [some (.val (.tup l)),some (.val (.tup l))]=.ok (false,[some (.val (.tup l)),some (.val (.tup l))]):=zaG (zav (d:=.int l.length) (e:=.int l.length) rfl rfl (by rw[zbC rfl rfl,eqI];simp));rw[zaf (Z1:=[some (.val (.tup l)),some (.val (.tup l))]) (by rw[zbU (Z1:=[some (.val (.tup l)),some (.val (.tup l))]) (by rw[zjk t1,t2])];rfl)];rw[zaf (Z1:=[some (.val (.tup l)),some (.val (.tup l))]) (by rw[zbU t3];rfl)];refine zb1 ?_;obtain ⟨o',o2',e⟩:=zlW (a:=some (.val (.tup l))) (b:=some (.val (.tup l))) (fe:=zaj (za2 (n+1)) (dR (zab 2) (dR (zab 3) dR0))) (f:=λ_=>.bl true) (l:=l) (o:=none) (o2:=none) λd hd =>
   zeZ (Z':=[some (.val (.tup l)),some (.val (.tup l)),some (.val d),some (.val d)]) rfl rfl (hs d hd)
  have ez:∀(l:List Dt),(l.zip l).map (λz=>Dt.tup [z.1,z.2])=l.map λd=>.tup [d,d]:=λl=>by
   induction l with
   |nil=>rfl
   |cons d l ih=>simp[ih]
  have ec:dFz (zaY (znG (zab 0) (zab 1)) (zlt 2 3) dTT (zaj (za2 (n+1)) (dR (zab 2) (dR (zab 3) dR0))) 2) [some (.val (.tup l)),some (.val (.tup l))]=.ok (.lst (l.map λ_=>.bl true),[some (.val (.tup l)),some (.val (.tup l))]):=by
   refine zaQ ?_;have eZ:znG (zab 0) (zab 1) [some (.val (.tup l)),some (.val (.tup l))]=.ok (l.map λd=>.tup [d,d],[some (.val (.tup l)),some (.val (.tup l))]):=by show (if l.length=l.length then R.ok ((l.zip l).map (λz=>Dt.tup [z.1,z.2]),[some (B.val (.tup l)),some (.val (.tup l))]) else .no)=_;rw[if_pos rfl,ez]
   unfold zaY;rw[eZ];simp only[R.bind_ok];rw[if_pos (by unfold zdC;simp only[List.length_map,decide_eq_true_eq];omega)];show (match zb5 (zlt 2 3) dTT (zaj (za2 (n+1)) (dR (zab 2) (dR (zab 3) dR0))) (l.map λd=>.tup [d,d]) [some (.val (.tup l)),some (.val (.tup l)),none,none] with|.ok z=>R.ok (z.1,z.2.take 2)|_=>.no)=_;rw[e];rfl
  refine zdd ec ?_;unfold zkK;simp only[zhD];simp
theorem zg8:∀(n:Nat)(d:Dt),tdN n d=true->okN 60 d=true->za2 (n+1) [.val d,.val d]=.ok (.bl true,[.val .non,.val .non])
 |n,.int i,ht,ho=>zap rfl (zgG rfl ho (by rw[eqI];simp)) rfl
 |n,.str x,ht,ho=>zap rfl (zgG rfl ho (by rw[eqS];simp)) rfl
 |0,.tup l,ht,ho=>by simp[tdN] at ht
 |n+1,.tup l,ht,ho=>by
  rw[tdN,Bool.and_eq_true,List.all_eq_true,decide_eq_true_eq] at ht;exact zmn ht.1 λd hd=>zg8 n d (ht.2 d hd) (by rw[okN,List.all_eq_true] at ho;exact ziW _ _ (ho d hd))
 |n,.non,ht,ho=>by cases n <;> simp[tdN] at ht
 |n,.bl _,ht,ho=>by cases n <;> simp[tdN] at ht
 |n,.lst _,ht,ho=>by cases n <;> simp[tdN] at ht
 |n,.dct _,ht,ho=>by cases n <;> simp[tdN] at ht
 |n,.scr _,ht,ho=>by cases n <;> simp[tdN] at ht
theorem zts{k:Nat}(p:List Int)(hl:p.length<=1000):za2 (k+2) [.val (tz p),.val (tz p)]=.ok (.bl true,[.val .non,.val .non]):=by unfold tz;refine zmn (by simpa using hl) λd hd=>?_;obtain ⟨i,_,rfl⟩:=List.mem_map.mp hd;exact zg8 k (.int i) (by cases k <;> rfl) rfl
theorem zgt{F:FD}{x:Option B}:∀{l:List Tr}{acc:List Int}{o:Option B},(∀ t∈l,F [.val (toD t)]=.ok (.lst ((zac t).map .int),[.val .non]))->acc.length+(zak l).length<=1000 ->
  ∃ o',zmS (zaU 2) (zbc 1 (dFz (zgM (zab 1) (zaj F (dR (zab 2) dR0))))) (zkt l) [x,some (.val (.lst (acc.map .int))),o]=.ok (.nx,[x,some (.val (.lst ((acc++zak l).map .int))),o'])
 |[],acc,o,_,_=>⟨o,by simp[zkt,zmS,zak]⟩
 |t::l,acc,o,h,hl=>by
  simp only[zak,wav] at hl;obtain ⟨o',e⟩:=zgt (F:=F) (x:=x) (l:=l) (acc:=acc++zac t) (o:=some (.val (toD t))) (λu hu=>h u (wah _ hu)) (by simp only[wav];omega);refine ⟨o',?_⟩;rw[zkt,zmS];show ((zbc 1 (dFz (zgM (zab 1) (zaj F (dR (zab 2) dR0))))) [x,some (.val (.lst (acc.map .int))),some (.val (toD t))]).bind _=_;have e1:zbc 1 (dFz (zgM (zab 1) (zaj F (dR (zab 2) dR0)))) [x,some (.val (.lst (acc.map .int))),some (.val (toD t))]=.ok (.nx,[x,some (.val (.lst ((acc++zac t).map .int))),some (.val (toD t))]):=by
   have ec:=zde (F:=F) (fa:=zab 2) (Z:=[x,some (.val (.lst (acc.map .int))),some (.val (toD t))]) (Z':=[x,some (.val (.lst (acc.map .int))),some (.val (toD t))]) rfl (h t xws);have e2:zgM (zab 1) (zaj F (dR (zab 2) dR0)) [x,some (.val (.lst (acc.map .int))),some (.val (toD t))]=.ok ((acc++zac t).map .int,[x,some (.val (.lst (acc.map .int))),some (.val (toD t))]):=by have ev:zab 1 [x,some (.val (.lst (acc.map .int))),some (.val (toD t))]=.ok (.lst (acc.map .int),[x,some (.val (.lst (acc.map .int))),some (.val (toD t))]):=rfl;unfold zgM;rw[ev];simp only[R.bind_ok];rw[ec];simp only[R.bind_ok];rw[if_pos (by simp only[List.length_map];omega),List.map_append]
   exact zbj (zaQ e2) xws
  rw[e1];simp only[R.bind_ok];rw[e,zak,List.append_assoc]
theorem zgC:∀(n:Nat)(t:Tr),dep t<=n->(zac t).length<=1000->zaO n [.val (toD t)]=.ok (.lst ((zac t).map .int),[.val .non])
 |0,t,h,_=>by cases t <;> simp[dep] at h
 |n+1,.lf i,h,hl=>by refine zap (Z':=[some (.val (.int i)),none,none]) rfl ?_ rfl;rw[toD,zac];rfl
 |n+1,.nd r l,h,hl=>by
  simp only[dep] at h;simp only[zac] at hl ⊢;obtain ⟨o',e⟩:=zgt (F:=zaO n) (x:=some (.val (toD (.nd r l)))) (l:=l) (acc:=[]) (o:=none) (λt ht=>zgC n t (zdN.mp (by omega:ziY l<=n) t ht) (by have:=zcU ht;omega)) (by simp;omega);have hD:toD (.nd r l)=.tup [.str (wd r),.tup (zkt l)]:=by rw[toD]
  refine zap (Z':=[some (.val (toD (.nd r l))),some (.val (.lst ((zak l).map .int))),o']) rfl ?_ rfl;show zdx (zaO n) [some (.val (toD (.nd r l))),none,none]=_;unfold zdx;rw[zaf (Z1:=[some (.val (toD (.nd r l))),none,none]) (by rw[hD];rfl)];rw[zaf (Z1:=[some (.val (toD (.nd r l))),some (.val (.lst [])),none]) rfl];rw[zaf (Z1:=[some (.val (toD (.nd r l))),some (.val (.lst ((zak l).map .int))),o'])]
  ·rfl
  ·unfold zeU;have:dIt (dOp gIx (zab 0) (dC (.int 1))) [some (.val (toD (.nd r l))),some (.val (.lst [])),none]=.ok (zkt l,[some (.val (toD (.nd r l))),some (.val (.lst [])),none]):=by rw[hD];rfl
   rw[this];simpa using e
noncomputable def zeV{α:Type}:Nat->List α->List (List α)
 |0,_=>[[]]
 |n+1,l=>(List.range l.length).flatMap λk=>match l[k]? with
  |some a=>(zeV n (l.eraseIdx k)).map (a::·)
  |none=>[]
theorem zl5{α:Type}{l:List α}{n k:Nat}(h:l.length=n+1)(hk:k<l.length):(l.eraseIdx k).length=n:=by rw[List.length_eraseIdx,if_pos hk,h];rfl
theorem zrz{α β:Type}(f:α->β):∀(l:List α)(k:Nat),(l.map f).eraseIdx k=(l.eraseIdx k).map f
 |[],_=>rfl
 |a::l,0=>rfl
 |a::l,k+1=>by simp[zrz f l k]
theorem zeF{α:Type}:∀(n:Nat)(l p:List α),l.length=n->(p∈zeV n l ↔ p.Perm l)
 |0,l,p,h=>by have:l=[]:=List.length_eq_zero_iff.mp h;subst this;simp[zeV]
 |n+1,l,p,h=>by
  rw[zeV,List.mem_flatMap];constructor
  ·rintro ⟨k,hk,hp⟩;have hk':=List.mem_range.mp hk;rw[List.getElem?_eq_getElem hk'] at hp;obtain ⟨r,hr,rfl⟩:=List.mem_map.mp hp;have:=(zeF n _ r (zl5 h hk')).mp hr;exact (this.cons _).trans (zep (wac hk'))
  ·intro hp;cases p with
   |nil=>have:=hp.length_eq;simp at this;omega
   |cons a r =>
    obtain ⟨k,hk,e⟩:=List.mem_iff_getElem.mp (hp.mem_iff.mp wau);have e':l[k]? = some a:=by rw[List.getElem?_eq_getElem hk,e]
    refine ⟨k,List.mem_range.mpr hk,?_⟩;rw[e'];refine List.mem_map.mpr ⟨r,(zeF n _ r (zl5 h hk)).mpr ?_,rfl⟩;exact List.Perm.cons_inv (hp.trans (zep e').symm)
theorem zj1{α:Type}:∀(n:Nat)(l:List α),l.length=n->l.Nodup->(zeV n l).Nodup
 |0,l,_,_=>by simp[zeV]
 |n+1,l,h,hn=>by
  rw[zeV];refine List.pairwise_flatMap.mpr ⟨λk hk=>?_,?_⟩
  ·have hk':=List.mem_range.mp hk;rw[List.getElem?_eq_getElem hk'];refine List.pairwise_map.mpr ((zj1 n (l.eraseIdx k) (zl5 h hk') (hn.sublist (List.eraseIdx_sublist _ _))).imp λ{a b} hab e=>hab (List.cons.inj e).2)
  ·refine List.pairwise_iff_getElem.mpr λi j hi hj hij x hx y hy e=>?_;rw[List.length_range] at hi hj;rw[List.getElem_range,List.getElem?_eq_getElem hi] at hx;rw[List.getElem_range,List.getElem?_eq_getElem hj] at hy;obtain ⟨r,_,rfl⟩:=List.mem_map.mp hx;obtain ⟨r',_,rfl⟩:=List.mem_map.mp hy;exact List.pairwise_iff_getElem.mp hn i j hi hj hij (List.cons.inj e).1
theorem zkF{α β:Type}(f:α->β):∀(n:Nat)(l:List α),zeV n (l.map f)=(zeV n l).map (List.map f)
 |0,l=>rfl
 |n+1,l=>by
  rw[zeV,zeV,List.length_map,List.map_flatMap];congr 1;funext k;rw[List.getElem?_map];cases l[k]? with
  |none=>rfl
  |some a =>
   show List.map (f a::·) (zeV n ((l.map f).eraseIdx k))=_;rw[zrz,zkF f n,List.map_map,List.map_map];rfl
noncomputable def fac:Nat->Nat
 |0=>1
 |n+1=>(n+1) * fac n
theorem zeW{α:Type}{f:α->Nat}{c:Nat}:∀{l:List α},(∀ a∈l,f a=c)->(l.map f).sum=l.length * c
 |[],_=>by simp
 |a::l,h=>by rw[List.map_cons,List.sum_cons,zeW (λb hb=>h b (List.mem_cons_of_mem _ hb)),h a List.mem_cons_self,List.length_cons,Nat.succ_mul,Nat.add_comm]
theorem zhf{α:Type}:∀(n:Nat)(l:List α),l.length=n->(zeV n l).length=fac n
 |0,l,_=>rfl
 |n+1,l,h=>by
  rw[zeV,List.length_flatMap,zeW (c:=fac n) λk hk=>?_,List.length_range,h]
  ·rfl
  ·have hk':=List.mem_range.mp hk;rw[List.getElem?_eq_getElem hk'];show (List.map _ (zeV n _)).length=_;rw[List.length_map];exact zhf n _ (zl5 h hk')
noncomputable def zcl:List (List (List Int))->List (List Int)
 |[]=>[[]]
 |c::cs=>c.flatMap λx=>(zcl cs).map (x++·)
theorem ziH:∀{cs:List (List (List Int))}{r:List Int},r∈zcl cs ↔ ∃ ys,Paired (λy c=>y∈c) ys cs/\ys.flatten=r
 |[],r=>by
  simp only[zcl,List.mem_singleton];constructor
  ·rintro rfl;exact ⟨[],.nil,rfl⟩
  ·rintro ⟨ys,h,rfl⟩;cases h;rfl
 |c::cs,r=>by
  simp only[zcl,List.mem_flatMap,List.mem_map];constructor
  ·rintro ⟨x,hx,s,hs,rfl⟩;obtain ⟨ys,h1,rfl⟩:=ziH.mp hs;exact ⟨x::ys,.cons hx h1,rfl⟩
  ·rintro ⟨ys,h,rfl⟩;cases h with
   |cons h t=>exact ⟨_,h,_,ziH.mpr ⟨_,t,rfl⟩,rfl⟩
noncomputable def zcp:List Nat->Nat
 |[]=>1
 |n::l=>n * zcp l
theorem zhY:∀ cs:List (List (List Int)),(zcl cs).length=zcp (cs.map List.length)
 |[]=>rfl
 |c::cs=>by
  rw[zcl,List.length_flatMap,zeW (c:=zcp (cs.map List.length)) λx hx=>?_]
  ·rfl
  ·rw[List.length_map,zhY cs]
theorem zhA{a b:List Nat}(h:a.Perm b):zcp a=zcp b:=by
 induction h with
 |nil=>rfl
 |cons x h ih=>simp[zcp,ih]
 |swap x y l=>simp only[zcp];rw[<- Nat.mul_assoc,<- Nat.mul_assoc,Nat.mul_comm x y]
 |trans h1 h2 i1 i2=>exact i1.trans i2
noncomputable def ziM(rows:List (List Int))(cs:List (List (List Int))):List (List Int):=cs.foldl (λrows c=>rows.flatMap λrow=>c.map (row++·)) rows
theorem zlU:∀(cs:List (List (List Int)))(rows:List (List Int)),ziM rows cs=rows.flatMap λa=>(zcl cs).map (a++·)
 |[],rows=>by
  unfold ziM;simp only[List.foldl_nil,zcl,List.map_cons,List.map_nil,List.append_nil]
  induction rows with
  |nil=>rfl
  |cons a r ih=>rw[List.flatMap_cons,<- ih];rfl
 |c::cs,rows=>by
  have:ziM rows (c::cs)=ziM (rows.flatMap λrow=>c.map (row++·)) cs:=rfl;rw[this,zlU cs,List.flatMap_assoc];congr 1;funext a;rw[zcl,List.flatMap_map,List.map_flatMap];congr 1;funext x;rw[List.map_map];congr 1;funext y;show (a++x)++y=a++(x++y)
  rw[List.append_assoc]
theorem zky(cs:List (List (List Int))):ziM [[]] cs=zcl cs:=by rw[zlU];simp
mutual
noncomputable def zaz:Tr->List (List Int)
 |.lf g=>[[g]]
 |.nd r bs=>(if r=true then [zhe bs,(zhe bs).reverse] else zeV bs.length (zhe bs)).flatMap zcl
noncomputable def zhe:List Tr->List (List (List Int))
 |[]=>[]
 |t::l=>zaz t::zhe l
end
theorem zh6:∀ l:List Tr,zhe l=l.map zaz
 |[]=>by simp[zhe]
 |t::l=>by simp[zhe,zh6 l]
noncomputable def arr(r:Bool)(bs:List Tr):List (List Tr):=if r=true then [bs,bs.reverse] else zeV bs.length bs
theorem zbx{r:Bool}{bs p:List Tr}(h:p∈arr r bs):p.Perm bs:=by
 unfold arr at h;split at h
 ·simp only[wap,wak,or_false] at h;rcases h with rfl|rfl
  ·exact .refl _
  ·exact List.reverse_perm _
 ·exact (zeF _ _ _ rfl).mp h
theorem zgi(r:Bool)(bs:List Tr):zaz (.nd r bs)=(arr r bs).flatMap λp=>zcl (p.map zaz):=by
 rw[zaz,zh6];unfold arr;cases r with
 |true=>simp
 |false =>
  simp only[Bool.false_eq_true,if_false];rw[zkF,List.flatMap_map]
theorem zeb{α β γ:Type}{F:α->γ->Prop}{f:β->γ}:∀{l:List α}{r:List β},Paired F l (r.map f) ↔ Paired (λa b=>F a (f b)) l r
 |l,[]=>⟨λh=>by cases h;exact .nil,λh=>by cases h;exact .nil⟩
 |l,b::r=>⟨λh=>by
   rw[List.map_cons] at h;cases h with
   |cons h t=>exact .cons h (zeb.mp t),λh=>by
   rw[List.map_cons];cases h with
   |cons h t=>exact .cons h (zeb.mpr t)⟩
noncomputable def zks(r:List Int)(p:List Tr):Prop:=∃ ys,Paired (λy t=>y∈zaz t) ys p/\ys.flatten=r
theorem zgf{r:List Int}{p:List Tr}:r∈zcl (p.map zaz) ↔ zks r p:=by rw[ziH];unfold zks;exact ⟨λ⟨ys,h,e⟩=>⟨ys,zeb.mp h,e⟩,λ⟨ys,h,e⟩=>⟨ys,zeb.mpr h,e⟩⟩
theorem zeq{b:Bool}{bs:List Tr}{r:List Int}:r∈zaz (.nd b bs) ↔ ∃ p∈arr b bs,zks r p:=by rw[zgi,List.mem_flatMap];exact ⟨λ⟨p,h,e⟩=>⟨p,h,zgf.mp e⟩,λ⟨p,h,e⟩=>⟨p,h,zgf.mpr e⟩⟩
theorem zdM{p q:List Tr}(h:p.Perm q):(zak p).Perm (zak q):=by rw[zbh,zbh];exact h.flatMap_right _
theorem zf3{P:Tr->Prop}(H:∀ t,P t->∀ r∈zaz t,r.Perm (zac t)):∀{p:List Tr}{ys:List (List Int)},(∀ t∈p,P t)->Paired (λy t=>y∈zaz t) ys p->ys.flatten.Perm (zak p)
 |[],_,_,.nil=>by simp[zak]
 |t::p,_,hP,.cons h r=>by rw[List.flatten_cons,zak];exact (H t (hP t wau) _ h).append (zf3 H (λu hu=>hP u (wah _ hu)) r)
theorem zlY:∀(n:Nat)(t:Tr),dep t<=n->∀ r∈zaz t,r.Perm (zac t)
 |0,t,h,r,_=>by cases t <;> simp[dep] at h
 |n+1,.lf g,h,r,hr=>by rw[zaz,List.mem_singleton] at hr;subst hr;rw[zac]
 |n+1,.nd b bs,h,r,hr=>by obtain ⟨p,hp,ys,h1,rfl⟩:=zeq.mp hr;simp only[dep] at h;have hd:=zdN.mp (by omega:ziY bs<=n);rw[zac];exact (zf3 (P:=λt=>dep t<=n) (λt ht=>zlY n t ht) (λt ht=>hd t ((zbx hp).mem_iff.mp ht)) h1).trans (zdM (zbx hp))
theorem zaE{t:Tr}{r:List Int}(h:r∈zaz t):r.Perm (zac t):=zlY _ t (wal _) r h
theorem zj0{p:List Tr}{r:List Int}(h:zks r p):r.Perm (zak p):=by obtain ⟨ys,h1,rfl⟩:=h;exact zf3 (P:=λ_=>True) (λt _ r hr=>zaE hr) (λ_ _=>trivial) h1
structure zfs(bs:List Tr):Prop where
 nd:(zak bs).Nodup
 ne:∀ t∈bs,zac t≠[]
theorem zaP{g:Int}{bs:List Tr}:g∈zak bs ↔ ∃ t∈bs,g∈zac t:=by rw[zbh,List.mem_flatMap]
theorem zer:∀{bs:List Tr},(zak bs).Nodup->∀{t u:Tr}{g:Int},t∈bs->u∈bs->g∈zac t->g∈zac u->t=u
 |[],_,_,_,_,h,_,_,_=>by cases h
 |b::bs,hn,t,u,g,ht,hu,gt,gu=>by
  rw[zak,List.nodup_append] at hn;obtain ⟨h1,h2,h3⟩:=hn;rcases wap.mp ht with e|ht' <;> rcases wap.mp hu with e'|hu'
  ·rw[e,e']
  ·subst e;exact absurd rfl (h3 g gt g (zaP.mpr ⟨u,hu',gu⟩))
  ·subst e';exact absurd rfl (h3 g gu g (zaP.mpr ⟨t,ht',gt⟩))
  ·exact zer h2 ht' hu' gt gu
theorem zjW{bs:List Tr}(A:zfs bs):∀{p q:List Tr}{ys zs:List (List Int)},(∀ t∈p,t∈bs)->(∀ t∈q,t∈bs)->Paired (λy t=>y∈zaz t) ys p->Paired (λy t=>y∈zaz t) zs q->ys.flatten=zs.flatten->p=q/\ys=zs
 |[],q,_,zs,_,hq,.nil,h2,e=>by
  cases h2 with
  |nil=>exact ⟨rfl,rfl⟩
  |@cons z t zs q h r =>
   exfalso;have:=zaE h;rw[List.flatten_nil,List.flatten_cons] at e;have hz:z=[]:=(List.append_eq_nil_iff.mp e.symm).1;subst hz;exact A.ne t (hq t wau) (this.symm.eq_nil)
 |t::p,q,_,zs,hp,hq,.cons (a:=y) (l₁:=ys) h r,h2,e=>by
  have hy:=zaE h;have hyn:y≠[]:=λz=>A.ne t (hp t wau) (by subst z;exact hy.symm.eq_nil);cases h2 with
  |nil =>
   exfalso;rw[List.flatten_nil,List.flatten_cons] at e;exact hyn (List.append_eq_nil_iff.mp e).1
  |@cons z u zs q h' r' =>
   have hz:=zaE h';have hzn:z≠[]:=λw=>A.ne u (hq u wau) (by subst w;exact hz.symm.eq_nil);rw[List.flatten_cons,List.flatten_cons] at e;obtain ⟨g,y',rfl⟩:=waI hyn;obtain ⟨g',z',rfl⟩:=waI hzn;have eg:g=g':=by simp only[List.cons_append] at e;exact (List.cons.inj e).1
   subst eg;have tu:t=u:=zer A.nd (hp t wau) (hq u wau) (hy.mem_iff.mp wau) (hz.mem_iff.mp wau);subst tu;have el:(g::y').length=(g::z').length:=hy.length_eq.trans hz.length_eq.symm;obtain ⟨e1,e2⟩:=List.append_inj e el;obtain ⟨e3,e4⟩:=zjW A (λu hu=>hp u (wah _ hu)) (λu hu=>hq u (wah _ hu)) r r' e2;exact ⟨by rw[e3],by rw[e1,e4]⟩
theorem zl9{bs:List Tr}(A:zfs bs){p q:List Tr}{r:List Int}(hp:∀ t∈p,t∈bs)(hq:∀ t∈q,t∈bs)(h1:zks r p)(h2:zks r q):p=q:=by obtain ⟨ys,a1,rfl⟩:=h1;obtain ⟨zs,b1,e⟩:=h2;exact (zjW A hp hq a1 b1 e.symm).1
theorem zc9:∀{bs:List Tr},zfs bs->bs.Nodup
 |[],_=>.nil
 |b::bs,A=>by
  have hn:=A.nd;rw[zak,List.nodup_append] at hn;refine List.nodup_cons.mpr ⟨λhb=>?_,zc9 ⟨hn.2.1,λt ht=>A.ne t (wah _ ht)⟩⟩;obtain ⟨g,y,e⟩:=waI (A.ne b wau);have hg:g∈zac b:=by rw[e];exact wau
  exact absurd rfl (hn.2.2 g hg g (zaP.mpr ⟨b,hb,hg⟩))
theorem zhH{bs:List Tr}(A:zfs bs):∀{p:List Tr},(∀ t∈p,t∈bs)->(∀ t∈p,(zaz t).Nodup)->(zcl (p.map zaz)).Nodup
 |[],_,_=>by simp[zcl]
 |t::p,hp,hn=>by
  rw[List.map_cons,zcl];refine List.pairwise_flatMap.mpr ⟨λx hx=>?_,?_⟩
  ·exact List.pairwise_map.mpr ((zhH A (λu hu=>hp u (wah _ hu)) λu hu=>hn u (wah _ hu)).imp λ{a b} hab e=>hab (List.append_cancel_left e))
  ·refine (List.Pairwise.imp_of_mem ?_ (hn t wau));intro x y hx hy hxy u hu v hv e;obtain ⟨a,_,rfl⟩:=List.mem_map.mp hu;obtain ⟨b,_,rfl⟩:=List.mem_map.mp hv;exact hxy (List.append_inj e ((zaE hx).length_eq.trans (zaE hy).length_eq.symm)).1
theorem zcL{n:Nat}{b:Bool}{bs:List Tr}(hd:dep (.nd b bs)<=n+1)(ho:okT (.nd b bs)=true)(hn:(zac (.nd b bs)).Nodup):zfs bs/\∀ t∈bs,dep t<=n/\okT t=true/\(zac t).Nodup:=by simp only[dep] at hd;rw[zac] at hn;rw[okT,Bool.and_eq_true,zl7,List.all_eq_true] at ho;have h:=zdN.mp (by omega:ziY bs<=n);refine ⟨⟨hn,λt ht=>zfi n t (h t ht) (ho.2 t ht)⟩,λt ht=>⟨h t ht,ho.2 t ht,?_⟩⟩;rw[zbh] at hn;exact (List.pairwise_flatMap.mp hn).1 t ht
theorem zny{b:Bool}{bs:List Tr}(h:(if b then 3 else 2)<=bs.length)(hn:bs.Nodup):(arr b bs).Nodup:=by
 unfold arr;split
 ·rename_i hb;subst hb;simp only[if_true] at h;simp only[List.nodup_cons,List.mem_singleton,wak,not_false_iff,List.nodup_nil,and_true];intro e
  match bs,h,hn,e with
  |a::b::r,h,hn,e =>
   have h1:(a::b::r)[0]? = (a::b::r).reverse[0]? := by rw[<- e]
   rw[List.getElem?_reverse xws] at h1;simp only[List.getElem?_cons_zero,wan] at h1;have h2:=List.mem_iff_getElem?.mpr ⟨r.length,by
    have:(a::b::r)[r.length+1+1-1-0]? = (b::r)[r.length]? := by show (a::b::r)[r.length+1]? = _;rw[List.getElem?_cons_succ]
    rw[<- this,<- h1]⟩
   exact (List.nodup_cons.mp hn).1 h2
 ·exact zj1 _ _ rfl hn
theorem zet:∀(n:Nat)(t:Tr),dep t<=n->okT t=true->(zac t).Nodup->(zaz t).Nodup
 |0,t,h,_,_=>by cases t <;> simp[dep] at h
 |n+1,.lf g,_,_,_=>by rw[zaz];simp
 |n+1,.nd b bs,hd,ho,hn=>by
  obtain ⟨A,H⟩:=zcL hd ho hn;rw[okT,Bool.and_eq_true,decide_eq_true_eq] at ho;rw[zgi];refine List.pairwise_flatMap.mpr ⟨λp hp=>?_,?_⟩
  ·exact zhH A (λt ht=>(zbx hp).mem_iff.mp ht) λt ht=>by obtain ⟨h1,h2,h3⟩:=H t ((zbx hp).mem_iff.mp ht);exact zet n t h1 h2 h3
  ·refine List.Pairwise.imp_of_mem ?_ (zny ho.1 (zc9 A));intro p q hp hq hpq x hx y hy e;subst e;exact hpq (zl9 A (λt ht=>(zbx hp).mem_iff.mp ht) (λt ht=>(zbx hq).mem_iff.mp ht) (zgf.mp hx) (zgf.mp hy))
noncomputable def zbw(n:Nat):Nat->List (List Int)
 |0=>[[]]
 |j+1=>(zbw n j).flatMap λrow=>((zaC n).filter λg=>!decide (g∈row)).map λg=>row++[g]
theorem zcZ{n:Nat}:∀{j:Nat}{r:List Int},r∈zbw n j ↔ r.length=j/\r.Nodup/\∀ x∈r,x∈zaC n
 |0,r=>by
  simp only[zbw,List.mem_singleton];constructor
  ·rintro rfl;simp
  ·rintro ⟨h,_⟩;exact List.length_eq_zero_iff.mp h
 |j+1,r=>by
  simp only[zbw,List.mem_flatMap,List.mem_map,List.mem_filter,Bool.not_eq_true',decide_eq_false_iff_not];constructor
  ·rintro ⟨row,hr,g,⟨hg,hn⟩,rfl⟩;obtain ⟨h1,h2,h3⟩:=zcZ.mp hr;refine ⟨by simp[h1],?_,λx hx=>?_⟩
   ·rw[List.nodup_append];refine ⟨h2,xws,λa ha b hb e=>?_⟩;rw[List.mem_singleton] at hb;subst hb;subst e;exact hn ha
   ·rcases wax.mp hx with hx|hx
    ·exact h3 x hx
    ·rw[List.mem_singleton] at hx;subst hx;exact hg
  ·rintro ⟨h1,h2,h3⟩;have hne:r≠[]:=λz=>by subst z;simp at h1
   have e:=List.dropLast_concat_getLast hne;rw[<- e] at h2 h3;rw[List.nodup_append] at h2;refine ⟨r.dropLast,zcZ.mpr ⟨by simp[h1],h2.1,λx hx=>h3 x (waR _ hx)⟩,r.getLast hne,⟨h3 _ (waz _ xws),λhx=>h2.2.2 _ hx _ xws rfl⟩,e⟩
theorem zpm{x y:List Int}:∀ a:List Int,Ts.lxB (a++x) (a++y)=Ts.lxB x y
 |[]=>rfl
 |b::a=>by simp[Ts.lxB,zpm a]
theorem zl0{x y:List Int}:∀{a b:List Int},a.length=b.length->Ts.lxB a b=true->Ts.lxB (a++x) (b++y)=true
 |[],[],_,h=>by simp[Ts.lxB] at h
 |[],_::_,h,_=>by simp at h
 |_::_,[],h,_=>by simp at h
 |c::a,d::b,h,k=>by
  simp only[List.cons_append,Ts.lxB] at k ⊢;split at k
  ·rename_i e;rw[if_pos e];exact zl0 (by simpa using h) k
  ·rename_i e;rw[if_neg e];exact k
theorem zoc(n:Nat):(zaC n).Pairwise (· < ·):=by unfold zaC;exact List.pairwise_map.mpr (List.pairwise_lt_range.imp λh=>by omega)
theorem zgN(n:Nat):∀ j,(zbw n j).Pairwise (λa b=>Ts.lxB a b=true)
 |0=>by simp[zbw]
 |j+1=>by
  rw[zbw];refine List.pairwise_flatMap.mpr ⟨λrow _=>?_,?_⟩
  ·refine List.pairwise_map.mpr (((zoc n).filter _).imp λ{a b} hab=>?_);rw[zpm];simp only[Ts.lxB];rw[if_neg xwo];simpa using hab
  ·refine List.Pairwise.imp_of_mem ?_ (zgN n j);intro a b ha hb hab x hx y hy;obtain ⟨g,_,rfl⟩:=List.mem_map.mp hx;obtain ⟨h,_,rfl⟩:=List.mem_map.mp hy;exact zl0 ((zcZ.mp ha).1.trans (zcZ.mp hb).1.symm) hab
theorem zvF{a b:List Int}(h:Ts.lxB a b=true):leL a b=true:=by
 unfold leL;rw[Bool.not_eq_true'];cases e:Ts.lxB b a with
 |false=>rfl
 |true=>exact absurd (Ts.lxB_tr h e) (by rw[Ts.lxB_irr];simp)
theorem zvZ{a b:List Int}(h:Ts.lxB a b=true):a≠b:=λe=>by subst e;rw[Ts.lxB_irr] at h;cases h
theorem zkv(n j:Nat):(zbw n j).Nodup:=(zgN n j).imp λh=>zvZ h
theorem zhg{α:Type} [BEq α] [LawfulBEq α] {a b:List α} (ha:a.Nodup) (hb:b.Nodup) (h:∀ x,x∈a ↔ x∈b):a.Perm b:=by
 rw[List.perm_iff_count];intro x;by_cases hx:x∈a
 ·rw[ha.count,hb.count,if_pos hx,if_pos ((h x).mp hx)]
 ·rw[ha.count,hb.count,if_neg hx,if_neg λz=>hx ((h x).mpr z)]
theorem zgq{n:Nat}{r:List Int}:r∈zbw n n ↔ r.Perm (zaC n):=by
 rw[zcZ];constructor
 ·rintro ⟨h1,h2,h3⟩;exact zem r (zaC n) h2 h3 (by rw[zbd];omega)
 ·intro h;exact ⟨by rw[h.length_eq,zbd],h.symm.nodup (zbE n),λx hx=>h.mem_iff.mp hx⟩
theorem zkV{n:Nat}{t:Tr}(ho:okT t=true)(hp:(zac t).Perm (zaC n)):zhu (zaz t)=(zbw n n).filter λr=>decide (r∈zaz t):=by have hn:(zaz t).Nodup:=zet _ t (wal _) ho (hp.symm.nodup (zbE n));refine zix ((zc1 _).trans (zhg hn ((zkv n n).filter _) λr=>?_)) (zgr _) (((zgN n n).filter _).imp λh=>zvF h);rw[List.mem_filter,decide_eq_true_eq,zgq];exact ⟨λh=>⟨(zaE h).trans hp,h⟩,λh=>h.2⟩
theorem zje{α:Type} [BEq α] [LawfulBEq α]:∀{a b:List α},a.Nodup->(∀ x∈a,x∈b)->a.length<=b.length
 |[],_,_,_=>Nat.zero_le _
 |x::a,b,hn,h=>by
  have hx:=h x wau;have:=zje (a:=a) (b:=b.erase x) (List.nodup_cons.mp hn).2 λy hy=>by have hne:y≠x:=λe=>(List.nodup_cons.mp hn).1 (by rw[<- e];exact hy);exact (List.mem_erase_of_ne hne).mpr (h y (wah _ hy))
  have e:=List.length_erase_of_mem hx;have:0<b.length:=List.length_pos_of_mem hx;rw[List.length_cons];omega
theorem zlk{t:Tr}(ho:okT t=true)(hn:(zac t).Nodup):(zaz t).length<=fac (zac t).length:=by rw[<- zhf _ (zac t) rfl];exact zje (zet _ t (wal _) ho hn) λr hr=>(zeF _ _ _ rfl).mpr (zaE hr)
theorem zlg:∀ n,1<=fac n
 |0=>wal _
 |n+1=>by have:=zlg n;rw[fac];exact waN this (Nat.le_mul_of_pos_left _ (Nat.succ_pos n))
theorem zlf(b:Nat):∀ a,fac a * fac b<=fac (a+b)
 |0=>by simp[fac]
 |a+1=>by rw[show a+1+b=(a+b)+1 by omega,fac,fac,Nat.mul_assoc];exact waN (Nat.mul_le_mul_left _ (zlf b a)) (Nat.mul_le_mul_right _ xwo)
theorem zpW{a b:Nat}(h:a<=b):fac a<=fac b:=by obtain ⟨c,rfl⟩:=Nat.le.dest h;exact waN (Nat.le_mul_of_pos_right _ (zlg c)) (zlf c a)
theorem zuz{m:Nat}(h:m<=6):fac m<=720:=zpW (b:=6) h
theorem zmc:∀{p:List Tr},(∀ t∈p,(zaz t).length<=fac (zac t).length)->zcp (p.map λt=>(zaz t).length)<=fac (zak p).length
 |[],_=>by simp[zcp,zak,fac]
 |t::p,h=>by rw[List.map_cons,zcp,zak,List.length_append];exact waN (Nat.mul_le_mul (h t wau) (zmc λu hu=>h u (wah _ hu))) (zlf _ _)
theorem zkl{α:Type}{g:DG}{body:DS}{u:α->Dt}{l:List α}{I:List α->Ev->Prop}(H:∀ dn a zbq,l=dn++a::zbq->∀ Z,I dn Z->∃ Z1 Z2,g (u a) Z=.ok Z1/\body Z1=.ok (.nx,Z2)/\I (dn++[a]) Z2) :
  ∀(todo dn:List α)(Z:Ev),l=dn++todo->I dn Z->∃ Z',I l Z'/\zmS g body (todo.map u) Z=.ok (.nx,Z')
 |[],dn,Z,e,h=>by rw[List.append_nil] at e;subst e;exact ⟨Z,h,rfl⟩
 |a::todo,dn,Z,e,h=>by obtain ⟨Z1,Z2,h1,h2,h3⟩:=H dn a todo e Z h;obtain ⟨Z',h4,h5⟩:=zkl H todo (dn++[a]) Z2 (by rw[e];simp) h3;refine ⟨Z',h4,?_⟩;rw[List.map_cons,zmS,h1];simp only[R.bind_ok,h2];exact h5
theorem zbf{α:Type}{fi:DA}{g:DG}{body:DS}{u:α->Dt}{l:List α}{ds:List Dt}{I:List α->Ev->Prop}{Z Z0:Ev}(hi:fi Z=.ok (ds,Z0))(hd:ds=l.map u)(h0:I [] Z0)(H:∀ dn a zbq,l=dn++a::zbq->∀ Z,I dn Z->∃ Z1 Z2,g (u a) Z=.ok Z1/\body Z1=.ok (.nx,Z2)/\I (dn++[a]) Z2) :
  ∃ Z',I l Z'/\zeU fi g body Z=.ok (.nx,Z'):=by
 subst hd;obtain ⟨Z',h1,h2⟩:=zkl H l [] Z0 rfl h0;refine ⟨Z',h1,?_⟩;unfold zeU;rw[hi];exact h2
theorem zfJ{i:Nat}{fa:De}{Z Z1:Ev}{l0 ds l:List Dt}{d:Dt}(h0:Z[i]? = some (some (.own l0)))(h:fa Z=.ok (d,Z1))(h1:Z1[i]? = some (some (.own ds)))(hd:zrk d=some l)(hl:ds.length+l.length<=16777216):zeP i fa Z=.ok (.non,Z1.set i (some (.own (ds++l)))):=by unfold zeP;simp only[h0,h,R.bind_ok,h1,hd,hl,if_true]
theorem zrH{i:Nat}{fa:De}{Z Z1:Ev}{l0 ds:List Dt}{d:Dt}(h0:Z[i]? = some (some (.own l0)))(h:fa Z=.ok (d,Z1))(h1:Z1[i]? = some (some (.own ds)))(hl:ds.length<16777216):zev i fa Z=.ok (.non,Z1.set i (some (.own (ds++[d])))):=by unfold zev;simp only[h0,h,R.bind_ok,h1,hl,if_true]
theorem zrA{fa fb:De}{Z Z1 Z2:Ev}{x y:List Dt}(h:fa Z=.ok (.lst x,Z1))(h2:fb Z1=.ok (.lst y,Z2))(hl:x.length+y.length<=16777216):zgM fa fb Z=.ok (x++y,Z2):=by unfold zgM;simp only[h,h2,R.bind_ok,hl,if_true]
theorem zph{x y:List Dt}(hl:x.length+y.length<=16777216):zfB (.tup x) (.tup y)=.ok (.tup (x++y)):=by unfold zfB;simp only[hl,if_true]
theorem zpb{fa:De}{fl fh:DO}{Z Z1 Z2 Z3:Ev}{x:List Dt}{lo hi:Option Int}(h:fa Z=.ok (.lst x,Z1))(h1:fl Z1=.ok (lo,Z2))(h2:fh Z2=.ok (hi,Z3)):zmL fa fl fh Z=.ok (zhj x lo hi,Z3):=by unfold zmL;simp only[h,h1,h2,R.bind_ok]
theorem zkM{fa:De}{fl fh:DO}{Z Z1 Z2 Z3:Ev}{x:List Dt}{lo hi:Option Int}(h:fa Z=.ok (.tup x,Z1))(h1:fl Z1=.ok (lo,Z2))(h2:fh Z2=.ok (hi,Z3)):zf6 fa fl fh Z=.ok (.tup (zhj x lo hi),Z3):=by unfold zf6;simp only[h,h1,h2,R.bind_ok]
theorem zs1{fa:De}{Z Z1:Ev}{i:Int}(h:fa Z=.ok (.int i,Z1)):dO1 fa Z=.ok (some i,Z1):=by unfold dO1;simp only[h,R.bind_ok]
noncomputable abbrev zsR(F:FD):De:=zaj F (dR (dFz (zgM (dFz (zmL (zab 0) dO0 (dO1 (zab 2)))) (dFz (zmL (zab 0) (dO1 (dOp zdK (zab 2) (dC (.int 1)))) dO0)))) dR0)
noncomputable abbrev oApp:DS:=dEx (zev 1 (dFz (zgM (dFz (zbQ (dA (dOp gIx (zab 0) (zab 2)) dA0))) (zab 3))))
noncomputable abbrev oIn(F:FD):DS:=zeU (dIt (zsR F)) (zaU 3) oApp
theorem znm(F:FD):zc8 F=zaw (dIf (dTB (dOp (gEq false) (dFn zcG (dA (zab 0) dA0)) (dC (.int 0)))) (zaV (dC (.lst [(.lst [])]))) dNx) (zaw (zb6 1 (zbQ dA0)) (zaw (zeU (zbH (dFn zcG (dA (zab 0) dA0))) (zaU 2) (oIn F)) (zaV (zd8 1)))):=rfl
noncomputable def znV(l:List Dt)(k:Nat):List Dt:=match l[k]? with
 |some a=>((zeV (l.length-1) (l.eraseIdx k)).map (a::·)).map .lst
 |none=>[]
theorem zse{α:Type}(l:List α)(k:Nat):l.take k++l.drop (k+1)=l.eraseIdx k:=(List.eraseIdx_eq_take_drop_succ l k).symm
theorem zpH{F:FD}{l acc:List Dt}{k:Nat}{o3:Option B}(hk:k<l.length)(hl:l.length<=6)(ha:acc.length<=10000)
  (hF:F [.val (.lst (l.eraseIdx k))]=.ok (.lst ((zeV (l.length-1) (l.eraseIdx k)).map .lst),[.val .non])) :
  ∃ o',oIn F [some (.val (.lst l)),some (.own acc),some (.val (.int (k:Nat))),o3]=.ok (.nx,[some (.val (.lst l)),some (.own (acc++znV l k)),some (.val (.int (k:Nat))),o']):=by
 have el:(l.eraseIdx k).length=l.length-1:=by rw[List.length_eraseIdx,if_pos hk]
 have e72:(zeV (l.length-1) (l.eraseIdx k)).length<=720:=by rw[zhf _ _ el];exact zuz xwo
 let Z0:Ev:=[some (.val (.lst l)),some (.own acc),some (.val (.int (k:Nat))),o3]
 have hc:dIt (zsR F) Z0=.ok ((zeV (l.length-1) (l.eraseIdx k)).map .lst,Z0):=by
  unfold dIt;have:zsR F Z0=.ok (.lst ((zeV (l.length-1) (l.eraseIdx k)).map .lst),Z0):=by
   refine zde (l:=[.val .non]) (Z':=Z0) (zaQ (zrA (Z1:=Z0) (zaQ (zpb (Z1:=Z0) (Z2:=Z0) (lo:=none) (hi:=some (k:Int)) rfl rfl rfl)) (zaQ (zpb (Z1:=Z0) (Z2:=Z0) (lo:=some ((k:Int)+1)) (hi:=none) rfl rfl rfl)) ?_)) ?_
   ·rw[zoR hk,zlV hk];simp;omega
   ·rw[zoR hk,zlV hk,zse];exact hF
  rw[this];rfl
 obtain ⟨Z',⟨o',rfl⟩,e⟩:=zbf (u:=Dt.lst) (g:=zaU 3) (body:=oApp) (I:=λdn Z=>∃ o',Z=[some (.val (.lst l)),some (.own (acc++dn.map λr=>.lst (l[k]::r))),some (.val (.int (k:Nat))),o']) hc rfl ⟨o3,by simp[Z0]⟩
  (λdn r zbq e Z ⟨o',hρ⟩=>by
   subst hρ;have hr:r∈zeV (l.length-1) (l.eraseIdx k):=by rw[e];simp
   have hrl:r.length<=6:=by rw[((zeF _ _ _ el).mp hr).length_eq,el];omega
   have hdn:dn.length<=720:=by rw[e,List.length_append] at e72;omega
   let Z1:Ev:=[some (.val (.lst l)),some (.own (acc++dn.map λr=>.lst (l[k]::r))),some (.val (.int (k:Nat))),some (.val (.lst r))]
   refine ⟨Z1,_,rfl,zfa (zrH (Z1:=Z1) (l0:=acc++dn.map λr=>.lst (l[k]::r)) (ds:=acc++dn.map λr=>.lst (l[k]::r)) (d:=.lst ([l[k]]++r)) rfl ?_ rfl ?_),some (.val (.lst r)),?_⟩
   ·refine zaQ (zrA (Z1:=Z1) (zaQ (zou (zpT (Z1:=Z1) (zav (Z1:=Z1) rfl rfl (zlc (v:=(k:Nat)) xwo xwo (by simp[hk]))) rfl) xws)) rfl ?_);simp;omega
   ·simp only[wav,wag];omega
   ·simp[Z1])
 refine ⟨o',e.trans ?_⟩;unfold znV;rw[List.getElem?_eq_getElem hk];simp[List.map_map]
theorem zsP(l:List Dt)(h:0<l.length):(zeV l.length l).map .lst=(List.range l.length).flatMap (znV l):=by
 obtain ⟨m,hm⟩ : ∃ m,l.length=m+1:=⟨l.length-1,xwo⟩
 rw[hm,zeV,List.map_flatMap,hm];congr 1;funext k;unfold znV;rw[hm];cases l[k]? <;> rfl
theorem zq0{l:List Dt}{k:Nat}(hl:l.length<=6)(hk:k<l.length):(znV l k).length<=720:=by unfold znV;rw[List.getElem?_eq_getElem hk];simp only[wag];rw[zhf _ _ (by rw[List.length_eraseIdx,if_pos hk])];exact zuz xwo
theorem zlz{α β:Type}{f:α->List β}{c:Nat}:∀{l:List α},(∀ a∈l,(f a).length<=c)->(l.flatMap f).length<=l.length * c
 |[],_=>by simp
 |a::l,h=>by rw[List.flatMap_cons,List.length_append,List.length_cons,Nat.succ_mul];have:=zlz (l:=l) λb hb=>h b (wah _ hb);have:=h a wau;omega
theorem zrl{m:Nat}(h:m<=1000):zgR (m:Int)=true:=by unfold zgR;rw[Bool.and_eq_true,decide_eq_true_eq,decide_eq_true_eq];omega
noncomputable def zvD(j:Int)(Z:Ev):R (List Dt×Ev):=if zgR j=true then .ok (zbG 0 j.toNat,Z) else .no
theorem zo9{j:Int}{Z:Ev}(h:zgR j=true):zvD j Z=.ok (zbG 0 j.toNat,Z):=if_pos h
theorem zrj{fa:De}{Z Z1:Ev}{j:Int}(h:fa Z=.ok (.int j,Z1)):zbH fa Z=zvD j Z1:=by unfold zbH zvD;rw[h];rfl
theorem zjs{fa:De}{Z Z1:Ev}{m:Nat}(h:fa Z=.ok (.int (m:Nat),Z1))(hm:m<=1000):zbH fa Z=.ok ((List.range m).map λk:Nat=>Dt.int k,Z1):=by rw[zrj h,zo9 (zrl hm),Int.toNat_natCast];unfold zbG;simp only[Int.zero_add]
theorem zkE{F:FD}{n:Nat}(IH:∀ l:List Dt,l.length<n->l.length<=6->F [.val (.lst l)]=.ok (.lst ((zeV l.length l).map .lst),[.val .non]))(l:List Dt)(h:l.length<n+1)(hl:l.length<=6):zax false [false] 3 (zc8 F) [.val (.lst l)]=.ok (.lst ((zeV l.length l).map .lst),[.val .non]):=by
  by_cases h0:l.length=0
  ·have:l=[]:=List.length_eq_zero_iff.mp h0;subst this;refine zap (d:=.lst [.lst []]) (Z':=[some (.val (.lst [])),none,none,none]) rfl ?_ rfl;show zc8 F [some (.val (.lst [])),none,none,none]=_;rw[znm,zcv (Z1:=[some (.val (.lst [])),none,none,none]) (d:=.lst [.lst []])];rw[zdG (Z1:=[some (.val (.lst [])),none,none,none]) (zaG (zav (d:=.int 0) (e:=.int 0) (Z1:=[some (.val (.lst [])),none,none,none]) rfl rfl zwh))];rfl
  ·let Z0:Ev:=[some (.val (.lst l)),none,none,none]
   let Z1:Ev:=[some (.val (.lst l)),some (.own []),none,none]
   have hlen:∀(a b c:Option B),dFn zcG (dA (zab 0) dA0) [some (.val (.lst l)),a,b,c]=.ok (.int l.length,[some (.val (.lst l)),a,b,c]):=λa b c=>rfl;have x1:dIf (dTB (dOp (gEq false) (dFn zcG (dA (zab 0) dA0)) (dC (.int 0)))) (zaV (dC (.lst [(.lst [])]))) dNx Z0=.ok (.nx,Z0):=by
    rw[zbU (zaG (Z1:=Z0) (b:=false) (zav (Z1:=Z0) (hlen _ _ _) rfl ?_))]
    ·rfl
    ·rw[zwh];simp only[Bool.false_eq_true,if_false];congr 2;exact beq_false_of_ne xwo
   have hr:zbH (dFn zcG (dA (zab 0) dA0)) Z1=.ok ((List.range l.length).map λk:Nat=>Dt.int k,Z1):=by exact zjs (hlen _ _ _) xwo
   obtain ⟨Z',⟨o2,o3,rfl⟩,e⟩:=zbf (u:=λk:Nat=>Dt.int k) (g:=zaU 2) (body:=oIn F) (I:=λdn Z=>∃ o2 o3,Z=[some (.val (.lst l)),some (.own (dn.flatMap (znV l))),o2,o3]) hr rfl ⟨none,none,rfl⟩
    (λdn k zbq e Z ⟨o2,o3,hρ⟩=>by
     subst hρ;have hk:k<l.length:=List.mem_range.mp (by rw[e];simp);have hin:∀ a∈dn,a<l.length:=λa ha=>List.mem_range.mp (by rw[e];exact waR _ ha);have hdl:dn.length<=6:=by have:=congrArg List.length e;simp at this;omega
     have ha:(dn.flatMap (znV l)).length<=10000:=by have:=zlz (f:=znV l) (c:=720) (l:=dn) λa ha=>zq0 hl (hin a ha);have:=Nat.mul_le_mul_right 720 hdl;omega
     obtain ⟨o',e'⟩:=zpH (F:=F) (acc:=dn.flatMap (znV l)) (o3:=o3) hk hl ha (by
      have el:(l.eraseIdx k).length=l.length-1:=by rw[List.length_eraseIdx,if_pos hk]
      have:=IH (l.eraseIdx k) (by rw[el];omega) (by rw[el];omega);rw[el] at this;exact this)
     refine ⟨[some (.val (.lst l)),some (.own (dn.flatMap (znV l))),some (.val (.int (k:Nat))),o3],_,rfl,e',some (.val (.int (k:Nat))),o',?_⟩;rw[List.flatMap_append,List.flatMap_singleton])
   refine zap (Z':=[some (.val (.lst l)),some (.val (.lst ((zeV l.length l).map .lst))),o2,o3]) rfl ?_ rfl;show zc8 F Z0=_;rw[znm,zaf x1,zaf (Z1:=Z1) rfl,zaf e,<- zsP l xwo];rfl
theorem zgU:∀(n:Nat)(l:List Dt),l.length<n->l.length<=6->zc5 n [.val (.lst l)]=.ok (.lst ((zeV l.length l).map .lst),[.val .non])
 |0,l,h,_=>by omega
 |n+1,l,h,hl=>zkE (zgU n) l h hl
theorem zon(a b:List (List Int)):lp (a++b)=lp a++lp b:=by unfold lp;rw[List.map_append]
theorem ze3(a:List (List Int)):(lp a).length=a.length:=by unfold lp;rw[List.length_map]
theorem zrf(a b:List Int):Dt.tup (a.map .int++b.map .int)=tz (a++b):=by unfold tz;rw[List.map_append]
noncomputable abbrev zuf:De:=dFz (zaY (dIt (zab 2)) (zaU 5) dTT (dOp zfB (zab 4) (zab 5)) 1)
noncomputable abbrev sIn:DS:=zeU (dIt (zab 1)) (zaU 4) (dEx (zeP 3 zuf))
noncomputable abbrev zv5:DS:=zaw (zb6 3 (zbQ dA0)) (zaw sIn (zbc 1 (zd8 3)))
theorem zna:ziF=zaw (zbc 1 (dC (.lst [(.tup [])]))) (zaw (zeU (dIt (zab 0)) (zaU 2) zv5) (zaV (zab 1))):=rfl
noncomputable def stp(c:List (List Int))(row:List Int):List (List Int):=c.map (row++·)
theorem ztx(c:List (List Int))(row:List Int):(stp c row).length=c.length:=by unfold stp;rw[List.length_map]
theorem zq6{ch o4:Option B}{R c:List (List Int)}(hc:c.length<=1000)(hR:R.length * c.length<=10000)(hl:∀ r∈R,∀ y∈c,r.length+y.length<=1000) :
  ∃ o',sIn [ch,some (.val (.lst (lp R))),some (.val (.lst (lp c))),some (.own []),o4]=.ok (.nx,[ch,some (.val (.lst (lp R))),some (.val (.lst (lp c))),some (.own (lp (R.flatMap (stp c)))),o']):=by
 let Z0:Ev:=[ch,some (.val (.lst (lp R))),some (.val (.lst (lp c))),some (.own []),o4]
 obtain ⟨Z',⟨o',rfl⟩,e⟩:=zbf (u:=tz) (l:=R) (g:=zaU 4) (body:=dEx (zeP 3 zuf)) (Z:=Z0) (Z0:=Z0) (ds:=lp R) (I:=λdn Z=>∃ o',Z=[ch,some (.val (.lst (lp R))),some (.val (.lst (lp c))),some (.own (lp (dn.flatMap (stp c)))),o']) (fi:=dIt (zab 1)) rfl rfl ⟨o4,rfl⟩
  (λdn row zbq e Z ⟨o',hρ⟩=>by
   subst hρ;have hrow:row∈R:=by rw[e];simp
   let Z1:Ev:=[ch,some (.val (.lst (lp R))),some (.val (.lst (lp c))),some (.own (lp (dn.flatMap (stp c)))),some (.val (tz row))]
   have hcomp:zaY (dIt (zab 2)) (zaU 5) dTT (dOp zfB (zab 4) (zab 5)) 1 Z1=.ok (c.map λp=>tz (row++p),Z1):=by refine zc0 (u:=tz) (f:=λp=>tz (row++p)) (fe:=dOp zfB (zab 4) (zab 5)) (l:=c) (ds:=lp c) rfl rfl hc (λp hp=>?_) rfl;have a1:zab 4 (Z1++[some (.val (tz p))])=.ok (tz row,Z1++[some (.val (tz p))]):=rfl;have a2:zab 5 (Z1++[some (.val (tz p))])=.ok (tz p,Z1++[some (.val (tz p))]):=rfl;refine zav a1 a2 ?_;have:=hl row hrow p hp;rw[<- zrf];exact zph (by simp only[wag];omega)
   have hdn:(dn.flatMap (stp c)).length+c.length<=10000:=by
    have h1:(dn.flatMap (stp c)).length<=dn.length * c.length:=zlz λa _=>Nat.le_of_eq (ztx c a);have h2:dn.length+1<=R.length:=by rw[e];simp
    have h3:=Nat.mul_le_mul_right c.length h2;rw[Nat.succ_mul] at h3;omega
   refine ⟨Z1,_,rfl,zfa (zfJ (Z1:=Z1) rfl (zaQ hcomp) rfl rfl ?_),some (.val (tz row)),?_⟩
   ·rw[ze3,List.length_map];omega
   ·show [ch,_,_,some (.own (lp (dn.flatMap (stp c))++c.map λp=>tz (row++p))),_]=_;rw[List.flatMap_append,zon,List.flatMap_singleton];have:lp (stp c row)=c.map λp=>tz (row++p):=by unfold lp stp;rw[List.map_map];rfl
    rw[this])
 exact ⟨o',e⟩
theorem zq7(dn:List (List (List Int)))(c:List (List Int)):ziM [[]] (dn++[c])=(ziM [[]] dn).flatMap (stp c):=by unfold ziM;rw[List.foldl_append];rfl
theorem zjS{m:Nat}:∀{cs:List (List (List Int))},(∀ c∈cs,∀ y∈c,y.length<=m)->∀ r∈zcl cs,r.length<=cs.length * m
 |[],_,r,hr=>by simp[zcl] at hr;subst hr;simp
 |c::cs,h,r,hr=>by simp only[zcl,List.mem_flatMap,List.mem_map] at hr;obtain ⟨x,hx,y,hy,rfl⟩:=hr;have:=zjS (λc hc=>h c (wah _ hc)) y hy;have:=h c wau x hx;rw[List.length_append,List.length_cons,Nat.succ_mul];omega
theorem zgA:∀ a b:List Nat,zcp (a++b)=zcp a * zcp b
 |[],b=>by simp[zcp]
 |x::a,b=>by rw[List.cons_append,zcp,zcp,zgA a b,Nat.mul_assoc]
theorem zfo:∀{a:List Nat},(∀ x∈a,1<=x)->1<=zcp a
 |[],_=>wal _
 |x::a,h=>waN (zfo λy hy=>h y (wah _ hy)) (Nat.le_mul_of_pos_left _ (h x wau))
noncomputable def chD(c:List (List Int)):Dt:=.lst (lp c)
theorem zln{cs:List (List (List Int))}(h1:∀ c∈cs,1<=c.length)(h2:∀ c∈cs,∀ y∈c,y.length<=10)(h3:cs.length<=10)(h4:zcp (cs.map List.length)<=720):zfc [.val (.lst (cs.map chD))]=.ok (.lst (lp (zcl cs)),[.val .non]):=by
 have hpre:∀ dn zbq,cs=dn++zbq->zcp (dn.map List.length)<=720:=λdn zbq e=>by
  have:1<=zcp (zbq.map List.length):=zfo λx hx=>by obtain ⟨c,hc,rfl⟩:=List.mem_map.mp hx;exact h1 c (by rw[e];exact waz _ hc)
  rw[e,List.map_append,zgA] at h4;exact waN (Nat.le_mul_of_pos_right _ this) h4
 let A:Option B:=some (.val (.lst (cs.map chD)));obtain ⟨Z',⟨o2,o3,o4,rfl⟩,e⟩:=zbf (u:=chD) (l:=cs) (g:=zaU 2) (body:=zv5) (fi:=dIt (zab 0)) (Z:=[A,some (.val (.lst [.tup []])),none,none,none]) (Z0:=[A,some (.val (.lst [.tup []])),none,none,none]) (ds:=cs.map chD)
  (I:=λdn Z=>∃ o2 o3 o4,Z=[A,some (.val (.lst (lp (ziM [[]] dn)))),o2,o3,o4]) rfl rfl ⟨none,none,none,rfl⟩
  (λdn c zbq e Z ⟨o2,o3,o4,hρ⟩=>by
   subst hρ;have hc:c∈cs:=by rw[e];simp
   have hdl:dn.length<=10:=by have:=congrArg List.length e;simp at this;omega
   have hp1:=hpre (dn++[c]) zbq (by rw[e];simp);rw[List.map_append,zgA,List.map_cons,List.map_nil,zcp,zcp,Nat.mul_one] at hp1;have hp2:=hpre dn (c::zbq) e;have hRl:(ziM [[]] dn).length=zcp (dn.map List.length):=by rw[zky,zhY]
   have hc1:=h1 c hc;have hcl:c.length<=720:=waN (Nat.le_mul_of_pos_left _ (zfo λx hx=>by obtain ⟨c',hc',rfl⟩:=List.mem_map.mp hx;exact h1 c' (by rw[e];exact waR _ hc'))) hp1
   obtain ⟨o',e'⟩:=zq6 (ch:=A) (o4:=o4) (R:=ziM [[]] dn) (c:=c) xwo (by rw[hRl];omega) (λr hr y hy=>by rw[zky] at hr;have h5:=zjS (m:=10) (λc' hc'=>h2 c' (by rw[e];exact waR _ hc')) r hr;have:=h2 c hc y hy;have:=Nat.mul_le_mul_right 10 hdl;omega)
   let Z1:Ev:=[A,some (.val (.lst (lp (ziM [[]] dn)))),some (.val (chD c)),o3,o4]
   let Z2:Ev:=[A,some (.val (.lst (lp (ziM [[]] dn)))),some (.val (chD c)),some (.own []),o4]
   refine ⟨Z1,[A,some (.val (.lst (lp ((ziM [[]] dn).flatMap (stp c))))),some (.val (chD c)),some (.val (.lst (lp ((ziM [[]] dn).flatMap (stp c))))),o'],rfl,?_,some (.val (chD c)),some (.val (.lst (lp ((ziM [[]] dn).flatMap (stp c))))),o',?_⟩
   ·have e2:sIn Z2=.ok (.nx,[A,some (.val (.lst (lp (ziM [[]] dn)))),some (.val (chD c)),some (.own (lp ((ziM [[]] dn).flatMap (stp c)))),o']):=e';show zv5 Z1=_;rw[show zv5=zaw (zb6 3 (zbQ dA0)) (zaw sIn (zbc 1 (zd8 3))) from rfl,zaf (Z1:=Z2) rfl,zaf e2];rfl
   ·rw[zq7])
 refine zap (Z':=[A,some (.val (.lst (lp (ziM [[]] cs)))),o2,o3,o4]) rfl ?_ rfl;show ziF [A,none,none,none,none]=_;rw[zna,zaf (Z1:=[A,some (.val (.lst [.tup []])),none,none,none]) rfl,zaf e,<- zky];rfl
theorem zsy(r:Bool)(bs:List Tr):1<=(arr r bs).length:=by
 unfold arr;split
 ·simp
 ·rw[zhf _ _ rfl];exact zlg _
theorem zqb(r:Bool)(bs:List Tr):(zaz (.nd r bs)).length=(arr r bs).length * zcp (bs.map λt=>(zaz t).length):=by rw[zgi,List.length_flatMap,zeW (c:=zcp (bs.map λt=>(zaz t).length)) λp hp=>?_];rw[zhY,List.map_map];exact zhA ((zbx hp).map _)
theorem ziu:∀(n:Nat)(t:Tr),dep t<=n->1<=(zaz t).length
 |0,t,h=>by cases t <;> simp[dep] at h
 |n+1,.lf g,_=>by rw[zaz];simp
 |n+1,.nd r bs,h=>by
  simp only[dep] at h;have hd:=zdN.mp (by omega:ziY bs<=n);rw[zqb];exact waN (zsy r bs) (Nat.le_mul_of_pos_right _ (zfo λx hx=>by obtain ⟨t,ht,rfl⟩:=List.mem_map.mp hx;exact ziu n t (hd t ht)))
noncomputable abbrev zsJ(F:FD):DN:=zaY (dIt (dOp gIx (zab 0) (dC (.int 1)))) (zaU 5) dTT (zaj F (dR (zab 5) dR0)) 1
noncomputable abbrev aIf:DS:=dIf (dTB (dOp (gEq false) (dOp gIx (zab 0) (dC (.int 0))) (dC (.str (Str.ofString "row"))))) (zbc 2 (dFz (zbQ (dA (zab 1) (dA (dFz (zhk (zab 1))) dA0))))) (zbc 2 (zaj (zc5 8) (dR (zab 1) dR0)))
noncomputable abbrev zub:DS:=dEx (zeP 3 (zaj zfc (dR (zab 4) dR0)))
theorem ztm(F:FD):zdZ F=zaw (dIf (dTB (zaj zbt (dR (zab 0) dR0))) (zaV (dFz (zbQ (dA (zgD (dA (zab 0) dA0)) dA0)))) dNx) (zaw (zbc 1 (dFz (zsJ F))) (zaw aIf (zaw (zb6 3 (zbQ dA0)) (zaw (zeU (dIt (zab 2)) (zaU 4) zub) (zaV (zd8 3)))))):=rfl
noncomputable def brD(t:Tr):Dt:=chD (zaz t)
noncomputable def orD(p:List Tr):Dt:=.lst (p.map brD)
theorem zpv{T o2 o3 o4:Option B}{r:Bool}{bs:List Tr}(hT:T=some (.val (toD (.nd r bs))))(hl:bs.length<=6):aIf [T,some (.val (.lst (bs.map brD))),o2,o3,o4]=.ok (.nx,[T,some (.val (.lst (bs.map brD))),some (.val (.lst ((arr r bs).map orD))),o3,o4]):=by
 subst hT;let Z:Ev:=[some (.val (toD (.nd r bs))),some (.val (.lst (bs.map brD))),o2,o3,o4]
 have hD:toD (.nd r bs)=.tup [.str (wd r),.tup (zkt bs)]:=by rw[toD]
 have ix:dOp gIx (zab 0) (dC (.int 0)) Z=.ok (.str (wd r),Z):=by have a1:zab 0 Z=.ok (toD (.nd r bs),Z):=rfl;exact zav a1 rfl (by rw[hD];rfl)
 have ht:dTB (dOp (gEq false) (dOp gIx (zab 0) (dC (.int 0))) (dC (.str (Str.ofString "row")))) Z=.ok (r,Z):=by refine zaG (zav ix rfl ?_);rw[zbC (by rw[okN];exact zio r) (by rw[okN];exact zjL),eqS,zrL];rfl
 cases r with
 |true =>
  show dIf _ _ _ Z=_;rw[zdG ht];have ea:(arr true bs).map orD=[.lst (bs.map brD),.lst (bs.map brD).reverse]:=by rw[<- List.map_reverse];rfl
  rw[ea];rfl
 |false =>
  show dIf _ _ _ Z=_;rw[zbU ht];refine (zbj (i:=2) (Z1:=Z) (d:=.lst ((arr false bs).map orD)) (zde (Z':=Z) (l:=[.val .non]) (d:=.lst (bs.map brD)) rfl ?_) (by simp[Z])).trans rfl;have:=zgU 8 (bs.map brD) (by rw[List.length_map];omega) (by rw[List.length_map];omega);rw[this,List.length_map,zkF,List.map_map];rfl
theorem zqp{F:FD}{r:Bool}{bs:List Tr}(IH:∀ b∈bs,F [.val (toD b)]=.ok (.lst (lp (zaz b)),[.val .non]))(ho:okT (.nd r bs)=true)(hn:(zac (.nd r bs)).Nodup)(h6:(zac (.nd r bs)).length<=6) :
  zax false [false] 4 (zdZ F) [.val (toD (.nd r bs))]=.ok (.lst (lp (zaz (.nd r bs))),[.val .non]):=by
 obtain ⟨A,H⟩:=zcL (Nat.le_succ _) ho hn;have hD:toD (.nd r bs)=.tup [.str (wd r),.tup (zkt bs)]:=by rw[toD]
 have hk:bs.length<=6:=by have:=zil bs (wal _) (by rw[okT,Bool.and_eq_true] at ho;exact ho.2);rw[zac] at h6;omega
 have hsub:∀ b∈bs,(zac b).length<=6:=λb hb=>by have:=zcU hb;rw[zac] at h6;omega
 have hle:∀ b∈bs,(zaz b).length<=fac (zac b).length:=λb hb=>zlk (H b hb).2.1 (H b hb).2.2;have h720:zcp (bs.map λt=>(zaz t).length)<=720:=waN (zmc hle) (zuz (by rw[zac] at h6;exact h6));have htot:(zaz (.nd r bs)).length<=720:=waN (zlk ho hn) (zuz h6);let T:Option B:=some (.val (toD (.nd r bs)));let Z0:Ev:=[T,none,none,none,none]
 have x0:dIf (dTB (zaj zbt (dR (zab 0) dR0))) (zaV (dFz (zbQ (dA (zgD (dA (zab 0) dA0)) dA0)))) dNx Z0=.ok (.nx,Z0):=by rw[zbU (zaG (Z1:=Z0) (b:=false) (zde (Z':=Z0) (d:=toD (.nd r bs)) rfl (zjh _)))];rfl
 have x1:zbc 1 (dFz (zsJ F)) Z0=.ok (.nx,[T,some (.val (.lst (bs.map brD))),none,none,none]):=by
  have hi:dIt (dOp gIx (zab 0) (dC (.int 1))) Z0=.ok (zkt bs,Z0):=by have a1:zab 0 Z0=.ok (toD (.nd r bs),Z0):=rfl;have:dOp gIx (zab 0) (dC (.int 1)) Z0=.ok (.tup (zkt bs),Z0):=zav a1 rfl (by rw[hD];rfl);unfold dIt;rw[this];rfl
  have hc:zsJ F Z0=.ok (bs.map brD,Z0):=zc0 (u:=toD) (f:=brD) (l:=bs) hi (zdk bs) xwo (λb hb=>by have a1:zab 5 (Z0++[some (.val (toD b))])=.ok (toD b,Z0++[some (.val (toD b))]):=rfl;exact zde a1 (IH b hb)) rfl
  exact zbj (zaQ hc) (by simp[Z0])
 have x2:=zpv (T:=T) (o2:=none) (o3:=none) (o4:=none) (r:=r) (bs:=bs) rfl hk;let B1:Option B:=some (.val (.lst (bs.map brD)));let B2:Option B:=some (.val (.lst ((arr r bs).map orD)));obtain ⟨Z',⟨o4,rfl⟩,e⟩:=zbf (u:=orD) (l:=arr r bs) (g:=zaU 4) (body:=zub) (fi:=dIt (zab 2)) (Z:=[T,B1,B2,some (.own []),none]) (Z0:=[T,B1,B2,some (.own []),none]) (ds:=(arr r bs).map orD)
  (I:=λdn Z=>∃ o4,Z=[T,B1,B2,some (.own (lp (dn.flatMap λp=>zcl (p.map zaz)))),o4]) rfl rfl ⟨none,rfl⟩
  (λdn p zbq e Z ⟨o4,hρ⟩=>by
   subst hρ;have hp:p∈arr r bs:=by rw[e];simp
   have pb:∀ t∈p,t∈bs:=λt ht=>(zbx hp).mem_iff.mp ht;have hpl:p.length<=6:=by rw[(zbx hp).length_eq];exact hk
   have hst:zfc [.val (orD p)]=.ok (.lst (lp (zcl (p.map zaz))),[.val .non]):=by
    have:orD p=.lst ((p.map zaz).map chD):=by unfold orD;rw[List.map_map];rfl
    rw[this];refine zln (λc hc=>?_) (λc hc y hy=>?_) (by rw[List.length_map];omega) ?_
    ·obtain ⟨t,ht,rfl⟩:=List.mem_map.mp hc;exact ziu _ t (wal _)
    ·obtain ⟨t,ht,rfl⟩:=List.mem_map.mp hc;rw[(zaE hy).length_eq];have:=hsub t (pb t ht);omega
    ·rw[List.map_map];have:=zhA ((zbx hp).map λt=>(zaz t).length);exact waN (Nat.le_of_eq this) h720
   have hlen:(dn.flatMap λp=>zcl (p.map zaz)).length+(zcl (p.map zaz)).length<=720:=by rw[zgi,e,List.flatMap_append,List.length_append,List.flatMap_cons,List.length_append] at htot;omega
   let Z1:Ev:=[T,B1,B2,some (.own (lp (dn.flatMap λp=>zcl (p.map zaz)))),some (.val (orD p))]
   refine ⟨Z1,_,rfl,zfa (zfJ (Z1:=Z1) (l:=lp (zcl (p.map zaz))) rfl (zde (Z':=Z1) (d:=orD p) rfl hst) rfl rfl ?_),some (.val (orD p)),?_⟩
   ·rw[ze3,ze3];omega
   ·rw[List.flatMap_append,zon,List.flatMap_singleton];rfl)
 refine zap (Z':=[T,B1,B2,some (.val (.lst (lp (zaz (.nd r bs))))),o4]) rfl ?_ rfl;show zdZ F Z0=_;rw[ztm,zaf x0,zaf x1,zaf x2,zaf (Z1:=[T,B1,B2,some (.own []),none]) rfl,zaf e,<- zgi];rfl
theorem zlJ:∀(n:Nat)(t:Tr),dep t<=n->okT t=true->(zac t).Nodup->(zac t).length<=6->zbW n [.val (toD t)]=.ok (.lst (lp (zaz t)),[.val .non])
 |0,t,h,_,_,_=>by cases t <;> simp[dep] at h
 |n+1,.lf g,_,_,_,_=>by rw[toD,zaz];exact zap (d:=.lst [.tup [.int g]]) (Z':=[some (.val (.int g)),none,none,none,none]) rfl rfl rfl
 |n+1,.nd r bs,h,ho,hn,h6=>by have hh:=zcL h ho hn;refine zqp (F:=zbW n) (λb hb=>?_) ho hn h6;obtain ⟨h1,h2,h3⟩:=hh.2 b hb;refine zlJ n b h1 h2 h3 ?_;have:=zcU hb;rw[zac] at h6;omega
theorem zjl{nw:Bool}{ks:List Bool}{m n:Nat}{body:DS}{bs:List B}(hk:zbX bs=ks)(hb:body (bs.map some++List.replicate m none)=.er n):zax nw ks m body bs=.er n:=by unfold zax;rw[if_pos hk,hb];rfl
theorem zrt{r:Bool}{bs:List Tr}{Z:Ev}(h:zab 0 Z=.ok (toD (.nd r bs),Z)):dOp gIx (zab 0) (dC (.int 0)) Z=.ok (.str (wd r),Z) :=
 zav h rfl (by rw[toD];rfl)
theorem zls{r:Bool}{bs:List Tr}{Z:Ev}(h:zab 0 Z=.ok (toD (.nd r bs),Z)):dTB (dOp (gEq false) (dOp gIx (zab 0) (dC (.int 0))) (dC (.str (Str.ofString "row")))) Z=.ok (r,Z):=by refine zaG (zav (zrt h) rfl ?_);rw[zbC (by rw[okN];exact zio r) (by rw[okN];exact zjL),eqS,zrL];rfl
theorem zoQ{r:Bool}{bs:List Tr}{Z:Ev}(h:zab 0 Z=.ok (toD (.nd r bs),Z)):dOp (gEq false) (dOp gIx (zab 0) (dC (.int 0))) (dC (.str (Str.ofString "any"))) Z=.ok (.bl (!r),Z):=by refine zav (zrt h) rfl ?_;rw[zbC (by rw[okN];exact zio r) (by rw[okN];exact znF),eqS,ztP];rfl
theorem zhW{r:Bool}{bs:List Tr}{Z:Ev}(h:zab 0 Z=.ok (toD (.nd r bs),Z)):dOp gIx (zab 0) (dC (.int 1)) Z=.ok (.tup (zkt bs),Z) :=
 zav h rfl (by rw[toD];rfl)
theorem ziy(l:List Int):zhB (l.map .int)=some l:=zqZ l
theorem zo5:∀{ps:List (List Int)},(∀ p∈ps,p≠[])->zrD (lp ps)=some ps
 |[],_=>rfl
 |p::ps,h=>by have ih:=zo5 (ps:=ps) λq hq=>h q (wah _ hq);obtain ⟨a,r,rfl⟩:=waI (h p wau);show zrD (tz (a::r)::lp ps)=_;unfold tz;rw[zrD,ziy,ih]
theorem zo6{n:Nat}{t:Tr}(h1:1<=n)(h7:n<=7)(hd:dep t<=8)(ho:okT t=true)(hn:(zac t).Nodup)(h6:(zac t).length<=6):zbL [.val (.int n),.val (toD t)]=.ok (.lst (lp (zhu (zaz t))),[.val .non,.val .non]):=by
 let Z:Ev:=[some (.val (.int n)),some (.val (toD t))]
 refine zap (Z':=Z) rfl ?_ rfl;have a0:zab 0 Z=.ok (.int n,Z):=rfl;have a1:zab 1 Z=.ok (toD t,Z):=rfl;show zaw (dEx (zaj zba (dR (zab 0) dR0))) (zdL (zcV zft (dA (zaj (zbW 8) (dR (zab 1) dR0)) dA0))) Z=_;rw[zaf (zfa (zde a0 (zmp xwo xwo)))];have e:zaj (zbW 8) (dR (zab 1) dR0) Z=.ok (.lst (lp (zaz t)),Z):=zde a1 (zlJ 8 t hd ho hn h6);have eg:zft [.lst (lp (zaz t))]=.ok (lp (zhu (zaz t))):=by unfold zft;simp only[zo5 (ps:=zaz t) λp hp z=>zfi _ t (wal _) ho (by subst z;exact (zaE hp).symm.eq_nil)];rfl
 unfold zdL zcV dA dA0;rw[e];simp only[R.bind_ok,eg]
theorem zhK{α:Type}{u f:α->Dt}{p:α->Bool}{ft:DT}{fe:De}{Z0:Ev}:∀{l:List α}{o:Option B},(∀ a∈l,ft (Z0++[some (.val (u a))])=.ok (p a,Z0++[some (.val (u a))]))->(∀ a∈l,p a=true->fe (Z0++[some (.val (u a))])=.ok (f a,Z0++[some (.val (u a))])) ->
  ∃ o',zb5 (zaU Z0.length) ft fe (l.map u) (Z0++[o])=.ok ((l.filter p).map f,Z0++[o'])
 |[],o,_,_=>⟨o,rfl⟩
 |a::l,o,h,h2=>by
  obtain ⟨o',e⟩:=zhK (l:=l) (o:=some (.val (u a))) (λb hb=>h b (wah _ hb)) λb hb=>h2 b (wah _ hb);refine ⟨o',?_⟩;rw[List.map_cons,zb5,zpQ];simp only[R.bind_ok];rw[h a List.mem_cons_self];simp only[R.bind_ok];cases hp:p a with
  |true =>
   simp only[if_true];rw[h2 a List.mem_cons_self hp];simp only[R.bind_ok,e,List.filter_cons,hp,if_true,List.map_cons]
  |false =>
   simp only[Bool.false_eq_true,if_false,e,List.filter_cons,hp]
theorem zfA{α:Type}{u f:α->Dt}{p:α->Bool}{ft:DT}{fe:De}{Z0:Ev}{fi:DA}{l:List α}{ds:List Dt}{j:Nat}(hi:fi Z0=.ok (ds,Z0))(hd:ds=l.map u)(hj:j = Z0.length)(hl:l.length<=16777216)(h:∀ a∈l,ft (Z0++[some (.val (u a))])=.ok (p a,Z0++[some (.val (u a))]))(h2:∀ a∈l,p a=true->fe (Z0++[some (.val (u a))])=.ok (f a,Z0++[some (.val (u a))])) :
  zaY fi (zaU j) ft fe 1 Z0=.ok ((l.filter p).map f,Z0):=by
 subst hj;subst hd;obtain ⟨o',e⟩:=zhK (o:=none) h h2;unfold zaY;rw[hi];simp only[R.bind_ok];have hf:zdC (l.map u)=true:=by unfold zdC;rw[List.length_map];exact wat hl
 rw[if_pos hf];show (match zb5 (zaU Z0.length) ft fe (l.map u) (Z0++[none]) with|.ok z=>R.ok (z.1,z.2.take Z0.length)|_=>.no)=_;rw[e];simp
noncomputable abbrev zsD:DN:=zaY (zbH (zab 0)) (zaU 5) (dTB (dOp (gIn true) (zab 5) (zab 4))) (dOp zfB (zab 4) (zgD (dA (zab 5) dA0))) 1
noncomputable abbrev pIn:DS:=zeU (dIt (zab 1)) (zaU 4) (dEx (zeP 3 (dFz zsD)))
noncomputable abbrev zvz:DS:=zaw (zb6 3 (zbQ dA0)) (zaw pIn (zbc 1 (zd8 3)))
theorem zn5:zdV=zaw (zbc 1 (dC (.lst [(.tup [])]))) (zaw (zeU (zbH (zab 0)) (zaU 2) zvz) (zaV (zab 1))):=rfl
noncomputable def zqn(n:Nat)(row:List Int):List (List Int):=((zaC n).filter λg=>!decide (g∈row)).map λg=>row++[g]
theorem zmg:∀ n,n<=6->∀ j,j<=n->(zbw n j).length<=720:=by decide +kernel
theorem zjm{neg:Bool}{x:Dt}{ds:List Dt}(h1:okN 60 x=true)(h2:∀ d∈ds,okN 60 d=true):gIn neg x (.tup ds)=.ok (.bl (if neg then !inD x ds else inD x ds))/\gIn neg x (.lst ds)=.ok (.bl (if neg then !inD x ds else inD x ds)):=by have h3:ds.all (okN 60)=true:=List.all_eq_true.mpr h2;unfold gIn;simp only[h1,h3,Bool.and_self,if_true,and_self]
theorem zin{l:List Int}:∀ d∈l.map Dt.int,okN 60 d=true:=λd hd=>by obtain ⟨i,_,rfl⟩:=List.mem_map.mp hd;rfl
theorem zsv{fa:De}{Z Z1:Ev}{m:Nat}(h:fa Z=.ok (.int (m:Nat),Z1))(hm:m<=1000):zbH fa Z=.ok ((zaC m).map Dt.int,Z1):=by rw[zrj h,zo9 (zrl hm),Int.toNat_natCast,zmh]
theorem zqw{n:Nat}{o2 o4:Option B}{R:List (List Int)}(hn:n<=6)(hR:R.length<=1000)(hl:∀ r∈R,r.length<=100) :
  ∃ o',pIn [some (.val (.int (n:Nat))),some (.val (.lst (lp R))),o2,some (.own []),o4]=.ok (.nx,[some (.val (.int (n:Nat))),some (.val (.lst (lp R))),o2,some (.own (lp (R.flatMap (zqn n)))),o']):=by
 let N:Option B:=some (.val (.int (n:Nat)));let Z0:Ev:=[N,some (.val (.lst (lp R))),o2,some (.own []),o4]
 have hst:∀ row,(zqn n row).length<=6:=λrow=>by unfold zqn;rw[List.length_map];exact waN (List.length_filter_le _ _) (by rw[zbd];exact hn)
 obtain ⟨Z',⟨o',rfl⟩,e⟩:=zbf (u:=tz) (l:=R) (g:=zaU 4) (body:=dEx (zeP 3 (dFz zsD))) (Z:=Z0) (Z0:=Z0) (ds:=lp R) (I:=λdn Z=>∃ o',Z=[N,some (.val (.lst (lp R))),o2,some (.own (lp (dn.flatMap (zqn n)))),o']) (fi:=dIt (zab 1)) rfl rfl ⟨o4,rfl⟩
  (λdn row zbq e Z ⟨o',hρ⟩=>by
   subst hρ;have hrow:row∈R:=by rw[e];simp
   let Z1:Ev:=[N,some (.val (.lst (lp R))),o2,some (.own (lp (dn.flatMap (zqn n)))),some (.val (tz row))]
   have hcomp:zsD Z1=.ok (((zaC n).filter λg=>!decide (g∈row)).map λg=>tz (row++[g]),Z1):=by
    have a0:zab 0 Z1=.ok (.int (n:Nat),Z1):=rfl;refine zfA (u:=Dt.int) (l:=zaC n) (zsv a0 xwo) rfl rfl (by rw[zbd];omega) (λg hg=>?_) λg hg _=>?_
    ·have a4:zab 4 (Z1++[some (.val (.int g))])=.ok (tz row,Z1++[some (.val (.int g))]):=rfl;have a5:zab 5 (Z1++[some (.val (.int g))])=.ok (.int g,Z1++[some (.val (.int g))]):=rfl;refine zaG (zav a5 a4 ?_);unfold tz;rw[(zjm rfl zin).1,zi5];rfl
    ·have a4:zab 4 (Z1++[some (.val (.int g))])=.ok (tz row,Z1++[some (.val (.int g))]):=rfl;have a5:zgD (dA (zab 5) dA0) (Z1++[some (.val (.int g))])=.ok (tz [g],Z1++[some (.val (.int g))]):=rfl;refine zav a4 a5 ?_;have:=hl row hrow;rw[<- zrf];exact zph (by simp only[wag,wan,List.length_nil];omega)
   have hdn:(dn.flatMap (zqn n)).length<=6000:=by
    have h1:(dn.flatMap (zqn n)).length<=dn.length * 6:=zlz λa _=>hst a;have h2:dn.length<=R.length:=by rw[e];simp
    omega
   have hlp:lp (zqn n row)=((zaC n).filter λg=>!decide (g∈row)).map λg=>tz (row++[g]):=by unfold lp zqn;rw[List.map_map];rfl
   refine ⟨Z1,_,rfl,zfa (zfJ (Z1:=Z1) rfl (zaQ hcomp) rfl rfl ?_),some (.val (tz row)),?_⟩
   ·have:=hst row;rw[<- hlp,ze3,ze3];omega
   ·rw[List.flatMap_append,zon,List.flatMap_singleton,hlp];rfl)
 exact ⟨o',e⟩
theorem zmE{n:Nat}(hn:n<=6):zcn [.val (.int (n:Nat))]=.ok (.lst (lp (zbw n n)),[.val .non]):=by
 let A:Option B:=some (.val (.int (n:Nat)));have hr:zbH (zab 0) [A,some (.val (.lst [.tup []])),none,none,none]=.ok ((List.range n).map λk:Nat=>Dt.int k,[A,some (.val (.lst [.tup []])),none,none,none]):=by have a0:zab 0 [A,some (.val (.lst [.tup []])),none,none,none]=.ok (.int (n:Nat),[A,some (.val (.lst [.tup []])),none,none,none]):=rfl;exact zjs a0 xwo
 obtain ⟨Z',⟨o2,o3,o4,rfl⟩,e⟩:=zbf (u:=λk:Nat=>Dt.int k) (l:=List.range n) (g:=zaU 2) (body:=zvz)
  (I:=λdn Z=>∃ o2 o3 o4,Z=[A,some (.val (.lst (lp (zbw n dn.length)))),o2,o3,o4]) hr rfl ⟨none,none,none,rfl⟩
  (λdn c zbq e Z ⟨o2,o3,o4,hρ⟩=>by
   subst hρ;have hdl:dn.length<n:=by have:=congrArg List.length e;simp at this;omega
   have hle:=zmg n hn dn.length xwo;let C2:Option B:=some (.val (.int (c:Nat)));obtain ⟨o',e'⟩:=zqw (n:=n) (o2:=C2) (o4:=o4) (R:=zbw n dn.length) hn xwo (λr hr=>by have:=(zcZ.mp hr).1;omega)
   let Z1:Ev:=[A,some (.val (.lst (lp (zbw n dn.length)))),C2,o3,o4]
   let Z2:Ev:=[A,some (.val (.lst (lp (zbw n dn.length)))),C2,some (.own []),o4]
   have e2:pIn Z2=.ok (.nx,[A,some (.val (.lst (lp (zbw n dn.length)))),C2,some (.own (lp (zbw n (dn.length+1)))),o']):=e';refine ⟨Z1,[A,some (.val (.lst (lp (zbw n (dn.length+1))))),C2,some (.val (.lst (lp (zbw n (dn.length+1))))),o'],rfl,?_,C2,some (.val (.lst (lp (zbw n (dn.length+1))))),o',?_⟩
   ·show zvz Z1=_;rw[show zvz=zaw (zb6 3 (zbQ dA0)) (zaw pIn (zbc 1 (zd8 3))) from rfl,zaf (Z1:=Z2) rfl,zaf e2];rfl
   ·rw[List.length_append];rfl)
 refine zap (Z':=[A,some (.val (.lst (lp (zbw n (List.range n).length)))),o2,o3,o4]) rfl ?_ rfl;show zdV [A,none,none,none,none]=_;rw[zn5,zaf (Z1:=[A,some (.val (.lst [.tup []])),none,none,none]) rfl,zaf e,List.length_range];rfl
theorem zgI{bs q:List Tr}{b:Tr}{g:Int}{l:List Int}(A:zfs bs)(hq:∀ t∈q,t∈bs)(hb:b∈bs)(hg:g∈zac b)(h:zks (g::l) q):∃ q',q=b::q'/\(g::l).take (zac b).length∈zaz b/\zks ((g::l).drop (zac b).length) q':=by
 obtain ⟨ys,h1,e⟩:=h;cases h1 with
 |nil=>simp at e
 |@cons y t ys q h r =>
  have hy:=zaE h;have hyn:y≠[]:=λz=>A.ne t (hq t wau) (by subst z;exact hy.symm.eq_nil);obtain ⟨g',y',rfl⟩:=waI hyn;rw[List.flatten_cons] at e;have eg:g'=g:=by simp only[List.cons_append] at e;exact (List.cons.inj e).1
  subst eg;have tb:t=b:=zer A.nd (hq t wau) hb (hy.mem_iff.mp wau) hg;subst tb;have hm:(zac t).length=(g'::y').length:=hy.length_eq.symm;refine ⟨q,rfl,?_,ys,r,?_⟩
  ·rw[<- e,hm,List.take_left];exact h
  ·rw[<- e,hm,List.drop_left]
theorem zpl{b:Tr}{q:List Tr}{l:List Int}{m:Nat}(h1:l.take m∈zaz b)(h2:zks (l.drop m) q):zks l (b::q):=by obtain ⟨ys,h3,e⟩:=h2;exact ⟨l.take m::ys,.cons h1 h3,by rw[List.flatten_cons,e,List.take_append_drop]⟩
noncomputable def sel(bs:List Tr)(pl:List Nat):List Tr:=pl.filterMap (bs[·]?)
theorem zcM{bs:List Tr}{i:Nat}{b:Tr}{pl:List Nat}(h:bs[i]? = some b):sel bs (i::pl)=b::sel bs pl:=by unfold sel;rw[List.filterMap_cons,h]
theorem ziD{bs:List Tr}{pl:List Nat}{t:Tr}(h:t∈sel bs pl):t∈bs:=by unfold sel at h;obtain ⟨i,_,e⟩:=List.mem_filterMap.mp h;exact waH e
theorem zk3{bs:List Tr}(hn:bs.Nodup):∀{a b:List Nat},(∀ i∈a,i<bs.length)->(∀ i∈b,i<bs.length)->sel bs a=sel bs b->a=b
 |[],[],_,_,_=>rfl
 |[],j::b,_,hb,e=>by rw[zcM (List.getElem?_eq_getElem (hb j List.mem_cons_self))] at e;simp[sel] at e
 |i::a,[],ha,_,e=>by rw[zcM (List.getElem?_eq_getElem (ha i List.mem_cons_self))] at e;simp[sel] at e
 |i::a,j::b,ha,hb,e=>by
  have hi:=ha i wau;have hj:=hb j wau;rw[zcM (List.getElem?_eq_getElem hi),zcM (List.getElem?_eq_getElem hj)] at e;obtain ⟨e1,e2⟩:=List.cons.inj e;have:i=j:=by
   rcases Nat.lt_trichotomy i j with h|h|h
   ·exact absurd e1 (List.pairwise_iff_getElem.mp hn i j hi hj h)
   ·exact h
   ·exact absurd e1.symm (List.pairwise_iff_getElem.mp hn j i hj hi h)
  rw[this,zk3 hn (λk hk=>ha k (List.mem_cons_of_mem _ hk)) (λk hk=>hb k (List.mem_cons_of_mem _ hk)) e2]
theorem zoM:∀(l pre:List Tr),sel (pre++l) (List.range' pre.length l.length)=l
 |[],pre=>by simp[sel]
 |t::l,pre=>by rw[List.length_cons,List.range'_succ,zcM (b:=t) (by rw[List.getElem?_append_right (Nat.le_refl _),Nat.sub_self];rfl)];have:=zoM l (pre++[t]);rw[List.append_assoc,List.length_append] at this;exact congrArg (t::·) this
theorem zfh(bs:List Tr):sel bs (List.range bs.length)=bs:=by rw[List.range_eq_range'];exact zoM bs []
theorem zo2(bs:List Tr)(pl:List Nat):sel bs pl.reverse=(sel bs pl).reverse:=by unfold sel;rw[List.filterMap_reverse]
theorem zlj{bs:List Tr}:∀{pl:List Nat},(∀ i∈pl,i<bs.length)->(sel bs pl).length=pl.length
 |[],_=>rfl
 |i::pl,h=>by rw[zcM (List.getElem?_eq_getElem (h i List.mem_cons_self)),List.length_cons,List.length_cons,zlj λj hj=>h j (List.mem_cons_of_mem _ hj)]
theorem ziJ{bs q:List Tr}{r:List Int}(A:zfs bs)(hq:∀ t∈q,t∈bs)(hr:r.Perm (zak bs))(h:zks r q):q.Perm bs:=by
 have hp:(zak q).Perm (zak bs):=(zj0 h).symm.trans hr;have hA:zfs q:=⟨hp.symm.nodup A.nd,λt ht=>A.ne t (hq t ht)⟩
 haveI:DecidableEq Tr:=λa b=>Classical.propDecidable (a=b)
 refine zhg (zc9 hA) (zc9 A) λt=>⟨hq t,λht=>?_⟩
 obtain ⟨g,y,e⟩:=waI (A.ne t ht);have hg:g∈zac t:=by rw[e];exact wau
 obtain ⟨u,hu,gu⟩:=zaP.mp (hp.mem_iff.mpr (zaP.mpr ⟨t,ht,hg⟩));rw[zer A.nd ht (hq u hu) hg gu];exact hu
theorem zke{bs:List Tr}:∀{pl:List Nat},(∀ i∈pl,i<bs.length)->(sel bs pl).Nodup->pl.Nodup
 |[],_,_=>.nil
 |i::pl,h,hn=>by have hi:=h i wau;rw[zcM (List.getElem?_eq_getElem hi)] at hn;rw[List.nodup_cons] at hn ⊢;refine ⟨λz=>hn.1 ?_,zke (λj hj=>h j (wah _ hj)) hn.2⟩;unfold sel;exact List.mem_filterMap.mpr ⟨i,z,wac hi⟩
noncomputable def zaS(pl:List Nat):List Int:=pl.map λ(i:Nat)=>(i:Int)
theorem zgZ:∀{a b:List Nat},zaS a=zaS b->a=b
 |[],[],_=>rfl
 |[],_::_,h=>by simp[zaS] at h
 |_::_,[],h=>by simp[zaS] at h
 |x::a,y::b,h=>by simp only[zaS,List.map_cons] at h;obtain ⟨h1,h2⟩:=List.cons.inj h;rw[zgZ h2,Int.ofNat_inj.mp h1]
theorem zdl(k:Nat):zaS (List.range k)=zaC k:=rfl
theorem zjx(l:List Nat):zaS l.reverse=(zaS l).reverse:=by unfold zaS;rw[List.map_reverse]
theorem zrV{bs:List Tr}{r:List Int}{pl:List Nat}(A:zfs bs)(hr:r.Perm (zak bs))(hpl:∀ i∈pl,i<bs.length)(h:zks r (sel bs pl)):r∈zaz (.nd false bs):=by refine zeq.mpr ⟨sel bs pl,?_,h⟩;show sel bs pl∈zeV bs.length bs;exact (zeF _ _ _ rfl).mpr (ziJ A (λt=>ziD) hr h)
theorem zsV{bs:List Tr}{r:List Int}{pl:List Nat}(A:zfs bs)(hr:r.Perm (zak bs))(hpl:∀ i∈pl,i<bs.length)(h:zks r (sel bs pl)) :
  zaB (zaS pl)=zaC bs.length/\(r∈zaz (.nd true bs) ↔ zaS pl=zaC bs.length\/zaS pl=(zaC bs.length).reverse):=by
 have hp:=ziJ A (λt=>ziD) hr h;have hn:=zc9 A;have hlen:pl.length=bs.length:=by rw[<- zlj hpl,hp.length_eq]
 refine ⟨zhP.mpr ⟨?_,λx hx=>?_,?_⟩,?_⟩
 ·exact List.pairwise_map.mpr ((zke hpl (hp.symm.nodup hn)).imp λhab e=>hab (Int.ofNat_inj.mp e))
 ·obtain ⟨i,hi,rfl⟩:=List.mem_map.mp hx;have:=hpl i hi;omega
 ·unfold zaS;rw[List.length_map,hlen]
 ·rw[zeq];have hR:∀ i∈List.range bs.length,i<bs.length:=λi hi=>List.mem_range.mp hi;have hR':∀ i∈(List.range bs.length).reverse,i<bs.length:=λi hi=>List.mem_range.mp (List.mem_reverse.mp hi);constructor
  ·rintro ⟨p,hp',hm⟩;have e:sel bs pl=p:=zl9 A (λt=>ziD) (λt ht=>(zbx hp').mem_iff.mp ht) h hm;have:p=bs\/p=bs.reverse:=by simpa [arr] using hp'
   rcases this with rfl|rfl
   ·left;rw[<- zdl,<- zk3 hn hpl hR (e.trans (zfh _).symm)]
   ·right;rw[<- zdl,<- zjx,<- zk3 hn hpl hR' (e.trans (by rw[zo2,zfh]))]
  ·rintro (e|e)
   ·have:=zgZ (e.trans (zdl _).symm);refine ⟨bs,by simp[arr],?_⟩;rw[this,zfh] at h;exact h
   ·have:=zgZ (e.trans (by rw[zjx,zdl]:(zaC bs.length).reverse=zaS (List.range bs.length).reverse));refine ⟨bs.reverse,by simp[arr],?_⟩;rw[this,zo2,zfh] at h;exact h
theorem zvt{α:Type}(l:List α)(j:Nat):zhj l none (some (j:Int))=l.take j:=by
 unfold zhj;rw[HT.sIx_nat,HT.sIx_none,List.drop_zero,Nat.sub_zero];rcases Nat.le_total j l.length with h|h
 ·rw[Nat.min_eq_left h]
 ·rw[Nat.min_eq_right h,List.take_of_length_le (Nat.le_refl _),List.take_of_length_le h]
theorem zmi{α:Type}(l:List α)(j:Nat):zhj l (some (j:Int)) none=l.drop j:=by
 unfold zhj;rw[HT.sIx_nat,HT.sIx_none];rcases Nat.le_total j l.length with h|h
 ·rw[Nat.min_eq_left h,List.take_of_length_le xws]
 ·rw[Nat.min_eq_right h,List.drop_of_length_le (Nat.le_refl _),List.drop_of_length_le h];simp
theorem ztc(l:List Int)(j:Nat):Dt.tup ((l.map .int).take j)=tz (l.take j):=by unfold tz;rw[List.map_take]
theorem zob(l:List Int)(j:Nat):Dt.tup ((l.map .int).drop j)=tz (l.drop j):=by unfold tz;rw[List.map_drop]
theorem zfV(l:List Int):okN 60 (tz l)=true:=by unfold tz;rw[okN,List.all_eq_true];intro d hd;obtain ⟨i,_,rfl⟩:=List.mem_map.mp hd;rfl
theorem zdJ(l:List Int):okN 60 (.lst (l.map .int))=true:=zqd l 59
theorem zqQ(a b:List Int):eqD (tz a) (tz b)=(a == b):=by unfold tz;rw[eqD,ziN]
theorem zm5(a b:List Int):eqD (.lst (a.map .int)) (.lst (b.map .int))=(a == b):=by rw[eqD,ziN]
noncomputable abbrev tC:DT:=dTB (dOp (gEq true) (zab 2) (zgD dA0))
noncomputable abbrev zut(j:Nat):De:=dOp gIx (dOp gIx (zab 0) (dC (.int 1))) (zab j)
noncomputable abbrev tLv(j:Nat):De:=zaj (zaO 8) (dR (zut j) dR0)
noncomputable abbrev zvv:DN:=zaY (zbH (dFn zcG (dA (dOp gIx (zab 0) (dC (.int 1))) dA0))) (zaU 6) (dTB (dOp (gIn false) (dOp gIx (zab 2) (dC (.int 0))) (tLv 6))) (zab 6) 1
noncomputable abbrev znP:DS:=zbc 4 (dOp gIx (dFz zvv) (dC (.int 0)))
noncomputable abbrev zoy:DS:=zbc 5 (dFn zcG (dA (tLv 4) dA0))
noncomputable abbrev zq3:De:=zf6 (zab 2) dO0 (dO1 (zab 5))
noncomputable abbrev zrR:DS:=dIf (zh1 (dTB (zqz false 3 (zab 4))) (dTB (dOp (gEq true) (dFz (zcV zc6 (dA zq3 dA0))) (dFz (zcV zbr (dA (tLv 4) dA0)))))) (zaV (dC (.bl false))) dNx
noncomputable abbrev ztB(F:FD):DS:=dIf (zb2 (dTB (zaj F (dR (zut 4) (dR zq3 dR0))))) (zaV (dC (.bl false))) dNx
noncomputable abbrev zjV(F:FD):DS:=zaw znP (zaw zoy (zaw zrR (zaw (ztB F) (zaw (dEx (zev 3 (zab 4))) (zbc 2 (zf6 (zab 2) (dO1 (zab 5)) dO0))))))
noncomputable abbrev tEnd:De:=dOr (dOp (gEq false) (dOp gIx (zab 0) (dC (.int 0))) (dC (.str (Str.ofString "any")))) (dOp (gIn false) (zd8 3) (zgD (dA (dFz (zcV zbr (dA (zd8 3) dA0))) (dA (dFz (zhk (dFz (zcV zbr (dA (zd8 3) dA0))))) dA0))))
theorem znT(F:FD):zbn F=zaw (dIf (dTB (zfQ "int" (zab 0))) (zaV (dOp (gEq false) (zab 1) (zgD (dA (zab 0) dA0)))) dNx) (zaw (zbc 2 (zab 1)) (zaw (zb6 3 (zbQ dA0)) (zaw (zbp tC (zjV F) 10) (zaV tEnd)))):=rfl
theorem zmd{c:DT}{body:DS}{n:Nat}{Z Z1 Z2:Ev}(h:c Z=.ok (true,Z1))(hb:body Z1=.ok (.nx,Z2)):zbp c body (n+1) Z=zbp c body n Z2:=by rw[zbp,h];simp only[R.bind_ok,if_true,hb]
theorem zlF{c:DT}{body:DS}{n:Nat}{Z Z1 Z2:Ev}{d:Dt}(h:c Z=.ok (true,Z1))(hb:body Z1=.ok (.rt d,Z2)):zbp c body (n+1) Z=.ok (.rt d,Z2):=by rw[zbp,h];simp only[R.bind_ok,if_true,hb]
theorem zod{c:DT}{body:DS}{n:Nat}{Z Z1:Ev}(h:c Z=.ok (false,Z1)):zbp c body (n+1) Z=.ok (.nx,Z1):=by rw[zbp,h];simp only[R.bind_ok,Bool.false_eq_true,if_false]
theorem zeN{g:List Dt->R (List Dt)}{f:De}{Z Z1:Ev}{d:Dt}{z:List Dt}(h:f Z=.ok (d,Z1))(hg:g [d]=.ok z):zcV g (dA f dA0) Z=.ok (z,Z1):=by unfold zcV dA dA0;rw[h];simp only[R.bind_ok,hg]
theorem zlD{l:List Int}(h:l.length<64):zc6 [tz l]=.ok ((zaB l).map .int):=by unfold zc6 tz;simp only[ziy,h,if_true]
theorem zgc{l:List Int}(h:l.length<64):zbr [.lst (l.map .int)]=.ok ((zaB l).map .int):=by unfold zbr;simp only[ziy,h,if_true]
structure Nod(r:Bool)(bs:List Tr):Prop where
 A:zfs bs
 d:∀ b∈bs,dep b<=8
 k:bs.length<=6
 l:(zak bs).length<=6
theorem zo3{r:Bool}{bs:List Tr}{Z:Ev}{i j:Nat}{b:Tr}(h:zab 0 Z=.ok (toD (.nd r bs),Z))(hj:zab j Z=.ok (.int (i:Nat),Z))(hb:bs[i]? = some b):zut j Z=.ok (toD b,Z):=by have hi:=(wam.mp hb).1;refine zav (zhW h) hj (ztl (v:=(i:Nat)) xwo (by rw[zdk,List.length_map];omega) ?_);rw[Int.toNat_natCast,zdk,List.getElem?_map,hb];rfl
theorem zoB{r:Bool}{bs:List Tr}{Z:Ev}{i j:Nat}{b:Tr}(N:Nod r bs)(h:zab 0 Z=.ok (toD (.nd r bs),Z))(hj:zab j Z=.ok (.int (i:Nat),Z))(hb:bs[i]? = some b):tLv j Z=.ok (.lst ((zac b).map .int),Z):=by have hm:=waH hb;exact zde (zo3 h hj hb) (zgC 8 b (N.d b hm) (by have:=zcU hm;have:=N.l;omega))
theorem zol{r:Bool}{bs:List Tr}{g:Int}{l:List Int}{R3 o3 o4 o5:Option B}(N:Nod r bs)(hg:g∈zak bs):∃ i b,bs[i]? = some b/\g∈zac b /\
  znP [some (.val (toD (.nd r bs))),R3,some (.val (tz (g::l))),o3,o4,o5]=.ok (.nx,[some (.val (toD (.nd r bs))),R3,some (.val (tz (g::l))),o3,some (.val (.int (i:Nat))),o5]):=by
 let Z:Ev:=[some (.val (toD (.nd r bs))),R3,some (.val (tz (g::l))),o3,o4,o5]
 have hv:zab 0 Z=.ok (toD (.nd r bs),Z):=rfl;have hlen:dFn zcG (dA (dOp gIx (zab 0) (dC (.int 1))) dA0) Z=.ok (.int (bs.length:Nat),Z):=zdd (zhW hv) (by show R.ok (Dt.int ((zkt bs).length:Nat))=_;rw[zdk,List.length_map]);let p:Nat->Bool:=λi=>match bs[i]? with
  |some b=>decide (g∈zac b)
  |none=>false
 have hc:zvv Z=.ok (((List.range bs.length).filter p).map λi:Nat=>Dt.int i,Z):=by
  refine zfA (u:=λi:Nat=>Dt.int i) (l:=List.range bs.length) (zjs hlen (by have:=N.k;omega)) rfl rfl (by rw[List.length_range];have:=N.k;omega) (λi hi=>?_) λi hi _=>?_
  ·have hi':=List.mem_range.mp hi;have e:bs[i]? = some bs[i]:=wac hi';have a0:zab 0 (Z++[some (.val (.int (i:Nat)))])=.ok (toD (.nd r bs),Z++[some (.val (.int (i:Nat)))]):=rfl;have a6:zab 6 (Z++[some (.val (.int (i:Nat)))])=.ok (.int (i:Nat),Z++[some (.val (.int (i:Nat)))]):=rfl;have a2:dOp gIx (zab 2) (dC (.int 0)) (Z++[some (.val (.int (i:Nat)))])=.ok (.int g,Z++[some (.val (.int (i:Nat)))]):=zav (d:=tz (g::l)) (Z1:=Z++[some (.val (.int (i:Nat)))]) rfl rfl (by unfold gIx tz;rw[List.map_cons];simp only[zi1]);refine zaG (zav a2 (zoB N a0 a6 e) ?_);rw[(zjm rfl zin).2,zi5];show _=PV.R.ok (Dt.bl (match bs[i]? with|some b=>decide (g∈zac b)|none=>false));rw[e];rfl
  ·rfl
 obtain ⟨b,hb,gb⟩:=zaP.mp hg;obtain ⟨k,hk,ek⟩:=List.mem_iff_getElem.mp hb;have hkp:k∈(List.range bs.length).filter p:=by refine List.mem_filter.mpr ⟨List.mem_range.mpr hk,?_⟩;show (match bs[k]? with|some b=>decide (g∈zac b)|none=>false)=true;rw[List.getElem?_eq_getElem hk,ek];exact wat gb
 obtain ⟨i,zbq,ei⟩:=waI (List.ne_nil_of_mem hkp);have hi:i∈(List.range bs.length).filter p:=by rw[ei];exact wau
 obtain ⟨h1,h2⟩:=List.mem_filter.mp hi;have hil:=List.mem_range.mp h1;have h2':(match bs[i]? with|some b=>decide (g∈zac b)|none=>false)=true:=h2;rw[List.getElem?_eq_getElem hil] at h2';refine ⟨i,bs[i],wac hil,of_decide_eq_true h2',?_⟩;rw[ei] at hc;exact zbj (Z1:=Z) (zav (zaQ hc) rfl (by unfold gIx;rw[List.map_cons];simp only[zi1])) (by simp[Z])
theorem zpL{a b:List Int}(h:a.Perm b):zaB a=zaB b:=W.lks_uniq ((za9 a).trans (h.trans (za9 b).symm)) (zco a) (zco b)
theorem zm1{a b:List Int}(h:zaB a=zaB b):a.Perm b:=(za9 a).symm.trans (by rw[h];exact za9 b)
theorem zqT{i:Nat}{pl:List Nat}:((i:Int)∈zaS pl) ↔ i∈pl:=by unfold zaS;rw[List.mem_map];exact ⟨λ⟨j,hj,e⟩=>by rw[<- Int.ofNat_inj.mp e];exact hj,λh=>⟨i,h,rfl⟩⟩
section
variable{r:Bool}{bs:List Tr}{F:FD}{R:Option B}
theorem zpV{g:Int}{l:List Int}{pl:List Nat}{i:Nat}{b:Tr}{o5:Option B}(N:Nod r bs)(hl:(g::l).length<=6)(hb:bs[i]? = some b)(hpl:i∉pl)(Z2:Ev)(e2:Z2=[some (.val (toD (.nd r bs))),R,some (.val (tz (g::l))),some (.own ((zaS pl).map .int)),some (.val (.int (i:Nat))),some (.val (.int ((zac b).length:Nat)))]) :
  zoy [some (.val (toD (.nd r bs))),R,some (.val (tz (g::l))),some (.own ((zaS pl).map .int)),some (.val (.int (i:Nat))),o5]=.ok (.nx,Z2) /\
  zh1 (dTB (zqz false 3 (zab 4))) (dTB (dOp (gEq true) (dFz (zcV zc6 (dA zq3 dA0))) (dFz (zcV zbr (dA (tLv 4) dA0))))) Z2=.ok (!(zaB ((g::l).take (zac b).length) == zaB (zac b)),Z2) /\
  zq3 Z2=.ok (tz ((g::l).take (zac b).length),Z2)/\zf6 (zab 2) (dO1 (zab 5)) dO0 Z2=.ok (tz ((g::l).drop (zac b).length),Z2):=by
 subst e2;let Z2:Ev:=[some (.val (toD (.nd r bs))),R,some (.val (tz (g::l))),some (.own ((zaS pl).map .int)),some (.val (.int (i:Nat))),some (.val (.int ((zac b).length:Nat)))]
 let Z1:Ev:=[some (.val (toD (.nd r bs))),R,some (.val (tz (g::l))),some (.own ((zaS pl).map .int)),some (.val (.int (i:Nat))),o5]
 have hbl:(zac b).length<=6:=by have:=zcU (waH hb);have:=N.l;omega
 have a2:zab 2 Z2=.ok (tz (g::l),Z2):=rfl;have a5:zab 5 Z2=.ok (.int ((zac b).length:Nat),Z2):=rfl;have a4:zab 4 Z2=.ok (.int (i:Nat),Z2):=rfl;have hpre:zq3 Z2=.ok (tz ((g::l).take (zac b).length),Z2):=by refine (zkM a2 rfl (zs1 a5)).trans ?_;rw[zvt,ztc]
 refine ⟨?_,?_,hpre,?_⟩
 ·have e:=zdd (g:=zcG) (z:=.int ((zac b).length:Nat)) (zoB (j:=4) (Z:=Z1) N rfl rfl hb) (by show PV.R.ok (Dt.int (((zac b).map Dt.int).length:Nat))=_;rw[List.length_map]);exact zbj e (by simp[Z1])
 ·have c1:dTB (zqz false 3 (zab 4)) Z2=.ok (false,Z2):=by refine zaG ?_;unfold zqz;rw[a4];show ((gIn false (.int (i:Nat)) (.lst ((zaS pl).map .int))).bind λz=>PV.R.ok (z,Z2))=_;rw[(zjm rfl zin).2,zi5];have:decide ((i:Int)∈zaS pl)=false:=waw λz=>hpl (zqT.mp z);rw[this];rfl
  have c2:dTB (dOp (gEq true) (dFz (zcV zc6 (dA zq3 dA0))) (dFz (zcV zbr (dA (tLv 4) dA0)))) Z2=.ok (!(zaB ((g::l).take (zac b).length) == zaB (zac b)),Z2):=by
   refine zaG (zav (zaQ (zeN hpre (zlD ?_))) (zaQ (zeN (zoB (j:=4) N rfl rfl hb) (zgc xwo))) ?_)
   ·rw[List.length_take];omega
   ·rw[zbC (zdJ _) (zdJ _),zm5];rfl
  rw[show zh1 _ _ Z2=_ from zjk c1];exact c2
 ·refine (zkM a2 (zs1 a5) rfl).trans ?_;rw[zmi,zob]
theorem zpa{T o3 o4 o5:Option B}(left:List Int):tC [T,R,some (.val (tz left)),o3,o4,o5]=.ok (!left.isEmpty,[T,R,some (.val (tz left)),o3,o4,o5]):=by
 let Z:Ev:=[T,R,some (.val (tz left)),o3,o4,o5]
 have a2:zab 2 Z=.ok (tz left,Z):=rfl;have a0:zgD dA0 Z=.ok (tz [],Z):=rfl;refine zaG (zav a2 a0 ?_);rw[zbC (zfV _) (zfV _),zqQ];cases left <;> rfl
theorem zjv(N:Nod r bs)(IH:∀ b∈bs,∀ x:List Int,x.Perm (zac b)->F [.val (toD b),.val (tz x)]=.ok (.bl (decide (x∈zaz b)),[.val .non,.val .non])) :
  ∀(f:Nat)(left:List Int)(pl:List Nat)(o4 o5:Option B),left.length<f->left.length<=6->left.Nodup->(∀ g∈left,g∈zak bs)->(∀ i∈pl,∀ b,bs[i]? = some b->∀ g∈zac b,g∉left)->pl.length+left.length<=10 ->
   (∃ a2 a3 a4 a5,zbp tC (zjV F) f [some (.val (toD (.nd r bs))),R,some (.val (tz left)),some (.own ((zaS pl).map .int)),o4,o5]=.ok (.rt (.bl false),[some (.val (toD (.nd r bs))),R,a2,a3,a4,a5])/\¬ ∃ q,(∀ t∈q,t∈bs)/\zks left q) \/
   (∃ pl' a4 a5,zbp tC (zjV F) f [some (.val (toD (.nd r bs))),R,some (.val (tz left)),some (.own ((zaS pl).map .int)),o4,o5]=.ok (.nx,[some (.val (toD (.nd r bs))),R,some (.val (tz [])),some (.own ((zaS (pl++pl')).map .int)),a4,a5])/\(∀ i∈pl',i<bs.length)/\zks left (sel bs pl'))
 |0,left,pl,o4,o5,h,_,_,_,_,_=>by omega
 |f+1,[],pl,o4,o5,_,_,_,_,_,_=>by right;refine ⟨[],o4,o5,?_,xws,[],.nil,rfl⟩;rw[List.append_nil];exact zod (zpa [])
 |f+1,g::l,pl,o4,o5,hf,h6,hn,hin,hpl,h10=>by
  obtain ⟨i,b,hb,gb,e1⟩:=zol (r:=r) (bs:=bs) (g:=g) (l:=l) (R3:=R) (o3:=some (.own ((zaS pl).map .int))) (o4:=o4) (o5:=o5) N (hin g wau);have hbm:=waH hb;have hi:=(wam.mp hb).1;have hip:i∉pl:=λz=>hpl i z b hb g gb wau;have hne:zac b≠[]:=N.A.ne b hbm;have hm1:1<=(zac b).length:=Nat.pos_of_ne_zero λz=>hne (List.length_eq_zero_iff.mp z);let T:Option B:=some (.val (toD (.nd r bs)));let Z2:Ev:=[T,R,some (.val (tz (g::l))),some (.own ((zaS pl).map .int)),some (.val (.int (i:Nat))),some (.val (.int ((zac b).length:Nat)))]
  obtain ⟨e2,e3,e4,e5⟩:=zpV (r:=r) (R:=R) (g:=g) (l:=l) (pl:=pl) (o5:=o5) N h6 hb hip Z2 rfl;have hc:=zpa (R:=R) (T:=T) (o3:=some (.own ((zaS pl).map .int))) (o4:=o4) (o5:=o5) (g::l);have hkid:zut 4 Z2=.ok (toD b,Z2):=zo3 (r:=r) rfl rfl hb;by_cases hp:((g::l).take (zac b).length).Perm (zac b)
  ·have e3':zh1 (dTB (zqz false 3 (zab 4))) (dTB (dOp (gEq true) (dFz (zcV zc6 (dA zq3 dA0))) (dFz (zcV zbr (dA (tLv 4) dA0))))) Z2=.ok (false,Z2):=by rw[e3,zpL hp];simp
   have hcall:zaj F (dR (zut 4) (dR zq3 dR0)) Z2=.ok (.bl (decide ((g::l).take (zac b).length∈zaz b)),Z2):=zeZ hkid e4 (IH b hbm _ hp);by_cases hr:(g::l).take (zac b).length∈zaz b
   ·rw[decide_eq_true hr] at hcall;have hlen:pl.length+1<=10:=by simp only[wan] at h10;omega
    have hbody:zjV F [T,R,some (.val (tz (g::l))),some (.own ((zaS pl).map .int)),o4,o5]=.ok (.nx,[T,R,some (.val (tz ((g::l).drop (zac b).length))),some (.own ((zaS (pl++[i])).map .int)),some (.val (.int (i:Nat))),some (.val (.int ((zac b).length:Nat)))]):=by
     let Z3:Ev:=[T,R,some (.val (tz (g::l))),some (.own ((zaS (pl++[i])).map .int)),some (.val (.int (i:Nat))),some (.val (.int ((zac b).length:Nat)))]
     have y1:dEx (zev 3 (zab 4)) Z2=.ok (.nx,Z3):=by
      have:=zrH (i:=3) (fa:=zab 4) (Z:=Z2) (Z1:=Z2) (l0:=(zaS pl).map .int) (ds:=(zaS pl).map .int) (d:=.int (i:Nat)) rfl rfl rfl (by unfold zaS;rw[List.length_map,List.length_map];omega);refine (zfa this).trans ?_;show PV.R.ok (Fl.nx,[T,R,_,some (B.own ((zaS pl).map Dt.int++[Dt.int (i:Nat)])),_,_])=_;have:(zaS (pl++[i])).map Dt.int=(zaS pl).map Dt.int++[Dt.int (i:Nat)]:=by unfold zaS;simp
      rw[show Z3=[T,R,some (.val (tz (g::l))),some (.own ((zaS (pl++[i])).map .int)),some (.val (.int (i:Nat))),some (.val (.int ((zac b).length:Nat)))] from rfl,this]
     have a2:zab 2 Z3=.ok (tz (g::l),Z3):=rfl;have a5:zab 5 Z3=.ok (.int ((zac b).length:Nat),Z3):=rfl;have y2:zf6 (zab 2) (dO1 (zab 5)) dO0 Z3=.ok (tz ((g::l).drop (zac b).length),Z3):=by refine (zkM a2 (zs1 a5) rfl).trans ?_;rw[zmi,zob]
     rw[show zjV F=zaw znP (zaw zoy (zaw zrR (zaw (ztB F) (zaw (dEx (zev 3 (zab 4))) (zbc 2 (zf6 (zab 2) (dO1 (zab 5)) dO0)))))) from rfl,zaf e1,zaf e2,zaf (Z1:=Z2) (by rw[show zrR Z2=_ from zbU e3'];rfl),zaf (Z1:=Z2) (by rw[show ztB F Z2=_ from zbU (zcf (zaG hcall))];rfl),zaf y1];exact zbj y2 (by simp[Z3])
    have htd:((g::l).take (zac b).length++(g::l).drop (zac b).length).Nodup:=by rw[List.take_append_drop];exact hn
    rw[List.nodup_append] at htd;have hdl:((g::l).drop (zac b).length).length+1<=(g::l).length:=by rw[List.length_drop];simp only[wan] at *;omega
    have hsub:∀ x∈(g::l).drop (zac b).length,x∈g::l:=λx hx=>List.mem_of_mem_drop hx;rcases zjv N IH f ((g::l).drop (zac b).length) (pl++[i]) (some (.val (.int (i:Nat)))) (some (.val (.int ((zac b).length:Nat)))) xwo xwo htd.2.1 (λx hx=>hin x (hsub x hx)) (λj hj c hc x hx z=>by
      rcases wax.mp hj with hj|hj
      ·exact hpl j hj c hc x hx (hsub x z)
      ·rw[List.mem_singleton] at hj;subst hj;rw[hb] at hc;cases hc;exact htd.2.2 x (hp.mem_iff.mpr hx) x z rfl) (by rw[List.length_append];simp only[wan,List.length_nil] at *;omega) with ⟨a2,a3,a4,a5,ew,hno⟩|⟨pl',a4,a5,ew,h1,h2⟩
    ·left;refine ⟨a2,a3,a4,a5,(zmd hc hbody).trans ew,λ⟨q,hq,hM⟩=>?_⟩;obtain ⟨q',rfl,_,h3⟩:=zgI N.A hq hbm gb hM;exact hno ⟨q',λt ht=>hq t (wah _ ht),h3⟩
    ·right;refine ⟨i::pl',a4,a5,(zmd hc hbody).trans ?_,λj hj=>?_,?_⟩
     ·rw[ew,List.append_assoc];rfl
     ·rcases wap.mp hj with rfl|hj
      ·exact hi
      ·exact h1 j hj
     ·rw[zcM hb];exact zpl hr h2
   ·left;rw[decide_eq_false hr] at hcall;refine ⟨_,_,_,_,zlF hc (Z2:=Z2) ?_,λ⟨q,hq,hM⟩=>?_⟩
    ·rw[show zjV F=zaw znP (zaw zoy (zaw zrR (zaw (ztB F) (zaw (dEx (zev 3 (zab 4))) (zbc 2 (zf6 (zab 2) (dO1 (zab 5)) dO0)))))) from rfl,zaf e1,zaf e2,zaf (Z1:=Z2) (by rw[show zrR Z2=_ from zbU e3'];rfl)];exact zcv (by rw[show ztB F Z2=_ from zdG (zcf (zaG hcall))];rfl)
    ·obtain ⟨q',rfl,h3,_⟩:=zgI N.A hq hbm gb hM;exact hr h3
  ·left;have e3':zh1 (dTB (zqz false 3 (zab 4))) (dTB (dOp (gEq true) (dFz (zcV zc6 (dA zq3 dA0))) (dFz (zcV zbr (dA (tLv 4) dA0))))) Z2=.ok (true,Z2):=by have:(zaB ((g::l).take (zac b).length) == zaB (zac b))=false:=beq_false_of_ne λz=>hp (zm1 z);rw[e3,this];rfl
   refine ⟨_,_,_,_,zlF hc (Z2:=Z2) ?_,λ⟨q,hq,hM⟩=>?_⟩
   ·rw[show zjV F=zaw znP (zaw zoy (zaw zrR (zaw (ztB F) (zaw (dEx (zev 3 (zab 4))) (zbc 2 (zf6 (zab 2) (dO1 (zab 5)) dO0)))))) from rfl,zaf e1,zaf e2];exact zcv (by rw[show zrR Z2=_ from zdG e3'];rfl)
   ·obtain ⟨q',rfl,h3,_⟩:=zgI N.A hq hbm gb hM;exact hp (zaE h3)
end
theorem zow{r:Bool}{bs:List Tr}{R a2 a4 a5:Option B}{P:List Int}(hl:P.length<64):∃ a3,tEnd [some (.val (toD (.nd r bs))),R,a2,some (.own (P.map .int)),a4,a5]=.ok (.bl (!r || (zaB P == P || (zaB P).reverse == P)),[some (.val (toD (.nd r bs))),R,a2,a3,a4,a5]):=by
 let Z:Ev:=[some (.val (toD (.nd r bs))),R,a2,some (.own (P.map .int)),a4,a5]
 let Z1:Ev:=[some (.val (toD (.nd r bs))),R,a2,some (.val (.lst (P.map .int))),a4,a5]
 have hv:zab 0 Z=.ok (toD (.nd r bs),Z):=rfl;cases r with
 |false =>
  refine ⟨some (.own (P.map .int)),?_⟩;show dOr _ _ Z=_;unfold dOr;rw[zoQ hv];rfl
 |true =>
  refine ⟨some (.val (.lst (P.map .int))),?_⟩;show dOr _ _ Z=_;unfold dOr;rw[zoQ hv];have u0:zd8 3 Z=.ok (.lst (P.map .int),Z1):=rfl;have u1:zd8 3 Z1=.ok (.lst (P.map .int),Z1):=rfl;have s1:dFz (zcV zbr (dA (zd8 3) dA0)) Z1=.ok (.lst ((zaB P).map .int),Z1):=zaQ (zeN u1 (zgc hl));have s2:dFz (zhk (dFz (zcV zbr (dA (zd8 3) dA0)))) Z1=.ok (.lst ((zaB P).reverse.map .int),Z1):=by refine zaQ ?_;unfold zhk;rw[s1];simp only[PV.R.bind_ok];rw[List.map_reverse]
  have s3:zgD (dA (dFz (zcV zbr (dA (zd8 3) dA0))) (dA (dFz (zhk (dFz (zcV zbr (dA (zd8 3) dA0))))) dA0)) Z1=.ok (.tup [.lst ((zaB P).map .int),.lst ((zaB P).reverse.map .int)],Z1):=zrM (zpT s1 (zpT s2 rfl)) xws;have:=zav (g:=gIn false) u0 s3 (zjm (neg:=false) (zdJ P) (λd hd=>by
   simp only[wap,wak,or_false] at hd;rcases hd with rfl|rfl
   ·exact zdJ _
   ·exact zdJ _)).1
  simp only[PV.R.bind_ok,Bool.not_true,Bool.false_or];refine this.trans ?_;have:inD (.lst (P.map .int)) [.lst ((zaB P).map .int),.lst ((zaB P).reverse.map .int)]=(zaB P == P || (zaB P).reverse == P):=by unfold inD;rw[List.any_cons,List.any_cons,List.any_nil,zm5,zm5,Bool.or_false]
  rw[this];rfl
theorem ztA{F:FD}{r:Bool}{bs:List Tr}{row:List Int}(N:Nod r bs)(IH:∀ b∈bs,∀ x:List Int,x.Perm (zac b)->F [.val (toD b),.val (tz x)]=.ok (.bl (decide (x∈zaz b)),[.val .non,.val .non]))(hr:row.Perm (zak bs)) :
  zax false [false,false] 4 (zbn F) [.val (toD (.nd r bs)),.val (tz row)]=.ok (.bl (decide (row∈zaz (.nd r bs))),[.val .non,.val .non]):=by
 let T:Option B:=some (.val (toD (.nd r bs)));let R:Option B:=some (.val (tz row));let Z0:Ev:=[T,R,none,none,none,none]
 let Z1:Ev:=[T,R,R,none,none,none]
 let Z2:Ev:=[T,R,R,some (.own []),none,none]
 have hrl:row.length<=6:=by rw[hr.length_eq];exact N.l
 have x0:dIf (dTB (zfQ "int" (zab 0))) (zaV (dOp (gEq false) (zab 1) (zgD (dA (zab 0) dA0)))) dNx Z0=.ok (.nx,Z0):=by
  have:dTB (zfQ "int" (zab 0)) Z0=.ok (false,Z0):=by refine zaG ?_;unfold zfQ;rw[show zab 0 Z0=.ok (toD (.nd r bs),Z0) from rfl,toD];rfl
  rw[zbU this];rfl
 rcases zjv (r:=r) (F:=F) (R:=R) N IH 10 row [] none none xwo hrl (hr.symm.nodup N.A.nd) (λg hg=>hr.mem_iff.mp hg) (λi hi=>by cases hi) (by simp;omega) with ⟨a2,a3,a4,a5,ew,hno⟩|⟨pl',a4,a5,ew,h1,h2⟩
 ·have hf:decide (row∈zaz (.nd r bs))=false:=waw λz=>by obtain ⟨p,hp,hm⟩:=zeq.mp z;exact hno ⟨p,λt ht=>(zbx hp).mem_iff.mp ht,hm⟩
  rw[hf];refine zap (Z':=[T,R,a2,a3,a4,a5]) rfl ?_ rfl;show zbn F Z0=_;rw[znT,zaf x0,zaf (Z1:=Z1) rfl,zaf (Z1:=Z2) rfl];exact zcv ew
 ·rw[List.nil_append] at ew;have hpl:(zaS pl').length<64:=by have:=(zj0 h2).length_eq;have h3:=ziJ N.A (λt=>ziD) hr h2;have:=h3.length_eq;rw[zlj h1] at this;unfold zaS;rw[List.length_map];have:=N.k;omega
  obtain ⟨a3,ee⟩:=zow (r:=r) (bs:=bs) (R:=R) (a2:=some (.val (tz []))) (a4:=a4) (a5:=a5) (P:=zaS pl') hpl;have hval:(!r || (zaB (zaS pl') == zaS pl' || (zaB (zaS pl')).reverse == zaS pl'))=decide (row∈zaz (.nd r bs)):=by
   cases r with
   |false =>
    rw[decide_eq_true (zrV N.A hr h1 h2)];rfl
   |true =>
    obtain ⟨h3,h4⟩:=zsV N.A hr h1 h2;rw[h3,Bool.eq_iff_iff];simp only[Bool.not_true,Bool.false_or,Bool.or_eq_true,beq_iff_eq,war,h4];exact ⟨λh=>h.elim (λe=>.inl e.symm) λe=>.inr e.symm,λh=>h.elim (λe=>.inl e.symm) λe=>.inr e.symm⟩
  rw[hval] at ee;refine zap (Z':=[T,R,some (.val (tz [])),a3,a4,a5]) rfl ?_ rfl;show zbn F Z0=_;have ew2:zbp tC (zjV F) 10 Z2=.ok (.nx,[T,R,some (.val (tz [])),some (.own ((zaS pl').map .int)),a4,a5]):=ew;rw[znT,zaf x0,zaf (Z1:=Z1) rfl,zaf (Z1:=Z2) rfl,zaf ew2];exact zb1 ee
theorem zno:∀(n:Nat)(t:Tr),dep t<=n->dep t<=8->okT t=true->(zac t).Nodup->(zac t).length<=6->∀ row:List Int,row.Perm (zac t)->zbl n [.val (toD t),.val (tz row)]=.ok (.bl (decide (row∈zaz t)),[.val .non,.val .non])
 |0,t,h,_,_,_,_=>by cases t <;> simp[dep] at h
 |n+1,.lf g,_,_,_,_,_=>λrow hr=>by
  let Z:Ev:=[some (.val (.int g)),some (.val (tz row)),none,none,none,none]
  refine zap (Z':=Z) rfl ?_ rfl;rw[toD];show zbn _ Z=_;rw[znT];have a1:zab 1 Z=.ok (tz row,Z):=rfl;have a0:zgD (dA (zab 0) dA0) Z=.ok (tz [g],Z):=rfl;refine zcv ?_;rw[zdG (Z1:=Z) (zaG rfl)];refine zb1 (zav a1 a0 ?_);rw[zbC (zfV _) (zfV _),zqQ,zaz];congr 2;rw[Bool.eq_iff_iff];simp
 |n+1,.nd r bs,h,h8,ho,hn,h6=>λrow hr=>by
  have hh:=zcL h ho hn;have hd8:∀ b∈bs,dep b<=8:=λb hb=>by simp only[dep] at h8;have:=zdN.mp (wal (ziY bs)) b hb;omega
  have hsub:∀ b∈bs,(zac b).length<=6:=λb hb=>by have:=zcU hb;rw[zac] at h6;omega
  have hk:bs.length<=6:=by have:=zil bs (wal _) (by rw[okT,Bool.and_eq_true] at ho;exact ho.2);rw[zac] at h6;omega
  rw[zac] at hr h6;exact ztA (F:=zbl n) ⟨hh.1,hd8,hk,h6⟩ (λb hb x hx=>zno n b (hh.2 b hb).1 (hd8 b hb) (hh.2 b hb).2.1 (hh.2 b hb).2.2 (hsub b hb) x hx) hr
theorem zrQ{t:Tr}{rs:List (List Int)}(hd:dep t<=8)(ho:okT t=true)(hn:(zac t).Nodup)(h6:(zac t).length<=6)(hl:rs.length<=1000)(hr:∀ r∈rs,r.Perm (zac t)) :
  zb7 [.val (toD t),.val (.lst (lp rs))]=.ok (.lst (lp (rs.filter λr=>decide (r∈zaz t))),[.val .non,.val .non]):=by
 let Z:Ev:=[some (.val (toD t)),some (.val (.lst (lp rs)))]
 refine zap (Z':=Z) rfl ?_ rfl;show zaV (dFz (zaY (dIt (zab 1)) (zaU 2) (dTB (zaj (zbl 8) (dR (zab 0) (dR (zab 2) dR0)))) (zab 2) 1)) Z=_;refine zb1 (zaQ ?_);refine (zfA (u:=tz) (f:=tz) (p:=λr=>decide (r∈zaz t)) (l:=rs) (ds:=lp rs) rfl rfl rfl xwo (λr hr'=>?_) λr hr' _=>rfl).trans rfl;have a0:zab 0 (Z++[some (.val (tz r))])=.ok (toD t,Z++[some (.val (tz r))]):=rfl;have a2:zab 2 (Z++[some (.val (tz r))])=.ok (tz r,Z++[some (.val (tz r))]):=rfl;exact zaG (zeZ a0 a2 (zno 8 t hd hd ho hn h6 r (hr r hr')))
theorem zl3{u x v a y b:List Int}(hn:(u++x++v).Nodup)(e:u++x++v=a++y++b)(hy:∀ g∈y,g∈x)(hne:y≠[]):∃ a' b',x=a'++y++b':=by
 rw[List.append_assoc,List.nodup_append] at hn;obtain ⟨_,hxv,hux⟩:=hn;rw[List.nodup_append] at hxv;have main:∀ c,x++v=c++(y++b)->∃ a' b',x=a'++y++b':=λc h=>by
  rw[<- List.append_assoc] at h;rcases List.append_eq_append_iff.mp h with ⟨w,h1,h2⟩|⟨w,h1,h2⟩
  ·by_cases hw:w=[]
   ·subst hw;rw[List.append_nil] at h1;exact ⟨c,[],by rw[List.append_nil,h1]⟩
   ·exfalso;have e1:=List.dropLast_concat_getLast hne;have e2:=List.dropLast_concat_getLast hw;rw[<- e1,<- e2,<- List.append_assoc,<- List.append_assoc] at h1;have e3:=(List.append_inj' h1 rfl).2;have e4:y.getLast hne=w.getLast hw:=(List.cons.inj e3).1;have hin:w.getLast hw∈v:=by rw[h2];exact waR _ (List.getLast_mem hw)
    exact hxv.2.2 _ (hy _ (List.getLast_mem hne)) _ hin e4
  ·exact ⟨c,w,h1⟩
 rw[List.append_assoc,List.append_assoc] at e;rcases List.append_eq_append_iff.mp e with ⟨c,_,h2⟩|⟨c,h1,h2⟩
 ·exact main c h2
 ·cases c with
  |nil=>exact main [] (by rw[List.nil_append] at h2 ⊢;exact h2.symm)
  |cons g c =>
   exfalso;obtain ⟨z,y',rfl⟩:=waI hne;have eg:z=g:=by simp only[List.cons_append] at h2;exact (List.cons.inj h2).1
   subst eg;have:z∈u:=by rw[h1];exact waz _ wau
   exact hux z this z (waR _ (hy z wau)) rfl
theorem zma:∀(n:Nat)(rem:List Tr)(x:List Int),rem.length=n->zfs rem->x.Perm (zak rem)->(∀ b∈rem,∃ a y c,x=a++y++c/\y∈zaz b)->∃ p,p.Perm rem/\zks x p
 |0,rem,x,h,_,hx,_=>by have:rem=[]:=List.length_eq_zero_iff.mp h;subst this;rw[zak] at hx;rw[hx.eq_nil];exact ⟨[],.refl _,[],.nil,rfl⟩
 |n+1,rem,x,h,A,hx,H=>by
  have hxn:x.Nodup:=hx.symm.nodup A.nd;have hne:x≠[]:=λz=>by
   subst z;obtain ⟨b,r,rfl⟩ : ∃ b r,rem=b::r:=waI λz=>by subst z;simp at h
   have:=hx.symm.eq_nil;rw[zak] at this;exact A.ne b wau (List.append_eq_nil_iff.mp this).1
  obtain ⟨g,x',rfl⟩:=waI hne;obtain ⟨b,hb,gb⟩:=zaP.mp (hx.mem_iff.mp wau);obtain ⟨a,y,c,e,hy⟩:=H b hb;have hyp:=zaE hy;have ha:a=[]:=by
   cases a with
   |nil=>rfl
   |cons z a =>
    exfalso;have ez:g=z:=by simp only[List.cons_append] at e;exact (List.cons.inj e).1
    subst ez;rw[e,List.append_assoc,List.nodup_append] at hxn;exact hxn.2.2 g wau g (waR _ (hyp.mem_iff.mpr gb)) rfl
  subst ha;rw[List.nil_append] at e;obtain ⟨s,t,rfl⟩:=List.append_of_mem hb;have pm:(s++b::t).Perm (b::(s++t)):=List.perm_middle;have hc:c.Perm (zak (s++t)):=by
   have h1:(y++c).Perm (zac b++zak (s++t)):=by rw[<- e];have:=hx.trans (zdM pm);rw[zak] at this;exact this
   exact (List.perm_append_left_iff y).mp (h1.trans (hyp.symm.append_right _))
  have hA:zfs (s++t):=by have:=(zdM pm).nodup A.nd;rw[zak,List.nodup_append] at this;exact ⟨this.2.1,λu hu=>A.ne u (pm.mem_iff.mpr (wah _ hu))⟩
  obtain ⟨p,hp,hM⟩:=zma n (s++t) c (by have:=pm.length_eq;simp only[wan] at this;omega) hA hc λu hu=>by obtain ⟨a',y',c',e',hy'⟩:=H u (pm.mem_iff.mpr (wah _ hu));have hyp':=zaE hy';obtain ⟨a2,c2,e2⟩:=zl3 (u:=y) (x:=c) (v:=[]) (a:=a') (y:=y') (b:=c') (by rw[List.append_nil,<- e];exact hxn) (by rw[List.append_nil,<- e];exact e') (λz hz=>hc.mem_iff.mpr (zaP.mpr ⟨u,hu,hyp'.mem_iff.mp hz⟩)) (λz=>hA.ne u hu (by subst z;exact hyp'.symm.eq_nil));exact ⟨a2,y',c2,e2,hy'⟩
  refine ⟨b::p,(hp.cons b).trans pm.symm,?_⟩;obtain ⟨ys,h1,h2⟩:=hM;exact ⟨y::ys,.cons hy h1,by rw[List.flatten_cons,h2,e]⟩
theorem zr2{s a y c:List Int}{g:Int}(hn:s.Nodup)(e:s=a++y++c)(hg:g∈y):a.length<=s.idxOf g/\s.idxOf g<a.length+y.length:=by subst e;rw[List.append_assoc,List.nodup_append] at hn;have hga:g∉a:=λz=>hn.2.2 g z g (waR _ hg) rfl;rw[List.append_assoc,List.idxOf_append,if_neg hga,List.idxOf_append,if_pos hg];have:=List.idxOf_lt_length_of_mem hg;omega
theorem zfG{f:Tr->Int}:∀{p:List Tr}{ys:List (List Int)}{s u v:List Int},s.Nodup->s=u++ys.flatten++v->Paired (λy t=>y∈zaz t) ys p->(∀ b∈p,f b∈zac b)->(p.map λb=>((s.idxOf (f b):Nat):Int)).Pairwise (· < ·)/\∀ b∈p,u.length<=s.idxOf (f b)
 |[],_,s,u,v,_,_,.nil,_=>⟨.nil,xws⟩
 |b::p,y::ys,s,u,v,hn,e,.cons h t,hf=>by
  rw[List.flatten_cons] at e;have e1:s=u++y++(ys.flatten++v):=by rw[e];simp
  have e2:s=(u++y)++ys.flatten++v:=by rw[e];simp
  have hb:=zr2 hn e1 ((zaE h).mem_iff.mpr (hf b wau));obtain ⟨h1,h2⟩:=zfG (f:=f) hn e2 t λc hc=>hf c (wah _ hc);refine ⟨List.pairwise_cons.mpr ⟨λz hz=>?_,h1⟩,λc hc=>?_⟩
  ·obtain ⟨c,hc,rfl⟩:=List.mem_map.mp hz;have:=h2 c hc;rw[List.length_append] at this;show ((s.idxOf (f b):Nat):Int)<((s.idxOf (f c):Nat):Int);omega
  ·rcases wap.mp hc with rfl|hc
   ·exact hb.1
   ·have:=h2 c hc;rw[List.length_append] at this;omega
noncomputable def plc(row p:List Int):List Int:=p.map λx=>(row.idxOf x:Int)
noncomputable def ztG(row p:List Int):Bool:=zlM (plc row p)-zmf (plc row p) == (p.length:Int)-1
theorem zqV{s P:List Int}(hs:s.Nodup)(hP:P.Nodup)(hne:P≠[])(hsub:∀ g∈P,g∈s):ztG s P=true ↔ ∃ u x v,s=u++x++v/\x.Perm P:=by
 have hpn:plc s P≠[]:=by unfold plc;simpa using hne
 unfold ztG;rw[beq_iff_eq];constructor
 ·intro h;obtain ⟨hlo,hlo'⟩:=zg9 (plc s P) hpn;obtain ⟨hhi,hhi'⟩:=zgx (plc s P) hpn;obtain ⟨g0,hg0,e0⟩:=List.mem_map.mp hlo;refine ⟨s.take (s.idxOf g0),(s.drop (s.idxOf g0)).take P.length,s.drop (s.idxOf g0+P.length),?_,?_⟩
  ·rw[List.append_assoc,<- List.drop_drop,List.take_append_drop,List.take_append_drop]
  ·refine (zem P _ hP (λg hg=>?_) (by rw[List.length_take];omega)).symm;have h1:=hlo' _ (List.mem_map_of_mem (f:=λx=>((s.idxOf x:Nat):Int)) hg);have h2:=hhi' _ (List.mem_map_of_mem (f:=λx=>((s.idxOf x:Nat):Int)) hg);have hl:=List.idxOf_lt_length_of_mem (hsub g hg);have hP1:0<P.length:=List.length_pos_of_mem hg;have:((s.drop (s.idxOf g0)).take P.length)[s.idxOf g-s.idxOf g0]? = some g:=by rw[List.getElem?_take_of_lt xwo,List.getElem?_drop,show s.idxOf g0+(s.idxOf g-s.idxOf g0)=s.idxOf g by omega,List.getElem?_eq_getElem hl,List.getElem_idxOf]
   exact waH this
 ·rintro ⟨u,x,v,e,hx⟩;have hxn:x≠[]:=λz=>hne (by subst z;exact hx.symm.eq_nil);obtain ⟨z,x',rfl⟩:=waI hxn;have hin:∀ g∈P,(u.length:Int)<=(s.idxOf g:Nat)/\((s.idxOf g:Nat):Int)<=u.length+(P.length:Int)-1:=λg hg=>by have:=zr2 hs e (hx.mem_iff.mpr hg);have:=hx.length_eq;omega
  have at_:∀ i,i<(z::x').length->∃ g∈P,s.idxOf g=u.length+i:=λi hi=>by
   refine ⟨(z::x')[i],hx.mem_iff.mp (List.getElem_mem hi),?_⟩;have hg:s[u.length+i]? = some (z::x')[i]:=by rw[e,List.append_assoc,List.getElem?_append_right xwo,show u.length+i-u.length=i by omega,List.getElem?_append_left hi,List.getElem?_eq_getElem hi]
   have hl:u.length+i<s.length:=(wam.mp hg).1;have h9:=(wam.mp hg).2;rw[<- h9];exact hs.idxOf_getElem (u.length+i) hl
  have hlen:=hx.length_eq;obtain ⟨g1,hg1,e1⟩:=at_ 0 xws;obtain ⟨g2,hg2,e2⟩:=at_ (P.length-1) (by rw[hlen];have:=List.length_pos_of_mem hg1;omega);have hP1:=List.length_pos_of_mem hg1;have hmin:(u.length:Int)=zmf (plc s P):=zqX (by
   refine List.mem_map.mpr ⟨g1,hg1,?_⟩;rw[e1];rfl) λa ha=>by
   obtain ⟨g,hg,rfl⟩:=List.mem_map.mp ha;exact (hin g hg).1
  have hmax:(u.length:Int)+P.length-1=zlM (plc s P):=zqY (by
   refine List.mem_map.mpr ⟨g2,hg2,?_⟩;rw[e2];omega) λa ha=>by
   obtain ⟨g,hg,rfl⟩:=List.mem_map.mp ha;exact (hin g hg).2
  rw[<- hmin,<- hmax];omega
noncomputable def zi7(b:Tr):Int:=(zaB (zac b)).headD 0
theorem zjJ{b:Tr}(h:zac b≠[]):zi7 b∈zac b:=by unfold zi7;have hn:zaB (zac b)≠[]:=λz=>h (by have:=za9 (zac b);rw[z] at this;exact this.symm.eq_nil);obtain ⟨g,r,e⟩:=waI hn;rw[e];exact (za9 _).mem_iff.mp (by rw[e];exact wau)
noncomputable def Seg(t:Tr)(s:List Int):Prop:=∃ u x v,s=u++x++v/\x∈zaz t
noncomputable def zjO(t:Tr)(s:List Int):Bool:=@decide (Seg t s) (Classical.propDecidable _)
theorem zea{t:Tr}{s:List Int}:zjO t s=true ↔ Seg t s:=by unfold zjO;rw[@decide_eq_true_iff _ (Classical.propDecidable _)]
noncomputable def zjI(l:List Int):Bool:=l == zaB l || l == (zaB l).reverse
noncomputable def zkG(s:List Int)(b:Tr):Int:=((s.idxOf (zi7 b):Nat):Int)
theorem zrm{α:Type}{f:α->Int}:∀{l:List α},(l.map f).Pairwise (· < ·)->∀ t∈l,∀ u∈l,f t=f u->t=u
 |[],_,t,ht,_,_,_=>by cases ht
 |a::l,h,t,ht,u,hu,e=>by
  rw[List.map_cons,List.pairwise_cons] at h;rcases wap.mp ht with e1|ht' <;> rcases wap.mp hu with e2|hu'
  ·rw[e1,e2]
  ·subst e1;have:=h.1 _ (List.mem_map_of_mem (f:=f) hu');omega
  ·subst e2;have:=h.1 _ (List.mem_map_of_mem (f:=f) ht');omega
  ·exact zrm h.2 t ht' u hu' e
theorem zhZ{α:Type}{f:α->Int}:∀{a b:List α},(∀ t∈a,∀ u∈b,f t=f u->t=u)->a.map f=b.map f->a=b
 |[],[],_,_=>rfl
 |[],_::_,_,h=>by simp at h
 |_::_,[],_,h=>by simp at h
 |x::a,y::b,hi,h=>by rw[List.map_cons,List.map_cons] at h;obtain ⟨h1,h2⟩:=List.cons.inj h;rw[hi x List.mem_cons_self y List.mem_cons_self h1,zhZ (λt ht u hu=>hi t (List.mem_cons_of_mem _ ht) u (List.mem_cons_of_mem _ hu)) h2]
theorem zlH{s:List Int}{bs p:List Tr}(order:(p.map (zkG s)).Pairwise (· < ·))(pm:p.Perm bs):zjI (bs.map (zkG s))=true ↔ p=bs\/p=bs.reverse:=by
 have hs:zaB (bs.map (zkG s))=p.map (zkG s):=W.lks_uniq ((za9 _).trans (pm.symm.map _)) (zco _) (order.imp λh=>by omega);have inj:=zrm order;unfold zjI;rw[hs,Bool.or_eq_true,beq_iff_eq,beq_iff_eq,<- List.map_reverse];constructor
 ·rintro (h|h)
  ·left;exact (zhZ (λt ht u hu e=>inj t (pm.mem_iff.mpr ht) u hu e) h).symm
  ·right;have:=zhZ (λt ht u hu e=>inj t (pm.mem_iff.mpr ht) u (List.mem_reverse.mp hu) e) h;rw[this,List.reverse_reverse]
 ·rintro (rfl|rfl)
  ·left;rfl
  ·right;rw[List.reverse_reverse]
theorem zqL{r:Bool}{bs:List Tr}{s:List Int}(A:zfs bs)(hne:bs≠[])(hs:s.Nodup)(hsub:∀ g∈zak bs,g∈s) :
  Seg (.nd r bs) s ↔ ztG s (zaB (zak bs))=true/\(r=true->zjI (bs.map (zkG s))=true)/\∀ b∈bs,Seg b s:=by
 have hpm:=za9 (zak bs);have hLne:zak bs≠[]:=by obtain ⟨b,t,rfl⟩:=waI hne;intro z;rw[zak] at z;exact A.ne b wau (List.append_eq_nil_iff.mp z).1
 have hsits:=zqV (s:=s) (P:=zaB (zak bs)) hs (hpm.symm.nodup A.nd) (λz=>hLne (by rw[z] at hpm;exact hpm.symm.eq_nil)) λg hg=>hsub g (hpm.mem_iff.mp hg);have hl:∀ p:List Tr,(∀ t∈p,t∈bs)->∀ b∈p,zi7 b∈zac b:=λp hp b hb=>zjJ (A.ne b (hp b hb));constructor
 ·rintro ⟨u,x,v,e,hx⟩;obtain ⟨p,hp,ys,h1,rfl⟩:=zeq.mp hx;have pm:=zbx hp;have pb:∀ t∈p,t∈bs:=λt ht=>pm.mem_iff.mp ht;refine ⟨hsits.mpr ⟨u,ys.flatten,v,e,(zaE hx).trans (by rw[zac];exact hpm.symm)⟩,λhr=>?_,?_⟩
  ·subst hr;refine (zlH (zfG (f:=zi7) hs e h1 (hl p pb)).1 pm).mpr ?_;simpa [arr] using hp
  ·have seg:∀(p:List Tr)(ys:List (List Int))(u v:List Int),s=u++ys.flatten++v->Paired (λy t=>y∈zaz t) ys p->∀ b∈p,Seg b s:=by
    intro p
    induction p with
    |nil=>intro ys u v _ _ b hb;cases hb
    |cons c p ih =>
     intro ys u v e h b hb;cases h with
     |@cons y _ ys _ h t =>
      rw[List.flatten_cons] at e;rcases wap.mp hb with rfl|hb
      ·exact ⟨u,y,ys.flatten++v,by rw[e];simp,h⟩
      ·exact ih ys (u++y) v (by rw[e];simp) t b hb
   exact λb hb=>seg p ys u v e h1 b (pm.mem_iff.mpr hb)
 ·rintro ⟨h1,h2,h3⟩;obtain ⟨u,x,v,e,hx⟩:=hsits.mp h1;have hx':x.Perm (zak bs):=hx.trans hpm;obtain ⟨p,pm,hM⟩:=zma _ bs x rfl A hx' λb hb=>by obtain ⟨a,y,c,e',hy⟩:=h3 b hb;have hyp:=zaE hy;obtain ⟨a2,c2,e2⟩:=zl3 (u:=u) (x:=x) (v:=v) (a:=a) (y:=y) (b:=c) (by rw[<- e];exact hs) (e.symm.trans e') (λg hg=>hx'.mem_iff.mpr (zaP.mpr ⟨b,hb,hyp.mem_iff.mp hg⟩)) (λz=>A.ne b hb (by subst z;exact hyp.symm.eq_nil));exact ⟨a2,y,c2,e2,hy⟩
  refine ⟨u,x,v,e,zeq.mpr ⟨p,?_,hM⟩⟩;cases r with
  |false=>exact (zeF _ _ _ rfl).mpr pm
  |true =>
   obtain ⟨ys,h4,h5⟩:=hM;have:=(zlH (zfG (f:=zi7) hs (by rw[h5];exact e) h4 (hl p λt ht=>pm.mem_iff.mp ht)).1 pm).mp (h2 rfl);simpa [arr] using this
theorem zoP{t:Tr}{s:List Int}(h:s.Perm (zac t)):Seg t s ↔ s∈zaz t:=by
 constructor
 ·rintro ⟨u,x,v,e,hx⟩;have h1:=(zaE hx).length_eq;have h2:=h.length_eq;rw[e,List.length_append,List.length_append] at h2;have hu:u=[]:=List.length_eq_zero_iff.mp xwo;have hv:v=[]:=List.length_eq_zero_iff.mp xwo;rw[e,hu,hv,List.nil_append,List.append_nil];exact hx
 ·exact λhx=>⟨[],s,[],xws,hx⟩
theorem znW{r:Bool}{bs:List Tr}{Z:Ev}(h:zab 0 Z=.ok (toD (.nd r bs),Z)):dIt (dOp gIx (zab 0) (dC (.int 1))) Z=.ok (bs.map toD,Z):=by unfold dIt;rw[zhW h,zdk];rfl
theorem zrE{t:Tr}{Z:Ev}{f:DS}(h:zab 0 Z=.ok (toD t,Z)):dIf (dTB (zaj zbt (dR (zab 0) dR0))) f dNx Z=if zvA t=true then f Z else .ok (.nx,Z):=by
 have e:=zaG (zde h (zjh t));cases hl:zvA t with
 |true=>rw[hl] at e;rw[zdG e];rfl
 |false=>rw[hl] at e;rw[zbU e];rfl
theorem zj6{F:FD}{r:Bool}{bs:List Tr}(IH:∀ b∈bs,F [.val (toD b)]=.ok (.lst ((zac b).map .int),[.val .non]))(hl:(zak bs).length<=1000):zax false [false] 2 (zd4 F) [.val (toD (.nd r bs))]=.ok (.lst ((zak bs).map .int),[.val .non]):=by
 let T:Option B:=some (.val (toD (.nd r bs)));let Z0:Ev:=[T,none,none]
 let Z1:Ev:=[T,some (.own []),none]
 obtain ⟨Z',⟨o',rfl⟩,e⟩:=zbf (u:=toD) (l:=bs) (g:=zaU 2) (body:=dEx (zeP 1 (zaj F (dR (zab 2) dR0)))) (Z:=Z1) (I:=λdn Z=>∃ o',Z=[T,some (.own ((zak dn).map .int)),o']) (znW (Z:=Z1) (r:=r) rfl) rfl ⟨none,rfl⟩
  (λdn b zbq e Z ⟨o',hρ⟩=>by
   subst hρ;have hb:b∈bs:=by rw[e];simp
   let r1:Ev:=[T,some (.own ((zak dn).map .int)),some (.val (toD b))]
   have hlen:(zak dn).length+(zac b).length<=1000:=by rw[e,zbh,List.flatMap_append,List.length_append,List.flatMap_cons,List.length_append] at hl;rw[zbh];omega
   refine ⟨r1,_,rfl,zfa (zfJ (Z1:=r1) (l:=(zac b).map .int) rfl (zde (Z':=r1) (d:=toD b) rfl (IH b hb)) rfl rfl (by simp only[wag];omega)),some (.val (toD b)),?_⟩;show [T,some (B.own ((zak dn).map Dt.int++(zac b).map Dt.int)),_]=_;rw[<- List.map_append];have:zak (dn++[b])=zak dn++zac b:=by rw[zbh,List.flatMap_append,zbh];simp
   rw[this])
 refine zap (Z':=[T,some (.val (.lst ((zak bs).map .int))),o']) rfl ?_ rfl;show zaw (dIf (dTB (zaj zbt (dR (zab 0) dR0))) (zaV (dFz (zbQ (dA (zab 0) dA0)))) dNx) (zaw (zb6 1 (zbQ dA0)) (zaw (zeU (dIt (dOp gIx (zab 0) (dC (.int 1)))) (zaU 2) (dEx (zeP 1 (zaj F (dR (zab 2) dR0))))) (zaV (zd8 1)))) Z0=_;rw[zaf (zrE (t:=.nd r bs) (Z:=Z0) rfl),zaf (Z1:=Z1) rfl,zaf e];rfl
theorem zfN:∀(n:Nat)(t:Tr),dep t<=n->(zac t).length<=1000->zbk n [.val (toD t)]=.ok (.lst ((zac t).map .int),[.val .non])
 |0,t,h,_=>by cases t <;> simp[dep] at h
 |n+1,.lf g,_,_=>by rw[toD,zac];exact zap (d:=.lst [.int g]) (Z':=[some (.val (.int g)),none,none]) rfl rfl rfl
 |n+1,.nd r bs,h,hl=>by simp only[dep] at h;rw[zac] at hl ⊢;exact zj6 (F:=zbk n) (λb hb=>zfN n b (zdN.mp (by omega:ziY bs<=n) b hb) (by have:=zcU hb;omega)) hl
theorem zgs{t:Tr}(h:dep t<=8)(hl:(zac t).length<=6):zbB [.val (toD t)]=.ok (.lst ((zaB (zac t)).map .int),[.val .non]):=by
 let Z:Ev:=[some (.val (toD t))]
 refine zap (Z':=Z) rfl ?_ rfl;have a0:zab 0 Z=.ok (toD t,Z):=rfl;exact zb1 (zaQ (zeN (zde a0 (zfN 8 t h xwo)) (zgc xwo)))
theorem zml(x:Int):∀{l:List Int},x∈l->zlb (.int x) (l.map .int)=some (l.idxOf x)
 |[],h=>by simp at h
 |a::r,h=>by
  rw[List.map_cons,zlb,eqI];by_cases e:a=x
  ·subst e;simp
  ·have hx:x∈r:=by
    rcases wap.mp h with rfl|h
    ·exact absurd rfl e
    ·exact h
   rw[if_neg (by simpa using e),zml x hx,List.idxOf_cons];have:(a == x)=false:=by simpa using e
   rw[this];rfl
theorem znQ{fa fb:De}{Z Z1 Z2:Ev}{s:List Int}{g:Int}(h:fa Z=.ok (tz s,Z1))(h2:fb Z1=.ok (.int g,Z2))(hg:g∈s):zjr fa fb Z=.ok (.int ((s.idxOf g:Nat):Int),Z2):=by unfold zjr;rw[h];show ((fb Z1).bind λb=>if (okN 60 b.1 && (s.map Dt.int).all (okN 60))=true then (match zlb b.1 (s.map Dt.int) with|some j=>R.ok (Dt.int j,b.2)|none=>.no) else .no)=_;rw[h2];simp only[R.bind_ok];rw[if_pos (by rw[List.all_eq_true.mpr zin];rfl),zml g hg]
theorem zof{l:List Int}(h:l≠[]):zjq [.lst (l.map .int)]=.ok (.int (zlM l))/\zkf [.lst (l.map .int)]=.ok (.int (zmf l)):=by
 unfold zjq zkf;simp only[zqZ];cases l with
 |nil=>exact absurd rfl h
 |cons a r=>exact ⟨rfl,rfl⟩
theorem zoF{row p:List Int}(hp:∀ x∈p,x∈row)(hne:p≠[])(hl:p.length<=1000):zj9 [.val (tz row),.val (.lst (p.map .int))]=.ok (.bl (ztG row p),[.val .non,.val .non]):=by
 let Z0:Ev:=[some (.val (tz row)),some (.val (.lst (p.map .int))),none]
 let Z1:Ev:=[some (.val (tz row)),some (.val (.lst (p.map .int))),some (.val (.lst ((plc row p).map .int)))]
 have hc:zaY (dIt (zab 1)) (zaU 3) dTT (zjr (zab 0) (zab 3)) 1 Z0=.ok (p.map λx=>.int (row.idxOf x:Int),Z0) :=
  zc0 (l:=p) (u:=.int) (f:=λx=>.int (row.idxOf x:Int)) (ds:=p.map .int) rfl rfl hl (λx hx=>by have a0:zab 0 (Z0++[some (.val (.int x))])=.ok (tz row,Z0++[some (.val (.int x))]):=rfl;have a3:zab 3 (Z0++[some (.val (.int x))])=.ok (.int x,Z0++[some (.val (.int x))]):=rfl;exact znQ a0 a3 (hp x hx)) rfl
 have e1:zbc 2 (dFz (zaY (dIt (zab 1)) (zaU 3) dTT (zjr (zab 0) (zab 3)) 1)) Z0=.ok (.nx,Z1):=by refine (zbj (i:=2) (zaQ hc) (by simp[Z0])).trans ?_;simp[Z0,Z1,plc]
 have hne':plc row p≠[]:=by unfold plc;simpa using hne
 refine zap (Z':=Z1) rfl ?_ rfl;show znn Z0=_;unfold znn;rw[zaf e1];have a1:zab 1 Z1=.ok (.lst (p.map .int),Z1):=rfl;have a2:zab 2 Z1=.ok (.lst ((plc row p).map .int),Z1):=rfl;have l1:dFn zcG (dA (zab 1) dA0) Z1=.ok (.int (p.length:Nat),Z1):=zdd a1 (by show R.ok (Dt.int ((p.map Dt.int).length:Nat))=_;rw[List.length_map]);refine zb1 (zav (zav (zdd a2 (zof hne').1) (zdd a2 (zof hne').2) rfl) (zav l1 rfl rfl) ?_);rw[zwh];rfl
theorem zqD{l:List Int}(h:l.length<64):zfv [.lst (l.map .int)]=.ok ((zaB l).reverse.map .int):=by unfold zfv;simp only[ziy,h,if_true]
theorem zn4{l:List Int}(h:l.length<64):zjy [.val (.lst (l.map .int))]=.ok (.bl (zjI l),[.val .non]):=by
 let Z:Ev:=[some (.val (.lst (l.map .int)))]
 refine zap (Z':=Z) rfl ?_ rfl;have a0:zab 0 Z=.ok (.lst (l.map .int),Z):=rfl;have e1:dOp (gEq false) (zab 0) (dFz (zcV zbr (dA (zab 0) dA0))) Z=.ok (.bl (l == zaB l),Z):=zav a0 (zaQ (zeN a0 (zgc h))) (by rw[zbC (zdJ _) (zdJ _),zm5];rfl);have e2:dOp (gEq false) (zab 0) (dFz (zcV zfv (dA (zab 0) dA0))) Z=.ok (.bl (l == (zaB l).reverse),Z):=zav a0 (zaQ (zeN a0 (zqD h))) (by rw[zbC (zdJ _) (zdJ _),zm5];rfl);refine zb1 ?_;show dOr _ _ Z=_;unfold dOr zjI;rw[e1];simp only[R.bind_ok];cases l == zaB l with
 |true=>rfl
 |false=>exact e2
noncomputable abbrev zt6:DN:=zaY (dIt (dOp gIx (zab 0) (dC (.int 1)))) (zaU 3) dTT (zjr (zab 1) (dOp gIx (zaj zbB (dR (zab 3) dR0)) (dC (.int 0)))) 1
noncomputable abbrev zvL(F:FD):DN:=zaY (dIt (dOp gIx (zab 0) (dC (.int 1)))) (zaU 3) dTT (zaj F (dR (zab 3) (dR (zab 1) dR0))) 1
noncomputable abbrev zq4:DS:=dIf (zb2 (dTB (zaj zj9 (dR (zab 1) (dR (zaj zbB (dR (zab 0) dR0)) dR0))))) (zaV (dC (.bl false))) dNx
noncomputable abbrev zsm:DS:=dIf (dTB (dOp (gEq false) (dOp gIx (zab 0) (dC (.int 0))) (dC (.str (Str.ofString "row"))))) (zaw (zbc 2 (dFz zt6)) (dIf (zb2 (dTB (zaj zjy (dR (zab 2) dR0)))) (zaV (dC (.bl false))) dNx)) dNx
theorem zfn(F:FD):zg0 F=zaw (dIf (dTB (zaj zbt (dR (zab 0) dR0))) (zaV (dC (.bl true))) dNx) (zaw zq4 (zaw zsm (zaV (dFn zkK (dA (dFz (zvL F)) dA0))))):=rfl
theorem zmP{F:FD}{r:Bool}{bs:List Tr}{s:List Int}(N:Nod r bs)(hd:dep (.nd r bs)<=8)(hne:bs≠[])(hs:s.Nodup)(hsub:∀ g∈zak bs,g∈s)(IH:∀ b∈bs,F [.val (toD b),.val (tz s)]=.ok (.bl (zjO b s),[.val .non,.val .non])) :
  zax false [false,false] 1 (zg0 F) [.val (toD (.nd r bs)),.val (tz s)]=.ok (.bl (zjO (.nd r bs) s),[.val .non,.val .non]):=by
 have hk:=zqL (r:=r) N.A hne hs hsub;have hl6:(zac (.nd r bs)).length<=6:=by rw[zac];exact N.l
 have hb6:∀ b∈bs,(zac b).length<=6:=λb hb=>by have:=zcU hb;have:=N.l;omega
 let T:Option B:=some (.val (toD (.nd r bs)));let S:Option B:=some (.val (tz s));let Z0:Ev:=[T,S,none]
 have v0:∀ o,zab 0 [T,S,o]=.ok (toD (.nd r bs),[T,S,o]):=λ_=>rfl;have v1:∀ o,zab 1 [T,S,o]=.ok (tz s,[T,S,o]):=λ_=>rfl;have hpm:=za9 (zak bs);have hsn:zaB (zak bs)≠[]:=λz=>by obtain ⟨b,t,rfl⟩:=waI hne;rw[z] at hpm;have:=hpm.symm.eq_nil;rw[zak] at this;exact N.A.ne b wau (List.append_eq_nil_iff.mp this).1
 have hsit:zb2 (dTB (zaj zj9 (dR (zab 1) (dR (zaj zbB (dR (zab 0) dR0)) dR0)))) Z0=.ok (!ztG s (zaB (zak bs)),Z0):=by have e1:=zgs (t:=.nd r bs) hd hl6;rw[zac] at e1;exact zcf (zaG (zeZ (v1 _) (zde (v0 _) e1) (zoF (λx hx=>hsub x (hpm.mem_iff.mp hx)) hsn (by rw[hpm.length_eq];have:=N.l;omega))))
 have x0:dIf (dTB (zaj zbt (dR (zab 0) dR0))) (zaV (dC (.bl true))) dNx Z0=.ok (.nx,Z0):=zrE (t:=.nd r bs) (v0 _);have fin:∀(o:Option B)(v:Bool),v=zjO (.nd r bs) s->zg0 F Z0=.ok (.rt (.bl v),[T,S,o])->zax false [false,false] 1 (zg0 F) [.val (toD (.nd r bs)),.val (tz s)]=.ok (.bl (zjO (.nd r bs) s),[.val .non,.val .non]):=λo v hv e=>by rw[<- hv];exact zap (Z':=[T,S,o]) rfl e rfl
 have hno:(¬ Seg (.nd r bs) s)->false=zjO (.nd r bs) s:=λh=>by
  cases e:zjO (.nd r bs) s with
  |false=>rfl
  |true=>exact absurd (zea.mp e) h
 cases h1:ztG s (zaB (zak bs)) with
 |false =>
  rw[h1] at hsit;refine fin none false (hno λz=>by rw[(hk.mp z).1] at h1;cases h1) ?_;rw[zfn,zaf x0];exact zcv (by rw[show zq4 Z0=_ from zdG hsit];rfl)
 |true =>
  rw[h1] at hsit;have x1:zq4 Z0=.ok (.nx,Z0):=by rw[show zq4 Z0=_ from zbU hsit];rfl
  have hcomp:zt6 Z0=.ok (bs.map λb=>Dt.int (zkG s b),Z0):=zc0 (u:=toD) (f:=λb=>Dt.int (zkG s b)) (l:=bs) (znW (v0 _)) rfl (by have:=N.k;omega) (λb hb=>by
   have a1:zab 1 (Z0++[some (.val (toD b))])=.ok (tz s,Z0++[some (.val (toD b))]):=rfl;have a3:zab 3 (Z0++[some (.val (toD b))])=.ok (toD b,Z0++[some (.val (toD b))]):=rfl;have hbn:=N.A.ne b hb;have hin:zi7 b∈zac b:=zjJ hbn;have hix:gIx (.lst ((zaB (zac b)).map .int)) (.int 0)=.ok (.int (zi7 b)):=by have hn:zaB (zac b)≠[]:=λz=>hbn (by have:=za9 (zac b);rw[z] at this;exact this.symm.eq_nil);obtain ⟨g,t,e⟩:=waI hn;unfold zi7;rw[e];unfold gIx;rw[List.map_cons];simp only[zi1];rfl
   exact znQ a1 (zav (zde a3 (zgs (N.d b hb) (hb6 b hb))) rfl hix) (hsub _ (zaP.mpr ⟨b,hb,hin⟩))) rfl
  have hall:∀ o,dFn zkK (dA (dFz (zvL F)) dA0) [T,S,o]=.ok (.bl (bs.all λb=>zjO b s),[T,S,o]):=λo=>by
   have hc:zvL F [T,S,o]=.ok (bs.map λb=>Dt.bl (zjO b s),[T,S,o]):=zc0 (u:=toD) (f:=λb=>Dt.bl (zjO b s)) (l:=bs) (znW (v0 _)) rfl (by have:=N.k;omega) (λb hb=>by have a1:zab 1 ([T,S,o]++[some (.val (toD b))])=.ok (tz s,[T,S,o]++[some (.val (toD b))]):=rfl;have a3:zab 3 ([T,S,o]++[some (.val (toD b))])=.ok (toD b,[T,S,o]++[some (.val (toD b))]):=rfl;exact zeZ a3 a1 (IH b hb)) rfl
   exact zdd (zaQ hc) (zrC (λb=>zjO b s) bs)
  have hyes:(r=true->zjI (bs.map (zkG s))=true)->(bs.all λb=>zjO b s)=zjO (.nd r bs) s:=λh2=>by rw[Bool.eq_iff_iff,List.all_eq_true,zea,hk];exact ⟨λh=>⟨h1,h2,λb hb=>zea.mp (h b hb)⟩,λh b hb=>zea.mpr (h.2.2 b hb)⟩
  cases r with
  |false =>
   refine fin none _ (hyes λz=>by cases z) ?_;have x2:zsm Z0=.ok (.nx,Z0):=by rw[show zsm Z0=_ from zbU (zls (v0 _))];rfl
   rw[zfn,zaf x0,zaf x1,zaf x2];exact zb1 (hall none)
  |true =>
   let P:Option B:=some (.val (.lst ((bs.map (zkG s)).map .int)));let Z1:Ev:=[T,S,P]
   have y1:zbc 2 (dFz zt6) Z0=.ok (.nx,Z1):=by refine (zbj (i:=2) (zaQ hcomp) (by simp[Z0])).trans ?_;show R.ok (Fl.nx,[T,S,some (B.val (.lst (bs.map λb=>Dt.int (zkG s b))))])=_;rw[show (bs.map λb=>Dt.int (zkG s b))=(bs.map (zkG s)).map Dt.int by rw[List.map_map];rfl]
   have a2:zab 2 Z1=.ok (.lst ((bs.map (zkG s)).map .int),Z1):=rfl;have y2:zb2 (dTB (zaj zjy (dR (zab 2) dR0))) Z1=.ok (!zjI (bs.map (zkG s)),Z1):=zcf (zaG (zde a2 (zn4 (by rw[List.length_map];have:=N.k;omega))));cases h2:zjI (bs.map (zkG s)) with
   |false =>
    rw[h2] at y2;refine fin P false (hno λz=>by rw[(hk.mp z).2.1 rfl] at h2;cases h2) ?_;have x2:zsm Z0=.ok (.rt (.bl false),Z1):=by rw[show zsm Z0=_ from zdG (zls (v0 _)),zaf y1,zdG y2];rfl
    rw[zfn,zaf x0,zaf x1];exact zcv x2
   |true =>
    rw[h2] at y2;refine fin P _ (hyes λ_=>h2) ?_;have x2:zsm Z0=.ok (.nx,Z1):=by rw[show zsm Z0=_ from zdG (zls (v0 _)),zaf y1,zbU y2];rfl
    rw[zfn,zaf x0,zaf x1,zaf x2];exact zb1 (hall P)
theorem zhM{s:List Int}(hs:s.Nodup):∀(n:Nat)(t:Tr),dep t<=n->dep t<=8->okT t=true->(zac t).Nodup->(zac t).length<=6->(∀ g∈zac t,g∈s)->zf4 n [.val (toD t),.val (tz s)]=.ok (.bl (zjO t s),[.val .non,.val .non])
 |0,t,h,_,_,_,_,_=>by cases t <;> simp[dep] at h
 |n+1,.lf g,_,_,_,_,_,hg=>by
  have:zjO (.lf g) s=true:=zea.mpr (by obtain ⟨u,v,e⟩:=List.append_of_mem (hg g (by rw[zac];exact wau));exact ⟨u,[g],v,by rw[e];simp,by rw[zaz];exact wau⟩)
  rw[this,toD];exact zap (Z':=[some (.val (.int g)),some (.val (tz s)),none]) rfl rfl rfl
 |n+1,.nd r bs,h,h8,ho,hn,h6,hg=>by
  have hh:=zcL h ho hn;have hd8:∀ b∈bs,dep b<=8:=λb hb=>by have h8':=h8;simp only[dep] at h8';have:=zdN.mp (wal (ziY bs)) b hb;omega
  have hk:bs.length<=6:=by have:=zil bs (wal _) (by rw[okT,Bool.and_eq_true] at ho;exact ho.2);rw[zac] at h6;omega
  have hbne:bs≠[]:=λz=>by subst z;rw[okT] at ho;cases r <;> simp at ho
  rw[zac] at h6 hg;refine zmP (F:=zf4 n) ⟨hh.1,hd8,hk,h6⟩ h8 hbne hs hg λb hb=>?_;obtain ⟨h1,h2,h3⟩:=hh.2 b hb;exact zhM hs n b h1 (hd8 b hb) h2 h3 (by have:=zcU hb;omega) λg hg'=>hg g (zaP.mpr ⟨b,hb,hg'⟩)
theorem zl4{x y z:Dt}{bs:List B}:∀{Z:Ev}{k:Nat},zgm [.d x,.d y,.d z] bs k Z = Z
 |[],_=>rfl
 |o::r,k=>by show (match zdY [.d x,.d y,.d z] k with|some j=>bs[j]?|none=>o)::zgm [.d x,.d y,.d z] bs (k+1) r=_;rw[zl4 (Z:=r)];rfl
section
variable{F:FD}{fa fb fc:De}{Z Z1 Z2 Z3:Ev}{d e g y:Dt}{l:List B}{n:Nat}
theorem zmJ(h:fa Z=.ok (d,Z1))(h2:fb Z1=.ok (e,Z2))(h3:fc Z2=.ok (g,Z3))(hF:F [.val d,.val e,.val g]=.ok (y,l)):zaj F (dR fa (dR fb (dR fc dR0))) Z=.ok (y,Z3):=by unfold zaj dR dR0;rw[h];simp only[R.bind_ok,h2,h3,zm2,zbs,if_true,za3,hF];rw[zl4]
theorem zlI(h:fa Z=.ok (d,Z1))(h2:fb Z1=.ok (e,Z2))(h3:fc Z2=.ok (g,Z3))(hF:F [.val d,.val e,.val g]=.er n):zaj F (dR fa (dR fb (dR fc dR0))) Z=.er n:=by unfold zaj dR dR0;rw[h];simp only[R.bind_ok,h2,h3,zm2,zbs,if_true,za3,hF,R.bind_er]
end
theorem zkT{fa:De}{Z Z1:Ev}{n:Nat}(h:fa Z=.ok (.int n,Z1))(hn:n<=1000):zfZ fa Z=.ok ((zaC n).map .int,Z1):=by
 have hc:(0:Int)<=n/\(n:Int)<=16777216:=by omega
 unfold zfZ;rw[h];show (if 0<=(n:Int)/\(n:Int)<=16777216 then R.ok (zbG 0 (n:Int).toNat,Z1) else .no)=_;rw[if_pos hc,Int.toNat_natCast,zmh]
structure Tn(n:Nat)(t:Tr):Prop where
 n1:1<=n
 n6:n<=6
 d:dep t<=8
 o:okT t=true
 p:(zac t).Perm (zaC n)
theorem Tn.nd{n:Nat}{t:Tr}(h:Tn n t):(zac t).Nodup:=h.p.symm.nodup (zbE n)
theorem Tn.l{n:Nat}{t:Tr}(h:Tn n t):(zac t).length<=6:=by rw[h.p.length_eq,zbd];exact h.n6
theorem zte{n:Nat}{s:List Int}(h1:1<=n)(h7:n<=6)(hp:s.Perm (zaC n)):zcI [.val (.int n),.val (tz s)]=.ok (.bl true,[.val .non,.val .non]):=by
 let Z:Ev:=[some (.val (.int n)),some (.val (tz s))]
 have hl:s.length=n:=by rw[hp.length_eq,zbd]
 have a0:zab 0 Z=.ok (.int n,Z):=rfl;have a1:zab 1 Z=.ok (tz s,Z):=rfl;refine zap (Z':=Z) rfl ?_ rfl;show zaw (dEx (zaj zba (dR (zab 0) dR0))) (zaV (ziZ (zaj zcN (dR (zab 0) (dR (zab 1) dR0))) (dOp (gEq false) (dFz (zcV zc6 (dA (zab 1) dA0))) (dFz (zfZ (zab 0)))))) Z=_;rw[zaf (zfa (zde a0 (zmp xwo xwo)))];have hare:zcN [.val (.int n),.val (tz s)]=.ok (.bl true,[.val .non,.val .non]):=by
  refine zap (Z':=Z) rfl ?_ rfl;show zaV (ziZ (zfQ "tuple" (zab 1)) (dFn zkK (dA (dFz (zaY (dIt (zab 1)) (zaU 2) dTT (zaj zbD (dR (zab 0) (dR (zab 2) dR0))) 1)) dA0))) Z=_;refine zb1 ?_;have hc:zaY (dIt (zab 1)) (zaU 2) dTT (zaj zbD (dR (zab 0) (dR (zab 2) dR0))) 1 Z=.ok (s.map λx=>Dt.bl true,Z):=zc0 (u:=Dt.int) (f:=λ_=>Dt.bl true) (l:=s) (ds:=s.map .int) rfl rfl xwo (λx hx=>by have b0:zab 0 (Z++[some (.val (.int x))])=.ok (.int n,Z++[some (.val (.int x))]):=rfl;have b2:zab 2 (Z++[some (.val (.int x))])=.ok (.int x,Z++[some (.val (.int x))]):=rfl;have hx':=zes.mp (hp.mem_iff.mp hx);have e:=znd n (.int x);rw[show isG n (.int x)=true by show (decide (0<=x) && decide (x<(n:Int)))=true;rw[decide_eq_true hx'.1,decide_eq_true hx'.2];rfl] at e;exact zeZ b0 b2 e) rfl
  have hall:=zdd (g:=zkK) (zaQ hc) (zrC (λ_=>true) s);unfold ziZ;rw[show zfQ "tuple" (zab 1) Z=.ok (.bl true,Z) from rfl];simp only[R.bind_ok];rw[hall];simp
 refine zb1 ?_;unfold ziZ;rw[zeZ a0 a1 hare];simp only[R.bind_ok];refine zav (zaQ (zeN a1 (zlD xwo))) (zaQ (zkT a0 xwo)) ?_;rw[zbC (zdJ _) (zdJ _),zm5];have:zaB s=zaC n:=zhP.mpr ⟨hp.symm.nodup (zbE n),λx hx=>zes.mp (hp.mem_iff.mp hx),hl⟩;rw[this];simp
theorem zge{n:Nat}{t:Tr}{s:List Int}(H:Tn n t)(hp:s.Perm (zaC n)):zbM [.val (.int n),.val (toD t),.val (tz s)]=.ok (.bl (decide (s∈zaz t)),[.val .non,.val .non,.val .non]):=by
 let Z:Ev:=[some (.val (.int n)),some (.val (toD t)),some (.val (tz s))]
 have a0:zab 0 Z=.ok (.int n,Z):=rfl;have a1:zab 1 Z=.ok (toD t,Z):=rfl;have a2:zab 2 Z=.ok (tz s,Z):=rfl;refine zap (Z':=Z) rfl ?_ rfl;show zaV (ziZ (zaj zcI (dR (zab 0) (dR (zab 2) dR0))) (zaj (zf4 8) (dR (zab 1) (dR (zab 2) dR0)))) Z=_;refine zb1 ?_;unfold ziZ;rw[zeZ a0 a2 (zte H.n1 H.n6 hp)];simp only[R.bind_ok];have e:=zhM (hp.symm.nodup (zbE n)) 8 t H.d H.d H.o H.nd H.l λg hg=>hp.mem_iff.mpr (H.p.mem_iff.mp hg);have hv:zjO t s=decide (s∈zaz t):=by rw[Bool.eq_iff_iff,zea,decide_eq_true_eq];exact zoP (hp.trans H.p.symm)
 rw[hv] at e;exact zeZ a1 a2 e
noncomputable def due(t:Tr):List (List Int):=zhu (zaz t)
theorem zgK{t:Tr}{s:List Int}:s∈due t ↔ s∈zaz t:=(zc1 _).mem_iff
theorem znI{n:Nat}{t:Tr}(H:Tn n t):(due t).Nodup:=(zc1 _).symm.nodup (zet _ t (wal _) H.o H.nd)
theorem znK{n:Nat}{t:Tr}(H:Tn n t):1<=(due t).length/\(due t).length<=720:=by unfold due;rw[(zc1 _).length_eq];exact ⟨ziu _ t (wal _),waN (zlk H.o H.nd) (zuz H.l)⟩
theorem zit{n:Nat}{t:Tr}{s:List Int}(H:Tn n t)(h:s∈due t):s.Perm (zaC n):=(zaE (zgK.mp h)).trans H.p
theorem zsK{n:Nat}{t:Tr}{Z:Ev}(H:Tn n t)(h0:zab 0 Z=.ok (.int n,Z))(h1:zab 1 Z=.ok (toD t,Z)):dFz (zc4 zbL (dR (zab 0) (dR (zab 1) dR0))) Z=.ok (.lst (lp (due t)),Z) :=
 zaQ (zr5 h0 h1 (zo6 H.n1 (by have:=H.n6;omega) H.d H.o H.nd H.l))
noncomputable abbrev zjc:DT:=zh1 (zb2 (dTB (zaj zbm (dR (zab 2) dR0)))) (zh1 (dTB (dOp gLt (zab 2) (dC (.int 0)))) (dTB (dOp gGe (zab 2) (dFn zcG (dA (zab 3) dA0)))))
theorem zrw:zgb=zaw (zbc 3 (dFz (zc4 zbL (dR (zab 0) (dR (zab 1) dR0))))) (zaw (dIf zjc (zhI 2 (dA (dC (.str (Str.ofString "this is no number of a row of the tree"))) dA0)) dNx) (zaV (dOp gIx (zab 3) (zab 2)))):=rfl
noncomputable def zn7(m:Nat):Dt->Bool
 |.int i=>decide (i<0) || decide ((m:Int)<=i)
 |_=>true
theorem zoJ{n:Nat}{t:Tr}{d:Dt}(Z:Ev)(e:Z=[some (.val (.int n)),some (.val (toD t)),some (.val d),some (.val (.lst (lp (due t))))]):zjc Z=.ok (zn7 (due t).length d,Z):=by
 subst e;let Z:Ev:=[some (.val (.int n)),some (.val (toD t)),some (.val d),some (.val (.lst (lp (due t))))]
 have a2:zab 2 Z=.ok (d,Z):=rfl;have a3:zab 3 Z=.ok (.lst (lp (due t)),Z):=rfl;have l3:dFn zcG (dA (zab 3) dA0) Z=.ok (.int ((due t).length:Nat),Z):=zdd a3 (by show R.ok (Dt.int ((lp (due t)).length:Nat))=_;rw[ze3]);have w:=zcf (zaG (zde a2 (zfD d)));cases d with
 |int i =>
  have w':zb2 (dTB (zaj zbm (dR (zab 2) dR0))) Z=.ok (false,Z):=w;have c1:dTB (dOp gLt (zab 2) (dC (.int 0))) Z=.ok (decide (i<0),Z):=zaG (zav a2 rfl rfl);have c2:dTB (dOp gGe (zab 2) (dFn zcG (dA (zab 3) dA0))) Z=.ok (decide (i ≥ ((due t).length:Nat)),Z):=zaG (zav a2 l3 rfl);rw[show zjc Z=_ from zjk w'];show _=R.ok (decide (i<0) || decide (((due t).length:Int)<=i),Z);cases h:decide (i<0) with
  |true=>rw[h] at c1;rw[zri c1];rfl
  |false=>rw[h] at c1;rw[zjk c1];exact c2
 |_=>exact zri w
theorem zsM{n:Nat}{t:Tr}{j:Nat}{s:List Int}(H:Tn n t)(hj:(due t)[j]? = some s):zdo [.val (.int n),.val (toD t),.val (.int (j:Nat))]=.ok (tz s,[.val .non,.val .non,.val .non]):=by
 have hl:=(wam.mp hj).1;let Z0:Ev:=[some (.val (.int n)),some (.val (toD t)),some (.val (.int (j:Nat))),none]
 let Z:Ev:=[some (.val (.int n)),some (.val (toD t)),some (.val (.int (j:Nat))),some (.val (.lst (lp (due t))))]
 have x1:zbc 3 (dFz (zc4 zbL (dR (zab 0) (dR (zab 1) dR0)))) Z0=.ok (.nx,Z):=zbj (zsK (Z:=Z0) H rfl rfl) (by simp[Z0]);have hc:zjc Z=.ok (false,Z):=by rw[zoJ Z rfl];congr 2;show (decide ((j:Int)<0) || decide (((due t).length:Int)<=j))=false;rw[decide_eq_false xwo,decide_eq_false xwo];rfl
 refine zap (Z':=Z) rfl ?_ rfl;show zgb Z0=_;rw[zrw,zaf x1,zaf (Z1:=Z) (by rw[zbU hc];rfl)];have a3:zab 3 Z=.ok (.lst (lp (due t)),Z):=rfl;have a2:zab 2 Z=.ok (.int (j:Nat),Z):=rfl;exact zb1 (zav a3 a2 (zlc xwo (by rw[ze3];omega) (by rw[Int.toNat_natCast];unfold lp;rw[List.getElem?_map,hj];rfl)))
theorem zvw{n:Nat}{t:Tr}{d:Dt}(H:Tn n t)(hd:zn7 (due t).length d=true):zdo [.val (.int n),.val (toD t),.val d]=.er 2:=by
 let Z0:Ev:=[some (.val (.int n)),some (.val (toD t)),some (.val d),none]
 let Z:Ev:=[some (.val (.int n)),some (.val (toD t)),some (.val d),some (.val (.lst (lp (due t))))]
 have x1:zbc 3 (dFz (zc4 zbL (dR (zab 0) (dR (zab 1) dR0)))) Z0=.ok (.nx,Z):=zbj (zsK (Z:=Z0) H rfl rfl) (by simp[Z0]);have hc:zjc Z=.ok (true,Z):=by rw[zoJ Z rfl,hd]
 refine zjl rfl ?_;show zgb Z0=_;rw[zrw,zaf x1];unfold zaw;rw[zdG hc];rfl
theorem zoj{s:List Int}:∀{rs:List (List Int)},s∈rs->zlb (tz s) (lp rs)=some (rs.idxOf s)
 |[],h=>by cases h
 |a::r,h=>by
  show zlb (tz s) (tz a::lp r)=_;rw[zlb,zqQ];by_cases e:a=s
  ·subst e;simp
  ·have hx:s∈r:=by
    rcases wap.mp h with e'|h
    ·exact absurd e'.symm e
    ·exact h
   have hb:(a == s)=false:=beq_false_of_ne e;rw[hb,if_neg xws,zoj hx,List.idxOf_cons,hb];rfl
noncomputable abbrev zwc:DS:=dIf (zb2 (dTB (zaj zbM (dR (zab 0) (dR (zab 1) (dR (zab 2) dR0)))))) (zhI 2 (dA (dC (.str (Str.ofString "this seating is no row of the tree"))) dA0)) dNx
theorem zr8:zdr=zaw zwc (zaV (zv4 (dFz (zc4 zbL (dR (zab 0) (dR (zab 1) dR0)))) (zab 2))):=rfl
theorem zs7{n:Nat}{t:Tr}{s:List Int}(H:Tn n t)(hs:s∈due t):zbv [.val (.int n),.val (toD t),.val (tz s)]=.ok (.int (((due t).idxOf s:Nat):Int),[.val .non,.val .non,.val .non]):=by
 let Z:Ev:=[some (.val (.int n)),some (.val (toD t)),some (.val (tz s))]
 have a0:zab 0 Z=.ok (.int n,Z):=rfl;have a1:zab 1 Z=.ok (toD t,Z):=rfl;have a2:zab 2 Z=.ok (tz s,Z):=rfl;have hh:=zge H (zit H hs);rw[decide_eq_true (zgK.mp hs)] at hh;refine zap (Z':=Z) rfl ?_ rfl;show zdr Z=_;rw[zr8,zaf (Z1:=Z) (by rw[show zwc Z=_ from zbU (zcf (zaG (zmJ a0 a1 a2 hh)))];rfl)];refine zb1 ?_;unfold zv4;rw[zsK H a0 a1];simp only[R.bind_ok,a2];have h9:(lp (due t)).all (okN 60)=true:=List.all_eq_true.mpr λd hd=>by obtain ⟨p,_,rfl⟩:=List.mem_map.mp hd;exact zfV p
 rw[if_pos (by rw[zfV,h9];rfl),zoj hs]
theorem zvm{n:Nat}{t:Tr}{s:List Int}(H:Tn n t)(hp:s.Perm (zaC n))(hs:s∉due t):zbv [.val (.int n),.val (toD t),.val (tz s)]=.er 2:=by
 let Z:Ev:=[some (.val (.int n)),some (.val (toD t)),some (.val (tz s))]
 have a0:zab 0 Z=.ok (.int n,Z):=rfl;have a1:zab 1 Z=.ok (toD t,Z):=rfl;have a2:zab 2 Z=.ok (tz s,Z):=rfl;have hh:=zge H hp;rw[decide_eq_false λz=>hs (zgK.mpr z)] at hh;refine zjl rfl ?_;show zdr Z=_;rw[zr8];unfold zaw;rw[show zwc Z=_ from zdG (zcf (zaG (zmJ a0 a1 a2 hh)))];rfl
theorem zu9{fE:De}{Z:Ev}(h8:Z[10]? = some (some (.tab zhi)))(h:fE (zbo Z)=.er 2):dTB (dOp (gEq true) (dFz (zqc 10 zhi fE)) (dC (.lst [(.int 2)]))) Z=.ok (false,Z):=by
 have hr:zqc 10 zhi fE Z=.ok ([.int 2],Z):=by unfold zqc;rw[h8];simp only[if_true];rw[h];rfl
 refine zaG (zav (zaQ hr) (e:=.lst [.int 2]) rfl ?_);rw[zbC rfl rfl];rw[show eqD (.lst [.int 2]) (.lst [.int 2])=true by rw[eqD,zkn,zkn,eqD];simp];rfl
theorem zr3(s:List Int):∀ rs:List (List Int),inD (tz s) (lp rs)=decide (s∈rs)
 |[]=>by simp[inD,lp]
 |a::r=>by have ih:=zr3 s r;unfold inD at ih ⊢;show (eqD (tz a) (tz s) || (lp r).any λd=>eqD d (tz s))=_;rw[ih,zqQ,Bool.eq_iff_iff];simp only[Bool.or_eq_true,beq_iff_eq,war,wap];exact ⟨λh=>h.elim (λe=>.inl e.symm) .inr,λh=>h.elim (λe=>.inl e.symm) .inr⟩
theorem zr6{neg:Bool}{s:List Int}{rs:List (List Int)}:gIn neg (tz s) (.lst (lp rs))=.ok (.bl (if neg then !decide (s∈rs) else decide (s∈rs))):=by
 rw[(zjm (zfV s) λd hd=>by obtain ⟨p,_,rfl⟩:=List.mem_map.mp hd;exact zfV p).2,zr3]
theorem zpU{k:Nat}(i:Int):za2 (k+1) [.val (.int i),.val (.int i)]=.ok (.bl true,[.val .non,.val .non]):=zg8 k (.int i) (by cases k <;> rfl) rfl
theorem zs5{k:Nat}(b:Bool):za2 (k+1) [.val (.bl b),.val (.bl b)]=.ok (.bl true,[.val .non,.val .non]):=zap rfl (zgG rfl rfl (by rw[eqB];simp)) rfl
noncomputable abbrev g57:De:=dOp gIx (zab 5) (zab 7)
noncomputable abbrev c1:DS:=dIf (zb2 (dTB (zaj (za2 4) (dR (zaj zdo (dR (zab 3) (dR (zab 4) (dR (zab 7) dR0)))) (dR g57 dR0))))) (zaV (dC (.bl false))) dNx
noncomputable abbrev c2:DS:=dIf (zh1 (zb2 (dTB (zaj (za2 4) (dR (zaj zbv (dR (zab 3) (dR (zab 4) (dR g57 dR0)))) (dR (zab 7) dR0))))) (dTB (dOp (zrg true) (zaj zbM (dR (zab 3) (dR (zab 4) (dR g57 dR0)))) (dC (.bl true))))) (zaV (dC (.bl false))) dNx
noncomputable abbrev c3:DS:=dIf (zb2 (dTB (zaj (za2 4) (dR (zaj zbM (dR (zab 3) (dR (zab 4) (dR (zab 8) dR0)))) (dR (dOp (gIn false) (zab 8) (zab 5)) dR0))))) (zaV (dC (.bl false))) dNx
noncomputable abbrev c4:DS:=dIf (ziU (dTB (dOp (gIn true) (zab 8) (zab 5))) (dTB (dOp (gEq true) (dFz (zqc 10 zhi (zaj zbv (dR (zab 3) (dR (zab 4) (dR (zab 8) dR0)))))) (dC (.lst [(.int 2)]))))) (zaV (dC (.bl false))) dNx
noncomputable abbrev tB:DS:=zaw (zbc 7 (zaj zaq (dRO 2 (dR (dFn zcG (dA (zab 5) dA0)) dR0)))) (zaw c1 (zaw c2 (zaw (zbc 8 (dFn ze9 (dA (zaj zaL (dRO 2 (dR (dFz (zfZ (zab 3))) dR0))) dA0))) (zaw c3 c4))))
noncomputable abbrev zsd:DA:=dA (dFn zcG (dA (zab 5) dA0)) (dA (zvN (dC (.int 1))) (dA (dC (.bl true)) (dA (dC .non) (dA (dC (.str (Str.ofString "0"))) (dA (dC (.tup [(.int 0)])) (dA (dOp znr (dC (.int 10)) (dC (.int 29))) dA0))))))
noncomputable abbrev bB:DS:=dIf (dTB (dOp (gEq true) (dFz (zqc 10 zhi (zaj zdo (dR (zab 3) (dR (zab 4) (dR (zab 9) dR0)))))) (dC (.lst [(.int 2)])))) (zaV (dC (.bl false))) dNx
noncomputable abbrev outer:DS:=zaw (zb6 2 (zc4 zck (dR (zab 0) (dR (zab 1) dR0)))) (zaw (zbc 3 (dOp zdK (dC (.int 1)) (zaj zaq (dRO 2 (dR (dC (.int 6)) dR0))))) (zaw (zbc 4 (zaj (zaN 8) (dRO 2 (dR (dFz (zfZ (zab 3))) dR0)))) (zaw (zbc 5 (zaj zb7 (dR (zab 4) (dR (zaj zcn (dR (zab 3) dR0)) dR0)))) (zaw (zeU (zbH (dC (.int 6))) (zaU 6) tB) (zeU (dIt (dFz (zbQ zsd))) (zaU 9) bB)))))
theorem zss:zlw=zaw (zeU (zbH (dFn ziC (dA (dC (.int 1)) (dA (dFn zi8 (dA (dFn zcG (dA (zab 0) dA0)) (dA (dC (.int 3)) dA0))) dA0)))) (zaU 1) outer) (zaV (dC (.bl true))):=rfl
section
variable{N:Nat}{t:Tr}{S K Q:Option B}
theorem zsu{st:List Dt}{o6 o7 o8 o9:Option B}(H:Tn N t)(hs:St st)(hQ:Q=some (.tab zhi)):∃ st' b7 b8,St st'/\tB [S,K,some (.own st),some (.val (.int N)),some (.val (toD t)),some (.val (.lst (lp (due t)))),o6,o7,o8,o9,Q]=.ok (.nx,[S,K,some (.own st'),some (.val (.int N)),some (.val (toD t)),some (.val (.lst (lp (due t)))),o6,b7,b8,o9,Q]):=by
 subst hQ;obtain ⟨l1,l2⟩:=znK H;let NV:Option B:=some (.val (.int N));let TV:Option B:=some (.val (toD t));let DV:Option B:=some (.val (.lst (lp (due t))));let Q:Option B:=some (.tab zhi);obtain ⟨v,st1,ev,hs1,v0,v1⟩:=zdh (m:=((due t).length:Nat)) hs xwo xwo;obtain ⟨j,rfl⟩ : ∃ j:Nat,v=j:=⟨v.toNat,xwo⟩
 have hj:j<(due t).length:=by omega
 obtain ⟨s,es⟩ : ∃ s,(due t)[j]? = some s:=⟨_,wac hj⟩
 have hsm:s∈due t:=waH es;have hidx:(due t).idxOf s=j:=by rw[<- (List.getElem?_eq_some_iff.mp es).2];exact (znI H).idxOf_getElem j hj
 let Z0:Ev:=[S,K,some (.own st),NV,TV,DV,o6,o7,o8,o9,Q]
 let JV:Option B:=some (.val (.int (j:Nat)));let Z1:Ev:=[S,K,some (.own st1),NV,TV,DV,o6,JV,o8,o9,Q]
 have x1:zbc 7 (zaj zaq (dRO 2 (dR (dFn zcG (dA (zab 5) dA0)) dR0))) Z0=.ok (.nx,Z1):=by have a5:zab 5 Z0=.ok (.lst (lp (due t)),Z0):=rfl;have l5:dFn zcG (dA (zab 5) dA0) Z0=.ok (.int ((due t).length:Nat),Z0):=zdd a5 (by show R.ok (Dt.int ((lp (due t)).length:Nat))=_;rw[ze3]);exact zbj (zhr (Z:=Z0) rfl l5 ev) (by simp[Z0])
 have a3:zab 3 Z1=.ok (.int N,Z1):=rfl;have a4:zab 4 Z1=.ok (toD t,Z1):=rfl;have a5:zab 5 Z1=.ok (.lst (lp (due t)),Z1):=rfl;have a7:zab 7 Z1=.ok (.int (j:Nat),Z1):=rfl;have g5:g57 Z1=.ok (tz s,Z1):=zav a5 a7 (zlc xwo (by rw[ze3];omega) (by rw[Int.toNat_natCast];unfold lp;rw[List.getElem?_map,es];rfl));have hsl:s.length<=1000:=by rw[(zit H hsm).length_eq,zbd];have:=H.n6;omega
 have x2:c1 Z1=.ok (.nx,Z1):=by rw[show c1 Z1=_ from zbU (zcf (zaG (zeZ (zmJ a3 a4 a7 (zsM H es)) g5 (zts (k:=2) s hsl))))];rfl
 have x3:c2 Z1=.ok (.nx,Z1):=by have h1:=zcf (zaG (zeZ (zmJ a3 a4 g5 (zs7 H hsm)) a7 (by rw[hidx];exact zpU (k:=3) _)));have hh:=zge H (zit H hsm);rw[decide_eq_true (zgK.mp hsm)] at hh;have h2:dTB (dOp (zrg true) (zaj zbM (dR (zab 3) (dR (zab 4) (dR g57 dR0)))) (dC (.bl true))) Z1=.ok (false,Z1):=zaG (zav (zmJ a3 a4 g5 hh) rfl rfl);rw[show c2 Z1=_ from zbU (by rw[zjk h1];exact h2)];rfl
 obtain ⟨st2,p,hs2,hp,ep⟩:=zhQ (l:=(zaC N).map .int) (st:=st1) hs1 (by rw[List.length_map,zbd];have:=H.n6;omega) (λd hd=>by obtain ⟨i,_,rfl⟩:=List.mem_map.mp hd;rfl)
 obtain ⟨q,hq,rfl⟩:=zfR hp;let RV:Option B:=some (.val (tz q));let Z2:Ev:=[S,K,some (.own st2),NV,TV,DV,o6,JV,RV,o9,Q]
 have x4:zbc 8 (dFn ze9 (dA (zaj zaL (dRO 2 (dR (dFz (zfZ (zab 3))) dR0))) dA0)) Z1=.ok (.nx,Z2) :=
  zbj (zdd (z:=tz q) (zhr (Z:=Z1) rfl (zaQ (zkT a3 (by have:=H.n6;omega))) ep) rfl) (by simp[Z1])
 have b3:zab 3 Z2=.ok (.int N,Z2):=rfl;have b4:zab 4 Z2=.ok (toD t,Z2):=rfl;have b5:zab 5 Z2=.ok (.lst (lp (due t)),Z2):=rfl;have b8:zab 8 Z2=.ok (tz q,Z2):=rfl;have e0:decide (q∈zaz t)=decide (q∈due t):=by rw[Bool.eq_iff_iff];simp only[war];exact zgK.symm
 have x5:c3 Z2=.ok (.nx,Z2):=by have hh:=zge H hq;rw[e0] at hh;rw[show c3 Z2=_ from zbU (zcf (zaG (zeZ (zmJ b3 b4 b8 hh) (zav (g:=gIn false) b8 b5 zr6) (zs5 (k:=3) (decide (q∈due t))))))];rfl
 have x6:c4 Z2=.ok (.nx,Z2):=by
  have h1:dTB (dOp (gIn true) (zab 8) (zab 5)) Z2=.ok (!decide (q∈due t),Z2):=zaG (zav b8 b5 zr6);by_cases hm:q∈due t
  ·rw[decide_eq_true hm] at h1;rw[show c4 Z2=_ from zbU (znt h1)];rfl
  ·rw[decide_eq_false hm] at h1;have v3:zab 3 (zbo Z2)=.ok (.int N,zbo Z2):=rfl;have v4:zab 4 (zbo Z2)=.ok (toD t,zbo Z2):=rfl;have v8:zab 8 (zbo Z2)=.ok (tz q,zbo Z2):=rfl;have h2:=zu9 (Z:=Z2) (fE:=zaj zbv (dR (zab 3) (dR (zab 4) (dR (zab 8) dR0)))) rfl (zlI v3 v4 v8 (zvm H hq hm));rw[show c4 Z2=_ from zbU (by rw[zkQ h1];exact h2)];rfl
 refine ⟨st2,JV,RV,hs2,?_⟩;show tB Z0=_;unfold tB;rw[zaf x1,zaf x2,zaf x3,zaf x4,zaf x5];exact x6
theorem zsB{ST o6 o7 o8:Option B}{d:Dt}(H:Tn N t)(hd:zn7 (due t).length d=true)(Z:Ev)(e:Z=[S,K,ST,some (.val (.int N)),some (.val (toD t)),some (.val (.lst (lp (due t)))),o6,o7,o8,some (.val d),some (.tab zhi)]):bB Z=.ok (.nx,Z):=by
 have v3:zab 3 (zbo Z)=.ok (.int N,zbo Z):=by rw[e];rfl
 have v4:zab 4 (zbo Z)=.ok (toD t,zbo Z):=by rw[e];rfl
 have v9:zab 9 (zbo Z)=.ok (d,zbo Z):=by rw[e];rfl
 unfold bB;rw[zbU (zu9 (by rw[e];rfl) (zlI v3 v4 v9 (zvw H hd)))];rfl
end
noncomputable def zuc(m:Nat):List Dt:=[.int (m:Nat),.int (-1),.bl true,.non,.str (Str.ofString "0"),.tup [.int 0],.int 100000000000000000000000000000]
theorem zqA{m:Nat}(hm:m<=720):∀ d∈zuc m,zn7 m d=true:=by
 intro d hd;simp only[zuc,wap,wak,or_false] at hd;rcases hd with rfl|rfl|rfl|rfl|rfl|rfl|rfl
 ·show (decide ((m:Int)<0) || decide ((m:Int)<=m))=true;simp
 ·show (decide ((-1:Int)<0) || decide ((m:Int)<=-1))=true;simp
 ·rfl
 ·rfl
 ·rfl
 ·rfl
 ·show (decide ((100000000000000000000000000000:Int)<0) || decide ((m:Int)<=100000000000000000000000000000))=true;rw[decide_eq_true (show (m:Int)<=100000000000000000000000000000 by omega)];simp
theorem zmF{ns:List Int}{k:Nat}{o2 o3 o4 o5 o6 o7 o8 o9:Option B}:∃ b2 b3 b4 b5 b6 b7 b8 b9,outer [some (.val (.scr ns)),some (.val (.int k)),o2,o3,o4,o5,o6,o7,o8,o9,some (.tab zhi)]=.ok (.nx,[some (.val (.scr ns)),some (.val (.int k)),b2,b3,b4,b5,b6,b7,b8,b9,some (.tab zhi)]):=by
 let S:Option B:=some (.val (.scr ns));let K:Option B:=some (.val (.int k));let Q:Option B:=some (.tab zhi);obtain ⟨st,hs,e1⟩:=zmX (ns:=ns) (k:=k);have x1:zb6 2 (zc4 zck (dR (zab 0) (dR (zab 1) dR0))) [S,K,o2,o3,o4,o5,o6,o7,o8,o9,Q]=.ok (.nx,[S,K,some (.own st),o3,o4,o5,o6,o7,o8,o9,Q]) :=
  zqf (zr5 (Z':=[S,K,o2,o3,o4,o5,o6,o7,o8,o9,Q]) (Z'':=[S,K,o2,o3,o4,o5,o6,o7,o8,o9,Q]) rfl rfl e1) xws
 obtain ⟨v,st1,e2,hs1,v0,v1⟩:=zdh (m:=6) hs xwd xwd;obtain ⟨N,hN⟩ : ∃ N:Nat,(N:Int)=1+v:=⟨(1+v).toNat,xwo⟩
 have n1:1<=N:=by omega
 have n6:N<=6:=by omega
 let NV:Option B:=some (.val (.int N));have x2:zbc 3 (dOp zdK (dC (.int 1)) (zaj zaq (dRO 2 (dR (dC (.int 6)) dR0)))) [S,K,some (.own st),o3,o4,o5,o6,o7,o8,o9,Q]=.ok (.nx,[S,K,some (.own st1),NV,o4,o5,o6,o7,o8,o9,Q]):=by refine zbj (zav rfl (zhr (Z:=[S,K,some (.own st),o3,o4,o5,o6,o7,o8,o9,Q]) rfl rfl e2) (z:=.int N) ?_) xws;rw[hN];rfl
 have hgl:(zaC N).length=N:=zbd N;obtain ⟨t,st3,hs3,⟨ho,hpm,hd⟩,e4⟩:=zj7 8 (zaC N) st1 xwo xwd xwo xwo hs1;have H:Tn N t:=⟨n1,n6,xwo,ho,hpm⟩
 let TV:Option B:=some (.val (toD t));let DV:Option B:=some (.val (.lst (lp (due t))));have x4:zbc 4 (zaj (zaN 8) (dRO 2 (dR (dFz (zfZ (zab 3))) dR0))) [S,K,some (.own st1),NV,o4,o5,o6,o7,o8,o9,Q]=.ok (.nx,[S,K,some (.own st3),NV,TV,o5,o6,o7,o8,o9,Q]) :=
  zbj (zhr (Z:=[S,K,some (.own st1),NV,o4,o5,o6,o7,o8,o9,Q]) rfl (zaQ (zkT rfl xwo)) e4) xws
 let Z5:Ev:=[S,K,some (.own st3),NV,TV,o5,o6,o7,o8,o9,Q]
 let Z6:Ev:=[S,K,some (.own st3),NV,TV,DV,o6,o7,o8,o9,Q]
 have x5:zbc 5 (zaj zb7 (dR (zab 4) (dR (zaj zcn (dR (zab 3) dR0)) dR0))) Z5=.ok (.nx,Z6):=by have a3:zab 3 Z5=.ok (.int (N:Nat),Z5):=rfl;have a4:zab 4 Z5=.ok (toD t,Z5):=rfl;have:=zrQ (rs:=zbw N N) H.d ho H.nd H.l (by have:=zmg N n6 N (wal _);omega) λr hr=>(zgq.mp hr).trans hpm.symm;rw[<- zkV ho hpm] at this;exact zbj (zeZ a4 (zde a3 (zmE n6)) this) (by simp[Z5])
 obtain ⟨Z7,⟨st7,b6,b7,b8,hs7,rfl⟩,x7⟩:=zbf (u:=λi:Nat=>Dt.int i) (l:=List.range 6) (g:=zaU 6) (body:=tB) (fi:=zbH (dC (.int 6))) (Z:=Z6) (I:=λdn Z=>∃ st' b6 b7 b8,St st'/\Z=[S,K,some (.own st'),NV,TV,DV,b6,b7,b8,o9,Q]) (zjs (m:=6) (Z1:=Z6) rfl xwd) rfl ⟨st3,o6,o7,o8,hs3,rfl⟩
  (λdn c zbq e Z ⟨st',b6,b7,b8,hs',hρ⟩=>by subst hρ;obtain ⟨st2,d7,d8,h2,e2⟩:=zsu (S:=S) (K:=K) (o6:=some (.val (.int (c:Nat)))) (o7:=b7) (o8:=b8) (o9:=o9) H hs' rfl;exact ⟨_,_,rfl,e2,st2,_,d7,d8,h2,rfl⟩)
 let Z8:Ev:=[S,K,some (.own st7),NV,TV,DV,b6,b7,b8,o9,Q]
 have a5:zab 5 Z8=.ok (.lst (lp (due t)),Z8):=rfl;have l5:dFn zcG (dA (zab 5) dA0) Z8=.ok (.int ((due t).length:Nat),Z8):=zdd a5 (by show R.ok (Dt.int ((lp (due t)).length:Nat))=_;rw[ze3]);have hb:dIt (dFz (zbQ zsd)) Z8=.ok (zuc (due t).length,Z8):=by have:dFz (zbQ zsd) Z8=.ok (.lst (zuc (due t).length),Z8):=zaQ (zou (zpT l5 rfl) (show 7<=16777216 by decide));unfold dIt;rw[this];rfl
 obtain ⟨Z9,⟨b9,rfl⟩,x9⟩:=zbf (u:=id) (l:=zuc (due t).length) (g:=zaU 9) (body:=bB) (I:=λdn Z=>∃ b9,Z=[S,K,some (.own st7),NV,TV,DV,b6,b7,b8,b9,Q]) hb (List.map_id _).symm ⟨o9,rfl⟩
  (λdn d zbq e Z ⟨b9,hρ⟩=>by subst hρ;have hd:zn7 (due t).length d=true:=zqA (znK H).2 d (by rw[e];simp);exact ⟨[S,K,some (.own st7),NV,TV,DV,b6,b7,b8,some (.val d),Q],_,rfl,zsB H hd _ rfl,some (.val d),rfl⟩)
 refine ⟨some (.own st7),NV,TV,DV,b6,b7,b8,b9,?_⟩;unfold outer;rw[zaf x1,zaf x2,zaf x4,zaf x5,zaf x7];exact x9
theorem zqJ(ns:List Int):ztD 9 zhi zlw ns:=by
 let Z0:Ev:=[some (.val (.scr ns)),none,none,none,none,none,none,none,none,none,some (.tab zhi)]
 obtain ⟨j,hj,ej⟩ : ∃ j:Nat,j<=1000/\dFn ziC (dA (dC (.int 1)) (dA (dFn zi8 (dA (dFn zcG (dA (zab 0) dA0)) (dA (dC (.int 3)) dA0))) dA0)) Z0=.ok (.int (j:Nat),Z0):=by
  have h0:dFn ziC (dA (dC (.int 1)) (dA (dFn zi8 (dA (dFn zcG (dA (zab 0) dA0)) (dA (dC (.int 3)) dA0))) dA0)) Z0=.ok (.int (if (if (3:Int)<ns.length then (3:Int) else ns.length) > 1 then (if (3:Int)<ns.length then (3:Int) else ns.length) else 1),Z0):=rfl;obtain ⟨j,h1,h2⟩ : ∃ j:Nat,(j:Int)=(if (if (3:Int)<ns.length then (3:Int) else ns.length) > 1 then (if (3:Int)<ns.length then (3:Int) else ns.length) else 1)/\j<=1000:=by refine ⟨(if (if (3:Int)<ns.length then (3:Int) else ns.length) > 1 then (if (3:Int)<ns.length then (3:Int) else ns.length) else 1).toNat,?_,?_⟩ <;> split <;> split <;> omega
  refine ⟨j,h2,?_⟩;rw[h0,h1]
 obtain ⟨Z',⟨a1,a2,a3,a4,a5,a6,a7,a8,a9,rfl⟩,e⟩:=zbf (u:=λi:Nat=>Dt.int i) (l:=List.range j) (g:=zaU 1) (body:=outer) (Z:=Z0)
  (I:=λ_ Z=>∃ a1 a2 a3 a4 a5 a6 a7 a8 a9,Z=[some (.val (.scr ns)),a1,a2,a3,a4,a5,a6,a7,a8,a9,some (.tab zhi)]) (zjs ej hj) rfl ⟨none,none,none,none,none,none,none,none,none,rfl⟩
  (λdn k zbq _ Z ⟨a1,a2,a3,a4,a5,a6,a7,a8,a9,hρ⟩=>by subst hρ;obtain ⟨b2,b3,b4,b5,b6,b7,b8,b9,e⟩:=zmF (ns:=ns) (k:=k) (o2:=a2) (o3:=a3) (o4:=a4) (o5:=a5) (o6:=a6) (o7:=a7) (o8:=a8) (o9:=a9);exact ⟨[some (.val (.scr ns)),some (.val (.int k)),a2,a3,a4,a5,a6,a7,a8,a9,some (.tab zhi)],_,rfl,e,_,_,_,_,_,_,_,_,_,rfl⟩)
 refine ⟨[some (.val (.scr ns)),a1,a2,a3,a4,a5,a6,a7,a8,a9,some (.tab zhi)],?_⟩;show zlw Z0=_;rw[zss,zaf e];rfl
theorem at8{α:Type}{f g:Nat->α}(h:(List.range 8).map f=(List.range 8).map g):∀ n,n<8->f n=g n:=λn hn=>List.map_inj_left.mp h n (List.mem_range.mpr hn)
theorem xc_of{K:W.Frag}{cls:Nat->Addr}(h:((List.range 8).map λn=>(W.excIn K (cls n) bmV "ValueError.__new__",W.findIn K (.ref (cls n)) "__getattribute__",W.findIn K (.ref (cls n)) "__getattr__",W.findIn K (.ref (cls n)) "__class__",W.subIn K (.ref (cls n)) (.type "BaseException")))=(List.range 8).map λ_=>(true,some (some (.builtin "BaseException.__getattribute__")),some none,some (some (.builtin "object.__class__")),some true)):∀ n,n<8->Xin K (cls n):=λn hn=>by have e:=at8 h n hn;simp only[Prod.mk.injEq] at e;exact ⟨e.1,e.2.1,e.2.2.1,e.2.2.2.1,e.2.2.2.2⟩
theorem xi_of{K:W.Frag}{cls:Nat->Addr}(h:((List.range 8).map λn=>(List.range 8).map λk=>W.kitOne K (.ref (cls n)) (.ref (cls k)))=(List.range 8).map λn=>(List.range 8).map λk=>some (n == k)):∀ n k,n<8->k<8->W.kitOne K (.ref (cls n)) (.ref (cls k))=some (n == k):=λn k hn hk=>at8 (at8 h n hn) k hk
noncomputable abbrev c8(a b c d e f g h:Addr):Nat->Addr:=λn=>match n with|0=>a|1=>b|2=>c|3=>d|4=>e|5=>f|6=>g|_=>h
section
variable{K:W.Frag}{h:Heap}{mg:Str->Option Value}(X:K.In h)(G:h.Ns mainGlobals mg)
include X G in
theorem fe{x:String}{i:Nat}{f:Addr}{od an:Option Addr}{sl:Array (Option Value)}{oc kV dc pm cd ct:Value}(a:W.nsIn K mainGlobals (Str.ofString x)=some (some (.ref f)))(l:K.lookup f=some ⟨oc,od,.func (W.fnOf (Str.ofString x) (Str.ofString x) (zeI (top i)) (zcr (top i)) (zal (top i)) .none kV dc pm an cd ct),sl⟩)(c:W.codeIn K cd (Str.ofString x)=true)(k:W.keepIn K (.ref f)=true):Uf K mg x i:=⟨_,_,zra (st:=top i) l c k,W.mg_of X G a⟩
include X G in
theorem xs_of{CS:Addr}{x:Str}{cls:Nat->Addr}(m:W.nsIn K mainGlobals x=some (some (.ref CS)))(i:Xin K CS)(s:∀ n,n<8->W.subIn K (.ref (cls n)) (.ref CS)=some true):∃ Cs,Xin K Cs/\mg x=some (.ref Cs)/\∀ n,n<8->W.subIn K (.ref (cls n)) (.ref Cs)=some true:=⟨_,i,W.mg_of X G m,s⟩
include X G in
theorem ct{x:Str}{i:Int}{t:Tok}(m:W.nsIn K mainGlobals x=some (some (.int i t))):∃ t,mg x=some (.int i t):=⟨_,W.mg_of X G m⟩
include X G in
theorem fin{l:W.OpenLaw}{w:World}{fa g cM QT:Addr}{C0 C1 C2 C3 C4 C5 C6 C7:Addr}(hfa:mg "law"=some (.ref fa)){oe ao:Option Addr}{sm:Array (Option Value)}{o2 k2 d2 p2 c2:Value}(T:Tx K mg (c8 C0 C1 C2 C3 C4 C5 C6 C7))
  (b:W.nsIn K mainGlobals (Str.ofString "law")=some (some (.ref g))) (lb:K.lookup g=some ⟨o2,oe,.func (W.fnOf (Str.ofString "law") (Str.ofString "law") (zeI (top 43)) (zcr (top 43)) (zal (top 43)) .none k2 d2 p2 ao (.ref cM) c2),sm⟩) (cb:W.codeIn K (.ref cM) (Str.ofString "law")=true) (kb:W.keepIn K (.ref g)=true)
  (ch2:W.codeHdIn K cM QT=true) :
  ∃(fd:FuncData)(cM:Addr),(∀(s:Shared)(v:Value),BindsTo s fd ⟨[v],[]⟩ [("script",v)])/\W.codeHdIn K cM QT=true/\∀ base:Heap,K.In base->base.Ns mainGlobals mg->base.BuiltinsAt mg QT->zff l.prog w K mg base (CXe l.prog w) 38 fa fd ["script"] (spT K QT (ztD 9 zhi zlw)):=by
 have e:=hfa.symm.trans (W.mg_of X G b);cases e;exact ⟨W.fnOf "law" "law" (zeI (top 43)) (zcr (top 43)) (zal (top 43)) .none k2 d2 p2 ao (.ref cM) c2,cM,λs v=>.of_eq rfl,ch2,λbase hK _ hb=>zwe T (zra (st:=top 43) lb cb kb) rfl ch2 hb hK⟩
end
theorem walk{l:W.OpenLaw}{q:Program}{loose:List Str}{XP:(Str->Option Value)->Heap->Prop}{YP:World->Heap->Prop}{d:DefRec}{K:Params->W.Frag}{QT:Addr}(hn:l.most=some 63)(hdf:d.params.defaults=[])
  (hY:∀(w:World)(h:Heap),YP w h->(K w.params).In h) (hYQ:∀(w:World)(h:Heap),YP w h->h.get? QT=some (W.tabObj #[])) (hnt:∀ w:World,W.noTabs (K w.params)=true)
  (F:∀(w:World)(mg:Str->Option Value)(fa:Addr)(h:Heap),(K w.params).In h->h.Ns mainGlobals mg->mg d.name=some (.ref fa) ->
   ∃(fd:FuncData)(cM:Addr),(∀(s:Shared)(u:Value),BindsTo s fd ⟨[u],[]⟩ [("script",u)])/\W.codeHdIn (K w.params) cM QT=true/\∀ base:Heap,(K w.params).In base->base.Ns mainGlobals mg->base.BuiltinsAt mg QT->zff l.prog w (K w.params) mg base (CXe l.prog w) 38 fa fd ["script"] (spT (K w.params) QT (ztD 9 zhi zlw))) :
  W.WalkO q loose XP YP l.row.toRowW d [] (λf vs=>PySem.call f vs) :=
 zp3 (n:=63) (k:=38) (x:="script") (CX:=λw=>CXe l.prog w) (sp:=λw=>spT (K w.params) QT (ztD 9 zhi zlw)) hn xwd hdf ⟨rfl,xwd,xwd⟩ hY hYQ hnt F (λw H a ns hl hP hS=>⟨a,ns,rfl,hS,hP,zqJ ns,λ_=>rfl⟩) λ_ _ _ _ _ z=>CXe.none z
end Lw
def PySem.W.Fast.tw3466314112218721993:=0
def PySem.W.Fast.tw9660232583783314797:=0
def PySem.W.Fast.tw10523837246539003606:=0
def PySem.W.Fast.tw3690231116774471400:=0
def PySem.W.Fast.tw12769756767445205599:=0
def PySem.W.Fast.tw10937349495956418848:=0
def PySem.W.Fast.tw17302611953208521981:=0
def PySem.W.Fast.tw7233091049414703411:=0
def PySem.W.Fast.tw16035660522693355566:=0
def PySem.W.Fast.tw10992330625280939543:=0
def PySem.W.Fast.tw18258777143891894539:=0
def PySem.W.Fast.tw17147108258830463815:=0
def PySem.W.Fast.tw23099040508821437:=0
def PySem.W.Fast.tw7423407676855291984:=0
def PySem.W.Fast.tw4941360281941431483:=0
def PySem.W.Fast.tw14489539364203038382:=0
def PySem.W.Fast.tw8899096659978580137:=0
def PySem.W.Fast.tw10966593234410890642:=0
def PySem.W.Fast.tw15520556247611252998:=0
def PySem.W.Fast.tw18167657921936012102:=0
def PySem.W.Fast.tw11963541606764805771:=0
def PySem.W.Fast.tw117663449440916218:=0
def PySem.W.Fast.tw4484528376862859606:=0
def PySem.W.Fast.tw5376071406087249909:=0
def PySem.W.Fast.tw244042361716136683:=0
def PySem.W.Fast.tw3799660848487293793:=0
def PySem.W.Fast.tw9899044106969892700:=0
def PySem.W.Fast.tw2222491215845270922:=0
def PySem.W.Fast.tw11706797293300362168:=0
def PySem.W.Fast.tw4823277501406425241:=0
def PySem.W.Fast.tw6459153231029026703:=0
def PySem.W.Fast.tw8437250125374651426:=0
def PySem.W.Fast.tw6383448106984667110:=0
def PySem.W.Fast.tw7937965064403507753:=0
def PySem.W.Fast.tw8058650600259108271:=0
def PySem.W.Fast.tw15785100835934350317:=0
def PySem.W.Fast.tw6597475385443476495:=0
def PySem.W.Fast.tw4816789521063757990:=0
def PySem.W.Fast.tw10801593300544246185:=0
def PySem.W.Fast.tw4823424663485977580:=0
def PySem.W.Fast.tw13232565290446897479:=0
def PySem.W.Fast.tw4527158975002992120:=0
def PySem.W.Fast.tw9439233313565611232:=0
def PySem.W.Fast.tw6255743485793489649:=0
def PySem.W.Fast.tw13472206428805356581:=0
def PySem.W.Fast.tw17967485789124612583:=0
def PySem.W.Fast.tw9652715916246375975:=0
def PySem.W.Fast.tw1724629443740219870:=0
def PySem.W.Fast.tw14602378222347612170:=0
def PySem.W.Fast.tw14427107898649406598:=0
def PySem.W.Fast.tw16901736121616654802:=0
def PySem.W.Fast.tw8314659670751260787:=0
def PySem.W.Fast.tw625979497009506028:=0
def PySem.W.Fast.tw3702427661839948747:=0
def PySem.W.Fast.tw4449608590503604912:=0
def PySem.W.Fast.tw11383222330015684567:=0
def PySem.W.Fast.tw13165265435939197009:=0
def PySem.W.Fast.tw6581702820514514118:=0
def PySem.W.Fast.tw7124872267399484614:=0
def PySem.W.Fast.tw6284666358437147082:=0
def PySem.W.Fast.tw4892278352827252294:=0
def PySem.W.Fast.tw15899650046252116700:=0
def PySem.W.Fast.tw15872418213528567224:=0
def PySem.W.Fast.tw11701342960315244406:=0
def PySem.W.Fast.tw15086016172151717621:=0
def PySem.W.Fast.tw8905984201409756657:=0
def PySem.W.Fast.tw9521631312615758509:=0
def PySem.W.Fast.tw1846150950555042642:=0
def PySem.W.Fast.tw17921055179517874988:=0
def PySem.W.Fast.tw16643815208910475569:=0
def PySem.W.Fast.tw14849836078290047634:=0
def PySem.W.Fast.tw16017923763878861032:=0
def PySem.W.Fast.tw12689992712564887495:=0
def PySem.W.Fast.tw17426681645063165698:=0
def PySem.W.Fast.tw5473618778643103796:=0
def PySem.W.Fast.tw1608700973269898712:=0
def PySem.W.Fast.tw6746461076231182886:=0
def PySem.W.Fast.tw7792351433506293753:=0
open PySem PySem.W PyProof.Rows
set_option maxRecDepth 100000 in
set_option maxHeartbeats 0 in
theorem PySem.Challenge.cw_standtogether_k05_rows_by_numbers_holds : PySem.Challenge.rw_standtogether_k05_rows_by_numbers.Holds := by
  w_on; o_law; k_head; (case hw => w_witness2)
  k_fill
  refine Lw.walk (l := PySem.Challenge.rw_standtogether_k05_rows_by_numbers) rfl rfl (fun w h Y => PySem.W.km_in_of Y) (fun w h Y => PySem.W.km_tabs_of Y _ List.mem_cons_self) (fun w => by kernel_rfl) ?F
  case F =>
    intro w mg fa h KX G hmg
    refine' Lw.fin KX G hmg ⟨Lw.xc_of ?_,PySem.W.mg_of KX G ?x0,PySem.W.mg_of KX G ?x1,PySem.W.mg_of KX G ?x2,PySem.W.mg_of KX G ?x3,PySem.W.mg_of KX G ?x4,PySem.W.mg_of KX G ?x5,PySem.W.mg_of KX G ?x6,
     PySem.W.mg_of KX G ?x7,Lw.xs_of KX G ?x8 ⟨?_,?_,?_,?_,?_⟩ (Lw.at8 ?_),Lw.xi_of ?_,Lw.at8 ?_,Lw.fe KX G ?_ ?_ ?_ ?_,Lw.fe KX G ?_ ?_ ?_ ?_,Lw.fe KX G ?_ ?_ ?_ ?_,Lw.fe KX G ?_ ?_ ?_ ?_,
     Lw.fe KX G ?_ ?_ ?_ ?_,Lw.fe KX G ?_ ?_ ?_ ?_,Lw.fe KX G ?_ ?_ ?_ ?_,Lw.fe KX G ?_ ?_ ?_ ?_,Lw.fe KX G ?_ ?_ ?_ ?_,Lw.fe KX G ?_ ?_ ?_ ?_,Lw.fe KX G ?_ ?_ ?_ ?_,Lw.fe KX G ?_ ?_ ?_ ?_,
     Lw.fe KX G ?_ ?_ ?_ ?_,Lw.fe KX G ?_ ?_ ?_ ?_,Lw.fe KX G ?_ ?_ ?_ ?_,Lw.fe KX G ?_ ?_ ?_ ?_,Lw.fe KX G ?_ ?_ ?_ ?_,Lw.fe KX G ?_ ?_ ?_ ?_,Lw.fe KX G ?_ ?_ ?_ ?_,Lw.fe KX G ?_ ?_ ?_ ?_,
     Lw.fe KX G ?_ ?_ ?_ ?_,Lw.fe KX G ?_ ?_ ?_ ?_,Lw.fe KX G ?_ ?_ ?_ ?_,Lw.fe KX G ?_ ?_ ?_ ?_,Lw.fe KX G ?_ ?_ ?_ ?_,Lw.fe KX G ?_ ?_ ?_ ?_,Lw.fe KX G ?_ ?_ ?_ ?_,Lw.fe KX G ?_ ?_ ?_ ?_,
     Lw.fe KX G ?_ ?_ ?_ ?_,Lw.fe KX G ?_ ?_ ?_ ?_,PySem.W.mg_none_of KX G ?_,PySem.W.mg_none_of KX G ?_,PySem.W.mg_none_of KX G ?_,PySem.W.mg_none_of KX G ?_,PySem.W.mg_none_of KX G ?_,PySem.W.mg_none_of KX G ?_,
     PySem.W.mg_none_of KX G ?_,PySem.W.mg_none_of KX G ?_,PySem.W.mg_none_of KX G ?_,PySem.W.mg_none_of KX G ?_,PySem.W.mg_none_of KX G ?_,PySem.W.mg_none_of KX G ?_,PySem.W.mg_none_of KX G ?_,PySem.W.mg_none_of KX G ?_,
     Lw.ct KX G ?_⟩ ?_ ?_ ?_ ?_ ?_
    (case x0|x1|x2|x3|x4|x5|x6|x7|x8 => k_is)
    all_goals try first | k_is | kernel_rfl
end
