import PyProof.Rows.All
import Wide.All
import OpenK.AllK
import Wide.FinOn
import Lean
import PyProof.EqAt
import PyProof.EqKinds
import PyProof.TupleCall
import PyProof.Walks
import PyProof.ListMulRoad
import PyProof.ReprRoads
import PyProof.NeData
import PyProof.P3In
import PyProof.ZipIter
import PyProof.Draws
import PyProof.TupleIter
import PyProof.Rows.StrRules
import PyProof.CompUse
import PyProof.ListRange
import KE.KDictLaws
import PyProof.EnumFor
import PyProof.EnumMake
import PyProof.EnumStmt
import PyProof.ConsumeWalk
import KE.KMinKey
import PyProof.ListNew
import PyProof.Rows.SetFrom
import PyProof.WalksMore
import PySem.Challenge.RW_rimehold_k53_rings_looked_at
set_option Elab.async false
set_option linter.all false
set_option maxRecDepth 100000
set_option maxHeartbeats 4000000
set_option exponentiation.threshold 3000
section
open PySem
def zB:=@wpAny_bind
def zP:=@wpAny_pure
def zA:=@Bool.and_eq_true
def zL:=@Nat.le_refl
def zH:=@Heap.get?_push_of_some
end
namespace L2
open PySem PySem.Spec PyProof.Rows
noncomputable abbrev Key:=Sum Int Str
noncomputable def keyIs:Key->Value->Bool
  |.inl k,v=>Value.isInt k v
  |.inr x,v=>Value.isStrOf x v
noncomputable def keyH (w:World):Key->Int
  |.inl k=>hashInt k
  |.inr x=>hashStr w x
theorem gc:∀ {k:Key}{v:Value},keyIs k v=true->(∃ i t,k=Sum.inl i /\ v=Value.int i t) \/ (∃ x t,k=Sum.inr x /\ v=Value.str x t)
  | .inl i,v,h=>by
    obtain⟨t,e⟩:=Value.isInt_shape (k:=i) (v:=v) h;exact .inl ⟨i,t,rfl,e⟩
  | .inr x,v,h=>by
    obtain⟨t,e⟩:=Value.isStrOf_shape (x:=x) (v:=v) h;exact .inr ⟨x,t,rfl,e⟩
theorem FV (i:Int) (t:Tok):keyIs (.inl i) (.int i t)=true:=by simp[keyIs,Value.isInt]
theorem FW (x:Str) (t:Tok):keyIs (.inr x) (.str x t)=true:=by simp[keyIs,Value.isStrOf]
theorem Oe (a b:Int):decide ((Sum.inl a:Key)=Sum.inl b)=(a==b):=by
  by_cases e:a=b
  . subst e;simp
  . have h:¬ (Sum.inl a:Key)=Sum.inl b:=λq=>e (Sum.inl.inj q);rw[decide_eq_false h];exact(beq_eq_false_iff_ne.mpr e).symm
theorem Of (a b:Str):decide ((Sum.inr a:Key)=Sum.inr b)=decide (a=b):=by
  by_cases e:a=b
  . subst e;simp
  . have h:¬ (Sum.inr a:Key)=Sum.inr b:=λq=>e (Sum.inr.inj q);rw[decide_eq_false h,decide_eq_false e]
theorem Og (a:Int) (b:Str):decide ((Sum.inl a:Key)=Sum.inr b)=false:=decide_eq_false (λq=>nomatch q)
theorem Oh (a:Str) (b:Int):decide ((Sum.inr a:Key)=Sum.inl b)=false:=decide_eq_false (λq=>nomatch q)
noncomputable def mixKind (prog:Program) (w:World):PySem.KeyKind prog w Key where
  is:=keyIs
  hash:=keyH w
  inj:=λv a b ha hb=>by
    rcases gc ha with⟨i,t,rfl,rfl⟩|⟨x,t,rfl,rfl⟩
    . rcases gc hb with⟨j,u,rfl,e⟩|⟨y,u,rfl,e⟩
      . injection e with e1 _;rw[e1]
      . exact nomatch e
    . rcases gc hb with⟨j,u,rfl,e⟩|⟨y,u,rfl,e⟩
      . exact nomatch e
      . injection e with e1 _;rw[e1]
  byValue:=λk v h=>by
    rcases gc h with⟨i,t,rfl,rfl⟩|⟨x,t,rfl,rfl⟩<;>rfl
  pyHash:=λhv h=>by
    rcases gc hv with⟨i,t,rfl,rfl⟩|⟨x,t,rfl,rfl⟩
    . exact wpAny_pyHash_int h
    . exact wpAny_pyHash_str h
  eqBool:=λhu hv h=>by
    rcases gc hu with⟨i,t,rfl,rfl⟩|⟨x,t,rfl,rfl⟩
    . rcases gc hv with⟨j,u,rfl,rfl⟩|⟨y,u,rfl,rfl⟩
      . rw[Oe]at h;exact wpAny_eqBool_int h
      . rw[Og]at h;exact SeqAt.EqAt.int_str i t y u _ _ _ _ h
    . rcases gc hv with⟨j,u,rfl,rfl⟩|⟨y,u,rfl,rfl⟩
      . rw[Oh]at h;exact SeqAt.EqAt.str_int x t j u _ _ _ _ h
      . rw[Of]at h;exact wpAny_eqBool_str h
  «strs»:=λk x t v h=>by
    rcases gc h with⟨i,u,rfl,e⟩|⟨y,u,rfl,e⟩
    . exact nomatch e
    . injection e with e1 _;subst e1;cases v<;>rfl
theorem BK (prog:Program) (w:World) (i:Int) (t:Tok):(mixKind prog w).is (.inl i) (.int i t)=true:=FV i t
theorem BL (prog:Program) (w:World) (x:Str) (t:Tok):(mixKind prog w).is (.inr x) (.str x t)=true:=FW x t
inductive V where
  |non|bl (b:Bool)|int (i:Int)|str (x:Str)|byt (b:Array UInt8)|flt (b:UInt64)|ref (a:Addr)|ty (n:String)
  deriving DecidableEq
noncomputable def RelV:V->Value->Prop
  |.non,u=>u=Value.none
  |.bl b,u=>u=Value.bool b
  |.int i,u=>∃ t,u=Value.int i t
  |.str x,u=>∃ t,u=Value.str x t
  |.byt b,u=>∃ t,u=Value.bytes b t
  |.flt b,u=>∃ t,u=Value.float b t
  |.ref a,u=>u=Value.ref a
  |.ty n,u=>u=Value.type n
abbrev Vals:List V->List Value->Prop:=Paired RelV
theorem Vals.length {xs:List V}{us:List Value}(r:Vals xs us):xs.length=us.length:=Paired.length r
theorem Vals.get:∀ {xs:List V}{us:List Value}{i:Nat}{x:V},Vals xs us->xs[i]?=some x->∃ u,us[i]?=some u /\ RelV x u
  |_,_,_,_,.nil,e=>by simp at e
  |_,_,0,_,.cons r _,e=>by simp at e;subst e;exact⟨_,rfl,r⟩
  | _,_,i+1,x,.cons _ t,e=>by
    obtain⟨u,h1,h2⟩:=Vals.get (i:=i) (x:=x) t (by simpa using e);exact⟨u,by simpa using h1,h2⟩
theorem Vals.set {x:V}{u:Value}(r:RelV x u):∀ {xs:List V}{us:List Value}(i:Nat),Vals xs us->Vals (xs.set i x) (us.set i u)
  |_,_,_,.nil=>.nil
  |_,_,0,.cons _ t=>.cons r t
  |_,_,i+1,.cons q t=>.cons q (Vals.set r i t)
theorem Vals.append:∀ {xs ys:List V}{us ws:List Value},Vals xs us->Vals ys ws->Vals (xs++ys) (us++ws)
  |_,_,_,_,.nil,s=>s
  |_,_,_,_,.cons r t,s=>.cons r (Vals.append t s)
theorem Vals.take:∀ {xs:List V}{us:List Value}(n:Nat),Vals xs us->Vals (xs.take n) (us.take n)
  |_,_,0,_=>.nil
  |_,_,_+1,.nil=>.nil
  |_,_,n+1,.cons r t=>.cons r (Vals.take n t)
theorem Vals.drop:∀ {xs:List V}{us:List Value}(n:Nat),Vals xs us->Vals (xs.drop n) (us.drop n)
  |_,_,0,r=>r
  |_,_,_+1,.nil=>.nil
  |_,_,n+1,.cons _ t=>Vals.drop n t
noncomputable def RelO:Option V->Option Value->Prop
  |some v,some u=>RelV v u
  |none,none=>True
  |_,_=>False
def KV {κ:Type}:List (κ×V)->List (κ×Value)->Prop:=Paired λ(p:κ×V) (q:κ×Value)=>p.1=q.1 /\ RelV p.2 q.2
noncomputable def kV:Key->V
  |.inl i=>.int i
  |.inr x=>.str x
inductive HO where
  /-- a list -/
  |lst (xs:List V)
  /-- a tuple (never changes) -/
  |tup (xs:List V)
  /-- a dict whose keys are ints and texts;one whose keys are tuples of ints and texts (the empty one is both) -/
  |dK (kvs:List (Key×V))|dT (kvs:List (List Key×V))
  /-- a set of ints: its members,its size -/
  |set (S:Int->Bool) (n:Nat)
  /-- an instance of the class at C,its dict at dx,its attributes -/
  |ins (C dx:Addr) (fs:List (Str×V))
  /-- the dict of the instance at x -/
  |own (x:Addr)
  /-- the dict of an exception -/
  |xd (fs:List (Str×V))
  /-- a bound method,f of x -/
  |met (f x:Addr)
  /-- a range object lo,lo+1,.. below hi -/
  |rng (lo hi:Int)
  /-- a thing that is known to the object (the script;a dict while a loop walks it): read,never written while it is so -/
  |frz (o:Obj) (u:HO)
  /-- a code object's table -/
  |tbl (ps:Array Value)
  /-- any other thing,by what is true of its one object (a def of one's own: SetO a S n:=HO.ext λh=>..) -/
  |ext (φ:Heap->Prop)
noncomputable abbrev Hp:=Addr->Option HO
noncomputable def upd (H:Hp) (a:Addr) (o:HO):Hp:=λb=>if b=a then some o else H b
theorem fC {H:Hp}{a:Addr}{o:HO}:upd H a o a=some o:=by unfold upd;rw[if_pos rfl]
theorem fq {H:Hp}{a b:Addr}{o:HO}(h:b≠a):upd H a o b=H b:=by unfold upd;rw[if_neg h]
theorem DA {H:Hp}{a:Addr}{o u:HO}:upd (upd H a o) a u=upd H a u:=by
  funext b;unfold upd;split<;>rfl
theorem fJ {H:Hp}{a b:Addr}{o:HO}(h:H a=some o) (h':H b=none):a≠b:=by
  intro e;subst e;rw[h]at h';cases h'
section
variable (P : Program) (w : World)
noncomputable def ObjOk (H:Hp) (h:Heap) (a:Addr):HO->Prop
  |.lst xs=>xs.length<=sizeLine /\ ∃ (its:List Value) (n:Nat),Vals xs its /\ h.get? a=some { cls:=.type "list",data:=.seq its.toArray n }
  |.tup xs=>xs.length<=sizeLine /\ ∃ its:List Value,Vals xs its /\ IsTup h a its.toArray
  |.dK kvs=>kvs.length<=sizeLine /\ (a==sysModules)=false /\ ∃ vs,KV kvs vs /\ h.DictOf (mixKind P w) a vs
  |.dT kvs=>kvs.length<=sizeLine /\ (a==sysModules)=false /\ ∃ xs:List (List Key×Addr×Value),
      Paired (λ(p:List Key×V) (q:List Key×Addr×Value)=>p.1=q.1 /\ H q.2.1=some (.tup (p.1.map kV)) /\ RelV p.2 q.2.2) kvs xs /\
      ∃ o es ep,h.get? a=some o /\ o.ExactDict /\ o.data=.dict es ep /\ es.toList=xs.map (entryOfKey (tupleKind (mixKind P w))) /\ (xs.map (·.1)).Nodup
  |.set S n=>h.SetOf (intKind P w) a S n
  |.ins C dx fs=>H dx=some (.own a) /\ fs.length<=1000 /\ dx≠a /\ h.get? a=some (PySem.W.instObj C dx) /\
      ∃ mA,h.Ns1 dx mA /\ (∀ f,RelO (fs.lookup f) (mA f)) /\ PySem.Within mA (fs.map (·.1))
  |.own _=>∃ o,h.get? a=some o
  |.xd fs=>∃ mA,h.Ns1 a mA /\ ∀ f,RelO (fs.lookup f) (mA f)
  |.rng lo hi=>∃ t u v,h.get? a=some { cls:=.type "range",data:=.fields #[.int lo t,.int hi u,.int 1 v] }
  |.frz o u=>h.get? a=some o /\ ObjOk H h a u
  |.tbl ps=>h.get? a=some { cls:=.none,data:=.fields ps }
  |.met f x=>h.get? a=some (PySem.W.methodObj (.ref f) (.ref x))
  |.ext φ=>φ h /\ (∃ o,h.get? a=some o) /\ ∀ h1 h2:Heap,φ h1->(∀ o,h1.get? a=some o->h2.get? a=some o)->φ h2
def HOk (H:Hp) (h:Heap):Prop:=∀ a o,H a=some o->ObjOk P w H h a o
end
section
variable {P : Program} {w : World} {H H' : Hp} {h h' : Heap} {a : Addr} {o : HO}
theorem ObjOk.lt (x:ObjOk P w H h a o):a<h.objs.size:=by
  cases o with
  |lst xs=>obtain⟨_,_,_,_,e⟩:=x;exact Heap.lt_size e
  |tup xs=>obtain⟨_,_,_,p⟩:=x;exact p.lt
  |dK kvs=>obtain⟨_,_,_,_,o,_,_,e,_⟩:=x;exact Heap.lt_size e
  |dT kvs=>obtain⟨_,_,_,_,o,_,_,e,_⟩:=x;exact Heap.lt_size e
  |set S n=>obtain⟨o,_,_,_,e,_⟩:=x;exact Heap.lt_size e
  |ins C dx fs=>obtain⟨_,_,_,e,_⟩:=x;exact Heap.lt_size e
  |own y=>obtain⟨_,e⟩:=x;exact Heap.lt_size e
  |xd fs=>obtain⟨_,⟨_,_,_,e,_⟩,_⟩:=x;exact Heap.lt_size e
  |rng lo hi=>obtain⟨_,_,_,e⟩:=x;exact Heap.lt_size e
  |frz ob u=>obtain⟨e,_⟩:=x;exact Heap.lt_size e
  |tbl ps=>exact Heap.lt_size (show h.get? a=some _ from x)
  |met f y=>exact Heap.lt_size (show h.get? a=some _ from x)
  |ext φ=>obtain⟨_,⟨_,e⟩,_⟩:=x;exact Heap.lt_size e
theorem Paired.mapP {α β:Type}{F G:α->β->Prop}:∀ {l₁:List α}{l₂:List β},Paired F l₁ l₂->(∀ a b,F a b->G a b)->Paired G l₁ l₂
  |_,_,.nil,_=>.nil
  |_,_,.cons r t,f=>.cons (f _ _ r) (Paired.mapP t f)
theorem ObjOk.stay (x:ObjOk P w H h a o) (k:∀ b u,(b=a \/ H b=some (.own a))->h.get? b=some u->h'.get? b=some u)
    (ho:∀ b,H b=some (.own a)->H' b=some (.own a)) (ht:∀ b xs,H b=some (.tup xs)->H' b=some (.tup xs)):ObjOk P w H' h' a o:=by
  induction o with
  |lst xs=>obtain⟨z,its,n,r,e⟩:=x;exact⟨z,its,n,r,k _ _ (.inl rfl) e⟩
  |tup xs=>obtain⟨z,its,r,ob,e,c⟩:=x;exact⟨z,its,r,ob,k _ _ (.inl rfl) e,c⟩
  |dK kvs=>obtain⟨z,y,vs,r,ob,es,ep,e,c⟩:=x;exact⟨z,y,vs,r,ob,es,ep,k _ _ (.inl rfl) e,c⟩
  | dT kvs =>
    obtain⟨z,y,xs,r,ob,es,ep,e,c⟩:=x;exact⟨z,y,xs,Paired.mapP r λp q z=>⟨z.1,ht _ _ z.2.1,z.2.2⟩,ob,es,ep,k _ _ (.inl rfl) e,c⟩
  |set S n=>obtain⟨ob,es,ep,t,e,c⟩:=x;exact⟨ob,es,ep,t,k _ _ (.inl rfl) e,c⟩
  | ins C dx fs =>
    obtain⟨d,z,ne,e,mA,⟨od,es,ep,e2,c⟩,r⟩:=x;exact⟨ho _ d,z,ne,k _ _ (.inl rfl) e,mA,⟨od,es,ep,k _ _ (.inr d) e2,c⟩,r⟩
  |own y=>obtain⟨ob,e⟩:=x;exact⟨ob,k _ _ (.inl rfl) e⟩
  |xd fs=>obtain⟨mA,⟨od,es,ep,e,c⟩,r⟩:=x;exact⟨mA,⟨od,es,ep,k _ _ (.inl rfl) e,c⟩,r⟩
  |rng lo hi=>obtain⟨t,u,v,e⟩:=x;exact⟨t,u,v,k _ _ (.inl rfl) e⟩
  |frz ob u ih=>obtain⟨e,q⟩:=x;exact⟨k _ _ (.inl rfl) e,ih q⟩
  | tbl ps =>
    have e:h.get? a=some { cls:=.none,data:=.fields ps }:=x;show h'.get? a=some { cls:=.none,data:=.fields ps };exact k a _ (.inl rfl) e
  | met f y =>
    have e:h.get? a=some (PySem.W.methodObj (.ref f) (.ref y)):=x;show h'.get? a=some (PySem.W.methodObj (.ref f) (.ref y));exact k a _ (.inl rfl) e
  |ext φ=>obtain⟨p,⟨o,e⟩,st⟩:=x;exact⟨st _ _ p λo q=>k _ _ (.inl rfl) q,⟨o,k _ _ (.inl rfl) e⟩,st⟩
theorem HOk.lt (x:HOk P w H h) (e:H a=some o):a<h.objs.size:=(x a o e).lt
theorem HOk.fresh (x:HOk P w H h) (e:h.objs.size<=a):H a=none:=by
  cases q:H a with
  |none=>rfl
  |some u=>exact absurd (Nat.lt_of_lt_of_le (x.lt q) e) (Nat.lt_irrefl _)
theorem HOk.kept (x:HOk P w H h) (k:∀ b u,h.get? b=some u->h'.get? b=some u):HOk P w H h':=λa o e =>
  (x a o e).stay (λb u _ q=>k b u q) (λ_ q=>q) λ_ _ q=>q
theorem HOk.laid (x:HOk P w H h) (k:∀ b u,h.get? b=some u->h'.get? b=some u) (hp:h.objs.size<=a) (new:ObjOk P w (upd H a o) h' a o):HOk P w (upd H a o) h':=λb u e=>by
  have hn:=x.fresh hp;by_cases hb:b=a
  . subst hb;rw[fC]at e;cases e;exact new
  . rw[fq hb]at e;exact(x b u e).stay (λc v _ q=>k c v q) (λc q=>by rw[fq (fJ q hn)];exact q) λc xs q=>by rw[fq (fJ q hn)];exact q
end
def Rd (H:Hp) (a:Addr) (u:HO):Prop:=H a=some u \/ ∃ o,H a=some (.frz o u)
theorem Rd.ok {P:Program}{w:World}{H:Hp}{h:Heap}{a:Addr}{u:HO}(r:Rd H a u) (x:HOk P w H h):ObjOk P w H h a u:=by
  rcases r with r|⟨o,r⟩
  . exact x a u r
  . obtain⟨_,q⟩:=x a _ r;exact q
noncomputable def Mut:Option HO->Prop
  |some (.lst _)=>True
  |some (.dK _)=>True
  |some (.dT _)=>True
  |some (.set _ _)=>True
  |some (.ins _ _ _)=>True
  |some (.ext _)=>True
  |_=>False
section
variable {P : Program} {w : World} {H : Hp} {h h' : Heap} {x e : Addr} {o' : HO}
theorem HOk.write (ok:HOk P w H h) (mu:Mut (H x)) (he:e=x \/ H e=some (.own x)) (k:∀ b u,b≠e->h.get? b=some u->h'.get? b=some u) (heo:∃ u,h'.get? e=some u)
    (new:ObjOk P w (upd H x o') h' x o'):HOk P w (upd H x o') h':=λb u q=>by
  have nown:∀ c y,H c=some (.own y)->c≠x:=λc y r z=>by subst z;rw[r]at mu;exact mu
  have ntup:∀ c xs,H c=some (.tup xs)->c≠x:=λc xs r z=>by subst z;rw[r]at mu;exact mu
  by_cases hb:b=x
  . subst hb;rw[fC]at q;cases q;exact new
  . rw[fq hb]at q;by_cases hbe:b=e
    . have q':H b=some (.own x):=by
        rcases he with z|z
        . exact absurd (hbe.trans z) hb
        . rw[hbe];exact z
      rw[q]at q';cases q';obtain⟨v,hv⟩:=heo;exact⟨v,by rw[hbe];exact hv⟩
    . refine(ok b u q).stay (λc v hc r=>k c v ?_ r) (λc r=>by rw[fq (nown c b r)];exact r) λc xs r=>by rw[fq (ntup c xs r)];exact r
      rcases hc with rfl|hc
      . exact hbe
      . rintro rfl;rcases he with z|z
        . exact nown c b hc z
        . rw[hc]at z;cases z;exact hb rfl
end
structure Un (fs ex:List Addr) (H H':Hp) (h h':Heap):Prop where
  keep:∀ b o,h.get? b=some o->H b=none->b∉fs->b∉ex->h'.get? b=some o
  slot:∀ b o,h.get? b=some o->H b=none->b∈fs->b∉ex->∃ sl,h'.get? b=some { o with slots:=sl }
  free:∀ b o,h.get? b=some o->H b=none->b∉ex->H' b=none
  there:∀ b o,h.get? b=some o->b∉ex->∃ o',h'.get? b=some o'
  tups:∀ b xs,H b=some (.tup xs)->H' b=some (.tup xs)
  frzs:∀ b o u,H b=some (.frz o u)->H' b=some (.frz o u)
  tbls:∀ b ps,H b=some (.tbl ps)->∃ more,H' b=some (.tbl (ps++more))
section
variable {fs fs' ex ex' : List Addr} {H H1 H2 : Hp} {h h1 h2 h' : Heap} {a x e : Addr} {o : HO}
theorem Un.any (u:Un fs ex H H1 h h1) {b:Addr}{ob:Obj}(q:h.get? b=some ob) (n:H b=none) (hx:b∉ex):∃ sl,h1.get? b=some { ob with slots:=sl }:=by
  by_cases hb:b∈fs
  . exact u.slot b ob q n hb hx
  . exact⟨ob.slots,u.keep b ob q n hb hx⟩
theorem Un.kept (k:∀ b u,h.get? b=some u->h'.get? b=some u):Un fs ex H H h h' :=
  ⟨λb ob q _ _ _=>k b ob q,λb ob q _ _ _=>⟨ob.slots,k b ob q⟩,λ_ _ _ n _=>n,λb ob q _=>⟨ob,k b ob q⟩,λ_ _ q=>q,λ_ _ _ q=>q,λ_ ps q=>⟨#[],by rw[q];simp⟩⟩
theorem Un.refl:Un fs ex H H h h:=Un.kept λ_ _ q=>q
theorem Un.laid (k:∀ b u,h.get? b=some u->h'.get? b=some u) (hp:h.objs.size<=a) (hn:H a=none):Un fs ex H (upd H a o) h h' where
  keep:=λb u q _ _ _=>k b u q
  slot:=λb u q _ _ _=>⟨u.slots,k b u q⟩
  free:=λb u q n _=>by rw[fq (Nat.ne_of_lt (Nat.lt_of_lt_of_le (Heap.lt_size q) hp))];exact n
  there:=λb u q _=>⟨u,k b u q⟩
  tups:=λb xs q=>by rw[fq (fJ q hn)];exact q
  frzs:=λb u xs q=>by rw[fq (fJ q hn)];exact q
  tbls:=λb ps q=>⟨#[],by rw[fq (fJ q hn),q];simp⟩
theorem Un.write (mu:Mut (H x)) (he:e=x \/ H e=some (.own x)) (k:∀ b u,b≠e->h.get? b=some u->h'.get? b=some u) (heo:∃ u,h'.get? e=some u):Un fs ex H (upd H x o) h h':=by
  have hx:∀ b,H b=none->b≠x:=λb n z=>by subst z;rw[n]at mu;exact mu
  have hb:∀ b,H b=none->b≠e:=λb n z=>by
    subst z;rcases he with r|r
    . exact hx b n r
    . rw[n]at r;cases r
  have hm:∀ b u,H b=some u->¬ Mut (some u)->b≠x:=λb u q nm z=>by subst z;rw[q]at mu;exact nm mu
  refine⟨λb u q n _ _=>k b u (hb b n) q,λb u q n _ _=>⟨u.slots,k b u (hb b n) q⟩,λb u q n _=>by rw[fq (hx b n)];exact n,λb u q _=>?_,
    λb xs q=>by rw[fq (hm b _ q λz=>z)];exact q,λb u xs q=>by rw[fq (hm b _ q λz=>z)];exact q,λb ps q=>⟨#[],by rw[fq (hm b _ q λz=>z),q];simp⟩⟩
  by_cases hbe:b=e
  . subst hbe;exact heo
  . exact⟨u,k b u hbe q⟩
end
noncomputable def trk (h:Heap) (H:Hp):List Addr:=(List.range h.objs.size).filter λa=>(H a).isSome
noncomputable def hidT (h:Heap) (H:Hp):Heap:=PySem.W.hideAll h (trk h H)
theorem FX (h:Heap) (H:Hp):(hidT h H).objs.size=h.objs.size:=PySem.W.hideAll_size _ _
theorem GZ {h:Heap}{H:Hp}{b:Addr}{o:Obj}(e:h.get? b=some o) (n:H b=none):(hidT h H).get? b=some o :=
  PySem.W.hideAll_get _ e λhm=>by
    have q:(H b).isSome=true:=(List.mem_filter.mp hm).2;rw[n]at q;simp at q
theorem Ma {h:Heap}{H:Hp}{b:Addr}{o:Obj}(e:(hidT h H).get? b=some o):h.get? b=some o /\ H b=none:=by
  have e':h.get? b=some o:=PySem.W.of_hideAll (trk h H) e;refine⟨e',?_⟩;cases q:H b with
  |none=>rfl
  | some x =>
    have hm:b∈trk h H:=List.mem_filter.mpr ⟨List.mem_range.mpr (Heap.lt_size e'),by simp[q]⟩;have z:(hidT h H).get? b=none:=PySem.W.hideAll_none (trk h H) hm;rw[z]at e;cases e
structure Mod (K:PySem.W.Frag) (mg:Str->Option Value) (base:Heap):Prop where
  kin:K.In base
  glob:base.Ns mainGlobals mg
  blt:∃ mb,base.Ns builtinsNs mb /\ ∀ x:Str,x ≠ "__name__"->mb x=bootBuiltins x
  nolimit:base.NoLimit
structure Cx where
  prog:Program
  w:World
  K:PySem.W.Frag
  mg:Str->Option Value
  base:Heap
  A:Around
  N:List Str
  s₀:Shared
  H₀:Hp
  env:Env
  outer:List Env
  stack:List Env
  ex:List Addr
  fn:Str->Bool
  calm:Bool
  pn:List (Addr×Obj)
  xe:Value->Shared->Prop
noncomputable def frs (l:List Env):List Addr:=l.filterMap (·.frame)
noncomputable abbrev Cx.fs (X:Cx):List Addr:=frs X.outer
def Vis (sc:Scope) (x:Str):Prop:=sc.names.lookup x=some .local \/ sc.names.lookup x=some .cell \/ sc.names.lookup x=some .free
def Loc (sc:Scope) (x:Str):Prop:=sc.names.lookup x=some .local \/ sc.names.lookup x=some .cell
def Look (env:Env) (h:Heap) (m:Str->Option Value) (x:Str) (u:Value):Prop :=
  (env.kindOf x=some .local /\ m x=some u) \/ ((env.kindOf x=some .cell \/ env.kindOf x=some .free) /\ ∃ c,env.cells.lookup x=some c /\ h.IsCell c (some u))
structure Cx.Ok (X:Cx):Prop where
  mod:Mod X.K X.mg X.base
  kind:X.env.scope.kind=.function
  glob:X.env.globals=mainGlobals
  blt:X.env.builtins=builtinsNs
  above:X.s₀.heap.objs.size<=X.env.locals
  inj:∀ x y c,X.env.cells.lookup x=some c->X.env.cells.lookup y=some c->x=y
  has:∀ x,(X.env.kindOf x=some .cell \/ X.env.kindOf x=some .free)->∃ c,X.env.cells.lookup x=some c
  cab:∀ x c,X.fn x=true->X.env.cells.lookup x=some c->X.s₀.heap.objs.size<=c
  hd:X.calm=true->X.A.handled=none
  frames:X.A.frames=some X.stack
  stk:X.stack=X.outer \/ (X.stack=X.env::X.outer /\ X.env.frame=some X.env.locals)
  exf:∀ b∈X.ex,b≠X.env.locals /\ ∀ x c,X.env.cells.lookup x=some c->c≠b
  bs:∀ b o,X.base.get? b=some o->X.s₀.heap.get? b=some o /\ X.H₀ b=none
  bsz:X.base.objs.size<=X.s₀.heap.objs.size
  noex:∀ b o,X.base.get? b=some o->b∉X.ex
  exfs:∀ b∈X.ex,b∉X.fs
  funs:X.s₀.heap.FunFrames X.base X.outer
  frf:∀ b∈X.fs,X.H₀ b=none
structure Inv (X:Cx) (pins:List (Addr×Obj)) (σ:List (Option V)) (H:Hp) (s:Shared):Prop where
  ok:X.Ok
  os:s.os=X.s₀.os
  bare:AllBare s.gens
  base:Un X.fs X.ex X.H₀ H X.s₀.heap s.heap
  loc:∃ m,s.heap.Ns X.env.locals m /\ ∀ (i:Nat) (x:Str) (v:V),X.N[i]?=some x->σ[i]?=some (some v)->Vis X.env.scope x->∃ u,RelV v u /\ Look X.env s.heap m x u
  cell:∀ x c,X.env.cells.lookup x=some c->∃ v,s.heap.IsCell c v
  free:H X.env.locals=none
  freeC:∀ x c,X.env.cells.lookup x=some c->H c=none
  pin:∀ p∈X.pn++pins,s.heap.get? p.1=some p.2 /\ H p.1=none /\ p.1≠X.env.locals /\ p.1∉X.fs /\ ∀ v,p.2.data≠.cell v
  hok:HOk X.prog X.w H s.heap
  len:σ.length=X.N.length
section
variable {X : Cx} {pins : List (Addr × Obj)} {σ : List (Option V)} {H H' : Hp} {s : Shared} {h' : Heap}
theorem Cx.Ok.nofr (ok:X.Ok) {b:Addr}{o:Obj}(e:X.base.get? b=some o):b∉X.fs:=λhb=>by
  have:=(ok.funs.mem hb).1;rw[e]at this;cases this
theorem Inv.bs (I:Inv X pins σ H s):∀ b o,X.base.get? b=some o->s.heap.get? b=some o /\ H b=none:=λb o e =>
  ⟨I.base.keep b o (I.ok.bs b o e).1 (I.ok.bs b o e).2 (I.ok.nofr e) (I.ok.noex b o e),I.base.free b o (I.ok.bs b o e).1 (I.ok.bs b o e).2 (I.ok.noex b o e)⟩
theorem Inv.bk (I:Inv X pins σ H s):∀ b o,X.base.get? b=some o->s.heap.get? b=some o:=λb o e=>(I.bs b o e).1
theorem Inv.mod (I:Inv X pins σ H s):Mod X.K X.mg X.base:=I.ok.mod
theorem Inv.kIn (I:Inv X pins σ H s):X.K.In s.heap:=I.ok.mod.kin.keeps I.bk
theorem Inv.lt (I:Inv X pins σ H s):X.env.locals<s.heap.objs.size:=let ⟨_,hn,_⟩:=I.loc;hn.lt
theorem Inv.sz (I:Inv X pins σ H s):X.s₀.heap.objs.size<=s.heap.objs.size:=Nat.le_trans I.ok.above (Nat.le_of_lt I.lt)
theorem Inv.nofs (I:Inv X pins σ H s) {a:Addr}(h:s.heap.objs.size<=a):a∉X.fs:=λhb=>by
  obtain⟨_,o,ho,_⟩:=I.ok.funs.mem hb;exact absurd (Nat.lt_of_lt_of_le (Heap.lt_size ho) (Nat.le_trans I.sz h)) (Nat.lt_irrefl _)
theorem Inv.cne (I:Inv X pins σ H s):∀ x c,X.env.cells.lookup x=some c->c≠X.env.locals:=λx c e z=>by
  obtain⟨v,o,ho,hd⟩:=I.cell x c e;obtain⟨m,⟨o',es,ep,ho',hd',_⟩,_⟩:=I.loc;rw[z,ho']at ho;cases ho;rw[hd']at hd;cases hd
theorem Inv.funs (I:Inv X pins σ H s):s.heap.FunFrames X.base X.outer:=by
  have all:∀ (l:List Env),(∀ b∈frs l,b∈X.fs)->X.s₀.heap.FunFrames X.base l->s.heap.FunFrames X.base l:=by
    intro l;induction l with
    |nil=>intro _ _;trivial
    | cons env r ih =>
      intro hs hl;obtain⟨hk,⟨L,o,hf,hn,ho,hd⟩,hr⟩:=hl;have hL:L∈X.fs:=hs L (by unfold frs;rw[List.filterMap_cons,hf];exact List.mem_cons_self);obtain⟨sl,e⟩:=I.base.slot L o ho (I.ok.frf L hL) hL λz=>I.ok.exfs L z hL;exact⟨hk,⟨L,_,hf,hn,e,hd⟩,ih (λb hb=>hs b (by unfold frs;rw[List.filterMap_cons,hf];exact List.mem_cons_of_mem _ hb)) hr⟩
  exact all X.outer (λ_ hb=>hb) I.ok.funs
theorem Inv.stack (I:Inv X pins σ H s):s.heap.FunFrames X.base X.stack:=by
  rcases I.ok.stk with e|⟨e,hf⟩
  . rw[e];exact I.funs
  . rw[e];obtain⟨m,hn,_⟩:=I.loc;refine .cons (by rw[I.ok.kind];decide) hf hn ?_ I.funs;exact Heap.get?_none_of_le (Nat.le_trans I.ok.bsz I.ok.above)
theorem Inv.stkSub (I:Inv X pins σ H s):∀ b∈frs X.stack,b∈X.env.locals::X.fs:=λb hb=>by
  rcases I.ok.stk with e|⟨e,hf⟩
  . rw[e]at hb;exact List.mem_cons_of_mem _ hb
  . rw[e]at hb;unfold frs at hb;rw[List.filterMap_cons,hf]at hb;exact hb
theorem Inv.stkFree (I:Inv X pins σ H s):∀ b∈frs X.stack,H b=none:=λb hb=>by
  rcases List.mem_cons.mp (I.stkSub b hb) with e|hb
  . rw[e];exact I.free
  . obtain⟨_,o,ho,_⟩:=I.ok.funs.mem hb;exact I.base.free b o ho (I.ok.frf b hb) λz=>I.ok.exfs b z hb
theorem Inv.step {g':Array GenState}{t':Nat}{d':Drawn}{ch:List Addr}(I:Inv X pins σ H s)
    (hch:∀ b∈ch,(b∈X.ex \/ X.s₀.heap.objs.size<=b) /\ b≠X.env.locals /\ (∀ x c,X.env.cells.lookup x=some c->c≠b) /\ ∀ p∈X.pn++pins,p.1≠b)
    (keep:∀ b o,b≠X.env.locals->b∉X.fs->b∉ch->s.heap.get? b=some o->H b=none->h'.get? b=some o)
    (slot:∀ b o,b≠X.env.locals->b∈X.fs->b∉ch->s.heap.get? b=some o->H b=none->∃ sl,h'.get? b=some { o with slots:=sl }) (free:∀ b o,b∉ch->s.heap.get? b=some o->H b=none->H' b=none)
    (there:∀ b o,b∉ch->s.heap.get? b=some o->∃ o',h'.get? b=some o')
    (tups:∀ b xs,H b=some (.tup xs)->H' b=some (.tup xs)) (frzs:∀ b o u,H b=some (.frz o u)->H' b=some (.frz o u)) (tbls:∀ b ps,H b=some (.tbl ps)->∃ more,H' b=some (.tbl (ps++more)))
    (ns:∀ m,s.heap.Ns X.env.locals m->h'.Ns X.env.locals m) (hok:HOk X.prog X.w H' h') (hg:AllBare g') :
    Inv X pins σ H' { s with heap:=h',gens:=g',drawn:=d',toks:=t' }:=by
  have neL:∀ b o,X.s₀.heap.get? b=some o->b≠X.env.locals:=λb o e=>Nat.ne_of_lt (Nat.lt_of_lt_of_le (Heap.lt_size e) I.ok.above);have neC:∀ b o,X.s₀.heap.get? b=some o->b∉X.ex->b∉ch:=λb o e hx hb=>by
    rcases(hch b hb).1 with z|z
    . exact hx z
    . exact absurd (Nat.lt_of_lt_of_le (Heap.lt_size e) z) (Nat.lt_irrefl _)
  have cellK:∀ x c,X.env.cells.lookup x=some c->∀ v,s.heap.IsCell c v->h'.IsCell c v:=λx c e v ⟨o,ho,hd⟩=>by
    have nch:c∉ch:=λz=>(hch c z).2.2.1 x c e rfl;by_cases hc:c∈X.fs
    . obtain⟨sl,q⟩:=slot c o (I.cne x c e) hc nch ho (I.freeC x c e);exact⟨_,q,hd⟩
    . exact⟨o,keep c o (I.cne x c e) hc nch ho (I.freeC x c e),hd⟩
  refine⟨I.ok,I.os,hg,⟨λb o e n hb hx=>?_,λb o e n hb hx=>?_,λb o e n hx=>?_,λb o e hx=>?_,λb xs e=>tups b xs (I.base.tups b xs e),λb o xs e=>frzs b o xs (I.base.frzs b o xs e),λb ps e=>?_⟩,?_,λx c e=>?_,?_,λx c e=>?_,λp hp=>?_,hok,I.len⟩
  . exact keep b o (neL b o e) hb (neC b o e hx) (I.base.keep b o e n hb hx) (I.base.free b o e n hx)
  . obtain⟨sl,e1⟩:=I.base.slot b o e n hb hx;obtain⟨sl',e2⟩:=slot b _ (neL b o e) hb (neC b o e hx) e1 (I.base.free b o e n hx);exact⟨sl',e2⟩
  . obtain⟨o',e1⟩:=I.base.there b o e hx;exact free b o' (neC b o e hx) e1 (I.base.free b o e n hx)
  . obtain⟨o',e1⟩:=I.base.there b o e hx;exact there b o' (neC b o e hx) e1
  . obtain⟨m1,e1⟩:=I.base.tbls b ps e;obtain⟨m2,e2⟩:=tbls b _ e1;exact⟨m1++m2,by rw[e2,Array.append_assoc]⟩
  . obtain⟨m,hn,hl⟩:=I.loc;refine⟨m,ns m hn,λi x v e1 e2 e3=>?_⟩;obtain⟨u,r,l⟩:=hl i x v e1 e2 e3;refine⟨u,r,?_⟩;rcases l with l|⟨k,c,e,z⟩
    . exact .inl l
    . exact .inr ⟨k,c,e,cellK x c e _ z⟩
  . obtain⟨v,z⟩:=I.cell x c e;exact⟨v,cellK x c e v z⟩
  . obtain⟨m,⟨o,_,_,ho,_⟩,_⟩:=I.loc;exact free _ o (λz=>(hch _ z).2.1 rfl) ho I.free
  . obtain⟨v,o,ho,hd⟩:=I.cell x c e;exact free c o (λz=>(hch c z).2.2.1 x c e rfl) ho (I.freeC x c e)
  . obtain⟨e,n,ne,nf,d⟩:=I.pin p hp;have nch:p.1∉ch:=λz=>(hch p.1 z).2.2.2 p hp rfl;exact⟨keep p.1 p.2 ne nf nch e n,free p.1 p.2 nch e n,ne,nf,d⟩
theorem Inv.un {t':Nat}(I:Inv X pins σ H s) (u:Un X.fs [] H H' s.heap h') (hok:HOk X.prog X.w H' h'):Inv X pins σ H' { s with heap:=h',toks:=t' }:=by
  obtain⟨m,⟨o,es,ep,ho,r⟩,_⟩:=id I.loc;obtain⟨sl,hL⟩:=u.any ho I.free (by simp);exact I.step (g':=s.gens) (d':=s.drawn) (ch:=[]) (λ_ z=>nomatch z) (λb o _ hb _ e n=>u.keep b o e n hb (by simp)) (λb o _ hb _ e n=>u.slot b o e n hb (by simp)) (λb o _ e n=>u.free b o e n (by simp)) (λb o _ e=>u.there b o e (by simp)) u.tups u.frzs u.tbls (λm' hm=>by
    obtain⟨o',es',ep',ho',r'⟩:=hm;rw[ho]at ho';cases ho';exact⟨_,es',ep',hL,r'⟩) hok I.bare
theorem Inv.call {g':Array GenState}{t':Nat}{d':Drawn}{ch:List Addr}(I:Inv X pins σ H s) (u:Un (frs X.stack) ch H H' s.heap h') (hok:HOk X.prog X.w H' h') (hg:AllBare g')
    (hch:∀ b∈ch,(b∈X.ex \/ X.s₀.heap.objs.size<=b) /\ b≠X.env.locals /\ (∀ x c,X.env.cells.lookup x=some c->c≠b) /\ ∀ p∈X.pn++pins,p.1≠b) :
    Inv X pins σ H' { s with heap:=h',gens:=g',drawn:=d',toks:=t' }:=by
  obtain⟨m,⟨o,es,ep,ho,r⟩,_⟩:=id I.loc;obtain⟨sl,hL⟩:=u.any ho I.free λz=>(hch _ z).2.1 rfl;exact I.step (ch:=ch) hch (λb o hL hb hc e n=>u.keep b o e n (λz=>(List.mem_cons.mp (I.stkSub b z)).elim hL hb) hc) (λb o _ _ hc e n=>u.any e n hc) (λb o hc e n=>u.free b o e n hc) (λb o hc e=>u.there b o e hc) u.tups u.frzs u.tbls (λm' hm=>by
    obtain⟨o',es',ep',ho',r'⟩:=hm;rw[ho]at ho';cases ho';exact⟨_,es',ep',hL,r'⟩) hok hg
theorem Inv.turned {t':Nat}{it:Addr}(I:Inv X pins σ H s) (k:∀ b o,b≠it->s.heap.get? b=some o->h'.get? b=some o) (hn:H it=none) (hL:it≠X.env.locals)
    (h1:it∈X.ex \/ X.s₀.heap.objs.size<=it) (h2:∀ x c,X.env.cells.lookup x=some c->c≠it) (h3:∀ p∈X.pn++pins,p.1≠it):Inv X pins σ H { s with heap:=h',toks:=t' }:=by
  have nit:∀ b u,H b=some u->b≠it:=λb u e z=>by rw[z,hn]at e;cases e
  refine I.step (g':=s.gens) (d':=s.drawn) (ch:=[it]) (λb hb=>?_) (λb o _ _ hc e _=>k b o (λz=>hc (by simp[z])) e) (λb o _ _ hc e _=>⟨o.slots,k b o (λz=>hc (by simp[z])) e⟩) (λ_ _ _ _ n=>n)
    (λb o hc e=>⟨o,k b o (λz=>hc (by simp[z])) e⟩) (λ_ _ e=>e) (λ_ _ _ e=>e) (λb ps e=>⟨#[],by rw[e];simp⟩) (λm hm=>?_) (λb u e=>?_) I.bare
  . have e:b=it:=by simpa using hb
    subst e;exact⟨h1,hL,h2,h3⟩
  . obtain⟨o,es,ep,ho,r⟩:=hm;exact⟨o,es,ep,k _ o (Ne.symm hL) ho,r⟩
  . refine(I.hok b u e).stay (λc v hc q=>k c v ?_ q) (λ_ q=>q) λ_ _ q=>q;rcases hc with z|z
    . rw[z];exact nit b u e
    . exact nit c _ z
theorem Inv.tok (I:Inv X pins σ H s) (t:Nat):Inv X pins σ H { s with toks:=t }:=I.un (h':=s.heap) (t':=t) Un.refl I.hok
theorem Inv.kept {t':Nat}(I:Inv X pins σ H s) (k:∀ b u,s.heap.get? b=some u->h'.get? b=some u):Inv X pins σ H { s with heap:=h',toks:=t' }:=I.un (Un.kept k) (I.hok.kept k)
theorem Inv.laid {a:Addr}{o:HO}{t':Nat}(I:Inv X pins σ H s) (k:∀ b u,s.heap.get? b=some u->h'.get? b=some u) (hp:s.heap.objs.size<=a) (new:ObjOk X.prog X.w (upd H a o) h' a o) :
    Inv X pins σ (upd H a o) { s with heap:=h',toks:=t' }:=I.un (Un.laid k hp (I.hok.fresh hp)) (I.hok.laid k hp new)
theorem Inv.write {x e:Addr}{o:HO}{t':Nat}(I:Inv X pins σ H s) (mu:Mut (H x)) (he:e=x \/ H e=some (.own x)) (k:∀ b u,b≠e->s.heap.get? b=some u->h'.get? b=some u) (heo:∃ u,h'.get? e=some u)
    (new:ObjOk X.prog X.w (upd H x o) h' x o):Inv X pins σ (upd H x o) { s with heap:=h',toks:=t' }:=I.un (Un.write mu he k heo) (I.hok.write mu he k heo new)
theorem Inv.pins_of {pins':List (Addr×Obj)}(I:Inv X pins σ H s) (h:∀ p∈pins',s.heap.get? p.1=some p.2 /\ H p.1=none /\ p.1≠X.env.locals /\ p.1∉X.fs /\ ∀ v,p.2.data≠.cell v):Inv X pins' σ H s :=
  ⟨I.ok,I.os,I.bare,I.base,I.loc,I.cell,I.free,I.freeC,λp hp=>(List.mem_append.mp hp).elim (λz=>I.pin p (List.mem_append_left _ z)) (h p),I.hok,I.len⟩
theorem oH {N:List Str}(hN:N.Nodup) {i j:Nat}{x:Str}(a:N[i]?=some x) (b:N[j]?=some x):i=j:=by
  obtain⟨h1,e1⟩:=List.getElem?_eq_some_iff.mp a;obtain⟨h2,e2⟩:=List.getElem?_eq_some_iff.mp b;exact(List.getElem_inj hN).mp (e1.trans e2.symm)
theorem AF {M:Model}{A:Around}{E:Value->Shared->Prop}{i:Nat}{x:Str}{v:V}{u:Value}{Q:Unit->Shared->Prop}(I:Inv X pins σ H s) (hN:X.N.Nodup) (hi:X.N[i]?=some x) (hx:Loc X.env.scope x) (r:RelV v u)
    (h:∀ s',Inv X pins (σ.set i (some v)) H s'->(∃ a,Heap.SameBut a s.heap s'.heap /\ (a=X.env.locals \/ X.env.cells.lookup x=some a))->Q () s') (hf:X.fn x=true \/ X.env.scope.names.lookup x=some .local:=by first|exact .inl rfl|exact .inr rfl|assumption):wpAny M A (storeName X.env x u) Q E s:=by
  obtain⟨m,hn,hl⟩:=id I.loc;have hcls:(X.env.scope.kind==.class||(X.env.scope.kind==.module&&X.env.locals != X.env.globals))=false:=by rw[I.ok.kind];rfl
  have hiσ:i<σ.length:=by rw[I.len];exact(List.getElem?_eq_some_iff.mp hi).1
  have cne:=I.cne;have tracked:∀ {a:Addr}{h':Heap},(∃ o,s.heap.get? a=some o /\ H a=none)->Heap.SameBut a s.heap h'->HOk X.prog X.w H h':=λ{a h'} ha hs b ob e=>by
    obtain⟨_,_,hfree⟩:=ha;refine(I.hok b ob e).stay (λc w' hc q=>(hs.2 c ?_).trans q) (λ_ q=>q) λ_ _ q=>q;rintro rfl;rcases hc with rfl|hc
    . rw[hfree]at e;cases e
    . rw[hfree]at hc;cases hc
  rcases hx with hk|hk
  . refine wpAny_storeName_local hk hn (λh' hn' hs=>?_) hcls;obtain⟨oL,_,_,hoL,_⟩:=id hn;refine h _ ⟨I.ok,I.os,I.bare,⟨λb o e n hb hx=>?_,λb o e n hb hx=>?_,I.base.free,λb o e hx=>?_,I.base.tups,I.base.frzs,I.base.tbls⟩,⟨_,hn',λj y v' e1 e2 e3=>?_⟩,λy c e=>?_,I.free,I.freeC,λp hp=>?_,tracked ⟨oL,hoL,I.free⟩ hs,by simpa using I.len⟩ ⟨_,hs,.inl rfl⟩
    . exact(hs.2 b (Nat.ne_of_lt (Nat.lt_of_lt_of_le (Heap.lt_size e) I.ok.above))).trans (I.base.keep b o e n hb hx)
    . obtain⟨sl,e1⟩:=I.base.slot b o e n hb hx;exact⟨sl,(hs.2 b (Nat.ne_of_lt (Nat.lt_of_lt_of_le (Heap.lt_size e) I.ok.above))).trans e1⟩
    . obtain⟨o',e1⟩:=I.base.there b o e hx;exact⟨o',(hs.2 b (Nat.ne_of_lt (Nat.lt_of_lt_of_le (Heap.lt_size e) I.ok.above))).trans e1⟩
    . by_cases hj:j=i
      . subst hj;rw[hi]at e1;cases e1;rw[List.getElem?_set_self hiσ]at e2;cases e2;exact⟨u,r,.inl ⟨hk,by simp⟩⟩
      . rw[List.getElem?_set_ne (Ne.symm hj)]at e2;obtain⟨u',r',q⟩:=hl j y v' e1 e2 e3;refine⟨u',r',?_⟩;rcases q with⟨k,e⟩|⟨k,c,e,z⟩
        . refine .inl ⟨k,?_⟩;have:y≠x:=λe=>hj (oH hN e1 (e▸hi));simp[this,e]
        . exact .inr ⟨k,c,e,z.sameBut hs (cne y c e)⟩
    . obtain⟨w',z⟩:=I.cell y c e;exact⟨w',z.sameBut hs (cne y c e)⟩
    . obtain⟨e,n,ne,nf,d⟩:=I.pin p hp;exact⟨(hs.2 p.1 ne).trans e,n,ne,nf,d⟩
  . have hfn:X.fn x=true:=by
      rcases hf with z|z
      . exact z
      . rw[z]at hk;cases hk
    obtain⟨c,hc⟩:=I.ok.has x (.inl hk);obtain⟨w',z⟩:=I.cell x c hc;refine wpAny_storeName_cell I.ok.kind hk hc z (λh' hc' hs=>?_);obtain⟨oc,hoc,hocd⟩:=id z;refine h { s with heap:=h' } ⟨I.ok,I.os,I.bare,⟨λb o e n hb hx=>?_,λb o e n hb hx=>?_,I.base.free,λb o e hx=>?_,I.base.tups,I.base.frzs,I.base.tbls⟩,⟨m,hn.sameBut hs (Ne.symm (cne x c hc)),λj y v' e1 e2 e3=>?_⟩,λy c' e=>?_,I.free,I.freeC,λp hp=>?_,tracked ⟨oc,hoc,I.freeC x c hc⟩ hs,by simpa using I.len⟩ ⟨c,hs,.inr hc⟩
    . exact(hs.2 b (Nat.ne_of_lt (Nat.lt_of_lt_of_le (Heap.lt_size e) (I.ok.cab x c hfn hc)))).trans (I.base.keep b o e n hb hx)
    . obtain⟨sl,e1⟩:=I.base.slot b o e n hb hx;exact⟨sl,(hs.2 b (Nat.ne_of_lt (Nat.lt_of_lt_of_le (Heap.lt_size e) (I.ok.cab x c hfn hc)))).trans e1⟩
    . obtain⟨o',e1⟩:=I.base.there b o e hx;exact⟨o',(hs.2 b (Nat.ne_of_lt (Nat.lt_of_lt_of_le (Heap.lt_size e) (I.ok.cab x c hfn hc)))).trans e1⟩
    . by_cases hj:j=i
      . subst hj;rw[hi]at e1;cases e1;rw[List.getElem?_set_self hiσ]at e2;cases e2;exact⟨u,r,.inr ⟨.inl hk,c,hc,hc'⟩⟩
      . rw[List.getElem?_set_ne (Ne.symm hj)]at e2;obtain⟨u',r',q⟩:=hl j y v' e1 e2 e3;refine⟨u',r',?_⟩;rcases q with q|⟨k,c',e,z'⟩
        . exact .inl q
        . refine .inr ⟨k,c',e,z'.sameBut hs ?_⟩;rintro rfl;exact hj (oH hN e1 (I.ok.inj _ _ _ e hc▸hi))
    . by_cases hcc:c'=c
      . subst hcc;exact⟨_,hc'⟩
      . obtain⟨w2,z2⟩:=I.cell y c' e;exact⟨w2,z2.sameBut hs hcc⟩
    . obtain⟨e,n,ne,nf,d⟩:=I.pin p hp;refine⟨(hs.2 p.1 ?_).trans e,n,ne,nf,d⟩;intro q;rw[q,hoc]at e;have q':oc=p.2:=Option.some.inj e;exact d w' (by rw[<-q'];exact hocd)
theorem jK {M:Model}{A:Around}{E:Value->Shared->Prop}{i:Nat}{x:Str}{v:V}{u:Value}{Q:Unit->Shared->Prop}(I:Inv X pins σ H s) (hN:X.N.Nodup) (hi:X.N[i]?=some x) (hx:Loc X.env.scope x) (r:RelV v u)
    (h:∀ s',Inv X pins (σ.set i (some v)) H s'->Q () s') (hf:X.fn x=true \/ X.env.scope.names.lookup x=some .local:=by first|exact .inl rfl|exact .inr rfl|assumption):wpAny M A (storeName X.env x u) Q E s :=
  AF I hN hi hx r (λs' I' _=>h s' I') hf
theorem Inv.call' {s':Shared}{ch:List Addr}(I:Inv X pins σ H s) (ho:s'.os=s.os) (u:Un (frs X.stack) ch H H' s.heap s'.heap) (hok:HOk X.prog X.w H' s'.heap) (hg:AllBare s'.gens)
    (hch:∀ b∈ch,(b∈X.ex \/ X.s₀.heap.objs.size<=b) /\ b≠X.env.locals /\ (∀ x c,X.env.cells.lookup x=some c->c≠b) /\ ∀ p∈X.pn++pins,p.1≠b):Inv X pins σ H' s':=by
  obtain⟨h',g',d',t',o'⟩:=s';have e:o'=s.os:=ho;subst e;exact I.call (g':=g') (t':=t') (d':=d') u hok hg hch
end
noncomputable abbrev XK:=Value->Option Addr->Hp->Prop
noncomputable abbrev St:=List (Option V)
noncomputable abbrev VK:=V->Hp->Prop
noncomputable abbrev TE:=St->Hp->VK->Prop
noncomputable abbrev TT:=St->Hp->(Bool->Hp->Prop)->Prop
noncomputable abbrev TA:=St->Hp->(List V->Hp->Prop)->Prop
structure Ends where
  nx:St->Hp->Prop
  rt:VK
  bk:St->Hp->Prop:=λ_ _=>False
  ct:St->Hp->Prop:=λ_ _=>False
noncomputable abbrev TS:=Ends->St->Hp->Prop
def EP (X:Cx) (pins:List (Addr×Obj)) (σ:St) (Q:VK) (u:Value) (s':Shared):Prop:=∃ v H',Inv X pins σ H' s' /\ RelV v u /\ Q v H'
def TP (X:Cx) (pins:List (Addr×Obj)) (σ:St) (Q:Bool->Hp->Prop) (b:Bool) (s':Shared):Prop:=∃ H',Inv X pins σ H' s' /\ Q b H'
def AP (X:Cx) (pins:List (Addr×Obj)) (σ:St) (Q:List V->Hp->Prop) (us:List Value) (s':Shared):Prop:=∃ vs H',Inv X pins σ H' s' /\ Vals vs us /\ Q vs H'
def SP (X:Cx) (pins:List (Addr×Obj)) (D:Ends) (f:Flow) (s':Shared):Prop :=
  match f with
  |.next=>∃ σ' H',Inv X pins σ' H' s' /\ D.nx σ' H'
  |.brk=>∃ σ' H',Inv X pins σ' H' s' /\ D.bk σ' H'
  |.cont=>∃ σ' H',Inv X pins σ' H' s' /\ D.ct σ' H'
  |.ret u=>∃ v σ' H',Inv X pins σ' H' s' /\ RelV v u /\ D.rt v H'
def PE (X:Cx) (e:Expr) (t:TE):Prop :=
  ∀ (pins:List (Addr×Obj)) (s:Shared) (σ:St) (H:Hp) (Q:VK),Inv X pins σ H s->t σ H Q->wpAny (model X.prog X.w) X.A (eval e X.env) (EP X pins σ Q) X.xe s
def PT (X:Cx) (e:Expr) (t:TT):Prop :=
  ∀ (pins:List (Addr×Obj)) (s:Shared) (σ:St) (H:Hp) (Q:Bool->Hp->Prop),Inv X pins σ H s->t σ H Q->wpAny (model X.prog X.w) X.A (isTrue e X.env (eval e X.env)) (TP X pins σ Q) X.xe s
def PW (X:Cx) (e:Expr) (t:TT):Prop :=
  ∀ (whole:Sem Value) (pins:List (Addr×Obj)) (s:Shared) (σ:St) (H:Hp) (Q:Bool->Hp->Prop),Inv X pins σ H s->t σ H Q->wpAny (model X.prog X.w) X.A (isTrue e X.env whole) (TP X pins σ Q) X.xe s
theorem PW.pt {X:Cx}{e:Expr}{t:TT}(h:PW X e t):PT X e t:=h _
def PA (X:Cx) (es:List Expr) (t:TA):Prop :=
  ∀ (pos:Pos) (pins:List (Addr×Obj)) (s:Shared) (σ:St) (H:Hp) (Q:List V->Hp->Prop),Inv X pins σ H s->t σ H Q->wpAny (model X.prog X.w) X.A (spliced (backTo pos (starEach es X.env))) (AP X pins σ Q) X.xe s
def PS (X:Cx) (st:Stmt) (t:TS):Prop :=
  ∀ (pins:List (Addr×Obj)) (s:Shared) (σ:St) (H:Hp) (D:Ends),Inv X pins σ H s->t D σ H->wpAny (model X.prog X.w) X.A (exec st X.env) (SP X pins D) X.xe s
def PSs (X:Cx) (st:List Stmt) (t:TS):Prop :=
  ∀ (pins:List (Addr×Obj)) (s:Shared) (σ:St) (H:Hp) (D:Ends),Inv X pins σ H s->t D σ H->wpAny (model X.prog X.w) X.A (execs st X.env) (SP X pins D) X.xe s
theorem thn {α:Type}{t:Sem α}{Q Q':α->Shared->Prop}{M:Model}{A:Around}{E:Value->Shared->Prop}{s:Shared}(h:wpAny M A t Q E s) (hQ:∀ a s,Q a s->Q' a s):wpAny M A t Q' E s:=wpAny_mono h hQ λ_ _ x=>x
section
variable {X : Cx}
def tVar (i:Nat):TE:=λσ H Q=>∃ v,σ[i]?=some (some v) /\ Q v H
def tC (v:V):TE:=λ_ H Q=>Q v H
theorem oI {i:Nat}{x:Str}{pos:Pos}(hN:X.N[i]?=some x) (hv:Vis X.env.scope x) (hd:(x==("__debug__":Str))=false:=by decide) (hcd:(x==("__classdict__":Str))=false:=by decide):PE X (.Name x pos) (tVar i):=by
  intro pins s σ H Q I h;obtain⟨v,e,h⟩:=h;obtain⟨m,hn,hl⟩:=I.loc;obtain⟨u,r,l⟩:=hl i x v hN e hv;have fin:EP X pins σ Q u s:=⟨v,H,I,r,h⟩;rcases l with⟨hk,hm⟩|⟨hk,c,hc,hcell⟩
  . exact wpAny_Name (wpAny_loadName_local I.ok.kind hk hn hm fin) hd
  . rcases hk with hk|hk
    . exact wpAny_Name (wpAny_loadName_cell I.ok.kind hk hc hcell fin) hd
    . exact wpAny_Name (wpAny_loadName_free I.ok.kind hk hc hcell fin hcd) hd
theorem mE {i j pos}:PE X (.Constant (.int i) j pos) (tC (.int i)):=λ_ _ _ H _ I h=>wpAny_Constant_int ⟨.int i,H,I.tok _,⟨_,rfl⟩,h⟩
theorem G0 {b j pos}:PE X (.Constant (.bool b) j pos) (tC (.bl b)):=λ_ _ _ H _ I h=>Constant_bool ⟨.bl b,H,I,rfl,h⟩
theorem Oi {j pos}:PE X (.Constant .none j pos) (tC .non):=λ_ _ _ H _ I h=>Constant_none ⟨.non,H,I,rfl,h⟩
theorem CZ {x j pos}:PE X (.Constant (.str x) j pos) (tC (.str x)):=λ_ _ _ H _ I h=>Calls.Constant_str ⟨.str x,H,I.tok _,⟨_,rfl⟩,h⟩
def Gl (X:Cx) (x:Str):Prop:=X.env.kindOf x=some .globalImplicit
theorem om {E:Value->Shared->Prop}{pins:List (Addr×Obj)}{s:Shared}{σ:St}{H:Hp}{x:Str}{u:Value}{pos:Pos}{Q:Value->Shared->Prop}(I:Inv X pins σ H s) (hg:Gl X x) (hm:X.mg x=some u) (h:Q u s)
    (hd:(x==("__debug__":Str))=false:=by decide):wpAny (model X.prog X.w) X.A (eval (.Name x pos) X.env) Q E s :=
  Calls.Name_function_global I.ok.kind hg (Calls.loadGlobal_global (by rw[I.ok.glob];exact I.mod.glob.keeps I.bk) hm h) hd
theorem iC {E:Value->Shared->Prop}{pins:List (Addr×Obj)}{s:Shared}{σ:St}{H:Hp}{x:Str}{u:Value}{pos:Pos}{Q:Value->Shared->Prop}(I:Inv X pins σ H s) (hg:Gl X x) (hm:X.mg x=none) (hv:bootBuiltins x=some u) (h:Q u s)
    (hn:x ≠ "__name__":=by decide) (hd:(x==("__debug__":Str))=false:=by decide):wpAny (model X.prog X.w) X.A (eval (.Name x pos) X.env) Q E s:=by
  obtain⟨mb,h1,h2⟩:=I.mod.blt;exact Calls.Name_function_global I.ok.kind hg (Calls.loadGlobal_builtin (by rw[I.ok.glob];exact I.mod.glob.keeps I.bk) hm (by rw[I.ok.blt];exact h1.keeps I.bk) ((h2 x hn).trans hv) h) hd
theorem gi {x:Str}{v:V}{u:Value}{pos:Pos}(hg:Gl X x) (hm:X.mg x=some u) (r:RelV v u) (hd:(x==("__debug__":Str))=false:=by decide):PE X (.Name x pos) (tC v):=
  λ_ _ _ H _ I h=>om I hg hm ⟨v,H,I,r,h⟩ hd
theorem DB {x:Str}{v:V}{u:Value}{pos:Pos}(hg:Gl X x) (hm:X.mg x=none) (hv:bootBuiltins x=some u) (r:RelV v u) (hn:x ≠ "__name__":=by decide) (hd:(x==("__debug__":Str))=false:=by decide):PE X (.Name x pos) (tC v):=
  λ_ _ _ H _ I h=>iC I hg hm hv ⟨v,H,I,r,h⟩ hn hd
variable {a b : Expr} {ta tb : TE} {pos : Pos}
noncomputable def tB (t:TE):TT:=λσ H Q=>t σ H λx H1=>∃ c,x=.bl c /\ Q c H1
theorem G1 {e:Expr}{t:TE}(h:PE X e t) (he:∀ whole,isTrue e X.env whole=(do let v <-whole;standAt e.pos;holding [v] (truthy v)):=by intro _;rfl):PT X e (tB t):=by
  intro pins s σ H Q I hw;refine isTrue_plain (thn (h pins s σ H _ I hw) λv s1 ⟨x,H1,I1,r1,q1⟩=>?_) (he _);obtain⟨d,rfl,q⟩:=q1;cases r1;exact wpAny_truthy_bool ⟨H1,I1,q⟩
variable {tA tB' : TT} {rest : List Expr}
noncomputable def tAnd (t u:TT):TT:=λσ H Q=>t σ H λc H1=>if c=true then u σ H1 Q else Q false H1
noncomputable def tOr (t u:TT):TT:=λσ H Q=>t σ H λc H1=>if c=true then Q true H1 else u σ H1 Q
noncomputable def tNot (t:TT):TT:=λσ H Q=>t σ H λc H1=>Q (!c) H1
theorem Mb (ha:PT X a tA):PW X (.BoolOp .And [a] pos) tA:=by
  intro wh pins s σ H Q I h;refine isTrue_and (thn (ha pins s σ H Q I h) λc s1 e=>?_);cases c with
  |true=>exact isTrue_and_nil e
  |false=>exact e
theorem G2 (ha:PT X a tA):PW X (.BoolOp .Or [a] pos) tA:=by
  intro wh pins s σ H Q I h;refine isTrue_or (thn (ha pins s σ H Q I h) λc s1 e=>?_);cases c with
  |false=>exact isTrue_or_nil e
  |true=>exact e
theorem Oj (ha:PT X a tA) (hb:PW X (.BoolOp .And (b::rest) pos) tB'):PW X (.BoolOp .And (a::b::rest) pos) (tAnd tA tB'):=by
  intro wh pins s σ H Q I h;refine isTrue_and (thn (ha pins s σ H _ I h) λc s1 ⟨H1,I1,q1⟩=>?_);cases c with
  |true=>exact hb wh pins s1 σ H1 Q I1 q1
  |false=>exact⟨H1,I1,q1⟩
theorem NW (ha:PT X a tA) (hb:PW X (.BoolOp .Or (b::rest) pos) tB'):PW X (.BoolOp .Or (a::b::rest) pos) (tOr tA tB'):=by
  intro wh pins s σ H Q I h;refine isTrue_or (thn (ha pins s σ H _ I h) λc s1 ⟨H1,I1,q1⟩=>?_);cases c with
  |true=>exact⟨H1,I1,q1⟩
  |false=>exact hb wh pins s1 σ H1 Q I1 q1
theorem G3 (ha:PT X a tA):PT X (.UnaryOp .Not a pos) (tNot tA):=by
  intro pins s σ H Q I h;exact isTrue_not (ha pins s σ H (λc H1=>Q (!c) H1) I h)
def tAndV (ta tb:TE):TE:=λσ H Q=>ta σ H λx H1=>∃ c,x=.bl c /\ if c=true then tb σ H1 Q else Q (.bl false) H1
def tOrV (ta tb:TE):TE:=λσ H Q=>ta σ H λx H1=>∃ c,x=.bl c /\ if c=true then Q (.bl true) H1 else tb σ H1 Q
def tNotV (ta:TE):TE:=λσ H Q=>ta σ H λx H1=>∃ c,x=.bl c /\ Q (.bl (!c)) H1
theorem Ol {op}{t:TE}(h:PE X a t):PE X (.BoolOp op [a] pos) t:=λpins s σ H Q I hw=>BoolOp_one (h pins s σ H Q I hw)
theorem Om (ha:PE X a ta) (hb:PE X (.BoolOp .And (b::rest) pos) tb):PE X (.BoolOp .And (a::b::rest) pos) (tAndV ta tb):=by
  intro pins s σ H Q I h;refine BoolOp_and (thn (ha pins s σ H _ I h) λv s1 ⟨x,H1,I1,r1,q1⟩=>?_);obtain⟨c,rfl,q1⟩:=q1;cases r1;refine wpAny_truthy_bool ?_;cases c with
  |true=>exact hb pins s1 σ H1 Q I1 q1
  |false=>exact⟨.bl false,H1,I1,rfl,q1⟩
theorem Rn (ha:PE X a ta) (hb:PE X (.BoolOp .Or (b::rest) pos) tb):PE X (.BoolOp .Or (a::b::rest) pos) (tOrV ta tb):=by
  intro pins s σ H Q I h;refine BoolOp_or (thn (ha pins s σ H _ I h) λv s1 ⟨x,H1,I1,r1,q1⟩=>?_);obtain⟨c,rfl,q1⟩:=q1;cases r1;refine wpAny_truthy_bool ?_;cases c with
  |false=>exact hb pins s1 σ H1 Q I1 q1
  |true=>exact⟨.bl true,H1,I1,rfl,q1⟩
theorem On (ha:PE X a ta):PE X (.UnaryOp .Not a pos) (tNotV ta):=by
  intro pins s σ H Q I h;refine UnaryOp_ (thn (ha pins s σ H _ I h) λv s1 ⟨x,H1,I1,r1,q1⟩=>?_);obtain⟨c,rfl,q1⟩:=q1;cases r1;exact not_of (wpAny_truthy_bool ⟨.bl (!c),H1,I1,rfl,q1⟩)
def tIf (t:TT) (ta tb:TE):TE:=λσ H Q=>t σ H λc H1=>if c=true then ta σ H1 Q else tb σ H1 Q
theorem G4 {c:Expr}(hc:PT X c tA) (ha:PE X a ta) (hb:PE X b tb):PE X (.IfExp c a b pos) (tIf tA ta tb):=by
  intro pins s σ H Q I h;refine wpAny_IfExp (thn (hc pins s σ H _ I h) λd s1 ⟨H1,I1,q1⟩=>?_);cases d with
  |true=>exact ha pins s1 σ H1 Q I1 q1
  |false=>exact hb pins s1 σ H1 Q I1 q1
end
def SqL (K:PySem.W.Frag) (H:Hp) (a:Addr) (xs:List V):Prop :=
  Rd H a (.lst xs) \/
    ∃ (o:Obj) (its:Array Value) (n:Nat),K.lookup a=some o /\ o.cls=.type "list" /\ o.dict=none /\ o.data=.seq its n /\ its.size<=sizeLine /\ Vals xs its.toList
def SqT (K:PySem.W.Frag) (H:Hp) (a:Addr) (xs:List V):Prop :=
  Rd H a (.tup xs) \/
    ∃ (o:Obj) (its:Array Value) (n:Nat),K.lookup a=some o /\ o.cls=.type "tuple" /\ o.data=.seq its n /\ its.size<=sizeLine /\ Vals xs its.toList
noncomputable def absV:Value->Option V
  |.none=>some .non
  |.bool b=>some (.bl b)
  |.int i _=>some (.int i)
  |.str x _=>some (.str x)
  |.bytes b _=>some (.byt b)
  |.float b _=>some (.flt b)
  |.ref a=>some (.ref a)
  |.type n=>some (.ty n)
  |_=>none
theorem RelV.abs {x:V}{u:Value}(r:RelV x u):absV u=some x:=by
  cases x with
  |non=>cases r;rfl
  |bl _=>cases r;rfl
  |int _=>obtain⟨t,rfl⟩:=r;rfl
  |str _=>obtain⟨t,rfl⟩:=r;rfl
  |byt _=>obtain⟨t,rfl⟩:=r;rfl
  |flt _=>obtain⟨t,rfl⟩:=r;rfl
  |ref _=>cases r;rfl
  |ty _=>cases r;rfl
theorem RelV.inj {x y:V}{u:Value}(r:RelV x u) (q:RelV y u):x=y:=Option.some.inj (r.abs.symm.trans q.abs)
theorem Vals.inj:∀ {xs ys:List V}{us:List Value},Vals xs us->Vals ys us->xs=ys
  |_,_,_,.nil,.nil=>rfl
  |_,_,_,.cons r t,.cons r' t'=>by rw[r.inj r',Vals.inj t t']
section
variable {X : Cx} {pins : List (Addr × Obj)} {σ : St} {H : Hp} {s : Shared} {a : Addr} {xs ys : List V}
theorem SqL.of {K:PySem.W.Frag}(h:H a=some (.lst xs)):SqL K H a xs:=.inl (.inl h)
theorem SqT.of {K:PySem.W.Frag}(h:H a=some (.tup xs)):SqT K H a xs:=.inl (.inl h)
theorem Inv.list (I:Inv X pins σ H s) (h:SqL X.K H a xs):∃ its:List Value,Vals xs its /\ PlainL s.heap a its.toArray /\ xs.length<=sizeLine:=by
  rcases h with h|⟨o,its,n,hk,hc,hd,hs,hz,r⟩
  . obtain⟨z,its,n,r,e⟩:=h.ok I.hok;exact⟨its,r,⟨_,n,e,rfl,rfl,rfl⟩,z⟩
  . refine⟨its.toList,r,⟨o,n,I.kIn a o hk,hc,hd,by simpa using hs⟩,?_⟩;have e:=r.length;simp only[Array.length_toList]at e;omega
theorem Inv.tuple (I:Inv X pins σ H s) (h:SqT X.K H a xs):∃ its:List Value,Vals xs its /\ IsTup s.heap a its.toArray /\ xs.length<=sizeLine:=by
  rcases h with h|⟨o,its,n,hk,hc,hs,hz,r⟩
  . obtain⟨z,its,r,p⟩:=h.ok I.hok;exact⟨its,r,p,z⟩
  . refine⟨its.toList,r,⟨o,I.kIn a o hk,hc,n,by simpa using hs⟩,?_⟩;have e:=r.length;simp only[Array.length_toList]at e;omega
theorem Inv.list_inj (I:Inv X pins σ H s) (h:SqL X.K H a xs) (h':SqL X.K H a ys):xs=ys:=by
  obtain⟨its,r,⟨o,n,e,_,_,d⟩,_⟩:=I.list h;obtain⟨its',r',⟨o',n',e',_,_,d'⟩,_⟩:=I.list h';rw[e]at e';cases e';rw[d]at d';injection d' with d1 _;have:its=its':=by simpa using congrArg Array.toList d1
  subst this;exact r.inj r'
theorem Inv.tuple_inj (I:Inv X pins σ H s) (h:SqT X.K H a xs) (h':SqT X.K H a ys):xs=ys:=by
  obtain⟨its,r,⟨o,e,_,n,d⟩,_⟩:=I.tuple h;obtain⟨its',r',⟨o',e',_,n',d'⟩,_⟩:=I.tuple h';rw[e]at e';cases e';rw[d]at d';injection d' with d1 _;have:its=its':=by simpa using congrArg Array.toList d1
  subst this;exact r.inj r'
end
noncomputable abbrev Cx.wish (X:Cx) (E:Value->Shared->Prop):Cx:={ X with xe:=E }
noncomputable abbrev Cx.nox (X:Cx):Cx:=X.wish λ_ _=>False
theorem Cx.Ok.wish {X:Cx}(ok:X.Ok) (E:Value->Shared->Prop):(X.wish E).Ok :=
  ⟨ok.mod,ok.kind,ok.glob,ok.blt,ok.above,ok.inj,ok.has,ok.cab,ok.hd,ok.frames,ok.stk,ok.exf,ok.bs,ok.bsz,ok.noex,ok.exfs,ok.funs,ok.frf⟩
theorem Cx.Ok.unwish {X:Cx}{E:Value->Shared->Prop}(ok:(X.wish E).Ok):X.Ok :=
  ⟨ok.mod,ok.kind,ok.glob,ok.blt,ok.above,ok.inj,ok.has,ok.cab,ok.hd,ok.frames,ok.stk,ok.exf,ok.bs,ok.bsz,ok.noex,ok.exfs,ok.funs,ok.frf⟩
section
variable {X : Cx} {pins : List (Addr × Obj)} {σ : St} {H : Hp} {s : Shared} {E : Value -> Shared -> Prop}
theorem Inv.wish (I:Inv X pins σ H s) (E:Value->Shared->Prop):Inv (X.wish E) pins σ H s:=⟨I.ok.wish E,I.os,I.bare,I.base,I.loc,I.cell,I.free,I.freeC,I.pin,I.hok,I.len⟩
theorem Inv.unwish (I:Inv (X.wish E) pins σ H s):Inv X pins σ H s:=⟨I.ok.unwish,I.os,I.bare,I.base,I.loc,I.cell,I.free,I.freeC,I.pin,I.hok,I.len⟩
theorem SP.unwish {D:Ends}{f:Flow}{s':Shared}(h:SP (X.wish E) pins D f s'):SP X pins D f s':=by
  cases f with
  |next=>obtain⟨σ',H',I,q⟩:=h;exact⟨σ',H',I.unwish,q⟩
  |brk=>obtain⟨σ',H',I,q⟩:=h;exact⟨σ',H',I.unwish,q⟩
  |cont=>obtain⟨σ',H',I,q⟩:=h;exact⟨σ',H',I.unwish,q⟩
  |ret u=>obtain⟨v,σ',H',I,r,q⟩:=h;exact⟨v,σ',H',I.unwish,r,q⟩
theorem PSs.nox {st:List Stmt}{t:TS}(h:PSs X.nox st t):PSs X st t:=λpins s σ H D I hw =>
  wpAny_mono (h pins s σ H D (I.wish _) hw) (λ_ _ q=>q.unwish) λ_ _ z=>False.elim z
end
section
variable {X : Cx} {st : Stmt} {rest : List Stmt} {t u : TS} {e : Expr} {te : TE} {pos : Pos}
def tNext:TS:=λD σ H=>D.nx σ H
def tSeq (t u:TS):TS:=λD σ H=>t { D with nx:=u D } σ H
theorem DC:PSs X [] tNext:=λ_ _ σ H _ I h=>wpAny_execs_nil ⟨σ,H,I,h⟩
theorem iA (h1:PS X st t) (h2:PSs X rest u):PSs X (st::rest) (tSeq t u):=by
  intro pins s σ H D I h;refine wpAny_execs_cons (thn (h1 pins s σ H { D with nx:=u D } I h) λf s1 q=>?_);cases f with
  | next =>
    obtain⟨σ',H',I',q⟩:=q;exact h2 pins s1 σ' H' D I' q
  |ret v=>exact q
  |brk=>exact q
  |cont=>exact q
theorem oo (h1:PS X st t):PSs X [st] t:=by
  intro pins s σ H D I h;refine wpAny_execs_cons (thn (h1 pins s σ H D I h) λf s1 q=>?_);cases f with
  |next=>exact wpAny_execs_nil q
  |ret v=>exact q
  |brk=>exact q
  |cont=>exact q
theorem Mc:PS X (.Pass pos) tNext:=λ_ _ σ H _ I h=>wpAny_Pass ⟨σ,H,I,h⟩
theorem Inv.quiet {pins:List (Addr×Obj)}{σ:St}{H:Hp}{s:Shared}(I:Inv X pins σ H s):interactive X.env=false:=by simp[interactive,I.ok.kind]
def tDrop (te:TE):TS:=λD σ H=>te σ H λ_ H1=>D.nx σ H1
theorem DF (he:PE X e te) (hs:swapsWith e none pos.line X.env=pure false:=by rfl):PS X (.Expr e pos) (tDrop te):=by
  intro pins s σ H D I h;exact wpAny_Expr_any (thn (he pins s σ H _ I h) λv s1 ⟨x,H1,I1,r1,q1⟩=>⟨σ,H1,I1,q1⟩) I.quiet hs
def tRet (te:TE):TS:=λD σ H=>te σ H D.rt
theorem Bb (he:PE X e te):PS X (.Return (some e) pos) (tRet te):=by
  intro pins s σ H D I h;exact wpAny_Return_some (thn (he pins s σ H _ I h) λv s1 ⟨x,H1,I1,r1,q1⟩=>⟨x,σ,H1,I1,r1,q1⟩)
def tRetN:TS:=λD _ H=>D.rt .non H
theorem Md:PS X (.Return none pos) tRetN:=λ_ _ σ H _ I h=>wpAny_Return_none ⟨.non,σ,H,I,rfl,h⟩
def tIfS (c:TT) (t u:TS):TS:=λD σ H=>c σ H λb H1=>if b=true then t D σ H1 else u D σ H1
theorem NX {c:Expr}{a b:List Stmt}{tc:TT}(hc:PT X c tc) (ha:PSs X a t) (hb:PSs X b u):PS X (.If c a b pos) (tIfS tc t u):=by
  intro pins s σ H D I h;refine wpAny_If (thn (hc pins s σ H _ I h) λd s1 ⟨H1,I1,q1⟩=>?_);cases d with
  |true=>exact ha pins s1 σ H1 D I1 q1
  |false=>exact hb pins s1 σ H1 D I1 q1
end
noncomputable abbrev TG:=V->St->Hp->(St->Hp->Prop)->Prop
noncomputable abbrev TGs:=List V->St->Hp->(St->Hp->Prop)->Prop
def PG (X:Cx) (target:Expr) (t:TG):Prop :=
  ∀ (pins:List (Addr×Obj)) (s:Shared) (σ:St) (H:Hp) (v:V) (u:Value) (Q:St->Hp->Prop),Inv X pins σ H s->RelV v u->t v σ H Q ->
    wpAny (model X.prog X.w) X.A (assign target X.env u) (λ_ s'=>∃ σ' H',Inv X pins σ' H' s' /\ Q σ' H') X.xe s
def PGs (X:Cx) (ts:List Expr) (t:TGs):Prop :=
  ∀ (pins:List (Addr×Obj)) (s:Shared) (σ:St) (H:Hp) (vs:List V) (us:List Value) (Q:St->Hp->Prop),Inv X pins σ H s->Vals vs us->t vs σ H Q ->
    wpAny (model X.prog X.w) X.A (assignInOrder ((assignEach ts X.env).map (·.2)) us) (λ_ s'=>∃ σ' H',Inv X pins σ' H' s' /\ Q σ' H') X.xe s
noncomputable abbrev TSet:=V->V->V->Hp->(Hp->Prop)->Prop
def PSet (X:Cx) (t:TSet):Prop :=
  ∀ (pins:List (Addr×Obj)) (s:Shared) (σ:St) (H:Hp) (o i v:V) (ov iv u:Value) (Q:Hp->Prop),Inv X pins σ H s->RelV o ov->RelV i iv->RelV v u->t o i v H Q ->
    wpAny (model X.prog X.w) X.A (setItem ov iv u) (λ_ s'=>∃ H',Inv X pins σ H' s' /\ Q H') X.xe s
section
variable {X : Cx} {pos : Pos}
def gName (i:Nat):TG:=λv σ H Q=>Q (σ.set i (some v)) H
theorem Bc {i:Nat}{x:Str}(hN:X.N.Nodup) (hi:X.N[i]?=some x) (hx:Loc X.env.scope x) (hf:X.fn x=true \/ X.env.scope.names.lookup x=some .local:=by first|exact .inl rfl|exact .inr rfl|assumption):PG X (.Name x pos) (gName i):=by
  intro pins s σ H v u Q I r h;exact wpAny_assign_Name (jK I hN hi hx r (λs' I'=>⟨_,H,I',h⟩) hf)
noncomputable def gNil:TGs:=λvs σ H Q=>vs=[] /\ Q σ H
noncomputable def gCons (t:TG) (u:TGs):TGs:=λvs σ H Q=>∃ v r,vs=v::r /\ t v σ H λσ' H'=>u r σ' H' Q
theorem DH:PGs X [] gNil:=by
  intro pins s σ H vs us Q I r h;obtain⟨e,h⟩:=h;subst e;cases r;exact assignInOrder_nil ⟨σ,H,I,h⟩
theorem oJ {e:Expr}{es:List Expr}{t:TG}{u:TGs}(h1:PG X e t) (h2:PGs X es u)
    (hs:(assignEach (e::es) X.env).map (·.2)=assign e X.env::(assignEach es X.env).map (·.2):=by rfl):PGs X (e::es) (gCons t u):=by
  intro pins s σ H vs us Q I r h;obtain⟨v,vr,e1,h⟩:=h;subst e1;cases r with
  | cons r rr =>
    rw[hs];refine assignInOrder_cons (thn (h1 pins s σ H _ _ _ I r h) λ_ s1 ⟨σ1,H1,I1,q1⟩=>?_);exact h2 pins s1 σ1 H1 _ _ Q I1 rr q1
def gTup (K:PySem.W.Frag) (n:Nat) (t:TGs):TG:=λv σ H Q=>∃ a xs,v=.ref a /\ SqT K H a xs /\ xs.length=n /\ t xs σ H Q
theorem G5 {es:List Expr}{k:Nat}{t:TGs}{n:Nat}(hc:X.calm=true) (h:PGs X es t)
    (hn:(assignEach es X.env).length=n:=by rfl) (hst:(assignEach es X.env).findIdx? (·.1)=none:=by rfl):PG X (.Tuple es k pos) (gTup X.K n t):=by
  intro pins s σ H v u Q I r hw;obtain⟨a,xs,e1,hq,hl,hw⟩:=hw;subst e1;cases r;obtain⟨its,rv,ht,hz⟩:=I.tuple hq;refine assign_Tuple_tuple (I.ok.hd hc) ht (by simp[hn,<-hl,rv.length]) hst λh' hx=>?_;have I1:Inv X pins σ H { s with heap:=h' }:=I.kept (t':=s.toks) λb o e=>hx b o (Nat.ne_of_lt (Heap.lt_size e)) e;exact h pins _ σ H xs _ Q I1 (by simpa using rv) hw
def gSub (to ti:TE) (t:TSet):TG:=λv σ H Q=>to σ H λo H1=>ti σ H1 λi H2=>t o i v H2 λH3=>Q σ H3
theorem Oo {o i:Expr}{to ti:TE}{t:TSet}(ho:PE X o to) (hi:PE X i ti) (hs:PSet X t)
    (ha:∀ v,assign (.Subscript o i pos) X.env v=(do
      let ov <-holding [v] (eval o X.env)
      let iv <-holding [v,ov] (eval i X.env)
      standAt pos
      holding [v,ov,iv] (setItem ov iv v)
      release [v,ov,iv] []):=by intro _;rfl):PG X (.Subscript o i pos) (gSub to ti t):=by
  intro pins s σ H v u Q I r h;rw[ha];refine zB (wpAny_holding (thn (ho pins s σ H _ I h) λov s1 ⟨x,H1,I1,r1,q1⟩=>?_));refine zB (wpAny_holding (thn (hi pins s1 σ H1 _ I1 q1) λiv s2 ⟨y,H2,I2,r2,q2⟩=>?_));refine zB (wpAny_standAt (zB (wpAny_holding (thn (hs pins s2 σ H2 x y v ov iv u _ I2 r1 r2 r q2) λ_ s3 ⟨H3,I3,q3⟩=>?_))));exact wpAny_release ⟨σ,H3,I3,q3⟩
def tAsg (te:TE) (g:TG):TS:=λD σ H=>te σ H λx H1=>g x σ H1 D.nx
theorem G6 {tg e:Expr}{te:TE}{g:TG}(he:PE X e te) (hg:PG X tg g) (hs:swapsWithSole [tg] e pos.line X.env=pure false:=by rfl) (hw:swappedStores [tg] e X.env=pure none:=by rfl)
    (h1:(assignEach [tg] X.env).map (·.2)=[assign tg X.env]:=by rfl):PS X (.Assign [tg] e pos) (tAsg te g):=by
  intro pins s σ H D I h;refine wpAny_Assign_stores (thn (he pins s σ H _ I h) λv s1 ⟨x,H1,I1,r1,q1⟩=>?_) hs hw;rw[h1];exact thn (hg pins s1 σ H1 x v _ I1 r1 q1) λ_ s2 q=>q
theorem mF {i:Nat}{x:Str}{e:Expr}{te:TE}{pos':Pos}(hN:X.N.Nodup) (hi:X.N[i]?=some x) (hx:Loc X.env.scope x) (he:PE X e te) (hs:swapsWith e (some (.Name x pos')) pos.line X.env=pure false:=by rfl) (hf:X.fn x=true \/ X.env.scope.names.lookup x=some .local:=by first|exact .inl rfl|exact .inr rfl|assumption) :
    PS X (.Assign [.Name x pos'] e pos) (tAsg te (gName i)):=by
  intro pins s σ H D I h;refine wpAny_Assign_Name (thn (he pins s σ H _ I h) λv s1 ⟨y,H1,I1,r1,q1⟩=>?_) hs;exact jK I1 hN hi hx r1 (λs2 I2=>⟨_,H1,I2,q1⟩) hf
def tPar (i j:Nat) (ta:TA):TS:=λD σ H=>ta σ H λvs H1=>∃ v w,vs=[v,w] /\ D.nx ((σ.set i (some v)).set j (some w)) H1
theorem Op {i j:Nat}{x y:Str}{a b:Expr}{ta:TA}{px py pt:Pos}{kt k2 pt2}(hc:X.calm=true) (hN:X.N.Nodup) (hi:X.N[i]?=some x) (hj:X.N[j]?=some y) (hij:i≠j)
    (hx:X.env.scope.names.lookup x=some .local) (hy:X.env.scope.names.lookup y=some .local) (ha:PA X [a,b] ta)
    (hw:swappedStores [.Tuple [.Name x px,.Name y py] kt pt] (.Tuple [a,b] k2 pt2) X.env=pure (some [x,y]))
    (hs:swapsWithSole [.Tuple [.Name x px,.Name y py] kt pt] (.Tuple [a,b] k2 pt2) pos.line X.env=pure false:=by rfl) :
    PS X (.Assign [.Tuple [.Name x px,.Name y py] kt pt] (.Tuple [a,b] k2 pt2) pos) (tPar i j ta):=by
  intro pins s σ H D I h;rw[exec_Assign_arm];refine zB (wpAny_standAt ?_);rw[hs];refine zB (zP ?_);rw[if_neg (by decide)];refine zB (Tuple_ (thn (ha _ pins s σ H _ I h) λus s1 ⟨vs,H1,I1,r1,q1⟩=>?_));obtain⟨v,w,e1,q1⟩:=q1;subst e1;obtain⟨u1,u2,rfl,rv,rw'⟩:∃ u1 u2,us=[u1,u2] /\ RelV v u1 /\ RelV w u2:=by
    cases r1 with
    | cons p q =>
      cases q with
      | cons p' q' =>
        cases q';exact⟨_,_,rfl,p,p'⟩
  refine wpAny_newObj_type ?_ (by show 2<=sizeLine;decide);have I2:Inv X pins σ H1 { s1 with heap:=s1.heap.push { cls:=.type "tuple",data:=.seq [u1,u2].toArray } }:=I1.kept (t':=s1.toks) λb o e=>zH _ e;rw[hw];refine zB (zP ?_);show wpAny (model X.prog X.w) X.A (do rule "assign.swapped-stores";let items <-unpackItems (.ref s1.heap.objs.size) 2 none;assignInOrder [λv=>bindName X.env y v,λv=>bindName X.env x v] items.reverse;pure Flow.next) _ _ _;refine zB (wpAny_rule (zB (unpackItems_tuple (items:=#[u1,u2]) (I.ok.hd hc) (IsTup.new s1.heap _) λh' hx'=>?_)));have I3:=I2.kept (h':=h') (t':=s1.toks) λb o e=>hx' b o (Nat.ne_of_lt (Heap.lt_size e)) e;show wpAny _ _ (assignInOrder [λv=>bindName X.env y v,λv=>bindName X.env x v] [u2,u1] >>= λ_=>pure Flow.next) _ _ _;refine zB (assignInOrder_cons (wpAny_bindName (jK I3 hN hj (.inl hy) rw' (λs2 I4=>?_) (.inr hy))));refine assignInOrder_cons (wpAny_bindName (jK I4 hN hi (.inl hx) rv (λs3 I5=>assignInOrder_nil (zP ?_)) (.inr hx)));rw[List.set_comm _ _ (Ne.symm hij)]at I5;exact⟨_,H1,I5,q1⟩
end
section
variable {X : Cx} {pos : Pos}
end
structure It where
  go:Nat->Hp->Prop
  yld:Nat->Hp->V->Hp->Prop
  stop:Nat->Hp->Prop
def FpOk (X:Cx) (pins:List (Addr×Obj)) (H:Hp) (b:Addr):Prop :=
  H b=none /\ b≠X.env.locals /\ b∉X.fs /\ (b∈X.ex \/ X.s₀.heap.objs.size<=b) /\ (∀ x c,X.env.cells.lookup x=some c->c≠b) /\ ∀ p∈X.pn++pins,p.1≠b
theorem Inv.fpOk {X:Cx}{pins:List (Addr×Obj)}{σ:St}{H H':Hp}{s:Shared}{b:Addr}(I:Inv X pins σ H s) (hb:s.heap.objs.size<=b) (hn:H' b=none):FpOk X pins H' b:=by
  refine⟨hn,Nat.ne_of_gt (Nat.lt_of_lt_of_le I.lt hb),I.nofs hb,.inr (Nat.le_trans I.sz hb),λx c e z=>?_,λp hp z=>?_⟩
  . obtain⟨v,q⟩:=I.cell x c e;exact absurd (Nat.lt_of_lt_of_le q.lt (by rw[z];exact hb)) (Nat.lt_irrefl _)
  . exact absurd (Nat.lt_of_lt_of_le (Heap.lt_size (I.pin p hp).1) (by rw[z];exact hb)) (Nat.lt_irrefl _)
structure Turn (P:Program) (w:World) (K:PySem.W.Frag) (tg:Expr) (J:It) (fp:List Addr) (it:Addr) (tn:Nat->Heap->Prop):Prop where
  mem:it∈fp
  obj:∀ i h,tn i h->∀ b∈fp,∃ o,h.get? b=some o /\ ∀ v,o.data≠.cell v
  keep:∀ i h h',tn i h->(∀ b∈fp,∀ o,h.get? b=some o->h'.get? b=some o)->tn i h'
  item:∀ (X:Cx),X.prog=P->X.w=w->X.K=K->X.calm=true->∀ (i:Nat) (pins:List (Addr×Obj)) (s:Shared) (σ:St) (H:Hp) (E:Value->Shared->Prop),Inv X pins σ H s->(∀ b∈fp,FpOk X pins H b)->tn i s.heap->J.go i H ->
    wpAny (model P w) X.A (pyNext (.ref it)) (λr s1=>∃ u,r=some u /\
      wpAny (model P w) X.A (letOwnedTupleGo tg (.ref it) u) (λ_ s2=>∃ x H',Inv X pins σ H' s2 /\ RelV x u /\ J.yld i H x H' /\ tn (i+1) s2.heap /\ ∀ b∈fp,H' b=none) E s1) E s
  done:∀ (X:Cx),X.prog=P->X.w=w->X.K=K->X.calm=true->∀ (i:Nat) (pins:List (Addr×Obj)) (s:Shared) (σ:St) (H:Hp) (E:Value->Shared->Prop),Inv X pins σ H s->(∀ b∈fp,FpOk X pins H b)->tn i s.heap->J.stop i H ->
    wpAny (model P w) X.A (pyNext (.ref it)) (λr s1=>r=none /\ Inv X pins σ H s1) E s
  self:∀ (A:Around) (i:Nat) (s:Shared) (Q:Value->Shared->Prop) (E:Value->Shared->Prop),tn i s.heap->Q (.ref it) s->wpAny (model P w) A (pyIter (.ref it)) Q E s
noncomputable abbrev TI:=St->Hp->(It->Hp->Prop)->Prop
def PIE (X:Cx) (pins:List (Addr×Obj)) (σ:St) (tg:Expr) (R:It->Hp->Prop) (itv:Value) (s2:Shared):Prop :=
  ∃ (it:Addr) (fp:List Addr) (tn:Nat->Heap->Prop) (J:It) (H':Hp),itv=.ref it /\ Inv X pins σ H' s2 /\ Turn X.prog X.w X.K tg J fp it tn /\ tn 0 s2.heap /\ (∀ b∈fp,FpOk X pins H' b) /\ R J H'
def PI (X:Cx) (tg iter:Expr) (wi:TI):Prop :=
  ∀ (pins:List (Addr×Obj)) (s:Shared) (σ:St) (H:Hp) (R:It->Hp->Prop),Inv X pins σ H s->wi σ H R ->
    wpAny (model X.prog X.w) X.A (eval iter X.env) (λv s1=>wpAny (model X.prog X.w) X.A (pyIter v) (PIE X pins σ tg R) X.xe s1) X.xe s
theorem G7 {M:Model}{A:Around}{E:Value->Shared->Prop}{s:Shared}{tg:Expr}{it:Addr}{u:Value}{o:Obj}{n:String}{vs:Array Value}{Q:Unit->Shared->Prop}(ho:s.heap.get? it=some o) (hc:o.cls=.type n) (hd:o.data=.fields vs)
    (hn:["enumerate", "zip", "dict_itemiterator", "dict_reverseitemiterator", "odict_iterator", "itertools.zip_longest", "itertools.pairwise"].contains n=false) (hQ:Q () s):wpAny M A (letOwnedTupleGo tg (.ref it) u) Q E s:=by
  unfold letOwnedTupleGo;cases tg<;>first
    |exact zP hQ
    |(cases u<;>first
        |exact zP hQ
        | (refine zB (wpAny_load ho ?_)
           rw[hc,hd];show wpAny M A (if (["enumerate", "zip", "dict_itemiterator", "dict_reverseitemiterator", "odict_iterator", "itertools.zip_longest", "itertools.pairwise"].contains n&&vs[0]?==some (rawInt _))=true then _ else _) Q E s;rw[if_neg (by intro h;rw[hn,Bool.false_and]at h;cases h)];exact zP hQ))
noncomputable def Itl (K:PySem.W.Frag) (a:Addr):It :=
  ⟨λi H=>∃ xs x,SqL K H a xs /\ xs[i]?=some x,λi H x H'=>H'=H /\ ∀ xs,SqL K H a xs->xs[i]?=some x,λi H=>∃ xs,SqL K H a xs /\ xs.length<=i⟩
noncomputable def Itt (K:PySem.W.Frag) (a:Addr):It :=
  ⟨λi H=>∃ xs x,SqT K H a xs /\ xs[i]?=some x,λi H x H'=>H'=H /\ ∀ xs,SqT K H a xs->xs[i]?=some x,λi H=>∃ xs,SqT K H a xs /\ xs.length<=i⟩
noncomputable def Itr (lo:Int) (n:Nat):It:=⟨λi _=>i<n,λi H x H'=>H'=H /\ x=.int (lo+i),λi _=>n<=i⟩
theorem FY {P:Program}{w:World}{K:PySem.W.Frag}{tg:Expr}(a it:Addr):Turn P w K tg (Itl K a) [it] it (λi h=>h.IsListIter it a i) where
  mem:=by simp
  obj:=λi h st b hb=>by
    have e:b=it:=by simpa using hb
    subst e;obtain⟨o,e,c,d⟩:=st;exact⟨o,e,λv z=>by rw[d]at z;cases z⟩
  keep:=λi h h' st k=>st.at λo e=>k it (by simp) o e
  item:=by
    intro X hP hw hK hc i pins s σ H E I hf st hg;subst hP hw hK;obtain⟨xs,x,hq,hx⟩:=hg;obtain⟨its,rv,p,hz⟩:=I.list hq;obtain⟨u,hu,ru⟩:=rv.get hx;obtain⟨f0,f1,f2,f3,f4,f5⟩:=hf it (by simp);refine wpAny_pyNext_list_item st p.isList (x:=u) (by simpa using hu) λh' st' sb=>?_;have I1:Inv X pins σ H { s with heap:=h' }:=I.turned (t':=s.toks) (λb o hb e=>(sb.2 b hb).trans e) f0 f1 f3 f4 f5;obtain⟨o,e,c,d⟩:=id st';exact⟨u,rfl,G7 (s:={ s with heap:=h' }) e c d (by decide) ⟨x,H,I1,ru,⟨rfl,λys hy=>by rw[I.list_inj hy hq];exact hx⟩,st',λb hb=>(hf b hb).1⟩⟩
  done:=by
    intro X hP hw hK hc i pins s σ H E I hf st hg;subst hP hw hK;obtain⟨xs,hq,hx⟩:=hg;obtain⟨its,rv,p,hz⟩:=I.list hq;obtain⟨f0,f1,f2,f3,f4,f5⟩:=hf it (by simp);have hl:=rv.length;exact wpAny_pyNext_list_end (I.ok.hd hc) st p.isList (by simp;omega) λh' eb=>⟨rfl,I.turned (t':=s.toks) (λb o hb e=>eb b o hb e) f0 f1 f3 f4 f5⟩
  self:=λ_ _ _ _ _ st h=>wpAny_pyIter_listiter st h
theorem C0 {P:Program}{w:World}{K:PySem.W.Frag}{tg:Expr}(a it:Addr):Turn P w K tg (Itt K a) [it] it (λi h=>h.IsTupleIter it a i) where
  mem:=by simp
  obj:=λi h st b hb=>by
    have e:b=it:=by simpa using hb
    subst e;obtain⟨o,e,c,d⟩:=st;exact⟨o,e,λv z=>by rw[d]at z;cases z⟩
  keep:=λi h h' st k=>st.at λo e=>k it (by simp) o e
  item:=by
    intro X hP hw hK hc i pins s σ H E I hf st hg;subst hP hw hK;obtain⟨xs,x,hq,hx⟩:=hg;obtain⟨its,rv,p,hz⟩:=I.tuple hq;obtain⟨u,hu,ru⟩:=rv.get hx;obtain⟨f0,f1,f2,f3,f4,f5⟩:=hf it (by simp);refine wpAny_pyNext_tuple_item st (show s.heap.IsTuple a its.toArray from p) (x:=u) (by simpa using hu) λh' st' sb=>?_;have I1:Inv X pins σ H { s with heap:=h' }:=I.turned (t':=s.toks) (λb o hb e=>(sb.2 b hb).trans e) f0 f1 f3 f4 f5;obtain⟨o,e,c,d⟩:=id st';exact⟨u,rfl,G7 (s:={ s with heap:=h' }) e c d (by decide) ⟨x,H,I1,ru,⟨rfl,λys hy=>by rw[I.tuple_inj hy hq];exact hx⟩,st',λb hb=>(hf b hb).1⟩⟩
  done:=by
    intro X hP hw hK hc i pins s σ H E I hf st hg;subst hP hw hK;obtain⟨xs,hq,hx⟩:=hg;obtain⟨its,rv,p,hz⟩:=I.tuple hq;obtain⟨f0,f1,f2,f3,f4,f5⟩:=hf it (by simp);have hl:=rv.length;exact wpAny_pyNext_tuple_end (I.ok.hd hc) st (show s.heap.IsTuple a its.toArray from p) (by simp;omega) λh' eb=>⟨rfl,I.turned (t':=s.toks) (λb o hb e=>eb b o hb e) f0 f1 f3 f4 f5⟩
  self:=λ_ _ _ _ _ st h=>wpAny_pyIter_tupleiter st h
theorem C2 {P:Program}{w:World}{K:PySem.W.Frag}{tg:Expr}(it:Addr) (lo:Int) (n:Nat):Turn P w K tg (Itr lo n) [it] it (λi h=>IsRangeIter h it (lo+(i:Nat)*1) ((n:Int)-(i:Nat)) 1) where
  mem:=by simp
  obj:=λi h st b hb=>by
    have e:b=it:=by simpa using hb
    subst e;exact⟨_,st,λv z=>by
      have z':Data.fields _=Data.cell v:=z;cases z'⟩
  keep:=λi h h' st k=>k it (by simp) _ st
  item:=by
    intro X hP hw hK hc i pins s σ H E I hf st hg;subst hP hw hK;obtain⟨f0,f1,f2,f3,f4,f5⟩:=hf it (by simp);have W:=Walks.range (prog:=X.prog) (w:=X.w) (I.ok.hd hc) it lo 1 n;refine W.item i s _ _ hg st λv h' tk hv st' kk=>?_;obtain⟨t,rfl⟩:=hv;have I1:Inv X pins σ H { s with heap:=h',toks:=tk }:=I.turned (λb o hb e=>kk b o (by simpa using hb) e) f0 f1 f3 f4 f5;refine⟨_,rfl,G7 (s:={ s with heap:=h',toks:=tk }) (n:="range_iterator") st' rfl rfl (by decide) ⟨.int (lo+i),H,I1,⟨t,?_⟩,⟨rfl,rfl⟩,st',λb hb=>(hf b hb).1⟩⟩;rw[Int.mul_one]
  done:=by
    intro X hP hw hK hc i pins s σ H E I hf st hg;subst hP hw hK;obtain⟨f0,f1,f2,f3,f4,f5⟩:=hf it (by simp);exact wpAny_pyNext_range_end (I.ok.hd hc) st (by have:n<=i:=hg;omega) λh' eb=>⟨rfl,I.turned (t':=s.toks) (λb o hb e=>eb b o hb e) f0 f1 f3 f4 f5⟩
  self:=λ_ _ _ _ _ st h=>wpAny_pyIter_rangeiter st h
section
variable {X : Cx} {tg : Expr}
theorem BM {pins:List (Addr×Obj)}{σ:St}{H:Hp}{s:Shared}{R:It->Hp->Prop}{E:Value->Shared->Prop}{lo hi:Int}{t u v:Tok}{tk:Nat}(I:Inv X pins σ H s) (h1:-(2 ^ 62)<=lo) (h2:lo<2 ^ 62) (h3:-(2 ^ 62)<=hi) (h4:hi<2 ^ 62)
    (q:R (Itr lo (hi-lo).toNat) H):wpAny (model X.prog X.w) X.A (pyIter (.ref s.heap.objs.size)) (PIE X pins σ tg R) E { s with heap:=s.heap.push { cls:=.type "range",data:=.fields #[.int lo t,.int hi u,.int 1 v] },toks:=tk }:=by
  refine wpAny_pyIter_range (IsRange.new ..) (small_one h1 h2 h3 h4) ?_;have I1:Inv X pins σ H { s with heap:=s.heap.push { cls:=.type "range",data:=.fields #[.int lo t,.int hi u,.int 1 v] },toks:=tk }:=I.kept λb o e=>zH _ e;refine⟨(s.heap.push { cls:=.type "range",data:=.fields #[.int lo t,.int hi u,.int 1 v] }).objs.size,[(s.heap.push { cls:=.type "range",data:=.fields #[.int lo t,.int hi u,.int 1 v] }).objs.size],_,_,H,rfl,
    I1.kept (t':=tk) λb o e=>zH _ e,C2 _ lo (hi-lo).toNat,?_,λb hb=>?_,q⟩
  . have e1:lo+((0:Nat):Int)*1=lo:=by simp
    have e2:(((hi-lo).toNat:Nat):Int)-((0:Nat):Int)=Builtin.Range.rangeSize lo hi 1:=by rw[rangeSize_one];split<;>omega
    show IsRangeIter _ _ (lo+((0:Nat):Int)*1) ((((hi-lo).toNat:Nat):Int)-((0:Nat):Int)) 1;rw[e1,e2];exact Heap.get?_push_size _ rfl
  . have e:b=(s.heap.push { cls:=.type "range",data:=.fields #[.int lo t,.int hi u,.int 1 v] }).objs.size:=by simpa using hb
    subst e;exact I1.fpOk (zL _) (I1.hok.fresh (zL _))
def iRng1 (ta:TA):TI:=λσ H R=>ta σ H λvs H1=>∃ j:Int,vs=[.int j] /\ -(2 ^ 62)<=j /\ j<2 ^ 62 /\ R (Itr 0 j.toNat) H1
def iRng2 (ta:TA):TI:=λσ H R=>ta σ H λvs H1=>∃ i j:Int,vs=[.int i,.int j] /\ (-(2 ^ 62)<=i /\ i<2 ^ 62 /\ -(2 ^ 62)<=j /\ j<2 ^ 62) /\ R (Itr i (j-i).toNat) H1
theorem FZ {a:Expr}{ta:TA}{p pos:Pos}(hg:Gl X "range") (hm:X.mg "range"=none) (ha:PA X [a] ta) (hs:starEach [a] X.env=[(false,eval a X.env)]:=by rfl):PI X tg (.Call (.Name "range" p) [a] [] pos) (iRng1 ta):=by
  intro pins s σ H R I h;refine Call_ (iC I hg hm boot_range (PyProof.Rows.callWith_type1 (thn (ha pos pins s σ H _ I h) λus s1 ⟨vs,H1,I1,r1,q1⟩=>?_) hs rfl));obtain⟨j,e,q1,q2,q⟩:=q1;subst e;cases r1 with
  | cons r rr =>
    cases rr;obtain⟨t,rfl⟩:=r;exact call_range_1 (BM I1 (by omega) (by omega) q1 q2 (by simpa using q))
theorem F6 {a b:Expr}{ta:TA}{p pos:Pos}(hg:Gl X "range") (hm:X.mg "range"=none) (ha:PA X [a,b] ta) (hs:starEach [a,b] X.env=[(false,eval a X.env),(false,eval b X.env)]:=by rfl) (hs2:starEach [b] X.env=[(false,eval b X.env)]:=by rfl) :
    PI X tg (.Call (.Name "range" p) [a,b] [] pos) (iRng2 ta):=by
  intro pins s σ H R I h;refine Call_ (iC I hg hm boot_range (PyProof.Rows.callWith_type1 (thn (ha pos pins s σ H _ I h) λus s1 ⟨vs,H1,I1,r1,q1⟩=>?_) (by rw[hs,hs2]) (by rw[hs2];rfl)));obtain⟨i,j,e,⟨q1,q2,q3,q4⟩,q⟩:=q1;subst e;cases r1 with
  | cons r rr =>
    cases rr with
    | cons r' rr =>
      cases rr;obtain⟨t,rfl⟩:=r;obtain⟨t',rfl⟩:=r';exact call_range_2 (BM I1 q1 q2 q3 q4 q)
def tFor (wi:TI) (g:TG) (tb:TS):TS:=λD σ H=>wi σ H λJ H1=>∃ W:Nat->Nat->St->Hp->Prop,(∃ m,W 0 m σ H1) /\ ∀ i m σ H,W i m σ H ->
  (J.stop i H /\ D.nx σ H) \/ (J.go i H /\ ∃ N:St->Hp->Prop,(∀ σ' H',N σ' H'->∃ m',m'<m /\ W (i+1) m' σ' H') /\ ∀ x H',J.yld i H x H'->g x σ H' λσ2 H2=>tb { D with nx:=N,ct:=N,bk:=D.nx } σ2 H2)
noncomputable def pinsAt (fp:List Addr) (h:Heap):List (Addr×Obj):=fp.filterMap λb=>(h.get? b).map λo=>(b,o)
theorem ij {fp:List Addr}{h:Heap}{b:Addr}{o:Obj}(hb:b∈fp) (e:h.get? b=some o):(b,o)∈pinsAt fp h:=List.mem_filterMap.mpr ⟨b,hb,by rw[e];rfl⟩
theorem F7 {fp:List Addr}{h:Heap}{p:Addr×Obj}(hp:p∈pinsAt fp h):p.1∈fp /\ h.get? p.1=some p.2:=by
  obtain⟨b,hb,e⟩:=List.mem_filterMap.mp hp;cases q:h.get? b with
  |none=>rw[q]at e;cases e
  | some o =>
    rw[q]at e;have e':(b,o)=p:=Option.some.inj e;subst e';exact⟨hb,q⟩
theorem Inv.pinned {pins:List (Addr×Obj)}{σ:St}{H:Hp}{s:Shared}{fp:List Addr}(I:Inv X pins σ H s) (hf:∀ b∈fp,FpOk X pins H b) (ho:∀ b∈fp,∃ o,s.heap.get? b=some o /\ ∀ v,o.data≠.cell v):Inv X (pins++pinsAt fp s.heap) σ H s :=
  I.pins_of λp hp=>(List.mem_append.mp hp).elim (λz=>I.pin p (List.mem_append_right _ z)) λz=>by
    obtain⟨hb,e⟩:=F7 z;obtain⟨f0,f1,f2,_⟩:=hf p.1 hb;obtain⟨o,e',d⟩:=ho p.1 hb;rw[e]at e';cases e';exact⟨e,f0,f1,f2,d⟩
theorem Inv.unpinned {pins pl:List (Addr×Obj)}{σ:St}{H:Hp}{s:Shared}(I:Inv X (pins++pl) σ H s):Inv X pins σ H s:=I.pins_of λp hp=>I.pin p (List.mem_append_right _ (List.mem_append_left _ hp))
theorem Oq {iter:Expr}{body:List Stmt}{wi:TI}{g:TG}{tb:TS}{pos:Pos}(hp:PassesOwn (model X.prog X.w) X.A X.env X.xe) (hc:X.calm=true) (hi:PI X tg iter wi) (hg:PG X tg g) (hb:PSs X body tb)
    (hs:∀ x,foldedSetIterable iter X.env x=pure x:=by intro _;rfl):PS X (.For tg iter body [] pos) (tFor wi g tb):=by
  intro pins s σ H D I h;refine wpAny_For (thn (hi pins s σ H _ I h) λv s1 h1=>thn h1 λitv s2 h2=>?_) hs;obtain⟨it,fp,tn,J,H2,e,I2,T,st2,f2,W,⟨m0,w0⟩,turn⟩:=h2;subst e;have stat:∀ {H':Hp},(∀ b∈fp,H' b=none)->∀ b∈fp,FpOk X pins H' b:=λhn b hb=>⟨hn b hb,(f2 b hb).2⟩;refine codeAny_forLoop_any (λn s'=>∃ i σ' H',Inv X pins σ' H' s' /\ tn i s'.heap /\ (∀ b∈fp,H' b=none) /\ W i n σ' H') ?_ m0 ⟨0,σ,H2,I2,st2,λb hb=>(f2 b hb).1,w0⟩;rintro n s3 ⟨i,σ3,H3,I3,st3,fr3,w3⟩;rcases turn i n σ3 H3 w3 with⟨stop,qn⟩|⟨go,N,hN,step⟩
  . refine wpAny_passesOwn hp (thn (T.done X rfl rfl rfl hc i pins s3 σ3 H3 X.xe I3 (stat fr3) st3 stop) λr s4 ⟨hr,I4⟩=>?_);subst hr;exact wpAny_execs_nil ⟨σ3,H3,I4,qn⟩
  . refine wpAny_passesOwn hp (thn (T.item X rfl rfl rfl hc i pins s3 σ3 H3 X.xe I3 (stat fr3) st3 go) λr s4 ⟨u,hr,h4⟩=>?_);subst hr;refine wpAny_passesOwn hp (thn h4 λ_ s5 ⟨x,H5,I5,r5,y5,st5,fr5⟩=>?_);have I5':=I5.pinned (stat fr5) (T.obj _ _ st5);refine wpAny_passesOwn hp (thn (hg _ s5 σ3 H5 x u _ I5' r5 (step x H5 y5)) λ_ s6 ⟨σ6,H6,I6,q6⟩=>?_);refine wpAny_passesOwn hp (thn (hb _ s6 σ6 H6 _ I6 q6) λf s7 q7=>?_);have again:∀ {σ7:St}{H7:Hp},Inv X (pins++pinsAt fp s5.heap) σ7 H7 s7->N σ7 H7->∃ m,m<n /\ ∃ i σ' H',Inv X pins σ' H' s7 /\ tn i s7.heap /\ (∀ b∈fp,H' b=none) /\ W i m σ' H':=λ{σ7 H7} I7 n7=>by
      obtain⟨m',hm,w7⟩:=hN σ7 H7 n7;refine⟨m',hm,i+1,σ7,H7,I7.unpinned,T.keep _ _ _ st5 λb hb o e=>(I7.pin (b,o) (List.mem_append_right _ (List.mem_append_right _ (ij hb e)))).1,λb hb=>?_,w7⟩;obtain⟨o,e,d⟩:=T.obj _ _ st5 b hb;exact(I7.pin (b,o) (List.mem_append_right _ (List.mem_append_right _ (ij hb e)))).2.1
    cases f with
    |next=>obtain⟨σ7,H7,I7,n7⟩:=q7;exact again I7 n7
    |cont=>obtain⟨σ7,H7,I7,n7⟩:=q7;exact again I7 n7
    |brk=>obtain⟨σ7,H7,I7,q7⟩:=q7;exact⟨σ7,H7,I7.unpinned,q7⟩
    |ret v=>obtain⟨x7,σ7,H7,I7,r7,q7⟩:=q7;exact⟨x7,σ7,H7,I7.unpinned,r7,q7⟩
end
noncomputable abbrev R2:=V->V->Hp->VK->Prop
def OpR (X:Cx) (f:Value->Value->Sem Value) (r:R2):Prop :=
  ∀ (pins:List (Addr×Obj)) (s:Shared) (σ:St) (H:Hp) (x y:V) (v u:Value) (Q:VK),Inv X pins σ H s->RelV x v->RelV y u->r x y H Q ->
    wpAny (model X.prog X.w) X.A (f v u) (EP X pins σ Q) X.xe s
def UnR (X:Cx) (f:Value->Sem Value) (r:V->Hp->VK->Prop):Prop :=
  ∀ (pins:List (Addr×Obj)) (s:Shared) (σ:St) (H:Hp) (x:V) (v:Value) (Q:VK),Inv X pins σ H s->RelV x v->r x H Q ->
    wpAny (model X.prog X.w) X.A (f v) (EP X pins σ Q) X.xe s
def CallR (X:Cx) (f:Value) (r:List V->Hp->VK->Prop):Prop :=
  ∀ (pins:List (Addr×Obj)) (s:Shared) (σ:St) (H:Hp) (xs:List V) (us:List Value) (Q:VK),Inv X pins σ H s->Vals xs us->r xs H Q ->
    wpAny (model X.prog X.w) X.A (call f us) (EP X pins σ Q) X.xe s
def TruR (X:Cx) (r:V->Hp->(Bool->Hp->Prop)->Prop):Prop :=
  ∀ (pins:List (Addr×Obj)) (s:Shared) (σ:St) (H:Hp) (x:V) (v:Value) (Q:Bool->Hp->Prop),Inv X pins σ H s->RelV x v->r x H Q ->
    wpAny (model X.prog X.w) X.A (truthy v) (TP X pins σ Q) X.xe s
def tOp (r:R2) (ta tb:TE):TE:=λσ H Q=>ta σ H λx H1=>tb σ H1 λy H2=>r x y H2 Q
def tUn (r:V->Hp->VK->Prop) (ta:TE):TE:=λσ H Q=>ta σ H λx H1=>r x H1 Q
def rI (C:Int->Int->Prop) (g:Int->Int->V):R2:=λx y H Q=>∃ i j,x=.int i /\ y=.int j /\ C i j /\ Q (g i j) H
def rI0 (g:Int->Int->V):R2:=λx y H Q=>∃ i j,x=.int i /\ y=.int j /\ Q (g i j) H
def rU (g:Int->V):V->Hp->VK->Prop:=λx H Q=>∃ i,x=.int i /\ Q (g i) H
section
variable {X : Cx} {a b c : Expr} {ta tb tc : TE} {pos : Pos}
theorem binT (ha:PE X a ta) (hb:PE X b tb) {pins:List (Addr×Obj)}{s:Shared}{σ:St}{H:Hp}{R:V->V->Hp->Prop}(I:Inv X pins σ H s)
    (h:ta σ H λx H1=>tb σ H1 λy H2=>R x y H2) {Q:Value->Shared->Prop}{f:Value->Value->Sem Value}
    (hf:∀ v u s2 x y H2,Inv X pins σ H2 s2->RelV x v->RelV y u->R x y H2->wpAny (model X.prog X.w) X.A (f v u) Q X.xe s2) :
    wpAny (model X.prog X.w) X.A (eval a X.env) (λv s₁=>wpAny (model X.prog X.w) X.A (eval b X.env) (λu s₂=>wpAny (model X.prog X.w) X.A (f v u) Q X.xe s₂) X.xe s₁) X.xe s:=by
  refine thn (ha pins s σ H _ I h) λv s1 ⟨x,H1,I1,r1,q1⟩=>?_;refine thn (hb pins s1 σ H1 _ I1 q1) λu s2 ⟨y,H2,I2,r2,q2⟩=>?_;exact hf v u s2 x y H2 I2 r1 r2 q2
theorem BN {op:Operator}{r:R2}(ho:OpR X (binaryOp op) r) (ha:PE X a ta) (hb:PE X b tb):PE X (.BinOp a op b pos) (tOp r ta tb):=by
  intro pins s σ H Q I h;exact wpAny_BinOp (binT ha hb I h λv u s2 x y H2 I2 rx ry q=>ho pins s2 σ H2 x y v u Q I2 rx ry q)
theorem NY {op:UnaryOp}{r:V->Hp->VK->Prop}(ho:UnR X (unaryOp op) r) (ha:PE X a ta):PE X (.UnaryOp op a pos) (tUn r ta):=by
  intro pins s σ H Q I h;exact UnaryOp_ (thn (ha pins s σ H _ I h) λv s1 ⟨x,H1,I1,r1,q1⟩=>ho pins s1 σ H1 x v Q I1 r1 q1)
theorem opI {f:Value->Value->Sem Value}{C:Int->Int->Prop}{g:Int->Int->Int}
    (rule:∀ (i j:Int) (t u:Tok) (s:Shared) (Q:Value->Shared->Prop) (E:Value->Shared->Prop),C i j->Q (.int (g i j) s.toks) { s with toks:=s.toks+1 }->wpAny (model X.prog X.w) X.A (f (.int i t) (.int j u)) Q E s) :
    OpR X f (rI C λi j=>.int (g i j)):=by
  intro pins s σ H x y v u Q I rx ry h;obtain⟨i,j,rfl,rfl,hc,q⟩:=h;obtain⟨t,rfl⟩:=rx;obtain⟨t',rfl⟩:=ry;exact rule i j t t' s _ _ hc ⟨.int (g i j),H,I.tok _,⟨_,rfl⟩,q⟩
theorem opI0 {f:Value->Value->Sem Value}{g:Int->Int->Int}
    (rule:∀ (i j:Int) (t u:Tok) (s:Shared) (Q:Value->Shared->Prop) (E:Value->Shared->Prop),Q (.int (g i j) s.toks) { s with toks:=s.toks+1 }->wpAny (model X.prog X.w) X.A (f (.int i t) (.int j u)) Q E s) :
    OpR X f (rI0 λi j=>.int (g i j)):=by
  intro pins s σ H x y v u Q I rx ry h;obtain⟨i,j,rfl,rfl,q⟩:=h;obtain⟨t,rfl⟩:=rx;obtain⟨t',rfl⟩:=ry;exact rule i j t t' s _ _ ⟨.int (g i j),H,I.tok _,⟨_,rfl⟩,q⟩
theorem opB0 {f:Value->Value->Sem Value}{g:Int->Int->Bool}
    (rule:∀ (i j:Int) (t u:Tok) (s:Shared) (Q:Value->Shared->Prop) (E:Value->Shared->Prop),Q (.bool (g i j)) s->wpAny (model X.prog X.w) X.A (f (.int i t) (.int j u)) Q E s) :
    OpR X f (rI0 λi j=>.bl (g i j)):=by
  intro pins s σ H x y v u Q I rx ry h;obtain⟨i,j,rfl,rfl,q⟩:=h;obtain⟨t,rfl⟩:=rx;obtain⟨t',rfl⟩:=ry;exact rule i j t t' s _ _ ⟨.bl (g i j),H,I,rfl,q⟩
def CDiv (i j:Int):Prop:=0<j /\ j<1073741824
def CPow (i j:Int):Prop:=0<=j /\ j<=1000000 /\ i.natAbs<2 ^ 64
def CMul (i j:Int):Prop:=(-(2 ^ 64)<i /\ i<2 ^ 64) \/ (-(2 ^ 64)<j /\ j<2 ^ 64)
theorem CMul.ok {i j:Int}(h:CMul i j):IntMulOk i j:=by
  rcases h with⟨h1,h2⟩|⟨h1,h2⟩
  . exact .of_left (intBits_le_64 h1 h2)
  . exact .of_right (intBits_le_64 h1 h2)
theorem Os:OpR X (binaryOp .Add) (rI0 λi j=>.int (i+j)):=opI0 λ_ _ _ _ _ _ _ q=>add_int q
theorem Ot:OpR X (binaryOp .Sub) (rI0 λi j=>.int (i-j)):=opI0 λ_ _ _ _ _ _ _ q=>sub_int q
theorem Ou:OpR X (binaryOp .Mult) (rI CMul λi j=>.int (i*j)):=opI λ_ _ _ _ _ _ _ hc q=>mul_int q hc.ok
theorem Me:OpR X (binaryOp .FloorDiv) (rI CDiv λi j=>.int (i / j)):=opI λi j _ _ _ _ _ hc q=>by
  have h1:(0:Int)<j:=hc.1;have h2:j<1073741824:=hc.2;exact floordiv_int (by omega) (by rw[Int.fdiv_eq_ediv_of_nonneg i (by omega)];exact q) (.inl (PyProof.noPylong_small (by omega)))
theorem Ov:OpR X (binaryOp .Mod) (rI (λ_ j=>0<j) λi j=>.int (i % j)):=opI λi j _ _ _ _ _ hc q=>by
  have h1:(0:Int)<j:=hc;exact mod_int' (by omega) (by rw[Int.fmod_eq_emod_of_nonneg i (by omega)];exact q)
theorem Ow:OpR X (binaryOp .Pow) (rI CPow λi j=>.int (i ^ j.toNat)):=opI λ_ _ _ _ _ _ _ hc q=>pow_int_small hc.1 hc.2.1 hc.2.2 q
theorem unI {f:Value->Sem Value}{g:Int->Int}
    (rule:∀ (i:Int) (t:Tok) (s:Shared) (Q:Value->Shared->Prop) (E:Value->Shared->Prop),Q (.int (g i) s.toks) { s with toks:=s.toks+1 }->wpAny (model X.prog X.w) X.A (f (.int i t)) Q E s) :
    UnR X f (rU λi=>.int (g i)):=by
  intro pins s σ H x v Q I rx h;obtain⟨i,rfl,q⟩:=h;obtain⟨t,rfl⟩:=rx;exact rule i t s _ _ ⟨.int (g i),H,I.tok _,⟨_,rfl⟩,q⟩
theorem G8:UnR X (unaryOp .USub) (rU λi=>.int (-i)):=unI λ_ _ _ _ _ q=>neg_int q
end
noncomputable def scal:V->V->Bool
  |.non,.non=>true|.non,.int _=>true|.int _,.non=>true|.non,.bl _=>true|.bl _,.non=>true|.non,.str _=>true|.str _,.non=>true
  |.int _,.int _=>true|.bl _,.bl _=>true|.str _,.str _=>true|.byt _,.byt _=>true
  |.int _,.str _=>true|.str _,.int _=>true|.bl _,.str _=>true|.str _,.bl _=>true
  |_,_=>false
def rEq:R2:=λx y H Q=>scal x y=true /\ Q (.bl (decide (x=y))) H
def rNe:R2:=λx y H Q=>scal x y=true /\ Q (.bl (!decide (x=y))) H
theorem DI {i j:Int}:decide (V.int i=V.int j)=(i==j):=by
  rw[Bool.eq_iff_iff];simp
theorem G9 {i j:Bool}:decide (V.bl i=V.bl j)=(i==j):=by
  rw[Bool.eq_iff_iff];simp
theorem DJ {i j:Str}:decide (V.str i=V.str j)=(i==j):=by
  rw[Bool.eq_iff_iff];simp
theorem DK {i j:Array UInt8}:decide (V.byt i=V.byt j)=(i.toList==j.toList):=by
  rw[Bool.eq_iff_iff];cases i;cases j;simp
section
variable {X : Cx} {a b c : Expr} {ta tb tc : TE} {pos : Pos}
theorem fX {pins:List (Addr×Obj)}{σ:St}{H:Hp}{s:Shared}{Q:VK}{k k':Bool}(I:Inv X pins σ H s) (q:Q (.bl k) H) (e:k=k'):EP X pins σ Q (.bool k') s:=by
  subst e;exact⟨.bl k,H,I,rfl,q⟩
theorem Ro:OpR X (compareOp .Eq) rEq:=by
  intro pins s σ H x y v u Q I rx ry h;obtain⟨hs,q⟩:=h;cases x with
  | non =>
    cases rx;cases y with
    |non=>cases ry;exact PySem.EqNone.eq_none_none (fX I q (by simp))
    |bl j=>cases ry;exact PySem.EqNone.eq_none_bool (fX I q (by simp))
    |int j=>obtain⟨t',rfl⟩:=ry;exact PySem.EqNone.eq_none_int (fX I q (by simp))
    |str j=>obtain⟨t',rfl⟩:=ry;exact PySem.EqNone.eq_none_str (fX I q (by simp))
    |_=>exact absurd (show false=true from hs) Bool.false_ne_true
  | bl i =>
    cases rx;cases y with
    |non=>cases ry;exact PySem.EqNone.eq_bool_none (fX I q (by simp))
    |bl j=>cases ry;exact eq_bool (fX I q G9)
    |str j=>obtain⟨t',rfl⟩:=ry;exact PySem.EqMixed.eq_bool_str (fX I q (by simp))
    |_=>exact absurd (show false=true from hs) Bool.false_ne_true
  | int i =>
    obtain⟨t,rfl⟩:=rx;cases y with
    |non=>cases ry;exact PySem.EqNone.eq_int_none (fX I q (by simp))
    |int j=>obtain⟨t',rfl⟩:=ry;exact eq_int (fX I q DI)
    |str j=>obtain⟨t',rfl⟩:=ry;exact PySem.EqMixed.eq_int_str (fX I q (by simp))
    |_=>exact absurd (show false=true from hs) Bool.false_ne_true
  | str i =>
    obtain⟨t,rfl⟩:=rx;cases y with
    |non=>cases ry;exact PySem.EqNone.eq_str_none (fX I q (by simp))
    |bl j=>cases ry;exact PySem.EqMixed.eq_str_bool (fX I q (by simp))
    |int j=>obtain⟨t',rfl⟩:=ry;exact PySem.EqMixed.eq_str_int (fX I q (by simp))
    |str j=>obtain⟨t',rfl⟩:=ry;exact eq_str (fX I q DJ)
    |_=>exact absurd (show false=true from hs) Bool.false_ne_true
  | byt i =>
    obtain⟨t,rfl⟩:=rx;cases y with
    |byt j=>obtain⟨t',rfl⟩:=ry;exact PySem.W.eq_bytes (fX I q DK)
    |_=>exact absurd (show false=true from hs) Bool.false_ne_true
  |_=>cases y<;>exact absurd (show false=true from hs) Bool.false_ne_true
theorem NZ:OpR X (compareOp .NotEq) rNe:=by
  intro pins s σ H x y v u Q I rx ry h;obtain⟨hs,q⟩:=h;cases x with
  | non =>
    cases rx;cases y with
    |non=>cases ry;exact PySem.EqNone.ne_none_none (fX I q (by simp))
    |bl j=>cases ry;exact PySem.EqNone.ne_none_bool (fX I q (by simp))
    |int j=>obtain⟨t',rfl⟩:=ry;exact PySem.EqNone.ne_none_int (fX I q (by simp))
    |str j=>obtain⟨t',rfl⟩:=ry;exact PySem.EqNone.ne_none_str (fX I q (by simp))
    |_=>exact absurd (show false=true from hs) Bool.false_ne_true
  | bl i =>
    cases rx;cases y with
    |non=>cases ry;exact PySem.EqNone.ne_bool_none (fX I q (by simp))
    |bl j=>cases ry;exact ne_bool (fX I q (congrArg not G9))
    |str j=>obtain⟨t',rfl⟩:=ry;exact PySem.EqMixed.ne_bool_str (fX I q (by simp))
    |_=>exact absurd (show false=true from hs) Bool.false_ne_true
  | int i =>
    obtain⟨t,rfl⟩:=rx;cases y with
    |non=>cases ry;exact PySem.EqNone.ne_int_none (fX I q (by simp))
    |int j=>obtain⟨t',rfl⟩:=ry;exact ne_int (fX I q (congrArg not DI))
    |str j=>obtain⟨t',rfl⟩:=ry;exact PySem.EqMixed.ne_int_str (fX I q (by simp))
    |_=>exact absurd (show false=true from hs) Bool.false_ne_true
  | str i =>
    obtain⟨t,rfl⟩:=rx;cases y with
    |non=>cases ry;exact PySem.EqNone.ne_str_none (fX I q (by simp))
    |bl j=>cases ry;exact PySem.EqMixed.ne_str_bool (fX I q (by simp))
    |int j=>obtain⟨t',rfl⟩:=ry;exact PySem.EqMixed.ne_str_int (fX I q (by simp))
    |str j=>obtain⟨t',rfl⟩:=ry;exact ne_str (fX I q (congrArg not DJ))
    |_=>exact absurd (show false=true from hs) Bool.false_ne_true
  | byt i =>
    obtain⟨t,rfl⟩:=rx;cases y with
    |byt j=>obtain⟨t',rfl⟩:=ry;exact PySem.W.ne_bytes (fX I q (congrArg not DK))
    |_=>exact absurd (show false=true from hs) Bool.false_ne_true
  |_=>cases y<;>exact absurd (show false=true from hs) Bool.false_ne_true
theorem Rp:OpR X (compareOp .Lt) (rI0 λi j=>.bl (decide (i<j))):=opB0 λ_ _ _ _ _ _ _ q=>lt_int q
theorem Rq:OpR X (compareOp .LtE) (rI0 λi j=>.bl (decide (i<=j))):=opB0 λ_ _ _ _ _ _ _ q=>le_int q
theorem Rs:OpR X (compareOp .Gt) (rI0 λi j=>.bl (decide (j<i))):=opB0 λ_ _ _ _ _ _ _ q=>gt_int q
theorem Rt:OpR X (compareOp .GtE) (rI0 λi j=>.bl (decide (j<=i))):=opB0 λ_ _ _ _ _ _ _ q=>ge_int q
theorem OpR.or {f:Value->Value->Sem Value}{r r':R2}(h:OpR X f r) (h':OpR X f r'):OpR X f (λx y H Q=>r x y H Q \/ r' x y H Q):=by
  intro pins s σ H x y v u Q I rx ry q;rcases q with q|q
  . exact h pins s σ H x y v u Q I rx ry q
  . exact h' pins s σ H x y v u Q I rx ry q
theorem nomark (b:Expr) {op:CmpOp}(h:op≠.In:=by decide) (h2:op≠.NotIn:=by decide):behindInMarks op b=false:=by
  have e1:(op==CmpOp.In)=false:=by cases op<;>first|rfl|exact absurd rfl h
  have e2:(op==CmpOp.NotIn)=false:=by cases op<;>first|rfl|exact absurd rfl h2
  cases b<;>simp[behindInMarks,e1,e2]
theorem Mf {op:CmpOp}{r:R2}(ho:OpR X (compareOp op) r) (ha:PE X a ta) (hb:PE X b tb) (hm:behindInMarks op b=false):PE X (.Compare a [op] [b] pos) (tOp r ta tb):=by
  intro pins s σ H Q I h;exact wpAny_Compare1 (binT ha hb I h λv u s2 x y H2 I2 rx ry q=>ho pins s2 σ H2 x y v u Q I2 rx ry q) hm
noncomputable def tTest (t:TE):TT:=λσ H Q=>t σ H λx H'=>∃ k,x=.bl k /\ Q k H'
theorem DM {op:CmpOp}{r:R2}(ho:OpR X (compareOp op) r) (ha:PE X a ta) (hb:PE X b tb) (hm:behindInMarks op b=false):PT X (.Compare a [op] [b] pos) (tTest (tOp r ta tb)):=by
  intro pins s σ H Q I h;refine wpAny_isTrue_Compare1 (thn (ha pins s σ H _ I h) λv s1 ⟨x,H1,I1,r1,q1⟩=>thn (hb pins s1 σ H1 _ I1 q1) λu s2 ⟨y,H2,I2,r2,q2⟩ =>
    thn (ho pins s2 σ H2 x y v u _ I2 r1 r2 q2) λc s3 ⟨z,H3,I3,r3,k,e,q3⟩=>?_) hm
  subst e;cases r3;exact wpAny_truthy_bool ⟨H3,I3,q3⟩
def tChain (r r':R2) (ta tb tc:TE):TE:=λσ H Q=>ta σ H λx H1=>tb σ H1 λy H2=>r x y H2 λz H3=>∃ k,z=.bl k /\
  (if k=true then tc σ H3 λw' H4=>r' y w' H4 Q else Q (.bl false) H3)
theorem Ja {op op':CmpOp}{r r':R2}(ho:OpR X (compareOp op) r) (ho':OpR X (compareOp op') r') (ha:PE X a ta) (hb:PE X b tb) (hc:PE X c tc)
    (hm:lastMarks [op,op'] [b,c]=false:=by with_unfolding_all rfl):PE X (.Compare a [op,op'] [b,c] pos) (tChain r r' ta tb tc):=by
  intro pins s σ H Q I h;refine Compare_chain (thn (ha pins s σ H _ I h) λv s1 ⟨x,H1,I1,r1,q1⟩=>chain_link (thn (hb pins s1 σ H1 _ I1 q1) λu s2 ⟨y,H2,I2,r2,q2⟩ =>
    thn (ho pins s2 σ H2 x y v u _ I2 r1 r2 q2) λd s3 ⟨z,H3,I3,r3,k,e,q3⟩=>?_)) hm
  subst e;cases r3;refine wpAny_truthy_bool ?_;cases k with
  |false=>exact ite_ff ⟨.bl false,H3,I3,rfl,q3⟩
  |true=>exact ite_tt (chain_last (thn (hc pins s3 σ H3 _ I3 q3) λw' s4 ⟨z',H4,I4,r4,q4⟩=>ho' pins s4 σ H4 y z' u w' Q I4 r2 r4 q4))
theorem Jb {op op':CmpOp}{r r':R2}(ho:OpR X (compareOp op) r) (ho':OpR X (compareOp op') r') (ha:PE X a ta) (hb:PE X b tb) (hc:PE X c tc)
    (hm:lastMarks [op,op'] [b,c]=false:=by with_unfolding_all rfl):PT X (.Compare a [op,op'] [b,c] pos) (tTest (tChain r r' ta tb tc)):=by
  intro pins s σ H Q I h;refine isTrue_chain (thn (ha pins s σ H _ I h) λv s1 ⟨x,H1,I1,r1,q1⟩=>test_link (thn (hb pins s1 σ H1 _ I1 q1) λu s2 ⟨y,H2,I2,r2,q2⟩ =>
    thn (ho pins s2 σ H2 x y v u _ I2 r1 r2 q2) λd s3 ⟨z,H3,I3,r3,k,e,q3⟩=>?_)) hm
  subst e;cases r3;refine wpAny_truthy_bool ?_;cases k with
  | false =>
    obtain⟨k',e',q'⟩:=q3;cases e';exact ite_ff ⟨H3,I3,q'⟩
  | true =>
    refine ite_tt (test_last (thn (hc pins s3 σ H3 _ I3 q3) λw' s4 ⟨z',H4,I4,r4,q4⟩=>thn (ho' pins s4 σ H4 y z' u w' _ I4 r2 r4 q4) λd' s5 ⟨z2,H5,I5,r5,k2,e2,q5⟩=>?_));subst e2;cases r5;exact wpAny_truthy_bool ⟨H5,I5,q5⟩
def TruV (K:PySem.W.Frag) (x:V) (H:Hp) (k:Bool):Prop :=
  match x with
  |.non=>k=false
  |.bl b=>k=b
  |.int i=>k=(i != 0)
  |.str y=>y.length<=sizeLine /\ k=((y.length:Int) != 0)
  |.byt y=>y.size<=sizeLine /\ k=((y.size:Int) != 0)
  |.ref p=>(∃ xs,SqL K H p xs /\ k=!xs.isEmpty) \/ (∃ xs,SqT K H p xs /\ k=!xs.isEmpty) \/ ∃ kvs,H p=some (.dK kvs) /\ k=!kvs.isEmpty
  |_=>False
theorem C3 {κ:Type}{kvs:List (κ×V)}{vs:List (κ×Value)}(r:KV kvs vs):(!vs.isEmpty)=!kvs.isEmpty:=by
  cases r<;>rfl
theorem oK {xs:List V}{its:List Value}(r:Vals xs its):(!its.toArray.isEmpty)=!xs.isEmpty:=by
  cases r<;>simp
theorem line63:(sizeLine:Nat)<2 ^ 63:=by rw[sizeLine_eq];decide
theorem Ox:TruR X (λx H Q=>∃ k,TruV X.K x H k /\ Q k H):=by
  intro pins s σ H x v Q I rx h;obtain⟨k,e,q⟩:=h;have hl:=line63;have hs:sizeLine=16777216:=sizeLine_eq;cases x with
  | non =>
    cases rx;have e':k=false:=e;subst e';exact truthy_none ⟨H,I,q⟩
  | bl b =>
    cases rx;have e':k=b:=e;subst e';exact wpAny_truthy_bool ⟨H,I,q⟩
  | int i =>
    obtain⟨t,rfl⟩:=rx;have e':k=(i != 0):=e;subst e';exact PySem.P.truthy_int ⟨H,I,q⟩
  | str y =>
    obtain⟨t,rfl⟩:=rx;obtain⟨hy,e'⟩:y.length<=sizeLine /\ k=((y.length:Int) != 0):=e;subst e';exact PySem.P.truthy_str (by omega) ⟨H,I.tok _,q⟩
  | byt y =>
    obtain⟨t,rfl⟩:=rx;obtain⟨hy,e'⟩:y.size<=sizeLine /\ k=((y.size:Int) != 0):=e;subst e';exact PySem.W.truthy_bytes (by omega) ⟨H,I.tok _,q⟩
  | ref p =>
    cases rx;have e':(∃ xs,SqL X.K H p xs /\ k=!xs.isEmpty) \/ (∃ xs,SqT X.K H p xs /\ k=!xs.isEmpty) \/ ∃ kvs,H p=some (.dK kvs) /\ k=!kvs.isEmpty:=e;rcases e' with⟨xs,hx,e'⟩|⟨xs,hx,e'⟩|⟨kvs,hx,e'⟩
    . subst e';obtain⟨its,r,pl,hz⟩:=I.list hx;have hlen:=r.length;exact wpAny_truthy_list pl.isList (by simp only[List.size_toArray];omega) ⟨H,I.tok _,by rw[oK r];exact q⟩
    . subst e';obtain⟨its,r,pl,hz⟩:=I.tuple hx;have hlen:=r.length;exact truthy_tuple pl (by simp only[List.size_toArray];omega) ⟨H,I.tok _,by rw[oK r];exact q⟩
    . subst e';obtain⟨hz,hS,vs,r,m⟩:kvs.length<=sizeLine /\ (p==sysModules)=false /\ ∃ vs,KV kvs vs /\ s.heap.DictOf (mixKind X.prog X.w) p vs:=I.hok p _ hx;have hlen:kvs.length=vs.length:=Paired.length r;exact wpAny_truthy_dict hS m (by omega) ⟨H,I.tok _,by rw[C3 r];exact q⟩
  |_=>exact(show False from e).elim
theorem Jc (ha:PE X a ta) (he:∀ whole,isTrue a X.env whole=(do let v <-whole;standAt a.pos;holding [v] (truthy v))) :
    PT X a (λσ H Q=>ta σ H λx H'=>∃ k,TruV X.K x H' k /\ Q k H'):=by
  intro pins s σ H Q I h;exact isTrue_plain (thn (ha pins s σ H _ I h) λv s1 ⟨x,H1,I1,r1,q1⟩=>Ox pins s1 σ H1 x v Q I1 r1 q1) (he _)
theorem C4:OpR X (binaryOp .Add) (λx y H Q=>∃ i j,x=.str i /\ y=.str j /\ i.length+j.length<=sizeLine /\ Q (.str (i++j)) H):=by
  intro pins s σ H x y v u Q I rx ry h;obtain⟨i,j,rfl,rfl,hz,q⟩:=h;obtain⟨t,rfl⟩:=rx;obtain⟨t',rfl⟩:=ry;exact add_str (λt' tk=>⟨.str (i++j),H,I.tok _,⟨_,rfl⟩,q⟩) hz
theorem vals1 {x:V}{us:List Value}(r:Vals [x] us):∃ u,us=[u] /\ RelV x u:=by
  cases r with
  |cons r1 r2=>cases r2;exact⟨_,rfl,r1⟩
theorem vals2 {x y:V}{us:List Value}(r:Vals [x,y] us):∃ u w',us=[u,w'] /\ RelV x u /\ RelV y w':=by
  cases r with
  | cons r1 r2 =>
    cases r2 with
    |cons r3 r4=>cases r4;exact⟨_,_,rfl,r1,r3⟩
theorem F8 (hc:X.calm=true):CallR X (.builtin "max") (λxs H Q=>∃ i j,xs=[.int i,.int j] /\ Q (.int (if j>i then j else i)) H):=by
  intro pins s σ H xs us Q I r h;obtain⟨i,j,rfl,q⟩:=h;obtain⟨u,w',rfl,⟨t,rfl⟩,⟨t',rfl⟩⟩:=vals2 r;refine max_two_ints (I.ok.hd hc) λh' tk k=>⟨_,H,I.kept k,?_,q⟩;by_cases hj:j>i
  . rw[if_pos hj,if_pos hj];exact⟨_,rfl⟩
  . rw[if_neg hj,if_neg hj];exact⟨_,rfl⟩
theorem F9 (hc:X.calm=true):CallR X (.builtin "min") (λxs H Q=>∃ i j,xs=[.int i,.int j] /\ Q (.int (if j<i then j else i)) H):=by
  intro pins s σ H xs us Q I r h;obtain⟨i,j,rfl,q⟩:=h;obtain⟨u,w',rfl,⟨t,rfl⟩,⟨t',rfl⟩⟩:=vals2 r;refine min_two_ints (I.ok.hd hc) λh' tk k=>⟨_,H,I.kept k,?_,q⟩;by_cases hj:j<i
  . rw[if_pos hj,if_pos hj];exact⟨_,rfl⟩
  . rw[if_neg hj,if_neg hj];exact⟨_,rfl⟩
end
structure ObjM (h:Heap) (x dx C:Addr) (mA:Str->Option Value):Prop where
  obj:h.get? x=some (PySem.W.instObj C dx)
  ns:h.Ns1 dx mA
  ne:dx≠x
theorem Ga {h:Heap}{dx:Addr}{mA:Str->Option Value}(n:h.Ns1 dx mA):∃ od,h.get? dx=some od /\ ∀ name,PySem.W.lookIn name od=some (mA name):=by
  obtain⟨o,es,ep,ho,hd,hk,_,hm⟩:=n;refine⟨o,ho,λname=>?_⟩;have e:=hm name;unfold nsFind findBy at e;rw[<-Array.find?_toList]at e;unfold PySem.W.lookIn;rw[hd];dsimp only;split
  . rename_i y q;rw[q]at e;exact congrArg some e
  . rename_i q;rw[q]at e;have a:es.toList.any (·.refKey)=false:=by
      rw[List.any_eq_false];intro y hy;obtain⟨z,t,hkey⟩:=hk y (Array.mem_toList_iff.mp hy);simp[DictEntry.refKey,hkey]
    have a':¬ es.toList.any (·.refKey)=true:=by rw[a];exact Bool.false_ne_true
    rw[if_neg a'];exact congrArg some e
theorem ObjM.look {h:Heap}{x dx C:Addr}{mA:Str->Option Value}(I:ObjM h x dx C mA):∃ od,PySem.W.InstAt h x (PySem.W.instObj C dx) C (some od) /\ ∀ name,PySem.W.lookIn name od=some (mA name):=
  let ⟨od,ho,hl⟩:=Ga I.ns
  ⟨od,⟨I.obj,rfl,rfl,ho⟩,hl⟩
section
variable {prog : Program} {w : World} {A : Around} {E : Value -> Shared -> Prop} {s : Shared} {K : PySem.W.Frag} {x dx C f : Addr} {mA : Str -> Option Value} {name : Str} {v : Value}
end
section
variable {P : Program} {w : World} {H H' : Hp} {h h' : Heap} {a C dx : Addr} {fs fs' : List (Str × V)}
theorem Mg (hok:HOk P w H h) (e:H a=some (.ins C dx fs)):∃ mA,ObjM h a dx C mA /\ (∀ f,RelO (fs.lookup f) (mA f)) /\ PySem.Within mA (fs.map (·.1)) /\ fs.length<=1000 /\ H dx=some (.own a):=by
  obtain⟨d,z,ne,ob,mA,n,r,q⟩:=(show ObjOk P w H h a (.ins C dx fs) from hok a _ e);exact⟨mA,⟨ob,n,ne⟩,r,q,z,d⟩
end
structure Cls (K:PySem.W.Frag) (C:Addr):Prop where
  pg:PySem.W.plainGet K C Str.empty=true
  hd:PySem.W.hasDictIn K C=true
  po:PySem.W.plainOver K C=true
  sa:PySem.W.findIn K (.ref C) "__setattr__"=some (some (.builtin "object.__setattr__"))
theorem Cls.get {K:PySem.W.Frag}{C:Addr}(c:Cls K C) (f:Str):PySem.W.plainGet K C f=true:=c.pg
section
variable {X : Cx} {pins : List (Addr × Obj)} {σ : St} {H : Hp} {s : Shared} {a C dx : Addr} {fs : List (Str × V)} {f : Str} {v : V} {A : Around} {E : Value -> Shared -> Prop}
end
section
variable {X : Cx} {o e value : Expr} {f : Str} {pos pos' tpos : Pos} {ta tv : TE}
end
section
variable {X : Cx} {pins : List (Addr × Obj)} {σ : St} {H : Hp} {s : Shared} {A : Around} {E : Value -> Shared -> Prop} {Q : Value -> Shared -> Prop} {c : Value} {b : Bool}
inductive TyOf (K:PySem.W.Frag) (H:Hp):V->Value->Prop where
  |non:TyOf K H .non (.type "NoneType")
  |bl (x:Bool):TyOf K H (.bl x) (.type "bool")
  |int (i:Int):TyOf K H (.int i) (.type "int")
  |str (x:Str):TyOf K H (.str x) (.type "str")
  |flt (x:UInt64):TyOf K H (.flt x) (.type "float")
  |lst {a:Addr}{xs:List V}(e:H a=some (.lst xs)):TyOf K H (.ref a) (.type "list")
  |frz {a:Addr}{o:Obj}{xs:List V}(e:H a=some (.frz o (.lst xs))):TyOf K H (.ref a) (.type "list")
  |tup {a:Addr}{xs:List V}(e:H a=some (.tup xs)):TyOf K H (.ref a) (.type "tuple")
  |dK {a:Addr}{kvs:List (Key×V)}(e:H a=some (.dK kvs)):TyOf K H (.ref a) (.type "dict")
  |dT {a:Addr}{kvs:List (List Key×V)}(e:H a=some (.dT kvs)):TyOf K H (.ref a) (.type "dict")
  |ins {a C dx:Addr}{fs:List (Str×V)}(e:H a=some (.ins C dx fs)) (cl:Cls K C) (ha:PySem.W.findIn K (.ref C) "__class__"=some (some (.builtin "object.__class__")))
      (hn:PySem.W.specialIn K (.builtin "object.__class__") "__get__"=some (some (.builtin "getset_descriptor.__get__"))) (htk:PySem.W.takesIn K (.builtin "object.__class__")=some true)
      (hm:PySem.W.mroIn K C (.type "object")=some true):TyOf K H (.ref a) (.ref C)
theorem Gb {x:V}{u t:Value}(I:Inv X pins σ H s) (rx:RelV x u) (ty:TyOf X.K H x t) (e:PySem.W.kitOne X.K t c=some b) (h:∀ tk,Q (.bool b) { s with toks:=tk }) :
    wpAny (model X.prog X.w) A (call (.builtin "isinstance") [u,c]) Q E s:=by
  cases ty with
  |non=>cases (show u=Value.none from rx);exact PySem.W.kia_one PySem.W.kitx_none I.kIn True.intro e (λz=>nomatch z) h
  |bl y=>cases (show u=Value.bool y from rx);exact PySem.W.kia_one PySem.W.kitx_bool I.kIn True.intro e (λz=>nomatch z) h
  |int i=>obtain⟨t,q⟩:=(show ∃ t,u=Value.int i t from rx);cases q;exact PySem.W.kia_one PySem.W.kitx_int I.kIn True.intro e (λz=>nomatch z) h
  |str y=>obtain⟨t,q⟩:=(show ∃ t,u=Value.str y t from rx);cases q;exact PySem.W.kia_one PySem.W.kitx_str I.kIn True.intro e (λz=>nomatch z) h
  |flt y=>obtain⟨t,q⟩:=(show ∃ t,u=Value.float y t from rx);cases q;exact PySem.W.kia_one PySem.W.kitx_float I.kIn True.intro e (λz=>nomatch z) h
  | @lst a xs ea =>
    cases (show u=Value.ref a from rx);obtain⟨_,_,n,_,h1⟩:=(show ObjOk X.prog X.w H s.heap a (.lst xs) from I.hok a _ ea);exact PySem.W.kia_one PySem.W.kitx_list I.kIn ⟨_,h1,rfl⟩ e (λz=>nomatch z) h
  | @frz a ob xs ea =>
    cases (show u=Value.ref a from rx);obtain⟨_,_,_,n,_,h1⟩:=(show ObjOk X.prog X.w H s.heap a (.frz ob (.lst xs)) from I.hok a _ ea);exact PySem.W.kia_one PySem.W.kitx_list I.kIn ⟨_,h1,rfl⟩ e (λz=>nomatch z) h
  | @tup a xs ea =>
    cases (show u=Value.ref a from rx);obtain⟨_,_,_,p⟩:=(show ObjOk X.prog X.w H s.heap a (.tup xs) from I.hok a _ ea);obtain⟨o,h1,h2,_⟩:=p;exact PySem.W.kia_one PySem.W.kitx_tuple I.kIn ⟨o,h1,h2⟩ e (λz=>nomatch z) h
  | @dK a kvs ea =>
    cases (show u=Value.ref a from rx);obtain⟨_,_,vs,_,p⟩:=(show ObjOk X.prog X.w H s.heap a (.dK kvs) from I.hok a _ ea);obtain⟨o,es,ep,h1,h2,_⟩:=p;exact PySem.W.kia_one PySem.W.kitx_dict I.kIn ⟨o,h1,h2.1⟩ e (λz=>nomatch z) h
  | @dT a kvs ea =>
    cases (show u=Value.ref a from rx);obtain⟨_,_,xs,_,o,es,ep,h1,h2,_⟩:=(show ObjOk X.prog X.w H s.heap a (.dT kvs) from I.hok a _ ea);exact PySem.W.kia_one PySem.W.kitx_dict I.kIn ⟨o,h1,h2.1⟩ e (λz=>nomatch z) h
  | @ins a C dx fs ea cl ha hn htk hm =>
    cases (show u=Value.ref a from rx);obtain⟨mA,O,_⟩:=Mg I.hok ea;obtain⟨od,J,_⟩:=O.look;exact PySem.W.kia_one (PySem.W.kitx_own (cl.get _) cl.hd ha hn htk hm) I.kIn J e (λz=>nomatch z) h
end
structure Room (k:Nat) (A:Around):Prop where
  hd:A.handled=none
  dp:A.depth+3*k+5<recursionLimit
  un:A.units+16*k+200<cLine
  gd:A.guards=some []
theorem Room.mono {j k:Nat}{A:Around}(r:Room k A) (h:j<=k):Room j A:=⟨r.hd,by have:=r.dp;omega,by have:=r.un;omega,r.gd⟩
theorem Room.deeper {k:Nat}{A:Around}(r:Room (k+1) A) (env:Env):Room k (A.deeper env):=
  ⟨r.hd,by have:=r.dp;show A.depth+1+3*k+5<_;omega,by have:=r.un;show A.units+3+16*k+200<_;omega,by first|exact r.gd|(rw[<-r.gd];first|rfl|simp[Around.under,Code.isGuard,guardIds])⟩
theorem Room.depth {k:Nat}{A:Around}(r:Room k A):A.depth<recursionLimit:=by have:=r.dp;omega
theorem Room.units {k:Nat}{A:Around}(r:Room k A):A.units+64<cLine:=by have:=r.un;omega
def tNil:TA:=λ_ H Q=>Q [] H
def tCons (ta:TE) (tr:TA):TA:=λσ H Q=>ta σ H λx H1=>tr σ H1 λxs H2=>Q (x::xs) H2
section
variable {X : Cx} {e : Expr} {es : List Expr} {te : TE} {t : TA} {pos : Pos}
theorem fS:PA X [] tNil:=λ_ _ _ _ H Q I h=>Calls.spliced_nil ⟨[],H,I,.nil,h⟩
theorem fm (ha:PE X e te) (hr:PA X es t) (hs:starEach (e::es) X.env=(false,eval e X.env)::starEach es X.env:=by rfl):PA X (e::es) (tCons te t):=by
  intro pos pins s σ H Q I h;rw[hs];show wpAny _ _ (spliced ((false,eval e X.env)::backTo pos (starEach es X.env))) _ _ s;refine Calls.spliced_cons (thn (ha pins s σ H _ I h) λu s1 ⟨x,H1,I1,r1,q1⟩=>?_);exact thn (hr pos pins s1 σ H1 _ I1 q1) λus s2 ⟨xs,H2,I2,r2,q2⟩=>⟨x::xs,H2,I2,.cons r1 r2,q2⟩
def tTup (t:TA):TE:=λσ H Q=>t σ H λxs H1=>xs.length<=sizeLine /\ ∀ p,H1 p=none->Q (.ref p) (upd H1 p (.tup xs))
def tLst (t:TA):TE:=λσ H Q=>t σ H λxs H1=>xs.length<=sizeLine /\ ∀ p,H1 p=none->Q (.ref p) (upd H1 p (.lst xs))
theorem Jd {x1}(h:PA X es t):PE X (.Tuple es x1 pos) (tTup t):=by
  intro pins s σ H Q I hq;refine wpAny_Tuple_spliced (thn (h pos pins s σ H _ I hq) λus s1 ⟨xs,H1,I1,r,z,q⟩=>⟨by rw[<-r.length];exact z,?_⟩);have hf:H1 s1.heap.objs.size=none:=I1.hok.fresh (zL _);refine⟨.ref s1.heap.objs.size,upd H1 s1.heap.objs.size (.tup xs),I1.laid (t':=s1.toks) (λb u e=>zH _ e) (zL _) ?_,rfl,q _ hf⟩;exact⟨z,us,r,⟨_,Heap.get?_push_size _ rfl,rfl,_,rfl⟩⟩
theorem lI (h:PA X es t):PE X (.List es pos) (tLst t):=by
  intro pins s σ H Q I hq;refine wpAny_List_spliced (thn (h pos pins s σ H _ I hq) λus s1 ⟨xs,H1,I1,r,z,q⟩=>⟨by rw[<-r.length];exact z,?_⟩);have hf:H1 s1.heap.objs.size=none:=I1.hok.fresh (zL _);refine⟨.ref s1.heap.objs.size,upd H1 s1.heap.objs.size (.lst xs),I1.laid (t':=s1.toks) (λb u e=>zH _ e) (zL _) ?_,rfl,q _ hf⟩;exact⟨z,us,0,r,Heap.get?_push_size _ rfl⟩
end
noncomputable abbrev Sp:=List V->Hp->VK->XK->Prop
noncomputable abbrev CXT:=List Env->Hp->Shared->XK->Value->Shared->Prop
structure Env0 (P:Program) (w:World) (K:PySem.W.Frag) (mg:Str->Option Value) (base:Heap) (A:Around) (outer:List Env) (s:Shared) (H:Hp):Prop where
  frames:A.frames=some outer
  mod:Mod K mg base
  bs:∀ b o,base.get? b=some o->s.heap.get? b=some o /\ H b=none
  bsz:base.objs.size<=s.heap.objs.size
  funs:s.heap.FunFrames base outer
  frf:∀ b∈frs outer,H b=none
  hok:HOk P w H s.heap
  bare:AllBare s.gens
def CE (outer:List Env) (P:Program) (w:World) (H:Hp) (s:Shared) (Q:VK) (u:Value) (s':Shared):Prop :=
  ∃ v H',s'.os=s.os /\ AllBare s'.gens /\ Un (frs outer) [] H H' s.heap s'.heap /\ HOk P w H' s'.heap /\ RelV v u /\ Q v H'
def CR (CX:CXT) (outer:List Env) (P:Program) (w:World) (H:Hp) (s:Shared) (Q:VK) (E:XK) (r:Result) (s':Shared):Prop :=
  match r with
  |.ok (.ret u)=>CE outer P w H s Q u s'
  |.ok _=>False
  |.error e=>CX outer H s E e s'
structure FnOk (P:Program) (w:World) (K:PySem.W.Frag) (mg:Str->Option Value) (base:Heap) (CX:CXT) (k:Nat) (f:Addr) (fd:FuncData) (ps:List Str) (sp:Sp):Prop where
  len:∀ vs H Q E,sp vs H Q E->vs.length=ps.length
  run:∀ (A:Around) (outer:List Env) (s:Shared) (H:Hp) (args:Args) (us:List Value) (vs:List V) (Q:VK) (E:XK),Room k A->Env0 P w K mg base A outer s H->BindsTo s fd args (ps.zip us)->Vals vs us->sp vs H Q E ->
    codeAny (model P w) A (.call (.ref f) args) (CR CX outer P w H s Q E) s
theorem FnOk.mono {P:Program}{w:World}{K:PySem.W.Frag}{mg:Str->Option Value}{base:Heap}{CX:CXT}{j k:Nat}{f:Addr}{fd:FuncData}{ps:List Str}{sp:Sp}(F:FnOk P w K mg base CX j f fd ps sp) (h:j<=k) :
    FnOk P w K mg base CX k f fd ps sp:=⟨F.len,λA outer s H args us vs Q E hr=>F.run A outer s H args us vs Q E (hr.mono h)⟩
section
variable {X : Cx} {pins : List (Addr × Obj)} {σ : St} {H : Hp} {s s' : Shared}
theorem Inv.env0 (I:Inv X pins σ H s):Env0 X.prog X.w X.K X.mg X.base X.A X.stack s H :=
  ⟨I.ok.frames,I.ok.mod,I.bs,Nat.le_trans I.ok.bsz I.sz,I.stack,I.stkFree,I.hok,I.bare⟩
theorem Inv.after {Q:VK}{u:Value}(I:Inv X pins σ H s) (h:CE X.stack X.prog X.w H s Q u s'):EP X pins σ Q u s':=by
  obtain⟨v,H',os,bare,un,hok,r,q⟩:=h;obtain⟨hh,g,d,t,os'⟩:=s';obtain rfl:os'=s.os:=os;exact⟨v,H',I.call (h':=hh) (g':=g) (d':=d) (t':=t) (ch:=[]) un hok bare (λb z=>absurd z (by simp)),r,q⟩
end
def tCall (sp:Sp) (dvs:List V) (E:XK) (t:TA):TE:=λσ H Q=>t σ H λvs H1=>sp (vs++dvs) H1 Q E
def Binds (K:PySem.W.Frag) (fd:FuncData) (ps:List Str) (ds:List Value):Prop :=
  ∀ (s:Shared) (us:List Value),K.In s.heap->(us++ds).length=ps.length->BindsTo s fd ⟨us,[]⟩ (ps.zip (us++ds))
theorem Binds.all {K:PySem.W.Frag}{fd:FuncData}{ps:List Str}(h:∀ us:List Value,us.length=ps.length->bindArgs fd ⟨us,[]⟩=pure (ps.zip us)):Binds K fd ps []:=λs us _ hl=>by
  rw[List.append_nil]at hl ⊢;exact .of_eq (h us hl)
def Passes (CX:CXT) (X:Cx) (E:XK):Prop:=∀ (pins:List (Addr×Obj)) (σ:St) (H:Hp) (s:Shared) (e:Value) (s':Shared),Inv X pins σ H s->CX X.stack H s E e s'->X.xe e s'
section
variable {X : Cx} {CX : CXT} {k : Nat} {f C : Addr} {fd : FuncData} {ps : List Str} {sp : Sp} {dvs : List V} {ds : List Value} {E : XK} {x m : Str} {p pos apos : Pos} {e o : Expr} {es : List Expr} {ta : TE} {t : TA}
theorem Oy {pins:List (Addr×Obj)}{σ:St}{H:Hp}{s:Shared}{Q:VK}{us:List Value}{vs:List V}(F:FnOk X.prog X.w X.K X.mg X.base CX k f fd ps sp) (hr:Room k X.A) (hb:Binds X.K fd ps ds) (hd:Vals dvs ds) (hx:Passes CX X E)
    (I:Inv X pins σ H s) (r:Vals vs us) (h:sp (vs++dvs) H Q E):wpAny (model X.prog X.w) X.A (call (.ref f) us) (EP X pins σ Q) X.xe s:=by
  have r2:Vals (vs++dvs) (us++ds):=r.append hd;have hl:(us++ds).length=ps.length:=by rw[<-r2.length];exact F.len _ _ _ _ h
  refine wpAny_call (codeAny_mono (F.run X.A X.stack s H ⟨us,[]⟩ (us++ds) (vs++dvs) Q E hr I.env0 (hb s us I.kIn hl) r2 h) λr s' hq=>?_);cases r with
  |error e=>exact hx pins σ H s e s' I hq
  | ok fl =>
    cases fl with
    |ret u=>exact I.after hq
    |next=>exact False.elim hq
    |brk=>exact False.elim hq
    |cont=>exact False.elim hq
theorem Mh (F:FnOk X.prog X.w X.K X.mg X.base CX k f fd ps sp) (hr:Room k X.A) (hg:Gl X x) (hm:X.mg x=some (.ref f)) (hk:PySem.W.keepIn X.K (.ref f)=true) (hb:Binds X.K fd ps ds) (hd:Vals dvs ds) (hx:Passes CX X E)
    (ha:PA X (e::es) t) (hdb:(x==("__debug__":Str))=false:=by decide) (he:starEach (e::es) X.env=(false,eval e X.env)::starEach es X.env:=by rfl) (hpl:(backTo pos (starEach es X.env)).any (·.1)=false:=by rfl) :
    PE X (.Call (.Name x p) (e::es) [] pos) (tCall sp dvs E t):=by
  intro pins s σ H Q I h;refine wpAny_Call_Name_kw (om I hg hm ?_ hdb);refine PySem.W.callWith_K (h₀:=X.base) I.ok.mod.kin hk (thn (ha pos pins s σ H _ I h) λus s1 ⟨vs,H1,I1,r,q⟩=>⟨I1.kIn,?_⟩) he hpl;exact Oy F hr hb hd hx I1 r q
end
section
variable {X : Cx} {CX : CXT} {k : Nat} {f C : Addr} {fd : FuncData} {ps ks : List Str} {sp : Sp} {E : XK} {x m : Str} {p pos apos kpos : Pos} {e o : Expr} {es : List Expr} {kws : List Keyword} {te ta : TE} {t tk : TA} {nm : Option Str}
variable {g : List Value -> List Value -> List Value} {gV : List V -> List V -> List V}
end
structure FnScope (N P:List Str) (sc:Scope):Prop where
  kind:sc.kind=.function
  co:sc.isCoroutine=false
  gen:sc.isGenerator=false
  nd:N.Nodup
  pre:N.take P.length=P
  par:∀ x∈P,sc.names.lookup x=some .local \/ sc.names.lookup x=some .cell
  nofree:∀ y∈sc.names,y.2≠.free
theorem AG {kindOf:Str->Option NameKind}{x:Str}:∀ {binds:List (Str×Value)}{m:Str->Option Value},(∀ v,(x,v)∉binds)->bindL kindOf binds m x=m x
  |[],_,_=>rfl
  | (n,v)::r,m,h=>by
    unfold bindL;rw[AG λw hw=>h w (List.mem_cons_of_mem _ hw)];split
    . have:x≠n:=by rintro rfl;exact h v List.mem_cons_self
      simp[this]
    . rfl
theorem AH {kindOf:Str->Option NameKind}{x:Str}:∀ {binds:List (Str×Value)}{m:Str->Option Value},(∀ v,(x,v)∉binds)->bindC kindOf binds m x=m x
  |[],_,_=>rfl
  | (n,v)::r,m,h=>by
    unfold bindC;rw[AH λw hw=>h w (List.mem_cons_of_mem _ hw)];split
    . rfl
    . have:x≠n:=by rintro rfl;exact h v List.mem_cons_self
      simp[this]
theorem AI {kindOf:Str->Option NameKind}{x:Str}{v:Value}:∀ {P:List Str}{vs:List Value}{i:Nat}{m:Str->Option Value},P.Nodup->P[i]?=some x->vs[i]?=some v->kindOf x=some .local ->
    bindL kindOf (P.zip vs) m x=some v
  |[],_,_,_,_,h,_,_=>by simp at h
  |_::_,[],_,_,_,_,h,_=>by simp at h
  | p::P,w::vs,0,m,nd,h1,h2,hk=>by
    simp at h1 h2;subst h1;subst h2;show bindL kindOf ((p,w)::P.zip vs) m p=_;unfold bindL;rw[AG λv hv=>(List.nodup_cons.mp nd).1 (List.of_mem_zip hv).1,if_pos hk];simp
  | p::P,w::vs,i+1,m,nd,h1,h2,hk=>by
    show bindL kindOf ((p,w)::P.zip vs) m x=_;unfold bindL;exact AI (i:=i) (List.nodup_cons.mp nd).2 (by simpa using h1) (by simpa using h2) hk
theorem AJ {kindOf:Str->Option NameKind}{x:Str}{v:Value}:∀ {P:List Str}{vs:List Value}{i:Nat}{m:Str->Option Value},P.Nodup->P[i]?=some x->vs[i]?=some v->kindOf x≠some .local ->
    bindC kindOf (P.zip vs) m x=some v
  |[],_,_,_,_,h,_,_=>by simp at h
  |_::_,[],_,_,_,_,h,_=>by simp at h
  | p::P,w::vs,0,m,nd,h1,h2,hk=>by
    simp at h1 h2;subst h1;subst h2;show bindC kindOf ((p,w)::P.zip vs) m p=_;unfold bindC;rw[AH λv hv=>(List.nodup_cons.mp nd).1 (List.of_mem_zip hv).1,if_neg hk];simp
  | p::P,w::vs,i+1,m,nd,h1,h2,hk=>by
    show bindC kindOf ((p,w)::P.zip vs) m x=_;unfold bindC;exact AJ (i:=i) (List.nodup_cons.mp nd).2 (by simpa using h1) (by simpa using h2) hk
noncomputable def start (N:List Str) (vs:List V):St:=vs.map some++List.replicate (N.length-vs.length) none
noncomputable def cxOf (CX:CXT) (P:Program) (w:World) (K:PySem.W.Frag) (mg:Str->Option Value) (base:Heap) (N:List Str) (qual:Str) (scope:Scope) (f:Addr) (cd:Value) (A:Around) (outer:List Env) (s:Shared) (H:Hp) (E:XK):Cx where
  prog:=P
  w:=w
  K:=K
  mg:=mg
  base:=base
  A:=A.deeper (envOfC qual scope s.heap.objs.size f cd)
  N:=N
  s₀:=s
  H₀:=H
  env:=envOfC qual scope s.heap.objs.size f cd
  outer:=outer
  stack:=envOfC qual scope s.heap.objs.size f cd::outer
  ex:=[]
  calm:=true
  fn:=λ_=>true
  pn:=[]
  xe:=λe s'=>wpAny (model P w) (A.deeper (envOfC qual scope s.heap.objs.size f cd)) (leaving (envOfC qual scope s.heap.objs.size f cd) e) (λ_ s''=>CX outer H s E e s'') (λe' s''=>CX outer H s E e' s'') s'
theorem oM {sc:Scope}{n:Nat}{x:Str}(h:sc.names.lookup x=some .cell):∃ c,(cellsFrom n sc.names []).lookup x=some c:=by
  have q:=PySem.W.cellsFrom_some sc.names n [] (.inl h);exact Option.isSome_iff_exists.mp q
theorem AK {CX:CXT}{P:Program}{w:World}{K:PySem.W.Frag}{mg:Str->Option Value}{base:Heap}{N ps:List Str}{qual:Str}{scope:Scope}{f:Addr}{cd:Value}{A:Around}{outer:List Env}{s s1:Shared}{H:Hp}{E:XK}{us:List Value}{vs:List V}
    (S:FnScope N ps scope) (hd:A.handled=none) (e0:Env0 P w K mg base A outer s H) (hl:vs.length=ps.length) (r:Vals vs us)
    (x:InCallC s s.heap.objs.size (bindL (envOfC qual scope s.heap.objs.size f cd).kindOf (ps.zip us) λ_=>none) (cellsFrom (s.heap.objs.size+1) scope.names []) (bindC (envOfC qual scope s.heap.objs.size f cd).kindOf (ps.zip us) λ_=>none) s1) :
    Inv (cxOf CX P w K mg base N qual scope f cd A outer s H E) [] (start N vs) H s1:=by
  have hpl:ps.length<=N.length:=by have:=congrArg List.length S.pre;rw[List.length_take]at this;omega
  obtain⟨h1,tk,rfl,hk⟩:=x.done;have noA:∀ b:Addr,b∉(cxOf CX P w K mg base N qual scope f cd A outer s H E).ex:=λb z=>absurd (show b∈([]:List Addr) from z) (by simp);refine⟨⟨e0.mod,S.kind,rfl,rfl,zL _,λy z c h1 h2=>?_,λy hy=>?_,λy c _ h=>?_,λ_=>hd,Around.frames_deeper e0.frames,.inr ⟨rfl,rfl⟩,λb z=>absurd z (noA b),e0.bs,e0.bsz,λb _ _=>noA b,λb z=>absurd z (noA b),e0.funs,e0.frf⟩,
    rfl,e0.bare,Un.kept hk,⟨_,x.toInCall.ns,λi y v h1 h2 h3=>?_⟩,λy c h=>⟨_,x.cell y c h⟩,e0.hok.fresh (zL _),λy c h=>?_,λp hp=>absurd (show p∈([]:List (Addr×Obj)) from hp) (by simp),e0.hok.kept hk,?_⟩
  . exact name_of_addr x.apart (PySem.mem_of_lookup h1) (PySem.mem_of_lookup h2)
  . have hy:scope.names.lookup y=some .cell \/ scope.names.lookup y=some .free:=hy;rcases hy with hy|hy
    . exact oM hy
    . exact absurd rfl (S.nofree _ (PySem.mem_of_lookup hy))
  . exact Nat.le_of_lt (x.above y c (PySem.mem_of_lookup h))
  . have hi:i<vs.length:=by
      unfold start at h2;by_cases hi:i<vs.length
      . exact hi
      . rw[List.getElem?_append_right (by simpa using hi)]at h2;rw[List.getElem?_replicate]at h2;split at h2<;>cases h2
    have ha:vs[i]?=some v:=by
      unfold start at h2;rw[List.getElem?_append_left (by simpa using hi),List.getElem?_map]at h2;cases e:vs[i]? with
      |none=>rw[e]at h2;cases h2
      |some a=>rw[e]at h2;cases h2;rfl
    obtain⟨u,hu,rv⟩:=r.get ha;have hp:ps[i]?=some y:=by
      rw[<-S.pre,List.getElem?_take_of_lt (by omega)];exact h1
    have ndP:ps.Nodup:=by rw[<-S.pre];exact S.nd.sublist (List.take_sublist _ _)
    refine⟨u,rv,?_⟩;rcases S.par y (List.mem_of_getElem? hp) with k|k
    . exact .inl ⟨k,AI ndP hp hu k⟩
    . obtain⟨c,e⟩:=oM (n:=s.heap.objs.size+1) k;refine .inr ⟨.inl k,c,e,?_⟩;have q:=x.cell y c e;rw[AJ ndP hp hu (by show scope.names.lookup y≠_;rw[k];decide)]at q;exact q
  . exact e0.hok.fresh (Nat.le_of_lt (x.above y c (PySem.mem_of_lookup h)))
  . unfold start;show _=N.length;rw[List.length_append,List.length_map,List.length_replicate];omega
theorem N0 {CX:CXT}{P:Program}{w:World}{K:PySem.W.Frag}{mg:Str->Option Value}{base:Heap}{k:Nat}{f:Addr}{name qual:Str}{params:Arguments}{body:List Stmt}{scope:Scope}{dV kV doc pm cdv ct oc:Value}{an od:Option Addr}
    {osl:Array (Option Value)}{N ps:List Str}{sp:Sp}(lk:K.lookup f=some ⟨oc,od,.func (PySem.W.fnOf name qual params body scope dV kV doc pm an cdv ct),osl⟩) (hcd:PySem.W.codeIn K cdv qual=true) (S:FnScope N ps scope)
    (len:∀ vs H Q E,sp vs H Q E->vs.length=ps.length)
    (hbody:∀ (A:Around) (outer:List Env) (s:Shared) (H:Hp) (vs:List V) (Q:VK) (E:XK),Room k (A.deeper (envOfC qual scope s.heap.objs.size f cdv))->sp vs H Q E ->
      ∃ t,PSs (cxOf CX P w K mg base N qual scope f cdv A outer s H E) body t /\ t { nx:=λ_ H'=>Q .non H',rt:=Q } (start N vs) H) :
    FnOk P w K mg base CX (k+1) f (PySem.W.fnOf name qual params body scope dV kV doc pm an cdv ct) ps sp:=by
  refine⟨len,λA outer s H args us vs Q E hr e0 hb r hsp=>?_⟩;have hl:=len _ _ _ _ hsp;have KX:K.In s.heap:=e0.mod.kin.keeps λb o e=>(e0.bs b o e).1;have lim:s.heap.NoLimit:=e0.mod.nolimit.keeps λb o e=>(e0.bs b o e).1;have hkind:∀ y∈ps.zip us,scope.names.lookup y.1=some .local \/ (scope.names.lookup y.1=some .cell /\ ((cellsFrom (s.heap.objs.size+1) scope.names []).lookup y.1).isSome=true):=λ⟨n,v⟩ hy=>by
    rcases S.par n (List.of_mem_zip hy).1 with q|q
    . exact .inl q
    . exact .inr ⟨q,PySem.W.cellsFrom_some _ _ _ (.inl q)⟩
  refine codeAny_call_function hr.depth (KX _ _ lk) rfl S.co S.gen rfl (PySem.W.codeRec_of KX hcd) (hb _ _ _ _ ?_);refine wpAny_newFunctionEnv_cells S.kind hkind λenv he s1 x=>?_;subst he;refine⟨lim.keeps x.toInCall.keep,codeAny_func ?_⟩;obtain⟨t,ht,hq⟩:=hbody A outer s H vs Q E (hr.deeper _) hsp;have I:Inv (cxOf CX P w K mg base N qual scope f cdv A outer s H E) [] (start N vs) H s1:=AK S hr.hd e0 hl r x;refine wpAny_mono (ht [] s1 (start N vs) H _ I hq) (λfl s' hs=>?_) λe s' hs=>hs;have fin:∀ {σ':St}{H':Hp}{v:V}{u:Value},Inv (cxOf CX P w K mg base N qual scope f cdv A outer s H E) [] σ' H' s'->RelV v u->Q v H'->CE outer P w H s Q u s' :=
    λ{σ' H' v u} J rv q=>⟨v,H',J.os,J.bare,J.base,J.hok,rv,q⟩
  cases fl with
  | ret u =>
    obtain⟨v,σ',H',J,rv,q⟩:=hs;exact fin J rv q
  | next =>
    obtain⟨σ',H',J,q⟩:=hs;exact fin (v:=V.non) (u:=Value.none) J rfl q
  | brk =>
    obtain⟨_,_,_,q⟩:=hs;exact False.elim q
  | cont =>
    obtain⟨_,_,_,q⟩:=hs;exact False.elim q
section
variable {X : Cx} {x : Str} {p pos : Pos} {e : Expr} {es : List Expr} {t : TA} {id T : String} {r : List V -> Hp -> VK -> Prop}
def tCB (r:List V->Hp->VK->Prop) (t:TA):TE:=λσ H Q=>t σ H λvs H1=>r vs H1 Q
theorem fU (hc:CallR X (.builtin id) r) (hg:Gl X x) (hm:X.mg x=none) (hv:bootBuiltins x=some (.builtin id)) (ha:PA X (e::es) t) (hn:x ≠ "__name__":=by decide) (hdb:(x==("__debug__":Str))=false:=by decide)
    (he:starEach (e::es) X.env=(false,eval e X.env)::starEach es X.env:=by rfl) (hpl:(backTo pos (starEach es X.env)).any (·.1)=false:=by rfl):PE X (.Call (.Name x p) (e::es) [] pos) (tCB r t):=by
  intro pins s σ H Q I h;refine wpAny_Call_Name_kw (iC I hg hm hv ?_ hn hdb);exact PyProof.Rows.callWith_builtin1 (thn (ha pos pins s σ H _ I h) λus s1 ⟨vs,H1,I1,r1,q1⟩=>hc pins s1 σ H1 vs us Q I1 r1 q1) he hpl
theorem Gc (hc:CallR X (.type T) r) (hg:Gl X x) (hm:X.mg x=none) (hv:bootBuiltins x=some (.type T)) (ha:PA X (e::es) t) (hn:x ≠ "__name__":=by decide) (hdb:(x==("__debug__":Str))=false:=by decide)
    (he:starEach (e::es) X.env=(false,eval e X.env)::starEach es X.env:=by rfl) (hpl:(backTo pos (starEach es X.env)).any (·.1)=false:=by rfl):PE X (.Call (.Name x p) (e::es) [] pos) (tCB r t):=by
  intro pins s σ H Q I h;refine wpAny_Call_Name_kw (iC I hg hm hv ?_ hn hdb);exact PyProof.Rows.callWith_type1 (thn (ha pos pins s σ H _ I h) λus s1 ⟨vs,H1,I1,r1,q1⟩=>hc pins s1 σ H1 vs us Q I1 r1 q1) he hpl
end
end L2
namespace HT
open PySem PyProof.Rows
noncomputable def lexLt:List Int->List Int->Bool
  |[],[]=>false
  |[],_::_=>true
  |_::_,[]=>false
  |x::xs,y::ys=>if x=y then lexLt xs ys else decide (x<y)
theorem fK (x y:Int) (xs ys:List Int):lexLt (x::xs) (y::ys)=if x=y then lexLt xs ys else decide (x<y):=rfl
theorem lB:lexLt [] []=false:=rfl
theorem oN (y:Int) (ys:List Int):lexLt [] (y::ys)=true:=rfl
theorem oO (x:Int) (xs:List Int):lexLt (x::xs) []=false:=rfl
theorem Je (A:Around) (s:Shared) (a:Int) (t:Tok) (c:Int) (u:Tok):∃ e,SeqAt.EqAt A s (.int a t) (.int c u) e /\ (e=true ↔ a=c):=
  ⟨(a==c),SeqAt.EqAt.int_int a t c u,by simp⟩
theorem Jf (A:Around) (s:Shared) (a:Int) (t:Tok) (c:Int) (u:Tok) (prog:Program) (w:World) (E:Value->Shared->Prop) (Q:Value->Shared->Prop) (h:Q (.bool (decide (a<c))) s) :
    wpAny (model prog w) A (richCompare .Lt (.int a t) (.int c u)) Q E s :=
  (PyProof.Rows.lt_int h:wpAny (model prog w) A (compareOp .Lt (.int a t) (.int c u)) Q E s)
section
open PySem.SeqAt
open PySem.AutoSeq1 (wpAny_loadPart')
open PySem.MeetsSeq PySem.MeetsSeq2 PySem.MeetsSeq3
theorem Aw (l b:Addr) (items items2:Array Value) (n n2:Nat) (dd dd2:Option Addr) (sl sl2:Array (Option Value)) (ns ms:List Int) (hi:IntsAre items.toList ns) (hj:IntsAre items2.toList ms) :
    Meets (Builtin.«tuple.__lt__» ⟨[.ref l,.ref b],[]⟩)
      (λ_ R s=>s.heap.get? l=some { cls:=.type "tuple",dict:=dd,data:=.seq items n,slots:=sl } /\ s.heap.get? b=some { cls:=.type "tuple",dict:=dd2,data:=.seq items2 n2,slots:=sl2 } /\
        R (.ok (.ret (.bool (lexLt ns ms)))) s):=
  .of_wp λprog w A R s h=>by
    obtain⟨hp,g,d,tk,os⟩:=s;obtain⟨hl,hb,h⟩:=h;have f2:=AutoSeq1.sub_tuple_tuple;have z1:items.size=ns.length:=by rw[<-hi.length];simp
    have z2:items2.size=ms.length:=by rw[<-hj.length];simp
    wp_walk using wpAny_loadPart' hl,wpAny_loadPart' hb,wpAny_forIn_list _ (λrest b s'=>b.1=none /\ s'=⟨hp,g,d,tk,os⟩ /\ ∃ (vs ws:List Value) (ns' ms':List Int),rest=vs.zip ws /\
      IntsAre vs ns' /\ IntsAre ws ms' /\ ns'.length+items2.size=ms'.length+items.size /\ R (.ok (.ret (.bool (lexLt ns' ms')))) ⟨hp,g,d,tk,os⟩) _
    case turn =>
      rintro⟨y,x⟩ rest b s' ⟨hb',rfl,vs,ws,ns',ms',hz,hvi,hwi,hlen,hR⟩;cases hvi with
      |nil=>rw[List.zip_nil_left]at hz;cases hz
      | cons a t hvi' =>
        cases hwi with
        |nil=>rw[List.zip_nil_right]at hz;cases hz
        | cons c u hwi' =>
          rw[List.zip_cons_cons]at hz;injection hz with hyx hrest;injection hyx with hy hx;subst hy hx;rw[fK]at hR;simp only[List.length_cons]at hlen;obtain⟨e,he,hiff⟩:=Je A.in1 ⟨hp,g,d,tk,os⟩ a t c u;refine zB (he prog w _ _ ?_);cases e with
          | true =>
            rw[if_pos (hiff.mp rfl)]at hR
            wp_walk
            exact⟨rfl,rfl,_,_,_,_,hrest,hvi',hwi',by omega,hR⟩
          | false =>
            rw[if_neg (λq=>absurd (hiff.mpr q) Bool.false_ne_true)]at hR;have hri:=Jf A.in1 ⟨hp,g,d,tk,os⟩ a t c u prog w
            wp_walk using hri
            exact⟨_,rfl,by simpa using hR⟩
    case fin =>
      rintro⟨b1,b2⟩ s' ⟨hb',rfl,vs,ws,ns',ms',hz,hvi,hwi,hlen,hR⟩;simp only at hb';subst hb';have hv:lexLt ns' ms'=decide (items.size<items2.size):=by
        cases hvi with
        | nil =>
          cases hwi with
          | nil =>
            simp only[List.length_nil]at hlen;rw[lB];exact(decide_eq_false (by omega)).symm
          | cons c u hw =>
            simp only[List.length_nil,List.length_cons]at hlen;rw[oN];exact(decide_eq_true (by omega)).symm
        | cons a t hv =>
          cases hwi with
          | nil =>
            simp only[List.length_nil,List.length_cons]at hlen;rw[oO];exact(decide_eq_false (by omega)).symm
          | cons c u hw =>
            rw[List.zip_cons_cons]at hz;cases hz
      rw[hv]at hR
      wp_walk
      exact⟨_,rfl,by simpa[Builtin.Tuple.tupleCompareSizes] using hR⟩
    case h =>
      exact⟨rfl,rfl,items.toList,items2.toList,ns,ms,rfl,hi,hj,by omega,h⟩
end
section
variable {prog : Program} {w : World} {A : Around} {E : Value -> Shared -> Prop} {s : Shared}
theorem oP {l b:Addr}{items items2:Array Value}{ns ms:List Int}{Q:Value->Shared->Prop}(hl:IsTup s.heap l items) (hb:IsTup s.heap b items2) (hi:IntsAre items.toList ns) (hj:IntsAre items2.toList ms)
    (hu:A.units<cLine) (h:Q (.bool (lexLt ns ms)) s):wpAny (model prog w) A (compareOp .Lt (.ref l) (.ref b)) Q E s:=by
  obtain⟨⟨cls,dd,data,sl⟩,ho,hc,n,hd⟩:=id hl;obtain⟨⟨cls2,dd2,data2,sl2⟩,ho2,hc2,n2,hd2⟩:=id hb;simp only at hc hd hc2 hd2;subst hc hd hc2 hd2;exact richCompare_meets_room (op:=.Lt) ⟨_,ho,rfl⟩ ⟨_,ho2,rfl⟩ PySem.F.slot_tuple_lt PySem.F.entry_tuple_lt (PySem.F.args_tuple_lt_2 _ _) (Aw l b items items2 n n2 dd dd2 sl sl2 ns ms hi hj)
    ⟨ho,ho2,show Value.bool (lexLt ns ms)≠Value.notImplemented /\ Q (.bool (lexLt ns ms)) s from⟨(λx=>nomatch x),h⟩⟩ hu
theorem Mi {t b:Addr}{vs ws:List Value}{Q:Value->Shared->Prop}(ht:IsTup s.heap t vs.toArray) (hb:IsTup s.heap b ws.toArray) (hv:vs≠[])
    (h1:ws=[]->Q (.ref t) s) (h2:ws≠[]->Q (.ref s.heap.objs.size) { s with heap:=s.heap.push { cls:=.type "tuple",data:=.seq (vs++ws).toArray } })
    (hsz:vs.length+ws.length<=sizeLine):wpAny (model prog w) A (binaryOp .Add (.ref t) (.ref b)) Q E s:=by
  obtain⟨⟨cls,dd,data,sl⟩,ho,hc,n,hd⟩:=id ht;obtain⟨⟨cls2,dd2,data2,sl2⟩,ho2,hc2,n2,hd2⟩:=id hb;simp only at hc hd hc2 hd2;subst hc hd hc2 hd2;have e:vs.toArray++ws.toArray=(vs++ws).toArray:=by simp
  by_cases hw:ws=[]
  . exact concat_meets ⟨_,ho,rfl⟩ ⟨_,ho2,rfl⟩ noFill_tuple_add seq_tuple_add PySem.F.slot_tuple_add PySem.F.entry_tuple_add (PySem.F.args_tuple_add_2 _ _)
      (tuple_addW1 t b vs.toArray ws.toArray n n2 dd dd2 sl sl2 (by simpa using hv) (by simp[hw])) ⟨ho,ho2,h1 hw⟩
  . refine concat_meets ⟨_,ho,rfl⟩ ⟨_,ho2,rfl⟩ noFill_tuple_add seq_tuple_add PySem.F.slot_tuple_add PySem.F.entry_tuple_add (PySem.F.args_tuple_add_2 _ _)
      (tuple_addW2 t b vs.toArray ws.toArray n n2 dd dd2 sl sl2 (by simpa using hv) (by simpa using hw) (by rw[List.size_toArray,List.size_toArray];exact hsz)) ⟨ho,ho2,?_⟩
    rw[e];exact h2 hw
noncomputable def sIx (n d:Nat):Option Int->Nat
  |none=>d
  |some v=>if v<0 then (v+(n:Int)).toNat else min v.toNat n
theorem BO (n d:Nat):sIx n d none=d:=rfl
theorem oq (n d k:Nat):sIx n d (some (k:Int))=min k n:=by
  show (if (k:Int)<0 then ((k:Int)+(n:Int)).toNat else min (k:Int).toNat n)=min k n;rw[if_neg (by omega),Int.toNat_natCast]
theorem Oz (n d:Nat) (hd:d<=n) (o:Option Int):sIx n d o<=n:=by
  cases o with
  |none=>exact hd
  | some v =>
    show (if v<0 then (v+(n:Int)).toNat else min v.toNat n)<=n;by_cases hv:v<0
    . rw[if_pos hv];omega
    . rw[if_neg hv];exact Nat.min_le_right _ _
theorem DN (v:Int) (n d:Nat):(if v<0 then max (v+(n:Int)) 0 else min v (n:Int))=((sIx n d (some v):Nat):Int):=by
  show (if v<0 then max (v+(n:Int)) 0 else min v (n:Int))=(((if v<0 then (v+(n:Int)).toNat else min v.toNat n):Nat):Int);by_cases hv:v<0
  . simp only[if_pos hv];omega
  . simp only[if_neg hv];omega
theorem C5 (lo hi:Option Int) (n:Nat):Builtin.Slice.sliceAdjust lo hi 1 (n:Int)=(((sIx n 0 lo:Nat):Int),((sIx n n hi:Nat):Int)):=by
  have h1:¬ ((1:Int)<0):=by omega
  unfold Builtin.Slice.sliceAdjust;simp only[h1,if_false];refine Prod.ext ?_ ?_
  . cases lo with
    |none=>rfl
    |some v=>exact DN v n 0
  . cases hi with
    |none=>rfl
    |some v=>exact DN v n n
theorem C6 (i j:Nat):Builtin.Slice.slicePlaces (i:Int) (j:Int) 1=j-i:=by
  unfold Builtin.Slice.slicePlaces;have h1:(1:Int)>0:=by omega
  simp only[h1,if_true,Int.ediv_one];split<;>omega
theorem oQ {v:Value}{o:Option Int}{Q:Option Int->Shared->Prop}(p:IsPart v o) (h:Q o s):wpAny (model prog w) A (Builtin.Slice.slicePartIndex v) Q E s:=by
  cases p with
  |none=>exact slicePart_none h
  |int i t=>exact slicePart_int h
theorem jn {sl:Addr}{vl vu:Value}{lo hi:Option Int}{n:Nat}{Q:Int×Int×Nat->Shared->Prop}(hs:s.heap.IsSliceOf sl vl vu .none) (pl:IsPart vl lo) (pu:IsPart vu hi)
    (h:Q (((sIx n 0 lo:Nat):Int),1,sIx n n hi-sIx n 0 lo) s):wpAny (model prog w) A (Builtin.Slice.sliceApplied (.ref sl) (pure (n:Int))) Q E s:=by
  obtain⟨os,hos,hcs,hds⟩:=id hs;unfold Builtin.Slice.sliceApplied Builtin.Slice.sliceFields;refine zB (zB (wpAny_field hos hds (x:=vl) rfl (zB (wpAny_field hos hds (x:=vu) rfl (zB (wpAny_field hos hds (x:=.none) rfl (zP ?_)))))));refine zB (slicePart_none ?_);show wpAny _ _ (if ((1:Int)==0)=true then _ else _) _ _ s;rw[if_neg (by decide)];refine zB (oQ pl (zB (oQ pu (zB (zP ?_)))));show wpAny _ _ (match Builtin.Slice.sliceAdjust lo hi 1 (n:Int) with|(lo,hi)=>pure (lo,(1:Int),Builtin.Slice.slicePlaces lo hi 1)) _ _ s;rw[C5 lo hi n];show wpAny _ _ (pure (((sIx n 0 lo:Nat):Int),(1:Int),Builtin.Slice.slicePlaces ((sIx n 0 lo:Nat):Int) ((sIx n n hi:Nat):Int) 1)) _ _ s;rw[C6];exact zP h
theorem Jg (xs:Array Value) (i k:Nat):((List.range k).filterMap λ(m:Nat)=>xs[((i:Int)+(m:Int)*1).toNat]?).toArray=((xs.toList.drop i).take k).toArray:=by
  have e:(λ(m:Nat)=>xs[((i:Int)+(m:Int)*1).toNat]?)=λm=>xs[i+m]?:=by
    funext m;have:((i:Int)+(m:Int)*1).toNat=i+m:=by omega
    rw[this]
  rw[e];have:=pick_run xs i k;rw[List.filterMap_map]at this;have e2:((λx=>xs[x]?)∘λx=>i+x)=λm=>xs[i+m]?:=rfl;rw[e2]at this;rw[this]
theorem lT {t sl:Addr}{items:Array Value}{vl vu:Value}{lo hi:Option Int}{Q:Value->Shared->Prop}(ht:IsTup s.heap t items) (hs:s.heap.IsSliceOf sl vl vu .none) (pl:IsPart vl lo) (pu:IsPart vu hi)
    (hw:¬ (sIx items.size 0 lo=0 /\ sIx items.size items.size hi=items.size))
    (h:Q (.ref s.heap.objs.size) { s with heap:=s.heap.push { cls:=.type "tuple",data:=.seq ((items.toList.drop (sIx items.size 0 lo)).take (sIx items.size items.size hi-sIx items.size 0 lo)).toArray } })
    (hsz:items.size<=sizeLine):wpAny (model prog w) A (getItem (.ref t) (.ref sl)) Q E s:=by
  have htake:sizeOk (.seq ((items.toList.drop (sIx items.size 0 lo)).take (sIx items.size items.size hi-sIx items.size 0 lo)).toArray):=by
    show ((items.toList.drop (sIx items.size 0 lo)).take (sIx items.size items.size hi-sIx items.size 0 lo)).toArray.size<=sizeLine;rw[List.size_toArray,List.length_take,List.length_drop,Array.length_toList];omega
  have hj:sIx items.size items.size hi<=items.size:=Oz _ _ (zL _) hi;obtain⟨os,hos,hcs,hds⟩:=id hs;have hTs:s.TypeIs (.ref sl) "slice":=⟨os,hos,hcs⟩;unfold getItem;try with_reducible refine wpAny_holding ?_
  first|refine zB (zP ?_)|skip
  refine zB (wpAny_sequenceKey ht.typeIs (by decide) ?_);refine zB (wpAny_callSpecial?_slot (name:=Str.ofString "__getitem__") ht.typeIs PyProof.Rows.slot_tuple_getitem
    (wpAny_call_entry PyProof.Rows.slot_tuple_getitem ht.typeIs entry_tuple_getitem ?_ (args_tuple_getitem _ _)))
  show wpAny _ _ (Builtin.Tuple.tupleItemsOf (.ref t) >>= _) _ _ s;refine zB (tupleItemsOf_ ht ?_);refine zB (wpAny_typeOf hTs ?_);rw[if_pos (by decide)];refine zB (jn hs pl pu ?_);have hno:¬ ((((sIx items.size 0 lo:Nat):Int)==0&&(1:Int)==1&&(sIx items.size items.size hi-sIx items.size 0 lo)==items.size)=true):=by
    intro q;rw[zA,zA]at q;have q1:((sIx items.size 0 lo:Nat):Int)=0:=eq_of_beq q.1.1;have q2:sIx items.size items.size hi-sIx items.size 0 lo=items.size:=eq_of_beq q.2;exact hw ⟨by omega,by omega⟩
  show wpAny _ _ (if (((sIx items.size 0 lo:Nat):Int)==0&&(1:Int)==1&&(sIx items.size items.size hi-sIx items.size 0 lo)==items.size)=true then _ else _) _ _ s;rw[if_neg hno,Jg];first
    |exact zB (m:=Builtin.Tuple.tupleExact _) (wpAny_newObj_type (zP ⟨_,rfl,zP h⟩) htake)
    |exact zB (m:=Builtin.Tuple.tupleExact _) (wpAny_newObj_type (zB (zP (zP ⟨_,rfl,zP h⟩))) htake)
    |exact zB (zB (m:=Builtin.Tuple.tupleExact _) (wpAny_newObj_type (zP (zP ⟨_,rfl,zP h⟩)) htake))
    |exact zB (zB (m:=Builtin.Tuple.tupleExact _) (wpAny_newObj_type (zP ⟨_,rfl,zP h⟩) htake))
end
end HT
namespace L2
open PySem PySem.Spec PyProof.Rows
noncomputable abbrev TO:=St->Hp->(Option Int->Hp->Prop)->Prop
def PO (X:Cx) (e:Option Expr) (t:TO):Prop :=
  ∀ (pins:List (Addr×Obj)) (s:Shared) (σ:St) (H:Hp) (Q:Option Int->Hp->Prop),Inv X pins σ H s->t σ H Q ->
    wpAny (model X.prog X.w) X.A (evalPart e X.env) (λu s'=>∃ o H',Inv X pins σ H' s' /\ IsPart u o /\ Q o H') X.xe s
noncomputable def tNoPart:TO:=λ_ H Q=>Q none H
noncomputable def tPart (t:TE):TO:=λσ H Q=>t σ H λx H1=>∃ i,x=.int i /\ Q (some i) H1
theorem iQ {ns:List Int}:∀ {us:List Value},Vals (ns.map V.int) us->IntsAre us ns:=by
  induction ns with
  |nil=>intro us r;rw[List.map_nil]at r;cases r;exact .nil
  | cons n ns ih =>
    intro us r;rw[List.map_cons]at r;cases r with
    | cons r1 r2 =>
      obtain⟨t,e⟩:=r1;subst e;exact .cons n t (ih r2)
section
variable {X : Cx} {e : Expr} {te : TE} {lo hi : Option Expr} {tl th : TO} {pos p2 : Pos}
theorem Mj:PO X none tNoPart:=by
  intro pins s σ H Q I h;rw[evalPart_none];exact zP ⟨none,H,I,.none,h⟩
theorem Mk (h:PE X e te):PO X (some e) (tPart te):=by
  intro pins s σ H Q I hw;rw[evalPart_some];refine thn (h pins s σ H _ I hw) λu s1 ⟨x,H1,I1,r1,q1⟩=>?_;obtain⟨i,rfl,q⟩:=q1;obtain⟨t,rfl⟩:=r1;exact⟨some i,H1,I1,.int i t,q⟩
def SlR (X:Cx) (r:V->Option Int->Option Int->Hp->VK->Prop):Prop :=
  ∀ (pins:List (Addr×Obj)) (s:Shared) (σ:St) (H:Hp) (x:V) (v vl vu:Value) (lo hi:Option Int) (sl:Addr) (Q:VK),Inv X pins σ H s->RelV x v->s.heap.IsSliceOf sl vl vu .none->IsPart vl lo->IsPart vu hi->r x lo hi H Q ->
    ∃ T id,typeLookup (.type T) "__getitem__"=pure (some (.builtin id)) /\ s.TypeIs v T /\ wpAny (model X.prog X.w) X.A (getItem v (.ref sl)) (EP X pins σ Q) X.xe s
theorem SlR.or {r r':V->Option Int->Option Int->Hp->VK->Prop}(h:SlR X r) (h':SlR X r'):SlR X (λx lo hi H Q=>r x lo hi H Q \/ r' x lo hi H Q):=by
  intro pins s σ H x v vl vu lo hi sl Q I rx hs pl pu q;rcases q with q|q
  . exact h pins s σ H x v vl vu lo hi sl Q I rx hs pl pu q
  . exact h' pins s σ H x v vl vu lo hi sl Q I rx hs pl pu q
def tSl (r:V->Option Int->Option Int->Hp->VK->Prop) (te:TE) (tl th:TO):TE:=λσ H Q=>te σ H λx H1=>tl σ H1 λl H2=>th σ H2 λu H3=>r x l u H3 Q
theorem Jh {r:V->Option Int->Option Int->Hp->VK->Prop}(hr:SlR X r) (he:PE X e te) (hl:PO X lo tl) (hu:PO X hi th):PE X (.Subscript e (.Slice lo hi none p2) pos) (tSl r te tl th):=by
  intro pins s σ H Q I h;refine Subscript_ (thn (he pins s σ H _ I h) λv s1 ⟨x,H1,I1,r1,q1⟩=>?_);refine wpAny_Slice (thn (hl pins s1 σ H1 _ I1 q1) λvl s2 ⟨l,H2,I2,pl,q2⟩=>thn (hu pins s2 σ H2 _ I2 q2) λvu s3 ⟨u,H3,I3,pu,q3⟩=>?_);rw[evalPart_none];refine zP ?_;have I4:Inv X pins σ H3 { s3 with heap:=s3.heap.push { cls:=.type "slice",data:=.fields #[vl,vu,.none] } }:=I3.kept (t':=s3.toks) λb ob q=>zH _ q;obtain⟨T,id,hT,ht,hg⟩:=hr pins { s3 with heap:=s3.heap.push { cls:=.type "slice",data:=.fields #[vl,vu,.none] } } σ H3 x v vl vu l u s3.heap.objs.size Q I4 r1 (Heap.IsSliceOf.new ..) pl pu q3;show wpAny (model X.prog X.w) X.A (subscriptTail e (.Slice lo hi none p2) v (.ref s3.heap.objs.size)) (EP X pins σ Q) X.xe { s3 with heap:=s3.heap.push { cls:=.type "slice",data:=.fields #[vl,vu,.none] } };exact tail_any (ops:=[.ref s3.heap.objs.size,v]) ht hT hg (by with_unfolding_all rfl)
noncomputable def cutV (xs:List V) (lo hi:Option Int):List V:=(xs.drop (HT.sIx xs.length 0 lo)).take (HT.sIx xs.length xs.length hi-HT.sIx xs.length 0 lo)
theorem mY (xs:List V) (lo hi:Option Int):(cutV xs lo hi).length<=xs.length:=by
  unfold cutV;rw[List.length_take,List.length_drop];omega
def rSlT (K:PySem.W.Frag):V->Option Int->Option Int->Hp->VK->Prop:=λx lo hi H Q=>∃ a xs,x=.ref a /\ SqT K H a xs /\
  ¬ (HT.sIx xs.length 0 lo=0 /\ HT.sIx xs.length xs.length hi=xs.length) /\ ∀ p,H p=none->Q (.ref p) (upd H p (.tup (cutV xs lo hi)))
theorem OA:SlR X (rSlT X.K):=by
  intro pins s σ H x v vl vu lo hi sl Q I rx hs pl pu h;obtain⟨a,xs,rfl,hx,hw,q⟩:=h;cases rx;obtain⟨its,r,ht,hz⟩:=I.tuple hx;have hlen:its.toArray.size=xs.length:=by rw[List.size_toArray];exact r.length.symm
  refine⟨"tuple",_,PyProof.Rows.slot_tuple_getitem.lookup,ht.typeIs,?_⟩;refine HT.lT ht hs pl pu (by rw[hlen];exact hw) ?_ (by rw[hlen];exact hz);rw[hlen];refine⟨.ref s.heap.objs.size,_,I.laid (t':=s.toks) (o:=.tup (cutV xs lo hi)) (λb ob q=>zH _ q) (zL _) ?_,rfl,q _ (I.hok.fresh (zL _))⟩;exact⟨Nat.le_trans (mY xs lo hi) hz,_,(r.drop (HT.sIx xs.length 0 lo)).take (HT.sIx xs.length xs.length hi-HT.sIx xs.length 0 lo),IsTup.new _ _⟩
def rLtT (K:PySem.W.Frag):R2:=λx y H Q=>∃ a b ns ms,x=.ref a /\ y=.ref b /\ SqT K H a (ns.map V.int) /\ SqT K H b (ms.map V.int) /\ Q (.bl (HT.lexLt ns ms)) H
theorem OB (hu:X.A.units<cLine):OpR X (compareOp .Lt) (rLtT X.K):=by
  intro pins s σ H x y v u Q I rx ry h;obtain⟨a,b,ns,ms,rfl,rfl,ha,hb,q⟩:=h;cases rx;cases ry;obtain⟨its,r1,p1,_⟩:=I.tuple ha;obtain⟨its2,r2,p2,_⟩:=I.tuple hb;have i1:IntsAre its.toArray.toList ns:=iQ r1;have i2:IntsAre its2.toArray.toList ms:=iQ r2;exact HT.oP p1 p2 i1 i2 hu ⟨.bl (HT.lexLt ns ms),H,I,rfl,q⟩
def rCatT (K:PySem.W.Frag):R2:=λx y H Q=>∃ a b xs ys,x=.ref a /\ y=.ref b /\ SqT K H a xs /\ SqT K H b ys /\ xs≠[] /\ xs.length+ys.length<=sizeLine /\
  (ys=[]->Q (.ref a) H) /\ (ys≠[]->∀ p,H p=none->Q (.ref p) (upd H p (.tup (xs++ys))))
theorem Vals.nil_iff {xs:List V}{us:List Value}(r:Vals xs us):us=[] ↔ xs=[]:=by
  cases r with
  |nil=>simp
  |cons _ _=>simp
theorem Ml:OpR X (binaryOp .Add) (rCatT X.K):=by
  intro pins s σ H x y v u Q I rx ry h;obtain⟨a,b,xs,ys,rfl,rfl,ha,hb,hx,hz,q1,q2⟩:=h;cases rx;cases ry;obtain⟨its,r1,p1,_⟩:=I.tuple ha;obtain⟨its2,r2,p2,_⟩:=I.tuple hb;refine HT.Mi p1 p2 (λz=>hx (r1.nil_iff.mp z)) (λz=>⟨.ref a,H,I,rfl,q1 (r2.nil_iff.mp z)⟩) (λz=>?_) (by rw[<-r1.length,<-r2.length];exact hz);refine⟨.ref s.heap.objs.size,_,I.laid (t':=s.toks) (o:=.tup (xs++ys)) (λb ob q=>zH _ q) (zL _) ?_,rfl,q2 (λw=>z (r2.nil_iff.mpr w)) _ (I.hok.fresh (zL _))⟩;exact⟨by rw[List.length_append];exact hz,_,r1.append r2,IsTup.new _ _⟩
end
noncomputable def ixN (n:Nat) (i:Int):Option Nat:=if 0<=i then (if i<n then some i.toNat else none) else if -(n:Int)<=i then some (i+n).toNat else none
noncomputable def atI {α:Type}(xs:List α) (i:Int):Option α:=(ixN xs.length i).bind λj=>xs[j]?
theorem DO {n:Nat}{i:Int}{j:Nat}(h:ixN n i=some j):seqIndex? i n=some j /\ j<n /\ -(n:Int)<=i /\ i<n:=by
  unfold ixN at h;by_cases h0:0<=i
  . rw[if_pos h0]at h;by_cases h1:i<n
    . rw[if_pos h1]at h;have e:i.toNat=j:=Option.some.inj h;exact⟨by rw[seqIndex_of h0 h1,e],by omega,by omega,h1⟩
    . rw[if_neg h1]at h;cases h
  . rw[if_neg h0]at h;by_cases h1:-(n:Int)<=i
    . rw[if_pos h1]at h;have e:(i+n).toNat=j:=Option.some.inj h;exact⟨by rw[seqIndex_neg (by omega) h1,e],by omega,h1,by omega⟩
    . rw[if_neg h1]at h;cases h
theorem Bd {α:Type}{xs:List α}{i:Int}{v:α}(h:atI xs i=some v):∃ j,seqIndex? i xs.length=some j /\ xs[j]?=some v /\ j<xs.length /\ -(xs.length:Int)<=i /\ i<xs.length:=by
  unfold atI at h;cases e:ixN xs.length i with
  |none=>rw[e]at h;cases h
  | some j =>
    rw[e]at h;obtain⟨h1,h2,h3,h4⟩:=DO e;exact⟨j,h1,h,h2,h3,h4⟩
theorem Mm {α:Type}{xs:List α}{j:Nat}{v:α}(h:xs[j]?=some v):atI xs (j:Int)=some v:=by
  have hj:j<xs.length:=(List.getElem?_eq_some_iff.mp h).1;have e:ixN xs.length (j:Int)=some j:=by
    unfold ixN;rw[if_pos (by omega),if_pos (by omega)];simp
  unfold atI;rw[e];exact h
def PlainIx (b:Expr):Prop:=∀ o i,subscripted b false o i=operate [o,i] (getItem o i)
def IxR (X:Cx) (r:R2):Prop :=
  ∀ (value slice:Expr) (pins:List (Addr×Obj)) (s:Shared) (σ:St) (H:Hp) (x y:V) (v u:Value) (Q:VK),Inv X pins σ H s->RelV x v->RelV y u->r x y H Q ->
    subscripted slice false v u=operate [v,u] (getItem v u)->wpAny (model X.prog X.w) X.A (subscriptTail value slice v u) (EP X pins σ Q) X.xe s
def MtR (X:Cx) (id:String) (r:V->List V->Hp->VK->Prop):Prop :=
  ∀ (pins:List (Addr×Obj)) (s:Shared) (σ:St) (H:Hp) (x:V) (xs:List V) (v:Value) (us:List Value) (Q:VK),Inv X pins σ H s->RelV x v->Vals xs us->r x xs H Q ->
    wpAny (model X.prog X.w) X.A (call (.builtin id) (v::us)) (EP X pins σ Q) X.xe s
section
variable {X : Cx} {a b : Expr} {ta tb : TE} {pos : Pos}
theorem IxR.or {r r':R2}(h:IxR X r) (h':IxR X r'):IxR X (λx y H Q=>r x y H Q \/ r' x y H Q):=by
  intro value slice pins s σ H x y v u Q I rx ry q hs;rcases q with q|q
  . exact h value slice pins s σ H x y v u Q I rx ry q hs
  . exact h' value slice pins s σ H x y v u Q I rx ry q hs
theorem Ji {r:R2}(hr:IxR X r) (ha:PE X a ta) (hb:PE X b tb) (hs:PlainIx b):PE X (.Subscript a b pos) (tOp r ta tb):=by
  intro pins s σ H Q I h;exact Subscript_ (binT ha hb I h λv u s2 x y H2 I2 rx ry q=>hr a b pins s2 σ H2 x y v u Q I2 rx ry q (hs _ _))
def rIxL (K:PySem.W.Frag):R2:=λx y H Q=>∃ p xs i v,x=.ref p /\ y=.int i /\ SqL K H p xs /\ atI xs i=some v /\ Q v H
def rIxT (K:PySem.W.Frag):R2:=λx y H Q=>∃ p xs i v,x=.ref p /\ y=.int i /\ SqT K H p xs /\ atI xs i=some v /\ Q v H
def rIxS:R2:=λx y H Q=>∃ z i c,x=.str z /\ y=.int i /\ z.length<=sizeLine /\ atI z.cps.toList i=some c /\ Q (.str ⟨#[c]⟩) H
theorem Be:IxR X (rIxL X.K):=by
  intro value slice pins s σ H x y v u Q I rx ry h hs;obtain⟨p,xs,i,z,rfl,rfl,hq,he,q⟩:=h;cases rx;obtain⟨t,rfl⟩:=ry;obtain⟨its,r,pl,hz⟩:=I.list hq;obtain⟨j,h1,h2,h3,h4,h5⟩:=Bd he;obtain⟨w,ew,rw'⟩:=r.get h2;have hl:=r.length;have hn:=line63;have fin:EP X pins σ Q w s:=⟨z,H,I,rw',q⟩;by_cases h0:0<=i
  . have hj:i.toNat=j:=by
      rw[seqIndex_of h0 h5]at h1;exact Option.some.inj h1
    exact item_listR pl.isList h0 (by omega) (by rw[hj];simpa using ew) fin hs
  . have hj:(i+(its.toArray.size:Int)).toNat=j:=by
      rw[seqIndex_neg (by omega) h4]at h1;rw[List.size_toArray,<-hl];exact Option.some.inj h1
    exact subscriptTail_builtinR (x:=w) pl.isList.typeIs slot_list_getitem.lookup
      (wpAny_getItem_list_neg (Q:=λr s'=>r=w /\ EP X pins σ Q r s') pl.isList (by omega) (by rw[List.size_toArray]<;>omega) (by omega) (by rw[hj];simpa using ew) ⟨rfl,fin⟩) hs
theorem OC:IxR X (rIxT X.K):=by
  intro value slice pins s σ H x y v u Q I rx ry h hs;obtain⟨p,xs,i,z,rfl,rfl,hq,he,q⟩:=h;cases rx;obtain⟨t,rfl⟩:=ry;obtain⟨its,r,pl,hz⟩:=I.tuple hq;obtain⟨j,h1,h2,h3,h4,h5⟩:=Bd he;obtain⟨w,ew,rw'⟩:=r.get h2;have hl:=r.length;have hn:=line63;have fin:EP X pins σ Q w s:=⟨z,H,I,rw',q⟩;exact subscriptTail_builtinR (x:=w) pl.typeIs slot_tuple_getitem.lookup
    (getItem_tuple (j:=j) (Q:=λr s'=>r=w /\ EP X pins σ Q r s') pl (by omega) (by omega) (by rw[List.size_toArray,<-hl];exact h1) (by simpa using ew) ⟨rfl,fin⟩) hs
theorem OD:IxR X rIxS:=by
  intro value slice pins s σ H x y v u Q I rx ry h hs;obtain⟨z,i,c,rfl,rfl,hz,he,q⟩:=h;obtain⟨t,rfl⟩:=rx;obtain⟨t',rfl⟩:=ry;obtain⟨j,h1,h2,h3,h4,h5⟩:=Bd he;have hl:z.cps.toList.length=z.length:=by simp[Str.length]
  rw[hl]at h1 h4 h5;have hn:=line63;exact tail_any (typeIs_str s z t) slot_str_getitem.lookup (getItem_str (c:=c) (by
    have e1:decide (i < -(2 ^ 63:Int))=false:=decide_eq_false (by omega);have e2:decide (i>=2 ^ 63)=false:=decide_eq_false (by omega);rw[e1,e2,Bool.or_false]) (by rw[h1];simpa using h2) ⟨.str ⟨#[c]⟩,H,I.tok _,⟨_,rfl⟩,q⟩) hs
def rIx (K:PySem.W.Frag):R2:=λx y H Q=>rIxL K x y H Q \/ rIxT K x y H Q \/ rIxS x y H Q
theorem OE:IxR X (rIx X.K):=Be.or (OC.or OD)
theorem C7 (its:List Value) (n j:Nat) (u:Value):Obj.mapSeq (·.setIfInBounds j u) { cls:=.type "list",data:=.seq its.toArray n }={ cls:=.type "list",data:=.seq (its.set j u).toArray n }:=by
  simp[Obj.mapSeq]
theorem Inv.lst {pins:List (Addr×Obj)}{σ:St}{H:Hp}{s:Shared}{p:Addr}{xs:List V}(I:Inv X pins σ H s) (h:H p=some (.lst xs)) :
    ∃ (its:List Value) (n:Nat),Vals xs its /\ s.heap.get? p=some { cls:=.type "list",data:=.seq its.toArray n } /\ xs.length<=sizeLine:=by
  obtain⟨z,its,n,r,e⟩:=I.hok p _ h;exact⟨its,n,r,e,z⟩
theorem Inv.lstUpd {pins:List (Addr×Obj)}{σ:St}{H:Hp}{s:Shared}{p:Addr}{xs ys:List V}{its its':List Value}{n n':Nat}{f:Obj->Obj}(I:Inv X pins σ H s) (h:H p=some (.lst xs))
    (ho:s.heap.get? p=some { cls:=.type "list",data:=.seq its.toArray n }) (hf:f { cls:=.type "list",data:=.seq its.toArray n }={ cls:=.type "list",data:=.seq its'.toArray n' }) (r:Vals ys its') (hz:ys.length<=sizeLine) (t:Nat) :
    Inv X pins σ (upd H p (.lst ys)) { s with heap:=s.heap.update p f,toks:=t }:=by
  have e:(s.heap.update p f).get? p=some { cls:=.type "list",data:=.seq its'.toArray n' }:=by
    rw[Heap.get?_update_self f ho (by rw[hf]<;>rfl),hf]
  refine I.write (x:=p) (e:=p) (by rw[h];trivial) (.inl rfl) (λb u hb q=>(Heap.get?_update_other _ _ (Ne.symm hb)).trans q) ⟨_,e⟩ ?_;exact⟨hz,its',n',r,e⟩
def rSetL:V->V->V->Hp->(Hp->Prop)->Prop:=λo i v H Q=>∃ p xs k j,o=.ref p /\ i=.int k /\ H p=some (.lst xs) /\ ixN xs.length k=some j /\ Q (upd H p (.lst (xs.set j v)))
theorem Jj:PSet X rSetL:=by
  intro pins s σ H o i v ov iv u Q I ro ri rv h;obtain⟨p,xs,k,j,rfl,rfl,hp,hj,q⟩:=h;cases ro;obtain⟨t,rfl⟩:=ri;obtain⟨its,n,r,ho,hz⟩:=I.lst hp;obtain⟨h1,h2,h3,h4⟩:=DO hj;have hl:=r.length;have hn:=line63;have I':Inv X pins σ (upd H p (.lst (xs.set j v))) { s with heap:=s.heap.update p (Obj.mapSeq (·.setIfInBounds j u)) } :=
    I.lstUpd hp ho (C7 its n j u) (r.set rv j) (by rw[List.length_set];exact hz) s.toks
  by_cases h0:0<=k
  . have hk:k.toNat=j:=by
      rw[seqIndex_of h0 h4]at h1;exact Option.some.inj h1
    exact PySem.W.ki_setAt ho h0 (by omega) (by rw[List.size_toArray,<-hl];exact h4) (by rw[hk];exact⟨_,I',q⟩)
  . have hk:(k+(its.toArray.size:Int)).toNat=j:=by
      rw[seqIndex_neg (by omega) h3]at h1;rw[List.size_toArray,<-hl];exact Option.some.inj h1
    exact PySem.W.ki_setBack ho (by omega) (by rw[List.size_toArray,<-hl];exact h3) (by omega) (by rw[hk];exact⟨_,I',q⟩)
theorem Bf (lo hi:Option Int) (n:Nat):(sliceBounds lo hi none n).1=((HT.sIx n 0 lo:Nat):Int) /\ (sliceBounds lo hi none n).2.1=((HT.sIx n n hi:Nat):Int) /\ (sliceBounds lo hi none n).2.2=1:=by
  refine⟨?_,?_,rfl⟩
  . cases lo with
    |none=>simp[sliceBounds,HT.sIx]
    | some i =>
      simp only[sliceBounds,HT.sIx,Option.getD_none,show (1:Int)>0 by decide,if_true];by_cases h:i<0
      . simp only[h,if_true]<;>omega
      . simp only[h,if_false]<;>omega
  . cases hi with
    |none=>simp[sliceBounds,HT.sIx]
    | some i =>
      simp only[sliceBounds,HT.sIx,Option.getD_none,show (1:Int)>0 by decide,if_true];by_cases h:i<0
      . simp only[h,if_true]<;>omega
      . simp only[h,if_false]<;>omega
theorem Ax (its:List Value) (lo hi:Option Int):slicePick its.toArray lo hi none=((its.drop (HT.sIx its.length 0 lo)).take (HT.sIx its.length its.length hi-HT.sIx its.length 0 lo)).toArray:=by
  obtain⟨h1,h2,h3⟩:=Bf lo hi its.toArray.size;unfold slicePick;rw[h1,h2,h3];simp only[sliceRange_one,pick_run,List.size_toArray]<;>rfl
def rSlL (K:PySem.W.Frag):V->Option Int->Option Int->Hp->VK->Prop:=λx lo hi H Q=>∃ a xs,x=.ref a /\ SqL K H a xs /\ ∀ p,H p=none->Q (.ref p) (upd H p (.lst (cutV xs lo hi)))
theorem Mn:SlR X (rSlL X.K):=by
  intro pins s σ H x v vl vu lo hi sl Q I rx hs pl pu h;obtain⟨a,xs,rfl,hx,q⟩:=h;cases rx;obtain⟨its,r,ht,hz⟩:=I.list hx;have hlen:=r.length;refine⟨"list",_,slot_list_getitem.lookup,ht.isList.typeIs,?_⟩;refine wpAny_getItem_list_slice ht.isList hs pl pu .none (by simp) ?_ (by rw[List.size_toArray]<;>omega);rw[Ax,<-hlen];refine⟨.ref s.heap.objs.size,_,I.laid (t':=s.toks) (o:=.lst (cutV xs lo hi)) (λb ob q=>zH _ q) (zL _) ?_,rfl,q _ (I.hok.fresh (zL _))⟩;exact⟨Nat.le_trans (mY xs lo hi) hz,_,0,(r.drop (HT.sIx xs.length 0 lo)).take (HT.sIx xs.length xs.length hi-HT.sIx xs.length 0 lo),Heap.get?_push_size _ rfl⟩
noncomputable def flatV:V->Bool
  |.non=>true
  |.bl _=>true
  |.int _=>true
  |.str _=>true
  |_=>false
noncomputable def eqV:V->V->Bool
  |.non,.non=>true
  |.bl a,.bl b=>a==b
  |.bl a,.int b=>(if a then 1 else 0)==b
  |.int a,.bl b=>a==(if b then 1 else 0)
  |.int a,.int b=>a==b
  |.str a,.str b=>a==b
  |_,_=>false
theorem Jk {A:Around}{s:Shared}{y x:V}{u v:Value}(ry:RelV y u) (rx:RelV x v) (fy:flatV y=true) (fx:flatV x=true):SeqAt.EqAt A s u v (eqV y x):=by
  cases y with
  | non =>
    cases ry;cases x with
    |non=>cases rx;exact SeqAt.EqAt.same _
    |bl b=>cases rx;exact SeqAt.EqAt.none_bool b
    |int b=>obtain⟨t,rfl⟩:=rx;exact SeqAt.EqAt.none_int b t
    |str b=>obtain⟨t,rfl⟩:=rx;exact SeqAt.EqAt.none_str b t
    |_=>exact absurd (show false=true from fx) Bool.false_ne_true
  | bl a =>
    cases ry;cases x with
    |non=>cases rx;exact SeqAt.EqAt.bool_none a
    |bl b=>cases rx;exact SeqAt.EqAt.bool_bool a b
    |int b=>obtain⟨t,rfl⟩:=rx;exact SeqAt.EqAt.bool_int a b t
    |str b=>obtain⟨t,rfl⟩:=rx;exact SeqAt.EqAt.bool_str a b t
    |_=>exact absurd (show false=true from fx) Bool.false_ne_true
  | int a =>
    obtain⟨t',rfl⟩:=ry;cases x with
    |non=>cases rx;exact SeqAt.EqAt.int_none a t'
    |bl b=>cases rx;exact SeqAt.EqAt.int_bool a t' b
    |int b=>obtain⟨t,rfl⟩:=rx;exact SeqAt.EqAt.int_int a t' b t
    |str b=>obtain⟨t,rfl⟩:=rx;exact SeqAt.EqAt.int_str a t' b t
    |_=>exact absurd (show false=true from fx) Bool.false_ne_true
  | str a =>
    obtain⟨t',rfl⟩:=ry;cases x with
    |non=>cases rx;exact SeqAt.EqAt.str_none a t'
    |bl b=>cases rx;exact SeqAt.EqAt.str_bool a t' b
    |int b=>obtain⟨t,rfl⟩:=rx;exact SeqAt.EqAt.str_int a t' b t
    |str b=>obtain⟨t,rfl⟩:=rx;exact SeqAt.EqAt.str_str a t' b t
    |_=>exact absurd (show false=true from fx) Bool.false_ne_true
  |_=>exact absurd (show false=true from fy) Bool.false_ne_true
noncomputable def eqU (x:V) (u:Value):Bool:=match u with
  |.none=>eqV .non x
  |.bool b=>eqV (.bl b) x
  |.int i _=>eqV (.int i) x
  |.str z _=>eqV (.str z) x
  |_=>false
theorem Jl {x y:V}{u:Value}(r:RelV y u) (f:flatV y=true):eqU x u=eqV y x:=by
  cases y with
  |non=>cases r;rfl
  |bl b=>cases r;rfl
  |int i=>obtain⟨t,rfl⟩:=r;rfl
  |str z=>obtain⟨t,rfl⟩:=r;rfl
  |_=>exact absurd (show false=true from f) Bool.false_ne_true
theorem lU {x:V}:∀ {xs:List V}{us:List Value},Vals xs us->xs.all flatV=true->us.any (eqU x)=xs.any λy=>eqV y x
  |_,_,.nil,_=>rfl
  | y::xs,u::us,.cons r t,f=>by
    rw[List.all_cons,zA]at f;rw[List.any_cons,List.any_cons,Jl r f.1,lU t f.2]
theorem jL {A:Around}{s:Shared}{x:V}{v:Value}(rx:RelV x v) (fx:flatV x=true):∀ {xs:List V}{us:List Value},Vals xs us->xs.all flatV=true->∀ u∈us,SeqAt.EqAt A s u v (eqU x u)
  |_,_,.nil,_=>λu hu=>by cases hu
  | y::xs,u::us,.cons r t,f=>λu' hu=>by
    rw[List.all_cons,zA]at f;rcases List.mem_cons.mp hu with rfl|hu
    . rw[Jl r f.1];exact Jk r rx f.1 fx
    . exact jL rx fx t f.2 u' hu
noncomputable def inV (x:V) (xs:List V):Bool:=xs.any λy=>eqV y x
def rIn (K:PySem.W.Frag) (neg:Bool):R2:=λx y H Q=>∃ p xs,y=.ref p /\ (SqL K H p xs \/ SqT K H p xs) /\ flatV x=true /\ xs.all flatV=true /\ Q (.bl (if neg then !inV x xs else inV x xs)) H
theorem Gd:OpR X (compareOp .In) (rIn X.K false):=by
  intro pins s σ H x y v u Q I rx ry h;obtain⟨p,xs,rfl,hq,fx,fs,q⟩:=h;cases ry;rcases hq with hq|hq
  . obtain⟨its,r,pl,hz⟩:=I.list hq;refine SeqAt.in_listAt (eqU x) pl.isList (λw hw=>jL rx fx r fs w (by simpa using hw)) ⟨.bl _,H,I,rfl,?_⟩;rw[show its.toArray.any (eqU x)=its.any (eqU x) by simp,lU r fs];exact q
  . obtain⟨its,r,pl,hz⟩:=I.tuple hq;refine SeqAt.in_tupleAt (eqU x) pl (λw hw=>jL rx fx r fs w (by simpa using hw)) ⟨.bl _,H,I,rfl,?_⟩;rw[show its.toArray.any (eqU x)=its.any (eqU x) by simp,lU r fs];exact q
theorem Bg:OpR X (compareOp .NotIn) (rIn X.K true):=by
  intro pins s σ H x y v u Q I rx ry h;obtain⟨p,xs,rfl,hq,fx,fs,q⟩:=h;cases ry;rcases hq with hq|hq
  . obtain⟨its,r,pl,hz⟩:=I.list hq;refine SeqAt.notIn_listAt (eqU x) pl.isList (λw hw=>jL rx fx r fs w (by simpa using hw)) ⟨.bl _,H,I,rfl,?_⟩;rw[show its.toArray.any (eqU x)=its.any (eqU x) by simp,lU r fs];exact q
  . obtain⟨its,r,pl,hz⟩:=I.tuple hq;refine SeqAt.notIn_tupleAt (eqU x) pl (λw hw=>jL rx fx r fs w (by simpa using hw)) ⟨.bl _,H,I,rfl,?_⟩;rw[show its.toArray.any (eqU x)=its.any (eqU x) by simp,lU r fs];exact q
theorem lV:CallR X (.builtin "len") (λxs H Q=>∃ p ys,xs=[.ref p] /\ (SqL X.K H p ys \/ SqT X.K H p ys) /\ Q (.int ys.length) H):=by
  intro pins s σ H xs us Q I r h;obtain⟨p,ys,rfl,hq,q⟩:=h;obtain⟨u,rfl,rx⟩:=vals1 r;cases rx;have hn:=line63;rcases hq with hq|hq
  . obtain⟨its,r',pl,hz⟩:=I.list hq;have hlen:=r'.length;exact Calls.call_len_list pl.isList (by simp only[List.size_toArray]<;>omega) ⟨.int ys.length,H,I.tok _,⟨s.toks+1,by rw[List.size_toArray,hlen]⟩,q⟩
  . obtain⟨its,r',pl,hz⟩:=I.tuple hq;have hlen:=r'.length;exact len_tuple pl (by simp only[List.size_toArray]<;>omega) ⟨.int ys.length,H,I.tok _,⟨s.toks+1,by rw[List.size_toArray,hlen]⟩,q⟩
theorem Bh:CallR X (.type "list") (λxs H Q=>∃ p ys,xs=[.ref p] /\ (SqL X.K H p ys \/ SqT X.K H p ys) /\ ∀ l,H l=none->Q (.ref l) (upd H l (.lst ys))):=by
  intro pins s σ H xs us Q I r h;obtain⟨p,ys,rfl,hq,q⟩:=h;obtain⟨u,rfl,rx⟩:=vals1 r;cases rx
  have fin:∀ (its:List Value),Vals ys its->ys.length<=sizeLine->∀ (h':Heap) (c':Nat),(∀ b o',s.heap.get? b=some o'->h'.get? b=some o') ->
      h'.get? s.heap.objs.size=some { cls:=.type "list",dict:=none,data:=.seq its.toArray c',slots:=#[] }->EP X pins σ Q (.ref s.heap.objs.size) { s with heap:=h' }:=λits r' hz h' c' kp e =>
    ⟨.ref s.heap.objs.size,_,I.laid (t':=s.toks) kp (zL _) (show ObjOk X.prog X.w _ h' _ (.lst ys) from⟨hz,its,c',r',e⟩),rfl,q _ (I.hok.fresh (zL _))⟩
  rcases hq with hq|hq
  . obtain⟨its,r',pl,hz⟩:=I.list hq;have hlen:=r'.length;obtain⟨o,ho,hc,n,hd⟩:=pl.isList;exact call_list_seq p (.inl rfl) ho hc hd (λh' c' kp e=>fin its r' hz h' c' kp e) (by simp only[List.size_toArray]<;>omega)
  . obtain⟨its,r',pl,hz⟩:=I.tuple hq;have hlen:=r'.length;obtain⟨o,ho,hc,n,hd⟩:=pl;exact call_list_seq p (.inr rfl) ho hc hd (λh' c' kp e=>fin its r' hz h' c' kp e) (by simp only[List.size_toArray]<;>omega)
theorem Ay:CallR X (.type "tuple") (λxs H Q=>∃ p ys,xs=[.ref p] /\ ((SqL X.K H p ys /\ ∀ l,H l=none->Q (.ref l) (upd H l (.tup ys))) \/ (SqT X.K H p ys /\ Q (.ref p) H))):=by
  intro pins s σ H xs us Q I r h;obtain⟨p,ys,rfl,h⟩:=h;obtain⟨u,rfl,rx⟩:=vals1 r;cases rx;rcases h with⟨hq,q⟩|⟨hq,q⟩
  . obtain⟨its,r',pl,hz⟩:=I.list hq;have hlen:=r'.length;refine call_tuple_list pl.isList (λh' kp=>?_) (by simp only[List.size_toArray]<;>omega);have I1:Inv X pins σ H { s with heap:=h' }:=I.kept (t':=s.toks) kp;have I2:Inv X pins σ (upd H h'.objs.size (.tup ys)) { s with heap:=h'.push { cls:=.type "tuple",data:=.seq its.toArray } } :=
      I1.laid (t':=s.toks) (λb o e=>zH _ e) (zL _) (show ObjOk X.prog X.w _ _ _ (.tup ys) from⟨hz,its,r',IsTup.new _ _⟩)
    exact⟨.ref h'.objs.size,_,I2,rfl,q _ (I1.hok.fresh (zL _))⟩
  . obtain⟨its,r',pl,hz⟩:=I.tuple hq;exact call_tuple_same pl ⟨.ref p,H,I,rfl,q⟩
def tyV (K:PySem.W.Frag) (T:String) (x:V) (H:Hp):Prop:=match x with
  |.str _=>T="str"
  |.int _=>T="int"
  |.ref p=>(T="list" /\ ∃ xs,SqL K H p xs) \/ (T="tuple" /\ ∃ o,K.lookup p=some o /\ o.cls=.type "tuple" /\ o.dict=none) \/
      (T="dict" /\ ((∃ kvs,H p=some (.dK kvs)) \/ ∃ kvs,H p=some (.dT kvs))) \/ (T="set" /\ ∃ S n,H p=some (.set S n))
  |_=>False
theorem OF {pins:List (Addr×Obj)}{σ:St}{H:Hp}{s:Shared}{T:String}{x:V}{v:Value}(I:Inv X pins σ H s) (r:RelV x v) (ty:tyV X.K T x H) :
    s.TypeIs v T /\ ∀ a,v=.ref a->∃ ob,s.heap.get? a=some ob /\ ob.dict=none:=by
  cases x with
  | str z =>
    obtain⟨t,rfl⟩:=r;cases (show T="str" from ty);exact⟨typeIs_str s z t,λ_ e=>nomatch e⟩
  | int i =>
    obtain⟨t,rfl⟩:=r;cases (show T="int" from ty);exact⟨typeIs_int s i t,λ_ e=>nomatch e⟩
  | ref p =>
    cases r;rcases ty with⟨rfl,xs,hq⟩|⟨rfl,o,hk,hc,hd⟩|⟨rfl,hk⟩|⟨rfl,S,n,hk⟩
    . obtain⟨its,_,pl,_⟩:=I.list hq;refine⟨pl.isList.typeIs,λa e=>?_⟩;cases e;obtain⟨o,n,e,c,hd,_⟩:=pl;exact⟨o,e,hd⟩
    . refine⟨⟨o,I.kIn p o hk,hc⟩,λa e=>?_⟩;cases e;exact⟨o,I.kIn _ o hk,hd⟩
    . have z:∃ o,s.heap.get? p=some o /\ o.ExactDict:=by
        rcases hk with⟨kvs,hk⟩|⟨kvs,hk⟩
        . obtain⟨_,_,_,_,o,_,_,e,ex,_⟩:=I.hok p _ hk;exact⟨o,e,ex⟩
        . obtain⟨_,_,_,_,o,_,_,e,ex,_⟩:=I.hok p _ hk;exact⟨o,e,ex⟩
      obtain⟨o,e,ex⟩:=z;refine⟨⟨o,e,ex.1⟩,λa e2=>?_⟩;cases e2;exact⟨o,e,ex.2.1⟩
    . obtain⟨o,_,_,_,e,ex,_⟩:=I.hok p _ hk;refine⟨⟨o,e,ex.1⟩,λa e2=>?_⟩;cases e2;exact⟨o,e,ex.2.1⟩
  |_=>exact False.elim ty
def tBM (K:PySem.W.Frag) (T:String) (r:V->List V->Hp->VK->Prop) (to:TE) (t:TA):TE:=λσ H Q=>to σ H λx H1=>tyV K T x H1 /\ t σ H1 λxs H2=>r x xs H2 Q
variable {o e : Expr} {es : List Expr} {to : TE} {t : TA} {name : Str} {apos cpos : Pos} {T id : String} {r : V -> List V -> Hp -> VK -> Prop}
theorem BP (pa:PlainAttrs T) (slot:Slot T name id) (hty:typeOf (.builtin id)=pure (.type "method_descriptor")) (hm:MtR X id r) (ho:PE X o to) (ha:PA X (e::es) t)
    (hbase:attributeBase o name X.env (eval o X.env)=eval o X.env:=by rfl)
    (hfew:((backTo cpos (starEach (e::es) X.env)).all (λx=>!x.1)&&(backToKw cpos (keywordEach [] X.env)).all (λx=>x.1.isSome)
      && decide ((e::es).length+([]:List Keyword).length+(if ([]:List Keyword).isEmpty then 0 else 1)<30))=true:=by rfl)
    (hline:(apos.endLine==cpos.line)=true:=by rfl) (hs:starEach (e::es) X.env=(false,eval e X.env)::starEach es X.env:=by rfl) (hplain:(backTo cpos (starEach es X.env)).any (·.1)=false:=by rfl) :
    PE X (.Call (.Attribute o name apos) (e::es) [] cpos) (tBM X.K T r to t):=by
  intro pins s σ H Q I h;refine wpAny_Call_method_late hbase hfew hline rfl (thn (ho pins s σ H _ I h) λv s1 ⟨x,H1,I1,r1,ty,q1⟩=>?_);obtain⟨h1,h2⟩:=OF I1 r1 ty;refine⟨T,id,pa,slot,hty,h1,h2,?_⟩;have hA:=ha cpos pins s1 σ H1 _ I1 q1;rw[hs]at hA ⊢;refine Calls.callWith_builtin (by show (false||(backTo cpos (starEach es X.env)).any (·.1))=false;rw[hplain]<;>rfl) (Calls.evalArgs_plain ?_);exact thn hA λus s2 ⟨vs,H2,I2,r2,q2⟩=>hm pins s2 σ H2 x vs v us Q I2 r1 r2 q2
/- xs.append(e),list.index on a module's tuple .. are MtR facts of 06m -/
end
def MtM (X:Cx) (id:String) (r:V->List V->Hp->VK->Prop):Prop :=
  ∀ (pins:List (Addr×Obj)) (s:Shared) (σ:St) (H:Hp) (x:V) (xs:List V) (v:Value) (us:List Value) (Q:VK),Inv X pins σ H s->RelV x v->Vals xs us->r x xs H Q ->
    wpAny (model X.prog X.w) X.A (call (.builtin id) (v::us)) (EP X pins σ Q) X.xe s
theorem Vals.one:∀ {x:V}{us:List Value},Vals [x] us->∃ u,us=[u] /\ RelV x u
  |_,_,.cons r .nil=>⟨_,rfl,r⟩
theorem Vals.two:∀ {x y:V}{us:List Value},Vals [x,y] us->∃ u v,us=[u,v] /\ RelV x u /\ RelV y v
  |_,_,_,.cons r (.cons q .nil)=>⟨_,_,rfl,r,q⟩
theorem Vals.reverse {xs:List V}{us:List Value}(h:Vals xs us):Vals xs.reverse us.reverse:=by
  induction h with
  |nil=>exact .nil
  |cons r t ih=>rw[List.reverse_cons,List.reverse_cons];exact Vals.append ih (.cons r .nil)
theorem Vals.rep {xs:List V}{us:List Value}(h:Vals xs us):∀ k:Nat,Vals (List.replicate k xs).flatten (List.replicate k us).flatten
  |0=>.nil
  | k+1=>by
    rw[List.replicate_succ,List.replicate_succ,List.flatten_cons,List.flatten_cons];exact Vals.append h (Vals.rep h k)
theorem j9 (its:List Value):∀ (k:Nat) (acc:List Value),
    List.foldl (λx1 x2=>x1++x2) acc.toArray (List.replicate k its.toArray)=(acc++(List.replicate k its).flatten).toArray
  |0,acc=>by simp
  | k+1,acc=>by
    have e:acc.toArray++its.toArray=(acc++its).toArray:=by simp
    have e2:(acc++its)++(List.replicate k its).flatten=acc++(List.replicate (k+1) its).flatten:=by
      rw[List.replicate_succ,List.flatten_cons,List.append_assoc]
    rw[<-e2,<-j9 its k (acc++its),<-e,List.replicate_succ,List.foldl_cons]
section
variable {X : Cx} {pins : List (Addr × Obj)} {σ : St} {H : Hp} {s : Shared} {l b : Addr} {xs ys zs : List V}
theorem Inv.lset {its its':List Value}{n:Nat}{f:Array Value->Array Value}{t':Nat}(I:Inv X pins σ H s) (hH:H l=some (.lst xs))
    (e:s.heap.get? l=some { cls:=.type "list",data:=.seq its.toArray n }) (hf:f its.toArray=its'.toArray) (hv:Vals ys its') (hz:ys.length<=sizeLine) :
    Inv X pins σ (upd H l (.lst ys)) { s with heap:=s.heap.update l (Obj.mapSeq f),toks:=t' }:=by
  have q:=PySem.IsL.update e f;rw[hf]at q;refine I.write (x:=l) (e:=l) (by rw[hH];exact trivial) (.inl rfl) (λb' u hb hu=>(Heap.get?_update_other s.heap (Obj.mapSeq f) (Ne.symm hb)).trans hu) ⟨_,q⟩ ?_;exact⟨hz,its',_,hv,q⟩
theorem Inv.lnew {its:List Value}{t':Nat}(I:Inv X pins σ H s) (hv:Vals ys its) (hz:ys.length<=sizeLine) :
    Inv X pins σ (upd H s.heap.objs.size (.lst ys)) { s with heap:=s.heap.push { cls:=.type "list",data:=.seq its.toArray },toks:=t' } :=
  I.laid (λ_ _ q=>zH _ q) (zL _) ⟨hz,its,0,hv,Heap.get?_push_size _ rfl⟩
theorem Inv.fresh (I:Inv X pins σ H s):H s.heap.objs.size=none:=I.hok.fresh (zL _)
theorem Inv.lstM (I:Inv X pins σ H s) (hH:H l=some (.lst xs)):xs.length<=sizeLine /\ ∃ (its:List Value) (n:Nat),Vals xs its /\ xs.length=its.length /\ s.heap.get? l=some { cls:=.type "list",data:=.seq its.toArray n }:=by
  obtain⟨z,its,n,r,e⟩:=I.hok l _ hH;exact⟨z,its,n,r,r.length,e⟩
theorem notLongL {n:Nat}(h:n<=sizeLine):Builtin.List.listTooLong n=false:=by
  unfold Builtin.List.listTooLong;exact decide_eq_false (by omega)
end
section
variable {X : Cx}
def rAppend:V->List V->Hp->VK->Prop:=λx vs H Q=>∃ l xs y,x=.ref l /\ vs=[y] /\ H l=some (.lst xs) /\ xs.length<sizeLine /\ Q .non (upd H l (.lst (xs++[y])))
theorem lc:MtM X "list.append" rAppend:=by
  intro pins s σ H x vs v us Q I rx rv h;obtain⟨l,xs,y,rfl,rfl,hH,hz,q⟩:=h;cases rx;obtain⟨u,rfl,ru⟩:=rv.one;obtain⟨z,its,n,r,hl,e⟩:=I.lstM hH;refine call_meets F.slot_list_append ⟨_,e,rfl⟩ F.entry_list_append (F.args_list_append_2 _ _) (PySem.list_append l its.toArray n u (by rw[List.size_toArray];omega)) ⟨e,?_⟩;refine⟨.non,_,I.lset (its':=its++[u]) hH e (by simp) (r.append (.cons ru .nil)) ?_,rfl,q⟩;rw[List.length_append,List.length_singleton];omega
def rCat:R2:=λx y H Q=>∃ l b xs zs,x=.ref l /\ y=.ref b /\ H l=some (.lst xs) /\ H b=some (.lst zs) /\ xs.length+zs.length<=sizeLine /\ ∀ p,H p=none->Q (.ref p) (upd H p (.lst (xs++zs)))
theorem oR:OpR X (binaryOp .Add) rCat:=by
  intro pins s σ H x y v u Q I rx ry h;obtain⟨l,b,xs,zs,rfl,rfl,hH,hB,hz,q⟩:=h;cases rx;cases ry;obtain⟨z,its,n,r,hl,e⟩:=I.lstM hH;obtain⟨z2,its2,n2,r2,hl2,e2⟩:=I.lstM hB;refine PySem.P.add_list e e2 ?_ (by rw[List.size_toArray,List.size_toArray];omega);have ea:its.toArray++its2.toArray=(its++its2).toArray:=by simp
  rw[ea];exact⟨.ref _,_,I.lnew (t':=s.toks) (r.append r2) (by rw[List.length_append];omega),rfl,q _ I.fresh⟩
def rRep:R2:=λx y H Q=>∃ l k xs,x=.ref l /\ y=.int k /\ H l=some (.lst xs) /\ -(2 ^ 63)<=k /\ k<2 ^ 63 /\ xs.length*k.toNat<=sizeLine /\
  ∀ p,H p=none->Q (.ref p) (upd H p (.lst (List.replicate k.toNat xs).flatten))
theorem Bi {α:Type}(xs:List α) (k:Nat):(List.replicate k xs).flatten.length=k*xs.length:=by
  induction k with
  |zero=>simp
  |succ k ih=>rw[List.replicate_succ,List.flatten_cons,List.length_append,ih,Nat.succ_mul,Nat.add_comm]
theorem OG:OpR X (binaryOp .Mult) rRep:=by
  intro pins s σ H x y v u Q I rx ry h;obtain⟨l,k,xs,rfl,rfl,hH,h1,h2,hz,q⟩:=h;cases rx;obtain⟨t,rfl⟩:=ry;obtain⟨z,its,n,r,hl,e⟩:=I.lstM hH;have hlen:its.toArray.size*k.toNat<=sizeLine:=by rw[List.size_toArray,<-hl];exact hz
  have hcap:¬ its.toArray.size*k.toNat>(2 ^ 63-1) / 8:=by
    have:(sizeLine:Nat)<=(2 ^ 63-1) / 8:=by decide
    omega
  have hfit:¬ (!Builtin.List.listFitsIndex k)=true:=by
    rw[fitsIndex_both h1 h2];exact Bool.false_ne_true
  have hlong:¬ Builtin.List.listTooLong (its.toArray.size*k.toNat)=true:=by
    rw[notLongL hlen];exact Bool.false_ne_true
  have hnew:List.foldl (λx1 x2=>x1++x2) #[] (List.replicate (if its.toArray.isEmpty=true then 0 else k.toNat) its.toArray)=(List.replicate k.toNat its).flatten.toArray:=by
    have f0:∀ m:Nat,List.foldl (λx1 x2=>x1++x2) #[] (List.replicate m its.toArray)=(List.replicate m its).flatten.toArray:=λm=>by
      have:=j9 its m [];rw[List.nil_append]at this;exact this
    rw[f0];cases its with
    |nil=>simp
    |cons a r'=>rw[if_neg (by simp)]
  refine wpAny_binaryOp_repeat_ref (T:="list") (U:="int") (by decide) ⟨_,e,rfl⟩ (λs'=>typeIs_int s' k t) noFill_list_mul F.fills_int_mul F.slot_int_rmul repeat_list F.slot_int_index.lookup
    (call_meets F.slot_int_rmul (typeIs_int s k t) F.entry_int_rmul (F.args_int_rmul_2 _ _) (int___rmul___int_list k t l its.toArray n)
      ⟨e,rfl,⟨_,e,rfl⟩,call_meets F.slot_list_mul ⟨_,e,rfl⟩ F.entry_list_mul (F.args_list_mul_2 _ _) (AutoListH.list___mul___list_int_3 l its.toArray n k t hfit hcap hlong) ⟨e,?_⟩⟩)
  rw[hnew];exact⟨.ref _,_,I.lnew (t':=s.toks) (r.rep k.toNat) (by rw[Bi,Nat.mul_comm];exact hz),rfl,q _ I.fresh⟩
end
section
variable {prog : Program} {w : World} {A : Around} {E : Value -> Shared -> Prop} {s : Shared}
set_option maxRecDepth 100000 in
end
section
variable {X : Cx}
end
end L2
namespace Att
open PySem PySem.W PySem.Calls PyProof.Rows
theorem oh {P:Params}{h:Heap}:∀ (ns:List Int) (vs:List Value),WellAll P h vs (ns.map WData.int)->IntsAre vs ns:=by
  intro ns;induction ns with
  | nil =>
    intro vs w;rw[List.map_nil]at w;cases w;exact .nil
  | cons n ns ih =>
    intro vs w;rw[List.map_cons]at w;cases w with
    | cons a b =>
      cases a;exact .cons _ _ (ih _ b)
theorem Ge {l:OpenLaw}{n:Nat}(hn:l.most=some n) {P:Params}{h:Heap}{args:List WData}{vals:List Value}
    (hpre:l.row.toRowW.claim.pre args=true) (hwl:WellAll P h vals args) :
    ∃ a vs ns,vals=[Value.ref a] /\ args=[WData.list (ns.map WData.int)] /\ h.get? a=some { cls:=.type "list",data:=.seq vs.toArray } /\ IntsAre vs ns /\ ns.length<=n:=by
  have hsh:WShape.hasAll [] args [.list .int]=true:=(pre_splitW hpre).1;have hc:l.pre.holds [] { args:=args }=true:=(pre_splitW hpre).2;obtain⟨d,r,rfl,h1,h2⟩:=hasAllW_cons hsh;obtain rfl:=hasAllW_nil h2;obtain⟨xs,rfl,h3⟩:=hasW_list h1;obtain⟨ns,rfl⟩:=items_int h3;have hlen:ns.length<=n:=by
    unfold OpenLaw.pre at hc;have h4:(WTm.not (.lt (.lit (.int (n:Int))) (.len (.arg 0)))).holds [] { args:=[.list (ns.map .int)] }=true:=by
      have h4:=(holds_andW hc).1;rw[hn]at h4;exact h4
    have h5:=condW_of h4 (w_not (w_lt w_lit (w_len_list (w_arg rfl))));rw[List.length_map]at h5;refine Nat.le_of_not_lt λq=>?_;have q':(n:Int)<((ns.length:Nat):Int):=by omega
    first
      |(rw[decide_eq_true q']at h5;exact absurd h5 (by decide))
      |(simp at h5;omega)
  cases hwl with
  | cons w1 w2 =>
    cases w2;cases w1 with
    |list ho hall=>exact⟨_,_,ns,rfl,rfl,ho,oh ns _ hall,hlen⟩
theorem Gf (l:OpenLaw) (args:List WData):l.row.toRowW.claim.post args (.bool true) args=true :=
  postW_of (r:=l.row.toRowW) (X:=(true==true))
    (show WShape.has [] (.bool true) .bool=true by first|rfl|decide|simp[WShape.has,WShape.arms,WShape.armsAll])
    (show (WTm.eq .res (.lit (.bool true))).value [] { args:=args,res:=some (.bool true),after:=args }=some (.bool (true==true)) from w_eq_bool (w_res rfl) w_lit) rfl
theorem attach_call {l:OpenLaw}{n:Nat}{q:Program}{loose:List Str}{XP:(Str->Option Value)->Heap->Prop}{YP:World->Heap->Prop}{d:DefRec}
    (hn:l.most=some n) (hdf:d.params.defaults=[])
    (call:∀ (w:World) (s₀ s₁:Shared) (mg mb:Str->Option Value) (fa:Addr) (o:Obj) (pm cd doc:Value) (a:Addr) (vs:List Value) (ns:List Int),
      Ground q loose [] XP w s₀ mg mb s₁.heap->YP w s₁.heap ->
      s₁.heap.get? fa=some o->o.data=.func (docDef d.name d.params d.body d.scope pm cd doc)->s₁.heap.CodeRec cd d.name->mg d.name=some (.ref fa) ->
      s₁.heap.get? a=some { cls:=.type "list",data:=.seq vs.toArray }->IntsAre vs ns->ns.length<=n->s₁.gens=#[] ->
      codeAny (model l.prog w) callerA (.call (.ref fa) ⟨[.ref a],[]⟩) (λr s'=>r=.ok (.ret (.bool true)) /\ OldK s₁.heap s'.heap /\ s'.os=s₁.os /\ AllBare s'.gens) s₁) :
    WalkO q loose XP YP l.row.toRowW d [] (λf vs=>PySem.call f vs):=by
  intro w s₀ s₁ mg mb G Y fa o pm cd doc dV kV ho hd hcd hD hmg hg args vals as hpre hlay hrd hwl hlo;obtain rfl:dV=.none:=Dflts.none hD hdf;obtain rfl:kV=.none:=Dflts.noKw hD;obtain⟨a,vs,ns,rfl,rfl,hobj,hints,hlen⟩:=Ge hn hpre hwl;refine enter_call (codeAny_mono (call w s₀ s₁ mg mb fa o pm cd doc a vs ns G Y ho (fd_plain hd) hcd hmg hobj hints hlen hg) λr s' hq=>?_);obtain⟨rfl,h2,h3,h4⟩:=hq;exact⟨.inl ⟨.bool true,.bool true,[],rfl,λ_=>rfl,.bool true,Gf l _,λ_=>⟨List.Pairwise.nil,λ_ hm=>(nomatch hm)⟩⟩,h2,h3,h4⟩
section
variable {prog : Program} {w : World} {A : Around} {E : Value -> Shared -> Prop} {s : Shared} {K : Frag}
end
end Att
namespace L2
open PySem PySem.Spec PyProof.Rows
theorem AL:∀ {vs:List Value}{ns:List Int},IntsAre vs ns->Vals (ns.map V.int) vs
  |_,_,.nil=>.nil
  |_,_,.cons n t h=>.cons ⟨t,rfl⟩ (AL h)
def Only (H:Hp):Prop:=∀ b,H b=none \/ ∃ o xs,H b=some (.frz o (.lst xs))
theorem Jm {P:Program}{w:World}{K:PySem.W.Frag}{mg mb:Str->Option Value}{CX:CXT}{k:Nat}{fa a:Addr}{fd:FuncData}{x:Str}{sp:Sp}{s₁:Shared}{vs:List Value}{ns:List Int}
    (KX:K.In s₁.heap) (hns:s₁.heap.Ns mainGlobals mg) (hb:s₁.heap.Ns builtinsNs mb) (hbb:∀ x:Str,x ≠ "__name__"->mb x=bootBuiltins x) (hlim:s₁.heap.NoLimit) (hg:s₁.gens=#[])
    (ha:s₁.heap.get? a=some { cls:=.type "list",data:=.seq vs.toArray }) (hi:IntsAre vs ns) (hl:ns.length<=sizeLine) (hr:Room k callerA)
    (F:∀ base:Heap,K.In base->base.Ns mainGlobals mg->FnOk P w K mg base CX k fa fd [x] sp) (hbind:∀ (s:Shared) (u:Value),BindsTo s fd ⟨[u],[]⟩ [(x,u)])
    (hsp:∀ H:Hp,Only H->SqL K H a (ns.map V.int)->sp [.ref a] H (λv _=>v=.bl true) λ_ _ _=>False)
    (hCX:∀ H e s',CX [] H s₁ (λ_ _ _=>False) e s'->False) :
    codeAny (model P w) callerA (.call (.ref fa) ⟨[.ref a],[]⟩) (λr s'=>r=.ok (.ret (.bool true)) /\ OldK s₁.heap s'.heap /\ s'.os=s₁.os /\ AllBare s'.gens) s₁:=by
  have rv:=AL hi;have lenV:=hi.length
  have core:∀ H:Hp,Only H->SqL K H a (ns.map V.int)->HOk P w H s₁.heap->(∀ b,H b≠none->b=a)->(H a≠none->K.lookup a=none) ->
      codeAny (model P w) callerA (.call (.ref fa) ⟨[.ref a],[]⟩) (λr s'=>r=.ok (.ret (.bool true)) /\ OldK s₁.heap s'.heap /\ s'.os=s₁.os /\ AllBare s'.gens) s₁:=by
    intro H hO hS hok hA hK;have mD:∀ {b:Addr}{o:Obj},s₁.heap.get? b=some o->H b=none->(hidT s₁.heap H).get? b=some o:=λe n=>GZ e n;have noA:∀ {b:Addr}{o:Obj}{es:Array DictEntry}{ep:Nat},s₁.heap.get? b=some o->o.data=.dict es ep->H b=none:=λ{b o es ep} e d=>by
      cases q:H b with
      |none=>rfl
      | some u =>
        have e':b=a:=hA b (by rw[q];simp);subst e';rw[ha]at e;cases e;have d':Data.seq vs.toArray _=Data.dict es ep:=d;cases d'
    have nsK:∀ {b:Addr}{m:Str->Option Value},s₁.heap.Ns b m->(hidT s₁.heap H).Ns b m:=λ{b m} ⟨o,es,ep,e,d,r⟩=>⟨o,es,ep,mD e (noA e d),d,r⟩;have hKb:K.In (hidT s₁.heap H):=λb o e=>mD (KX b o e) (by
      cases q:H b with
      |none=>rfl
      | some u =>
        have e':b=a:=hA b (by rw[q];simp);subst e';rw[hK (by rw[q];simp)]at e;cases e)
    have hM:Mod K mg (hidT s₁.heap H):=⟨hKb,nsK hns,⟨mb,nsK hb,hbb⟩,let ⟨mc,h1,h2⟩:=hlim;⟨mc,nsK h1,h2⟩⟩;have e0:Env0 P w K mg (hidT s₁.heap H) callerA [] s₁ H:=⟨rfl,hM,λb o e=>Ma e,Nat.le_of_eq (FX _ _),trivial,λb hb=>absurd (show b∈([]:List Addr) from hb) (by simp),hok,.of_eq hg⟩;refine codeAny_mono ((F _ hKb (nsK hns)).run callerA [] s₁ H ⟨[.ref a],[]⟩ [.ref a] [.ref a] _ _ hr e0 (hbind s₁ (.ref a)) (.cons rfl .nil) (hsp H hO hS)) λr s' h=>?_;cases r with
    |error e=>exact(hCX H e s' h).elim
    | ok fl =>
      cases fl with
      |next=>exact False.elim h
      |brk=>exact False.elim h
      |cont=>exact False.elim h
      | ret u =>
        obtain⟨v,H',os,bare,un,hok',r',q⟩:=h;have q':v=.bl true:=q;subst q';obtain rfl:u=Value.bool true:=r';refine⟨rfl,OldK.of_keep λb o e=>?_,os,bare⟩;cases q:H b with
        |none=>exact un.keep b o e q (by intro z;exact absurd (show b∈([]:List Addr) from z) (by simp)) (by simp)
        | some u =>
          rcases hO b with z|⟨ob,xs,z⟩
          . rw[q]at z;cases z
          . have z2:=un.frzs b ob _ z;obtain⟨e1,_⟩:=hok b _ z;obtain⟨e2,_⟩:=hok' b _ z2;rw[e]at e1;cases e1;exact e2
  cases hk:K.lookup a with
  | some o =>
    have e:=KX a o hk;rw[ha]at e;cases e;refine core (λ_=>none) (λ_=>.inl rfl) (.inr ⟨_,vs.toArray,_,hk,rfl,rfl,rfl,by rw[List.size_toArray,lenV];exact hl,by simpa using rv⟩) (λb u z=>by have z':(none:Option HO)=some u:=z;cases z') (λb z=>absurd rfl z) λz=>absurd rfl z
  | none =>
    refine core (λb=>if b=a then some (.frz { cls:=.type "list",data:=.seq vs.toArray } (.lst (ns.map V.int))) else none) (λb=>?_) (.inl (.inr ⟨{ cls:=.type "list",data:=.seq vs.toArray },if_pos rfl⟩)) (λb u z=>?_) (λb z=>?_) λ_=>hk
    . by_cases hb:b=a
      . exact .inr ⟨_,_,if_pos hb⟩
      . exact .inl (if_neg hb)
    . by_cases hb:b=a
      . have z':=(if_pos hb).symm.trans z;cases z';subst hb;exact⟨ha,by rw[List.length_map];exact hl,vs,_,rv,ha⟩
      . have z':=(if_neg hb).symm.trans z;cases z'
    . by_cases hb:b=a
      . exact hb
      . exact absurd (if_neg hb) z
noncomputable abbrev KOf {K:PySem.W.Frag}{h:Heap}(_:K.In h):PySem.W.Frag:=K
end L2
/- THE LAST THEOREM (shape;LID,My.* are yours):
   My.Adr: a structure of the addresses that your layer names (classes,functions);My.Txt K t: a structure (Prop) of the equations over K;
   My.txt_mk:{K}{implicit addresses ..}(e1:nsIn K mainGlobals "law"=some (some (.ref f))) (e2:K.lookup f=some ⟨oc,od,.func (fnOf "law" "law" params body scope dV kV doc pm an cdv ct),sl⟩) (e3:codeIn K cdv "law"=true) ..:∃ t,My.Txt K t
set_option maxRecDepth 100000 in
set_option maxHeartbeats 0 in
theorem PySem.Challenge.cw_LID_holds : PySem.Challenge.rw_LID.Holds := by
  w_on;o_law;k_head;(case hw=>w_witness2)
  k_fill
  refine L2.walk_of (l:=PySem.Challenge.rw_LID) (n:=63) (k:=40) (x:="script") (CX:=λw=>..) (sp:=λ_=>My.sp_law) rfl (by decide) rfl ⟨rfl,by decide,by decide⟩ (λw h Y=>PySem.W.kIn_of Y) ?F ?S ?C
  case F =>
    intro w mg fa h KX G hmg;have T:∃ t,My.Txt (L2.KOf KX) t:=by
      dsimp only[L2.KOf]                          -- K must stand as «<heap const> w.params» for k_is
      refine' My.txt_mk ?e1 ?e2 ?e3 ..
      (case e1=>PySem.W.k_is)                    -- in the order: a name->its address->its object->its parts
      (case e2=>PySem.W.k_is)
      ..
    obtain⟨t,T⟩:=T;have e0:=hmg.symm.trans (PySem.W.mg_of KX G T.law)
    cases e0                                       -- fa is the law's own address
    exact⟨_,λs u=>.of_eq rfl,λbase kb nb=>My.law_fn T kb nb⟩     -- if «.of_eq rfl» comes too early: refine' ⟨_,?b,λbase kb nb=>My.law_fn T kb nb⟩;exact λs u=>.of_eq rfl
  case S=>exact λw H a ns hl hO hS=>..
  case C=>exact ..
(the tactic k_is has no namespace: write k_is) -/
namespace L2
open PySem PySem.Spec PyProof.Rows
noncomputable def iE (s:Stmt):Arguments:=match s with
  |.FunctionDef _ a _ _ _ _ _ _ _ _=>a
  |_=>{ posonlyargs:=[],args:=[],vararg:=none,kwonlyargs:=[],kw_defaults:=[],kwarg:=none,defaults:=[] }
noncomputable def gj (s:Stmt):List Stmt:=match s with
  |.FunctionDef _ _ b _ _ _ _ _ _ _=>b
  |_=>[]
noncomputable def fu (s:Stmt):Scope:=match s with
  |.FunctionDef _ _ _ _ _ _ sc _ _ _=>sc
  |_=>{ kind:=.function,names:=[],isGenerator:=false,isCoroutine:=false }
abbrev CX0:CXT:=λ_ _ _ _ _ _=>False
noncomputable abbrev E0:XK:=λ_ _ _=>False
theorem pass0 {X:Cx}:Passes CX0 X E0:=λ_ _ _ _ _ _ _ h=>h.elim
structure Fun (K:PySem.W.Frag) (x qual:Str) (st:Stmt) (f:Addr) (fd:FuncData):Prop where
  ex:∃ (oc:Value) (od:Option Addr) (kV doc pm:Value) (an:Option Addr) (cdv ct:Value) (osl:Array (Option Value)),
    fd=PySem.W.fnOf x qual (iE st) (gj st) (fu st) .none kV doc pm an cdv ct /\ K.lookup f=some ⟨oc,od,.func fd,osl⟩ /\ PySem.W.codeIn K cdv qual=true
  kp:PySem.W.keepIn K (.ref f)=true
section
variable {P : Program} {w : World} {K : PySem.W.Frag} {mg : Str -> Option Value} {base : Heap}
theorem Fun.ok {x qual:Str}{st:Stmt}{f:Addr}{fd:FuncData}{N ps:List Str}{k:Nat}{sp:Sp}(F:Fun K x qual st f fd) (S:FnScope N ps (fu st)) (len:∀ vs H Q E,sp vs H Q E->vs.length=ps.length)
    (hbody:∀ (cdv:Value) (A:Around) (outer:List Env) (s:Shared) (H:Hp) (vs:List V) (Q:VK) (E:XK),Room k (A.deeper (envOfC qual (fu st) s.heap.objs.size f cdv))->sp vs H Q E ->
      ∃ t,PSs (cxOf CX0 P w K mg base N qual (fu st) f cdv A outer s H E).nox (gj st) t /\ t { nx:=λ_ H'=>Q .non H',rt:=Q } (start N vs) H):FnOk P w K mg base CX0 (k+1) f fd ps sp:=by
  obtain⟨oc,od,kV,doc,pm,an,cdv,ct,osl,rfl,lk,hcd⟩:=F.ex;refine N0 lk hcd S len λA outer s H vs Q E hr hsp=>?_;obtain⟨t,h,q⟩:=hbody cdv A outer s H vs Q E hr hsp;exact⟨t,h.nox,q⟩
theorem Fun.binds {x qual:Str}{st:Stmt}{f:Addr}{fd:FuncData}{ps:List Str}(F:Fun K x qual st f fd)
    (h:∀ (kV doc pm:Value) (an:Option Addr) (cdv ct:Value) (us:List Value),us.length=ps.length->bindArgs (PySem.W.fnOf x qual (iE st) (gj st) (fu st) .none kV doc pm an cdv ct) ⟨us,[]⟩=pure (ps.zip us)):Binds K fd ps []:=by
  obtain⟨oc,od,kV,doc,pm,an,cdv,ct,osl,rfl,lk,hcd⟩:=F.ex;exact .all (h kV doc pm an cdv ct)
theorem C8 {x qual:Str}{st:Stmt}{f:Addr}{oc:Value}{od an:Option Addr}{osl:Array (Option Value)}{kV doc pm cdv ct:Value}(l:K.lookup f=some ⟨oc,od,.func (PySem.W.fnOf x qual (iE st) (gj st) (fu st) .none kV doc pm an cdv ct),osl⟩)
    (c:PySem.W.codeIn K cdv qual=true) (k:PySem.W.keepIn K (.ref f)=true):Fun K x qual st f (PySem.W.fnOf x qual (iE st) (gj st) (fu st) .none kV doc pm an cdv ct):=⟨⟨oc,od,kV,doc,pm,an,cdv,ct,osl,rfl,l,c⟩,k⟩
end
theorem small1000 {n:Nat}(h:n<=1000):n<sizeLine:=Nat.lt_of_le_of_lt h (by decide)
section
variable {X : Cx}
theorem pv (i:Nat) {x:Str}{pos:Pos}(hN:X.N[i]?=some x:=by rfl) (hv:Vis X.env.scope x:=by first|exact Or.inl rfl|exact Or.inr (Or.inl rfl)|exact Or.inr (Or.inr rfl)) (hd:(x==("__debug__":Str))=false:=by decide)
    (hcd:(x==("__classdict__":Str))=false:=by decide):PE X (.Name x pos) (tVar i):=oI hN hv hd hcd
end
theorem iteF {A B:Prop}(h:B):if false=true then A else B:=by
  rw[if_neg Bool.false_ne_true];exact h
def Same (H H':Hp):Prop:=∀ b o,H b=some o->H' b=some o
theorem Same.free {H H':Hp}(e:Same H H') {l:Addr}(h:H' l=Option.none):H l=Option.none:=by
  cases q:H l with
  |none=>rfl
  | some o =>
    rw[e l o q]at h;cases h
noncomputable def clOf (cells:List (Str×Addr)):List (Str×NameKind)->List (Str×Addr)->List (Str×Addr)
  |[],acc=>acc
  |(n,k)::r,acc=>clOf cells r (if k==.free then (match cells.lookup n with|some c=>(n,c)::acc|none=>acc) else acc)
theorem jt {env:Env}:∀ (names:List (Str×NameKind)) (acc:List (Str×Addr)),(∀ y∈names,y.2=.free->∃ c,env.cells.lookup y.1=some c) ->
    (forIn names acc (λ(x:Str×NameKind) (r:List (Str×Addr))=>(match x with
      |(name,kind)=>if (kind==NameKind.free)=true then (do let a <-cellOf env name;pure (ForInStep.yield ((name,a)::r))) else pure (ForInStep.yield r):Sem (ForInStep (List (Str×Addr))))))=(pure (clOf env.cells names acc):Sem _)
  |[],acc,_=>rfl
  | (n,k)::r,acc,h=>by
    rw[List.forIn_cons];by_cases hk:k=.free
    . subst hk;obtain⟨c,e⟩:=h (n,.free) List.mem_cons_self rfl;have e':env.cells.lookup n=some c:=e;have e1:cellOf env n=pure c:=by unfold cellOf;rw[e']
      dsimp only;rw[if_pos (by decide),e1];have q:=jt (env:=env) r ((n,c)::acc) λy hy=>h y (List.mem_cons_of_mem _ hy);have z:clOf env.cells ((n,NameKind.free)::r) acc=clOf env.cells r ((n,c)::acc):=by
        show clOf env.cells r _=_;rw[if_pos (by decide),e']
      rw[z,<-q];rfl
    . dsimp only;have hb:(k==NameKind.free)=false:=by simpa using hk
      rw[if_neg (by rw[hb];decide)];have q:=jt (env:=env) r acc λy hy=>h y (List.mem_cons_of_mem _ hy);have z:clOf env.cells ((n,k)::r) acc=clOf env.cells r acc:=by
        show clOf env.cells r _=_;rw[if_neg (by rw[hb];decide)]
      rw[z,<-q];rfl
theorem oS {scope:Scope}{env:Env}(h:∀ y∈scope.names,y.2=.free->∃ c,env.cells.lookup y.1=some c):closureFor scope env=pure (clOf env.cells scope.names []):=by
  have q:=jt (env:=env) scope.names [] h;unfold closureFor;first
    |exact q
    |(dsimp only;rw[show (forIn scope.names ([]:List (Str×Addr)) _:Sem _)=_ from q];rfl)
    |(rw[<-q];rfl)
theorem BQ {cells:List (Str×Addr)}:∀ (names:List (Str×NameKind)) (acc:List (Str×Addr)),(∀ x c,acc.lookup x=some c->cells.lookup x=some c)->∀ x c,(clOf cells names acc).lookup x=some c->cells.lookup x=some c
  |[],_,h=>h
  | (n,k)::r,acc,h=>by
    refine BQ r _ ?_;intro x c e;by_cases hk:(k==NameKind.free)=true
    . rw[if_pos hk]at e;cases q:cells.lookup n with
      |none=>rw[q]at e;exact h x c e
      | some a =>
        rw[q]at e;have e':((n,a)::acc).lookup x=some c:=e;rw[List.lookup_cons]at e';cases hx:x==n with
        |true=>rw[hx]at e';rw[eq_of_beq hx,q];exact e'
        |false=>rw[hx]at e';exact h x c e'
    . rw[if_neg hk]at e;exact h x c e
theorem BR {cells:List (Str×Addr)}:∀ (names:List (Str×NameKind)) (acc:List (Str×Addr)) (x:Str),((∃ c,acc.lookup x=some c) \/ ((x,NameKind.free)∈names /\ ∃ c,cells.lookup x=some c))->∃ c,(clOf cells names acc).lookup x=some c
  |[],_,x,h=>h.elim id λz=>nomatch z.1
  | (n,k)::r,acc,x,h=>by
    refine BR r _ x ?_;rcases h with⟨c,e⟩|⟨hm,c,e⟩
    . left;by_cases hk:(k==NameKind.free)=true
      . rw[if_pos hk];cases q:cells.lookup n with
        |none=>exact⟨c,e⟩
        | some a =>
          show ∃ c,((n,a)::acc).lookup x=some c;rw[List.lookup_cons];cases hx:x==n with
          |true=>exact⟨a,rfl⟩
          |false=>exact⟨c,e⟩
      . rw[if_neg hk];exact⟨c,e⟩
    . rcases List.mem_cons.mp hm with z|z
      . have z1:x=n:=congrArg Prod.fst z;have z2:NameKind.free=k:=congrArg Prod.snd z;subst z1;subst z2;left;rw[if_pos (by decide),e];exact⟨c,by show ((x,c)::acc).lookup x=_;rw[List.lookup_cons,beq_self_eq_true]⟩
      . exact .inr ⟨z,c,e⟩
theorem lJ {env:Env}:∀ (names:List (Str×NameKind)) (x:Str) (k':NameKind),
    (names.map λ(n,k)=>if (k==NameKind.free&&env.scope.kind==.function&&env.kindOf n==some .cell) then (n,NameKind.cell) else (n,k)).lookup x=some k' ->
    ∃ k,names.lookup x=some k /\ (k'=k \/ (k=.free /\ k'=.cell))
  |[],_,_,h=>by simp at h
  | (n,k)::r,x,k',h=>by
    have h':List.lookup x ((if (k==NameKind.free&&env.scope.kind==.function&&env.kindOf n==some .cell)=true then (n,NameKind.cell) else (n,k))::(r.map λ(n,k)=>if (k==NameKind.free&&env.scope.kind==.function&&env.kindOf n==some .cell) then (n,NameKind.cell) else (n,k)))=some k':=h;by_cases hc:(k==NameKind.free&&env.scope.kind==.function&&env.kindOf n==some .cell)=true
    . rw[if_pos hc,List.lookup_cons]at h';rw[List.lookup_cons];cases hx:x==n with
      | true =>
        rw[hx]at h';have hk:k=.free:=by
          cases hq:(k==NameKind.free) with
          |true=>exact eq_of_beq hq
          |false=>rw[hq]at hc;simp at hc
        exact⟨k,rfl,.inr ⟨hk,(Option.some.inj h').symm⟩⟩
      |false=>rw[hx]at h';exact lJ r x k' h'
    . rw[if_neg hc,List.lookup_cons]at h';rw[List.lookup_cons];cases hx:x==n with
      |true=>rw[hx]at h';exact⟨k,rfl,.inl (Option.some.inj h').symm⟩
      |false=>rw[hx]at h';exact lJ r x k' h'
theorem ju {env:Env}:∀ (names:List (Str×NameKind)) (x:Str),names.lookup x=some .free ->
    (names.map λ(n,k)=>if (k==NameKind.free&&env.scope.kind==.function&&env.kindOf n==some .cell) then (n,NameKind.cell) else (n,k)).lookup x=some .cell \/
    (names.map λ(n,k)=>if (k==NameKind.free&&env.scope.kind==.function&&env.kindOf n==some .cell) then (n,NameKind.cell) else (n,k)).lookup x=some .free
  |[],_,h=>by simp at h
  | (n,k)::r,x,h=>by
    show List.lookup x ((if (k==NameKind.free&&env.scope.kind==.function&&env.kindOf n==some .cell)=true then (n,NameKind.cell) else (n,k))::_)=_ \/ List.lookup x ((if (k==NameKind.free&&env.scope.kind==.function&&env.kindOf n==some .cell)=true then (n,NameKind.cell) else (n,k))::_)=_;rw[List.lookup_cons]at h;by_cases hc:(k==NameKind.free&&env.scope.kind==.function&&env.kindOf n==some .cell)=true
    . rw[if_pos hc,List.lookup_cons];cases hx:x==n with
      |true=>exact .inl rfl
      |false=>rw[hx]at h;exact ju r x h
    . rw[if_neg hc,List.lookup_cons];cases hx:x==n with
      |true=>rw[hx]at h;exact .inr h
      |false=>rw[hx]at h;exact ju r x h
theorem ik:∀ (names:List (Str×NameKind)) (n:Nat) (acc:List (Str×Addr)),cellsFrom n names acc=cellsFrom n names []++acc
  |[],_,_=>rfl
  | (x,k)::r,n,acc=>by
    unfold cellsFrom;split
    . rw[ik r (n+1) ((x,n)::acc),ik r (n+1) [(x,n)],List.append_assoc];rfl
    . exact ik r n acc
theorem mG:∀ (names:List (Str×NameKind)) (n:Nat) {x:Str}{c:Addr},(x,c)∈cellsFrom n names []->(x,NameKind.cell)∈names
  |[],_,_,_,h=>nomatch h
  | (y,k)::r,n,x,c,h=>by
    unfold cellsFrom at h;split at h
    . rename_i hk;rw[ik]at h;rcases List.mem_append.mp h with h|h
      . exact List.mem_cons_of_mem _ (mG r _ h)
      . cases List.mem_singleton.mp h;rw[<-eq_of_beq hk];exact List.mem_cons_self
    . exact List.mem_cons_of_mem _ (mG r _ h)
theorem oT {α:Type}:∀ {l:List (Str×α)}{x:Str}{a b:α},(l.map (·.1)).Nodup->(x,a)∈l->(x,b)∈l->a=b
  | (y,c)::l,x,a,b,h,ha,hb=>by
    rw[List.map_cons,List.nodup_cons]at h;rcases List.mem_cons.mp ha with e|ha<;>rcases List.mem_cons.mp hb with e'|hb
    . rw[<-e']at e;exact(Prod.mk.inj e).2
    . exact absurd (List.mem_map.mpr ⟨_,hb,(Prod.mk.inj e).1⟩) h.1
    . exact absurd (List.mem_map.mpr ⟨_,ha,(Prod.mk.inj e').1⟩) h.1
    . exact oT h.2 ha hb
theorem jv {α:Type}{x:Str}:∀ {l m:List (Str×α)},(l++m).lookup x=match l.lookup x with|some a=>some a|none=>m.lookup x
  |[],m=>rfl
  | (y,a)::l,m=>by
    rw[List.cons_append,List.lookup_cons,List.lookup_cons];cases x==y with
    |true=>rfl
    |false=>exact jv
theorem oU {M:Model}{A:Around}{E:Value->Shared->Prop}{s:Shared}{scope:Scope}{globals:Addr}{cl:List (Str×Addr)}{qual:Str}{env:Env}{Q:Env->Shared->Prop}
    (h:Q { scope:=scope,locals:=s.heap.objs.size,globals:=globals,cells:=cellsFrom (s.heap.objs.size+1) scope.names cl,qual:=qual,func:=none,code:=env.code,frame:=env.frame,builtins:=env.builtins }
      { s with heap:=pushCells (s.heap.push { cls:=.type "dict",data:=.dict #[] }) scope.names }) :
    wpAny M A (newFunctionEnv scope globals cl [] qual none .none (some env)) Q E s:=by
  unfold newFunctionEnv;refine zB (wpAny_alloc (zB (wpAny_layCells _ (λname kind cells=>by cases hk:kind==NameKind.cell<;>simp[hk]) _ _ _ _ ?_)));rw[show ({ s with heap:=s.heap.push { cls:=.type (if (some env).isSome=true then "dict" else "frame"),data:=.dict #[] } }:Shared).heap.objs.size=s.heap.objs.size+1 from Heap.size_push ..];exact zB (zP (zP h))
noncomputable abbrev Cx.comp (X:Cx) (N:List Str) (scope:Scope) (cl:List (Str×Addr)) (s:Shared) (H:Hp) (C:Addr) (fp:List Addr):Cx :=
  { X with N:=N,s₀:=s,H₀:=H,env:=compEnvC scope cl C X.env,outer:=X.stack,stack:=X.stack,ex:=fp,fn:=λx=>decide (scope.names.lookup x=some .cell),pn:=[],xe:=λ_ _=>False }
structure CompScope (X:Cx) (N:List Str) (src:List (Option Nat)) (scope:Scope):Prop where
  kind:scope.kind=.function
  nk:(scope.names.map (·.1)).Nodup
  names:∀ y∈scope.names,y.2=.local->scope.names.lookup y.1=some .local
  has:∀ y∈scope.names,y.2=.free->X.env.kindOf y.1=some .cell \/ X.env.kindOf y.1=some .free
  slen:src.length=N.length
  frm:∀ (j i:Nat) (x:Str),src[j]?=some (some i)->N[j]?=some x->X.N[i]?=some x /\ scope.names.lookup x=some .free
noncomputable def srcSt (src:List (Option Nat)) (σ:St):St:=src.map λo=>o.bind λi=>(σ[i]?).bind id
def PF (X:Cx) (ifs:List Expr) (t:TT):Prop :=
  ∀ (pins:List (Addr×Obj)) (s:Shared) (σ:St) (H:Hp) (Q:Bool->Hp->Prop),Inv X pins σ H s->t σ H Q ->
    wpAny (model X.prog X.w) X.A (forIn ifs true λc r=>if r=true then do let ok <-isTrue c X.env (eval c X.env);pure (ForInStep.yield ok) else pure (ForInStep.yield r)) (TP X pins σ Q) X.xe s
theorem OH {X:Cx}:PF X [] (λ_ H Q=>Q true H):=λ_ _ _ H _ I h=>wpAny_tests_nil ⟨H,I,h⟩
theorem OI {X:Cx}{c:Expr}{t:TT}(h:PT X c t):PF X [c] t:=λpins s σ H Q I hw=>wpAny_tests_one (h pins s σ H Q I hw)
def CompW (J:It) (g:TG) (tf:TT) (te:TE) (D:Addr) (Q:VK) (σ0:St) (H0:Hp):Prop :=
  ∃ W:Nat->Nat->St->Hp->Prop,(∃ m,W 0 m σ0 H0) /\ ∀ i m σ' H',W i m σ' H' ->
    (J.stop i H' /\ Q (.ref D) H') \/ (J.go i H' /\ ∃ N:St->Hp->Prop,(∀ σ2 H2,N σ2 H2->∃ m',m'<m /\ W (i+1) m' σ2 H2) /\ ∀ x H2,J.yld i H' x H2->g x σ' H2 λσ2 H3=>tf σ2 H3 λb H4 =>
      if b=true then te σ2 H4 λy H5=>∃ ys,H5 D=some (.lst ys) /\ ys.length<sizeLine /\ N σ2 (upd H5 D (.lst (ys++[y]))) else N σ2 H4)
def tComp (src:List (Option Nat)) (wi:TI) (g:TG) (tf:TT) (te:TE):TE:=λσ H Q=>wi σ H λJ H1=>∀ D,H1 D=none->CompW J g tf te D Q (srcSt src σ) (upd H1 D (.lst []))
section
variable {prog : Program} {w : World} {A : Around} {R : Result -> Shared -> Prop} {s : Shared}
noncomputable abbrev cErr (P:Program) (w:World) (A:Around) (env:Env) (R:Result->Shared->Prop):Value->Shared->Prop :=
  notedBy (model P w) A env λx z=>R (.error x) z
noncomputable abbrev cTests (ifs:List Expr) (env:Env):Sem Bool :=
  forIn ifs true λc r=>if r=true then do let ok <-isTrue c env (eval c env);pure (ForInStep.yield ok) else pure (ForInStep.yield r)
theorem lX {elt tg iter:Expr}{ifs:List Expr}{scope:Scope}{pos:Pos}{it acc:Value}{env:Env}
    (J:Nat->Shared->Prop) (N:Value->Nat->Shared->Prop)
    (hN:∀ v n z,N v n z->wpAny (model prog w) A (letOwnedTupleGo tg it v) (λ_ z1 =>
      wpAny (model prog w) A (assign tg env v) (λ_ z2 =>
      wpAny (model prog w) A (cTests ifs env) (λb z3 =>
        if b=true then wpAny (model prog w) A (eval elt env) (λy z4 =>
          wpAny (model prog w) A (call (.builtin "list.append") [acc,y])
            (λ_ z5=>∃ k,k<n /\ J k z5) (cErr prog w A env R) z4) (cErr prog w A env R) z3
        else ∃ k,k<n /\ J k z3)
        (cErr prog w A env R) z2) (cErr prog w A env R) z1) (cErr prog w A env R) z)
    (go:∀ n z,J n z->wpAny (model prog w) A (pyNext it)
      (λr z1=>match r with|none=>R (.ok .next) z1|some v=>N v n z1) (cErr prog w A env R) z)
    (n:Nat) (h:J n s) :
    codeAny (model prog w) A (.compLoop (.ListComp elt [⟨tg,iter,ifs,0⟩] scope pos) 0 it acc env) R s:=by
  refine codeAny_loop rfl J (λk z hz=>?_) n h;show wpAny _ A (Sem.onRaise (compTurn _ 0 it acc env) _) _ _ z;refine wpAny_noted ?_;rw[compTurn_list];refine zB (wpAny_standAt (zB ?_));refine wpAny_mono (go k z hz) (λr z1 h1=>?_) λ_ _ q=>q;cases r with
  |none=>exact zP h1
  | some v =>
    refine zB (wpAny_mono (hN v k z1 h1) (λ_ z2 h2=>zB ?_) λ_ _ q=>q);refine wpAny_mono h2 (λ_ z3 h3=>zB ?_) λ_ _ q=>q;refine wpAny_mono h3 (λb z4 h4=>?_) λ_ _ q=>q;cases b with
    |false=>exact zP ⟨rfl,h4⟩
    | true =>
      refine zB (zB (wpAny_mono h4 (λy z5 h5=>zB ?_) λ_ _ q=>q));exact wpAny_mono h5 (λ_ z6 h6=>zP (zP ⟨rfl,h6⟩)) λ_ _ q=>q
end
section
variable {X : Cx}
theorem CompScope.cells {N:List Str}{src:List (Option Nat)}{scope:Scope}(S:CompScope X N src scope) (ok:X.Ok):∀ y∈scope.names,y.2=.free->∃ c,X.env.cells.lookup y.1=some c :=
  λy hy hf=>ok.has y.1 (S.has y hy hf)
theorem BS {cells:List (Str×Addr)}{x:Str}{c:Addr}:∀ (names:List (Str×NameKind)) (acc:List (Str×Addr)),(x,c)∉acc->(x,c)∈clOf cells names acc->(x,NameKind.free)∈names
  |[],_,h,e=>absurd e h
  | (n,k)::r,acc,h,e=>by
    by_cases hx:x=n /\ k=.free
    . obtain⟨rfl,rfl⟩:=hx;exact List.mem_cons_self
    . refine List.mem_cons_of_mem _ (BS r _ ?_ e);by_cases hk:(k==NameKind.free)=true
      . rw[if_pos hk];cases q:cells.lookup n with
        |none=>exact h
        | some a =>
          intro z;rcases List.mem_cons.mp z with z|z
          . exact hx ⟨(Prod.mk.inj z).1,eq_of_beq hk⟩
          . exact h z
      . rw[if_neg hk];exact h
theorem BT {N:List Str}{src:List (Option Nat)}{scope:Scope}{pins:List (Addr×Obj)}{σ:St}{H:Hp}{s s':Shared}{fp:List Addr}
    (S:CompScope X N src scope) (I:Inv X pins σ H s) (hfp:∀ b∈fp,FpOk X pins H b /\ b<s.heap.objs.size) (hh:s'={ s with heap:=pushCells (s.heap.push { cls:=.type "dict",data:=.dict #[] }) scope.names }) :
    Inv (X.comp N scope (cellsFrom (s.heap.objs.size+1) scope.names (clOf X.env.cells scope.names [])) s H s.heap.objs.size fp) [] (srcSt src σ) H s':=by
  subst hh;have hk:∀ b o,s.heap.get? b=some o->(pushCells (s.heap.push { cls:=.type "dict",data:=.dict #[] }) scope.names).get? b=some o:=λb o e=>pushCells_keeps _ _ b o (zH _ e);have hns:(pushCells (s.heap.push { cls:=.type "dict",data:=.dict #[] }) scope.names).Ns s.heap.objs.size (λ_=>none):=(Heap.Ns.new s.heap (.type "dict")).keeps (pushCells_keeps _ _);have ok:=cellsFrom_ok scope.names (s.heap.push { cls:=.type "dict",data:=.dict #[] }) (s.heap.objs.size+1) [] ⟨λ_ _ hm=>(nomatch hm),List.Pairwise.nil⟩ (by rw[Heap.size_push];exact zL _);rw[Heap.size_push]at ok;have split:∀ x c,(cellsFrom (s.heap.objs.size+1) scope.names (clOf X.env.cells scope.names [])).lookup x=some c->(cellsFrom (s.heap.objs.size+1) scope.names []).lookup x=some c \/ (clOf X.env.cells scope.names []).lookup x=some c:=λx c e=>by
    rw[ik,jv]at e;cases q:(cellsFrom (s.heap.objs.size+1) scope.names []).lookup x with
    |some a=>rw[q]at e;exact .inl e
    |none=>rw[q]at e;exact .inr e
  have own:∀ x c,(cellsFrom (s.heap.objs.size+1) scope.names []).lookup x=some c->s.heap.objs.size<c /\ (pushCells (s.heap.push { cls:=.type "dict",data:=.dict #[] }) scope.names).IsCell c none:=λx c e=>by
    obtain⟨a,b⟩:=ok.empty x c (PySem.mem_of_lookup e);exact⟨b,a⟩
  have far:∀ x,scope.names.lookup x=some .free->(cellsFrom (s.heap.objs.size+1) scope.names (clOf X.env.cells scope.names [])).lookup x=(clOf X.env.cells scope.names []).lookup x:=λx e=>by
    rw[ik,jv];cases q:(cellsFrom (s.heap.objs.size+1) scope.names []).lookup x with
    |some a=>exact absurd (oT S.nk (PySem.mem_of_lookup e) (mG _ _ (PySem.mem_of_lookup q))) (by decide)
    |none=>rfl
  have low:∀ x c,X.env.cells.lookup x=some c->c<s.heap.objs.size:=λx c e=>by
    obtain⟨v,o,ho,_⟩:=I.cell x c e;exact Heap.lt_size ho
  have sub:=BQ (cells:=X.env.cells) scope.names [] (λx c e=>by simp at e);have kfree:∀ x,((relabel scope X.env).names.lookup x=some .cell \/ (relabel scope X.env).names.lookup x=some .free)->scope.names.lookup x=some .free \/ scope.names.lookup x=some .cell:=λx hx=>by
    have go:∀ k',(k'=NameKind.cell \/ k'=NameKind.free)->(relabel scope X.env).names.lookup x=some k'->scope.names.lookup x=some .free \/ scope.names.lookup x=some .cell:=λk' hk' e=>by
      obtain⟨k,e1,q⟩:=lJ (env:=X.env) scope.names x k' e;rcases q with q|⟨q,_⟩
      . subst q;rcases hk' with z|z
        . subst z;exact .inr e1
        . subst z;exact .inl e1
      . subst q;exact .inl e1
    exact hx.elim (go _ (.inl rfl)) (go _ (.inr rfl))
  have chas:∀ x,scope.names.lookup x=some .free->∃ c,(clOf X.env.cells scope.names []).lookup x=some c /\ X.env.cells.lookup x=some c:=λx e=>by
    have hm:=PySem.mem_of_lookup e;obtain⟨c,e1⟩:=BR (cells:=X.env.cells) scope.names [] x (.inr ⟨hm,S.cells I.ok (x,.free) hm rfl⟩);exact⟨c,e1,sub x c e1⟩
  refine⟨⟨I.ok.mod,?_,I.ok.glob,I.ok.blt,zL _,λx y c e1 e2=>?_,λx hx=>?_,λx c e=>?_,I.ok.hd,I.ok.frames,.inl rfl,λb hb=>?_,I.bs,Nat.le_trans I.ok.bsz I.sz,λb o e hb=>?_,λb hb=>?_,I.stack,I.stkFree⟩,
    rfl,I.bare,Un.kept hk,⟨_,hns,λj x v e1 e2 e3=>?_⟩,λx c e=>?_,I.hok.fresh (zL _),λx c e=>?_,λp hp=>absurd (show p∈([]:List (Addr×Obj)) from hp) (by simp),I.hok.kept hk,?_⟩
  . exact S.kind
  . rcases split x c e1 with q1|q1<;>rcases split y c e2 with q2|q2
    . exact name_of_addr ok.apart (PySem.mem_of_lookup q1) (PySem.mem_of_lookup q2)
    . exact absurd (Nat.lt_trans (own x c q1).1 (low y c (sub y c q2))) (Nat.lt_irrefl _)
    . exact absurd (Nat.lt_trans (own y c q2).1 (low x c (sub x c q1))) (Nat.lt_irrefl _)
    . exact I.ok.inj x y c (sub x c q1) (sub y c q2)
  . rcases kfree x hx with k|k
    . obtain⟨c,e1,_⟩:=chas x k;exact⟨c,(far x k).trans e1⟩
    . obtain⟨c,e1⟩:=oM (n:=s.heap.objs.size+1) k;refine⟨c,?_⟩;show (cellsFrom (s.heap.objs.size+1) scope.names (clOf X.env.cells scope.names [])).lookup x=some c;rw[ik,jv,e1]
  . intro hl;rcases split x c hl with q|q
    . exact Nat.le_of_lt (own x c q).1
    . have k:scope.names.lookup x=some .cell:=of_decide_eq_true e;have m:(x,NameKind.free)∈scope.names:=BS _ _ (by simp) (PySem.mem_of_lookup q);exact absurd (oT S.nk (PySem.mem_of_lookup k) m) (by decide)
  . obtain⟨f,hl⟩:=hfp b hb;refine⟨Nat.ne_of_lt hl,λx c e=>?_⟩;rcases split x c e with q|q
    . exact Nat.ne_of_gt (Nat.lt_trans hl (own x c q).1)
    . exact f.2.2.2.2.1 x c (sub x c q)
  . obtain⟨f,_⟩:=hfp b hb;obtain⟨_,_,_,f4,_⟩:=f;rcases f4 with z|z
    . exact I.ok.noex b o e z
    . have q:=(I.ok.bs b o e).1;exact absurd (Nat.lt_of_lt_of_le (Heap.lt_size q) z) (Nat.lt_irrefl _)
  . obtain⟨f,_⟩:=hfp b hb;intro hz;rcases List.mem_cons.mp (I.stkSub b hz) with e|e
    . exact f.2.1 e
    . exact f.2.2.1 e
  . have hs:∃ i,src[j]?=some (some i) /\ σ[i]?=some (some v):=by
      have e2':(src.map λo=>o.bind λi=>(σ[i]?).bind id)[j]?=some (some v):=e2;rw[List.getElem?_map]at e2';cases q:src[j]? with
      |none=>rw[q]at e2';cases e2'
      | some o =>
        rw[q]at e2';cases o with
        |none=>cases e2'
        | some i =>
          refine⟨i,rfl,?_⟩;have e3':(σ[i]?).bind id=some v:=Option.some.inj e2';cases z:σ[i]? with
          |none=>rw[z]at e3';cases e3'
          | some o' =>
            rw[z]at e3';have:o'=some v:=e3';rw[this]
    obtain⟨i,hsj,hσ⟩:=hs;obtain⟨hN,hfr⟩:=S.frm j i x hsj e1;have hkX:=S.has (x,.free) (PySem.mem_of_lookup hfr) rfl;obtain⟨m,_,hl⟩:=I.loc;obtain⟨u,r,lk⟩:=hl i x v hN hσ (.inr hkX);refine⟨u,r,?_⟩;rcases lk with⟨k,_⟩|⟨_,c,ec,hcell⟩
    . rcases hkX with z|z
      . rw[z]at k;cases k
      . rw[z]at k;cases k
    . obtain⟨c',e1',e2'⟩:=chas x hfr;have:c'=c:=by rw[ec]at e2';exact(Option.some.inj e2').symm
      subst this;refine .inr ⟨?_,c',(far x hfr).trans e1',?_⟩
      . exact ju (env:=X.env) scope.names x hfr
      . obtain⟨o,ho,hd⟩:=hcell;exact⟨o,hk _ _ ho,hd⟩
  . rcases split x c e with q|q
    . exact⟨none,(own x c q).2⟩
    . obtain⟨v,o,ho,hd⟩:=I.cell x c (sub x c q);exact⟨v,o,hk _ _ ho,hd⟩
  . rcases split x c e with q|q
    . exact I.hok.fresh (Nat.le_of_lt (own x c q).1)
    . exact I.freeC x c (sub x c q)
  . show (srcSt src σ).length=N.length;unfold srcSt;rw[List.length_map];exact S.slen
theorem Mo {N:List Str}{src:List (Option Nat)}{elt tg iter:Expr}{ifs:List Expr}{scope:Scope}{pos:Pos}{wi:TI}{g:TG}{tf:TT}{te:TE}
    (hc:X.calm=true) (S:CompScope X N src scope) (hi:PI X tg iter wi)
    (hg:∀ cl s H C fp,PG (X.comp N scope cl s H C fp) tg g) (hf:∀ cl s H C fp,PF (X.comp N scope cl s H C fp) ifs tf) (he:∀ cl s H C fp,PE (X.comp N scope cl s H C fp) elt te)
    (hs:∀ x,foldedSetIterable iter X.env x=pure x:=by intro _;rfl):PE X (.ListComp elt [⟨tg,iter,ifs,0⟩] scope pos) (tComp src wi g tf te):=by
  intro pins s σ H Q I h;rw[eval_ListComp];refine wpAny_comprehension_free (use:=none) rfl hs (oS (S.cells I.ok)) S.kind S.names (thn (hi pins s σ H _ I h) λxv s1 h1=>thn h1 λitv s2 h2=>?_);obtain⟨it,fp,tn,J,H2,e,I2,T,st2,f2,hW⟩:=h2;subst e;refine wpAny_newObj_type ?_;generalize hD:s2.heap.objs.size=D;have hDn:H2 D=none:=I2.hok.fresh (Nat.le_of_eq hD);have I3:Inv X pins σ (upd H2 D (.lst [])) { s2 with heap:=s2.heap.push { cls:=.type "list",dict:=none,data:=.seq ([]:List Value).toArray } }:=by
    subst hD;exact I2.laid (t':=s2.toks) (λb u e=>zH _ e) (zL _) ⟨Nat.zero_le _,[],0,.nil,Heap.get?_push_size _ rfl⟩
  obtain⟨W,⟨m0,w0⟩,turn⟩:=hW D hDn;have up:∀ b o,s2.heap.get? b=some o->(s2.heap.push { cls:=.type "list",dict:=none,data:=.seq ([]:List Value).toArray }).get? b=some o:=λb u e=>zH _ e;have obj2:=T.obj _ _ st2;have st3:tn 0 (s2.heap.push { cls:=.type "list",dict:=none,data:=.seq ([]:List Value).toArray }):=T.keep _ _ _ st2 λb _ o e=>up b o e;have fpl:∀ b∈fp,b<s2.heap.objs.size:=λb hb=>by obtain⟨o,e,_⟩:=obj2 b hb;exact Heap.lt_size e
  have f3:∀ b∈fp,FpOk X pins (upd H2 D (.lst [])) b:=λb hb=>⟨by rw[fq (by rw[<-hD];exact Nat.ne_of_lt (fpl b hb))];exact(f2 b hb).1,(f2 b hb).2⟩;generalize hs3:({ s2 with heap:=s2.heap.push { cls:=.type "list",dict:=none,data:=.seq ([]:List Value).toArray } }:Shared)=s3 at I3 ⊢;have hs3h:s3.heap=s2.heap.push { cls:=.type "list",dict:=none,data:=.seq ([]:List Value).toArray }:=by rw[<-hs3]
  rw[<-hs3h]at st3;have fpl3:∀ b∈fp,b<s3.heap.objs.size:=λb hb=>by rw[hs3h,Heap.size_push];exact Nat.lt_succ_of_lt (fpl b hb)
  generalize hH3:upd H2 D (.lst [])=H3 at I3 f3 w0;refine oU ?_;generalize hh1:pushCells (s3.heap.push { cls:=.type "dict",data:=.dict #[] }) scope.names=h₁;have k1:∀ b o,s3.heap.get? b=some o->h₁.get? b=some o:=λb o e=>by rw[<-hh1];exact pushCells_keeps _ _ b o (zH _ e)
  have IY:=BT S I3 (λb hb=>⟨f3 b hb,fpl3 b hb⟩) (s':={ s3 with heap:=h₁ }) (by rw[hh1]);have st4:tn 0 h₁:=T.keep _ _ _ st3 λb _ o e=>k1 b o e;generalize hcl:cellsFrom (s3.heap.objs.size+1) scope.names (clOf X.env.cells scope.names [])=cl at IY ⊢;generalize hC:s3.heap.objs.size=C at IY ⊢;have fpY:∀ {H':Hp},(∀ b∈fp,H' b=none)->∀ b∈fp,FpOk (X.comp N scope cl s3 H3 C fp) [] H' b:=λhn b hb=>by
    refine⟨hn b hb,?_,?_,.inl hb,?_,λp hp=>absurd (show p∈([]:List (Addr×Obj)) from hp) (by simp)⟩
    . exact(IY.ok.exf b hb).1
    . exact IY.ok.exfs b hb
    . intro x c e z;exact(IY.ok.exf b hb).2 x c e z
  have fin:∀ (σ':St) (H':Hp) (s':Shared),Inv (X.comp N scope cl s3 H3 C fp) [] σ' H' s'->∀ h',Heap.SameBut C s'.heap h'->Inv X pins σ H' { s' with heap:=h' }:=λσ' H' s' I' h' hsb=>by
    have hCf:H' C=none:=I'.free;have kp:∀ b o,b≠C->s'.heap.get? b=some o->h'.get? b=some o:=λb o hb e=>hsb.extBut b o hb e;have hCs:s3.heap.get? C=none:=by rw[<-hC];exact Heap.get?_none_of_le (zL _)
    have neC:∀ b o,s3.heap.get? b=some o->b≠C:=λb o e z=>by rw[z,hCs]at e;cases e
    have U:=I'.base;refine I3.call' (s':={ s' with heap:=h' }) (ch:=fp) I'.os ⟨λb o e n hb hx=>kp b o (neC b o e) (U.keep b o e n hb hx),λb o e n hb hx=>?_,U.free,λb o e hx=>?_,U.tups,U.frzs,U.tbls⟩ ?_ I'.bare λb hb=>?_
    . obtain⟨sl,e1⟩:=U.slot b o e n hb hx;exact⟨sl,kp b _ (neC b o e) e1⟩
    . obtain⟨o',e1⟩:=U.there b o e hx;exact⟨o',kp b o' (neC b o e) e1⟩
    . intro b ob e;refine(I'.hok b ob e).stay (λc w' hcc q=>kp c w' (λz=>?_) q) (λ_ q=>q) λ_ _ q=>q;rcases hcc with z1|z1
      . rw[<-z1,z,hCf]at e;cases e
      . rw[z,hCf]at z1;cases z1
    . exact⟨(f3 b hb).2.2.2.1,(f3 b hb).2.1,λx c e=>(f3 b hb).2.2.2.2.1 x c e,(f3 b hb).2.2.2.2.2⟩
  have loop:∀ s4:Shared,s4={ s3 with heap:=h₁ } ->
      codeAny (model X.prog X.w) X.A (.compLoop (.ListComp elt [⟨tg,iter,ifs,0⟩] scope pos) 0 (.ref it) (.ref D) (compEnvC scope cl C X.env)) (compPost (model X.prog X.w) X.A X.xe none (EP X pins σ Q) (.ref D) C) s4:=by
    rintro s4 rfl;refine lX (λn s'=>∃ i σ' H',Inv (X.comp N scope cl s3 H3 C fp) [] σ' H' s' /\ tn i s'.heap /\ (∀ b∈fp,H' b=none) /\ W i n σ' H') _ (λ_ _ _ q=>q) ?_ m0 ⟨0,_,H3,IY,st4,λb hb=>(f3 b hb).1,w0⟩;rintro n s5 ⟨i,σ5,H5,I5,st5,fr5,w5⟩;have nofail:∀ {α:Type}{t:Sem α}{Q1:α->Shared->Prop}{E1:Value->Shared->Prop}{ss:Shared},wpAny (model X.prog X.w) X.A t Q1 (λ_ _=>False) ss->wpAny (model X.prog X.w) X.A t Q1 E1 ss:=λhw=>wpAny_mono hw (λ_ _ q=>q) λ_ _ z=>False.elim z;rcases turn i n σ5 H5 w5 with⟨stop,q5⟩|⟨go,NN,hN,step⟩
    . refine nofail (thn (T.done (X.comp N scope cl s3 H3 C fp) rfl rfl rfl hc i [] s5 σ5 H5 (λ_ _=>False) I5 (fpY fr5) st5 stop) λr s6 ⟨hr,I6⟩=>?_);subst hr;obtain⟨m6,hn6,_⟩:=I6.loc;exact⟨m6,hn6,λh' hsb=>⟨.ref D,H5,fin σ5 H5 s6 I6 h' hsb,rfl,q5⟩⟩
    . refine nofail (thn (T.item (X.comp N scope cl s3 H3 C fp) rfl rfl rfl hc i [] s5 σ5 H5 (λ_ _=>False) I5 (fpY fr5) st5 go) λr s6 ⟨u,hr,h6⟩=>?_);subst hr;refine nofail (thn h6 λ_ s7 ⟨x,H7,I7,r7,y7,st7,fr7⟩=>?_);have I7':=I7.pinned (fpY fr7) (T.obj _ _ st7);refine nofail (thn (hg cl s3 H3 C fp _ s7 σ5 H7 x u _ I7' r7 (step x H7 y7)) λ_ s8 ⟨σ8,H8,I8,q8⟩=>?_);refine nofail (thn (hf cl s3 H3 C fp _ s8 σ8 H8 _ I8 q8) λb s9 ⟨H9,I9,q9⟩=>?_);have again:∀ {σ9:St}{HA:Hp}{sA:Shared},Inv (X.comp N scope cl s3 H3 C fp) ([]++pinsAt fp s7.heap) σ9 HA sA->NN σ9 HA->∃ m,m<n /\ ∃ i σ' H',Inv (X.comp N scope cl s3 H3 C fp) [] σ' H' sA /\ tn i sA.heap /\ (∀ b∈fp,H' b=none) /\ W i m σ' H':=λ{σ9 HA sA} IA nA=>by
        obtain⟨m',hm,wA⟩:=hN σ9 HA nA;refine⟨m',hm,i+1,σ9,HA,IA.unpinned,T.keep _ _ _ st7 λb hb o e=>(IA.pin (b,o) (List.mem_append_right _ (List.mem_append_right _ (ij hb e)))).1,λb hb=>?_,wA⟩;obtain⟨o,e,d⟩:=T.obj _ _ st7 b hb;exact(IA.pin (b,o) (List.mem_append_right _ (List.mem_append_right _ (ij hb e)))).2.1
      cases b with
      | false =>
        rw[if_neg (by decide)]at q9;rw[if_neg (by decide)];exact again I9 q9
      | true =>
        rw[if_pos rfl]at q9;rw[if_pos rfl];refine nofail (thn (he cl s3 H3 C fp _ s9 σ8 H9 _ I9 q9) λyv sA ⟨y,HA,IA,rA,ys,hys,hyl,nA⟩=>?_);refine nofail (thn (lc _ sA σ8 HA (.ref D) [y] (.ref D) [yv] (λ_ HB=>NN σ8 HB) IA rfl (.cons rA .nil) ⟨D,ys,y,rfl,rfl,hys,hyl,nA⟩) λr sB hB=>?_);obtain⟨_,HB,IB,_,nB⟩:=hB;exact again IB nB
  exact codeAny_compStart_list (loop _ rfl) (T.self _ 0 _ _ _ st4 (loop _ rfl))
end
end L2
namespace L2
open PySem PySem.Spec PyProof.Rows PySem.W PySem.Builtin PySem.Builtin.ObjectAttr PySem.Builtin.Getset_descriptor
section
variable {prog : Program} {w : World} {A : Around} {E : Value -> Shared -> Prop} {K : Frag} {x C : Addr}
def Ex1 (x C:Addr) (h:Heap):Prop:=∃ ox,h.get? x=some ox /\ ox.cls=.ref C
theorem Ex1.type {M:Model}{h:Heap}(I:Ex1 x C h):Looks M h (typeOf (.ref x)) (.ref C):=by
  obtain⟨ox,e,hc⟩:=I;exact hc▸(Looks.ld e).andThen .now
theorem Jn {M:Model}{h:Heap}(X:K.In h) {a g:Value}{name:Str}(ha:findIn K (.ref C) name=some (some a)) (hg:specialIn K a "__get__"=some (some g)) (ht:takesIn K a=some true) :
    Looks M h (find (.ref x) (.ref C) name) (.bind g a):=by
  have l1:=looks_findIn (M:=M) X ha;have l2:Looks M h (getOf (some a)) (some g):=looks_specialIn X hg;have l3:=looks_takesIn (M:=M) X ht;have l4:Looks M h (dataDescriptor? (some a) (some g)) (some (g,a)):=l3.andThen .now;exact l1.andThen (l2.andThen (l4.andThen (Looks.tag .now)))
theorem Mp {prog:Program}{w:World}{A:Around}{R:Result->Shared->Prop}{s:Shared}{tp:Value}(X:K.In s.heap) (I:Ex1 x C s.heap) (hm:mroIn K C (.type "object")=some true) (q:R (.ok (.ret (.ref C))) s) :
    codeAny (model prog w) A (.call (.builtin "getset_descriptor.__get__") ⟨[.builtin "object.__class__",.ref x,tp],[]⟩) R s:=by
  obtain⟨hh,g,dr,t,os⟩:=s;have l0:=I.type (M:=model prog w);have l1:=looks_mroIn (M:=model prog w) X hm;refine codeAny_call_builtin KF.slot_gs.plain KF.entry_gs
    (KF.slot_gs.check _ _ _ _ _ _ _ _ KF.type_class (KF.args_gs _ _ _) ?_)
  unfold Builtin.«getset_descriptor.__get__» descrGet;rw[dga_obj];refine zB (zP ?_);unfold descrGetter descrCheckInstance descrNameAndClass;unfold isInstance;simp only[KF.owner_class]
  repeat (any_goals (first|assumption|with_reducible refine l0.at ?_|with_reducible refine l1.at ?_|wp_step))
  refine⟨Code.quiet_builtin _ (by decide +kernel),codeAny_builtin KF.entry_class ?_⟩;unfold Builtin.«object.__class__»;unfold shownTypeOf
  repeat (any_goals (first|assumption|with_reducible refine l0.at ?_|wp_step))
structure ExcK (K:Frag) (C:Addr):Prop where
  ga:findIn K (.ref C) "__getattribute__"=some (some (.builtin "BaseException.__getattribute__"))
  gt:findIn K (.ref C) "__getattr__"=some none
  cl:findIn K (.ref C) "__class__"=some (some (.builtin "object.__class__"))
  gs:specialIn K (.builtin "object.__class__") "__get__"=some (some (.builtin "getset_descriptor.__get__"))
  tk:takesIn K (.builtin "object.__class__")=some true
  mo:mroIn K C (.type "object")=some true
  mb:mroIn K C (.type "BaseException")=some true
  cd:(clsIn K C).isSome=true
theorem Jo {M:Model}{A:Around}{h:Heap}{g:Array GenState}{d:Drawn}{t:Nat}{os:OsState}{nameV:Value}{Q:Unit->Shared->Prop}(T:ExcK K C) (X:K.In h) (I:Ex1 x C h)
    (hq:Q () ⟨h,g,d,t,os⟩):wpAny M A (checkBuiltinCall "BaseException.__getattribute__" ⟨[.ref x,nameV],[]⟩) Q E ⟨h,g,d,t,os⟩:=by
  have hk:builtinKind "BaseException.__getattribute__"=some .slot:=by decide +kernel
  have hsplit:splitId "BaseException.__getattribute__"=some ("BaseException", "__getattribute__"):=by decide +kernel
  have ha:=F.args_bexc_ga (.ref x) nameV;have L0:=I.type (M:=M);have L1:=looks_mroIn (M:=M) X T.mb;have LI:Looks M h (isInstance (.ref x) (.type "BaseException")) true:=L0.andThen L1;simp only[checkBuiltinCall,hk,hsplit];refine zB (LI.at ?_)
  repeat (any_goals (first|assumption|wp_step))
theorem Jp {tk:Tok}{Q:Fin->Shared->Prop}{h:Heap}{g:Array GenState}{d:Drawn}{t:Nat}{os:OsState}(T:ExcK K C) (X:K.In h) (I:Ex1 x C h) (hq:Q (.done (.ret (.ref C))) ⟨h,g,d,t,os⟩) :
    wpAny (model prog w) A (Builtin.«object.__getattribute__» ⟨[.ref x,.str "__class__" tk],[]⟩) Q E ⟨h,g,d,t,os⟩:=by
  have L0:=I.type (M:=model prog w);have L1:=Jn (x:=x) (M:=model prog w) X T.cl T.gs T.tk;unfold Builtin.«object.__getattribute__»;refine zB (zP ?_)
  repeat (any_goals (first|assumption|with_reducible refine L0.at ?_|with_reducible refine L1.at ?_|wp_step))
  refine Mp X I T.mo ?_
  repeat (any_goals (first|assumption|wp_step))
theorem Mq {tk:Tok}{R:Result->Shared->Prop}{h:Heap}{g:Array GenState}{d:Drawn}{t:Nat}{os:OsState}(T:ExcK K C) (X:K.In h) (I:Ex1 x C h) (hq:R (.ok (.ret (.ref C))) ⟨h,g,d,t,os⟩) :
    codeAny (model prog w) A (.call (.builtin "BaseException.__getattribute__") ⟨[.ref x,.str "__class__" tk],[]⟩) R ⟨h,g,d,t,os⟩ :=
  codeAny_call_builtin F.excAttr_ValueError.ga.plain F.entry_bexc_ga (Jo T X I (Jp T X I hq))
theorem OJ {Q:Option Value->Shared->Prop}{s:Shared}(T:ExcK K C) (X:K.In s.heap) (I:Ex1 x C s.heap) (hq:Q (some (.ref C)) { s with toks:=s.toks+1 }) :
    wpAny (model prog w) A (getAttr? (.ref x) "__class__") Q E s:=by
  obtain⟨h,g,d,t,os⟩:=s;have L0:=I.type (M:=model prog w);have L1:=looks_findIn (M:=model prog w) X T.ga;have L2:=looks_findIn (M:=model prog w) X T.gt;have f3:=F.excAttr_ValueError.ga.bind (.ref x);have hx0:(false&&onTheHeap (Value.builtin "BaseException.__getattribute__"))=false:=rfl;have hx2:(Value.builtin "BaseException.__getattribute__"==Value.builtin "object.__getattribute__")=false:=by decide +kernel
  have hx1:(onTheHeap (Value.ref C)&&Value.builtin "BaseException.__getattribute__"==Value.builtin "object.__getattribute__")=false:=by rw[hx2];rfl
  unfold getAttr? getAttrBy?;refine zB (wpAny_mkText (zB (wpAny_attempt ?_)))
  repeat (any_goals (first|assumption|with_reducible refine L0.at ?_|with_reducible refine L1.at ?_|with_reducible refine L2.at ?_|wp_step))
  refine Mq T X I ?_
  repeat (any_goals (first|assumption|wp_step))
theorem Jq (T:ExcK K C):KitX K (.ref x) (.ref C) (Ex1 x C) where
  ty:=λ_ _ _ I=>I.type
  it:=λ_ _ X _=>by
    obtain⟨cdD,hcD⟩:=Option.isSome_iff_exists.mp T.cd;unfold clsIn at hcD;split at hcD
    . rename_i c' d' cd' sl' ho;intro A' Q' E' s' k q;unfold isType loadHead;exact zB (wpAny_loadPart (k _ _ (X _ _ ho)) (zP q))
    . cases hcD
  ne:=λh tp dd its n sl X htp=>by
    obtain⟨cdD,hcD⟩:=Option.isSome_iff_exists.mp T.cd;refine Bool.eq_false_iff.mpr λq=>?_;have e:C=tp:=Value.ref.inj (beq_iff_eq.mp q);subst e;unfold clsIn at hcD;split at hcD
    . rename_i c' d' cd' sl' ho;have z:=(X _ _ ho).symm.trans htp;cases z
    . cases hcD
  ca:=λX I k=>OJ T X I k
end
end L2
namespace L2
open PySem PySem.Spec PyProof.Rows PySem.W
def ExIn (B:Heap) (l:List Env) (ea:Addr) (cls a0:Value) (h:Heap):Prop :=
  Heap.FlyingW B l ea cls a0 h \/ (B.StaysIn h /\ B.get? ea=none /\ h.FunFrames B l /\
    h.get? ea=some { cls:=cls,data:=.fields #[a0,.none,.none,.none,.bool false,.none] })
theorem ExIn.stays {B:Heap}{l:List Env}{ea:Addr}{cls a0:Value}{h:Heap}(x:ExIn B l ea cls a0 h):B.StaysIn h:=x.elim (λz=>z.1) λz=>z.1
theorem ExIn.notIn {B:Heap}{l:List Env}{ea:Addr}{cls a0:Value}{h:Heap}(x:ExIn B l ea cls a0 h):B.get? ea=none:=x.elim (λz=>z.2.1) λz=>z.2.1
section
variable {M : Model} {A : Around} {E : Value -> Shared -> Prop} {s : Shared} {B : Heap} {env : Env} {outer : List Env} {L ea : Addr} {cls a0 : Value} {Q : Unit -> Shared -> Prop}
theorem Jr (hfr:A.frames=some (env::outer)) (hf:env.frame=some L) (hx:ExIn B (env::outer) ea cls a0 s.heap)
    (q:∀ h',ExIn B outer ea cls a0 h'->s.heap.UpToSlots h'->Q () { s with heap:=h' }):wpAny M A (leaving env (.ref ea)) Q E s:=by
  rcases hx with hx|⟨x1,x2,x3,x4⟩
  . exact wpAny_leaves_onW hfr hf hx λh' y1 y2=>q h' (.inl y1) y2
  . refine wpAny_leaving_firstW (a0:=a0) hfr x3 hf x4 x1 x2 rfl rfl rfl λh' y=>?_;obtain⟨k1,⟨_,_,k2⟩,k3,k4⟩:=y;exact q h' (.inl ⟨k1,x2,k2,k3⟩) k4
theorem Mr (hfr:A.frames=some (env::outer)) (hf:env.frame=some L) (hx:ExIn B (env::outer) ea cls a0 s.heap)
    (q:∀ h',Heap.HeldW B (env::outer) ea cls a0 L h'->s.heap.UpToSlots h'->Q () { s with heap:=h' }):wpAny M A (noteFrame (.ref ea) env) Q E s:=by
  rcases hx with hx|⟨x1,x2,x3,x4⟩
  . exact wpAny_looks_onW hfr hf hx q
  . unfold noteFrame;simp only[hf];have h1:(#[a0,.none,.none,.none,.bool false,.none]:Array Value)[1]?=some Value.none:=rfl;refine zB (wpAny_field x4 rfl h1 ?_);rw[if_neg (show ¬ ((Value.none != Value.none)=true) by decide)];refine wpAny_entryW hfr x3 hf x4 x1 x2 rfl (by show 1<6;decide) (by rfl) λh' y=>?_;obtain⟨k1,k2,k3,k4⟩:=y;exact q h' ⟨k1,x2,k2,k3⟩ k4
end
def CXr (P:Program) (w:World):CXT:=λouter H s E e s'=>∃ (ea C:Addr) (a0:Value) (B:Heap) (H':Hp),
  e=.ref ea /\ s'.os=s.os /\ AllBare s'.gens /\ Un (frs outer) [] H H' s.heap s'.heap /\ HOk P w H' s'.heap /\ ExIn B outer ea (.ref C) a0 s'.heap /\
  (∀ b u o,H' b=some u->s'.heap.get? b=some o->B.get? b=some o) /\ (∀ b o,s.heap.get? b=some o->b∉frs outer->∃ o',B.get? b=some o') /\ E (.ref C) none H'
def XE (X:Cx) (E:XK) (e:Value) (s':Shared):Prop:=∃ (σ':St) (H':Hp) (ea C:Addr) (a0:Value) (B:Heap),
  e=.ref ea /\ Inv X [] σ' H' s' /\ ExIn B X.stack ea (.ref C) a0 s'.heap /\ (∀ b u o,H' b=some u->s'.heap.get? b=some o->B.get? b=some o) /\
  (∀ p∈X.pn,B.get? p.1=some p.2) /\ (∀ b o,X.s₀.heap.get? b=some o->b∉X.fs->b∉X.ex->∃ o',B.get? b=some o') /\ E (.ref C) none H'
def Lands (X:Cx) (E:XK):Prop:=∀ e s',XE X E e s'->X.xe e s'
section
variable {X : Cx}
theorem C9 {σ:St}{H':Hp}{s':Shared}{pins:List (Addr×Obj)}{B h:Heap}(I:Inv X pins σ H' s') (u:s'.heap.UpToSlots h) (st:B.StaysIn s'.heap) (sh:B.StaysIn h)
    (old:∀ b o,X.s₀.heap.get? b=some o->b∉X.fs->b∉X.ex->∃ o',B.get? b=some o'):Un X.fs X.ex X.H₀ H' X.s₀.heap h where
  keep:=λb o e n hb hx=>by
    obtain⟨o',q⟩:=old b o e hb hx;have q1:=I.base.keep b o e n hb hx;have q2:=st b o' q;rw[q1]at q2;cases q2;exact sh b _ q
  slot:=λb o e n hb hx=>by
    obtain⟨sl,q1⟩:=I.base.slot b o e n hb hx;obtain⟨_,ofr,q2,d⟩:=I.ok.funs.mem hb;rw[e]at q2;cases q2;obtain⟨sl',q3⟩:=u b _ q1 d;exact⟨sl',q3⟩
  free:=I.base.free
  there:=λb o e hx=>by
    by_cases hb:b∈X.fs
    . obtain⟨sl,q1⟩:=I.base.slot b o e (I.ok.frf b hb) hb hx;obtain⟨_,ofr,q2,d⟩:=I.ok.funs.mem hb;rw[e]at q2;cases q2;obtain⟨sl',q3⟩:=u b _ q1 d;exact⟨_,q3⟩
    . obtain⟨o',q⟩:=old b o e hb hx;exact⟨o',sh b o' q⟩
  tups:=I.base.tups
  frzs:=I.base.frzs
  tbls:=I.base.tbls
theorem DP {P:Program}{w:World}{H':Hp}{h h' B:Heap}(k:HOk P w H' h) (sh:B.StaysIn h') (tr:∀ b u o,H' b=some u->h.get? b=some o->B.get? b=some o):HOk P w H' h':=λa o e =>
  (k a o e).stay (λb u hb q=>sh b u (hb.elim (λz=>tr b o u (z▸e) q) λz=>tr b _ u z q)) (λ_ q=>q) λ_ _ q=>q
theorem DQ {σ:St}{H':Hp}{s':Shared}{B h:Heap}(I:Inv X [] σ H' s') (u:s'.heap.UpToSlots h) (st:B.StaysIn s'.heap) (sh:B.StaysIn h)
    (tr:∀ b u o,H' b=some u->s'.heap.get? b=some o->B.get? b=some o) (pn:∀ p∈X.pn,B.get? p.1=some p.2)
    (old:∀ b o,X.s₀.heap.get? b=some o->b∉X.fs->b∉X.ex->∃ o',B.get? b=some o'):Inv X [] σ H' { s' with heap:=h }:=by
  have cellK:∀ c v,s'.heap.IsCell c v->h.IsCell c v:=λc v ⟨o,e,d⟩=>by
    obtain⟨sl,q⟩:=u c o e (λvs z=>by rw[d]at z;cases z);exact⟨_,q,d⟩
  refine⟨I.ok,I.os,I.bare,C9 I u st sh old,?_,λx c e=>?_,I.free,I.freeC,λp hp=>?_,DP I.hok sh tr,I.len⟩
  . obtain⟨m,hn,hl⟩:=I.loc;refine⟨m,u.ns hn,λi x v e1 e2 e3=>?_⟩;obtain⟨w',r,l⟩:=hl i x v e1 e2 e3;refine⟨w',r,?_⟩;rcases l with l|⟨k,c,e,z⟩
    . exact .inl l
    . exact .inr ⟨k,c,e,cellK c _ z⟩
  . obtain⟨v,z⟩:=I.cell x c e;exact⟨v,cellK c v z⟩
  . obtain⟨e,n,r⟩:=I.pin p hp;rw[List.append_nil]at hp;exact⟨sh _ _ (pn p hp),n,r⟩
theorem Inv.unpin {pins:List (Addr×Obj)}{σ:St}{H:Hp}{s:Shared}(I:Inv X pins σ H s):Inv X [] σ H s:=I.pins_of λp hp=>absurd hp (by simp)
theorem Lands.passes {E:XK}(l:Lands X E):Passes (CXr X.prog X.w) X E:=by
  intro pins σ H s e s' I h;obtain⟨ea,C,a0,B,H',he,os,bare,un,hok,ex,tr,old,q⟩:=h;have I':Inv X pins σ H' s':=I.call' os un hok bare (λb z=>absurd z (by simp));have nfr:∀ b,b≠X.env.locals->b∉X.fs->b∉frs X.stack:=λb h1 h2 z=>by
    rcases List.mem_cons.mp (I.stkSub b z) with y|y
    . exact h1 y
    . exact h2 y
  refine l e s' ⟨σ,H',ea,C,a0,B,he,I'.unpin,ex,tr,λp hp=>?_,λb o e hb hx=>?_,q⟩
  . obtain⟨e1,n1,n2,n3,_⟩:=I.pin p (List.mem_append_left _ hp);obtain⟨o',q1⟩:=old p.1 p.2 e1 (nfr _ n2 n3);have q2:=un.keep p.1 p.2 e1 n1 (nfr _ n2 n3) (by simp);have q3:=ex.stays _ _ q1;rw[q2]at q3;cases q3;exact q1
  . obtain⟨o1,e1⟩:=I.base.there b o e hx;exact old b o1 e1 (nfr b (Nat.ne_of_lt (Nat.lt_of_lt_of_le (Heap.lt_size e) I.ok.above)) hb)
theorem BU {P:Program}{w:World}{K:PySem.W.Frag}{mg:Str->Option Value}{base:Heap}{N:List Str}{qual:Str}{scope:Scope}{f:Addr}{cd:Value}{A:Around}{outer:List Env}{s:Shared}{H:Hp}{E:XK} :
    Lands (cxOf (CXr P w) P w K mg base N qual scope f cd A outer s H E) E:=by
  intro e s' h;obtain⟨σ',H',ea,C,a0,B,he,I,ex,tr,pn,old,q⟩:=h;subst he;refine Jr I.ok.frames rfl ex λh' y1 y2=>?_;refine⟨ea,C,a0,B,H',rfl,I.os,I.bare,C9 I y2 ex.stays y1.stays old,DP I.hok y1.stays tr,y1,λb u o e1 e2=>?_,λb o e1 e2=>old b o e1 e2 (by intro z;exact absurd (show b∈([]:List Addr) from z) (by simp)),q⟩;have hs:=(I.hok b u e1).lt;obtain⟨o1,q1⟩:∃ o1,s'.heap.get? b=some o1:=by
    rcases(I.hok b u e1) with _;cases z:s'.heap.get? b with
    |some o1=>exact⟨o1,rfl⟩
    | none =>
      exfalso
      have k:=I.hok b u e1;cases u with
      |lst xs=>obtain⟨_,_,_,_,e⟩:=k;rw[z]at e;cases e
      |tup xs=>obtain⟨_,_,_,ob,e,_⟩:=k;rw[z]at e;cases e
      |dK kvs=>obtain⟨_,_,_,_,o,_,_,e,_⟩:=k;rw[z]at e;cases e
      |dT kvs=>obtain⟨_,_,_,_,o,_,_,e,_⟩:=k;rw[z]at e;cases e
      |set S n=>obtain⟨o,_,_,_,e,_⟩:=k;rw[z]at e;cases e
      |ins C dx fs=>obtain⟨_,_,_,e,_⟩:=k;rw[z]at e;cases e
      |own y=>obtain⟨_,e⟩:=k;rw[z]at e;cases e
      |xd fs=>obtain⟨_,⟨_,_,_,e,_⟩,_⟩:=k;rw[z]at e;cases e
      |rng lo hi=>obtain⟨_,_,_,e⟩:=k;rw[z]at e;cases e
      |frz ob u=>obtain⟨e,_⟩:=k;rw[z]at e;cases e
      |tbl ps=>have e:s'.heap.get? b=some _:=k;rw[z]at e;cases e
      |met f y=>have e:s'.heap.get? b=some _:=k;rw[z]at e;cases e
      |ext φ=>obtain⟨_,⟨_,e⟩,_⟩:=k;rw[z]at e;cases e
  have q2:=tr b u o1 e1 q1;have q3:=y1.stays b o1 q2;rw[e2]at q3;cases q3;exact q2
end
noncomputable abbrev vErr:List Value:=[.type "ValueError",.type "Exception",.type "BaseException",.type "object"]
theorem Ms {K:Frag}{h:Heap}{C:Addr}{bmB:List Value}{nid:String}(X:K.In h) (q:excIn K C bmB nid=true) :
    ∃ bm N nm qn bs hd sn sub ab col dd k0 k1 k2 k3 k5 mN,h.get? C=some (excClassObj nm qn C N bs bm hd sn sub ab col dd k0 k1 k2 k3 k5 nid) /\ h.Ns N mN /\ mN "__init__"=none /\ OwnTail h bmB bm:=by
  unfold excIn at q;split at q
  . rename_i dd cd sl ho;split at q
    . rename_i C1 bm k0 k1 k2 k3 nw k5 mr hs;simp only[zA,beq_iff_eq,Bool.not_eq_true']at q;obtain⟨⟨⟨⟨⟨rfl,rfl⟩,z1⟩,z2⟩,z3⟩,z4⟩:=q;obtain⟨nm,bs,mro,ns,qn,hd,sn,sub,ab,col,del⟩:=cd;dsimp only at mr z1 z3 z4;subst mr z1;have es:sl=#[k0,k1,k2,k3,some (.builtin nw),k5]:=by
        cases sl;exact congrArg Array.mk hs
      subst es;exact⟨bm,ns,nm,qn,bs,hd,sn,sub,ab,col,dd,k0,k1,k2,k3,k5,_,X _ _ ho,
        .of_isNs (isNs_of_in X z3),nsMap_none_of_in X z3 z4,tail_of_in X z2⟩
    . cases q
  . cases q
section
variable {X : Cx}
theorem Mt {E:XK}{pins:List (Addr×Obj)}{σ:St}{H:Hp}{s:Shared}{h':Heap}{ea C:Addr}{vs:List Value}(l:Lands X E) (I:Inv X pins σ H s) (m:Heap.MadeExcOf s.heap h' ea (.ref C) vs) (q:E (.ref C) none H) :
    X.xe (.ref ea) { s with heap:=h' }:=by
  obtain⟨t,e1,e2,e3⟩:=m.there;have I':Inv X pins σ H { s with heap:=h' }:=I.kept (t':=s.toks) m.keeps;have hin:∀ env∈X.stack,∀ b,env.frame=some b->b∈frs X.stack:=λenv he b hb=>List.mem_filterMap.mpr ⟨env,he,hb⟩;have fr:h'.FunFrames (hideAll s.heap (frs X.stack)) X.stack:=by
    have f0:=funFrames_hide I.stack hin;exact f0.of_keeps λb o e _=>⟨o,m.keeps b o e,rfl⟩
  have nh:∀ b o,s.heap.get? b=some o->b∉frs X.stack->(hideAll s.heap (frs X.stack)).get? b=some o:=λb o e hb=>hideAll_get _ e hb;refine l _ _ ⟨σ,H,ea,C,.ref t,hideAll s.heap (frs X.stack),rfl,I'.unpin,.inr ⟨λb o e=>m.keeps b o (of_hideAll _ e),?_,fr,e1⟩,λb u o eb eo=>?_,λp hp=>?_,λb o e hb hx=>?_,q⟩
  . cases z:(hideAll s.heap (frs X.stack)).get? ea with
    |none=>rfl
    |some o=>have:=of_hideAll _ z;rw[m.new]at this;cases this
  . have hb:b∉frs X.stack:=λz=>by rw[I.stkFree b z]at eb;cases eb
    cases z:s.heap.get? b with
    | some o1 =>
      have:=m.keeps b o1 z;rw[this]at eo;cases eo;exact nh b _ z hb
    |none=>exact absurd ((I.hok b u eb).lt) (by intro hl;exact absurd z (by
        intro z';have k:=I.hok b u eb;cases u with
        |lst xs=>obtain⟨_,_,_,_,e⟩:=k;rw[z]at e;cases e
        |tup xs=>obtain⟨_,_,_,ob,e,_⟩:=k;rw[z]at e;cases e
        |dK kvs=>obtain⟨_,_,_,_,o,_,_,e,_⟩:=k;rw[z]at e;cases e
        |dT kvs=>obtain⟨_,_,_,_,o,_,_,e,_⟩:=k;rw[z]at e;cases e
        |set S n=>obtain⟨o,_,_,_,e,_⟩:=k;rw[z]at e;cases e
        |ins C dx fs=>obtain⟨_,_,_,e,_⟩:=k;rw[z]at e;cases e
        |own y=>obtain⟨_,e⟩:=k;rw[z]at e;cases e
        |xd fs=>obtain⟨_,⟨_,_,_,e,_⟩,_⟩:=k;rw[z]at e;cases e
        |rng lo hi=>obtain⟨_,_,_,e⟩:=k;rw[z]at e;cases e
        |frz ob u=>obtain⟨e,_⟩:=k;rw[z]at e;cases e
        |tbl ps=>have e:s.heap.get? b=some _:=k;rw[z]at e;cases e
        |met f y=>have e:s.heap.get? b=some _:=k;rw[z]at e;cases e
        |ext φ=>obtain⟨_,⟨_,e⟩,_⟩:=k;rw[z]at e;cases e))
  . obtain⟨e1,n1,n2,n3,_⟩:=I.pin p (List.mem_append_left _ hp);exact nh _ _ e1 λz=>(List.mem_cons.mp (I.stkSub p.1 z)).elim n2 n3
  . obtain⟨o1,q1⟩:=I.base.there b o e hx;exact⟨o1,nh b o1 q1 λz=>(List.mem_cons.mp (I.stkSub b z)).elim (Nat.ne_of_lt (Nat.lt_of_lt_of_le (Heap.lt_size e) I.ok.above)) hb⟩
theorem Js {x:Str}{C:Addr}{e:Expr}{te:TE}{E:XK}{np cpos pos:Pos}(hc:X.calm=true) (l:Lands X E) (hg:Gl X x) (hm:X.mg x=some (.ref C)) (q:excIn X.K C vErr "ValueError.__new__"=true) (he:PE X e te)
    (hs:starEach [e] X.env=[(false,eval e X.env)]:=by rfl) (hd:(x==("__debug__":Str))=false:=by decide) :
    PS X (.Raise (some (.Call (.Name x np) [e] [] cpos)) none pos) (λ_ σ H=>te σ H λv H1=>[v].length=1 /\ E (.ref C) none H1):=by
  intro pins s σ H D I h;obtain⟨bm,N,nm,qn,bs,hdt,sn,sub,ab,col,dd,k0,k1,k2,k3,k5,mN,hC,hN,hni,T⟩:=Ms I.mod.kin q;refine wpAny_Raise_call_subT (C:=C) (nm:=nm) (q:=qn) (N:=N) (bs:=bs) (bm:=bm) (hdct:=hdt) (sn:=sn) (sub:=sub) (ab:=ab) (col:=col) (dd:=dd)
    (k0:=k0) (k1:=k1) (k2:=k2) (k3:=k3) (k5:=k5) PySem.F.excBase_ValueError (mN:=mN) (T.hasType PySem.F.excBase_ValueError.hasBase) (I.ok.hd hc) (by rw[hs];rfl) hni ?_
  refine thn (gi (v:=.ref C) (pos:=np) hg hm rfl hd pins s σ H (λv H1=>v=.ref C /\ H1=H) I ⟨rfl,rfl⟩) λf s1 ⟨v,H1,I1,r1,e1,e2⟩=>?_;subst e1;subst e2;refine⟨r1,?_⟩;rw[hs];refine Calls.evalArgs_plain ?_;have ha:PA X [e] (tCons te tNil):=fm he fS (by rw[hs];rfl);have hA:=ha cpos pins s1 σ H1 (λvs H2=>vs.length=1 /\ E (.ref C) none H2) I1 h;rw[hs]at hA;refine thn hA λus s2 ⟨vs,H2,I2,r2,e3,q2⟩=>?_;refine⟨rfl,?_,I2.bk _ _ hC,hN.keeps I2.bk,T.keeps I2.bk,λh' ea m=>Mt l I2 m q2⟩;rw[<-r2.length,e3];decide
end
theorem Gg {K:Frag}{M:Model}{A:Around}{E:Value->Shared->Prop}{s:Shared}{ea C R:Addr}{Q:Bool->Shared->Prop}(X:K.In s.heap) (I:Ex1 ea C s.heap)
    (hk:kitCls K (.ref C) (.ref R)=some true) (hb:mroIn K R (.type "BaseException")=some true) (q:Q true s):wpAny M A (excMatches (.ref ea) (.ref R)) Q E s:=by
  obtain⟨h,g,d,t,os⟩:=s;obtain⟨l1,l2,l3⟩:=kit_cls (M:=M) X hk;have l4:=looks_mroIn (M:=M) X hb;have l5:=I.type (M:=M);have f:=tc_notTuple;unfold excMatches isInstance isExcClass
  repeat (any_goals (first|assumption|with_reducible refine l1.at ?_|with_reducible refine l2.at ?_|with_reducible refine l3.at ?_|with_reducible refine l4.at ?_|with_reducible refine l5.at ?_|wp_step))
section
variable {X : Cx}
noncomputable abbrev Cx.tri (X:Cx) (pn:List (Addr×Obj)) (E:XK):Cx:={ X with pn:=pn,xe:=XE { X with pn:=pn } E }
noncomputable abbrev Cx.hand (X:Cx) (pn:List (Addr×Obj)) (ea:Addr):Cx:={ X with pn:=pn,A:=X.A.mark (some (.ref ea)),calm:=false,xe:=λ_ _=>False }
theorem Inv.turn {X Y:Cx}{pins pins':List (Addr×Obj)}{σ:St}{H:Hp}{s:Shared}(I:Inv X pins σ H s) (hp:∀ p∈Y.pn++pins',p∈X.pn++pins) (hf:Y.A.frames=some Y.stack) (hd:Y.calm=true->Y.A.handled=none)
    (h1:Y.prog=X.prog:=by rfl) (h2:Y.w=X.w:=by rfl) (h3:Y.K=X.K:=by rfl) (h4:Y.mg=X.mg:=by rfl) (h5:Y.base=X.base:=by rfl) (h6:Y.N=X.N:=by rfl) (h7:Y.s₀=X.s₀:=by rfl) (h8:Y.H₀=X.H₀:=by rfl) (h9:Y.env=X.env:=by rfl)
    (ha:Y.outer=X.outer:=by rfl) (hb:Y.stack=X.stack:=by rfl) (hc:Y.ex=X.ex:=by rfl) (he:Y.fn=X.fn:=by rfl):Inv Y pins' σ H s:=by
  obtain⟨yp,yw,yK,ymg,ybase,yA,yN,ys0,yH0,yenv,yout,yst,yex,yfn,ycalm,ypn,yxe⟩:=Y;dsimp only at h1 h2 h3 h4 h5 h6 h7 h8 h9 ha hb hc he hp hf hd;subst h1 h2 h3 h4 h5 h6 h7 h8 h9 ha hb hc he;exact⟨⟨I.ok.mod,I.ok.kind,I.ok.glob,I.ok.blt,I.ok.above,I.ok.inj,I.ok.has,I.ok.cab,hd,hf,I.ok.stk,I.ok.exf,I.ok.bs,I.ok.bsz,I.ok.noex,I.ok.exfs,I.ok.funs,I.ok.frf⟩,
    I.os,I.bare,I.base,I.loc,I.cell,I.free,I.freeC,λp q=>I.pin p (hp p q),I.hok,I.len⟩
theorem AM {pn:List (Addr×Obj)}{E:XK}:Lands (X.tri pn E) E:=by
  intro e s' h;obtain⟨σ',H',ea,C,a0,B,he,I,ex,tr,hp,old,q⟩:=h;exact⟨σ',H',ea,C,a0,B,he,I.turn (λp z=>z) I.ok.frames I.ok.hd,ex,tr,hp,old,q⟩
theorem SP.turn {X Y:Cx}{pins pins':List (Addr×Obj)}{D:Ends}{f:Flow}{s':Shared}(k:∀ σ H,Inv X pins σ H s'->Inv Y pins' σ H s') (h:SP X pins D f s'):SP Y pins' D f s':=by
  cases f with
  |next=>obtain⟨σ',H',I,q⟩:=h;exact⟨σ',H',k _ _ I,q⟩
  |brk=>obtain⟨σ',H',I,q⟩:=h;exact⟨σ',H',k _ _ I,q⟩
  |cont=>obtain⟨σ',H',I,q⟩:=h;exact⟨σ',H',k _ _ I,q⟩
  |ret u=>obtain⟨v,σ',H',I,r,q⟩:=h;exact⟨v,σ',H',k _ _ I,r,q⟩
theorem Inv.watch {pins:List (Addr×Obj)}{σ:St}{H:Hp}{s:Shared}{a:Addr}{φ:Heap->Prop}(I:Inv X pins σ H s) (hn:H a=none) (hL:a≠X.env.locals) (hC:∀ x c,X.env.cells.lookup x=some c->c≠a)
    (hp:∀ p∈X.pn++pins,p.1≠a) (ho:∀ b o,X.s₀.heap.get? b=some o->b∉X.ex->b≠a) (new:ObjOk X.prog X.w (upd H a (.ext φ)) s.heap a (.ext φ)):Inv X pins σ (upd H a (.ext φ)) s:=by
  have ne:∀ b u,H b=some u->b≠a:=λb u e z=>by rw[z,hn]at e;cases e
  refine⟨I.ok,I.os,I.bare,⟨I.base.keep,I.base.slot,λb o e n hx=>?_,I.base.there,λb xs e=>?_,λb o u e=>?_,λb ps e=>?_⟩,I.loc,I.cell,?_,λx c e=>?_,λp q=>?_,λb o e=>?_,I.len⟩
  . rw[fq (ho b o e hx)];exact I.base.free b o e n hx
  . have z:=I.base.tups b xs e;rw[fq (ne b _ z)];exact z
  . have z:=I.base.frzs b o u e;rw[fq (ne b _ z)];exact z
  . obtain⟨more,z⟩:=I.base.tbls b ps e;exact⟨more,by rw[fq (ne b _ z)];exact z⟩
  . rw[fq hL.symm];exact I.free
  . rw[fq (hC x c e)];exact I.freeC x c e
  . obtain⟨q1,q2,q3⟩:=I.pin p q;exact⟨q1,by rw[fq (hp p q)];exact q2,q3⟩
  . by_cases hb:b=a
    . subst hb;rw[fC]at e;cases e;exact new
    . rw[fq hb]at e;exact(I.hok b o e).stay (λ_ _ _ z=>z) (λc z=>by rw[fq (ne c _ z)];exact z) λc xs z=>by rw[fq (ne c _ z)];exact z
theorem Inv.gone {pins:List (Addr×Obj)}{σ:St}{H:Hp}{s:Shared}{i:Nat}{n:Str}{h':Heap}{t':Nat}{m:Str->Option Value}{v:Option Value}(I:Inv X pins σ H s) (hN:X.N.Nodup) (hi:X.N[i]?=some n)
    (hm:∀ (j:Nat) (x:Str) (v:V),X.N[j]?=some x->σ[j]?=some (some v)->Vis X.env.scope x->∃ u,RelV v u /\ Look X.env s.heap m x u)
    (hn:h'.Ns X.env.locals (λx=>if x=n then v else m x)) (sb:Heap.SameBut X.env.locals s.heap h'):Inv X pins (σ.set i none) H { s with heap:=h',toks:=t' }:=by
  have kp:∀ b o,b≠X.env.locals->s.heap.get? b=some o->h'.get? b=some o:=λb o hb e=>sb.extBut b o hb e;have old:∀ b o,X.s₀.heap.get? b=some o->b≠X.env.locals:=λb o e=>Nat.ne_of_lt (Nat.lt_of_lt_of_le (Heap.lt_size e) I.ok.above);refine⟨I.ok,I.os,I.bare,⟨λb o e n hb hx=>kp b o (old b o e) (I.base.keep b o e n hb hx),λb o e n hb hx=>?_,I.base.free,λb o e hx=>?_,I.base.tups,I.base.frzs,I.base.tbls⟩,⟨_,hn,λj x w e1 e2 e3=>?_⟩,λx c e=>?_,I.free,I.freeC,λp q=>?_,λb o e=>?_,by rw[List.length_set];exact I.len⟩
  . obtain⟨sl,q⟩:=I.base.slot b o e n hb hx;exact⟨sl,kp b _ (old b o e) q⟩
  . obtain⟨o',q⟩:=I.base.there b o e hx;exact⟨o',kp b _ (old b o e) q⟩
  . by_cases hj:j=i
    . subst hj;by_cases hl:j<σ.length
      . rw[List.getElem?_set_self hl]at e2;cases e2
      . rw[List.getElem?_eq_none (by rw[List.length_set];omega)]at e2;cases e2
    . rw[List.getElem?_set_ne (Ne.symm hj)]at e2;obtain⟨u,r,l⟩:=hm j x w e1 e2 e3;refine⟨u,r,?_⟩;rcases l with⟨k,e⟩|⟨k,c,e,z⟩
      . refine .inl ⟨k,?_⟩;have:x≠n:=λq=>hj (oH hN e1 (q▸hi));show (if x=n then v else m x)=some u;rw[if_neg this];exact e
      . obtain⟨o,eo,d⟩:=z;exact .inr ⟨k,c,e,o,kp c o (I.cne x c e) eo,d⟩
  . obtain⟨w,o,eo,d⟩:=I.cell x c e;exact⟨w,o,kp c o (I.cne x c e) eo,d⟩
  . obtain⟨q1,q2,q3,q4⟩:=I.pin p q;exact⟨kp _ _ q3 q1,q2,q3,q4⟩
  . refine(I.hok b o e).stay (λc w hc q=>kp c w (λz=>?_) q) (λ_ q=>q) λ_ _ q=>q;rcases hc with z1|z1
    . rw[<-z1,z,I.free]at e;cases e
    . rw[z,I.free]at z1;cases z1
noncomputable def goneD (i:Nat) (D:Ends):Ends:={ nx:=λσ H=>D.nx (σ.set i none) H,rt:=D.rt,bk:=λσ H=>D.bk (σ.set i none) H,ct:=λσ H=>D.ct (σ.set i none) H }
def tTry (K:Frag) (len:Nat) (Ra:Addr) (i:Nat) (E:XK) (tb ts:TS):TS:=λD σ H=>tb D σ H /\ ∀ (σ':St) (ea C:Addr) (H':Hp),σ'.length=len->E (.ref C) none H'->H' ea=none ->
  kitCls K (.ref C) (.ref Ra)=some true /\ ts (goneD i D) (σ'.set i (some (.ref ea))) (upd H' ea (.ext (Ex1 ea C)))
theorem OK {body suite:List Stmt}{b₀:Stmt}{R n:Str}{Ra L:Addr}{i:Nat}{E:XK}{tb ts:TS}{rp hpos pos:Pos}(hst:X.stack=X.env::X.outer) (hfr:X.env.frame=some L) (hfl:L=X.env.locals)
    (hg:Gl X R) (hm:X.mg R=some (.ref Ra)) (hRb:mroIn X.K Ra (.type "BaseException")=some true) (hN:X.N.Nodup) (hi:X.N[i]?=some n) (hn:X.env.kindOf n=some .local)
    (hb:∀ pn,PSs (X.tri pn E) body tb) (hsu:∀ pn ea,PSs (X.hand pn ea) (b₀::suite) ts) (hd:(R==("__debug__":Str))=false:=by decide) :
    PS X (.Try body [.ExceptHandler (some (.Name R rp)) (some n) (b₀::suite) hpos] [] [] pos) (tTry X.K X.N.length Ra i E tb ts):=by
  intro pins s σ H D I ⟨h1,h2⟩;have I0:Inv (X.tri (X.pn++pins) E) [] σ H s:=I.turn (λp z=>by simpa using z) I.ok.frames I.ok.hd;have back:∀ {Y:Cx}(s':Shared) (σ':St) (H':Hp),Y=X.tri (X.pn++pins) E->Inv Y [] σ' H' s'->Inv X pins σ' H' s':=λ{Y} s' σ' H' e J=>by
    subst e;exact J.turn (λp z=>by simpa using z) I.ok.frames I.ok.hd
  refine wpAny_Try_except (wpAny_mono (hb _ [] s σ H D I0 h1) (λf s1 q=>?_) λe s1 q=>?_)
  . have q':SP X pins D f s1:=q.turn λσ' H' J=>back s1 σ' H' rfl J;cases f with
    |next=>exact wpAny_execs_nil q'
    |brk=>exact q'
    |cont=>exact q'
    |ret u=>exact q'
  . obtain⟨σ1,H1,ea,C,a0,B,he,I1,ex,tr,hpn,old,hE⟩:=q;subst he;have ex':ExIn B (X.env::X.outer) ea (.ref C) a0 s1.heap:=by rw[<-hst];exact ex
    have hfr1:X.A.frames=some (X.env::X.outer):=by rw[<-hst];exact I.ok.frames
    have nofail:∀ {α:Type}{t:Sem α}{A1:Around}{Q1:α->Shared->Prop}{E1:Value->Shared->Prop}{ss:Shared},wpAny (model X.prog X.w) A1 t Q1 (λ_ _=>False) ss->wpAny (model X.prog X.w) A1 t Q1 E1 ss:=λhw=>wpAny_mono hw (λ_ _ q=>q) λ_ _ z=>False.elim z;refine Mr hfr1 hfr ex' λh4 hh u4=>?_;refine wpAny_landsW hh λh5 fl5 u5=>?_;have I5:Inv { X with pn:=X.pn++pins } [] σ1 H1 { s1 with heap:=h5 }:=DQ I1 (u4.trans u5) ex.stays fl5.1 tr hpn old;have I5h:Inv (X.hand (X.pn++pins) ea) [] σ1 H1 { s1 with heap:=h5 }:=I5.turn (λp z=>z) I.ok.frames (λz=>nomatch z);have hea:H1 ea=none:=by
      cases z:H1 ea with
      |none=>rfl
      | some u =>
        obtain⟨o,eo,_⟩:=ex.elim (λy=>y.there) (λy=>⟨_,y.2.2.2,rfl⟩);have:=tr ea u o z eo;rw[ex.notIn]at this;cases this
    obtain⟨hk,hts⟩:=h2 σ1 ea C H1 I1.len hE hea;refine wpAny_handleBy_cons (codeAny_handlers_test (nofail ?_)) (by intro z;cases z);refine om (X:=X.hand (X.pn++pins) ea) I5h hg hm ?_ hd;obtain⟨o5,eo5,ho5⟩:=fl5.there;refine Gg I5h.kIn ⟨o5,eo5,ho5⟩ hk hRb ?_;refine codeAny_handlers_suite_as (lands_againW fl5 λh6 fl6 u6=>?_);have u:s1.heap.UpToSlots h6:=(u4.trans u5).trans u6;have I6:Inv { X with pn:=X.pn++pins } [] σ1 H1 { s1 with heap:=h6 }:=DQ I1 u ex.stays fl6.1 tr hpn old;have I6h:Inv (X.hand (X.pn++pins) ea) [] σ1 H1 { s1 with heap:=h6 }:=I6.turn (λp z=>z) I.ok.frames (λz=>nomatch z);obtain⟨oe,vs,eoe,hoc,hod,_⟩:=fl6.first;have I7:Inv (X.hand (X.pn++pins) ea) [] σ1 (upd H1 ea (.ext (Ex1 ea C))) { s1 with heap:=h6 }:=by
      refine I6h.watch hea (λz=>?_) (λx c e z=>?_) (λp q z=>?_) (λb o e hx z=>?_) ⟨⟨oe,eoe,hoc⟩,⟨oe,eoe⟩,λg1 g2 ⟨o,e1,e2⟩ k=>⟨o,k o e1,e2⟩⟩
      . obtain⟨m,⟨o,es,ep,e1,e2,_⟩,_⟩:=I6h.loc;have e1':h6.get? ea=some o:=by rw[z];exact e1
        rw[eoe]at e1';cases e1';rw[hod]at e2;cases e2
      . obtain⟨v,o,e1,e2⟩:=I6h.cell x c e;have e1':h6.get? ea=some o:=by rw[<-z];exact e1
        rw[eoe]at e1';cases e1';rw[hod]at e2;cases e2
      . have q':p∈X.pn++pins:=by simpa using q
        have:=hpn p q';rw[z,ex.notIn]at this;cases this
      . subst z;by_cases hf:b∈X.fs
        . obtain⟨sl,q1⟩:=(C9 I1 u ex.stays fl6.1 old).slot b o e (I.ok.frf b hf) hf hx;obtain⟨_,o2,q2,d⟩:=I.ok.funs.mem hf;rw[e]at q2;cases q2;rw[eoe]at q1;have q3:oe.data=o.data:=by cases q1;rfl
          exact d vs (by rw[<-q3];exact hod)
        . obtain⟨o',q1⟩:=old b o e hf hx;rw[ex.notIn]at q1;cases q1
    refine nofail (jK (X:=X.hand (X.pn++pins) ea) I7 hN hi (.inl hn) (v:=.ref ea) (u:=.ref ea) rfl (λs8 I8=>?_) (.inr hn));refine nofail (thn (hsu _ ea [] s8 _ _ (goneD i D) I8 hts) λf s9 q9=>?_);have hcl:(X.env.scope.kind==.class||(X.env.scope.kind==.module&&X.env.locals != X.env.globals))=false:=by rw[I.ok.kind];rfl
    have fin:∀ (σ9:St) (H9:Hp) (Z:Flow->Shared->Prop),Inv (X.hand (X.pn++pins) ea) [] σ9 H9 s9->(∀ sA,Inv X pins (σ9.set i none) H9 sA->Z f sA) ->
        wpAny (model X.prog X.w) X.A (do bindName X.env n .none;unbindBehindTheSuite X.env n hpos) (λ_ sA=>Z f sA) X.xe s9:=λσ9 H9 Z I9 k=>by
      have I9':Inv X pins σ9 H9 s9:=I9.turn (λp z=>by simpa using z) I.ok.frames I.ok.hd;obtain⟨m,hm9,hl9⟩:=I9'.loc;exact wpAny_nameGoes_keeps hn hm9 hcl λh' v hn' sb=>k _ (I9'.gone hN hi hl9 hn' sb)
    show wpAny (model X.prog X.w) X.A (do bindName X.env n .none;unbindBehindTheSuite X.env n hpos) (λ_ sA=>SP X pins D f sA) X.xe s9;cases f with
    |next=>obtain⟨σ9,H9,I9,q⟩:=q9;exact fin σ9 H9 (SP X pins D) I9 λsA IA=>⟨_,_,IA,q⟩
    |brk=>obtain⟨σ9,H9,I9,q⟩:=q9;exact fin σ9 H9 (SP X pins D) I9 λsA IA=>⟨_,_,IA,q⟩
    |cont=>obtain⟨σ9,H9,I9,q⟩:=q9;exact fin σ9 H9 (SP X pins D) I9 λsA IA=>⟨_,_,IA,q⟩
    |ret u=>obtain⟨v,σ9,H9,I9,r,q⟩:=q9;exact fin σ9 H9 (SP X pins D) I9 λsA IA=>⟨v,_,_,IA,r,q⟩
end
structure RoomH (k:Nat) (A:Around):Prop where
  dp:A.depth+3*k+5<recursionLimit
  un:A.units+16*k+200<cLine
theorem Room.h {k:Nat}{A:Around}(r:Room k A):RoomH k A:=⟨r.dp,r.un⟩
theorem RoomH.mark {k:Nat}{A:Around}{e:Option Value}(r:RoomH k A):RoomH k (A.mark e):=⟨r.dp,r.un⟩
theorem RoomH.deeper {k:Nat}{A:Around}(r:RoomH (k+1) A) (env:Env):RoomH k (A.deeper env):=
  ⟨by have:=r.dp;show A.depth+1+3*k+5<_;omega,by have:=r.un;show A.units+3+16*k+200<_;omega⟩
theorem RoomH.depth {k:Nat}{A:Around}(r:RoomH k A):A.depth<recursionLimit:=by have:=r.dp;omega
structure FnOkH (P:Program) (w:World) (K:PySem.W.Frag) (mg:Str->Option Value) (base:Heap) (CX:CXT) (k:Nat) (f:Addr) (fd:FuncData) (ps:List Str) (sp:Sp):Prop where
  len:∀ vs H Q E,sp vs H Q E->vs.length=ps.length
  run:∀ (A:Around) (outer:List Env) (s:Shared) (H:Hp) (args:Args) (us:List Value) (vs:List V) (Q:VK) (E:XK),RoomH k A->Env0 P w K mg base A outer s H->BindsTo s fd args (ps.zip us)->Vals vs us->sp vs H Q E ->
    codeAny (model P w) A (.call (.ref f) args) (CR CX outer P w H s Q E) s
noncomputable abbrev cxH (CX:CXT) (P:Program) (w:World) (K:PySem.W.Frag) (mg:Str->Option Value) (base:Heap) (N:List Str) (qual:Str) (scope:Scope) (f:Addr) (cd:Value) (A:Around) (outer:List Env) (s:Shared) (H:Hp) (E:XK):Cx :=
  { cxOf CX P w K mg base N qual scope f cd A outer s H E with calm:=false }
theorem OL {CX:CXT}{P:Program}{w:World}{K:PySem.W.Frag}{mg:Str->Option Value}{base:Heap}{k:Nat}{f:Addr}{name qual:Str}{params:Arguments}{body:List Stmt}{scope:Scope}{dV kV doc pm cdv ct oc:Value}{an od:Option Addr}
    {osl:Array (Option Value)}{N ps:List Str}{sp:Sp}(lk:K.lookup f=some ⟨oc,od,.func (PySem.W.fnOf name qual params body scope dV kV doc pm an cdv ct),osl⟩) (hcd:PySem.W.codeIn K cdv qual=true) (S:FnScope N ps scope)
    (len:∀ vs H Q E,sp vs H Q E->vs.length=ps.length)
    (hbody:∀ (A:Around) (outer:List Env) (s:Shared) (H:Hp) (vs:List V) (Q:VK) (E:XK),RoomH k (A.deeper (envOfC qual scope s.heap.objs.size f cdv))->sp vs H Q E ->
      ∃ t,PSs (cxH CX P w K mg base N qual scope f cdv A outer s H E) body t /\ t { nx:=λ_ H'=>Q .non H',rt:=Q } (start N vs) H) :
    FnOkH P w K mg base CX (k+1) f (PySem.W.fnOf name qual params body scope dV kV doc pm an cdv ct) ps sp:=by
  refine⟨len,λA outer s H args us vs Q E hr e0 hb r hsp=>?_⟩;have hl:=len _ _ _ _ hsp;have KX:K.In s.heap:=e0.mod.kin.keeps λb o e=>(e0.bs b o e).1;have lim:s.heap.NoLimit:=e0.mod.nolimit.keeps λb o e=>(e0.bs b o e).1;have hkind:∀ y∈ps.zip us,scope.names.lookup y.1=some .local \/ (scope.names.lookup y.1=some .cell /\ ((cellsFrom (s.heap.objs.size+1) scope.names []).lookup y.1).isSome=true):=λ⟨n,v⟩ hy=>by
    rcases S.par n (List.of_mem_zip hy).1 with q|q
    . exact .inl q
    . exact .inr ⟨q,PySem.W.cellsFrom_some _ _ _ (.inl q)⟩
  refine codeAny_call_function hr.depth (KX _ _ lk) rfl S.co S.gen rfl (PySem.W.codeRec_of KX hcd) (hb _ _ _ _ ?_);refine wpAny_newFunctionEnv_cells S.kind hkind λenv he s1 x=>?_;subst he;refine⟨lim.keeps x.toInCall.keep,codeAny_func ?_⟩;obtain⟨t,ht,hq⟩:=hbody A outer s H vs Q E (hr.deeper _) hsp;have e1:Env0 P w K mg base { A with handled:=none } outer s H:=⟨e0.frames,e0.mod,e0.bs,e0.bsz,e0.funs,e0.frf,e0.hok,e0.bare⟩;have I0:Inv (cxOf CX P w K mg base N qual scope f cdv { A with handled:=none } outer s H E) [] (start N vs) H s1:=AK S rfl e1 hl r x;have I:Inv (cxH CX P w K mg base N qual scope f cdv A outer s H E) [] (start N vs) H s1:=I0.turn (λp z=>z) (Around.frames_deeper e0.frames) (λz=>nomatch z);refine wpAny_mono (ht [] s1 (start N vs) H _ I hq) (λfl s' hs=>?_) λe s' hs=>hs;have fin:∀ {σ':St}{H':Hp}{v:V}{u:Value},Inv (cxH CX P w K mg base N qual scope f cdv A outer s H E) [] σ' H' s'->RelV v u->Q v H'->CE outer P w H s Q u s' :=
    λ{σ' H' v u} J rv q=>⟨v,H',J.os,J.bare,J.base,J.hok,rv,q⟩
  cases fl with
  | ret u =>
    obtain⟨v,σ',H',J,rv,q⟩:=hs;exact fin J rv q
  | next =>
    obtain⟨σ',H',J,q⟩:=hs;exact fin (v:=V.non) (u:=Value.none) J rfl q
  | brk =>
    obtain⟨_,_,_,q⟩:=hs;exact False.elim q
  | cont =>
    obtain⟨_,_,_,q⟩:=hs;exact False.elim q
theorem Fun.okH {P:Program}{w:World}{K:PySem.W.Frag}{mg:Str->Option Value}{base:Heap}{x qual:Str}{st:Stmt}{f:Addr}{fd:FuncData}{N ps:List Str}{k:Nat}{sp:Sp}(F:Fun K x qual st f fd) (S:FnScope N ps (fu st)) (len:∀ vs H Q E,sp vs H Q E->vs.length=ps.length)
    (hbody:∀ (cdv:Value) (A:Around) (outer:List Env) (s:Shared) (H:Hp) (vs:List V) (Q:VK) (E:XK),RoomH k (A.deeper (envOfC qual (fu st) s.heap.objs.size f cdv))->sp vs H Q E ->
      ∃ t,PSs (cxH CX0 P w K mg base N qual (fu st) f cdv A outer s H E).nox (gj st) t /\ t { nx:=λ_ H'=>Q .non H',rt:=Q } (start N vs) H):FnOkH P w K mg base CX0 (k+1) f fd ps sp:=by
  obtain⟨oc,od,kV,doc,pm,an,cdv,ct,osl,rfl,lk,hcd⟩:=F.ex;refine OL lk hcd S len λA outer s H vs Q E hr hsp=>?_;obtain⟨t,h,q⟩:=hbody cdv A outer s H vs Q E hr hsp;exact⟨t,h.nox,q⟩
theorem Fun.okX {P:Program}{w:World}{K:PySem.W.Frag}{mg:Str->Option Value}{base:Heap}{x qual:Str}{st:Stmt}{f:Addr}{fd:FuncData}{N ps:List Str}{k:Nat}{sp:Sp}(F:Fun K x qual st f fd) (S:FnScope N ps (fu st)) (len:∀ vs H Q E,sp vs H Q E->vs.length=ps.length)
    (hbody:∀ (cdv:Value) (A:Around) (outer:List Env) (s:Shared) (H:Hp) (vs:List V) (Q:VK) (E:XK),Room k (A.deeper (envOfC qual (fu st) s.heap.objs.size f cdv))->sp vs H Q E ->
      ∃ t,PSs (cxOf (CXr P w) P w K mg base N qual (fu st) f cdv A outer s H E) (gj st) t /\ t { nx:=λ_ H'=>Q .non H',rt:=Q } (start N vs) H):FnOk P w K mg base (CXr P w) (k+1) f fd ps sp:=by
  obtain⟨oc,od,kV,doc,pm,an,cdv,ct,osl,rfl,lk,hcd⟩:=F.ex;exact N0 lk hcd S len λA outer s H vs Q E hr hsp=>hbody cdv A outer s H vs Q E hr hsp
section
variable {X : Cx} {CX : CXT} {k : Nat} {f C : Addr} {fd : FuncData} {ps : List Str} {sp : Sp} {dvs : List V} {ds : List Value} {E : XK} {x m : Str} {p pos apos : Pos} {e o : Expr} {es : List Expr} {ta : TE} {t : TA}
theorem Jt (F:FnOkH X.prog X.w X.K X.mg X.base CX k f fd ps sp) (hr:RoomH k X.A) (hg:Gl X x) (hm:X.mg x=some (.ref f)) (hk:PySem.W.keepIn X.K (.ref f)=true) (hb:Binds X.K fd ps ds) (hd:Vals dvs ds) (hx:Passes CX X E)
    (ha:PA X (e::es) t) (hdb:(x==("__debug__":Str))=false:=by decide) (he:starEach (e::es) X.env=(false,eval e X.env)::starEach es X.env:=by rfl) (hpl:(backTo pos (starEach es X.env)).any (·.1)=false:=by rfl) :
    PE X (.Call (.Name x p) (e::es) [] pos) (tCall sp dvs E t):=by
  intro pins s σ H Q I h;refine wpAny_Call_Name_kw (om I hg hm ?_ hdb);refine PySem.W.callWith_K (h₀:=X.base) I.ok.mod.kin hk (thn (ha pos pins s σ H _ I h) λus s1 ⟨vs,H1,I1,r,q⟩=>⟨I1.kIn,?_⟩) he hpl;have r2:Vals (vs++dvs) (us++ds):=r.append hd;have hl:(us++ds).length=ps.length:=by rw[<-r2.length];exact F.len _ _ _ _ q
  refine wpAny_call (codeAny_mono (F.run X.A X.stack s1 H1 ⟨us,[]⟩ (us++ds) (vs++dvs) Q E hr I1.env0 (hb s1 us I1.kIn hl) r2 q) λr s' hq=>?_);cases r with
  |error e=>exact hx pins σ H1 s1 e s' I1 hq
  | ok fl =>
    cases fl with
    |ret u=>exact I1.after hq
    |next=>exact False.elim hq
    |brk=>exact False.elim hq
    |cont=>exact False.elim hq
inductive TyX (K:Frag) (H:Hp):V->Value->Prop where
  |of {x:V}{t:Value}(h:TyOf K H x t):TyX K H x t
  |exc {a C:Addr}(e:H a=some (.ext (Ex1 a C))) (T:ExcK K C):TyX K H (.ref a) (.ref C)
noncomputable def ClsV:V->Value->Prop
  |.ref a,c=>c=.ref a
  |.ty n,c=>c=.type n
  |_,_=>False
def rInst (K:Frag):List V->Hp->VK->Prop:=λvs H Q=>∃ x c t cv b,vs=[x,c] /\ TyX K H x t /\ ClsV c cv /\ kitOne K t cv=some b /\ Q (.bl b) H
theorem fT:CallR X (.builtin "isinstance") (rInst X.K):=by
  intro pins s σ H xs us Q I rv h;obtain⟨x,c,t,cv,b,rfl,ty,hc,e,q⟩:=h;cases rv with
  | cons r1 r2 =>
    cases r2 with
    | cons r3 r4 =>
      cases r4;rename_i u1 u2;have ec:u2=cv:=by
        cases c with
        |ref a=>exact(show u2=.ref a from r3).trans (show cv=.ref a from hc).symm
        |ty n=>exact(show u2=.type n from r3).trans (show cv=.type n from hc).symm
        |non=>exact hc.elim
        |bl _=>exact hc.elim
        |int _=>exact hc.elim
        |str _=>exact hc.elim
        |byt _=>exact hc.elim
        |flt _=>exact hc.elim
      subst ec;cases ty with
      |of ty=>exact Gb I r1 ty e λtk=>⟨.bl b,H,I.tok tk,rfl,q⟩
      | @exc a C ea T =>
        cases (show u1=Value.ref a from r1);obtain⟨p,_,_⟩:=(show ObjOk X.prog X.w H s.heap a (.ext (Ex1 a C)) from I.hok a _ ea);exact PySem.W.kia_one (Jq T) I.kIn p e (λz=>nomatch z) λtk=>⟨.bl b,H,I.tok tk,rfl,q⟩
end
section
variable {X : Cx}
def rCount:V->List V->Hp->VK->Prop:=λx vs H Q=>∃ l xs y,x=.ref l /\ vs=[y] /\ H l=some (.lst xs) /\ xs.all flatV=true /\ flatV y=true /\ Q (.int (xs.countP λz=>eqV z y:Nat)) H
theorem oV {A:Around}{s:Shared}{y:V}{u:Value}(ry:RelV y u) (fy:flatV y=true) (f:Value->Bool):∀ {xs:List V}{us:List Value},Vals xs us->xs.all flatV=true ->
    (∀ z w,z∈xs->w∈us->RelV z w->f w=eqV z y)->∀ w∈us,SeqAt.EqAt A s w u (f w)
  |_,_,.nil,_,_,_,h=>nomatch h
  | z::zs,w::ws,.cons r t,ha,hf,v,hv=>by
    rw[List.all_cons,zA]at ha;rcases List.mem_cons.mp hv with e|e
    . subst e;rw[hf z v List.mem_cons_self List.mem_cons_self r];exact Jk r ry ha.1 fy
    . exact oV ry fy f t ha.2 (λa b h1 h2=>hf a b (List.mem_cons_of_mem _ h1) (List.mem_cons_of_mem _ h2)) v e
noncomputable def eqW (y:V) (w:Value):Bool:=match w with
  |.none=>eqV .non y
  |.bool b=>eqV (.bl b) y
  |.int i _=>eqV (.int i) y
  |.str x _=>eqV (.str x) y
  |_=>false
theorem Bj {z y:V}{w:Value}(r:RelV z w) (f:flatV z=true):eqW y w=eqV z y:=by
  cases z with
  |non=>cases (show w=Value.none from r);rfl
  |bl b=>cases (show w=Value.bool b from r);rfl
  |int i=>obtain⟨t,rfl⟩:=(show ∃ t,w=Value.int i t from r);rfl
  |str x=>obtain⟨t,rfl⟩:=(show ∃ t,w=Value.str x t from r);rfl
  |byt b=>exact nomatch f
  |flt b=>exact nomatch f
  |ref a=>exact nomatch f
  |ty n=>exact nomatch f
theorem BV {y:V}:∀ {xs:List V}{us:List Value},Vals xs us->xs.all flatV=true->us.countP (eqW y)=xs.countP λz=>eqV z y
  |_,_,.nil,_=>rfl
  | z::zs,w::ws,.cons r t,ha=>by
    rw[List.all_cons,zA]at ha;rw[List.countP_cons,List.countP_cons,BV t ha.2,Bj r ha.1]
theorem OM {y:V}:∀ {xs:List V}{us:List Value}{j:Nat}(h:j<us.length),Vals xs us->xs.all flatV=true->∃ z,xs[j]?=some z /\ eqW y us[j]=eqV z y
  |_,_,_,h,.nil,_=>absurd h (by simp)
  | z::zs,w::ws,0,_,.cons r t,ha=>by
    rw[List.all_cons,zA]at ha;exact⟨z,rfl,Bj r ha.1⟩
  | z::zs,w::ws,j+1,h,.cons r t,ha=>by
    rw[List.all_cons,zA]at ha;obtain⟨v,e1,e2⟩:=OM (y:=y) (j:=j) (by simpa using h) t ha.2;exact⟨v,by simpa using e1,by simpa using e2⟩
theorem Ju:MtM X "list.count" rCount:=by
  intro pins s σ H x vs v us Q I rx rv h;obtain⟨l,xs,y,rfl,rfl,hH,ha,hy,q⟩:=h;cases rx;obtain⟨u,rfl,ru⟩:=rv.one;obtain⟨z,its,n,r,hl,e⟩:=I.lstM hH;refine call_meets F.slot_list_count ⟨_,e,rfl⟩ F.entry_list_count (F.args_list_count_2 _ _) (SeqAt.list_countAt l its.toArray n none #[] u (eqW y)) ⟨e,?_,?_⟩
  . intro w hw;refine oV ru hy (eqW y) r ha (λz w h1 h2 rz=>Bj rz (List.all_eq_true.mp ha z h1)) w (by simpa using hw)
  . refine⟨.int _,H,I.tok _,⟨_,rfl⟩,?_⟩;rw[show its.toArray.toList=its from rfl,BV r ha];exact q
def rIndex:V->List V->Hp->VK->Prop:=λx vs H Q=>∃ l xs y j,x=.ref l /\ vs=[y] /\ H l=some (.lst xs) /\ xs.all flatV=true /\ flatV y=true /\ j<xs.length /\
  (∀ z,xs[j]?=some z->eqV z y=true) /\ (∀ (m:Nat) z,m<j->xs[m]?=some z->eqV z y=false) /\ Q (.int (j:Nat)) H
theorem BW:MtM X "list.index" rIndex:=by
  intro pins s σ H x vs v us Q I rx rv h;obtain⟨l,xs,y,j,rfl,rfl,hH,ha,hy,hj,hit,hno,q⟩:=h;cases rx;obtain⟨u,rfl,ru⟩:=rv.one;obtain⟨z,its,n,r,hl,e⟩:=I.lstM hH;have hj':j<its.length:=by omega
  have small:(j:Int)<2 ^ 63-1:=by have:=line63;omega
  refine call_meets F.slot_list_index ⟨_,e,rfl⟩ F.entry_list_index (F.args_list_index_2 _ _) (SeqAt.list_indexAt l its.toArray n none #[] u (eqW y) j (by simpa using hj') small ?_ ?_) ⟨e,?_,?_⟩
  . obtain⟨v,e1,e2⟩:=OM (y:=y) hj' r ha;rw[show (its.toArray[j]'(by simpa using hj'))=its[j] from rfl,e2];exact hit v e1
  . intro m hm hmj;have hm':m<its.length:=by simpa using hm
    obtain⟨v,e1,e2⟩:=OM (y:=y) hm' r ha;rw[show (its.toArray[m]'hm)=its[m] from rfl,e2];exact hno m v hmj e1
  . intro w hw;exact oV ru hy (eqW y) r ha (λz w h1 h2 rz=>Bj rz (List.all_eq_true.mp ha z h1)) w (by simpa using hw)
  . exact⟨.int (j:Nat),H,I.tok _,⟨_,rfl⟩,q⟩
end
section
variable {X : Cx}
noncomputable def txtOf:Expr->Option Str
  |.Constant (.str x) _ _=>some x
  |_=>none
def tStrs (xs:List Str):TA:=λ_ H Q=>Q (xs.map V.str) H
theorem Bk:∀ {es:List Expr}{xs:List Str},es.map txtOf=xs.map some->PA X es (tStrs xs)
  |[],[],_=>fS
  |[],_::_,h=>by simp at h
  |_::_,[],h=>by simp at h
  | e::es,x::xs,h=>by
    rw[List.map_cons,List.map_cons,List.cons.injEq]at h;have ih:=Bk h.2;cases e with
    | Constant k j pos =>
      cases k with
      | str y =>
        have e1:y=x:=Option.some.inj h.1;subst e1;exact fm CZ ih
      |_=>exact nomatch h.1
    |_=>exact nomatch h.1
end
end L2
namespace L2.DL
open PySem PySem.Spec PyProof.Rows
inductive D where
  |non|bl (b:Bool)|int (i:Int)|str (x:Str)|tup (l:List D)|lst (l:List D)|dic (l:List (Key×D))
inductive W where
  |d (x:D)|b (n:Nat)|s (l:List Int)|x (i:Nat)
inductive Bx where
  |lst (l:List D)|dic (l:List (Key×D))|dead
mutual
noncomputable def Den (F:Hp):D->V->Prop
  |.non,v=>v=.non
  |.bl b,v=>v=.bl b
  |.int i,v=>v=.int i
  |.str x,v=>v=.str x
  |.tup l,v=>∃ a vs,v=.ref a /\ F a=some (.tup vs) /\ DenL F l vs
  |.lst l,v=>∃ a vs,v=.ref a /\ F a=some (.lst vs) /\ DenL F l vs
  |.dic l,v=>∃ a kvs,v=.ref a /\ F a=some (.dK kvs) /\ DenK F l kvs
noncomputable def DenL (F:Hp):List D->List V->Prop
  |[],vs=>vs=[]
  |d::l,vs=>∃ v r,vs=v::r /\ Den F d v /\ DenL F l r
noncomputable def DenK (F:Hp):List (Key×D)->List (Key×V)->Prop
  |[],r=>r=[]
  |(k,d)::l,r=>∃ v r',r=(k,v)::r' /\ Den F d v /\ DenK F l r'
end
def Sub (F F':Hp):Prop:=∀ a u,F a=some u->F' a=some u
theorem Sub.refl (F:Hp):Sub F F:=λ_ _ h=>h
theorem Sub.trans {F G H:Hp}(a:Sub F G) (b:Sub G H):Sub F H:=λx u h=>b x u (a x u h)
mutual
theorem Den.mono {F F':Hp}(s:Sub F F'):∀ (d:D) {v:V},Den F d v->Den F' d v
  |.non,_,h=>h
  |.bl _,_,h=>h
  |.int _,_,h=>h
  |.str _,_,h=>h
  | .tup l,_,h=>by
    obtain⟨a,vs,e,h1,h2⟩:=h;exact⟨a,vs,e,s _ _ h1,DenL.mono s l h2⟩
  | .lst l,_,h=>by
    obtain⟨a,vs,e,h1,h2⟩:=h;exact⟨a,vs,e,s _ _ h1,DenL.mono s l h2⟩
  | .dic l,_,h=>by
    obtain⟨a,vs,e,h1,h2⟩:=h;exact⟨a,vs,e,s _ _ h1,DenK.mono s l h2⟩
theorem DenL.mono {F F':Hp}(s:Sub F F'):∀ (l:List D) {vs:List V},DenL F l vs->DenL F' l vs
  |[],_,h=>h
  | d::l,_,h=>by
    obtain⟨v,r,e,h1,h2⟩:=h;exact⟨v,r,e,Den.mono s d h1,DenL.mono s l h2⟩
theorem DenK.mono {F F':Hp}(s:Sub F F'):∀ (l:List (Key×D)) {vs:List (Key×V)},DenK F l vs->DenK F' l vs
  |[],_,h=>h
  | (k,d)::l,_,h=>by
    obtain⟨v,r,e,h1,h2⟩:=h;exact⟨v,r,e,Den.mono s d h1,DenK.mono s l h2⟩
end
theorem DenL.length {F:Hp}:∀ {l:List D}{vs:List V},DenL F l vs->l.length=vs.length
  | [],_,h=>by
    have e:_=[]:=h;rw[e];rfl
  | d::l,_,h=>by
    obtain⟨v,r,e,_,h2⟩:=h;rw[e,List.length_cons,List.length_cons,h2.length]
theorem DenL.get {F:Hp}:∀ {l:List D}{vs:List V}{i:Nat}{d:D},DenL F l vs->l[i]?=some d->∃ v,vs[i]?=some v /\ Den F d v
  |[],_,_,_,_,e=>by simp at e
  | x::l,_,0,d,h,e=>by
    obtain⟨v,r,q,h1,_⟩:=h;simp at e;subst e;subst q;exact⟨v,rfl,h1⟩
  | x::l,_,i+1,d,h,e=>by
    obtain⟨v,r,q,_,h2⟩:=h;subst q;obtain⟨u,e1,e2⟩:=DenL.get (i:=i) h2 (by simpa using e);exact⟨u,by simpa using e1,e2⟩
theorem DenL.get' {F:Hp}{l:List D}{vs:List V}{i:Nat}{v:V}(h:DenL F l vs) (e:vs[i]?=some v):∃ d,l[i]?=some d /\ Den F d v:=by
  cases q:l[i]? with
  | none =>
    have h1:=List.getElem?_eq_none_iff.mp q;rw[h.length]at h1;rw[List.getElem?_eq_none_iff.mpr h1]at e;cases e
  | some d =>
    obtain⟨u,e1,e2⟩:=h.get q;rw[e]at e1;cases e1;exact⟨d,rfl,e2⟩
theorem DenL.nil {F:Hp}:DenL F [] []:=rfl
theorem DenL.cons {F:Hp}{d:D}{v:V}{l:List D}{vs:List V}(h:Den F d v) (t:DenL F l vs):DenL F (d::l) (v::vs):=⟨v,vs,rfl,h,t⟩
theorem DenL.append {F:Hp}:∀ {l l':List D}{vs vs':List V},DenL F l vs->DenL F l' vs'->DenL F (l++l') (vs++vs')
  | [],_,_,_,h,t=>by
    have e:_=[]:=h;rw[e];exact t
  | d::l,_,_,_,h,t=>by
    obtain⟨v,r,q,h1,h2⟩:=h;subst q;exact .cons h1 (h2.append t)
theorem DenL.take {F:Hp}:∀ {l:List D}{vs:List V}(n:Nat),DenL F l vs->DenL F (l.take n) (vs.take n)
  |l,_,0,_=>by rw[List.take_zero,List.take_zero];rfl
  | [],_,n+1,h=>by
    have e:_=[]:=h;rw[e];exact rfl
  | d::l,_,n+1,h=>by
    obtain⟨v,r,q,h1,h2⟩:=h;subst q;exact .cons h1 (h2.take n)
theorem DenL.drop {F:Hp}:∀ {l:List D}{vs:List V}(n:Nat),DenL F l vs->DenL F (l.drop n) (vs.drop n)
  |l,_,0,h=>h
  | [],_,n+1,h=>by
    have e:_=[]:=h;rw[e];exact rfl
  | d::l,_,n+1,h=>by
    obtain⟨v,r,q,h1,h2⟩:=h;subst q;exact h2.drop n
theorem DenL.reverse {F:Hp}:∀ {l:List D}{vs:List V},DenL F l vs->DenL F l.reverse vs.reverse
  | [],_,h=>by
    have e:_=[]:=h;rw[e];exact rfl
  | d::l,_,h=>by
    obtain⟨v,r,q,h1,h2⟩:=h;subst q;rw[List.reverse_cons,List.reverse_cons];exact h2.reverse.append (.cons h1 .nil)
theorem DenL.set {F:Hp}{d:D}{v:V}(hd:Den F d v):∀ {l:List D}{vs:List V}(i:Nat),DenL F l vs->DenL F (l.set i d) (vs.set i v)
  | [],_,_,h=>by
    have e:_=[]:=h;rw[e];exact rfl
  | _::l,_,0,h=>by
    obtain⟨v',r,q,h1,h2⟩:=h;subst q;exact .cons hd h2
  | _::l,_,i+1,h=>by
    obtain⟨v',r,q,h1,h2⟩:=h;subst q;exact .cons h1 (DenL.set hd i h2)
structure Fr where
  H₀:Hp
  n₀:Nat
  F₀:Hp
noncomputable def DenW (F:Hp) (rho:List Addr):W->V->Prop
  |.d x,v=>Den F x v
  |.b n,v=>∃ a,v=.ref a /\ rho[n]?=some a
  |.s l,v=>∃ a o,v=.ref a /\ F a=some (.frz o (.lst (l.map V.int)))
  |.x _,_=>False
theorem DenW.mono {F F':Hp}{r r':List Addr}(s:Sub F F') (p:r <+: r'):∀ (w:W) {v:V},DenW F r w v->DenW F' r' w v
  |.d x,_,h=>Den.mono s x h
  | .b n,_,h=>by
    obtain⟨a,e,h⟩:=h;refine⟨a,e,?_⟩;obtain⟨t,rfl⟩:=p;rw[List.getElem?_append_left (List.getElem?_eq_some_iff.mp h).1];exact h
  |.s l,_,h=>let ⟨a,o,e,h⟩:=h;⟨a,o,e,s _ _ h⟩
  |.x _,_,h=>h
noncomputable def BxOk (F H:Hp) (a:Addr):Bx->Prop
  |.lst l=>F a=none /\ ∃ vs,H a=some (.lst vs) /\ DenL F l vs
  |.dic l=>F a=none /\ ∃ kvs,H a=some (.dK kvs) /\ DenK F l kvs
  |.dead=>∃ u,H a=some u
noncomputable abbrev DEnv:=List (Option W)
structure Rel (T:Fr) (F:Hp) (r:List Addr) (σ:St) (H:Hp) (env:DEnv) (bx:List Bx):Prop where
  fh:Sub F H
  slot:∀ (i:Nat) (w:W),env[i]?=some (some w)->∃ v,σ[i]?=some (some v) /\ DenW F r w v
  len:r.length=bx.length
  nd:r.Nodup
  box:∀ (n:Nat) (c:Bx) (a:Addr),bx[n]?=some c->r[n]?=some a->BxOk F H a c
  keep:∀ a u,T.H₀ a=some u->a∉r->H a=some u
  new:∀ (n:Nat) (a:Addr),T.n₀<=n->r[n]?=some a->T.H₀ a=none
  n0:T.n₀<=r.length
  sl:env.length<=σ.length
  fs:∀ a u,F a=some u->T.F₀ a=some u \/ T.H₀ a=none \/ a∈r
structure Grow (F:Hp) (r:List Addr) (F':Hp) (r':List Addr):Prop where
  s:Sub F F'
  p:r <+: r'
theorem Grow.refl (F:Hp) (r:List Addr):Grow F r F r:=⟨Sub.refl F,List.prefix_refl r⟩
theorem Grow.trans {F F' F'':Hp}{r r' r'':List Addr}(a:Grow F r F' r') (b:Grow F' r' F'' r''):Grow F r F'' r'':=⟨a.s.trans b.s,a.p.trans b.p⟩
theorem Grow.den {F F':Hp}{r r':List Addr}(g:Grow F r F' r') {w:W}{v:V}(h:DenW F r w v):DenW F' r' w v:=h.mono g.s g.p w
inductive O (α:Type) where
  |val (a:α) (bx:List Bx)|exc (c:Nat) (bx:List Bx)|bad
noncomputable abbrev DE (α:Type):=DEnv->List Bx->O α
noncomputable def fA {α β:Type}(m:O α) (k:α->List Bx->O β):O β :=
  match m with
  |.val a bx=>k a bx
  |.exc c bx=>.exc c bx
  |.bad=>.bad
structure Xs where
  E:XK
  cl:Nat->Addr
noncomputable def End {α β:Type}(T:Fr) (Z:Xs) (Rl:Hp->List Addr->α->β->Prop) (F:Hp) (r:List Addr) (σ:St) (env:DEnv) (Q:β->Hp->Prop):O α->Prop
  |.val d bx'=>∀ F' r' v H',Grow F r F' r'->Rel T F' r' σ H' env bx'->Rl F' r' d v->Q v H'
  |.exc c bx'=>∀ F' r' H',Grow F r F' r'->Rel T F' r' [] H' [] bx'->Z.E (.ref (Z.cl c)) none H'
  |.bad=>False
theorem End.weak {α β:Type}{T:Fr}{Z:Xs}{Rl:Hp->List Addr->α->β->Prop}{F F':Hp}{r r':List Addr}{σ:St}{env:DEnv}{Q:β->Hp->Prop}(g:Grow F r F' r'):∀ {o:O α},End T Z Rl F r σ env Q o->End T Z Rl F' r' σ env Q o
  |.val _ _,h=>λF2 r2 v H2 g2=>h F2 r2 v H2 (g.trans g2)
  |.exc _ _,h=>λF2 r2 H2 g2=>h F2 r2 H2 (g.trans g2)
  |.bad,h=>h
theorem End.bind {α β α' β':Type}{T:Fr}{Z:Xs}{R1:Hp->List Addr->α->β->Prop}{R2:Hp->List Addr->α'->β'->Prop}{F:Hp}{r:List Addr}{σ:St}{env:DEnv}{Q:β'->Hp->Prop}{Q1:β->Hp->Prop}
    {m:O α}{k:α->List Bx->O α'}(h:End T Z R2 F r σ env Q (fA m k))
    (c:∀ d bx1 F1 r1 v H1,Grow F r F1 r1->Rel T F1 r1 σ H1 env bx1->R1 F1 r1 d v->End T Z R2 F1 r1 σ env Q (k d bx1)->Q1 v H1):End T Z R1 F r σ env Q1 m:=by
  cases m with
  |val d bx=>exact λF' r' v H' g R q=>c d bx F' r' v H' g R q (End.weak g h)
  |exc n bx=>exact h
  |bad=>exact h
theorem Rel.drop {T:Fr}{F:Hp}{r:List Addr}{σ:St}{H:Hp}{env:DEnv}{bx:List Bx}(R:Rel T F r σ H env bx):Rel T F r [] H [] bx :=
  ⟨R.fh,λi w e=>by simp at e,R.len,R.nd,R.box,R.keep,R.new,R.n0,zL _,R.fs⟩
def tD (T:Fr) (Z:Xs) (m:DE W):TE:=λσ H Q=>∃ F r env bx,Rel T F r σ H env bx /\ End T Z DenW F r σ env Q (m env bx)
def PD (X:Cx) (T:Fr) (Z:Xs) (e:Expr) (m:DE W):Prop:=PE X e (tD T Z m)
abbrev DenB:Hp->List Addr->Bool->Bool->Prop:=λ_ _ a b=>a=b
noncomputable def tDT (T:Fr) (Z:Xs) (m:DE Bool):TT:=λσ H Q=>∃ F r env bx,Rel T F r σ H env bx /\ End T Z DenB F r σ env Q (m env bx)
def PDT (X:Cx) (T:Fr) (Z:Xs) (e:Expr) (m:DE Bool):Prop:=PT X e (tDT T Z m)
noncomputable def DenWs (F:Hp) (r:List Addr):List W->List V->Prop
  |[],vs=>vs=[]
  |w::l,vs=>∃ v t,vs=v::t /\ DenW F r w v /\ DenWs F r l t
theorem DenWs.mono {F F':Hp}{r r':List Addr}(g:Grow F r F' r'):∀ {l:List W}{vs:List V},DenWs F r l vs->DenWs F' r' l vs
  |[],_,h=>h
  | w::l,_,h=>by
    obtain⟨v,t,e,h1,h2⟩:=h;exact⟨v,t,e,g.den h1,h2.mono g⟩
def tDA (T:Fr) (Z:Xs) (m:DE (List W)):TA:=λσ H Q=>∃ F r env bx,Rel T F r σ H env bx /\ End T Z DenWs F r σ env Q (m env bx)
def PDA (X:Cx) (T:Fr) (Z:Xs) (es:List Expr) (m:DE (List W)):Prop:=PA X es (tDA T Z m)
theorem PE.imp {X:Cx}{e:Expr}{t t':TE}(h:PE X e t) (f:∀ σ H Q,t' σ H Q->t σ H Q):PE X e t':=λpins s σ H Q I q=>h pins s σ H Q I (f σ H Q q)
theorem PT.imp {X:Cx}{e:Expr}{t t':TT}(h:PT X e t) (f:∀ σ H Q,t' σ H Q->t σ H Q):PT X e t':=λpins s σ H Q I q=>h pins s σ H Q I (f σ H Q q)
theorem PW.imp {X:Cx}{e:Expr}{t t':TT}(h:PW X e t) (f:∀ σ H Q,t' σ H Q->t σ H Q):PW X e t':=λwhole pins s σ H Q I q=>h whole pins s σ H Q I (f σ H Q q)
theorem PA.imp {X:Cx}{e:List Expr}{t t':TA}(h:PA X e t) (f:∀ σ H Q,t' σ H Q->t σ H Q):PA X e t':=λpos pins s σ H Q I q=>h pos pins s σ H Q I (f σ H Q q)
theorem PS.imp {X:Cx}{e:Stmt}{t t':TS}(h:PS X e t) (f:∀ Q σ H,t' Q σ H->t Q σ H):PS X e t':=λpins s σ H Q I q=>h pins s σ H Q I (f Q σ H q)
theorem PSs.imp {X:Cx}{e:List Stmt}{t t':TS}(h:PSs X e t) (f:∀ Q σ H,t' Q σ H->t Q σ H):PSs X e t':=λpins s σ H Q I q=>h pins s σ H Q I (f Q σ H q)
section
variable {X : Cx} {T : Fr} {Z : Xs} {a b c e : Expr} {es : List Expr} {ma mb mc : DE W} {pos : Pos}
noncomputable def dV (i:Nat):DE W:=λenv bx=>match env[i]? with|some (some w)=>.val w bx|_=>.bad
theorem ON (i:Nat) {x:Str}(hN:X.N[i]?=some x:=by rfl) (hv:Vis X.env.scope x:=by first|exact Or.inl rfl|exact Or.inr (Or.inl rfl)|exact Or.inr (Or.inr rfl)) (hd:(x==("__debug__":Str))=false:=by decide)
    (hcd:(x==("__classdict__":Str))=false:=by decide):PD X T Z (.Name x pos) (dV i):=by
  refine PE.imp (oI hN hv hd hcd) λσ H Q ⟨F,r,env,bx,R,h⟩=>?_;unfold dV at h;split at h
  . rename_i w e;obtain⟨v,e1,e2⟩:=R.slot i w e;exact⟨v,e1,h F r v H (.refl F r) R e2⟩
  . exact h.elim
noncomputable def dC (d:D):DE W:=λ_ bx=>.val (.d d) bx
theorem BX {d:D}{v:V}(h:PE X e (tC v)) (hd:∀ F,Den F d v):PD X T Z e (dC d):=
  PE.imp h λσ H Q ⟨F,r,env,bx,R,h⟩=>h F r v H (.refl F r) R (hd F)
theorem OP {i:Int}{j}:PD X T Z (.Constant (.int i) j pos) (dC (.int i)):=BX mE λ_=>rfl
theorem Ru {i:Bool}{j}:PD X T Z (.Constant (.bool i) j pos) (dC (.bl i)):=BX G0 λ_=>rfl
theorem OQ {j}:PD X T Z (.Constant .none j pos) (dC .non):=BX Oi λ_=>rfl
theorem OR {x:Str}{j}:PD X T Z (.Constant (.str x) j pos) (dC (.str x)):=BX CZ λ_=>rfl
noncomputable def fe:DE (List W):=λ_ bx=>.val [] bx
noncomputable def fc (m:DE W) (k:DE (List W)):DE (List W):=λenv bx=>fA (m env bx) λw bx1=>fA (k env bx1) λl bx2=>.val (w::l) bx2
theorem iY:PDA X T Z [] fe:=PA.imp fS λσ H Q ⟨F,r,env,bx,R,h⟩=>h F r [] H (.refl F r) R rfl
theorem Jv {k:DE (List W)}(ha:PD X T Z e ma) (hr:PDA X T Z es k) (hs:starEach (e::es) X.env=(false,eval e X.env)::starEach es X.env:=by rfl):PDA X T Z (e::es) (fc ma k):=by
  refine PA.imp (fm ha hr hs) λσ H Q ⟨F,r,env,bx,R,h⟩=>?_;refine⟨F,r,env,bx,R,End.bind h λw bx1 F1 r1 v H1 g1 R1 d1 h1=>?_⟩;refine⟨F1,r1,env,bx1,R1,End.bind h1 λl bx2 F2 r2 vs H2 g2 R2 d2 h2=>?_⟩;exact h2 F2 r2 _ H2 (.refl F2 r2) R2 ⟨v,vs,rfl,g2.den d1,d2⟩
end
section
variable {T : Fr} {F H : Hp} {r : List Addr} {σ : St} {env : DEnv} {bx : List Bx}
theorem ou {F:Hp}{p:Addr}{o:HO}(h:F p=none):Sub F (upd F p o):=λa u e=>by rw[fq (fJ e h)];exact e
theorem Rel.fnone (R:Rel T F r σ H env bx) {p:Addr}(h:H p=none):F p=none:=by
  cases e:F p with
  |none=>rfl
  |some u=>rw[R.fh p u e]at h;cases h
theorem BxOk.there {a:Addr}:∀ {c:Bx},BxOk F H a c->∃ u,H a=some u
  |.lst _,h=>let ⟨_,vs,e,_⟩:=h;⟨_,e⟩
  |.dic _,h=>let ⟨_,vs,e,_⟩:=h;⟨_,e⟩
  |.dead,h=>h
theorem Rel.bat (R:Rel T F r σ H env bx) {n:Nat}{a:Addr}(e:r[n]?=some a):∃ c,bx[n]?=some c /\ BxOk F H a c:=by
  have h:=(List.getElem?_eq_some_iff.mp e).1;rw[R.len]at h;exact⟨_,List.getElem?_eq_getElem h,R.box n _ a (List.getElem?_eq_getElem h) e⟩
theorem Rel.notBox (R:Rel T F r σ H env bx) {p:Addr}(h:H p=none):p∉r:=λhp=>by
  obtain⟨n,e⟩:=List.mem_iff_getElem?.mp hp;obtain⟨c,_,k⟩:=R.bat e;obtain⟨u,k⟩:=k.there;rw[h]at k;cases k
theorem BxOk.grow {F F' H H':Hp}{a:Addr}(s:Sub F F') (hf:F a=none->F' a=none) (hh:∀ u,H a=some u->H' a=some u):∀ {c:Bx},BxOk F H a c->BxOk F' H' a c
  |.lst _,h=>let ⟨h1,vs,h2,h3⟩:=h;⟨hf h1,vs,hh _ h2,DenL.mono s _ h3⟩
  |.dic _,h=>let ⟨h1,vs,h2,h3⟩:=h;⟨hf h1,vs,hh _ h2,DenK.mono s _ h3⟩
  |.dead,h=>let ⟨u,h⟩:=h;⟨u,hh u h⟩
theorem Rel.allocD (R:Rel T F r σ H env bx) {p:Addr}{o:HO}(h:H p=none):Rel T (upd F p o) r σ (upd H p o) env bx:=by
  have hf:=R.fnone h;have s:=ou (o:=o) hf;refine⟨λa u e=>?_,λi w e=>?_,R.len,R.nd,λn c a e1 e2=>?_,λa u e hn=>?_,R.new,R.n0,R.sl,λa u e=>?_⟩
  . by_cases ha:a=p
    . subst ha;rw[fC]at e ⊢;exact e
    . rw[fq ha]at e ⊢;exact R.fh a u e
  . obtain⟨v,e1,e2⟩:=R.slot i w e;exact⟨v,e1,e2.mono s (List.prefix_refl r)⟩
  . have k:=R.box n c a e1 e2;obtain⟨u,hu⟩:=k.there;have ha:a≠p:=fJ hu h;exact k.grow s (λz=>by rw[fq ha];exact z) (λu z=>by rw[fq ha];exact z)
  . have k:=R.keep a u e hn;rw[fq (fJ k h)];exact k
  . by_cases ha:a=p
    . subst ha;refine .inr (.inl ?_);cases q:T.H₀ a with
      |none=>rfl
      |some u=>rw[R.keep a u q (R.notBox h)]at h;cases h
    . rw[fq ha]at e;exact R.fs a u e
theorem Rel.growD (R:Rel T F r σ H env bx) {p:Addr}{o:HO}(h:H p=none):Grow F r (upd F p o) r:=⟨ou (R.fnone h),List.prefix_refl r⟩
theorem Rel.allocB (R:Rel T F r σ H env bx) {p:Addr}{o:HO}{c:Bx}(h:H p=none) (hc:BxOk F (upd H p o) p c):Rel T F (r++[p]) σ (upd H p o) env (bx++[c]):=by
  have hs:∀ a u,H a=some u->upd H p o a=some u:=λa u e=>by rw[fq (fJ e h)];exact e
  refine⟨λa u e=>hs a u (R.fh a u e),λi w e=>?_,by rw[List.length_append,List.length_append,R.len];rfl,?_,λn c' a e1 e2=>?_,λa u e hn=>?_,λn a hn e=>?_,by rw[List.length_append];exact Nat.le_trans R.n0 (Nat.le_add_right _ _),R.sl,λa u e=>(R.fs a u e).imp id (Or.imp id λz=>List.mem_append_left _ z)⟩
  . obtain⟨v,e1,e2⟩:=R.slot i w e;exact⟨v,e1,e2.mono (Sub.refl F) (List.prefix_append r [p])⟩
  . rw[List.nodup_append];refine⟨R.nd,by simp,λa ha b hb=>?_⟩;rw[List.mem_singleton]at hb;subst hb;exact λz=>R.notBox h (z▸ha)
  . by_cases hn:n<r.length
    . rw[List.getElem?_append_left hn]at e2;rw[List.getElem?_append_left (by rw[<-R.len];exact hn)]at e1;exact(R.box n c' a e1 e2).grow (Sub.refl F) id (hs a)
    . rw[List.getElem?_append_right (by omega)]at e2;rw[List.getElem?_append_right (by rw[<-R.len];omega)]at e1;have hl:n-r.length=0:=by
        cases q:n-r.length with
        |zero=>rfl
        |succ k=>rw[q]at e2;simp at e2
      have hl':n-bx.length=0:=by rw[<-R.len];exact hl
      rw[hl]at e2;rw[hl']at e1;simp at e1 e2;subst e1 e2;exact hc
  . exact hs a u (R.keep a u e λz=>hn (List.mem_append_left _ z))
  . by_cases hl:n<r.length
    . rw[List.getElem?_append_left hl]at e;exact R.new n a hn e
    . have hp:a=p:=by
        rw[List.getElem?_append_right (by omega)]at e;cases q:n-r.length with
        |zero=>rw[q]at e;simp at e;exact e.symm
        |succ k=>rw[q]at e;simp at e
      subst hp;cases q:T.H₀ a with
      |none=>rfl
      |some u=>rw[R.keep a u q (R.notBox h)]at h;cases h
theorem oW {α:Type}{l:List α}(h:l.Nodup) {i j:Nat}{x:α}(a:l[i]?=some x) (b:l[j]?=some x):i=j:=by
  have h1:=(List.getElem?_eq_some_iff.mp a).1;have h2:=(List.getElem?_eq_some_iff.mp b).1;exact(List.getElem?_inj h1 h).mp (a.trans b.symm)
theorem Rel.write (R:Rel T F r σ H env bx) {n:Nat}{a:Addr}{o:HO}{c:Bx}(e:r[n]?=some a) (hF:F a=none) (hc:BxOk F (upd H a o) a c):Rel T F r σ (upd H a o) env (bx.set n c):=by
  have ha:a∈r:=List.mem_iff_getElem?.mpr ⟨n,e⟩;refine⟨λb u q=>?_,R.slot,by rw[List.length_set];exact R.len,R.nd,λm c' b e1 e2=>?_,λb u q hn=>?_,R.new,R.n0,R.sl,R.fs⟩
  . by_cases hb:b=a
    . subst hb;rw[hF]at q;cases q
    . rw[fq hb];exact R.fh b u q
  . by_cases hm:m=n
    . subst hm;rw[e]at e2;cases e2;rw[List.getElem?_set_self (by rw[<-R.len];exact(List.getElem?_eq_some_iff.mp e).1)]at e1;cases e1;exact hc
    . rw[List.getElem?_set_ne (Ne.symm hm)]at e1;have hb:b≠a:=λz=>hm (oW R.nd e2 (z▸e));exact(R.box m c' b e1 e2).grow (Sub.refl F) id λu z=>by rw[fq hb];exact z
  . rw[fq (λz=>hn (by rw[z];exact ha))];exact R.keep b u q hn
theorem Rel.freeze (R:Rel T F r σ H env bx) {n:Nat}{a:Addr}{o:HO}(e:r[n]?=some a) (hF:F a=none) (hH:H a=some o):Rel T (upd F a o) r σ H env (bx.set n .dead) /\ Grow F r (upd F a o) r:=by
  have s:=ou (o:=o) hF;refine⟨⟨λb u q=>?_,λi w q=>?_,by rw[List.length_set];exact R.len,R.nd,λm c' b e1 e2=>?_,R.keep,R.new,R.n0,R.sl,λb u q=>?_⟩,s,List.prefix_refl r⟩
  . by_cases hb:b=a
    . subst hb;rw[fC]at q;cases q;exact hH
    . rw[fq hb]at q;exact R.fh b u q
  . obtain⟨v,e1,e2⟩:=R.slot i w q;exact⟨v,e1,e2.mono s (List.prefix_refl r)⟩
  . by_cases hm:m=n
    . subst hm;rw[e]at e2;cases e2;rw[List.getElem?_set_self (by rw[<-R.len];exact(List.getElem?_eq_some_iff.mp e).1)]at e1;cases e1;exact⟨_,hH⟩
    . rw[List.getElem?_set_ne (Ne.symm hm)]at e1;have hb:b≠a:=λz=>hm (oW R.nd e2 (z▸e));exact(R.box m c' b e1 e2).grow s (λz=>by rw[fq hb];exact z) λu z=>z
  . by_cases hb:b=a
    . subst hb;exact .inr (.inr (List.mem_iff_getElem?.mpr ⟨n,e⟩))
    . rw[fq hb]at q;exact R.fs b u q
noncomputable def Rdd (F H:Hp):D->V->Prop
  |.lst l,v=>∃ a vs,v=.ref a /\ H a=some (.lst vs) /\ DenL F l vs
  |.dic l,v=>∃ a kvs,v=.ref a /\ H a=some (.dK kvs) /\ DenK F l kvs
  |.tup l,v=>∃ a vs,v=.ref a /\ F a=some (.tup vs) /\ DenL F l vs
  |.non,v=>v=.non
  |.bl b,v=>v=.bl b
  |.int i,v=>v=.int i
  |.str x,v=>v=.str x
noncomputable def rdW (bx:List Bx):W->Option D
  |.d x=>some x
  | .b n=>match bx[n]? with
    |some (.lst l)=>some (.lst l)
    |some (.dic l)=>some (.dic l)
    |_=>none
  |_=>none
theorem Den.rdd (s:Sub F H):∀ {d:D}{v:V},Den F d v->Rdd F H d v
  |.non,_,h=>h
  |.bl _,_,h=>h
  |.int _,_,h=>h
  |.str _,_,h=>h
  |.tup l,_,h=>h
  |.lst l,_,h=>let ⟨a,vs,e,h1,h2⟩:=h;⟨a,vs,e,s _ _ h1,h2⟩
  |.dic l,_,h=>let ⟨a,vs,e,h1,h2⟩:=h;⟨a,vs,e,s _ _ h1,h2⟩
theorem Rel.rdd (R:Rel T F r σ H env bx) {w:W}{v:V}{d:D}(h:DenW F r w v) (e:rdW bx w=some d):Rdd F H d v:=by
  cases w with
  | d x =>
    cases e;exact Den.rdd R.fh h
  | b n =>
    obtain⟨a,rfl,ha⟩:=h;obtain⟨c,hc,k⟩:=R.bat ha;simp only[rdW,hc]at e;cases c with
    |lst l=>cases e;obtain⟨_,vs,k1,k2⟩:=k;exact⟨a,vs,rfl,k1,k2⟩
    |dic l=>cases e;obtain⟨_,vs,k1,k2⟩:=k;exact⟨a,vs,rfl,k1,k2⟩
    |dead=>cases e
  |s l=>cases e
  |x i=>exact h.elim
noncomputable def RddL (F H:Hp):List D->List V->Prop
  |[],vs=>vs=[]
  |d::l,vs=>∃ v t,vs=v::t /\ Rdd F H d v /\ RddL F H l t
noncomputable def rdWs (bx:List Bx):List W->Option (List D)
  |[]=>some []
  |w::l=>(rdW bx w).bind λd=>(rdWs bx l).map λt=>d::t
theorem Rel.rddL (R:Rel T F r σ H env bx):∀ {ws:List W}{vs:List V}{ds:List D},DenWs F r ws vs->rdWs bx ws=some ds->RddL F H ds vs
  |[],_,_,h,e=>by cases e;exact h
  | w::l,_,ds,h,e=>by
    obtain⟨v,t,q,h1,h2⟩:=h;unfold rdWs at e;cases e1:rdW bx w with
    |none=>rw[e1]at e;cases e
    | some d =>
      rw[e1]at e;cases e2:rdWs bx l with
      |none=>rw[e2]at e;cases e
      | some t' =>
        rw[e2]at e;cases e;exact⟨v,t,q,R.rdd h1 e1,R.rddL h2 e2⟩
inductive Res where
  |old (d:D)|tup (l:List D)|lst (l:List D)|dic (l:List (Key×D))
noncomputable def Res.toD:Res->D
  |.old d=>d|.tup l=>.tup l|.lst l=>.lst l|.dic l=>.dic l
noncomputable def RRes (F H:Hp):Res->V->Hp->Prop
  |.old d,v,H'=>H'=H /\ Den F d v
  |.tup l,v,H'=>(H'=H /\ Den F (.tup l) v) \/ ∃ p vs,v=.ref p /\ H p=none /\ H'=upd H p (.tup vs) /\ DenL F l vs
  |.lst l,v,H'=>∃ p vs,v=.ref p /\ H p=none /\ H'=upd H p (.lst vs) /\ DenL F l vs
  |.dic l,v,H'=>∃ p vs,v=.ref p /\ H p=none /\ H'=upd H p (.dK vs) /\ DenK F l vs
theorem Rel.res (R:Rel T F r σ H env bx) {v:V}{H':Hp}:∀ {q:Res},RRes F H q v H'->∃ F',Grow F r F' r /\ Rel T F' r σ H' env bx /\ Den F' q.toD v
  | .old d,h=>by
    obtain⟨rfl,h⟩:=h;exact⟨F,.refl F r,R,h⟩
  | .tup l,h=>by
    rcases h with⟨rfl,h⟩|⟨p,vs,rfl,hp,rfl,h⟩
    . exact⟨F,.refl F r,R,h⟩
    exact⟨_,R.growD hp,R.allocD hp,p,vs,rfl,fC,DenL.mono (R.growD (o:=.tup vs) hp).s l h⟩
  | .lst l,h=>by
    obtain⟨p,vs,rfl,hp,rfl,h⟩:=h;exact⟨_,R.growD hp,R.allocD hp,p,vs,rfl,fC,DenL.mono (R.growD (o:=.lst vs) hp).s l h⟩
  | .dic l,h=>by
    obtain⟨p,vs,rfl,hp,rfl,h⟩:=h;exact⟨_,R.growD hp,R.allocD hp,p,vs,rfl,fC,DenK.mono (R.growD (o:=.dK vs) hp).s l h⟩
theorem Rel.resB (R:Rel T F r σ H env bx) {v:V}{H':Hp}{l:List D}(h:RRes F H (.lst l) v H'):∃ r',Grow F r F r' /\ Rel T F r' σ H' env (bx++[.lst l]) /\ DenW F r' (.b bx.length) v:=by
  obtain⟨p,vs,rfl,hp,rfl,h⟩:=h;refine⟨r++[p],⟨Sub.refl F,List.prefix_append r [p]⟩,R.allocB hp ⟨R.fnone hp,vs,fC,h⟩,p,rfl,?_⟩;rw[<-R.len,List.getElem?_append_right (zL _),Nat.sub_self];rfl
theorem Rel.resBd (R:Rel T F r σ H env bx) {v:V}{H':Hp}{l:List (Key×D)}(h:RRes F H (.dic l) v H'):∃ r',Grow F r F r' /\ Rel T F r' σ H' env (bx++[.dic l]) /\ DenW F r' (.b bx.length) v:=by
  obtain⟨p,vs,rfl,hp,rfl,h⟩:=h;refine⟨r++[p],⟨Sub.refl F,List.prefix_append r [p]⟩,R.allocB hp ⟨R.fnone hp,vs,fC,h⟩,p,rfl,?_⟩;rw[<-R.len,List.getElem?_append_right (zL _),Nat.sub_self];rfl
noncomputable def resO (b:Bool):Option Res->List Bx->O W
  |none,_=>.bad
  | some q,bx=>match b,q with
    |true,.lst l=>.val (.b bx.length) (bx++[.lst l])
    |true,.dic l=>.val (.b bx.length) (bx++[.dic l])
    |_,_=>.val (.d q.toD) bx
theorem gX {Z:Xs}{Q:VK}{b:Bool}{q:Res}{v:V}{H':Hp}(R:Rel T F r σ H env bx) (h:End T Z DenW F r σ env Q (resO b (some q) bx)) (k:RRes F H q v H'):Q v H':=by
  have one:End T Z DenW F r σ env Q (.val (.d q.toD) bx)->Q v H':=λh=>by
    obtain⟨F',g,R',d⟩:=R.res k;exact h F' r v H' g R' d
  cases b with
  |false=>exact one h
  | true =>
    cases q with
    |old d=>exact one h
    |tup l=>exact one h
    | lst l =>
      obtain⟨r',g,R',d⟩:=R.resB k;exact h F r' v H' g R' d
    | dic l =>
      obtain⟨r',g,R',d⟩:=R.resBd k;exact h F r' v H' g R' d
def Ok2 (q:R2) (g:D->D->Option Res):Prop:=∀ (F H:Hp) (x y:D) (v w:V) (Q:VK) (s:Res),Sub F H->Rdd F H x v->Rdd F H y w->g x y=some s->(∀ u H',RRes F H s u H'->Q u H')->q v w H Q
def OkN (q:List V->Hp->VK->Prop) (g:List D->Option Res):Prop:=∀ (F H:Hp) (xs:List D) (vs:List V) (Q:VK) (s:Res),Sub F H->RddL F H xs vs->g xs=some s->(∀ u H',RRes F H s u H'->Q u H')->q vs H Q
noncomputable def d2 (b:Bool) (g:D->D->Option Res) (ma mb:DE W):DE W:=λenv bx=>fA (ma env bx) λx bx1=>fA (mb env bx1) λy bx2=>resO b ((rdW bx2 x).bind λp=>(rdW bx2 y).bind λq=>g p q) bx2
theorem DR {Z:Xs}{q:R2}{g:D->D->Option Res}{b:Bool}{ma mb:DE W}(hg:Ok2 q g) (σ:St) (H:Hp) (Q:VK) (h:tD T Z (d2 b g ma mb) σ H Q):tOp q (tD T Z ma) (tD T Z mb) σ H Q:=by
  obtain⟨F,r,env,bx,R,h⟩:=h;refine⟨F,r,env,bx,R,End.bind h λx bx1 F1 r1 v H1 g1 R1 d1 h1=>?_⟩;refine⟨F1,r1,env,bx1,R1,End.bind h1 λy bx2 F2 r2 w H2 g2 R2 d2' h2=>?_⟩;have d1':=g2.den d1;cases e1:rdW bx2 x with
  |none=>rw[e1]at h2;exact h2.elim
  | some p =>
    cases e2:rdW bx2 y with
    |none=>rw[e1,e2]at h2;exact h2.elim
    | some z =>
      cases e3:g p z with
      |none=>rw[e1,e2]at h2;simp only[Option.bind_some,e3]at h2;exact h2.elim
      | some s =>
        rw[e1,e2]at h2;simp only[Option.bind_some,e3]at h2;exact hg F2 H2 p z v w Q s R2.fh (R2.rdd d1' e1) (R2.rdd d2' e2) e3 λu H' k=>gX R2 h2 k
noncomputable def dN (b:Bool) (g:List D->Option Res) (k:DE (List W)):DE W:=λenv bx=>fA (k env bx) λws bx1=>resO b ((rdWs bx1 ws).bind g) bx1
theorem DS {Z:Xs}{q:List V->Hp->VK->Prop}{g:List D->Option Res}{b:Bool}{k:DE (List W)}(hg:OkN q g) (σ:St) (H:Hp) (Q:VK) (h:tD T Z (dN b g k) σ H Q):tCB q (tDA T Z k) σ H Q:=by
  obtain⟨F,r,env,bx,R,h⟩:=h;refine⟨F,r,env,bx,R,End.bind h λws bx1 F1 r1 vs H1 g1 R1 d1 h1=>?_⟩;cases e1:rdWs bx1 ws with
  |none=>rw[e1]at h1;exact h1.elim
  | some ds =>
    rw[e1]at h1;cases e2:g ds with
    |none=>simp only[Option.bind_some,e2]at h1;exact h1.elim
    | some s =>
      simp only[Option.bind_some,e2]at h1;exact hg F1 H1 ds vs Q s R1.fh (R1.rddL d1 e1) e2 λu H' k=>gX R1 h1 k
end
section
variable {X : Cx} {T : Fr} {Z : Xs} {a b c e : Expr} {es : List Expr} {ma mb mc : DE W} {pos p : Pos}
theorem OT {op:Operator}{q:R2}{g:D->D->Option Res}(bo:Bool) (ho:OpR X (binaryOp op) q) (hg:Ok2 q g) (ha:PD X T Z a ma) (hb:PD X T Z b mb):PD X T Z (.BinOp a op b pos) (d2 bo g ma mb):=
  PE.imp (BN ho ha hb) (DR hg)
theorem OU {op:CmpOp}{q:R2}{g:D->D->Option Res}(ho:OpR X (compareOp op) q) (hg:Ok2 q g) (ha:PD X T Z a ma) (hb:PD X T Z b mb) (hm:behindInMarks op b=false):PD X T Z (.Compare a [op] [b] pos) (d2 false g ma mb):=
  PE.imp (Mf ho ha hb hm) (DR hg)
theorem Rv {q:R2}{g:D->D->Option Res}(ho:IxR X q) (hg:Ok2 q g) (ha:PD X T Z a ma) (hb:PD X T Z b mb) (hs:PlainIx b):PD X T Z (.Subscript a b pos) (d2 false g ma mb):=
  PE.imp (Ji ho ha hb hs) (DR hg)
noncomputable def dB (m:DE W):DE Bool:=λenv bx=>fA (m env bx) λw bx1=>match w with|.d (.bl k)=>.val k bx1|_=>.bad
theorem So {σ:St}{H:Hp}{Q:Bool->Hp->Prop}(h:tDT T Z (dB ma) σ H Q):tB (tD T Z ma) σ H Q:=by
  obtain⟨F,r,env,bx,R,h⟩:=h;refine⟨F,r,env,bx,R,End.bind h λw bx1 F1 r1 v H1 g1 R1 d1 h1=>?_⟩;split at h1
  . rename_i k;exact⟨k,d1,h1 F1 r1 k H1 (.refl F1 r1) R1 rfl⟩
  . exact h1.elim
theorem Mu (h:PD X T Z e ma) (he:∀ whole,isTrue e X.env whole=(do let v <-whole;standAt e.pos;holding [v] (truthy v)):=by intro _;rfl):PDT X T Z e (dB ma):=
  PT.imp (G1 h he) λσ H Q h=>So h
theorem Mw {op:CmpOp}{q:R2}{g:D->D->Option Res}(ho:OpR X (compareOp op) q) (hg:Ok2 q g) (ha:PD X T Z a ma) (hb:PD X T Z b mb) (hm:behindInMarks op b=false):PDT X T Z (.Compare a [op] [b] pos) (dB (d2 false g ma mb)):=by
  refine PT.imp (DM ho ha hb hm) λσ H Q h=>?_;obtain⟨F,r,env,bx,R,h⟩:=h;refine DR (T:=T) (Z:=Z) (b:=false) hg σ H _ ⟨F,r,env,bx,R,End.bind h λw bx1 F1 r1 v H1 g1 R1 d1 h1=>?_⟩;split at h1
  . rename_i k;exact⟨k,d1,h1 F1 r1 k H1 (.refl F1 r1) R1 rfl⟩
  . exact h1.elim
noncomputable def tru:D->Option Bool
  |.non=>some false
  |.bl b=>some b
  |.int i=>some (i != 0)
  |.str y=>if y.length<=sizeLine then some ((y.length:Int) != 0) else none
  |.tup l=>some !l.isEmpty
  |.lst l=>some !l.isEmpty
  |.dic l=>some !l.isEmpty
noncomputable def dTru (m:DE W):DE Bool:=λenv bx=>fA (m env bx) λw bx1=>match (rdW bx1 w).bind tru with|some k=>.val k bx1|none=>.bad
theorem DenL.isEmpty {F:Hp}{l:List D}{vs:List V}(h:DenL F l vs):l.isEmpty=vs.isEmpty:=by
  have:=h.length;cases l<;>cases vs<;>simp_all
theorem DenK.length {F:Hp}:∀ {l:List (Key×D)}{vs:List (Key×V)},DenK F l vs->l.length=vs.length
  | [],_,h=>by
    have e:_=[]:=h;rw[e];rfl
  | (k,d)::l,_,h=>by
    obtain⟨v,r,e,_,h2⟩:=h;rw[e,List.length_cons,List.length_cons,h2.length]
theorem DenK.isEmpty {F:Hp}{l:List (Key×D)}{vs:List (Key×V)}(h:DenK F l vs):l.isEmpty=vs.isEmpty:=by
  have:=h.length;cases l<;>cases vs<;>simp_all
theorem OV {K:PySem.W.Frag}{F H:Hp}{d:D}{v:V}{k:Bool}(s:Sub F H) (h:Rdd F H d v) (e:tru d=some k):TruV K v H k:=by
  cases d with
  |non=>cases e;cases (show v=.non from h);exact rfl
  |bl b=>cases e;cases (show v=.bl k from h);exact rfl
  |int i=>cases e;cases (show v=.int i from h);exact rfl
  | str y =>
    cases (show v=.str y from h);have e':(if y.length<=sizeLine then some ((y.length:Int) != 0) else none)=some k:=e;split at e'
    . cases e';exact⟨by assumption,rfl⟩
    . cases e'
  |tup l=>cases e;obtain⟨p,vs,rfl,h1,h2⟩:=h;exact .inr (.inl ⟨vs,.of (s _ _ h1),by rw[h2.isEmpty]⟩)
  |lst l=>cases e;obtain⟨p,vs,rfl,h1,h2⟩:=h;exact .inl ⟨vs,.of h1,by rw[h2.isEmpty]⟩
  |dic l=>cases e;obtain⟨p,vs,rfl,h1,h2⟩:=h;exact .inr (.inr ⟨vs,h1,by rw[h2.isEmpty]⟩)
theorem Mx (h:PD X T Z e ma) (he:∀ whole,isTrue e X.env whole=(do let v <-whole;standAt e.pos;holding [v] (truthy v)):=by intro _;rfl):PDT X T Z e (dTru ma):=by
  refine PT.imp (Jc h he) λσ H Q h=>?_;obtain⟨F,r,env,bx,R,h⟩:=h;refine⟨F,r,env,bx,R,End.bind h λw bx1 F1 r1 v H1 g1 R1 d1 h1=>?_⟩;split at h1
  . rename_i k e;cases e1:rdW bx1 w with
    |none=>rw[e1]at e;cases e
    | some d =>
      rw[e1]at e;exact⟨k,OV R1.fh (R1.rdd d1 e1) e,h1 F1 r1 k H1 (.refl F1 r1) R1 rfl⟩
  . exact h1.elim
noncomputable def d3 (g g':D->D->Option Res) (ma mb mc:DE W):DE W:=λenv bx=>fA (ma env bx) λx bx1=>fA (mb env bx1) λy bx2 =>
  fA (resO false ((rdW bx2 x).bind λp=>(rdW bx2 y).bind λq=>g p q) bx2) λz bx3=>match z with
    |.d (.bl true)=>fA (mc env bx3) λw bx4=>resO false ((rdW bx4 y).bind λp=>(rdW bx4 w).bind λq=>g' p q) bx4
    |.d (.bl false)=>.val (.d (.bl false)) bx3
    |_=>.bad
theorem res2 {q:R2}{g:D->D->Option Res}(hg:Ok2 q g) {F H:Hp}{r:List Addr}{σ:St}{env:DEnv}{bx:List Bx}{x y:W}{v w:V}{Q:VK}(R:Rel T F r σ H env bx) (dx:DenW F r x v) (dy:DenW F r y w)
    (h:End T Z DenW F r σ env Q (resO false ((rdW bx x).bind λp=>(rdW bx y).bind λq=>g p q) bx)):q v w H Q:=by
  cases e1:rdW bx x with
  |none=>rw[e1]at h;exact h.elim
  | some p =>
    cases e2:rdW bx y with
    |none=>rw[e1,e2]at h;exact h.elim
    | some z =>
      cases e3:g p z with
      |none=>rw[e1,e2]at h;simp only[Option.bind_some,e3]at h;exact h.elim
      | some s =>
        rw[e1,e2]at h;simp only[Option.bind_some,e3]at h;exact hg F H p z v w Q s R.fh (R.rdd dx e1) (R.rdd dy e2) e3 λu H' k=>gX R h k
theorem DT {q q':R2}{g g':D->D->Option Res}(hg:Ok2 q g) (hg':Ok2 q' g') {σ:St}{H:Hp}{Q:VK}(h:tD T Z (d3 g g' ma mb mc) σ H Q):tChain q q' (tD T Z ma) (tD T Z mb) (tD T Z mc) σ H Q:=by
  obtain⟨F,r,env,bx,R,h⟩:=h;refine⟨F,r,env,bx,R,End.bind h λx bx1 F1 r1 v H1 g1 R1 d1 h1=>?_⟩;refine⟨F1,r1,env,bx1,R1,End.bind h1 λy bx2 F2 r2 w H2 g2 R2 d2 h2=>?_⟩;refine res2 (T:=T) (Z:=Z) (bx:=bx2) hg R2 (g2.den d1) d2 (End.bind h2 λz bx3 F3 r3 u H3 g3 R3 d3 h3=>?_);split at h3
  . refine⟨true,d3,?_⟩;rw[if_pos rfl];refine⟨F3,r3,env,bx3,R3,End.bind h3 λt bx4 F4 r4 s H4 g4 R4 d4 h4=>?_⟩;exact res2 (T:=T) (Z:=Z) hg' R4 (g4.den (g3.den d2)) d4 h4
  . refine⟨false,d3,?_⟩;rw[if_neg (by decide)];exact h3 F3 r3 _ H3 (.refl F3 r3) R3 rfl
  . exact h3.elim
theorem Jw {op op':CmpOp}{q q':R2}{g g':D->D->Option Res}(ho:OpR X (compareOp op) q) (ho':OpR X (compareOp op') q') (hg:Ok2 q g) (hg':Ok2 q' g') (ha:PD X T Z a ma) (hb:PD X T Z b mb) (hc:PD X T Z c mc)
    (hm:lastMarks [op,op'] [b,c]=false:=by with_unfolding_all rfl):PD X T Z (.Compare a [op,op'] [b,c] pos) (d3 g g' ma mb mc):=
  PE.imp (Ja ho ho' ha hb hc hm) λσ H Q h=>DT hg hg' h
theorem Gh {op op':CmpOp}{q q':R2}{g g':D->D->Option Res}(ho:OpR X (compareOp op) q) (ho':OpR X (compareOp op') q') (hg:Ok2 q g) (hg':Ok2 q' g') (ha:PD X T Z a ma) (hb:PD X T Z b mb) (hc:PD X T Z c mc)
    (hm:lastMarks [op,op'] [b,c]=false:=by with_unfolding_all rfl):PDT X T Z (.Compare a [op,op'] [b,c] pos) (dB (d3 g g' ma mb mc)):=by
  refine PT.imp (Jb ho ho' ha hb hc hm) λσ H Q h=>?_;obtain⟨F,r,env,bx,R,h⟩:=h;refine DT (T:=T) (Z:=Z) hg hg' ⟨F,r,env,bx,R,End.bind h λw bx1 F1 r1 v H1 g1 R1 d1 h1=>?_⟩;split at h1
  . rename_i k;exact⟨k,d1,h1 F1 r1 k H1 (.refl F1 r1) R1 rfl⟩
  . exact h1.elim
noncomputable def dAnd (m k:DE Bool):DE Bool:=λenv bx=>fA (m env bx) λb bx1=>match b with|true=>k env bx1|false=>.val false bx1
noncomputable def dOr (m k:DE Bool):DE Bool:=λenv bx=>fA (m env bx) λb bx1=>match b with|true=>.val true bx1|false=>k env bx1
noncomputable def dNot (m:DE Bool):DE Bool:=λenv bx=>fA (m env bx) λb bx1=>.val (!b) bx1
def PDW (X:Cx) (T:Fr) (Z:Xs) (e:Expr) (m:DE Bool):Prop:=PW X e (tDT T Z m)
variable {ta tb : DE Bool} {rest : List Expr}
theorem Jx (h:PDT X T Z a ta):PDW X T Z (.BoolOp .And [a] pos) ta:=Mb h
theorem Mz (h:PDT X T Z a ta):PDW X T Z (.BoolOp .Or [a] pos) ta:=G2 h
theorem MA (ha:PDT X T Z a ta) (hb:PDW X T Z (.BoolOp .And (b::rest) pos) tb):PDW X T Z (.BoolOp .And (a::b::rest) pos) (dAnd ta tb):=by
  refine PW.imp (Oj ha hb) λσ H Q ⟨F,r,env,bx,R,h⟩=>?_;refine⟨F,r,env,bx,R,End.bind h λk bx1 F1 r1 v H1 g1 R1 d1 h1=>?_⟩;subst d1;cases k with
  |true=>rw[if_pos rfl];exact⟨F1,r1,env,bx1,R1,h1⟩
  |false=>rw[if_neg (by decide)];exact h1 F1 r1 _ H1 (.refl F1 r1) R1 rfl
theorem OW (ha:PDT X T Z a ta) (hb:PDW X T Z (.BoolOp .Or (b::rest) pos) tb):PDW X T Z (.BoolOp .Or (a::b::rest) pos) (dOr ta tb):=by
  refine PW.imp (NW ha hb) λσ H Q ⟨F,r,env,bx,R,h⟩=>?_;refine⟨F,r,env,bx,R,End.bind h λk bx1 F1 r1 v H1 g1 R1 d1 h1=>?_⟩;subst d1;cases k with
  |false=>rw[if_neg (by decide)];exact⟨F1,r1,env,bx1,R1,h1⟩
  |true=>rw[if_pos rfl];exact h1 F1 r1 _ H1 (.refl F1 r1) R1 rfl
theorem N1 (h:PDW X T Z e ta):PDT X T Z e ta:=h.pt
theorem MB (h:PDT X T Z a ta):PDT X T Z (.UnaryOp .Not a pos) (dNot ta):=by
  refine PT.imp (G3 h) λσ H Q ⟨F,r,env,bx,R,h⟩=>?_;refine⟨F,r,env,bx,R,End.bind h λk bx1 F1 r1 v H1 g1 R1 d1 h1=>?_⟩;subst d1;exact h1 F1 r1 _ H1 (.refl F1 r1) R1 rfl
noncomputable def gf (m k:DE W):DE W:=λenv bx=>fA (m env bx) λw bx1=>match w with|.d (.bl true)=>k env bx1|.d (.bl false)=>.val (.d (.bl false)) bx1|_=>.bad
noncomputable def dOrV (m k:DE W):DE W:=λenv bx=>fA (m env bx) λw bx1=>match w with|.d (.bl true)=>.val (.d (.bl true)) bx1|.d (.bl false)=>k env bx1|_=>.bad
noncomputable def dNotV (m:DE W):DE W:=λenv bx=>fA (m env bx) λw bx1=>match w with|.d (.bl k)=>.val (.d (.bl (!k))) bx1|_=>.bad
theorem Jy {op}(h:PD X T Z a ma):PD X T Z (.BoolOp op [a] pos) ma:=Ol h
theorem OX (ha:PD X T Z a ma) (hb:PD X T Z (.BoolOp .And (b::rest) pos) mb):PD X T Z (.BoolOp .And (a::b::rest) pos) (gf ma mb):=by
  refine PE.imp (Om ha hb) λσ H Q ⟨F,r,env,bx,R,h⟩=>?_;refine⟨F,r,env,bx,R,End.bind h λw bx1 F1 r1 v H1 g1 R1 d1 h1=>?_⟩;split at h1
  . refine⟨true,d1,?_⟩;rw[if_pos rfl];exact⟨F1,r1,env,bx1,R1,h1⟩
  . refine⟨false,d1,?_⟩;rw[if_neg (by decide)];exact h1 F1 r1 _ H1 (.refl F1 r1) R1 rfl
  . exact h1.elim
theorem Rw (ha:PD X T Z a ma) (hb:PD X T Z (.BoolOp .Or (b::rest) pos) mb):PD X T Z (.BoolOp .Or (a::b::rest) pos) (dOrV ma mb):=by
  refine PE.imp (Rn ha hb) λσ H Q ⟨F,r,env,bx,R,h⟩=>?_;refine⟨F,r,env,bx,R,End.bind h λw bx1 F1 r1 v H1 g1 R1 d1 h1=>?_⟩;split at h1
  . refine⟨true,d1,?_⟩;rw[if_pos rfl];exact h1 F1 r1 _ H1 (.refl F1 r1) R1 rfl
  . refine⟨false,d1,?_⟩;rw[if_neg (by decide)];exact⟨F1,r1,env,bx1,R1,h1⟩
  . exact h1.elim
theorem OY (ha:PD X T Z a ma):PD X T Z (.UnaryOp .Not a pos) (dNotV ma):=by
  refine PE.imp (On ha) λσ H Q ⟨F,r,env,bx,R,h⟩=>?_;refine⟨F,r,env,bx,R,End.bind h λw bx1 F1 r1 v H1 g1 R1 d1 h1=>?_⟩;split at h1
  . rename_i k;exact⟨k,d1,h1 F1 r1 _ H1 (.refl F1 r1) R1 rfl⟩
  . exact h1.elim
noncomputable def dIf (t:DE Bool) (m k:DE W):DE W:=λenv bx=>fA (t env bx) λb bx1=>match b with|true=>m env bx1|false=>k env bx1
theorem OZ (hc:PDT X T Z c ta) (ha:PD X T Z a ma) (hb:PD X T Z b mb):PD X T Z (.IfExp c a b pos) (dIf ta ma mb):=by
  refine PE.imp (G4 hc ha hb) λσ H Q ⟨F,r,env,bx,R,h⟩=>?_;refine⟨F,r,env,bx,R,End.bind h λk bx1 F1 r1 v H1 g1 R1 d1 h1=>?_⟩;subst d1;cases k with
  |true=>rw[if_pos rfl];exact⟨F1,r1,env,bx1,R1,h1⟩
  |false=>rw[if_neg (by decide)];exact⟨F1,r1,env,bx1,R1,h1⟩
noncomputable def dsOf:List W->Option (List D)
  |[]=>some []
  |.d x::l=>(dsOf l).map λt=>x::t
  |_=>none
theorem DenWs.ds {F:Hp}{r:List Addr}:∀ {ws:List W}{vs:List V}{ds:List D},DenWs F r ws vs->dsOf ws=some ds->DenL F ds vs
  |[],_,_,h,e=>by cases e;exact h
  | .d x::l,_,ds,h,e=>by
    obtain⟨v,t,q,h1,h2⟩:=h;unfold dsOf at e;cases e2:dsOf l with
    |none=>rw[e2]at e;cases e
    | some t' =>
      rw[e2]at e;cases e;exact⟨v,t,q,h1,h2.ds e2⟩
  |.b _::l,_,ds,h,e=>by cases e
  |.s _::l,_,ds,h,e=>by cases e
  |.x _::l,_,ds,h,e=>by cases e
noncomputable def ge (k:DE (List W)):DE W:=λenv bx=>fA (k env bx) λws bx1=>resO false ((dsOf ws).bind λl=>if l.length<=sizeLine then some (.tup l) else none) bx1
noncomputable def fN (bo:Bool) (k:DE (List W)):DE W:=λenv bx=>fA (k env bx) λws bx1=>resO bo ((dsOf ws).bind λl=>if l.length<=sizeLine then some (.lst l) else none) bx1
theorem O0 {x1}{k:DE (List W)}(h:PDA X T Z es k):PD X T Z (.Tuple es x1 pos) (ge k):=by
  refine PE.imp (Jd h) λσ H Q ⟨F,r,env,bx,R,h⟩=>?_;refine⟨F,r,env,bx,R,End.bind h λws bx1 F1 r1 vs H1 g1 R1 d1 h1=>?_⟩;cases e:dsOf ws with
  |none=>rw[e]at h1;exact h1.elim
  | some l =>
    rw[e]at h1;simp only[Option.bind_some]at h1;split at h1
    . have dl:=d1.ds e;refine⟨by rw[<-dl.length];assumption,λp hp=>gX R1 h1 (.inr ⟨p,vs,rfl,hp,rfl,dl⟩)⟩
    . exact h1.elim
theorem O1 {k:DE (List W)}(bo:Bool) (h:PDA X T Z es k):PD X T Z (.List es pos) (fN bo k):=by
  refine PE.imp (lI h) λσ H Q ⟨F,r,env,bx,R,h⟩=>?_;refine⟨F,r,env,bx,R,End.bind h λws bx1 F1 r1 vs H1 g1 R1 d1 h1=>?_⟩;cases e:dsOf ws with
  |none=>rw[e]at h1;exact h1.elim
  | some l =>
    rw[e]at h1;simp only[Option.bind_some]at h1;split at h1
    . have dl:=d1.ds e;refine⟨by rw[<-dl.length];assumption,λp hp=>gX R1 h1 ⟨p,vs,rfl,hp,rfl,dl⟩⟩
    . exact h1.elim
theorem Jz {x:Str}{id:String}{q:List V->Hp->VK->Prop}{g:List D->Option Res}{k:DE (List W)}(bo:Bool) (hc:CallR X (.builtin id) q) (hk:OkN q g) (hg:Gl X x) (hm:X.mg x=none) (hv:bootBuiltins x=some (.builtin id)) (ha:PDA X T Z (e::es) k)
    (hn:x ≠ "__name__":=by decide) (hdb:(x==("__debug__":Str))=false:=by decide)
    (he:starEach (e::es) X.env=(false,eval e X.env)::starEach es X.env:=by rfl) (hpl:(backTo pos (starEach es X.env)).any (·.1)=false:=by rfl):PD X T Z (.Call (.Name x p) (e::es) [] pos) (dN bo g k):=
  PE.imp (fU hc hg hm hv ha hn hdb he hpl) (DS hk)
theorem Gi {x:Str}{id:String}{q:List V->Hp->VK->Prop}{g:List D->Option Res}{k:DE (List W)}(bo:Bool) (hc:CallR X (.type id) q) (hk:OkN q g) (hg:Gl X x) (hm:X.mg x=none) (hv:bootBuiltins x=some (.type id)) (ha:PDA X T Z (e::es) k)
    (hn:x ≠ "__name__":=by decide) (hdb:(x==("__debug__":Str))=false:=by decide)
    (he:starEach (e::es) X.env=(false,eval e X.env)::starEach es X.env:=by rfl) (hpl:(backTo pos (starEach es X.env)).any (·.1)=false:=by rfl):PD X T Z (.Call (.Name x p) (e::es) [] pos) (dN bo g k):=
  PE.imp (Gc hc hg hm hv ha hn hdb he hpl) (DS hk)
def spD (cl:Nat->Addr) (n:Nat) (fn:List W->List Bx->O W):Sp:=λvs H Q E=>∃ F r ws bx,Rel ⟨H,r.length,F⟩ F r [] H [] bx /\ DenWs F r ws vs /\ ws.length=n /\ End ⟨H,r.length,F⟩ ⟨E,cl⟩ DenW F r [] [] Q (fn ws bx)
theorem DenWs.length {F:Hp}{r:List Addr}:∀ {ws:List W}{vs:List V},DenWs F r ws vs->ws.length=vs.length
  | [],_,h=>by
    have e:_=[]:=h;rw[e];rfl
  | d::l,_,h=>by
    obtain⟨v,t,e,_,h2⟩:=h;rw[e,List.length_cons,List.length_cons,h2.length]
theorem Rel.enter {T:Fr}{F H:Hp}{r:List Addr}{σ:St}{env:DEnv}{bx:List Bx}(R:Rel T F r σ H env bx):Rel ⟨H,r.length,F⟩ F r [] H [] bx :=
  ⟨R.fh,λi w e=>by simp at e,R.len,R.nd,R.box,λa u e _=>e,λn a hn e=>(by rw[List.getElem?_eq_none hn]at e;cases e),zL _,zL _,λa u e=>.inl e⟩
theorem Rel.after {T:Fr}{F F' H H':Hp}{r r':List Addr}{σ:St}{env:DEnv}{bx bx':List Bx}(R:Rel T F r σ H env bx) (g:Grow F r F' r') (R':Rel ⟨H,r.length,F⟩ F' r' [] H' [] bx'):Rel T F' r' σ H' env bx':=by
  have pre:∀ (n:Nat) (a:Addr),r[n]?=some a->r'[n]?=some a:=λn a e=>by
    obtain⟨t,rfl⟩:=g.p;rw[List.getElem?_append_left (List.getElem?_eq_some_iff.mp e).1];exact e
  have sub:∀ a,a∈r->a∈r':=λa h=>g.p.subset h;refine⟨R'.fh,λi w e=>?_,R'.len,R'.nd,R'.box,λa u e hn=>?_,λn a hn e=>?_,Nat.le_trans R.n0 g.p.length_le,R.sl,λa u e=>?_⟩
  . obtain⟨v,e1,e2⟩:=R.slot i w e;exact⟨v,e1,g.den e2⟩
  . exact R'.keep a u (R.keep a u e λz=>hn (sub a z)) hn
  . by_cases hl:n<r.length
    . have q:=pre n _ (List.getElem?_eq_getElem hl);rw[e]at q;cases q;exact R.new n _ hn (List.getElem?_eq_getElem hl)
    . have q:H a=none:=R'.new n a (Nat.le_of_not_lt hl) e;cases z:T.H₀ a with
      |none=>rfl
      | some u =>
        have hr:a∉r:=λha=>by
          obtain⟨m,em⟩:=List.mem_iff_getElem?.mp ha;have:=oW R'.nd (pre m a em) e;exact hl (by rw[<-this];exact(List.getElem?_eq_some_iff.mp em).1)
        rw[R.keep a u z hr]at q;cases q
  . rcases R'.fs a u e with z|z|z
    . exact(R.fs a u z).imp id (Or.imp id (sub a))
    . by_cases ha:a∈r
      . exact .inr (.inr (sub a ha))
      . refine .inr (.inl ?_);cases y:T.H₀ a with
        |none=>rfl
        | some u =>
          have z':H a=none:=z;rw[R.keep a u y ha]at z';cases z'
    . exact .inr (.inr z)
noncomputable def fk (fn:List W->List Bx->O W) (n:Nat) (k:DE (List W)):DE W:=λenv bx=>fA (k env bx) λws bx1=>if ws.length=n then fn ws bx1 else .bad
theorem O2 {fn:List W->List Bx->O W}{n:Nat}{k:DE (List W)}{σ:St}{H:Hp}{Q:VK}(h:tD T Z (fk fn n k) σ H Q):tCall (spD Z.cl n fn) [] Z.E (tDA T Z k) σ H Q:=by
  obtain⟨F,r,env,bx,R,h⟩:=h;refine⟨F,r,env,bx,R,End.bind h λws bx1 F1 r1 vs H1 g1 R1 d1 h1=>?_⟩;split at h1
  . rename_i hl;refine⟨F1,r1,ws,bx1,R1.enter,by rw[List.append_nil];exact d1,hl,?_⟩;cases e:fn ws bx1 with
    |val w bx'=>rw[e]at h1;exact λF' r' v H' g R' d=>h1 F' r' v H' g (R1.after g R') d
    |exc c bx'=>rw[e]at h1;exact λF' r' H' g R'=>h1 F' r' H' g (R1.after g R').drop
    |bad=>rw[e]at h1;exact h1
  . exact h1.elim
theorem MC {x:Str}{f:Addr}{fd:FuncData}{ps:List Str}{k:Nat}{fn:List W->List Bx->O W}{m:DE (List W)}(G:FnOk X.prog X.w X.K X.mg X.base (CXr X.prog X.w) k f fd ps (spD Z.cl ps.length fn)) (hr:Room k X.A) (hg:Gl X x) (hm:X.mg x=some (.ref f))
    (hk:PySem.W.keepIn X.K (.ref f)=true) (hb:Binds X.K fd ps []) (hx:Passes (CXr X.prog X.w) X Z.E) (ha:PDA X T Z (e::es) m) (hdb:(x==("__debug__":Str))=false:=by decide)
    (he:starEach (e::es) X.env=(false,eval e X.env)::starEach es X.env:=by rfl) (hpl:(backTo pos (starEach es X.env)).any (·.1)=false:=by rfl):PD X T Z (.Call (.Name x p) (e::es) [] pos) (fk fn ps.length m):=
  PE.imp (Mh G hr hg hm hk hb .nil hx ha hdb he hpl) λσ H Q h=>O2 h
end
inductive OS where
  |nx (env:DEnv) (bx:List Bx)|rt (w:W) (bx:List Bx)|bk (env:DEnv) (bx:List Bx)|ct (env:DEnv) (bx:List Bx)|exc (c:Nat) (bx:List Bx)|bad
noncomputable abbrev DSt:=DEnv->List Bx->OS
noncomputable def EndS (T:Fr) (Z:Xs) (F:Hp) (r:List Addr) (D:Ends):OS->Prop
  |.nx env' bx'=>∀ F' r' σ' H',Grow F r F' r'->Rel T F' r' σ' H' env' bx'->D.nx σ' H'
  |.rt w bx'=>∀ F' r' v H',Grow F r F' r'->Rel T F' r' [] H' [] bx'->DenW F' r' w v->D.rt v H'
  |.bk env' bx'=>∀ F' r' σ' H',Grow F r F' r'->Rel T F' r' σ' H' env' bx'->D.bk σ' H'
  |.ct env' bx'=>∀ F' r' σ' H',Grow F r F' r'->Rel T F' r' σ' H' env' bx'->D.ct σ' H'
  |.exc c bx'=>∀ F' r' H',Grow F r F' r'->Rel T F' r' [] H' [] bx'->Z.E (.ref (Z.cl c)) none H'
  |.bad=>False
theorem EndS.weak {T:Fr}{Z:Xs}{F F':Hp}{r r':List Addr}{D:Ends}(g:Grow F r F' r'):∀ {o:OS},EndS T Z F r D o->EndS T Z F' r' D o
  |.nx _ _,h=>λF2 r2 s2 H2 g2=>h F2 r2 s2 H2 (g.trans g2)
  |.rt _ _,h=>λF2 r2 s2 H2 g2=>h F2 r2 s2 H2 (g.trans g2)
  |.bk _ _,h=>λF2 r2 s2 H2 g2=>h F2 r2 s2 H2 (g.trans g2)
  |.ct _ _,h=>λF2 r2 s2 H2 g2=>h F2 r2 s2 H2 (g.trans g2)
  |.exc _ _,h=>λF2 r2 H2 g2=>h F2 r2 H2 (g.trans g2)
  |.bad,h=>h
noncomputable def bindS {α:Type}(m:O α) (k:α->List Bx->OS):OS :=
  match m with
  |.val a bx=>k a bx
  |.exc c bx=>.exc c bx
  |.bad=>.bad
theorem End.bindS {α β:Type}{T:Fr}{Z:Xs}{R1:Hp->List Addr->α->β->Prop}{F:Hp}{r:List Addr}{σ:St}{env:DEnv}{D:Ends}{Q1:β->Hp->Prop}
    {m:O α}{k:α->List Bx->OS}(h:EndS T Z F r D (DL.bindS m k))
    (c:∀ d bx1 F1 r1 v H1,Grow F r F1 r1->Rel T F1 r1 σ H1 env bx1->R1 F1 r1 d v->EndS T Z F1 r1 D (k d bx1)->Q1 v H1):End T Z R1 F r σ env Q1 m:=by
  cases m with
  |val d bx=>exact λF' r' v H' g R q=>c d bx F' r' v H' g R q (EndS.weak g h)
  |exc n bx=>exact h
  |bad=>exact h
def tS (T:Fr) (Z:Xs) (m:DSt):TS:=λD σ H=>∃ F r env bx,Rel T F r σ H env bx /\ EndS T Z F r D (m env bx)
def PSD (X:Cx) (T:Fr) (Z:Xs) (s:Stmt) (m:DSt):Prop:=PS X s (tS T Z m)
def PSDs (X:Cx) (T:Fr) (Z:Xs) (s:List Stmt) (m:DSt):Prop:=PSs X s (tS T Z m)
section
variable {X : Cx} {T : Fr} {Z : Xs} {a b c e : Expr} {es : List Expr} {ma mb mc : DE W} {pos p : Pos} {st : Stmt} {rest : List Stmt} {m k : DSt} {tc : DE Bool}
noncomputable def sNil:DSt:=λenv bx=>.nx env bx
noncomputable def fG (m k:DSt):DSt:=λenv bx=>match m env bx with|.nx env1 bx1=>k env1 bx1|o=>o
theorem MD:PSDs X T Z [] sNil:=PSs.imp DC λD σ H ⟨F,r,env,bx,R,h⟩=>h F r σ H (.refl F r) R
theorem JA (h1:PSD X T Z st m) (h2:PSDs X T Z rest k):PSDs X T Z (st::rest) (fG m k):=by
  refine PSs.imp (iA h1 h2) λD σ H ⟨F,r,env,bx,R,h⟩=>⟨F,r,env,bx,R,?_⟩;unfold fG at h;cases e:m env bx with
  |nx env1 bx1=>rw[e]at h;exact λF1 r1 σ1 H1 g R1=>⟨F1,r1,env1,bx1,R1,EndS.weak g h⟩
  |rt w bx1=>rw[e]at h;exact h
  |bk env1 bx1=>rw[e]at h;exact h
  |ct env1 bx1=>rw[e]at h;exact h
  |exc c bx1=>rw[e]at h;exact h
  |bad=>rw[e]at h;exact h
theorem ME (h1:PSD X T Z st m):PSDs X T Z [st] m:=oo h1
theorem JB:PSD X T Z (.Pass pos) sNil:=PS.imp Mc λD σ H ⟨F,r,env,bx,R,h⟩=>h F r σ H (.refl F r) R
noncomputable def iB (m:DE W):DSt:=λenv bx=>bindS (m env bx) λ_ bx1=>.nx env bx1
theorem JC (h:PD X T Z e ma) (hs:swapsWith e none pos.line X.env=pure false:=by rfl):PSD X T Z (.Expr e pos) (iB ma):=by
  refine PS.imp (DF h hs) λD σ H ⟨F,r,env,bx,R,h⟩=>?_;exact⟨F,r,env,bx,R,End.bindS h λw bx1 F1 r1 v H1 g1 R1 d1 h1=>h1 F1 r1 σ H1 (.refl F1 r1) R1⟩
noncomputable def fQ (m:DE W):DSt:=λenv bx=>bindS (m env bx) λw bx1=>.rt w bx1
theorem MF (h:PD X T Z e ma):PSD X T Z (.Return (some e) pos) (fQ ma):=by
  refine PS.imp (Bb h) λD σ H ⟨F,r,env,bx,R,h⟩=>?_;exact⟨F,r,env,bx,R,End.bindS h λw bx1 F1 r1 v H1 g1 R1 d1 h1=>h1 F1 r1 v H1 (.refl F1 r1) R1.drop d1⟩
noncomputable def sRetN:DSt:=λenv bx=>.rt (.d .non) bx
theorem JD:PSD X T Z (.Return none pos) sRetN:=PS.imp Md λD σ H ⟨F,r,env,bx,R,h⟩=>h F r .non H (.refl F r) R.drop rfl
noncomputable def sIf (t:DE Bool) (m k:DSt):DSt:=λenv bx=>bindS (t env bx) λb bx1=>match b with|true=>m env bx1|false=>k env bx1
theorem O3 {sa sb:List Stmt}(hc:PDT X T Z c tc) (ha:PSDs X T Z sa m) (hb:PSDs X T Z sb k):PSD X T Z (.If c sa sb pos) (sIf tc m k):=by
  refine PS.imp (NX hc ha hb) λD σ H ⟨F,r,env,bx,R,h⟩=>?_;refine⟨F,r,env,bx,R,End.bindS h λw bx1 F1 r1 v H1 g1 R1 d1 h1=>?_⟩;subst d1;cases w with
  |true=>rw[if_pos rfl];exact⟨F1,r1,env,bx1,R1,h1⟩
  |false=>rw[if_neg (by decide)];exact⟨F1,r1,env,bx1,R1,h1⟩
noncomputable abbrev DG:=W->DEnv->List Bx->Option (DEnv×List Bx)
noncomputable abbrev DGs:=List W->DEnv->List Bx->Option (DEnv×List Bx)
noncomputable def EndG (T:Fr) (F:Hp) (r:List Addr) (Q:St->Hp->Prop):Option (DEnv×List Bx)->Prop
  |none=>False
  |some (env',bx')=>∀ F' r' σ' H',Grow F r F' r'->Rel T F' r' σ' H' env' bx'->Q σ' H'
def tG (T:Fr) (g:DG):TG:=λv σ H Q=>∃ F r env bx w,Rel T F r σ H env bx /\ DenW F r w v /\ EndG T F r Q (g w env bx)
noncomputable def tGs (T:Fr) (g:DGs):TGs:=λvs σ H Q=>∃ F r env bx ws,Rel T F r σ H env bx /\ DenWs F r ws vs /\ EndG T F r Q (g ws env bx)
def PGD (X:Cx) (T:Fr) (tg:Expr) (g:DG):Prop:=PG X tg (tG T g)
def PGDs (X:Cx) (T:Fr) (tg:List Expr) (g:DGs):Prop:=PGs X tg (tGs T g)
theorem PG.imp {X:Cx}{tg:Expr}{t t':TG}(h:PG X tg t) (f:∀ v σ H Q,t' v σ H Q->t v σ H Q):PG X tg t':=λpins s σ H v u Q I r q=>h pins s σ H v u Q I r (f v σ H Q q)
theorem PGs.imp {X:Cx}{tg:List Expr}{t t':TGs}(h:PGs X tg t) (f:∀ v σ H Q,t' v σ H Q->t v σ H Q):PGs X tg t':=λpins s σ H v u Q I r q=>h pins s σ H v u Q I r (f v σ H Q q)
noncomputable def fg (i:Nat):DG:=λw env bx=>some (env.set i (some w),bx)
theorem Rel.set {F H:Hp}{r:List Addr}{σ:St}{env:DEnv}{bx:List Bx}(R:Rel T F r σ H env bx) {w:W}{v:V}(d:DenW F r w v) (i:Nat):Rel T F r (σ.set i (some v)) H (env.set i (some w)) bx:=by
  refine⟨R.fh,λj w' e=>?_,R.len,R.nd,R.box,R.keep,R.new,R.n0,by rw[List.length_set,List.length_set];exact R.sl,R.fs⟩;by_cases hj:j=i
  . subst hj;have hl:j<env.length:=by
      have:=(List.getElem?_eq_some_iff.mp e).1;rw[List.length_set]at this;exact this
    rw[List.getElem?_set_self hl]at e;cases e;exact⟨v,List.getElem?_set_self (Nat.lt_of_lt_of_le hl R.sl),d⟩
  . rw[List.getElem?_set_ne (Ne.symm hj)]at e;obtain⟨u,e1,e2⟩:=R.slot j w' e;exact⟨u,by rw[List.getElem?_set_ne (Ne.symm hj)];exact e1,e2⟩
theorem JE (i:Nat) {x:Str}(hN:X.N.Nodup) (hi:X.N[i]?=some x:=by rfl) (hx:Loc X.env.scope x:=by first|exact Or.inl rfl|exact Or.inr rfl) (hf:X.fn x=true \/ X.env.scope.names.lookup x=some .local:=by first|exact .inl rfl|exact .inr rfl|assumption):PGD X T (.Name x pos) (fg i):=
  PG.imp (Bc hN hi hx hf) λv σ H Q ⟨F,r,env,bx,w,R,d,h⟩=>h F r _ H (.refl F r) (R.set d i)
noncomputable def lY:DGs:=λws env bx=>match ws with|[]=>some (env,bx)|_=>none
noncomputable def gF (g:DG) (k:DGs):DGs:=λws env bx=>match ws with|w::l=>(g w env bx).bind λ(env1,bx1)=>k l env1 bx1|_=>none
theorem JF:PGDs X T [] lY:=PGs.imp DH λv σ H Q ⟨F,r,env,bx,w,R,d,h⟩=>by
  cases w with
  |nil=>exact⟨d,h F r σ H (.refl F r) R⟩
  |cons _ _=>exact h.elim
theorem Gj {g:DG}{k:DGs}(h1:PGD X T e g) (h2:PGDs X T es k) (hs:(assignEach (e::es) X.env).map (·.2)=assign e X.env::(assignEach es X.env).map (·.2):=by rfl):PGDs X T (e::es) (gF g k):=by
  refine PGs.imp (oJ h1 h2 hs) λv σ H Q ⟨F,r,env,bx,ws,R,d,h⟩=>?_;cases ws with
  |nil=>exact h.elim
  | cons w l =>
    obtain⟨u,t,rfl,d1,d2⟩:=d;refine⟨u,t,rfl,F,r,env,bx,w,R,d1,?_⟩;unfold gF at h;cases eg:g w env bx with
    |none=>simp only[eg]at h;exact h.elim
    | some o =>
      obtain⟨env1,bx1⟩:=o;simp only[eg,Option.bind_some]at h;intro F1 r1 σ1 H1 g1 R1;refine⟨F1,r1,env1,bx1,l,R1,d2.mono g1,?_⟩;cases ek:k l env1 bx1 with
      |none=>simp only[ek]at h;exact h.elim
      | some o2 =>
        simp only[ek]at h;exact λF2 r2 σ2 H2 g2 R2=>h F2 r2 σ2 H2 (g1.trans g2) R2
theorem DenL.ws {F:Hp}{r:List Addr}:∀ {l:List D}{vs:List V},DenL F l vs->DenWs F r (l.map W.d) vs
  |[],_,h=>h
  | d::l,_,h=>by
    obtain⟨v,t,e,h1,h2⟩:=h;exact⟨v,t,e,h1,h2.ws⟩
noncomputable def jM (n:Nat) (k:DGs):DG:=λw env bx=>match w with|.d (.tup l)=>if l.length=n then k (l.map W.d) env bx else none|_=>none
theorem MG {k:DGs}{n i:Nat}(hc:X.calm=true) (h:PGDs X T es k) (hn:(assignEach es X.env).length=n:=by rfl) (hst:(assignEach es X.env).findIdx? (·.1)=none:=by rfl):PGD X T (.Tuple es i pos) (jM n k):=by
  refine PG.imp (G5 hc h hn hst) λv σ H Q ⟨F,r,env,bx,w,R,d,h⟩=>?_;unfold jM at h;split at h
  . rename_i l;split at h
    . rename_i hl;obtain⟨p,vs,rfl,h1,h2⟩:=d;exact⟨p,vs,rfl,.of (R.fh _ _ h1),by rw[<-h2.length];exact hl,F,r,env,bx,_,R,h2.ws,h⟩
    . exact h.elim
  . exact h.elim
noncomputable def fP (m:DE W) (g:DG):DSt:=λenv bx=>bindS (m env bx) λw bx1=>match g w env bx1 with|some (env1,bx2)=>.nx env1 bx2|none=>.bad
theorem Rx {g:DG}{D:Ends}{σ:St}{H:Hp}(h:tS T Z (fP ma g) D σ H):tAsg (tD T Z ma) (tG T g) D σ H:=by
  obtain⟨F,r,env,bx,R,h⟩:=h;refine⟨F,r,env,bx,R,End.bindS h λw bx1 F1 r1 v H1 g1 R1 d1 h1=>⟨F1,r1,env,bx1,w,R1,d1,?_⟩⟩;cases eg:g w env bx1 with
  |none=>simp only[eg]at h1;exact h1.elim
  |some o=>simp only[eg]at h1;exact h1
theorem DU {tg:Expr}{g:DG}(he:PD X T Z e ma) (hg:PGD X T tg g) (hs:swapsWithSole [tg] e pos.line X.env=pure false:=by rfl) (hw:swappedStores [tg] e X.env=pure none:=by rfl)
    (h1:(assignEach [tg] X.env).map (·.2)=[assign tg X.env]:=by rfl):PSD X T Z (.Assign [tg] e pos) (fP ma g):=
  PS.imp (G6 he hg hs hw h1) λD σ H h=>Rx h
theorem DV (i:Nat) {x:Str}{pos':Pos}(he:PD X T Z e ma) (hN:X.N.Nodup) (hi:X.N[i]?=some x:=by rfl) (hx:Loc X.env.scope x:=by first|exact Or.inl rfl|exact Or.inr rfl) (hs:swapsWith e (some (.Name x pos')) pos.line X.env=pure false:=by rfl) (hf:X.fn x=true \/ X.env.scope.names.lookup x=some .local:=by first|exact .inl rfl|exact .inr rfl|assumption) :
    PSD X T Z (.Assign [.Name x pos'] e pos) (fP ma (fg i)):=by
  refine PS.imp (mF hN hi hx he hs hf) λD σ H ⟨F,r,env,bx,R,h⟩=>?_;exact⟨F,r,env,bx,R,End.bindS h λw bx1 F1 r1 v H1 g1 R1 d1 h1=>h1 F1 r1 _ H1 (.refl F1 r1) (R1.set d1 i)⟩
noncomputable def sPar (i j:Nat) (m:DE (List W)):DSt:=λenv bx=>bindS (m env bx) λws bx1=>match ws with|[x,y]=>.nx ((env.set i (some x)).set j (some y)) bx1|_=>.bad
theorem Ry {i j:Nat}{m:DE (List W)}{D:Ends}{σ:St}{H:Hp}(h:tS T Z (sPar i j m) D σ H):tPar i j (tDA T Z m) D σ H:=by
  obtain⟨F,r,env,bx,R,h⟩:=h;refine⟨F,r,env,bx,R,End.bindS h λws bx1 F1 r1 vs H1 g1 R1 d1 h1=>?_⟩;split at h1
  . obtain⟨v,t,rfl,q1,u,t2,rfl,q2,q3⟩:=d1;cases (show t2=[] from q3);exact⟨v,u,rfl,h1 F1 r1 _ H1 (.refl F1 r1) ((R1.set q1 i).set q2 j)⟩
  . exact h1.elim
def Yields (F:Hp) (r:List Addr) (ds:List W) (J:It):Prop :=
  ∀ (T:Fr) (i:Nat) (F1:Hp) (r1:List Addr) (σ1:St) (H1:Hp) (env1:DEnv) (bx1:List Bx),Grow F r F1 r1->Rel T F1 r1 σ1 H1 env1 bx1 ->
    (ds.length=i->J.stop i H1) /\ ∀ w,ds[i]?=some w->J.go i H1 /\ ∀ x H2,J.yld i H1 x H2->∃ F2,Grow F1 r1 F2 r1 /\ Rel T F2 r1 σ1 H2 env1 bx1 /\ DenW F2 r1 w x
def tI (T:Fr) (Z:Xs) (m:DE (List W)):TI:=λσ H R=>∃ F r env bx,Rel T F r σ H env bx /\ End T Z Yields F r σ env R (m env bx)
def PID (X:Cx) (T:Fr) (Z:Xs) (tg iter:Expr) (m:DE (List W)):Prop:=PI X tg iter (tI T Z m)
theorem PI.imp {X:Cx}{tg iter:Expr}{t t':TI}(h:PI X tg iter t) (f:∀ σ H Q,t' σ H Q->t σ H Q):PI X tg iter t':=λpins s σ H R I q=>h pins s σ H R I (f σ H R q)
noncomputable def forD (g:DG) (body:DSt):List W->DSt
  |[],env,bx=>.nx env bx
  | w::l,env,bx=>match g w env bx with
    |none=>.bad
    | some (env1,bx1)=>match body env1 bx1 with
      |.nx env2 bx2=>forD g body l env2 bx2
      |.ct env2 bx2=>forD g body l env2 bx2
      |.bk env2 bx2=>.nx env2 bx2
      |o=>o
noncomputable def il (m:DE (List W)) (g:DG) (body:DSt):DSt:=λenv bx=>bindS (m env bx) λds bx1=>forD g body ds env bx1
theorem Rz {mi:DE (List W)}{g:DG}{D:Ends}{σ:St}{H:Hp}(h:tS T Z (il mi g m) D σ H):tFor (tI T Z mi) (tG T g) (tS T Z m) D σ H:=by
  obtain⟨F,r,env,bx,R,h⟩:=h;refine⟨F,r,env,bx,R,End.bindS h λds bx1 F1 r1 J H1 g1 R1 y1 h1=>?_⟩;refine⟨λi n σ' H'=>∃ pre l F' r' env' bx',ds=pre++l /\ pre.length=i /\ n=l.length /\ Grow F1 r1 F' r' /\ Rel T F' r' σ' H' env' bx' /\ EndS T Z F' r' D (forD g m l env' bx'),⟨ds.length,[],ds,F1,r1,env,bx1,rfl,rfl,rfl,.refl F1 r1,R1,h1⟩,?_⟩;rintro i n σ' H' ⟨pre,l,F',r',env',bx',hds,hi,hn,g',R',h'⟩;obtain⟨ys,yg⟩:=y1 T i F' r' σ' H' env' bx' g' R';cases l with
  |nil=>exact .inl ⟨ys (by rw[hds,List.append_nil];omega),h' F' r' σ' H' (.refl F' r') R'⟩
  | cons w l =>
    obtain⟨go,yl⟩:=yg w (by rw[hds,List.getElem?_append_right (by omega),hi,Nat.sub_self];rfl);refine .inr ⟨go,λσ2 H2=>∃ F2 r2 env2 bx2,Grow F1 r1 F2 r2 /\ Rel T F2 r2 σ2 H2 env2 bx2 /\ EndS T Z F2 r2 D (forD g m l env2 bx2),λσ2 H2 ⟨F2,r2,env2,bx2,g2,R2,h2⟩=>⟨l.length,by rw[hn];exact Nat.lt_succ_self _,pre++[w],l,F2,r2,env2,bx2,by rw[hds,List.append_assoc];rfl,by rw[List.length_append,hi];rfl,rfl,g2,R2,h2⟩,λx H2 hy=>?_⟩;obtain⟨F2,g2,R2,d2⟩:=yl x H2 hy;refine⟨F2,r',env',bx',w,R2,d2,?_⟩;simp only[forD]at h';cases eg:g w env' bx' with
    |none=>simp only[eg]at h';exact h'.elim
    | some o =>
      obtain⟨env3,bx3⟩:=o;simp only[eg]at h';intro F3 r3 σ3 H3 g3 R3;refine⟨F3,r3,env3,bx3,R3,?_⟩;have gg:=(g'.trans g2).trans g3;cases em:m env3 bx3 with
      |nx env4 bx4=>simp only[em]at h';exact λF4 r4 σ4 H4 g4 R4=>⟨F4,r4,env4,bx4,gg.trans g4,R4,EndS.weak ((g2.trans g3).trans g4) h'⟩
      |ct env4 bx4=>simp only[em]at h';exact λF4 r4 σ4 H4 g4 R4=>⟨F4,r4,env4,bx4,gg.trans g4,R4,EndS.weak ((g2.trans g3).trans g4) h'⟩
      |bk env4 bx4=>simp only[em]at h';exact λF4 r4 σ4 H4 g4 R4=>h' F4 r4 σ4 H4 ((g2.trans g3).trans g4) R4
      |rt w bx4=>simp only[em]at h';exact EndS.weak (g2.trans g3) (o:=.rt w bx4) h'
      |exc c bx4=>simp only[em]at h';exact EndS.weak (g2.trans g3) (o:=.exc c bx4) h'
      |bad=>simp only[em]at h';exact h'
theorem DW {tg iter:Expr}{body:List Stmt}{mi:DE (List W)}{g:DG}(hp:PassesOwn (model X.prog X.w) X.A X.env X.xe) (hc:X.calm=true) (hi:PID X T Z tg iter mi) (hg:PGD X T tg g) (hb:PSDs X T Z body m)
    (hs:∀ x,foldedSetIterable iter X.env x=pure x:=by intro _;rfl):PSD X T Z (.For tg iter body [] pos) (il mi g m):=
  PS.imp (Oq hp hc hi hg hb hs) λD σ H h=>Rz h
noncomputable def dIter (m:DE W):DE (List W):=λenv bx=>fA (m env bx) λw bx1=>match w with|.d (.lst l)=>.val (l.map W.d) bx1|.d (.tup l)=>.val (l.map W.d) bx1|_=>.bad
end
noncomputable def retO:OS->O W
  |.rt w bx=>.val w bx
  |.nx _ bx=>.val (.d .non) bx
  |.exc c bx=>.exc c bx
  |_=>.bad
noncomputable def cutO (n:Nat):O W->O W
  |.val (.d x) bx=>.val (.d x) (bx.take n)
  |.val w bx=>.val w bx
  |.exc c bx=>.exc c (bx.take n)
  |.bad=>.bad
noncomputable def envOf (n:Nat) (ws:List W):DEnv:=ws.map some++List.replicate (n-ws.length) none
noncomputable def fnD (n:Nat) (m:DSt):List W->List Bx->O W:=λws bx=>cutO bx.length (retO (m (envOf n ws) bx))
noncomputable def noX (m:DSt):DSt:=λenv bx=>match m env bx with|.exc _ _=>.bad|o=>o
theorem DenWs.get {F:Hp}{r:List Addr}:∀ {l:List W}{vs:List V}{i:Nat}{d:W},DenWs F r l vs->l[i]?=some d->∃ v,vs[i]?=some v /\ DenW F r d v
  |[],_,_,_,_,e=>by simp at e
  | x::l,_,0,d,h,e=>by
    obtain⟨v,t,q,h1,_⟩:=h;simp at e;subst e;subst q;exact⟨v,rfl,h1⟩
  | x::l,_,i+1,d,h,e=>by
    obtain⟨v,t,q,_,h2⟩:=h;subst q;obtain⟨u,e1,e2⟩:=DenWs.get (i:=i) h2 (by simpa using e);exact⟨u,by simpa using e1,e2⟩
theorem Rel.start {T:Fr}{F H:Hp}{r:List Addr}{bx:List Bx}{N:List Str}{ws:List W}{vs:List V}(R:Rel T F r [] H [] bx) (d:DenWs F r ws vs):Rel T F r (start N vs) H (envOf N.length ws) bx:=by
  have hl:=d.length;refine⟨R.fh,λi w e=>?_,R.len,R.nd,R.box,R.keep,R.new,R.n0,?_,R.fs⟩
  . unfold envOf at e;unfold L2.start;by_cases hi:i<ws.length
    . rw[List.getElem?_append_left (by rw[List.length_map];exact hi),List.getElem?_map]at e;cases q:ws[i]? with
      |none=>rw[q]at e;cases e
      | some w' =>
        rw[q]at e;cases e;obtain⟨v,e1,e2⟩:=d.get q;refine⟨v,?_,e2⟩;rw[List.getElem?_append_left (by rw[List.length_map,<-hl];exact hi),List.getElem?_map,e1];rfl
    . rw[List.getElem?_append_right (by rw[List.length_map];omega)]at e;rw[List.getElem?_replicate]at e;split at e<;>cases e
  . unfold envOf L2.start;rw[List.length_append,List.length_append,List.length_map,List.length_map,List.length_replicate,List.length_replicate,hl];exact zL _
theorem JG {α:Type}{l l':List α}(h:l <+: l'):l'.take l.length=l:=by
  obtain⟨t,rfl⟩:=h;simp
theorem Rel.cut {F F' H H':Hp}{r r':List Addr}{bx':List Bx}(g:Grow F r F' r') (R:Rel ⟨H,r.length,F⟩ F' r' [] H' [] bx'):Rel ⟨H,r.length,F⟩ F' r [] H' [] (bx'.take r.length):=by
  have hr:r'.take r.length=r:=JG g.p;have hle:r.length<=r'.length:=g.p.length_le;have pre:∀ (n:Nat) (a:Addr),r[n]?=some a->r'[n]?=some a:=λn a e=>by
    obtain⟨t,rfl⟩:=g.p;rw[List.getElem?_append_left (List.getElem?_eq_some_iff.mp e).1];exact e
  refine⟨R.fh,λi w e=>by simp at e,?_,?_,λn c a e1 e2=>?_,λa u e hn=>?_,λn a hn e=>?_,zL _,zL _,λa u e=>?_⟩
  . rw[List.length_take,<-R.len];omega
  . exact List.Sublist.nodup (List.IsPrefix.sublist g.p) R.nd
  . have hlt:=(List.getElem?_eq_some_iff.mp e2).1;rw[List.getElem?_take_of_lt hlt]at e1;exact R.box n c a e1 (pre n a e2)
  . refine R.keep a u e λz=>?_;obtain⟨m,em⟩:=List.mem_iff_getElem?.mp z;by_cases hm:m<r.length
    . have q:=pre m _ (List.getElem?_eq_getElem hm);rw[em]at q;cases q;exact hn (List.getElem_mem hm)
    . have q:=R.new m a (Nat.le_of_not_lt hm) em;have e':H a=some u:=e;have q':H a=none:=q;rw[e']at q';cases q'
  . rw[List.getElem?_eq_none hn]at e;cases e
  . rcases R.fs a u e with z|z|z
    . exact .inl z
    . exact .inr (.inl z)
    . obtain⟨m,em⟩:=List.mem_iff_getElem?.mp z;by_cases hm:m<r.length
      . have q:=pre m _ (List.getElem?_eq_getElem hm);rw[em]at q;cases q;exact .inr (.inr (List.getElem_mem hm))
      . exact .inr (.inl (R.new m a (Nat.le_of_not_lt hm) em))
theorem DX {F H:Hp}{r:List Addr}{Q:VK}{Z:Xs}{bx:List Bx}(hb:bx.length=r.length) {o:O W}(h:End ⟨H,r.length,F⟩ Z DenW F r [] [] Q (cutO bx.length o)):End ⟨H,r.length,F⟩ Z DenW F r [] [] Q o:=by
  rw[hb]at h;cases o with
  |bad=>exact h
  |exc c bx1=>exact λF' r' H' g R=>h F' r H' ⟨g.s,List.prefix_refl r⟩ (R.cut g)
  | val w bx1 =>
    cases w with
    |d x=>exact λF' r' v H' g R d=>h F' r v H' ⟨g.s,List.prefix_refl r⟩ (R.cut g) d
    |b n=>exact h
    |s l=>exact h
    |x i=>exact h
theorem DY {T:Fr}{Z:Xs}{F:Hp}{r:List Addr}{Q:VK}{o:OS}(h:End T Z DenW F r [] [] Q (retO o)):EndS T Z F r { nx:=λ_ H'=>Q .non H',rt:=Q } o:=by
  cases o with
  |nx env bx=>exact λF' r' σ' H' g R=>h F' r' .non H' g R.drop rfl
  |rt w bx=>exact λF' r' v H' g R d=>h F' r' v H' g R d
  |exc c bx=>exact h
  |bk env bx=>exact(show False from h).elim
  |ct env bx=>exact(show False from h).elim
  |bad=>exact h
section
variable {P : Program} {w : World} {K : PySem.W.Frag} {mg : Str -> Option Value} {base : Heap} {x qual : Str} {st : Stmt} {f : Addr} {fd : FuncData} {N ps : List Str} {k : Nat} {m : DSt} {cl : Nat -> Addr}
theorem Sq (F:Fun K x qual st f fd) (S:FnScope N ps (fu st))
    (hbody:∀ (cdv:Value) (A:Around) (outer:List Env) (s:Shared) (H:Hp) (E:XK) (n:Nat) (F0:Hp),Room k (A.deeper (envOfC qual (fu st) s.heap.objs.size f cdv)) ->
      PSDs (cxOf (CXr P w) P w K mg base N qual (fu st) f cdv A outer s H E) ⟨H,n,F0⟩ ⟨E,cl⟩ (gj st) m):FnOk P w K mg base (CXr P w) (k+1) f fd ps (spD cl ps.length (fnD N.length m)):=by
  refine F.okX S (λvs H Q E h=>?_) (λcdv A outer s H vs Q E hr h=>?_)
  . obtain⟨F,r,ws,bx,_,d,hl,_⟩:=h;rw[<-d.length];exact hl
  . obtain⟨F,r,ws,bx,R,d,hl,h⟩:=h;exact⟨_,hbody cdv A outer s H E r.length F hr,F,r,envOf N.length ws,bx,R.start d,DY (DX R.len.symm h)⟩
theorem RC {CX:CXT}{sp:Sp}(G:FnOk P w K mg base CX0 k f fd ps sp):FnOk P w K mg base CX k f fd ps sp :=
  ⟨G.len,λA outer s H args us vs Q E hr e0 hb hv hs=>codeAny_mono (G.run A outer s H args us vs Q E hr e0 hb hv hs) λr s' h=>by
    cases r with
    |error e=>exact False.elim h
    | ok fl =>
      cases fl with
      |ret u=>exact h
      |next=>exact h
      |brk=>exact h
      |cont=>exact h⟩
theorem RD (F:Fun K x qual st f fd) (S:FnScope N ps (fu st))
    (hbody:∀ (cdv:Value) (A:Around) (outer:List Env) (s:Shared) (H:Hp) (E:XK) (n:Nat) (F0:Hp),Room k (A.deeper (envOfC qual (fu st) s.heap.objs.size f cdv)) ->
      PSDs (cxOf CX0 P w K mg base N qual (fu st) f cdv A outer s H E).nox ⟨H,n,F0⟩ ⟨E0,cl⟩ (gj st) m):FnOk P w K mg base (CXr P w) (k+1) f fd ps (spD cl ps.length (fnD N.length (noX m))):=by
  refine RC (F.ok S (λvs H Q E h=>?_) (λcdv A outer s H vs Q E hr h=>?_))
  . obtain⟨F,r,ws,bx,_,d,hl,_⟩:=h;rw[<-d.length];exact hl
  . obtain⟨F,r,ws,bx,R,d,hl,h⟩:=h;refine⟨_,hbody cdv A outer s H E r.length F hr,F,r,envOf N.length ws,bx,R.start d,?_⟩;have h':=DY (DX R.len.symm h);unfold noX at h';cases e:m (envOf N.length ws) bx with
    |nx env bx1=>simp only[e]at h';exact h'
    |rt w bx1=>simp only[e]at h';exact h'
    |bk env bx1=>simp only[e]at h';exact h'
    |ct env bx1=>simp only[e]at h';exact h'
    |exc c bx1=>simp only[e]at h';exact h'.elim
    |bad=>simp only[e]at h';exact h'
end
theorem Bl {X:Cx}:Passes (CXr X.prog X.w) X E0:=λ_ _ _ _ _ _ _ h=>by
  obtain⟨_,_,_,_,_,_,_,_,_,_,_,_,_,h⟩:=h;exact h.elim
section
variable {X : Cx} {T : Fr} {Z : Xs} {m : DSt} {sts : List Stmt}
end
noncomputable def bindB {α β:Type}(m:O α) (k:α->List Bx->O β):O β :=
  match m with
  |.val a bx=>k a bx
  |_=>.bad
noncomputable def compD (g:DG) (tf:DE Bool) (te:DE W):List W->DEnv->List Bx->List D->O (List D)
  |[],_,bx,acc=>.val acc bx
  | w::l,env,bx,acc=>match g w env bx with
    |none=>.bad
    | some (env1,bx1)=>bindB (tf env1 bx1) λb bx2=>match b with
      |false=>compD g tf te l env1 bx2 acc
      | true=>bindB (te env1 bx2) λy bx3=>match y with
        |.d d=>if acc.length<sizeLine then compD g tf te l env1 bx3 (acc++[d]) else .bad
        |_=>.bad
noncomputable def srcEnv (src:List (Option Nat)) (env:DEnv):DEnv:=src.map λo=>o.bind λi=>(env[i]?).bind id
noncomputable def fD (bo:Bool) (src:List (Option Nat)) (mi:DE (List W)) (g:DG) (tf:DE Bool) (te:DE W):DE W:=λenv bx =>
  fA (mi env bx) λds bx1=>fA (compD g tf te ds (srcEnv src env) bx1 []) λl bx2=>resO bo (some (.lst l)) bx2
theorem Rel.src {T:Fr}{F H:Hp}{r:List Addr}{σ:St}{env:DEnv}{bx:List Bx}(R:Rel T F r σ H env bx) (src:List (Option Nat)):Rel T F r (srcSt src σ) H (srcEnv src env) bx:=by
  refine⟨R.fh,λj w e=>?_,R.len,R.nd,R.box,R.keep,R.new,R.n0,?_,R.fs⟩
  . unfold srcEnv at e;unfold L2.srcSt;rw[List.getElem?_map]at e ⊢;cases q:src[j]? with
    |none=>rw[q]at e;cases e
    | some o =>
      rw[q]at e;cases o with
      |none=>cases e
      | some i =>
        have e':(env[i]?).bind id=some w:=Option.some.inj e;cases z:env[i]? with
        |none=>rw[z]at e';cases e'
        | some o' =>
          rw[z]at e';have e2:o'=some w:=e';subst e2;obtain⟨v,e1,e2⟩:=R.slot i w z;exact⟨v,by simp[e1],e2⟩
  . unfold srcEnv L2.srcSt;rw[List.length_map,List.length_map];exact zL _
theorem Rel.inner {T:Fr}{F F' H H':Hp}{r r':List Addr}{σ σ':St}{env env':DEnv}{bx bx':List Bx}(R:Rel T F r σ H env bx) (g:Grow F r F' r') (R':Rel ⟨H,r.length,F⟩ F' r' σ' H' env' bx'):Rel T F' r' σ' H' env' bx':=by
  have q:=R.after g R'.drop;exact⟨q.fh,R'.slot,q.len,q.nd,q.box,q.keep,q.new,q.n0,R'.sl,q.fs⟩
theorem Rel.again {T:Fr}{F H:Hp}{r:List Addr}{σ:St}{env:DEnv}{bx:List Bx}(R:Rel T F r σ H env bx):Rel ⟨H,r.length,F⟩ F r σ H env bx :=
  ⟨R.fh,R.slot,R.len,R.nd,R.box,λa u e _=>e,λn a hn e=>(by rw[List.getElem?_eq_none hn]at e;cases e),zL _,R.sl,λa u e=>.inl e⟩
structure Own (F:Hp) (r:List Addr) (H:Hp) (a:Addr) (vs:List V):Prop where
  h:H a=some (.lst vs)
  f:F a=none
  b:a∉r
theorem Own.inner {F F' H H':Hp}{r r':List Addr}{σ':St}{env':DEnv}{bx':List Bx}{a:Addr}{vs:List V}(o:Own F r H a vs) (g:Grow F r F' r') (R':Rel ⟨H,r.length,F⟩ F' r' σ' H' env' bx'):Own F' r' H' a vs:=by
  have hb:a∉r':=λz=>by
    obtain⟨m,em⟩:=List.mem_iff_getElem?.mp z;by_cases hm:m<r.length
    . obtain⟨t,e⟩:=g.p;rw[<-e,List.getElem?_append_left hm]at em;exact o.b (List.mem_iff_getElem?.mpr ⟨m,em⟩)
    . have q:H a=none:=R'.new m a (Nat.le_of_not_lt hm) em;rw[o.h]at q;cases q
  refine⟨R'.keep a _ o.h hb,?_,hb⟩;cases q:F' a with
  |none=>rfl
  | some u =>
    rcases R'.fs a u q with z|z|z
    . have z':F a=some u:=z;rw[o.f]at z';cases z'
    . have z':H a=none:=z;rw[o.h]at z';cases z'
    . exact absurd z hb
section
variable {T : Fr} {F H : Hp} {r : List Addr} {σ : St} {env : DEnv} {bx : List Bx}
theorem Rel.priv (R:Rel T F r σ H env bx) {p:Addr}{o:HO}(h:H p=none):Rel T F r σ (upd H p o) env bx:=by
  have hs:∀ a u,H a=some u->upd H p o a=some u:=λa u e=>by rw[fq (fJ e h)];exact e
  exact⟨λa u e=>hs a u (R.fh a u e),R.slot,R.len,R.nd,λn c a e1 e2=>(R.box n c a e1 e2).grow (Sub.refl F) id (hs a),λa u e hn=>hs a u (R.keep a u e hn),R.new,R.n0,R.sl,R.fs⟩
theorem Rel.privSet (R:Rel T F r σ H env bx) {p:Addr}{vs:List V}{o:HO}(w:Own F r H p vs) (hT:T.H₀ p=none):Rel T F r σ (upd H p o) env bx:=by
  refine⟨λa u e=>?_,R.slot,R.len,R.nd,λn c a e1 e2=>?_,λa u e hn=>?_,R.new,R.n0,R.sl,R.fs⟩
  . rw[fq (λz=>by rw[z,w.f]at e;cases e)];exact R.fh a u e
  . have ha:a≠p:=λz=>w.b (List.mem_iff_getElem?.mpr ⟨n,z▸e2⟩);exact(R.box n c a e1 e2).grow (Sub.refl F) id λu z=>by rw[fq ha];exact z
  . rw[fq (λz=>by rw[z,hT]at e;cases e)];exact R.keep a u e hn
theorem Rel.adoptD (R:Rel T F r σ H env bx) {p:Addr}{vs:List V}(w:Own F r H p vs) (hT:T.H₀ p=none):Rel T (upd F p (.lst vs)) r σ H env bx /\ Grow F r (upd F p (.lst vs)) r:=by
  have s:=ou (o:=.lst vs) w.f;refine⟨⟨λa u e=>?_,λi w e=>?_,R.len,R.nd,λn c a e1 e2=>?_,R.keep,R.new,R.n0,R.sl,λa u e=>?_⟩,s,List.prefix_refl r⟩
  . by_cases ha:a=p
    . subst ha;rw[fC]at e;cases e;exact w.h
    . rw[fq ha]at e;exact R.fh a u e
  . obtain⟨v,e1,e2⟩:=R.slot i w e;exact⟨v,e1,e2.mono s (List.prefix_refl r)⟩
  . have ha:a≠p:=λz=>w.b (List.mem_iff_getElem?.mpr ⟨n,z▸e2⟩);exact(R.box n c a e1 e2).grow s (λz=>by rw[fq ha];exact z) λu z=>z
  . by_cases ha:a=p
    . subst ha;exact .inr (.inl hT)
    . rw[fq ha]at e;exact R.fs a u e
theorem Rel.adoptB (R:Rel T F r σ H env bx) {p:Addr}{vs:List V}{l:List D}(w:Own F r H p vs) (hT:T.H₀ p=none) (d:DenL F l vs):Rel T F (r++[p]) σ H env (bx++[.lst l]) /\ Grow F r F (r++[p]) /\ (r++[p])[bx.length]?=some p:=by
  have hx:(r++[p])[bx.length]?=some p:=by rw[<-R.len,List.getElem?_append_right (zL _),Nat.sub_self];rfl
  have g:Grow F r F (r++[p]):=⟨Sub.refl F,List.prefix_append r [p]⟩;refine⟨⟨R.fh,λi w e=>?_,by rw[List.length_append,List.length_append,R.len];rfl,?_,λn c' a e1 e2=>?_,λa u e hn=>R.keep a u e λz=>hn (List.mem_append_left _ z),λn a hn e=>?_,by rw[List.length_append];exact Nat.le_trans R.n0 (Nat.le_add_right _ _),R.sl,λa u e=>(R.fs a u e).imp id (Or.imp id λz=>List.mem_append_left _ z)⟩,g,hx⟩
  . obtain⟨v,e1,e2⟩:=R.slot i w e;exact⟨v,e1,g.den e2⟩
  . rw[List.nodup_append];refine⟨R.nd,by simp,λa ha b hb=>?_⟩;rw[List.mem_singleton]at hb;subst hb;exact λz=>w.b (z▸ha)
  . by_cases hn:n<r.length
    . rw[List.getElem?_append_left hn]at e2;rw[List.getElem?_append_left (by rw[<-R.len];exact hn)]at e1;exact R.box n c' a e1 e2
    . rw[List.getElem?_append_right (by omega)]at e2;rw[List.getElem?_append_right (by rw[<-R.len];omega)]at e1;have hl:n-r.length=0:=by
        cases q:n-r.length with
        |zero=>rfl
        |succ k=>rw[q]at e2;simp at e2
      have hl':n-bx.length=0:=by rw[<-R.len];exact hl
      rw[hl]at e2;rw[hl']at e1;simp at e1 e2;subst e1 e2;exact⟨w.f,vs,w.h,d⟩
  . by_cases hl:n<r.length
    . rw[List.getElem?_append_left hl]at e;exact R.new n a hn e
    . have hp:a=p:=by
        rw[List.getElem?_append_right (by omega)]at e;cases q:n-r.length with
        |zero=>rw[q]at e;simp at e;exact e.symm
        |succ k=>rw[q]at e;simp at e
      subst hp;exact hT
end
section
variable {X : Cx} {T : Fr} {Z : Xs} {N : List Str} {src : List (Option Nat)} {elt tg iter : Expr} {ifs : List Expr} {scope : Scope} {pos : Pos} {mi : DE (List W)} {g : DG} {tf : DE Bool} {te : DE W}
abbrev gAny (g:DG):TG:=λv σ H Q=>∃ T,tG T g v σ H Q
noncomputable abbrev fAny (Z:Xs) (tf:DE Bool):TT:=λσ H Q=>∃ T,tDT T Z tf σ H Q
abbrev eAny (Z:Xs) (te:DE W):TE:=λσ H Q=>∃ T,tD T Z te σ H Q
theorem Rel.slots {T T':Fr}{F F' H H':Hp}{r r':List Addr}{σ σ':St}{env env':DEnv}{bx bx':List Bx}(R:Rel T F r σ H env bx) (g:Grow F r F' r') (R':Rel T' F' r' σ' H' env' bx'):Rel T' F' r' σ H' env bx' :=
  ⟨R'.fh,λi w e=>let ⟨v,e1,e2⟩:=R.slot i w e;⟨v,e1,g.den e2⟩,R'.len,R'.nd,R'.box,R'.keep,R'.new,R'.n0,R.sl,R'.fs⟩
theorem JH {bo:Bool}{σ:St}{H:Hp}{Q:VK}(h:tD T Z (fD bo src mi g tf te) σ H Q):tComp src (tI T Z mi) (gAny g) (fAny ⟨E0,Z.cl⟩ tf) (eAny ⟨E0,Z.cl⟩ te) σ H Q:=by
  obtain⟨F,r,env,bx,R,h⟩:=h;refine⟨F,r,env,bx,R,End.bind h λds bx1 F1 r1 J H1 g1 R1 y1 h1=>λDa hD=>?_⟩;have hT:T.H₀ Da=none:=by
    cases q:T.H₀ Da with
    |none=>rfl
    |some u=>rw[R1.keep Da u q (R1.notBox hD)]at hD;cases hD
  have o0:Own F1 r1 (upd H1 Da (.lst [])) Da []:=⟨fC,R1.fnone hD,R1.notBox hD⟩;refine⟨λi n σ' H'=>∃ pre l F' r' env' bx' acc vs,ds=pre++l /\ pre.length=i /\ n=l.length /\ Grow F1 r1 F' r' /\ Rel T F' r' σ' H' env' bx' /\ Own F' r' H' Da vs /\ DenL F' acc vs /\
    End T Z DenW F' r' σ env Q (fA (compD g tf te l env' bx' acc) λl bx2=>resO bo (some (.lst l)) bx2),
    ⟨ds.length,[],ds,F1,r1,_,bx1,[],[],rfl,rfl,rfl,.refl F1 r1,(R1.priv hD).src src,o0,.nil,h1⟩,?_⟩
  rintro i n σ' H' ⟨pre,l,F',r',env',bx',acc,vs,hds,hi,hn,g',R',o',da,h'⟩;obtain⟨ys,yg⟩:=y1 ⟨H',r'.length,F'⟩ i F' r' σ' H' env' bx' g' R'.again;cases l with
  | nil =>
    refine .inl ⟨ys (by rw[hds,List.append_nil];omega),?_⟩;have RO:Rel T F' r' σ H' env bx':=R1.slots g' R';have hd:End T Z DenW F' r' σ env Q (.val (.d (.lst acc)) bx')->Q (.ref Da) H':=λh'=>by
      obtain⟨RA,gA⟩:=RO.adoptD o' hT;exact h' _ r' _ H' gA RA ⟨Da,vs,rfl,fC,DenL.mono gA.s acc da⟩
    cases bo with
    |false=>exact hd h'
    | true =>
      obtain⟨RB,gB,hx⟩:=RO.adoptB o' hT da;exact h' F' _ _ H' gB RB ⟨Da,rfl,hx⟩
  | cons w l =>
    obtain⟨go,yl⟩:=yg w (by rw[hds,List.getElem?_append_right (by omega),hi,Nat.sub_self];rfl);refine .inr ⟨go,λσ2 H2=>∃ F2 r2 env2 bx2 acc2 vs2,Grow F1 r1 F2 r2 /\ Rel T F2 r2 σ2 H2 env2 bx2 /\ Own F2 r2 H2 Da vs2 /\ DenL F2 acc2 vs2 /\
      End T Z DenW F2 r2 σ env Q (fA (compD g tf te l env2 bx2 acc2) λl bx2=>resO bo (some (.lst l)) bx2),
      λσ2 H2 ⟨F2,r2,env2,bx2,acc2,vs2,g2,R2,o2,d2,h2⟩=>⟨l.length,by rw[hn];exact Nat.lt_succ_self _,pre++[w],l,F2,r2,env2,bx2,acc2,vs2,by rw[hds,List.append_assoc];rfl,by rw[List.length_append,hi];rfl,rfl,g2,R2,o2,d2,h2⟩,λx H2 hy=>?_⟩
    obtain⟨F2,g2,R2,d2⟩:=yl x H2 hy;have R2':=R'.inner g2 R2;have o2:=o'.inner g2 R2;refine⟨⟨H2,r'.length,F2⟩,F2,r',env',bx',w,R2'.again,d2,?_⟩;simp only[compD]at h';cases eg:g w env' bx' with
    |none=>simp only[eg]at h';exact h'.elim
    | some o =>
      obtain⟨env3,bx3⟩:=o;simp only[eg]at h';intro F3 r3 σ3 H3 g3 R3;have R3':=R2'.inner g3 R3;have o3:=o2.inner g3 R3;refine⟨⟨H3,r3.length,F3⟩,F3,r3,env3,bx3,R3'.again,?_⟩;cases ef:tf env3 bx3 with
      |bad=>simp only[ef,bindB]at h';exact h'.elim
      |exc c bx4=>simp only[ef,bindB]at h';exact h'.elim
      | val b bx4 =>
        simp only[ef,bindB]at h';intro F4 r4 b' H4 g4 R4 eb;subst eb;have R4':=R3'.inner g4 R4;have o4:=o3.inner g4 R4;have g14:Grow F1 r1 F4 r4:=((g'.trans g2).trans g3).trans g4;have g04:Grow F' r' F4 r4:=(g2.trans g3).trans g4;cases b with
        | false =>
          rw[if_neg (by decide)];exact⟨F4,r4,env3,bx4,acc,vs,g14,R4',o4,DenL.mono g04.s acc da,End.weak g04 h'⟩
        | true =>
          rw[if_pos rfl];refine⟨⟨H4,r4.length,F4⟩,F4,r4,env3,bx4,R4'.again,?_⟩;cases ee:te env3 bx4 with
          |bad=>simp only[ee]at h';exact h'.elim
          |exc c bx5=>simp only[ee]at h';exact h'.elim
          | val y bx5 =>
            simp only[ee]at h';intro F5 r5 v H5 g5 R5 d5;have R5':=R4'.inner g5 R5;have o5:=o4.inner g5 R5;have g05:=g04.trans g5;cases y with
            | d d =>
              simp only at h';split at h'
              . rename_i hz;have da5:=DenL.mono g05.s acc da;refine⟨vs,o5.h,by rw[<-da.length];exact hz,F5,r5,env3,bx5,acc++[d],vs++[v],g14.trans g5,R5'.privSet o5 hT,⟨fC,o5.f,o5.b⟩,da5.append (.cons d5 .nil),End.weak g05 h'⟩
              . exact h'.elim
            |b n=>exact h'.elim
            |s l=>exact h'.elim
            |x i=>exact h'.elim
theorem DZ (bo:Bool) (hc:X.calm=true) (S:CompScope X N src scope) (hi:PID X T Z tg iter mi)
    (hg:∀ T cl s H C fp,PGD (X.comp N scope cl s H C fp) T tg g) (hf:∀ T cl s H C fp,PF (X.comp N scope cl s H C fp) ifs (tDT T ⟨E0,Z.cl⟩ tf)) (he:∀ T cl s H C fp,PD (X.comp N scope cl s H C fp) T ⟨E0,Z.cl⟩ elt te)
    (hs:∀ x,foldedSetIterable iter X.env x=pure x:=by intro _;rfl):PD X T Z (.ListComp elt [⟨tg,iter,ifs,0⟩] scope pos) (fD bo src mi g tf te):=
  PE.imp (Mo (src:=src) (g:=gAny g) (tf:=fAny ⟨E0,Z.cl⟩ tf) (te:=eAny ⟨E0,Z.cl⟩ te) hc S hi (λcl s H C fp pins s' σ' H' v u Q I rv ⟨T,q⟩=>hg T cl s H C fp pins s' σ' H' v u Q I rv q)
    (λcl s H C fp pins s' σ' H' Q I ⟨T,q⟩=>hf T cl s H C fp pins s' σ' H' Q I q) (λcl s H C fp pins s' σ' H' Q I ⟨T,q⟩=>he T cl s H C fp pins s' σ' H' Q I q) hs) λσ H Q h=>JH h
noncomputable def fL:DE Bool:=λ_ bx=>.val true bx
theorem MH {X:Cx}:PF X [] (tDT T Z fL):=λpins s σ H Q I ⟨F,r,env,bx,R,h⟩=>OH pins s σ H Q I (h F r true H (.refl F r) R rfl)
theorem MI {X:Cx}{c:Expr}{t:DE Bool}(h:PDT X T Z c t):PF X [c] (tDT T Z t):=OI h
theorem AN {F:Hp}{r:List Addr}{l:List D}{i:Nat}{w:W}(e:(l.map W.d)[i]?=some w):∃ d,l[i]?=some d /\ w=.d d:=by
  rw[List.getElem?_map]at e;cases q:l[i]? with
  |none=>rw[q]at e;cases e
  |some d=>rw[q]at e;cases e;exact⟨d,rfl,rfl⟩
noncomputable def fv (lo:Int) (n:Nat):List W:=(List.range n).map λ(i:Nat)=>W.d (.int (lo+i))
theorem lZ {F:Hp}{r:List Addr}(lo:Int) (n:Nat):Yields F r (fv lo n) (Itr lo n):=λT i F1 r1 σ1 H1 env1 bx1 g R=>by
  unfold fv;refine⟨λhl=>?_,λw e=>?_⟩
  . rw[List.length_map,List.length_range]at hl;exact Nat.le_of_eq hl
  . rw[List.getElem?_map]at e;cases q:(List.range n)[i]? with
    |none=>rw[q]at e;cases e
    | some j =>
      rw[q]at e;cases e;obtain⟨h1,h2⟩:=List.getElem?_eq_some_iff.mp q;rw[List.getElem_range]at h2;subst h2;rw[List.length_range]at h1;refine⟨h1,λx H2 ⟨e1,e2⟩=>?_⟩;subst e1 e2;exact⟨F1,.refl F1 r1,R,rfl⟩
noncomputable def dRng1 (k:DE (List W)):DE (List W):=λenv bx=>fA (k env bx) λws bx1=>match ws with
  |[.d (.int j)]=>if -(2 ^ 62)<=j /\ j<2 ^ 62 then .val (fv 0 j.toNat) bx1 else .bad
  |_=>.bad
theorem Db {a:Expr}{p pos:Pos}{k:DE (List W)}(hg:Gl X "range") (hm:X.mg "range"=none) (ha:PDA X T Z [a] k) (hs:starEach [a] X.env=[(false,eval a X.env)]:=by rfl):PID X T Z tg (.Call (.Name "range" p) [a] [] pos) (dRng1 k):=by
  refine PI.imp (FZ hg hm ha hs) λσ H Q ⟨F,r,env,bx,R,h⟩=>?_;refine⟨F,r,env,bx,R,End.bind h λws bx1 F1 r1 vs H1 g1 R1 d1 h1=>?_⟩;split at h1
  . rename_i j;split at h1
    . rename_i hj;obtain⟨v,t,rfl,e1,e2⟩:=d1;cases (show t=[] from e2);cases (show v=.int j from e1);exact⟨j,rfl,hj.1,hj.2,h1 F1 r1 _ H1 (.refl F1 r1) R1 (lZ 0 j.toNat)⟩
    . exact h1.elim
  . exact h1.elim
noncomputable def dRng2 (k:DE (List W)):DE (List W):=λenv bx=>fA (k env bx) λws bx1=>match ws with
  |[.d (.int i),.d (.int j)]=>if (-(2 ^ 62)<=i /\ i<2 ^ 62) /\ -(2 ^ 62)<=j /\ j<2 ^ 62 then .val (fv i (j-i).toNat) bx1 else .bad
  |_=>.bad
theorem Dc {a b:Expr}{p pos:Pos}{k:DE (List W)}(hg:Gl X "range") (hm:X.mg "range"=none) (ha:PDA X T Z [a,b] k) (hs:starEach [a,b] X.env=[(false,eval a X.env),(false,eval b X.env)]:=by rfl) (hs2:starEach [b] X.env=[(false,eval b X.env)]:=by rfl) :
    PID X T Z tg (.Call (.Name "range" p) [a,b] [] pos) (dRng2 k):=by
  refine PI.imp (F6 hg hm ha hs hs2) λσ H Q ⟨F,r,env,bx,R,h⟩=>?_;refine⟨F,r,env,bx,R,End.bind h λws bx1 F1 r1 vs H1 g1 R1 d1 h1=>?_⟩;split at h1
  . rename_i i j;split at h1
    . rename_i hj;obtain⟨v,t,rfl,e1,v2,t2,rfl,e2,e3⟩:=d1;cases (show t2=[] from e3);cases (show v=.int i from e1);cases (show v2=.int j from e2);exact⟨i,j,rfl,⟨hj.1.1,hj.1.2,hj.2.1,hj.2.2⟩,h1 F1 r1 _ H1 (.refl F1 r1) R1 (lZ i _)⟩
    . exact h1.elim
  . exact h1.elim
end
section
variable {X : Cx} {T : Fr} {Z : Xs} {a b c e : Expr} {es : List Expr} {ma mb mc : DE W} {pos p : Pos}
def rCatT0 (K:PySem.W.Frag):R2:=λx y H Q=>∃ a b ys,x=.ref a /\ y=.ref b /\ SqT K H a [] /\ SqT K H b ys /\ Q (.ref b) H
theorem JI:OpR X (binaryOp .Add) (rCatT0 X.K):=by
  intro pins s σ H x y v u Q I rx ry h;obtain⟨a,b,ys,rfl,rfl,ha,hb,q⟩:=h;cases rx;cases ry;obtain⟨its,r1,p1,_⟩:=I.tuple ha;obtain⟨its2,r2,p2,_⟩:=I.tuple hb;cases r1;obtain⟨⟨cls,dd,data,sl⟩,ho,hc,n,hd⟩:=id p1;obtain⟨⟨cls2,dd2,data2,sl2⟩,ho2,hc2,n2,hd2⟩:=id p2;simp only at hc hd hc2 hd2;subst hc hd hc2 hd2
  exact concat_meets ⟨_,ho,rfl⟩ ⟨_,ho2,rfl⟩ noFill_tuple_add seq_tuple_add PySem.F.slot_tuple_add PySem.F.entry_tuple_add (PySem.F.args_tuple_add_2 _ _)
      (tuple_addW0 a b ([]:List Value).toArray its2.toArray n n2 dd dd2 sl sl2 (by simp)) ⟨ho,ho2,⟨.ref b,H,I,rfl,q⟩⟩
def rAdd (K:PySem.W.Frag):R2:=λx y H Q=>rI0 (λi j=>.int (i+j)) x y H Q \/ rCatT K x y H Q \/ rCatT0 K x y H Q \/ rCat x y H Q \/ ∃ i j,x=.str i /\ y=.str j /\ i.length+j.length<=sizeLine /\ Q (.str (i++j)) H
theorem MJ:OpR X (binaryOp .Add) (rAdd X.K):=Os.or (Ml.or (JI.or (oR.or C4)))
noncomputable def fH:D->D->Option Res
  |.int i,.int j=>some (.old (.int (i+j)))
  |.tup a,.tup b=>if a.length+b.length<=sizeLine then some (.tup (a++b)) else none
  |.lst a,.lst b=>if a.length+b.length<=sizeLine then some (.lst (a++b)) else none
  |.str a,.str b=>if a.length+b.length<=sizeLine then some (.old (.str (a++b))) else none
  |_,_=>none
theorem DenL.eq_nil {F:Hp}{l:List D}{vs:List V}(h:DenL F l vs):vs=[] ↔ l=[]:=by
  have:=h.length;cases l<;>cases vs<;>simp_all
theorem okAdd {K:PySem.W.Frag}:Ok2 (rAdd K) fH:=by
  intro F H x y v w Q s sub rx ry e k;unfold fH at e;split at e
  . rename_i i j;cases e;exact .inl ⟨i,j,rx,ry,k _ _ ⟨rfl,rfl⟩⟩
  . rename_i l l';split at e
    . rename_i hz;cases e;obtain⟨a,vs,rfl,h1,h2⟩:=rx;obtain⟨b,ws,rfl,h3,h4⟩:=ry;by_cases hv:vs=[]
      . subst hv;have hl:l=[]:=h2.eq_nil.mp rfl;subst hl;exact .inr (.inr (.inl ⟨a,b,ws,rfl,rfl,.of (sub _ _ h1),.of (sub _ _ h3),k _ _ (.inl ⟨rfl,b,ws,rfl,h3,h4⟩)⟩))
      . refine .inr (.inl ⟨a,b,vs,ws,rfl,rfl,.of (sub _ _ h1),.of (sub _ _ h3),hv,by rw[<-h2.length,<-h4.length];exact hz,λhw=>?_,λhw p hp=>k _ _ (.inr ⟨p,vs++ws,rfl,hp,rfl,h2.append h4⟩)⟩);have hl:l'=[]:=h4.eq_nil.mp hw;subst hl;exact k _ _ (.inl ⟨rfl,a,vs,rfl,h1,by rw[List.append_nil];exact h2⟩)
    . cases e
  . rename_i l l';split at e
    . rename_i hz;cases e;obtain⟨a,vs,rfl,h1,h2⟩:=rx;obtain⟨b,ws,rfl,h3,h4⟩:=ry;exact .inr (.inr (.inr (.inl ⟨a,b,vs,ws,rfl,rfl,h1,h3,by rw[<-h2.length,<-h4.length];exact hz,λp hp=>k _ _ ⟨p,vs++ws,rfl,hp,rfl,h2.append h4⟩⟩)))
    . cases e
  . rename_i i j;split at e
    . rename_i hz;cases e;exact .inr (.inr (.inr (.inr ⟨i,j,rx,ry,hz,k _ _ ⟨rfl,rfl⟩⟩)))
    . cases e
  . cases e
theorem okI {C:Int->Int->Prop} [∀ i j,Decidable (C i j)] {g:Int->Int->D}{gv:Int->Int->V}(hg:∀ i j F,Den F (g i j) (gv i j)):Ok2 (rI C gv) λx y=>match x,y with|.int i,.int j=>if C i j then some (.old (g i j)) else none|_,_=>none:=by
  intro F H x y v w Q s sub rx ry e k;dsimp only at e;split at e
  . rename_i i j;split at e
    . rename_i hc;cases e;exact⟨i,j,rx,ry,hc,k _ _ ⟨rfl,hg i j F⟩⟩
    . cases e
  . cases e
theorem okI0 {g:Int->Int->D}{gv:Int->Int->V}(hg:∀ i j F,Den F (g i j) (gv i j)):Ok2 (rI0 gv) λx y=>match x,y with|.int i,.int j=>some (.old (g i j))|_,_=>none:=by
  intro F H x y v w Q s sub rx ry e k;dsimp only at e;split at e
  . rename_i i j;cases e;exact⟨i,j,rx,ry,k _ _ ⟨rfl,hg i j F⟩⟩
  . cases e
noncomputable def subD:D->D->Option Res:=λx y=>match x,y with|.int i,.int j=>some (.old (.int (i-j)))|_,_=>none
theorem okSub:Ok2 (rI0 λi j=>.int (i-j)) subD:=okI0 (g:=λi j=>.int (i-j)) λ_ _ _=>rfl
instance (i j:Int):Decidable (CMul i j):=by unfold CMul;exact inferInstance
instance (i j:Int):Decidable (CDiv i j):=by unfold CDiv;exact inferInstance
instance (i j:Int):Decidable (CPow i j):=by unfold CPow;exact inferInstance
noncomputable def fdivD:D->D->Option Res:=λx y=>match x,y with|.int i,.int j=>if CDiv i j then some (.old (.int (i / j))) else none|_,_=>none
theorem okFdiv:Ok2 (rI CDiv λi j=>.int (i / j)) fdivD:=okI (g:=λi j=>.int (i / j)) λ_ _ _=>rfl
noncomputable def modD:D->D->Option Res:=λx y=>match x,y with|.int i,.int j=>if 0<j then some (.old (.int (i % j))) else none|_,_=>none
theorem okMod:Ok2 (rI (λ_ j=>0<j) λi j=>.int (i % j)) modD:=okI (C:=λ_ j=>0<j) (g:=λi j=>.int (i % j)) λ_ _ _=>rfl
noncomputable def powD:D->D->Option Res:=λx y=>match x,y with|.int i,.int j=>if CPow i j then some (.old (.int (i ^ j.toNat))) else none|_,_=>none
theorem okPow:Ok2 (rI CPow λi j=>.int (i ^ j.toNat)) powD:=okI (g:=λi j=>.int (i ^ j.toNat)) λ_ _ _=>rfl
noncomputable def intsOf:List D->Option (List Int)
  |[]=>some []
  |.int i::l=>(intsOf l).map λt=>i::t
  |_=>none
theorem DenL.ints {F:Hp}:∀ {l:List D}{vs:List V}{ns:List Int},DenL F l vs->intsOf l=some ns->vs=ns.map V.int
  |[],_,_,h,e=>by cases e;exact h
  | .int i::l,_,ns,h,e=>by
    obtain⟨v,r,q,h1,h2⟩:=h;unfold intsOf at e;cases e2:intsOf l with
    |none=>rw[e2]at e;cases e
    | some t =>
      rw[e2]at e;cases e;rw[q,h2.ints e2,show v=.int i from h1];rfl
  |.non::l,_,_,_,e=>by cases e
  |.bl _::l,_,_,_,e=>by cases e
  |.str _::l,_,_,_,e=>by cases e
  |.tup _::l,_,_,_,e=>by cases e
  |.lst _::l,_,_,_,e=>by cases e
  |.dic _::l,_,_,_,e=>by cases e
noncomputable def ltD:D->D->Option Res
  |.int i,.int j=>some (.old (.bl (decide (i<j))))
  |.tup a,.tup b=>(intsOf a).bind λns=>(intsOf b).map λms=>.old (.bl (HT.lexLt ns ms))
  |_,_=>none
theorem O4 (hu:X.A.units<cLine):OpR X (compareOp .Lt) (λx y H Q=>rI0 (λi j=>.bl (decide (i<j))) x y H Q \/ rLtT X.K x y H Q):=Rp.or (OB hu)
theorem okLt {K:PySem.W.Frag}:Ok2 (λx y H Q=>rI0 (λi j=>.bl (decide (i<j))) x y H Q \/ rLtT K x y H Q) ltD:=by
  intro F H x y v w Q s sub rx ry e k;unfold ltD at e;split at e
  . rename_i i j;cases e;exact .inl ⟨i,j,rx,ry,k _ _ ⟨rfl,rfl⟩⟩
  . rename_i l l';cases e1:intsOf l with
    |none=>rw[e1]at e;cases e
    | some ns =>
      cases e2:intsOf l' with
      |none=>rw[e1,e2]at e;cases e
      | some ms =>
        rw[e1,e2]at e;cases e;obtain⟨a,vs,rfl,h1,h2⟩:=rx;obtain⟨b,ws,rfl,h3,h4⟩:=ry;have q1:=h2.ints e1;have q2:=h4.ints e2;subst q1 q2;exact .inr ⟨a,b,ns,ms,rfl,rfl,.of (sub _ _ h1),.of (sub _ _ h3),k _ _ ⟨rfl,rfl⟩⟩
  . cases e
noncomputable def gtI:D->D->Option Res:=λx y=>match x,y with|.int i,.int j=>some (.old (.bl (decide (j<i))))|_,_=>none
theorem okGtI:Ok2 (rI0 λi j=>.bl (decide (j<i))) gtI:=okI0 (g:=λi j=>.bl (decide (j<i))) λ_ _ _=>rfl
noncomputable def geI:D->D->Option Res:=λx y=>match x,y with|.int i,.int j=>some (.old (.bl (decide (j<=i))))|_,_=>none
theorem okGeI:Ok2 (rI0 λi j=>.bl (decide (j<=i))) geI:=okI0 (g:=λi j=>.bl (decide (j<=i))) λ_ _ _=>rfl
noncomputable def ixD:D->D->Option Res
  |.lst l,.int i=>(atI l i).map Res.old
  |.tup l,.int i=>(atI l i).map Res.old
  |_,_=>none
theorem Fa {F:Hp}{l:List D}{vs:List V}{i:Int}{d:D}(h:DenL F l vs) (e:atI l i=some d):∃ v,atI vs i=some v /\ Den F d v:=by
  unfold atI at e ⊢;rw[<-h.length];cases q:ixN l.length i with
  |none=>rw[q]at e;cases e
  |some j=>rw[q]at e;exact h.get e
theorem okIx {K:PySem.W.Frag}:Ok2 (rIx K) ixD:=by
  intro F H x y v w Q s sub rx ry e k;unfold ixD at e;split at e
  . rename_i l i;obtain⟨a,vs,rfl,h1,h2⟩:=rx;cases e1:atI l i with
    |none=>rw[e1]at e;cases e
    | some d =>
      rw[e1]at e;cases e;obtain⟨u,e2,du⟩:=Fa h2 e1;exact .inl ⟨a,vs,i,u,rfl,ry,.of h1,e2,k _ _ ⟨rfl,du⟩⟩
  . rename_i l i;obtain⟨a,vs,rfl,h1,h2⟩:=rx;cases e1:atI l i with
    |none=>rw[e1]at e;cases e
    | some d =>
      rw[e1]at e;cases e;obtain⟨u,e2,du⟩:=Fa h2 e1;exact .inr (.inl ⟨a,vs,i,u,rfl,ry,.of (sub _ _ h1),e2,k _ _ ⟨rfl,du⟩⟩)
  . cases e
noncomputable def lenD:List D->Option Res
  |[.lst l]=>some (.old (.int l.length))
  |[.tup l]=>some (.old (.int l.length))
  |_=>none
theorem okLen {K:PySem.W.Frag}:OkN (λxs H Q=>∃ p ys,xs=[.ref p] /\ (SqL K H p ys \/ SqT K H p ys) /\ Q (.int ys.length) H) lenD:=by
  intro F H xs vs Q s sub rx e k;unfold lenD at e;split at e
  . rename_i l;cases e;obtain⟨v,t,rfl,⟨a,us,rfl,h1,h2⟩,rt⟩:=rx;cases (show t=[] from rt);exact⟨a,us,rfl,.inl (.of h1),k _ _ ⟨rfl,by rw[<-h2.length];rfl⟩⟩
  . rename_i l;cases e;obtain⟨v,t,rfl,⟨a,us,rfl,h1,h2⟩,rt⟩:=rx;cases (show t=[] from rt);exact⟨a,us,rfl,.inr (.of (sub _ _ h1)),k _ _ ⟨rfl,by rw[<-h2.length];rfl⟩⟩
  . cases e
noncomputable def tyN:D->String
  |.non=>"NoneType"|.bl _=>"bool"|.int _=>"int"|.str _=>"str"|.tup _=>"tuple"|.lst _=>"list"|.dic _=>"dict"
noncomputable def subT (S T:String):Bool:=S==T||(S == "bool"&&T == "int")
def Tys (K:PySem.W.Frag) (T:String):Prop:=∀ d:D,PySem.W.kitOne K (.type (tyN d)) (.type T)=some (subT (tyN d) T)
theorem RE {K:PySem.W.Frag}{F H:Hp}(sub:Sub F H):∀ {d:D}{v:V},Rdd F H d v->TyOf K H v (.type (tyN d))
  |.non,_,h=>by cases (show _=V.non from h);exact .non
  |.bl b,_,h=>by cases (show _=V.bl b from h);exact .bl b
  |.int b,_,h=>by cases (show _=V.int b from h);exact .int b
  |.str b,_,h=>by cases (show _=V.str b from h);exact .str b
  |.tup l,_,h=>by obtain⟨a,vs,rfl,h1,h2⟩:=h;exact .tup (sub _ _ h1)
  |.lst l,_,h=>by obtain⟨a,vs,rfl,h1,h2⟩:=h;exact .lst h1
  |.dic l,_,h=>by obtain⟨a,vs,rfl,h1,h2⟩:=h;exact .dK h1
noncomputable def gK (n:String) (m:DE W):DE W:=λenv bx=>fA (m env bx) λw bx1=>match rdW bx1 w with|some d=>.val (.d (.bl (subT (tyN d) n))) bx1|none=>.bad
theorem MK {n:String}{x:Str}{p p1:Pos}(hT:Tys X.K n) (hg:Gl X "isinstance") (hm:X.mg "isinstance"=none) (hg2:Gl X x) (hm2:X.mg x=none) (hv:bootBuiltins x=some (.type n)) (ha:PD X T Z a ma)
    (hn:x ≠ "__name__":=by decide) (hdb:(x==("__debug__":Str))=false:=by decide)
    (he1:starEach [a,.Name x p1] X.env=(false,eval a X.env)::starEach [.Name x p1] X.env:=by rfl) (he2:starEach [.Name x p1] X.env=(false,eval (.Name x p1) X.env)::starEach [] X.env:=by rfl)
    (hpl:(backTo pos (starEach [.Name x p1] X.env)).any (·.1)=false:=by rfl):PD X T Z (.Call (.Name "isinstance" p) [a,.Name x p1] [] pos) (gK n ma):=by
  refine PE.imp (fU fT hg hm (by decide +kernel) (fm ha (fm (DB hg2 hm2 hv (v:=.ty n) rfl hn hdb) fS he2) he1) (by decide) (by decide) he1 hpl) λσ H Q ⟨F,r,env,bx,R,h⟩=>?_;refine⟨F,r,env,bx,R,End.bind h λw bx1 F1 r1 v H1 g1 R1 d1 h1=>?_⟩;cases e:rdW bx1 w with
  |none=>simp only[e]at h1;exact h1.elim
  | some d =>
    simp only[e]at h1;exact⟨v,.ty n,_,.type n,_,rfl,.of (RE R1.fh (R1.rdd d1 e)),rfl,hT d,h1 F1 r1 _ H1 (.refl F1 r1) R1 rfl⟩
end
section
variable {X : Cx} {T : Fr} {Z : Xs} {a b c e : Expr} {es : List Expr} {ma mb mc : DE W} {pos p : Pos}
def rEqT (K:PySem.W.Frag):R2:=λx y H Q=>∃ a b xs,x=.ref a /\ y=.ref b /\ SqT K H a xs /\ SqT K H b [] /\ Q (.bl xs.isEmpty) H
theorem O5 (hu:X.A.units<cLine):OpR X (compareOp .Eq) (rEqT X.K):=by
  intro pins s σ H x y v u Q I rx ry h;obtain⟨a,b,xs,rfl,rfl,h1,h2,q⟩:=h;cases rx;cases ry;obtain⟨i1,r1,p1,z1⟩:=I.tuple h1;obtain⟨i2,r2,p2,z2⟩:=I.tuple h2;cases r2;refine SeqAt.eq_tupleAt (items:=i1.toArray) (items2:=([]:List Value).toArray) (e:=λ_=>true) p1 p2 hu (λj h1 h2=>absurd h2 (by simp)) ⟨.bl xs.isEmpty,H,I,?_,q⟩;have:=r1.length;cases xs<;>cases i1<;>simp_all[RelV]
def rEqL (K:PySem.W.Frag):R2:=λx y H Q=>∃ (a b:Addr) (ns ms:List Int),x=.ref a /\ y=.ref b /\ SqL K H a (ns.map V.int) /\ SqL K H b (ms.map V.int) /\ Q (.bl (decide (ns=ms))) H
theorem Gk {ns ms:List Int}(h:ns.length=ms.length):((List.range ns.length).all λj=>(ns.getD j 0==ms.getD j 0))=decide (ns=ms):=by
  rw[Bool.eq_iff_iff,List.all_eq_true,decide_eq_true_iff];constructor
  . intro q;refine List.ext_getElem h λj h1 h2=>?_;have:=q j (List.mem_range.mpr h1);simpa[List.getD,h1,h2] using this
  . rintro rfl j _;simp
theorem O6 (hu:X.A.units<cLine):OpR X (compareOp .Eq) (rEqL X.K):=by
  intro pins s σ H x y v u Q I rx ry h;obtain⟨a,b,ns,ms,rfl,rfl,h1,h2,q⟩:=h;cases rx;cases ry;obtain⟨i1,r1,p1,z1⟩:=I.list h1;obtain⟨i2,r2,p2,z2⟩:=I.list h2;have l1:ns.length=i1.length:=by have:=r1.length;simpa using this
  have l2:ms.length=i2.length:=by have:=r2.length;simpa using this
  by_cases hl:ns.length=ms.length
  . refine SeqAt.eq_listAt (items:=i1.toArray) (items2:=i2.toArray) (e:=λj=>ns.getD j 0==ms.getD j 0) p1.isList p2.isList (by simp;omega) hu (λj h1 h2=>?_) ?_
    . have g1:j<i1.length:=by simpa using h1
      have g2:j<i2.length:=by simpa using h2
      obtain⟨w1,e1,q1⟩:=r1.get (i:=j) (x:=V.int (ns[j]'(by omega))) (by simp[show j<ns.length by omega]);obtain⟨w2,e2,q2⟩:=r2.get (i:=j) (x:=V.int (ms[j]'(by omega))) (by simp[show j<ms.length by omega]);have k1:i1[j]=w1:=by rw[List.getElem?_eq_getElem g1]at e1;exact Option.some.inj e1
      have k2:i2[j]=w2:=by rw[List.getElem?_eq_getElem g2]at e2;exact Option.some.inj e2
      show SeqAt.EqAt _ _ i1[j] i2[j] _;rw[k1,k2];obtain⟨t,rfl⟩:=q1;obtain⟨t',rfl⟩:=q2;have d1:ns.getD j 0=ns[j]'(by omega):=by simp[List.getD,show j<ns.length by omega]
      have d2:ms.getD j 0=ms[j]'(by omega):=by simp[List.getD,show j<ms.length by omega]
      rw[d1,d2];exact SeqAt.EqAt.int_int _ _ _ _
    . rw[show i1.toArray.size=ns.length by simp;omega,Gk hl];exact⟨.bl _,H,I,rfl,q⟩
  . refine SeqAt.eq_list_lengthsAt (items:=i1.toArray) (items2:=i2.toArray) p1.isList p2.isList (by simp;omega) hu ⟨.bl false,H,I,rfl,?_⟩;rw[decide_eq_false (λz=>hl (by rw[z]))]at q;exact q
def rEqA (K:PySem.W.Frag):R2:=λx y H Q=>rEq x y H Q \/ rEqT K x y H Q \/ rEqL K x y H Q
theorem ML (hu:X.A.units<cLine):OpR X (compareOp .Eq) (rEqA X.K):=Ro.or ((O5 hu).or (O6 hu))
noncomputable def eqD0:D->D->Option Res
  |.int i,.int j=>some (.old (.bl (decide (i=j))))
  |.str i,.str j=>some (.old (.bl (decide (i=j))))
  |.tup l,.tup []=>some (.old (.bl l.isEmpty))
  |.lst a,.lst b=>(intsOf a).bind λns=>(intsOf b).map λms=>.old (.bl (decide (ns=ms)))
  |_,_=>none
theorem okEq0 {K:PySem.W.Frag}:Ok2 (rEqA K) eqD0:=by
  intro F H x y v w Q s sub rx ry e k;unfold eqD0 at e;split at e
  . rename_i i j;cases e;cases (show v=.int i from rx);cases (show w=.int j from ry);exact .inl ⟨rfl,k _ _ ⟨rfl,by show _=_;simp⟩⟩
  . rename_i i j;cases e;cases (show v=.str i from rx);cases (show w=.str j from ry);exact .inl ⟨rfl,k _ _ ⟨rfl,by show _=_;simp⟩⟩
  . rename_i l;cases e;obtain⟨a,vs,rfl,h1,h2⟩:=rx;obtain⟨b,ws,rfl,h3,h4⟩:=ry;cases (show ws=[] from h4);exact .inr (.inl ⟨a,b,vs,rfl,rfl,.of (sub _ _ h1),.of (sub _ _ h3),k _ _ ⟨rfl,by show _=_;rw[h2.isEmpty]⟩⟩)
  . rename_i l l';cases e1:intsOf l with
    |none=>rw[e1]at e;cases e
    | some ns =>
      cases e2:intsOf l' with
      |none=>rw[e1,e2]at e;cases e
      | some ms =>
        rw[e1,e2]at e;cases e;obtain⟨a,vs,rfl,h1,h2⟩:=rx;obtain⟨b,ws,rfl,h3,h4⟩:=ry;have q1:=h2.ints e1;have q2:=h4.ints e2;subst q1 q2;exact .inr (.inr ⟨a,b,ns,ms,rfl,rfl,.of h1,.of h3,k _ _ ⟨rfl,rfl⟩⟩)
  . cases e
def rNeE (K:PySem.W.Frag):R2:=λx y H Q=>∃ a b xs,x=.ref a /\ y=.ref b /\ SqL K H a xs /\ SqL K H b [] /\ Q (.bl (!xs.isEmpty)) H
theorem O7 (hu:X.A.units<cLine):OpR X (compareOp .NotEq) (rNeE X.K):=by
  intro pins s σ H x y v u Q I rx ry h;obtain⟨a,b,xs,rfl,rfl,h1,h2,q⟩:=h;cases rx;cases ry;obtain⟨i1,r1,p1,z1⟩:=I.list h1;obtain⟨i2,r2,p2,z2⟩:=I.list h2;cases r2;cases r1 with
  |nil=>exact SeqAt.RcNeAt.lists (items:=([]:List Value).toArray) (items2:=([]:List Value).toArray) (e:=λ_=>true) p1.isList p2.isList rfl hu (λj h1 h2=>absurd h2 (by simp)) X.prog X.w X.xe _ ⟨.bl false,H,I,rfl,q⟩
  |cons _ _=>exact SeqAt.RcNeAt.lists_lengths (items2:=([]:List Value).toArray) p1.isList p2.isList (by simp) hu X.prog X.w X.xe _ ⟨.bl true,H,I,rfl,q⟩
def rNeA (K:PySem.W.Frag):R2:=λx y H Q=>rNe x y H Q \/ rNeE K x y H Q
theorem MM (hu:X.A.units<cLine):OpR X (compareOp .NotEq) (rNeA X.K):=NZ.or (O7 hu)
noncomputable def neD0:D->D->Option Res
  |.int i,.int j=>some (.old (.bl (!decide (i=j))))
  |.str i,.str j=>some (.old (.bl (!decide (i=j))))
  |.lst l,.lst []=>some (.old (.bl (!l.isEmpty)))
  |_,_=>none
theorem okNe0 {K:PySem.W.Frag}:Ok2 (rNeA K) neD0:=by
  intro F H x y v w Q s sub rx ry e k;unfold neD0 at e;split at e
  . rename_i i j;cases e;cases (show v=.int i from rx);cases (show w=.int j from ry);exact .inl ⟨rfl,k _ _ ⟨rfl,by show _=_;simp⟩⟩
  . rename_i i j;cases e;cases (show v=.str i from rx);cases (show w=.str j from ry);exact .inl ⟨rfl,k _ _ ⟨rfl,by show _=_;simp⟩⟩
  . rename_i l;cases e;obtain⟨a,vs,rfl,h1,h2⟩:=rx;obtain⟨b,ws,rfl,h3,h4⟩:=ry;cases (show ws=[] from h4);exact .inr ⟨a,b,vs,rfl,rfl,.of h1,.of h3,k _ _ ⟨rfl,by show _=_;rw[h2.isEmpty]⟩⟩
  . cases e
def rAll (K:PySem.W.Frag) (vs:List V) (H:Hp) (Q:VK):Prop:=∃ (p:Addr) (bs:List Bool),vs=[.ref p] /\ H p=some (.lst (bs.map V.bl)) /\ Q (.bl (bs.all id)) H
theorem Gm (hc:X.calm=true):CallR X (.builtin "all") (rAll X.K):=by
  intro pins s σ H xs us Q I rv h;obtain⟨p,bs,rfl,hp,q⟩:=h;obtain⟨u,rfl,ru⟩:=Vals.one rv;cases ru;obtain⟨its,r1,p1,z1⟩:=I.list (SqL.of (K:=X.K) hp);have hl:=p1.isList;have hlt:p<s.heap.objs.size:=by obtain⟨_,e,_⟩:=hl;exact Heap.lt_size e
  have hlen:bs.length=its.length:=by have:=r1.length;simpa using this
  refine call_all_walk (wpAny_pyIter_list hl ?_);refine⟨s.heap.objs.size,[s.heap.objs.size,p],[s.heap.objs.size],its.toArray.size,_,_,λi=>(bs[i]?).getD true,rfl,Walks.list (A:=X.A.in1) (I.ok.hd hc) _ p (Nat.ne_of_lt hlt) its.toArray,
    ⟨⟨_,Heap.get?_push_size _ rfl,rfl,rfl⟩,hl.push _⟩,λi v s' Q' E' hP hQ=>?_,λh' tk hk=>?_⟩
  . have hP':its[i]?=some v:=by simpa using hP
    have hi:i<bs.length:=by rw[hlen];exact(List.getElem?_eq_some_iff.mp hP').1
    obtain⟨w,e1,e2⟩:=r1.get (i:=i) (x:=V.bl bs[i]) (by simp[hi]);rw[hP']at e1;cases e1;cases e2;simp only[List.getElem?_eq_getElem hi,Option.getD_some]at hQ;exact wpAny_truthy_bool hQ
  . have e:((List.range its.toArray.size).all λi=>(bs[i]?).getD true)=bs.all id:=by
      rw[List.size_toArray,<-hlen];exact LSm.range_all bs
    rw[e];exact⟨.bl _,H,I.kept (t':=tk) (LSm.kept_iter hk),rfl,q⟩
noncomputable def bolsOf:List D->Option (List Bool)
  |[]=>some []
  |.bl i::l=>(bolsOf l).map λt=>i::t
  |_=>none
theorem DenL.bols {F:Hp}:∀ {l:List D}{vs:List V}{ns:List Bool},DenL F l vs->bolsOf l=some ns->vs=ns.map V.bl
  |[],_,_,h,e=>by cases e;exact h
  | .bl i::l,_,ns,h,e=>by
    obtain⟨v,r,q,h1,h2⟩:=h;unfold bolsOf at e;cases e2:bolsOf l with
    |none=>rw[e2]at e;cases e
    | some t =>
      rw[e2]at e;cases e;rw[q,h2.bols e2,show v=.bl i from h1];rfl
  |.non::l,_,_,_,e=>by cases e
  |.int _::l,_,_,_,e=>by cases e
  |.str _::l,_,_,_,e=>by cases e
  |.tup _::l,_,_,_,e=>by cases e
  |.lst _::l,_,_,_,e=>by cases e
  |.dic _::l,_,_,_,e=>by cases e
noncomputable def allD:List D->Option Res
  |[.lst l]=>(bolsOf l).map λbs=>.old (.bl (bs.all id))
  |_=>none
theorem okAll {K:PySem.W.Frag}:OkN (rAll K) allD:=by
  intro F H xs vs Q s sub rx e k;unfold allD at e;split at e
  . rename_i l;obtain⟨v,t,rfl,⟨a,us,rfl,h1,h2⟩,rt⟩:=rx;cases (show t=[] from rt);cases e1:bolsOf l with
    |none=>rw[e1]at e;cases e
    | some bs =>
      rw[e1]at e;cases e;have q1:=h2.bols e1;subst q1;exact⟨a,bs,rfl,h1,k _ _ ⟨rfl,rfl⟩⟩
  . cases e
theorem okTuple {K:PySem.W.Frag}:OkN (λxs H Q=>∃ p ys,xs=[.ref p] /\ ((SqL K H p ys /\ ∀ l,H l=none->Q (.ref l) (upd H l (.tup ys))) \/ (SqT K H p ys /\ Q (.ref p) H)))
    (λxs=>match xs with|[.lst l]=>some (.tup l)|[.tup l]=>some (.tup l)|_=>none):=by
  intro F H xs vs Q s sub rx e k;dsimp only at e;split at e
  . rename_i l;cases e;obtain⟨v,t,rfl,⟨a,us,rfl,h1,h2⟩,rt⟩:=rx;cases (show t=[] from rt);exact⟨a,us,rfl,.inl ⟨.of h1,λp hp=>k _ _ (.inr ⟨p,us,rfl,hp,rfl,h2⟩)⟩⟩
  . rename_i l;cases e;obtain⟨v,t,rfl,⟨a,us,rfl,h1,h2⟩,rt⟩:=rx;cases (show t=[] from rt);exact⟨a,us,rfl,.inr ⟨.of (sub _ _ h1),k _ _ (.inl ⟨rfl,a,us,rfl,h1,h2⟩)⟩⟩
  . cases e
noncomputable def tupleD:List D->Option Res:=λxs=>match xs with|[.lst l]=>some (.tup l)|[.tup l]=>some (.tup l)|_=>none
noncomputable def listD:List D->Option Res:=λxs=>match xs with|[.lst l]=>some (.lst l)|[.tup l]=>some (.lst l)|_=>none
theorem okList {K:PySem.W.Frag}:OkN (λxs H Q=>∃ p ys,xs=[.ref p] /\ (SqL K H p ys \/ SqT K H p ys) /\ ∀ l,H l=none->Q (.ref l) (upd H l (.lst ys))) listD:=by
  intro F H xs vs Q s sub rx e k;unfold listD at e;split at e
  . rename_i l;cases e;obtain⟨v,t,rfl,⟨a,us,rfl,h1,h2⟩,rt⟩:=rx;cases (show t=[] from rt);exact⟨a,us,rfl,.inl (.of h1),λp hp=>k _ _ ⟨p,us,rfl,hp,rfl,h2⟩⟩
  . rename_i l;cases e;obtain⟨v,t,rfl,⟨a,us,rfl,h1,h2⟩,rt⟩:=rx;cases (show t=[] from rt);exact⟨a,us,rfl,.inr (.of (sub _ _ h1)),λp hp=>k _ _ ⟨p,us,rfl,hp,rfl,h2⟩⟩
  . cases e
noncomputable def maxD:List D->Option Res:=λxs=>match xs with|[.int i,.int j]=>some (.old (.int (if j>i then j else i)))|_=>none
theorem okMax:OkN (λxs H Q=>∃ i j,xs=[.int i,.int j] /\ Q (.int (if j>i then j else i)) H) maxD:=by
  intro F H xs vs Q s sub rx e k;unfold maxD at e;split at e
  . rename_i i j;cases e;obtain⟨v,t,rfl,h1,v2,t2,rfl,h2,rt⟩:=rx;cases (show t2=[] from rt);cases (show v=.int i from h1);cases (show v2=.int j from h2);exact⟨i,j,rfl,k _ _ ⟨rfl,rfl⟩⟩
  . cases e
noncomputable def minD:List D->Option Res:=λxs=>match xs with|[.int i,.int j]=>some (.old (.int (if j<i then j else i)))|_=>none
theorem okMin:OkN (λxs H Q=>∃ i j,xs=[.int i,.int j] /\ Q (.int (if j<i then j else i)) H) minD:=by
  intro F H xs vs Q s sub rx e k;unfold minD at e;split at e
  . rename_i i j;cases e;obtain⟨v,t,rfl,h1,v2,t2,rfl,h2,rt⟩:=rx;cases (show t2=[] from rt);cases (show v=.int i from h1);cases (show v2=.int j from h2);exact⟨i,j,rfl,k _ _ ⟨rfl,rfl⟩⟩
  . cases e
end
end L2.DL
namespace HT
open PySem PySem.Spec PyProof.Rows
section
variable {prog : Program} {w : World} {A : Around} {E : Value -> Shared -> Prop} {s : Shared}
theorem l8 {t sl:Addr}{items:Array Value}{vl vu:Value}{lo hi:Option Int}{Q:Value->Shared->Prop}(ht:IsTup s.heap t items) (hs:s.heap.IsSliceOf sl vl vu .none) (pl:IsPart vl lo) (pu:IsPart vu hi)
    (hw:sIx items.size 0 lo=0 /\ sIx items.size items.size hi=items.size) (h:Q (.ref t) s):wpAny (model prog w) A (getItem (.ref t) (.ref sl)) Q E s:=by
  obtain⟨os,hos,hcs,hds⟩:=id hs;have hTs:s.TypeIs (.ref sl) "slice":=⟨os,hos,hcs⟩;unfold getItem;try with_reducible refine wpAny_holding ?_
  first|refine zB (zP ?_)|skip
  refine zB (wpAny_sequenceKey ht.typeIs (by decide) ?_);refine zB (wpAny_callSpecial?_slot (name:=Str.ofString "__getitem__") ht.typeIs PyProof.Rows.slot_tuple_getitem
    (wpAny_call_entry PyProof.Rows.slot_tuple_getitem ht.typeIs entry_tuple_getitem ?_ (args_tuple_getitem _ _)))
  show wpAny _ _ (Builtin.Tuple.tupleItemsOf (.ref t) >>= _) _ _ s;refine zB (tupleItemsOf_ ht ?_);refine zB (wpAny_typeOf hTs ?_);rw[if_pos (by decide)];refine zB (jn hs pl pu ?_);have hyes:((((sIx items.size 0 lo:Nat):Int)==0&&(1:Int)==1&&(sIx items.size items.size hi-sIx items.size 0 lo)==items.size)=true):=by
    rw[hw.1,hw.2];simp
  show wpAny _ _ (if (((sIx items.size 0 lo:Nat):Int)==0&&(1:Int)==1&&(sIx items.size items.size hi-sIx items.size 0 lo)==items.size)=true then _ else _) _ _ s;rw[if_pos hyes];refine zB (m:=Builtin.Tuple.tupleIsExact (.ref t)) ?_;unfold Builtin.Tuple.tupleIsExact;refine zB (wpAny_typeOf ht.typeIs (zP ?_));rw[if_pos (by decide)];exact zB (wpAny_rule (zP ⟨_,rfl,zP h⟩))
theorem oX {α β:Type}{f g:α->Option β}:∀ {l:List α},(∀ x∈l,f x=g x)->l.filterMap f=l.filterMap g
  |[],_=>rfl
  | x::l,h=>by
    rw[List.filterMap_cons,List.filterMap_cons,h x List.mem_cons_self,oX λy hy=>h y (List.mem_cons_of_mem _ hy)]
theorem jN (n:Nat):sliceRange ((n:Int)-1) (-1) (-1)=(List.range n).map λk=>n-1-k:=by
  have e:(if (-1:Int)>0 then (if (n:Int)-1 < -1 then (-1-((n:Int)-1)+-1-1) / -1 else 0) else (if (n:Int)-1>-1 then ((n:Int)-1 - -1 - -1-1) / (- -1) else 0):Int).toNat=n:=by
    rw[if_neg (by decide)];split
    . have:((n:Int)-1 - -1 - -1-1) / (- -1)=n:=by
        rw[show (- -1:Int)=1 by decide,Int.ediv_one];omega
      rw[this];rfl
    . omega
  show (List.range (if (-1:Int)>0 then (if (n:Int)-1 < -1 then (-1-((n:Int)-1)+-1-1) / -1 else 0) else (if (n:Int)-1>-1 then ((n:Int)-1 - -1 - -1-1) / (- -1) else 0):Int).toNat).map _=_;rw[e];refine List.map_congr_left λk hk=>?_;have:=List.mem_range.mp hk;omega
theorem lC (its:List Value):slicePick its.toArray none none (some (-1))=its.reverse.toArray:=by
  unfold slicePick;have e:sliceBounds none none (some (-1)) its.toArray.size=((its.length:Int)-1,-1,-1):=by
    simp[sliceBounds]
  rw[e];congr 1;show (sliceRange ((its.length:Int)-1) (-1) (-1)).filterMap (its.toArray[·]?)=_;rw[jN,List.filterMap_map];apply List.ext_getElem?;intro i;have h1:(List.range its.length).filterMap ((λx=>its.toArray[x]?)∘λk=>its.length-1-k)=(List.range its.length).map λk=>(its[its.length-1-k]?).getD .none:=by
    rw[<-List.filterMap_eq_map];refine oX λk hk=>?_;have hk':=List.mem_range.mp hk;have hlt:its.length-1-k<its.length:=by omega
    simp[hlt]
  rw[h1,List.getElem?_map];by_cases hi:i<its.length
  . have hlt:its.length-1-i<its.length:=by omega
    rw[List.getElem?_range hi,List.getElem?_reverse hi];simp[hlt]
  . rw[List.getElem?_eq_none (by simpa using Nat.le_of_not_lt hi),List.getElem?_eq_none (by simpa using Nat.le_of_not_lt hi)];rfl
theorem BY {sl:Addr}{t:Tok}{n:Nat}{Q:Int×Int×Nat->Shared->Prop}(hs:s.heap.IsSliceOf sl .none .none (.int (-1) t)) (h:Q ((n:Int)-1,-1,n) s) :
    wpAny (model prog w) A (Builtin.Slice.sliceApplied (.ref sl) (pure (n:Int))) Q E s:=by
  obtain⟨os,hos,hcs,hds⟩:=id hs;unfold Builtin.Slice.sliceApplied Builtin.Slice.sliceFields;refine zB (zB (wpAny_field hos hds (x:=.none) rfl (zB (wpAny_field hos hds (x:=.none) rfl (zB (wpAny_field hos hds (x:=.int (-1) t) rfl (zP ?_)))))));refine zB (slicePart_int ?_);show wpAny _ _ (if ((-1:Int)==0)=true then _ else _) _ _ s;rw[if_neg (by decide)];refine zB (slicePart_none (zB (slicePart_none (zB (zP ?_)))));have e1:Builtin.Slice.sliceAdjust none none (-1) (n:Int)=((n:Int)-1,-1):=rfl;have e2:Builtin.Slice.slicePlaces ((n:Int)-1) (-1) (-1)=n:=by
    unfold Builtin.Slice.slicePlaces;rw[if_neg (by decide)];split
    . have:∀ z:Int,z / (- -1)=z:=λz=>Int.ediv_one z;rw[this];omega
    . omega
  show wpAny _ _ (match Builtin.Slice.sliceAdjust none none (-1) (n:Int) with|(lo,hi)=>pure (lo,(-1:Int),Builtin.Slice.slicePlaces lo hi (-1))) _ _ s;rw[e1];show wpAny _ _ (pure ((n:Int)-1,(-1:Int),Builtin.Slice.slicePlaces ((n:Int)-1) (-1) (-1))) _ _ s;rw[e2];exact zP h
theorem JJ (its:List Value):((List.range its.toArray.size).filterMap λ(m:Nat)=>its.toArray[(((its.toArray.size:Nat):Int)-1+(m:Int)*-1).toNat]?).toArray=its.reverse.toArray:=by
  rw[<-lC];unfold slicePick;have e:sliceBounds none none (some (-1)) its.toArray.size=((its.length:Int)-1,-1,-1):=by
    simp[sliceBounds]
  rw[e];show _=((sliceRange ((its.length:Int)-1) (-1) (-1)).filterMap (its.toArray[·]?)).toArray;rw[jN,List.filterMap_map,List.size_toArray];congr 1;refine oX λk hk=>?_;have:=List.mem_range.mp hk;show its.toArray[((its.length:Int)-1+(k:Int)*-1).toNat]?=its.toArray[its.length-1-k]?;congr 1;omega
theorem l9 {t sl:Addr}{its:List Value}{tk:Tok}{Q:Value->Shared->Prop}(ht:IsTup s.heap t its.toArray) (hs:s.heap.IsSliceOf sl .none .none (.int (-1) tk))
    (h:Q (.ref s.heap.objs.size) { s with heap:=s.heap.push { cls:=.type "tuple",data:=.seq its.reverse.toArray } }) (hsz:its.length<=sizeLine):wpAny (model prog w) A (getItem (.ref t) (.ref sl)) Q E s:=by
  have hz:sizeOk (.seq its.reverse.toArray):=by
    show its.reverse.toArray.size<=sizeLine;rw[List.size_toArray,List.length_reverse];exact hsz
  obtain⟨os,hos,hcs,hds⟩:=id hs;have hTs:s.TypeIs (.ref sl) "slice":=⟨os,hos,hcs⟩;unfold getItem;try with_reducible refine wpAny_holding ?_
  first|refine zB (zP ?_)|skip
  refine zB (wpAny_sequenceKey ht.typeIs (by decide) ?_);refine zB (wpAny_callSpecial?_slot (name:=Str.ofString "__getitem__") ht.typeIs PyProof.Rows.slot_tuple_getitem
    (wpAny_call_entry PyProof.Rows.slot_tuple_getitem ht.typeIs entry_tuple_getitem ?_ (args_tuple_getitem _ _)))
  show wpAny _ _ (Builtin.Tuple.tupleItemsOf (.ref t) >>= _) _ _ s;refine zB (tupleItemsOf_ ht ?_);refine zB (wpAny_typeOf hTs ?_);rw[if_pos (by decide)];refine zB (BY hs ?_);have hno:¬ (((((its.toArray.size:Nat):Int)-1==0)&&(-1:Int)==1&&(its.toArray.size==its.toArray.size))=true):=by
    rw[show ((-1:Int)==1)=false by decide,Bool.and_false,Bool.false_and];decide
  show wpAny _ _ (if ((((its.toArray.size:Nat):Int)-1==0)&&(-1:Int)==1&&(its.toArray.size==its.toArray.size))=true then _ else _) _ _ s;rw[if_neg hno,JJ];first
    |exact zB (m:=Builtin.Tuple.tupleExact _) (wpAny_newObj_type (zP ⟨_,rfl,zP h⟩) hz)
    |exact zB (m:=Builtin.Tuple.tupleExact _) (wpAny_newObj_type (zB (zP (zP ⟨_,rfl,zP h⟩))) hz)
    |exact zB (zB (m:=Builtin.Tuple.tupleExact _) (wpAny_newObj_type (zP (zP ⟨_,rfl,zP h⟩)) hz))
    |exact zB (zB (m:=Builtin.Tuple.tupleExact _) (wpAny_newObj_type (zP ⟨_,rfl,zP h⟩) hz))
end
end HT
namespace L2.DL
open PySem PySem.Spec PyProof.Rows
section
variable {X : Cx} {T : Fr} {Z : Xs} {a b c e : Expr} {es : List Expr} {ma mb mc : DE W} {pos p p2 : Pos} {lo hi : Option Expr}
def rSlW (K:PySem.W.Frag):V->Option Int->Option Int->Hp->VK->Prop:=λx lo hi H Q=>∃ a xs,x=.ref a /\ SqT K H a xs /\
  (HT.sIx xs.length 0 lo=0 /\ HT.sIx xs.length xs.length hi=xs.length) /\ Q (.ref a) H
theorem MN:SlR X (rSlW X.K):=by
  intro pins s σ H x v vl vu lo hi sl Q I rx hs pl pu h;obtain⟨a,xs,rfl,hx,hw,q⟩:=h;cases rx;obtain⟨its,r,ht,hz⟩:=I.tuple hx;have hlen:its.toArray.size=xs.length:=by rw[List.size_toArray];exact r.length.symm
  exact⟨"tuple",_,PyProof.Rows.slot_tuple_getitem.lookup,ht.typeIs,HT.l8 ht hs pl pu (by rw[hlen];exact hw) ⟨.ref a,H,I,rfl,q⟩⟩
def rSl (K:PySem.W.Frag):V->Option Int->Option Int->Hp->VK->Prop:=λx lo hi H Q=>rSlT K x lo hi H Q \/ rSlW K x lo hi H Q \/ rSlL K x lo hi H Q
theorem O8:SlR X (rSl X.K):=OA.or (MN.or Mn)
noncomputable def cutD (xs:List D) (lo hi:Option Int):List D:=(xs.drop (HT.sIx xs.length 0 lo)).take (HT.sIx xs.length xs.length hi-HT.sIx xs.length 0 lo)
theorem Fb {F:Hp}{l:List D}{vs:List V}(h:DenL F l vs) (lo hi:Option Int):DenL F (cutD l lo hi) (cutV vs lo hi):=by
  unfold cutD cutV;rw[h.length];exact(h.drop _).take _
noncomputable def slD:D->Option Int->Option Int->Option Res
  |.tup l,lo,hi=>some (.tup (cutD l lo hi))
  |.lst l,lo,hi=>some (.lst (cutD l lo hi))
  |_,_,_=>none
theorem okSl {K:PySem.W.Frag}{F H:Hp}{x:D}{v:V}{lo hi:Option Int}{Q:VK}{s:Res}(sub:Sub F H) (rx:Rdd F H x v) (e:slD x lo hi=some s) (k:∀ u H',RRes F H s u H'->Q u H'):rSl K v lo hi H Q:=by
  cases x with
  | tup l =>
    cases e;obtain⟨a,vs,rfl,h1,h2⟩:=rx;by_cases hw:HT.sIx vs.length 0 lo=0 /\ HT.sIx vs.length vs.length hi=vs.length
    . refine .inr (.inl ⟨a,vs,rfl,.of (sub _ _ h1),hw,k _ _ (.inl ⟨rfl,?_⟩)⟩);have e:cutD l lo hi=l:=by
        unfold cutD;rw[h2.length,hw.1,hw.2,Nat.sub_zero,List.drop_zero,<-h2.length,List.take_length]
      rw[e];exact⟨a,vs,rfl,h1,h2⟩
    . exact .inl ⟨a,vs,rfl,.of (sub _ _ h1),hw,λp hp=>k _ _ (.inr ⟨p,_,rfl,hp,rfl,Fb h2 lo hi⟩)⟩
  | lst l =>
    cases e;obtain⟨a,vs,rfl,h1,h2⟩:=rx;exact .inr (.inr ⟨a,vs,rfl,.of h1,λp hp=>k _ _ ⟨p,_,rfl,hp,rfl,Fb h2 lo hi⟩⟩)
  |non=>cases e
  |bl _=>cases e
  |int _=>cases e
  |str _=>cases e
  |dic _=>cases e
abbrev DenO:Hp->List Addr->Option Int->Option Int->Prop:=λ_ _ a b=>a=b
noncomputable def tDO (T:Fr) (Z:Xs) (m:DE (Option Int)):TO:=λσ H Q=>∃ F r env bx,Rel T F r σ H env bx /\ End T Z DenO F r σ env Q (m env bx)
def PDO (X:Cx) (T:Fr) (Z:Xs) (e:Option Expr) (m:DE (Option Int)):Prop:=PO X e (tDO T Z m)
theorem PO.imp {X:Cx}{e:Option Expr}{t t':TO}(h:PO X e t) (f:∀ σ H Q,t' σ H Q->t σ H Q):PO X e t':=λpins s σ H Q I q=>h pins s σ H Q I (f σ H Q q)
noncomputable def dNo:DE (Option Int):=λ_ bx=>.val none bx
noncomputable def dPart (m:DE W):DE (Option Int):=λenv bx=>fA (m env bx) λw bx1=>match w with|.d (.int i)=>.val (some i) bx1|_=>.bad
theorem O9:PDO X T Z none dNo:=PO.imp Mj λσ H Q ⟨F,r,env,bx,R,h⟩=>h F r none H (.refl F r) R rfl
theorem JK (h:PD X T Z e ma):PDO X T Z (some e) (dPart ma):=by
  refine PO.imp (Mk h) λσ H Q ⟨F,r,env,bx,R,h⟩=>?_;refine⟨F,r,env,bx,R,End.bind h λw bx1 F1 r1 v H1 g1 R1 d1 h1=>?_⟩;split at h1
  . rename_i i;exact⟨i,d1,h1 F1 r1 _ H1 (.refl F1 r1) R1 rfl⟩
  . exact h1.elim
noncomputable def dSl (bo:Bool) (m:DE W) (l u:DE (Option Int)):DE W:=λenv bx=>fA (m env bx) λx bx1=>fA (l env bx1) λi bx2=>fA (u env bx2) λj bx3=>resO bo ((rdW bx3 x).bind λd=>slD d i j) bx3
theorem JL {l u:DE (Option Int)}(bo:Bool) (ha:PD X T Z e ma) (hl:PDO X T Z lo l) (hu:PDO X T Z hi u):PD X T Z (.Subscript e (.Slice lo hi none p2) pos) (dSl bo ma l u):=by
  refine PE.imp (Jh O8 ha hl hu) λσ H Q ⟨F,r,env,bx,R,h⟩=>?_;refine⟨F,r,env,bx,R,End.bind h λx bx1 F1 r1 v H1 g1 R1 d1 h1=>?_⟩;refine⟨F1,r1,env,bx1,R1,End.bind h1 λi bx2 F2 r2 i' H2 g2 R2 d2 h2=>?_⟩;refine⟨F2,r2,env,bx2,R2,End.bind h2 λj bx3 F3 r3 j' H3 g3 R3 d3 h3=>?_⟩;subst d2 d3;cases e1:rdW bx3 x with
  |none=>rw[e1]at h3;exact h3.elim
  | some d =>
    rw[e1]at h3;simp only[Option.bind_some]at h3;cases e2:slD d i j with
    |none=>rw[e2]at h3;exact h3.elim
    | some s =>
      rw[e2]at h3;exact okSl R3.fh (R3.rdd (g3.den (g2.den d1)) e1) e2 λu H' k=>gX R3 h3 k
theorem Pa {te:TE}{i:Int}{j:Nat}{q1 q2:Pos}(he:PE X e te):PE X (.Subscript e (.Slice none none (some (.UnaryOp .USub (.Constant (.int 1) j q1) q2)) p2) pos)
    (λσ H Q=>te σ H λx H1=>∃ a xs,x=.ref a /\ ((SqL X.K H1 a xs /\ ∀ p,H1 p=none->Q (.ref p) (upd H1 p (.lst xs.reverse))) \/ (SqT X.K H1 a xs /\ ∀ p,H1 p=none->Q (.ref p) (upd H1 p (.tup xs.reverse))))):=by
  intro pins s σ H Q I h;refine Subscript_ (thn (he pins s σ H _ I h) λv s1 ⟨x,H1,I1,r1,q1⟩=>?_);refine wpAny_Slice ?_;rw[evalPart_none];refine zP (zP ?_);rw[evalPart_some];refine thn (NY (X:=X) G8 mE pins s1 σ H1 (λy H2=>y=.int (-1) /\ H2=H1) I1 ⟨1,rfl,rfl,rfl⟩) λvs s3 ⟨y,H3,I3,r3,e1,e2⟩=>?_;subst e1 e2;obtain⟨t,rfl⟩:=r3;obtain⟨a,xs,rfl,hq⟩:=q1;cases r1;have I4:Inv X pins σ H3 { s3 with heap:=s3.heap.push { cls:=.type "slice",data:=.fields #[.none,.none,.int (-1) t] } }:=I3.kept (t':=s3.toks) λb ob q=>zH _ q;rcases hq with⟨hx,q⟩|⟨hx,q⟩
  . obtain⟨its,r,ht,hz⟩:=I4.list hx;have hlen:=r.length;have hg:wpAny (model X.prog X.w) X.A (getItem (.ref a) (.ref s3.heap.objs.size)) (EP X pins σ Q) X.xe { s3 with heap:=s3.heap.push { cls:=.type "slice",data:=.fields #[.none,.none,.int (-1) t] } }:=by
      refine wpAny_getItem_list_slice (lo:=none) (hi:=none) (st:=some (-1)) ht.isList (Heap.IsSliceOf.new ..) .none .none (.int (-1) t) (by simp) ?_ (by rw[List.size_toArray]<;>omega);rw[HT.lC];refine⟨.ref _,_,I4.laid (t':=s3.toks) (o:=.lst xs.reverse) (λb ob q=>zH _ q) (zL _) ?_,rfl,q _ (I4.hok.fresh (zL _))⟩;exact⟨by rw[List.length_reverse];exact hz,_,0,r.reverse,Heap.get?_push_size _ rfl⟩
    show wpAny (model X.prog X.w) X.A (subscriptTail e (.Slice none none (some (.UnaryOp .USub (.Constant (.int 1) j _) q2)) p2) (.ref a) (.ref s3.heap.objs.size)) (EP X pins σ Q) X.xe _;exact tail_any (ops:=[.ref a,.ref s3.heap.objs.size]) ht.isList.typeIs slot_list_getitem.lookup hg (by with_unfolding_all rfl)
  . obtain⟨its,r,ht,hz⟩:=I4.tuple hx;have hlen:=r.length;have hg:wpAny (model X.prog X.w) X.A (getItem (.ref a) (.ref s3.heap.objs.size)) (EP X pins σ Q) X.xe { s3 with heap:=s3.heap.push { cls:=.type "slice",data:=.fields #[.none,.none,.int (-1) t] } }:=by
      refine HT.l9 ht (Heap.IsSliceOf.new ..) ?_ (by omega);refine⟨.ref _,_,I4.laid (t':=s3.toks) (o:=.tup xs.reverse) (λb ob q=>zH _ q) (zL _) ?_,rfl,q _ (I4.hok.fresh (zL _))⟩;exact⟨by rw[List.length_reverse];exact hz,_,r.reverse,IsTup.new _ _⟩
    show wpAny (model X.prog X.w) X.A (subscriptTail e (.Slice none none (some (.UnaryOp .USub (.Constant (.int 1) j _) q2)) p2) (.ref a) (.ref s3.heap.objs.size)) (EP X pins σ Q) X.xe _;exact tail_any (ops:=[.ref a,.ref s3.heap.objs.size]) ht.typeIs PyProof.Rows.slot_tuple_getitem.lookup hg (by with_unfolding_all rfl)
noncomputable def dRev (bo:Bool) (m:DE W):DE W:=λenv bx=>fA (m env bx) λx bx1=>resO bo ((rdW bx1 x).bind λd=>match d with|.lst l=>some (.lst l.reverse)|.tup l=>some (.tup l.reverse)|_=>none) bx1
theorem Pb {j:Nat}{q1 q2:Pos}(bo:Bool) (ha:PD X T Z e ma):PD X T Z (.Subscript e (.Slice none none (some (.UnaryOp .USub (.Constant (.int 1) j q1) q2)) p2) pos) (dRev bo ma):=by
  refine PE.imp (Pa (i:=0) ha) λσ H Q ⟨F,r,env,bx,R,h⟩=>?_;refine⟨F,r,env,bx,R,End.bind h λx bx1 F1 r1 v H1 g1 R1 d1 h1=>?_⟩;cases e1:rdW bx1 x with
  |none=>rw[e1]at h1;exact h1.elim
  | some d =>
    rw[e1]at h1;cases d with
    | lst l =>
      obtain⟨a,vs,rfl,k1,k2⟩:=R1.rdd d1 e1;exact⟨a,vs,rfl,.inl ⟨.of k1,λp hp=>gX R1 h1 ⟨p,_,rfl,hp,rfl,k2.reverse⟩⟩⟩
    | tup l =>
      obtain⟨a,vs,rfl,k1,k2⟩:=R1.rdd d1 e1;exact⟨a,vs,rfl,.inr ⟨.of (R1.fh _ _ k1),λp hp=>gX R1 h1 (.inr ⟨p,_,rfl,hp,rfl,k2.reverse⟩)⟩⟩
    |_=>exact h1.elim
noncomputable def dNeg (m:DE W):DE W:=λenv bx=>fA (m env bx) λw bx1=>match w with|.d (.int i)=>.val (.d (.int (-i))) bx1|_=>.bad
theorem Pc (ha:PD X T Z a ma):PD X T Z (.UnaryOp .USub a pos) (dNeg ma):=by
  refine PE.imp (NY G8 ha) λσ H Q ⟨F,r,env,bx,R,h⟩=>?_;refine⟨F,r,env,bx,R,End.bind h λw bx1 F1 r1 v H1 g1 R1 d1 h1=>?_⟩;split at h1
  . rename_i i;exact⟨i,d1,h1 F1 r1 _ H1 (.refl F1 r1) R1 rfl⟩
  . exact h1.elim
end
end L2.DL
namespace HT
open PySem PySem.Spec PyProof.Rows
section
variable {prog : Program} {w : World} {A : Around} {E : Value -> Shared -> Prop} {s : Shared}
theorem BZ {l:Addr}{vs:List Value}{Q:List Value->Shared->Prop}(hl:IsTup s.heap l vs.toArray) (hz:vs.length<=sizeLine)
    (h:Q vs { s with heap:=(s.heap.push (seqObj "list" #[] 0)).update s.heap.objs.size (Obj.mapSeq (·++vs.toArray)) }):wpAny (model prog w) A (collect (.ref l)) Q E s:=by
  obtain⟨ob,ho,hcl,k,hda⟩:=id hl;unfold collect;refine zB (wpAny_runValue (codeAny_builtin entry_proto_collect' (zB (wpAny_newList (zP ⟨Code.quiet_builtin _ (by decide +kernel),codeAny_builtin entry_list_iadd' ?_⟩)))));show wpAny _ _ (Builtin.List.listExtendWith (.ref s.heap.objs.size) (.ref l) (.ref s.heap.objs.size)) _ _ { s with heap:=s.heap.push (seqObj "list" #[] 0) };unfold Builtin.List.listExtendWith;have hob:(s.heap.push (seqObj "list" #[] 0)).get? l=some ob:=zH _ ho;refine zB (wpAny_typeOf (T:="tuple") ⟨ob,hob,hcl⟩ ?_);rw[if_pos (by rw[show (Value.type "tuple"==Value.type "tuple")=true by decide,Bool.or_true])];refine zB (listItems_at hob hda (zB (listItems_at (xs:=#[]) (n:=0) (Heap.get?_push_size _ rfl) rfl ?_)));rw[if_neg (by simp)];refine zB (listUpdate_at (xs:=#[]) (n:=0) (Heap.get?_push_size _ rfl) rfl (zP ?_) (Nat.zero_le _) (by show (#[]++vs.toArray).size<=sizeLine+1;simp only[Array.size_append,List.size_toArray,List.length_nil];omega));refine zB (wpAny_load (get?_update_seq (Heap.get?_push_size _ rfl) _) (show wpAny _ _ (pure ((#[]:Array Value)++vs.toArray).toList) Q E _ from ?_));rw[show ((#[]:Array Value)++vs.toArray).toList=vs by simp];exact zP h
theorem oY {l:Addr}{vs:List Value}{ns:List Int}{Q:Value->Shared->Prop}(hl:IsTup s.heap l vs.toArray) (hI:IntsAre vs ns) (h64:vs.length<64)
    (h:∀ (out:Array Value) (ns':List Int),IntsAre out.toList ns'->ns'.Perm ns->ns'.Pairwise (·<=·)->Q (.ref (s.heap.objs.size+1)) { s with heap:=sortedAll s.heap vs out }):wpAny (model prog w) A (call (.builtin "sorted") [.ref l]) Q E s:=by
  refine Calls.call_function_entry kind_sorted plain_sorted entry_sorted (args_sorted1 _) ?_;unfold Builtin.«sorted»;refine zB (m:=checkCount "sorted" 1 1 _) (zP (zB (BZ hl (Nat.le_trans (Nat.le_of_lt h64) (by decide)) (zB (wpAny_newList ?_)))));have hsz:((s.heap.push (seqObj "list" #[] 0)).update s.heap.objs.size (Obj.mapSeq (·++vs.toArray))).objs.size=s.heap.objs.size+1:=by rw[Heap.size_update,size_push']
  have hoL:(((s.heap.push (seqObj "list" #[] 0)).update s.heap.objs.size (Obj.mapSeq (·++vs.toArray))).push (seqObj "list" vs.toArray 0)).get? (s.heap.objs.size+1)=some (seqObj "list" vs.toArray 0):=by rw[<-hsz];exact Heap.get?_push_size _ rfl
  show wpAny _ _ _ _ _ { s with heap:=((s.heap.push (seqObj "list" #[] 0)).update s.heap.objs.size (Obj.mapSeq (·++vs.toArray))).push (seqObj "list" vs.toArray 0) };rw[hsz];exact zB (wpAny_holding (wpAny_call_entry slot_list_sort ⟨_,hoL,rfl⟩ entry_list_sort (list_sort_tree hoL hI h64 λout ns' a1 a2 a3=>⟨_,rfl,zP ⟨_,rfl,h out ns' a1 a2 a3⟩⟩) (args_list_sort _)))
end
end HT
namespace L2.DL
open PySem PySem.Spec PyProof.Rows
noncomputable def sortI (ns:List Int):List Int:=ns.mergeSort λa b=>decide (a<=b)
theorem jw (ns:List Int):(sortI ns).Perm ns:=List.mergeSort_perm ns _
theorem mf (ns:List Int):(sortI ns).Pairwise (·<=·):=by
  have h:=List.pairwise_mergeSort (le:=λa b:Int=>decide (a<=b)) (λa b c h1 h2=>by simp at *;omega) (λa b=>by simp;omega) ns;exact h.imp λq=>by simpa using q
theorem B5 {a b:List Int}(p:a.Perm b) (ha:a.Pairwise (·<=·)) (hb:b.Pairwise (·<=·)):a=b :=
  p.eq_of_pairwise (λx y _ _ h1 h2=>Int.le_antisymm h1 h2) ha hb
section
variable {X : Cx} {T : Fr} {Z : Xs} {a b c e : Expr} {es : List Expr} {ma mb mc : DE W} {pos p p2 : Pos}
def rSort (K:PySem.W.Frag) (vs:List V) (H:Hp) (Q:VK):Prop:=∃ (p:Addr) (ns:List Int),vs=[.ref p] /\ (SqL K H p (ns.map V.int) \/ SqT K H p (ns.map V.int)) /\ ns.length<64 /\ ∀ l,H l=none->Q (.ref l) (upd H l (.lst ((sortI ns).map V.int)))
theorem AO:∀ {us:List Value}{ns:List Int},IntsAre us ns->Vals (ns.map V.int) us
  |_,_,.nil=>.nil
  |_,_,.cons n t h=>.cons ⟨t,rfl⟩ (AO h)
theorem Gn:CallR X (.builtin "sorted") (rSort X.K):=by
  intro pins s σ H xs us Q I rv h;obtain⟨p,ns,rfl,hp,h64,q⟩:=h;obtain⟨u,rfl,ru⟩:=Vals.one rv;cases ru;have fin:∀ (its:List Value) (out:Array Value) (ns':List Int),IntsAre out.toList ns'->ns'.Perm ns->ns'.Pairwise (·<=·)->EP X pins σ Q (.ref (s.heap.objs.size+1)) { s with heap:=sortedAll s.heap its out }:=λits out ns' a1 a2 a3=>by
    obtain⟨k,he⟩:=sortedAll_at s.heap its out;have e:ns'=sortI ns:=B5 (a2.trans (jw ns).symm) a3 (mf ns);subst e;have hf:H (s.heap.objs.size+1)=none:=I.hok.fresh (Nat.le_succ _);have ll:((sortI ns).map V.int).length<=sizeLine:=by
      rw[List.length_map,(jw ns).length_eq];exact Nat.le_trans (Nat.le_of_lt h64) (by decide)
    refine⟨.ref (s.heap.objs.size+1),_,I.laid (t':=s.toks) (o:=.lst ((sortI ns).map V.int)) (λb ob q=>sortedAll_old q) (Nat.le_succ _) ?_,rfl,q _ hf⟩;exact⟨ll,out.toList,k,AO a1,he⟩
  rcases hp with hp|hp
  . obtain⟨its,r1,p1,z1⟩:=I.list hp;have hl:ns.length=its.length:=by have:=r1.length;simpa using this
    exact sorted_ints p1.isList (iQ r1) (by omega) λout ns'=>fin its out ns'
  . obtain⟨its,r1,p1,z1⟩:=I.tuple hp;have hl:ns.length=its.length:=by have:=r1.length;simpa using this
    exact HT.oY p1 (iQ r1) (by omega) λout ns'=>fin its out ns'
noncomputable def sortD:List D->Option Res
  |[.lst l]=>(intsOf l).bind λns=>if ns.length<64 then some (.lst ((sortI ns).map D.int)) else none
  |[.tup l]=>(intsOf l).bind λns=>if ns.length<64 then some (.lst ((sortI ns).map D.int)) else none
  |_=>none
theorem oZ {F:Hp}:∀ (ns:List Int),DenL F (ns.map D.int) (ns.map V.int)
  |[]=>rfl
  |n::ns=>.cons rfl (oZ ns)
theorem okSort {K:PySem.W.Frag}:OkN (rSort K) sortD:=by
  intro F H xs vs Q s sub rx e k;unfold sortD at e;split at e
  . rename_i l;obtain⟨v,t,rfl,⟨a,us,rfl,h1,h2⟩,rt⟩:=rx;cases (show t=[] from rt);cases e1:intsOf l with
    |none=>rw[e1]at e;cases e
    | some ns =>
      rw[e1]at e;simp only[Option.bind_some]at e;split at e
      . rename_i h64;cases e;have q1:=h2.ints e1;subst q1;exact⟨a,ns,rfl,.inl (.of h1),h64,λl hl=>k _ _ ⟨l,_,rfl,hl,rfl,oZ _⟩⟩
      . cases e
  . rename_i l;obtain⟨v,t,rfl,⟨a,us,rfl,h1,h2⟩,rt⟩:=rx;cases (show t=[] from rt);cases e1:intsOf l with
    |none=>rw[e1]at e;cases e
    | some ns =>
      rw[e1]at e;simp only[Option.bind_some]at e;split at e
      . rename_i h64;cases e;have q1:=h2.ints e1;subst q1;exact⟨a,ns,rfl,.inr (.of (sub _ _ h1)),h64,λl hl=>k _ _ ⟨l,_,rfl,hl,rfl,oZ _⟩⟩
      . cases e
  . cases e
noncomputable def dApp (m:DE W) (k:DE W):DE W:=λenv bx=>fA (m env bx) λx bx1=>match x with
  | .b n=>(match bx1[n]? with
    | some (.lst _)=>fA (k env bx1) λy bx2=>(match y,bx2[n]? with
      |.d d,some (.lst l)=>if l.length<sizeLine then .val (.d .non) (bx2.set n (.lst (l++[d]))) else .bad
      |_,_=>.bad)
    |_=>.bad)
  |_=>.bad
theorem RF {σ:St}{H:Hp}{Q:VK}(h:tD T Z (dApp ma mb) σ H Q):tBM X.K "list" rAppend (tD T Z ma) (tCons (tD T Z mb) tNil) σ H Q:=by
  obtain⟨F,r,env,bx,R,h⟩:=h;refine⟨F,r,env,bx,R,End.bind h λx bx1 F1 r1 v H1 g1 R1 d1 h1=>?_⟩;cases x with
  |d _=>exact h1.elim
  |s _=>exact h1.elim
  |x _=>exact h1.elim
  | b n =>
    simp only at h1;obtain⟨a,rfl,ha⟩:=d1;obtain⟨c,hc,kc⟩:=R1.bat ha;rw[hc]at h1;cases c with
    |dic _=>exact h1.elim
    |dead=>exact h1.elim
    | lst l0 =>
      obtain⟨_,vs0,k0,_⟩:=kc;refine⟨.inl ⟨rfl,vs0,SqL.of k0⟩,?_⟩;refine⟨F1,r1,env,bx1,R1,End.bind h1 λy bx2 F2 r2 u H2 g2 R2 d2 h2=>?_⟩;obtain⟨t,et⟩:=g2.p;have ha2:r2[n]?=some a:=by rw[<-et,List.getElem?_append_left (List.getElem?_eq_some_iff.mp ha).1];exact ha
      obtain⟨c2,hc2,kc2⟩:=R2.bat ha2;rw[hc2]at h2;cases y with
      |b _=>exact h2.elim
      |s _=>exact h2.elim
      |x _=>exact h2.elim
      | d dd =>
        cases c2 with
        |dic _=>exact h2.elim
        |dead=>exact h2.elim
        | lst l =>
          simp only at h2;split at h2
          . rename_i hz;obtain⟨hF,vs,k1,k2⟩:=kc2;refine⟨a,vs,u,rfl,rfl,k1,by rw[<-k2.length];exact hz,?_⟩;exact h2 F2 r2 _ _ (.refl F2 r2) (R2.write ha2 hF ⟨hF,vs++[u],fC,k2.append (.cons d2 .nil)⟩) rfl
          . exact h2.elim
end
end L2.DL
namespace L2
open PySem PySem.Spec PyProof.Rows
section
variable {κ : Type} [DecidableEq κ]
noncomputable def putK (kvs:List (κ×V)) (k:κ) (v:V):List (κ×V):=
  if (kvs.any λkv=>decide (kv.1=k))=true then kvs.map (λkv=>if kv.1=k then (kv.1,v) else kv) else kvs++[(k,v)]
theorem B6 (kvs:List (κ×V)) (k:κ) (v:V):(putK kvs k v).length<=kvs.length+1:=by
  unfold putK;split
  . rw[List.length_map];omega
  . rw[List.length_append,List.length_cons,List.length_nil];omega
theorem KV.any {kvs:List (κ×V)}{vs:List (κ×Value)}(r:KV kvs vs) (k:κ):(kvs.any λkv=>decide (kv.1=k))=vs.any λkv=>decide (kv.1=k):=by
  unfold KV at r;induction r with
  |nil=>rfl
  |cons h t ih=>rw[List.any_cons,List.any_cons,ih,h.1]
theorem KV.repl {kvs:List (κ×V)}{vs:List (κ×Value)}(r:KV kvs vs) (k:κ) {y:V}{u:Value}(ry:RelV y u) :
    KV (kvs.map λkv=>if kv.1=k then (kv.1,y) else kv) (vs.map λkv=>if kv.1=k then (kv.1,u) else kv):=by
  unfold KV at r ⊢;induction r with
  |nil=>exact .nil
  | @cons p q ps qs h t ih =>
    rw[List.map_cons,List.map_cons];refine .cons ?_ ih;obtain⟨h1,h2⟩:=h;by_cases e:p.1=k
    . rw[if_pos e,if_pos (h1.symm.trans e)];exact⟨h1,ry⟩
    . rw[if_neg e,if_neg (λz=>e (h1.trans z))];exact⟨h1,h2⟩
theorem KV.put {kvs:List (κ×V)}{vs:List (κ×Value)}(r:KV kvs vs) (k:κ) {y:V}{u:Value}(ry:RelV y u):KV (putK kvs k y) (stored vs k u):=by
  unfold putK stored;rw[r.any k];by_cases e:(vs.any λkv=>decide (kv.1=k))=true
  . rw[if_pos e,if_pos e];exact r.repl k ry
  . rw[if_neg e,if_neg e];exact Paired.snoc r ⟨rfl,ry⟩
end
theorem RG {P:Program}{w:World}{k:Key}{u:Value}(r:RelV (kV k) u):(mixKind P w).is k u=true:=by
  cases k with
  |inl i=>obtain⟨t,e⟩:=(show ∃ t,u=Value.int i t from r);subst e;exact BK P w i t
  |inr x=>obtain⟨t,e⟩:=(show ∃ t,u=Value.str x t from r);subst e;exact BL P w x t
section
variable {P : Program} {w : World} {H : Hp} {h : Heap} {a : Addr}
theorem RH {u:HO}(ok:HOk P w H h) (e:Rd H a u):ObjOk P w H h a u:=e.ok ok
theorem RI {kvs:List (Key×V)}(ok:HOk P w H h) (e:Rd H a (.dK kvs)):kvs.length<=sizeLine /\ (a==sysModules)=false /\ ∃ vs,KV kvs vs /\ h.DictOf (mixKind P w) a vs :=
  show ObjOk P w H h a (.dK kvs) from RH ok e
theorem RJ {kvs:List (Key×V)}(ok:HOk P w H h) (e:H a=some (.dK kvs)):kvs.length<=sizeLine /\ (a==sysModules)=false /\ ∃ vs,KV kvs vs /\ h.DictOf (mixKind P w) a vs:=RI ok (.inl e)
end
section
variable {X : Cx} {pins : List (Addr × Obj)} {σ : St} {H : Hp} {s : Shared} {a : Addr} {y v : V} {u r : Value} {o : Option V} {A : Around} {E : Value -> Shared -> Prop}
theorem Inv.big (I:Inv X pins σ H s):sysModules<s.heap.objs.size:=by
  have h:mainGlobals<s.heap.objs.size:=(I.mod.glob.keeps I.bk).lt;exact Nat.lt_trans (by decide) h
theorem MO {h':Heap}{t':Nat}{ob:HO}(I:Inv X pins σ H s) (mu:Mut (H a)) (hs:Heap.SameBut a s.heap h') (he:∃ q,h'.get? a=some q) (new:ObjOk X.prog X.w (upd H a ob) h' a ob) :
    Inv X pins σ (upd H a ob) { s with heap:=h',toks:=t' } :=
  I.write (x:=a) (e:=a) mu (.inl rfl) (λb q hb z=>(hs.2 b hb).trans z) he new
theorem Pd {P:Program}{w:World}{H':Hp}{h':Heap}{kvs:List (Key×V)}{vs:List (Key×Value)}(z:kvs.length<=sizeLine) (hd:(a==sysModules)=false) (rel:KV kvs vs) (dd:h'.DictOf (mixKind P w) a vs) :
    ObjOk P w H' h' a (.dK kvs):=⟨z,hd,vs,rel,dd⟩
end
section
variable {X : Cx} {pins : List (Addr × Obj)} {σ : St} {H : Hp} {s : Shared} {a : Addr} {kvs : List (Key × V)} {k : Key} {u : Value} {A : Around} {E : Value -> Shared -> Prop}
end
section
variable {X : Cx} {o i e value : Expr} {pos pos' tpos : Pos} {td ty tv : TE}
end
theorem B7 {P:Program}{w:World}{H:Hp}(h:Heap) (hb:sysModules<h.objs.size):ObjOk P w H (h.push { cls:=.type "dict",data:=.dict #[] }) h.objs.size (.dK []):=
  ⟨Nat.zero_le _,beq_eq_false_iff_ne.mpr (Ne.symm (Nat.ne_of_lt hb)),[],.nil,Heap.DictOf.new h⟩
def tDNewK:TE:=λ_ H Q=>∀ p,H p=none->Q (.ref p) (upd H p (.dK []))
section
variable {X : Cx} {pos : Pos}
theorem JM:PE X (.Dict [] [] pos) tDNewK:=λpins s σ H Q I h =>
  wpAny_Dict_empty ⟨.ref s.heap.objs.size,_,I.laid (a:=s.heap.objs.size) (o:=.dK []) (t':=s.toks) (λ_ _ q=>zH _ q) (zL _) (B7 s.heap I.big),rfl,h _ (I.hok.fresh (zL _))⟩
end
noncomputable def tPairs:List (TE×TE)->St->Hp->(List (V×V)->Hp->Prop)->Prop
  |[],_,H,Q=>Q [] H
  |(tk,tv)::r,σ,H,Q=>tk σ H λx H1=>tv σ H1 λy H2=>tPairs r σ H2 λps H3=>Q ((x,y)::ps) H3
abbrev VV:List (V×V)->List (Value×Value)->Prop:=Paired λp q=>RelV p.1 q.1 /\ RelV p.2 q.2
def PPs (X:Cx) (pos:Pos) (keys:List (Option Expr)) (values:List Expr) (trs:List (TE×TE)):Prop :=
  ∀ (pins:List (Addr×Obj)) (s:Shared) (σ:St) (H:Hp) (Q:List (V×V)->Hp->Prop),Inv X pins σ H s->tPairs trs σ H Q ->
    wpAny (model X.prog X.w) X.A (evalPairs (pairTrees keys values X.env pos)) (λvs s'=>∃ ps H',Inv X pins σ H' s' /\ VV ps vs /\ Q ps H') X.xe s
theorem Fc {X:Cx}{pos:Pos}:PPs X pos [] [] []:=λpins s σ H Q I h=>pairTrees_nil_walk ⟨[],H,I,.nil,h⟩
theorem B8 {X:Cx}{pos:Pos}{k v:Expr}{ks:List (Option Expr)}{vs:List Expr}{tk tv:TE}{trs:List (TE×TE)}(hk:PE X k tk) (hv:PE X v tv) (hr:PPs X pos ks vs trs) :
    PPs X pos (some k::ks) (v::vs) ((tk,tv)::trs):=λpins s σ H Q I h =>
  pairTrees_cons_walk (thn (hk pins s σ H _ I h) λu s1 ⟨x,H1,I1,rx,q1⟩=>thn (hv pins s1 σ H1 _ I1 q1) λw2 s2 ⟨y,H2,I2,ry,q2⟩ =>
    thn (hr pins s2 σ H2 _ I2 q2) λws s3 ⟨ps,H3,I3,rel,q3⟩=>⟨(x,y)::ps,H3,I3,.cons ⟨rx,ry⟩ rel,q3⟩)
noncomputable def mergeK (kvs more:List (Key×V)):List (Key×V):=more.foldl (λacc kv=>putK acc kv.1 kv.2) kvs
theorem KV.merge:∀ {more:List (Key×V)}{rs:List (Key×Value)}{kvs:List (Key×V)}{vs:List (Key×Value)},KV more rs->KV kvs vs->KV (mergeK kvs more) (merged vs rs):=by
  intro more rs kvs vs r;unfold KV at r;induction r generalizing kvs vs with
  |nil=>intro q;exact q
  | @cons p q ps qs h t ih =>
    intro r0;have e:KV (putK kvs p.1 p.2) (stored vs q.1 q.2):=by
      have:=r0.put p.1 h.2;rw[<-h.1];exact this
    exact ih e
theorem lD:∀ (more kvs:List (Key×V)),(mergeK kvs more).length<=kvs.length+more.length
  |[],kvs=>by show kvs.length<=kvs.length+0;omega
  | p::r,kvs=>by
    have h1:=lD r (putK kvs p.1 p.2);have h2:=B6 kvs p.1 p.2;show (mergeK (putK kvs p.1 p.2) r).length<=_;rw[List.length_cons];omega
theorem o6 {P:Program}{w:World}:∀ {kvs:List (Key×V)}{ws:List (Value×Value)},VV (kvs.map λkv=>(kV kv.1,kv.2)) ws->∃ rs,Carries (mixKind P w) ws rs /\ KV kvs rs
  |[],_,r=>by rw[List.map_nil]at r;cases r;exact⟨[],True.intro,.nil⟩
  | p::kvs,_,r=>by
    rw[List.map_cons]at r;cases r with
    | @cons a b as bs h t =>
      obtain⟨rs,c,q⟩:=o6 (P:=P) (w:=w) t;obtain⟨b1,b2⟩:=b;exact⟨(p.1,b2)::rs,⟨RG h.1,rfl,c⟩,.cons ⟨rfl,h.2⟩ q⟩
def tDisp (trs:List (TE×TE)):TE:=λσ H Q=>∀ p,H p=none->tPairs trs σ (upd H p (.dK [])) λps H2=>H2 p=some (.dK []) /\ ∃ kvs:List (Key×V),ps=kvs.map (λkv=>(kV kv.1,kv.2)) /\ kvs.length<=15 /\ Q (.ref p) (upd H2 p (.dK (mergeK [] kvs)))
theorem Fd {X:Cx}{pos:Pos}{keys:List (Option Expr)}{values:List Expr}{trs:List (TE×TE)}(h:PPs X pos keys values trs) (hall:keys.all (·.isSome)=true) (hl:keys.length=values.length) (h0:keys≠[])
    (h15:keys.length<=15):PE X (.Dict keys values pos) (tDisp trs):=by
  intro pins s σ H Q I q;have hn:=I.hok.fresh (zL s.heap.objs.size);have I1:=I.laid (a:=s.heap.objs.size) (o:=.dK []) (h':=s.heap.push { cls:=.type "dict",data:=.dict #[] }) (t':=s.toks) (λ_ _ q=>zH _ q) (zL _) (B7 s.heap I.big);refine wpAny_Dict_walk (knd:=mixKind X.prog X.w) hall hl h0 h15 (thn (h pins _ σ _ _ I1 (q _ hn)) λws s2 ⟨ps,H2,I2,rel,e,kvs,ep,lk,q2⟩=>?_);subst ep;obtain⟨rs,c,rk⟩:=o6 (P:=X.prog) (w:=X.w) rel;obtain⟨z,hd,vs0,r0,dd⟩:=RJ I2.hok e;cases r0;refine⟨rs,c,dd,λh' dd' hs=>⟨.ref s.heap.objs.size,_,?_,rfl,q2⟩⟩;have hz:(mergeK [] kvs).length<=sizeLine:=by
    have h1:=lD kvs [];rw[List.length_nil]at h1;rw[sizeLine_eq];omega
  have he:∃ q,h'.get? s.heap.objs.size=some q:=let ⟨q,_,_,hq,_⟩:=dd';⟨q,hq⟩
  exact MO I2 (by rw[e];exact True.intro) hs he (Pd hz hd (rk.merge .nil) dd')
section
variable {X : Cx} {pins : List (Addr × Obj)} {σ : St} {H : Hp} {s : Shared} {a : Addr} {y d : V} {u r : Value} {o : Option V} {A : Around} {E : Value -> Shared -> Prop}
end
section
variable {X : Cx} {o e f : Expr} {apos cpos : Pos} {td ty tx : TE}
end
section
variable {X : Cx} {pins : List (Addr × Obj)} {σ : St} {H : Hp} {s : Shared} {a : Addr} {kvs : List (Key × V)} {A : Around} {E : Value -> Shared -> Prop}
end
section
variable {X : Cx} {pins : List (Addr × Obj)} {σ : St} {H : Hp} {s : Shared} {a : Addr} {y : V} {u : Value} {A : Around} {E : Value -> Shared -> Prop}
end
end L2
namespace L2.DL
open PySem PySem.Spec PyProof.Rows
noncomputable def keyP:Key->PyData
  |.inl i=>.int i
  |.inr x=>.str x
mutual
noncomputable def toPy:D->PyData
  |.non=>.none
  |.bl b=>.bool b
  |.int i=>.int i
  |.str x=>.str x
  |.tup l=>.tuple (toPys l)
  |.lst l=>.list (toPys l)
  |.dic l=>.dict (toPyK l)
noncomputable def toPys:List D->List PyData
  |[]=>[]
  |d::l=>toPy d::toPys l
noncomputable def toPyK:List (Key×D)->List (PyData×PyData)
  |[]=>[]
  |(k,d)::l=>(keyP k,toPy d)::toPyK l
end
section
variable {X : Cx} {pins : List (Addr × Obj)} {σ : St} {F H : Hp} {s : Shared}
theorem mH {h:Heap}:∀ {es:List DictEntry}{vs:List (Key×Value)}{l:List (Key×D)}{kvs:List (Key×V)},PySem.Pairs (mixKind X.prog X.w) es vs->KV kvs vs->DenK F l kvs->ReadsAll h (es.map (·.key)) ((toPyK l).map (·.1)) []
  | _,_,[],_,p,k,d=>by
    cases (show _=[] from d);cases k;cases p;exact .nil
  | _,_,(k,x)::l,_,p,q,d=>by
    obtain⟨v,r,e,_,d2⟩:=d;subst e;cases q with
    | cons q1 q2 =>
      cases p with
      | @cons de _ _ _ p1 p2 p3 =>
        have ih:=mH (h:=h) p3 q2 d2;have e1:=q1.1;simp only at e1;rw[<-e1]at p1;have hk:Reads h de.key (keyP k) []:=by
          rcases gc (show keyIs k de.key=true from p1) with⟨i,t,e2,e3⟩|⟨y,t,e2,e3⟩
          . rw[e2,e3];exact .int i t
          . rw[e2,e3];exact .str y t
        exact ReadsAll.cons hk ih
mutual
theorem gn (I:Inv X pins σ H s) (sub:Sub F H):∀ {d:D}{v:V}{u:Value},Den F d v->RelV v u->∃ as,Reads s.heap u (toPy d) as
  |.non,_,_,h,r=>by cases (show _=V.non from h);cases r;exact⟨[],.none⟩
  |.bl b,_,_,h,r=>by cases (show _=V.bl b from h);cases r;exact⟨[],.bool b⟩
  |.int i,_,_,h,r=>by cases (show _=V.int i from h);obtain⟨t,rfl⟩:=r;exact⟨[],.int i t⟩
  |.str x,_,_,h,r=>by cases (show _=V.str x from h);obtain⟨t,rfl⟩:=r;exact⟨[],.str x t⟩
  | .tup l,_,_,h,r=>by
    obtain⟨a,vs,rfl,h1,h2⟩:=h;cases r;obtain⟨_,its,rv,ob,e1,e2,n,e3⟩:=(show ObjOk X.prog X.w H s.heap a (.tup vs) from I.hok a _ (sub _ _ h1));obtain⟨as,ra⟩:=jx I sub h2 rv;exact⟨as,.tuple e1 e2 e3 (by simpa using ra)⟩
  | .lst l,_,_,h,r=>by
    obtain⟨a,vs,rfl,h1,h2⟩:=h;cases r;obtain⟨_,its,n,rv,e1⟩:=(show ObjOk X.prog X.w H s.heap a (.lst vs) from I.hok a _ (sub _ _ h1));obtain⟨as,ra⟩:=jx I sub h2 rv;exact⟨a::as,.list e1 rfl rfl (by simpa using ra)⟩
  | .dic l,_,_,h,r=>by
    obtain⟨a,kvs,rfl,h1,h2⟩:=h;cases r;obtain⟨_,_,vs,rk,ob,es,ep,e1,e2,e3,_,pr,_⟩:=(show ObjOk X.prog X.w H s.heap a (.dK kvs) from I.hok a _ (sub _ _ h1));obtain⟨as,ra⟩:=lK I sub h2 rk pr;exact⟨a::[]++as,.dict e1 e2.1 e3 (mH (X:=X) pr rk h2) ra⟩
theorem jx (I:Inv X pins σ H s) (sub:Sub F H):∀ {l:List D}{vs:List V}{us:List Value},DenL F l vs->Vals vs us->∃ as,ReadsAll s.heap us (toPys l) as
  |[],_,_,h,r=>by cases (show _=[] from h);cases r;exact⟨[],.nil⟩
  | d::l,_,_,h,r=>by
    obtain⟨v,t,e,h1,h2⟩:=h;subst e;cases r with
    | cons r1 r2 =>
      obtain⟨as,ra⟩:=gn I sub h1 r1;obtain⟨bs,rb⟩:=jx I sub h2 r2;exact⟨as++bs,.cons ra rb⟩
theorem lK (I:Inv X pins σ H s) (sub:Sub F H):∀ {l:List (Key×D)}{kvs:List (Key×V)}{vs:List (Key×Value)}{es:List DictEntry},DenK F l kvs->KV kvs vs->PySem.Pairs (mixKind X.prog X.w) es vs->∃ as,ReadsAll s.heap (es.map (·.val)) ((toPyK l).map (·.2)) as
  |[],_,_,_,h,r,p=>by cases (show _=[] from h);cases r;cases p;exact⟨[],.nil⟩
  | (k,d)::l,_,_,_,h,r,p=>by
    obtain⟨v,t,e,h1,h2⟩:=h;subst e;cases r with
    | cons r1 r2 =>
      cases p with
      | cons p1 p2 p3 =>
        obtain⟨as,ra⟩:=gn I sub h1 r1.2;obtain⟨bs,rb⟩:=lK I sub h2 r2 p3;rw[<-p2]at ra;exact⟨as++bs,.cons ra rb⟩
end
abbrev Fit (ts:List Str):Prop:=∀ t∈ts,t.length<=sizeLine
theorem JN {h:Heap}{k:Key}{y:Value}(e:keyIs k y=true) (hs:(keyP k).showable=true) (hz:(keyP k).shown.length<=sizeLine) (n:Nat):ReprK X.prog X.w [] h n y (keyP k).shown:=by
  rcases gc e with⟨i,t,e2,e3⟩|⟨x,t,e2,e3⟩
  . subst e2;subst e3;exact .of_is (ReprIs.int t (by simpa[keyP,PyData.showable] using hs)) _ _ _
  . subst e2;subst e3;exact .of_is (ReprIs.str x t (by simpa only[keyP,PyData.shown] using hz)) _ _ _
theorem mI {h:Heap}{n:Nat}:∀ {es:List DictEntry}{vs:List (Key×Value)}{l:List (Key×D)}{kvs:List (Key×V)},PySem.Pairs (mixKind X.prog X.w) es vs->KV kvs vs->DenK F l kvs->PyData.showableKv (toPyK l)=true->Fit (PyData.shownKv (toPyK l)) ->
    ReprAllK X.prog X.w [] h n (es.map (·.key)) (PyData.shownAll ((toPyK l).map (·.1)))
  | _,_,[],_,p,k,d,_,_=>by
    cases (show _=[] from d);cases k;cases p;exact .nil
  | _,_,(k,x)::l,_,p,q,d,hs,hz=>by
    obtain⟨v,r,e,_,d2⟩:=d;subst e;simp only[toPyK,PyData.showableKv,zA]at hs;simp only[toPyK,PyData.shownKv]at hz;have z1:=hz _ (List.mem_cons_self ..);rw[strLen_append,strLen_append]at z1;cases q with
    | cons q1 q2 =>
      cases p with
      | @cons de _ _ _ p1 p2 p3 =>
        have e1:=q1.1;simp only at e1;rw[<-e1]at p1;simp only[toPyK,List.map_cons,PyData.shownAll];exact .cons (JN (show keyIs k de.key=true from p1) hs.1.1 (by omega) n) (mI p3 q2 d2 hs.2 λt m=>hz t (List.mem_cons_of_mem _ m))
mutual
theorem B9 (I:Inv X pins σ H s) (sub:Sub F H):∀ {d:D}{v:V}{u:Value},Den F d v->RelV v u->(toPy d).showable=true->(toPy d).shown.length<=sizeLine->∃ bs,ReadAtMost s.heap (toPy d).depth bs /\ ReprK X.prog X.w bs s.heap (toPy d).depth u (toPy d).shown
  |.non,_,_,h,r,_,_=>by cases (show _=V.non from h);cases r;exact⟨[],(λ_ z=>nomatch z),.of_is ReprIs.none _ _ _⟩
  |.bl b,_,_,h,r,_,_=>by cases (show _=V.bl b from h);cases r;exact⟨[],(λ_ z=>nomatch z),.of_is (ReprIs.bool b) _ _ _⟩
  |.int i,_,_,h,r,hs,_=>by cases (show _=V.int i from h);obtain⟨t,rfl⟩:=r;exact⟨[],(λ_ z=>nomatch z),.of_is (ReprIs.int t (of_decide_eq_true hs)) _ _ _⟩
  |.str x,_,_,h,r,_,hz=>by cases (show _=V.str x from h);obtain⟨t,rfl⟩:=r;exact⟨[],(λ_ z=>nomatch z),.of_is (ReprIs.str x t hz) _ _ _⟩
  | .tup l,_,_,h,r,hs,hz=>by
    obtain⟨as,rd⟩:=gn I sub h r;obtain⟨a,vs,rfl,h1,h2⟩:=h;cases r;obtain⟨_,its,rv,ob,e1,e2,n,e3⟩:=(show ObjOk X.prog X.w H s.heap a (.tup vs) from I.hok a _ (sub _ _ h1));have hz':(tupleText (PyData.shownAll (toPys l))).length<=sizeLine:=by simpa only[toPy,PyData.shown] using hz
    obtain⟨bs,hb,hk⟩:=jo I sub h2 rv (by simpa[toPy,PyData.showable] using hs) λt m=>Nat.le_trans (tupleText_mem_le m) hz';simp only[toPy,PyData.depth,PyData.shown]at rd ⊢;exact⟨a::bs,ReadAtMost.cons rd (Nat.le_succ _) hb,ReprK.tuple e1 e2 e3 (not_mem_of_deeper rd (Nat.lt_succ_self _) hb) (by simpa using hk)⟩
  | .lst l,_,_,h,r,hs,hz=>by
    obtain⟨as,rd⟩:=gn I sub h r;obtain⟨a,vs,rfl,h1,h2⟩:=h;cases r;obtain⟨_,its,n,rv,e1⟩:=(show ObjOk X.prog X.w H s.heap a (.lst vs) from I.hok a _ (sub _ _ h1));have hz':(listText (PyData.shownAll (toPys l))).length<=sizeLine:=by simpa only[toPy,PyData.shown] using hz
    obtain⟨bs,hb,hk⟩:=jo I sub h2 rv (by simpa[toPy,PyData.showable] using hs) λt m=>Nat.le_trans (listText_mem_le m) hz';simp only[toPy,PyData.depth,PyData.shown]at rd ⊢;refine⟨a::bs,ReadAtMost.cons rd (Nat.le_succ _) hb,?_⟩;cases its with
    | nil =>
      have e:toPys l=[]:=by
        cases l with
        |nil=>rfl
        |cons x l=>obtain⟨v,t,e,_⟩:=h2;subst e;cases rv
      rw[e];simp only[PyData.shownAll,listText_nil];exact ReprK.listEmpty e1 rfl rfl
    |cons x its=>exact ReprK.list e1 rfl rfl (not_mem_of_deeper rd (Nat.lt_succ_self _) hb) (by simpa using hk.length_eq) λi y q=>hk.item i y (by simpa using q)
  | .dic l,_,_,h,r,hs,hz=>by
    obtain⟨as,rd⟩:=gn I sub h r;obtain⟨a,kvs,rfl,h1,h2⟩:=h;cases r;obtain⟨_,hy,vs,rk,ob,es,ep,e1,e2,e3,_,pr,_⟩:=(show ObjOk X.prog X.w H s.heap a (.dK kvs) from I.hok a _ (sub _ _ h1));have hz':(dictText (PyData.shownKv (toPyK l))).length<=sizeLine:=by simpa only[toPy,PyData.shown] using hz
    have fit:Fit (PyData.shownKv (toPyK l)):=λt m=>Nat.le_trans (dictText_mem_le m) hz';have hs':PyData.showableKv (toPyK l)=true:=by simpa[toPy,PyData.showable] using hs
    obtain⟨bs,hb,hk⟩:=mJ I sub h2 rk pr hs' fit;have hK:=mI (X:=X) (h:=s.heap) (n:=PyData.depthKv (toPyK l)) pr rk h2 hs' fit;simp only[toPy,PyData.depth,PyData.shown]at rd ⊢;rw[PyData.shownKv_eq];exact⟨a::bs,ReadAtMost.cons rd (Nat.le_succ _) hb,ReprK.dict e1 e2.1 e3 hy (not_mem_of_deeper rd (Nat.lt_succ_self _) hb) (ReprEntriesK.of_two _ _ _ (hK.more_le (λ_ z=>by cases z) (zL _)) hk)⟩
theorem jo (I:Inv X pins σ H s) (sub:Sub F H):∀ {l:List D}{vs:List V}{us:List Value},DenL F l vs->Vals vs us->PyData.showableAll (toPys l)=true->Fit (PyData.shownAll (toPys l))->∃ bs,ReadAtMost s.heap (PyData.depthAll (toPys l)) bs /\ ReprAllK X.prog X.w bs s.heap (PyData.depthAll (toPys l)) us (PyData.shownAll (toPys l))
  |[],_,_,h,r,_,_=>by cases (show _=[] from h);cases r;exact⟨[],(λ_ z=>nomatch z),.nil⟩
  | d::l,_,_,h,r,hs,hz=>by
    obtain⟨v,t,e,h1,h2⟩:=h;subst e;simp only[toPys,PyData.showableAll,zA]at hs;simp only[toPys,PyData.shownAll]at hz;cases r with
    | cons r1 r2 =>
      obtain⟨as,ha,ka⟩:=B9 I sub h1 r1 hs.1 (hz _ (List.mem_cons_self ..));obtain⟨bs,hb,kb⟩:=jo I sub h2 r2 hs.2 λt m=>hz t (List.mem_cons_of_mem _ m);simp only[toPys,PyData.depthAll,PyData.shownAll];have la:=Nat.le_max_left (toPy d).depth (PyData.depthAll (toPys l));have lb:=Nat.le_max_right (toPy d).depth (PyData.depthAll (toPys l));exact⟨as++bs,(ha.mono la).append (hb.mono lb),.cons ((ka.more λ_ m=>List.mem_append_left _ m).level_le la) (kb.more_le (λ_ m=>List.mem_append_right _ m) lb)⟩
theorem mJ (I:Inv X pins σ H s) (sub:Sub F H):∀ {l:List (Key×D)}{kvs:List (Key×V)}{vs:List (Key×Value)}{es:List DictEntry},DenK F l kvs->KV kvs vs->PySem.Pairs (mixKind X.prog X.w) es vs->PyData.showableKv (toPyK l)=true->Fit (PyData.shownKv (toPyK l)) ->
    ∃ bs,ReadAtMost s.heap (PyData.depthKv (toPyK l)) bs /\ ReprAllK X.prog X.w bs s.heap (PyData.depthKv (toPyK l)) (es.map (·.val)) (PyData.shownAll ((toPyK l).map (·.2)))
  |[],_,_,_,h,r,p,_,_=>by cases (show _=[] from h);cases r;cases p;exact⟨[],(λ_ z=>nomatch z),.nil⟩
  | (k,d)::l,_,_,_,h,r,p,hs,hz=>by
    obtain⟨v,t,e,h1,h2⟩:=h;subst e;simp only[toPyK,PyData.showableKv,zA]at hs;simp only[toPyK,PyData.shownKv]at hz;have z1:=hz _ (List.mem_cons_self ..);rw[strLen_append,strLen_append]at z1;cases r with
    | cons r1 r2 =>
      cases p with
      | cons p1 p2 p3 =>
        obtain⟨as,ha,ka⟩:=B9 I sub h1 r1.2 hs.1.2 (by omega);obtain⟨bs,hb,kb⟩:=mJ I sub h2 r2 p3 hs.2 λt m=>hz t (List.mem_cons_of_mem _ m);rw[<-p2]at ka;simp only[toPyK,PyData.depthKv,List.map_cons,PyData.shownAll];have la:(toPy d).depth<=max (max (keyP k).depth (toPy d).depth) (PyData.depthKv (toPyK l)):=by omega
        have lb:PyData.depthKv (toPyK l)<=max (max (keyP k).depth (toPy d).depth) (PyData.depthKv (toPyK l)):=by omega
        exact⟨as++bs,(ha.mono la).append (hb.mono lb),.cons ((ka.more λ_ m=>List.mem_append_left _ m).level_le la) (kb.more_le (λ_ m=>List.mem_append_right _ m) lb)⟩
end
end
section
variable {X : Cx} {T : Fr} {Z : Xs} {a b c e : Expr} {es : List Expr} {ma mb mc : DE W} {pos p p2 : Pos}
def rRepr (vs:List V) (H:Hp) (Q:VK):Prop:=∃ (F:Hp) (d:D) (v:V),vs=[v] /\ Sub F H /\ Den F d v /\ (toPy d).showable=true /\ (toPy d).depth<=60 /\ (toPy d).shown.length<=sizeLine /\ Q (.str (toPy d).shown) H
theorem Go {k:Nat}(hr:Room k X.A):CallR X (.builtin "repr") rRepr:=by
  intro pins s σ H xs us Q I rv h;obtain⟨F,d,v,rfl,sub,hd,h1,h2,h3,q⟩:=h;obtain⟨u,rfl,ru⟩:=Vals.one rv;have fin:∀ (t:Tok) (tk:Nat),EP X pins σ Q (.str (toPy d).shown t) { s with toks:=tk }:=λt tk=>⟨.str _,H,I.tok tk,⟨t,rfl⟩,q⟩;have end':∀ (t':Str),t'=(toPy d).shown->∀ h' u tk,(∀ b o,s.heap.get? b=some o->h'.get? b=some o)->∃ x t,Value.str t' u=.str x t /\ EP X pins σ Q (.str t' u) { s with heap:=h',toks:=tk }:=λt' et h' t tk hk=>by
    subst et;exact⟨_,_,rfl,.str _,H,I.kept (t':=tk) hk,⟨t,rfl⟩,q⟩
  have hu:=hr.units;cases d with
  |non=>cases (show v=.non from hd);cases ru;exact P.repr_of_none (fin _ _)
  |bl b=>cases (show v=.bl b from hd);cases ru;exact P.repr_of_bool (fin _ _)
  |int i=>cases (show v=.int i from hd);obtain⟨t,rfl⟩:=ru;exact P.repr_of_int (of_decide_eq_true h1) (fin _ _)
  |str x=>cases (show v=.str x from hd);obtain⟨t,rfl⟩:=ru;exact P.repr_of_str (hsz:=h3) (fin _ _)
  | tup l =>
    obtain⟨as,rd⟩:=gn I sub hd ru;obtain⟨a,vs,rfl,k1,k2⟩:=hd;cases ru;obtain⟨_,its,rv,ob,e1,e2,n,e3⟩:=(show ObjOk X.prog X.w H s.heap a (.tup vs) from I.hok a _ (sub _ _ k1));have hz':(tupleText (PyData.shownAll (toPys l))).length<=sizeLine:=by simpa only[toPy,PyData.shown] using h3
    obtain⟨bs,hb,hk⟩:=jo I sub k2 rv (by simpa[toPy,PyData.showable] using h1) λt m=>Nat.le_trans (tupleText_mem_le m) hz';simp only[toPy,PyData.depth]at rd h2;exact call_repr_slot (by omega) ⟨ob,e1,e2⟩ PySem.F.slot_tuple_repr (call_tuple_reprK e1 e2 e3 (not_mem_of_deeper rd (Nat.lt_succ_self _) hb) (by simpa using hk) hr.gd (λb _=>Clear.nil b) (by show X.A.units+1+_<cLine;omega) (λ_ _ z=>z) (end' _ (by simp only[toPy,PyData.shown])) hz')
  | lst l =>
    obtain⟨as,rd⟩:=gn I sub hd ru;obtain⟨a,vs,rfl,k1,k2⟩:=hd;cases ru;obtain⟨_,its,n,rv,e1⟩:=(show ObjOk X.prog X.w H s.heap a (.lst vs) from I.hok a _ (sub _ _ k1));have hz':(listText (PyData.shownAll (toPys l))).length<=sizeLine:=by simpa only[toPy,PyData.shown] using h3
    obtain⟨bs,hb,hk⟩:=jo I sub k2 rv (by simpa[toPy,PyData.showable] using h1) λt m=>Nat.le_trans (listText_mem_le m) hz';simp only[toPy,PyData.depth]at rd h2;refine call_repr_slot (by omega) ⟨_,e1,rfl⟩ PySem.F.slot_list_repr.toG ?_;cases its with
    | nil =>
      have e:toPys l=[]:=by
        cases l with
        |nil=>rfl
        |cons x l=>obtain⟨v,t,e,_⟩:=k2;subst e;cases rv
      exact call_list_repr_empty ⟨_,e1,rfl⟩ e1 rfl (end' "[]" (by simp only[toPy,PyData.shown,e,PyData.shownAll,listText_nil]) s.heap _ _ λ_ _ z=>z)
    |cons x its=>exact call_list_reprK e1 rfl rfl (not_mem_of_deeper rd (Nat.lt_succ_self _) hb) (by simpa using hk.length_eq) (λi y q=>hk.item i y (by simpa using q)) hr.gd (λb _=>Clear.nil b) (by show X.A.units+1+_<cLine;omega) (λ_ _ z=>z) (end' _ (by simp only[toPy,PyData.shown])) hz'
  | dic l =>
    obtain⟨as,rd⟩:=gn I sub hd ru;obtain⟨a,kvs,rfl,k1,k2⟩:=hd;cases ru;obtain⟨_,hy,vs,rk,ob,es,ep,e1,e2,e3,_,pr,_⟩:=(show ObjOk X.prog X.w H s.heap a (.dK kvs) from I.hok a _ (sub _ _ k1));have hz':(dictText (PyData.shownKv (toPyK l))).length<=sizeLine:=by simpa only[toPy,PyData.shown] using h3
    have fit:Fit (PyData.shownKv (toPyK l)):=λt m=>Nat.le_trans (dictText_mem_le m) hz';have hs':PyData.showableKv (toPyK l)=true:=by simpa[toPy,PyData.showable] using h1
    obtain⟨bs,hb,hk⟩:=mJ I sub k2 rk pr hs' fit;have hK:=mI (X:=X) (h:=s.heap) (n:=PyData.depthKv (toPyK l)) pr rk k2 hs' fit;simp only[toPy,PyData.depth]at rd h2;rw[PyData.shownKv_eq]at hz';exact call_repr_slot (by omega) ⟨ob,e1,e2.1⟩ PySem.F.slot_dict_repr (call_dict_reprK e1 e2.1 e3 hy (not_mem_of_deeper rd (Nat.lt_succ_self _) hb) (ReprEntriesK.of_two _ _ _ (hK.more_le (λ_ z=>by cases z) (zL _)) hk) hr.gd (λb _=>Clear.nil b) (by show X.A.units+1+_<cLine;omega) (λ_ _ z=>z) (end' _ (by simp only[toPy,PyData.shown,PyData.shownKv_eq])) hz')
noncomputable def canShow (d:D):Bool:=(toPy d).showable&&decide ((toPy d).depth<=60)&&decide ((toPy d).shown.length<=sizeLine)
noncomputable def dRepr (m:DE W):DE W:=λenv bx=>fA (m env bx) λw bx1=>match w with
  |.d d=>if canShow d=true then .val (.d (.str (toPy d).shown)) bx1 else .bad
  |_=>.bad
theorem MP {k:Nat}(hr:Room k X.A) (hg:Gl X "repr") (hm:X.mg "repr"=none) (ha:PD X T Z a ma) (he:starEach [a] X.env=(false,eval a X.env)::starEach [] X.env:=by rfl) :
    PD X T Z (.Call (.Name "repr" p) [a] [] pos) (dRepr ma):=by
  refine PE.imp (fU (Go hr) hg hm (by decide +kernel) (fm ha fS he) (by decide) (by decide) he (by rfl)) λσ H Q ⟨F,r,env,bx,R,h⟩=>?_;refine⟨F,r,env,bx,R,End.bind h λw bx1 F1 r1 v H1 g1 R1 d1 h1=>?_⟩;cases w with
  |b _=>exact h1.elim
  |s _=>exact h1.elim
  |x _=>exact h1.elim
  | d d =>
    simp only at h1;split at h1
    . rename_i hc;unfold canShow at hc;rw[zA,zA]at hc;exact⟨F1,d,v,rfl,R1.fh,d1,hc.1.1,of_decide_eq_true hc.1.2,of_decide_eq_true hc.2,h1 F1 r1 _ H1 (.refl F1 r1) R1 rfl⟩
    . exact h1.elim
end
theorem g6 {X:Cx}{pins:List (Addr×Obj)}{σ:St}{F H:Hp}{s:Shared}(I:Inv X pins σ H s) (sub:Sub F H) {d:D}{v:V}{u:Value}(h:Rdd F H d v) (r:RelV v u):∃ as,Reads s.heap u (toPy d) as:=by
  cases d with
  | lst l =>
    obtain⟨a,vs,rfl,h1,h2⟩:=h;cases r;obtain⟨_,its,n,rv,e1⟩:=(show ObjOk X.prog X.w H s.heap a (.lst vs) from I.hok a _ h1);obtain⟨as,ra⟩:=jx I sub h2 rv;exact⟨a::as,.list e1 rfl rfl (by simpa using ra)⟩
  | dic l =>
    obtain⟨a,kvs,rfl,h1,h2⟩:=h;cases r;obtain⟨_,_,vs,rk,ob,es,ep,e1,e2,e3,_,pr,_⟩:=(show ObjOk X.prog X.w H s.heap a (.dK kvs) from I.hok a _ h1);obtain⟨as,ra⟩:=lK I sub h2 rk pr;exact⟨a::[]++as,.dict e1 e2.1 e3 (mH (X:=X) pr rk h2) ra⟩
  |tup l=>exact gn (d:=.tup l) I sub h r
  |non=>exact gn (d:=.non) I sub h r
  |bl b=>exact gn (d:=.bl b) I sub h r
  |int i=>exact gn (d:=.int i) I sub h r
  |str x=>exact gn (d:=.str x) I sub h r
noncomputable def okQ (d:D):Bool:=(toPy d).canLay0&&decide ((toPy d).depth<=60)
noncomputable def eqv (x y:D):Bool:=PyData.eqv (toPy x) (toPy y)
theorem jO {d:D}(h:okQ d=true):(toPy d).canLay0=true /\ (toPy d).depth<=60:=by
  unfold okQ at h
  rwa [zA,decide_eq_true_eq]at h
def rEqG (neg:Bool):R2:=λx y H Q=>∃ F dx dy,Sub F H /\ Rdd F H dx x /\ Rdd F H dy y /\ okQ dx=true /\ okQ dy=true /\ Q (.bl (if neg then !eqv dx dy else eqv dx dy)) H
section
variable {X : Cx}
theorem Pe (hu:X.A.units+100<cLine):OpR X (compareOp .Eq) (rEqG false):=by
  intro pins s σ H x y v u Q I rx ry h;obtain⟨F,dx,dy,sub,hx,hy,ox,oy,q⟩:=h;obtain⟨as,ra⟩:=g6 I sub hx rx;obtain⟨bs,rb⟩:=g6 I sub hy ry;obtain⟨x1,x2⟩:=jO ox;obtain⟨y1,y2⟩:=jO oy;exact SeqAt.compareEq_reads ra rb x1 y1 (by omega) ⟨.bl _,H,I,rfl,q⟩
theorem Pf (hu:X.A.units+100<cLine):OpR X (compareOp .NotEq) (rEqG true):=by
  intro pins s σ H x y v u Q I rx ry h;obtain⟨F,dx,dy,sub,hx,hy,ox,oy,q⟩:=h;obtain⟨as,ra⟩:=g6 I sub hx rx;obtain⟨bs,rb⟩:=g6 I sub hy ry;obtain⟨x1,x2⟩:=jO ox;obtain⟨y1,y2⟩:=jO oy;exact SeqAt.compareNe_reads ra rb x1 y1 (by omega) ⟨.bl _,H,I,rfl,q⟩
end
noncomputable def gEq (neg:Bool) (x y:D):Option Res:=if okQ x&&okQ y then some (.old (.bl (if neg then !eqv x y else eqv x y))) else none
theorem okGEq (neg:Bool):Ok2 (rEqG neg) (gEq neg):=by
  intro F H x y v w Q s sub rx ry e k;unfold gEq at e;split at e
  . rename_i c;rw[zA]at c;cases e;exact⟨F,x,y,sub,rx,ry,c.1,c.2,k _ _ ⟨rfl,rfl⟩⟩
  . cases e
noncomputable def eqD:D->D->Option Res
  |.int i,.int j=>some (.old (.bl (decide (i=j))))
  |.str i,.str j=>some (.old (.bl (decide (i=j))))
  |.tup l,.tup []=>some (.old (.bl l.isEmpty))
  | .lst a,.lst b=>(match intsOf a,intsOf b with
    |some ns,some ms=>some (.old (.bl (decide (ns=ms))))
    |_,_=>gEq false (.lst a) (.lst b))
  |x,y=>gEq false x y
noncomputable def neD:D->D->Option Res
  |.int i,.int j=>some (.old (.bl (!decide (i=j))))
  |.str i,.str j=>some (.old (.bl (!decide (i=j))))
  |.lst l,.lst []=>some (.old (.bl (!l.isEmpty)))
  |x,y=>gEq true x y
theorem Pg {x y:D}{s:Res}(h:eqD x y=some s):eqD0 x y=some s \/ gEq false x y=some s:=by
  unfold eqD at h;split at h
  . exact .inl h
  . exact .inl h
  . exact .inl h
  . rename_i a b;split at h
    . rename_i ns ms e1 e2;left;show ((intsOf a).bind λns=>(intsOf b).map λms=>Res.old (.bl (decide (ns=ms))))=_;rw[e1,e2];exact h
    . exact .inr h
  . exact .inr h
theorem Ph {x y:D}{s:Res}(h:neD x y=some s):neD0 x y=some s \/ gEq true x y=some s:=by
  unfold neD at h;split at h
  . exact .inl h
  . exact .inl h
  . exact .inl h
  . exact .inr h
section
variable {X : Cx} {K : PySem.W.Frag}
theorem Pi (hu:X.A.units+100<cLine):OpR X (compareOp .Eq) (λx y H Q=>rEqA X.K x y H Q \/ rEqG false x y H Q):=(ML (by omega)).or (Pe hu)
theorem Pj (hu:X.A.units+100<cLine):OpR X (compareOp .NotEq) (λx y H Q=>rNeA X.K x y H Q \/ rEqG true x y H Q):=(MM (by omega)).or (Pf hu)
theorem okEq:Ok2 (λx y H Q=>rEqA K x y H Q \/ rEqG false x y H Q) eqD:=λF H x y v w Q s sub rx ry e k=>(Pg e).imp (λe=>okEq0 F H x y v w Q s sub rx ry e k) λe=>okGEq false F H x y v w Q s sub rx ry e k
theorem okNe:Ok2 (λx y H Q=>rNeA K x y H Q \/ rEqG true x y H Q) neD:=λF H x y v w Q s sub rx ry e k=>(Ph e).imp (λe=>okNe0 F H x y v w Q s sub rx ry e k) λe=>okGEq true F H x y v w Q s sub rx ry e k
end
end L2.DL
namespace HT
open PySem PySem.Spec PyProof.Rows
section
open PySem.SeqAt
open PySem.AutoSeq1 (wpAny_loadPart')
open PySem.MeetsSeq PySem.MeetsSeq2 PySem.MeetsSeq3
end
section
variable {prog : Program} {w : World} {A : Around} {E : Value -> Shared -> Prop} {s : Shared}
theorem mK:fillsNumberSlot (.type "tuple") "mul"=pure false :=
  PySem.fillsNumberSlot_seq (id:="tuple.__mul__") (r:=some (.builtin "tuple.__rmul__")) F.slot_tuple_mul.lookup (by decide +kernel) F.slot_tuple_rmul.lookup (by decide +kernel)
theorem Bm:seqRepeat? (.type "tuple")=pure (some (.builtin "tuple.__mul__")):=by
  unfold seqRepeat?;rw[PySem.seqSlot_of (T:="tuple") (name:="__mul__") (id:="tuple.__mul__") F.slot_tuple_mul.lookup (by decide +kernel),PySem.seqSlot_of (T:="tuple") (name:="__rmul__") (id:="tuple.__rmul__") F.slot_tuple_rmul.lookup (by decide +kernel)];rfl
open PySem.AutoSeq1 (wpAny_loadPart')
theorem o7 (a:Int) (t:Tok) (l:Addr) (items:Array Value) (n:Nat) (dd:Option Addr) (sl:Array (Option Value)) :
    Meets (Builtin.«int.__rmul__» ⟨[.int a t,.ref l],[]⟩) (λ_ R s=>s.heap.get? l=some { cls:=.type "tuple",dict:=dd,data:=.seq items n,slots:=sl } /\ R (.ok (.ret Value.notImplemented)) s):=
  .of_wp λprog w A R s h=>by obtain⟨hp,g,d,tk,os⟩:=s;obtain⟨hl,h⟩:=h;wp_walk;exact⟨_,rfl,h⟩
theorem Dd (l:Addr) (items:Array Value) (n:Nat) (x:Int) (u:Tok) (dd:Option Addr) (sl:Array (Option Value)) (h2:2<=x) (h63:x<2 ^ 63) (hne:items.isEmpty=false) (hsz:items.size*x.toNat<=sizeLine) :
    Meets (Builtin.«tuple.__mul__» ⟨[.ref l,.int x u],[]⟩) (λ_ R s=>s.heap.get? l=some { cls:=.type "tuple",dict:=dd,data:=.seq items n,slots:=sl } /\
      R (.ok (.ret (Value.ref s.heap.objs.size))) { s with heap:=s.heap.push { cls:=Value.type "tuple",data:=Data.seq (List.foldl (λx1 x2=>x1++x2) #[] (List.replicate x.toNat items)) },toks:=s.toks }):=
  .of_wp λprog w A R s h=>by
    obtain⟨hp,g,d,tk,os⟩:=s;obtain⟨hl,h⟩:=h;have f1:=AutoSeq1.idx_int;have c1:(decide (x < -2 ^ 63)||decide (x>=2 ^ 63))=false:=by rw[Bool.or_eq_false_iff];exact⟨decide_eq_false (by omega),decide_eq_false (by omega)⟩
    have c2:(items.isEmpty||x==1)=false:=by rw[hne,Bool.false_or];exact beq_eq_false_iff_ne.mpr (by omega)
    have c3:(decide (x<=0)||items.isEmpty)=false:=by rw[hne,Bool.or_false];exact decide_eq_false (by omega)
    have hx:(items.size:Int)*x=((items.size*x.toNat:Nat):Int):=by rw[Int.natCast_mul,Int.toNat_of_nonneg (by omega)]
    have c4:¬ ((items.size:Int)*x>(2 ^ 63-1) / 8):=by
      rw[hx];have:(sizeLine:Nat)=16777216:=sizeLine_eq;omega
    have c5:Builtin.Tuple.tupleTooMany ((items.size:Int)*x)=false:=by
      unfold Builtin.Tuple.tupleTooMany;rw[hx];exact decide_eq_false (by omega)
    have fl:(List.foldl (λx1 x2=>x1++x2) #[] (List.replicate x.toNat items)).size<=sizeLine:=by
      have q:=L2.j9 items.toList x.toNat [];rw[show items.toList.toArray=items by simp,show ([]:List Value).toArray=#[] from rfl]at q;rw[q,List.size_toArray,List.nil_append,L2.Bi];simp only[Array.length_toList];rw[Nat.mul_comm];exact hsz
    wp_walk using wpAny_loadPart' hl
    refine wpAny_ite_false (decide_eq_false (by rw[c1];decide)) ?_
    wp_walk using wpAny_loadPart' hl
    refine wpAny_ite_false (decide_eq_false (by rw[c2];decide)) ?_;refine wpAny_ite_false (decide_eq_false (by rw[c3];decide)) ?_;refine wpAny_ite_false (decide_eq_false c4) ?_;refine wpAny_ite_false (decide_eq_false (by rw[c5];decide)) ?_;exact zB (m:=Builtin.Tuple.tupleExact _) (wpAny_newObj_type (zP ⟨_,rfl,h⟩) fl)
end
end HT
namespace L2.DL
open PySem PySem.Spec PyProof.Rows
section
variable {X : Cx} {T : Fr} {Z : Xs} {a b c e : Expr} {es : List Expr} {ma mb mc : DE W} {pos p p2 : Pos}
def rMulT (K:PySem.W.Frag):R2:=λx y H Q=>∃ (l:Addr) (k:Int) (xs:List V),x=.ref l /\ y=.int k /\ SqT K H l xs /\ xs≠[] /\ 2<=k /\ k<2 ^ 63 /\ xs.length*k.toNat<=sizeLine /\
  ∀ p,H p=none->Q (.ref p) (upd H p (.tup (List.replicate k.toNat xs).flatten))
theorem MQ:OpR X (binaryOp .Mult) (rMulT X.K):=by
  intro pins s σ H x y v u Q I rx ry h;obtain⟨l,k,xs,rfl,rfl,hH,hne,h1,h2,hz,q⟩:=h;cases rx;obtain⟨t,rfl⟩:=ry;obtain⟨its,r,p1,z⟩:=I.tuple hH;have hl:=r.length;have hlen:its.toArray.size*k.toNat<=sizeLine:=by rw[List.size_toArray,<-hl];exact hz
  have hem:its.toArray.isEmpty=false:=by
    cases its with
    |nil=>exact absurd (r.nil_iff.mp rfl) hne
    |cons _ _=>simp
  obtain⟨⟨cls,dd,data,sl⟩,ho,hc,n,hd⟩:=id p1;simp only at hc hd;subst hc hd
  refine wpAny_binaryOp_repeat_ref (T:="tuple") (U:="int") (by decide) ⟨_,ho,rfl⟩ (λs'=>typeIs_int s' k t) HT.mK F.fills_int_mul F.slot_int_rmul HT.Bm F.slot_int_index.lookup
    (call_meets F.slot_int_rmul (typeIs_int s k t) F.entry_int_rmul (F.args_int_rmul_2 _ _) (HT.o7 k t l its.toArray n dd sl)
      ⟨ho,rfl,⟨_,ho,rfl⟩,call_meets F.slot_tuple_mul ⟨_,ho,rfl⟩ F.entry_tuple_mul (F.args_tuple_mul_2 _ _) (HT.Dd l its.toArray n k t dd sl h1 h2 hem hlen) ⟨ho,?_⟩⟩)
  have f0:=j9 its k.toNat [];rw[List.nil_append]at f0;rw[show (List.foldl (λx1 x2=>x1++x2) #[] (List.replicate k.toNat its.toArray))=(List.replicate k.toNat its).flatten.toArray from f0];refine⟨.ref s.heap.objs.size,_,I.laid (t':=s.toks) (o:=.tup (List.replicate k.toNat xs).flatten) (λb ob q=>zH _ q) (zL _) ?_,rfl,q _ (I.hok.fresh (zL _))⟩;exact⟨by rw[Bi,Nat.mul_comm];exact hz,_,r.rep k.toNat,IsTup.new _ _⟩
def rMul (K:PySem.W.Frag):R2:=λx y H Q=>rI CMul (λi j=>.int (i*j)) x y H Q \/ rMulT K x y H Q \/ rRep x y H Q
theorem MR:OpR X (binaryOp .Mult) (rMul X.K):=Ou.or (MQ.or OG)
noncomputable def mulD:D->D->Option Res
  |.int i,.int j=>if CMul i j then some (.old (.int (i*j))) else none
  |.tup l,.int k=>if l.isEmpty=false /\ 2<=k /\ k<2 ^ 63 /\ l.length*k.toNat<=sizeLine then some (.tup (List.replicate k.toNat l).flatten) else none
  |.lst l,.int k=>if -(2 ^ 63)<=k /\ k<2 ^ 63 /\ l.length*k.toNat<=sizeLine then some (.lst (List.replicate k.toNat l).flatten) else none
  |_,_=>none
theorem DenL.rep {F:Hp}{l:List D}{vs:List V}(h:DenL F l vs):∀ k:Nat,DenL F (List.replicate k l).flatten (List.replicate k vs).flatten
  |0=>rfl
  | k+1=>by
    rw[List.replicate_succ,List.replicate_succ,List.flatten_cons,List.flatten_cons];exact h.append (h.rep k)
theorem okMul {K:PySem.W.Frag}:Ok2 (rMul K) mulD:=by
  intro F H x y v w Q s sub rx ry e k;unfold mulD at e;split at e
  . rename_i i j;split at e
    . rename_i hc;cases e;exact .inl ⟨i,j,rx,ry,hc,k _ _ ⟨rfl,rfl⟩⟩
    . cases e
  . rename_i l j;split at e
    . rename_i hc;cases e;obtain⟨a,vs,rfl,h1,h2⟩:=rx;refine .inr (.inl ⟨a,j,vs,rfl,ry,.of (sub _ _ h1),λz=>?_,hc.2.1,hc.2.2.1,by rw[<-h2.length];exact hc.2.2.2,λp hp=>k _ _ (.inr ⟨p,_,rfl,hp,rfl,h2.rep _⟩)⟩);have:=h2.eq_nil.mp z;rw[this]at hc;exact absurd hc.1 (by simp)
    . cases e
  . rename_i l j;split at e
    . rename_i hc;cases e;obtain⟨a,vs,rfl,h1,h2⟩:=rx;exact .inr (.inr ⟨a,j,vs,rfl,ry,h1,hc.1,hc.2.1,by rw[<-h2.length];exact hc.2.2,λp hp=>k _ _ ⟨p,_,rfl,hp,rfl,h2.rep _⟩⟩)
    . cases e
  . cases e
theorem Pk (hu:X.A.units<cLine):OpR X (compareOp .LtE) (rI0 λi j=>.bl (decide (i<=j))):=Rq
noncomputable def leD:D->D->Option Res:=λx y=>match x,y with|.int i,.int j=>some (.old (.bl (decide (i<=j))))|_,_=>none
theorem okLe:Ok2 (rI0 λi j=>.bl (decide (i<=j))) leD:=okI0 (g:=λi j=>.bl (decide (i<=j))) λ_ _ _=>rfl
theorem Gp {o:Expr}{apos:Pos}(ho:PD X T Z o ma) (ha:PD X T Z e mb)
    (hbase:attributeBase o "append" X.env (eval o X.env)=eval o X.env:=by rfl)
    (hfew:((backTo pos (starEach [e] X.env)).all (λx=>!x.1)&&(backToKw pos (keywordEach [] X.env)).all (λx=>x.1.isSome)
      && decide ([e].length+([]:List Keyword).length+(if ([]:List Keyword).isEmpty then 0 else 1)<30))=true:=by rfl)
    (hline:(apos.endLine==pos.line)=true:=by rfl) (hs:starEach [e] X.env=(false,eval e X.env)::starEach [] X.env:=by rfl) :
    PD X T Z (.Call (.Attribute o "append" apos) [e] [] pos) (dApp ma mb):=
  PE.imp (BP PySem.F.plainAttrs_list PySem.F.slot_list_append PySem.F.type_list_append lc ho (fm ha fS hs) hbase hfew hline hs (by rfl)) λσ H Q h=>RF h
noncomputable def gdSub (mo mi:DE W):DG:=λw env bx=>match mo env bx with
  | .val (.b n) bx1=>(match mi env bx1 with
    | .val (.d (.int k)) bx2=>(match w,bx2[n]? with
      |.d d,some (.lst l)=>(ixN l.length k).map λj=>(env,bx2.set n (.lst (l.set j d)))
      |_,_=>none)
    |_=>none)
  |_=>none
theorem MS {o i:Expr}{mo mi:DE W}(ho:PD X T Z o mo) (hi:PD X T Z i mi)
    (ha:∀ v,assign (.Subscript o i pos) X.env v=(do
      let ov <-holding [v] (eval o X.env)
      let iv <-holding [v,ov] (eval i X.env)
      standAt pos
      holding [v,ov,iv] (setItem ov iv v)
      release [v,ov,iv] []):=by intro _;rfl):PGD X T (.Subscript o i pos) (gdSub mo mi):=by
  refine PG.imp (Oo ho hi Jj ha) λv σ H Q ⟨F,r,env,bx,w,R,dw,h⟩=>?_;unfold gdSub at h;refine⟨F,r,env,bx,R,?_⟩;cases eo:mo env bx with
  |bad=>simp only[eo]at h;exact h.elim
  |exc c bx1=>simp only[eo]at h;exact h.elim
  | val ow bx1 =>
    simp only[eo]at h;intro F1 r1 ov H1 g1 R1 d1;cases ow with
    |d _=>exact h.elim
    |s _=>exact h.elim
    |x _=>exact h.elim
    | b n =>
      simp only at h;refine⟨F1,r1,env,bx1,R1,?_⟩;cases ei:mi env bx1 with
      |bad=>simp only[ei]at h;exact h.elim
      |exc c bx2=>simp only[ei]at h;exact h.elim
      | val iw bx2 =>
        simp only[ei]at h;intro F2 r2 iv H2 g2 R2 d2;cases iw with
        |b _=>exact h.elim
        |s _=>exact h.elim
        |x _=>exact h.elim
        | d id =>
          cases id with
          | int k =>
            simp only at h;obtain⟨a,rfl,ha⟩:=g2.den d1;obtain⟨c2,hc2,kc2⟩:=R2.bat ha;rw[hc2]at h;cases w with
            |b _=>exact h.elim
            |s _=>exact h.elim
            |x _=>exact h.elim
            | d dd =>
              cases c2 with
              |dic _=>exact h.elim
              |dead=>exact h.elim
              | lst l =>
                simp only at h;cases ej:ixN l.length k with
                |none=>rw[ej]at h;exact h.elim
                | some j =>
                  rw[ej]at h;obtain⟨hF,vs,k1,k2⟩:=kc2;refine⟨a,vs,k,j,rfl,d2,k1,by rw[<-k2.length];exact ej,?_⟩;have dw2:Den F2 dd v:=Den.mono (g1.trans g2).s dd dw;exact h F2 r2 σ _ (g1.trans g2) (R2.write ha hF ⟨hF,_,fC,DenL.set dw2 j k2⟩)
          |_=>exact h.elim
noncomputable def dFrz (i:Nat):DE W:=λenv bx=>match env[i]? with
  | some (some (.b n))=>(match bx[n]? with
    |some (.lst l)=>.val (.d (.lst l)) (bx.set n .dead)
    |some (.dic l)=>.val (.d (.dic l)) (bx.set n .dead)
    |_=>.bad)
  |_=>.bad
theorem Pl (i:Nat) {x:Str}(hN:X.N[i]?=some x:=by rfl) (hv:Vis X.env.scope x:=by first|exact Or.inl rfl|exact Or.inr (Or.inl rfl)|exact Or.inr (Or.inr rfl)) (hd:(x==("__debug__":Str))=false:=by decide)
    (hcd:(x==("__classdict__":Str))=false:=by decide):PD X T Z (.Name x pos) (dFrz i):=by
  refine PE.imp (oI hN hv hd hcd) λσ H Q ⟨F,r,env,bx,R,h⟩=>?_;unfold dFrz at h;split at h
  . rename_i n e;obtain⟨v,e1,a,rfl,ha⟩:=R.slot i _ e;obtain⟨c,hc,kc⟩:=R.bat ha;rw[hc]at h;cases c with
    |dead=>exact h.elim
    | lst l =>
      obtain⟨hF,vs,k1,k2⟩:=kc;obtain⟨R',g⟩:=R.freeze ha hF k1;exact⟨_,e1,h _ r _ H g R' ⟨a,vs,rfl,fC,DenL.mono g.s l k2⟩⟩
    | dic l =>
      obtain⟨hF,vs,k1,k2⟩:=kc;obtain⟨R',g⟩:=R.freeze ha hF k1;exact⟨_,e1,h _ r _ H g R' ⟨a,vs,rfl,fC,DenK.mono g.s l k2⟩⟩
  . exact h.elim
noncomputable def dLenS (m:DE W):DE W:=λenv bx=>fA (m env bx) λw bx1=>match w with|.s l=>.val (.d (.int l.length)) bx1|_=>.bad
theorem MT (hg:Gl X "len") (hm:X.mg "len"=none) (ha:PD X T Z a ma) (he:starEach [a] X.env=(false,eval a X.env)::starEach [] X.env:=by rfl):PD X T Z (.Call (.Name "len" p) [a] [] pos) (dLenS ma):=by
  refine PE.imp (fU lV hg hm PySem.boot_len (fm ha fS he) (by decide) (by decide) he (by rfl)) λσ H Q ⟨F,r,env,bx,R,h⟩=>?_;refine⟨F,r,env,bx,R,End.bind h λw bx1 F1 r1 v H1 g1 R1 d1 h1=>?_⟩;cases w with
  |b _=>exact h1.elim
  |d _=>exact h1.elim
  |x _=>exact h1.elim
  | s l =>
    obtain⟨q,o,rfl,k⟩:=d1;refine⟨q,_,rfl,.inl (.inl (.inr ⟨o,R1.fh _ _ k⟩)),?_⟩;rw[List.length_map];exact h1 F1 r1 _ H1 (.refl F1 r1) R1 rfl
noncomputable def dIxS (m k:DE W):DE W:=λenv bx=>fA (m env bx) λw bx1=>fA (k env bx1) λu bx2=>match w,u with
  |.s l,.d (.int i)=>(match atI l i with|some n=>.val (.d (.int n)) bx2|none=>.bad)
  |_,_=>.bad
theorem Pm (ha:PD X T Z a ma) (hb:PD X T Z b mb) (hs:PlainIx b):PD X T Z (.Subscript a b pos) (dIxS ma mb):=by
  refine PE.imp (Ji Be ha hb hs) λσ H Q ⟨F,r,env,bx,R,h⟩=>?_;refine⟨F,r,env,bx,R,End.bind h λw bx1 F1 r1 v H1 g1 R1 d1 h1=>?_⟩;refine⟨F1,r1,env,bx1,R1,End.bind h1 λu bx2 F2 r2 y H2 g2 R2 d2 h2=>?_⟩;cases w with
  |b _=>exact h2.elim
  |d _=>exact h2.elim
  |x _=>exact h2.elim
  | s l =>
    cases u with
    |b _=>exact h2.elim
    |s _=>exact h2.elim
    |x _=>exact h2.elim
    | d d =>
      cases d with
      | int i =>
        obtain⟨q,o,rfl,k⟩:=d1;simp only at h2;cases e:atI l i with
        |none=>rw[e]at h2;exact h2.elim
        | some n =>
          rw[e]at h2;refine⟨q,l.map V.int,i,.int n,rfl,d2,.inl (.inr ⟨o,R2.fh _ _ (g2.s _ _ k)⟩),?_,h2 F2 r2 _ H2 (.refl F2 r2) R2 rfl⟩;unfold atI at e ⊢;rw[List.length_map];cases ej:ixN l.length i with
          |none=>rw[ej]at e;cases e
          |some j=>rw[ej]at e;simp only[Option.bind_some]at e ⊢;rw[List.getElem?_map,e];rfl
      |_=>exact h2.elim
noncomputable def dDic (bo:Bool) (l:List (Key×D)):DE W:=λ_ bx=>resO bo (some (.dic l)) bx
theorem MU (bo:Bool):PD X T Z (.Dict [] [] pos) (dDic bo []):=by
  refine PE.imp (JM) λσ H Q ⟨F,r,env,bx,R,h⟩=>?_;exact λp hp=>gX R h ⟨p,[],rfl,hp,rfl,rfl⟩
theorem MV (bo:Bool) {k v:Int}{j1 j2:Nat}{q1 q2:Pos}:PD X T Z (.Dict [some (.Constant (.int k) j1 q1)] [.Constant (.int v) j2 q2] pos) (dDic bo [(.inl k,.int v)]):=by
  refine PE.imp (Fd (B8 mE mE Fc) rfl rfl (by simp) (by simp)) λσ H Q ⟨F,r,env,bx,R,h⟩=>?_;intro p hp;refine⟨fC,[(.inl k,.int v)],rfl,by simp,?_⟩;rw[DA];exact gX R h ⟨p,[(.inl k,.int v)],rfl,hp,rfl,⟨_,_,rfl,rfl,rfl⟩⟩
end
end L2.DL
namespace HT
open PySem PySem.Spec PyProof.Rows
section
variable {prog : Program} {w : World} {A : Around} {E : Value -> Shared -> Prop} {s : Shared}
theorem De {it t:Addr}{i:Nat}{items:Array Value}{x:Value}{Q:Value->Shared->Prop}(hit:s.heap.IsTupleIter it t i) (ht:s.heap.IsTuple t items) (hx:items[i]?=some x)
    (hQ:∀ h',h'.IsTupleIter it t (i+1)->Heap.SameBut it s.heap h'->Q x { s with heap:=h' }):wpAny (model prog w) A (Builtin.SmallTypes.nextOf (.ref it)) Q E s:=by
  obtain⟨ob,hob,hcl,hda⟩:=id hit;obtain⟨ot,hot,_,nt,hdt⟩:=ht;unfold Builtin.SmallTypes.nextOf;refine zB (wpAny_callSpecial?_slot (name:=Str.ofString "__next__") hit.typeIs F.slot_tuple_iterator_next (wpAny_call_entry F.slot_tuple_iterator_next hit.typeIs F.entry_tuple_iterator_next (show wpAny _ _ (field (.ref it) 0 >>= _) _ _ s from zB (wpAny_field hob hda (x:=.ref t) rfl ?_)) (F.args_tuple_iterator_next_1 _)))
  change wpAny _ _ (if (Value.ref t==Value.none)=true then _ else _) _ _ s;rw[if_neg (show ¬ ((Value.ref t==Value.none)=true) from Bool.false_ne_true)]
  change wpAny _ _ (field (.ref it) 1 >>= _) _ _ s
  refine zB (wpAny_field hob hda (x:=.int i 0) rfl (show wpAny _ _ (seqItems? (.ref t) >>= _) _ _ s from zB (wpAny_seqItems hot hdt ?_)));simp only[Int.toNat_natCast,hx];refine zB (wpAny_setField hob hda (by simp) (zP ⟨x,rfl,zP (hQ _ ⟨_,Heap.get?_update_self _ hob (Obj.isFreed_of_fields (Obj.data_mapFields hda _)),(Obj.cls_mapFields ..).trans hcl,?_⟩ (Heap.SameBut.update ..))⟩));rw[Obj.data_mapFields hda];simp[rawInt]
theorem Gq {it t:Addr}{i:Nat}{items:Array Value}{Q:Value->Shared->Prop}(hh:A.handled=none) (hit:s.heap.IsTupleIter it t i) (ht:s.heap.IsTuple t items) (hx:items[i]?=none)
    (hE:∀ h' e,Heap.ExtBut it s.heap h'->(∃ o,h'.get? e=some o /\ o.cls=.type "StopIteration")->E (.ref e) { s with heap:=h' }):wpAny (model prog w) A (Builtin.SmallTypes.nextOf (.ref it)) Q E s:=by
  obtain⟨ob,hob,hcl,hda⟩:=id hit;obtain⟨ot,hot,_,nt,hdt⟩:=ht;unfold Builtin.SmallTypes.nextOf;refine zB (wpAny_callSpecial?_slot (name:=Str.ofString "__next__") hit.typeIs F.slot_tuple_iterator_next (wpAny_call_entry F.slot_tuple_iterator_next hit.typeIs F.entry_tuple_iterator_next (show wpAny _ _ (field (.ref it) 0 >>= _) _ _ s from zB (wpAny_field hob hda (x:=.ref t) rfl ?_)) (F.args_tuple_iterator_next_1 _)))
  change wpAny _ _ (if (Value.ref t==Value.none)=true then _ else _) _ _ s;rw[if_neg (show ¬ ((Value.ref t==Value.none)=true) from Bool.false_ne_true)]
  change wpAny _ _ (field (.ref it) 1 >>= _) _ _ s
  refine zB (wpAny_field hob hda (x:=.int i 0) rfl (show wpAny _ _ (seqItems? (.ref t) >>= _) _ _ s from zB (wpAny_seqItems hot hdt ?_)));simp only[Int.toNat_natCast,hx];refine zB (wpAny_rule (zB (wpAny_setField hob hda (by simp) (show wpAny _ _ (newExc (.type "StopIteration") [] >>= _) _ _ _ from zB ?_))));simp only[newExc,newTuple];refine zB (wpAny_newObj_type (zB (m:=firstArgMember _ _) (wpAny_of_eq (a:=Value.none) (by first|rfl|(simp only[firstArgMember];rfl)) (wpAny_newObj_type ?_ (by size_fits)))) (by size_fits));simp only[raiseNew];refine zB (wpAny_handled ?_);first|rw[show A.in1.handled=none from hh]|rw[hh]
  exact zB (zP (wpAny_throw (hE _ _ (((Heap.SameBut.update ..).extBut.push _).push _) ⟨_,Heap.get?_push_size _ rfl,rfl⟩)))
theorem lf (hh:A.handled=none) (it l:Addr) (hne:l≠it) (items:Array Value) :
    Draws prog w A it [it,l] items.size (λi v=>items[i]?=some v) (λi h=>h.IsTupleIter it l i /\ h.IsTuple l items) where
  live:=λ_ _ st=>let ⟨o,ho,_⟩:=st.1;⟨o,ho⟩
  frame:=λ_ _ _ st hk=>⟨st.1.at λo e=>hk it (by simp) o e,st.2.at λo e=>hk l (by simp) o e⟩
  item:=λi s Q E hi st hQ=>De st.1 st.2 (x:=items[i]) (by simp[hi]) λh' a b=>hQ _ h' s.toks (by simp[hi]) ⟨a,st.2.at λo e=>b.extBut _ _ hne e⟩ b
  done:=λs Q E st hE=>Gq hh st.1 st.2 (by simp) hE
structure Far (z TI TO i1 i2:Addr) (fp1 fp2:List Addr):Prop where
  a:TI≠z /\ TO≠z /\ i1≠z /\ i2≠z /\ TI≠TO /\ TI≠i1 /\ TI≠i2 /\ TO≠i1 /\ TO≠i2 /\ i1≠i2
  f1:z∉fp1 /\ TO∉fp1 /\ i2∉fp1
  f2:z∉fp2 /\ TO∉fp2 /\ i1∉fp2
variable {z TI TO i1 i2 : Addr} {fp1 fp2 : List Addr} {n1 n2 : Nat} {P1 P2 : Nat -> Value -> Prop} {S1 S2 : Nat -> Heap -> Prop}
theorem Draws.same {it:Addr}{fp:List Addr}{n:Nat}{P:Nat->Value->Prop}{S:Nat->Heap->Prop}(D:Draws prog w A it fp n P S) {c:Addr}{h h':Heap}{k:Nat}(x:Heap.SameBut c h h') (hc:c∉fp) (st:S k h):S k h' :=
  D.frame k h h' st λb hb o e=>x.extBut _ _ (λq=>hc (q▸hb)) e
abbrev ZipF (h:Heap) (z TI TO:Addr) (f0 f1:Value):Prop:=h.get? z=some { cls:=.type "zip",dict:=none,data:=.fields #[f0,f1,.bool false,.ref TI,.ref TO],slots:=#[] }
def ZipA (h:Heap) (z TI TO:Addr):Prop:=∃ f0 f1,(f0=.none \/ ∃ a,f0=rawInt a) /\ ZipF h z TI TO f0 f1
theorem loadAlive {a:Addr}{Q:Option Obj->Shared->Prop}(h:Q (s.heap.get? a) s):wpAny (model prog w) A (loadIfAlive a) Q E s:=λΓ p _=>by simpa[loadIfAlive] using h
theorem o8 {f0 f1:Value}{Q:Bool->Shared->Prop}(hf:f0=.none \/ ∃ a,f0=rawInt a) (hz:ZipF s.heap z TI TO f0 f1) (h:∀ r h' f1',ZipF h' z TI TO f0 f1'->Heap.SameBut z s.heap h'->Q r { s with heap:=h' }) :
    wpAny (model prog w) A (Builtin.SmallTypes.ownedTupleIsFree (.ref z)) Q E s:=by
  have hs:Heap.SameBut z s.heap s.heap:=⟨rfl,λ_ _=>rfl⟩;unfold Builtin.SmallTypes.ownedTupleIsFree;rcases hf with rfl|⟨a,rfl⟩
  . exact zB (wpAny_field hz rfl (x:=.none) rfl (zP (h _ _ f1 hz hs)))
  . refine zB (wpAny_field hz rfl (x:=rawInt a) rfl (zB (loadAlive ?_)));cases s.heap.get? a.toNat with
    |none=>exact zP (h _ _ f1 hz hs)
    | some o =>
      refine zB (wpAny_field hz rfl (x:=f1) rfl ?_);by_cases q:(f1 != Value.bool true)=true
      . rw[if_pos q];exact zB (wpAny_setField_rec hz (by simp) λg1 hz1 e1=>zP (h _ g1 (.bool true) hz1 e1))
      . rw[if_neg q];exact zB (zP (zP (h _ _ f1 hz hs)))
theorem JO (D1:Draws prog w A i1 fp1 n1 P1 S1) (D2:Draws prog w A i2 fp2 n2 P2 S2) (R:Far z TI TO i1 i2 fp1 fp2) {k:Nat}{a b:Value}{Q:Value->Shared->Prop}(k1:k<n1) (k2:k<n2)
    (hz:ZipA s.heap z TI TO) (hTI:IsPair s.heap TI (.ref i1) (.ref i2)) (hTO:IsPair s.heap TO a b) (s1:S1 k s.heap) (s2:S2 k s.heap)
    (hQ:∀ x y h' tk,P1 k x->P2 k y->ZipA h' z TI TO->(∃ u v,IsPair h' TO u v)->S1 (k+1) h'->S2 (k+1) h'->IsPair h' s.heap.objs.size x y ->
      (∀ c o,c≠z->c≠TO->c≠i1->c≠i2->s.heap.get? c=some o->h'.get? c=some o)->Q (.ref s.heap.objs.size) { s with heap:=h',toks:=tk }) :
    wpAny (model prog w) A (Builtin.«zip.__next__» ⟨[.ref z],[]⟩) (λfin s'=>∃ v,fin=.done (.ret v) /\ Q v s') E s:=by
  obtain⟨⟨r1,r2,r3,r4,r5,r6,r7,r8,r9,r10⟩,⟨f1,f2,f3⟩,⟨f4,f5,f6⟩⟩:=R;obtain⟨o0,o1,ho,hz⟩:=hz
  change wpAny _ _ (field (.ref z) 2 >>= _) _ _ _;refine zB (wpAny_field hz rfl (x:=.bool false) rfl ?_)
  change wpAny _ _ (field (.ref z) 3 >>= _) _ _ _;refine zB (wpAny_field hz rfl (x:=.ref TI) rfl (zB (wpAny_seqItems hTI rfl ?_)))
  change wpAny _ _ (Builtin.SmallTypes.ownedTupleIsFree (.ref z) >>= _) _ _ _
  refine zB (o8 ho hz λr g0 o2 hz0 e0=>?_);cases r with
  | true =>
    simp only[if_true];refine zB (wpAny_rule (zB (wpAny_field hz0 rfl (x:=.ref TO) rfl (zB (wpAny_setField_rec hz0 (by simp) λg1 hz1 e1'=>?_)))));have e1:Heap.SameBut z s.heap g1:=⟨e1'.1.trans e0.1,λc hc=>(e1'.2 c hc).trans (e0.2 c hc)⟩;have hz1':ZipF g1 z TI TO .ellipsis o2:=hz1;refine zB ?_;simp only[List.zipIdx_cons,List.zipIdx_nil,List.forIn_cons,List.forIn_nil];refine zB (zB (wpAny_onRaise (show wpAny _ _ (Builtin.SmallTypes.nextOf (.ref i1) >>= _) _ _ _ from zB (D1.item k _ _ _ k1 (Draws.same D1 e1 f1 s1) λx g2 t2 px s1' e2=>zP ?_))));have hTO2:IsPair g2 TO a b:=e2.extBut _ _ r8 (e1.extBut _ _ r2 hTO);refine zB (wpAny_seqItems hTO2 rfl (zB (wpAny_updateSeq_pair hTO2 λg3 hTO3 e3=>zB (wpAny_letGo (zP ?_)))));have hTO3':IsPair g3 TO x b:=hTO3;refine zB (zB (wpAny_onRaise (show wpAny _ _ (Builtin.SmallTypes.nextOf (.ref i2) >>= _) _ _ _ from zB (D2.item k _ _ _ k2 (Draws.same D2 e3 f5 (Draws.same D2 e2 f6 (Draws.same D2 e1 f4 s2))) λy g4 t4 py s2' e4=>zP ?_))));have hTO4:IsPair g4 TO x b:=e4.extBut _ _ r9 hTO3';refine zB (wpAny_seqItems hTO4 rfl (zB (wpAny_updateSeq_pair hTO4 λg5 hTO5 e5=>zB (wpAny_letGo (zP (zP ?_))))));have hTO5':IsPair g5 TO x y:=hTO5;refine zB (wpAny_seqItems hTO5' rfl (zB (wpAny_newTuple ?_)));have hsz:g5.objs.size=s.heap.objs.size:=by rw[e5.1,e4.1,e3.1,e2.1,e1.1]
    have hz5:ZipF g5 z TI TO .ellipsis o2:=e5.extBut _ _ r2.symm (e4.extBut _ _ r4.symm (e3.extBut _ _ r2.symm (e2.extBut _ _ r3.symm hz1')));have kp:∀ c o,c≠z->c≠TO->c≠i1->c≠i2->s.heap.get? c=some o->g5.get? c=some o:=λc o c1 c2 c3 c4 q=>e5.extBut _ _ c2 (e4.extBut _ _ c4 (e3.extBut _ _ c2 (e2.extBut _ _ c3 (e1.extBut _ _ c1 q))));have q1:S1 (k+1) g5:=Draws.same D1 e5 f2 (Draws.same D1 e4 f3 (Draws.same D1 e3 f2 s1'));have q2:S2 (k+1) g5:=Draws.same D2 e5 f5 s2';have zlt:z<g5.objs.size:=Heap.lt_size hz5
    change wpAny _ _ (Builtin.SmallTypes.ownedTupleHandOut (.ref z) (.ref g5.objs.size) >>= _) _ _ _;refine zB ?_
    unfold Builtin.SmallTypes.ownedTupleHandOut;refine zB (wpAny_setField_rec (zH _ hz5) (by simp) λg7 hz7 e7=>wpAny_setField_rec (show ZipF g7 z TI TO (rawInt g5.objs.size) o2 from hz7) (by simp) λg8 hz8 e8=>?_);have up:∀ c o,c≠z->g5.get? c=some o->g8.get? c=some o:=λc o c1 q=>e8.extBut _ _ c1 (e7.extBut _ _ c1 (zH _ q));have hT8:IsPair g8 g5.objs.size x y:=e8.extBut _ _ (Nat.ne_of_gt zlt) (e7.extBut _ _ (Nat.ne_of_gt zlt) (Heap.get?_push_size _ rfl));have hz8':ZipA g8 z TI TO:=⟨_,_,.inr ⟨_,rfl⟩,show ZipF g8 z TI TO (rawInt g5.objs.size) (.bool false) from hz8⟩;refine zP ⟨_,rfl,(show Q (.ref g5.objs.size) _ from ?_)⟩;rw[hsz]at hT8 ⊢;exact hQ x y g8 _ px py hz8' ⟨_,_,up _ _ r2 hTO5'⟩ (D1.frame _ _ _ q1 λc hc o q=>up c o (λw=>f1 (w▸hc)) q) (D2.frame _ _ _ q2 λc hc o q=>up c o (λw=>f4 (w▸hc)) q) hT8 λc o c1 c2 c3 c4 q=>up c o c1 (kp c o c1 c2 c3 c4 q)
  | false =>
    simp only[Bool.false_eq_true,if_false];rw[show (#[Value.ref i1,Value.ref i2]:Array Value)=[Value.ref i1,Value.ref i2].toArray from rfl];simp only[List.forIn_toArray,List.forIn_cons,List.forIn_nil];refine zB (zB (zB (wpAny_holding (show wpAny _ _ (Builtin.SmallTypes.nextOf (.ref i1) >>= _) _ _ _ from zB (D1.item k _ _ _ k1 (Draws.same D1 e0 f1 s1) λx g2 t2 px s1' e2=>zP ?_)))));refine zP (zB (zB (wpAny_holding (show wpAny _ _ (Builtin.SmallTypes.nextOf (.ref i2) >>= _) _ _ _ from zB (D2.item k _ _ _ k2 (Draws.same D2 e2 f6 (Draws.same D2 e0 f4 s2)) λy g4 t4 py s2' e4=>zP ?_)))));refine zP (zP (zB (wpAny_newTuple (zP ⟨_,rfl,?_⟩) (show 2<=sizeLine by decide))));have hsz:g4.objs.size=s.heap.objs.size:=by rw[e4.1,e2.1,e0.1]
    have hz4:ZipF g4 z TI TO o0 o2:=e4.extBut _ _ r4.symm (e2.extBut _ _ r3.symm hz0);have up:∀ c o,g4.get? c=some o->(g4.push { cls:=.type "tuple",data:=.seq #[x,y] }).get? c=some o:=λc o q=>zH _ q;have hT:IsPair (g4.push { cls:=.type "tuple",data:=.seq #[x,y] }) g4.objs.size x y:=Heap.get?_push_size _ rfl;show Q (.ref g4.objs.size) _;rw[hsz]at hT ⊢;exact hQ x y _ _ px py ⟨o0,o2,ho,up _ _ hz4⟩ ⟨a,b,up _ _ (e4.extBut _ _ r9 (e2.extBut _ _ r8 (e0.extBut _ _ r2 hTO)))⟩ (D1.frame _ _ _ (Draws.same D1 e4 f3 s1') λc hc o q=>up c o q) (D2.frame _ _ _ s2' λc hc o q=>up c o q) hT
      λc o c1 c2 c3 c4 q=>up c o (e4.extBut _ _ c4 (e2.extBut _ _ c3 (e0.extBut _ _ c1 q)))
theorem JP (D1:Draws prog w A i1 fp1 n1 P1 S1) (D2:Draws prog w A i2 fp2 n2 P2 S2) (R:Far z TI TO i1 i2 fp1 fp2) {k:Nat}{a b:Value}{Q:Fin->Shared->Prop}(hk:k=n1 \/ (k<n1 /\ k=n2))
    (hz:ZipA s.heap z TI TO) (hTI:IsPair s.heap TI (.ref i1) (.ref i2)) (hTO:IsPair s.heap TO a b) (s1:S1 k s.heap) (s2:S2 k s.heap)
    (hE:∀ h' e tk,(∀ c o,c≠z->c≠TO->c≠i1->c≠i2->s.heap.get? c=some o->h'.get? c=some o)->(∃ o,h'.get? e=some o /\ o.cls=.type "StopIteration")->E (.ref e) { s with heap:=h',toks:=tk }) :
    wpAny (model prog w) A (Builtin.«zip.__next__» ⟨[.ref z],[]⟩) Q E s:=by
  obtain⟨⟨r1,r2,r3,r4,r5,r6,r7,r8,r9,r10⟩,⟨f1,f2,f3⟩,⟨f4,f5,f6⟩⟩:=R;obtain⟨o0,o1,ho,hz⟩:=hz
  change wpAny _ _ (field (.ref z) 2 >>= _) _ _ _;refine zB (wpAny_field hz rfl (x:=.bool false) rfl ?_)
  change wpAny _ _ (field (.ref z) 3 >>= _) _ _ _;refine zB (wpAny_field hz rfl (x:=.ref TI) rfl (zB (wpAny_seqItems hTI rfl ?_)))
  change wpAny _ _ (Builtin.SmallTypes.ownedTupleIsFree (.ref z) >>= _) _ _ _
  refine zB (o8 ho hz λr g0 o2 hz0 e0=>?_);cases r with
  | true =>
    simp only[if_true];refine zB (wpAny_rule (zB (wpAny_field hz0 rfl (x:=.ref TO) rfl (zB (wpAny_setField_rec hz0 (by simp) λg1 hz1 e1'=>?_)))));have e1:Heap.SameBut z s.heap g1:=⟨e1'.1.trans e0.1,λc hc=>(e1'.2 c hc).trans (e0.2 c hc)⟩;have hz1':ZipF g1 z TI TO .ellipsis o2:=hz1;refine zB ?_;simp only[List.zipIdx_cons,List.zipIdx_nil,List.forIn_cons,List.forIn_nil];rcases hk with hk|⟨hk1,hk2⟩
    . refine zB (zB (wpAny_onRaise (show wpAny _ _ (Builtin.SmallTypes.nextOf (.ref i1) >>= _) _ _ _ from zB (D1.done _ _ _ (hk▸Draws.same D1 e1 f1 s1) λg2 ex e2 hx=>?_))));obtain⟨oe,hoe,hce⟩:=hx;have hz2:ZipF g2 z TI TO .ellipsis o2:=e2 _ _ r3.symm hz1';have hez:ex≠z:=λq=>by subst q;rw[hz2]at hoe;cases hoe;simp at hce
      exact wpAny_setField_rec hz2 (by simp) λg3 _ e3=>hE g3 ex _ (λc o c1 _ c3 _ q=>e3.extBut _ _ c1 (e2 _ _ c3 (e1.extBut _ _ c1 q))) ⟨oe,e3.extBut _ _ hez hoe,hce⟩
    . refine zB (zB (wpAny_onRaise (show wpAny _ _ (Builtin.SmallTypes.nextOf (.ref i1) >>= _) _ _ _ from zB (D1.item k _ _ _ hk1 (Draws.same D1 e1 f1 s1) λx g2 t2 px s1' e2=>zP ?_))));have hTO2:IsPair g2 TO a b:=e2.extBut _ _ r8 (e1.extBut _ _ r2 hTO);refine zB (wpAny_seqItems hTO2 rfl (zB (wpAny_updateSeq_pair hTO2 λg3 hTO3 e3=>zB (wpAny_letGo (zP ?_)))));refine zB (zB (wpAny_onRaise (show wpAny _ _ (Builtin.SmallTypes.nextOf (.ref i2) >>= _) _ _ _ from zB (D2.done _ _ _ (hk2▸Draws.same D2 e3 f5 (Draws.same D2 e2 f6 (Draws.same D2 e1 f4 s2))) λg4 ex e4 hx=>?_))));obtain⟨oe,hoe,hce⟩:=hx;have hz4:ZipF g4 z TI TO .ellipsis o2:=e4 _ _ r4.symm (e3.extBut _ _ r2.symm (e2.extBut _ _ r3.symm hz1'));have hez:ex≠z:=λq=>by subst q;rw[hz4]at hoe;cases hoe;simp at hce
      exact wpAny_setField_rec hz4 (by simp) λg5 _ e5=>hE g5 ex _ (λc o c1 c2 c3 c4 q=>e5.extBut _ _ c1 (e4 _ _ c4 (e3.extBut _ _ c2 (e2.extBut _ _ c3 (e1.extBut _ _ c1 q))))) ⟨oe,e5.extBut _ _ hez hoe,hce⟩
  | false =>
    simp only[Bool.false_eq_true,if_false];rw[show (#[Value.ref i1,Value.ref i2]:Array Value)=[Value.ref i1,Value.ref i2].toArray from rfl];simp only[List.forIn_toArray,List.forIn_cons,List.forIn_nil];rcases hk with hk|⟨hk1,hk2⟩
    . refine zB (zB (zB (wpAny_holding (show wpAny _ _ (Builtin.SmallTypes.nextOf (.ref i1) >>= _) _ _ _ from zB (D1.done _ _ _ (hk▸Draws.same D1 e0 f1 s1) λg2 ex e2 hx=>?_)))));exact hE g2 ex _ (λc o c1 _ c3 _ q=>e2 _ _ c3 (e0.extBut _ _ c1 q)) hx
    . refine zB (zB (zB (wpAny_holding (show wpAny _ _ (Builtin.SmallTypes.nextOf (.ref i1) >>= _) _ _ _ from zB (D1.item k _ _ _ hk1 (Draws.same D1 e0 f1 s1) λx g2 t2 px s1' e2=>zP ?_)))));refine zP (zB (zB (wpAny_holding (show wpAny _ _ (Builtin.SmallTypes.nextOf (.ref i2) >>= _) _ _ _ from zB (D2.done _ _ _ (hk2▸Draws.same D2 e2 f6 (Draws.same D2 e0 f4 s2)) λg4 ex e4 hx=>?_)))));exact hE g4 ex _ (λc o c1 _ c3 c4 q=>e4 _ _ c4 (e2.extBut _ _ c3 (e0.extBut _ _ c1 q))) hx
theorem JQ {Q:Value->Shared->Prop}(hz:ZipA s.heap z TI TO) (h:Q (.ref z) s):wpAny (model prog w) A (pyIter (.ref z)) Q E s:=by
  have ty:s.TypeIs (.ref z) "zip":=let ⟨_,_,_,hz⟩:=hz;⟨_,hz,rfl⟩
  exact wpAny_pyIter_slot ty F.slot_zip_iter (wpAny_call_entry F.slot_zip_iter ty F.entry_zip_iter (show wpAny _ _ (ret (.ref z)) _ _ s from zP ⟨_,rfl, "zip",_,ty,F.slot_zip_next.lookup,h⟩) (F.args_zip_iter_1 _))
theorem Az (D1:Draws prog w A.in1 i1 fp1 n1 P1 S1) (D2:Draws prog w A.in1 i2 fp2 n2 P2 S2) (R:Far z TI TO i1 i2 fp1 fp2) {k:Nat}{a b:Value}{Q:Option Value->Shared->Prop}(k1:k<n1) (k2:k<n2)
    (hz:ZipA s.heap z TI TO) (hTI:IsPair s.heap TI (.ref i1) (.ref i2)) (hTO:IsPair s.heap TO a b) (s1:S1 k s.heap) (s2:S2 k s.heap)
    (hQ:∀ x y h' tk,P1 k x->P2 k y->ZipA h' z TI TO->(∃ u v,IsPair h' TO u v)->S1 (k+1) h'->S2 (k+1) h'->IsPair h' s.heap.objs.size x y ->
      (∀ c o,c≠z->c≠TO->c≠i1->c≠i2->s.heap.get? c=some o->h'.get? c=some o)->Q (some (.ref s.heap.objs.size)) { s with heap:=h',toks:=tk }):wpAny (model prog w) A (pyNext (.ref z)) Q E s:=by
  have hT:s.TypeIs (.ref z) "zip":=let ⟨_,_,_,hz⟩:=hz;⟨_,hz,rfl⟩
  unfold pyNext;exact zB (wpAny_attempt (wpAny_callSpecial?_slot (name:=Str.ofString "__next__") hT F.slot_zip_next (wpAny_call_entry F.slot_zip_next hT F.entry_zip_next (JO D1 D2 R k1 k2 hz hTI hTO s1 s2 λx y h' tk b1 b2 b3 b4 b5 b6 b7 b8=>zP (hQ x y h' tk b1 b2 b3 b4 b5 b6 b7 b8)) (F.args_zip_next_1 _))))
theorem Pn {tg:Expr}{p:Addr}{Q:Unit->Shared->Prop}(hz:ZipA s.heap z TI TO) (h:∀ h',ZipA h' z TI TO->Heap.SameBut z s.heap h'->Q () { s with heap:=h' }):wpAny (model prog w) A (letOwnedTupleGo tg (.ref z) (.ref p)) Q E s:=by
  have hs:Heap.SameBut z s.heap s.heap:=⟨rfl,λ_ _=>rfl⟩;have same:Q () s:=h _ hz hs;obtain⟨f0,f1,hf,hz⟩:=id hz
  have tup:wpAny (model prog w) A (do
      let o <-load z
      match o.cls,o.data with
      | .type n,.fields vs =>
        if ["enumerate", "zip", "dict_itemiterator", "dict_reverseitemiterator", "odict_iterator", "itertools.zip_longest", "itertools.pairwise"].contains n&&vs[0]?==some (rawInt p) then
          rule "for.unpacks-the-owned-tuple"
          updateField z 0 .none
      |_,_=>pure ()) Q E s:=by
    refine zB (wpAny_load hz ?_);dsimp only;split
    . refine zB (wpAny_rule (wpAny_setField_rec hz (by simp) λg1 hz1 e1=>h g1 ⟨.none,f1,.inl rfl,hz1⟩ e1))
    . exact zP same
  unfold letOwnedTupleGo;cases tg with
  |Tuple es n q=>exact tup
  |List es q=>exact tup
  |_=>exact zP same
theorem AA (D1:Draws prog w A.in1 i1 fp1 n1 P1 S1) (D2:Draws prog w A.in1 i2 fp2 n2 P2 S2) (R:Far z TI TO i1 i2 fp1 fp2) {k:Nat}{a b:Value}{Q:Option Value->Shared->Prop}(hk:k=n1 \/ (k<n1 /\ k=n2))
    (hz:ZipA s.heap z TI TO) (hTI:IsPair s.heap TI (.ref i1) (.ref i2)) (hTO:IsPair s.heap TO a b) (s1:S1 k s.heap) (s2:S2 k s.heap)
    (hQ:∀ h' tk,(∀ c o,c≠z->c≠TO->c≠i1->c≠i2->s.heap.get? c=some o->h'.get? c=some o)->Q none { s with heap:=h',toks:=tk }):wpAny (model prog w) A (pyNext (.ref z)) Q E s:=by
  have hT:s.TypeIs (.ref z) "zip":=let ⟨_,_,_,hz⟩:=hz;⟨_,hz,rfl⟩
  unfold pyNext;refine zB (wpAny_attempt (wpAny_callSpecial?_slot (name:=Str.ofString "__next__") hT F.slot_zip_next (wpAny_call_entry F.slot_zip_next hT F.entry_zip_next (JP D1 D2 R hk hz hTI hTO s1 s2 λh' e tk q1 q2=>?_) (F.args_zip_next_1 _))));obtain⟨o,ho,hc⟩:=q2;exact zB (wpAny_isInstance (T:="StopIteration") (b:=true) ⟨o,ho,hc⟩ isSubtype_stop (zP (hQ h' tk q1)))
noncomputable def zH1 (h:Heap) (l1:Addr):Heap:=h.push { cls:=.type "tuple_iterator",data:=.fields #[.ref l1,.int 0 0] }
noncomputable def zH2 (h:Heap) (l1 l2:Addr):Heap:=(zH1 h l1).push { cls:=.type "tuple_iterator",data:=.fields #[.ref l2,.int 0 0] }
noncomputable def zH3 (h:Heap) (l1 l2:Addr):Heap:=(zH2 h l1 l2).push { cls:=.type "tuple",data:=.seq #[.ref h.objs.size,.ref (zH1 h l1).objs.size] }
noncomputable def zH4 (h:Heap) (l1 l2:Addr):Heap:=(zH3 h l1 l2).push { cls:=.type "tuple",data:=.seq #[.none,.none] }
noncomputable def zH5 (h:Heap) (l1 l2:Addr):Heap:=(zH4 h l1 l2).push { cls:=.type "zip",data:=.fields #[.none,.bool false,.bool false,.ref (zH2 h l1 l2).objs.size,.ref (zH3 h l1 l2).objs.size] }
theorem Df (l1 l2:Addr) (xs ys:Array Value) :
    Meets (Builtin.«zip.__new__» ⟨[.type "zip",.ref l1,.ref l2],[]⟩) (λ_ R s=>s.heap.IsTuple l1 xs /\ s.heap.IsTuple l2 ys /\ R (.ok (.ret (.ref (zH4 s.heap l1 l2).objs.size))) { s with heap:=zH5 s.heap l1 l2 }):=
  .of_wp λprog w A R s h=>by
    obtain⟨hp,g,d,tk,os⟩:=s;obtain⟨hl1,hl2,h⟩:=h;have hsub:=sub_zip;have hL1:Heap.IsTuple (Shared.heap ⟨hp,g,d,tk,os⟩) l1 xs:=hl1;have hL2:Heap.IsTuple (Shared.heap ⟨hp.push { cls:=.type "tuple_iterator",data:=.fields #[.ref l1,.int 0 0] },g,d,tk,os⟩) l2 ys:=hl2.at λo e=>zH _ e
    wp_walk using wpAny_pyIter_tuple hL1,wpAny_pyIter_tuple hL2
    exact⟨_,rfl,h⟩
theorem Gr {l1 l2:Addr}{xs ys:Array Value}{Q:Value->Shared->Prop}(hl1:s.heap.IsTuple l1 xs) (hl2:s.heap.IsTuple l2 ys)
    (h:∀ h',IsZip h' (s.heap.objs.size+4) (s.heap.objs.size+2) (s.heap.objs.size+3) .none->IsPair h' (s.heap.objs.size+2) (.ref s.heap.objs.size) (.ref (s.heap.objs.size+1))->IsPair h' (s.heap.objs.size+3) .none .none ->
      h'.IsTupleIter s.heap.objs.size l1 0->h'.IsTupleIter (s.heap.objs.size+1) l2 0->(∀ c o,s.heap.get? c=some o->h'.get? c=some o)->Q (.ref (s.heap.objs.size+4)) { s with heap:=h' }):wpAny (model prog w) A (call (.type "zip") [.ref l1,.ref l2]) Q E s:=by
  refine callType_new F.called_zip (by decide) (F.typeCall_zip_2 _ _) (F.newCall_zip_2 _ _) (λobj=>F.args_object_init_3 obj _ _) F.entry_zip_new (Df l1 l2 xs ys) ⟨hl1,hl2,?_⟩;have z1:(zH1 s.heap l1).objs.size=s.heap.objs.size+1:=Heap.size_push ..;have z2:(zH2 s.heap l1 l2).objs.size=s.heap.objs.size+2:=by rw[zH2,Heap.size_push,z1]
  have z3:(zH3 s.heap l1 l2).objs.size=s.heap.objs.size+3:=by rw[zH3,Heap.size_push,z2]
  have z4:(zH4 s.heap l1 l2).objs.size=s.heap.objs.size+4:=by rw[zH4,Heap.size_push,z3]
  have g5:(zH5 s.heap l1 l2).get? (zH4 s.heap l1 l2).objs.size=some { cls:=.type "zip",data:=.fields #[.none,.bool false,.bool false,.ref (zH2 s.heap l1 l2).objs.size,.ref (zH3 s.heap l1 l2).objs.size] }:=Heap.get?_push_size _ rfl;have g4:(zH5 s.heap l1 l2).get? (zH3 s.heap l1 l2).objs.size=some { cls:=.type "tuple",data:=.seq #[.none,.none] }:=zH _ (Heap.get?_push_size _ rfl);have g3:(zH5 s.heap l1 l2).get? (zH2 s.heap l1 l2).objs.size=some { cls:=.type "tuple",data:=.seq #[.ref s.heap.objs.size,.ref (zH1 s.heap l1).objs.size] }:=zH _ (zH _ (Heap.get?_push_size _ rfl));have g2:(zH5 s.heap l1 l2).get? (zH1 s.heap l1).objs.size=some { cls:=.type "tuple_iterator",data:=.fields #[.ref l2,.int 0 0] }:=zH _ (zH _ (zH _ (Heap.get?_push_size _ rfl)));have g1:(zH5 s.heap l1 l2).get? s.heap.objs.size=some { cls:=.type "tuple_iterator",data:=.fields #[.ref l1,.int 0 0] }:=zH _ (zH _ (zH _ (zH _ (Heap.get?_push_size _ rfl))))
  change _ /\ _
  rw[z2,z3,z4]at g5;rw[z1,z2]at g3;rw[z3]at g4;rw[z1]at g2;rw[z4];exact⟨⟨_,g5,rfl⟩,h _ g5 g3 g4 ⟨_,g1,rfl,rfl⟩ ⟨_,g2,rfl,rfl⟩ λc o q=>zH _ (zH _ (zH _ (zH _ (zH _ q))))⟩
end
end HT
namespace L2
open PySem PySem.Spec PyProof.Rows
section
variable {X : Cx} {pins : List (Addr × Obj)} {σ : St} {H : Hp} {s : Shared} {h' : Heap}
theorem Inv.turnedL {t':Nat}{ch:List Addr}{p:Addr}{o:HO}(I:Inv X pins σ H s) (hf:∀ b∈ch,FpOk X pins H b) (k:∀ b o,b∉ch->s.heap.get? b=some o->h'.get? b=some o) (hp:s.heap.objs.size<=p)
    (new:ObjOk X.prog X.w (upd H p o) h' p o):Inv X pins σ (upd H p o) { s with heap:=h',toks:=t' }:=by
  have hfr:H p=none:=I.hok.fresh hp;have nch:∀ b u,H b=some u->b∉ch:=λb u e z=>by rw[(hf b z).1]at e;cases e
  have nep:∀ b u,H b=some u->b≠p:=λb u e=>fJ e hfr;have stay:∀ b u,H b=some u->upd H p o b=some u:=λb u e=>by rw[fq (nep b u e)];exact e
  refine I.step (g':=s.gens) (d':=s.drawn) (ch:=ch) (λb hb=>?_) (λb o _ _ hc e _=>k b o hc e) (λb o _ _ hc e _=>⟨o.slots,k b o hc e⟩) (λb ob _ e n=>?_)
    (λb o hc e=>⟨o,k b o hc e⟩) (λb _ e=>stay b _ e) (λb _ _ e=>stay b _ e) (λb ps e=>⟨#[],by rw[stay b _ e];simp⟩) (λm hm=>?_) ?_ I.bare
  . obtain⟨f0,f1,f2,f3,f4,f5⟩:=hf b hb;exact⟨f3,f1,f4,f5⟩
  . rw[fq (λz=>Nat.lt_irrefl _ (Nat.lt_of_lt_of_le (Heap.lt_size e) (by rw[z];exact hp)))];exact n
  . obtain⟨ob,es,ep,ho,r⟩:=hm;exact⟨ob,es,ep,k _ ob (λz=>(hf _ z).2.1 rfl) ho,r⟩
  . intro b u e;by_cases hb:b=p
    . subst hb;rw[fC]at e;cases e;exact new
    . rw[fq hb]at e;refine(I.hok b u e).stay (λc v hc q=>k c v ?_ q) (λc q=>stay c _ q) λc xs q=>stay c _ q;rcases hc with z|z
      . rw[z];exact nch b u e
      . exact nch c _ z
theorem Inv.turnedM {t':Nat}{ch:List Addr}(I:Inv X pins σ H s) (hf:∀ b∈ch,FpOk X pins H b) (k:∀ b o,b∉ch->s.heap.get? b=some o->h'.get? b=some o):Inv X pins σ H { s with heap:=h',toks:=t' }:=by
  have nch:∀ b u,H b=some u->b∉ch:=λb u e z=>by rw[(hf b z).1]at e;cases e
  refine I.step (g':=s.gens) (d':=s.drawn) (ch:=ch) (λb hb=>?_) (λb o _ _ hc e _=>k b o hc e) (λb o _ _ hc e _=>⟨o.slots,k b o hc e⟩) (λb ob _ e n=>n)
    (λb o hc e=>⟨o,k b o hc e⟩) (λb _ e=>e) (λb _ _ e=>e) (λb ps e=>⟨#[],by rw[e];simp⟩) (λm hm=>?_) ?_ I.bare
  . obtain⟨f0,f1,f2,f3,f4,f5⟩:=hf b hb;exact⟨f3,f1,f4,f5⟩
  . obtain⟨ob,es,ep,ho,r⟩:=hm;exact⟨ob,es,ep,k _ ob (λz=>(hf _ z).2.1 rfl) ho,r⟩
  . intro b u e;refine(I.hok b u e).stay (λc v hc q=>k c v ?_ q) (λc q=>q) λc xs q=>q;rcases hc with z|z
    . rw[z];exact nch b u e
    . exact nch c _ z
end
noncomputable def Itz (K:PySem.W.Frag) (a b:Addr):It :=
  ⟨λi H=>∃ (xs ys:List V) (x y:V),SqT K H a xs /\ SqT K H b ys /\ xs[i]?=some x /\ ys[i]?=some y,
   λi H w H'=>∀ (xs ys:List V),SqT K H a xs->SqT K H b ys->∃ (p:Addr) (x y:V),xs[i]?=some x /\ ys[i]?=some y /\ H p=none /\ w=.ref p /\ H'=upd H p (.tup [x,y]),
   λi H=>∃ (xs ys:List V),SqT K H a xs /\ SqT K H b ys /\ (i=xs.length \/ (i<xs.length /\ i=ys.length))⟩
theorem AQ {b n:Nat}(k:Nat) (h:b<n):b≠n+k:=by omega
theorem AR {m n:Nat}(h:n+4<m):m≠n /\ m≠n+1 /\ m≠n+2 /\ m≠n+3 /\ m≠n+4:=by omega
theorem Fe {n a b:Addr}(ha:a<n) (hb:b<n):HT.Far (n+4) (n+2) (n+3) n (n+1) [n,a] [n+1,b] where
  a:=by refine⟨?_,?_,?_,?_,?_,?_,?_,?_,?_,?_⟩<;>exact λz=>by have z':(_:Nat)=_:=z;omega
  f1:=by
    have e1:∀ k:Nat,n+k≠a:=λk z=>Nat.lt_irrefl _ (Nat.lt_of_le_of_lt (Nat.le_add_right n k) (z▸ha));refine⟨?_,?_,?_⟩<;>(rw[List.mem_cons,List.mem_singleton];rintro(z|z))
    . have z':(_:Nat)=_:=z;omega
    . exact e1 4 z
    . have z':(_:Nat)=_:=z;omega
    . exact e1 3 z
    . have z':(_:Nat)=_:=z;omega
    . exact e1 1 z
  f2:=by
    have e1:∀ k:Nat,n+k≠b:=λk z=>Nat.lt_irrefl _ (Nat.lt_of_le_of_lt (Nat.le_add_right n k) (z▸hb));refine⟨?_,?_,?_⟩<;>(rw[List.mem_cons,List.mem_singleton];rintro(z|z))
    . have z':(_:Nat)=_:=z;omega
    . exact e1 4 z
    . have z':(_:Nat)=_:=z;omega
    . exact e1 3 z
    . have z':(_:Nat)=_:=z;omega
    . exact e1 0 z
theorem JR {P:Program}{w:World}{K:PySem.W.Frag}{tg:Expr}{n a b:Addr}(ha:a<n) (hb:b<n) :
    Turn P w K tg (Itz K a b) [n+4,n+2,n+3,n,n+1] (n+4)
      (λi h=>HT.ZipA h (n+4) (n+2) (n+3) /\ IsPair h (n+2) (.ref n) (.ref (n+1)) /\ (∃ u v,IsPair h (n+3) u v) /\ h.IsTupleIter n a i /\ h.IsTupleIter (n+1) b i) where
  mem:=by simp
  obj:=λi h st c hc=>by
    obtain⟨⟨_,_,_,z1⟩,z2,⟨u,v,z3⟩,⟨o4,e4,c4,d4⟩,⟨o5,e5,c5,d5⟩⟩:=st;simp only[List.mem_cons,List.not_mem_nil,or_false]at hc;rcases hc with rfl|rfl|rfl|rfl|rfl
    . exact⟨_,z1,λv z=>by cases z⟩
    . exact⟨_,z2,λv z=>by cases z⟩
    . exact⟨_,z3,λv z=>by cases z⟩
    . exact⟨o4,e4,λv z=>by rw[d4]at z;cases z⟩
    . exact⟨o5,e5,λv z=>by rw[d5]at z;cases z⟩
  keep:=λi h h' st k=>by
    obtain⟨z1,z2,⟨u,v,z3⟩,z4,z5⟩:=st;obtain⟨w0,w1,w2,z1⟩:=z1;exact⟨⟨w0,w1,w2,k _ (by simp) _ z1⟩,k _ (by simp) _ z2,⟨u,v,k _ (by simp) _ z3⟩,z4.at λo e=>k _ (by simp) o e,z5.at λo e=>k _ (by simp) o e⟩
  item:=by
    intro X hP hw hK hc i pins s σ H E I hf st hg;subst hP hw hK;obtain⟨xs,ys,x,y,q1,q2,e1,e2⟩:=hg;obtain⟨z1,z2,⟨u,v,z3⟩,z4,z5⟩:=st;obtain⟨i1,r1,p1,l1⟩:=I.tuple q1;obtain⟨i2,r2,p2,l2⟩:=I.tuple q2;have hx:=(List.getElem?_eq_some_iff.mp e1).1;have hy:=(List.getElem?_eq_some_iff.mp e2).1;have R:=Fe ha hb;have D1:=HT.lf (prog:=X.prog) (w:=X.w) (A:=X.A.in1) (I.ok.hd hc) n a (Nat.ne_of_lt ha) i1.toArray;have D2:=HT.lf (prog:=X.prog) (w:=X.w) (A:=X.A.in1) (I.ok.hd hc) (n+1) b (AQ 1 hb) i2.toArray;refine HT.Az D1 D2 R (by rw[List.size_toArray,<-r1.length];exact hx) (by rw[List.size_toArray,<-r2.length];exact hy) z1 z2 z3 ⟨z4,p1⟩ ⟨z5,p2⟩ λvx vy h' tk b1 b2 b3 b4 b5 b6 b7 b8=>⟨_,rfl,?_⟩;refine HT.Pn b3 λh2 hz2 hs2=>?_;obtain⟨w1,f1,g1⟩:=r1.get e1;obtain⟨w2,f2,g2⟩:=r2.get e2;have b1':i1[i]?=some vx:=by simpa using b1
    have b2':i2[i]?=some vy:=by simpa using b2
    rw[f1]at b1';cases b1';rw[f2]at b2';cases b2';have zlt:(n+4:Nat)<s.heap.objs.size:=let ⟨_,_,_,z1⟩:=z1;Heap.lt_size z1
    have hT2:IsPair h2 s.heap.objs.size vx vy:=hs2.extBut _ _ (AR zlt).2.2.2.2 b7;have nw:H s.heap.objs.size=none:=I.hok.fresh (zL _);have I2:Inv X pins σ (upd H s.heap.objs.size (.tup [x,y])) { s with heap:=h2,toks:=tk }:=by
      refine I.turnedL (ch:=[n+4,n+2,n+3,n,n+1]) hf (λc o hcc e=>?_) (zL _) ?_
      . simp only[List.mem_cons,List.not_mem_nil,or_false,not_or]at hcc;exact hs2.extBut _ _ hcc.1 (b8 c o hcc.1 hcc.2.2.1 hcc.2.2.2.1 hcc.2.2.2.2 e)
      . exact⟨by show 2<=sizeLine;decide,[vx,vy],.cons g1 (.cons g2 .nil),⟨_,hT2,rfl,_,rfl⟩⟩
    refine⟨.ref s.heap.objs.size,_,I2,rfl,λxs' ys' y1 y2=>⟨_,x,y,by rw[I.tuple_inj y1 q1];exact e1,by rw[I.tuple_inj y2 q2];exact e2,nw,rfl,rfl⟩,⟨hz2,?_,(let ⟨u,v,b4⟩:=b4;⟨u,v,hs2.extBut _ _ R.a.2.1 b4⟩),?_,?_⟩,λc hcc=>?_⟩
    . exact hs2.extBut _ _ R.a.1 (b8 _ _ R.a.1 R.a.2.2.2.2.1 R.a.2.2.2.2.2.1 R.a.2.2.2.2.2.2.1 z2)
    . exact b5.1.at λo e=>hs2.extBut _ _ R.a.2.2.1 e
    . exact b6.1.at λo e=>hs2.extBut _ _ R.a.2.2.2.1 e
    . rw[fq]
      . exact(hf c hcc).1
      . intro z;subst z;simp only[List.mem_cons,List.not_mem_nil,or_false]at hcc;obtain⟨m1,m2,m3,m4,m5⟩:=AR zlt;rcases hcc with q|q|q|q|q
        . exact m5 q
        . exact m3 q
        . exact m4 q
        . exact m1 q
        . exact m2 q
  done:=by
    intro X hP hw hK hc i pins s σ H E I hf st hg;subst hP hw hK;obtain⟨xs,ys,q1,q2,hk⟩:=hg;obtain⟨z1,z2,⟨u,v,z3⟩,z4,z5⟩:=st;obtain⟨i1,r1,p1,l1⟩:=I.tuple q1;obtain⟨i2,r2,p2,l2⟩:=I.tuple q2;have R:=Fe ha hb;have D1:=HT.lf (prog:=X.prog) (w:=X.w) (A:=X.A.in1) (I.ok.hd hc) n a (Nat.ne_of_lt ha) i1.toArray;have D2:=HT.lf (prog:=X.prog) (w:=X.w) (A:=X.A.in1) (I.ok.hd hc) (n+1) b (AQ 1 hb) i2.toArray;refine HT.AA D1 D2 R (k:=i) (by rw[List.size_toArray,List.size_toArray,<-r1.length,<-r2.length];exact hk) z1 z2 z3 ⟨z4,p1⟩ ⟨z5,p2⟩ λh' tk b8=>⟨rfl,I.turnedM (ch:=[n+4,n+2,n+3,n,n+1]) hf λc o hcc e=>?_⟩;simp only[List.mem_cons,List.not_mem_nil,or_false,not_or]at hcc;exact b8 c o hcc.1 hcc.2.2.1 hcc.2.2.2.1 hcc.2.2.2.2 e
  self:=λA i s Q E st h=>HT.JQ st.1 h
theorem Itup.lt {X:Cx}{pins:List (Addr×Obj)}{σ:St}{H:Hp}{s:Shared}{a:Addr}{its:List Value}(p:IsTup s.heap a its.toArray):a<s.heap.objs.size:=by
  obtain⟨o,e,_⟩:=p;exact Heap.lt_size e
def iZip (K:PySem.W.Frag) (ta:TA):TI:=λσ H R=>ta σ H λvs H2=>∃ (p q:Addr) (xs ys:List V),vs=[.ref p,.ref q] /\ SqT K H2 p xs /\ SqT K H2 q ys /\ R (Itz K p q) H2
theorem Po {X:Cx}{a b:Expr}{ta:TA}{p pos:Pos}{tg:Expr}(hg:Gl X "zip") (hm:X.mg "zip"=none) (ha:PA X [a,b] ta) (hs:starEach [a,b] X.env=[(false,eval a X.env),(false,eval b X.env)]:=by rfl) (hs2:starEach [b] X.env=[(false,eval b X.env)]:=by rfl) :
    PI X tg (.Call (.Name "zip" p) [a,b] [] pos) (iZip X.K ta):=by
  intro pins s σ H R I h;refine wpAny_Call_Name_kw (iC I hg hm (by decide +kernel:bootBuiltins "zip"=some (.type "zip")) ?_);refine PyProof.Rows.callWith_type1 (thn (ha pos pins s σ H _ I h) λus s1 ⟨vs,H2,I2,r2,q⟩=>?_) (by rw[hs,hs2]) (by rw[hs2];rfl);obtain⟨x,y,xs,ys,rfl,hx,hy,q⟩:=q;obtain⟨u,v,rfl,ru,rv⟩:=Vals.two r2;cases ru;cases rv;obtain⟨i1,r1,p1,_⟩:=I2.tuple hx;obtain⟨i2,r2,p2,_⟩:=I2.tuple hy;refine HT.Gr (xs:=i1.toArray) (ys:=i2.toArray) p1 p2 λh' b1 b2 b3 b4 b5 b6=>?_;refine wpAny_pyIter_zip b1 ?_;refine⟨s1.heap.objs.size+4,_,_,_,H2,rfl,I2.kept (t':=s1.toks) b6,JR (Itup.lt (X:=X) (pins:=pins) (σ:=σ) (H:=H2) p1) (Itup.lt (X:=X) (pins:=pins) (σ:=σ) (H:=H2) p2),⟨⟨_,_,.inl rfl,b1⟩,b2,⟨_,_,b3⟩,b4,b5⟩,λc hc=>?_,q⟩;have hle:s1.heap.objs.size<=c:=by
    simp only[List.mem_cons,List.not_mem_nil,or_false]at hc;rcases hc with z|z|z|z|z<;>(rw[z];first|exact zL _|exact Nat.le_add_right _ _)
  exact I2.fpOk hle (I2.hok.fresh hle)
end L2
namespace L2.DL
open PySem PySem.Spec PyProof.Rows
section
variable {X : Cx} {T : Fr} {Z : Xs} {a b tg : Expr} {p pos : Pos} {k : DE (List W)}
noncomputable def zipW:List D->List D->List W
  |x::l,y::r=>.d (.tup [x,y])::zipW l r
  |_,_=>[]
theorem Ca:∀ (l r:List D),(zipW l r).length=min l.length r.length
  |[],_=>by simp[zipW]
  |_::_,[]=>by simp[zipW]
  |_::l,_::r=>by simp only[zipW,List.length_cons,Ca l r];omega
theorem Cb:∀ {l r:List D}{i:Nat}{w:W},(zipW l r)[i]?=some w->∃ x y,l[i]?=some x /\ r[i]?=some y /\ w=.d (.tup [x,y])
  |[],_,_,_,e=>by simp[zipW]at e
  |_::_,[],_,_,e=>by simp[zipW]at e
  |x::l,y::r,0,w,e=>by simp[zipW]at e;exact⟨x,y,rfl,rfl,e.symm⟩
  | x::l,y::r,i+1,w,e=>by
    have e':(zipW l r)[i]?=some w:=by simpa[zipW] using e
    obtain⟨x',y',h1,h2,h3⟩:=Cb e';exact⟨x',y',by simpa using h1,by simpa using h2,h3⟩
noncomputable def dZip (k:DE (List W)):DE (List W):=λenv bx=>fA (k env bx) λws bx1=>match ws with
  |[.d (.tup l),.d (.tup r)]=>.val (zipW l r) bx1
  |_=>.bad
theorem Dg {K:PySem.W.Frag}{F:Hp}{r:List Addr}{p q:Addr}{vs us:List V}{l m:List D}(hp:F p=some (.tup vs)) (hq:F q=some (.tup us)) (dl:DenL F l vs) (dm:DenL F m us):Yields F r (zipW l m) (Itz K p q):=by
  intro T i F1 r1 σ1 H1 env1 bx1 g R;have s1:SqT K H1 p vs:=.of (R.fh _ _ (g.s _ _ hp));have s2:SqT K H1 q us:=.of (R.fh _ _ (g.s _ _ hq));have e1:=dl.length;have e2:=dm.length;refine⟨λhl=>?_,λw e=>?_⟩
  . rw[Ca]at hl;exact⟨vs,us,s1,s2,by omega⟩
  . obtain⟨x,y,h1,h2,rfl⟩:=Cb e;obtain⟨v,f1,d1⟩:=dl.get h1;obtain⟨u,f2,d2⟩:=dm.get h2;refine⟨⟨vs,us,v,u,s1,s2,f1,f2⟩,λw H2 hy=>?_⟩;obtain⟨a,v',u',g1,g2,ha,rfl,rfl⟩:=hy vs us s1 s2;rw[f1]at g1;cases g1;rw[f2]at g2;cases g2;have gr:=R.growD (o:=.tup [v,u]) ha;exact⟨_,gr,R.allocD ha,a,[v,u],rfl,fC,.cons (Den.mono (g.trans gr).s x d1) (.cons (Den.mono (g.trans gr).s y d2) .nil)⟩
theorem MW (hg:Gl X "zip") (hm:X.mg "zip"=none) (ha:PDA X T Z [a,b] k) (hs:starEach [a,b] X.env=[(false,eval a X.env),(false,eval b X.env)]:=by rfl) (hs2:starEach [b] X.env=[(false,eval b X.env)]:=by rfl) :
    PID X T Z tg (.Call (.Name "zip" p) [a,b] [] pos) (dZip k):=by
  refine PI.imp (Po hg hm ha hs hs2) λσ H Q ⟨F,r,env,bx,R,h⟩=>?_;refine⟨F,r,env,bx,R,End.bind h λws bx1 F1 r1 vs H1 g1 R1 d1 h1=>?_⟩;split at h1
  . rename_i l m;obtain⟨v,t,rfl,⟨p,us,rfl,k1,k2⟩,v2,t2,rfl,⟨q,us2,rfl,k3,k4⟩,rt⟩:=d1;cases (show t2=[] from rt);exact⟨p,q,us,us2,rfl,.of (R1.fh _ _ k1),.of (R1.fh _ _ k3),h1 F1 r1 _ H1 (.refl F1 r1) R1 (Dg k1 k3 k2 k4)⟩
  . exact h1.elim
end
section
variable {X : Cx} {T : Fr} {Z : Xs} {tg a : Expr} {pos p : Pos}
def iSeq (K:PySem.W.Frag) (tl:TE):TI:=λσ H R=>tl σ H λx H1=>(∃ a,x=.ref a /\ (∃ xs,SqL K H1 a xs) /\ R (Itl K a) H1) \/ ∃ a,x=.ref a /\ (∃ xs,SqT K H1 a xs) /\ R (Itt K a) H1
theorem Pp {l:Expr}{tl:TE}(hl:PE X l tl):PI X tg l (iSeq X.K tl):=by
  intro pins s σ H R I h;refine thn (hl pins s σ H _ I h) λv s1 ⟨x,H1,I1,r1,q1⟩=>?_;rcases q1 with⟨a,rfl,⟨xs,hq⟩,q⟩|⟨a,rfl,⟨xs,hq⟩,q⟩
  . cases r1;obtain⟨its,rv,p,hz⟩:=I1.list hq;refine wpAny_pyIter_list p.isList ⟨s1.heap.objs.size,[s1.heap.objs.size],_,_,H1,rfl,I1.kept (t':=s1.toks) λb o e=>zH _ e,FY a _,⟨_,Heap.get?_push_size _ rfl,rfl,rfl⟩,λb hb=>?_,q⟩;cases List.mem_singleton.mp hb;exact I1.fpOk (zL _) (I1.hok.fresh (zL _))
  . cases r1;obtain⟨its,rv,p,hz⟩:=I1.tuple hq;refine wpAny_pyIter_tuple (show s1.heap.IsTuple a its.toArray from p) ⟨s1.heap.objs.size,[s1.heap.objs.size],_,_,H1,rfl,I1.kept (t':=s1.toks) λb o e=>zH _ e,C0 a _,⟨_,Heap.get?_push_size _ rfl,rfl,rfl⟩,λb hb=>?_,q⟩;cases List.mem_singleton.mp hb;exact I1.fpOk (zL _) (I1.hok.fresh (zL _))
theorem Cc {K:PySem.W.Frag}{F:Hp}{r:List Addr}{a:Addr}{vs:List V}{l:List D}(k1:F a=some (.lst vs)) (k2:DenL F l vs):Yields F r (l.map W.d) (Itl K a):=λT' i F2 r2 σ2 H2 env2 bx2 g2 R2=>by
  have hq:SqL K H2 a vs:=.of (R2.fh _ _ (g2.s _ _ k1));refine⟨λhl=>?_,λw e=>?_⟩
  . rw[List.length_map,k2.length]at hl;exact⟨vs,hq,Nat.le_of_eq hl⟩
  . obtain⟨d,e1,rfl⟩:=AN (F:=F) (r:=r) e;obtain⟨u,e2,du⟩:=k2.get e1;refine⟨⟨vs,u,hq,e2⟩,λx H3 ⟨e3,hy⟩=>?_⟩;subst e3;have e4:vs[i]?=some x:=hy vs hq;rw[e2]at e4;cases e4;exact⟨F2,.refl F2 r2,R2,Den.mono g2.s d du⟩
theorem Dh {K:PySem.W.Frag}{F:Hp}{r:List Addr}{a:Addr}{vs:List V}{l:List D}(k1:F a=some (.tup vs)) (k2:DenL F l vs):Yields F r (l.map W.d) (Itt K a):=λT' i F2 r2 σ2 H2 env2 bx2 g2 R2=>by
  have hq:SqT K H2 a vs:=.of (R2.fh _ _ (g2.s _ _ k1));refine⟨λhl=>?_,λw e=>?_⟩
  . rw[List.length_map,k2.length]at hl;exact⟨vs,hq,Nat.le_of_eq hl⟩
  . obtain⟨d,e1,rfl⟩:=AN (F:=F) (r:=r) e;obtain⟨u,e2,du⟩:=k2.get e1;refine⟨⟨vs,u,hq,e2⟩,λx H3 ⟨e3,hy⟩=>?_⟩;subst e3;have e4:vs[i]?=some x:=hy vs hq;rw[e2]at e4;cases e4;exact⟨F2,.refl F2 r2,R2,Den.mono g2.s d du⟩
theorem Bn {ma:DE W}(ha:PD X T Z a ma):PID X T Z tg a (dIter ma):=by
  refine PI.imp (Pp ha) λσ H Q ⟨F,r,env,bx,R,h⟩=>?_;refine⟨F,r,env,bx,R,End.bind h λw bx1 F1 r1 v H1 g1 R1 d1 h1=>?_⟩;split at h1
  . rename_i l;obtain⟨p,vs,rfl,k1,k2⟩:=d1;exact .inl ⟨p,rfl,⟨vs,.of (R1.fh _ _ k1)⟩,h1 F1 r1 _ H1 (.refl F1 r1) R1 (Cc k1 k2)⟩
  . rename_i l;obtain⟨p,vs,rfl,k1,k2⟩:=d1;exact .inr ⟨p,rfl,⟨vs,.of (R1.fh _ _ k1)⟩,h1 F1 r1 _ H1 (.refl F1 r1) R1 (Dh k1 k2)⟩
  . exact h1.elim
theorem MX {x:Str}{v:Int}(hg:Gl X x) (hm:∃ t,X.mg x=some (.int v t)) (hd:(x==("__debug__":Str))=false:=by decide):PD X T Z (.Name x pos) (dC (.int v)):=by
  obtain⟨t,hm⟩:=hm;exact BX (gi (v:=.int v) hg hm ⟨t,rfl⟩ hd) λ_=>rfl
end
noncomputable def compChk (XN:List Str) (sc cs:Scope) (N:List Str) (src:List (Option Nat)):Bool :=
  decide (cs.kind=.function)&&decide (cs.names.map (·.1)).Nodup&&cs.names.all (λy=>decide (y.2=.local->cs.names.lookup y.1=some .local)) &&
  cs.names.all (λy=>decide (y.2=.free->(sc.names.lookup y.1=some .cell \/ sc.names.lookup y.1=some .free)))&&decide (src.length=N.length) &&
  (List.range src.length).all λj=>match src[j]?,N[j]? with
    |some (some i),some x=>decide (XN[i]?=some x /\ cs.names.lookup x=some .free)
    |_,_=>true
theorem Di {X:Cx}{N XN:List Str}{src:List (Option Nat)}{sc cs:Scope}(hX:∀ x,X.env.kindOf x=sc.names.lookup x) (hN:X.N=XN) (h:compChk XN sc cs N src=true):CompScope X N src cs:=by
  subst hN;unfold compChk at h;simp only[zA,decide_eq_true_eq,List.all_eq_true]at h;obtain⟨⟨⟨⟨⟨h1,h2⟩,h3⟩,h4⟩,h5⟩,h6⟩:=h;refine⟨h1,h2,λy hy=>h3 y hy,λy hy hf=>?_,h5,λj i x e1 e2=>?_⟩
  . rw[hX];exact h4 y hy hf
  . have q:=h6 j (List.mem_range.mpr (List.getElem?_eq_some_iff.mp e1).1);rw[e1,e2]at q;exact of_decide_eq_true q
section
variable (P : Program) (w : World) (K : PySem.W.Frag) (mg : Str -> Option Value) (base : Heap) (cl : Nat -> Addr)
def Has (k:Nat) (x:Str) (ps:List Str) (fn:List W->List Bx->O W):Prop :=
  ∃ (f:Addr) (fd:FuncData),FnOk P w K mg base (CXr P w) k f fd ps (spD cl ps.length fn) /\ mg x=some (.ref f) /\ PySem.W.keepIn K (.ref f)=true /\ Binds K fd ps [] /\ ∃ o:Obj,K.lookup f=some o /\ o.data=.func fd
def Def (x:Str) (st:Stmt) (ps:List Str):Prop:=∃ (f:Addr) (fd:FuncData),Fun K x x st f fd /\ mg x=some (.ref f) /\ Binds K fd ps []
end
section
variable {P : Program} {w : World} {K : PySem.W.Frag} {mg : Str -> Option Value} {base : Heap} {cl : Nat -> Addr} {k : Nat} {x : Str} {st : Stmt} {N ps : List Str} {m : DSt} {fn : List W -> List Bx -> O W} {nn kk : Nat}
theorem _root_.L2.Fun.obj {qual:Str}{f:Addr}{fd:FuncData}(F:Fun K x qual st f fd):∃ o:Obj,K.lookup f=some o /\ o.data=.func fd:=by
  obtain⟨⟨oc,od,kV,doc,pm,an,cdv,ct,osl,_,l,_⟩,_⟩:=F;exact⟨_,l,rfl⟩
theorem Pq (d:Def K mg x st ps) (S:FnScope N ps (fu st))
    (hbody:∀ (f:Addr) (cdv:Value) (A:Around) (outer:List Env) (s:Shared) (H:Hp) (E:XK) (n:Nat) (F0:Hp),Room k (A.deeper (envOfC x (fu st) s.heap.objs.size f cdv)) ->
      PSDs (cxOf CX0 P w K mg base N x (fu st) f cdv A outer s H E).nox ⟨H,n,F0⟩ ⟨E0,cl⟩ (gj st) m) (hn:N.length=nn:=by rfl) (hkk:k+1=kk:=by rfl):Has P w K mg base cl kk x ps (fnD nn (noX m)):=by
  subst hn hkk;obtain⟨f,fd,F,hm,hb⟩:=d;exact⟨f,fd,RD F S (λcdv A outer s H E n F0 hr=>hbody f cdv A outer s H E n F0 hr),hm,F.kp,hb,F.obj⟩
theorem MY (d:Def K mg x st ps):Has P w K mg base cl k x ps (λ_ _=>.bad):=by
  obtain⟨f,fd,F,hm,hb⟩:=d;refine⟨f,fd,⟨λvs H Q E h=>?_,λA outer s H args us vs Q E _ _ _ _ h=>?_⟩,hm,F.kp,hb,F.obj⟩
  . obtain⟨_,_,_,_,_,_,_,h⟩:=h;exact h.elim
  . obtain⟨_,_,_,_,_,_,_,h⟩:=h;exact h.elim
end
section
variable {X : Cx} {T : Fr} {Z : Xs} {e : Expr} {es : List Expr} {pos p : Pos} {k k' : Nat} {x : Str} {ps : List Str} {fn : List W -> List Bx -> O W} {m : DE (List W)} {nn : Nat}
theorem Pr (h:Has X.prog X.w X.K X.mg X.base Z.cl k x ps fn) (hr:Room k' X.A) (hk:k<=k') (hg:Gl X x) (hx:Passes (CXr X.prog X.w) X Z.E) (ha:PDA X T Z (e::es) m) (hdb:(x==("__debug__":Str))=false:=by decide)
    (he:starEach (e::es) X.env=(false,eval e X.env)::starEach es X.env:=by rfl) (hpl:(backTo pos (starEach es X.env)).any (·.1)=false:=by rfl) (hn:ps.length=nn:=by rfl):PD X T Z (.Call (.Name x p) (e::es) [] pos) (fk fn nn m):=by
  subst hn;obtain⟨f,fd,G,hm,hkp,hb,_⟩:=h;exact MC G (hr.mono hk) hg hm hkp hb hx ha hdb he hpl
end
end L2.DL
namespace HT
open PySem PySem.Spec PyProof.Rows
structure SB (kd:SortKind) (b:Array Keyed) (z:SortSt):Prop where
  pm:(arrOf z).Perm b
  kd:kindOf z=kd
  fl:failedOf z=none
  pn:pendingOf z=#[]
theorem SB.len {kd:SortKind}{b:Array Keyed}{z:SortSt}(g:SB kd b z):(arrOf z).size=b.size:=g.pm.size_eq
theorem SB.put {kd:SortKind}{b:Array Keyed}{z:SortSt}(g:SB kd b z) {c:Array Keyed}(q:c.Perm (arrOf z)):SB kd b (setArr z c):=⟨q.trans g.pm,g.kd,g.fl,g.pn⟩
section
variable {prog : Program} {w : World} {A : Around} {E : Value -> Shared -> Prop} {s : Shared}
def Cmp (prog:Program) (w:World) (A:Around) (E:Value->Shared->Prop) (s:Shared) (κ:KeyKind) (kd:SortKind) (b:Array Keyed):Prop :=
  ∀ (x y:Keyed),x∈b.toList->y∈b.toList->∀ (Q:Bool->Shared->Prop) (E':Value->Shared->Prop),Q (κ.blt ((κ.keyOf x.1).getD κ.dflt) ((κ.keyOf y.1).getD κ.dflt)) s->wpAny (model prog w) A (keyLt' kd x.1 y.1) Q E' s
variable {κ : KeyKind} {kd : SortKind} {b : Array Keyed}
noncomputable abbrev kx (κ:KeyKind) (z:SortSt) (i:Nat):κ.α:=KK κ (arrOf z) i
theorem SB.item {z:SortSt}(g:SB kd b z) {i:Nat}(hi:i<b.size):∃ x,(arrOf z)[i]?=some x /\ x∈b.toList /\ kx κ z i=(κ.keyOf x.1).getD κ.dflt:=by
  have hz:i<(arrOf z).size:=g.len▸hi;refine⟨(arrOf z)[i],getElem?_pos _ i hz,(Array.perm_iff_toList_perm.mp g.pm).mem_iff.mp (by simp),?_⟩;simp only[kx,KK,getElem?_pos (arrOf z) i hz]
theorem ask (C:Cmp prog w A E s κ kd b) {z:SortSt}(g:SB kd b z) {i j:Nat}(hi:i<b.size) (hj:j<b.size) {Q:Option Bool->SortSt->Prop}
    (q:Q (some (κ.blt (kx κ z i) (kx κ z j))) z):wpS (model prog w) A E s (ltAt' i j) Q z:=by
  obtain⟨x,ex,mx,kx'⟩:=g.item (κ:=κ) hi;obtain⟨y,ey,my,ky'⟩:=g.item (κ:=κ) hj;rw[kx',ky']at q;rw[ltAt'_eq];refine wpS_bind (wpS_get ?_);dsimp only;rw[elem'_eq,elem'_eq,ex,ey];refine wpS_bind (wpS_pure (wpS_bind (wpS_pure ?_)));rw[lt'_eq];refine wpS_bind (wpS_get ?_);rw[g.kd];exact wpS_bind (wpS_lift (wpAny_attempt (C x y mx my _ _ ⟨rfl,wpS_pure q⟩)))
def Up (κ:KeyKind) (z:SortSt) (n:Nat):Prop:=∀ i j,i<=j->j<n->κ.kle (kx κ z i) (kx κ z j)
def Dn (κ:KeyKind) (z:SortSt) (n:Nat):Prop:=∀ i j,i<=j->j<n->κ.kle (kx κ z j) (kx κ z i)
theorem Up.one {z:SortSt}{n:Nat}(h:n<=1):Up κ z n:=λi j a c=>by
  have e:i=j:=by omega
  subst e;exact KeyOrd.kle_refl _
theorem Up.more {z:SortSt}{n:Nat}(u:Up κ z n) (h:1<=n) (l:κ.kle (kx κ z (n-1)) (kx κ z n)):Up κ z (n+1):=λi j a c=>by
  rcases Nat.lt_or_ge j n with c'|c'
  . exact u i j a c'
  obtain rfl:j=n:=by omega
  rcases Nat.lt_or_ge i j with a'|a'
  . exact KeyOrd.kle_trans (u i (j-1) (by omega) (by omega)) l
  . obtain rfl:i=j:=by omega
    exact KeyOrd.kle_refl _
theorem Dn.more {z:SortSt}{n:Nat}(u:Dn κ z n) (h:1<=n) (l:κ.kle (kx κ z n) (kx κ z (n-1))):Dn κ z (n+1):=λi j a c=>by
  rcases Nat.lt_or_ge j n with c'|c'
  . exact u i j a c'
  obtain rfl:j=n:=by omega
  rcases Nat.lt_or_ge i j with a'|a'
  . exact KeyOrd.kle_trans l (u i (j-1) (by omega) (by omega))
  . obtain rfl:i=j:=by omega
    exact KeyOrd.kle_refl _
theorem asc (C:Cmp prog w A E s κ kd b) {z:SortSt}(g:SB kd b z) {a n:Nat}(hn:n<=b.size) (h1:1<=a) (h2:a<=n) (u:Up κ z a) {Q:AscSt->SortSt->Prop}
    (q:∀ m,a<=m->m<=n->Up κ z m->(m<n->κ.klt (kx κ z m) (kx κ z (m-1)))->Q (none,m) z):wpS (model prog w) A E s (ascLoop a n) Q z:=by
  unfold ascLoop;refine wpS_forRange (I:=λm c y=>y=z /\ c=(none,m) /\ Up κ z m) ?_ ?_ ⟨rfl,rfl,u⟩
  . intro m c y g1 g2 ⟨e1,e2,u'⟩;subst e1;subst e2;refine wpS_bind (ask C g (show m<b.size by omega) (show m-1<b.size by omega) ?_);cases e:κ.blt (kx κ y m) (kx κ y (m-1)) with
    |true=>exact wpS_pure (q m g1 (Nat.le_of_lt g2) u' λ_=>e)
    |false=>exact wpS_pure ⟨rfl,rfl,u'.more (by omega) e⟩
  . intro c y ⟨e1,e2,u'⟩;subst e1;subst e2;rw[Nat.max_eq_right h2]at u' ⊢;exact q n h2 (zL n) u' λh=>absurd h (Nat.lt_irrefl n)
theorem Ff {z:SortSt}{i j k:Nat}(hj:j<=(arrOf z).size):kx κ (setArr z (mirror (arrOf z) i j ((j-i) / 2))) k=if i<=k /\ k<j then kx κ z (i+j-1-k) else kx κ z k:=KK_mirror (κ:=κ) hj k
theorem lg {z:SortSt}{i j:Nat}(hj:j<=(arrOf z).size) (e:∀ k,i<=k->k<j->kx κ z k=kx κ z (j-1)) (k:Nat):kx κ (setArr z (mirror (arrOf z) i j ((j-i) / 2))) k=kx κ z k:=KK_mirror_equal (κ:=κ) hj e k
def Ends (prog:Program) (w:World) (A:Around) (E:Value->Shared->Prop) (s:Shared) (κ:KeyKind) (kd:SortKind) (b:Array Keyed) (n:Nat) (Q:Option Nat->SortSt->Prop):Prop :=
  ∀ m y,SB kd b y->1<=m->m<=n->Up κ y m->Q (some m) y
theorem turned (C:Cmp prog w A E s κ kd b) {z:SortSt}(g:SB kd b z) {a n:Nat}(hn:n<=b.size) (h1:1<=a) (h2:a<=n) (d:Dn κ z a) {Q:Option Nat->SortSt->Prop}(q:Ends prog w A E s κ kd b n Q) :
    wpS (model prog w) A E s (tail3 a n) Q z:=by
  have hz:a<=(arrOf z).size:=g.len▸Nat.le_trans h2 hn;have g':SB kd b (setArr z (mirror (arrOf z) 0 a ((a-0) / 2))):=g.put (mirror_perm _ _ _ _);unfold tail3;refine wpS_bind (wpS_reverse (wpS_bind (asc C g' hn h1 h2 (λi j c1 c2=>?_) λm m1 m2 um _=>wpS_pure (q m _ g' (Nat.le_trans h1 m1) m2 um))));rw[Ff hz,Ff hz,if_pos ⟨Nat.zero_le i,by omega⟩,if_pos ⟨Nat.zero_le j,c2⟩];exact d _ _ (by omega) (by omega)
def Alike (κ:KeyKind) (z:SortSt) (m e:Nat):Prop:=e+1<=m /\ ∀ i,m-(e+1)<=i->i<m->kx κ z i=kx κ z (m-1)
theorem Alike.zero {z:SortSt}{m:Nat}(h:1<=m):Alike κ z m 0:=⟨h,λi h1 h2=>by rw[show i=m-1 by omega]⟩
theorem desc (C:Cmp prog w A E s κ kd b) {z:SortSt}(g:SB kd b z) {a n:Nat}(hn:n<=b.size) (h1:1<=a) (h2:a<=n) (d:Dn κ z a) {Q:DescSt->SortSt->Prop}
    (q:∀ m e y,SB kd b y->a<=m->m<=n->Dn κ y m->Alike κ y m e->Q (none,m,e) y):wpS (model prog w) A E s (descLoop a n) Q z:=by
  unfold descLoop;refine wpS_forRange (I:=λm c y=>∃ e,c=(none,m,e) /\ SB kd b y /\ Dn κ y m /\ Alike κ y m e) ?_ ?_ ⟨0,rfl,g,d,.zero h1⟩
  . intro m c y g1 g2 ⟨e,ec,gy,dy,al⟩;subst ec;have hm:m<=(arrOf y).size:=by rw[gy.len];omega
    refine wpS_bind (ask C gy (show m<b.size by omega) (show m-1<b.size by omega) ?_);cases t:κ.blt (kx κ y m) (kx κ y (m-1)) with
    | true =>
      have d':Dn κ y (m+1):=dy.more (by omega) (KeyOrd.kle_of_klt t);dsimp only;rw[if_pos rfl];by_cases he:e>0
      . rw[if_pos he];refine wpS_bind (wpS_reverse (wpS_pure ⟨0,rfl,gy.put (mirror_perm _ _ _ _),λi j c1 c2=>?_,.zero (by omega)⟩));rw[lg hm al.2,lg hm al.2];exact d' i j c1 c2
      . rw[if_neg he];exact wpS_pure ⟨0,rfl,gy,d',.zero (by omega)⟩
    | false =>
      dsimp only;rw[if_neg (by simp)];refine wpS_bind (ask C gy (show m-1<b.size by omega) (show m<b.size by omega) ?_);cases t2:κ.blt (kx κ y (m-1)) (kx κ y m) with
      |true=>exact wpS_pure (q m e y gy g1 (by omega) dy al)
      | false =>
        have eq:kx κ y m=kx κ y (m-1):=KeyOrd.kle_antisymm t2 t;refine wpS_pure ⟨e+1,rfl,gy,dy.more (by omega) t2,by have:=al.1;omega,λi c1 c2=>?_⟩;rw[show m+1-1=m by omega];by_cases hi:i=m
        . rw[hi]
        . rw[eq];exact al.2 i (by omega) (by omega)
  . intro c y ⟨e,ec,gy,dy,al⟩;subst ec;rw[Nat.max_eq_right h2]at dy al ⊢;exact q n e y gy h2 (zL n) dy al
theorem fall (C:Cmp prog w A E s κ kd b) {z:SortSt}(g:SB kd b z) {a n:Nat}(hn:n<=b.size) (h2:a+1<=n) (d:Dn κ z (a+1)) {Q:Option Nat->SortSt->Prop}(q:Ends prog w A E s κ kd b n Q) :
    wpS (model prog w) A E s (descPart a n) Q z:=by
  unfold descPart;refine wpS_bind (wpS_lift (wpAny_rule ⟨rfl,wpS_bind (desc C g hn (Nat.succ_pos a) h2 d λm e y gy m1 m2 dy al=>?_)⟩));dsimp only;by_cases he:e>0
  . rw[if_pos he];have hm:m<=(arrOf y).size:=by rw[gy.len];omega
    refine wpS_bind (wpS_reverse (turned C (gy.put (mirror_perm _ _ _ _)) hn (by omega) m2 (λi j c1 c2=>?_) q));rw[lg hm al.2,lg hm al.2];exact dy i j c1 c2
  . rw[if_neg he];exact turned C gy hn (by omega) m2 dy q
theorem count (C:Cmp prog w A E s κ kd b) {z:SortSt}(g:SB kd b z) {n:Nat}(hn:n<=b.size) (h1:1<=n) {Q:Option Nat->SortSt->Prop}(q:Ends prog w A E s κ kd b n Q) :
    wpS (model prog w) A E s (countRun' 0 n) Q z:=by
  rw[countRun0_eq];refine wpS_bind (asc C g hn (zL 1) h1 (.one (zL 1)) λm m1 m2 um last=>?_);dsimp only;by_cases hm:m=n
  . rw[if_pos (by simp[hm])];exact wpS_pure (q m z g m1 m2 um)
  rw[if_neg (by simp[hm])];have lt:=last (by omega);by_cases h3:m>1
  . rw[if_pos h3];refine wpS_bind (ask C g (show 0<b.size by omega) (show m-1<b.size by omega) ?_);cases t:κ.blt (kx κ z 0) (kx κ z (m-1)) with
    |true=>exact wpS_pure (q m z g m1 m2 um)
    | false =>
      dsimp only;rw[if_neg (by simp)];have al:∀ k,0<=k->k<m->kx κ z k=kx κ z (m-1):=λk _ hk =>
        KeyOrd.kle_antisymm (um k (m-1) (by omega) (by omega)) (KeyOrd.kle_trans t (um 0 k (Nat.zero_le k) hk))
      have hz:m<=(arrOf z).size:=by rw[g.len];omega
      refine wpS_bind (wpS_reverse (fall C (g.put (mirror_perm _ _ _ _)) hn (by omega) (λi j c1 c2=>?_) q));rw[lg hz al,lg hz al];have d0:Dn κ z m:=λi j c1 c2=>by rw[al i (Nat.zero_le _) (by omega),al j (Nat.zero_le _) c2];exact KeyOrd.kle_refl _
      exact d0.more m1 (KeyOrd.kle_of_klt lt) i j c1 c2
  . rw[if_neg h3];obtain rfl:m=1:=by omega
    have d0:Dn κ z 1:=λi j c1 c2=>by
      obtain rfl:i=j:=by omega
      exact KeyOrd.kle_refl _
    exact fall C g hn (by omega) (d0.more (zL 1) (KeyOrd.kle_of_klt lt)) q
end
section
variable {prog : Program} {w : World} {A : Around} {E : Value -> Shared -> Prop} {s : Shared} {κ : KeyKind} {kd : SortKind} {b : Array Keyed}
def Fits (κ:KeyKind) (z:SortSt) (k l r:Nat):Prop:=(∀ i,i<l->κ.kle (kx κ z i) (kx κ z k)) /\ ∀ i,r<=i->i<k->κ.klt (kx κ z k) (kx κ z i)
theorem Fg {z:SortSt}{k l i:Nat}(hk:k<(arrOf z).size) (hl:l<=k):kx κ (setArr z (bubble (arrOf z) k (k-l))) i=if i=l then kx κ z k else if l<i /\ i<=k then kx κ z (i-1) else kx κ z i:=by
  have e:=KK_bubble (κ:=κ) hk (Nat.sub_le k l) i;rw[show k-(k-l)=l by omega]at e;exact e
theorem Up.insert {z:SortSt}{k l:Nat}(u:Up κ z k) (hk:k<(arrOf z).size) (hl:l<=k) (f:Fits κ z k l l):Up κ (setArr z (bubble (arrOf z) k (k-l))) (k+1):=by
  intro i j c1 c2;rw[Fg hk hl,Fg hk hl];by_cases i1:i=l
  . rw[if_pos i1];by_cases j1:j=l
    . rw[if_pos j1];exact KeyOrd.kle_refl _
    . rw[if_neg j1,if_pos ⟨by omega,by omega⟩];exact KeyOrd.kle_of_klt (f.2 _ (by omega) (by omega))
  . rw[if_neg i1];by_cases i2:l<i /\ i<=k
    . rw[if_pos i2,if_neg (by omega),if_pos ⟨by omega,by omega⟩];exact u _ _ (by omega) (by omega)
    . rw[if_neg i2];by_cases j1:j=l
      . rw[if_pos j1];exact f.1 i (by omega)
      . rw[if_neg j1];by_cases j2:l<j /\ j<=k
        . rw[if_pos j2];exact u _ _ (by omega) (by omega)
        . rw[if_neg j2];exact u _ _ c1 (by omega)
theorem insAll (C:Cmp prog w A E s κ kd b) {z:SortSt}(g:SB kd b z) {n m:Nat}(hn:n<=b.size) (hm:m<=n) (u:Up κ z m) {Q:Bool->SortSt->Prop}(q:∀ y,SB kd b y->Up κ y n->Q true y) :
    wpS (model prog w) A E s (binarySort' 0 n m) Q z:=by
  rw[binarySort'_eq];simp only[Nat.zero_add];refine wpS_bind (wpS_mono (Q:=λc y=>c=(none,()) /\ SB kd b y /\ Up κ y n) (wpS_forRange (I:=λk c y=>c=(none,()) /\ SB kd b y /\ Up κ y (min k n)) ?_ ?_ ?_) ?_)
  . intro k c y k1 k2 ⟨ec,gy,uy⟩;subst ec;rw[Nat.min_eq_left (Nat.le_of_lt k2)]at uy;have kb:k<b.size:=by omega
    have ks:k<(arrOf y).size:=by rw[gy.len];exact kb
    refine wpS_bind (wpS_mono (Q:=λc y'=>y'=y /\ ∃ l r,c=(none,l,r) /\ l<=k /\ Fits κ y k l l) (wpS_forRange (I:=λx c y'=>y'=y /\ ∃ l r,c=(none,l,r) /\ l<=r /\ r<=k /\ r-l<=k-x /\ Fits κ y k l r) ?_ ?_ ?_) ?_)
    . intro x c y' _ x2 ⟨ey,l,r,ec,p1,p2,p3,f⟩;subst ey;subst ec;dsimp only;by_cases lr:l>=r
      . rw[if_pos lr];obtain rfl:l=r:=by omega
        exact wpS_pure ⟨rfl,l,l,rfl,p2,f⟩
      rw[if_neg lr];refine wpS_bind (ask C gy kb (show (l+r) / 2<b.size by omega) ?_);cases t:κ.blt (kx κ y' k) (kx κ y' ((l+r) / 2)) with
      |true=>exact wpS_pure ⟨rfl,l,(l+r) / 2,rfl,by omega,by omega,by omega,f.1,λi i1 i2=>KeyOrd.klt_of_klt_of_kle t (uy _ _ i1 i2)⟩
      |false=>exact wpS_pure ⟨rfl,(l+r) / 2+1,r,rfl,by omega,by omega,by omega,λi i1=>KeyOrd.kle_trans (uy i ((l+r) / 2) (by omega) (by omega)) t,f.2⟩
    . intro c y' ⟨ey,l,r,ec,p1,p2,p3,f⟩;obtain rfl:l=r:=by omega
      exact⟨ey,l,l,ec,p2,f⟩
    . exact⟨rfl,0,k,rfl,Nat.zero_le k,zL k,zL _,λi hi=>absurd hi (Nat.not_lt_zero i),λi i1 i2=>absurd i2 (by omega)⟩
    . intro c y' ⟨ey,l,r,ec,p,f⟩;subst ey;subst ec;show wpS _ _ _ _ (moveDown' k l >>= λ_=>pure (ForInStep.yield (none,()))) _ _;rw[moveDown'_eq];refine wpS_bind (wpS_modify (wpS_pure ⟨rfl,gy.put (bubble_perm _ _ _),?_⟩));rw[Nat.min_eq_left k2];exact uy.insert ks p f
  . intro c y ⟨ec,gy,uy⟩;rw[show min (max (max m 1) n) n=n by omega]at uy;exact⟨ec,gy,uy⟩
  . refine⟨rfl,g,?_⟩;rcases Nat.lt_or_ge m 1 with m0|m0
    . exact .one (by omega)
    . rw[show min (max m 1) n=m by omega];exact u
  . intro c y ⟨ec,gy,uy⟩;subst ec;exact wpS_pure (q y gy uy)
def Fin' (κ:KeyKind) (b:Array Keyed) (y:SortSt):Prop:=(arrOf y).Perm b /\ failedOf y=none /\ pendingOf y=#[(0,b.size,0)] /\ Up κ y b.size
theorem SB.fin {y:SortSt}(g:SB kd b y) (u:Up κ y b.size):Fin' κ b (setPending y ((pendingOf y).push (0,b.size,0))):=⟨g.pm,g.fl,by show (pendingOf y).push _=_;rw[g.pn];rfl,u⟩
theorem runs (C:Cmp prog w A E s κ kd b) {z:SortSt}(g:SB kd b z) (h2:2<=b.size) (h64:b.size<64) {Q:Unit->SortSt->Prop}(q:∀ y,(arrOf y).Perm b->failedOf y=none->Up κ y b.size->Q () y) :
    wpS (model prog w) A E s sortRuns' Q z:=by
  have mr:minRun' b.size b.size 0=b.size:=by
    obtain⟨f,e⟩:=Nat.exists_eq_add_of_lt (show 0<b.size by omega);have:minRun' (0+f+1) b.size 0=b.size:=by rw[minRun'_succ,if_pos h64];rfl
    rw[<-e]at this;exact this
  rw[sortRuns'_eq];refine wpS_bind (wpS_get ?_);dsimp only;simp only[g.len,mr];refine wpS_bind (wpS_mono (Q:=λc y=>c=(none,b.size) /\ Fin' κ b y)
    (wpS_forRange (I:=λx c y=>if x=0 then c=(none,0) /\ SB kd b y else c=(none,b.size) /\ Fin' κ b y) ?_ ?_ (by rw[if_pos rfl];exact⟨rfl,g⟩)) ?_)
  . intro x c y _ x2 I;by_cases x0:x=0
    . rw[if_pos x0]at I;obtain⟨ec,gy⟩:=I;subst ec;subst x0;dsimp only;rw[if_neg (by omega)];simp only[Nat.sub_zero,Nat.min_self,Nat.zero_add];have fin:∀ y',SB kd b y'->Up κ y' b.size->(if (1:Nat)=0 then ((none:Option PUnit),b.size)=(none,0) /\ SB kd b (setPending y' ((pendingOf y').push (0,b.size,0))) else ((none:Option PUnit),b.size)=(none,b.size) /\ Fin' κ b (setPending y' ((pendingOf y').push (0,b.size,0)))):=
        λy' g' u'=>by rw[if_neg (by omega)];exact⟨rfl,g'.fin u'⟩
      refine wpS_bind (count C gy (zL _) (by omega) λm y1 g1 m1 m2 u1=>?_);dsimp only;by_cases lt:m<b.size
      . rw[if_pos lt];refine wpS_bind (wpS_lift (wpAny_rule ⟨rfl,wpS_bind (insAll C g1 (zL _) m2 u1 λy3 g3 u3=>?_)⟩));rw[if_neg (by simp)];refine wpS_bind (wpS_get ?_);rw[show (pendingOf y3).back?=none by rw[g3.pn];rfl];exact wpS_bind (wpS_modify (wpS_pure (fin y3 g3 u3)))
      . rw[if_neg lt];obtain rfl:m=b.size:=by omega
        refine wpS_bind (wpS_get ?_);rw[show (pendingOf y1).back?=none by rw[g1.pn];rfl];exact wpS_bind (wpS_modify (wpS_pure (fin y1 g1 u1)))
    . rw[if_neg x0]at I;obtain⟨ec,fy⟩:=I;subst ec;dsimp only;rw[if_pos (zL _)];exact wpS_pure ⟨rfl,fy⟩
  . intro c y I;rw[if_neg (by omega)]at I;exact I
  . intro c y ⟨ec,fy⟩;subst ec;dsimp only;refine wpS_bind (wpS_mono (Q:=λc y'=>y'=y /\ c=(none,())) (wpS_forRange (I:=λ_ c y'=>y'=y /\ c=(none,())) ?_ (λ_ _ h=>h) ⟨rfl,rfl⟩) ?_)
    . intro x c y' _ _ ⟨e1,e2⟩;subst e1;subst e2;refine wpS_bind (wpS_get ?_);rw[if_pos (by rw[fy.2.2.1];exact zL 1)];exact wpS_pure ⟨rfl,rfl⟩
    . intro c y' ⟨e1,e2⟩;subst e1;subst e2;exact wpS_pure (q _ fy.1 fy.2.1 fy.2.2.2)
end
def TupI (h:Heap) (v:Value) (ns:List Int):Prop:=∃ a vs,v=.ref a /\ IsTup h a vs.toArray /\ IntsAre vs ns /\ ns≠[]
theorem jP:∀ {vs:List Value}{ns ms:List Int},IntsAre vs ns->IntsAre vs ms->ns=ms
  |_,_,_,.nil,.nil=>rfl
  |_,_,_,.cons n t h,g=>by cases g with|cons _ _ g=>rw[jP h g]
theorem TupI.inj {h:Heap}{v:Value}{ns ms:List Int}(p:TupI h v ns) (q:TupI h v ms):ns=ms:=by
  obtain⟨a,vs,rfl,⟨o,e1,_,n,e2⟩,i1,_⟩:=p;obtain⟨a',vs',e,⟨o',f1,_,n',f2⟩,i2,_⟩:=q;cases e;rw[e1]at f1;cases f1;rw[e2]at f2;injection f2 with g _;have:vs=vs':=by simpa using g
  subst this;exact jP i1 i2
theorem iN:∀ a,lexLt a a=false
  |[]=>rfl
  |x::a=>by rw[fK,if_pos rfl];exact iN a
theorem jQ:∀ a b c,lexLt a b=true->lexLt b c=true->lexLt a c=true
  |[],[],_,h,_=>by cases h
  |[],_::_,[],_,h=>by cases h
  |[],_::_,_::_,_,_=>rfl
  |_::_,[],_,h,_=>by cases h
  |_::_,_::_,[],_,h=>by cases h
  | x::a,y::b,z::c,h,g=>by
    rw[fK]at *;by_cases e1:x=y
    . subst e1;rw[if_pos rfl]at h;by_cases e2:x=z
      . subst e2;rw[if_pos rfl]at g ⊢;exact jQ a b c h g
      . rw[if_neg e2]at g ⊢;exact g
    . rw[if_neg e1]at h;by_cases e2:y=z
      . subst e2;rw[if_neg e1];exact h
      . rw[if_neg e2]at g;have h':=of_decide_eq_true h;have g':=of_decide_eq_true g;rw[if_neg (by omega)];exact decide_eq_true (by omega)
theorem iO:∀ a b,lexLt a b=false->lexLt b a=false->a=b
  |[],[],_,_=>rfl
  |[],_::_,h,_=>by cases h
  |_::_,[],_,h=>by cases h
  | x::a,y::b,h,g=>by
    rw[fK]at *;by_cases e:x=y
    . subst e;rw[if_pos rfl]at h g;rw[iO a b h g]
    . rw[if_neg e]at h;rw[if_neg (Ne.symm e)]at g;have h':=of_decide_eq_false h;have g':=of_decide_eq_false g;omega
theorem mL (a b c:List Int) (h:lexLt a c=true):lexLt a b=true \/ lexLt b c=true:=by
  cases e:lexLt a b with
  |true=>exact .inl rfl
  | false =>
    refine .inr ?_;cases f:lexLt b a with
    |true=>exact jQ b a c f h
    |false=>rw[<-iO a b e f];exact h
open Classical in
noncomputable def tupKey (h:Heap):KeyKind where
  α:=List Int
  blt:=lexLt
  irrefl:=iN
  trans:=jQ
  negTrans:=mL
  total:=iO
  keyOf v:=if p:∃ ns,TupI h v ns then some p.choose else none
  dflt:=[]
section
variable {prog : Program} {w : World} {A : Around} {E : Value -> Shared -> Prop} {s : Shared}
theorem Dj {x y:Int}{t u:Tok}(k:Bool) {Q:Bool->Shared->Prop}(h:Q (decide (x<y)) s):wpAny (model prog w) A (oneLt' k (.int x t) (.int y u)) Q E s:=by
  cases k with
  |true=>exact oneLt_int h
  | false =>
    rw[oneLt'_eq];rw[if_neg (by simp)];exact zB (show wpAny (model prog w) A (richCompare .Lt (.int x t) (.int y u)) _ E s from(PyProof.Rows.lt_int (wpAny_truthy_bool h):wpAny (model prog w) A (compareOp .Lt (.int x t) (.int y u)) _ E s))
theorem Bo (f:Bool) (x y:Value):keyLt' (tuples' f) x y=(do
    let xs <-Builtin.List.listItems x
    let ys <-Builtin.List.listItems y
    for ((p,q),i) in (xs.toList.zip ys.toList).zipIdx do
      if !(<-eqBool p q) then return <-oneLt' (f&&i==0) p q
    return decide (xs.size<ys.size)):=rfl
end
structure KP (P:Heap->Value->List Int->Prop):Prop where
  inj:∀ {h:Heap}{v:Value}{ns ms:List Int},P h v ns->P h v ms->ns=ms
  push:∀ {h:Heap}{v:Value}{ns:List Int},P h v ns->∀ o:Obj,P (h.push o) v ns
  upd:∀ {h:Heap}{v:Value}{ns:List Int},P h v ns->∀ {l:Addr}{xs:Array Value}{n:Nat},h.get? l=some (seqObj "list" xs n)->∀ f:Obj->Obj,P (h.update l f) v ns
theorem TupI.push {h:Heap}{v:Value}{ns:List Int}(p:TupI h v ns) (o:Obj):TupI (h.push o) v ns:=by
  obtain⟨a,vs,e,⟨u,e1,e2⟩,k⟩:=p;exact⟨a,vs,e,⟨u,zH _ e1,e2⟩,k⟩
theorem TupI.upd {h:Heap}{v:Value}{ns:List Int}(p:TupI h v ns) {l:Addr}{xs:Array Value}{n:Nat}(hl:h.get? l=some (seqObj "list" xs n)) (f:Obj->Obj):TupI (h.update l f) v ns:=by
  obtain⟨a,vs,e,⟨u,e1,e2,e3⟩,k⟩:=p;refine⟨a,vs,e,⟨u,?_,e2,e3⟩,k⟩;by_cases q:l=a
  . subst q;rw[hl]at e1;cases e1;injection (show Value.type "list"=Value.type "tuple" from e2) with e4;exact absurd e4 (by decide)
  . rw[Heap.get?_update_ne _ _ _ _ (Ne.symm q)];exact e1
section
variable {prog : Program} {w : World} {A : Around} {E : Value -> Shared -> Prop} {s : Shared} {P : Heap -> Value -> List Int -> Prop} (KQ : KP P)
open Classical in
noncomputable def pKey (P:Heap->Value->List Int->Prop) (h:Heap):KeyKind where
  α:=List Int
  blt:=lexLt
  irrefl:=iN
  trans:=jQ
  negTrans:=mL
  total:=iO
  keyOf v:=if p:∃ ns,P h v ns then some p.choose else none
  dflt:=[]
include KQ in
open Classical in
theorem oz {h:Heap}{v:Value}{ns:List Int}(p:P h v ns):((pKey P h).keyOf v).getD []=ns:=by
  have e:∃ ns,P h v ns:=⟨ns,p⟩;show (if p:∃ ns,P h v ns then some p.choose else none).getD []=ns;rw[dif_pos e];exact KQ.inj e.choose_spec p
def InOrd (P:Heap->Value->List Int->Prop) (h:Heap) (vs:List Value):Prop:=vs.Pairwise λx y=>∀ ns ms,P h x ns->P h y ms->lexLt ms ns=false
def SortsAt (P:Heap->Value->List Int->Prop) (prog:Program) (w:World) (U:Nat) (s:Shared) (vs:List Value):Prop:=∀ (A:Around) (h':Heap),A.units<=U->(∀ v ns,P s.heap v ns->P h' v ns) ->
  (∀ {Q:SortKind->Shared->Prop}{E:Value->Shared->Prop},Q (tuples' true) { s with heap:=h' }->wpAny (model prog w) A (keyKind' vs.toArray) Q E { s with heap:=h' }) /\ ∀ E,Cmp prog w A E { s with heap:=h' } (pKey P h') (tuples' true) (pairsOf vs)
include KQ
theorem JS {h h':Heap}{vs:List Value}(H:∀ v∈vs,∃ ns,P h v ns) (up:∀ v ns,P h v ns->P h' v ns) {z:SortSt}(pm:(arrOf z).Perm (pairsOf vs)) (u:Up (pKey P h') z (pairsOf vs).size) :
    ((arrOf z).map (·.2)).toList.Perm vs /\ InOrd P h ((arrOf z).map (·.2)).toList:=by
  have hl:(arrOf z).toList.Perm (vs.zip vs):=by rw[<-pairsOf_toList];exact Array.perm_iff_toList_perm.mp pm
  have me:∀ p∈(arrOf z).toList,p.1=p.2 /\ p.1∈vs:=λp hp=>mem_zip_self (hl.mem_iff.mp hp);rw[Array.toList_map];constructor
  . have:=hl.map (·.2);rw[List.map_snd_zip (zL _)]at this;exact this
  . unfold InOrd;rw[List.pairwise_map,List.pairwise_iff_getElem];intro i j hi hj hij ns ms p q;have hi':i<(arrOf z).size:=by simpa using hi
    have hj':j<(arrOf z).size:=by simpa using hj
    have g:=u i j (Nat.le_of_lt hij) (by rw[<-pm.size_eq];exact hj');have ki:kx (pKey P h') z i=ns:=by
      simp only[kx,KK,getElem?_pos (arrOf z) i hi'];rw[Array.getElem_toList,<-(me _ (by simp)).1]at p;exact oz KQ (up _ _ p)
    have kj:kx (pKey P h') z j=ms:=by
      simp only[kx,KK,getElem?_pos (arrOf z) j hj'];rw[Array.getElem_toList,<-(me _ (by simp)).1]at q;exact oz KQ (up _ _ q)
    rw[ki,kj]at g;exact g
theorem MZ {a:Addr}{vs:List Value}{n:Nat}{R:Fin->Shared->Prop}(ho:s.heap.get? a=some (seqObj "list" vs.toArray n)) (H:∀ v∈vs,∃ ns,P s.heap v ns) {U:Nat}(hU:A.units<=U) (S:vs≠[]->SortsAt P prog w U s vs) (h64:vs.length<64)
    (h:∀ out:Array Value,out.toList.Perm vs->InOrd P s.heap out.toList->R (.done (.ret .none)) { s with heap:=sortedHeap s.heap a vs out }):wpAny (model prog w) A (Builtin.«list.sort» ⟨[.ref a],[]⟩) R E s:=by
  rw[list_sort_plain];have la:a<s.heap.objs.size:=Heap.lt_size ho;refine zB (listItems_at ho rfl (zB (listUpdate_at ho rfl ?_)));obtain⟨k,ho1⟩:∃ k,(s.heap.update a (Obj.mapSeq λ_=>#[])).get? a=some (seqObj "list" #[] k):=⟨_,get?_update_seq ho (λ_=>#[])⟩;refine zB (seqEpoch_at ho1 rfl (zB (wpAny_newTuple (zB (wpAny_newList (wpAny_holding ?_))))));generalize eh:((s.heap.update a (Obj.mapSeq λ_=>#[])).push (seqObj "tuple" vs.toArray 0)).push (seqObj "list" #[] 0)=h6;have up:∀ v ns,P s.heap v ns->P h6 v ns:=λv ns p=>eh▸KQ.push (KQ.push (KQ.upd p ho _) _) _;have ho6:h6.get? a=some (seqObj "list" #[] k):=by
    rw[<-eh];exact zH _ (zH _ ho1)
  have fin:∀ out:Array Value,out.toList.Perm vs->InOrd P s.heap out.toList->R (.done (.ret .none)) { s with heap:=h6.update a (Obj.mapSeq λ_=>out) }:=λout p q=>by
    rw[<-eh];exact h out p q
  show wpAny (model prog w) A _ R E { s with heap:=h6 };dsimp only;have big:vs.length<=sizeLine+1:=by rw[sizeLine_eq];omega
  by_cases h2:vs.toArray.size<2
  . rw[if_pos h2,if_pos h2];refine zB (zP ?_);rw[StateT.run_pure];refine zB (zP ?_);dsimp only;have em:(Array.map (λx=>x.2) (vs.toArray.zip vs.toArray))=vs.toArray:=by
      apply Array.toList_inj.mp;simp[List.map_snd_zip]
    rw[em];refine zB (seqEpoch_at ho6 rfl (zB (listUpdate_at ho6 rfl ?_ (hsz2:=by rw[List.size_toArray];exact big))));rw[bne_self_eq_false];refine zP (fin vs.toArray (List.Perm.refl _) ?_);rw[List.size_toArray]at h2;unfold InOrd;match vs,h2 with
    |[],_=>exact List.Pairwise.nil
    |[x],_=>exact List.pairwise_singleton _ _
  . rw[if_neg h2,if_neg h2];rw[List.size_toArray]at h2;have ne:vs≠[]:=λe=>by rw[e]at h2;simp at h2
    have H6:∀ v∈vs,∃ ns,P h6 v ns:=λv m=>let ⟨ns,p⟩:=H v m;⟨ns,up v ns p⟩
    refine zB ((S ne A h6 hU up).1 ?_);refine zB (wpAny_mono (runs (s:={ s with heap:=h6 }) (κ:=pKey P h6) (kd:=tuples' true) (b:=pairsOf vs) (z:=SortSt.mk' (tuples' true) (vs.toArray.zip vs.toArray) #[] 7 none)
      (Q:=λ_ y=>(arrOf y).Perm (pairsOf vs) /\ failedOf y=none /\ Up (pKey P h6) y (pairsOf vs).size) ((S ne A h6 hU up).2 _) ⟨Array.Perm.refl _,rfl,rfl,rfl⟩ (by rw[pairsOf_size];omega) (by rw[pairsOf_size];exact h64) λy a1 a2 a3=>⟨a1,a2,a3⟩) ?_ λ_ _ e=>e)
    rintro⟨⟨⟩,y⟩ s' ⟨es,pm,fl,u⟩;subst es;dsimp only;obtain⟨o1,o2⟩:=JS KQ H up pm u;refine zB (seqEpoch_at ho6 rfl (zB (listUpdate_at ho6 rfl ?_ (hsz2:=by rw[Array.size_map,pm.size_eq,pairsOf_size];exact big))));rw[fl,bne_self_eq_false];exact zP (fin _ o1 o2)
theorem Gs {l:Addr}{vs:List Value}{Q:Value->Shared->Prop}(hl:s.heap.IsList l vs.toArray) (H:∀ v∈vs,∃ ns,P s.heap v ns) {U:Nat}(hU:A.units+8<=U) (S:vs≠[]->SortsAt P prog w U s vs) (h64:vs.length<64)
    (h:∀ out:Array Value,out.toList.Perm vs->InOrd P s.heap out.toList->Q (.ref (s.heap.objs.size+1)) { s with heap:=sortedAll s.heap vs out }):wpAny (model prog w) A (call (.builtin "sorted") [.ref l]) Q E s:=by
  refine Calls.call_function_entry kind_sorted plain_sorted entry_sorted (args_sorted1 _) ?_;unfold Builtin.«sorted»;refine zB (m:=checkCount "sorted" 1 1 _) (zP (zB (collect_list hl (zB (wpAny_newList ?_)))));generalize eg:(s.heap.push (seqObj "list" #[] 0)).update s.heap.objs.size (Obj.mapSeq (·++vs.toArray))=g;have sg:g.objs.size=s.heap.objs.size+1:=by rw[<-eg,Heap.size_update,size_push']
  have up:∀ v ns,P s.heap v ns->P (g.push (seqObj "list" vs.toArray 0)) v ns:=λv ns p=>by
    rw[<-eg];exact KQ.push (KQ.upd (KQ.push p _) (Heap.get?_push_size _ rfl) _) _
  have dn:∀ v ns,v∈vs->P (g.push (seqObj "list" vs.toArray 0)) v ns->P s.heap v ns:=λv ns m p=>by
    obtain⟨ms,q⟩:=H v m;rw[KQ.inj p (up v ms q)];exact q
  have gl:(g.push (seqObj "list" vs.toArray 0)).get? (s.heap.objs.size+1)=some (seqObj "list" vs.toArray 0):=by rw[<-sg];exact Heap.get?_push_size _ rfl
  show wpAny _ _ _ _ _ { s with heap:=g.push (seqObj "list" vs.toArray 0) };rw[sg];refine zB (wpAny_holding (wpAny_call_entry slot_list_sort ⟨_,gl,rfl⟩ entry_list_sort (MZ KQ (s:={ s with heap:=g.push (seqObj "list" vs.toArray 0) }) gl (λv m=>let ⟨ns,p⟩:=H v m;⟨ns,up v ns p⟩) (U:=U) (show A.units+1+1<=U by omega) (λne A h2 hu k=>S ne A h2 hu λv ns p=>k v ns (up v ns p)) h64 λout o1 o2=>⟨_,rfl,zP ⟨_,rfl,?_⟩⟩) (args_list_sort _)));have:=h out o1 (List.Pairwise.imp (λ{x y} r ns ms p q=>r ns ms (up _ _ p) (up _ _ q)) o2);unfold sortedAll at this;rw[eg]at this;exact this
omit KQ
end
end HT
namespace L2.DL
open PySem PySem.Spec PyProof.Rows
section
variable {X : Cx} {T : Fr} {Z : Xs}
theorem Cd:∀ {rs:List Addr}{us:List Value},Vals (rs.map V.ref) us->us=rs.map Value.ref
  |[],_,.nil=>rfl
  | r::rs,_,.cons q t=>by
    cases q;rw[Cd t];rfl
end
end L2.DL
namespace HT
open PySem PySem.Spec PyProof.Rows
inductive It1 where
  |i (n:Int)|s (x:Str)|t (ns:List Int)
noncomputable def It1.code:It1->List Int
  |.i n=>[n]
  |.s x=>x.cps.toList.map (λ(c:Nat)=>(c:Int)+1)++[0]
  |.t ns=>ns.flatMap (λn=>[1,n])++[0]
noncomputable def It1.like:It1->It1->Bool
  |.i _,.i _=>true
  |.s _,.s _=>true
  |.t _,.t _=>true
  |_,_=>false
noncomputable def codeR (l:List It1):List Int:=l.flatMap (λd=>1::d.code)++[0]
noncomputable def likeR (l m:List It1):Bool:=(l.zip m).all λp=>p.1.like p.2
theorem Ce (r q:List Int):∀ (a b:List Nat),a≠b->lexLt ((a.map λ(c:Nat)=>(c:Int)+1)++[0]++r) ((b.map λ(c:Nat)=>(c:Int)+1)++[0]++q)=decide (a<b)
  |[],[],h=>absurd rfl h
  | [],y::b,_=>by
    show lexLt (0::_) (((y:Int)+1)::_)=_;rw[fK,if_neg (by omega),decide_eq_true (by omega),decide_eq_true (by simp)]
  | x::a,[],_=>by
    show lexLt (((x:Int)+1)::_) (0::_)=_;rw[fK,if_neg (by omega),decide_eq_false (by omega),decide_eq_false (by simp)]
  | x::a,y::b,h=>by
    show lexLt (((x:Int)+1)::_) (((y:Int)+1)::_)=_;rw[fK];by_cases e:x=y
    . subst e;rw[if_pos rfl];have ih:=Ce r q a b (λz=>h (by rw[z]));refine ih.trans ?_;by_cases c:a<b
      . rw[decide_eq_true c,decide_eq_true (by simpa using c)]
      . rw[decide_eq_false c,decide_eq_false (by simpa using c)]
    . rw[if_neg (by omega)];by_cases c:x<y
      . rw[decide_eq_true (by omega),decide_eq_true (List.cons_lt_cons_iff.mpr (.inl c))]
      . rw[decide_eq_false (by omega),decide_eq_false ?_];intro z;rcases List.cons_lt_cons_iff.mp z with z|z
        . omega
        . omega
theorem Cg (r q:List Int):∀ (a b:List Int),a≠b->lexLt (a.flatMap (λn=>[1,n])++[0]++r) (b.flatMap (λn=>[1,n])++[0]++q)=lexLt a b
  |[],[],h=>absurd rfl h
  | [],y::b,_=>by
    show lexLt (0::_) (1::_)=_;rw[fK,if_neg (by omega)];rfl
  | x::a,[],_=>by
    show lexLt (1::_) (0::_)=_;rw[fK,if_neg (by omega)];rfl
  | x::a,y::b,h=>by
    show lexLt (1::x::(a.flatMap (λn=>[1,n])++[0]++r)) (1::y::(b.flatMap (λn=>[1,n])++[0]++q))=_;rw[fK,if_pos rfl,fK,fK];by_cases e:x=y
    . subst e;rw[if_pos rfl,if_pos rfl];exact Cg r q a b λz=>h (by rw[z])
    . rw[if_neg e,if_neg e]
noncomputable def It1.lt:It1->It1->Bool
  |.i n,.i m=>decide (n<m)
  |.s x,.s y=>decide (x.cps.toList<y.cps.toList)
  |.t n,.t m=>lexLt n m
  |_,_=>false
theorem It1.app (r q:List Int):∀ {a b:It1},a.like b=true->a≠b->lexLt (a.code++r) (b.code++q)=a.lt b
  | .i n,.i m,_,h=>by
    show lexLt (n::r) (m::q)=_;rw[fK,if_neg (λz=>h (by rw[z]))];rfl
  |.s x,.s y,_,h=>Ce r q _ _ λz=>h (by
      obtain⟨⟨a⟩⟩:=x;obtain⟨⟨b⟩⟩:=y;have z':a=b:=z;rw[z'])
  |.t n,.t m,_,h=>Cg r q n m λz=>h (by rw[z])
theorem JT (a r q:List Int):lexLt (a++r) (a++q)=lexLt r q:=by
  induction a with
  |nil=>rfl
  |cons x a ih=>rw[List.cons_append,List.cons_append,fK,if_pos rfl,ih]
open Classical in
noncomputable def ltR:List It1->List It1->Bool
  |[],m=>!m.isEmpty
  |_::_,[]=>false
  |a::l,b::m=>if a=b then ltR l m else a.lt b
theorem Fh:∀ (l m:List It1),likeR l m=true->lexLt (codeR l) (codeR m)=ltR l m
  |[],[],_=>rfl
  | [],b::m,_=>by
    show lexLt (0::[]) (1::_)=_;rw[fK,if_neg (by omega)];rfl
  | a::l,[],_=>by
    show lexLt (1::_) (0::[])=_;rw[fK,if_neg (by omega)];rfl
  | a::l,b::m,h=>by
    have h':(a.like b&&likeR l m)=true:=h;rw[zA]at h';have e1:codeR (a::l)=1::(a.code++codeR l):=by simp[codeR]
    have e2:codeR (b::m)=1::(b.code++codeR m):=by simp[codeR]
    rw[e1,e2,fK,if_pos rfl];unfold ltR;by_cases c:a=b
    . rw[if_pos c,c,JT];exact Fh l m h'.2
    . rw[if_neg c];exact It1.app _ _ h'.1 c
noncomputable def IsIt (h:Heap) (v:Value):It1->Prop
  |.i n=>∃ t,v=.int n t
  |.s x=>∃ t,v=.str x t
  |.t ns=>∃ a vs,v=.ref a /\ IsTup h a vs.toArray /\ IntsAre vs ns
inductive Its (h:Heap):List Value->List It1->Prop
  |nil:Its h [] []
  |cons {v:Value}{d:It1}{vs:List Value}{l:List It1}:IsIt h v d->Its h vs l->Its h (v::vs) (d::l)
def RowI (L:List (List It1)) (h:Heap) (v:Value) (ns:List Int):Prop:=∃ a vs n l,v=.ref a /\ IsTup h a vs.toArray /\ Its h vs (.i n::l) /\ .i n::l∈L /\ ns=codeR (.i n::l)
theorem IsIt.inj {h:Heap}{v:Value}:∀ {a b:It1},IsIt h v a->IsIt h v b->a=b
  |.i n,.i m,⟨t,e⟩,⟨u,f⟩=>by rw[e]at f;cases f;rfl
  |.s n,.s m,⟨t,e⟩,⟨u,f⟩=>by rw[e]at f;cases f;rfl
  | .t n,.t m,⟨a,vs,e,⟨o,e1,_,k,e2⟩,i1⟩,⟨a',vs',f,⟨o',f1,_,k',f2⟩,i2⟩=>by
    rw[e]at f;cases f;rw[e1]at f1;cases f1;rw[e2]at f2;injection f2 with g _;have:vs=vs':=by simpa using g
    subst this;rw[jP i1 i2]
  |.i n,.s m,⟨t,e⟩,⟨u,f⟩=>by rw[e]at f;cases f
  |.s n,.i m,⟨t,e⟩,⟨u,f⟩=>by rw[e]at f;cases f
  |.i n,.t m,⟨t,e⟩,⟨_,_,f,_⟩=>by rw[e]at f;cases f
  |.s n,.t m,⟨t,e⟩,⟨_,_,f,_⟩=>by rw[e]at f;cases f
  |.t n,.i m,⟨_,_,e,_⟩,⟨u,f⟩=>by rw[e]at f;cases f
  |.t n,.s m,⟨_,_,e,_⟩,⟨u,f⟩=>by rw[e]at f;cases f
theorem Its.inj {h:Heap}{vs:List Value}{l m:List It1}(p:Its h vs l) (q:Its h vs m):l=m:=by
  induction p generalizing m with
  |nil=>cases q;rfl
  |cons a _ ih=>cases q with|cons b q=>rw[a.inj b,ih q]
theorem IsIt.keep {h h':Heap}{v:Value}{d:It1}(p:IsIt h v d) (k:∀ a vs,IsTup h a vs->IsTup h' a vs):IsIt h' v d:=by
  cases d with
  |i n=>exact p
  |s x=>exact p
  |t ns=>obtain⟨a,vs,e,t,i⟩:=p;exact⟨a,vs,e,k _ _ t,i⟩
theorem Its.keep {h h':Heap}{vs:List Value}{l:List It1}(p:Its h vs l) (k:∀ a vs,IsTup h a vs->IsTup h' a vs):Its h' vs l:=by
  induction p with
  |nil=>exact .nil
  |cons a _ ih=>exact .cons (a.keep k) ih
theorem Ch {h:Heap}(o:Obj):∀ a vs,IsTup h a vs->IsTup (h.push o) a vs:=λa vs ⟨u,e1,e2⟩=>⟨u,zH _ e1,e2⟩
theorem Fi {h:Heap}{l:Addr}{xs:Array Value}{n:Nat}(hl:h.get? l=some (seqObj "list" xs n)) (f:Obj->Obj):∀ a vs,IsTup h a vs->IsTup (h.update l f) a vs:=λa vs ⟨u,e1,e2,e3⟩=>by
  refine⟨u,?_,e2,e3⟩;by_cases q:l=a
  . subst q;rw[hl]at e1;cases e1;injection (show Value.type "list"=Value.type "tuple" from e2) with e4;exact absurd e4 (by decide)
  . rw[Heap.get?_update_ne _ _ _ _ (Ne.symm q)];exact e1
theorem rowP (L:List (List It1)):KP (RowI L) where
  inj:=by
    rintro h v ns ms ⟨a,vs,n,l,rfl,⟨o,e1,_,k,e2⟩,i1,_,rfl⟩ ⟨a',vs',n',l',e,⟨o',f1,_,k',f2⟩,i2,_,rfl⟩;cases e;rw[e1]at f1;cases f1;rw[e2]at f2;injection f2 with g _;have:vs=vs':=by simpa using g
    subst this;rw[i1.inj i2]
  push:=λ⟨a,vs,n,l,e,t,i,m,c⟩ o=>⟨a,vs,n,l,e,Ch o _ _ t,i.keep (Ch o),m,c⟩
  upd:=λ⟨a,vs,n,l,e,t,i,m,c⟩ _ _ _ hl f=>⟨a,vs,n,l,e,Fi hl f _ _ t,i.keep (Fi hl f),m,c⟩
section
variable {prog : Program} {w : World} {A : Around} {E : Value -> Shared -> Prop} {s : Shared}
theorem lL:∀ {vs:List Value}{ns:List Int},IntsAre vs ns->ItemsAre (intKind prog w) ns vs
  |_,_,.nil=>.nil
  |_,_,.cons n t h=>.cons (intKind_is _ _ _ _) (lL h)
open Classical in
theorem RK {v u:Value}{a b:It1}(hu:A.units<cLine) (p:IsIt s.heap v a) (q:IsIt s.heap u b) (hl:a.like b=true) {Q:Bool->Shared->Prop}(h:Q (decide (a=b)) s):wpAny (model prog w) A (eqBool v u) Q E s:=by
  cases a with
  | i n =>
    cases b with
    | i m =>
      obtain⟨t,rfl⟩:=p;obtain⟨t',rfl⟩:=q;refine wpAny_eqBool_int ?_;rw[show (n==m)=decide (It1.i n=It1.i m) by by_cases e:n=m<;>simp[e]];exact h
    |_=>cases hl
  | s x =>
    cases b with
    | s y =>
      obtain⟨t,rfl⟩:=p;obtain⟨t',rfl⟩:=q;refine SeqAt.EqAt.str_str x t y t' prog w E Q ?_;rw[show (x==y)=decide (It1.s x=It1.s y) by by_cases e:x=y<;>simp[e]];exact h
    |_=>cases hl
  | t ns =>
    cases b with
    | t ms =>
      obtain⟨a,vs,rfl,t1,i1⟩:=p;obtain⟨a',us,rfl,t2,i2⟩:=q;obtain⟨o1,x1,x2,k1,x3⟩:=t1;obtain⟨o2,y1,y2,k2,y3⟩:=t2;refine wpAny_eqBool_tuple (knd:=intKind prog w) (x:=ns) (y:=ms) hu ⟨o1,_,k1,x1,x2,x3,lL i1⟩ ⟨o2,_,k2,y1,y2,y3,lL i2⟩ ?_;rw[show decide (ns=ms)=decide (It1.t ns=It1.t ms) by by_cases e:ns=ms<;>simp[e]];exact h
    |_=>cases hl
theorem RL {v u:Value}{a b:It1}(hu:A.units<cLine) (k:Bool) (hk:k=true->∃ n,a=.i n) (p:IsIt s.heap v a) (q:IsIt s.heap u b) (hl:a.like b=true) {Q:Bool->Shared->Prop}(h:Q (a.lt b) s):wpAny (model prog w) A (oneLt' k v u) Q E s:=by
  have gen:∀ {v u:Value}{c:Bool},k=false->(∀ {R:Value->Shared->Prop},R (.bool c) s->wpAny (model prog w) A (compareOp .Lt v u) R E s)->Q c s->wpAny (model prog w) A (oneLt' k v u) Q E s:=λ{v u c} z f h=>by
    rw[oneLt'_eq,z,if_neg (by simp)];exact zB (show wpAny (model prog w) A (richCompare .Lt v u) _ E s from f (wpAny_truthy_bool h))
  cases a with
  | i n =>
    cases b with
    |i m=>obtain⟨t,rfl⟩:=p;obtain⟨t',rfl⟩:=q;exact Dj k h
    |_=>cases hl
  | s x =>
    have z:k=false:=by cases k with|true=>obtain⟨n,e⟩:=hk rfl;cases e|false=>rfl
    cases b with
    |s y=>obtain⟨t,rfl⟩:=p;obtain⟨t',rfl⟩:=q;exact gen z (λr=>lt_str r) h
    |_=>cases hl
  | t ns =>
    have z:k=false:=by cases k with|true=>obtain⟨n,e⟩:=hk rfl;cases e|false=>rfl
    cases b with
    | t ms =>
      obtain⟨a,vs,rfl,t1,i1⟩:=p;obtain⟨a',us,rfl,t2,i2⟩:=q;exact gen z (λr=>oP t1 t2 (by simpa using i1) (by simpa using i2) hu r) h
    |_=>cases hl
theorem M0 (hu:A.units<cLine) {vs us:List Value}{l m:List It1}(p:Its s.heap vs l) (q:Its s.heap us m) (hl:likeR l m=true) (i:Nat) (h0:i=0->∀ d r,l=d::r->∃ n,d=.i n) {R:(Option Bool×PUnit)->Shared->Prop}
    (k:∀ r,(r=(some (ltR l m),PUnit.unit) \/ (r=(none,PUnit.unit) /\ ltR l m=decide (vs.length<us.length)))->R r s) :
    wpAny (model prog w) A (forIn ((vs.zip us).zipIdx i) ((none,PUnit.unit):Option Bool×PUnit) λ(z:(Value×Value)×Nat) _=>(do
        let z1 <-eqBool z.1.1 z.1.2
        if (!z1)=true then do
          let r <-oneLt' (true&&z.2==0) z.1.1 z.1.2
          pure (ForInStep.done (some r,PUnit.unit))
        else pure (ForInStep.yield (none,PUnit.unit)))) R E s:=by
  induction p generalizing us m i with
  | nil =>
    rw[List.zip_nil_left,List.zipIdx_nil,List.forIn_nil];refine zP (k _ (.inr ⟨rfl,?_⟩));cases q with
    |nil=>rfl
    |cons _ q=>unfold ltR;simp
  | @cons v d vs l pa p ih =>
    cases q with
    | nil =>
      rw[List.zip_nil_right,List.zipIdx_nil,List.forIn_nil];exact zP (k _ (.inr ⟨rfl,by unfold ltR;simp⟩))
    | @cons u e us m qa q =>
      have hl':(d.like e&&likeR l m)=true:=hl;rw[zA]at hl';rw[List.zip_cons_cons,List.zipIdx_cons,List.forIn_cons];refine zB (zB (RK hu pa qa hl'.1 ?_));by_cases c:d=e
      . subst c;rw[if_neg (by simp)];refine zP (ih q hl'.2 (i+1) (λz=>by omega) λr hr=>k r ?_);have:ltR (d::l) (d::m)=ltR l m:=by conv=>lhs;unfold ltR;rw[if_pos rfl]
        rw[this];rcases hr with hr|⟨hr,hr2⟩
        . exact .inl hr
        . exact .inr ⟨hr,by rw[hr2];simp⟩
      . rw[if_pos (by simp[c])];refine zB (RL hu _ (λz=>?_) pa qa hl'.1 (zP (zP (k _ (.inl ?_)))))
        . have:i=0:=by simpa using z
          exact h0 this d l rfl
        . have:ltR (d::l) (e::m)=d.lt e:=by conv=>lhs;unfold ltR;rw[if_neg c]
          rw[this]
theorem Gu {L:List (List It1)}(C:∀ l∈L,∀ m∈L,likeR l m=true) {U:Nat}(hU:U<cLine) {vs:List Value}(H:∀ v∈vs,∃ ns,RowI L s.heap v ns) (ne:vs≠[]):SortsAt (RowI L) prog w U s vs:=λA h' hu up=>by
  have H':∀ v∈vs,∃ ns,RowI L h' v ns:=λv m=>let ⟨ns,p⟩:=H v m;⟨ns,up v ns p⟩
  refine⟨λ{Q E} h=>?_,λE=>?_⟩
  . have firsts:∀ (us:List Value),(∀ v∈us,∃ ns,RowI L h' v ns)->∀ {Q:List (Option Value)->Shared->Prop}{E:Value->Shared->Prop},(∀ (ws:List Value) (is:List Int),ws.length=us.length->IntsAre ws is->Q (ws.map some) { s with heap:=h' })->wpAny (model prog w) A (us.mapM firstOfTuple') Q E { s with heap:=h' }:=by
      intro us;induction us with
      |nil=>intro _ Q E k;rw[List.mapM_nil];exact zP (k [] [] rfl .nil)
      | cons u us ih =>
        intro G Q E k;obtain⟨ns,a,xs,n,l,rfl,⟨o,e1,e3,c,e2⟩,it,_,_⟩:=G u (List.mem_cons_self ..);rw[List.mapM_cons];refine zB (show wpAny (model prog w) A (do
          if (<-typeOf (.ref a)) != .type "tuple" then return none
          return (<-Builtin.List.listItems (.ref a))[0]?) _ E _ from ?_)
        refine zB (wpAny_typeOf (T:="tuple") ⟨o,e1,e3⟩ ?_);rw[if_neg (by decide)];refine zB (listItems_at e1 e2 (zP ?_));cases it with
        | cons hv _ =>
          obtain⟨t,rfl⟩:=hv;exact zB (ih (λv m=>G v (List.mem_cons_of_mem _ m)) λws is e q=>zP (k (.int n t::ws) (n::is) (by simp[e]) (.cons n t q)))
    rw[keyKind'_eq,List.mapM_toArray];refine zB (show wpAny (model prog w) A (List.toArray <$> vs.mapM firstOfTuple') _ E _ from ?_);rw[<-bind_pure_comp];refine zB (firsts vs H' λus is e k=>zP ?_);rw[if_pos (by simp)];refine zB (wpAny_rule ?_);have e1:((us.map some).toArray.filterMap id)=us.toArray:=by simp[List.filterMap_map]
    rw[e1,oneTypeOnly'_eq,List.mapM_toArray,mapM_typeOf_ints k];cases us with
    |nil=>exact absurd (List.eq_nil_of_length_eq_zero e.symm) ne
    | cons u us =>
      simp only[map_pure,pure_bind];rw[show ((u::us).map λ_=>Value.type "int").toArray[0]?=some (Value.type "int") by simp];dsimp only;rw[if_pos (by simp)];exact zB (zP (zP h))
  . intro x y mx my Q E' q;rw[pairsOf_toList]at mx my;obtain⟨ns,hx⟩:=H' _ (mem_zip_self mx).2;obtain⟨ms,hy⟩:=H' _ (mem_zip_self my).2;have k1:=oz (rowP L) hx;have k2:=oz (rowP L) hy
    change Q (lexLt (((pKey (RowI L) h').keyOf x.1).getD []) (((pKey (RowI L) h').keyOf y.1).getD [])) _ at q
    rw[k1,k2]at q;obtain⟨a,vs1,n1,l1,e1,⟨o1,x1,x2,c1,x3⟩,i1,m1,rfl⟩:=hx;obtain⟨b,vs2,n2,l2,e2,⟨o2,y1,y2,c2,y3⟩,i2,m2,rfl⟩:=hy;have lk:=C _ m1 _ m2;rw[Fh _ _ lk]at q;rw[e1,e2,Bo];refine zB (listItems_at x1 x3 (zB (listItems_at y1 y3 ?_)));refine zB (M0 (s:={ s with heap:=h' }) (Nat.lt_of_le_of_lt hu hU) i1 i2 lk 0 (λ_ d r z=>by cases z;exact⟨n1,rfl⟩) λr hr=>?_);rcases hr with rfl|⟨rfl,e⟩
    . exact zP q
    . refine zP ?_;rw[List.size_toArray,List.size_toArray,<-e];exact q
end
end HT
namespace L2.DL
open PySem PySem.Spec PyProof.Rows
open HT (It1 codeR likeR lexLt)
noncomputable def itOf:D->Option It1
  |.int i=>some (.i i)
  |.str x=>some (.s x)
  |.tup l=>(intsOf l).map .t
  |_=>none
noncomputable def dIt:It1->D
  |.i n=>.int n
  |.s x=>.str x
  |.t ns=>.tup (ns.map D.int)
noncomputable def itsOf:List D->Option (List It1)
  |[]=>some []
  |d::l=>(itOf d).bind λa=>(itsOf l).map λr=>a::r
noncomputable def rowOf:D->Option (List It1)
  |.tup (.int i::l)=>(itsOf l).map λr=>.i i::r
  |_=>none
noncomputable def rowsOf:List D->Option (List (List It1))
  |[]=>some []
  |d::l=>(rowOf d).bind λa=>(rowsOf l).map λr=>a::r
noncomputable def dRow (l:List It1):D:=.tup (l.map dIt)
theorem jp:∀ {l:List D}{ns:List Int},intsOf l=some ns->l=ns.map D.int
  |[],_,e=>by cases e;rfl
  | .int i::l,ns,e=>by
    unfold intsOf at e;cases q:intsOf l with
    |none=>rw[q]at e;cases e
    |some ms=>rw[q]at e;cases e;rw[jp q];rfl
  |.non::_,_,e=>by cases e
  |.bl _::_,_,e=>by cases e
  |.str _::_,_,e=>by cases e
  |.tup _::_,_,e=>by cases e
  |.lst _::_,_,e=>by cases e
  |.dic _::_,_,e=>by cases e
theorem M1 {d:D}{a:It1}(e:itOf d=some a):d=dIt a:=by
  cases d with
  |int i=>cases e;rfl
  |str x=>cases e;rfl
  | tup l =>
    have e:(intsOf l).map It1.t=some a:=e;cases q:intsOf l with
    |none=>rw[q]at e;cases e
    |some ms=>rw[q]at e;cases e;rw[jp q];rfl
  |_=>cases e
theorem Ci:∀ {l:List D}{r:List It1},itsOf l=some r->l=r.map dIt
  |[],_,e=>by cases e;rfl
  | d::l,r,e=>by
    unfold itsOf at e;cases q:itOf d with
    |none=>rw[q]at e;cases e
    | some a =>
      cases q2:itsOf l with
      |none=>rw[q,q2]at e;cases e
      |some t=>rw[q,q2]at e;cases e;rw[M1 q,Ci q2];rfl
theorem JU {d:D}{r:List It1}(e:rowOf d=some r):d=dRow r /\ ∃ n l,r=.i n::l:=by
  unfold rowOf at e;split at e
  . rename_i i l;cases q:itsOf l with
    |none=>rw[q]at e;cases e
    |some t=>rw[q]at e;cases e;rw[Ci q];exact⟨rfl,i,t,rfl⟩
  . cases e
theorem AS:∀ {l:List D}{rs:List (List It1)},rowsOf l=some rs->l=rs.map dRow /\ ∀ r∈rs,∃ n l,r=.i n::l
  |[],_,e=>by cases e;exact⟨rfl,λr m=>nomatch m⟩
  | d::l,rs,e=>by
    unfold rowsOf at e;cases q:rowOf d with
    |none=>rw[q]at e;cases e
    | some a =>
      cases q2:rowsOf l with
      |none=>rw[q,q2]at e;cases e
      | some t =>
        rw[q,q2]at e;cases e;obtain⟨h1,h2⟩:=JU q;obtain⟨h3,h4⟩:=AS q2;refine⟨by rw[h1,h3];rfl,λr m=>?_⟩;rcases List.mem_cons.mp m with rfl|m
        . exact h2
        . exact h4 r m
noncomputable def sortRw (rs:List (List It1)):List (List It1):=rs.mergeSort λa b=>!lexLt (codeR b) (codeR a)
theorem iZ (rs:List (List It1)):(sortRw rs).Perm rs:=List.mergeSort_perm rs _
theorem lE (rs:List (List It1)):(sortRw rs).Pairwise (λa b=>lexLt (codeR b) (codeR a)=false):=by
  have h:=List.pairwise_mergeSort (le:=λa b:List It1=>!lexLt (codeR b) (codeR a)) (λa b c h1 h2=>by
    rw[Bool.not_eq_true']at *;cases e:lexLt (codeR c) (codeR a) with
    |false=>rfl
    | true =>
      rcases HT.mL _ (codeR b) _ e with z|z
      . rw[z]at h2;cases h2
      . rw[z]at h1;cases h1) (λa b=>by
    rw[Bool.or_eq_true,Bool.not_eq_true',Bool.not_eq_true'];cases e:lexLt (codeR b) (codeR a) with
    |false=>exact .inl rfl
    | true =>
      cases f:lexLt (codeR a) (codeR b) with
      |false=>exact .inr rfl
      |true=>have:=HT.jQ _ _ _ e f;rw[HT.iN]at this;cases this) rs
  exact h.imp λ{a b} z=>by simpa using z
theorem Gv {a b:It1}(h:a.like b=true):b.like a=true:=by cases a<;>cases b<;>first|rfl|cases h
theorem o9:∀ {a b:List Nat},¬ a<b->¬ b<a->a=b
  |[],[],_,_=>rfl
  |[],y::b,h,_=>absurd (by simp) h
  |x::a,[],_,h=>absurd (by simp) h
  | x::a,y::b,h,g=>by
    rw[List.cons_lt_cons_iff]at h g;have e:x=y:=by
      rcases Nat.lt_trichotomy x y with z|z|z
      . exact absurd (.inl z) h
      . exact z
      . exact absurd (.inl z) g
    subst e;rw[o9 (λz=>h (.inr ⟨rfl,z⟩)) (λz=>g (.inr ⟨rfl,z⟩))]
theorem Ps:∀ {a b:It1},a.like b=true->a.lt b=false->b.lt a=false->a=b
  | .i n,.i m,_,h,g=>by
    have h':=of_decide_eq_false h;have g':=of_decide_eq_false g;rw[show n=m by omega]
  | .s x,.s y,_,h,g=>by
    have:=o9 (of_decide_eq_false h) (of_decide_eq_false g);obtain⟨⟨a⟩⟩:=x;obtain⟨⟨b⟩⟩:=y;have z':a=b:=this;rw[z']
  |.t n,.t m,_,h,g=>by rw[HT.iO n m h g]
theorem Cj:∀ {l m:List It1},likeR l m=true->codeR l=codeR m->l=m
  |[],[],_,_=>rfl
  | [],b::m,_,e=>by
    have e':([0]:List Int)=1::(b.code++codeR m):=by rw[show (1::(b.code++codeR m))=codeR (b::m) by simp[codeR]];exact e
    simp at e'
  | a::l,[],_,e=>by
    have e':1::(a.code++codeR l)=([0]:List Int):=by rw[show (1::(a.code++codeR l))=codeR (a::l) by simp[codeR]];exact e
    simp at e'
  | a::l,b::m,h,e=>by
    have h':(a.like b&&likeR l m)=true:=h;rw[zA]at h';have e':a.code++codeR l=b.code++codeR m:=by
      have:1::(a.code++codeR l)=1::(b.code++codeR m):=by rw[show (1::(a.code++codeR l))=codeR (a::l) by simp[codeR],show (1::(b.code++codeR m))=codeR (b::m) by simp[codeR]];exact e
      exact(List.cons.inj this).2
    have ab:a=b:=by
      by_cases c:a=b
      . exact c
      . have x1:=HT.It1.app (codeR l) (codeR m) h'.1 c;have x2:=HT.It1.app (codeR m) (codeR l) (Gv h'.1) (λz=>c z.symm);rw[e',HT.iN]at x1;rw[<-e',HT.iN]at x2;exact Ps h'.1 x1.symm x2.symm
    subst ab;rw[Cj h'.2 (List.append_cancel_left e')]
theorem JV {α β:Type}{f:α->β}{l n:List β}(h:l.Perm n):∀ {m:List α},n=m.map f->∃ m':List α,l=m'.map f /\ m'.Perm m:=by
  induction h with
  |nil=>intro m e;cases m with|nil=>exact⟨[],rfl,.nil⟩|cons _ _=>cases e
  | cons x _ ih =>
    intro m e;cases m with
    |nil=>cases e
    | cons a m =>
      rw[List.map_cons]at e;obtain⟨e1,e2⟩:=List.cons.inj e;obtain⟨m',q1,q2⟩:=ih e2;exact⟨a::m',by rw[List.map_cons,<-q1,e1],q2.cons a⟩
  | swap x y l =>
    intro m e;match m,e with
    | a::b::m,e =>
      rw[List.map_cons,List.map_cons]at e;obtain⟨e1,e2⟩:=List.cons.inj e;obtain⟨e2,e3⟩:=List.cons.inj e2;exact⟨b::a::m,by rw[List.map_cons,List.map_cons,<-e1,<-e2,<-e3],.swap ..⟩
  | trans _ _ ih1 ih2 =>
    intro m e;obtain⟨m2,q1,q2⟩:=ih2 e;obtain⟨m1,q3,q4⟩:=ih1 q1;exact⟨m1,q3,q4.trans q2⟩
noncomputable def allLike (rs:List (List It1)):Bool:=rs.all λa=>rs.all λb=>likeR a b
theorem Ck {rs a:List (List It1)}(hl:allLike rs=true) (p:a.Perm rs) (ha:a.Pairwise (λa b=>lexLt (codeR b) (codeR a)=false)):a=sortRw rs:=by
  have lk:∀ x∈rs,∀ y∈rs,likeR x y=true:=λx mx y my=>List.all_eq_true.mp (List.all_eq_true.mp hl x mx) y my;refine(p.trans (iZ rs).symm).eq_of_pairwise (λx y mx my h1 h2=>Cj (lk x (p.mem_iff.mp mx) y ((iZ rs).mem_iff.mp my)) (HT.iO _ _ h2 h1)) ha (lE rs)
section
variable {X : Cx} {pins : List (Addr × Obj)} {σ : St} {F H : Hp} {s : Shared}
theorem RM (I:Inv X pins σ H s) (sub:Sub F H) {a:It1}{v:V}{u:Value}(h:Den F (dIt a) v) (r:RelV v u):HT.IsIt s.heap u a:=by
  cases a with
  |i n=>cases (show v=.int n from h);exact r
  |s x=>cases (show v=.str x from h);exact r
  | t ns =>
    obtain⟨b,vs,rfl,h1,h2⟩:=h;cases r;obtain⟨its,r',pl,_⟩:=I.tuple (.of (sub _ _ h1));have e:=h2.ints (ns:=ns) (by clear h2 h1 pl r';induction ns with|nil=>rfl|cons n ns ih=>simp[intsOf,ih]);subst e;exact⟨b,its,rfl,pl,iQ r'⟩
theorem JW (I:Inv X pins σ H s) (sub:Sub F H):∀ {l:List It1}{vs:List V}{us:List Value},DenL F (l.map dIt) vs->Vals vs us->HT.Its s.heap us l
  |[],_,_,h,r=>by cases (show _=[] from h);cases r;exact .nil
  | a::l,_,_,h,r=>by
    obtain⟨v,t,rfl,h1,h2⟩:=h;cases r with
    |cons r1 r2=>exact .cons (RM I sub h1 r1) (JW I sub h2 r2)
theorem Fj:∀ {rs:List (List It1)}{vs:List V},DenL F (rs.map dRow) vs->∃ ps:List (Addr×List It1),vs=ps.map (λp=>V.ref p.1) /\ rs=ps.map (·.2) /\ ∀ p∈ps,Den F (dRow p.2) (.ref p.1)
  |[],_,h=>⟨[],h,rfl,λp m=>nomatch m⟩
  | r::rs,_,h=>by
    obtain⟨v,t,rfl,h1,h2⟩:=h;obtain⟨ps,e1,e2,e3⟩:=Fj h2;obtain⟨a,ws,rfl,h3,h4⟩:=id h1;refine⟨(a,r)::ps,by rw[e1];rfl,by rw[e2];rfl,λp m=>?_⟩;rcases List.mem_cons.mp m with rfl|m
    . exact h1
    . exact e3 p m
theorem Cl:∀ {ps:List (Addr×List It1)},(∀ p∈ps,Den F (dRow p.2) (.ref p.1))->DenL F ((ps.map (·.2)).map dRow) (ps.map λp=>V.ref p.1)
  |[],_=>rfl
  |p::ps,h=>.cons (h p (List.mem_cons_self ..)) (Cl λq m=>h q (List.mem_cons_of_mem _ m))
end
section
variable {X : Cx}
def rSortR (K:PySem.W.Frag) (vs:List V) (H:Hp) (Q:VK):Prop:=∃ (F:Hp) (p:Addr) (xs:List V) (rs:List (List It1)),vs=[.ref p] /\ Sub F H /\ SqL K H p xs /\ DenL F (rs.map dRow) xs /\ (∀ r∈rs,∃ n l,r=.i n::l) /\ rs.length<64 /\ allLike rs=true /\
  ∀ (q:Addr) (ys:List V),H q=none->DenL F ((sortRw rs).map dRow) ys->Q (.ref q) (upd H q (.lst ys))
theorem Dk (hu:X.A.units+100<cLine):CallR X (.builtin "sorted") (rSortR X.K):=by
  intro pins s σ H xs us Q I rv h;obtain⟨F,p,vs,rs,rfl,sub,hp,hd,hf,h64,hlk,q⟩:=h;obtain⟨u,rfl,ru⟩:=Vals.one rv;cases ru;obtain⟨its,r1,p1,z1⟩:=I.list hp;obtain⟨ps,e1,e2,e3⟩:=Fj hd;subst e1;have ei:its=ps.map λp=>Value.ref p.1:=by
    have:=Cd (rs:=ps.map (·.1)) (us:=its) (by rw[List.map_map];exact r1);rw[this,List.map_map];rfl
  subst ei;have row:∀ p∈ps,HT.RowI rs s.heap (.ref p.1) (codeR p.2):=λp m=>by
    have d:=e3 p m;have mr:p.2∈rs:=by rw[e2];exact List.mem_map.mpr ⟨p,m,rfl⟩
    obtain⟨n,l,el⟩:=hf _ mr;obtain⟨b,ws,eb,h3,h4⟩:=d;cases eb;obtain⟨us,r',pl,_⟩:=I.tuple (.of (sub _ _ h3));rw[el]at h4 mr;exact⟨p.1,us,n,l,rfl,pl,JW I sub h4 r',mr,by rw[el]⟩
  have HH:∀ v∈ps.map (λp=>Value.ref p.1),∃ ns,HT.RowI rs s.heap v ns:=λv m=>by
    obtain⟨r,mr,rfl⟩:=List.mem_map.mp m;exact⟨_,row r mr⟩
  have lk:∀ x∈rs,∀ y∈rs,likeR x y=true:=λx mx y my=>List.all_eq_true.mp (List.all_eq_true.mp hlk x mx) y my;have ln:ps.length=rs.length:=by rw[e2,List.length_map]
  refine HT.Gs (HT.rowP rs) p1.isList HH (U:=X.A.units+8) (zL _) (λne=>HT.Gu lk (by omega) HH ne) (by rw[List.length_map,ln];exact h64) λout o1 o2=>?_;obtain⟨ps',q1,q2⟩:=JV o1 rfl;obtain⟨k,he⟩:=sortedAll_at s.heap (ps.map λp=>Value.ref p.1) out;have hfr:H (s.heap.objs.size+1)=none:=I.hok.fresh (Nat.le_succ _);have ord:(ps'.map (·.2)).Pairwise (λa b=>lexLt (codeR b) (codeR a)=false):=by
    unfold HT.InOrd at o2;rw[q1,List.pairwise_map]at o2;rw[List.pairwise_map];exact List.Pairwise.imp_of_mem (λ{a b} ma mb r=>r _ _ (row a (q2.mem_iff.mp ma)) (row b (q2.mem_iff.mp mb))) o2
  have so:ps'.map (·.2)=sortRw rs:=Ck hlk (by rw[e2];exact q2.map _) ord;have ll:(ps'.map λp=>V.ref p.1).length<=sizeLine:=by
    rw[List.length_map,q2.length_eq,ln];exact Nat.le_trans (Nat.le_of_lt h64) (by decide)
  refine⟨.ref (s.heap.objs.size+1),_,I.laid (t':=s.toks) (o:=.lst (ps'.map λp=>V.ref p.1)) (λb ob q=>sortedAll_old q) (Nat.le_succ _) ?_,rfl,q _ _ hfr (by rw[<-so];exact Cl λp m=>e3 p (q2.mem_iff.mp m))⟩;refine⟨ll,out.toList,k,?_,he⟩;rw[q1];have:∀ l:List (Addr×List It1),Vals (l.map λp=>V.ref p.1) (l.map λp=>Value.ref p.1):=λl=>by
    induction l with
    |nil=>exact .nil
    |cons a l ih=>exact .cons rfl ih
  exact this ps'
end
noncomputable def sortA:List D->Option Res:=λxs=>match sortD xs with
  |some r=>some r
  | none=>match xs with
    |[.lst l]=>(rowsOf l).bind λrs=>if rs.length<64 /\ allLike rs=true then some (.lst ((sortRw rs).map dRow)) else none
    |_=>none
theorem Dl {X:Cx}(hu:X.A.units+100<cLine):CallR X (.builtin "sorted") (λvs H Q=>rSort X.K vs H Q \/ rSortR X.K vs H Q):=λpins s σ H xs us Q I rv h=>h.elim (Gn pins s σ H xs us Q I rv) (Dk hu pins s σ H xs us Q I rv)
theorem okSortA {K:PySem.W.Frag}:OkN (λvs H Q=>rSort K vs H Q \/ rSortR K vs H Q) sortA:=by
  intro F H xs vs Q s sub rx e k;unfold sortA at e;cases er:sortD xs with
  | some r =>
    rw[er]at e;cases e;exact .inl (okSort F H xs vs Q s sub rx er k)
  | none =>
    rw[er]at e;dsimp only at e;clear er;split at e
    . rename_i l;cases e1:rowsOf l with
      |none=>rw[e1]at e;cases e
      | some rs =>
        rw[e1]at e;simp only[Option.bind_some]at e;split at e
        . rename_i hc;cases e;obtain⟨v,t,rfl,⟨a,us,rfl,h1,h2⟩,rt⟩:=rx;cases (show t=[] from rt);obtain⟨b1,b2⟩:=AS e1;subst b1;exact .inr ⟨F,a,us,rs,rfl,sub,.of h1,h2,b2,hc.1,hc.2,λq ys hq hy=>k _ _ ⟨q,ys,rfl,hq,rfl,hy⟩⟩
        . cases e
    . cases e
end L2.DL
namespace L2
open PySem PySem.Spec PyProof.Rows
section
variable {X : Cx}
theorem M3 {N:List Str}{src:List (Option Nat)}{elt tg iter:Expr}{ifs:List Expr}{scope:Scope}{pos pos' spos:Pos}{wi:TI}{g:TG}{tf:TT}{te:TE}{ii:Nat}{x:Str}
    (hc:X.calm=true) (S:CompScope X N src scope) (hi:PI X tg iter wi)
    (hg:∀ cl s H C fp,PG (X.comp N scope cl s H C fp) tg g) (hf:∀ cl s H C fp,PF (X.comp N scope cl s H C fp) ifs tf) (he:∀ cl s H C fp,PE (X.comp N scope cl s H C fp) elt te)
    (hN:X.N.Nodup) (hi':X.N[ii]?=some x) (hx:Loc X.env.scope x) (hsw:swapsWith (.ListComp elt [⟨tg,iter,ifs,0⟩] scope pos) (some (.Name x pos')) spos.line X.env=pure true)
    (hff:X.fn x=true \/ X.env.scope.names.lookup x=some .local)
    (hs:∀ x,foldedSetIterable iter X.env x=pure x:=by intro _;rfl):PS X (.Assign [.Name x pos'] (.ListComp elt [⟨tg,iter,ifs,0⟩] scope pos) spos) (tAsg (tComp src wi g tf te) (gName ii)):=by
  intro pins s σ H Dn I h;rw[exec_Assign_Name_used _ _ _ _ hsw];refine zB (wpAny_standAt (zB ?_))
  change wpAny _ X.A (do let _ <-comprehension (.ListComp elt [⟨tg,iter,ifs,0⟩] scope pos) scope X.env _ (newList []) false (eval iter X.env) (some (assign (.Name x pos') X.env))) _ _ s
  refine zB (wpAny_mono (wpAny_comprehension_free (use:=some (assign (.Name x pos') X.env)) (Q:=λ_ s'=>SP X pins Dn .next s') rfl hs (oS (S.cells I.ok)) S.kind S.names (thn (hi pins s σ H _ I h) λxv s1 h1=>thn h1 λitv s2 h2=>?_)) (λ_ s' hq=>zP (zP hq)) λ_ _ q=>q);obtain⟨it,fp,tn,J,H2,e,I2,T,st2,f2,hW⟩:=h2;subst e;refine wpAny_newObj_type ?_;generalize hD:s2.heap.objs.size=D;have hDn:H2 D=none:=I2.hok.fresh (Nat.le_of_eq hD);have I3:Inv X pins σ (upd H2 D (.lst [])) { s2 with heap:=s2.heap.push { cls:=.type "list",dict:=none,data:=.seq ([]:List Value).toArray } }:=by
    subst hD;exact I2.laid (t':=s2.toks) (λb u e=>zH _ e) (zL _) ⟨Nat.zero_le _,[],0,.nil,Heap.get?_push_size _ rfl⟩
  obtain⟨W,⟨m0,w0⟩,turn⟩:=hW D hDn;have up:∀ b o,s2.heap.get? b=some o->(s2.heap.push { cls:=.type "list",dict:=none,data:=.seq ([]:List Value).toArray }).get? b=some o:=λb u e=>zH _ e;have obj2:=T.obj _ _ st2;have st3:tn 0 (s2.heap.push { cls:=.type "list",dict:=none,data:=.seq ([]:List Value).toArray }):=T.keep _ _ _ st2 λb _ o e=>up b o e;have fpl:∀ b∈fp,b<s2.heap.objs.size:=λb hb=>by obtain⟨o,e,_⟩:=obj2 b hb;exact Heap.lt_size e
  have f3:∀ b∈fp,FpOk X pins (upd H2 D (.lst [])) b:=λb hb=>⟨by rw[fq (by rw[<-hD];exact Nat.ne_of_lt (fpl b hb))];exact(f2 b hb).1,(f2 b hb).2⟩;generalize hs3:({ s2 with heap:=s2.heap.push { cls:=.type "list",dict:=none,data:=.seq ([]:List Value).toArray } }:Shared)=s3 at I3 ⊢;have hs3h:s3.heap=s2.heap.push { cls:=.type "list",dict:=none,data:=.seq ([]:List Value).toArray }:=by rw[<-hs3]
  rw[<-hs3h]at st3;have fpl3:∀ b∈fp,b<s3.heap.objs.size:=λb hb=>by rw[hs3h,Heap.size_push];exact Nat.lt_succ_of_lt (fpl b hb)
  generalize hH3:upd H2 D (.lst [])=H3 at I3 f3 w0;refine oU ?_;generalize hh1:pushCells (s3.heap.push { cls:=.type "dict",data:=.dict #[] }) scope.names=h₁;have k1:∀ b o,s3.heap.get? b=some o->h₁.get? b=some o:=λb o e=>by rw[<-hh1];exact pushCells_keeps _ _ b o (zH _ e)
  have IY:=BT S I3 (λb hb=>⟨f3 b hb,fpl3 b hb⟩) (s':={ s3 with heap:=h₁ }) (by rw[hh1]);have st4:tn 0 h₁:=T.keep _ _ _ st3 λb _ o e=>k1 b o e;generalize hcl:cellsFrom (s3.heap.objs.size+1) scope.names (clOf X.env.cells scope.names [])=cl at IY ⊢;generalize hC:s3.heap.objs.size=C at IY ⊢;have fpY:∀ {H':Hp},(∀ b∈fp,H' b=none)->∀ b∈fp,FpOk (X.comp N scope cl s3 H3 C fp) [] H' b:=λhn b hb=>by
    refine⟨hn b hb,?_,?_,.inl hb,?_,λp hp=>absurd (show p∈([]:List (Addr×Obj)) from hp) (by simp)⟩
    . exact(IY.ok.exf b hb).1
    . exact IY.ok.exfs b hb
    . intro x c e z;exact(IY.ok.exf b hb).2 x c e z
  have fin:∀ (σ':St) (H':Hp) (s':Shared),Inv (X.comp N scope cl s3 H3 C fp) [] σ' H' s'->∀ h',Heap.SameBut C s'.heap h'->Inv X pins σ H' { s' with heap:=h' }:=λσ' H' s' I' h' hsb=>by
    have hCf:H' C=none:=I'.free;have kp:∀ b o,b≠C->s'.heap.get? b=some o->h'.get? b=some o:=λb o hb e=>hsb.extBut b o hb e;have hCs:s3.heap.get? C=none:=by rw[<-hC];exact Heap.get?_none_of_le (zL _)
    have neC:∀ b o,s3.heap.get? b=some o->b≠C:=λb o e z=>by rw[z,hCs]at e;cases e
    have U:=I'.base;refine I3.call' (s':={ s' with heap:=h' }) (ch:=fp) I'.os ⟨λb o e n hb hx=>kp b o (neC b o e) (U.keep b o e n hb hx),λb o e n hb hx=>?_,U.free,λb o e hx=>?_,U.tups,U.frzs,U.tbls⟩ ?_ I'.bare λb hb=>?_
    . obtain⟨sl,e1⟩:=U.slot b o e n hb hx;exact⟨sl,kp b _ (neC b o e) e1⟩
    . obtain⟨o',e1⟩:=U.there b o e hx;exact⟨o',kp b o' (neC b o e) e1⟩
    . intro b ob e;refine(I'.hok b ob e).stay (λc w' hcc q=>kp c w' (λz=>?_) q) (λ_ q=>q) λ_ _ q=>q;rcases hcc with z1|z1
      . rw[<-z1,z,hCf]at e;cases e
      . rw[z,hCf]at z1;cases z1
    . exact⟨(f3 b hb).2.2.2.1,(f3 b hb).2.1,λx c e=>(f3 b hb).2.2.2.2.1 x c e,(f3 b hb).2.2.2.2.2⟩
  have loop:∀ s4:Shared,s4={ s3 with heap:=h₁ } ->
      codeAny (model X.prog X.w) X.A (.compLoop (.ListComp elt [⟨tg,iter,ifs,0⟩] scope pos) 0 (.ref it) (.ref D) (compEnvC scope cl C X.env)) (compPost (model X.prog X.w) X.A X.xe (some (assign (.Name x pos') X.env)) (λ_ s'=>SP X pins Dn .next s') (.ref D) C) s4:=by
    rintro s4 rfl;refine lX (λn s'=>∃ i σ' H',Inv (X.comp N scope cl s3 H3 C fp) [] σ' H' s' /\ tn i s'.heap /\ (∀ b∈fp,H' b=none) /\ W i n σ' H') _ (λ_ _ _ q=>q) ?_ m0 ⟨0,_,H3,IY,st4,λb hb=>(f3 b hb).1,w0⟩;rintro n s5 ⟨i,σ5,H5,I5,st5,fr5,w5⟩;have nofail:∀ {α:Type}{t:Sem α}{Q1:α->Shared->Prop}{E1:Value->Shared->Prop}{ss:Shared},wpAny (model X.prog X.w) X.A t Q1 (λ_ _=>False) ss->wpAny (model X.prog X.w) X.A t Q1 E1 ss:=λhw=>wpAny_mono hw (λ_ _ q=>q) λ_ _ z=>False.elim z;rcases turn i n σ5 H5 w5 with⟨stop,q5⟩|⟨go,NN,hN,step⟩
    . refine nofail (thn (T.done (X.comp N scope cl s3 H3 C fp) rfl rfl rfl hc i [] s5 σ5 H5 (λ_ _=>False) I5 (fpY fr5) st5 stop) λr s6 ⟨hr,I6⟩=>?_);subst hr;obtain⟨m6,hn6,_⟩:=I6.loc;have IX:Inv X pins σ H5 s6:=fin σ5 H5 s6 I6 s6.heap (Heap.SameBut.refl ..)
      change wpAny _ X.A (assign (.Name x pos') X.env (.ref D)) _ _ s6
      refine wpAny_assign_Name (AF (v:=.ref D) IX hN hi' hx rfl (λs7 I7 ⟨a,sb,ha⟩=>?_) hff);have hCa:C≠a:=λz=>by
        rcases ha with w1|w1
        . have l1:X.env.locals<s3.heap.objs.size:=I3.lt;rw[<-w1,<-z,<-hC]at l1;exact Nat.lt_irrefl _ l1
        . obtain⟨v1,o1,w2,_⟩:=I3.cell x a w1;have l1:=Heap.lt_size w2;rw[<-z,<-hC]at l1;exact Nat.lt_irrefl _ l1
      refine⟨m6,hn6.sameBut sb hCa,λh' hsb=>?_⟩;have hCf:H5 C=none:=I6.free;refine⟨σ.set ii (some (.ref D)),H5,?_,q5⟩;have hLC:X.env.locals≠C:=λz=>by have l1:=I3.lt;rw[z,<-hC]at l1;exact Nat.lt_irrefl _ l1
      refine I7.turned (t':=s7.toks) (it:=C) (λb o hb e=>hsb.extBut b o hb e) hCf (Ne.symm hLC) (.inr ?_) (λy c e z=>?_) (λp hp z=>?_)
      . rw[<-hC];exact I3.sz
      . obtain⟨v1,o1,w2,_⟩:=I3.cell y c e;have l1:=Heap.lt_size w2;rw[z,<-hC]at l1;exact Nat.lt_irrefl _ l1
      . have l1:=Heap.lt_size (I3.pin p hp).1;rw[z,<-hC]at l1;exact Nat.lt_irrefl _ l1
    . refine nofail (thn (T.item (X.comp N scope cl s3 H3 C fp) rfl rfl rfl hc i [] s5 σ5 H5 (λ_ _=>False) I5 (fpY fr5) st5 go) λr s6 ⟨u,hr,h6⟩=>?_);subst hr;refine nofail (thn h6 λ_ s7 ⟨x,H7,I7,r7,y7,st7,fr7⟩=>?_);have I7':=I7.pinned (fpY fr7) (T.obj _ _ st7);refine nofail (thn (hg cl s3 H3 C fp _ s7 σ5 H7 x u _ I7' r7 (step x H7 y7)) λ_ s8 ⟨σ8,H8,I8,q8⟩=>?_);refine nofail (thn (hf cl s3 H3 C fp _ s8 σ8 H8 _ I8 q8) λb s9 ⟨H9,I9,q9⟩=>?_);have again:∀ {σ9:St}{HA:Hp}{sA:Shared},Inv (X.comp N scope cl s3 H3 C fp) ([]++pinsAt fp s7.heap) σ9 HA sA->NN σ9 HA->∃ m,m<n /\ ∃ i σ' H',Inv (X.comp N scope cl s3 H3 C fp) [] σ' H' sA /\ tn i sA.heap /\ (∀ b∈fp,H' b=none) /\ W i m σ' H':=λ{σ9 HA sA} IA nA=>by
        obtain⟨m',hm,wA⟩:=hN σ9 HA nA;refine⟨m',hm,i+1,σ9,HA,IA.unpinned,T.keep _ _ _ st7 λb hb o e=>(IA.pin (b,o) (List.mem_append_right _ (List.mem_append_right _ (ij hb e)))).1,λb hb=>?_,wA⟩;obtain⟨o,e,d⟩:=T.obj _ _ st7 b hb;exact(IA.pin (b,o) (List.mem_append_right _ (List.mem_append_right _ (ij hb e)))).2.1
      cases b with
      | false =>
        rw[if_neg (by decide)]at q9;rw[if_neg (by decide)];exact again I9 q9
      | true =>
        rw[if_pos rfl]at q9;rw[if_pos rfl];refine nofail (thn (he cl s3 H3 C fp _ s9 σ8 H9 _ I9 q9) λyv sA ⟨y,HA,IA,rA,ys,hys,hyl,nA⟩=>?_);refine nofail (thn (lc _ sA σ8 HA (.ref D) [y] (.ref D) [yv] (λ_ HB=>NN σ8 HB) IA rfl (.cons rA .nil) ⟨D,ys,y,rfl,rfl,hys,hyl,nA⟩) λr sB hB=>?_);obtain⟨_,HB,IB,_,nB⟩:=hB;exact again IB nB
  exact codeAny_compStart_list (loop _ rfl) (T.self _ 0 _ _ _ st4 (loop _ rfl))
end
end L2
namespace L2.DL
open PySem PySem.Spec PyProof.Rows
section
variable {X : Cx} {T : Fr} {Z : Xs} {N : List Str} {src : List (Option Nat)} {elt tg iter : Expr} {ifs : List Expr} {scope : Scope} {pos pos' spos : Pos} {mi : DE (List W)} {g : DG} {tf : DE Bool} {te : DE W}
theorem JX (i:Nat) {x:Str}(bo:Bool) (hc:X.calm=true) (S:CompScope X N src scope) (hi:PID X T Z tg iter mi)
    (hg:∀ T cl s H C fp,PGD (X.comp N scope cl s H C fp) T tg g) (hf:∀ T cl s H C fp,PF (X.comp N scope cl s H C fp) ifs (tDT T ⟨E0,Z.cl⟩ tf)) (he:∀ T cl s H C fp,PD (X.comp N scope cl s H C fp) T ⟨E0,Z.cl⟩ elt te)
    (hN:X.N.Nodup) (hi':X.N[i]?=some x:=by rfl) (hx:Loc X.env.scope x:=by first|exact Or.inl rfl|exact Or.inr rfl) (hsw:swapsWith (.ListComp elt [⟨tg,iter,ifs,0⟩] scope pos) (some (.Name x pos')) spos.line X.env=pure true:=by rfl)
    (hff:X.fn x=true \/ X.env.scope.names.lookup x=some .local:=by first|exact .inl rfl|exact .inr rfl|assumption)
    (hs:∀ x,foldedSetIterable iter X.env x=pure x:=by intro _;rfl):PSD X T Z (.Assign [.Name x pos'] (.ListComp elt [⟨tg,iter,ifs,0⟩] scope pos) spos) (fP (fD bo src mi g tf te) (fg i)):=by
  refine PS.imp (M3 (src:=src) (g:=gAny g) (tf:=fAny ⟨E0,Z.cl⟩ tf) (te:=eAny ⟨E0,Z.cl⟩ te) hc S hi (λcl s H C fp pins s' σ' H' v u Q I rv ⟨T,q⟩=>hg T cl s H C fp pins s' σ' H' v u Q I rv q)
    (λcl s H C fp pins s' σ' H' Q I ⟨T,q⟩=>hf T cl s H C fp pins s' σ' H' Q I q) (λcl s H C fp pins s' σ' H' Q I ⟨T,q⟩=>he T cl s H C fp pins s' σ' H' Q I q) hN hi' hx hsw hff hs) λD σ H ⟨F,r,env,bx,R,h⟩=>?_
  refine JH (T:=T) (Z:=Z) (bo:=bo) (mi:=mi) (g:=g) (tf:=tf) (te:=te) (Q:=λv H1=>D.nx (σ.set i (some v)) H1) ⟨F,r,env,bx,R,End.bindS h λw bx1 F1 r1 v H1 g1 R1 d1 h1=>h1 F1 r1 _ H1 (.refl F1 r1) (R1.set d1 i)⟩
end
noncomputable def nst:Expr->Bool
  |.Starred _ _=>false
  |_=>true
noncomputable def nsts:List Expr->Bool
  |[]=>true
  |e::es=>nst e&&nsts es
theorem fE {e:Expr}(h:nst e=true) (es:List Expr) (env:Env):starEach (e::es) env=(false,eval e env)::starEach es env:=by
  cases e<;>first|rfl|cases h
theorem iR {env:Env}{pos:Pos}:∀ {es:List Expr},nsts es=true->(backTo pos (starEach es env)).any (·.1)=false
  |[],_=>rfl
  | e::es,h=>by
    have h':(nst e&&nsts es)=true:=h;rw[zA]at h';rw[fE h'.1];show (false||(backTo pos (starEach es env)).any (·.1))=false;rw[iR h'.2];rfl
theorem g9 {e:Expr}{es:List Expr}(h:nsts (e::es)=true):nst e=true /\ nsts es=true:=by
  have h':(nst e&&nsts es)=true:=h
  rwa [zA]at h'
theorem jR {e:Expr}(h:nst e=true) (es:List Expr) (env:Env):assignEach (e::es) env=(false,assign e env)::assignEach es env:=by
  cases e<;>first|rfl|cases h
theorem lM {env:Env}:∀ {es:List Expr},nsts es=true->(assignEach es env).length=es.length /\ (assignEach es env).findIdx? (·.1)=none
  |[],_=>⟨rfl,rfl⟩
  | e::es,h=>by
    obtain⟨h1,h2⟩:=g9 h;obtain⟨a,b⟩:=lM (env:=env) h2;rw[jR h1];exact⟨by rw[List.length_cons,List.length_cons,a],by rw[List.findIdx?_cons,b];rfl⟩
section
variable {X : Cx} {T : Fr} {Z : Xs} {a b c e : Expr} {es : List Expr} {ma mb mc : DE W} {pos p p1 : Pos} {k k' nn : Nat} {x : Str} {ps : List Str} {fn : List W -> List Bx -> O W} {m : DE (List W)}
theorem jS (ha:PD X T Z e ma) (hr:PDA X T Z es m) (hn:nst e=true:=by rfl):PDA X T Z (e::es) (fc ma m):=Jv ha hr (fE hn es X.env)
theorem RN {id:String}{q:List V->Hp->VK->Prop}{g:List D->Option Res}(bo:Bool) (hc:CallR X (.builtin id) q) (hk:OkN q g) (hg:Gl X x) (hm:X.mg x=none) (hv:bootBuiltins x=some (.builtin id)) (ha:PDA X T Z (e::es) m)
    (hns:nsts (e::es)=true:=by rfl) (hn:x ≠ "__name__":=by decide) (hdb:(x==("__debug__":Str))=false:=by decide):PD X T Z (.Call (.Name x p) (e::es) [] pos) (dN bo g m):=
  Jz bo hc hk hg hm hv ha hn hdb (fE (g9 hns).1 es X.env) (iR (g9 hns).2)
theorem Pt {id:String}{q:List V->Hp->VK->Prop}{g:List D->Option Res}(bo:Bool) (hc:CallR X (.type id) q) (hk:OkN q g) (hg:Gl X x) (hm:X.mg x=none) (hv:bootBuiltins x=some (.type id)) (ha:PDA X T Z (e::es) m)
    (hns:nsts (e::es)=true:=by rfl) (hn:x ≠ "__name__":=by decide) (hdb:(x==("__debug__":Str))=false:=by decide):PD X T Z (.Call (.Name x p) (e::es) [] pos) (dN bo g m):=
  Gi bo hc hk hg hm hv ha hn hdb (fE (g9 hns).1 es X.env) (iR (g9 hns).2)
theorem RP (h:Has X.prog X.w X.K X.mg X.base Z.cl k x ps fn) (hr:Room k' X.A) (hk:k<=k') (hg:Gl X x) (hx:Passes (CXr X.prog X.w) X Z.E) (ha:PDA X T Z (e::es) m)
    (hns:nsts (e::es)=true:=by rfl) (hn:ps.length=nn:=by rfl) (hdb:(x==("__debug__":Str))=false:=by decide):PD X T Z (.Call (.Name x p) (e::es) [] pos) (fk fn nn m):=
  Pr h hr hk hg hx ha hdb (fE (g9 hns).1 es X.env) (iR (g9 hns).2) hn
theorem RQ {n:String}(hT:Tys X.K n) (hg:Gl X "isinstance") (hm:X.mg "isinstance"=none) (hg2:Gl X x) (hm2:X.mg x=none) (hv:bootBuiltins x=some (.type n)) (ha:PD X T Z a ma) (hs:nst a=true:=by rfl)
    (hn:x ≠ "__name__":=by decide) (hdb:(x==("__debug__":Str))=false:=by decide):PD X T Z (.Call (.Name "isinstance" p) [a,.Name x p1] [] pos) (gK n ma):=
  MK hT hg hm hg2 hm2 hv ha hn hdb (fE hs _ X.env) (fE rfl _ X.env) (iR rfl)
theorem Pu {g:DG}{q:DGs}(h1:PGD X T e g) (h2:PGDs X T es q) (hn:nst e=true:=by rfl):PGDs X T (e::es) (gF g q):=Gj h1 h2 (by rw[jR hn];rfl)
theorem RR {q:DGs}{i:Nat}(hc:X.calm=true) (h:PGDs X T es q) (hns:nsts es=true:=by rfl) (hn:es.length=nn:=by rfl):PGD X T (.Tuple es i pos) (jM nn q):=
  MG hc h ((lM hns).1.trans hn) (lM hns).2
end
end L2.DL
namespace L2.DL
open PySem PySem.Spec PyProof.Rows PySem.W
noncomputable def exNames:List Str:=["NoHouse", "NoOuts", "NoRoom", "NoHour", "NoPages", "NoLot", "NoAsks", "NoNumber", "NoMoves", "NoEach", "NoOrder", "NoPage", "NoOut", "Twice", "Missing", "TooMany", "NoDeed"]
noncomputable def exWords:List Str:=["house", "outs", "room", "hour", "pages", "lot", "asks", "number", "moves", "each", "order", "page", "out", "twice", "missing", "many", "deed"]
noncomputable def wordOf (i:Nat):Str:=exWords.getD i ""
structure ExT (K:Frag) (mg:Str->Option Value) (R:Addr) (c:Nat->Addr):Prop where
  m:∀ i x,exNames[i]?=some x->mg x=some (.ref (c i))
  mR:mg "RimeError"=some (.ref R)
  inst:mg "isinstance"=none
  verr:mg "ValueError"=none
  ex:∀ i,i<17->excIn K (c i) vErr "ValueError.__new__"=true
  ek:∀ i,i<17->ExcK K (c i)
  kt:∀ i j,i<17->j<17->kitOne K (.ref (c i)) (.ref (c j))=some (decide (i=j))
  kv:∀ i,i<17->kitOne K (.ref (c i)) (.type "ValueError")=some true
  kr:∀ i,i<17->kitCls K (.ref (c i)) (.ref R)=some true
  rb:mroIn K R (.type "BaseException")=some true
def spWord (c:Nat->Addr):Sp:=λvs H Q _=>∃ (a:Addr) (i:Nat),vs=[.ref a] /\ i<17 /\ H a=some (.ext (Ex1 a (c i))) /\ ∀ H',Same H H'->Q (.str (wordOf i)) H'
def HasW (P:Program) (w:World) (K:Frag) (mg:Str->Option Value) (base:Heap) (cl:Nat->Addr):Prop :=
  ∃ (f:Addr) (fd:FuncData),FnOkH P w K mg base CX0 1 f fd ["_law_e"] (spWord cl) /\ mg "_law_word"=some (.ref f) /\ keepIn K (.ref f)=true /\ Binds K fd ["_law_e"] []
section
variable {X : Cx} {T : Fr} {Z : Xs} {a b e : Expr} {es : List Expr} {ma mb mc : DE W} {pos p np cpos rp hpos : Pos} {st : Stmt} {body : List Stmt} {m k : DSt} {x n : Str} {c i j : Nat} {R : Addr}
noncomputable def sRaise (c:Nat) (m:DE W):DSt:=λenv bx=>bindS (m env bx) λ_ bx1=>.exc c bx1
theorem Gw (c:Nat) (E:ExT X.K X.mg R Z.cl) (hc:X.calm=true) (l:Lands X Z.E) (hg:Gl X x) (hx:exNames[c]?=some x) (he:PD X T Z e ma) (hi:c<17:=by decide) (hns:nsts [e]=true:=by rfl) (hd:(x==("__debug__":Str))=false:=by decide) :
    PSD X T Z (.Raise (some (.Call (.Name x np) [e] [] cpos)) none pos) (sRaise c ma):=
  PS.imp (Js hc l hg (E.m c x hx) (E.ex c hi) he (fE (g9 hns).1 [] X.env) hd) λD σ H ⟨F,r,env,bx,Rr,h⟩ =>
    ⟨F,r,env,bx,Rr,End.bindS h λw bx1 F1 r1 v H1 g1 R1 d1 h1=>⟨rfl,h1 F1 r1 H1 (.refl F1 r1) R1.drop⟩⟩
noncomputable def sBad:DSt:=λ_ _=>.bad
theorem gu:PSD X T Z st sBad:=λ_ _ _ _ _ _ h=>by
  obtain⟨_,_,_,_,_,h⟩:=h;exact h.elim
theorem Rel.same {F:Hp}{r:List Addr}{H H2:Hp}{bx:List Bx}(Rr:Rel T F r [] H [] bx) (s:Same H H2):Rel T F r [] H2 [] bx :=
  ⟨λa u h=>s _ _ (Rr.fh a u h),λi w e=>by simp at e,Rr.len,Rr.nd,λn c a e1 e2=>by
    have:=Rr.box n c a e1 e2;cases c with
    |lst l=>obtain⟨h1,vs,h2,h3⟩:=this;exact⟨h1,vs,s _ _ h2,h3⟩
    |dic l=>obtain⟨h1,vs,h2,h3⟩:=this;exact⟨h1,vs,s _ _ h2,h3⟩
    |dead=>obtain⟨u,h2⟩:=this;exact⟨u,s _ _ h2⟩,λa u h hn=>s _ _ (Rr.keep a u h hn),Rr.new,Rr.n0,zL _,Rr.fs⟩
noncomputable def sTry (m:DSt):DSt:=λenv bx=>match m env bx with
  |.exc c bx1=>if c<17 then .rt (.d (.str (wordOf c))) bx1 else .bad
  |o=>o
theorem M4 (i:Nat) {L:Addr}{k':Nat}{wpos:Pos}(E:ExT X.K X.mg R Z.cl) (W:HasW X.prog X.w X.K X.mg X.base Z.cl) (hr:Room k' X.A) (hk':1<=k') (hst:X.stack=X.env::X.outer) (hfr:X.env.frame=some L) (hfl:L=X.env.locals) (hg:Gl X "RimeError") (hgw:Gl X "_law_word")
    (hN:X.N.Nodup) (hi:X.N[i]?=some n) (hn:X.env.kindOf n=some .local) (hb:∀ pn E,PSDs (X.tri pn E) T ⟨E,Z.cl⟩ body m)
    (hv:Vis X.env.scope n:=by first|exact Or.inl rfl|exact Or.inr (Or.inl rfl)|exact Or.inr (Or.inr rfl)) (hd:(n==("__debug__":Str))=false:=by decide) (hcd:(n==("__classdict__":Str))=false:=by decide) :
    PSD X T Z (.Try body [.ExceptHandler (some (.Name "RimeError" rp)) (some n) [.Return (some (.Call (.Name "_law_word" np) [.Name n cpos] [] wpos)) p] hpos] [] [] pos) (sTry m):=by
  intro pins s σ H D I ⟨F,r,env,bx,Rr,h⟩;obtain⟨fW,fdW,gW,mW,kW,bW⟩:=W;refine OK (i:=i) (E:=λCv _ H'=>∃ c bx' F' r',m env bx=.exc c bx' /\ Cv=.ref (Z.cl c) /\ Grow F r F' r' /\ Rel T F' r' [] H' [] bx') hst hfr hfl hg E.mR E.rb hN hi hn (λpn=>hb pn _)
    (λpn ea=>oo (Bb (Jt (X:=X.hand pn ea) gW ((hr.mono hk').h.mark) hgw mW kW bW .nil pass0 (fm (oI (i:=i) hi hv hd hcd) fS rfl)))) (by decide) pins s σ H D I ⟨?_,?_⟩
  . refine⟨F,r,env,bx,Rr,?_⟩;unfold sTry at h;cases e:m env bx with
    |exc c bx1=>exact λF' r' H' g R'=>⟨c,bx1,F',r',rfl,rfl,g,R'⟩
    |nx env1 bx1=>rw[e]at h;exact h
    |rt w bx1=>rw[e]at h;exact h
    |bk env1 bx1=>rw[e]at h;exact h
    |ct env1 bx1=>rw[e]at h;exact h
    |bad=>rw[e]at h;exact h
  . rintro σ' ea C H' hl ⟨c,bx1,F',r',e,eC,g,R'⟩ hea;have eC':C=Z.cl c:=Value.ref.inj eC;subst eC';unfold sTry at h;rw[e]at h;simp only at h;split at h
    . rename_i hc;refine⟨E.kr c hc,_,List.getElem?_set_self (by rw[hl];exact(List.getElem?_eq_some_iff.mp hi).1),ea,c,rfl,hc,fC,λH2 s2=>?_⟩;exact h F' r' (.str (wordOf c)) H2 g (R'.same λb o z=>s2 b o (by rw[fq (fJ z hea)];exact z)) rfl
    . exact h.elim
end
section
variable {P : Program} {w : World} {K : Frag} {mg : Str -> Option Value} {base : Heap} {cl : Nat -> Addr} {k : Nat} {x : Str} {st : Stmt} {N ps : List Str} {m : DSt} {nn kk : Nat}
theorem M5 (d:Def K mg x st ps) (S:FnScope N ps (fu st))
    (hbody:∀ (f:Addr) (cdv:Value) (A:Around) (outer:List Env) (s:Shared) (H:Hp) (E:XK) (n:Nat) (F0:Hp),Room k (A.deeper (envOfC x (fu st) s.heap.objs.size f cdv)) ->
      PSDs (cxOf (CXr P w) P w K mg base N x (fu st) f cdv A outer s H E) ⟨H,n,F0⟩ ⟨E,cl⟩ (gj st) m) (hn:N.length=nn:=by rfl) (hkk:k+1=kk:=by rfl):Has P w K mg base cl kk x ps (fnD nn m):=by
  subst hn hkk;obtain⟨f,fd,F,hm,hb⟩:=d;exact⟨f,fd,Sq F S (λcdv A outer s H E n F0 hr=>hbody f cdv A outer s H E n F0 hr),hm,F.kp,hb,F.obj⟩
end
noncomputable def ints0 (n:Nat):List V:=(List.range n).map λ(i:Nat)=>V.int (i:Int)
theorem AB:∀ {n:Nat}{acc:Array Value},ItemsOf (λi v=>∃ t,v=Value.int (0+(i:Int)*1) t) acc n->Vals (ints0 n) acc.toList:=by
  intro n acc h;have key:∀ (k:Nat) (l:List Value),(∀ j v,l[j]?=some v->∃ t,v=Value.int ((k+j:Nat):Int) t)->Vals ((List.range' k l.length).map λ(i:Nat)=>V.int (i:Int)) l:=by
    intro k l;induction l generalizing k with
    |nil=>intro _;exact .nil
    | cons v l ih =>
      intro h;obtain⟨t,e⟩:=h 0 v rfl;rw[List.length_cons,List.range'_succ,List.map_cons];refine .cons ⟨t,by simpa using e⟩ (ih (k+1) λj u q=>?_);obtain⟨t',e'⟩:=h (j+1) u (by simpa using q);exact⟨t',by rw[e',show k+(j+1)=k+1+j by omega]⟩
  have:=key 0 acc.toList λj v q=>by
    obtain⟨t,e⟩:=h.2 j v (by rw[Array.getElem?_toList]at q;exact q);exact⟨t,by rw[e];simp⟩
  unfold ints0;rw[List.range_eq_range',<-h.1];simpa using this
section
variable {X : Cx} {T : Fr} {Z : Xs} {a : Expr} {p p2 pos pos2 : Pos} {ta : TA} {ks : DE (List W)}
theorem Gx:bootBuiltins "list"=some (.type "list"):=by decide +kernel
def tLR (ta:TA):TE:=λσ H Q=>ta σ H λvs H1=>∃ j:Int,vs=[.int j] /\ -(2 ^ 62)<=j /\ j<=2 ^ 24 /\ ∀ l,H1 l=none->Q (.ref l) (upd H1 l (.lst (ints0 j.toNat)))
theorem Bp (hc:X.calm=true) (hg:Gl X "list") (hm:X.mg "list"=none) (hg2:Gl X "range") (hm2:X.mg "range"=none) (ha:PA X [a] ta) (hs:nst a=true):PE X (.Call (.Name "list" p) [.Call (.Name "range" p2) [a] [] pos2] [] pos) (tLR ta):=by
  intro pins s σ H Q I h;refine wpAny_Call_Name_kw (iC I hg hm Gx ?_ (by decide) (by decide));refine PyProof.Rows.callWith_type1 ?_ (fE (e:=.Call (.Name "range" p2) [a] [] pos2) rfl [] X.env) (iR (es:=[]) rfl);rw[fE (e:=.Call (.Name "range" p2) [a] [] pos2) rfl [] X.env];show wpAny _ _ (spliced ((false,eval (.Call (.Name "range" p2) [a] [] pos2) X.env)::backTo pos (starEach [] X.env))) _ _ s;refine Calls.spliced_cons ?_;refine wpAny_Call_Name_kw (iC I hg2 hm2 boot_range ?_ (by decide) (by decide));refine PyProof.Rows.callWith_type1 (thn (ha pos2 pins s σ H _ I h) λus s1 ⟨vs,H1,I1,r1,q1⟩=>?_) (fE hs [] X.env) rfl;obtain⟨j,e,b1,b2,q⟩:=q1;subst e;cases r1 with
  | cons r rr =>
    cases rr;obtain⟨t,rfl⟩:=r;refine call_range_1 ?_;refine Calls.spliced_nil ?_;have hn:((j.toNat:Nat):Int)=Builtin.Range.rangeSize 0 j 1:=by rw[rangeSize_one];split<;>omega
    refine call_list_range (I1.ok.hd hc) (IsRange.new ..) (small_one (by omega) (by omega) b1 (by omega)) hn.symm (by omega) λh' tk acc' c' kp e it=>?_;have rv:=AB it;have sz:sizeLine=16777216:=sizeLine_eq;have hz:(ints0 j.toNat).length<=sizeLine:=by
      unfold ints0;rw[List.length_map,List.length_range];omega
    refine⟨.ref _,_,(I1.kept (λb o z=>zH _ z)).laid (t':=tk) kp (zL _) (show ObjOk X.prog X.w _ h' _ (.lst (ints0 j.toNat)) from⟨hz,acc'.toList,c',rv,by simpa using e⟩),rfl,q _ (I1.hok.fresh (by simp[Heap.push]))⟩
noncomputable def dLR (bo:Bool) (k:DE (List W)):DE W:=λenv bx=>fA (k env bx) λws bx1=>match ws with
  |[.d (.int j)]=>if -(2 ^ 62)<=j /\ j<=2 ^ 24 then resO bo (some (.lst ((List.range j.toNat).map λ(i:Nat)=>D.int (i:Int)))) bx1 else .bad
  |_=>.bad
theorem Gy {F:Hp}(n:Nat):DenL F ((List.range n).map λ(i:Nat)=>D.int (i:Int)) (ints0 n):=by
  have key:∀ l:List Nat,DenL F (l.map λ(i:Nat)=>D.int (i:Int)) (l.map λ(i:Nat)=>V.int (i:Int)):=by
    intro l;induction l with
    |nil=>exact rfl
    |cons i l ih=>exact .cons (show Den F (.int i) (.int i) from rfl) ih
  exact key _
theorem RS (bo:Bool) (hc:X.calm=true) (hg:Gl X "list") (hm:X.mg "list"=none) (hg2:Gl X "range") (hm2:X.mg "range"=none) (ha:PDA X T Z [a] ks) (hs:nst a=true:=by rfl):PD X T Z (.Call (.Name "list" p) [.Call (.Name "range" p2) [a] [] pos2] [] pos) (dLR bo ks):=by
  refine PE.imp (Bp hc hg hm hg2 hm2 ha hs) λσ H Q ⟨F,r,env,bx,R,h⟩=>?_;refine⟨F,r,env,bx,R,End.bind h λws bx1 F1 r1 vs H1 g1 R1 d1 h1=>?_⟩;split at h1
  . rename_i j;split at h1
    . rename_i hj;obtain⟨v,t,rfl,q1,q2⟩:=d1;cases (show t=[] from q2);cases (show v=.int j from q1);exact⟨j,rfl,hj.1,hj.2,λl hl=>gX R1 h1 ⟨l,_,rfl,hl,rfl,Gy _⟩⟩
    . exact h1.elim
  . exact h1.elim
theorem M6 {b:Expr}{x y:Str}{px py pt:Pos}{kt k2 pt2}(i j:Nat) (hc:X.calm=true) (hN:X.N.Nodup) (ha:PDA X T Z [a,b] ks) (hi:X.N[i]?=some x:=by rfl) (hj:X.N[j]?=some y:=by rfl) (hij:i≠j:=by decide)
    (hx:X.env.scope.names.lookup x=some .local:=by rfl) (hy:X.env.scope.names.lookup y=some .local:=by rfl)
    (hw:swappedStores [.Tuple [.Name x px,.Name y py] kt pt] (.Tuple [a,b] k2 pt2) X.env=pure (some [x,y]):=by rfl)
    (hs:swapsWithSole [.Tuple [.Name x px,.Name y py] kt pt] (.Tuple [a,b] k2 pt2) pos.line X.env=pure false:=by rfl) :
    PSD X T Z (.Assign [.Tuple [.Name x px,.Name y py] kt pt] (.Tuple [a,b] k2 pt2) pos) (sPar i j ks):=
  PS.imp (Op hc hN hi hj hij hx hy ha hw hs) λD σ H h=>Ry h
noncomputable def okV (N:List Str) (sc:Scope) (i:Nat) (x:Str):Bool:=decide (N[i]?=some x)&&(decide (sc.names.lookup x=some .local)||decide (sc.names.lookup x=some .cell)||decide (sc.names.lookup x=some .free))&&!(x==("__debug__":Str))&&!(x==("__classdict__":Str))
end
end L2.DL
namespace K1
open PySem PySem.Spec PyProof.Rows L2 L2.DL
noncomputable def Aa:DSt:=(fQ (gf (gK "int" (dV 0)) (dNotV (gK "bool" (dV 0)))))
noncomputable def ja:List W->List Bx->O W:=fnD 1 (noX Aa)
noncomputable def mZ:DSt:=(fQ (gf (fk K1.ja 1 (fc (dV 0) fe)) (d3 leD leD (dV 1) (dV 0) (dV 2))))
noncomputable def f9:List W->List Bx->O W:=fnD 3 (noX mZ)
noncomputable def Ab:DSt:=(fQ (gf (gK "tuple" (dV 0)) (d3 leD leD (dV 1) (dN false lenD (fc (dV 0) fe)) (dV 2))))
noncomputable def f7:List W->List Bx->O W:=fnD 3 (noX Ab)
noncomputable def m7:DSt:=(fQ (dN false allD (fc (fD false [none,some 0] (dRng2 (fc (dC (.int 1)) (fc (dN false lenD (fc (dV 0) fe)) fe))) (fg 0) fL (d2 false ltD (d2 false ixD (dV 1) (d2 false subD (dV 0) (dC (.int 1)))) (d2 false ixD (dV 1) (dV 0)))) fe)))
noncomputable def jy:List W->List Bx->O W:=fnD 1 (noX m7)
noncomputable def jb:DSt:=(fQ (gf (fk K1.f7 3 (fc (dV 0) (fc (dC (.int 1)) (fc (dC (.int 5)) fe)))) (dN false allD (fc (fD false [none] (dIter (dV 0)) (fg 0) fL (fk K1.f9 3 (fc (dV 0) (fc (dC (.int 0)) (fc (dC (.int 3)) fe))))) fe))))
noncomputable def iF:List W->List Bx->O W:=fnD 1 (noX jb)
noncomputable def jc:DSt:=(fG (sIf (dOr (dNot (dB (fk K1.f7 3 (fc (dV 0) (fc (d2 false fH (dC (.int 3)) (dC (.int 1))) (fc (d2 false fH (dC (.int 3)) (dC (.int 1))) fe)))))) (dNot (dB (dN false allD (fc (fD false [none] (dIter (dV 0)) (fg 0) fL (fk K1.f9 3 (fc (dV 0) (fc (dC (.int 0)) (fc (dC (.int 9)) fe))))) fe))))) (fQ (dC (.bl false))) sNil) (fQ (dN false allD (fc (fD false [none,none] (dZip (fc (dV 0) (fc (dSl false (dV 0) (dPart (dC (.int 1))) dNo) fe))) (jM 2 (gF (fg 0) (gF (fg 1) lY))) fL (d2 false leD (dV 1) (dV 0))) fe))))
noncomputable def jz:List W->List Bx->O W:=fnD 1 (noX jc)
noncomputable def lh:DSt:=(fQ (gf (fk K1.f7 3 (fc (dV 0) (fc (dC (.int 2)) (fc (dC (.int 2)) fe)))) (gf (fk K1.f9 3 (fc (d2 false ixD (dV 0) (dC (.int 0))) (fc (dC (.int 1)) (fc (dC (.int 999)) fe)))) (fk K1.jz 1 (fc (d2 false ixD (dV 0) (dC (.int 1))) fe)))))
noncomputable def lN:List W->List Bx->O W:=fnD 1 (noX lh)
noncomputable def jd:DSt:=(fQ (gf (fk K1.f7 3 (fc (dV 0) (fc (dC (.int 1)) (fc (dC (.int 4)) fe)))) (dN false allD (fc (fD false [none] (dIter (dV 0)) (fg 0) fL (fk K1.lN 1 (fc (dV 0) fe))) fe))))
noncomputable def iG:List W->List Bx->O W:=fnD 1 (noX jd)
noncomputable def gY:DSt:=(fG (sIf (dNot (dB (fk K1.f7 3 (fc (dV 0) (fc (dC (.int 2)) (fc (dC (.int 2)) fe)))))) (fQ (dC (.bl false))) sNil) (fQ (gf (dN false allD (fc (fD false [none,some 1] (dIter (dV 0)) (fg 0) fL (fk K1.f9 3 (fc (dV 0) (fc (dC (.int 0)) (fc (d2 false subD (dV 1) (dC (.int 1))) fe))))) fe)) (d2 false ltD (d2 false ixD (dV 0) (dC (.int 0))) (d2 false ixD (dV 0) (dC (.int 1)))))))
noncomputable def gT:List W->List Bx->O W:=fnD 2 (noX gY)
noncomputable def jf:DSt:=(fG (sIf (dNot (dB (gK "tuple" (dV 0)))) (fQ (dC (.bl false))) sNil) (fQ (gf (dN false allD (fc (fD false [none,some 1] (dIter (dV 0)) (fg 0) fL (fk K1.gT 2 (fc (dV 0) (fc (dV 1) fe)))) fe)) (fk K1.jy 1 (fc (dV 0) fe)))))
noncomputable def gG:List W->List Bx->O W:=fnD 2 (noX jf)
noncomputable def jA:DSt:=(fG (sIf (dNot (dB (fk K1.f7 3 (fc (dV 0) (fc (dC (.int 4)) (fc (dC (.int 4)) fe)))))) (fQ (dC (.bl false))) sNil) (fG (fP (dV 0) (jM 4 (gF (fg 1) (gF (fg 2) (gF (fg 3) (gF (fg 4) lY)))))) (fQ (gf (fk K1.iF 1 (fc (dV 1) fe)) (gf (fk K1.iG 1 (fc (dV 2) fe)) (gf (fk K1.gG 2 (fc (dV 3) (fc (dN false lenD (fc (dV 2) fe)) fe))) (fk K1.f9 3 (fc (dV 4) (fc (dC (.int 1)) (fc (dC (.int 9)) fe))))))))))
noncomputable def jT:List W->List Bx->O W:=fnD 5 (noX jA)
noncomputable def ji:DSt:=(fG (sIf (dB (d2 false ltD (dV 1) (dLenS (dV 0)))) (fQ (dIxS (dV 0) (dV 1))) sNil) (fQ (dC (.int 0))))
noncomputable def ic:List W->List Bx->O W:=fnD 2 (noX ji)
noncomputable def jq:DSt:=(fG (sIf (dB (d2 false geI (dV 0) (d2 false powD (dC (.int 10)) (dC (.int 18))))) (fQ (fN true (fc (d2 false subD (dV 0) (d2 false powD (dC (.int 10)) (dC (.int 18)))) fe))) sNil) (fG (fP (dC (.int 0)) (fg 1)) (fG (il (dRng1 (fc (dC (.int 64)) fe)) (fg 2) (fG (fP (d2 false modD (d2 false mulD (d2 false fH (d2 false fH (d2 false modD (dV 0) (dC (.int 2147483629))) (d2 false mulD (dC (.int 7919)) (dV 2))) (dC (.int 1))) (dC (.int 48271))) (dC (.int 2147483647))) (fg 3)) (fG (fP (d2 false modD (d2 false fH (d2 false fH (d2 false mulD (dV 3) (dV 3)) (d2 false mulD (dC (.int 69621)) (dV 2))) (dC (.int 7))) (dC (.int 2147483587))) (fg 3)) (fP (d2 false fH (d2 false mulD (dV 1) (dC (.int 2147483587))) (dV 3)) (fg 1))))) (fQ (fN true (fc (dV 1) fe))))))
noncomputable def jB:List W->List Bx->O W:=fnD 4 (noX jq)
noncomputable def Ac:DSt:=(fG (fP (d2 false modD (d2 false ixD (dV 0) (dC (.int 0))) (dV 1)) (fg 2)) (fG (fP (d2 false fdivD (d2 false ixD (dV 0) (dC (.int 0))) (dV 1)) (gdSub (dV 0) (dC (.int 0)))) (fQ (dV 2))))
noncomputable def fj:List W->List Bx->O W:=fnD 3 (noX Ac)
noncomputable def m8:DSt:=(fQ (gf (gK "int" (dV 0)) (dNotV (gK "bool" (dV 0)))))
noncomputable def gx:List W->List Bx->O W:=fnD 1 (noX m8)
noncomputable def AT:DSt:=(fG (fP (fN false (fc (dC .non) (fc (dC (.bl true)) (fc (dC (.bl false)) (fc (dNeg (dC (.int 1))) (fc (d2 false powD (dC (.int 10)) (dC (.int 30))) (fc (dC (.str "")) (fc (dC (.str "a")) (fc (dC (.str "1")) (fc (ge fe) (fc (fN false fe) (fc (dDic false []) (fc (fN false (fc (ge fe) fe)) (fc (ge (fc (ge fe) fe)) (fc (ge (fc (dC (.int 0)) fe)) (fc (fN false (fc (dC (.int 0)) fe)) (fc (dDic false [(.inl 0,.int 1)]) (fc (ge (fc (dC (.bl true)) (fc (dC (.bl true)) fe))) fe)))))))))))))))))) (fg 1)) (fQ (d2 false ixD (dV 1) (fk K1.fj 2 (fc (dV 0) (fc (dN false lenD (fc (dV 1) fe)) fe))))))
noncomputable def fR:List W->List Bx->O W:=fnD 2 (noX AT)
noncomputable def gC (rec:List W->List Bx->O W):DSt:=(fG (sIf (dNot (dB (gK "tuple" (dV 1)))) (fG (sIf (dAnd (dB (fk K1.gx 1 (fc (dV 1) fe))) (dB (d2 false gtI (fk K1.fj 2 (fc (dV 0) (fc (dC (.int 3)) fe))) (dC (.int 0))))) (fQ (d2 false fH (dV 1) (d2 false ixD (fN false (fc (dC (.int 1)) (fc (dNeg (dC (.int 1))) (fc (dC (.int 9)) (fc (dC (.int 100)) (fc (dC (.int 9999)) (fc (dNeg (d2 false powD (dC (.int 10)) (dC (.int 4)))) fe))))))) (fk K1.fj 2 (fc (dV 0) (fc (dC (.int 6)) fe)))))) sNil) (fQ (fk K1.fR 1 (fc (dV 0) fe)))) sNil) (fG (fP (fk K1.fj 2 (fc (dV 0) (fc (dC (.int 12)) fe))) (fg 2)) (fG (sIf (dOr (dB (d2 false eqD (dV 2) (dC (.int 0)))) (dB (d2 false eqD (dV 1) (ge fe)))) (fQ (d2 false ixD (fN false (fc (fk K1.fR 1 (fc (dV 0) fe)) (fc (dN false listD (fc (dV 1) fe)) (fc (d2 false fH (dV 1) (ge (fc (fk K1.fR 1 (fc (dV 0) fe)) fe))) (fc (d2 false fH (dV 1) (dSl false (dV 1) (dPart (dNeg (dC (.int 1)))) dNo)) fe))))) (fk K1.fj 2 (fc (dV 0) (fc (dC (.int 4)) fe))))) sNil) (fG (fP (fk K1.fj 2 (fc (dV 0) (fc (dN false lenD (fc (dV 1) fe)) fe))) (fg 3)) (fG (sIf (dB (d2 false eqD (dV 2) (dC (.int 1)))) (fQ (d2 false fH (dSl false (dV 1) dNo (dPart (dV 3))) (dSl false (dV 1) (dPart (d2 false fH (dV 3) (dC (.int 1)))) dNo))) sNil) (fG (sIf (dB (d2 false eqD (dV 2) (dC (.int 2)))) (fQ (d2 false fH (d2 false fH (dSl false (dV 1) dNo (dPart (dV 3))) (dSl false (dV 1) (dPart (dV 3)) (dPart (d2 false fH (dV 3) (dC (.int 1)))))) (dSl false (dV 1) (dPart (dV 3)) dNo))) sNil) (fQ (d2 false fH (d2 false fH (dSl false (dV 1) dNo (dPart (dV 3))) (ge (fc (fk rec 2 (fc (dV 0) (fc (d2 false ixD (dV 1) (dV 3)) fe))) fe))) (dSl false (dV 1) (dPart (d2 false fH (dV 3) (dC (.int 1)))) dNo)))))))))
noncomputable def f8:Nat->List W->List Bx->O W
  |0=>λ_ _=>.bad
  |i+1=>fnD 4 (noX (gC (f8 i)))
end K1
namespace K2
open PySem PySem.Spec PyProof.Rows L2 L2.DL
noncomputable def iH:DSt:=(sIf (dNot (dB (fk K1.jT 1 (fc (dV 0) fe)))) (sRaise 0 (dC (.str "a house is a tuple (rooms, kinds, apart, hold)"))) sNil)
noncomputable def jj:List W->List Bx->O W:=fnD 1 iH
noncomputable def Gz:DSt:=(fQ (fk K1.f9 3 (fc (dV 1) (fc (dC (.int 0)) (fc (d2 false subD (dN false lenD (fc (d2 false ixD (dV 0) (dC (.int 0))) fe)) (dC (.int 1))) fe)))))
noncomputable def gM:List W->List Bx->O W:=fnD 2 (noX Gz)
end K2
namespace L2.DL
open PySem PySem.Spec PyProof.Rows
section
variable {α β : Type}
@[simp] theorem fZ {a:α}{bx:List Bx}{k:α->List Bx->O β}:fA (.val a bx) k=k a bx:=rfl
@[simp] theorem SJ {k:α->List Bx->O β}:fA .bad k=.bad:=rfl
@[simp] theorem AC {a:α}{bx:List Bx}{k:α->List Bx->OS}:bindS (.val a bx) k=k a bx:=rfl
@[simp] theorem SK {k:α->List Bx->OS}:bindS (.bad:O α) k=.bad:=rfl
@[simp] theorem Dm {a:α}{bx:List Bx}{k:α->List Bx->O β}:bindB (.val a bx) k=k a bx:=rfl
end
section
variable {env : DEnv} {bx : List Bx}
@[simp] theorem Pv {i:Nat}:dV i env bx=match env[i]? with|some (some w)=>.val w bx|_=>.bad:=rfl
@[simp] theorem RT {d:D}:dC d env bx=.val (.d d) bx:=rfl
@[simp] theorem Do:fe env bx=.val [] bx:=rfl
@[simp] theorem oA {m:DE W}{k:DE (List W)}:fc m k env bx=fA (m env bx) λw bx1=>fA (k env bx1) λl bx2=>.val (w::l) bx2:=rfl
@[simp] theorem oB {fn:List W->List Bx->O W}{n:Nat}{k:DE (List W)}:fk fn n k env bx=fA (k env bx) λws bx1=>if ws.length=n then fn ws bx1 else .bad:=rfl
@[simp] theorem Sr {m:DE W}:dB m env bx=fA (m env bx) λw bx1=>match w with|.d (.bl k)=>.val k bx1|_=>.bad:=rfl
@[simp] theorem Ss {m k:DE Bool}:dAnd m k env bx=fA (m env bx) λb bx1=>match b with|true=>k env bx1|false=>.val false bx1:=rfl
@[simp] theorem N2 {m k:DE Bool}:dOr m k env bx=fA (m env bx) λb bx1=>match b with|true=>.val true bx1|false=>k env bx1:=rfl
@[simp] theorem Pw {m:DE Bool}:dNot m env bx=fA (m env bx) λb bx1=>.val (!b) bx1:=rfl
@[simp] theorem Fk {m k:DE W}:gf m k env bx=fA (m env bx) λw bx1=>match w with|.d (.bl true)=>k env bx1|.d (.bl false)=>.val (.d (.bl false)) bx1|_=>.bad:=rfl
@[simp] theorem Su {m k:DE W}:dOrV m k env bx=fA (m env bx) λw bx1=>match w with|.d (.bl true)=>.val (.d (.bl true)) bx1|.d (.bl false)=>k env bx1|_=>.bad:=rfl
@[simp] theorem Si {m:DE W}:dNotV m env bx=fA (m env bx) λw bx1=>match w with|.d (.bl k)=>.val (.d (.bl (!k))) bx1|_=>.bad:=rfl
@[simp] theorem M7:fL env bx=.val true bx:=rfl
@[simp] theorem Sj {n:String}{m:DE W}:gK n m env bx=fA (m env bx) λw bx1=>match rdW bx1 w with|some d=>.val (.d (.bl (subT (tyN d) n))) bx1|none=>.bad:=rfl
@[simp] theorem M8 {b:Bool}{g:D->D->Option Res}{ma mb:DE W}:d2 b g ma mb env bx=fA (ma env bx) λx bx1=>fA (mb env bx1) λy bx2=>resO b ((rdW bx2 x).bind λp=>(rdW bx2 y).bind λq=>g p q) bx2:=rfl
@[simp] theorem JY {b:Bool}{g:List D->Option Res}{k:DE (List W)}:dN b g k env bx=fA (k env bx) λws bx1=>resO b ((rdWs bx1 ws).bind g) bx1:=rfl
@[simp] theorem Sv {g g':D->D->Option Res}{ma mb mc:DE W}:d3 g g' ma mb mc env bx=fA (ma env bx) λx bx1=>fA (mb env bx1) λy bx2 =>
  fA (resO false ((rdW bx2 x).bind λp=>(rdW bx2 y).bind λq=>g p q) bx2) λz bx3=>match z with
    |.d (.bl true)=>fA (mc env bx3) λw bx4=>resO false ((rdW bx4 y).bind λp=>(rdW bx4 w).bind λq=>g' p q) bx4
    |.d (.bl false)=>.val (.d (.bl false)) bx3
    |_=>.bad:=rfl
@[simp] theorem m9 {d:D}:rdW bx (.d d)=some d:=rfl
@[simp] theorem Cn:rdWs bx []=some []:=rfl
@[simp] theorem Dp {d:D}{l:List W}:rdWs bx (.d d::l)=(rdWs bx l).map λt=>d::t:=by
  simp only[rdWs,m9];cases rdWs bx l<;>rfl
@[simp] theorem Rm {b:Bool}:resO b none bx=.bad:=rfl
@[simp] theorem im {q:Res}:resO false (some q) bx=.val (.d q.toD) bx:=by cases q<;>rfl
@[simp] theorem Sw {l:List D}:resO true (some (.lst l)) bx=.val (.b bx.length) (bx++[.lst l]):=rfl
@[simp] theorem oC {d:D}:(Res.old d).toD=d:=rfl
@[simp] theorem M9 {l:List D}:(Res.tup l).toD=.tup l:=rfl
@[simp] theorem oD {l:List D}:(Res.lst l).toD=.lst l:=rfl
@[simp] theorem Sk {l:List (Key×D)}:(Res.dic l).toD=.dic l:=rfl
@[simp] theorem Sx:sNil env bx=.nx env bx:=rfl
@[simp] theorem Bq {m k:DSt}:fG m k env bx=match m env bx with|.nx env1 bx1=>k env1 bx1|o=>o:=rfl
@[simp] theorem Fl {m:DE W}:iB m env bx=bindS (m env bx) λ_ bx1=>.nx env bx1:=rfl
@[simp] theorem Br {m:DE W}:fQ m env bx=bindS (m env bx) λw bx1=>.rt w bx1:=rfl
@[simp] theorem JZ {t:DE Bool}{m k:DSt}:sIf t m k env bx=bindS (t env bx) λb bx1=>match b with|true=>m env bx1|false=>k env bx1:=rfl
@[simp] theorem J0 {m:DE W}{g:DG}:fP m g env bx=bindS (m env bx) λw bx1=>match g w env bx1 with|some (env1,bx2)=>.nx env1 bx2|none=>.bad:=rfl
@[simp] theorem Px {m:DE (List W)}{g:DG}{body:DSt}:il m g body env bx=bindS (m env bx) λds bx1=>forD g body ds env bx1:=rfl
@[simp] theorem J1 {i:Nat}{w:W}:fg i w env bx=some (env.set i (some w),bx):=rfl
@[simp] theorem Sl:lY [] env bx=some (env,bx):=rfl
@[simp] theorem RU {g:DG}{k:DGs}{w:W}{l:List W}:gF g k (w::l) env bx=(g w env bx).bind λ(env1,bx1)=>k l env1 bx1:=rfl
@[simp] theorem Sn {n:Nat}{k:DGs}{l:List D}:jM n k (.d (.tup l)) env bx=if l.length=n then k (l.map W.d) env bx else none:=rfl
@[simp] theorem Bs {bo:Bool}{src:List (Option Nat)}{mi:DE (List W)}{g:DG}{tf:DE Bool}{te:DE W}:fD bo src mi g tf te env bx=fA (mi env bx) λds bx1=>fA (compD g tf te ds (srcEnv src env) bx1 []) λl bx2=>resO bo (some (.lst l)) bx2:=rfl
@[simp] theorem Dq:srcEnv [] env=[]:=rfl
@[simp] theorem Co {l:List (Option Nat)}:srcEnv (none::l) env=none::srcEnv l env:=rfl
@[simp] theorem Cp {i:Nat}{l:List (Option Nat)}:srcEnv (some i::l) env=((env[i]?).bind id)::srcEnv l env:=rfl
@[simp] theorem Fm {m:DE W}:dIter m env bx=fA (m env bx) λw bx1=>match w with|.d (.lst l)=>.val (l.map W.d) bx1|.d (.tup l)=>.val (l.map W.d) bx1|_=>.bad:=rfl
@[simp] theorem Py {k:DE (List W)}:ge k env bx=fA (k env bx) λws bx1=>resO false ((dsOf ws).bind λl=>if l.length<=sizeLine then some (.tup l) else none) bx1:=rfl
@[simp] theorem J2 {bo:Bool}{k:DE (List W)}:fN bo k env bx=fA (k env bx) λws bx1=>resO bo ((dsOf ws).bind λl=>if l.length<=sizeLine then some (.lst l) else none) bx1:=rfl
@[simp] theorem RV:dsOf []=some []:=rfl
@[simp] theorem Pz {d:D}{l:List W}:dsOf (.d d::l)=(dsOf l).map λt=>d::t:=rfl
@[simp] theorem PB {m:DE W}:dNeg m env bx=fA (m env bx) λw bx1=>match w with|.d (.int i)=>.val (.d (.int (-i))) bx1|_=>.bad:=rfl
@[simp] theorem N3 {bo:Bool}{m:DE W}{l u:DE (Option Int)}:dSl bo m l u env bx=fA (m env bx) λx bx1=>fA (l env bx1) λi bx2=>fA (u env bx2) λj bx3=>resO bo ((rdW bx3 x).bind λd=>slD d i j) bx3:=rfl
@[simp] theorem SI:dNo env bx=.val none bx:=rfl
@[simp] theorem Na {m:DE W}:dPart m env bx=fA (m env bx) λw bx1=>match w with|.d (.int i)=>.val (some i) bx1|_=>.bad:=rfl
@[simp] theorem Sy {bo:Bool}{m:DE W}:dRev bo m env bx=fA (m env bx) λx bx1=>resO bo ((rdW bx1 x).bind λd=>match d with|.lst l=>some (.lst l.reverse)|.tup l=>some (.tup l.reverse)|_=>none) bx1:=rfl
theorem gE {n:Nat}{m:DSt}{ws:List W}{d:D}(h:m (ws.map some++List.replicate (n-ws.length) none) bx=.rt (.d d) bx):fnD n (noX m) ws bx=.val (.d d) bx:=by
  simp only[fnD,noX,DL.envOf,h,retO,cutO,List.take_length]
end
end L2.DL
namespace K1
open PySem PySem.Spec PyProof.Rows L2 L2.DL
noncomputable def wh:D->Bool
  |.int _=>true
  |_=>false
noncomputable def wi (d:D) (lo hi:Int):Bool:=match d with
  |.int i=>decide (lo<=i)&&decide (i<=hi)
  |_=>false
noncomputable def tl (d:D) (lo hi:Int):Bool:=match d with
  |.tup l=>decide (lo<=(l.length:Int))&&decide ((l.length:Int)<=hi)
  |_=>false
theorem J3 (d:D):subT (tyN d) "int"=(match d with|.int _=>true|.bl _=>true|_=>false):=by cases d<;>rfl
theorem Fn (d:D):subT (tyN d) "bool"=(match d with|.bl _=>true|_=>false):=by cases d<;>rfl
theorem Ds (d:D):subT (tyN d) "tuple"=(match d with|.tup _=>true|_=>false):=by cases d<;>rfl
theorem Ad (d:D) (bx:List Bx):ja [.d d] bx=.val (.d (.bl (wh d))) bx :=
  gE (by cases d<;>simp[Aa,J3,Fn,wh])
theorem AU (d:D) (bx:List Bx):gx [.d d] bx=.val (.d (.bl (wh d))) bx :=
  gE (by cases d<;>simp[m8,J3,Fn,wh])
theorem iP (d:D) (lo hi:Int) (bx:List Bx):f9 [.d d,.d (.int lo),.d (.int hi)] bx=.val (.d (.bl (wi d lo hi))) bx :=
  gE (by
    cases d<;>simp[mZ,Ad,wh,wi,leD];rename_i i;by_cases h:lo<=i<;>simp[h])
theorem fV (d:D) (lo hi:Int) (bx:List Bx):f7 [.d d,.d (.int lo),.d (.int hi)] bx=.val (.d (.bl (tl d lo hi))) bx :=
  gE (by
    cases d<;>simp[Ab,Ds,tl,leD,lenD];rename_i l;by_cases h:lo<=(l.length:Int)<;>simp[h])
theorem Bt {g:DG}{tf:DE Bool}{te:DE W}(J:DEnv->Prop) (p:D->Bool) (f:D->D) {bx:List Bx}:∀ (l:List D) (env:DEnv) (acc:List D),J env ->
    (∀ d∈l,∀ env,J env->∃ env',g (.d d) env bx=some (env',bx) /\ J env' /\ tf env' bx=.val (p d) bx /\ (p d=true->te env' bx=.val (.d (f d)) bx))->acc.length+l.length<=sizeLine ->
    compD g tf te (l.map W.d) env bx acc=.val (acc++(l.filter p).map f) bx
  |[],env,acc,_,_,_=>by simp[compD]
  | d::l,env,acc,j,h,n=>by
    obtain⟨env',e1,j',e2,e3⟩:=h d (List.mem_cons_self ..) env j;have n':acc.length<sizeLine:=by simp only[List.length_cons]at n;omega
    simp only[List.map_cons,compD,e1,e2,Dm];have h':=λx (m:x∈l)=>h x (List.mem_cons_of_mem _ m);cases q:p d with
    | false =>
      simp only[List.filter_cons,q];exact Bt J p f l env' acc j' h' (by simp only[List.length_cons]at n;omega)
    | true =>
      simp only[List.filter_cons,q,e3 q,Dm,if_pos n'];rw[Bt J p f l env' (acc++[f d]) j' h' (by simp only[List.length_append,List.length_cons,List.length_nil]at n ⊢;omega)];simp
theorem ie {g:DG}{te:DE W}(J:DEnv->Prop) (f:D->D) {bx:List Bx}{l:List D}{env:DEnv}(j:J env) (h:∀ d∈l,∀ env,J env->∃ env',g (.d d) env bx=some (env',bx) /\ J env' /\ te env' bx=.val (.d (f d)) bx) (n:l.length<=sizeLine) :
    compD g fL te (l.map W.d) env bx []=.val (l.map f) bx:=by
  rw[Bt (tf:=fL) J (λ_=>true) f l env [] j (λd m e je=>let ⟨e',a,b,c⟩:=h d m e je;⟨e',a,b,rfl,λ_=>c⟩) (by simpa using n)];rw[List.filter_eq_self.mpr (λ_ _=>rfl)];rfl
theorem J4 (l:List D) (p:D->Bool):bolsOf (l.map λd=>D.bl (p d))=some (l.map p):=by
  induction l with
  |nil=>rfl
  |cons d l ih=>simp[bolsOf,ih]
@[simp] theorem all_map (l:List D) (p:D->Bool):allD [.lst (l.map λd=>D.bl (p d))]=some (.old (.bl (l.all p))):=by
  simp[allD,J4,List.all_map]
noncomputable def rooms (d:D):Bool:=match d with
  |.tup l=>tl (.tup l) 1 5&&l.all λx=>wi x 0 3
  |_=>false
theorem sl5:(5:Nat)<=sizeLine:=by decide
theorem jU {l:List D}{lo hi:Int}(h:tl (.tup l) lo hi=true):lo<=(l.length:Int) /\ (l.length:Int)<=hi:=by simpa[tl] using h
theorem J5 (d:D) (bx:List Bx):iF [.d d] bx=.val (.d (.bl (rooms d))) bx :=
  gE (by
    cases d with
    | tup l =>
      cases h:tl (.tup l) 1 5 with
      |false=>simp[jb,fV,h,rooms]
      | true =>
        have n:=jU h;simp[jb,fV,h,rooms];rw[ie (λe=>∃ w,e=[w]) (λx=>.bl (wi x 0 3)) ⟨none,rfl⟩ (λx _ e ⟨w,je⟩=>⟨[some (.d x)],by simp[je],⟨_,rfl⟩,by simp[iP]⟩) (by have:=sl5;omega)];simp
    |_=>simp[jb,fV,tl,rooms])
noncomputable def fallD:List D->Bool
  |x::y::l=>(match x,y with|.int i,.int j=>decide (j<=i)|_,_=>false)&&fallD (y::l)
  |_=>true
noncomputable def rates (d:D):Bool:=match d with
  |.tup l=>tl (.tup l) 4 4&&(l.all (λx=>wi x 0 9)&&fallD l)
  |_=>false
theorem J6 (d:D) (bx:List Bx):jz [.d d] bx=.val (.d (.bl (rates d))) bx :=
  gE (by
    cases d with
    | tup l =>
      cases h:tl (.tup l) 4 4 with
      |false=>simp[jc,fV,h,rates,fH]
      | true =>
        have n:=jU h;simp[jc,fV,h,rates,fH];rw[ie (λe=>∃ w,e=[w]) (λx=>.bl (wi x 0 9)) ⟨none,rfl⟩ (λx _ e ⟨w,je⟩=>⟨[some (.d x)],by simp[je],⟨_,rfl⟩,by simp[iP]⟩) (by have:=sl5;omega)];simp;cases q:l.all λx=>wi x 0 9 with
        |false=>simp
        | true =>
          have l4:l.length=4:=by omega
          obtain⟨a,l,rfl⟩:∃ a t,l=a::t:=List.exists_cons_of_length_pos (by omega);obtain⟨b,l,rfl⟩:∃ a t,l=a::t:=List.exists_cons_of_length_pos (by simp at l4;omega);obtain⟨c,l,rfl⟩:∃ a t,l=a::t:=List.exists_cons_of_length_pos (by simp at l4;omega);obtain⟨e,l,rfl⟩:∃ a t,l=a::t:=List.exists_cons_of_length_pos (by simp at l4;omega);obtain rfl:l=[]:=by simpa using l4
          have isI:∀ x,wi x 0 9=true->∃ i,x=.int i:=λx hx=>by
            cases x<;>simp[wi]at hx;exact⟨_,rfl⟩
          simp at q;obtain⟨a,rfl⟩:=isI a q.1;obtain⟨b,rfl⟩:=isI b q.2.1;obtain⟨c,rfl⟩:=isI c q.2.2.1;obtain⟨e,rfl⟩:=isI e q.2.2.2;simp[dZip,slD,DL.cutD,HT.sIx,zipW,compD,leD,fallD,allD,bolsOf,sizeLine]
    |_=>simp[jc,fV,tl,rates,fH])
theorem tl2 {l:List D}(h:tl (.tup l) 2 2=true):∃ a b,l=[a,b]:=by
  have n:=jU h;obtain⟨a,l,rfl⟩:∃ a t,l=a::t:=List.exists_cons_of_length_pos (by omega);obtain⟨b,l,rfl⟩:∃ a t,l=a::t:=List.exists_cons_of_length_pos (by simp at n;omega);have:l.length=0:=by simp at n;omega
  exact⟨a,b,by rw[List.eq_nil_of_length_eq_zero this]⟩
theorem tl4 {l:List D}(h:tl (.tup l) 4 4=true):∃ a b c e,l=[a,b,c,e]:=by
  have n:=jU h;obtain⟨a,l,rfl⟩:∃ a t,l=a::t:=List.exists_cons_of_length_pos (by omega);obtain⟨b,l,rfl⟩:∃ a t,l=a::t:=List.exists_cons_of_length_pos (by simp at n;omega);obtain⟨c,l,rfl⟩:∃ a t,l=a::t:=List.exists_cons_of_length_pos (by simp at n;omega);obtain⟨e,l,rfl⟩:∃ a t,l=a::t:=List.exists_cons_of_length_pos (by simp at n;omega);have:l.length=0:=by simp at n;omega
  exact⟨a,b,c,e,by rw[List.eq_nil_of_length_eq_zero this]⟩
theorem lO {x:D}{lo hi:Int}(h:wi x lo hi=true):∃ i,x=.int i /\ lo<=i /\ i<=hi:=by
  cases x<;>simp[wi]at h;exact⟨_,rfl,h⟩
noncomputable def kind (d:D):Bool:=match d with
  |.tup l=>tl (.tup l) 2 2&&(match l with|[a,b]=>wi a 1 999&&rates b|_=>false)
  |_=>false
theorem Nb (d:D) (bx:List Bx):lN [.d d] bx=.val (.d (.bl (kind d))) bx :=
  gE (by
    cases d with
    | tup l =>
      cases h:tl (.tup l) 2 2 with
      |false=>simp[lh,fV,h,kind]
      | true =>
        obtain⟨a,b,rfl⟩:=tl2 h;simp[lh,fV,h,kind,ixD,atI,ixN,iP];cases q:wi a 1 999<;>simp[J6]
    |_=>simp[lh,fV,tl,kind])
noncomputable def kinds (d:D):Bool:=match d with
  |.tup l=>tl (.tup l) 1 4&&l.all kind
  |_=>false
theorem J7 (d:D) (bx:List Bx):iG [.d d] bx=.val (.d (.bl (kinds d))) bx :=
  gE (by
    cases d with
    | tup l =>
      cases h:tl (.tup l) 1 4 with
      |false=>simp[jd,fV,h,kinds]
      | true =>
        have n:=jU h;simp[jd,fV,h,kinds];rw[ie (λe=>∃ w,e=[w]) (λx=>.bl (kind x)) ⟨none,rfl⟩ (λx _ e ⟨w,je⟩=>⟨[some (.d x)],by simp[je],⟨_,rfl⟩,by simp[Nb]⟩) (by have:=sl5;omega)];simp
    |_=>simp[jd,fV,tl,kinds])
noncomputable def pairA (n:Int) (d:D):Bool:=match d with
  |.tup l=>tl (.tup l) 2 2&&(match l with|[.int a,.int b]=>decide (0<=a)&&decide (a<b)&&decide (b<=n-1)|_=>false)
  |_=>false
theorem J8 (d:D) (n:Int) (bx:List Bx):gT [.d d,.d (.int n)] bx=.val (.d (.bl (pairA n d))) bx :=
  gE (by
    cases d with
    | tup l =>
      cases h:tl (.tup l) 2 2 with
      |false=>simp[gY,fV,h,pairA]
      | true =>
        obtain⟨a,b,rfl⟩:=tl2 h;simp[gY,fV,h,pairA,ixD,atI,ixN];have c:=ie (g:=fg 0) (te:=fk f9 3 (fc (dV 0) (fc (dC (.int 0)) (fc (d2 false subD (dV 1) (dC (.int 1))) fe)))) (bx:=bx) (l:=[a,b]) (λe=>∃ w,e=[w,some (.d (.int n))]) (λx=>.bl (wi x 0 (n-1))) ⟨none,rfl⟩ (λx _ e ⟨w,je⟩=>⟨[some (.d x),some (.d (.int n))],by simp[je],⟨_,rfl⟩,by simp[iP,subD]⟩) (show (2:Nat)<=sizeLine by decide);simp only[List.map_cons,List.map_nil]at c;rw[c];have e:=all_map [a,b] λx=>wi x 0 (n-1);simp only[List.map_cons,List.map_nil]at e;simp[e];cases q1:wi a 0 (n-1) with
        | false =>
          cases a<;>cases b<;>simp[wi]at q1 ⊢;omega
        | true =>
          cases q2:wi b 0 (n-1) with
          | false =>
            obtain⟨i,rfl,i1,i2⟩:=lO q1;cases b<;>simp[wi]at q2 ⊢;omega
          | true =>
            obtain⟨i,rfl,i1,i2⟩:=lO q1;obtain⟨j,rfl,j1,j2⟩:=lO q2;simp[ltD,i1,j2]
    |_=>simp[gY,fV,tl,pairA])
noncomputable abbrev dP (p:Int×Int):D:=.tup [.int p.1,.int p.2]
noncomputable def ltP (p q:Int×Int):Bool:=HT.lexLt [p.1,p.2] [q.1,q.2]
theorem J9 {n:Int}{d:D}(h:pairA n d=true):∃ p:Int×Int,d=dP p /\ 0<=p.1 /\ p.1<p.2 /\ p.2<=n-1:=by
  cases d with
  | tup l =>
    simp only[pairA,zA]at h;obtain⟨a,b,rfl⟩:=tl2 h.1;have h2:=h.2;cases a<;>cases b<;>simp at h2;exact⟨(_,_),rfl,h2.1.1,h2.1.2,h2.2⟩
  |_=>simp[pairA]at h
theorem Cq {n:Int}:∀ {l:List D},l.all (pairA n)=true->∃ ps:List (Int×Int),l=ps.map dP /\ ∀ p∈ps,0<=p.1 /\ p.1<p.2 /\ p.2<=n-1
  |[],_=>⟨[],rfl,λp m=>by cases m⟩
  | d::l,h=>by
    simp only[List.all_cons,zA]at h;obtain⟨p,rfl,hp⟩:=J9 h.1;obtain⟨ps,rfl,hs⟩:=Cq h.2;exact⟨p::ps,rfl,λq m=>by
      rcases List.mem_cons.mp m with rfl|m
      . exact hp
      . exact hs q m⟩
noncomputable def incr:List (Int×Int)->Bool
  |p::q::r=>ltP p q&&incr (q::r)
  |_=>true
theorem Ae:∀ ps:List (Int×Int),incr ps=(List.range (ps.length-1)).all λi=>ltP (ps.getD i (0,0)) (ps.getD (i+1) (0,0))
  |[]=>rfl
  |[p]=>rfl
  | p::q::r=>by
    rw[incr,Ae (q::r)];simp only[List.length_cons,Nat.add_sub_cancel];rw[List.range_succ_eq_map,List.all_cons,List.all_map];rfl
theorem Fo {ps:List (Int×Int)}{i:Nat}(h:i<ps.length):atI (ps.map dP) (i:Int)=some (dP (ps.getD i (0,0))):=by
  unfold atI ixN;simp[h,List.getD]
theorem La {k:DE (List W)}{env:DEnv}{bx bx1:List Bx}{i j:Int}(e:k env bx=.val [.d (.int i),.d (.int j)] bx1) (h:(-(2 ^ 62)<=i /\ i<2 ^ 62) /\ -(2 ^ 62)<=j /\ j<2 ^ 62):dRng2 k env bx=.val (fv i (j-i).toNat) bx1:=by
  unfold dRng2;rw[e,fZ];exact if_pos h
theorem io {k:DE (List W)}{env:DEnv}{bx bx1:List Bx}{j:Int}(e:k env bx=.val [.d (.int j)] bx1) (h:-(2 ^ 62)<=j /\ j<2 ^ 62):dRng1 k env bx=.val (fv 0 j.toNat) bx1:=by
  unfold dRng1;rw[e,fZ];exact if_pos h
theorem Fp (lo:Int) (n:Nat):fv lo n=((List.range n).map λ(i:Nat)=>D.int (lo+(i:Int))).map W.d:=by
  unfold fv;rw[List.map_map];rfl
theorem GA (ps:List (Int×Int)) (n:ps.length<=sizeLine) (bx:List Bx):jy [.d (.tup (ps.map dP))] bx=.val (.d (.bl (incr ps))) bx :=
  gE (by
    have s2:sizeLine=16777216:=sizeLine_eq;have r:dRng2 (fc (dC (.int 1)) (fc (dN false lenD (fc (dV 0) fe)) fe)) [some (.d (.tup (ps.map dP)))] bx=.val (fv 1 (((ps.length:Nat):Int)-1).toNat) bx:=La (by simp[lenD]) (by omega);simp only[m7,Br,JY,oA,Bs,List.map_cons,List.map_nil,List.length_cons,List.length_nil,Nat.sub_self,List.replicate_zero,List.append_nil,r,fZ,Fp,Co,Cp,Dq,List.getElem?_cons_zero,Option.bind_some,id];rw[ie (λe=>∃ w,e=[w,some (.d (.tup (ps.map dP)))]) (λx=>.bl (match x with|.int i=>ltP (ps.getD (i.toNat-1) (0,0)) (ps.getD i.toNat (0,0))|_=>false)) ⟨none,rfl⟩ ?_ (by rw[List.length_map,List.length_range];omega)]
    . simp only[fZ,Do,im,oD,Dp,Cn,Option.map_some,Option.bind_some];rw[all_map,im,oC,AC,List.all_map,show ((ps.length:Int)-1).toNat=ps.length-1 by omega];have z:((λx:D=>match x with|.int i=>ltP (ps.getD (i.toNat-1) (0,0)) (ps.getD i.toNat (0,0))|_=>false)∘λ(i:Nat)=>D.int (1+(i:Int)))=λi=>ltP (ps.getD i (0,0)) (ps.getD (i+1) (0,0)):=by
        funext i;show ltP (ps.getD ((1+(i:Int)).toNat-1) (0,0)) (ps.getD (1+(i:Int)).toNat (0,0))=_;rw[show (1+(i:Int)).toNat=i+1 by omega,Nat.add_sub_cancel]
      rw[z,<-Ae]
    . intro x m e ⟨w,je⟩;obtain⟨i,mi,rfl⟩:=List.mem_map.mp m;have hi:i<((ps.length:Int)-1).toNat:=List.mem_range.mp mi;refine⟨[some (.d (.int (1+(i:Int)))),some (.d (.tup (ps.map dP)))],by simp[je],⟨_,rfl⟩,?_⟩;have a1:=Fo (ps:=ps) (i:=i) (by omega);have a2:=Fo (ps:=ps) (i:=i+1) (by omega);rw[show ((i+1:Nat):Int)=1+(i:Int) by omega]at a2;simp only[M8,Pv,RT,List.getElem?_cons_zero,List.getElem?_cons_succ,fZ,m9,Option.bind_some,ixD,subD,im,oC,show 1+(i:Int)-1=(i:Int) by omega,a1,a2,Option.map_some,ltD,dP,intsOf];rw[show (1+(i:Int)).toNat=i+1 by omega];rfl)
noncomputable def toP:D->Option (Int×Int)
  |.tup [.int a,.int b]=>some (a,b)
  |_=>none
theorem Fq (ps:List (Int×Int)):(ps.map dP).filterMap toP=ps:=by
  induction ps with
  |nil=>rfl
  |cons p ps ih=>rw[List.map_cons,List.filterMap_cons,ih];rfl
noncomputable def apart (n:Int) (d:D):Bool:=match d with
  |.tup l=>l.all (pairA n)&&incr (l.filterMap toP)
  |_=>false
def short (d:D):Prop:=match d with
  |.tup l=>l.length<=sizeLine
  |_=>True
theorem Dt (l:List D) (n:Int) (h':l.length<=sizeLine) (bx:List Bx):compD (fg 0) fL (fk gT 2 (fc (dV 0) (fc (dV 1) fe))) (l.map W.d) [none,some (.d (.int n))] bx []=.val (l.map λx=>.bl (pairA n x)) bx :=
  ie (λe=>∃ w,e=[w,some (.d (.int n))]) (λx=>.bl (pairA n x)) ⟨none,rfl⟩ (λx _ e ⟨w,je⟩=>⟨[some (.d x),some (.d (.int n))],by simp[je],⟨_,rfl⟩,by simp[J8]⟩) h'
theorem GB (d:D) (n:Int) (bx:List Bx) (h:∀ l,d≠.tup l):gG [.d d,.d (.int n)] bx=.val (.d (.bl (apart n d))) bx :=
  gE (by
    cases d with
    |tup l=>exact absurd rfl (h l)
    |_=>simp[jf,Ds,apart])
theorem GC {fp:List W->List Bx->O W}{l:List D}{n:Int}{bx:List Bx}(c:compD (fg 0) fL (fk fp 2 (fc (dV 0) (fc (dV 1) fe))) (l.map W.d) [none,some (.d (.int n))] bx []=.val (l.map λx=>.bl (pairA n x)) bx) :
    dN false allD (fc (fD false [none,some 1] (dIter (dV 0)) (fg 0) fL (fk fp 2 (fc (dV 0) (fc (dV 1) fe)))) fe) [some (.d (.tup l)),some (.d (.int n))] bx=.val (.d (.bl (l.all (pairA n)))) bx:=by
  have i:dIter (dV 0) [some (.d (.tup l)),some (.d (.int n))] bx=.val (l.map W.d) bx:=rfl;rw[JY,oA,Bs,i,fZ,show srcEnv [none,some 1] [some (W.d (.tup l)),some (W.d (.int n))]=[none,some (W.d (.int n))] from rfl,c,fZ,im,fZ,Do,fZ,fZ,Dp,Cn,Option.map_some,Option.bind_some,oD,all_map,im,oC]
theorem Nc {m k:DE W}{env:DEnv}{bx bx1:List Bx}{b:Bool}(h:m env bx=.val (.d (.bl b)) bx1):gf m k env bx=if b then k env bx1 else .val (.d (.bl false)) bx1:=by
  rw[Fk,h];cases b<;>rfl
theorem PC {t:DE Bool}{m k:DSt}{env:DEnv}{bx:List Bx}(h:t env bx=.val false bx):fG (sIf t m sNil) k env bx=k env bx:=by
  rw[Bq,JZ,h];rfl
theorem PH {l:List D}{w:Option W}{bx:List Bx}:dNot (dB (gK "tuple" (dV 0))) [some (.d (.tup l)),w] bx=.val false bx:=by
  simp[Ds]
theorem GD (l:List D) (n:Int) (bx:List Bx) (h':l.length<=sizeLine):gG [.d (.tup l),.d (.int n)] bx=.val (.d (.bl (apart n (.tup l)))) bx:=by
  have e1:=GC (Dt l n h' bx);refine gE ?_;show jf [some (.d (.tup l)),some (.d (.int n))] bx=OS.rt (.d (.bl (l.all (pairA n)&&incr (l.filterMap toP)))) bx;unfold jf;rw[PC PH,Br,Nc e1];cases q:l.all (pairA n) with
  |false=>rfl
  | true =>
    obtain⟨ps,e,_⟩:=Cq q;subst e;have r:=GA ps (by rw[List.length_map]at h';exact h') bx;rw[if_pos rfl,oB,oA,show dV 0 [some (W.d (.tup (ps.map dP))),some (W.d (.int n))] bx=.val (.d (.tup (ps.map dP))) bx from rfl,fZ,Do,fZ,fZ,if_pos (show [W.d (D.tup (ps.map dP))].length=1 from rfl),r,AC,Fq,Bool.true_and]
theorem Lb (d:D) (n:Int) (h:short d) (bx:List Bx):gG [.d d,.d (.int n)] bx=.val (.d (.bl (apart n d))) bx:=by
  cases d with
  |tup l=>exact GD l n bx (by simpa only[short] using h)
  |_=>exact GB _ n bx (λl e=>by cases e)
noncomputable def lenOf:D->Int
  |.tup l=>l.length
  |_=>0
noncomputable def house (d:D):Bool:=match d with
  |.tup [r,k,p,h]=>rooms r&&(kinds k&&(apart (lenOf k) p&&wi h 1 9))
  |_=>false
def okH (d:D):Prop:=match d with
  |.tup [_,_,p,_]=>short p
  |_=>True
theorem GE {k:D}(h:kinds k=true):∃ l,k=.tup l:=by
  cases k with
  |tup l=>exact⟨l,rfl⟩
  |_=>simp[kinds]at h
theorem Lc (d:D) (ok:okH d) (bx:List Bx):jT [.d d] bx=.val (.d (.bl (house d))) bx :=
  gE (by
    cases d with
    | tup l =>
      cases t:tl (.tup l) 4 4 with
      | false =>
        have e:house (.tup l)=false:=by
          unfold house;split
          . rename_i q;cases q;simp[tl]at t
          . rfl
        simp[jA,fV,t,e]
      | true =>
        obtain⟨r,k,p,h,rfl⟩:=tl4 t;have e1:=fV (.tup [r,k,p,h]) 4 4 bx;have e2:=J5 r bx;have e3:=J7 k bx;have e4:∀ n:Int,gG [.d p,.d (.int n)] bx=.val (.d (.bl (apart n p))) bx:=λn=>Lb p n (by simpa only[okH] using ok) bx;have e5:=iP h 1 9 bx;rw[t]at e1;unfold jA;generalize f7=f1 at e1 ⊢;generalize iF=f2 at e2 ⊢;generalize iG=f3 at e3 ⊢;generalize gG=f4 at e4 ⊢;generalize f9=f5 at e5 ⊢;simp[e1,e2,house];cases q1:rooms r with
        |false=>simp
        | true =>
          simp[e3];cases q2:kinds k with
          |false=>simp
          | true =>
            obtain⟨l,rfl⟩:=GE q2;simp[lenD,e4,lenOf];cases q3:apart (l.length:Int) p<;>simp[e5]
    |_=>simp[jA,fV,tl,house])
theorem jr:∀ ns:List Int,intsOf (ns.map D.int)=some ns
  |[]=>rfl
  |n::ns=>by rw[List.map_cons,intsOf,jr ns];rfl
theorem Fs:∀ ns:List Int,fallD (ns.map D.int)=true ↔ ns.Pairwise (λa b=>b<=a)
  |[]=>by simp[fallD]
  |[x]=>by simp[fallD]
  | x::y::l=>by
    have ih:=Fs (y::l);simp only[List.map_cons]at ih ⊢;simp only[fallD,zA,decide_eq_true_eq,ih];constructor
    . intro ⟨h,p⟩;refine List.pairwise_cons.mpr ⟨λz m=>?_,p⟩;rcases List.mem_cons.mp m with rfl|m
      . exact h
      . exact Int.le_trans ((List.pairwise_cons.mp p).1 z m) h
    . intro p;have q:=List.pairwise_cons.mp p;exact⟨q.1 y (List.mem_cons_self ..),q.2⟩
theorem Cr {lo hi:Int}:∀ {l:List D},(l.all λx=>wi x lo hi)=true->∃ ns:List Int,l=ns.map D.int
  |[],_=>⟨[],rfl⟩
  | d::l,h=>by
    simp only[List.all_cons,zA]at h;obtain⟨i,rfl,_⟩:=lO h.1;obtain⟨ns,rfl⟩:=Cr h.2;exact⟨i::ns,rfl⟩
noncomputable def isT:D->Bool
  |.tup _=>true
  |_=>false
theorem jV (d:D):subT (tyN d) "tuple"=isT d:=by cases d<;>rfl
theorem PJ {r:D}(h:isT r=true):∃ l,r=.tup l:=by
  cases r with
  |tup l=>exact⟨l,rfl⟩
  |_=>simp[isT]at h
end K1
namespace L2.DL
open PySem PySem.Spec PyProof.Rows
noncomputable def kwt:Key->Nat
  |.inl _=>1921
  |.inr x=>(reprText x).length
mutual
noncomputable def wt:D->Nat
  |.non=>4
  |.bl _=>5
  |.int _=>1921
  |.str x=>(reprText x).length
  |.tup l=>3+wts l
  |.lst l=>3+wts l
  |.dic l=>3+wtk l
noncomputable def wts:List D->Nat
  |[]=>0
  |d::l=>wt d+2+wts l
noncomputable def wtk:List (Key×D)->Nat
  |[]=>0
  |(k,d)::l=>kwt k+wt d+4+wtk l
end
theorem Ft (ts:List Str):(Str.join ", " ts).length<=piled ts:=by
  by_cases h:ts=[]
  . subst h;exact zL _
  . have:=join_length_add ts h;omega
theorem Bu (ts:List Str):(tupleText ts).length<=3+piled ts:=by
  unfold tupleText;have h:=Ft ts;have e1:(("(":String):Str).length=1:=rfl;have e2:((",)":String):Str).length=2:=rfl;have e3:((")":String):Str).length=1:=rfl;rw[strLen_append,strLen_append];split<;>omega
theorem oa:∀ (ts:List Str) (k:Nat) (acc:Str),(textFrom k acc ts).length<=acc.length+piled ts
  |[],k,acc=>by show acc.length<=_;omega
  | t::r,k,acc=>by
    have h:=oa r (k+1) (acc++(if k>0 then ", " else "":String)++t);have e1:((", ":String):Str).length=2:=rfl;have e2:(("":String):Str).length=0:=rfl;rw[strLen_append,strLen_append]at h;rw[piled_cons];show (textFrom (k+1) (acc++(if k>0 then ", " else "":String)++t) r).length<=_;split at h<;>rename_i hk<;>simp only[hk,if_true,if_false]at h ⊢<;>omega
theorem Cs (ts:List Str):(listText ts).length<=3+piled ts:=by
  unfold listText;have h:=oa ts 0 "[";have e1:(("[":String):Str).length=1:=rfl;have e2:(("]":String):Str).length=1:=rfl;rw[strLen_append];omega
theorem Ct (ts:List Str):(dictText ts).length<=3+piled ts:=by
  unfold dictText;have h:=Ft ts;have e1:(("{":String):Str).length=1:=rfl;have e2:(("}":String):Str).length=1:=rfl;rw[strLen_append,strLen_append];omega
theorem Cu {i:Int}(h:i.natAbs.log2<1920):(Str.ofString (toString i)).length<=1921:=by
  have:=int_text_length_le (a:=i) (k:=1920) (by decide) h;rw[PySem.ofString_length];exact this
mutual
theorem Af:∀ (d:D),(toPy d).showable=true->(toPy d).shown.length<=wt d
  |.non,_=>by simp only[toPy,PyData.shown,wt];decide
  |.bl b,_=>by cases b<;>simp only[toPy,PyData.shown,wt]<;>decide
  | .int i,h=>by
    simp only[toPy,PyData.shown,wt];exact Cu (by simpa[toPy,PyData.showable] using h)
  |.str x,_=>by simp only[toPy,PyData.shown,wt];exact zL _
  | .tup l,h=>by
    simp only[toPy,PyData.shown,wt];have:=mM l (by simpa[toPy,PyData.showable] using h);have:=Bu (PyData.shownAll (toPys l));omega
  | .lst l,h=>by
    simp only[toPy,PyData.shown,wt];have:=mM l (by simpa[toPy,PyData.showable] using h);have:=Cs (PyData.shownAll (toPys l));omega
  | .dic l,h=>by
    simp only[toPy,PyData.shown,wt];have:=Cw l (by simpa[toPy,PyData.showable] using h);have:=Ct (PyData.shownKv (toPyK l));omega
theorem mM:∀ (l:List D),PyData.showableAll (toPys l)=true->piled (PyData.shownAll (toPys l))<=wts l
  |[],_=>by simp only[toPys,PyData.shownAll,wts];exact zL _
  | d::l,h=>by
    simp only[toPys,PyData.showableAll,zA]at h;have h1:=Af d h.1;have h2:=mM l h.2;simp only[toPys,PyData.shownAll,wts,piled_cons];omega
theorem Cw:∀ (l:List (Key×D)),PyData.showableKv (toPyK l)=true->piled (PyData.shownKv (toPyK l))<=wtk l
  |[],_=>by simp only[toPyK,PyData.shownKv,wtk];exact zL _
  | (k,d)::l,h=>by
    simp only[toPyK,PyData.showableKv,zA]at h;have h1:=Af d h.1.2;have h2:=Cw l h.2;have e1:((": ":String):Str).length=2:=rfl;have hk:(PyData.shown (keyP k)).length<=kwt k:=by
      cases k with
      |inl i=>exact Cu (by simpa[keyP,PyData.showable] using h.1.1)
      |inr x=>exact zL _
    simp only[toPyK,PyData.shownKv,wtk,piled_cons];rw[strLen_append,strLen_append];omega
end
mutual
noncomputable def ib (B:Nat):D->Bool
  |.int i=>decide (i.natAbs<=B)
  |.tup l=>ibs B l
  |.lst l=>ibs B l
  |.dic l=>ibk B l
  |_=>true
noncomputable def ibs (B:Nat):List D->Bool
  |[]=>true
  |d::l=>ib B d&&ibs B l
noncomputable def ibk (B:Nat):List (Key×D)->Bool
  |[]=>true
  |(k,d)::l=>(match k with|.inl i=>decide (i.natAbs<=B)|_=>true)&&ib B d&&ibk B l
end
theorem Ld {B:Nat}(hB:B<2 ^ 1900) {i:Int}(h:i.natAbs<=B):i.natAbs.log2<1920:=by
  by_cases h0:i.natAbs=0
  . rw[h0];decide
  . exact(Nat.log2_lt h0).mpr (Nat.lt_of_lt_of_le (Nat.lt_of_le_of_lt h hB) (Nat.pow_le_pow_right (by decide) (by decide)))
mutual
theorem Bv {B:Nat}(hB:B<2 ^ 1900):∀ (d:D),ib B d=true->(toPy d).showable=true
  |.non,_=>by simp[toPy,PyData.showable]
  |.bl b,_=>by simp[toPy,PyData.showable]
  | .int i,h=>by
    simp only[toPy,PyData.showable,decide_eq_true_eq];exact Ld hB (by simpa[ib] using h)
  |.str x,_=>by simp[toPy,PyData.showable]
  | .tup l,h=>by
    simp only[toPy,PyData.showable];exact Ag hB l (by simpa[ib] using h)
  | .lst l,h=>by
    simp only[toPy,PyData.showable];exact Ag hB l (by simpa[ib] using h)
  | .dic l,h=>by
    simp only[toPy,PyData.showable];exact Cy hB l (by simpa[ib] using h)
theorem Ag {B:Nat}(hB:B<2 ^ 1900):∀ (l:List D),ibs B l=true->PyData.showableAll (toPys l)=true
  |[],_=>by simp[toPys,PyData.showableAll]
  | d::l,h=>by
    simp only[ibs,zA]at h;simp only[toPys,PyData.showableAll,Bv hB d h.1,Ag hB l h.2,Bool.and_self]
theorem Cy {B:Nat}(hB:B<2 ^ 1900):∀ (l:List (Key×D)),ibk B l=true->PyData.showableKv (toPyK l)=true
  |[],_=>by simp[toPyK,PyData.showableKv]
  | (k,d)::l,h=>by
    simp only[ibk,zA]at h;have hk:(keyP k).showable=true:=by
      cases k with
      | inl i =>
        simp only[keyP,PyData.showable,decide_eq_true_eq];exact Ld hB (by simpa using h.1.1)
      |inr x=>simp[keyP,PyData.showable]
    simp only[toPyK,PyData.showableKv,hk,Bv hB d h.1.2,Cy hB l h.2,Bool.and_self]
end
mutual
theorem Le {B B':Nat}(h:B<=B'):∀ (d:D),ib B d=true->ib B' d=true
  |.non,_=>by simp[ib]
  |.bl b,_=>by simp[ib]
  | .int i,q=>by
    simp only[ib,decide_eq_true_eq]at q ⊢;omega
  |.str x,_=>by simp[ib]
  | .tup l,q=>by
    simp only[ib]at q ⊢;exact Bw h l q
  | .lst l,q=>by
    simp only[ib]at q ⊢;exact Bw h l q
  | .dic l,q=>by
    simp only[ib]at q ⊢;exact Lf h l q
theorem Bw {B B':Nat}(h:B<=B'):∀ (l:List D),ibs B l=true->ibs B' l=true
  |[],_=>by simp[ibs]
  | d::l,q=>by
    simp only[ibs,zA]at q ⊢;exact⟨Le h d q.1,Bw h l q.2⟩
theorem Lf {B B':Nat}(h:B<=B'):∀ (l:List (Key×D)),ibk B l=true->ibk B' l=true
  |[],_=>by simp[ibk]
  | (k,d)::l,q=>by
    simp only[ibk,zA]at q ⊢;refine⟨⟨?_,Le h d q.1.2⟩,Lf h l q.2⟩;have:=q.1.1;cases k with
    |inl i=>simp only[decide_eq_true_eq]at this ⊢;omega
    |inr x=>rfl
end
structure Sm (B a b:Nat) (d:D):Prop where
  s:ib B d=true
  e:(toPy d).depth<=a
  w:wt d<=b
structure SmL (B a b:Nat) (l:List D):Prop where
  s:ibs B l=true
  e:PyData.depthAll (toPys l)<=a
  w:wts l<=b
theorem Ah {B a b:Nat}{d:D}(h:Sm B a b d) (hB:B<2 ^ 1900) (ha:a<=60) (hb:b<=sizeLine):canShow d=true:=by
  have hs:=Bv hB d h.s;have:=Af d hs;have h1:=h.e;have h2:=h.w;unfold canShow;rw[hs,decide_eq_true (by omega:(toPy d).depth<=60),decide_eq_true (by omega:(toPy d).shown.length<=sizeLine)];rfl
theorem Sm.mono {B a b a' b':Nat}{d:D}(h:Sm B a b d) (ha:a<=a') (hb:b<=b'):Sm B a' b' d:=⟨h.s,Nat.le_trans h.e ha,Nat.le_trans h.w hb⟩
theorem SmL.mono {B a b a' b':Nat}{l:List D}(h:SmL B a b l) (ha:a<=a') (hb:b<=b'):SmL B a' b' l:=⟨h.s,Nat.le_trans h.e ha,Nat.le_trans h.w hb⟩
theorem Sm.up {B B' a b:Nat}{d:D}(h:Sm B a b d) (q:B<=B'):Sm B' a b d:=⟨Le q d h.s,h.e,h.w⟩
theorem SmL.up {B B' a b:Nat}{d:List D}(h:SmL B a b d) (q:B<=B'):SmL B' a b d:=⟨Bw q d h.s,h.e,h.w⟩
theorem SmL.nil {B a:Nat}:SmL B a 0 []:=⟨rfl,by simp[toPys,PyData.depthAll],zL _⟩
theorem SmL.cons {B a b c:Nat}{d:D}{l:List D}(h:Sm B a b d) (t:SmL B a c l):SmL B a (b+2+c) (d::l):=
  ⟨by simp[ibs,h.s,t.s],by simp only[toPys,PyData.depthAll];exact Nat.max_le.mpr ⟨h.e,t.e⟩,by simp only[wts];have:=h.w;have:=t.w;omega⟩
theorem Sm.tup {B a b:Nat}{l:List D}(h:SmL B a b l):Sm B (a+1) (3+b) (.tup l):=
  ⟨by simp[ib,h.s],by simp only[toPy,PyData.depth];have:=h.e;omega,by simp only[wt];have:=h.w;omega⟩
theorem Sm.lst {B a b:Nat}{l:List D}(h:SmL B a b l):Sm B (a+1) (3+b) (.lst l):=
  ⟨by simp[ib,h.s],by simp only[toPy,PyData.depth];have:=h.e;omega,by simp only[wt];have:=h.w;omega⟩
theorem Sm.int {B a:Nat}{i:Int}(h:i.natAbs<=B):Sm B a 1921 (.int i):=
  ⟨by simp[ib,h],by simp[toPy,PyData.depth],zL _⟩
theorem Sm.bl {B a:Nat}{i:Bool}:Sm B a 5 (.bl i):=⟨by simp[ib],by simp[toPy,PyData.depth],zL _⟩
theorem Sm.non {B a:Nat}:Sm B a 4 .non:=⟨by simp[ib],by simp[toPy,PyData.depth],zL _⟩
theorem jC (l m:List D):wts (l++m)=wts l+wts m:=by
  induction l with
  |nil=>simp[wts]
  |cons d l ih=>simp only[List.cons_append,wts,ih];omega
theorem SmL.append {B a b c:Nat}:∀ {l m:List D},SmL B a b l->SmL B a c m->SmL B a (b+c) (l++m):=by
  intro l m h t;refine⟨?_,?_,by rw[jC];have:=h.w;have:=t.w;omega⟩
  . have h1:=h.s;clear h;induction l with
    |nil=>exact t.s
    | cons d l ih =>
      simp only[ibs,zA,List.cons_append]at h1 ⊢;exact⟨h1.1,ih h1.2⟩
  . have h1:=h.e;clear h;induction l with
    |nil=>exact t.e
    | cons d l ih =>
      simp only[toPys,PyData.depthAll,List.cons_append]at h1 ⊢;exact Nat.max_le.mpr ⟨(Nat.max_le.mp h1).1,ih (Nat.max_le.mp h1).2⟩
theorem SmL.left {B a b:Nat}{l m:List D}(h:SmL B a b (l++m)):SmL B a b l:=by
  refine⟨?_,?_,by have:=h.w;rw[jC]at this;omega⟩
  . have h1:=h.s;clear h;induction l with
    |nil=>rfl
    | cons d l ih =>
      simp only[ibs,zA,List.cons_append]at h1 ⊢;exact⟨h1.1,ih h1.2⟩
  . have h1:=h.e;clear h;induction l with
    |nil=>exact Nat.zero_le _
    | cons d l ih =>
      simp only[toPys,PyData.depthAll,List.cons_append]at h1 ⊢;exact Nat.max_le.mpr ⟨(Nat.max_le.mp h1).1,ih (Nat.max_le.mp h1).2⟩
theorem SmL.right {B a b:Nat}{l m:List D}(h:SmL B a b (l++m)):SmL B a b m:=by
  refine⟨?_,?_,by have:=h.w;rw[jC]at this;omega⟩
  . have h1:=h.s;clear h;induction l with
    |nil=>exact h1
    | cons d l ih =>
      simp only[ibs,zA,List.cons_append]at h1;exact ih h1.2
  . have h1:=h.e;clear h;induction l with
    |nil=>exact h1
    | cons d l ih =>
      simp only[toPys,PyData.depthAll,List.cons_append]at h1;exact ih (Nat.max_le.mp h1).2
theorem SmL.take {B a b:Nat}{l:List D}(n:Nat) (h:SmL B a b l):SmL B a b (l.take n):=SmL.left (m:=l.drop n) (by rw[List.take_append_drop];exact h)
theorem SmL.drop {B a b:Nat}{l:List D}(n:Nat) (h:SmL B a b l):SmL B a b (l.drop n):=SmL.right (l:=l.take n) (by rw[List.take_append_drop];exact h)
theorem SmL.cut {B a b:Nat}{l:List D}(x y:Option Int) (h:SmL B a b l):SmL B a b (cutD l x y):=SmL.take _ (SmL.drop _ h)
theorem SmL.mem {B a b:Nat}{l:List D}(h:SmL B a b l) {d:D}(m:d∈l):Sm B a b d:=by
  obtain⟨s,t,rfl⟩:=List.append_of_mem m;have h1:=h.right;have:=h1.w;have hs:=h1.s;have hd:=h1.e;simp only[ibs,zA]at hs;simp only[toPys,PyData.depthAll]at hd;simp only[wts]at this;exact⟨hs.1,(Nat.max_le.mp hd).1,by omega⟩
theorem Sm.parts' {B a b:Nat}{l:List D}(h:Sm B a b (.tup l)):1<=a /\ SmL B (a-1) (b-3) l /\ 3<=b:=by
  have h1:=h.e;have h2:=h.w;simp only[toPy,PyData.depth]at h1;simp only[wt]at h2;exact⟨by omega,⟨by have:=h.s;simpa[ib] using this,by omega,by omega⟩,by omega⟩
theorem SmL.of {B a b:Nat}:∀ {l:List D},(∀ d∈l,Sm B a b d)->SmL B a (l.length*(b+2)) l
  |[],_=>by simpa using SmL.nil
  | d::l,h=>by
    have h1:=h d (List.mem_cons_self ..);have h2:=SmL.of λx m=>h x (List.mem_cons_of_mem _ m);exact(SmL.cons h1 h2).mono (zL _) (by rw[List.length_cons,Nat.succ_mul];omega)
end L2.DL
namespace K1
open PySem PySem.Spec PyProof.Rows L2 L2.DL
noncomputable def pt (bx:List Bx) (n:Nat) (p:Int):List Bx:=bx.set n (.lst [.int p])
theorem fY {bx:List Bx}{n:Nat}{p:Int}:(pt bx n p).length=bx.length:=List.length_set ..
theorem PK {bx:List Bx}{n:Nat}{p:Int}(h:n<bx.length):(pt bx n p)[n]?=some (.lst [.int p]):=by simp[pt,h]
theorem lF {n:Nat}{m:DSt}{ws:List W}{d:D}{bx bx':List Bx}(h:m (ws.map some++List.replicate (n-ws.length) none) bx=.rt (.d d) bx') (l:bx'.length<=bx.length):fnD n (noX m) ws bx=.val (.d d) bx':=by
  simp only[fnD,noX,DL.envOf,h,retO,cutO,List.take_of_length_le l]
theorem jD {bx:List Bx}{n:Nat}(h:n<bx.length) (p k:Int) (hk:0<k) (hk2:k<1073741824):fj [.b n,.d (.int k)] (pt bx n p)=.val (.d (.int (p % k))) (pt bx n (p / k)):=by
  refine lF ?_ (by rw[fY,fY];exact zL _);have g:=PK (p:=p) h;have c:CDiv p k:=⟨hk,hk2⟩;simp[Ac,rdW,g,ixD,atI,ixN,modD,fdivD,hk,c,gdSub];rw[pt,pt,List.set_set]
theorem li {α:Type}{l:List α}{i:Int}(h0:0<=i) (h1:i<l.length):∃ d,atI l i=some d /\ d∈l:=by
  have h2:i.toNat<l.length:=by omega
  refine⟨l[i.toNat],?_,List.getElem_mem h2⟩;simp[atI,ixN,h0,h1,h2]
def Dr (o:O W) (bx:List Bx) (n:Nat) (P:D->Prop):Prop:=∃ d p,o=.val (.d d) (pt bx n p) /\ P d
theorem mO (p:Int) {k:Int}(h:0<k):0<=p % k:=Int.emod_nonneg _ (by omega)
theorem mP (p:Int) {k:Int}(h:0<k):p % k<k:=Int.emod_lt_of_pos _ h
noncomputable def odds:List D:=[.non,.bl true,.bl false,.int (-1),.int (10 ^ 30),.str "",.str "a",.str "1",.tup [],.lst [],.dic [],.lst [.tup []],.tup [.tup []],.tup [.int 0],.lst [.int 0],.dic [(.inl 0,.int 1)],.tup [.bl true,.bl true]]
theorem mh:∀ d∈odds,Sm (10 ^ 30) 2 3850 d:=by
  intro d m;have c:∀ x∈odds,(ib (10 ^ 30) x&&decide ((toPy x).depth<=2)&&decide (wt x<=3850))=true:=by
    rw[<-List.all_eq_true];decide +kernel
  have:=c d m;simp only[zA,decide_eq_true_eq]at this;exact⟨this.1.1,this.1.2,this.2⟩
theorem Ai {bx:List Bx}{n:Nat}(h:n<bx.length) (p:Int):Dr (fR [.b n] (pt bx n p)) bx n (λd=>d∈odds):=by
  have h0:=mO p (k:=17) (by decide);have h1:=mP p (k:=17) (by decide);obtain⟨d,e,m⟩:=li (l:=odds) h0 (by show _<(17:Int);exact h1);refine⟨d,p / 17,lF ?_ (by rw[fY,fY];exact zL _),m⟩;have t:=jD h p 17 (by decide) (by decide);have c:CPow 10 30:=by decide
  have s17:(17:Nat)<=sizeLine:=by decide
  have s0:(1:Nat)<=sizeLine:=by decide
  have s2:(2:Nat)<=sizeLine:=by decide
  unfold AT;generalize fj=ft at t ⊢;unfold odds at e;simp[powD,c,dDic,lenD,t,ixD,s17,s0,s2]at e ⊢;simp[e]
theorem PL (l:List D) (i:Nat) (h:i<=l.length):DL.cutD l none (some (i:Int))=l.take i:=by
  unfold DL.cutD;rw[HT.oq,HT.BO,List.drop_zero,Nat.min_eq_left h,Nat.sub_zero]
theorem Aj (l:List D) (i:Nat) (h:i<=l.length):DL.cutD l (some (i:Int)) none=l.drop i:=by
  unfold DL.cutD;rw[HT.oq,HT.BO,Nat.min_eq_left h];exact List.take_of_length_le (by rw[List.length_drop];exact zL _)
theorem PM (l:List D) (i:Nat) (h:i<l.length):DL.cutD l (some (i:Int)) (some ((i:Int)+1))=[l[i]]:=by
  unfold DL.cutD;rw[show (i:Int)+1=((i+1:Nat):Int) by omega,HT.oq,HT.oq,Nat.min_eq_left (by omega),Nat.min_eq_left (by omega),Nat.add_sub_cancel_left,List.drop_eq_getElem_cons h];rfl
theorem Lg {α:Type}(l:List α) (i:Nat) (h:i<l.length):atI l (i:Int)=some l[i]:=by
  simp[atI,ixN,h]
theorem Fu:∀ l:List D,l.length<=wts l
  |[]=>zL _
  |d::l=>by have:=Fu l;simp only[List.length_cons,wts];omega
theorem Lh (rec:List W->List Bx->O W) {bx:List Bx}{n:Nat}(h:n<bx.length) (d:D) (hd:isT d=false) (p:Int) {B a b:Nat}(hB:10 ^ 30<=B) (s:Sm B a b d) :
    Dr (fnD 4 (noX (gC rec)) [.b n,.d d] (pt bx n p)) bx n (λd'=>Sm (B+10 ^ 4) (a+2) (2*b+4000) d'):=by
  have t3:=jD h p 3 (by decide) (by decide);have t6:=jD h (p / 3) 6 (by decide) (by decide);have lo:=mO (p / 3) (k:=6) (by decide);have hi:=mP (p / 3) (k:=6) (by decide);have w:=AU d (pt bx n p);have fin:∀ q,Dr (fR [.b n] (pt bx n q)) bx n (λd'=>Sm (B+10 ^ 4) (a+2) (2*b+4000) d'):=λq=>by
    obtain⟨o,q',e,m⟩:=Ai h q;exact⟨o,q',e,((mh o m).up (by omega)).mono (by omega) (by omega)⟩
  cases hw:wh d with
  | false =>
    obtain⟨o,q',e,m⟩:=fin p;refine⟨o,q',lF ?_ (by rw[fY,fY];exact zL _),m⟩;rw[hw]at w;unfold gC;generalize fR=fo at e ⊢;generalize gx=fw at w ⊢;simp[jV,hd,w,e]
  | true =>
    rw[hw]at w;by_cases g:0<p % 3
    . obtain⟨x,rfl⟩:∃ x,d=.int x:=by
        cases d<;>simp[wh]at hw;exact⟨_,rfl⟩
      obtain⟨y,e,m⟩:=li (l:=[D.int 1,.int (-1),.int 9,.int 100,.int 9999,.int (-10000)]) lo (by show _<(6:Int);exact hi);obtain⟨y,rfl,hy⟩:∃ i:Int,y=.int i /\ i.natAbs<=10 ^ 4:=by
        simp at m;rcases m with rfl|rfl|rfl|rfl|rfl|rfl<;>exact⟨_,rfl,by decide⟩
      have hx:x.natAbs<=B:=by have:=s.s;simpa[ib] using this
      refine⟨.int (x+y),p / 3 / 6,lF ?_ (by rw[fY,fY];exact zL _),(Sm.int (a:=0) (by omega)).mono (by omega) (by omega)⟩;have c:CPow 10 4:=by decide
      have s6:(6:Nat)<=sizeLine:=by decide
      unfold gC;generalize fR=fo at fin ⊢;generalize gx=fw at w ⊢;generalize fj=ft at t3 t6 ⊢;simp[jV,isT,w,t3,gtI,g,t6,powD,c,s6,ixD,e,fH]
    . obtain⟨o,q',e,m⟩:=fin (p / 3);refine⟨o,q',lF ?_ (by rw[fY,fY];exact zL _),m⟩;unfold gC;generalize fR=fo at e ⊢;generalize gx=fw at w ⊢;generalize fj=ft at t3 ⊢;simp[jV,hd,w,e,t3,gtI,g]
theorem oE {bx:List Bx}{n:Nat}(h:n<bx.length):∀ (i:Nat) (d:D) (p:Int) (B a b:Nat),10 ^ 30<=B->Sm B a b d->a<i->b<=1000000 ->
    Dr (f8 i [.b n,.d d] (pt bx n p)) bx n (λd'=>Sm (B+10 ^ 4) (a+2) (2*b+4000) d')
  |0,d,p,B,a,b,_,_,z,_=>by omega
  | i+1,d,p,B,a,b,hB,s,hi,hb=>by
    show Dr (fnD 4 (noX (gC (f8 i))) [.b n,.d d] (pt bx n p)) bx n _;cases ht:isT d with
    |false=>exact Lh _ h d ht p hB s
    | true =>
      obtain⟨l,rfl⟩:=PJ ht;obtain⟨a1,sl,b3⟩:=s.parts';have sl':=sl.up (B':=B+10 ^ 4) (by omega);have ln:=Fu l;have lw:=sl.w;have sz:sizeLine=16777216:=sizeLine_eq;have ih:=λc (m:c∈l) (q:Int)=>oE h i c q B (a-1) (wt c) hB (let z:=sl.mem m;⟨z.s,z.e,zL _⟩) (by omega) (by have:=(sl.mem m).w;omega);have t12:=jD h p 12 (by decide) (by decide);by_cases g:p % 12=0 \/ l=[]
      . obtain⟨o1,q1,e1,m1⟩:=Ai h (p / 12);obtain⟨o2,q2,e2,m2⟩:=Ai h q1;have t4:=jD h q2 4 (by decide) (by decide);have lo:=mO q2 (k:=4) (by decide);have hi4:=mP q2 (k:=4) (by decide);have s1:=((mh o1 m1).up (B':=B+10 ^ 4) (by omega));have s2:=((mh o2 m2).up (B':=B+10 ^ 4) (by omega));have cl:(DL.cutD l (some (-1)) none).length<=l.length:=by
          unfold DL.cutD;rw[List.length_take,List.length_drop];omega
        obtain⟨y,e,m⟩:=li (l:=[o1,.lst l,.tup (l++[o2]),.tup (l++DL.cutD l (some (-1)) none)]) lo (by show _<(4:Int);exact hi4);refine⟨y,q2 / 4,lF ?_ (by rw[fY,fY];exact zL _),?_⟩
        . have t:(p % 12=0) \/ (l.isEmpty=true):=by
            rcases g with g|g
            . exact .inl g
            . exact .inr (by rw[g];rfl)
          have z1:l.length+1<=sizeLine:=by omega
          have z2:l.length+(DL.cutD l (some (-1)) none).length<=sizeLine:=by omega
          have z4:(4:Nat)<=sizeLine:=by omega
          have z0:(1:Nat)<=sizeLine:=by omega
          unfold gC;generalize fR=fo at e1 e2 ⊢;generalize fj=ft at t12 t4 ⊢;by_cases g0:p % 12=0
          . simp[jV,isT,t12,eqD,g0,e1,e2,listD,fH,slD,z1,z2,z4,z0,t4,ixD,e]
          . have g1:l.isEmpty=true:=by
              rcases t with t|t
              . exact absurd t g0
              . exact t
            simp[jV,isT,t12,eqD,g0,g1,e1,e2,listD,fH,slD,z1,z2,z4,z0,t4,ixD,e]
        . simp at m;rcases m with rfl|rfl|rfl|rfl
          . exact s1.mono (by omega) (by omega)
          . exact(Sm.lst sl').mono (by omega) (by omega)
          . exact(Sm.tup (a:=a+1) ((sl'.mono (by omega) (zL _)).append (SmL.cons (s2.mono (by omega) (zL _)) SmL.nil))).mono (by omega) (by omega)
          . exact(Sm.tup (sl'.append (sl'.cut _ _))).mono (by omega) (by omega)
      . have g0:¬ p % 12=0:=λz=>g (.inl z);have g1:l≠[]:=λz=>g (.inr z);have g1':l.isEmpty=false:=by cases l<;>simp at g1 ⊢
        have lp:0<l.length:=List.length_pos_iff.mpr g1;have tl:=jD h (p / 12) (l.length:Int) (by omega) (by omega);have lo:=mO (p / 12) (k:=(l.length:Int)) (by omega);have hil:=mP (p / 12) (k:=(l.length:Int)) (by omega);obtain⟨j,ej⟩:=Int.eq_ofNat_of_zero_le lo;rw[ej]at tl hil;have hj:j<l.length:=by omega
        have w3:wts l=wts (l.take j)+(wt l[j]+2+wts (l.drop (j+1))):=by
          have e:l.take j++l[j]::l.drop (j+1)=l:=by
            rw[<-List.drop_eq_getElem_cons hj,List.take_append_drop]
          have e2:=congrArg wts e;rw[jC]at e2;simp only[wts]at e2;omega
        have st:SmL (B+10 ^ 4) (a-1) (wts (l.take j)) (l.take j):=⟨(sl'.take j).s,(sl'.take j).e,zL _⟩;have sd:SmL (B+10 ^ 4) (a-1) (wts (l.drop (j+1))) (l.drop (j+1)):=⟨(sl'.drop (j+1)).s,(sl'.drop (j+1)).e,zL _⟩;have c1:=PL l j (by omega);have c2:=Aj l (j+1) (by omega);rw[show ((j+1:Nat):Int)=(j:Int)+1 by omega]at c2;have c3:=PM l j hj;have c4:=Aj l j (by omega);have aj:=Lg l j hj;have n1:(l.take j).length=j:=by rw[List.length_take];omega
        have n2:(l.drop (j+1)).length=l.length-(j+1):=List.length_drop ..;have n3:(l.drop j).length=l.length-j:=List.length_drop ..;have y1:j+(l.length-(j+1))<=sizeLine:=by omega
        have y2:j+1<=sizeLine:=by omega
        have y3:j+1+(l.length-j)<=sizeLine:=by omega
        have y4:j+1+(l.length-(j+1))<=sizeLine:=by omega
        have y5:(1:Nat)<=sizeLine:=by omega
        have y6:min (j+1) l.length+(l.length-j)<=sizeLine:=by omega
        have mj:l[j]∈l:=List.getElem_mem hj;have sj:Sm (B+10 ^ 4) (a-1) (wt l[j]) l[j]:=let z:=sl'.mem mj;⟨z.s,z.e,zL _⟩
        obtain⟨o1,q1,e1,m1⟩:=ih l[j] mj (p / 12 / (l.length:Int));by_cases k1:p % 12=1
        . refine⟨.tup (l.take j++l.drop (j+1)),p / 12 / (l.length:Int),lF ?_ (by rw[fY,fY];exact zL _),(Sm.tup (st.append sd)).mono (by omega) (by omega)⟩;unfold gC;generalize fR=fo;generalize fj=ft at t12 tl ⊢;simp[jV,isT,t12,eqD,g0,g1',lenD,tl,k1,slD,c1,c2,fH,n1,n2,y1]
        . by_cases k2:p % 12=2
          . refine⟨.tup (l.take j++[l[j]]++l.drop j),p / 12 / (l.length:Int),lF ?_ (by rw[fY,fY];exact zL _),?_⟩
            . unfold gC;generalize fR=fo;generalize fj=ft at t12 tl ⊢;simp[jV,isT,t12,eqD,g0,g1',lenD,tl,k1,k2,slD,c1,c3,c4,fH,n1,n3,y2,y3,y6]
            . rw[List.drop_eq_getElem_cons hj];exact(Sm.tup ((st.append (SmL.cons sj SmL.nil)).append (SmL.cons sj sd))).mono (by omega) (by omega)
          . refine⟨.tup (l.take j++[o1]++l.drop (j+1)),q1,lF ?_ (by rw[fY,fY];exact zL _),?_⟩
            . unfold gC;generalize fR=fo;generalize fj=ft at t12 tl ⊢;generalize f8 i=fb at e1 ⊢;simp[jV,isT,t12,eqD,g0,g1',lenD,tl,k1,k2,slD,c1,c2,fH,n1,n2,y2,y4,y5,ixD,aj,e1]
            . exact(Sm.tup (a:=a+1) (((st.mono (by omega) (zL _)).append (SmL.cons (m1.mono (by omega) (zL _)) SmL.nil)).append (sd.mono (by omega) (zL _)))).mono (by omega) (by omega)
theorem oF {g:DG}{te:DE W}(J:DEnv->Prop) (P:D->Prop) {bx:List Bx}{n:Nat}:∀ (l:List W) (env:DEnv) (p:Int) (acc:List D),J env ->
    (∀ w∈l,∀ env p,J env->∃ env',g w env (pt bx n p)=some (env',pt bx n p) /\ J env' /\ Dr (te env' (pt bx n p)) bx n P)->acc.length+l.length<=sizeLine ->
    ∃ ds p',compD g fL te l env (pt bx n p) acc=.val (acc++ds) (pt bx n p') /\ ds.length=l.length /\ ∀ d∈ds,P d
  |[],env,p,acc,_,_,_=>⟨[],p,by simp[compD],rfl,λd m=>by cases m⟩
  | w::l,env,p,acc,j,h,z=>by
    obtain⟨env',e1,j',d,q,e2,hd⟩:=h w (List.mem_cons_self ..) env p j;have z':acc.length<sizeLine:=by simp only[List.length_cons]at z;omega
    obtain⟨ds,p',e3,e4,e5⟩:=oF J P l env' q (acc++[d]) j' (λx m=>h x (List.mem_cons_of_mem _ m)) (by simp only[List.length_append,List.length_cons,List.length_nil]at z ⊢;omega);refine⟨d::ds,p',?_,by simp[e4],λx m=>?_⟩
    . simp only[compD,e1,M7,Dm,e2,if_pos z',e3];simp
    . rcases List.mem_cons.mp m with rfl|m
      . exact hd
      . exact e5 x m
def digit (d:D):Prop:=∃ i:Int,d=.int i /\ 0<=i /\ i<=9
theorem AV:∀ {l:List D},(∀ d∈l,digit d)->∃ ns:List Int,l=ns.map D.int /\ ∀ i∈ns,0<=i /\ i<=9
  |[],_=>⟨[],rfl,λ_ m=>by cases m⟩
  | d::l,h=>by
    obtain⟨i,rfl,h1⟩:=h d (List.mem_cons_self ..);obtain⟨ns,rfl,h2⟩:=AV λx m=>h x (List.mem_cons_of_mem _ m);exact⟨i::ns,rfl,λx m=>by
      rcases List.mem_cons.mp m with rfl|m
      . exact h1
      . exact h2 x m⟩
theorem Li {ns:List Int}(h4:ns.length=4) (h:∀ i∈ns,0<=i /\ i<=9):rates (.tup ((sortI ns).map D.int).reverse)=true:=by
  have l4:(sortI ns).length=4:=by rw[(jw ns).length_eq,h4]
  rw[<-List.map_reverse];have a1:tl (.tup ((sortI ns).reverse.map D.int)) 4 4=true:=by simp[tl,l4]
  have a2:(((sortI ns).reverse.map D.int).all λx=>wi x 0 9)=true:=by
    rw[List.all_map,List.all_eq_true];intro i m;have:=h i ((jw ns).mem_iff.mp (List.mem_reverse.mp m));simp[wi,this.1,this.2]
  have a3:fallD ((sortI ns).reverse.map D.int)=true:=(Fs _).mpr (List.pairwise_reverse.mpr (mf ns));simp only[rates,a1,a2,a3,Bool.and_self]
end K1
namespace L2.DL
open PySem PySem.Spec PyProof.Rows
section
variable {env env1 env2 : DEnv} {bx bx1 bx2 bx3 : List Bx} {m k : DE W} {ks : DE (List W)} {w u : W} {l : List W}
theorem ff (h1:m env bx=.val w bx1) (h2:ks env bx1=.val l bx2):fc m ks env bx=.val (w::l) bx2:=by rw[oA,h1,fZ,h2,fZ]
theorem Fv:∀ {ds:List D},rdWs bx (ds.map W.d)=some ds
  |[]=>rfl
  |d::ds=>by rw[List.map_cons,Dp,Fv];rfl
theorem oG:∀ {ds:List D},dsOf (ds.map W.d)=some ds
  |[]=>rfl
  |d::ds=>by rw[List.map_cons,Pz,oG];rfl
theorem gZ {g:List D->Option Res}{r:Res}(ds:List D) (h:ks env bx=.val (ds.map W.d) bx1) (hg:g ds=some r):dN false g ks env bx=.val (.d r.toD) bx1:=by rw[JY,h,fZ,Fv,Option.bind_some,hg,im]
theorem ig (ds:List D) (h:ks env bx=.val (ds.map W.d) bx1) (hl:ds.length<=sizeLine):ge ks env bx=.val (.d (.tup ds)) bx1:=by rw[Py,h,fZ,oG,Option.bind_some,if_pos hl,im,M9]
theorem gN (ds:List D) (h:ks env bx=.val (ds.map W.d) bx1) (hl:ds.length<=sizeLine):fN false ks env bx=.val (.d (.lst ds)) bx1:=by rw[J2,h,fZ,oG,Option.bind_some,if_pos hl,im,oD]
theorem mQ (ds:List D) (h:ks env bx=.val (ds.map W.d) bx1) (hl:ds.length<=sizeLine):fN true ks env bx=.val (.b bx1.length) (bx1++[.lst ds]):=by rw[J2,h,fZ,oG,Option.bind_some,if_pos hl];rfl
theorem fM {g:D->D->Option Res}{r:Res}{x y:D}(h1:m env bx=.val (.d x) bx1) (h2:k env bx1=.val (.d y) bx2) (hg:g x y=some r):d2 false g m k env bx=.val (.d r.toD) bx2:=by rw[M8,h1,fZ,h2,fZ,m9,m9,Option.bind_some,Option.bind_some,hg,im]
theorem fF {fn:List W->List Bx->O W}{n:Nat}(h:ks env bx=.val l bx1) (hn:l.length=n) (hf:fn l bx1=.val w bx2):fk fn n ks env bx=.val w bx2:=by rw[oB,h,fZ,if_pos hn,hf]
theorem gO {b:Bool}(h:m env bx=.val (.d (.bl b)) bx1):dB m env bx=.val b bx1:=by rw[Sr,h,fZ]
theorem iq {t:DE Bool}{b:Bool}(h:t env bx=.val b bx1):dNot t env bx=.val (!b) bx1:=by rw[Pw,h,fZ]
theorem Fx {t s:DE Bool}(h:t env bx=.val true bx1):dOr t s env bx=.val true bx1:=by rw[N2,h,fZ]
theorem lG {t s:DE Bool}{b:Bool}(h:t env bx=.val false bx1) (h2:s env bx1=.val b bx2):dOr t s env bx=.val b bx2:=by rw[N2,h,fZ,h2]
theorem Fy {b:Bool}(h:m env bx=.val (.d (.bl b)) bx1):gf m k env bx=if b then k env bx1 else .val (.d (.bl false)) bx1:=by rw[Fk,h];cases b<;>rfl
theorem jg {src:List (Option Nat)}{mi:DE (List W)}{g:DG}{tf:DE Bool}{te:DE W}{ds:List D}{e2:DEnv}(h1:mi env bx=.val l bx1) (he:srcEnv src env=e2) (h2:compD g tf te l e2 bx1 []=.val ds bx2):fD false src mi g tf te env bx=.val (.d (.lst ds)) bx2:=by
  subst he;rw[Bs,h1,fZ,h2,fZ,im,oD]
theorem Ak {x:D}{r:Res}{lo hi:DE (Option Int)}{i j:Option Int}(h1:m env bx=.val (.d x) bx1) (h2:lo env bx1=.val i bx2) (h3:hi env bx2=.val j bx3) (hs:slD x i j=some r):dSl false m lo hi env bx=.val (.d r.toD) bx3:=by
  rw[N3,h1,fZ,h2,fZ,h3,fZ,m9,Option.bind_some,hs,im]
theorem lj {i:Int}(h:m env bx=.val (.d (.int i)) bx1):dPart m env bx=.val (some i) bx1:=by rw[Na,h,fZ]
theorem gH {ds:List D}(h:m env bx=.val (.d (.lst ds)) bx1):dIter m env bx=.val (ds.map W.d) bx1:=by rw[Fm,h,fZ]
theorem lq {ds:List D}(h:m env bx=.val (.d (.tup ds)) bx1):dIter m env bx=.val (ds.map W.d) bx1:=by rw[Fm,h,fZ]
theorem By {i:Int}(h:m env bx=.val (.d (.int i)) bx1):dNeg m env bx=.val (.d (.int (-i))) bx1:=by rw[PB,h,fZ]
theorem Bz {d:D}(h:m env bx=.val (.d d) bx1) (c:canShow d=true):dRepr m env bx=.val (.d (.str (toPy d).shown)) bx1:=by
  unfold dRepr;rw[h,fZ];exact if_pos c
theorem fB {a b:DSt}(h:a env bx=.nx env1 bx1):fG a b env bx=b env1 bx1:=by rw[Bq,h]
theorem ir {a b:DSt}(h:a env bx=.rt w bx1):fG a b env bx=.rt w bx1:=by rw[Bq,h]
theorem gw {i:Nat}(h:m env bx=.val w bx1):fP m (fg i) env bx=.nx (env.set i (some w)) bx1:=by rw[J0,h,AC,J1]
theorem gh (h:m env bx=.val w bx1):fQ m env bx=.rt w bx1:=by rw[Br,h,AC]
theorem jW (h:m env bx=.val w bx1):iB m env bx=.nx env bx1:=by rw[Fl,h,AC]
theorem lP {t:DE Bool}{a b:DSt}(h:t env bx=.val true bx1):sIf t a b env bx=a env bx1:=by rw[JZ,h,AC]
theorem jJ {t:DE Bool}{a b:DSt}(h:t env bx=.val false bx1):sIf t a b env bx=b env bx1:=by rw[JZ,h,AC]
theorem iS {mi:DE (List W)}{g:DG}{body:DSt}(h:mi env bx=.val l bx1):il mi g body env bx=forD g body l env bx1:=by rw[Px,h,AC]
theorem lQ {g:DG}{body:DSt}(h1:g w env bx=some (env1,bx1)) (h2:body env1 bx1=.nx env2 bx2):forD g body (w::l) env bx=forD g body l env2 bx2:=by
  rw[forD,h1];simp only[h2]
theorem Lj {g:DG}{body:DSt}(h1:g w env bx=some (env1,bx1)) (h2:body env1 bx1=.rt u bx2):forD g body (w::l) env bx=.rt u bx2:=by
  rw[forD,h1];simp only[h2]
theorem iI {g:DG}{body:DSt}(I:Nat->DEnv->List Bx->Prop):∀ (l:List W) (k:Nat) (env:DEnv) (bx:List Bx),I k env bx ->
    (∀ i w env bx,l[i]?=some w->I (k+i) env bx->∃ env1 bx1 env2 bx2,g w env bx=some (env1,bx1) /\ body env1 bx1=.nx env2 bx2 /\ I (k+i+1) env2 bx2) ->
    ∃ env' bx',forD g body l env bx=.nx env' bx' /\ I (k+l.length) env' bx':=by
  intro l;induction l with
  |nil=>intro k env bx h _;exact⟨env,bx,rfl,h⟩
  | cons w l ih =>
    intro k env bx h st;obtain⟨env1,bx1,env2,bx2,e1,e2,h2⟩:=st 0 w env bx rfl h;obtain⟨env',bx',e3,h3⟩:=ih (k+1) env2 bx2 h2 λi x env bx e hi=>by
      have:=st (i+1) x env bx (by simpa using e) (by rw[show k+(i+1)=k+1+i by omega];exact hi);rw[show k+(i+1)+1=k+1+i+1 by omega]at this;exact this
    exact⟨env',bx',by rw[lQ e1 e2,e3],by rw[List.length_cons,show k+(l.length+1)=k+1+l.length by omega];exact h3⟩
end
end L2.DL
namespace K1
open PySem PySem.Spec PyProof.Rows L2 L2.DL
theorem Nd {env:DEnv}{bx:List Bx}{k:Nat}{m:DE (List W)}(e:m env bx=.val [.d (.int (k:Int))] bx) (hk:k<=1000000):dRng1 m env bx=.val (fv 0 k) bx:=by
  rw[io e (by omega),Int.toNat_natCast]
theorem Lk {d:D}{lo hi:Int}{B a:Nat}(h:wi d lo hi=true) (h1:lo.natAbs<=B) (h2:hi.natAbs<=B):Sm B a 1921 d:=by
  obtain⟨i,rfl,a1,a2⟩:=lO h;exact Sm.int (by omega)
theorem Ll {d:D}(h:rates d=true):Sm 999 1 7695 d:=by
  cases d with
  | tup l =>
    simp only[rates,zA]at h;have n:=jU h.1;have s:=SmL.of (B:=999) (a:=0) (b:=1921) (l:=l) λx m=>Lk (List.all_eq_true.mp h.2.1 x m) (by decide) (by decide);have e:l.length=4:=by omega
    rw[e]at s;exact Sm.tup s
  |_=>simp[rates]at h
theorem Nf {d:D}(h:kind d=true):Sm 999 2 9623 d:=by
  cases d with
  | tup l =>
    simp only[kind,zA]at h;obtain⟨a,b,rfl⟩:=tl2 h.1;simp only[zA]at h;have s1:=Lk (B:=999) (a:=1) h.2.1 (by decide) (by decide);have s2:=Ll h.2.2;exact Sm.tup (SmL.cons s1 (SmL.cons s2 SmL.nil))
  |_=>simp[kind]at h
theorem RW {p:Int×Int}{k:Nat}(h:0<=p.1 /\ p.1<p.2 /\ p.2<(k:Int)) (hk:k<=4):Sm 999 1 3849 (dP p):=
  Sm.tup (SmL.cons (Sm.int (by omega)) (SmL.cons (Sm.int (by omega)) SmL.nil))
theorem Lm {α:Type}{l:List α}{i:Nat}{a:α}(h:l[i]?=some a):l.set i a=l:=by
  obtain⟨hi,e⟩:=List.getElem?_eq_some_iff.mp h;rw[<-e];exact List.set_getElem_self hi
section
variable {bx : List Bx}
theorem Fz {m k:DE W}{env:DEnv}{bx bx1 bx2:List Bx}{i:Nat}{l l0:List D}{d:D}(h1:m env bx=.val (.b i) bx1) (hb0:bx1[i]?=some (.lst l0)) (h2:k env bx1=.val (.d d) bx2) (hb:bx2[i]?=some (.lst l)) (hl:l.length<sizeLine):dApp m k env bx=.val (.d .non) (bx2.set i (.lst (l++[d]))):=by
  unfold dApp;rw[h1,fZ];simp only[hb0,h2,fZ,hb,if_pos hl]
end
section
variable {n : Nat} {d hd lim rt : D} {rs ks ps : List D} {j : Nat} {fo so fi tw th : Option W} {bx : List Bx}
end
section
variable {n : Nat} {d hd lim rt : D} {rs ks ps : List D} {j : Nat} {fo so fi tw th : Option W} {bx : List Bx}
end
theorem BA {n:Nat}{m:DSt}{ws:List W}{d:D}{bx bx':List Bx}(h:m (ws.map some++List.replicate (n-ws.length) none) bx=.rt (.d d) bx'):fnD n (noX m) ws bx=.val (.d d) (bx'.take bx.length):=by
  simp only[fnD,noX,DL.envOf,h,retO,cutO]
theorem RX {env:DEnv}{bx:List Bx}{i k:Nat}{l:List D}(h:env[k]?=some (some (.b i))) (hb:bx[i]?=some (.lst l)):dFrz k env bx=.val (.d (.lst l)) (bx.set i .dead):=by
  unfold dFrz;simp only[h,hb]
theorem PN (l:List Int) (k:Nat) (bx:List Bx):∃ c:Int,ic [.s l,.d (.int (k:Int))] bx=.val (.d (.int c)) bx:=by
  by_cases h:k<l.length
  . have a:atI l (k:Int)=some l[k]:=Lg l k h;refine⟨l[k],gE ?_⟩;have h':(k:Int)<(l.length:Int):=by omega
    simp[ji,dLenS,ltD,h',dIxS,a]
  . refine⟨0,gE ?_⟩;have h':¬ (k:Int)<(l.length:Int):=by omega
    simp[ji,dLenS,ltD,h']
noncomputable abbrev potBody:DSt:=(fG (fP (d2 false modD (d2 false mulD (d2 false fH (d2 false fH (d2 false modD (dV 0) (dC (.int 2147483629))) (d2 false mulD (dC (.int 7919)) (dV 2))) (dC (.int 1))) (dC (.int 48271))) (dC (.int 2147483647))) (fg 3)) (fG (fP (d2 false modD (d2 false fH (d2 false fH (d2 false mulD (dV 3) (dV 3)) (d2 false mulD (dC (.int 69621)) (dV 2))) (dC (.int 7))) (dC (.int 2147483587))) (fg 3)) (fP (d2 false fH (d2 false mulD (dV 1) (dC (.int 2147483587))) (dV 3)) (fg 1))))
theorem Ln {i j:Int}(h1:-(2 ^ 64)<i) (h2:i<2 ^ 64):mulD (.int i) (.int j)=some (.old (.int (i*j))):=if_pos (.inl ⟨h1,h2⟩)
theorem N4 {i j:Int}(h1:-(2 ^ 64)<j) (h2:j<2 ^ 64):mulD (.int i) (.int j)=some (.old (.int (i*j))):=if_pos (.inr ⟨h1,h2⟩)
theorem Lo {i j:Int}(h1:0<j):modD (.int i) (.int j)=some (.old (.int (i % j))):=if_pos h1
theorem N5 {i j:Int}(h1:CPow i j):powD (.int i) (.int j)=some (.old (.int (i ^ j.toNat))):=if_pos h1
theorem GF (c x j:Int) (w:Option W) (bx:List Bx):∃ x' y,potBody [some (.d (.int c)),some (.d (.int x)),some (.d (.int j)),w] bx=.nx [some (.d (.int c)),some (.d (.int x')),some (.d (.int j)),some (.d (.int y))] bx:=by
  let a:=(c % 2147483629+7919*j+1)*48271 % 2147483647
  let b:=(a*a+69621*j+7) % 2147483587
  have a0:0<=a:=mO _ (by decide);have a1:a<2147483647:=mP _ (by decide);have e1:fP (d2 false modD (d2 false mulD (d2 false fH (d2 false fH (d2 false modD (dV 0) (dC (.int 2147483629))) (d2 false mulD (dC (.int 7919)) (dV 2))) (dC (.int 1))) (dC (.int 48271))) (dC (.int 2147483647))) (fg 3) [some (.d (.int c)),some (.d (.int x)),some (.d (.int j)),w] bx=.nx [some (.d (.int c)),some (.d (.int x)),some (.d (.int j)),some (.d (.int a))] bx :=
    gw (fM (r:=.old _) (fM (r:=.old _) (fM (r:=.old _) (fM (r:=.old _) (fM (r:=.old _) rfl rfl (Lo (by decide))) (fM (r:=.old _) rfl rfl (Ln (by decide) (by decide))) rfl) rfl rfl) rfl (N4 (by decide) (by decide))) rfl (Lo (by decide)))
  have e2:fP (d2 false modD (d2 false fH (d2 false fH (d2 false mulD (dV 3) (dV 3)) (d2 false mulD (dC (.int 69621)) (dV 2))) (dC (.int 7))) (dC (.int 2147483587))) (fg 3) [some (.d (.int c)),some (.d (.int x)),some (.d (.int j)),some (.d (.int a))] bx=.nx [some (.d (.int c)),some (.d (.int x)),some (.d (.int j)),some (.d (.int b))] bx :=
    gw (fM (r:=.old _) (fM (r:=.old _) (fM (r:=.old _) (fM (r:=.old _) rfl rfl (Ln (by omega) (by omega))) (fM (r:=.old _) rfl rfl (Ln (by decide) (by decide))) rfl) rfl rfl) rfl (Lo (by decide)))
  have e3:fP (d2 false fH (d2 false mulD (dV 1) (dC (.int 2147483587))) (dV 3)) (fg 1) [some (.d (.int c)),some (.d (.int x)),some (.d (.int j)),some (.d (.int b))] bx=.nx [some (.d (.int c)),some (.d (.int (x*2147483587+b))),some (.d (.int j)),some (.d (.int b))] bx :=
    gw (fM (r:=.old _) (fM (r:=.old _) rfl rfl (N4 (by decide) (by decide))) rfl rfl)
  exact⟨_,_,by unfold potBody;rw[fB e1,fB e2,e3]⟩
theorem Lp {n:Nat}{m:DSt}{ws:List W}{i:Nat}{bx bx':List Bx}(h:m (ws.map some++List.replicate (n-ws.length) none) bx=.rt (.b i) bx'):fnD n (noX m) ws bx=.val (.b i) bx':=by
  simp only[fnD,noX,DL.envOf,h,retO,cutO]
theorem RY (c:Int) (bx:List Bx):∃ p:Int,jB [.d (.int c)] bx=.val (.b bx.length) (bx++[.lst [.int p]]):=by
  have sz:sizeLine=16777216:=sizeLine_eq;have p18:∀ e b,d2 false powD (dC (.int 10)) (dC (.int 18)) e b=.val (.d (.int (10 ^ 18))) b:=λe b=>fM (r:=.old _) rfl rfl (N5 (by decide));have t:dB (d2 false geI (dV 0) (d2 false powD (dC (.int 10)) (dC (.int 18)))) [some (.d (.int c)),none,none,none] bx=.val (decide (10 ^ 18<=c)) bx:=gO (fM (r:=.old _) rfl (p18 _ _) rfl);by_cases h:10 ^ 18<=c
  . rw[decide_eq_true h]at t;refine⟨c-10 ^ 18,Lp ?_⟩;show jq [some (.d (.int c)),none,none,none] bx=_;unfold jq;refine(ir ((lP t).trans (gh (mQ [.int (c-10 ^ 18)] (ff (fM (r:=.old _) rfl (p18 _ _) rfl) rfl) (show (1:Nat)<=sizeLine by omega))))).trans rfl
  . rw[decide_eq_false h]at t;have rg:=Nd (env:=[some (.d (.int c)),some (.d (.int 0)),none,none]) (bx:=bx) (k:=64) (m:=fc (dC (.int 64)) fe) rfl (by decide);obtain⟨env',bx',e,x,w2,w3,rfl,rfl⟩:=iI (g:=fg 2) (body:=potBody) (λ_ env b=>∃ (x:Int) (w2 w3:Option W),env=[some (.d (.int c)),some (.d (.int x)),w2,w3] /\ b=bx) (fv 0 64) 0 [some (.d (.int c)),some (.d (.int 0)),none,none] bx ⟨0,none,none,rfl,rfl⟩ (by
      rintro i w env b hw ⟨x,w2,w3,rfl,rfl⟩;obtain⟨j,_,rfl⟩:=List.mem_map.mp (List.mem_of_getElem? hw);obtain⟨x',y,e⟩:=GF c x (0+(j:Int)) w3 b;exact⟨_,_,_,_,rfl,e,x',_,_,rfl,rfl⟩)
    refine⟨x,Lp ?_⟩;show jq [some (.d (.int c)),none,none,none] bx'=_;unfold jq;refine(fB (jJ t)).trans ?_;refine(fB (gw rfl)).trans ?_;refine(fB ((iS rg).trans e)).trans ?_;exact gh (mQ [.int x] rfl (show (1:Nat)<=sizeLine by omega))
end K1
namespace K2
open PySem PySem.Spec PyProof.Rows L2 L2.DL K1
theorem BB {h:D}(hh:house h=true) (ok:okH h) (bx:List Bx):jj [.d h] bx=.val (.d .non) bx:=by
  have e:=Lc h ok bx;rw[hh]at e;have m:iH [some (.d h)] bx=.nx [some (.d h)] bx:=by
    unfold iH;exact jJ (iq (gO (fF (ff rfl rfl) rfl e)))
  show cutO bx.length (retO (iH [some (.d h)] bx))=_;rw[m];simp[retO,cutO]
section
variable {hs : List D} {c hold hour : Int} {x1 x2 : Option W} {bx : List Bx}
end
structure HouseI (d:D) (rs:List Int) (hold:Int):Prop where
  e:∃ k p,d=.tup [.tup (rs.map D.int),k,p,.int hold]
  r:∀ c∈rs,0<=c /\ c<=3
  n:1<=rs.length /\ rs.length<=5
  h:1<=hold /\ hold<=9
theorem GG {d:D}(h:house d=true):∃ rs hold,HouseI d rs hold:=by
  unfold house at h;split at h
  . rename_i r k p hd;simp only[zA]at h;obtain⟨h1,h2,h3,h4⟩:=h;cases r with
    | tup l =>
      simp only[rooms,zA]at h1;have n:=jU h1.1;obtain⟨rs,rfl⟩:=Cr h1.2;obtain⟨i,rfl,i1,i2⟩:=lO h4;rw[List.length_map]at n;refine⟨rs,i,⟨k,p,rfl⟩,λc m=>?_,by omega,i1,i2⟩;have:=List.all_eq_true.mp h1.2 (.int c) (List.mem_map_of_mem m);simpa[wi] using this
    |_=>simp[rooms]at h1
  . simp at h
section
variable {d : D} {rs : List Int} {hold hour : Int} {bx : List Bx}
end
end K2
namespace L2.DL
section
variable {env env1 : DEnv} {bx bx1 bx2 : List Bx} {m : DE W} {ks : DE (List W)} {l : List W} {c : Nat}
theorem N6 {t:DE Bool}{m k:DE W}{w:W}(h:t env bx=.val true bx1) (h2:m env bx1=.val w bx2):dIf t m k env bx=.val w bx2:=by unfold dIf;rw[h,fZ];exact h2
theorem N7 {t:DE Bool}{m k:DE W}{w:W}(h:t env bx=.val false bx1) (h2:k env bx1=.val w bx2):dIf t m k env bx=.val w bx2:=by unfold dIf;rw[h,fZ];exact h2
end
end L2.DL
namespace K2
open PySem PySem.Spec PyProof.Rows L2 L2.DL K1
section
variable {h : D} {rs : List Int} {hold : Int} {bx : List Bx}
theorem Ng (H:HouseI h rs hold) {f:List W->List Bx->O W}(hf:∀ d lo hi bx,f [.d d,.d (.int lo),.d (.int hi)] bx=.val (.d (.bl (wi d lo hi))) bx) (r:D) {i j:Nat}{env:DEnv}(e1:dV i env bx=.val (.d h) bx) (e2:dV j env bx=.val (.d r) bx) :
    fk f 3 (fc (dV j) (fc (dC (.int 0)) (fc (d2 false subD (dN false lenD (fc (d2 false ixD (dV i) (dC (.int 0))) fe)) (dC (.int 1))) fe))) env bx=.val (.d (.bl (wi r 0 ((rs.length:Int)-1)))) bx:=by
  obtain⟨⟨k,p,rfl⟩,_⟩:=H;have e0:ixD (.tup [.tup (rs.map D.int),k,p,.int hold]) (.int 0)=some (.old (.tup (rs.map D.int))):=by simp[ixD,atI,ixN]
  have el:lenD [.tup (rs.map D.int)]=some (.old (.int rs.length)):=by simp[lenD]
  exact fF (ff e2 (ff rfl (ff (fM (r:=.old _) (gZ [.tup (rs.map D.int)] (ff (fM e1 rfl e0) rfl) el) rfl rfl) rfl))) rfl (hf _ _ _ _)
theorem GH (H:HouseI h rs hold) (r:D):gM [.d h,.d r] bx=.val (.d (.bl (wi r 0 ((rs.length:Int)-1)))) bx :=
  gE (gh (Ng H iP r rfl rfl))
end
end K2
namespace K1
open PySem PySem.Spec PyProof.Rows L2 L2.DL
section
variable {bx : List Bx} {n : Nat} {p : Int} {x y : Bx} {E : List Bx}
theorem jX (h:n<bx.length):pt bx n p++E=pt (bx++E) n p:=by
  unfold pt;rw[List.set_append_left _ _ h]
theorem iy (h:n<bx.length):(pt (bx++[x]) n p)[bx.length]?=some x:=by
  rw[<-jX h,<-fY (bx:=bx) (n:=n) (p:=p)];exact List.getElem?_concat_length
theorem lu (h:n<bx.length):(pt (bx++[x]) n p).set bx.length y=pt (bx++[y]) n p:=by
  rw[<-jX h,<-jX h,<-fY (bx:=bx) (n:=n) (p:=p),List.set_append_right _ _ (zL _),Nat.sub_self];rfl
theorem Al (h:n<bx.length):(pt (bx++E) n p).take bx.length=pt bx n p:=by
  rw[<-jX h,<-fY (bx:=bx) (n:=n) (p:=p),List.take_left]
end
theorem Nh {bx:List Bx}{n:Nat}(h:n<bx.length) (p k:Int) (hk:0<k) (hk2:k<1073741824):∃ r q,fj [.b n,.d (.int k)] (pt bx n p)=.val (.d (.int r)) (pt bx n q) /\ 0<=r /\ r<k :=
  ⟨_,_,jD h p k hk hk2,mO p hk,mP p hk⟩
end K1
namespace K2
open PySem PySem.Spec PyProof.Rows L2 L2.DL K1
end K2
namespace L2.DL
open PySem PySem.Spec PyProof.Rows PySem.W
noncomputable def vOf:D->V
  |.non=>.non
  |.bl b=>.bl b
  |.int i=>.int i
  |.str x=>.str x
  |_=>.ty ""
noncomputable def flatD:D->Bool
  |.non=>true
  |.bl _=>true
  |.int _=>true
  |.str _=>true
  |_=>false
noncomputable def eqF (a b:D):Bool:=eqV (vOf a) (vOf b)
theorem mn {F:Hp}{d:D}{v:V}(f:flatD d=true) (h:Den F d v):v=vOf d /\ flatV v=true:=by
  cases d with
  |non=>cases (show v=.non from h);exact⟨rfl,rfl⟩
  |bl b=>cases (show v=.bl b from h);exact⟨rfl,rfl⟩
  |int i=>cases (show v=.int i from h);exact⟨rfl,rfl⟩
  |str x=>cases (show v=.str x from h);exact⟨rfl,rfl⟩
  |_=>cases f
theorem lv {F:Hp}:∀ {l:List D}{vs:List V},l.all flatD=true->DenL F l vs->vs=l.map vOf /\ vs.all flatV=true
  |[],_,_,h=>by cases (show _=[] from h);exact⟨rfl,rfl⟩
  | d::l,_,f,h=>by
    obtain⟨v,r,e,h1,h2⟩:=h;subst e;rw[List.all_cons,zA]at f;obtain⟨e1,f1⟩:=mn f.1 h1;obtain⟨e2,f2⟩:=lv f.2 h2;subst e1;subst e2;exact⟨rfl,by rw[List.all_cons,f1,f2];rfl⟩
noncomputable def inF (x:D) (l:List D):Bool:=l.any λy=>eqF y x
theorem FA (x:D) (l:List D):inV (vOf x) (l.map vOf)=inF x l:=by
  unfold inV inF;rw[List.any_map];rfl
noncomputable def inD0 (neg:Bool):D->D->Option Res:=λx y=>match y with
  |.lst l=>if flatD x=true /\ l.all flatD=true then some (.old (.bl (if neg then !inF x l else inF x l))) else none
  |.tup l=>if flatD x=true /\ l.all flatD=true then some (.old (.bl (if neg then !inF x l else inF x l))) else none
  |_=>none
theorem okIn0 {K:Frag}(neg:Bool):Ok2 (rIn K neg) (inD0 neg):=by
  intro F H x y v w Q s sub hx hy e k;unfold inD0 at e;have fx:∀ {d:D},flatD d=true->Rdd F H d v->Den F d v:=λ{d} f h=>by
    cases d with
    |non=>exact h
    |bl b=>exact h
    |int i=>exact h
    |str z=>exact h
    |_=>cases f
  cases y with
  | lst l =>
    simp only at e;split at e
    . rename_i f;cases e;obtain⟨a,vs,rfl,h1,h2⟩:=hy;obtain⟨e1,f1⟩:=mn f.1 (fx f.1 hx);obtain⟨e2,f2⟩:=lv f.2 h2;subst e1;subst e2;refine⟨a,_,rfl,.inl (SqL.of h1),f1,f2,?_⟩;rw[FA];exact k _ _ ⟨rfl,rfl⟩
    . cases e
  | tup l =>
    simp only at e;split at e
    . rename_i f;cases e;obtain⟨a,vs,rfl,h1,h2⟩:=hy;obtain⟨e1,f1⟩:=mn f.1 (fx f.1 hx);obtain⟨e2,f2⟩:=lv f.2 h2;subst e1;subst e2;refine⟨a,_,rfl,.inr (SqT.of (sub _ _ h1)),f1,f2,?_⟩;rw[FA];exact k _ _ ⟨rfl,rfl⟩
    . cases e
  |_=>cases e
def rInG (neg:Bool):R2:=λx y H Q=>∃ F dx dy,Sub F H /\ Rdd F H dx x /\ Rdd F H dy y /\ okQ dx=true /\ okQ dy=true /\ ∃ l,(dy=.lst l \/ dy=.tup l) /\ Q (.bl (if neg then !(l.any λz=>eqv z dx) else l.any λz=>eqv z dx)) H
theorem js (dx:D):∀ l:List D,((toPys l).any λy=>PyData.eqv y (toPy dx))=l.any λz=>eqv z dx
  |[]=>rfl
  | z::l=>by
    show (PyData.eqv (toPy z) (toPy dx)||_)=_;rw[js dx l];rfl
theorem PP {X:Cx}(hu:X.A.units+100<cLine):OpR X (compareOp .In) (rInG false):=by
  intro pins s σ H x y v u Q I rx ry h;obtain⟨F,dx,dy,sub,hx,hy,ox,oy,l,hl,q⟩:=h;obtain⟨as,ra⟩:=g6 I sub hx rx;obtain⟨bs,rb⟩:=g6 I sub hy ry;obtain⟨x1,x2⟩:=jO ox;obtain⟨y1,y2⟩:=jO oy;rcases hl with rfl|rfl
  . exact SeqAt.in_list_reads rb ra y1 x1 (by omega) (by rw[js];exact⟨.bl _,H,I,rfl,q⟩)
  . exact SeqAt.in_tuple_reads rb ra y1 x1 (by omega) (by rw[js];exact⟨.bl _,H,I,rfl,q⟩)
theorem GI {X:Cx}(hu:X.A.units+100<cLine):OpR X (compareOp .NotIn) (rInG true):=by
  intro pins s σ H x y v u Q I rx ry h;obtain⟨F,dx,dy,sub,hx,hy,ox,oy,l,hl,q⟩:=h;obtain⟨as,ra⟩:=g6 I sub hx rx;obtain⟨bs,rb⟩:=g6 I sub hy ry;obtain⟨x1,x2⟩:=jO ox;obtain⟨y1,y2⟩:=jO oy;rcases hl with rfl|rfl
  . exact SeqAt.notIn_list_reads rb ra y1 x1 (by omega) (by rw[js];exact⟨.bl _,H,I,rfl,q⟩)
  . exact SeqAt.notIn_tuple_reads rb ra y1 x1 (by omega) (by rw[js];exact⟨.bl _,H,I,rfl,q⟩)
noncomputable def gIn (neg:Bool) (x y:D) (l:List D):Option Res:=if okQ x&&okQ y then some (.old (.bl (if neg then !(l.any λz=>eqv z x) else l.any λz=>eqv z x))) else none
noncomputable def inD (neg:Bool):D->D->Option Res:=λx y=>match y with
  |.lst l=>if flatD x=true /\ l.all flatD=true then some (.old (.bl (if neg then !inF x l else inF x l))) else gIn neg x y l
  |.tup l=>if flatD x=true /\ l.all flatD=true then some (.old (.bl (if neg then !inF x l else inF x l))) else gIn neg x y l
  |_=>none
theorem okIn {K:Frag}(neg:Bool):Ok2 (λx y H Q=>rIn K neg x y H Q \/ rInG neg x y H Q) (inD neg):=by
  intro F H x y v w Q s sub hx hy e k;have g:∀ l,(y=.lst l \/ y=.tup l)->gIn neg x y l=some s->rInG neg v w H Q:=λl hl e=>by
    unfold gIn at e;split at e
    . rename_i c;rw[zA]at c;cases e;exact⟨F,x,y,sub,hx,hy,c.1,c.2,l,hl,k _ _ ⟨rfl,rfl⟩⟩
    . cases e
  unfold inD at e;split at e
  . rename_i l;split at e
    . rename_i f;exact .inl (okIn0 neg F H x (.lst l) v w Q s sub hx hy (by unfold inD0;simp only;rw[if_pos f];exact e) k)
    . exact .inr (g l (.inl rfl) e)
  . rename_i l;split at e
    . rename_i f;exact .inl (okIn0 neg F H x (.tup l) v w Q s sub hx hy (by unfold inD0;simp only;rw[if_pos f];exact e) k)
    . exact .inr (g l (.inr rfl) e)
  . cases e
section
variable {X : Cx} {T : Fr} {Z : Xs} {a b e o : Expr} {es : List Expr} {ma mb mc : DE W} {pos p apos : Pos}
noncomputable def dIndex (m k:DE W):DE W:=λenv bx=>fA (m env bx) λx bx1=>match rdW bx1 x with
  | some (.lst _)=>fA (k env bx1) λy bx2=>(match y,rdW bx2 x with
    |.d d,some (.lst l)=>if flatD d=true /\ l.all flatD=true then (match l.findIdx? λz=>eqF z d with|some j=>.val (.d (.int (j:Nat))) bx2|none=>.bad) else .bad
    |_,_=>.bad)
  |_=>.bad
theorem Lq {F:Hp}{r:List Addr}{σ:St}{H:Hp}{env:DEnv}{bx:List Bx}(R:Rel T F r σ H env bx) {w:W}{v:V}(d:DenW F r w v) {l:List D}(e:rdW bx w=some (.lst l)):∃ a vs,v=.ref a /\ H a=some (.lst vs) /\ DenL F l vs:=by
  cases w with
  | d x =>
    cases (show some x=some (.lst l) from e);obtain⟨a,vs,rfl,h1,h2⟩:=d;exact⟨a,vs,rfl,R.fh _ _ h1,h2⟩
  | b n =>
    obtain⟨a,rfl,ha⟩:=d;obtain⟨c,hc,kc⟩:=R.bat ha;simp only[rdW,hc]at e;cases c with
    | lst l' =>
      cases e;obtain⟨_,vs,h1,h2⟩:=kc;exact⟨a,vs,rfl,h1,h2⟩
    |dic l'=>cases e
    |dead=>cases e
  |s l'=>cases e
  |x i=>cases e
theorem Ni {σ:St}{H:Hp}{Q:VK}(h:tD T Z (dIndex ma mb) σ H Q):tBM X.K "list" rIndex (tD T Z ma) (tCons (tD T Z mb) tNil) σ H Q:=by
  obtain⟨F,r,env,bx,R,h⟩:=h;refine⟨F,r,env,bx,R,End.bind h λx bx1 F1 r1 v H1 g1 R1 d1 h1=>?_⟩;cases q:rdW bx1 x with
  |none=>rw[q]at h1;exact h1.elim
  | some dx =>
    rw[q]at h1;cases dx with
    | lst l0 =>
      simp only at h1;obtain⟨a,vs,rfl,k1,k2⟩:=Lq R1 d1 q;refine⟨.inl ⟨rfl,vs,SqL.of k1⟩,F1,r1,env,bx1,R1,End.bind h1 λy bx2 F2 r2 u H2 g2 R2 d2 h2=>?_⟩;split at h2
      . rename_i d l q2;split at h2
        . rename_i f;obtain⟨a',vs',ea,k3,k4⟩:=Lq R2 (g2.den d1) q2;cases ea;obtain⟨e1,f1⟩:=mn f.1 d2;obtain⟨e2,f2⟩:=lv f.2 k4;subst e1;subst e2;split at h2
          . rename_i j hj;obtain⟨hl,hj1,hj2⟩:=List.findIdx?_eq_some_iff_getElem.mp hj;refine⟨a,l.map vOf,vOf d,j,rfl,rfl,k3,f2,f1,by rw[List.length_map];exact hl,λz hz=>?_,λm z hm hz=>?_,h2 F2 r2 _ H2 (.refl F2 r2) R2 rfl⟩
            . rw[List.getElem?_map,List.getElem?_eq_getElem hl]at hz;cases hz;exact hj1
            . rw[List.getElem?_map,List.getElem?_eq_getElem (by omega:m<l.length)]at hz;cases hz;have:=hj2 m hm;simpa[eqF] using this
          . exact h2.elim
        . exact h2.elim
      . exact h2.elim
    |_=>exact h1.elim
theorem Lr (ho:PD X T Z o ma) (ha:PD X T Z e mb) (hns:nst e=true:=by rfl)
    (hbase:attributeBase o "index" X.env (eval o X.env)=eval o X.env:=by rfl)
    (hfew:((backTo pos (starEach [e] X.env)).all (λx=>!x.1)&&(backToKw pos (keywordEach [] X.env)).all (λx=>x.1.isSome)
      && decide ([e].length+([]:List Keyword).length+(if ([]:List Keyword).isEmpty then 0 else 1)<30))=true:=by rfl)
    (hline:(apos.endLine==pos.line)=true:=by rfl):PD X T Z (.Call (.Attribute o "index" apos) [e] [] pos) (dIndex ma mb):=
  PE.imp (BP PySem.F.plainAttrs_list PySem.F.slot_list_index PySem.F.type_list_index BW ho (fm ha fS (fE hns [] X.env)) hbase hfew hline (fE hns [] X.env) (by rfl)) λσ H Q h=>Ni h
end
end L2.DL
namespace L2
open PySem PySem.Spec PyProof.Rows
end L2
namespace L2.DL
open PySem PySem.Spec PyProof.Rows
section
variable {X : Cx} {T : Fr} {Z : Xs} {a : Expr} {p pos tp : Pos} {elts : List Expr} {kt : Nat} {k : DE (List W)}
noncomputable def dDicV (bo:Bool) (k:Int) (i:Nat):DE W:=λenv bx=>match env[i]? with
  |some (some (.d d))=>resO bo (some (.dic [(.inl k,d)])) bx
  |_=>.bad
theorem Nj (bo:Bool) (i:Nat) {k:Int}{x:Str}{j1:Nat}{q1 vpos:Pos}(hv:okV X.N X.env.scope i x=true):PD X T Z (.Dict [some (.Constant (.int k) j1 q1)] [.Name x vpos] pos) (dDicV bo k i):=by
  simp only[okV,zA,Bool.or_eq_true,decide_eq_true_eq,Bool.not_eq_true']at hv;obtain⟨⟨⟨h1,h2⟩,h3⟩,h4⟩:=hv;have h5:Vis X.env.scope x:=by
    rcases h2 with(h2|h2)|h2
    . exact .inl h2
    . exact .inr (.inl h2)
    . exact .inr (.inr h2)
  refine PE.imp (Fd (B8 mE (oI h1 h5 h3 h4) Fc) rfl rfl (by simp) (by simp)) λσ H Q ⟨F,r,env,bx,R,h⟩=>?_;unfold dDicV at h;split at h
  . rename_i d he;obtain⟨v,e1,e2⟩:=R.slot i _ he;intro p hp;refine⟨v,e1,fC,[(.inl k,v)],rfl,by simp,?_⟩;rw[DA];exact gX R h ⟨p,[(.inl k,v)],rfl,hp,rfl,⟨_,_,rfl,e2,rfl⟩⟩
  . exact h.elim
theorem Ls {a b:Expr}{ks:DE (List W)}{x y:Str}{px py pt:Pos}{kt k2 pt2}(i j:Nat) (hc:X.calm=true) (hN:X.N.Nodup) (ha:PDA X T Z [a,b] ks) (hi:X.N[i]?=some x:=by rfl) (hj:X.N[j]?=some y:=by rfl)
    (hx:Loc X.env.scope x:=by first|exact Or.inl rfl|exact Or.inr rfl) (hy:Loc X.env.scope y:=by first|exact Or.inl rfl|exact Or.inr rfl)
    (hfx:X.fn x=true \/ X.env.scope.names.lookup x=some .local:=by first|exact .inl rfl|exact .inr rfl) (hfy:X.fn y=true \/ X.env.scope.names.lookup y=some .local:=by first|exact .inl rfl|exact .inr rfl)
    (hs:swapsWithSole [.Tuple [.Name x px,.Name y py] kt pt] (.Tuple [a,b] k2 pt2) pos.line X.env=pure false:=by rfl)
    (hw:swappedStores [.Tuple [.Name x px,.Name y py] kt pt] (.Tuple [a,b] k2 pt2) X.env=pure none:=by rfl)
    (h0:(assignEach [.Tuple [.Name x px,.Name y py] kt pt] X.env).map (·.2)=[assign (.Tuple [.Name x px,.Name y py] kt pt) X.env]:=by rfl)
    (h1:(assignEach [.Name x px,.Name y py] X.env).map (·.2)=assign (.Name x px) X.env::(assignEach [.Name y py] X.env).map (·.2):=by rfl)
    (h2:(assignEach [.Name y py] X.env).map (·.2)=assign (.Name y py) X.env::(assignEach [] X.env).map (·.2):=by rfl)
    (hn:(assignEach [.Name x px,.Name y py] X.env).length=2:=by rfl) (hst:(assignEach [.Name x px,.Name y py] X.env).findIdx? (·.1)=none:=by rfl) :
    PSD X T Z (.Assign [.Tuple [.Name x px,.Name y py] kt pt] (.Tuple [a,b] k2 pt2) pos) (sPar i j ks):=by
  refine PS.imp (G6 (Jd ha) (G5 hc (oJ (Bc hN hi hx hfx) (oJ (Bc hN hj hy hfy) DH h2) h1) hn hst) hs hw h0) λD σ H ⟨F,r,env,bx,R,h⟩=>?_;refine⟨F,r,env,bx,R,End.bindS h λws bx1 F1 r1 vs H1 g1 R1 d1 h1=>?_⟩;split at h1
  . obtain⟨v,t,rfl,q1,u,t2,rfl,q2,q3⟩:=d1;cases (show t2=[] from q3);refine⟨by show 2<=sizeLine;decide,λp hp=>?_⟩;have gr:=R1.growD (o:=.tup [v,u]) hp;exact⟨p,[v,u],rfl,SqT.of fC,rfl,v,[u],rfl,u,[],rfl,rfl,h1 _ r1 _ _ gr (((R1.allocD hp).set (gr.den q1) i).set (gr.den q2) j)⟩
  . exact h1.elim
end
end L2.DL
namespace K52
open PySem PySem.Spec PyProof.Rows L2 L2.DL
noncomputable def jY:DSt:=(fG (fP (dN false tupleD (fc (fD false [none,some 0] (dRng1 (fc (d2 false fH (dC (.int 1)) (fk K1.fj 2 (fc (dV 0) (fc (dC (.int 5)) fe)))) fe)) (fg 0) fL (fk K1.fj 2 (fc (dV 1) (fc (dC (.int 4)) fe)))) fe)) (fg 1)) (fG (fP (fN true fe) (fg 2)) (fG (il (dRng1 (fc (d2 false fH (dC (.int 1)) (fk K1.fj 2 (fc (dV 0) (fc (d2 false ixD (fN false (fc (dC (.int 1)) (fc (dC (.int 2)) (fc (dC (.int 4)) fe)))) (fk K1.fj 2 (fc (dV 0) (fc (dC (.int 3)) fe)))) fe)))) fe)) (fg 3) (fG (fP (dN false sortA (fc (fD false [none,some 0] (dRng1 (fc (dC (.int 4)) fe)) (fg 0) fL (fk K1.fj 2 (fc (dV 1) (fc (d2 false ixD (fN false (fc (dC (.int 2)) (fc (dC (.int 4)) (fc (dC (.int 10)) fe)))) (fk K1.fj 2 (fc (dV 1) (fc (dC (.int 3)) fe)))) fe)))) fe)) (fg 4)) (iB (dApp (dV 2) (ge (fc (d2 false ixD (fN false (fc (dC (.int 5)) (fc (dC (.int 40)) (fc (dC (.int 300)) (fc (dC (.int 999)) fe))))) (fk K1.fj 2 (fc (dV 0) (fc (dC (.int 4)) fe)))) (fc (dN false tupleD (fc (dRev false (dV 4)) fe)) fe))))))) (fG (fP (fN true fe) (fg 5)) (fG (il (dRng1 (fc (dN false lenD (fc (dV 2) fe)) fe)) (fg 6) (il (dRng2 (fc (d2 false fH (dV 6) (dC (.int 1))) (fc (dN false lenD (fc (dV 2) fe)) fe))) (fg 7) (sIf (dB (d2 false eqD (fk K1.fj 2 (fc (dV 0) (fc (dC (.int 3)) fe))) (dC (.int 0)))) (iB (dApp (dV 5) (ge (fc (dV 6) (fc (dV 7) fe))))) sNil))) (fQ (ge (fc (dV 1) (fc (dN false tupleD (fc (dV 2) fe)) (fc (dN false tupleD (fc (dV 5) fe)) (fc (d2 false fH (dC (.int 1)) (fk K1.fj 2 (fc (dV 0) (fc (d2 false ixD (fN false (fc (dC (.int 3)) (fc (dC (.int 9)) fe))) (fk K1.fj 2 (fc (dV 0) (fc (dC (.int 2)) fe)))) fe)))) fe)))))))))))
noncomputable def iJ:List W->List Bx->O W:=fnD 8 (noX jY)
noncomputable def jZ:DSt:=(fG (sPar 2 3 (fc (dN false lenD (fc (d2 false ixD (dV 1) (dC (.int 0))) fe)) (fc (fN true fe) fe))) (fG (il (dRng1 (fc (dIf (dB (d2 false gtI (dV 2) (dC (.int 1)))) (fk K1.fj 2 (fc (dV 0) (fc (dC (.int 11)) fe))) (dC (.int 0))) fe)) (fg 4) (fG (fP (fk K1.fj 2 (fc (dV 0) (fc (dV 2) fe))) (fg 5)) (fG (fP (d2 false modD (d2 false fH (d2 false fH (dV 5) (dC (.int 1))) (fk K1.fj 2 (fc (dV 0) (fc (d2 false subD (dV 2) (dC (.int 1))) fe)))) (dV 2)) (fg 6)) (fG (iB (dApp (dV 3) (ge (fc (dV 5) (fc (dV 6) fe))))) (sIf (dB (d2 false eqD (fk K1.fj 2 (fc (dV 0) (fc (dC (.int 5)) fe))) (dC (.int 0)))) (fP (ge (fc (d2 false ixD (d2 false ixD (dV 3) (dC (.int 0))) (dC (.int 1))) (fc (d2 false ixD (d2 false ixD (dV 3) (dC (.int 0))) (dC (.int 0))) fe))) (gdSub (dV 3) (dNeg (dC (.int 1))))) sNil))))) (fQ (dFrz 3))))
noncomputable def iK:List W->List Bx->O W:=fnD 7 (noX jZ)
noncomputable def mS:DSt:=(fQ (gf (fk K1.f7 3 (fc (dV 1) (fc (dC (.int 2)) (fc (dC (.int 2)) fe)))) (gf (dN false allD (fc (fD false [none,some 0] (dIter (dV 1)) (fg 0) fL (fk K2.gM 2 (fc (dV 1) (fc (dV 0) fe)))) fe)) (d2 false neD (d2 false ixD (dV 1) (dC (.int 0))) (d2 false ixD (dV 1) (dC (.int 1)))))))
noncomputable def iT:List W->List Bx->O W:=fnD 2 (noX mS)
noncomputable def j0:DSt:=(fQ (gf (gK "list" (dV 1)) (gf (d2 false leD (dN false lenD (fc (dV 1) fe)) (dC (.int 10))) (dN false allD (fc (fD false [none,some 0] (dIter (dV 1)) (fg 0) fL (fk K52.iT 2 (fc (dV 1) (fc (dV 0) fe)))) fe)))))
noncomputable def jE:List W->List Bx->O W:=fnD 2 (noX j0)
end K52
namespace K52
open PySem PySem.Spec PyProof.Rows L2 L2.DL K1
section
variable {bx : List Bx} {n : Nat} {env : DEnv} {i : Nat}
theorem jF (h:n<bx.length) {p p1:Int}(he:env[i]?=some (some (.b n))) {m:DE W}{k:Int}(hm:m env (pt bx n p)=.val (.d (.int k)) (pt bx n p1)) (h0:0<k) (h1:k<1073741824) :
    ∃ r q,fk K1.fj 2 (fc (dV i) (fc m fe)) env (pt bx n p)=.val (.d (.int r)) (pt bx n q) /\ 0<=r /\ r<k:=by
  obtain⟨r,q,t,a,b⟩:=Nh h p1 k h0 h1;refine⟨r,q,?_,a,b⟩;have e0:dV i env (pt bx n p)=.val (.b n) (pt bx n p):=by unfold dV;rw[he]
  exact fF (ff e0 (ff hm rfl)) rfl t
theorem takeC (h:n<bx.length) (p:Int) (he:env[i]?=some (some (.b n))) (k:Int) (h0:0<k) (h1:k<1073741824) :
    ∃ r q,fk K1.fj 2 (fc (dV i) (fc (dC (.int k)) fe)) env (pt bx n p)=.val (.d (.int r)) (pt bx n q) /\ 0<=r /\ r<k :=
  jF h he (m:=dC (.int k)) rfl h0 h1
theorem Am (h:n<bx.length) (p:Int) (he:env[i]?=some (some (.b n))) (l:List Int) {ks:DE (List W)}(hk:∀ e b,ks e b=.val ((l.map D.int).map W.d) b) {k:Int}(hl:(l.length:Int)=k) (h0:0<k) (h1:k<1000) :
    ∃ v q,d2 false ixD (fN false ks) (fk K1.fj 2 (fc (dV i) (fc (dC (.int k)) fe))) env (pt bx n p)=.val (.d (.int v)) (pt bx n q) /\ v∈l:=by
  obtain⟨r,q,t,a,b⟩:=takeC h p he k h0 (by omega);obtain⟨d,e,m⟩:=li (l:=l.map D.int) a (by rw[List.length_map,hl];exact b);obtain⟨v,mv,rfl⟩:=List.mem_map.mp m;have sz:sizeLine=16777216:=sizeLine_eq;exact⟨v,q,fM (r:=.old (.int v)) (gN (l.map D.int) (hk _ _) (by rw[List.length_map];omega)) t (by simp only[ixD,e,Option.map_some]),mv⟩
theorem Lu {m:DE W}{bx bx1:List Bx}{j:Nat}{l:List D}(h:m env bx=.val (.b j) bx1) (g:bx1[j]?=some (.lst l)):dN false lenD (fc m fe) env bx=.val (.d (.int l.length)) bx1:=by
  rw[JY,ff (w:=.b j) (l:=[]) h rfl,fZ];have:rdWs bx1 [.b j]=some [.lst l]:=by simp only[rdWs,rdW,g,Option.bind_some,Option.map_some]
  rw[this];rfl
theorem BC {m:DE W}{bx bx1:List Bx}{j:Nat}{l:List D}(h:m env bx=.val (.b j) bx1) (g:bx1[j]?=some (.lst l)):dN false tupleD (fc m fe) env bx=.val (.d (.tup l)) bx1:=by
  rw[JY,ff (w:=.b j) (l:=[]) h rfl,fZ];have:rdWs bx1 [.b j]=some [.lst l]:=by simp only[rdWs,rdW,g,Option.bind_some,Option.map_some]
  rw[this];rfl
theorem N8 {p:Int}{j:Nat}(h:j≠n):(pt bx n p)[j]?=bx[j]?:=by unfold pt;rw[List.getElem?_set_ne (Ne.symm h)]
end
noncomputable abbrev mRooms:DE W:=dN false tupleD (fc (fD false [none,some 0] (dRng1 (fc (d2 false fH (dC (.int 1)) (fk K1.fj 2 (fc (dV 0) (fc (dC (.int 5)) fe)))) fe)) (fg 0) fL (fk K1.fj 2 (fc (dV 1) (fc (dC (.int 4)) fe)))) fe)
theorem Nk {bx:List Bx}{n:Nat}(h:n<bx.length) (p:Int) (env:DEnv):∃ ds q,rooms (.tup ds)=true /\ mRooms (some (.b n)::env) (pt bx n p)=.val (.d (.tup ds)) (pt bx n q):=by
  have sz:sizeLine=16777216:=sizeLine_eq;obtain⟨r,q0,t5,lo,hi⟩:=takeC h p (env:=some (.b n)::env) (i:=0) rfl 5 (by decide) (by decide);obtain⟨j,rfl⟩:=Int.eq_ofNat_of_zero_le lo
  obtain⟨ds,q,e1,e2,e3⟩:=oF (g:=fg 0) (te:=fk K1.fj 2 (fc (dV 1) (fc (dC (.int 4)) fe))) (λe=>∃ w,e=[w,some (.b n)]) (λd=>wi d 0 3=true) (bx:=bx) (n:=n) (fv 0 (1+j)) [none,some (.b n)] q0 [] ⟨none,rfl⟩ (by
      intro w _ env p ⟨w0,je⟩;obtain⟨r,q,t,b1,b2⟩:=takeC h p (env:=[some w,some (.b n)]) (i:=1) rfl 4 (by decide) (by decide);exact⟨[some w,some (.b n)],by simp[je],⟨_,rfl⟩,.int r,q,t,by simp[wi];omega⟩) (by simp[fv];omega)
  have n5:ds.length=1+j:=by rw[e2];simp[fv]
  refine⟨ds,q,?_,?_⟩
  . have a1:tl (.tup ds) 1 5=true:=by simp[tl];omega
    have a2:(ds.all λx=>wi x 0 3)=true:=List.all_eq_true.mpr e3;simp[rooms,a1,a2]
  . have rg:dRng1 (fc (d2 false fH (dC (.int 1)) (fk K1.fj 2 (fc (dV 0) (fc (dC (.int 5)) fe)))) fe) (some (.b n)::env) (pt bx n p)=.val (fv 0 (1+j)) (pt bx n q0):=by
      have a:=ff (ks:=fe) (fM (g:=fH) (r:=.old (.int (1+(j:Int)))) (m:=dC (.int 1)) rfl t5 rfl) rfl;rw[io a (by omega),show (1+(j:Int)).toNat=1+j by omega]
    rw[List.nil_append]at e1;exact gZ (r:=.tup ds) [.lst ds] (ff (jg rg rfl e1) rfl) rfl
noncomputable abbrev kBody:DSt:=fG (fP (dN false sortA (fc (fD false [none,some 0] (dRng1 (fc (dC (.int 4)) fe)) (fg 0) fL (fk K1.fj 2 (fc (dV 1) (fc (d2 false ixD (fN false (fc (dC (.int 2)) (fc (dC (.int 4)) (fc (dC (.int 10)) fe)))) (fk K1.fj 2 (fc (dV 1) (fc (dC (.int 3)) fe)))) fe)))) fe)) (fg 4)) (iB (dApp (dV 2) (ge (fc (d2 false ixD (fN false (fc (dC (.int 5)) (fc (dC (.int 40)) (fc (dC (.int 300)) (fc (dC (.int 999)) fe))))) (fk K1.fj 2 (fc (dV 0) (fc (dC (.int 4)) fe)))) (fc (dN false tupleD (fc (dRev false (dV 4)) fe)) fe)))))
theorem Nl {bx:List Bx}{n:Nat}(h:n<bx.length) (p:Int) (ks:List D) (hl:ks.length<=1000) (x1 x3 x4 x5 x6 x7:Option W) :
    ∃ k x q,kBody [some (.b n),x1,some (.b bx.length),x3,x4,x5,x6,x7] (pt (bx++[.lst ks]) n p)=.nx [some (.b n),x1,some (.b bx.length),x3,x,x5,x6,x7] (pt (bx++[.lst (ks++[k])]) n q) /\ kind k=true:=by
  have sz:sizeLine=16777216:=sizeLine_eq;have h1:n<(bx++[Bx.lst ks]).length:=by simp;omega
  obtain⟨ds,q,e1,e2,e3⟩:=oF (g:=fg 0) (te:=fk K1.fj 2 (fc (dV 1) (fc (d2 false ixD (fN false (fc (dC (.int 2)) (fc (dC (.int 4)) (fc (dC (.int 10)) fe)))) (fk K1.fj 2 (fc (dV 1) (fc (dC (.int 3)) fe)))) fe))) (λe=>∃ w,e=[w,some (.b n)]) digit (bx:=bx++[Bx.lst ks]) (n:=n) (fv 0 4) [none,some (.b n)] p [] ⟨none,rfl⟩ (by
      intro w _ env p ⟨w0,je⟩;refine⟨[some w,some (.b n)],by simp[je],⟨_,rfl⟩,?_⟩;obtain⟨v,q,t,mv⟩:=Am h1 p (env:=[some w,some (.b n)]) (i:=1) rfl [2,4,10] (λ_ _=>rfl) (k:=3) rfl (by decide) (by decide);have hv:0<v /\ v<=10:=by simp at mv;omega
      obtain⟨r,q2,t2,b1,b2⟩:=jF h1 (env:=[some w,some (.b n)]) (i:=1) rfl t hv.1 (by omega);exact⟨.int r,q2,t2,r,rfl,b1,by omega⟩) (by simp[fv];omega)
  obtain⟨ns,rfl,hns⟩:=AV e3;have n4:ns.length=4:=by
    rw[List.length_map]at e2;rw[e2];simp[fv]
  have so:sortA [.lst (ns.map D.int)]=some (.lst ((sortI ns).map D.int)):=by simp[sortA,sortD,K1.jr,n4]
  have rr:=Li n4 hns;have rg:∀ env bx,dRng1 (fc (dC (.int 4)) fe) env bx=.val (fv 0 4) bx:=λenv bx=>io (j:=4) (bx1:=bx) (by simp) (by decide);rw[List.nil_append]at e1;generalize hS:(sortI ns).map D.int=S at so rr;obtain⟨v,q2,t4,mv⟩:=Am h1 q (env:=[some (.b n),x1,some (.b bx.length),x3,some (.d (.lst S)),x5,x6,x7]) (i:=0) rfl [5,40,300,999] (ks:=fc (dC (.int 5)) (fc (dC (.int 40)) (fc (dC (.int 300)) (fc (dC (.int 999)) fe)))) (λ_ _=>rfl) (k:=4) rfl (by decide) (by decide);have hv:wi (.int v) 1 999=true:=by simp at mv;simp[wi];omega
  refine⟨.tup [.int v,.tup S.reverse],some (.d (.lst S)),q2,?_,by simp[kind,tl,hv,rr]⟩;have b1:=iy (p:=q) (x:=.lst ks) h;have b2:=iy (p:=q2) (x:=.lst ks) h;have s1:fP (dN false sortA (fc (fD false [none,some 0] (dRng1 (fc (dC (.int 4)) fe)) (fg 0) fL (fk K1.fj 2 (fc (dV 1) (fc (d2 false ixD (fN false (fc (dC (.int 2)) (fc (dC (.int 4)) (fc (dC (.int 10)) fe)))) (fk K1.fj 2 (fc (dV 1) (fc (dC (.int 3)) fe)))) fe)))) fe)) (fg 4) [some (.b n),x1,some (.b bx.length),x3,x4,x5,x6,x7] (pt (bx++[.lst ks]) n p)=.nx [some (.b n),x1,some (.b bx.length),x3,some (.d (.lst S)),x5,x6,x7] (pt (bx++[.lst ks]) n q):=
    gw (gZ (r:=.lst S) [.lst (ns.map D.int)] (ff (jg (rg _ _) rfl e1) rfl) so)
  have tv:ge (fc (d2 false ixD (fN false (fc (dC (.int 5)) (fc (dC (.int 40)) (fc (dC (.int 300)) (fc (dC (.int 999)) fe))))) (fk K1.fj 2 (fc (dV 0) (fc (dC (.int 4)) fe)))) (fc (dN false tupleD (fc (dRev false (dV 4)) fe)) fe)) [some (.b n),x1,some (.b bx.length),x3,some (.d (.lst S)),x5,x6,x7] (pt (bx++[.lst ks]) n q)=.val (.d (.tup [.int v,.tup S.reverse])) (pt (bx++[.lst ks]) n q2):=by
    generalize pt (bx++[.lst ks]) n q=B at t4 ⊢;generalize pt (bx++[.lst ks]) n q2=B' at t4 ⊢;have r1:dRev false (dV 4) [some (.b n),x1,some (.b bx.length),x3,some (.d (.lst S)),x5,x6,x7] B'=.val (.d (.lst S.reverse)) B':=rfl;exact ig [.int v,.tup S.reverse] (ff t4 (ff (gZ (r:=.tup S.reverse) [.lst S.reverse] (ff r1 rfl) rfl) rfl)) (show (2:Nat)<=sizeLine by omega)
  have ap:=Fz (m:=dV 2) (env:=[some (.b n),x1,some (.b bx.length),x3,some (.d (.lst S)),x5,x6,x7]) rfl b1 tv b2 (by omega);rw[lu h]at ap;exact(fB s1).trans (jW ap)
theorem Cz:∀ {ps:List (Int×Int)}{x:Int×Int},incr ps=true->(∀ q∈ps,ltP q x=true)->incr (ps++[x])=true
  |[],_,_,_=>rfl
  |[p],x,_,h=>by simp[incr,h p (by simp)]
  | p::q::r,x,h,hx=>by
    simp only[incr,zA]at h;have ih:=Cz (ps:=q::r) (x:=x) h.2 (λz m=>hx z (List.mem_cons_of_mem _ m));show (ltP p q&&incr (q::(r++[x])))=true;rw[h.1];exact ih
theorem PQ {q x:Int×Int}(h:q.1<x.1 \/ (q.1=x.1 /\ q.2<x.2)):ltP q x=true:=by
  unfold ltP;simp only[HT.fK,HT.lB];split
  . split
    . omega
    . rw[decide_eq_true_eq];omega
  . rw[decide_eq_true_eq];omega
structure Up (ps:List (Int×Int)) (k:Nat) (a b:Int):Prop where
  i:incr ps=true
  bd:∀ q∈ps,0<=q.1 /\ q.1<q.2 /\ q.2<(k:Int)
  u:∀ q∈ps,q.1<a \/ (q.1=a /\ q.2<b)
theorem Up.push {ps:List (Int×Int)}{k:Nat}{a b:Int}(h:Up ps k a b) (h0:0<=a) (h1:a<b) (h2:b<(k:Int)):Up (ps++[(a,b)]) k a (b+1):=by
  refine⟨Cz h.i λq m=>PQ (h.u q m),λq m=>?_,λq m=>?_⟩
  . rcases List.mem_append.mp m with m|m
    . exact h.bd q m
    . rw[List.mem_singleton.mp m];exact⟨h0,h1,h2⟩
  . rcases List.mem_append.mp m with m|m
    . have:=h.u q m;omega
    . rw[List.mem_singleton.mp m];exact .inr ⟨rfl,by show b<b+1;omega⟩
theorem Up.next {ps:List (Int×Int)}{k:Nat}{a b:Int}(h:Up ps k a b):Up ps k a (b+1):=⟨h.i,h.bd,λq m=>by have:=h.u q m;omega⟩
theorem Up.row {ps:List (Int×Int)}{k:Nat}{a b c:Int}(h:Up ps k a b):Up ps k (a+1) c:=⟨h.i,h.bd,λq m=>by have:=h.u q m;omega⟩
noncomputable abbrev iBody:DSt:=sIf (dB (d2 false eqD (fk K1.fj 2 (fc (dV 0) (fc (dC (.int 3)) fe))) (dC (.int 0)))) (iB (dApp (dV 5) (ge (fc (dV 6) (fc (dV 7) fe))))) sNil
theorem AW {a b:Int}:eqD (.int a) (.int b)=some (.old (.bl (decide (a=b)))):=by simp[eqD]
theorem Nm {bx:List Bx}{n:Nat}(h:n<bx.length) (p:Int) (ps:List (Int×Int)) (hl:ps.length<=1000) (a b:Int) (x1 x2 x3 x4:Option W) :
    ∃ ps' q,iBody [some (.b n),x1,x2,x3,x4,some (.b bx.length),some (.d (.int a)),some (.d (.int b))] (pt (bx++[.lst (ps.map dP)]) n p)=.nx [some (.b n),x1,x2,x3,x4,some (.b bx.length),some (.d (.int a)),some (.d (.int b))] (pt (bx++[.lst (ps'.map dP)]) n q) /\ (ps'=ps \/ ps'=ps++[(a,b)]):=by
  have sz:sizeLine=16777216:=sizeLine_eq;have h1:n<(bx++[Bx.lst (ps.map dP)]).length:=by simp;omega
  obtain⟨r,q,t,b1,b2⟩:=takeC h1 p (env:=[some (.b n),x1,x2,x3,x4,some (.b bx.length),some (.d (.int a)),some (.d (.int b))]) (i:=0) rfl 3 (by decide) (by decide);have bg:=iy (p:=q) (x:=.lst (ps.map dP)) h;by_cases hr:r=0
  . refine⟨ps++[(a,b)],q,?_,.inr rfl⟩;have c:dB (d2 false eqD (fk K1.fj 2 (fc (dV 0) (fc (dC (.int 3)) fe))) (dC (.int 0))) [some (.b n),x1,x2,x3,x4,some (.b bx.length),some (.d (.int a)),some (.d (.int b))] (pt (bx++[.lst (ps.map dP)]) n p)=.val true (pt (bx++[.lst (ps.map dP)]) n q):=by
      refine gO (b:=true) (fM (r:=.old (.bl true)) t rfl ?_);rw[AW,hr];rfl
    have ap:=Fz (m:=dV 5) (k:=ge (fc (dV 6) (fc (dV 7) fe))) (env:=[some (.b n),x1,x2,x3,x4,some (.b bx.length),some (.d (.int a)),some (.d (.int b))]) (d:=dP (a,b)) rfl bg (ig [.int a,.int b] rfl (show (2:Nat)<=sizeLine by omega)) bg (by rw[List.length_map];omega);rw[lu h,show ps.map dP++[dP (a,b)]=(ps++[(a,b)]).map dP by simp]at ap;exact(lP c).trans (jW ap)
  . refine⟨ps,q,?_,.inl rfl⟩;have c:dB (d2 false eqD (fk K1.fj 2 (fc (dV 0) (fc (dC (.int 3)) fe))) (dC (.int 0))) [some (.b n),x1,x2,x3,x4,some (.b bx.length),some (.d (.int a)),some (.d (.int b))] (pt (bx++[.lst (ps.map dP)]) n p)=.val false (pt (bx++[.lst (ps.map dP)]) n q):=by
      refine gO (b:=false) (fM (r:=.old (.bl false)) t rfl ?_);rw[AW,decide_eq_false hr]
    exact jJ c
theorem iU {lo:Int}{m j:Nat}{w:W}(h:(fv lo m)[j]?=some w):w=.d (.int (lo+j)) /\ j<m:=by
  have hj:=(List.getElem?_eq_some_iff.mp h).1;have hm:j<m:=by simpa[fv] using hj
  simp[fv,hm]at h;exact⟨h.symm,hm⟩
theorem Nn {bx:List Bx}{n:Nat}(h:n<bx.length) (p:Int) (ps:List (Int×Int)) (k a:Nat) (hk:k<=4) (hl:ps.length<=4*a) (ha:a<k) (U:Up ps k a (a+1)) (x1 x2 x3 x4 w7:Option W) :
    ∃ ps' q w',forD (fg 7) iBody (fv ((a:Int)+1) (k-(a+1))) [some (.b n),x1,x2,x3,x4,some (.b bx.length),some (.d (.int a)),w7] (pt (bx++[.lst (ps.map dP)]) n p)=.nx [some (.b n),x1,x2,x3,x4,some (.b bx.length),some (.d (.int a)),w'] (pt (bx++[.lst (ps'.map dP)]) n q) /\ ps'.length<=4*(a+1) /\ Up ps' k ((a+1:Nat):Int) ((a+1:Nat)+1):=by
  obtain⟨env',bx',e,ps',q,w',rfl,rfl,U',l'⟩:=iI (g:=fg 7) (body:=iBody) (λj env bb=>∃ ps' q w',env=[some (.b n),x1,x2,x3,x4,some (.b bx.length),some (.d (.int a)),w'] /\ bb=pt (bx++[.lst (ps'.map dP)]) n q /\ Up ps' k a ((a:Int)+1+(j:Nat)) /\ ps'.length<=4*a+j) (fv ((a:Int)+1) (k-(a+1))) 0 _ _ ⟨ps,p,w7,rfl,rfl,by simpa using U,by omega⟩ (by
      rintro j w env bb hw ⟨ps',q,w',rfl,rfl,U',l'⟩;rw[Nat.zero_add]at U' l' ⊢;obtain⟨rfl,hj⟩:=iU hw;obtain⟨ps2,q2,e2,c⟩:=Nm h q ps' (by omega) (a:Int) ((a:Int)+1+(j:Nat)) x1 x2 x3 x4;refine⟨_,_,_,_,rfl,e2,ps2,q2,_,rfl,rfl,?_,?_⟩
      . rw[show ((a:Int)+1+((j+1:Nat):Int))=(a:Int)+1+(j:Nat)+1 by omega];rcases c with rfl|rfl
        . exact U'.next
        . exact U'.push (by omega) (by omega) (by omega)
      . rcases c with rfl|rfl
        . omega
        . simp;omega)
  have lr:(fv ((a:Int)+1) (k-(a+1))).length=k-(a+1):=by simp[fv]
  rw[lr]at l';refine⟨ps',q,w',e,by omega,?_⟩;have:=U'.row (c:=((a+1:Nat):Int)+1)
  push_cast at this ⊢
  exact this
noncomputable abbrev mRest:DSt:=il (dRng1 (fc (dN false lenD (fc (dV 2) fe)) fe)) (fg 6) (il (dRng2 (fc (d2 false fH (dV 6) (dC (.int 1))) (fc (dN false lenD (fc (dV 2) fe)) fe))) (fg 7) iBody)
theorem PR {bx:List Bx}{n:Nat}(h:n<bx.length) (p:Int) (ks:List D) (hk:ks.length<=4) (x1 x3 x4:Option W) :
    ∃ ps q w6 w7,mRest [some (.b n),x1,some (.b bx.length),x3,x4,some (.b (bx++[Bx.lst ks]).length),none,none] (pt (bx++[.lst ks]++[.lst []]) n p)=.nx [some (.b n),x1,some (.b bx.length),x3,x4,some (.b (bx++[Bx.lst ks]).length),w6,w7] (pt (bx++[.lst ks]++[.lst (ps.map dP)]) n q) /\ ps.length<=16 /\ incr ps=true /\ ∀ q∈ps,0<=q.1 /\ q.1<q.2 /\ q.2<(ks.length:Int):=by
  have h1:n<(bx++[Bx.lst ks]).length:=by simp;omega
  have gk:∀ (q:Int) (l:List D),(pt (bx++[.lst ks]++[.lst l]) n q)[bx.length]?=some (.lst ks):=λq l=>by
    rw[N8 (by omega)];simp
  have rg:dRng1 (fc (dN false lenD (fc (dV 2) fe)) fe) [some (.b n),x1,some (.b bx.length),x3,x4,some (.b (bx++[Bx.lst ks]).length),none,none] (pt (bx++[.lst ks]++[.lst []]) n p)=.val (fv 0 ks.length) (pt (bx++[.lst ks]++[.lst []]) n p):=by
    have g:=gk p [];generalize pt (bx++[.lst ks]++[.lst []]) n p=B at g ⊢;rw[io (ff (Lu (m:=dV 2) rfl g) rfl) (by omega),Int.toNat_natCast]
  obtain⟨env',bx',e,ps,q,w6,w7,rfl,rfl,l,U⟩:=iI (g:=fg 6) (body:=il (dRng2 (fc (d2 false fH (dV 6) (dC (.int 1))) (fc (dN false lenD (fc (dV 2) fe)) fe))) (fg 7) iBody) (λa env bb=>∃ ps q w6 w7,env=[some (.b n),x1,some (.b bx.length),x3,x4,some (.b (bx++[Bx.lst ks]).length),w6,w7] /\ bb=pt (bx++[.lst ks]++[.lst (ps.map dP)]) n q /\ ps.length<=4*a /\ Up ps ks.length (a:Nat) ((a:Nat)+1)) (fv 0 ks.length) 0 _ _ ⟨[],p,none,none,rfl,rfl,by simp,⟨rfl,by simp,by simp⟩⟩ (by
      rintro a w env bb hw ⟨ps,q,w6,w7,rfl,rfl,l,U⟩;rw[Nat.zero_add]at l U ⊢;obtain⟨rfl,ha⟩:=iU hw;rw[Int.zero_add];obtain⟨ps',q',w',e',l',U'⟩:=Nn h1 q ps ks.length a hk l ha U x1 (some (.b bx.length)) x3 x4 w7;refine⟨_,_,[some (.b n),x1,some (.b bx.length),x3,x4,some (.b (bx++[Bx.lst ks]).length),some (.d (.int a)),w'],pt (bx++[.lst ks]++[.lst (ps'.map dP)]) n q',rfl,?_,ps',q',some (.d (.int a)),w',rfl,rfl,l',U'⟩;have g:=gk q (ps.map dP);generalize pt (bx++[.lst ks]++[.lst (ps'.map dP)]) n q'=B' at e' ⊢;generalize pt (bx++[.lst ks]++[.lst (ps.map dP)]) n q=B at g e' ⊢;have r2:dRng2 (fc (d2 false fH (dV 6) (dC (.int 1))) (fc (dN false lenD (fc (dV 2) fe)) fe)) [some (.b n),x1,some (.b bx.length),x3,x4,some (.b (bx++[Bx.lst ks]).length),some (.d (.int a)),w7] B=.val (fv ((a:Int)+1) (ks.length-(a+1))) B:=by
        have c1:=ff (env:=[some (.b n),x1,some (.b bx.length),x3,x4,some (.b (bx++[Bx.lst ks]).length),some (.d (.int a)),w7]) (fM (g:=fH) (r:=.old (.int ((a:Int)+1))) (m:=dV 6) (k:=dC (.int 1)) rfl rfl rfl) (ff (ks:=fe) (Lu (m:=dV 2) rfl g) rfl);rw[La c1 (by omega),show ((ks.length:Int)-((a:Int)+1)).toNat=ks.length-(a+1) by omega]
      exact(iS r2).trans e')
  have lr:(fv 0 ks.length).length=ks.length:=by simp[fv]
  rw[lr,Nat.zero_add]at l U;exact⟨ps,q,w6,w7,(iS rg).trans e,by omega,U.i,U.bd⟩
theorem Lv {bx:List Bx}{n:Nat}(h:n<bx.length) (p:Int) (x1:Option W) :
    ∃ ks q x3 x4,il (dRng1 (fc (d2 false fH (dC (.int 1)) (fk K1.fj 2 (fc (dV 0) (fc (d2 false ixD (fN false (fc (dC (.int 1)) (fc (dC (.int 2)) (fc (dC (.int 4)) fe)))) (fk K1.fj 2 (fc (dV 0) (fc (dC (.int 3)) fe)))) fe)))) fe)) (fg 3) kBody [some (.b n),x1,some (.b bx.length),none,none,none,none,none] (pt (bx++[.lst []]) n p)=.nx [some (.b n),x1,some (.b bx.length),x3,x4,none,none,none] (pt (bx++[.lst ks]) n q) /\ 1<=ks.length /\ ks.length<=4 /\ ∀ k∈ks,kind k=true:=by
  have h1:n<(bx++[Bx.lst []]).length:=by simp;omega
  obtain⟨v,q,t,mv⟩:=Am h1 p (env:=[some (.b n),x1,some (.b bx.length),none,none,none,none,none]) (i:=0) rfl [1,2,4] (ks:=fc (dC (.int 1)) (fc (dC (.int 2)) (fc (dC (.int 4)) fe))) (λ_ _=>rfl) (k:=3) rfl (by decide) (by decide);have hv:0<v /\ v<=4:=by simp at mv;omega
  obtain⟨r,q2,t2,b1,b2⟩:=jF h1 (env:=[some (.b n),x1,some (.b bx.length),none,none,none,none,none]) (i:=0) rfl t hv.1 (by omega);obtain⟨j,rfl⟩:=Int.eq_ofNat_of_zero_le b1;have rg:dRng1 (fc (d2 false fH (dC (.int 1)) (fk K1.fj 2 (fc (dV 0) (fc (d2 false ixD (fN false (fc (dC (.int 1)) (fc (dC (.int 2)) (fc (dC (.int 4)) fe)))) (fk K1.fj 2 (fc (dV 0) (fc (dC (.int 3)) fe)))) fe)))) fe) [some (.b n),x1,some (.b bx.length),none,none,none,none,none] (pt (bx++[.lst []]) n p)=.val (fv 0 (1+j)) (pt (bx++[.lst []]) n q2):=by
    have a:=ff (ks:=fe) (fM (g:=fH) (r:=.old (.int (1+(j:Int)))) (m:=dC (.int 1)) rfl t2 rfl) rfl;rw[io a (by omega),show (1+(j:Int)).toNat=1+j by omega]
  obtain⟨env',bx',e,ks,q3,x3,x4,rfl,rfl,l,hk⟩:=iI (g:=fg 3) (body:=kBody) (λi env bb=>∃ ks q x3 x4,env=[some (.b n),x1,some (.b bx.length),x3,x4,none,none,none] /\ bb=pt (bx++[.lst ks]) n q /\ ks.length=i /\ ∀ k∈ks,kind k=true) (fv 0 (1+j)) 0 _ _ ⟨[],q2,none,none,rfl,rfl,rfl,by simp⟩ (by
      rintro i w env bb hw ⟨ks,q,x3,x4,rfl,rfl,l,hk⟩;rw[Nat.zero_add]at l ⊢;obtain⟨rfl,hi⟩:=iU hw;obtain⟨k,x,q',e',hk'⟩:=Nl h q ks (by omega) x1 (some (.d (.int (0+(i:Nat))))) x4 none none none;refine⟨_,_,[some (.b n),x1,some (.b bx.length),some (.d (.int (0+(i:Nat)))),x,none,none,none],_,rfl,e',ks++[k],q',_,x,rfl,rfl,by simp[l],λz m=>?_⟩;rcases List.mem_append.mp m with m|m
      . exact hk z m
      . rw[List.mem_singleton.mp m];exact hk')
  have lr:(fv 0 (1+j)).length=1+j:=by simp[fv]
  rw[lr,Nat.zero_add]at l;exact⟨ks,q3,x3,x4,(iS rg).trans e,by omega,by omega,hk⟩
theorem PU {bx:List Bx}{n:Nat}(h:n<bx.length) (p:Int) (env:DEnv):∃ v q,d2 false fH (dC (.int 1)) (fk K1.fj 2 (fc (dV 0) (fc (d2 false ixD (fN false (fc (dC (.int 3)) (fc (dC (.int 9)) fe))) (fk K1.fj 2 (fc (dV 0) (fc (dC (.int 2)) fe)))) fe))) (some (.b n)::env) (pt bx n p)=.val (.d (.int v)) (pt bx n q) /\ 1<=v /\ v<=9:=by
  obtain⟨v,q,t,mv⟩:=Am h p (env:=some (.b n)::env) (i:=0) rfl [3,9] (ks:=fc (dC (.int 3)) (fc (dC (.int 9)) fe)) (λ_ _=>rfl) (k:=2) rfl (by decide) (by decide);have hv:0<v /\ v<=9:=by simp at mv;omega
  obtain⟨r,q2,t2,b1,b2⟩:=jF h (env:=some (.b n)::env) (i:=0) rfl t hv.1 (by omega);exact⟨1+r,q2,fM (g:=fH) (r:=.old (.int (1+r))) (m:=dC (.int 1)) rfl t2 rfl,by omega,by omega⟩
structure House (d:D) (n:Nat):Prop where
  h:house d=true
  sm:Sm 999 4 111672 d
  ok:okH d
  rs:∃ rs k a b,d=.tup [.tup rs,k,a,b] /\ rs.length=n
  n0:1<=n
  n5:n<=5
theorem Lw {bx:List Bx}{n:Nat}(h:n<bx.length) (p:Int):∃ d k q,iJ [.b n] (pt bx n p)=.val (.d d) (pt bx n q) /\ House d k:=by
  have sz:sizeLine=16777216:=sizeLine_eq;obtain⟨rs,q1,hr,e1⟩:=Nk h p [none,none,none,none,none,none,none];obtain⟨ks,q2,x3,x4,e2,l1,l4,hk⟩:=Lv h q1 (some (.d (.tup rs)));obtain⟨ps,q3,w6,w7,e3,lp,ip,hb⟩:=PR h q2 ks l4 (some (.d (.tup rs))) x3 x4;have h1:n<(bx++[Bx.lst ks]).length:=by simp;omega
  have h2:n<(bx++[Bx.lst ks]++[Bx.lst (ps.map dP)]).length:=by simp;omega
  obtain⟨v,q4,e4,v1,v9⟩:=PU h2 q3 [some (.d (.tup rs)),some (.b bx.length),x3,x4,some (.b (bx++[Bx.lst ks]).length),w6,w7];have rl:1<=(rs.length:Int) /\ (rs.length:Int)<=5:=by
    simp only[rooms,zA]at hr;exact jU hr.1
  have s1:fP (fN true fe) (fg 2) [some (.b n),some (.d (.tup rs)),none,none,none,none,none,none] (pt bx n q1)=.nx [some (.b n),some (.d (.tup rs)),some (.b bx.length),none,none,none,none,none] (pt (bx++[.lst []]) n q1):=by
    have a:=mQ (env:=[some (.b n),some (.d (.tup rs)),none,none,none,none,none,none]) (ks:=fe) (bx:=pt bx n q1) [] rfl (Nat.zero_le _);rw[jX h,fY]at a;exact gw a
  have s2:fP (fN true fe) (fg 5) [some (.b n),some (.d (.tup rs)),some (.b bx.length),x3,x4,none,none,none] (pt (bx++[.lst ks]) n q2)=.nx [some (.b n),some (.d (.tup rs)),some (.b bx.length),x3,x4,some (.b (bx++[Bx.lst ks]).length),none,none] (pt (bx++[.lst ks]++[.lst []]) n q2):=by
    have a:=mQ (env:=[some (.b n),some (.d (.tup rs)),some (.b bx.length),x3,x4,none,none,none]) (ks:=fe) (bx:=pt (bx++[.lst ks]) n q2) [] rfl (Nat.zero_le _);rw[jX h1,fY]at a;exact gw a
  have gk:∀ q,(pt (bx++[.lst ks]++[.lst (ps.map dP)]) n q)[bx.length]?=some (.lst ks):=λq=>by
    rw[N8 (by omega)];simp
  have gp:=iy (p:=q3) (x:=.lst (ps.map dP)) h1;have gk3:=gk q3;have s3:fQ (ge (fc (dV 1) (fc (dN false tupleD (fc (dV 2) fe)) (fc (dN false tupleD (fc (dV 5) fe)) (fc (d2 false fH (dC (.int 1)) (fk K1.fj 2 (fc (dV 0) (fc (d2 false ixD (fN false (fc (dC (.int 3)) (fc (dC (.int 9)) fe))) (fk K1.fj 2 (fc (dV 0) (fc (dC (.int 2)) fe)))) fe)))) fe))))) [some (.b n),some (.d (.tup rs)),some (.b bx.length),x3,x4,some (.b (bx++[Bx.lst ks]).length),w6,w7] (pt (bx++[.lst ks]++[.lst (ps.map dP)]) n q3)=.rt (.d (.tup [.tup rs,.tup ks,.tup (ps.map dP),.int v])) (pt (bx++[.lst ks]++[.lst (ps.map dP)]) n q4):=by
    generalize pt (bx++[.lst ks]++[.lst (ps.map dP)]) n q4=B' at e4 ⊢;generalize pt (bx++[.lst ks]++[.lst (ps.map dP)]) n q3=B at e4 gk3 gp ⊢;exact gh (ig [.tup rs,.tup ks,.tup (ps.map dP),.int v] (ff rfl (ff (BC (m:=dV 2) rfl gk3) (ff (BC (m:=dV 5) rfl gp) (ff e4 rfl)))) (show (4:Nat)<=sizeLine by omega))
  have M:jY [some (.b n),none,none,none,none,none,none,none] (pt bx n p)=.rt (.d (.tup [.tup rs,.tup ks,.tup (ps.map dP),.int v])) (pt (bx++[.lst ks]++[.lst (ps.map dP)]) n q4):=by
    unfold jY;exact(fB (gw e1)).trans ((fB s1).trans ((fB e2).trans ((fB s2).trans ((fB e3).trans s3))))
  refine⟨.tup [.tup rs,.tup ks,.tup (ps.map dP),.int v],rs.length,q4,?_,⟨?_,?_,?_,⟨rs,_,_,_,rfl,rfl⟩,by omega,by omega⟩⟩
  . refine(BA M).trans ?_;rw[fY,List.append_assoc,Al h]
  . have a:apart (ks.length:Int) (.tup (ps.map dP))=true:=by
      have b1:(ps.map dP).all (pairA (ks.length:Int))=true:=by
        rw[List.all_map,List.all_eq_true];intro p m;have:=hb p m;simp[pairA,tl];omega
      show (((ps.map dP).all (pairA (ks.length:Int)))&&incr ((ps.map dP).filterMap toP))=true;rw[Fq,b1,ip];rfl
    have kk:kinds (.tup ks)=true:=by
      have a1:tl (.tup ks) 1 4=true:=by simp[tl];omega
      simp[kinds,a1];exact hk
    have hh:wi (.int v) 1 9=true:=by simp[wi];omega
    simp only[house,lenOf,hr,kk,a,hh,Bool.and_self]
  . have r1:Sm 999 1 9618 (.tup rs):=by
      simp only[rooms,zA]at hr;exact(Sm.tup (SmL.of (B:=999) (a:=0) (b:=1921) λx m=>Lk (List.all_eq_true.mp hr.2 x m) (by decide) (by decide))).mono (by decide) (by omega)
    have r2:Sm 999 3 38503 (.tup ks):=
      (Sm.tup (SmL.of (B:=999) (a:=2) (b:=9623) λx m=>Nf (hk x m))).mono (by decide) (by omega)
    have r3:Sm 999 2 61619 (.tup (ps.map dP)):=by
      have z:=SmL.of (B:=999) (a:=1) (b:=3849) (l:=ps.map dP) λx m=>by
        obtain⟨p,mp,rfl⟩:=List.mem_map.mp m;exact RW (hb p mp) l4
      rw[List.length_map]at z;exact(Sm.tup z).mono (by decide) (by omega)
    exact(Sm.tup (SmL.cons (r1.mono (by decide) (zL _)) (SmL.cons r2 (SmL.cons (r3.mono (by decide) (zL _)) (SmL.cons (Sm.int (by omega)) SmL.nil))))).mono (zL _) (by decide)
  . show (ps.map dP).length<=sizeLine;rw[List.length_map];omega
section
variable {env : DEnv} {bx bx1 bx2 : List Bx}
theorem N9 {m k:DE W}{j:Nat}{i:Int}{l:List D}{d:D}(h:m env bx=.val (.b j) bx1) (hk:k env bx1=.val (.d (.int i)) bx2) (g:bx2[j]?=some (.lst l)) (ha:atI l i=some d):d2 false ixD m k env bx=.val (.d d) bx2:=by
  rw[M8,h,fZ,hk,fZ];have r1:rdW bx2 (.b j)=some (.lst l):=by simp only[rdW,g]
  rw[r1,m9,Option.bind_some,Option.bind_some];show resO false (Option.map Res.old (atI l i)) _=_;rw[ha];rfl
theorem RZ {mo mi:DE W}{n j:Nat}{k:Int}{l:List D}{w:D}(h1:mo env bx=.val (.b n) bx1) (h2:mi env bx1=.val (.d (.int k)) bx2) (h3:bx2[n]?=some (.lst l)) (h4:ixN l.length k=some j):gdSub mo mi (.d w) env bx=some (env,bx2.set n (.lst (l.set j w))):=by
  unfold gdSub;simp only[h1,h2,h3,h4,Option.map_some]
theorem R0 {m:DE W}{g:DG}{w:W}{env':DEnv}{bx':List Bx}(h:m env bx=.val w bx1) (hg:g w env bx1=some (env',bx')):fP m g env bx=.nx env' bx':=by
  rw[J0,h,AC,hg]
theorem Oa {i j:Nat}{x y:W}{a b:DE W}(h1:a env bx=.val x bx1) (h2:b env bx1=.val y bx2):sPar i j (fc a (fc b fe)) env bx=.nx ((env.set i (some x)).set j (some y)) bx2:=by
  unfold sPar;rw[ff h1 (ff h2 rfl),AC]
end
theorem An {m:Nat}(h:0<m):ixN m (-1)=some (m-1):=by
  unfold ixN;simp;omega
theorem at0 {l:List (Int×Int)}{z:Int×Int}{t:List (Int×Int)}(h:l=z::t):atI (l.map dP) 0=some (dP z):=by
  subst h;simp[atI,ixN]
def Mv (k:Int) (ps:List (Int×Int)):Prop:=∀ q∈ps,0<=q.1 /\ q.1<k /\ 0<=q.2 /\ q.2<k /\ q.1≠q.2
theorem Lx {k a r:Int}(hk:2<=k) (hk5:k<=5) (h0:0<=a) (h1:a<k) (h2:0<=r) (h3:r<k-1):0<=(a+1+r) % k /\ (a+1+r) % k<k /\ a≠(a+1+r) % k:=by
  obtain rfl|rfl|rfl|rfl:k=2 \/ k=3 \/ k=4 \/ k=5:=by omega
  all_goals omega
noncomputable abbrev mEnd:DSt:=sIf (dB (d2 false eqD (fk K1.fj 2 (fc (dV 0) (fc (dC (.int 5)) fe))) (dC (.int 0)))) (fP (ge (fc (d2 false ixD (d2 false ixD (dV 3) (dC (.int 0))) (dC (.int 1))) (fc (d2 false ixD (d2 false ixD (dV 3) (dC (.int 0))) (dC (.int 0))) fe))) (gdSub (dV 3) (dNeg (dC (.int 1))))) sNil
noncomputable abbrev mBody:DSt:=fG (fP (fk K1.fj 2 (fc (dV 0) (fc (dV 2) fe))) (fg 5)) (fG (fP (d2 false modD (d2 false fH (d2 false fH (dV 5) (dC (.int 1))) (fk K1.fj 2 (fc (dV 0) (fc (d2 false subD (dV 2) (dC (.int 1))) fe)))) (dV 2)) (fg 6)) (fG (iB (dApp (dV 3) (ge (fc (dV 5) (fc (dV 6) fe))))) mEnd))
theorem PV {bx:List Bx}{n:Nat}(h:n<bx.length) (p k:Int) (ps:List (Int×Int)) (x:Int×Int) (M:Mv k (ps++[x])) (x1 x2 w4 w5 w6:Option W) :
    ∃ y q,mEnd [some (.b n),x1,x2,some (.b bx.length),w4,w5,w6] (pt (bx++[.lst ((ps++[x]).map dP)]) n p)=.nx [some (.b n),x1,x2,some (.b bx.length),w4,w5,w6] (pt (bx++[.lst ((ps++[y]).map dP)]) n q) /\ Mv k (ps++[y]):=by
  have sz:sizeLine=16777216:=sizeLine_eq;have h1:n<(bx++[Bx.lst ((ps++[x]).map dP)]).length:=by simp;omega
  obtain⟨r,q,t,b1,b2⟩:=takeC h1 p (env:=[some (.b n),x1,x2,some (.b bx.length),w4,w5,w6]) (i:=0) rfl 5 (by decide) (by decide);have bg:=iy (p:=q) (x:=.lst ((ps++[x]).map dP)) h;obtain⟨z,tl,hz⟩:∃ z t,ps++[x]=z::t:=by cases ps with|nil=>exact⟨x,[],rfl⟩|cons a l=>exact⟨a,l++[x],rfl⟩
  have mz:z∈ps++[x]:=by rw[hz];exact List.mem_cons_self ..
  by_cases hr:r=0
  . refine⟨(z.2,z.1),q,?_,λw m=>?_⟩
    . have c:dB (d2 false eqD (fk K1.fj 2 (fc (dV 0) (fc (dC (.int 5)) fe))) (dC (.int 0))) [some (.b n),x1,x2,some (.b bx.length),w4,w5,w6] (pt (bx++[.lst ((ps++[x]).map dP)]) n p)=.val true (pt (bx++[.lst ((ps++[x]).map dP)]) n q):=by
        refine gO (b:=true) (fM (r:=.old (.bl true)) t rfl ?_);rw[AW,hr];rfl
      have st:=lu (p:=q) (x:=.lst ((ps++[x]).map dP)) (y:=.lst ((ps++[(z.2,z.1)]).map dP)) h;have a0:=at0 hz;have hl:ixN ((ps++[x]).map dP).length (-1)=some ps.length:=by
        rw[An (by simp)];simp
      have es:((ps++[x]).map dP).set ps.length (D.tup [.int z.2,.int z.1])=(ps++[(z.2,z.1)]).map dP:=by
        rw[List.map_append,List.map_append,List.set_append_right _ _ (by simp)];simp
      refine(lP c).trans ?_;generalize pt (bx++[.lst ((ps++[(z.2,z.1)]).map dP)]) n q=B' at st ⊢;generalize pt (bx++[.lst ((ps++[x]).map dP)]) n q=B at bg st ⊢;generalize (ps++[x]).map dP=L at bg a0 hl es;have i0:d2 false ixD (dV 3) (dC (.int 0)) [some (.b n),x1,x2,some (.b bx.length),w4,w5,w6] B=.val (.d (dP z)) B:=N9 rfl rfl bg a0;have tv:ge (fc (d2 false ixD (d2 false ixD (dV 3) (dC (.int 0))) (dC (.int 1))) (fc (d2 false ixD (d2 false ixD (dV 3) (dC (.int 0))) (dC (.int 0))) fe)) [some (.b n),x1,x2,some (.b bx.length),w4,w5,w6] B=.val (.d (.tup [.int z.2,.int z.1])) B :=
        ig [.int z.2,.int z.1] (ff (fM (r:=.old (.int z.2)) i0 rfl rfl) (ff (fM (r:=.old (.int z.1)) i0 rfl rfl) rfl)) (show (2:Nat)<=sizeLine by omega)
      have sv:=RZ (env:=[some (.b n),x1,x2,some (.b bx.length),w4,w5,w6]) (mo:=dV 3) (mi:=dNeg (dC (.int 1))) (w:=D.tup [.int z.2,.int z.1]) (bx:=B) (n:=bx.length) rfl (By rfl) bg hl;rw[es,st]at sv;exact R0 tv sv
    . rcases List.mem_append.mp m with m|m
      . exact M w (List.mem_append.mpr (.inl m))
      . rw[List.mem_singleton.mp m];have:=M z mz;exact⟨this.2.2.1,this.2.2.2.1,this.1,this.2.1,Ne.symm this.2.2.2.2⟩
  . refine⟨x,q,?_,M⟩;have c:dB (d2 false eqD (fk K1.fj 2 (fc (dV 0) (fc (dC (.int 5)) fe))) (dC (.int 0))) [some (.b n),x1,x2,some (.b bx.length),w4,w5,w6] (pt (bx++[.lst ((ps++[x]).map dP)]) n p)=.val false (pt (bx++[.lst ((ps++[x]).map dP)]) n q):=by
      refine gO (b:=false) (fM (r:=.old (.bl false)) t rfl ?_);rw[AW,decide_eq_false hr]
    exact jJ c
theorem No {bx:List Bx}{n:Nat}(h:n<bx.length) (p k:Int) (hk:2<=k) (hk5:k<=5) (ps:List (Int×Int)) (hl:ps.length<=1000) (M:Mv k ps) (x1 w4 w5 w6:Option W) :
    ∃ y q w5' w6',mBody [some (.b n),x1,some (.d (.int k)),some (.b bx.length),w4,w5,w6] (pt (bx++[.lst (ps.map dP)]) n p)=.nx [some (.b n),x1,some (.d (.int k)),some (.b bx.length),w4,w5',w6'] (pt (bx++[.lst ((ps++[y]).map dP)]) n q) /\ Mv k (ps++[y]):=by
  have sz:sizeLine=16777216:=sizeLine_eq;have h1:n<(bx++[Bx.lst (ps.map dP)]).length:=by simp;omega
  obtain⟨a,q1,t1,a0,a1⟩:=jF h1 (p:=p) (env:=[some (.b n),x1,some (.d (.int k)),some (.b bx.length),w4,w5,w6]) (i:=0) (m:=dV 2) (k:=k) rfl rfl (by omega) (by omega);obtain⟨r,q2,t2,b0,b1⟩:=jF h1 (p:=q1) (env:=[some (.b n),x1,some (.d (.int k)),some (.b bx.length),w4,some (.d (.int a)),w6]) (i:=0) (m:=d2 false subD (dV 2) (dC (.int 1))) (k:=k-1) rfl (fM (r:=.old (.int (k-1))) rfl rfl rfl) (by omega) (by omega);obtain⟨c0,c1,c2⟩:=Lx hk hk5 a0 a1 b0 b1;have cd:modD (.int (a+1+r)) (.int k)=some (.old (.int ((a+1+r) % k))):=by
    simp[modD];omega
  have bg:=iy (p:=q2) (x:=.lst (ps.map dP)) h;have st:=lu (p:=q2) (x:=.lst (ps.map dP)) (y:=.lst ((ps++[(a,(a+1+r) % k)]).map dP)) h;have M':Mv k (ps++[(a,(a+1+r) % k)]):=λw m=>by
    rcases List.mem_append.mp m with m|m
    . exact M w m
    . rw[List.mem_singleton.mp m];exact⟨a0,a1,c0,c1,c2⟩
  obtain⟨y,q,e,My⟩:=PV h q2 k ps _ M' x1 (some (.d (.int k))) w4 (some (.d (.int a))) (some (.d (.int ((a+1+r) % k))));refine⟨y,q,some (.d (.int a)),some (.d (.int ((a+1+r) % k))),?_,My⟩;generalize (a+1+r) % k=b at cd st e ⊢;generalize pt (bx++[.lst ((ps++[y]).map dP)]) n q=B4 at e ⊢;have ap:iB (dApp (dV 3) (ge (fc (dV 5) (fc (dV 6) fe)))) [some (.b n),x1,some (.d (.int k)),some (.b bx.length),w4,some (.d (.int a)),some (.d (.int b))] (pt (bx++[.lst (ps.map dP)]) n q2)=.nx [some (.b n),x1,some (.d (.int k)),some (.b bx.length),w4,some (.d (.int a)),some (.d (.int b))] (pt (bx++[.lst ((ps++[(a,b)]).map dP)]) n q2):=by
    have ap:=Fz (m:=dV 3) (k:=ge (fc (dV 5) (fc (dV 6) fe))) (env:=[some (.b n),x1,some (.d (.int k)),some (.b bx.length),w4,some (.d (.int a)),some (.d (.int b))]) (d:=dP (a,b)) rfl bg (ig [.int a,.int b] rfl (show (2:Nat)<=sizeLine by omega)) bg (by rw[List.length_map];omega);rw[show ps.map dP++[dP (a,b)]=(ps++[(a,b)]).map dP by simp,st]at ap;exact jW ap
  refine Eq.trans ?_ e;generalize pt (bx++[.lst ((ps++[(a,b)]).map dP)]) n q2=B3 at ap ⊢;generalize pt (bx++[.lst (ps.map dP)]) n q2=B2 at t2 ap;generalize pt (bx++[.lst (ps.map dP)]) n q1=B1 at t1 t2;refine(fB (gw t1)).trans ((fB (gw (fM (r:=.old (.int b)) (fM (r:=.old (.int (a+1+r))) (fM (r:=.old (.int (a+1))) rfl rfl rfl) t2 rfl) rfl cd))).trans (fB ap))
theorem Ly {bx:List Bx}{n:Nat}(h:n<bx.length) (p:Int) {d:D}{k:Nat}(H:House d k):∃ ps q,iK [.b n,.d d] (pt bx n p)=.val (.d (.lst (ps.map dP))) (pt bx n q) /\ Mv k ps /\ ps.length<=10:=by
  have sz:sizeLine=16777216:=sizeLine_eq;obtain⟨rs,kk,aa,bb,rfl,hn⟩:=H.rs;have n0:=H.n0;have n5:=H.n5;have h1:n<(bx++[Bx.lst []]).length:=by simp;omega
  have s1:sPar 2 3 (fc (dN false lenD (fc (d2 false ixD (dV 1) (dC (.int 0))) fe)) (fc (fN true fe) fe)) [some (.b n),some (.d (.tup [.tup rs,kk,aa,bb])),none,none,none,none,none] (pt bx n p)=.nx [some (.b n),some (.d (.tup [.tup rs,kk,aa,bb])),some (.d (.int (k:Nat))),some (.b bx.length),none,none,none] (pt (bx++[.lst []]) n p):=by
    have a:=mQ (env:=[some (.b n),some (.d (.tup [.tup rs,kk,aa,bb])),none,none,none,none,none]) (ks:=fe) (bx:=pt bx n p) [] rfl (Nat.zero_le _);rw[jX h,fY]at a;have b:dN false lenD (fc (d2 false ixD (dV 1) (dC (.int 0))) fe) [some (.b n),some (.d (.tup [.tup rs,kk,aa,bb])),none,none,none,none,none] (pt bx n p)=.val (.d (.int (k:Nat))) (pt bx n p):=
      gZ (r:=.old (.int (k:Nat))) [.tup rs] (ff (fM (r:=.old (.tup rs)) rfl rfl rfl) rfl) (by simp[lenD,hn])
    exact Oa b a
  obtain⟨c,q1,rg,hc,hk1⟩:∃ (c:Nat) (q1:Int),dRng1 (fc (dIf (dB (d2 false gtI (dV 2) (dC (.int 1)))) (fk K1.fj 2 (fc (dV 0) (fc (dC (.int 11)) fe))) (dC (.int 0))) fe) [some (.b n),some (.d (.tup [.tup rs,kk,aa,bb])),some (.d (.int (k:Nat))),some (.b bx.length),none,none,none] (pt (bx++[.lst []]) n p)=.val (fv 0 c) (pt (bx++[.lst []]) n q1) /\ c<=10 /\ (1<=c->2<=k):=by
    by_cases hk:2<=k
    . obtain⟨r,q1,t,r0,r1⟩:=takeC h1 p (env:=[some (.b n),some (.d (.tup [.tup rs,kk,aa,bb])),some (.d (.int (k:Nat))),some (.b bx.length),none,none,none]) (i:=0) rfl 11 (by decide) (by decide);obtain⟨c,rfl⟩:=Int.eq_ofNat_of_zero_le r0;refine⟨c,q1,?_,by omega,λ_=>hk⟩;generalize pt (bx++[.lst []]) n p=B at t ⊢;have ct:dB (d2 false gtI (dV 2) (dC (.int 1))) [some (.b n),some (.d (.tup [.tup rs,kk,aa,bb])),some (.d (.int (k:Nat))),some (.b bx.length),none,none,none] B=.val true B:=by
        refine gO (b:=true) (fM (r:=.old (.bl true)) rfl rfl ?_);simp[gtI];omega
      have di:dIf (dB (d2 false gtI (dV 2) (dC (.int 1)))) (fk K1.fj 2 (fc (dV 0) (fc (dC (.int 11)) fe))) (dC (.int 0)) [some (.b n),some (.d (.tup [.tup rs,kk,aa,bb])),some (.d (.int (k:Nat))),some (.b bx.length),none,none,none] B=.val (.d (.int (c:Nat))) (pt (bx++[.lst []]) n q1):=by
        unfold dIf;rw[ct,fZ];exact t
      rw[io (ff di rfl) (by omega),Int.toNat_natCast]
    . refine⟨0,p,?_,by omega,λz=>by omega⟩;generalize pt (bx++[.lst []]) n p=B;have ct:dB (d2 false gtI (dV 2) (dC (.int 1))) [some (.b n),some (.d (.tup [.tup rs,kk,aa,bb])),some (.d (.int (k:Nat))),some (.b bx.length),none,none,none] B=.val false B:=by
        refine gO (b:=false) (fM (r:=.old (.bl false)) rfl rfl ?_);simp[gtI];omega
      have di:dIf (dB (d2 false gtI (dV 2) (dC (.int 1)))) (fk K1.fj 2 (fc (dV 0) (fc (dC (.int 11)) fe))) (dC (.int 0)) [some (.b n),some (.d (.tup [.tup rs,kk,aa,bb])),some (.d (.int (k:Nat))),some (.b bx.length),none,none,none] B=.val (.d (.int 0)) B:=by
        unfold dIf;rw[ct,fZ];rfl
      exact io (ff di rfl) (by decide)
  obtain⟨env',bx',e,ps,q,w4,w5,w6,rfl,rfl,l,M⟩:=iI (g:=fg 4) (body:=mBody) (λi env bb'=>∃ ps q w4 w5 w6,env=[some (.b n),some (.d (.tup [.tup rs,kk,aa,bb])),some (.d (.int (k:Nat))),some (.b bx.length),w4,w5,w6] /\ bb'=pt (bx++[.lst (ps.map dP)]) n q /\ ps.length=i /\ Mv k ps) (fv 0 c) 0 _ _ ⟨[],q1,none,none,none,rfl,rfl,rfl,λ_ m=>nomatch m⟩ (by
      rintro i w env bb' hw ⟨ps,q,w4,w5,w6,rfl,rfl,l,M⟩;rw[Nat.zero_add]at l ⊢;obtain⟨rfl,hi⟩:=iU hw;obtain⟨y,q',w5',w6',e',M'⟩:=No h q (k:Nat) (by have:=hk1 (by omega);omega) (by omega) ps (by omega) M (some (.d (.tup [.tup rs,kk,aa,bb]))) (some (.d (.int (0+(i:Nat))))) w5 w6;exact⟨_,_,[some (.b n),some (.d (.tup [.tup rs,kk,aa,bb])),some (.d (.int (k:Nat))),some (.b bx.length),some (.d (.int (0+(i:Nat)))),w5',w6'],_,rfl,e',ps++[y],q',_,w5',w6',rfl,rfl,by simp[l],M'⟩)
  have lr:(fv 0 c).length=c:=by simp[fv]
  rw[lr,Nat.zero_add]at l;refine⟨ps,q,?_,M,by omega⟩;have bg:=iy (p:=q) (x:=.lst (ps.map dP)) h;have M2:jZ [some (.b n),some (.d (.tup [.tup rs,kk,aa,bb])),none,none,none,none,none] (pt bx n p)=.rt (.d (.lst (ps.map dP))) ((pt (bx++[.lst (ps.map dP)]) n q).set bx.length .dead):=by
    unfold jZ;exact(fB s1).trans ((fB ((iS rg).trans e)).trans (gh (RX rfl bg)))
  refine(BA M2).trans ?_;rw[fY,lu h,Al h]
end K52
namespace K2
open PySem PySem.Spec PyProof.Rows L2 L2.DL K1
end K2
namespace K52
open PySem PySem.Spec PyProof.Rows L2 L2.DL K1
section
variable {env : DEnv} {bx bx1 bx2 : List Bx}
end
theorem Np {m t:Nat}(h:t<m):ixN m (t:Int)=some t:=by
  unfold ixN;simp;omega
theorem CA (l:List D) (x y:Option Int):(cutD l x y).length<=l.length:=by
  unfold DL.cutD;rw[List.length_take,List.length_drop];omega
end K52
namespace K52
open PySem PySem.Spec PyProof.Rows L2 L2.DL K1 K2
theorem jk {m k:DE W}{env:DEnv}{bx bx1:List Bx}{r:O W}(h:m env bx=.val (.d (.bl true)) bx1) (h2:k env bx1=r):gf m k env bx=r:=by rw[Fy h];exact h2
theorem Ao {m k:DE W}{env:DEnv}{bx bx1:List Bx}(h:m env bx=.val (.d (.bl false)) bx1):gf m k env bx=.val (.d (.bl false)) bx1:=by rw[Fy h];rfl
section
variable {bx : List Bx} {h : D} {k : Nat}
theorem FB (H:House h k) (r:D):gM [.d h,.d r] bx=.val (.d (.bl (wi r 0 ((k:Int)-1)))) bx:=by
  obtain⟨rs,hold,HI⟩:=GG H.h;have e:=GH (bx:=bx) HI r;obtain⟨rs',kk,a,b,e1,e2⟩:=H.rs;obtain⟨k',p',e3⟩:=HI.e;rw[e1]at e3;have:rs.length=k:=by
    have:=congrArg (λd=>match d with|D.tup (.tup l::_)=>l.length|_=>0) e3;simp at this;omega
  rw[this]at e;exact e
theorem GJ (H:House h k) {q:Int×Int}(hq:0<=q.1 /\ q.1<(k:Int) /\ 0<=q.2 /\ q.2<(k:Int) /\ q.1≠q.2):iT [.d h,.d (dP q)] bx=.val (.d (.bl true)) bx:=by
  have sz:sizeLine=16777216:=sizeLine_eq;refine gE ?_;have t:=fV (dP q) 2 2 bx;have tt:tl (dP q) 2 2=true:=by simp[tl]
  rw[tt]at t;have ca:compD (fg 0) fL (fk K2.gM 2 (fc (dV 1) (fc (dV 0) fe))) ([D.int q.1,.int q.2].map W.d) [none,some (.d h)] bx []=.val ([D.int q.1,.int q.2].map λd=>.bl (wi d 0 ((k:Int)-1))) bx :=
    ie (λe=>∃ w,e=[w,some (.d h)]) _ ⟨none,rfl⟩ (by
      rintro d m env ⟨w,rfl⟩;exact⟨[some (.d d),some (.d h)],rfl,⟨_,rfl⟩,fF (ff rfl (ff rfl rfl)) rfl (FB H d)⟩) (show (2:Nat)<=sizeLine by omega)
  have al:([D.int q.1,.int q.2].all λd=>wi d 0 ((k:Int)-1))=true:=by simp[wi];omega
  have a2:dN false allD (fc (fD false [none,some 0] (dIter (dV 1)) (fg 0) fL (fk K2.gM 2 (fc (dV 1) (fc (dV 0) fe)))) fe) [some (.d h),some (.d (dP q))] bx=.val (.d (.bl true)) bx :=
    gZ (r:=.old (.bl true)) [.lst ([D.int q.1,.int q.2].map λd=>.bl (wi d 0 ((k:Int)-1)))] (ff (jg (lq rfl) rfl ca) rfl) (by rw[all_map,al])
  have a3:d2 false neD (d2 false ixD (dV 1) (dC (.int 0))) (d2 false ixD (dV 1) (dC (.int 1))) [some (.d h),some (.d (dP q))] bx=.val (.d (.bl true)) bx :=
    fM (r:=.old (.bl true)) (fM (r:=.old (.int q.1)) rfl rfl rfl) (fM (r:=.old (.int q.2)) rfl rfl rfl) (by simp[neD,hq.2.2.2.2])
  show mS [some (.d h),some (.d (dP q))] bx=_;unfold mS;exact gh (jk (fF (ff rfl (ff rfl (ff rfl rfl))) rfl t) (jk a2 a3))
theorem CB (H:House h k) {ps:List (Int×Int)}(M:Mv k ps) (hl:ps.length<=10):jE [.d h,.d (.lst (ps.map dP))] bx=.val (.d (.bl true)) bx:=by
  have sz:sizeLine=16777216:=sizeLine_eq;refine gE ?_;have ca:compD (fg 0) fL (fk K52.iT 2 (fc (dV 1) (fc (dV 0) fe))) ((ps.map dP).map W.d) [none,some (.d h)] bx []=.val ((ps.map dP).map λd=>.bl true) bx :=
    ie (λe=>∃ w,e=[w,some (.d h)]) _ ⟨none,rfl⟩ (by
      rintro d m env ⟨w,rfl⟩;obtain⟨q,mq,rfl⟩:=List.mem_map.mp m;exact⟨[some (.d (dP q)),some (.d h)],rfl,⟨_,rfl⟩,fF (ff rfl (ff rfl rfl)) rfl (GJ H (M q mq))⟩) (by rw[List.length_map];omega)
  have a1:gK "list" (dV 1) [some (.d h),some (.d (.lst (ps.map dP)))] bx=.val (.d (.bl true)) bx:=rfl;have a2:d2 false leD (dN false lenD (fc (dV 1) fe)) (dC (.int 10)) [some (.d h),some (.d (.lst (ps.map dP)))] bx=.val (.d (.bl true)) bx :=
    fM (r:=.old (.bl true)) (gZ (r:=.old (.int ((ps.map dP).length:Nat))) [.lst (ps.map dP)] (ff rfl rfl) rfl) rfl (by simp[leD];omega)
  have a3:dN false allD (fc (fD false [none,some 0] (dIter (dV 1)) (fg 0) fL (fk K52.iT 2 (fc (dV 1) (fc (dV 0) fe)))) fe) [some (.d h),some (.d (.lst (ps.map dP)))] bx=.val (.d (.bl true)) bx :=
    gZ (r:=.old (.bl true)) [.lst ((ps.map dP).map λd=>.bl true)] (ff (jg (gH rfl) rfl ca) rfl) (by rw[all_map (p:=λ_=>true)];simp)
  show j0 [some (.d h),some (.d (.lst (ps.map dP)))] bx=_;unfold j0;exact gh (jk a1 (jk a2 a3))
end
theorem CC (is:List Int) (b:Int):inF (.int b) (is.map D.int)=is.any λz=>decide (z=b):=by
  unfold inF;rw[List.any_map];rfl
theorem mT (is:List Int):(is.map D.int).all flatD=true:=by rw[List.all_map];exact List.all_eq_true.mpr λ_ _=>rfl
theorem GK (is:List Int) (b:Int):((is.map D.int).findIdx? λz=>eqF z (.int b))=is.findIdx? λz=>decide (z=b):=by
  rw[List.findIdx?_map];rfl
section
variable {bx : List Bx}
theorem Nq {l:List D}{lo hi:Int}(h:l.all (λx=>wi x lo hi)=true):∃ is:List Int,l=is.map D.int /\ ∀ i∈is,lo<=i /\ i<=hi:=by
  induction l with
  |nil=>exact⟨[],rfl,λi m=>nomatch m⟩
  | cons x l ih =>
    rw[List.all_cons,zA]at h;obtain⟨i,rfl,a,b⟩:=lO h.1;obtain⟨is,rfl,hi⟩:=ih h.2;exact⟨i::is,rfl,λj m=>by
      rcases List.mem_cons.mp m with rfl|m
      . exact⟨a,b⟩
      . exact hi j m⟩
end
end K52
namespace L2.DL
open PySem PySem.Spec PyProof.Rows
section
variable {X : Cx}
def rAny (K:PySem.W.Frag) (vs:List V) (H:Hp) (Q:VK):Prop:=∃ (p:Addr) (bs:List Bool),vs=[.ref p] /\ H p=some (.lst (bs.map V.bl)) /\ Q (.bl (bs.any id)) H
theorem GL (bs:List Bool):((List.range bs.length).any λi=>(bs[i]?).getD false)=bs.any id:=by
  rw[Bool.eq_iff_iff,List.any_eq_true,List.any_eq_true];constructor
  . rintro⟨i,m,h⟩;have hi:=List.mem_range.mp m;rw[List.getElem?_eq_getElem hi]at h;exact⟨bs[i],List.getElem_mem hi,h⟩
  . rintro⟨b,m,h⟩;obtain⟨i,hi,e⟩:=List.mem_iff_getElem.mp m;exact⟨i,List.mem_range.mpr hi,by rw[List.getElem?_eq_getElem hi,e];exact h⟩
theorem GM (hc:X.calm=true):CallR X (.builtin "any") (rAny X.K):=by
  intro pins s σ H xs us Q I rv h;obtain⟨p,bs,rfl,hp,q⟩:=h;obtain⟨u,rfl,ru⟩:=Vals.one rv;cases ru;obtain⟨its,r1,p1,z1⟩:=I.list (SqL.of (K:=X.K) hp);have hl:=p1.isList;have hlt:p<s.heap.objs.size:=by obtain⟨_,e,_⟩:=hl;exact Heap.lt_size e
  have hlen:bs.length=its.length:=by have:=r1.length;simpa using this
  refine call_any_walk (wpAny_pyIter_list hl ?_);refine⟨s.heap.objs.size,[s.heap.objs.size,p],[s.heap.objs.size],its.toArray.size,_,_,λi=>(bs[i]?).getD false,rfl,Walks.list (A:=X.A.in1) (I.ok.hd hc) _ p (Nat.ne_of_lt hlt) its.toArray,
    ⟨⟨_,Heap.get?_push_size _ rfl,rfl,rfl⟩,hl.push _⟩,λi v s' Q' E' hP hQ=>?_,λh' tk hk=>?_⟩
  . have hP':its[i]?=some v:=by simpa using hP
    have hi:i<bs.length:=by rw[hlen];exact(List.getElem?_eq_some_iff.mp hP').1
    obtain⟨w,e1,e2⟩:=r1.get (i:=i) (x:=V.bl bs[i]) (by simp[hi]);rw[hP']at e1;cases e1;cases e2;simp only[List.getElem?_eq_getElem hi,Option.getD_some]at hQ;exact wpAny_truthy_bool hQ
  . have e:((List.range its.toArray.size).any λi=>(bs[i]?).getD false)=bs.any id:=by
      rw[List.size_toArray,<-hlen];exact GL bs
    rw[e];exact⟨.bl _,H,I.kept (t':=tk) (LSm.kept_iter hk),rfl,q⟩
noncomputable def anyD:List D->Option Res
  |[.lst l]=>(bolsOf l).map λbs=>.old (.bl (bs.any id))
  |_=>none
theorem okAny {K:PySem.W.Frag}:OkN (rAny K) anyD:=by
  intro F H xs vs Q s sub rx e k;unfold anyD at e;split at e
  . rename_i l;obtain⟨v,t,rfl,⟨a,us,rfl,h1,h2⟩,rt⟩:=rx;cases (show t=[] from rt);cases e1:bolsOf l with
    |none=>rw[e1]at e;cases e
    | some bs =>
      rw[e1]at e;cases e;have q1:=h2.bols e1;subst q1;exact⟨a,bs,rfl,h1,k _ _ ⟨rfl,rfl⟩⟩
  . cases e
end
section
variable {X : Cx} {T : Fr} {Z : Xs} {a : Expr} {ma : DE W} {pos : Pos}
end
end L2.DL
namespace HT
open PySem PyProof.Rows PySem.W
abbrev Kp (h h':Heap):Prop:=∀ b o,h.get? b=some o->h'.get? b=some o
section
variable {prog : Program} {w : World} {A : Around} {E : Value -> Shared -> Prop} {s : Shared} {l I S : Addr} {nm : String} {vs : List Value} {R : Result -> Shared -> Prop} {Q : Value -> Shared -> Prop}
theorem FC {h h':Heap}(hl:h.IsList l vs.toArray) (k:Kp h h'):h'.IsList l vs.toArray:=by
  obtain⟨o,ho,r⟩:=hl;exact⟨o,k _ _ ho,r⟩
theorem Du {h h1 h2:Heap}(k:Kp h h1) (hI:h.get? I=none) (hk:∀ b o,b∉[I]->h1.get? b=some o->h2.get? b=some o):Kp h h2:=λb o e=>hk b o (λz=>by rw[List.mem_singleton.mp z,hI]at e;cases e) (k b o e)
theorem FD {h h1 h2:Heap}(k:Kp h h1) (hS:h.get? S=none) (hk:Heap.SameBut S h1 h2):Kp h h2:=λb o e=>(hk.2 b (λz=>by rw[z,hS]at e;cases e)).trans (k b o e)
noncomputable def pick (kf:Nat->Int) (j:Nat):Option Nat->Nat
  |none=>j
  |some i=>if kf j<kf i then j else i
theorem mU (kf:Nat->Int) (j i:Nat):pick kf j (some i)=if kf j<kf i then j else i:=rfl
structure MinSt (s:Shared) (l I S:Addr) (vs:List Value) (kf:Nat->Int) (j:Nat) (h:Heap) (c:Option Nat):Prop where
  kp:Kp s.heap h
  it:h.IsListIter I l j
  box:∃ xs n,h.get? S=some (seqObj "list" xs n) /\ match c with
    |none=>xs=#[]
    |some i=>∃ v t,vs[i]?=some v /\ xs=#[v,.int (kf i) t]
abbrev KeyR (prog:Program) (w:World) (A:Around) (s:Shared) (nm:String) (vs:List Value) (kf:Nat->Int):Prop :=
  ∀ (i:Nat) (v:Value),vs[i]?=some v->∀ (h:Heap) (tk:Nat),Kp s.heap h ->
    wpAny (model prog w) A.in1 (call (.builtin nm) [v]) (λr s'=>∃ h' tk' t,r=.int (kf i) t /\ s'={ s with heap:=h',toks:=tk' } /\ Kp h h') (λ_ _=>False) { s with heap:=h,toks:=tk }
section
variable {kf : Nat -> Int} (hh : A.handled = none) (hl : s.heap.IsList l vs.toArray) (hlI : l ≠ I) (hSI : S ≠ I) (hS0 : s.heap.get? S = none) (hI0 : s.heap.get? I = none)
include hh hl hlI hSI hS0 hI0
theorem Lz {i:Nat}{h:Heap}{tk:Nat}(M:MinSt s l I S vs kf vs.length h (some i)) (hR:∀ v h' tk',vs[i]?=some v->Kp s.heap h'->R (.ok (.ret v)) { s with heap:=h',toks:=tk' }) :
    codeAny (model prog w) A (.builtin "min.loop" ⟨[.ref I,.builtin nm,.ref S],[]⟩) R { s with heap:=h,toks:=tk }:=by
  obtain⟨xs,n,hb,v,t,hv,rfl⟩:=M.box;refine codeAny_builtin PySem.F.entry_min_loop ((Around.under_plainId PySem.F.plain_min_loop (A:=A) ⟨[.ref I,.builtin nm,.ref S],[]⟩).symm▸?_);refine zB (wpAny_seqItems hb rfl (zB (wpAny_tryCatch ?_)));refine(Walks.list (prog:=prog) (w:=w) (A:=A.in1) hh I l hlI vs.toArray).done _ _ _ ⟨by rw[List.size_toArray];exact M.it,FC hl M.kp⟩ λh1 tk1 k1=>?_;have b1:=k1 S _ (by rw[List.mem_singleton];exact hSI) hb;have hE:Heap.SameBut S h1 (h1.update S (Obj.mapSeq λ_=>(#[]:Array Value))):=Heap.SameBut.update h1 S _;exact zB (wpAny_updateSeq b1 rfl (zB (wpAny_letGo (zP (hR v _ _ hv (FD (Du M.kp hI0 k1) hS0 hE))))))
theorem LA (K:KeyR prog w A s nm vs kf) {j:Nat}(hj:j<vs.length) {c:Option Nat}{h:Heap}{tk:Nat}(M:MinSt s l I S vs kf j h c)
    (next:∀ h' tk',MinSt s l I S vs kf (j+1) h' (some (pick kf j c))->codeAny (model prog w) A (.builtin "min.loop" ⟨[.ref I,.builtin nm,.ref S],[]⟩) R { s with heap:=h',toks:=tk' }) :
    codeAny (model prog w) A (.builtin "min.loop" ⟨[.ref I,.builtin nm,.ref S],[]⟩) R { s with heap:=h,toks:=tk }:=by
  have hname:(toString "min"++toString ".loop":String)="min.loop":=by decide
  obtain⟨xs,n,hb,hc⟩:=M.box;refine codeAny_builtin PySem.F.entry_min_loop ((Around.under_plainId PySem.F.plain_min_loop (A:=A) ⟨[.ref I,.builtin nm,.ref S],[]⟩).symm▸?_);refine zB (wpAny_seqItems hb rfl (zB (wpAny_tryCatch ?_)));refine(Walks.list (prog:=prog) (w:=w) (A:=A.in1) hh I l hlI vs.toArray).item j _ _ _ (by rw[List.size_toArray];exact hj) ⟨M.it,FC hl M.kp⟩ λv h1 tk1 hP st1 k1=>?_;have hv:vs[j]?=some v:=by simpa using hP
  obtain⟨oi,i1,i2,i3⟩:=id st1.1;have b1:=k1 S _ (by rw[List.mem_singleton];exact hSI) hb;refine zB (wpAny_tryCatch (wpAny_holding (wpAny_mono (K j v hv h1 tk1 (Du M.kp hI0 k1)) (λr s2 ⟨h2,tk2,t2,er,es,k2⟩=>?_) λ_ _ z=>z.elim)));subst er;subst es;have kp2:Kp s.heap h2:=λb o e=>k2 b o (Du M.kp hI0 k1 b o e);have b2:=k2 _ _ b1;have it2:h2.IsListIter I l (j+1):=⟨oi,k2 _ _ i1,i2,i3⟩;have put:∀ ys:Array Value,Heap.SameBut S h2 (h2.update S (Obj.mapSeq λ_=>ys)) /\ ∃ n',(h2.update S (Obj.mapSeq λ_=>ys)).get? S=some (seqObj "list" ys n'):=λys=>⟨Heap.SameBut.update h2 S _,_,get?_update_seq b2 λ_=>ys⟩;have took:MinSt s l I S vs kf (j+1) (h2.update S (Obj.mapSeq λ_=>#[v,.int (kf j) t2])) (some j):=by
    obtain⟨p1,n',p2⟩:=put #[v,.int (kf j) t2];exact⟨FD kp2 hS0 p1,⟨oi,(p1.2 I hSI.symm).trans (k2 _ _ i1),i2,i3⟩,_,n',p2,v,t2,hv,rfl⟩
  cases c with
  | none =>
    cases (show xs=#[] from hc);refine zB (wpAny_updateSeq b2 rfl ?_);rw[hname];exact zP ⟨plainId_quiet PySem.F.plain_min_loop _,next _ _ took⟩
  | some i =>
    obtain⟨vb,tb,hvb,rfl⟩:=hc;refine zB (wpAny_tryCatch (wpAny_holding (zB (lt_int (zB (wpAny_holding (wpAny_truthy_bool (zB (wpAny_letGo (zP ?_))))))))));by_cases q:kf j<kf i
    . rw[decide_eq_true q,if_pos rfl];refine zB (wpAny_updateSeq b2 rfl (zB (wpAny_letGo ?_)));rw[hname];refine zP ⟨plainId_quiet PySem.F.plain_min_loop _,next _ _ ?_⟩;rw[mU,if_pos q];exact took
    . rw[decide_eq_false q,if_neg (by decide)];refine zB (wpAny_letGo ?_);rw[hname];refine zP ⟨plainId_quiet PySem.F.plain_min_loop _,next _ _ ?_⟩;rw[mU,if_neg q];exact⟨kp2,it2,_,n,b2,vb,tb,hvb,rfl⟩
noncomputable def pickOn (kf:Nat->Int):Nat->Nat->Option Nat->Option Nat
  |0,_,c=>c
  |n+1,j,c=>pickOn kf n (j+1) (some (pick kf j c))
theorem CD (K:KeyR prog w A s nm vs kf) (h0:0<vs.length) (hR:∀ i v h' tk',pickOn kf vs.length 0 none=some i->vs[i]?=some v->Kp s.heap h'->R (.ok (.ret v)) { s with heap:=h',toks:=tk' }) :
    ∀ (n j:Nat) (c:Option Nat) (h:Heap) (tk:Nat),j+n=vs.length->(j=0 \/ c.isSome=true)->pickOn kf n j c=pickOn kf vs.length 0 none->MinSt s l I S vs kf j h c ->
      codeAny (model prog w) A (.builtin "min.loop" ⟨[.ref I,.builtin nm,.ref S],[]⟩) R { s with heap:=h,toks:=tk }
  | 0,j,c,h,tk,hn,hc,e,M=>by
    have:j=vs.length:=by omega
    subst this;cases c with
    | none => rcases hc with hc|hc
              . omega
              . cases hc
    |some i=>exact Lz hh hl hlI hSI hS0 hI0 M λv h' tk' hv k=>hR i v h' tk' e.symm hv k
  |n+1,j,c,h,tk,hn,hc,e,M=>LA hh hl hlI hSI hS0 hI0 K (by omega) M λh' tk' M'=>CD K h0 hR n (j+1) _ h' tk' (by omega) (.inr rfl) e M'
end
theorem Nr {kf:Nat->Int}(hh:A.handled=none) (hl:s.heap.IsList l vs.toArray) (h0:0<vs.length) (K:KeyR prog w A s nm vs kf)
    (hQ:∀ i v h' tk',pickOn kf vs.length 0 none=some i->vs[i]?=some v->Kp s.heap h'->Q v { s with heap:=h',toks:=tk' }) :
    wpAny (model prog w) A (call (.builtin "min") [.ref l] [(Str.ofString "key",.builtin nm)]) Q E s:=by
  have hname:(toString "min"++toString ".loop":String)="min.loop":=by decide
  obtain⟨ol,hol,_⟩:=id hl;have hll:l<s.heap.objs.size:=Heap.lt_size hol;refine kmk_tree PySem.F.kind_min PySem.F.plain_min PySem.F.entry_min (kmk_min_key _ _) ?_;refine zB (wpAny_of_eq (show Builtin.Builtins.bindParams "min" ["key", "default"] 0 ⟨[],[("key",.builtin nm)]⟩=pure [some (.builtin nm),none] from rfl) (zB (zP (zB (wpAny_pyIter_list hl (zB (wpAny_newList ?_ (Nat.zero_le _))))))));rw[hname];generalize hT:(s.heap.push { cls:=.type "list_iterator",data:=.fields #[.ref l,.int 0 0] }).objs.size=S;have hS:S=s.heap.objs.size+1:=hT.symm.trans (size_push' ..);refine zP ⟨plainId_quiet PySem.F.plain_min_loop _,CD hh hl (Nat.ne_of_lt hll) (by rw[hS];exact Nat.succ_ne_self _) (Heap.get?_none_of_le (by rw[hS];exact Nat.le_succ _)) (Heap.get?_none_of_le (zL _)) K h0 hQ vs.length 0 none _ _ (by omega) (.inl rfl) rfl ⟨?_,?_,#[],0,?_,rfl⟩⟩
  . exact λb x e=>zH _ (zH _ e)
  . exact⟨_,zH _ (Heap.get?_push_size _ rfl),rfl,rfl⟩
  . rw[<-hT];exact Heap.get?_push_size _ rfl
end
end HT
namespace L2
open PySem PySem.Spec PyProof.Rows PySem.W
section
variable {X : Cx} {a : Expr} {p q pos kp : Pos} {t : TA}
def rMinL (K:Frag) (vs:List V) (H:Hp) (Q:VK):Prop:=∃ (p:Addr) (xs:List V) (kf:Nat->Nat),vs=[.ref p] /\ SqL K H p xs /\ 0<xs.length /\ (∀ i x,xs[i]?=some x->∃ b ys,x=.ref b /\ SqT K H b ys /\ ys.length=kf i) /\
  ∀ i x,HT.pickOn (λi=>(kf i:Int)) xs.length 0 none=some i->xs[i]?=some x->Q x H
theorem GN (hc:X.calm=true) (hg:Gl X "min") (hm:X.mg "min"=none) (hg2:Gl X "len") (hm2:X.mg "len"=none) (ha:PA X [a] t) (hs:starEach [a] X.env=[(false,eval a X.env)]) :
    PE X (.Call (.Name "min" p) [a] [⟨some "key",.Name "len" q,kp⟩] pos) (tCB (rMinL X.K) t):=by
  intro pins s σ H Q I h;refine wpAny_Call_Name_kw (iC I hg hm (by decide +kernel:bootBuiltins "min"=some (.builtin "min")) ?_ (by decide) (by decide));refine callWith_kw (thn (ha pos pins s σ H _ I h) λus s1 ⟨vs,H1,I1,r1,q1⟩=>?_) (by rw[hs];rfl) (by rw[hs];rfl) rfl rfl;show wpAny _ _ (evalAll [do let v <-eval (.Name "len" q) X.env;standAt pos;pure v]) _ _ _;refine wpAny_evalAll_cons (zB (iC I1 hg2 hm2 PySem.boot_len (zB (wpAny_standAt (zP (wpAny_evalAll_nil ?_)))) (by decide) (by decide)));obtain⟨l,xs,kf,rfl,hl,h0,hk,q1⟩:=q1;obtain⟨u,rfl,ru⟩:=Vals.one r1;cases ru;obtain⟨its,r',pl,hz⟩:=I1.list hl;have hlen:=r'.length;have sz:=line63;refine HT.Nr (kf:=λi=>(kf i:Int)) (I1.ok.hd hc) pl.isList (by omega) (λi v hv h tk K=>?_) λi v h' tk' hb hv K=>?_
  . have hi:i<xs.length:=by rw[hlen];exact(List.getElem?_eq_some_iff.mp hv).1
    obtain⟨w,e1,e2⟩:=r'.get (i:=i) (x:=xs[i]) (List.getElem?_eq_getElem hi);rw[hv]at e1;cases e1;obtain⟨b,ys,e3,hy,e4⟩:=hk i xs[i] (List.getElem?_eq_getElem hi);rw[e3]at e2;cases e2;obtain⟨its2,r2,pl2,hz2⟩:=I1.tuple hy;have hl2:=r2.length;refine len_tuple (s:={ s1 with heap:=h,toks:=tk }) (items:=its2.toArray) ?_ (by simp only[List.size_toArray]<;>omega) ⟨h,_,tk+1,?_,rfl,λ_ _ z=>z⟩
    . obtain⟨o,a1,a2⟩:=pl2;exact⟨o,K _ _ a1,a2⟩
    . show Value.int _ _=Value.int _ _;rw[List.size_toArray,<-hl2,e4]
  . have hi:i<xs.length:=by rw[hlen];exact(List.getElem?_eq_some_iff.mp hv).1
    obtain⟨w,e1,e2⟩:=r'.get (i:=i) (x:=xs[i]) (List.getElem?_eq_getElem hi);rw[hv]at e1;cases e1;exact⟨xs[i],H1,I1.kept K,e2,q1 i xs[i] (by rw[hlen];exact hb) (List.getElem?_eq_getElem hi)⟩
end
end L2
namespace L2.DL
open PySem PySem.Spec PyProof.Rows PySem.W
noncomputable def tupN:D->Option Nat
  |.tup l=>some l.length
  |_=>none
noncomputable def minBy (f:D->Nat):D->List D->D
  |b,[]=>b
  |b,x::l=>minBy f (if f x<f b then x else b) l
noncomputable def minLD:List D->Option Res
  |[.lst (x::l)]=>if (x::l).all (λd=>(tupN d).isSome) then some (.old (minBy (λd=>(tupN d).getD 0) x l)) else none
  |_=>none
theorem Ap (f:D->Nat) (g:Nat->Nat) (L:List D) (hg:∀ (i:Nat) (d:D),L[i]?=some d->g i=f d):∀ (l:List D) (b:D) (i k:Nat),L.drop k=l->L[i]?=some b ->
    ∃ j,HT.pickOn (λi=>(g i:Int)) l.length k (some i)=some j /\ L[j]?=some (minBy f b l)
  |[],b,i,k,hl,hb=>⟨i,rfl,hb⟩
  | x::l,b,i,k,hl,hb=>by
    have hx:L[k]?=some x:=by rw[<-List.head?_drop,hl];rfl
    have hd:L.drop (k+1)=l:=by rw[<-List.tail_drop,hl];rfl
    have e:HT.pick (λi=>(g i:Int)) k (some i)=if f x<f b then k else i:=by
      rw[HT.mU,hg k x hx,hg i b hb];by_cases c:f x<f b
      . rw[if_pos c,if_pos (by omega)]
      . rw[if_neg c,if_neg (by omega)]
    show ∃ j,HT.pickOn _ l.length (k+1) (some (HT.pick (λi=>(g i:Int)) k (some i)))=some j /\ L[j]?=some (minBy f (if f x<f b then x else b) l);rw[e];by_cases c:f x<f b
    . rw[if_pos c,if_pos c];exact Ap f g L hg l x k (k+1) hd hx
    . rw[if_neg c,if_neg c];exact Ap f g L hg l b i (k+1) hd hb
theorem okMinL {K:Frag}:OkN (rMinL K) minLD:=by
  intro F H xs vs Q s sub rx e k;unfold minLD at e;split at e
  . rename_i x l;split at e
    . rename_i c;cases e;obtain⟨v,t,rfl,h1,h2⟩:=rx;cases (show t=[] from h2);obtain⟨a,ws,rfl,h3,h4⟩:=h1;have hl:=h4.length;obtain⟨i,e1,e2⟩:=Ap (λd=>(tupN d).getD 0) (λi=>((x::l)[i]?.bind tupN).getD 0) (x::l) (λi d e=>by simp only[e,Option.bind_some]) l x 0 1 rfl rfl;refine⟨a,ws,λi=>((x::l)[i]?.bind tupN).getD 0,rfl,.of h3,by rw[<-hl];simp,λi y hy=>?_,λj y hp hy=>?_⟩
      . obtain⟨d,q1,q2⟩:=h4.get' hy;have:=List.all_eq_true.mp c d (List.mem_of_getElem? q1);cases d with
        | tup m =>
          obtain⟨b,us,rfl,q3,q4⟩:=q2;exact⟨b,us,rfl,.of (sub _ _ q3),by dsimp only;rw[q1];exact q4.length.symm⟩
        |_=>cases this
      . rw[<-hl]at hp;have hp':HT.pickOn (λi=>((((x::l)[i]?.bind tupN).getD 0:Nat):Int)) l.length 1 (some 0)=some j:=hp;rw[e1]at hp';cases hp';obtain⟨d',q1,q2⟩:=h4.get' hy;rw[e2]at q1;cases q1;exact k _ _ ⟨rfl,q2⟩
    . cases e
  . cases e
section
variable {X : Cx} {T : Fr} {Z : Xs} {a : Expr} {p q pos kp : Pos} {m : DE (List W)}
theorem GO (hc:X.calm=true) (hg:Gl X "min") (hm:X.mg "min"=none) (hg2:Gl X "len") (hm2:X.mg "len"=none) (ha:PDA X T Z [a] m) (hs:starEach [a] X.env=[(false,eval a X.env)]) :
    PD X T Z (.Call (.Name "min" p) [a] [⟨some "key",.Name "len" q,kp⟩] pos) (dN false minLD m):=PE.imp (GN hc hg hm hg2 hm2 ha hs) (DS okMinL)
end
end L2.DL
namespace HT
open PySem PyProof.Rows PySem.W
section
variable {prog : Program} {w : World} {A : Around} {E : Value -> Shared -> Prop} {s : Shared} {t : Addr} {vs : List Value} {ns : List Int} {Q : Value -> Shared -> Prop}
noncomputable abbrev dist (ns:List Int):List Int:=firstMet (λi=>ns.getD i 0) ns.length
def SetEnd (prog:Program) (w:World) (s:Shared) (ns:List Int) (s':Shared):Prop:=∃ h' tk,s'={ s with heap:=h',toks:=tk } /\ h'.SetOf (intKind prog w) s.heap.objs.size (λk=>(dist ns).any (·==k)) (dist ns).length /\ Kp s.heap h'
theorem LB {led:Bool}(hh:A.handled=none) (ht:s.heap.IsTuple t vs.toArray) (hi:IntsAre vs ns) (hb:ns.length+1<scanBound)
    {P:Result->Shared->Prop}(h:∀ s',SetEnd prog w s ns s'->P (.ok (.ret .none)) s') :
    codeAny (model prog w) A (.builtin "set.update.loop" ⟨[.ref s.heap.objs.size,.ref (s.heap.objs.size+1)],[]⟩) P
      { s with heap:=(s.heap.push { cls:=.type "set",dict:=none,data:=.set #[] 0 (.fresh 0 0 led) }).push { cls:=.type "tuple_iterator",data:=.fields #[.ref t,.int 0 0] } }:=by
  obtain⟨ot,hot,_⟩:=id ht;have lt:=Heap.lt_size hot;have hn:vs.length=ns.length:=hi.length;have sz:(s.heap.push { cls:=.type "set",dict:=none,data:=.set #[] 0 (.fresh 0 0 led) }).objs.size=s.heap.objs.size+1:=size_push' ..;have gI:((s.heap.push { cls:=.type "set",dict:=none,data:=.set #[] 0 (.fresh 0 0 led) }).push { cls:=.type "tuple_iterator",data:=.fields #[.ref t,.int 0 0] }).get? (s.heap.objs.size+1)=some { cls:=.type "tuple_iterator",data:=.fields #[.ref t,.int 0 0] }:=by
    rw[<-sz];exact Heap.get?_push_size _ rfl
  have gS:((s.heap.push { cls:=.type "set",dict:=none,data:=.set #[] 0 (.fresh 0 0 led) }).push { cls:=.type "tuple_iterator",data:=.fields #[.ref t,.int 0 0] }).get? s.heap.objs.size=some { cls:=.type "set",dict:=none,data:=.set #[] 0 (.fresh 0 0 led) } :=
    zH _ (Heap.get?_push_size _ rfl)
  have W:=(Walks.tuple (prog:=prog) (w:=w) (A:=A.in1) hh (s.heap.objs.size+1) t (Nat.ne_of_lt (Nat.lt_succ_of_lt lt)) vs.toArray).toS;rw[show vs.toArray.size=ns.length by simpa using hn]at W
  refine codeAny_set_update_loopS W s.heap.objs.size ?_ (λi=>ns.getD i 0) (λi v e=>IntsAre.int_at hi i v (by simpa using e)) (by omega) (ns.length-0) 0 _ rfl (Nat.zero_le _)
    ⟨⟨_,gI,rfl,rfl⟩,ht.at λo e=>zH _ (zH _ e)⟩ ?_ λs' hm hS=>?_
  . simp only[List.mem_cons,List.not_mem_nil,or_false,not_or];exact⟨by exact Nat.ne_of_lt (Nat.lt_succ_self _),Nat.ne_of_gt lt⟩
  . exact SetOf_congr ((setObjOf_fresh (knd:=intKind prog w) led).setOf gS (by unfold scanBound;omega)) (λ_=>rfl) rfl
  . obtain⟨h',g',d',tk',os'⟩:=s';have e1:g'=s.gens:=hm.gens;have e2:d'=s.drawn:=hm.drawn;have e3:os'=s.os:=hm.os;subst e1 e2 e3;refine h _ ⟨h',tk',rfl,hS,λb o e=>hm.heap b o ?_ (zH _ (zH _ e))⟩;have:=Heap.lt_size e;simp only[List.mem_cons,List.not_mem_nil,or_false,not_or];exact⟨Nat.ne_of_lt this,Nat.ne_of_lt (Nat.lt_succ_of_lt this)⟩
theorem LC {led:Bool}(hh:A.handled=none) (ht:s.heap.IsTuple t vs.toArray) (hi:IntsAre vs ns) (hb:ns.length+1<scanBound) {F:Fin->Shared->Prop}(h:∀ s',SetEnd prog w s ns s'->F (.done (.ret .none)) s') :
    wpAny (model prog w) A (Builtin.«set.__init__» ⟨[.ref s.heap.objs.size,.ref t],[]⟩) F E { s with heap:=s.heap.push { cls:=.type "set",dict:=none,data:=.set #[] 0 (.fresh 0 0 led) } }:=by
  have gS:(s.heap.push { cls:=.type "set",dict:=none,data:=.set #[] 0 (.fresh 0 0 led) }).get? s.heap.objs.size=some { cls:=.type "set",dict:=none,data:=.set #[] 0 (.fresh 0 0 led) }:=Heap.get?_push_size _ rfl;have ht1:(s.heap.push { cls:=.type "set",dict:=none,data:=.set #[] 0 (.fresh 0 0 led) }).IsTuple t vs.toArray:=ht.at λo e=>zH _ e;obtain⟨⟨oc,od,odat,osl⟩,g1,g2,n,g3⟩:=id ht1;simp only at g2 g3;subst g2;subst g3;have y1:=PySem.F.sub_tuple_set;have y2:=PySem.F.sub_tuple_frozenset;have y3:(Value.type "tuple"==Value.type "dict")=false:=by decide
  have sz:(s.heap.push { cls:=.type "set",dict:=none,data:=.set #[] 0 (.fresh 0 0 led) }).objs.size=s.heap.objs.size+1:=size_push' ..;unfold Builtin.«set.__init__» noKeywords Builtin.Frozenset.updateFrom;generalize hP:pyIter=P
  wp_walk
  subst hP;refine wpAny_pyIter_tuple ht1 (zB (wpAny_runValue ?_));rw[sz];refine LB (A:=A) hh ht hi hb λs' e=>?_;exact zP (zP (h s' e))
theorem BD (hh:A.handled=none) (ht:s.heap.IsTuple t vs.toArray) (hi:IntsAre vs ns) (hb:ns.length+1<scanBound) (h:∀ s',SetEnd prog w s ns s'->Q (.ref s.heap.objs.size) s') :
    wpAny (model prog w) A (call (.type "set") [.ref t]) Q E s:=by
  obtain⟨c,tl,f1⟩:=PySem.F.called_set.mro;have f2:=PySem.F.called_set.made;have f3:=PySem.F.called_set.sub;have f4:=PySem.F.called_set.notType;have f5:=PySem.F.called_set.canCreate;have f6:=PySem.F.typeCall_set_1 (.ref t);refine wpAny_call (codeAny_of_tree (zP ⟨Code.quiet_builtin _ (by decide +kernel),codeAny_builtin PySem.F.entry_type_call ?_⟩));rw[Around.under_plain (weight_type_call_type "set" [.ref t] []) rfl]
  repeat (any_goals (first|assumption|wp_step))
  refine codeAny_mono (code_set_new_1 (.ref t) (E:=E) (Q₁:=λo s1=>∃ led:Bool,o=.ref s.heap.objs.size /\ s1={ s with heap:=s.heap.push { cls:=.type "set",dict:=none,data:=.set #[] 0 (.fresh 0 0 led) } }) λled=>⟨led,rfl,rfl⟩) λr s1 hr=>?_;match r,hr with
  |.error e,hr=>exact hr
  | .ok (.ret o),⟨led,e1,e2⟩ =>
    subst e1;subst e2;have gS:(s.heap.push { cls:=.type "set",dict:=none,data:=.set #[] 0 (.fresh 0 0 led) }).get? s.heap.objs.size=some { cls:=.type "set",dict:=none,data:=.set #[] 0 (.fresh 0 0 led) }:=Heap.get?_push_size _ rfl;have ty:Shared.TypeIs { s with heap:=s.heap.push { cls:=.type "set",dict:=none,data:=.set #[] 0 (.fresh 0 0 led) } } (.ref s.heap.objs.size) "set":=⟨_,gS,rfl⟩;have k1:=PySem.F.called_set.init.lookup;have k2:=PySem.F.called_set.init.bind (.ref s.heap.objs.size)
    repeat (any_goals (first|assumption|wp_step))
    refine codeAny_mono (codeAny_call_builtin (R:=wants (λr s2=>r=.none /\ SetEnd prog w s ns s2) E) PySem.F.called_set.init.plain PySem.F.entry_set_init (check_set_init_1 ty ?_)) λr2 s2 hr2=>?_
    . exact LC (by simp[hh]) ht hi hb λs' e=>⟨rfl,e⟩
    . match r2,hr2 with
      |.error e,hr2=>exact hr2
      | .ok (.ret r),⟨e3,e4⟩ =>
        subst e3
        repeat (any_goals (first|assumption|wp_step))
        exact h _ e4
end
end HT
namespace L2
open PySem PySem.Spec PyProof.Rows PySem.W
section
variable {X : Cx} {a : Expr} {p p2 pos pos2 : Pos} {t : TA}
theorem lR:∀ {ns:List Int}{us:List Value},Vals (ns.map V.int) us->IntsAre us ns
  |[],_,.nil=>.nil
  | n::ns,_,.cons r q=>by
    obtain⟨t,rfl⟩:=r;exact .cons n t (lR q)
def rLenSet (K:Frag) (vs:List V) (H:Hp) (Q:VK):Prop:=∃ (p:Addr) (ns:List Int),vs=[.ref p] /\ (SqL K H p (ns.map V.int) \/ SqT K H p (ns.map V.int)) /\ ns.length<4000 /\ Q (.int (HT.dist ns).length) H
theorem GP (hc:X.calm=true) (hg:Gl X "len") (hm:X.mg "len"=none) (hg2:Gl X "set") (hm2:X.mg "set"=none) (ha:PA X [a] t) (hs:DL.nst a=true) :
    PE X (.Call (.Name "len" p) [.Call (.Name "set" p2) [a] [] pos2] [] pos) (tCB (rLenSet X.K) t):=by
  intro pins s σ H Q I h;have st:=DL.fE (e:=.Call (.Name "set" p2) [a] [] pos2) rfl [] X.env;refine wpAny_Call_Name_kw (iC I hg hm PySem.boot_len ?_ (by decide) (by decide));refine callWith_builtin1 ?_ st (DL.iR (es:=[]) rfl);rw[st];show wpAny _ _ (spliced ((false,eval (.Call (.Name "set" p2) [a] [] pos2) X.env)::backTo pos (starEach [] X.env))) _ _ s;refine Calls.spliced_cons (wpAny_Call_Name_kw (iC I hg2 hm2 (by decide +kernel:bootBuiltins "set"=some (.type "set")) ?_ (by decide) (by decide)));refine callWith_type1 (thn (ha pos2 pins s σ H _ I h) λus s1 ⟨vs,H1,I1,r1,q1⟩=>?_) (DL.fE hs [] X.env) rfl;obtain⟨l,ns,rfl,hl,hn,q⟩:=q1;obtain⟨u,rfl,ru⟩:=Vals.one r1;cases ru;have fin:∀ s',HT.SetEnd X.prog X.w s1 ns s'->wpAny (model X.prog X.w) X.A (spliced (backTo pos (starEach [] X.env))) (λws s2=>wpAny (model X.prog X.w) X.A (call (.builtin "len") (.ref s1.heap.objs.size::ws)) (EP X pins σ Q) X.xe s2) X.xe s':=λs' e=>by
    obtain⟨h',tk,rfl,⟨o,es,ep,tb,ho,hex,hd,_,_,hb,hf,hz⟩,hk⟩:=e;have sb:scanBound=4096:=rfl;refine Calls.spliced_nil (call_len_set ho hex hd hf (by omega) ⟨.int (HT.dist ns).length,H1,I1.kept hk,⟨_,by rw[hz]⟩,q⟩)
  have sb:scanBound=4096:=rfl;rcases hl with hl|hl
  . obtain⟨its,r',pl,hz⟩:=I1.list hl;have hi:=lR r';have hln:=hi.length;refine call_set_list (I1.ok.hd hc) pl.isList (by simpa using hi) (by rw[List.size_toArray];omega) λh' tk hS hk=>fin _ ⟨h',tk,rfl,?_,λb o e=>hk b o (Heap.lt_size e) e⟩;rw[show its.toArray.size=ns.length by simpa using hln]at hS;exact hS
  . obtain⟨its,r',pl,hz⟩:=I1.tuple hl;obtain⟨o,z1,z2,z3⟩:=pl;exact HT.BD (vs:=its) (ns:=ns) (I1.ok.hd hc) ⟨o,z1,z2,z3⟩ (lR r') (by omega) fin
end
end L2
namespace L2.DL
open PySem PySem.Spec PyProof.Rows PySem.W
noncomputable def lenSetD:List D->Option Res:=λxs=>match xs with
  |[.lst l]=>(intsOf l).bind λns=>if ns.length<4000 then some (.old (.int (HT.dist ns).length)) else none
  |[.tup l]=>(intsOf l).bind λns=>if ns.length<4000 then some (.old (.int (HT.dist ns).length)) else none
  |_=>none
theorem okLenSet {K:Frag}:OkN (rLenSet K) lenSetD:=by
  intro F H xs vs Q s sub rx e k;unfold lenSetD at e;split at e
  . rename_i l;cases e1:intsOf l with
    |none=>rw[e1]at e;cases e
    | some ns =>
      rw[e1]at e;simp only[Option.bind_some]at e;split at e
      . rename_i hn;cases e;obtain⟨v,t,rfl,h1,h2⟩:=rx;cases (show t=[] from h2);obtain⟨a,ws,rfl,h3,h4⟩:=h1;have q1:=h4.ints e1;subst q1;exact⟨a,ns,rfl,.inl (.of h3),hn,k _ _ ⟨rfl,rfl⟩⟩
      . cases e
  . rename_i l;cases e1:intsOf l with
    |none=>rw[e1]at e;cases e
    | some ns =>
      rw[e1]at e;simp only[Option.bind_some]at e;split at e
      . rename_i hn;cases e;obtain⟨v,t,rfl,h1,h2⟩:=rx;cases (show t=[] from h2);obtain⟨a,ws,rfl,h3,h4⟩:=h1;have q1:=h4.ints e1;subst q1;exact⟨a,ns,rfl,.inr (.of (sub _ _ h3)),hn,k _ _ ⟨rfl,rfl⟩⟩
      . cases e
  . cases e
section
variable {X : Cx} {T : Fr} {Z : Xs} {a : Expr} {p p2 pos pos2 : Pos} {m : DE (List W)}
theorem GQ (hc:X.calm=true) (hg:Gl X "len") (hm:X.mg "len"=none) (hg2:Gl X "set") (hm2:X.mg "set"=none) (ha:PDA X T Z [a] m) (hs:nst a=true) :
    PD X T Z (.Call (.Name "len" p) [.Call (.Name "set" p2) [a] [] pos2] [] pos) (dN false lenSetD m):=PE.imp (GP hc hg hm hg2 hm2 ha hs) (DS okLenSet)
end
end L2.DL
namespace K53
open PySem PySem.Spec PyProof.Rows L2 L2.DL
noncomputable def jh:DSt:=(fG (fP (fN true (fc (d2 false ixD (d2 false ixD (dV 1) (fk K1.fj 2 (fc (dV 0) (fc (dN false lenD (fc (dV 1) fe)) fe)))) (dC (.int 0))) fe)) (fg 2)) (fG (il (dRng1 (fc (dC (.int 6)) fe)) (fg 3) (fG (fP (fD false [none,none,some 2] (dIter (dV 1)) (jM 2 (gF (fg 0) (gF (fg 1) lY))) (dB (d2 false eqD (dV 0) (d2 false ixD (dV 2) (dNeg (dC (.int 1)))))) (dV 1)) (fg 4)) (fG (sIf (dB (d2 false eqD (dV 4) (fN false fe))) (fQ (dN false tupleD (fc (dV 2) fe))) sNil) (fG (fP (d2 false ixD (dV 4) (fk K1.fj 2 (fc (dV 0) (fc (dN false lenD (fc (dV 4) fe)) fe)))) (fg 5)) (fG (sIf (dB (d2 false (inD false) (dV 5) (dV 2))) (fQ (dN false tupleD (fc (dSl false (dV 2) (dPart (dIndex (dV 2) (dV 5))) dNo) fe))) sNil) (iB (dApp (dV 2) (dV 5)))))))) (fQ (dN false tupleD (fc (dV 2) fe)))))
noncomputable def gU:List W->List Bx->O W:=fnD 6 (noX jh)
noncomputable def jl:DSt:=(fG (sIf (dOr (dNot (dB (gK "tuple" (dV 1)))) (dOr (dNot (dB (d3 leD leD (dC (.int 2)) (dN false lenD (fc (dV 1) fe)) (dC (.int 5))))) (dNot (dB (dN false allD (fc (fD false [none] (dIter (dV 1)) (fg 0) fL (fk K1.gx 1 (fc (dV 0) fe))) fe)))))) (fQ (dC (.bl false))) sNil) (fG (sIf (dB (d2 false ltD (dN false lenSetD (fc (dV 1) fe)) (dN false lenD (fc (dV 1) fe)))) (fQ (dC (.bl false))) sNil) (fQ (d2 false eqD (fD false [none,some 0,some 1] (dRng1 (fc (dN false lenD (fc (dV 1) fe)) fe)) (fg 0) (dB (d2 false (inD true) (ge (fc (d2 false ixD (dV 2) (d2 false subD (dV 0) (dC (.int 1)))) (fc (d2 false ixD (dV 2) (dV 0)) fe))) (dV 1))) (dV 0)) (fN false fe)))))
noncomputable def gQ:List W->List Bx->O W:=fnD 2 (noX jl)
noncomputable def j5:DSt:=(fG (fP (dIf (dB (d2 false neD (dV 1) (fN false fe))) (fD false [none,some 0,some 1] (dRng1 (fc (fk K1.fj 2 (fc (dV 0) (fc (dC (.int 5)) fe))) fe)) (fg 0) fL (fk K53.gU 2 (fc (dV 1) (fc (dV 2) fe)))) (fN false fe)) (fg 2)) (fG (fP (fD false [none,some 1] (dIter (dV 2)) (fg 0) (dB (fk K53.gQ 2 (fc (dV 1) (fc (dV 0) fe)))) (dV 0)) (fg 2)) (fG (fP (fk K1.fj 2 (fc (dV 0) (fc (d2 false fH (dN false lenD (fc (dV 2) fe)) (dC (.int 1))) fe))) (fg 3)) (fG (fP (fN false (fc (dV 2) (fc (fN false fe) (fc (dN false tupleD (fc (dV 2) fe)) (fc (dDicV false 0 2) (fc (dC .non) (fc (fk K1.fR 1 (fc (dV 0) fe)) (fc (dSl false (d2 false mulD (dV 2) (dC (.int 31))) dNo (dPart (dC (.int 30)))) (fc (dSl false (d2 false mulD (dV 2) (dC (.int 31))) dNo (dPart (dC (.int 31)))) fe))))))))) (fg 4)) (fG (fP (d2 false ixD (d2 false fH (dV 2) (fN false (fc (ge (fc (dC (.int 0)) (fc (dC (.int 1)) fe))) fe))) (dC (.int 0))) (fg 5)) (fG (fP (fN false (fc (d2 false fH (dSl false (dV 5) (dPart (dC (.int 1))) dNo) (dSl false (dV 5) dNo (dPart (dC (.int 1))))) (fc (dRev false (dV 5)) (fc (d2 false fH (dV 5) (dSl false (dV 5) dNo (dPart (dC (.int 1))))) (fc (dSl false (dV 5) dNo (dPart (dC (.int 1)))) (fc (ge fe) (fc (dN false listD (fc (dV 5) fe)) (fc (dC .non) (fc (fk (K1.f8 12) 2 (fc (dV 0) (fc (dV 5) fe))) fe))))))))) (fg 6)) (fG (il (dIter (d2 false fH (dV 6) (fN false (fc (fk K1.fR 1 (fc (dV 0) fe)) (fc (fk (K1.f8 12) 2 (fc (dV 0) (fc (fk (K1.f8 12) 2 (fc (dV 0) (fc (dV 5) fe))) fe))) fe))))) (fg 7) (fP (d2 false fH (dV 4) (fN false (fc (d2 false fH (d2 false fH (dSl false (dV 2) dNo (dPart (dV 3))) (fN false (fc (dV 7) fe))) (dSl false (dV 2) (dPart (dV 3)) dNo)) (fc (fN false (fc (dV 7) fe)) fe)))) (fg 4))) (fQ (dV 4)))))))))
noncomputable def iL:List W->List Bx->O W:=fnD 8 (noX j5)
noncomputable def iD:DSt:=(fQ (gf (gK "list" (dV 1)) (gf (d2 false leD (dN false lenD (fc (dV 1) fe)) (dC (.int 30))) (dN false allD (fc (fD false [none,some 0] (dIter (dV 1)) (fg 0) fL (fk K53.gQ 2 (fc (dV 1) (fc (dV 0) fe)))) fe)))))
noncomputable def gq:List W->List Bx->O W:=fnD 2 (noX iD)
noncomputable def lS:DSt:=(fG (fP (fN false (fc (ge fe) fe)) (fg 1)) (fG (il (dIter (dV 0)) (fg 2) (fP (d2 false fH (dV 1) (fD false [none,some 2] (dIter (dV 1)) (fg 0) fL (d2 false fH (dV 0) (ge (fc (dV 1) fe))))) (fg 1))) (fQ (fD false [none,none] (dIter (dN false sortA (fc (fD false [none] (dIter (dV 1)) (fg 0) fL (ge (fc (dN false lenD (fc (dV 0) fe)) (fc (dV 0) fe)))) fe))) (jM 2 (gF (fg 0) (gF (fg 1) lY))) fL (dV 1)))))
noncomputable def j6:List W->List Bx->O W:=fnD 3 (noX lS)
noncomputable def jG:DSt:=(fG (il (dIter (fk K53.j6 1 (fc (dLR false (fc (dN false lenD (fc (d2 false ixD (dV 0) (dC (.int 0))) fe)) fe)) fe))) (fg 2) (sIf (dB (d2 false eqD (fD false [none,some 2] (dIter (dV 1)) (fg 0) (dB (d2 false eqD (fD false [none,some 1] (dIter (dV 0)) (fg 0) (dB (d2 false (inD false) (dV 0) (dV 1))) (dV 0)) (fN false fe))) (dV 0)) (fN false fe))) (fQ (dN false lenD (fc (dV 2) fe))) sNil)) (fQ (dC (.int 99))))
noncomputable def gJ:List W->List Bx->O W:=fnD 3 (noX jG)
noncomputable def iM:DSt:=(fG (iB (fk K2.jj 1 (fc (dV 0) fe))) (sIf (dNot (dB (fk K52.jE 2 (fc (dV 0) (fc (dV 1) fe))))) (sRaise 8 (dC (.str "moves are a list of at most ten tuples (from, to) of unlike rooms"))) sNil))
noncomputable def jm:List W->List Bx->O W:=fnD 2 iM
noncomputable def gD:DSt:=(sIf (dNot (dB (fk K1.ja 1 (fc (dV 0) fe)))) (sRaise 7 (dC (.str "a whole number is an int that is no truth"))) sNil)
noncomputable def gR:List W->List Bx->O W:=fnD 1 gD
noncomputable def mV:DSt:=(fG (sIf (dOr (dNot (dB (fk K1.f7 3 (fc (dV 2) (fc (dC (.int 2)) (fc (dC (.int 5)) fe)))))) (dNot (dB (dN false allD (fc (fD false [none,some 0] (dIter (dV 2)) (fg 0) fL (fk K2.gM 2 (fc (dV 1) (fc (dV 0) fe)))) fe))))) (fQ (dC (.bl false))) sNil) (fQ (gf (d2 false eqD (dN false lenSetD (fc (dV 2) fe)) (dN false lenD (fc (dV 2) fe))) (dN false allD (fc (fD false [none,some 1] (dZip (fc (dV 2) (fc (d2 false fH (dSl false (dV 2) (dPart (dC (.int 1))) dNo) (dSl false (dV 2) dNo (dPart (dC (.int 1))))) fe))) (fg 0) fL (d2 false (inD false) (dV 0) (dV 1))) fe)))))
noncomputable def iV:List W->List Bx->O W:=fnD 3 (noX mV)
noncomputable def BE:DSt:=(fQ (dN false anyD (fc (fD false [none,some 1] (dIter (dV 0)) (fg 0) fL (d2 false (inD false) (dV 0) (dV 1))) fe)))
noncomputable def mw:List W->List Bx->O W:=fnD 2 (noX BE)
noncomputable def iu:DSt:=(fG (fP (fN false (fc (ge fe) fe)) (fg 2)) (fG (il (dRng1 (fc (dN false lenD (fc (d2 false ixD (dV 0) (dC (.int 0))) fe)) fe)) (fg 3) (fP (d2 false fH (dV 2) (fD false [none,some 3] (dIter (dV 2)) (fg 0) fL (d2 false fH (dV 0) (ge (fc (dV 1) fe))))) (fg 2))) (fG (fP (fD false [none,some 1] (dIter (dV 2)) (fg 0) (dB (dN false allD (fc (fD false [none,some 0] (dIter (dV 1)) (fg 0) fL (fk K53.mw 2 (fc (dV 1) (fc (dV 0) fe)))) fe))) (dV 0)) (fg 4)) (fQ (dN false minLD (fc (dV 4) fe))))))
noncomputable def gL:List W->List Bx->O W:=fnD 5 (noX iu)
noncomputable def ia:DSt:=(fG (iB (fk K53.jm 2 (fc (dV 0) (fc (dV 1) fe)))) (fG (iB (fk K53.gR 1 (fc (dV 2) fe))) (fG (sIf (dOr (dNot (dB (gK "list" (dV 3)))) (dB (d2 false gtI (dN false lenD (fc (dV 3) fe)) (dC (.int 30))))) (fQ (dC (.bl false))) sNil) (fQ (gf (dN false allD (fc (fD false [none,some 0,some 1] (dIter (dV 3)) (fg 0) fL (fk K53.iV 3 (fc (dV 1) (fc (dV 2) (fc (dV 0) fe))))) fe)) (d2 false geI (dN false lenD (fc (fk K53.gL 2 (fc (dV 0) (fc (dV 3) fe))) fe)) (dV 2)))))))
noncomputable def gz:List W->List Bx->O W:=fnD 4 ia
noncomputable def iW:DSt:=(sTry (fQ (fk K53.gz 4 (fc (dV 0) (fc (dV 1) (fc (dV 2) (fc (dV 3) fe)))))))
noncomputable def gm:List W->List Bx->O W:=fnD 5 (noX iW)
noncomputable def LD:DSt:=(fG (il (dRng1 (fc (dN false maxD (fc (dC (.int 1)) (fc (dN false minD (fc (dLenS (dV 0)) (fc (dC (.int 6)) fe))) fe))) fe)) (fg 1) (fG (fP (fk K1.jB 1 (fc (fk K1.ic 2 (fc (dV 0) (fc (dV 1) fe))) fe)) (fg 2)) (fG (fP (fk K52.iJ 1 (fc (dV 2) fe)) (fg 3)) (il (dRng1 (fc (dC (.int 3)) fe)) (fg 4) (fG (fP (fk K52.iK 2 (fc (dV 2) (fc (dV 3) fe))) (fg 5)) (fG (il (dIter (fk K53.iL 2 (fc (dV 2) (fc (dV 5) fe)))) (fg 6) (fG (sPar 7 8 (fc (fk K53.gq 2 (fc (dV 5) (fc (dV 6) fe))) (fc (dRepr (ge (fc (dV 3) (fc (dV 5) (fc (dV 6) fe))))) fe))) (fG (fP (dIf (dTru (dV 7)) (fk K53.gJ 2 (fc (dV 3) (fc (dV 6) fe))) (dC (.int 1))) (fg 9)) (fG (fP (d2 false fH (dV 9) (d2 false ixD (fN false (fc (dC (.int 0)) (fc (dC (.int 1)) (fc (dNeg (dC (.int 1))) (fc (d2 false powD (dC (.int 10)) (dC (.int 20))) (fc (dNeg (d2 false powD (dC (.int 10)) (dC (.int 20)))) fe)))))) (fk K1.fj 2 (fc (dV 2) (fc (dC (.int 5)) fe))))) (fg 10)) (fG (sIf (dB (d2 false neD (dRepr (fk K53.gm 4 (fc (dV 3) (fc (dV 5) (fc (dV 10) (fc (dV 6) fe)))))) (dRepr (gf (dV 7) (d2 false geI (dV 9) (dV 10)))))) (fQ (dC (.bl false))) sNil) (sIf (dB (d2 false neD (dRepr (ge (fc (dV 3) (fc (dV 5) (fc (dV 6) fe))))) (dV 8))) (fQ (dC (.bl false))) sNil)))))) (il (dIter (ge (fc (dC (.bl true)) (fc (dC .non) (fc (dC (.str "1")) (fc (ge (fc (dC (.int 1)) fe)) (fc (fN false (fc (dC (.int 1)) fe)) fe))))))) (fg 11) (sIf (dB (d2 false neD (fk K53.gm 4 (fc (dV 3) (fc (dV 5) (fc (dV 11) (fc (fN false fe) fe))))) (dC (.str "number")))) (fQ (dC (.bl false))) sNil)))))))) (fQ (dC (.bl true))))
noncomputable def BF:List W->List Bx->O W:=fnD 12 (noX LD)
end K53
namespace K53
open PySem PySem.Spec PyProof.Rows L2 L2.DL K1 K52
section
variable {α : Type} {enc : α -> D} {tf : DE Bool} {te : DE W} {bx : List Bx} {r : DEnv}
theorem compE0 (p:α->Bool) (f:α->D):∀ (l:List α) (w:Option W) (acc:List D),acc.length+l.length<=sizeLine->(∀ a∈l,tf (some (.d (enc a))::r) bx=.val (p a) bx /\ (p a=true->te (some (.d (enc a))::r) bx=.val (.d (f a)) bx)) ->
    compD (fg 0) tf te ((l.map enc).map W.d) (w::r) bx acc=.val (acc++(l.filter p).map f) bx
  |[],w,acc,_,_=>by simp[compD]
  | a::l,w,acc,n,h=>by
    obtain⟨h1,h2⟩:=h a (List.mem_cons_self ..);rw[List.length_cons]at n;have n':acc.length<sizeLine:=by omega
    have e0:fg 0 (W.d (enc a)) (w::r) bx=some (some (W.d (enc a))::r,bx):=rfl;cases c:p a with
    | false =>
      rw[List.filter_cons_of_neg (by simp[c]),<-compE0 p f l (some (W.d (enc a))) acc (by omega) λx m=>h x (List.mem_cons_of_mem _ m)];rw[c]at h1;simp only[List.map_cons,compD,e0,h1,Dm]
    | true =>
      rw[List.filter_cons_of_pos c];have ih:=compE0 p f l (some (W.d (enc a))) (acc++[f a]) (by simp;omega) λx m=>h x (List.mem_cons_of_mem _ m);rw[c]at h1;simp only[List.map_cons,compD,e0,h1,h2 c,Dm,if_pos n',ih];simp
theorem compE {src:List (Option Nat)}{mi:DE (List W)}{env:DEnv}{bx0:List Bx}{l:List α}(p:α->Bool) (f:α->D) (h1:mi env bx0=.val ((l.map enc).map W.d) bx) (he:srcEnv src env=none::r) (n:l.length<=sizeLine)
    (h:∀ a∈l,tf (some (.d (enc a))::r) bx=.val (p a) bx /\ (p a=true->te (some (.d (enc a))::r) bx=.val (.d (f a)) bx)):fD false src mi (fg 0) tf te env bx0=.val (.d (.lst ((l.filter p).map f))) bx :=
  jg h1 he (by rw[compE0 p f l none [] (by simpa using n) h];rfl)
theorem compA {src:List (Option Nat)}{mi:DE (List W)}{env:DEnv}{bx0:List Bx}{l:List α}(f:α->D) (h1:mi env bx0=.val ((l.map enc).map W.d) bx) (he:srcEnv src env=none::r) (n:l.length<=sizeLine)
    (h:∀ a∈l,te (some (.d (enc a))::r) bx=.val (.d (f a)) bx):fD false src mi (fg 0) fL te env bx0=.val (.d (.lst (l.map f))) bx:=by
  have:=compE (tf:=fL) (λ_=>true) f h1 he n λa m=>⟨rfl,λ_=>h a m⟩
  rwa [List.filter_eq_self.mpr λ_ _=>rfl]at this
theorem AX (l:List α) (p:α->Bool):bolsOf (l.map λd=>D.bl (p d))=some (l.map p):=by
  induction l with
  |nil=>rfl
  |cons d l ih=>simp[bolsOf,ih]
theorem allE {src:List (Option Nat)}{mi:DE (List W)}{env:DEnv}{bx0:List Bx}{l:List α}(p:α->Bool) (h1:mi env bx0=.val ((l.map enc).map W.d) bx) (he:srcEnv src env=none::r) (n:l.length<=sizeLine)
    (h:∀ a∈l,te (some (.d (enc a))::r) bx=.val (.d (.bl (p a))) bx):dN false allD (fc (fD false src mi (fg 0) fL te) fe) env bx0=.val (.d (.bl (l.all p))) bx :=
  gZ (r:=.old (.bl (l.all p))) [.lst (l.map λa=>.bl (p a))] (ff (compA _ h1 he n h) rfl) (by simp[allD,AX,List.all_map])
theorem anyE {src:List (Option Nat)}{mi:DE (List W)}{env:DEnv}{bx0:List Bx}{l:List α}(p:α->Bool) (h1:mi env bx0=.val ((l.map enc).map W.d) bx) (he:srcEnv src env=none::r) (n:l.length<=sizeLine)
    (h:∀ a∈l,te (some (.d (enc a))::r) bx=.val (.d (.bl (p a))) bx):dN false anyD (fc (fD false src mi (fg 0) fL te) fe) env bx0=.val (.d (.bl (l.any p))) bx :=
  gZ (r:=.old (.bl (l.any p))) [.lst (l.map λa=>.bl (p a))] (ff (compA _ h1 he n h) rfl) (by simp[anyD,AX,List.any_map])
end
noncomputable abbrev tupI (l:List Int):D:=.tup (l.map D.int)
theorem mB:∀ l:List Int,PyData.canLayAll0 (toPys (l.map D.int))=true /\ PyData.depthAll (toPys (l.map D.int))=0
  |[]=>⟨rfl,rfl⟩
  | i::l=>by
    obtain⟨a,b⟩:=mB l;simp[toPys,toPy,PyData.canLayAll0,PyData.canLay0,PyData.depthAll,PyData.depth,a,b]
theorem CF:∀ l:List (List Int),PyData.canLayAll0 (toPys (l.map tupI))=true /\ PyData.depthAll (toPys (l.map tupI))<=1
  |[]=>⟨rfl,Nat.zero_le _⟩
  | i::l=>by
    obtain⟨a,b⟩:=CF l;obtain⟨c,d⟩:=mB i;simp only[List.map_cons,toPys,toPy,PyData.canLayAll0,PyData.canLay0,PyData.depthAll,PyData.depth,a,c,d];exact⟨rfl,by omega⟩
theorem Nt (l:List Int):okQ (tupI l)=true:=by
  obtain⟨c,d⟩:=mB l;simp[okQ,toPy,PyData.canLay0,PyData.depth,c,d]
theorem CG (l:List (List Int)):okQ (.lst (l.map tupI))=true:=by
  obtain⟨c,d⟩:=CF l;unfold okQ;simp only[toPy,PyData.canLay0,PyData.depth,c,Bool.true_and,decide_eq_true_eq];omega
theorem Nu:okQ (.lst [])=true:=by decide
theorem Dv (ps:List (Int×Int)):ps.map dP=(ps.map λq=>[q.1,q.2]).map tupI:=by rw[List.map_map];rfl
theorem LE (a b:Int×Int):eqv (dP a) (dP b)=decide (a=b):=by
  rw[Bool.eq_iff_iff];obtain⟨a1,a2⟩:=a;obtain⟨b1,b2⟩:=b;simp[eqv,toPy,toPys,PyData.eqv,PyData.eqvAll]
theorem PX (ps:List (Int×Int)) (q:Int×Int):((ps.map dP).any λz=>eqv z (dP q))=decide (q∈ps):=by
  rw[Bool.eq_iff_iff,List.any_eq_true,decide_eq_true_eq];constructor
  . rintro⟨z,m,e⟩;obtain⟨x,mx,rfl⟩:=List.mem_map.mp m;rw[LE,decide_eq_true_eq]at e;exact e▸mx
  . intro m;exact⟨dP q,List.mem_map.mpr ⟨q,m,rfl⟩,by rw[LE,decide_eq_true_eq]⟩
theorem CH (neg:Bool) (q:Int×Int) (ps:List (Int×Int)):inD neg (dP q) (.lst (ps.map dP))=some (.old (.bl (if neg then !decide (q∈ps) else decide (q∈ps)))):=by
  show (if flatD (dP q)=true /\ (ps.map dP).all flatD=true then some (Res.old (.bl (if neg then !inF (dP q) (ps.map dP) else inF (dP q) (ps.map dP)))) else gIn neg (dP q) (.lst (ps.map dP)) (ps.map dP))=_;rw[if_neg (λz=>by cases z.1)];unfold gIn;rw[show okQ (dP q)=true from Nt [q.1,q.2],show okQ (.lst (ps.map dP))=true by rw[Dv];exact CG _,PX];rfl
theorem GR {x:D}{l:List D}{ns:List Int}(h:intsOf (x::l)=some ns):ns≠[]:=by
  have:=jp h;intro z;subst z;cases this
theorem eq_nil {l:List D}(h:okQ (.lst l)=true):eqD (.lst l) (.lst [])=some (.old (.bl l.isEmpty)):=by
  cases l with
  |nil=>rfl
  | cons x l =>
    show (match intsOf (x::l),intsOf [] with|some ns,some ms=>some (Res.old (.bl (decide (ns=ms))))|_,_=>gEq false (.lst (x::l)) (.lst []))=_;cases e:intsOf (x::l) with
    | some ns =>
      show some (Res.old (.bl (decide (ns=[]))))=_;rw[decide_eq_false (GR e)];rfl
    | none =>
      show gEq false (.lst (x::l)) (.lst [])=_;unfold gEq;rw[h,Nu];simp[eqv,toPy,toPys,PyData.eqv,PyData.eqvAll]
theorem Aq (l:List Int):okQ (.lst (l.map D.int))=true:=by
  obtain⟨c,d⟩:=mB l;simp[okQ,toPy,PyData.canLay0,PyData.depth,c,d]
theorem FE (neg:Bool) (is:List Int) (b:Int):inD neg (.int b) (.tup (is.map D.int))=some (.old (.bl (if neg then !decide (b∈is) else decide (b∈is)))):=by
  show (if flatD (.int b)=true /\ (is.map D.int).all flatD=true then some (Res.old (.bl (if neg then !inF (.int b) (is.map D.int) else inF (.int b) (is.map D.int)))) else gIn neg _ _ _)=_;rw[if_pos ⟨rfl,mT is⟩,CC];have:(is.any λz=>decide (z=b))=decide (b∈is):=by
    rw[Bool.eq_iff_iff];simp
  rw[this]
theorem Nv (is:List Int):(HT.dist is).length<=is.length:=firstMet_length_le _ _
noncomputable def steps (ps:List (Int×Int)) (is:List Int):Bool:=(is.zip (is.drop 1++is.take 1)).all λq=>decide (q∈ps)
noncomputable def ringI (ps:List (Int×Int)) (is:List Int):Bool:=decide ((HT.dist is).length=is.length)&&steps ps is
noncomputable def ringB (ps:List (Int×Int)) (d:D):Bool:=match d with
  |.tup l=>decide (2<=l.length /\ l.length<=5)&&(match intsOf l with|some is=>ringI ps is|none=>false)
  |_=>false
theorem list25 {α:Type}{P:List α->Prop}(l:List α) (h:2<=l.length /\ l.length<=5) (h2:∀ a b,P [a,b]) (h3:∀ a b c,P [a,b,c]) (h4:∀ a b c d,P [a,b,c,d]) (h5:∀ a b c d e,P [a,b,c,d,e]):P l:=by
  match l,h with
  |[],h=>simp at h
  |[_],h=>simp at h
  |[a,b],_=>exact h2 a b
  |[a,b,c],_=>exact h3 a b c
  |[a,b,c,d],_=>exact h4 a b c d
  |[a,b,c,d,e],_=>exact h5 a b c d e
  |_::_::_::_::_::_::_,h=>simp at h
theorem intsAll:∀ {l:List D},l.all wh=true->∃ is:List Int,l=is.map D.int
  |[],_=>⟨[],rfl⟩
  | x::l,h=>by
    rw[List.all_cons,zA]at h;obtain⟨is,rfl⟩:=intsAll h.2;cases x with
    |int i=>exact⟨i::is,rfl⟩
    |_=>cases h.1
theorem intsNone:∀ {l:List D},l.all wh=false->intsOf l=none
  |[],h=>by cases h
  | x::l,h=>by
    rw[List.all_cons]at h;cases x with
    | int i =>
      have:l.all wh=false:=by simpa[wh] using h
      unfold intsOf;rw[intsNone this];rfl
    |_=>rfl
section
variable {bx : List Bx}
noncomputable def at1 (is:List Int) (k:Nat):Int×Int:=(is.getD ((k+is.length-1) % is.length) 0,is.getD k 0)
theorem GS (ps:List (Int×Int)) (is:List Int) (h:2<=is.length /\ is.length<=5):((List.range is.length).filter λk=>!decide (at1 is k∈ps)).isEmpty=steps ps is:=by
  rw[Bool.eq_iff_iff,List.isEmpty_iff,List.filter_eq_nil_iff];refine list25 (P:=λis=>(∀ a∈List.range is.length,¬(!decide (at1 is a∈ps))=true) ↔ steps ps is=true) is h ?_ ?_ ?_ ?_
  . intro a b;simp only[steps,at1,List.length_cons,List.length_nil,List.mem_range];constructor
    . intro h;have h0:=h 0 (by decide);have h1:=h 1 (by decide);simp_all
    . intro h k hk;match k,hk with
      |0,_=>simp_all
      |1,_=>simp_all
  . intro a b c;simp only[steps,at1,List.length_cons,List.length_nil,List.mem_range];constructor
    . intro h;have h0:=h 0 (by decide);have h1:=h 1 (by decide);have h2:=h 2 (by decide);simp_all
    . intro h k hk;match k,hk with
      |0,_=>simp_all
      |1,_=>simp_all
      |2,_=>simp_all
  . intro a b c d;simp only[steps,at1,List.length_cons,List.length_nil,List.mem_range];constructor
    . intro h;have h0:=h 0 (by decide);have h1:=h 1 (by decide);have h2:=h 2 (by decide);have h3:=h 3 (by decide);simp_all
    . intro h k hk;match k,hk with
      |0,_=>simp_all
      |1,_=>simp_all
      |2,_=>simp_all
      |3,_=>simp_all
  . intro a b c d e;simp only[steps,at1,List.length_cons,List.length_nil,List.mem_range];constructor
    . intro h;have h0:=h 0 (by decide);have h1:=h 1 (by decide);have h2:=h 2 (by decide);have h3:=h 3 (by decide);have h4:=h 4 (by decide);simp_all
    . intro h k hk;match k,hk with
      |0,_=>simp_all
      |1,_=>simp_all
      |2,_=>simp_all
      |3,_=>simp_all
      |4,_=>simp_all
theorem R6 (is:List Int) (k:Nat) (h:k<is.length):atI (is.map D.int) (k:Int)=some (.int (is.getD k 0)):=by
  simp[atI,ixN,h]
theorem Sz (is:List Int) (k:Nat) (h:k<is.length):atI (is.map D.int) ((k:Int)-1)=some (.int (is.getD ((k+is.length-1) % is.length) 0)):=by
  cases k with
  | zero =>
    have e:(0+is.length-1) % is.length=is.length-1:=by rw[Nat.zero_add];exact Nat.mod_eq_of_lt (by omega)
    rw[e];unfold atI;rw[show ((0:Nat):Int)-1=-1 by rfl,List.length_map,An h];have h':is.length-1<is.length:=by omega
    simp[h']
  | succ k =>
    have e:(k+1+is.length-1) % is.length=k:=by
      rw[show k+1+is.length-1=k+is.length by omega,Nat.add_mod_right];exact Nat.mod_eq_of_lt (by omega)
    rw[e,show ((k+1:Nat):Int)-1=(k:Int) by omega];exact R6 is k (by omega)
theorem CI (is:List Int) (h:is.length<=5):lenSetD [.tup (is.map D.int)]=some (.old (.int (HT.dist is).length)):=by
  show ((intsOf (is.map D.int)).bind λns=>if ns.length<4000 then some (Res.old (.int (HT.dist ns).length)) else none)=_;rw[K1.jr,Option.bind_some,if_pos (by omega)]
theorem lH (ps:List (Int×Int)) (d:D):gQ [.d (.lst (ps.map dP)),.d d] bx=.val (.d (.bl (ringB ps d))) bx:=by
  have sz:sizeLine=16777216:=sizeLine_eq;refine gE ?_;show jl [some (.d (.lst (ps.map dP))),some (.d d)] bx=_;unfold jl;by_cases hd:∃ l,d=.tup l
  . obtain ⟨l,rfl⟩:=hd;have i1:dNot (dB (gK "tuple" (dV 1))) [some (.d (.lst (ps.map dP))),some (.d (.tup l))] bx=.val false bx:=iq (b:=true) (gO (b:=true) rfl);have i2:dNot (dB (d3 leD leD (dC (.int 2)) (dN false lenD (fc (dV 1) fe)) (dC (.int 5)))) [some (.d (.lst (ps.map dP))),some (.d (.tup l))] bx=.val (!decide (2<=l.length /\ l.length<=5)) bx:=by
      have:d3 leD leD (dC (.int 2)) (dN false lenD (fc (dV 1) fe)) (dC (.int 5)) [some (.d (.lst (ps.map dP))),some (.d (.tup l))] bx=.val (.d (.bl (decide (2<=l.length /\ l.length<=5)))) bx:=by
        rw[Sv];have z:dN false lenD (fc (dV 1) fe) [some (.d (.lst (ps.map dP))),some (.d (.tup l))] bx=.val (.d (.int (l.length:Nat))) bx:=gZ (r:=.old (.int (l.length:Nat))) [.tup l] (ff rfl rfl) rfl;simp only[RT,fZ,z,m9,Option.bind_some,leD,im,oC];by_cases c:2<=l.length
        . have:(2:Int)<=(l.length:Nat):=by omega
          simp only[this,decide_true,fZ];by_cases c2:l.length<=5
          . have:((l.length:Nat):Int)<=5:=by omega
            simp[this,c,c2]
          . have:¬ ((l.length:Nat):Int)<=5:=by omega
            simp[this,c,c2]
        . have:¬ (2:Int)<=(l.length:Nat):=by omega
          simp[this,c]
      exact iq (gO this)
    by_cases hl:2<=l.length /\ l.length<=5
    . rw[decide_eq_true hl]at i2;have i3:dNot (dB (dN false allD (fc (fD false [none] (dIter (dV 1)) (fg 0) fL (fk K1.gx 1 (fc (dV 0) fe))) fe))) [some (.d (.lst (ps.map dP))),some (.d (.tup l))] bx=.val (!l.all wh) bx :=
        iq (gO (allE (enc:=λd=>d) wh (by rw[List.map_id'];exact lq rfl) rfl (by omega) λa _=>fF (ff rfl rfl) rfl (AU a bx)))
      cases c:l.all wh with
      | false =>
        rw[c]at i3;have r0:ringB ps (.tup l)=false:=by simp only[ringB,intsNone c,Bool.and_false]
        rw[r0];exact ir ((lP (lG i1 (lG i2 i3))).trans (gh rfl))
      | true =>
        rw[c]at i3;obtain⟨is,rfl⟩:=intsAll c;rw[List.length_map]at hl;have r0:ringB ps (.tup (is.map D.int))=ringI ps is:=by simp only[ringB,List.length_map,hl,K1.jr];simp
        rw[r0];refine(fB ((jJ (lG i1 (lG i2 i3))).trans rfl)).trans ?_;have dl:=Nv is;have j1:dN false lenD (fc (dV 1) fe) [some (.d (.lst (ps.map dP))),some (.d (.tup (is.map D.int)))] bx=.val (.d (.int (is.length:Nat))) bx:=gZ (r:=.old (.int (is.length:Nat))) [.tup (is.map D.int)] (ff rfl rfl) (by simp[lenD]);have j2:dB (d2 false ltD (dN false lenSetD (fc (dV 1) fe)) (dN false lenD (fc (dV 1) fe))) [some (.d (.lst (ps.map dP))),some (.d (.tup (is.map D.int)))] bx=.val (decide ((HT.dist is).length<is.length)) bx :=
          gO (fM (r:=.old (.bl (decide ((HT.dist is).length<is.length)))) (gZ (r:=.old (.int (HT.dist is).length)) [.tup (is.map D.int)] (ff rfl rfl) (CI is hl.2)) j1 (by simp[ltD]))
        by_cases c2:(HT.dist is).length<is.length
        . rw[decide_eq_true c2]at j2;have r1:ringI ps is=false:=by unfold ringI;rw[decide_eq_false (by omega),Bool.false_and]
          rw[r1];exact ir ((lP j2).trans (gh rfl))
        . rw[decide_eq_false c2]at j2;have r1:ringI ps is=steps ps is:=by unfold ringI;rw[decide_eq_true (by omega),Bool.true_and]
          rw[r1];refine(fB ((jJ j2).trans rfl)).trans ?_;have cp:fD false [none,some 0,some 1] (dRng1 (fc (dN false lenD (fc (dV 1) fe)) fe)) (fg 0) (dB (d2 false (inD true) (ge (fc (d2 false ixD (dV 2) (d2 false subD (dV 0) (dC (.int 1)))) (fc (d2 false ixD (dV 2) (dV 0)) fe))) (dV 1))) (dV 0) [some (.d (.lst (ps.map dP))),some (.d (.tup (is.map D.int)))] bx=.val (.d (.lst (((List.range is.length).filter λk=>!decide (at1 is k∈ps)).map λ(k:Nat)=>D.int (k:Int)))) bx:=by
            refine compE (enc:=λ(k:Nat)=>D.int (k:Int)) (r:=[some (.d (.lst (ps.map dP))),some (.d (.tup (is.map D.int)))]) (l:=List.range is.length) _ _ ?_ rfl (by simp;omega) λk mk=>?_
            . have e:=io (ff (ks:=fe) j1 rfl) (by omega);rw[e,Fp];simp
            . have hk:=List.mem_range.mp mk;refine⟨?_,λ_=>rfl⟩;refine gO (fM (r:=.old (.bl (!decide (at1 is k∈ps)))) (x:=dP (at1 is k)) (ig [.int (at1 is k).1,.int (at1 is k).2] (ff (bx1:=bx) ?_ (ff (bx1:=bx) ?_ rfl)) (show (2:Nat)<=sizeLine by omega)) rfl (CH true _ ps))
              . exact fM (r:=.old (.int (at1 is k).1)) rfl (fM (r:=.old (.int ((k:Int)-1))) rfl rfl rfl) (by show (atI (is.map D.int) ((k:Int)-1)).map Res.old=_;rw[Sz is k hk];rfl)
              . exact fM (r:=.old (.int (at1 is k).2)) rfl rfl (by show (atI (is.map D.int) (k:Int)).map Res.old=_;rw[R6 is k hk];rfl)
          have lm:∀ l:List Nat,l.map (λ(k:Nat)=>D.int (k:Int))=(l.map λ(k:Nat)=>(k:Int)).map D.int:=λl=>by simp
          have en:eqD (.lst (((List.range is.length).filter λk=>!decide (at1 is k∈ps)).map λ(k:Nat)=>D.int (k:Int))) (.lst [])=some (.old (.bl (steps ps is))):=by
            rw[eq_nil (by rw[lm];exact Aq _),List.isEmpty_map,GS ps is hl]
          exact gh (fM (r:=.old (.bl (steps ps is))) cp (gN [] rfl (Nat.zero_le _)) en)
    . rw[decide_eq_false hl]at i2;have r0:ringB ps (.tup l)=false:=by simp only[ringB,decide_eq_false hl,Bool.false_and]
      rw[r0];exact ir ((lP (lG i1 (Fx i2))).trans (gh rfl))
  . have i1:dNot (dB (gK "tuple" (dV 1))) [some (.d (.lst (ps.map dP))),some (.d d)] bx=.val true bx:=by
      refine iq (b:=false) (gO (b:=false) ?_);cases d with
      |tup l=>exact absurd ⟨l,rfl⟩ hd
      |_=>rfl
    have r0:ringB ps d=false:=by cases d with|tup l=>exact absurd ⟨l,rfl⟩ hd|_=>rfl
    rw[r0];exact ir ((lP (Fx i1)).trans (gh rfl))
end
section
variable {bx : List Bx}
theorem CJ:∀ (a b:List Int),zipW (a.map D.int) (b.map D.int)=((a.zip b).map dP).map W.d
  |[],_=>rfl
  |_::_,[]=>rfl
  | x::a,y::b=>by
    show W.d (.tup [.int x,.int y])::zipW (a.map D.int) (b.map D.int)=_;rw[CJ a b];rfl
theorem CK {k:Nat}{ps:List (Int×Int)}(M:Mv k ps) {is:List Int}(h:2<=is.length) (hs:steps ps is=true):∀ i∈is,0<=i /\ i<(k:Int):=by
  intro i mi;have e:(is.zip (is.drop 1++is.take 1)).map Prod.fst=is:=List.map_fst_zip (by simp;omega);rw[<-e]at mi;obtain⟨q,mq,rfl⟩:=List.mem_map.mp mi;have:=of_decide_eq_true (List.all_eq_true.mp hs q mq);have:=M q this;omega
theorem LF (l:List D):tl (.tup l) 2 5=decide (2<=l.length /\ l.length<=5):=by
  rw[Bool.eq_iff_iff];simp[tl];omega
theorem GT {h:D}{k:Nat}(H:House h k) {ps:List (Int×Int)}(M:Mv k ps) (d:D):iV [.d h,.d (.lst (ps.map dP)),.d d] bx=.val (.d (.bl (ringB ps d))) bx:=by
  have sz:sizeLine=16777216:=sizeLine_eq;refine gE ?_;show mV [some (.d h),some (.d (.lst (ps.map dP))),some (.d d)] bx=_;unfold mV;have t1:dNot (dB (fk K1.f7 3 (fc (dV 2) (fc (dC (.int 2)) (fc (dC (.int 5)) fe))))) [some (.d h),some (.d (.lst (ps.map dP))),some (.d d)] bx=.val (!tl d 2 5) bx :=
    iq (gO (fF (ff rfl (ff rfl (ff rfl rfl))) rfl (fV d 2 5 bx)))
  cases c:tl d 2 5 with
  | false =>
    rw[c]at t1;have r0:ringB ps d=false:=by
      cases d with
      |tup l=>rw[LF]at c;simp only[ringB,c,Bool.false_and]
      |_=>rfl
    rw[r0];exact ir ((lP (Fx t1)).trans (gh rfl))
  | true =>
    rw[c]at t1;obtain⟨l,rfl⟩:∃ l,d=.tup l:=by
      cases d with
      |tup l=>exact⟨l,rfl⟩
      |_=>cases c
    rw[LF]at c;have hl:=of_decide_eq_true c;have t2:dNot (dB (dN false allD (fc (fD false [none,some 0] (dIter (dV 2)) (fg 0) fL (fk K2.gM 2 (fc (dV 1) (fc (dV 0) fe)))) fe))) [some (.d h),some (.d (.lst (ps.map dP))),some (.d (.tup l))] bx=.val (!l.all λx=>wi x 0 ((k:Int)-1)) bx :=
      iq (gO (allE (enc:=λd=>d) (r:=[some (.d h)]) _ (by rw[List.map_id'];exact lq rfl) rfl (by omega) λa _=>fF (ff rfl (ff rfl rfl)) rfl (FB H a)))
    cases c2:l.all λx=>wi x 0 ((k:Int)-1) with
    | false =>
      rw[c2]at t2;have r0:ringB ps (.tup l)=false:=by
        simp only[ringB,c,Bool.true_and];cases e:intsOf l with
        |none=>rfl
        | some is =>
          have hb:=jp e;subst hb;show ringI ps is=false;cases cr:ringI ps is with
          |false=>rfl
          | true =>
            unfold ringI at cr;rw[zA]at cr;have z:=CK M (by simpa using hl.1) cr.2;rw[List.all_map]at c2;have:(is.all ((λx=>wi x 0 ((k:Int)-1))∘D.int))=true:=List.all_eq_true.mpr λi mi=>by
              have:=z i mi;simp[wi];omega
            rw[this]at c2;cases c2
      rw[r0];exact ir ((lP (lG t1 t2)).trans (gh rfl))
    | true =>
      rw[c2]at t2;obtain⟨is,rfl,hi⟩:=Nq c2;rw[List.length_map]at hl;have r0:ringB ps (.tup (is.map D.int))=ringI ps is:=by simp only[ringB,c,Bool.true_and,K1.jr]
      rw[r0];refine(fB ((jJ (lG t1 t2)).trans rfl)).trans ?_;have j1:dN false lenD (fc (dV 2) fe) [some (.d h),some (.d (.lst (ps.map dP))),some (.d (.tup (is.map D.int)))] bx=.val (.d (.int (is.length:Nat))) bx:=gZ (r:=.old (.int (is.length:Nat))) [.tup (is.map D.int)] (ff rfl rfl) (by simp[lenD]);have j2:d2 false eqD (dN false lenSetD (fc (dV 2) fe)) (dN false lenD (fc (dV 2) fe)) [some (.d h),some (.d (.lst (ps.map dP))),some (.d (.tup (is.map D.int)))] bx=.val (.d (.bl (decide ((HT.dist is).length=is.length)))) bx :=
        fM (r:=.old (.bl (decide ((HT.dist is).length=is.length)))) (gZ (r:=.old (.int (HT.dist is).length)) [.tup (is.map D.int)] (ff rfl rfl) (CI is hl.2)) j1 (by
          show eqD (.int (HT.dist is).length) (.int (is.length:Nat))=_;rw[AW];congr 3;rw[Bool.eq_iff_iff];simp;omega)
      have cu:∀ is:List Int,2<=is.length /\ is.length<=5->slD (.tup (is.map D.int)) (some 1) none=some (.tup ((is.drop 1).map D.int)) /\ slD (.tup (is.map D.int)) none (some 1)=some (.tup ((is.take 1).map D.int)):=λis hl =>
        list25 (P:=λis=>slD (.tup (is.map D.int)) (some 1) none=some (.tup ((is.drop 1).map D.int)) /\ slD (.tup (is.map D.int)) none (some 1)=some (.tup ((is.take 1).map D.int))) is hl (λ_ _=>⟨rfl,rfl⟩) (λ_ _ _=>⟨rfl,rfl⟩) (λ_ _ _ _=>⟨rfl,rfl⟩) (λ_ _ _ _ _=>⟨rfl,rfl⟩)
      obtain⟨cu1,cu2⟩:=cu is hl;have ad:fH (.tup ((is.drop 1).map D.int)) (.tup ((is.take 1).map D.int))=some (.tup ((is.drop 1++is.take 1).map D.int)):=by
        rw[List.map_append];exact if_pos (by simp;omega)
      have zz:dZip (fc (dV 2) (fc (d2 false fH (dSl false (dV 2) (dPart (dC (.int 1))) dNo) (dSl false (dV 2) dNo (dPart (dC (.int 1))))) fe)) [some (.d h),some (.d (.lst (ps.map dP))),some (.d (.tup (is.map D.int)))] bx=.val (((is.zip (is.drop 1++is.take 1)).map dP).map W.d) bx:=by
        have a:=ff (m:=dV 2) (env:=[some (.d h),some (.d (.lst (ps.map dP))),some (.d (.tup (is.map D.int)))]) (bx:=bx) rfl (ff (ks:=fe) (fM (Ak (m:=dV 2) (lo:=dPart (dC (.int 1))) (hi:=dNo) rfl rfl rfl cu1) (Ak (m:=dV 2) (lo:=dNo) (hi:=dPart (dC (.int 1))) rfl rfl rfl cu2) ad) rfl);unfold dZip;rw[a,fZ,<-CJ];rfl
      have j3:dN false allD (fc (fD false [none,some 1] (dZip (fc (dV 2) (fc (d2 false fH (dSl false (dV 2) (dPart (dC (.int 1))) dNo) (dSl false (dV 2) dNo (dPart (dC (.int 1))))) fe))) (fg 0) fL (d2 false (inD false) (dV 0) (dV 1))) fe) [some (.d h),some (.d (.lst (ps.map dP))),some (.d (.tup (is.map D.int)))] bx=.val (.d (.bl (steps ps is))) bx :=
        allE (enc:=dP) (r:=[some (.d (.lst (ps.map dP)))]) (λq=>decide (q∈ps)) zz rfl (by simp;omega) λq _=>fM (r:=.old (.bl (decide (q∈ps)))) rfl rfl (CH false q ps)
      unfold ringI;cases c3:decide ((HT.dist is).length=is.length) with
      |false=>rw[c3]at j2;exact gh (Ao j2)
      |true=>rw[c3]at j2;exact gh (jk j2 j3)
theorem oj (ps:List (Int×Int)) (d:D):gq [.d (.lst (ps.map dP)),.d d] bx=.val (.d (.bl (match d with|.lst l=>decide (l.length<=30)&&l.all (ringB ps)|_=>false))) bx:=by
  have sz:sizeLine=16777216:=sizeLine_eq;refine gE ?_;show iD [some (.d (.lst (ps.map dP))),some (.d d)] bx=_;unfold iD;by_cases hd:∃ l,d=.lst l
  . obtain⟨l,rfl⟩:=hd;have i1:gK "list" (dV 1) [some (.d (.lst (ps.map dP))),some (.d (.lst l))] bx=.val (.d (.bl true)) bx:=rfl;have i2:d2 false leD (dN false lenD (fc (dV 1) fe)) (dC (.int 30)) [some (.d (.lst (ps.map dP))),some (.d (.lst l))] bx=.val (.d (.bl (decide (l.length<=30)))) bx :=
      fM (r:=.old (.bl (decide (l.length<=30)))) (gZ (r:=.old (.int (l.length:Nat))) [.lst l] (ff rfl rfl) rfl) rfl (by
        show some (Res.old (.bl (decide (((l.length:Nat):Int)<=30))))=_;congr 3;rw[Bool.eq_iff_iff];simp;omega)
    cases c:decide (l.length<=30) with
    |false=>rw[c]at i2;simp only[c,Bool.false_and];exact gh (jk i1 (Ao i2))
    | true =>
      rw[c]at i2;simp only[c,Bool.true_and];have hl:=of_decide_eq_true c;exact gh (jk i1 (jk i2 (allE (enc:=λd=>d) (r:=[some (.d (.lst (ps.map dP)))]) _ (by rw[List.map_id'];exact gH rfl) rfl (by omega) λa _=>fF (ff rfl (ff rfl rfl)) rfl (lH ps a))))
  . cases d with
    |lst l=>exact absurd ⟨l,rfl⟩ hd
    |_=>exact gh (Ao rfl)
end
noncomputable def subs:Nat->List (List Int)
  |0=>[[]]
  |k+1=>subs k++(subs k).map λs=>s++[(k:Int)]
theorem CL:∀ k,(subs k).length=2 ^ k
  |0=>rfl
  |k+1=>by simp[subs,CL k,Nat.pow_succ];omega
theorem jH {k:Nat}(h:k<=5):(subs k).length<=32:=by
  rw[CL];exact Nat.le_trans (Nat.pow_le_pow_right (by decide) h) (by decide)
theorem AY:∀ k,∃ t,subs k=[]::t
  |0=>⟨[],rfl⟩
  | k+1=>by
    obtain⟨t,e⟩:=AY k;exact⟨t++(subs k).map λs=>s++[(k:Int)],by rw[subs,e];rfl⟩
theorem Ar:∀ k,((List.range k).map λ(i:Nat)=>(i:Int))∈subs k
  |0=>by simp[subs]
  | k+1=>by
    rw[List.range_succ,List.map_append,subs];exact List.mem_append.mpr (.inr (List.mem_map.mpr ⟨_,Ar k,rfl⟩))
theorem FF {k:Nat}(h:k<=5) {s:List Int}(m:s∈subs k):s.length<=k:=by
  clear h;induction k generalizing s with
  |zero=>simp[subs]at m;simp[m]
  | succ k ih =>
    rw[subs]at m;rcases List.mem_append.mp m with m|m
    . have:=ih m;omega
    . obtain⟨t,mt,rfl⟩:=List.mem_map.mp m;have:=ih mt;simp;omega
section
variable {bx : List Bx}
noncomputable abbrev stepE (i j:Nat):DE W:=d2 false fH (dV i) (fD false [none,some j] (dIter (dV i)) (fg 0) fL (d2 false fH (dV 0) (ge (fc (dV 1) fe))))
theorem FG {k i j:Nat}(hk:k<5) {env:DEnv}(h1:env[i]?=some (some (.d (.lst ((subs k).map tupI))))) (h2:env[j]?=some (some (.d (.int (k:Nat))))):stepE i j env bx=.val (.d (.lst ((subs (k+1)).map tupI))) bx:=by
  have sz:sizeLine=16777216:=sizeLine_eq;have sl:=jH (k:=k) (by omega);have v1:dV i env bx=.val (.d (.lst ((subs k).map tupI))) bx:=by rw[Pv,h1]
  have c:fD false [none,some j] (dIter (dV i)) (fg 0) fL (d2 false fH (dV 0) (ge (fc (dV 1) fe))) env bx=.val (.d (.lst ((subs k).map λs=>tupI (s++[(k:Int)])))) bx :=
    compA (enc:=tupI) (r:=[some (.d (.int (k:Nat)))]) _ (gH v1) (by simp[srcEnv,h2]) (by omega) λs ms=>by
      have:=FF (by omega) ms;exact fM (r:=.tup ((s++[(k:Int)]).map D.int)) (x:=tupI s) (y:=.tup [.int (k:Nat)]) rfl (ig [.int (k:Nat)] rfl (show (1:Nat)<=sizeLine by omega)) (by rw[List.map_append];exact if_pos (by simp;omega))
  refine fM (r:=.lst ((subs (k+1)).map tupI)) v1 c ?_;rw[subs,List.map_append,List.map_map];exact if_pos (by simp;omega)
noncomputable def irow (s:List Int):List HT.It1:=[.i s.length,.t s]
noncomputable def drow (s:List Int):D:=.tup [.int (s.length:Nat),tupI s]
noncomputable def back:List HT.It1->List Int
  |[_,.t s]=>s
  |_=>[]
theorem CM:∀ l:List (List Int),rowsOf (l.map drow)=some (l.map irow)
  |[]=>rfl
  | s::l=>by
    have e:rowOf (drow s)=some (irow s):=by
      simp[rowOf,itsOf,drow,irow,itOf,K1.jr]
    rw[List.map_cons,rowsOf,e,CM l];rfl
theorem GU (l:List (List Int)):allLike (l.map irow)=true:=by
  unfold allLike;rw[List.all_eq_true];intro a ma;rw[List.all_eq_true];intro b mb;obtain⟨x,_,rfl⟩:=List.mem_map.mp ma;obtain⟨y,_,rfl⟩:=List.mem_map.mp mb;rfl
noncomputable def lots (k:Nat):List (List Int):=(sortRw ((subs k).map irow)).map back
theorem AZ (k:Nat):sortRw ((subs k).map irow)=(lots k).map irow:=by
  unfold lots;rw[List.map_map]
  symm
  refine(List.map_congr_left (g:=id) λr mr=>?_).trans (List.map_id _);obtain⟨s,_,rfl⟩:=List.mem_map.mp ((iZ _).mem_iff.mp mr);rfl
theorem A0 (k:Nat):(lots k).Perm (subs k):=by
  have h:=(iZ ((subs k).map irow)).map back;rw[List.map_map]at h;have e:(back∘irow)=id:=by funext s;rfl
  rw[e,List.map_id]at h;exact h
theorem CN (k:Nat):(lots k).Pairwise λa b=>a.length<=b.length:=by
  have h:=lE ((subs k).map irow);rw[AZ,List.pairwise_map]at h;refine h.imp λ{a b} z=>?_;rw[show HT.codeR (irow b)=1::(b.length:Int)::(1::(HT.It1.t b).code++[0]) by simp[HT.codeR,irow,HT.It1.code],show HT.codeR (irow a)=1::(a.length:Int)::(1::(HT.It1.t a).code++[0]) by simp[HT.codeR,irow,HT.It1.code]]at z;rw[HT.fK,if_pos rfl,HT.fK]at z;split at z
  . omega
  . have:=of_decide_eq_false z;omega
theorem Nw {k:Nat}(hk:k<=5):sortA [.lst ((subs k).map drow)]=some (.lst ((lots k).map drow)):=by
  obtain⟨t,e⟩:=AY k;have z:sortD [.lst ((subs k).map drow)]=none:=by rw[e];rfl
  unfold sortA;rw[z];show ((rowsOf ((subs k).map drow)).bind λrs=>if rs.length<64 /\ allLike rs=true then some (Res.lst ((sortRw rs).map dRow)) else none)=_;rw[CM,Option.bind_some,if_pos ⟨by rw[List.length_map];have:=jH hk;omega,GU _⟩,AZ,List.map_map];rfl
end
end K53
namespace K2
open PySem PySem.Spec PyProof.Rows L2 L2.DL K1
section
variable {h : D} {rs : List Int} {hold : Int} {bx : List Bx} {x0 x1 x2 x4 x5 x6 x7 x8 x9 x10 x11 x12 x13 x14 : Option W}
end
section
variable {h : D} {rs : List Int} {hold : Int} {bx : List Bx} {n : Nat} {x0 x1 x4 x5 x6 x7 x8 x12 x13 x14 : Option W}
end
end K2
namespace K1
open PySem PySem.Spec PyProof.Rows L2 L2.DL
end K1
namespace K2
open PySem PySem.Spec PyProof.Rows L2 L2.DL K1
theorem R7 {ks:DE (List W)}{env:DEnv}{bx bx1:List Bx}{j:Nat}(h:ks env bx=.val [.d (.int (j:Int))] bx1) (hj:j<=1000):dLR false ks env bx=.val (.d (.lst ((List.range j).map λ(i:Nat)=>D.int (i:Int)))) bx1:=by
  unfold dLR;rw[h,fZ];show (if -(2 ^ 62)<=(j:Int) /\ (j:Int)<=2 ^ 24 then _ else _)=_;rw[if_pos (by omega),Int.toNat_natCast];rfl
end K2
namespace K53
open PySem PySem.Spec PyProof.Rows L2 L2.DL K1 K52
section
variable {bx : List Bx}
noncomputable def rngD (k:Nat):List D:=(List.range k).map λ(i:Nat)=>D.int (i:Int)
theorem FH {env:DEnv}:fN false (fc (ge fe) fe) env bx=.val (.d (.lst ((subs 0).map tupI))) bx:=by
  have sz:sizeLine=16777216:=sizeLine_eq;exact gN [.tup []] (ff (ig [] rfl (Nat.zero_le _)) rfl) (show (1:Nat)<=sizeLine by omega)
theorem FJ {k i:Nat}{w:W}(h:(fv 0 k)[i]?=some w):w=.d (.int (i:Nat)) /\ i<k:=by
  obtain⟨a,b⟩:=iU h;rw[Int.zero_add]at a;exact⟨a,b⟩
theorem PY (k:Nat):(rngD k).map W.d=fv 0 k:=by
  unfold rngD fv;rw[List.map_map];refine List.map_congr_left λi _=>?_;simp
theorem PZ {k:Nat}(hk:k<=5):j6 [.d (.lst (rngD k))] bx=.val (.d (.lst ((lots k).map tupI))) bx:=by
  have sz:sizeLine=16777216:=sizeLine_eq;have sl:=jH hk;have ll:(lots k).length<=32:=by rw[(A0 k).length_eq];exact sl
  refine gE ?_;show lS [some (.d (.lst (rngD k))),none,none] bx=_;unfold lS;obtain⟨env',bx',e,hb,w,he⟩:=iI (g:=fg 2) (body:=fP (stepE 1 2) (fg 1)) (λi env b=>b=bx /\ ∃ w,env=[some (.d (.lst (rngD k))),some (.d (.lst ((subs i).map tupI))),w]) (fv 0 k) 0 [some (.d (.lst (rngD k))),some (.d (.lst ((subs 0).map tupI))),none] bx ⟨rfl,none,rfl⟩ (by
    rintro i w env b hw ⟨rfl,w0,rfl⟩;obtain⟨rfl,hi⟩:=FJ hw;rw[Nat.zero_add];exact⟨[some (.d (.lst (rngD k))),some (.d (.lst ((subs i).map tupI))),some (.d (.int (i:Nat)))],b,[some (.d (.lst (rngD k))),some (.d (.lst ((subs (i+1)).map tupI))),some (.d (.int (i:Nat)))],b,rfl,gw (FG (by omega) rfl rfl),rfl,_,rfl⟩)
  rw[show 0+(fv 0 k).length=k by simp[fv]]at he;rw[hb,he]at e;refine(fB (gw FH)).trans ((fB ((iS (gH (ds:=rngD k) rfl)).trans (by rw[PY];exact e))).trans ?_);have c1:fD false [none] (dIter (dV 1)) (fg 0) fL (ge (fc (dN false lenD (fc (dV 0) fe)) (fc (dV 0) fe))) [some (.d (.lst (rngD k))),some (.d (.lst ((subs k).map tupI))),w] bx=.val (.d (.lst ((subs k).map drow))) bx :=
    compA (enc:=tupI) (r:=[]) _ (gH rfl) rfl (by omega) λs _=>ig [.int (s.length:Nat),tupI s] (ff (gZ (r:=.old (.int (s.length:Nat))) [tupI s] (ff rfl rfl) (by simp[lenD])) (ff rfl rfl)) (show (2:Nat)<=sizeLine by omega)
  have c2:dIter (dN false sortA (fc (fD false [none] (dIter (dV 1)) (fg 0) fL (ge (fc (dN false lenD (fc (dV 0) fe)) (fc (dV 0) fe)))) fe)) [some (.d (.lst (rngD k))),some (.d (.lst ((subs k).map tupI))),w] bx=.val (((lots k).map drow).map W.d) bx :=
    gH (gZ (r:=.lst ((lots k).map drow)) [.lst ((subs k).map drow)] (ff c1 rfl) (Nw hk))
  have c3:compD (jM 2 (gF (fg 0) (gF (fg 1) lY))) fL (dV 1) (((lots k).map drow).map W.d) [none,none] bx []=.val (((lots k).map drow).map λd=>match d with|.tup [_,x]=>x|_=>.non) bx :=
    ie (λe=>∃ a b,e=[a,b]) _ ⟨none,none,rfl⟩ (by
      rintro d m env ⟨a,b,rfl⟩;obtain⟨s,_,rfl⟩:=List.mem_map.mp m;exact⟨[some (.d (.int (s.length:Nat))),some (.d (tupI s))],rfl,⟨_,_,rfl⟩,rfl⟩) (by rw[List.length_map];omega)
  exact gh (jg c2 rfl (c3.trans (by rw[List.map_map];rfl)))
noncomputable def unhit (s r:List Int):Bool:=(r.filter λx=>decide (x∈s)).isEmpty
noncomputable def hitsP (rs:List (List Int)) (s:List Int):Bool:=rs.all λr=>s.any λx=>decide (x∈r)
theorem Nx (rs:List (List Int)) (s:List Int):(rs.filter (unhit s)).isEmpty=hitsP rs s:=by
  rw[Bool.eq_iff_iff,List.isEmpty_iff,List.filter_eq_nil_iff];unfold hitsP unhit;rw[List.all_eq_true];refine⟨λh r m=>?_,λh r m=>?_⟩
  . have:=h r m;rw[List.isEmpty_iff,List.filter_eq_nil_iff]at this;rw[List.any_eq_true];apply Classical.byContradiction;intro z;apply this;intro x mx c;exact z ⟨x,of_decide_eq_true c,by simp[mx]⟩
  . have:=h r m;rw[List.any_eq_true]at this;obtain⟨x,mx,c⟩:=this;rw[List.isEmpty_iff,List.filter_eq_nil_iff];intro z;exact z x (of_decide_eq_true c) (by simp[mx])
noncomputable abbrev wTest:DE Bool:=dB (d2 false eqD (fD false [none,some 2] (dIter (dV 1)) (fg 0) (dB (d2 false eqD (fD false [none,some 1] (dIter (dV 0)) (fg 0) (dB (d2 false (inD false) (dV 0) (dV 1))) (dV 0)) (fN false fe))) (dV 0)) (fN false fe))
theorem Ny {x0:Option W}(rs:List (List Int)) (s:List Int) (hr:rs.length<=100) (hs:∀ r∈rs,r.length<=100):wTest [x0,some (.d (.lst (rs.map tupI))),some (.d (tupI s))] bx=.val (hitsP rs s) bx:=by
  have sz:sizeLine=16777216:=sizeLine_eq;rw[<-Nx];have c:fD false [none,some 2] (dIter (dV 1)) (fg 0) (dB (d2 false eqD (fD false [none,some 1] (dIter (dV 0)) (fg 0) (dB (d2 false (inD false) (dV 0) (dV 1))) (dV 0)) (fN false fe))) (dV 0) [x0,some (.d (.lst (rs.map tupI))),some (.d (tupI s))] bx=.val (.d (.lst ((rs.filter (unhit s)).map tupI))) bx:=by
    refine compE (enc:=tupI) (r:=[some (.d (tupI s))]) (unhit s) tupI (gH rfl) rfl (by omega) λr mr=>⟨?_,λ_=>rfl⟩;have c2:fD false [none,some 1] (dIter (dV 0)) (fg 0) (dB (d2 false (inD false) (dV 0) (dV 1))) (dV 0) [some (.d (tupI r)),some (.d (tupI s))] bx=.val (.d (.lst ((r.filter λx=>decide (x∈s)).map D.int))) bx :=
      compE (enc:=D.int) (r:=[some (.d (tupI s))]) _ D.int (lq rfl) rfl (by have:=hs r mr;omega) λx _=>⟨gO (fM (r:=.old (.bl (decide (x∈s)))) rfl rfl (FE false s x)),λ_=>rfl⟩
    exact gO (fM (r:=.old (.bl (unhit s r))) c2 (gN [] rfl (Nat.zero_le _)) (by show eqD (.lst _) (.lst [])=_;rw[eq_nil (Aq _),List.isEmpty_map];rfl))
  exact gO (fM (r:=.old (.bl (rs.filter (unhit s)).isEmpty)) c (gN [] rfl (Nat.zero_le _)) (by show eqD (.lst _) (.lst [])=_;rw[eq_nil (CG _),List.isEmpty_map]))
theorem FK {x0:Option W}(rs:List (List Int)) (hr:rs.length<=100) (hs:∀ r∈rs,r.length<=100):∀ (ls:List (List Int)) (w:Option W) (f:List Int),ls.find? (hitsP rs)=some f ->
    forD (fg 2) (sIf wTest (fQ (dN false lenD (fc (dV 2) fe))) sNil) ((ls.map tupI).map W.d) [x0,some (.d (.lst (rs.map tupI))),w] bx=.rt (.d (.int (f.length:Nat))) bx
  |[],w,f,e=>by cases e
  | s::ls,w,f,e=>by
    have t:=Ny (bx:=bx) (x0:=x0) rs s hr hs;rw[List.find?_cons]at e;cases c:hitsP rs s with
    | true =>
      rw[c]at t e;cases e;exact Lj (env1:=[x0,some (.d (.lst (rs.map tupI))),some (.d (tupI s))]) rfl ((lP t).trans (gh (gZ (r:=.old (.int (s.length:Nat))) [tupI s] (ff rfl rfl) (by simp[lenD]))))
    | false =>
      rw[c]at t e;exact(lQ (env1:=[x0,some (.d (.lst (rs.map tupI))),some (.d (tupI s))]) rfl ((jJ t).trans rfl)).trans (FK rs hr hs ls _ f e)
theorem rooms0 {h:D}{k:Nat}(H:House h k) {env:DEnv}(he:env[0]?=some (some (.d h))):dN false lenD (fc (d2 false ixD (dV 0) (dC (.int 0))) fe) env bx=.val (.d (.int (k:Nat))) bx:=by
  obtain⟨rs,kk,aa,bb,eH,hrs⟩:=H.rs;have e0:ixD h (.int 0)=some (.old (.tup rs)):=by rw[eH];simp[ixD,atI,ixN]
  exact gZ (r:=.old (.int (k:Nat))) [.tup rs] (ff (fM (m:=dV 0) (by rw[Pv,he]) rfl e0) rfl) (by simp[lenD,hrs])
def Good (k:Nat) (rs:List (List Int)):Prop:=∀ r∈rs,r≠[] /\ ∀ i∈r,0<=i /\ i<(k:Int)
theorem A3 {k:Nat}{rs:List (List Int)}(G:Good k rs):hitsP rs ((List.range k).map λ(i:Nat)=>(i:Int))=true:=by
  unfold hitsP;rw[List.all_eq_true];intro r mr;obtain⟨ne,hi⟩:=G r mr;rw[List.any_eq_true];cases r with
  |nil=>exact absurd rfl ne
  | cons i r =>
    have:=hi i (List.mem_cons_self ..);exact⟨i,List.mem_map.mpr ⟨i.toNat,List.mem_range.mpr (by omega),by omega⟩,by simp⟩
def Least (k:Nat) (rs:List (List Int)) (m:List Int):Prop:=m∈subs k /\ hitsP rs m=true /\ ∀ s∈subs k,hitsP rs s=true->m.length<=s.length
theorem Least.eq {k:Nat}{rs:List (List Int)}{a b:List Int}(h:Least k rs a) (q:Least k rs b):a.length=b.length:=Nat.le_antisymm (h.2.2 b q.1 q.2.1) (q.2.2 a h.1 h.2.1)
theorem Dw {k:Nat}{rs:List (List Int)}(G:Good k rs):∃ f,(lots k).find? (hitsP rs)=some f /\ Least k rs f:=by
  have p:=A0 k;have hs:=CN k;cases e:(lots k).find? (hitsP rs) with
  | none =>
    rw[List.find?_eq_none]at e;exact absurd (A3 G) (e _ (p.mem_iff.mpr (Ar k)))
  | some f =>
    obtain⟨hf,as,bs,el,hn⟩:=List.find?_eq_some_iff_append.mp e;refine⟨f,rfl,p.mem_iff.mp (List.mem_of_find?_eq_some e),hf,λs ms ps=>?_⟩;have ms':=p.mem_iff.mpr ms;rw[el]at ms' hs;rcases List.mem_append.mp ms' with m|m
    . have:=hn s m;rw[ps]at this;cases this
    . rcases List.mem_cons.mp m with rfl|m
      . exact zL _
      . exact(List.pairwise_cons.mp (List.pairwise_append.mp hs).2.1).1 s m
theorem LG {h:D}{k:Nat}(H:House h k) {rs:List (List Int)}(hr:rs.length<=100) (hs:∀ r∈rs,r.length<=100) (G:Good k rs):∃ f,Least k rs f /\ gJ [.d h,.d (.lst (rs.map tupI))] bx=.val (.d (.int (f.length:Nat))) bx:=by
  have n5:=H.n5;obtain⟨f,e,L⟩:=Dw G;refine⟨f,L,gE ?_⟩;show jG [some (.d h),some (.d (.lst (rs.map tupI))),none] bx=_;unfold jG;have a:dLR false (fc (dN false lenD (fc (d2 false ixD (dV 0) (dC (.int 0))) fe)) fe) [some (.d h),some (.d (.lst (rs.map tupI))),none] bx=.val (.d (.lst (rngD k))) bx:=K2.R7 (j:=k) (ff (rooms0 H rfl) rfl) (by omega);exact ir ((iS (gH (fF (ff a rfl) rfl (PZ n5)))).trans (FK rs hr hs (lots k) none f e))
theorem Nz (s r:List Int) (hs:s.length<=100):mw [.d (tupI s),.d (tupI r)] bx=.val (.d (.bl (s.any λx=>decide (x∈r)))) bx:=by
  have sz:sizeLine=16777216:=sizeLine_eq;refine gE ?_;show BE [some (.d (tupI s)),some (.d (tupI r))] bx=_;unfold BE;exact gh (anyE (enc:=D.int) (r:=[some (.d (tupI r))]) _ (lq rfl) rfl (by omega) λx _=>fM (r:=.old (.bl (decide (x∈r)))) rfl rfl (FE false r x))
noncomputable def minI:List Int->List (List Int)->List Int
  |b,[]=>b
  |b,x::l=>minI (if x.length<b.length then x else b) l
theorem Dx (s:List Int):tupN (tupI s)=some s.length:=by simp[tupN]
theorem FL:∀ (l:List (List Int)) (b:List Int),minBy (λd=>(tupN d).getD 0) (tupI b) (l.map tupI)=tupI (minI b l)
  |[],b=>rfl
  | x::l,b=>by
    rw[List.map_cons,minBy,Dx,Dx];show minBy _ (if x.length<b.length then tupI x else tupI b) _=_;rw[<-apply_ite tupI,FL l];rfl
theorem As:∀ (l:List (List Int)) (b:List Int),minI b l∈b::l
  |[],b=>List.mem_cons_self ..
  | x::l,b=>by
    have:=As l (if x.length<b.length then x else b);rw[minI];rcases List.mem_cons.mp this with e|m
    . rw[e];split<;>simp
    . exact List.mem_cons_of_mem _ (List.mem_cons_of_mem _ m)
theorem FM:∀ (l:List (List Int)) (b:List Int),∀ s∈b::l,(minI b l).length<=s.length
  |[],b,s,m=>by rw[List.mem_singleton.mp m];exact zL _
  | x::l,b,s,m=>by
    have ih:=FM l (if x.length<b.length then x else b);have i0:=ih _ (List.mem_cons_self ..);rw[minI];rcases List.mem_cons.mp m with rfl|m
    . refine Nat.le_trans i0 ?_;split<;>omega
    . rcases List.mem_cons.mp m with rfl|m
      . refine Nat.le_trans i0 ?_;split<;>omega
      . exact ih s (List.mem_cons_of_mem _ m)
theorem LH {h:D}{k:Nat}(H:House h k) {rs:List (List Int)}(hr:rs.length<=100) (G:Good k rs):∃ m,Least k rs m /\ gL [.d h,.d (.lst (rs.map tupI))] bx=.val (.d (tupI m)) bx:=by
  have sz:sizeLine=16777216:=sizeLine_eq;have n5:=H.n5;have sl:=jH n5;have ne:(subs k).filter (hitsP rs)≠[]:=by
    intro z;rw[List.filter_eq_nil_iff]at z;exact z _ (Ar k) (A3 G)
  obtain⟨x,l,exl⟩:=List.exists_cons_of_ne_nil ne;have mm:∀ s,s∈x::l ↔ s∈subs k /\ hitsP rs s=true:=λs=>by rw[<-exl,List.mem_filter]
  refine⟨minI x l,⟨((mm _).mp (As l x)).1,((mm _).mp (As l x)).2,λs ms hs=>FM l x s ((mm s).mpr ⟨ms,hs⟩)⟩,gE ?_⟩;show iu [some (.d h),some (.d (.lst (rs.map tupI))),none,none,none] bx=_;unfold iu;obtain⟨env',bx',e,hb,w,he⟩:=iI (g:=fg 3) (body:=fP (stepE 2 3) (fg 2)) (λi env b=>b=bx /\ ∃ w,env=[some (.d h),some (.d (.lst (rs.map tupI))),some (.d (.lst ((subs i).map tupI))),w,none]) (fv 0 k) 0 [some (.d h),some (.d (.lst (rs.map tupI))),some (.d (.lst ((subs 0).map tupI))),none,none] bx ⟨rfl,none,rfl⟩ (by
    rintro i w env b hw ⟨rfl,w0,rfl⟩;obtain⟨rfl,hi⟩:=FJ hw;rw[Nat.zero_add];exact⟨[some (.d h),some (.d (.lst (rs.map tupI))),some (.d (.lst ((subs i).map tupI))),some (.d (.int (i:Nat))),none],b,[some (.d h),some (.d (.lst (rs.map tupI))),some (.d (.lst ((subs (i+1)).map tupI))),some (.d (.int (i:Nat))),none],b,rfl,gw (FG (by omega) rfl rfl),rfl,_,rfl⟩)
  rw[show 0+(fv 0 k).length=k by simp[fv]]at he;rw[hb,he]at e;have rg:dRng1 (fc (dN false lenD (fc (d2 false ixD (dV 0) (dC (.int 0))) fe)) fe) [some (.d h),some (.d (.lst (rs.map tupI))),some (.d (.lst ((subs 0).map tupI))),none,none] bx=.val (fv 0 k) bx:=io (ff (ks:=fe) (rooms0 H rfl) rfl) (by omega);refine(fB (gw FH)).trans ((fB ((iS rg).trans e)).trans ?_);have c:fD false [none,some 1] (dIter (dV 2)) (fg 0) (dB (dN false allD (fc (fD false [none,some 0] (dIter (dV 1)) (fg 0) fL (fk K53.mw 2 (fc (dV 1) (fc (dV 0) fe)))) fe))) (dV 0) [some (.d h),some (.d (.lst (rs.map tupI))),some (.d (.lst ((subs k).map tupI))),w,none] bx=.val (.d (.lst ((x::l).map tupI))) bx:=by
    rw[<-exl];refine compE (enc:=tupI) (r:=[some (.d (.lst (rs.map tupI)))]) (hitsP rs) tupI (gH rfl) rfl (by omega) λs ms=>⟨?_,λ_=>rfl⟩;have:=FF n5 ms;exact gO (allE (enc:=tupI) (r:=[some (.d (tupI s))]) _ (gH rfl) rfl (by omega) λr _=>fF (ff rfl (ff rfl rfl)) rfl (Nz s r (by omega)))
  refine(fB (gw c)).trans (gh (gZ (r:=.old (tupI (minI x l))) [.lst ((x::l).map tupI)] (ff rfl rfl) ?_));show (if ((x::l).map tupI).all (λd=>(tupN d).isSome)=true then some (Res.old (minBy (λd=>(tupN d).getD 0) (tupI x) (l.map tupI))) else none)=_;rw[if_pos (by rw[List.all_map,List.all_eq_true];intro s _;show (tupN (tupI s)).isSome=true;rw[Dx];rfl),FL]
end
noncomputable def good (ps:List (Int×Int)) (d:D):Bool:=match d with
  |.lst l=>decide (l.length<=30)&&l.all (ringB ps)
  |_=>false
theorem GV {k:Nat}{ps:List (Int×Int)}(M:Mv k ps) {d:D}(h:ringB ps d=true):∃ is:List Int,d=tupI is /\ is.length<=5 /\ is≠[] /\ ∀ i∈is,0<=i /\ i<(k:Int):=by
  cases d with
  | tup l =>
    simp only[ringB,zA,decide_eq_true_eq]at h;obtain⟨hl,hm⟩:=h;cases e:intsOf l with
    |none=>rw[e]at hm;cases hm
    | some is =>
      rw[e]at hm;have hb:=jp e;subst hb;rw[List.length_map]at hl;have hm':ringI ps is=true:=hm;unfold ringI at hm';rw[zA]at hm';exact⟨is,rfl,hl.2,λz=>by subst z;simp at hl,CK M hl.1 hm'.2⟩
  |_=>cases h
theorem At {k:Nat}{ps:List (Int×Int)}(M:Mv k ps):∀ {l:List D},l.all (ringB ps)=true->∃ rs:List (List Int),l=rs.map tupI /\ Good k rs /\ ∀ r∈rs,r.length<=5
  |[],_=>⟨[],rfl,(λr m=>by cases m),λr m=>by cases m⟩
  | d::l,h=>by
    rw[List.all_cons,zA]at h;obtain⟨is,rfl,a,b,c⟩:=GV M h.1;obtain⟨rs,rfl,g,z⟩:=At M h.2;refine⟨is::rs,rfl,λr m=>?_,λr m=>?_⟩
    . rcases List.mem_cons.mp m with rfl|m
      . exact⟨b,c⟩
      . exact g r m
    . rcases List.mem_cons.mp m with rfl|m
      . exact a
      . exact z r m
section
variable {bx : List Bx} {h : D} {k : Nat} {ps : List (Int × Int)}
theorem mC (H:House h k) (M:Mv k ps) (hl:ps.length<=10):jm [.d h,.d (.lst (ps.map dP))] bx=.val (.d .non) bx:=by
  have e:=K2.BB H.h H.ok bx;have a:=CB (bx:=bx) H M hl;have m:iM [some (.d h),some (.d (.lst (ps.map dP)))] bx=.nx [some (.d h),some (.d (.lst (ps.map dP)))] bx:=by
    unfold iM;exact(fB (jW (fF (ff rfl rfl) rfl e))).trans (jJ (iq (gO (fF (ff rfl (ff rfl rfl)) rfl a))))
  show cutO bx.length (retO (iM [some (.d h),some (.d (.lst (ps.map dP)))] bx))=_;rw[m];simp[retO,cutO]
theorem AD (i:Int):gR [.d (.int i)] bx=.val (.d .non) bx:=by
  have m:gD [some (.d (.int i))] bx=.nx [some (.d (.int i))] bx:=by
    unfold gD;exact jJ (iq (gO (fF (ff rfl rfl) rfl (Ad (.int i) bx))))
  show cutO bx.length (retO (gD [some (.d (.int i))] bx))=_;rw[m];simp[retO,cutO]
theorem AE {d:D}(hd:wh d=false):gR [.d d] bx=.exc 7 bx:=by
  have w:=Ad d bx;rw[hd]at w;have m:gD [some (.d d)] bx=.exc 7 bx:=by
    unfold gD;exact(lP (iq (b:=false) (gO (fF (ff rfl rfl) rfl w)))).trans rfl
  show cutO bx.length (retO (gD [some (.d d)] bx))=_;rw[m];simp[retO,cutO]
theorem LJ {n:Nat}{m:DSt}{ws:List W}{d:D}(h:m (ws.map some++List.replicate (n-ws.length) none) bx=.rt (.d d) bx):fnD n m ws bx=.val (.d d) bx:=by
  simp only[fnD,DL.envOf,h,retO,cutO,List.take_length]
noncomputable abbrev arT:DSt:=(fG (sIf (dOr (dNot (dB (gK "list" (dV 3)))) (dB (d2 false gtI (dN false lenD (fc (dV 3) fe)) (dC (.int 30))))) (fQ (dC (.bl false))) sNil) (fQ (gf (dN false allD (fc (fD false [none,some 0,some 1] (dIter (dV 3)) (fg 0) fL (fk K53.iV 3 (fc (dV 1) (fc (dV 2) (fc (dV 0) fe))))) fe)) (d2 false geI (dN false lenD (fc (fk K53.gL 2 (fc (dV 0) (fc (dV 3) fe))) fe)) (dV 2)))))
theorem CO (H:House h k) (M:Mv k ps) (hl:ps.length<=10) (many:Int) (d:D):ia [some (.d h),some (.d (.lst (ps.map dP))),some (.d (.int many)),some (.d d)] bx=arT [some (.d h),some (.d (.lst (ps.map dP))),some (.d (.int many)),some (.d d)] bx:=by
  unfold ia;exact(fB (jW (fF (ff rfl (ff rfl rfl)) rfl (mC H M hl)))).trans (fB (jW (fF (ff rfl rfl) rfl (AD many))))
theorem LK (l:List D) (many:Int) (m:D):dB (d2 false gtI (dN false lenD (fc (dV 3) fe)) (dC (.int 30))) [some (.d h),some (.d m),some (.d (.int many)),some (.d (.lst l))] bx=.val (!decide (l.length<=30)) bx :=
  gO (fM (r:=.old (.bl (!decide (l.length<=30)))) (gZ (r:=.old (.int (l.length:Nat))) [.lst l] (ff rfl rfl) rfl) rfl (by
    show some (Res.old (.bl (decide ((30:Int)<(l.length:Nat)))))=_;congr 3;rw[Bool.eq_iff_iff];simp;omega))
theorem FN (H:House h k) (M:Mv k ps) (l:List D) (hl:l.length<=30) (many:Int):dN false allD (fc (fD false [none,some 0,some 1] (dIter (dV 3)) (fg 0) fL (fk K53.iV 3 (fc (dV 1) (fc (dV 2) (fc (dV 0) fe))))) fe) [some (.d h),some (.d (.lst (ps.map dP))),some (.d (.int many)),some (.d (.lst l))] bx=.val (.d (.bl (l.all (ringB ps)))) bx:=by
  have sz:sizeLine=16777216:=sizeLine_eq;exact allE (enc:=λd=>d) (r:=[some (.d h),some (.d (.lst (ps.map dP)))]) _ (by rw[List.map_id'];exact gH rfl) rfl (by omega) λa _=>fF (ff rfl (ff rfl (ff rfl rfl))) rfl (GT H M a)
theorem CP (H:House h k) (M:Mv k ps) (hl:ps.length<=10) (many:Int) (d:D) (hg:good ps d=false):gz [.d h,.d (.lst (ps.map dP)),.d (.int many),.d d] bx=.val (.d (.bl false)) bx:=by
  refine LJ ?_;refine(CO H M hl many d).trans ?_;by_cases hd:∃ l,d=.lst l
  . obtain⟨l,rfl⟩:=hd;have i1:dNot (dB (gK "list" (dV 3))) [some (.d h),some (.d (.lst (ps.map dP))),some (.d (.int many)),some (.d (.lst l))] bx=.val false bx:=iq (b:=true) (gO (b:=true) rfl);have i2:=LK (bx:=bx) (h:=h) l many (.lst (ps.map dP));unfold good at hg;cases c:decide (l.length<=30) with
    |false=>rw[c]at i2;exact ir ((lP (lG i1 i2)).trans (gh rfl))
    | true =>
      rw[c]at i2;simp only[c,Bool.true_and]at hg;have a:=FN (bx:=bx) H M l (of_decide_eq_true c) many;rw[hg]at a;exact(fB ((jJ (lG i1 i2)).trans rfl)).trans (gh (Ao a))
  . have i1:dNot (dB (gK "list" (dV 3))) [some (.d h),some (.d (.lst (ps.map dP))),some (.d (.int many)),some (.d d)] bx=.val true bx:=by
      refine iq (b:=false) (gO (b:=false) ?_);cases d with
      |lst l=>exact absurd ⟨l,rfl⟩ hd
      |_=>rfl
    exact ir ((lP (Fx i1)).trans (gh rfl))
theorem og (H:House h k) (M:Mv k ps) (hl:ps.length<=10) (many:Int) (d:D) (hg:good ps d=true):∃ f:Nat,gJ [.d h,.d d] bx=.val (.d (.int (f:Nat))) bx /\ ∀ bx',gz [.d h,.d (.lst (ps.map dP)),.d (.int many),.d d] bx'=.val (.d (.bl (decide (many<=(f:Int))))) bx':=by
  cases d with
  | lst l =>
    simp only[good,zA,decide_eq_true_eq]at hg;obtain⟨hn,ha⟩:=hg;obtain⟨rs,rfl,G,z⟩:=At M ha;rw[List.length_map]at hn;obtain⟨f,L,e⟩:=LG (bx:=bx) H (rs:=rs) (by omega) (λr m=>by have:=z r m;omega) G;refine⟨f.length,e,λbx'=>?_⟩;obtain⟨m,L',e'⟩:=LH (bx:=bx') H (rs:=rs) (by omega) G;have lm:m.length=f.length:=L'.eq L;refine LJ ?_;refine(CO H M hl many _).trans ?_;have i1:dNot (dB (gK "list" (dV 3))) [some (.d h),some (.d (.lst (ps.map dP))),some (.d (.int many)),some (.d (.lst (rs.map tupI)))] bx'=.val false bx':=iq (b:=true) (gO (b:=true) rfl);have i2:=LK (bx:=bx') (h:=h) (rs.map tupI) many (.lst (ps.map dP));rw[List.length_map,decide_eq_true hn]at i2;have a:=FN (bx:=bx') H M (rs.map tupI) (by rw[List.length_map];exact hn) many;rw[ha]at a;refine(fB ((jJ (lG i1 i2)).trans rfl)).trans (gh (jk a ?_));exact fM (r:=.old (.bl (decide (many<=(f.length:Nat))))) (gZ (r:=.old (.int (f.length:Nat))) [tupI m] (ff (fF (ff rfl (ff rfl rfl)) rfl e') rfl) (by simp[lenD,lm])) rfl rfl
  |_=>cases hg
theorem LL {d m many:D}{b:D}(e:gz [.d h,.d m,.d many,.d d] bx=.val (.d b) bx):gm [.d h,.d m,.d many,.d d] bx=.val (.d b) bx:=by
  refine gE ?_;show iW [some (.d h),some (.d m),some (.d many),some (.d d),none] bx=_;unfold iW sTry;have:fQ (fk K53.gz 4 (fc (dV 0) (fc (dV 1) (fc (dV 2) (fc (dV 3) fe))))) [some (.d h),some (.d m),some (.d many),some (.d d),none] bx=.rt (.d b) bx:=gh (fF (ff rfl (ff rfl (ff rfl (ff rfl rfl)))) rfl e);rw[this]
theorem P0 (H:House h k) (M:Mv k ps) (hl:ps.length<=10) {x:D}(hx:wh x=false) (d:D):gm [.d h,.d (.lst (ps.map dP)),.d x,.d d] bx=.val (.d (.str "number")) bx:=by
  have n:=AE (bx:=bx) hx;have a:gz [.d h,.d (.lst (ps.map dP)),.d x,.d d] bx=.exc 7 bx:=by
    have m:ia [some (.d h),some (.d (.lst (ps.map dP))),some (.d x),some (.d d)] bx=.exc 7 bx:=by
      unfold ia;refine(fB (jW (fF (ff rfl (ff rfl rfl)) rfl (mC H M hl)))).trans ?_;have:iB (fk K53.gR 1 (fc (dV 2) fe)) [some (.d h),some (.d (.lst (ps.map dP))),some (.d x),some (.d d)] bx=.exc 7 bx:=by
        rw[Fl,oB,ff (w:=.d x) (l:=[]) rfl rfl,fZ,if_pos (by rfl),n];rfl
      rw[Bq,this]
    show cutO bx.length (retO (ia [some (.d h),some (.d (.lst (ps.map dP))),some (.d x),some (.d d)] bx))=_;rw[m];simp[retO,cutO]
  refine gE ?_;show iW [some (.d h),some (.d (.lst (ps.map dP))),some (.d x),some (.d d),none] bx=_;unfold iW sTry;have:fQ (fk K53.gz 4 (fc (dV 0) (fc (dV 1) (fc (dV 2) (fc (dV 3) fe))))) [some (.d h),some (.d (.lst (ps.map dP))),some (.d x),some (.d d),none] bx=.exc 7 bx:=by
    rw[Br,oB,ff (w:=.d h) (l:=[.d (.lst (ps.map dP)),.d x,.d d]) rfl rfl,fZ,if_pos (by rfl),a];rfl
  rw[this];rfl
end
end K53
namespace K52
open PySem PySem.Spec PyProof.Rows L2 L2.DL K1 K2
section
variable {env : DEnv} {bx bx1 bx2 bx3 : List Bx}
end
section
variable {bx : List Bx}
end
theorem P3 {B a b:Nat}{d:D}(h:Sm B a b d):Sm B (a+1) (b+3000) (.dic [(.inl 0,d)]):=by
  refine⟨by simp[ib,ibk,h.s],?_,?_⟩
  . have:=h.e;simp only[toPy,toPyK,PyData.depth,PyData.depthKv,keyP];omega
  . have:=h.w;simp only[wt,wtk,kwt];omega
theorem LM {k:Nat}{ps:List (Int×Int)}(M:Mv k ps) (hk:k<=5) (hl:ps.length<=10):Sm (10 ^ 30) 2 40000 (.lst (ps.map dP)):=by
  have z:=SmL.of (B:=10 ^ 30) (a:=1) (b:=3849) (l:=ps.map dP) λx m=>by
    obtain⟨q,mq,rfl⟩:=List.mem_map.mp m;have:=M q mq;exact Sm.tup (SmL.cons (Sm.int (Nat.le_trans (show q.1.natAbs<=5 by omega) (by decide))) (SmL.cons (Sm.int (Nat.le_trans (show q.2.natAbs<=5 by omega) (by decide))) SmL.nil))
  rw[List.length_map]at z;exact(Sm.lst z).mono (by decide) (by omega)
theorem neS (x:Str):neD (.str x) (.str x)=some (.old (.bl false)):=by simp[neD]
section
variable {bx : List Bx} {x0 x1 x2 x5 x7 x8 x9 x10 : Option W}
end
section
variable {env : DEnv} {bx bx1 bx2 : List Bx}
end
section
variable {x0 x1 x3 x5 x6 x7 x11 x12 x13 : Option W}
end
theorem mulN {c:List D}{k:Int}(h0:0<=k) (h1:k<=100) (h:c.length<=1000):mulD (.lst c) (.int k)=some (.lst (List.replicate k.toNat c).flatten):=by
  have sz:sizeLine=16777216:=sizeLine_eq;refine if_pos ⟨by omega,by omega,?_⟩;have:c.length*k.toNat<=1000*100:=Nat.mul_le_mul h (by omega);omega
section
variable {x0 x1 x5 : Option W}
end
end K52
namespace K53
open PySem PySem.Spec PyProof.Rows L2 L2.DL K1 K52
section
variable {tf : DE Bool} {te : DE W} {bx : List Bx} {r : DEnv}
noncomputable abbrev gP:DG:=jM 2 (gF (fg 0) (gF (fg 1) lY))
theorem compP0 (p:Int×Int->Bool) (f:Int×Int->D):∀ (l:List (Int×Int)) (w v:Option W) (acc:List D),acc.length+l.length<=sizeLine->(∀ a∈l,tf (some (.d (.int a.1))::some (.d (.int a.2))::r) bx=.val (p a) bx /\ (p a=true->te (some (.d (.int a.1))::some (.d (.int a.2))::r) bx=.val (.d (f a)) bx)) ->
    compD gP tf te ((l.map dP).map W.d) (w::v::r) bx acc=.val (acc++(l.filter p).map f) bx
  |[],w,v,acc,_,_=>by simp[compD]
  | a::l,w,v,acc,n,h=>by
    obtain⟨h1,h2⟩:=h a (List.mem_cons_self ..);rw[List.length_cons]at n;have n':acc.length<sizeLine:=by omega
    have e0:gP (W.d (dP a)) (w::v::r) bx=some (some (W.d (.int a.1))::some (W.d (.int a.2))::r,bx):=rfl;cases c:p a with
    | false =>
      rw[List.filter_cons_of_neg (by simp[c]),<-compP0 p f l (some (W.d (.int a.1))) (some (W.d (.int a.2))) acc (by omega) λx m=>h x (List.mem_cons_of_mem _ m)];rw[c]at h1;simp only[List.map_cons,compD,e0,h1,Dm]
    | true =>
      rw[List.filter_cons_of_pos c];have ih:=compP0 p f l (some (W.d (.int a.1))) (some (W.d (.int a.2))) (acc++[f a]) (by simp;omega) λx m=>h x (List.mem_cons_of_mem _ m);rw[c]at h1;simp only[List.map_cons,compD,e0,h1,h2 c,Dm,if_pos n',ih];simp
end
section
variable {env : DEnv} {bx bx1 bx2 : List Bx}
theorem R8 {op:D->D->Option Res}{r:Res}{m k:DE W}{x:D}{j:Nat}{l:List D}(h1:m env bx=.val (.d x) bx1) (h2:k env bx1=.val (.b j) bx2) (g:bx2[j]?=some (.lst l)) (hg:op x (.lst l)=some r):d2 false op m k env bx=.val (.d r.toD) bx2:=by
  rw[M8,h1,fZ,h2,fZ,m9];have r1:rdW bx2 (.b j)=some (.lst l):=by simp only[rdW,g]
  rw[r1,Option.bind_some,Option.bind_some,hg,im]
theorem NA {m k:DE W}{j t:Nat}{is:List Int}{x:Int}(h1:m env bx=.val (.b j) bx1) (g1:bx1[j]?=some (.lst (is.map D.int))) (h2:k env bx1=.val (.d (.int x)) bx2) (g2:bx2[j]?=some (.lst (is.map D.int))) (hf:is.findIdx? (λz=>decide (z=x))=some t):dIndex m k env bx=.val (.d (.int (t:Nat))) bx2:=by
  unfold dIndex;have r1:rdW bx1 (.b j)=some (.lst (is.map D.int)):=by simp only[rdW,g1]
  have r2:rdW bx2 (.b j)=some (.lst (is.map D.int)):=by simp only[rdW,g2]
  rw[h1,fZ,r1];simp only[h2,fZ,r2];rw[if_pos ⟨rfl,mT is⟩,GK,hf]
theorem R9 {m:DE W}{j:Nat}{l:List D}{bx3:List Bx}{lo hi:DE (Option Int)}{a b:Option Int}(h1:m env bx=.val (.b j) bx1) (h2:lo env bx1=.val a bx2) (h3:hi env bx2=.val b bx3) (g:bx3[j]?=some (.lst l)):dSl false m lo hi env bx=.val (.d (.lst (DL.cutD l a b))) bx3:=by
  have r1:rdW bx3 (.b j)=some (.lst l):=by simp only[rdW,g]
  rw[N3,h1,fZ,h2,fZ,h3,fZ,r1];rfl
end
theorem LN (neg:Bool) (is:List Int) (b:Int):inD neg (.int b) (.lst (is.map D.int))=some (.old (.bl (if neg then !decide (b∈is) else decide (b∈is)))):=by
  show (if flatD (.int b)=true /\ (is.map D.int).all flatD=true then some (Res.old (.bl (if neg then !inF (.int b) (is.map D.int) else inF (.int b) (is.map D.int)))) else gIn neg _ _ _)=_;rw[if_pos ⟨rfl,mT is⟩,CC];have:(is.any λz=>decide (z=b))=decide (b∈is):=by
    rw[Bool.eq_iff_iff];simp
  rw[this]
structure Fw (L:Nat) (is:List Int):Prop where
  len:is.length<=L
  sm:∀ i∈is,i.natAbs<=5
noncomputable abbrev sE:DE W:=fD false [none,none,some 2] (dIter (dV 1)) gP (dB (d2 false eqD (dV 0) (d2 false ixD (dV 2) (dNeg (dC (.int 1)))))) (dV 1)
noncomputable abbrev dBody:DSt:=(fG (fP sE (fg 4)) (fG (sIf (dB (d2 false eqD (dV 4) (fN false fe))) (fQ (dN false tupleD (fc (dV 2) fe))) sNil) (fG (fP (d2 false ixD (dV 4) (fk K1.fj 2 (fc (dV 0) (fc (dN false lenD (fc (dV 4) fe)) fe)))) (fg 5)) (fG (sIf (dB (d2 false (inD false) (dV 5) (dV 2))) (fQ (dN false tupleD (fc (dSl false (dV 2) (dPart (dIndex (dV 2) (dV 5))) dNo) fe))) sNil) (iB (dApp (dV 2) (dV 5)))))))
section
variable {bx : List Bx} {n k : Nat} {ps : List (Int × Int)}
theorem NB {ws:List Int}(h:ws≠[]):∃ z,atI (ws.map D.int) (-1)=some (.int z):=by
  have l:0<ws.length:=List.length_pos_iff.mpr h;have l':ws.length-1<ws.length:=by omega
  refine⟨ws[ws.length-1],?_⟩;unfold atI;rw[List.length_map,An l];simp[l']
theorem SA (h:n<bx.length) (hp:ps.length<=10) {ws:List Int}(hw:ws≠[]) (p:Int) (w3 w4 w5:Option W):∃ z:Int,sE [some (.b n),some (.d (.lst (ps.map dP))),some (.b bx.length),w3,w4,w5] (pt (bx++[.lst (ws.map D.int)]) n p)=.val (.d (.lst (((ps.filter λq=>decide (q.1=z)).map λq=>q.2).map D.int))) (pt (bx++[.lst (ws.map D.int)]) n p):=by
  have sz:sizeLine=16777216:=sizeLine_eq;obtain⟨z,hz⟩:=NB hw;have bg:=iy (p:=p) (x:=.lst (ws.map D.int)) h;refine⟨z,jg (gH rfl) rfl ?_⟩;generalize pt (bx++[.lst (ws.map D.int)]) n p=B at bg ⊢;have c:=compP0 (tf:=dB (d2 false eqD (dV 0) (d2 false ixD (dV 2) (dNeg (dC (.int 1)))))) (te:=dV 1) (bx:=B) (r:=[some (.b bx.length)]) (λq=>decide (q.1=z)) (λq=>.int q.2) ps none none [] (by simp;omega) λq _ =>
    ⟨gO (fM (r:=.old (.bl (decide (q.1=z)))) rfl (N9 rfl (By rfl) bg hz) AW),λ_=>rfl⟩
  rw[List.nil_append]at c;exact c.trans (by rw[List.map_map];rfl)
theorem NC (h:n<bx.length) (M:Mv k ps) (k5:k<=5) (hp:ps.length<=10) {ws:List Int}(hw:ws≠[]) {L:Nat}(F:Fw L ws) (hL:L<=100) (p:Int) (w3 w4 w5:Option W) :
    (∃ rs q,dBody [some (.b n),some (.d (.lst (ps.map dP))),some (.b bx.length),w3,w4,w5] (pt (bx++[.lst (ws.map D.int)]) n p)=.rt (.d (tupI rs)) (pt (bx++[.lst (ws.map D.int)]) n q) /\ Fw L rs) \/
    (∃ ws' q y4 y5,dBody [some (.b n),some (.d (.lst (ps.map dP))),some (.b bx.length),w3,w4,w5] (pt (bx++[.lst (ws.map D.int)]) n p)=.nx [some (.b n),some (.d (.lst (ps.map dP))),some (.b bx.length),w3,y4,y5] (pt (bx++[.lst (ws'.map D.int)]) n q) /\ ws'≠[] /\ Fw (L+1) ws'):=by
  have sz:sizeLine=16777216:=sizeLine_eq;obtain⟨z,ez⟩:=SA h hp hw p w3 w4 w5;have hs:∀ y∈(ps.filter λq=>decide (q.1=z)).map λq=>q.2,y.natAbs<=5:=λy m=>by
    obtain⟨q,mq,rfl⟩:=List.mem_map.mp m;have:=M q (List.mem_filter.mp mq).1;omega
  have hn:((ps.filter λq=>decide (q.1=z)).map λq=>q.2).length<=10:=by rw[List.length_map];exact Nat.le_trans (List.length_filter_le _ _) hp
  generalize (ps.filter λq=>decide (q.1=z)).map (λq=>q.2)=ys at ez hs hn;have h1:n<(bx++[Bx.lst (ws.map D.int)]).length:=by simp;omega
  have bg:=λp=>iy (p:=p) (x:=.lst (ws.map D.int)) h;have s1:fP sE (fg 4) [some (.b n),some (.d (.lst (ps.map dP))),some (.b bx.length),w3,w4,w5] (pt (bx++[.lst (ws.map D.int)]) n p)=.nx [some (.b n),some (.d (.lst (ps.map dP))),some (.b bx.length),w3,some (.d (.lst (ys.map D.int))),w5] (pt (bx++[.lst (ws.map D.int)]) n p):=gw ez;have t1:dB (d2 false eqD (dV 4) (fN false fe)) [some (.b n),some (.d (.lst (ps.map dP))),some (.b bx.length),w3,some (.d (.lst (ys.map D.int))),w5] (pt (bx++[.lst (ws.map D.int)]) n p)=.val ys.isEmpty (pt (bx++[.lst (ws.map D.int)]) n p):=
    gO (fM (r:=.old (.bl ys.isEmpty)) rfl (gN [] rfl (Nat.zero_le _)) (by rw[eq_nil (Aq _),List.isEmpty_map]))
  cases c:ys.isEmpty with
  | true =>
    rw[c]at t1;refine .inl ⟨ws,p,?_,F⟩;exact(fB s1).trans (ir ((lP t1).trans (gh (BC rfl (bg p)))))
  | false =>
    rw[c]at t1;have l0:0<ys.length:=by cases ys with|nil=>cases c|cons=>simp
    obtain⟨r,q,tk,r0,r1⟩:=jF h1 (p:=p) (p1:=p) (env:=[some (.b n),some (.d (.lst (ps.map dP))),some (.b bx.length),w3,some (.d (.lst (ys.map D.int))),w5]) (i:=0) (m:=dN false lenD (fc (dV 4) fe)) (k:=(ys.length:Int)) rfl (gZ (r:=.old (.int (ys.length:Nat))) [.lst (ys.map D.int)] (ff rfl rfl) (by simp[lenD])) (by omega) (by omega);obtain⟨d,ed,md⟩:=li (l:=ys.map D.int) r0 (by rw[List.length_map];exact r1);obtain⟨y,my,rfl⟩:=List.mem_map.mp md;have s3:fP (d2 false ixD (dV 4) (fk K1.fj 2 (fc (dV 0) (fc (dN false lenD (fc (dV 4) fe)) fe)))) (fg 5) [some (.b n),some (.d (.lst (ps.map dP))),some (.b bx.length),w3,some (.d (.lst (ys.map D.int))),w5] (pt (bx++[.lst (ws.map D.int)]) n p)=.nx [some (.b n),some (.d (.lst (ps.map dP))),some (.b bx.length),w3,some (.d (.lst (ys.map D.int))),some (.d (.int y))] (pt (bx++[.lst (ws.map D.int)]) n q):=
      gw (fM (r:=.old (.int y)) (x:=.lst (ys.map D.int)) rfl tk (by simp only[ixD,ed,Option.map_some]))
    have t2:dB (d2 false (inD false) (dV 5) (dV 2)) [some (.b n),some (.d (.lst (ps.map dP))),some (.b bx.length),w3,some (.d (.lst (ys.map D.int))),some (.d (.int y))] (pt (bx++[.lst (ws.map D.int)]) n q)=.val (decide (y∈ws)) (pt (bx++[.lst (ws.map D.int)]) n q):=
      gO (R8 (r:=.old (.bl (decide (y∈ws)))) rfl rfl (bg q) (LN false ws y))
    by_cases c2:y∈ws
    . rw[decide_eq_true c2]at t2;obtain⟨t,ht⟩:∃ t,ws.findIdx? (λz=>decide (z=y))=some t:=by
        cases e:ws.findIdx? (λz=>decide (z=y)) with
        |some t=>exact⟨t,rfl⟩
        | none =>
          rw[List.findIdx?_eq_none_iff]at e;have:=e y c2;simp at this
      have ht2:t<=ws.length:=by
        obtain⟨hi,_⟩:=List.findIdx?_eq_some_iff_getElem.mp ht;omega
      refine .inl ⟨ws.drop t,q,?_,⟨Nat.le_trans (by simp) F.len,λi m=>F.sm i (List.mem_of_mem_drop m)⟩⟩;have cf:=Aj (ws.map D.int) t (by rw[List.length_map];exact ht2);have sl:=R9 (m:=dV 2) (lo:=dPart (dIndex (dV 2) (dV 5))) (hi:=dNo) (env:=[some (.b n),some (.d (.lst (ps.map dP))),some (.b bx.length),w3,some (.d (.lst (ys.map D.int))),some (.d (.int y))]) rfl (lj (NA (m:=dV 2) (k:=dV 5) rfl (bg q) rfl (bg q) ht)) rfl (bg q);rw[cf,<-List.map_drop]at sl;refine(fB s1).trans ((fB ((jJ t1).trans rfl)).trans ((fB s3).trans (ir ((lP t2).trans (gh ?_)))));exact gZ (r:=.tup ((ws.drop t).map D.int)) [.lst ((ws.drop t).map D.int)] (ff sl rfl) rfl
    . rw[decide_eq_false c2]at t2;have wl:=F.len;refine .inr ⟨ws++[y],q,some (.d (.lst (ys.map D.int))),some (.d (.int y)),?_,by simp,⟨by simp;omega,λi m=>by
        rcases List.mem_append.mp m with m|m
        . exact F.sm i m
        . rw[List.mem_singleton.mp m];exact hs y my⟩⟩
      have ap:=Fz (m:=dV 2) (k:=dV 5) (env:=[some (.b n),some (.d (.lst (ps.map dP))),some (.b bx.length),w3,some (.d (.lst (ys.map D.int))),some (.d (.int y))]) rfl (bg q) rfl (bg q) (by rw[List.length_map];omega);rw[lu h,show ws.map D.int++[D.int y]=(ws++[y]).map D.int by simp]at ap;exact(fB s1).trans ((fB ((jJ t1).trans rfl)).trans ((fB s3).trans ((fB ((jJ t2).trans rfl)).trans (jW ap))))
theorem FO (h:n<bx.length) (M:Mv k ps) (k5:k<=5) (hp:ps.length<=10):∀ (l:List W) (ws:List Int) (L:Nat) (p:Int) (w3 w4 w5:Option W),ws≠[]->Fw L ws->L+l.length<=50 ->
    (∃ rs q E,forD (fg 3) dBody l [some (.b n),some (.d (.lst (ps.map dP))),some (.b bx.length),w3,w4,w5] (pt (bx++[.lst (ws.map D.int)]) n p)=.rt (.d (tupI rs)) (pt (bx++[E]) n q) /\ Fw (L+l.length) rs) \/
    (∃ ws' q y3 y4 y5,forD (fg 3) dBody l [some (.b n),some (.d (.lst (ps.map dP))),some (.b bx.length),w3,w4,w5] (pt (bx++[.lst (ws.map D.int)]) n p)=.nx [some (.b n),some (.d (.lst (ps.map dP))),some (.b bx.length),y3,y4,y5] (pt (bx++[.lst (ws'.map D.int)]) n q) /\ Fw (L+l.length) ws')
  |[],ws,L,p,w3,w4,w5,hw,F,hL=>.inr ⟨ws,p,w3,w4,w5,rfl,F⟩
  | w::l,ws,L,p,w3,w4,w5,hw,F,hL=>by
    rw[List.length_cons]at hL;rcases NC h M k5 hp hw F (by omega) p (some w) w4 w5 with⟨rs,q,e,Fr⟩|⟨ws',q,y4,y5,e,hw',F'⟩
    . exact .inl ⟨rs,q,_,Lj rfl e,⟨Nat.le_trans Fr.len (by omega),Fr.sm⟩⟩
    . rcases FO h M k5 hp l ws' (L+1) q (some w) y4 y5 hw' F' (by omega) with⟨rs,q2,E,e2,Fr⟩|⟨ws2,q2,z3,z4,z5,e2,F2⟩
      . exact .inl ⟨rs,q2,E,(lQ rfl e).trans e2,⟨Nat.le_trans Fr.len (by rw[List.length_cons];omega),Fr.sm⟩⟩
      . exact .inr ⟨ws2,q2,z3,z4,z5,(lQ rfl e).trans e2,⟨Nat.le_trans F2.len (by rw[List.length_cons];omega),F2.sm⟩⟩
theorem LO (h:n<bx.length) (M:Mv k ps) (k5:k<=5) (hp:ps.length<=10) (h0:ps≠[]) (p:Int):∃ rs q,gU [.b n,.d (.lst (ps.map dP))] (pt bx n p)=.val (.d (tupI rs)) (pt bx n q) /\ Fw 7 rs:=by
  have sz:sizeLine=16777216:=sizeLine_eq;have l0:0<ps.length:=List.length_pos_iff.mpr h0;obtain⟨r,q,tk,r0,r1⟩:=jF h (p:=p) (p1:=p) (env:=[some (.b n),some (.d (.lst (ps.map dP))),none,none,none,none]) (i:=0) (m:=dN false lenD (fc (dV 1) fe)) (k:=(ps.length:Int)) rfl (gZ (r:=.old (.int (ps.length:Nat))) [.lst (ps.map dP)] (ff rfl rfl) (by simp[lenD])) (by omega) (by omega);obtain⟨d,ed,md⟩:=li (l:=ps.map dP) r0 (by rw[List.length_map];exact r1);obtain⟨y,my,rfl⟩:=List.mem_map.mp md;have yb:=M y my;have e1:=mQ (ks:=fc (d2 false ixD (d2 false ixD (dV 1) (fk K1.fj 2 (fc (dV 0) (fc (dN false lenD (fc (dV 1) fe)) fe)))) (dC (.int 0))) fe) (env:=[some (.b n),some (.d (.lst (ps.map dP))),none,none,none,none]) (bx:=pt bx n p) (bx1:=pt bx n q) [.int y.1] (ff (fM (r:=.old (.int y.1)) (fM (r:=.old (dP y)) (x:=.lst (ps.map dP)) rfl tk (by simp only[ixD,ed,Option.map_some])) rfl rfl) rfl) (show (1:Nat)<=sizeLine by omega);rw[jX h,fY]at e1;have rg:∀ env b,dRng1 (fc (dC (.int 6)) fe) env b=.val (fv 0 6) b:=λenv b=>io (j:=6) (bx1:=b) (by simp) (by decide);have fin:∀ (o:D) (E:Bx) (q2:Int),jh [some (.b n),some (.d (.lst (ps.map dP))),none,none,none,none] (pt bx n p)=.rt (.d o) (pt (bx++[E]) n q2)->gU [.b n,.d (.lst (ps.map dP))] (pt bx n p)=.val (.d o) (pt bx n q2):=λo E q2 e=>by
    refine(BA e).trans ?_;rw[fY,Al h]
  have hd:∀ {x:OS},fG (il (dRng1 (fc (dC (.int 6)) fe)) (fg 3) dBody) (fQ (dN false tupleD (fc (dV 2) fe))) [some (.b n),some (.d (.lst (ps.map dP))),some (.b bx.length),none,none,none] (pt (bx++[.lst [.int y.1]]) n q)=x->jh [some (.b n),some (.d (.lst (ps.map dP))),none,none,none,none] (pt bx n p)=x:=λ{x} e=>by
    unfold jh;exact(fB (gw e1)).trans e
  rcases FO h M k5 hp (fv 0 6) [y.1] 1 q none none none (by simp) ⟨zL _,λi m=>by rw[List.mem_singleton.mp m];omega⟩ (by simp[fv]) with⟨rs,q2,E,e2,Fr⟩|⟨ws,q2,z3,z4,z5,e2,F2⟩
  . exact⟨rs,q2,fin _ E q2 (hd (ir ((iS (rg _ _)).trans e2))),Fr⟩
  . exact⟨ws,q2,fin _ _ q2 (hd ((fB ((iS (rg _ _)).trans e2)).trans (gh (BC rfl (iy h))))),F2⟩
end
noncomputable abbrev B0:Nat:=10 ^ 30+10 ^ 4+10 ^ 4
abbrev Odd (d:D):Prop:=Sm B0 5 51000 d
abbrev Thg (d:D):Prop:=Sm B0 12 2000000 d
theorem LP {is:List Int}(F:Fw 5 is) {B:Nat}(hB:5<=B):SmL B 0 9615 (is.map D.int):=by
  have z:=SmL.of (B:=B) (a:=0) (b:=1921) (l:=is.map D.int) λd m=>by
    obtain⟨i,mi,rfl⟩:=List.mem_map.mp m;exact Sm.int (Nat.le_trans (F.sm i mi) hB)
  rw[List.length_map]at z;have:=F.len;exact z.mono (zL _) (by omega)
theorem BG {is:List Int}(F:Fw 5 is) {B:Nat}(hB:5<=B):Sm B 1 9618 (tupI is):=(Sm.tup (LP F hB)).mono (by decide) (by decide)
theorem ND {k:Nat}(k5:k<=5) {rs:List (List Int)}(G:Good k rs) (z:∀ r∈rs,r.length<=5):∀ r∈rs,Fw 5 r:=λr m=>⟨z r m,λi mi=>by have:=(G r m).2 i mi;omega⟩
theorem CQ {rs:List (List Int)}(F:∀ r∈rs,Fw 5 r) (hl:rs.length<=4) {B:Nat}(hB:5<=B):SmL B 1 38480 (rs.map tupI):=by
  have z:=SmL.of (B:=B) (a:=1) (b:=9618) (l:=rs.map tupI) λd m=>by
    obtain⟨i,mi,rfl⟩:=List.mem_map.mp m;exact BG (F i mi) hB
  rw[List.length_map]at z;exact z.mono (zL _) (by omega)
theorem CS {α:Type}(l:List α):∀ m,(List.replicate m l).flatten.length=m*l.length
  |0=>by simp
  |m+1=>by rw[List.replicate_succ,List.flatten_cons,List.length_append,CS l m,Nat.succ_mul];omega
theorem LQ {rs:List (List Int)}(F:∀ r∈rs,Fw 5 r) (hl:rs.length<=4) {B:Nat}(hB:5<=B) (m:Nat) (hm:m<=31):SmL B 1 1200000 (List.replicate m (rs.map tupI)).flatten:=by
  have z:=SmL.of (B:=B) (a:=1) (b:=9618) (l:=(List.replicate m (rs.map tupI)).flatten) λd md=>by
    obtain⟨l,ml,md⟩:=List.mem_flatten.mp md;rw[(List.mem_replicate.mp ml).2]at md;obtain⟨i,mi,rfl⟩:=List.mem_map.mp md;exact BG (F i mi) hB
  rw[CS,List.length_map]at z;have:m*rs.length<=31*4:=Nat.mul_le_mul hm hl;exact z.mono (zL _) (by omega)
theorem FP {rs:List (List Int)}(F:∀ r∈rs,Fw 5 r) (hl:rs.length<=4) {B:Nat}(hB:5<=B):SmL B 1 1200000 (List.replicate 31 (rs.map tupI)).flatten:=LQ F hl hB 31 (zL _)
section
variable {bx : List Bx} {n k : Nat} {ps : List (Int × Int)}
noncomputable abbrev A1:DE W:=dIf (dB (d2 false neD (dV 1) (fN false fe))) (fD false [none,some 0,some 1] (dRng1 (fc (fk K1.fj 2 (fc (dV 0) (fc (dC (.int 5)) fe))) fe)) (fg 0) fL (fk K53.gU 2 (fc (dV 1) (fc (dV 2) fe)))) (fN false fe)
theorem SC (h:n<bx.length) (M:Mv k ps) (k5:k<=5) (hp:ps.length<=10) (p:Int) (x2 x3 x4 x5 x6 x7:Option W):∃ (ds:List D) (q:Int),A1 [some (.b n),some (.d (.lst (ps.map dP))),x2,x3,x4,x5,x6,x7] (pt bx n p)=.val (.d (.lst ds)) (pt bx n q) /\ ds.length<=4:=by
  have sz:sizeLine=16777216:=sizeLine_eq;have t:dB (d2 false neD (dV 1) (fN false fe)) [some (.b n),some (.d (.lst (ps.map dP))),x2,x3,x4,x5,x6,x7] (pt bx n p)=.val (!ps.isEmpty) (pt bx n p):=
    gO (fM (r:=.old (.bl (!ps.isEmpty))) rfl (gN [] rfl (Nat.zero_le _)) (by show some (Res.old (.bl (!(ps.map dP).isEmpty)))=_;rw[List.isEmpty_map]))
  cases c:ps.isEmpty with
  | true =>
    rw[c]at t;exact⟨[],p,N7 t (gN [] rfl (Nat.zero_le _)),Nat.zero_le _⟩
  | false =>
    rw[c]at t;have h0:ps≠[]:=λz=>by subst z;cases c
    obtain⟨r,q1,t1,r0,r1⟩:=takeC h p (env:=[some (.b n),some (.d (.lst (ps.map dP))),x2,x3,x4,x5,x6,x7]) (i:=0) rfl 5 (by decide) (by decide);obtain⟨c,rfl⟩:=Int.eq_ofNat_of_zero_le r0;obtain⟨es,q,e1,e2,e3⟩:=oF (g:=fg 0) (te:=fk K53.gU 2 (fc (dV 1) (fc (dV 2) fe))) (λe=>∃ w,e=[w,some (.b n),some (.d (.lst (ps.map dP)))]) (λ_=>True) (bx:=bx) (n:=n) (fv 0 c) [none,some (.b n),some (.d (.lst (ps.map dP)))] q1 [] ⟨none,rfl⟩ (by
      intro w _ env p ⟨w0,je⟩;obtain⟨rs,q,e,_⟩:=LO h M k5 hp h0 p;exact⟨[some w,some (.b n),some (.d (.lst (ps.map dP)))],by simp[je],⟨_,rfl⟩,tupI rs,q,fF (ff rfl (ff rfl rfl)) rfl e,True.intro⟩) (by simp[fv];omega)
    rw[List.nil_append]at e1;have rg:dRng1 (fc (fk K1.fj 2 (fc (dV 0) (fc (dC (.int 5)) fe))) fe) [some (.b n),some (.d (.lst (ps.map dP))),x2,x3,x4,x5,x6,x7] (pt bx n p)=.val (fv 0 c) (pt bx n q1):=by
      rw[io (ff t1 rfl) (by omega),Int.toNat_natCast]
    refine⟨es,q,N6 t (jg rg rfl e1),?_⟩;rw[e2];simp[fv];omega
noncomputable abbrev A2:DE W:=fD false [none,some 1] (dIter (dV 2)) (fg 0) (dB (fk K53.gQ 2 (fc (dV 1) (fc (dV 0) fe)))) (dV 0)
theorem SD (M:Mv k ps) (k5:k<=5) (ds:List D) (hd:ds.length<=4) (B:List Bx) (x0 x3 x4 x5 x6 x7:Option W):∃ rs:List (List Int),A2 [x0,some (.d (.lst (ps.map dP))),some (.d (.lst ds)),x3,x4,x5,x6,x7] B=.val (.d (.lst (rs.map tupI))) B /\ rs.length<=4 /\ ∀ r∈rs,Fw 5 r:=by
  have sz:sizeLine=16777216:=sizeLine_eq;have c:A2 [x0,some (.d (.lst (ps.map dP))),some (.d (.lst ds)),x3,x4,x5,x6,x7] B=.val (.d (.lst ((ds.filter (ringB ps)).map λd=>d))) B :=
    compE (enc:=λd=>d) (r:=[some (.d (.lst (ps.map dP)))]) (ringB ps) (λd=>d) (by rw[List.map_id'];exact gH rfl) rfl (by omega) λd _=>⟨gO (fF (ff rfl (ff rfl rfl)) rfl (lH ps d)),λ_=>rfl⟩
  rw[List.map_id']at c;obtain⟨rs,e,G,z⟩:=At M (l:=ds.filter (ringB ps)) (List.all_eq_true.mpr λd m=>(List.mem_filter.mp m).2);have hl:rs.length<=4:=by
    have:=congrArg List.length e;rw[List.length_map]at this;have:=List.length_filter_le (ringB ps) ds;omega
  rw[e]at c;exact⟨rs,c,hl,ND k5 G z⟩
noncomputable abbrev A4:DE W:=fN false (fc (dV 2) (fc (fN false fe) (fc (dN false tupleD (fc (dV 2) fe)) (fc (dDicV false 0 2) (fc (dC .non) (fc (fk K1.fR 1 (fc (dV 0) fe)) (fc (dSl false (d2 false mulD (dV 2) (dC (.int 31))) dNo (dPart (dC (.int 30)))) (fc (dSl false (d2 false mulD (dV 2) (dC (.int 31))) dNo (dPart (dC (.int 31)))) fe))))))))
theorem SE (h:n<bx.length) (p:Int) {rs:List (List Int)}(hl:rs.length<=4) (F:∀ r∈rs,Fw 5 r) (x1 x3 x4 x5 x6 x7:Option W):∃ (ts:List D) (q:Int),A4 [some (.b n),x1,some (.d (.lst (rs.map tupI))),x3,x4,x5,x6,x7] (pt bx n p)=.val (.d (.lst ts)) (pt bx n q) /\ ts.length=8 /\ ∀ t∈ts,Thg t:=by
  have sz:sizeLine=16777216:=sizeLine_eq;obtain⟨d,q,e,md⟩:=Ai h p;have b5:5<=B0:=by decide
  have R:=CQ F hl b5;have R2:=FP F hl b5;generalize (List.replicate 31 (rs.map tupI)).flatten=X at R2;have mu:mulD (.lst (rs.map tupI)) (.int 31)=some (.lst (List.replicate 31 (rs.map tupI)).flatten):=mulN (by decide) (by decide) (by rw[List.length_map];omega);have R3:=FP F hl b5;generalize hX:(List.replicate 31 (rs.map tupI)).flatten=Y at mu R3;refine⟨[.lst (rs.map tupI),.lst [],.tup (rs.map tupI),.dic [(.inl 0,.lst (rs.map tupI))],.non,d,.lst (DL.cutD Y none (some 30)),.lst (DL.cutD Y none (some 31))],q,?_,rfl,λt mt=>?_⟩
  . generalize pt bx n p=B at e ⊢;generalize pt bx n q=B' at e ⊢;have c1:∀ j:Int,dSl false (d2 false mulD (dV 2) (dC (.int 31))) dNo (dPart (dC (.int j))) [some (.b n),x1,some (.d (.lst (rs.map tupI))),x3,x4,x5,x6,x7] B'=.val (.d (.lst (DL.cutD Y none (some j)))) B':=λj=>Ak (r:=.lst _) (fM (r:=.lst Y) rfl rfl mu) rfl (lj rfl) rfl;exact gN [.lst (rs.map tupI),.lst [],.tup (rs.map tupI),.dic [(.inl 0,.lst (rs.map tupI))],.non,d,.lst (DL.cutD Y none (some 30)),.lst (DL.cutD Y none (some 31))]
      (ff rfl (ff (gN [] rfl (Nat.zero_le _)) (ff (gZ (r:=.tup (rs.map tupI)) [.lst (rs.map tupI)] (ff rfl rfl) rfl) (ff rfl (ff rfl (ff (fF (ff rfl rfl) rfl e) (ff (c1 30) (ff (c1 31) rfl)))))))) (show (8:Nat)<=sizeLine by omega)
  . simp only[List.mem_cons,List.not_mem_nil,or_false]at mt;rcases mt with rfl|rfl|rfl|rfl|rfl|rfl|rfl|rfl
    . exact(Sm.lst R).mono (by decide) (by decide)
    . exact(Sm.lst SmL.nil (a:=0)).mono (by decide) (by decide)
    . exact(Sm.tup R).mono (by decide) (by decide)
    . exact(P3 (Sm.lst R)).mono (by decide) (by decide)
    . exact Sm.non.mono (zL _) (by decide)
    . exact((mh _ md).up (show 10 ^ 30<=B0 by decide)).mono (by decide) (by decide)
    . exact(Sm.lst (R3.cut _ _)).mono (by decide) (by decide)
    . exact(Sm.lst (R3.cut _ _)).mono (by decide) (by decide)
noncomputable abbrev A5:DE W:=d2 false ixD (d2 false fH (dV 2) (fN false (fc (ge (fc (dC (.int 0)) (fc (dC (.int 1)) fe))) fe))) (dC (.int 0))
theorem SF (B:List Bx) {rs:List (List Int)}(hl:rs.length<=4) (F:∀ r∈rs,Fw 5 r) (x0 x1 x3 x4 x5 x6 x7:Option W):∃ r0:List Int,A5 [x0,x1,some (.d (.lst (rs.map tupI))),x3,x4,x5,x6,x7] B=.val (.d (tupI r0)) B /\ Fw 5 r0:=by
  have sz:sizeLine=16777216:=sizeLine_eq;obtain⟨r0,e,f⟩:∃ r0,atI (rs.map tupI++[tupI [0,1]]) 0=some (tupI r0) /\ Fw 5 r0:=by
    cases rs with
    |nil=>exact⟨[0,1],rfl,by decide,λi m=>by simp at m;omega⟩
    |cons r rs=>exact⟨r,by unfold atI;rw[show ixN ((r::rs).map tupI++[tupI [0,1]]).length 0=some 0 from Np (t:=0) (by simp)];rfl,F r (List.mem_cons_self ..)⟩
  refine⟨r0,?_,f⟩;exact fM (r:=.old (tupI r0)) (fM (r:=.lst (rs.map tupI++[tupI [0,1]])) rfl (gN [tupI [0,1]] (ff (ig [.int 0,.int 1] rfl (show (2:Nat)<=sizeLine by omega)) rfl) (show (1:Nat)<=sizeLine by omega)) (if_pos (by simp;omega))) rfl (by show (atI (rs.map tupI++[tupI [0,1]]) 0).map Res.old=_;rw[e];rfl)
noncomputable abbrev A6:DE W:=fN false (fc (d2 false fH (dSl false (dV 5) (dPart (dC (.int 1))) dNo) (dSl false (dV 5) dNo (dPart (dC (.int 1))))) (fc (dRev false (dV 5)) (fc (d2 false fH (dV 5) (dSl false (dV 5) dNo (dPart (dC (.int 1))))) (fc (dSl false (dV 5) dNo (dPart (dC (.int 1)))) (fc (ge fe) (fc (dN false listD (fc (dV 5) fe)) (fc (dC .non) (fc (fk (K1.f8 12) 2 (fc (dV 0) (fc (dV 5) fe))) fe))))))))
theorem SG (h:n<bx.length) (p:Int) {r0:List Int}(F:Fw 5 r0) (x1 x2 x3 x4 x6 x7:Option W):∃ (ts:List D) (q:Int),A6 [some (.b n),x1,x2,x3,x4,some (.d (tupI r0)),x6,x7] (pt bx n p)=.val (.d (.lst ts)) (pt bx n q) /\ ts.length=8 /\ ∀ t∈ts,Odd t:=by
  have sz:sizeLine=16777216:=sizeLine_eq;have b5:5<=B0:=by decide
  obtain⟨d,q,e,md⟩:=oE h 12 (tupI r0) p (10 ^ 30) 1 9618 (zL _) (BG F (by decide)) (by decide) (by decide);have R:=LP F b5;have hl:=F.len;have cl:=λx y=>CA (r0.map D.int) x y;rw[List.length_map]at cl;have ad:∀ a b:List D,a.length<=5->b.length<=5->fH (.tup a) (.tup b)=some (.tup (a++b)):=λa b ha hb=>if_pos (by omega);refine⟨[.tup (DL.cutD (r0.map D.int) (some 1) none++DL.cutD (r0.map D.int) none (some 1)),.tup (r0.map D.int).reverse,.tup (r0.map D.int++DL.cutD (r0.map D.int) none (some 1)),.tup (DL.cutD (r0.map D.int) none (some 1)),.tup [],.lst (r0.map D.int),.non,d],q,?_,rfl,λt mt=>?_⟩
  . generalize pt bx n p=B at e ⊢;generalize pt bx n q=B' at e ⊢;have c1:dSl false (dV 5) dNo (dPart (dC (.int 1))) [some (.b n),x1,x2,x3,x4,some (.d (tupI r0)),x6,x7] B=.val (.d (.tup (DL.cutD (r0.map D.int) none (some 1)))) B:=Ak (r:=.tup _) rfl rfl (lj rfl) rfl;have c2:dSl false (dV 5) (dPart (dC (.int 1))) dNo [some (.b n),x1,x2,x3,x4,some (.d (tupI r0)),x6,x7] B=.val (.d (.tup (DL.cutD (r0.map D.int) (some 1) none))) B:=Ak (r:=.tup _) rfl (lj rfl) rfl rfl;have k1:=cl none (some 1);have k2:=cl (some 1) none;exact gN [.tup (DL.cutD (r0.map D.int) (some 1) none++DL.cutD (r0.map D.int) none (some 1)),.tup (r0.map D.int).reverse,.tup (r0.map D.int++DL.cutD (r0.map D.int) none (some 1)),.tup (DL.cutD (r0.map D.int) none (some 1)),.tup [],.lst (r0.map D.int),.non,d]
      (ff (fM (r:=.tup _) c2 c1 (ad _ _ (by omega) (by omega))) (ff rfl (ff (fM (r:=.tup _) rfl c1 (ad _ _ (by rw[List.length_map];omega) (by omega))) (ff c1 (ff (ig [] rfl (Nat.zero_le _)) (ff (gZ (r:=.lst (r0.map D.int)) [tupI r0] (ff rfl rfl) rfl) (ff rfl (ff (fF (ff rfl (ff rfl rfl)) rfl e) rfl)))))))) (show (8:Nat)<=sizeLine by omega)
  . simp only[List.mem_cons,List.not_mem_nil,or_false]at mt;have rv:SmL B0 0 9615 (r0.map D.int).reverse:=by
      rw[<-List.map_reverse];exact LP ⟨by rw[List.length_reverse];exact hl,λi m=>F.sm i (List.mem_reverse.mp m)⟩ b5
    rcases mt with rfl|rfl|rfl|rfl|rfl|rfl|rfl|rfl
    . exact(Sm.tup ((R.cut _ _).append (R.cut _ _))).mono (by decide) (by decide)
    . exact(Sm.tup rv).mono (by decide) (by decide)
    . exact(Sm.tup (R.append (R.cut _ _))).mono (by decide) (by decide)
    . exact(Sm.tup (R.cut _ _)).mono (by decide) (by decide)
    . exact(Sm.tup SmL.nil (a:=0)).mono (by decide) (by decide)
    . exact(Sm.lst R).mono (by decide) (by decide)
    . exact Sm.non.mono (zL _) (by decide)
    . exact(md.up (by decide)).mono (by decide) (by decide)
noncomputable abbrev A7:DE W:=d2 false fH (dV 6) (fN false (fc (fk K1.fR 1 (fc (dV 0) fe)) (fc (fk (K1.f8 12) 2 (fc (dV 0) (fc (fk (K1.f8 12) 2 (fc (dV 0) (fc (dV 5) fe))) fe))) fe)))
theorem SH (h:n<bx.length) (p:Int) {r0:List Int}(F:Fw 5 r0) {ts:List D}(hl:ts.length=8) (T:∀ t∈ts,Odd t) (x1 x2 x3 x4 x7:Option W):∃ (us:List D) (q:Int),A7 [some (.b n),x1,x2,x3,x4,some (.d (tupI r0)),some (.d (.lst ts)),x7] (pt bx n p)=.val (.d (.lst us)) (pt bx n q) /\ us.length=10 /\ ∀ t∈us,Odd t:=by
  have sz:sizeLine=16777216:=sizeLine_eq;obtain⟨d,q1,e1,m1⟩:=Ai h p;obtain⟨d2,q2,e2,m2⟩:=oE h 12 (tupI r0) q1 (10 ^ 30) 1 9618 (zL _) (BG F (by decide)) (by decide) (by decide);obtain⟨d3,q3,e3,m3⟩:=oE h 12 d2 q2 (10 ^ 30+10 ^ 4) 3 23236 (by decide) m2 (by decide) (by decide);refine⟨ts++[d,d3],q3,?_,by simp[hl],λt mt=>?_⟩
  . generalize pt bx n p=B at e1 ⊢;generalize pt bx n q1=B1 at e1 e2;generalize pt bx n q2=B2 at e2 e3;generalize pt bx n q3=B3 at e3 ⊢;exact fM (r:=.lst (ts++[d,d3])) (x:=.lst ts) (y:=.lst [d,d3]) rfl (gN [d,d3] (ff (fF (ff rfl rfl) rfl e1) (ff (fF (ff rfl (ff (fF (ff rfl (ff rfl rfl)) rfl e2) rfl)) rfl e3) rfl)) (show (2:Nat)<=sizeLine by omega)) (if_pos (by simp;omega))
  . rcases List.mem_append.mp mt with m|m
    . exact T t m
    . simp only[List.mem_cons,List.not_mem_nil,or_false]at m;rcases m with rfl|rfl
      . exact((mh _ m1).up (show 10 ^ 30<=B0 by decide)).mono (by decide) (by decide)
      . exact m3.mono (by decide) (by decide)
noncomputable abbrev A8:DSt:=fP (d2 false fH (dV 4) (fN false (fc (d2 false fH (d2 false fH (dSl false (dV 2) dNo (dPart (dV 3))) (fN false (fc (dV 7) fe))) (dSl false (dV 2) (dPart (dV 3)) dNo)) (fc (fN false (fc (dV 7) fe)) fe)))) (fg 4)
theorem Sa (B:List Bx) {rs:List (List Int)}(hl:rs.length<=4) (F:∀ r∈rs,Fw 5 r) (a:Int) (x0 x1 x5 x6:Option W):∀ (os fs:List D) (w:Option W),fs.length+2*os.length<=1000->(∀ t∈os,Odd t)->(∀ t∈fs,Thg t) ->
    ∃ (fs':List D) (w':Option W),forD (fg 7) A8 (os.map W.d) [x0,x1,some (.d (.lst (rs.map tupI))),some (.d (.int a)),some (.d (.lst fs)),x5,x6,w] B=.nx [x0,x1,some (.d (.lst (rs.map tupI))),some (.d (.int a)),some (.d (.lst fs')),x5,x6,w'] B /\ ∀ t∈fs',Thg t
  |[],fs,w,_,_,T=>⟨fs,w,rfl,T⟩
  | o::os,fs,w,hn,O,T=>by
    have sz:sizeLine=16777216:=sizeLine_eq;rw[List.length_cons]at hn;have R:=CQ F hl (B:=B0) (by decide);have cl:=λx y=>CA (rs.map tupI) x y;rw[List.length_map]at cl;have k1:=cl none (some a);have k2:=cl (some a) none;have ho:=O o (List.mem_cons_self ..);have s:A8 [x0,x1,some (.d (.lst (rs.map tupI))),some (.d (.int a)),some (.d (.lst fs)),x5,x6,some (.d o)] B=.nx [x0,x1,some (.d (.lst (rs.map tupI))),some (.d (.int a)),some (.d (.lst (fs++[.lst (DL.cutD (rs.map tupI) none (some a)++[o]++DL.cutD (rs.map tupI) (some a) none),.lst [o]]))),x5,x6,some (.d o)] B:=by
      have one:fN false (fc (dV 7) fe) [x0,x1,some (.d (.lst (rs.map tupI))),some (.d (.int a)),some (.d (.lst fs)),x5,x6,some (.d o)] B=.val (.d (.lst [o])) B:=gN [o] rfl (show (1:Nat)<=sizeLine by omega);have ad:∀ a b:List D,a.length<=1000->b.length<=1000->fH (.lst a) (.lst b)=some (.lst (a++b)):=λa b ha hb=>if_pos (by omega);refine gw (fM (r:=.lst _) rfl (gN [.lst (DL.cutD (rs.map tupI) none (some a)++[o]++DL.cutD (rs.map tupI) (some a) none),.lst [o]] (ff (fM (r:=.lst _) (fM (r:=.lst _) (Ak (r:=.lst _) rfl rfl (lj rfl) rfl) one (ad _ _ (by omega) (by simp))) (Ak (r:=.lst _) rfl (lj rfl) rfl rfl) (ad _ _ (by simp;omega) (by omega))) (ff one rfl)) (show (2:Nat)<=sizeLine by omega)) (ad _ _ (by omega) (by simp)))
    obtain⟨fs',w',e,T'⟩:=Sa B hl F a x0 x1 x5 x6 os (fs++[.lst (DL.cutD (rs.map tupI) none (some a)++[o]++DL.cutD (rs.map tupI) (some a) none),.lst [o]]) (some (.d o)) (by simp;omega) (λt m=>O t (List.mem_cons_of_mem _ m)) (λt m=>by
      rcases List.mem_append.mp m with m|m
      . exact T t m
      . have R5:=R.mono (show 1<=5 by decide) (zL _);have so:SmL B0 5 (51000+2+0) [o]:=SmL.cons ho SmL.nil;simp only[List.mem_cons,List.not_mem_nil,or_false]at m;rcases m with rfl|rfl
        . exact(Sm.lst (((R5.cut _ _).append so).append (R5.cut _ _))).mono (by decide) (by decide)
        . exact(Sm.lst so).mono (by decide) (by decide))
    exact⟨fs',w',(lQ rfl s).trans e,T'⟩
theorem LR (h:n<bx.length) (M:Mv k ps) (k5:k<=5) (hp:ps.length<=10) (p:Int):∃ (ts:List D) (q:Int),iL [.b n,.d (.lst (ps.map dP))] (pt bx n p)=.val (.d (.lst ts)) (pt bx n q) /\ ∀ t∈ts,Thg t:=by
  have sz:sizeLine=16777216:=sizeLine_eq;obtain⟨ds,q1,e1,l1⟩:=SC h M k5 hp p none none none none none none;obtain⟨rs,e2,l2,F⟩:=SD M k5 ds l1 (pt bx n q1) (some (.b n)) none none none none none;obtain⟨a,q3,e3,a0,a1⟩:=jF h (p:=q1) (p1:=q1) (env:=[some (.b n),some (.d (.lst (ps.map dP))),some (.d (.lst (rs.map tupI))),none,none,none,none,none]) (i:=0) (m:=d2 false fH (dN false lenD (fc (dV 2) fe)) (dC (.int 1))) (k:=(rs.length:Int)+1) rfl (fM (r:=.old (.int ((rs.length:Int)+1))) (gZ (r:=.old (.int (rs.length:Nat))) [.lst (rs.map tupI)] (ff rfl rfl) (by simp[lenD])) rfl rfl) (by omega) (by omega);obtain⟨fs,q4,e4,l4,T4⟩:=SE h q3 l2 F (some (.d (.lst (ps.map dP)))) (some (.d (.int a))) none none none none;obtain⟨r0,e5,F0⟩:=SF (pt bx n q4) l2 F (some (.b n)) (some (.d (.lst (ps.map dP)))) (some (.d (.int a))) (some (.d (.lst fs))) none none none;obtain⟨os,q6,e6,l6,T6⟩:=SG h q4 F0 (some (.d (.lst (ps.map dP)))) (some (.d (.lst (rs.map tupI)))) (some (.d (.int a))) (some (.d (.lst fs))) none none;obtain⟨us,q7,e7,l7,T7⟩:=SH h q6 F0 l6 T6 (some (.d (.lst (ps.map dP)))) (some (.d (.lst (rs.map tupI)))) (some (.d (.int a))) (some (.d (.lst fs))) none;obtain⟨ts,w',e8,T8⟩:=Sa (pt bx n q7) l2 F a (some (.b n)) (some (.d (.lst (ps.map dP)))) (some (.d (tupI r0))) (some (.d (.lst os))) us fs none (by omega) T7 T4;refine⟨ts,q7,lF ?_ (by rw[fY,fY];exact zL _),T8⟩;show j5 [some (.b n),some (.d (.lst (ps.map dP))),none,none,none,none,none,none] (pt bx n p)=_;unfold j5;exact(fB (gw e1)).trans ((fB (gw e2)).trans ((fB (gw e3)).trans ((fB (gw e4)).trans ((fB (gw e5)).trans ((fB (gw e6)).trans ((fB ((iS (gH e7)).trans e8)).trans (gh rfl)))))))
end
theorem LS {h:D}{k:Nat}(H:House h k) {ps:List (Int×Int)}(M:Mv k ps) (hl:ps.length<=10) {t:D}(T:Thg t):canShow (.tup [h,.lst (ps.map dP),t])=true:=by
  have sz:sizeLine=16777216:=sizeLine_eq;have n5:=H.n5;have s:=Sm.tup (SmL.cons ((H.sm.up (show 999<=B0 by decide)).mono (show 4<=12 by decide) (zL _)) (SmL.cons (((LM M n5 hl).up (show 10 ^ 30<=B0 by decide)).mono (show 2<=12 by decide) (zL _)) (SmL.cons T SmL.nil)));exact Ah s (by decide) (by decide) (by omega)
theorem FQ (b:Bool):canShow (.bl b)=true:=by
  have sz:sizeLine=16777216:=sizeLine_eq;exact Ah (B:=0) (a:=0) (b:=5) Sm.bl (by decide) (by decide) (by omega)
noncomputable abbrev reE:DE W:=dRepr (ge (fc (dV 3) (fc (dV 5) (fc (dV 6) fe))))
noncomputable abbrev maE:DE W:=d2 false ixD (fN false (fc (dC (.int 0)) (fc (dC (.int 1)) (fc (dNeg (dC (.int 1))) (fc (d2 false powD (dC (.int 10)) (dC (.int 20))) (fc (dNeg (d2 false powD (dC (.int 10)) (dC (.int 20)))) fe)))))) (fk K1.fj 2 (fc (dV 2) (fc (dC (.int 5)) fe)))
noncomputable abbrev thB:DSt:=(fG (sPar 7 8 (fc (fk K53.gq 2 (fc (dV 5) (fc (dV 6) fe))) (fc reE fe))) (fG (fP (dIf (dTru (dV 7)) (fk K53.gJ 2 (fc (dV 3) (fc (dV 6) fe))) (dC (.int 1))) (fg 9)) (fG (fP (d2 false fH (dV 9) maE) (fg 10)) (fG (sIf (dB (d2 false neD (dRepr (fk K53.gm 4 (fc (dV 3) (fc (dV 5) (fc (dV 10) (fc (dV 6) fe)))))) (dRepr (gf (dV 7) (d2 false geI (dV 9) (dV 10)))))) (fQ (dC (.bl false))) sNil) (sIf (dB (d2 false neD reE (dV 8))) (fQ (dC (.bl false))) sNil)))))
section
variable {bx : List Bx} {n k : Nat} {ps : List (Int × Int)} {h : D} {x0 x1 x4 x11 : Option W}
theorem Sb (hn:n<bx.length) (p:Int) (H:House h k) (M:Mv k ps) (hl:ps.length<=10) {t:D}(T:Thg t) (w7 w8 w9 w10:Option W) :
    ∃ q y7 y8 y9 y10,thB [x0,x1,some (.b n),some (.d h),x4,some (.d (.lst (ps.map dP))),some (.d t),w7,w8,w9,w10,x11] (pt bx n p)=.nx [x0,x1,some (.b n),some (.d h),x4,some (.d (.lst (ps.map dP))),some (.d t),y7,y8,y9,y10,x11] (pt bx n q):=by
  have sz:sizeLine=16777216:=sizeLine_eq;have c1:=LS H M hl T;have re:∀ (B:List Bx) (y7 y8 y9 y10:Option W),reE [x0,x1,some (.b n),some (.d h),x4,some (.d (.lst (ps.map dP))),some (.d t),y7,y8,y9,y10,x11] B=.val (.d (.str (toPy (.tup [h,.lst (ps.map dP),t])).shown)) B:=λB y7 y8 y9 y10=>Bz (ig [h,.lst (ps.map dP),t] rfl (show (3:Nat)<=sizeLine by omega)) c1;generalize (toPy (.tup [h,.lst (ps.map dP),t])).shown=S at re;have a1:gq [.d (.lst (ps.map dP)),.d t] (pt bx n p)=.val (.d (.bl (good ps t))) (pt bx n p):=oj ps t;have s1:sPar 7 8 (fc (fk K53.gq 2 (fc (dV 5) (fc (dV 6) fe))) (fc reE fe)) [x0,x1,some (.b n),some (.d h),x4,some (.d (.lst (ps.map dP))),some (.d t),w7,w8,w9,w10,x11] (pt bx n p)=.nx [x0,x1,some (.b n),some (.d h),x4,some (.d (.lst (ps.map dP))),some (.d t),some (.d (.bl (good ps t))),some (.d (.str S)),w9,w10,x11] (pt bx n p):=Oa (fF (ff rfl (ff rfl rfl)) rfl a1) (re _ _ _ _ _);obtain⟨f,ew,et⟩:∃ f:Int,dIf (dTru (dV 7)) (fk K53.gJ 2 (fc (dV 3) (fc (dV 6) fe))) (dC (.int 1)) [x0,x1,some (.b n),some (.d h),x4,some (.d (.lst (ps.map dP))),some (.d t),some (.d (.bl (good ps t))),some (.d (.str S)),w9,w10,x11] (pt bx n p)=.val (.d (.int f)) (pt bx n p) /\ ∀ (many:Int) (B:List Bx),gm [.d h,.d (.lst (ps.map dP)),.d (.int many),.d t] B=.val (.d (.bl (good ps t&&decide (many<=f)))) B:=by
    cases c:good ps t with
    | false =>
      refine⟨1,N7 (bx1:=pt bx n p) rfl rfl,λmany B=>?_⟩;rw[Bool.false_and];exact LL (CP H M hl many t c)
    | true =>
      obtain⟨f,e,e'⟩:=og (bx:=pt bx n p) H M hl 0 t c;refine⟨f,N6 (bx1:=pt bx n p) rfl (fF (ff rfl (ff rfl rfl)) rfl e),λmany B=>?_⟩;rw[Bool.true_and];obtain⟨f2,e2,e2'⟩:=og (bx:=pt bx n p) H M hl many t c;rw[e]at e2;have:f=f2:=by
        injection e2 with z _;injection z with z;injection z with z;omega
      subst this;exact LL (e2' B)
  have pw:∀ (e:DEnv) (b:List Bx),d2 false powD (dC (.int 10)) (dC (.int 20)) e b=.val (.d (.int (10 ^ 20))) b:=λe b=>fM (r:=.old (.int (10 ^ 20))) rfl rfl (N5 (by decide));obtain⟨v,q,ep,mv⟩:=Am (i:=2) (env:=[x0,x1,some (.b n),some (.d h),x4,some (.d (.lst (ps.map dP))),some (.d t),some (.d (.bl (good ps t))),some (.d (.str S)),some (.d (.int f)),w10,x11]) hn p rfl [0,1,-1,10 ^ 20,-(10 ^ 20)] (ks:=fc (dC (.int 0)) (fc (dC (.int 1)) (fc (dNeg (dC (.int 1))) (fc (d2 false powD (dC (.int 10)) (dC (.int 20))) (fc (dNeg (d2 false powD (dC (.int 10)) (dC (.int 20)))) fe))))) (λe b=>ff rfl (ff rfl (ff (By rfl) (ff (pw e b) (ff (By (pw e b)) rfl))))) (k:=5) rfl (by decide) (by decide);refine⟨q,some (.d (.bl (good ps t))),some (.d (.str S)),some (.d (.int f)),some (.d (.int (f+v))),?_⟩;have s3:fP (d2 false fH (dV 9) maE) (fg 10) [x0,x1,some (.b n),some (.d h),x4,some (.d (.lst (ps.map dP))),some (.d t),some (.d (.bl (good ps t))),some (.d (.str S)),some (.d (.int f)),w10,x11] (pt bx n p)=.nx [x0,x1,some (.b n),some (.d h),x4,some (.d (.lst (ps.map dP))),some (.d t),some (.d (.bl (good ps t))),some (.d (.str S)),some (.d (.int f)),some (.d (.int (f+v))),x11] (pt bx n q):=gw (fM (r:=.old (.int (f+v))) rfl ep rfl);have et':=et (f+v) (pt bx n q);have an:gf (dV 7) (d2 false geI (dV 9) (dV 10)) [x0,x1,some (.b n),some (.d h),x4,some (.d (.lst (ps.map dP))),some (.d t),some (.d (.bl (good ps t))),some (.d (.str S)),some (.d (.int f)),some (.d (.int (f+v))),x11] (pt bx n q)=.val (.d (.bl (good ps t&&decide (f+v<=f)))) (pt bx n q):=by
    cases c:good ps t with
    |false=>exact Ao rfl
    |true=>rw[Bool.true_and];exact jk rfl (fM (r:=.old (.bl (decide (f+v<=f)))) rfl rfl rfl)
  have t4:dB (d2 false neD (dRepr (fk K53.gm 4 (fc (dV 3) (fc (dV 5) (fc (dV 10) (fc (dV 6) fe)))))) (dRepr (gf (dV 7) (d2 false geI (dV 9) (dV 10))))) [x0,x1,some (.b n),some (.d h),x4,some (.d (.lst (ps.map dP))),some (.d t),some (.d (.bl (good ps t))),some (.d (.str S)),some (.d (.int f)),some (.d (.int (f+v))),x11] (pt bx n q)=.val false (pt bx n q):=
    gO (b:=false) (fM (r:=.old (.bl false)) (Bz (fF (ff rfl (ff rfl (ff rfl (ff rfl rfl)))) rfl et') (FQ _)) (Bz an (FQ _)) (neS _))
  have t5:dB (d2 false neD reE (dV 8)) [x0,x1,some (.b n),some (.d h),x4,some (.d (.lst (ps.map dP))),some (.d t),some (.d (.bl (good ps t))),some (.d (.str S)),some (.d (.int f)),some (.d (.int (f+v))),x11] (pt bx n q)=.val false (pt bx n q):=
    gO (b:=false) (fM (r:=.old (.bl false)) (re _ _ _ _ _) rfl (neS S))
  exact(fB s1).trans ((fB (gw ew)).trans ((fB s3).trans ((fB ((jJ t4).trans rfl)).trans ((jJ t5).trans rfl))))
theorem Ob (hn:n<bx.length) (H:House h k) (M:Mv k ps) (hl:ps.length<=10):∀ (ts:List D) (p:Int) (w6 w7 w8 w9 w10:Option W),(∀ t∈ts,Thg t) ->
    ∃ q y6 y7 y8 y9 y10,forD (fg 6) thB (ts.map W.d) [x0,x1,some (.b n),some (.d h),x4,some (.d (.lst (ps.map dP))),w6,w7,w8,w9,w10,x11] (pt bx n p)=.nx [x0,x1,some (.b n),some (.d h),x4,some (.d (.lst (ps.map dP))),y6,y7,y8,y9,y10,x11] (pt bx n q)
  |[],p,w6,w7,w8,w9,w10,_=>⟨p,w6,w7,w8,w9,w10,rfl⟩
  | t::ts,p,w6,w7,w8,w9,w10,T=>by
    obtain⟨q,y7,y8,y9,y10,e⟩:=Sb (x0:=x0) (x1:=x1) (x4:=x4) (x11:=x11) hn p H M hl (T t (List.mem_cons_self ..)) w7 w8 w9 w10;obtain⟨q',z6,z7,z8,z9,z10,e'⟩:=Ob hn H M hl ts q (some (.d t)) y7 y8 y9 y10 λu m=>T u (List.mem_cons_of_mem _ m);exact⟨q',z6,z7,z8,z9,z10,(lQ rfl e).trans e'⟩
noncomputable abbrev badB:DSt:=sIf (dB (d2 false neD (fk K53.gm 4 (fc (dV 3) (fc (dV 5) (fc (dV 11) (fc (fN false fe) fe))))) (dC (.str "number")))) (fQ (dC (.bl false))) sNil
theorem LT (B:List Bx) (H:House h k) (M:Mv k ps) (hl:ps.length<=10) (x2 x6 x7 x8 x9 x10:Option W):∀ (os:List D) (w:Option W),(∀ o∈os,wh o=false) ->
    ∃ y,forD (fg 11) badB (os.map W.d) [x0,x1,x2,some (.d h),x4,some (.d (.lst (ps.map dP))),x6,x7,x8,x9,x10,w] B=.nx [x0,x1,x2,some (.d h),x4,some (.d (.lst (ps.map dP))),x6,x7,x8,x9,x10,y] B
  |[],w,_=>⟨w,rfl⟩
  | o::os,w,O=>by
    have ht:=P0 (bx:=B) H M hl (O o (List.mem_cons_self ..)) (.lst []);have t:dB (d2 false neD (fk K53.gm 4 (fc (dV 3) (fc (dV 5) (fc (dV 11) (fc (fN false fe) fe))))) (dC (.str "number"))) [x0,x1,x2,some (.d h),x4,some (.d (.lst (ps.map dP))),x6,x7,x8,x9,x10,some (.d o)] B=.val false B :=
      gO (b:=false) (fM (r:=.old (.bl false)) (fF (ff rfl (ff rfl (ff rfl (ff (gN [] rfl (Nat.zero_le _)) rfl)))) rfl ht) rfl (neS _))
    obtain⟨y,e⟩:=LT B H M hl x2 x6 x7 x8 x9 x10 os (some (.d o)) λu m=>O u (List.mem_cons_of_mem _ m);exact⟨y,(lQ rfl ((jJ t).trans rfl)).trans e⟩
noncomputable abbrev baE:DE W:=ge (fc (dC (.bl true)) (fc (dC .non) (fc (dC (.str "1")) (fc (ge (fc (dC (.int 1)) fe)) (fc (fN false (fc (dC (.int 1)) fe)) fe)))))
noncomputable abbrev tBody:DSt:=(fG (fP (fk K52.iK 2 (fc (dV 2) (fc (dV 3) fe))) (fg 5)) (fG (il (dIter (fk K53.iL 2 (fc (dV 2) (fc (dV 5) fe)))) (fg 6) thB) (il (dIter baE) (fg 11) badB)))
theorem NE (hn:n<bx.length) (p:Int) (H:House h k) (x5 x6 x7 x8 x9 x10 x11:Option W) :
    ∃ q y5 y6 y7 y8 y9 y10 y11,tBody [x0,x1,some (.b n),some (.d h),x4,x5,x6,x7,x8,x9,x10,x11] (pt bx n p)=.nx [x0,x1,some (.b n),some (.d h),x4,y5,y6,y7,y8,y9,y10,y11] (pt bx n q):=by
  have sz:sizeLine=16777216:=sizeLine_eq;obtain⟨ps,q1,em,M,lp⟩:=Ly hn p H;obtain⟨ts,q2,el,T⟩:=LR hn M H.n5 lp q1;obtain⟨q3,y6,y7,y8,y9,y10,e3⟩:=Ob (x0:=x0) (x1:=x1) (x4:=x4) (x11:=x11) hn H M lp ts q2 x6 x7 x8 x9 x10 T;obtain⟨y,e4⟩:=LT (x0:=x0) (x1:=x1) (x4:=x4) (pt bx n q3) H M lp (some (.b n)) y6 y7 y8 y9 y10 [.bl true,.non,.str "1",.tup [.int 1],.lst [.int 1]] x11 (by decide);have ba:baE [x0,x1,some (.b n),some (.d h),x4,some (.d (.lst (ps.map dP))),y6,y7,y8,y9,y10,x11] (pt bx n q3)=.val (.d (.tup [.bl true,.non,.str "1",.tup [.int 1],.lst [.int 1]])) (pt bx n q3):=
    ig [.bl true,.non,.str "1",.tup [.int 1],.lst [.int 1]] (ff rfl (ff rfl (ff rfl (ff (ig [.int 1] rfl (show (1:Nat)<=sizeLine by omega)) (ff (gN [.int 1] rfl (show (1:Nat)<=sizeLine by omega)) rfl))))) (show (5:Nat)<=sizeLine by omega)
  exact⟨q3,_,y6,y7,y8,y9,y10,y,(fB (gw (fF (ff rfl (ff rfl rfl)) rfl em))).trans ((fB ((iS (gH (fF (ff rfl (ff rfl rfl)) rfl el))).trans e3)).trans ((iS (lq ba)).trans e4))⟩
end
noncomputable abbrev lawBody:DSt:=fG (fP (fk K1.jB 1 (fc (fk K1.ic 2 (fc (dV 0) (fc (dV 1) fe))) fe)) (fg 2)) (fG (fP (fk K52.iJ 1 (fc (dV 2) fe)) (fg 3)) (il (dRng1 (fc (dC (.int 3)) fe)) (fg 4) tBody))
theorem P4 (l:List Int) (k:Nat) (bx:List Bx) (x2 x3 x4 x5 x6 x7 x8 x9 x10 x11:Option W):∃ (ys:DEnv) (bx':List Bx),ys.length=11 /\ lawBody [some (.s l),some (.d (.int (k:Int))),x2,x3,x4,x5,x6,x7,x8,x9,x10,x11] bx=.nx (some (.s l)::ys) bx':=by
  obtain⟨c,ec⟩:=K1.PN l k bx;obtain⟨p,ep⟩:=K1.RY c bx;obtain⟨A,hn,pA⟩:∃ A:List Bx,bx.length<A.length /\ bx++[Bx.lst [D.int p]]=pt A bx.length p :=
    ⟨bx++[.lst [.int p]],by simp,by unfold pt;exact(Lm List.getElem?_concat_length).symm⟩
  rw[pA]at ep;obtain⟨h,m,q,eh,H⟩:=K52.Lw hn p;have rg:∀ env b,dRng1 (fc (dC (.int 3)) fe) env b=.val (fv 0 3) b:=λenv b=>io (j:=3) (bx1:=b) (by simp) (by decide);obtain⟨env',bx',e,q',y4,y5,y6,y7,y8,y9,y10,y11,he,hb⟩:=iI (g:=fg 4) (body:=tBody) (λ_ env b=>∃ q y4 y5 y6 y7 y8 y9 y10 y11,env=[some (.s l),some (.d (.int (k:Int))),some (.b bx.length),some (.d h),y4,y5,y6,y7,y8,y9,y10,y11] /\ b=pt A bx.length q) (fv 0 3) 0 _ _ ⟨q,x4,x5,x6,x7,x8,x9,x10,x11,rfl,rfl⟩ (by
    rintro i w env b hw ⟨q,y4,y5,y6,y7,y8,y9,y10,y11,rfl,rfl⟩;obtain⟨q',z5,z6,z7,z8,z9,z10,z11,e⟩:=NE (x0:=some (.s l)) (x1:=some (.d (.int (k:Int)))) (x4:=some w) hn q H y5 y6 y7 y8 y9 y10 y11;exact⟨[some (.s l),some (.d (.int (k:Int))),some (.b bx.length),some (.d h),some w,y5,y6,y7,y8,y9,y10,y11],pt A bx.length q,_,_,rfl,e,q',some w,z5,z6,z7,z8,z9,z10,z11,rfl,rfl⟩)
  rw[he,hb]at e;refine⟨[some (.d (.int (k:Int))),some (.b bx.length),some (.d h),y4,y5,y6,y7,y8,y9,y10,y11],pt A bx.length q',rfl,?_⟩;unfold lawBody;exact(fB (gw (fF (ff (fF (ff rfl (ff rfl rfl)) rfl ec) rfl) rfl ep))).trans ((fB (gw (fF (ff rfl rfl) rfl eh))).trans ((iS (rg _ _)).trans e))
theorem Sc (l:List Int) (hl:l.length<=1000) (bx:List Bx) (xs:DEnv):∃ c:Nat,dRng1 (fc (dN false maxD (fc (dC (.int 1)) (fc (dN false minD (fc (dLenS (dV 0)) (fc (dC (.int 6)) fe))) fe))) fe) (some (.s l)::xs) bx=.val (fv 0 c) bx:=by
  have e1:dLenS (dV 0) (some (.s l)::xs) bx=.val (.d (.int l.length)) bx:=rfl;have e2:dN false minD (fc (dLenS (dV 0)) (fc (dC (.int 6)) fe)) (some (.s l)::xs) bx=.val (.d (.int (if (6:Int)<l.length then 6 else l.length))) bx:=gZ (r:=.old _) [.int l.length,.int 6] (ff e1 (ff rfl rfl)) rfl;have e3:dN false maxD (fc (dC (.int 1)) (fc (dN false minD (fc (dLenS (dV 0)) (fc (dC (.int 6)) fe))) fe)) (some (.s l)::xs) bx=.val (.d (.int (if (if (6:Int)<l.length then (6:Int) else l.length)>1 then (if (6:Int)<l.length then 6 else l.length) else 1))) bx:=gZ (r:=.old _) [.int 1,.int (if (6:Int)<l.length then 6 else l.length)] (ff rfl (ff e2 rfl)) rfl;have e4:=ff (ks:=fe) e3 rfl;refine⟨_,io e4 ?_⟩;split<;>split<;>omega
theorem law_true (l:List Int) (hl:l.length<=1000):∃ bx',BF [.s l] []=.val (.d (.bl true)) bx':=by
  obtain⟨c,ec⟩:=Sc l hl [] [none,none,none,none,none,none,none,none,none,none,none];obtain⟨env',bx',e,ys,rfl,hy⟩:=iI (g:=fg 1) (body:=lawBody) (λ_ env b=>∃ ys:DEnv,env=some (.s l)::ys /\ ys.length=11) (fv 0 c) 0 [some (.s l),none,none,none,none,none,none,none,none,none,none,none] [] ⟨_,rfl,rfl⟩ (by
    rintro i w env b hw ⟨ys,rfl,hy⟩;obtain⟨k,_,rfl⟩:=List.mem_map.mp (List.mem_of_getElem? hw);match ys,hy with
    | [x1,x2,x3,x4,x5,x6,x7,x8,x9,x10,x11],_ =>
      obtain⟨zs,bx',hz,e⟩:=P4 l k b x2 x3 x4 x5 x6 x7 x8 x9 x10 x11;refine⟨[some (.s l),some (.d (.int (k:Int))),x2,x3,x4,x5,x6,x7,x8,x9,x10,x11],b,_,_,by rw[Int.zero_add];rfl,e,zs,rfl,hz⟩)
  refine⟨_,BA (bx':=bx') ?_⟩;show LD [some (.s l),none,none,none,none,none,none,none,none,none,none,none] []=_;unfold LD;refine(fB ((iS ec).trans e)).trans ?_;exact gh rfl
end K53
namespace L2.DL
open PySem PySem.Spec PyProof.Rows PySem.W
structure Cf where
  N:List Str
  nm:List (Str×NameKind)
  f:Bool
  bx:List Str
  dc:List Str
  scr:Str
  fs:List (Str×(Nat×(List W->List Bx->O W)))
  gl:List (Str×Int)
  bl:List Str
  rb:Bool
  rx:Bool
  tr:Bool
  ow:List Str
structure Okx (c:Cf) (k:Nat) (X:Cx) (Z:Xs):Prop where
  N:X.N=c.N
  nm:X.env.scope.names=c.nm
  kd:X.env.scope.kind=.function
  calm:X.calm=true
  fn:c.f=true->∀ x,X.fn x=true
  ow:∀ x,x∈c.ow->X.fn x=true
  nd:c.N.Nodup
  room:Room k X.A
  fs:∀ x n fn,c.fs.lookup x=some (n,fn)->∃ kk ps,Has X.prog X.w X.K X.mg X.base Z.cl kk x ps fn /\ ps.length=n /\ kk<=k
  gl:∀ x v,c.gl.lookup x=some v->∃ t,X.mg x=some (.int v t)
  bl:∀ x,x∈c.bl->X.mg x=none
  pas:Passes (CXr X.prog X.w) X Z.E
  ti:Tys X.K "int"
  tb:Tys X.K "bool"
  tt:Tys X.K "tuple"
  tl:Tys X.K "list"
  own:c.rx=false->PassesOwn (model X.prog X.w) X.A X.env X.xe
  lan:c.rx=true->Lands X Z.E /\ ∃ R,ExT X.K X.mg R Z.cl
  try_:c.tr=true->(∃ R,ExT X.K X.mg R Z.cl) /\ HasW X.prog X.w X.K X.mg X.base Z.cl /\ 1<=k /\ X.stack=X.env::X.outer /\ X.env.frame=some X.env.locals
noncomputable def dBad {α:Type}:DE α:=λ_ _=>.bad
section
variable {X : Cx} {T : Fr} {Z : Xs} {e tg : Expr} {es : List Expr} {o : Option Expr}
theorem fI:PD X T Z e dBad:=λ_ _ _ _ _ _ h=>by
  obtain⟨_,_,_,_,_,h⟩:=h;exact h.elim
theorem lx:PDT X T Z e dBad:=λ_ _ _ _ _ _ h=>by
  obtain⟨_,_,_,_,_,h⟩:=h;exact h.elim
theorem FR:PDW X T Z e dBad:=λ_ _ _ _ _ _ _ h=>by
  obtain⟨_,_,_,_,_,h⟩:=h;exact h.elim
theorem NF:PDA X T Z es dBad:=λ_ _ _ _ _ _ _ h=>by
  obtain⟨_,_,_,_,_,h⟩:=h;exact h.elim
theorem BH:PID X T Z tg e dBad:=λ_ _ _ _ _ _ h=>by
  obtain⟨_,_,_,_,_,h⟩:=h;exact h.elim
noncomputable def gBad:DG:=λ_ _ _=>none
noncomputable def gsBad:DGs:=λ_ _ _=>none
theorem ly:PGD X T e gBad:=λ_ _ _ _ _ _ _ _ _ h=>by
  obtain⟨_,_,_,_,_,_,_,h⟩:=h;exact h.elim
theorem LU:PGDs X T es gsBad:=λ_ _ _ _ _ _ _ _ _ h=>by
  obtain⟨_,_,_,_,_,_,_,h⟩:=h;exact h.elim
end
noncomputable def Cf.ix (c:Cf) (x:Str):Option Nat:=c.N.findIdx? λy=>decide (y=x)
theorem Cf.ix_get {c:Cf}{x:Str}{i:Nat}(h:c.ix x=some i):c.N[i]?=some x:=by
  obtain⟨h1,h2,_⟩:=List.findIdx?_eq_some_iff_getElem.mp h;rw[List.getElem?_eq_getElem h1,of_decide_eq_true h2]
noncomputable def Cf.isV (c:Cf) (x:Str):Bool:=(decide (c.nm.lookup x=some .local)||decide (c.nm.lookup x=some .cell)||decide (c.nm.lookup x=some .free))&&!(x==("__debug__":Str))&&!(x==("__classdict__":Str))
noncomputable def Cf.isG (c:Cf) (x:Str):Bool:=decide (c.nm.lookup x=some .globalImplicit)&&!(x==("__debug__":Str))&&decide (x≠("__name__":Str))
noncomputable def Cf.isL (c:Cf) (x:Str):Bool:=(decide (c.nm.lookup x=some .local)||decide (c.nm.lookup x=some .cell))&&(c.f||decide (x∈c.ow)||decide (c.nm.lookup x=some .local))
noncomputable def Cf.isB (c:Cf) (x:Str):Bool:=c.isG x&&decide (x∈c.bl)
section
variable {c : Cf} {k : Nat} {X : Cx} {Z : Xs} {T : Fr} {x : Str} {i : Nat} {pos : Pos}
theorem Okx.vis (O:Okx c k X Z) (h:c.isV x=true):Vis X.env.scope x /\ (x==("__debug__":Str))=false /\ (x==("__classdict__":Str))=false:=by
  simp only[Cf.isV,zA,Bool.or_eq_true,decide_eq_true_eq,Bool.not_eq_true']at h;unfold Vis;rw[O.nm];exact⟨or_assoc.mp h.1.1,h.1.2,h.2⟩
theorem Okx.gb (O:Okx c k X Z) (h:c.isG x=true):Gl X x /\ (x==("__debug__":Str))=false /\ x≠("__name__":Str):=by
  simp only[Cf.isG,zA,decide_eq_true_eq,Bool.not_eq_true']at h;unfold Gl Env.kindOf;rw[O.nm];exact⟨h.1.1,h.1.2,h.2⟩
theorem Okx.lo (O:Okx c k X Z) (h:c.isL x=true):Loc X.env.scope x /\ (X.fn x=true \/ X.env.scope.names.lookup x=some .local):=by
  simp only[Cf.isL,zA,Bool.or_eq_true,decide_eq_true_eq]at h;unfold Loc;rw[O.nm];exact⟨h.1,h.2.imp (λz=>z.elim (λz=>O.fn z x) (O.ow x)) id⟩
theorem Okx.blt (O:Okx c k X Z) (h:c.isB x=true):Gl X x /\ (x==("__debug__":Str))=false /\ x≠("__name__":Str) /\ X.mg x=none:=by
  simp only[Cf.isB,zA,decide_eq_true_eq]at h;obtain⟨a,b,d⟩:=O.gb h.1;exact⟨a,b,d,O.bl x h.2⟩
theorem Okx.at (O:Okx c k X Z) (h:c.ix x=some i):X.N[i]?=some x:=by rw[O.N];exact c.ix_get h
theorem Okx.nd' (O:Okx c k X Z):X.N.Nodup:=by rw[O.N];exact O.nd
theorem Okx.u0 (O:Okx c k X Z):X.A.units+100<cLine:=by have:=O.room.un;omega
noncomputable def cName (c:Cf) (fz:Bool) (x:Str):DE W:=match c.ix x with
  |some i=>if c.isV x then (if fz&&c.bx.contains x then dFrz i else dV i) else dBad
  | none=>match c.gl.lookup x with
    |some v=>if c.isG x then dC (.int v) else dBad
    |none=>dBad
theorem CT (O:Okx c k X Z) (fz:Bool):PD X T Z (.Name x pos) (cName c fz x):=by
  unfold cName;split
  . rename_i i e;split
    . rename_i h;obtain⟨a,b,d⟩:=O.vis h;split
      . exact Pl i (O.at e) a b d
      . exact ON i (O.at e) a b d
    . exact fI
  . split
    . rename_i v e;split
      . rename_i h;obtain⟨a,b,_⟩:=O.gb h;exact MX a (O.gl x v e) b
      . exact fI
    . exact fI
end
section
variable {c : Cf} {k : Nat} {X : Cx} {Z : Xs} {T : Fr} {pos : Pos} {f : Expr -> DE W} {t : Expr -> DE Bool} {g : Expr -> DG}
noncomputable def cEs (f:Expr->DE W):List Expr->DE (List W)
  |[]=>fe
  |e::es=>if nst e then fc (f e) (cEs f es) else dBad
theorem mX (h:∀ e,PD X T Z e (f e)):∀ es,PDA X T Z es (cEs f es)
  |[]=>iY
  | e::es=>by
    unfold cEs;split
    . rename_i n;exact jS (h e) (mX h es) n
    . exact NF
noncomputable def cAnd (f:Expr->DE W):List Expr->DE W
  |[]=>dBad
  |[a]=>f a
  |a::r=>gf (f a) (cAnd f r)
theorem FS (h:∀ e,PD X T Z e (f e)):∀ es,PD X T Z (.BoolOp .And es pos) (cAnd f es)
  |[]=>fI
  |[a]=>Jy (h a)
  |a::b::r=>OX (h a) (FS h (b::r))
noncomputable def cOr (f:Expr->DE W):List Expr->DE W
  |[]=>dBad
  |[a]=>f a
  |a::r=>dOrV (f a) (cOr f r)
theorem LV (h:∀ e,PD X T Z e (f e)):∀ es,PD X T Z (.BoolOp .Or es pos) (cOr f es)
  |[]=>fI
  |[a]=>Jy (h a)
  |a::b::r=>Rw (h a) (LV h (b::r))
noncomputable def cAndT (f:Expr->DE Bool):List Expr->DE Bool
  |[]=>dBad
  |[a]=>f a
  |a::r=>dAnd (f a) (cAndT f r)
theorem CU (h:∀ e,PDT X T Z e (t e)):∀ es,PDW X T Z (.BoolOp .And es pos) (cAndT t es)
  |[]=>FR
  |[a]=>Jx (h a)
  |a::b::r=>MA (h a) (CU h (b::r))
noncomputable def cOrT (f:Expr->DE Bool):List Expr->DE Bool
  |[]=>dBad
  |[a]=>f a
  |a::r=>dOr (f a) (cOrT f r)
theorem FT (h:∀ e,PDT X T Z e (t e)):∀ es,PDW X T Z (.BoolOp .Or es pos) (cOrT t es)
  |[]=>FR
  |[a]=>Mz (h a)
  |a::b::r=>OW (h a) (FT h (b::r))
noncomputable def cGs (g:Expr->DG):List Expr->DGs
  |[]=>lY
  |e::es=>if nst e then gF (g e) (cGs g es) else gsBad
theorem LW (h:∀ e,PGD X T e (g e)):∀ es,PGDs X T es (cGs g es)
  |[]=>JF
  | e::es=>by
    unfold cGs;split
    . rename_i n;exact Pu (h e) (LW h es) n
    . exact LU
end
noncomputable def binG:Operator->Option (D->D->Option Res)
  |.Add=>some fH|.Sub=>some subD|.Mult=>some mulD|.FloorDiv=>some fdivD|.Mod=>some modD|.Pow=>some powD
  |_=>none
noncomputable def cmpG:CmpOp->Option (D->D->Option Res)
  |.Eq=>some eqD|.NotEq=>some neD|.Lt=>some ltD|.LtE=>some leD|.Gt=>some gtI|.GtE=>some geI|.In=>some (inD false)|.NotIn=>some (inD true)
  |_=>none
theorem NG {X:Cx}{op:Operator}{g:D->D->Option Res}(h:binG op=some g):∃ q,OpR X (binaryOp op) q /\ Ok2 q g:=by
  cases op<;>cases h
  . exact⟨_,MJ,okAdd⟩
  . exact⟨_,Ot,okSub⟩
  . exact⟨_,MR,okMul⟩
  . exact⟨_,Ov,okMod⟩
  . exact⟨_,Ow,okPow⟩
  . exact⟨_,Me,okFdiv⟩
theorem lz {X:Cx}{op:CmpOp}{g:D->D->Option Res}(hu:X.A.units+100<cLine) (h:cmpG op=some g):∃ q,OpR X (compareOp op) q /\ Ok2 q g:=by
  cases op<;>cases h
  . exact⟨_,Pi hu,okEq⟩
  . exact⟨_,Pj hu,okNe⟩
  . exact⟨_,O4 (by omega),okLt⟩
  . exact⟨_,Pk (by omega),okLe⟩
  . exact⟨_,Rs,okGtI⟩
  . exact⟨_,Rt,okGeI⟩
  . exact⟨_,Gd.or (PP hu),okIn false⟩
  . exact⟨_,Bg.or (GI hu),okIn true⟩
noncomputable def bTab:List (Str×(Bool×(String×(List D->Option Res)))):=
  [("len",false, "len",lenD),("all",false, "all",allD),("any",false, "any",anyD),("sorted",false, "sorted",sortA),("max",false, "max",maxD),("min",false, "min",minD),
   ("tuple",true, "tuple",tupleD),("list",true, "list",listD)]
def BOk (X:Cx) (x:Str) (p:Bool×(String×(List D->Option Res))):Prop :=
  match p with
  |(false,id,g)=>bootBuiltins x=some (.builtin id) /\ ∃ q,CallR X (.builtin id) q /\ OkN q g
  |(true,id,g)=>bootBuiltins x=some (.type id) /\ ∃ q,CallR X (.type id) q /\ OkN q g
theorem iX {α:Type}{P:Str->α->Prop}:∀ {l:List (Str×α)}{x:Str}{a:α},(∀ p∈l,P p.1 p.2)->l.lookup x=some a->P x a
  |[],_,_,_,e=>by cases e
  | (y,b)::r,x,a,h,e=>by
    rw[List.lookup_cons]at e;cases hx:x==y with
    | true =>
      rw[hx]at e;cases e;have:x=y:=by simpa using hx
      subst this;exact h _ (List.mem_cons_self ..)
    | false =>
      rw[hx]at e;exact iX (λp m=>h p (List.mem_cons_of_mem _ m)) e
theorem NH {X:Cx}(hc:X.calm=true) (hu:X.A.units+100<cLine) {x:Str}{p:Bool×(String×(List D->Option Res))}(h:bTab.lookup x=some p):BOk X x p:=by
  refine iX (P:=BOk X) (λp m=>?_) h;simp only[bTab,List.mem_cons,List.not_mem_nil,or_false]at m;rcases m with rfl|rfl|rfl|rfl|rfl|rfl|rfl|rfl
  . exact⟨by decide +kernel,_,lV,okLen⟩
  . exact⟨by decide +kernel,_,Gm hc,okAll⟩
  . exact⟨by decide +kernel,_,GM hc,okAny⟩
  . exact⟨by decide +kernel,_,Dl hu,okSortA⟩
  . exact⟨by decide +kernel,_,F8 hc,okMax⟩
  . exact⟨by decide +kernel,_,F9 hc,okMin⟩
  . exact⟨by decide +kernel,_,Ay,okTuple⟩
  . exact⟨by decide +kernel,_,Bh,okList⟩
noncomputable def tyTab:List (Str×String):=[("int", "int"),("bool", "bool"),("tuple", "tuple"),("list", "list")]
theorem LX {c:Cf}{k:Nat}{X:Cx}{Z:Xs}(O:Okx c k X Z) {x:Str}{n:String}(h:tyTab.lookup x=some n):Tys X.K n /\ bootBuiltins x=some (.type n):=by
  refine iX (P:=λx n=>Tys X.K n /\ bootBuiltins x=some (.type n)) (λp m=>?_) h;simp only[tyTab,List.mem_cons,List.not_mem_nil,or_false]at m;rcases m with rfl|rfl|rfl|rfl
  . exact⟨O.ti,by decide +kernel⟩
  . exact⟨O.tb,by decide +kernel⟩
  . exact⟨O.tt,by decide +kernel⟩
  . exact⟨O.tl,by decide +kernel⟩
noncomputable def noC:Expr->Bool
  |.Call ..=>false
  |_=>true
theorem mD {o:Expr}{a:Str}{env:Env}{whole:Sem Value}(h:noC o=true):attributeBase o a env whole=whole:=by
  cases o<;>first|rfl|cases h
noncomputable def plainT:Expr->Bool
  |.BoolOp ..|.UnaryOp ..|.IfExp ..|.Compare ..=>false
  |_=>true
theorem A9 {e:Expr}{env:Env}(h:plainT e=true) (whole:Sem Value):PySem.isTrue e env whole=(do let v <-whole;standAt e.pos;holding [v] (truthy v)):=by
  cases e<;>first|rfl|cases h
noncomputable def noSet:Expr->Bool
  |.Set ..=>false
  |_=>true
theorem j7 {e:Expr}{env:Env}(h:noSet e=true) (x:Value):foldedSetIterable e env x=pure x:=by
  cases e<;>first|rfl|cases h
noncomputable def isC:Expr->Bool
  |.ListComp ..|.SetComp ..|.DictComp ..=>true
  |_=>false
theorem Au {e:Expr}{t:Option Expr}{l:Nat}{env:Env}(h:isC e=false):swapsWith e t l env=pure false:=by
  cases e<;>first|rfl|cases h
noncomputable def noSl:Expr->Bool
  |.Slice ..=>false
  |_=>true
section
variable {X : Cx} {T : Fr} {Z : Xs} {a b e o : Expr} {es : List Expr} {ma mb mc : DE W} {pos p apos : Pos}
theorem Av (h:noSl b=true):PlainIx b:=λ_ _=>by
  cases b<;>first|rfl|cases h
theorem few1 {env:Env}(h:nst e=true):((backTo pos (starEach [e] env)).all (λx=>!x.1)&&(backToKw pos (keywordEach [] env)).all (λx=>x.1.isSome)&&decide ([e].length+([]:List Keyword).length+(if ([]:List Keyword).isEmpty then 0 else 1)<30))=true:=by
  rw[fE h];rfl
end
section
variable {c : Cf} {k : Nat} {X : Cx} {Z : Xs} {T : Fr} {x : Str} {pos p apos : Pos} {f : Expr -> DE W} {e o : Expr}
noncomputable def cOwn (c:Cf) (f:Expr->DE W) (bo:Bool) (x:Str) (es:List Expr):DE W :=
  match c.fs.lookup x with
  | some (n,fn)=>(match es with
    |[]=>dBad
    |e::es=>if c.isG x&&nsts (e::es) then fk fn n (cEs f (e::es)) else dBad)
  | none=>match bTab.lookup x with
    | some (_,_,g)=>(match es with
      |[]=>dBad
      |e::es=>if c.isB x&&nsts (e::es) then dN bo g (cEs f (e::es)) else dBad)
    |none=>dBad
theorem BI (O:Okx c k X Z) (h:∀ e,PD X T Z e (f e)) (bo:Bool) (es:List Expr):PD X T Z (.Call (.Name x p) es [] pos) (cOwn c f bo x es):=by
  unfold cOwn;split
  . rename_i n fn e;split
    . exact fI
    . split
      . rename_i a as q;rw[zA]at q;obtain⟨g1,g2,_⟩:=O.gb q.1;obtain⟨kk,ps,hh,hn,hk⟩:=O.fs x n fn e;exact RP hh O.room hk g1 O.pas (mX h _) q.2 hn g2
      . exact fI
  . split
    . rename_i ty id g e;split
      . exact fI
      . split
        . rename_i a as q;rw[zA]at q;obtain⟨g1,g2,g3,g4⟩:=O.blt q.1;have b:=NH O.calm O.u0 e;cases ty with
          | false =>
            obtain⟨b1,qq,b2,b3⟩:=b;exact RN bo b2 b3 g1 g4 b1 (mX h _) q.2 g3 g2
          | true =>
            obtain⟨b1,qq,b2,b3⟩:=b;exact Pt bo b2 b3 g1 g4 b1 (mX h _) q.2 g3 g2
        . exact fI
    . exact fI
noncomputable def isScr (c:Cf):Expr->Bool
  |.Name x _=>decide (x=c.scr)
  |_=>false
noncomputable def cCall (c:Cf) (f:Expr->DE W) (bo:Bool) (x:Str) (es:List Expr):DE W :=
  if x="isinstance" then (match es with
    | [a,.Name t _]=>(match tyTab.lookup t with
      |some n=>if c.isB "isinstance"&&c.isB t&&nst a then gK n (f a) else dBad
      |none=>dBad)
    |_=>dBad)
  else if x="repr" then (match es with
    |[a]=>if c.isB "repr"&&nst a then dRepr (f a) else dBad
    |_=>dBad)
  else match es with
    | [.Call (.Name y _) [a] [] _]=>if x="list" /\ y="range" then (if c.isB "list"&&c.isB "range"&&nst a then dLR bo (fc (f a) fe) else dBad)
      else if x="len" /\ y="set" then (if c.isB "len"&&c.isB "set"&&nst a then dN false lenSetD (fc (f a) fe) else dBad) else cOwn c f bo x es
    |[a]=>if x="len" /\ isScr c a=true then (if c.isB "len"&&nst a then dLenS (f a) else dBad) else cOwn c f bo x es
    |_=>cOwn c f bo x es
theorem LY (O:Okx c k X Z) (h:∀ e,PD X T Z e (f e)) (bo:Bool) (es:List Expr):PD X T Z (.Call (.Name x p) es [] pos) (cCall c f bo x es):=by
  unfold cCall;split
  . rename_i hx;subst hx;split
    . rename_i a t tp;split
      . rename_i n e;split
        . rename_i q;simp only[zA]at q;obtain⟨g1,g2,g3,g4⟩:=O.blt q.1.1;obtain⟨j1,j2,j3,j4⟩:=O.blt q.1.2;obtain⟨y1,y2⟩:=LX O e;exact RQ y1 g1 g4 j1 j4 y2 (h a) q.2 j3 j2
        . exact fI
      . exact fI
    . exact fI
  . split
    . rename_i hx;subst hx;split
      . rename_i a;split
        . rename_i q;rw[zA]at q;obtain⟨g1,g2,g3,g4⟩:=O.blt q.1;exact MP O.room g1 g4 (h a) (fE q.2 _ _)
        . exact fI
      . exact fI
    . split
      . rename_i y q1 a q2;split
        . rename_i hx;obtain⟨rfl,rfl⟩:=hx;split
          . rename_i q;simp only[zA]at q;obtain⟨g1,g2,g3,g4⟩:=O.blt q.1.1;obtain⟨j1,j2,j3,j4⟩:=O.blt q.1.2;exact RS bo O.calm g1 g4 j1 j4 (jS (h a) iY q.2) q.2
          . exact fI
        . split
          . rename_i hx;obtain⟨rfl,rfl⟩:=hx;split
            . rename_i q;simp only[zA]at q;obtain⟨g1,g2,g3,g4⟩:=O.blt q.1.1;obtain⟨j1,j2,j3,j4⟩:=O.blt q.1.2;exact GQ O.calm g1 g4 j1 j4 (jS (h a) iY q.2) q.2
            . exact fI
          . exact BI O h bo _
      . rename_i a _;split
        . rename_i hx;obtain⟨rfl,_⟩:=hx;split
          . rename_i q;rw[zA]at q;obtain⟨g1,g2,g3,g4⟩:=O.blt q.1;exact MT g1 g4 (h a) (fE q.2 _ _)
          . exact fI
        . exact BI O h bo _
      . exact BI O h bo _
noncomputable def cKey (c:Cf) (f:Expr->DE W) (x k g:Str) (a:Expr):DE W :=
  if x="min" /\ k="key" /\ g="len" then (if c.isB "min"&&c.isB "len"&&nst a then dN false minLD (fc (f a) fe) else dBad) else dBad
theorem NI (O:Okx c k X Z) (h:∀ e,PD X T Z e (f e)) {n g:Str}(a:Expr) {q kp:Pos}:PD X T Z (.Call (.Name x p) [a] [⟨some n,.Name g q,kp⟩] pos) (cKey c f x n g a):=by
  unfold cKey;split
  . rename_i hx;obtain⟨rfl,rfl,rfl⟩:=hx;split
    . rename_i q;simp only[zA]at q;obtain⟨g1,g2,g3,g4⟩:=O.blt q.1.1;obtain⟨j1,j2,j3,j4⟩:=O.blt q.1.2;exact GO O.calm g1 g4 j1 j4 (jS (h a) iY q.2) (fE q.2 _ _)
    . exact fI
  . exact fI
noncomputable def cMet (f:Expr->DE W) (o:Expr) (m:Str) (es:List Expr):DE W:=match es with
  |[e]=>if nst e then (if m="append" then dApp (f o) (f e) else if m="index" then dIndex (f o) (f e) else dBad) else dBad
  |_=>dBad
theorem NJ (h:∀ e,PD X T Z e (f e)) {m:Str}(es:List Expr) (hb:noC o=true) (hl:(apos.endLine==pos.line)=true):PD X T Z (.Call (.Attribute o m apos) es [] pos) (cMet f o m es):=by
  unfold cMet;split
  . rename_i e;split
    . rename_i n;split
      . rename_i z;subst z;exact Gp (h o) (h e) (mD hb) (few1 n) hl (fE n _ _)
      . split
        . rename_i z;subst z;exact Lr (h o) (h e) n (mD hb) (few1 n) hl
        . exact fI
    . exact fI
  . exact fI
end
noncomputable def relab (on names:List (Str×NameKind)):List (Str×NameKind):=names.map λ(n,k)=>if k==NameKind.free&&on.lookup n==some .cell then (n,NameKind.cell) else (n,k)
noncomputable def tgN:Nat->Expr->List Str
  |_,.Name x _=>[x]
  |n+1,.Tuple es _ _=>es.flatMap (tgN n)
  |_,_=>[]
noncomputable def Cf.cN (c:Cf) (tg:Expr) (sc:Scope):List Str:=tgN 4 tg++c.N.filter λx=>decide (sc.names.lookup x=some .free)
noncomputable def Cf.src (c:Cf) (tg:Expr) (sc:Scope):List (Option Nat):=(tgN 4 tg).map (λ_=>none)++(c.N.filter λx=>decide (sc.names.lookup x=some .free)).map c.ix
noncomputable def Cf.inner (c:Cf) (tg:Expr) (sc:Scope):Cf:={ c with N:=c.cN tg sc,nm:=relab c.nm sc.names,f:=false,bx:=[],rx:=false,tr:=false,ow:=(tgN 4 tg).filter λx=>decide (sc.names.lookup x=some .cell) }
noncomputable def Cf.compOk (c:Cf) (tg:Expr) (sc:Scope):Bool:=compChk c.N { kind:=.function,names:=c.nm,isGenerator:=false,isCoroutine:=false } sc (c.cN tg sc) (c.src tg sc)&&decide (c.cN tg sc).Nodup
section
variable {c : Cf} {k : Nat} {X : Cx} {Z : Xs} {T : Fr} {tg : Expr} {sc : Scope}
theorem Okx.inner (O:Okx c k X Z) (h:c.compOk tg sc=true):CompScope X (c.cN tg sc) (c.src tg sc) sc /\ ∀ cl s H C fp,Okx (c.inner tg sc) k (X.comp (c.cN tg sc) sc cl s H C fp) ⟨E0,Z.cl⟩:=by
  unfold Cf.compOk at h;rw[zA,decide_eq_true_eq]at h;have S:CompScope X (c.cN tg sc) (c.src tg sc) sc:=Di (XN:=c.N) (sc:={ kind:=.function,names:=c.nm,isGenerator:=false,isCoroutine:=false }) (λx=>by unfold Env.kindOf;rw[O.nm]) O.N h.1;refine⟨S,λcl s H C fp=>⟨rfl,?_,S.kind,O.calm,λz=>(by cases z),λx m=>(List.mem_filter.mp m).2,h.2,O.room,O.fs,O.gl,O.bl,Bl,O.ti,O.tb,O.tt,O.tl,λ_=>PassesOwn.never,λz=>(by cases z),λz=>(by cases z)⟩⟩;show (relabel sc X.env).names=relab c.nm sc.names;unfold relabel relab Env.kindOf;rw[O.kd,O.nm];simp
end
structure Cm where
  e:Cf->Bool->Bool->Expr->DE W
  t:Cf->Expr->DE Bool
  g:Cf->Expr->DG
  s:Cf->Stmt->DSt
structure Good (m:Cm):Prop where
  e:∀ {c:Cf}{k:Nat}{X:Cx}{Z:Xs},Okx c k X Z->∀ {T:Fr}(bo fz:Bool) (e:Expr),PD X T Z e (m.e c bo fz e)
  t:∀ {c:Cf}{k:Nat}{X:Cx}{Z:Xs},Okx c k X Z->∀ {T:Fr}(e:Expr),PDT X T Z e (m.t c e)
  g:∀ {c:Cf}{k:Nat}{X:Cx}{Z:Xs},Okx c k X Z->∀ {T:Fr}(e:Expr),PGD X T e (m.g c e)
  s:∀ {c:Cf}{k:Nat}{X:Cx}{Z:Xs},Okx c k X Z->∀ {T:Fr}(st:Stmt),PSD X T Z st (m.s c st)
section
variable (m : Cm) (c : Cf)
noncomputable def cI (tg it:Expr):DE (List W):=match it with
  | .Call (.Name x _) [a] [] _ =>
    if x="range" then (if c.isB "range"&&nst a then dRng1 (fc (m.e c false false a) fe) else dBad)
    else dIter (m.e c false true it)
  | .Call (.Name x _) [a,b] [] _ =>
    if x="range" then (if c.isB "range"&&nst a&&nst b then dRng2 (fc (m.e c false false a) (fc (m.e c false false b) fe)) else dBad)
    else if x="zip" then (if c.isB "zip"&&nst a&&nst b then dZip (fc (m.e c false false a) (fc (m.e c false false b) fe)) else dBad)
    else dIter (m.e c false true it)
  |_=>dIter (m.e c false true it)
noncomputable def cF (ifs:List Expr):DE Bool:=match ifs with
  |[]=>fL
  |[t]=>m.t c t
  |_=>dBad
noncomputable def cComp (bo:Bool) (elt tg it:Expr) (ifs:List Expr) (sc:Scope):DE W :=
  if c.compOk tg sc&&noSet it then fD bo (c.src tg sc) (cI m c tg it) (m.g (c.inner tg sc) tg) (cF m (c.inner tg sc) ifs) (m.e (c.inner tg sc) false false elt) else dBad
noncomputable def cO (o:Option Expr):DE (Option Int):=match o with
  |none=>dNo
  |some e=>dPart (m.e c false false e)
noncomputable def cCmp1 (a:Expr) (op:CmpOp) (b:Expr):DE W :=
  match cmpG op with
    |some g=>if behindInMarks op b=false then d2 false g (m.e c false false a) (m.e c false false b) else dBad
    |none=>dBad
noncomputable def cCmp2 (a:Expr) (op op':CmpOp) (b d:Expr):DE W:=match cmpG op,cmpG op' with
  |some g,some g'=>if lastMarks [op,op'] [b,d]=false then d3 g g' (m.e c false false a) (m.e c false false b) (m.e c false false d) else dBad
  |_,_=>dBad
noncomputable def cSub (bo:Bool) (a b:Expr):DE W:=match b with
  |.Slice lo hi none _=>dSl bo (m.e c false false a) (cO m c lo) (cO m c hi)
  |.Slice none none (some (.UnaryOp .USub (.Constant (.int i) _ _) _)) _=>if i=1 then dRev bo (m.e c false false a) else dBad
  |b=>if noSl b then (if isScr c a then dIxS (m.e c false false a) (m.e c false false b) else d2 false ixD (m.e c false false a) (m.e c false false b)) else dBad
noncomputable def cDic (bo:Bool) (ks:List (Option Expr)) (vs:List Expr):DE W:=match ks,vs with
  |[],[]=>dDic bo []
  |[some (.Constant (.int k) _ _)],[.Constant (.int v) _ _]=>dDic bo [(.inl k,.int v)]
  | [some (.Constant (.int k) _ _)],[.Name x _]=>(match c.ix x with
    |some i=>if c.isV x then dDicV bo k i else dBad
    |none=>dBad)
  |_,_=>dBad
noncomputable def cCon (v:Const):DE W:=match v with
  |.int i=>dC (.int i)
  |.bool b=>dC (.bl b)
  |.none=>dC .non
  |.str x=>dC (.str x)
  |_=>dBad
noncomputable def cUn (op:UnaryOp) (a:Expr):DE W:=match op with
  |.USub=>dNeg (m.e c false false a)
  |.Not=>dNotV (m.e c false false a)
  |_=>dBad
noncomputable def cBo (op:BoolOp) (es:List Expr):DE W:=match op with
  |.And=>cAnd (m.e c false false) es
  |.Or=>cOr (m.e c false false) es
noncomputable def cCp (a:Expr) (ops:List CmpOp) (bs:List Expr):DE W:=match ops,bs with
  |[op],[b]=>cCmp1 m c a op b
  |[op,op'],[b,d]=>cCmp2 m c a op op' b d
  |_,_=>dBad
noncomputable def cKw (x:Str) (es:List Expr) (ks:List Keyword):DE W:=match es,ks with
  |[a],[⟨some n,.Name g _,_⟩]=>cKey c (m.e c false false) x n g a
  |_,_=>dBad
noncomputable def cCl (bo:Bool) (f:Expr) (es:List Expr) (ks:List Keyword) (pos:Pos):DE W:=match f with
  | .Name x _=>(match ks with
    |[]=>cCall c (m.e c false false) bo x es
    |k::ks=>cKw m c x es (k::ks))
  | .Attribute o n apos=>(match ks with
    |[]=>if noC o&&(apos.endLine==pos.line) then cMet (m.e c false false) o n es else dBad
    |_::_=>dBad)
  |_=>dBad
noncomputable def cLc (bo:Bool) (elt:Expr) (gs:List Comprehension) (sc:Scope):DE W:=match gs with
  |[⟨tg,it,ifs,0⟩]=>cComp m c bo elt tg it ifs sc
  |_=>dBad
noncomputable def sE (bo fz:Bool) (e:Expr):DE W:=match e with
  |.Constant v _ _=>cCon v
  |.Name x _=>cName c fz x
  |.Tuple es _ _=>ge (cEs (m.e c false false) es)
  |.List es _=>fN bo (cEs (m.e c false false) es)
  |.Dict ks vs _=>cDic c bo ks vs
  | .BinOp a op b _=>(match binG op with
    |some g=>d2 bo g (m.e c false false a) (m.e c false false b)
    |none=>dBad)
  |.UnaryOp op a _=>cUn m c op a
  |.BoolOp op es _=>cBo m c op es
  |.Compare a ops bs _=>cCp m c a ops bs
  |.IfExp t a b _=>dIf (m.t c t) (m.e c false false a) (m.e c false false b)
  |.Subscript a b _=>cSub m c bo a b
  |.Call f es ks pos=>cCl m c bo f es ks pos
  |.ListComp elt gs sc _=>cLc m c bo elt gs sc
  |_=>dBad
noncomputable def sT (e:Expr):DE Bool:=match e with
  |.BoolOp .And es _=>cAndT (m.t c) es
  |.BoolOp .Or es _=>cOrT (m.t c) es
  |.UnaryOp .Not a _=>dNot (m.t c a)
  |.Compare a [op] [b] _=>(match cmpG op with
      |some g=>if behindInMarks op b=false then dB (d2 false g (m.e c false false a) (m.e c false false b)) else dBad
      |none=>dBad)
  | .Compare a [op,op'] [b,d] _=>(match cmpG op,cmpG op' with
    |some g,some g'=>if lastMarks [op,op'] [b,d]=false then dB (d3 g g' (m.e c false false a) (m.e c false false b) (m.e c false false d)) else dBad
    |_,_=>dBad)
  |.Name x _=>dTru (cName c false x)
  |e=>if plainT e then dB (m.e c false false e) else dBad
noncomputable def sG (tg:Expr):DG:=match tg with
  | .Name x _=>(match c.ix x with
    |some i=>if c.isL x then fg i else gBad
    |none=>gBad)
  |.Tuple es _ _=>if nsts es then jM es.length (cGs (m.g c) es) else gBad
  |.Subscript o i _=>if noSl i then gdSub (m.e c false false o) (m.e c false false i) else gBad
  |_=>gBad
end
section
variable {m : Cm} {c : Cf} {k : Nat} {X : Cx} {Z : Xs} {T : Fr} (G : Good m) (O : Okx c k X Z)
include G O
theorem CV (tg it:Expr):PID X T Z tg it (cI m c tg it):=by
  unfold cI;split
  . rename_i x p a pos;split
    . rename_i z;subst z;split
      . rename_i q;rw[zA]at q;obtain⟨g1,g2,g3,g4⟩:=O.blt q.1;exact Db g1 g4 (jS (G.e O _ _ a) iY q.2) (fE q.2 _ _)
      . exact BH
    . exact Bn (G.e O _ _ _)
  . rename_i x p a b pos;split
    . rename_i z;subst z;split
      . rename_i q;simp only[zA]at q;obtain⟨⟨q,n1⟩,n2⟩:=q;obtain⟨g1,g2,g3,g4⟩:=O.blt q;exact Dc g1 g4 (jS (G.e O _ _ a) (jS (G.e O _ _ b) iY n2) n1) (by rw[fE n1,fE n2];rfl) (fE n2 _ _)
      . exact BH
    . split
      . rename_i z;subst z;split
        . rename_i q;simp only[zA]at q;obtain⟨⟨q,n1⟩,n2⟩:=q;obtain⟨g1,g2,g3,g4⟩:=O.blt q;exact MW g1 g4 (jS (G.e O _ _ a) (jS (G.e O _ _ b) iY n2) n1) (by rw[fE n1,fE n2];rfl) (fE n2 _ _)
        . exact BH
      . exact Bn (G.e O _ _ _)
  . exact Bn (G.e O _ _ _)
theorem LZ (ifs:List Expr):PF X ifs (tDT T Z (cF m c ifs)):=by
  unfold cF;split
  . exact MH
  . exact MI (G.t O _)
  . exact λ_ _ _ _ _ _ h=>by obtain⟨_,_,_,_,_,h⟩:=h;exact h.elim
theorem L3 (bo:Bool) (elt tg it:Expr) (ifs:List Expr) (sc:Scope) (pos:Pos):PD X T Z (.ListComp elt [⟨tg,it,ifs,0⟩] sc pos) (cComp m c bo elt tg it ifs sc):=by
  unfold cComp;split
  . rename_i q;rw[zA]at q;obtain⟨S,OO⟩:=O.inner q.1;exact DZ bo O.calm S (CV G O tg it) (λ_ _ _ _ _ _=>G.g (OO _ _ _ _ _) tg) (λ_ _ _ _ _ _=>LZ G (OO _ _ _ _ _) ifs) (λ_ _ _ _ _ _=>G.e (OO _ _ _ _ _) _ _ elt) (λx=>j7 q.2 x)
  . exact fI
theorem L4 (a:Expr) (op:CmpOp) (b:Expr) (pos:Pos):PD X T Z (.Compare a [op] [b] pos) (cCmp1 m c a op b):=by
  unfold cCmp1;split
  . rename_i g e;obtain⟨q,h1,h2⟩:=lz O.u0 e;split
    . rename_i z;exact OU h1 h2 (G.e O _ _ a) (G.e O _ _ b) z
    . exact fI
  . exact fI
theorem L5 (a:Expr) (op op':CmpOp) (b d:Expr) (pos:Pos):PD X T Z (.Compare a [op,op'] [b,d] pos) (cCmp2 m c a op op' b d):=by
  unfold cCmp2;split
  . rename_i g g' e e';obtain⟨q,h1,h2⟩:=lz O.u0 e;obtain⟨q',h1',h2'⟩:=lz O.u0 e';split
    . rename_i z;exact Jw h1 h1' h2 h2' (G.e O _ _ a) (G.e O _ _ b) (G.e O _ _ d) z
    . exact fI
  . exact fI
theorem Oc (o:Option Expr):PDO X T Z o (cO m c o):=by
  unfold cO;split
  . exact O9
  . exact JK (G.e O _ _ _)
theorem NK (bo:Bool) (a b:Expr) (pos:Pos):PD X T Z (.Subscript a b pos) (cSub m c bo a b):=by
  unfold cSub;split
  . exact JL bo (G.e O _ _ a) (Oc G O _) (Oc G O _)
  . split
    . rename_i z;subst z;exact Pb bo (G.e O _ _ a)
    . exact fI
  . split
    . rename_i n;split
      . exact Pm (G.e O _ _ a) (G.e O _ _ _) (Av n)
      . exact Rv OE okIx (G.e O _ _ a) (G.e O _ _ _) (Av n)
    . exact fI
omit G in
theorem NL (bo:Bool) (ks:List (Option Expr)) (vs:List Expr) (pos:Pos):PD X T Z (.Dict ks vs pos) (cDic c bo ks vs):=by
  unfold cDic;split
  . exact MU bo
  . exact MV bo
  . rename_i x p;split
    . rename_i i e;split
      . rename_i h;refine Nj bo i ?_;have:=O.at e;simp only[Cf.isV,zA,Bool.or_eq_true,decide_eq_true_eq,Bool.not_eq_true']at h;simp only[okV,zA,Bool.or_eq_true,decide_eq_true_eq,Bool.not_eq_true',O.nm];exact⟨⟨⟨this,h.1.1⟩,h.1.2⟩,h.2⟩
      . exact fI
    . exact fI
  . exact fI
omit G O in
theorem NM (v:Const) (k:Nat) (pos:Pos):PD X T Z (.Constant v k pos) (cCon v):=by
  unfold cCon;split
  . exact OP
  . exact Ru
  . exact OQ
  . exact OR
  . exact fI
theorem P5 (op:UnaryOp) (a:Expr) (pos:Pos):PD X T Z (.UnaryOp op a pos) (cUn m c op a):=by
  unfold cUn;split
  . exact Pc (G.e O _ _ _)
  . exact OY (G.e O _ _ _)
  . exact fI
theorem P6 (op:BoolOp) (es:List Expr) (pos:Pos):PD X T Z (.BoolOp op es pos) (cBo m c op es):=by
  unfold cBo;split
  . exact FS (G.e O _ _) _
  . exact LV (G.e O _ _) _
theorem P7 (a:Expr) (ops:List CmpOp) (bs:List Expr) (pos:Pos):PD X T Z (.Compare a ops bs pos) (cCp m c a ops bs):=by
  unfold cCp;split
  . exact L4 G O _ _ _ _
  . exact L5 G O _ _ _ _ _ _
  . exact fI
theorem P8 (x:Str) (p:Pos) (es:List Expr) (ks:List Keyword) (pos:Pos):PD X T Z (.Call (.Name x p) es ks pos) (cKw m c x es ks):=by
  unfold cKw;split
  . exact NI O (G.e O _ _) _
  . exact fI
theorem P9 (bo:Bool) (f:Expr) (es:List Expr) (ks:List Keyword) (pos:Pos):PD X T Z (.Call f es ks pos) (cCl m c bo f es ks pos):=by
  unfold cCl;split
  . split
    . exact LY O (G.e O _ _) bo _
    . exact P8 G O _ _ _ _ _
  . split
    . split
      . rename_i q;rw[zA]at q;exact NJ (G.e O _ _) _ q.1 q.2
      . exact fI
    . exact fI
  . exact fI
theorem Rb (bo:Bool) (elt:Expr) (gs:List Comprehension) (sc:Scope) (pos:Pos):PD X T Z (.ListComp elt gs sc pos) (cLc m c bo elt gs sc):=by
  unfold cLc;split
  . exact L3 G O bo _ _ _ _ _ _
  . exact fI
theorem Sd (bo fz:Bool) (e:Expr):PD X T Z e (sE m c bo fz e):=by
  unfold sE;split
  . exact NM _ _ _
  . exact CT O fz
  . exact O0 (mX (G.e O _ _) _)
  . exact O1 bo (mX (G.e O _ _) _)
  . exact NL O bo _ _ _
  . split
    . rename_i g e;obtain⟨q,h1,h2⟩:=NG (X:=X) e;exact OT bo h1 h2 (G.e O _ _ _) (G.e O _ _ _)
    . exact fI
  . exact P5 G O _ _ _
  . exact P6 G O _ _ _
  . exact P7 G O _ _ _ _
  . exact OZ (G.t O _) (G.e O _ _ _) (G.e O _ _ _)
  . exact NK G O bo _ _ _
  . exact P9 G O bo _ _ _ _
  . exact Rb G O bo _ _ _ _
  . exact fI
theorem Se (e:Expr):PDT X T Z e (sT m c e):=by
  unfold sT;split
  . exact N1 (CU (G.t O) _)
  . exact N1 (FT (G.t O) _)
  . exact MB (G.t O _)
  . split
    . rename_i g e;obtain⟨q,h1,h2⟩:=lz O.u0 e;split
      . rename_i z;exact Mw h1 h2 (G.e O _ _ _) (G.e O _ _ _) z
      . exact lx
    . exact lx
  . split
    . rename_i g g' e e';obtain⟨q,h1,h2⟩:=lz O.u0 e;obtain⟨q',h1',h2'⟩:=lz O.u0 e';split
      . rename_i z;exact Gh h1 h1' h2 h2' (G.e O _ _ _) (G.e O _ _ _) (G.e O _ _ _) z
      . exact lx
    . exact lx
  . exact Mx (CT O false) (λw=>A9 rfl w)
  . split
    . rename_i h;exact Mu (G.e O _ _ _) (λw=>A9 h w)
    . exact lx
theorem Sf (tg:Expr):PGD X T tg (sG m c tg):=by
  unfold sG;split
  . split
    . rename_i i e;split
      . rename_i h;obtain⟨a,b⟩:=O.lo h;exact JE i O.nd' (O.at e) a b
      . exact ly
    . exact ly
  . split
    . rename_i h;exact RR O.calm (LW (G.g O) _) h rfl
    . exact ly
  . split
    . rename_i o i pos h;exact MS (Z:=Z) (G.e O _ _ o) (G.e O _ _ i) (λv=>by cases i<;>first|rfl|cases h)
    . exact ly
  . exact ly
end
end L2.DL
namespace L2
open PySem PySem.Spec PyProof.Rows
theorem PS.nox {X:Cx}{st:Stmt}{t:TS}(h:PS X.nox st t):PS X st t:=λpins s σ H D I hw =>
  wpAny_mono (h pins s σ H D (I.wish _) hw) (λ_ _ q=>q.unwish) λ_ _ z=>False.elim z
end L2
namespace L2.DL
open PySem PySem.Spec PyProof.Rows PySem.W
section
variable {X : Cx} {T : Fr} {Z : Xs} {st : Stmt} {m : DSt}
theorem L6 (h:PSD X.nox T ⟨E0,Z.cl⟩ st m):PSD X T Z st (noX m):=
  PS.imp (PS.nox h) λD σ H ⟨F,r,env,bx,R,h⟩=>by
    refine⟨F,r,env,bx,R,?_⟩;unfold noX at h;cases e:m env bx with
    |exc c bx1=>rw[e]at h;exact h.elim
    |nx env1 bx1=>rw[e]at h;exact h
    |rt w bx1=>rw[e]at h;exact h
    |bk env1 bx1=>rw[e]at h;exact h
    |ct env1 bx1=>rw[e]at h;exact h
    |bad=>rw[e]at h;exact h
end
section
variable {env : Env} {x y : Str} {px py pt pt2 : Pos} {kt k2 : Nat} {a b : Expr}
theorem NO (hk:env.blockKind=.function) (hx:env.kindOf x=some .local) (hy:env.kindOf y=some .local) (hl:(px.line==py.line)=true) (hne:x≠y) (na:nst a=true) (nb:nst b=true)
    (nf:([a,b].all (foldedForSure 8))=false) (nc:([a,b].all (constantsAlone 8))=false) :
    swappedStores [.Tuple [.Name x px,.Name y py] kt pt] (.Tuple [a,b] k2 pt2) env=pure (some [x,y]):=by
  have hl':px.line=py.line:=by simpa using hl
  have hd:([x,y]:List Str).eraseDups.length=2:=by
    have:(y==x)=false:=by simpa using Ne.symm hne
    simp[List.eraseDups_cons,this]
  unfold swappedStores;simp only[hk,hx,hy,hl',List.any_cons,List.any_nil,List.filterMap_cons,List.filterMap_nil,List.length_cons,List.length_nil,List.head?_cons,Option.map_some,Option.getD_some,Expr.pos,nf,nc];simp[hl',hd,List.filterMap_cons,hx,hy,nf,nc];rintro(h|h)
  . cases a<;>first|(cases h;done)|cases na
  . cases b<;>first|(cases h;done)|cases nb
theorem NP (hk:env.blockKind=.function) (na:nst a=true) (nb:nst b=true) (h:(env.kindOf x==some .local&&env.kindOf y==some .local)=false) :
    swappedStores [.Tuple [.Name x px,.Name y py] kt pt] (.Tuple [a,b] k2 pt2) env=pure none:=by
  unfold swappedStores;simp only[hk,List.any_cons,List.any_nil,List.length_cons,List.length_nil,List.head?_cons,Option.map_some,Option.getD_some,Expr.pos];rw[Bool.and_eq_false_iff]at h;rcases h with h|h
  . simp only[List.filterMap_cons,List.filterMap_nil,h,Bool.false_and];by_cases q:(env.kindOf y==some .local&&py.line==px.line)=true
    . simp[q]
    . simp[q]
  . simp only[List.filterMap_cons,List.filterMap_nil,h,Bool.false_and];by_cases z:env.kindOf x=some .local<;>simp[z]
end
noncomputable def cBs (f:Stmt->DSt):List Stmt->DSt
  |[]=>sNil
  |[s]=>f s
  |s::r=>fG (f s) (cBs f r)
theorem j8 {X:Cx}{Z:Xs}{T:Fr}{f:Stmt->DSt}(h:∀ s,PSD X T Z s (f s)):∀ b,PSDs X T Z b (cBs f b)
  |[]=>MD
  |[s]=>ME (h s)
  |s::a::r=>JA (h s) (j8 h (a::r))
noncomputable def notTT:Expr->Expr->Bool
  |.Tuple ..,.Tuple ..|.List ..,.Tuple ..=>false
  |_,_=>true
theorem Od {tg e:Expr}{env:Env}(h:notTT tg e=true):swappedStores [tg] e env=pure none:=by
  cases tg with
  |Tuple es n p=>cases e<;>first|rfl|cases h
  |List es p=>cases e<;>first|rfl|cases h
  |_=>rfl
noncomputable def swB (c:Cf) (x:Str) (tp cp:Pos) (sc:Scope):Bool:=c.nm.lookup x==some .local&&tp.line==cp.line&&!(sc.names.any λ(n,k)=>n==x&&(k==.local||k==.cell))
section
variable {c : Cf} {k : Nat} {X : Cx} {Z : Xs} {T : Fr}
theorem Okx.block (O:Okx c k X Z):X.env.blockKind=.function:=by unfold Env.blockKind;rw[O.kd];rfl
theorem NQ (O:Okx c k X Z) {elt:Expr}{gs:List Comprehension}{sc:Scope}{cp tp:Pos}{x:Str}{l:Nat}:swapsWith (.ListComp elt gs sc cp) (some (.Name x tp)) l X.env=pure (swB c x tp cp sc):=by
  have h:swapsWith (.ListComp elt gs sc cp) (some (.Name x tp)) l X.env=pure (X.env.blockKind==.function&&X.env.kindOf x==some .local&&tp.line==cp.line&&!(sc.names.any λ(n,k)=>n==x&&(k==.local||k==.cell))):=rfl;rw[h,O.block];unfold Env.kindOf swB;rw[O.nm];rfl
noncomputable def Cf.nox (c:Cf):Cf:={ c with rx:=false,tr:=false }
noncomputable def Cf.tri (c:Cf):Cf:={ c with rx:=true,tr:=false }
theorem Okx.nox (O:Okx c k X Z):Okx c.nox k X.nox ⟨E0,Z.cl⟩ :=
  ⟨O.N,O.nm,O.kd,O.calm,O.fn,O.ow,O.nd,O.room,O.fs,O.gl,O.bl,Bl,O.ti,O.tb,O.tt,O.tl,λ_=>PassesOwn.never,λz=>(by cases z),λz=>(by cases z)⟩
theorem Okx.tri (O:Okx c k X Z) (h:c.tr=true) (pn:List (Addr×Obj)) (E:XK):Okx c.tri k (X.tri pn E) ⟨E,Z.cl⟩ :=
  ⟨O.N,O.nm,O.kd,O.calm,O.fn,O.ow,O.nd,O.room,O.fs,O.gl,O.bl,AM.passes,O.ti,O.tb,O.tt,O.tl,λz=>(by cases z),λ_=>⟨AM,(O.try_ h).1⟩,λz=>(by cases z)⟩
end
theorem jI {e t:Expr}{l:Nat}{env:Env}(h:isC e=false):swapsWithSole [t] e l env=pure false:=Au (t:=some t) h
section
variable (m : Cm) (c : Cf)
noncomputable def cSet (x:Str) (e:Expr):DSt:=match c.ix x with
  | some i=>if c.isL x then (match e with
    |.ListComp elt [⟨tg,it,ifs,0⟩] sc _=>if c.compOk tg sc&&noSet it then fP (cComp m c (c.bx.contains x) elt tg it ifs sc) (fg i) else sBad
    |e=>if isC e then sBad else fP (m.e c (c.bx.contains x) false e) (fg i)) else sBad
  |none=>sBad
noncomputable def parOk (c:Cf) (x y:Str) (px py:Pos) (a b:Expr):Bool:=nst a&&nst b&&decide (x≠y)&&c.isL x&&c.isL y&&(if c.nm.lookup x==some .local&&c.nm.lookup y==some .local then px.line==py.line&&!([a,b].all (foldedForSure 8))&&!([a,b].all (constantsAlone 8)) else true)
noncomputable def cPar (x y:Str) (px py:Pos) (a b:Expr):DSt:=match c.ix x,c.ix y with
  |some i,some j=>if parOk c x y px py a b then sPar i j (fc (m.e c (c.bx.contains x) false a) (fc (m.e c (c.bx.contains y) false b) fe)) else sBad
  |_,_=>sBad
noncomputable def cAsg (tg e:Expr):DSt:=match tg,e with
  |.Name x _,e=>cSet m c x e
  |.Tuple [.Name x px,.Name y py] _ _,.Tuple [a,b] _ _=>cPar m c x y px py a b
  |.Subscript o i p,e=>if isC e then sBad else fP (m.e c false false e) (m.g c (.Subscript o i p))
  |tg,e=>if !isC e&&nst tg&&notTT tg e then fP (m.e c false false e) (m.g c tg) else sBad
noncomputable def cLoop (f:Cf->DSt):DSt:=if c.rx then noX (f c.nox) else f c
noncomputable def cRaise (e:Option Expr):DSt:=match e with
  | some (.Call (.Name x _) [a] [] _)=>(match exNames.findIdx? λy=>decide (y=x) with
    |some i=>if c.rx&&decide (i<17)&&nst a&&c.isG x then sRaise i (m.e c false false a) else sBad
    |none=>sBad)
  |_=>sBad
noncomputable def cTry (body:List Stmt) (hs:List ExceptHandler):DSt:=match hs with
  | [.ExceptHandler (some (.Name r _)) (some n) [.Return (some (.Call (.Name w _) [.Name n' _] [] _)) _] _]=>(match c.ix n with
    |some i=>if c.tr&&decide (r="RimeError")&&decide (w="_law_word")&&decide (n=n')&&c.isG "RimeError"&&c.isG "_law_word"&&c.isV n&&decide (c.nm.lookup n=some .local) then sTry (cBs (m.s c.tri) body) else sBad
    |none=>sBad)
  |_=>sBad
noncomputable def sS (st:Stmt):DSt:=match st with
  |.Assign [tg] e _=>cAsg m c tg e
  |.Return (some e) _=>fQ (m.e c c.rb true e)
  |.Return none _=>sRetN
  |.Expr e _=>if isC e then sBad else iB (m.e c false false e)
  |.If t a b _=>sIf (m.t c t) (cBs (m.s c) a) (cBs (m.s c) b)
  |.For tg it body [] _=>if noSet it then cLoop c λc=>il (cI m c tg it) (m.g c tg) (cBs (m.s c) body) else sBad
  |.Raise e none _=>cRaise m c e
  |.Try body hs [] [] _=>cTry m c body hs
  |.Pass _=>sNil
  |_=>sBad
end
section
variable {m : Cm} {c : Cf} {k : Nat} {X : Cx} {Z : Xs} {T : Fr} (G : Good m) (O : Okx c k X Z)
include G O
theorem NR (x:Str) (e:Expr) (tp pos:Pos):PSD X T Z (.Assign [.Name x tp] e pos) (cSet m c x e):=by
  unfold cSet;split
  . rename_i i hi;split
    . rename_i hl;obtain⟨l1,l2⟩:=O.lo hl;split
      . rename_i elt tg it ifs sc cp;split
        . rename_i q;unfold cComp;rw[if_pos q];rw[zA]at q;obtain⟨S,OO⟩:=O.inner q.1;have sw:=NQ O (elt:=elt) (gs:=[⟨tg,it,ifs,0⟩]) (sc:=sc) (cp:=cp) (tp:=tp) (x:=x) (l:=pos.line);cases hb:swB c x tp cp sc with
          | true =>
            rw[hb]at sw;exact JX i _ O.calm S (CV G O tg it) (λ_ _ _ _ _ _=>G.g (OO _ _ _ _ _) tg) (λ_ _ _ _ _ _=>LZ G (OO _ _ _ _ _) ifs) (λ_ _ _ _ _ _=>G.e (OO _ _ _ _ _) _ _ elt) O.nd' (O.at hi) l1 sw l2 (λx=>j7 q.2 x)
          | false =>
            rw[hb]at sw;exact DV i (DZ _ O.calm S (CV G O tg it) (λ_ _ _ _ _ _=>G.g (OO _ _ _ _ _) tg) (λ_ _ _ _ _ _=>LZ G (OO _ _ _ _ _) ifs) (λ_ _ _ _ _ _=>G.e (OO _ _ _ _ _) _ _ elt) (λx=>j7 q.2 x)) O.nd' (O.at hi) l1 sw l2
        . exact gu
      . split
        . exact gu
        . rename_i h;exact DV i (G.e O _ _ _) O.nd' (O.at hi) l1 (Au (by simpa using h)) l2
    . exact gu
  . exact gu
theorem NS (x y:Str) (a b:Expr) (px py pt pt2 pos:Pos) (kt k2:Nat):PSD X T Z (.Assign [.Tuple [.Name x px,.Name y py] kt pt] (.Tuple [a,b] k2 pt2) pos) (cPar m c x y px py a b):=by
  unfold cPar;split
  . rename_i i j hi hj;split
    . rename_i q;unfold parOk at q;rw[zA,zA,zA,zA,zA,decide_eq_true_eq]at q;obtain⟨⟨⟨⟨⟨na,nb⟩,hne⟩,hx⟩,hy⟩,q⟩:=q;have ps:PDA X T Z [a,b] (fc (m.e c (c.bx.contains x) false a) (fc (m.e c (c.bx.contains y) false b) fe)):=jS (G.e O _ _ a) (jS (G.e O _ _ b) iY nb) na;have kx:X.env.kindOf x=c.nm.lookup x:=by unfold Env.kindOf;rw[O.nm]
      have ky:X.env.kindOf y=c.nm.lookup y:=by unfold Env.kindOf;rw[O.nm]
      by_cases h:(c.nm.lookup x==some NameKind.local&&c.nm.lookup y==some NameKind.local)=true
      . rw[if_pos h]at q;simp only[zA,Bool.not_eq_true']at q;rw[zA]at h;have h1:c.nm.lookup x=some .local:=by simpa using h.1
        have h2:c.nm.lookup y=some .local:=by simpa using h.2
        refine M6 i j O.calm O.nd' ps (O.at hi) (O.at hj) (λz=>?_) (by rw[O.nm];exact h1) (by rw[O.nm];exact h2) (NO O.block (kx.trans h1) (ky.trans h2) q.1.1 hne na nb q.1.2 q.2) (jI rfl);subst z;have:=(c.ix_get hi).symm.trans (c.ix_get hj);exact hne (Option.some.inj this)
      . obtain⟨l1,l2⟩:=O.lo hx;obtain⟨l3,l4⟩:=O.lo hy;refine Ls i j O.calm O.nd' ps (O.at hi) (O.at hj) l1 l3 l2 l4 (jI rfl) (NP O.block na nb ?_) rfl rfl rfl rfl rfl;rw[kx,ky];simpa using h
    . exact gu
  . exact gu
theorem NT (tg e:Expr) (pos:Pos):PSD X T Z (.Assign [tg] e pos) (cAsg m c tg e):=by
  unfold cAsg;split
  . exact NR G O _ _ _ _
  . exact NS G O _ _ _ _ _ _ _ _ _ _ _
  . split
    . exact gu
    . rename_i h;exact DU (G.e O _ _ _) (G.g O _) (jI (by simpa using h)) (Od rfl) rfl
  . split
    . rename_i q;simp only[zA,Bool.not_eq_true']at q;exact DU (G.e O _ _ _) (G.g O _) (jI q.1.1) (Od q.2) (by rw[jR q.1.2];rfl)
    . exact gu
theorem Sg (st:Stmt):PSD X T Z st (sS m c st):=by
  unfold sS;split
  . exact NT G O _ _ _
  . exact MF (G.e O _ _ _)
  . exact JD
  . split
    . exact gu
    . rename_i h;exact JC (G.e O _ _ _) (Au (by simpa using h))
  . exact O3 (G.t O _) (j8 (G.s O) _) (j8 (G.s O) _)
  . split
    . rename_i h;unfold cLoop;split
      . exact L6 (DW PassesOwn.never O.calm (CV G O.nox _ _) (G.g O.nox _) (j8 (G.s O.nox) _) (λx=>j7 h x))
      . rename_i q;exact DW (O.own (by simpa using q)) O.calm (CV G O _ _) (G.g O _) (j8 (G.s O) _) (λx=>j7 h x)
    . exact gu
  . unfold cRaise;split
    . split
      . rename_i i hi;split
        . rename_i q;simp only[zA,decide_eq_true_eq]at q;obtain⟨⟨⟨q1,q2⟩,q3⟩,q4⟩:=q;obtain⟨l,R,E⟩:=O.lan q1;obtain⟨g1,g2,_⟩:=O.gb q4;obtain⟨h1,h2,_⟩:=List.findIdx?_eq_some_iff_getElem.mp hi;refine Gw i E O.calm l g1 (by rw[List.getElem?_eq_getElem h1,of_decide_eq_true h2]) (G.e O _ _ _) q2 ?_ g2;simp[nsts,q3]
        . exact gu
      . exact gu
    . exact gu
  . unfold cTry;split
    . split
      . rename_i i hi;split
        . rename_i q;simp only[zA,decide_eq_true_eq]at q;obtain⟨⟨⟨⟨⟨⟨⟨q1,rfl⟩,rfl⟩,rfl⟩,q5⟩,q6⟩,q7⟩,q8⟩:=q;obtain⟨⟨R,E⟩,W,hk,hst,hfr⟩:=O.try_ q1;obtain⟨v1,v2,v3⟩:=O.vis q7;exact M4 i E W O.room hk hst hfr rfl (O.gb q5).1 (O.gb q6).1 O.nd' (O.at hi) (by unfold Env.kindOf;rw[O.nm];exact q8) (λpn E=>j8 (G.s (O.tri q1 pn E)) _) v1 v2 v3
        . exact gu
      . exact gu
    . exact gu
  . exact JB
  . exact gu
end
noncomputable def stepC (m:Cm):Cm:=⟨λc bo fz e=>sE m c bo fz e,λc e=>sT m c e,λc e=>sG m c e,λc st=>sS m c st⟩
noncomputable def cm:Nat->Cm
  |0=>⟨λ_ _ _ _=>dBad,λ_ _=>dBad,λ_ _=>gBad,λ_ _=>sBad⟩
  |n+1=>stepC (cm n)
theorem lA:∀ n,Good (cm n)
  |0=>⟨λ_ _ _ _ _=>fI,λ_ _ _=>lx,λ_ _ _=>ly,λ_ _ _=>gu⟩
  |n+1=>⟨λO _ bo fz e=>Sd (lA n) O bo fz e,λO _ e=>Se (lA n) O e,λO _ e=>Sf (lA n) O e,λO _ st=>Sg (lA n) O st⟩
structure FI where
  x:Str
  ps:List Str
  N:List Str
  bx:List Str
  dc:List Str
  fl:Nat   -- 1: its list is a box as it is returned,2: may raise,4: has a try,8: calls itself
  st:Stmt
  fn:List W->List Bx->O W
structure Tx where
  scr:Str
  gl:List (Str×Int)
  bl:List Str
noncomputable def FI.b (f:FI) (i:Nat):Bool:=f.fl / i % 2==1
noncomputable def fsOf (r:List FI):List (Str×(Nat×(List W->List Bx->O W))):=r.map λg=>(g.x,(g.ps.length,g.fn))
noncomputable def FI.cf (t:Tx) (fs:List (Str×(Nat×(List W->List Bx->O W)))) (f:FI):Cf :=
  { N:=f.N,nm:=(fu f.st).names,f:=true,bx:=f.bx,dc:=f.dc,scr:=t.scr,fs:=fs,gl:=t.gl,bl:=t.bl,rb:=f.b 1,rx:=f.b 2,tr:=f.b 4,ow:=[] }
noncomputable def FI.body (t:Tx) (fs:List (Str×(Nat×(List W->List Bx->O W)))) (f:FI):List W->List Bx->O W :=
  let m:=cBs ((cm 40).s (f.cf t fs)) (gj f.st)
  fnD f.N.length (if f.b 2 then m else noX m)
noncomputable def FI.ok (f:FI):Bool:=decide ((fu f.st).kind=.function)&&!(fu f.st).isCoroutine&&!(fu f.st).isGenerator&&decide f.N.Nodup&&decide (f.N.take f.ps.length=f.ps) &&
  f.ps.all (λx=>decide ((fu f.st).names.lookup x=some .local)||decide ((fu f.st).names.lookup x=some .cell))&&(fu f.st).names.all λy=>decide (y.2≠.free)
theorem FI.scope {f:FI}(h:f.ok=true):FnScope f.N f.ps (fu f.st):=by
  simp only[FI.ok,zA,decide_eq_true_eq,List.all_eq_true,Bool.or_eq_true,Bool.not_eq_true']at h;obtain⟨⟨⟨⟨⟨⟨h1,h2⟩,h3⟩,h4⟩,h5⟩,h6⟩,h7⟩:=h;exact⟨h1,h2,h3,h4,h5,h6,λy m=>h7 y m⟩
def FI.Is (t:Tx) (r:List FI) (f:FI):Prop :=
  (f.b 8=false /\ f.fn=f.body t (fsOf r)) \/
  (f.b 8=true /\ ∃ g:Nat->List W->List Bx->O W,(g 0=λ_ _=>.bad) /\ (∀ i,g (i+1)=f.body t ((f.x,(f.ps.length,g i))::fsOf r)) /\ f.fn=g 12)
noncomputable def AllIs (t:Tx):List FI->Prop
  |[]=>True
  |f::r=>f.Is t r /\ AllIs t r
noncomputable def lev:List FI->Nat
  |[]=>0
  |f::r=>lev r+(if f.b 8 then 13 else 1)
section
variable {P : Program} {w : World} {K : PySem.W.Frag} {mg : Str -> Option Value} {base : Heap} {cl : Nat -> Addr}
structure TxOk (P:Program) (w:World) (K:PySem.W.Frag) (mg:Str->Option Value) (base:Heap) (cl:Nat->Addr) (t:Tx) (ex tr:Bool):Prop where
  gl:∀ x v,t.gl.lookup x=some v->∃ u,mg x=some (.int v u)
  bl:∀ x,x∈t.bl->mg x=none
  ti:Tys K "int"
  tb:Tys K "bool"
  tt:Tys K "tuple"
  tl:Tys K "list"
  ext:ex=true->∃ R,ExT K mg R cl
  hw:tr=true->HasW P w K mg base cl
theorem CW {t:Tx}{ex tr:Bool}(B:TxOk P w K mg base cl t ex tr) {f:FI}(d:Def K mg f.x f.st f.ps) (ho:f.ok=true) (hex:f.b 2=true \/ f.b 4=true->ex=true) (htr:f.b 4=true->tr=true) (hno:f.b 2=true->f.b 4=false) {k:Nat}(hk:f.b 4=true->1<=k)
    {fs:List (Str×(Nat×(List W->List Bx->O W)))}(F:∀ x n fn,fs.lookup x=some (n,fn)->∃ kk ps,Has P w K mg base cl kk x ps fn /\ ps.length=n /\ kk<=k):Has P w K mg base cl (k+1) f.x f.ps (f.body t fs):=by
  have S:=FI.scope ho;unfold FI.body;cases h2:f.b 2 with
  | false =>
    refine Pq (k:=k) d S (λfa cdv A outer s H E n F0 hr=>j8 ((lA 40).s (k:=k) ?_) _);exact⟨rfl,rfl,S.kind,rfl,λ_ _=>rfl,(λx m=>nomatch m),S.nd,hr,F,B.gl,B.bl,Bl,B.ti,B.tb,B.tt,B.tl,λ_=>PassesOwn.never,λz=>absurd (h2.symm.trans z) (by decide),λz=>⟨B.ext (hex (.inr z)),B.hw (htr z),hk z,rfl,rfl⟩⟩
  | true =>
    refine M5 (k:=k) d S (λfa cdv A outer s H E n F0 hr=>j8 ((lA 40).s (k:=k) ?_) _);exact⟨rfl,rfl,S.kind,rfl,λ_ _=>rfl,(λx m=>nomatch m),S.nd,hr,F,B.gl,B.bl,BU.passes,B.ti,B.tb,B.tt,B.tl,λz=>absurd (h2.symm.trans z) (by decide),λ_=>⟨BU,B.ext (hex (.inl h2))⟩,λz=>absurd ((hno h2).symm.trans z) (by decide)⟩
noncomputable def flOk (ex tr:Bool) (r:List FI) (f:FI):Bool:=f.ok&&(!(f.b 2||f.b 4)||ex)&&(!f.b 4||tr)&&!(f.b 2&&f.b 4)&&(!f.b 4||decide (1<=lev r))
noncomputable def allOk (ex tr:Bool):List FI->Bool
  |[]=>true
  |f::r=>flOk ex tr r f&&allOk ex tr r
theorem FU {t:Tx}{ex tr:Bool}(B:TxOk P w K mg base cl t ex tr):∀ (l:List FI),AllIs t l->allOk ex tr l=true->(∀ f∈l,Def K mg f.x f.st f.ps)->∀ f∈l,∃ kk,Has P w K mg base cl kk f.x f.ps f.fn /\ kk<=lev l
  |[],_,_,_=>λf m=>nomatch m
  | f::r,A,C,D=>by
    obtain⟨A1,A2⟩:=A;have C':(flOk ex tr r f&&allOk ex tr r)=true:=C;rw[zA]at C';have ih:=FU B r A2 C'.2 λg m=>D g (List.mem_cons_of_mem _ m);have F:∀ x n fn,(fsOf r).lookup x=some (n,fn)->∃ kk ps,Has P w K mg base cl kk x ps fn /\ ps.length=n /\ kk<=lev r:=λx n fn e=>by
      refine iX (P:=λx (p:Nat×(List W->List Bx->O W))=>∃ kk ps,Has P w K mg base cl kk x ps p.2 /\ ps.length=p.1 /\ kk<=lev r) (l:=fsOf r) (λp m=>?_) e;obtain⟨g,mg',rfl⟩:=List.mem_map.mp m;obtain⟨kk,h1,h2⟩:=ih g mg';exact⟨kk,g.ps,h1,rfl,h2⟩
    have c1:=C'.1;simp only[flOk,zA,Bool.or_eq_true,Bool.not_eq_true',Bool.or_eq_false_iff,Bool.and_eq_false_iff,decide_eq_true_eq]at c1;obtain⟨⟨⟨⟨o1,o2⟩,o3⟩,o4⟩,o5⟩:=c1;have hex:f.b 2=true \/ f.b 4=true->ex=true:=λz=>by
      rcases o2 with⟨a,b⟩|a
      . rcases z with z|z
        . rw[a]at z;cases z
        . rw[b]at z;cases z
      . exact a
    have htr:f.b 4=true->tr=true:=λz=>by
      rcases o3 with a|a
      . rw[a]at z;cases z
      . exact a
    have hno:f.b 2=true->f.b 4=false:=λz=>by
      rcases o4 with a|a
      . rw[a]at z;cases z
      . exact a
    have hk:f.b 4=true->1<=lev r:=λz=>by
      rcases o5 with a|a
      . rw[a]at z;cases z
      . exact a
    have df:=D f (List.mem_cons_self ..);intro g m;rcases List.mem_cons.mp m with rfl|m
    . rcases A1 with⟨a1,a2⟩|⟨a1,q,a2,a3,a4⟩
      . refine⟨lev r+1,a2▸CW B df o1 hex htr hno hk F,?_⟩;show _<=lev r+(if g.b 8 then 13 else 1);split<;>omega
      . have hg:∀ i,Has P w K mg base cl (lev r+i+1) g.x g.ps (q i):=λi=>by
          induction i with
          |zero=>rw[a2];exact MY df
          | succ i hi =>
            rw[a3];refine CW (k:=lev r+(i+1)) B df o1 hex htr hno (λz=>by omega) λx n fn e=>?_;rw[List.lookup_cons]at e;cases hx:x==g.x with
            | true =>
              rw[hx]at e;cases e;have:x=g.x:=by simpa using hx
              subst this;exact⟨_,_,hi,rfl,by omega⟩
            | false =>
              rw[hx]at e;obtain⟨kk,ps,h1,h2,h3⟩:=F x n fn e;exact⟨kk,ps,h1,h2,by omega⟩
        refine⟨lev r+12+1,a4▸hg 12,?_⟩;show _<=lev r+(if g.b 8 then 13 else 1);rw[a1,if_pos rfl];omega
    . obtain⟨kk,h1,h2⟩:=ih g m;refine⟨kk,h1,Nat.le_trans h2 ?_⟩;show _<=lev r+(if f.b 8 then 13 else 1);omega
end
end L2.DL
namespace L2.DL
open PySem PySem.Spec PyProof.Rows
noncomputable def lstO (o:Obj):Bool:=match o.cls with|.type n=>n == "list"|_=>false
noncomputable def noList (K:PySem.W.Frag):Bool:=K.all λp=>!lstO p.2
theorem GW {K:PySem.W.Frag}(h:noList K=true) {a:Addr}{o:Obj}(e:K.lookup a=some o):o.cls≠.type "list":=by
  intro c;unfold noList at h;rw[List.all_eq_true]at h;have m:(a,o)∈K:=by
    clear h;induction K with
    |nil=>cases e
    | cons p K ih =>
      rw[List.lookup_cons]at e;cases q:a==p.1 with
      | true =>
        rw[q]at e;cases e;have:a=p.1:=by simpa using q
        subst this;exact List.mem_cons_self ..
      | false =>
        rw[q]at e;exact List.mem_cons_of_mem _ (ih e)
  have:=h _ m;simp[lstO,c]at this
theorem sp_law {K:PySem.W.Frag}{H:Hp}{a:Addr}{ns:List Int}{fn:List W->List Bx->O W}{cl:Nat->Addr}(nl:noList K=true) (hO:Only H) (hS:SqL K H a (ns.map V.int)) (hf:∃ bx',fn [.s ns] []=.val (.d (.bl true)) bx') :
    spD cl 1 fn [.ref a] H (λv _=>v=.bl true) λ_ _ _=>False:=by
  rcases hS with hS|⟨o,its,n,e1,e2,_⟩
  . rcases hS with hS|⟨o,hS⟩
    . rcases hO a with z|⟨o,xs,z⟩
      . rw[hS]at z;cases z
      . rw[hS]at z;cases z
    . obtain⟨bx',hf⟩:=hf;refine⟨H,[],[.s ns],[],⟨Sub.refl H,λi w e=>by simp at e,rfl,.nil,λn c a e=>by simp at e,λa u e _=>e,λn a _ e=>by simp at e,zL _,zL _,λa u e=>.inl e⟩,⟨.ref a,[],rfl,⟨a,o,rfl,hS⟩,rfl⟩,rfl,?_⟩;rw[hf];intro F' r' v H' _ _ d;exact d
  . exact absurd e2 (GW nl e1)
noncomputable def tys:List String:=["NoneType", "bool", "int", "str", "tuple", "list", "dict"]
noncomputable def tysChk (K:PySem.W.Frag):Bool:=tys.all λS=>["int", "bool", "tuple", "list"].all λT=>PySem.W.kitOne K (.type S) (.type T)==some (subT S T)
theorem BJ {K:PySem.W.Frag}(h:tysChk K=true) {T:String}(m:T∈["int", "bool", "tuple", "list"]):Tys K T:=by
  intro d;unfold tysChk at h;rw[List.all_eq_true]at h;have m1:tyN d∈tys:=by cases d<;>simp[tyN,tys]
  have z:=h _ m1;rw[List.all_eq_true]at z;exact beq_iff_eq.mp (z _ m)
theorem Rc {K:PySem.W.Frag}{h:Heap}{mg:Str->Option Value}{x:Str}{st:Stmt}{ps:List Str}{f:Addr}{oc:Value}{od an:Option Addr}{osl:Array (Option Value)}{kV doc pm cdv ct:Value}(X:K.In h) (G:h.Ns mainGlobals mg)
    (a:PySem.W.nsIn K mainGlobals x=some (some (.ref f))) (l:K.lookup f=some ⟨oc,od,.func (PySem.W.fnOf x x (iE st) (gj st) (fu st) .none kV doc pm an cdv ct),osl⟩)
    (c:PySem.W.codeIn K cdv x=true) (k:PySem.W.keepIn K (.ref f)=true) (hb:∀ fd,Fun K x x st f fd->Binds K fd ps []):Def K mg x st ps :=
  ⟨f,_,C8 l c k,PySem.W.mg_of X G a,hb _ (C8 l c k)⟩
theorem Re {l:PySem.W.OpenLaw}{w:World}{K:PySem.W.Frag}{mg:Str->Option Value}{fa:Addr}{k:Nat}{fn:List W->List Bx->O W}{st:Stmt}(cl:Nat->Addr) (hfa:mg "law"=some (.ref fa)) (D:Def K mg "law" st ["_law_script"])
    (hB:∀ (fd:FuncData) (f:Addr),Fun K "law" "law" st f fd->∀ (s:Shared) (u:Value),BindsTo s fd ⟨[u],[]⟩ [("_law_script",u)])
    (H:∀ base:Heap,K.In base->base.Ns mainGlobals mg->Has l.prog w K mg base cl k "law" ["_law_script"] fn) :
    ∃ (cl:Nat->Addr) (fd:FuncData),(∀ (s:Shared) (u:Value),BindsTo s fd ⟨[u],[]⟩ [("_law_script",u)]) /\ ∀ base:Heap,K.In base->base.Ns mainGlobals mg->FnOk l.prog w K mg base (CXr l.prog w) k fa fd ["_law_script"] (spD cl 1 fn):=by
  obtain⟨f,fd,F,hm,_⟩:=D;rw[hfa]at hm;cases hm;refine⟨cl,fd,hB fd fa F,λbase hK hN=>?_⟩;obtain⟨f',fd',ok,hm',_,_,o,hl,hd⟩:=H base hK hN;rw[hfa]at hm';cases hm';obtain⟨o2,hl2,hd2⟩:=F.obj;rw[hl]at hl2;cases hl2;rw[hd]at hd2;cases hd2;exact ok
theorem walk_d {l:PySem.W.OpenLaw}{q:Program}{loose:List Str}{XP:(Str->Option Value)->Heap->Prop}{YP:World->Heap->Prop}{d:DefRec}{K:Params->PySem.W.Frag}{k:Nat}{fn:List W->List Bx->O W}(hk:Room k callerA) (hn:l.most=some 63) (hdf:d.params.defaults=[])
    (hY:∀ (w:World) (h:Heap),YP w h->(K w.params).In h) (nl:∀ w:World,noList (K w.params)=true) (hf:∀ ns:List Int,ns.length<=63->∃ bx',fn [.s ns] []=.val (.d (.bl true)) bx')
    (F:∀ (w:World) (mg:Str->Option Value) (fa:Addr) (h:Heap),(K w.params).In h->h.Ns mainGlobals mg->mg d.name=some (.ref fa) ->
      ∃ (cl:Nat->Addr) (fd:FuncData),(∀ (s:Shared) (u:Value),BindsTo s fd ⟨[u],[]⟩ [("_law_script",u)]) /\ ∀ base:Heap,(K w.params).In base->base.Ns mainGlobals mg->FnOk l.prog w (K w.params) mg base (CXr l.prog w) k fa fd ["_law_script"] (spD cl 1 fn)) :
    PySem.W.WalkO q loose XP YP l.row.toRowW d [] (λf vs=>PySem.call f vs):=by
  refine Att.attach_call hn hdf λw s0 s1 mg mb fa o pm cd doc a vs ns G Y ho hd hcd hmg hobj hints hlen hg=>?_;have KX:=hY w _ Y;obtain⟨cl,fd,hb,hF⟩:=F w mg fa _ KX G.T.g hmg;exact Jm KX G.T.g G.T.b G.T.builtins G.T.nolimit hg hobj hints (Nat.le_trans hlen (by decide)) hk hF hb (λH hO hS=>sp_law (nl w) hO hS (hf ns hlen)) λH e s' z=>by
    obtain⟨_,_,_,_,_,_,_,_,_,_,_,_,_,z⟩:=z;exact z
open PySem.W in
noncomputable def chk1 (K:Frag) (R C:Addr):Bool:=excIn K C vErr "ValueError.__new__"&&(findIn K (.ref C) "__getattribute__"==some (some (.builtin "BaseException.__getattribute__")))&&(findIn K (.ref C) "__getattr__"==some none) &&
  (findIn K (.ref C) "__class__"==some (some (.builtin "object.__class__")))&&(mroIn K C (.type "object")==some true)&&(mroIn K C (.type "BaseException")==some true)&&(clsIn K C).isSome&&(kitOne K (.ref C) (.type "ValueError")==some true)&&(kitCls K (.ref C) (.ref R)==some true)
open PySem.W in
noncomputable def chk2 (K:Frag) (cs:List Addr):Bool:=(List.range 17).all λi=>(List.range 17).all λj=>kitOne K (.ref (cs.getD i 0)) (.ref (cs.getD j 0))==some (decide (i=j))
open PySem.W in
noncomputable def chk3 (K:Frag) (R:Addr):Bool:=(mroIn K R (.type "BaseException")==some true)&&(specialIn K (.builtin "object.__class__") "__get__"==some (some (.builtin "getset_descriptor.__get__")))&&(takesIn K (.builtin "object.__class__")==some true)
theorem L7 {l:List Addr}{i:Nat}(h:i<l.length):l.getD i 0∈l:=by
  rw[List.getD,List.getElem?_eq_getElem h];exact List.getElem_mem h
open PySem.W in
theorem Rf {K:Frag}{h:Heap}{mg:Str->Option Value}{R:Addr}{cs:List Addr}(X:K.In h) (G:h.Ns mainGlobals mg) (hl:cs.length=17) (eR:nsIn K mainGlobals "RimeError"=some (some (.ref R)))
    (e:∀ i x,exNames[i]?=some x->nsIn K mainGlobals x=some (some (.ref (cs.getD i 0)))) (zi:nsIn K mainGlobals "isinstance"=some none) (zv:nsIn K mainGlobals "ValueError"=some none)
    (h1:cs.all (chk1 K R)=true) (h2:chk2 K cs=true) (h3:chk3 K R=true):ExT K mg R (λi=>cs.getD i 0):=by
  unfold chk3 at h3;simp only[zA,beq_iff_eq]at h3;obtain⟨⟨q1,q3⟩,q4⟩:=h3;have hc:∀ i,i<17->chk1 K R (cs.getD i 0)=true:=λi hi=>by
    rw[List.all_eq_true]at h1;exact h1 _ (L7 (by rw[hl];exact hi))
  simp only[chk1,zA,beq_iff_eq]at hc;refine⟨λi x hx=>mg_of X G (e i x hx),mg_of X G eR,mg_none_of X G zi,mg_none_of X G zv,λi hi=>(hc i hi).1.1.1.1.1.1.1.1,λi hi=>?_,λi j hi hj=>?_,λi hi=>(hc i hi).1.2,λi hi=>(hc i hi).2,q1⟩
  . obtain⟨⟨⟨⟨⟨⟨⟨⟨_,y2⟩,y3⟩,y4⟩,y5⟩,y6⟩,y7⟩,_⟩,_⟩:=hc i hi;exact⟨y2,y3,y4,q3,q4,y5,y6,y7⟩
  . unfold chk2 at h2;rw[List.all_eq_true]at h2;have z:=h2 i (List.mem_range.mpr hi);rw[List.all_eq_true]at z;exact beq_iff_eq.mp (z j (List.mem_range.mpr hj))
end L2.DL
namespace L2.DL
open PySem PySem.Spec PyProof.Rows PySem.W
noncomputable def noneChk (K:Frag) (bl:List Str):Bool:=bl.all λx=>match nsIn K mainGlobals x with|some none=>true|_=>false
noncomputable def glChk (K:Frag) (gl:List (Str×Int)):Bool:=gl.all λp=>match nsIn K mainGlobals p.1 with|some (some (.int v _))=>v==p.2|_=>false
noncomputable def AllDef (K:Frag) (mg:Str->Option Value):List FI->Prop
  |[]=>True
  |f::r=>Def K mg f.x f.st f.ps /\ AllDef K mg r
theorem Ba {K:Frag}{mg:Str->Option Value}:∀ {l:List FI},AllDef K mg l->∀ f∈l,Def K mg f.x f.st f.ps
  |[],_=>λ_ m=>nomatch m
  | g::r,h=>λf m=>by
    rcases List.mem_cons.mp m with rfl|m
    . exact h.1
    . exact Ba h.2 f m
theorem Dy {K:Frag}{h:Heap}{mg:Str->Option Value}{bl:List Str}(X:K.In h) (G:h.Ns mainGlobals mg) (c:noneChk K bl=true):∀ x,x∈bl->mg x=none:=λx m=>by
  unfold noneChk at c;rw[List.all_eq_true]at c;have z:=c x m;split at z
  . next e=>exact mg_none_of X G e
  . cases z
theorem L8 {K:Frag}{h:Heap}{mg:Str->Option Value}{gl:List (Str×Int)}(X:K.In h) (G:h.Ns mainGlobals mg) (c:glChk K gl=true):∀ x v,gl.lookup x=some v->∃ u,mg x=some (.int v u):=λx v e=>by
  unfold glChk at c;rw[List.all_eq_true]at c;refine iX (P:=λx (v:Int)=>∃ u,mg x=some (.int v u)) (l:=gl) (λp m=>?_) e;have z:=c p m;split at z
  . next v u e =>
    have:v=p.2:=by simpa using z
    subst this;exact⟨u,mg_of X G e⟩
  . cases z
theorem Sh {P:Program}{w:World}{K:Frag}{h:Heap}{mg:Str->Option Value}{base:Heap}{cl:Nat->Addr}{t:Tx}{ex tr:Bool}(X:K.In h) (G:h.Ns mainGlobals mg) (z:noneChk K t.bl=true) (g:glChk K t.gl=true) (y:tysChk K=true)
    (e:ex=true->∃ R,ExT K mg R cl) (hw:tr=true->HasW P w K mg base cl):TxOk P w K mg base cl t ex tr :=
  ⟨L8 X G g,Dy X G z,BJ y (by simp),BJ y (by simp),BJ y (by simp),BJ y (by simp),e,hw⟩
theorem NU {l:PySem.W.OpenLaw}{w:World}{K:PySem.W.Frag}{mg:Str->Option Value}{fa:Addr}{k:Nat}{fn:List W->List Bx->O W}{st:Stmt}(cl:Nat->Addr) (hfa:mg "law"=some (.ref fa)) (D:Def K mg "law" st ["_law_script"])
    (hB:∀ (fd:FuncData) (f:Addr),Fun K "law" "law" st f fd->∀ (s:Shared) (u:Value),BindsTo s fd ⟨[u],[]⟩ [("_law_script",u)])
    (H:∀ base:Heap,K.In base->base.Ns mainGlobals mg->∃ kk,Has l.prog w K mg base cl kk "law" ["_law_script"] fn /\ kk<=k) :
    ∃ (cl:Nat->Addr) (fd:FuncData),(∀ (s:Shared) (u:Value),BindsTo s fd ⟨[u],[]⟩ [("_law_script",u)]) /\ ∀ base:Heap,K.In base->base.Ns mainGlobals mg->FnOk l.prog w K mg base (CXr l.prog w) k fa fd ["_law_script"] (spD cl 1 fn):=
  Re cl hfa D hB λbase a b=>by
    obtain⟨kk,⟨f,fd,ok,r⟩,le⟩:=H base a b;exact⟨f,fd,ok.mono le,r⟩
def DIn (K:Frag) (x:Str) (st:Stmt):Prop:=∃ (f:Addr) (oc:Value) (od:Option Addr) (kV dc pm:Value) (an:Option Addr) (cd ct:Value) (sl:Array (Option Value)),nsIn K mainGlobals x=some (some (.ref f)) /\
  K.lookup f=some ⟨oc,od,.func (fnOf x x (iE st) (gj st) (fu st) .none kV dc pm an cd ct),sl⟩ /\ codeIn K cd x=true /\ keepIn K (.ref f)=true
theorem dIn_mk {K:Frag}{x:Str}{st:Stmt}{f:Addr}{oc:Value}{od:Option Addr}{kV dc pm:Value}{an:Option Addr}{cd ct:Value}{sl:Array (Option Value)}(a:nsIn K mainGlobals x=some (some (.ref f)))
    (l:K.lookup f=some ⟨oc,od,.func (fnOf x x (iE st) (gj st) (fu st) .none kV dc pm an cd ct),sl⟩) (c:codeIn K cd x=true) (k:keepIn K (.ref f)=true):DIn K x st:=⟨f,oc,od,kV,dc,pm,an,cd,ct,sl,a,l,c,k⟩
theorem fO {K:Frag}{h:Heap}{mg:Str->Option Value}{x:Str}{st:Stmt}(ps:List Str) (X:K.In h) (G:h.Ns mainGlobals mg) (d:DIn K x st)
    (hb:∀ (kV doc pm:Value) (an:Option Addr) (cdv ct:Value) (us:List Value),us.length=ps.length->bindArgs (fnOf x x (iE st) (gj st) (fu st) .none kV doc pm an cdv ct) ⟨us,[]⟩=pure (ps.zip us)):Def K mg x st ps:=by
  obtain⟨f,oc,od,kV,dc,pm,an,cd,ct,sl,a,l,c,k⟩:=d;exact Rc X G a l c k λfd F=>F.binds hb
end L2.DL
namespace K53
open PySem PySem.Spec PyProof.Rows L2 L2.DL
noncomputable def top (i:Nat):Stmt:=PySem.Challenge.pw_rimehold_k53_rings_looked_at.main.body.getD i (.Pass ⟨0,0,0,0⟩)
noncomputable def tx:Tx:=⟨"_law_script",[("COLDEST",3),("MOST_MOVES",10),("MOST_RINGS",30)],["all", "any", "bool", "int", "isinstance", "len", "list", "max", "min", "range", "repr", "set", "sorted", "tuple", "zip"]⟩
noncomputable def i0:FI:=⟨"_law_pot",["_law_cell"],["_law_cell", "_law_number", "_law_j", "_law_more"],[],[],1,top 48,K1.jB⟩
noncomputable def i1:FI:=⟨"_law_take",["_law_pot_here", "_law_far"],["_law_pot_here", "_law_far", "_law_found"],[],[],0,top 49,K1.fj⟩
noncomputable def i2:FI:=⟨"_law_house",["_law_pot_here"],["_law_pot_here", "_law_rooms", "_law_kinds", "_law_turn", "_law_rates", "_law_apart", "_law_one", "_law_other"],["_law_apart", "_law_kinds"],[],0,top 53,K52.iJ⟩
noncomputable def i3:FI:=⟨"_law_cell_at",["_law_script", "_law_k"],["_law_script", "_law_k"],[],[],0,top 47,K1.ic⟩
noncomputable def i4:FI:=⟨"_law_moves",["_law_pot_here", "_law_house_here"],["_law_pot_here", "_law_house_here", "_law_rooms", "_law_found", "_law_turn", "_law_one", "_law_other"],["_law_found"],[],0,top 55,K52.iK⟩
noncomputable def i5:FI:=⟨"_law_odd",["_law_pot_here"],["_law_pot_here", "_law_some"],[],[],0,top 51,K1.fR⟩
noncomputable def i6:FI:=⟨"_law_whole",["_law_thing"],["_law_thing"],[],[],0,top 50,K1.gx⟩
noncomputable def i7:FI:=⟨"_law_bent",["_law_pot_here", "_law_thing"],["_law_pot_here", "_law_thing", "_law_way", "_law_at"],[],[],8,top 52,K1.f8 12⟩
noncomputable def i8:FI:=⟨"_law_drawn",["_law_pot_here", "_law_moves_here"],["_law_pot_here", "_law_moves_here", "_law_walk", "_law_turn", "_law_some", "_law_one"],["_law_walk"],[],0,top 61,K53.gU⟩
noncomputable def i9:FI:=⟨"_law_is_ring",["_law_moves_here", "_law_thing"],["_law_moves_here", "_law_thing"],[],[],0,top 57,K53.gQ⟩
noncomputable def i10:FI:=⟨"_law_lists",["_law_pot_here", "_law_moves_here"],["_law_pot_here", "_law_moves_here", "_law_rings", "_law_at", "_law_found", "_law_ring", "_law_odds", "_law_odd_here"],[],[],0,top 62,K53.iL⟩
noncomputable def i11:FI:=⟨"_law_are_rings",["_law_moves_here", "_law_thing"],["_law_moves_here", "_law_thing"],[],[],0,top 59,K53.gq⟩
noncomputable def i12:FI:=⟨"_law_lots",["_law_rooms"],["_law_rooms", "_law_found", "_law_room"],[],[],0,top 56,K53.j6⟩
noncomputable def i13:FI:=⟨"_law_wanted",["_law_house_here", "_law_rings"],["_law_house_here", "_law_rings", "_law_lot"],[],[],0,top 58,K53.gJ⟩
noncomputable def i14:FI:=⟨"is_tuple",["thing", "fewest", "most"],["thing", "fewest", "most"],[],[],0,top 22,K1.f7⟩
noncomputable def i15:FI:=⟨"is_whole",["thing"],["thing"],[],[],0,top 20,K1.ja⟩
noncomputable def i16:FI:=⟨"is_within",["thing", "least", "greatest"],["thing", "least", "greatest"],[],[],0,top 21,K1.f9⟩
noncomputable def i17:FI:=⟨"are_rooms",["thing"],["thing"],[],[],0,top 28,K1.iF⟩
noncomputable def i18:FI:=⟨"are_rates",["thing"],["thing"],[],[],0,top 31,K1.jz⟩
noncomputable def i19:FI:=⟨"is_kind",["thing"],["thing"],[],[],0,top 30,K1.lN⟩
noncomputable def i20:FI:=⟨"are_kinds",["thing"],["thing"],[],[],0,top 29,K1.iG⟩
noncomputable def i21:FI:=⟨"is_rising",["things"],["things"],[],[],0,top 23,K1.jy⟩
noncomputable def i22:FI:=⟨"is_pair_apart",["thing", "many"],["thing", "many"],[],[],0,top 33,K1.gT⟩
noncomputable def i23:FI:=⟨"are_apart",["thing", "many"],["thing", "many"],[],[],0,top 32,K1.gG⟩
noncomputable def i24:FI:=⟨"is_house",["thing"],["thing", "rooms", "kinds", "apart", "hold"],[],[],0,top 27,K1.jT⟩
noncomputable def i25:FI:=⟨"need_house",["thing"],["thing"],[],[],2,top 34,K2.jj⟩
noncomputable def i26:FI:=⟨"is_room",["house", "thing"],["house", "thing"],[],[],0,top 35,K2.gM⟩
noncomputable def i27:FI:=⟨"is_move",["house", "thing"],["house", "thing"],[],[],0,top 42,K52.iT⟩
noncomputable def i28:FI:=⟨"are_moves",["house", "thing"],["house", "thing"],[],[],0,top 41,K52.jE⟩
noncomputable def i29:FI:=⟨"need_moves",["house", "thing"],["house", "thing"],[],[],2,top 40,K53.jm⟩
noncomputable def i30:FI:=⟨"need_number",["thing"],["thing"],[],[],2,top 24,K53.gR⟩
noncomputable def i31:FI:=⟨"is_ring",["house", "moves", "thing"],["house", "moves", "thing"],[],[],0,top 43,K53.iV⟩
noncomputable def i32:FI:=⟨"meets",["rooms", "ring"],["rooms", "ring"],[],[],0,top 45,K53.mw⟩
noncomputable def i33:FI:=⟨"fewest_of_each",["house", "rings"],["house", "rings", "sets", "room", "meeting"],[],[],0,top 44,K53.gL⟩
noncomputable def i34:FI:=⟨"are_rings",["house", "moves", "many", "thing"],["house", "moves", "many", "thing"],[],[],2,top 39,K53.gz⟩
noncomputable def i35:FI:=⟨"_law_told",["_law_house_here", "_law_moves_here", "_law_many", "_law_thing"],["_law_house_here", "_law_moves_here", "_law_many", "_law_thing", "_law_e"],[],[],4,top 60,K53.gm⟩
noncomputable def i36:FI:=⟨"law",["_law_script"],["_law_script", "_law_k", "_law_pot_here", "_law_house_here", "_law_turn", "_law_moves_here", "_law_thing", "_law_good", "_law_kept", "_law_wants", "_law_many", "_law_bad"],[],[],0,top 63,K53.BF⟩
noncomputable def r0:List FI:=[]
noncomputable def r1:List FI:=i0::r0
noncomputable def r2:List FI:=i1::r1
noncomputable def r3:List FI:=i2::r2
noncomputable def r4:List FI:=i3::r3
noncomputable def r5:List FI:=i4::r4
noncomputable def r6:List FI:=i5::r5
noncomputable def r7:List FI:=i6::r6
noncomputable def r8:List FI:=i7::r7
noncomputable def r9:List FI:=i8::r8
noncomputable def r10:List FI:=i9::r9
noncomputable def r11:List FI:=i10::r10
noncomputable def r12:List FI:=i11::r11
noncomputable def r13:List FI:=i12::r12
noncomputable def r14:List FI:=i13::r13
noncomputable def r15:List FI:=i14::r14
noncomputable def r16:List FI:=i15::r15
noncomputable def r17:List FI:=i16::r16
noncomputable def r18:List FI:=i17::r17
noncomputable def r19:List FI:=i18::r18
noncomputable def r20:List FI:=i19::r19
noncomputable def r21:List FI:=i20::r20
noncomputable def r22:List FI:=i21::r21
noncomputable def r23:List FI:=i22::r22
noncomputable def r24:List FI:=i23::r23
noncomputable def r25:List FI:=i24::r24
noncomputable def r26:List FI:=i25::r25
noncomputable def r27:List FI:=i26::r26
noncomputable def r28:List FI:=i27::r27
noncomputable def r29:List FI:=i28::r28
noncomputable def r30:List FI:=i29::r29
noncomputable def r31:List FI:=i30::r30
noncomputable def r32:List FI:=i31::r31
noncomputable def r33:List FI:=i32::r32
noncomputable def r34:List FI:=i33::r33
noncomputable def r35:List FI:=i34::r34
noncomputable def r36:List FI:=i35::r35
noncomputable def r37:List FI:=i36::r36
theorem q0:i0.Is tx r0:=.inl ⟨rfl,by kernel_rfl⟩
theorem q1:i1.Is tx r1:=.inl ⟨rfl,by kernel_rfl⟩
theorem q2:i2.Is tx r2:=.inl ⟨rfl,by kernel_rfl⟩
theorem q3:i3.Is tx r3:=.inl ⟨rfl,by kernel_rfl⟩
theorem q4:i4.Is tx r4:=.inl ⟨rfl,by kernel_rfl⟩
theorem q5:i5.Is tx r5:=.inl ⟨rfl,by kernel_rfl⟩
theorem q6:i6.Is tx r6:=.inl ⟨rfl,by kernel_rfl⟩
theorem q7:i7.Is tx r7:=.inr ⟨rfl,K1.f8,rfl,λ_=>by kernel_rfl,rfl⟩
theorem q8:i8.Is tx r8:=.inl ⟨rfl,by kernel_rfl⟩
theorem q9:i9.Is tx r9:=.inl ⟨rfl,by kernel_rfl⟩
theorem q10:i10.Is tx r10:=.inl ⟨rfl,by kernel_rfl⟩
theorem q11:i11.Is tx r11:=.inl ⟨rfl,by kernel_rfl⟩
theorem q12:i12.Is tx r12:=.inl ⟨rfl,by kernel_rfl⟩
theorem q13:i13.Is tx r13:=.inl ⟨rfl,by kernel_rfl⟩
theorem q14:i14.Is tx r14:=.inl ⟨rfl,by kernel_rfl⟩
theorem q15:i15.Is tx r15:=.inl ⟨rfl,by kernel_rfl⟩
theorem q16:i16.Is tx r16:=.inl ⟨rfl,by kernel_rfl⟩
theorem q17:i17.Is tx r17:=.inl ⟨rfl,by kernel_rfl⟩
theorem q18:i18.Is tx r18:=.inl ⟨rfl,by kernel_rfl⟩
theorem q19:i19.Is tx r19:=.inl ⟨rfl,by kernel_rfl⟩
theorem q20:i20.Is tx r20:=.inl ⟨rfl,by kernel_rfl⟩
theorem q21:i21.Is tx r21:=.inl ⟨rfl,by kernel_rfl⟩
theorem q22:i22.Is tx r22:=.inl ⟨rfl,by kernel_rfl⟩
theorem q23:i23.Is tx r23:=.inl ⟨rfl,by kernel_rfl⟩
theorem q24:i24.Is tx r24:=.inl ⟨rfl,by kernel_rfl⟩
theorem q25:i25.Is tx r25:=.inl ⟨rfl,by kernel_rfl⟩
theorem q26:i26.Is tx r26:=.inl ⟨rfl,by kernel_rfl⟩
theorem q27:i27.Is tx r27:=.inl ⟨rfl,by kernel_rfl⟩
theorem q28:i28.Is tx r28:=.inl ⟨rfl,by kernel_rfl⟩
theorem q29:i29.Is tx r29:=.inl ⟨rfl,by kernel_rfl⟩
theorem q30:i30.Is tx r30:=.inl ⟨rfl,by kernel_rfl⟩
theorem q31:i31.Is tx r31:=.inl ⟨rfl,by kernel_rfl⟩
theorem q32:i32.Is tx r32:=.inl ⟨rfl,by kernel_rfl⟩
theorem q33:i33.Is tx r33:=.inl ⟨rfl,by kernel_rfl⟩
theorem q34:i34.Is tx r34:=.inl ⟨rfl,by kernel_rfl⟩
theorem q35:i35.Is tx r35:=.inl ⟨rfl,by kernel_rfl⟩
theorem q36:i36.Is tx r36:=.inl ⟨rfl,by kernel_rfl⟩
theorem Rg:AllIs tx r37:=⟨q36,⟨q35,⟨q34,⟨q33,⟨q32,⟨q31,⟨q30,⟨q29,⟨q28,⟨q27,⟨q26,⟨q25,⟨q24,⟨q23,⟨q22,⟨q21,⟨q20,⟨q19,⟨q18,⟨q17,⟨q16,⟨q15,⟨q14,⟨q13,⟨q12,⟨q11,⟨q10,⟨q9,⟨q8,⟨q7,⟨q6,⟨q5,⟨q4,⟨q3,⟨q2,⟨q1,⟨q0,trivial⟩⟩⟩⟩⟩⟩⟩⟩⟩⟩⟩⟩⟩⟩⟩⟩⟩⟩⟩⟩⟩⟩⟩⟩⟩⟩⟩⟩⟩⟩⟩⟩⟩⟩⟩⟩⟩
theorem Rh:allOk true true r37=true:=by kernel_rfl
end K53
namespace K53.Wd
open PySem L2 L2.DL PySem.W PyProof.Rows
noncomputable abbrev sWord:Stmt:=PySem.Challenge.pw_rimehold_k53_rings_looked_at.main.body.getD 54 (.Pass ⟨0,0,0,0⟩)
theorem L9 {H:Hp}{l:Addr}{o:HO}(h:H l=none):Same H (upd H l o):=λb u e=>by rw[fq (fJ e h)];exact e
noncomputable def bls (i n:Nat):List V:=(List.range n).map λj=>V.bl (decide (i=j))
theorem CY (i n:Nat):(bls i n).all flatV=true:=by
  rw[List.all_eq_true];intro x hx;obtain⟨j,_,rfl⟩:=List.mem_map.mp hx;rfl
theorem GX:∀ i,i<17->(bls i 17).countP (λz=>eqV z (.bl true))=1:=by decide
theorem Ri:∀ i,i<17->(bls i 17)[i]?=some (.bl true):=by decide
theorem Rj:∀ i,i<17->∀ m,m<i->(bls i 17)[m]?=some (.bl false):=by decide
theorem scWord:FnScope ["_law_e", "_law_some", "_law_words"] ["_law_e"] (fu sWord):=⟨rfl,rfl,rfl,by decide +kernel,rfl,by decide +kernel,by decide +kernel⟩
theorem GY:bootBuiltins "ValueError"=some (.type "ValueError"):=by decide +kernel
noncomputable def stW (i:Nat):Stmt:=(gj sWord).getD i (.Pass ⟨0,0,0,0⟩)
theorem Dz {env:Env}{x:Str}(es:List Expr) (p pos':Pos) (line:Nat):swapsWith (.List es p) (some (.Name x pos')) line env=pure false:=by rfl
section
variable {P : Program} {w : World} {K : Frag} {mg : Str -> Option Value} {base : Heap} {R : Addr} {c : Nat -> Addr} {f : Addr} {cdv : Value} {A : Around} {outer : List Env} {s : Shared} {Hx : Hp} {E : XK}
noncomputable abbrev XW (P:Program) (w:World) (K:Frag) (mg:Str->Option Value) (base:Heap) (f:Addr) (cdv:Value) (A:Around) (outer:List Env) (s:Shared) (H:Hp) (E:XK):Cx:=(cxH CX0 P w K mg base ["_law_e", "_law_some", "_law_words"] "_law_word" (fu sWord) f cdv A outer s H E).nox
theorem iz {H0 H:Hp}{l:Addr}{o:HO}(s:Same H0 H) (h:H0 l=none):Same H0 (upd H l o):=λb u e=>by rw[fq (fJ e h)];exact s b u e
theorem w0 (T:ExT K mg R c) {i:Nat}(hi:i<17) {a:Addr}{H0:Hp}(ha:H0 a=some (.ext (Ex1 a (c i)))):∃ t,PS (XW P w K mg base f cdv A outer s Hx E) (stW 0) t /\ ∀ D,
    (∀ l H',H0 l=none->Same H0 H'->H' l=some (.lst [.bl (decide (i=0)),.bl (decide (i=1)),.bl (decide (i=2)),.bl (decide (i=3))])->D.nx [some (.ref a),some (.ref l),none] H')->t D [some (.ref a),none,none] H0:=by
  refine⟨_,mF (i:=1) scWord.nd rfl (Or.inl rfl) (lI (fm (fU fT (by rfl) T.inst boot_isinstance (fm (pv 0) (fm (gi (v:=.ref (c 0)) rfl (T.m 0 _ rfl) rfl) fS))) (fm (fU fT (by rfl) T.inst boot_isinstance (fm (pv 0) (fm (gi (v:=.ref (c 1)) rfl (T.m 1 _ rfl) rfl) fS))) (fm (fU fT (by rfl) T.inst boot_isinstance (fm (pv 0) (fm (gi (v:=.ref (c 2)) rfl (T.m 2 _ rfl) rfl) fS))) (fm (fU fT (by rfl) T.inst boot_isinstance (fm (pv 0) (fm (gi (v:=.ref (c 3)) rfl (T.m 3 _ rfl) rfl) fS))) fS))))),λD k=>?_⟩;exact⟨_,rfl,_,_,_,_,_,rfl,.exc ha (T.ek i hi),rfl,T.kt i 0 hi (by decide),_,rfl,_,_,_,_,_,rfl,.exc ha (T.ek i hi),rfl,T.kt i 1 hi (by decide),_,rfl,_,_,_,_,_,rfl,.exc ha (T.ek i hi),rfl,T.kt i 2 hi (by decide),_,rfl,_,_,_,_,_,rfl,.exc ha (T.ek i hi),rfl,T.kt i 3 hi (by decide),by show 4<=sizeLine;decide,λl n=>k l _ n (L9 n) fC⟩
theorem w1 (T:ExT K mg R c) {i:Nat}(hi:i<17) {a:Addr}{H0:Hp}(ha:H0 a=some (.ext (Ex1 a (c i)))):∃ t,PS (XW P w K mg base f cdv A outer s Hx E) (stW 1) t /\ ∀ D H l xs,Same H0 H->H0 l=none->H l=some (.lst xs)->xs.length<=100 ->
    (∀ p H',H0 p=none->Same H0 H'->H' p=some (.lst (xs++[.bl (decide (i=4)),.bl (decide (i=5)),.bl (decide (i=6)),.bl (decide (i=7))]))->D.nx [some (.ref a),some (.ref p),none] H')->t D [some (.ref a),some (.ref l),none] H:=by
  refine⟨_,mF (i:=1) scWord.nd rfl (Or.inl rfl) (BN oR (pv 1) (lI (fm (fU fT (by rfl) T.inst boot_isinstance (fm (pv 0) (fm (gi (v:=.ref (c 4)) rfl (T.m 4 _ rfl) rfl) fS))) (fm (fU fT (by rfl) T.inst boot_isinstance (fm (pv 0) (fm (gi (v:=.ref (c 5)) rfl (T.m 5 _ rfl) rfl) fS))) (fm (fU fT (by rfl) T.inst boot_isinstance (fm (pv 0) (fm (gi (v:=.ref (c 6)) rfl (T.m 6 _ rfl) rfl) fS))) (fm (fU fT (by rfl) T.inst boot_isinstance (fm (pv 0) (fm (gi (v:=.ref (c 7)) rfl (T.m 7 _ rfl) rfl) fS))) fS)))))),λD H l xs sm hn hl hx k=>?_⟩;have ha':=sm _ _ ha;refine⟨_,rfl,_,rfl,_,_,_,_,_,rfl,.exc ha' (T.ek i hi),rfl,T.kt i 4 hi (by decide),_,rfl,_,_,_,_,_,rfl,.exc ha' (T.ek i hi),rfl,T.kt i 5 hi (by decide),_,rfl,_,_,_,_,_,rfl,.exc ha' (T.ek i hi),rfl,T.kt i 6 hi (by decide),_,rfl,_,_,_,_,_,rfl,.exc ha' (T.ek i hi),rfl,T.kt i 7 hi (by decide),by show 4<=sizeLine;decide,λl2 n2=>?_⟩;refine⟨l,l2,xs,_,rfl,rfl,by rw[fq (fJ hl n2)];exact hl,fC,small1000 (by simp;omega) |> Nat.le_of_lt,λp np=>?_⟩;have m2:H0 l2=none:=sm.free n2;have s2:=iz (o:=.lst [.bl (decide (i=4)),.bl (decide (i=5)),.bl (decide (i=6)),.bl (decide (i=7))]) sm m2;have mp:H0 p=none:=s2.free np;exact k p _ mp (iz s2 mp) fC
theorem w2 (T:ExT K mg R c) {i:Nat}(hi:i<17) {a:Addr}{H0:Hp}(ha:H0 a=some (.ext (Ex1 a (c i)))):∃ t,PS (XW P w K mg base f cdv A outer s Hx E) (stW 2) t /\ ∀ D H l xs,Same H0 H->H0 l=none->H l=some (.lst xs)->xs.length<=100 ->
    (∀ p H',H0 p=none->Same H0 H'->H' p=some (.lst (xs++[.bl (decide (i=8)),.bl (decide (i=9)),.bl (decide (i=10)),.bl (decide (i=11))]))->D.nx [some (.ref a),some (.ref p),none] H')->t D [some (.ref a),some (.ref l),none] H:=by
  refine⟨_,mF (i:=1) scWord.nd rfl (Or.inl rfl) (BN oR (pv 1) (lI (fm (fU fT (by rfl) T.inst boot_isinstance (fm (pv 0) (fm (gi (v:=.ref (c 8)) rfl (T.m 8 _ rfl) rfl) fS))) (fm (fU fT (by rfl) T.inst boot_isinstance (fm (pv 0) (fm (gi (v:=.ref (c 9)) rfl (T.m 9 _ rfl) rfl) fS))) (fm (fU fT (by rfl) T.inst boot_isinstance (fm (pv 0) (fm (gi (v:=.ref (c 10)) rfl (T.m 10 _ rfl) rfl) fS))) (fm (fU fT (by rfl) T.inst boot_isinstance (fm (pv 0) (fm (gi (v:=.ref (c 11)) rfl (T.m 11 _ rfl) rfl) fS))) fS)))))),λD H l xs sm hn hl hx k=>?_⟩;have ha':=sm _ _ ha;refine⟨_,rfl,_,rfl,_,_,_,_,_,rfl,.exc ha' (T.ek i hi),rfl,T.kt i 8 hi (by decide),_,rfl,_,_,_,_,_,rfl,.exc ha' (T.ek i hi),rfl,T.kt i 9 hi (by decide),_,rfl,_,_,_,_,_,rfl,.exc ha' (T.ek i hi),rfl,T.kt i 10 hi (by decide),_,rfl,_,_,_,_,_,rfl,.exc ha' (T.ek i hi),rfl,T.kt i 11 hi (by decide),by show 4<=sizeLine;decide,λl2 n2=>?_⟩;refine⟨l,l2,xs,_,rfl,rfl,by rw[fq (fJ hl n2)];exact hl,fC,small1000 (by simp;omega) |> Nat.le_of_lt,λp np=>?_⟩;have m2:H0 l2=none:=sm.free n2;have s2:=iz (o:=.lst [.bl (decide (i=8)),.bl (decide (i=9)),.bl (decide (i=10)),.bl (decide (i=11))]) sm m2;have mp:H0 p=none:=s2.free np;exact k p _ mp (iz s2 mp) fC
theorem w3 (T:ExT K mg R c) {i:Nat}(hi:i<17) {a:Addr}{H0:Hp}(ha:H0 a=some (.ext (Ex1 a (c i)))):∃ t,PS (XW P w K mg base f cdv A outer s Hx E) (stW 3) t /\ ∀ D H l xs,Same H0 H->H0 l=none->H l=some (.lst xs)->xs.length<=100 ->
    (∀ p H',H0 p=none->Same H0 H'->H' p=some (.lst (xs++[.bl (decide (i=12)),.bl (decide (i=13)),.bl (decide (i=14)),.bl (decide (i=15))]))->D.nx [some (.ref a),some (.ref p),none] H')->t D [some (.ref a),some (.ref l),none] H:=by
  refine⟨_,mF (i:=1) scWord.nd rfl (Or.inl rfl) (BN oR (pv 1) (lI (fm (fU fT (by rfl) T.inst boot_isinstance (fm (pv 0) (fm (gi (v:=.ref (c 12)) rfl (T.m 12 _ rfl) rfl) fS))) (fm (fU fT (by rfl) T.inst boot_isinstance (fm (pv 0) (fm (gi (v:=.ref (c 13)) rfl (T.m 13 _ rfl) rfl) fS))) (fm (fU fT (by rfl) T.inst boot_isinstance (fm (pv 0) (fm (gi (v:=.ref (c 14)) rfl (T.m 14 _ rfl) rfl) fS))) (fm (fU fT (by rfl) T.inst boot_isinstance (fm (pv 0) (fm (gi (v:=.ref (c 15)) rfl (T.m 15 _ rfl) rfl) fS))) fS)))))),λD H l xs sm hn hl hx k=>?_⟩;have ha':=sm _ _ ha;refine⟨_,rfl,_,rfl,_,_,_,_,_,rfl,.exc ha' (T.ek i hi),rfl,T.kt i 12 hi (by decide),_,rfl,_,_,_,_,_,rfl,.exc ha' (T.ek i hi),rfl,T.kt i 13 hi (by decide),_,rfl,_,_,_,_,_,rfl,.exc ha' (T.ek i hi),rfl,T.kt i 14 hi (by decide),_,rfl,_,_,_,_,_,rfl,.exc ha' (T.ek i hi),rfl,T.kt i 15 hi (by decide),by show 4<=sizeLine;decide,λl2 n2=>?_⟩;refine⟨l,l2,xs,_,rfl,rfl,by rw[fq (fJ hl n2)];exact hl,fC,small1000 (by simp;omega) |> Nat.le_of_lt,λp np=>?_⟩;have m2:H0 l2=none:=sm.free n2;have s2:=iz (o:=.lst [.bl (decide (i=12)),.bl (decide (i=13)),.bl (decide (i=14)),.bl (decide (i=15))]) sm m2;have mp:H0 p=none:=s2.free np;exact k p _ mp (iz s2 mp) fC
theorem w4 (T:ExT K mg R c) {i:Nat}(hi:i<17) {a:Addr}{H0:Hp}(ha:H0 a=some (.ext (Ex1 a (c i)))):∃ t,PS (XW P w K mg base f cdv A outer s Hx E) (stW 4) t /\ ∀ D H l xs,Same H0 H->H0 l=none->H l=some (.lst xs)->xs.length<=100 ->
    (∀ H',Same H0 H'->H' l=some (.lst (xs++[.bl (decide (i=16))]))->D.nx [some (.ref a),some (.ref l),none] H')->t D [some (.ref a),some (.ref l),none] H:=by
  refine⟨_,DF (BP PySem.F.plainAttrs_list PySem.F.slot_list_append PySem.F.type_list_append lc (pv 1) (fm (fU fT (by rfl) T.inst boot_isinstance (fm (pv 0) (fm (gi (v:=.ref (c 16)) rfl (T.m 16 _ rfl) rfl) fS))) fS)),λD H l xs sm hn hl hx k=>?_⟩;exact⟨_,rfl,.inl ⟨rfl,_,SqL.of hl⟩,_,rfl,_,_,_,_,_,rfl,.exc (sm _ _ ha) (T.ek i hi),rfl,T.kt i 16 hi (by decide),l,xs,_,rfl,rfl,hl,small1000 (by omega),k _ (iz sm hn) fC⟩
theorem w5 (T:ExT K mg R c) {i:Nat}(hi:i<17) {a:Addr}{H0:Hp}(ha:H0 a=some (.ext (Ex1 a (c i)))):∃ t,PS (XW P w K mg base f cdv A outer s Hx E) (stW 5) t /\ ∀ D H l,Same H0 H->H l=some (.lst (bls i 17)) ->
    D.nx [some (.ref a),some (.ref l),none] H->t D [some (.ref a),some (.ref l),none] H:=by
  refine⟨_,(NX (PW.pt (NW (DM NZ (BP PySem.F.plainAttrs_list PySem.F.slot_list_count PySem.F.type_list_count Ju (pv 1) (fm G0 fS)) mE (nomark _)) (G2 (G3 (G1 (fU fT (by rfl) T.inst boot_isinstance (fm (pv 0) (fm (DB (v:=.ty "ValueError") rfl T.verr GY rfl) fS)))))))) (oo (Bb CZ)) DC),λD H l sm hl k=>?_⟩;refine⟨_,rfl,.inl ⟨rfl,_,SqL.of hl⟩,l,_,_,rfl,rfl,hl,CY i 17,rfl,rfl,_,rfl,?_⟩;rw[GX i hi];refine iteF ?_;exact⟨_,rfl,_,_,_,_,_,rfl,.exc (sm _ _ ha) (T.ek i hi),rfl,T.kv i hi,_,rfl,iteF k⟩
theorem w6 (T:ExT K mg R c) {a:Addr}{H0:Hp}:∃ t,PS (XW P w K mg base f cdv A outer s Hx E) (stW 6) t /\ ∀ D H l,Same H0 H ->
    (∀ l2 H',H l2=none->H'=upd H l2 (.lst ((exWords.take 12).map V.str))->D.nx [some (.ref a),some (.ref l),some (.ref l2)] H')->t D [some (.ref a),some (.ref l),none] H:=by
  have e:∃ p es q r,stW 6=.Assign [.Name "_law_words" p] (.List es q) r /\ es.map txtOf=(exWords.take 12).map some:=⟨_,_,_,_,rfl,rfl⟩;obtain⟨p,es,q,r,h,he⟩:=e;rw[h];refine⟨_,mF (i:=2) (x:="_law_words") scWord.nd rfl (Or.inl rfl) (lI (Bk he)) (Dz _ _ _ _),λD H l sm k=>?_⟩;exact⟨by decide,λl2 n2=>k l2 _ n2 rfl⟩
theorem w7 (T:ExT K mg R c) {i:Nat}(hi:i<17) {a:Addr}{H0:Hp}:∃ t,PS (XW P w K mg base f cdv A outer s Hx E) (stW 7) t /\ ∀ D H l l2,Same H0 H->H l=some (.lst (bls i 17))->H l2=some (.lst ((exWords.take 12).map V.str)) ->
    (∀ H',Same H0 H'->D.rt (.str (wordOf i)) H')->t D [some (.ref a),some (.ref l),some (.ref l2)] H:=by
  refine⟨_,(Bb (Ji Be (BN oR (pv 2) (lI (Bk (xs:=exWords.drop 12) rfl))) (BP PySem.F.plainAttrs_list PySem.F.slot_list_index PySem.F.type_list_index BW (pv 1) (fm G0 fS)) (λ_ _=>rfl))),λD H l l2 sm hl h2 k=>?_⟩;refine⟨_,rfl,by decide,λl3 n3=>?_⟩;refine⟨l2,l3,_,_,rfl,rfl,by rw[fq (fJ h2 n3)];exact h2,fC,by decide,λp np=>?_⟩;have m3:H0 l3=none:=sm.free n3;have s3:=iz (o:=.lst ((exWords.drop 12).map V.str)) sm m3;have mp:H0 p=none:=s3.free np;have lp:l≠p:=by
    intro z;rw[<-z,fq (fJ hl n3),hl]at np;cases np
  have hl':(upd (upd H l3 (.lst ((exWords.drop 12).map V.str))) p (.lst ((exWords.take 12).map V.str++(exWords.drop 12).map V.str))) l=some (.lst (bls i 17)):=by rw[fq lp,fq (fJ hl n3)];exact hl
  refine⟨_,rfl,.inl ⟨rfl,_,SqL.of hl'⟩,l,_,_,i,rfl,rfl,hl',CY i 17,rfl,?_,?_,?_,p,_,_,_,rfl,rfl,SqL.of fC,Mm (j:=i) (v:=.str (wordOf i)) ?_,k _ (iz s3 mp)⟩
  . exact hi
  . intro z e;rw[Ri i hi]at e;cases e;rfl
  . intro m z hm e;rw[Rj i hi m hm]at e;cases e;rfl
  . have:∀ i,i<17->((exWords.take 12).map V.str++(exWords.drop 12).map V.str)[i]?=some (.str (wordOf i)):=by decide
    exact this i hi
theorem bodyW:gj sWord=[stW 0,stW 1,stW 2,stW 3,stW 4,stW 5,stW 6,stW 7]:=rfl
end
section
variable {P : Program} {w : World} {K : Frag} {mg : Str -> Option Value} {base : Heap} {R : Addr} {c : Nat -> Addr} {f : Addr}
theorem bls17 (i:Nat):(([.bl (decide (i=0)),.bl (decide (i=1)),.bl (decide (i=2)),.bl (decide (i=3))]++[.bl (decide (i=4)),.bl (decide (i=5)),.bl (decide (i=6)),.bl (decide (i=7))]++[.bl (decide (i=8)),.bl (decide (i=9)),.bl (decide (i=10)),.bl (decide (i=11))]++[.bl (decide (i=12)),.bl (decide (i=13)),.bl (decide (i=14)),.bl (decide (i=15))]++[.bl (decide (i=16))]:List V))=bls i 17:=rfl
theorem NV {fd:FuncData}(F:Fun K "_law_word" "_law_word" sWord f fd) (T:ExT K mg R c):FnOkH P w K mg base CX0 1 f fd ["_law_e"] (spWord c):=by
  refine F.okH scWord (λvs H Q E h=>?_) (λcdv A outer s H vs Q E hr h=>?_)
  . obtain⟨a,i,rfl,_⟩:=h;rfl
  . obtain⟨a,i,rfl,hi,ha,q⟩:=h;rw[bodyW];obtain⟨t0,p0,r0⟩:=w0 (P:=P) (w:=w) (K:=K) (mg:=mg) (base:=base) (f:=f) (cdv:=cdv) (A:=A) (outer:=outer) (s:=s) (Hx:=H) (E:=E) T hi ha;obtain⟨t1,p1,r1⟩:=w1 (P:=P) (w:=w) (K:=K) (mg:=mg) (base:=base) (f:=f) (cdv:=cdv) (A:=A) (outer:=outer) (s:=s) (Hx:=H) (E:=E) T hi ha;obtain⟨t2,p2,r2⟩:=w2 (P:=P) (w:=w) (K:=K) (mg:=mg) (base:=base) (f:=f) (cdv:=cdv) (A:=A) (outer:=outer) (s:=s) (Hx:=H) (E:=E) T hi ha;obtain⟨t3,p3,r3⟩:=w3 (P:=P) (w:=w) (K:=K) (mg:=mg) (base:=base) (f:=f) (cdv:=cdv) (A:=A) (outer:=outer) (s:=s) (Hx:=H) (E:=E) T hi ha;obtain⟨t4,p4,r4⟩:=w4 (P:=P) (w:=w) (K:=K) (mg:=mg) (base:=base) (f:=f) (cdv:=cdv) (A:=A) (outer:=outer) (s:=s) (Hx:=H) (E:=E) T hi ha;obtain⟨t5,p5,r5⟩:=w5 (P:=P) (w:=w) (K:=K) (mg:=mg) (base:=base) (f:=f) (cdv:=cdv) (A:=A) (outer:=outer) (s:=s) (Hx:=H) (E:=E) T hi ha;obtain⟨t6,p6,r6⟩:=w6 (P:=P) (w:=w) (K:=K) (mg:=mg) (base:=base) (f:=f) (cdv:=cdv) (A:=A) (outer:=outer) (s:=s) (Hx:=H) (E:=E) (a:=a) (H0:=H) T;obtain⟨t7,p7,r7⟩:=w7 (P:=P) (w:=w) (K:=K) (mg:=mg) (base:=base) (f:=f) (cdv:=cdv) (A:=A) (outer:=outer) (s:=s) (Hx:=H) (E:=E) (a:=a) (H0:=H) T hi;generalize stW 0=x0 at p0 ⊢;generalize stW 1=x1 at p1 ⊢;generalize stW 2=x2 at p2 ⊢;generalize stW 3=x3 at p3 ⊢;generalize stW 4=x4 at p4 ⊢;generalize stW 5=x5 at p5 ⊢;generalize stW 6=x6 at p6 ⊢;generalize stW 7=x7 at p7 ⊢;refine⟨_,iA p0 (iA p1 (iA p2 (iA p3 (iA p4 (iA p5 (iA p6 (oo p7))))))),?_⟩;refine r0 _ λl1 H1 n1 s1 e1=>?_;refine r1 _ _ _ _ s1 n1 e1 (by simp) λl2 H2 n2 s2 e2=>?_;refine r2 _ _ _ _ s2 n2 e2 (by simp) λl3 H3 n3 s3 e3=>?_;refine r3 _ _ _ _ s3 n3 e3 (by simp) λl4 H4 n4 s4 e4=>?_;refine r4 _ _ _ _ s4 n4 e4 (by simp) λH5 s5 e5=>?_;have e5':H5 l4=some (.lst (bls i 17)):=by rw[<-bls17 i];exact e5
    refine r5 _ _ _ s5 e5' ?_;refine r6 _ _ _ s5 λl6 H6 n6 e6=>?_;subst e6;have m6:H l6=none:=s5.free n6;refine r7 _ _ _ _ (iz s5 m6) (by rw[fq (fJ e5' n6)];exact e5') fC λH7 s7=>q H7 s7
end
end K53.Wd
namespace K53
open PySem L2 L2.DL PySem.W PyProof.Rows
theorem Rk {l:PySem.W.OpenLaw}{w:World}{K:Frag}{h:Heap}{mg:Str->Option Value}{fa:Addr}(X:K.In h) (G:h.Ns mainGlobals mg) (hfa:mg "law"=some (.ref fa))
    (z0:noneChk K tx.bl=true) (g0:glChk K tx.gl=true) (y1:tysChk K=true)
    (d0:DIn K "_law_pot" (top 48))
    (d1:DIn K "_law_take" (top 49))
    (d2:DIn K "_law_house" (top 53))
    (d3:DIn K "_law_cell_at" (top 47))
    (d4:DIn K "_law_moves" (top 55))
    (d5:DIn K "_law_odd" (top 51))
    (d6:DIn K "_law_whole" (top 50))
    (d7:DIn K "_law_bent" (top 52))
    (d8:DIn K "_law_drawn" (top 61))
    (d9:DIn K "_law_is_ring" (top 57))
    (d10:DIn K "_law_lists" (top 62))
    (d11:DIn K "_law_are_rings" (top 59))
    (d12:DIn K "_law_lots" (top 56))
    (d13:DIn K "_law_wanted" (top 58))
    (d14:DIn K "is_tuple" (top 22))
    (d15:DIn K "is_whole" (top 20))
    (d16:DIn K "is_within" (top 21))
    (d17:DIn K "are_rooms" (top 28))
    (d18:DIn K "are_rates" (top 31))
    (d19:DIn K "is_kind" (top 30))
    (d20:DIn K "are_kinds" (top 29))
    (d21:DIn K "is_rising" (top 23))
    (d22:DIn K "is_pair_apart" (top 33))
    (d23:DIn K "are_apart" (top 32))
    (d24:DIn K "is_house" (top 27))
    (d25:DIn K "need_house" (top 34))
    (d26:DIn K "is_room" (top 35))
    (d27:DIn K "is_move" (top 42))
    (d28:DIn K "are_moves" (top 41))
    (d29:DIn K "need_moves" (top 40))
    (d30:DIn K "need_number" (top 24))
    (d31:DIn K "is_ring" (top 43))
    (d32:DIn K "meets" (top 45))
    (d33:DIn K "fewest_of_each" (top 44))
    (d34:DIn K "are_rings" (top 39))
    (d35:DIn K "_law_told" (top 60))
    (d36:DIn K "law" (top 63))
    {R c0 c1 c2 c3 c4 c5 c6 c7 c8 c9 c10 c11 c12 c13 c14 c15 c16:Addr}
    (eR:nsIn K mainGlobals "RimeError"=some (some (.ref R)))
    (e0:nsIn K mainGlobals "NoHouse"=some (some (.ref c0)))
    (e1:nsIn K mainGlobals "NoOuts"=some (some (.ref c1)))
    (e2:nsIn K mainGlobals "NoRoom"=some (some (.ref c2)))
    (e3:nsIn K mainGlobals "NoHour"=some (some (.ref c3)))
    (e4:nsIn K mainGlobals "NoPages"=some (some (.ref c4)))
    (e5:nsIn K mainGlobals "NoLot"=some (some (.ref c5)))
    (e6:nsIn K mainGlobals "NoAsks"=some (some (.ref c6)))
    (e7:nsIn K mainGlobals "NoNumber"=some (some (.ref c7)))
    (e8:nsIn K mainGlobals "NoMoves"=some (some (.ref c8)))
    (e9:nsIn K mainGlobals "NoEach"=some (some (.ref c9)))
    (e10:nsIn K mainGlobals "NoOrder"=some (some (.ref c10)))
    (e11:nsIn K mainGlobals "NoPage"=some (some (.ref c11)))
    (e12:nsIn K mainGlobals "NoOut"=some (some (.ref c12)))
    (e13:nsIn K mainGlobals "Twice"=some (some (.ref c13)))
    (e14:nsIn K mainGlobals "Missing"=some (some (.ref c14)))
    (e15:nsIn K mainGlobals "TooMany"=some (some (.ref c15)))
    (e16:nsIn K mainGlobals "NoDeed"=some (some (.ref c16)))
    (zi:nsIn K mainGlobals "isinstance"=some none) (zv:nsIn K mainGlobals "ValueError"=some none)
    (h1:([c0,c1,c2,c3,c4,c5,c6,c7,c8,c9,c10,c11,c12,c13,c14,c15,c16]:List Addr).all (chk1 K R)=true) (h2:chk2 K ([c0,c1,c2,c3,c4,c5,c6,c7,c8,c9,c10,c11,c12,c13,c14,c15,c16]:List Addr)=true) (h3:chk3 K R=true)
    {fW:Addr}{odW anW:Option Addr}{slW:Array (Option Value)}{ocW kVW dcW pmW cdW ctW:Value}(aW:nsIn K mainGlobals "_law_word"=some (some (.ref fW))) (lW:K.lookup fW=some ⟨ocW,odW,.func (fnOf "_law_word" "_law_word" (iE Wd.sWord) (gj Wd.sWord) (fu Wd.sWord) .none kVW dcW pmW anW cdW ctW),slW⟩) (gW:codeIn K cdW "_law_word"=true) (kW:keepIn K (.ref fW)=true) :
    ∃ (cl:Nat->Addr) (fd:FuncData),(∀ (s:Shared) (u:Value),BindsTo s fd ⟨[u],[]⟩ [("_law_script",u)]) /\ ∀ base:Heap,K.In base->base.Ns mainGlobals mg->FnOk l.prog w K mg base (CXr l.prog w) 49 fa fd ["_law_script"] (spD cl 1 K53.BF):=by
  have D0:=fO ["_law_cell"] X G d0 λ_ _ _ _ _ _ us hl=>match us,hl with|[_],_=>rfl
  have D1:=fO ["_law_pot_here", "_law_far"] X G d1 λ_ _ _ _ _ _ us hl=>match us,hl with|[_,_],_=>rfl
  have D2:=fO ["_law_pot_here"] X G d2 λ_ _ _ _ _ _ us hl=>match us,hl with|[_],_=>rfl
  have D3:=fO ["_law_script", "_law_k"] X G d3 λ_ _ _ _ _ _ us hl=>match us,hl with|[_,_],_=>rfl
  have D4:=fO ["_law_pot_here", "_law_house_here"] X G d4 λ_ _ _ _ _ _ us hl=>match us,hl with|[_,_],_=>rfl
  have D5:=fO ["_law_pot_here"] X G d5 λ_ _ _ _ _ _ us hl=>match us,hl with|[_],_=>rfl
  have D6:=fO ["_law_thing"] X G d6 λ_ _ _ _ _ _ us hl=>match us,hl with|[_],_=>rfl
  have D7:=fO ["_law_pot_here", "_law_thing"] X G d7 λ_ _ _ _ _ _ us hl=>match us,hl with|[_,_],_=>rfl
  have D8:=fO ["_law_pot_here", "_law_moves_here"] X G d8 λ_ _ _ _ _ _ us hl=>match us,hl with|[_,_],_=>rfl
  have D9:=fO ["_law_moves_here", "_law_thing"] X G d9 λ_ _ _ _ _ _ us hl=>match us,hl with|[_,_],_=>rfl
  have D10:=fO ["_law_pot_here", "_law_moves_here"] X G d10 λ_ _ _ _ _ _ us hl=>match us,hl with|[_,_],_=>rfl
  have D11:=fO ["_law_moves_here", "_law_thing"] X G d11 λ_ _ _ _ _ _ us hl=>match us,hl with|[_,_],_=>rfl
  have D12:=fO ["_law_rooms"] X G d12 λ_ _ _ _ _ _ us hl=>match us,hl with|[_],_=>rfl
  have D13:=fO ["_law_house_here", "_law_rings"] X G d13 λ_ _ _ _ _ _ us hl=>match us,hl with|[_,_],_=>rfl
  have D14:=fO ["thing", "fewest", "most"] X G d14 λ_ _ _ _ _ _ us hl=>match us,hl with|[_,_,_],_=>rfl
  have D15:=fO ["thing"] X G d15 λ_ _ _ _ _ _ us hl=>match us,hl with|[_],_=>rfl
  have D16:=fO ["thing", "least", "greatest"] X G d16 λ_ _ _ _ _ _ us hl=>match us,hl with|[_,_,_],_=>rfl
  have D17:=fO ["thing"] X G d17 λ_ _ _ _ _ _ us hl=>match us,hl with|[_],_=>rfl
  have D18:=fO ["thing"] X G d18 λ_ _ _ _ _ _ us hl=>match us,hl with|[_],_=>rfl
  have D19:=fO ["thing"] X G d19 λ_ _ _ _ _ _ us hl=>match us,hl with|[_],_=>rfl
  have D20:=fO ["thing"] X G d20 λ_ _ _ _ _ _ us hl=>match us,hl with|[_],_=>rfl
  have D21:=fO ["things"] X G d21 λ_ _ _ _ _ _ us hl=>match us,hl with|[_],_=>rfl
  have D22:=fO ["thing", "many"] X G d22 λ_ _ _ _ _ _ us hl=>match us,hl with|[_,_],_=>rfl
  have D23:=fO ["thing", "many"] X G d23 λ_ _ _ _ _ _ us hl=>match us,hl with|[_,_],_=>rfl
  have D24:=fO ["thing"] X G d24 λ_ _ _ _ _ _ us hl=>match us,hl with|[_],_=>rfl
  have D25:=fO ["thing"] X G d25 λ_ _ _ _ _ _ us hl=>match us,hl with|[_],_=>rfl
  have D26:=fO ["house", "thing"] X G d26 λ_ _ _ _ _ _ us hl=>match us,hl with|[_,_],_=>rfl
  have D27:=fO ["house", "thing"] X G d27 λ_ _ _ _ _ _ us hl=>match us,hl with|[_,_],_=>rfl
  have D28:=fO ["house", "thing"] X G d28 λ_ _ _ _ _ _ us hl=>match us,hl with|[_,_],_=>rfl
  have D29:=fO ["house", "thing"] X G d29 λ_ _ _ _ _ _ us hl=>match us,hl with|[_,_],_=>rfl
  have D30:=fO ["thing"] X G d30 λ_ _ _ _ _ _ us hl=>match us,hl with|[_],_=>rfl
  have D31:=fO ["house", "moves", "thing"] X G d31 λ_ _ _ _ _ _ us hl=>match us,hl with|[_,_,_],_=>rfl
  have D32:=fO ["rooms", "ring"] X G d32 λ_ _ _ _ _ _ us hl=>match us,hl with|[_,_],_=>rfl
  have D33:=fO ["house", "rings"] X G d33 λ_ _ _ _ _ _ us hl=>match us,hl with|[_,_],_=>rfl
  have D34:=fO ["house", "moves", "many", "thing"] X G d34 λ_ _ _ _ _ _ us hl=>match us,hl with|[_,_,_,_],_=>rfl
  have D35:=fO ["_law_house_here", "_law_moves_here", "_law_many", "_law_thing"] X G d35 λ_ _ _ _ _ _ us hl=>match us,hl with|[_,_,_,_],_=>rfl
  have D36:=fO ["_law_script"] X G d36 λ_ _ _ _ _ _ us hl=>match us,hl with|[_],_=>rfl
  have DD:AllDef K mg r37:=⟨D36,⟨D35,⟨D34,⟨D33,⟨D32,⟨D31,⟨D30,⟨D29,⟨D28,⟨D27,⟨D26,⟨D25,⟨D24,⟨D23,⟨D22,⟨D21,⟨D20,⟨D19,⟨D18,⟨D17,⟨D16,⟨D15,⟨D14,⟨D13,⟨D12,⟨D11,⟨D10,⟨D9,⟨D8,⟨D7,⟨D6,⟨D5,⟨D4,⟨D3,⟨D2,⟨D1,⟨D0,trivial⟩⟩⟩⟩⟩⟩⟩⟩⟩⟩⟩⟩⟩⟩⟩⟩⟩⟩⟩⟩⟩⟩⟩⟩⟩⟩⟩⟩⟩⟩⟩⟩⟩⟩⟩⟩⟩;refine NU (λi=>([c0,c1,c2,c3,c4,c5,c6,c7,c8,c9,c10,c11,c12,c13,c14,c15,c16]:List Addr).getD i 0) hfa D36 (λfd f F s u=>?_) λbase _ _=>?_
  . obtain⟨⟨oc,od,kV,doc,pm,an,cdv,ct,osl,rfl,_,_⟩,_⟩:=F;exact .of_eq rfl
  . have ext:ExT K mg R (λi=>([c0,c1,c2,c3,c4,c5,c6,c7,c8,c9,c10,c11,c12,c13,c14,c15,c16]:List Addr).getD i 0):=Rf X G rfl eR (λi x hx=>by
      match i,hx with
      |0,hx=>cases hx;exact e0
      |1,hx=>cases hx;exact e1
      |2,hx=>cases hx;exact e2
      |3,hx=>cases hx;exact e3
      |4,hx=>cases hx;exact e4
      |5,hx=>cases hx;exact e5
      |6,hx=>cases hx;exact e6
      |7,hx=>cases hx;exact e7
      |8,hx=>cases hx;exact e8
      |9,hx=>cases hx;exact e9
      |10,hx=>cases hx;exact e10
      |11,hx=>cases hx;exact e11
      |12,hx=>cases hx;exact e12
      |13,hx=>cases hx;exact e13
      |14,hx=>cases hx;exact e14
      |15,hx=>cases hx;exact e15
      |16,hx=>cases hx;exact e16
      |n+17,hx=>simp[exNames]at hx) zi zv h1 h2 h3
    have hw:HasW l.prog w K mg base (λi=>([c0,c1,c2,c3,c4,c5,c6,c7,c8,c9,c10,c11,c12,c13,c14,c15,c16]:List Addr).getD i 0):=by
      have F:=C8 (st:=Wd.sWord) lW gW kW;exact⟨fW,_,Wd.NV F ext,mg_of X G aW,kW,F.binds (ps:=["_law_e"]) λ_ _ _ _ _ _ us hl=>match us,hl with|[_],_=>rfl⟩
    exact FU (Sh X G z0 g0 y1 (λ_=>⟨R,ext⟩) (λ_=>hw)) r37 Rg Rh (Ba DD) i36 (List.mem_cons_self ..)
end K53
open PySem PySem.W PyProof.Rows
namespace PySem.W.Fast
def tw10162615476067386345:=()
def tw10207953823543051672:=()
def tw10454775736694958359:=()
def tw11075755402484808471:=()
def tw11247451362841455960:=()
def tw11319704648871402921:=()
def tw11535687138108757022:=()
def tw11615055016731019250:=()
def tw11624600067916518689:=()
def tw11861834710017562820:=()
def tw1197578180430663383:=()
def tw12044029449148451728:=()
def tw12313248852441052131:=()
def tw1239101621761495779:=()
def tw12516067971499084550:=()
def tw12976980505610340567:=()
def tw13215376344260210206:=()
def tw13307133486276003386:=()
def tw13367372824216474240:=()
def tw13436335458704406699:=()
def tw1351881238917202679:=()
def tw1355017241814639166:=()
def tw13581865088186591263:=()
def tw1375040534316550943:=()
def tw14070611826981889925:=()
def tw14377213826337938328:=()
def tw143787649284979183:=()
def tw14504908402227444036:=()
def tw14760033276846379256:=()
def tw14948450902537987753:=()
def tw14964815659100511788:=()
def tw15277502684989984684:=()
def tw15396310515875619099:=()
def tw16049695651169903889:=()
def tw16194665040382894045:=()
def tw16209167755662431953:=()
def tw16242559733587512600:=()
def tw16274433174793963896:=()
def tw16317751490954464014:=()
def tw16413979112036462155:=()
def tw16491890571584937771:=()
def tw16688195366462544701:=()
def tw16766917974938569883:=()
def tw1687222897704791497:=()
def tw16943947071200739945:=()
def tw17080293594471133532:=()
def tw17155041418336308892:=()
def tw17240149625400907732:=()
def tw17327723653162182466:=()
def tw17339184489714202152:=()
def tw17376970917255073657:=()
def tw17476468600730383267:=()
def tw17508981162036308107:=()
def tw17705574447084868882:=()
def tw17837716620099132590:=()
def tw17881210542509349627:=()
def tw1791766843114577664:=()
def tw180663774370399342:=()
def tw18177810812664164148:=()
def tw18215087430039181863:=()
def tw18223479296307954110:=()
def tw18401953572523478970:=()
def tw1974921428433381932:=()
def tw1993225997791464860:=()
def tw2089468301743621015:=()
def tw2154906123635595683:=()
def tw2225665118696936730:=()
def tw2297870949527106383:=()
def tw2303047637465319117:=()
def tw2375020773579610304:=()
def tw2460011013590087722:=()
def tw2511271962153510787:=()
def tw2841129902654024420:=()
def tw3009746458496257751:=()
def tw3030786492071364251:=()
def tw3319771646748605405:=()
def tw3357502291945566934:=()
def tw3432607389492660825:=()
def tw3470732269796768666:=()
def tw3591094673521336845:=()
def tw3637795458414636775:=()
def tw3702722534569667060:=()
def tw376688978238487408:=()
def tw3815438716306721854:=()
def tw3931039204677683235:=()
def tw3955880807970339033:=()
def tw3957393601424652714:=()
def tw399457631573310831:=()
def tw3998666161317498749:=()
def tw4007669091667148011:=()
def tw4093893717303147988:=()
def tw4126631096566580969:=()
def tw4271261356756891491:=()
def tw4315434744957062132:=()
def tw4493889850380961186:=()
def tw477164047230044482:=()
def tw5038024435774442437:=()
def tw5069416468292171336:=()
def tw5203287558810564413:=()
def tw5291284973619317876:=()
def tw5332321029051938359:=()
def tw5426759779238984897:=()
def tw5571853502053118577:=()
def tw656386314362414351:=()
def tw6793926434045872673:=()
def tw6981088311601950185:=()
def tw7226230590060998397:=()
def tw7274284070702525430:=()
def tw7399534231206727534:=()
def tw7787075262474888781:=()
def tw7933233718638263508:=()
def tw8184285113115580687:=()
def tw8264626628492547498:=()
def tw8392651702139175426:=()
def tw8839907260316341112:=()
def tw9359171299606373434:=()
def tw975458498023192448:=()
end PySem.W.Fast
open_top hdk53 for PySem.Challenge.rw_rimehold_k53_rings_looked_at

set_option maxRecDepth 100000 in
set_option maxHeartbeats 0 in
theorem PySem.Challenge.cw_rimehold_k53_rings_looked_at_holds : PySem.Challenge.rw_rimehold_k53_rings_looked_at.Holds :=
  hdk53 (by
  k_fill
  refine L2.DL.walk_d (l:=PySem.Challenge.rw_rimehold_k53_rings_looked_at) (k:=49) (fn:=K53.BF) ⟨rfl,by decide,by decide,rfl⟩ rfl rfl (λw h Y=>PySem.W.kIn_of Y) ?kq_nl (λns h=>K53.law_true ns (by omega)) ?kq_F
  case kq_nl =>
    intro w;kernel_rfl
  case kq_F =>
    intro w mg fa h KX G hmg
    refine' K53.Rk KX G hmg ?kq_z0 ?kq_g0 ?kq_y1 ?_ ?_ ?_ ?_ ?_ ?_ ?_ ?_ ?_ ?_ ?_ ?_ ?_ ?_ ?_ ?_ ?_ ?_ ?_ ?_ ?_ ?_ ?_ ?_ ?_ ?_ ?_ ?_ ?_ ?_ ?_ ?_ ?_ ?_ ?_ ?_ ?_ ?kq_eR ?kq_e0 ?kq_e1 ?kq_e2 ?kq_e3 ?kq_e4 ?kq_e5 ?kq_e6 ?kq_e7 ?kq_e8 ?kq_e9 ?kq_e10 ?kq_e11 ?kq_e12 ?kq_e13 ?kq_e14 ?kq_e15 ?kq_e16 ?kq_zi ?kq_zv ?kq_h1 ?kq_h2 ?kq_h3 ?kq_aW ?kq_lW ?kq_gW ?kq_kW
    any_goals exact L2.DL.dIn_mk (by k_is) (by k_is) (by k_is) (by k_is)
    (case kq_z0=>kernel_rfl)
    (case kq_g0=>kernel_rfl)
    (case kq_y1=>kernel_rfl)
    (case kq_eR=>k_is)
    (case kq_e0=>k_is)
    (case kq_e1=>k_is)
    (case kq_e2=>k_is)
    (case kq_e3=>k_is)
    (case kq_e4=>k_is)
    (case kq_e5=>k_is)
    (case kq_e6=>k_is)
    (case kq_e7=>k_is)
    (case kq_e8=>k_is)
    (case kq_e9=>k_is)
    (case kq_e10=>k_is)
    (case kq_e11=>k_is)
    (case kq_e12=>k_is)
    (case kq_e13=>k_is)
    (case kq_e14=>k_is)
    (case kq_e15=>k_is)
    (case kq_e16=>k_is)
    (case kq_zi=>k_is)
    (case kq_zv=>k_is)
    (case kq_h1=>kernel_rfl)
    (case kq_h2=>kernel_rfl)
    (case kq_h3=>kernel_rfl)
    (case kq_aW=>k_is)
    (case kq_lW=>k_is)
    (case kq_gW=>k_is)
    (case kq_kW=>k_is)
  )
