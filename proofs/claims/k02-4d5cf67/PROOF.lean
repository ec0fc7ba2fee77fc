import PyProof.Rows.All
import Wide.All
import OpenK.AllK
import Wide.FinOn
import Lean
import PyProof.EqAt
import PyProof.EqKinds
import PyProof.TupleCall
import PyProof.Walks
import PyProof.ListMulRoad
import PyProof.ReprRoads
import PyProof.ZipIter
import PyProof.Draws
import PyProof.TupleIter
import PyProof.CompUse
import PyProof.ListRange
import PySem.Challenge.RW_rimehold_k02_outs_and_colds
set_option Elab.async false
set_option linter.all false
set_option maxRecDepth 100000
namespace L2
open PySem PySem.Spec PyProof.Rows
noncomputable abbrev Key:=Sum Int Str
noncomputable def keyIs:Key->Value->Bool
  | .inl k,v=>Value.isInt k v
  | .inr x,v=>Value.isStrOf x v
noncomputable def keyH (w:World):Key->Int
  | .inl k=>hashInt k
  | .inr x=>hashStr w x
theorem gO:∀ {k:Key}{v:Value},keyIs k v=true->(∃ i t,k=Sum.inl i /\ v=Value.int i t) \/ (∃ x t,k=Sum.inr x /\ v=Value.str x t)
  | .inl i,v,h=>by
    obtain ⟨t,e⟩:=Value.isInt_shape (k:=i) (v:=v) h
    exact .inl ⟨i,t,rfl,e⟩
  | .inr x,v,h=>by
    obtain ⟨t,e⟩:=Value.isStrOf_shape (x:=x) (v:=v) h
    exact .inr ⟨x,t,rfl,e⟩
theorem G5 (i:Int) (t:Tok):keyIs (.inl i) (.int i t)=true:=by simp [keyIs,Value.isInt]
theorem G6 (x:Str) (t:Tok):keyIs (.inr x) (.str x t)=true:=by simp [keyIs,Value.isStrOf]
theorem Nn (a b:Int):decide ((Sum.inl a:Key)=Sum.inl b)=(a == b):=by
  by_cases e:a=b
  . subst e;simp
  . have h:¬ (Sum.inl a:Key)=Sum.inl b:=fun q=>e (Sum.inl.inj q)
    rw [decide_eq_false h]
    exact (beq_eq_false_iff_ne.mpr e).symm
theorem No (a b:Str):decide ((Sum.inr a:Key)=Sum.inr b)=decide (a=b):=by
  by_cases e:a=b
  . subst e;simp
  . have h:¬ (Sum.inr a:Key)=Sum.inr b:=fun q=>e (Sum.inr.inj q)
    rw [decide_eq_false h,decide_eq_false e]
theorem Np (a:Int) (b:Str):decide ((Sum.inl a:Key)=Sum.inr b)=false:=decide_eq_false (fun q=>nomatch q)
theorem Nq (a:Str) (b:Int):decide ((Sum.inr a:Key)=Sum.inl b)=false:=decide_eq_false (fun q=>nomatch q)
noncomputable def mixKind (prog:Program) (w:World):PySem.KeyKind prog w Key where
  is:=keyIs
  hash:=keyH w
  inj:=fun v a b ha hb=>by
    rcases gO ha with ⟨i,t,rfl,rfl⟩ | ⟨x,t,rfl,rfl⟩
    . rcases gO hb with ⟨j,u,rfl,e⟩ | ⟨y,u,rfl,e⟩
      . injection e with e1 _;rw [e1]
      . exact nomatch e
    . rcases gO hb with ⟨j,u,rfl,e⟩ | ⟨y,u,rfl,e⟩
      . exact nomatch e
      . injection e with e1 _;rw [e1]
  byValue:=fun k v h=>by
    rcases gO h with ⟨i,t,rfl,rfl⟩ | ⟨x,t,rfl,rfl⟩ <;> rfl
  pyHash:=fun hv h=>by
    rcases gO hv with ⟨i,t,rfl,rfl⟩ | ⟨x,t,rfl,rfl⟩
    . exact wpAny_pyHash_int h
    . exact wpAny_pyHash_str h
  eqBool:=fun hu hv h=>by
    rcases gO hu with ⟨i,t,rfl,rfl⟩ | ⟨x,t,rfl,rfl⟩
    . rcases gO hv with ⟨j,u,rfl,rfl⟩ | ⟨y,u,rfl,rfl⟩
      . rw [Nn] at h;exact wpAny_eqBool_int h
      . rw [Np] at h;exact SeqAt.EqAt.int_str i t y u _ _ _ _ h
    . rcases gO hv with ⟨j,u,rfl,rfl⟩ | ⟨y,u,rfl,rfl⟩
      . rw [Nq] at h;exact SeqAt.EqAt.str_int x t j u _ _ _ _ h
      . rw [No] at h;exact wpAny_eqBool_str h
  «strs»:=fun k x t v h=>by
    rcases gO h with ⟨i,u,rfl,e⟩ | ⟨y,u,rfl,e⟩
    . exact nomatch e
    . injection e with e1 _
      subst e1
      cases v <;> rfl
theorem Dz (prog:Program) (w:World) (i:Int) (t:Tok):(mixKind prog w).is (.inl i) (.int i t)=true:=G5 i t
theorem DA (prog:Program) (w:World) (x:Str) (t:Tok):(mixKind prog w).is (.inr x) (.str x t)=true:=G6 x t
end L2
namespace L2
open PySem PySem.Spec PyProof.Rows
inductive V where
  | non | bl (b:Bool) | int (i:Int) | str (x:Str) | byt (b:Array UInt8) | flt (b:UInt64) | ref (a:Addr) | ty (n:String)
  deriving DecidableEq
noncomputable def RelV:V->Value->Prop
  | .non,u=>u=Value.none
  | .bl b,u=>u=Value.bool b
  | .int i,u=>∃ t,u=Value.int i t
  | .str x,u=>∃ t,u=Value.str x t
  | .byt b,u=>∃ t,u=Value.bytes b t
  | .flt b,u=>∃ t,u=Value.float b t
  | .ref a,u=>u=Value.ref a
  | .ty n,u=>u=Value.type n
noncomputable abbrev Vals:List V->List Value->Prop:=Paired RelV
theorem Vals.length {xs:List V}{us:List Value} (r:Vals xs us):xs.length=us.length:=Paired.length r
theorem Vals.get:∀ {xs:List V}{us:List Value}{i:Nat}{x:V},Vals xs us->xs[i]?=some x->∃ u,us[i]?=some u /\ RelV x u
  | _,_,_,_,.nil,e=>by simp at e
  | _,_,0,_,.cons r _,e=>by simp at e;subst e;exact ⟨_,rfl,r⟩
  | _,_,i + 1,x,.cons _ t,e=>by
    obtain ⟨u,h1,h2⟩:=Vals.get (i:=i) (x:=x) t (by simpa using e)
    exact ⟨u,by simpa using h1,h2⟩
theorem Vals.set {x:V}{u:Value} (r:RelV x u):∀ {xs:List V}{us:List Value} (i:Nat),Vals xs us->Vals (xs.set i x) (us.set i u)
  | _,_,_,.nil=>.nil
  | _,_,0,.cons _ t=>.cons r t
  | _,_,i + 1,.cons q t=>.cons q (Vals.set r i t)
theorem Vals.append:∀ {xs ys:List V}{us ws:List Value},Vals xs us->Vals ys ws->Vals (xs ++ ys) (us ++ ws)
  | _,_,_,_,.nil,s=>s
  | _,_,_,_,.cons r t,s=>.cons r (Vals.append t s)
theorem Vals.take:∀ {xs:List V}{us:List Value} (n:Nat),Vals xs us->Vals (xs.take n) (us.take n)
  | _,_,0,_=>.nil
  | _,_,_ + 1,.nil=>.nil
  | _,_,n + 1,.cons r t=>.cons r (Vals.take n t)
theorem Vals.drop:∀ {xs:List V}{us:List Value} (n:Nat),Vals xs us->Vals (xs.drop n) (us.drop n)
  | _,_,0,r=>r
  | _,_,_ + 1,.nil=>.nil
  | _,_,n + 1,.cons _ t=>Vals.drop n t
noncomputable def RelO:Option V->Option Value->Prop
  | some v,some u=>RelV v u
  | none,none=>True
  | _,_=>False
noncomputable def KV {κ:Type}:List (κ × V)->List (κ × Value)->Prop:=Paired fun (p:κ × V) (q:κ × Value)=>p.1=q.1 /\ RelV p.2 q.2
noncomputable def kV:Key->V
  | .inl i=>.int i
  | .inr x=>.str x
inductive HO where
  /-- a list -/
  | lst (xs:List V)
  /-- a tuple (never changes) -/
  | tup (xs:List V)
  /-- a dict whose keys are ints and texts;one whose keys are tuples of ints and texts (the empty one is both) -/
  | dK (kvs:List (Key × V)) | dT (kvs:List (List Key × V))
  /-- a set of ints: its members,its size -/
  | set (S:Int->Bool) (n:Nat)
  /-- an instance of the class at C,its dict at dx,its attributes -/
  | ins (C dx:Addr) (fs:List (Str × V))
  /-- the dict of the instance at x -/
  | own (x:Addr)
  /-- the dict of an exception -/
  | xd (fs:List (Str × V))
  /-- a bound method,f of x -/
  | met (f x:Addr)
  /-- a range object lo,lo + 1,.. below hi -/
  | rng (lo hi:Int)
  /-- a thing that is known to the object (the script;a dict while a loop walks it): read,never written while it is so -/
  | frz (o:Obj) (u:HO)
  /-- a code object's table -/
  | tbl (ps:Array Value)
  /-- any other thing,by what is true of its one object (a def of one's own: SetO a S n:=HO.ext fun h=>..) -/
  | ext (φ:Heap->Prop)
noncomputable abbrev Hp:=Addr->Option HO
noncomputable def upd (H:Hp) (a:Addr) (o:HO):Hp:=fun b=>if b=a then some o else H b
theorem fX {H:Hp}{a:Addr}{o:HO}:upd H a o a=some o:=by unfold upd;rw [if_pos rfl]
theorem fM {H:Hp}{a b:Addr}{o:HO} (h:b ≠ a):upd H a o b=H b:=by unfold upd;rw [if_neg h]
theorem Md {H:Hp}{a:Addr}{o u:HO}:upd (upd H a o) a u=upd H a u:=by
  funext b;unfold upd;split <;> rfl
theorem fZ {H:Hp}{a b:Addr}{o:HO} (h:H a=some o) (h':H b=none):a ≠ b:=by
  intro e;subst e;rw [h] at h';cases h'
section
variable (P : Program) (w : World)
noncomputable def ObjOk (H:Hp) (h:Heap) (a:Addr):HO->Prop
  | .lst xs=>xs.length <= sizeLine /\ ∃ (its:List Value) (n:Nat),Vals xs its /\ h.get? a=some { cls:=.type "list",data:=.seq its.toArray n }
  | .tup xs=>xs.length <= sizeLine /\ ∃ its:List Value,Vals xs its /\ IsTup h a its.toArray
  | .dK kvs=>kvs.length <= sizeLine /\ (a == sysModules)=false /\ ∃ vs,KV kvs vs /\ h.DictOf (mixKind P w) a vs
  | .dT kvs=>kvs.length <= sizeLine /\ (a == sysModules)=false /\ ∃ xs:List (List Key × Addr × Value),
      Paired (fun (p:List Key × V) (q:List Key × Addr × Value)=>p.1=q.1 /\ H q.2.1=some (.tup (p.1.map kV)) /\ RelV p.2 q.2.2) kvs xs /\
      ∃ o es ep,h.get? a=some o /\ o.ExactDict /\ o.data=.dict es ep /\ es.toList=xs.map (entryOfKey (tupleKind (mixKind P w))) /\ (xs.map (·.1)).Nodup
  | .set S n=>h.SetOf (intKind P w) a S n
  | .ins C dx fs=>H dx=some (.own a) /\ fs.length <= 1000 /\ dx ≠ a /\ h.get? a=some (PySem.W.instObj C dx) /\
      ∃ mA,h.Ns1 dx mA /\ (∀ f,RelO (fs.lookup f) (mA f)) /\ PySem.Within mA (fs.map (·.1))
  | .own _=>∃ o,h.get? a=some o
  | .xd fs=>∃ mA,h.Ns1 a mA /\ ∀ f,RelO (fs.lookup f) (mA f)
  | .rng lo hi=>∃ t u v,h.get? a=some { cls:=.type "range",data:=.fields #[.int lo t,.int hi u,.int 1 v] }
  | .frz o u=>h.get? a=some o /\ ObjOk H h a u
  | .tbl ps=>h.get? a=some { cls:=.none,data:=.fields ps }
  | .met f x=>h.get? a=some (PySem.W.methodObj (.ref f) (.ref x))
  | .ext φ=>φ h /\ (∃ o,h.get? a=some o) /\ ∀ h1 h2:Heap,φ h1->(∀ o,h1.get? a=some o->h2.get? a=some o)->φ h2
noncomputable def HOk (H:Hp) (h:Heap):Prop:=∀ a o,H a=some o->ObjOk P w H h a o
end
section
variable {P : Program} {w : World} {H H' : Hp} {h h' : Heap} {a : Addr} {o : HO}
theorem ObjOk.lt (x:ObjOk P w H h a o):a < h.objs.size:=by
  cases o with
  | lst xs=>obtain ⟨_,_,_,_,e⟩:=x;exact Heap.lt_size e
  | tup xs=>obtain ⟨_,_,_,p⟩:=x;exact p.lt
  | dK kvs=>obtain ⟨_,_,_,_,o,_,_,e,_⟩:=x;exact Heap.lt_size e
  | dT kvs=>obtain ⟨_,_,_,_,o,_,_,e,_⟩:=x;exact Heap.lt_size e
  | set S n=>obtain ⟨o,_,_,_,e,_⟩:=x;exact Heap.lt_size e
  | ins C dx fs=>obtain ⟨_,_,_,e,_⟩:=x;exact Heap.lt_size e
  | own y=>obtain ⟨_,e⟩:=x;exact Heap.lt_size e
  | xd fs=>obtain ⟨_,⟨_,_,_,e,_⟩,_⟩:=x;exact Heap.lt_size e
  | rng lo hi=>obtain ⟨_,_,_,e⟩:=x;exact Heap.lt_size e
  | frz ob u=>obtain ⟨e,_⟩:=x;exact Heap.lt_size e
  | tbl ps=>exact Heap.lt_size (show h.get? a=some _ from x)
  | met f y=>exact Heap.lt_size (show h.get? a=some _ from x)
  | ext φ=>obtain ⟨_,⟨_,e⟩,_⟩:=x;exact Heap.lt_size e
theorem Paired.mapP {α β:Type}{F G:α->β->Prop}:∀ {l₁:List α}{l₂:List β},Paired F l₁ l₂->(∀ a b,F a b->G a b)->Paired G l₁ l₂
  | _,_,.nil,_=>.nil
  | _,_,.cons r t,f=>.cons (f _ _ r) (Paired.mapP t f)
theorem ObjOk.stay (x:ObjOk P w H h a o) (k:∀ b u,(b=a \/ H b=some (.own a))->h.get? b=some u->h'.get? b=some u)
    (ho:∀ b,H b=some (.own a)->H' b=some (.own a)) (ht:∀ b xs,H b=some (.tup xs)->H' b=some (.tup xs)):ObjOk P w H' h' a o:=by
  induction o with
  | lst xs=>obtain ⟨z,its,n,r,e⟩:=x;exact ⟨z,its,n,r,k _ _ (.inl rfl) e⟩
  | tup xs=>obtain ⟨z,its,r,ob,e,c⟩:=x;exact ⟨z,its,r,ob,k _ _ (.inl rfl) e,c⟩
  | dK kvs=>obtain ⟨z,y,vs,r,ob,es,ep,e,c⟩:=x;exact ⟨z,y,vs,r,ob,es,ep,k _ _ (.inl rfl) e,c⟩
  | dT kvs =>
    obtain ⟨z,y,xs,r,ob,es,ep,e,c⟩:=x
    exact ⟨z,y,xs,Paired.mapP r fun p q z=>⟨z.1,ht _ _ z.2.1,z.2.2⟩,ob,es,ep,k _ _ (.inl rfl) e,c⟩
  | set S n=>obtain ⟨ob,es,ep,t,e,c⟩:=x;exact ⟨ob,es,ep,t,k _ _ (.inl rfl) e,c⟩
  | ins C dx fs =>
    obtain ⟨d,z,ne,e,mA,⟨od,es,ep,e2,c⟩,r⟩:=x
    exact ⟨ho _ d,z,ne,k _ _ (.inl rfl) e,mA,⟨od,es,ep,k _ _ (.inr d) e2,c⟩,r⟩
  | own y=>obtain ⟨ob,e⟩:=x;exact ⟨ob,k _ _ (.inl rfl) e⟩
  | xd fs=>obtain ⟨mA,⟨od,es,ep,e,c⟩,r⟩:=x;exact ⟨mA,⟨od,es,ep,k _ _ (.inl rfl) e,c⟩,r⟩
  | rng lo hi=>obtain ⟨t,u,v,e⟩:=x;exact ⟨t,u,v,k _ _ (.inl rfl) e⟩
  | frz ob u ih=>obtain ⟨e,q⟩:=x;exact ⟨k _ _ (.inl rfl) e,ih q⟩
  | tbl ps =>
    have e:h.get? a=some { cls:=.none,data:=.fields ps }:=x
    show h'.get? a=some { cls:=.none,data:=.fields ps }
    exact k a _ (.inl rfl) e
  | met f y =>
    have e:h.get? a=some (PySem.W.methodObj (.ref f) (.ref y)):=x
    show h'.get? a=some (PySem.W.methodObj (.ref f) (.ref y))
    exact k a _ (.inl rfl) e
  | ext φ=>obtain ⟨p,⟨o,e⟩,st⟩:=x;exact ⟨st _ _ p fun o q=>k _ _ (.inl rfl) q,⟨o,k _ _ (.inl rfl) e⟩,st⟩
theorem HOk.lt (x:HOk P w H h) (e:H a=some o):a < h.objs.size:=(x a o e).lt
theorem HOk.fresh (x:HOk P w H h) (e:h.objs.size <= a):H a=none:=by
  cases q:H a with
  | none=>rfl
  | some u=>exact absurd (Nat.lt_of_lt_of_le (x.lt q) e) (Nat.lt_irrefl _)
theorem HOk.kept (x:HOk P w H h) (k:∀ b u,h.get? b=some u->h'.get? b=some u):HOk P w H h':=fun a o e =>
  (x a o e).stay (fun b u _ q=>k b u q) (fun _ q=>q) fun _ _ q=>q
theorem HOk.laid (x:HOk P w H h) (k:∀ b u,h.get? b=some u->h'.get? b=some u) (hp:h.objs.size <= a) (new:ObjOk P w (upd H a o) h' a o):HOk P w (upd H a o) h':=fun b u e=>by
  have hn:=x.fresh hp
  by_cases hb:b=a
  . subst hb;rw [fX] at e;cases e;exact new
  . rw [fM hb] at e
    exact (x b u e).stay (fun c v _ q=>k c v q) (fun c q=>by rw [fM (fZ q hn)];exact q) fun c xs q=>by rw [fM (fZ q hn)];exact q
end
noncomputable def Rd (H:Hp) (a:Addr) (u:HO):Prop:=H a=some u \/ ∃ o,H a=some (.frz o u)
theorem Rd.ok {P:Program}{w:World}{H:Hp}{h:Heap}{a:Addr}{u:HO} (r:Rd H a u) (x:HOk P w H h):ObjOk P w H h a u:=by
  rcases r with r | ⟨o,r⟩
  . exact x a u r
  . obtain ⟨_,q⟩:=x a _ r
    exact q
noncomputable def Mut:Option HO->Prop
  | some (.lst _)=>True
  | some (.dK _)=>True
  | some (.dT _)=>True
  | some (.set _ _)=>True
  | some (.ins _ _ _)=>True
  | some (.ext _)=>True
  | _=>False
section
variable {P : Program} {w : World} {H : Hp} {h h' : Heap} {x e : Addr} {o' : HO}
theorem HOk.write (ok:HOk P w H h) (mu:Mut (H x)) (he:e=x \/ H e=some (.own x)) (k:∀ b u,b ≠ e->h.get? b=some u->h'.get? b=some u) (heo:∃ u,h'.get? e=some u)
    (new:ObjOk P w (upd H x o') h' x o'):HOk P w (upd H x o') h':=fun b u q=>by
  have nown:∀ c y,H c=some (.own y)->c ≠ x:=fun c y r z=>by subst z;rw [r] at mu;exact mu
  have ntup:∀ c xs,H c=some (.tup xs)->c ≠ x:=fun c xs r z=>by subst z;rw [r] at mu;exact mu
  by_cases hb:b=x
  . subst hb;rw [fX] at q;cases q;exact new
  . rw [fM hb] at q
    by_cases hbe:b=e
    . have q':H b=some (.own x):=by
        rcases he with z | z
        . exact absurd (hbe.trans z) hb
        . rw [hbe];exact z
      rw [q] at q';cases q'
      obtain ⟨v,hv⟩:=heo
      exact ⟨v,by rw [hbe];exact hv⟩
    . refine (ok b u q).stay (fun c v hc r=>k c v ?_ r) (fun c r=>by rw [fM (nown c b r)];exact r) fun c xs r=>by rw [fM (ntup c xs r)];exact r
      rcases hc with rfl | hc
      . exact hbe
      . rintro rfl
        rcases he with z | z
        . exact nown c b hc z
        . rw [hc] at z;cases z;exact hb rfl
end
structure Un (fs ex:List Addr) (H H':Hp) (h h':Heap):Prop where
  keep:∀ b o,h.get? b=some o->H b=none->b ∉ fs->b ∉ ex->h'.get? b=some o
  slot:∀ b o,h.get? b=some o->H b=none->b ∈ fs->b ∉ ex->∃ sl,h'.get? b=some { o with slots:=sl }
  free:∀ b o,h.get? b=some o->H b=none->b ∉ ex->H' b=none
  there:∀ b o,h.get? b=some o->b ∉ ex->∃ o',h'.get? b=some o'
  tups:∀ b xs,H b=some (.tup xs)->H' b=some (.tup xs)
  frzs:∀ b o u,H b=some (.frz o u)->H' b=some (.frz o u)
  tbls:∀ b ps,H b=some (.tbl ps)->∃ more,H' b=some (.tbl (ps ++ more))
section
variable {fs fs' ex ex' : List Addr} {H H1 H2 : Hp} {h h1 h2 h' : Heap} {a x e : Addr} {o : HO}
theorem Un.any (u:Un fs ex H H1 h h1) {b:Addr}{ob:Obj} (q:h.get? b=some ob) (n:H b=none) (hx:b ∉ ex):∃ sl,h1.get? b=some { ob with slots:=sl }:=by
  by_cases hb:b ∈ fs
  . exact u.slot b ob q n hb hx
  . exact ⟨ob.slots,u.keep b ob q n hb hx⟩
theorem Un.kept (k:∀ b u,h.get? b=some u->h'.get? b=some u):Un fs ex H H h h' :=
  ⟨fun b ob q _ _ _=>k b ob q,fun b ob q _ _ _=>⟨ob.slots,k b ob q⟩,fun _ _ _ n _=>n,fun b ob q _=>⟨ob,k b ob q⟩,fun _ _ q=>q,fun _ _ _ q=>q,fun _ ps q=>⟨#[],by rw [q];simp⟩⟩
theorem Un.refl:Un fs ex H H h h:=Un.kept fun _ _ q=>q
theorem Un.laid (k:∀ b u,h.get? b=some u->h'.get? b=some u) (hp:h.objs.size <= a) (hn:H a=none):Un fs ex H (upd H a o) h h' where
  keep:=fun b u q _ _ _=>k b u q
  slot:=fun b u q _ _ _=>⟨u.slots,k b u q⟩
  free:=fun b u q n _=>by rw [fM (Nat.ne_of_lt (Nat.lt_of_lt_of_le (Heap.lt_size q) hp))];exact n
  there:=fun b u q _=>⟨u,k b u q⟩
  tups:=fun b xs q=>by rw [fM (fZ q hn)];exact q
  frzs:=fun b u xs q=>by rw [fM (fZ q hn)];exact q
  tbls:=fun b ps q=>⟨#[],by rw [fM (fZ q hn),q];simp⟩
theorem Un.write (mu:Mut (H x)) (he:e=x \/ H e=some (.own x)) (k:∀ b u,b ≠ e->h.get? b=some u->h'.get? b=some u) (heo:∃ u,h'.get? e=some u):Un fs ex H (upd H x o) h h':=by
  have hx:∀ b,H b=none->b ≠ x:=fun b n z=>by subst z;rw [n] at mu;exact mu
  have hb:∀ b,H b=none->b ≠ e:=fun b n z=>by
    subst z
    rcases he with r | r
    . exact hx b n r
    . rw [n] at r;cases r
  have hm:∀ b u,H b=some u->¬ Mut (some u)->b ≠ x:=fun b u q nm z=>by subst z;rw [q] at mu;exact nm mu
  refine ⟨fun b u q n _ _=>k b u (hb b n) q,fun b u q n _ _=>⟨u.slots,k b u (hb b n) q⟩,fun b u q n _=>by rw [fM (hx b n)];exact n,fun b u q _=>?_,
    fun b xs q=>by rw [fM (hm b _ q fun z=>z)];exact q,fun b u xs q=>by rw [fM (hm b _ q fun z=>z)];exact q,fun b ps q=>⟨#[],by rw [fM (hm b _ q fun z=>z),q];simp⟩⟩
  by_cases hbe:b=e
  . subst hbe;exact heo
  . exact ⟨u,k b u hbe q⟩
end
noncomputable def trk (h:Heap) (H:Hp):List Addr:=(List.range h.objs.size).filter fun a=>(H a).isSome
noncomputable def hidT (h:Heap) (H:Hp):Heap:=PySem.W.hideAll h (trk h H)
theorem G7 (h:Heap) (H:Hp):(hidT h H).objs.size=h.objs.size:=PySem.W.hideAll_size _ _
theorem JO {h:Heap}{H:Hp}{b:Addr}{o:Obj} (e:h.get? b=some o) (n:H b=none):(hidT h H).get? b=some o :=
  PySem.W.hideAll_get _ e fun hm=>by
    have q:(H b).isSome=true:=(List.mem_filter.mp hm).2
    rw [n] at q;simp at q
theorem Me {h:Heap}{H:Hp}{b:Addr}{o:Obj} (e:(hidT h H).get? b=some o):h.get? b=some o /\ H b=none:=by
  have e':h.get? b=some o:=PySem.W.of_hideAll (trk h H) e
  refine ⟨e',?_⟩
  cases q:H b with
  | none=>rfl
  | some x =>
    have hm:b ∈ trk h H:=List.mem_filter.mpr ⟨List.mem_range.mpr (Heap.lt_size e'),by simp [q]⟩
    have z:(hidT h H).get? b=none:=PySem.W.hideAll_none (trk h H) hm
    rw [z] at e;cases e
noncomputable def allNews (g h:Heap) (L:Addr):List (Addr × Obj):=(List.range h.objs.size).filterMap fun a=>if a=L \/ (g.get? a).isSome=true then none else (h.get? a).map fun o=>(a,o)
noncomputable def rest (g h:Heap) (L d:Addr):List (Addr × Obj):=(allNews g h L).filter fun p=>decide (p.1 ≠ d)
end L2
namespace L2
open PySem PySem.Spec PyProof.Rows
structure Mod (K:PySem.W.Frag) (mg:Str->Option Value) (base:Heap):Prop where
  kin:K.In base
  glob:base.Ns mainGlobals mg
  blt:∃ mb,base.Ns builtinsNs mb /\ ∀ x:Str,x ≠ "__name__"->mb x=bootBuiltins x
  nolimit:base.NoLimit
structure Cx where
  prog:Program
  w:World
  K:PySem.W.Frag
  mg:Str->Option Value
  base:Heap
  A:Around
  N:List Str
  s₀:Shared
  H₀:Hp
  env:Env
  outer:List Env
  stack:List Env
  ex:List Addr
  fn:Str->Bool
  calm:Bool
  pn:List (Addr × Obj)
  xe:Value->Shared->Prop
noncomputable def frs (l:List Env):List Addr:=l.filterMap (·.frame)
noncomputable abbrev Cx.fs (X:Cx):List Addr:=frs X.outer
noncomputable def Vis (sc:Scope) (x:Str):Prop:=sc.names.lookup x=some .local \/ sc.names.lookup x=some .cell \/ sc.names.lookup x=some .free
noncomputable def Loc (sc:Scope) (x:Str):Prop:=sc.names.lookup x=some .local \/ sc.names.lookup x=some .cell
noncomputable def Look (env:Env) (h:Heap) (m:Str->Option Value) (x:Str) (u:Value):Prop :=
  (env.kindOf x=some .local /\ m x=some u) \/ ((env.kindOf x=some .cell \/ env.kindOf x=some .free) /\ ∃ c,env.cells.lookup x=some c /\ h.IsCell c (some u))
structure Cx.Ok (X:Cx):Prop where
  mod:Mod X.K X.mg X.base
  kind:X.env.scope.kind=.function
  glob:X.env.globals=mainGlobals
  blt:X.env.builtins=builtinsNs
  above:X.s₀.heap.objs.size <= X.env.locals
  inj:∀ x y c,X.env.cells.lookup x=some c->X.env.cells.lookup y=some c->x=y
  has:∀ x,(X.env.kindOf x=some .cell \/ X.env.kindOf x=some .free)->∃ c,X.env.cells.lookup x=some c
  cab:∀ x c,X.fn x=true->X.env.cells.lookup x=some c->X.s₀.heap.objs.size <= c
  hd:X.calm=true->X.A.handled=none
  frames:X.A.frames=some X.stack
  stk:X.stack=X.outer \/ (X.stack=X.env :: X.outer /\ X.env.frame=some X.env.locals)
  exf:∀ b ∈ X.ex,b ≠ X.env.locals /\ ∀ x c,X.env.cells.lookup x=some c->c ≠ b
  bs:∀ b o,X.base.get? b=some o->X.s₀.heap.get? b=some o /\ X.H₀ b=none
  bsz:X.base.objs.size <= X.s₀.heap.objs.size
  noex:∀ b o,X.base.get? b=some o->b ∉ X.ex
  exfs:∀ b ∈ X.ex,b ∉ X.fs
  funs:X.s₀.heap.FunFrames X.base X.outer
  frf:∀ b ∈ X.fs,X.H₀ b=none
structure Inv (X:Cx) (pins:List (Addr × Obj)) (σ:List (Option V)) (H:Hp) (s:Shared):Prop where
  ok:X.Ok
  os:s.os=X.s₀.os
  bare:AllBare s.gens
  base:Un X.fs X.ex X.H₀ H X.s₀.heap s.heap
  loc:∃ m,s.heap.Ns X.env.locals m /\ ∀ (i:Nat) (x:Str) (v:V),X.N[i]?=some x->σ[i]?=some (some v)->Vis X.env.scope x->∃ u,RelV v u /\ Look X.env s.heap m x u
  cell:∀ x c,X.env.cells.lookup x=some c->∃ v,s.heap.IsCell c v
  free:H X.env.locals=none
  freeC:∀ x c,X.env.cells.lookup x=some c->H c=none
  pin:∀ p ∈ X.pn ++ pins,s.heap.get? p.1=some p.2 /\ H p.1=none /\ p.1 ≠ X.env.locals /\ p.1 ∉ X.fs /\ ∀ v,p.2.data ≠ .cell v
  hok:HOk X.prog X.w H s.heap
  len:σ.length=X.N.length
section
variable {X : Cx} {pins : List (Addr × Obj)} {σ : List (Option V)} {H H' : Hp} {s : Shared} {h' : Heap}
theorem Cx.Ok.nofr (ok:X.Ok) {b:Addr}{o:Obj} (e:X.base.get? b=some o):b ∉ X.fs:=fun hb=>by
  have:=(ok.funs.mem hb).1
  rw [e] at this;cases this
theorem Inv.bs (I:Inv X pins σ H s):∀ b o,X.base.get? b=some o->s.heap.get? b=some o /\ H b=none:=fun b o e =>
  ⟨I.base.keep b o (I.ok.bs b o e).1 (I.ok.bs b o e).2 (I.ok.nofr e) (I.ok.noex b o e),I.base.free b o (I.ok.bs b o e).1 (I.ok.bs b o e).2 (I.ok.noex b o e)⟩
theorem Inv.bk (I:Inv X pins σ H s):∀ b o,X.base.get? b=some o->s.heap.get? b=some o:=fun b o e=>(I.bs b o e).1
theorem Inv.mod (I:Inv X pins σ H s):Mod X.K X.mg X.base:=I.ok.mod
theorem Inv.kIn (I:Inv X pins σ H s):X.K.In s.heap:=I.ok.mod.kin.keeps I.bk
theorem Inv.lt (I:Inv X pins σ H s):X.env.locals < s.heap.objs.size:=let ⟨_,hn,_⟩:=I.loc;hn.lt
theorem Inv.sz (I:Inv X pins σ H s):X.s₀.heap.objs.size <= s.heap.objs.size:=Nat.le_trans I.ok.above (Nat.le_of_lt I.lt)
theorem Inv.nofs (I:Inv X pins σ H s) {a:Addr} (h:s.heap.objs.size <= a):a ∉ X.fs:=fun hb=>by
  obtain ⟨_,o,ho,_⟩:=I.ok.funs.mem hb
  exact absurd (Nat.lt_of_lt_of_le (Heap.lt_size ho) (Nat.le_trans I.sz h)) (Nat.lt_irrefl _)
theorem Inv.cne (I:Inv X pins σ H s):∀ x c,X.env.cells.lookup x=some c->c ≠ X.env.locals:=fun x c e z=>by
  obtain ⟨v,o,ho,hd⟩:=I.cell x c e
  obtain ⟨m,⟨o',es,ep,ho',hd',_⟩,_⟩:=I.loc
  rw [z,ho'] at ho;cases ho;rw [hd'] at hd;cases hd
theorem Inv.funs (I:Inv X pins σ H s):s.heap.FunFrames X.base X.outer:=by
  have all:∀ (l:List Env),(∀ b ∈ frs l,b ∈ X.fs)->X.s₀.heap.FunFrames X.base l->s.heap.FunFrames X.base l:=by
    intro l
    induction l with
    | nil=>intro _ _;trivial
    | cons env r ih =>
      intro hs hl
      obtain ⟨hk,⟨L,o,hf,hn,ho,hd⟩,hr⟩:=hl
      have hL:L ∈ X.fs:=hs L (by unfold frs;rw [List.filterMap_cons,hf];exact List.mem_cons_self)
      obtain ⟨sl,e⟩:=I.base.slot L o ho (I.ok.frf L hL) hL fun z=>I.ok.exfs L z hL
      exact ⟨hk,⟨L,_,hf,hn,e,hd⟩,ih (fun b hb=>hs b (by unfold frs;rw [List.filterMap_cons,hf];exact List.mem_cons_of_mem _ hb)) hr⟩
  exact all X.outer (fun _ hb=>hb) I.ok.funs
theorem Inv.stack (I:Inv X pins σ H s):s.heap.FunFrames X.base X.stack:=by
  rcases I.ok.stk with e | ⟨e,hf⟩
  . rw [e];exact I.funs
  . rw [e]
    obtain ⟨m,hn,_⟩:=I.loc
    refine .cons (by rw [I.ok.kind];decide) hf hn ?_ I.funs
    exact Heap.get?_none_of_le (Nat.le_trans I.ok.bsz I.ok.above)
theorem Inv.stkSub (I:Inv X pins σ H s):∀ b ∈ frs X.stack,b ∈ X.env.locals :: X.fs:=fun b hb=>by
  rcases I.ok.stk with e | ⟨e,hf⟩
  . rw [e] at hb;exact List.mem_cons_of_mem _ hb
  . rw [e] at hb
    unfold frs at hb
    rw [List.filterMap_cons,hf] at hb
    exact hb
theorem Inv.stkFree (I:Inv X pins σ H s):∀ b ∈ frs X.stack,H b=none:=fun b hb=>by
  rcases List.mem_cons.mp (I.stkSub b hb) with e | hb
  . rw [e];exact I.free
  . obtain ⟨_,o,ho,_⟩:=I.ok.funs.mem hb
    exact I.base.free b o ho (I.ok.frf b hb) fun z=>I.ok.exfs b z hb
theorem Inv.step {g':Array GenState}{t':Nat}{d':Drawn}{ch:List Addr} (I:Inv X pins σ H s)
    (hch:∀ b ∈ ch,(b ∈ X.ex \/ X.s₀.heap.objs.size <= b) /\ b ≠ X.env.locals /\ (∀ x c,X.env.cells.lookup x=some c->c ≠ b) /\ ∀ p ∈ X.pn ++ pins,p.1 ≠ b)
    (keep:∀ b o,b ≠ X.env.locals->b ∉ X.fs->b ∉ ch->s.heap.get? b=some o->H b=none->h'.get? b=some o)
    (slot:∀ b o,b ≠ X.env.locals->b ∈ X.fs->b ∉ ch->s.heap.get? b=some o->H b=none->∃ sl,h'.get? b=some { o with slots:=sl }) (free:∀ b o,b ∉ ch->s.heap.get? b=some o->H b=none->H' b=none)
    (there:∀ b o,b ∉ ch->s.heap.get? b=some o->∃ o',h'.get? b=some o')
    (tups:∀ b xs,H b=some (.tup xs)->H' b=some (.tup xs)) (frzs:∀ b o u,H b=some (.frz o u)->H' b=some (.frz o u)) (tbls:∀ b ps,H b=some (.tbl ps)->∃ more,H' b=some (.tbl (ps ++ more)))
    (ns:∀ m,s.heap.Ns X.env.locals m->h'.Ns X.env.locals m) (hok:HOk X.prog X.w H' h') (hg:AllBare g') :
    Inv X pins σ H' { s with heap:=h',gens:=g',drawn:=d',toks:=t' }:=by
  have neL:∀ b o,X.s₀.heap.get? b=some o->b ≠ X.env.locals:=fun b o e=>Nat.ne_of_lt (Nat.lt_of_lt_of_le (Heap.lt_size e) I.ok.above)
  have neC:∀ b o,X.s₀.heap.get? b=some o->b ∉ X.ex->b ∉ ch:=fun b o e hx hb=>by
    rcases (hch b hb).1 with z | z
    . exact hx z
    . exact absurd (Nat.lt_of_lt_of_le (Heap.lt_size e) z) (Nat.lt_irrefl _)
  have cellK:∀ x c,X.env.cells.lookup x=some c->∀ v,s.heap.IsCell c v->h'.IsCell c v:=fun x c e v ⟨o,ho,hd⟩=>by
    have nch:c ∉ ch:=fun z=>(hch c z).2.2.1 x c e rfl
    by_cases hc:c ∈ X.fs
    . obtain ⟨sl,q⟩:=slot c o (I.cne x c e) hc nch ho (I.freeC x c e)
      exact ⟨_,q,hd⟩
    . exact ⟨o,keep c o (I.cne x c e) hc nch ho (I.freeC x c e),hd⟩
  refine ⟨I.ok,I.os,hg,⟨fun b o e n hb hx=>?_,fun b o e n hb hx=>?_,fun b o e n hx=>?_,fun b o e hx=>?_,fun b xs e=>tups b xs (I.base.tups b xs e),fun b o xs e=>frzs b o xs (I.base.frzs b o xs e),fun b ps e=>?_⟩,?_,fun x c e=>?_,?_,fun x c e=>?_,fun p hp=>?_,hok,I.len⟩
  . exact keep b o (neL b o e) hb (neC b o e hx) (I.base.keep b o e n hb hx) (I.base.free b o e n hx)
  . obtain ⟨sl,e1⟩:=I.base.slot b o e n hb hx
    obtain ⟨sl',e2⟩:=slot b _ (neL b o e) hb (neC b o e hx) e1 (I.base.free b o e n hx)
    exact ⟨sl',e2⟩
  . obtain ⟨o',e1⟩:=I.base.there b o e hx
    exact free b o' (neC b o e hx) e1 (I.base.free b o e n hx)
  . obtain ⟨o',e1⟩:=I.base.there b o e hx
    exact there b o' (neC b o e hx) e1
  . obtain ⟨m1,e1⟩:=I.base.tbls b ps e
    obtain ⟨m2,e2⟩:=tbls b _ e1
    exact ⟨m1 ++ m2,by rw [e2,Array.append_assoc]⟩
  . obtain ⟨m,hn,hl⟩:=I.loc
    refine ⟨m,ns m hn,fun i x v e1 e2 e3=>?_⟩
    obtain ⟨u,r,l⟩:=hl i x v e1 e2 e3
    refine ⟨u,r,?_⟩
    rcases l with l | ⟨k,c,e,z⟩
    . exact .inl l
    . exact .inr ⟨k,c,e,cellK x c e _ z⟩
  . obtain ⟨v,z⟩:=I.cell x c e
    exact ⟨v,cellK x c e v z⟩
  . obtain ⟨m,⟨o,_,_,ho,_⟩,_⟩:=I.loc
    exact free _ o (fun z=>(hch _ z).2.1 rfl) ho I.free
  . obtain ⟨v,o,ho,hd⟩:=I.cell x c e
    exact free c o (fun z=>(hch c z).2.2.1 x c e rfl) ho (I.freeC x c e)
  . obtain ⟨e,n,ne,nf,d⟩:=I.pin p hp
    have nch:p.1 ∉ ch:=fun z=>(hch p.1 z).2.2.2 p hp rfl
    exact ⟨keep p.1 p.2 ne nf nch e n,free p.1 p.2 nch e n,ne,nf,d⟩
theorem Inv.un {t':Nat} (I:Inv X pins σ H s) (u:Un X.fs [] H H' s.heap h') (hok:HOk X.prog X.w H' h'):Inv X pins σ H' { s with heap:=h',toks:=t' }:=by
  obtain ⟨m,⟨o,es,ep,ho,r⟩,_⟩:=id I.loc
  obtain ⟨sl,hL⟩:=u.any ho I.free (by simp)
  exact I.step (g':=s.gens) (d':=s.drawn) (ch:=[]) (fun _ z=>nomatch z) (fun b o _ hb _ e n=>u.keep b o e n hb (by simp)) (fun b o _ hb _ e n=>u.slot b o e n hb (by simp)) (fun b o _ e n=>u.free b o e n (by simp)) (fun b o _ e=>u.there b o e (by simp)) u.tups u.frzs u.tbls (fun m' hm=>by
    obtain ⟨o',es',ep',ho',r'⟩:=hm
    rw [ho] at ho';cases ho'
    exact ⟨_,es',ep',hL,r'⟩) hok I.bare
theorem Inv.call {g':Array GenState}{t':Nat}{d':Drawn}{ch:List Addr} (I:Inv X pins σ H s) (u:Un (frs X.stack) ch H H' s.heap h') (hok:HOk X.prog X.w H' h') (hg:AllBare g')
    (hch:∀ b ∈ ch,(b ∈ X.ex \/ X.s₀.heap.objs.size <= b) /\ b ≠ X.env.locals /\ (∀ x c,X.env.cells.lookup x=some c->c ≠ b) /\ ∀ p ∈ X.pn ++ pins,p.1 ≠ b) :
    Inv X pins σ H' { s with heap:=h',gens:=g',drawn:=d',toks:=t' }:=by
  obtain ⟨m,⟨o,es,ep,ho,r⟩,_⟩:=id I.loc
  obtain ⟨sl,hL⟩:=u.any ho I.free fun z=>(hch _ z).2.1 rfl
  exact I.step (ch:=ch) hch (fun b o hL hb hc e n=>u.keep b o e n (fun z=>(List.mem_cons.mp (I.stkSub b z)).elim hL hb) hc) (fun b o _ _ hc e n=>u.any e n hc) (fun b o hc e n=>u.free b o e n hc) (fun b o hc e=>u.there b o e hc) u.tups u.frzs u.tbls (fun m' hm=>by
    obtain ⟨o',es',ep',ho',r'⟩:=hm
    rw [ho] at ho';cases ho'
    exact ⟨_,es',ep',hL,r'⟩) hok hg
theorem Inv.turned {t':Nat}{it:Addr} (I:Inv X pins σ H s) (k:∀ b o,b ≠ it->s.heap.get? b=some o->h'.get? b=some o) (hn:H it=none) (hL:it ≠ X.env.locals)
    (h1:it ∈ X.ex \/ X.s₀.heap.objs.size <= it) (h2:∀ x c,X.env.cells.lookup x=some c->c ≠ it) (h3:∀ p ∈ X.pn ++ pins,p.1 ≠ it):Inv X pins σ H { s with heap:=h',toks:=t' }:=by
  have nit:∀ b u,H b=some u->b ≠ it:=fun b u e z=>by rw [z,hn] at e;cases e
  refine I.step (g':=s.gens) (d':=s.drawn) (ch:=[it]) (fun b hb=>?_) (fun b o _ _ hc e _=>k b o (fun z=>hc (by simp [z])) e) (fun b o _ _ hc e _=>⟨o.slots,k b o (fun z=>hc (by simp [z])) e⟩) (fun _ _ _ _ n=>n)
    (fun b o hc e=>⟨o,k b o (fun z=>hc (by simp [z])) e⟩) (fun _ _ e=>e) (fun _ _ _ e=>e) (fun b ps e=>⟨#[],by rw [e];simp⟩) (fun m hm=>?_) (fun b u e=>?_) I.bare
  . have e:b=it:=by simpa using hb
    subst e
    exact ⟨h1,hL,h2,h3⟩
  . obtain ⟨o,es,ep,ho,r⟩:=hm
    exact ⟨o,es,ep,k _ o (Ne.symm hL) ho,r⟩
  . refine (I.hok b u e).stay (fun c v hc q=>k c v ?_ q) (fun _ q=>q) fun _ _ q=>q
    rcases hc with z | z
    . rw [z];exact nit b u e
    . exact nit c _ z
theorem Inv.tok (I:Inv X pins σ H s) (t:Nat):Inv X pins σ H { s with toks:=t }:=I.un (h':=s.heap) (t':=t) Un.refl I.hok
theorem Inv.kept {t':Nat} (I:Inv X pins σ H s) (k:∀ b u,s.heap.get? b=some u->h'.get? b=some u):Inv X pins σ H { s with heap:=h',toks:=t' }:=I.un (Un.kept k) (I.hok.kept k)
theorem Inv.laid {a:Addr}{o:HO}{t':Nat} (I:Inv X pins σ H s) (k:∀ b u,s.heap.get? b=some u->h'.get? b=some u) (hp:s.heap.objs.size <= a) (new:ObjOk X.prog X.w (upd H a o) h' a o) :
    Inv X pins σ (upd H a o) { s with heap:=h',toks:=t' }:=I.un (Un.laid k hp (I.hok.fresh hp)) (I.hok.laid k hp new)
theorem Inv.write {x e:Addr}{o:HO}{t':Nat} (I:Inv X pins σ H s) (mu:Mut (H x)) (he:e=x \/ H e=some (.own x)) (k:∀ b u,b ≠ e->s.heap.get? b=some u->h'.get? b=some u) (heo:∃ u,h'.get? e=some u)
    (new:ObjOk X.prog X.w (upd H x o) h' x o):Inv X pins σ (upd H x o) { s with heap:=h',toks:=t' }:=I.un (Un.write mu he k heo) (I.hok.write mu he k heo new)
theorem Inv.pins_of {pins':List (Addr × Obj)} (I:Inv X pins σ H s) (h:∀ p ∈ pins',s.heap.get? p.1=some p.2 /\ H p.1=none /\ p.1 ≠ X.env.locals /\ p.1 ∉ X.fs /\ ∀ v,p.2.data ≠ .cell v):Inv X pins' σ H s :=
  ⟨I.ok,I.os,I.bare,I.base,I.loc,I.cell,I.free,I.freeC,fun p hp=>(List.mem_append.mp hp).elim (fun z=>I.pin p (List.mem_append_left _ z)) (h p),I.hok,I.len⟩
theorem Bw {N:List Str} (hN:N.Nodup) {i j:Nat}{x:Str} (a:N[i]?=some x) (b:N[j]?=some x):i=j:=by
  obtain ⟨h1,e1⟩:=List.getElem?_eq_some_iff.mp a
  obtain ⟨h2,e2⟩:=List.getElem?_eq_some_iff.mp b
  exact (List.getElem_inj hN).mp (e1.trans e2.symm)
theorem G8 {M:Model}{A:Around}{E:Value->Shared->Prop}{i:Nat}{x:Str}{v:V}{u:Value}{Q:Unit->Shared->Prop} (I:Inv X pins σ H s) (hN:X.N.Nodup) (hi:X.N[i]?=some x) (hx:Loc X.env.scope x) (r:RelV v u)
    (h:∀ s',Inv X pins (σ.set i (some v)) H s'->(∃ a,Heap.SameBut a s.heap s'.heap /\ (a=X.env.locals \/ X.env.cells.lookup x=some a))->Q () s') (hf:X.fn x=true \/ X.env.scope.names.lookup x=some .local:=by first | exact .inl rfl | exact .inr rfl | assumption):wpAny M A (storeName X.env x u) Q E s:=by
  obtain ⟨m,hn,hl⟩:=id I.loc
  have hcls:(X.env.scope.kind == .class || (X.env.scope.kind == .module && X.env.locals != X.env.globals))=false:=by rw [I.ok.kind];rfl
  have hiσ:i < σ.length:=by rw [I.len];exact (List.getElem?_eq_some_iff.mp hi).1
  have cne:=I.cne
  have tracked:∀ {a:Addr}{h':Heap},(∃ o,s.heap.get? a=some o /\ H a=none)->Heap.SameBut a s.heap h'->HOk X.prog X.w H h':=fun {a h'} ha hs b ob e=>by
    obtain ⟨_,_,hfree⟩:=ha
    refine (I.hok b ob e).stay (fun c w' hc q=>(hs.2 c ?_).trans q) (fun _ q=>q) fun _ _ q=>q
    rintro rfl
    rcases hc with rfl | hc
    . rw [hfree] at e;cases e
    . rw [hfree] at hc;cases hc
  rcases hx with hk | hk
  . refine wpAny_storeName_local hk hn (fun h' hn' hs=>?_) hcls
    obtain ⟨oL,_,_,hoL,_⟩:=id hn
    refine h _ ⟨I.ok,I.os,I.bare,⟨fun b o e n hb hx=>?_,fun b o e n hb hx=>?_,I.base.free,fun b o e hx=>?_,I.base.tups,I.base.frzs,I.base.tbls⟩,⟨_,hn',fun j y v' e1 e2 e3=>?_⟩,fun y c e=>?_,I.free,I.freeC,fun p hp=>?_,tracked ⟨oL,hoL,I.free⟩ hs,by simpa using I.len⟩ ⟨_,hs,.inl rfl⟩
    . exact (hs.2 b (Nat.ne_of_lt (Nat.lt_of_lt_of_le (Heap.lt_size e) I.ok.above))).trans (I.base.keep b o e n hb hx)
    . obtain ⟨sl,e1⟩:=I.base.slot b o e n hb hx
      exact ⟨sl,(hs.2 b (Nat.ne_of_lt (Nat.lt_of_lt_of_le (Heap.lt_size e) I.ok.above))).trans e1⟩
    . obtain ⟨o',e1⟩:=I.base.there b o e hx
      exact ⟨o',(hs.2 b (Nat.ne_of_lt (Nat.lt_of_lt_of_le (Heap.lt_size e) I.ok.above))).trans e1⟩
    . by_cases hj:j=i
      . subst hj
        rw [hi] at e1;cases e1
        rw [List.getElem?_set_self hiσ] at e2
        cases e2
        exact ⟨u,r,.inl ⟨hk,by simp⟩⟩
      . rw [List.getElem?_set_ne (Ne.symm hj)] at e2
        obtain ⟨u',r',q⟩:=hl j y v' e1 e2 e3
        refine ⟨u',r',?_⟩
        rcases q with ⟨k,e⟩ | ⟨k,c,e,z⟩
        . refine .inl ⟨k,?_⟩
          have:y ≠ x:=fun e=>hj (Bw hN e1 (e ▸ hi))
          simp [this,e]
        . exact .inr ⟨k,c,e,z.sameBut hs (cne y c e)⟩
    . obtain ⟨w',z⟩:=I.cell y c e
      exact ⟨w',z.sameBut hs (cne y c e)⟩
    . obtain ⟨e,n,ne,nf,d⟩:=I.pin p hp
      exact ⟨(hs.2 p.1 ne).trans e,n,ne,nf,d⟩
  . have hfn:X.fn x=true:=by
      rcases hf with z | z
      . exact z
      . rw [z] at hk;cases hk
    obtain ⟨c,hc⟩:=I.ok.has x (.inl hk)
    obtain ⟨w',z⟩:=I.cell x c hc
    refine wpAny_storeName_cell I.ok.kind hk hc z (fun h' hc' hs=>?_)
    obtain ⟨oc,hoc,hocd⟩:=id z
    refine h { s with heap:=h' } ⟨I.ok,I.os,I.bare,⟨fun b o e n hb hx=>?_,fun b o e n hb hx=>?_,I.base.free,fun b o e hx=>?_,I.base.tups,I.base.frzs,I.base.tbls⟩,⟨m,hn.sameBut hs (Ne.symm (cne x c hc)),fun j y v' e1 e2 e3=>?_⟩,fun y c' e=>?_,I.free,I.freeC,fun p hp=>?_,tracked ⟨oc,hoc,I.freeC x c hc⟩ hs,by simpa using I.len⟩ ⟨c,hs,.inr hc⟩
    . exact (hs.2 b (Nat.ne_of_lt (Nat.lt_of_lt_of_le (Heap.lt_size e) (I.ok.cab x c hfn hc)))).trans (I.base.keep b o e n hb hx)
    . obtain ⟨sl,e1⟩:=I.base.slot b o e n hb hx
      exact ⟨sl,(hs.2 b (Nat.ne_of_lt (Nat.lt_of_lt_of_le (Heap.lt_size e) (I.ok.cab x c hfn hc)))).trans e1⟩
    . obtain ⟨o',e1⟩:=I.base.there b o e hx
      exact ⟨o',(hs.2 b (Nat.ne_of_lt (Nat.lt_of_lt_of_le (Heap.lt_size e) (I.ok.cab x c hfn hc)))).trans e1⟩
    . by_cases hj:j=i
      . subst hj
        rw [hi] at e1;cases e1
        rw [List.getElem?_set_self hiσ] at e2
        cases e2
        exact ⟨u,r,.inr ⟨.inl hk,c,hc,hc'⟩⟩
      . rw [List.getElem?_set_ne (Ne.symm hj)] at e2
        obtain ⟨u',r',q⟩:=hl j y v' e1 e2 e3
        refine ⟨u',r',?_⟩
        rcases q with q | ⟨k,c',e,z'⟩
        . exact .inl q
        . refine .inr ⟨k,c',e,z'.sameBut hs ?_⟩
          rintro rfl
          exact hj (Bw hN e1 (I.ok.inj _ _ _ e hc ▸ hi))
    . by_cases hcc:c'=c
      . subst hcc;exact ⟨_,hc'⟩
      . obtain ⟨w2,z2⟩:=I.cell y c' e
        exact ⟨w2,z2.sameBut hs hcc⟩
    . obtain ⟨e,n,ne,nf,d⟩:=I.pin p hp
      refine ⟨(hs.2 p.1 ?_).trans e,n,ne,nf,d⟩
      intro q
      rw [q,hoc] at e
      have q':oc=p.2:=Option.some.inj e
      exact d w' (by rw [<-q'];exact hocd)
theorem oO {M:Model}{A:Around}{E:Value->Shared->Prop}{i:Nat}{x:Str}{v:V}{u:Value}{Q:Unit->Shared->Prop} (I:Inv X pins σ H s) (hN:X.N.Nodup) (hi:X.N[i]?=some x) (hx:Loc X.env.scope x) (r:RelV v u)
    (h:∀ s',Inv X pins (σ.set i (some v)) H s'->Q () s') (hf:X.fn x=true \/ X.env.scope.names.lookup x=some .local:=by first | exact .inl rfl | exact .inr rfl | assumption):wpAny M A (storeName X.env x u) Q E s :=
  G8 I hN hi hx r (fun s' I' _=>h s' I') hf
theorem Inv.call' {s':Shared}{ch:List Addr} (I:Inv X pins σ H s) (ho:s'.os=s.os) (u:Un (frs X.stack) ch H H' s.heap s'.heap) (hok:HOk X.prog X.w H' s'.heap) (hg:AllBare s'.gens)
    (hch:∀ b ∈ ch,(b ∈ X.ex \/ X.s₀.heap.objs.size <= b) /\ b ≠ X.env.locals /\ (∀ x c,X.env.cells.lookup x=some c->c ≠ b) /\ ∀ p ∈ X.pn ++ pins,p.1 ≠ b):Inv X pins σ H' s':=by
  obtain ⟨h',g',d',t',o'⟩:=s'
  have e:o'=s.os:=ho
  subst e
  exact I.call (g':=g') (t':=t') (d':=d') u hok hg hch
end
noncomputable abbrev XK:=Value->Option Addr->Hp->Prop
noncomputable abbrev St:=List (Option V)
noncomputable abbrev VK:=V->Hp->Prop
noncomputable abbrev TE:=St->Hp->VK->Prop
noncomputable abbrev TT:=St->Hp->(Bool->Hp->Prop)->Prop
noncomputable abbrev TA:=St->Hp->(List V->Hp->Prop)->Prop
structure Ends where
  nx:St->Hp->Prop
  rt:VK
  bk:St->Hp->Prop:=fun _ _=>False
  ct:St->Hp->Prop:=fun _ _=>False
noncomputable abbrev TS:=Ends->St->Hp->Prop
noncomputable def EP (X:Cx) (pins:List (Addr × Obj)) (σ:St) (Q:VK) (u:Value) (s':Shared):Prop:=∃ v H',Inv X pins σ H' s' /\ RelV v u /\ Q v H'
noncomputable def TP (X:Cx) (pins:List (Addr × Obj)) (σ:St) (Q:Bool->Hp->Prop) (b:Bool) (s':Shared):Prop:=∃ H',Inv X pins σ H' s' /\ Q b H'
noncomputable def AP (X:Cx) (pins:List (Addr × Obj)) (σ:St) (Q:List V->Hp->Prop) (us:List Value) (s':Shared):Prop:=∃ vs H',Inv X pins σ H' s' /\ Vals vs us /\ Q vs H'
noncomputable def SP (X:Cx) (pins:List (Addr × Obj)) (D:Ends) (f:Flow) (s':Shared):Prop :=
  match f with
  | .next=>∃ σ' H',Inv X pins σ' H' s' /\ D.nx σ' H'
  | .brk=>∃ σ' H',Inv X pins σ' H' s' /\ D.bk σ' H'
  | .cont=>∃ σ' H',Inv X pins σ' H' s' /\ D.ct σ' H'
  | .ret u=>∃ v σ' H',Inv X pins σ' H' s' /\ RelV v u /\ D.rt v H'
noncomputable def PE (X:Cx) (e:Expr) (t:TE):Prop :=
  ∀ (pins:List (Addr × Obj)) (s:Shared) (σ:St) (H:Hp) (Q:VK),Inv X pins σ H s->t σ H Q->wpAny (model X.prog X.w) X.A (eval e X.env) (EP X pins σ Q) X.xe s
noncomputable def PT (X:Cx) (e:Expr) (t:TT):Prop :=
  ∀ (pins:List (Addr × Obj)) (s:Shared) (σ:St) (H:Hp) (Q:Bool->Hp->Prop),Inv X pins σ H s->t σ H Q->wpAny (model X.prog X.w) X.A (isTrue e X.env (eval e X.env)) (TP X pins σ Q) X.xe s
noncomputable def PW (X:Cx) (e:Expr) (t:TT):Prop :=
  ∀ (whole:Sem Value) (pins:List (Addr × Obj)) (s:Shared) (σ:St) (H:Hp) (Q:Bool->Hp->Prop),Inv X pins σ H s->t σ H Q->wpAny (model X.prog X.w) X.A (isTrue e X.env whole) (TP X pins σ Q) X.xe s
theorem PW.pt {X:Cx}{e:Expr}{t:TT} (h:PW X e t):PT X e t:=h _
noncomputable def PA (X:Cx) (es:List Expr) (t:TA):Prop :=
  ∀ (pos:Pos) (pins:List (Addr × Obj)) (s:Shared) (σ:St) (H:Hp) (Q:List V->Hp->Prop),Inv X pins σ H s->t σ H Q->wpAny (model X.prog X.w) X.A (spliced (backTo pos (starEach es X.env))) (AP X pins σ Q) X.xe s
noncomputable def PS (X:Cx) (st:Stmt) (t:TS):Prop :=
  ∀ (pins:List (Addr × Obj)) (s:Shared) (σ:St) (H:Hp) (D:Ends),Inv X pins σ H s->t D σ H->wpAny (model X.prog X.w) X.A (exec st X.env) (SP X pins D) X.xe s
noncomputable def PSs (X:Cx) (st:List Stmt) (t:TS):Prop :=
  ∀ (pins:List (Addr × Obj)) (s:Shared) (σ:St) (H:Hp) (D:Ends),Inv X pins σ H s->t D σ H->wpAny (model X.prog X.w) X.A (execs st X.env) (SP X pins D) X.xe s
theorem thn {α:Type}{t:Sem α}{Q Q':α->Shared->Prop}{M:Model}{A:Around}{E:Value->Shared->Prop}{s:Shared} (h:wpAny M A t Q E s) (hQ:∀ a s,Q a s->Q' a s):wpAny M A t Q' E s:=wpAny_mono h hQ fun _ _ x=>x
end L2
namespace L2
open PySem PySem.Spec PyProof.Rows
section
variable {X : Cx}
theorem bin {a b:Expr}{ta tb:TE} (ha:PE X a ta) (hb:PE X b tb) {pins:List (Addr × Obj)}{s:Shared}{σ:St}{H:Hp}{R:V->V->Hp->Prop} (I:Inv X pins σ H s) (h:ta σ H fun x H1=>tb σ H1 fun y H2=>R x y H2)
    {α:Type}{Q:α->Shared->Prop}{f:Value->Value->Sem α}
    (hf:∀ v u s2 x y H2,Inv X pins σ H2 s2->RelV x v->RelV y u->R x y H2->wpAny (model X.prog X.w) X.A (f v u) Q X.xe s2) :
    wpAny (model X.prog X.w) X.A (eval a X.env) (fun v s₁=>wpAny (model X.prog X.w) X.A (eval b X.env) (fun u s₂=>wpAny (model X.prog X.w) X.A (f v u) Q X.xe s₂) X.xe s₁) X.xe s:=by
  refine thn (ha pins s σ H _ I h) fun v s1 ⟨x,H1,I1,r1,q1⟩=>?_
  refine thn (hb pins s1 σ H1 _ I1 q1) fun u s2 ⟨y,H2,I2,r2,q2⟩=>?_
  exact hf v u s2 x y H2 I2 r1 r2 q2
noncomputable def tVar (i:Nat):TE:=fun σ H Q=>∃ v,σ[i]?=some (some v) /\ Q v H
noncomputable def tC (v:V):TE:=fun _ H Q=>Q v H
theorem FC {i:Nat}{x:Str}{pos:Pos} (hN:X.N[i]?=some x) (hv:Vis X.env.scope x) (hd:(x == ("__debug__":Str))=false:=by decide) (hcd:(x == ("__classdict__":Str))=false:=by decide):PE X (.Name x pos) (tVar i):=by
  intro pins s σ H Q I h
  obtain ⟨v,e,h⟩:=h
  obtain ⟨m,hn,hl⟩:=I.loc
  obtain ⟨u,r,l⟩:=hl i x v hN e hv
  have fin:EP X pins σ Q u s:=⟨v,H,I,r,h⟩
  rcases l with ⟨hk,hm⟩ | ⟨hk,c,hc,hcell⟩
  . exact wpAny_Name (wpAny_loadName_local I.ok.kind hk hn hm fin) hd
  . rcases hk with hk | hk
    . exact wpAny_Name (wpAny_loadName_cell I.ok.kind hk hc hcell fin) hd
    . exact wpAny_Name (wpAny_loadName_free I.ok.kind hk hc hcell fin hcd) hd
theorem By {i j pos}:PE X (.Constant (.int i) j pos) (tC (.int i)):=fun _ _ _ H _ I h=>wpAny_Constant_int ⟨.int i,H,I.tok _,⟨_,rfl⟩,h⟩
theorem JP {b j pos}:PE X (.Constant (.bool b) j pos) (tC (.bl b)):=fun _ _ _ H _ I h=>Constant_bool ⟨.bl b,H,I,rfl,h⟩
theorem Nr {j pos}:PE X (.Constant .none j pos) (tC .non):=fun _ _ _ H _ I h=>Constant_none ⟨.non,H,I,rfl,h⟩
theorem FD {x j pos}:PE X (.Constant (.str x) j pos) (tC (.str x)):=fun _ _ _ H _ I h=>Calls.Constant_str ⟨.str x,H,I.tok _,⟨_,rfl⟩,h⟩
noncomputable def Gl (X:Cx) (x:Str):Prop:=X.env.kindOf x=some .globalImplicit
theorem Bk {E:Value->Shared->Prop}{pins:List (Addr × Obj)}{s:Shared}{σ:St}{H:Hp}{x:Str}{u:Value}{pos:Pos}{Q:Value->Shared->Prop} (I:Inv X pins σ H s) (hg:Gl X x) (hm:X.mg x=some u) (h:Q u s)
    (hd:(x == ("__debug__":Str))=false:=by decide):wpAny (model X.prog X.w) X.A (eval (.Name x pos) X.env) Q E s :=
  Calls.Name_function_global I.ok.kind hg (Calls.loadGlobal_global (by rw [I.ok.glob];exact I.mod.glob.keeps I.bk) hm h) hd
theorem oP {E:Value->Shared->Prop}{pins:List (Addr × Obj)}{s:Shared}{σ:St}{H:Hp}{x:Str}{u:Value}{pos:Pos}{Q:Value->Shared->Prop} (I:Inv X pins σ H s) (hg:Gl X x) (hm:X.mg x=none) (hv:bootBuiltins x=some u) (h:Q u s)
    (hn:x ≠ "__name__":=by decide) (hd:(x == ("__debug__":Str))=false:=by decide):wpAny (model X.prog X.w) X.A (eval (.Name x pos) X.env) Q E s:=by
  obtain ⟨mb,h1,h2⟩:=I.mod.blt
  exact Calls.Name_function_global I.ok.kind hg (Calls.loadGlobal_builtin (by rw [I.ok.glob];exact I.mod.glob.keeps I.bk) hm (by rw [I.ok.blt];exact h1.keeps I.bk) ((h2 x hn).trans hv) h) hd
theorem gU {x:Str}{v:V}{u:Value}{pos:Pos} (hg:Gl X x) (hm:X.mg x=some u) (r:RelV v u) (hd:(x == ("__debug__":Str))=false:=by decide):PE X (.Name x pos) (tC v) :=
  fun _ _ _ H _ I h=>Bk I hg hm ⟨v,H,I,r,h⟩ hd
theorem Gn {x:Str}{v:V}{u:Value}{pos:Pos} (hg:Gl X x) (hm:X.mg x=none) (hv:bootBuiltins x=some u) (r:RelV v u) (hn:x ≠ "__name__":=by decide) (hd:(x == ("__debug__":Str))=false:=by decide):PE X (.Name x pos) (tC v) :=
  fun _ _ _ H _ I h=>oP I hg hm hv ⟨v,H,I,r,h⟩ hn hd
variable {a b : Expr} {ta tb : TE} {pos : Pos}
noncomputable def PC (X:Cx) (op:CmpOp) (a b:Expr) (t:TE):Prop :=
  ∀ (pins:List (Addr × Obj)) (s:Shared) (σ:St) (H:Hp) (Q:VK),Inv X pins σ H s->t σ H Q ->
    wpAny (model X.prog X.w) X.A (eval a X.env) (fun v s₁=>wpAny (model X.prog X.w) X.A (eval b X.env) (fun u s₂=>wpAny (model X.prog X.w) X.A (compareOp op v u) (EP X pins σ Q) X.xe s₂) X.xe s₁) X.xe s
noncomputable def tB (t:TE):TT:=fun σ H Q=>t σ H fun x H1=>∃ c,x=.bl c /\ Q c H1
theorem Po {op:CmpOp}{t:TE} (h:PC X op a b t) (h1:behindInMarks op b=false:=by first | exact nobehind _ (by decide) (by decide) | rfl):PT X (.Compare a [op] [b] pos) (tB t):=by
  intro pins s σ H Q I hw
  refine wpAny_isTrue_Compare1 (thn (h pins s σ H _ I hw) fun v s1 h1=>thn h1 fun u s2 h2=>thn h2 fun c s3 ⟨x,H1,I1,r1,q1⟩=>?_) h1
  obtain ⟨d,rfl,q⟩:=q1
  cases r1
  exact wpAny_truthy_bool ⟨H1,I1,q⟩
theorem JQ {e:Expr}{t:TE} (h:PE X e t) (he:∀ whole,isTrue e X.env whole=(do let v <-whole;standAt e.pos;holding [v] (truthy v)):=by intro _;rfl):PT X e (tB t):=by
  intro pins s σ H Q I hw
  refine isTrue_plain (thn (h pins s σ H _ I hw) fun v s1 ⟨x,H1,I1,r1,q1⟩=>?_) (he _)
  obtain ⟨d,rfl,q⟩:=q1
  cases r1
  exact wpAny_truthy_bool ⟨H1,I1,q⟩
variable {tA tB' : TT} {rest : List Expr}
noncomputable def tAnd (t u:TT):TT:=fun σ H Q=>t σ H fun c H1=>if c=true then u σ H1 Q else Q false H1
noncomputable def tOr (t u:TT):TT:=fun σ H Q=>t σ H fun c H1=>if c=true then Q true H1 else u σ H1 Q
noncomputable def tNot (t:TT):TT:=fun σ H Q=>t σ H fun c H1=>Q (!c) H1
theorem Mf (ha:PT X a tA):PW X (.BoolOp .And [a] pos) tA:=by
  intro wh pins s σ H Q I h
  refine isTrue_and (thn (ha pins s σ H Q I h) fun c s1 e=>?_)
  cases c with
  | true=>exact isTrue_and_nil e
  | false=>exact e
theorem JR (ha:PT X a tA):PW X (.BoolOp .Or [a] pos) tA:=by
  intro wh pins s σ H Q I h
  refine isTrue_or (thn (ha pins s σ H Q I h) fun c s1 e=>?_)
  cases c with
  | false=>exact isTrue_or_nil e
  | true=>exact e
theorem Nt (ha:PT X a tA) (hb:PW X (.BoolOp .And (b :: rest) pos) tB'):PW X (.BoolOp .And (a :: b :: rest) pos) (tAnd tA tB'):=by
  intro wh pins s σ H Q I h
  refine isTrue_and (thn (ha pins s σ H _ I h) fun c s1 ⟨H1,I1,q1⟩=>?_)
  cases c with
  | true=>exact hb wh pins s1 σ H1 Q I1 q1
  | false=>exact ⟨H1,I1,q1⟩
theorem M8 (ha:PT X a tA) (hb:PW X (.BoolOp .Or (b :: rest) pos) tB'):PW X (.BoolOp .Or (a :: b :: rest) pos) (tOr tA tB'):=by
  intro wh pins s σ H Q I h
  refine isTrue_or (thn (ha pins s σ H _ I h) fun c s1 ⟨H1,I1,q1⟩=>?_)
  cases c with
  | true=>exact ⟨H1,I1,q1⟩
  | false=>exact hb wh pins s1 σ H1 Q I1 q1
theorem JS (ha:PT X a tA):PT X (.UnaryOp .Not a pos) (tNot tA):=by
  intro pins s σ H Q I h
  exact isTrue_not (ha pins s σ H (fun c H1=>Q (!c) H1) I h)
noncomputable def tAndV (ta tb:TE):TE:=fun σ H Q=>ta σ H fun x H1=>∃ c,x=.bl c /\ if c=true then tb σ H1 Q else Q (.bl false) H1
noncomputable def tNotV (ta:TE):TE:=fun σ H Q=>ta σ H fun x H1=>∃ c,x=.bl c /\ Q (.bl (!c)) H1
theorem Nu {op}{t:TE} (h:PE X a t):PE X (.BoolOp op [a] pos) t:=fun pins s σ H Q I hw=>BoolOp_one (h pins s σ H Q I hw)
theorem Nv (ha:PE X a ta) (hb:PE X (.BoolOp .And (b :: rest) pos) tb):PE X (.BoolOp .And (a :: b :: rest) pos) (tAndV ta tb):=by
  intro pins s σ H Q I h
  refine BoolOp_and (thn (ha pins s σ H _ I h) fun v s1 ⟨x,H1,I1,r1,q1⟩=>?_)
  obtain ⟨c,rfl,q1⟩:=q1
  cases r1
  refine wpAny_truthy_bool ?_
  cases c with
  | true=>exact hb pins s1 σ H1 Q I1 q1
  | false=>exact ⟨.bl false,H1,I1,rfl,q1⟩
theorem Nw (ha:PE X a ta):PE X (.UnaryOp .Not a pos) (tNotV ta):=by
  intro pins s σ H Q I h
  refine UnaryOp_ (thn (ha pins s σ H _ I h) fun v s1 ⟨x,H1,I1,r1,q1⟩=>?_)
  obtain ⟨c,rfl,q1⟩:=q1
  cases r1
  exact not_of (wpAny_truthy_bool ⟨.bl (!c),H1,I1,rfl,q1⟩)
noncomputable def tIf (t:TT) (ta tb:TE):TE:=fun σ H Q=>t σ H fun c H1=>if c=true then ta σ H1 Q else tb σ H1 Q
theorem JT {c:Expr} (hc:PT X c tA) (ha:PE X a ta) (hb:PE X b tb):PE X (.IfExp c a b pos) (tIf tA ta tb):=by
  intro pins s σ H Q I h
  refine wpAny_IfExp (thn (hc pins s σ H _ I h) fun d s1 ⟨H1,I1,q1⟩=>?_)
  cases d with
  | true=>exact ha pins s1 σ H1 Q I1 q1
  | false=>exact hb pins s1 σ H1 Q I1 q1
end
end L2
namespace L2
open PySem PySem.Spec PyProof.Rows
noncomputable def SqL (K:PySem.W.Frag) (H:Hp) (a:Addr) (xs:List V):Prop :=
  Rd H a (.lst xs) \/
    ∃ (o:Obj) (its:Array Value) (n:Nat),K.lookup a=some o /\ o.cls=.type "list" /\ o.dict=none /\ o.data=.seq its n /\ its.size <= sizeLine /\ Vals xs its.toList
noncomputable def SqT (K:PySem.W.Frag) (H:Hp) (a:Addr) (xs:List V):Prop :=
  Rd H a (.tup xs) \/
    ∃ (o:Obj) (its:Array Value) (n:Nat),K.lookup a=some o /\ o.cls=.type "tuple" /\ o.data=.seq its n /\ its.size <= sizeLine /\ Vals xs its.toList
noncomputable def absV:Value->Option V
  | .none=>some .non
  | .bool b=>some (.bl b)
  | .int i _=>some (.int i)
  | .str x _=>some (.str x)
  | .bytes b _=>some (.byt b)
  | .float b _=>some (.flt b)
  | .ref a=>some (.ref a)
  | .type n=>some (.ty n)
  | _=>none
theorem RelV.abs {x:V}{u:Value} (r:RelV x u):absV u=some x:=by
  cases x with
  | non=>cases r;rfl
  | bl _=>cases r;rfl
  | int _=>obtain ⟨t,rfl⟩:=r;rfl
  | str _=>obtain ⟨t,rfl⟩:=r;rfl
  | byt _=>obtain ⟨t,rfl⟩:=r;rfl
  | flt _=>obtain ⟨t,rfl⟩:=r;rfl
  | ref _=>cases r;rfl
  | ty _=>cases r;rfl
theorem RelV.inj {x y:V}{u:Value} (r:RelV x u) (q:RelV y u):x=y:=Option.some.inj (r.abs.symm.trans q.abs)
theorem Vals.inj:∀ {xs ys:List V}{us:List Value},Vals xs us->Vals ys us->xs=ys
  | _,_,_,.nil,.nil=>rfl
  | _,_,_,.cons r t,.cons r' t'=>by rw [r.inj r',Vals.inj t t']
section
variable {X : Cx} {pins : List (Addr × Obj)} {σ : St} {H : Hp} {s : Shared} {a : Addr} {xs ys : List V}
theorem SqL.of {K:PySem.W.Frag} (h:H a=some (.lst xs)):SqL K H a xs:=.inl (.inl h)
theorem SqT.of {K:PySem.W.Frag} (h:H a=some (.tup xs)):SqT K H a xs:=.inl (.inl h)
theorem Inv.list (I:Inv X pins σ H s) (h:SqL X.K H a xs):∃ its:List Value,Vals xs its /\ PlainL s.heap a its.toArray /\ xs.length <= sizeLine:=by
  rcases h with h | ⟨o,its,n,hk,hc,hd,hs,hz,r⟩
  . obtain ⟨z,its,n,r,e⟩:=h.ok I.hok
    exact ⟨its,r,⟨_,n,e,rfl,rfl,rfl⟩,z⟩
  . refine ⟨its.toList,r,⟨o,n,I.kIn a o hk,hc,hd,by simpa using hs⟩,?_⟩
    have e:=r.length
    simp only [Array.length_toList] at e
    omega
theorem Inv.tuple (I:Inv X pins σ H s) (h:SqT X.K H a xs):∃ its:List Value,Vals xs its /\ IsTup s.heap a its.toArray /\ xs.length <= sizeLine:=by
  rcases h with h | ⟨o,its,n,hk,hc,hs,hz,r⟩
  . obtain ⟨z,its,r,p⟩:=h.ok I.hok
    exact ⟨its,r,p,z⟩
  . refine ⟨its.toList,r,⟨o,I.kIn a o hk,hc,n,by simpa using hs⟩,?_⟩
    have e:=r.length
    simp only [Array.length_toList] at e
    omega
theorem Inv.list_inj (I:Inv X pins σ H s) (h:SqL X.K H a xs) (h':SqL X.K H a ys):xs=ys:=by
  obtain ⟨its,r,⟨o,n,e,_,_,d⟩,_⟩:=I.list h
  obtain ⟨its',r',⟨o',n',e',_,_,d'⟩,_⟩:=I.list h'
  rw [e] at e';cases e'
  rw [d] at d'
  injection d' with d1 _
  have:its=its':=by simpa using congrArg Array.toList d1
  subst this
  exact r.inj r'
theorem Inv.tuple_inj (I:Inv X pins σ H s) (h:SqT X.K H a xs) (h':SqT X.K H a ys):xs=ys:=by
  obtain ⟨its,r,⟨o,e,_,n,d⟩,_⟩:=I.tuple h
  obtain ⟨its',r',⟨o',e',_,n',d'⟩,_⟩:=I.tuple h'
  rw [e] at e';cases e'
  rw [d] at d'
  injection d' with d1 _
  have:its=its':=by simpa using congrArg Array.toList d1
  subst this
  exact r.inj r'
end
noncomputable abbrev Cx.wish (X:Cx) (E:Value->Shared->Prop):Cx:={ X with xe:=E }
noncomputable abbrev Cx.nox (X:Cx):Cx:=X.wish fun _ _=>False
theorem Cx.Ok.wish {X:Cx} (ok:X.Ok) (E:Value->Shared->Prop):(X.wish E).Ok :=
  ⟨ok.mod,ok.kind,ok.glob,ok.blt,ok.above,ok.inj,ok.has,ok.cab,ok.hd,ok.frames,ok.stk,ok.exf,ok.bs,ok.bsz,ok.noex,ok.exfs,ok.funs,ok.frf⟩
theorem Cx.Ok.unwish {X:Cx}{E:Value->Shared->Prop} (ok:(X.wish E).Ok):X.Ok :=
  ⟨ok.mod,ok.kind,ok.glob,ok.blt,ok.above,ok.inj,ok.has,ok.cab,ok.hd,ok.frames,ok.stk,ok.exf,ok.bs,ok.bsz,ok.noex,ok.exfs,ok.funs,ok.frf⟩
section
variable {X : Cx} {pins : List (Addr × Obj)} {σ : St} {H : Hp} {s : Shared} {E : Value -> Shared -> Prop}
theorem Inv.wish (I:Inv X pins σ H s) (E:Value->Shared->Prop):Inv (X.wish E) pins σ H s:=⟨I.ok.wish E,I.os,I.bare,I.base,I.loc,I.cell,I.free,I.freeC,I.pin,I.hok,I.len⟩
theorem Inv.unwish (I:Inv (X.wish E) pins σ H s):Inv X pins σ H s:=⟨I.ok.unwish,I.os,I.bare,I.base,I.loc,I.cell,I.free,I.freeC,I.pin,I.hok,I.len⟩
theorem SP.unwish {D:Ends}{f:Flow}{s':Shared} (h:SP (X.wish E) pins D f s'):SP X pins D f s':=by
  cases f with
  | next=>obtain ⟨σ',H',I,q⟩:=h;exact ⟨σ',H',I.unwish,q⟩
  | brk=>obtain ⟨σ',H',I,q⟩:=h;exact ⟨σ',H',I.unwish,q⟩
  | cont=>obtain ⟨σ',H',I,q⟩:=h;exact ⟨σ',H',I.unwish,q⟩
  | ret u=>obtain ⟨v,σ',H',I,r,q⟩:=h;exact ⟨v,σ',H',I.unwish,r,q⟩
theorem PSs.nox {st:List Stmt}{t:TS} (h:PSs X.nox st t):PSs X st t:=fun pins s σ H D I hw =>
  wpAny_mono (h pins s σ H D (I.wish _) hw) (fun _ _ q=>q.unwish) fun _ _ z=>False.elim z
end
section
variable {X : Cx} {st : Stmt} {rest : List Stmt} {t u : TS} {e : Expr} {te : TE} {pos : Pos}
noncomputable def tNext:TS:=fun D σ H=>D.nx σ H
noncomputable def tSeq (t u:TS):TS:=fun D σ H=>t { D with nx:=u D } σ H
theorem Go:PSs X [] tNext:=fun _ _ σ H _ I h=>wpAny_execs_nil ⟨σ,H,I,h⟩
theorem ls (h1:PS X st t) (h2:PSs X rest u):PSs X (st :: rest) (tSeq t u):=by
  intro pins s σ H D I h
  refine wpAny_execs_cons (thn (h1 pins s σ H { D with nx:=u D } I h) fun f s1 q=>?_)
  cases f with
  | next =>
    obtain ⟨σ',H',I',q⟩:=q
    exact h2 pins s1 σ' H' D I' q
  | ret v=>exact q
  | brk=>exact q
  | cont=>exact q
theorem Bl (h1:PS X st t):PSs X [st] t:=by
  intro pins s σ H D I h
  refine wpAny_execs_cons (thn (h1 pins s σ H D I h) fun f s1 q=>?_)
  cases f with
  | next=>exact wpAny_execs_nil q
  | ret v=>exact q
  | brk=>exact q
  | cont=>exact q
theorem Inv.quiet {pins:List (Addr × Obj)}{σ:St}{H:Hp}{s:Shared} (I:Inv X pins σ H s):interactive X.env=false:=by simp [interactive,I.ok.kind]
noncomputable def tDrop (te:TE):TS:=fun D σ H=>te σ H fun _ H1=>D.nx σ H1
theorem Gp (he:PE X e te) (hs:swapsWith e none pos.line X.env=pure false:=by rfl):PS X (.Expr e pos) (tDrop te):=by
  intro pins s σ H D I h
  exact wpAny_Expr_any (thn (he pins s σ H _ I h) fun v s1 ⟨x,H1,I1,r1,q1⟩=>⟨σ,H1,I1,q1⟩) I.quiet hs
noncomputable def tRet (te:TE):TS:=fun D σ H=>te σ H D.rt
theorem CL (he:PE X e te):PS X (.Return (some e) pos) (tRet te):=by
  intro pins s σ H D I h
  exact wpAny_Return_some (thn (he pins s σ H _ I h) fun v s1 ⟨x,H1,I1,r1,q1⟩=>⟨x,σ,H1,I1,r1,q1⟩)
noncomputable def tIfS (c:TT) (t u:TS):TS:=fun D σ H=>c σ H fun b H1=>if b=true then t D σ H1 else u D σ H1
theorem M9 {c:Expr}{a b:List Stmt}{tc:TT} (hc:PT X c tc) (ha:PSs X a t) (hb:PSs X b u):PS X (.If c a b pos) (tIfS tc t u):=by
  intro pins s σ H D I h
  refine wpAny_If (thn (hc pins s σ H _ I h) fun d s1 ⟨H1,I1,q1⟩=>?_)
  cases d with
  | true=>exact ha pins s1 σ H1 D I1 q1
  | false=>exact hb pins s1 σ H1 D I1 q1
end
noncomputable abbrev TG:=V->St->Hp->(St->Hp->Prop)->Prop
noncomputable abbrev TGs:=List V->St->Hp->(St->Hp->Prop)->Prop
noncomputable def PG (X:Cx) (target:Expr) (t:TG):Prop :=
  ∀ (pins:List (Addr × Obj)) (s:Shared) (σ:St) (H:Hp) (v:V) (u:Value) (Q:St->Hp->Prop),Inv X pins σ H s->RelV v u->t v σ H Q ->
    wpAny (model X.prog X.w) X.A (assign target X.env u) (fun _ s'=>∃ σ' H',Inv X pins σ' H' s' /\ Q σ' H') X.xe s
noncomputable def PGs (X:Cx) (ts:List Expr) (t:TGs):Prop :=
  ∀ (pins:List (Addr × Obj)) (s:Shared) (σ:St) (H:Hp) (vs:List V) (us:List Value) (Q:St->Hp->Prop),Inv X pins σ H s->Vals vs us->t vs σ H Q ->
    wpAny (model X.prog X.w) X.A (assignInOrder ((assignEach ts X.env).map (·.2)) us) (fun _ s'=>∃ σ' H',Inv X pins σ' H' s' /\ Q σ' H') X.xe s
noncomputable abbrev TSet:=V->V->V->Hp->(Hp->Prop)->Prop
noncomputable def PSet (X:Cx) (t:TSet):Prop :=
  ∀ (pins:List (Addr × Obj)) (s:Shared) (σ:St) (H:Hp) (o i v:V) (ov iv u:Value) (Q:Hp->Prop),Inv X pins σ H s->RelV o ov->RelV i iv->RelV v u->t o i v H Q ->
    wpAny (model X.prog X.w) X.A (setItem ov iv u) (fun _ s'=>∃ H',Inv X pins σ H' s' /\ Q H') X.xe s
section
variable {X : Cx} {pos : Pos}
noncomputable def gName (i:Nat):TG:=fun v σ H Q=>Q (σ.set i (some v)) H
theorem Mg {i:Nat}{x:Str} (hN:X.N.Nodup) (hi:X.N[i]?=some x) (hx:Loc X.env.scope x) (hf:X.fn x=true \/ X.env.scope.names.lookup x=some .local:=by first | exact .inl rfl | exact .inr rfl | assumption):PG X (.Name x pos) (gName i):=by
  intro pins s σ H v u Q I r h
  exact wpAny_assign_Name (oO I hN hi hx r (fun s' I'=>⟨_,H,I',h⟩) hf)
noncomputable def gNil:TGs:=fun vs σ H Q=>vs=[] /\ Q σ H
noncomputable def gCons (t:TG) (u:TGs):TGs:=fun vs σ H Q=>∃ v r,vs=v :: r /\ t v σ H fun σ' H'=>u r σ' H' Q
theorem Mh:PGs X [] gNil:=by
  intro pins s σ H vs us Q I r h
  obtain ⟨e,h⟩:=h
  subst e
  cases r
  exact assignInOrder_nil ⟨σ,H,I,h⟩
theorem JU {e:Expr}{es:List Expr}{t:TG}{u:TGs} (h1:PG X e t) (h2:PGs X es u)
    (hs:(assignEach (e :: es) X.env).map (·.2)=assign e X.env :: (assignEach es X.env).map (·.2):=by rfl):PGs X (e :: es) (gCons t u):=by
  intro pins s σ H vs us Q I r h
  obtain ⟨v,vr,e1,h⟩:=h
  subst e1
  cases r with
  | cons r rr =>
    rw [hs]
    refine assignInOrder_cons (thn (h1 pins s σ H _ _ _ I r h) fun _ s1 ⟨σ1,H1,I1,q1⟩=>?_)
    exact h2 pins s1 σ1 H1 _ _ Q I1 rr q1
noncomputable def gTup (K:PySem.W.Frag) (n:Nat) (t:TGs):TG:=fun v σ H Q=>∃ a xs,v=.ref a /\ SqT K H a xs /\ xs.length=n /\ t xs σ H Q
theorem Nx {es:List Expr}{k:Nat}{t:TGs}{n:Nat} (hc:X.calm=true) (h:PGs X es t)
    (hn:(assignEach es X.env).length=n:=by rfl) (hst:(assignEach es X.env).findIdx? (·.1)=none:=by rfl):PG X (.Tuple es k pos) (gTup X.K n t):=by
  intro pins s σ H v u Q I r hw
  obtain ⟨a,xs,e1,hq,hl,hw⟩:=hw
  subst e1
  cases r
  obtain ⟨its,rv,ht,hz⟩:=I.tuple hq
  refine assign_Tuple_tuple (I.ok.hd hc) ht (by simp [hn,<-hl,rv.length]) hst fun h' hx=>?_
  have I1:Inv X pins σ H { s with heap:=h' }:=I.kept (t':=s.toks) fun b o e=>hx b o (Nat.ne_of_lt (Heap.lt_size e)) e
  exact h pins _ σ H xs _ Q I1 (by simpa using rv) hw
noncomputable def gSub (to ti:TE) (t:TSet):TG:=fun v σ H Q=>to σ H fun o H1=>ti σ H1 fun i H2=>t o i v H2 fun H3=>Q σ H3
theorem Ny {o i:Expr}{to ti:TE}{t:TSet} (ho:PE X o to) (hi:PE X i ti) (hs:PSet X t)
    (ha:∀ v,assign (.Subscript o i pos) X.env v=(do
      let ov <-holding [v] (eval o X.env)
      let iv <-holding [v,ov] (eval i X.env)
      standAt pos
      holding [v,ov,iv] (setItem ov iv v)
      release [v,ov,iv] []):=by intro _;rfl):PG X (.Subscript o i pos) (gSub to ti t):=by
  intro pins s σ H v u Q I r h
  rw [ha]
  refine wpAny_bind (wpAny_holding (thn (ho pins s σ H _ I h) fun ov s1 ⟨x,H1,I1,r1,q1⟩=>?_))
  refine wpAny_bind (wpAny_holding (thn (hi pins s1 σ H1 _ I1 q1) fun iv s2 ⟨y,H2,I2,r2,q2⟩=>?_))
  refine wpAny_bind (wpAny_standAt (wpAny_bind (wpAny_holding (thn (hs pins s2 σ H2 x y v ov iv u _ I2 r1 r2 r q2) fun _ s3 ⟨H3,I3,q3⟩=>?_))))
  exact wpAny_release ⟨σ,H3,I3,q3⟩
noncomputable def tAsg (te:TE) (g:TG):TS:=fun D σ H=>te σ H fun x H1=>g x σ H1 D.nx
theorem Nz {tg e:Expr}{te:TE}{g:TG} (he:PE X e te) (hg:PG X tg g) (hs:swapsWithSole [tg] e pos.line X.env=pure false:=by rfl) (hw:swappedStores [tg] e X.env=pure none:=by rfl)
    (h1:(assignEach [tg] X.env).map (·.2)=[assign tg X.env]:=by rfl):PS X (.Assign [tg] e pos) (tAsg te g):=by
  intro pins s σ H D I h
  refine wpAny_Assign_stores (thn (he pins s σ H _ I h) fun v s1 ⟨x,H1,I1,r1,q1⟩=>?_) hs hw
  rw [h1]
  exact thn (hg pins s1 σ H1 x v _ I1 r1 q1) fun _ s2 q=>q
theorem AT {i:Nat}{x:Str}{e:Expr}{te:TE}{pos':Pos} (hN:X.N.Nodup) (hi:X.N[i]?=some x) (hx:Loc X.env.scope x) (he:PE X e te) (hs:swapsWith e (some (.Name x pos')) pos.line X.env=pure false:=by rfl) (hf:X.fn x=true \/ X.env.scope.names.lookup x=some .local:=by first | exact .inl rfl | exact .inr rfl | assumption) :
    PS X (.Assign [.Name x pos'] e pos) (tAsg te (gName i)):=by
  intro pins s σ H D I h
  refine wpAny_Assign_Name (thn (he pins s σ H _ I h) fun v s1 ⟨y,H1,I1,r1,q1⟩=>?_) hs
  exact oO I1 hN hi hx r1 (fun s2 I2=>⟨_,H1,I2,q1⟩) hf
noncomputable def tPar (i j:Nat) (ta:TA):TS:=fun D σ H=>ta σ H fun vs H1=>∃ v w,vs=[v,w] /\ D.nx ((σ.set i (some v)).set j (some w)) H1
theorem NA {i j:Nat}{x y:Str}{a b:Expr}{ta:TA}{px py pt:Pos}{kt k2 pt2} (hc:X.calm=true) (hN:X.N.Nodup) (hi:X.N[i]?=some x) (hj:X.N[j]?=some y) (hij:i ≠ j)
    (hx:X.env.scope.names.lookup x=some .local) (hy:X.env.scope.names.lookup y=some .local) (ha:PA X [a,b] ta)
    (hw:swappedStores [.Tuple [.Name x px,.Name y py] kt pt] (.Tuple [a,b] k2 pt2) X.env=pure (some [x,y]))
    (hs:swapsWithSole [.Tuple [.Name x px,.Name y py] kt pt] (.Tuple [a,b] k2 pt2) pos.line X.env=pure false:=by rfl) :
    PS X (.Assign [.Tuple [.Name x px,.Name y py] kt pt] (.Tuple [a,b] k2 pt2) pos) (tPar i j ta):=by
  intro pins s σ H D I h
  rw [exec_Assign_arm]
  refine wpAny_bind (wpAny_standAt ?_)
  rw [hs]
  refine wpAny_bind (wpAny_pure ?_)
  rw [if_neg (by decide)]
  refine wpAny_bind (Tuple_ (thn (ha _ pins s σ H _ I h) fun us s1 ⟨vs,H1,I1,r1,q1⟩=>?_))
  obtain ⟨v,w,e1,q1⟩:=q1
  subst e1
  obtain ⟨u1,u2,rfl,rv,rw'⟩:∃ u1 u2,us=[u1,u2] /\ RelV v u1 /\ RelV w u2:=by
    cases r1 with
    | cons p q =>
      cases q with
      | cons p' q' =>
        cases q'
        exact ⟨_,_,rfl,p,p'⟩
  refine wpAny_newObj_type ?_ (by show 2 <= sizeLine;decide)
  have I2:Inv X pins σ H1 { s1 with heap:=s1.heap.push { cls:=.type "tuple",data:=.seq [u1,u2].toArray } }:=I1.kept (t':=s1.toks) fun b o e=>Heap.get?_push_of_some _ e
  rw [hw]
  refine wpAny_bind (wpAny_pure ?_)
  show wpAny (model X.prog X.w) X.A (do rule "assign.swapped-stores";let items <-unpackItems (.ref s1.heap.objs.size) 2 none;assignInOrder [fun v=>bindName X.env y v,fun v=>bindName X.env x v] items.reverse;pure Flow.next) _ _ _
  refine wpAny_bind (wpAny_rule (wpAny_bind (unpackItems_tuple (items:=#[u1,u2]) (I.ok.hd hc) (IsTup.new s1.heap _) fun h' hx'=>?_)))
  have I3:=I2.kept (h':=h') (t':=s1.toks) fun b o e=>hx' b o (Nat.ne_of_lt (Heap.lt_size e)) e
  show wpAny _ _ (assignInOrder [fun v=>bindName X.env y v,fun v=>bindName X.env x v] [u2,u1] >>= fun _=>pure Flow.next) _ _ _
  refine wpAny_bind (assignInOrder_cons (wpAny_bindName (oO I3 hN hj (.inl hy) rw' (fun s2 I4=>?_) (.inr hy))))
  refine assignInOrder_cons (wpAny_bindName (oO I4 hN hi (.inl hx) rv (fun s3 I5=>assignInOrder_nil (wpAny_pure ?_)) (.inr hx)))
  rw [List.set_comm _ _ (Ne.symm hij)] at I5
  exact ⟨_,H1,I5,q1⟩
end
section
variable {X : Cx} {pos : Pos}
end
structure It where
  go:Nat->Hp->Prop
  yld:Nat->Hp->V->Hp->Prop
  stop:Nat->Hp->Prop
noncomputable def FpOk (X:Cx) (pins:List (Addr × Obj)) (H:Hp) (b:Addr):Prop :=
  H b=none /\ b ≠ X.env.locals /\ b ∉ X.fs /\ (b ∈ X.ex \/ X.s₀.heap.objs.size <= b) /\ (∀ x c,X.env.cells.lookup x=some c->c ≠ b) /\ ∀ p ∈ X.pn ++ pins,p.1 ≠ b
theorem Inv.fpOk {X:Cx}{pins:List (Addr × Obj)}{σ:St}{H H':Hp}{s:Shared}{b:Addr} (I:Inv X pins σ H s) (hb:s.heap.objs.size <= b) (hn:H' b=none):FpOk X pins H' b:=by
  refine ⟨hn,Nat.ne_of_gt (Nat.lt_of_lt_of_le I.lt hb),I.nofs hb,.inr (Nat.le_trans I.sz hb),fun x c e z=>?_,fun p hp z=>?_⟩
  . obtain ⟨v,q⟩:=I.cell x c e
    exact absurd (Nat.lt_of_lt_of_le q.lt (by rw [z];exact hb)) (Nat.lt_irrefl _)
  . exact absurd (Nat.lt_of_lt_of_le (Heap.lt_size (I.pin p hp).1) (by rw [z];exact hb)) (Nat.lt_irrefl _)
structure Turn (P:Program) (w:World) (K:PySem.W.Frag) (tg:Expr) (J:It) (fp:List Addr) (it:Addr) (tn:Nat->Heap->Prop):Prop where
  mem:it ∈ fp
  obj:∀ i h,tn i h->∀ b ∈ fp,∃ o,h.get? b=some o /\ ∀ v,o.data ≠ .cell v
  keep:∀ i h h',tn i h->(∀ b ∈ fp,∀ o,h.get? b=some o->h'.get? b=some o)->tn i h'
  item:∀ (X:Cx),X.prog=P->X.w=w->X.K=K->X.calm=true->∀ (i:Nat) (pins:List (Addr × Obj)) (s:Shared) (σ:St) (H:Hp) (E:Value->Shared->Prop),Inv X pins σ H s->(∀ b ∈ fp,FpOk X pins H b)->tn i s.heap->J.go i H ->
    wpAny (model P w) X.A (pyNext (.ref it)) (fun r s1=>∃ u,r=some u /\
      wpAny (model P w) X.A (letOwnedTupleGo tg (.ref it) u) (fun _ s2=>∃ x H',Inv X pins σ H' s2 /\ RelV x u /\ J.yld i H x H' /\ tn (i + 1) s2.heap /\ ∀ b ∈ fp,H' b=none) E s1) E s
  done:∀ (X:Cx),X.prog=P->X.w=w->X.K=K->X.calm=true->∀ (i:Nat) (pins:List (Addr × Obj)) (s:Shared) (σ:St) (H:Hp) (E:Value->Shared->Prop),Inv X pins σ H s->(∀ b ∈ fp,FpOk X pins H b)->tn i s.heap->J.stop i H ->
    wpAny (model P w) X.A (pyNext (.ref it)) (fun r s1=>r=none /\ Inv X pins σ H s1) E s
  self:∀ (A:Around) (i:Nat) (s:Shared) (Q:Value->Shared->Prop) (E:Value->Shared->Prop),tn i s.heap->Q (.ref it) s->wpAny (model P w) A (pyIter (.ref it)) Q E s
noncomputable abbrev TI:=St->Hp->(It->Hp->Prop)->Prop
noncomputable def PIE (X:Cx) (pins:List (Addr × Obj)) (σ:St) (tg:Expr) (R:It->Hp->Prop) (itv:Value) (s2:Shared):Prop :=
  ∃ (it:Addr) (fp:List Addr) (tn:Nat->Heap->Prop) (J:It) (H':Hp),itv=.ref it /\ Inv X pins σ H' s2 /\ Turn X.prog X.w X.K tg J fp it tn /\ tn 0 s2.heap /\ (∀ b ∈ fp,FpOk X pins H' b) /\ R J H'
noncomputable def PI (X:Cx) (tg iter:Expr) (wi:TI):Prop :=
  ∀ (pins:List (Addr × Obj)) (s:Shared) (σ:St) (H:Hp) (R:It->Hp->Prop),Inv X pins σ H s->wi σ H R ->
    wpAny (model X.prog X.w) X.A (eval iter X.env) (fun v s1=>wpAny (model X.prog X.w) X.A (pyIter v) (PIE X pins σ tg R) X.xe s1) X.xe s
theorem JV {M:Model}{A:Around}{E:Value->Shared->Prop}{s:Shared}{tg:Expr}{it:Addr}{u:Value}{o:Obj}{n:String}{vs:Array Value}{Q:Unit->Shared->Prop} (ho:s.heap.get? it=some o) (hc:o.cls=.type n) (hd:o.data=.fields vs)
    (hn:["enumerate", "zip", "dict_itemiterator", "dict_reverseitemiterator", "odict_iterator", "itertools.zip_longest", "itertools.pairwise"].contains n=false) (hQ:Q () s):wpAny M A (letOwnedTupleGo tg (.ref it) u) Q E s:=by
  unfold letOwnedTupleGo
  cases tg <;> first
    | exact wpAny_pure hQ
    | (cases u <;> first
        | exact wpAny_pure hQ
        | (refine wpAny_bind (wpAny_load ho ?_)
           rw [hc,hd]
           show wpAny M A (if (["enumerate", "zip", "dict_itemiterator", "dict_reverseitemiterator", "odict_iterator", "itertools.zip_longest", "itertools.pairwise"].contains n && vs[0]? == some (rawInt _))=true then _ else _) Q E s
           rw [if_neg (by intro h;rw [hn,Bool.false_and] at h;cases h)]
           exact wpAny_pure hQ))
noncomputable def Itl (K:PySem.W.Frag) (a:Addr):It :=
  ⟨fun i H=>∃ xs x,SqL K H a xs /\ xs[i]?=some x,fun i H x H'=>H'=H /\ ∀ xs,SqL K H a xs->xs[i]?=some x,fun i H=>∃ xs,SqL K H a xs /\ xs.length <= i⟩
noncomputable def Itt (K:PySem.W.Frag) (a:Addr):It :=
  ⟨fun i H=>∃ xs x,SqT K H a xs /\ xs[i]?=some x,fun i H x H'=>H'=H /\ ∀ xs,SqT K H a xs->xs[i]?=some x,fun i H=>∃ xs,SqT K H a xs /\ xs.length <= i⟩
noncomputable def Itr (lo:Int) (n:Nat):It:=⟨fun i _=>i < n,fun i H x H'=>H'=H /\ x=.int (lo + i),fun i _=>n <= i⟩
theorem G9 {P:Program}{w:World}{K:PySem.W.Frag}{tg:Expr} (a it:Addr):Turn P w K tg (Itl K a) [it] it (fun i h=>h.IsListIter it a i) where
  mem:=by simp
  obj:=fun i h st b hb=>by
    have e:b=it:=by simpa using hb
    subst e
    obtain ⟨o,e,c,d⟩:=st
    exact ⟨o,e,fun v z=>by rw [d] at z;cases z⟩
  keep:=fun i h h' st k=>st.at fun o e=>k it (by simp) o e
  item:=by
    intro X hP hw hK hc i pins s σ H E I hf st hg
    subst hP hw hK
    obtain ⟨xs,x,hq,hx⟩:=hg
    obtain ⟨its,rv,p,hz⟩:=I.list hq
    obtain ⟨u,hu,ru⟩:=rv.get hx
    obtain ⟨f0,f1,f2,f3,f4,f5⟩:=hf it (by simp)
    refine wpAny_pyNext_list_item st p.isList (x:=u) (by simpa using hu) fun h' st' sb=>?_
    have I1:Inv X pins σ H { s with heap:=h' }:=I.turned (t':=s.toks) (fun b o hb e=>(sb.2 b hb).trans e) f0 f1 f3 f4 f5
    obtain ⟨o,e,c,d⟩:=id st'
    exact ⟨u,rfl,JV (s:={ s with heap:=h' }) e c d (by decide) ⟨x,H,I1,ru,⟨rfl,fun ys hy=>by rw [I.list_inj hy hq];exact hx⟩,st',fun b hb=>(hf b hb).1⟩⟩
  done:=by
    intro X hP hw hK hc i pins s σ H E I hf st hg
    subst hP hw hK
    obtain ⟨xs,hq,hx⟩:=hg
    obtain ⟨its,rv,p,hz⟩:=I.list hq
    obtain ⟨f0,f1,f2,f3,f4,f5⟩:=hf it (by simp)
    have hl:=rv.length
    exact wpAny_pyNext_list_end (I.ok.hd hc) st p.isList (by simp;omega) fun h' eb=>⟨rfl,I.turned (t':=s.toks) (fun b o hb e=>eb b o hb e) f0 f1 f3 f4 f5⟩
  self:=fun _ _ _ _ _ st h=>wpAny_pyIter_listiter st h
theorem FE {P:Program}{w:World}{K:PySem.W.Frag}{tg:Expr} (a it:Addr):Turn P w K tg (Itt K a) [it] it (fun i h=>h.IsTupleIter it a i) where
  mem:=by simp
  obj:=fun i h st b hb=>by
    have e:b=it:=by simpa using hb
    subst e
    obtain ⟨o,e,c,d⟩:=st
    exact ⟨o,e,fun v z=>by rw [d] at z;cases z⟩
  keep:=fun i h h' st k=>st.at fun o e=>k it (by simp) o e
  item:=by
    intro X hP hw hK hc i pins s σ H E I hf st hg
    subst hP hw hK
    obtain ⟨xs,x,hq,hx⟩:=hg
    obtain ⟨its,rv,p,hz⟩:=I.tuple hq
    obtain ⟨u,hu,ru⟩:=rv.get hx
    obtain ⟨f0,f1,f2,f3,f4,f5⟩:=hf it (by simp)
    refine wpAny_pyNext_tuple_item st (show s.heap.IsTuple a its.toArray from p) (x:=u) (by simpa using hu) fun h' st' sb=>?_
    have I1:Inv X pins σ H { s with heap:=h' }:=I.turned (t':=s.toks) (fun b o hb e=>(sb.2 b hb).trans e) f0 f1 f3 f4 f5
    obtain ⟨o,e,c,d⟩:=id st'
    exact ⟨u,rfl,JV (s:={ s with heap:=h' }) e c d (by decide) ⟨x,H,I1,ru,⟨rfl,fun ys hy=>by rw [I.tuple_inj hy hq];exact hx⟩,st',fun b hb=>(hf b hb).1⟩⟩
  done:=by
    intro X hP hw hK hc i pins s σ H E I hf st hg
    subst hP hw hK
    obtain ⟨xs,hq,hx⟩:=hg
    obtain ⟨its,rv,p,hz⟩:=I.tuple hq
    obtain ⟨f0,f1,f2,f3,f4,f5⟩:=hf it (by simp)
    have hl:=rv.length
    exact wpAny_pyNext_tuple_end (I.ok.hd hc) st (show s.heap.IsTuple a its.toArray from p) (by simp;omega) fun h' eb=>⟨rfl,I.turned (t':=s.toks) (fun b o hb e=>eb b o hb e) f0 f1 f3 f4 f5⟩
  self:=fun _ _ _ _ _ st h=>wpAny_pyIter_tupleiter st h
theorem FF {P:Program}{w:World}{K:PySem.W.Frag}{tg:Expr} (it:Addr) (lo:Int) (n:Nat):Turn P w K tg (Itr lo n) [it] it (fun i h=>IsRangeIter h it (lo + (i:Nat) * 1) ((n:Int) - (i:Nat)) 1) where
  mem:=by simp
  obj:=fun i h st b hb=>by
    have e:b=it:=by simpa using hb
    subst e
    exact ⟨_,st,fun v z=>by
      have z':Data.fields _=Data.cell v:=z
      cases z'⟩
  keep:=fun i h h' st k=>k it (by simp) _ st
  item:=by
    intro X hP hw hK hc i pins s σ H E I hf st hg
    subst hP hw hK
    obtain ⟨f0,f1,f2,f3,f4,f5⟩:=hf it (by simp)
    have W:=Walks.range (prog:=X.prog) (w:=X.w) (I.ok.hd hc) it lo 1 n
    refine W.item i s _ _ hg st fun v h' tk hv st' kk=>?_
    obtain ⟨t,rfl⟩:=hv
    have I1:Inv X pins σ H { s with heap:=h',toks:=tk }:=I.turned (fun b o hb e=>kk b o (by simpa using hb) e) f0 f1 f3 f4 f5
    refine ⟨_,rfl,JV (s:={ s with heap:=h',toks:=tk }) (n:="range_iterator") st' rfl rfl (by decide) ⟨.int (lo + i),H,I1,⟨t,?_⟩,⟨rfl,rfl⟩,st',fun b hb=>(hf b hb).1⟩⟩
    rw [Int.mul_one]
  done:=by
    intro X hP hw hK hc i pins s σ H E I hf st hg
    subst hP hw hK
    obtain ⟨f0,f1,f2,f3,f4,f5⟩:=hf it (by simp)
    exact wpAny_pyNext_range_end (I.ok.hd hc) st (by have:n <= i:=hg;omega) fun h' eb=>⟨rfl,I.turned (t':=s.toks) (fun b o hb e=>eb b o hb e) f0 f1 f3 f4 f5⟩
  self:=fun _ _ _ _ _ st h=>wpAny_pyIter_rangeiter st h
end L2
namespace L2
open PySem PySem.Spec PyProof.Rows
section
variable {X : Cx} {tg : Expr}
theorem DB {pins:List (Addr × Obj)}{σ:St}{H:Hp}{s:Shared}{R:It->Hp->Prop}{E:Value->Shared->Prop}{lo hi:Int}{t u v:Tok}{tk:Nat} (I:Inv X pins σ H s) (h1:-(2 ^ 62) <= lo) (h2:lo < 2 ^ 62) (h3:-(2 ^ 62) <= hi) (h4:hi < 2 ^ 62)
    (q:R (Itr lo (hi - lo).toNat) H):wpAny (model X.prog X.w) X.A (pyIter (.ref s.heap.objs.size)) (PIE X pins σ tg R) E { s with heap:=s.heap.push { cls:=.type "range",data:=.fields #[.int lo t,.int hi u,.int 1 v] },toks:=tk }:=by
  refine wpAny_pyIter_range (IsRange.new ..) (small_one h1 h2 h3 h4) ?_
  have I1:Inv X pins σ H { s with heap:=s.heap.push { cls:=.type "range",data:=.fields #[.int lo t,.int hi u,.int 1 v] },toks:=tk }:=I.kept fun b o e=>Heap.get?_push_of_some _ e
  refine ⟨(s.heap.push { cls:=.type "range",data:=.fields #[.int lo t,.int hi u,.int 1 v] }).objs.size,[(s.heap.push { cls:=.type "range",data:=.fields #[.int lo t,.int hi u,.int 1 v] }).objs.size],_,_,H,rfl,
    I1.kept (t':=tk) fun b o e=>Heap.get?_push_of_some _ e,FF _ lo (hi - lo).toNat,?_,fun b hb=>?_,q⟩
  . have e1:lo + ((0:Nat):Int) * 1=lo:=by simp
    have e2:(((hi - lo).toNat:Nat):Int) - ((0:Nat):Int)=Builtin.Range.rangeSize lo hi 1:=by rw [rangeSize_one];split <;> omega
    show IsRangeIter _ _ (lo + ((0:Nat):Int) * 1) ((((hi - lo).toNat:Nat):Int) - ((0:Nat):Int)) 1
    rw [e1,e2]
    exact Heap.get?_push_size _ rfl
  . have e:b=(s.heap.push { cls:=.type "range",data:=.fields #[.int lo t,.int hi u,.int 1 v] }).objs.size:=by simpa using hb
    subst e
    exact I1.fpOk (Nat.le_refl _) (I1.hok.fresh (Nat.le_refl _))
noncomputable def iRng1 (ta:TA):TI:=fun σ H R=>ta σ H fun vs H1=>∃ j:Int,vs=[.int j] /\ -(2 ^ 62) <= j /\ j < 2 ^ 62 /\ R (Itr 0 j.toNat) H1
noncomputable def iRng2 (ta:TA):TI:=fun σ H R=>ta σ H fun vs H1=>∃ i j:Int,vs=[.int i,.int j] /\ (-(2 ^ 62) <= i /\ i < 2 ^ 62 /\ -(2 ^ 62) <= j /\ j < 2 ^ 62) /\ R (Itr i (j - i).toNat) H1
theorem Ja {a:Expr}{ta:TA}{p pos:Pos} (hg:Gl X "range") (hm:X.mg "range"=none) (ha:PA X [a] ta) (hs:starEach [a] X.env=[(false,eval a X.env)]:=by rfl):PI X tg (.Call (.Name "range" p) [a] [] pos) (iRng1 ta):=by
  intro pins s σ H R I h
  refine Call_ (oP I hg hm boot_range (PyProof.Rows.callWith_type1 (thn (ha pos pins s σ H _ I h) fun us s1 ⟨vs,H1,I1,r1,q1⟩=>?_) hs rfl))
  obtain ⟨j,e,q1,q2,q⟩:=q1
  subst e
  cases r1 with
  | cons r rr =>
    cases rr
    obtain ⟨t,rfl⟩:=r
    exact call_range_1 (DB I1 (by omega) (by omega) q1 q2 (by simpa using q))
theorem Jb {a b:Expr}{ta:TA}{p pos:Pos} (hg:Gl X "range") (hm:X.mg "range"=none) (ha:PA X [a,b] ta) (hs:starEach [a,b] X.env=[(false,eval a X.env),(false,eval b X.env)]:=by rfl) (hs2:starEach [b] X.env=[(false,eval b X.env)]:=by rfl) :
    PI X tg (.Call (.Name "range" p) [a,b] [] pos) (iRng2 ta):=by
  intro pins s σ H R I h
  refine Call_ (oP I hg hm boot_range (PyProof.Rows.callWith_type1 (thn (ha pos pins s σ H _ I h) fun us s1 ⟨vs,H1,I1,r1,q1⟩=>?_) (by rw [hs,hs2]) (by rw [hs2];rfl)))
  obtain ⟨i,j,e,⟨q1,q2,q3,q4⟩,q⟩:=q1
  subst e
  cases r1 with
  | cons r rr =>
    cases rr with
    | cons r' rr =>
      cases rr
      obtain ⟨t,rfl⟩:=r
      obtain ⟨t',rfl⟩:=r'
      exact call_range_2 (DB I1 q1 q2 q3 q4 q)
noncomputable def tFor (wi:TI) (g:TG) (tb:TS):TS:=fun D σ H=>wi σ H fun J H1=>∃ W:Nat->Nat->St->Hp->Prop,(∃ m,W 0 m σ H1) /\ ∀ i m σ H,W i m σ H ->
  (J.stop i H /\ D.nx σ H) \/ (J.go i H /\ ∃ N:St->Hp->Prop,(∀ σ' H',N σ' H'->∃ m',m' < m /\ W (i + 1) m' σ' H') /\ ∀ x H',J.yld i H x H'->g x σ H' fun σ2 H2=>tb { D with nx:=N,ct:=N,bk:=D.nx } σ2 H2)
noncomputable def pinsAt (fp:List Addr) (h:Heap):List (Addr × Obj):=fp.filterMap fun b=>(h.get? b).map fun o=>(b,o)
theorem oo {fp:List Addr}{h:Heap}{b:Addr}{o:Obj} (hb:b ∈ fp) (e:h.get? b=some o):(b,o) ∈ pinsAt fp h:=List.mem_filterMap.mpr ⟨b,hb,by rw [e];rfl⟩
theorem Jc {fp:List Addr}{h:Heap}{p:Addr × Obj} (hp:p ∈ pinsAt fp h):p.1 ∈ fp /\ h.get? p.1=some p.2:=by
  obtain ⟨b,hb,e⟩:=List.mem_filterMap.mp hp
  cases q:h.get? b with
  | none=>rw [q] at e;cases e
  | some o =>
    rw [q] at e
    have e':(b,o)=p:=Option.some.inj e
    subst e'
    exact ⟨hb,q⟩
theorem Inv.pinned {pins:List (Addr × Obj)}{σ:St}{H:Hp}{s:Shared}{fp:List Addr} (I:Inv X pins σ H s) (hf:∀ b ∈ fp,FpOk X pins H b) (ho:∀ b ∈ fp,∃ o,s.heap.get? b=some o /\ ∀ v,o.data ≠ .cell v):Inv X (pins ++ pinsAt fp s.heap) σ H s :=
  I.pins_of fun p hp=>(List.mem_append.mp hp).elim (fun z=>I.pin p (List.mem_append_right _ z)) fun z=>by
    obtain ⟨hb,e⟩:=Jc z
    obtain ⟨f0,f1,f2,_⟩:=hf p.1 hb
    obtain ⟨o,e',d⟩:=ho p.1 hb
    rw [e] at e';cases e'
    exact ⟨e,f0,f1,f2,d⟩
theorem Inv.unpinned {pins pl:List (Addr × Obj)}{σ:St}{H:Hp}{s:Shared} (I:Inv X (pins ++ pl) σ H s):Inv X pins σ H s:=I.pins_of fun p hp=>I.pin p (List.mem_append_right _ (List.mem_append_left _ hp))
theorem NB {iter:Expr}{body:List Stmt}{wi:TI}{g:TG}{tb:TS}{pos:Pos} (hp:PassesOwn (model X.prog X.w) X.A X.env X.xe) (hc:X.calm=true) (hi:PI X tg iter wi) (hg:PG X tg g) (hb:PSs X body tb)
    (hs:∀ x,foldedSetIterable iter X.env x=pure x:=by intro _;rfl):PS X (.For tg iter body [] pos) (tFor wi g tb):=by
  intro pins s σ H D I h
  refine wpAny_For (thn (hi pins s σ H _ I h) fun v s1 h1=>thn h1 fun itv s2 h2=>?_) hs
  obtain ⟨it,fp,tn,J,H2,e,I2,T,st2,f2,W,⟨m0,w0⟩,turn⟩:=h2
  subst e
  -- what stays true of the iterator's objects through the loop
  have stat:∀ {H':Hp},(∀ b ∈ fp,H' b=none)->∀ b ∈ fp,FpOk X pins H' b:=fun hn b hb=>⟨hn b hb,(f2 b hb).2⟩
  refine codeAny_forLoop_any (fun n s'=>∃ i σ' H',Inv X pins σ' H' s' /\ tn i s'.heap /\ (∀ b ∈ fp,H' b=none) /\ W i n σ' H') ?_ m0 ⟨0,σ,H2,I2,st2,fun b hb=>(f2 b hb).1,w0⟩
  rintro n s3 ⟨i,σ3,H3,I3,st3,fr3,w3⟩
  rcases turn i n σ3 H3 w3 with ⟨stop,qn⟩ | ⟨go,N,hN,step⟩
  . refine wpAny_passesOwn hp (thn (T.done X rfl rfl rfl hc i pins s3 σ3 H3 X.xe I3 (stat fr3) st3 stop) fun r s4 ⟨hr,I4⟩=>?_)
    subst hr
    exact wpAny_execs_nil ⟨σ3,H3,I4,qn⟩
  . refine wpAny_passesOwn hp (thn (T.item X rfl rfl rfl hc i pins s3 σ3 H3 X.xe I3 (stat fr3) st3 go) fun r s4 ⟨u,hr,h4⟩=>?_)
    subst hr
    refine wpAny_passesOwn hp (thn h4 fun _ s5 ⟨x,H5,I5,r5,y5,st5,fr5⟩=>?_)
    have I5':=I5.pinned (stat fr5) (T.obj _ _ st5)
    refine wpAny_passesOwn hp (thn (hg _ s5 σ3 H5 x u _ I5' r5 (step x H5 y5)) fun _ s6 ⟨σ6,H6,I6,q6⟩=>?_)
    refine wpAny_passesOwn hp (thn (hb _ s6 σ6 H6 _ I6 q6) fun f s7 q7=>?_)
    have again:∀ {σ7:St}{H7:Hp},Inv X (pins ++ pinsAt fp s5.heap) σ7 H7 s7->N σ7 H7->∃ m,m < n /\ ∃ i σ' H',Inv X pins σ' H' s7 /\ tn i s7.heap /\ (∀ b ∈ fp,H' b=none) /\ W i m σ' H':=fun {σ7 H7} I7 n7=>by
      obtain ⟨m',hm,w7⟩:=hN σ7 H7 n7
      refine ⟨m',hm,i + 1,σ7,H7,I7.unpinned,T.keep _ _ _ st5 fun b hb o e=>(I7.pin (b,o) (List.mem_append_right _ (List.mem_append_right _ (oo hb e)))).1,fun b hb=>?_,w7⟩
      obtain ⟨o,e,d⟩:=T.obj _ _ st5 b hb
      exact (I7.pin (b,o) (List.mem_append_right _ (List.mem_append_right _ (oo hb e)))).2.1
    cases f with
    | next=>obtain ⟨σ7,H7,I7,n7⟩:=q7;exact again I7 n7
    | cont=>obtain ⟨σ7,H7,I7,n7⟩:=q7;exact again I7 n7
    | brk=>obtain ⟨σ7,H7,I7,q7⟩:=q7;exact ⟨σ7,H7,I7.unpinned,q7⟩
    | ret v=>obtain ⟨x7,σ7,H7,I7,r7,q7⟩:=q7;exact ⟨x7,σ7,H7,I7.unpinned,r7,q7⟩
end
end L2
namespace L2
open PySem PySem.Spec PyProof.Rows
noncomputable abbrev R2:=V->V->Hp->VK->Prop
noncomputable def OpR (X:Cx) (f:Value->Value->Sem Value) (r:R2):Prop :=
  ∀ (pins:List (Addr × Obj)) (s:Shared) (σ:St) (H:Hp) (x y:V) (v u:Value) (Q:VK),Inv X pins σ H s->RelV x v->RelV y u->r x y H Q ->
    wpAny (model X.prog X.w) X.A (f v u) (EP X pins σ Q) X.xe s
noncomputable def UnR (X:Cx) (f:Value->Sem Value) (r:V->Hp->VK->Prop):Prop :=
  ∀ (pins:List (Addr × Obj)) (s:Shared) (σ:St) (H:Hp) (x:V) (v:Value) (Q:VK),Inv X pins σ H s->RelV x v->r x H Q ->
    wpAny (model X.prog X.w) X.A (f v) (EP X pins σ Q) X.xe s
noncomputable def CallR (X:Cx) (f:Value) (r:List V->Hp->VK->Prop):Prop :=
  ∀ (pins:List (Addr × Obj)) (s:Shared) (σ:St) (H:Hp) (xs:List V) (us:List Value) (Q:VK),Inv X pins σ H s->Vals xs us->r xs H Q ->
    wpAny (model X.prog X.w) X.A (call f us) (EP X pins σ Q) X.xe s
noncomputable def tOp (r:R2) (ta tb:TE):TE:=fun σ H Q=>ta σ H fun x H1=>tb σ H1 fun y H2=>r x y H2 Q
noncomputable def tUn (r:V->Hp->VK->Prop) (ta:TE):TE:=fun σ H Q=>ta σ H fun x H1=>r x H1 Q
noncomputable def rI (C:Int->Int->Prop) (g:Int->Int->V):R2:=fun x y H Q=>∃ i j,x=.int i /\ y=.int j /\ C i j /\ Q (g i j) H
noncomputable def rI0 (g:Int->Int->V):R2:=fun x y H Q=>∃ i j,x=.int i /\ y=.int j /\ Q (g i j) H
noncomputable def rU (g:Int->V):V->Hp->VK->Prop:=fun x H Q=>∃ i,x=.int i /\ Q (g i) H
section
variable {X : Cx} {a b c : Expr} {ta tb tc : TE} {pos : Pos}
theorem binT (ha:PE X a ta) (hb:PE X b tb) {pins:List (Addr × Obj)}{s:Shared}{σ:St}{H:Hp}{R:V->V->Hp->Prop} (I:Inv X pins σ H s)
    (h:ta σ H fun x H1=>tb σ H1 fun y H2=>R x y H2) {Q:Value->Shared->Prop}{f:Value->Value->Sem Value}
    (hf:∀ v u s2 x y H2,Inv X pins σ H2 s2->RelV x v->RelV y u->R x y H2->wpAny (model X.prog X.w) X.A (f v u) Q X.xe s2) :
    wpAny (model X.prog X.w) X.A (eval a X.env) (fun v s₁=>wpAny (model X.prog X.w) X.A (eval b X.env) (fun u s₂=>wpAny (model X.prog X.w) X.A (f v u) Q X.xe s₂) X.xe s₁) X.xe s:=by
  refine thn (ha pins s σ H _ I h) fun v s1 ⟨x,H1,I1,r1,q1⟩=>?_
  refine thn (hb pins s1 σ H1 _ I1 q1) fun u s2 ⟨y,H2,I2,r2,q2⟩=>?_
  exact hf v u s2 x y H2 I2 r1 r2 q2
theorem DC {op:Operator}{r:R2} (ho:OpR X (binaryOp op) r) (ha:PE X a ta) (hb:PE X b tb):PE X (.BinOp a op b pos) (tOp r ta tb):=by
  intro pins s σ H Q I h
  exact wpAny_BinOp (binT ha hb I h fun v u s2 x y H2 I2 rx ry q=>ho pins s2 σ H2 x y v u Q I2 rx ry q)
theorem Na {op:UnaryOp}{r:V->Hp->VK->Prop} (ho:UnR X (unaryOp op) r) (ha:PE X a ta):PE X (.UnaryOp op a pos) (tUn r ta):=by
  intro pins s σ H Q I h
  exact UnaryOp_ (thn (ha pins s σ H _ I h) fun v s1 ⟨x,H1,I1,r1,q1⟩=>ho pins s1 σ H1 x v Q I1 r1 q1)
theorem opI {f:Value->Value->Sem Value}{C:Int->Int->Prop}{g:Int->Int->Int}
    (rule:∀ (i j:Int) (t u:Tok) (s:Shared) (Q:Value->Shared->Prop) (E:Value->Shared->Prop),C i j->Q (.int (g i j) s.toks) { s with toks:=s.toks + 1 }->wpAny (model X.prog X.w) X.A (f (.int i t) (.int j u)) Q E s) :
    OpR X f (rI C fun i j=>.int (g i j)):=by
  intro pins s σ H x y v u Q I rx ry h
  obtain ⟨i,j,rfl,rfl,hc,q⟩:=h
  obtain ⟨t,rfl⟩:=rx
  obtain ⟨t',rfl⟩:=ry
  exact rule i j t t' s _ _ hc ⟨.int (g i j),H,I.tok _,⟨_,rfl⟩,q⟩
theorem opI0 {f:Value->Value->Sem Value}{g:Int->Int->Int}
    (rule:∀ (i j:Int) (t u:Tok) (s:Shared) (Q:Value->Shared->Prop) (E:Value->Shared->Prop),Q (.int (g i j) s.toks) { s with toks:=s.toks + 1 }->wpAny (model X.prog X.w) X.A (f (.int i t) (.int j u)) Q E s) :
    OpR X f (rI0 fun i j=>.int (g i j)):=by
  intro pins s σ H x y v u Q I rx ry h
  obtain ⟨i,j,rfl,rfl,q⟩:=h
  obtain ⟨t,rfl⟩:=rx
  obtain ⟨t',rfl⟩:=ry
  exact rule i j t t' s _ _ ⟨.int (g i j),H,I.tok _,⟨_,rfl⟩,q⟩
theorem opB0 {f:Value->Value->Sem Value}{g:Int->Int->Bool}
    (rule:∀ (i j:Int) (t u:Tok) (s:Shared) (Q:Value->Shared->Prop) (E:Value->Shared->Prop),Q (.bool (g i j)) s->wpAny (model X.prog X.w) X.A (f (.int i t) (.int j u)) Q E s) :
    OpR X f (rI0 fun i j=>.bl (g i j)):=by
  intro pins s σ H x y v u Q I rx ry h
  obtain ⟨i,j,rfl,rfl,q⟩:=h
  obtain ⟨t,rfl⟩:=rx
  obtain ⟨t',rfl⟩:=ry
  exact rule i j t t' s _ _ ⟨.bl (g i j),H,I,rfl,q⟩
noncomputable def CDiv (i j:Int):Prop:=0 < j /\ j < 1073741824
noncomputable def CPow (i j:Int):Prop:=0 <= j /\ j <= 1000000 /\ i.natAbs < 2 ^ 64
noncomputable def CMul (i j:Int):Prop:=(-(2 ^ 64) < i /\ i < 2 ^ 64) \/ (-(2 ^ 64) < j /\ j < 2 ^ 64)
theorem CMul.ok {i j:Int} (h:CMul i j):IntMulOk i j:=by
  rcases h with ⟨h1,h2⟩ | ⟨h1,h2⟩
  . exact .of_left (intBits_le_64 h1 h2)
  . exact .of_right (intBits_le_64 h1 h2)
theorem NC:OpR X (binaryOp .Add) (rI0 fun i j=>.int (i + j)):=opI0 fun _ _ _ _ _ _ _ q=>add_int q
theorem jJ:OpR X (binaryOp .Sub) (rI0 fun i j=>.int (i - j)):=opI0 fun _ _ _ _ _ _ _ q=>sub_int q
theorem ND:OpR X (binaryOp .Mult) (rI CMul fun i j=>.int (i * j)):=opI fun _ _ _ _ _ _ _ hc q=>mul_int q hc.ok
theorem CM:OpR X (binaryOp .FloorDiv) (rI CDiv fun i j=>.int (i / j)):=opI fun i j _ _ _ _ _ hc q=>by
  have h1:(0:Int) < j:=hc.1
  have h2:j < 1073741824:=hc.2
  exact floordiv_int (by omega) (by rw [Int.fdiv_eq_ediv_of_nonneg i (by omega)];exact q) (.inl (PyProof.noPylong_small (by omega)))
theorem CN:OpR X (binaryOp .Mod) (rI (fun _ j=>0 < j) fun i j=>.int (i % j)):=opI fun i j _ _ _ _ _ hc q=>by
  have h1:(0:Int) < j:=hc
  exact mod_int' (by omega) (by rw [Int.fmod_eq_emod_of_nonneg i (by omega)];exact q)
theorem oQ:OpR X (binaryOp .Pow) (rI CPow fun i j=>.int (i ^ j.toNat)):=opI fun _ _ _ _ _ _ _ hc q=>pow_int_small hc.1 hc.2.1 hc.2.2 q
theorem unI {f:Value->Sem Value}{g:Int->Int}
    (rule:∀ (i:Int) (t:Tok) (s:Shared) (Q:Value->Shared->Prop) (E:Value->Shared->Prop),Q (.int (g i) s.toks) { s with toks:=s.toks + 1 }->wpAny (model X.prog X.w) X.A (f (.int i t)) Q E s) :
    UnR X f (rU fun i=>.int (g i)):=by
  intro pins s σ H x v Q I rx h
  obtain ⟨i,rfl,q⟩:=h
  obtain ⟨t,rfl⟩:=rx
  exact rule i t s _ _ ⟨.int (g i),H,I.tok _,⟨_,rfl⟩,q⟩
theorem JW:UnR X (unaryOp .USub) (rU fun i=>.int (-i)):=unI fun _ _ _ _ _ q=>neg_int q
end
noncomputable def scal:V->V->Bool
  | .non,.non=>true | .non,.int _=>true | .int _,.non=>true | .non,.bl _=>true | .bl _,.non=>true | .non,.str _=>true | .str _,.non=>true
  | .int _,.int _=>true | .bl _,.bl _=>true | .str _,.str _=>true | .byt _,.byt _=>true
  | .int _,.str _=>true | .str _,.int _=>true | .bl _,.str _=>true | .str _,.bl _=>true
  | _,_=>false
noncomputable def rEq:R2:=fun x y H Q=>scal x y=true /\ Q (.bl (decide (x=y))) H
noncomputable def rNe:R2:=fun x y H Q=>scal x y=true /\ Q (.bl (!decide (x=y))) H
theorem Gq {i j:Int}:decide (V.int i=V.int j)=(i == j):=by
  rw [Bool.eq_iff_iff]
  simp
theorem JX {i j:Bool}:decide (V.bl i=V.bl j)=(i == j):=by
  rw [Bool.eq_iff_iff]
  simp
theorem Gr {i j:Str}:decide (V.str i=V.str j)=(i == j):=by
  rw [Bool.eq_iff_iff]
  simp
theorem Gs {i j:Array UInt8}:decide (V.byt i=V.byt j)=(i.toList == j.toList):=by
  rw [Bool.eq_iff_iff]
  cases i
  cases j
  simp
section
variable {X : Cx} {a b c : Expr} {ta tb tc : TE} {pos : Pos}
theorem gJ {pins:List (Addr × Obj)}{σ:St}{H:Hp}{s:Shared}{Q:VK}{k k':Bool} (I:Inv X pins σ H s) (q:Q (.bl k) H) (e:k=k'):EP X pins σ Q (.bool k') s:=by
  subst e
  exact ⟨.bl k,H,I,rfl,q⟩
theorem OF:OpR X (compareOp .Eq) rEq:=by
  intro pins s σ H x y v u Q I rx ry h
  obtain ⟨hs,q⟩:=h
  cases x with
  | non =>
    cases rx
    cases y with
    | non=>cases ry;exact PySem.EqNone.eq_none_none (gJ I q (by simp))
    | bl j=>cases ry;exact PySem.EqNone.eq_none_bool (gJ I q (by simp))
    | int j=>obtain ⟨t',rfl⟩:=ry;exact PySem.EqNone.eq_none_int (gJ I q (by simp))
    | str j=>obtain ⟨t',rfl⟩:=ry;exact PySem.EqNone.eq_none_str (gJ I q (by simp))
    | _=>exact absurd (show false=true from hs) Bool.false_ne_true
  | bl i =>
    cases rx
    cases y with
    | non=>cases ry;exact PySem.EqNone.eq_bool_none (gJ I q (by simp))
    | bl j=>cases ry;exact eq_bool (gJ I q JX)
    | str j=>obtain ⟨t',rfl⟩:=ry;exact PySem.EqMixed.eq_bool_str (gJ I q (by simp))
    | _=>exact absurd (show false=true from hs) Bool.false_ne_true
  | int i =>
    obtain ⟨t,rfl⟩:=rx
    cases y with
    | non=>cases ry;exact PySem.EqNone.eq_int_none (gJ I q (by simp))
    | int j=>obtain ⟨t',rfl⟩:=ry;exact eq_int (gJ I q Gq)
    | str j=>obtain ⟨t',rfl⟩:=ry;exact PySem.EqMixed.eq_int_str (gJ I q (by simp))
    | _=>exact absurd (show false=true from hs) Bool.false_ne_true
  | str i =>
    obtain ⟨t,rfl⟩:=rx
    cases y with
    | non=>cases ry;exact PySem.EqNone.eq_str_none (gJ I q (by simp))
    | bl j=>cases ry;exact PySem.EqMixed.eq_str_bool (gJ I q (by simp))
    | int j=>obtain ⟨t',rfl⟩:=ry;exact PySem.EqMixed.eq_str_int (gJ I q (by simp))
    | str j=>obtain ⟨t',rfl⟩:=ry;exact eq_str (gJ I q Gr)
    | _=>exact absurd (show false=true from hs) Bool.false_ne_true
  | byt i =>
    obtain ⟨t,rfl⟩:=rx
    cases y with
    | byt j=>obtain ⟨t',rfl⟩:=ry;exact PySem.W.eq_bytes (gJ I q Gs)
    | _=>exact absurd (show false=true from hs) Bool.false_ne_true
  | _=>cases y <;> exact absurd (show false=true from hs) Bool.false_ne_true
theorem Nb:OpR X (compareOp .NotEq) rNe:=by
  intro pins s σ H x y v u Q I rx ry h
  obtain ⟨hs,q⟩:=h
  cases x with
  | non =>
    cases rx
    cases y with
    | non=>cases ry;exact PySem.EqNone.ne_none_none (gJ I q (by simp))
    | bl j=>cases ry;exact PySem.EqNone.ne_none_bool (gJ I q (by simp))
    | int j=>obtain ⟨t',rfl⟩:=ry;exact PySem.EqNone.ne_none_int (gJ I q (by simp))
    | str j=>obtain ⟨t',rfl⟩:=ry;exact PySem.EqNone.ne_none_str (gJ I q (by simp))
    | _=>exact absurd (show false=true from hs) Bool.false_ne_true
  | bl i =>
    cases rx
    cases y with
    | non=>cases ry;exact PySem.EqNone.ne_bool_none (gJ I q (by simp))
    | bl j=>cases ry;exact ne_bool (gJ I q (congrArg not JX))
    | str j=>obtain ⟨t',rfl⟩:=ry;exact PySem.EqMixed.ne_bool_str (gJ I q (by simp))
    | _=>exact absurd (show false=true from hs) Bool.false_ne_true
  | int i =>
    obtain ⟨t,rfl⟩:=rx
    cases y with
    | non=>cases ry;exact PySem.EqNone.ne_int_none (gJ I q (by simp))
    | int j=>obtain ⟨t',rfl⟩:=ry;exact ne_int (gJ I q (congrArg not Gq))
    | str j=>obtain ⟨t',rfl⟩:=ry;exact PySem.EqMixed.ne_int_str (gJ I q (by simp))
    | _=>exact absurd (show false=true from hs) Bool.false_ne_true
  | str i =>
    obtain ⟨t,rfl⟩:=rx
    cases y with
    | non=>cases ry;exact PySem.EqNone.ne_str_none (gJ I q (by simp))
    | bl j=>cases ry;exact PySem.EqMixed.ne_str_bool (gJ I q (by simp))
    | int j=>obtain ⟨t',rfl⟩:=ry;exact PySem.EqMixed.ne_str_int (gJ I q (by simp))
    | str j=>obtain ⟨t',rfl⟩:=ry;exact ne_str (gJ I q (congrArg not Gr))
    | _=>exact absurd (show false=true from hs) Bool.false_ne_true
  | byt i =>
    obtain ⟨t,rfl⟩:=rx
    cases y with
    | byt j=>obtain ⟨t',rfl⟩:=ry;exact PySem.W.ne_bytes (gJ I q (congrArg not Gs))
    | _=>exact absurd (show false=true from hs) Bool.false_ne_true
  | _=>cases y <;> exact absurd (show false=true from hs) Bool.false_ne_true
theorem OG:OpR X (compareOp .Lt) (rI0 fun i j=>.bl (decide (i < j))):=opB0 fun _ _ _ _ _ _ _ q=>lt_int q
theorem OH:OpR X (compareOp .LtE) (rI0 fun i j=>.bl (decide (i <= j))):=opB0 fun _ _ _ _ _ _ _ q=>le_int q
theorem Nc:OpR X (compareOp .Gt) (rI0 fun i j=>.bl (decide (j < i))):=opB0 fun _ _ _ _ _ _ _ q=>gt_int q
theorem JY:OpR X (compareOp .GtE) (rI0 fun i j=>.bl (decide (j <= i))):=opB0 fun _ _ _ _ _ _ _ q=>ge_int q
theorem OpR.or {f:Value->Value->Sem Value}{r r':R2} (h:OpR X f r) (h':OpR X f r'):OpR X f (fun x y H Q=>r x y H Q \/ r' x y H Q):=by
  intro pins s σ H x y v u Q I rx ry q
  rcases q with q | q
  . exact h pins s σ H x y v u Q I rx ry q
  . exact h' pins s σ H x y v u Q I rx ry q
theorem nomark (b:Expr) {op:CmpOp} (h:op ≠ .In:=by decide) (h2:op ≠ .NotIn:=by decide):behindInMarks op b=false:=by
  have e1:(op == CmpOp.In)=false:=by cases op <;> first | rfl | exact absurd rfl h
  have e2:(op == CmpOp.NotIn)=false:=by cases op <;> first | rfl | exact absurd rfl h2
  cases b <;> simp [behindInMarks,e1,e2]
theorem Mi {op:CmpOp}{r:R2} (ho:OpR X (compareOp op) r) (ha:PE X a ta) (hb:PE X b tb) (hm:behindInMarks op b=false):PE X (.Compare a [op] [b] pos) (tOp r ta tb):=by
  intro pins s σ H Q I h
  exact wpAny_Compare1 (binT ha hb I h fun v u s2 x y H2 I2 rx ry q=>ho pins s2 σ H2 x y v u Q I2 rx ry q) hm
noncomputable def tTest (t:TE):TT:=fun σ H Q=>t σ H fun x H'=>∃ k,x=.bl k /\ Q k H'
theorem Gu {op:CmpOp}{r:R2} (ho:OpR X (compareOp op) r) (ha:PE X a ta) (hb:PE X b tb) (hm:behindInMarks op b=false):PT X (.Compare a [op] [b] pos) (tTest (tOp r ta tb)):=by
  intro pins s σ H Q I h
  refine wpAny_isTrue_Compare1 (thn (ha pins s σ H _ I h) fun v s1 ⟨x,H1,I1,r1,q1⟩=>thn (hb pins s1 σ H1 _ I1 q1) fun u s2 ⟨y,H2,I2,r2,q2⟩ =>
    thn (ho pins s2 σ H2 x y v u _ I2 r1 r2 q2) fun c s3 ⟨z,H3,I3,r3,k,e,q3⟩=>?_) hm
  subst e
  cases r3
  exact wpAny_truthy_bool ⟨H3,I3,q3⟩
noncomputable def tChain (r r':R2) (ta tb tc:TE):TE:=fun σ H Q=>ta σ H fun x H1=>tb σ H1 fun y H2=>r x y H2 fun z H3=>∃ k,z=.bl k /\
  (if k=true then tc σ H3 fun w' H4=>r' y w' H4 Q else Q (.bl false) H3)
theorem JZ {op op':CmpOp}{r r':R2} (ho:OpR X (compareOp op) r) (ho':OpR X (compareOp op') r') (ha:PE X a ta) (hb:PE X b tb) (hc:PE X c tc)
    (hm:lastMarks [op,op'] [b,c]=false:=by with_unfolding_all rfl):PE X (.Compare a [op,op'] [b,c] pos) (tChain r r' ta tb tc):=by
  intro pins s σ H Q I h
  refine Compare_chain (thn (ha pins s σ H _ I h) fun v s1 ⟨x,H1,I1,r1,q1⟩=>chain_link (thn (hb pins s1 σ H1 _ I1 q1) fun u s2 ⟨y,H2,I2,r2,q2⟩ =>
    thn (ho pins s2 σ H2 x y v u _ I2 r1 r2 q2) fun d s3 ⟨z,H3,I3,r3,k,e,q3⟩=>?_)) hm
  subst e
  cases r3
  refine wpAny_truthy_bool ?_
  cases k with
  | false=>exact ite_ff ⟨.bl false,H3,I3,rfl,q3⟩
  | true=>exact ite_tt (chain_last (thn (hc pins s3 σ H3 _ I3 q3) fun w' s4 ⟨z',H4,I4,r4,q4⟩=>ho' pins s4 σ H4 y z' u w' Q I4 r2 r4 q4))
theorem J0 {op op':CmpOp}{r r':R2} (ho:OpR X (compareOp op) r) (ho':OpR X (compareOp op') r') (ha:PE X a ta) (hb:PE X b tb) (hc:PE X c tc)
    (hm:lastMarks [op,op'] [b,c]=false:=by with_unfolding_all rfl):PT X (.Compare a [op,op'] [b,c] pos) (tTest (tChain r r' ta tb tc)):=by
  intro pins s σ H Q I h
  refine isTrue_chain (thn (ha pins s σ H _ I h) fun v s1 ⟨x,H1,I1,r1,q1⟩=>test_link (thn (hb pins s1 σ H1 _ I1 q1) fun u s2 ⟨y,H2,I2,r2,q2⟩ =>
    thn (ho pins s2 σ H2 x y v u _ I2 r1 r2 q2) fun d s3 ⟨z,H3,I3,r3,k,e,q3⟩=>?_)) hm
  subst e
  cases r3
  refine wpAny_truthy_bool ?_
  cases k with
  | false =>
    obtain ⟨k',e',q'⟩:=q3
    cases e'
    exact ite_ff ⟨H3,I3,q'⟩
  | true =>
    refine ite_tt (test_last (thn (hc pins s3 σ H3 _ I3 q3) fun w' s4 ⟨z',H4,I4,r4,q4⟩=>thn (ho' pins s4 σ H4 y z' u w' _ I4 r2 r4 q4) fun d' s5 ⟨z2,H5,I5,r5,k2,e2,q5⟩=>?_))
    subst e2
    cases r5
    exact wpAny_truthy_bool ⟨H5,I5,q5⟩
theorem line63:(sizeLine:Nat) < 2 ^ 63:=by rw [sizeLine_eq];decide
theorem FG:OpR X (binaryOp .Add) (fun x y H Q=>∃ i j,x=.str i /\ y=.str j /\ i.length + j.length <= sizeLine /\ Q (.str (i ++ j)) H):=by
  intro pins s σ H x y v u Q I rx ry h
  obtain ⟨i,j,rfl,rfl,hz,q⟩:=h
  obtain ⟨t,rfl⟩:=rx
  obtain ⟨t',rfl⟩:=ry
  exact add_str (fun t' tk=>⟨.str (i ++ j),H,I.tok _,⟨_,rfl⟩,q⟩) hz
theorem vals1 {x:V}{us:List Value} (r:Vals [x] us):∃ u,us=[u] /\ RelV x u:=by
  cases r with
  | cons r1 r2=>cases r2;exact ⟨_,rfl,r1⟩
theorem vals2 {x y:V}{us:List Value} (r:Vals [x,y] us):∃ u w',us=[u,w'] /\ RelV x u /\ RelV y w':=by
  cases r with
  | cons r1 r2 =>
    cases r2 with
    | cons r3 r4=>cases r4;exact ⟨_,_,rfl,r1,r3⟩
theorem Ab (hc:X.calm=true):CallR X (.builtin "max") (fun xs H Q=>∃ i j,xs=[.int i,.int j] /\ Q (.int (if j > i then j else i)) H):=by
  intro pins s σ H xs us Q I r h
  obtain ⟨i,j,rfl,q⟩:=h
  obtain ⟨u,w',rfl,⟨t,rfl⟩,⟨t',rfl⟩⟩:=vals2 r
  refine max_two_ints (I.ok.hd hc) fun h' tk k=>⟨_,H,I.kept k,?_,q⟩
  by_cases hj:j > i
  . rw [if_pos hj,if_pos hj];exact ⟨_,rfl⟩
  . rw [if_neg hj,if_neg hj];exact ⟨_,rfl⟩
theorem Jd (hc:X.calm=true):CallR X (.builtin "min") (fun xs H Q=>∃ i j,xs=[.int i,.int j] /\ Q (.int (if j < i then j else i)) H):=by
  intro pins s σ H xs us Q I r h
  obtain ⟨i,j,rfl,q⟩:=h
  obtain ⟨u,w',rfl,⟨t,rfl⟩,⟨t',rfl⟩⟩:=vals2 r
  refine min_two_ints (I.ok.hd hc) fun h' tk k=>⟨_,H,I.kept k,?_,q⟩
  by_cases hj:j < i
  . rw [if_pos hj,if_pos hj];exact ⟨_,rfl⟩
  . rw [if_neg hj,if_neg hj];exact ⟨_,rfl⟩
end
end L2
namespace L2
open PySem PySem.Spec PyProof.Rows
structure ObjM (h:Heap) (x dx C:Addr) (mA:Str->Option Value):Prop where
  obj:h.get? x=some (PySem.W.instObj C dx)
  ns:h.Ns1 dx mA
  ne:dx ≠ x
theorem Je {h:Heap}{dx:Addr}{mA:Str->Option Value} (n:h.Ns1 dx mA):∃ od,h.get? dx=some od /\ ∀ name,PySem.W.lookIn name od=some (mA name):=by
  obtain ⟨o,es,ep,ho,hd,hk,_,hm⟩:=n
  refine ⟨o,ho,fun name=>?_⟩
  have e:=hm name
  unfold nsFind findBy at e
  rw [<-Array.find?_toList] at e
  unfold PySem.W.lookIn
  rw [hd]
  dsimp only
  split
  . rename_i y q
    rw [q] at e
    exact congrArg some e
  . rename_i q
    rw [q] at e
    have a:es.toList.any (·.refKey)=false:=by
      rw [List.any_eq_false]
      intro y hy
      obtain ⟨z,t,hkey⟩:=hk y (Array.mem_toList_iff.mp hy)
      simp [DictEntry.refKey,hkey]
    have a':¬ es.toList.any (·.refKey)=true:=by rw [a];exact Bool.false_ne_true
    rw [if_neg a']
    exact congrArg some e
theorem ObjM.look {h:Heap}{x dx C:Addr}{mA:Str->Option Value} (I:ObjM h x dx C mA):∃ od,PySem.W.InstAt h x (PySem.W.instObj C dx) C (some od) /\ ∀ name,PySem.W.lookIn name od=some (mA name) :=
  let ⟨od,ho,hl⟩:=Je I.ns
  ⟨od,⟨I.obj,rfl,rfl,ho⟩,hl⟩
section
variable {prog : Program} {w : World} {A : Around} {E : Value -> Shared -> Prop} {s : Shared} {K : PySem.W.Frag} {x dx C f : Addr} {mA : Str -> Option Value} {name : Str} {v : Value}
end
section
variable {P : Program} {w : World} {H H' : Hp} {h h' : Heap} {a C dx : Addr} {fs fs' : List (Str × V)}
theorem Mj (hok:HOk P w H h) (e:H a=some (.ins C dx fs)):∃ mA,ObjM h a dx C mA /\ (∀ f,RelO (fs.lookup f) (mA f)) /\ PySem.Within mA (fs.map (·.1)) /\ fs.length <= 1000 /\ H dx=some (.own a):=by
  obtain ⟨d,z,ne,ob,mA,n,r,q⟩:=(show ObjOk P w H h a (.ins C dx fs) from hok a _ e)
  exact ⟨mA,⟨ob,n,ne⟩,r,q,z,d⟩
end
structure Cls (K:PySem.W.Frag) (C:Addr):Prop where
  pg:PySem.W.plainGet K C Str.empty=true
  hd:PySem.W.hasDictIn K C=true
  po:PySem.W.plainOver K C=true
  sa:PySem.W.findIn K (.ref C) "__setattr__"=some (some (.builtin "object.__setattr__"))
theorem Cls.get {K:PySem.W.Frag}{C:Addr} (c:Cls K C) (f:Str):PySem.W.plainGet K C f=true:=c.pg
structure Con (K:PySem.W.Frag) (C:Addr) (f:Str) (v:V) (u:Value):Prop where
  at_:PySem.W.findIn K (.ref C) f=some (some u)
  rel:RelV v u
  get:PySem.W.specialIn K u "__get__"=some none
  cp:PySem.W.copiedNames.contains f=false
structure Meth (K:PySem.W.Frag) (C:Addr) (m:Str) (f:Addr):Prop where
  at_:PySem.W.findIn K (.ref C) m=some (some (.ref f))
  fn:PySem.W.isFn K (.ref f)=true
  kp:PySem.W.keepIn K (.ref f)=true
section
variable {X : Cx} {pins : List (Addr × Obj)} {σ : St} {H : Hp} {s : Shared} {a C dx : Addr} {fs : List (Str × V)} {f : Str} {v : V} {A : Around} {E : Value -> Shared -> Prop}
end
section
variable {X : Cx} {o e value : Expr} {f : Str} {pos pos' tpos : Pos} {ta tv : TE}
noncomputable def rAdd:V->V->Hp->VK->Prop:=fun x y H Q=>∃ i j,x=.int i /\ y=.int j /\ Q (.int (i + j)) H
end
section
variable {X : Cx} {pins : List (Addr × Obj)} {σ : St} {H : Hp} {s : Shared} {A : Around} {E : Value -> Shared -> Prop} {Q : Value -> Shared -> Prop} {c : Value} {b : Bool}
inductive TyOf (K:PySem.W.Frag) (H:Hp):V->Value->Prop where
  | non:TyOf K H .non (.type "NoneType")
  | bl (x:Bool):TyOf K H (.bl x) (.type "bool")
  | int (i:Int):TyOf K H (.int i) (.type "int")
  | str (x:Str):TyOf K H (.str x) (.type "str")
  | flt (x:UInt64):TyOf K H (.flt x) (.type "float")
  | lst {a:Addr}{xs:List V} (e:H a=some (.lst xs)):TyOf K H (.ref a) (.type "list")
  | frz {a:Addr}{o:Obj}{xs:List V} (e:H a=some (.frz o (.lst xs))):TyOf K H (.ref a) (.type "list")
  | tup {a:Addr}{xs:List V} (e:H a=some (.tup xs)):TyOf K H (.ref a) (.type "tuple")
  | dK {a:Addr}{kvs:List (Key × V)} (e:H a=some (.dK kvs)):TyOf K H (.ref a) (.type "dict")
  | dT {a:Addr}{kvs:List (List Key × V)} (e:H a=some (.dT kvs)):TyOf K H (.ref a) (.type "dict")
  | ins {a C dx:Addr}{fs:List (Str × V)} (e:H a=some (.ins C dx fs)) (cl:Cls K C) (ha:PySem.W.findIn K (.ref C) "__class__"=some (some (.builtin "object.__class__")))
      (hn:PySem.W.specialIn K (.builtin "object.__class__") "__get__"=some (some (.builtin "getset_descriptor.__get__"))) (htk:PySem.W.takesIn K (.builtin "object.__class__")=some true)
      (hm:PySem.W.mroIn K C (.type "object")=some true):TyOf K H (.ref a) (.ref C)
theorem Jf {x:V}{u t:Value} (I:Inv X pins σ H s) (rx:RelV x u) (ty:TyOf X.K H x t) (e:PySem.W.kitOne X.K t c=some b) (h:∀ tk,Q (.bool b) { s with toks:=tk }) :
    wpAny (model X.prog X.w) A (call (.builtin "isinstance") [u,c]) Q E s:=by
  cases ty with
  | non=>cases (show u=Value.none from rx);exact PySem.W.kia_one PySem.W.kitx_none I.kIn True.intro e (fun z=>nomatch z) h
  | bl y=>cases (show u=Value.bool y from rx);exact PySem.W.kia_one PySem.W.kitx_bool I.kIn True.intro e (fun z=>nomatch z) h
  | int i=>obtain ⟨t,q⟩:=(show ∃ t,u=Value.int i t from rx);cases q;exact PySem.W.kia_one PySem.W.kitx_int I.kIn True.intro e (fun z=>nomatch z) h
  | str y=>obtain ⟨t,q⟩:=(show ∃ t,u=Value.str y t from rx);cases q;exact PySem.W.kia_one PySem.W.kitx_str I.kIn True.intro e (fun z=>nomatch z) h
  | flt y=>obtain ⟨t,q⟩:=(show ∃ t,u=Value.float y t from rx);cases q;exact PySem.W.kia_one PySem.W.kitx_float I.kIn True.intro e (fun z=>nomatch z) h
  | @lst a xs ea =>
    cases (show u=Value.ref a from rx)
    obtain ⟨_,_,n,_,h1⟩:=(show ObjOk X.prog X.w H s.heap a (.lst xs) from I.hok a _ ea)
    exact PySem.W.kia_one PySem.W.kitx_list I.kIn ⟨_,h1,rfl⟩ e (fun z=>nomatch z) h
  | @frz a ob xs ea =>
    cases (show u=Value.ref a from rx)
    obtain ⟨_,_,_,n,_,h1⟩:=(show ObjOk X.prog X.w H s.heap a (.frz ob (.lst xs)) from I.hok a _ ea)
    exact PySem.W.kia_one PySem.W.kitx_list I.kIn ⟨_,h1,rfl⟩ e (fun z=>nomatch z) h
  | @tup a xs ea =>
    cases (show u=Value.ref a from rx)
    obtain ⟨_,_,_,p⟩:=(show ObjOk X.prog X.w H s.heap a (.tup xs) from I.hok a _ ea)
    obtain ⟨o,h1,h2,_⟩:=p
    exact PySem.W.kia_one PySem.W.kitx_tuple I.kIn ⟨o,h1,h2⟩ e (fun z=>nomatch z) h
  | @dK a kvs ea =>
    cases (show u=Value.ref a from rx)
    obtain ⟨_,_,vs,_,p⟩:=(show ObjOk X.prog X.w H s.heap a (.dK kvs) from I.hok a _ ea)
    obtain ⟨o,es,ep,h1,h2,_⟩:=p
    exact PySem.W.kia_one PySem.W.kitx_dict I.kIn ⟨o,h1,h2.1⟩ e (fun z=>nomatch z) h
  | @dT a kvs ea =>
    cases (show u=Value.ref a from rx)
    obtain ⟨_,_,xs,_,o,es,ep,h1,h2,_⟩:=(show ObjOk X.prog X.w H s.heap a (.dT kvs) from I.hok a _ ea)
    exact PySem.W.kia_one PySem.W.kitx_dict I.kIn ⟨o,h1,h2.1⟩ e (fun z=>nomatch z) h
  | @ins a C dx fs ea cl ha hn htk hm =>
    cases (show u=Value.ref a from rx)
    obtain ⟨mA,O,_⟩:=Mj I.hok ea
    obtain ⟨od,J,_⟩:=O.look
    exact PySem.W.kia_one (PySem.W.kitx_own (cl.get _) cl.hd ha hn htk hm) I.kIn J e (fun z=>nomatch z) h
end
end L2
namespace L2
open PySem PySem.Spec PyProof.Rows
structure Room (k:Nat) (A:Around):Prop where
  hd:A.handled=none
  dp:A.depth + 3 * k + 5 < recursionLimit
  un:A.units + 16 * k + 200 < cLine
  gd:A.guards=some []
theorem Room.mono {j k:Nat}{A:Around} (r:Room k A) (h:j <= k):Room j A:=⟨r.hd,by have:=r.dp;omega,by have:=r.un;omega,r.gd⟩
theorem Room.deeper {k:Nat}{A:Around} (r:Room (k + 1) A) (env:Env):Room k (A.deeper env) :=
  ⟨r.hd,by have:=r.dp;show A.depth + 1 + 3 * k + 5 < _;omega,by have:=r.un;show A.units + 3 + 16 * k + 200 < _;omega,by first | exact r.gd | (rw [<-r.gd];first | rfl | simp [Around.under,Code.isGuard,guardIds])⟩
theorem Room.depth {k:Nat}{A:Around} (r:Room k A):A.depth < recursionLimit:=by have:=r.dp;omega
theorem Room.units {k:Nat}{A:Around} (r:Room k A):A.units + 64 < cLine:=by have:=r.un;omega
theorem Room.units0 {k:Nat}{A:Around} (r:Room k A):A.units < cLine:=by have:=r.un;omega
noncomputable def tNil:TA:=fun _ H Q=>Q [] H
noncomputable def tCons (ta:TE) (tr:TA):TA:=fun σ H Q=>ta σ H fun x H1=>tr σ H1 fun xs H2=>Q (x :: xs) H2
section
variable {X : Cx} {e : Expr} {es : List Expr} {te : TE} {t : TA} {pos : Pos}
theorem gu:PA X [] tNil:=fun _ _ _ _ H Q I h=>Calls.spliced_nil ⟨[],H,I,.nil,h⟩
theorem fE (ha:PE X e te) (hr:PA X es t) (hs:starEach (e :: es) X.env=(false,eval e X.env) :: starEach es X.env:=by rfl):PA X (e :: es) (tCons te t):=by
  intro pos pins s σ H Q I h
  rw [hs]
  show wpAny _ _ (spliced ((false,eval e X.env) :: backTo pos (starEach es X.env))) _ _ s
  refine Calls.spliced_cons (thn (ha pins s σ H _ I h) fun u s1 ⟨x,H1,I1,r1,q1⟩=>?_)
  exact thn (hr pos pins s1 σ H1 _ I1 q1) fun us s2 ⟨xs,H2,I2,r2,q2⟩=>⟨x :: xs,H2,I2,.cons r1 r2,q2⟩
noncomputable def tTup (t:TA):TE:=fun σ H Q=>t σ H fun xs H1=>xs.length <= sizeLine /\ ∀ p,H1 p=none->Q (.ref p) (upd H1 p (.tup xs))
noncomputable def tLst (t:TA):TE:=fun σ H Q=>t σ H fun xs H1=>xs.length <= sizeLine /\ ∀ p,H1 p=none->Q (.ref p) (upd H1 p (.lst xs))
theorem NE {x1} (h:PA X es t):PE X (.Tuple es x1 pos) (tTup t):=by
  intro pins s σ H Q I hq
  refine wpAny_Tuple_spliced (thn (h pos pins s σ H _ I hq) fun us s1 ⟨xs,H1,I1,r,z,q⟩=>⟨by rw [<-r.length];exact z,?_⟩)
  have hf:H1 s1.heap.objs.size=none:=I1.hok.fresh (Nat.le_refl _)
  refine ⟨.ref s1.heap.objs.size,upd H1 s1.heap.objs.size (.tup xs),I1.laid (t':=s1.toks) (fun b u e=>Heap.get?_push_of_some _ e) (Nat.le_refl _) ?_,rfl,q _ hf⟩
  exact ⟨z,us,r,⟨_,Heap.get?_push_size _ rfl,rfl,_,rfl⟩⟩
theorem Ao (h:PA X es t):PE X (.List es pos) (tLst t):=by
  intro pins s σ H Q I hq
  refine wpAny_List_spliced (thn (h pos pins s σ H _ I hq) fun us s1 ⟨xs,H1,I1,r,z,q⟩=>⟨by rw [<-r.length];exact z,?_⟩)
  have hf:H1 s1.heap.objs.size=none:=I1.hok.fresh (Nat.le_refl _)
  refine ⟨.ref s1.heap.objs.size,upd H1 s1.heap.objs.size (.lst xs),I1.laid (t':=s1.toks) (fun b u e=>Heap.get?_push_of_some _ e) (Nat.le_refl _) ?_,rfl,q _ hf⟩
  exact ⟨z,us,0,r,Heap.get?_push_size _ rfl⟩
end
noncomputable abbrev Sp:=List V->Hp->VK->XK->Prop
noncomputable abbrev CXT:=List Env->Hp->Shared->XK->Value->Shared->Prop
structure Env0 (P:Program) (w:World) (K:PySem.W.Frag) (mg:Str->Option Value) (base:Heap) (A:Around) (outer:List Env) (s:Shared) (H:Hp):Prop where
  frames:A.frames=some outer
  mod:Mod K mg base
  bs:∀ b o,base.get? b=some o->s.heap.get? b=some o /\ H b=none
  bsz:base.objs.size <= s.heap.objs.size
  funs:s.heap.FunFrames base outer
  frf:∀ b ∈ frs outer,H b=none
  hok:HOk P w H s.heap
  bare:AllBare s.gens
noncomputable def CE (outer:List Env) (P:Program) (w:World) (H:Hp) (s:Shared) (Q:VK) (u:Value) (s':Shared):Prop :=
  ∃ v H',s'.os=s.os /\ AllBare s'.gens /\ Un (frs outer) [] H H' s.heap s'.heap /\ HOk P w H' s'.heap /\ RelV v u /\ Q v H'
noncomputable def CR (CX:CXT) (outer:List Env) (P:Program) (w:World) (H:Hp) (s:Shared) (Q:VK) (E:XK) (r:Result) (s':Shared):Prop :=
  match r with
  | .ok (.ret u)=>CE outer P w H s Q u s'
  | .ok _=>False
  | .error e=>CX outer H s E e s'
structure FnOk (P:Program) (w:World) (K:PySem.W.Frag) (mg:Str->Option Value) (base:Heap) (CX:CXT) (k:Nat) (f:Addr) (fd:FuncData) (ps:List Str) (sp:Sp):Prop where
  len:∀ vs H Q E,sp vs H Q E->vs.length=ps.length
  run:∀ (A:Around) (outer:List Env) (s:Shared) (H:Hp) (args:Args) (us:List Value) (vs:List V) (Q:VK) (E:XK),Room k A->Env0 P w K mg base A outer s H->BindsTo s fd args (ps.zip us)->Vals vs us->sp vs H Q E ->
    codeAny (model P w) A (.call (.ref f) args) (CR CX outer P w H s Q E) s
section
variable {X : Cx} {pins : List (Addr × Obj)} {σ : St} {H : Hp} {s s' : Shared}
theorem Inv.env0 (I:Inv X pins σ H s):Env0 X.prog X.w X.K X.mg X.base X.A X.stack s H :=
  ⟨I.ok.frames,I.ok.mod,I.bs,Nat.le_trans I.ok.bsz I.sz,I.stack,I.stkFree,I.hok,I.bare⟩
theorem Inv.after {Q:VK}{u:Value} (I:Inv X pins σ H s) (h:CE X.stack X.prog X.w H s Q u s'):EP X pins σ Q u s':=by
  obtain ⟨v,H',os,bare,un,hok,r,q⟩:=h
  obtain ⟨hh,g,d,t,os'⟩:=s'
  obtain rfl:os'=s.os:=os
  exact ⟨v,H',I.call (h':=hh) (g':=g) (d':=d) (t':=t) (ch:=[]) un hok bare (fun b z=>absurd z (by simp)),r,q⟩
end
noncomputable def tCall (sp:Sp) (dvs:List V) (E:XK) (t:TA):TE:=fun σ H Q=>t σ H fun vs H1=>sp (vs ++ dvs) H1 Q E
noncomputable def Binds (K:PySem.W.Frag) (fd:FuncData) (ps:List Str) (ds:List Value):Prop :=
  ∀ (s:Shared) (us:List Value),K.In s.heap->(us ++ ds).length=ps.length->BindsTo s fd ⟨us,[]⟩ (ps.zip (us ++ ds))
theorem Binds.all {K:PySem.W.Frag}{fd:FuncData}{ps:List Str} (h:∀ us:List Value,us.length=ps.length->bindArgs fd ⟨us,[]⟩=pure (ps.zip us)):Binds K fd ps []:=fun s us _ hl=>by
  rw [List.append_nil] at hl ⊢
  exact .of_eq (h us hl)
noncomputable def Passes (CX:CXT) (X:Cx) (E:XK):Prop:=∀ (pins:List (Addr × Obj)) (σ:St) (H:Hp) (s:Shared) (e:Value) (s':Shared),Inv X pins σ H s->CX X.stack H s E e s'->X.xe e s'
section
variable {X : Cx} {CX : CXT} {k : Nat} {f C : Addr} {fd : FuncData} {ps : List Str} {sp : Sp} {dvs : List V} {ds : List Value} {E : XK} {x m : Str} {p pos apos : Pos} {e o : Expr} {es : List Expr} {ta : TE} {t : TA}
theorem NF {pins:List (Addr × Obj)}{σ:St}{H:Hp}{s:Shared}{Q:VK}{us:List Value}{vs:List V} (F:FnOk X.prog X.w X.K X.mg X.base CX k f fd ps sp) (hr:Room k X.A) (hb:Binds X.K fd ps ds) (hd:Vals dvs ds) (hx:Passes CX X E)
    (I:Inv X pins σ H s) (r:Vals vs us) (h:sp (vs ++ dvs) H Q E):wpAny (model X.prog X.w) X.A (call (.ref f) us) (EP X pins σ Q) X.xe s:=by
  have r2:Vals (vs ++ dvs) (us ++ ds):=r.append hd
  have hl:(us ++ ds).length=ps.length:=by rw [<-r2.length];exact F.len _ _ _ _ h
  refine wpAny_call (codeAny_mono (F.run X.A X.stack s H ⟨us,[]⟩ (us ++ ds) (vs ++ dvs) Q E hr I.env0 (hb s us I.kIn hl) r2 h) fun r s' hq=>?_)
  cases r with
  | error e=>exact hx pins σ H s e s' I hq
  | ok fl =>
    cases fl with
    | ret u=>exact I.after hq
    | next=>exact False.elim hq
    | brk=>exact False.elim hq
    | cont=>exact False.elim hq
theorem Ml (F:FnOk X.prog X.w X.K X.mg X.base CX k f fd ps sp) (hr:Room k X.A) (hg:Gl X x) (hm:X.mg x=some (.ref f)) (hk:PySem.W.keepIn X.K (.ref f)=true) (hb:Binds X.K fd ps ds) (hd:Vals dvs ds) (hx:Passes CX X E)
    (ha:PA X (e :: es) t) (hdb:(x == ("__debug__":Str))=false:=by decide) (he:starEach (e :: es) X.env=(false,eval e X.env) :: starEach es X.env:=by rfl) (hpl:(backTo pos (starEach es X.env)).any (·.1)=false:=by rfl) :
    PE X (.Call (.Name x p) (e :: es) [] pos) (tCall sp dvs E t):=by
  intro pins s σ H Q I h
  refine wpAny_Call_Name_kw (Bk I hg hm ?_ hdb)
  refine PySem.W.callWith_K (h₀:=X.base) I.ok.mod.kin hk (thn (ha pos pins s σ H _ I h) fun us s1 ⟨vs,H1,I1,r,q⟩=>⟨I1.kIn,?_⟩) he hpl
  exact NF F hr hb hd hx I1 r q
structure Mk (K:PySem.W.Frag) (C f:Addr):Prop where
  makes:PySem.W.makesIn K C=true
  init:PySem.W.findIn K (.ref C) "__init__"=some (some (.ref f))
  fn:PySem.W.isFn K (.ref f)=true
  kp:PySem.W.keepIn K (.ref C)=true
end
section
variable {X : Cx} {CX : CXT} {k : Nat} {f C : Addr} {fd : FuncData} {ps ks : List Str} {sp : Sp} {E : XK} {x m : Str} {p pos apos kpos : Pos} {e o : Expr} {es : List Expr} {kws : List Keyword} {te ta : TE} {t tk : TA} {nm : Option Str}
structure KBinds (K:PySem.W.Frag) (fd:FuncData) (ps ks:List Str) (g:List Value->List Value->List Value) (gV:List V->List V->List V):Prop where
  to:∀ (s:Shared) (us ws:List Value),K.In s.heap->(g us ws).length=ps.length->BindsTo s fd ⟨us,ks.zip ws⟩ (ps.zip (g us ws))
  rel:∀ {vs:List V}{us:List Value}{zs:List V}{ws:List Value},Vals vs us->Vals zs ws->Vals (gV vs zs) (g us ws)
variable {g : List Value -> List Value -> List Value} {gV : List V -> List V -> List V}
end
structure FnScope (N P:List Str) (sc:Scope):Prop where
  kind:sc.kind=.function
  co:sc.isCoroutine=false
  gen:sc.isGenerator=false
  nd:N.Nodup
  pre:N.take P.length=P
  par:∀ x ∈ P,sc.names.lookup x=some .local \/ sc.names.lookup x=some .cell
  nofree:∀ y ∈ sc.names,y.2 ≠ .free
theorem Cn {kindOf:Str->Option NameKind}{x:Str}:∀ {binds:List (Str × Value)}{m:Str->Option Value},(∀ v,(x,v) ∉ binds)->bindL kindOf binds m x=m x
  | [],_,_=>rfl
  | (n,v) :: r,m,h=>by
    unfold bindL
    rw [Cn fun w hw=>h w (List.mem_cons_of_mem _ hw)]
    split
    . have:x ≠ n:=by rintro rfl;exact h v List.mem_cons_self
      simp [this]
    . rfl
theorem Co {kindOf:Str->Option NameKind}{x:Str}:∀ {binds:List (Str × Value)}{m:Str->Option Value},(∀ v,(x,v) ∉ binds)->bindC kindOf binds m x=m x
  | [],_,_=>rfl
  | (n,v) :: r,m,h=>by
    unfold bindC
    rw [Co fun w hw=>h w (List.mem_cons_of_mem _ hw)]
    split
    . rfl
    . have:x ≠ n:=by rintro rfl;exact h v List.mem_cons_self
      simp [this]
theorem Cp {kindOf:Str->Option NameKind}{x:Str}{v:Value}:∀ {P:List Str}{vs:List Value}{i:Nat}{m:Str->Option Value},P.Nodup->P[i]?=some x->vs[i]?=some v->kindOf x=some .local ->
    bindL kindOf (P.zip vs) m x=some v
  | [],_,_,_,_,h,_,_=>by simp at h
  | _ :: _,[],_,_,_,_,h,_=>by simp at h
  | p :: P,w :: vs,0,m,nd,h1,h2,hk=>by
    simp at h1 h2;subst h1;subst h2
    show bindL kindOf ((p,w) :: P.zip vs) m p=_
    unfold bindL
    rw [Cn fun v hv=>(List.nodup_cons.mp nd).1 (List.of_mem_zip hv).1,if_pos hk]
    simp
  | p :: P,w :: vs,i + 1,m,nd,h1,h2,hk=>by
    show bindL kindOf ((p,w) :: P.zip vs) m x=_
    unfold bindL
    exact Cp (i:=i) (List.nodup_cons.mp nd).2 (by simpa using h1) (by simpa using h2) hk
theorem Cq {kindOf:Str->Option NameKind}{x:Str}{v:Value}:∀ {P:List Str}{vs:List Value}{i:Nat}{m:Str->Option Value},P.Nodup->P[i]?=some x->vs[i]?=some v->kindOf x ≠ some .local ->
    bindC kindOf (P.zip vs) m x=some v
  | [],_,_,_,_,h,_,_=>by simp at h
  | _ :: _,[],_,_,_,_,h,_=>by simp at h
  | p :: P,w :: vs,0,m,nd,h1,h2,hk=>by
    simp at h1 h2;subst h1;subst h2
    show bindC kindOf ((p,w) :: P.zip vs) m p=_
    unfold bindC
    rw [Co fun v hv=>(List.nodup_cons.mp nd).1 (List.of_mem_zip hv).1,if_neg hk]
    simp
  | p :: P,w :: vs,i + 1,m,nd,h1,h2,hk=>by
    show bindC kindOf ((p,w) :: P.zip vs) m x=_
    unfold bindC
    exact Cq (i:=i) (List.nodup_cons.mp nd).2 (by simpa using h1) (by simpa using h2) hk
noncomputable def start (N:List Str) (vs:List V):St:=vs.map some ++ List.replicate (N.length - vs.length) none
noncomputable def cxOf (CX:CXT) (P:Program) (w:World) (K:PySem.W.Frag) (mg:Str->Option Value) (base:Heap) (N:List Str) (qual:Str) (scope:Scope) (f:Addr) (cd:Value) (A:Around) (outer:List Env) (s:Shared) (H:Hp) (E:XK):Cx where
  prog:=P
  w:=w
  K:=K
  mg:=mg
  base:=base
  A:=A.deeper (envOfC qual scope s.heap.objs.size f cd)
  N:=N
  s₀:=s
  H₀:=H
  env:=envOfC qual scope s.heap.objs.size f cd
  outer:=outer
  stack:=envOfC qual scope s.heap.objs.size f cd :: outer
  ex:=[]
  calm:=true
  fn:=fun _=>true
  pn:=[]
  xe:=fun e s'=>wpAny (model P w) (A.deeper (envOfC qual scope s.heap.objs.size f cd)) (leaving (envOfC qual scope s.heap.objs.size f cd) e) (fun _ s''=>CX outer H s E e s'') (fun e' s''=>CX outer H s E e' s'') s'
theorem DD {sc:Scope}{n:Nat}{x:Str} (h:sc.names.lookup x=some .cell):∃ c,(cellsFrom n sc.names []).lookup x=some c:=by
  have q:=PySem.W.cellsFrom_some sc.names n [] (.inl h)
  exact Option.isSome_iff_exists.mp q
theorem Cr {CX:CXT}{P:Program}{w:World}{K:PySem.W.Frag}{mg:Str->Option Value}{base:Heap}{N ps:List Str}{qual:Str}{scope:Scope}{f:Addr}{cd:Value}{A:Around}{outer:List Env}{s s1:Shared}{H:Hp}{E:XK}{us:List Value}{vs:List V}
    (S:FnScope N ps scope) (hd:A.handled=none) (e0:Env0 P w K mg base A outer s H) (hl:vs.length=ps.length) (r:Vals vs us)
    (x:InCallC s s.heap.objs.size (bindL (envOfC qual scope s.heap.objs.size f cd).kindOf (ps.zip us) fun _=>none) (cellsFrom (s.heap.objs.size + 1) scope.names []) (bindC (envOfC qual scope s.heap.objs.size f cd).kindOf (ps.zip us) fun _=>none) s1) :
    Inv (cxOf CX P w K mg base N qual scope f cd A outer s H E) [] (start N vs) H s1:=by
  have hpl:ps.length <= N.length:=by have:=congrArg List.length S.pre;rw [List.length_take] at this;omega
  obtain ⟨h1,tk,rfl,hk⟩:=x.done
  have noA:∀ b:Addr,b ∉ (cxOf CX P w K mg base N qual scope f cd A outer s H E).ex:=fun b z=>absurd (show b ∈ ([]:List Addr) from z) (by simp)
  refine ⟨⟨e0.mod,S.kind,rfl,rfl,Nat.le_refl _,fun y z c h1 h2=>?_,fun y hy=>?_,fun y c _ h=>?_,fun _=>hd,Around.frames_deeper e0.frames,.inr ⟨rfl,rfl⟩,fun b z=>absurd z (noA b),e0.bs,e0.bsz,fun b _ _=>noA b,fun b z=>absurd z (noA b),e0.funs,e0.frf⟩,
    rfl,e0.bare,Un.kept hk,⟨_,x.toInCall.ns,fun i y v h1 h2 h3=>?_⟩,fun y c h=>⟨_,x.cell y c h⟩,e0.hok.fresh (Nat.le_refl _),fun y c h=>?_,fun p hp=>absurd (show p ∈ ([]:List (Addr × Obj)) from hp) (by simp),e0.hok.kept hk,?_⟩
  . exact name_of_addr x.apart (PySem.mem_of_lookup h1) (PySem.mem_of_lookup h2)
  . have hy:scope.names.lookup y=some .cell \/ scope.names.lookup y=some .free:=hy
    rcases hy with hy | hy
    . exact DD hy
    . exact absurd rfl (S.nofree _ (PySem.mem_of_lookup hy))
  . exact Nat.le_of_lt (x.above y c (PySem.mem_of_lookup h))
  . have hi:i < vs.length:=by
      unfold start at h2
      by_cases hi:i < vs.length
      . exact hi
      . rw [List.getElem?_append_right (by simpa using hi)] at h2
        rw [List.getElem?_replicate] at h2
        split at h2 <;> cases h2
    have ha:vs[i]?=some v:=by
      unfold start at h2
      rw [List.getElem?_append_left (by simpa using hi),List.getElem?_map] at h2
      cases e:vs[i]? with
      | none=>rw [e] at h2;cases h2
      | some a=>rw [e] at h2;cases h2;rfl
    obtain ⟨u,hu,rv⟩:=r.get ha
    have hp:ps[i]?=some y:=by
      rw [<-S.pre,List.getElem?_take_of_lt (by omega)];exact h1
    have ndP:ps.Nodup:=by rw [<-S.pre];exact S.nd.sublist (List.take_sublist _ _)
    refine ⟨u,rv,?_⟩
    rcases S.par y (List.mem_of_getElem? hp) with k | k
    . exact .inl ⟨k,Cp ndP hp hu k⟩
    . obtain ⟨c,e⟩:=DD (n:=s.heap.objs.size + 1) k
      refine .inr ⟨.inl k,c,e,?_⟩
      have q:=x.cell y c e
      rw [Cq ndP hp hu (by show scope.names.lookup y ≠ _;rw [k];decide)] at q
      exact q
  . exact e0.hok.fresh (Nat.le_of_lt (x.above y c (PySem.mem_of_lookup h)))
  . unfold start
    show _=N.length
    rw [List.length_append,List.length_map,List.length_replicate]
    omega
theorem Nd {CX:CXT}{P:Program}{w:World}{K:PySem.W.Frag}{mg:Str->Option Value}{base:Heap}{k:Nat}{f:Addr}{name qual:Str}{params:Arguments}{body:List Stmt}{scope:Scope}{dV kV doc pm cdv ct oc:Value}{an od:Option Addr}
    {osl:Array (Option Value)}{N ps:List Str}{sp:Sp} (lk:K.lookup f=some ⟨oc,od,.func (PySem.W.fnOf name qual params body scope dV kV doc pm an cdv ct),osl⟩) (hcd:PySem.W.codeIn K cdv qual=true) (S:FnScope N ps scope)
    (len:∀ vs H Q E,sp vs H Q E->vs.length=ps.length)
    (hbody:∀ (A:Around) (outer:List Env) (s:Shared) (H:Hp) (vs:List V) (Q:VK) (E:XK),Room k (A.deeper (envOfC qual scope s.heap.objs.size f cdv))->sp vs H Q E ->
      ∃ t,PSs (cxOf CX P w K mg base N qual scope f cdv A outer s H E) body t /\ t { nx:=fun _ H'=>Q .non H',rt:=Q } (start N vs) H) :
    FnOk P w K mg base CX (k + 1) f (PySem.W.fnOf name qual params body scope dV kV doc pm an cdv ct) ps sp:=by
  refine ⟨len,fun A outer s H args us vs Q E hr e0 hb r hsp=>?_⟩
  have hl:=len _ _ _ _ hsp
  have KX:K.In s.heap:=e0.mod.kin.keeps fun b o e=>(e0.bs b o e).1
  have lim:s.heap.NoLimit:=e0.mod.nolimit.keeps fun b o e=>(e0.bs b o e).1
  have hkind:∀ y ∈ ps.zip us,scope.names.lookup y.1=some .local \/ (scope.names.lookup y.1=some .cell /\ ((cellsFrom (s.heap.objs.size + 1) scope.names []).lookup y.1).isSome=true):=fun ⟨n,v⟩ hy=>by
    rcases S.par n (List.of_mem_zip hy).1 with q | q
    . exact .inl q
    . exact .inr ⟨q,PySem.W.cellsFrom_some _ _ _ (.inl q)⟩
  refine codeAny_call_function hr.depth (KX _ _ lk) rfl S.co S.gen rfl (PySem.W.codeRec_of KX hcd) (hb _ _ _ _ ?_)
  refine wpAny_newFunctionEnv_cells S.kind hkind fun env he s1 x=>?_
  subst he
  refine ⟨lim.keeps x.toInCall.keep,codeAny_func ?_⟩
  obtain ⟨t,ht,hq⟩:=hbody A outer s H vs Q E (hr.deeper _) hsp
  have I:Inv (cxOf CX P w K mg base N qual scope f cdv A outer s H E) [] (start N vs) H s1:=Cr S hr.hd e0 hl r x
  refine wpAny_mono (ht [] s1 (start N vs) H _ I hq) (fun fl s' hs=>?_) fun e s' hs=>hs
  have fin:∀ {σ':St}{H':Hp}{v:V}{u:Value},Inv (cxOf CX P w K mg base N qual scope f cdv A outer s H E) [] σ' H' s'->RelV v u->Q v H'->CE outer P w H s Q u s' :=
    fun {σ' H' v u} J rv q=>⟨v,H',J.os,J.bare,J.base,J.hok,rv,q⟩
  cases fl with
  | ret u =>
    obtain ⟨v,σ',H',J,rv,q⟩:=hs
    exact fin J rv q
  | next =>
    obtain ⟨σ',H',J,q⟩:=hs
    exact fin (v:=V.non) (u:=Value.none) J rfl q
  | brk =>
    obtain ⟨_,_,_,q⟩:=hs
    exact False.elim q
  | cont =>
    obtain ⟨_,_,_,q⟩:=hs
    exact False.elim q
end L2
namespace L2
open PySem PySem.Spec PyProof.Rows
section
variable {X : Cx} {x : Str} {p pos : Pos} {e : Expr} {es : List Expr} {t : TA} {id T : String} {r : List V -> Hp -> VK -> Prop}
noncomputable def tCB (r:List V->Hp->VK->Prop) (t:TA):TE:=fun σ H Q=>t σ H fun vs H1=>r vs H1 Q
theorem gq (hc:CallR X (.builtin id) r) (hg:Gl X x) (hm:X.mg x=none) (hv:bootBuiltins x=some (.builtin id)) (ha:PA X (e :: es) t) (hn:x ≠ "__name__":=by decide) (hdb:(x == ("__debug__":Str))=false:=by decide)
    (he:starEach (e :: es) X.env=(false,eval e X.env) :: starEach es X.env:=by rfl) (hpl:(backTo pos (starEach es X.env)).any (·.1)=false:=by rfl):PE X (.Call (.Name x p) (e :: es) [] pos) (tCB r t):=by
  intro pins s σ H Q I h
  refine wpAny_Call_Name_kw (oP I hg hm hv ?_ hn hdb)
  exact PyProof.Rows.callWith_builtin1 (thn (ha pos pins s σ H _ I h) fun us s1 ⟨vs,H1,I1,r1,q1⟩=>hc pins s1 σ H1 vs us Q I1 r1 q1) he hpl
theorem Jg (hc:CallR X (.type T) r) (hg:Gl X x) (hm:X.mg x=none) (hv:bootBuiltins x=some (.type T)) (ha:PA X (e :: es) t) (hn:x ≠ "__name__":=by decide) (hdb:(x == ("__debug__":Str))=false:=by decide)
    (he:starEach (e :: es) X.env=(false,eval e X.env) :: starEach es X.env:=by rfl) (hpl:(backTo pos (starEach es X.env)).any (·.1)=false:=by rfl):PE X (.Call (.Name x p) (e :: es) [] pos) (tCB r t):=by
  intro pins s σ H Q I h
  refine wpAny_Call_Name_kw (oP I hg hm hv ?_ hn hdb)
  exact PyProof.Rows.callWith_type1 (thn (ha pos pins s σ H _ I h) fun us s1 ⟨vs,H1,I1,r1,q1⟩=>hc pins s1 σ H1 vs us Q I1 r1 q1) he hpl
end
end L2
namespace HT
open PySem PyProof.Rows
noncomputable def lexLt:List Int->List Int->Bool
  | [],[]=>false
  | [],_ :: _=>true
  | _ :: _,[]=>false
  | x :: xs,y :: ys=>if x=y then lexLt xs ys else decide (x < y)
theorem jW (x y:Int) (xs ys:List Int):lexLt (x :: xs) (y :: ys)=if x=y then lexLt xs ys else decide (x < y):=rfl
theorem Cc:lexLt [] []=false:=rfl
theorem oR (y:Int) (ys:List Int):lexLt [] (y :: ys)=true:=rfl
theorem oS (x:Int) (xs:List Int):lexLt (x :: xs) []=false:=rfl
theorem DF (A:Around) (s:Shared) (a:Int) (t:Tok) (c:Int) (u:Tok):∃ e,SeqAt.EqAt A s (.int a t) (.int c u) e /\ (e=true ↔ a=c) :=
  ⟨(a == c),SeqAt.EqAt.int_int a t c u,by simp⟩
theorem J1 (A:Around) (s:Shared) (a:Int) (t:Tok) (c:Int) (u:Tok) (prog:Program) (w:World) (E:Value->Shared->Prop) (Q:Value->Shared->Prop) (h:Q (.bool (decide (a < c))) s) :
    wpAny (model prog w) A (richCompare .Lt (.int a t) (.int c u)) Q E s :=
  (PyProof.Rows.lt_int h:wpAny (model prog w) A (compareOp .Lt (.int a t) (.int c u)) Q E s)
section
open PySem.SeqAt
open PySem.AutoSeq1 (wpAny_loadPart')
open PySem.MeetsSeq PySem.MeetsSeq2 PySem.MeetsSeq3
theorem Cd (l b:Addr) (items items2:Array Value) (n n2:Nat) (dd dd2:Option Addr) (sl sl2:Array (Option Value)) (ns ms:List Int) (hi:IntsAre items.toList ns) (hj:IntsAre items2.toList ms) :
    Meets (Builtin.«tuple.__lt__» ⟨[.ref l,.ref b],[]⟩)
      (fun _ R s=>s.heap.get? l=some { cls:=.type "tuple",dict:=dd,data:=.seq items n,slots:=sl } /\ s.heap.get? b=some { cls:=.type "tuple",dict:=dd2,data:=.seq items2 n2,slots:=sl2 } /\
        R (.ok (.ret (.bool (lexLt ns ms)))) s) :=
  .of_wp fun prog w A R s h=>by
    obtain ⟨hp,g,d,tk,os⟩:=s;obtain ⟨hl,hb,h⟩:=h
    have f2:=AutoSeq1.sub_tuple_tuple
    have z1:items.size=ns.length:=by rw [<-hi.length];simp
    have z2:items2.size=ms.length:=by rw [<-hj.length];simp
    wp_walk using wpAny_loadPart' hl,wpAny_loadPart' hb,wpAny_forIn_list _ (fun rest b s'=>b.1=none /\ s'=⟨hp,g,d,tk,os⟩ /\ ∃ (vs ws:List Value) (ns' ms':List Int),rest=vs.zip ws /\
      IntsAre vs ns' /\ IntsAre ws ms' /\ ns'.length + items2.size=ms'.length + items.size /\ R (.ok (.ret (.bool (lexLt ns' ms')))) ⟨hp,g,d,tk,os⟩) _
    case turn =>
      rintro ⟨y,x⟩ rest b s' ⟨hb',rfl,vs,ws,ns',ms',hz,hvi,hwi,hlen,hR⟩
      cases hvi with
      | nil=>rw [List.zip_nil_left] at hz;cases hz
      | cons a t hvi' =>
        cases hwi with
        | nil=>rw [List.zip_nil_right] at hz;cases hz
        | cons c u hwi' =>
          rw [List.zip_cons_cons] at hz
          injection hz with hyx hrest
          injection hyx with hy hx
          subst hy hx
          rw [jW] at hR
          simp only [List.length_cons] at hlen
          obtain ⟨e,he,hiff⟩:=DF A.in1 ⟨hp,g,d,tk,os⟩ a t c u
          refine wpAny_bind (he prog w _ _ ?_)
          cases e with
          | true =>
            rw [if_pos (hiff.mp rfl)] at hR
            wp_walk
            exact ⟨rfl,rfl,_,_,_,_,hrest,hvi',hwi',by omega,hR⟩
          | false =>
            rw [if_neg (fun q=>absurd (hiff.mpr q) Bool.false_ne_true)] at hR
            have hri:=J1 A.in1 ⟨hp,g,d,tk,os⟩ a t c u prog w
            wp_walk using hri
            exact ⟨_,rfl,by simpa using hR⟩
    case fin =>
      rintro ⟨b1,b2⟩ s' ⟨hb',rfl,vs,ws,ns',ms',hz,hvi,hwi,hlen,hR⟩
      simp only at hb'
      subst hb'
      have hv:lexLt ns' ms'=decide (items.size < items2.size):=by
        cases hvi with
        | nil =>
          cases hwi with
          | nil =>
            simp only [List.length_nil] at hlen
            rw [Cc]
            exact (decide_eq_false (by omega)).symm
          | cons c u hw =>
            simp only [List.length_nil,List.length_cons] at hlen
            rw [oR]
            exact (decide_eq_true (by omega)).symm
        | cons a t hv =>
          cases hwi with
          | nil =>
            simp only [List.length_nil,List.length_cons] at hlen
            rw [oS]
            exact (decide_eq_false (by omega)).symm
          | cons c u hw =>
            rw [List.zip_cons_cons] at hz
            cases hz
      rw [hv] at hR
      wp_walk
      exact ⟨_,rfl,by simpa [Builtin.Tuple.tupleCompareSizes] using hR⟩
    case h =>
      exact ⟨rfl,rfl,items.toList,items2.toList,ns,ms,rfl,hi,hj,by omega,h⟩
end
section
variable {prog : Program} {w : World} {A : Around} {E : Value -> Shared -> Prop} {s : Shared}
theorem FH {l b:Addr}{items items2:Array Value}{ns ms:List Int}{Q:Value->Shared->Prop} (hl:IsTup s.heap l items) (hb:IsTup s.heap b items2) (hi:IntsAre items.toList ns) (hj:IntsAre items2.toList ms)
    (hu:A.units < cLine) (h:Q (.bool (lexLt ns ms)) s):wpAny (model prog w) A (compareOp .Lt (.ref l) (.ref b)) Q E s:=by
  obtain ⟨⟨cls,dd,data,sl⟩,ho,hc,n,hd⟩:=id hl
  obtain ⟨⟨cls2,dd2,data2,sl2⟩,ho2,hc2,n2,hd2⟩:=id hb
  simp only at hc hd hc2 hd2
  subst hc hd hc2 hd2
  exact richCompare_meets_room (op:=.Lt) ⟨_,ho,rfl⟩ ⟨_,ho2,rfl⟩ PySem.F.slot_tuple_lt PySem.F.entry_tuple_lt (PySem.F.args_tuple_lt_2 _ _) (Cd l b items items2 n n2 dd dd2 sl sl2 ns ms hi hj)
    ⟨ho,ho2,show Value.bool (lexLt ns ms) ≠ Value.notImplemented /\ Q (.bool (lexLt ns ms)) s from ⟨(fun x=>nomatch x),h⟩⟩ hu
theorem Mm {t b:Addr}{vs ws:List Value}{Q:Value->Shared->Prop} (ht:IsTup s.heap t vs.toArray) (hb:IsTup s.heap b ws.toArray) (hv:vs ≠ [])
    (h1:ws=[]->Q (.ref t) s) (h2:ws ≠ []->Q (.ref s.heap.objs.size) { s with heap:=s.heap.push { cls:=.type "tuple",data:=.seq (vs ++ ws).toArray } })
    (hsz:vs.length + ws.length <= sizeLine):wpAny (model prog w) A (binaryOp .Add (.ref t) (.ref b)) Q E s:=by
  obtain ⟨⟨cls,dd,data,sl⟩,ho,hc,n,hd⟩:=id ht
  obtain ⟨⟨cls2,dd2,data2,sl2⟩,ho2,hc2,n2,hd2⟩:=id hb
  simp only at hc hd hc2 hd2
  subst hc hd hc2 hd2
  have e:vs.toArray ++ ws.toArray=(vs ++ ws).toArray:=by simp
  by_cases hw:ws=[]
  . exact concat_meets ⟨_,ho,rfl⟩ ⟨_,ho2,rfl⟩ noFill_tuple_add seq_tuple_add PySem.F.slot_tuple_add PySem.F.entry_tuple_add (PySem.F.args_tuple_add_2 _ _)
      (tuple_addW1 t b vs.toArray ws.toArray n n2 dd dd2 sl sl2 (by simpa using hv) (by simp [hw])) ⟨ho,ho2,h1 hw⟩
  . refine concat_meets ⟨_,ho,rfl⟩ ⟨_,ho2,rfl⟩ noFill_tuple_add seq_tuple_add PySem.F.slot_tuple_add PySem.F.entry_tuple_add (PySem.F.args_tuple_add_2 _ _)
      (tuple_addW2 t b vs.toArray ws.toArray n n2 dd dd2 sl sl2 (by simpa using hv) (by simpa using hw) (by rw [List.size_toArray,List.size_toArray];exact hsz)) ⟨ho,ho2,?_⟩
    rw [e]
    exact h2 hw
noncomputable def sIx (n d:Nat):Option Int->Nat
  | none=>d
  | some v=>if v < 0 then (v + (n:Int)).toNat else min v.toNat n
theorem DH (n d:Nat):sIx n d none=d:=rfl
theorem Bm (n d k:Nat):sIx n d (some (k:Int))=min k n:=by
  show (if (k:Int) < 0 then ((k:Int) + (n:Int)).toNat else min (k:Int).toNat n)=min k n
  rw [if_neg (by omega),Int.toNat_natCast]
theorem NG (n d:Nat) (hd:d <= n) (o:Option Int):sIx n d o <= n:=by
  cases o with
  | none=>exact hd
  | some v =>
    show (if v < 0 then (v + (n:Int)).toNat else min v.toNat n) <= n
    by_cases hv:v < 0
    . rw [if_pos hv];omega
    . rw [if_neg hv];exact Nat.min_le_right _ _
theorem Gv (v:Int) (n d:Nat):(if v < 0 then max (v + (n:Int)) 0 else min v (n:Int))=((sIx n d (some v):Nat):Int):=by
  show (if v < 0 then max (v + (n:Int)) 0 else min v (n:Int))=(((if v < 0 then (v + (n:Int)).toNat else min v.toNat n):Nat):Int)
  by_cases hv:v < 0
  . simp only [if_pos hv];omega
  . simp only [if_neg hv];omega
theorem FI (lo hi:Option Int) (n:Nat):Builtin.Slice.sliceAdjust lo hi 1 (n:Int)=(((sIx n 0 lo:Nat):Int),((sIx n n hi:Nat):Int)):=by
  have h1:¬ ((1:Int) < 0):=by omega
  unfold Builtin.Slice.sliceAdjust
  simp only [h1,if_false]
  refine Prod.ext ?_ ?_
  . cases lo with
    | none=>rfl
    | some v=>exact Gv v n 0
  . cases hi with
    | none=>rfl
    | some v=>exact Gv v n n
theorem FJ (i j:Nat):Builtin.Slice.slicePlaces (i:Int) (j:Int) 1=j - i:=by
  unfold Builtin.Slice.slicePlaces
  have h1:(1:Int) > 0:=by omega
  simp only [h1,if_true,Int.ediv_one]
  split <;> omega
theorem Bz {v:Value}{o:Option Int}{Q:Option Int->Shared->Prop} (p:IsPart v o) (h:Q o s):wpAny (model prog w) A (Builtin.Slice.slicePartIndex v) Q E s:=by
  cases p with
  | none=>exact slicePart_none h
  | int i t=>exact slicePart_int h
theorem mY {sl:Addr}{vl vu:Value}{lo hi:Option Int}{n:Nat}{Q:Int × Int × Nat->Shared->Prop} (hs:s.heap.IsSliceOf sl vl vu .none) (pl:IsPart vl lo) (pu:IsPart vu hi)
    (h:Q (((sIx n 0 lo:Nat):Int),1,sIx n n hi - sIx n 0 lo) s):wpAny (model prog w) A (Builtin.Slice.sliceApplied (.ref sl) (pure (n:Int))) Q E s:=by
  obtain ⟨os,hos,hcs,hds⟩:=id hs
  unfold Builtin.Slice.sliceApplied Builtin.Slice.sliceFields
  refine wpAny_bind (wpAny_bind (wpAny_field hos hds (x:=vl) rfl (wpAny_bind (wpAny_field hos hds (x:=vu) rfl (wpAny_bind (wpAny_field hos hds (x:=.none) rfl (wpAny_pure ?_)))))))
  refine wpAny_bind (slicePart_none ?_)
  show wpAny _ _ (if ((1:Int) == 0)=true then _ else _) _ _ s
  rw [if_neg (by decide)]
  refine wpAny_bind (Bz pl (wpAny_bind (Bz pu (wpAny_bind (wpAny_pure ?_)))))
  show wpAny _ _ (match Builtin.Slice.sliceAdjust lo hi 1 (n:Int) with | (lo,hi)=>pure (lo,(1:Int),Builtin.Slice.slicePlaces lo hi 1)) _ _ s
  rw [FI lo hi n]
  show wpAny _ _ (pure (((sIx n 0 lo:Nat):Int),(1:Int),Builtin.Slice.slicePlaces ((sIx n 0 lo:Nat):Int) ((sIx n n hi:Nat):Int) 1)) _ _ s
  rw [FJ]
  exact wpAny_pure h
theorem J2 (xs:Array Value) (i k:Nat):((List.range k).filterMap fun (m:Nat)=>xs[((i:Int) + (m:Int) * 1).toNat]?).toArray=((xs.toList.drop i).take k).toArray:=by
  have e:(fun (m:Nat)=>xs[((i:Int) + (m:Int) * 1).toNat]?)=fun m=>xs[i + m]?:=by
    funext m
    have:((i:Int) + (m:Int) * 1).toNat=i + m:=by omega
    rw [this]
  rw [e]
  have:=pick_run xs i k
  rw [List.filterMap_map] at this
  have e2:((fun x=>xs[x]?) ∘ fun x=>i + x)=fun m=>xs[i + m]?:=rfl
  rw [e2] at this
  rw [this]
theorem AB {t sl:Addr}{items:Array Value}{vl vu:Value}{lo hi:Option Int}{Q:Value->Shared->Prop} (ht:IsTup s.heap t items) (hs:s.heap.IsSliceOf sl vl vu .none) (pl:IsPart vl lo) (pu:IsPart vu hi)
    (hw:¬ (sIx items.size 0 lo=0 /\ sIx items.size items.size hi=items.size))
    (h:Q (.ref s.heap.objs.size) { s with heap:=s.heap.push { cls:=.type "tuple",data:=.seq ((items.toList.drop (sIx items.size 0 lo)).take (sIx items.size items.size hi - sIx items.size 0 lo)).toArray } })
    (hsz:items.size <= sizeLine):wpAny (model prog w) A (getItem (.ref t) (.ref sl)) Q E s:=by
  have htake:sizeOk (.seq ((items.toList.drop (sIx items.size 0 lo)).take (sIx items.size items.size hi - sIx items.size 0 lo)).toArray):=by
    show ((items.toList.drop (sIx items.size 0 lo)).take (sIx items.size items.size hi - sIx items.size 0 lo)).toArray.size <= sizeLine
    rw [List.size_toArray,List.length_take,List.length_drop,Array.length_toList]
    omega
  have hj:sIx items.size items.size hi <= items.size:=NG _ _ (Nat.le_refl _) hi
  obtain ⟨os,hos,hcs,hds⟩:=id hs
  have hTs:s.TypeIs (.ref sl) "slice":=⟨os,hos,hcs⟩
  unfold getItem
  try with_reducible refine wpAny_holding ?_
  first | refine wpAny_bind (wpAny_pure ?_) | skip
  refine wpAny_bind (wpAny_sequenceKey ht.typeIs (by decide) ?_)
  refine wpAny_bind (wpAny_callSpecial?_slot (name:=Str.ofString "__getitem__") ht.typeIs PyProof.Rows.slot_tuple_getitem
    (wpAny_call_entry PyProof.Rows.slot_tuple_getitem ht.typeIs entry_tuple_getitem ?_ (args_tuple_getitem _ _)))
  show wpAny _ _ (Builtin.Tuple.tupleItemsOf (.ref t) >>= _) _ _ s
  refine wpAny_bind (tupleItemsOf_ ht ?_)
  refine wpAny_bind (wpAny_typeOf hTs ?_)
  rw [if_pos (by decide)]
  refine wpAny_bind (mY hs pl pu ?_)
  have hno:¬ ((((sIx items.size 0 lo:Nat):Int) == 0 && (1:Int) == 1 && (sIx items.size items.size hi - sIx items.size 0 lo) == items.size)=true):=by
    intro q
    rw [Bool.and_eq_true,Bool.and_eq_true] at q
    have q1:((sIx items.size 0 lo:Nat):Int)=0:=eq_of_beq q.1.1
    have q2:sIx items.size items.size hi - sIx items.size 0 lo=items.size:=eq_of_beq q.2
    exact hw ⟨by omega,by omega⟩
  show wpAny _ _ (if (((sIx items.size 0 lo:Nat):Int) == 0 && (1:Int) == 1 && (sIx items.size items.size hi - sIx items.size 0 lo) == items.size)=true then _ else _) _ _ s
  rw [if_neg hno,J2]
  first
    | exact wpAny_bind (m:=Builtin.Tuple.tupleExact _) (wpAny_newObj_type (wpAny_pure ⟨_,rfl,wpAny_pure h⟩) htake)
    | exact wpAny_bind (m:=Builtin.Tuple.tupleExact _) (wpAny_newObj_type (wpAny_bind (wpAny_pure (wpAny_pure ⟨_,rfl,wpAny_pure h⟩))) htake)
    | exact wpAny_bind (wpAny_bind (m:=Builtin.Tuple.tupleExact _) (wpAny_newObj_type (wpAny_pure (wpAny_pure ⟨_,rfl,wpAny_pure h⟩)) htake))
    | exact wpAny_bind (wpAny_bind (m:=Builtin.Tuple.tupleExact _) (wpAny_newObj_type (wpAny_pure ⟨_,rfl,wpAny_pure h⟩) htake))
end
end HT
namespace L2
open PySem PySem.Spec PyProof.Rows
noncomputable abbrev TO:=St->Hp->(Option Int->Hp->Prop)->Prop
noncomputable def PO (X:Cx) (e:Option Expr) (t:TO):Prop :=
  ∀ (pins:List (Addr × Obj)) (s:Shared) (σ:St) (H:Hp) (Q:Option Int->Hp->Prop),Inv X pins σ H s->t σ H Q ->
    wpAny (model X.prog X.w) X.A (evalPart e X.env) (fun u s'=>∃ o H',Inv X pins σ H' s' /\ IsPart u o /\ Q o H') X.xe s
noncomputable def tNoPart:TO:=fun _ H Q=>Q none H
noncomputable def tPart (t:TE):TO:=fun σ H Q=>t σ H fun x H1=>∃ i,x=.int i /\ Q (some i) H1
theorem jw {ns:List Int}:∀ {us:List Value},Vals (ns.map V.int) us->IntsAre us ns:=by
  induction ns with
  | nil=>intro us r;rw [List.map_nil] at r;cases r;exact .nil
  | cons n ns ih =>
    intro us r
    rw [List.map_cons] at r
    cases r with
    | cons r1 r2 =>
      obtain ⟨t,e⟩:=r1
      subst e
      exact .cons n t (ih r2)
section
variable {X : Cx} {e : Expr} {te : TE} {lo hi : Option Expr} {tl th : TO} {pos p2 : Pos}
theorem Mn:PO X none tNoPart:=by
  intro pins s σ H Q I h
  rw [evalPart_none]
  exact wpAny_pure ⟨none,H,I,.none,h⟩
theorem Mo (h:PE X e te):PO X (some e) (tPart te):=by
  intro pins s σ H Q I hw
  rw [evalPart_some]
  refine thn (h pins s σ H _ I hw) fun u s1 ⟨x,H1,I1,r1,q1⟩=>?_
  obtain ⟨i,rfl,q⟩:=q1
  obtain ⟨t,rfl⟩:=r1
  exact ⟨some i,H1,I1,.int i t,q⟩
noncomputable def SlR (X:Cx) (r:V->Option Int->Option Int->Hp->VK->Prop):Prop :=
  ∀ (pins:List (Addr × Obj)) (s:Shared) (σ:St) (H:Hp) (x:V) (v vl vu:Value) (lo hi:Option Int) (sl:Addr) (Q:VK),Inv X pins σ H s->RelV x v->s.heap.IsSliceOf sl vl vu .none->IsPart vl lo->IsPart vu hi->r x lo hi H Q ->
    ∃ T id,typeLookup (.type T) "__getitem__"=pure (some (.builtin id)) /\ s.TypeIs v T /\ wpAny (model X.prog X.w) X.A (getItem v (.ref sl)) (EP X pins σ Q) X.xe s
theorem SlR.or {r r':V->Option Int->Option Int->Hp->VK->Prop} (h:SlR X r) (h':SlR X r'):SlR X (fun x lo hi H Q=>r x lo hi H Q \/ r' x lo hi H Q):=by
  intro pins s σ H x v vl vu lo hi sl Q I rx hs pl pu q
  rcases q with q | q
  . exact h pins s σ H x v vl vu lo hi sl Q I rx hs pl pu q
  . exact h' pins s σ H x v vl vu lo hi sl Q I rx hs pl pu q
noncomputable def tSl (r:V->Option Int->Option Int->Hp->VK->Prop) (te:TE) (tl th:TO):TE:=fun σ H Q=>te σ H fun x H1=>tl σ H1 fun l H2=>th σ H2 fun u H3=>r x l u H3 Q
theorem J3 {r:V->Option Int->Option Int->Hp->VK->Prop} (hr:SlR X r) (he:PE X e te) (hl:PO X lo tl) (hu:PO X hi th):PE X (.Subscript e (.Slice lo hi none p2) pos) (tSl r te tl th):=by
  intro pins s σ H Q I h
  refine Subscript_ (thn (he pins s σ H _ I h) fun v s1 ⟨x,H1,I1,r1,q1⟩=>?_)
  refine wpAny_Slice (thn (hl pins s1 σ H1 _ I1 q1) fun vl s2 ⟨l,H2,I2,pl,q2⟩=>thn (hu pins s2 σ H2 _ I2 q2) fun vu s3 ⟨u,H3,I3,pu,q3⟩=>?_)
  rw [evalPart_none]
  refine wpAny_pure ?_
  have I4:Inv X pins σ H3 { s3 with heap:=s3.heap.push { cls:=.type "slice",data:=.fields #[vl,vu,.none] } }:=I3.kept (t':=s3.toks) fun b ob q=>Heap.get?_push_of_some _ q
  obtain ⟨T,id,hT,ht,hg⟩:=hr pins { s3 with heap:=s3.heap.push { cls:=.type "slice",data:=.fields #[vl,vu,.none] } } σ H3 x v vl vu l u s3.heap.objs.size Q I4 r1 (Heap.IsSliceOf.new ..) pl pu q3
  show wpAny (model X.prog X.w) X.A (subscriptTail e (.Slice lo hi none p2) v (.ref s3.heap.objs.size)) (EP X pins σ Q) X.xe { s3 with heap:=s3.heap.push { cls:=.type "slice",data:=.fields #[vl,vu,.none] } }
  exact tail_any (ops:=[.ref s3.heap.objs.size,v]) ht hT hg (by with_unfolding_all rfl)
noncomputable def cutV (xs:List V) (lo hi:Option Int):List V:=(xs.drop (HT.sIx xs.length 0 lo)).take (HT.sIx xs.length xs.length hi - HT.sIx xs.length 0 lo)
theorem A9 (xs:List V) (lo hi:Option Int):(cutV xs lo hi).length <= xs.length:=by
  unfold cutV
  rw [List.length_take,List.length_drop]
  omega
noncomputable def rSlT (K:PySem.W.Frag):V->Option Int->Option Int->Hp->VK->Prop:=fun x lo hi H Q=>∃ a xs,x=.ref a /\ SqT K H a xs /\
  ¬ (HT.sIx xs.length 0 lo=0 /\ HT.sIx xs.length xs.length hi=xs.length) /\ ∀ p,H p=none->Q (.ref p) (upd H p (.tup (cutV xs lo hi)))
theorem NH:SlR X (rSlT X.K):=by
  intro pins s σ H x v vl vu lo hi sl Q I rx hs pl pu h
  obtain ⟨a,xs,rfl,hx,hw,q⟩:=h
  cases rx
  obtain ⟨its,r,ht,hz⟩:=I.tuple hx
  have hlen:its.toArray.size=xs.length:=by rw [List.size_toArray];exact r.length.symm
  refine ⟨"tuple",_,PyProof.Rows.slot_tuple_getitem.lookup,ht.typeIs,?_⟩
  refine HT.AB ht hs pl pu (by rw [hlen];exact hw) ?_ (by rw [hlen];exact hz)
  rw [hlen]
  refine ⟨.ref s.heap.objs.size,_,I.laid (t':=s.toks) (o:=.tup (cutV xs lo hi)) (fun b ob q=>Heap.get?_push_of_some _ q) (Nat.le_refl _) ?_,rfl,q _ (I.hok.fresh (Nat.le_refl _))⟩
  exact ⟨Nat.le_trans (A9 xs lo hi) hz,_,(r.drop (HT.sIx xs.length 0 lo)).take (HT.sIx xs.length xs.length hi - HT.sIx xs.length 0 lo),IsTup.new _ _⟩
noncomputable def rLtT (K:PySem.W.Frag):R2:=fun x y H Q=>∃ a b ns ms,x=.ref a /\ y=.ref b /\ SqT K H a (ns.map V.int) /\ SqT K H b (ms.map V.int) /\ Q (.bl (HT.lexLt ns ms)) H
theorem NI (hu:X.A.units < cLine):OpR X (compareOp .Lt) (rLtT X.K):=by
  intro pins s σ H x y v u Q I rx ry h
  obtain ⟨a,b,ns,ms,rfl,rfl,ha,hb,q⟩:=h
  cases rx
  cases ry
  obtain ⟨its,r1,p1,_⟩:=I.tuple ha
  obtain ⟨its2,r2,p2,_⟩:=I.tuple hb
  have i1:IntsAre its.toArray.toList ns:=jw r1
  have i2:IntsAre its2.toArray.toList ms:=jw r2
  exact HT.FH p1 p2 i1 i2 hu ⟨.bl (HT.lexLt ns ms),H,I,rfl,q⟩
noncomputable def rCatT (K:PySem.W.Frag):R2:=fun x y H Q=>∃ a b xs ys,x=.ref a /\ y=.ref b /\ SqT K H a xs /\ SqT K H b ys /\ xs ≠ [] /\ xs.length + ys.length <= sizeLine /\
  (ys=[]->Q (.ref a) H) /\ (ys ≠ []->∀ p,H p=none->Q (.ref p) (upd H p (.tup (xs ++ ys))))
theorem Vals.nil_iff {xs:List V}{us:List Value} (r:Vals xs us):us=[] ↔ xs=[]:=by
  cases r with
  | nil=>simp
  | cons _ _=>simp
theorem Mp:OpR X (binaryOp .Add) (rCatT X.K):=by
  intro pins s σ H x y v u Q I rx ry h
  obtain ⟨a,b,xs,ys,rfl,rfl,ha,hb,hx,hz,q1,q2⟩:=h
  cases rx
  cases ry
  obtain ⟨its,r1,p1,_⟩:=I.tuple ha
  obtain ⟨its2,r2,p2,_⟩:=I.tuple hb
  refine HT.Mm p1 p2 (fun z=>hx (r1.nil_iff.mp z)) (fun z=>⟨.ref a,H,I,rfl,q1 (r2.nil_iff.mp z)⟩) (fun z=>?_) (by rw [<-r1.length,<-r2.length];exact hz)
  refine ⟨.ref s.heap.objs.size,_,I.laid (t':=s.toks) (o:=.tup (xs ++ ys)) (fun b ob q=>Heap.get?_push_of_some _ q) (Nat.le_refl _) ?_,rfl,q2 (fun w=>z (r2.nil_iff.mpr w)) _ (I.hok.fresh (Nat.le_refl _))⟩
  exact ⟨by rw [List.length_append];exact hz,_,r1.append r2,IsTup.new _ _⟩
end
end L2
namespace L2
open PySem PySem.Spec PyProof.Rows
noncomputable def ixN (n:Nat) (i:Int):Option Nat:=if 0 <= i then (if i < n then some i.toNat else none) else if -(n:Int) <= i then some (i + n).toNat else none
noncomputable def atI {α:Type} (xs:List α) (i:Int):Option α:=(ixN xs.length i).bind fun j=>xs[j]?
theorem Gw {n:Nat}{i:Int}{j:Nat} (h:ixN n i=some j):seqIndex? i n=some j /\ j < n /\ -(n:Int) <= i /\ i < n:=by
  unfold ixN at h
  by_cases h0:0 <= i
  . rw [if_pos h0] at h
    by_cases h1:i < n
    . rw [if_pos h1] at h
      have e:i.toNat=j:=Option.some.inj h
      exact ⟨by rw [seqIndex_of h0 h1,e],by omega,by omega,h1⟩
    . rw [if_neg h1] at h;cases h
  . rw [if_neg h0] at h
    by_cases h1:-(n:Int) <= i
    . rw [if_pos h1] at h
      have e:(i + n).toNat=j:=Option.some.inj h
      exact ⟨by rw [seqIndex_neg (by omega) h1,e],by omega,h1,by omega⟩
    . rw [if_neg h1] at h;cases h
theorem CO {α:Type}{xs:List α}{i:Int}{v:α} (h:atI xs i=some v):∃ j,seqIndex? i xs.length=some j /\ xs[j]?=some v /\ j < xs.length /\ -(xs.length:Int) <= i /\ i < xs.length:=by
  unfold atI at h
  cases e:ixN xs.length i with
  | none=>rw [e] at h;cases h
  | some j =>
    rw [e] at h
    obtain ⟨h1,h2,h3,h4⟩:=Gw e
    exact ⟨j,h1,h,h2,h3,h4⟩
theorem Mq {α:Type}{xs:List α}{j:Nat}{v:α} (h:xs[j]?=some v):atI xs (j:Int)=some v:=by
  have hj:j < xs.length:=(List.getElem?_eq_some_iff.mp h).1
  have e:ixN xs.length (j:Int)=some j:=by
    unfold ixN
    rw [if_pos (by omega),if_pos (by omega)];simp
  unfold atI;rw [e];exact h
noncomputable def PlainIx (b:Expr):Prop:=∀ o i,subscripted b false o i=operate [o,i] (getItem o i)
noncomputable def IxR (X:Cx) (r:R2):Prop :=
  ∀ (value slice:Expr) (pins:List (Addr × Obj)) (s:Shared) (σ:St) (H:Hp) (x y:V) (v u:Value) (Q:VK),Inv X pins σ H s->RelV x v->RelV y u->r x y H Q ->
    subscripted slice false v u=operate [v,u] (getItem v u)->wpAny (model X.prog X.w) X.A (subscriptTail value slice v u) (EP X pins σ Q) X.xe s
noncomputable def MtR (X:Cx) (id:String) (r:V->List V->Hp->VK->Prop):Prop :=
  ∀ (pins:List (Addr × Obj)) (s:Shared) (σ:St) (H:Hp) (x:V) (xs:List V) (v:Value) (us:List Value) (Q:VK),Inv X pins σ H s->RelV x v->Vals xs us->r x xs H Q ->
    wpAny (model X.prog X.w) X.A (call (.builtin id) (v :: us)) (EP X pins σ Q) X.xe s
section
variable {X : Cx} {a b : Expr} {ta tb : TE} {pos : Pos}
theorem IxR.or {r r':R2} (h:IxR X r) (h':IxR X r'):IxR X (fun x y H Q=>r x y H Q \/ r' x y H Q):=by
  intro value slice pins s σ H x y v u Q I rx ry q hs
  rcases q with q | q
  . exact h value slice pins s σ H x y v u Q I rx ry q hs
  . exact h' value slice pins s σ H x y v u Q I rx ry q hs
theorem J4 {r:R2} (hr:IxR X r) (ha:PE X a ta) (hb:PE X b tb) (hs:PlainIx b):PE X (.Subscript a b pos) (tOp r ta tb):=by
  intro pins s σ H Q I h
  exact Subscript_ (binT ha hb I h fun v u s2 x y H2 I2 rx ry q=>hr a b pins s2 σ H2 x y v u Q I2 rx ry q (hs _ _))
noncomputable def rIxL (K:PySem.W.Frag):R2:=fun x y H Q=>∃ p xs i v,x=.ref p /\ y=.int i /\ SqL K H p xs /\ atI xs i=some v /\ Q v H
noncomputable def rIxT (K:PySem.W.Frag):R2:=fun x y H Q=>∃ p xs i v,x=.ref p /\ y=.int i /\ SqT K H p xs /\ atI xs i=some v /\ Q v H
noncomputable def rIxS:R2:=fun x y H Q=>∃ z i c,x=.str z /\ y=.int i /\ z.length <= sizeLine /\ atI z.cps.toList i=some c /\ Q (.str ⟨#[c]⟩) H
theorem CP:IxR X (rIxL X.K):=by
  intro value slice pins s σ H x y v u Q I rx ry h hs
  obtain ⟨p,xs,i,z,rfl,rfl,hq,he,q⟩:=h
  cases rx
  obtain ⟨t,rfl⟩:=ry
  obtain ⟨its,r,pl,hz⟩:=I.list hq
  obtain ⟨j,h1,h2,h3,h4,h5⟩:=CO he
  obtain ⟨w,ew,rw'⟩:=r.get h2
  have hl:=r.length
  have hn:=line63
  have fin:EP X pins σ Q w s:=⟨z,H,I,rw',q⟩
  by_cases h0:0 <= i
  . have hj:i.toNat=j:=by
      rw [seqIndex_of h0 h5] at h1
      exact Option.some.inj h1
    exact item_listR pl.isList h0 (by omega) (by rw [hj];simpa using ew) fin hs
  . have hj:(i + (its.toArray.size:Int)).toNat=j:=by
      rw [seqIndex_neg (by omega) h4] at h1
      rw [List.size_toArray,<-hl]
      exact Option.some.inj h1
    exact subscriptTail_builtinR (x:=w) pl.isList.typeIs slot_list_getitem.lookup
      (wpAny_getItem_list_neg (Q:=fun r s'=>r=w /\ EP X pins σ Q r s') pl.isList (by omega) (by rw [List.size_toArray] <;> omega) (by omega) (by rw [hj];simpa using ew) ⟨rfl,fin⟩) hs
theorem NJ:IxR X (rIxT X.K):=by
  intro value slice pins s σ H x y v u Q I rx ry h hs
  obtain ⟨p,xs,i,z,rfl,rfl,hq,he,q⟩:=h
  cases rx
  obtain ⟨t,rfl⟩:=ry
  obtain ⟨its,r,pl,hz⟩:=I.tuple hq
  obtain ⟨j,h1,h2,h3,h4,h5⟩:=CO he
  obtain ⟨w,ew,rw'⟩:=r.get h2
  have hl:=r.length
  have hn:=line63
  have fin:EP X pins σ Q w s:=⟨z,H,I,rw',q⟩
  exact subscriptTail_builtinR (x:=w) pl.typeIs slot_tuple_getitem.lookup
    (getItem_tuple (j:=j) (Q:=fun r s'=>r=w /\ EP X pins σ Q r s') pl (by omega) (by omega) (by rw [List.size_toArray,<-hl];exact h1) (by simpa using ew) ⟨rfl,fin⟩) hs
theorem NK:IxR X rIxS:=by
  intro value slice pins s σ H x y v u Q I rx ry h hs
  obtain ⟨z,i,c,rfl,rfl,hz,he,q⟩:=h
  obtain ⟨t,rfl⟩:=rx
  obtain ⟨t',rfl⟩:=ry
  obtain ⟨j,h1,h2,h3,h4,h5⟩:=CO he
  have hl:z.cps.toList.length=z.length:=by simp [Str.length]
  rw [hl] at h1 h4 h5
  have hn:=line63
  exact tail_any (typeIs_str s z t) slot_str_getitem.lookup (getItem_str (c:=c) (by
    have e1:decide (i < -(2 ^ 63:Int))=false:=decide_eq_false (by omega)
    have e2:decide (i >= 2 ^ 63)=false:=decide_eq_false (by omega)
    rw [e1,e2,Bool.or_false]) (by rw [h1];simpa using h2) ⟨.str ⟨#[c]⟩,H,I.tok _,⟨_,rfl⟩,q⟩) hs
noncomputable def rIx (K:PySem.W.Frag):R2:=fun x y H Q=>rIxL K x y H Q \/ rIxT K x y H Q \/ rIxS x y H Q
theorem gb:IxR X (rIx X.K):=CP.or (NJ.or NK)
theorem FK (its:List Value) (n j:Nat) (u:Value):Obj.mapSeq (·.setIfInBounds j u) { cls:=.type "list",data:=.seq its.toArray n }={ cls:=.type "list",data:=.seq (its.set j u).toArray n }:=by
  simp [Obj.mapSeq]
theorem Inv.lst {pins:List (Addr × Obj)}{σ:St}{H:Hp}{s:Shared}{p:Addr}{xs:List V} (I:Inv X pins σ H s) (h:H p=some (.lst xs)) :
    ∃ (its:List Value) (n:Nat),Vals xs its /\ s.heap.get? p=some { cls:=.type "list",data:=.seq its.toArray n } /\ xs.length <= sizeLine:=by
  obtain ⟨z,its,n,r,e⟩:=I.hok p _ h
  exact ⟨its,n,r,e,z⟩
theorem Inv.lstUpd {pins:List (Addr × Obj)}{σ:St}{H:Hp}{s:Shared}{p:Addr}{xs ys:List V}{its its':List Value}{n n':Nat}{f:Obj->Obj} (I:Inv X pins σ H s) (h:H p=some (.lst xs))
    (ho:s.heap.get? p=some { cls:=.type "list",data:=.seq its.toArray n }) (hf:f { cls:=.type "list",data:=.seq its.toArray n }={ cls:=.type "list",data:=.seq its'.toArray n' }) (r:Vals ys its') (hz:ys.length <= sizeLine) (t:Nat) :
    Inv X pins σ (upd H p (.lst ys)) { s with heap:=s.heap.update p f,toks:=t }:=by
  have e:(s.heap.update p f).get? p=some { cls:=.type "list",data:=.seq its'.toArray n' }:=by
    rw [Heap.get?_update_self f ho (by rw [hf] <;> rfl),hf]
  refine I.write (x:=p) (e:=p) (by rw [h];trivial) (.inl rfl) (fun b u hb q=>(Heap.get?_update_other _ _ (Ne.symm hb)).trans q) ⟨_,e⟩ ?_
  exact ⟨hz,its',n',r,e⟩
noncomputable def rSetL:V->V->V->Hp->(Hp->Prop)->Prop:=fun o i v H Q=>∃ p xs k j,o=.ref p /\ i=.int k /\ H p=some (.lst xs) /\ ixN xs.length k=some j /\ Q (upd H p (.lst (xs.set j v)))
theorem J5:PSet X rSetL:=by
  intro pins s σ H o i v ov iv u Q I ro ri rv h
  obtain ⟨p,xs,k,j,rfl,rfl,hp,hj,q⟩:=h
  cases ro
  obtain ⟨t,rfl⟩:=ri
  obtain ⟨its,n,r,ho,hz⟩:=I.lst hp
  obtain ⟨h1,h2,h3,h4⟩:=Gw hj
  have hl:=r.length
  have hn:=line63
  have I':Inv X pins σ (upd H p (.lst (xs.set j v))) { s with heap:=s.heap.update p (Obj.mapSeq (·.setIfInBounds j u)) } :=
    I.lstUpd hp ho (FK its n j u) (r.set rv j) (by rw [List.length_set];exact hz) s.toks
  by_cases h0:0 <= k
  . have hk:k.toNat=j:=by
      rw [seqIndex_of h0 h4] at h1
      exact Option.some.inj h1
    exact PySem.W.ki_setAt ho h0 (by omega) (by rw [List.size_toArray,<-hl];exact h4) (by rw [hk];exact ⟨_,I',q⟩)
  . have hk:(k + (its.toArray.size:Int)).toNat=j:=by
      rw [seqIndex_neg (by omega) h3] at h1
      rw [List.size_toArray,<-hl]
      exact Option.some.inj h1
    exact PySem.W.ki_setBack ho (by omega) (by rw [List.size_toArray,<-hl];exact h3) (by omega) (by rw [hk];exact ⟨_,I',q⟩)
theorem CQ (lo hi:Option Int) (n:Nat):(sliceBounds lo hi none n).1=((HT.sIx n 0 lo:Nat):Int) /\ (sliceBounds lo hi none n).2.1=((HT.sIx n n hi:Nat):Int) /\ (sliceBounds lo hi none n).2.2=1:=by
  refine ⟨?_,?_,rfl⟩
  . cases lo with
    | none=>simp [sliceBounds,HT.sIx]
    | some i =>
      simp only [sliceBounds,HT.sIx,Option.getD_none,show (1:Int) > 0 by decide,if_true]
      by_cases h:i < 0
      . simp only [h,if_true] <;> omega
      . simp only [h,if_false] <;> omega
  . cases hi with
    | none=>simp [sliceBounds,HT.sIx]
    | some i =>
      simp only [sliceBounds,HT.sIx,Option.getD_none,show (1:Int) > 0 by decide,if_true]
      by_cases h:i < 0
      . simp only [h,if_true] <;> omega
      . simp only [h,if_false] <;> omega
theorem Ce (its:List Value) (lo hi:Option Int):slicePick its.toArray lo hi none=((its.drop (HT.sIx its.length 0 lo)).take (HT.sIx its.length its.length hi - HT.sIx its.length 0 lo)).toArray:=by
  obtain ⟨h1,h2,h3⟩:=CQ lo hi its.toArray.size
  unfold slicePick
  rw [h1,h2,h3]
  simp only [sliceRange_one,pick_run,List.size_toArray] <;> rfl
noncomputable def rSlL (K:PySem.W.Frag):V->Option Int->Option Int->Hp->VK->Prop:=fun x lo hi H Q=>∃ a xs,x=.ref a /\ SqL K H a xs /\ ∀ p,H p=none->Q (.ref p) (upd H p (.lst (cutV xs lo hi)))
theorem Mr:SlR X (rSlL X.K):=by
  intro pins s σ H x v vl vu lo hi sl Q I rx hs pl pu h
  obtain ⟨a,xs,rfl,hx,q⟩:=h
  cases rx
  obtain ⟨its,r,ht,hz⟩:=I.list hx
  have hlen:=r.length
  refine ⟨"list",_,slot_list_getitem.lookup,ht.isList.typeIs,?_⟩
  refine wpAny_getItem_list_slice ht.isList hs pl pu .none (by simp) ?_ (by rw [List.size_toArray] <;> omega)
  rw [Ce,<-hlen]
  refine ⟨.ref s.heap.objs.size,_,I.laid (t':=s.toks) (o:=.lst (cutV xs lo hi)) (fun b ob q=>Heap.get?_push_of_some _ q) (Nat.le_refl _) ?_,rfl,q _ (I.hok.fresh (Nat.le_refl _))⟩
  exact ⟨Nat.le_trans (A9 xs lo hi) hz,_,0,(r.drop (HT.sIx xs.length 0 lo)).take (HT.sIx xs.length xs.length hi - HT.sIx xs.length 0 lo),Heap.get?_push_size _ rfl⟩
noncomputable def flatV:V->Bool
  | .non=>true
  | .bl _=>true
  | .int _=>true
  | .str _=>true
  | _=>false
noncomputable def eqV:V->V->Bool
  | .non,.non=>true
  | .bl a,.bl b=>a == b
  | .bl a,.int b=>(if a then 1 else 0) == b
  | .int a,.bl b=>a == (if b then 1 else 0)
  | .int a,.int b=>a == b
  | .str a,.str b=>a == b
  | _,_=>false
theorem NL {A:Around}{s:Shared}{y x:V}{u v:Value} (ry:RelV y u) (rx:RelV x v) (fy:flatV y=true) (fx:flatV x=true):SeqAt.EqAt A s u v (eqV y x):=by
  cases y with
  | non =>
    cases ry
    cases x with
    | non=>cases rx;exact SeqAt.EqAt.same _
    | bl b=>cases rx;exact SeqAt.EqAt.none_bool b
    | int b=>obtain ⟨t,rfl⟩:=rx;exact SeqAt.EqAt.none_int b t
    | str b=>obtain ⟨t,rfl⟩:=rx;exact SeqAt.EqAt.none_str b t
    | _=>exact absurd (show false=true from fx) Bool.false_ne_true
  | bl a =>
    cases ry
    cases x with
    | non=>cases rx;exact SeqAt.EqAt.bool_none a
    | bl b=>cases rx;exact SeqAt.EqAt.bool_bool a b
    | int b=>obtain ⟨t,rfl⟩:=rx;exact SeqAt.EqAt.bool_int a b t
    | str b=>obtain ⟨t,rfl⟩:=rx;exact SeqAt.EqAt.bool_str a b t
    | _=>exact absurd (show false=true from fx) Bool.false_ne_true
  | int a =>
    obtain ⟨t',rfl⟩:=ry
    cases x with
    | non=>cases rx;exact SeqAt.EqAt.int_none a t'
    | bl b=>cases rx;exact SeqAt.EqAt.int_bool a t' b
    | int b=>obtain ⟨t,rfl⟩:=rx;exact SeqAt.EqAt.int_int a t' b t
    | str b=>obtain ⟨t,rfl⟩:=rx;exact SeqAt.EqAt.int_str a t' b t
    | _=>exact absurd (show false=true from fx) Bool.false_ne_true
  | str a =>
    obtain ⟨t',rfl⟩:=ry
    cases x with
    | non=>cases rx;exact SeqAt.EqAt.str_none a t'
    | bl b=>cases rx;exact SeqAt.EqAt.str_bool a t' b
    | int b=>obtain ⟨t,rfl⟩:=rx;exact SeqAt.EqAt.str_int a t' b t
    | str b=>obtain ⟨t,rfl⟩:=rx;exact SeqAt.EqAt.str_str a t' b t
    | _=>exact absurd (show false=true from fx) Bool.false_ne_true
  | _=>exact absurd (show false=true from fy) Bool.false_ne_true
theorem gE:CallR X (.builtin "len") (fun xs H Q=>∃ p ys,xs=[.ref p] /\ (SqL X.K H p ys \/ SqT X.K H p ys) /\ Q (.int ys.length) H):=by
  intro pins s σ H xs us Q I r h
  obtain ⟨p,ys,rfl,hq,q⟩:=h
  obtain ⟨u,rfl,rx⟩:=vals1 r
  cases rx
  have hn:=line63
  rcases hq with hq | hq
  . obtain ⟨its,r',pl,hz⟩:=I.list hq
    have hlen:=r'.length
    exact Calls.call_len_list pl.isList (by simp only [List.size_toArray] <;> omega) ⟨.int ys.length,H,I.tok _,⟨s.toks + 1,by rw [List.size_toArray,hlen]⟩,q⟩
  . obtain ⟨its,r',pl,hz⟩:=I.tuple hq
    have hlen:=r'.length
    exact len_tuple pl (by simp only [List.size_toArray] <;> omega) ⟨.int ys.length,H,I.tok _,⟨s.toks + 1,by rw [List.size_toArray,hlen]⟩,q⟩
theorem AC:CallR X (.type "list") (fun xs H Q=>∃ p ys,xs=[.ref p] /\ (SqL X.K H p ys \/ SqT X.K H p ys) /\ ∀ l,H l=none->Q (.ref l) (upd H l (.lst ys))):=by
  intro pins s σ H xs us Q I r h
  obtain ⟨p,ys,rfl,hq,q⟩:=h
  obtain ⟨u,rfl,rx⟩:=vals1 r
  cases rx
  have fin:∀ (its:List Value),Vals ys its->ys.length <= sizeLine->∀ (h':Heap) (c':Nat),(∀ b o',s.heap.get? b=some o'->h'.get? b=some o') ->
      h'.get? s.heap.objs.size=some { cls:=.type "list",dict:=none,data:=.seq its.toArray c',slots:=#[] }->EP X pins σ Q (.ref s.heap.objs.size) { s with heap:=h' }:=fun its r' hz h' c' kp e =>
    ⟨.ref s.heap.objs.size,_,I.laid (t':=s.toks) kp (Nat.le_refl _) (show ObjOk X.prog X.w _ h' _ (.lst ys) from ⟨hz,its,c',r',e⟩),rfl,q _ (I.hok.fresh (Nat.le_refl _))⟩
  rcases hq with hq | hq
  . obtain ⟨its,r',pl,hz⟩:=I.list hq
    have hlen:=r'.length
    obtain ⟨o,ho,hc,n,hd⟩:=pl.isList
    exact call_list_seq p (.inl rfl) ho hc hd (fun h' c' kp e=>fin its r' hz h' c' kp e) (by simp only [List.size_toArray] <;> omega)
  . obtain ⟨its,r',pl,hz⟩:=I.tuple hq
    have hlen:=r'.length
    obtain ⟨o,ho,hc,n,hd⟩:=pl
    exact call_list_seq p (.inr rfl) ho hc hd (fun h' c' kp e=>fin its r' hz h' c' kp e) (by simp only [List.size_toArray] <;> omega)
theorem il:CallR X (.type "tuple") (fun xs H Q=>∃ p ys,xs=[.ref p] /\ ((SqL X.K H p ys /\ ∀ l,H l=none->Q (.ref l) (upd H l (.tup ys))) \/ (SqT X.K H p ys /\ Q (.ref p) H))):=by
  intro pins s σ H xs us Q I r h
  obtain ⟨p,ys,rfl,h⟩:=h
  obtain ⟨u,rfl,rx⟩:=vals1 r
  cases rx
  rcases h with ⟨hq,q⟩ | ⟨hq,q⟩
  . obtain ⟨its,r',pl,hz⟩:=I.list hq
    have hlen:=r'.length
    refine call_tuple_list pl.isList (fun h' kp=>?_) (by simp only [List.size_toArray] <;> omega)
    have I1:Inv X pins σ H { s with heap:=h' }:=I.kept (t':=s.toks) kp
    have I2:Inv X pins σ (upd H h'.objs.size (.tup ys)) { s with heap:=h'.push { cls:=.type "tuple",data:=.seq its.toArray } } :=
      I1.laid (t':=s.toks) (fun b o e=>Heap.get?_push_of_some _ e) (Nat.le_refl _) (show ObjOk X.prog X.w _ _ _ (.tup ys) from ⟨hz,its,r',IsTup.new _ _⟩)
    exact ⟨.ref h'.objs.size,_,I2,rfl,q _ (I1.hok.fresh (Nat.le_refl _))⟩
  . obtain ⟨its,r',pl,hz⟩:=I.tuple hq
    exact call_tuple_same pl ⟨.ref p,H,I,rfl,q⟩
noncomputable def tyV (K:PySem.W.Frag) (T:String) (x:V) (H:Hp):Prop:=match x with
  | .str _=>T="str"
  | .int _=>T="int"
  | .ref p=>(T="list" /\ ∃ xs,SqL K H p xs) \/ (T="tuple" /\ ∃ o,K.lookup p=some o /\ o.cls=.type "tuple" /\ o.dict=none) \/
      (T="dict" /\ ((∃ kvs,H p=some (.dK kvs)) \/ ∃ kvs,H p=some (.dT kvs))) \/ (T="set" /\ ∃ S n,H p=some (.set S n))
  | _=>False
theorem NM {pins:List (Addr × Obj)}{σ:St}{H:Hp}{s:Shared}{T:String}{x:V}{v:Value} (I:Inv X pins σ H s) (r:RelV x v) (ty:tyV X.K T x H) :
    s.TypeIs v T /\ ∀ a,v=.ref a->∃ ob,s.heap.get? a=some ob /\ ob.dict=none:=by
  cases x with
  | str z =>
    obtain ⟨t,rfl⟩:=r
    cases (show T="str" from ty)
    exact ⟨typeIs_str s z t,fun _ e=>nomatch e⟩
  | int i =>
    obtain ⟨t,rfl⟩:=r
    cases (show T="int" from ty)
    exact ⟨typeIs_int s i t,fun _ e=>nomatch e⟩
  | ref p =>
    cases r
    rcases ty with ⟨rfl,xs,hq⟩ | ⟨rfl,o,hk,hc,hd⟩ | ⟨rfl,hk⟩ | ⟨rfl,S,n,hk⟩
    . obtain ⟨its,_,pl,_⟩:=I.list hq
      refine ⟨pl.isList.typeIs,fun a e=>?_⟩
      cases e
      obtain ⟨o,n,e,c,hd,_⟩:=pl
      exact ⟨o,e,hd⟩
    . refine ⟨⟨o,I.kIn p o hk,hc⟩,fun a e=>?_⟩
      cases e
      exact ⟨o,I.kIn _ o hk,hd⟩
    . have z:∃ o,s.heap.get? p=some o /\ o.ExactDict:=by
        rcases hk with ⟨kvs,hk⟩ | ⟨kvs,hk⟩
        . obtain ⟨_,_,_,_,o,_,_,e,ex,_⟩:=I.hok p _ hk
          exact ⟨o,e,ex⟩
        . obtain ⟨_,_,_,_,o,_,_,e,ex,_⟩:=I.hok p _ hk
          exact ⟨o,e,ex⟩
      obtain ⟨o,e,ex⟩:=z
      refine ⟨⟨o,e,ex.1⟩,fun a e2=>?_⟩
      cases e2
      exact ⟨o,e,ex.2.1⟩
    . obtain ⟨o,_,_,_,e,ex,_⟩:=I.hok p _ hk
      refine ⟨⟨o,e,ex.1⟩,fun a e2=>?_⟩
      cases e2
      exact ⟨o,e,ex.2.1⟩
  | _=>exact False.elim ty
noncomputable def tBM (K:PySem.W.Frag) (T:String) (r:V->List V->Hp->VK->Prop) (to:TE) (t:TA):TE:=fun σ H Q=>to σ H fun x H1=>tyV K T x H1 /\ t σ H1 fun xs H2=>r x xs H2 Q
variable {o e : Expr} {es : List Expr} {to : TE} {t : TA} {name : Str} {apos cpos : Pos} {T id : String} {r : V -> List V -> Hp -> VK -> Prop}
theorem Gx (pa:PlainAttrs T) (slot:Slot T name id) (hty:typeOf (.builtin id)=pure (.type "method_descriptor")) (hm:MtR X id r) (ho:PE X o to) (ha:PA X (e :: es) t)
    (hbase:attributeBase o name X.env (eval o X.env)=eval o X.env:=by rfl)
    (hfew:((backTo cpos (starEach (e :: es) X.env)).all (fun x=>!x.1) && (backToKw cpos (keywordEach [] X.env)).all (fun x=>x.1.isSome)
      && decide ((e :: es).length + ([]:List Keyword).length + (if ([]:List Keyword).isEmpty then 0 else 1) < 30))=true:=by rfl)
    (hline:(apos.endLine == cpos.line)=true:=by rfl) (hs:starEach (e :: es) X.env=(false,eval e X.env) :: starEach es X.env:=by rfl) (hplain:(backTo cpos (starEach es X.env)).any (·.1)=false:=by rfl) :
    PE X (.Call (.Attribute o name apos) (e :: es) [] cpos) (tBM X.K T r to t):=by
  intro pins s σ H Q I h
  refine wpAny_Call_method_late hbase hfew hline rfl (thn (ho pins s σ H _ I h) fun v s1 ⟨x,H1,I1,r1,ty,q1⟩=>?_)
  obtain ⟨h1,h2⟩:=NM I1 r1 ty
  refine ⟨T,id,pa,slot,hty,h1,h2,?_⟩
  have hA:=ha cpos pins s1 σ H1 _ I1 q1
  rw [hs] at hA ⊢
  refine Calls.callWith_builtin (by show (false || (backTo cpos (starEach es X.env)).any (·.1))=false;rw [hplain] <;> rfl) (Calls.evalArgs_plain ?_)
  exact thn hA fun us s2 ⟨vs,H2,I2,r2,q2⟩=>hm pins s2 σ H2 x vs v us Q I2 r1 r2 q2
/- xs.append(e),list.index on a module's tuple .. are MtR facts of 06m -/
end
end L2
namespace L2
open PySem PySem.Spec PyProof.Rows
noncomputable def MtM (X:Cx) (id:String) (r:V->List V->Hp->VK->Prop):Prop :=
  ∀ (pins:List (Addr × Obj)) (s:Shared) (σ:St) (H:Hp) (x:V) (xs:List V) (v:Value) (us:List Value) (Q:VK),Inv X pins σ H s->RelV x v->Vals xs us->r x xs H Q ->
    wpAny (model X.prog X.w) X.A (call (.builtin id) (v :: us)) (EP X pins σ Q) X.xe s
theorem Vals.one:∀ {x:V}{us:List Value},Vals [x] us->∃ u,us=[u] /\ RelV x u
  | _,_,.cons r .nil=>⟨_,rfl,r⟩
theorem Vals.two:∀ {x y:V}{us:List Value},Vals [x,y] us->∃ u v,us=[u,v] /\ RelV x u /\ RelV y v
  | _,_,_,.cons r (.cons q .nil)=>⟨_,_,rfl,r,q⟩
theorem Vals.reverse {xs:List V}{us:List Value} (h:Vals xs us):Vals xs.reverse us.reverse:=by
  induction h with
  | nil=>exact .nil
  | cons r t ih=>rw [List.reverse_cons,List.reverse_cons];exact Vals.append ih (.cons r .nil)
theorem Vals.rep {xs:List V}{us:List Value} (h:Vals xs us):∀ k:Nat,Vals (List.replicate k xs).flatten (List.replicate k us).flatten
  | 0=>.nil
  | k + 1=>by
    rw [List.replicate_succ,List.replicate_succ,List.flatten_cons,List.flatten_cons]
    exact Vals.append h (Vals.rep h k)
theorem Ac (its:List Value):∀ (k:Nat) (acc:List Value),
    List.foldl (fun x1 x2=>x1 ++ x2) acc.toArray (List.replicate k its.toArray)=(acc ++ (List.replicate k its).flatten).toArray
  | 0,acc=>by simp
  | k + 1,acc=>by
    have e:acc.toArray ++ its.toArray=(acc ++ its).toArray:=by simp
    have e2:(acc ++ its) ++ (List.replicate k its).flatten=acc ++ (List.replicate (k + 1) its).flatten:=by
      rw [List.replicate_succ,List.flatten_cons,List.append_assoc]
    rw [<-e2,<-Ac its k (acc ++ its),<-e,List.replicate_succ,List.foldl_cons]
section
variable {X : Cx} {pins : List (Addr × Obj)} {σ : St} {H : Hp} {s : Shared} {l b : Addr} {xs ys zs : List V}
theorem Inv.lset {its its':List Value}{n:Nat}{f:Array Value->Array Value}{t':Nat} (I:Inv X pins σ H s) (hH:H l=some (.lst xs))
    (e:s.heap.get? l=some { cls:=.type "list",data:=.seq its.toArray n }) (hf:f its.toArray=its'.toArray) (hv:Vals ys its') (hz:ys.length <= sizeLine) :
    Inv X pins σ (upd H l (.lst ys)) { s with heap:=s.heap.update l (Obj.mapSeq f),toks:=t' }:=by
  have q:=PySem.IsL.update e f
  rw [hf] at q
  refine I.write (x:=l) (e:=l) (by rw [hH];exact trivial) (.inl rfl) (fun b' u hb hu=>(Heap.get?_update_other s.heap (Obj.mapSeq f) (Ne.symm hb)).trans hu) ⟨_,q⟩ ?_
  exact ⟨hz,its',_,hv,q⟩
theorem Inv.lnew {its:List Value}{t':Nat} (I:Inv X pins σ H s) (hv:Vals ys its) (hz:ys.length <= sizeLine) :
    Inv X pins σ (upd H s.heap.objs.size (.lst ys)) { s with heap:=s.heap.push { cls:=.type "list",data:=.seq its.toArray },toks:=t' } :=
  I.laid (fun _ _ q=>Heap.get?_push_of_some _ q) (Nat.le_refl _) ⟨hz,its,0,hv,Heap.get?_push_size _ rfl⟩
theorem Inv.fresh (I:Inv X pins σ H s):H s.heap.objs.size=none:=I.hok.fresh (Nat.le_refl _)
theorem Inv.lstM (I:Inv X pins σ H s) (hH:H l=some (.lst xs)):xs.length <= sizeLine /\ ∃ (its:List Value) (n:Nat),Vals xs its /\ xs.length=its.length /\ s.heap.get? l=some { cls:=.type "list",data:=.seq its.toArray n }:=by
  obtain ⟨z,its,n,r,e⟩:=I.hok l _ hH
  exact ⟨z,its,n,r,r.length,e⟩
theorem notLongL {n:Nat} (h:n <= sizeLine):Builtin.List.listTooLong n=false:=by
  unfold Builtin.List.listTooLong
  exact decide_eq_false (by omega)
end
section
variable {X : Cx}
noncomputable def rAppend:V->List V->Hp->VK->Prop:=fun x vs H Q=>∃ l xs y,x=.ref l /\ vs=[y] /\ H l=some (.lst xs) /\ xs.length < sizeLine /\ Q .non (upd H l (.lst (xs ++ [y])))
theorem AU:MtM X "list.append" rAppend:=by
  intro pins s σ H x vs v us Q I rx rv h
  obtain ⟨l,xs,y,rfl,rfl,hH,hz,q⟩:=h
  cases rx
  obtain ⟨u,rfl,ru⟩:=rv.one
  obtain ⟨z,its,n,r,hl,e⟩:=I.lstM hH
  refine call_meets F.slot_list_append ⟨_,e,rfl⟩ F.entry_list_append (F.args_list_append_2 _ _) (PySem.list_append l its.toArray n u (by rw [List.size_toArray];omega)) ⟨e,?_⟩
  refine ⟨.non,_,I.lset (its':=its ++ [u]) hH e (by simp) (r.append (.cons ru .nil)) ?_,rfl,q⟩
  rw [List.length_append,List.length_singleton]
  omega
noncomputable def rExtend:V->List V->Hp->VK->Prop:=fun x vs H Q=>∃ l b xs zs,x=.ref l /\ vs=[.ref b] /\ H l=some (.lst xs) /\ H b=some (.lst zs) /\ xs.length + zs.length <= sizeLine /\ Q .non (upd H l (.lst (xs ++ zs)))
theorem OD:MtM X "list.extend" rExtend:=by
  intro pins s σ H x vs v us Q I rx rv h
  obtain ⟨l,b,xs,zs,rfl,rfl,hH,hB,hz,q⟩:=h
  cases rx
  obtain ⟨u,rfl,ru⟩:=rv.one
  cases ru
  obtain ⟨z,its,n,r,hl,e⟩:=I.lstM hH
  obtain ⟨z2,its2,n2,r2,hl2,e2⟩:=I.lstM hB
  have hsz:its.toArray.size + its2.toArray.size <= sizeLine:=by rw [List.size_toArray,List.size_toArray];omega
  have hlong:¬ (!its.toArray.isEmpty && Builtin.List.listTooLong (its.toArray.size + its2.toArray.size))=true:=by
    rw [notLongL hsz,Bool.and_false]
    exact Bool.false_ne_true
  refine call_meets F.slot_list_extend ⟨_,e,rfl⟩ F.entry_list_extend (F.args_list_extend_2 _ _)
    (AutoSeq1.list_extend_list_list_0 l its.toArray n b its2.toArray n2 hlong (by rw [List.size_toArray];omega) (by omega)) ⟨e,e2,?_⟩
  refine ⟨.non,_,I.lset (its':=its ++ its2) hH e (by simp) (r.append r2) ?_,rfl,q⟩
  rw [List.length_append]
  omega
noncomputable def rCat:R2:=fun x y H Q=>∃ l b xs zs,x=.ref l /\ y=.ref b /\ H l=some (.lst xs) /\ H b=some (.lst zs) /\ xs.length + zs.length <= sizeLine /\ ∀ p,H p=none->Q (.ref p) (upd H p (.lst (xs ++ zs)))
theorem BA:OpR X (binaryOp .Add) rCat:=by
  intro pins s σ H x y v u Q I rx ry h
  obtain ⟨l,b,xs,zs,rfl,rfl,hH,hB,hz,q⟩:=h
  cases rx
  cases ry
  obtain ⟨z,its,n,r,hl,e⟩:=I.lstM hH
  obtain ⟨z2,its2,n2,r2,hl2,e2⟩:=I.lstM hB
  refine PySem.P.add_list e e2 ?_ (by rw [List.size_toArray,List.size_toArray];omega)
  have ea:its.toArray ++ its2.toArray=(its ++ its2).toArray:=by simp
  rw [ea]
  exact ⟨.ref _,_,I.lnew (t':=s.toks) (r.append r2) (by rw [List.length_append];omega),rfl,q _ I.fresh⟩
noncomputable def rRep:R2:=fun x y H Q=>∃ l k xs,x=.ref l /\ y=.int k /\ H l=some (.lst xs) /\ -(2 ^ 63) <= k /\ k < 2 ^ 63 /\ xs.length * k.toNat <= sizeLine /\
  ∀ p,H p=none->Q (.ref p) (upd H p (.lst (List.replicate k.toNat xs).flatten))
theorem CS {α:Type} (xs:List α) (k:Nat):(List.replicate k xs).flatten.length=k * xs.length:=by
  induction k with
  | zero=>simp
  | succ k ih=>rw [List.replicate_succ,List.flatten_cons,List.length_append,ih,Nat.succ_mul,Nat.add_comm]
theorem NO:OpR X (binaryOp .Mult) rRep:=by
  intro pins s σ H x y v u Q I rx ry h
  obtain ⟨l,k,xs,rfl,rfl,hH,h1,h2,hz,q⟩:=h
  cases rx
  obtain ⟨t,rfl⟩:=ry
  obtain ⟨z,its,n,r,hl,e⟩:=I.lstM hH
  have hlen:its.toArray.size * k.toNat <= sizeLine:=by rw [List.size_toArray,<-hl];exact hz
  have hcap:¬ its.toArray.size * k.toNat > (2 ^ 63 - 1) / 8:=by
    have:(sizeLine:Nat) <= (2 ^ 63 - 1) / 8:=by decide
    omega
  have hfit:¬ (!Builtin.List.listFitsIndex k)=true:=by
    rw [fitsIndex_both h1 h2]
    exact Bool.false_ne_true
  have hlong:¬ Builtin.List.listTooLong (its.toArray.size * k.toNat)=true:=by
    rw [notLongL hlen]
    exact Bool.false_ne_true
  have hnew:List.foldl (fun x1 x2=>x1 ++ x2) #[] (List.replicate (if its.toArray.isEmpty=true then 0 else k.toNat) its.toArray)=(List.replicate k.toNat its).flatten.toArray:=by
    have f0:∀ m:Nat,List.foldl (fun x1 x2=>x1 ++ x2) #[] (List.replicate m its.toArray)=(List.replicate m its).flatten.toArray:=fun m=>by
      have:=Ac its m []
      rw [List.nil_append] at this
      exact this
    rw [f0]
    cases its with
    | nil=>simp
    | cons a r'=>rw [if_neg (by simp)]
  refine wpAny_binaryOp_repeat_ref (T:="list") (U:="int") (by decide) ⟨_,e,rfl⟩ (fun s'=>typeIs_int s' k t) noFill_list_mul F.fills_int_mul F.slot_int_rmul repeat_list F.slot_int_index.lookup
    (call_meets F.slot_int_rmul (typeIs_int s k t) F.entry_int_rmul (F.args_int_rmul_2 _ _) (int___rmul___int_list k t l its.toArray n)
      ⟨e,rfl,⟨_,e,rfl⟩,call_meets F.slot_list_mul ⟨_,e,rfl⟩ F.entry_list_mul (F.args_list_mul_2 _ _) (AutoListH.list___mul___list_int_3 l its.toArray n k t hfit hcap hlong) ⟨e,?_⟩⟩)
  rw [hnew]
  exact ⟨.ref _,_,I.lnew (t':=s.toks) (r.rep k.toNat) (by rw [CS,Nat.mul_comm];exact hz),rfl,q _ I.fresh⟩
end
section
variable {prog : Program} {w : World} {A : Around} {E : Value -> Shared -> Prop} {s : Shared}
set_option maxRecDepth 100000 in
end
section
variable {X : Cx}
end
end L2
namespace Att
open PySem PySem.W PySem.Calls PyProof.Rows
theorem Bi {P:Params}{h:Heap}:∀ (ns:List Int) (vs:List Value),WellAll P h vs (ns.map WData.int)->IntsAre vs ns:=by
  intro ns
  induction ns with
  | nil =>
    intro vs w
    rw [List.map_nil] at w
    cases w
    exact .nil
  | cons n ns ih =>
    intro vs w
    rw [List.map_cons] at w
    cases w with
    | cons a b =>
      cases a
      exact .cons _ _ (ih _ b)
theorem Jh {l:OpenLaw}{n:Nat} (hn:l.most=some n) {P:Params}{h:Heap}{args:List WData}{vals:List Value}
    (hpre:l.row.toRowW.claim.pre args=true) (hwl:WellAll P h vals args) :
    ∃ a vs ns,vals=[Value.ref a] /\ args=[WData.list (ns.map WData.int)] /\ h.get? a=some { cls:=.type "list",data:=.seq vs.toArray } /\ IntsAre vs ns /\ ns.length <= n:=by
  have hsh:WShape.hasAll [] args [.list .int]=true:=(pre_splitW hpre).1
  have hc:l.pre.holds [] { args:=args }=true:=(pre_splitW hpre).2
  obtain ⟨d,r,rfl,h1,h2⟩:=hasAllW_cons hsh
  obtain rfl:=hasAllW_nil h2
  obtain ⟨xs,rfl,h3⟩:=hasW_list h1
  obtain ⟨ns,rfl⟩:=items_int h3
  have hlen:ns.length <= n:=by
    unfold OpenLaw.pre at hc
    have h4:(WTm.not (.lt (.lit (.int (n:Int))) (.len (.arg 0)))).holds [] { args:=[.list (ns.map .int)] }=true:=by
      have h4:=(holds_andW hc).1
      rw [hn] at h4
      exact h4
    have h5:=condW_of h4 (w_not (w_lt w_lit (w_len_list (w_arg rfl))))
    rw [List.length_map] at h5
    refine Nat.le_of_not_lt fun q=>?_
    have q':(n:Int) < ((ns.length:Nat):Int):=by omega
    first
      | (rw [decide_eq_true q'] at h5;exact absurd h5 (by decide))
      | (simp at h5;omega)
  cases hwl with
  | cons w1 w2 =>
    cases w2
    cases w1 with
    | list ho hall=>exact ⟨_,_,ns,rfl,rfl,ho,Bi ns _ hall,hlen⟩
theorem Ji (l:OpenLaw) (args:List WData):l.row.toRowW.claim.post args (.bool true) args=true :=
  postW_of (r:=l.row.toRowW) (X:=(true == true))
    (show WShape.has [] (.bool true) .bool=true by first | rfl | decide | simp [WShape.has,WShape.arms,WShape.armsAll])
    (show (WTm.eq .res (.lit (.bool true))).value [] { args:=args,res:=some (.bool true),after:=args }=some (.bool (true == true)) from w_eq_bool (w_res rfl) w_lit) rfl
theorem attach_call {l:OpenLaw}{n:Nat}{q:Program}{loose:List Str}{XP:(Str->Option Value)->Heap->Prop}{YP:World->Heap->Prop}{d:DefRec}
    (hn:l.most=some n) (hdf:d.params.defaults=[])
    (call:∀ (w:World) (s₀ s₁:Shared) (mg mb:Str->Option Value) (fa:Addr) (o:Obj) (pm cd doc:Value) (a:Addr) (vs:List Value) (ns:List Int),
      Ground q loose [] XP w s₀ mg mb s₁.heap->YP w s₁.heap ->
      s₁.heap.get? fa=some o->o.data=.func (docDef d.name d.params d.body d.scope pm cd doc)->s₁.heap.CodeRec cd d.name->mg d.name=some (.ref fa) ->
      s₁.heap.get? a=some { cls:=.type "list",data:=.seq vs.toArray }->IntsAre vs ns->ns.length <= n->s₁.gens=#[] ->
      codeAny (model l.prog w) callerA (.call (.ref fa) ⟨[.ref a],[]⟩) (fun r s'=>r=.ok (.ret (.bool true)) /\ OldK s₁.heap s'.heap /\ s'.os=s₁.os /\ AllBare s'.gens) s₁) :
    WalkO q loose XP YP l.row.toRowW d [] (fun f vs=>PySem.call f vs):=by
  intro w s₀ s₁ mg mb G Y fa o pm cd doc dV kV ho hd hcd hD hmg hg args vals as hpre hlay hrd hwl hlo
  obtain rfl:dV=.none:=Dflts.none hD hdf
  obtain rfl:kV=.none:=Dflts.noKw hD
  obtain ⟨a,vs,ns,rfl,rfl,hobj,hints,hlen⟩:=Jh hn hpre hwl
  refine enter_call (codeAny_mono (call w s₀ s₁ mg mb fa o pm cd doc a vs ns G Y ho (fd_plain hd) hcd hmg hobj hints hlen hg) fun r s' hq=>?_)
  obtain ⟨rfl,h2,h3,h4⟩:=hq
  exact ⟨.inl ⟨.bool true,.bool true,[],rfl,fun _=>rfl,.bool true,Ji l _,fun _=>⟨List.Pairwise.nil,fun _ hm=>(nomatch hm)⟩⟩,h2,h3,h4⟩
section
variable {prog : Program} {w : World} {A : Around} {E : Value -> Shared -> Prop} {s : Shared} {K : Frag}
end
end Att
namespace L2
open PySem PySem.Spec PyProof.Rows
theorem Cs:∀ {vs:List Value}{ns:List Int},IntsAre vs ns->Vals (ns.map V.int) vs
  | _,_,.nil=>.nil
  | _,_,.cons n t h=>.cons ⟨t,rfl⟩ (Cs h)
noncomputable def Only (H:Hp):Prop:=∀ b,H b=none \/ ∃ o xs,H b=some (.frz o (.lst xs))
theorem J6 {P:Program}{w:World}{K:PySem.W.Frag}{mg mb:Str->Option Value}{CX:CXT}{k:Nat}{fa a:Addr}{fd:FuncData}{x:Str}{sp:Sp}{s₁:Shared}{vs:List Value}{ns:List Int}
    (KX:K.In s₁.heap) (hns:s₁.heap.Ns mainGlobals mg) (hb:s₁.heap.Ns builtinsNs mb) (hbb:∀ x:Str,x ≠ "__name__"->mb x=bootBuiltins x) (hlim:s₁.heap.NoLimit) (hg:s₁.gens=#[])
    (ha:s₁.heap.get? a=some { cls:=.type "list",data:=.seq vs.toArray }) (hi:IntsAre vs ns) (hl:ns.length <= sizeLine) (hr:Room k callerA)
    (F:∀ base:Heap,K.In base->base.Ns mainGlobals mg->FnOk P w K mg base CX k fa fd [x] sp) (hbind:∀ (s:Shared) (u:Value),BindsTo s fd ⟨[u],[]⟩ [(x,u)])
    (hsp:∀ H:Hp,Only H->SqL K H a (ns.map V.int)->sp [.ref a] H (fun v _=>v=.bl true) fun _ _ _=>False)
    (hCX:∀ H e s',CX [] H s₁ (fun _ _ _=>False) e s'->False) :
    codeAny (model P w) callerA (.call (.ref fa) ⟨[.ref a],[]⟩) (fun r s'=>r=.ok (.ret (.bool true)) /\ OldK s₁.heap s'.heap /\ s'.os=s₁.os /\ AllBare s'.gens) s₁:=by
  have rv:=Cs hi
  have lenV:=hi.length
  -- from an abstract heap in which nothing but the script may be tracked
  have core:∀ H:Hp,Only H->SqL K H a (ns.map V.int)->HOk P w H s₁.heap->(∀ b,H b ≠ none->b=a)->(H a ≠ none->K.lookup a=none) ->
      codeAny (model P w) callerA (.call (.ref fa) ⟨[.ref a],[]⟩) (fun r s'=>r=.ok (.ret (.bool true)) /\ OldK s₁.heap s'.heap /\ s'.os=s₁.os /\ AllBare s'.gens) s₁:=by
    intro H hO hS hok hA hK
    have base_of:∀ {b:Addr}{o:Obj},s₁.heap.get? b=some o->H b=none->(hidT s₁.heap H).get? b=some o:=fun e n=>JO e n
    have noA:∀ {b:Addr}{o:Obj}{es:Array DictEntry}{ep:Nat},s₁.heap.get? b=some o->o.data=.dict es ep->H b=none:=fun {b o es ep} e d=>by
      cases q:H b with
      | none=>rfl
      | some u =>
        have e':b=a:=hA b (by rw [q];simp)
        subst e'
        rw [ha] at e;cases e
        have d':Data.seq vs.toArray _=Data.dict es ep:=d
        cases d'
    have nsK:∀ {b:Addr}{m:Str->Option Value},s₁.heap.Ns b m->(hidT s₁.heap H).Ns b m:=fun {b m} ⟨o,es,ep,e,d,r⟩=>⟨o,es,ep,base_of e (noA e d),d,r⟩
    have hKb:K.In (hidT s₁.heap H):=fun b o e=>base_of (KX b o e) (by
      cases q:H b with
      | none=>rfl
      | some u =>
        have e':b=a:=hA b (by rw [q];simp)
        subst e'
        rw [hK (by rw [q];simp)] at e;cases e)
    have hM:Mod K mg (hidT s₁.heap H):=⟨hKb,nsK hns,⟨mb,nsK hb,hbb⟩,let ⟨mc,h1,h2⟩:=hlim;⟨mc,nsK h1,h2⟩⟩
    have e0:Env0 P w K mg (hidT s₁.heap H) callerA [] s₁ H:=⟨rfl,hM,fun b o e=>Me e,Nat.le_of_eq (G7 _ _),trivial,fun b hb=>absurd (show b ∈ ([]:List Addr) from hb) (by simp),hok,.of_eq hg⟩
    refine codeAny_mono ((F _ hKb (nsK hns)).run callerA [] s₁ H ⟨[.ref a],[]⟩ [.ref a] [.ref a] _ _ hr e0 (hbind s₁ (.ref a)) (.cons rfl .nil) (hsp H hO hS)) fun r s' h=>?_
    cases r with
    | error e=>exact (hCX H e s' h).elim
    | ok fl =>
      cases fl with
      | next=>exact False.elim h
      | brk=>exact False.elim h
      | cont=>exact False.elim h
      | ret u =>
        obtain ⟨v,H',os,bare,un,hok',r',q⟩:=h
        have q':v=.bl true:=q
        subst q'
        obtain rfl:u=Value.bool true:=r'
        refine ⟨rfl,OldK.of_keep fun b o e=>?_,os,bare⟩
        cases q:H b with
        | none=>exact un.keep b o e q (by intro z;exact absurd (show b ∈ ([]:List Addr) from z) (by simp)) (by simp)
        | some u =>
          rcases hO b with z | ⟨ob,xs,z⟩
          . rw [q] at z;cases z
          . have z2:=un.frzs b ob _ z
            obtain ⟨e1,_⟩:=hok b _ z
            obtain ⟨e2,_⟩:=hok' b _ z2
            rw [e] at e1;cases e1
            exact e2
  cases hk:K.lookup a with
  | some o =>
    -- the script is one of the module's own objects
    have e:=KX a o hk
    rw [ha] at e
    cases e
    refine core (fun _=>none) (fun _=>.inl rfl) (.inr ⟨_,vs.toArray,_,hk,rfl,rfl,rfl,by rw [List.size_toArray,lenV];exact hl,by simpa using rv⟩) (fun b u z=>by have z':(none:Option HO)=some u:=z;cases z') (fun b z=>absurd rfl z) fun z=>absurd rfl z
  | none =>
    refine core (fun b=>if b=a then some (.frz { cls:=.type "list",data:=.seq vs.toArray } (.lst (ns.map V.int))) else none) (fun b=>?_) (.inl (.inr ⟨{ cls:=.type "list",data:=.seq vs.toArray },if_pos rfl⟩)) (fun b u z=>?_) (fun b z=>?_) fun _=>hk
    . by_cases hb:b=a
      . exact .inr ⟨_,_,if_pos hb⟩
      . exact .inl (if_neg hb)
    . by_cases hb:b=a
      . have z':=(if_pos hb).symm.trans z
        cases z'
        subst hb
        exact ⟨ha,by rw [List.length_map];exact hl,vs,_,rv,ha⟩
      . have z':=(if_neg hb).symm.trans z
        cases z'
    . by_cases hb:b=a
      . exact hb
      . exact absurd (if_neg hb) z
end L2
namespace L2
open PySem PySem.Spec PyProof.Rows
noncomputable abbrev KOf {K:PySem.W.Frag}{h:Heap} (_:K.In h):PySem.W.Frag:=K
end L2
/- THE LAST THEOREM (shape;LID,My.* are yours):
   My.Adr: a structure of the addresses that your layer names (classes,functions);My.Txt K t: a structure (Prop) of the equations over K;
   My.txt_mk:{K}{implicit addresses ..} (e1:nsIn K mainGlobals "law"=some (some (.ref f))) (e2:K.lookup f=some ⟨oc,od,.func (fnOf "law" "law" params body scope dV kV doc pm an cdv ct),sl⟩) (e3:codeIn K cdv "law"=true) ..:∃ t,My.Txt K t
set_option maxRecDepth 100000 in
set_option maxHeartbeats 0 in
theorem PySem.Challenge.cw_LID_holds:PySem.Challenge.rw_LID.Holds:=by
  w_on;o_law;k_head;(case hw=>w_witness2)
  k_fill
  refine L2.walk_of (l:=PySem.Challenge.rw_LID) (n:=63) (k:=40) (x:="script") (CX:=fun w=>..) (sp:=fun _=>My.sp_law) rfl (by decide) rfl ⟨rfl,by decide,by decide⟩ (fun w h Y=>PySem.W.kIn_of Y) ?F ?S ?C
  case F =>
    intro w mg fa h KX G hmg
    have T:∃ t,My.Txt (L2.KOf KX) t:=by
      dsimp only [L2.KOf]                          -- K must stand as «<heap const> w.params» for k_is
      refine' My.txt_mk ?e1 ?e2 ?e3 ..
      (case e1=>PySem.W.k_is)                    -- in the order: a name->its address->its object->its parts
      (case e2=>PySem.W.k_is)
      ..
    obtain ⟨t,T⟩:=T
    have e0:=hmg.symm.trans (PySem.W.mg_of KX G T.law)
    cases e0                                       -- fa is the law's own address
    exact ⟨_,fun s u=>.of_eq rfl,fun base kb nb=>My.law_fn T kb nb⟩     -- if «.of_eq rfl» comes too early: refine' ⟨_,?b,fun base kb nb=>My.law_fn T kb nb⟩;exact fun s u=>.of_eq rfl
  case S=>exact fun w H a ns hl hO hS=>..
  case C=>exact ..
(the tactic k_is has no namespace: write k_is) -/
namespace L2
open PySem PySem.Spec PyProof.Rows
noncomputable def fN (s:Stmt):Arguments:=match s with
  | .FunctionDef _ a _ _ _ _ _ _ _ _=>a
  | _=>{ posonlyargs:=[],args:=[],vararg:=none,kwonlyargs:=[],kw_defaults:=[],kwarg:=none,defaults:=[] }
noncomputable def fH (s:Stmt):List Stmt:=match s with
  | .FunctionDef _ _ b _ _ _ _ _ _ _=>b
  | _=>[]
noncomputable def fq (s:Stmt):Scope:=match s with
  | .FunctionDef _ _ _ _ _ _ sc _ _ _=>sc
  | _=>{ kind:=.function,names:=[],isGenerator:=false,isCoroutine:=false }
noncomputable abbrev CX0:CXT:=fun _ _ _ _ _ _=>False
noncomputable abbrev E0:XK:=fun _ _ _=>False
theorem pass0 {X:Cx}:Passes CX0 X E0:=fun _ _ _ _ _ _ _ h=>h.elim
structure Fun (K:PySem.W.Frag) (x qual:Str) (st:Stmt) (f:Addr) (fd:FuncData):Prop where
  ex:∃ (oc:Value) (od:Option Addr) (kV doc pm:Value) (an:Option Addr) (cdv ct:Value) (osl:Array (Option Value)),
    fd=PySem.W.fnOf x qual (fN st) (fH st) (fq st) .none kV doc pm an cdv ct /\ K.lookup f=some ⟨oc,od,.func fd,osl⟩ /\ PySem.W.codeIn K cdv qual=true
  kp:PySem.W.keepIn K (.ref f)=true
section
variable {P : Program} {w : World} {K : PySem.W.Frag} {mg : Str -> Option Value} {base : Heap}
theorem Fun.ok {x qual:Str}{st:Stmt}{f:Addr}{fd:FuncData}{N ps:List Str}{k:Nat}{sp:Sp} (F:Fun K x qual st f fd) (S:FnScope N ps (fq st)) (len:∀ vs H Q E,sp vs H Q E->vs.length=ps.length)
    (hbody:∀ (cdv:Value) (A:Around) (outer:List Env) (s:Shared) (H:Hp) (vs:List V) (Q:VK) (E:XK),Room k (A.deeper (envOfC qual (fq st) s.heap.objs.size f cdv))->sp vs H Q E ->
      ∃ t,PSs (cxOf CX0 P w K mg base N qual (fq st) f cdv A outer s H E).nox (fH st) t /\ t { nx:=fun _ H'=>Q .non H',rt:=Q } (start N vs) H):FnOk P w K mg base CX0 (k + 1) f fd ps sp:=by
  obtain ⟨oc,od,kV,doc,pm,an,cdv,ct,osl,rfl,lk,hcd⟩:=F.ex
  refine Nd lk hcd S len fun A outer s H vs Q E hr hsp=>?_
  obtain ⟨t,h,q⟩:=hbody cdv A outer s H vs Q E hr hsp
  exact ⟨t,h.nox,q⟩
theorem Fun.binds {x qual:Str}{st:Stmt}{f:Addr}{fd:FuncData}{ps:List Str} (F:Fun K x qual st f fd)
    (h:∀ (kV doc pm:Value) (an:Option Addr) (cdv ct:Value) (us:List Value),us.length=ps.length->bindArgs (PySem.W.fnOf x qual (fN st) (fH st) (fq st) .none kV doc pm an cdv ct) ⟨us,[]⟩=pure (ps.zip us)):Binds K fd ps []:=by
  obtain ⟨oc,od,kV,doc,pm,an,cdv,ct,osl,rfl,lk,hcd⟩:=F.ex
  exact .all (h kV doc pm an cdv ct)
theorem FL {x qual:Str}{st:Stmt}{f:Addr}{oc:Value}{od an:Option Addr}{osl:Array (Option Value)}{kV doc pm cdv ct:Value} (l:K.lookup f=some ⟨oc,od,.func (PySem.W.fnOf x qual (fN st) (fH st) (fq st) .none kV doc pm an cdv ct),osl⟩)
    (c:PySem.W.codeIn K cdv qual=true) (k:PySem.W.keepIn K (.ref f)=true):Fun K x qual st f (PySem.W.fnOf x qual (fN st) (fH st) (fq st) .none kV doc pm an cdv ct):=⟨⟨oc,od,kV,doc,pm,an,cdv,ct,osl,rfl,l,c⟩,k⟩
end
theorem small1000 {n:Nat} (h:n <= 1000):n < sizeLine:=Nat.lt_of_le_of_lt h (by decide)
section
variable {X : Cx}
theorem pv (i:Nat) {x:Str}{pos:Pos} (hN:X.N[i]?=some x:=by rfl) (hv:Vis X.env.scope x:=by first | exact Or.inl rfl | exact Or.inr (Or.inl rfl) | exact Or.inr (Or.inr rfl)) (hd:(x == ("__debug__":Str))=false:=by decide)
    (hcd:(x == ("__classdict__":Str))=false:=by decide):PE X (.Name x pos) (tVar i):=FC hN hv hd hcd
end
theorem iteF {A B:Prop} (h:B):if false=true then A else B:=by
  rw [if_neg Bool.false_ne_true]
  exact h
noncomputable def Same (H H':Hp):Prop:=∀ b o,H b=some o->H' b=some o
theorem Same.free {H H':Hp} (e:Same H H') {l:Addr} (h:H' l=Option.none):H l=Option.none:=by
  cases q:H l with
  | none=>rfl
  | some o =>
    rw [e l o q] at h
    cases h
end L2
set_option Elab.async false
set_option linter.all false
set_option maxRecDepth 100000
set_option maxHeartbeats 4000000
namespace L2
open PySem PySem.Spec PyProof.Rows
noncomputable def clOf (cells:List (Str × Addr)):List (Str × NameKind)->List (Str × Addr)->List (Str × Addr)
  | [],acc=>acc
  | (n,k) :: r,acc=>clOf cells r (if k == .free then (match cells.lookup n with | some c=>(n,c) :: acc | none=>acc) else acc)
theorem oq {env:Env}:∀ (names:List (Str × NameKind)) (acc:List (Str × Addr)),(∀ y ∈ names,y.2=.free->∃ c,env.cells.lookup y.1=some c) ->
    (forIn names acc (fun (x:Str × NameKind) (r:List (Str × Addr))=>(match x with
      | (name,kind)=>if (kind == NameKind.free)=true then (do let a <-cellOf env name;pure (ForInStep.yield ((name,a) :: r))) else pure (ForInStep.yield r):Sem (ForInStep (List (Str × Addr))))))=(pure (clOf env.cells names acc):Sem _)
  | [],acc,_=>rfl
  | (n,k) :: r,acc,h=>by
    rw [List.forIn_cons]
    by_cases hk:k=.free
    . subst hk
      obtain ⟨c,e⟩:=h (n,.free) List.mem_cons_self rfl
      have e':env.cells.lookup n=some c:=e
      have e1:cellOf env n=pure c:=by unfold cellOf;rw [e']
      dsimp only
      rw [if_pos (by decide),e1]
      have q:=oq (env:=env) r ((n,c) :: acc) fun y hy=>h y (List.mem_cons_of_mem _ hy)
      have z:clOf env.cells ((n,NameKind.free) :: r) acc=clOf env.cells r ((n,c) :: acc):=by
        show clOf env.cells r _=_
        rw [if_pos (by decide),e']
      rw [z,<-q]
      rfl
    . dsimp only
      have hb:(k == NameKind.free)=false:=by simpa using hk
      rw [if_neg (by rw [hb];decide)]
      have q:=oq (env:=env) r acc fun y hy=>h y (List.mem_cons_of_mem _ hy)
      have z:clOf env.cells ((n,k) :: r) acc=clOf env.cells r acc:=by
        show clOf env.cells r _=_
        rw [if_neg (by rw [hb];decide)]
      rw [z,<-q]
      rfl
theorem FM {scope:Scope}{env:Env} (h:∀ y ∈ scope.names,y.2=.free->∃ c,env.cells.lookup y.1=some c):closureFor scope env=pure (clOf env.cells scope.names []):=by
  have q:=oq (env:=env) scope.names [] h
  unfold closureFor
  first
    | exact q
    | (dsimp only;rw [show (forIn scope.names ([]:List (Str × Addr)) _:Sem _)=_ from q];rfl)
    | (rw [<-q];rfl)
theorem DI {cells:List (Str × Addr)}:∀ (names:List (Str × NameKind)) (acc:List (Str × Addr)),(∀ x c,acc.lookup x=some c->cells.lookup x=some c)->∀ x c,(clOf cells names acc).lookup x=some c->cells.lookup x=some c
  | [],_,h=>h
  | (n,k) :: r,acc,h=>by
    refine DI r _ ?_
    intro x c e
    by_cases hk:(k == NameKind.free)=true
    . rw [if_pos hk] at e
      cases q:cells.lookup n with
      | none=>rw [q] at e;exact h x c e
      | some a =>
        rw [q] at e
        have e':((n,a) :: acc).lookup x=some c:=e
        rw [List.lookup_cons] at e'
        cases hx:x == n with
        | true=>rw [hx] at e';rw [eq_of_beq hx,q];exact e'
        | false=>rw [hx] at e';exact h x c e'
    . rw [if_neg hk] at e;exact h x c e
theorem DJ {cells:List (Str × Addr)}:∀ (names:List (Str × NameKind)) (acc:List (Str × Addr)) (x:Str),((∃ c,acc.lookup x=some c) \/ ((x,NameKind.free) ∈ names /\ ∃ c,cells.lookup x=some c))->∃ c,(clOf cells names acc).lookup x=some c
  | [],_,x,h=>h.elim id fun z=>nomatch z.1
  | (n,k) :: r,acc,x,h=>by
    refine DJ r _ x ?_
    rcases h with ⟨c,e⟩ | ⟨hm,c,e⟩
    . left
      by_cases hk:(k == NameKind.free)=true
      . rw [if_pos hk]
        cases q:cells.lookup n with
        | none=>exact ⟨c,e⟩
        | some a =>
          show ∃ c,((n,a) :: acc).lookup x=some c
          rw [List.lookup_cons]
          cases hx:x == n with
          | true=>exact ⟨a,rfl⟩
          | false=>exact ⟨c,e⟩
      . rw [if_neg hk];exact ⟨c,e⟩
    . rcases List.mem_cons.mp hm with z | z
      . have z1:x=n:=congrArg Prod.fst z
        have z2:NameKind.free=k:=congrArg Prod.snd z
        subst z1;subst z2
        left
        rw [if_pos (by decide),e]
        exact ⟨c,by show ((x,c) :: acc).lookup x=_;rw [List.lookup_cons,beq_self_eq_true]⟩
      . exact .inr ⟨z,c,e⟩
theorem Ap {env:Env}:∀ (names:List (Str × NameKind)) (x:Str) (k':NameKind),
    (names.map fun (n,k)=>if (k == NameKind.free && env.scope.kind == .function && env.kindOf n == some .cell) then (n,NameKind.cell) else (n,k)).lookup x=some k' ->
    ∃ k,names.lookup x=some k /\ (k'=k \/ (k=.free /\ k'=.cell))
  | [],_,_,h=>by simp at h
  | (n,k) :: r,x,k',h=>by
    have h':List.lookup x ((if (k == NameKind.free && env.scope.kind == .function && env.kindOf n == some .cell)=true then (n,NameKind.cell) else (n,k)) :: (r.map fun (n,k)=>if (k == NameKind.free && env.scope.kind == .function && env.kindOf n == some .cell) then (n,NameKind.cell) else (n,k)))=some k':=h
    by_cases hc:(k == NameKind.free && env.scope.kind == .function && env.kindOf n == some .cell)=true
    . rw [if_pos hc,List.lookup_cons] at h'
      rw [List.lookup_cons]
      cases hx:x == n with
      | true =>
        rw [hx] at h'
        have hk:k=.free:=by
          cases hq:(k == NameKind.free) with
          | true=>exact eq_of_beq hq
          | false=>rw [hq] at hc;simp at hc
        exact ⟨k,rfl,.inr ⟨hk,(Option.some.inj h').symm⟩⟩
      | false=>rw [hx] at h';exact Ap r x k' h'
    . rw [if_neg hc,List.lookup_cons] at h'
      rw [List.lookup_cons]
      cases hx:x == n with
      | true=>rw [hx] at h';exact ⟨k,rfl,.inl (Option.some.inj h').symm⟩
      | false=>rw [hx] at h';exact Ap r x k' h'
theorem ou {env:Env}:∀ (names:List (Str × NameKind)) (x:Str),names.lookup x=some .free ->
    (names.map fun (n,k)=>if (k == NameKind.free && env.scope.kind == .function && env.kindOf n == some .cell) then (n,NameKind.cell) else (n,k)).lookup x=some .cell \/
    (names.map fun (n,k)=>if (k == NameKind.free && env.scope.kind == .function && env.kindOf n == some .cell) then (n,NameKind.cell) else (n,k)).lookup x=some .free
  | [],_,h=>by simp at h
  | (n,k) :: r,x,h=>by
    show List.lookup x ((if (k == NameKind.free && env.scope.kind == .function && env.kindOf n == some .cell)=true then (n,NameKind.cell) else (n,k)) :: _)=_ \/ List.lookup x ((if (k == NameKind.free && env.scope.kind == .function && env.kindOf n == some .cell)=true then (n,NameKind.cell) else (n,k)) :: _)=_
    rw [List.lookup_cons] at h
    by_cases hc:(k == NameKind.free && env.scope.kind == .function && env.kindOf n == some .cell)=true
    . rw [if_pos hc,List.lookup_cons]
      cases hx:x == n with
      | true=>exact .inl rfl
      | false=>rw [hx] at h;exact ou r x h
    . rw [if_neg hc,List.lookup_cons]
      cases hx:x == n with
      | true=>rw [hx] at h;exact .inr h
      | false=>rw [hx] at h;exact ou r x h
noncomputable abbrev Cx.comp (X:Cx) (N:List Str) (scope:Scope) (cl:List (Str × Addr)) (s:Shared) (H:Hp) (C:Addr) (fp:List Addr):Cx :=
  { X with N:=N,s₀:=s,H₀:=H,env:=compEnvC scope cl C X.env,outer:=X.stack,stack:=X.stack,ex:=fp,fn:=fun _=>false,pn:=[],xe:=fun _ _=>False }
structure CompScope (X:Cx) (N:List Str) (src:List (Option Nat)) (scope:Scope):Prop where
  kind:scope.kind=.function
  nocell:∀ y ∈ scope.names,y.2 ≠ .cell
  names:∀ y ∈ scope.names,y.2=.local->scope.names.lookup y.1=some .local
  has:∀ y ∈ scope.names,y.2=.free->X.env.kindOf y.1=some .cell \/ X.env.kindOf y.1=some .free
  slen:src.length=N.length
  frm:∀ (j i:Nat) (x:Str),src[j]?=some (some i)->N[j]?=some x->X.N[i]?=some x /\ scope.names.lookup x=some .free
noncomputable def srcSt (src:List (Option Nat)) (σ:St):St:=src.map fun o=>o.bind fun i=>(σ[i]?).bind id
noncomputable def PF (X:Cx) (ifs:List Expr) (t:TT):Prop :=
  ∀ (pins:List (Addr × Obj)) (s:Shared) (σ:St) (H:Hp) (Q:Bool->Hp->Prop),Inv X pins σ H s->t σ H Q ->
    wpAny (model X.prog X.w) X.A (forIn ifs true fun c r=>if r=true then do let ok <-isTrue c X.env (eval c X.env);pure (ForInStep.yield ok) else pure (ForInStep.yield r)) (TP X pins σ Q) X.xe s
theorem NP {X:Cx}:PF X [] (fun _ H Q=>Q true H):=fun _ _ _ H _ I h=>wpAny_tests_nil ⟨H,I,h⟩
theorem NQ {X:Cx}{c:Expr}{t:TT} (h:PT X c t):PF X [c] t:=fun pins s σ H Q I hw=>wpAny_tests_one (h pins s σ H Q I hw)
noncomputable def CompW (J:It) (g:TG) (tf:TT) (te:TE) (D:Addr) (Q:VK) (σ0:St) (H0:Hp):Prop :=
  ∃ W:Nat->Nat->St->Hp->Prop,(∃ m,W 0 m σ0 H0) /\ ∀ i m σ' H',W i m σ' H' ->
    (J.stop i H' /\ Q (.ref D) H') \/ (J.go i H' /\ ∃ N:St->Hp->Prop,(∀ σ2 H2,N σ2 H2->∃ m',m' < m /\ W (i + 1) m' σ2 H2) /\ ∀ x H2,J.yld i H' x H2->g x σ' H2 fun σ2 H3=>tf σ2 H3 fun b H4 =>
      if b=true then te σ2 H4 fun y H5=>∃ ys,H5 D=some (.lst ys) /\ ys.length < sizeLine /\ N σ2 (upd H5 D (.lst (ys ++ [y]))) else N σ2 H4)
noncomputable def tComp (src:List (Option Nat)) (wi:TI) (g:TG) (tf:TT) (te:TE):TE:=fun σ H Q=>wi σ H fun J H1=>∀ D,H1 D=none->CompW J g tf te D Q (srcSt src σ) (upd H1 D (.lst []))
section
variable {prog : Program} {w : World} {A : Around} {R : Result -> Shared -> Prop} {s : Shared}
noncomputable abbrev cErr (P:Program) (w:World) (A:Around) (env:Env) (R:Result->Shared->Prop):Value->Shared->Prop :=
  notedBy (model P w) A env fun x z=>R (.error x) z
noncomputable abbrev cTests (ifs:List Expr) (env:Env):Sem Bool :=
  forIn ifs true fun c r=>if r=true then do let ok <-isTrue c env (eval c env);pure (ForInStep.yield ok) else pure (ForInStep.yield r)
theorem CT {elt tg iter:Expr}{ifs:List Expr}{scope:Scope}{pos:Pos}{it acc:Value}{env:Env}
    (J:Nat->Shared->Prop) (N:Value->Nat->Shared->Prop)
    (hN:∀ v n z,N v n z->wpAny (model prog w) A (letOwnedTupleGo tg it v) (fun _ z1 =>
      wpAny (model prog w) A (assign tg env v) (fun _ z2 =>
      wpAny (model prog w) A (cTests ifs env) (fun b z3 =>
        if b=true then wpAny (model prog w) A (eval elt env) (fun y z4 =>
          wpAny (model prog w) A (call (.builtin "list.append") [acc,y])
            (fun _ z5=>∃ k,k < n /\ J k z5) (cErr prog w A env R) z4) (cErr prog w A env R) z3
        else ∃ k,k < n /\ J k z3)
        (cErr prog w A env R) z2) (cErr prog w A env R) z1) (cErr prog w A env R) z)
    (go:∀ n z,J n z->wpAny (model prog w) A (pyNext it)
      (fun r z1=>match r with | none=>R (.ok .next) z1 | some v=>N v n z1) (cErr prog w A env R) z)
    (n:Nat) (h:J n s) :
    codeAny (model prog w) A (.compLoop (.ListComp elt [⟨tg,iter,ifs,0⟩] scope pos) 0 it acc env) R s:=by
  refine codeAny_loop rfl J (fun k z hz=>?_) n h
  show wpAny _ A (Sem.onRaise (compTurn _ 0 it acc env) _) _ _ z
  refine wpAny_noted ?_
  rw [compTurn_list]
  refine wpAny_bind (wpAny_standAt (wpAny_bind ?_))
  refine wpAny_mono (go k z hz) (fun r z1 h1=>?_) fun _ _ q=>q
  cases r with
  | none=>exact wpAny_pure h1
  | some v =>
    refine wpAny_bind (wpAny_mono (hN v k z1 h1) (fun _ z2 h2=>wpAny_bind ?_) fun _ _ q=>q)
    refine wpAny_mono h2 (fun _ z3 h3=>wpAny_bind ?_) fun _ _ q=>q
    refine wpAny_mono h3 (fun b z4 h4=>?_) fun _ _ q=>q
    cases b with
    | false=>exact wpAny_pure ⟨rfl,h4⟩
    | true =>
      refine wpAny_bind (wpAny_bind (wpAny_mono h4 (fun y z5 h5=>wpAny_bind ?_) fun _ _ q=>q))
      exact wpAny_mono h5 (fun _ z6 h6=>wpAny_pure (wpAny_pure ⟨rfl,h6⟩)) fun _ _ q=>q
end
end L2
set_option Elab.async false
set_option linter.all false
set_option maxRecDepth 100000
set_option maxHeartbeats 4000000
namespace L2
open PySem PySem.Spec PyProof.Rows
section
variable {X : Cx}
theorem CompScope.cells {N:List Str}{src:List (Option Nat)}{scope:Scope} (S:CompScope X N src scope) (ok:X.Ok):∀ y ∈ scope.names,y.2=.free->∃ c,X.env.cells.lookup y.1=some c :=
  fun y hy hf=>ok.has y.1 (S.has y hy hf)
theorem J7 {N:List Str}{src:List (Option Nat)}{scope:Scope}{pins:List (Addr × Obj)}{σ:St}{H:Hp}{s s':Shared}{fp:List Addr}
    (S:CompScope X N src scope) (I:Inv X pins σ H s) (hfp:∀ b ∈ fp,FpOk X pins H b /\ b < s.heap.objs.size) (hh:∃ h' tk,s'={ s with heap:=h',toks:=tk } /\ h'.Ns s.heap.objs.size (fun _=>none) /\ ∀ b o,s.heap.get? b=some o->h'.get? b=some o) :
    Inv (X.comp N scope (clOf X.env.cells scope.names []) s H s.heap.objs.size fp) [] (srcSt src σ) H s':=by
  obtain ⟨h',tk,rfl,hns,hk⟩:=hh
  have sub:=DI (cells:=X.env.cells) scope.names [] (fun x c e=>by simp at e)
  have kfree:∀ x,(compEnvC scope (clOf X.env.cells scope.names []) s.heap.objs.size X.env).kindOf x=some .cell \/ (compEnvC scope (clOf X.env.cells scope.names []) s.heap.objs.size X.env).kindOf x=some .free->scope.names.lookup x=some .free:=fun x hx=>by
    have go:∀ k',(k'=NameKind.cell \/ k'=NameKind.free)->(relabel scope X.env).names.lookup x=some k'->scope.names.lookup x=some .free:=fun k' hk' e=>by
      obtain ⟨k,e1,q⟩:=Ap (env:=X.env) scope.names x k' e
      rcases q with q | ⟨q,_⟩
      . subst q
        rcases hk' with z | z
        . subst z;exact absurd rfl (S.nocell _ (PySem.mem_of_lookup e1))
        . subst z;exact e1
      . subst q;exact e1
    exact hx.elim (go _ (.inl rfl)) (go _ (.inr rfl))
  have chas:∀ x,scope.names.lookup x=some .free->∃ c,(clOf X.env.cells scope.names []).lookup x=some c /\ X.env.cells.lookup x=some c:=fun x e=>by
    have hm:=PySem.mem_of_lookup e
    obtain ⟨c,e1⟩:=DJ (cells:=X.env.cells) scope.names [] x (.inr ⟨hm,S.cells I.ok (x,.free) hm rfl⟩)
    exact ⟨c,e1,sub x c e1⟩
  refine ⟨⟨I.ok.mod,?_,I.ok.glob,I.ok.blt,Nat.le_refl _,fun x y c e1 e2=>?_,fun x hx=>?_,fun x c e=>?_,I.ok.hd,I.ok.frames,.inl rfl,fun b hb=>?_,I.bs,Nat.le_trans I.ok.bsz I.sz,fun b o e hb=>?_,fun b hb=>?_,I.stack,I.stkFree⟩,
    rfl,I.bare,Un.kept hk,⟨_,hns,fun j x v e1 e2 e3=>?_⟩,fun x c e=>?_,I.hok.fresh (Nat.le_refl _),fun x c e=>?_,fun p hp=>absurd (show p ∈ ([]:List (Addr × Obj)) from hp) (by simp),I.hok.kept hk,?_⟩
  . exact S.kind
  . exact I.ok.inj x y c (sub x c e1) (sub y c e2)
  . obtain ⟨c,e1,_⟩:=chas x (kfree x hx)
    exact ⟨c,e1⟩
  . exact absurd e (by simp)
  . obtain ⟨f,hl⟩:=hfp b hb
    exact ⟨Nat.ne_of_lt hl,fun x c e=>f.2.2.2.2.1 x c (sub x c e)⟩
  . obtain ⟨f,_⟩:=hfp b hb
    obtain ⟨_,_,_,f4,_⟩:=f
    rcases f4 with z | z
    . exact I.ok.noex b o e z
    . have q:=(I.ok.bs b o e).1
      exact absurd (Nat.lt_of_lt_of_le (Heap.lt_size q) z) (Nat.lt_irrefl _)
  . obtain ⟨f,_⟩:=hfp b hb
    intro hz
    rcases List.mem_cons.mp (I.stkSub b hz) with e | e
    . exact f.2.1 e
    . exact f.2.2.1 e
  . have hs:∃ i,src[j]?=some (some i) /\ σ[i]?=some (some v):=by
      have e2':(src.map fun o=>o.bind fun i=>(σ[i]?).bind id)[j]?=some (some v):=e2
      rw [List.getElem?_map] at e2'
      cases q:src[j]? with
      | none=>rw [q] at e2';cases e2'
      | some o =>
        rw [q] at e2'
        cases o with
        | none=>cases e2'
        | some i =>
          refine ⟨i,rfl,?_⟩
          have e3':(σ[i]?).bind id=some v:=Option.some.inj e2'
          cases z:σ[i]? with
          | none=>rw [z] at e3';cases e3'
          | some o' =>
            rw [z] at e3'
            have:o'=some v:=e3'
            rw [this]
    obtain ⟨i,hsj,hσ⟩:=hs
    obtain ⟨hN,hfr⟩:=S.frm j i x hsj e1
    have hkX:=S.has (x,.free) (PySem.mem_of_lookup hfr) rfl
    obtain ⟨m,_,hl⟩:=I.loc
    obtain ⟨u,r,lk⟩:=hl i x v hN hσ (.inr hkX)
    refine ⟨u,r,?_⟩
    rcases lk with ⟨k,_⟩ | ⟨_,c,ec,hcell⟩
    . rcases hkX with z | z
      . rw [z] at k;cases k
      . rw [z] at k;cases k
    . obtain ⟨c',e1',e2'⟩:=chas x hfr
      have:c'=c:=by rw [ec] at e2';exact (Option.some.inj e2').symm
      subst this
      refine .inr ⟨?_,c',e1',?_⟩
      . exact ou (env:=X.env) scope.names x hfr
      . obtain ⟨o,ho,hd⟩:=hcell
        exact ⟨o,hk _ _ ho,hd⟩
  . obtain ⟨v,o,ho,hd⟩:=I.cell x c (sub x c e)
    exact ⟨v,o,hk _ _ ho,hd⟩
  . exact I.freeC x c (sub x c e)
  . show (srcSt src σ).length=N.length
    unfold srcSt
    rw [List.length_map];exact S.slen
theorem Ms {N:List Str}{src:List (Option Nat)}{elt tg iter:Expr}{ifs:List Expr}{scope:Scope}{pos:Pos}{wi:TI}{g:TG}{tf:TT}{te:TE}
    (hc:X.calm=true) (S:CompScope X N src scope) (hi:PI X tg iter wi)
    (hg:∀ cl s H C fp,PG (X.comp N scope cl s H C fp) tg g) (hf:∀ cl s H C fp,PF (X.comp N scope cl s H C fp) ifs tf) (he:∀ cl s H C fp,PE (X.comp N scope cl s H C fp) elt te)
    (hs:∀ x,foldedSetIterable iter X.env x=pure x:=by intro _;rfl):PE X (.ListComp elt [⟨tg,iter,ifs,0⟩] scope pos) (tComp src wi g tf te):=by
  intro pins s σ H Q I h
  rw [eval_ListComp]
  refine wpAny_comprehension_free (use:=none) rfl hs (FM (S.cells I.ok)) S.kind S.names (thn (hi pins s σ H _ I h) fun xv s1 h1=>thn h1 fun itv s2 h2=>?_)
  obtain ⟨it,fp,tn,J,H2,e,I2,T,st2,f2,hW⟩:=h2
  subst e
  refine wpAny_newObj_type ?_
  generalize hD:s2.heap.objs.size=D
  have hDn:H2 D=none:=I2.hok.fresh (Nat.le_of_eq hD)
  have I3:Inv X pins σ (upd H2 D (.lst [])) { s2 with heap:=s2.heap.push { cls:=.type "list",dict:=none,data:=.seq ([]:List Value).toArray } }:=by
    subst hD
    exact I2.laid (t':=s2.toks) (fun b u e=>Heap.get?_push_of_some _ e) (Nat.le_refl _) ⟨Nat.zero_le _,[],0,.nil,Heap.get?_push_size _ rfl⟩
  obtain ⟨W,⟨m0,w0⟩,turn⟩:=hW D hDn
  have up:∀ b o,s2.heap.get? b=some o->(s2.heap.push { cls:=.type "list",dict:=none,data:=.seq ([]:List Value).toArray }).get? b=some o:=fun b u e=>Heap.get?_push_of_some _ e
  have obj2:=T.obj _ _ st2
  have st3:tn 0 (s2.heap.push { cls:=.type "list",dict:=none,data:=.seq ([]:List Value).toArray }):=T.keep _ _ _ st2 fun b _ o e=>up b o e
  have fpl:∀ b ∈ fp,b < s2.heap.objs.size:=fun b hb=>by obtain ⟨o,e,_⟩:=obj2 b hb;exact Heap.lt_size e
  have f3:∀ b ∈ fp,FpOk X pins (upd H2 D (.lst [])) b:=fun b hb=>⟨by rw [fM (by rw [<-hD];exact Nat.ne_of_lt (fpl b hb))];exact (f2 b hb).1,(f2 b hb).2⟩
  generalize hs3:({ s2 with heap:=s2.heap.push { cls:=.type "list",dict:=none,data:=.seq ([]:List Value).toArray } }:Shared)=s3 at I3 ⊢
  have hs3h:s3.heap=s2.heap.push { cls:=.type "list",dict:=none,data:=.seq ([]:List Value).toArray }:=by rw [<-hs3]
  rw [<-hs3h] at st3
  have fpl3:∀ b ∈ fp,b < s3.heap.objs.size:=fun b hb=>by rw [hs3h,Heap.size_push];exact Nat.lt_succ_of_lt (fpl b hb)
  generalize hH3:upd H2 D (.lst [])=H3 at I3 f3 w0
  refine wpAny_newFunctionEnv S.nocell (by intro y hy;simp at hy) (fun h₁ hns₁ hsb₁=>?_) S.kind
  have k1:∀ b o,s3.heap.get? b=some o->h₁.get? b=some o:=fun b o e=>hsb₁.extBut b o (Nat.ne_of_lt (Heap.lt_size e)) (Heap.get?_push_of_some _ e)
  have IY:=J7 S I3 (fun b hb=>⟨f3 b hb,fpl3 b hb⟩) ⟨h₁,s3.toks + ([]:List (Str × Value)).length,rfl,hns₁,k1⟩
  have st4:tn 0 h₁:=T.keep _ _ _ st3 fun b _ o e=>k1 b o e
  generalize hcl:clOf X.env.cells scope.names []=cl at IY ⊢
  generalize hC:s3.heap.objs.size=C at IY hns₁ hsb₁ ⊢
  have fpY:∀ {H':Hp},(∀ b ∈ fp,H' b=none)->∀ b ∈ fp,FpOk (X.comp N scope cl s3 H3 C fp) [] H' b:=fun hn b hb=>by
    refine ⟨hn b hb,?_,?_,.inl hb,?_,fun p hp=>absurd (show p ∈ ([]:List (Addr × Obj)) from hp) (by simp)⟩
    . exact (IY.ok.exf b hb).1
    . exact IY.ok.exfs b hb
    . intro x c e z;exact (IY.ok.exf b hb).2 x c e z
  have fin:∀ (σ':St) (H':Hp) (s':Shared),Inv (X.comp N scope cl s3 H3 C fp) [] σ' H' s'->∀ h',Heap.SameBut C s'.heap h'->Inv X pins σ H' { s' with heap:=h' }:=fun σ' H' s' I' h' hsb=>by
    have hCf:H' C=none:=I'.free
    have kp:∀ b o,b ≠ C->s'.heap.get? b=some o->h'.get? b=some o:=fun b o hb e=>hsb.extBut b o hb e
    have hCs:s3.heap.get? C=none:=by rw [<-hC];exact Heap.get?_none_of_le (Nat.le_refl _)
    have neC:∀ b o,s3.heap.get? b=some o->b ≠ C:=fun b o e z=>by rw [z,hCs] at e;cases e
    have U:=I'.base
    refine I3.call' (s':={ s' with heap:=h' }) (ch:=fp) I'.os ⟨fun b o e n hb hx=>kp b o (neC b o e) (U.keep b o e n hb hx),fun b o e n hb hx=>?_,U.free,fun b o e hx=>?_,U.tups,U.frzs,U.tbls⟩ ?_ I'.bare fun b hb=>?_
    . obtain ⟨sl,e1⟩:=U.slot b o e n hb hx
      exact ⟨sl,kp b _ (neC b o e) e1⟩
    . obtain ⟨o',e1⟩:=U.there b o e hx
      exact ⟨o',kp b o' (neC b o e) e1⟩
    . intro b ob e
      refine (I'.hok b ob e).stay (fun c w' hcc q=>kp c w' (fun z=>?_) q) (fun _ q=>q) fun _ _ q=>q
      rcases hcc with z1 | z1
      . rw [<-z1,z,hCf] at e;cases e
      . rw [z,hCf] at z1;cases z1
    . exact ⟨(f3 b hb).2.2.2.1,(f3 b hb).2.1,fun x c e=>(f3 b hb).2.2.2.2.1 x c e,(f3 b hb).2.2.2.2.2⟩
  have loop:∀ s4:Shared,s4={ s3 with heap:=h₁,toks:=s3.toks + ([]:List (Str × Value)).length } ->
      codeAny (model X.prog X.w) X.A (.compLoop (.ListComp elt [⟨tg,iter,ifs,0⟩] scope pos) 0 (.ref it) (.ref D) (compEnvC scope cl C X.env)) (compPost (model X.prog X.w) X.A X.xe none (EP X pins σ Q) (.ref D) C) s4:=by
    rintro s4 rfl
    refine CT (fun n s'=>∃ i σ' H',Inv (X.comp N scope cl s3 H3 C fp) [] σ' H' s' /\ tn i s'.heap /\ (∀ b ∈ fp,H' b=none) /\ W i n σ' H') _ (fun _ _ _ q=>q) ?_ m0 ⟨0,_,H3,IY,st4,fun b hb=>(f3 b hb).1,w0⟩
    rintro n s5 ⟨i,σ5,H5,I5,st5,fr5,w5⟩
    have nofail:∀ {α:Type}{t:Sem α}{Q1:α->Shared->Prop}{E1:Value->Shared->Prop}{ss:Shared},wpAny (model X.prog X.w) X.A t Q1 (fun _ _=>False) ss->wpAny (model X.prog X.w) X.A t Q1 E1 ss:=fun hw=>wpAny_mono hw (fun _ _ q=>q) fun _ _ z=>False.elim z
    rcases turn i n σ5 H5 w5 with ⟨stop,q5⟩ | ⟨go,NN,hN,step⟩
    . refine nofail (thn (T.done (X.comp N scope cl s3 H3 C fp) rfl rfl rfl hc i [] s5 σ5 H5 (fun _ _=>False) I5 (fpY fr5) st5 stop) fun r s6 ⟨hr,I6⟩=>?_)
      subst hr
      obtain ⟨m6,hn6,_⟩:=I6.loc
      exact ⟨m6,hn6,fun h' hsb=>⟨.ref D,H5,fin σ5 H5 s6 I6 h' hsb,rfl,q5⟩⟩
    . refine nofail (thn (T.item (X.comp N scope cl s3 H3 C fp) rfl rfl rfl hc i [] s5 σ5 H5 (fun _ _=>False) I5 (fpY fr5) st5 go) fun r s6 ⟨u,hr,h6⟩=>?_)
      subst hr
      refine nofail (thn h6 fun _ s7 ⟨x,H7,I7,r7,y7,st7,fr7⟩=>?_)
      have I7':=I7.pinned (fpY fr7) (T.obj _ _ st7)
      refine nofail (thn (hg cl s3 H3 C fp _ s7 σ5 H7 x u _ I7' r7 (step x H7 y7)) fun _ s8 ⟨σ8,H8,I8,q8⟩=>?_)
      refine nofail (thn (hf cl s3 H3 C fp _ s8 σ8 H8 _ I8 q8) fun b s9 ⟨H9,I9,q9⟩=>?_)
      have again:∀ {σ9:St}{HA:Hp}{sA:Shared},Inv (X.comp N scope cl s3 H3 C fp) ([] ++ pinsAt fp s7.heap) σ9 HA sA->NN σ9 HA->∃ m,m < n /\ ∃ i σ' H',Inv (X.comp N scope cl s3 H3 C fp) [] σ' H' sA /\ tn i sA.heap /\ (∀ b ∈ fp,H' b=none) /\ W i m σ' H':=fun {σ9 HA sA} IA nA=>by
        obtain ⟨m',hm,wA⟩:=hN σ9 HA nA
        refine ⟨m',hm,i + 1,σ9,HA,IA.unpinned,T.keep _ _ _ st7 fun b hb o e=>(IA.pin (b,o) (List.mem_append_right _ (List.mem_append_right _ (oo hb e)))).1,fun b hb=>?_,wA⟩
        obtain ⟨o,e,d⟩:=T.obj _ _ st7 b hb
        exact (IA.pin (b,o) (List.mem_append_right _ (List.mem_append_right _ (oo hb e)))).2.1
      cases b with
      | false =>
        rw [if_neg (by decide)] at q9
        rw [if_neg (by decide)]
        exact again I9 q9
      | true =>
        rw [if_pos rfl] at q9
        rw [if_pos rfl]
        refine nofail (thn (he cl s3 H3 C fp _ s9 σ8 H9 _ I9 q9) fun yv sA ⟨y,HA,IA,rA,ys,hys,hyl,nA⟩=>?_)
        refine nofail (thn (AU _ sA σ8 HA (.ref D) [y] (.ref D) [yv] (fun _ HB=>NN σ8 HB) IA rfl (.cons rA .nil) ⟨D,ys,y,rfl,rfl,hys,hyl,nA⟩) fun r sB hB=>?_)
        obtain ⟨_,HB,IB,_,nB⟩:=hB
        exact again IB nB
  exact codeAny_compStart_list (loop _ rfl) (T.self _ 0 _ _ _ st4 (loop _ rfl))
end
end L2
set_option Elab.async false
set_option linter.all false
set_option maxRecDepth 100000
set_option maxHeartbeats 4000000
namespace L2
open PySem PySem.Spec PyProof.Rows PySem.W PySem.Builtin PySem.Builtin.ObjectAttr PySem.Builtin.Getset_descriptor
section
variable {prog : Program} {w : World} {A : Around} {E : Value -> Shared -> Prop} {K : Frag} {x C : Addr}
noncomputable def Ex1 (x C:Addr) (h:Heap):Prop:=∃ ox,h.get? x=some ox /\ ox.cls=.ref C
theorem Ex1.type {M:Model}{h:Heap} (I:Ex1 x C h):Looks M h (typeOf (.ref x)) (.ref C):=by
  obtain ⟨ox,e,hc⟩:=I
  exact hc ▸ (Looks.ld e).andThen .now
theorem J8 {M:Model}{h:Heap} (X:K.In h) {a g:Value}{name:Str} (ha:findIn K (.ref C) name=some (some a)) (hg:specialIn K a "__get__"=some (some g)) (ht:takesIn K a=some true) :
    Looks M h (find (.ref x) (.ref C) name) (.bind g a):=by
  have l1:=looks_findIn (M:=M) X ha
  have l2:Looks M h (getOf (some a)) (some g):=looks_specialIn X hg
  have l3:=looks_takesIn (M:=M) X ht
  have l4:Looks M h (dataDescriptor? (some a) (some g)) (some (g,a)):=l3.andThen .now
  exact l1.andThen (l2.andThen (l4.andThen (Looks.tag .now)))
theorem Mt {prog:Program}{w:World}{A:Around}{R:Result->Shared->Prop}{s:Shared}{tp:Value} (X:K.In s.heap) (I:Ex1 x C s.heap) (hm:mroIn K C (.type "object")=some true) (q:R (.ok (.ret (.ref C))) s) :
    codeAny (model prog w) A (.call (.builtin "getset_descriptor.__get__") ⟨[.builtin "object.__class__",.ref x,tp],[]⟩) R s:=by
  obtain ⟨hh,g,dr,t,os⟩:=s
  have l0:=I.type (M:=model prog w)
  have l1:=looks_mroIn (M:=model prog w) X hm
  refine codeAny_call_builtin KF.slot_gs.plain KF.entry_gs
    (KF.slot_gs.check _ _ _ _ _ _ _ _ KF.type_class (KF.args_gs _ _ _) ?_)
  unfold Builtin.«getset_descriptor.__get__» descrGet
  rw [dga_obj]
  refine wpAny_bind (wpAny_pure ?_)
  unfold descrGetter descrCheckInstance descrNameAndClass
  unfold isInstance
  simp only [KF.owner_class]
  repeat (any_goals (first | assumption | with_reducible refine l0.at ?_ | with_reducible refine l1.at ?_ | wp_step))
  refine ⟨Code.quiet_builtin _ (by decide +kernel),codeAny_builtin KF.entry_class ?_⟩
  unfold Builtin.«object.__class__»
  unfold shownTypeOf
  repeat (any_goals (first | assumption | with_reducible refine l0.at ?_ | wp_step))
structure ExcK (K:Frag) (C:Addr):Prop where
  ga:findIn K (.ref C) "__getattribute__"=some (some (.builtin "BaseException.__getattribute__"))
  gt:findIn K (.ref C) "__getattr__"=some none
  cl:findIn K (.ref C) "__class__"=some (some (.builtin "object.__class__"))
  gs:specialIn K (.builtin "object.__class__") "__get__"=some (some (.builtin "getset_descriptor.__get__"))
  tk:takesIn K (.builtin "object.__class__")=some true
  mo:mroIn K C (.type "object")=some true
  mb:mroIn K C (.type "BaseException")=some true
  cd:(clsIn K C).isSome=true
theorem J9 {M:Model}{A:Around}{h:Heap}{g:Array GenState}{d:Drawn}{t:Nat}{os:OsState}{nameV:Value}{Q:Unit->Shared->Prop} (T:ExcK K C) (X:K.In h) (I:Ex1 x C h)
    (hq:Q () ⟨h,g,d,t,os⟩):wpAny M A (checkBuiltinCall "BaseException.__getattribute__" ⟨[.ref x,nameV],[]⟩) Q E ⟨h,g,d,t,os⟩:=by
  have hk:builtinKind "BaseException.__getattribute__"=some .slot:=by decide +kernel
  have hsplit:splitId "BaseException.__getattribute__"=some ("BaseException", "__getattribute__"):=by decide +kernel
  have ha:=F.args_bexc_ga (.ref x) nameV
  have L0:=I.type (M:=M)
  have L1:=looks_mroIn (M:=M) X T.mb
  have LI:Looks M h (isInstance (.ref x) (.type "BaseException")) true:=L0.andThen L1
  simp only [checkBuiltinCall,hk,hsplit]
  refine wpAny_bind (LI.at ?_)
  repeat (any_goals (first | assumption | wp_step))
theorem La {tk:Tok}{Q:Fin->Shared->Prop}{h:Heap}{g:Array GenState}{d:Drawn}{t:Nat}{os:OsState} (T:ExcK K C) (X:K.In h) (I:Ex1 x C h) (hq:Q (.done (.ret (.ref C))) ⟨h,g,d,t,os⟩) :
    wpAny (model prog w) A (Builtin.«object.__getattribute__» ⟨[.ref x,.str "__class__" tk],[]⟩) Q E ⟨h,g,d,t,os⟩:=by
  have L0:=I.type (M:=model prog w)
  have L1:=J8 (x:=x) (M:=model prog w) X T.cl T.gs T.tk
  unfold Builtin.«object.__getattribute__»
  refine wpAny_bind (wpAny_pure ?_)
  repeat (any_goals (first | assumption | with_reducible refine L0.at ?_ | with_reducible refine L1.at ?_ | wp_step))
  refine Mt X I T.mo ?_
  repeat (any_goals (first | assumption | wp_step))
theorem Mu {tk:Tok}{R:Result->Shared->Prop}{h:Heap}{g:Array GenState}{d:Drawn}{t:Nat}{os:OsState} (T:ExcK K C) (X:K.In h) (I:Ex1 x C h) (hq:R (.ok (.ret (.ref C))) ⟨h,g,d,t,os⟩) :
    codeAny (model prog w) A (.call (.builtin "BaseException.__getattribute__") ⟨[.ref x,.str "__class__" tk],[]⟩) R ⟨h,g,d,t,os⟩ :=
  codeAny_call_builtin F.excAttr_ValueError.ga.plain F.entry_bexc_ga (J9 T X I (La T X I hq))
theorem NR {Q:Option Value->Shared->Prop}{s:Shared} (T:ExcK K C) (X:K.In s.heap) (I:Ex1 x C s.heap) (hq:Q (some (.ref C)) { s with toks:=s.toks + 1 }) :
    wpAny (model prog w) A (getAttr? (.ref x) "__class__") Q E s:=by
  obtain ⟨h,g,d,t,os⟩:=s
  have L0:=I.type (M:=model prog w)
  have L1:=looks_findIn (M:=model prog w) X T.ga
  have L2:=looks_findIn (M:=model prog w) X T.gt
  have f3:=F.excAttr_ValueError.ga.bind (.ref x)
  have hx0:(false && onTheHeap (Value.builtin "BaseException.__getattribute__"))=false:=rfl
  have hx2:(Value.builtin "BaseException.__getattribute__" == Value.builtin "object.__getattribute__")=false:=by decide +kernel
  have hx1:(onTheHeap (Value.ref C) && Value.builtin "BaseException.__getattribute__" == Value.builtin "object.__getattribute__")=false:=by rw [hx2];rfl
  unfold getAttr? getAttrBy?
  refine wpAny_bind (wpAny_mkText (wpAny_bind (wpAny_attempt ?_)))
  repeat (any_goals (first | assumption | with_reducible refine L0.at ?_ | with_reducible refine L1.at ?_ | with_reducible refine L2.at ?_ | wp_step))
  refine Mu T X I ?_
  repeat (any_goals (first | assumption | wp_step))
theorem Lb (T:ExcK K C):KitX K (.ref x) (.ref C) (Ex1 x C) where
  ty:=fun _ _ _ I=>I.type
  it:=fun _ _ X _=>by
    obtain ⟨cdD,hcD⟩:=Option.isSome_iff_exists.mp T.cd
    unfold clsIn at hcD
    split at hcD
    . rename_i c' d' cd' sl' ho
      intro A' Q' E' s' k q
      unfold isType loadHead
      exact wpAny_bind (wpAny_loadPart (k _ _ (X _ _ ho)) (wpAny_pure q))
    . cases hcD
  ne:=fun h tp dd its n sl X htp=>by
    obtain ⟨cdD,hcD⟩:=Option.isSome_iff_exists.mp T.cd
    refine Bool.eq_false_iff.mpr fun q=>?_
    have e:C=tp:=Value.ref.inj (beq_iff_eq.mp q)
    subst e
    unfold clsIn at hcD
    split at hcD
    . rename_i c' d' cd' sl' ho
      have z:=(X _ _ ho).symm.trans htp
      cases z
    . cases hcD
  ca:=fun X I k=>NR T X I k
end
end L2
set_option Elab.async false
set_option linter.all false
set_option maxRecDepth 100000
set_option maxHeartbeats 4000000
namespace L2
open PySem PySem.Spec PyProof.Rows PySem.W
noncomputable def ExIn (B:Heap) (l:List Env) (ea:Addr) (cls a0:Value) (h:Heap):Prop :=
  Heap.FlyingW B l ea cls a0 h \/ (B.StaysIn h /\ B.get? ea=none /\ h.FunFrames B l /\
    h.get? ea=some { cls:=cls,data:=.fields #[a0,.none,.none,.none,.bool false,.none] })
theorem ExIn.stays {B:Heap}{l:List Env}{ea:Addr}{cls a0:Value}{h:Heap} (x:ExIn B l ea cls a0 h):B.StaysIn h:=x.elim (fun z=>z.1) fun z=>z.1
theorem ExIn.notIn {B:Heap}{l:List Env}{ea:Addr}{cls a0:Value}{h:Heap} (x:ExIn B l ea cls a0 h):B.get? ea=none:=x.elim (fun z=>z.2.1) fun z=>z.2.1
section
variable {M : Model} {A : Around} {E : Value -> Shared -> Prop} {s : Shared} {B : Heap} {env : Env} {outer : List Env} {L ea : Addr} {cls a0 : Value} {Q : Unit -> Shared -> Prop}
theorem Lc (hfr:A.frames=some (env :: outer)) (hf:env.frame=some L) (hx:ExIn B (env :: outer) ea cls a0 s.heap)
    (q:∀ h',ExIn B outer ea cls a0 h'->s.heap.UpToSlots h'->Q () { s with heap:=h' }):wpAny M A (leaving env (.ref ea)) Q E s:=by
  rcases hx with hx | ⟨x1,x2,x3,x4⟩
  . exact wpAny_leaves_onW hfr hf hx fun h' y1 y2=>q h' (.inl y1) y2
  . refine wpAny_leaving_firstW (a0:=a0) hfr x3 hf x4 x1 x2 rfl rfl rfl fun h' y=>?_
    obtain ⟨k1,⟨_,_,k2⟩,k3,k4⟩:=y
    exact q h' (.inl ⟨k1,x2,k2,k3⟩) k4
theorem Mv (hfr:A.frames=some (env :: outer)) (hf:env.frame=some L) (hx:ExIn B (env :: outer) ea cls a0 s.heap)
    (q:∀ h',Heap.HeldW B (env :: outer) ea cls a0 L h'->s.heap.UpToSlots h'->Q () { s with heap:=h' }):wpAny M A (noteFrame (.ref ea) env) Q E s:=by
  rcases hx with hx | ⟨x1,x2,x3,x4⟩
  . exact wpAny_looks_onW hfr hf hx q
  . unfold noteFrame
    simp only [hf]
    have h1:(#[a0,.none,.none,.none,.bool false,.none]:Array Value)[1]?=some Value.none:=rfl
    refine wpAny_bind (wpAny_field x4 rfl h1 ?_)
    rw [if_neg (show ¬ ((Value.none != Value.none)=true) by decide)]
    refine wpAny_entryW hfr x3 hf x4 x1 x2 rfl (by show 1 < 6;decide) (by rfl) fun h' y=>?_
    obtain ⟨k1,k2,k3,k4⟩:=y
    exact q h' ⟨k1,x2,k2,k3⟩ k4
end
noncomputable def CXr (P:Program) (w:World):CXT:=fun outer H s E e s'=>∃ (ea C:Addr) (a0:Value) (B:Heap) (H':Hp),
  e=.ref ea /\ s'.os=s.os /\ AllBare s'.gens /\ Un (frs outer) [] H H' s.heap s'.heap /\ HOk P w H' s'.heap /\ ExIn B outer ea (.ref C) a0 s'.heap /\
  (∀ b u o,H' b=some u->s'.heap.get? b=some o->B.get? b=some o) /\ (∀ b o,s.heap.get? b=some o->b ∉ frs outer->∃ o',B.get? b=some o') /\ E (.ref C) none H'
noncomputable def XE (X:Cx) (E:XK) (e:Value) (s':Shared):Prop:=∃ (σ':St) (H':Hp) (ea C:Addr) (a0:Value) (B:Heap),
  e=.ref ea /\ Inv X [] σ' H' s' /\ ExIn B X.stack ea (.ref C) a0 s'.heap /\ (∀ b u o,H' b=some u->s'.heap.get? b=some o->B.get? b=some o) /\
  (∀ p ∈ X.pn,B.get? p.1=some p.2) /\ (∀ b o,X.s₀.heap.get? b=some o->b ∉ X.fs->b ∉ X.ex->∃ o',B.get? b=some o') /\ E (.ref C) none H'
noncomputable def Lands (X:Cx) (E:XK):Prop:=∀ e s',XE X E e s'->X.xe e s'
section
variable {X : Cx}
theorem FN {σ:St}{H':Hp}{s':Shared}{pins:List (Addr × Obj)}{B h:Heap} (I:Inv X pins σ H' s') (u:s'.heap.UpToSlots h) (st:B.StaysIn s'.heap) (sh:B.StaysIn h)
    (old:∀ b o,X.s₀.heap.get? b=some o->b ∉ X.fs->b ∉ X.ex->∃ o',B.get? b=some o'):Un X.fs X.ex X.H₀ H' X.s₀.heap h where
  keep:=fun b o e n hb hx=>by
    obtain ⟨o',q⟩:=old b o e hb hx
    have q1:=I.base.keep b o e n hb hx
    have q2:=st b o' q
    rw [q1] at q2;cases q2
    exact sh b _ q
  slot:=fun b o e n hb hx=>by
    obtain ⟨sl,q1⟩:=I.base.slot b o e n hb hx
    obtain ⟨_,ofr,q2,d⟩:=I.ok.funs.mem hb
    rw [e] at q2;cases q2
    obtain ⟨sl',q3⟩:=u b _ q1 d
    exact ⟨sl',q3⟩
  free:=I.base.free
  there:=fun b o e hx=>by
    by_cases hb:b ∈ X.fs
    . obtain ⟨sl,q1⟩:=I.base.slot b o e (I.ok.frf b hb) hb hx
      obtain ⟨_,ofr,q2,d⟩:=I.ok.funs.mem hb
      rw [e] at q2;cases q2
      obtain ⟨sl',q3⟩:=u b _ q1 d
      exact ⟨_,q3⟩
    . obtain ⟨o',q⟩:=old b o e hb hx
      exact ⟨o',sh b o' q⟩
  tups:=I.base.tups
  frzs:=I.base.frzs
  tbls:=I.base.tbls
theorem Gy {P:Program}{w:World}{H':Hp}{h h' B:Heap} (k:HOk P w H' h) (sh:B.StaysIn h') (tr:∀ b u o,H' b=some u->h.get? b=some o->B.get? b=some o):HOk P w H' h':=fun a o e =>
  (k a o e).stay (fun b u hb q=>sh b u (hb.elim (fun z=>tr b o u (z ▸ e) q) fun z=>tr b _ u z q)) (fun _ q=>q) fun _ _ q=>q
theorem Gz {σ:St}{H':Hp}{s':Shared}{B h:Heap} (I:Inv X [] σ H' s') (u:s'.heap.UpToSlots h) (st:B.StaysIn s'.heap) (sh:B.StaysIn h)
    (tr:∀ b u o,H' b=some u->s'.heap.get? b=some o->B.get? b=some o) (pn:∀ p ∈ X.pn,B.get? p.1=some p.2)
    (old:∀ b o,X.s₀.heap.get? b=some o->b ∉ X.fs->b ∉ X.ex->∃ o',B.get? b=some o'):Inv X [] σ H' { s' with heap:=h }:=by
  have cellK:∀ c v,s'.heap.IsCell c v->h.IsCell c v:=fun c v ⟨o,e,d⟩=>by
    obtain ⟨sl,q⟩:=u c o e (fun vs z=>by rw [d] at z;cases z)
    exact ⟨_,q,d⟩
  refine ⟨I.ok,I.os,I.bare,FN I u st sh old,?_,fun x c e=>?_,I.free,I.freeC,fun p hp=>?_,Gy I.hok sh tr,I.len⟩
  . obtain ⟨m,hn,hl⟩:=I.loc
    refine ⟨m,u.ns hn,fun i x v e1 e2 e3=>?_⟩
    obtain ⟨w',r,l⟩:=hl i x v e1 e2 e3
    refine ⟨w',r,?_⟩
    rcases l with l | ⟨k,c,e,z⟩
    . exact .inl l
    . exact .inr ⟨k,c,e,cellK c _ z⟩
  . obtain ⟨v,z⟩:=I.cell x c e
    exact ⟨v,cellK c v z⟩
  . obtain ⟨e,n,r⟩:=I.pin p hp
    rw [List.append_nil] at hp
    exact ⟨sh _ _ (pn p hp),n,r⟩
theorem Inv.unpin {pins:List (Addr × Obj)}{σ:St}{H:Hp}{s:Shared} (I:Inv X pins σ H s):Inv X [] σ H s:=I.pins_of fun p hp=>absurd hp (by simp)
theorem Lands.passes {E:XK} (l:Lands X E):Passes (CXr X.prog X.w) X E:=by
  intro pins σ H s e s' I h
  obtain ⟨ea,C,a0,B,H',he,os,bare,un,hok,ex,tr,old,q⟩:=h
  have I':Inv X pins σ H' s':=I.call' os un hok bare (fun b z=>absurd z (by simp))
  have nfr:∀ b,b ≠ X.env.locals->b ∉ X.fs->b ∉ frs X.stack:=fun b h1 h2 z=>by
    rcases List.mem_cons.mp (I.stkSub b z) with y | y
    . exact h1 y
    . exact h2 y
  refine l e s' ⟨σ,H',ea,C,a0,B,he,I'.unpin,ex,tr,fun p hp=>?_,fun b o e hb hx=>?_,q⟩
  . obtain ⟨e1,n1,n2,n3,_⟩:=I.pin p (List.mem_append_left _ hp)
    obtain ⟨o',q1⟩:=old p.1 p.2 e1 (nfr _ n2 n3)
    have q2:=un.keep p.1 p.2 e1 n1 (nfr _ n2 n3) (by simp)
    have q3:=ex.stays _ _ q1
    rw [q2] at q3;cases q3
    exact q1
  . obtain ⟨o1,e1⟩:=I.base.there b o e hx
    exact old b o1 e1 (nfr b (Nat.ne_of_lt (Nat.lt_of_lt_of_le (Heap.lt_size e) I.ok.above)) hb)
theorem ii {P:Program}{w:World}{K:PySem.W.Frag}{mg:Str->Option Value}{base:Heap}{N:List Str}{qual:Str}{scope:Scope}{f:Addr}{cd:Value}{A:Around}{outer:List Env}{s:Shared}{H:Hp}{E:XK} :
    Lands (cxOf (CXr P w) P w K mg base N qual scope f cd A outer s H E) E:=by
  intro e s' h
  obtain ⟨σ',H',ea,C,a0,B,he,I,ex,tr,pn,old,q⟩:=h
  subst he
  refine Lc I.ok.frames rfl ex fun h' y1 y2=>?_
  refine ⟨ea,C,a0,B,H',rfl,I.os,I.bare,FN I y2 ex.stays y1.stays old,Gy I.hok y1.stays tr,y1,fun b u o e1 e2=>?_,fun b o e1 e2=>old b o e1 e2 (by intro z;exact absurd (show b ∈ ([]:List Addr) from z) (by simp)),q⟩
  have hs:=(I.hok b u e1).lt
  obtain ⟨o1,q1⟩:∃ o1,s'.heap.get? b=some o1:=by
    rcases (I.hok b u e1) with _
    cases z:s'.heap.get? b with
    | some o1=>exact ⟨o1,rfl⟩
    | none =>
      exfalso
      have k:=I.hok b u e1
      cases u with
      | lst xs=>obtain ⟨_,_,_,_,e⟩:=k;rw [z] at e;cases e
      | tup xs=>obtain ⟨_,_,_,ob,e,_⟩:=k;rw [z] at e;cases e
      | dK kvs=>obtain ⟨_,_,_,_,o,_,_,e,_⟩:=k;rw [z] at e;cases e
      | dT kvs=>obtain ⟨_,_,_,_,o,_,_,e,_⟩:=k;rw [z] at e;cases e
      | set S n=>obtain ⟨o,_,_,_,e,_⟩:=k;rw [z] at e;cases e
      | ins C dx fs=>obtain ⟨_,_,_,e,_⟩:=k;rw [z] at e;cases e
      | own y=>obtain ⟨_,e⟩:=k;rw [z] at e;cases e
      | xd fs=>obtain ⟨_,⟨_,_,_,e,_⟩,_⟩:=k;rw [z] at e;cases e
      | rng lo hi=>obtain ⟨_,_,_,e⟩:=k;rw [z] at e;cases e
      | frz ob u=>obtain ⟨e,_⟩:=k;rw [z] at e;cases e
      | tbl ps=>have e:s'.heap.get? b=some _:=k;rw [z] at e;cases e
      | met f y=>have e:s'.heap.get? b=some _:=k;rw [z] at e;cases e
      | ext φ=>obtain ⟨_,⟨_,e⟩,_⟩:=k;rw [z] at e;cases e
  have q2:=tr b u o1 e1 q1
  have q3:=y1.stays b o1 q2
  rw [e2] at q3;cases q3
  exact q2
end
end L2
set_option Elab.async false
set_option linter.all false
set_option maxRecDepth 100000
set_option maxHeartbeats 4000000
namespace L2
open PySem PySem.Spec PyProof.Rows PySem.W
noncomputable abbrev vErr:List Value:=[.type "ValueError",.type "Exception",.type "BaseException",.type "object"]
theorem Mw {K:Frag}{h:Heap}{C:Addr}{bmB:List Value}{nid:String} (X:K.In h) (q:excIn K C bmB nid=true) :
    ∃ bm N nm qn bs hd sn sub ab col dd k0 k1 k2 k3 k5 mN,h.get? C=some (excClassObj nm qn C N bs bm hd sn sub ab col dd k0 k1 k2 k3 k5 nid) /\ h.Ns N mN /\ mN "__init__"=none /\ OwnTail h bmB bm:=by
  unfold excIn at q
  split at q
  . rename_i dd cd sl ho
    split at q
    . rename_i C1 bm k0 k1 k2 k3 nw k5 mr hs
      simp only [Bool.and_eq_true,beq_iff_eq,Bool.not_eq_true'] at q
      obtain ⟨⟨⟨⟨⟨rfl,rfl⟩,z1⟩,z2⟩,z3⟩,z4⟩:=q
      obtain ⟨nm,bs,mro,ns,qn,hd,sn,sub,ab,col,del⟩:=cd
      dsimp only at mr z1 z3 z4
      subst mr z1
      have es:sl=#[k0,k1,k2,k3,some (.builtin nw),k5]:=by
        cases sl
        exact congrArg Array.mk hs
      subst es
      exact ⟨bm,ns,nm,qn,bs,hd,sn,sub,ab,col,dd,k0,k1,k2,k3,k5,_,X _ _ ho,
        .of_isNs (isNs_of_in X z3),nsMap_none_of_in X z3 z4,tail_of_in X z2⟩
    . cases q
  . cases q
section
variable {X : Cx}
theorem Mx {E:XK}{pins:List (Addr × Obj)}{σ:St}{H:Hp}{s:Shared}{h':Heap}{ea C:Addr}{vs:List Value} (l:Lands X E) (I:Inv X pins σ H s) (m:Heap.MadeExcOf s.heap h' ea (.ref C) vs) (q:E (.ref C) none H) :
    X.xe (.ref ea) { s with heap:=h' }:=by
  obtain ⟨t,e1,e2,e3⟩:=m.there
  have I':Inv X pins σ H { s with heap:=h' }:=I.kept (t':=s.toks) m.keeps
  have hin:∀ env ∈ X.stack,∀ b,env.frame=some b->b ∈ frs X.stack:=fun env he b hb=>List.mem_filterMap.mpr ⟨env,he,hb⟩
  have fr:h'.FunFrames (hideAll s.heap (frs X.stack)) X.stack:=by
    have f0:=funFrames_hide I.stack hin
    exact f0.of_keeps fun b o e _=>⟨o,m.keeps b o e,rfl⟩
  have nh:∀ b o,s.heap.get? b=some o->b ∉ frs X.stack->(hideAll s.heap (frs X.stack)).get? b=some o:=fun b o e hb=>hideAll_get _ e hb
  refine l _ _ ⟨σ,H,ea,C,.ref t,hideAll s.heap (frs X.stack),rfl,I'.unpin,.inr ⟨fun b o e=>m.keeps b o (of_hideAll _ e),?_,fr,e1⟩,fun b u o eb eo=>?_,fun p hp=>?_,fun b o e hb hx=>?_,q⟩
  . cases z:(hideAll s.heap (frs X.stack)).get? ea with
    | none=>rfl
    | some o=>have:=of_hideAll _ z;rw [m.new] at this;cases this
  . have hb:b ∉ frs X.stack:=fun z=>by rw [I.stkFree b z] at eb;cases eb
    cases z:s.heap.get? b with
    | some o1 =>
      have:=m.keeps b o1 z
      rw [this] at eo;cases eo
      exact nh b _ z hb
    | none=>exact absurd ((I.hok b u eb).lt) (by intro hl;exact absurd z (by
        intro z'
        have k:=I.hok b u eb
        cases u with
        | lst xs=>obtain ⟨_,_,_,_,e⟩:=k;rw [z] at e;cases e
        | tup xs=>obtain ⟨_,_,_,ob,e,_⟩:=k;rw [z] at e;cases e
        | dK kvs=>obtain ⟨_,_,_,_,o,_,_,e,_⟩:=k;rw [z] at e;cases e
        | dT kvs=>obtain ⟨_,_,_,_,o,_,_,e,_⟩:=k;rw [z] at e;cases e
        | set S n=>obtain ⟨o,_,_,_,e,_⟩:=k;rw [z] at e;cases e
        | ins C dx fs=>obtain ⟨_,_,_,e,_⟩:=k;rw [z] at e;cases e
        | own y=>obtain ⟨_,e⟩:=k;rw [z] at e;cases e
        | xd fs=>obtain ⟨_,⟨_,_,_,e,_⟩,_⟩:=k;rw [z] at e;cases e
        | rng lo hi=>obtain ⟨_,_,_,e⟩:=k;rw [z] at e;cases e
        | frz ob u=>obtain ⟨e,_⟩:=k;rw [z] at e;cases e
        | tbl ps=>have e:s.heap.get? b=some _:=k;rw [z] at e;cases e
        | met f y=>have e:s.heap.get? b=some _:=k;rw [z] at e;cases e
        | ext φ=>obtain ⟨_,⟨_,e⟩,_⟩:=k;rw [z] at e;cases e))
  . obtain ⟨e1,n1,n2,n3,_⟩:=I.pin p (List.mem_append_left _ hp)
    exact nh _ _ e1 fun z=>(List.mem_cons.mp (I.stkSub p.1 z)).elim n2 n3
  . obtain ⟨o1,q1⟩:=I.base.there b o e hx
    exact ⟨o1,nh b o1 q1 fun z=>(List.mem_cons.mp (I.stkSub b z)).elim (Nat.ne_of_lt (Nat.lt_of_lt_of_le (Heap.lt_size e) I.ok.above)) hb⟩
theorem Ld {x:Str}{C:Addr}{e:Expr}{te:TE}{E:XK}{np cpos pos:Pos} (hc:X.calm=true) (l:Lands X E) (hg:Gl X x) (hm:X.mg x=some (.ref C)) (q:excIn X.K C vErr "ValueError.__new__"=true) (he:PE X e te)
    (hs:starEach [e] X.env=[(false,eval e X.env)]:=by rfl) (hd:(x == ("__debug__":Str))=false:=by decide) :
    PS X (.Raise (some (.Call (.Name x np) [e] [] cpos)) none pos) (fun _ σ H=>te σ H fun v H1=>[v].length=1 /\ E (.ref C) none H1):=by
  intro pins s σ H D I h
  obtain ⟨bm,N,nm,qn,bs,hdt,sn,sub,ab,col,dd,k0,k1,k2,k3,k5,mN,hC,hN,hni,T⟩:=Mw I.mod.kin q
  refine wpAny_Raise_call_subT (C:=C) (nm:=nm) (q:=qn) (N:=N) (bs:=bs) (bm:=bm) (hdct:=hdt) (sn:=sn) (sub:=sub) (ab:=ab) (col:=col) (dd:=dd)
    (k0:=k0) (k1:=k1) (k2:=k2) (k3:=k3) (k5:=k5) PySem.F.excBase_ValueError (mN:=mN) (T.hasType PySem.F.excBase_ValueError.hasBase) (I.ok.hd hc) (by rw [hs];rfl) hni ?_
  refine thn (gU (v:=.ref C) (pos:=np) hg hm rfl hd pins s σ H (fun v H1=>v=.ref C /\ H1=H) I ⟨rfl,rfl⟩) fun f s1 ⟨v,H1,I1,r1,e1,e2⟩=>?_
  subst e1;subst e2
  refine ⟨r1,?_⟩
  rw [hs]
  refine Calls.evalArgs_plain ?_
  have ha:PA X [e] (tCons te tNil):=fE he gu (by rw [hs];rfl)
  have hA:=ha cpos pins s1 σ H1 (fun vs H2=>vs.length=1 /\ E (.ref C) none H2) I1 h
  rw [hs] at hA
  refine thn hA fun us s2 ⟨vs,H2,I2,r2,e3,q2⟩=>?_
  refine ⟨rfl,?_,I2.bk _ _ hC,hN.keeps I2.bk,T.keeps I2.bk,fun h' ea m=>Mx l I2 m q2⟩
  rw [<-r2.length,e3]
  decide
end
end L2
set_option Elab.async false
set_option linter.all false
set_option maxRecDepth 100000
set_option maxHeartbeats 4000000
namespace L2
open PySem PySem.Spec PyProof.Rows PySem.W
theorem Jj {K:Frag}{M:Model}{A:Around}{E:Value->Shared->Prop}{s:Shared}{ea C R:Addr}{Q:Bool->Shared->Prop} (X:K.In s.heap) (I:Ex1 ea C s.heap)
    (hk:kitCls K (.ref C) (.ref R)=some true) (hb:mroIn K R (.type "BaseException")=some true) (q:Q true s):wpAny M A (excMatches (.ref ea) (.ref R)) Q E s:=by
  obtain ⟨h,g,d,t,os⟩:=s
  obtain ⟨l1,l2,l3⟩:=kit_cls (M:=M) X hk
  have l4:=looks_mroIn (M:=M) X hb
  have l5:=I.type (M:=M)
  have f:=tc_notTuple
  unfold excMatches isInstance isExcClass
  repeat (any_goals (first | assumption | with_reducible refine l1.at ?_ | with_reducible refine l2.at ?_ | with_reducible refine l3.at ?_ | with_reducible refine l4.at ?_ | with_reducible refine l5.at ?_ | wp_step))
section
variable {X : Cx}
noncomputable abbrev Cx.tri (X:Cx) (pn:List (Addr × Obj)) (E:XK):Cx:={ X with pn:=pn,xe:=XE { X with pn:=pn } E }
noncomputable abbrev Cx.hand (X:Cx) (pn:List (Addr × Obj)) (ea:Addr):Cx:={ X with pn:=pn,A:=X.A.mark (some (.ref ea)),calm:=false,xe:=fun _ _=>False }
theorem Inv.turn {X Y:Cx}{pins pins':List (Addr × Obj)}{σ:St}{H:Hp}{s:Shared} (I:Inv X pins σ H s) (hp:∀ p ∈ Y.pn ++ pins',p ∈ X.pn ++ pins) (hf:Y.A.frames=some Y.stack) (hd:Y.calm=true->Y.A.handled=none)
    (h1:Y.prog=X.prog:=by rfl) (h2:Y.w=X.w:=by rfl) (h3:Y.K=X.K:=by rfl) (h4:Y.mg=X.mg:=by rfl) (h5:Y.base=X.base:=by rfl) (h6:Y.N=X.N:=by rfl) (h7:Y.s₀=X.s₀:=by rfl) (h8:Y.H₀=X.H₀:=by rfl) (h9:Y.env=X.env:=by rfl)
    (ha:Y.outer=X.outer:=by rfl) (hb:Y.stack=X.stack:=by rfl) (hc:Y.ex=X.ex:=by rfl) (he:Y.fn=X.fn:=by rfl):Inv Y pins' σ H s:=by
  obtain ⟨yp,yw,yK,ymg,ybase,yA,yN,ys0,yH0,yenv,yout,yst,yex,yfn,ycalm,ypn,yxe⟩:=Y
  dsimp only at h1 h2 h3 h4 h5 h6 h7 h8 h9 ha hb hc he hp hf hd
  subst h1 h2 h3 h4 h5 h6 h7 h8 h9 ha hb hc he
  exact ⟨⟨I.ok.mod,I.ok.kind,I.ok.glob,I.ok.blt,I.ok.above,I.ok.inj,I.ok.has,I.ok.cab,hd,hf,I.ok.stk,I.ok.exf,I.ok.bs,I.ok.bsz,I.ok.noex,I.ok.exfs,I.ok.funs,I.ok.frf⟩,
    I.os,I.bare,I.base,I.loc,I.cell,I.free,I.freeC,fun p q=>I.pin p (hp p q),I.hok,I.len⟩
theorem Jk {pn:List (Addr × Obj)}{E:XK}:Lands (X.tri pn E) E:=by
  intro e s' h
  obtain ⟨σ',H',ea,C,a0,B,he,I,ex,tr,hp,old,q⟩:=h
  exact ⟨σ',H',ea,C,a0,B,he,I.turn (fun p z=>z) I.ok.frames I.ok.hd,ex,tr,hp,old,q⟩
theorem SP.turn {X Y:Cx}{pins pins':List (Addr × Obj)}{D:Ends}{f:Flow}{s':Shared} (k:∀ σ H,Inv X pins σ H s'->Inv Y pins' σ H s') (h:SP X pins D f s'):SP Y pins' D f s':=by
  cases f with
  | next=>obtain ⟨σ',H',I,q⟩:=h;exact ⟨σ',H',k _ _ I,q⟩
  | brk=>obtain ⟨σ',H',I,q⟩:=h;exact ⟨σ',H',k _ _ I,q⟩
  | cont=>obtain ⟨σ',H',I,q⟩:=h;exact ⟨σ',H',k _ _ I,q⟩
  | ret u=>obtain ⟨v,σ',H',I,r,q⟩:=h;exact ⟨v,σ',H',k _ _ I,r,q⟩
theorem Inv.watch {pins:List (Addr × Obj)}{σ:St}{H:Hp}{s:Shared}{a:Addr}{φ:Heap->Prop} (I:Inv X pins σ H s) (hn:H a=none) (hL:a ≠ X.env.locals) (hC:∀ x c,X.env.cells.lookup x=some c->c ≠ a)
    (hp:∀ p ∈ X.pn ++ pins,p.1 ≠ a) (ho:∀ b o,X.s₀.heap.get? b=some o->b ∉ X.ex->b ≠ a) (new:ObjOk X.prog X.w (upd H a (.ext φ)) s.heap a (.ext φ)):Inv X pins σ (upd H a (.ext φ)) s:=by
  have ne:∀ b u,H b=some u->b ≠ a:=fun b u e z=>by rw [z,hn] at e;cases e
  refine ⟨I.ok,I.os,I.bare,⟨I.base.keep,I.base.slot,fun b o e n hx=>?_,I.base.there,fun b xs e=>?_,fun b o u e=>?_,fun b ps e=>?_⟩,I.loc,I.cell,?_,fun x c e=>?_,fun p q=>?_,fun b o e=>?_,I.len⟩
  . rw [fM (ho b o e hx)];exact I.base.free b o e n hx
  . have z:=I.base.tups b xs e;rw [fM (ne b _ z)];exact z
  . have z:=I.base.frzs b o u e;rw [fM (ne b _ z)];exact z
  . obtain ⟨more,z⟩:=I.base.tbls b ps e;exact ⟨more,by rw [fM (ne b _ z)];exact z⟩
  . rw [fM hL.symm];exact I.free
  . rw [fM (hC x c e)];exact I.freeC x c e
  . obtain ⟨q1,q2,q3⟩:=I.pin p q
    exact ⟨q1,by rw [fM (hp p q)];exact q2,q3⟩
  . by_cases hb:b=a
    . subst hb;rw [fX] at e;cases e;exact new
    . rw [fM hb] at e
      exact (I.hok b o e).stay (fun _ _ _ z=>z) (fun c z=>by rw [fM (ne c _ z)];exact z) fun c xs z=>by rw [fM (ne c _ z)];exact z
theorem Inv.gone {pins:List (Addr × Obj)}{σ:St}{H:Hp}{s:Shared}{i:Nat}{n:Str}{h':Heap}{t':Nat}{m:Str->Option Value}{v:Option Value} (I:Inv X pins σ H s) (hN:X.N.Nodup) (hi:X.N[i]?=some n)
    (hm:∀ (j:Nat) (x:Str) (v:V),X.N[j]?=some x->σ[j]?=some (some v)->Vis X.env.scope x->∃ u,RelV v u /\ Look X.env s.heap m x u)
    (hn:h'.Ns X.env.locals (fun x=>if x=n then v else m x)) (sb:Heap.SameBut X.env.locals s.heap h'):Inv X pins (σ.set i none) H { s with heap:=h',toks:=t' }:=by
  have kp:∀ b o,b ≠ X.env.locals->s.heap.get? b=some o->h'.get? b=some o:=fun b o hb e=>sb.extBut b o hb e
  have old:∀ b o,X.s₀.heap.get? b=some o->b ≠ X.env.locals:=fun b o e=>Nat.ne_of_lt (Nat.lt_of_lt_of_le (Heap.lt_size e) I.ok.above)
  refine ⟨I.ok,I.os,I.bare,⟨fun b o e n hb hx=>kp b o (old b o e) (I.base.keep b o e n hb hx),fun b o e n hb hx=>?_,I.base.free,fun b o e hx=>?_,I.base.tups,I.base.frzs,I.base.tbls⟩,⟨_,hn,fun j x w e1 e2 e3=>?_⟩,fun x c e=>?_,I.free,I.freeC,fun p q=>?_,fun b o e=>?_,by rw [List.length_set];exact I.len⟩
  . obtain ⟨sl,q⟩:=I.base.slot b o e n hb hx
    exact ⟨sl,kp b _ (old b o e) q⟩
  . obtain ⟨o',q⟩:=I.base.there b o e hx
    exact ⟨o',kp b _ (old b o e) q⟩
  . by_cases hj:j=i
    . subst hj
      by_cases hl:j < σ.length
      . rw [List.getElem?_set_self hl] at e2;cases e2
      . rw [List.getElem?_eq_none (by rw [List.length_set];omega)] at e2;cases e2
    . rw [List.getElem?_set_ne (Ne.symm hj)] at e2
      obtain ⟨u,r,l⟩:=hm j x w e1 e2 e3
      refine ⟨u,r,?_⟩
      rcases l with ⟨k,e⟩ | ⟨k,c,e,z⟩
      . refine .inl ⟨k,?_⟩
        have:x ≠ n:=fun q=>hj (Bw hN e1 (q ▸ hi))
        show (if x=n then v else m x)=some u
        rw [if_neg this];exact e
      . obtain ⟨o,eo,d⟩:=z
        exact .inr ⟨k,c,e,o,kp c o (I.cne x c e) eo,d⟩
  . obtain ⟨w,o,eo,d⟩:=I.cell x c e
    exact ⟨w,o,kp c o (I.cne x c e) eo,d⟩
  . obtain ⟨q1,q2,q3,q4⟩:=I.pin p q
    exact ⟨kp _ _ q3 q1,q2,q3,q4⟩
  . refine (I.hok b o e).stay (fun c w hc q=>kp c w (fun z=>?_) q) (fun _ q=>q) fun _ _ q=>q
    rcases hc with z1 | z1
    . rw [<-z1,z,I.free] at e;cases e
    . rw [z,I.free] at z1;cases z1
noncomputable def goneD (i:Nat) (D:Ends):Ends:={ nx:=fun σ H=>D.nx (σ.set i none) H,rt:=D.rt,bk:=fun σ H=>D.bk (σ.set i none) H,ct:=fun σ H=>D.ct (σ.set i none) H }
noncomputable def tTry (K:Frag) (len:Nat) (Ra:Addr) (i:Nat) (E:XK) (tb ts:TS):TS:=fun D σ H=>tb D σ H /\ ∀ (σ':St) (ea C:Addr) (H':Hp),σ'.length=len->E (.ref C) none H'->H' ea=none ->
  kitCls K (.ref C) (.ref Ra)=some true /\ ts (goneD i D) (σ'.set i (some (.ref ea))) (upd H' ea (.ext (Ex1 ea C)))
theorem NS {body suite:List Stmt}{b₀:Stmt}{R n:Str}{Ra L:Addr}{i:Nat}{E:XK}{tb ts:TS}{rp hpos pos:Pos} (hst:X.stack=X.env :: X.outer) (hfr:X.env.frame=some L) (hfl:L=X.env.locals)
    (hg:Gl X R) (hm:X.mg R=some (.ref Ra)) (hRb:mroIn X.K Ra (.type "BaseException")=some true) (hN:X.N.Nodup) (hi:X.N[i]?=some n) (hn:X.env.kindOf n=some .local)
    (hb:∀ pn,PSs (X.tri pn E) body tb) (hsu:∀ pn ea,PSs (X.hand pn ea) (b₀ :: suite) ts) (hd:(R == ("__debug__":Str))=false:=by decide) :
    PS X (.Try body [.ExceptHandler (some (.Name R rp)) (some n) (b₀ :: suite) hpos] [] [] pos) (tTry X.K X.N.length Ra i E tb ts):=by
  intro pins s σ H D I ⟨h1,h2⟩
  have I0:Inv (X.tri (X.pn ++ pins) E) [] σ H s:=I.turn (fun p z=>by simpa using z) I.ok.frames I.ok.hd
  have back:∀ {Y:Cx} (s':Shared) (σ':St) (H':Hp),Y=X.tri (X.pn ++ pins) E->Inv Y [] σ' H' s'->Inv X pins σ' H' s':=fun {Y} s' σ' H' e J=>by
    subst e
    exact J.turn (fun p z=>by simpa using z) I.ok.frames I.ok.hd
  refine wpAny_Try_except (wpAny_mono (hb _ [] s σ H D I0 h1) (fun f s1 q=>?_) fun e s1 q=>?_)
  . have q':SP X pins D f s1:=q.turn fun σ' H' J=>back s1 σ' H' rfl J
    cases f with
    | next=>exact wpAny_execs_nil q'
    | brk=>exact q'
    | cont=>exact q'
    | ret u=>exact q'
  . obtain ⟨σ1,H1,ea,C,a0,B,he,I1,ex,tr,hpn,old,hE⟩:=q
    subst he
    have ex':ExIn B (X.env :: X.outer) ea (.ref C) a0 s1.heap:=by rw [<-hst];exact ex
    have hfr1:X.A.frames=some (X.env :: X.outer):=by rw [<-hst];exact I.ok.frames
    have nofail:∀ {α:Type}{t:Sem α}{A1:Around}{Q1:α->Shared->Prop}{E1:Value->Shared->Prop}{ss:Shared},wpAny (model X.prog X.w) A1 t Q1 (fun _ _=>False) ss->wpAny (model X.prog X.w) A1 t Q1 E1 ss:=fun hw=>wpAny_mono hw (fun _ _ q=>q) fun _ _ z=>False.elim z
    refine Mv hfr1 hfr ex' fun h4 hh u4=>?_
    refine wpAny_landsW hh fun h5 fl5 u5=>?_
    have I5:Inv { X with pn:=X.pn ++ pins } [] σ1 H1 { s1 with heap:=h5 }:=Gz I1 (u4.trans u5) ex.stays fl5.1 tr hpn old
    have I5h:Inv (X.hand (X.pn ++ pins) ea) [] σ1 H1 { s1 with heap:=h5 }:=I5.turn (fun p z=>z) I.ok.frames (fun z=>nomatch z)
    have hea:H1 ea=none:=by
      cases z:H1 ea with
      | none=>rfl
      | some u =>
        obtain ⟨o,eo,_⟩:=ex.elim (fun y=>y.there) (fun y=>⟨_,y.2.2.2,rfl⟩)
        have:=tr ea u o z eo
        rw [ex.notIn] at this;cases this
    obtain ⟨hk,hts⟩:=h2 σ1 ea C H1 I1.len hE hea
    refine wpAny_handleBy_cons (codeAny_handlers_test (nofail ?_)) (by intro z;cases z)
    refine Bk (X:=X.hand (X.pn ++ pins) ea) I5h hg hm ?_ hd
    obtain ⟨o5,eo5,ho5⟩:=fl5.there
    refine Jj I5h.kIn ⟨o5,eo5,ho5⟩ hk hRb ?_
    refine codeAny_handlers_suite_as (lands_againW fl5 fun h6 fl6 u6=>?_)
    have u:s1.heap.UpToSlots h6:=(u4.trans u5).trans u6
    have I6:Inv { X with pn:=X.pn ++ pins } [] σ1 H1 { s1 with heap:=h6 }:=Gz I1 u ex.stays fl6.1 tr hpn old
    have I6h:Inv (X.hand (X.pn ++ pins) ea) [] σ1 H1 { s1 with heap:=h6 }:=I6.turn (fun p z=>z) I.ok.frames (fun z=>nomatch z)
    obtain ⟨oe,vs,eoe,hoc,hod,_⟩:=fl6.first
    have I7:Inv (X.hand (X.pn ++ pins) ea) [] σ1 (upd H1 ea (.ext (Ex1 ea C))) { s1 with heap:=h6 }:=by
      refine I6h.watch hea (fun z=>?_) (fun x c e z=>?_) (fun p q z=>?_) (fun b o e hx z=>?_) ⟨⟨oe,eoe,hoc⟩,⟨oe,eoe⟩,fun g1 g2 ⟨o,e1,e2⟩ k=>⟨o,k o e1,e2⟩⟩
      . obtain ⟨m,⟨o,es,ep,e1,e2,_⟩,_⟩:=I6h.loc
        have e1':h6.get? ea=some o:=by rw [z];exact e1
        rw [eoe] at e1';cases e1'
        rw [hod] at e2;cases e2
      . obtain ⟨v,o,e1,e2⟩:=I6h.cell x c e
        have e1':h6.get? ea=some o:=by rw [<-z];exact e1
        rw [eoe] at e1';cases e1'
        rw [hod] at e2;cases e2
      . have q':p ∈ X.pn ++ pins:=by simpa using q
        have:=hpn p q'
        rw [z,ex.notIn] at this;cases this
      . subst z
        by_cases hf:b ∈ X.fs
        . obtain ⟨sl,q1⟩:=(FN I1 u ex.stays fl6.1 old).slot b o e (I.ok.frf b hf) hf hx
          obtain ⟨_,o2,q2,d⟩:=I.ok.funs.mem hf
          rw [e] at q2;cases q2
          rw [eoe] at q1
          have q3:oe.data=o.data:=by cases q1;rfl
          exact d vs (by rw [<-q3];exact hod)
        . obtain ⟨o',q1⟩:=old b o e hf hx
          rw [ex.notIn] at q1;cases q1
    refine nofail (oO (X:=X.hand (X.pn ++ pins) ea) I7 hN hi (.inl hn) (v:=.ref ea) (u:=.ref ea) rfl (fun s8 I8=>?_) (.inr hn))
    refine nofail (thn (hsu _ ea [] s8 _ _ (goneD i D) I8 hts) fun f s9 q9=>?_)
    have hcl:(X.env.scope.kind == .class || (X.env.scope.kind == .module && X.env.locals != X.env.globals))=false:=by rw [I.ok.kind];rfl
    have fin:∀ (σ9:St) (H9:Hp) (Z:Flow->Shared->Prop),Inv (X.hand (X.pn ++ pins) ea) [] σ9 H9 s9->(∀ sA,Inv X pins (σ9.set i none) H9 sA->Z f sA) ->
        wpAny (model X.prog X.w) X.A (do bindName X.env n .none;unbindBehindTheSuite X.env n hpos) (fun _ sA=>Z f sA) X.xe s9:=fun σ9 H9 Z I9 k=>by
      have I9':Inv X pins σ9 H9 s9:=I9.turn (fun p z=>by simpa using z) I.ok.frames I.ok.hd
      obtain ⟨m,hm9,hl9⟩:=I9'.loc
      exact wpAny_nameGoes_keeps hn hm9 hcl fun h' v hn' sb=>k _ (I9'.gone hN hi hl9 hn' sb)
    show wpAny (model X.prog X.w) X.A (do bindName X.env n .none;unbindBehindTheSuite X.env n hpos) (fun _ sA=>SP X pins D f sA) X.xe s9
    cases f with
    | next=>obtain ⟨σ9,H9,I9,q⟩:=q9;exact fin σ9 H9 (SP X pins D) I9 fun sA IA=>⟨_,_,IA,q⟩
    | brk=>obtain ⟨σ9,H9,I9,q⟩:=q9;exact fin σ9 H9 (SP X pins D) I9 fun sA IA=>⟨_,_,IA,q⟩
    | cont=>obtain ⟨σ9,H9,I9,q⟩:=q9;exact fin σ9 H9 (SP X pins D) I9 fun sA IA=>⟨_,_,IA,q⟩
    | ret u=>obtain ⟨v,σ9,H9,I9,r,q⟩:=q9;exact fin σ9 H9 (SP X pins D) I9 fun sA IA=>⟨v,_,_,IA,r,q⟩
end
end L2
set_option Elab.async false
set_option linter.all false
set_option maxRecDepth 100000
set_option maxHeartbeats 4000000
namespace L2
open PySem PySem.Spec PyProof.Rows PySem.W
structure RoomH (k:Nat) (A:Around):Prop where
  dp:A.depth + 3 * k + 5 < recursionLimit
  un:A.units + 16 * k + 200 < cLine
theorem Room.h {k:Nat}{A:Around} (r:Room k A):RoomH k A:=⟨r.dp,r.un⟩
theorem RoomH.mark {k:Nat}{A:Around}{e:Option Value} (r:RoomH k A):RoomH k (A.mark e):=⟨r.dp,r.un⟩
theorem RoomH.deeper {k:Nat}{A:Around} (r:RoomH (k + 1) A) (env:Env):RoomH k (A.deeper env) :=
  ⟨by have:=r.dp;show A.depth + 1 + 3 * k + 5 < _;omega,by have:=r.un;show A.units + 3 + 16 * k + 200 < _;omega⟩
theorem RoomH.depth {k:Nat}{A:Around} (r:RoomH k A):A.depth < recursionLimit:=by have:=r.dp;omega
structure FnOkH (P:Program) (w:World) (K:PySem.W.Frag) (mg:Str->Option Value) (base:Heap) (CX:CXT) (k:Nat) (f:Addr) (fd:FuncData) (ps:List Str) (sp:Sp):Prop where
  len:∀ vs H Q E,sp vs H Q E->vs.length=ps.length
  run:∀ (A:Around) (outer:List Env) (s:Shared) (H:Hp) (args:Args) (us:List Value) (vs:List V) (Q:VK) (E:XK),RoomH k A->Env0 P w K mg base A outer s H->BindsTo s fd args (ps.zip us)->Vals vs us->sp vs H Q E ->
    codeAny (model P w) A (.call (.ref f) args) (CR CX outer P w H s Q E) s
noncomputable abbrev cxH (CX:CXT) (P:Program) (w:World) (K:PySem.W.Frag) (mg:Str->Option Value) (base:Heap) (N:List Str) (qual:Str) (scope:Scope) (f:Addr) (cd:Value) (A:Around) (outer:List Env) (s:Shared) (H:Hp) (E:XK):Cx :=
  { cxOf CX P w K mg base N qual scope f cd A outer s H E with calm:=false }
theorem NT {CX:CXT}{P:Program}{w:World}{K:PySem.W.Frag}{mg:Str->Option Value}{base:Heap}{k:Nat}{f:Addr}{name qual:Str}{params:Arguments}{body:List Stmt}{scope:Scope}{dV kV doc pm cdv ct oc:Value}{an od:Option Addr}
    {osl:Array (Option Value)}{N ps:List Str}{sp:Sp} (lk:K.lookup f=some ⟨oc,od,.func (PySem.W.fnOf name qual params body scope dV kV doc pm an cdv ct),osl⟩) (hcd:PySem.W.codeIn K cdv qual=true) (S:FnScope N ps scope)
    (len:∀ vs H Q E,sp vs H Q E->vs.length=ps.length)
    (hbody:∀ (A:Around) (outer:List Env) (s:Shared) (H:Hp) (vs:List V) (Q:VK) (E:XK),RoomH k (A.deeper (envOfC qual scope s.heap.objs.size f cdv))->sp vs H Q E ->
      ∃ t,PSs (cxH CX P w K mg base N qual scope f cdv A outer s H E) body t /\ t { nx:=fun _ H'=>Q .non H',rt:=Q } (start N vs) H) :
    FnOkH P w K mg base CX (k + 1) f (PySem.W.fnOf name qual params body scope dV kV doc pm an cdv ct) ps sp:=by
  refine ⟨len,fun A outer s H args us vs Q E hr e0 hb r hsp=>?_⟩
  have hl:=len _ _ _ _ hsp
  have KX:K.In s.heap:=e0.mod.kin.keeps fun b o e=>(e0.bs b o e).1
  have lim:s.heap.NoLimit:=e0.mod.nolimit.keeps fun b o e=>(e0.bs b o e).1
  have hkind:∀ y ∈ ps.zip us,scope.names.lookup y.1=some .local \/ (scope.names.lookup y.1=some .cell /\ ((cellsFrom (s.heap.objs.size + 1) scope.names []).lookup y.1).isSome=true):=fun ⟨n,v⟩ hy=>by
    rcases S.par n (List.of_mem_zip hy).1 with q | q
    . exact .inl q
    . exact .inr ⟨q,PySem.W.cellsFrom_some _ _ _ (.inl q)⟩
  refine codeAny_call_function hr.depth (KX _ _ lk) rfl S.co S.gen rfl (PySem.W.codeRec_of KX hcd) (hb _ _ _ _ ?_)
  refine wpAny_newFunctionEnv_cells S.kind hkind fun env he s1 x=>?_
  subst he
  refine ⟨lim.keeps x.toInCall.keep,codeAny_func ?_⟩
  obtain ⟨t,ht,hq⟩:=hbody A outer s H vs Q E (hr.deeper _) hsp
  have e1:Env0 P w K mg base { A with handled:=none } outer s H:=⟨e0.frames,e0.mod,e0.bs,e0.bsz,e0.funs,e0.frf,e0.hok,e0.bare⟩
  have I0:Inv (cxOf CX P w K mg base N qual scope f cdv { A with handled:=none } outer s H E) [] (start N vs) H s1:=Cr S rfl e1 hl r x
  have I:Inv (cxH CX P w K mg base N qual scope f cdv A outer s H E) [] (start N vs) H s1:=I0.turn (fun p z=>z) (Around.frames_deeper e0.frames) (fun z=>nomatch z)
  refine wpAny_mono (ht [] s1 (start N vs) H _ I hq) (fun fl s' hs=>?_) fun e s' hs=>hs
  have fin:∀ {σ':St}{H':Hp}{v:V}{u:Value},Inv (cxH CX P w K mg base N qual scope f cdv A outer s H E) [] σ' H' s'->RelV v u->Q v H'->CE outer P w H s Q u s' :=
    fun {σ' H' v u} J rv q=>⟨v,H',J.os,J.bare,J.base,J.hok,rv,q⟩
  cases fl with
  | ret u =>
    obtain ⟨v,σ',H',J,rv,q⟩:=hs
    exact fin J rv q
  | next =>
    obtain ⟨σ',H',J,q⟩:=hs
    exact fin (v:=V.non) (u:=Value.none) J rfl q
  | brk =>
    obtain ⟨_,_,_,q⟩:=hs
    exact False.elim q
  | cont =>
    obtain ⟨_,_,_,q⟩:=hs
    exact False.elim q
theorem Fun.okH {P:Program}{w:World}{K:PySem.W.Frag}{mg:Str->Option Value}{base:Heap}{x qual:Str}{st:Stmt}{f:Addr}{fd:FuncData}{N ps:List Str}{k:Nat}{sp:Sp} (F:Fun K x qual st f fd) (S:FnScope N ps (fq st)) (len:∀ vs H Q E,sp vs H Q E->vs.length=ps.length)
    (hbody:∀ (cdv:Value) (A:Around) (outer:List Env) (s:Shared) (H:Hp) (vs:List V) (Q:VK) (E:XK),RoomH k (A.deeper (envOfC qual (fq st) s.heap.objs.size f cdv))->sp vs H Q E ->
      ∃ t,PSs (cxH CX0 P w K mg base N qual (fq st) f cdv A outer s H E).nox (fH st) t /\ t { nx:=fun _ H'=>Q .non H',rt:=Q } (start N vs) H):FnOkH P w K mg base CX0 (k + 1) f fd ps sp:=by
  obtain ⟨oc,od,kV,doc,pm,an,cdv,ct,osl,rfl,lk,hcd⟩:=F.ex
  refine NT lk hcd S len fun A outer s H vs Q E hr hsp=>?_
  obtain ⟨t,h,q⟩:=hbody cdv A outer s H vs Q E hr hsp
  exact ⟨t,h.nox,q⟩
theorem Fun.okX {P:Program}{w:World}{K:PySem.W.Frag}{mg:Str->Option Value}{base:Heap}{x qual:Str}{st:Stmt}{f:Addr}{fd:FuncData}{N ps:List Str}{k:Nat}{sp:Sp} (F:Fun K x qual st f fd) (S:FnScope N ps (fq st)) (len:∀ vs H Q E,sp vs H Q E->vs.length=ps.length)
    (hbody:∀ (cdv:Value) (A:Around) (outer:List Env) (s:Shared) (H:Hp) (vs:List V) (Q:VK) (E:XK),Room k (A.deeper (envOfC qual (fq st) s.heap.objs.size f cdv))->sp vs H Q E ->
      ∃ t,PSs (cxOf (CXr P w) P w K mg base N qual (fq st) f cdv A outer s H E) (fH st) t /\ t { nx:=fun _ H'=>Q .non H',rt:=Q } (start N vs) H):FnOk P w K mg base (CXr P w) (k + 1) f fd ps sp:=by
  obtain ⟨oc,od,kV,doc,pm,an,cdv,ct,osl,rfl,lk,hcd⟩:=F.ex
  exact Nd lk hcd S len fun A outer s H vs Q E hr hsp=>hbody cdv A outer s H vs Q E hr hsp
section
variable {X : Cx} {CX : CXT} {k : Nat} {f C : Addr} {fd : FuncData} {ps : List Str} {sp : Sp} {dvs : List V} {ds : List Value} {E : XK} {x m : Str} {p pos apos : Pos} {e o : Expr} {es : List Expr} {ta : TE} {t : TA}
theorem Le (F:FnOkH X.prog X.w X.K X.mg X.base CX k f fd ps sp) (hr:RoomH k X.A) (hg:Gl X x) (hm:X.mg x=some (.ref f)) (hk:PySem.W.keepIn X.K (.ref f)=true) (hb:Binds X.K fd ps ds) (hd:Vals dvs ds) (hx:Passes CX X E)
    (ha:PA X (e :: es) t) (hdb:(x == ("__debug__":Str))=false:=by decide) (he:starEach (e :: es) X.env=(false,eval e X.env) :: starEach es X.env:=by rfl) (hpl:(backTo pos (starEach es X.env)).any (·.1)=false:=by rfl) :
    PE X (.Call (.Name x p) (e :: es) [] pos) (tCall sp dvs E t):=by
  intro pins s σ H Q I h
  refine wpAny_Call_Name_kw (Bk I hg hm ?_ hdb)
  refine PySem.W.callWith_K (h₀:=X.base) I.ok.mod.kin hk (thn (ha pos pins s σ H _ I h) fun us s1 ⟨vs,H1,I1,r,q⟩=>⟨I1.kIn,?_⟩) he hpl
  have r2:Vals (vs ++ dvs) (us ++ ds):=r.append hd
  have hl:(us ++ ds).length=ps.length:=by rw [<-r2.length];exact F.len _ _ _ _ q
  refine wpAny_call (codeAny_mono (F.run X.A X.stack s1 H1 ⟨us,[]⟩ (us ++ ds) (vs ++ dvs) Q E hr I1.env0 (hb s1 us I1.kIn hl) r2 q) fun r s' hq=>?_)
  cases r with
  | error e=>exact hx pins σ H1 s1 e s' I1 hq
  | ok fl =>
    cases fl with
    | ret u=>exact I1.after hq
    | next=>exact False.elim hq
    | brk=>exact False.elim hq
    | cont=>exact False.elim hq
inductive TyX (K:Frag) (H:Hp):V->Value->Prop where
  | of {x:V}{t:Value} (h:TyOf K H x t):TyX K H x t
  | exc {a C:Addr} (e:H a=some (.ext (Ex1 a C))) (T:ExcK K C):TyX K H (.ref a) (.ref C)
noncomputable def ClsV:V->Value->Prop
  | .ref a,c=>c=.ref a
  | .ty n,c=>c=.type n
  | _,_=>False
noncomputable def rInst (K:Frag):List V->Hp->VK->Prop:=fun vs H Q=>∃ x c t cv b,vs=[x,c] /\ TyX K H x t /\ ClsV c cv /\ kitOne K t cv=some b /\ Q (.bl b) H
theorem gn:CallR X (.builtin "isinstance") (rInst X.K):=by
  intro pins s σ H xs us Q I rv h
  obtain ⟨x,c,t,cv,b,rfl,ty,hc,e,q⟩:=h
  cases rv with
  | cons r1 r2 =>
    cases r2 with
    | cons r3 r4 =>
      cases r4
      rename_i u1 u2
      have ec:u2=cv:=by
        cases c with
        | ref a=>exact (show u2=.ref a from r3).trans (show cv=.ref a from hc).symm
        | ty n=>exact (show u2=.type n from r3).trans (show cv=.type n from hc).symm
        | non=>exact hc.elim
        | bl _=>exact hc.elim
        | int _=>exact hc.elim
        | str _=>exact hc.elim
        | byt _=>exact hc.elim
        | flt _=>exact hc.elim
      subst ec
      cases ty with
      | of ty=>exact Jf I r1 ty e fun tk=>⟨.bl b,H,I.tok tk,rfl,q⟩
      | @exc a C ea T =>
        cases (show u1=Value.ref a from r1)
        obtain ⟨p,_,_⟩:=(show ObjOk X.prog X.w H s.heap a (.ext (Ex1 a C)) from I.hok a _ ea)
        exact PySem.W.kia_one (Lb T) I.kIn p e (fun z=>nomatch z) fun tk=>⟨.bl b,H,I.tok tk,rfl,q⟩
end
end L2
set_option Elab.async false
set_option linter.all false
set_option maxRecDepth 100000
set_option maxHeartbeats 4000000
namespace L2
open PySem PySem.Spec PyProof.Rows PySem.W
section
variable {X : Cx}
noncomputable def rCount:V->List V->Hp->VK->Prop:=fun x vs H Q=>∃ l xs y,x=.ref l /\ vs=[y] /\ H l=some (.lst xs) /\ xs.all flatV=true /\ flatV y=true /\ Q (.int (xs.countP fun z=>eqV z y:Nat)) H
theorem BB {A:Around}{s:Shared}{y:V}{u:Value} (ry:RelV y u) (fy:flatV y=true) (f:Value->Bool):∀ {xs:List V}{us:List Value},Vals xs us->xs.all flatV=true ->
    (∀ z w,z ∈ xs->w ∈ us->RelV z w->f w=eqV z y)->∀ w ∈ us,SeqAt.EqAt A s w u (f w)
  | _,_,.nil,_,_,_,h=>nomatch h
  | z :: zs,w :: ws,.cons r t,ha,hf,v,hv=>by
    rw [List.all_cons,Bool.and_eq_true] at ha
    rcases List.mem_cons.mp hv with e | e
    . subst e
      rw [hf z v List.mem_cons_self List.mem_cons_self r]
      exact NL r ry ha.1 fy
    . exact BB ry fy f t ha.2 (fun a b h1 h2=>hf a b (List.mem_cons_of_mem _ h1) (List.mem_cons_of_mem _ h2)) v e
noncomputable def eqW (y:V) (w:Value):Bool:=match w with
  | .none=>eqV .non y
  | .bool b=>eqV (.bl b) y
  | .int i _=>eqV (.int i) y
  | .str x _=>eqV (.str x) y
  | _=>false
theorem CU {z y:V}{w:Value} (r:RelV z w) (f:flatV z=true):eqW y w=eqV z y:=by
  cases z with
  | non=>cases (show w=Value.none from r);rfl
  | bl b=>cases (show w=Value.bool b from r);rfl
  | int i=>obtain ⟨t,rfl⟩:=(show ∃ t,w=Value.int i t from r);rfl
  | str x=>obtain ⟨t,rfl⟩:=(show ∃ t,w=Value.str x t from r);rfl
  | byt b=>exact nomatch f
  | flt b=>exact nomatch f
  | ref a=>exact nomatch f
  | ty n=>exact nomatch f
theorem DK {y:V}:∀ {xs:List V}{us:List Value},Vals xs us->xs.all flatV=true->us.countP (eqW y)=xs.countP fun z=>eqV z y
  | _,_,.nil,_=>rfl
  | z :: zs,w :: ws,.cons r t,ha=>by
    rw [List.all_cons,Bool.and_eq_true] at ha
    rw [List.countP_cons,List.countP_cons,DK t ha.2,CU r ha.1]
theorem NU {y:V}:∀ {xs:List V}{us:List Value}{j:Nat} (h:j < us.length),Vals xs us->xs.all flatV=true->∃ z,xs[j]?=some z /\ eqW y us[j]=eqV z y
  | _,_,_,h,.nil,_=>absurd h (by simp)
  | z :: zs,w :: ws,0,_,.cons r t,ha=>by
    rw [List.all_cons,Bool.and_eq_true] at ha
    exact ⟨z,rfl,CU r ha.1⟩
  | z :: zs,w :: ws,j + 1,h,.cons r t,ha=>by
    rw [List.all_cons,Bool.and_eq_true] at ha
    obtain ⟨v,e1,e2⟩:=NU (y:=y) (j:=j) (by simpa using h) t ha.2
    exact ⟨v,by simpa using e1,by simpa using e2⟩
theorem Lf:MtM X "list.count" rCount:=by
  intro pins s σ H x vs v us Q I rx rv h
  obtain ⟨l,xs,y,rfl,rfl,hH,ha,hy,q⟩:=h
  cases rx
  obtain ⟨u,rfl,ru⟩:=rv.one
  obtain ⟨z,its,n,r,hl,e⟩:=I.lstM hH
  refine call_meets F.slot_list_count ⟨_,e,rfl⟩ F.entry_list_count (F.args_list_count_2 _ _) (SeqAt.list_countAt l its.toArray n none #[] u (eqW y)) ⟨e,?_,?_⟩
  . intro w hw
    refine BB ru hy (eqW y) r ha (fun z w h1 h2 rz=>CU rz (List.all_eq_true.mp ha z h1)) w (by simpa using hw)
  . refine ⟨.int _,H,I.tok _,⟨_,rfl⟩,?_⟩
    rw [show its.toArray.toList=its from rfl,DK r ha]
    exact q
noncomputable def rIndex:V->List V->Hp->VK->Prop:=fun x vs H Q=>∃ l xs y j,x=.ref l /\ vs=[y] /\ H l=some (.lst xs) /\ xs.all flatV=true /\ flatV y=true /\ j < xs.length /\
  (∀ z,xs[j]?=some z->eqV z y=true) /\ (∀ (m:Nat) z,m < j->xs[m]?=some z->eqV z y=false) /\ Q (.int (j:Nat)) H
theorem Lg:MtM X "list.index" rIndex:=by
  intro pins s σ H x vs v us Q I rx rv h
  obtain ⟨l,xs,y,j,rfl,rfl,hH,ha,hy,hj,hit,hno,q⟩:=h
  cases rx
  obtain ⟨u,rfl,ru⟩:=rv.one
  obtain ⟨z,its,n,r,hl,e⟩:=I.lstM hH
  have hj':j < its.length:=by omega
  have small:(j:Int) < 2 ^ 63 - 1:=by have:=line63;omega
  refine call_meets F.slot_list_index ⟨_,e,rfl⟩ F.entry_list_index (F.args_list_index_2 _ _) (SeqAt.list_indexAt l its.toArray n none #[] u (eqW y) j (by simpa using hj') small ?_ ?_) ⟨e,?_,?_⟩
  . obtain ⟨v,e1,e2⟩:=NU (y:=y) hj' r ha
    rw [show (its.toArray[j]'(by simpa using hj'))=its[j] from rfl,e2]
    exact hit v e1
  . intro m hm hmj
    have hm':m < its.length:=by simpa using hm
    obtain ⟨v,e1,e2⟩:=NU (y:=y) hm' r ha
    rw [show (its.toArray[m]'hm)=its[m] from rfl,e2]
    exact hno m v hmj e1
  . intro w hw
    exact BB ru hy (eqW y) r ha (fun z w h1 h2 rz=>CU rz (List.all_eq_true.mp ha z h1)) w (by simpa using hw)
  . exact ⟨.int (j:Nat),H,I.tok _,⟨_,rfl⟩,q⟩
end
end L2
set_option Elab.async false
set_option linter.all false
set_option maxRecDepth 100000
set_option maxHeartbeats 4000000
namespace L2
open PySem PySem.Spec PyProof.Rows PySem.W
section
variable {X : Cx}
noncomputable def txtOf:Expr->Option Str
  | .Constant (.str x) _ _=>some x
  | _=>none
noncomputable def tStrs (xs:List Str):TA:=fun _ H Q=>Q (xs.map V.str) H
theorem CV:∀ {es:List Expr}{xs:List Str},es.map txtOf=xs.map some->PA X es (tStrs xs)
  | [],[],_=>gu
  | [],_ :: _,h=>by simp at h
  | _ :: _,[],h=>by simp at h
  | e :: es,x :: xs,h=>by
    rw [List.map_cons,List.map_cons,List.cons.injEq] at h
    have ih:=CV h.2
    cases e with
    | Constant k j pos =>
      cases k with
      | str y =>
        have e1:y=x:=Option.some.inj h.1
        subst e1
        exact fE FD ih
      | _=>exact nomatch h.1
    | _=>exact nomatch h.1
end
end L2
set_option Elab.async false
set_option linter.all false
set_option maxRecDepth 100000
set_option maxHeartbeats 4000000
namespace L2.DL
open PySem PySem.Spec PyProof.Rows
inductive D where
  | non | bl (b:Bool) | int (i:Int) | str (x:Str) | tup (l:List D) | lst (l:List D) | dic (l:List (Key × D))
inductive W where
  | d (x:D) | b (n:Nat) | s (l:List Int) | x (i:Nat)
inductive Bx where
  | lst (l:List D) | dic (l:List (Key × D)) | dead
mutual
noncomputable def Den (F:Hp):D->V->Prop
  | .non,v=>v=.non
  | .bl b,v=>v=.bl b
  | .int i,v=>v=.int i
  | .str x,v=>v=.str x
  | .tup l,v=>∃ a vs,v=.ref a /\ F a=some (.tup vs) /\ DenL F l vs
  | .lst l,v=>∃ a vs,v=.ref a /\ F a=some (.lst vs) /\ DenL F l vs
  | .dic l,v=>∃ a kvs,v=.ref a /\ F a=some (.dK kvs) /\ DenK F l kvs
noncomputable def DenL (F:Hp):List D->List V->Prop
  | [],vs=>vs=[]
  | d :: l,vs=>∃ v r,vs=v :: r /\ Den F d v /\ DenL F l r
noncomputable def DenK (F:Hp):List (Key × D)->List (Key × V)->Prop
  | [],r=>r=[]
  | (k,d) :: l,r=>∃ v r',r=(k,v) :: r' /\ Den F d v /\ DenK F l r'
end
noncomputable def Sub (F F':Hp):Prop:=∀ a u,F a=some u->F' a=some u
theorem Sub.refl (F:Hp):Sub F F:=fun _ _ h=>h
theorem Sub.trans {F G H:Hp} (a:Sub F G) (b:Sub G H):Sub F H:=fun x u h=>b x u (a x u h)
mutual
theorem Den.mono {F F':Hp} (s:Sub F F'):∀ (d:D) {v:V},Den F d v->Den F' d v
  | .non,_,h=>h
  | .bl _,_,h=>h
  | .int _,_,h=>h
  | .str _,_,h=>h
  | .tup l,_,h=>by
    obtain ⟨a,vs,e,h1,h2⟩:=h
    exact ⟨a,vs,e,s _ _ h1,DenL.mono s l h2⟩
  | .lst l,_,h=>by
    obtain ⟨a,vs,e,h1,h2⟩:=h
    exact ⟨a,vs,e,s _ _ h1,DenL.mono s l h2⟩
  | .dic l,_,h=>by
    obtain ⟨a,vs,e,h1,h2⟩:=h
    exact ⟨a,vs,e,s _ _ h1,DenK.mono s l h2⟩
theorem DenL.mono {F F':Hp} (s:Sub F F'):∀ (l:List D) {vs:List V},DenL F l vs->DenL F' l vs
  | [],_,h=>h
  | d :: l,_,h=>by
    obtain ⟨v,r,e,h1,h2⟩:=h
    exact ⟨v,r,e,Den.mono s d h1,DenL.mono s l h2⟩
theorem DenK.mono {F F':Hp} (s:Sub F F'):∀ (l:List (Key × D)) {vs:List (Key × V)},DenK F l vs->DenK F' l vs
  | [],_,h=>h
  | (k,d) :: l,_,h=>by
    obtain ⟨v,r,e,h1,h2⟩:=h
    exact ⟨v,r,e,Den.mono s d h1,DenK.mono s l h2⟩
end
theorem DenL.length {F:Hp}:∀ {l:List D}{vs:List V},DenL F l vs->l.length=vs.length
  | [],_,h=>by
    have e:_=[]:=h
    rw [e]
    rfl
  | d :: l,_,h=>by
    obtain ⟨v,r,e,_,h2⟩:=h
    rw [e,List.length_cons,List.length_cons,h2.length]
theorem DenL.get {F:Hp}:∀ {l:List D}{vs:List V}{i:Nat}{d:D},DenL F l vs->l[i]?=some d->∃ v,vs[i]?=some v /\ Den F d v
  | [],_,_,_,_,e=>by simp at e
  | x :: l,_,0,d,h,e=>by
    obtain ⟨v,r,q,h1,_⟩:=h
    simp at e
    subst e
    subst q
    exact ⟨v,rfl,h1⟩
  | x :: l,_,i + 1,d,h,e=>by
    obtain ⟨v,r,q,_,h2⟩:=h
    subst q
    obtain ⟨u,e1,e2⟩:=DenL.get (i:=i) h2 (by simpa using e)
    exact ⟨u,by simpa using e1,e2⟩
theorem DenL.nil {F:Hp}:DenL F [] []:=rfl
theorem DenL.cons {F:Hp}{d:D}{v:V}{l:List D}{vs:List V} (h:Den F d v) (t:DenL F l vs):DenL F (d :: l) (v :: vs):=⟨v,vs,rfl,h,t⟩
theorem DenL.append {F:Hp}:∀ {l l':List D}{vs vs':List V},DenL F l vs->DenL F l' vs'->DenL F (l ++ l') (vs ++ vs')
  | [],_,_,_,h,t=>by
    have e:_=[]:=h
    rw [e]
    exact t
  | d :: l,_,_,_,h,t=>by
    obtain ⟨v,r,q,h1,h2⟩:=h
    subst q
    exact .cons h1 (h2.append t)
theorem DenL.take {F:Hp}:∀ {l:List D}{vs:List V} (n:Nat),DenL F l vs->DenL F (l.take n) (vs.take n)
  | l,_,0,_=>by rw [List.take_zero,List.take_zero];rfl
  | [],_,n + 1,h=>by
    have e:_=[]:=h
    rw [e]
    exact rfl
  | d :: l,_,n + 1,h=>by
    obtain ⟨v,r,q,h1,h2⟩:=h
    subst q
    exact .cons h1 (h2.take n)
theorem DenL.drop {F:Hp}:∀ {l:List D}{vs:List V} (n:Nat),DenL F l vs->DenL F (l.drop n) (vs.drop n)
  | l,_,0,h=>h
  | [],_,n + 1,h=>by
    have e:_=[]:=h
    rw [e]
    exact rfl
  | d :: l,_,n + 1,h=>by
    obtain ⟨v,r,q,h1,h2⟩:=h
    subst q
    exact h2.drop n
theorem DenL.reverse {F:Hp}:∀ {l:List D}{vs:List V},DenL F l vs->DenL F l.reverse vs.reverse
  | [],_,h=>by
    have e:_=[]:=h
    rw [e]
    exact rfl
  | d :: l,_,h=>by
    obtain ⟨v,r,q,h1,h2⟩:=h
    subst q
    rw [List.reverse_cons,List.reverse_cons]
    exact h2.reverse.append (.cons h1 .nil)
theorem DenL.set {F:Hp}{d:D}{v:V} (hd:Den F d v):∀ {l:List D}{vs:List V} (i:Nat),DenL F l vs->DenL F (l.set i d) (vs.set i v)
  | [],_,_,h=>by
    have e:_=[]:=h
    rw [e]
    exact rfl
  | _ :: l,_,0,h=>by
    obtain ⟨v',r,q,h1,h2⟩:=h
    subst q
    exact .cons hd h2
  | _ :: l,_,i + 1,h=>by
    obtain ⟨v',r,q,h1,h2⟩:=h
    subst q
    exact .cons h1 (DenL.set hd i h2)
structure Fr where
  H₀:Hp
  n₀:Nat
  F₀:Hp
noncomputable def DenW (F:Hp) (rho:List Addr):W->V->Prop
  | .d x,v=>Den F x v
  | .b n,v=>∃ a,v=.ref a /\ rho[n]?=some a
  | .s l,v=>∃ a o,v=.ref a /\ F a=some (.frz o (.lst (l.map V.int)))
  | .x _,_=>False
theorem DenW.mono {F F':Hp}{r r':List Addr} (s:Sub F F') (p:r <+: r'):∀ (w:W) {v:V},DenW F r w v->DenW F' r' w v
  | .d x,_,h=>Den.mono s x h
  | .b n,_,h=>by
    obtain ⟨a,e,h⟩:=h
    refine ⟨a,e,?_⟩
    obtain ⟨t,rfl⟩:=p
    rw [List.getElem?_append_left (List.getElem?_eq_some_iff.mp h).1]
    exact h
  | .s l,_,h=>let ⟨a,o,e,h⟩:=h;⟨a,o,e,s _ _ h⟩
  | .x _,_,h=>h
noncomputable def BxOk (F H:Hp) (a:Addr):Bx->Prop
  | .lst l=>F a=none /\ ∃ vs,H a=some (.lst vs) /\ DenL F l vs
  | .dic l=>F a=none /\ ∃ kvs,H a=some (.dK kvs) /\ DenK F l kvs
  | .dead=>∃ u,H a=some u
noncomputable abbrev DEnv:=List (Option W)
structure Rel (T:Fr) (F:Hp) (r:List Addr) (σ:St) (H:Hp) (env:DEnv) (bx:List Bx):Prop where
  fh:Sub F H
  slot:∀ (i:Nat) (w:W),env[i]?=some (some w)->∃ v,σ[i]?=some (some v) /\ DenW F r w v
  len:r.length=bx.length
  nd:r.Nodup
  box:∀ (n:Nat) (c:Bx) (a:Addr),bx[n]?=some c->r[n]?=some a->BxOk F H a c
  keep:∀ a u,T.H₀ a=some u->a ∉ r->H a=some u
  new:∀ (n:Nat) (a:Addr),T.n₀ <= n->r[n]?=some a->T.H₀ a=none
  n0:T.n₀ <= r.length
  sl:env.length <= σ.length
  fs:∀ a u,F a=some u->T.F₀ a=some u \/ T.H₀ a=none \/ a ∈ r
structure Grow (F:Hp) (r:List Addr) (F':Hp) (r':List Addr):Prop where
  s:Sub F F'
  p:r <+: r'
theorem Grow.refl (F:Hp) (r:List Addr):Grow F r F r:=⟨Sub.refl F,List.prefix_refl r⟩
theorem Grow.trans {F F' F'':Hp}{r r' r'':List Addr} (a:Grow F r F' r') (b:Grow F' r' F'' r''):Grow F r F'' r'':=⟨a.s.trans b.s,a.p.trans b.p⟩
theorem Grow.den {F F':Hp}{r r':List Addr} (g:Grow F r F' r') {w:W}{v:V} (h:DenW F r w v):DenW F' r' w v:=h.mono g.s g.p w
inductive O (α:Type) where
  | val (a:α) (bx:List Bx) | exc (c:Nat) (bx:List Bx) | bad
noncomputable abbrev DE (α:Type):=DEnv->List Bx->O α
noncomputable def fO {α β:Type} (m:O α) (k:α->List Bx->O β):O β :=
  match m with
  | .val a bx=>k a bx
  | .exc c bx=>.exc c bx
  | .bad=>.bad
structure Xs where
  E:XK
  cl:Nat->Addr
noncomputable def End {α β:Type} (T:Fr) (Z:Xs) (Rl:Hp->List Addr->α->β->Prop) (F:Hp) (r:List Addr) (σ:St) (env:DEnv) (Q:β->Hp->Prop):O α->Prop
  | .val d bx'=>∀ F' r' v H',Grow F r F' r'->Rel T F' r' σ H' env bx'->Rl F' r' d v->Q v H'
  | .exc c bx'=>∀ F' r' H',Grow F r F' r'->Rel T F' r' [] H' [] bx'->Z.E (.ref (Z.cl c)) none H'
  | .bad=>False
theorem End.weak {α β:Type}{T:Fr}{Z:Xs}{Rl:Hp->List Addr->α->β->Prop}{F F':Hp}{r r':List Addr}{σ:St}{env:DEnv}{Q:β->Hp->Prop} (g:Grow F r F' r'):∀ {o:O α},End T Z Rl F r σ env Q o->End T Z Rl F' r' σ env Q o
  | .val _ _,h=>fun F2 r2 v H2 g2=>h F2 r2 v H2 (g.trans g2)
  | .exc _ _,h=>fun F2 r2 H2 g2=>h F2 r2 H2 (g.trans g2)
  | .bad,h=>h
theorem End.bind {α β α' β':Type}{T:Fr}{Z:Xs}{R1:Hp->List Addr->α->β->Prop}{R2:Hp->List Addr->α'->β'->Prop}{F:Hp}{r:List Addr}{σ:St}{env:DEnv}{Q:β'->Hp->Prop}{Q1:β->Hp->Prop}
    {m:O α}{k:α->List Bx->O α'} (h:End T Z R2 F r σ env Q (fO m k))
    (c:∀ d bx1 F1 r1 v H1,Grow F r F1 r1->Rel T F1 r1 σ H1 env bx1->R1 F1 r1 d v->End T Z R2 F1 r1 σ env Q (k d bx1)->Q1 v H1):End T Z R1 F r σ env Q1 m:=by
  cases m with
  | val d bx=>exact fun F' r' v H' g R q=>c d bx F' r' v H' g R q (End.weak g h)
  | exc n bx=>exact h
  | bad=>exact h
theorem Rel.drop {T:Fr}{F:Hp}{r:List Addr}{σ:St}{H:Hp}{env:DEnv}{bx:List Bx} (R:Rel T F r σ H env bx):Rel T F r [] H [] bx :=
  ⟨R.fh,fun i w e=>by simp at e,R.len,R.nd,R.box,R.keep,R.new,R.n0,Nat.le_refl _,R.fs⟩
noncomputable def tD (T:Fr) (Z:Xs) (m:DE W):TE:=fun σ H Q=>∃ F r env bx,Rel T F r σ H env bx /\ End T Z DenW F r σ env Q (m env bx)
noncomputable def PD (X:Cx) (T:Fr) (Z:Xs) (e:Expr) (m:DE W):Prop:=PE X e (tD T Z m)
noncomputable abbrev DenB:Hp->List Addr->Bool->Bool->Prop:=fun _ _ a b=>a=b
noncomputable def tDT (T:Fr) (Z:Xs) (m:DE Bool):TT:=fun σ H Q=>∃ F r env bx,Rel T F r σ H env bx /\ End T Z DenB F r σ env Q (m env bx)
noncomputable def PDT (X:Cx) (T:Fr) (Z:Xs) (e:Expr) (m:DE Bool):Prop:=PT X e (tDT T Z m)
noncomputable def DenWs (F:Hp) (r:List Addr):List W->List V->Prop
  | [],vs=>vs=[]
  | w :: l,vs=>∃ v t,vs=v :: t /\ DenW F r w v /\ DenWs F r l t
theorem DenWs.mono {F F':Hp}{r r':List Addr} (g:Grow F r F' r'):∀ {l:List W}{vs:List V},DenWs F r l vs->DenWs F' r' l vs
  | [],_,h=>h
  | w :: l,_,h=>by
    obtain ⟨v,t,e,h1,h2⟩:=h
    exact ⟨v,t,e,g.den h1,h2.mono g⟩
noncomputable def tDA (T:Fr) (Z:Xs) (m:DE (List W)):TA:=fun σ H Q=>∃ F r env bx,Rel T F r σ H env bx /\ End T Z DenWs F r σ env Q (m env bx)
noncomputable def PDA (X:Cx) (T:Fr) (Z:Xs) (es:List Expr) (m:DE (List W)):Prop:=PA X es (tDA T Z m)
theorem PE.imp {X:Cx}{e:Expr}{t t':TE} (h:PE X e t) (f:∀ σ H Q,t' σ H Q->t σ H Q):PE X e t':=fun pins s σ H Q I q=>h pins s σ H Q I (f σ H Q q)
theorem PT.imp {X:Cx}{e:Expr}{t t':TT} (h:PT X e t) (f:∀ σ H Q,t' σ H Q->t σ H Q):PT X e t':=fun pins s σ H Q I q=>h pins s σ H Q I (f σ H Q q)
theorem PW.imp {X:Cx}{e:Expr}{t t':TT} (h:PW X e t) (f:∀ σ H Q,t' σ H Q->t σ H Q):PW X e t':=fun whole pins s σ H Q I q=>h whole pins s σ H Q I (f σ H Q q)
theorem PA.imp {X:Cx}{e:List Expr}{t t':TA} (h:PA X e t) (f:∀ σ H Q,t' σ H Q->t σ H Q):PA X e t':=fun pos pins s σ H Q I q=>h pos pins s σ H Q I (f σ H Q q)
theorem PS.imp {X:Cx}{e:Stmt}{t t':TS} (h:PS X e t) (f:∀ Q σ H,t' Q σ H->t Q σ H):PS X e t':=fun pins s σ H Q I q=>h pins s σ H Q I (f Q σ H q)
theorem PSs.imp {X:Cx}{e:List Stmt}{t t':TS} (h:PSs X e t) (f:∀ Q σ H,t' Q σ H->t Q σ H):PSs X e t':=fun pins s σ H Q I q=>h pins s σ H Q I (f Q σ H q)
section
variable {X : Cx} {T : Fr} {Z : Xs} {a b c e : Expr} {es : List Expr} {ma mb mc : DE W} {pos : Pos}
noncomputable def dV (i:Nat):DE W:=fun env bx=>match env[i]? with | some (some w)=>.val w bx | _=>.bad
theorem NV (i:Nat) {x:Str} (hN:X.N[i]?=some x:=by rfl) (hv:Vis X.env.scope x:=by first | exact Or.inl rfl | exact Or.inr (Or.inl rfl) | exact Or.inr (Or.inr rfl)) (hd:(x == ("__debug__":Str))=false:=by decide)
    (hcd:(x == ("__classdict__":Str))=false:=by decide):PD X T Z (.Name x pos) (dV i):=by
  refine PE.imp (FC hN hv hd hcd) fun σ H Q ⟨F,r,env,bx,R,h⟩=>?_
  unfold dV at h
  split at h
  . rename_i w e
    obtain ⟨v,e1,e2⟩:=R.slot i w e
    exact ⟨v,e1,h F r v H (.refl F r) R e2⟩
  . exact h.elim
noncomputable def dC (d:D):DE W:=fun _ bx=>.val (.d d) bx
theorem DM {d:D}{v:V} (h:PE X e (tC v)) (hd:∀ F,Den F d v):PD X T Z e (dC d) :=
  PE.imp h fun σ H Q ⟨F,r,env,bx,R,h⟩=>h F r v H (.refl F r) R (hd F)
theorem fj {i:Int}{j}:PD X T Z (.Constant (.int i) j pos) (dC (.int i)):=DM By fun _=>rfl
theorem jK {i:Bool}{j}:PD X T Z (.Constant (.bool i) j pos) (dC (.bl i)):=DM JP fun _=>rfl
theorem FO {j}:PD X T Z (.Constant .none j pos) (dC .non):=DM Nr fun _=>rfl
theorem lM {x:Str}{j}:PD X T Z (.Constant (.str x) j pos) (dC (.str x)):=DM FD fun _=>rfl
noncomputable def ff:DE (List W):=fun _ bx=>.val [] bx
noncomputable def fc (m:DE W) (k:DE (List W)):DE (List W):=fun env bx=>fO (m env bx) fun w bx1=>fO (k env bx1) fun l bx2=>.val (w :: l) bx2
theorem fg:PDA X T Z [] ff:=PA.imp gu fun σ H Q ⟨F,r,env,bx,R,h⟩=>h F r [] H (.refl F r) R rfl
theorem Lh {k:DE (List W)} (ha:PD X T Z e ma) (hr:PDA X T Z es k) (hs:starEach (e :: es) X.env=(false,eval e X.env) :: starEach es X.env:=by rfl):PDA X T Z (e :: es) (fc ma k):=by
  refine PA.imp (fE ha hr hs) fun σ H Q ⟨F,r,env,bx,R,h⟩=>?_
  refine ⟨F,r,env,bx,R,End.bind h fun w bx1 F1 r1 v H1 g1 R1 d1 h1=>?_⟩
  refine ⟨F1,r1,env,bx1,R1,End.bind h1 fun l bx2 F2 r2 vs H2 g2 R2 d2 h2=>?_⟩
  exact h2 F2 r2 _ H2 (.refl F2 r2) R2 ⟨v,vs,rfl,g2.den d1,d2⟩
end
end L2.DL
set_option Elab.async false
set_option linter.all false
set_option maxRecDepth 100000
set_option maxHeartbeats 4000000
namespace L2.DL
open PySem PySem.Spec PyProof.Rows
section
variable {T : Fr} {F H : Hp} {r : List Addr} {σ : St} {env : DEnv} {bx : List Bx}
theorem CW {F:Hp}{p:Addr}{o:HO} (h:F p=none):Sub F (upd F p o):=fun a u e=>by rw [fM (fZ e h)];exact e
theorem Rel.fnone (R:Rel T F r σ H env bx) {p:Addr} (h:H p=none):F p=none:=by
  cases e:F p with
  | none=>rfl
  | some u=>rw [R.fh p u e] at h;cases h
theorem BxOk.there {a:Addr}:∀ {c:Bx},BxOk F H a c->∃ u,H a=some u
  | .lst _,h=>let ⟨_,vs,e,_⟩:=h;⟨_,e⟩
  | .dic _,h=>let ⟨_,vs,e,_⟩:=h;⟨_,e⟩
  | .dead,h=>h
theorem Rel.bat (R:Rel T F r σ H env bx) {n:Nat}{a:Addr} (e:r[n]?=some a):∃ c,bx[n]?=some c /\ BxOk F H a c:=by
  have h:=(List.getElem?_eq_some_iff.mp e).1
  rw [R.len] at h
  exact ⟨_,List.getElem?_eq_getElem h,R.box n _ a (List.getElem?_eq_getElem h) e⟩
theorem Rel.notBox (R:Rel T F r σ H env bx) {p:Addr} (h:H p=none):p ∉ r:=fun hp=>by
  obtain ⟨n,e⟩:=List.mem_iff_getElem?.mp hp
  obtain ⟨c,_,k⟩:=R.bat e
  obtain ⟨u,k⟩:=k.there
  rw [h] at k;cases k
theorem BxOk.grow {F F' H H':Hp}{a:Addr} (s:Sub F F') (hf:F a=none->F' a=none) (hh:∀ u,H a=some u->H' a=some u):∀ {c:Bx},BxOk F H a c->BxOk F' H' a c
  | .lst _,h=>let ⟨h1,vs,h2,h3⟩:=h;⟨hf h1,vs,hh _ h2,DenL.mono s _ h3⟩
  | .dic _,h=>let ⟨h1,vs,h2,h3⟩:=h;⟨hf h1,vs,hh _ h2,DenK.mono s _ h3⟩
  | .dead,h=>let ⟨u,h⟩:=h;⟨u,hh u h⟩
theorem Rel.allocD (R:Rel T F r σ H env bx) {p:Addr}{o:HO} (h:H p=none):Rel T (upd F p o) r σ (upd H p o) env bx:=by
  have hf:=R.fnone h
  have s:=CW (o:=o) hf
  refine ⟨fun a u e=>?_,fun i w e=>?_,R.len,R.nd,fun n c a e1 e2=>?_,fun a u e hn=>?_,R.new,R.n0,R.sl,fun a u e=>?_⟩
  . by_cases ha:a=p
    . subst ha;rw [fX] at e ⊢;exact e
    . rw [fM ha] at e ⊢;exact R.fh a u e
  . obtain ⟨v,e1,e2⟩:=R.slot i w e
    exact ⟨v,e1,e2.mono s (List.prefix_refl r)⟩
  . have k:=R.box n c a e1 e2
    obtain ⟨u,hu⟩:=k.there
    have ha:a ≠ p:=fZ hu h
    exact k.grow s (fun z=>by rw [fM ha];exact z) (fun u z=>by rw [fM ha];exact z)
  . have k:=R.keep a u e hn
    rw [fM (fZ k h)]
    exact k
  . by_cases ha:a=p
    . subst ha
      refine .inr (.inl ?_)
      cases q:T.H₀ a with
      | none=>rfl
      | some u=>rw [R.keep a u q (R.notBox h)] at h;cases h
    . rw [fM ha] at e;exact R.fs a u e
theorem Rel.growD (R:Rel T F r σ H env bx) {p:Addr}{o:HO} (h:H p=none):Grow F r (upd F p o) r:=⟨CW (R.fnone h),List.prefix_refl r⟩
theorem Rel.allocB (R:Rel T F r σ H env bx) {p:Addr}{o:HO}{c:Bx} (h:H p=none) (hc:BxOk F (upd H p o) p c):Rel T F (r ++ [p]) σ (upd H p o) env (bx ++ [c]):=by
  have hs:∀ a u,H a=some u->upd H p o a=some u:=fun a u e=>by rw [fM (fZ e h)];exact e
  refine ⟨fun a u e=>hs a u (R.fh a u e),fun i w e=>?_,by rw [List.length_append,List.length_append,R.len];rfl,?_,fun n c' a e1 e2=>?_,fun a u e hn=>?_,fun n a hn e=>?_,by rw [List.length_append];exact Nat.le_trans R.n0 (Nat.le_add_right _ _),R.sl,fun a u e=>(R.fs a u e).imp id (Or.imp id fun z=>List.mem_append_left _ z)⟩
  . obtain ⟨v,e1,e2⟩:=R.slot i w e
    exact ⟨v,e1,e2.mono (Sub.refl F) (List.prefix_append r [p])⟩
  . rw [List.nodup_append]
    refine ⟨R.nd,by simp,fun a ha b hb=>?_⟩
    rw [List.mem_singleton] at hb
    subst hb
    exact fun z=>R.notBox h (z ▸ ha)
  . by_cases hn:n < r.length
    . rw [List.getElem?_append_left hn] at e2
      rw [List.getElem?_append_left (by rw [<-R.len];exact hn)] at e1
      exact (R.box n c' a e1 e2).grow (Sub.refl F) id (hs a)
    . rw [List.getElem?_append_right (by omega)] at e2
      rw [List.getElem?_append_right (by rw [<-R.len];omega)] at e1
      have hl:n - r.length=0:=by
        cases q:n - r.length with
        | zero=>rfl
        | succ k=>rw [q] at e2;simp at e2
      have hl':n - bx.length=0:=by rw [<-R.len];exact hl
      rw [hl] at e2;rw [hl'] at e1
      simp at e1 e2
      subst e1 e2
      exact hc
  . exact hs a u (R.keep a u e fun z=>hn (List.mem_append_left _ z))
  . by_cases hl:n < r.length
    . rw [List.getElem?_append_left hl] at e
      exact R.new n a hn e
    . have hp:a=p:=by
        rw [List.getElem?_append_right (by omega)] at e
        cases q:n - r.length with
        | zero=>rw [q] at e;simp at e;exact e.symm
        | succ k=>rw [q] at e;simp at e
      subst hp
      cases q:T.H₀ a with
      | none=>rfl
      | some u=>rw [R.keep a u q (R.notBox h)] at h;cases h
theorem DN {α:Type}{l:List α} (h:l.Nodup) {i j:Nat}{x:α} (a:l[i]?=some x) (b:l[j]?=some x):i=j:=by
  have h1:=(List.getElem?_eq_some_iff.mp a).1
  have h2:=(List.getElem?_eq_some_iff.mp b).1
  exact (List.getElem?_inj h1 h).mp (a.trans b.symm)
theorem Rel.write (R:Rel T F r σ H env bx) {n:Nat}{a:Addr}{o:HO}{c:Bx} (e:r[n]?=some a) (hF:F a=none) (hc:BxOk F (upd H a o) a c):Rel T F r σ (upd H a o) env (bx.set n c):=by
  have ha:a ∈ r:=List.mem_iff_getElem?.mpr ⟨n,e⟩
  refine ⟨fun b u q=>?_,R.slot,by rw [List.length_set];exact R.len,R.nd,fun m c' b e1 e2=>?_,fun b u q hn=>?_,R.new,R.n0,R.sl,R.fs⟩
  . by_cases hb:b=a
    . subst hb;rw [hF] at q;cases q
    . rw [fM hb];exact R.fh b u q
  . by_cases hm:m=n
    . subst hm
      rw [e] at e2;cases e2
      rw [List.getElem?_set_self (by rw [<-R.len];exact (List.getElem?_eq_some_iff.mp e).1)] at e1
      cases e1
      exact hc
    . rw [List.getElem?_set_ne (Ne.symm hm)] at e1
      have hb:b ≠ a:=fun z=>hm (DN R.nd e2 (z ▸ e))
      exact (R.box m c' b e1 e2).grow (Sub.refl F) id fun u z=>by rw [fM hb];exact z
  . rw [fM (fun z=>hn (by rw [z];exact ha))];exact R.keep b u q hn
noncomputable def Rdd (F H:Hp):D->V->Prop
  | .lst l,v=>∃ a vs,v=.ref a /\ H a=some (.lst vs) /\ DenL F l vs
  | .dic l,v=>∃ a kvs,v=.ref a /\ H a=some (.dK kvs) /\ DenK F l kvs
  | .tup l,v=>∃ a vs,v=.ref a /\ F a=some (.tup vs) /\ DenL F l vs
  | .non,v=>v=.non
  | .bl b,v=>v=.bl b
  | .int i,v=>v=.int i
  | .str x,v=>v=.str x
noncomputable def rdW (bx:List Bx):W->Option D
  | .d x=>some x
  | .b n=>match bx[n]? with
    | some (.lst l)=>some (.lst l)
    | some (.dic l)=>some (.dic l)
    | _=>none
  | _=>none
theorem Den.rdd (s:Sub F H):∀ {d:D}{v:V},Den F d v->Rdd F H d v
  | .non,_,h=>h
  | .bl _,_,h=>h
  | .int _,_,h=>h
  | .str _,_,h=>h
  | .tup l,_,h=>h
  | .lst l,_,h=>let ⟨a,vs,e,h1,h2⟩:=h;⟨a,vs,e,s _ _ h1,h2⟩
  | .dic l,_,h=>let ⟨a,vs,e,h1,h2⟩:=h;⟨a,vs,e,s _ _ h1,h2⟩
theorem Rel.rdd (R:Rel T F r σ H env bx) {w:W}{v:V}{d:D} (h:DenW F r w v) (e:rdW bx w=some d):Rdd F H d v:=by
  cases w with
  | d x =>
    cases e
    exact Den.rdd R.fh h
  | b n =>
    obtain ⟨a,rfl,ha⟩:=h
    obtain ⟨c,hc,k⟩:=R.bat ha
    simp only [rdW,hc] at e
    cases c with
    | lst l=>cases e;obtain ⟨_,vs,k1,k2⟩:=k;exact ⟨a,vs,rfl,k1,k2⟩
    | dic l=>cases e;obtain ⟨_,vs,k1,k2⟩:=k;exact ⟨a,vs,rfl,k1,k2⟩
    | dead=>cases e
  | s l=>cases e
  | x i=>exact h.elim
noncomputable def RddL (F H:Hp):List D->List V->Prop
  | [],vs=>vs=[]
  | d :: l,vs=>∃ v t,vs=v :: t /\ Rdd F H d v /\ RddL F H l t
noncomputable def rdWs (bx:List Bx):List W->Option (List D)
  | []=>some []
  | w :: l=>(rdW bx w).bind fun d=>(rdWs bx l).map fun t=>d :: t
theorem Rel.rddL (R:Rel T F r σ H env bx):∀ {ws:List W}{vs:List V}{ds:List D},DenWs F r ws vs->rdWs bx ws=some ds->RddL F H ds vs
  | [],_,_,h,e=>by cases e;exact h
  | w :: l,_,ds,h,e=>by
    obtain ⟨v,t,q,h1,h2⟩:=h
    unfold rdWs at e
    cases e1:rdW bx w with
    | none=>rw [e1] at e;cases e
    | some d =>
      rw [e1] at e
      cases e2:rdWs bx l with
      | none=>rw [e2] at e;cases e
      | some t' =>
        rw [e2] at e
        cases e
        exact ⟨v,t,q,R.rdd h1 e1,R.rddL h2 e2⟩
inductive Res where
  | old (d:D) | tup (l:List D) | lst (l:List D) | dic (l:List (Key × D))
noncomputable def Res.toD:Res->D
  | .old d=>d | .tup l=>.tup l | .lst l=>.lst l | .dic l=>.dic l
noncomputable def RRes (F H:Hp):Res->V->Hp->Prop
  | .old d,v,H'=>H'=H /\ Den F d v
  | .tup l,v,H'=>(H'=H /\ Den F (.tup l) v) \/ ∃ p vs,v=.ref p /\ H p=none /\ H'=upd H p (.tup vs) /\ DenL F l vs
  | .lst l,v,H'=>∃ p vs,v=.ref p /\ H p=none /\ H'=upd H p (.lst vs) /\ DenL F l vs
  | .dic l,v,H'=>∃ p vs,v=.ref p /\ H p=none /\ H'=upd H p (.dK vs) /\ DenK F l vs
theorem Rel.res (R:Rel T F r σ H env bx) {v:V}{H':Hp}:∀ {q:Res},RRes F H q v H'->∃ F',Grow F r F' r /\ Rel T F' r σ H' env bx /\ Den F' q.toD v
  | .old d,h=>by
    obtain ⟨rfl,h⟩:=h
    exact ⟨F,.refl F r,R,h⟩
  | .tup l,h=>by
    rcases h with ⟨rfl,h⟩ | ⟨p,vs,rfl,hp,rfl,h⟩
    . exact ⟨F,.refl F r,R,h⟩
    exact ⟨_,R.growD hp,R.allocD hp,p,vs,rfl,fX,DenL.mono (R.growD (o:=.tup vs) hp).s l h⟩
  | .lst l,h=>by
    obtain ⟨p,vs,rfl,hp,rfl,h⟩:=h
    exact ⟨_,R.growD hp,R.allocD hp,p,vs,rfl,fX,DenL.mono (R.growD (o:=.lst vs) hp).s l h⟩
  | .dic l,h=>by
    obtain ⟨p,vs,rfl,hp,rfl,h⟩:=h
    exact ⟨_,R.growD hp,R.allocD hp,p,vs,rfl,fX,DenK.mono (R.growD (o:=.dK vs) hp).s l h⟩
theorem Rel.resB (R:Rel T F r σ H env bx) {v:V}{H':Hp}{l:List D} (h:RRes F H (.lst l) v H'):∃ r',Grow F r F r' /\ Rel T F r' σ H' env (bx ++ [.lst l]) /\ DenW F r' (.b bx.length) v:=by
  obtain ⟨p,vs,rfl,hp,rfl,h⟩:=h
  refine ⟨r ++ [p],⟨Sub.refl F,List.prefix_append r [p]⟩,R.allocB hp ⟨R.fnone hp,vs,fX,h⟩,p,rfl,?_⟩
  rw [<-R.len,List.getElem?_append_right (Nat.le_refl _),Nat.sub_self];rfl
theorem Rel.resBd (R:Rel T F r σ H env bx) {v:V}{H':Hp}{l:List (Key × D)} (h:RRes F H (.dic l) v H'):∃ r',Grow F r F r' /\ Rel T F r' σ H' env (bx ++ [.dic l]) /\ DenW F r' (.b bx.length) v:=by
  obtain ⟨p,vs,rfl,hp,rfl,h⟩:=h
  refine ⟨r ++ [p],⟨Sub.refl F,List.prefix_append r [p]⟩,R.allocB hp ⟨R.fnone hp,vs,fX,h⟩,p,rfl,?_⟩
  rw [<-R.len,List.getElem?_append_right (Nat.le_refl _),Nat.sub_self];rfl
noncomputable def resO (b:Bool):Option Res->List Bx->O W
  | none,_=>.bad
  | some q,bx=>match b,q with
    | true,.lst l=>.val (.b bx.length) (bx ++ [.lst l])
    | true,.dic l=>.val (.b bx.length) (bx ++ [.dic l])
    | _,_=>.val (.d q.toD) bx
theorem lc {Z:Xs}{Q:VK}{b:Bool}{q:Res}{v:V}{H':Hp} (R:Rel T F r σ H env bx) (h:End T Z DenW F r σ env Q (resO b (some q) bx)) (k:RRes F H q v H'):Q v H':=by
  have one:End T Z DenW F r σ env Q (.val (.d q.toD) bx)->Q v H':=fun h=>by
    obtain ⟨F',g,R',d⟩:=R.res k
    exact h F' r v H' g R' d
  cases b with
  | false=>exact one h
  | true =>
    cases q with
    | old d=>exact one h
    | tup l=>exact one h
    | lst l =>
      obtain ⟨r',g,R',d⟩:=R.resB k
      exact h F r' v H' g R' d
    | dic l =>
      obtain ⟨r',g,R',d⟩:=R.resBd k
      exact h F r' v H' g R' d
noncomputable def Ok2 (q:R2) (g:D->D->Option Res):Prop:=∀ (F H:Hp) (x y:D) (v w:V) (Q:VK) (s:Res),Sub F H->Rdd F H x v->Rdd F H y w->g x y=some s->(∀ u H',RRes F H s u H'->Q u H')->q v w H Q
noncomputable def OkN (q:List V->Hp->VK->Prop) (g:List D->Option Res):Prop:=∀ (F H:Hp) (xs:List D) (vs:List V) (Q:VK) (s:Res),Sub F H->RddL F H xs vs->g xs=some s->(∀ u H',RRes F H s u H'->Q u H')->q vs H Q
noncomputable def d2 (b:Bool) (g:D->D->Option Res) (ma mb:DE W):DE W:=fun env bx=>fO (ma env bx) fun x bx1=>fO (mb env bx1) fun y bx2=>resO b ((rdW bx2 x).bind fun p=>(rdW bx2 y).bind fun q=>g p q) bx2
theorem GA {Z:Xs}{q:R2}{g:D->D->Option Res}{b:Bool}{ma mb:DE W} (hg:Ok2 q g) (σ:St) (H:Hp) (Q:VK) (h:tD T Z (d2 b g ma mb) σ H Q):tOp q (tD T Z ma) (tD T Z mb) σ H Q:=by
  obtain ⟨F,r,env,bx,R,h⟩:=h
  refine ⟨F,r,env,bx,R,End.bind h fun x bx1 F1 r1 v H1 g1 R1 d1 h1=>?_⟩
  refine ⟨F1,r1,env,bx1,R1,End.bind h1 fun y bx2 F2 r2 w H2 g2 R2 d2' h2=>?_⟩
  have d1':=g2.den d1
  cases e1:rdW bx2 x with
  | none=>rw [e1] at h2;exact h2.elim
  | some p =>
    cases e2:rdW bx2 y with
    | none=>rw [e1,e2] at h2;exact h2.elim
    | some z =>
      cases e3:g p z with
      | none=>rw [e1,e2] at h2;simp only [Option.bind_some,e3] at h2;exact h2.elim
      | some s =>
        rw [e1,e2] at h2
        simp only [Option.bind_some,e3] at h2
        exact hg F2 H2 p z v w Q s R2.fh (R2.rdd d1' e1) (R2.rdd d2' e2) e3 fun u H' k=>lc R2 h2 k
noncomputable def dN (b:Bool) (g:List D->Option Res) (k:DE (List W)):DE W:=fun env bx=>fO (k env bx) fun ws bx1=>resO b ((rdWs bx1 ws).bind g) bx1
theorem Nf {Z:Xs}{q:List V->Hp->VK->Prop}{g:List D->Option Res}{b:Bool}{k:DE (List W)} (hg:OkN q g) (σ:St) (H:Hp) (Q:VK) (h:tD T Z (dN b g k) σ H Q):tCB q (tDA T Z k) σ H Q:=by
  obtain ⟨F,r,env,bx,R,h⟩:=h
  refine ⟨F,r,env,bx,R,End.bind h fun ws bx1 F1 r1 vs H1 g1 R1 d1 h1=>?_⟩
  cases e1:rdWs bx1 ws with
  | none=>rw [e1] at h1;exact h1.elim
  | some ds =>
    rw [e1] at h1
    cases e2:g ds with
    | none=>simp only [Option.bind_some,e2] at h1;exact h1.elim
    | some s =>
      simp only [Option.bind_some,e2] at h1
      exact hg F1 H1 ds vs Q s R1.fh (R1.rddL d1 e1) e2 fun u H' k=>lc R1 h1 k
end
end L2.DL
set_option Elab.async false
set_option linter.all false
set_option maxRecDepth 100000
set_option maxHeartbeats 4000000
namespace L2.DL
open PySem PySem.Spec PyProof.Rows
section
variable {X : Cx} {T : Fr} {Z : Xs} {a b c e : Expr} {es : List Expr} {ma mb mc : DE W} {pos p : Pos}
theorem fC {op:Operator}{q:R2}{g:D->D->Option Res} (bo:Bool) (ho:OpR X (binaryOp op) q) (hg:Ok2 q g) (ha:PD X T Z a ma) (hb:PD X T Z b mb):PD X T Z (.BinOp a op b pos) (d2 bo g ma mb) :=
  PE.imp (DC ho ha hb) (GA hg)
theorem Aq {op:CmpOp}{q:R2}{g:D->D->Option Res} (ho:OpR X (compareOp op) q) (hg:Ok2 q g) (ha:PD X T Z a ma) (hb:PD X T Z b mb) (hm:behindInMarks op b=false):PD X T Z (.Compare a [op] [b] pos) (d2 false g ma mb) :=
  PE.imp (Mi ho ha hb hm) (GA hg)
theorem gz {q:R2}{g:D->D->Option Res} (ho:IxR X q) (hg:Ok2 q g) (ha:PD X T Z a ma) (hb:PD X T Z b mb) (hs:PlainIx b):PD X T Z (.Subscript a b pos) (d2 false g ma mb) :=
  PE.imp (J4 ho ha hb hs) (GA hg)
noncomputable def dB (m:DE W):DE Bool:=fun env bx=>fO (m env bx) fun w bx1=>match w with | .d (.bl k)=>.val k bx1 | _=>.bad
theorem Pp {σ:St}{H:Hp}{Q:Bool->Hp->Prop} (h:tDT T Z (dB ma) σ H Q):tB (tD T Z ma) σ H Q:=by
  obtain ⟨F,r,env,bx,R,h⟩:=h
  refine ⟨F,r,env,bx,R,End.bind h fun w bx1 F1 r1 v H1 g1 R1 d1 h1=>?_⟩
  split at h1
  . rename_i k
    exact ⟨k,d1,h1 F1 r1 k H1 (.refl F1 r1) R1 rfl⟩
  . exact h1.elim
theorem ig (h:PD X T Z e ma) (he:∀ whole,isTrue e X.env whole=(do let v <-whole;standAt e.pos;holding [v] (truthy v)):=by intro _;rfl):PDT X T Z e (dB ma) :=
  PT.imp (JQ h he) fun σ H Q h=>Pp h
theorem iq {op:CmpOp}{q:R2}{g:D->D->Option Res} (ho:OpR X (compareOp op) q) (hg:Ok2 q g) (ha:PD X T Z a ma) (hb:PD X T Z b mb) (hm:behindInMarks op b=false):PDT X T Z (.Compare a [op] [b] pos) (dB (d2 false g ma mb)):=by
  refine PT.imp (Gu ho ha hb hm) fun σ H Q h=>?_
  obtain ⟨F,r,env,bx,R,h⟩:=h
  refine GA (T:=T) (Z:=Z) (b:=false) hg σ H _ ⟨F,r,env,bx,R,End.bind h fun w bx1 F1 r1 v H1 g1 R1 d1 h1=>?_⟩
  split at h1
  . rename_i k
    exact ⟨k,d1,h1 F1 r1 k H1 (.refl F1 r1) R1 rfl⟩
  . exact h1.elim
theorem DenL.isEmpty {F:Hp}{l:List D}{vs:List V} (h:DenL F l vs):l.isEmpty=vs.isEmpty:=by
  have:=h.length
  cases l <;> cases vs <;> simp_all
noncomputable def d3 (g g':D->D->Option Res) (ma mb mc:DE W):DE W:=fun env bx=>fO (ma env bx) fun x bx1=>fO (mb env bx1) fun y bx2 =>
  fO (resO false ((rdW bx2 x).bind fun p=>(rdW bx2 y).bind fun q=>g p q) bx2) fun z bx3=>match z with
    | .d (.bl true)=>fO (mc env bx3) fun w bx4=>resO false ((rdW bx4 y).bind fun p=>(rdW bx4 w).bind fun q=>g' p q) bx4
    | .d (.bl false)=>.val (.d (.bl false)) bx3
    | _=>.bad
theorem res2 {q:R2}{g:D->D->Option Res} (hg:Ok2 q g) {F H:Hp}{r:List Addr}{σ:St}{env:DEnv}{bx:List Bx}{x y:W}{v w:V}{Q:VK} (R:Rel T F r σ H env bx) (dx:DenW F r x v) (dy:DenW F r y w)
    (h:End T Z DenW F r σ env Q (resO false ((rdW bx x).bind fun p=>(rdW bx y).bind fun q=>g p q) bx)):q v w H Q:=by
  cases e1:rdW bx x with
  | none=>rw [e1] at h;exact h.elim
  | some p =>
    cases e2:rdW bx y with
    | none=>rw [e1,e2] at h;exact h.elim
    | some z =>
      cases e3:g p z with
      | none=>rw [e1,e2] at h;simp only [Option.bind_some,e3] at h;exact h.elim
      | some s =>
        rw [e1,e2] at h
        simp only [Option.bind_some,e3] at h
        exact hg F H p z v w Q s R.fh (R.rdd dx e1) (R.rdd dy e2) e3 fun u H' k=>lc R h k
theorem GB {q q':R2}{g g':D->D->Option Res} (hg:Ok2 q g) (hg':Ok2 q' g') {σ:St}{H:Hp}{Q:VK} (h:tD T Z (d3 g g' ma mb mc) σ H Q):tChain q q' (tD T Z ma) (tD T Z mb) (tD T Z mc) σ H Q:=by
  obtain ⟨F,r,env,bx,R,h⟩:=h
  refine ⟨F,r,env,bx,R,End.bind h fun x bx1 F1 r1 v H1 g1 R1 d1 h1=>?_⟩
  refine ⟨F1,r1,env,bx1,R1,End.bind h1 fun y bx2 F2 r2 w H2 g2 R2 d2 h2=>?_⟩
  refine res2 (T:=T) (Z:=Z) (bx:=bx2) hg R2 (g2.den d1) d2 (End.bind h2 fun z bx3 F3 r3 u H3 g3 R3 d3 h3=>?_)
  split at h3
  . refine ⟨true,d3,?_⟩
    rw [if_pos rfl]
    refine ⟨F3,r3,env,bx3,R3,End.bind h3 fun t bx4 F4 r4 s H4 g4 R4 d4 h4=>?_⟩
    exact res2 (T:=T) (Z:=Z) hg' R4 (g4.den (g3.den d2)) d4 h4
  . refine ⟨false,d3,?_⟩
    rw [if_neg (by decide)]
    exact h3 F3 r3 _ H3 (.refl F3 r3) R3 rfl
  . exact h3.elim
theorem BC {op op':CmpOp}{q q':R2}{g g':D->D->Option Res} (ho:OpR X (compareOp op) q) (ho':OpR X (compareOp op') q') (hg:Ok2 q g) (hg':Ok2 q' g') (ha:PD X T Z a ma) (hb:PD X T Z b mb) (hc:PD X T Z c mc)
    (hm:lastMarks [op,op'] [b,c]=false:=by with_unfolding_all rfl):PD X T Z (.Compare a [op,op'] [b,c] pos) (d3 g g' ma mb mc) :=
  PE.imp (JZ ho ho' ha hb hc hm) fun σ H Q h=>GB hg hg' h
theorem Ct {op op':CmpOp}{q q':R2}{g g':D->D->Option Res} (ho:OpR X (compareOp op) q) (ho':OpR X (compareOp op') q') (hg:Ok2 q g) (hg':Ok2 q' g') (ha:PD X T Z a ma) (hb:PD X T Z b mb) (hc:PD X T Z c mc)
    (hm:lastMarks [op,op'] [b,c]=false:=by with_unfolding_all rfl):PDT X T Z (.Compare a [op,op'] [b,c] pos) (dB (d3 g g' ma mb mc)):=by
  refine PT.imp (J0 ho ho' ha hb hc hm) fun σ H Q h=>?_
  obtain ⟨F,r,env,bx,R,h⟩:=h
  refine GB (T:=T) (Z:=Z) hg hg' ⟨F,r,env,bx,R,End.bind h fun w bx1 F1 r1 v H1 g1 R1 d1 h1=>?_⟩
  split at h1
  . rename_i k
    exact ⟨k,d1,h1 F1 r1 k H1 (.refl F1 r1) R1 rfl⟩
  . exact h1.elim
noncomputable def dAnd (m k:DE Bool):DE Bool:=fun env bx=>fO (m env bx) fun b bx1=>match b with | true=>k env bx1 | false=>.val false bx1
noncomputable def dOr (m k:DE Bool):DE Bool:=fun env bx=>fO (m env bx) fun b bx1=>match b with | true=>.val true bx1 | false=>k env bx1
noncomputable def dNot (m:DE Bool):DE Bool:=fun env bx=>fO (m env bx) fun b bx1=>.val (!b) bx1
noncomputable def PDW (X:Cx) (T:Fr) (Z:Xs) (e:Expr) (m:DE Bool):Prop:=PW X e (tDT T Z m)
variable {ta tb : DE Bool} {rest : List Expr}
theorem Li (h:PDT X T Z a ta):PDW X T Z (.BoolOp .And [a] pos) ta:=Mf h
theorem Ad (h:PDT X T Z a ta):PDW X T Z (.BoolOp .Or [a] pos) ta:=JR h
theorem Mz (ha:PDT X T Z a ta) (hb:PDW X T Z (.BoolOp .And (b :: rest) pos) tb):PDW X T Z (.BoolOp .And (a :: b :: rest) pos) (dAnd ta tb):=by
  refine PW.imp (Nt ha hb) fun σ H Q ⟨F,r,env,bx,R,h⟩=>?_
  refine ⟨F,r,env,bx,R,End.bind h fun k bx1 F1 r1 v H1 g1 R1 d1 h1=>?_⟩
  subst d1
  cases k with
  | true=>rw [if_pos rfl];exact ⟨F1,r1,env,bx1,R1,h1⟩
  | false=>rw [if_neg (by decide)];exact h1 F1 r1 _ H1 (.refl F1 r1) R1 rfl
theorem oT (ha:PDT X T Z a ta) (hb:PDW X T Z (.BoolOp .Or (b :: rest) pos) tb):PDW X T Z (.BoolOp .Or (a :: b :: rest) pos) (dOr ta tb):=by
  refine PW.imp (M8 ha hb) fun σ H Q ⟨F,r,env,bx,R,h⟩=>?_
  refine ⟨F,r,env,bx,R,End.bind h fun k bx1 F1 r1 v H1 g1 R1 d1 h1=>?_⟩
  subst d1
  cases k with
  | false=>rw [if_neg (by decide)];exact ⟨F1,r1,env,bx1,R1,h1⟩
  | true=>rw [if_pos rfl];exact h1 F1 r1 _ H1 (.refl F1 r1) R1 rfl
theorem BD (h:PDW X T Z e ta):PDT X T Z e ta:=h.pt
theorem ir (h:PDT X T Z a ta):PDT X T Z (.UnaryOp .Not a pos) (dNot ta):=by
  refine PT.imp (JS h) fun σ H Q ⟨F,r,env,bx,R,h⟩=>?_
  refine ⟨F,r,env,bx,R,End.bind h fun k bx1 F1 r1 v H1 g1 R1 d1 h1=>?_⟩
  subst d1
  exact h1 F1 r1 _ H1 (.refl F1 r1) R1 rfl
noncomputable def iR (m k:DE W):DE W:=fun env bx=>fO (m env bx) fun w bx1=>match w with | .d (.bl true)=>k env bx1 | .d (.bl false)=>.val (.d (.bl false)) bx1 | _=>.bad
noncomputable def dOrV (m k:DE W):DE W:=fun env bx=>fO (m env bx) fun w bx1=>match w with | .d (.bl true)=>.val (.d (.bl true)) bx1 | .d (.bl false)=>k env bx1 | _=>.bad
noncomputable def dNotV (m:DE W):DE W:=fun env bx=>fO (m env bx) fun w bx1=>match w with | .d (.bl k)=>.val (.d (.bl (!k))) bx1 | _=>.bad
theorem jx {op} (h:PD X T Z a ma):PD X T Z (.BoolOp op [a] pos) ma:=Nu h
theorem im (ha:PD X T Z a ma) (hb:PD X T Z (.BoolOp .And (b :: rest) pos) mb):PD X T Z (.BoolOp .And (a :: b :: rest) pos) (iR ma mb):=by
  refine PE.imp (Nv ha hb) fun σ H Q ⟨F,r,env,bx,R,h⟩=>?_
  refine ⟨F,r,env,bx,R,End.bind h fun w bx1 F1 r1 v H1 g1 R1 d1 h1=>?_⟩
  split at h1
  . refine ⟨true,d1,?_⟩
    rw [if_pos rfl];exact ⟨F1,r1,env,bx1,R1,h1⟩
  . refine ⟨false,d1,?_⟩
    rw [if_neg (by decide)];exact h1 F1 r1 _ H1 (.refl F1 r1) R1 rfl
  . exact h1.elim
theorem Lj (ha:PD X T Z a ma):PD X T Z (.UnaryOp .Not a pos) (dNotV ma):=by
  refine PE.imp (Nw ha) fun σ H Q ⟨F,r,env,bx,R,h⟩=>?_
  refine ⟨F,r,env,bx,R,End.bind h fun w bx1 F1 r1 v H1 g1 R1 d1 h1=>?_⟩
  split at h1
  . rename_i k
    exact ⟨k,d1,h1 F1 r1 _ H1 (.refl F1 r1) R1 rfl⟩
  . exact h1.elim
noncomputable def dIf (t:DE Bool) (m k:DE W):DE W:=fun env bx=>fO (t env bx) fun b bx1=>match b with | true=>m env bx1 | false=>k env bx1
theorem NW (hc:PDT X T Z c ta) (ha:PD X T Z a ma) (hb:PD X T Z b mb):PD X T Z (.IfExp c a b pos) (dIf ta ma mb):=by
  refine PE.imp (JT hc ha hb) fun σ H Q ⟨F,r,env,bx,R,h⟩=>?_
  refine ⟨F,r,env,bx,R,End.bind h fun k bx1 F1 r1 v H1 g1 R1 d1 h1=>?_⟩
  subst d1
  cases k with
  | true=>rw [if_pos rfl];exact ⟨F1,r1,env,bx1,R1,h1⟩
  | false=>rw [if_neg (by decide)];exact ⟨F1,r1,env,bx1,R1,h1⟩
noncomputable def dsOf:List W->Option (List D)
  | []=>some []
  | .d x :: l=>(dsOf l).map fun t=>x :: t
  | _=>none
theorem DenWs.ds {F:Hp}{r:List Addr}:∀ {ws:List W}{vs:List V}{ds:List D},DenWs F r ws vs->dsOf ws=some ds->DenL F ds vs
  | [],_,_,h,e=>by cases e;exact h
  | .d x :: l,_,ds,h,e=>by
    obtain ⟨v,t,q,h1,h2⟩:=h
    unfold dsOf at e
    cases e2:dsOf l with
    | none=>rw [e2] at e;cases e
    | some t' =>
      rw [e2] at e
      cases e
      exact ⟨v,t,q,h1,h2.ds e2⟩
  | .b _ :: l,_,ds,h,e=>by cases e
  | .s _ :: l,_,ds,h,e=>by cases e
  | .x _ :: l,_,ds,h,e=>by cases e
noncomputable def fF (k:DE (List W)):DE W:=fun env bx=>fO (k env bx) fun ws bx1=>resO false ((dsOf ws).bind fun l=>if l.length <= sizeLine then some (.tup l) else none) bx1
noncomputable def gx (bo:Bool) (k:DE (List W)):DE W:=fun env bx=>fO (k env bx) fun ws bx1=>resO bo ((dsOf ws).bind fun l=>if l.length <= sizeLine then some (.lst l) else none) bx1
theorem fU {x1}{k:DE (List W)} (h:PDA X T Z es k):PD X T Z (.Tuple es x1 pos) (fF k):=by
  refine PE.imp (NE h) fun σ H Q ⟨F,r,env,bx,R,h⟩=>?_
  refine ⟨F,r,env,bx,R,End.bind h fun ws bx1 F1 r1 vs H1 g1 R1 d1 h1=>?_⟩
  cases e:dsOf ws with
  | none=>rw [e] at h1;exact h1.elim
  | some l =>
    rw [e] at h1
    simp only [Option.bind_some] at h1
    split at h1
    . have dl:=d1.ds e
      refine ⟨by rw [<-dl.length];assumption,fun p hp=>lc R1 h1 (.inr ⟨p,vs,rfl,hp,rfl,dl⟩)⟩
    . exact h1.elim
theorem gX {k:DE (List W)} (bo:Bool) (h:PDA X T Z es k):PD X T Z (.List es pos) (gx bo k):=by
  refine PE.imp (Ao h) fun σ H Q ⟨F,r,env,bx,R,h⟩=>?_
  refine ⟨F,r,env,bx,R,End.bind h fun ws bx1 F1 r1 vs H1 g1 R1 d1 h1=>?_⟩
  cases e:dsOf ws with
  | none=>rw [e] at h1;exact h1.elim
  | some l =>
    rw [e] at h1
    simp only [Option.bind_some] at h1
    split at h1
    . have dl:=d1.ds e
      refine ⟨by rw [<-dl.length];assumption,fun p hp=>lc R1 h1 ⟨p,vs,rfl,hp,rfl,dl⟩⟩
    . exact h1.elim
theorem Lk {x:Str}{id:String}{q:List V->Hp->VK->Prop}{g:List D->Option Res}{k:DE (List W)} (bo:Bool) (hc:CallR X (.builtin id) q) (hk:OkN q g) (hg:Gl X x) (hm:X.mg x=none) (hv:bootBuiltins x=some (.builtin id)) (ha:PDA X T Z (e :: es) k)
    (hn:x ≠ "__name__":=by decide) (hdb:(x == ("__debug__":Str))=false:=by decide)
    (he:starEach (e :: es) X.env=(false,eval e X.env) :: starEach es X.env:=by rfl) (hpl:(backTo pos (starEach es X.env)).any (·.1)=false:=by rfl):PD X T Z (.Call (.Name x p) (e :: es) [] pos) (dN bo g k) :=
  PE.imp (gq hc hg hm hv ha hn hdb he hpl) (Nf hk)
theorem Jl {x:Str}{id:String}{q:List V->Hp->VK->Prop}{g:List D->Option Res}{k:DE (List W)} (bo:Bool) (hc:CallR X (.type id) q) (hk:OkN q g) (hg:Gl X x) (hm:X.mg x=none) (hv:bootBuiltins x=some (.type id)) (ha:PDA X T Z (e :: es) k)
    (hn:x ≠ "__name__":=by decide) (hdb:(x == ("__debug__":Str))=false:=by decide)
    (he:starEach (e :: es) X.env=(false,eval e X.env) :: starEach es X.env:=by rfl) (hpl:(backTo pos (starEach es X.env)).any (·.1)=false:=by rfl):PD X T Z (.Call (.Name x p) (e :: es) [] pos) (dN bo g k) :=
  PE.imp (Jg hc hg hm hv ha hn hdb he hpl) (Nf hk)
noncomputable def spD (cl:Nat->Addr) (n:Nat) (fn:List W->List Bx->O W):Sp:=fun vs H Q E=>∃ F r ws bx,Rel ⟨H,r.length,F⟩ F r [] H [] bx /\ DenWs F r ws vs /\ ws.length=n /\ End ⟨H,r.length,F⟩ ⟨E,cl⟩ DenW F r [] [] Q (fn ws bx)
theorem DenWs.length {F:Hp}{r:List Addr}:∀ {ws:List W}{vs:List V},DenWs F r ws vs->ws.length=vs.length
  | [],_,h=>by
    have e:_=[]:=h
    rw [e]
    rfl
  | d :: l,_,h=>by
    obtain ⟨v,t,e,_,h2⟩:=h
    rw [e,List.length_cons,List.length_cons,h2.length]
theorem Rel.enter {T:Fr}{F H:Hp}{r:List Addr}{σ:St}{env:DEnv}{bx:List Bx} (R:Rel T F r σ H env bx):Rel ⟨H,r.length,F⟩ F r [] H [] bx :=
  ⟨R.fh,fun i w e=>by simp at e,R.len,R.nd,R.box,fun a u e _=>e,fun n a hn e=>(by rw [List.getElem?_eq_none hn] at e;cases e),Nat.le_refl _,Nat.le_refl _,fun a u e=>.inl e⟩
theorem Rel.after {T:Fr}{F F' H H':Hp}{r r':List Addr}{σ:St}{env:DEnv}{bx bx':List Bx} (R:Rel T F r σ H env bx) (g:Grow F r F' r') (R':Rel ⟨H,r.length,F⟩ F' r' [] H' [] bx'):Rel T F' r' σ H' env bx':=by
  have pre:∀ (n:Nat) (a:Addr),r[n]?=some a->r'[n]?=some a:=fun n a e=>by
    obtain ⟨t,rfl⟩:=g.p
    rw [List.getElem?_append_left (List.getElem?_eq_some_iff.mp e).1]
    exact e
  have sub:∀ a,a ∈ r->a ∈ r':=fun a h=>g.p.subset h
  refine ⟨R'.fh,fun i w e=>?_,R'.len,R'.nd,R'.box,fun a u e hn=>?_,fun n a hn e=>?_,Nat.le_trans R.n0 g.p.length_le,R.sl,fun a u e=>?_⟩
  . obtain ⟨v,e1,e2⟩:=R.slot i w e
    exact ⟨v,e1,g.den e2⟩
  . exact R'.keep a u (R.keep a u e fun z=>hn (sub a z)) hn
  . by_cases hl:n < r.length
    . have q:=pre n _ (List.getElem?_eq_getElem hl)
      rw [e] at q
      cases q
      exact R.new n _ hn (List.getElem?_eq_getElem hl)
    . have q:H a=none:=R'.new n a (Nat.le_of_not_lt hl) e
      cases z:T.H₀ a with
      | none=>rfl
      | some u =>
        have hr:a ∉ r:=fun ha=>by
          obtain ⟨m,em⟩:=List.mem_iff_getElem?.mp ha
          have:=DN R'.nd (pre m a em) e
          exact hl (by rw [<-this];exact (List.getElem?_eq_some_iff.mp em).1)
        rw [R.keep a u z hr] at q
        cases q
  . rcases R'.fs a u e with z | z | z
    . exact (R.fs a u z).imp id (Or.imp id (sub a))
    . by_cases ha:a ∈ r
      . exact .inr (.inr (sub a ha))
      . refine .inr (.inl ?_)
        cases y:T.H₀ a with
        | none=>rfl
        | some u =>
          have z':H a=none:=z
          rw [R.keep a u y ha] at z';cases z'
    . exact .inr (.inr z)
noncomputable def fv (fn:List W->List Bx->O W) (n:Nat) (k:DE (List W)):DE W:=fun env bx=>fO (k env bx) fun ws bx1=>if ws.length=n then fn ws bx1 else .bad
theorem NX {fn:List W->List Bx->O W}{n:Nat}{k:DE (List W)}{σ:St}{H:Hp}{Q:VK} (h:tD T Z (fv fn n k) σ H Q):tCall (spD Z.cl n fn) [] Z.E (tDA T Z k) σ H Q:=by
  obtain ⟨F,r,env,bx,R,h⟩:=h
  refine ⟨F,r,env,bx,R,End.bind h fun ws bx1 F1 r1 vs H1 g1 R1 d1 h1=>?_⟩
  split at h1
  . rename_i hl
    refine ⟨F1,r1,ws,bx1,R1.enter,by rw [List.append_nil];exact d1,hl,?_⟩
    cases e:fn ws bx1 with
    | val w bx'=>rw [e] at h1;exact fun F' r' v H' g R' d=>h1 F' r' v H' g (R1.after g R') d
    | exc c bx'=>rw [e] at h1;exact fun F' r' H' g R'=>h1 F' r' H' g (R1.after g R').drop
    | bad=>rw [e] at h1;exact h1
  . exact h1.elim
theorem MA {x:Str}{f:Addr}{fd:FuncData}{ps:List Str}{k:Nat}{fn:List W->List Bx->O W}{m:DE (List W)} (G:FnOk X.prog X.w X.K X.mg X.base (CXr X.prog X.w) k f fd ps (spD Z.cl ps.length fn)) (hr:Room k X.A) (hg:Gl X x) (hm:X.mg x=some (.ref f))
    (hk:PySem.W.keepIn X.K (.ref f)=true) (hb:Binds X.K fd ps []) (hx:Passes (CXr X.prog X.w) X Z.E) (ha:PDA X T Z (e :: es) m) (hdb:(x == ("__debug__":Str))=false:=by decide)
    (he:starEach (e :: es) X.env=(false,eval e X.env) :: starEach es X.env:=by rfl) (hpl:(backTo pos (starEach es X.env)).any (·.1)=false:=by rfl):PD X T Z (.Call (.Name x p) (e :: es) [] pos) (fv fn ps.length m) :=
  PE.imp (Ml G hr hg hm hk hb .nil hx ha hdb he hpl) fun σ H Q h=>NX h
end
end L2.DL
set_option Elab.async false
set_option linter.all false
set_option maxRecDepth 100000
set_option maxHeartbeats 4000000
namespace L2.DL
open PySem PySem.Spec PyProof.Rows
inductive OS where
  | nx (env:DEnv) (bx:List Bx) | rt (w:W) (bx:List Bx) | bk (env:DEnv) (bx:List Bx) | ct (env:DEnv) (bx:List Bx) | exc (c:Nat) (bx:List Bx) | bad
noncomputable abbrev DSt:=DEnv->List Bx->OS
noncomputable def EndS (T:Fr) (Z:Xs) (F:Hp) (r:List Addr) (D:Ends):OS->Prop
  | .nx env' bx'=>∀ F' r' σ' H',Grow F r F' r'->Rel T F' r' σ' H' env' bx'->D.nx σ' H'
  | .rt w bx'=>∀ F' r' v H',Grow F r F' r'->Rel T F' r' [] H' [] bx'->DenW F' r' w v->D.rt v H'
  | .bk env' bx'=>∀ F' r' σ' H',Grow F r F' r'->Rel T F' r' σ' H' env' bx'->D.bk σ' H'
  | .ct env' bx'=>∀ F' r' σ' H',Grow F r F' r'->Rel T F' r' σ' H' env' bx'->D.ct σ' H'
  | .exc c bx'=>∀ F' r' H',Grow F r F' r'->Rel T F' r' [] H' [] bx'->Z.E (.ref (Z.cl c)) none H'
  | .bad=>False
theorem EndS.weak {T:Fr}{Z:Xs}{F F':Hp}{r r':List Addr}{D:Ends} (g:Grow F r F' r'):∀ {o:OS},EndS T Z F r D o->EndS T Z F' r' D o
  | .nx _ _,h=>fun F2 r2 s2 H2 g2=>h F2 r2 s2 H2 (g.trans g2)
  | .rt _ _,h=>fun F2 r2 s2 H2 g2=>h F2 r2 s2 H2 (g.trans g2)
  | .bk _ _,h=>fun F2 r2 s2 H2 g2=>h F2 r2 s2 H2 (g.trans g2)
  | .ct _ _,h=>fun F2 r2 s2 H2 g2=>h F2 r2 s2 H2 (g.trans g2)
  | .exc _ _,h=>fun F2 r2 H2 g2=>h F2 r2 H2 (g.trans g2)
  | .bad,h=>h
noncomputable def bindS {α:Type} (m:O α) (k:α->List Bx->OS):OS :=
  match m with
  | .val a bx=>k a bx
  | .exc c bx=>.exc c bx
  | .bad=>.bad
theorem End.bindS {α β:Type}{T:Fr}{Z:Xs}{R1:Hp->List Addr->α->β->Prop}{F:Hp}{r:List Addr}{σ:St}{env:DEnv}{D:Ends}{Q1:β->Hp->Prop}
    {m:O α}{k:α->List Bx->OS} (h:EndS T Z F r D (DL.bindS m k))
    (c:∀ d bx1 F1 r1 v H1,Grow F r F1 r1->Rel T F1 r1 σ H1 env bx1->R1 F1 r1 d v->EndS T Z F1 r1 D (k d bx1)->Q1 v H1):End T Z R1 F r σ env Q1 m:=by
  cases m with
  | val d bx=>exact fun F' r' v H' g R q=>c d bx F' r' v H' g R q (EndS.weak g h)
  | exc n bx=>exact h
  | bad=>exact h
noncomputable def tS (T:Fr) (Z:Xs) (m:DSt):TS:=fun D σ H=>∃ F r env bx,Rel T F r σ H env bx /\ EndS T Z F r D (m env bx)
noncomputable def PSD (X:Cx) (T:Fr) (Z:Xs) (s:Stmt) (m:DSt):Prop:=PS X s (tS T Z m)
noncomputable def PSDs (X:Cx) (T:Fr) (Z:Xs) (s:List Stmt) (m:DSt):Prop:=PSs X s (tS T Z m)
section
variable {X : Cx} {T : Fr} {Z : Xs} {a b c e : Expr} {es : List Expr} {ma mb mc : DE W} {pos p : Pos} {st : Stmt} {rest : List Stmt} {m k : DSt} {tc : DE Bool}
noncomputable def sNil:DSt:=fun env bx=>.nx env bx
noncomputable def fJ (m k:DSt):DSt:=fun env bx=>match m env bx with | .nx env1 bx1=>k env1 bx1 | o=>o
theorem gF:PSDs X T Z [] sNil:=PSs.imp Go fun D σ H ⟨F,r,env,bx,R,h⟩=>h F r σ H (.refl F r) R
theorem fB (h1:PSD X T Z st m) (h2:PSDs X T Z rest k):PSDs X T Z (st :: rest) (fJ m k):=by
  refine PSs.imp (ls h1 h2) fun D σ H ⟨F,r,env,bx,R,h⟩=>⟨F,r,env,bx,R,?_⟩
  unfold fJ at h
  cases e:m env bx with
  | nx env1 bx1=>rw [e] at h;exact fun F1 r1 σ1 H1 g R1=>⟨F1,r1,env1,bx1,R1,EndS.weak g h⟩
  | rt w bx1=>rw [e] at h;exact h
  | bk env1 bx1=>rw [e] at h;exact h
  | ct env1 bx1=>rw [e] at h;exact h
  | exc c bx1=>rw [e] at h;exact h
  | bad=>rw [e] at h;exact h
theorem fA (h1:PSD X T Z st m):PSDs X T Z [st] m:=Bl h1
noncomputable def lu (m:DE W):DSt:=fun env bx=>bindS (m env bx) fun _ bx1=>.nx env bx1
theorem oU (h:PD X T Z e ma) (hs:swapsWith e none pos.line X.env=pure false:=by rfl):PSD X T Z (.Expr e pos) (lu ma):=by
  refine PS.imp (Gp h hs) fun D σ H ⟨F,r,env,bx,R,h⟩=>?_
  exact ⟨F,r,env,bx,R,End.bindS h fun w bx1 F1 r1 v H1 g1 R1 d1 h1=>h1 F1 r1 σ H1 (.refl F1 r1) R1⟩
noncomputable def gc (m:DE W):DSt:=fun env bx=>bindS (m env bx) fun w bx1=>.rt w bx1
theorem fG (h:PD X T Z e ma):PSD X T Z (.Return (some e) pos) (gc ma):=by
  refine PS.imp (CL h) fun D σ H ⟨F,r,env,bx,R,h⟩=>?_
  exact ⟨F,r,env,bx,R,End.bindS h fun w bx1 F1 r1 v H1 g1 R1 d1 h1=>h1 F1 r1 v H1 (.refl F1 r1) R1.drop d1⟩
noncomputable def sIf (t:DE Bool) (m k:DSt):DSt:=fun env bx=>bindS (t env bx) fun b bx1=>match b with | true=>m env bx1 | false=>k env bx1
theorem gR {sa sb:List Stmt} (hc:PDT X T Z c tc) (ha:PSDs X T Z sa m) (hb:PSDs X T Z sb k):PSD X T Z (.If c sa sb pos) (sIf tc m k):=by
  refine PS.imp (M9 hc ha hb) fun D σ H ⟨F,r,env,bx,R,h⟩=>?_
  refine ⟨F,r,env,bx,R,End.bindS h fun w bx1 F1 r1 v H1 g1 R1 d1 h1=>?_⟩
  subst d1
  cases w with
  | true=>rw [if_pos rfl];exact ⟨F1,r1,env,bx1,R1,h1⟩
  | false=>rw [if_neg (by decide)];exact ⟨F1,r1,env,bx1,R1,h1⟩
noncomputable abbrev DG:=W->DEnv->List Bx->Option (DEnv × List Bx)
noncomputable abbrev DGs:=List W->DEnv->List Bx->Option (DEnv × List Bx)
noncomputable def EndG (T:Fr) (F:Hp) (r:List Addr) (Q:St->Hp->Prop):Option (DEnv × List Bx)->Prop
  | none=>False
  | some (env',bx')=>∀ F' r' σ' H',Grow F r F' r'->Rel T F' r' σ' H' env' bx'->Q σ' H'
noncomputable def tG (T:Fr) (g:DG):TG:=fun v σ H Q=>∃ F r env bx w,Rel T F r σ H env bx /\ DenW F r w v /\ EndG T F r Q (g w env bx)
noncomputable def tGs (T:Fr) (g:DGs):TGs:=fun vs σ H Q=>∃ F r env bx ws,Rel T F r σ H env bx /\ DenWs F r ws vs /\ EndG T F r Q (g ws env bx)
noncomputable def PGD (X:Cx) (T:Fr) (tg:Expr) (g:DG):Prop:=PG X tg (tG T g)
noncomputable def PGDs (X:Cx) (T:Fr) (tg:List Expr) (g:DGs):Prop:=PGs X tg (tGs T g)
theorem PG.imp {X:Cx}{tg:Expr}{t t':TG} (h:PG X tg t) (f:∀ v σ H Q,t' v σ H Q->t v σ H Q):PG X tg t':=fun pins s σ H v u Q I r q=>h pins s σ H v u Q I r (f v σ H Q q)
theorem PGs.imp {X:Cx}{tg:List Expr}{t t':TGs} (h:PGs X tg t) (f:∀ v σ H Q,t' v σ H Q->t v σ H Q):PGs X tg t':=fun pins s σ H v u Q I r q=>h pins s σ H v u Q I r (f v σ H Q q)
noncomputable def fk (i:Nat):DG:=fun w env bx=>some (env.set i (some w),bx)
theorem Rel.set {F H:Hp}{r:List Addr}{σ:St}{env:DEnv}{bx:List Bx} (R:Rel T F r σ H env bx) {w:W}{v:V} (d:DenW F r w v) (i:Nat):Rel T F r (σ.set i (some v)) H (env.set i (some w)) bx:=by
  refine ⟨R.fh,fun j w' e=>?_,R.len,R.nd,R.box,R.keep,R.new,R.n0,by rw [List.length_set,List.length_set];exact R.sl,R.fs⟩
  by_cases hj:j=i
  . subst hj
    have hl:j < env.length:=by
      have:=(List.getElem?_eq_some_iff.mp e).1
      rw [List.length_set] at this
      exact this
    rw [List.getElem?_set_self hl] at e
    cases e
    exact ⟨v,List.getElem?_set_self (Nat.lt_of_lt_of_le hl R.sl),d⟩
  . rw [List.getElem?_set_ne (Ne.symm hj)] at e
    obtain ⟨u,e1,e2⟩:=R.slot j w' e
    exact ⟨u,by rw [List.getElem?_set_ne (Ne.symm hj)];exact e1,e2⟩
theorem fL (i:Nat) {x:Str} (hN:X.N.Nodup) (hi:X.N[i]?=some x:=by rfl) (hx:Loc X.env.scope x:=by first | exact Or.inl rfl | exact Or.inr rfl) (hf:X.fn x=true \/ X.env.scope.names.lookup x=some .local:=by first | exact .inl rfl | exact .inr rfl | assumption):PGD X T (.Name x pos) (fk i) :=
  PG.imp (Mg hN hi hx hf) fun v σ H Q ⟨F,r,env,bx,w,R,d,h⟩=>h F r _ H (.refl F r) (R.set d i)
noncomputable def i4:DGs:=fun ws env bx=>match ws with | []=>some (env,bx) | _=>none
noncomputable def fR (g:DG) (k:DGs):DGs:=fun ws env bx=>match ws with | w :: l=>(g w env bx).bind fun (env1,bx1)=>k l env1 bx1 | _=>none
theorem lv:PGDs X T [] i4:=PGs.imp Mh fun v σ H Q ⟨F,r,env,bx,w,R,d,h⟩=>by
  cases w with
  | nil=>exact ⟨d,h F r σ H (.refl F r) R⟩
  | cons _ _=>exact h.elim
theorem Jm {g:DG}{k:DGs} (h1:PGD X T e g) (h2:PGDs X T es k) (hs:(assignEach (e :: es) X.env).map (·.2)=assign e X.env :: (assignEach es X.env).map (·.2):=by rfl):PGDs X T (e :: es) (fR g k):=by
  refine PGs.imp (JU h1 h2 hs) fun v σ H Q ⟨F,r,env,bx,ws,R,d,h⟩=>?_
  cases ws with
  | nil=>exact h.elim
  | cons w l =>
    obtain ⟨u,t,rfl,d1,d2⟩:=d
    refine ⟨u,t,rfl,F,r,env,bx,w,R,d1,?_⟩
    unfold fR at h
    cases eg:g w env bx with
    | none=>simp only [eg] at h;exact h.elim
    | some o =>
      obtain ⟨env1,bx1⟩:=o
      simp only [eg,Option.bind_some] at h
      intro F1 r1 σ1 H1 g1 R1
      refine ⟨F1,r1,env1,bx1,l,R1,d2.mono g1,?_⟩
      cases ek:k l env1 bx1 with
      | none=>simp only [ek] at h;exact h.elim
      | some o2 =>
        simp only [ek] at h
        exact fun F2 r2 σ2 H2 g2 R2=>h F2 r2 σ2 H2 (g1.trans g2) R2
theorem DenL.ws {F:Hp}{r:List Addr}:∀ {l:List D}{vs:List V},DenL F l vs->DenWs F r (l.map W.d) vs
  | [],_,h=>h
  | d :: l,_,h=>by
    obtain ⟨v,t,e,h1,h2⟩:=h
    exact ⟨v,t,e,h1,h2.ws⟩
noncomputable def iS (n:Nat) (k:DGs):DG:=fun w env bx=>match w with | .d (.tup l)=>if l.length=n then k (l.map W.d) env bx else none | _=>none
theorem MB {k:DGs}{n i:Nat} (hc:X.calm=true) (h:PGDs X T es k) (hn:(assignEach es X.env).length=n:=by rfl) (hst:(assignEach es X.env).findIdx? (·.1)=none:=by rfl):PGD X T (.Tuple es i pos) (iS n k):=by
  refine PG.imp (Nx hc h hn hst) fun v σ H Q ⟨F,r,env,bx,w,R,d,h⟩=>?_
  unfold iS at h
  split at h
  . rename_i l
    split at h
    . rename_i hl
      obtain ⟨p,vs,rfl,h1,h2⟩:=d
      exact ⟨p,vs,rfl,.of (R.fh _ _ h1),by rw [<-h2.length];exact hl,F,r,env,bx,_,R,h2.ws,h⟩
    . exact h.elim
  . exact h.elim
noncomputable def fY (m:DE W) (g:DG):DSt:=fun env bx=>bindS (m env bx) fun w bx1=>match g w env bx1 with | some (env1,bx2)=>.nx env1 bx2 | none=>.bad
theorem OI {g:DG}{D:Ends}{σ:St}{H:Hp} (h:tS T Z (fY ma g) D σ H):tAsg (tD T Z ma) (tG T g) D σ H:=by
  obtain ⟨F,r,env,bx,R,h⟩:=h
  refine ⟨F,r,env,bx,R,End.bindS h fun w bx1 F1 r1 v H1 g1 R1 d1 h1=>⟨F1,r1,env,bx1,w,R1,d1,?_⟩⟩
  cases eg:g w env bx1 with
  | none=>simp only [eg] at h1;exact h1.elim
  | some o=>simp only [eg] at h1;exact h1
theorem CY {tg:Expr}{g:DG} (he:PD X T Z e ma) (hg:PGD X T tg g) (hs:swapsWithSole [tg] e pos.line X.env=pure false:=by rfl) (hw:swappedStores [tg] e X.env=pure none:=by rfl)
    (h1:(assignEach [tg] X.env).map (·.2)=[assign tg X.env]:=by rfl):PSD X T Z (.Assign [tg] e pos) (fY ma g) :=
  PS.imp (Nz he hg hs hw h1) fun D σ H h=>OI h
theorem gk (i:Nat) {x:Str}{pos':Pos} (he:PD X T Z e ma) (hN:X.N.Nodup) (hi:X.N[i]?=some x:=by rfl) (hx:Loc X.env.scope x:=by first | exact Or.inl rfl | exact Or.inr rfl) (hs:swapsWith e (some (.Name x pos')) pos.line X.env=pure false:=by rfl) (hf:X.fn x=true \/ X.env.scope.names.lookup x=some .local:=by first | exact .inl rfl | exact .inr rfl | assumption) :
    PSD X T Z (.Assign [.Name x pos'] e pos) (fY ma (fk i)):=by
  refine PS.imp (AT hN hi hx he hs hf) fun D σ H ⟨F,r,env,bx,R,h⟩=>?_
  exact ⟨F,r,env,bx,R,End.bindS h fun w bx1 F1 r1 v H1 g1 R1 d1 h1=>h1 F1 r1 _ H1 (.refl F1 r1) (R1.set d1 i)⟩
noncomputable def sPar (i j:Nat) (m:DE (List W)):DSt:=fun env bx=>bindS (m env bx) fun ws bx1=>match ws with | [x,y]=>.nx ((env.set i (some x)).set j (some y)) bx1 | _=>.bad
theorem OJ {i j:Nat}{m:DE (List W)}{D:Ends}{σ:St}{H:Hp} (h:tS T Z (sPar i j m) D σ H):tPar i j (tDA T Z m) D σ H:=by
  obtain ⟨F,r,env,bx,R,h⟩:=h
  refine ⟨F,r,env,bx,R,End.bindS h fun ws bx1 F1 r1 vs H1 g1 R1 d1 h1=>?_⟩
  split at h1
  . obtain ⟨v,t,rfl,q1,u,t2,rfl,q2,q3⟩:=d1
    cases (show t2=[] from q3)
    exact ⟨v,u,rfl,h1 F1 r1 _ H1 (.refl F1 r1) ((R1.set q1 i).set q2 j)⟩
  . exact h1.elim
noncomputable def Yields (F:Hp) (r:List Addr) (ds:List W) (J:It):Prop :=
  ∀ (T:Fr) (i:Nat) (F1:Hp) (r1:List Addr) (σ1:St) (H1:Hp) (env1:DEnv) (bx1:List Bx),Grow F r F1 r1->Rel T F1 r1 σ1 H1 env1 bx1 ->
    (ds.length=i->J.stop i H1) /\ ∀ w,ds[i]?=some w->J.go i H1 /\ ∀ x H2,J.yld i H1 x H2->∃ F2,Grow F1 r1 F2 r1 /\ Rel T F2 r1 σ1 H2 env1 bx1 /\ DenW F2 r1 w x
noncomputable def tI (T:Fr) (Z:Xs) (m:DE (List W)):TI:=fun σ H R=>∃ F r env bx,Rel T F r σ H env bx /\ End T Z Yields F r σ env R (m env bx)
noncomputable def PID (X:Cx) (T:Fr) (Z:Xs) (tg iter:Expr) (m:DE (List W)):Prop:=PI X tg iter (tI T Z m)
theorem PI.imp {X:Cx}{tg iter:Expr}{t t':TI} (h:PI X tg iter t) (f:∀ σ H Q,t' σ H Q->t σ H Q):PI X tg iter t':=fun pins s σ H R I q=>h pins s σ H R I (f σ H R q)
noncomputable def forD (g:DG) (body:DSt):List W->DSt
  | [],env,bx=>.nx env bx
  | w :: l,env,bx=>match g w env bx with
    | none=>.bad
    | some (env1,bx1)=>match body env1 bx1 with
      | .nx env2 bx2=>forD g body l env2 bx2
      | .ct env2 bx2=>forD g body l env2 bx2
      | .bk env2 bx2=>.nx env2 bx2
      | o=>o
noncomputable def iZ (m:DE (List W)) (g:DG) (body:DSt):DSt:=fun env bx=>bindS (m env bx) fun ds bx1=>forD g body ds env bx1
theorem OK {mi:DE (List W)}{g:DG}{D:Ends}{σ:St}{H:Hp} (h:tS T Z (iZ mi g m) D σ H):tFor (tI T Z mi) (tG T g) (tS T Z m) D σ H:=by
  obtain ⟨F,r,env,bx,R,h⟩:=h
  refine ⟨F,r,env,bx,R,End.bindS h fun ds bx1 F1 r1 J H1 g1 R1 y1 h1=>?_⟩
  refine ⟨fun i n σ' H'=>∃ pre l F' r' env' bx',ds=pre ++ l /\ pre.length=i /\ n=l.length /\ Grow F1 r1 F' r' /\ Rel T F' r' σ' H' env' bx' /\ EndS T Z F' r' D (forD g m l env' bx'),⟨ds.length,[],ds,F1,r1,env,bx1,rfl,rfl,rfl,.refl F1 r1,R1,h1⟩,?_⟩
  rintro i n σ' H' ⟨pre,l,F',r',env',bx',hds,hi,hn,g',R',h'⟩
  obtain ⟨ys,yg⟩:=y1 T i F' r' σ' H' env' bx' g' R'
  cases l with
  | nil=>exact .inl ⟨ys (by rw [hds,List.append_nil];omega),h' F' r' σ' H' (.refl F' r') R'⟩
  | cons w l =>
    obtain ⟨go,yl⟩:=yg w (by rw [hds,List.getElem?_append_right (by omega),hi,Nat.sub_self];rfl)
    refine .inr ⟨go,fun σ2 H2=>∃ F2 r2 env2 bx2,Grow F1 r1 F2 r2 /\ Rel T F2 r2 σ2 H2 env2 bx2 /\ EndS T Z F2 r2 D (forD g m l env2 bx2),fun σ2 H2 ⟨F2,r2,env2,bx2,g2,R2,h2⟩=>⟨l.length,by rw [hn];exact Nat.lt_succ_self _,pre ++ [w],l,F2,r2,env2,bx2,by rw [hds,List.append_assoc];rfl,by rw [List.length_append,hi];rfl,rfl,g2,R2,h2⟩,fun x H2 hy=>?_⟩
    obtain ⟨F2,g2,R2,d2⟩:=yl x H2 hy
    refine ⟨F2,r',env',bx',w,R2,d2,?_⟩
    simp only [forD] at h'
    cases eg:g w env' bx' with
    | none=>simp only [eg] at h';exact h'.elim
    | some o =>
      obtain ⟨env3,bx3⟩:=o
      simp only [eg] at h'
      intro F3 r3 σ3 H3 g3 R3
      refine ⟨F3,r3,env3,bx3,R3,?_⟩
      have gg:=(g'.trans g2).trans g3
      cases em:m env3 bx3 with
      | nx env4 bx4=>simp only [em] at h';exact fun F4 r4 σ4 H4 g4 R4=>⟨F4,r4,env4,bx4,gg.trans g4,R4,EndS.weak ((g2.trans g3).trans g4) h'⟩
      | ct env4 bx4=>simp only [em] at h';exact fun F4 r4 σ4 H4 g4 R4=>⟨F4,r4,env4,bx4,gg.trans g4,R4,EndS.weak ((g2.trans g3).trans g4) h'⟩
      | bk env4 bx4=>simp only [em] at h';exact fun F4 r4 σ4 H4 g4 R4=>h' F4 r4 σ4 H4 ((g2.trans g3).trans g4) R4
      | rt w bx4=>simp only [em] at h';exact EndS.weak (g2.trans g3) (o:=.rt w bx4) h'
      | exc c bx4=>simp only [em] at h';exact EndS.weak (g2.trans g3) (o:=.exc c bx4) h'
      | bad=>simp only [em] at h';exact h'
theorem js {tg iter:Expr}{body:List Stmt}{mi:DE (List W)}{g:DG} (hp:PassesOwn (model X.prog X.w) X.A X.env X.xe) (hc:X.calm=true) (hi:PID X T Z tg iter mi) (hg:PGD X T tg g) (hb:PSDs X T Z body m)
    (hs:∀ x,foldedSetIterable iter X.env x=pure x:=by intro _;rfl):PSD X T Z (.For tg iter body [] pos) (iZ mi g m) :=
  PS.imp (NB hp hc hi hg hb hs) fun D σ H h=>OK h
noncomputable def dIter (m:DE W):DE (List W):=fun env bx=>fO (m env bx) fun w bx1=>match w with | .d (.lst l)=>.val (l.map W.d) bx1 | .d (.tup l)=>.val (l.map W.d) bx1 | _=>.bad
end
end L2.DL
set_option Elab.async false
set_option linter.all false
set_option maxRecDepth 100000
set_option maxHeartbeats 4000000
namespace L2.DL
open PySem PySem.Spec PyProof.Rows
noncomputable def retO:OS->O W
  | .rt w bx=>.val w bx
  | .nx _ bx=>.val (.d .non) bx
  | .exc c bx=>.exc c bx
  | _=>.bad
noncomputable def cutO (n:Nat):O W->O W
  | .val (.d x) bx=>.val (.d x) (bx.take n)
  | .val w bx=>.val w bx
  | .exc c bx=>.exc c (bx.take n)
  | .bad=>.bad
noncomputable def envOf (n:Nat) (ws:List W):DEnv:=ws.map some ++ List.replicate (n - ws.length) none
noncomputable def fnD (n:Nat) (m:DSt):List W->List Bx->O W:=fun ws bx=>cutO bx.length (retO (m (envOf n ws) bx))
noncomputable def noX (m:DSt):DSt:=fun env bx=>match m env bx with | .exc _ _=>.bad | o=>o
theorem DenWs.get {F:Hp}{r:List Addr}:∀ {l:List W}{vs:List V}{i:Nat}{d:W},DenWs F r l vs->l[i]?=some d->∃ v,vs[i]?=some v /\ DenW F r d v
  | [],_,_,_,_,e=>by simp at e
  | x :: l,_,0,d,h,e=>by
    obtain ⟨v,t,q,h1,_⟩:=h
    simp at e
    subst e
    subst q
    exact ⟨v,rfl,h1⟩
  | x :: l,_,i + 1,d,h,e=>by
    obtain ⟨v,t,q,_,h2⟩:=h
    subst q
    obtain ⟨u,e1,e2⟩:=DenWs.get (i:=i) h2 (by simpa using e)
    exact ⟨u,by simpa using e1,e2⟩
theorem Rel.start {T:Fr}{F H:Hp}{r:List Addr}{bx:List Bx}{N:List Str}{ws:List W}{vs:List V} (R:Rel T F r [] H [] bx) (d:DenWs F r ws vs):Rel T F r (start N vs) H (envOf N.length ws) bx:=by
  have hl:=d.length
  refine ⟨R.fh,fun i w e=>?_,R.len,R.nd,R.box,R.keep,R.new,R.n0,?_,R.fs⟩
  . unfold envOf at e
    unfold L2.start
    by_cases hi:i < ws.length
    . rw [List.getElem?_append_left (by rw [List.length_map];exact hi),List.getElem?_map] at e
      cases q:ws[i]? with
      | none=>rw [q] at e;cases e
      | some w' =>
        rw [q] at e
        cases e
        obtain ⟨v,e1,e2⟩:=d.get q
        refine ⟨v,?_,e2⟩
        rw [List.getElem?_append_left (by rw [List.length_map,<-hl];exact hi),List.getElem?_map,e1]
        rfl
    . rw [List.getElem?_append_right (by rw [List.length_map];omega)] at e
      rw [List.getElem?_replicate] at e
      split at e <;> cases e
  . unfold envOf L2.start
    rw [List.length_append,List.length_append,List.length_map,List.length_map,List.length_replicate,List.length_replicate,hl]
    exact Nat.le_refl _
theorem Ll {α:Type}{l l':List α} (h:l <+: l'):l'.take l.length=l:=by
  obtain ⟨t,rfl⟩:=h
  simp
theorem Rel.cut {F F' H H':Hp}{r r':List Addr}{bx':List Bx} (g:Grow F r F' r') (R:Rel ⟨H,r.length,F⟩ F' r' [] H' [] bx'):Rel ⟨H,r.length,F⟩ F' r [] H' [] (bx'.take r.length):=by
  have hr:r'.take r.length=r:=Ll g.p
  have hle:r.length <= r'.length:=g.p.length_le
  have pre:∀ (n:Nat) (a:Addr),r[n]?=some a->r'[n]?=some a:=fun n a e=>by
    obtain ⟨t,rfl⟩:=g.p
    rw [List.getElem?_append_left (List.getElem?_eq_some_iff.mp e).1]
    exact e
  refine ⟨R.fh,fun i w e=>by simp at e,?_,?_,fun n c a e1 e2=>?_,fun a u e hn=>?_,fun n a hn e=>?_,Nat.le_refl _,Nat.le_refl _,fun a u e=>?_⟩
  . rw [List.length_take,<-R.len];omega
  . exact List.Sublist.nodup (List.IsPrefix.sublist g.p) R.nd
  . have hlt:=(List.getElem?_eq_some_iff.mp e2).1
    rw [List.getElem?_take_of_lt hlt] at e1
    exact R.box n c a e1 (pre n a e2)
  . refine R.keep a u e fun z=>?_
    obtain ⟨m,em⟩:=List.mem_iff_getElem?.mp z
    by_cases hm:m < r.length
    . have q:=pre m _ (List.getElem?_eq_getElem hm)
      rw [em] at q
      cases q
      exact hn (List.getElem_mem hm)
    . have q:=R.new m a (Nat.le_of_not_lt hm) em
      have e':H a=some u:=e
      have q':H a=none:=q
      rw [e'] at q';cases q'
  . rw [List.getElem?_eq_none hn] at e;cases e
  . rcases R.fs a u e with z | z | z
    . exact .inl z
    . exact .inr (.inl z)
    . obtain ⟨m,em⟩:=List.mem_iff_getElem?.mp z
      by_cases hm:m < r.length
      . have q:=pre m _ (List.getElem?_eq_getElem hm)
        rw [em] at q
        cases q
        exact .inr (.inr (List.getElem_mem hm))
      . exact .inr (.inl (R.new m a (Nat.le_of_not_lt hm) em))
theorem GC {F H:Hp}{r:List Addr}{Q:VK}{Z:Xs}{bx:List Bx} (hb:bx.length=r.length) {o:O W} (h:End ⟨H,r.length,F⟩ Z DenW F r [] [] Q (cutO bx.length o)):End ⟨H,r.length,F⟩ Z DenW F r [] [] Q o:=by
  rw [hb] at h
  cases o with
  | bad=>exact h
  | exc c bx1=>exact fun F' r' H' g R=>h F' r H' ⟨g.s,List.prefix_refl r⟩ (R.cut g)
  | val w bx1 =>
    cases w with
    | d x=>exact fun F' r' v H' g R d=>h F' r v H' ⟨g.s,List.prefix_refl r⟩ (R.cut g) d
    | b n=>exact h
    | s l=>exact h
    | x i=>exact h
theorem GD {T:Fr}{Z:Xs}{F:Hp}{r:List Addr}{Q:VK}{o:OS} (h:End T Z DenW F r [] [] Q (retO o)):EndS T Z F r { nx:=fun _ H'=>Q .non H',rt:=Q } o:=by
  cases o with
  | nx env bx=>exact fun F' r' σ' H' g R=>h F' r' .non H' g R.drop rfl
  | rt w bx=>exact fun F' r' v H' g R d=>h F' r' v H' g R d
  | exc c bx=>exact h
  | bk env bx=>exact (show False from h).elim
  | ct env bx=>exact (show False from h).elim
  | bad=>exact h
section
variable {P : Program} {w : World} {K : PySem.W.Frag} {mg : Str -> Option Value} {base : Heap} {x qual : Str} {st : Stmt} {f : Addr} {fd : FuncData} {N ps : List Str} {k : Nat} {m : DSt} {cl : Nat -> Addr}
theorem Pq (F:Fun K x qual st f fd) (S:FnScope N ps (fq st))
    (hbody:∀ (cdv:Value) (A:Around) (outer:List Env) (s:Shared) (H:Hp) (E:XK) (n:Nat) (F0:Hp),Room k (A.deeper (envOfC qual (fq st) s.heap.objs.size f cdv)) ->
      PSDs (cxOf (CXr P w) P w K mg base N qual (fq st) f cdv A outer s H E) ⟨H,n,F0⟩ ⟨E,cl⟩ (fH st) m):FnOk P w K mg base (CXr P w) (k + 1) f fd ps (spD cl ps.length (fnD N.length m)):=by
  refine F.okX S (fun vs H Q E h=>?_) (fun cdv A outer s H vs Q E hr h=>?_)
  . obtain ⟨F,r,ws,bx,_,d,hl,_⟩:=h
    rw [<-d.length];exact hl
  . obtain ⟨F,r,ws,bx,R,d,hl,h⟩:=h
    exact ⟨_,hbody cdv A outer s H E r.length F hr,F,r,envOf N.length ws,bx,R.start d,GD (GC R.len.symm h)⟩
theorem OL {CX:CXT}{sp:Sp} (G:FnOk P w K mg base CX0 k f fd ps sp):FnOk P w K mg base CX k f fd ps sp :=
  ⟨G.len,fun A outer s H args us vs Q E hr e0 hb hv hs=>codeAny_mono (G.run A outer s H args us vs Q E hr e0 hb hv hs) fun r s' h=>by
    cases r with
    | error e=>exact False.elim h
    | ok fl =>
      cases fl with
      | ret u=>exact h
      | next=>exact h
      | brk=>exact h
      | cont=>exact h⟩
theorem OM (F:Fun K x qual st f fd) (S:FnScope N ps (fq st))
    (hbody:∀ (cdv:Value) (A:Around) (outer:List Env) (s:Shared) (H:Hp) (E:XK) (n:Nat) (F0:Hp),Room k (A.deeper (envOfC qual (fq st) s.heap.objs.size f cdv)) ->
      PSDs (cxOf CX0 P w K mg base N qual (fq st) f cdv A outer s H E).nox ⟨H,n,F0⟩ ⟨E0,cl⟩ (fH st) m):FnOk P w K mg base (CXr P w) (k + 1) f fd ps (spD cl ps.length (fnD N.length (noX m))):=by
  refine OL (F.ok S (fun vs H Q E h=>?_) (fun cdv A outer s H vs Q E hr h=>?_))
  . obtain ⟨F,r,ws,bx,_,d,hl,_⟩:=h
    rw [<-d.length];exact hl
  . obtain ⟨F,r,ws,bx,R,d,hl,h⟩:=h
    refine ⟨_,hbody cdv A outer s H E r.length F hr,F,r,envOf N.length ws,bx,R.start d,?_⟩
    have h':=GD (GC R.len.symm h)
    unfold noX at h'
    cases e:m (envOf N.length ws) bx with
    | nx env bx1=>simp only [e] at h';exact h'
    | rt w bx1=>simp only [e] at h';exact h'
    | bk env bx1=>simp only [e] at h';exact h'
    | ct env bx1=>simp only [e] at h';exact h'
    | exc c bx1=>simp only [e] at h';exact h'.elim
    | bad=>simp only [e] at h';exact h'
end
theorem fz {X:Cx}:Passes (CXr X.prog X.w) X E0:=fun _ _ _ _ _ _ _ h=>by
  obtain ⟨_,_,_,_,_,_,_,_,_,_,_,_,_,h⟩:=h
  exact h.elim
section
variable {X : Cx} {T : Fr} {Z : Xs} {m : DSt} {sts : List Stmt}
end
noncomputable def bindB {α β:Type} (m:O α) (k:α->List Bx->O β):O β :=
  match m with
  | .val a bx=>k a bx
  | _=>.bad
noncomputable def compD (g:DG) (tf:DE Bool) (te:DE W):List W->DEnv->List Bx->List D->O (List D)
  | [],_,bx,acc=>.val acc bx
  | w :: l,env,bx,acc=>match g w env bx with
    | none=>.bad
    | some (env1,bx1)=>bindB (tf env1 bx1) fun b bx2=>match b with
      | false=>compD g tf te l env1 bx2 acc
      | true=>bindB (te env1 bx2) fun y bx3=>match y with
        | .d d=>if acc.length < sizeLine then compD g tf te l env1 bx3 (acc ++ [d]) else .bad
        | _=>.bad
noncomputable def srcEnv (src:List (Option Nat)) (env:DEnv):DEnv:=src.map fun o=>o.bind fun i=>(env[i]?).bind id
noncomputable def gT (bo:Bool) (src:List (Option Nat)) (mi:DE (List W)) (g:DG) (tf:DE Bool) (te:DE W):DE W:=fun env bx =>
  fO (mi env bx) fun ds bx1=>fO (compD g tf te ds (srcEnv src env) bx1 []) fun l bx2=>resO bo (some (.lst l)) bx2
theorem Rel.src {T:Fr}{F H:Hp}{r:List Addr}{σ:St}{env:DEnv}{bx:List Bx} (R:Rel T F r σ H env bx) (src:List (Option Nat)):Rel T F r (srcSt src σ) H (srcEnv src env) bx:=by
  refine ⟨R.fh,fun j w e=>?_,R.len,R.nd,R.box,R.keep,R.new,R.n0,?_,R.fs⟩
  . unfold srcEnv at e
    unfold L2.srcSt
    rw [List.getElem?_map] at e ⊢
    cases q:src[j]? with
    | none=>rw [q] at e;cases e
    | some o =>
      rw [q] at e
      cases o with
      | none=>cases e
      | some i =>
        have e':(env[i]?).bind id=some w:=Option.some.inj e
        cases z:env[i]? with
        | none=>rw [z] at e';cases e'
        | some o' =>
          rw [z] at e'
          have e2:o'=some w:=e'
          subst e2
          obtain ⟨v,e1,e2⟩:=R.slot i w z
          exact ⟨v,by simp [e1],e2⟩
  . unfold srcEnv L2.srcSt
    rw [List.length_map,List.length_map]
    exact Nat.le_refl _
theorem Rel.inner {T:Fr}{F F' H H':Hp}{r r':List Addr}{σ σ':St}{env env':DEnv}{bx bx':List Bx} (R:Rel T F r σ H env bx) (g:Grow F r F' r') (R':Rel ⟨H,r.length,F⟩ F' r' σ' H' env' bx'):Rel T F' r' σ' H' env' bx':=by
  have q:=R.after g R'.drop
  exact ⟨q.fh,R'.slot,q.len,q.nd,q.box,q.keep,q.new,q.n0,R'.sl,q.fs⟩
theorem Rel.again {T:Fr}{F H:Hp}{r:List Addr}{σ:St}{env:DEnv}{bx:List Bx} (R:Rel T F r σ H env bx):Rel ⟨H,r.length,F⟩ F r σ H env bx :=
  ⟨R.fh,R.slot,R.len,R.nd,R.box,fun a u e _=>e,fun n a hn e=>(by rw [List.getElem?_eq_none hn] at e;cases e),Nat.le_refl _,R.sl,fun a u e=>.inl e⟩
structure Own (F:Hp) (r:List Addr) (H:Hp) (a:Addr) (vs:List V):Prop where
  h:H a=some (.lst vs)
  f:F a=none
  b:a ∉ r
theorem Own.inner {F F' H H':Hp}{r r':List Addr}{σ':St}{env':DEnv}{bx':List Bx}{a:Addr}{vs:List V} (o:Own F r H a vs) (g:Grow F r F' r') (R':Rel ⟨H,r.length,F⟩ F' r' σ' H' env' bx'):Own F' r' H' a vs:=by
  have hb:a ∉ r':=fun z=>by
    obtain ⟨m,em⟩:=List.mem_iff_getElem?.mp z
    by_cases hm:m < r.length
    . obtain ⟨t,e⟩:=g.p
      rw [<-e,List.getElem?_append_left hm] at em
      exact o.b (List.mem_iff_getElem?.mpr ⟨m,em⟩)
    . have q:H a=none:=R'.new m a (Nat.le_of_not_lt hm) em
      rw [o.h] at q;cases q
  refine ⟨R'.keep a _ o.h hb,?_,hb⟩
  cases q:F' a with
  | none=>rfl
  | some u =>
    rcases R'.fs a u q with z | z | z
    . have z':F a=some u:=z
      rw [o.f] at z';cases z'
    . have z':H a=none:=z
      rw [o.h] at z';cases z'
    . exact absurd z hb
end L2.DL
set_option Elab.async false
set_option linter.all false
set_option maxRecDepth 100000
set_option maxHeartbeats 4000000
namespace L2.DL
open PySem PySem.Spec PyProof.Rows
section
variable {T : Fr} {F H : Hp} {r : List Addr} {σ : St} {env : DEnv} {bx : List Bx}
theorem Rel.priv (R:Rel T F r σ H env bx) {p:Addr}{o:HO} (h:H p=none):Rel T F r σ (upd H p o) env bx:=by
  have hs:∀ a u,H a=some u->upd H p o a=some u:=fun a u e=>by rw [fM (fZ e h)];exact e
  exact ⟨fun a u e=>hs a u (R.fh a u e),R.slot,R.len,R.nd,fun n c a e1 e2=>(R.box n c a e1 e2).grow (Sub.refl F) id (hs a),fun a u e hn=>hs a u (R.keep a u e hn),R.new,R.n0,R.sl,R.fs⟩
theorem Rel.privSet (R:Rel T F r σ H env bx) {p:Addr}{vs:List V}{o:HO} (w:Own F r H p vs) (hT:T.H₀ p=none):Rel T F r σ (upd H p o) env bx:=by
  refine ⟨fun a u e=>?_,R.slot,R.len,R.nd,fun n c a e1 e2=>?_,fun a u e hn=>?_,R.new,R.n0,R.sl,R.fs⟩
  . rw [fM (fun z=>by rw [z,w.f] at e;cases e)];exact R.fh a u e
  . have ha:a ≠ p:=fun z=>w.b (List.mem_iff_getElem?.mpr ⟨n,z ▸ e2⟩)
    exact (R.box n c a e1 e2).grow (Sub.refl F) id fun u z=>by rw [fM ha];exact z
  . rw [fM (fun z=>by rw [z,hT] at e;cases e)];exact R.keep a u e hn
theorem Rel.adoptD (R:Rel T F r σ H env bx) {p:Addr}{vs:List V} (w:Own F r H p vs) (hT:T.H₀ p=none):Rel T (upd F p (.lst vs)) r σ H env bx /\ Grow F r (upd F p (.lst vs)) r:=by
  have s:=CW (o:=.lst vs) w.f
  refine ⟨⟨fun a u e=>?_,fun i w e=>?_,R.len,R.nd,fun n c a e1 e2=>?_,R.keep,R.new,R.n0,R.sl,fun a u e=>?_⟩,s,List.prefix_refl r⟩
  . by_cases ha:a=p
    . subst ha;rw [fX] at e;cases e;exact w.h
    . rw [fM ha] at e;exact R.fh a u e
  . obtain ⟨v,e1,e2⟩:=R.slot i w e
    exact ⟨v,e1,e2.mono s (List.prefix_refl r)⟩
  . have ha:a ≠ p:=fun z=>w.b (List.mem_iff_getElem?.mpr ⟨n,z ▸ e2⟩)
    exact (R.box n c a e1 e2).grow s (fun z=>by rw [fM ha];exact z) fun u z=>z
  . by_cases ha:a=p
    . subst ha;exact .inr (.inl hT)
    . rw [fM ha] at e;exact R.fs a u e
theorem Rel.adoptB (R:Rel T F r σ H env bx) {p:Addr}{vs:List V}{l:List D} (w:Own F r H p vs) (hT:T.H₀ p=none) (d:DenL F l vs):Rel T F (r ++ [p]) σ H env (bx ++ [.lst l]) /\ Grow F r F (r ++ [p]) /\ (r ++ [p])[bx.length]?=some p:=by
  have hx:(r ++ [p])[bx.length]?=some p:=by rw [<-R.len,List.getElem?_append_right (Nat.le_refl _),Nat.sub_self];rfl
  have g:Grow F r F (r ++ [p]):=⟨Sub.refl F,List.prefix_append r [p]⟩
  refine ⟨⟨R.fh,fun i w e=>?_,by rw [List.length_append,List.length_append,R.len];rfl,?_,fun n c' a e1 e2=>?_,fun a u e hn=>R.keep a u e fun z=>hn (List.mem_append_left _ z),fun n a hn e=>?_,by rw [List.length_append];exact Nat.le_trans R.n0 (Nat.le_add_right _ _),R.sl,fun a u e=>(R.fs a u e).imp id (Or.imp id fun z=>List.mem_append_left _ z)⟩,g,hx⟩
  . obtain ⟨v,e1,e2⟩:=R.slot i w e
    exact ⟨v,e1,g.den e2⟩
  . rw [List.nodup_append]
    refine ⟨R.nd,by simp,fun a ha b hb=>?_⟩
    rw [List.mem_singleton] at hb
    subst hb
    exact fun z=>w.b (z ▸ ha)
  . by_cases hn:n < r.length
    . rw [List.getElem?_append_left hn] at e2
      rw [List.getElem?_append_left (by rw [<-R.len];exact hn)] at e1
      exact R.box n c' a e1 e2
    . rw [List.getElem?_append_right (by omega)] at e2
      rw [List.getElem?_append_right (by rw [<-R.len];omega)] at e1
      have hl:n - r.length=0:=by
        cases q:n - r.length with
        | zero=>rfl
        | succ k=>rw [q] at e2;simp at e2
      have hl':n - bx.length=0:=by rw [<-R.len];exact hl
      rw [hl] at e2;rw [hl'] at e1
      simp at e1 e2
      subst e1 e2
      exact ⟨w.f,vs,w.h,d⟩
  . by_cases hl:n < r.length
    . rw [List.getElem?_append_left hl] at e
      exact R.new n a hn e
    . have hp:a=p:=by
        rw [List.getElem?_append_right (by omega)] at e
        cases q:n - r.length with
        | zero=>rw [q] at e;simp at e;exact e.symm
        | succ k=>rw [q] at e;simp at e
      subst hp
      exact hT
end
section
variable {X : Cx} {T : Fr} {Z : Xs} {N : List Str} {src : List (Option Nat)} {elt tg iter : Expr} {ifs : List Expr} {scope : Scope} {pos : Pos} {mi : DE (List W)} {g : DG} {tf : DE Bool} {te : DE W}
noncomputable abbrev gAny (g:DG):TG:=fun v σ H Q=>∃ T,tG T g v σ H Q
noncomputable abbrev fAny (Z:Xs) (tf:DE Bool):TT:=fun σ H Q=>∃ T,tDT T Z tf σ H Q
noncomputable abbrev eAny (Z:Xs) (te:DE W):TE:=fun σ H Q=>∃ T,tD T Z te σ H Q
theorem Rel.slots {T T':Fr}{F F' H H':Hp}{r r':List Addr}{σ σ':St}{env env':DEnv}{bx bx':List Bx} (R:Rel T F r σ H env bx) (g:Grow F r F' r') (R':Rel T' F' r' σ' H' env' bx'):Rel T' F' r' σ H' env bx' :=
  ⟨R'.fh,fun i w e=>let ⟨v,e1,e2⟩:=R.slot i w e;⟨v,e1,g.den e2⟩,R'.len,R'.nd,R'.box,R'.keep,R'.new,R'.n0,R.sl,R'.fs⟩
theorem NY {bo:Bool}{σ:St}{H:Hp}{Q:VK} (h:tD T Z (gT bo src mi g tf te) σ H Q):tComp src (tI T Z mi) (gAny g) (fAny ⟨E0,Z.cl⟩ tf) (eAny ⟨E0,Z.cl⟩ te) σ H Q:=by
  obtain ⟨F,r,env,bx,R,h⟩:=h
  refine ⟨F,r,env,bx,R,End.bind h fun ds bx1 F1 r1 J H1 g1 R1 y1 h1=>fun Da hD=>?_⟩
  have hT:T.H₀ Da=none:=by
    cases q:T.H₀ Da with
    | none=>rfl
    | some u=>rw [R1.keep Da u q (R1.notBox hD)] at hD;cases hD
  have o0:Own F1 r1 (upd H1 Da (.lst [])) Da []:=⟨fX,R1.fnone hD,R1.notBox hD⟩
  refine ⟨fun i n σ' H'=>∃ pre l F' r' env' bx' acc vs,ds=pre ++ l /\ pre.length=i /\ n=l.length /\ Grow F1 r1 F' r' /\ Rel T F' r' σ' H' env' bx' /\ Own F' r' H' Da vs /\ DenL F' acc vs /\
    End T Z DenW F' r' σ env Q (fO (compD g tf te l env' bx' acc) fun l bx2=>resO bo (some (.lst l)) bx2),
    ⟨ds.length,[],ds,F1,r1,_,bx1,[],[],rfl,rfl,rfl,.refl F1 r1,(R1.priv hD).src src,o0,.nil,h1⟩,?_⟩
  rintro i n σ' H' ⟨pre,l,F',r',env',bx',acc,vs,hds,hi,hn,g',R',o',da,h'⟩
  obtain ⟨ys,yg⟩:=y1 ⟨H',r'.length,F'⟩ i F' r' σ' H' env' bx' g' R'.again
  cases l with
  | nil =>
    refine .inl ⟨ys (by rw [hds,List.append_nil];omega),?_⟩
    have RO:Rel T F' r' σ H' env bx':=R1.slots g' R'
    have hd:End T Z DenW F' r' σ env Q (.val (.d (.lst acc)) bx')->Q (.ref Da) H':=fun h'=>by
      obtain ⟨RA,gA⟩:=RO.adoptD o' hT
      exact h' _ r' _ H' gA RA ⟨Da,vs,rfl,fX,DenL.mono gA.s acc da⟩
    cases bo with
    | false=>exact hd h'
    | true =>
      obtain ⟨RB,gB,hx⟩:=RO.adoptB o' hT da
      exact h' F' _ _ H' gB RB ⟨Da,rfl,hx⟩
  | cons w l =>
    obtain ⟨go,yl⟩:=yg w (by rw [hds,List.getElem?_append_right (by omega),hi,Nat.sub_self];rfl)
    refine .inr ⟨go,fun σ2 H2=>∃ F2 r2 env2 bx2 acc2 vs2,Grow F1 r1 F2 r2 /\ Rel T F2 r2 σ2 H2 env2 bx2 /\ Own F2 r2 H2 Da vs2 /\ DenL F2 acc2 vs2 /\
      End T Z DenW F2 r2 σ env Q (fO (compD g tf te l env2 bx2 acc2) fun l bx2=>resO bo (some (.lst l)) bx2),
      fun σ2 H2 ⟨F2,r2,env2,bx2,acc2,vs2,g2,R2,o2,d2,h2⟩=>⟨l.length,by rw [hn];exact Nat.lt_succ_self _,pre ++ [w],l,F2,r2,env2,bx2,acc2,vs2,by rw [hds,List.append_assoc];rfl,by rw [List.length_append,hi];rfl,rfl,g2,R2,o2,d2,h2⟩,fun x H2 hy=>?_⟩
    obtain ⟨F2,g2,R2,d2⟩:=yl x H2 hy
    have R2':=R'.inner g2 R2
    have o2:=o'.inner g2 R2
    refine ⟨⟨H2,r'.length,F2⟩,F2,r',env',bx',w,R2'.again,d2,?_⟩
    simp only [compD] at h'
    cases eg:g w env' bx' with
    | none=>simp only [eg] at h';exact h'.elim
    | some o =>
      obtain ⟨env3,bx3⟩:=o
      simp only [eg] at h'
      intro F3 r3 σ3 H3 g3 R3
      have R3':=R2'.inner g3 R3
      have o3:=o2.inner g3 R3
      refine ⟨⟨H3,r3.length,F3⟩,F3,r3,env3,bx3,R3'.again,?_⟩
      cases ef:tf env3 bx3 with
      | bad=>simp only [ef,bindB] at h';exact h'.elim
      | exc c bx4=>simp only [ef,bindB] at h';exact h'.elim
      | val b bx4 =>
        simp only [ef,bindB] at h'
        intro F4 r4 b' H4 g4 R4 eb
        subst eb
        have R4':=R3'.inner g4 R4
        have o4:=o3.inner g4 R4
        have g14:Grow F1 r1 F4 r4:=((g'.trans g2).trans g3).trans g4
        have g04:Grow F' r' F4 r4:=(g2.trans g3).trans g4
        cases b with
        | false =>
          rw [if_neg (by decide)]
          exact ⟨F4,r4,env3,bx4,acc,vs,g14,R4',o4,DenL.mono g04.s acc da,End.weak g04 h'⟩
        | true =>
          rw [if_pos rfl]
          refine ⟨⟨H4,r4.length,F4⟩,F4,r4,env3,bx4,R4'.again,?_⟩
          cases ee:te env3 bx4 with
          | bad=>simp only [ee] at h';exact h'.elim
          | exc c bx5=>simp only [ee] at h';exact h'.elim
          | val y bx5 =>
            simp only [ee] at h'
            intro F5 r5 v H5 g5 R5 d5
            have R5':=R4'.inner g5 R5
            have o5:=o4.inner g5 R5
            have g05:=g04.trans g5
            cases y with
            | d d =>
              simp only at h'
              split at h'
              . rename_i hz
                have da5:=DenL.mono g05.s acc da
                refine ⟨vs,o5.h,by rw [<-da.length];exact hz,F5,r5,env3,bx5,acc ++ [d],vs ++ [v],g14.trans g5,R5'.privSet o5 hT,⟨fX,o5.f,o5.b⟩,da5.append (.cons d5 .nil),End.weak g05 h'⟩
              . exact h'.elim
            | b n=>exact h'.elim
            | s l=>exact h'.elim
            | x i=>exact h'.elim
theorem iu (bo:Bool) (hc:X.calm=true) (S:CompScope X N src scope) (hi:PID X T Z tg iter mi)
    (hg:∀ T cl s H C fp,PGD (X.comp N scope cl s H C fp) T tg g) (hf:∀ T cl s H C fp,PF (X.comp N scope cl s H C fp) ifs (tDT T ⟨E0,Z.cl⟩ tf)) (he:∀ T cl s H C fp,PD (X.comp N scope cl s H C fp) T ⟨E0,Z.cl⟩ elt te)
    (hs:∀ x,foldedSetIterable iter X.env x=pure x:=by intro _;rfl):PD X T Z (.ListComp elt [⟨tg,iter,ifs,0⟩] scope pos) (gT bo src mi g tf te) :=
  PE.imp (Ms (src:=src) (g:=gAny g) (tf:=fAny ⟨E0,Z.cl⟩ tf) (te:=eAny ⟨E0,Z.cl⟩ te) hc S hi (fun cl s H C fp pins s' σ' H' v u Q I rv ⟨T,q⟩=>hg T cl s H C fp pins s' σ' H' v u Q I rv q)
    (fun cl s H C fp pins s' σ' H' Q I ⟨T,q⟩=>hf T cl s H C fp pins s' σ' H' Q I q) (fun cl s H C fp pins s' σ' H' Q I ⟨T,q⟩=>he T cl s H C fp pins s' σ' H' Q I q) hs) fun σ H Q h=>NY h
noncomputable def gZ:DE Bool:=fun _ bx=>.val true bx
theorem iM {X:Cx}:PF X [] (tDT T Z gZ):=fun pins s σ H Q I ⟨F,r,env,bx,R,h⟩=>NP pins s σ H Q I (h F r true H (.refl F r) R rfl)
theorem MC {X:Cx}{c:Expr}{t:DE Bool} (h:PDT X T Z c t):PF X [c] (tDT T Z t):=NQ h
theorem Cu {F:Hp}{r:List Addr}{l:List D}{i:Nat}{w:W} (e:(l.map W.d)[i]?=some w):∃ d,l[i]?=some d /\ w=.d d:=by
  rw [List.getElem?_map] at e
  cases q:l[i]? with
  | none=>rw [q] at e;cases e
  | some d=>rw [q] at e;cases e;exact ⟨d,rfl,rfl⟩
noncomputable def dItl (m:DE W):DE (List W):=fun env bx=>fO (m env bx) fun w bx1=>match w with | .d (.lst l)=>.val (l.map W.d) bx1 | _=>.bad
noncomputable def gm (lo:Int) (n:Nat):List W:=(List.range n).map fun (i:Nat)=>W.d (.int (lo + i))
theorem AD {F:Hp}{r:List Addr} (lo:Int) (n:Nat):Yields F r (gm lo n) (Itr lo n):=fun T i F1 r1 σ1 H1 env1 bx1 g R=>by
  unfold gm
  refine ⟨fun hl=>?_,fun w e=>?_⟩
  . rw [List.length_map,List.length_range] at hl;exact Nat.le_of_eq hl
  . rw [List.getElem?_map] at e
    cases q:(List.range n)[i]? with
    | none=>rw [q] at e;cases e
    | some j =>
      rw [q] at e
      cases e
      obtain ⟨h1,h2⟩:=List.getElem?_eq_some_iff.mp q
      rw [List.getElem_range] at h2
      subst h2
      rw [List.length_range] at h1
      refine ⟨h1,fun x H2 ⟨e1,e2⟩=>?_⟩
      subst e1 e2
      exact ⟨F1,.refl F1 r1,R,rfl⟩
noncomputable def dRng1 (k:DE (List W)):DE (List W):=fun env bx=>fO (k env bx) fun ws bx1=>match ws with
  | [.d (.int j)]=>if -(2 ^ 62) <= j /\ j < 2 ^ 62 then .val (gm 0 j.toNat) bx1 else .bad
  | _=>.bad
theorem iN {a:Expr}{p pos:Pos}{k:DE (List W)} (hg:Gl X "range") (hm:X.mg "range"=none) (ha:PDA X T Z [a] k) (hs:starEach [a] X.env=[(false,eval a X.env)]:=by rfl):PID X T Z tg (.Call (.Name "range" p) [a] [] pos) (dRng1 k):=by
  refine PI.imp (Ja hg hm ha hs) fun σ H Q ⟨F,r,env,bx,R,h⟩=>?_
  refine ⟨F,r,env,bx,R,End.bind h fun ws bx1 F1 r1 vs H1 g1 R1 d1 h1=>?_⟩
  split at h1
  . rename_i j
    split at h1
    . rename_i hj
      obtain ⟨v,t,rfl,e1,e2⟩:=d1
      cases (show t=[] from e2)
      cases (show v=.int j from e1)
      exact ⟨j,rfl,hj.1,hj.2,h1 F1 r1 _ H1 (.refl F1 r1) R1 (AD 0 j.toNat)⟩
    . exact h1.elim
  . exact h1.elim
noncomputable def dRng2 (k:DE (List W)):DE (List W):=fun env bx=>fO (k env bx) fun ws bx1=>match ws with
  | [.d (.int i),.d (.int j)]=>if (-(2 ^ 62) <= i /\ i < 2 ^ 62) /\ -(2 ^ 62) <= j /\ j < 2 ^ 62 then .val (gm i (j - i).toNat) bx1 else .bad
  | _=>.bad
theorem FP {a b:Expr}{p pos:Pos}{k:DE (List W)} (hg:Gl X "range") (hm:X.mg "range"=none) (ha:PDA X T Z [a,b] k) (hs:starEach [a,b] X.env=[(false,eval a X.env),(false,eval b X.env)]:=by rfl) (hs2:starEach [b] X.env=[(false,eval b X.env)]:=by rfl) :
    PID X T Z tg (.Call (.Name "range" p) [a,b] [] pos) (dRng2 k):=by
  refine PI.imp (Jb hg hm ha hs hs2) fun σ H Q ⟨F,r,env,bx,R,h⟩=>?_
  refine ⟨F,r,env,bx,R,End.bind h fun ws bx1 F1 r1 vs H1 g1 R1 d1 h1=>?_⟩
  split at h1
  . rename_i i j
    split at h1
    . rename_i hj
      obtain ⟨v,t,rfl,e1,v2,t2,rfl,e2,e3⟩:=d1
      cases (show t2=[] from e3)
      cases (show v=.int i from e1)
      cases (show v2=.int j from e2)
      exact ⟨i,j,rfl,⟨hj.1.1,hj.1.2,hj.2.1,hj.2.2⟩,h1 F1 r1 _ H1 (.refl F1 r1) R1 (AD i _)⟩
    . exact h1.elim
  . exact h1.elim
end
end L2.DL
set_option Elab.async false
set_option linter.all false
set_option maxRecDepth 100000
set_option maxHeartbeats 4000000
namespace L2.DL
open PySem PySem.Spec PyProof.Rows
section
variable {X : Cx} {T : Fr} {Z : Xs} {a b c e : Expr} {es : List Expr} {ma mb mc : DE W} {pos p : Pos}
noncomputable def rCatT0 (K:PySem.W.Frag):R2:=fun x y H Q=>∃ a b ys,x=.ref a /\ y=.ref b /\ SqT K H a [] /\ SqT K H b ys /\ Q (.ref b) H
theorem Lm:OpR X (binaryOp .Add) (rCatT0 X.K):=by
  intro pins s σ H x y v u Q I rx ry h
  obtain ⟨a,b,ys,rfl,rfl,ha,hb,q⟩:=h
  cases rx
  cases ry
  obtain ⟨its,r1,p1,_⟩:=I.tuple ha
  obtain ⟨its2,r2,p2,_⟩:=I.tuple hb
  cases r1
  obtain ⟨⟨cls,dd,data,sl⟩,ho,hc,n,hd⟩:=id p1
  obtain ⟨⟨cls2,dd2,data2,sl2⟩,ho2,hc2,n2,hd2⟩:=id p2
  simp only at hc hd hc2 hd2
  subst hc hd hc2 hd2
  exact concat_meets ⟨_,ho,rfl⟩ ⟨_,ho2,rfl⟩ noFill_tuple_add seq_tuple_add PySem.F.slot_tuple_add PySem.F.entry_tuple_add (PySem.F.args_tuple_add_2 _ _)
      (tuple_addW0 a b ([]:List Value).toArray its2.toArray n n2 dd dd2 sl sl2 (by simp)) ⟨ho,ho2,⟨.ref b,H,I,rfl,q⟩⟩
noncomputable def rAdd (K:PySem.W.Frag):R2:=fun x y H Q=>rI0 (fun i j=>.int (i + j)) x y H Q \/ rCatT K x y H Q \/ rCatT0 K x y H Q \/ rCat x y H Q \/ ∃ i j,x=.str i /\ y=.str j /\ i.length + j.length <= sizeLine /\ Q (.str (i ++ j)) H
theorem fP:OpR X (binaryOp .Add) (rAdd X.K):=NC.or (Mp.or (Lm.or (BA.or FG)))
noncomputable def fK:D->D->Option Res
  | .int i,.int j=>some (.old (.int (i + j)))
  | .tup a,.tup b=>if a.length + b.length <= sizeLine then some (.tup (a ++ b)) else none
  | .lst a,.lst b=>if a.length + b.length <= sizeLine then some (.lst (a ++ b)) else none
  | .str a,.str b=>if a.length + b.length <= sizeLine then some (.old (.str (a ++ b))) else none
  | _,_=>none
theorem DenL.eq_nil {F:Hp}{l:List D}{vs:List V} (h:DenL F l vs):vs=[] ↔ l=[]:=by
  have:=h.length
  cases l <;> cases vs <;> simp_all
theorem okAdd {K:PySem.W.Frag}:Ok2 (rAdd K) fK:=by
  intro F H x y v w Q s sub rx ry e k
  unfold fK at e
  split at e
  . rename_i i j
    cases e
    exact .inl ⟨i,j,rx,ry,k _ _ ⟨rfl,rfl⟩⟩
  . rename_i l l'
    split at e
    . rename_i hz
      cases e
      obtain ⟨a,vs,rfl,h1,h2⟩:=rx
      obtain ⟨b,ws,rfl,h3,h4⟩:=ry
      by_cases hv:vs=[]
      . subst hv
        have hl:l=[]:=h2.eq_nil.mp rfl
        subst hl
        exact .inr (.inr (.inl ⟨a,b,ws,rfl,rfl,.of (sub _ _ h1),.of (sub _ _ h3),k _ _ (.inl ⟨rfl,b,ws,rfl,h3,h4⟩)⟩))
      . refine .inr (.inl ⟨a,b,vs,ws,rfl,rfl,.of (sub _ _ h1),.of (sub _ _ h3),hv,by rw [<-h2.length,<-h4.length];exact hz,fun hw=>?_,fun hw p hp=>k _ _ (.inr ⟨p,vs ++ ws,rfl,hp,rfl,h2.append h4⟩)⟩)
        have hl:l'=[]:=h4.eq_nil.mp hw
        subst hl
        exact k _ _ (.inl ⟨rfl,a,vs,rfl,h1,by rw [List.append_nil];exact h2⟩)
    . cases e
  . rename_i l l'
    split at e
    . rename_i hz
      cases e
      obtain ⟨a,vs,rfl,h1,h2⟩:=rx
      obtain ⟨b,ws,rfl,h3,h4⟩:=ry
      exact .inr (.inr (.inr (.inl ⟨a,b,vs,ws,rfl,rfl,h1,h3,by rw [<-h2.length,<-h4.length];exact hz,fun p hp=>k _ _ ⟨p,vs ++ ws,rfl,hp,rfl,h2.append h4⟩⟩)))
    . cases e
  . rename_i i j
    split at e
    . rename_i hz
      cases e
      exact .inr (.inr (.inr (.inr ⟨i,j,rx,ry,hz,k _ _ ⟨rfl,rfl⟩⟩)))
    . cases e
  . cases e
theorem okI {C:Int->Int->Prop} [∀ i j,Decidable (C i j)] {g:Int->Int->D}{gv:Int->Int->V} (hg:∀ i j F,Den F (g i j) (gv i j)):Ok2 (rI C gv) fun x y=>match x,y with | .int i,.int j=>if C i j then some (.old (g i j)) else none | _,_=>none:=by
  intro F H x y v w Q s sub rx ry e k
  dsimp only at e
  split at e
  . rename_i i j
    split at e
    . rename_i hc
      cases e
      exact ⟨i,j,rx,ry,hc,k _ _ ⟨rfl,hg i j F⟩⟩
    . cases e
  . cases e
theorem okI0 {g:Int->Int->D}{gv:Int->Int->V} (hg:∀ i j F,Den F (g i j) (gv i j)):Ok2 (rI0 gv) fun x y=>match x,y with | .int i,.int j=>some (.old (g i j)) | _,_=>none:=by
  intro F H x y v w Q s sub rx ry e k
  dsimp only at e
  split at e
  . rename_i i j
    cases e
    exact ⟨i,j,rx,ry,k _ _ ⟨rfl,hg i j F⟩⟩
  . cases e
noncomputable def subD:D->D->Option Res:=fun x y=>match x,y with | .int i,.int j=>some (.old (.int (i - j))) | _,_=>none
theorem okSub:Ok2 (rI0 fun i j=>.int (i - j)) subD:=okI0 (g:=fun i j=>.int (i - j)) fun _ _ _=>rfl
instance (i j:Int):Decidable (CMul i j):=by unfold CMul;exact inferInstance
instance (i j:Int):Decidable (CDiv i j):=by unfold CDiv;exact inferInstance
instance (i j:Int):Decidable (CPow i j):=by unfold CPow;exact inferInstance
noncomputable def fdivD:D->D->Option Res:=fun x y=>match x,y with | .int i,.int j=>if CDiv i j then some (.old (.int (i / j))) else none | _,_=>none
theorem okFdiv:Ok2 (rI CDiv fun i j=>.int (i / j)) fdivD:=okI (g:=fun i j=>.int (i / j)) fun _ _ _=>rfl
noncomputable def modD:D->D->Option Res:=fun x y=>match x,y with | .int i,.int j=>if 0 < j then some (.old (.int (i % j))) else none | _,_=>none
theorem okMod:Ok2 (rI (fun _ j=>0 < j) fun i j=>.int (i % j)) modD:=okI (C:=fun _ j=>0 < j) (g:=fun i j=>.int (i % j)) fun _ _ _=>rfl
noncomputable def powD:D->D->Option Res:=fun x y=>match x,y with | .int i,.int j=>if CPow i j then some (.old (.int (i ^ j.toNat))) else none | _,_=>none
theorem okPow:Ok2 (rI CPow fun i j=>.int (i ^ j.toNat)) powD:=okI (g:=fun i j=>.int (i ^ j.toNat)) fun _ _ _=>rfl
noncomputable def intsOf:List D->Option (List Int)
  | []=>some []
  | .int i :: l=>(intsOf l).map fun t=>i :: t
  | _=>none
theorem DenL.ints {F:Hp}:∀ {l:List D}{vs:List V}{ns:List Int},DenL F l vs->intsOf l=some ns->vs=ns.map V.int
  | [],_,_,h,e=>by cases e;exact h
  | .int i :: l,_,ns,h,e=>by
    obtain ⟨v,r,q,h1,h2⟩:=h
    unfold intsOf at e
    cases e2:intsOf l with
    | none=>rw [e2] at e;cases e
    | some t =>
      rw [e2] at e
      cases e
      rw [q,h2.ints e2,show v=.int i from h1]
      rfl
  | .non :: l,_,_,_,e=>by cases e
  | .bl _ :: l,_,_,_,e=>by cases e
  | .str _ :: l,_,_,_,e=>by cases e
  | .tup _ :: l,_,_,_,e=>by cases e
  | .lst _ :: l,_,_,_,e=>by cases e
  | .dic _ :: l,_,_,_,e=>by cases e
noncomputable def ltD:D->D->Option Res
  | .int i,.int j=>some (.old (.bl (decide (i < j))))
  | .tup a,.tup b=>(intsOf a).bind fun ns=>(intsOf b).map fun ms=>.old (.bl (HT.lexLt ns ms))
  | _,_=>none
theorem Ar (hu:X.A.units < cLine):OpR X (compareOp .Lt) (fun x y H Q=>rI0 (fun i j=>.bl (decide (i < j))) x y H Q \/ rLtT X.K x y H Q):=OG.or (NI hu)
theorem okLt {K:PySem.W.Frag}:Ok2 (fun x y H Q=>rI0 (fun i j=>.bl (decide (i < j))) x y H Q \/ rLtT K x y H Q) ltD:=by
  intro F H x y v w Q s sub rx ry e k
  unfold ltD at e
  split at e
  . rename_i i j
    cases e
    exact .inl ⟨i,j,rx,ry,k _ _ ⟨rfl,rfl⟩⟩
  . rename_i l l'
    cases e1:intsOf l with
    | none=>rw [e1] at e;cases e
    | some ns =>
      cases e2:intsOf l' with
      | none=>rw [e1,e2] at e;cases e
      | some ms =>
        rw [e1,e2] at e
        cases e
        obtain ⟨a,vs,rfl,h1,h2⟩:=rx
        obtain ⟨b,ws,rfl,h3,h4⟩:=ry
        have q1:=h2.ints e1
        have q2:=h4.ints e2
        subst q1 q2
        exact .inr ⟨a,b,ns,ms,rfl,rfl,.of (sub _ _ h1),.of (sub _ _ h3),k _ _ ⟨rfl,rfl⟩⟩
  . cases e
noncomputable def gtI:D->D->Option Res:=fun x y=>match x,y with | .int i,.int j=>some (.old (.bl (decide (j < i)))) | _,_=>none
theorem okGtI:Ok2 (rI0 fun i j=>.bl (decide (j < i))) gtI:=okI0 (g:=fun i j=>.bl (decide (j < i))) fun _ _ _=>rfl
noncomputable def geI:D->D->Option Res:=fun x y=>match x,y with | .int i,.int j=>some (.old (.bl (decide (j <= i)))) | _,_=>none
theorem okGeI:Ok2 (rI0 fun i j=>.bl (decide (j <= i))) geI:=okI0 (g:=fun i j=>.bl (decide (j <= i))) fun _ _ _=>rfl
noncomputable def ixD:D->D->Option Res
  | .lst l,.int i=>(atI l i).map Res.old
  | .tup l,.int i=>(atI l i).map Res.old
  | _,_=>none
theorem GE {F:Hp}{l:List D}{vs:List V}{i:Int}{d:D} (h:DenL F l vs) (e:atI l i=some d):∃ v,atI vs i=some v /\ Den F d v:=by
  unfold atI at e ⊢
  rw [<-h.length]
  cases q:ixN l.length i with
  | none=>rw [q] at e;cases e
  | some j=>rw [q] at e;exact h.get e
theorem okIx {K:PySem.W.Frag}:Ok2 (rIx K) ixD:=by
  intro F H x y v w Q s sub rx ry e k
  unfold ixD at e
  split at e
  . rename_i l i
    obtain ⟨a,vs,rfl,h1,h2⟩:=rx
    cases e1:atI l i with
    | none=>rw [e1] at e;cases e
    | some d =>
      rw [e1] at e
      cases e
      obtain ⟨u,e2,du⟩:=GE h2 e1
      exact .inl ⟨a,vs,i,u,rfl,ry,.of h1,e2,k _ _ ⟨rfl,du⟩⟩
  . rename_i l i
    obtain ⟨a,vs,rfl,h1,h2⟩:=rx
    cases e1:atI l i with
    | none=>rw [e1] at e;cases e
    | some d =>
      rw [e1] at e
      cases e
      obtain ⟨u,e2,du⟩:=GE h2 e1
      exact .inr (.inl ⟨a,vs,i,u,rfl,ry,.of (sub _ _ h1),e2,k _ _ ⟨rfl,du⟩⟩)
  . cases e
noncomputable def lenD:List D->Option Res
  | [.lst l]=>some (.old (.int l.length))
  | [.tup l]=>some (.old (.int l.length))
  | _=>none
theorem okLen {K:PySem.W.Frag}:OkN (fun xs H Q=>∃ p ys,xs=[.ref p] /\ (SqL K H p ys \/ SqT K H p ys) /\ Q (.int ys.length) H) lenD:=by
  intro F H xs vs Q s sub rx e k
  unfold lenD at e
  split at e
  . rename_i l
    cases e
    obtain ⟨v,t,rfl,⟨a,us,rfl,h1,h2⟩,rt⟩:=rx
    cases (show t=[] from rt)
    exact ⟨a,us,rfl,.inl (.of h1),k _ _ ⟨rfl,by rw [<-h2.length];rfl⟩⟩
  . rename_i l
    cases e
    obtain ⟨v,t,rfl,⟨a,us,rfl,h1,h2⟩,rt⟩:=rx
    cases (show t=[] from rt)
    exact ⟨a,us,rfl,.inr (.of (sub _ _ h1)),k _ _ ⟨rfl,by rw [<-h2.length];rfl⟩⟩
  . cases e
noncomputable def tyN:D->String
  | .non=>"NoneType" | .bl _=>"bool" | .int _=>"int" | .str _=>"str" | .tup _=>"tuple" | .lst _=>"list" | .dic _=>"dict"
noncomputable def subT (S T:String):Bool:=S == T || (S == "bool" && T == "int")
noncomputable def Tys (K:PySem.W.Frag) (T:String):Prop:=∀ d:D,PySem.W.kitOne K (.type (tyN d)) (.type T)=some (subT (tyN d) T)
theorem ON {K:PySem.W.Frag}{F H:Hp} (sub:Sub F H):∀ {d:D}{v:V},Rdd F H d v->TyOf K H v (.type (tyN d))
  | .non,_,h=>by cases (show _=V.non from h);exact .non
  | .bl b,_,h=>by cases (show _=V.bl b from h);exact .bl b
  | .int b,_,h=>by cases (show _=V.int b from h);exact .int b
  | .str b,_,h=>by cases (show _=V.str b from h);exact .str b
  | .tup l,_,h=>by obtain ⟨a,vs,rfl,h1,h2⟩:=h;exact .tup (sub _ _ h1)
  | .lst l,_,h=>by obtain ⟨a,vs,rfl,h1,h2⟩:=h;exact .lst h1
  | .dic l,_,h=>by obtain ⟨a,vs,rfl,h1,h2⟩:=h;exact .dK h1
noncomputable def jL (n:String) (m:DE W):DE W:=fun env bx=>fO (m env bx) fun w bx1=>match rdW bx1 w with | some d=>.val (.d (.bl (subT (tyN d) n))) bx1 | none=>.bad
theorem MD {n:String}{x:Str}{p p1:Pos} (hT:Tys X.K n) (hg:Gl X "isinstance") (hm:X.mg "isinstance"=none) (hg2:Gl X x) (hm2:X.mg x=none) (hv:bootBuiltins x=some (.type n)) (ha:PD X T Z a ma)
    (hn:x ≠ "__name__":=by decide) (hdb:(x == ("__debug__":Str))=false:=by decide)
    (he1:starEach [a,.Name x p1] X.env=(false,eval a X.env) :: starEach [.Name x p1] X.env:=by rfl) (he2:starEach [.Name x p1] X.env=(false,eval (.Name x p1) X.env) :: starEach [] X.env:=by rfl)
    (hpl:(backTo pos (starEach [.Name x p1] X.env)).any (·.1)=false:=by rfl):PD X T Z (.Call (.Name "isinstance" p) [a,.Name x p1] [] pos) (jL n ma):=by
  refine PE.imp (gq gn hg hm (by decide +kernel) (fE ha (fE (Gn hg2 hm2 hv (v:=.ty n) rfl hn hdb) gu he2) he1) (by decide) (by decide) he1 hpl) fun σ H Q ⟨F,r,env,bx,R,h⟩=>?_
  refine ⟨F,r,env,bx,R,End.bind h fun w bx1 F1 r1 v H1 g1 R1 d1 h1=>?_⟩
  cases e:rdW bx1 w with
  | none=>simp only [e] at h1;exact h1.elim
  | some d =>
    simp only [e] at h1
    exact ⟨v,.ty n,_,.type n,_,rfl,.of (ON R1.fh (R1.rdd d1 e)),rfl,hT d,h1 F1 r1 _ H1 (.refl F1 r1) R1 rfl⟩
end
end L2.DL
set_option Elab.async false
set_option linter.all false
set_option maxRecDepth 100000
set_option maxHeartbeats 4000000
namespace L2.DL
open PySem PySem.Spec PyProof.Rows
section
variable {X : Cx} {T : Fr} {Z : Xs} {a b c e : Expr} {es : List Expr} {ma mb mc : DE W} {pos p : Pos}
noncomputable def rEqT (K:PySem.W.Frag):R2:=fun x y H Q=>∃ a b xs,x=.ref a /\ y=.ref b /\ SqT K H a xs /\ SqT K H b [] /\ Q (.bl xs.isEmpty) H
theorem NZ (hu:X.A.units < cLine):OpR X (compareOp .Eq) (rEqT X.K):=by
  intro pins s σ H x y v u Q I rx ry h
  obtain ⟨a,b,xs,rfl,rfl,h1,h2,q⟩:=h
  cases rx;cases ry
  obtain ⟨i1,r1,p1,z1⟩:=I.tuple h1
  obtain ⟨i2,r2,p2,z2⟩:=I.tuple h2
  cases r2
  refine SeqAt.eq_tupleAt (items:=i1.toArray) (items2:=([]:List Value).toArray) (e:=fun _=>true) p1 p2 hu (fun j h1 h2=>absurd h2 (by simp)) ⟨.bl xs.isEmpty,H,I,?_,q⟩
  have:=r1.length
  cases xs <;> cases i1 <;> simp_all [RelV]
noncomputable def rEqL (K:PySem.W.Frag):R2:=fun x y H Q=>∃ (a b:Addr) (ns ms:List Int),x=.ref a /\ y=.ref b /\ SqL K H a (ns.map V.int) /\ SqL K H b (ms.map V.int) /\ Q (.bl (decide (ns=ms))) H
theorem Jn {ns ms:List Int} (h:ns.length=ms.length):((List.range ns.length).all fun j=>(ns.getD j 0 == ms.getD j 0))=decide (ns=ms):=by
  rw [Bool.eq_iff_iff,List.all_eq_true,decide_eq_true_iff]
  constructor
  . intro q
    refine List.ext_getElem h fun j h1 h2=>?_
    have:=q j (List.mem_range.mpr h1)
    simpa [List.getD,h1,h2] using this
  . rintro rfl j _
    simp
theorem N0 (hu:X.A.units < cLine):OpR X (compareOp .Eq) (rEqL X.K):=by
  intro pins s σ H x y v u Q I rx ry h
  obtain ⟨a,b,ns,ms,rfl,rfl,h1,h2,q⟩:=h
  cases rx;cases ry
  obtain ⟨i1,r1,p1,z1⟩:=I.list h1
  obtain ⟨i2,r2,p2,z2⟩:=I.list h2
  have l1:ns.length=i1.length:=by have:=r1.length;simpa using this
  have l2:ms.length=i2.length:=by have:=r2.length;simpa using this
  by_cases hl:ns.length=ms.length
  . refine SeqAt.eq_listAt (items:=i1.toArray) (items2:=i2.toArray) (e:=fun j=>ns.getD j 0 == ms.getD j 0) p1.isList p2.isList (by simp;omega) hu (fun j h1 h2=>?_) ?_
    . have g1:j < i1.length:=by simpa using h1
      have g2:j < i2.length:=by simpa using h2
      obtain ⟨w1,e1,q1⟩:=r1.get (i:=j) (x:=V.int (ns[j]'(by omega))) (by simp [show j < ns.length by omega])
      obtain ⟨w2,e2,q2⟩:=r2.get (i:=j) (x:=V.int (ms[j]'(by omega))) (by simp [show j < ms.length by omega])
      have k1:i1[j]=w1:=by rw [List.getElem?_eq_getElem g1] at e1;exact Option.some.inj e1
      have k2:i2[j]=w2:=by rw [List.getElem?_eq_getElem g2] at e2;exact Option.some.inj e2
      show SeqAt.EqAt _ _ i1[j] i2[j] _
      rw [k1,k2]
      obtain ⟨t,rfl⟩:=q1
      obtain ⟨t',rfl⟩:=q2
      have d1:ns.getD j 0=ns[j]'(by omega):=by simp [List.getD,show j < ns.length by omega]
      have d2:ms.getD j 0=ms[j]'(by omega):=by simp [List.getD,show j < ms.length by omega]
      rw [d1,d2]
      exact SeqAt.EqAt.int_int _ _ _ _
    . rw [show i1.toArray.size=ns.length by simp;omega,Jn hl]
      exact ⟨.bl _,H,I,rfl,q⟩
  . refine SeqAt.eq_list_lengthsAt (items:=i1.toArray) (items2:=i2.toArray) p1.isList p2.isList (by simp;omega) hu ⟨.bl false,H,I,rfl,?_⟩
    rw [decide_eq_false (fun z=>hl (by rw [z]))] at q
    exact q
noncomputable def rEqA (K:PySem.W.Frag):R2:=fun x y H Q=>rEq x y H Q \/ rEqT K x y H Q \/ rEqL K x y H Q
theorem BE (hu:X.A.units < cLine):OpR X (compareOp .Eq) (rEqA X.K):=OF.or ((NZ hu).or (N0 hu))
noncomputable def eqD:D->D->Option Res
  | .int i,.int j=>some (.old (.bl (decide (i=j))))
  | .str i,.str j=>some (.old (.bl (decide (i=j))))
  | .tup l,.tup []=>some (.old (.bl l.isEmpty))
  | .lst a,.lst b=>(intsOf a).bind fun ns=>(intsOf b).map fun ms=>.old (.bl (decide (ns=ms)))
  | _,_=>none
theorem okEq {K:PySem.W.Frag}:Ok2 (rEqA K) eqD:=by
  intro F H x y v w Q s sub rx ry e k
  unfold eqD at e
  split at e
  . rename_i i j
    cases e
    cases (show v=.int i from rx)
    cases (show w=.int j from ry)
    exact .inl ⟨rfl,k _ _ ⟨rfl,by show _=_;simp⟩⟩
  . rename_i i j
    cases e
    cases (show v=.str i from rx)
    cases (show w=.str j from ry)
    exact .inl ⟨rfl,k _ _ ⟨rfl,by show _=_;simp⟩⟩
  . rename_i l
    cases e
    obtain ⟨a,vs,rfl,h1,h2⟩:=rx
    obtain ⟨b,ws,rfl,h3,h4⟩:=ry
    cases (show ws=[] from h4)
    exact .inr (.inl ⟨a,b,vs,rfl,rfl,.of (sub _ _ h1),.of (sub _ _ h3),k _ _ ⟨rfl,by show _=_;rw [h2.isEmpty]⟩⟩)
  . rename_i l l'
    cases e1:intsOf l with
    | none=>rw [e1] at e;cases e
    | some ns =>
      cases e2:intsOf l' with
      | none=>rw [e1,e2] at e;cases e
      | some ms =>
        rw [e1,e2] at e
        cases e
        obtain ⟨a,vs,rfl,h1,h2⟩:=rx
        obtain ⟨b,ws,rfl,h3,h4⟩:=ry
        have q1:=h2.ints e1
        have q2:=h4.ints e2
        subst q1 q2
        exact .inr (.inr ⟨a,b,ns,ms,rfl,rfl,.of h1,.of h3,k _ _ ⟨rfl,rfl⟩⟩)
  . cases e
noncomputable def rNeE (K:PySem.W.Frag):R2:=fun x y H Q=>∃ a b xs,x=.ref a /\ y=.ref b /\ SqL K H a xs /\ SqL K H b [] /\ Q (.bl (!xs.isEmpty)) H
theorem N1 (hu:X.A.units < cLine):OpR X (compareOp .NotEq) (rNeE X.K):=by
  intro pins s σ H x y v u Q I rx ry h
  obtain ⟨a,b,xs,rfl,rfl,h1,h2,q⟩:=h
  cases rx;cases ry
  obtain ⟨i1,r1,p1,z1⟩:=I.list h1
  obtain ⟨i2,r2,p2,z2⟩:=I.list h2
  cases r2
  cases r1 with
  | nil=>exact SeqAt.RcNeAt.lists (items:=([]:List Value).toArray) (items2:=([]:List Value).toArray) (e:=fun _=>true) p1.isList p2.isList rfl hu (fun j h1 h2=>absurd h2 (by simp)) X.prog X.w X.xe _ ⟨.bl false,H,I,rfl,q⟩
  | cons _ _=>exact SeqAt.RcNeAt.lists_lengths (items2:=([]:List Value).toArray) p1.isList p2.isList (by simp) hu X.prog X.w X.xe _ ⟨.bl true,H,I,rfl,q⟩
noncomputable def rNeA (K:PySem.W.Frag):R2:=fun x y H Q=>rNe x y H Q \/ rNeE K x y H Q
theorem BF (hu:X.A.units < cLine):OpR X (compareOp .NotEq) (rNeA X.K):=Nb.or (N1 hu)
noncomputable def neD:D->D->Option Res
  | .int i,.int j=>some (.old (.bl (!decide (i=j))))
  | .str i,.str j=>some (.old (.bl (!decide (i=j))))
  | .lst l,.lst []=>some (.old (.bl (!l.isEmpty)))
  | _,_=>none
theorem okNe {K:PySem.W.Frag}:Ok2 (rNeA K) neD:=by
  intro F H x y v w Q s sub rx ry e k
  unfold neD at e
  split at e
  . rename_i i j
    cases e
    cases (show v=.int i from rx)
    cases (show w=.int j from ry)
    exact .inl ⟨rfl,k _ _ ⟨rfl,by show _=_;simp⟩⟩
  . rename_i i j
    cases e
    cases (show v=.str i from rx)
    cases (show w=.str j from ry)
    exact .inl ⟨rfl,k _ _ ⟨rfl,by show _=_;simp⟩⟩
  . rename_i l
    cases e
    obtain ⟨a,vs,rfl,h1,h2⟩:=rx
    obtain ⟨b,ws,rfl,h3,h4⟩:=ry
    cases (show ws=[] from h4)
    exact .inr ⟨a,b,vs,rfl,rfl,.of h1,.of h3,k _ _ ⟨rfl,by show _=_;rw [h2.isEmpty]⟩⟩
  . cases e
noncomputable def isntD:D->D->Option Res
  | .bl i,.bl j=>some (.old (.bl (!(i == j))))
  | _,_=>none
noncomputable def rAll (K:PySem.W.Frag) (vs:List V) (H:Hp) (Q:VK):Prop:=∃ (p:Addr) (bs:List Bool),vs=[.ref p] /\ H p=some (.lst (bs.map V.bl)) /\ Q (.bl (bs.all id)) H
theorem jk (hc:X.calm=true):CallR X (.builtin "all") (rAll X.K):=by
  intro pins s σ H xs us Q I rv h
  obtain ⟨p,bs,rfl,hp,q⟩:=h
  obtain ⟨u,rfl,ru⟩:=Vals.one rv
  cases ru
  obtain ⟨its,r1,p1,z1⟩:=I.list (SqL.of (K:=X.K) hp)
  have hl:=p1.isList
  have hlt:p < s.heap.objs.size:=by obtain ⟨_,e,_⟩:=hl;exact Heap.lt_size e
  have hlen:bs.length=its.length:=by have:=r1.length;simpa using this
  refine call_all_walk (wpAny_pyIter_list hl ?_)
  refine ⟨s.heap.objs.size,[s.heap.objs.size,p],[s.heap.objs.size],its.toArray.size,_,_,fun i=>(bs[i]?).getD true,rfl,Walks.list (A:=X.A.in1) (I.ok.hd hc) _ p (Nat.ne_of_lt hlt) its.toArray,
    ⟨⟨_,Heap.get?_push_size _ rfl,rfl,rfl⟩,hl.push _⟩,fun i v s' Q' E' hP hQ=>?_,fun h' tk hk=>?_⟩
  . have hP':its[i]?=some v:=by simpa using hP
    have hi:i < bs.length:=by rw [hlen];exact (List.getElem?_eq_some_iff.mp hP').1
    obtain ⟨w,e1,e2⟩:=r1.get (i:=i) (x:=V.bl bs[i]) (by simp [hi])
    rw [hP'] at e1
    cases e1
    cases e2
    simp only [List.getElem?_eq_getElem hi,Option.getD_some] at hQ
    exact wpAny_truthy_bool hQ
  . have e:((List.range its.toArray.size).all fun i=>(bs[i]?).getD true)=bs.all id:=by
      rw [List.size_toArray,<-hlen];exact LSm.range_all bs
    rw [e]
    exact ⟨.bl _,H,I.kept (t':=tk) (LSm.kept_iter hk),rfl,q⟩
noncomputable def bolsOf:List D->Option (List Bool)
  | []=>some []
  | .bl i :: l=>(bolsOf l).map fun t=>i :: t
  | _=>none
theorem DenL.bols {F:Hp}:∀ {l:List D}{vs:List V}{ns:List Bool},DenL F l vs->bolsOf l=some ns->vs=ns.map V.bl
  | [],_,_,h,e=>by cases e;exact h
  | .bl i :: l,_,ns,h,e=>by
    obtain ⟨v,r,q,h1,h2⟩:=h
    unfold bolsOf at e
    cases e2:bolsOf l with
    | none=>rw [e2] at e;cases e
    | some t =>
      rw [e2] at e
      cases e
      rw [q,h2.bols e2,show v=.bl i from h1]
      rfl
  | .non :: l,_,_,_,e=>by cases e
  | .int _ :: l,_,_,_,e=>by cases e
  | .str _ :: l,_,_,_,e=>by cases e
  | .tup _ :: l,_,_,_,e=>by cases e
  | .lst _ :: l,_,_,_,e=>by cases e
  | .dic _ :: l,_,_,_,e=>by cases e
noncomputable def allD:List D->Option Res
  | [.lst l]=>(bolsOf l).map fun bs=>.old (.bl (bs.all id))
  | _=>none
theorem okAll {K:PySem.W.Frag}:OkN (rAll K) allD:=by
  intro F H xs vs Q s sub rx e k
  unfold allD at e
  split at e
  . rename_i l
    obtain ⟨v,t,rfl,⟨a,us,rfl,h1,h2⟩,rt⟩:=rx
    cases (show t=[] from rt)
    cases e1:bolsOf l with
    | none=>rw [e1] at e;cases e
    | some bs =>
      rw [e1] at e
      cases e
      have q1:=h2.bols e1
      subst q1
      exact ⟨a,bs,rfl,h1,k _ _ ⟨rfl,rfl⟩⟩
  . cases e
theorem okTuple {K:PySem.W.Frag}:OkN (fun xs H Q=>∃ p ys,xs=[.ref p] /\ ((SqL K H p ys /\ ∀ l,H l=none->Q (.ref l) (upd H l (.tup ys))) \/ (SqT K H p ys /\ Q (.ref p) H)))
    (fun xs=>match xs with | [.lst l]=>some (.tup l) | [.tup l]=>some (.tup l) | _=>none):=by
  intro F H xs vs Q s sub rx e k
  dsimp only at e
  split at e
  . rename_i l
    cases e
    obtain ⟨v,t,rfl,⟨a,us,rfl,h1,h2⟩,rt⟩:=rx
    cases (show t=[] from rt)
    exact ⟨a,us,rfl,.inl ⟨.of h1,fun p hp=>k _ _ (.inr ⟨p,us,rfl,hp,rfl,h2⟩)⟩⟩
  . rename_i l
    cases e
    obtain ⟨v,t,rfl,⟨a,us,rfl,h1,h2⟩,rt⟩:=rx
    cases (show t=[] from rt)
    exact ⟨a,us,rfl,.inr ⟨.of (sub _ _ h1),k _ _ (.inl ⟨rfl,a,us,rfl,h1,h2⟩)⟩⟩
  . cases e
noncomputable def tupleD:List D->Option Res:=fun xs=>match xs with | [.lst l]=>some (.tup l) | [.tup l]=>some (.tup l) | _=>none
noncomputable def listD:List D->Option Res:=fun xs=>match xs with | [.lst l]=>some (.lst l) | [.tup l]=>some (.lst l) | _=>none
theorem okList {K:PySem.W.Frag}:OkN (fun xs H Q=>∃ p ys,xs=[.ref p] /\ (SqL K H p ys \/ SqT K H p ys) /\ ∀ l,H l=none->Q (.ref l) (upd H l (.lst ys))) listD:=by
  intro F H xs vs Q s sub rx e k
  unfold listD at e
  split at e
  . rename_i l
    cases e
    obtain ⟨v,t,rfl,⟨a,us,rfl,h1,h2⟩,rt⟩:=rx
    cases (show t=[] from rt)
    exact ⟨a,us,rfl,.inl (.of h1),fun p hp=>k _ _ ⟨p,us,rfl,hp,rfl,h2⟩⟩
  . rename_i l
    cases e
    obtain ⟨v,t,rfl,⟨a,us,rfl,h1,h2⟩,rt⟩:=rx
    cases (show t=[] from rt)
    exact ⟨a,us,rfl,.inr (.of (sub _ _ h1)),fun p hp=>k _ _ ⟨p,us,rfl,hp,rfl,h2⟩⟩
  . cases e
noncomputable def maxD:List D->Option Res:=fun xs=>match xs with | [.int i,.int j]=>some (.old (.int (if j > i then j else i))) | _=>none
theorem okMax:OkN (fun xs H Q=>∃ i j,xs=[.int i,.int j] /\ Q (.int (if j > i then j else i)) H) maxD:=by
  intro F H xs vs Q s sub rx e k
  unfold maxD at e
  split at e
  . rename_i i j
    cases e
    obtain ⟨v,t,rfl,h1,v2,t2,rfl,h2,rt⟩:=rx
    cases (show t2=[] from rt)
    cases (show v=.int i from h1)
    cases (show v2=.int j from h2)
    exact ⟨i,j,rfl,k _ _ ⟨rfl,rfl⟩⟩
  . cases e
noncomputable def minD:List D->Option Res:=fun xs=>match xs with | [.int i,.int j]=>some (.old (.int (if j < i then j else i))) | _=>none
theorem okMin:OkN (fun xs H Q=>∃ i j,xs=[.int i,.int j] /\ Q (.int (if j < i then j else i)) H) minD:=by
  intro F H xs vs Q s sub rx e k
  unfold minD at e
  split at e
  . rename_i i j
    cases e
    obtain ⟨v,t,rfl,h1,v2,t2,rfl,h2,rt⟩:=rx
    cases (show t2=[] from rt)
    cases (show v=.int i from h1)
    cases (show v2=.int j from h2)
    exact ⟨i,j,rfl,k _ _ ⟨rfl,rfl⟩⟩
  . cases e
end
end L2.DL
set_option Elab.async false
set_option linter.all false
set_option maxRecDepth 100000
set_option maxHeartbeats 4000000
namespace HT
open PySem PySem.Spec PyProof.Rows
section
variable {prog : Program} {w : World} {A : Around} {E : Value -> Shared -> Prop} {s : Shared}
theorem AE {t sl:Addr}{items:Array Value}{vl vu:Value}{lo hi:Option Int}{Q:Value->Shared->Prop} (ht:IsTup s.heap t items) (hs:s.heap.IsSliceOf sl vl vu .none) (pl:IsPart vl lo) (pu:IsPart vu hi)
    (hw:sIx items.size 0 lo=0 /\ sIx items.size items.size hi=items.size) (h:Q (.ref t) s):wpAny (model prog w) A (getItem (.ref t) (.ref sl)) Q E s:=by
  obtain ⟨os,hos,hcs,hds⟩:=id hs
  have hTs:s.TypeIs (.ref sl) "slice":=⟨os,hos,hcs⟩
  unfold getItem
  try with_reducible refine wpAny_holding ?_
  first | refine wpAny_bind (wpAny_pure ?_) | skip
  refine wpAny_bind (wpAny_sequenceKey ht.typeIs (by decide) ?_)
  refine wpAny_bind (wpAny_callSpecial?_slot (name:=Str.ofString "__getitem__") ht.typeIs PyProof.Rows.slot_tuple_getitem
    (wpAny_call_entry PyProof.Rows.slot_tuple_getitem ht.typeIs entry_tuple_getitem ?_ (args_tuple_getitem _ _)))
  show wpAny _ _ (Builtin.Tuple.tupleItemsOf (.ref t) >>= _) _ _ s
  refine wpAny_bind (tupleItemsOf_ ht ?_)
  refine wpAny_bind (wpAny_typeOf hTs ?_)
  rw [if_pos (by decide)]
  refine wpAny_bind (mY hs pl pu ?_)
  have hyes:((((sIx items.size 0 lo:Nat):Int) == 0 && (1:Int) == 1 && (sIx items.size items.size hi - sIx items.size 0 lo) == items.size)=true):=by
    rw [hw.1,hw.2]
    simp
  show wpAny _ _ (if (((sIx items.size 0 lo:Nat):Int) == 0 && (1:Int) == 1 && (sIx items.size items.size hi - sIx items.size 0 lo) == items.size)=true then _ else _) _ _ s
  rw [if_pos hyes]
  refine wpAny_bind (m:=Builtin.Tuple.tupleIsExact (.ref t)) ?_
  unfold Builtin.Tuple.tupleIsExact
  refine wpAny_bind (wpAny_typeOf ht.typeIs (wpAny_pure ?_))
  rw [if_pos (by decide)]
  exact wpAny_bind (wpAny_rule (wpAny_pure ⟨_,rfl,wpAny_pure h⟩))
theorem DO {α β:Type}{f g:α->Option β}:∀ {l:List α},(∀ x ∈ l,f x=g x)->l.filterMap f=l.filterMap g
  | [],_=>rfl
  | x :: l,h=>by
    rw [List.filterMap_cons,List.filterMap_cons,h x List.mem_cons_self,DO fun y hy=>h y (List.mem_cons_of_mem _ hy)]
theorem BG (n:Nat):sliceRange ((n:Int) - 1) (-1) (-1)=(List.range n).map fun k=>n - 1 - k:=by
  have e:(if (-1:Int) > 0 then (if (n:Int) - 1 < -1 then (-1 - ((n:Int) - 1) + -1 - 1) / -1 else 0) else (if (n:Int) - 1 > -1 then ((n:Int) - 1 - -1 - -1 - 1) / (- -1) else 0):Int).toNat=n:=by
    rw [if_neg (by decide)]
    split
    . have:((n:Int) - 1 - -1 - -1 - 1) / (- -1)=n:=by
        rw [show (- -1:Int)=1 by decide,Int.ediv_one];omega
      rw [this];rfl
    . omega
  show (List.range (if (-1:Int) > 0 then (if (n:Int) - 1 < -1 then (-1 - ((n:Int) - 1) + -1 - 1) / -1 else 0) else (if (n:Int) - 1 > -1 then ((n:Int) - 1 - -1 - -1 - 1) / (- -1) else 0):Int).toNat).map _=_
  rw [e]
  refine List.map_congr_left fun k hk=>?_
  have:=List.mem_range.mp hk
  omega
theorem Cf (its:List Value):slicePick its.toArray none none (some (-1))=its.reverse.toArray:=by
  unfold slicePick
  have e:sliceBounds none none (some (-1)) its.toArray.size=((its.length:Int) - 1,-1,-1):=by
    simp [sliceBounds]
  rw [e]
  congr 1
  show (sliceRange ((its.length:Int) - 1) (-1) (-1)).filterMap (its.toArray[·]?)=_
  rw [BG,List.filterMap_map]
  apply List.ext_getElem?
  intro i
  have h1:(List.range its.length).filterMap ((fun x=>its.toArray[x]?) ∘ fun k=>its.length - 1 - k)=(List.range its.length).map fun k=>(its[its.length - 1 - k]?).getD .none:=by
    rw [<-List.filterMap_eq_map]
    refine DO fun k hk=>?_
    have hk':=List.mem_range.mp hk
    have hlt:its.length - 1 - k < its.length:=by omega
    simp [hlt]
  rw [h1,List.getElem?_map]
  by_cases hi:i < its.length
  . have hlt:its.length - 1 - i < its.length:=by omega
    rw [List.getElem?_range hi,List.getElem?_reverse hi]
    simp [hlt]
  . rw [List.getElem?_eq_none (by simpa using Nat.le_of_not_lt hi),List.getElem?_eq_none (by simpa using Nat.le_of_not_lt hi)]
    rfl
end
end HT
namespace L2.DL
open PySem PySem.Spec PyProof.Rows
section
variable {X : Cx} {T : Fr} {Z : Xs} {a b c e : Expr} {es : List Expr} {ma mb mc : DE W} {pos p p2 : Pos} {lo hi : Option Expr}
noncomputable def rSlW (K:PySem.W.Frag):V->Option Int->Option Int->Hp->VK->Prop:=fun x lo hi H Q=>∃ a xs,x=.ref a /\ SqT K H a xs /\
  (HT.sIx xs.length 0 lo=0 /\ HT.sIx xs.length xs.length hi=xs.length) /\ Q (.ref a) H
theorem ME:SlR X (rSlW X.K):=by
  intro pins s σ H x v vl vu lo hi sl Q I rx hs pl pu h
  obtain ⟨a,xs,rfl,hx,hw,q⟩:=h
  cases rx
  obtain ⟨its,r,ht,hz⟩:=I.tuple hx
  have hlen:its.toArray.size=xs.length:=by rw [List.size_toArray];exact r.length.symm
  exact ⟨"tuple",_,PyProof.Rows.slot_tuple_getitem.lookup,ht.typeIs,HT.AE ht hs pl pu (by rw [hlen];exact hw) ⟨.ref a,H,I,rfl,q⟩⟩
noncomputable def rSl (K:PySem.W.Frag):V->Option Int->Option Int->Hp->VK->Prop:=fun x lo hi H Q=>rSlT K x lo hi H Q \/ rSlW K x lo hi H Q \/ rSlL K x lo hi H Q
theorem N2:SlR X (rSl X.K):=NH.or (ME.or Mr)
noncomputable def cutD (xs:List D) (lo hi:Option Int):List D:=(xs.drop (HT.sIx xs.length 0 lo)).take (HT.sIx xs.length xs.length hi - HT.sIx xs.length 0 lo)
theorem GF {F:Hp}{l:List D}{vs:List V} (h:DenL F l vs) (lo hi:Option Int):DenL F (cutD l lo hi) (cutV vs lo hi):=by
  unfold cutD cutV
  rw [h.length]
  exact (h.drop _).take _
noncomputable def slD:D->Option Int->Option Int->Option Res
  | .tup l,lo,hi=>some (.tup (cutD l lo hi))
  | .lst l,lo,hi=>some (.lst (cutD l lo hi))
  | _,_,_=>none
theorem okSl {K:PySem.W.Frag}{F H:Hp}{x:D}{v:V}{lo hi:Option Int}{Q:VK}{s:Res} (sub:Sub F H) (rx:Rdd F H x v) (e:slD x lo hi=some s) (k:∀ u H',RRes F H s u H'->Q u H'):rSl K v lo hi H Q:=by
  cases x with
  | tup l =>
    cases e
    obtain ⟨a,vs,rfl,h1,h2⟩:=rx
    by_cases hw:HT.sIx vs.length 0 lo=0 /\ HT.sIx vs.length vs.length hi=vs.length
    . refine .inr (.inl ⟨a,vs,rfl,.of (sub _ _ h1),hw,k _ _ (.inl ⟨rfl,?_⟩)⟩)
      have e:cutD l lo hi=l:=by
        unfold cutD
        rw [h2.length,hw.1,hw.2,Nat.sub_zero,List.drop_zero,<-h2.length,List.take_length]
      rw [e]
      exact ⟨a,vs,rfl,h1,h2⟩
    . exact .inl ⟨a,vs,rfl,.of (sub _ _ h1),hw,fun p hp=>k _ _ (.inr ⟨p,_,rfl,hp,rfl,GF h2 lo hi⟩)⟩
  | lst l =>
    cases e
    obtain ⟨a,vs,rfl,h1,h2⟩:=rx
    exact .inr (.inr ⟨a,vs,rfl,.of h1,fun p hp=>k _ _ ⟨p,_,rfl,hp,rfl,GF h2 lo hi⟩⟩)
  | non=>cases e
  | bl _=>cases e
  | int _=>cases e
  | str _=>cases e
  | dic _=>cases e
noncomputable abbrev DenO:Hp->List Addr->Option Int->Option Int->Prop:=fun _ _ a b=>a=b
noncomputable def tDO (T:Fr) (Z:Xs) (m:DE (Option Int)):TO:=fun σ H Q=>∃ F r env bx,Rel T F r σ H env bx /\ End T Z DenO F r σ env Q (m env bx)
noncomputable def PDO (X:Cx) (T:Fr) (Z:Xs) (e:Option Expr) (m:DE (Option Int)):Prop:=PO X e (tDO T Z m)
theorem PO.imp {X:Cx}{e:Option Expr}{t t':TO} (h:PO X e t) (f:∀ σ H Q,t' σ H Q->t σ H Q):PO X e t':=fun pins s σ H Q I q=>h pins s σ H Q I (f σ H Q q)
noncomputable def dNo:DE (Option Int):=fun _ bx=>.val none bx
noncomputable def dPart (m:DE W):DE (Option Int):=fun env bx=>fO (m env bx) fun w bx1=>match w with | .d (.int i)=>.val (some i) bx1 | _=>.bad
theorem mt:PDO X T Z none dNo:=PO.imp Mn fun σ H Q ⟨F,r,env,bx,R,h⟩=>h F r none H (.refl F r) R rfl
theorem iz (h:PD X T Z e ma):PDO X T Z (some e) (dPart ma):=by
  refine PO.imp (Mo h) fun σ H Q ⟨F,r,env,bx,R,h⟩=>?_
  refine ⟨F,r,env,bx,R,End.bind h fun w bx1 F1 r1 v H1 g1 R1 d1 h1=>?_⟩
  split at h1
  . rename_i i
    exact ⟨i,d1,h1 F1 r1 _ H1 (.refl F1 r1) R1 rfl⟩
  . exact h1.elim
noncomputable def dSl (bo:Bool) (m:DE W) (l u:DE (Option Int)):DE W:=fun env bx=>fO (m env bx) fun x bx1=>fO (l env bx1) fun i bx2=>fO (u env bx2) fun j bx3=>resO bo ((rdW bx3 x).bind fun d=>slD d i j) bx3
theorem iT {l u:DE (Option Int)} (bo:Bool) (ha:PD X T Z e ma) (hl:PDO X T Z lo l) (hu:PDO X T Z hi u):PD X T Z (.Subscript e (.Slice lo hi none p2) pos) (dSl bo ma l u):=by
  refine PE.imp (J3 N2 ha hl hu) fun σ H Q ⟨F,r,env,bx,R,h⟩=>?_
  refine ⟨F,r,env,bx,R,End.bind h fun x bx1 F1 r1 v H1 g1 R1 d1 h1=>?_⟩
  refine ⟨F1,r1,env,bx1,R1,End.bind h1 fun i bx2 F2 r2 i' H2 g2 R2 d2 h2=>?_⟩
  refine ⟨F2,r2,env,bx2,R2,End.bind h2 fun j bx3 F3 r3 j' H3 g3 R3 d3 h3=>?_⟩
  subst d2 d3
  cases e1:rdW bx3 x with
  | none=>rw [e1] at h3;exact h3.elim
  | some d =>
    rw [e1] at h3
    simp only [Option.bind_some] at h3
    cases e2:slD d i j with
    | none=>rw [e2] at h3;exact h3.elim
    | some s =>
      rw [e2] at h3
      exact okSl R3.fh (R3.rdd (g3.den (g2.den d1)) e1) e2 fun u H' k=>lc R3 h3 k
theorem N3 {te:TE}{i:Int}{j:Nat}{q1 q2:Pos} (he:PE X e te):PE X (.Subscript e (.Slice none none (some (.UnaryOp .USub (.Constant (.int 1) j q1) q2)) p2) pos)
    (fun σ H Q=>te σ H fun x H1=>∃ a xs,x=.ref a /\ SqL X.K H1 a xs /\ ∀ p,H1 p=none->Q (.ref p) (upd H1 p (.lst xs.reverse))):=by
  intro pins s σ H Q I h
  refine Subscript_ (thn (he pins s σ H _ I h) fun v s1 ⟨x,H1,I1,r1,q1⟩=>?_)
  refine wpAny_Slice ?_
  rw [evalPart_none]
  refine wpAny_pure (wpAny_pure ?_)
  rw [evalPart_some]
  refine thn (Na (X:=X) JW By pins s1 σ H1 (fun y H2=>y=.int (-1) /\ H2=H1) I1 ⟨1,rfl,rfl,rfl⟩) fun vs s3 ⟨y,H3,I3,r3,e1,e2⟩=>?_
  subst e1 e2
  obtain ⟨t,rfl⟩:=r3
  obtain ⟨a,xs,rfl,hx,q⟩:=q1
  cases r1
  have I4:Inv X pins σ H3 { s3 with heap:=s3.heap.push { cls:=.type "slice",data:=.fields #[.none,.none,.int (-1) t] } }:=I3.kept (t':=s3.toks) fun b ob q=>Heap.get?_push_of_some _ q
  obtain ⟨its,r,ht,hz⟩:=I4.list hx
  have hlen:=r.length
  have hg:wpAny (model X.prog X.w) X.A (getItem (.ref a) (.ref s3.heap.objs.size)) (EP X pins σ Q) X.xe { s3 with heap:=s3.heap.push { cls:=.type "slice",data:=.fields #[.none,.none,.int (-1) t] } }:=by
    refine wpAny_getItem_list_slice (lo:=none) (hi:=none) (st:=some (-1)) ht.isList (Heap.IsSliceOf.new ..) .none .none (.int (-1) t) (by simp) ?_ (by rw [List.size_toArray] <;> omega)
    rw [HT.Cf]
    refine ⟨.ref _,_,I4.laid (t':=s3.toks) (o:=.lst xs.reverse) (fun b ob q=>Heap.get?_push_of_some _ q) (Nat.le_refl _) ?_,rfl,q _ (I4.hok.fresh (Nat.le_refl _))⟩
    exact ⟨by rw [List.length_reverse];exact hz,_,0,r.reverse,Heap.get?_push_size _ rfl⟩
  show wpAny (model X.prog X.w) X.A (subscriptTail e (.Slice none none (some (.UnaryOp .USub (.Constant (.int 1) j _) q2)) p2) (.ref a) (.ref s3.heap.objs.size)) (EP X pins σ Q) X.xe _
  exact tail_any (ops:=[.ref a,.ref s3.heap.objs.size]) ht.isList.typeIs slot_list_getitem.lookup hg (by with_unfolding_all rfl)
noncomputable def dRev (bo:Bool) (m:DE W):DE W:=fun env bx=>fO (m env bx) fun x bx1=>resO bo ((rdW bx1 x).bind fun d=>match d with | .lst l=>some (.lst l.reverse) | _=>none) bx1
theorem N4 {j:Nat}{q1 q2:Pos} (bo:Bool) (ha:PD X T Z e ma):PD X T Z (.Subscript e (.Slice none none (some (.UnaryOp .USub (.Constant (.int 1) j q1) q2)) p2) pos) (dRev bo ma):=by
  refine PE.imp (N3 (i:=0) ha) fun σ H Q ⟨F,r,env,bx,R,h⟩=>?_
  refine ⟨F,r,env,bx,R,End.bind h fun x bx1 F1 r1 v H1 g1 R1 d1 h1=>?_⟩
  cases e1:rdW bx1 x with
  | none=>rw [e1] at h1;exact h1.elim
  | some d =>
    rw [e1] at h1
    cases d with
    | lst l =>
      obtain ⟨a,vs,rfl,k1,k2⟩:=R1.rdd d1 e1
      exact ⟨a,vs,rfl,.of k1,fun p hp=>lc R1 h1 ⟨p,_,rfl,hp,rfl,k2.reverse⟩⟩
    | _=>exact h1.elim
noncomputable def dNeg (m:DE W):DE W:=fun env bx=>fO (m env bx) fun w bx1=>match w with | .d (.int i)=>.val (.d (.int (-i))) bx1 | _=>.bad
theorem oy (ha:PD X T Z a ma):PD X T Z (.UnaryOp .USub a pos) (dNeg ma):=by
  refine PE.imp (Na JW ha) fun σ H Q ⟨F,r,env,bx,R,h⟩=>?_
  refine ⟨F,r,env,bx,R,End.bind h fun w bx1 F1 r1 v H1 g1 R1 d1 h1=>?_⟩
  split at h1
  . rename_i i
    exact ⟨i,d1,h1 F1 r1 _ H1 (.refl F1 r1) R1 rfl⟩
  . exact h1.elim
end
end L2.DL
set_option Elab.async false
set_option linter.all false
set_option maxRecDepth 100000
set_option maxHeartbeats 4000000
namespace HT
open PySem PySem.Spec PyProof.Rows
section
variable {prog : Program} {w : World} {A : Around} {E : Value -> Shared -> Prop} {s : Shared}
theorem DP {l:Addr}{vs:List Value}{Q:List Value->Shared->Prop} (hl:IsTup s.heap l vs.toArray) (hz:vs.length <= sizeLine)
    (h:Q vs { s with heap:=(s.heap.push (seqObj "list" #[] 0)).update s.heap.objs.size (Obj.mapSeq (· ++ vs.toArray)) }):wpAny (model prog w) A (collect (.ref l)) Q E s:=by
  obtain ⟨ob,ho,hcl,k,hda⟩:=id hl
  unfold collect
  refine wpAny_bind (wpAny_runValue (codeAny_builtin entry_proto_collect' (wpAny_bind (wpAny_newList (wpAny_pure ⟨Code.quiet_builtin _ (by decide +kernel),codeAny_builtin entry_list_iadd' ?_⟩)))))
  show wpAny _ _ (Builtin.List.listExtendWith (.ref s.heap.objs.size) (.ref l) (.ref s.heap.objs.size)) _ _ { s with heap:=s.heap.push (seqObj "list" #[] 0) }
  unfold Builtin.List.listExtendWith
  have hob:(s.heap.push (seqObj "list" #[] 0)).get? l=some ob:=Heap.get?_push_of_some _ ho
  refine wpAny_bind (wpAny_typeOf (T:="tuple") ⟨ob,hob,hcl⟩ ?_)
  rw [if_pos (by rw [show (Value.type "tuple" == Value.type "tuple")=true by decide,Bool.or_true])]
  refine wpAny_bind (listItems_at hob hda (wpAny_bind (listItems_at (xs:=#[]) (n:=0) (Heap.get?_push_size _ rfl) rfl ?_)))
  rw [if_neg (by simp)]
  refine wpAny_bind (listUpdate_at (xs:=#[]) (n:=0) (Heap.get?_push_size _ rfl) rfl (wpAny_pure ?_) (Nat.zero_le _) (by show (#[] ++ vs.toArray).size <= sizeLine + 1;simp only [Array.size_append,List.size_toArray,List.length_nil];omega))
  refine wpAny_bind (wpAny_load (get?_update_seq (Heap.get?_push_size _ rfl) _) (show wpAny _ _ (pure ((#[]:Array Value) ++ vs.toArray).toList) Q E _ from ?_))
  rw [show ((#[]:Array Value) ++ vs.toArray).toList=vs by simp]
  exact wpAny_pure h
theorem BH {l:Addr}{vs:List Value}{ns:List Int}{Q:Value->Shared->Prop} (hl:IsTup s.heap l vs.toArray) (hI:IntsAre vs ns) (h64:vs.length < 64)
    (h:∀ (out:Array Value) (ns':List Int),IntsAre out.toList ns'->ns'.Perm ns->ns'.Pairwise (· <= ·)->Q (.ref (s.heap.objs.size + 1)) { s with heap:=sortedAll s.heap vs out }):wpAny (model prog w) A (call (.builtin "sorted") [.ref l]) Q E s:=by
  refine Calls.call_function_entry kind_sorted plain_sorted entry_sorted (args_sorted1 _) ?_
  unfold Builtin.«sorted»
  refine wpAny_bind (m:=checkCount "sorted" 1 1 _) (wpAny_pure (wpAny_bind (DP hl (Nat.le_trans (Nat.le_of_lt h64) (by decide)) (wpAny_bind (wpAny_newList ?_)))))
  have hsz:((s.heap.push (seqObj "list" #[] 0)).update s.heap.objs.size (Obj.mapSeq (· ++ vs.toArray))).objs.size=s.heap.objs.size + 1:=by rw [Heap.size_update,size_push']
  have hoL:(((s.heap.push (seqObj "list" #[] 0)).update s.heap.objs.size (Obj.mapSeq (· ++ vs.toArray))).push (seqObj "list" vs.toArray 0)).get? (s.heap.objs.size + 1)=some (seqObj "list" vs.toArray 0):=by rw [<-hsz];exact Heap.get?_push_size _ rfl
  show wpAny _ _ _ _ _ { s with heap:=((s.heap.push (seqObj "list" #[] 0)).update s.heap.objs.size (Obj.mapSeq (· ++ vs.toArray))).push (seqObj "list" vs.toArray 0) }
  rw [hsz]
  exact wpAny_bind (wpAny_holding (wpAny_call_entry slot_list_sort ⟨_,hoL,rfl⟩ entry_list_sort (list_sort_tree hoL hI h64 fun out ns' a1 a2 a3=>⟨_,rfl,wpAny_pure ⟨_,rfl,h out ns' a1 a2 a3⟩⟩) (args_list_sort _)))
end
end HT
namespace L2.DL
open PySem PySem.Spec PyProof.Rows
noncomputable def sortI (ns:List Int):List Int:=ns.mergeSort fun a b=>decide (a <= b)
theorem oz (ns:List Int):(sortI ns).Perm ns:=List.mergeSort_perm ns _
theorem AF (ns:List Int):(sortI ns).Pairwise (· <= ·):=by
  have h:=List.pairwise_mergeSort (le:=fun a b:Int=>decide (a <= b)) (fun a b c h1 h2=>by simp at *;omega) (fun a b=>by simp;omega) ns
  exact h.imp fun q=>by simpa using q
theorem DQ {a b:List Int} (p:a.Perm b) (ha:a.Pairwise (· <= ·)) (hb:b.Pairwise (· <= ·)):a=b :=
  p.eq_of_pairwise (fun x y _ _ h1 h2=>Int.le_antisymm h1 h2) ha hb
section
variable {X : Cx} {T : Fr} {Z : Xs} {a b c e : Expr} {es : List Expr} {ma mb mc : DE W} {pos p p2 : Pos}
noncomputable def rSort (K:PySem.W.Frag) (vs:List V) (H:Hp) (Q:VK):Prop:=∃ (p:Addr) (ns:List Int),vs=[.ref p] /\ (SqL K H p (ns.map V.int) \/ SqT K H p (ns.map V.int)) /\ ns.length < 64 /\ ∀ l,H l=none->Q (.ref l) (upd H l (.lst ((sortI ns).map V.int)))
theorem Cw:∀ {us:List Value}{ns:List Int},IntsAre us ns->Vals (ns.map V.int) us
  | _,_,.nil=>.nil
  | _,_,.cons n t h=>.cons ⟨t,rfl⟩ (Cw h)
theorem Jo:CallR X (.builtin "sorted") (rSort X.K):=by
  intro pins s σ H xs us Q I rv h
  obtain ⟨p,ns,rfl,hp,h64,q⟩:=h
  obtain ⟨u,rfl,ru⟩:=Vals.one rv
  cases ru
  have fin:∀ (its:List Value) (out:Array Value) (ns':List Int),IntsAre out.toList ns'->ns'.Perm ns->ns'.Pairwise (· <= ·)->EP X pins σ Q (.ref (s.heap.objs.size + 1)) { s with heap:=sortedAll s.heap its out }:=fun its out ns' a1 a2 a3=>by
    obtain ⟨k,he⟩:=sortedAll_at s.heap its out
    have e:ns'=sortI ns:=DQ (a2.trans (oz ns).symm) a3 (AF ns)
    subst e
    have hf:H (s.heap.objs.size + 1)=none:=I.hok.fresh (Nat.le_succ _)
    have ll:((sortI ns).map V.int).length <= sizeLine:=by
      rw [List.length_map,(oz ns).length_eq];exact Nat.le_trans (Nat.le_of_lt h64) (by decide)
    refine ⟨.ref (s.heap.objs.size + 1),_,I.laid (t':=s.toks) (o:=.lst ((sortI ns).map V.int)) (fun b ob q=>sortedAll_old q) (Nat.le_succ _) ?_,rfl,q _ hf⟩
    exact ⟨ll,out.toList,k,Cw a1,he⟩
  rcases hp with hp | hp
  . obtain ⟨its,r1,p1,z1⟩:=I.list hp
    have hl:ns.length=its.length:=by have:=r1.length;simpa using this
    exact sorted_ints p1.isList (jw r1) (by omega) fun out ns'=>fin its out ns'
  . obtain ⟨its,r1,p1,z1⟩:=I.tuple hp
    have hl:ns.length=its.length:=by have:=r1.length;simpa using this
    exact HT.BH p1 (jw r1) (by omega) fun out ns'=>fin its out ns'
noncomputable def sortD:List D->Option Res
  | [.lst l]=>(intsOf l).bind fun ns=>if ns.length < 64 then some (.lst ((sortI ns).map D.int)) else none
  | [.tup l]=>(intsOf l).bind fun ns=>if ns.length < 64 then some (.lst ((sortI ns).map D.int)) else none
  | _=>none
theorem AG {F:Hp}:∀ (ns:List Int),DenL F (ns.map D.int) (ns.map V.int)
  | []=>rfl
  | n :: ns=>.cons rfl (AG ns)
theorem okSort {K:PySem.W.Frag}:OkN (rSort K) sortD:=by
  intro F H xs vs Q s sub rx e k
  unfold sortD at e
  split at e
  . rename_i l
    obtain ⟨v,t,rfl,⟨a,us,rfl,h1,h2⟩,rt⟩:=rx
    cases (show t=[] from rt)
    cases e1:intsOf l with
    | none=>rw [e1] at e;cases e
    | some ns =>
      rw [e1] at e
      simp only [Option.bind_some] at e
      split at e
      . rename_i h64
        cases e
        have q1:=h2.ints e1
        subst q1
        exact ⟨a,ns,rfl,.inl (.of h1),h64,fun l hl=>k _ _ ⟨l,_,rfl,hl,rfl,AG _⟩⟩
      . cases e
  . rename_i l
    obtain ⟨v,t,rfl,⟨a,us,rfl,h1,h2⟩,rt⟩:=rx
    cases (show t=[] from rt)
    cases e1:intsOf l with
    | none=>rw [e1] at e;cases e
    | some ns =>
      rw [e1] at e
      simp only [Option.bind_some] at e
      split at e
      . rename_i h64
        cases e
        have q1:=h2.ints e1
        subst q1
        exact ⟨a,ns,rfl,.inr (.of (sub _ _ h1)),h64,fun l hl=>k _ _ ⟨l,_,rfl,hl,rfl,AG _⟩⟩
      . cases e
  . cases e
noncomputable def dApp (m:DE W) (k:DE W):DE W:=fun env bx=>fO (m env bx) fun x bx1=>match x with
  | .b n=>(match bx1[n]? with
    | some (.lst _)=>fO (k env bx1) fun y bx2=>(match y,bx2[n]? with
      | .d d,some (.lst l)=>if l.length < sizeLine then .val (.d .non) (bx2.set n (.lst (l ++ [d]))) else .bad
      | _,_=>.bad)
    | _=>.bad)
  | _=>.bad
theorem OO {σ:St}{H:Hp}{Q:VK} (h:tD T Z (dApp ma mb) σ H Q):tBM X.K "list" rAppend (tD T Z ma) (tCons (tD T Z mb) tNil) σ H Q:=by
  obtain ⟨F,r,env,bx,R,h⟩:=h
  refine ⟨F,r,env,bx,R,End.bind h fun x bx1 F1 r1 v H1 g1 R1 d1 h1=>?_⟩
  cases x with
  | d _=>exact h1.elim
  | s _=>exact h1.elim
  | x _=>exact h1.elim
  | b n =>
    simp only at h1
    obtain ⟨a,rfl,ha⟩:=d1
    obtain ⟨c,hc,kc⟩:=R1.bat ha
    rw [hc] at h1
    cases c with
    | dic _=>exact h1.elim
    | dead=>exact h1.elim
    | lst l0 =>
      obtain ⟨_,vs0,k0,_⟩:=kc
      refine ⟨.inl ⟨rfl,vs0,SqL.of k0⟩,?_⟩
      refine ⟨F1,r1,env,bx1,R1,End.bind h1 fun y bx2 F2 r2 u H2 g2 R2 d2 h2=>?_⟩
      obtain ⟨t,et⟩:=g2.p
      have ha2:r2[n]?=some a:=by rw [<-et,List.getElem?_append_left (List.getElem?_eq_some_iff.mp ha).1];exact ha
      obtain ⟨c2,hc2,kc2⟩:=R2.bat ha2
      rw [hc2] at h2
      cases y with
      | b _=>exact h2.elim
      | s _=>exact h2.elim
      | x _=>exact h2.elim
      | d dd =>
        cases c2 with
        | dic _=>exact h2.elim
        | dead=>exact h2.elim
        | lst l =>
          simp only at h2
          split at h2
          . rename_i hz
            obtain ⟨hF,vs,k1,k2⟩:=kc2
            refine ⟨a,vs,u,rfl,rfl,k1,by rw [<-k2.length];exact hz,?_⟩
            exact h2 F2 r2 _ _ (.refl F2 r2) (R2.write ha2 hF ⟨hF,vs ++ [u],fX,k2.append (.cons d2 .nil)⟩) rfl
          . exact h2.elim
end
end L2.DL
set_option Elab.async false
set_option linter.all false
set_option maxRecDepth 100000
namespace L2
open PySem PySem.Spec PyProof.Rows
section
variable {κ : Type} [DecidableEq κ]
noncomputable def putK (kvs:List (κ × V)) (k:κ) (v:V):List (κ × V) :=
  if (kvs.any fun kv=>decide (kv.1=k))=true then kvs.map (fun kv=>if kv.1=k then (kv.1,v) else kv) else kvs ++ [(k,v)]
theorem DR (kvs:List (κ × V)) (k:κ) (v:V):(putK kvs k v).length <= kvs.length + 1:=by
  unfold putK
  split
  . rw [List.length_map];omega
  . rw [List.length_append,List.length_cons,List.length_nil];omega
theorem KV.any {kvs:List (κ × V)}{vs:List (κ × Value)} (r:KV kvs vs) (k:κ):(kvs.any fun kv=>decide (kv.1=k))=vs.any fun kv=>decide (kv.1=k):=by
  unfold KV at r
  induction r with
  | nil=>rfl
  | cons h t ih=>rw [List.any_cons,List.any_cons,ih,h.1]
theorem KV.repl {kvs:List (κ × V)}{vs:List (κ × Value)} (r:KV kvs vs) (k:κ) {y:V}{u:Value} (ry:RelV y u) :
    KV (kvs.map fun kv=>if kv.1=k then (kv.1,y) else kv) (vs.map fun kv=>if kv.1=k then (kv.1,u) else kv):=by
  unfold KV at r ⊢
  induction r with
  | nil=>exact .nil
  | @cons p q ps qs h t ih =>
    rw [List.map_cons,List.map_cons]
    refine .cons ?_ ih
    obtain ⟨h1,h2⟩:=h
    by_cases e:p.1=k
    . rw [if_pos e,if_pos (h1.symm.trans e)];exact ⟨h1,ry⟩
    . rw [if_neg e,if_neg (fun z=>e (h1.trans z))];exact ⟨h1,h2⟩
theorem KV.put {kvs:List (κ × V)}{vs:List (κ × Value)} (r:KV kvs vs) (k:κ) {y:V}{u:Value} (ry:RelV y u):KV (putK kvs k y) (stored vs k u):=by
  unfold putK stored
  rw [r.any k]
  by_cases e:(vs.any fun kv=>decide (kv.1=k))=true
  . rw [if_pos e,if_pos e];exact r.repl k ry
  . rw [if_neg e,if_neg e];exact Paired.snoc r ⟨rfl,ry⟩
end
theorem OP {P:Program}{w:World}{k:Key}{u:Value} (r:RelV (kV k) u):(mixKind P w).is k u=true:=by
  cases k with
  | inl i=>obtain ⟨t,e⟩:=(show ∃ t,u=Value.int i t from r);subst e;exact Dz P w i t
  | inr x=>obtain ⟨t,e⟩:=(show ∃ t,u=Value.str x t from r);subst e;exact DA P w x t
section
variable {P : Program} {w : World} {H : Hp} {h : Heap} {a : Addr}
theorem OQ {u:HO} (ok:HOk P w H h) (e:Rd H a u):ObjOk P w H h a u:=e.ok ok
theorem OR {kvs:List (Key × V)} (ok:HOk P w H h) (e:Rd H a (.dK kvs)):kvs.length <= sizeLine /\ (a == sysModules)=false /\ ∃ vs,KV kvs vs /\ h.DictOf (mixKind P w) a vs :=
  show ObjOk P w H h a (.dK kvs) from OQ ok e
theorem OT {kvs:List (Key × V)} (ok:HOk P w H h) (e:H a=some (.dK kvs)):kvs.length <= sizeLine /\ (a == sysModules)=false /\ ∃ vs,KV kvs vs /\ h.DictOf (mixKind P w) a vs:=OR ok (.inl e)
end
section
variable {X : Cx} {pins : List (Addr × Obj)} {σ : St} {H : Hp} {s : Shared} {a : Addr} {y v : V} {u r : Value} {o : Option V} {A : Around} {E : Value -> Shared -> Prop}
theorem Inv.big (I:Inv X pins σ H s):sysModules < s.heap.objs.size:=by
  have h:mainGlobals < s.heap.objs.size:=(I.mod.glob.keeps I.bk).lt
  exact Nat.lt_trans (by decide) h
theorem MF {h':Heap}{t':Nat}{ob:HO} (I:Inv X pins σ H s) (mu:Mut (H a)) (hs:Heap.SameBut a s.heap h') (he:∃ q,h'.get? a=some q) (new:ObjOk X.prog X.w (upd H a ob) h' a ob) :
    Inv X pins σ (upd H a ob) { s with heap:=h',toks:=t' } :=
  I.write (x:=a) (e:=a) mu (.inl rfl) (fun b q hb z=>(hs.2 b hb).trans z) he new
theorem N5 {P:Program}{w:World}{H':Hp}{h':Heap}{kvs:List (Key × V)}{vs:List (Key × Value)} (z:kvs.length <= sizeLine) (hd:(a == sysModules)=false) (rel:KV kvs vs) (dd:h'.DictOf (mixKind P w) a vs) :
    ObjOk P w H' h' a (.dK kvs):=⟨z,hd,vs,rel,dd⟩
end
section
variable {X : Cx} {pins : List (Addr × Obj)} {σ : St} {H : Hp} {s : Shared} {a : Addr} {kvs : List (Key × V)} {k : Key} {u : Value} {A : Around} {E : Value -> Shared -> Prop}
end
section
variable {X : Cx} {o i e value : Expr} {pos pos' tpos : Pos} {td ty tv : TE}
end
theorem DS {P:Program}{w:World}{H:Hp} (h:Heap) (hb:sysModules < h.objs.size):ObjOk P w H (h.push { cls:=.type "dict",data:=.dict #[] }) h.objs.size (.dK []) :=
  ⟨Nat.zero_le _,beq_eq_false_iff_ne.mpr (Ne.symm (Nat.ne_of_lt hb)),[],.nil,Heap.DictOf.new h⟩
noncomputable def tDNewK:TE:=fun _ H Q=>∀ p,H p=none->Q (.ref p) (upd H p (.dK []))
section
variable {X : Cx} {pos : Pos}
theorem Ln:PE X (.Dict [] [] pos) tDNewK:=fun pins s σ H Q I h =>
  wpAny_Dict_empty ⟨.ref s.heap.objs.size,_,I.laid (a:=s.heap.objs.size) (o:=.dK []) (t':=s.toks) (fun _ _ q=>Heap.get?_push_of_some _ q) (Nat.le_refl _) (DS s.heap I.big),rfl,h _ (I.hok.fresh (Nat.le_refl _))⟩
end
noncomputable def tPairs:List (TE × TE)->St->Hp->(List (V × V)->Hp->Prop)->Prop
  | [],_,H,Q=>Q [] H
  | (tk,tv) :: r,σ,H,Q=>tk σ H fun x H1=>tv σ H1 fun y H2=>tPairs r σ H2 fun ps H3=>Q ((x,y) :: ps) H3
noncomputable abbrev VV:List (V × V)->List (Value × Value)->Prop:=Paired fun p q=>RelV p.1 q.1 /\ RelV p.2 q.2
noncomputable def PPs (X:Cx) (pos:Pos) (keys:List (Option Expr)) (values:List Expr) (trs:List (TE × TE)):Prop :=
  ∀ (pins:List (Addr × Obj)) (s:Shared) (σ:St) (H:Hp) (Q:List (V × V)->Hp->Prop),Inv X pins σ H s->tPairs trs σ H Q ->
    wpAny (model X.prog X.w) X.A (evalPairs (pairTrees keys values X.env pos)) (fun vs s'=>∃ ps H',Inv X pins σ H' s' /\ VV ps vs /\ Q ps H') X.xe s
theorem MG {X:Cx}{pos:Pos}:PPs X pos [] [] []:=fun pins s σ H Q I h=>pairTrees_nil_walk ⟨[],H,I,.nil,h⟩
theorem Lo {X:Cx}{pos:Pos}{k v:Expr}{ks:List (Option Expr)}{vs:List Expr}{tk tv:TE}{trs:List (TE × TE)} (hk:PE X k tk) (hv:PE X v tv) (hr:PPs X pos ks vs trs) :
    PPs X pos (some k :: ks) (v :: vs) ((tk,tv) :: trs):=fun pins s σ H Q I h =>
  pairTrees_cons_walk (thn (hk pins s σ H _ I h) fun u s1 ⟨x,H1,I1,rx,q1⟩=>thn (hv pins s1 σ H1 _ I1 q1) fun w2 s2 ⟨y,H2,I2,ry,q2⟩ =>
    thn (hr pins s2 σ H2 _ I2 q2) fun ws s3 ⟨ps,H3,I3,rel,q3⟩=>⟨(x,y) :: ps,H3,I3,.cons ⟨rx,ry⟩ rel,q3⟩)
noncomputable def mergeK (kvs more:List (Key × V)):List (Key × V):=more.foldl (fun acc kv=>putK acc kv.1 kv.2) kvs
theorem KV.merge:∀ {more:List (Key × V)}{rs:List (Key × Value)}{kvs:List (Key × V)}{vs:List (Key × Value)},KV more rs->KV kvs vs->KV (mergeK kvs more) (merged vs rs):=by
  intro more rs kvs vs r
  unfold KV at r
  induction r generalizing kvs vs with
  | nil=>intro q;exact q
  | @cons p q ps qs h t ih =>
    intro r0
    have e:KV (putK kvs p.1 p.2) (stored vs q.1 q.2):=by
      have:=r0.put p.1 h.2
      rw [<-h.1];exact this
    exact ih e
theorem Am:∀ (more kvs:List (Key × V)),(mergeK kvs more).length <= kvs.length + more.length
  | [],kvs=>by show kvs.length <= kvs.length + 0;omega
  | p :: r,kvs=>by
    have h1:=Am r (putK kvs p.1 p.2)
    have h2:=DR kvs p.1 p.2
    show (mergeK (putK kvs p.1 p.2) r).length <= _
    rw [List.length_cons];omega
theorem BI {P:Program}{w:World}:∀ {kvs:List (Key × V)}{ws:List (Value × Value)},VV (kvs.map fun kv=>(kV kv.1,kv.2)) ws->∃ rs,Carries (mixKind P w) ws rs /\ KV kvs rs
  | [],_,r=>by rw [List.map_nil] at r;cases r;exact ⟨[],True.intro,.nil⟩
  | p :: kvs,_,r=>by
    rw [List.map_cons] at r
    cases r with
    | @cons a b as bs h t =>
      obtain ⟨rs,c,q⟩:=BI (P:=P) (w:=w) t
      obtain ⟨b1,b2⟩:=b
      exact ⟨(p.1,b2) :: rs,⟨OP h.1,rfl,c⟩,.cons ⟨rfl,h.2⟩ q⟩
noncomputable def tDisp (trs:List (TE × TE)):TE:=fun σ H Q=>∀ p,H p=none->tPairs trs σ (upd H p (.dK [])) fun ps H2=>H2 p=some (.dK []) /\ ∃ kvs:List (Key × V),ps=kvs.map (fun kv=>(kV kv.1,kv.2)) /\ kvs.length <= 15 /\ Q (.ref p) (upd H2 p (.dK (mergeK [] kvs)))
theorem MH {X:Cx}{pos:Pos}{keys:List (Option Expr)}{values:List Expr}{trs:List (TE × TE)} (h:PPs X pos keys values trs) (hall:keys.all (·.isSome)=true) (hl:keys.length=values.length) (h0:keys ≠ [])
    (h15:keys.length <= 15):PE X (.Dict keys values pos) (tDisp trs):=by
  intro pins s σ H Q I q
  have hn:=I.hok.fresh (Nat.le_refl s.heap.objs.size)
  have I1:=I.laid (a:=s.heap.objs.size) (o:=.dK []) (h':=s.heap.push { cls:=.type "dict",data:=.dict #[] }) (t':=s.toks) (fun _ _ q=>Heap.get?_push_of_some _ q) (Nat.le_refl _) (DS s.heap I.big)
  refine wpAny_Dict_walk (knd:=mixKind X.prog X.w) hall hl h0 h15 (thn (h pins _ σ _ _ I1 (q _ hn)) fun ws s2 ⟨ps,H2,I2,rel,e,kvs,ep,lk,q2⟩=>?_)
  subst ep
  obtain ⟨rs,c,rk⟩:=BI (P:=X.prog) (w:=X.w) rel
  obtain ⟨z,hd,vs0,r0,dd⟩:=OT I2.hok e
  cases r0
  refine ⟨rs,c,dd,fun h' dd' hs=>⟨.ref s.heap.objs.size,_,?_,rfl,q2⟩⟩
  have hz:(mergeK [] kvs).length <= sizeLine:=by
    have h1:=Am kvs []
    rw [List.length_nil] at h1
    rw [sizeLine_eq];omega
  have he:∃ q,h'.get? s.heap.objs.size=some q:=let ⟨q,_,_,hq,_⟩:=dd';⟨q,hq⟩
  exact MF I2 (by rw [e];exact True.intro) hs he (N5 hz hd (rk.merge .nil) dd')
structure M1 (X:Cx) (o:Expr) (m:Str) (apos:Pos) (e:Expr) (cpos:Pos):Prop where
  base:attributeBase o m X.env (eval o X.env)=eval o X.env
  few:((backTo cpos (starEach [e] X.env)).all (fun x=>!x.1) && (backToKw cpos (keywordEach [] X.env)).all (fun x=>x.1.isSome)
    && decide (([e]:List Expr).length + ([]:List Keyword).length + (if ([]:List Keyword).isEmpty then 0 else 1) < 30))=true
  line:(apos.endLine == cpos.line)=true
  trees:backTo cpos (starEach [e] X.env)=[(false,eval e X.env)]
structure M2 (X:Cx) (o:Expr) (m:Str) (apos:Pos) (e f:Expr) (cpos:Pos):Prop where
  base:attributeBase o m X.env (eval o X.env)=eval o X.env
  few:((backTo cpos (starEach [e,f] X.env)).all (fun x=>!x.1) && (backToKw cpos (keywordEach [] X.env)).all (fun x=>x.1.isSome)
    && decide (([e,f]:List Expr).length + ([]:List Keyword).length + (if ([]:List Keyword).isEmpty then 0 else 1) < 30))=true
  line:(apos.endLine == cpos.line)=true
  trees:backTo cpos (starEach [e,f] X.env)=[(false,eval e X.env),(false,eval f X.env)]
section
variable {X : Cx} {pins : List (Addr × Obj)} {σ : St} {H : Hp} {s : Shared} {a : Addr} {y d : V} {u r : Value} {o : Option V} {A : Around} {E : Value -> Shared -> Prop}
end
section
variable {X : Cx} {o e f : Expr} {apos cpos : Pos} {td ty tx : TE}
end
section
variable {X : Cx} {pins : List (Addr × Obj)} {σ : St} {H : Hp} {s : Shared} {a : Addr} {kvs : List (Key × V)} {A : Around} {E : Value -> Shared -> Prop}
end
section
variable {X : Cx} {pins : List (Addr × Obj)} {σ : St} {H : Hp} {s : Shared} {a : Addr} {y : V} {u : Value} {A : Around} {E : Value -> Shared -> Prop}
end
end L2
set_option Elab.async false
set_option linter.all false
set_option maxRecDepth 100000
set_option maxHeartbeats 4000000
namespace L2.DL
open PySem PySem.Spec PyProof.Rows
noncomputable def keyP:Key->PyData
  | .inl i=>.int i
  | .inr x=>.str x
mutual
noncomputable def toPy:D->PyData
  | .non=>.none
  | .bl b=>.bool b
  | .int i=>.int i
  | .str x=>.str x
  | .tup l=>.tuple (toPys l)
  | .lst l=>.list (toPys l)
  | .dic l=>.dict (toPyK l)
noncomputable def toPys:List D->List PyData
  | []=>[]
  | d :: l=>toPy d :: toPys l
noncomputable def toPyK:List (Key × D)->List (PyData × PyData)
  | []=>[]
  | (k,d) :: l=>(keyP k,toPy d) :: toPyK l
end
section
variable {X : Cx} {pins : List (Addr × Obj)} {σ : St} {F H : Hp} {s : Shared}
theorem Cy {h:Heap}:∀ {es:List DictEntry}{vs:List (Key × Value)}{l:List (Key × D)}{kvs:List (Key × V)},PySem.Pairs (mixKind X.prog X.w) es vs->KV kvs vs->DenK F l kvs->ReadsAll h (es.map (·.key)) ((toPyK l).map (·.1)) []
  | _,_,[],_,p,k,d=>by
    cases (show _=[] from d)
    cases k
    cases p
    exact .nil
  | _,_,(k,x) :: l,_,p,q,d=>by
    obtain ⟨v,r,e,_,d2⟩:=d
    subst e
    cases q with
    | cons q1 q2 =>
      cases p with
      | @cons de _ _ _ p1 p2 p3 =>
        have ih:=Cy (h:=h) p3 q2 d2
        have e1:=q1.1
        simp only at e1
        rw [<-e1] at p1
        have hk:Reads h de.key (keyP k) []:=by
          rcases gO (show keyIs k de.key=true from p1) with ⟨i,t,e2,e3⟩ | ⟨y,t,e2,e3⟩
          . rw [e2,e3];exact .int i t
          . rw [e2,e3];exact .str y t
        exact ReadsAll.cons hk ih
mutual
theorem jB (I:Inv X pins σ H s) (sub:Sub F H):∀ {d:D}{v:V}{u:Value},Den F d v->RelV v u->∃ as,Reads s.heap u (toPy d) as
  | .non,_,_,h,r=>by cases (show _=V.non from h);cases r;exact ⟨[],.none⟩
  | .bl b,_,_,h,r=>by cases (show _=V.bl b from h);cases r;exact ⟨[],.bool b⟩
  | .int i,_,_,h,r=>by cases (show _=V.int i from h);obtain ⟨t,rfl⟩:=r;exact ⟨[],.int i t⟩
  | .str x,_,_,h,r=>by cases (show _=V.str x from h);obtain ⟨t,rfl⟩:=r;exact ⟨[],.str x t⟩
  | .tup l,_,_,h,r=>by
    obtain ⟨a,vs,rfl,h1,h2⟩:=h
    cases r
    obtain ⟨_,its,rv,ob,e1,e2,n,e3⟩:=(show ObjOk X.prog X.w H s.heap a (.tup vs) from I.hok a _ (sub _ _ h1))
    obtain ⟨as,ra⟩:=As I sub h2 rv
    exact ⟨as,.tuple e1 e2 e3 (by simpa using ra)⟩
  | .lst l,_,_,h,r=>by
    obtain ⟨a,vs,rfl,h1,h2⟩:=h
    cases r
    obtain ⟨_,its,n,rv,e1⟩:=(show ObjOk X.prog X.w H s.heap a (.lst vs) from I.hok a _ (sub _ _ h1))
    obtain ⟨as,ra⟩:=As I sub h2 rv
    exact ⟨a :: as,.list e1 rfl rfl (by simpa using ra)⟩
  | .dic l,_,_,h,r=>by
    obtain ⟨a,kvs,rfl,h1,h2⟩:=h
    cases r
    obtain ⟨_,_,vs,rk,ob,es,ep,e1,e2,e3,_,pr,_⟩:=(show ObjOk X.prog X.w H s.heap a (.dK kvs) from I.hok a _ (sub _ _ h1))
    obtain ⟨as,ra⟩:=BJ I sub h2 rk pr
    exact ⟨a :: [] ++ as,.dict e1 e2.1 e3 (Cy (X:=X) pr rk h2) ra⟩
theorem As (I:Inv X pins σ H s) (sub:Sub F H):∀ {l:List D}{vs:List V}{us:List Value},DenL F l vs->Vals vs us->∃ as,ReadsAll s.heap us (toPys l) as
  | [],_,_,h,r=>by cases (show _=[] from h);cases r;exact ⟨[],.nil⟩
  | d :: l,_,_,h,r=>by
    obtain ⟨v,t,e,h1,h2⟩:=h
    subst e
    cases r with
    | cons r1 r2 =>
      obtain ⟨as,ra⟩:=jB I sub h1 r1
      obtain ⟨bs,rb⟩:=As I sub h2 r2
      exact ⟨as ++ bs,.cons ra rb⟩
theorem BJ (I:Inv X pins σ H s) (sub:Sub F H):∀ {l:List (Key × D)}{kvs:List (Key × V)}{vs:List (Key × Value)}{es:List DictEntry},DenK F l kvs->KV kvs vs->PySem.Pairs (mixKind X.prog X.w) es vs->∃ as,ReadsAll s.heap (es.map (·.val)) ((toPyK l).map (·.2)) as
  | [],_,_,_,h,r,p=>by cases (show _=[] from h);cases r;cases p;exact ⟨[],.nil⟩
  | (k,d) :: l,_,_,_,h,r,p=>by
    obtain ⟨v,t,e,h1,h2⟩:=h
    subst e
    cases r with
    | cons r1 r2 =>
      cases p with
      | cons p1 p2 p3 =>
        obtain ⟨as,ra⟩:=jB I sub h1 r1.2
        obtain ⟨bs,rb⟩:=BJ I sub h2 r2 p3
        rw [<-p2] at ra
        exact ⟨as ++ bs,.cons ra rb⟩
end
noncomputable abbrev Fit (ts:List Str):Prop:=∀ t ∈ ts,t.length <= sizeLine
theorem Lp {h:Heap}{k:Key}{y:Value} (e:keyIs k y=true) (hs:(keyP k).showable=true) (hz:(keyP k).shown.length <= sizeLine) (n:Nat):ReprK X.prog X.w [] h n y (keyP k).shown:=by
  rcases gO e with ⟨i,t,e2,e3⟩ | ⟨x,t,e2,e3⟩
  . subst e2;subst e3
    exact .of_is (ReprIs.int t (by simpa [keyP,PyData.showable] using hs)) _ _ _
  . subst e2;subst e3
    exact .of_is (ReprIs.str x t (by simpa only [keyP,PyData.shown] using hz)) _ _ _
theorem AV {h:Heap}{n:Nat}:∀ {es:List DictEntry}{vs:List (Key × Value)}{l:List (Key × D)}{kvs:List (Key × V)},PySem.Pairs (mixKind X.prog X.w) es vs->KV kvs vs->DenK F l kvs->PyData.showableKv (toPyK l)=true->Fit (PyData.shownKv (toPyK l)) ->
    ReprAllK X.prog X.w [] h n (es.map (·.key)) (PyData.shownAll ((toPyK l).map (·.1)))
  | _,_,[],_,p,k,d,_,_=>by
    cases (show _=[] from d)
    cases k
    cases p
    exact .nil
  | _,_,(k,x) :: l,_,p,q,d,hs,hz=>by
    obtain ⟨v,r,e,_,d2⟩:=d
    subst e
    simp only [toPyK,PyData.showableKv,Bool.and_eq_true] at hs
    simp only [toPyK,PyData.shownKv] at hz
    have z1:=hz _ (List.mem_cons_self ..)
    rw [strLen_append,strLen_append] at z1
    cases q with
    | cons q1 q2 =>
      cases p with
      | @cons de _ _ _ p1 p2 p3 =>
        have e1:=q1.1
        simp only at e1
        rw [<-e1] at p1
        simp only [toPyK,List.map_cons,PyData.shownAll]
        exact .cons (Lp (show keyIs k de.key=true from p1) hs.1.1 (by omega) n) (AV p3 q2 d2 hs.2 fun t m=>hz t (List.mem_cons_of_mem _ m))
mutual
theorem DT (I:Inv X pins σ H s) (sub:Sub F H):∀ {d:D}{v:V}{u:Value},Den F d v->RelV v u->(toPy d).showable=true->(toPy d).shown.length <= sizeLine->∃ bs,ReadAtMost s.heap (toPy d).depth bs /\ ReprK X.prog X.w bs s.heap (toPy d).depth u (toPy d).shown
  | .non,_,_,h,r,_,_=>by cases (show _=V.non from h);cases r;exact ⟨[],(fun _ z=>nomatch z),.of_is ReprIs.none _ _ _⟩
  | .bl b,_,_,h,r,_,_=>by cases (show _=V.bl b from h);cases r;exact ⟨[],(fun _ z=>nomatch z),.of_is (ReprIs.bool b) _ _ _⟩
  | .int i,_,_,h,r,hs,_=>by cases (show _=V.int i from h);obtain ⟨t,rfl⟩:=r;exact ⟨[],(fun _ z=>nomatch z),.of_is (ReprIs.int t (of_decide_eq_true hs)) _ _ _⟩
  | .str x,_,_,h,r,_,hz=>by cases (show _=V.str x from h);obtain ⟨t,rfl⟩:=r;exact ⟨[],(fun _ z=>nomatch z),.of_is (ReprIs.str x t hz) _ _ _⟩
  | .tup l,_,_,h,r,hs,hz=>by
    obtain ⟨as,rd⟩:=jB I sub h r
    obtain ⟨a,vs,rfl,h1,h2⟩:=h
    cases r
    obtain ⟨_,its,rv,ob,e1,e2,n,e3⟩:=(show ObjOk X.prog X.w H s.heap a (.tup vs) from I.hok a _ (sub _ _ h1))
    have hz':(tupleText (PyData.shownAll (toPys l))).length <= sizeLine:=by simpa only [toPy,PyData.shown] using hz
    obtain ⟨bs,hb,hk⟩:=mZ I sub h2 rv (by simpa [toPy,PyData.showable] using hs) fun t m=>Nat.le_trans (tupleText_mem_le m) hz'
    simp only [toPy,PyData.depth,PyData.shown] at rd ⊢
    exact ⟨a :: bs,ReadAtMost.cons rd (Nat.le_succ _) hb,ReprK.tuple e1 e2 e3 (not_mem_of_deeper rd (Nat.lt_succ_self _) hb) (by simpa using hk)⟩
  | .lst l,_,_,h,r,hs,hz=>by
    obtain ⟨as,rd⟩:=jB I sub h r
    obtain ⟨a,vs,rfl,h1,h2⟩:=h
    cases r
    obtain ⟨_,its,n,rv,e1⟩:=(show ObjOk X.prog X.w H s.heap a (.lst vs) from I.hok a _ (sub _ _ h1))
    have hz':(listText (PyData.shownAll (toPys l))).length <= sizeLine:=by simpa only [toPy,PyData.shown] using hz
    obtain ⟨bs,hb,hk⟩:=mZ I sub h2 rv (by simpa [toPy,PyData.showable] using hs) fun t m=>Nat.le_trans (listText_mem_le m) hz'
    simp only [toPy,PyData.depth,PyData.shown] at rd ⊢
    refine ⟨a :: bs,ReadAtMost.cons rd (Nat.le_succ _) hb,?_⟩
    cases its with
    | nil =>
      have e:toPys l=[]:=by
        cases l with
        | nil=>rfl
        | cons x l=>obtain ⟨v,t,e,_⟩:=h2;subst e;cases rv
      rw [e]
      simp only [PyData.shownAll,listText_nil]
      exact ReprK.listEmpty e1 rfl rfl
    | cons x its=>exact ReprK.list e1 rfl rfl (not_mem_of_deeper rd (Nat.lt_succ_self _) hb) (by simpa using hk.length_eq) fun i y q=>hk.item i y (by simpa using q)
  | .dic l,_,_,h,r,hs,hz=>by
    obtain ⟨as,rd⟩:=jB I sub h r
    obtain ⟨a,kvs,rfl,h1,h2⟩:=h
    cases r
    obtain ⟨_,hy,vs,rk,ob,es,ep,e1,e2,e3,_,pr,_⟩:=(show ObjOk X.prog X.w H s.heap a (.dK kvs) from I.hok a _ (sub _ _ h1))
    have hz':(dictText (PyData.shownKv (toPyK l))).length <= sizeLine:=by simpa only [toPy,PyData.shown] using hz
    have fit:Fit (PyData.shownKv (toPyK l)):=fun t m=>Nat.le_trans (dictText_mem_le m) hz'
    have hs':PyData.showableKv (toPyK l)=true:=by simpa [toPy,PyData.showable] using hs
    obtain ⟨bs,hb,hk⟩:=AW I sub h2 rk pr hs' fit
    have hK:=AV (X:=X) (h:=s.heap) (n:=PyData.depthKv (toPyK l)) pr rk h2 hs' fit
    simp only [toPy,PyData.depth,PyData.shown] at rd ⊢
    rw [PyData.shownKv_eq]
    exact ⟨a :: bs,ReadAtMost.cons rd (Nat.le_succ _) hb,ReprK.dict e1 e2.1 e3 hy (not_mem_of_deeper rd (Nat.lt_succ_self _) hb) (ReprEntriesK.of_two _ _ _ (hK.more_le (fun _ z=>by cases z) (Nat.le_refl _)) hk)⟩
theorem mZ (I:Inv X pins σ H s) (sub:Sub F H):∀ {l:List D}{vs:List V}{us:List Value},DenL F l vs->Vals vs us->PyData.showableAll (toPys l)=true->Fit (PyData.shownAll (toPys l))->∃ bs,ReadAtMost s.heap (PyData.depthAll (toPys l)) bs /\ ReprAllK X.prog X.w bs s.heap (PyData.depthAll (toPys l)) us (PyData.shownAll (toPys l))
  | [],_,_,h,r,_,_=>by cases (show _=[] from h);cases r;exact ⟨[],(fun _ z=>nomatch z),.nil⟩
  | d :: l,_,_,h,r,hs,hz=>by
    obtain ⟨v,t,e,h1,h2⟩:=h
    subst e
    simp only [toPys,PyData.showableAll,Bool.and_eq_true] at hs
    simp only [toPys,PyData.shownAll] at hz
    cases r with
    | cons r1 r2 =>
      obtain ⟨as,ha,ka⟩:=DT I sub h1 r1 hs.1 (hz _ (List.mem_cons_self ..))
      obtain ⟨bs,hb,kb⟩:=mZ I sub h2 r2 hs.2 fun t m=>hz t (List.mem_cons_of_mem _ m)
      simp only [toPys,PyData.depthAll,PyData.shownAll]
      have la:=Nat.le_max_left (toPy d).depth (PyData.depthAll (toPys l))
      have lb:=Nat.le_max_right (toPy d).depth (PyData.depthAll (toPys l))
      exact ⟨as ++ bs,(ha.mono la).append (hb.mono lb),.cons ((ka.more fun _ m=>List.mem_append_left _ m).level_le la) (kb.more_le (fun _ m=>List.mem_append_right _ m) lb)⟩
theorem AW (I:Inv X pins σ H s) (sub:Sub F H):∀ {l:List (Key × D)}{kvs:List (Key × V)}{vs:List (Key × Value)}{es:List DictEntry},DenK F l kvs->KV kvs vs->PySem.Pairs (mixKind X.prog X.w) es vs->PyData.showableKv (toPyK l)=true->Fit (PyData.shownKv (toPyK l)) ->
    ∃ bs,ReadAtMost s.heap (PyData.depthKv (toPyK l)) bs /\ ReprAllK X.prog X.w bs s.heap (PyData.depthKv (toPyK l)) (es.map (·.val)) (PyData.shownAll ((toPyK l).map (·.2)))
  | [],_,_,_,h,r,p,_,_=>by cases (show _=[] from h);cases r;cases p;exact ⟨[],(fun _ z=>nomatch z),.nil⟩
  | (k,d) :: l,_,_,_,h,r,p,hs,hz=>by
    obtain ⟨v,t,e,h1,h2⟩:=h
    subst e
    simp only [toPyK,PyData.showableKv,Bool.and_eq_true] at hs
    simp only [toPyK,PyData.shownKv] at hz
    have z1:=hz _ (List.mem_cons_self ..)
    rw [strLen_append,strLen_append] at z1
    cases r with
    | cons r1 r2 =>
      cases p with
      | cons p1 p2 p3 =>
        obtain ⟨as,ha,ka⟩:=DT I sub h1 r1.2 hs.1.2 (by omega)
        obtain ⟨bs,hb,kb⟩:=AW I sub h2 r2 p3 hs.2 fun t m=>hz t (List.mem_cons_of_mem _ m)
        rw [<-p2] at ka
        simp only [toPyK,PyData.depthKv,List.map_cons,PyData.shownAll]
        have la:(toPy d).depth <= max (max (keyP k).depth (toPy d).depth) (PyData.depthKv (toPyK l)):=by omega
        have lb:PyData.depthKv (toPyK l) <= max (max (keyP k).depth (toPy d).depth) (PyData.depthKv (toPyK l)):=by omega
        exact ⟨as ++ bs,(ha.mono la).append (hb.mono lb),.cons ((ka.more fun _ m=>List.mem_append_left _ m).level_le la) (kb.more_le (fun _ m=>List.mem_append_right _ m) lb)⟩
end
end
section
variable {X : Cx} {T : Fr} {Z : Xs} {a b c e : Expr} {es : List Expr} {ma mb mc : DE W} {pos p p2 : Pos}
noncomputable def rRepr (vs:List V) (H:Hp) (Q:VK):Prop:=∃ (F:Hp) (d:D) (v:V),vs=[v] /\ Sub F H /\ Den F d v /\ (toPy d).showable=true /\ (toPy d).depth <= 60 /\ (toPy d).shown.length <= sizeLine /\ Q (.str (toPy d).shown) H
theorem Jp {k:Nat} (hr:Room k X.A):CallR X (.builtin "repr") rRepr:=by
  intro pins s σ H xs us Q I rv h
  obtain ⟨F,d,v,rfl,sub,hd,h1,h2,h3,q⟩:=h
  obtain ⟨u,rfl,ru⟩:=Vals.one rv
  have fin:∀ (t:Tok) (tk:Nat),EP X pins σ Q (.str (toPy d).shown t) { s with toks:=tk }:=fun t tk=>⟨.str _,H,I.tok tk,⟨t,rfl⟩,q⟩
  have end':∀ (t':Str),t'=(toPy d).shown->∀ h' u tk,(∀ b o,s.heap.get? b=some o->h'.get? b=some o)->∃ x t,Value.str t' u=.str x t /\ EP X pins σ Q (.str t' u) { s with heap:=h',toks:=tk }:=fun t' et h' t tk hk=>by
    subst et
    exact ⟨_,_,rfl,.str _,H,I.kept (t':=tk) hk,⟨t,rfl⟩,q⟩
  have hu:=hr.units
  cases d with
  | non=>cases (show v=.non from hd);cases ru;exact P.repr_of_none (fin _ _)
  | bl b=>cases (show v=.bl b from hd);cases ru;exact P.repr_of_bool (fin _ _)
  | int i=>cases (show v=.int i from hd);obtain ⟨t,rfl⟩:=ru;exact P.repr_of_int (of_decide_eq_true h1) (fin _ _)
  | str x=>cases (show v=.str x from hd);obtain ⟨t,rfl⟩:=ru;exact P.repr_of_str (hsz:=h3) (fin _ _)
  | tup l =>
    obtain ⟨as,rd⟩:=jB I sub hd ru
    obtain ⟨a,vs,rfl,k1,k2⟩:=hd
    cases ru
    obtain ⟨_,its,rv,ob,e1,e2,n,e3⟩:=(show ObjOk X.prog X.w H s.heap a (.tup vs) from I.hok a _ (sub _ _ k1))
    have hz':(tupleText (PyData.shownAll (toPys l))).length <= sizeLine:=by simpa only [toPy,PyData.shown] using h3
    obtain ⟨bs,hb,hk⟩:=mZ I sub k2 rv (by simpa [toPy,PyData.showable] using h1) fun t m=>Nat.le_trans (tupleText_mem_le m) hz'
    simp only [toPy,PyData.depth] at rd h2
    exact call_repr_slot (by omega) ⟨ob,e1,e2⟩ PySem.F.slot_tuple_repr (call_tuple_reprK e1 e2 e3 (not_mem_of_deeper rd (Nat.lt_succ_self _) hb) (by simpa using hk) hr.gd (fun b _=>Clear.nil b) (by show X.A.units + 1 + _ < cLine;omega) (fun _ _ z=>z) (end' _ (by simp only [toPy,PyData.shown])) hz')
  | lst l =>
    obtain ⟨as,rd⟩:=jB I sub hd ru
    obtain ⟨a,vs,rfl,k1,k2⟩:=hd
    cases ru
    obtain ⟨_,its,n,rv,e1⟩:=(show ObjOk X.prog X.w H s.heap a (.lst vs) from I.hok a _ (sub _ _ k1))
    have hz':(listText (PyData.shownAll (toPys l))).length <= sizeLine:=by simpa only [toPy,PyData.shown] using h3
    obtain ⟨bs,hb,hk⟩:=mZ I sub k2 rv (by simpa [toPy,PyData.showable] using h1) fun t m=>Nat.le_trans (listText_mem_le m) hz'
    simp only [toPy,PyData.depth] at rd h2
    refine call_repr_slot (by omega) ⟨_,e1,rfl⟩ PySem.F.slot_list_repr.toG ?_
    cases its with
    | nil =>
      have e:toPys l=[]:=by
        cases l with
        | nil=>rfl
        | cons x l=>obtain ⟨v,t,e,_⟩:=k2;subst e;cases rv
      exact call_list_repr_empty ⟨_,e1,rfl⟩ e1 rfl (end' "[]" (by simp only [toPy,PyData.shown,e,PyData.shownAll,listText_nil]) s.heap _ _ fun _ _ z=>z)
    | cons x its=>exact call_list_reprK e1 rfl rfl (not_mem_of_deeper rd (Nat.lt_succ_self _) hb) (by simpa using hk.length_eq) (fun i y q=>hk.item i y (by simpa using q)) hr.gd (fun b _=>Clear.nil b) (by show X.A.units + 1 + _ < cLine;omega) (fun _ _ z=>z) (end' _ (by simp only [toPy,PyData.shown])) hz'
  | dic l =>
    obtain ⟨as,rd⟩:=jB I sub hd ru
    obtain ⟨a,kvs,rfl,k1,k2⟩:=hd
    cases ru
    obtain ⟨_,hy,vs,rk,ob,es,ep,e1,e2,e3,_,pr,_⟩:=(show ObjOk X.prog X.w H s.heap a (.dK kvs) from I.hok a _ (sub _ _ k1))
    have hz':(dictText (PyData.shownKv (toPyK l))).length <= sizeLine:=by simpa only [toPy,PyData.shown] using h3
    have fit:Fit (PyData.shownKv (toPyK l)):=fun t m=>Nat.le_trans (dictText_mem_le m) hz'
    have hs':PyData.showableKv (toPyK l)=true:=by simpa [toPy,PyData.showable] using h1
    obtain ⟨bs,hb,hk⟩:=AW I sub k2 rk pr hs' fit
    have hK:=AV (X:=X) (h:=s.heap) (n:=PyData.depthKv (toPyK l)) pr rk k2 hs' fit
    simp only [toPy,PyData.depth] at rd h2
    rw [PyData.shownKv_eq] at hz'
    exact call_repr_slot (by omega) ⟨ob,e1,e2.1⟩ PySem.F.slot_dict_repr (call_dict_reprK e1 e2.1 e3 hy (not_mem_of_deeper rd (Nat.lt_succ_self _) hb) (ReprEntriesK.of_two _ _ _ (hK.more_le (fun _ z=>by cases z) (Nat.le_refl _)) hk) hr.gd (fun b _=>Clear.nil b) (by show X.A.units + 1 + _ < cLine;omega) (fun _ _ z=>z) (end' _ (by simp only [toPy,PyData.shown,PyData.shownKv_eq])) hz')
noncomputable def canShow (d:D):Bool:=(toPy d).showable && decide ((toPy d).depth <= 60) && decide ((toPy d).shown.length <= sizeLine)
noncomputable def dRepr (m:DE W):DE W:=fun env bx=>fO (m env bx) fun w bx1=>match w with
  | .d d=>if canShow d=true then .val (.d (.str (toPy d).shown)) bx1 else .bad
  | _=>.bad
theorem mK {k:Nat} (hr:Room k X.A) (hg:Gl X "repr") (hm:X.mg "repr"=none) (ha:PD X T Z a ma) (he:starEach [a] X.env=(false,eval a X.env) :: starEach [] X.env:=by rfl) :
    PD X T Z (.Call (.Name "repr" p) [a] [] pos) (dRepr ma):=by
  refine PE.imp (gq (Jp hr) hg hm (by decide +kernel) (fE ha gu he) (by decide) (by decide) he (by rfl)) fun σ H Q ⟨F,r,env,bx,R,h⟩=>?_
  refine ⟨F,r,env,bx,R,End.bind h fun w bx1 F1 r1 v H1 g1 R1 d1 h1=>?_⟩
  cases w with
  | b _=>exact h1.elim
  | s _=>exact h1.elim
  | x _=>exact h1.elim
  | d d =>
    simp only at h1
    split at h1
    . rename_i hc
      unfold canShow at hc
      rw [Bool.and_eq_true,Bool.and_eq_true] at hc
      exact ⟨F1,d,v,rfl,R1.fh,d1,hc.1.1,of_decide_eq_true hc.1.2,of_decide_eq_true hc.2,h1 F1 r1 _ H1 (.refl F1 r1) R1 rfl⟩
    . exact h1.elim
end
end L2.DL
set_option Elab.async false
set_option linter.all false
set_option maxRecDepth 100000
set_option maxHeartbeats 4000000
namespace HT
open PySem PySem.Spec PyProof.Rows
noncomputable def lexLe:List Int->List Int->Bool
  | [],_=>true
  | _ :: _,[]=>false
  | x :: xs,y :: ys=>if x=y then lexLe xs ys else decide (x <= y)
theorem Lq (A:Around) (s:Shared) (a:Int) (t:Tok) (c:Int) (u:Tok) (prog:Program) (w:World) (E:Value->Shared->Prop) (Q:Value->Shared->Prop) (h:Q (.bool (decide (a <= c))) s) :
    wpAny (model prog w) A (richCompare .LtE (.int a t) (.int c u)) Q E s:=(PyProof.Rows.le_int h:wpAny (model prog w) A (compareOp .LtE (.int a t) (.int c u)) Q E s)
section
open PySem.SeqAt
open PySem.AutoSeq1 (wpAny_loadPart')
open PySem.MeetsSeq PySem.MeetsSeq2 PySem.MeetsSeq3
theorem Cg (l b:Addr) (items items2:Array Value) (n n2:Nat) (dd dd2:Option Addr) (sl sl2:Array (Option Value)) (ns ms:List Int) (hi:IntsAre items.toList ns) (hj:IntsAre items2.toList ms) :
    Meets (Builtin.«tuple.__le__» ⟨[.ref l,.ref b],[]⟩)
      (fun _ R s=>s.heap.get? l=some { cls:=.type "tuple",dict:=dd,data:=.seq items n,slots:=sl } /\ s.heap.get? b=some { cls:=.type "tuple",dict:=dd2,data:=.seq items2 n2,slots:=sl2 } /\
        R (.ok (.ret (.bool (lexLe ns ms)))) s) :=
  .of_wp fun prog w A R s h=>by
    obtain ⟨hp,g,d,tk,os⟩:=s;obtain ⟨hl,hb,h⟩:=h
    have f2:=AutoSeq1.sub_tuple_tuple
    have z1:items.size=ns.length:=by rw [<-hi.length];simp
    have z2:items2.size=ms.length:=by rw [<-hj.length];simp
    wp_walk using wpAny_loadPart' hl,wpAny_loadPart' hb,wpAny_forIn_list _ (fun rest b s'=>b.1=none /\ s'=⟨hp,g,d,tk,os⟩ /\ ∃ (vs ws:List Value) (ns' ms':List Int),rest=vs.zip ws /\
      IntsAre vs ns' /\ IntsAre ws ms' /\ ns'.length + items2.size=ms'.length + items.size /\ R (.ok (.ret (.bool (lexLe ns' ms')))) ⟨hp,g,d,tk,os⟩) _
    case turn =>
      rintro ⟨y,x⟩ rest b s' ⟨hb',rfl,vs,ws,ns',ms',hz,hvi,hwi,hlen,hR⟩
      cases hvi with
      | nil=>rw [List.zip_nil_left] at hz;cases hz
      | cons a t hvi' =>
        cases hwi with
        | nil=>rw [List.zip_nil_right] at hz;cases hz
        | cons c u hwi' =>
          rw [List.zip_cons_cons] at hz
          injection hz with hyx hrest
          injection hyx with hy hx
          subst hy hx
          rw [show lexLe (a :: _) (c :: _)=if a=c then lexLe _ _ else decide (a <= c) from rfl] at hR
          simp only [List.length_cons] at hlen
          obtain ⟨e,he,hiff⟩:=DF A.in1 ⟨hp,g,d,tk,os⟩ a t c u
          refine wpAny_bind (he prog w _ _ ?_)
          cases e with
          | true =>
            rw [if_pos (hiff.mp rfl)] at hR
            wp_walk
            exact ⟨rfl,rfl,_,_,_,_,hrest,hvi',hwi',by omega,hR⟩
          | false =>
            rw [if_neg (fun q=>absurd (hiff.mpr q) Bool.false_ne_true)] at hR
            have hri:=Lq A.in1 ⟨hp,g,d,tk,os⟩ a t c u prog w
            wp_walk using hri
            exact ⟨_,rfl,by simpa using hR⟩
    case fin =>
      rintro ⟨b1,b2⟩ s' ⟨hb',rfl,vs,ws,ns',ms',hz,hvi,hwi,hlen,hR⟩
      simp only at hb'
      subst hb'
      have hv:lexLe ns' ms'=decide (items.size <= items2.size):=by
        cases hvi with
        | nil =>
          rw [show lexLe [] ms'=true by cases ms' <;> rfl]
          simp only [List.length_nil] at hlen
          exact (decide_eq_true (by omega)).symm
        | cons a t hv =>
          cases hwi with
          | nil =>
            simp only [List.length_nil,List.length_cons] at hlen
            exact (decide_eq_false (by omega)).symm
          | cons c u hw =>
            rw [List.zip_cons_cons] at hz
            cases hz
      rw [hv] at hR
      wp_walk
      exact ⟨_,rfl,by simpa [Builtin.Tuple.tupleCompareSizes] using hR⟩
    case h =>
      exact ⟨rfl,rfl,items.toList,items2.toList,ns,ms,rfl,hi,hj,by omega,h⟩
end
section
variable {prog : Program} {w : World} {A : Around} {E : Value -> Shared -> Prop} {s : Shared}
theorem FQ {l b:Addr}{items items2:Array Value}{ns ms:List Int}{Q:Value->Shared->Prop} (hl:IsTup s.heap l items) (hb:IsTup s.heap b items2) (hi:IntsAre items.toList ns) (hj:IntsAre items2.toList ms)
    (hu:A.units < cLine) (h:Q (.bool (lexLe ns ms)) s):wpAny (model prog w) A (compareOp .LtE (.ref l) (.ref b)) Q E s:=by
  obtain ⟨⟨cls,dd,data,sl⟩,ho,hc,n,hd⟩:=id hl
  obtain ⟨⟨cls2,dd2,data2,sl2⟩,ho2,hc2,n2,hd2⟩:=id hb
  simp only at hc hd hc2 hd2
  subst hc hd hc2 hd2
  exact richCompare_meets_room (op:=.LtE) ⟨_,ho,rfl⟩ ⟨_,ho2,rfl⟩ PySem.F.slot_tuple_le PySem.F.entry_tuple_le (PySem.F.args_tuple_le_2 _ _) (Cg l b items items2 n n2 dd dd2 sl sl2 ns ms hi hj)
    ⟨ho,ho2,show Value.bool (lexLe ns ms) ≠ Value.notImplemented /\ Q (.bool (lexLe ns ms)) s from ⟨(fun x=>nomatch x),h⟩⟩ hu
theorem AX:fillsNumberSlot (.type "tuple") "mul"=pure false :=
  PySem.fillsNumberSlot_seq (id:="tuple.__mul__") (r:=some (.builtin "tuple.__rmul__")) F.slot_tuple_mul.lookup (by decide +kernel) F.slot_tuple_rmul.lookup (by decide +kernel)
theorem CZ:seqRepeat? (.type "tuple")=pure (some (.builtin "tuple.__mul__")):=by
  unfold seqRepeat?
  rw [PySem.seqSlot_of (T:="tuple") (name:="__mul__") (id:="tuple.__mul__") F.slot_tuple_mul.lookup (by decide +kernel),PySem.seqSlot_of (T:="tuple") (name:="__rmul__") (id:="tuple.__rmul__") F.slot_tuple_rmul.lookup (by decide +kernel)]
  rfl
open PySem.AutoSeq1 (wpAny_loadPart')
theorem BK (a:Int) (t:Tok) (l:Addr) (items:Array Value) (n:Nat) (dd:Option Addr) (sl:Array (Option Value)) :
    Meets (Builtin.«int.__rmul__» ⟨[.int a t,.ref l],[]⟩) (fun _ R s=>s.heap.get? l=some { cls:=.type "tuple",dict:=dd,data:=.seq items n,slots:=sl } /\ R (.ok (.ret Value.notImplemented)) s) :=
  .of_wp fun prog w A R s h=>by obtain ⟨hp,g,d,tk,os⟩:=s;obtain ⟨hl,h⟩:=h;wp_walk;exact ⟨_,rfl,h⟩
theorem FR (l:Addr) (items:Array Value) (n:Nat) (x:Int) (u:Tok) (dd:Option Addr) (sl:Array (Option Value)) (h2:2 <= x) (h63:x < 2 ^ 63) (hne:items.isEmpty=false) (hsz:items.size * x.toNat <= sizeLine) :
    Meets (Builtin.«tuple.__mul__» ⟨[.ref l,.int x u],[]⟩) (fun _ R s=>s.heap.get? l=some { cls:=.type "tuple",dict:=dd,data:=.seq items n,slots:=sl } /\
      R (.ok (.ret (Value.ref s.heap.objs.size))) { s with heap:=s.heap.push { cls:=Value.type "tuple",data:=Data.seq (List.foldl (fun x1 x2=>x1 ++ x2) #[] (List.replicate x.toNat items)) },toks:=s.toks }) :=
  .of_wp fun prog w A R s h=>by
    obtain ⟨hp,g,d,tk,os⟩:=s;obtain ⟨hl,h⟩:=h
    have f1:=AutoSeq1.idx_int
    have c1:(decide (x < -2 ^ 63) || decide (x >= 2 ^ 63))=false:=by rw [Bool.or_eq_false_iff];exact ⟨decide_eq_false (by omega),decide_eq_false (by omega)⟩
    have c2:(items.isEmpty || x == 1)=false:=by rw [hne,Bool.false_or];exact beq_eq_false_iff_ne.mpr (by omega)
    have c3:(decide (x <= 0) || items.isEmpty)=false:=by rw [hne,Bool.or_false];exact decide_eq_false (by omega)
    have hx:(items.size:Int) * x=((items.size * x.toNat:Nat):Int):=by rw [Int.natCast_mul,Int.toNat_of_nonneg (by omega)]
    have c4:¬ ((items.size:Int) * x > (2 ^ 63 - 1) / 8):=by
      rw [hx]
      have:(sizeLine:Nat)=16777216:=sizeLine_eq
      omega
    have c5:Builtin.Tuple.tupleTooMany ((items.size:Int) * x)=false:=by
      unfold Builtin.Tuple.tupleTooMany
      rw [hx]
      exact decide_eq_false (by omega)
    have fl:(List.foldl (fun x1 x2=>x1 ++ x2) #[] (List.replicate x.toNat items)).size <= sizeLine:=by
      have q:=L2.Ac items.toList x.toNat []
      rw [show items.toList.toArray=items by simp,show ([]:List Value).toArray=#[] from rfl] at q
      rw [q,List.size_toArray,List.nil_append,L2.CS]
      simp only [Array.length_toList]
      rw [Nat.mul_comm];exact hsz
    wp_walk using wpAny_loadPart' hl
    refine wpAny_ite_false (decide_eq_false (by rw [c1];decide)) ?_
    wp_walk using wpAny_loadPart' hl
    refine wpAny_ite_false (decide_eq_false (by rw [c2];decide)) ?_
    refine wpAny_ite_false (decide_eq_false (by rw [c3];decide)) ?_
    refine wpAny_ite_false (decide_eq_false c4) ?_
    refine wpAny_ite_false (decide_eq_false (by rw [c5];decide)) ?_
    exact wpAny_bind (m:=Builtin.Tuple.tupleExact _) (wpAny_newObj_type (wpAny_pure ⟨_,rfl,h⟩) fl)
end
end HT
set_option Elab.async false
set_option linter.all false
set_option maxRecDepth 100000
set_option maxHeartbeats 4000000
namespace L2.DL
open PySem PySem.Spec PyProof.Rows
section
variable {X : Cx} {T : Fr} {Z : Xs} {a b c e : Expr} {es : List Expr} {ma mb mc : DE W} {pos p p2 : Pos}
noncomputable def rMulT (K:PySem.W.Frag):R2:=fun x y H Q=>∃ (l:Addr) (k:Int) (xs:List V),x=.ref l /\ y=.int k /\ SqT K H l xs /\ xs ≠ [] /\ 2 <= k /\ k < 2 ^ 63 /\ xs.length * k.toNat <= sizeLine /\
  ∀ p,H p=none->Q (.ref p) (upd H p (.tup (List.replicate k.toNat xs).flatten))
theorem MI:OpR X (binaryOp .Mult) (rMulT X.K):=by
  intro pins s σ H x y v u Q I rx ry h
  obtain ⟨l,k,xs,rfl,rfl,hH,hne,h1,h2,hz,q⟩:=h
  cases rx
  obtain ⟨t,rfl⟩:=ry
  obtain ⟨its,r,p1,z⟩:=I.tuple hH
  have hl:=r.length
  have hlen:its.toArray.size * k.toNat <= sizeLine:=by rw [List.size_toArray,<-hl];exact hz
  have hem:its.toArray.isEmpty=false:=by
    cases its with
    | nil=>exact absurd (r.nil_iff.mp rfl) hne
    | cons _ _=>simp
  obtain ⟨⟨cls,dd,data,sl⟩,ho,hc,n,hd⟩:=id p1
  simp only at hc hd
  subst hc hd
  refine wpAny_binaryOp_repeat_ref (T:="tuple") (U:="int") (by decide) ⟨_,ho,rfl⟩ (fun s'=>typeIs_int s' k t) HT.AX F.fills_int_mul F.slot_int_rmul HT.CZ F.slot_int_index.lookup
    (call_meets F.slot_int_rmul (typeIs_int s k t) F.entry_int_rmul (F.args_int_rmul_2 _ _) (HT.BK k t l its.toArray n dd sl)
      ⟨ho,rfl,⟨_,ho,rfl⟩,call_meets F.slot_tuple_mul ⟨_,ho,rfl⟩ F.entry_tuple_mul (F.args_tuple_mul_2 _ _) (HT.FR l its.toArray n k t dd sl h1 h2 hem hlen) ⟨ho,?_⟩⟩)
  have f0:=Ac its k.toNat []
  rw [List.nil_append] at f0
  rw [show (List.foldl (fun x1 x2=>x1 ++ x2) #[] (List.replicate k.toNat its.toArray))=(List.replicate k.toNat its).flatten.toArray from f0]
  refine ⟨.ref s.heap.objs.size,_,I.laid (t':=s.toks) (o:=.tup (List.replicate k.toNat xs).flatten) (fun b ob q=>Heap.get?_push_of_some _ q) (Nat.le_refl _) ?_,rfl,q _ (I.hok.fresh (Nat.le_refl _))⟩
  exact ⟨by rw [CS,Nat.mul_comm];exact hz,_,r.rep k.toNat,IsTup.new _ _⟩
noncomputable def rMul (K:PySem.W.Frag):R2:=fun x y H Q=>rI CMul (fun i j=>.int (i * j)) x y H Q \/ rMulT K x y H Q \/ rRep x y H Q
theorem lO:OpR X (binaryOp .Mult) (rMul X.K):=ND.or (MI.or NO)
noncomputable def mulD:D->D->Option Res
  | .int i,.int j=>if CMul i j then some (.old (.int (i * j))) else none
  | .tup l,.int k=>if l.isEmpty=false /\ 2 <= k /\ k < 2 ^ 63 /\ l.length * k.toNat <= sizeLine then some (.tup (List.replicate k.toNat l).flatten) else none
  | .lst l,.int k=>if -(2 ^ 63) <= k /\ k < 2 ^ 63 /\ l.length * k.toNat <= sizeLine then some (.lst (List.replicate k.toNat l).flatten) else none
  | _,_=>none
theorem DenL.rep {F:Hp}{l:List D}{vs:List V} (h:DenL F l vs):∀ k:Nat,DenL F (List.replicate k l).flatten (List.replicate k vs).flatten
  | 0=>rfl
  | k + 1=>by
    rw [List.replicate_succ,List.replicate_succ,List.flatten_cons,List.flatten_cons]
    exact h.append (h.rep k)
theorem okMul {K:PySem.W.Frag}:Ok2 (rMul K) mulD:=by
  intro F H x y v w Q s sub rx ry e k
  unfold mulD at e
  split at e
  . rename_i i j
    split at e
    . rename_i hc
      cases e
      exact .inl ⟨i,j,rx,ry,hc,k _ _ ⟨rfl,rfl⟩⟩
    . cases e
  . rename_i l j
    split at e
    . rename_i hc
      cases e
      obtain ⟨a,vs,rfl,h1,h2⟩:=rx
      refine .inr (.inl ⟨a,j,vs,rfl,ry,.of (sub _ _ h1),fun z=>?_,hc.2.1,hc.2.2.1,by rw [<-h2.length];exact hc.2.2.2,fun p hp=>k _ _ (.inr ⟨p,_,rfl,hp,rfl,h2.rep _⟩)⟩)
      have:=h2.eq_nil.mp z
      rw [this] at hc
      exact absurd hc.1 (by simp)
    . cases e
  . rename_i l j
    split at e
    . rename_i hc
      cases e
      obtain ⟨a,vs,rfl,h1,h2⟩:=rx
      exact .inr (.inr ⟨a,j,vs,rfl,ry,h1,hc.1,hc.2.1,by rw [<-h2.length];exact hc.2.2,fun p hp=>k _ _ ⟨p,_,rfl,hp,rfl,h2.rep _⟩⟩)
    . cases e
  . cases e
noncomputable def rLeT (K:PySem.W.Frag):R2:=fun x y H Q=>∃ (a b:Addr) (ns ms:List Int),x=.ref a /\ y=.ref b /\ SqT K H a (ns.map V.int) /\ SqT K H b (ms.map V.int) /\ Q (.bl (HT.lexLe ns ms)) H
theorem N6 (hu:X.A.units < cLine):OpR X (compareOp .LtE) (rLeT X.K):=by
  intro pins s σ H x y v u Q I rx ry h
  obtain ⟨a,b,ns,ms,rfl,rfl,ha,hb,q⟩:=h
  cases rx;cases ry
  obtain ⟨its,r1,p1,_⟩:=I.tuple ha
  obtain ⟨its2,r2,p2,_⟩:=I.tuple hb
  exact HT.FQ p1 p2 (jw r1) (jw r2) hu ⟨.bl (HT.lexLe ns ms),H,I,rfl,q⟩
theorem mv (hu:X.A.units < cLine):OpR X (compareOp .LtE) (fun x y H Q=>rI0 (fun i j=>.bl (decide (i <= j))) x y H Q \/ rLeT X.K x y H Q):=OH.or (N6 hu)
noncomputable def leD:D->D->Option Res
  | .int i,.int j=>some (.old (.bl (decide (i <= j))))
  | .tup a,.tup b=>(intsOf a).bind fun ns=>(intsOf b).map fun ms=>.old (.bl (HT.lexLe ns ms))
  | _,_=>none
theorem okLe {K:PySem.W.Frag}:Ok2 (fun x y H Q=>rI0 (fun i j=>.bl (decide (i <= j))) x y H Q \/ rLeT K x y H Q) leD:=by
  intro F H x y v w Q s sub rx ry e k
  unfold leD at e
  split at e
  . rename_i i j
    cases e
    exact .inl ⟨i,j,rx,ry,k _ _ ⟨rfl,rfl⟩⟩
  . rename_i l l'
    cases e1:intsOf l with
    | none=>rw [e1] at e;cases e
    | some ns =>
      cases e2:intsOf l' with
      | none=>rw [e1,e2] at e;cases e
      | some ms =>
        rw [e1,e2] at e
        cases e
        obtain ⟨a,vs,rfl,h1,h2⟩:=rx
        obtain ⟨b,ws,rfl,h3,h4⟩:=ry
        have q1:=h2.ints e1
        have q2:=h4.ints e2
        subst q1 q2
        exact .inr ⟨a,b,ns,ms,rfl,rfl,.of (sub _ _ h1),.of (sub _ _ h3),k _ _ ⟨rfl,rfl⟩⟩
  . cases e
theorem Cz {o:Expr}{apos:Pos} (ho:PD X T Z o ma) (ha:PD X T Z e mb)
    (hbase:attributeBase o "append" X.env (eval o X.env)=eval o X.env:=by rfl)
    (hfew:((backTo pos (starEach [e] X.env)).all (fun x=>!x.1) && (backToKw pos (keywordEach [] X.env)).all (fun x=>x.1.isSome)
      && decide ([e].length + ([]:List Keyword).length + (if ([]:List Keyword).isEmpty then 0 else 1) < 30))=true:=by rfl)
    (hline:(apos.endLine == pos.line)=true:=by rfl) (hs:starEach [e] X.env=(false,eval e X.env) :: starEach [] X.env:=by rfl) :
    PD X T Z (.Call (.Attribute o "append" apos) [e] [] pos) (dApp ma mb) :=
  PE.imp (Gx PySem.F.plainAttrs_list PySem.F.slot_list_append PySem.F.type_list_append AU ho (fE ha gu hs) hbase hfew hline hs (by rfl)) fun σ H Q h=>OO h
noncomputable def gdSub (mo mi:DE W):DG:=fun w env bx=>match mo env bx with
  | .val (.b n) bx1=>(match mi env bx1 with
    | .val (.d (.int k)) bx2=>(match w,bx2[n]? with
      | .d d,some (.lst l)=>(ixN l.length k).map fun j=>(env,bx2.set n (.lst (l.set j d)))
      | _,_=>none)
    | _=>none)
  | _=>none
theorem MJ {o i:Expr}{mo mi:DE W} (ho:PD X T Z o mo) (hi:PD X T Z i mi)
    (ha:∀ v,assign (.Subscript o i pos) X.env v=(do
      let ov <-holding [v] (eval o X.env)
      let iv <-holding [v,ov] (eval i X.env)
      standAt pos
      holding [v,ov,iv] (setItem ov iv v)
      release [v,ov,iv] []):=by intro _;rfl):PGD X T (.Subscript o i pos) (gdSub mo mi):=by
  refine PG.imp (Ny ho hi J5 ha) fun v σ H Q ⟨F,r,env,bx,w,R,dw,h⟩=>?_
  unfold gdSub at h
  refine ⟨F,r,env,bx,R,?_⟩
  cases eo:mo env bx with
  | bad=>simp only [eo] at h;exact h.elim
  | exc c bx1=>simp only [eo] at h;exact h.elim
  | val ow bx1 =>
    simp only [eo] at h
    intro F1 r1 ov H1 g1 R1 d1
    cases ow with
    | d _=>exact h.elim
    | s _=>exact h.elim
    | x _=>exact h.elim
    | b n =>
      simp only at h
      refine ⟨F1,r1,env,bx1,R1,?_⟩
      cases ei:mi env bx1 with
      | bad=>simp only [ei] at h;exact h.elim
      | exc c bx2=>simp only [ei] at h;exact h.elim
      | val iw bx2 =>
        simp only [ei] at h
        intro F2 r2 iv H2 g2 R2 d2
        cases iw with
        | b _=>exact h.elim
        | s _=>exact h.elim
        | x _=>exact h.elim
        | d id =>
          cases id with
          | int k =>
            simp only at h
            obtain ⟨a,rfl,ha⟩:=g2.den d1
            obtain ⟨c2,hc2,kc2⟩:=R2.bat ha
            rw [hc2] at h
            cases w with
            | b _=>exact h.elim
            | s _=>exact h.elim
            | x _=>exact h.elim
            | d dd =>
              cases c2 with
              | dic _=>exact h.elim
              | dead=>exact h.elim
              | lst l =>
                simp only at h
                cases ej:ixN l.length k with
                | none=>rw [ej] at h;exact h.elim
                | some j =>
                  rw [ej] at h
                  obtain ⟨hF,vs,k1,k2⟩:=kc2
                  refine ⟨a,vs,k,j,rfl,d2,k1,by rw [<-k2.length];exact ej,?_⟩
                  have dw2:Den F2 dd v:=Den.mono (g1.trans g2).s dd dw
                  exact h F2 r2 σ _ (g1.trans g2) (R2.write ha hF ⟨hF,_,fX,DenL.set dw2 j k2⟩)
          | _=>exact h.elim
noncomputable def dFrz (i:Nat):DE W:=fun env bx=>match env[i]? with
  | some (some (.b n))=>(match bx[n]? with
    | some (.lst l)=>.val (.d (.lst l)) (bx.set n .dead)
    | some (.dic l)=>.val (.d (.dic l)) (bx.set n .dead)
    | _=>.bad)
  | _=>.bad
noncomputable def dLenS (m:DE W):DE W:=fun env bx=>fO (m env bx) fun w bx1=>match w with | .s l=>.val (.d (.int l.length)) bx1 | _=>.bad
theorem GG (hg:Gl X "len") (hm:X.mg "len"=none) (ha:PD X T Z a ma) (he:starEach [a] X.env=(false,eval a X.env) :: starEach [] X.env:=by rfl):PD X T Z (.Call (.Name "len" p) [a] [] pos) (dLenS ma):=by
  refine PE.imp (gq gE hg hm PySem.boot_len (fE ha gu he) (by decide) (by decide) he (by rfl)) fun σ H Q ⟨F,r,env,bx,R,h⟩=>?_
  refine ⟨F,r,env,bx,R,End.bind h fun w bx1 F1 r1 v H1 g1 R1 d1 h1=>?_⟩
  cases w with
  | b _=>exact h1.elim
  | d _=>exact h1.elim
  | x _=>exact h1.elim
  | s l =>
    obtain ⟨q,o,rfl,k⟩:=d1
    refine ⟨q,_,rfl,.inl (.inl (.inr ⟨o,R1.fh _ _ k⟩)),?_⟩
    rw [List.length_map]
    exact h1 F1 r1 _ H1 (.refl F1 r1) R1 rfl
noncomputable def dIxS (m k:DE W):DE W:=fun env bx=>fO (m env bx) fun w bx1=>fO (k env bx1) fun u bx2=>match w,u with
  | .s l,.d (.int i)=>(match atI l i with | some n=>.val (.d (.int n)) bx2 | none=>.bad)
  | _,_=>.bad
theorem N7 (ha:PD X T Z a ma) (hb:PD X T Z b mb) (hs:PlainIx b):PD X T Z (.Subscript a b pos) (dIxS ma mb):=by
  refine PE.imp (J4 CP ha hb hs) fun σ H Q ⟨F,r,env,bx,R,h⟩=>?_
  refine ⟨F,r,env,bx,R,End.bind h fun w bx1 F1 r1 v H1 g1 R1 d1 h1=>?_⟩
  refine ⟨F1,r1,env,bx1,R1,End.bind h1 fun u bx2 F2 r2 y H2 g2 R2 d2 h2=>?_⟩
  cases w with
  | b _=>exact h2.elim
  | d _=>exact h2.elim
  | x _=>exact h2.elim
  | s l =>
    cases u with
    | b _=>exact h2.elim
    | s _=>exact h2.elim
    | x _=>exact h2.elim
    | d d =>
      cases d with
      | int i =>
        obtain ⟨q,o,rfl,k⟩:=d1
        simp only at h2
        cases e:atI l i with
        | none=>rw [e] at h2;exact h2.elim
        | some n =>
          rw [e] at h2
          refine ⟨q,l.map V.int,i,.int n,rfl,d2,.inl (.inr ⟨o,R2.fh _ _ (g2.s _ _ k)⟩),?_,h2 F2 r2 _ H2 (.refl F2 r2) R2 rfl⟩
          unfold atI at e ⊢
          rw [List.length_map]
          cases ej:ixN l.length i with
          | none=>rw [ej] at e;cases e
          | some j=>rw [ej] at e;simp only [Option.bind_some] at e ⊢;rw [List.getElem?_map,e];rfl
      | _=>exact h2.elim
noncomputable def dDic (bo:Bool) (l:List (Key × D)):DE W:=fun _ bx=>resO bo (some (.dic l)) bx
theorem MK (bo:Bool):PD X T Z (.Dict [] [] pos) (dDic bo []):=by
  refine PE.imp (Ln) fun σ H Q ⟨F,r,env,bx,R,h⟩=>?_
  exact fun p hp=>lc R h ⟨p,[],rfl,hp,rfl,rfl⟩
theorem ML (bo:Bool) {k v:Int}{j1 j2:Nat}{q1 q2:Pos}:PD X T Z (.Dict [some (.Constant (.int k) j1 q1)] [.Constant (.int v) j2 q2] pos) (dDic bo [(.inl k,.int v)]):=by
  refine PE.imp (MH (Lo By By MG) rfl rfl (by simp) (by simp)) fun σ H Q ⟨F,r,env,bx,R,h⟩=>?_
  intro p hp
  refine ⟨fX,[(.inl k,.int v)],rfl,by simp,?_⟩
  rw [Md]
  exact lc R h ⟨p,[(.inl k,.int v)],rfl,hp,rfl,⟨_,_,rfl,rfl,rfl⟩⟩
end
end L2.DL
set_option Elab.async false
set_option linter.all false
set_option maxRecDepth 100000
set_option maxHeartbeats 4000000
namespace HT
open PySem PySem.Spec PyProof.Rows
section
variable {prog : Program} {w : World} {A : Around} {E : Value -> Shared -> Prop} {s : Shared}
theorem FS {it t:Addr}{i:Nat}{items:Array Value}{x:Value}{Q:Value->Shared->Prop} (hit:s.heap.IsTupleIter it t i) (ht:s.heap.IsTuple t items) (hx:items[i]?=some x)
    (hQ:∀ h',h'.IsTupleIter it t (i + 1)->Heap.SameBut it s.heap h'->Q x { s with heap:=h' }):wpAny (model prog w) A (Builtin.SmallTypes.nextOf (.ref it)) Q E s:=by
  obtain ⟨ob,hob,hcl,hda⟩:=id hit
  obtain ⟨ot,hot,_,nt,hdt⟩:=ht
  unfold Builtin.SmallTypes.nextOf
  refine wpAny_bind (wpAny_callSpecial?_slot (name:=Str.ofString "__next__") hit.typeIs F.slot_tuple_iterator_next (wpAny_call_entry F.slot_tuple_iterator_next hit.typeIs F.entry_tuple_iterator_next (show wpAny _ _ (field (.ref it) 0 >>= _) _ _ s from wpAny_bind (wpAny_field hob hda (x:=.ref t) rfl ?_)) (F.args_tuple_iterator_next_1 _)))
  change wpAny _ _ (if (Value.ref t == Value.none)=true then _ else _) _ _ s;rw [if_neg (show ¬ ((Value.ref t == Value.none)=true) from Bool.false_ne_true)]
  change wpAny _ _ (field (.ref it) 1 >>= _) _ _ s
  refine wpAny_bind (wpAny_field hob hda (x:=.int i 0) rfl (show wpAny _ _ (seqItems? (.ref t) >>= _) _ _ s from wpAny_bind (wpAny_seqItems hot hdt ?_)))
  simp only [Int.toNat_natCast,hx]
  refine wpAny_bind (wpAny_setField hob hda (by simp) (wpAny_pure ⟨x,rfl,wpAny_pure (hQ _ ⟨_,Heap.get?_update_self _ hob (Obj.isFreed_of_fields (Obj.data_mapFields hda _)),(Obj.cls_mapFields ..).trans hcl,?_⟩ (Heap.SameBut.update ..))⟩))
  rw [Obj.data_mapFields hda];simp [rawInt]
theorem Jq {it t:Addr}{i:Nat}{items:Array Value}{Q:Value->Shared->Prop} (hh:A.handled=none) (hit:s.heap.IsTupleIter it t i) (ht:s.heap.IsTuple t items) (hx:items[i]?=none)
    (hE:∀ h' e,Heap.ExtBut it s.heap h'->(∃ o,h'.get? e=some o /\ o.cls=.type "StopIteration")->E (.ref e) { s with heap:=h' }):wpAny (model prog w) A (Builtin.SmallTypes.nextOf (.ref it)) Q E s:=by
  obtain ⟨ob,hob,hcl,hda⟩:=id hit
  obtain ⟨ot,hot,_,nt,hdt⟩:=ht
  unfold Builtin.SmallTypes.nextOf
  refine wpAny_bind (wpAny_callSpecial?_slot (name:=Str.ofString "__next__") hit.typeIs F.slot_tuple_iterator_next (wpAny_call_entry F.slot_tuple_iterator_next hit.typeIs F.entry_tuple_iterator_next (show wpAny _ _ (field (.ref it) 0 >>= _) _ _ s from wpAny_bind (wpAny_field hob hda (x:=.ref t) rfl ?_)) (F.args_tuple_iterator_next_1 _)))
  change wpAny _ _ (if (Value.ref t == Value.none)=true then _ else _) _ _ s;rw [if_neg (show ¬ ((Value.ref t == Value.none)=true) from Bool.false_ne_true)]
  change wpAny _ _ (field (.ref it) 1 >>= _) _ _ s
  refine wpAny_bind (wpAny_field hob hda (x:=.int i 0) rfl (show wpAny _ _ (seqItems? (.ref t) >>= _) _ _ s from wpAny_bind (wpAny_seqItems hot hdt ?_)))
  simp only [Int.toNat_natCast,hx]
  refine wpAny_bind (wpAny_rule (wpAny_bind (wpAny_setField hob hda (by simp) (show wpAny _ _ (newExc (.type "StopIteration") [] >>= _) _ _ _ from wpAny_bind ?_))))
  simp only [newExc,newTuple]
  refine wpAny_bind (wpAny_newObj_type (wpAny_bind (m:=firstArgMember _ _) (wpAny_of_eq (a:=Value.none) (by first | rfl | (simp only [firstArgMember];rfl)) (wpAny_newObj_type ?_ (by size_fits)))) (by size_fits))
  simp only [raiseNew]
  refine wpAny_bind (wpAny_handled ?_)
  first | rw [show A.in1.handled=none from hh] | rw [hh]
  exact wpAny_bind (wpAny_pure (wpAny_throw (hE _ _ (((Heap.SameBut.update ..).extBut.push _).push _) ⟨_,Heap.get?_push_size _ rfl,rfl⟩)))
theorem Ae (hh:A.handled=none) (it l:Addr) (hne:l ≠ it) (items:Array Value) :
    Draws prog w A it [it,l] items.size (fun i v=>items[i]?=some v) (fun i h=>h.IsTupleIter it l i /\ h.IsTuple l items) where
  live:=fun _ _ st=>let ⟨o,ho,_⟩:=st.1;⟨o,ho⟩
  frame:=fun _ _ _ st hk=>⟨st.1.at fun o e=>hk it (by simp) o e,st.2.at fun o e=>hk l (by simp) o e⟩
  item:=fun i s Q E hi st hQ=>FS st.1 st.2 (x:=items[i]) (by simp [hi]) fun h' a b=>hQ _ h' s.toks (by simp [hi]) ⟨a,st.2.at fun o e=>b.extBut _ _ hne e⟩ b
  done:=fun s Q E st hE=>Jq hh st.1 st.2 (by simp) hE
structure Far (z TI TO i1 i2:Addr) (fp1 fp2:List Addr):Prop where
  a:TI ≠ z /\ TO ≠ z /\ i1 ≠ z /\ i2 ≠ z /\ TI ≠ TO /\ TI ≠ i1 /\ TI ≠ i2 /\ TO ≠ i1 /\ TO ≠ i2 /\ i1 ≠ i2
  f1:z ∉ fp1 /\ TO ∉ fp1 /\ i2 ∉ fp1
  f2:z ∉ fp2 /\ TO ∉ fp2 /\ i1 ∉ fp2
variable {z TI TO i1 i2 : Addr} {fp1 fp2 : List Addr} {n1 n2 : Nat} {P1 P2 : Nat -> Value -> Prop} {S1 S2 : Nat -> Heap -> Prop}
theorem Draws.same {it:Addr}{fp:List Addr}{n:Nat}{P:Nat->Value->Prop}{S:Nat->Heap->Prop} (D:Draws prog w A it fp n P S) {c:Addr}{h h':Heap}{k:Nat} (x:Heap.SameBut c h h') (hc:c ∉ fp) (st:S k h):S k h' :=
  D.frame k h h' st fun b hb o e=>x.extBut _ _ (fun q=>hc (q ▸ hb)) e
theorem Lr (D1:Draws prog w A i1 fp1 n1 P1 S1) (D2:Draws prog w A i2 fp2 n2 P2 S2) (R:Far z TI TO i1 i2 fp1 fp2) {k:Nat}{a b:Value}{Q:Value->Shared->Prop} (k1:k < n1) (k2:k < n2)
    (hz:IsZip s.heap z TI TO .none) (hTI:IsPair s.heap TI (.ref i1) (.ref i2)) (hTO:IsPair s.heap TO a b) (s1:S1 k s.heap) (s2:S2 k s.heap)
    (hQ:∀ x y h' tk,P1 k x->P2 k y->IsZip h' z TI TO (rawInt s.heap.objs.size)->IsPair h' TO x y->S1 (k + 1) h'->S2 (k + 1) h'->IsPair h' s.heap.objs.size x y ->
      (∀ c o,c ≠ z->c ≠ TO->c ≠ i1->c ≠ i2->s.heap.get? c=some o->h'.get? c=some o)->Q (.ref s.heap.objs.size) { s with heap:=h',toks:=tk }) :
    wpAny (model prog w) A (Builtin.«zip.__next__» ⟨[.ref z],[]⟩) (fun fin s'=>∃ v,fin=.done (.ret v) /\ Q v s') E s:=by
  obtain ⟨⟨r1,r2,r3,r4,r5,r6,r7,r8,r9,r10⟩,⟨f1,f2,f3⟩,⟨f4,f5,f6⟩⟩:=R
  change wpAny _ _ (field (.ref z) 2 >>= _) _ _ _;refine wpAny_bind (wpAny_field hz rfl (x:=.bool false) rfl ?_)
  change wpAny _ _ (field (.ref z) 3 >>= _) _ _ _;refine wpAny_bind (wpAny_field hz rfl (x:=.ref TI) rfl (wpAny_bind (wpAny_seqItems hTI rfl ?_)))
  change wpAny _ _ (Builtin.SmallTypes.ownedTupleIsFree (.ref z) >>= _) _ _ _;refine wpAny_bind ?_
  unfold Builtin.SmallTypes.ownedTupleIsFree
  refine wpAny_bind (wpAny_field hz rfl (x:=.none) rfl (wpAny_pure ?_))
  simp only [if_true]
  refine wpAny_bind (wpAny_rule (wpAny_bind (wpAny_field hz rfl (x:=.ref TO) rfl (wpAny_bind (wpAny_setField_rec hz (by simp) fun g1 hz1 e1=>?_)))))
  have hz1':IsZip g1 z TI TO .ellipsis:=hz1
  refine wpAny_bind ?_
  simp only [List.zipIdx_cons,List.zipIdx_nil,List.forIn_cons,List.forIn_nil]
  refine wpAny_bind (wpAny_bind (wpAny_onRaise (show wpAny _ _ (Builtin.SmallTypes.nextOf (.ref i1) >>= _) _ _ _ from wpAny_bind (D1.item k _ _ _ k1 (Draws.same D1 e1 f1 s1) fun x g2 t2 px s1' e2=>wpAny_pure ?_))))
  have hTO2:IsPair g2 TO a b:=e2.extBut _ _ r8 (e1.extBut _ _ r2 hTO)
  refine wpAny_bind (wpAny_seqItems hTO2 rfl (wpAny_bind (wpAny_updateSeq_pair hTO2 fun g3 hTO3 e3=>wpAny_bind (wpAny_letGo (wpAny_pure ?_)))))
  have hTO3':IsPair g3 TO x b:=hTO3
  refine wpAny_bind (wpAny_bind (wpAny_onRaise (show wpAny _ _ (Builtin.SmallTypes.nextOf (.ref i2) >>= _) _ _ _ from wpAny_bind (D2.item k _ _ _ k2 (Draws.same D2 e3 f5 (Draws.same D2 e2 f6 (Draws.same D2 e1 f4 s2))) fun y g4 t4 py s2' e4=>wpAny_pure ?_))))
  have hTO4:IsPair g4 TO x b:=e4.extBut _ _ r9 hTO3'
  refine wpAny_bind (wpAny_seqItems hTO4 rfl (wpAny_bind (wpAny_updateSeq_pair hTO4 fun g5 hTO5 e5=>wpAny_bind (wpAny_letGo (wpAny_pure (wpAny_pure ?_))))))
  have hTO5':IsPair g5 TO x y:=hTO5
  refine wpAny_bind (wpAny_seqItems hTO5' rfl (wpAny_bind (wpAny_newTuple ?_)))
  have hsz:g5.objs.size=s.heap.objs.size:=by rw [e5.1,e4.1,e3.1,e2.1,e1.1]
  have hz5:IsZip g5 z TI TO .ellipsis:=e5.extBut _ _ r2.symm (e4.extBut _ _ r4.symm (e3.extBut _ _ r2.symm (e2.extBut _ _ r3.symm hz1')))
  have kp:∀ c o,c ≠ z->c ≠ TO->c ≠ i1->c ≠ i2->s.heap.get? c=some o->g5.get? c=some o:=fun c o c1 c2 c3 c4 q=>e5.extBut _ _ c2 (e4.extBut _ _ c4 (e3.extBut _ _ c2 (e2.extBut _ _ c3 (e1.extBut _ _ c1 q))))
  have q1:S1 (k + 1) g5:=Draws.same D1 e5 f2 (Draws.same D1 e4 f3 (Draws.same D1 e3 f2 s1'))
  have q2:S2 (k + 1) g5:=Draws.same D2 e5 f5 s2'
  have zlt:z < g5.objs.size:=Heap.lt_size hz5
  change wpAny _ _ (Builtin.SmallTypes.ownedTupleHandOut (.ref z) (.ref g5.objs.size) >>= _) _ _ _;refine wpAny_bind ?_
  unfold Builtin.SmallTypes.ownedTupleHandOut
  refine wpAny_bind (wpAny_setField_rec (Heap.get?_push_of_some _ hz5) (by simp) fun g7 hz7 e7=>wpAny_setField_rec (show IsZip g7 z TI TO (rawInt g5.objs.size) from hz7) (by simp) fun g8 hz8 e8=>?_)
  have up:∀ c o,c ≠ z->g5.get? c=some o->g8.get? c=some o:=fun c o c1 q=>e8.extBut _ _ c1 (e7.extBut _ _ c1 (Heap.get?_push_of_some _ q))
  have hT8:IsPair g8 g5.objs.size x y:=e8.extBut _ _ (Nat.ne_of_gt zlt) (e7.extBut _ _ (Nat.ne_of_gt zlt) (Heap.get?_push_size _ rfl))
  have hz8':IsZip g8 z TI TO (rawInt g5.objs.size):=hz8
  refine wpAny_pure ⟨_,rfl,(show Q (.ref g5.objs.size) _ from ?_)⟩
  rw [hsz] at hT8 hz8' ⊢
  exact hQ x y g8 _ px py hz8' (up _ _ r2 hTO5') (D1.frame _ _ _ q1 fun c hc o q=>up c o (fun w=>f1 (w ▸ hc)) q) (D2.frame _ _ _ q2 fun c hc o q=>up c o (fun w=>f4 (w ▸ hc)) q) hT8 fun c o c1 c2 c3 c4 q=>up c o c1 (kp c o c1 c2 c3 c4 q)
theorem Ls (D1:Draws prog w A i1 fp1 n1 P1 S1) (D2:Draws prog w A i2 fp2 n2 P2 S2) (R:Far z TI TO i1 i2 fp1 fp2) {k:Nat}{a b:Value}{Q:Fin->Shared->Prop} (hk:k=n1 \/ (k < n1 /\ k=n2))
    (hz:IsZip s.heap z TI TO .none) (hTI:IsPair s.heap TI (.ref i1) (.ref i2)) (hTO:IsPair s.heap TO a b) (s1:S1 k s.heap) (s2:S2 k s.heap)
    (hE:∀ h' e tk,(∀ c o,c ≠ z->c ≠ TO->c ≠ i1->c ≠ i2->s.heap.get? c=some o->h'.get? c=some o)->(∃ o,h'.get? e=some o /\ o.cls=.type "StopIteration")->E (.ref e) { s with heap:=h',toks:=tk }) :
    wpAny (model prog w) A (Builtin.«zip.__next__» ⟨[.ref z],[]⟩) Q E s:=by
  obtain ⟨⟨r1,r2,r3,r4,r5,r6,r7,r8,r9,r10⟩,⟨f1,f2,f3⟩,⟨f4,f5,f6⟩⟩:=R
  change wpAny _ _ (field (.ref z) 2 >>= _) _ _ _;refine wpAny_bind (wpAny_field hz rfl (x:=.bool false) rfl ?_)
  change wpAny _ _ (field (.ref z) 3 >>= _) _ _ _;refine wpAny_bind (wpAny_field hz rfl (x:=.ref TI) rfl (wpAny_bind (wpAny_seqItems hTI rfl ?_)))
  change wpAny _ _ (Builtin.SmallTypes.ownedTupleIsFree (.ref z) >>= _) _ _ _;refine wpAny_bind ?_
  unfold Builtin.SmallTypes.ownedTupleIsFree
  refine wpAny_bind (wpAny_field hz rfl (x:=.none) rfl (wpAny_pure ?_))
  simp only [if_true]
  refine wpAny_bind (wpAny_rule (wpAny_bind (wpAny_field hz rfl (x:=.ref TO) rfl (wpAny_bind (wpAny_setField_rec hz (by simp) fun g1 hz1 e1=>?_)))))
  have hz1':IsZip g1 z TI TO .ellipsis:=hz1
  refine wpAny_bind ?_
  simp only [List.zipIdx_cons,List.zipIdx_nil,List.forIn_cons,List.forIn_nil]
  rcases hk with hk | ⟨hk1,hk2⟩
  . refine wpAny_bind (wpAny_bind (wpAny_onRaise (show wpAny _ _ (Builtin.SmallTypes.nextOf (.ref i1) >>= _) _ _ _ from wpAny_bind (D1.done _ _ _ (hk ▸ Draws.same D1 e1 f1 s1) fun g2 ex e2 hx=>?_))))
    obtain ⟨oe,hoe,hce⟩:=hx
    have hz2:IsZip g2 z TI TO .ellipsis:=e2 _ _ r3.symm hz1'
    have hez:ex ≠ z:=fun q=>by subst q;rw [hz2] at hoe;cases hoe;simp at hce
    exact wpAny_setField_rec hz2 (by simp) fun g3 _ e3=>hE g3 ex _ (fun c o c1 _ c3 _ q=>e3.extBut _ _ c1 (e2 _ _ c3 (e1.extBut _ _ c1 q))) ⟨oe,e3.extBut _ _ hez hoe,hce⟩
  . refine wpAny_bind (wpAny_bind (wpAny_onRaise (show wpAny _ _ (Builtin.SmallTypes.nextOf (.ref i1) >>= _) _ _ _ from wpAny_bind (D1.item k _ _ _ hk1 (Draws.same D1 e1 f1 s1) fun x g2 t2 px s1' e2=>wpAny_pure ?_))))
    have hTO2:IsPair g2 TO a b:=e2.extBut _ _ r8 (e1.extBut _ _ r2 hTO)
    refine wpAny_bind (wpAny_seqItems hTO2 rfl (wpAny_bind (wpAny_updateSeq_pair hTO2 fun g3 hTO3 e3=>wpAny_bind (wpAny_letGo (wpAny_pure ?_)))))
    refine wpAny_bind (wpAny_bind (wpAny_onRaise (show wpAny _ _ (Builtin.SmallTypes.nextOf (.ref i2) >>= _) _ _ _ from wpAny_bind (D2.done _ _ _ (hk2 ▸ Draws.same D2 e3 f5 (Draws.same D2 e2 f6 (Draws.same D2 e1 f4 s2))) fun g4 ex e4 hx=>?_))))
    obtain ⟨oe,hoe,hce⟩:=hx
    have hz4:IsZip g4 z TI TO .ellipsis:=e4 _ _ r4.symm (e3.extBut _ _ r2.symm (e2.extBut _ _ r3.symm hz1'))
    have hez:ex ≠ z:=fun q=>by subst q;rw [hz4] at hoe;cases hoe;simp at hce
    exact wpAny_setField_rec hz4 (by simp) fun g5 _ e5=>hE g5 ex _ (fun c o c1 c2 c3 c4 q=>e5.extBut _ _ c1 (e4 _ _ c4 (e3.extBut _ _ c2 (e2.extBut _ _ c3 (e1.extBut _ _ c1 q))))) ⟨oe,e5.extBut _ _ hez hoe,hce⟩
theorem Ch (D1:Draws prog w A.in1 i1 fp1 n1 P1 S1) (D2:Draws prog w A.in1 i2 fp2 n2 P2 S2) (R:Far z TI TO i1 i2 fp1 fp2) {k:Nat}{a b:Value}{Q:Option Value->Shared->Prop} (k1:k < n1) (k2:k < n2)
    (hz:IsZip s.heap z TI TO .none) (hTI:IsPair s.heap TI (.ref i1) (.ref i2)) (hTO:IsPair s.heap TO a b) (s1:S1 k s.heap) (s2:S2 k s.heap)
    (hQ:∀ x y h' tk,P1 k x->P2 k y->IsZip h' z TI TO (rawInt s.heap.objs.size)->IsPair h' TO x y->S1 (k + 1) h'->S2 (k + 1) h'->IsPair h' s.heap.objs.size x y ->
      (∀ c o,c ≠ z->c ≠ TO->c ≠ i1->c ≠ i2->s.heap.get? c=some o->h'.get? c=some o)->Q (some (.ref s.heap.objs.size)) { s with heap:=h',toks:=tk }):wpAny (model prog w) A (pyNext (.ref z)) Q E s:=by
  have hT:s.TypeIs (.ref z) "zip":=⟨_,hz,rfl⟩
  unfold pyNext
  exact wpAny_bind (wpAny_attempt (wpAny_callSpecial?_slot (name:=Str.ofString "__next__") hT F.slot_zip_next (wpAny_call_entry F.slot_zip_next hT F.entry_zip_next (Lr D1 D2 R k1 k2 hz hTI hTO s1 s2 fun x y h' tk b1 b2 b3 b4 b5 b6 b7 b8=>wpAny_pure (hQ x y h' tk b1 b2 b3 b4 b5 b6 b7 b8)) (F.args_zip_next_1 _))))
theorem Ci (D1:Draws prog w A.in1 i1 fp1 n1 P1 S1) (D2:Draws prog w A.in1 i2 fp2 n2 P2 S2) (R:Far z TI TO i1 i2 fp1 fp2) {k:Nat}{a b:Value}{Q:Option Value->Shared->Prop} (hk:k=n1 \/ (k < n1 /\ k=n2))
    (hz:IsZip s.heap z TI TO .none) (hTI:IsPair s.heap TI (.ref i1) (.ref i2)) (hTO:IsPair s.heap TO a b) (s1:S1 k s.heap) (s2:S2 k s.heap)
    (hQ:∀ h' tk,(∀ c o,c ≠ z->c ≠ TO->c ≠ i1->c ≠ i2->s.heap.get? c=some o->h'.get? c=some o)->Q none { s with heap:=h',toks:=tk }):wpAny (model prog w) A (pyNext (.ref z)) Q E s:=by
  have hT:s.TypeIs (.ref z) "zip":=⟨_,hz,rfl⟩
  unfold pyNext
  refine wpAny_bind (wpAny_attempt (wpAny_callSpecial?_slot (name:=Str.ofString "__next__") hT F.slot_zip_next (wpAny_call_entry F.slot_zip_next hT F.entry_zip_next (Ls D1 D2 R hk hz hTI hTO s1 s2 fun h' e tk q1 q2=>?_) (F.args_zip_next_1 _))))
  obtain ⟨o,ho,hc⟩:=q2
  exact wpAny_bind (wpAny_isInstance (T:="StopIteration") (b:=true) ⟨o,ho,hc⟩ isSubtype_stop (wpAny_pure (hQ h' tk q1)))
noncomputable def zH1 (h:Heap) (l1:Addr):Heap:=h.push { cls:=.type "tuple_iterator",data:=.fields #[.ref l1,.int 0 0] }
noncomputable def zH2 (h:Heap) (l1 l2:Addr):Heap:=(zH1 h l1).push { cls:=.type "tuple_iterator",data:=.fields #[.ref l2,.int 0 0] }
noncomputable def zH3 (h:Heap) (l1 l2:Addr):Heap:=(zH2 h l1 l2).push { cls:=.type "tuple",data:=.seq #[.ref h.objs.size,.ref (zH1 h l1).objs.size] }
noncomputable def zH4 (h:Heap) (l1 l2:Addr):Heap:=(zH3 h l1 l2).push { cls:=.type "tuple",data:=.seq #[.none,.none] }
noncomputable def zH5 (h:Heap) (l1 l2:Addr):Heap:=(zH4 h l1 l2).push { cls:=.type "zip",data:=.fields #[.none,.bool false,.bool false,.ref (zH2 h l1 l2).objs.size,.ref (zH3 h l1 l2).objs.size] }
theorem FT (l1 l2:Addr) (xs ys:Array Value) :
    Meets (Builtin.«zip.__new__» ⟨[.type "zip",.ref l1,.ref l2],[]⟩) (fun _ R s=>s.heap.IsTuple l1 xs /\ s.heap.IsTuple l2 ys /\ R (.ok (.ret (.ref (zH4 s.heap l1 l2).objs.size))) { s with heap:=zH5 s.heap l1 l2 }) :=
  .of_wp fun prog w A R s h=>by
    obtain ⟨hp,g,d,tk,os⟩:=s;obtain ⟨hl1,hl2,h⟩:=h
    have hsub:=sub_zip
    have hL1:Heap.IsTuple (Shared.heap ⟨hp,g,d,tk,os⟩) l1 xs:=hl1
    have hL2:Heap.IsTuple (Shared.heap ⟨hp.push { cls:=.type "tuple_iterator",data:=.fields #[.ref l1,.int 0 0] },g,d,tk,os⟩) l2 ys:=hl2.at fun o e=>Heap.get?_push_of_some _ e
    wp_walk using wpAny_pyIter_tuple hL1,wpAny_pyIter_tuple hL2
    exact ⟨_,rfl,h⟩
theorem Jr {l1 l2:Addr}{xs ys:Array Value}{Q:Value->Shared->Prop} (hl1:s.heap.IsTuple l1 xs) (hl2:s.heap.IsTuple l2 ys)
    (h:∀ h',IsZip h' (s.heap.objs.size + 4) (s.heap.objs.size + 2) (s.heap.objs.size + 3) .none->IsPair h' (s.heap.objs.size + 2) (.ref s.heap.objs.size) (.ref (s.heap.objs.size + 1))->IsPair h' (s.heap.objs.size + 3) .none .none ->
      h'.IsTupleIter s.heap.objs.size l1 0->h'.IsTupleIter (s.heap.objs.size + 1) l2 0->(∀ c o,s.heap.get? c=some o->h'.get? c=some o)->Q (.ref (s.heap.objs.size + 4)) { s with heap:=h' }):wpAny (model prog w) A (call (.type "zip") [.ref l1,.ref l2]) Q E s:=by
  refine callType_new F.called_zip (by decide) (F.typeCall_zip_2 _ _) (F.newCall_zip_2 _ _) (fun obj=>F.args_object_init_3 obj _ _) F.entry_zip_new (FT l1 l2 xs ys) ⟨hl1,hl2,?_⟩
  have z1:(zH1 s.heap l1).objs.size=s.heap.objs.size + 1:=Heap.size_push ..
  have z2:(zH2 s.heap l1 l2).objs.size=s.heap.objs.size + 2:=by rw [zH2,Heap.size_push,z1]
  have z3:(zH3 s.heap l1 l2).objs.size=s.heap.objs.size + 3:=by rw [zH3,Heap.size_push,z2]
  have z4:(zH4 s.heap l1 l2).objs.size=s.heap.objs.size + 4:=by rw [zH4,Heap.size_push,z3]
  have g5:(zH5 s.heap l1 l2).get? (zH4 s.heap l1 l2).objs.size=some { cls:=.type "zip",data:=.fields #[.none,.bool false,.bool false,.ref (zH2 s.heap l1 l2).objs.size,.ref (zH3 s.heap l1 l2).objs.size] }:=Heap.get?_push_size _ rfl
  have g4:(zH5 s.heap l1 l2).get? (zH3 s.heap l1 l2).objs.size=some { cls:=.type "tuple",data:=.seq #[.none,.none] }:=Heap.get?_push_of_some _ (Heap.get?_push_size _ rfl)
  have g3:(zH5 s.heap l1 l2).get? (zH2 s.heap l1 l2).objs.size=some { cls:=.type "tuple",data:=.seq #[.ref s.heap.objs.size,.ref (zH1 s.heap l1).objs.size] }:=Heap.get?_push_of_some _ (Heap.get?_push_of_some _ (Heap.get?_push_size _ rfl))
  have g2:(zH5 s.heap l1 l2).get? (zH1 s.heap l1).objs.size=some { cls:=.type "tuple_iterator",data:=.fields #[.ref l2,.int 0 0] }:=Heap.get?_push_of_some _ (Heap.get?_push_of_some _ (Heap.get?_push_of_some _ (Heap.get?_push_size _ rfl)))
  have g1:(zH5 s.heap l1 l2).get? s.heap.objs.size=some { cls:=.type "tuple_iterator",data:=.fields #[.ref l1,.int 0 0] }:=Heap.get?_push_of_some _ (Heap.get?_push_of_some _ (Heap.get?_push_of_some _ (Heap.get?_push_of_some _ (Heap.get?_push_size _ rfl))))
  change _ /\ _
  rw [z2,z3,z4] at g5
  rw [z1,z2] at g3
  rw [z3] at g4
  rw [z1] at g2
  rw [z4]
  exact ⟨⟨_,g5,rfl⟩,h _ g5 g3 g4 ⟨_,g1,rfl,rfl⟩ ⟨_,g2,rfl,rfl⟩ fun c o q=>Heap.get?_push_of_some _ (Heap.get?_push_of_some _ (Heap.get?_push_of_some _ (Heap.get?_push_of_some _ (Heap.get?_push_of_some _ q))))⟩
end
end HT
set_option Elab.async false
set_option linter.all false
set_option maxRecDepth 100000
set_option maxHeartbeats 4000000
namespace L2
open PySem PySem.Spec PyProof.Rows
section
variable {X : Cx} {pins : List (Addr × Obj)} {σ : St} {H : Hp} {s : Shared} {h' : Heap}
theorem Inv.turnedL {t':Nat}{ch:List Addr}{p:Addr}{o:HO} (I:Inv X pins σ H s) (hf:∀ b ∈ ch,FpOk X pins H b) (k:∀ b o,b ∉ ch->s.heap.get? b=some o->h'.get? b=some o) (hp:s.heap.objs.size <= p)
    (new:ObjOk X.prog X.w (upd H p o) h' p o):Inv X pins σ (upd H p o) { s with heap:=h',toks:=t' }:=by
  have hfr:H p=none:=I.hok.fresh hp
  have nch:∀ b u,H b=some u->b ∉ ch:=fun b u e z=>by rw [(hf b z).1] at e;cases e
  have nep:∀ b u,H b=some u->b ≠ p:=fun b u e=>fZ e hfr
  have stay:∀ b u,H b=some u->upd H p o b=some u:=fun b u e=>by rw [fM (nep b u e)];exact e
  refine I.step (g':=s.gens) (d':=s.drawn) (ch:=ch) (fun b hb=>?_) (fun b o _ _ hc e _=>k b o hc e) (fun b o _ _ hc e _=>⟨o.slots,k b o hc e⟩) (fun b ob _ e n=>?_)
    (fun b o hc e=>⟨o,k b o hc e⟩) (fun b _ e=>stay b _ e) (fun b _ _ e=>stay b _ e) (fun b ps e=>⟨#[],by rw [stay b _ e];simp⟩) (fun m hm=>?_) ?_ I.bare
  . obtain ⟨f0,f1,f2,f3,f4,f5⟩:=hf b hb
    exact ⟨f3,f1,f4,f5⟩
  . rw [fM (fun z=>Nat.lt_irrefl _ (Nat.lt_of_lt_of_le (Heap.lt_size e) (by rw [z];exact hp)))];exact n
  . obtain ⟨ob,es,ep,ho,r⟩:=hm
    exact ⟨ob,es,ep,k _ ob (fun z=>(hf _ z).2.1 rfl) ho,r⟩
  . intro b u e
    by_cases hb:b=p
    . subst hb;rw [fX] at e;cases e;exact new
    . rw [fM hb] at e
      refine (I.hok b u e).stay (fun c v hc q=>k c v ?_ q) (fun c q=>stay c _ q) fun c xs q=>stay c _ q
      rcases hc with z | z
      . rw [z];exact nch b u e
      . exact nch c _ z
theorem Inv.turnedM {t':Nat}{ch:List Addr} (I:Inv X pins σ H s) (hf:∀ b ∈ ch,FpOk X pins H b) (k:∀ b o,b ∉ ch->s.heap.get? b=some o->h'.get? b=some o):Inv X pins σ H { s with heap:=h',toks:=t' }:=by
  have nch:∀ b u,H b=some u->b ∉ ch:=fun b u e z=>by rw [(hf b z).1] at e;cases e
  refine I.step (g':=s.gens) (d':=s.drawn) (ch:=ch) (fun b hb=>?_) (fun b o _ _ hc e _=>k b o hc e) (fun b o _ _ hc e _=>⟨o.slots,k b o hc e⟩) (fun b ob _ e n=>n)
    (fun b o hc e=>⟨o,k b o hc e⟩) (fun b _ e=>e) (fun b _ _ e=>e) (fun b ps e=>⟨#[],by rw [e];simp⟩) (fun m hm=>?_) ?_ I.bare
  . obtain ⟨f0,f1,f2,f3,f4,f5⟩:=hf b hb
    exact ⟨f3,f1,f4,f5⟩
  . obtain ⟨ob,es,ep,ho,r⟩:=hm
    exact ⟨ob,es,ep,k _ ob (fun z=>(hf _ z).2.1 rfl) ho,r⟩
  . intro b u e
    refine (I.hok b u e).stay (fun c v hc q=>k c v ?_ q) (fun c q=>q) fun c xs q=>q
    rcases hc with z | z
    . rw [z];exact nch b u e
    . exact nch c _ z
end
noncomputable def Itz (K:PySem.W.Frag) (a b:Addr):It :=
  ⟨fun i H=>∃ (xs ys:List V) (x y:V),SqT K H a xs /\ SqT K H b ys /\ xs[i]?=some x /\ ys[i]?=some y,
   fun i H w H'=>∀ (xs ys:List V),SqT K H a xs->SqT K H b ys->∃ (p:Addr) (x y:V),xs[i]?=some x /\ ys[i]?=some y /\ H p=none /\ w=.ref p /\ H'=upd H p (.tup [x,y]),
   fun i H=>∃ (xs ys:List V),SqT K H a xs /\ SqT K H b ys /\ (i=xs.length \/ (i < xs.length /\ i=ys.length))⟩
theorem CA {b n:Nat} (k:Nat) (h:b < n):b ≠ n + k:=by omega
theorem CB {m n:Nat} (h:n + 4 < m):m ≠ n /\ m ≠ n + 1 /\ m ≠ n + 2 /\ m ≠ n + 3 /\ m ≠ n + 4:=by omega
theorem GH {n a b:Addr} (ha:a < n) (hb:b < n):HT.Far (n + 4) (n + 2) (n + 3) n (n + 1) [n,a] [n + 1,b] where
  a:=by refine ⟨?_,?_,?_,?_,?_,?_,?_,?_,?_,?_⟩ <;> exact fun z=>by have z':(_:Nat)=_:=z;omega
  f1:=by
    have e1:∀ k:Nat,n + k ≠ a:=fun k z=>Nat.lt_irrefl _ (Nat.lt_of_le_of_lt (Nat.le_add_right n k) (z ▸ ha))
    refine ⟨?_,?_,?_⟩ <;> (rw [List.mem_cons,List.mem_singleton];rintro (z | z))
    . have z':(_:Nat)=_:=z;omega
    . exact e1 4 z
    . have z':(_:Nat)=_:=z;omega
    . exact e1 3 z
    . have z':(_:Nat)=_:=z;omega
    . exact e1 1 z
  f2:=by
    have e1:∀ k:Nat,n + k ≠ b:=fun k z=>Nat.lt_irrefl _ (Nat.lt_of_le_of_lt (Nat.le_add_right n k) (z ▸ hb))
    refine ⟨?_,?_,?_⟩ <;> (rw [List.mem_cons,List.mem_singleton];rintro (z | z))
    . have z':(_:Nat)=_:=z;omega
    . exact e1 4 z
    . have z':(_:Nat)=_:=z;omega
    . exact e1 3 z
    . have z':(_:Nat)=_:=z;omega
    . exact e1 0 z
theorem Lu {P:Program}{w:World}{K:PySem.W.Frag}{elts:List Expr}{kt:Nat}{tp:Pos}{n a b:Addr} (ha:a < n) (hb:b < n) :
    Turn P w K (.Tuple elts kt tp) (Itz K a b) [n + 4,n + 2,n + 3,n,n + 1] (n + 4)
      (fun i h=>IsZip h (n + 4) (n + 2) (n + 3) .none /\ IsPair h (n + 2) (.ref n) (.ref (n + 1)) /\ (∃ u v,IsPair h (n + 3) u v) /\ h.IsTupleIter n a i /\ h.IsTupleIter (n + 1) b i) where
  mem:=by simp
  obj:=fun i h st c hc=>by
    obtain ⟨z1,z2,⟨u,v,z3⟩,⟨o4,e4,c4,d4⟩,⟨o5,e5,c5,d5⟩⟩:=st
    simp only [List.mem_cons,List.not_mem_nil,or_false] at hc
    rcases hc with rfl | rfl | rfl | rfl | rfl
    . exact ⟨_,z1,fun v z=>by cases z⟩
    . exact ⟨_,z2,fun v z=>by cases z⟩
    . exact ⟨_,z3,fun v z=>by cases z⟩
    . exact ⟨o4,e4,fun v z=>by rw [d4] at z;cases z⟩
    . exact ⟨o5,e5,fun v z=>by rw [d5] at z;cases z⟩
  keep:=fun i h h' st k=>by
    obtain ⟨z1,z2,⟨u,v,z3⟩,z4,z5⟩:=st
    exact ⟨k _ (by simp) _ z1,k _ (by simp) _ z2,⟨u,v,k _ (by simp) _ z3⟩,z4.at fun o e=>k _ (by simp) o e,z5.at fun o e=>k _ (by simp) o e⟩
  item:=by
    intro X hP hw hK hc i pins s σ H E I hf st hg
    subst hP hw hK
    obtain ⟨xs,ys,x,y,q1,q2,e1,e2⟩:=hg
    obtain ⟨z1,z2,⟨u,v,z3⟩,z4,z5⟩:=st
    obtain ⟨i1,r1,p1,l1⟩:=I.tuple q1
    obtain ⟨i2,r2,p2,l2⟩:=I.tuple q2
    have hx:=(List.getElem?_eq_some_iff.mp e1).1
    have hy:=(List.getElem?_eq_some_iff.mp e2).1
    have R:=GH ha hb
    have D1:=HT.Ae (prog:=X.prog) (w:=X.w) (A:=X.A.in1) (I.ok.hd hc) n a (Nat.ne_of_lt ha) i1.toArray
    have D2:=HT.Ae (prog:=X.prog) (w:=X.w) (A:=X.A.in1) (I.ok.hd hc) (n + 1) b (CA 1 hb) i2.toArray
    refine HT.Ch D1 D2 R (by rw [List.size_toArray,<-r1.length];exact hx) (by rw [List.size_toArray,<-r2.length];exact hy) z1 z2 z3 ⟨z4,p1⟩ ⟨z5,p2⟩ fun vx vy h' tk b1 b2 b3 b4 b5 b6 b7 b8=>⟨_,rfl,?_⟩
    refine wpAny_letOwnedTupleGo_zip b3 fun h2 hz2 hs2=>?_
    obtain ⟨w1,f1,g1⟩:=r1.get e1
    obtain ⟨w2,f2,g2⟩:=r2.get e2
    have b1':i1[i]?=some vx:=by simpa using b1
    have b2':i2[i]?=some vy:=by simpa using b2
    rw [f1] at b1';cases b1'
    rw [f2] at b2';cases b2'
    have zlt:(n + 4:Nat) < s.heap.objs.size:=Heap.lt_size z1
    have hT2:IsPair h2 s.heap.objs.size vx vy:=hs2.extBut _ _ (CB zlt).2.2.2.2 b7
    have nw:H s.heap.objs.size=none:=I.hok.fresh (Nat.le_refl _)
    have I2:Inv X pins σ (upd H s.heap.objs.size (.tup [x,y])) { s with heap:=h2,toks:=tk }:=by
      refine I.turnedL (ch:=[n + 4,n + 2,n + 3,n,n + 1]) hf (fun c o hcc e=>?_) (Nat.le_refl _) ?_
      . simp only [List.mem_cons,List.not_mem_nil,or_false,not_or] at hcc
        exact hs2.extBut _ _ hcc.1 (b8 c o hcc.1 hcc.2.2.1 hcc.2.2.2.1 hcc.2.2.2.2 e)
      . exact ⟨by show 2 <= sizeLine;decide,[vx,vy],.cons g1 (.cons g2 .nil),⟨_,hT2,rfl,_,rfl⟩⟩
    refine ⟨.ref s.heap.objs.size,_,I2,rfl,fun xs' ys' y1 y2=>⟨_,x,y,by rw [I.tuple_inj y1 q1];exact e1,by rw [I.tuple_inj y2 q2];exact e2,nw,rfl,rfl⟩,⟨hz2,?_,⟨_,_,hs2.extBut _ _ R.a.2.1 b4⟩,?_,?_⟩,fun c hcc=>?_⟩
    . exact hs2.extBut _ _ R.a.1 (b8 _ _ R.a.1 R.a.2.2.2.2.1 R.a.2.2.2.2.2.1 R.a.2.2.2.2.2.2.1 z2)
    . exact b5.1.at fun o e=>hs2.extBut _ _ R.a.2.2.1 e
    . exact b6.1.at fun o e=>hs2.extBut _ _ R.a.2.2.2.1 e
    . rw [fM]
      . exact (hf c hcc).1
      . intro z
        subst z
        simp only [List.mem_cons,List.not_mem_nil,or_false] at hcc
        obtain ⟨m1,m2,m3,m4,m5⟩:=CB zlt
        rcases hcc with q | q | q | q | q
        . exact m5 q
        . exact m3 q
        . exact m4 q
        . exact m1 q
        . exact m2 q
  done:=by
    intro X hP hw hK hc i pins s σ H E I hf st hg
    subst hP hw hK
    obtain ⟨xs,ys,q1,q2,hk⟩:=hg
    obtain ⟨z1,z2,⟨u,v,z3⟩,z4,z5⟩:=st
    obtain ⟨i1,r1,p1,l1⟩:=I.tuple q1
    obtain ⟨i2,r2,p2,l2⟩:=I.tuple q2
    have R:=GH ha hb
    have D1:=HT.Ae (prog:=X.prog) (w:=X.w) (A:=X.A.in1) (I.ok.hd hc) n a (Nat.ne_of_lt ha) i1.toArray
    have D2:=HT.Ae (prog:=X.prog) (w:=X.w) (A:=X.A.in1) (I.ok.hd hc) (n + 1) b (CA 1 hb) i2.toArray
    refine HT.Ci D1 D2 R (k:=i) (by rw [List.size_toArray,List.size_toArray,<-r1.length,<-r2.length];exact hk) z1 z2 z3 ⟨z4,p1⟩ ⟨z5,p2⟩ fun h' tk b8=>⟨rfl,I.turnedM (ch:=[n + 4,n + 2,n + 3,n,n + 1]) hf fun c o hcc e=>?_⟩
    simp only [List.mem_cons,List.not_mem_nil,or_false,not_or] at hcc
    exact b8 c o hcc.1 hcc.2.2.1 hcc.2.2.2.1 hcc.2.2.2.2 e
  self:=fun _ _ _ _ _ st h=>wpAny_pyIter_zip st.1 h
end L2
namespace L2
open PySem PySem.Spec PyProof.Rows
theorem Itup.lt {X:Cx}{pins:List (Addr × Obj)}{σ:St}{H:Hp}{s:Shared}{a:Addr}{its:List Value} (p:IsTup s.heap a its.toArray):a < s.heap.objs.size:=by
  obtain ⟨o,e,_⟩:=p
  exact Heap.lt_size e
noncomputable def iZip (K:PySem.W.Frag) (ta:TA):TI:=fun σ H R=>ta σ H fun vs H2=>∃ (p q:Addr) (xs ys:List V),vs=[.ref p,.ref q] /\ SqT K H2 p xs /\ SqT K H2 q ys /\ R (Itz K p q) H2
theorem N8 {X:Cx}{a b:Expr}{ta:TA}{p pos tp:Pos}{elts:List Expr}{kt:Nat} (hg:Gl X "zip") (hm:X.mg "zip"=none) (ha:PA X [a,b] ta) (hs:starEach [a,b] X.env=[(false,eval a X.env),(false,eval b X.env)]:=by rfl) (hs2:starEach [b] X.env=[(false,eval b X.env)]:=by rfl) :
    PI X (.Tuple elts kt tp) (.Call (.Name "zip" p) [a,b] [] pos) (iZip X.K ta):=by
  intro pins s σ H R I h
  refine wpAny_Call_Name_kw (oP I hg hm (by decide +kernel:bootBuiltins "zip"=some (.type "zip")) ?_)
  refine PyProof.Rows.callWith_type1 (thn (ha pos pins s σ H _ I h) fun us s1 ⟨vs,H2,I2,r2,q⟩=>?_) (by rw [hs,hs2]) (by rw [hs2];rfl)
  obtain ⟨x,y,xs,ys,rfl,hx,hy,q⟩:=q
  obtain ⟨u,v,rfl,ru,rv⟩:=Vals.two r2
  cases ru
  cases rv
  obtain ⟨i1,r1,p1,_⟩:=I2.tuple hx
  obtain ⟨i2,r2,p2,_⟩:=I2.tuple hy
  refine HT.Jr (xs:=i1.toArray) (ys:=i2.toArray) p1 p2 fun h' b1 b2 b3 b4 b5 b6=>?_
  refine wpAny_pyIter_zip b1 ?_
  refine ⟨s1.heap.objs.size + 4,_,_,_,H2,rfl,I2.kept (t':=s1.toks) b6,Lu (Itup.lt (X:=X) (pins:=pins) (σ:=σ) (H:=H2) p1) (Itup.lt (X:=X) (pins:=pins) (σ:=σ) (H:=H2) p2),⟨b1,b2,⟨_,_,b3⟩,b4,b5⟩,fun c hc=>?_,q⟩
  have hle:s1.heap.objs.size <= c:=by
    simp only [List.mem_cons,List.not_mem_nil,or_false] at hc
    rcases hc with z | z | z | z | z <;> (rw [z];first | exact Nat.le_refl _ | exact Nat.le_add_right _ _)
  exact I2.fpOk hle (I2.hok.fresh hle)
end L2
namespace L2.DL
open PySem PySem.Spec PyProof.Rows
section
variable {X : Cx} {T : Fr} {Z : Xs} {a b : Expr} {p pos tp : Pos} {elts : List Expr} {kt : Nat} {k : DE (List W)}
noncomputable def zipW:List D->List D->List W
  | x :: l,y :: r=>.d (.tup [x,y]) :: zipW l r
  | _,_=>[]
theorem DU:∀ (l r:List D),(zipW l r).length=min l.length r.length
  | [],_=>by simp [zipW]
  | _ :: _,[]=>by simp [zipW]
  | _ :: l,_ :: r=>by simp only [zipW,List.length_cons,DU l r];omega
theorem DV:∀ {l r:List D}{i:Nat}{w:W},(zipW l r)[i]?=some w->∃ x y,l[i]?=some x /\ r[i]?=some y /\ w=.d (.tup [x,y])
  | [],_,_,_,e=>by simp [zipW] at e
  | _ :: _,[],_,_,e=>by simp [zipW] at e
  | x :: l,y :: r,0,w,e=>by simp [zipW] at e;exact ⟨x,y,rfl,rfl,e.symm⟩
  | x :: l,y :: r,i + 1,w,e=>by
    have e':(zipW l r)[i]?=some w:=by simpa [zipW] using e
    obtain ⟨x',y',h1,h2,h3⟩:=DV e'
    exact ⟨x',y',by simpa using h1,by simpa using h2,h3⟩
noncomputable def dZip (k:DE (List W)):DE (List W):=fun env bx=>fO (k env bx) fun ws bx1=>match ws with
  | [.d (.tup l),.d (.tup r)]=>.val (zipW l r) bx1
  | _=>.bad
theorem FU {K:PySem.W.Frag}{F:Hp}{r:List Addr}{p q:Addr}{vs us:List V}{l m:List D} (hp:F p=some (.tup vs)) (hq:F q=some (.tup us)) (dl:DenL F l vs) (dm:DenL F m us):Yields F r (zipW l m) (Itz K p q):=by
  intro T i F1 r1 σ1 H1 env1 bx1 g R
  have s1:SqT K H1 p vs:=.of (R.fh _ _ (g.s _ _ hp))
  have s2:SqT K H1 q us:=.of (R.fh _ _ (g.s _ _ hq))
  have e1:=dl.length
  have e2:=dm.length
  refine ⟨fun hl=>?_,fun w e=>?_⟩
  . rw [DU] at hl
    exact ⟨vs,us,s1,s2,by omega⟩
  . obtain ⟨x,y,h1,h2,rfl⟩:=DV e
    obtain ⟨v,f1,d1⟩:=dl.get h1
    obtain ⟨u,f2,d2⟩:=dm.get h2
    refine ⟨⟨vs,us,v,u,s1,s2,f1,f2⟩,fun w H2 hy=>?_⟩
    obtain ⟨a,v',u',g1,g2,ha,rfl,rfl⟩:=hy vs us s1 s2
    rw [f1] at g1;cases g1
    rw [f2] at g2;cases g2
    have gr:=R.growD (o:=.tup [v,u]) ha
    exact ⟨_,gr,R.allocD ha,a,[v,u],rfl,fX,.cons (Den.mono (g.trans gr).s x d1) (.cons (Den.mono (g.trans gr).s y d2) .nil)⟩
theorem GI (hg:Gl X "zip") (hm:X.mg "zip"=none) (ha:PDA X T Z [a,b] k) (hs:starEach [a,b] X.env=[(false,eval a X.env),(false,eval b X.env)]:=by rfl) (hs2:starEach [b] X.env=[(false,eval b X.env)]:=by rfl) :
    PID X T Z (.Tuple elts kt tp) (.Call (.Name "zip" p) [a,b] [] pos) (dZip k):=by
  refine PI.imp (N8 hg hm ha hs hs2) fun σ H Q ⟨F,r,env,bx,R,h⟩=>?_
  refine ⟨F,r,env,bx,R,End.bind h fun ws bx1 F1 r1 vs H1 g1 R1 d1 h1=>?_⟩
  split at h1
  . rename_i l m
    obtain ⟨v,t,rfl,⟨p,us,rfl,k1,k2⟩,v2,t2,rfl,⟨q,us2,rfl,k3,k4⟩,rt⟩:=d1
    cases (show t2=[] from rt)
    exact ⟨p,q,us,us2,rfl,.of (R1.fh _ _ k1),.of (R1.fh _ _ k3),h1 F1 r1 _ H1 (.refl F1 r1) R1 (FU k1 k3 k2 k4)⟩
  . exact h1.elim
end
end L2.DL
set_option Elab.async false
set_option linter.all false
set_option maxRecDepth 100000
set_option maxHeartbeats 4000000
namespace L2.DL
open PySem PySem.Spec PyProof.Rows
section
variable {X : Cx} {T : Fr} {Z : Xs} {tg a : Expr} {pos p : Pos}
noncomputable def iSeq (K:PySem.W.Frag) (tl:TE):TI:=fun σ H R=>tl σ H fun x H1=>(∃ a,x=.ref a /\ (∃ xs,SqL K H1 a xs) /\ R (Itl K a) H1) \/ ∃ a,x=.ref a /\ (∃ xs,SqT K H1 a xs) /\ R (Itt K a) H1
theorem N9 {l:Expr}{tl:TE} (hl:PE X l tl):PI X tg l (iSeq X.K tl):=by
  intro pins s σ H R I h
  refine thn (hl pins s σ H _ I h) fun v s1 ⟨x,H1,I1,r1,q1⟩=>?_
  rcases q1 with ⟨a,rfl,⟨xs,hq⟩,q⟩ | ⟨a,rfl,⟨xs,hq⟩,q⟩
  . cases r1
    obtain ⟨its,rv,p,hz⟩:=I1.list hq
    refine wpAny_pyIter_list p.isList ⟨s1.heap.objs.size,[s1.heap.objs.size],_,_,H1,rfl,I1.kept (t':=s1.toks) fun b o e=>Heap.get?_push_of_some _ e,G9 a _,⟨_,Heap.get?_push_size _ rfl,rfl,rfl⟩,fun b hb=>?_,q⟩
    cases List.mem_singleton.mp hb
    exact I1.fpOk (Nat.le_refl _) (I1.hok.fresh (Nat.le_refl _))
  . cases r1
    obtain ⟨its,rv,p,hz⟩:=I1.tuple hq
    refine wpAny_pyIter_tuple (show s1.heap.IsTuple a its.toArray from p) ⟨s1.heap.objs.size,[s1.heap.objs.size],_,_,H1,rfl,I1.kept (t':=s1.toks) fun b o e=>Heap.get?_push_of_some _ e,FE a _,⟨_,Heap.get?_push_size _ rfl,rfl,rfl⟩,fun b hb=>?_,q⟩
    cases List.mem_singleton.mp hb
    exact I1.fpOk (Nat.le_refl _) (I1.hok.fresh (Nat.le_refl _))
theorem DW {K:PySem.W.Frag}{F:Hp}{r:List Addr}{a:Addr}{vs:List V}{l:List D} (k1:F a=some (.lst vs)) (k2:DenL F l vs):Yields F r (l.map W.d) (Itl K a):=fun T' i F2 r2 σ2 H2 env2 bx2 g2 R2=>by
  have hq:SqL K H2 a vs:=.of (R2.fh _ _ (g2.s _ _ k1))
  refine ⟨fun hl=>?_,fun w e=>?_⟩
  . rw [List.length_map,k2.length] at hl
    exact ⟨vs,hq,Nat.le_of_eq hl⟩
  . obtain ⟨d,e1,rfl⟩:=Cu (F:=F) (r:=r) e
    obtain ⟨u,e2,du⟩:=k2.get e1
    refine ⟨⟨vs,u,hq,e2⟩,fun x H3 ⟨e3,hy⟩=>?_⟩
    subst e3
    have e4:vs[i]?=some x:=hy vs hq
    rw [e2] at e4
    cases e4
    exact ⟨F2,.refl F2 r2,R2,Den.mono g2.s d du⟩
theorem FV {K:PySem.W.Frag}{F:Hp}{r:List Addr}{a:Addr}{vs:List V}{l:List D} (k1:F a=some (.tup vs)) (k2:DenL F l vs):Yields F r (l.map W.d) (Itt K a):=fun T' i F2 r2 σ2 H2 env2 bx2 g2 R2=>by
  have hq:SqT K H2 a vs:=.of (R2.fh _ _ (g2.s _ _ k1))
  refine ⟨fun hl=>?_,fun w e=>?_⟩
  . rw [List.length_map,k2.length] at hl
    exact ⟨vs,hq,Nat.le_of_eq hl⟩
  . obtain ⟨d,e1,rfl⟩:=Cu (F:=F) (r:=r) e
    obtain ⟨u,e2,du⟩:=k2.get e1
    refine ⟨⟨vs,u,hq,e2⟩,fun x H3 ⟨e3,hy⟩=>?_⟩
    subst e3
    have e4:vs[i]?=some x:=hy vs hq
    rw [e2] at e4
    cases e4
    exact ⟨F2,.refl F2 r2,R2,Den.mono g2.s d du⟩
theorem iy {ma:DE W} (ha:PD X T Z a ma):PID X T Z tg a (dIter ma):=by
  refine PI.imp (N9 ha) fun σ H Q ⟨F,r,env,bx,R,h⟩=>?_
  refine ⟨F,r,env,bx,R,End.bind h fun w bx1 F1 r1 v H1 g1 R1 d1 h1=>?_⟩
  split at h1
  . rename_i l
    obtain ⟨p,vs,rfl,k1,k2⟩:=d1
    exact .inl ⟨p,rfl,⟨vs,.of (R1.fh _ _ k1)⟩,h1 F1 r1 _ H1 (.refl F1 r1) R1 (DW k1 k2)⟩
  . rename_i l
    obtain ⟨p,vs,rfl,k1,k2⟩:=d1
    exact .inr ⟨p,rfl,⟨vs,.of (R1.fh _ _ k1)⟩,h1 F1 r1 _ H1 (.refl F1 r1) R1 (FV k1 k2)⟩
  . exact h1.elim
theorem Bn {x:Str}{v:Int} (hg:Gl X x) (hm:∃ t,X.mg x=some (.int v t)) (hd:(x == ("__debug__":Str))=false:=by decide):PD X T Z (.Name x pos) (dC (.int v)):=by
  obtain ⟨t,hm⟩:=hm
  exact DM (gU (v:=.int v) hg hm ⟨t,rfl⟩ hd) fun _=>rfl
end
noncomputable def compChk (XN:List Str) (sc cs:Scope) (N:List Str) (src:List (Option Nat)):Bool :=
  decide (cs.kind=.function) && cs.names.all (fun y=>decide (y.2 ≠ .cell)) && cs.names.all (fun y=>decide (y.2=.local->cs.names.lookup y.1=some .local)) &&
  cs.names.all (fun y=>decide (y.2=.free->(sc.names.lookup y.1=some .cell \/ sc.names.lookup y.1=some .free))) && decide (src.length=N.length) &&
  (List.range src.length).all fun j=>match src[j]?,N[j]? with
    | some (some i),some x=>decide (XN[i]?=some x /\ cs.names.lookup x=some .free)
    | _,_=>true
theorem gw {X:Cx}{N XN:List Str}{src:List (Option Nat)}{sc cs:Scope} (hX:∀ x,X.env.kindOf x=sc.names.lookup x) (hN:X.N=XN) (h:compChk XN sc cs N src=true):CompScope X N src cs:=by
  subst hN
  unfold compChk at h
  simp only [Bool.and_eq_true,decide_eq_true_eq,List.all_eq_true] at h
  obtain ⟨⟨⟨⟨⟨h1,h2⟩,h3⟩,h4⟩,h5⟩,h6⟩:=h
  refine ⟨h1,fun y hy=>h2 y hy,fun y hy=>h3 y hy,fun y hy hf=>?_,h5,fun j i x e1 e2=>?_⟩
  . rw [hX];exact h4 y hy hf
  . have q:=h6 j (List.mem_range.mpr (List.getElem?_eq_some_iff.mp e1).1)
    rw [e1,e2] at q
    exact of_decide_eq_true q
section
variable (P : Program) (w : World) (K : PySem.W.Frag) (mg : Str -> Option Value) (base : Heap) (cl : Nat -> Addr)
noncomputable def Has (k:Nat) (x:Str) (ps:List Str) (fn:List W->List Bx->O W):Prop :=
  ∃ (f:Addr) (fd:FuncData),FnOk P w K mg base (CXr P w) k f fd ps (spD cl ps.length fn) /\ mg x=some (.ref f) /\ PySem.W.keepIn K (.ref f)=true /\ Binds K fd ps [] /\ ∃ o:Obj,K.lookup f=some o /\ o.data=.func fd
noncomputable def Def (x:Str) (st:Stmt) (ps:List Str):Prop:=∃ (f:Addr) (fd:FuncData),Fun K x x st f fd /\ mg x=some (.ref f) /\ Binds K fd ps []
end
section
variable {P : Program} {w : World} {K : PySem.W.Frag} {mg : Str -> Option Value} {base : Heap} {cl : Nat -> Addr} {k : Nat} {x : Str} {st : Stmt} {N ps : List Str} {m : DSt} {fn : List W -> List Bx -> O W} {nn kk : Nat}
theorem _root_.L2.Fun.obj {qual:Str}{f:Addr}{fd:FuncData} (F:Fun K x qual st f fd):∃ o:Obj,K.lookup f=some o /\ o.data=.func fd:=by
  obtain ⟨⟨oc,od,kV,doc,pm,an,cdv,ct,osl,_,l,_⟩,_⟩:=F
  exact ⟨_,l,rfl⟩
theorem gp (d:Def K mg x st ps) (S:FnScope N ps (fq st))
    (hbody:∀ (f:Addr) (cdv:Value) (A:Around) (outer:List Env) (s:Shared) (H:Hp) (E:XK) (n:Nat) (F0:Hp),Room k (A.deeper (envOfC x (fq st) s.heap.objs.size f cdv)) ->
      PSDs (cxOf CX0 P w K mg base N x (fq st) f cdv A outer s H E).nox ⟨H,n,F0⟩ ⟨E0,cl⟩ (fH st) m) (hn:N.length=nn:=by rfl) (hkk:k + 1=kk:=by rfl):Has P w K mg base cl kk x ps (fnD nn (noX m)):=by
  subst hn hkk
  obtain ⟨f,fd,F,hm,hb⟩:=d
  exact ⟨f,fd,OM F S (fun cdv A outer s H E n F0 hr=>hbody f cdv A outer s H E n F0 hr),hm,F.kp,hb,F.obj⟩
theorem MM (d:Def K mg x st ps):Has P w K mg base cl k x ps (fun _ _=>.bad):=by
  obtain ⟨f,fd,F,hm,hb⟩:=d
  refine ⟨f,fd,⟨fun vs H Q E h=>?_,fun A outer s H args us vs Q E _ _ _ _ h=>?_⟩,hm,F.kp,hb,F.obj⟩
  . obtain ⟨_,_,_,_,_,_,_,h⟩:=h;exact h.elim
  . obtain ⟨_,_,_,_,_,_,_,h⟩:=h;exact h.elim
end
section
variable {X : Cx} {T : Fr} {Z : Xs} {e : Expr} {es : List Expr} {pos p : Pos} {k k' : Nat} {x : Str} {ps : List Str} {fn : List W -> List Bx -> O W} {m : DE (List W)} {nn : Nat}
theorem Oa (h:Has X.prog X.w X.K X.mg X.base Z.cl k x ps fn) (hr:Room k' X.A) (hk:k <= k') (hg:Gl X x) (hx:Passes (CXr X.prog X.w) X Z.E) (ha:PDA X T Z (e :: es) m) (hdb:(x == ("__debug__":Str))=false:=by decide)
    (he:starEach (e :: es) X.env=(false,eval e X.env) :: starEach es X.env:=by rfl) (hpl:(backTo pos (starEach es X.env)).any (·.1)=false:=by rfl) (hn:ps.length=nn:=by rfl):PD X T Z (.Call (.Name x p) (e :: es) [] pos) (fv fn nn m):=by
  subst hn
  obtain ⟨f,fd,G,hm,hkp,hb,_⟩:=h
  exact MA G (hr.mono hk) hg hm hkp hb hx ha hdb he hpl
end
structure Bas (K:PySem.W.Frag) (mg:Str->Option Value) (bs:List Str):Prop where
  nb:∀ x,x ∈ bs->mg x=none
  ti:Tys K "int"
  tb:Tys K "bool"
  tt:Tys K "tuple"
  tl:Tys K "list"
end L2.DL
set_option Elab.async false
set_option linter.all false
set_option maxRecDepth 100000
set_option maxHeartbeats 4000000
namespace HT
open PySem PySem.Spec PyProof.Rows
structure SB (kd:SortKind) (b:Array Keyed) (z:SortSt):Prop where
  pm:(arrOf z).Perm b
  kd:kindOf z=kd
  fl:failedOf z=none
  pn:pendingOf z=#[]
theorem SB.len {kd:SortKind}{b:Array Keyed}{z:SortSt} (g:SB kd b z):(arrOf z).size=b.size:=g.pm.size_eq
theorem SB.put {kd:SortKind}{b:Array Keyed}{z:SortSt} (g:SB kd b z) {c:Array Keyed} (q:c.Perm (arrOf z)):SB kd b (setArr z c):=⟨q.trans g.pm,g.kd,g.fl,g.pn⟩
section
variable {prog : Program} {w : World} {A : Around} {E : Value -> Shared -> Prop} {s : Shared}
noncomputable def Cmp (prog:Program) (w:World) (A:Around) (E:Value->Shared->Prop) (s:Shared) (κ:KeyKind) (kd:SortKind) (b:Array Keyed):Prop :=
  ∀ (x y:Keyed),x ∈ b.toList->y ∈ b.toList->∀ (Q:Bool->Shared->Prop) (E':Value->Shared->Prop),Q (κ.blt ((κ.keyOf x.1).getD κ.dflt) ((κ.keyOf y.1).getD κ.dflt)) s->wpAny (model prog w) A (keyLt' kd x.1 y.1) Q E' s
variable {κ : KeyKind} {kd : SortKind} {b : Array Keyed}
noncomputable abbrev kx (κ:KeyKind) (z:SortSt) (i:Nat):κ.α:=KK κ (arrOf z) i
theorem SB.item {z:SortSt} (g:SB kd b z) {i:Nat} (hi:i < b.size):∃ x,(arrOf z)[i]?=some x /\ x ∈ b.toList /\ kx κ z i=(κ.keyOf x.1).getD κ.dflt:=by
  have hz:i < (arrOf z).size:=g.len ▸ hi
  refine ⟨(arrOf z)[i],getElem?_pos _ i hz,(Array.perm_iff_toList_perm.mp g.pm).mem_iff.mp (by simp),?_⟩
  simp only [kx,KK,getElem?_pos (arrOf z) i hz]
theorem ask (C:Cmp prog w A E s κ kd b) {z:SortSt} (g:SB kd b z) {i j:Nat} (hi:i < b.size) (hj:j < b.size) {Q:Option Bool->SortSt->Prop}
    (q:Q (some (κ.blt (kx κ z i) (kx κ z j))) z):wpS (model prog w) A E s (ltAt' i j) Q z:=by
  obtain ⟨x,ex,mx,kx'⟩:=g.item (κ:=κ) hi
  obtain ⟨y,ey,my,ky'⟩:=g.item (κ:=κ) hj
  rw [kx',ky'] at q
  rw [ltAt'_eq]
  refine wpS_bind (wpS_get ?_)
  dsimp only
  rw [elem'_eq,elem'_eq,ex,ey]
  refine wpS_bind (wpS_pure (wpS_bind (wpS_pure ?_)))
  rw [lt'_eq]
  refine wpS_bind (wpS_get ?_)
  rw [g.kd]
  exact wpS_bind (wpS_lift (wpAny_attempt (C x y mx my _ _ ⟨rfl,wpS_pure q⟩)))
noncomputable def Up (κ:KeyKind) (z:SortSt) (n:Nat):Prop:=∀ i j,i <= j->j < n->κ.kle (kx κ z i) (kx κ z j)
noncomputable def Dn (κ:KeyKind) (z:SortSt) (n:Nat):Prop:=∀ i j,i <= j->j < n->κ.kle (kx κ z j) (kx κ z i)
theorem Up.one {z:SortSt}{n:Nat} (h:n <= 1):Up κ z n:=fun i j a c=>by
  have e:i=j:=by omega
  subst e;exact KeyOrd.kle_refl _
theorem Up.more {z:SortSt}{n:Nat} (u:Up κ z n) (h:1 <= n) (l:κ.kle (kx κ z (n - 1)) (kx κ z n)):Up κ z (n + 1):=fun i j a c=>by
  rcases Nat.lt_or_ge j n with c' | c'
  . exact u i j a c'
  obtain rfl:j=n:=by omega
  rcases Nat.lt_or_ge i j with a' | a'
  . exact KeyOrd.kle_trans (u i (j - 1) (by omega) (by omega)) l
  . obtain rfl:i=j:=by omega
    exact KeyOrd.kle_refl _
theorem Dn.more {z:SortSt}{n:Nat} (u:Dn κ z n) (h:1 <= n) (l:κ.kle (kx κ z n) (kx κ z (n - 1))):Dn κ z (n + 1):=fun i j a c=>by
  rcases Nat.lt_or_ge j n with c' | c'
  . exact u i j a c'
  obtain rfl:j=n:=by omega
  rcases Nat.lt_or_ge i j with a' | a'
  . exact KeyOrd.kle_trans l (u i (j - 1) (by omega) (by omega))
  . obtain rfl:i=j:=by omega
    exact KeyOrd.kle_refl _
theorem asc (C:Cmp prog w A E s κ kd b) {z:SortSt} (g:SB kd b z) {a n:Nat} (hn:n <= b.size) (h1:1 <= a) (h2:a <= n) (u:Up κ z a) {Q:AscSt->SortSt->Prop}
    (q:∀ m,a <= m->m <= n->Up κ z m->(m < n->κ.klt (kx κ z m) (kx κ z (m - 1)))->Q (none,m) z):wpS (model prog w) A E s (ascLoop a n) Q z:=by
  unfold ascLoop
  refine wpS_forRange (I:=fun m c y=>y=z /\ c=(none,m) /\ Up κ z m) ?_ ?_ ⟨rfl,rfl,u⟩
  . intro m c y g1 g2 ⟨e1,e2,u'⟩
    subst e1;subst e2
    refine wpS_bind (ask C g (show m < b.size by omega) (show m - 1 < b.size by omega) ?_)
    cases e:κ.blt (kx κ y m) (kx κ y (m - 1)) with
    | true=>exact wpS_pure (q m g1 (Nat.le_of_lt g2) u' fun _=>e)
    | false=>exact wpS_pure ⟨rfl,rfl,u'.more (by omega) e⟩
  . intro c y ⟨e1,e2,u'⟩
    subst e1;subst e2
    rw [Nat.max_eq_right h2] at u' ⊢
    exact q n h2 (Nat.le_refl n) u' fun h=>absurd h (Nat.lt_irrefl n)
theorem GJ {z:SortSt}{i j k:Nat} (hj:j <= (arrOf z).size):kx κ (setArr z (mirror (arrOf z) i j ((j - i) / 2))) k=if i <= k /\ k < j then kx κ z (i + j - 1 - k) else kx κ z k:=KK_mirror (κ:=κ) hj k
theorem Af {z:SortSt}{i j:Nat} (hj:j <= (arrOf z).size) (e:∀ k,i <= k->k < j->kx κ z k=kx κ z (j - 1)) (k:Nat):kx κ (setArr z (mirror (arrOf z) i j ((j - i) / 2))) k=kx κ z k:=KK_mirror_equal (κ:=κ) hj e k
noncomputable def Ends (prog:Program) (w:World) (A:Around) (E:Value->Shared->Prop) (s:Shared) (κ:KeyKind) (kd:SortKind) (b:Array Keyed) (n:Nat) (Q:Option Nat->SortSt->Prop):Prop :=
  ∀ m y,SB kd b y->1 <= m->m <= n->Up κ y m->Q (some m) y
theorem turned (C:Cmp prog w A E s κ kd b) {z:SortSt} (g:SB kd b z) {a n:Nat} (hn:n <= b.size) (h1:1 <= a) (h2:a <= n) (d:Dn κ z a) {Q:Option Nat->SortSt->Prop} (q:Ends prog w A E s κ kd b n Q) :
    wpS (model prog w) A E s (tail3 a n) Q z:=by
  have hz:a <= (arrOf z).size:=g.len ▸ Nat.le_trans h2 hn
  have g':SB kd b (setArr z (mirror (arrOf z) 0 a ((a - 0) / 2))):=g.put (mirror_perm _ _ _ _)
  unfold tail3
  refine wpS_bind (wpS_reverse (wpS_bind (asc C g' hn h1 h2 (fun i j c1 c2=>?_) fun m m1 m2 um _=>wpS_pure (q m _ g' (Nat.le_trans h1 m1) m2 um))))
  rw [GJ hz,GJ hz,if_pos ⟨Nat.zero_le i,by omega⟩,if_pos ⟨Nat.zero_le j,c2⟩]
  exact d _ _ (by omega) (by omega)
noncomputable def Alike (κ:KeyKind) (z:SortSt) (m e:Nat):Prop:=e + 1 <= m /\ ∀ i,m - (e + 1) <= i->i < m->kx κ z i=kx κ z (m - 1)
theorem Alike.zero {z:SortSt}{m:Nat} (h:1 <= m):Alike κ z m 0:=⟨h,fun i h1 h2=>by rw [show i=m - 1 by omega]⟩
theorem desc (C:Cmp prog w A E s κ kd b) {z:SortSt} (g:SB kd b z) {a n:Nat} (hn:n <= b.size) (h1:1 <= a) (h2:a <= n) (d:Dn κ z a) {Q:DescSt->SortSt->Prop}
    (q:∀ m e y,SB kd b y->a <= m->m <= n->Dn κ y m->Alike κ y m e->Q (none,m,e) y):wpS (model prog w) A E s (descLoop a n) Q z:=by
  unfold descLoop
  refine wpS_forRange (I:=fun m c y=>∃ e,c=(none,m,e) /\ SB kd b y /\ Dn κ y m /\ Alike κ y m e) ?_ ?_ ⟨0,rfl,g,d,.zero h1⟩
  . intro m c y g1 g2 ⟨e,ec,gy,dy,al⟩
    subst ec
    have hm:m <= (arrOf y).size:=by rw [gy.len];omega
    refine wpS_bind (ask C gy (show m < b.size by omega) (show m - 1 < b.size by omega) ?_)
    cases t:κ.blt (kx κ y m) (kx κ y (m - 1)) with
    | true =>
      have d':Dn κ y (m + 1):=dy.more (by omega) (KeyOrd.kle_of_klt t)
      dsimp only
      rw [if_pos rfl]
      by_cases he:e > 0
      . rw [if_pos he]
        refine wpS_bind (wpS_reverse (wpS_pure ⟨0,rfl,gy.put (mirror_perm _ _ _ _),fun i j c1 c2=>?_,.zero (by omega)⟩))
        rw [Af hm al.2,Af hm al.2]
        exact d' i j c1 c2
      . rw [if_neg he]
        exact wpS_pure ⟨0,rfl,gy,d',.zero (by omega)⟩
    | false =>
      dsimp only
      rw [if_neg (by simp)]
      refine wpS_bind (ask C gy (show m - 1 < b.size by omega) (show m < b.size by omega) ?_)
      cases t2:κ.blt (kx κ y (m - 1)) (kx κ y m) with
      | true=>exact wpS_pure (q m e y gy g1 (by omega) dy al)
      | false =>
        have eq:kx κ y m=kx κ y (m - 1):=KeyOrd.kle_antisymm t2 t
        refine wpS_pure ⟨e + 1,rfl,gy,dy.more (by omega) t2,by have:=al.1;omega,fun i c1 c2=>?_⟩
        rw [show m + 1 - 1=m by omega]
        by_cases hi:i=m
        . rw [hi]
        . rw [eq];exact al.2 i (by omega) (by omega)
  . intro c y ⟨e,ec,gy,dy,al⟩
    subst ec
    rw [Nat.max_eq_right h2] at dy al ⊢
    exact q n e y gy h2 (Nat.le_refl n) dy al
theorem fall (C:Cmp prog w A E s κ kd b) {z:SortSt} (g:SB kd b z) {a n:Nat} (hn:n <= b.size) (h2:a + 1 <= n) (d:Dn κ z (a + 1)) {Q:Option Nat->SortSt->Prop} (q:Ends prog w A E s κ kd b n Q) :
    wpS (model prog w) A E s (descPart a n) Q z:=by
  unfold descPart
  refine wpS_bind (wpS_lift (wpAny_rule ⟨rfl,wpS_bind (desc C g hn (Nat.succ_pos a) h2 d fun m e y gy m1 m2 dy al=>?_)⟩))
  dsimp only
  by_cases he:e > 0
  . rw [if_pos he]
    have hm:m <= (arrOf y).size:=by rw [gy.len];omega
    refine wpS_bind (wpS_reverse (turned C (gy.put (mirror_perm _ _ _ _)) hn (by omega) m2 (fun i j c1 c2=>?_) q))
    rw [Af hm al.2,Af hm al.2]
    exact dy i j c1 c2
  . rw [if_neg he]
    exact turned C gy hn (by omega) m2 dy q
theorem count (C:Cmp prog w A E s κ kd b) {z:SortSt} (g:SB kd b z) {n:Nat} (hn:n <= b.size) (h1:1 <= n) {Q:Option Nat->SortSt->Prop} (q:Ends prog w A E s κ kd b n Q) :
    wpS (model prog w) A E s (countRun' 0 n) Q z:=by
  rw [countRun0_eq]
  refine wpS_bind (asc C g hn (Nat.le_refl 1) h1 (.one (Nat.le_refl 1)) fun m m1 m2 um last=>?_)
  dsimp only
  by_cases hm:m=n
  . rw [if_pos (by simp [hm])]
    exact wpS_pure (q m z g m1 m2 um)
  rw [if_neg (by simp [hm])]
  have lt:=last (by omega)
  by_cases h3:m > 1
  . rw [if_pos h3]
    refine wpS_bind (ask C g (show 0 < b.size by omega) (show m - 1 < b.size by omega) ?_)
    cases t:κ.blt (kx κ z 0) (kx κ z (m - 1)) with
    | true=>exact wpS_pure (q m z g m1 m2 um)
    | false =>
      dsimp only
      rw [if_neg (by simp)]
      have al:∀ k,0 <= k->k < m->kx κ z k=kx κ z (m - 1):=fun k _ hk =>
        KeyOrd.kle_antisymm (um k (m - 1) (by omega) (by omega)) (KeyOrd.kle_trans t (um 0 k (Nat.zero_le k) hk))
      have hz:m <= (arrOf z).size:=by rw [g.len];omega
      refine wpS_bind (wpS_reverse (fall C (g.put (mirror_perm _ _ _ _)) hn (by omega) (fun i j c1 c2=>?_) q))
      rw [Af hz al,Af hz al]
      have d0:Dn κ z m:=fun i j c1 c2=>by rw [al i (Nat.zero_le _) (by omega),al j (Nat.zero_le _) c2];exact KeyOrd.kle_refl _
      exact d0.more m1 (KeyOrd.kle_of_klt lt) i j c1 c2
  . rw [if_neg h3]
    obtain rfl:m=1:=by omega
    have d0:Dn κ z 1:=fun i j c1 c2=>by
      obtain rfl:i=j:=by omega
      exact KeyOrd.kle_refl _
    exact fall C g hn (by omega) (d0.more (Nat.le_refl 1) (KeyOrd.kle_of_klt lt)) q
end
end HT
set_option Elab.async false
set_option linter.all false
set_option maxRecDepth 100000
set_option maxHeartbeats 4000000
namespace HT
open PySem PySem.Spec PyProof.Rows
section
variable {prog : Program} {w : World} {A : Around} {E : Value -> Shared -> Prop} {s : Shared} {κ : KeyKind} {kd : SortKind} {b : Array Keyed}
noncomputable def Fits (κ:KeyKind) (z:SortSt) (k l r:Nat):Prop:=(∀ i,i < l->κ.kle (kx κ z i) (kx κ z k)) /\ ∀ i,r <= i->i < k->κ.klt (kx κ z k) (kx κ z i)
theorem GK {z:SortSt}{k l i:Nat} (hk:k < (arrOf z).size) (hl:l <= k):kx κ (setArr z (bubble (arrOf z) k (k - l))) i=if i=l then kx κ z k else if l < i /\ i <= k then kx κ z (i - 1) else kx κ z i:=by
  have e:=KK_bubble (κ:=κ) hk (Nat.sub_le k l) i
  rw [show k - (k - l)=l by omega] at e
  exact e
theorem Up.insert {z:SortSt}{k l:Nat} (u:Up κ z k) (hk:k < (arrOf z).size) (hl:l <= k) (f:Fits κ z k l l):Up κ (setArr z (bubble (arrOf z) k (k - l))) (k + 1):=by
  intro i j c1 c2
  rw [GK hk hl,GK hk hl]
  by_cases i1:i=l
  . rw [if_pos i1]
    by_cases j1:j=l
    . rw [if_pos j1];exact KeyOrd.kle_refl _
    . rw [if_neg j1,if_pos ⟨by omega,by omega⟩]
      exact KeyOrd.kle_of_klt (f.2 _ (by omega) (by omega))
  . rw [if_neg i1]
    by_cases i2:l < i /\ i <= k
    . rw [if_pos i2,if_neg (by omega),if_pos ⟨by omega,by omega⟩]
      exact u _ _ (by omega) (by omega)
    . rw [if_neg i2]
      by_cases j1:j=l
      . rw [if_pos j1];exact f.1 i (by omega)
      . rw [if_neg j1]
        by_cases j2:l < j /\ j <= k
        . rw [if_pos j2];exact u _ _ (by omega) (by omega)
        . rw [if_neg j2];exact u _ _ c1 (by omega)
theorem insAll (C:Cmp prog w A E s κ kd b) {z:SortSt} (g:SB kd b z) {n m:Nat} (hn:n <= b.size) (hm:m <= n) (u:Up κ z m) {Q:Bool->SortSt->Prop} (q:∀ y,SB kd b y->Up κ y n->Q true y) :
    wpS (model prog w) A E s (binarySort' 0 n m) Q z:=by
  rw [binarySort'_eq]
  simp only [Nat.zero_add]
  refine wpS_bind (wpS_mono (Q:=fun c y=>c=(none,()) /\ SB kd b y /\ Up κ y n) (wpS_forRange (I:=fun k c y=>c=(none,()) /\ SB kd b y /\ Up κ y (min k n)) ?_ ?_ ?_) ?_)
  . intro k c y k1 k2 ⟨ec,gy,uy⟩
    subst ec
    rw [Nat.min_eq_left (Nat.le_of_lt k2)] at uy
    have kb:k < b.size:=by omega
    have ks:k < (arrOf y).size:=by rw [gy.len];exact kb
    refine wpS_bind (wpS_mono (Q:=fun c y'=>y'=y /\ ∃ l r,c=(none,l,r) /\ l <= k /\ Fits κ y k l l) (wpS_forRange (I:=fun x c y'=>y'=y /\ ∃ l r,c=(none,l,r) /\ l <= r /\ r <= k /\ r - l <= k - x /\ Fits κ y k l r) ?_ ?_ ?_) ?_)
    . intro x c y' _ x2 ⟨ey,l,r,ec,p1,p2,p3,f⟩
      subst ey;subst ec
      dsimp only
      by_cases lr:l >= r
      . rw [if_pos lr]
        obtain rfl:l=r:=by omega
        exact wpS_pure ⟨rfl,l,l,rfl,p2,f⟩
      rw [if_neg lr]
      refine wpS_bind (ask C gy kb (show (l + r) / 2 < b.size by omega) ?_)
      cases t:κ.blt (kx κ y' k) (kx κ y' ((l + r) / 2)) with
      | true=>exact wpS_pure ⟨rfl,l,(l + r) / 2,rfl,by omega,by omega,by omega,f.1,fun i i1 i2=>KeyOrd.klt_of_klt_of_kle t (uy _ _ i1 i2)⟩
      | false=>exact wpS_pure ⟨rfl,(l + r) / 2 + 1,r,rfl,by omega,by omega,by omega,fun i i1=>KeyOrd.kle_trans (uy i ((l + r) / 2) (by omega) (by omega)) t,f.2⟩
    . intro c y' ⟨ey,l,r,ec,p1,p2,p3,f⟩
      obtain rfl:l=r:=by omega
      exact ⟨ey,l,l,ec,p2,f⟩
    . exact ⟨rfl,0,k,rfl,Nat.zero_le k,Nat.le_refl k,Nat.le_refl _,fun i hi=>absurd hi (Nat.not_lt_zero i),fun i i1 i2=>absurd i2 (by omega)⟩
    . intro c y' ⟨ey,l,r,ec,p,f⟩
      subst ey;subst ec
      show wpS _ _ _ _ (moveDown' k l >>= fun _=>pure (ForInStep.yield (none,()))) _ _
      rw [moveDown'_eq]
      refine wpS_bind (wpS_modify (wpS_pure ⟨rfl,gy.put (bubble_perm _ _ _),?_⟩))
      rw [Nat.min_eq_left k2]
      exact uy.insert ks p f
  . intro c y ⟨ec,gy,uy⟩
    rw [show min (max (max m 1) n) n=n by omega] at uy
    exact ⟨ec,gy,uy⟩
  . refine ⟨rfl,g,?_⟩
    rcases Nat.lt_or_ge m 1 with m0 | m0
    . exact .one (by omega)
    . rw [show min (max m 1) n=m by omega];exact u
  . intro c y ⟨ec,gy,uy⟩
    subst ec
    exact wpS_pure (q y gy uy)
noncomputable def Fin' (κ:KeyKind) (b:Array Keyed) (y:SortSt):Prop:=(arrOf y).Perm b /\ failedOf y=none /\ pendingOf y=#[(0,b.size,0)] /\ Up κ y b.size
theorem SB.fin {y:SortSt} (g:SB kd b y) (u:Up κ y b.size):Fin' κ b (setPending y ((pendingOf y).push (0,b.size,0))):=⟨g.pm,g.fl,by show (pendingOf y).push _=_;rw [g.pn];rfl,u⟩
theorem runs (C:Cmp prog w A E s κ kd b) {z:SortSt} (g:SB kd b z) (h2:2 <= b.size) (h64:b.size < 64) {Q:Unit->SortSt->Prop} (q:∀ y,(arrOf y).Perm b->failedOf y=none->Up κ y b.size->Q () y) :
    wpS (model prog w) A E s sortRuns' Q z:=by
  have mr:minRun' b.size b.size 0=b.size:=by
    obtain ⟨f,e⟩:=Nat.exists_eq_add_of_lt (show 0 < b.size by omega)
    have:minRun' (0 + f + 1) b.size 0=b.size:=by rw [minRun'_succ,if_pos h64];rfl
    rw [<-e] at this;exact this
  rw [sortRuns'_eq]
  refine wpS_bind (wpS_get ?_)
  dsimp only
  simp only [g.len,mr]
  refine wpS_bind (wpS_mono (Q:=fun c y=>c=(none,b.size) /\ Fin' κ b y)
    (wpS_forRange (I:=fun x c y=>if x=0 then c=(none,0) /\ SB kd b y else c=(none,b.size) /\ Fin' κ b y) ?_ ?_ (by rw [if_pos rfl];exact ⟨rfl,g⟩)) ?_)
  . intro x c y _ x2 I
    by_cases x0:x=0
    . rw [if_pos x0] at I
      obtain ⟨ec,gy⟩:=I
      subst ec;subst x0
      dsimp only
      rw [if_neg (by omega)]
      simp only [Nat.sub_zero,Nat.min_self,Nat.zero_add]
      have fin:∀ y',SB kd b y'->Up κ y' b.size->(if (1:Nat)=0 then ((none:Option PUnit),b.size)=(none,0) /\ SB kd b (setPending y' ((pendingOf y').push (0,b.size,0))) else ((none:Option PUnit),b.size)=(none,b.size) /\ Fin' κ b (setPending y' ((pendingOf y').push (0,b.size,0)))) :=
        fun y' g' u'=>by rw [if_neg (by omega)];exact ⟨rfl,g'.fin u'⟩
      refine wpS_bind (count C gy (Nat.le_refl _) (by omega) fun m y1 g1 m1 m2 u1=>?_)
      dsimp only
      by_cases lt:m < b.size
      . rw [if_pos lt]
        refine wpS_bind (wpS_lift (wpAny_rule ⟨rfl,wpS_bind (insAll C g1 (Nat.le_refl _) m2 u1 fun y3 g3 u3=>?_)⟩))
        rw [if_neg (by simp)]
        refine wpS_bind (wpS_get ?_)
        rw [show (pendingOf y3).back?=none by rw [g3.pn];rfl]
        exact wpS_bind (wpS_modify (wpS_pure (fin y3 g3 u3)))
      . rw [if_neg lt]
        obtain rfl:m=b.size:=by omega
        refine wpS_bind (wpS_get ?_)
        rw [show (pendingOf y1).back?=none by rw [g1.pn];rfl]
        exact wpS_bind (wpS_modify (wpS_pure (fin y1 g1 u1)))
    . rw [if_neg x0] at I
      obtain ⟨ec,fy⟩:=I
      subst ec
      dsimp only
      rw [if_pos (Nat.le_refl _)]
      exact wpS_pure ⟨rfl,fy⟩
  . intro c y I
    rw [if_neg (by omega)] at I
    exact I
  . intro c y ⟨ec,fy⟩
    subst ec
    dsimp only
    refine wpS_bind (wpS_mono (Q:=fun c y'=>y'=y /\ c=(none,())) (wpS_forRange (I:=fun _ c y'=>y'=y /\ c=(none,())) ?_ (fun _ _ h=>h) ⟨rfl,rfl⟩) ?_)
    . intro x c y' _ _ ⟨e1,e2⟩
      subst e1;subst e2
      refine wpS_bind (wpS_get ?_)
      rw [if_pos (by rw [fy.2.2.1];exact Nat.le_refl 1)]
      exact wpS_pure ⟨rfl,rfl⟩
    . intro c y' ⟨e1,e2⟩
      subst e1;subst e2
      exact wpS_pure (q _ fy.1 fy.2.1 fy.2.2.2)
end
end HT
set_option Elab.async false
set_option linter.all false
set_option maxRecDepth 100000
set_option maxHeartbeats 4000000
namespace HT
open PySem PySem.Spec PyProof.Rows
noncomputable def TupI (h:Heap) (v:Value) (ns:List Int):Prop:=∃ a vs,v=.ref a /\ IsTup h a vs.toArray /\ IntsAre vs ns /\ ns ≠ []
theorem Ba:∀ {vs:List Value}{ns ms:List Int},IntsAre vs ns->IntsAre vs ms->ns=ms
  | _,_,_,.nil,.nil=>rfl
  | _,_,_,.cons n t h,g=>by cases g with | cons _ _ g=>rw [Ba h g]
theorem TupI.inj {h:Heap}{v:Value}{ns ms:List Int} (p:TupI h v ns) (q:TupI h v ms):ns=ms:=by
  obtain ⟨a,vs,rfl,⟨o,e1,_,n,e2⟩,i1,_⟩:=p
  obtain ⟨a',vs',e,⟨o',f1,_,n',f2⟩,i2,_⟩:=q
  cases e
  rw [e1] at f1;cases f1
  rw [e2] at f2
  injection f2 with g _
  have:vs=vs':=by simpa using g
  subst this
  exact Ba i1 i2
theorem AY:∀ a,lexLt a a=false
  | []=>rfl
  | x :: a=>by rw [jW,if_pos rfl];exact AY a
theorem AH:∀ a b c,lexLt a b=true->lexLt b c=true->lexLt a c=true
  | [],[],_,h,_=>by cases h
  | [],_ :: _,[],_,h=>by cases h
  | [],_ :: _,_ :: _,_,_=>rfl
  | _ :: _,[],_,h,_=>by cases h
  | _ :: _,_ :: _,[],_,h=>by cases h
  | x :: a,y :: b,z :: c,h,g=>by
    rw [jW] at *
    by_cases e1:x=y
    . subst e1
      rw [if_pos rfl] at h
      by_cases e2:x=z
      . subst e2;rw [if_pos rfl] at g ⊢;exact AH a b c h g
      . rw [if_neg e2] at g ⊢;exact g
    . rw [if_neg e1] at h
      by_cases e2:y=z
      . subst e2;rw [if_neg e1];exact h
      . rw [if_neg e2] at g
        have h':=of_decide_eq_true h
        have g':=of_decide_eq_true g
        rw [if_neg (by omega)]
        exact decide_eq_true (by omega)
theorem m7:∀ a b,lexLt a b=false->lexLt b a=false->a=b
  | [],[],_,_=>rfl
  | [],_ :: _,h,_=>by cases h
  | _ :: _,[],_,h=>by cases h
  | x :: a,y :: b,h,g=>by
    rw [jW] at *
    by_cases e:x=y
    . subst e;rw [if_pos rfl] at h g;rw [m7 a b h g]
    . rw [if_neg e] at h;rw [if_neg (Ne.symm e)] at g
      have h':=of_decide_eq_false h
      have g':=of_decide_eq_false g
      omega
theorem CC (a b c:List Int) (h:lexLt a c=true):lexLt a b=true \/ lexLt b c=true:=by
  cases e:lexLt a b with
  | true=>exact .inl rfl
  | false =>
    refine .inr ?_
    cases f:lexLt b a with
    | true=>exact AH b a c f h
    | false=>rw [<-m7 a b e f];exact h
open Classical in
noncomputable def tupKey (h:Heap):KeyKind where
  α:=List Int
  blt:=lexLt
  irrefl:=AY
  trans:=AH
  negTrans:=CC
  total:=m7
  keyOf v:=if p:∃ ns,TupI h v ns then some p.choose else none
  dflt:=[]
open Classical in
theorem Ag {h:Heap}{v:Value}{ns:List Int} (p:TupI h v ns):((tupKey h).keyOf v).getD []=ns:=by
  have e:∃ ns,TupI h v ns:=⟨ns,p⟩
  show (if p:∃ ns,TupI h v ns then some p.choose else none).getD []=ns
  rw [dif_pos e]
  exact TupI.inj e.choose_spec p
section
variable {prog : Program} {w : World} {A : Around} {E : Value -> Shared -> Prop} {s : Shared}
theorem FW {x y:Int}{t u:Tok} (k:Bool) {Q:Bool->Shared->Prop} (h:Q (decide (x < y)) s):wpAny (model prog w) A (oneLt' k (.int x t) (.int y u)) Q E s:=by
  cases k with
  | true=>exact oneLt_int h
  | false =>
    rw [oneLt'_eq]
    rw [if_neg (by simp)]
    exact wpAny_bind (show wpAny (model prog w) A (richCompare .Lt (.int x t) (.int y u)) _ E s from (PyProof.Rows.lt_int (wpAny_truthy_bool h):wpAny (model prog w) A (compareOp .Lt (.int x t) (.int y u)) _ E s))
theorem C0 (f:Bool) (x y:Value):keyLt' (tuples' f) x y=(do
    let xs <-Builtin.List.listItems x
    let ys <-Builtin.List.listItems y
    for ((p,q),i) in (xs.toList.zip ys.toList).zipIdx do
      if !(<-eqBool p q) then return <-oneLt' (f && i == 0) p q
    return decide (xs.size < ys.size)):=rfl
theorem FX {f:Bool}{x y:Value}{ns ms:List Int} (hx:TupI s.heap x ns) (hy:TupI s.heap y ms) {Q:Bool->Shared->Prop} (h:Q (lexLt ns ms) s):wpAny (model prog w) A (keyLt' (tuples' f) x y) Q E s:=by
  obtain ⟨a,vs,rfl,⟨o,e1,_,n,e2⟩,i1,_⟩:=hx
  obtain ⟨a',us,rfl,⟨o',f1,_,n',f2⟩,i2,_⟩:=hy
  rw [C0]
  refine wpAny_bind (listItems_at e1 e2 (wpAny_bind (listItems_at f1 f2 ?_)))
  have L:∀ (vs us:List Value) (ns ms:List Int) (i:Nat),IntsAre vs ns->IntsAre us ms->∀ (R:(Option Bool × PUnit)->Shared->Prop),
      (∀ r,(r=(some (lexLt ns ms),PUnit.unit) \/ (r=(none,PUnit.unit) /\ lexLt ns ms=decide (vs.length < us.length)))->R r s) ->
      wpAny (model prog w) A (forIn ((vs.zip us).zipIdx i) ((none,PUnit.unit):Option Bool × PUnit) fun (z:(Value × Value) × Nat) _=>(do
        let z1 <-eqBool z.1.1 z.1.2
        if (!z1)=true then do
          let r <-oneLt' (f && z.2 == 0) z.1.1 z.1.2
          pure (ForInStep.done (some r,PUnit.unit))
        else pure (ForInStep.yield (none,PUnit.unit)))) R E s:=by
    intro vs
    induction vs with
    | nil =>
      intro us ns ms i p q R k
      cases p
      rw [List.zip_nil_left,List.zipIdx_nil,List.forIn_nil]
      refine wpAny_pure (k _ (.inr ⟨rfl,?_⟩))
      cases q with
      | nil=>rfl
      | cons m t q=>simp [oR]
    | cons v vs ih =>
      intro us ns ms i p q R k
      cases p with
      | cons n t p =>
        cases q with
        | nil =>
          rw [List.zip_nil_right,List.zipIdx_nil,List.forIn_nil]
          exact wpAny_pure (k _ (.inr ⟨rfl,by simp [oS]⟩))
        | cons m u q =>
          rw [List.zip_cons_cons,List.zipIdx_cons,List.forIn_cons]
          refine wpAny_bind (wpAny_bind (wpAny_eqBool_int ?_))
          by_cases e:n=m
          . subst e
            rw [if_neg (by simp)]
            refine wpAny_pure ?_
            refine ih _ _ _ (i + 1) p q R fun r hr=>k r ?_
            rw [jW,if_pos rfl]
            rcases hr with hr | ⟨hr,hr2⟩
            . exact .inl hr
            . exact .inr ⟨hr,by rw [hr2];simp⟩
          . rw [if_pos (by simp [e])]
            refine wpAny_bind (FW _ (wpAny_pure (wpAny_pure (k _ (.inl ?_)))))
            rw [jW,if_neg e]
  refine wpAny_bind (L vs us ns ms 0 i1 i2 _ fun r hr=>?_)
  rcases hr with rfl | ⟨rfl,e⟩
  . exact wpAny_pure h
  . refine wpAny_pure ?_
    rw [List.size_toArray,List.size_toArray,<-e]
    exact h
theorem MN {vs:List Value} (H:∀ v ∈ vs,∃ ns,TupI s.heap v ns) (f:Bool):Cmp prog w A E s (tupKey s.heap) (tuples' f) (pairsOf vs):=by
  intro x y mx my Q E' q
  rw [pairsOf_toList] at mx my
  obtain ⟨ns,hx⟩:=H _ (mem_zip_self mx).2
  obtain ⟨ms,hy⟩:=H _ (mem_zip_self my).2
  refine FX hx hy ?_
  have e1:=Ag hx
  have e2:=Ag hy
  change Q (lexLt (((tupKey s.heap).keyOf x.1).getD []) (((tupKey s.heap).keyOf y.1).getD [])) s at q
  rw [e1,e2] at q
  exact q
theorem Js {v:Value}{ns:List Int} (p:TupI s.heap v ns) {Q:Option Value->Shared->Prop} (h:∀ i t,Q (some (.int i t)) s):wpAny (model prog w) A (firstOfTuple' v) Q E s:=by
  obtain ⟨a,vs,rfl,⟨o,e1,e3,n,e2⟩,i1,ne⟩:=p
  show wpAny (model prog w) A (do
    if (<-typeOf (.ref a)) != .type "tuple" then return none
    return (<-Builtin.List.listItems (.ref a))[0]?) Q E s
  refine wpAny_bind (wpAny_typeOf (T:="tuple") ⟨o,e1,e3⟩ ?_)
  rw [if_neg (by decide)]
  refine wpAny_bind (listItems_at e1 e2 (wpAny_pure ?_))
  cases i1 with
  | nil=>exact absurd rfl ne
  | cons i t _=>exact h i t
theorem BL:∀ {vs:List Value},(∀ v ∈ vs,∃ ns,TupI s.heap v ns)->∀ {Q:List (Option Value)->Shared->Prop},(∀ (us:List Value) (is:List Int),us.length=vs.length->IntsAre us is->Q (us.map some) s)->wpAny (model prog w) A (vs.mapM firstOfTuple') Q E s
  | [],_,Q,h=>by rw [List.mapM_nil];exact wpAny_pure (h [] [] rfl .nil)
  | v :: vs,H,Q,h=>by
    obtain ⟨ns,p⟩:=H v (List.mem_cons_self ..)
    rw [List.mapM_cons]
    refine wpAny_bind (Js p fun i t=>wpAny_bind (BL (fun u hu=>H u (List.mem_cons_of_mem _ hu)) fun us is e k=>wpAny_pure (h (.int i t :: us) (i :: is) (by simp [e]) (.cons i t k))))
theorem Lv {vs:List Value} (ne:vs ≠ []) (H:∀ v ∈ vs,∃ ns,TupI s.heap v ns) {Q:SortKind->Shared->Prop} (h:Q (tuples' true) s):wpAny (model prog w) A (keyKind' vs.toArray) Q E s:=by
  rw [keyKind'_eq,List.mapM_toArray]
  refine wpAny_bind (show wpAny (model prog w) A (List.toArray <$> vs.mapM firstOfTuple') _ E s from ?_)
  rw [<-bind_pure_comp]
  refine wpAny_bind (BL H fun us is e k=>wpAny_pure ?_)
  rw [if_pos (by simp)]
  refine wpAny_bind (wpAny_rule ?_)
  have e1:((us.map some).toArray.filterMap id)=us.toArray:=by simp [List.filterMap_map]
  rw [e1,oneTypeOnly'_eq,List.mapM_toArray,mapM_typeOf_ints k]
  cases us with
  | nil=>exact absurd (List.eq_nil_of_length_eq_zero e.symm) ne
  | cons u us =>
    simp only [map_pure,pure_bind]
    rw [show ((u :: us).map fun _=>Value.type "int").toArray[0]?=some (Value.type "int") by simp]
    dsimp only
    rw [if_pos (by simp)]
    exact wpAny_bind (wpAny_pure (wpAny_pure h))
end
end HT
set_option Elab.async false
set_option linter.all false
set_option maxRecDepth 100000
set_option maxHeartbeats 4000000
namespace HT
open PySem PySem.Spec PyProof.Rows
theorem TupI.push {h:Heap}{v:Value}{ns:List Int} (p:TupI h v ns) (o:Obj):TupI (h.push o) v ns:=by
  obtain ⟨a,vs,e,⟨u,e1,e2⟩,k⟩:=p
  exact ⟨a,vs,e,⟨u,Heap.get?_push_of_some _ e1,e2⟩,k⟩
theorem TupI.upd {h:Heap}{v:Value}{ns:List Int} (p:TupI h v ns) {l:Addr}{xs:Array Value}{n:Nat} (hl:h.get? l=some (seqObj "list" xs n)) (f:Obj->Obj):TupI (h.update l f) v ns:=by
  obtain ⟨a,vs,e,⟨u,e1,e2,e3⟩,k⟩:=p
  refine ⟨a,vs,e,⟨u,?_,e2,e3⟩,k⟩
  by_cases q:l=a
  . subst q
    rw [hl] at e1;cases e1
    injection (show Value.type "list"=Value.type "tuple" from e2) with e4
    exact absurd e4 (by decide)
  . rw [Heap.get?_update_ne _ _ _ _ (Ne.symm q)]
    exact e1
section
variable {prog : Program} {w : World} {A : Around} {E : Value -> Shared -> Prop} {s : Shared}
noncomputable def InOrder (h:Heap) (vs:List Value):Prop:=vs.Pairwise fun x y=>∀ ns ms,TupI h x ns->TupI h y ms->lexLt ms ns=false
theorem Lw {h h':Heap}{vs:List Value} (H:∀ v ∈ vs,∃ ns,TupI h v ns) (up:∀ v ns,TupI h v ns->TupI h' v ns) {z:SortSt} (pm:(arrOf z).Perm (pairsOf vs)) (u:Up (tupKey h') z (pairsOf vs).size) :
    ((arrOf z).map (·.2)).toList.Perm vs /\ InOrder h ((arrOf z).map (·.2)).toList:=by
  have hl:(arrOf z).toList.Perm (vs.zip vs):=by rw [<-pairsOf_toList];exact Array.perm_iff_toList_perm.mp pm
  have me:∀ p ∈ (arrOf z).toList,p.1=p.2 /\ p.1 ∈ vs:=fun p hp=>mem_zip_self (hl.mem_iff.mp hp)
  rw [Array.toList_map]
  constructor
  . have:=hl.map (·.2)
    rw [List.map_snd_zip (Nat.le_refl _)] at this
    exact this
  . unfold InOrder
    rw [List.pairwise_map,List.pairwise_iff_getElem]
    intro i j hi hj hij ns ms p q
    have hi':i < (arrOf z).size:=by simpa using hi
    have hj':j < (arrOf z).size:=by simpa using hj
    have g:=u i j (Nat.le_of_lt hij) (by rw [<-pm.size_eq];exact hj')
    have ki:kx (tupKey h') z i=ns:=by
      simp only [kx,KK,getElem?_pos (arrOf z) i hi']
      rw [Array.getElem_toList,<-(me _ (by simp)).1] at p
      exact Ag (up _ _ p)
    have kj:kx (tupKey h') z j=ms:=by
      simp only [kx,KK,getElem?_pos (arrOf z) j hj']
      rw [Array.getElem_toList,<-(me _ (by simp)).1] at q
      exact Ag (up _ _ q)
    rw [ki,kj] at g
    exact g
theorem Jt {a:Addr}{vs:List Value}{n:Nat}{P:Fin->Shared->Prop} (ho:s.heap.get? a=some (seqObj "list" vs.toArray n)) (H:∀ v ∈ vs,∃ ns,TupI s.heap v ns) (h64:vs.length < 64)
    (h:∀ out:Array Value,out.toList.Perm vs->InOrder s.heap out.toList->P (.done (.ret .none)) { s with heap:=sortedHeap s.heap a vs out }):wpAny (model prog w) A (Builtin.«list.sort» ⟨[.ref a],[]⟩) P E s:=by
  rw [list_sort_plain]
  have la:a < s.heap.objs.size:=Heap.lt_size ho
  refine wpAny_bind (listItems_at ho rfl (wpAny_bind (listUpdate_at ho rfl ?_)))
  obtain ⟨k,ho1⟩:∃ k,(s.heap.update a (Obj.mapSeq fun _=>#[])).get? a=some (seqObj "list" #[] k):=⟨_,get?_update_seq ho (fun _=>#[])⟩
  refine wpAny_bind (seqEpoch_at ho1 rfl (wpAny_bind (wpAny_newTuple (wpAny_bind (wpAny_newList (wpAny_holding ?_))))))
  generalize eh:((s.heap.update a (Obj.mapSeq fun _=>#[])).push (seqObj "tuple" vs.toArray 0)).push (seqObj "list" #[] 0)=h6
  have up:∀ v ns,TupI s.heap v ns->TupI h6 v ns:=fun v ns p=>eh ▸ ((p.upd ho _).push _).push _
  have ho6:h6.get? a=some (seqObj "list" #[] k):=by
    rw [<-eh]
    exact Heap.get?_push_of_some _ (Heap.get?_push_of_some _ ho1)
  have fin:∀ out:Array Value,out.toList.Perm vs->InOrder s.heap out.toList->P (.done (.ret .none)) { s with heap:=h6.update a (Obj.mapSeq fun _=>out) }:=fun out p q=>by
    rw [<-eh];exact h out p q
  show wpAny (model prog w) A _ P E { s with heap:=h6 }
  dsimp only
  have big:vs.length <= sizeLine + 1:=by rw [sizeLine_eq];omega
  by_cases h2:vs.toArray.size < 2
  . rw [if_pos h2,if_pos h2]
    refine wpAny_bind (wpAny_pure ?_)
    rw [StateT.run_pure]
    refine wpAny_bind (wpAny_pure ?_)
    dsimp only
    have em:(Array.map (fun x=>x.2) (vs.toArray.zip vs.toArray))=vs.toArray:=by
      apply Array.toList_inj.mp
      simp [List.map_snd_zip]
    rw [em]
    refine wpAny_bind (seqEpoch_at ho6 rfl (wpAny_bind (listUpdate_at ho6 rfl ?_ (hsz2:=by rw [List.size_toArray];exact big))))
    rw [bne_self_eq_false]
    refine wpAny_pure (fin vs.toArray (List.Perm.refl _) ?_)
    rw [List.size_toArray] at h2
    unfold InOrder
    match vs,h2 with
    | [],_=>exact List.Pairwise.nil
    | [x],_=>exact List.pairwise_singleton _ _
  . rw [if_neg h2,if_neg h2]
    rw [List.size_toArray] at h2
    have ne:vs ≠ []:=fun e=>by rw [e] at h2;simp at h2
    have H6:∀ v ∈ vs,∃ ns,TupI h6 v ns:=fun v m=>let ⟨ns,p⟩:=H v m;⟨ns,up v ns p⟩
    refine wpAny_bind (Lv (s:={ s with heap:=h6 }) ne H6 ?_)
    refine wpAny_bind (wpAny_mono (runs (s:={ s with heap:=h6 }) (κ:=tupKey h6) (kd:=tuples' true) (b:=pairsOf vs) (z:=SortSt.mk' (tuples' true) (vs.toArray.zip vs.toArray) #[] 7 none)
      (Q:=fun _ y=>(arrOf y).Perm (pairsOf vs) /\ failedOf y=none /\ Up (tupKey h6) y (pairsOf vs).size) (MN (s:={ s with heap:=h6 }) H6 true) ⟨Array.Perm.refl _,rfl,rfl,rfl⟩ (by rw [pairsOf_size];omega) (by rw [pairsOf_size];exact h64) fun y a1 a2 a3=>⟨a1,a2,a3⟩) ?_ fun _ _ e=>e)
    rintro ⟨⟨⟩,y⟩ s' ⟨es,pm,fl,u⟩
    subst es
    dsimp only
    obtain ⟨o1,o2⟩:=Lw H up pm u
    refine wpAny_bind (seqEpoch_at ho6 rfl (wpAny_bind (listUpdate_at ho6 rfl ?_ (hsz2:=by rw [Array.size_map,pm.size_eq,pairsOf_size];exact big))))
    rw [fl,bne_self_eq_false]
    exact wpAny_pure (fin _ o1 o2)
theorem DX {l:Addr}{vs:List Value}{Q:Value->Shared->Prop} (hl:s.heap.IsList l vs.toArray) (H:∀ v ∈ vs,∃ ns,TupI s.heap v ns) (h64:vs.length < 64)
    (h:∀ out:Array Value,out.toList.Perm vs->InOrder s.heap out.toList->Q (.ref (s.heap.objs.size + 1)) { s with heap:=sortedAll s.heap vs out }):wpAny (model prog w) A (call (.builtin "sorted") [.ref l]) Q E s:=by
  refine Calls.call_function_entry kind_sorted plain_sorted entry_sorted (args_sorted1 _) ?_
  unfold Builtin.«sorted»
  refine wpAny_bind (m:=checkCount "sorted" 1 1 _) (wpAny_pure (wpAny_bind (collect_list hl (wpAny_bind (wpAny_newList ?_)))))
  generalize eg:(s.heap.push (seqObj "list" #[] 0)).update s.heap.objs.size (Obj.mapSeq (· ++ vs.toArray))=g
  have sg:g.objs.size=s.heap.objs.size + 1:=by rw [<-eg,Heap.size_update,size_push']
  have up:∀ v ns,TupI s.heap v ns->TupI (g.push (seqObj "list" vs.toArray 0)) v ns:=fun v ns p=>by
    rw [<-eg];exact ((p.push _).upd (Heap.get?_push_size _ rfl) _).push _
  have dn:∀ v ns,v ∈ vs->TupI (g.push (seqObj "list" vs.toArray 0)) v ns->TupI s.heap v ns:=fun v ns m p=>by
    obtain ⟨ms,q⟩:=H v m
    rw [TupI.inj p (up v ms q)];exact q
  have gl:(g.push (seqObj "list" vs.toArray 0)).get? (s.heap.objs.size + 1)=some (seqObj "list" vs.toArray 0):=by rw [<-sg];exact Heap.get?_push_size _ rfl
  show wpAny _ _ _ _ _ { s with heap:=g.push (seqObj "list" vs.toArray 0) }
  rw [sg]
  refine wpAny_bind (wpAny_holding (wpAny_call_entry slot_list_sort ⟨_,gl,rfl⟩ entry_list_sort (Jt (s:={ s with heap:=g.push (seqObj "list" vs.toArray 0) }) gl (fun v m=>let ⟨ns,p⟩:=H v m;⟨ns,up v ns p⟩) h64 fun out o1 o2=>⟨_,rfl,wpAny_pure ⟨_,rfl,?_⟩⟩) (args_list_sort _)))
  have:=h out o1 (List.Pairwise.imp (fun {x y} r ns ms p q=>r ns ms (up _ _ p) (up _ _ q)) o2)
  unfold sortedAll at this
  rw [eg] at this
  exact this
end
end HT
set_option Elab.async false
set_option linter.all false
set_option maxRecDepth 100000
set_option maxHeartbeats 4000000
namespace L2.DL
open PySem PySem.Spec PyProof.Rows
section
variable {X : Cx} {T : Fr} {Z : Xs}
noncomputable def rSortT (K:PySem.W.Frag) (vs:List V) (H:Hp) (Q:VK):Prop:=∃ (p:Addr) (rs:List Addr) (key:Addr->List Int),vs=[.ref p] /\ SqL K H p (rs.map V.ref) /\ (∀ r ∈ rs,H r=some (.tup ((key r).map V.int)) /\ key r ≠ []) /\ rs.length < 64 /\
  ∀ (l:Addr) (rs':List Addr),H l=none->rs'.Perm rs->rs'.Pairwise (fun a b=>HT.lexLt (key b) (key a)=false)->Q (.ref l) (upd H l (.lst (rs'.map V.ref)))
theorem DY:∀ {rs:List Addr}{us:List Value},Vals (rs.map V.ref) us->us=rs.map Value.ref
  | [],_,.nil=>rfl
  | r :: rs,_,.cons q t=>by
    cases q
    rw [DY t];rfl
noncomputable def unref:Value->Addr
  | .ref a=>a
  | _=>0
theorem Ju {us:List Value}{rs:List Addr} (p:us.Perm (rs.map Value.ref)):∃ rs':List Addr,us=rs'.map Value.ref /\ rs'.Perm rs:=by
  refine ⟨us.map unref,?_,?_⟩
  . rw [List.map_map]
    refine (List.map_id us).symm.trans (List.map_congr_left fun u hu=>?_)
    obtain ⟨r,_,rfl⟩:=List.mem_map.mp (p.mem_iff.mp hu)
    rfl
  . have:=p.map unref
    rw [List.map_map] at this
    exact this.trans (by rw [show (unref ∘ Value.ref)=id from rfl,List.map_id])
theorem CD:∀ (rs:List Addr),Vals (rs.map V.ref) (rs.map Value.ref)
  | []=>.nil
  | r :: rs=>.cons rfl (CD rs)
theorem FY:CallR X (.builtin "sorted") (rSortT X.K):=by
  intro pins s σ H xs us Q I rv h
  obtain ⟨p,rs,key,rfl,hp,hk,h64,q⟩:=h
  obtain ⟨u,rfl,ru⟩:=Vals.one rv
  cases ru
  obtain ⟨its,r1,p1,z1⟩:=I.list hp
  have ei:=DY r1
  subst ei
  have tup:∀ r ∈ rs,HT.TupI s.heap (.ref r) (key r):=fun r m=>by
    obtain ⟨ys,v1,v2,_⟩:=I.tuple (.of (hk r m).1)
    exact ⟨r,ys,rfl,v2,jw v1,(hk r m).2⟩
  refine HT.DX p1.isList (fun v m=>?_) (by rw [List.length_map];exact h64) fun out o1 o2=>?_
  . obtain ⟨r,mr,rfl⟩:=List.mem_map.mp m
    exact ⟨_,tup r mr⟩
  obtain ⟨rs',e1,e2⟩:=Ju o1
  obtain ⟨k,he⟩:=sortedAll_at s.heap (rs.map Value.ref) out
  have hf:H (s.heap.objs.size + 1)=none:=I.hok.fresh (Nat.le_succ _)
  have ll:(rs'.map V.ref).length <= sizeLine:=by
    rw [List.length_map,e2.length_eq];exact Nat.le_trans (Nat.le_of_lt h64) (by decide)
  have ord:rs'.Pairwise (fun a b=>HT.lexLt (key b) (key a)=false):=by
    unfold HT.InOrder at o2
    rw [e1,List.pairwise_map] at o2
    refine List.Pairwise.imp_of_mem (fun {a b} ma mb r=>?_) o2
    exact r _ _ (tup a (e2.mem_iff.mp ma)) (tup b (e2.mem_iff.mp mb))
  refine ⟨.ref (s.heap.objs.size + 1),_,I.laid (t':=s.toks) (o:=.lst (rs'.map V.ref)) (fun b ob q=>sortedAll_old q) (Nat.le_succ _) ?_,rfl,q _ rs' hf e2 ord⟩
  exact ⟨ll,out.toList,k,e1 ▸ CD rs',he⟩
noncomputable def tupsOf:List D->Option (List (List Int))
  | []=>some []
  | .tup t :: l=>(intsOf t).bind fun ns=>if ns.isEmpty then none else (tupsOf l).map fun r=>ns :: r
  | _=>none
noncomputable def sortT (ns:List (List Int)):List (List Int):=ns.mergeSort fun a b=>!HT.lexLt b a
theorem FZ (ns:List (List Int)):(sortT ns).Perm ns:=List.mergeSort_perm ns _
theorem AI (ns:List (List Int)):(sortT ns).Pairwise (fun a b=>HT.lexLt b a=false):=by
  have h:=List.pairwise_mergeSort (le:=fun a b:List Int=>!HT.lexLt b a) (fun a b c h1 h2=>by
    simp only [Bool.not_eq_true'] at *
    cases e:HT.lexLt c a with
    | false=>rfl
    | true=>rcases HT.CC c b a e with q | q <;> simp_all) (fun a b=>by
    cases e:HT.lexLt b a with
    | false=>simp
    | true =>
      cases f:HT.lexLt a b with
      | false=>simp
      | true=>have:=HT.AH a b a f e;rw [HT.AY] at this;cases this) ns
  exact h.imp fun q=>by simpa using q
theorem F6 {a b:List (List Int)} (p:a.Perm b) (ha:a.Pairwise (fun a b=>HT.lexLt b a=false)) (hb:b.Pairwise (fun a b=>HT.lexLt b a=false)):a=b :=
  p.eq_of_pairwise (fun x y _ _ h1 h2=>HT.m7 x y h2 h1) ha hb
noncomputable def dTups (ns:List (List Int)):List D:=ns.map fun t=>D.tup (t.map D.int)
noncomputable def sortA:List D->Option Res:=fun xs=>match sortD xs with
  | some r=>some r
  | none=>match xs with
    | [.lst l]=>(tupsOf l).bind fun ns=>if ns.length < 64 then some (.lst (dTups (sortT ns))) else none
    | _=>none
noncomputable def vKey (F:Hp) (a:Addr):List Int:=match F a with
  | some (.tup vs)=>vs.filterMap fun v=>match v with | .int i=>some i | _=>none
  | _=>[]
theorem MO {F:Hp}{a:Addr}{ns:List Int} (h:F a=some (.tup (ns.map V.int))):vKey F a=ns:=by
  simp only [vKey,h,List.filterMap_map]
  exact (List.filterMap_eq_map (f:=id) ▸ List.map_id ns:List.filterMap (some ∘ id) ns=ns)
theorem DZ {F:Hp}:∀ {l:List D}{vs:List V}{ns:List (List Int)},DenL F l vs->tupsOf l=some ns->∃ rs:List Addr,vs=rs.map V.ref /\ ns=rs.map (vKey F) /\ ∀ r ∈ rs,F r=some (.tup ((vKey F r).map V.int)) /\ vKey F r ≠ []
  | [],vs,ns,h,e=>by
    cases e
    exact ⟨[],h,rfl,fun r m=>by cases m⟩
  | .tup t :: l,vs,ns,h,e=>by
    obtain ⟨v,us,rfl,⟨a,ws,rfl,f1,f2⟩,h2⟩:=h
    simp only [tupsOf] at e
    cases e1:intsOf t with
    | none=>rw [e1] at e;cases e
    | some ms =>
      rw [e1] at e
      simp only [Option.bind_some] at e
      split at e
      . cases e
      rename_i ne
      cases e2:tupsOf l with
      | none=>rw [e2] at e;cases e
      | some ks =>
        rw [e2] at e
        cases e
        obtain ⟨rs,q1,q2,q3⟩:=DZ h2 e2
        have fa:=f2.ints e1
        subst fa
        have ka:=MO f1
        refine ⟨a :: rs,by rw [q1];rfl,by rw [q2,List.map_cons,ka],fun r m=>?_⟩
        rcases List.mem_cons.mp m with rfl | m
        . rw [ka];exact ⟨f1,fun z=>ne (by rw [z];rfl)⟩
        . exact q3 r m
  | .non :: _,_,_,_,e=>by cases e
  | .bl _ :: _,_,_,_,e=>by cases e
  | .int _ :: _,_,_,_,e=>by cases e
  | .str _ :: _,_,_,_,e=>by cases e
  | .lst _ :: _,_,_,_,e=>by cases e
  | .dic _ :: _,_,_,_,e=>by cases e
theorem Fa {F:Hp}:∀ (rs:List Addr),(∀ r ∈ rs,F r=some (.tup ((vKey F r).map V.int)))->DenL F (dTups (rs.map (vKey F))) (rs.map V.ref)
  | [],_=>rfl
  | r :: rs,h=>.cons ⟨r,_,rfl,h r (List.mem_cons_self ..),AG _⟩ (Fa rs fun q m=>h q (List.mem_cons_of_mem _ m))
theorem BM:CallR X (.builtin "sorted") (fun vs H Q=>rSort X.K vs H Q \/ rSortT X.K vs H Q):=by
  intro pins s σ H xs us Q I rv h
  rcases h with h | h
  . exact Jo pins s σ H xs us Q I rv h
  . exact FY pins s σ H xs us Q I rv h
theorem okSortA {K:PySem.W.Frag}:OkN (fun vs H Q=>rSort K vs H Q \/ rSortT K vs H Q) sortA:=by
  intro F H xs vs Q s sub rx e k
  unfold sortA at e
  cases er:sortD xs with
  | some r =>
    rw [er] at e
    cases e
    exact .inl (okSort F H xs vs Q s sub rx er k)
  | none =>
    rw [er] at e
    dsimp only at e
    clear er
    split at e
    . rename_i l
      obtain ⟨v,t,rfl,⟨a,us,rfl,h1,h2⟩,rt⟩:=rx
      cases (show t=[] from rt)
      cases e1:tupsOf l with
      | none=>rw [e1] at e;cases e
      | some ns =>
        rw [e1] at e
        simp only [Option.bind_some] at e
        split at e
        . rename_i h64
          cases e
          obtain ⟨rs,q1,q2,q3⟩:=DZ h2 e1
          subst q1
          refine .inr ⟨a,rs,vKey F,rfl,.of h1,fun r m=>⟨sub _ _ (q3 r m).1,(q3 r m).2⟩,by rw [q2,List.length_map] at h64;exact h64,fun l rs' hl pm ord=>k _ _ ⟨l,_,rfl,hl,rfl,?_⟩⟩
          have:rs'.map (vKey F)=sortT ns:=F6 ((pm.map (vKey F)).trans (by rw [<-q2];exact (FZ ns).symm)) (List.pairwise_map.mpr ord) (AI ns)
          rw [<-this]
          exact Fa rs' fun r m=>(q3 r (pm.mem_iff.mp m)).1
        . cases e
    . cases e
end
end L2.DL
set_option Elab.async false
set_option linter.all false
set_option maxRecDepth 100000
set_option maxHeartbeats 4000000
namespace L2
open PySem PySem.Spec PyProof.Rows
section
variable {X : Cx}
end
end L2
namespace L2.DL
open PySem PySem.Spec PyProof.Rows
section
variable {X : Cx} {T : Fr} {Z : Xs} {N : List Str} {src : List (Option Nat)} {elt tg iter : Expr} {ifs : List Expr} {scope : Scope} {pos pos' spos : Pos} {mi : DE (List W)} {g : DG} {tf : DE Bool} {te : DE W}
end
end L2.DL
namespace L2.DL
open PySem PySem.Spec PyProof.Rows
noncomputable def nst:Expr->Bool
  | .Starred _ _=>false
  | _=>true
noncomputable def nsts:List Expr->Bool
  | []=>true
  | e :: es=>nst e && nsts es
theorem iA {e:Expr} (h:nst e=true) (es:List Expr) (env:Env):starEach (e :: es) env=(false,eval e env) :: starEach es env:=by
  cases e <;> first | rfl | cases h
theorem m8 {env:Env}{pos:Pos}:∀ {es:List Expr},nsts es=true->(backTo pos (starEach es env)).any (·.1)=false
  | [],_=>rfl
  | e :: es,h=>by
    have h':(nst e && nsts es)=true:=h
    rw [Bool.and_eq_true] at h'
    rw [iA h'.1]
    show (false || (backTo pos (starEach es env)).any (·.1))=false
    rw [m8 h'.2]
    rfl
theorem jC {e:Expr}{es:List Expr} (h:nsts (e :: es)=true):nst e=true /\ nsts es=true:=by
  have h':(nst e && nsts es)=true:=h
  rwa [Bool.and_eq_true] at h'
theorem Bb {e:Expr} (h:nst e=true) (es:List Expr) (env:Env):assignEach (e :: es) env=(false,assign e env) :: assignEach es env:=by
  cases e <;> first | rfl | cases h
theorem At {env:Env}:∀ {es:List Expr},nsts es=true->(assignEach es env).length=es.length /\ (assignEach es env).findIdx? (·.1)=none
  | [],_=>⟨rfl,rfl⟩
  | e :: es,h=>by
    obtain ⟨h1,h2⟩:=jC h
    obtain ⟨a,b⟩:=At (env:=env) h2
    rw [Bb h1]
    exact ⟨by rw [List.length_cons,List.length_cons,a],by rw [List.findIdx?_cons,b];rfl⟩
section
variable {X : Cx} {T : Fr} {Z : Xs} {a b c e : Expr} {es : List Expr} {ma mb mc : DE W} {pos p p1 : Pos} {k k' nn : Nat} {x : Str} {ps : List Str} {fn : List W -> List Bx -> O W} {m : DE (List W)}
theorem fe (ha:PD X T Z e ma) (hr:PDA X T Z es m) (hn:nst e=true:=by rfl):PDA X T Z (e :: es) (fc ma m):=Lh ha hr (iA hn es X.env)
theorem iB {id:String}{q:List V->Hp->VK->Prop}{g:List D->Option Res} (bo:Bool) (hc:CallR X (.builtin id) q) (hk:OkN q g) (hg:Gl X x) (hm:X.mg x=none) (hv:bootBuiltins x=some (.builtin id)) (ha:PDA X T Z (e :: es) m)
    (hns:nsts (e :: es)=true:=by rfl) (hn:x ≠ "__name__":=by decide) (hdb:(x == ("__debug__":Str))=false:=by decide):PD X T Z (.Call (.Name x p) (e :: es) [] pos) (dN bo g m) :=
  Lk bo hc hk hg hm hv ha hn hdb (iA (jC hns).1 es X.env) (m8 (jC hns).2)
theorem oA {id:String}{q:List V->Hp->VK->Prop}{g:List D->Option Res} (bo:Bool) (hc:CallR X (.type id) q) (hk:OkN q g) (hg:Gl X x) (hm:X.mg x=none) (hv:bootBuiltins x=some (.type id)) (ha:PDA X T Z (e :: es) m)
    (hns:nsts (e :: es)=true:=by rfl) (hn:x ≠ "__name__":=by decide) (hdb:(x == ("__debug__":Str))=false:=by decide):PD X T Z (.Call (.Name x p) (e :: es) [] pos) (dN bo g m) :=
  Jl bo hc hk hg hm hv ha hn hdb (iA (jC hns).1 es X.env) (m8 (jC hns).2)
theorem fI (h:Has X.prog X.w X.K X.mg X.base Z.cl k x ps fn) (hr:Room k' X.A) (hk:k <= k') (hg:Gl X x) (hx:Passes (CXr X.prog X.w) X Z.E) (ha:PDA X T Z (e :: es) m)
    (hns:nsts (e :: es)=true:=by rfl) (hn:ps.length=nn:=by rfl) (hdb:(x == ("__debug__":Str))=false:=by decide):PD X T Z (.Call (.Name x p) (e :: es) [] pos) (fv fn nn m) :=
  Oa h hr hk hg hx ha hdb (iA (jC hns).1 es X.env) (m8 (jC hns).2) hn
theorem AJ {n:String} (hT:Tys X.K n) (hg:Gl X "isinstance") (hm:X.mg "isinstance"=none) (hg2:Gl X x) (hm2:X.mg x=none) (hv:bootBuiltins x=some (.type n)) (ha:PD X T Z a ma) (hs:nst a=true:=by rfl)
    (hn:x ≠ "__name__":=by decide) (hdb:(x == ("__debug__":Str))=false:=by decide):PD X T Z (.Call (.Name "isinstance" p) [a,.Name x p1] [] pos) (jL n ma) :=
  MD hT hg hm hg2 hm2 hv ha hn hdb (iA hs _ X.env) (iA rfl _ X.env) (m8 rfl)
theorem iO {g:DG}{q:DGs} (h1:PGD X T e g) (h2:PGDs X T es q) (hn:nst e=true:=by rfl):PGDs X T (e :: es) (fR g q):=Jm h1 h2 (by rw [Bb hn];rfl)
theorem Bc {q:DGs}{i:Nat} (hc:X.calm=true) (h:PGDs X T es q) (hns:nsts es=true:=by rfl) (hn:es.length=nn:=by rfl):PGD X T (.Tuple es i pos) (iS nn q) :=
  MB hc h ((At hns).1.trans hn) (At hns).2
end
end L2.DL
set_option Elab.async false
set_option linter.all false
set_option maxRecDepth 100000
set_option maxHeartbeats 4000000
namespace L2.DL
open PySem PySem.Spec PyProof.Rows PySem.W
noncomputable def exNames:List Str:=["NoHouse", "NoOuts", "NoRoom", "NoHour", "NoPages", "NoLot", "NoAsks", "NoNumber", "NoMoves", "NoEach", "NoOrder", "NoPage", "NoOut", "Twice", "Missing", "TooMany", "NoDeed"]
noncomputable def exWords:List Str:=["house", "outs", "room", "hour", "pages", "lot", "asks", "number", "moves", "each", "order", "page", "out", "twice", "missing", "many", "deed"]
noncomputable def wordOf (i:Nat):Str:=exWords.getD i ""
structure ExT (K:Frag) (mg:Str->Option Value) (R:Addr) (c:Nat->Addr):Prop where
  m:∀ i x,exNames[i]?=some x->mg x=some (.ref (c i))
  mR:mg "RimeError"=some (.ref R)
  inst:mg "isinstance"=none
  verr:mg "ValueError"=none
  ex:∀ i,i < 17->excIn K (c i) vErr "ValueError.__new__"=true
  ek:∀ i,i < 17->ExcK K (c i)
  kt:∀ i j,i < 17->j < 17->kitOne K (.ref (c i)) (.ref (c j))=some (decide (i=j))
  kv:∀ i,i < 17->kitOne K (.ref (c i)) (.type "ValueError")=some true
  kr:∀ i,i < 17->kitCls K (.ref (c i)) (.ref R)=some true
  rb:mroIn K R (.type "BaseException")=some true
noncomputable def spWord (c:Nat->Addr):Sp:=fun vs H Q _=>∃ (a:Addr) (i:Nat),vs=[.ref a] /\ i < 17 /\ H a=some (.ext (Ex1 a (c i))) /\ ∀ H',Same H H'->Q (.str (wordOf i)) H'
noncomputable def HasW (P:Program) (w:World) (K:Frag) (mg:Str->Option Value) (base:Heap) (cl:Nat->Addr):Prop :=
  ∃ (f:Addr) (fd:FuncData),FnOkH P w K mg base CX0 1 f fd ["_law_e"] (spWord cl) /\ mg "_law_word"=some (.ref f) /\ keepIn K (.ref f)=true /\ Binds K fd ["_law_e"] []
section
variable {X : Cx} {T : Fr} {Z : Xs} {a b e : Expr} {es : List Expr} {ma mb mc : DE W} {pos p np cpos rp hpos : Pos} {st : Stmt} {body : List Stmt} {m k : DSt} {x n : Str} {c i j : Nat} {R : Addr}
noncomputable def sRaise (c:Nat) (m:DE W):DSt:=fun env bx=>bindS (m env bx) fun _ bx1=>.exc c bx1
theorem Ah (c:Nat) (E:ExT X.K X.mg R Z.cl) (hc:X.calm=true) (l:Lands X Z.E) (hg:Gl X x) (hx:exNames[c]?=some x) (he:PD X T Z e ma) (hi:c < 17:=by decide) (hns:nsts [e]=true:=by rfl) (hd:(x == ("__debug__":Str))=false:=by decide) :
    PSD X T Z (.Raise (some (.Call (.Name x np) [e] [] cpos)) none pos) (sRaise c ma) :=
  PS.imp (Ld hc l hg (E.m c x hx) (E.ex c hi) he (iA (jC hns).1 [] X.env) hd) fun D σ H ⟨F,r,env,bx,Rr,h⟩ =>
    ⟨F,r,env,bx,Rr,End.bindS h fun w bx1 F1 r1 v H1 g1 R1 d1 h1=>⟨rfl,h1 F1 r1 H1 (.refl F1 r1) R1.drop⟩⟩
theorem Rel.same {F:Hp}{r:List Addr}{H H2:Hp}{bx:List Bx} (Rr:Rel T F r [] H [] bx) (s:Same H H2):Rel T F r [] H2 [] bx :=
  ⟨fun a u h=>s _ _ (Rr.fh a u h),fun i w e=>by simp at e,Rr.len,Rr.nd,fun n c a e1 e2=>by
    have:=Rr.box n c a e1 e2
    cases c with
    | lst l=>obtain ⟨h1,vs,h2,h3⟩:=this;exact ⟨h1,vs,s _ _ h2,h3⟩
    | dic l=>obtain ⟨h1,vs,h2,h3⟩:=this;exact ⟨h1,vs,s _ _ h2,h3⟩
    | dead=>obtain ⟨u,h2⟩:=this;exact ⟨u,s _ _ h2⟩,fun a u h hn=>s _ _ (Rr.keep a u h hn),Rr.new,Rr.n0,Nat.le_refl _,Rr.fs⟩
noncomputable def sTry (m:DSt):DSt:=fun env bx=>match m env bx with
  | .exc c bx1=>if c < 17 then .rt (.d (.str (wordOf c))) bx1 else .bad
  | o=>o
theorem MP (i:Nat) {L:Addr}{k':Nat}{wpos:Pos} (E:ExT X.K X.mg R Z.cl) (W:HasW X.prog X.w X.K X.mg X.base Z.cl) (hr:Room k' X.A) (hk':1 <= k') (hst:X.stack=X.env :: X.outer) (hfr:X.env.frame=some L) (hfl:L=X.env.locals) (hg:Gl X "RimeError") (hgw:Gl X "_law_word")
    (hN:X.N.Nodup) (hi:X.N[i]?=some n) (hn:X.env.kindOf n=some .local) (hb:∀ pn E,PSDs (X.tri pn E) T ⟨E,Z.cl⟩ body m)
    (hv:Vis X.env.scope n:=by first | exact Or.inl rfl | exact Or.inr (Or.inl rfl) | exact Or.inr (Or.inr rfl)) (hd:(n == ("__debug__":Str))=false:=by decide) (hcd:(n == ("__classdict__":Str))=false:=by decide) :
    PSD X T Z (.Try body [.ExceptHandler (some (.Name "RimeError" rp)) (some n) [.Return (some (.Call (.Name "_law_word" np) [.Name n cpos] [] wpos)) p] hpos] [] [] pos) (sTry m):=by
  intro pins s σ H D I ⟨F,r,env,bx,Rr,h⟩
  obtain ⟨fW,fdW,gW,mW,kW,bW⟩:=W
  refine NS (i:=i) (E:=fun Cv _ H'=>∃ c bx' F' r',m env bx=.exc c bx' /\ Cv=.ref (Z.cl c) /\ Grow F r F' r' /\ Rel T F' r' [] H' [] bx') hst hfr hfl hg E.mR E.rb hN hi hn (fun pn=>hb pn _)
    (fun pn ea=>Bl (CL (Le (X:=X.hand pn ea) gW ((hr.mono hk').h.mark) hgw mW kW bW .nil pass0 (fE (FC (i:=i) hi hv hd hcd) gu rfl)))) (by decide) pins s σ H D I ⟨?_,?_⟩
  . refine ⟨F,r,env,bx,Rr,?_⟩
    unfold sTry at h
    cases e:m env bx with
    | exc c bx1=>exact fun F' r' H' g R'=>⟨c,bx1,F',r',rfl,rfl,g,R'⟩
    | nx env1 bx1=>rw [e] at h;exact h
    | rt w bx1=>rw [e] at h;exact h
    | bk env1 bx1=>rw [e] at h;exact h
    | ct env1 bx1=>rw [e] at h;exact h
    | bad=>rw [e] at h;exact h
  . rintro σ' ea C H' hl ⟨c,bx1,F',r',e,eC,g,R'⟩ hea
    have eC':C=Z.cl c:=Value.ref.inj eC
    subst eC'
    unfold sTry at h
    rw [e] at h
    simp only at h
    split at h
    . rename_i hc
      refine ⟨E.kr c hc,_,List.getElem?_set_self (by rw [hl];exact (List.getElem?_eq_some_iff.mp hi).1),ea,c,rfl,hc,fX,fun H2 s2=>?_⟩
      exact h F' r' (.str (wordOf c)) H2 g (R'.same fun b o z=>s2 b o (by rw [fM (fZ z hea)];exact z)) rfl
    . exact h.elim
end
section
variable {P : Program} {w : World} {K : Frag} {mg : Str -> Option Value} {base : Heap} {cl : Nat -> Addr} {k : Nat} {x : Str} {st : Stmt} {N ps : List Str} {m : DSt} {nn kk : Nat}
theorem AK (d:Def K mg x st ps) (S:FnScope N ps (fq st))
    (hbody:∀ (f:Addr) (cdv:Value) (A:Around) (outer:List Env) (s:Shared) (H:Hp) (E:XK) (n:Nat) (F0:Hp),Room k (A.deeper (envOfC x (fq st) s.heap.objs.size f cdv)) ->
      PSDs (cxOf (CXr P w) P w K mg base N x (fq st) f cdv A outer s H E) ⟨H,n,F0⟩ ⟨E,cl⟩ (fH st) m) (hn:N.length=nn:=by rfl) (hkk:k + 1=kk:=by rfl):Has P w K mg base cl kk x ps (fnD nn m):=by
  subst hn hkk
  obtain ⟨f,fd,F,hm,hb⟩:=d
  exact ⟨f,fd,Pq F S (fun cdv A outer s H E n F0 hr=>hbody f cdv A outer s H E n F0 hr),hm,F.kp,hb,F.obj⟩
end
end L2.DL
set_option Elab.async false
set_option linter.all false
set_option maxRecDepth 100000
set_option maxHeartbeats 4000000
namespace L2.DL
open PySem PySem.Spec PyProof.Rows PySem.W
noncomputable def ints0 (n:Nat):List V:=(List.range n).map fun (i:Nat)=>V.int (i:Int)
theorem Cj:∀ {n:Nat}{acc:Array Value},ItemsOf (fun i v=>∃ t,v=Value.int (0 + (i:Int) * 1) t) acc n->Vals (ints0 n) acc.toList:=by
  intro n acc h
  have key:∀ (k:Nat) (l:List Value),(∀ j v,l[j]?=some v->∃ t,v=Value.int ((k + j:Nat):Int) t)->Vals ((List.range' k l.length).map fun (i:Nat)=>V.int (i:Int)) l:=by
    intro k l
    induction l generalizing k with
    | nil=>intro _;exact .nil
    | cons v l ih =>
      intro h
      obtain ⟨t,e⟩:=h 0 v rfl
      rw [List.length_cons,List.range'_succ,List.map_cons]
      refine .cons ⟨t,by simpa using e⟩ (ih (k + 1) fun j u q=>?_)
      obtain ⟨t',e'⟩:=h (j + 1) u (by simpa using q)
      exact ⟨t',by rw [e',show k + (j + 1)=k + 1 + j by omega]⟩
  have:=key 0 acc.toList fun j v q=>by
    obtain ⟨t,e⟩:=h.2 j v (by rw [Array.getElem?_toList] at q;exact q)
    exact ⟨t,by rw [e];simp⟩
  unfold ints0
  rw [List.range_eq_range',<-h.1]
  simpa using this
section
variable {X : Cx} {T : Fr} {Z : Xs} {a : Expr} {p p2 pos pos2 : Pos} {ta : TA} {ks : DE (List W)}
theorem Jv:bootBuiltins "list"=some (.type "list"):=by decide +kernel
noncomputable def tLR (ta:TA):TE:=fun σ H Q=>ta σ H fun vs H1=>∃ j:Int,vs=[.int j] /\ -(2 ^ 62) <= j /\ j <= 2 ^ 24 /\ ∀ l,H1 l=none->Q (.ref l) (upd H1 l (.lst (ints0 j.toNat)))
theorem C2 (hc:X.calm=true) (hg:Gl X "list") (hm:X.mg "list"=none) (hg2:Gl X "range") (hm2:X.mg "range"=none) (ha:PA X [a] ta) (hs:nst a=true):PE X (.Call (.Name "list" p) [.Call (.Name "range" p2) [a] [] pos2] [] pos) (tLR ta):=by
  intro pins s σ H Q I h
  refine wpAny_Call_Name_kw (oP I hg hm Jv ?_ (by decide) (by decide))
  refine PyProof.Rows.callWith_type1 ?_ (iA (e:=.Call (.Name "range" p2) [a] [] pos2) rfl [] X.env) (m8 (es:=[]) rfl)
  rw [iA (e:=.Call (.Name "range" p2) [a] [] pos2) rfl [] X.env]
  show wpAny _ _ (spliced ((false,eval (.Call (.Name "range" p2) [a] [] pos2) X.env) :: backTo pos (starEach [] X.env))) _ _ s
  refine Calls.spliced_cons ?_
  refine wpAny_Call_Name_kw (oP I hg2 hm2 boot_range ?_ (by decide) (by decide))
  refine PyProof.Rows.callWith_type1 (thn (ha pos2 pins s σ H _ I h) fun us s1 ⟨vs,H1,I1,r1,q1⟩=>?_) (iA hs [] X.env) rfl
  obtain ⟨j,e,b1,b2,q⟩:=q1
  subst e
  cases r1 with
  | cons r rr =>
    cases rr
    obtain ⟨t,rfl⟩:=r
    refine call_range_1 ?_
    refine Calls.spliced_nil ?_
    have hn:((j.toNat:Nat):Int)=Builtin.Range.rangeSize 0 j 1:=by rw [rangeSize_one];split <;> omega
    refine call_list_range (I1.ok.hd hc) (IsRange.new ..) (small_one (by omega) (by omega) b1 (by omega)) hn.symm (by omega) fun h' tk acc' c' kp e it=>?_
    have rv:=Cj it
    have sz:sizeLine=16777216:=sizeLine_eq
    have hz:(ints0 j.toNat).length <= sizeLine:=by
      unfold ints0
      rw [List.length_map,List.length_range]
      omega
    refine ⟨.ref _,_,(I1.kept (fun b o z=>Heap.get?_push_of_some _ z)).laid (t':=tk) kp (Nat.le_refl _) (show ObjOk X.prog X.w _ h' _ (.lst (ints0 j.toNat)) from ⟨hz,acc'.toList,c',rv,by simpa using e⟩),rfl,q _ (I1.hok.fresh (by simp [Heap.push]))⟩
noncomputable def dLR (bo:Bool) (k:DE (List W)):DE W:=fun env bx=>fO (k env bx) fun ws bx1=>match ws with
  | [.d (.int j)]=>if -(2 ^ 62) <= j /\ j <= 2 ^ 24 then resO bo (some (.lst ((List.range j.toNat).map fun (i:Nat)=>D.int (i:Int)))) bx1 else .bad
  | _=>.bad
theorem Jw {F:Hp} (n:Nat):DenL F ((List.range n).map fun (i:Nat)=>D.int (i:Int)) (ints0 n):=by
  have key:∀ l:List Nat,DenL F (l.map fun (i:Nat)=>D.int (i:Int)) (l.map fun (i:Nat)=>V.int (i:Int)):=by
    intro l
    induction l with
    | nil=>exact rfl
    | cons i l ih=>exact .cons (show Den F (.int i) (.int i) from rfl) ih
  exact key _
theorem OU (bo:Bool) (hc:X.calm=true) (hg:Gl X "list") (hm:X.mg "list"=none) (hg2:Gl X "range") (hm2:X.mg "range"=none) (ha:PDA X T Z [a] ks) (hs:nst a=true:=by rfl):PD X T Z (.Call (.Name "list" p) [.Call (.Name "range" p2) [a] [] pos2] [] pos) (dLR bo ks):=by
  refine PE.imp (C2 hc hg hm hg2 hm2 ha hs) fun σ H Q ⟨F,r,env,bx,R,h⟩=>?_
  refine ⟨F,r,env,bx,R,End.bind h fun ws bx1 F1 r1 vs H1 g1 R1 d1 h1=>?_⟩
  split at h1
  . rename_i j
    split at h1
    . rename_i hj
      obtain ⟨v,t,rfl,q1,q2⟩:=d1
      cases (show t=[] from q2)
      cases (show v=.int j from q1)
      exact ⟨j,rfl,hj.1,hj.2,fun l hl=>lc R1 h1 ⟨l,_,rfl,hl,rfl,Jw _⟩⟩
    . exact h1.elim
  . exact h1.elim
theorem MQ {b:Expr}{x y:Str}{px py pt:Pos}{kt k2 pt2} (i j:Nat) (hc:X.calm=true) (hN:X.N.Nodup) (ha:PDA X T Z [a,b] ks) (hi:X.N[i]?=some x:=by rfl) (hj:X.N[j]?=some y:=by rfl) (hij:i ≠ j:=by decide)
    (hx:X.env.scope.names.lookup x=some .local:=by rfl) (hy:X.env.scope.names.lookup y=some .local:=by rfl)
    (hw:swappedStores [.Tuple [.Name x px,.Name y py] kt pt] (.Tuple [a,b] k2 pt2) X.env=pure (some [x,y]):=by rfl)
    (hs:swapsWithSole [.Tuple [.Name x px,.Name y py] kt pt] (.Tuple [a,b] k2 pt2) pos.line X.env=pure false:=by rfl) :
    PSD X T Z (.Assign [.Tuple [.Name x px,.Name y py] kt pt] (.Tuple [a,b] k2 pt2) pos) (sPar i j ks) :=
  PS.imp (NA hc hN hi hj hij hx hy ha hw hs) fun D σ H h=>OJ h
noncomputable def okV (N:List Str) (sc:Scope) (i:Nat) (x:Str):Bool:=decide (N[i]?=some x) && (decide (sc.names.lookup x=some .local) || decide (sc.names.lookup x=some .cell) || decide (sc.names.lookup x=some .free)) && !(x == ("__debug__":Str)) && !(x == ("__classdict__":Str))
theorem pdv (i:Nat) {x:Str}{vpos:Pos} (h:okV X.N X.env.scope i x=true):PD X T Z (.Name x vpos) (dV i):=by
  simp only [okV,Bool.and_eq_true,Bool.or_eq_true,decide_eq_true_eq,Bool.not_eq_true'] at h
  obtain ⟨⟨⟨h1,h2⟩,h3⟩,h4⟩:=h
  exact NV i h1 (by
    rcases h2 with (h2 | h2) | h2
    . exact .inl h2
    . exact .inr (.inl h2)
    . exact .inr (.inr h2)) h3 h4
end
end L2.DL
set_option Elab.async false
set_option linter.all false
set_option maxRecDepth 100000
set_option maxHeartbeats 4000000
namespace K1
open PySem PySem.Spec PyProof.Rows L2 L2.DL
noncomputable def Au:DSt:=(gc (iR (jL "int" (dV 0)) (dNotV (jL "bool" (dV 0)))))
noncomputable def jD:List W->List Bx->O W:=fnD 1 (noX Au)
noncomputable def oV:DSt:=(gc (iR (fv K1.jD 1 (fc (dV 0) ff)) (d3 leD leD (dV 1) (dV 0) (dV 2))))
noncomputable def ge:List W->List Bx->O W:=fnD 3 (noX oV)
noncomputable def Av:DSt:=(gc (iR (jL "tuple" (dV 0)) (d3 leD leD (dV 1) (dN false lenD (fc (dV 0) ff)) (dV 2))))
noncomputable def fT:List W->List Bx->O W:=fnD 3 (noX Av)
noncomputable def oW:DSt:=(gc (dN false allD (fc (gT false [none,some 0] (dRng2 (fc (dC (.int 1)) (fc (dN false lenD (fc (dV 0) ff)) ff))) (fk 0) gZ (d2 false ltD (d2 false ixD (dV 1) (d2 false subD (dV 0) (dC (.int 1)))) (d2 false ixD (dV 1) (dV 0)))) ff)))
noncomputable def lQ:List W->List Bx->O W:=fnD 1 (noX oW)
noncomputable def lx:DSt:=(gc (iR (fv K1.fT 3 (fc (dV 0) (fc (dC (.int 1)) (fc (dC (.int 5)) ff)))) (dN false allD (fc (gT false [none] (dIter (dV 0)) (fk 0) gZ (fv K1.ge 3 (fc (dV 0) (fc (dC (.int 0)) (fc (dC (.int 3)) ff))))) ff))))
noncomputable def jM:List W->List Bx->O W:=fnD 1 (noX lx)
noncomputable def ly:DSt:=(fJ (sIf (dOr (dNot (dB (fv K1.fT 3 (fc (dV 0) (fc (d2 false fK (dC (.int 3)) (dC (.int 1))) (fc (d2 false fK (dC (.int 3)) (dC (.int 1))) ff)))))) (dNot (dB (dN false allD (fc (gT false [none] (dIter (dV 0)) (fk 0) gZ (fv K1.ge 3 (fc (dV 0) (fc (dC (.int 0)) (fc (dC (.int 9)) ff))))) ff))))) (gc (dC (.bl false))) sNil) (gc (dN false allD (fc (gT false [none,none] (dZip (fc (dV 0) (fc (dSl false (dV 0) (dPart (dC (.int 1))) dNo) ff))) (iS 2 (fR (fk 0) (fR (fk 1) i4))) gZ (d2 false leD (dV 1) (dV 0))) ff))))
noncomputable def lR:List W->List Bx->O W:=fnD 1 (noX ly)
noncomputable def m9:DSt:=(gc (iR (fv K1.fT 3 (fc (dV 0) (fc (dC (.int 2)) (fc (dC (.int 2)) ff)))) (iR (fv K1.ge 3 (fc (d2 false ixD (dV 0) (dC (.int 0))) (fc (dC (.int 1)) (fc (dC (.int 999)) ff)))) (fv K1.lR 1 (fc (d2 false ixD (dV 0) (dC (.int 1))) ff)))))
noncomputable def oB:List W->List Bx->O W:=fnD 1 (noX m9)
noncomputable def lz:DSt:=(gc (iR (fv K1.fT 3 (fc (dV 0) (fc (dC (.int 1)) (fc (dC (.int 4)) ff)))) (dN false allD (fc (gT false [none] (dIter (dV 0)) (fk 0) gZ (fv K1.oB 1 (fc (dV 0) ff))) ff))))
noncomputable def jN:List W->List Bx->O W:=fnD 1 (noX lz)
noncomputable def iU:DSt:=(fJ (sIf (dNot (dB (fv K1.fT 3 (fc (dV 0) (fc (dC (.int 2)) (fc (dC (.int 2)) ff)))))) (gc (dC (.bl false))) sNil) (gc (iR (dN false allD (fc (gT false [none,some 1] (dIter (dV 0)) (fk 0) gZ (fv K1.ge 3 (fc (dV 0) (fc (dC (.int 0)) (fc (d2 false subD (dV 1) (dC (.int 1))) ff))))) ff)) (d2 false ltD (d2 false ixD (dV 0) (dC (.int 0))) (d2 false ixD (dV 0) (dC (.int 1)))))))
noncomputable def iC:List W->List Bx->O W:=fnD 2 (noX iU)
noncomputable def lA:DSt:=(fJ (sIf (dNot (dB (jL "tuple" (dV 0)))) (gc (dC (.bl false))) sNil) (gc (iR (dN false allD (fc (gT false [none,some 1] (dIter (dV 0)) (fk 0) gZ (fv K1.iC 2 (fc (dV 0) (fc (dV 1) ff)))) ff)) (fv K1.lQ 1 (fc (dV 0) ff)))))
noncomputable def ij:List W->List Bx->O W:=fnD 2 (noX lA)
noncomputable def mz:DSt:=(fJ (sIf (dNot (dB (fv K1.fT 3 (fc (dV 0) (fc (dC (.int 4)) (fc (dC (.int 4)) ff)))))) (gc (dC (.bl false))) sNil) (fJ (fY (dV 0) (iS 4 (fR (fk 1) (fR (fk 2) (fR (fk 3) (fR (fk 4) i4)))))) (gc (iR (fv K1.jM 1 (fc (dV 1) ff)) (iR (fv K1.jN 1 (fc (dV 2) ff)) (iR (fv K1.ij 2 (fc (dV 3) (fc (dN false lenD (fc (dV 2) ff)) ff))) (fv K1.ge 3 (fc (dV 4) (fc (dC (.int 1)) (fc (dC (.int 9)) ff))))))))))
noncomputable def iH:List W->List Bx->O W:=fnD 5 (noX mz)
noncomputable def lf:DSt:=(fJ (sIf (dB (d2 false ltD (dV 1) (dLenS (dV 0)))) (gc (dIxS (dV 0) (dV 1))) sNil) (gc (dC (.int 0))))
noncomputable def ic:List W->List Bx->O W:=fnD 2 (noX lf)
noncomputable def lV:DSt:=(fJ (sIf (dB (d2 false geI (dV 0) (d2 false powD (dC (.int 10)) (dC (.int 18))))) (gc (gx true (fc (d2 false subD (dV 0) (d2 false powD (dC (.int 10)) (dC (.int 18)))) ff))) sNil) (fJ (fY (dC (.int 0)) (fk 1)) (fJ (iZ (dRng1 (fc (dC (.int 64)) ff)) (fk 2) (fJ (fY (d2 false modD (d2 false mulD (d2 false fK (d2 false fK (d2 false modD (dV 0) (dC (.int 2147483629))) (d2 false mulD (dC (.int 7919)) (dV 2))) (dC (.int 1))) (dC (.int 48271))) (dC (.int 2147483647))) (fk 3)) (fJ (fY (d2 false modD (d2 false fK (d2 false fK (d2 false mulD (dV 3) (dV 3)) (d2 false mulD (dC (.int 69621)) (dV 2))) (dC (.int 7))) (dC (.int 2147483587))) (fk 3)) (fY (d2 false fK (d2 false mulD (dV 1) (dC (.int 2147483587))) (dV 3)) (fk 1))))) (gc (gx true (fc (dV 1) ff))))))
noncomputable def jy:List W->List Bx->O W:=fnD 4 (noX lV)
noncomputable def Aw:DSt:=(fJ (fY (d2 false modD (d2 false ixD (dV 0) (dC (.int 0))) (dV 1)) (fk 2)) (fJ (fY (d2 false fdivD (d2 false ixD (dV 0) (dC (.int 0))) (dV 1)) (gdSub (dV 0) (dC (.int 0)))) (gc (dV 2))))
noncomputable def fu:List W->List Bx->O W:=fnD 3 (noX Aw)
noncomputable def oX:DSt:=(gc (iR (jL "int" (dV 0)) (dNotV (jL "bool" (dV 0)))))
noncomputable def gL:List W->List Bx->O W:=fnD 1 (noX oX)
noncomputable def oC:DSt:=(gc (iR (fv K1.gL 1 (fc (dV 0) ff)) (d3 leD leD (dV 1) (dV 0) (dV 2))))
noncomputable def gK:List W->List Bx->O W:=fnD 3 (noX oC)
noncomputable def AZ:DSt:=(fJ (fY (gx false (fc (dC .non) (fc (dC (.bl true)) (fc (dC (.bl false)) (fc (dNeg (dC (.int 1))) (fc (d2 false powD (dC (.int 10)) (dC (.int 30))) (fc (dC (.str "")) (fc (dC (.str "a")) (fc (dC (.str "1")) (fc (fF ff) (fc (gx false ff) (fc (dDic false []) (fc (gx false (fc (fF ff) ff)) (fc (fF (fc (fF ff) ff)) (fc (fF (fc (dC (.int 0)) ff)) (fc (gx false (fc (dC (.int 0)) ff)) (fc (dDic false [(.inl 0,.int 1)]) (fc (fF (fc (dC (.bl true)) (fc (dC (.bl true)) ff))) ff)))))))))))))))))) (fk 1)) (gc (d2 false ixD (dV 1) (fv K1.fu 2 (fc (dV 0) (fc (dN false lenD (fc (dV 1) ff)) ff))))))
noncomputable def gf:List W->List Bx->O W:=fnD 2 (noX AZ)
noncomputable def ie (rec:List W->List Bx->O W):DSt:=(fJ (sIf (dNot (dB (jL "tuple" (dV 1)))) (fJ (sIf (dAnd (dB (fv K1.gL 1 (fc (dV 1) ff))) (dB (d2 false gtI (fv K1.fu 2 (fc (dV 0) (fc (dC (.int 3)) ff))) (dC (.int 0))))) (gc (d2 false fK (dV 1) (d2 false ixD (gx false (fc (dC (.int 1)) (fc (dNeg (dC (.int 1))) (fc (dC (.int 9)) (fc (dC (.int 100)) (fc (dC (.int 9999)) (fc (dNeg (d2 false powD (dC (.int 10)) (dC (.int 4)))) ff))))))) (fv K1.fu 2 (fc (dV 0) (fc (dC (.int 6)) ff)))))) sNil) (gc (fv K1.gf 1 (fc (dV 0) ff)))) sNil) (fJ (fY (fv K1.fu 2 (fc (dV 0) (fc (dC (.int 12)) ff))) (fk 2)) (fJ (sIf (dOr (dB (d2 false eqD (dV 2) (dC (.int 0)))) (dB (d2 false eqD (dV 1) (fF ff)))) (gc (d2 false ixD (gx false (fc (fv K1.gf 1 (fc (dV 0) ff)) (fc (dN false listD (fc (dV 1) ff)) (fc (d2 false fK (dV 1) (fF (fc (fv K1.gf 1 (fc (dV 0) ff)) ff))) (fc (d2 false fK (dV 1) (dSl false (dV 1) (dPart (dNeg (dC (.int 1)))) dNo)) ff))))) (fv K1.fu 2 (fc (dV 0) (fc (dC (.int 4)) ff))))) sNil) (fJ (fY (fv K1.fu 2 (fc (dV 0) (fc (dN false lenD (fc (dV 1) ff)) ff))) (fk 3)) (fJ (sIf (dB (d2 false eqD (dV 2) (dC (.int 1)))) (gc (d2 false fK (dSl false (dV 1) dNo (dPart (dV 3))) (dSl false (dV 1) (dPart (d2 false fK (dV 3) (dC (.int 1)))) dNo))) sNil) (fJ (sIf (dB (d2 false eqD (dV 2) (dC (.int 2)))) (gc (d2 false fK (d2 false fK (dSl false (dV 1) dNo (dPart (dV 3))) (dSl false (dV 1) (dPart (dV 3)) (dPart (d2 false fK (dV 3) (dC (.int 1)))))) (dSl false (dV 1) (dPart (dV 3)) dNo))) sNil) (gc (d2 false fK (d2 false fK (dSl false (dV 1) dNo (dPart (dV 3))) (fF (fc (fv rec 2 (fc (dV 0) (fc (d2 false ixD (dV 1) (dV 3)) ff))) ff))) (dSl false (dV 1) (dPart (d2 false fK (dV 3) (dC (.int 1)))) dNo)))))))))
noncomputable def gh:Nat->List W->List Bx->O W
  | 0=>fun _ _=>.bad
  | i + 1=>fnD 4 (noX (ie (gh i)))
noncomputable def mV:DSt:=(fJ (fY (d2 false ixD (gx false (fc (dC (.int 9)) (fc (dC (.int 3)) (fc (dC (.int 1)) (fc (dC (.int 9)) ff))))) (fv K1.fu 2 (fc (dV 0) (fc (dC (.int 4)) ff)))) (fk 1)) (fJ (fY (dRev false (dN false sortA (fc (gT false [none,some 0,some 1] (dRng1 (fc (dC (.int 4)) ff)) (fk 0) gZ (fv K1.fu 2 (fc (dV 1) (fc (d2 false fK (dV 2) (dC (.int 1))) ff)))) ff))) (fk 2)) (gc (fF (fc (d2 false ixD (gx false (fc (dC (.int 30)) (fc (d2 false fK (dC (.int 1)) (fv K1.fu 2 (fc (dV 0) (fc (dC (.int 20)) ff)))) (fc (dC (.int 999)) (fc (dC (.int 8)) ff))))) (fv K1.fu 2 (fc (dV 0) (fc (dC (.int 4)) ff)))) (fc (dN false tupleD (fc (dV 2) ff)) ff))))))
noncomputable def iD:List W->List Bx->O W:=fnD 3 (noX mV)
noncomputable def mL:DSt:=(fJ (fY (dN false tupleD (fc (gT false [none,some 0] (dRng1 (fc (d2 false fK (dC (.int 1)) (fv K1.fu 2 (fc (dV 0) (fc (dC (.int 5)) ff)))) ff)) (fk 0) gZ (fv K1.fu 2 (fc (dV 1) (fc (dC (.int 4)) ff)))) ff)) (fk 1)) (fJ (fY (dN false tupleD (fc (gT false [none,some 0] (dRng1 (fc (d2 false fK (dC (.int 1)) (fv K1.fu 2 (fc (dV 0) (fc (dC (.int 4)) ff)))) ff)) (fk 0) gZ (fv K1.iD 1 (fc (dV 1) ff))) ff)) (fk 2)) (fJ (fY (gx false ff) (fk 3)) (fJ (iZ (dRng1 (fc (dN false lenD (fc (dV 2) ff)) ff)) (fk 4) (fY (d2 false fK (dV 3) (gT false [none,some 4,some 0] (dRng1 (fc (dV 4) ff)) (fk 0) (dB (d2 false eqD (fv K1.fu 2 (fc (dV 2) (fc (dC (.int 3)) ff))) (dC (.int 0)))) (fF (fc (dV 0) (fc (dV 1) ff))))) (fk 3))) (gc (fF (fc (dV 1) (fc (dV 2) (fc (dN false tupleD (fc (dN false sortA (fc (dV 3) ff)) ff)) (fc (d2 false ixD (gx false (fc (dC (.int 1)) (fc (dC (.int 2)) (fc (dC (.int 9)) (fc (d2 false fK (dC (.int 1)) (fv K1.fu 2 (fc (dV 0) (fc (dC (.int 9)) ff)))) ff))))) (fv K1.fu 2 (fc (dV 0) (fc (dC (.int 4)) ff)))) ff))))))))))
noncomputable def iP:List W->List Bx->O W:=fnD 5 (noX mL)
noncomputable def Ck:DSt:=(fJ (sIf (dOr (dNot (dB (jL "tuple" (dV 0)))) (dOr (dB (d2 false neD (dN false lenD (fc (dV 0) ff)) (dC (.int 2)))) (dNot (dB (fv K1.gK 3 (fc (d2 false ixD (dV 0) (dC (.int 0))) (fc (dC (.int 1)) (fc (dC (.int 999)) ff)))))))) (gc (dC (.bl false))) sNil) (fJ (sIf (dOr (dNot (dB (jL "tuple" (d2 false ixD (dV 0) (dC (.int 1)))))) (dB (d2 false neD (dN false lenD (fc (d2 false ixD (dV 0) (dC (.int 1))) ff)) (dC (.int 4))))) (gc (dC (.bl false))) sNil) (fJ (sIf (dB (d2 false neD (gT false [none] (dIter (d2 false ixD (dV 0) (dC (.int 1)))) (fk 0) (dNot (dB (fv K1.gK 3 (fc (dV 0) (fc (dC (.int 0)) (fc (dC (.int 9)) ff)))))) (dV 0)) (gx false ff))) (gc (dC (.bl false))) sNil) (gc (d2 false eqD (dN false listD (fc (d2 false ixD (dV 0) (dC (.int 1))) ff)) (dRev false (dN false sortA (fc (d2 false ixD (dV 0) (dC (.int 1))) ff))))))))
noncomputable def BN:List W->List Bx->O W:=fnD 1 (noX Ck)
noncomputable def BO:DSt:=(fJ (sIf (dOr (dNot (dB (jL "tuple" (dV 0)))) (dOr (dB (d2 false neD (dN false lenD (fc (dV 0) ff)) (dC (.int 4)))) (dNot (dB (dN false allD (fc (gT false [none] (dIter (dSl false (dV 0) dNo (dPart (dC (.int 3))))) (fk 0) gZ (jL "tuple" (dV 0))) ff)))))) (gc (dC (.bl false))) sNil) (fJ (fY (dV 0) (iS 4 (fR (fk 1) (fR (fk 2) (fR (fk 3) (fR (fk 4) i4)))))) (fJ (sIf (dOr (dNot (dB (d3 leD leD (dC (.int 1)) (dN false lenD (fc (dV 1) ff)) (dC (.int 5))))) (dB (d2 false neD (gT false [none] (dIter (dV 1)) (fk 0) (dNot (dB (fv K1.gK 3 (fc (dV 0) (fc (dC (.int 0)) (fc (dC (.int 3)) ff)))))) (dV 0)) (gx false ff)))) (gc (dC (.bl false))) sNil) (fJ (sIf (dOr (dNot (dB (d3 leD leD (dC (.int 1)) (dN false lenD (fc (dV 2) ff)) (dC (.int 4))))) (dB (d2 false neD (gT false [none] (dIter (dV 2)) (fk 0) (dNot (dB (fv K1.BN 1 (fc (dV 0) ff)))) (dV 0)) (gx false ff)))) (gc (dC (.bl false))) sNil) (fJ (fY (fF (fc (dNeg (dC (.int 1))) (fc (dNeg (dC (.int 1))) ff))) (fk 5)) (fJ (iZ (dIter (dV 3)) (fk 6) (fJ (sIf (dOr (dNot (dB (jL "tuple" (dV 6)))) (dOr (dB (d2 false neD (dN false lenD (fc (dV 6) ff)) (dC (.int 2)))) (dNot (dB (fv K1.gK 3 (fc (d2 false ixD (dV 6) (dC (.int 0))) (fc (dC (.int 0)) (fc (d2 false subD (dN false lenD (fc (dV 2) ff)) (dC (.int 1))) ff)))))))) (gc (dC (.bl false))) sNil) (fJ (sIf (dOr (dNot (dB (fv K1.gK 3 (fc (d2 false ixD (dV 6) (dC (.int 1))) (fc (d2 false fK (d2 false ixD (dV 6) (dC (.int 0))) (dC (.int 1))) (fc (d2 false subD (dN false lenD (fc (dV 2) ff)) (dC (.int 1))) ff)))))) (dB (d2 false leD (dV 6) (dV 5)))) (gc (dC (.bl false))) sNil) (fY (dV 6) (fk 5))))) (gc (fv K1.gK 3 (fc (dV 4) (fc (dC (.int 1)) (fc (dC (.int 9)) ff)))))))))))
noncomputable def oK:List W->List Bx->O W:=fnD 7 (noX BO)
noncomputable def AL:DSt:=(fJ (fY (dV 1) (iS 4 (fR (fk 2) (fR (fk 3) (fR (fk 4) (fR (fk 5) i4)))))) (fJ (fY (d2 false ixD (dV 3) (dC (.int 0))) (iS 2 (fR (fk 6) (fR (fk 7) i4)))) (fJ (fY (fv K1.fu 2 (fc (dV 0) (fc (dN false lenD (fc (dV 2) ff)) ff))) (fk 8)) (fJ (fY (gT true [none,some 3,some 4,some 5,some 2,some 8] (dIter (gx false (fc (dNeg (dC (.int 1))) (fc (dC (.int 0)) (fc (dC (.int 3)) (fc (dC (.int 4)) (fc (dC (.bl true)) ff))))))) (fk 0) gZ (fF (fc (d2 false fK (d2 false fK (dSl false (dV 4) dNo (dPart (dV 5))) (fF (fc (dV 0) ff))) (dSl false (dV 4) (dPart (d2 false fK (dV 5) (dC (.int 1)))) dNo)) (fc (dV 1) (fc (dV 2) (fc (dV 3) ff)))))) (fk 9)) (fJ (fY (d2 true fK (dV 9) (gT false [none,some 3,some 4,some 5,some 2] (dIter (gx false (fc (dC (.int 0)) (fc (dC (.int 1)) (fc (dC (.int 5)) (fc (dC (.int 6)) ff)))))) (fk 0) gZ (fF (fc (dSl false (d2 false mulD (dV 4) (dC (.int 6))) dNo (dPart (dV 0))) (fc (dV 1) (fc (dV 2) (fc (dV 3) ff))))))) (fk 9)) (fJ (fY (d2 true fK (dV 9) (gT false [none,some 2,some 3,some 4] (dIter (gx false (fc (dC (.int 0)) (fc (dC (.int 1)) (fc (dC (.int 9)) (fc (dC (.int 10)) (fc (dC (.bl true)) ff))))))) (fk 0) gZ (fF (fc (dV 1) (fc (dV 2) (fc (dV 3) (fc (dV 0) ff))))))) (fk 9)) (fJ (fY (d2 true fK (dV 9) (gT false [none,some 2,some 4,some 5,some 3,some 7] (dIter (gx false (fc (dC (.int 0)) (fc (dC (.int 1)) (fc (dC (.int 999)) (fc (dC (.int 1000)) ff)))))) (fk 0) gZ (fF (fc (dV 1) (fc (d2 false fK (fF (fc (fF (fc (dV 0) (fc (dV 5) ff))) ff)) (dSl false (dV 4) (dPart (dC (.int 1))) dNo)) (fc (dV 2) (fc (dV 3) ff))))))) (fk 9)) (fJ (iZ (dIter (gx false (fc (fF (fc (dC (.int 9)) (fc (dC (.int 9)) (fc (dC (.int 9)) (fc (dC (.int 9)) ff))))) (fc (fF (fc (dC (.int 0)) (fc (dC (.int 0)) (fc (dC (.int 0)) (fc (dC (.int 0)) ff))))) (fc (fF (fc (dC (.int 10)) (fc (dC (.int 9)) (fc (dC (.int 9)) (fc (dC (.int 9)) ff))))) (fc (fF (fc (dC (.int 3)) (fc (dC (.int 2)) (fc (dC (.int 1)) (fc (dNeg (dC (.int 1))) ff))))) (fc (fF (fc (dC (.int 3)) (fc (dC (.int 3)) (fc (dC (.int 4)) (fc (dC (.int 2)) ff))))) (fc (fF (fc (dC (.int 4)) (fc (dC (.int 3)) (fc (dC (.int 2)) ff)))) (fc (fF (fc (dC (.int 4)) (fc (dC (.int 3)) (fc (dC (.int 2)) (fc (dC (.int 1)) (fc (dC (.int 0)) ff)))))) ff))))))))) (fk 10) (lu (dApp (dV 9) (fF (fc (dV 2) (fc (d2 false fK (fF (fc (fF (fc (dV 6) (fc (dV 10) ff))) ff)) (dSl false (dV 3) (dPart (dC (.int 1))) dNo)) (fc (dV 4) (fc (dV 5) ff)))))))) (fJ (fY (dSl false (d2 false mulD (dV 3) (dC (.int 5))) dNo (dPart (dC (.int 5)))) (fk 11)) (fJ (iZ (dIter (gx false (fc (dV 11) (fc (dSl false (dV 11) dNo (dPart (dC (.int 4)))) (fc (fF ff) (fc (dN false listD (fc (dV 3) ff)) (fc (dSl false (dV 3) dNo (dPart (dC (.int 1)))) ff))))))) (fk 10) (lu (dApp (dV 9) (fF (fc (dV 2) (fc (dV 10) (fc (fF ff) (fc (dV 5) ff)))))))) (fJ (fY (dSl false (d2 false mulD (dV 3) (dC (.int 2))) dNo (dPart (dC (.int 2)))) (fk 12)) (fJ (iZ (dIter (gx false (fc (fF ff) (fc (fF (fc (fF (fc (dC (.int 0)) (fc (dC (.int 1)) ff))) ff)) (fc (fF (fc (fF (fc (dC (.int 1)) (fc (dC (.int 0)) ff))) ff)) (fc (fF (fc (fF (fc (dC (.int 0)) (fc (dC (.int 0)) ff))) ff)) (fc (fF (fc (fF (fc (dC (.int 0)) (fc (dC (.int 1)) ff))) (fc (fF (fc (dC (.int 0)) (fc (dC (.int 1)) ff))) ff))) (fc (fF (fc (fF (fc (dC (.int 0)) (fc (dC (.int 2)) ff))) ff)) (fc (fF (fc (fF (fc (dNeg (dC (.int 1))) (fc (dC (.int 0)) ff))) ff)) (fc (gx false (fc (fF (fc (dC (.int 0)) (fc (dC (.int 1)) ff))) ff)) (fc (fF (fc (fF (fc (dC (.int 0)) ff)) ff)) ff))))))))))) (fk 10) (lu (dApp (dV 9) (fF (fc (dV 2) (fc (dV 12) (fc (dV 10) (fc (dV 5) ff)))))))) (fJ (fY (dSl false (d2 false mulD (dV 3) (dC (.int 3))) dNo (dPart (dC (.int 3)))) (fk 13)) (fJ (iZ (dIter (gx false (fc (fF (fc (fF (fc (dC (.int 0)) (fc (dC (.int 2)) ff))) (fc (fF (fc (dC (.int 1)) (fc (dC (.int 2)) ff))) ff))) (fc (fF (fc (fF (fc (dC (.int 1)) (fc (dC (.int 2)) ff))) (fc (fF (fc (dC (.int 0)) (fc (dC (.int 2)) ff))) ff))) (fc (fF (fc (fF (fc (dC (.int 0)) (fc (dC (.int 1)) ff))) (fc (fF (fc (dC (.int 0)) (fc (dC (.int 2)) ff))) (fc (fF (fc (dC (.int 1)) (fc (dC (.int 2)) ff))) ff)))) ff))))) (fk 10) (lu (dApp (dV 9) (fF (fc (dV 2) (fc (dV 13) (fc (dV 10) (fc (dV 5) ff)))))))) (gc (dFrz 9))))))))))))))))
noncomputable def mB:List W->List Bx->O W:=fnD 14 (noX AL)
noncomputable def CF:DSt:=(fJ (iZ (dRng1 (fc (dN false maxD (fc (dC (.int 1)) (fc (dN false minD (fc (dLenS (dV 0)) (fc (dC (.int 16)) ff))) ff))) ff)) (fk 1) (fJ (fY (fv K1.jy 1 (fc (fv K1.ic 2 (fc (dV 0) (fc (dV 1) ff))) ff)) (fk 2)) (fJ (fY (fv K1.iP 1 (fc (dV 2) ff)) (fk 3)) (fJ (sIf (dB (d2 false isntD (fv K1.iH 1 (fc (dV 3) ff)) (dC (.bl true)))) (gc (dC (.bl false))) sNil) (fJ (fY (d2 true fK (gx false (fc (fv K1.gf 1 (fc (dV 2) ff)) (fc (dN false listD (fc (dV 3) ff)) ff))) (fv K1.mB 2 (fc (dV 2) (fc (dV 3) ff)))) (fk 4)) (fJ (iZ (dRng1 (fc (dC (.int 6)) ff)) (fk 5) (fJ (fY (dV 3) (fk 6)) (fJ (iZ (dRng1 (fc (d2 false fK (dC (.int 1)) (fv K1.fu 2 (fc (dV 2) (fc (dC (.int 3)) ff)))) ff)) (fk 7) (fY (fv (K1.gh 12) 2 (fc (dV 2) (fc (dV 6) ff))) (fk 6))) (lu (dApp (dV 4) (dV 6)))))) (iZ (dIter (dFrz 4)) (fk 8) (fJ (fY (dRepr (dV 8)) (fk 9)) (sIf (dOr (dB (d2 false neD (dRepr (fv K1.iH 1 (fc (dV 8) ff))) (dRepr (fv K1.oK 1 (fc (dV 8) ff))))) (dB (d2 false neD (dRepr (dV 8)) (dV 9)))) (gc (dC (.bl false))) sNil))))))))) (gc (dC (.bl true))))
noncomputable def BP:List W->List Bx->O W:=fnD 10 (noX CF)
end K1
set_option Elab.async false
set_option linter.all false
set_option maxRecDepth 100000
set_option maxHeartbeats 4000000
namespace K2
open PySem PySem.Spec PyProof.Rows L2 L2.DL
noncomputable def Ai:DSt:=(fJ (fY (d2 false ixD (gx false (fc (dC (.int 0)) (fc (dC (.int 0)) (fc (d2 false powD (dC (.int 10)) (dC (.int 6))) (fc (d2 false powD (dC (.int 10)) (dC (.int 39))) ff))))) (fv K1.fu 2 (fc (dV 0) (fc (dC (.int 4)) ff)))) (fk 3)) (fJ (fY (dN false tupleD (fc (gT false [none,none,some 3] (dIter (dV 1)) (iS 2 (fR (fk 0) (fR (fk 1) i4))) gZ (fF (fc (d2 false fK (dV 0) (dV 2)) (fc (d2 false fK (dV 1) (dV 2)) ff)))) ff)) (fk 4)) (gc (fF (fc (dV 4) (fc (gT false [none,some 3] (dIter (dV 2)) (fk 0) gZ (d2 false fK (fF (fc (d2 false fK (d2 false ixD (dV 0) (dC (.int 0))) (dV 1)) ff)) (dSl false (dV 0) (dPart (dC (.int 1))) dNo))) (fc (dV 3) ff)))))))
noncomputable def jz:List W->List Bx->O W:=fnD 5 (noX Ai)
noncomputable def lS:DSt:=(fJ (fY (gx true (fc (dV 1) (fc (dN false listD (fc (dV 1) ff)) (fc (fv K1.gf 1 (fc (dV 0) ff)) (fc (fv (K1.gh 12) 2 (fc (dV 0) (fc (dV 1) ff))) (fc (d2 false fK (dV 1) (fF (fc (fF (fc (dC (.int 1)) (fc (dC (.int 2)) ff))) ff))) ff)))))) (fk 2)) (fJ (lu (dApp (dV 2) (fv (K1.gh 12) 2 (fc (dV 0) (fc (fv (K1.gh 12) 2 (fc (dV 0) (fc (dV 1) ff))) ff))))) (fJ (fY (d2 true fK (dV 2) (gx false (fc (fF (fc (fF (fc (dC (.int 3)) (fc (dC (.int 5)) ff))) (fc (fF (fc (dC (.int 5)) (fc (dC (.int 6)) ff))) ff))) (fc (fF (fc (fF (fc (dC (.int 3)) (fc (dC (.int 5)) ff))) (fc (fF (fc (dC (.int 6)) (fc (dC (.int 7)) ff))) ff))) (fc (fF (fc (fF (fc (dC (.int 3)) (fc (dC (.int 5)) ff))) (fc (fF (fc (dC (.int 4)) (fc (dC (.int 7)) ff))) ff))) (fc (fF (fc (fF (fc (dC (.int 6)) (fc (dC (.int 7)) ff))) (fc (fF (fc (dC (.int 3)) (fc (dC (.int 5)) ff))) ff))) (fc (fF (fc (fF (fc (dC (.int 3)) (fc (dC (.int 3)) ff))) ff)) (fc (fF (fc (fF (fc (dC (.int 4)) (fc (dC (.int 3)) ff))) ff)) ff)))))))) (fk 2)) (fJ (fY (dN false tupleD (fc (gT false [none] (dRng1 (fc (dC (.int 5)) ff)) (fk 0) gZ (fF (fc (d2 false mulD (dC (.int 3)) (dV 0)) (fc (d2 false fK (d2 false mulD (dC (.int 3)) (dV 0)) (dC (.int 1))) ff)))) ff)) (fk 3)) (gc (d2 false fK (dV 2) (gx false (fc (dV 3) (fc (dSl false (dV 3) dNo (dPart (dC (.int 4)))) (fc (fF (fc (fF (fc (dC (.int 0)) (fc (dC (.int 1)) ff))) ff)) (fc (fF (fc (fF (fc (dNeg (dC (.int 1))) (fc (dC (.int 1)) ff))) ff)) (fc (fF (fc (fF (fc (dC (.bl true)) (fc (dC (.int 3)) ff))) ff)) (fc (fF (fc (fF (fc (dC (.int 0)) (fc (d2 false subD (d2 false powD (dC (.int 10)) (dC (.int 40))) (dC (.int 1))) ff))) ff)) (fc (fF (fc (fF (fc (dC (.int 0)) (fc (dC (.int 1)) (fc (dC (.int 2)) ff)))) ff)) (fc (fF (fc (gx false (fc (dC (.int 0)) (fc (dC (.int 1)) ff))) ff)) ff)))))))))))))))
noncomputable def iW:List W->List Bx->O W:=fnD 4 (noX lS)
noncomputable def oD:DSt:=(fJ (sPar 2 3 (fc (gx true ff) (fc (fv K1.fu 2 (fc (dV 0) (fc (dV 1) ff))) ff))) (fJ (iZ (dRng1 (fc (d2 false ixD (gx false (fc (dC (.int 0)) (fc (dC (.int 1)) (fc (dC (.int 2)) (fc (dC (.int 4)) ff))))) (fv K1.fu 2 (fc (dV 0) (fc (dC (.int 4)) ff)))) ff)) (fk 4) (fJ (lu (dApp (dV 2) (fF (fc (dV 3) (fc (d2 false fK (d2 false fK (dV 3) (dC (.int 1))) (fv K1.fu 2 (fc (dV 0) (fc (dV 1) ff)))) ff))))) (fY (d2 false fK (d2 false fK (d2 false ixD (d2 false ixD (dV 2) (dNeg (dC (.int 1)))) (dC (.int 1))) (dC (.int 1))) (fv K1.fu 2 (fc (dV 0) (fc (dV 1) ff)))) (fk 3)))) (gc (dN false tupleD (fc (dV 2) ff)))))
noncomputable def iI:List W->List Bx->O W:=fnD 5 (noX oD)
noncomputable def jO:DSt:=(sIf (dNot (dB (fv K1.iH 1 (fc (dV 0) ff)))) (sRaise 0 (dC (.str "a house is a tuple (rooms, kinds, apart, hold)"))) sNil)
noncomputable def lg:List W->List Bx->O W:=fnD 1 jO
noncomputable def lB:DSt:=(gc (dN false allD (fc (gT false [none,none] (dZip (fc (dV 0) (fc (dSl false (dV 0) (dPart (dC (.int 1))) dNo) ff))) (iS 2 (fR (fk 0) (fR (fk 1) i4))) gZ (d2 false ltD (d2 false ixD (dV 0) (dC (.int 1))) (d2 false ixD (dV 1) (dC (.int 0))))) ff)))
noncomputable def lT:List W->List Bx->O W:=fnD 1 (noX lB)
noncomputable def A0:DSt:=(gc (iR (fv K1.jD 1 (fc (dV 0) ff)) (d2 false geI (dV 0) (dC (.int 0)))))
noncomputable def i5:List W->List Bx->O W:=fnD 1 (noX A0)
noncomputable def oY:DSt:=(gc (iR (fv K1.fT 3 (fc (dV 0) (fc (dC (.int 2)) (fc (dC (.int 2)) ff)))) (iR (fv K2.i5 1 (fc (d2 false ixD (dV 0) (dC (.int 0))) ff)) (iR (fv K2.i5 1 (fc (d2 false ixD (dV 0) (dC (.int 1))) ff)) (d2 false ltD (d2 false ixD (dV 0) (dC (.int 0))) (d2 false ixD (dV 0) (dC (.int 1))))))))
noncomputable def oa:List W->List Bx->O W:=fnD 1 (noX oY)
noncomputable def mC:DSt:=(fJ (lu (fv K2.lg 1 (fc (dV 0) ff))) (gc (iR (fv K1.fT 3 (fc (dV 1) (fc (dC (.int 0)) (fc (dC (.int 4)) ff)))) (iR (dN false allD (fc (gT false [none] (dIter (dV 1)) (fk 0) gZ (fv K2.oa 1 (fc (dV 0) ff))) ff)) (fv K2.lT 1 (fc (dV 1) ff))))))
noncomputable def iJ:List W->List Bx->O W:=fnD 2 mC
noncomputable def Bd:DSt:=(sIf (dNot (dB (fv K2.iJ 2 (fc (dV 0) (fc (dV 1) ff))))) (sRaise 1 (dC (.str "outs are a tuple of at most four tuples (begin, end) that don't meet or touch"))) sNil)
noncomputable def jP:List W->List Bx->O W:=fnD 2 Bd
noncomputable def Be:DSt:=(sIf (dNot (dB (fv K2.i5 1 (fc (dV 0) ff)))) (sRaise 3 (dC (.str "an hour is a whole number from 0 on"))) sNil)
noncomputable def lU:List W->List Bx->O W:=fnD 1 Be
noncomputable def jQ:DSt:=(fJ (fY (d2 false ixD (d2 false ixD (dV 0) (dC (.int 0))) (dV 2)) (fk 4)) (fJ (iZ (dIter (dV 1)) (iS 2 (fR (fk 5) (fR (fk 6) i4))) (sIf (dB (d3 leD ltD (dV 5) (dV 3) (dV 6))) (gc (dN false maxD (fc (dC (.int 0)) (fc (d2 false subD (dV 4) (d2 false fdivD (d2 false subD (dV 3) (dV 5)) (d2 false ixD (dV 0) (dC (.int 3))))) ff)))) sNil)) (gc (dV 4))))
noncomputable def jt:List W->List Bx->O W:=fnD 7 (noX jQ)
noncomputable def CG:DSt:=(gc (fv K1.ge 3 (fc (dV 1) (fc (dC (.int 0)) (fc (d2 false subD (dN false lenD (fc (d2 false ixD (dV 0) (dC (.int 0))) ff)) (dC (.int 1))) ff)))))
noncomputable def mD:List W->List Bx->O W:=fnD 2 (noX CG)
noncomputable def Aj:DSt:=(fJ (lu (fv K2.jP 2 (fc (dV 0) (fc (dV 1) ff)))) (fJ (sIf (dNot (dB (fv K2.mD 2 (fc (dV 0) (fc (dV 2) ff))))) (sRaise 2 (dC (.str "a room is a whole number from 0 on, less than the house has rooms"))) sNil) (fJ (lu (fv K2.lU 1 (fc (dV 3) ff))) (gc (fv K2.jt 4 (fc (dV 0) (fc (dV 1) (fc (dV 2) (fc (dV 3) ff)))))))))
noncomputable def Ax:List W->List Bx->O W:=fnD 4 Aj
noncomputable def oE:DSt:=(sTry (gc (fv K2.Ax 4 (fc (dV 0) (fc (dV 1) (fc (dV 2) (fc (dV 3) ff)))))))
noncomputable def ia:List W->List Bx->O W:=fnD 5 (noX oE)
noncomputable def mX:DSt:=(gc (iR (fv K1.gL 1 (fc (dV 0) ff)) (d2 false geI (dV 0) (dC (.int 0)))))
noncomputable def gP:List W->List Bx->O W:=fnD 1 (noX mX)
noncomputable def i6:DSt:=(fJ (sIf (dOr (dNot (dB (jL "tuple" (dV 0)))) (dB (d2 false gtI (dN false lenD (fc (dV 0) ff)) (dC (.int 4))))) (gc (dC (.bl false))) sNil) (fJ (fY (dNeg (dC (.int 1))) (fk 1)) (fJ (iZ (dIter (dV 0)) (fk 2) (fJ (sIf (dOr (dNot (dB (jL "tuple" (dV 2)))) (dOr (dB (d2 false neD (dN false lenD (fc (dV 2) ff)) (dC (.int 2)))) (dOr (dNot (dB (fv K2.gP 1 (fc (d2 false ixD (dV 2) (dC (.int 0))) ff)))) (dNot (dB (fv K2.gP 1 (fc (d2 false ixD (dV 2) (dC (.int 1))) ff))))))) (gc (dC (.bl false))) sNil) (fJ (sIf (dOr (dB (d2 false leD (d2 false ixD (dV 2) (dC (.int 0))) (dV 1))) (dB (d2 false leD (d2 false ixD (dV 2) (dC (.int 1))) (d2 false ixD (dV 2) (dC (.int 0)))))) (gc (dC (.bl false))) sNil) (fY (d2 false ixD (dV 2) (dC (.int 1))) (fk 1))))) (gc (dC (.bl true))))))
noncomputable def gG:List W->List Bx->O W:=fnD 3 (noX i6)
noncomputable def oF:DSt:=(fJ (fY (d2 false ixD (d2 false ixD (dV 0) (dC (.int 0))) (dV 2)) (fk 4)) (fJ (iZ (dIter (dV 1)) (iS 2 (fR (fk 5) (fR (fk 6) i4))) (sIf (dB (d3 leD ltD (dV 5) (dV 3) (dV 6))) (gc (dN false maxD (fc (d2 false subD (dV 4) (d2 false fdivD (d2 false subD (dV 3) (dV 5)) (d2 false ixD (dV 0) (dC (.int 3))))) (fc (dC (.int 0)) ff)))) sNil)) (gc (dV 4))))
noncomputable def mM:List W->List Bx->O W:=fnD 7 (noX oF)
noncomputable def A2:DSt:=(fJ (sIf (dNot (dB (fv K2.gG 1 (fc (dV 1) ff)))) (gc (dC (.str "outs"))) sNil) (fJ (sIf (dNot (dB (fv K1.gK 3 (fc (dV 2) (fc (dC (.int 0)) (fc (d2 false subD (dN false lenD (fc (d2 false ixD (dV 0) (dC (.int 0))) ff)) (dC (.int 1))) ff)))))) (gc (dC (.str "room"))) sNil) (gc (dIf (dB (fv K2.gP 1 (fc (dV 3) ff))) (fv K2.mM 4 (fc (dV 0) (fc (dV 1) (fc (dV 2) (fc (dV 3) ff))))) (dC (.str "hour"))))))
noncomputable def io:List W->List Bx->O W:=fnD 4 (noX A2)
noncomputable def CF:DSt:=(fJ (iZ (dRng1 (fc (dN false maxD (fc (dC (.int 1)) (fc (dN false minD (fc (dLenS (dV 0)) (fc (dC (.int 6)) ff))) ff))) ff)) (fk 1) (fJ (fY (fv K1.jy 1 (fc (fv K1.ic 2 (fc (dV 0) (fc (dV 1) ff))) ff)) (fk 2)) (fJ (fY (fv K1.iP 1 (fc (dV 2) ff)) (fk 3)) (fJ (fY (fv K2.jz 3 (fc (dV 2) (fc (fv K2.iI 2 (fc (dV 2) (fc (dC (.int 30)) ff))) (fc (gx false ff) ff)))) (iS 3 (fR (fk 4) (fR (fk 5) (fR (fk 6) i4))))) (fJ (iZ (dIter (fv K2.iW 2 (fc (dV 2) (fc (dV 4) ff)))) (fk 7) (fJ (fY (dRepr (dV 7)) (fk 8)) (fJ (sIf (dOr (dB (d2 false neD (dRepr (fv K2.iJ 2 (fc (dV 3) (fc (dV 7) ff)))) (dRepr (fv K2.gG 1 (fc (dV 7) ff))))) (dB (d2 false neD (dRepr (dV 7)) (dV 8)))) (gc (dC (.bl false))) sNil) (sIf (dB (d2 false neD (dRepr (fv K2.ia 4 (fc (dV 3) (fc (dV 7) (fc (dC (.int 0)) (fc (dC (.int 4)) ff)))))) (dRepr (fv K2.io 4 (fc (dV 3) (fc (dV 7) (fc (dC (.int 0)) (fc (dC (.int 4)) ff)))))))) (gc (dC (.bl false))) sNil)))) (fJ (fY (gx false (fc (dC (.int 0)) (fc (d2 false fK (dV 6) (fv K1.fu 2 (fc (dV 2) (fc (dC (.int 200)) ff)))) (fc (d2 false subD (d2 false powD (dC (.int 10)) (dC (.int 40))) (dC (.int 1))) (fc (dC (.bl true)) (fc (dC .non) (fc (dNeg (dC (.int 1))) (fc (dC (.str "3")) (fc (fF (fc (dC (.int 3)) ff)) ff))))))))) (fk 9)) (fJ (iZ (dIter (dV 4)) (iS 2 (fR (fk 10) (fR (fk 11) i4))) (fJ (fY (d2 false fK (dV 9) (gx false (fc (dV 10) (fc (dV 11) (fc (d2 false subD (dV 11) (dC (.int 1))) (fc (dN false maxD (fc (dC (.int 0)) (fc (d2 false subD (dV 10) (dC (.int 1))) ff))) (fc (d2 false fK (dV 10) (fv K1.fu 2 (fc (dV 2) (fc (dC (.int 40)) ff)))) ff))))))) (fk 9)) (iZ (dIter (fF (fc (dC (.int 1)) (fc (dC (.int 2)) (fc (dC (.int 3)) (fc (dC (.int 4)) ff)))))) (fk 12) (fY (d2 false fK (dV 9) (gx false (fc (d2 false fK (dV 10) (d2 false mulD (d2 false ixD (dV 3) (dC (.int 3))) (dV 12))) (fc (d2 false subD (d2 false fK (dV 10) (d2 false mulD (d2 false ixD (dV 3) (dC (.int 3))) (dV 12))) (dC (.int 1))) ff)))) (fk 9))))) (iZ (dIter (d2 false fK (dLR false (fc (d2 false fK (dN false lenD (fc (d2 false ixD (dV 3) (dC (.int 0))) ff)) (dC (.int 1))) ff)) (gx false (fc (dNeg (dC (.int 1))) (fc (dC (.bl true)) (fc (dC .non) (fc (dC (.str "0")) ff))))))) (fk 13) (iZ (dIter (dV 9)) (fk 14) (sIf (dB (d2 false neD (dRepr (fv K2.ia 4 (fc (dV 3) (fc (dV 4) (fc (dV 13) (fc (dV 14) ff)))))) (dRepr (fv K2.io 4 (fc (dV 3) (fc (dV 4) (fc (dV 13) (fc (dV 14) ff)))))))) (gc (dC (.bl false))) sNil)))))))))) (gc (dC (.bl true))))
noncomputable def BP:List W->List Bx->O W:=fnD 15 (noX CF)
end K2
set_option Elab.async false
set_option linter.all false
set_option maxRecDepth 100000
namespace L2.DL
open PySem PySem.Spec PyProof.Rows
section
variable {α β : Type}
@[simp] theorem gI {a:α}{bx:List Bx}{k:α->List Bx->O β}:fO (.val a bx) k=k a bx:=rfl
@[simp] theorem PK {k:α->List Bx->O β}:fO .bad k=.bad:=rfl
@[simp] theorem Ay {a:α}{bx:List Bx}{k:α->List Bx->OS}:bindS (.val a bx) k=k a bx:=rfl
@[simp] theorem PL {k:α->List Bx->OS}:bindS (.bad:O α) k=.bad:=rfl
@[simp] theorem Lx {a:α}{bx:List Bx}{k:α->List Bx->O β}:bindB (.val a bx) k=k a bx:=rfl
end
section
variable {env : DEnv} {bx : List Bx}
@[simp] theorem OV {i:Nat}:dV i env bx=match env[i]? with | some (some w)=>.val w bx | _=>.bad:=rfl
@[simp] theorem Pr {d:D}:dC d env bx=.val (.d d) bx:=rfl
@[simp] theorem BQ:ff env bx=.val [] bx:=rfl
@[simp] theorem Ak {m:DE W}{k:DE (List W)}:fc m k env bx=fO (m env bx) fun w bx1=>fO (k env bx1) fun l bx2=>.val (w :: l) bx2:=rfl
@[simp] theorem C3 {fn:List W->List Bx->O W}{n:Nat}{k:DE (List W)}:fv fn n k env bx=fO (k env bx) fun ws bx1=>if ws.length=n then fn ws bx1 else .bad:=rfl
@[simp] theorem Ps {m:DE W}:dB m env bx=fO (m env bx) fun w bx1=>match w with | .d (.bl k)=>.val k bx1 | _=>.bad:=rfl
@[simp] theorem Pt {m k:DE Bool}:dAnd m k env bx=fO (m env bx) fun b bx1=>match b with | true=>k env bx1 | false=>.val false bx1:=rfl
@[simp] theorem OW {m k:DE Bool}:dOr m k env bx=fO (m env bx) fun b bx1=>match b with | true=>.val true bx1 | false=>k env bx1:=rfl
@[simp] theorem Ob {m:DE Bool}:dNot m env bx=fO (m env bx) fun b bx1=>.val (!b) bx1:=rfl
@[simp] theorem GL {m k:DE W}:iR m k env bx=fO (m env bx) fun w bx1=>match w with | .d (.bl true)=>k env bx1 | .d (.bl false)=>.val (.d (.bl false)) bx1 | _=>.bad:=rfl
@[simp] theorem Pu {m k:DE W}:dOrV m k env bx=fO (m env bx) fun w bx1=>match w with | .d (.bl true)=>.val (.d (.bl true)) bx1 | .d (.bl false)=>k env bx1 | _=>.bad:=rfl
@[simp] theorem Ph {m:DE W}:dNotV m env bx=fO (m env bx) fun w bx1=>match w with | .d (.bl k)=>.val (.d (.bl (!k))) bx1 | _=>.bad:=rfl
@[simp] theorem MR:gZ env bx=.val true bx:=rfl
@[simp] theorem Pi {n:String}{m:DE W}:jL n m env bx=fO (m env bx) fun w bx1=>match rdW bx1 w with | some d=>.val (.d (.bl (subT (tyN d) n))) bx1 | none=>.bad:=rfl
@[simp] theorem Jx {b:Bool}{g:D->D->Option Res}{ma mb:DE W}:d2 b g ma mb env bx=fO (ma env bx) fun x bx1=>fO (mb env bx1) fun y bx2=>resO b ((rdW bx2 x).bind fun p=>(rdW bx2 y).bind fun q=>g p q) bx2:=rfl
@[simp] theorem Jy {b:Bool}{g:List D->Option Res}{k:DE (List W)}:dN b g k env bx=fO (k env bx) fun ws bx1=>resO b ((rdWs bx1 ws).bind g) bx1:=rfl
@[simp] theorem PM {g g':D->D->Option Res}{ma mb mc:DE W}:d3 g g' ma mb mc env bx=fO (ma env bx) fun x bx1=>fO (mb env bx1) fun y bx2 =>
  fO (resO false ((rdW bx2 x).bind fun p=>(rdW bx2 y).bind fun q=>g p q) bx2) fun z bx3=>match z with
    | .d (.bl true)=>fO (mc env bx3) fun w bx4=>resO false ((rdW bx4 y).bind fun p=>(rdW bx4 w).bind fun q=>g' p q) bx4
    | .d (.bl false)=>.val (.d (.bl false)) bx3
    | _=>.bad:=rfl
@[simp] theorem An {d:D}:rdW bx (.d d)=some d:=rfl
@[simp] theorem AM:rdWs bx []=some []:=rfl
@[simp] theorem BR {d:D}{l:List W}:rdWs bx (.d d :: l)=(rdWs bx l).map fun t=>d :: t:=by
  simp only [rdWs,An]
  cases rdWs bx l <;> rfl
@[simp] theorem OE {b:Bool}:resO b none bx=.bad:=rfl
@[simp] theorem i3 {q:Res}:resO false (some q) bx=.val (.d q.toD) bx:=by cases q <;> rfl
@[simp] theorem Oc {l:List D}:resO true (some (.lst l)) bx=.val (.b bx.length) (bx ++ [.lst l]):=rfl
@[simp] theorem C4 {d:D}:(Res.old d).toD=d:=rfl
@[simp] theorem C5 {l:List D}:(Res.tup l).toD=.tup l:=rfl
@[simp] theorem mO {l:List D}:(Res.lst l).toD=.lst l:=rfl
@[simp] theorem Pj {l:List (Key × D)}:(Res.dic l).toD=.dic l:=rfl
@[simp] theorem Pv:sNil env bx=.nx env bx:=rfl
@[simp] theorem C6 {m k:DSt}:fJ m k env bx=match m env bx with | .nx env1 bx1=>k env1 bx1 | o=>o:=rfl
@[simp] theorem GM {m:DE W}:lu m env bx=bindS (m env bx) fun _ bx1=>.nx env bx1:=rfl
@[simp] theorem C7 {m:DE W}:gc m env bx=bindS (m env bx) fun w bx1=>.rt w bx1:=rfl
@[simp] theorem Ly {t:DE Bool}{m k:DSt}:sIf t m k env bx=bindS (t env bx) fun b bx1=>match b with | true=>m env bx1 | false=>k env bx1:=rfl
@[simp] theorem A3 {m:DE W}{g:DG}:fY m g env bx=bindS (m env bx) fun w bx1=>match g w env bx1 with | some (env1,bx2)=>.nx env1 bx2 | none=>.bad:=rfl
@[simp] theorem Lz {m:DE (List W)}{g:DG}{body:DSt}:iZ m g body env bx=bindS (m env bx) fun ds bx1=>forD g body ds env bx1:=rfl
@[simp] theorem oZ {i:Nat}{w:W}:fk i w env bx=some (env.set i (some w),bx):=rfl
@[simp] theorem Pk:i4 [] env bx=some (env,bx):=rfl
@[simp] theorem OX {g:DG}{k:DGs}{w:W}{l:List W}:fR g k (w :: l) env bx=(g w env bx).bind fun (env1,bx1)=>k l env1 bx1:=rfl
@[simp] theorem Pl {n:Nat}{k:DGs}{l:List D}:iS n k (.d (.tup l)) env bx=if l.length=n then k (l.map W.d) env bx else none:=rfl
@[simp] theorem Al {bo:Bool}{src:List (Option Nat)}{mi:DE (List W)}{g:DG}{tf:DE Bool}{te:DE W}:gT bo src mi g tf te env bx=fO (mi env bx) fun ds bx1=>fO (compD g tf te ds (srcEnv src env) bx1 []) fun l bx2=>resO bo (some (.lst l)) bx2:=rfl
@[simp] theorem F7:srcEnv [] env=[]:=rfl
@[simp] theorem Fb {l:List (Option Nat)}:srcEnv (none :: l) env=none :: srcEnv l env:=rfl
@[simp] theorem Fc {i:Nat}{l:List (Option Nat)}:srcEnv (some i :: l) env=((env[i]?).bind id) :: srcEnv l env:=rfl
@[simp] theorem GN {m:DE W}:dIter m env bx=fO (m env bx) fun w bx1=>match w with | .d (.lst l)=>.val (l.map W.d) bx1 | .d (.tup l)=>.val (l.map W.d) bx1 | _=>.bad:=rfl
@[simp] theorem Od {k:DE (List W)}:fF k env bx=fO (k env bx) fun ws bx1=>resO false ((dsOf ws).bind fun l=>if l.length <= sizeLine then some (.tup l) else none) bx1:=rfl
@[simp] theorem LA {bo:Bool}{k:DE (List W)}:gx bo k env bx=fO (k env bx) fun ws bx1=>resO bo ((dsOf ws).bind fun l=>if l.length <= sizeLine then some (.lst l) else none) bx1:=rfl
@[simp] theorem OY:dsOf []=some []:=rfl
@[simp] theorem Oe {d:D}{l:List W}:dsOf (.d d :: l)=(dsOf l).map fun t=>d :: t:=rfl
@[simp] theorem Of {m:DE W}:dNeg m env bx=fO (m env bx) fun w bx1=>match w with | .d (.int i)=>.val (.d (.int (-i))) bx1 | _=>.bad:=rfl
@[simp] theorem OZ {bo:Bool}{m:DE W}{l u:DE (Option Int)}:dSl bo m l u env bx=fO (m env bx) fun x bx1=>fO (l env bx1) fun i bx2=>fO (u env bx2) fun j bx3=>resO bo ((rdW bx3 x).bind fun d=>slD d i j) bx3:=rfl
@[simp] theorem PJ:dNo env bx=.val none bx:=rfl
@[simp] theorem MS {m:DE W}:dPart m env bx=fO (m env bx) fun w bx1=>match w with | .d (.int i)=>.val (some i) bx1 | _=>.bad:=rfl
@[simp] theorem Pw {bo:Bool}{m:DE W}:dRev bo m env bx=fO (m env bx) fun x bx1=>resO bo ((rdW bx1 x).bind fun d=>match d with | .lst l=>some (.lst l.reverse) | _=>none) bx1:=rfl
theorem Pm {n:Nat}{ws:List W}:DL.envOf n ws=ws.map some ++ List.replicate (n - ws.length) none:=rfl
theorem iK {n:Nat}{m:DSt}{ws:List W}{d:D} (h:m (ws.map some ++ List.replicate (n - ws.length) none) bx=.rt (.d d) bx):fnD n (noX m) ws bx=.val (.d d) bx:=by
  simp only [fnD,noX,DL.envOf,h,retO,cutO,List.take_length]
end
end L2.DL
set_option Elab.async false
set_option linter.all false
set_option maxRecDepth 100000
set_option maxHeartbeats 1000000
namespace K1
open PySem PySem.Spec PyProof.Rows L2 L2.DL
noncomputable def wh:D->Bool
  | .int _=>true
  | _=>false
noncomputable def wi (d:D) (lo hi:Int):Bool:=match d with
  | .int i=>decide (lo <= i) && decide (i <= hi)
  | _=>false
noncomputable def tl (d:D) (lo hi:Int):Bool:=match d with
  | .tup l=>decide (lo <= (l.length:Int)) && decide ((l.length:Int) <= hi)
  | _=>false
theorem LB (d:D):subT (tyN d) "int"=(match d with | .int _=>true | .bl _=>true | _=>false):=by cases d <;> rfl
theorem GO (d:D):subT (tyN d) "bool"=(match d with | .bl _=>true | _=>false):=by cases d <;> rfl
theorem mE (d:D):subT (tyN d) "tuple"=(match d with | .tup _=>true | _=>false):=by cases d <;> rfl
theorem Fd (d:D) (bx:List Bx):jD [.d d] bx=.val (.d (.bl (wh d))) bx :=
  iK (by cases d <;> simp [Au,LB,GO,wh])
theorem A4 (d:D) (bx:List Bx):gL [.d d] bx=.val (.d (.bl (wh d))) bx :=
  iK (by cases d <;> simp [oX,LB,GO,wh])
theorem lX (d:D) (lo hi:Int) (bx:List Bx):ge [.d d,.d (.int lo),.d (.int hi)] bx=.val (.d (.bl (wi d lo hi))) bx :=
  iK (by
    cases d <;> simp [oV,Fd,wh,wi,leD]
    rename_i i
    by_cases h:lo <= i <;> simp [h])
theorem F8 (d:D) (lo hi:Int) (bx:List Bx):gK [.d d,.d (.int lo),.d (.int hi)] bx=.val (.d (.bl (wi d lo hi))) bx :=
  iK (by
    cases d <;> simp [oC,A4,wh,wi,leD]
    rename_i i
    by_cases h:lo <= i <;> simp [h])
theorem gC (d:D) (lo hi:Int) (bx:List Bx):fT [.d d,.d (.int lo),.d (.int hi)] bx=.val (.d (.bl (tl d lo hi))) bx :=
  iK (by
    cases d <;> simp [Av,mE,tl,leD,lenD]
    rename_i l
    by_cases h:lo <= (l.length:Int) <;> simp [h])
theorem C8 {g:DG}{tf:DE Bool}{te:DE W} (J:DEnv->Prop) (p:D->Bool) (f:D->D) {bx:List Bx}:∀ (l:List D) (env:DEnv) (acc:List D),J env ->
    (∀ d ∈ l,∀ env,J env->∃ env',g (.d d) env bx=some (env',bx) /\ J env' /\ tf env' bx=.val (p d) bx /\ (p d=true->te env' bx=.val (.d (f d)) bx))->acc.length + l.length <= sizeLine ->
    compD g tf te (l.map W.d) env bx acc=.val (acc ++ (l.filter p).map f) bx
  | [],env,acc,_,_,_=>by simp [compD]
  | d :: l,env,acc,j,h,n=>by
    obtain ⟨env',e1,j',e2,e3⟩:=h d (List.mem_cons_self ..) env j
    have n':acc.length < sizeLine:=by simp only [List.length_cons] at n;omega
    simp only [List.map_cons,compD,e1,e2,Lx]
    have h':=fun x (m:x ∈ l)=>h x (List.mem_cons_of_mem _ m)
    cases q:p d with
    | false =>
      simp only [List.filter_cons,q]
      exact C8 J p f l env' acc j' h' (by simp only [List.length_cons] at n;omega)
    | true =>
      simp only [List.filter_cons,q,e3 q,Lx,if_pos n']
      rw [C8 J p f l env' (acc ++ [f d]) j' h' (by simp only [List.length_append,List.length_cons,List.length_nil] at n ⊢;omega)]
      simp
theorem jp {g:DG}{te:DE W} (J:DEnv->Prop) (f:D->D) {bx:List Bx}{l:List D}{env:DEnv} (j:J env) (h:∀ d ∈ l,∀ env,J env->∃ env',g (.d d) env bx=some (env',bx) /\ J env' /\ te env' bx=.val (.d (f d)) bx) (n:l.length <= sizeLine) :
    compD g gZ te (l.map W.d) env bx []=.val (l.map f) bx:=by
  rw [C8 (tf:=gZ) J (fun _=>true) f l env [] j (fun d m e je=>let ⟨e',a,b,c⟩:=h d m e je;⟨e',a,b,rfl,fun _=>c⟩) (by simpa using n)]
  rw [List.filter_eq_self.mpr (fun _ _=>rfl)];rfl
theorem LC (l:List D) (p:D->Bool):bolsOf (l.map fun d=>D.bl (p d))=some (l.map p):=by
  induction l with
  | nil=>rfl
  | cons d l ih=>simp [bolsOf,ih]
@[simp] theorem all_map (l:List D) (p:D->Bool):allD [.lst (l.map fun d=>D.bl (p d))]=some (.old (.bl (l.all p))):=by
  simp [allD,LC,List.all_map]
noncomputable def rooms (d:D):Bool:=match d with
  | .tup l=>tl (.tup l) 1 5 && l.all fun x=>wi x 0 3
  | _=>false
theorem sl5:(5:Nat) <= sizeLine:=by decide
theorem o6 {l:List D}{lo hi:Int} (h:tl (.tup l) lo hi=true):lo <= (l.length:Int) /\ (l.length:Int) <= hi:=by simpa [tl] using h
theorem LD (d:D) (bx:List Bx):jM [.d d] bx=.val (.d (.bl (rooms d))) bx :=
  iK (by
    cases d with
    | tup l =>
      cases h:tl (.tup l) 1 5 with
      | false=>simp [lx,gC,h,rooms]
      | true =>
        have n:=o6 h
        simp [lx,gC,h,rooms]
        rw [jp (fun e=>∃ w,e=[w]) (fun x=>.bl (wi x 0 3)) ⟨none,rfl⟩ (fun x _ e ⟨w,je⟩=>⟨[some (.d x)],by simp [je],⟨_,rfl⟩,by simp [lX]⟩) (by have:=sl5;omega)]
        simp
    | _=>simp [lx,gC,tl,rooms])
noncomputable def fallD:List D->Bool
  | x :: y :: l=>(match x,y with | .int i,.int j=>decide (j <= i) | _,_=>false) && fallD (y :: l)
  | _=>true
noncomputable def rates (d:D):Bool:=match d with
  | .tup l=>tl (.tup l) 4 4 && (l.all (fun x=>wi x 0 9) && fallD l)
  | _=>false
theorem LE (d:D) (bx:List Bx):lR [.d d] bx=.val (.d (.bl (rates d))) bx :=
  iK (by
    cases d with
    | tup l =>
      cases h:tl (.tup l) 4 4 with
      | false=>simp [ly,gC,h,rates,fK]
      | true =>
        have n:=o6 h
        simp [ly,gC,h,rates,fK]
        rw [jp (fun e=>∃ w,e=[w]) (fun x=>.bl (wi x 0 9)) ⟨none,rfl⟩ (fun x _ e ⟨w,je⟩=>⟨[some (.d x)],by simp [je],⟨_,rfl⟩,by simp [lX]⟩) (by have:=sl5;omega)]
        simp
        cases q:l.all fun x=>wi x 0 9 with
        | false=>simp
        | true =>
          have l4:l.length=4:=by omega
          obtain ⟨a,l,rfl⟩:∃ a t,l=a :: t:=List.exists_cons_of_length_pos (by omega)
          obtain ⟨b,l,rfl⟩:∃ a t,l=a :: t:=List.exists_cons_of_length_pos (by simp at l4;omega)
          obtain ⟨c,l,rfl⟩:∃ a t,l=a :: t:=List.exists_cons_of_length_pos (by simp at l4;omega)
          obtain ⟨e,l,rfl⟩:∃ a t,l=a :: t:=List.exists_cons_of_length_pos (by simp at l4;omega)
          obtain rfl:l=[]:=by simpa using l4
          have isI:∀ x,wi x 0 9=true->∃ i,x=.int i:=fun x hx=>by
            cases x <;> simp [wi] at hx
            exact ⟨_,rfl⟩
          simp at q
          obtain ⟨a,rfl⟩:=isI a q.1
          obtain ⟨b,rfl⟩:=isI b q.2.1
          obtain ⟨c,rfl⟩:=isI c q.2.2.1
          obtain ⟨e,rfl⟩:=isI e q.2.2.2
          simp [dZip,slD,DL.cutD,HT.sIx,zipW,compD,leD,fallD,allD,bolsOf,sizeLine]
    | _=>simp [ly,gC,tl,rates,fK])
theorem tl2 {l:List D} (h:tl (.tup l) 2 2=true):∃ a b,l=[a,b]:=by
  have n:=o6 h
  obtain ⟨a,l,rfl⟩:∃ a t,l=a :: t:=List.exists_cons_of_length_pos (by omega)
  obtain ⟨b,l,rfl⟩:∃ a t,l=a :: t:=List.exists_cons_of_length_pos (by simp at n;omega)
  have:l.length=0:=by simp at n;omega
  exact ⟨a,b,by rw [List.eq_nil_of_length_eq_zero this]⟩
theorem tl4 {l:List D} (h:tl (.tup l) 4 4=true):∃ a b c e,l=[a,b,c,e]:=by
  have n:=o6 h
  obtain ⟨a,l,rfl⟩:∃ a t,l=a :: t:=List.exists_cons_of_length_pos (by omega)
  obtain ⟨b,l,rfl⟩:∃ a t,l=a :: t:=List.exists_cons_of_length_pos (by simp at n;omega)
  obtain ⟨c,l,rfl⟩:∃ a t,l=a :: t:=List.exists_cons_of_length_pos (by simp at n;omega)
  obtain ⟨e,l,rfl⟩:∃ a t,l=a :: t:=List.exists_cons_of_length_pos (by simp at n;omega)
  have:l.length=0:=by simp at n;omega
  exact ⟨a,b,c,e,by rw [List.eq_nil_of_length_eq_zero this]⟩
theorem Az {x:D}{lo hi:Int} (h:wi x lo hi=true):∃ i,x=.int i /\ lo <= i /\ i <= hi:=by
  cases x <;> simp [wi] at h
  exact ⟨_,rfl,h⟩
noncomputable def kind (d:D):Bool:=match d with
  | .tup l=>tl (.tup l) 2 2 && (match l with | [a,b]=>wi a 1 999 && rates b | _=>false)
  | _=>false
theorem MT (d:D) (bx:List Bx):oB [.d d] bx=.val (.d (.bl (kind d))) bx :=
  iK (by
    cases d with
    | tup l =>
      cases h:tl (.tup l) 2 2 with
      | false=>simp [m9,gC,h,kind]
      | true =>
        obtain ⟨a,b,rfl⟩:=tl2 h
        simp [m9,gC,h,kind,ixD,atI,ixN,lX]
        cases q:wi a 1 999 <;> simp [LE]
    | _=>simp [m9,gC,tl,kind])
noncomputable def kinds (d:D):Bool:=match d with
  | .tup l=>tl (.tup l) 1 4 && l.all kind
  | _=>false
theorem LF (d:D) (bx:List Bx):jN [.d d] bx=.val (.d (.bl (kinds d))) bx :=
  iK (by
    cases d with
    | tup l =>
      cases h:tl (.tup l) 1 4 with
      | false=>simp [lz,gC,h,kinds]
      | true =>
        have n:=o6 h
        simp [lz,gC,h,kinds]
        rw [jp (fun e=>∃ w,e=[w]) (fun x=>.bl (kind x)) ⟨none,rfl⟩ (fun x _ e ⟨w,je⟩=>⟨[some (.d x)],by simp [je],⟨_,rfl⟩,by simp [MT]⟩) (by have:=sl5;omega)]
        simp
    | _=>simp [lz,gC,tl,kinds])
noncomputable def pairA (n:Int) (d:D):Bool:=match d with
  | .tup l=>tl (.tup l) 2 2 && (match l with | [.int a,.int b]=>decide (0 <= a) && decide (a < b) && decide (b <= n - 1) | _=>false)
  | _=>false
theorem LG (d:D) (n:Int) (bx:List Bx):iC [.d d,.d (.int n)] bx=.val (.d (.bl (pairA n d))) bx :=
  iK (by
    cases d with
    | tup l =>
      cases h:tl (.tup l) 2 2 with
      | false=>simp [iU,gC,h,pairA]
      | true =>
        obtain ⟨a,b,rfl⟩:=tl2 h
        simp [iU,gC,h,pairA,ixD,atI,ixN]
        have c:=jp (g:=fk 0) (te:=fv ge 3 (fc (dV 0) (fc (dC (.int 0)) (fc (d2 false subD (dV 1) (dC (.int 1))) ff)))) (bx:=bx) (l:=[a,b]) (fun e=>∃ w,e=[w,some (.d (.int n))]) (fun x=>.bl (wi x 0 (n - 1))) ⟨none,rfl⟩ (fun x _ e ⟨w,je⟩=>⟨[some (.d x),some (.d (.int n))],by simp [je],⟨_,rfl⟩,by simp [lX,subD]⟩) (show (2:Nat) <= sizeLine by decide)
        simp only [List.map_cons,List.map_nil] at c
        rw [c]
        have e:=all_map [a,b] fun x=>wi x 0 (n - 1)
        simp only [List.map_cons,List.map_nil] at e
        simp [e]
        cases q1:wi a 0 (n - 1) with
        | false =>
          cases a <;> cases b <;> simp [wi] at q1 ⊢
          omega
        | true =>
          cases q2:wi b 0 (n - 1) with
          | false =>
            obtain ⟨i,rfl,i1,i2⟩:=Az q1
            cases b <;> simp [wi] at q2 ⊢
            omega
          | true =>
            obtain ⟨i,rfl,i1,i2⟩:=Az q1
            obtain ⟨j,rfl,j1,j2⟩:=Az q2
            simp [ltD,i1,j2]
    | _=>simp [iU,gC,tl,pairA])
end K1
set_option Elab.async false
set_option linter.all false
set_option maxRecDepth 100000
set_option maxHeartbeats 1000000
namespace K1
open PySem PySem.Spec PyProof.Rows L2 L2.DL
noncomputable abbrev dP (p:Int × Int):D:=.tup [.int p.1,.int p.2]
noncomputable def ltP (p q:Int × Int):Bool:=HT.lexLt [p.1,p.2] [q.1,q.2]
theorem LH {n:Int}{d:D} (h:pairA n d=true):∃ p:Int × Int,d=dP p /\ 0 <= p.1 /\ p.1 < p.2 /\ p.2 <= n - 1:=by
  cases d with
  | tup l =>
    simp only [pairA,Bool.and_eq_true] at h
    obtain ⟨a,b,rfl⟩:=tl2 h.1
    have h2:=h.2
    cases a <;> cases b <;> simp at h2
    exact ⟨(_,_),rfl,h2.1.1,h2.1.2,h2.2⟩
  | _=>simp [pairA] at h
theorem Fe {n:Int}:∀ {l:List D},l.all (pairA n)=true->∃ ps:List (Int × Int),l=ps.map dP /\ ∀ p ∈ ps,0 <= p.1 /\ p.1 < p.2 /\ p.2 <= n - 1
  | [],_=>⟨[],rfl,fun p m=>by cases m⟩
  | d :: l,h=>by
    simp only [List.all_cons,Bool.and_eq_true] at h
    obtain ⟨p,rfl,hp⟩:=LH h.1
    obtain ⟨ps,rfl,hs⟩:=Fe h.2
    exact ⟨p :: ps,rfl,fun q m=>by
      rcases List.mem_cons.mp m with rfl | m
      . exact hp
      . exact hs q m⟩
noncomputable def incr:List (Int × Int)->Bool
  | p :: q :: r=>ltP p q && incr (q :: r)
  | _=>true
theorem BS:∀ ps:List (Int × Int),incr ps=(List.range (ps.length - 1)).all fun i=>ltP (ps.getD i (0,0)) (ps.getD (i + 1) (0,0))
  | []=>rfl
  | [p]=>rfl
  | p :: q :: r=>by
    rw [incr,BS (q :: r)]
    simp only [List.length_cons,Nat.add_sub_cancel]
    rw [List.range_succ_eq_map,List.all_cons,List.all_map]
    rfl
theorem GP {ps:List (Int × Int)}{i:Nat} (h:i < ps.length):atI (ps.map dP) (i:Int)=some (dP (ps.getD i (0,0))):=by
  unfold atI ixN
  simp [h,List.getD]
theorem Og {k:DE (List W)}{env:DEnv}{bx bx1:List Bx}{i j:Int} (e:k env bx=.val [.d (.int i),.d (.int j)] bx1) (h:(-(2 ^ 62) <= i /\ i < 2 ^ 62) /\ -(2 ^ 62) <= j /\ j < 2 ^ 62):dRng2 k env bx=.val (gm i (j - i).toNat) bx1:=by
  unfold dRng2
  rw [e,gI]
  exact if_pos h
theorem A5 {k:DE (List W)}{env:DEnv}{bx bx1:List Bx}{j:Int} (e:k env bx=.val [.d (.int j)] bx1) (h:-(2 ^ 62) <= j /\ j < 2 ^ 62):dRng1 k env bx=.val (gm 0 j.toNat) bx1:=by
  unfold dRng1
  rw [e,gI]
  exact if_pos h
theorem GQ (lo:Int) (n:Nat):gm lo n=((List.range n).map fun (i:Nat)=>D.int (lo + (i:Int))).map W.d:=by
  unfold gm
  rw [List.map_map]
  rfl
theorem Jz (ps:List (Int × Int)) (n:ps.length <= sizeLine) (bx:List Bx):lQ [.d (.tup (ps.map dP))] bx=.val (.d (.bl (incr ps))) bx :=
  iK (by
    have s2:sizeLine=16777216:=sizeLine_eq
    have r:dRng2 (fc (dC (.int 1)) (fc (dN false lenD (fc (dV 0) ff)) ff)) [some (.d (.tup (ps.map dP)))] bx=.val (gm 1 (((ps.length:Nat):Int) - 1).toNat) bx:=Og (by simp [lenD]) (by omega)
    simp only [oW,C7,Jy,Ak,Al,List.map_cons,List.map_nil,List.length_cons,List.length_nil,Nat.sub_self,List.replicate_zero,List.append_nil,r,gI,GQ,Fb,Fc,F7,List.getElem?_cons_zero,Option.bind_some,id]
    rw [jp (fun e=>∃ w,e=[w,some (.d (.tup (ps.map dP)))]) (fun x=>.bl (match x with | .int i=>ltP (ps.getD (i.toNat - 1) (0,0)) (ps.getD i.toNat (0,0)) | _=>false)) ⟨none,rfl⟩ ?_ (by rw [List.length_map,List.length_range];omega)]
    . simp only [gI,BQ,i3,mO,BR,AM,Option.map_some,Option.bind_some]
      rw [all_map,i3,C4,Ay,List.all_map,show ((ps.length:Int) - 1).toNat=ps.length - 1 by omega]
      have z:((fun x:D=>match x with | .int i=>ltP (ps.getD (i.toNat - 1) (0,0)) (ps.getD i.toNat (0,0)) | _=>false) ∘ fun (i:Nat)=>D.int (1 + (i:Int)))=fun i=>ltP (ps.getD i (0,0)) (ps.getD (i + 1) (0,0)):=by
        funext i
        show ltP (ps.getD ((1 + (i:Int)).toNat - 1) (0,0)) (ps.getD (1 + (i:Int)).toNat (0,0))=_
        rw [show (1 + (i:Int)).toNat=i + 1 by omega,Nat.add_sub_cancel]
      rw [z,<-BS]
    . intro x m e ⟨w,je⟩
      obtain ⟨i,mi,rfl⟩:=List.mem_map.mp m
      have hi:i < ((ps.length:Int) - 1).toNat:=List.mem_range.mp mi
      refine ⟨[some (.d (.int (1 + (i:Int)))),some (.d (.tup (ps.map dP)))],by simp [je],⟨_,rfl⟩,?_⟩
      have a1:=GP (ps:=ps) (i:=i) (by omega)
      have a2:=GP (ps:=ps) (i:=i + 1) (by omega)
      rw [show ((i + 1:Nat):Int)=1 + (i:Int) by omega] at a2
      simp only [Jx,OV,Pr,List.getElem?_cons_zero,List.getElem?_cons_succ,gI,An,Option.bind_some,ixD,subD,i3,C4,show 1 + (i:Int) - 1=(i:Int) by omega,a1,a2,Option.map_some,ltD,dP,intsOf]
      rw [show (1 + (i:Int)).toNat=i + 1 by omega]
      rfl)
end K1
set_option Elab.async false
set_option linter.all false
set_option maxRecDepth 100000
set_option maxHeartbeats 1000000
namespace K1
open PySem PySem.Spec PyProof.Rows L2 L2.DL
noncomputable def toP:D->Option (Int × Int)
  | .tup [.int a,.int b]=>some (a,b)
  | _=>none
theorem Bo (ps:List (Int × Int)):(ps.map dP).filterMap toP=ps:=by
  induction ps with
  | nil=>rfl
  | cons p ps ih=>rw [List.map_cons,List.filterMap_cons,ih];rfl
noncomputable def apart (n:Int) (d:D):Bool:=match d with
  | .tup l=>l.all (pairA n) && incr (l.filterMap toP)
  | _=>false
noncomputable def short (d:D):Prop:=match d with
  | .tup l=>l.length <= sizeLine
  | _=>True
theorem F9 (l:List D) (n:Int) (h':l.length <= sizeLine) (bx:List Bx):compD (fk 0) gZ (fv iC 2 (fc (dV 0) (fc (dV 1) ff))) (l.map W.d) [none,some (.d (.int n))] bx []=.val (l.map fun x=>.bl (pairA n x)) bx :=
  jp (fun e=>∃ w,e=[w,some (.d (.int n))]) (fun x=>.bl (pairA n x)) ⟨none,rfl⟩ (fun x _ e ⟨w,je⟩=>⟨[some (.d x),some (.d (.int n))],by simp [je],⟨_,rfl⟩,by simp [LG]⟩) h'
theorem JA (d:D) (n:Int) (bx:List Bx) (h:∀ l,d ≠ .tup l):ij [.d d,.d (.int n)] bx=.val (.d (.bl (apart n d))) bx :=
  iK (by
    cases d with
    | tup l=>exact absurd rfl (h l)
    | _=>simp [lA,mE,apart])
theorem JB {fp:List W->List Bx->O W}{l:List D}{n:Int}{bx:List Bx} (c:compD (fk 0) gZ (fv fp 2 (fc (dV 0) (fc (dV 1) ff))) (l.map W.d) [none,some (.d (.int n))] bx []=.val (l.map fun x=>.bl (pairA n x)) bx) :
    dN false allD (fc (gT false [none,some 1] (dIter (dV 0)) (fk 0) gZ (fv fp 2 (fc (dV 0) (fc (dV 1) ff)))) ff) [some (.d (.tup l)),some (.d (.int n))] bx=.val (.d (.bl (l.all (pairA n)))) bx:=by
  have i:dIter (dV 0) [some (.d (.tup l)),some (.d (.int n))] bx=.val (l.map W.d) bx:=rfl
  rw [Jy,Ak,Al,i,gI,show srcEnv [none,some 1] [some (W.d (.tup l)),some (W.d (.int n))]=[none,some (W.d (.int n))] from rfl,c,gI,i3,gI,BQ,gI,gI,BR,AM,Option.map_some,Option.bind_some,mO,all_map,i3,C4]
theorem MU {m k:DE W}{env:DEnv}{bx bx1:List Bx}{b:Bool} (h:m env bx=.val (.d (.bl b)) bx1):iR m k env bx=if b then k env bx1 else .val (.d (.bl false)) bx1:=by
  rw [GL,h];cases b <;> rfl
theorem Oh {t:DE Bool}{m k:DSt}{env:DEnv}{bx:List Bx} (h:t env bx=.val false bx):fJ (sIf t m sNil) k env bx=k env bx:=by
  rw [C6,Ly,h];rfl
theorem Oi {l:List D}{w:Option W}{bx:List Bx}:dNot (dB (jL "tuple" (dV 0))) [some (.d (.tup l)),w] bx=.val false bx:=by
  simp [mE]
theorem JC (l:List D) (n:Int) (bx:List Bx) (h':l.length <= sizeLine):ij [.d (.tup l),.d (.int n)] bx=.val (.d (.bl (apart n (.tup l)))) bx:=by
  have e1:=JB (F9 l n h' bx)
  refine iK ?_
  show lA [some (.d (.tup l)),some (.d (.int n))] bx=OS.rt (.d (.bl (l.all (pairA n) && incr (l.filterMap toP)))) bx
  unfold lA
  rw [Oh Oi,C7,MU e1]
  cases q:l.all (pairA n) with
  | false=>rfl
  | true =>
    obtain ⟨ps,e,_⟩:=Fe q
    subst e
    have r:=Jz ps (by rw [List.length_map] at h';exact h') bx
    rw [if_pos rfl,C3,Ak,show dV 0 [some (W.d (.tup (ps.map dP))),some (W.d (.int n))] bx=.val (.d (.tup (ps.map dP))) bx from rfl,gI,BQ,gI,gI,if_pos (show [W.d (D.tup (ps.map dP))].length=1 from rfl),r,Ay,Bo,Bool.true_and]
theorem LJ (d:D) (n:Int) (h:short d) (bx:List Bx):ij [.d d,.d (.int n)] bx=.val (.d (.bl (apart n d))) bx:=by
  cases d with
  | tup l=>exact JC l n bx (by simpa only [short] using h)
  | _=>exact JA _ n bx (fun l e=>by cases e)
noncomputable def lenOf:D->Int
  | .tup l=>l.length
  | _=>0
noncomputable def house (d:D):Bool:=match d with
  | .tup [r,k,p,h]=>rooms r && (kinds k && (apart (lenOf k) p && wi h 1 9))
  | _=>false
noncomputable def okH (d:D):Prop:=match d with
  | .tup [_,_,p,_]=>short p
  | _=>True
theorem JD {k:D} (h:kinds k=true):∃ l,k=.tup l:=by
  cases k with
  | tup l=>exact ⟨l,rfl⟩
  | _=>simp [kinds] at h
theorem LK (d:D) (ok:okH d) (bx:List Bx):iH [.d d] bx=.val (.d (.bl (house d))) bx :=
  iK (by
    cases d with
    | tup l =>
      cases t:tl (.tup l) 4 4 with
      | false =>
        have e:house (.tup l)=false:=by
          unfold house
          split
          . rename_i q;cases q;simp [tl] at t
          . rfl
        simp [mz,gC,t,e]
      | true =>
        obtain ⟨r,k,p,h,rfl⟩:=tl4 t
        have e1:=gC (.tup [r,k,p,h]) 4 4 bx
        have e2:=LD r bx
        have e3:=LF k bx
        have e4:∀ n:Int,ij [.d p,.d (.int n)] bx=.val (.d (.bl (apart n p))) bx:=fun n=>LJ p n (by simpa only [okH] using ok) bx
        have e5:=lX h 1 9 bx
        rw [t] at e1
        unfold mz
        generalize fT=f1 at e1 ⊢
        generalize jM=f2 at e2 ⊢
        generalize jN=f3 at e3 ⊢
        generalize ij=f4 at e4 ⊢
        generalize ge=f5 at e5 ⊢
        simp [e1,e2,house]
        cases q1:rooms r with
        | false=>simp
        | true =>
          simp [e3]
          cases q2:kinds k with
          | false=>simp
          | true =>
            obtain ⟨l,rfl⟩:=JD q2
            simp [lenD,e4,lenOf]
            cases q3:apart (l.length:Int) p <;> simp [e5]
    | _=>simp [mz,gC,tl,house])
end K1
set_option Elab.async false
set_option linter.all false
set_option maxRecDepth 100000
set_option maxHeartbeats 1000000
namespace K1
open PySem PySem.Spec PyProof.Rows L2 L2.DL
theorem Ff:∀ ns:List Int,intsOf (ns.map D.int)=some ns
  | []=>rfl
  | n :: ns=>by rw [List.map_cons,intsOf,Ff ns];rfl
theorem GR:∀ ns:List Int,fallD (ns.map D.int)=true ↔ ns.Pairwise (fun a b=>b <= a)
  | []=>by simp [fallD]
  | [x]=>by simp [fallD]
  | x :: y :: l=>by
    have ih:=GR (y :: l)
    simp only [List.map_cons] at ih ⊢
    simp only [fallD,Bool.and_eq_true,decide_eq_true_eq,ih]
    constructor
    . intro ⟨h,p⟩
      refine List.pairwise_cons.mpr ⟨fun z m=>?_,p⟩
      rcases List.mem_cons.mp m with rfl | m
      . exact h
      . exact Int.le_trans ((List.pairwise_cons.mp p).1 z m) h
    . intro p
      have q:=List.pairwise_cons.mp p
      exact ⟨q.1 y (List.mem_cons_self ..),q.2⟩
theorem Fg {lo hi:Int}:∀ {l:List D},(l.all fun x=>wi x lo hi)=true->∃ ns:List Int,l=ns.map D.int
  | [],_=>⟨[],rfl⟩
  | d :: l,h=>by
    simp only [List.all_cons,Bool.and_eq_true] at h
    obtain ⟨i,rfl,_⟩:=Az h.1
    obtain ⟨ns,rfl⟩:=Fg h.2
    exact ⟨i :: ns,rfl⟩
end K1
set_option Elab.async false
set_option linter.all false
set_option maxRecDepth 100000
set_option maxHeartbeats 1000000
namespace K1
open PySem PySem.Spec PyProof.Rows L2 L2.DL
end K1
set_option Elab.async false
set_option linter.all false
set_option maxRecDepth 100000
set_option maxHeartbeats 1000000
namespace K1
open PySem PySem.Spec PyProof.Rows L2 L2.DL
end K1
set_option Elab.async false
set_option linter.all false
set_option maxRecDepth 100000
set_option maxHeartbeats 1000000
namespace K1
open PySem PySem.Spec PyProof.Rows L2 L2.DL
end K1
set_option Elab.async false
set_option linter.all false
set_option maxRecDepth 100000
set_option maxHeartbeats 1000000
namespace K1
open PySem PySem.Spec PyProof.Rows L2 L2.DL
noncomputable def isT:D->Bool
  | .tup _=>true
  | _=>false
theorem o7 (d:D):subT (tyN d) "tuple"=isT d:=by cases d <;> rfl
theorem Oj {r:D} (h:isT r=true):∃ l,r=.tup l:=by
  cases r with
  | tup l=>exact ⟨l,rfl⟩
  | _=>simp [isT] at h
end K1
set_option Elab.async false
set_option linter.all false
set_option maxRecDepth 100000
set_option exponentiation.threshold 3000
set_option maxHeartbeats 1000000
namespace L2.DL
open PySem PySem.Spec PyProof.Rows
noncomputable def kwt:Key->Nat
  | .inl _=>1921
  | .inr x=>(reprText x).length
mutual
noncomputable def wt:D->Nat
  | .non=>4
  | .bl _=>5
  | .int _=>1921
  | .str x=>(reprText x).length
  | .tup l=>3 + wts l
  | .lst l=>3 + wts l
  | .dic l=>3 + wtk l
noncomputable def wts:List D->Nat
  | []=>0
  | d :: l=>wt d + 2 + wts l
noncomputable def wtk:List (Key × D)->Nat
  | []=>0
  | (k,d) :: l=>kwt k + wt d + 4 + wtk l
end
theorem GS (ts:List Str):(Str.join ", " ts).length <= piled ts:=by
  by_cases h:ts=[]
  . subst h;exact Nat.le_refl _
  . have:=join_length_add ts h;omega
theorem C9 (ts:List Str):(tupleText ts).length <= 3 + piled ts:=by
  unfold tupleText
  have h:=GS ts
  have e1:(("(":String):Str).length=1:=rfl
  have e2:((",)":String):Str).length=2:=rfl
  have e3:((")":String):Str).length=1:=rfl
  rw [strLen_append,strLen_append]
  split <;> omega
theorem Bf:∀ (ts:List Str) (k:Nat) (acc:Str),(textFrom k acc ts).length <= acc.length + piled ts
  | [],k,acc=>by show acc.length <= _;omega
  | t :: r,k,acc=>by
    have h:=Bf r (k + 1) (acc ++ (if k > 0 then ", " else "":String) ++ t)
    have e1:((", ":String):Str).length=2:=rfl
    have e2:(("":String):Str).length=0:=rfl
    rw [strLen_append,strLen_append] at h
    rw [piled_cons]
    show (textFrom (k + 1) (acc ++ (if k > 0 then ", " else "":String) ++ t) r).length <= _
    split at h <;> rename_i hk <;> simp only [hk,if_true,if_false] at h ⊢ <;> omega
theorem Fh (ts:List Str):(listText ts).length <= 3 + piled ts:=by
  unfold listText
  have h:=Bf ts 0 "["
  have e1:(("[":String):Str).length=1:=rfl
  have e2:(("]":String):Str).length=1:=rfl
  rw [strLen_append];omega
theorem Fi (ts:List Str):(dictText ts).length <= 3 + piled ts:=by
  unfold dictText
  have h:=GS ts
  have e1:(("{":String):Str).length=1:=rfl
  have e2:(("}":String):Str).length=1:=rfl
  rw [strLen_append,strLen_append];omega
theorem Fj {i:Int} (h:i.natAbs.log2 < 1920):(Str.ofString (toString i)).length <= 1921:=by
  have:=int_text_length_le (a:=i) (k:=1920) (by decide) h
  rw [PySem.ofString_length]
  exact this
mutual
theorem BT:∀ (d:D),(toPy d).showable=true->(toPy d).shown.length <= wt d
  | .non,_=>by simp only [toPy,PyData.shown,wt];decide
  | .bl b,_=>by cases b <;> simp only [toPy,PyData.shown,wt] <;> decide
  | .int i,h=>by
    simp only [toPy,PyData.shown,wt]
    exact Fj (by simpa [toPy,PyData.showable] using h)
  | .str x,_=>by simp only [toPy,PyData.shown,wt];exact Nat.le_refl _
  | .tup l,h=>by
    simp only [toPy,PyData.shown,wt]
    have:=A6 l (by simpa [toPy,PyData.showable] using h)
    have:=C9 (PyData.shownAll (toPys l))
    omega
  | .lst l,h=>by
    simp only [toPy,PyData.shown,wt]
    have:=A6 l (by simpa [toPy,PyData.showable] using h)
    have:=Fh (PyData.shownAll (toPys l))
    omega
  | .dic l,h=>by
    simp only [toPy,PyData.shown,wt]
    have:=Fk l (by simpa [toPy,PyData.showable] using h)
    have:=Fi (PyData.shownKv (toPyK l))
    omega
theorem A6:∀ (l:List D),PyData.showableAll (toPys l)=true->piled (PyData.shownAll (toPys l)) <= wts l
  | [],_=>by simp only [toPys,PyData.shownAll,wts];exact Nat.le_refl _
  | d :: l,h=>by
    simp only [toPys,PyData.showableAll,Bool.and_eq_true] at h
    have h1:=BT d h.1
    have h2:=A6 l h.2
    simp only [toPys,PyData.shownAll,wts,piled_cons]
    omega
theorem Fk:∀ (l:List (Key × D)),PyData.showableKv (toPyK l)=true->piled (PyData.shownKv (toPyK l)) <= wtk l
  | [],_=>by simp only [toPyK,PyData.shownKv,wtk];exact Nat.le_refl _
  | (k,d) :: l,h=>by
    simp only [toPyK,PyData.showableKv,Bool.and_eq_true] at h
    have h1:=BT d h.1.2
    have h2:=Fk l h.2
    have e1:((": ":String):Str).length=2:=rfl
    have hk:(PyData.shown (keyP k)).length <= kwt k:=by
      cases k with
      | inl i=>exact Fj (by simpa [keyP,PyData.showable] using h.1.1)
      | inr x=>exact Nat.le_refl _
    simp only [toPyK,PyData.shownKv,wtk,piled_cons]
    rw [strLen_append,strLen_append]
    omega
end
mutual
noncomputable def ib (B:Nat):D->Bool
  | .int i=>decide (i.natAbs <= B)
  | .tup l=>ibs B l
  | .lst l=>ibs B l
  | .dic l=>ibk B l
  | _=>true
noncomputable def ibs (B:Nat):List D->Bool
  | []=>true
  | d :: l=>ib B d && ibs B l
noncomputable def ibk (B:Nat):List (Key × D)->Bool
  | []=>true
  | (k,d) :: l=>(match k with | .inl i=>decide (i.natAbs <= B) | _=>true) && ib B d && ibk B l
end
theorem LL {B:Nat} (hB:B < 2 ^ 1900) {i:Int} (h:i.natAbs <= B):i.natAbs.log2 < 1920:=by
  by_cases h0:i.natAbs=0
  . rw [h0];decide
  . exact (Nat.log2_lt h0).mpr (Nat.lt_of_lt_of_le (Nat.lt_of_le_of_lt h hB) (Nat.pow_le_pow_right (by decide) (by decide)))
mutual
theorem Db {B:Nat} (hB:B < 2 ^ 1900):∀ (d:D),ib B d=true->(toPy d).showable=true
  | .non,_=>by simp [toPy,PyData.showable]
  | .bl b,_=>by simp [toPy,PyData.showable]
  | .int i,h=>by
    simp only [toPy,PyData.showable,decide_eq_true_eq]
    exact LL hB (by simpa [ib] using h)
  | .str x,_=>by simp [toPy,PyData.showable]
  | .tup l,h=>by
    simp only [toPy,PyData.showable]
    exact BU hB l (by simpa [ib] using h)
  | .lst l,h=>by
    simp only [toPy,PyData.showable]
    exact BU hB l (by simpa [ib] using h)
  | .dic l,h=>by
    simp only [toPy,PyData.showable]
    exact Fl hB l (by simpa [ib] using h)
theorem BU {B:Nat} (hB:B < 2 ^ 1900):∀ (l:List D),ibs B l=true->PyData.showableAll (toPys l)=true
  | [],_=>by simp [toPys,PyData.showableAll]
  | d :: l,h=>by
    simp only [ibs,Bool.and_eq_true] at h
    simp only [toPys,PyData.showableAll,Db hB d h.1,BU hB l h.2,Bool.and_self]
theorem Fl {B:Nat} (hB:B < 2 ^ 1900):∀ (l:List (Key × D)),ibk B l=true->PyData.showableKv (toPyK l)=true
  | [],_=>by simp [toPyK,PyData.showableKv]
  | (k,d) :: l,h=>by
    simp only [ibk,Bool.and_eq_true] at h
    have hk:(keyP k).showable=true:=by
      cases k with
      | inl i =>
        simp only [keyP,PyData.showable,decide_eq_true_eq]
        exact LL hB (by simpa using h.1.1)
      | inr x=>simp [keyP,PyData.showable]
    simp only [toPyK,PyData.showableKv,hk,Db hB d h.1.2,Fl hB l h.2,Bool.and_self]
end
mutual
theorem LM {B B':Nat} (h:B <= B'):∀ (d:D),ib B d=true->ib B' d=true
  | .non,_=>by simp [ib]
  | .bl b,_=>by simp [ib]
  | .int i,q=>by
    simp only [ib,decide_eq_true_eq] at q ⊢
    omega
  | .str x,_=>by simp [ib]
  | .tup l,q=>by
    simp only [ib] at q ⊢
    exact Dc h l q
  | .lst l,q=>by
    simp only [ib] at q ⊢
    exact Dc h l q
  | .dic l,q=>by
    simp only [ib] at q ⊢
    exact LN h l q
theorem Dc {B B':Nat} (h:B <= B'):∀ (l:List D),ibs B l=true->ibs B' l=true
  | [],_=>by simp [ibs]
  | d :: l,q=>by
    simp only [ibs,Bool.and_eq_true] at q ⊢
    exact ⟨LM h d q.1,Dc h l q.2⟩
theorem LN {B B':Nat} (h:B <= B'):∀ (l:List (Key × D)),ibk B l=true->ibk B' l=true
  | [],_=>by simp [ibk]
  | (k,d) :: l,q=>by
    simp only [ibk,Bool.and_eq_true] at q ⊢
    refine ⟨⟨?_,LM h d q.1.2⟩,LN h l q.2⟩
    have:=q.1.1
    cases k with
    | inl i=>simp only [decide_eq_true_eq] at this ⊢;omega
    | inr x=>rfl
end
structure Sm (B a b:Nat) (d:D):Prop where
  s:ib B d=true
  e:(toPy d).depth <= a
  w:wt d <= b
structure SmL (B a b:Nat) (l:List D):Prop where
  s:ibs B l=true
  e:PyData.depthAll (toPys l) <= a
  w:wts l <= b
theorem BV {B a b:Nat}{d:D} (h:Sm B a b d) (hB:B < 2 ^ 1900) (ha:a <= 60) (hb:b <= sizeLine):canShow d=true:=by
  have hs:=Db hB d h.s
  have:=BT d hs
  have h1:=h.e
  have h2:=h.w
  unfold canShow
  rw [hs,decide_eq_true (by omega:(toPy d).depth <= 60),decide_eq_true (by omega:(toPy d).shown.length <= sizeLine)]
  rfl
theorem Sm.mono {B a b a' b':Nat}{d:D} (h:Sm B a b d) (ha:a <= a') (hb:b <= b'):Sm B a' b' d:=⟨h.s,Nat.le_trans h.e ha,Nat.le_trans h.w hb⟩
theorem SmL.mono {B a b a' b':Nat}{l:List D} (h:SmL B a b l) (ha:a <= a') (hb:b <= b'):SmL B a' b' l:=⟨h.s,Nat.le_trans h.e ha,Nat.le_trans h.w hb⟩
theorem Sm.up {B B' a b:Nat}{d:D} (h:Sm B a b d) (q:B <= B'):Sm B' a b d:=⟨LM q d h.s,h.e,h.w⟩
theorem SmL.up {B B' a b:Nat}{d:List D} (h:SmL B a b d) (q:B <= B'):SmL B' a b d:=⟨Dc q d h.s,h.e,h.w⟩
theorem SmL.nil {B a:Nat}:SmL B a 0 []:=⟨rfl,by simp [toPys,PyData.depthAll],Nat.le_refl _⟩
theorem SmL.cons {B a b c:Nat}{d:D}{l:List D} (h:Sm B a b d) (t:SmL B a c l):SmL B a (b + 2 + c) (d :: l) :=
  ⟨by simp [ibs,h.s,t.s],by simp only [toPys,PyData.depthAll];exact Nat.max_le.mpr ⟨h.e,t.e⟩,by simp only [wts];have:=h.w;have:=t.w;omega⟩
theorem Sm.tup {B a b:Nat}{l:List D} (h:SmL B a b l):Sm B (a + 1) (3 + b) (.tup l) :=
  ⟨by simp [ib,h.s],by simp only [toPy,PyData.depth];have:=h.e;omega,by simp only [wt];have:=h.w;omega⟩
theorem Sm.lst {B a b:Nat}{l:List D} (h:SmL B a b l):Sm B (a + 1) (3 + b) (.lst l) :=
  ⟨by simp [ib,h.s],by simp only [toPy,PyData.depth];have:=h.e;omega,by simp only [wt];have:=h.w;omega⟩
theorem Sm.int {B a:Nat}{i:Int} (h:i.natAbs <= B):Sm B a 1921 (.int i) :=
  ⟨by simp [ib,h],by simp [toPy,PyData.depth],Nat.le_refl _⟩
theorem oG (l m:List D):wts (l ++ m)=wts l + wts m:=by
  induction l with
  | nil=>simp [wts]
  | cons d l ih=>simp only [List.cons_append,wts,ih];omega
theorem SmL.append {B a b c:Nat}:∀ {l m:List D},SmL B a b l->SmL B a c m->SmL B a (b + c) (l ++ m):=by
  intro l m h t
  refine ⟨?_,?_,by rw [oG];have:=h.w;have:=t.w;omega⟩
  . have h1:=h.s
    clear h
    induction l with
    | nil=>exact t.s
    | cons d l ih =>
      simp only [ibs,Bool.and_eq_true,List.cons_append] at h1 ⊢
      exact ⟨h1.1,ih h1.2⟩
  . have h1:=h.e
    clear h
    induction l with
    | nil=>exact t.e
    | cons d l ih =>
      simp only [toPys,PyData.depthAll,List.cons_append] at h1 ⊢
      exact Nat.max_le.mpr ⟨(Nat.max_le.mp h1).1,ih (Nat.max_le.mp h1).2⟩
theorem SmL.left {B a b:Nat}{l m:List D} (h:SmL B a b (l ++ m)):SmL B a b l:=by
  refine ⟨?_,?_,by have:=h.w;rw [oG] at this;omega⟩
  . have h1:=h.s
    clear h
    induction l with
    | nil=>rfl
    | cons d l ih =>
      simp only [ibs,Bool.and_eq_true,List.cons_append] at h1 ⊢
      exact ⟨h1.1,ih h1.2⟩
  . have h1:=h.e
    clear h
    induction l with
    | nil=>exact Nat.zero_le _
    | cons d l ih =>
      simp only [toPys,PyData.depthAll,List.cons_append] at h1 ⊢
      exact Nat.max_le.mpr ⟨(Nat.max_le.mp h1).1,ih (Nat.max_le.mp h1).2⟩
theorem SmL.right {B a b:Nat}{l m:List D} (h:SmL B a b (l ++ m)):SmL B a b m:=by
  refine ⟨?_,?_,by have:=h.w;rw [oG] at this;omega⟩
  . have h1:=h.s
    clear h
    induction l with
    | nil=>exact h1
    | cons d l ih =>
      simp only [ibs,Bool.and_eq_true,List.cons_append] at h1
      exact ih h1.2
  . have h1:=h.e
    clear h
    induction l with
    | nil=>exact h1
    | cons d l ih =>
      simp only [toPys,PyData.depthAll,List.cons_append] at h1
      exact ih (Nat.max_le.mp h1).2
theorem SmL.take {B a b:Nat}{l:List D} (n:Nat) (h:SmL B a b l):SmL B a b (l.take n):=SmL.left (m:=l.drop n) (by rw [List.take_append_drop];exact h)
theorem SmL.drop {B a b:Nat}{l:List D} (n:Nat) (h:SmL B a b l):SmL B a b (l.drop n):=SmL.right (l:=l.take n) (by rw [List.take_append_drop];exact h)
theorem SmL.cut {B a b:Nat}{l:List D} (x y:Option Int) (h:SmL B a b l):SmL B a b (cutD l x y):=SmL.take _ (SmL.drop _ h)
theorem SmL.mem {B a b:Nat}{l:List D} (h:SmL B a b l) {d:D} (m:d ∈ l):Sm B a b d:=by
  obtain ⟨s,t,rfl⟩:=List.append_of_mem m
  have h1:=h.right
  have:=h1.w
  have hs:=h1.s
  have hd:=h1.e
  simp only [ibs,Bool.and_eq_true] at hs
  simp only [toPys,PyData.depthAll] at hd
  simp only [wts] at this
  exact ⟨hs.1,(Nat.max_le.mp hd).1,by omega⟩
theorem Sm.parts' {B a b:Nat}{l:List D} (h:Sm B a b (.tup l)):1 <= a /\ SmL B (a - 1) (b - 3) l /\ 3 <= b:=by
  have h1:=h.e
  have h2:=h.w
  simp only [toPy,PyData.depth] at h1
  simp only [wt] at h2
  exact ⟨by omega,⟨by have:=h.s;simpa [ib] using this,by omega,by omega⟩,by omega⟩
theorem SmL.of {B a b:Nat}:∀ {l:List D},(∀ d ∈ l,Sm B a b d)->SmL B a (l.length * (b + 2)) l
  | [],_=>by simpa using SmL.nil
  | d :: l,h=>by
    have h1:=h d (List.mem_cons_self ..)
    have h2:=SmL.of fun x m=>h x (List.mem_cons_of_mem _ m)
    exact (SmL.cons h1 h2).mono (Nat.le_refl _) (by rw [List.length_cons,Nat.succ_mul];omega)
end L2.DL
set_option Elab.async false
set_option linter.all false
set_option maxRecDepth 100000
set_option maxHeartbeats 1000000
namespace K1
open PySem PySem.Spec PyProof.Rows L2 L2.DL
noncomputable def pt (bx:List Bx) (n:Nat) (p:Int):List Bx:=bx.set n (.lst [.int p])
theorem gD {bx:List Bx}{n:Nat}{p:Int}:(pt bx n p).length=bx.length:=List.length_set ..
theorem Ol {bx:List Bx}{n:Nat}{p:Int} (h:n < bx.length):(pt bx n p)[n]?=some (.lst [.int p]):=by simp [pt,h]
theorem oM {n:Nat}{m:DSt}{ws:List W}{d:D}{bx bx':List Bx} (h:m (ws.map some ++ List.replicate (n - ws.length) none) bx=.rt (.d d) bx') (l:bx'.length <= bx.length):fnD n (noX m) ws bx=.val (.d d) bx':=by
  simp only [fnD,noX,DL.envOf,h,retO,cutO,List.take_of_length_le l]
theorem gY {bx:List Bx}{n:Nat} (h:n < bx.length) (p k:Int) (hk:0 < k) (hk2:k < 1073741824):fu [.b n,.d (.int k)] (pt bx n p)=.val (.d (.int (p % k))) (pt bx n (p / k)):=by
  refine oM ?_ (by rw [gD,gD];exact Nat.le_refl _)
  have g:=Ol (p:=p) h
  have c:CDiv p k:=⟨hk,hk2⟩
  simp [Aw,rdW,g,ixD,atI,ixN,modD,fdivD,hk,c,gdSub]
  rw [pt,pt,List.set_set]
theorem mP {α:Type}{l:List α}{i:Int} (h0:0 <= i) (h1:i < l.length):∃ d,atI l i=some d /\ d ∈ l:=by
  have h2:i.toNat < l.length:=by omega
  refine ⟨l[i.toNat],?_,List.getElem_mem h2⟩
  simp [atI,ixN,h0,h1,h2]
noncomputable def Dr (o:O W) (bx:List Bx) (n:Nat) (P:D->Prop):Prop:=∃ d p,o=.val (.d d) (pt bx n p) /\ P d
theorem i7 (p:Int) {k:Int} (h:0 < k):0 <= p % k:=Int.emod_nonneg _ (by omega)
theorem i8 (p:Int) {k:Int} (h:0 < k):p % k < k:=Int.emod_lt_of_pos _ h
noncomputable def odds:List D:=[.non,.bl true,.bl false,.int (-1),.int (10 ^ 30),.str "",.str "a",.str "1",.tup [],.lst [],.dic [],.lst [.tup []],.tup [.tup []],.tup [.int 0],.lst [.int 0],.dic [(.inl 0,.int 1)],.tup [.bl true,.bl true]]
theorem Bp:∀ d ∈ odds,Sm (10 ^ 30) 2 3850 d:=by
  intro d m
  have c:∀ x ∈ odds,(ib (10 ^ 30) x && decide ((toPy x).depth <= 2) && decide (wt x <= 3850))=true:=by
    rw [<-List.all_eq_true]
    decide +kernel
  have:=c d m
  simp only [Bool.and_eq_true,decide_eq_true_eq] at this
  exact ⟨this.1.1,this.1.2,this.2⟩
theorem Dd {bx:List Bx}{n:Nat} (h:n < bx.length) (p:Int):Dr (gf [.b n] (pt bx n p)) bx n (fun d=>d ∈ odds):=by
  have h0:=i7 p (k:=17) (by decide)
  have h1:=i8 p (k:=17) (by decide)
  obtain ⟨d,e,m⟩:=mP (l:=odds) h0 (by show _ < (17:Int);exact h1)
  refine ⟨d,p / 17,oM ?_ (by rw [gD,gD];exact Nat.le_refl _),m⟩
  have t:=gY h p 17 (by decide) (by decide)
  have c:CPow 10 30:=by decide
  have s17:(17:Nat) <= sizeLine:=by decide
  have s0:(1:Nat) <= sizeLine:=by decide
  have s2:(2:Nat) <= sizeLine:=by decide
  unfold AZ
  generalize fu=ft at t ⊢
  unfold odds at e
  simp [powD,c,dDic,lenD,t,ixD,s17,s0,s2] at e ⊢
  simp [e]
end K1
set_option Elab.async false
set_option linter.all false
set_option maxRecDepth 100000
set_option maxHeartbeats 1000000
namespace K1
open PySem PySem.Spec PyProof.Rows L2 L2.DL
theorem Om (l:List D) (i:Nat) (h:i <= l.length):DL.cutD l none (some (i:Int))=l.take i:=by
  unfold DL.cutD
  rw [HT.Bm,HT.DH,List.drop_zero,Nat.min_eq_left h,Nat.sub_zero]
theorem BW (l:List D) (i:Nat) (h:i <= l.length):DL.cutD l (some (i:Int)) none=l.drop i:=by
  unfold DL.cutD
  rw [HT.Bm,HT.DH,Nat.min_eq_left h]
  exact List.take_of_length_le (by rw [List.length_drop];exact Nat.le_refl _)
theorem On (l:List D) (i:Nat) (h:i < l.length):DL.cutD l (some (i:Int)) (some ((i:Int) + 1))=[l[i]]:=by
  unfold DL.cutD
  rw [show (i:Int) + 1=((i + 1:Nat):Int) by omega,HT.Bm,HT.Bm,Nat.min_eq_left (by omega),Nat.min_eq_left (by omega),Nat.add_sub_cancel_left,List.drop_eq_getElem_cons h]
  rfl
theorem LO {α:Type} (l:List α) (i:Nat) (h:i < l.length):atI l (i:Int)=some l[i]:=by
  simp [atI,ixN,h]
theorem De:∀ l:List D,l.length <= wts l
  | []=>Nat.le_refl _
  | d :: l=>by have:=De l;simp only [List.length_cons,wts];omega
theorem LP (rec:List W->List Bx->O W) {bx:List Bx}{n:Nat} (h:n < bx.length) (d:D) (hd:isT d=false) (p:Int) {B a b:Nat} (hB:10 ^ 30 <= B) (s:Sm B a b d) :
    Dr (fnD 4 (noX (ie rec)) [.b n,.d d] (pt bx n p)) bx n (fun d'=>Sm (B + 10 ^ 4) (a + 2) (2 * b + 4000) d'):=by
  have t3:=gY h p 3 (by decide) (by decide)
  have t6:=gY h (p / 3) 6 (by decide) (by decide)
  have lo:=i7 (p / 3) (k:=6) (by decide)
  have hi:=i8 (p / 3) (k:=6) (by decide)
  have w:=A4 d (pt bx n p)
  have fin:∀ q,Dr (gf [.b n] (pt bx n q)) bx n (fun d'=>Sm (B + 10 ^ 4) (a + 2) (2 * b + 4000) d'):=fun q=>by
    obtain ⟨o,q',e,m⟩:=Dd h q
    exact ⟨o,q',e,((Bp o m).up (by omega)).mono (by omega) (by omega)⟩
  cases hw:wh d with
  | false =>
    obtain ⟨o,q',e,m⟩:=fin p
    refine ⟨o,q',oM ?_ (by rw [gD,gD];exact Nat.le_refl _),m⟩
    rw [hw] at w
    unfold ie
    generalize gf=fo at e ⊢
    generalize gL=fw at w ⊢
    simp [o7,hd,w,e]
  | true =>
    rw [hw] at w
    by_cases g:0 < p % 3
    . obtain ⟨x,rfl⟩:∃ x,d=.int x:=by
        cases d <;> simp [wh] at hw
        exact ⟨_,rfl⟩
      obtain ⟨y,e,m⟩:=mP (l:=[D.int 1,.int (-1),.int 9,.int 100,.int 9999,.int (-10000)]) lo (by show _ < (6:Int);exact hi)
      obtain ⟨y,rfl,hy⟩:∃ i:Int,y=.int i /\ i.natAbs <= 10 ^ 4:=by
        simp at m
        rcases m with rfl | rfl | rfl | rfl | rfl | rfl <;> exact ⟨_,rfl,by decide⟩
      have hx:x.natAbs <= B:=by have:=s.s;simpa [ib] using this
      refine ⟨.int (x + y),p / 3 / 6,oM ?_ (by rw [gD,gD];exact Nat.le_refl _),(Sm.int (a:=0) (by omega)).mono (by omega) (by omega)⟩
      have c:CPow 10 4:=by decide
      have s6:(6:Nat) <= sizeLine:=by decide
      unfold ie
      generalize gf=fo at fin ⊢
      generalize gL=fw at w ⊢
      generalize fu=ft at t3 t6 ⊢
      simp [o7,isT,w,t3,gtI,g,t6,powD,c,s6,ixD,e,fK]
    . obtain ⟨o,q',e,m⟩:=fin (p / 3)
      refine ⟨o,q',oM ?_ (by rw [gD,gD];exact Nat.le_refl _),m⟩
      unfold ie
      generalize gf=fo at e ⊢
      generalize gL=fw at w ⊢
      generalize fu=ft at t3 ⊢
      simp [o7,hd,w,e,t3,gtI,g]
theorem Bq {bx:List Bx}{n:Nat} (h:n < bx.length):∀ (i:Nat) (d:D) (p:Int) (B a b:Nat),10 ^ 30 <= B->Sm B a b d->a < i->b <= 1000000 ->
    Dr (gh i [.b n,.d d] (pt bx n p)) bx n (fun d'=>Sm (B + 10 ^ 4) (a + 2) (2 * b + 4000) d')
  | 0,d,p,B,a,b,_,_,z,_=>by omega
  | i + 1,d,p,B,a,b,hB,s,hi,hb=>by
    show Dr (fnD 4 (noX (ie (gh i))) [.b n,.d d] (pt bx n p)) bx n _
    cases ht:isT d with
    | false=>exact LP _ h d ht p hB s
    | true =>
      obtain ⟨l,rfl⟩:=Oj ht
      obtain ⟨a1,sl,b3⟩:=s.parts'
      have sl':=sl.up (B':=B + 10 ^ 4) (by omega)
      have ln:=De l
      have lw:=sl.w
      have sz:sizeLine=16777216:=sizeLine_eq
      have ih:=fun c (m:c ∈ l) (q:Int)=>Bq h i c q B (a - 1) (wt c) hB (let z:=sl.mem m;⟨z.s,z.e,Nat.le_refl _⟩) (by omega) (by have:=(sl.mem m).w;omega)
      have t12:=gY h p 12 (by decide) (by decide)
      by_cases g:p % 12=0 \/ l=[]
      . obtain ⟨o1,q1,e1,m1⟩:=Dd h (p / 12)
        obtain ⟨o2,q2,e2,m2⟩:=Dd h q1
        have t4:=gY h q2 4 (by decide) (by decide)
        have lo:=i7 q2 (k:=4) (by decide)
        have hi4:=i8 q2 (k:=4) (by decide)
        have s1:=((Bp o1 m1).up (B':=B + 10 ^ 4) (by omega))
        have s2:=((Bp o2 m2).up (B':=B + 10 ^ 4) (by omega))
        have cl:(DL.cutD l (some (-1)) none).length <= l.length:=by
          unfold DL.cutD
          rw [List.length_take,List.length_drop]
          omega
        obtain ⟨y,e,m⟩:=mP (l:=[o1,.lst l,.tup (l ++ [o2]),.tup (l ++ DL.cutD l (some (-1)) none)]) lo (by show _ < (4:Int);exact hi4)
        refine ⟨y,q2 / 4,oM ?_ (by rw [gD,gD];exact Nat.le_refl _),?_⟩
        . have t:(p % 12=0) \/ (l.isEmpty=true):=by
            rcases g with g | g
            . exact .inl g
            . exact .inr (by rw [g];rfl)
          have z1:l.length + 1 <= sizeLine:=by omega
          have z2:l.length + (DL.cutD l (some (-1)) none).length <= sizeLine:=by omega
          have z4:(4:Nat) <= sizeLine:=by omega
          have z0:(1:Nat) <= sizeLine:=by omega
          unfold ie
          generalize gf=fo at e1 e2 ⊢
          generalize fu=ft at t12 t4 ⊢
          by_cases g0:p % 12=0
          . simp [o7,isT,t12,eqD,g0,e1,e2,listD,fK,slD,z1,z2,z4,z0,t4,ixD,e]
          . have g1:l.isEmpty=true:=by
              rcases t with t | t
              . exact absurd t g0
              . exact t
            simp [o7,isT,t12,eqD,g0,g1,e1,e2,listD,fK,slD,z1,z2,z4,z0,t4,ixD,e]
        . simp at m
          rcases m with rfl | rfl | rfl | rfl
          . exact s1.mono (by omega) (by omega)
          . exact (Sm.lst sl').mono (by omega) (by omega)
          . exact (Sm.tup (a:=a + 1) ((sl'.mono (by omega) (Nat.le_refl _)).append (SmL.cons (s2.mono (by omega) (Nat.le_refl _)) SmL.nil))).mono (by omega) (by omega)
          . exact (Sm.tup (sl'.append (sl'.cut _ _))).mono (by omega) (by omega)
      . have g0:¬ p % 12=0:=fun z=>g (.inl z)
        have g1:l ≠ []:=fun z=>g (.inr z)
        have g1':l.isEmpty=false:=by cases l <;> simp at g1 ⊢
        have lp:0 < l.length:=List.length_pos_iff.mpr g1
        have tl:=gY h (p / 12) (l.length:Int) (by omega) (by omega)
        have lo:=i7 (p / 12) (k:=(l.length:Int)) (by omega)
        have hil:=i8 (p / 12) (k:=(l.length:Int)) (by omega)
        obtain ⟨j,ej⟩:=Int.eq_ofNat_of_zero_le lo
        rw [ej] at tl hil
        have hj:j < l.length:=by omega
        have w3:wts l=wts (l.take j) + (wt l[j] + 2 + wts (l.drop (j + 1))):=by
          have e:l.take j ++ l[j] :: l.drop (j + 1)=l:=by
            rw [<-List.drop_eq_getElem_cons hj,List.take_append_drop]
          have e2:=congrArg wts e
          rw [oG] at e2
          simp only [wts] at e2
          omega
        have st:SmL (B + 10 ^ 4) (a - 1) (wts (l.take j)) (l.take j):=⟨(sl'.take j).s,(sl'.take j).e,Nat.le_refl _⟩
        have sd:SmL (B + 10 ^ 4) (a - 1) (wts (l.drop (j + 1))) (l.drop (j + 1)):=⟨(sl'.drop (j + 1)).s,(sl'.drop (j + 1)).e,Nat.le_refl _⟩
        have c1:=Om l j (by omega)
        have c2:=BW l (j + 1) (by omega)
        rw [show ((j + 1:Nat):Int)=(j:Int) + 1 by omega] at c2
        have c3:=On l j hj
        have c4:=BW l j (by omega)
        have aj:=LO l j hj
        have n1:(l.take j).length=j:=by rw [List.length_take];omega
        have n2:(l.drop (j + 1)).length=l.length - (j + 1):=List.length_drop ..
        have n3:(l.drop j).length=l.length - j:=List.length_drop ..
        have y1:j + (l.length - (j + 1)) <= sizeLine:=by omega
        have y2:j + 1 <= sizeLine:=by omega
        have y3:j + 1 + (l.length - j) <= sizeLine:=by omega
        have y4:j + 1 + (l.length - (j + 1)) <= sizeLine:=by omega
        have y5:(1:Nat) <= sizeLine:=by omega
        have y6:min (j + 1) l.length + (l.length - j) <= sizeLine:=by omega
        have mj:l[j] ∈ l:=List.getElem_mem hj
        have sj:Sm (B + 10 ^ 4) (a - 1) (wt l[j]) l[j]:=let z:=sl'.mem mj;⟨z.s,z.e,Nat.le_refl _⟩
        obtain ⟨o1,q1,e1,m1⟩:=ih l[j] mj (p / 12 / (l.length:Int))
        by_cases k1:p % 12=1
        . refine ⟨.tup (l.take j ++ l.drop (j + 1)),p / 12 / (l.length:Int),oM ?_ (by rw [gD,gD];exact Nat.le_refl _),(Sm.tup (st.append sd)).mono (by omega) (by omega)⟩
          unfold ie
          generalize gf=fo
          generalize fu=ft at t12 tl ⊢
          simp [o7,isT,t12,eqD,g0,g1',lenD,tl,k1,slD,c1,c2,fK,n1,n2,y1]
        . by_cases k2:p % 12=2
          . refine ⟨.tup (l.take j ++ [l[j]] ++ l.drop j),p / 12 / (l.length:Int),oM ?_ (by rw [gD,gD];exact Nat.le_refl _),?_⟩
            . unfold ie
              generalize gf=fo
              generalize fu=ft at t12 tl ⊢
              simp [o7,isT,t12,eqD,g0,g1',lenD,tl,k1,k2,slD,c1,c3,c4,fK,n1,n3,y2,y3,y6]
            . rw [List.drop_eq_getElem_cons hj]
              exact (Sm.tup ((st.append (SmL.cons sj SmL.nil)).append (SmL.cons sj sd))).mono (by omega) (by omega)
          . refine ⟨.tup (l.take j ++ [o1] ++ l.drop (j + 1)),q1,oM ?_ (by rw [gD,gD];exact Nat.le_refl _),?_⟩
            . unfold ie
              generalize gf=fo
              generalize fu=ft at t12 tl ⊢
              generalize gh i=fb at e1 ⊢
              simp [o7,isT,t12,eqD,g0,g1',lenD,tl,k1,k2,slD,c1,c2,fK,n1,n2,y2,y4,y5,ixD,aj,e1]
            . exact (Sm.tup (a:=a + 1) (((st.mono (by omega) (Nat.le_refl _)).append (SmL.cons (m1.mono (by omega) (Nat.le_refl _)) SmL.nil)).append (sd.mono (by omega) (Nat.le_refl _)))).mono (by omega) (by omega)
end K1
set_option Elab.async false
set_option linter.all false
set_option maxRecDepth 100000
set_option maxHeartbeats 1000000
namespace K1
open PySem PySem.Spec PyProof.Rows L2 L2.DL
theorem Br {g:DG}{te:DE W} (J:DEnv->Prop) (P:D->Prop) {bx:List Bx}{n:Nat}:∀ (l:List W) (env:DEnv) (p:Int) (acc:List D),J env ->
    (∀ w ∈ l,∀ env p,J env->∃ env',g w env (pt bx n p)=some (env',pt bx n p) /\ J env' /\ Dr (te env' (pt bx n p)) bx n P)->acc.length + l.length <= sizeLine ->
    ∃ ds p',compD g gZ te l env (pt bx n p) acc=.val (acc ++ ds) (pt bx n p') /\ ds.length=l.length /\ ∀ d ∈ ds,P d
  | [],env,p,acc,_,_,_=>⟨[],p,by simp [compD],rfl,fun d m=>by cases m⟩
  | w :: l,env,p,acc,j,h,z=>by
    obtain ⟨env',e1,j',d,q,e2,hd⟩:=h w (List.mem_cons_self ..) env p j
    have z':acc.length < sizeLine:=by simp only [List.length_cons] at z;omega
    obtain ⟨ds,p',e3,e4,e5⟩:=Br J P l env' q (acc ++ [d]) j' (fun x m=>h x (List.mem_cons_of_mem _ m)) (by simp only [List.length_append,List.length_cons,List.length_nil] at z ⊢;omega)
    refine ⟨d :: ds,p',?_,by simp [e4],fun x m=>?_⟩
    . simp only [compD,e1,MR,Lx,e2,if_pos z',e3]
      simp
    . rcases List.mem_cons.mp m with rfl | m
      . exact hd
      . exact e5 x m
theorem BX {g:DG}{tf:DE Bool}{te:DE W} (J:DEnv->Prop) (f:W->D) {bx:List Bx}{n:Nat}:∀ (l:List W) (env:DEnv) (p:Int) (acc:List D),J env ->
    (∀ w ∈ l,∀ env p,J env->∃ env' b q,g w env (pt bx n p)=some (env',pt bx n p) /\ J env' /\ tf env' (pt bx n p)=.val b (pt bx n q) /\ te env' (pt bx n q)=.val (.d (f w)) (pt bx n q))->acc.length + l.length <= sizeLine ->
    ∃ l' p',compD g tf te l env (pt bx n p) acc=.val (acc ++ l'.map f) (pt bx n p') /\ List.Sublist l' l
  | [],env,p,acc,_,_,_=>⟨[],p,by simp [compD],.slnil⟩
  | w :: l,env,p,acc,j,h,z=>by
    obtain ⟨env',b,q,e1,j',e2,e3⟩:=h w (List.mem_cons_self ..) env p j
    have z':acc.length < sizeLine:=by simp only [List.length_cons] at z;omega
    cases b with
    | false =>
      obtain ⟨ds,p',e4,e5⟩:=BX J f l env' q acc j' (fun x m=>h x (List.mem_cons_of_mem _ m)) (by simp only [List.length_cons] at z;omega)
      exact ⟨ds,p',by simp only [compD,e1,e2,Lx,e4],.cons _ e5⟩
    | true =>
      obtain ⟨ds,p',e4,e5⟩:=BX J f l env' q (acc ++ [f w]) j' (fun x m=>h x (List.mem_cons_of_mem _ m)) (by simp only [List.length_append,List.length_cons,List.length_nil] at z ⊢;omega)
      refine ⟨w :: ds,p',?_,.cons_cons _ e5⟩
      simp only [compD,e1,e2,Lx,e3,if_pos z',e4]
      simp
noncomputable def digit (d:D):Prop:=∃ i:Int,d=.int i /\ 0 <= i /\ i <= 9
theorem CH:∀ {l:List D},(∀ d ∈ l,digit d)->∃ ns:List Int,l=ns.map D.int /\ ∀ i ∈ ns,0 <= i /\ i <= 9
  | [],_=>⟨[],rfl,fun _ m=>by cases m⟩
  | d :: l,h=>by
    obtain ⟨i,rfl,h1⟩:=h d (List.mem_cons_self ..)
    obtain ⟨ns,rfl,h2⟩:=CH fun x m=>h x (List.mem_cons_of_mem _ m)
    exact ⟨i :: ns,rfl,fun x m=>by
      rcases List.mem_cons.mp m with rfl | m
      . exact h1
      . exact h2 x m⟩
theorem LQ {ns:List Int} (h4:ns.length=4) (h:∀ i ∈ ns,0 <= i /\ i <= 9):rates (.tup ((sortI ns).map D.int).reverse)=true:=by
  have l4:(sortI ns).length=4:=by rw [(oz ns).length_eq,h4]
  rw [<-List.map_reverse]
  have a1:tl (.tup ((sortI ns).reverse.map D.int)) 4 4=true:=by simp [tl,l4]
  have a2:(((sortI ns).reverse.map D.int).all fun x=>wi x 0 9)=true:=by
    rw [List.all_map,List.all_eq_true]
    intro i m
    have:=h i ((oz ns).mem_iff.mp (List.mem_reverse.mp m))
    simp [wi,this.1,this.2]
  have a3:fallD ((sortI ns).reverse.map D.int)=true:=(GR _).mpr (List.pairwise_reverse.mpr (AF ns))
  simp only [rates,a1,a2,a3,Bool.and_self]
theorem MV {bx:List Bx}{n:Nat} (h:n < bx.length) (p:Int):Dr (iD [.b n] (pt bx n p)) bx n (fun d=>kind d=true):=by
  have t4:=gY h p 4 (by decide) (by decide)
  obtain ⟨y,e,m⟩:=mP (l:=[D.int 9,.int 3,.int 1,.int 9]) (i7 p (k:=4) (by decide)) (by show _ < (4:Int);exact i8 p (by decide))
  obtain ⟨top,rfl,h0,h9⟩:∃ i:Int,y=.int i /\ 0 <= i /\ i <= 9:=by
    simp at m
    rcases m with rfl | rfl | rfl | rfl <;> exact ⟨_,rfl,by decide,by decide⟩
  have z4:(4:Nat) <= sizeLine:=by decide
  obtain ⟨ds,q,e1,e2,e3⟩:=Br (g:=fk 0) (te:=fv fu 2 (fc (dV 1) (fc (d2 false fK (dV 2) (dC (.int 1))) ff))) (fun e=>∃ w,e=[w,some (.b n),some (.d (.int top))]) digit (bx:=bx) (n:=n) (gm 0 4) [none,some (.b n),some (.d (.int top))] (p / 4) [] ⟨none,rfl⟩ (by
      intro w _ env p ⟨w0,je⟩
      refine ⟨[some w,some (.b n),some (.d (.int top))],by simp [je],⟨_,rfl⟩,?_⟩
      have t:=gY h p (top + 1) (by omega) (by omega)
      exact ⟨.int (p % (top + 1)),p / (top + 1),by simp [fK,t],_,rfl,i7 _ (by omega),by have:=i8 p (k:=top + 1) (by omega);omega⟩) (by
      simp [gm];exact z4)
  obtain ⟨ns,rfl,hns⟩:=CH e3
  have n4:ns.length=4:=by
    rw [List.length_map] at e2
    rw [e2]
    simp [gm]
  have so:sortA [.lst (ns.map D.int)]=some (.lst ((sortI ns).map D.int)):=by simp [sortA,sortD,Ff,n4]
  have t20:=gY h q 20 (by decide) (by decide)
  have tx:=gY h (q / 20) 4 (by decide) (by decide)
  have b0:=i7 q (k:=20) (by decide)
  have b1:=i8 q (k:=20) (by decide)
  obtain ⟨y,ey,my⟩:=mP (l:=[D.int 30,.int (1 + q % 20),.int 999,.int 8]) (i7 (q / 20) (k:=4) (by decide)) (by show _ < (4:Int);exact i8 _ (by decide))
  have hy:wi y 1 999=true:=by
    simp at my
    rcases my with rfl | rfl | rfl | rfl
    . rfl
    . simp [wi];omega
    . rfl
    . rfl
  have r:=LQ n4 hns
  refine ⟨.tup [y,.tup ((sortI ns).map D.int).reverse],q / 20 / 4,oM ?_ (by rw [gD,gD];exact Nat.le_refl _),by simp [kind,tl,hy,r]⟩
  have rg:∀ env bx,dRng1 (fc (dC (.int 4)) ff) env bx=.val (gm 0 4) bx:=fun env bx=>A5 (j:=4) (bx1:=bx) (by simp) (by decide)
  have z2:(2:Nat) <= sizeLine:=by decide
  unfold mV
  generalize fu=ft at t4 t20 tx e1 ⊢
  simp only [List.nil_append] at e1
  simp [z4,z2,t4,ixD,e,rg,e1,so,t20,tx,fK,ey,tupleD]
end K1
set_option Elab.async false
set_option linter.all false
set_option maxRecDepth 100000
set_option maxHeartbeats 1000000
namespace L2.DL
open PySem PySem.Spec PyProof.Rows
section
variable {env env1 env2 : DEnv} {bx bx1 bx2 bx3 : List Bx} {m k : DE W} {ks : DE (List W)} {w u : W} {l : List W}
theorem fm (h1:m env bx=.val w bx1) (h2:ks env bx1=.val l bx2):fc m ks env bx=.val (w :: l) bx2:=by rw [Ak,h1,gI,h2,gI]
theorem GT:∀ {ds:List D},rdWs bx (ds.map W.d)=some ds
  | []=>rfl
  | d :: ds=>by rw [List.map_cons,BR,GT];rfl
theorem Bs:∀ {ds:List D},dsOf (ds.map W.d)=some ds
  | []=>rfl
  | d :: ds=>by rw [List.map_cons,Oe,Bs];rfl
theorem AN {g:List D->Option Res}{r:Res} (ds:List D) (h:ks env bx=.val (ds.map W.d) bx1) (hg:g ds=some r):dN false g ks env bx=.val (.d r.toD) bx1:=by rw [Jy,h,gI,GT,Option.bind_some,hg,i3]
theorem oH (ds:List D) (h:ks env bx=.val (ds.map W.d) bx1) (hl:ds.length <= sizeLine):fF ks env bx=.val (.d (.tup ds)) bx1:=by rw [Od,h,gI,Bs,Option.bind_some,if_pos hl,i3,C5]
theorem o8 (ds:List D) (h:ks env bx=.val (ds.map W.d) bx1) (hl:ds.length <= sizeLine):gx false ks env bx=.val (.d (.lst ds)) bx1:=by rw [LA,h,gI,Bs,Option.bind_some,if_pos hl,i3,mO]
theorem Df (ds:List D) (h:ks env bx=.val (ds.map W.d) bx1) (hl:ds.length <= sizeLine):gx true ks env bx=.val (.b bx1.length) (bx1 ++ [.lst ds]):=by rw [LA,h,gI,Bs,Option.bind_some,if_pos hl];rfl
theorem gH {g:D->D->Option Res}{r:Res}{x y:D} (h1:m env bx=.val (.d x) bx1) (h2:k env bx1=.val (.d y) bx2) (hg:g x y=some r):d2 false g m k env bx=.val (.d r.toD) bx2:=by rw [Jx,h1,gI,h2,gI,An,An,Option.bind_some,Option.bind_some,hg,i3]
theorem fQ {fn:List W->List Bx->O W}{n:Nat} (h:ks env bx=.val l bx1) (hn:l.length=n) (hf:fn l bx1=.val w bx2):fv fn n ks env bx=.val w bx2:=by rw [C3,h,gI,if_pos hn,hf]
theorem mJ {b:Bool} (h:m env bx=.val (.d (.bl b)) bx1):dB m env bx=.val b bx1:=by rw [Ps,h,gI]
theorem lN {t:DE Bool}{b:Bool} (h:t env bx=.val b bx1):dNot t env bx=.val (!b) bx1:=by rw [Ob,h,gI]
theorem O0 {t s:DE Bool}{b:Bool} (h:t env bx=.val false bx1) (h2:s env bx1=.val b bx2):dOr t s env bx=.val b bx2:=by rw [OW,h,gI,h2]
theorem GU {b:Bool} (h:m env bx=.val (.d (.bl b)) bx1):iR m k env bx=if b then k env bx1 else .val (.d (.bl false)) bx1:=by rw [GL,h];cases b <;> rfl
theorem AO {src:List (Option Nat)}{mi:DE (List W)}{g:DG}{tf:DE Bool}{te:DE W}{ds:List D}{e2:DEnv} (h1:mi env bx=.val l bx1) (he:srcEnv src env=e2) (h2:compD g tf te l e2 bx1 []=.val ds bx2):gT false src mi g tf te env bx=.val (.d (.lst ds)) bx2:=by
  subst he;rw [Al,h1,gI,h2,gI,i3,mO]
theorem O1 {x:D}{r:Res}{lo hi:DE (Option Int)}{i j:Option Int} (h1:m env bx=.val (.d x) bx1) (h2:lo env bx1=.val i bx2) (h3:hi env bx2=.val j bx3) (hs:slD x i j=some r):dSl false m lo hi env bx=.val (.d r.toD) bx3:=by
  rw [OZ,h1,gI,h2,gI,h3,gI,An,Option.bind_some,hs,i3]
theorem MW {i:Int} (h:m env bx=.val (.d (.int i)) bx1):dPart m env bx=.val (some i) bx1:=by rw [MS,h,gI]
theorem Bt {ds:List D} (h:m env bx=.val (.d (.lst ds)) bx1):dIter m env bx=.val (ds.map W.d) bx1:=by rw [GN,h,gI]
theorem mQ {ds:List D} (h:m env bx=.val (.d (.tup ds)) bx1):dIter m env bx=.val (ds.map W.d) bx1:=by rw [GN,h,gI]
theorem Ga {i:Int} (h:m env bx=.val (.d (.int i)) bx1):dNeg m env bx=.val (.d (.int (-i))) bx1:=by rw [Of,h,gI]
theorem mS {d:D} (h:m env bx=.val (.d d) bx1) (c:canShow d=true):dRepr m env bx=.val (.d (.str (toPy d).shown)) bx1:=by
  unfold dRepr;rw [h,gI];exact if_pos c
theorem gi {a b:DSt} (h:a env bx=.nx env1 bx1):fJ a b env bx=b env1 bx1:=by rw [C6,h]
theorem BY {a b:DSt} (h:a env bx=.rt w bx1):fJ a b env bx=.rt w bx1:=by rw [C6,h]
theorem jV {i:Nat} (h:m env bx=.val w bx1):fY m (fk i) env bx=.nx (env.set i (some w)) bx1:=by rw [A3,h,Ay,oZ]
theorem jR (h:m env bx=.val w bx1):gc m env bx=.rt w bx1:=by rw [C7,h,Ay]
theorem BZ (h:m env bx=.val w bx1):lu m env bx=.nx env bx1:=by rw [GM,h,Ay]
theorem Gb {t:DE Bool}{a b:DSt} (h:t env bx=.val true bx1):sIf t a b env bx=a env bx1:=by rw [Ly,h,Ay]
theorem Bj {t:DE Bool}{a b:DSt} (h:t env bx=.val false bx1):sIf t a b env bx=b env bx1:=by rw [Ly,h,Ay]
theorem oN {mi:DE (List W)}{g:DG}{body:DSt} (h:mi env bx=.val l bx1):iZ mi g body env bx=forD g body l env bx1:=by rw [Lz,h,Ay]
theorem oI {g:DG}{body:DSt} (h1:g w env bx=some (env1,bx1)) (h2:body env1 bx1=.nx env2 bx2):forD g body (w :: l) env bx=forD g body l env2 bx2:=by
  rw [forD,h1]
  simp only [h2]
theorem Dg {g:DG}{body:DSt} (h1:g w env bx=some (env1,bx1)) (h2:body env1 bx1=.rt u bx2):forD g body (w :: l) env bx=.rt u bx2:=by
  rw [forD,h1]
  simp only [h2]
theorem Pn {g:DG}{body:DSt}:forD g body [] env bx=.nx env bx:=rfl
theorem Bu {g:DG}{body:DSt} (I:Nat->DEnv->List Bx->Prop):∀ (l:List W) (k:Nat) (env:DEnv) (bx:List Bx),I k env bx ->
    (∀ i w env bx,l[i]?=some w->I (k + i) env bx->∃ env1 bx1 env2 bx2,g w env bx=some (env1,bx1) /\ body env1 bx1=.nx env2 bx2 /\ I (k + i + 1) env2 bx2) ->
    ∃ env' bx',forD g body l env bx=.nx env' bx' /\ I (k + l.length) env' bx':=by
  intro l
  induction l with
  | nil=>intro k env bx h _;exact ⟨env,bx,rfl,h⟩
  | cons w l ih =>
    intro k env bx h st
    obtain ⟨env1,bx1,env2,bx2,e1,e2,h2⟩:=st 0 w env bx rfl h
    obtain ⟨env',bx',e3,h3⟩:=ih (k + 1) env2 bx2 h2 fun i x env bx e hi=>by
      have:=st (i + 1) x env bx (by simpa using e) (by rw [show k + (i + 1)=k + 1 + i by omega];exact hi)
      rw [show k + (i + 1) + 1=k + 1 + i + 1 by omega] at this
      exact this
    exact ⟨env',bx',by rw [oI e1 e2,e3],by rw [List.length_cons,show k + (l.length + 1)=k + 1 + l.length by omega];exact h3⟩
end
end L2.DL
set_option Elab.async false
set_option linter.all false
set_option maxRecDepth 100000
set_option maxHeartbeats 1000000
namespace K1
open PySem PySem.Spec PyProof.Rows L2 L2.DL
noncomputable def lP (p:Int × Int):List Int:=[p.1,p.2]
noncomputable def unP:List Int->Int × Int
  | [a,b]=>(a,b)
  | _=>(0,0)
theorem B5:∀ ps:List (Int × Int),tupsOf (ps.map dP)=some (ps.map lP)
  | []=>rfl
  | p :: ps=>by simp [tupsOf,intsOf,B5 ps,lP]
theorem Gc (ps:List (Int × Int)):∃ qs:List (Int × Int),qs.Perm ps /\ sortT (ps.map lP)=qs.map lP /\ qs.Pairwise (fun a b=>ltP b a=false):=by
  have pe:(sortT (ps.map lP)).Perm (ps.map lP):=List.mergeSort_perm _ _
  have e:(sortT (ps.map lP)).map (lP ∘ unP)=sortT (ps.map lP):=by
    conv=>rhs;rw [<-List.map_id (sortT (ps.map lP))]
    refine List.map_congr_left fun x m=>?_
    obtain ⟨p,_,rfl⟩:=List.mem_map.mp (pe.mem_iff.mp m)
    rfl
  refine ⟨(sortT (ps.map lP)).map unP,?_,?_,?_⟩
  . have:=pe.map unP
    rw [List.map_map] at this
    have z:(unP ∘ lP)=id:=by funext p;rfl
    rwa [z,List.map_id] at this
  . rw [List.map_map];exact e.symm
  . have so:=AI (ps.map lP)
    rw [<-e,<-List.map_map] at so
    exact (List.pairwise_map.mp so).imp fun h=>h
theorem LR (qs:List (Int × Int)):dTups (qs.map lP)=qs.map dP:=by
  unfold dTups
  rw [List.map_map]
  rfl
theorem MX (ps:List (Int × Int)) (h:ps.length < 64):∃ qs:List (Int × Int),qs.Perm ps /\ qs.Pairwise (fun a b=>ltP b a=false) /\ sortA [.lst (ps.map dP)]=some (.lst (qs.map dP)):=by
  cases ps with
  | nil=>exact ⟨[],.refl _,.nil,by simp [sortA,sortD,intsOf,sortI]⟩
  | cons p ps =>
    obtain ⟨qs,h1,h2,h3⟩:=Gc (p :: ps)
    refine ⟨qs,h1,h3,?_⟩
    have e1:sortD [.lst ((p :: ps).map dP)]=none:=rfl
    have e2:=B5 (p :: ps)
    have l:((p :: ps).map lP).length < 64:=by rw [List.length_map];exact h
    simp only [sortA,e1,e2,Option.bind_some,if_pos l,h2,LR]
theorem O2 {p q:Int × Int} (h:ltP q p=false) (n:p ≠ q):ltP p q=true:=by
  cases e:ltP p q with
  | true=>rfl
  | false =>
    have:=HT.m7 _ _ e h
    simp only [List.cons.injEq,and_true] at this
    exact absurd (Prod.ext this.1 this.2) n
theorem GV:∀ {qs:List (Int × Int)},qs.Pairwise (fun a b=>ltP b a=false)->qs.Nodup->incr qs=true
  | [],_,_=>rfl
  | [p],_,_=>rfl
  | p :: q :: r,h,n=>by
    have h1:=List.pairwise_cons.mp h
    have n1:=List.nodup_cons.mp n
    simp only [incr,Bool.and_eq_true]
    exact ⟨O2 (h1.1 q (List.mem_cons_self ..)) (fun e=>n1.1 (by rw [e];exact List.mem_cons_self ..)),GV h1.2 n1.2⟩
structure Prs (k:Nat) (ps:List (Int × Int)):Prop where
  nd:ps.Nodup
  b:∀ p ∈ ps,0 <= p.1 /\ p.1 < p.2 /\ p.2 < (k:Int)
  l:ps.length <= 4 * k
noncomputable abbrev hBody (ft:List W->List Bx->O W):DSt:=(fY (d2 false fK (dV 3) (gT false [none,some 4,some 0] (dRng1 (fc (dV 4) ff)) (fk 0) (dB (d2 false eqD (fv ft 2 (fc (dV 2) (fc (dC (.int 3)) ff))) (dC (.int 0)))) (fF (fc (dV 0) (fc (dV 1) ff))))) (fk 3))
theorem JE {bx:List Bx}{n:Nat} (h:n < bx.length) (k:Nat) (hk:k <= 4) (p:Int):∃ is:List Nat,∃ q,is.Sublist (List.range k) /\
    compD (fk 0) (dB (d2 false eqD (fv fu 2 (fc (dV 2) (fc (dC (.int 3)) ff))) (dC (.int 0)))) (fF (fc (dV 0) (fc (dV 1) ff))) (gm 0 k) [none,some (.d (.int k)),some (.b n)] (pt bx n p) []=.val (is.map fun (i:Nat)=>dP ((i:Int),(k:Int))) (pt bx n q):=by
  have z2:(2:Nat) <= sizeLine:=by decide
  have sz:sizeLine=16777216:=sizeLine_eq
  obtain ⟨l',q,e,s⟩:=BX (g:=fk 0) (tf:=dB (d2 false eqD (fv fu 2 (fc (dV 2) (fc (dC (.int 3)) ff))) (dC (.int 0)))) (te:=fF (fc (dV 0) (fc (dV 1) ff))) (fun e=>∃ w,e=[w,some (.d (.int k)),some (.b n)]) (fun w=>.tup [match w with | .d x=>x | _=>.non,.int k]) (bx:=bx) (n:=n) (gm 0 k) [none,some (.d (.int k)),some (.b n)] p [] ⟨none,rfl⟩ (by
      intro w mw env p ⟨w0,je⟩
      obtain ⟨i,_,rfl⟩:=List.mem_map.mp mw
      have t:=gY h p 3 (by decide) (by decide)
      exact ⟨[some (.d (.int (0 + (i:Int)))),some (.d (.int k)),some (.b n)],decide (p % 3=0),p / 3,by simp [je],⟨_,rfl⟩,by simp [t,eqD],by simp [z2]⟩) (by simp [gm];omega)
  unfold gm at s
  obtain ⟨is,s1,rfl⟩:=List.sublist_map_iff.mp s
  refine ⟨is,q,s1,?_⟩
  rw [e,List.nil_append,List.map_map]
  congr 1
  refine List.map_congr_left fun i _=>?_
  simp [dP]
theorem Prs.more {k:Nat}{ps:List (Int × Int)}{is:List Nat} (s:Prs k ps) (s1:is.Sublist (List.range k)) (hk:k <= 4):Prs (k + 1) (ps ++ is.map fun (i:Nat)=>((i:Int),(k:Int))):=by
  have li:is.length <= k:=by have:=s1.length_le;simpa using this
  refine ⟨List.nodup_append.mpr ⟨s.nd,?_,?_⟩,?_,?_⟩
  . have nr:is.Nodup:=s1.nodup List.nodup_range
    exact List.pairwise_map.mpr (nr.imp fun {a b} h e=>h (by have z:(a:Int)=(b:Int):=congrArg Prod.fst e;omega))
  . intro a ma b mb e
    subst e
    obtain ⟨i,_,rfl⟩:=List.mem_map.mp mb
    have:=(s.b _ ma).2.2
    simp at this
  . intro a ma
    rcases List.mem_append.mp ma with m | m
    . have:=s.b a m
      omega
    . obtain ⟨i,mi,rfl⟩:=List.mem_map.mp m
      have:=List.mem_range.mp (s1.subset mi)
      simp
      omega
  . have:=s.l
    simp
    omega
theorem AQ {env:DEnv}{bx:List Bx}{k:Nat}{m:DE (List W)} (e:m env bx=.val [.d (.int (k:Int))] bx) (hk:k <= 1000000):dRng1 m env bx=.val (gm 0 k) bx:=by
  rw [A5 e (by omega),Int.toNat_natCast]
theorem LS {ft:List W->List Bx->O W}{bx:List Bx}{n k:Nat}{p q:Int} (x1 x2:Option W) {ps:List (Int × Int)}{is:List Nat} (hk:k <= 4) (y:ps.length + is.length <= sizeLine)
    (e:compD (fk 0) (dB (d2 false eqD (fv ft 2 (fc (dV 2) (fc (dC (.int 3)) ff))) (dC (.int 0)))) (fF (fc (dV 0) (fc (dV 1) ff))) (gm 0 k) [none,some (.d (.int k)),some (.b n)] (pt bx n p) []=.val (is.map fun (i:Nat)=>dP ((i:Int),(k:Int))) (pt bx n q)) :
    hBody ft [some (.b n),x1,x2,some (.d (.lst (ps.map dP))),some (.d (.int (k:Int)))] (pt bx n p)=.nx [some (.b n),x1,x2,some (.d (.lst ((ps ++ is.map fun (i:Nat)=>((i:Int),(k:Int))).map dP))),some (.d (.int (k:Int)))] (pt bx n q):=by
  have rg:=AQ (env:=[some (.b n),x1,x2,some (.d (.lst (ps.map dP))),some (.d (.int (k:Int)))]) (bx:=pt bx n p) (k:=k) (m:=fc (dV 4) ff) (by simp) (by omega)
  have ad:fK (.lst (ps.map dP)) (.lst (is.map fun (i:Nat)=>dP ((i:Int),(k:Int))))=some (.lst ((ps ++ is.map fun (i:Nat)=>((i:Int),(k:Int))).map dP)):=by
    refine (if_pos (by rw [List.length_map,List.length_map];exact y)).trans ?_
    rw [List.map_append,List.map_map]
    rfl
  unfold hBody
  rw [A3,Jx,show dV 3 [some (.b n),x1,x2,some (.d (.lst (ps.map dP))),some (.d (.int (k:Int)))] (pt bx n p)=.val (.d (.lst (ps.map dP))) (pt bx n p) from rfl,gI,Al,rg,gI,
    show srcEnv [none,some 4,some 0] [some (W.b n),x1,x2,some (W.d (.lst (ps.map dP))),some (W.d (.int (k:Int)))]=[none,some (.d (.int k)),some (.b n)] from rfl,e,gI,i3,gI,mO,An,An,Option.bind_some,Option.bind_some,ad,i3,mO,Ay,oZ]
  rfl
theorem LT {bx:List Bx}{n:Nat} (h:n < bx.length) (x1 x2:Option W):∀ (c k:Nat) (p:Int) (ps:List (Int × Int)) (w:Option W),k + c <= 4->Prs k ps ->
    ∃ ps' w' q,forD (fk 4) (hBody fu) ((List.range' k c).map fun (i:Nat)=>W.d (.int (0 + (i:Int)))) [some (.b n),x1,x2,some (.d (.lst (ps.map dP))),w] (pt bx n p)=.nx [some (.b n),x1,x2,some (.d (.lst (ps'.map dP))),w'] (pt bx n q) /\ Prs (k + c) ps':=by
  intro c
  induction c with
  | zero=>intro k p ps w _ s;exact ⟨ps,w,p,rfl,s⟩
  | succ c ih =>
    intro k p ps w hk s
    obtain ⟨is,q,s1,e⟩:=JE h k (by omega) p
    have li:is.length <= k:=by have:=s1.length_le;simpa using this
    have s':=s.more s1 (by omega)
    obtain ⟨ps',w',q',e2,s2⟩:=ih (k + 1) q _ (some (.d (.int (k:Int)))) (by omega) s'
    refine ⟨ps',w',q',?_,by rw [show k + (c + 1)=k + 1 + c by omega];exact s2⟩
    have sz:sizeLine=16777216:=sizeLine_eq
    have pl:=s.l
    have st:=LS x1 x2 (ps:=ps) (is:=is) (by omega) (by omega) e
    have g1:fk 4 (W.d (.int (0 + (k:Int)))) [some (.b n),x1,x2,some (.d (.lst (ps.map dP))),w] (pt bx n p)=some ([some (.b n),x1,x2,some (.d (.lst (ps.map dP))),some (.d (.int (k:Int)))],pt bx n p):=by
      rw [Int.zero_add];rfl
    rw [List.range'_succ,List.map_cons,oI g1 st]
    exact e2
end K1
set_option Elab.async false
set_option linter.all false
set_option maxRecDepth 100000
set_option maxHeartbeats 1000000
namespace K1
open PySem PySem.Spec PyProof.Rows L2 L2.DL
theorem GW {d:D}{lo hi:Int}{B a:Nat} (h:wi d lo hi=true) (h1:lo.natAbs <= B) (h2:hi.natAbs <= B):Sm B a 1921 d:=by
  obtain ⟨i,rfl,a1,a2⟩:=Az h
  exact Sm.int (by omega)
theorem LU {d:D} (h:rates d=true):Sm 999 1 7695 d:=by
  cases d with
  | tup l =>
    simp only [rates,Bool.and_eq_true] at h
    have n:=o6 h.1
    have s:=SmL.of (B:=999) (a:=0) (b:=1921) (l:=l) fun x m=>GW (List.all_eq_true.mp h.2.1 x m) (by decide) (by decide)
    have e:l.length=4:=by omega
    rw [e] at s
    exact Sm.tup s
  | _=>simp [rates] at h
theorem MY {d:D} (h:kind d=true):Sm 999 2 9623 d:=by
  cases d with
  | tup l =>
    simp only [kind,Bool.and_eq_true] at h
    obtain ⟨a,b,rfl⟩:=tl2 h.1
    simp only [Bool.and_eq_true] at h
    have s1:=GW (B:=999) (a:=1) h.2.1 (by decide) (by decide)
    have s2:=LU h.2.2
    exact Sm.tup (SmL.cons s1 (SmL.cons s2 SmL.nil))
  | _=>simp [kind] at h
theorem O3 {p:Int × Int}{k:Nat} (h:0 <= p.1 /\ p.1 < p.2 /\ p.2 < (k:Int)) (hk:k <= 4):Sm 999 1 3849 (dP p) :=
  Sm.tup (SmL.cons (Sm.int (by omega)) (SmL.cons (Sm.int (by omega)) SmL.nil))
theorem LV {bx:List Bx}{n:Nat} (h:n < bx.length) (p:Int) (x1 x2 x3 x4:Option W):∃ (ds:List D) (q:Int),rooms (.tup ds)=true /\
    fY (dN false tupleD (fc (gT false [none,some 0] (dRng1 (fc (d2 false fK (dC (.int 1)) (fv fu 2 (fc (dV 0) (fc (dC (.int 5)) ff)))) ff)) (fk 0) gZ (fv fu 2 (fc (dV 1) (fc (dC (.int 4)) ff)))) ff)) (fk 1) [some (.b n),x1,x2,x3,x4] (pt bx n p)=.nx [some (.b n),some (.d (.tup ds)),x2,x3,x4] (pt bx n q):=by
  have t5:=gY h p 5 (by decide) (by decide)
  have lo:=i7 p (k:=5) (by decide)
  have hi:=i8 p (k:=5) (by decide)
  obtain ⟨j,ej⟩:=Int.eq_ofNat_of_zero_le lo
  have sz:sizeLine=16777216:=sizeLine_eq
  obtain ⟨ds,q,e1,e2,e3⟩:=Br (g:=fk 0) (te:=fv fu 2 (fc (dV 1) (fc (dC (.int 4)) ff))) (fun e=>∃ w,e=[w,some (.b n)]) (fun d=>wi d 0 3=true) (bx:=bx) (n:=n) (gm 0 (1 + j)) [none,some (.b n)] (p / 5) [] ⟨none,rfl⟩ (by
      intro w _ env p ⟨w0,je⟩
      have t:=gY h p 4 (by decide) (by decide)
      have b1:=i7 p (k:=4) (by decide)
      have b2:=i8 p (k:=4) (by decide)
      exact ⟨[some w,some (.b n)],by simp [je],⟨_,rfl⟩,.int (p % 4),p / 4,by simp [t],by simp [wi];omega⟩) (by simp [gm];omega)
  have n5:ds.length=1 + j:=by rw [e2];simp [gm]
  refine ⟨ds,q,?_,?_⟩
  . have a1:tl (.tup ds) 1 5=true:=by simp [tl];omega
    have a2:(ds.all fun x=>wi x 0 3)=true:=List.all_eq_true.mpr e3
    simp [rooms,a1,a2]
  . have rg:=AQ (env:=[some (.b n),x1,x2,x3,x4]) (bx:=pt bx n (p / 5)) (k:=1 + j) (m:=fun _ bx=>.val [.d (.int ((1 + j:Nat):Int))] bx) rfl (by omega)
    have r2:dRng1 (fc (d2 false fK (dC (.int 1)) (fv fu 2 (fc (dV 0) (fc (dC (.int 5)) ff)))) ff) [some (.b n),x1,x2,x3,x4] (pt bx n p)=.val (gm 0 (1 + j)) (pt bx n (p / 5)):=by
      have a:(fc (d2 false fK (dC (.int 1)) (fv fu 2 (fc (dV 0) (fc (dC (.int 5)) ff)))) ff) [some (.b n),x1,x2,x3,x4] (pt bx n p)=.val [.d (.int ((1 + j:Nat):Int))] (pt bx n (p / 5)):=by
        simp [t5,fK,ej]
      rw [A5 a (by omega),Int.toNat_natCast]
    simp only [List.nil_append] at e1
    rw [A3,Jy,Ak,Al,r2,gI,show srcEnv [none,some 0] [some (W.b n),x1,x2,x3,x4]=[none,some (W.b n)] from rfl,e1,gI,i3,gI,BQ,gI,gI,mO,BR,AM,Option.map_some,Option.bind_some,show tupleD [.lst ds]=some (.tup ds) from rfl,i3,C5,Ay,oZ]
    rfl
theorem LW {bx:List Bx}{n:Nat} (h:n < bx.length) (p:Int) (x1 x2 x3 x4:Option W):∃ (ds:List D) (q:Int),kinds (.tup ds)=true /\ ds.length <= 4 /\
    fY (dN false tupleD (fc (gT false [none,some 0] (dRng1 (fc (d2 false fK (dC (.int 1)) (fv fu 2 (fc (dV 0) (fc (dC (.int 4)) ff)))) ff)) (fk 0) gZ (fv iD 1 (fc (dV 1) ff))) ff)) (fk 2) [some (.b n),x1,x2,x3,x4] (pt bx n p)=.nx [some (.b n),x1,some (.d (.tup ds)),x3,x4] (pt bx n q):=by
  have t5:=gY h p 4 (by decide) (by decide)
  have lo:=i7 p (k:=4) (by decide)
  have hi:=i8 p (k:=4) (by decide)
  obtain ⟨j,ej⟩:=Int.eq_ofNat_of_zero_le lo
  have sz:sizeLine=16777216:=sizeLine_eq
  obtain ⟨ds,q,e1,e2,e3⟩:=Br (g:=fk 0) (te:=fv iD 1 (fc (dV 1) ff)) (fun e=>∃ w,e=[w,some (.b n)]) (fun d=>kind d=true) (bx:=bx) (n:=n) (gm 0 (1 + j)) [none,some (.b n)] (p / 4) [] ⟨none,rfl⟩ (by
      intro w _ env p ⟨w0,je⟩
      obtain ⟨d,q,e,m⟩:=MV h p
      exact ⟨[some w,some (.b n)],by simp [je],⟨_,rfl⟩,d,q,by simp [e],m⟩) (by simp [gm];omega)
  have n5:ds.length=1 + j:=by rw [e2];simp [gm]
  refine ⟨ds,q,?_,by omega,?_⟩
  . have a1:tl (.tup ds) 1 4=true:=by simp [tl];omega
    have a2:(ds.all kind)=true:=List.all_eq_true.mpr e3
    simp [kinds,a1,a2]
  . have r2:dRng1 (fc (d2 false fK (dC (.int 1)) (fv fu 2 (fc (dV 0) (fc (dC (.int 4)) ff)))) ff) [some (.b n),x1,x2,x3,x4] (pt bx n p)=.val (gm 0 (1 + j)) (pt bx n (p / 4)):=by
      have a:(fc (d2 false fK (dC (.int 1)) (fv fu 2 (fc (dV 0) (fc (dC (.int 4)) ff)))) ff) [some (.b n),x1,x2,x3,x4] (pt bx n p)=.val [.d (.int ((1 + j:Nat):Int))] (pt bx n (p / 4)):=by
        simp [t5,fK,ej]
      rw [A5 a (by omega),Int.toNat_natCast]
    simp only [List.nil_append] at e1
    rw [A3,Jy,Ak,Al,r2,gI,show srcEnv [none,some 0] [some (W.b n),x1,x2,x3,x4]=[none,some (W.b n)] from rfl,e1,gI,i3,gI,BQ,gI,gI,mO,BR,AM,Option.map_some,Option.bind_some,show tupleD [.lst ds]=some (.tup ds) from rfl,i3,C5,Ay,oZ]
    rfl
theorem MZ {bx:List Bx}{n:Nat} (h:n < bx.length) (p:Int) (x1 x2 x3 x4:Option W):∃ (d:D) (q:Int),wi d 1 9=true /\
    d2 false ixD (gx false (fc (dC (.int 1)) (fc (dC (.int 2)) (fc (dC (.int 9)) (fc (d2 false fK (dC (.int 1)) (fv fu 2 (fc (dV 0) (fc (dC (.int 9)) ff)))) ff))))) (fv fu 2 (fc (dV 0) (fc (dC (.int 4)) ff))) [some (.b n),x1,x2,x3,x4] (pt bx n p)=.val (.d d) (pt bx n q):=by
  have t9:=gY h p 9 (by decide) (by decide)
  have t4:=gY h (p / 9) 4 (by decide) (by decide)
  have lo:=i7 p (k:=9) (by decide)
  have hi:=i8 p (k:=9) (by decide)
  obtain ⟨y,ey,my⟩:=mP (l:=[D.int 1,.int 2,.int 9,.int (1 + p % 9)]) (i7 (p / 9) (k:=4) (by decide)) (by show _ < (4:Int);exact i8 _ (by decide))
  have z4:(4:Nat) <= sizeLine:=by decide
  refine ⟨y,p / 9 / 4,?_,?_⟩
  . simp at my
    rcases my with rfl | rfl | rfl | rfl
    . rfl
    . rfl
    . rfl
    . simp [wi];omega
  . generalize fu=ft at t4 t9 ⊢
    simp [t9,fK,z4,t4,ixD,ey]
theorem LX {bx:List Bx}{n:Nat} (h:n < bx.length) (p:Int):Dr (iP [.b n] (pt bx n p)) bx n (fun d=>house d=true /\ Sm 999 4 111672 d):=by
  obtain ⟨rs,q1,hr,e1⟩:=LV h p none none none none
  obtain ⟨ks,q2,hk,lk,e2⟩:=LW h q1 (some (.d (.tup rs))) none none none
  obtain ⟨ps,w',q3,e3,s3⟩:=LT h (some (.d (.tup rs))) (some (.d (.tup ks))) ks.length 0 q2 [] none (by omega) ⟨.nil,(fun p m=>nomatch m),Nat.le_refl _⟩
  rw [Nat.zero_add] at s3
  have pl:=s3.l
  obtain ⟨qs,pq,so,e4⟩:=MX ps (by omega)
  obtain ⟨hd,q4,hh,e5⟩:=MZ h q3 (some (.d (.tup rs))) (some (.d (.tup ks))) (some (.d (.lst (ps.map dP)))) w'
  have hb:∀ p ∈ qs,0 <= p.1 /\ p.1 < p.2 /\ p.2 < (ks.length:Int):=fun p m=>s3.b p (pq.mem_iff.mp m)
  have lq:qs.length <= 16:=by rw [pq.length_eq];omega
  refine ⟨.tup [.tup rs,.tup ks,.tup (qs.map dP),hd],q4,oM ?_ (by rw [gD,gD];exact Nat.le_refl _),?_,?_⟩
  . have sz:sizeLine=16777216:=sizeLine_eq
    have z4:(4:Nat) <= sizeLine:=by omega
    have z0:(0:Nat) <= sizeLine:=by omega
    show mL [some (.b n),none,none,none,none] (pt bx n p)=_
    have e0:fY (gx false ff) (fk 3) [some (.b n),some (.d (.tup rs)),some (.d (.tup ks)),none,none] (pt bx n q2)=.nx [some (.b n),some (.d (.tup rs)),some (.d (.tup ks)),some (.d (.lst (([]:List (Int × Int)).map dP))),none] (pt bx n q2):=by
      exact jV (o8 [] rfl z0)
    have rg:=AQ (env:=[some (.b n),some (.d (.tup rs)),some (.d (.tup ks)),some (.d (.lst (([]:List (Int × Int)).map dP))),none]) (bx:=pt bx n q2) (k:=ks.length) (m:=fc (dN false lenD (fc (dV 2) ff)) ff) (by simp [lenD]) (by omega)
    have e6:iZ (dRng1 (fc (dN false lenD (fc (dV 2) ff)) ff)) (fk 4) (hBody fu) [some (.b n),some (.d (.tup rs)),some (.d (.tup ks)),some (.d (.lst (([]:List (Int × Int)).map dP))),none] (pt bx n q2)=.nx [some (.b n),some (.d (.tup rs)),some (.d (.tup ks)),some (.d (.lst (ps.map dP))),w'] (pt bx n q3):=by
      rw [Lz,rg,Ay]
      unfold gm
      rw [List.range_eq_range']
      exact e3
    unfold mL
    have e7:dN false tupleD (fc (dN false sortA (fc (dV 3) ff)) ff) [some (.b n),some (.d (.tup rs)),some (.d (.tup ks)),some (.d (.lst (ps.map dP))),w'] (pt bx n q3)=.val (.d (.tup (qs.map dP))) (pt bx n q3) :=
      AN (r:=.tup (qs.map dP)) [.lst (qs.map dP)] (fm (AN (r:=.lst (qs.map dP)) [.lst (ps.map dP)] (fm rfl rfl) e4) rfl) rfl
    rw [gi e1,gi e2,gi e0,gi e6]
    exact jR (oH [.tup rs,.tup ks,.tup (qs.map dP),hd] (fm rfl (fm rfl (fm e7 (fm e5 rfl)))) z4)
  . have a:apart (ks.length:Int) (.tup (qs.map dP))=true:=by
      have b1:(qs.map dP).all (pairA (ks.length:Int))=true:=by
        rw [List.all_map,List.all_eq_true]
        intro p m
        have:=hb p m
        simp [pairA,tl]
        omega
      have b2:incr qs=true:=GV so (pq.nodup_iff.mpr s3.nd)
      show (((qs.map dP).all (pairA (ks.length:Int))) && incr ((qs.map dP).filterMap toP))=true
      rw [Bo,b1,b2];rfl
    simp only [house,lenOf,hr,hk,a,hh,Bool.and_self]
  . have r1:Sm 999 1 9618 (.tup rs):=by
      simp only [rooms,Bool.and_eq_true] at hr
      have n:=o6 hr.1
      exact (Sm.tup (SmL.of (B:=999) (a:=0) (b:=1921) fun x m=>GW (List.all_eq_true.mp hr.2 x m) (by decide) (by decide))).mono (by decide) (by omega)
    have r2:Sm 999 3 38503 (.tup ks):=by
      simp only [kinds,Bool.and_eq_true] at hk
      exact (Sm.tup (SmL.of (B:=999) (a:=2) (b:=9623) fun x m=>MY (List.all_eq_true.mp hk.2 x m))).mono (by decide) (by omega)
    have r3:Sm 999 2 61619 (.tup (qs.map dP)):=by
      have z:=SmL.of (B:=999) (a:=1) (b:=3849) (l:=qs.map dP) fun x m=>by
        obtain ⟨p,mp,rfl⟩:=List.mem_map.mp m
        exact O3 (hb p mp) lk
      rw [List.length_map] at z
      exact (Sm.tup z).mono (by decide) (by omega)
    exact (Sm.tup (SmL.cons (r1.mono (by decide) (Nat.le_refl _)) (SmL.cons r2 (SmL.cons (r3.mono (by decide) (Nat.le_refl _)) (SmL.cons (GW hh (by decide) (by decide)) SmL.nil))))).mono (Nat.le_refl _) (by decide)
end K1
set_option Elab.async false
set_option linter.all false
set_option maxRecDepth 100000
set_option maxHeartbeats 1000000
namespace K1
open PySem PySem.Spec PyProof.Rows L2 L2.DL
theorem GX {B a b:Nat}{l:List D} (h:(ibs B l && decide (PyData.depthAll (toPys l) <= a) && decide (wts l <= b))=true):SmL B a b l:=by
  simp only [Bool.and_eq_true,decide_eq_true_eq] at h
  exact ⟨h.1.1,h.1.2,h.2⟩
theorem LY {α:Type}{l:List α}{i:Nat}{a:α} (h:l[i]?=some a):l.set i a=l:=by
  obtain ⟨hi,e⟩:=List.getElem?_eq_some_iff.mp h
  rw [<-e];exact List.set_getElem_self hi
section
variable {bx : List Bx}
theorem Ng {m k:DE W}{env:DEnv}{bx bx1 bx2:List Bx}{i:Nat}{l l0:List D}{d:D} (h1:m env bx=.val (.b i) bx1) (hb0:bx1[i]?=some (.lst l0)) (h2:k env bx1=.val (.d d) bx2) (hb:bx2[i]?=some (.lst l)) (hl:l.length < sizeLine):dApp m k env bx=.val (.d .non) (bx2.set i (.lst (l ++ [d]))):=by
  unfold dApp
  rw [h1,gI]
  simp only [hb0,h2,gI,hb,if_pos hl]
end
section
variable {n : Nat} {d hd lim rt : D} {rs ks ps : List D} {j : Nat} {fo so fi tw th : Option W} {bx : List Bx}
end
end K1
set_option Elab.async false
set_option linter.all false
set_option maxRecDepth 100000
set_option maxHeartbeats 1000000
namespace K1
open PySem PySem.Spec PyProof.Rows L2 L2.DL
section
variable {n : Nat} {d hd lim rt : D} {rs ks ps : List D} {j : Nat} {fo so fi tw th : Option W} {bx : List Bx}
end
end K1
set_option Elab.async false
set_option linter.all false
set_option maxRecDepth 100000
set_option maxHeartbeats 1000000
namespace K1
open PySem PySem.Spec PyProof.Rows L2 L2.DL
theorem Gd {n:Nat}{m:DSt}{ws:List W}{d:D}{bx bx':List Bx} (h:m (ws.map some ++ List.replicate (n - ws.length) none) bx=.rt (.d d) bx'):fnD n (noX m) ws bx=.val (.d d) (bx'.take bx.length):=by
  simp only [fnD,noX,DL.envOf,h,retO,cutO]
structure House (d hd lim rt:D) (rs ks ps:List D):Prop where
  e:d=.tup [.tup rs,.tup ks,.tup ps,hd]
  k:ks[0]?=some (.tup [lim,rt])
  r0:rs ≠ []
  r5:rs.length <= 5
  k0:ks ≠ []
  k4:ks.length <= 4
end K1
set_option Elab.async false
set_option linter.all false
set_option maxRecDepth 100000
set_option maxHeartbeats 1000000
namespace K1
open PySem PySem.Spec PyProof.Rows L2 L2.DL
theorem Oo (l:List Int) (k:Nat) (bx:List Bx):∃ c:Int,ic [.s l,.d (.int (k:Int))] bx=.val (.d (.int c)) bx:=by
  by_cases h:k < l.length
  . have a:atI l (k:Int)=some l[k]:=LO l k h
    refine ⟨l[k],iK ?_⟩
    have h':(k:Int) < (l.length:Int):=by omega
    simp [lf,dLenS,ltD,h',dIxS,a]
  . refine ⟨0,iK ?_⟩
    have h':¬ (k:Int) < (l.length:Int):=by omega
    simp [lf,dLenS,ltD,h']
noncomputable abbrev potBody:DSt:=(fJ (fY (d2 false modD (d2 false mulD (d2 false fK (d2 false fK (d2 false modD (dV 0) (dC (.int 2147483629))) (d2 false mulD (dC (.int 7919)) (dV 2))) (dC (.int 1))) (dC (.int 48271))) (dC (.int 2147483647))) (fk 3)) (fJ (fY (d2 false modD (d2 false fK (d2 false fK (d2 false mulD (dV 3) (dV 3)) (d2 false mulD (dC (.int 69621)) (dV 2))) (dC (.int 7))) (dC (.int 2147483587))) (fk 3)) (fY (d2 false fK (d2 false mulD (dV 1) (dC (.int 2147483587))) (dV 3)) (fk 1))))
theorem GY {i j:Int} (h1:-(2 ^ 64) < i) (h2:i < 2 ^ 64):mulD (.int i) (.int j)=some (.old (.int (i * j))):=if_pos (.inl ⟨h1,h2⟩)
theorem LZ {i j:Int} (h1:-(2 ^ 64) < j) (h2:j < 2 ^ 64):mulD (.int i) (.int j)=some (.old (.int (i * j))):=if_pos (.inr ⟨h1,h2⟩)
theorem L3 {i j:Int} (h1:0 < j):modD (.int i) (.int j)=some (.old (.int (i % j))):=if_pos h1
theorem GZ {i j:Int} (h1:CPow i j):powD (.int i) (.int j)=some (.old (.int (i ^ j.toNat))):=if_pos h1
theorem JF (c x j:Int) (w:Option W) (bx:List Bx):∃ x' y,potBody [some (.d (.int c)),some (.d (.int x)),some (.d (.int j)),w] bx=.nx [some (.d (.int c)),some (.d (.int x')),some (.d (.int j)),some (.d (.int y))] bx:=by
  let a:=(c % 2147483629 + 7919 * j + 1) * 48271 % 2147483647
  let b:=(a * a + 69621 * j + 7) % 2147483587
  have a0:0 <= a:=i7 _ (by decide)
  have a1:a < 2147483647:=i8 _ (by decide)
  have e1:fY (d2 false modD (d2 false mulD (d2 false fK (d2 false fK (d2 false modD (dV 0) (dC (.int 2147483629))) (d2 false mulD (dC (.int 7919)) (dV 2))) (dC (.int 1))) (dC (.int 48271))) (dC (.int 2147483647))) (fk 3) [some (.d (.int c)),some (.d (.int x)),some (.d (.int j)),w] bx=.nx [some (.d (.int c)),some (.d (.int x)),some (.d (.int j)),some (.d (.int a))] bx :=
    jV (gH (r:=.old _) (gH (r:=.old _) (gH (r:=.old _) (gH (r:=.old _) (gH (r:=.old _) rfl rfl (L3 (by decide))) (gH (r:=.old _) rfl rfl (GY (by decide) (by decide))) rfl) rfl rfl) rfl (LZ (by decide) (by decide))) rfl (L3 (by decide)))
  have e2:fY (d2 false modD (d2 false fK (d2 false fK (d2 false mulD (dV 3) (dV 3)) (d2 false mulD (dC (.int 69621)) (dV 2))) (dC (.int 7))) (dC (.int 2147483587))) (fk 3) [some (.d (.int c)),some (.d (.int x)),some (.d (.int j)),some (.d (.int a))] bx=.nx [some (.d (.int c)),some (.d (.int x)),some (.d (.int j)),some (.d (.int b))] bx :=
    jV (gH (r:=.old _) (gH (r:=.old _) (gH (r:=.old _) (gH (r:=.old _) rfl rfl (GY (by omega) (by omega))) (gH (r:=.old _) rfl rfl (GY (by decide) (by decide))) rfl) rfl rfl) rfl (L3 (by decide)))
  have e3:fY (d2 false fK (d2 false mulD (dV 1) (dC (.int 2147483587))) (dV 3)) (fk 1) [some (.d (.int c)),some (.d (.int x)),some (.d (.int j)),some (.d (.int b))] bx=.nx [some (.d (.int c)),some (.d (.int (x * 2147483587 + b))),some (.d (.int j)),some (.d (.int b))] bx :=
    jV (gH (r:=.old _) (gH (r:=.old _) rfl rfl (LZ (by decide) (by decide))) rfl rfl)
  exact ⟨_,_,by unfold potBody;rw [gi e1,gi e2,e3]⟩
theorem L4 {n:Nat}{m:DSt}{ws:List W}{i:Nat}{bx bx':List Bx} (h:m (ws.map some ++ List.replicate (n - ws.length) none) bx=.rt (.b i) bx'):fnD n (noX m) ws bx=.val (.b i) bx':=by
  simp only [fnD,noX,DL.envOf,h,retO,cutO]
theorem O4 (c:Int) (bx:List Bx):∃ p:Int,jy [.d (.int c)] bx=.val (.b bx.length) (bx ++ [.lst [.int p]]):=by
  have sz:sizeLine=16777216:=sizeLine_eq
  have p18:∀ e b,d2 false powD (dC (.int 10)) (dC (.int 18)) e b=.val (.d (.int (10 ^ 18))) b:=fun e b=>gH (r:=.old _) rfl rfl (GZ (by decide))
  have t:dB (d2 false geI (dV 0) (d2 false powD (dC (.int 10)) (dC (.int 18)))) [some (.d (.int c)),none,none,none] bx=.val (decide (10 ^ 18 <= c)) bx:=mJ (gH (r:=.old _) rfl (p18 _ _) rfl)
  by_cases h:10 ^ 18 <= c
  . rw [decide_eq_true h] at t
    refine ⟨c - 10 ^ 18,L4 ?_⟩
    show lV [some (.d (.int c)),none,none,none] bx=_
    unfold lV
    refine (BY ((Gb t).trans (jR (Df [.int (c - 10 ^ 18)] (fm (gH (r:=.old _) rfl (p18 _ _) rfl) rfl) (show (1:Nat) <= sizeLine by omega))))).trans rfl
  . rw [decide_eq_false h] at t
    have rg:=AQ (env:=[some (.d (.int c)),some (.d (.int 0)),none,none]) (bx:=bx) (k:=64) (m:=fc (dC (.int 64)) ff) rfl (by decide)
    obtain ⟨env',bx',e,x,w2,w3,rfl,rfl⟩:=Bu (g:=fk 2) (body:=potBody) (fun _ env b=>∃ (x:Int) (w2 w3:Option W),env=[some (.d (.int c)),some (.d (.int x)),w2,w3] /\ b=bx) (gm 0 64) 0 [some (.d (.int c)),some (.d (.int 0)),none,none] bx ⟨0,none,none,rfl,rfl⟩ (by
      rintro i w env b hw ⟨x,w2,w3,rfl,rfl⟩
      obtain ⟨j,_,rfl⟩:=List.mem_map.mp (List.mem_of_getElem? hw)
      obtain ⟨x',y,e⟩:=JF c x (0 + (j:Int)) w3 b
      exact ⟨_,_,_,_,rfl,e,x',_,_,rfl,rfl⟩)
    refine ⟨x,L4 ?_⟩
    show lV [some (.d (.int c)),none,none,none] bx'=_
    unfold lV
    refine (gi (Bj t)).trans ?_
    refine (gi (jV rfl)).trans ?_
    refine (gi ((oN rg).trans e)).trans ?_
    exact jR (Df [.int x] rfl (show (1:Nat) <= sizeLine by omega))
end K1
set_option Elab.async false
set_option linter.all false
set_option maxRecDepth 100000
set_option maxHeartbeats 1000000
set_option exponentiation.threshold 3000
namespace K1
open PySem PySem.Spec PyProof.Rows L2 L2.DL
noncomputable def Fine (x:D):Prop:=∃ B a b,Sm B a b x /\ B <= 10 ^ 31 /\ a <= 60 /\ b <= 10000000
theorem Fine.ok {x:D} (h:Fine x):okH x:=by
  obtain ⟨B,a,b,s,h1,h2,h3⟩:=h
  have sz:sizeLine=16777216:=sizeLine_eq
  unfold okH
  split
  . rename_i p q r t
    obtain ⟨_,sl,_⟩:=s.parts'
    have s3:=sl.mem (d:=r) (by simp)
    unfold short
    split
    . rename_i l
      obtain ⟨_,s4,_⟩:=s3.parts'
      have:=De l
      have:=s4.w
      omega
    . trivial
  . trivial
noncomputable def F:Nat->Nat
  | 0=>111672
  | i + 1=>2 * F i + 4000
noncomputable abbrev lapBody:DSt:=(fY (fv (gh 12) 2 (fc (dV 2) (fc (dV 6) ff))) (fk 6))
noncomputable abbrev turnBody:DSt:=(fJ (fY (dV 3) (fk 6)) (fJ (iZ (dRng1 (fc (d2 false fK (dC (.int 1)) (fv fu 2 (fc (dV 2) (fc (dC (.int 3)) ff)))) ff)) (fk 7) lapBody) (lu (dApp (dV 4) (dV 6)))))
noncomputable abbrev lookBody:DSt:=(fJ (fY (dRepr (dV 8)) (fk 9)) (sIf (dOr (dB (d2 false neD (dRepr (fv iH 1 (fc (dV 8) ff))) (dRepr (fv oK 1 (fc (dV 8) ff))))) (dB (d2 false neD (dRepr (dV 8)) (dV 9)))) (gc (dC (.bl false))) sNil))
theorem Bv (x:Str):neD (.str x) (.str x)=some (.old (.bl false)):=by simp [neD]
theorem G0 (b:Bool):canShow (.bl b)=true:=by cases b <;> decide +kernel
end K1
set_option Elab.async false
set_option linter.all false
set_option maxRecDepth 100000
set_option maxHeartbeats 1000000
namespace K2
open PySem PySem.Spec PyProof.Rows L2 L2.DL K1
noncomputable def hr (d:D):Bool:=match d with
  | .int i=>decide (0 <= i)
  | _=>false
theorem Dh (d:D) (bx:List Bx):i5 [.d d] bx=.val (.d (.bl (hr d))) bx :=
  iK (by cases d <;> simp [A0,Fd,wh,geI,hr])
theorem Fm (d:D) (bx:List Bx):gP [.d d] bx=.val (.d (.bl (hr d))) bx :=
  iK (by cases d <;> simp [mX,A4,wh,geI,hr])
theorem B6 {d:D} (h:hr d=true):∃ i:Int,d=.int i /\ 0 <= i:=by
  cases d <;> simp [hr] at h
  exact ⟨_,rfl,h⟩
noncomputable def outB (d:D):Bool:=match d with
  | .tup [.int a,.int b]=>decide (0 <= a) && decide (a < b)
  | _=>false
theorem G1 {d:D} (h:outB d=true):∃ p:Int × Int,d=dP p /\ 0 <= p.1 /\ p.1 < p.2:=by
  unfold outB at h
  split at h
  . rename_i a b
    simp at h
    exact ⟨(a,b),rfl,h⟩
  . simp at h
theorem Di (a b:D):outB (.tup [a,b])=(hr a && (hr b && (match a,b with | .int i,.int j=>decide (i < j) | _,_=>false))):=by
  cases a <;> cases b <;> simp [outB,hr]
  rename_i i j
  rw [Bool.eq_iff_iff]
  simp
  omega
theorem Op (d:D) (bx:List Bx):oa [.d d] bx=.val (.d (.bl (outB d))) bx :=
  iK (by
    cases d with
    | tup l =>
      have e1:=gC (.tup l) 2 2 bx
      cases h:tl (.tup l) 2 2 with
      | false =>
        rw [h] at e1
        have e:outB (.tup l)=false:=by
          unfold outB
          split
          . rename_i q;cases q;simp [tl] at h
          . rfl
        unfold oY
        generalize K1.fT=ft at e1 ⊢
        simp [e1,e]
      | true =>
        obtain ⟨a,b,rfl⟩:=tl2 h
        rw [h] at e1
        have h1:=Dh a bx
        have h2:=Dh b bx
        rw [Di]
        unfold oY
        generalize K1.fT=ft at e1 ⊢
        generalize i5=fh at h1 h2 ⊢
        cases q1:hr a with
        | false=>simp [e1,ixD,atI,ixN,h1,q1]
        | true =>
          cases q2:hr b with
          | false=>simp [e1,ixD,atI,ixN,h1,q1,h2,q2]
          | true =>
            obtain ⟨i,rfl,_⟩:=B6 q1
            obtain ⟨j,rfl,_⟩:=B6 q2
            simp [e1,ixD,atI,ixN,h1,q1,h2,q2,ltD]
    | _=>simp [oY,gC,tl,outB])
noncomputable def apartP:List (Int × Int)->Bool
  | p :: q :: r=>decide (p.2 < q.1) && apartP (q :: r)
  | _=>true
theorem CI:∀ (p:Int × Int) (ps:List (Int × Int)),zipW ((p :: ps).map dP) (ps.map dP)=((p :: ps).zip ps).map fun x=>W.d (.tup [dP x.1,dP x.2])
  | p,[]=>rfl
  | p,q :: ps=>by
    have:=CI q ps
    simp only [List.map_cons] at this ⊢
    simp only [zipW,List.zip_cons_cons,List.map_cons,this]
theorem CJ:∀ (p:Int × Int) (ps:List (Int × Int)),apartP (p :: ps)=((p :: ps).zip ps).all fun x=>decide (x.1.2 < x.2.1)
  | p,[]=>rfl
  | p,q :: ps=>by
    rw [apartP,CJ q ps]
    simp
theorem Oq (ps:List (Int × Int)) (n:ps.length <= 1000) (bx:List Bx):lT [.d (.tup (ps.map dP))] bx=.val (.d (.bl (apartP ps))) bx :=
  iK (by
    have sz:sizeLine=16777216:=sizeLine_eq
    have cut:DL.cutD (ps.map dP) (some 1) none=ps.tail.map dP:=by
      cases ps with
      | nil=>rfl
      | cons p ps =>
        have:=BW ((p :: ps).map dP) 1 (by simp)
        simpa using this
    cases ps with
    | nil=>simp [lB,slD,cut,dZip,zipW,compD,allD,bolsOf,apartP]
    | cons p ps =>
      have ez:=CI p ps
      have c:=jp (g:=iS 2 (fR (fk 0) (fR (fk 1) i4))) (te:=d2 false ltD (d2 false ixD (dV 0) (dC (.int 1))) (d2 false ixD (dV 1) (dC (.int 0)))) (bx:=bx) (env:=[none,none]) (l:=((p :: ps).zip ps).map fun x=>D.tup [dP x.1,dP x.2]) (fun e=>∃ a b,e=[a,b]) (fun d=>.bl (match d with | .tup [.tup [_,.int i],.tup [.int j,_]]=>decide (i < j) | _=>false)) ⟨none,none,rfl⟩ (by
        intro d m e ⟨a,b,je⟩
        obtain ⟨x,_,rfl⟩:=List.mem_map.mp m
        exact ⟨[some (.d (dP x.1)),some (.d (dP x.2))],by simp [je],⟨_,_,rfl⟩,by simp [ixD,atI,ixN,ltD]⟩) (by
        rw [List.length_map,List.length_zip];simp at n ⊢;omega)
      rw [List.map_map] at c
      have r:(dZip (fc (dV 0) (fc (dSl false (dV 0) (dPart (dC (.int 1))) dNo) ff))) [some (.d (.tup ((p :: ps).map dP)))] bx=.val (((p :: ps).zip ps).map fun x=>W.d (.tup [dP x.1,dP x.2])) bx:=by
        unfold dZip
        rw [fm (w:=.d (.tup ((p :: ps).map dP))) (l:=[.d (.tup (ps.map dP))]) rfl (fm (O1 (r:=.tup (ps.map dP)) rfl (MW rfl) rfl (by rw [slD,cut];rfl)) rfl),gI,<-ez]
      show lB [some (.d (.tup ((p :: ps).map dP)))] bx=_
      unfold lB
      refine jR ?_
      refine (AN (r:=.old (.bl (apartP (p :: ps)))) [.lst _] (fm (AO r rfl c) rfl) ?_)
      rw [List.map_map]
      have:=all_map (((p :: ps).zip ps).map fun x=>D.tup [dP x.1,dP x.2]) (fun d=>match d with | .tup [.tup [_,.int i],.tup [.int j,_]]=>decide (i < j) | _=>false)
      rw [List.map_map,List.all_map] at this
      rw [CJ]
      exact this)
noncomputable def outs (d:D):Bool:=match d with
  | .tup l=>decide (l.length <= 4) && (l.all outB && apartP (l.filterMap toP))
  | _=>false
theorem AR:∀ {l:List D},l.all outB=true->∃ ps:List (Int × Int),l=ps.map dP /\ ∀ p ∈ ps,0 <= p.1 /\ p.1 < p.2
  | [],_=>⟨[],rfl,fun p m=>by cases m⟩
  | d :: l,h=>by
    simp only [List.all_cons,Bool.and_eq_true] at h
    obtain ⟨p,rfl,hp⟩:=G1 h.1
    obtain ⟨ps,rfl,hs⟩:=AR h.2
    exact ⟨p :: ps,rfl,fun q m=>by
      rcases List.mem_cons.mp m with rfl | m
      . exact hp
      . exact hs q m⟩
theorem Dj {h:D} (hh:house h=true) (ok:okH h) (bx:List Bx):lg [.d h] bx=.val (.d .non) bx:=by
  have e:=LK h ok bx
  rw [hh] at e
  have m:jO [some (.d h)] bx=.nx [some (.d h)] bx:=by
    unfold jO
    exact Bj (lN (mJ (fQ (fm rfl rfl) rfl e)))
  show cutO bx.length (retO (jO [some (.d h)] bx))=_
  rw [m]
  simp [retO,cutO]
theorem B7 {h:D} (hh:house h=true) (ok:okH h) (d:D) (bx:List Bx):iJ [.d h,.d d] bx=.val (.d (.bl (outs d))) bx:=by
  have sz:sizeLine=16777216:=sizeLine_eq
  have e0:=Dj hh ok bx
  have e1:=gC d 0 4 bx
  have m:mC [some (.d h),some (.d d)] bx=.rt (.d (.bl (outs d))) bx:=by
    unfold mC
    refine (gi (BZ (fQ (fm rfl rfl) rfl e0))).trans (jR ?_)
    refine (GU (fQ (fm rfl (fm rfl (fm rfl rfl))) rfl e1)).trans ?_
    cases d with
    | tup l =>
      by_cases h4:l.length <= 4
      . have t:tl (.tup l) 0 4=true:=by simp [tl];omega
        rw [t,if_pos rfl]
        have c:compD (fk 0) gZ (fv oa 1 (fc (dV 0) ff)) (l.map W.d) [none] bx []=.val (l.map fun x=>.bl (outB x)) bx:=jp (fun e=>∃ w,e=[w]) (fun x=>.bl (outB x)) ⟨none,rfl⟩ (fun x _ e ⟨w,je⟩=>⟨[some (.d x)],by simp [je],⟨_,rfl⟩,fQ (fm rfl rfl) rfl (Op x bx)⟩) (by omega)
        refine (GU (AN (r:=.old _) [.lst (l.map fun x=>.bl (outB x))] (fm (AO (mQ rfl) rfl c) rfl) (all_map l outB))).trans ?_
        have eo:outs (.tup l)=(l.all outB && apartP (l.filterMap toP)):=by simp [outs,h4]
        rw [eo]
        cases q:l.all outB with
        | false=>rfl
        | true =>
          obtain ⟨ps,rfl,_⟩:=AR q
          rw [if_pos rfl,Bo,Bool.true_and]
          exact fQ (fm rfl rfl) rfl (Oq ps (by rw [List.length_map] at h4;omega) bx)
      . have t:tl (.tup l) 0 4=false:=by simp [tl];omega
        have eo:outs (.tup l)=false:=by simp [outs,h4]
        rw [t,eo];rfl
    | _=>rfl
  show cutO bx.length (retO (mC [some (.d h),some (.d d)] bx))=_
  rw [m]
  simp [retO,cutO]
end K2
set_option Elab.async false
set_option linter.all false
set_option maxRecDepth 100000
set_option maxHeartbeats 1000000
namespace K2
open PySem PySem.Spec PyProof.Rows L2 L2.DL K1
noncomputable def fromO:Int->List D->Bool
  | _,[]=>true
  | b,d :: l=>outB d && (match toP d with | some p=>decide (b < p.1) && fromO p.2 l | none=>false)
theorem Fn:∀ (l:List D) (b:Int),fromO b l=(l.all outB && (match l.filterMap toP with | []=>true | p :: r=>decide (b < p.1) && apartP (p :: r)))
  | [],b=>rfl
  | d :: l,b=>by
    rw [fromO,List.all_cons]
    cases h:outB d with
    | false=>rfl
    | true =>
      obtain ⟨p,rfl,_⟩:=G1 h
      have tp:toP (dP p)=some p:=rfl
      rw [List.filterMap_cons,tp]
      simp only [Bool.true_and]
      rw [Fn l p.2]
      cases hl:l.all outB with
      | false=>simp
      | true =>
        simp only [Bool.true_and]
        cases l.filterMap toP with
        | nil=>simp [apartP]
        | cons q r=>simp [apartP]
theorem Ge (l:List D) (h4:l.length <= 4):fromO (-1) l=outs (.tup l):=by
  rw [Fn]
  have e:outs (.tup l)=(l.all outB && apartP (l.filterMap toP)):=by simp [outs,h4]
  rw [e]
  cases h:l.all outB with
  | false=>rfl
  | true =>
    obtain ⟨ps,rfl,hp⟩:=AR h
    rw [Bo]
    cases ps with
    | nil=>rfl
    | cons p ps =>
      have:=(hp p (List.mem_cons_self ..)).1
      have z:decide (-1 < p.1)=true:=decide_eq_true (by omega)
      simp only [z,Bool.true_and]
noncomputable abbrev oBody (fh:List W->List Bx->O W):DSt:=(fJ (sIf (dOr (dNot (dB (jL "tuple" (dV 2)))) (dOr (dB (d2 false neD (dN false lenD (fc (dV 2) ff)) (dC (.int 2)))) (dOr (dNot (dB (fv fh 1 (fc (d2 false ixD (dV 2) (dC (.int 0))) ff)))) (dNot (dB (fv fh 1 (fc (d2 false ixD (dV 2) (dC (.int 1))) ff))))))) (gc (dC (.bl false))) sNil) (fJ (sIf (dOr (dB (d2 false leD (d2 false ixD (dV 2) (dC (.int 0))) (dV 1))) (dB (d2 false leD (d2 false ixD (dV 2) (dC (.int 1))) (d2 false ixD (dV 2) (dC (.int 0)))))) (gc (dC (.bl false))) sNil) (fY (d2 false ixD (dV 2) (dC (.int 1))) (fk 1))))
theorem L5 {fh:List W->List Bx->O W} (hh:∀ d bx,fh [.d d] bx=.val (.d (.bl (hr d))) bx) (x0:Option W) (b:Int) (d:D) (bx:List Bx) :
    oBody fh [x0,some (.d (.int b)),some (.d d)] bx=match toP d with
      | some p=>if (outB d && decide (b < p.1))=true then .nx [x0,some (.d (.int p.2)),some (.d d)] bx else .rt (.d (.bl false)) bx
      | none=>.rt (.d (.bl false)) bx:=by
  cases d with
  | tup l =>
    by_cases h:l.length=2
    . obtain ⟨a,c,rfl⟩:∃ a b,l=[a,b]:=by
        match l,h with
        | [a,b],_=>exact ⟨a,b,rfl⟩
      cases q1:hr a with
      | false =>
        have tp:outB (.tup [a,c])=false:=by rw [Di,q1];rfl
        cases a <;> cases c <;> simp [oBody,mE,lenD,neD,ixD,atI,ixN,hh,q1,toP,tp]
      | true =>
        obtain ⟨i,rfl,i0⟩:=B6 q1
        cases q2:hr c with
        | false =>
          have tp:outB (.tup [.int i,c])=false:=by rw [Di,q1,q2];rfl
          cases c <;> simp [oBody,mE,lenD,neD,ixD,atI,ixN,hh,q1,q2,toP,tp]
        | true =>
          obtain ⟨j,rfl,j0⟩:=B6 q2
          have tp:outB (.tup [.int i,.int j])=decide (i < j):=by rw [Di,q1,q2];rfl
          simp [oBody,mE,lenD,neD,ixD,atI,ixN,hh,q1,q2,toP,tp,leD]
          by_cases z1:i <= b
          . have z2:¬ b < i:=by omega
            simp [z1,z2]
          . have z2:b < i:=by omega
            by_cases z3:j <= i
            . have z4:¬ i < j:=by omega
              simp [z1,z2,z3,z4]
            . have z4:i < j:=by omega
              simp [z1,z2,z3,z4]
    . have h2':¬ ((l.length:Int)=2):=by omega
      have tp:toP (.tup l)=none:=by
        unfold toP
        split
        . rename_i q;cases q;simp at h
        . rfl
      simp [oBody,mE,lenD,neD,h2',tp]
  | _=>simp [oBody,mE,toP]
theorem Fo {fh:List W->List Bx->O W} (hh:∀ d bx,fh [.d d] bx=.val (.d (.bl (hr d))) bx) (x0:Option W) (bx:List Bx):∀ (l:List D) (b:Int) (w:Option W),
    ∃ y z,forD (fk 2) (oBody fh) (l.map W.d) [x0,some (.d (.int b)),w] bx=if fromO b l=true then .nx [x0,y,z] bx else .rt (.d (.bl false)) bx
  | [],b,w=>⟨_,w,rfl⟩
  | d :: l,b,w=>by
    have st:=L5 hh x0 b d bx
    have g:fk 2 (W.d d) [x0,some (.d (.int b)),w] bx=some ([x0,some (.d (.int b)),some (.d d)],bx):=rfl
    rw [List.map_cons,fromO]
    cases tp:toP d with
    | none =>
      rw [tp] at st
      exact ⟨none,none,by rw [Dg g st];simp⟩
    | some p =>
      rw [tp] at st
      cases h:outB d with
      | false =>
        rw [h] at st
        exact ⟨none,none,by rw [Dg g (by simpa using st)];simp⟩
      | true =>
        by_cases hb:b < p.1
        . obtain ⟨y,z,e⟩:=Fo hh x0 bx l p.2 (some (.d d))
          rw [h] at st
          dsimp only at st
          rw [if_pos (by simpa using hb)] at st
          exact ⟨y,z,by rw [oI g st,e];simp [hb]⟩
        . rw [h] at st
          dsimp only at st
          rw [if_neg (by simpa using hb)] at st
          exact ⟨none,none,by rw [Dg g st];simp [hb]⟩
theorem Fp (d:D) (bx:List Bx):gG [.d d] bx=.val (.d (.bl (outs d))) bx :=
  iK (by
    cases d with
    | tup l =>
      have hh:=Fm
      by_cases h4:l.length <= 4
      . have h4':¬ (4:Int) < (l.length:Int):=by omega
        obtain ⟨y,z,lp⟩:=Fo hh (some (.d (.tup l))) bx l (-1) none
        unfold i6
        generalize gP=fh at hh lp ⊢
        simp [mE,lenD,gtI,h4']
        rw [lp,Ge l h4]
        cases outs (.tup l) <;> rfl
      . have h4':(4:Int) < (l.length:Int):=by omega
        have e:outs (.tup l)=false:=by simp [outs,h4]
        simp [i6,mE,lenD,gtI,h4',e]
    | _=>simp [i6,mE,outs])
end K2
set_option Elab.async false
set_option linter.all false
set_option maxRecDepth 100000
set_option maxHeartbeats 1000000
namespace K2
open PySem PySem.Spec PyProof.Rows L2 L2.DL K1
noncomputable def coldS (c hold hour:Int):List (Int × Int)->Int
  | []=>c
  | p :: ps=>if p.1 <= hour /\ hour < p.2 then max 0 (c - (hour - p.1) / hold) else coldS c hold hour ps
theorem Fq {c hold hour:Int} (h:0 <= c):∀ ps,0 <= coldS c hold hour ps
  | []=>h
  | p :: ps=>by
    unfold coldS
    split
    . exact Int.le_max_left ..
    . exact Fq h ps
theorem Fs {c hold hour:Int} (h:0 <= c) (hh:0 < hold):∀ ps,coldS c hold hour ps <= c
  | []=>Int.le_refl _
  | p :: ps=>by
    unfold coldS
    split
    . rename_i q
      have:0 <= (hour - p.1) / hold:=Int.ediv_nonneg (by omega) (by omega)
      omega
    . exact Fs h hh ps
theorem Nh (x:Int):maxD [.int 0,.int x]=some (.old (.int (max 0 x))):=by
  show some (Res.old (.int (if x > 0 then x else 0)))=_
  congr 3
  split <;> omega
theorem O5 (x:Int):maxD [.int x,.int 0]=some (.old (.int (max 0 x))):=by
  show some (Res.old (.int (if 0 > x then 0 else x)))=_
  congr 3
  split <;> omega
theorem L6 {i j:Int} (h:0 < j) (h2:j < 1073741824):fdivD (.int i) (.int j)=some (.old (.int (i / j))):=if_pos ⟨h,h2⟩
theorem O6 {g g':D->D->Option Res}{ma mb mc:DE W}{env:DEnv}{bx:List Bx}{x y z:D}{r:Res} (h1:ma env bx=.val (.d x) bx) (h2:mb env bx=.val (.d y) bx) (h3:g x y=some (.old (.bl true))) (h4:mc env bx=.val (.d z) bx) (h5:g' y z=some r):d3 g g' ma mb mc env bx=.val (.d r.toD) bx:=by
  simp [h1,h2,h3,h4,h5]
theorem Px {g g':D->D->Option Res}{ma mb mc:DE W}{env:DEnv}{bx:List Bx}{x y:D} (h1:ma env bx=.val (.d x) bx) (h2:mb env bx=.val (.d y) bx) (h3:g x y=some (.old (.bl false))):d3 g g' ma mb mc env bx=.val (.d (.bl false)) bx:=by
  simp [h1,h2,h3]
section
variable {hs : List D} {c hold hour : Int} {x1 x2 : Option W} {bx : List Bx}
noncomputable abbrev cTest:DE Bool:=dB (d3 leD ltD (dV 5) (dV 3) (dV 6))
theorem M0 (p:Int × Int) (x0 x1 x2 x4:Option W):cTest [x0,x1,x2,some (.d (.int hour)),x4,some (.d (.int p.1)),some (.d (.int p.2))] bx=.val (decide (p.1 <= hour /\ hour < p.2)) bx:=by
  by_cases h:p.1 <= hour
  . by_cases h2:hour < p.2
    . rw [decide_eq_true ⟨h,h2⟩]
      exact mJ (O6 (r:=.old (.bl true)) rfl rfl (by simp [leD,h]) rfl (by simp [ltD,h2]))
    . rw [decide_eq_false (fun z=>h2 z.2)]
      exact mJ (O6 (r:=.old (.bl false)) rfl rfl (by simp [leD,h]) rfl (by simp [ltD,h2]))
  . rw [decide_eq_false (fun z=>h z.1)]
    exact mJ (Px rfl rfl (by simp [leD,h]))
theorem cLoop (x0 x1 x2:Option W) (rt:DE W) (hr:∀ p:Int × Int,rt [x0,x1,x2,some (.d (.int hour)),some (.d (.int c)),some (.d (.int p.1)),some (.d (.int p.2))] bx=.val (.d (.int (max 0 (c - (hour - p.1) / hold)))) bx) :
    ∀ (ps:List (Int × Int)) (x5 x6:Option W),(∃ y5 y6,forD (iS 2 (fR (fk 5) (fR (fk 6) i4))) (sIf cTest (gc rt) sNil) ((ps.map dP).map W.d) [x0,x1,x2,some (.d (.int hour)),some (.d (.int c)),x5,x6] bx=.nx [x0,x1,x2,some (.d (.int hour)),some (.d (.int c)),y5,y6] bx /\ coldS c hold hour ps=c) \/
      forD (iS 2 (fR (fk 5) (fR (fk 6) i4))) (sIf cTest (gc rt) sNil) ((ps.map dP).map W.d) [x0,x1,x2,some (.d (.int hour)),some (.d (.int c)),x5,x6] bx=.rt (.d (.int (coldS c hold hour ps))) bx
  | [],x5,x6=>.inl ⟨x5,x6,rfl,rfl⟩
  | p :: ps,x5,x6=>by
    have g:iS 2 (fR (fk 5) (fR (fk 6) i4)) (W.d (dP p)) [x0,x1,x2,some (.d (.int hour)),some (.d (.int c)),x5,x6] bx=some ([x0,x1,x2,some (.d (.int hour)),some (.d (.int c)),some (.d (.int p.1)),some (.d (.int p.2))],bx):=rfl
    have t:=M0 (hour:=hour) (bx:=bx) p x0 x1 x2 (some (.d (.int c)))
    simp only [List.map_cons]
    by_cases h:p.1 <= hour /\ hour < p.2
    . rw [decide_eq_true h] at t
      have e:coldS c hold hour (p :: ps)=max 0 (c - (hour - p.1) / hold):=by rw [coldS,if_pos h]
      exact .inr (by rw [Dg g ((Gb t).trans (jR (hr p))),e])
    . rw [decide_eq_false h] at t
      have e:coldS c hold hour (p :: ps)=coldS c hold hour ps:=by rw [coldS,if_neg h]
      have st:sIf cTest (gc rt) sNil [x0,x1,x2,some (.d (.int hour)),some (.d (.int c)),some (.d (.int p.1)),some (.d (.int p.2))] bx=.nx [x0,x1,x2,some (.d (.int hour)),some (.d (.int c)),some (.d (.int p.1)),some (.d (.int p.2))] bx:=Bj t
      rw [e]
      rcases cLoop x0 x1 x2 rt hr ps (some (.d (.int p.1))) (some (.d (.int p.2))) with ⟨y5,y6,z,q⟩ | z
      . exact .inl ⟨y5,y6,by rw [oI g st];exact z,q⟩
      . exact .inr (by rw [oI g st];exact z)
end
structure HouseI (d:D) (rs:List Int) (hold:Int):Prop where
  e:∃ k p,d=.tup [.tup (rs.map D.int),k,p,.int hold]
  r:∀ c ∈ rs,0 <= c /\ c <= 3
  n:1 <= rs.length /\ rs.length <= 5
  h:1 <= hold /\ hold <= 9
theorem JG {d:D} (h:house d=true):∃ rs hold,HouseI d rs hold:=by
  unfold house at h
  split at h
  . rename_i r k p hd
    simp only [Bool.and_eq_true] at h
    obtain ⟨h1,h2,h3,h4⟩:=h
    cases r with
    | tup l =>
      simp only [rooms,Bool.and_eq_true] at h1
      have n:=o6 h1.1
      obtain ⟨rs,rfl⟩:=Fg h1.2
      obtain ⟨i,rfl,i1,i2⟩:=Az h4
      rw [List.length_map] at n
      refine ⟨rs,i,⟨k,p,rfl⟩,fun c m=>?_,by omega,i1,i2⟩
      have:=List.all_eq_true.mp h1.2 (.int c) (List.mem_map_of_mem m)
      simpa [wi] using this
    | _=>simp [rooms] at h1
  . simp at h
section
variable {d : D} {rs : List Int} {hold hour : Int} {bx : List Bx}
theorem Os (H:HouseI d rs hold) (j:Nat) (hj:j < rs.length) (ps:List (Int × Int)):jt [.d d,.d (.tup (ps.map dP)),.d (.int (j:Int)),.d (.int hour)] bx=.val (.d (.int (coldS rs[j] hold hour ps))) bx:=by
  obtain ⟨⟨k,p,rfl⟩,_,_,h1,h2⟩:=H
  refine iK ?_
  show jQ [some (.d (.tup [.tup (rs.map D.int),k,p,.int hold])),some (.d (.tup (ps.map dP))),some (.d (.int (j:Int))),some (.d (.int hour)),none,none,none] bx=_
  have e0:ixD (.tup [.tup (rs.map D.int),k,p,.int hold]) (.int 0)=some (.old (.tup (rs.map D.int))):=by simp [ixD,atI,ixN]
  have e3:ixD (.tup [.tup (rs.map D.int),k,p,.int hold]) (.int 3)=some (.old (.int hold)):=by simp [ixD,atI,ixN]
  have ej:ixD (.tup (rs.map D.int)) (.int (j:Int))=some (.old (.int rs[j])):=by simp [ixD,atI,ixN,hj]
  unfold jQ
  refine (gi (jV (gH (gH rfl rfl e0) rfl ej))).trans ?_
  have lp:=cLoop (c:=rs[j]) (hold:=hold) (hour:=hour) (bx:=bx) (some (.d (.tup [.tup (rs.map D.int),k,p,.int hold]))) (some (.d (.tup (ps.map dP)))) (some (.d (.int (j:Int)))) (dN false maxD (fc (dC (.int 0)) (fc (d2 false subD (dV 4) (d2 false fdivD (d2 false subD (dV 3) (dV 5)) (d2 false ixD (dV 0) (dC (.int 3))))) ff))) (fun q=>AN (r:=.old _) [.int 0,.int (rs[j] - (hour - q.1) / hold)] (fm rfl (fm (gH (r:=.old _) rfl (gH (r:=.old _) (gH (r:=.old _) rfl rfl rfl) (gH rfl rfl e3) (L6 (by omega) (by omega))) rfl) rfl)) (Nh _)) ps none none
  rcases lp with ⟨y5,y6,z,q⟩ | z
  . rw [q]
    exact (gi ((oN (mQ rfl)).trans z)).trans (jR rfl)
  . exact BY ((oN (mQ rfl)).trans z)
theorem M3 (H:HouseI d rs hold) (j:Nat) (hj:j < rs.length) (ps:List (Int × Int)):mM [.d d,.d (.tup (ps.map dP)),.d (.int (j:Int)),.d (.int hour)] bx=.val (.d (.int (coldS rs[j] hold hour ps))) bx:=by
  obtain ⟨⟨k,p,rfl⟩,_,_,h1,h2⟩:=H
  refine iK ?_
  show oF [some (.d (.tup [.tup (rs.map D.int),k,p,.int hold])),some (.d (.tup (ps.map dP))),some (.d (.int (j:Int))),some (.d (.int hour)),none,none,none] bx=_
  have e0:ixD (.tup [.tup (rs.map D.int),k,p,.int hold]) (.int 0)=some (.old (.tup (rs.map D.int))):=by simp [ixD,atI,ixN]
  have e3:ixD (.tup [.tup (rs.map D.int),k,p,.int hold]) (.int 3)=some (.old (.int hold)):=by simp [ixD,atI,ixN]
  have ej:ixD (.tup (rs.map D.int)) (.int (j:Int))=some (.old (.int rs[j])):=by simp [ixD,atI,ixN,hj]
  unfold oF
  refine (gi (jV (gH (gH rfl rfl e0) rfl ej))).trans ?_
  have lp:=cLoop (c:=rs[j]) (hold:=hold) (hour:=hour) (bx:=bx) (some (.d (.tup [.tup (rs.map D.int),k,p,.int hold]))) (some (.d (.tup (ps.map dP)))) (some (.d (.int (j:Int)))) (dN false maxD (fc (d2 false subD (dV 4) (d2 false fdivD (d2 false subD (dV 3) (dV 5)) (d2 false ixD (dV 0) (dC (.int 3))))) (fc (dC (.int 0)) ff))) (fun q=>AN (r:=.old _) [.int (rs[j] - (hour - q.1) / hold),.int 0] (fm (gH (r:=.old _) rfl (gH (r:=.old _) (gH (r:=.old _) rfl rfl rfl) (gH rfl rfl e3) (L6 (by omega) (by omega))) rfl) (fm rfl rfl)) (O5 _)) ps none none
  rcases lp with ⟨y5,y6,z,q⟩ | z
  . rw [q]
    exact (gi ((oN (mQ rfl)).trans z)).trans (jR rfl)
  . exact BY ((oN (mQ rfl)).trans z)
end
end K2
set_option Elab.async false
set_option linter.all false
set_option maxRecDepth 100000
set_option maxHeartbeats 1000000
namespace L2.DL
section
variable {env env1 : DEnv} {bx bx1 bx2 : List Bx} {m : DE W} {ks : DE (List W)} {l : List W} {c : Nat}
theorem Dk {fn:List W->List Bx->O W}{n:Nat} (h:ks env bx=.val l bx1) (hn:l.length=n) (hf:fn l bx1=.exc c bx2):fv fn n ks env bx=.exc c bx2:=by rw [C3,h,gI,if_pos hn,hf]
theorem L7 (h:m env bx=.exc c bx1):lu m env bx=.exc c bx1:=by rw [GM,h];rfl
theorem O7 (h:m env bx=.exc c bx1):gc m env bx=.exc c bx1:=by rw [C7,h];rfl
theorem L8 {a b:DSt} (h:a env bx=.exc c bx1):fJ a b env bx=.exc c bx1:=by rw [C6,h]
theorem Dl {w:W} (h:m env bx=.val w bx1):sRaise c m env bx=.exc c bx1:=by unfold sRaise;rw [h];rfl
theorem L9 {n:Nat}{m:DSt}{ws:List W}{bx:List Bx} (h:m (ws.map some ++ List.replicate (n - ws.length) none) bx=.exc c bx):fnD n m ws bx=.exc c bx:=by
  simp only [fnD,DL.envOf,h,retO,cutO,List.take_length]
theorem Ni {n:Nat}{m:DSt}{ws:List W}{bx:List Bx}{e:DEnv} (h:m (ws.map some ++ List.replicate (n - ws.length) none) bx=.nx e bx):fnD n m ws bx=.val (.d .non) bx:=by
  simp only [fnD,DL.envOf,h,retO,cutO,List.take_length]
theorem O8 {n:Nat}{m:DSt}{ws:List W}{bx:List Bx}{d:D} (h:m (ws.map some ++ List.replicate (n - ws.length) none) bx=.rt (.d d) bx):fnD n m ws bx=.val (.d d) bx:=by
  simp only [fnD,DL.envOf,h,retO,cutO,List.take_length]
theorem O9 {m:DSt} (h:m env bx=.exc c bx1) (hc:c < 17):sTry m env bx=.rt (.d (.str (wordOf c))) bx1:=by unfold sTry;rw [h];exact if_pos hc
theorem Ot {m:DSt}{w:W} (h:m env bx=.rt w bx1):sTry m env bx=.rt w bx1:=by unfold sTry;rw [h]
theorem Pa {t:DE Bool}{m k:DE W}{w:W} (h:t env bx=.val true bx1) (h2:m env bx1=.val w bx2):dIf t m k env bx=.val w bx2:=by unfold dIf;rw [h,gI];exact h2
theorem Pb {t:DE Bool}{m k:DE W}{w:W} (h:t env bx=.val false bx1) (h2:k env bx1=.val w bx2):dIf t m k env bx=.val w bx2:=by unfold dIf;rw [h,gI];exact h2
end
end L2.DL
namespace K2
open PySem PySem.Spec PyProof.Rows L2 L2.DL K1
section
variable {h : D} {rs : List Int} {hold : Int} {bx : List Bx}
theorem Ft (hh:house h=true) (ok:okH h) (t:D):jP [.d h,.d t] bx=if outs t then .val (.d .non) bx else .exc 1 bx:=by
  have e:=B7 hh ok t bx
  cases q:outs t with
  | true =>
    rw [q] at e
    exact Ni (Bj (lN (mJ (fQ (fm rfl (fm rfl rfl)) rfl e))))
  | false =>
    rw [q] at e
    exact L9 ((Gb (lN (mJ (fQ (fm rfl (fm rfl rfl)) rfl e)))).trans (Dl rfl))
theorem Fu (t:D):lU [.d t] bx=if hr t then .val (.d .non) bx else .exc 3 bx:=by
  have e:=Dh t bx
  cases q:hr t with
  | true =>
    rw [q] at e
    exact Ni (Bj (lN (mJ (fQ (fm rfl rfl) rfl e))))
  | false =>
    rw [q] at e
    exact L9 ((Gb (lN (mJ (fQ (fm rfl rfl) rfl e)))).trans (Dl rfl))
theorem G2 (H:HouseI h rs hold) {f:List W->List Bx->O W} (hf:∀ d lo hi bx,f [.d d,.d (.int lo),.d (.int hi)] bx=.val (.d (.bl (wi d lo hi))) bx) (r:D) {i j:Nat}{env:DEnv} (e1:dV i env bx=.val (.d h) bx) (e2:dV j env bx=.val (.d r) bx) :
    fv f 3 (fc (dV j) (fc (dC (.int 0)) (fc (d2 false subD (dN false lenD (fc (d2 false ixD (dV i) (dC (.int 0))) ff)) (dC (.int 1))) ff))) env bx=.val (.d (.bl (wi r 0 ((rs.length:Int) - 1)))) bx:=by
  obtain ⟨⟨k,p,rfl⟩,_⟩:=H
  have e0:ixD (.tup [.tup (rs.map D.int),k,p,.int hold]) (.int 0)=some (.old (.tup (rs.map D.int))):=by simp [ixD,atI,ixN]
  have el:lenD [.tup (rs.map D.int)]=some (.old (.int rs.length)):=by simp [lenD]
  exact fQ (fm e2 (fm rfl (fm (gH (r:=.old _) (AN [.tup (rs.map D.int)] (fm (gH e1 rfl e0) rfl) el) rfl rfl) rfl))) rfl (hf _ _ _ _)
theorem JH (H:HouseI h rs hold) (r:D):mD [.d h,.d r] bx=.val (.d (.bl (wi r 0 ((rs.length:Int) - 1)))) bx :=
  iK (jR (G2 H lX r rfl rfl))
theorem B8 {i:Nat} (hi:i < 17):canShow (.str (wordOf i))=true:=by
  have:∀ i,i < 17->canShow (.str (wordOf i))=true:=by decide +kernel
  exact this i hi
theorem Ma {i:Int} (h0:0 <= i) (h3:i <= 3):canShow (.int i)=true:=by
  have sz:sizeLine=16777216:=sizeLine_eq
  exact BV (Sm.int (B:=3) (a:=0) (by omega)) (by decide) (by decide) (by omega)
theorem Fv (hh:house h=true) (ok:okH h) (H:HouseI h rs hold) (t r u:D) (bx:List Bx):∃ v,ia [.d h,.d t,.d r,.d u] bx=.val (.d v) bx /\ io [.d h,.d t,.d r,.d u] bx=.val (.d v) bx /\ canShow v=true:=by
  have n1:=Ft (bx:=bx) hh ok t
  have n2:=JH (bx:=bx) H r
  have n3:=Fu (bx:=bx) u
  have l1:=Fp t bx
  have l2:∀ env:DEnv,dV 0 env bx=.val (.d h) bx->dV 2 env bx=.val (.d r) bx->_:=fun env a b=>G2 (bx:=bx) H F8 r a b
  have l3:=Fm u bx
  have fin:∀ v:D,canShow v=true->(Aj [some (.d h),some (.d t),some (.d r),some (.d u)] bx=.rt (.d v) bx \/ ∃ c,c < 17 /\ v=.str (wordOf c) /\ Aj [some (.d h),some (.d t),some (.d r),some (.d u)] bx=.exc c bx)->A2 [some (.d h),some (.d t),some (.d r),some (.d u)] bx=.rt (.d v) bx ->
      ∃ v,ia [.d h,.d t,.d r,.d u] bx=.val (.d v) bx /\ io [.d h,.d t,.d r,.d u] bx=.val (.d v) bx /\ canShow v=true:=fun v sv a b=>by
    refine ⟨v,iK ?_,iK b,sv⟩
    show oE [some (.d h),some (.d t),some (.d r),some (.d u),none] bx=_
    unfold oE
    rcases a with a | ⟨c,hc,rfl,a⟩
    . exact Ot (jR (fQ (fm rfl (fm rfl (fm rfl (fm rfl rfl)))) rfl (O8 a)))
    . exact O9 (O7 (Dk (fm rfl (fm rfl (fm rfl (fm rfl rfl)))) rfl (L9 a))) hc
  cases q1:outs t with
  | false =>
    rw [q1] at n1 l1
    refine fin (.str (wordOf 1)) (B8 (by decide)) (.inr ⟨1,by decide,rfl,?_⟩) ?_
    . exact L8 (L7 (Dk (fm rfl (fm rfl rfl)) rfl n1))
    . exact BY ((Gb (lN (mJ (fQ (fm rfl rfl) rfl l1)))).trans (jR rfl))
  | true =>
    rw [q1,if_pos rfl] at n1
    rw [q1] at l1
    have a1:∀ k,fJ (lu (fv jP 2 (fc (dV 0) (fc (dV 1) ff)))) k [some (.d h),some (.d t),some (.d r),some (.d u)] bx=k [some (.d h),some (.d t),some (.d r),some (.d u)] bx:=fun k=>gi (BZ (fQ (fm rfl (fm rfl rfl)) rfl n1))
    have b1:∀ k a,fJ (sIf (dNot (dB (fv gG 1 (fc (dV 1) ff)))) a sNil) k [some (.d h),some (.d t),some (.d r),some (.d u)] bx=k [some (.d h),some (.d t),some (.d r),some (.d u)] bx:=fun k a=>gi (Bj (lN (mJ (fQ (fm rfl rfl) rfl l1))))
    have l2:=l2 [some (.d h),some (.d t),some (.d r),some (.d u)] rfl rfl
    cases q2:wi r 0 ((rs.length:Int) - 1) with
    | false =>
      rw [q2] at n2 l2
      refine fin (.str (wordOf 2)) (B8 (by decide)) (.inr ⟨2,by decide,rfl,?_⟩) ?_
      . exact (a1 _).trans (L8 ((Gb (lN (mJ (fQ (fm rfl (fm rfl rfl)) rfl n2)))).trans (Dl rfl)))
      . exact (b1 _ _).trans (BY ((Gb (lN (mJ l2))).trans (jR rfl)))
    | true =>
      rw [q2] at n2 l2
      obtain ⟨i,rfl,i1,i2⟩:=Az q2
      obtain ⟨j,rfl⟩:=Int.eq_ofNat_of_zero_le i1
      have hj:j < rs.length:=by omega
      have hn:=H.n
      have a2:∀ k a,fJ (sIf (dNot (dB (fv mD 2 (fc (dV 0) (fc (dV 2) ff))))) a sNil) k [some (.d h),some (.d t),some (.d (.int (j:Int))),some (.d u)] bx=k [some (.d h),some (.d t),some (.d (.int (j:Int))),some (.d u)] bx:=fun k a=>gi (Bj (lN (mJ (fQ (fm rfl (fm rfl rfl)) rfl n2))))
      cases q3:hr u with
      | false =>
        rw [q3] at n3 l3
        refine fin (.str (wordOf 3)) (B8 (by decide)) (.inr ⟨3,by decide,rfl,?_⟩) ?_
        . exact (a1 _).trans ((a2 _ _).trans (L8 (L7 (Dk (fm rfl rfl) rfl n3))))
        . exact (b1 _ _).trans ((gi (Bj (lN (mJ l2)))).trans (jR (Pb (mJ (fQ (fm rfl rfl) rfl l3)) rfl)))
      | true =>
        rw [q3,if_pos rfl] at n3
        rw [q3] at l3
        obtain ⟨x,rfl,x0⟩:=B6 q3
        obtain ⟨l,rfl⟩:∃ l,t=.tup l:=by
          cases t with
          | tup l=>exact ⟨l,rfl⟩
          | _=>simp [outs] at q1
        have q4:l.all outB=true:=by
          simp only [outs,Bool.and_eq_true] at q1
          exact q1.2.1
        obtain ⟨ps,rfl,_⟩:=AR q4
        have c1:=Os (hour:=x) (bx:=bx) H j hj ps
        have c2:=M3 (hour:=x) (bx:=bx) H j hj ps
        have hc:=H.r rs[j] (List.getElem_mem hj)
        refine fin (.int (coldS rs[j] hold x ps)) (Ma (Fq hc.1 ps) (Int.le_trans (Fs hc.1 (by have:=H.h;omega) ps) hc.2)) (.inl ?_) ?_
        . exact (a1 _).trans ((a2 _ _).trans ((gi (BZ (fQ (fm rfl rfl) rfl n3))).trans (jR (fQ (fm rfl (fm rfl (fm rfl (fm rfl rfl)))) rfl c1))))
        . exact (b1 _ _).trans ((gi (Bj (lN (mJ l2)))).trans (jR (Pa (mJ (fQ (fm rfl rfl) rfl l3)) (fQ (fm rfl (fm rfl (fm rfl (fm rfl rfl)))) rfl c2))))
end
end K2
set_option Elab.async false
set_option linter.all false
set_option maxRecDepth 100000
set_option maxHeartbeats 400000
set_option exponentiation.threshold 3000
namespace K1
open PySem PySem.Spec PyProof.Rows L2 L2.DL
section
variable {bx : List Bx} {n : Nat} {p : Int} {x y : Bx} {E : List Bx}
theorem A7 (h:n < bx.length):pt bx n p ++ E=pt (bx ++ E) n p:=by
  unfold pt
  rw [List.set_append_left _ _ h]
theorem oJ (h:n < bx.length):(pt (bx ++ [x]) n p)[bx.length]?=some x:=by
  rw [<-A7 h,<-gD (bx:=bx) (n:=n) (p:=p)]
  exact List.getElem?_concat_length
theorem G3 (h:n < bx.length):(pt (bx ++ [x]) n p).set bx.length y=pt (bx ++ [y]) n p:=by
  rw [<-A7 h,<-A7 h,<-gD (bx:=bx) (n:=n) (p:=p),List.set_append_right _ _ (Nat.le_refl _),Nat.sub_self]
  rfl
theorem Fw (h:n < bx.length):(pt (bx ++ E) n p).take bx.length=pt bx n p:=by
  rw [<-A7 h,<-gD (bx:=bx) (n:=n) (p:=p),List.take_left]
end
theorem AS {bx:List Bx}{n:Nat} (h:n < bx.length) (p k:Int) (hk:0 < k) (hk2:k < 1073741824):∃ r q,fu [.b n,.d (.int k)] (pt bx n p)=.val (.d (.int r)) (pt bx n q) /\ 0 <= r /\ r < k :=
  ⟨_,_,gY h p k hk hk2,i7 p hk,i8 p hk⟩
end K1
namespace K2
open PySem PySem.Spec PyProof.Rows L2 L2.DL K1
theorem G4 {bx:List Bx}{m:Nat}{l:List D} (h:bx[m]?=some (.lst l)):rdW bx (.b m)=some (.lst l):=by simp only [rdW,h]
noncomputable def near (ps:List (Int × Int)):Prop:=ps.length <= 4 /\ ∀ q ∈ ps,0 <= q.1 /\ q.1 <= 1000 /\ 0 <= q.2 /\ q.2 <= 1000
noncomputable abbrev outsBody:DSt:=(fJ (lu (dApp (dV 2) (fF (fc (dV 3) (fc (d2 false fK (d2 false fK (dV 3) (dC (.int 1))) (fv K1.fu 2 (fc (dV 0) (fc (dV 1) ff)))) ff))))) (fY (d2 false fK (d2 false fK (d2 false ixD (d2 false ixD (dV 2) (dNeg (dC (.int 1)))) (dC (.int 1))) (dC (.int 1))) (fv K1.fu 2 (fc (dV 0) (fc (dV 1) ff)))) (fk 3)))
theorem Gf {bx:List Bx}{n:Nat} (h:n < bx.length) (p b:Int) (ps:List (Int × Int)) (hl:ps.length <= 1000) (w:Option W) :
    ∃ e b' q,outsBody [some (.b n),some (.d (.int 30)),some (.b bx.length),some (.d (.int b)),w] (pt (bx ++ [.lst (ps.map dP)]) n p)=.nx [some (.b n),some (.d (.int 30)),some (.b bx.length),some (.d (.int b')),w] (pt (bx ++ [.lst ((ps ++ [(b,e)]).map dP)]) n q) /\ b < e /\ e <= b + 30 /\ e < b' /\ b' <= e + 30:=by
  have sz:sizeLine=16777216:=sizeLine_eq
  have h1:n < (bx ++ [Bx.lst (ps.map dP)]).length:=by simp;omega
  have t1:=gY h1 p 30 (by decide) (by decide)
  have m0:=i7 p (k:=30) (by decide)
  have m1:=i8 p (k:=30) (by decide)
  have b1:=oJ (p:=p) (x:=.lst (ps.map dP)) h
  have b2:=oJ (p:=p / 30) (x:=.lst (ps.map dP)) h
  have tv:fF (fc (dV 3) (fc (d2 false fK (d2 false fK (dV 3) (dC (.int 1))) (fv K1.fu 2 (fc (dV 0) (fc (dV 1) ff)))) ff)) [some (.b n),some (.d (.int 30)),some (.b bx.length),some (.d (.int b)),w] (pt (bx ++ [.lst (ps.map dP)]) n p)=.val (.d (.tup [.int b,.int (b + 1 + p % 30)])) (pt (bx ++ [.lst (ps.map dP)]) n (p / 30)):=by
    generalize pt (bx ++ [.lst (ps.map dP)]) n p=B at t1 ⊢
    generalize pt (bx ++ [.lst (ps.map dP)]) n (p / 30)=B' at t1 ⊢
    generalize p % 30=r at t1 ⊢
    exact oH [.int b,.int (b + 1 + r)] (fm rfl (fm (gH (r:=.old _) (gH (r:=.old _) rfl rfl rfl) (fQ (fm rfl (fm rfl rfl)) rfl t1) rfl) rfl)) (show (2:Nat) <= sizeLine by omega)
  have ap:=Ng (m:=dV 2) (env:=[some (.b n),some (.d (.int 30)),some (.b bx.length),some (.d (.int b)),w]) rfl b1 tv b2 (by rw [List.length_map];omega)
  rw [G3 h] at ap
  have el:ps.map dP ++ [D.tup [.int b,.int (b + 1 + p % 30)]]=(ps ++ [(b,b + 1 + p % 30)]).map dP:=by simp
  rw [el] at ap
  have h2:n < (bx ++ [Bx.lst ((ps ++ [(b,b + 1 + p % 30)]).map dP)]).length:=by simp;omega
  have t2:=gY h2 (p / 30) 30 (by decide) (by decide)
  have k0:=i7 (p / 30) (k:=30) (by decide)
  have k1:=i8 (p / 30) (k:=30) (by decide)
  have b3:=oJ (p:=p / 30) (x:=.lst ((ps ++ [(b,b + 1 + p % 30)]).map dP)) h
  have la:atI ((ps ++ [(b,b + 1 + p % 30)]).map dP) (-1)=some (dP (b,b + 1 + p % 30)):=by
    unfold atI ixN
    simp
    rw [if_pos (by omega)]
    simp
    have:(-1 + ((ps.length:Int) + 1)).toNat=ps.length:=by omega
    rw [this,<-List.length_map (f:=dP) (as:=ps)]
    simp
  have ix:d2 false ixD (dV 2) (dNeg (dC (.int 1))) [some (.b n),some (.d (.int 30)),some (.b bx.length),some (.d (.int b)),w] (pt (bx ++ [.lst ((ps ++ [(b,b + 1 + p % 30)]).map dP)]) n (p / 30))=.val (.d (dP (b,b + 1 + p % 30))) (pt (bx ++ [.lst ((ps ++ [(b,b + 1 + p % 30)]).map dP)]) n (p / 30)):=by
    have r1:=G4 b3
    rw [Jx,show dV 2 [some (.b n),some (.d (.int 30)),some (.b bx.length),some (.d (.int b)),w] (pt (bx ++ [.lst ((ps ++ [(b,b + 1 + p % 30)]).map dP)]) n (p / 30))=.val (.b bx.length) (pt (bx ++ [.lst ((ps ++ [(b,b + 1 + p % 30)]).map dP)]) n (p / 30)) from rfl,gI,Ga rfl,gI,r1,An,Option.bind_some,Option.bind_some]
    show resO false (Option.map Res.old (atI _ (-1))) _=_
    rw [la]
    rfl
  refine ⟨b + 1 + p % 30,b + 1 + p % 30 + 1 + p / 30 % 30,p / 30 / 30,?_,by omega,by omega,by omega,by omega⟩
  unfold outsBody
  refine (gi (BZ ap)).trans ?_
  generalize pt (bx ++ [.lst ((ps ++ [(b,b + 1 + p % 30)]).map dP)]) n (p / 30)=B at t2 ix ⊢
  generalize pt (bx ++ [.lst ((ps ++ [(b,b + 1 + p % 30)]).map dP)]) n (p / 30 / 30)=B' at t2 ⊢
  generalize p / 30 % 30=r at t2 ⊢
  generalize b + 1 + p % 30=u at ix ⊢
  exact jV (gH (r:=.old _) (gH (r:=.old _) (gH (r:=.old _) ix rfl rfl) rfl rfl) (fQ (fm rfl (fm rfl rfl)) rfl t2) rfl)
theorem M4 {bx:List Bx}{n:Nat} (h:n < bx.length) (p:Int):∃ ps q,iI [.b n,.d (.int 30)] (pt bx n p)=.val (.d (.tup (ps.map dP))) (pt bx n q) /\ near ps:=by
  have sz:sizeLine=16777216:=sizeLine_eq
  have h0:n < (bx ++ [Bx.lst []]).length:=by simp;omega
  obtain ⟨r0,p1,t0,m0,m1⟩:=AS h0 p 30 (by decide) (by decide)
  obtain ⟨r4,p2,t4,k0,k1⟩:=AS h0 p1 4 (by decide) (by decide)
  obtain ⟨y,ey,my⟩:=mP (l:=[D.int 0,.int 1,.int 2,.int 4]) k0 (by show _ < (4:Int);exact k1)
  obtain ⟨c,rfl,hc⟩:∃ c:Nat,y=.int (c:Int) /\ c <= 4:=by
    simp at my
    rcases my with rfl | rfl | rfl | rfl
    . exact ⟨0,rfl,by decide⟩
    . exact ⟨1,rfl,by decide⟩
    . exact ⟨2,rfl,by decide⟩
    . exact ⟨4,rfl,by decide⟩
  have e1:sPar 2 3 (fc (gx true ff) (fc (fv K1.fu 2 (fc (dV 0) (fc (dV 1) ff))) ff)) [some (.b n),some (.d (.int 30)),none,none,none] (pt bx n p)=.nx [some (.b n),some (.d (.int 30)),some (.b bx.length),some (.d (.int (r0))),none] (pt (bx ++ [.lst []]) n (p1)):=by
    have a:fc (gx true ff) (fc (fv K1.fu 2 (fc (dV 0) (fc (dV 1) ff))) ff) [some (.b n),some (.d (.int 30)),none,none,none] (pt bx n p)=.val [.b (pt bx n p).length,.d (.int (r0))] (pt (bx ++ [.lst []]) n (p1)):=by
      have a1:gx true ff [some (.b n),some (.d (.int 30)),none,none,none] (pt bx n p)=.val (.b (pt bx n p).length) (pt (bx ++ [.lst []]) n p):=by
        rw [<-A7 h]
        exact Df [] rfl (Nat.zero_le _)
      have a2:fv K1.fu 2 (fc (dV 0) (fc (dV 1) ff)) [some (.b n),some (.d (.int 30)),none,none,none] (pt (bx ++ [.lst []]) n p)=.val (.d (.int r0)) (pt (bx ++ [.lst []]) n p1):=fQ (fm rfl (fm rfl rfl)) rfl t0
      exact fm a1 (fm a2 rfl)
    rw [gD] at a
    unfold sPar
    rw [a,Ay]
    rfl
  have rg:dRng1 (fc (d2 false ixD (gx false (fc (dC (.int 0)) (fc (dC (.int 1)) (fc (dC (.int 2)) (fc (dC (.int 4)) ff))))) (fv K1.fu 2 (fc (dV 0) (fc (dC (.int 4)) ff)))) ff) [some (.b n),some (.d (.int 30)),some (.b bx.length),some (.d (.int (r0))),none] (pt (bx ++ [.lst []]) n (p1))=.val (gm 0 c) (pt (bx ++ [.lst []]) n (p2)):=by
    generalize pt (bx ++ [.lst []]) n (p1)=B at t4 ⊢
    generalize pt (bx ++ [.lst []]) n (p2)=B' at t4 ⊢
    have a:=fm (ks:=ff) (gH (g:=ixD) (r:=.old (.int (c:Int))) (m:=gx false (fc (dC (.int 0)) (fc (dC (.int 1)) (fc (dC (.int 2)) (fc (dC (.int 4)) ff))))) (k:=fv K1.fu 2 (fc (dV 0) (fc (dC (.int 4)) ff))) (env:=[some (.b n),some (.d (.int 30)),some (.b bx.length),some (.d (.int (r0))),none]) (o8 [.int 0,.int 1,.int 2,.int 4] rfl (show (4:Nat) <= sizeLine by omega)) (fQ (fm rfl (fm rfl rfl)) rfl t4) (by simp only [ixD,ey,Option.map_some])) rfl
    rw [A5 a (by omega),Int.toNat_natCast]
  obtain ⟨env',bx',e2,ps,b,w,q,rfl,rfl,hp⟩:=Bu (g:=fk 4) (body:=outsBody) (fun i env bb=>∃ ps b w q,env=[some (.b n),some (.d (.int 30)),some (.b bx.length),some (.d (.int b)),w] /\ bb=pt (bx ++ [.lst (ps.map dP)]) n q /\ ps.length=i /\ 0 <= b /\ b <= 30 + 60 * (i:Int) /\ ∀ x ∈ ps,0 <= x.1 /\ x.1 <= 1000 /\ 0 <= x.2 /\ x.2 <= 1000) (gm 0 c) 0 [some (.b n),some (.d (.int 30)),some (.b bx.length),some (.d (.int (r0))),none] (pt (bx ++ [.lst (([]:List (Int × Int)).map dP)]) n (p2)) ⟨[],_,_,_,rfl,rfl,rfl,m0,by omega,fun x m=>by cases m⟩ (by
      rintro i w env bb hw ⟨ps,b,w',q,rfl,rfl,hl,hb0,hb1,hps⟩
      have hi:i < c:=by
        have:=(List.getElem?_eq_some_iff.mp hw).1
        simpa [gm] using this
      obtain ⟨e,b',q',ee,o1,o2,o3,o4⟩:=Gf h q b ps (by omega) (some w)
      refine ⟨_,_,_,_,rfl,ee,ps ++ [(b,e)],b',_,q',rfl,rfl,by simp [hl],by omega,by omega,fun x m=>?_⟩
      rcases List.mem_append.mp m with m | m
      . exact hps x m
      . rw [List.mem_singleton.mp m]
        exact ⟨by show 0 <= b;omega,by show b <= 1000;omega,by show 0 <= e;omega,by show e <= 1000;omega⟩)
  obtain ⟨hl,_,_,hps⟩:=hp
  refine ⟨ps,q,?_,by simp [gm] at hl;omega,hps⟩
  have bg:=oJ (p:=q) (x:=.lst (ps.map dP)) h
  have M:oD [some (.b n),some (.d (.int 30)),none,none,none] (pt bx n p)=.rt (.d (.tup (ps.map dP))) (pt (bx ++ [.lst (ps.map dP)]) n q):=by
    unfold oD
    refine (gi e1).trans ?_
    refine (gi ((oN rg).trans e2)).trans (jR ?_)
    rw [Jy,fm (w:=.b bx.length) (l:=[]) rfl rfl,gI]
    have:rdWs (pt (bx ++ [.lst (ps.map dP)]) n q) [.b bx.length]=some [.lst (ps.map dP)]:=by simp only [rdWs,G4 bg,Option.bind_some,Option.map_some]
    rw [this]
    rfl
  refine (Gd M).trans ?_
  rw [gD,Fw h]
end K2
set_option Elab.async false
set_option linter.all false
set_option maxRecDepth 100000
set_option maxHeartbeats 400000
set_option exponentiation.threshold 3000
namespace K2
open PySem PySem.Spec PyProof.Rows L2 L2.DL K1
noncomputable def far (ps:List (Int × Int)):Prop:=ps.length <= 4 /\ ∀ q ∈ ps,q.1.natAbs <= 10 ^ 40 /\ q.2.natAbs <= 10 ^ 40
theorem Ou {bx:List Bx}{n:Nat} (h:n < bx.length) (p:Int) {ps:List (Int × Int)} (hp:near ps):∃ ps' by' q,jz [.b n,.d (.tup (ps.map dP)),.d (.lst [])] (pt bx n p)=.val (.d (.tup [.tup (ps'.map dP),.lst [],.int by'])) (pt bx n q) /\ far ps':=by
  have sz:sizeLine=16777216:=sizeLine_eq
  obtain ⟨r4,q,t4,k0,k1⟩:=AS h p 4 (by decide) (by decide)
  obtain ⟨y,ey,my⟩:=mP (l:=[D.int 0,.int 0,.int (10 ^ 6),.int (10 ^ 39)]) k0 (by show _ < (4:Int);exact k1)
  obtain ⟨c,rfl,c0,c1⟩:∃ c:Int,y=.int c /\ 0 <= c /\ c <= 10 ^ 39:=by
    simp only [List.mem_cons,List.not_mem_nil,or_false] at my
    rcases my with rfl | rfl | rfl | rfl
    . exact ⟨_,rfl,by decide,by decide⟩
    . exact ⟨_,rfl,by decide,by decide⟩
    . exact ⟨_,rfl,by decide,by decide⟩
    . exact ⟨_,rfl,by decide,by decide⟩
  have p6:∀ e b,d2 false powD (dC (.int 10)) (dC (.int 6)) e b=.val (.d (.int (10 ^ 6))) b:=fun e b=>gH (r:=.old _) rfl rfl (GZ (by decide))
  have p39:∀ e b,d2 false powD (dC (.int 10)) (dC (.int 39)) e b=.val (.d (.int (10 ^ 39))) b:=fun e b=>gH (r:=.old _) rfl rfl (GZ (by decide))
  have e1:fY (d2 false ixD (gx false (fc (dC (.int 0)) (fc (dC (.int 0)) (fc (d2 false powD (dC (.int 10)) (dC (.int 6))) (fc (d2 false powD (dC (.int 10)) (dC (.int 39))) ff))))) (fv K1.fu 2 (fc (dV 0) (fc (dC (.int 4)) ff)))) (fk 3) [some (.b n),some (.d (.tup (ps.map dP))),some (.d (.lst [])),none,none] (pt bx n p)=.nx [some (.b n),some (.d (.tup (ps.map dP))),some (.d (.lst [])),some (.d (.int c)),none] (pt bx n q):=by
    generalize pt bx n p=B at t4 ⊢
    generalize pt bx n q=B' at t4 ⊢
    have a1:gx false (fc (dC (.int 0)) (fc (dC (.int 0)) (fc (d2 false powD (dC (.int 10)) (dC (.int 6))) (fc (d2 false powD (dC (.int 10)) (dC (.int 39))) ff)))) [some (.b n),some (.d (.tup (ps.map dP))),some (.d (.lst [])),none,none] B=.val (.d (.lst [.int 0,.int 0,.int (10 ^ 6),.int (10 ^ 39)])) B:=o8 [.int 0,.int 0,.int (10 ^ 6),.int (10 ^ 39)] (fm rfl (fm rfl (fm (p6 _ _) (fm (p39 _ _) rfl)))) (show (4:Nat) <= sizeLine by omega)
    have a2:fv K1.fu 2 (fc (dV 0) (fc (dC (.int 4)) ff)) [some (.b n),some (.d (.tup (ps.map dP))),some (.d (.lst [])),none,none] B=.val (.d (.int r4)) B':=fQ (fm rfl (fm rfl rfl)) rfl t4
    exact jV (gH (r:=.old (.int c)) a1 a2 (by simp only [ixD,ey,Option.map_some]))
  have cm:=jp (g:=iS 2 (fR (fk 0) (fR (fk 1) i4))) (te:=fF (fc (d2 false fK (dV 0) (dV 2)) (fc (d2 false fK (dV 1) (dV 2)) ff))) (bx:=pt bx n q) (env:=[none,none,some (.d (.int c))]) (l:=ps.map dP) (fun e=>∃ a b,e=[a,b,some (.d (.int c))]) (fun d=>match d with | .tup [.int i,.int j]=>.tup [.int (i + c),.int (j + c)] | _=>.non) ⟨none,none,rfl⟩ (by
    intro d m e ⟨a,b,je⟩
    obtain ⟨x,_,rfl⟩:=List.mem_map.mp m
    refine ⟨[some (.d (.int x.1)),some (.d (.int x.2)),some (.d (.int c))],by simp [je],⟨_,_,rfl⟩,?_⟩
    exact oH [.int (x.1 + c),.int (x.2 + c)] (fm (gH (r:=.old _) rfl rfl rfl) (fm (gH (r:=.old _) rfl rfl rfl) rfl)) (show (2:Nat) <= sizeLine by omega)) (by rw [List.length_map];have:=hp.1;omega)
  have em:(ps.map dP).map (fun d=>match d with | .tup [.int i,.int j]=>D.tup [.int (i + c),.int (j + c)] | _=>.non)=(ps.map fun x=>(x.1 + c,x.2 + c)).map dP:=by
    rw [List.map_map,List.map_map]
    rfl
  rw [em] at cm
  refine ⟨ps.map fun x=>(x.1 + c,x.2 + c),c,q,?_,by rw [List.length_map];exact hp.1,fun x m=>?_⟩
  . generalize ps.map (fun x=>(x.1 + c,x.2 + c))=ps' at cm
    have M:Ai [some (.b n),some (.d (.tup (ps.map dP))),some (.d (.lst [])),none,none] (pt bx n p)=.rt (.d (.tup [.tup (ps'.map dP),.lst [],.int c])) (pt bx n q):=by
      unfold Ai
      refine (gi e1).trans ?_
      refine (gi (jV (AN (r:=.tup (ps'.map dP)) [.lst (ps'.map dP)] (fm (AO (mQ rfl) rfl cm) rfl) rfl))).trans ?_
      exact jR (oH [.tup (ps'.map dP),.lst [],.int c] (fm rfl (fm (AO (Bt rfl) rfl rfl) (fm rfl rfl))) (show (3:Nat) <= sizeLine by omega))
    exact oM M (by rw [gD,gD];exact Nat.le_refl _)
  . obtain ⟨y,my,rfl⟩:=List.mem_map.mp m
    have:=hp.2 y my
    exact ⟨by show (y.1 + c).natAbs <= _;omega,by show (y.2 + c).natAbs <= _;omega⟩
theorem Fx {a b:List D} (h:a.length + b.length <= sizeLine):fK (.lst a) (.lst b)=some (.lst (a ++ b)):=if_pos h
noncomputable def Fine (x:D):Prop:=∃ B a b,Sm B a b x /\ B <= 10 ^ 45 /\ a <= 60 /\ b <= 10000000
theorem Fine.show {x:D} (h:Fine x):canShow x=true:=by
  obtain ⟨B,a,b,s,h1,h2,h3⟩:=h
  have sz:sizeLine=16777216:=sizeLine_eq
  exact BV s (Nat.lt_of_le_of_lt h1 (by decide)) h2 (by omega)
theorem lh {B a b:Nat}{d:D} (s:Sm B a b d) (h1:B <= 10 ^ 45) (h2:a <= 60) (h3:b <= 10000000):Fine d:=⟨B,a,b,s,h1,h2,h3⟩
theorem Pc {ps:List (Int × Int)} (h:far ps):SmL (10 ^ 41) 1 15404 (ps.map dP):=by
  have z:=SmL.of (B:=10 ^ 41) (a:=1) (b:=3849) (l:=ps.map dP) fun x m=>by
    obtain ⟨p,mp,rfl⟩:=List.mem_map.mp m
    have:=h.2 p mp
    exact Sm.tup (SmL.cons (Sm.int (by omega)) (SmL.cons (Sm.int (by omega)) SmL.nil))
  rw [List.length_map] at z
  exact z.mono (Nat.le_refl _) (by have:=h.1;omega)
noncomputable def sixT:List D:=[.tup [.tup [.int 3,.int 5],.tup [.int 5,.int 6]],.tup [.tup [.int 3,.int 5],.tup [.int 6,.int 7]],.tup [.tup [.int 3,.int 5],.tup [.int 4,.int 7]],.tup [.tup [.int 6,.int 7],.tup [.int 3,.int 5]],.tup [.tup [.int 3,.int 3]],.tup [.tup [.int 4,.int 3]]]
noncomputable def longT:List D:=[.tup [.int 0,.int 1],.tup [.int 3,.int 4],.tup [.int 6,.int 7],.tup [.int 9,.int 10],.tup [.int 12,.int 13]]
noncomputable def eightT:List D:=[.tup longT,.tup (longT.take 4),.tup [.tup [.int 0,.int 1]],.tup [.tup [.int (-1),.int 1]],.tup [.tup [.bl true,.int 3]],.tup [.tup [.int 0,.int (10 ^ 40 - 1)]],.tup [.tup [.int 0,.int 1,.int 2]],.tup [.lst [.int 0,.int 1]]]
theorem M5:SmL (10 ^ 41) 2 100000 sixT:=GX (by decide +kernel)
theorem JI:SmL (10 ^ 41) 2 100000 eightT:=GX (by decide +kernel)
theorem Pd {env:DEnv}{bx:List Bx}:(gx false (fc (fF (fc (fF (fc (dC (.int 3)) (fc (dC (.int 5)) ff))) (fc (fF (fc (dC (.int 5)) (fc (dC (.int 6)) ff))) ff))) (fc (fF (fc (fF (fc (dC (.int 3)) (fc (dC (.int 5)) ff))) (fc (fF (fc (dC (.int 6)) (fc (dC (.int 7)) ff))) ff))) (fc (fF (fc (fF (fc (dC (.int 3)) (fc (dC (.int 5)) ff))) (fc (fF (fc (dC (.int 4)) (fc (dC (.int 7)) ff))) ff))) (fc (fF (fc (fF (fc (dC (.int 6)) (fc (dC (.int 7)) ff))) (fc (fF (fc (dC (.int 3)) (fc (dC (.int 5)) ff))) ff))) (fc (fF (fc (fF (fc (dC (.int 3)) (fc (dC (.int 3)) ff))) ff)) (fc (fF (fc (fF (fc (dC (.int 4)) (fc (dC (.int 3)) ff))) ff)) ff))))))) env bx=.val (.d (.lst sixT)) bx:=by
  have sz:sizeLine=16777216:=sizeLine_eq
  have z1:(1:Nat) <= sizeLine:=by omega
  have z2:(2:Nat) <= sizeLine:=by omega
  have z6:(6:Nat) <= sizeLine:=by omega
  simp [z1,z2,z6,sixT]
theorem M6 {x0 x1 x2:Option W}{bx:List Bx}:(gx false (fc (dV 3) (fc (dSl false (dV 3) dNo (dPart (dC (.int 4)))) (fc (fF (fc (fF (fc (dC (.int 0)) (fc (dC (.int 1)) ff))) ff)) (fc (fF (fc (fF (fc (dNeg (dC (.int 1))) (fc (dC (.int 1)) ff))) ff)) (fc (fF (fc (fF (fc (dC (.bl true)) (fc (dC (.int 3)) ff))) ff)) (fc (fF (fc (fF (fc (dC (.int 0)) (fc (d2 false subD (d2 false powD (dC (.int 10)) (dC (.int 40))) (dC (.int 1))) ff))) ff)) (fc (fF (fc (fF (fc (dC (.int 0)) (fc (dC (.int 1)) (fc (dC (.int 2)) ff)))) ff)) (fc (fF (fc (gx false (fc (dC (.int 0)) (fc (dC (.int 1)) ff))) ff)) ff))))))))) [x0,x1,x2,some (.d (.tup longT))] bx=.val (.d (.lst eightT)) bx:=by
  have sz:sizeLine=16777216:=sizeLine_eq
  have z1:(1:Nat) <= sizeLine:=by omega
  have z2:(2:Nat) <= sizeLine:=by omega
  have z3:(3:Nat) <= sizeLine:=by omega
  have z8:(8:Nat) <= sizeLine:=by omega
  have c:CPow 10 40:=by decide
  have sl:slD (.tup longT) none (some 4)=some (.tup (longT.take 4)):=rfl
  simp [z1,z2,z3,z8,eightT,powD,c,subD,sl]
theorem Ov {env:DEnv}{bx:List Bx}:dN false tupleD (fc (gT false [none] (dRng1 (fc (dC (.int 5)) ff)) (fk 0) gZ (fF (fc (d2 false mulD (dC (.int 3)) (dV 0)) (fc (d2 false fK (d2 false mulD (dC (.int 3)) (dV 0)) (dC (.int 1))) ff)))) ff) env bx=.val (.d (.tup longT)) bx:=by
  have sz:sizeLine=16777216:=sizeLine_eq
  have rg:dRng1 (fc (dC (.int 5)) ff) env bx=.val (gm 0 5) bx:=AQ (k:=5) rfl (by decide)
  have cm:=jp (g:=fk 0) (te:=fF (fc (d2 false mulD (dC (.int 3)) (dV 0)) (fc (d2 false fK (d2 false mulD (dC (.int 3)) (dV 0)) (dC (.int 1))) ff))) (bx:=bx) (env:=[none]) (l:=(List.range 5).map fun (i:Nat)=>D.int (0 + (i:Int))) (fun e=>∃ a,e=[a]) (fun d=>match d with | .int i=>.tup [.int (3 * i),.int (3 * i + 1)] | _=>.non) ⟨none,rfl⟩ (by
    intro d m e ⟨a,je⟩
    obtain ⟨i,_,rfl⟩:=List.mem_map.mp m
    refine ⟨[some (.d (.int (0 + (i:Int))))],by simp [je],⟨_,rfl⟩,?_⟩
    generalize (0:Int) + (i:Int)=u
    have m3:mulD (.int 3) (.int u)=some (.old (.int (3 * u))):=GY (by decide) (by decide)
    exact oH [.int (3 * u),.int (3 * u + 1)] (fm (gH rfl rfl m3) (fm (gH (r:=.old _) (gH rfl rfl m3) rfl rfl) rfl)) (show (2:Nat) <= sizeLine by omega)) (by rw [List.length_map,List.length_range];omega)
  rw [<-GQ] at cm
  refine AN (r:=.tup longT) [.lst longT] (fm (AO rg rfl cm) rfl) rfl
theorem JJ {bx:List Bx}{n:Nat} (h:n < bx.length) (p:Int) {ps:List (Int × Int)} (hp:far ps):∃ ts q,iW [.b n,.d (.tup (ps.map dP))] (pt bx n p)=.val (.d (.lst ts)) (pt bx n q) /\ ∀ x ∈ ts,Fine x:=by
  have sz:sizeLine=16777216:=sizeLine_eq
  have sp:=Pc hp
  have st:Sm (10 ^ 41) 2 15407 (.tup (ps.map dP)):=Sm.tup sp
  have lp:(ps.map dP).length <= 4:=by rw [List.length_map];exact hp.1
  generalize ps.map dP=l at sp st lp
  obtain ⟨o,p1,eo,mo⟩:=Dd h p
  obtain ⟨b1,p2,e1,s1⟩:=Bq h 12 (.tup l) p1 (10 ^ 41) 2 15407 (by decide) st (by decide) (by decide)
  let l0:List D:=[.tup l,.lst l,o,b1,.tup (l ++ [.tup [.int 1,.int 2]])]
  have h1:n < (bx ++ [Bx.lst l0]).length:=by simp;omega
  obtain ⟨b2,p3,e2,s2⟩:=Bq h1 12 (.tup l) p2 (10 ^ 41) 2 15407 (by decide) st (by decide) (by decide)
  obtain ⟨b3,p4,e3,s3⟩:=Bq h1 12 b2 p3 _ _ _ (by decide) s2 (by decide) (by decide)
  have a0:fK (.tup l) (.tup [.tup [.int 1,.int 2]])=some (.tup (l ++ [.tup [.int 1,.int 2]])):=if_pos (by simp only [List.length_cons,List.length_nil];omega)
  have x1:fY (gx true (fc (dV 1) (fc (dN false listD (fc (dV 1) ff)) (fc (fv K1.gf 1 (fc (dV 0) ff)) (fc (fv (K1.gh 12) 2 (fc (dV 0) (fc (dV 1) ff))) (fc (d2 false fK (dV 1) (fF (fc (fF (fc (dC (.int 1)) (fc (dC (.int 2)) ff))) ff))) ff)))))) (fk 2) [some (.b n),some (.d (.tup l)),none,none] (pt bx n p)=.nx [some (.b n),some (.d (.tup l)),some (.b bx.length),none] (pt (bx ++ [.lst l0]) n p2):=by
    rw [<-A7 h,<-gD (bx:=bx) (n:=n) (p:=p2)]
    generalize pt bx n p=B0 at eo ⊢
    generalize pt bx n p1=B1 at eo e1
    generalize pt bx n p2=B2 at e1 ⊢
    have q1:fv K1.gf 1 (fc (dV 0) ff) [some (.b n),some (.d (.tup l)),none,none] B0=.val (.d o) B1:=fQ (fm rfl rfl) rfl eo
    have q2:fv (K1.gh 12) 2 (fc (dV 0) (fc (dV 1) ff)) [some (.b n),some (.d (.tup l)),none,none] B1=.val (.d b1) B2:=fQ (fm rfl (fm rfl rfl)) rfl e1
    have q3:d2 false fK (dV 1) (fF (fc (fF (fc (dC (.int 1)) (fc (dC (.int 2)) ff))) ff)) [some (.b n),some (.d (.tup l)),none,none] B2=.val (.d (.tup (l ++ [.tup [.int 1,.int 2]]))) B2:=gH (r:=.tup _) rfl (oH [.tup [.int 1,.int 2]] (fm (oH [.int 1,.int 2] rfl (show (2:Nat) <= sizeLine by omega)) rfl) (show (1:Nat) <= sizeLine by omega)) a0
    have q0:dN false listD (fc (dV 1) ff) [some (.b n),some (.d (.tup l)),none,none] B0=.val (.d (.lst l)) B0:=AN (r:=.lst l) [.tup l] (fm rfl rfl) rfl
    exact jV (Df l0 (fm rfl (fm q0 (fm q1 (fm q2 (fm q3 rfl))))) (show (5:Nat) <= sizeLine by omega))
  have g1:=oJ (p:=p2) (x:=.lst l0) h
  have g2:=oJ (p:=p4) (x:=.lst l0) h
  have bb:fv (K1.gh 12) 2 (fc (dV 0) (fc (fv (K1.gh 12) 2 (fc (dV 0) (fc (dV 1) ff))) ff)) [some (.b n),some (.d (.tup l)),some (.b bx.length),none] (pt (bx ++ [.lst l0]) n p2)=.val (.d b3) (pt (bx ++ [.lst l0]) n p4):=by
    generalize pt (bx ++ [.lst l0]) n p2=B2 at e2 ⊢
    generalize pt (bx ++ [.lst l0]) n p3=B3 at e2 e3
    generalize pt (bx ++ [.lst l0]) n p4=B4 at e3 ⊢
    have q2:fv (K1.gh 12) 2 (fc (dV 0) (fc (dV 1) ff)) [some (.b n),some (.d (.tup l)),some (.b bx.length),none] B2=.val (.d b2) B3:=fQ (fm rfl (fm rfl rfl)) rfl e2
    exact fQ (fm rfl (fm q2 rfl)) rfl e3
  have ap:=Ng (m:=dV 2) (env:=[some (.b n),some (.d (.tup l)),some (.b bx.length),none]) rfl g1 bb g2 (show (5:Nat) < sizeLine by omega)
  rw [G3 h] at ap
  have g3:=oJ (p:=p4) (x:=.lst (l0 ++ [b3])) h
  have hb3:∀ env:DEnv,env[2]?=some (some (.b bx.length))->∀ B:List Bx,B[bx.length]?=some (.lst (l0 ++ [b3]))->∀ C:DE W,C env B=.val (.d (.lst sixT)) B->fY (d2 true fK (dV 2) C) (fk 2) env B=.nx (env.set 2 (some (.b B.length))) (B ++ [.lst (l0 ++ [b3] ++ sixT)]):=fun env h2 B hb C hc=>by
    have e1:dV 2 env B=.val (.b bx.length) B:=by rw [OV,h2]
    have e2:fK (.lst (l0 ++ [b3])) (.lst sixT)=some (.lst (l0 ++ [b3] ++ sixT)):=Fx (show (12:Nat) <= sizeLine by omega)
    rw [A3,Jx,e1,gI,hc,gI,G4 hb,An,Option.bind_some,Option.bind_some,e2,Oc,Ay,oZ]
  have x3:=hb3 [some (.b n),some (.d (.tup l)),some (.b bx.length),none] rfl _ g3 _ Pd
  generalize eB:pt (bx ++ [.lst (l0 ++ [b3])]) n p4=B at x3 ap
  let L:List D:=l0 ++ [b3] ++ sixT
  have g4:(B ++ [Bx.lst L])[B.length]?=some (.lst L):=List.getElem?_concat_length
  have x5:d2 false fK (dV 2) (gx false (fc (dV 3) (fc (dSl false (dV 3) dNo (dPart (dC (.int 4)))) (fc (fF (fc (fF (fc (dC (.int 0)) (fc (dC (.int 1)) ff))) ff)) (fc (fF (fc (fF (fc (dNeg (dC (.int 1))) (fc (dC (.int 1)) ff))) ff)) (fc (fF (fc (fF (fc (dC (.bl true)) (fc (dC (.int 3)) ff))) ff)) (fc (fF (fc (fF (fc (dC (.int 0)) (fc (d2 false subD (d2 false powD (dC (.int 10)) (dC (.int 40))) (dC (.int 1))) ff))) ff)) (fc (fF (fc (fF (fc (dC (.int 0)) (fc (dC (.int 1)) (fc (dC (.int 2)) ff)))) ff)) (fc (fF (fc (gx false (fc (dC (.int 0)) (fc (dC (.int 1)) ff))) ff)) ff))))))))) [some (.b n),some (.d (.tup l)),some (.b B.length),some (.d (.tup longT))] (B ++ [.lst L])=.val (.d (.lst (L ++ eightT))) (B ++ [.lst L]):=by
    have e1:dV 2 [some (.b n),some (.d (.tup l)),some (.b B.length),some (.d (.tup longT))] (B ++ [.lst L])=.val (.b B.length) (B ++ [.lst L]):=rfl
    have e2:fK (.lst L) (.lst eightT)=some (.lst (L ++ eightT)):=Fx (show (20:Nat) <= sizeLine by omega)
    rw [Jx,e1,gI,M6,gI,G4 g4,An,Option.bind_some,Option.bind_some,e2,i3]
    rfl
  have M:lS [some (.b n),some (.d (.tup l)),none,none] (pt bx n p)=.rt (.d (.lst (L ++ eightT))) (B ++ [.lst L]):=by
    unfold lS
    refine (gi x1).trans ?_
    refine (gi (BZ ap)).trans ?_
    refine (gi x3).trans ?_
    refine (gi (jV Ov)).trans ?_
    exact jR x5
  refine ⟨L ++ eightT,p4,?_,?_⟩
  . refine (Gd M).trans ?_
    have:(B ++ [Bx.lst L]).take (pt bx n p).length=pt bx n p4:=by
      rw [gD,<-eB,List.take_append_of_le_length (by rw [gD];simp),Fw h]
    rw [this]
  . intro x m
    rcases List.mem_append.mp m with m | m
    . rcases List.mem_append.mp m with m | m
      . rcases List.mem_append.mp m with m | m
        . simp only [l0,List.mem_cons,List.not_mem_nil,or_false] at m
          rcases m with rfl | rfl | rfl | rfl | rfl
          . exact lh st (by decide) (by decide) (by decide)
          . exact lh (Sm.lst sp) (by decide) (by decide) (by decide)
          . exact lh (Bp _ mo) (by decide) (by decide) (by decide)
          . exact lh s1 (by decide) (by decide) (by decide)
          . exact lh (Sm.tup (sp.append (SmL.cons (Sm.tup (SmL.cons (Sm.int (by decide)) (SmL.cons (Sm.int (by decide)) SmL.nil))) SmL.nil))) (by decide) (by decide) (by decide)
        . rw [List.mem_singleton.mp m]
          exact lh s3 (by decide) (by decide) (by decide)
      . exact lh (M5.mem m) (by decide) (by decide) (by decide)
    . exact lh (JI.mem m) (by decide) (by decide) (by decide)
end K2
set_option Elab.async false
set_option linter.all false
set_option maxRecDepth 100000
set_option maxHeartbeats 400000
set_option exponentiation.threshold 3000
namespace K2
open PySem PySem.Spec PyProof.Rows L2 L2.DL K1
section
variable {h : D} {rs : List Int} {hold : Int} {bx : List Bx} {x0 x1 x2 x4 x5 x6 x7 x8 x9 x10 x11 x12 x13 x14 : Option W}
noncomputable abbrev thBody:DSt:=(fJ (fY (dRepr (dV 7)) (fk 8)) (fJ (sIf (dOr (dB (d2 false neD (dRepr (fv K2.iJ 2 (fc (dV 3) (fc (dV 7) ff)))) (dRepr (fv K2.gG 1 (fc (dV 7) ff))))) (dB (d2 false neD (dRepr (dV 7)) (dV 8)))) (gc (dC (.bl false))) sNil) (sIf (dB (d2 false neD (dRepr (fv K2.ia 4 (fc (dV 3) (fc (dV 7) (fc (dC (.int 0)) (fc (dC (.int 4)) ff)))))) (dRepr (fv K2.io 4 (fc (dV 3) (fc (dV 7) (fc (dC (.int 0)) (fc (dC (.int 4)) ff)))))))) (gc (dC (.bl false))) sNil)))
theorem Py (hh:house h=true) (ok:okH h) (H:HouseI h rs hold) {t:D} (ft:Fine t) :
    ∃ y8,thBody [x0,x1,x2,some (.d h),x4,x5,x6,some (.d t),x8,x9,x10,x11,x12,x13,x14] bx=.nx [x0,x1,x2,some (.d h),x4,x5,x6,some (.d t),y8,x9,x10,x11,x12,x13,x14] bx:=by
  have c:=ft.show
  obtain ⟨v,e1,e2,sv⟩:=Fv hh ok H t (.int 0) (.int 4) bx
  refine ⟨some (.d (.str (toPy t).shown)),?_⟩
  have a1:fv K2.iJ 2 (fc (dV 3) (fc (dV 7) ff)) [x0,x1,x2,some (.d h),x4,x5,x6,some (.d t),some (.d (.str (toPy t).shown)),x9,x10,x11,x12,x13,x14] bx=.val (.d (.bl (outs t))) bx:=fQ (fm rfl (fm rfl rfl)) rfl (B7 hh ok t bx)
  have a2:fv K2.gG 1 (fc (dV 7) ff) [x0,x1,x2,some (.d h),x4,x5,x6,some (.d t),some (.d (.str (toPy t).shown)),x9,x10,x11,x12,x13,x14] bx=.val (.d (.bl (outs t))) bx:=fQ (fm rfl rfl) rfl (Fp t bx)
  have a3:fv K2.ia 4 (fc (dV 3) (fc (dV 7) (fc (dC (.int 0)) (fc (dC (.int 4)) ff)))) [x0,x1,x2,some (.d h),x4,x5,x6,some (.d t),some (.d (.str (toPy t).shown)),x9,x10,x11,x12,x13,x14] bx=.val (.d v) bx:=fQ (fm rfl (fm rfl (fm rfl (fm rfl rfl)))) rfl e1
  have a4:fv K2.io 4 (fc (dV 3) (fc (dV 7) (fc (dC (.int 0)) (fc (dC (.int 4)) ff)))) [x0,x1,x2,some (.d h),x4,x5,x6,some (.d t),some (.d (.str (toPy t).shown)),x9,x10,x11,x12,x13,x14] bx=.val (.d v) bx:=fQ (fm rfl (fm rfl (fm rfl (fm rfl rfl)))) rfl e2
  have t1:=O0 (mJ (gH (r:=.old _) (mS a1 (G0 _)) (mS a2 (G0 _)) (Bv _))) (mJ (gH (r:=.old _) (mS (m:=dV 7) (env:=[x0,x1,x2,some (.d h),x4,x5,x6,some (.d t),some (.d (.str (toPy t).shown)),x9,x10,x11,x12,x13,x14]) rfl c) (k:=dV 8) rfl (Bv _)))
  have t2:=mJ (gH (r:=.old _) (mS a3 sv) (mS a4 sv) (Bv _))
  unfold thBody
  refine (gi (jV (mS (d:=t) rfl c))).trans ?_
  refine (gi (Bj t1)).trans ?_
  exact Bj t2
theorem Nj (hh:house h=true) (ok:okH h) (H:HouseI h rs hold):∀ (ts:List D) (x7 x8:Option W),(∀ x ∈ ts,Fine x) ->
    ∃ y7 y8,forD (fk 7) thBody (ts.map W.d) [x0,x1,x2,some (.d h),x4,x5,x6,x7,x8,x9,x10,x11,x12,x13,x14] bx=.nx [x0,x1,x2,some (.d h),x4,x5,x6,y7,y8,x9,x10,x11,x12,x13,x14] bx
  | [],x7,x8,_=>⟨x7,x8,rfl⟩
  | t :: ts,x7,x8,hf=>by
    obtain ⟨y8,e⟩:=Py (x0:=x0) (x1:=x1) (x2:=x2) (x4:=x4) (x5:=x5) (x6:=x6) (x8:=x8) (x9:=x9) (x10:=x10) (x11:=x11) (x12:=x12) (x13:=x13) (x14:=x14) (bx:=bx) hh ok H (hf t (List.mem_cons_self ..))
    obtain ⟨z7,z8,e2⟩:=Nj hh ok H ts (some (.d t)) y8 fun x m=>hf x (List.mem_cons_of_mem _ m)
    exact ⟨z7,z8,by rw [List.map_cons];exact (oI rfl e).trans e2⟩
noncomputable abbrev hrBody:DSt:=(sIf (dB (d2 false neD (dRepr (fv K2.ia 4 (fc (dV 3) (fc (dV 4) (fc (dV 13) (fc (dV 14) ff)))))) (dRepr (fv K2.io 4 (fc (dV 3) (fc (dV 4) (fc (dV 13) (fc (dV 14) ff)))))))) (gc (dC (.bl false))) sNil)
theorem Pz (hh:house h=true) (ok:okH h) (H:HouseI h rs hold) (o r u:D) :
    hrBody [x0,x1,x2,some (.d h),some (.d o),x5,x6,x7,x8,x9,x10,x11,x12,some (.d r),some (.d u)] bx=.nx [x0,x1,x2,some (.d h),some (.d o),x5,x6,x7,x8,x9,x10,x11,x12,some (.d r),some (.d u)] bx:=by
  obtain ⟨v,e1,e2,sv⟩:=Fv hh ok H o r u bx
  have a3:fv K2.ia 4 (fc (dV 3) (fc (dV 4) (fc (dV 13) (fc (dV 14) ff)))) [x0,x1,x2,some (.d h),some (.d o),x5,x6,x7,x8,x9,x10,x11,x12,some (.d r),some (.d u)] bx=.val (.d v) bx:=fQ (fm rfl (fm rfl (fm rfl (fm rfl rfl)))) rfl e1
  have a4:fv K2.io 4 (fc (dV 3) (fc (dV 4) (fc (dV 13) (fc (dV 14) ff)))) [x0,x1,x2,some (.d h),some (.d o),x5,x6,x7,x8,x9,x10,x11,x12,some (.d r),some (.d u)] bx=.val (.d v) bx:=fQ (fm rfl (fm rfl (fm rfl (fm rfl rfl)))) rfl e2
  exact Bj (mJ (gH (r:=.old _) (mS a3 sv) (mS a4 sv) (Bv _)))
theorem Nk (hh:house h=true) (ok:okH h) (H:HouseI h rs hold) (o r:D):∀ (us:List D) (x14:Option W),
    ∃ y14,forD (fk 14) hrBody (us.map W.d) [x0,x1,x2,some (.d h),some (.d o),x5,x6,x7,x8,x9,x10,x11,x12,some (.d r),x14] bx=.nx [x0,x1,x2,some (.d h),some (.d o),x5,x6,x7,x8,x9,x10,x11,x12,some (.d r),y14] bx
  | [],x14=>⟨x14,rfl⟩
  | u :: us,x14=>by
    obtain ⟨z,e2⟩:=Nk hh ok H o r us (some (.d u))
    exact ⟨z,by rw [List.map_cons];exact (oI rfl (Pz hh ok H o r u)).trans e2⟩
theorem Nl (hh:house h=true) (ok:okH h) (H:HouseI h rs hold) (o:D) (us:List D):∀ (ss:List D) (x13 x14:Option W),
    ∃ y13 y14,forD (fk 13) (iZ (dIter (dV 9)) (fk 14) hrBody) (ss.map W.d) [x0,x1,x2,some (.d h),some (.d o),x5,x6,x7,x8,some (.d (.lst us)),x10,x11,x12,x13,x14] bx=.nx [x0,x1,x2,some (.d h),some (.d o),x5,x6,x7,x8,some (.d (.lst us)),x10,x11,x12,y13,y14] bx
  | [],x13,x14=>⟨x13,x14,rfl⟩
  | r :: ss,x13,x14=>by
    obtain ⟨y,e1⟩:=Nk (x0:=x0) (x1:=x1) (x2:=x2) (x5:=x5) (x6:=x6) (x7:=x7) (x8:=x8) (x9:=some (.d (.lst us))) (x10:=x10) (x11:=x11) (x12:=x12) (bx:=bx) hh ok H o r us x14
    obtain ⟨z1,z2,e2⟩:=Nl hh ok H o us ss (some (.d r)) y
    have st:iZ (dIter (dV 9)) (fk 14) hrBody [x0,x1,x2,some (.d h),some (.d o),x5,x6,x7,x8,some (.d (.lst us)),x10,x11,x12,some (.d r),x14] bx=.nx [x0,x1,x2,some (.d h),some (.d o),x5,x6,x7,x8,some (.d (.lst us)),x10,x11,x12,some (.d r),y] bx:=(oN (Bt rfl)).trans e1
    exact ⟨z1,z2,by rw [List.map_cons];exact (oI rfl st).trans e2⟩
end
section
variable {h : D} {rs : List Int} {hold : Int} {bx : List Bx} {n : Nat} {x0 x1 x4 x5 x6 x7 x8 x12 x13 x14 : Option W}
noncomputable abbrev lsBody:DSt:=(fY (d2 false fK (dV 9) (gx false (fc (d2 false fK (dV 10) (d2 false mulD (d2 false ixD (dV 3) (dC (.int 3))) (dV 12))) (fc (d2 false subD (d2 false fK (dV 10) (d2 false mulD (d2 false ixD (dV 3) (dC (.int 3))) (dV 12))) (dC (.int 1))) ff)))) (fk 9))
theorem PB (H:HouseI h rs hold) {B:List Bx} (b e i:Int) (hi:-(2 ^ 64) < i /\ i < 2 ^ 64) (us:List D) (hl:us.length <= 1000) {x2 x11:Option W}:∃ us',lsBody [x0,x1,x2,some (.d h),x4,x5,x6,x7,x8,some (.d (.lst us)),some (.d (.int b)),x11,some (.d (.int i)),x13,x14] B=.nx [x0,x1,x2,some (.d h),x4,x5,x6,x7,x8,some (.d (.lst us')),some (.d (.int b)),x11,some (.d (.int i)),x13,x14] B /\ us'.length=us.length + 2:=by
  have sz:sizeLine=16777216:=sizeLine_eq
  obtain ⟨⟨k,p,rfl⟩,_⟩:=H
  have e3:ixD (.tup [.tup (rs.map D.int),k,p,.int hold]) (.int 3)=some (.old (.int hold)):=by simp [ixD,atI,ixN]
  have m:mulD (.int hold) (.int i)=some (.old (.int (hold * i))):=LZ hi.1 hi.2
  refine ⟨us ++ [.int (b + hold * i),.int (b + hold * i - 1)],?_,by simp⟩
  generalize D.tup [.tup (rs.map D.int),k,p,.int hold]=hs at e3
  have q:d2 false fK (dV 10) (d2 false mulD (d2 false ixD (dV 3) (dC (.int 3))) (dV 12)) [x0,x1,x2,some (.d hs),x4,x5,x6,x7,x8,some (.d (.lst us)),some (.d (.int b)),x11,some (.d (.int i)),x13,x14] B=.val (.d (.int (b + hold * i))) B:=gH (r:=.old _) rfl (gH (gH rfl rfl e3) rfl m) rfl
  generalize b + hold * i=u at q
  exact jV (gH (r:=.lst _) rfl (o8 [.int u,.int (u - 1)] (fm q (fm (gH (r:=.old _) q rfl rfl) rfl)) (show (2:Nat) <= sizeLine by omega)) (Fx (by show us.length + 2 <= _;omega)))
noncomputable abbrev hoBody:DSt:=(fJ (fY (d2 false fK (dV 9) (gx false (fc (dV 10) (fc (dV 11) (fc (d2 false subD (dV 11) (dC (.int 1))) (fc (dN false maxD (fc (dC (.int 0)) (fc (d2 false subD (dV 10) (dC (.int 1))) ff))) (fc (d2 false fK (dV 10) (fv K1.fu 2 (fc (dV 2) (fc (dC (.int 40)) ff)))) ff))))))) (fk 9)) (iZ (dIter (fF (fc (dC (.int 1)) (fc (dC (.int 2)) (fc (dC (.int 3)) (fc (dC (.int 4)) ff)))))) (fk 12) lsBody))
theorem PH (hn:n < bx.length) (H:HouseI h rs hold) (p b e:Int) (us:List D) (hl:us.length <= 500):∃ us' y12 q,hoBody [x0,x1,some (.b n),some (.d h),x4,x5,x6,x7,x8,some (.d (.lst us)),some (.d (.int b)),some (.d (.int e)),x12,x13,x14] (pt bx n p)=.nx [x0,x1,some (.b n),some (.d h),x4,x5,x6,x7,x8,some (.d (.lst us')),some (.d (.int b)),some (.d (.int e)),y12,x13,x14] (pt bx n q) /\ us'.length <= us.length + 13:=by
  have sz:sizeLine=16777216:=sizeLine_eq
  obtain ⟨r,q,t,r0,r1⟩:=AS hn p 40 (by decide) (by decide)
  have mx:maxD [.int 0,.int (b - 1)]=some (.old (.int (max 0 (b - 1)))):=Nh _
  let u1:List D:=us ++ [.int b,.int e,.int (e - 1),.int (max 0 (b - 1)),.int (b + r)]
  have x:fY (d2 false fK (dV 9) (gx false (fc (dV 10) (fc (dV 11) (fc (d2 false subD (dV 11) (dC (.int 1))) (fc (dN false maxD (fc (dC (.int 0)) (fc (d2 false subD (dV 10) (dC (.int 1))) ff))) (fc (d2 false fK (dV 10) (fv K1.fu 2 (fc (dV 2) (fc (dC (.int 40)) ff)))) ff))))))) (fk 9) [x0,x1,some (.b n),some (.d h),x4,x5,x6,x7,x8,some (.d (.lst us)),some (.d (.int b)),some (.d (.int e)),x12,x13,x14] (pt bx n p)=.nx [x0,x1,some (.b n),some (.d h),x4,x5,x6,x7,x8,some (.d (.lst u1)),some (.d (.int b)),some (.d (.int e)),x12,x13,x14] (pt bx n q):=by
    generalize pt bx n p=B at t ⊢
    generalize pt bx n q=B' at t ⊢
    have q1:dN false maxD (fc (dC (.int 0)) (fc (d2 false subD (dV 10) (dC (.int 1))) ff)) [x0,x1,some (.b n),some (.d h),x4,x5,x6,x7,x8,some (.d (.lst us)),some (.d (.int b)),some (.d (.int e)),x12,x13,x14] B=.val (.d (.int (max 0 (b - 1)))) B:=AN (r:=.old _) [.int 0,.int (b - 1)] (fm rfl (fm (gH (r:=.old _) rfl rfl rfl) rfl)) mx
    have q2:d2 false fK (dV 10) (fv K1.fu 2 (fc (dV 2) (fc (dC (.int 40)) ff))) [x0,x1,some (.b n),some (.d h),x4,x5,x6,x7,x8,some (.d (.lst us)),some (.d (.int b)),some (.d (.int e)),x12,x13,x14] B=.val (.d (.int (b + r))) B':=gH (r:=.old _) rfl (fQ (fm rfl (fm rfl rfl)) rfl t) rfl
    exact jV (gH (r:=.lst _) rfl (o8 [.int b,.int e,.int (e - 1),.int (max 0 (b - 1)),.int (b + r)] (fm rfl (fm rfl (fm (gH (r:=.old _) rfl rfl rfl) (fm q1 (fm q2 rfl))))) (show (5:Nat) <= sizeLine by omega)) (Fx (by show us.length + 5 <= _;omega)))
  have hu1:u1.length=us.length + 5:=by simp [u1]
  obtain ⟨env',bx',e2,us',y12,rfl,rfl,hl'⟩:=Bu (g:=fk 12) (body:=lsBody) (fun i env B=>∃ us' y12,env=[x0,x1,some (.b n),some (.d h),x4,x5,x6,x7,x8,some (.d (.lst us')),some (.d (.int b)),some (.d (.int e)),y12,x13,x14] /\ B=pt bx n q /\ us'.length=u1.length + 2 * i) (([.int 1,.int 2,.int 3,.int 4]:List D).map W.d) 0 [x0,x1,some (.b n),some (.d h),x4,x5,x6,x7,x8,some (.d (.lst u1)),some (.d (.int b)),some (.d (.int e)),x12,x13,x14] (pt bx n q) ⟨u1,x12,rfl,rfl,rfl⟩ (by
      rintro i w env B hw ⟨us',y12,rfl,rfl,hl'⟩
      have hi:i < 4:=by
        have:=(List.getElem?_eq_some_iff.mp hw).1
        simpa using this
      obtain ⟨d,md,rfl⟩:=List.mem_map.mp (List.mem_of_getElem? hw)
      obtain ⟨k,rfl,hk⟩:∃ k:Int,d=.int k /\ (-(2 ^ 64) < k /\ k < 2 ^ 64):=by
        simp only [List.mem_cons,List.not_mem_nil,or_false] at md
        rcases md with rfl | rfl | rfl | rfl <;> exact ⟨_,rfl,by decide⟩
      obtain ⟨us2,e2,l2⟩:=PB (x0:=x0) (x1:=x1) (x4:=x4) (x5:=x5) (x6:=x6) (x7:=x7) (x8:=x8) (x13:=x13) (x14:=x14) (B:=pt bx n q) H b e k hk us' (by omega) (x2:=some (.b n)) (x11:=some (.d (.int e)))
      exact ⟨_,_,_,_,rfl,e2,us2,_,rfl,rfl,by omega⟩)
  refine ⟨us',y12,q,?_,by simp at hl';omega⟩
  unfold hoBody
  refine (gi x).trans ?_
  exact (oN (mQ (oH [.int 1,.int 2,.int 3,.int 4] rfl (show (4:Nat) <= sizeLine by omega)))).trans e2
theorem Nm (hn:n < bx.length) (H:HouseI h rs hold):∀ (ps:List (Int × Int)) (p:Int) (us:List D) (x10 x11 x12:Option W),us.length + 13 * ps.length <= 500 ->
    ∃ us' y10 y11 y12 q,forD (iS 2 (fR (fk 10) (fR (fk 11) i4))) hoBody ((ps.map dP).map W.d) [x0,x1,some (.b n),some (.d h),x4,x5,x6,x7,x8,some (.d (.lst us)),x10,x11,x12,x13,x14] (pt bx n p)=.nx [x0,x1,some (.b n),some (.d h),x4,x5,x6,x7,x8,some (.d (.lst us')),y10,y11,y12,x13,x14] (pt bx n q)
  | [],p,us,x10,x11,x12,_=>⟨us,x10,x11,x12,p,rfl⟩
  | o :: ps,p,us,x10,x11,x12,hl=>by
    have g:iS 2 (fR (fk 10) (fR (fk 11) i4)) (W.d (dP o)) [x0,x1,some (.b n),some (.d h),x4,x5,x6,x7,x8,some (.d (.lst us)),x10,x11,x12,x13,x14] (pt bx n p)=some ([x0,x1,some (.b n),some (.d h),x4,x5,x6,x7,x8,some (.d (.lst us)),some (.d (.int o.1)),some (.d (.int o.2)),x12,x13,x14],pt bx n p):=rfl
    simp only [List.length_cons] at hl
    obtain ⟨u2,y,q,e1,l1⟩:=PH (x0:=x0) (x1:=x1) (x4:=x4) (x5:=x5) (x6:=x6) (x7:=x7) (x8:=x8) (x12:=x12) (x13:=x13) (x14:=x14) hn H p o.1 o.2 us (by omega)
    obtain ⟨u3,z1,z2,z3,q3,e2⟩:=Nm hn H ps q u2 (some (.d (.int o.1))) (some (.d (.int o.2))) y (by omega)
    exact ⟨u3,z1,z2,z3,q3,by rw [List.map_cons,List.map_cons];exact (oI g e1).trans e2⟩
end
end K2
set_option Elab.async false
set_option linter.all false
set_option maxRecDepth 100000
set_option maxHeartbeats 1000000
set_option exponentiation.threshold 3000
namespace K1
open PySem PySem.Spec PyProof.Rows L2 L2.DL
noncomputable abbrev lawBody:DSt:=(fJ (fY (fv jy 1 (fc (fv ic 2 (fc (dV 0) (fc (dV 1) ff))) ff)) (fk 2)) (fJ (fY (fv iP 1 (fc (dV 2) ff)) (fk 3)) (fJ (sIf (dB (d2 false isntD (fv iH 1 (fc (dV 3) ff)) (dC (.bl true)))) (gc (dC (.bl false))) sNil) (fJ (fY (d2 true fK (gx false (fc (fv gf 1 (fc (dV 2) ff)) (fc (dN false listD (fc (dV 3) ff)) ff))) (fv mB 2 (fc (dV 2) (fc (dV 3) ff)))) (fk 4)) (fJ (iZ (dRng1 (fc (dC (.int 6)) ff)) (fk 5) turnBody) (iZ (dIter (dFrz 4)) (fk 8) lookBody))))))
theorem lh {B a b:Nat}{d:D} (s:Sm B a b d) (h1:B <= 10 ^ 31) (h2:a <= 60) (h3:b <= 10000000):Fine d:=⟨B,a,b,s,h1,h2,h3⟩
end K1
set_option Elab.async false
set_option linter.all false
set_option maxRecDepth 100000
set_option maxHeartbeats 400000
set_option exponentiation.threshold 3000
namespace K2
open PySem PySem.Spec PyProof.Rows L2 L2.DL K1
noncomputable abbrev lawBody:DSt:=(fJ (fY (fv K1.jy 1 (fc (fv K1.ic 2 (fc (dV 0) (fc (dV 1) ff))) ff)) (fk 2)) (fJ (fY (fv K1.iP 1 (fc (dV 2) ff)) (fk 3)) (fJ (fY (fv K2.jz 3 (fc (dV 2) (fc (fv K2.iI 2 (fc (dV 2) (fc (dC (.int 30)) ff))) (fc (gx false ff) ff)))) (iS 3 (fR (fk 4) (fR (fk 5) (fR (fk 6) i4))))) (fJ (iZ (dIter (fv K2.iW 2 (fc (dV 2) (fc (dV 4) ff)))) (fk 7) thBody) (fJ (fY (gx false (fc (dC (.int 0)) (fc (d2 false fK (dV 6) (fv K1.fu 2 (fc (dV 2) (fc (dC (.int 200)) ff)))) (fc (d2 false subD (d2 false powD (dC (.int 10)) (dC (.int 40))) (dC (.int 1))) (fc (dC (.bl true)) (fc (dC .non) (fc (dNeg (dC (.int 1))) (fc (dC (.str "3")) (fc (fF (fc (dC (.int 3)) ff)) ff))))))))) (fk 9)) (fJ (iZ (dIter (dV 4)) (iS 2 (fR (fk 10) (fR (fk 11) i4))) hoBody) (iZ (dIter (d2 false fK (dLR false (fc (d2 false fK (dN false lenD (fc (d2 false ixD (dV 3) (dC (.int 0))) ff)) (dC (.int 1))) ff)) (gx false (fc (dNeg (dC (.int 1))) (fc (dC (.bl true)) (fc (dC .non) (fc (dC (.str "0")) ff))))))) (fk 13) (iZ (dIter (dV 9)) (fk 14) hrBody))))))))
theorem Pe {ks:DE (List W)}{env:DEnv}{bx bx1:List Bx}{j:Nat} (h:ks env bx=.val [.d (.int (j:Int))] bx1) (hj:j <= 1000):dLR false ks env bx=.val (.d (.lst ((List.range j).map fun (i:Nat)=>D.int (i:Int)))) bx1:=by
  unfold dLR
  rw [h,gI]
  show (if -(2 ^ 62) <= (j:Int) /\ (j:Int) <= 2 ^ 24 then _ else _)=_
  rw [if_pos (by omega),Int.toNat_natCast]
  rfl
theorem Ow (l:List Int) (k:Nat) (bx:List Bx) (x2 x3 x4 x5 x6 x7 x8 x9 x10 x11 x12 x13 x14:Option W):∃ (ys:DEnv) (bx':List Bx),ys.length=14 /\ lawBody [some (.s l),some (.d (.int (k:Int))),x2,x3,x4,x5,x6,x7,x8,x9,x10,x11,x12,x13,x14] bx=.nx (some (.s l) :: ys) bx':=by
  have sz:sizeLine=16777216:=sizeLine_eq
  obtain ⟨c,ec⟩:=Oo l k bx
  obtain ⟨p,ep⟩:=O4 c bx
  let A:List Bx:=bx ++ [.lst [.int p]]
  have hA:A.length=bx.length + 1:=by simp [A]
  have hn:bx.length < A.length:=by omega
  have pA:bx ++ [Bx.lst [D.int p]]=pt A bx.length p:=by
    unfold pt
    exact (LY List.getElem?_concat_length).symm
  rw [pA] at ep
  obtain ⟨h,q,eh,hh,sh⟩:=LX hn p
  have fd:K1.Fine h:=K1.lh sh (by decide) (by decide) (by decide)
  have ok:=fd.ok
  obtain ⟨rs,hold,H⟩:=JG hh
  obtain ⟨ps,q1,eo,np⟩:=M4 hn q
  obtain ⟨ps',by',q2,ef,fp⟩:=Ou hn q1 np
  obtain ⟨ts,q3,et,ft⟩:=JJ hn q2 fp
  obtain ⟨r,q4,e200,_,_⟩:=AS hn q3 200 (by decide) (by decide)
  clear_value A
  generalize bx.length=n at *
  let E0:DEnv:=[some (.s l),some (.d (.int (k:Int))),some (.b n),some (.d h),some (.d (.tup (ps'.map dP))),some (.d (.lst [])),some (.d (.int by'))]
  obtain ⟨y7,y8,eth⟩:=Nj (x0:=some (.s l)) (x1:=some (.d (.int (k:Int)))) (x2:=some (.b n)) (x4:=some (.d (.tup (ps'.map dP)))) (x5:=some (.d (.lst []))) (x6:=some (.d (.int by'))) (x9:=x9) (x10:=x10) (x11:=x11) (x12:=x12) (x13:=x13) (x14:=x14) (bx:=pt A n q3) hh ok H ts x7 x8 ft
  let us:List D:=[.int 0,.int (by' + r),.int (10 ^ 40 - 1),.bl true,.non,.int (-1),.str "3",.tup [.int 3]]
  obtain ⟨us',y10,y11,y12,q5,eho⟩:=Nm (x0:=some (.s l)) (x1:=some (.d (.int (k:Int)))) (x4:=some (.d (.tup (ps'.map dP)))) (x5:=some (.d (.lst []))) (x6:=some (.d (.int by'))) (x7:=y7) (x8:=y8) (x13:=x13) (x14:=x14) hn H ps' q4 us x10 x11 x12 (by have:=fp.1;show 8 + 13 * ps'.length <= 500;omega)
  let ss:List D:=((List.range (rs.length + 1)).map fun (i:Nat)=>D.int (i:Int)) ++ [.int (-1),.bl true,.non,.str "0"]
  obtain ⟨y13,y14,erm⟩:=Nl (x0:=some (.s l)) (x1:=some (.d (.int (k:Int)))) (x2:=some (.b n)) (x5:=some (.d (.lst []))) (x6:=some (.d (.int by'))) (x7:=y7) (x8:=y8) (x10:=y10) (x11:=y11) (x12:=y12) (bx:=pt A n q5) hh ok H (.tup (ps'.map dP)) us' ss x13 x14
  refine ⟨[some (.d (.int (k:Int))),some (.b n),some (.d h),some (.d (.tup (ps'.map dP))),some (.d (.lst [])),some (.d (.int by')),y7,y8,some (.d (.lst us')),y10,y11,y12,y13,y14],pt A n q5,rfl,?_⟩
  . unfold lawBody
    refine (gi (jV (fQ (fm (fQ (fm rfl (fm rfl rfl)) rfl ec) rfl) rfl ep))).trans ?_
    refine (gi (jV (fQ (fm rfl rfl) rfl eh))).trans ?_
    have s3:fY (fv K2.jz 3 (fc (dV 2) (fc (fv K2.iI 2 (fc (dV 2) (fc (dC (.int 30)) ff))) (fc (gx false ff) ff)))) (iS 3 (fR (fk 4) (fR (fk 5) (fR (fk 6) i4)))) [some (.s l),some (.d (.int (k:Int))),some (.b n),some (.d h),x4,x5,x6,x7,x8,x9,x10,x11,x12,x13,x14] (pt A n q)=.nx [some (.s l),some (.d (.int (k:Int))),some (.b n),some (.d h),some (.d (.tup (ps'.map dP))),some (.d (.lst [])),some (.d (.int by')),x7,x8,x9,x10,x11,x12,x13,x14] (pt A n q2):=by
      generalize pt A n q=B at eo ⊢
      generalize pt A n q1=B1 at eo ef
      generalize pt A n q2=B2 at ef ⊢
      have a1:fv K2.iI 2 (fc (dV 2) (fc (dC (.int 30)) ff)) [some (.s l),some (.d (.int (k:Int))),some (.b n),some (.d h),x4,x5,x6,x7,x8,x9,x10,x11,x12,x13,x14] B=.val (.d (.tup (ps.map dP))) B1:=fQ (fm rfl (fm rfl rfl)) rfl eo
      have a2:fv K2.jz 3 (fc (dV 2) (fc (fv K2.iI 2 (fc (dV 2) (fc (dC (.int 30)) ff))) (fc (gx false ff) ff))) [some (.s l),some (.d (.int (k:Int))),some (.b n),some (.d h),x4,x5,x6,x7,x8,x9,x10,x11,x12,x13,x14] B=.val (.d (.tup [.tup (ps'.map dP),.lst [],.int by'])) B2:=fQ (fm rfl (fm a1 (fm (o8 [] rfl (Nat.zero_le _)) rfl))) rfl ef
      rw [A3,a2,Ay]
      rfl
    refine (gi s3).trans ?_
    have s4:iZ (dIter (fv K2.iW 2 (fc (dV 2) (fc (dV 4) ff)))) (fk 7) thBody [some (.s l),some (.d (.int (k:Int))),some (.b n),some (.d h),some (.d (.tup (ps'.map dP))),some (.d (.lst [])),some (.d (.int by')),x7,x8,x9,x10,x11,x12,x13,x14] (pt A n q2)=.nx [some (.s l),some (.d (.int (k:Int))),some (.b n),some (.d h),some (.d (.tup (ps'.map dP))),some (.d (.lst [])),some (.d (.int by')),y7,y8,x9,x10,x11,x12,x13,x14] (pt A n q3):=by
      refine (oN (Bt ?_)).trans eth
      generalize pt A n q2=B at et ⊢
      generalize pt A n q3=B' at et ⊢
      exact fQ (fm rfl (fm rfl rfl)) rfl et
    refine (gi s4).trans ?_
    have s5:fY (gx false (fc (dC (.int 0)) (fc (d2 false fK (dV 6) (fv K1.fu 2 (fc (dV 2) (fc (dC (.int 200)) ff)))) (fc (d2 false subD (d2 false powD (dC (.int 10)) (dC (.int 40))) (dC (.int 1))) (fc (dC (.bl true)) (fc (dC .non) (fc (dNeg (dC (.int 1))) (fc (dC (.str "3")) (fc (fF (fc (dC (.int 3)) ff)) ff))))))))) (fk 9) [some (.s l),some (.d (.int (k:Int))),some (.b n),some (.d h),some (.d (.tup (ps'.map dP))),some (.d (.lst [])),some (.d (.int by')),y7,y8,x9,x10,x11,x12,x13,x14] (pt A n q3)=.nx [some (.s l),some (.d (.int (k:Int))),some (.b n),some (.d h),some (.d (.tup (ps'.map dP))),some (.d (.lst [])),some (.d (.int by')),y7,y8,some (.d (.lst us)),x10,x11,x12,x13,x14] (pt A n q4):=by
      generalize pt A n q3=B at e200 ⊢
      generalize pt A n q4=B' at e200 ⊢
      have a1:d2 false fK (dV 6) (fv K1.fu 2 (fc (dV 2) (fc (dC (.int 200)) ff))) [some (.s l),some (.d (.int (k:Int))),some (.b n),some (.d h),some (.d (.tup (ps'.map dP))),some (.d (.lst [])),some (.d (.int by')),y7,y8,x9,x10,x11,x12,x13,x14] B=.val (.d (.int (by' + r))) B':=gH (r:=.old _) rfl (fQ (fm rfl (fm rfl rfl)) rfl e200) rfl
      have p40:∀ e b,d2 false subD (d2 false powD (dC (.int 10)) (dC (.int 40))) (dC (.int 1)) e b=.val (.d (.int (10 ^ 40 - 1))) b:=fun e b=>gH (r:=.old _) (gH (r:=.old _) rfl rfl (GZ (by decide))) rfl rfl
      exact jV (o8 us (fm rfl (fm a1 (fm (p40 _ _) (fm rfl (fm rfl (fm (Ga rfl) (fm rfl (fm (oH [.int 3] rfl (show (1:Nat) <= sizeLine by omega)) rfl)))))))) (show (8:Nat) <= sizeLine by omega))
    refine (gi s5).trans ?_
    refine (gi ((oN (mQ rfl)).trans eho)).trans ?_
    obtain ⟨k0,p0,eH⟩:=H.e
    have e0:ixD h (.int 0)=some (.old (.tup (rs.map D.int))):=by rw [eH];simp [ixD,atI,ixN]
    have el:lenD [.tup (rs.map D.int)]=some (.old (.int rs.length)):=by simp [lenD]
    have hrn:=H.n
    have lr:dLR false (fc (d2 false fK (dN false lenD (fc (d2 false ixD (dV 3) (dC (.int 0))) ff)) (dC (.int 1))) ff) [some (.s l),some (.d (.int (k:Int))),some (.b n),some (.d h),some (.d (.tup (ps'.map dP))),some (.d (.lst [])),some (.d (.int by')),y7,y8,some (.d (.lst us')),y10,y11,y12,x13,x14] (pt A n q5)=.val (.d (.lst ((List.range (rs.length + 1)).map fun (i:Nat)=>D.int (i:Int)))) (pt A n q5):=by
      refine Pe (j:=rs.length + 1) ?_ (by omega)
      exact fm (gH (r:=.old (.int ((rs.length + 1:Nat):Int))) (AN [.tup (rs.map D.int)] (fm (gH rfl rfl e0) rfl) el) rfl (by show some (Res.old (.int ((rs.length:Int) + 1)))=_;rw [show ((rs.length + 1:Nat):Int)=(rs.length:Int) + 1 by omega])) rfl
    refine (oN (Bt (gH (r:=.lst ss) lr (o8 [.int (-1),.bl true,.non,.str "0"] (fm (Ga rfl) rfl) (show (4:Nat) <= sizeLine by omega)) (Fx ?_)))).trans erm
    rw [List.length_map,List.length_range]
    show rs.length + 1 + 4 <= _
    omega
theorem Pf (l:List Int) (hl:l.length <= 1000) (bx:List Bx) (xs:DEnv):∃ c:Nat,dRng1 (fc (dN false maxD (fc (dC (.int 1)) (fc (dN false minD (fc (dLenS (dV 0)) (fc (dC (.int 6)) ff))) ff))) ff) (some (.s l) :: xs) bx=.val (gm 0 c) bx:=by
  have e1:dLenS (dV 0) (some (.s l) :: xs) bx=.val (.d (.int l.length)) bx:=rfl
  have e2:dN false minD (fc (dLenS (dV 0)) (fc (dC (.int 6)) ff)) (some (.s l) :: xs) bx=.val (.d (.int (if (6:Int) < l.length then 6 else l.length))) bx:=AN (r:=.old _) [.int l.length,.int 6] (fm e1 (fm rfl rfl)) rfl
  have e3:dN false maxD (fc (dC (.int 1)) (fc (dN false minD (fc (dLenS (dV 0)) (fc (dC (.int 6)) ff))) ff)) (some (.s l) :: xs) bx=.val (.d (.int (if (if (6:Int) < l.length then (6:Int) else l.length) > 1 then (if (6:Int) < l.length then 6 else l.length) else 1))) bx:=AN (r:=.old _) [.int 1,.int (if (6:Int) < l.length then 6 else l.length)] (fm rfl (fm e2 rfl)) rfl
  have e4:=fm (ks:=ff) e3 rfl
  refine ⟨_,A5 e4 ?_⟩
  split <;> split <;> omega
theorem law_true (l:List Int) (hl:l.length <= 1000):∃ bx',BP [.s l] []=.val (.d (.bl true)) bx':=by
  obtain ⟨c,ec⟩:=Pf l hl [] [none,none,none,none,none,none,none,none,none,none,none,none,none,none]
  obtain ⟨env',bx',e,ys,rfl,hy⟩:=Bu (g:=fk 1) (body:=lawBody) (fun _ env b=>∃ ys:DEnv,env=some (.s l) :: ys /\ ys.length=14) (gm 0 c) 0 [some (.s l),none,none,none,none,none,none,none,none,none,none,none,none,none,none] [] ⟨_,rfl,rfl⟩ (by
    rintro i w env b hw ⟨ys,rfl,hy⟩
    obtain ⟨k,_,rfl⟩:=List.mem_map.mp (List.mem_of_getElem? hw)
    match ys,hy with
    | [x1,x2,x3,x4,x5,x6,x7,x8,x9,x10,x11,x12,x13,x14],_ =>
      obtain ⟨zs,bx',hz,e⟩:=Ow l k b x2 x3 x4 x5 x6 x7 x8 x9 x10 x11 x12 x13 x14
      refine ⟨[some (.s l),some (.d (.int (k:Int))),x2,x3,x4,x5,x6,x7,x8,x9,x10,x11,x12,x13,x14],b,_,_,by rw [Int.zero_add];rfl,e,zs,rfl,hz⟩)
  refine ⟨_,Gd (bx':=bx') ?_⟩
  show CF [some (.s l),none,none,none,none,none,none,none,none,none,none,none,none,none,none] []=_
  unfold CF
  refine (gi ((oN ec).trans e)).trans ?_
  exact jR rfl
end K2
set_option Elab.async false
set_option linter.all false
set_option maxRecDepth 100000
set_option maxHeartbeats 1000000
namespace L2.DL
open PySem PySem.Spec PyProof.Rows
noncomputable def lstO (o:Obj):Bool:=match o.cls with | .type n=>n == "list" | _=>false
noncomputable def noList (K:PySem.W.Frag):Bool:=K.all fun p=>!lstO p.2
theorem JK {K:PySem.W.Frag} (h:noList K=true) {a:Addr}{o:Obj} (e:K.lookup a=some o):o.cls ≠ .type "list":=by
  intro c
  unfold noList at h
  rw [List.all_eq_true] at h
  have m:(a,o) ∈ K:=by
    clear h
    induction K with
    | nil=>cases e
    | cons p K ih =>
      rw [List.lookup_cons] at e
      cases q:a == p.1 with
      | true =>
        rw [q] at e
        cases e
        have:a=p.1:=by simpa using q
        subst this
        exact List.mem_cons_self ..
      | false =>
        rw [q] at e
        exact List.mem_cons_of_mem _ (ih e)
  have:=h _ m
  simp [lstO,c] at this
theorem sp_law {K:PySem.W.Frag}{H:Hp}{a:Addr}{ns:List Int}{fn:List W->List Bx->O W}{cl:Nat->Addr} (nl:noList K=true) (hO:Only H) (hS:SqL K H a (ns.map V.int)) (hf:∃ bx',fn [.s ns] []=.val (.d (.bl true)) bx') :
    spD cl 1 fn [.ref a] H (fun v _=>v=.bl true) fun _ _ _=>False:=by
  rcases hS with hS | ⟨o,its,n,e1,e2,_⟩
  . rcases hS with hS | ⟨o,hS⟩
    . rcases hO a with z | ⟨o,xs,z⟩
      . rw [hS] at z;cases z
      . rw [hS] at z;cases z
    . obtain ⟨bx',hf⟩:=hf
      refine ⟨H,[],[.s ns],[],⟨Sub.refl H,fun i w e=>by simp at e,rfl,.nil,fun n c a e=>by simp at e,fun a u e _=>e,fun n a _ e=>by simp at e,Nat.le_refl _,Nat.le_refl _,fun a u e=>.inl e⟩,⟨.ref a,[],rfl,⟨a,o,rfl,hS⟩,rfl⟩,rfl,?_⟩
      rw [hf]
      intro F' r' v H' _ _ d
      exact d
  . exact absurd e2 (JK nl e1)
noncomputable def tys:List String:=["NoneType", "bool", "int", "str", "tuple", "list", "dict"]
noncomputable def tysChk (K:PySem.W.Frag):Bool:=tys.all fun S=>["int", "bool", "tuple", "list"].all fun T=>PySem.W.kitOne K (.type S) (.type T) == some (subT S T)
theorem Dm {K:PySem.W.Frag} (h:tysChk K=true) {T:String} (m:T ∈ ["int", "bool", "tuple", "list"]):Tys K T:=by
  intro d
  unfold tysChk at h
  rw [List.all_eq_true] at h
  have m1:tyN d ∈ tys:=by cases d <;> simp [tyN,tys]
  have z:=h _ m1
  rw [List.all_eq_true] at z
  exact beq_iff_eq.mp (z _ m)
theorem gj {K:PySem.W.Frag}{h:Heap}{mg:Str->Option Value}{x:Str}{st:Stmt}{ps:List Str}{f:Addr}{oc:Value}{od an:Option Addr}{osl:Array (Option Value)}{kV doc pm cdv ct:Value} (X:K.In h) (G:h.Ns mainGlobals mg)
    (a:PySem.W.nsIn K mainGlobals x=some (some (.ref f))) (l:K.lookup f=some ⟨oc,od,.func (PySem.W.fnOf x x (fN st) (fH st) (fq st) .none kV doc pm an cdv ct),osl⟩)
    (c:PySem.W.codeIn K cdv x=true) (k:PySem.W.keepIn K (.ref f)=true) (hb:∀ fd,Fun K x x st f fd->Binds K fd ps []):Def K mg x st ps :=
  ⟨f,_,FL l c k,PySem.W.mg_of X G a,hb _ (FL l c k)⟩
theorem Ox {K:PySem.W.Frag}{h:Heap}{mg:Str->Option Value}{bs:List Str} (X:K.In h) (G:h.Ns mainGlobals mg) (z:∀ x ∈ bs,PySem.W.nsIn K mainGlobals x=some none) (t:tysChk K=true):Bas K mg bs :=
  ⟨fun x m=>PySem.W.mg_none_of X G (z x m),Dm t (by simp),Dm t (by simp),Dm t (by simp),Dm t (by simp)⟩
theorem Oy {l:PySem.W.OpenLaw}{w:World}{K:PySem.W.Frag}{mg:Str->Option Value}{fa:Addr}{k:Nat}{fn:List W->List Bx->O W}{st:Stmt} (cl:Nat->Addr) (hfa:mg "law"=some (.ref fa)) (D:Def K mg "law" st ["_law_script"])
    (hB:∀ (fd:FuncData) (f:Addr),Fun K "law" "law" st f fd->∀ (s:Shared) (u:Value),BindsTo s fd ⟨[u],[]⟩ [("_law_script",u)])
    (H:∀ base:Heap,K.In base->base.Ns mainGlobals mg->Has l.prog w K mg base cl k "law" ["_law_script"] fn) :
    ∃ (cl:Nat->Addr) (fd:FuncData),(∀ (s:Shared) (u:Value),BindsTo s fd ⟨[u],[]⟩ [("_law_script",u)]) /\ ∀ base:Heap,K.In base->base.Ns mainGlobals mg->FnOk l.prog w K mg base (CXr l.prog w) k fa fd ["_law_script"] (spD cl 1 fn):=by
  obtain ⟨f,fd,F,hm,_⟩:=D
  rw [hfa] at hm
  cases hm
  refine ⟨cl,fd,hB fd fa F,fun base hK hN=>?_⟩
  obtain ⟨f',fd',ok,hm',_,_,o,hl,hd⟩:=H base hK hN
  rw [hfa] at hm'
  cases hm'
  obtain ⟨o2,hl2,hd2⟩:=F.obj
  rw [hl] at hl2
  cases hl2
  rw [hd] at hd2
  cases hd2
  exact ok
theorem walk_d {l:PySem.W.OpenLaw}{q:Program}{loose:List Str}{XP:(Str->Option Value)->Heap->Prop}{YP:World->Heap->Prop}{d:DefRec}{K:Params->PySem.W.Frag}{k:Nat}{fn:List W->List Bx->O W} (hk:Room k callerA) (hn:l.most=some 63) (hdf:d.params.defaults=[])
    (hY:∀ (w:World) (h:Heap),YP w h->(K w.params).In h) (nl:∀ w:World,noList (K w.params)=true) (hf:∀ ns:List Int,ns.length <= 63->∃ bx',fn [.s ns] []=.val (.d (.bl true)) bx')
    (F:∀ (w:World) (mg:Str->Option Value) (fa:Addr) (h:Heap),(K w.params).In h->h.Ns mainGlobals mg->mg d.name=some (.ref fa) ->
      ∃ (cl:Nat->Addr) (fd:FuncData),(∀ (s:Shared) (u:Value),BindsTo s fd ⟨[u],[]⟩ [("_law_script",u)]) /\ ∀ base:Heap,(K w.params).In base->base.Ns mainGlobals mg->FnOk l.prog w (K w.params) mg base (CXr l.prog w) k fa fd ["_law_script"] (spD cl 1 fn)) :
    PySem.W.WalkO q loose XP YP l.row.toRowW d [] (fun f vs=>PySem.call f vs):=by
  refine Att.attach_call hn hdf fun w s0 s1 mg mb fa o pm cd doc a vs ns G Y ho hd hcd hmg hobj hints hlen hg=>?_
  have KX:=hY w _ Y
  obtain ⟨cl,fd,hb,hF⟩:=F w mg fa _ KX G.T.g hmg
  exact J6 KX G.T.g G.T.b G.T.builtins G.T.nolimit hg hobj hints (Nat.le_trans hlen (by decide)) hk hF hb (fun H hO hS=>sp_law (nl w) hO hS (hf ns hlen)) fun H e s' z=>by
    obtain ⟨_,_,_,_,_,_,_,_,_,_,_,_,_,z⟩:=z
    exact z
open PySem.W in
noncomputable def chk1 (K:Frag) (R C:Addr):Bool:=excIn K C vErr "ValueError.__new__" && (findIn K (.ref C) "__getattribute__" == some (some (.builtin "BaseException.__getattribute__"))) && (findIn K (.ref C) "__getattr__" == some none) &&
  (findIn K (.ref C) "__class__" == some (some (.builtin "object.__class__"))) && (mroIn K C (.type "object") == some true) && (mroIn K C (.type "BaseException") == some true) && (clsIn K C).isSome && (kitOne K (.ref C) (.type "ValueError") == some true) && (kitCls K (.ref C) (.ref R) == some true)
open PySem.W in
noncomputable def chk2 (K:Frag) (cs:List Addr):Bool:=(List.range 17).all fun i=>(List.range 17).all fun j=>kitOne K (.ref (cs.getD i 0)) (.ref (cs.getD j 0)) == some (decide (i=j))
open PySem.W in
noncomputable def chk3 (K:Frag) (R:Addr):Bool:=(mroIn K R (.type "BaseException") == some true) && (specialIn K (.builtin "object.__class__") "__get__" == some (some (.builtin "getset_descriptor.__get__"))) && (takesIn K (.builtin "object.__class__") == some true)
theorem Mb {l:List Addr}{i:Nat} (h:i < l.length):l.getD i 0 ∈ l:=by
  rw [List.getD,List.getElem?_eq_getElem h]
  exact List.getElem_mem h
open PySem.W in
theorem Oz {K:Frag}{h:Heap}{mg:Str->Option Value}{R:Addr}{cs:List Addr} (X:K.In h) (G:h.Ns mainGlobals mg) (hl:cs.length=17) (eR:nsIn K mainGlobals "RimeError"=some (some (.ref R)))
    (e:∀ i x,exNames[i]?=some x->nsIn K mainGlobals x=some (some (.ref (cs.getD i 0)))) (zi:nsIn K mainGlobals "isinstance"=some none) (zv:nsIn K mainGlobals "ValueError"=some none)
    (h1:cs.all (chk1 K R)=true) (h2:chk2 K cs=true) (h3:chk3 K R=true):ExT K mg R (fun i=>cs.getD i 0):=by
  unfold chk3 at h3
  simp only [Bool.and_eq_true,beq_iff_eq] at h3
  obtain ⟨⟨q1,q3⟩,q4⟩:=h3
  have hc:∀ i,i < 17->chk1 K R (cs.getD i 0)=true:=fun i hi=>by
    rw [List.all_eq_true] at h1
    exact h1 _ (Mb (by rw [hl];exact hi))
  simp only [chk1,Bool.and_eq_true,beq_iff_eq] at hc
  refine ⟨fun i x hx=>mg_of X G (e i x hx),mg_of X G eR,mg_none_of X G zi,mg_none_of X G zv,fun i hi=>(hc i hi).1.1.1.1.1.1.1.1,fun i hi=>?_,fun i j hi hj=>?_,fun i hi=>(hc i hi).1.2,fun i hi=>(hc i hi).2,q1⟩
  . obtain ⟨⟨⟨⟨⟨⟨⟨⟨_,y2⟩,y3⟩,y4⟩,y5⟩,y6⟩,y7⟩,_⟩,_⟩:=hc i hi
    exact ⟨y2,y3,y4,q3,q4,y5,y6,y7⟩
  . unfold chk2 at h2
    rw [List.all_eq_true] at h2
    have z:=h2 i (List.mem_range.mpr hi)
    rw [List.all_eq_true] at z
    exact beq_iff_eq.mp (z j (List.mem_range.mpr hj))
end L2.DL
set_option Elab.async false
set_option linter.all false
set_option maxRecDepth 100000
set_option maxHeartbeats 4000000
namespace K2
open PySem PySem.Spec PyProof.Rows L2 L2.DL
noncomputable def top (i:Nat):Stmt:=PySem.Challenge.pw_rimehold_k02_outs_and_colds.main.body.getD i (.Pass ⟨0,0,0,0⟩)
noncomputable def blts:List Str:=["all", "bool", "int", "isinstance", "len", "list", "max", "min", "range", "repr", "sorted", "tuple", "zip"]
section
variable {P : Program} {w : World} {K : PySem.W.Frag} {mg : Str -> Option Value} {base : Heap} {cl : Nat -> Addr} {R : Addr}
noncomputable abbrev lY:Stmt:=top 46
theorem jX:FnScope ["_law_cell", "_law_number", "_law_j", "_law_more"] ["_law_cell"] (fq lY):=⟨rfl,rfl,rfl,by decide +kernel,rfl,by decide +kernel,by decide +kernel⟩
theorem og (bas:Bas K mg blts) (d:Def K mg "_law_pot" lY ["_law_cell"]):Has P w K mg base cl 1 "_law_pot" ["_law_cell"] K1.jy :=
  gp (k:=0) (m:=K1.lV) d jX (fun f cdv A outer s H E n F0 hr=>(@fB _ _ _ _ _ _ _ (@gR _ _ _ _ _ _ _ _ _ _ (@iq _ _ _ _ _ _ _ _ _ _ _ JY okGeI (@pdv _ _ _ 0 _ _ rfl) (@fC _ _ _ _ _ _ _ _ _ _ _ false oQ okPow (@fj _ _ _ _ _ _) (@fj _ _ _ _ _ _)) (nomark _)) (@fA _ _ _ _ _ (@fG _ _ _ _ _ _ (@gX _ _ _ _ _ _ true (@fe _ _ _ _ _ _ _ (@fC _ _ _ _ _ _ _ _ _ _ _ false jJ okSub (@pdv _ _ _ 0 _ _ rfl) (@fC _ _ _ _ _ _ _ _ _ _ _ false oQ okPow (@fj _ _ _ _ _ _) (@fj _ _ _ _ _ _))) (@fg _ _ _) rfl)))) (@gF _ _ _)) (@fB _ _ _ _ _ _ _ (@gk _ _ _ _ _ _ 1 _ _ (@fj _ _ _ _ _ _) jX.nd rfl (.inl rfl) rfl (.inr rfl)) (@fB _ _ _ _ _ _ _ (@js _ _ _ _ _ _ _ _ _ _ PassesOwn.never rfl (@iN _ _ _ _ _ _ _ _ rfl (bas.nb "range" (by decide)) (@fe _ _ _ _ _ _ _ (@fj _ _ _ _ _ _) (@fg _ _ _) rfl) rfl) (@fL _ _ _ 2 _ jX.nd rfl (.inl rfl) (.inr rfl)) (@fB _ _ _ _ _ _ _ (@gk _ _ _ _ _ _ 3 _ _ (@fC _ _ _ _ _ _ _ _ _ _ _ false CN okMod (@fC _ _ _ _ _ _ _ _ _ _ _ false lO okMul (@fC _ _ _ _ _ _ _ _ _ _ _ false fP okAdd (@fC _ _ _ _ _ _ _ _ _ _ _ false fP okAdd (@fC _ _ _ _ _ _ _ _ _ _ _ false CN okMod (@pdv _ _ _ 0 _ _ rfl) (@fj _ _ _ _ _ _)) (@fC _ _ _ _ _ _ _ _ _ _ _ false lO okMul (@fj _ _ _ _ _ _) (@pdv _ _ _ 2 _ _ rfl))) (@fj _ _ _ _ _ _)) (@fj _ _ _ _ _ _)) (@fj _ _ _ _ _ _)) jX.nd rfl (.inl rfl) rfl (.inr rfl)) (@fB _ _ _ _ _ _ _ (@gk _ _ _ _ _ _ 3 _ _ (@fC _ _ _ _ _ _ _ _ _ _ _ false CN okMod (@fC _ _ _ _ _ _ _ _ _ _ _ false fP okAdd (@fC _ _ _ _ _ _ _ _ _ _ _ false fP okAdd (@fC _ _ _ _ _ _ _ _ _ _ _ false lO okMul (@pdv _ _ _ 3 _ _ rfl) (@pdv _ _ _ 3 _ _ rfl)) (@fC _ _ _ _ _ _ _ _ _ _ _ false lO okMul (@fj _ _ _ _ _ _) (@pdv _ _ _ 2 _ _ rfl))) (@fj _ _ _ _ _ _)) (@fj _ _ _ _ _ _)) jX.nd rfl (.inl rfl) rfl (.inr rfl)) (@fA _ _ _ _ _ (@gk _ _ _ _ _ _ 1 _ _ (@fC _ _ _ _ _ _ _ _ _ _ _ false fP okAdd (@fC _ _ _ _ _ _ _ _ _ _ _ false lO okMul (@pdv _ _ _ 1 _ _ rfl) (@fj _ _ _ _ _ _)) (@pdv _ _ _ 3 _ _ rfl)) jX.nd rfl (.inl rfl) rfl (.inr rfl))))) (by intro _ ;rfl)) (@fA _ _ _ _ _ (@fG _ _ _ _ _ _ (@gX _ _ _ _ _ _ true (@fe _ _ _ _ _ _ _ (@pdv _ _ _ 1 _ _ rfl) (@fg _ _ _) rfl))))))))
noncomputable abbrev jY:Stmt:=top 47
theorem Bg:FnScope ["_law_pot_here", "_law_far_here", "_law_found"] ["_law_pot_here", "_law_far_here"] (fq jY):=⟨rfl,rfl,rfl,by decide +kernel,rfl,by decide +kernel,by decide +kernel⟩
theorem fD (bas:Bas K mg blts) (d:Def K mg "_law_take" jY ["_law_pot_here", "_law_far_here"]):Has P w K mg base cl 1 "_law_take" ["_law_pot_here", "_law_far_here"] K1.fu :=
  gp (k:=0) (m:=K1.Aw) d Bg (fun f cdv A outer s H E n F0 hr=>(@fB _ _ _ _ _ _ _ (@gk _ _ _ _ _ _ 2 _ _ (@fC _ _ _ _ _ _ _ _ _ _ _ false CN okMod (@gz _ _ _ _ _ _ _ _ _ _ gb okIx (@pdv _ _ _ 0 _ _ rfl) (@fj _ _ _ _ _ _) (fun _ _=>rfl)) (@pdv _ _ _ 1 _ _ rfl)) Bg.nd rfl (.inl rfl) rfl (.inr rfl)) (@fB _ _ _ _ _ _ _ (@CY _ _ _ _ _ _ _ _ (@fC _ _ _ _ _ _ _ _ _ _ _ false CM okFdiv (@gz _ _ _ _ _ _ _ _ _ _ gb okIx (@pdv _ _ _ 0 _ _ rfl) (@fj _ _ _ _ _ _) (fun _ _=>rfl)) (@pdv _ _ _ 1 _ _ rfl)) (@MJ _ _ (⟨E0,cl⟩) _ _ _ _ _ (@pdv _ _ _ 0 _ _ rfl) (@fj _ _ _ _ _ _) (by intro _ ;rfl)) rfl rfl rfl) (@fA _ _ _ _ _ (@fG _ _ _ _ _ _ (@pdv _ _ _ 2 _ _ rfl))))))
noncomputable abbrev ip:Stmt:=top 52
theorem mF:FnScope ["_law_pot_here", "_law_top", "_law_rates"] ["_law_pot_here"] (fq ip):=⟨rfl,rfl,rfl,by decide +kernel,rfl,by decide +kernel,by decide +kernel⟩
theorem jq (bas:Bas K mg blts) (d:Def K mg "_law_kind_of" ip ["_law_pot_here"]) (fD:Has P w K mg base cl 1 "_law_take" ["_law_pot_here", "_law_far_here"] K1.fu):Has P w K mg base cl 2 "_law_kind_of" ["_law_pot_here"] K1.iD :=
  gp (k:=1) (m:=K1.mV) d mF (fun f cdv A outer s H E n F0 hr=>(@fB _ _ _ _ _ _ _ (@gk _ _ _ _ _ _ 1 _ _ (@gz _ _ _ _ _ _ _ _ _ _ gb okIx (@gX _ _ _ _ _ _ false (@fe _ _ _ _ _ _ _ (@fj _ _ _ _ _ _) (@fe _ _ _ _ _ _ _ (@fj _ _ _ _ _ _) (@fe _ _ _ _ _ _ _ (@fj _ _ _ _ _ _) (@fe _ _ _ _ _ _ _ (@fj _ _ _ _ _ _) (@fg _ _ _) rfl) rfl) rfl) rfl)) (@fI _ _ _ _ _ _ _ _ _ _ _ _ _ _ fD hr (by omega) rfl (@fz _) (@fe _ _ _ _ _ _ _ (@pdv _ _ _ 0 _ _ rfl) (@fe _ _ _ _ _ _ _ (@fj _ _ _ _ _ _) (@fg _ _ _) rfl) rfl) rfl rfl (by decide)) (fun _ _=>rfl)) mF.nd rfl (.inr rfl) rfl (.inl rfl)) (@fB _ _ _ _ _ _ _ (@gk _ _ _ _ _ _ 2 _ _ (@N4 _ _ _ _ _ _ _ _ _ _ false (@iB _ _ _ _ _ _ _ _ _ _ _ _ false BM okSortA rfl (bas.nb "sorted" (by decide)) (by decide +kernel) (@fe _ _ _ _ _ _ _ (@iu _ _ _ (["_law_cold_here", "_law_pot_here", "_law_top"]) _ _ _ _ _ _ _ _ _ _ _ false rfl (gw (XN:=["_law_pot_here", "_law_top", "_law_rates"]) (sc:=fq ip) (fun _=>rfl) rfl (by decide +kernel)) (@iN _ _ _ _ _ _ _ _ rfl (bas.nb "range" (by decide)) (@fe _ _ _ _ _ _ _ (@fj _ _ _ _ _ _) (@fg _ _ _) rfl) rfl) (fun _ _ _ _ _ _=>(@fL _ _ _ 0 _ (show (["_law_cold_here", "_law_pot_here", "_law_top"]:List Str).Nodup by decide +kernel) rfl (.inl rfl) (.inr rfl))) (fun _ _ _ _ _ _=>(@iM _ _ _)) (fun _ _ _ _ _ _=>(@fI _ _ _ _ _ _ _ _ _ _ _ _ _ _ fD hr (by omega) rfl (@fz _) (@fe _ _ _ _ _ _ _ (@pdv _ _ _ 1 _ _ rfl) (@fe _ _ _ _ _ _ _ (@fC _ _ _ _ _ _ _ _ _ _ _ false fP okAdd (@pdv _ _ _ 2 _ _ rfl) (@fj _ _ _ _ _ _)) (@fg _ _ _) rfl) rfl) rfl rfl (by decide))) (by intro _ ;rfl)) (@fg _ _ _) rfl) rfl (by decide) (by decide))) mF.nd rfl (.inl rfl) rfl (.inr rfl)) (@fA _ _ _ _ _ (@fG _ _ _ _ _ _ (@fU _ _ _ _ _ _ _ (@fe _ _ _ _ _ _ _ (@gz _ _ _ _ _ _ _ _ _ _ gb okIx (@gX _ _ _ _ _ _ false (@fe _ _ _ _ _ _ _ (@fj _ _ _ _ _ _) (@fe _ _ _ _ _ _ _ (@fC _ _ _ _ _ _ _ _ _ _ _ false fP okAdd (@fj _ _ _ _ _ _) (@fI _ _ _ _ _ _ _ _ _ _ _ _ _ _ fD hr (by omega) rfl (@fz _) (@fe _ _ _ _ _ _ _ (@pdv _ _ _ 0 _ _ rfl) (@fe _ _ _ _ _ _ _ (@fj _ _ _ _ _ _) (@fg _ _ _) rfl) rfl) rfl rfl (by decide))) (@fe _ _ _ _ _ _ _ (@fj _ _ _ _ _ _) (@fe _ _ _ _ _ _ _ (@fj _ _ _ _ _ _) (@fg _ _ _) rfl) rfl) rfl) rfl)) (@fI _ _ _ _ _ _ _ _ _ _ _ _ _ _ fD hr (by omega) rfl (@fz _) (@fe _ _ _ _ _ _ _ (@pdv _ _ _ 0 _ _ rfl) (@fe _ _ _ _ _ _ _ (@fj _ _ _ _ _ _) (@fg _ _ _) rfl) rfl) rfl rfl (by decide)) (fun _ _=>rfl)) (@fe _ _ _ _ _ _ _ (@oA _ _ _ _ _ _ _ _ _ _ _ _ false il okTuple rfl (bas.nb "tuple" (by decide)) (by decide +kernel) (@fe _ _ _ _ _ _ _ (@pdv _ _ _ 2 _ _ rfl) (@fg _ _ _) rfl) rfl (by decide) (by decide)) (@fg _ _ _) rfl) rfl)))))))
noncomputable abbrev ik:Stmt:=top 53
theorem jl:FnScope ["_law_pot_here", "_law_rooms", "_law_kinds", "_law_pairs", "_law_other"] ["_law_pot_here"] (fq ik):=⟨rfl,rfl,rfl,by decide +kernel,rfl,by decide +kernel,by decide +kernel⟩
theorem lC (bas:Bas K mg blts) (d:Def K mg "_law_house" ik ["_law_pot_here"]) (fD:Has P w K mg base cl 1 "_law_take" ["_law_pot_here", "_law_far_here"] K1.fu) (jq:Has P w K mg base cl 2 "_law_kind_of" ["_law_pot_here"] K1.iD):Has P w K mg base cl 3 "_law_house" ["_law_pot_here"] K1.iP :=
  gp (k:=2) (m:=K1.mL) d jl (fun f cdv A outer s H E n F0 hr=>(@fB _ _ _ _ _ _ _ (@gk _ _ _ _ _ _ 1 _ _ (@oA _ _ _ _ _ _ _ _ _ _ _ _ false il okTuple rfl (bas.nb "tuple" (by decide)) (by decide +kernel) (@fe _ _ _ _ _ _ _ (@iu _ _ _ (["_law_room", "_law_pot_here"]) _ _ _ _ _ _ _ _ _ _ _ false rfl (gw (XN:=["_law_pot_here", "_law_rooms", "_law_kinds", "_law_pairs", "_law_other"]) (sc:=fq ik) (fun _=>rfl) rfl (by decide +kernel)) (@iN _ _ _ _ _ _ _ _ rfl (bas.nb "range" (by decide)) (@fe _ _ _ _ _ _ _ (@fC _ _ _ _ _ _ _ _ _ _ _ false fP okAdd (@fj _ _ _ _ _ _) (@fI _ _ _ _ _ _ _ _ _ _ _ _ _ _ fD hr (by omega) rfl (@fz _) (@fe _ _ _ _ _ _ _ (@pdv _ _ _ 0 _ _ rfl) (@fe _ _ _ _ _ _ _ (@fj _ _ _ _ _ _) (@fg _ _ _) rfl) rfl) rfl rfl (by decide))) (@fg _ _ _) rfl) rfl) (fun _ _ _ _ _ _=>(@fL _ _ _ 0 _ (show (["_law_room", "_law_pot_here"]:List Str).Nodup by decide +kernel) rfl (.inl rfl) (.inr rfl))) (fun _ _ _ _ _ _=>(@iM _ _ _)) (fun _ _ _ _ _ _=>(@fI _ _ _ _ _ _ _ _ _ _ _ _ _ _ fD hr (by omega) rfl (@fz _) (@fe _ _ _ _ _ _ _ (@pdv _ _ _ 1 _ _ rfl) (@fe _ _ _ _ _ _ _ (@fj _ _ _ _ _ _) (@fg _ _ _) rfl) rfl) rfl rfl (by decide))) (by intro _ ;rfl)) (@fg _ _ _) rfl) rfl (by decide) (by decide)) jl.nd rfl (.inl rfl) rfl (.inr rfl)) (@fB _ _ _ _ _ _ _ (@gk _ _ _ _ _ _ 2 _ _ (@oA _ _ _ _ _ _ _ _ _ _ _ _ false il okTuple rfl (bas.nb "tuple" (by decide)) (by decide +kernel) (@fe _ _ _ _ _ _ _ (@iu _ _ _ (["_law_kind", "_law_pot_here"]) _ _ _ _ _ _ _ _ _ _ _ false rfl (gw (XN:=["_law_pot_here", "_law_rooms", "_law_kinds", "_law_pairs", "_law_other"]) (sc:=fq ik) (fun _=>rfl) rfl (by decide +kernel)) (@iN _ _ _ _ _ _ _ _ rfl (bas.nb "range" (by decide)) (@fe _ _ _ _ _ _ _ (@fC _ _ _ _ _ _ _ _ _ _ _ false fP okAdd (@fj _ _ _ _ _ _) (@fI _ _ _ _ _ _ _ _ _ _ _ _ _ _ fD hr (by omega) rfl (@fz _) (@fe _ _ _ _ _ _ _ (@pdv _ _ _ 0 _ _ rfl) (@fe _ _ _ _ _ _ _ (@fj _ _ _ _ _ _) (@fg _ _ _) rfl) rfl) rfl rfl (by decide))) (@fg _ _ _) rfl) rfl) (fun _ _ _ _ _ _=>(@fL _ _ _ 0 _ (show (["_law_kind", "_law_pot_here"]:List Str).Nodup by decide +kernel) rfl (.inl rfl) (.inr rfl))) (fun _ _ _ _ _ _=>(@iM _ _ _)) (fun _ _ _ _ _ _=>(@fI _ _ _ _ _ _ _ _ _ _ _ _ _ _ jq hr (by omega) rfl (@fz _) (@fe _ _ _ _ _ _ _ (@pdv _ _ _ 1 _ _ rfl) (@fg _ _ _) rfl) rfl rfl (by decide))) (by intro _ ;rfl)) (@fg _ _ _) rfl) rfl (by decide) (by decide)) jl.nd rfl (.inl rfl) rfl (.inr rfl)) (@fB _ _ _ _ _ _ _ (@gk _ _ _ _ _ _ 3 _ _ (@gX _ _ _ _ _ _ false (@fg _ _ _)) jl.nd rfl (.inl rfl) rfl (.inr rfl)) (@fB _ _ _ _ _ _ _ (@js _ _ _ _ _ _ _ _ _ _ PassesOwn.never rfl (@iN _ _ _ _ _ _ _ _ rfl (bas.nb "range" (by decide)) (@fe _ _ _ _ _ _ _ (@iB _ _ _ _ _ _ _ _ _ _ _ _ false gE okLen rfl (bas.nb "len" (by decide)) (by decide +kernel) (@fe _ _ _ _ _ _ _ (@pdv _ _ _ 2 _ _ rfl) (@fg _ _ _) rfl) rfl (by decide) (by decide)) (@fg _ _ _) rfl) rfl) (@fL _ _ _ 4 _ jl.nd rfl (.inr rfl) (.inl rfl)) (@fA _ _ _ _ _ (@gk _ _ _ _ _ _ 3 _ _ (@fC _ _ _ _ _ _ _ _ _ _ _ false fP okAdd (@pdv _ _ _ 3 _ _ rfl) (@iu _ _ _ (["_law_kind", "_law_other", "_law_pot_here"]) _ _ _ _ _ _ _ _ _ _ _ false rfl (gw (XN:=["_law_pot_here", "_law_rooms", "_law_kinds", "_law_pairs", "_law_other"]) (sc:=fq ik) (fun _=>rfl) rfl (by decide +kernel)) (@iN _ _ _ _ _ _ _ _ rfl (bas.nb "range" (by decide)) (@fe _ _ _ _ _ _ _ (@pdv _ _ _ 4 _ _ rfl) (@fg _ _ _) rfl) rfl) (fun _ _ _ _ _ _=>(@fL _ _ _ 0 _ (show (["_law_kind", "_law_other", "_law_pot_here"]:List Str).Nodup by decide +kernel) rfl (.inl rfl) (.inr rfl))) (fun _ _ _ _ _ _=>MC (@iq _ _ _ _ _ _ _ _ _ _ _ (BE hr.units0) okEq (@fI _ _ _ _ _ _ _ _ _ _ _ _ _ _ fD hr (by omega) rfl (@fz _) (@fe _ _ _ _ _ _ _ (@pdv _ _ _ 2 _ _ rfl) (@fe _ _ _ _ _ _ _ (@fj _ _ _ _ _ _) (@fg _ _ _) rfl) rfl) rfl rfl (by decide)) (@fj _ _ _ _ _ _) (nomark _))) (fun _ _ _ _ _ _=>(@fU _ _ _ _ _ _ _ (@fe _ _ _ _ _ _ _ (@pdv _ _ _ 0 _ _ rfl) (@fe _ _ _ _ _ _ _ (@pdv _ _ _ 1 _ _ rfl) (@fg _ _ _) rfl) rfl))) (by intro _ ;rfl))) jl.nd rfl (.inl rfl) rfl (.inr rfl))) (by intro _ ;rfl)) (@fA _ _ _ _ _ (@fG _ _ _ _ _ _ (@fU _ _ _ _ _ _ _ (@fe _ _ _ _ _ _ _ (@pdv _ _ _ 1 _ _ rfl) (@fe _ _ _ _ _ _ _ (@pdv _ _ _ 2 _ _ rfl) (@fe _ _ _ _ _ _ _ (@oA _ _ _ _ _ _ _ _ _ _ _ _ false il okTuple rfl (bas.nb "tuple" (by decide)) (by decide +kernel) (@fe _ _ _ _ _ _ _ (@iB _ _ _ _ _ _ _ _ _ _ _ _ false BM okSortA rfl (bas.nb "sorted" (by decide)) (by decide +kernel) (@fe _ _ _ _ _ _ _ (@pdv _ _ _ 3 _ _ rfl) (@fg _ _ _) rfl) rfl (by decide) (by decide)) (@fg _ _ _) rfl) rfl (by decide) (by decide)) (@fe _ _ _ _ _ _ _ (@gz _ _ _ _ _ _ _ _ _ _ gb okIx (@gX _ _ _ _ _ _ false (@fe _ _ _ _ _ _ _ (@fj _ _ _ _ _ _) (@fe _ _ _ _ _ _ _ (@fj _ _ _ _ _ _) (@fe _ _ _ _ _ _ _ (@fj _ _ _ _ _ _) (@fe _ _ _ _ _ _ _ (@fC _ _ _ _ _ _ _ _ _ _ _ false fP okAdd (@fj _ _ _ _ _ _) (@fI _ _ _ _ _ _ _ _ _ _ _ _ _ _ fD hr (by omega) rfl (@fz _) (@fe _ _ _ _ _ _ _ (@pdv _ _ _ 0 _ _ rfl) (@fe _ _ _ _ _ _ _ (@fj _ _ _ _ _ _) (@fg _ _ _) rfl) rfl) rfl rfl (by decide))) (@fg _ _ _) rfl) rfl) rfl) rfl)) (@fI _ _ _ _ _ _ _ _ _ _ _ _ _ _ fD hr (by omega) rfl (@fz _) (@fe _ _ _ _ _ _ _ (@pdv _ _ _ 0 _ _ rfl) (@fe _ _ _ _ _ _ _ (@fj _ _ _ _ _ _) (@fg _ _ _) rfl) rfl) rfl rfl (by decide)) (fun _ _=>rfl)) (@fg _ _ _) rfl) rfl) rfl) rfl)))))))))
noncomputable abbrev jE:Stmt:=top 55
theorem AA:FnScope ["_law_pot_here", "_law_outs_here", "_law_pages", "_law_by", "_law_later"] ["_law_pot_here", "_law_outs_here", "_law_pages"] (fq jE):=⟨rfl,rfl,rfl,by decide +kernel,rfl,by decide +kernel,by decide +kernel⟩
theorem oh (bas:Bas K mg blts) (d:Def K mg "_law_far" jE ["_law_pot_here", "_law_outs_here", "_law_pages"]) (fD:Has P w K mg base cl 1 "_law_take" ["_law_pot_here", "_law_far_here"] K1.fu):Has P w K mg base cl 2 "_law_far" ["_law_pot_here", "_law_outs_here", "_law_pages"] K2.jz :=
  gp (k:=1) (m:=K2.Ai) d AA (fun f cdv A outer s H E n F0 hr=>(@fB _ _ _ _ _ _ _ (@gk _ _ _ _ _ _ 3 _ _ (@gz _ _ _ _ _ _ _ _ _ _ gb okIx (@gX _ _ _ _ _ _ false (@fe _ _ _ _ _ _ _ (@fj _ _ _ _ _ _) (@fe _ _ _ _ _ _ _ (@fj _ _ _ _ _ _) (@fe _ _ _ _ _ _ _ (@fC _ _ _ _ _ _ _ _ _ _ _ false oQ okPow (@fj _ _ _ _ _ _) (@fj _ _ _ _ _ _)) (@fe _ _ _ _ _ _ _ (@fC _ _ _ _ _ _ _ _ _ _ _ false oQ okPow (@fj _ _ _ _ _ _) (@fj _ _ _ _ _ _)) (@fg _ _ _) rfl) rfl) rfl) rfl)) (@fI _ _ _ _ _ _ _ _ _ _ _ _ _ _ fD hr (by omega) rfl (@fz _) (@fe _ _ _ _ _ _ _ (@pdv _ _ _ 0 _ _ rfl) (@fe _ _ _ _ _ _ _ (@fj _ _ _ _ _ _) (@fg _ _ _) rfl) rfl) rfl rfl (by decide)) (fun _ _=>rfl)) AA.nd rfl (.inr rfl) rfl (.inl rfl)) (@fB _ _ _ _ _ _ _ (@gk _ _ _ _ _ _ 4 _ _ (@oA _ _ _ _ _ _ _ _ _ _ _ _ false il okTuple rfl (bas.nb "tuple" (by decide)) (by decide +kernel) (@fe _ _ _ _ _ _ _ (@iu _ _ _ (["_law_begin", "_law_end", "_law_by"]) _ _ _ _ _ _ _ _ _ _ _ false rfl (gw (XN:=["_law_pot_here", "_law_outs_here", "_law_pages", "_law_by", "_law_later"]) (sc:=fq jE) (fun _=>rfl) rfl (by decide +kernel)) (@iy _ _ _ _ _ _ (@pdv _ _ _ 1 _ _ rfl)) (fun _ _ _ _ _ _=>(@Bc _ _ _ _ _ _ _ rfl (@iO _ _ _ _ _ _ (@fL _ _ _ 0 _ (show (["_law_begin", "_law_end", "_law_by"]:List Str).Nodup by decide +kernel) rfl (.inl rfl) (.inr rfl)) (@iO _ _ _ _ _ _ (@fL _ _ _ 1 _ (show (["_law_begin", "_law_end", "_law_by"]:List Str).Nodup by decide +kernel) rfl (.inl rfl) (.inr rfl)) (@lv _ _) rfl) rfl) rfl rfl)) (fun _ _ _ _ _ _=>(@iM _ _ _)) (fun _ _ _ _ _ _=>(@fU _ _ _ _ _ _ _ (@fe _ _ _ _ _ _ _ (@fC _ _ _ _ _ _ _ _ _ _ _ false fP okAdd (@pdv _ _ _ 0 _ _ rfl) (@pdv _ _ _ 2 _ _ rfl)) (@fe _ _ _ _ _ _ _ (@fC _ _ _ _ _ _ _ _ _ _ _ false fP okAdd (@pdv _ _ _ 1 _ _ rfl) (@pdv _ _ _ 2 _ _ rfl)) (@fg _ _ _) rfl) rfl))) (by intro _ ;rfl)) (@fg _ _ _) rfl) rfl (by decide) (by decide)) AA.nd rfl (.inl rfl) rfl (.inr rfl)) (@fA _ _ _ _ _ (@fG _ _ _ _ _ _ (@fU _ _ _ _ _ _ _ (@fe _ _ _ _ _ _ _ (@pdv _ _ _ 4 _ _ rfl) (@fe _ _ _ _ _ _ _ (@iu _ _ _ (["_law_page", "_law_by"]) _ _ _ _ _ _ _ _ _ _ _ false rfl (gw (XN:=["_law_pot_here", "_law_outs_here", "_law_pages", "_law_by", "_law_later"]) (sc:=fq jE) (fun _=>rfl) rfl (by decide +kernel)) (@iy _ _ _ _ _ _ (@pdv _ _ _ 2 _ _ rfl)) (fun _ _ _ _ _ _=>(@fL _ _ _ 0 _ (show (["_law_page", "_law_by"]:List Str).Nodup by decide +kernel) rfl (.inl rfl) (.inr rfl))) (fun _ _ _ _ _ _=>(@iM _ _ _)) (fun _ _ _ _ _ _=>(@fC _ _ _ _ _ _ _ _ _ _ _ false fP okAdd (@fU _ _ _ _ _ _ _ (@fe _ _ _ _ _ _ _ (@fC _ _ _ _ _ _ _ _ _ _ _ false fP okAdd (@gz _ _ _ _ _ _ _ _ _ _ gb okIx (@pdv _ _ _ 0 _ _ rfl) (@fj _ _ _ _ _ _) (fun _ _=>rfl)) (@pdv _ _ _ 1 _ _ rfl)) (@fg _ _ _) rfl)) (@iT _ _ _ _ _ _ _ _ _ _ _ false (@pdv _ _ _ 0 _ _ rfl) (@iz _ _ _ _ _ (@fj _ _ _ _ _ _)) (@mt _ _ _)))) (by intro _ ;rfl)) (@fe _ _ _ _ _ _ _ (@pdv _ _ _ 3 _ _ rfl) (@fg _ _ _) rfl) rfl) rfl)))))))
noncomputable abbrev lZ:Stmt:=top 50
theorem B9:FnScope ["_law_pot_here", "_law_some"] ["_law_pot_here"] (fq lZ):=⟨rfl,rfl,rfl,by decide +kernel,rfl,by decide +kernel,by decide +kernel⟩
theorem iE (bas:Bas K mg blts) (d:Def K mg "_law_odd" lZ ["_law_pot_here"]) (fD:Has P w K mg base cl 1 "_law_take" ["_law_pot_here", "_law_far_here"] K1.fu):Has P w K mg base cl 2 "_law_odd" ["_law_pot_here"] K1.gf :=
  gp (k:=1) (m:=K1.AZ) d B9 (fun f cdv A outer s H E n F0 hr=>(@fB _ _ _ _ _ _ _ (@gk _ _ _ _ _ _ 1 _ _ (@gX _ _ _ _ _ _ false (@fe _ _ _ _ _ _ _ (@FO _ _ _ _ _) (@fe _ _ _ _ _ _ _ (@jK _ _ _ _ _ _) (@fe _ _ _ _ _ _ _ (@jK _ _ _ _ _ _) (@fe _ _ _ _ _ _ _ (@oy _ _ _ _ _ _ (@fj _ _ _ _ _ _)) (@fe _ _ _ _ _ _ _ (@fC _ _ _ _ _ _ _ _ _ _ _ false oQ okPow (@fj _ _ _ _ _ _) (@fj _ _ _ _ _ _)) (@fe _ _ _ _ _ _ _ (@lM _ _ _ _ _ _) (@fe _ _ _ _ _ _ _ (@lM _ _ _ _ _ _) (@fe _ _ _ _ _ _ _ (@lM _ _ _ _ _ _) (@fe _ _ _ _ _ _ _ (@fU _ _ _ _ _ _ _ (@fg _ _ _)) (@fe _ _ _ _ _ _ _ (@gX _ _ _ _ _ _ false (@fg _ _ _)) (@fe _ _ _ _ _ _ _ (@MK _ _ _ _ false) (@fe _ _ _ _ _ _ _ (@gX _ _ _ _ _ _ false (@fe _ _ _ _ _ _ _ (@fU _ _ _ _ _ _ _ (@fg _ _ _)) (@fg _ _ _) rfl)) (@fe _ _ _ _ _ _ _ (@fU _ _ _ _ _ _ _ (@fe _ _ _ _ _ _ _ (@fU _ _ _ _ _ _ _ (@fg _ _ _)) (@fg _ _ _) rfl)) (@fe _ _ _ _ _ _ _ (@fU _ _ _ _ _ _ _ (@fe _ _ _ _ _ _ _ (@fj _ _ _ _ _ _) (@fg _ _ _) rfl)) (@fe _ _ _ _ _ _ _ (@gX _ _ _ _ _ _ false (@fe _ _ _ _ _ _ _ (@fj _ _ _ _ _ _) (@fg _ _ _) rfl)) (@fe _ _ _ _ _ _ _ (@ML _ _ _ _ false _ _ _ _ _ _) (@fe _ _ _ _ _ _ _ (@fU _ _ _ _ _ _ _ (@fe _ _ _ _ _ _ _ (@jK _ _ _ _ _ _) (@fe _ _ _ _ _ _ _ (@jK _ _ _ _ _ _) (@fg _ _ _) rfl) rfl)) (@fg _ _ _) rfl) rfl) rfl) rfl) rfl) rfl) rfl) rfl) rfl) rfl) rfl) rfl) rfl) rfl) rfl) rfl) rfl)) B9.nd rfl (.inl rfl) rfl (.inr rfl)) (@fA _ _ _ _ _ (@fG _ _ _ _ _ _ (@gz _ _ _ _ _ _ _ _ _ _ gb okIx (@pdv _ _ _ 1 _ _ rfl) (@fI _ _ _ _ _ _ _ _ _ _ _ _ _ _ fD hr (by omega) rfl (@fz _) (@fe _ _ _ _ _ _ _ (@pdv _ _ _ 0 _ _ rfl) (@fe _ _ _ _ _ _ _ (@iB _ _ _ _ _ _ _ _ _ _ _ _ false gE okLen rfl (bas.nb "len" (by decide)) (by decide +kernel) (@fe _ _ _ _ _ _ _ (@pdv _ _ _ 1 _ _ rfl) (@fg _ _ _) rfl) rfl (by decide) (by decide)) (@fg _ _ _) rfl) rfl) rfl rfl (by decide)) (fun _ _=>rfl))))))
noncomputable abbrev jF:Stmt:=top 48
theorem Do:FnScope ["_law_thing"] ["_law_thing"] (fq jF):=⟨rfl,rfl,rfl,by decide +kernel,rfl,by decide +kernel,by decide +kernel⟩
theorem gM (bas:Bas K mg blts) (d:Def K mg "_law_whole" jF ["_law_thing"]):Has P w K mg base cl 1 "_law_whole" ["_law_thing"] K1.gL :=
  gp (k:=0) (m:=K1.oX) d Do (fun f cdv A outer s H E n F0 hr=>(@fA _ _ _ _ _ (@fG _ _ _ _ _ _ (@im _ _ _ _ _ _ _ _ _ (@AJ _ _ _ _ _ _ _ _ _ _ bas.ti rfl (bas.nb "isinstance" (by decide)) rfl (bas.nb "int" (by decide)) (by decide +kernel) (@pdv _ _ _ 0 _ _ rfl) rfl (by decide) (by decide)) (@jx _ _ _ _ _ _ _ (@Lj _ _ _ _ _ _ (@AJ _ _ _ _ _ _ _ _ _ _ bas.tb rfl (bas.nb "isinstance" (by decide)) rfl (bas.nb "bool" (by decide)) (by decide +kernel) (@pdv _ _ _ 0 _ _ rfl) rfl (by decide) (by decide))))))))
noncomputable abbrev jZ:Stmt:=top 51
theorem o9:FnScope ["_law_pot_here", "_law_thing", "_law_way", "_law_at"] ["_law_pot_here", "_law_thing"] (fq jZ):=⟨rfl,rfl,rfl,by decide +kernel,rfl,by decide +kernel,by decide +kernel⟩
theorem i9 (bas:Bas K mg blts) (d:Def K mg "_law_bent" jZ ["_law_pot_here", "_law_thing"]) (fD:Has P w K mg base cl 1 "_law_take" ["_law_pot_here", "_law_far_here"] K1.fu) (iE:Has P w K mg base cl 2 "_law_odd" ["_law_pot_here"] K1.gf) (gM:Has P w K mg base cl 1 "_law_whole" ["_law_thing"] K1.gL):∀ i,Has P w K mg base cl (3 + i) "_law_bent" ["_law_pot_here", "_law_thing"] (K1.gh i)
  | 0=>MM d
  | i + 1=>by
    have hrec:=i9 bas d fD iE gM i
    exact gp (k:=3 + i) (m:=K1.ie (K1.gh i)) d o9 (fun f cdv A outer s H E n F0 hr=>(@fB _ _ _ _ _ _ _ (@gR _ _ _ _ _ _ _ _ _ _ (@ir _ _ _ _ _ _ (@ig _ _ _ _ _ (@AJ _ _ _ _ _ _ _ _ _ _ bas.tt rfl (bas.nb "isinstance" (by decide)) rfl (bas.nb "tuple" (by decide)) (by decide +kernel) (@pdv _ _ _ 1 _ _ rfl) rfl (by decide) (by decide)) (by intro _ ;rfl))) (@fB _ _ _ _ _ _ _ (@gR _ _ _ _ _ _ _ _ _ _ (@BD _ _ _ _ _ (@Mz _ _ _ _ _ _ _ _ _ (@ig _ _ _ _ _ (@fI _ _ _ _ _ _ _ _ _ _ _ _ _ _ gM hr (by omega) rfl (@fz _) (@fe _ _ _ _ _ _ _ (@pdv _ _ _ 1 _ _ rfl) (@fg _ _ _) rfl) rfl rfl (by decide)) (by intro _ ;rfl)) (@Li _ _ _ _ _ _ (@iq _ _ _ _ _ _ _ _ _ _ _ Nc okGtI (@fI _ _ _ _ _ _ _ _ _ _ _ _ _ _ fD hr (by omega) rfl (@fz _) (@fe _ _ _ _ _ _ _ (@pdv _ _ _ 0 _ _ rfl) (@fe _ _ _ _ _ _ _ (@fj _ _ _ _ _ _) (@fg _ _ _) rfl) rfl) rfl rfl (by decide)) (@fj _ _ _ _ _ _) (nomark _))))) (@fA _ _ _ _ _ (@fG _ _ _ _ _ _ (@fC _ _ _ _ _ _ _ _ _ _ _ false fP okAdd (@pdv _ _ _ 1 _ _ rfl) (@gz _ _ _ _ _ _ _ _ _ _ gb okIx (@gX _ _ _ _ _ _ false (@fe _ _ _ _ _ _ _ (@fj _ _ _ _ _ _) (@fe _ _ _ _ _ _ _ (@oy _ _ _ _ _ _ (@fj _ _ _ _ _ _)) (@fe _ _ _ _ _ _ _ (@fj _ _ _ _ _ _) (@fe _ _ _ _ _ _ _ (@fj _ _ _ _ _ _) (@fe _ _ _ _ _ _ _ (@fj _ _ _ _ _ _) (@fe _ _ _ _ _ _ _ (@oy _ _ _ _ _ _ (@fC _ _ _ _ _ _ _ _ _ _ _ false oQ okPow (@fj _ _ _ _ _ _) (@fj _ _ _ _ _ _))) (@fg _ _ _) rfl) rfl) rfl) rfl) rfl) rfl)) (@fI _ _ _ _ _ _ _ _ _ _ _ _ _ _ fD hr (by omega) rfl (@fz _) (@fe _ _ _ _ _ _ _ (@pdv _ _ _ 0 _ _ rfl) (@fe _ _ _ _ _ _ _ (@fj _ _ _ _ _ _) (@fg _ _ _) rfl) rfl) rfl rfl (by decide)) (fun _ _=>rfl))))) (@gF _ _ _)) (@fA _ _ _ _ _ (@fG _ _ _ _ _ _ (@fI _ _ _ _ _ _ _ _ _ _ _ _ _ _ iE hr (by omega) rfl (@fz _) (@fe _ _ _ _ _ _ _ (@pdv _ _ _ 0 _ _ rfl) (@fg _ _ _) rfl) rfl rfl (by decide))))) (@gF _ _ _)) (@fB _ _ _ _ _ _ _ (@gk _ _ _ _ _ _ 2 _ _ (@fI _ _ _ _ _ _ _ _ _ _ _ _ _ _ fD hr (by omega) rfl (@fz _) (@fe _ _ _ _ _ _ _ (@pdv _ _ _ 0 _ _ rfl) (@fe _ _ _ _ _ _ _ (@fj _ _ _ _ _ _) (@fg _ _ _) rfl) rfl) rfl rfl (by decide)) o9.nd rfl (.inl rfl) rfl (.inr rfl)) (@fB _ _ _ _ _ _ _ (@gR _ _ _ _ _ _ _ _ _ _ (@BD _ _ _ _ _ (@oT _ _ _ _ _ _ _ _ _ (@iq _ _ _ _ _ _ _ _ _ _ _ (BE hr.units0) okEq (@pdv _ _ _ 2 _ _ rfl) (@fj _ _ _ _ _ _) (nomark _)) (@Ad _ _ _ _ _ _ (@iq _ _ _ _ _ _ _ _ _ _ _ (BE hr.units0) okEq (@pdv _ _ _ 1 _ _ rfl) (@fU _ _ _ _ _ _ _ (@fg _ _ _)) (nomark _))))) (@fA _ _ _ _ _ (@fG _ _ _ _ _ _ (@gz _ _ _ _ _ _ _ _ _ _ gb okIx (@gX _ _ _ _ _ _ false (@fe _ _ _ _ _ _ _ (@fI _ _ _ _ _ _ _ _ _ _ _ _ _ _ iE hr (by omega) rfl (@fz _) (@fe _ _ _ _ _ _ _ (@pdv _ _ _ 0 _ _ rfl) (@fg _ _ _) rfl) rfl rfl (by decide)) (@fe _ _ _ _ _ _ _ (@oA _ _ _ _ _ _ _ _ _ _ _ _ false AC okList rfl (bas.nb "list" (by decide)) (by decide +kernel) (@fe _ _ _ _ _ _ _ (@pdv _ _ _ 1 _ _ rfl) (@fg _ _ _) rfl) rfl (by decide) (by decide)) (@fe _ _ _ _ _ _ _ (@fC _ _ _ _ _ _ _ _ _ _ _ false fP okAdd (@pdv _ _ _ 1 _ _ rfl) (@fU _ _ _ _ _ _ _ (@fe _ _ _ _ _ _ _ (@fI _ _ _ _ _ _ _ _ _ _ _ _ _ _ iE hr (by omega) rfl (@fz _) (@fe _ _ _ _ _ _ _ (@pdv _ _ _ 0 _ _ rfl) (@fg _ _ _) rfl) rfl rfl (by decide)) (@fg _ _ _) rfl))) (@fe _ _ _ _ _ _ _ (@fC _ _ _ _ _ _ _ _ _ _ _ false fP okAdd (@pdv _ _ _ 1 _ _ rfl) (@iT _ _ _ _ _ _ _ _ _ _ _ false (@pdv _ _ _ 1 _ _ rfl) (@iz _ _ _ _ _ (@oy _ _ _ _ _ _ (@fj _ _ _ _ _ _))) (@mt _ _ _))) (@fg _ _ _) rfl) rfl) rfl) rfl)) (@fI _ _ _ _ _ _ _ _ _ _ _ _ _ _ fD hr (by omega) rfl (@fz _) (@fe _ _ _ _ _ _ _ (@pdv _ _ _ 0 _ _ rfl) (@fe _ _ _ _ _ _ _ (@fj _ _ _ _ _ _) (@fg _ _ _) rfl) rfl) rfl rfl (by decide)) (fun _ _=>rfl)))) (@gF _ _ _)) (@fB _ _ _ _ _ _ _ (@gk _ _ _ _ _ _ 3 _ _ (@fI _ _ _ _ _ _ _ _ _ _ _ _ _ _ fD hr (by omega) rfl (@fz _) (@fe _ _ _ _ _ _ _ (@pdv _ _ _ 0 _ _ rfl) (@fe _ _ _ _ _ _ _ (@iB _ _ _ _ _ _ _ _ _ _ _ _ false gE okLen rfl (bas.nb "len" (by decide)) (by decide +kernel) (@fe _ _ _ _ _ _ _ (@pdv _ _ _ 1 _ _ rfl) (@fg _ _ _) rfl) rfl (by decide) (by decide)) (@fg _ _ _) rfl) rfl) rfl rfl (by decide)) o9.nd rfl (.inl rfl) rfl (.inr rfl)) (@fB _ _ _ _ _ _ _ (@gR _ _ _ _ _ _ _ _ _ _ (@iq _ _ _ _ _ _ _ _ _ _ _ (BE hr.units0) okEq (@pdv _ _ _ 2 _ _ rfl) (@fj _ _ _ _ _ _) (nomark _)) (@fA _ _ _ _ _ (@fG _ _ _ _ _ _ (@fC _ _ _ _ _ _ _ _ _ _ _ false fP okAdd (@iT _ _ _ _ _ _ _ _ _ _ _ false (@pdv _ _ _ 1 _ _ rfl) (@mt _ _ _) (@iz _ _ _ _ _ (@pdv _ _ _ 3 _ _ rfl))) (@iT _ _ _ _ _ _ _ _ _ _ _ false (@pdv _ _ _ 1 _ _ rfl) (@iz _ _ _ _ _ (@fC _ _ _ _ _ _ _ _ _ _ _ false fP okAdd (@pdv _ _ _ 3 _ _ rfl) (@fj _ _ _ _ _ _))) (@mt _ _ _))))) (@gF _ _ _)) (@fB _ _ _ _ _ _ _ (@gR _ _ _ _ _ _ _ _ _ _ (@iq _ _ _ _ _ _ _ _ _ _ _ (BE hr.units0) okEq (@pdv _ _ _ 2 _ _ rfl) (@fj _ _ _ _ _ _) (nomark _)) (@fA _ _ _ _ _ (@fG _ _ _ _ _ _ (@fC _ _ _ _ _ _ _ _ _ _ _ false fP okAdd (@fC _ _ _ _ _ _ _ _ _ _ _ false fP okAdd (@iT _ _ _ _ _ _ _ _ _ _ _ false (@pdv _ _ _ 1 _ _ rfl) (@mt _ _ _) (@iz _ _ _ _ _ (@pdv _ _ _ 3 _ _ rfl))) (@iT _ _ _ _ _ _ _ _ _ _ _ false (@pdv _ _ _ 1 _ _ rfl) (@iz _ _ _ _ _ (@pdv _ _ _ 3 _ _ rfl)) (@iz _ _ _ _ _ (@fC _ _ _ _ _ _ _ _ _ _ _ false fP okAdd (@pdv _ _ _ 3 _ _ rfl) (@fj _ _ _ _ _ _))))) (@iT _ _ _ _ _ _ _ _ _ _ _ false (@pdv _ _ _ 1 _ _ rfl) (@iz _ _ _ _ _ (@pdv _ _ _ 3 _ _ rfl)) (@mt _ _ _))))) (@gF _ _ _)) (@fA _ _ _ _ _ (@fG _ _ _ _ _ _ (@fC _ _ _ _ _ _ _ _ _ _ _ false fP okAdd (@fC _ _ _ _ _ _ _ _ _ _ _ false fP okAdd (@iT _ _ _ _ _ _ _ _ _ _ _ false (@pdv _ _ _ 1 _ _ rfl) (@mt _ _ _) (@iz _ _ _ _ _ (@pdv _ _ _ 3 _ _ rfl))) (@fU _ _ _ _ _ _ _ (@fe _ _ _ _ _ _ _ (@fI _ _ _ _ _ _ _ _ _ _ _ _ _ _ hrec hr (by omega) rfl (@fz _) (@fe _ _ _ _ _ _ _ (@pdv _ _ _ 0 _ _ rfl) (@fe _ _ _ _ _ _ _ (@gz _ _ _ _ _ _ _ _ _ _ gb okIx (@pdv _ _ _ 1 _ _ rfl) (@pdv _ _ _ 3 _ _ rfl) (fun _ _=>rfl)) (@fg _ _ _) rfl) rfl) rfl rfl (by decide)) (@fg _ _ _) rfl))) (@iT _ _ _ _ _ _ _ _ _ _ _ false (@pdv _ _ _ 1 _ _ rfl) (@iz _ _ _ _ _ (@fC _ _ _ _ _ _ _ _ _ _ _ false fP okAdd (@pdv _ _ _ 3 _ _ rfl) (@fj _ _ _ _ _ _))) (@mt _ _ _))))))))))))
noncomputable abbrev iQ:Stmt:=top 62
theorem lj:FnScope ["_law_pot_here", "_law_outs_here", "_law_found", "_law_long"] ["_law_pot_here", "_law_outs_here"] (fq iQ):=⟨rfl,rfl,rfl,by decide +kernel,rfl,by decide +kernel,by decide +kernel⟩
theorem jS (bas:Bas K mg blts) (d:Def K mg "_law_things" iQ ["_law_pot_here", "_law_outs_here"]) (iE:Has P w K mg base cl 2 "_law_odd" ["_law_pot_here"] K1.gf) (i9:Has P w K mg base cl 15 "_law_bent" ["_law_pot_here", "_law_thing"] (K1.gh 12)):Has P w K mg base cl 16 "_law_things" ["_law_pot_here", "_law_outs_here"] K2.iW :=
  gp (k:=15) (m:=K2.lS) d lj (fun f cdv A outer s H E n F0 hr=>(@fB _ _ _ _ _ _ _ (@gk _ _ _ _ _ _ 2 _ _ (@gX _ _ _ _ _ _ true (@fe _ _ _ _ _ _ _ (@pdv _ _ _ 1 _ _ rfl) (@fe _ _ _ _ _ _ _ (@oA _ _ _ _ _ _ _ _ _ _ _ _ false AC okList rfl (bas.nb "list" (by decide)) (by decide +kernel) (@fe _ _ _ _ _ _ _ (@pdv _ _ _ 1 _ _ rfl) (@fg _ _ _) rfl) rfl (by decide) (by decide)) (@fe _ _ _ _ _ _ _ (@fI _ _ _ _ _ _ _ _ _ _ _ _ _ _ iE hr (by omega) rfl (@fz _) (@fe _ _ _ _ _ _ _ (@pdv _ _ _ 0 _ _ rfl) (@fg _ _ _) rfl) rfl rfl (by decide)) (@fe _ _ _ _ _ _ _ (@fI _ _ _ _ _ _ _ _ _ _ _ _ _ _ i9 hr (by omega) rfl (@fz _) (@fe _ _ _ _ _ _ _ (@pdv _ _ _ 0 _ _ rfl) (@fe _ _ _ _ _ _ _ (@pdv _ _ _ 1 _ _ rfl) (@fg _ _ _) rfl) rfl) rfl rfl (by decide)) (@fe _ _ _ _ _ _ _ (@fC _ _ _ _ _ _ _ _ _ _ _ false fP okAdd (@pdv _ _ _ 1 _ _ rfl) (@fU _ _ _ _ _ _ _ (@fe _ _ _ _ _ _ _ (@fU _ _ _ _ _ _ _ (@fe _ _ _ _ _ _ _ (@fj _ _ _ _ _ _) (@fe _ _ _ _ _ _ _ (@fj _ _ _ _ _ _) (@fg _ _ _) rfl) rfl)) (@fg _ _ _) rfl))) (@fg _ _ _) rfl) rfl) rfl) rfl) rfl)) lj.nd rfl (.inl rfl) rfl (.inr rfl)) (@fB _ _ _ _ _ _ _ (@oU _ _ _ _ _ _ (@Cz _ _ _ _ _ _ _ _ _ (@pdv _ _ _ 2 _ _ rfl) (@fI _ _ _ _ _ _ _ _ _ _ _ _ _ _ i9 hr (by omega) rfl (@fz _) (@fe _ _ _ _ _ _ _ (@pdv _ _ _ 0 _ _ rfl) (@fe _ _ _ _ _ _ _ (@fI _ _ _ _ _ _ _ _ _ _ _ _ _ _ i9 hr (by omega) rfl (@fz _) (@fe _ _ _ _ _ _ _ (@pdv _ _ _ 0 _ _ rfl) (@fe _ _ _ _ _ _ _ (@pdv _ _ _ 1 _ _ rfl) (@fg _ _ _) rfl) rfl) rfl rfl (by decide)) (@fg _ _ _) rfl) rfl) rfl rfl (by decide)) rfl rfl rfl rfl) rfl) (@fB _ _ _ _ _ _ _ (@gk _ _ _ _ _ _ 2 _ _ (@fC _ _ _ _ _ _ _ _ _ _ _ true fP okAdd (@pdv _ _ _ 2 _ _ rfl) (@gX _ _ _ _ _ _ false (@fe _ _ _ _ _ _ _ (@fU _ _ _ _ _ _ _ (@fe _ _ _ _ _ _ _ (@fU _ _ _ _ _ _ _ (@fe _ _ _ _ _ _ _ (@fj _ _ _ _ _ _) (@fe _ _ _ _ _ _ _ (@fj _ _ _ _ _ _) (@fg _ _ _) rfl) rfl)) (@fe _ _ _ _ _ _ _ (@fU _ _ _ _ _ _ _ (@fe _ _ _ _ _ _ _ (@fj _ _ _ _ _ _) (@fe _ _ _ _ _ _ _ (@fj _ _ _ _ _ _) (@fg _ _ _) rfl) rfl)) (@fg _ _ _) rfl) rfl)) (@fe _ _ _ _ _ _ _ (@fU _ _ _ _ _ _ _ (@fe _ _ _ _ _ _ _ (@fU _ _ _ _ _ _ _ (@fe _ _ _ _ _ _ _ (@fj _ _ _ _ _ _) (@fe _ _ _ _ _ _ _ (@fj _ _ _ _ _ _) (@fg _ _ _) rfl) rfl)) (@fe _ _ _ _ _ _ _ (@fU _ _ _ _ _ _ _ (@fe _ _ _ _ _ _ _ (@fj _ _ _ _ _ _) (@fe _ _ _ _ _ _ _ (@fj _ _ _ _ _ _) (@fg _ _ _) rfl) rfl)) (@fg _ _ _) rfl) rfl)) (@fe _ _ _ _ _ _ _ (@fU _ _ _ _ _ _ _ (@fe _ _ _ _ _ _ _ (@fU _ _ _ _ _ _ _ (@fe _ _ _ _ _ _ _ (@fj _ _ _ _ _ _) (@fe _ _ _ _ _ _ _ (@fj _ _ _ _ _ _) (@fg _ _ _) rfl) rfl)) (@fe _ _ _ _ _ _ _ (@fU _ _ _ _ _ _ _ (@fe _ _ _ _ _ _ _ (@fj _ _ _ _ _ _) (@fe _ _ _ _ _ _ _ (@fj _ _ _ _ _ _) (@fg _ _ _) rfl) rfl)) (@fg _ _ _) rfl) rfl)) (@fe _ _ _ _ _ _ _ (@fU _ _ _ _ _ _ _ (@fe _ _ _ _ _ _ _ (@fU _ _ _ _ _ _ _ (@fe _ _ _ _ _ _ _ (@fj _ _ _ _ _ _) (@fe _ _ _ _ _ _ _ (@fj _ _ _ _ _ _) (@fg _ _ _) rfl) rfl)) (@fe _ _ _ _ _ _ _ (@fU _ _ _ _ _ _ _ (@fe _ _ _ _ _ _ _ (@fj _ _ _ _ _ _) (@fe _ _ _ _ _ _ _ (@fj _ _ _ _ _ _) (@fg _ _ _) rfl) rfl)) (@fg _ _ _) rfl) rfl)) (@fe _ _ _ _ _ _ _ (@fU _ _ _ _ _ _ _ (@fe _ _ _ _ _ _ _ (@fU _ _ _ _ _ _ _ (@fe _ _ _ _ _ _ _ (@fj _ _ _ _ _ _) (@fe _ _ _ _ _ _ _ (@fj _ _ _ _ _ _) (@fg _ _ _) rfl) rfl)) (@fg _ _ _) rfl)) (@fe _ _ _ _ _ _ _ (@fU _ _ _ _ _ _ _ (@fe _ _ _ _ _ _ _ (@fU _ _ _ _ _ _ _ (@fe _ _ _ _ _ _ _ (@fj _ _ _ _ _ _) (@fe _ _ _ _ _ _ _ (@fj _ _ _ _ _ _) (@fg _ _ _) rfl) rfl)) (@fg _ _ _) rfl)) (@fg _ _ _) rfl) rfl) rfl) rfl) rfl) rfl))) lj.nd rfl (.inl rfl) rfl (.inr rfl)) (@fB _ _ _ _ _ _ _ (@gk _ _ _ _ _ _ 3 _ _ (@oA _ _ _ _ _ _ _ _ _ _ _ _ false il okTuple rfl (bas.nb "tuple" (by decide)) (by decide +kernel) (@fe _ _ _ _ _ _ _ (@iu _ _ _ (["_law_k"]) _ _ _ _ _ _ _ _ _ _ _ false rfl (gw (XN:=["_law_pot_here", "_law_outs_here", "_law_found", "_law_long"]) (sc:=fq iQ) (fun _=>rfl) rfl (by decide +kernel)) (@iN _ _ _ _ _ _ _ _ rfl (bas.nb "range" (by decide)) (@fe _ _ _ _ _ _ _ (@fj _ _ _ _ _ _) (@fg _ _ _) rfl) rfl) (fun _ _ _ _ _ _=>(@fL _ _ _ 0 _ (show (["_law_k"]:List Str).Nodup by decide +kernel) rfl (.inl rfl) (.inr rfl))) (fun _ _ _ _ _ _=>(@iM _ _ _)) (fun _ _ _ _ _ _=>(@fU _ _ _ _ _ _ _ (@fe _ _ _ _ _ _ _ (@fC _ _ _ _ _ _ _ _ _ _ _ false lO okMul (@fj _ _ _ _ _ _) (@pdv _ _ _ 0 _ _ rfl)) (@fe _ _ _ _ _ _ _ (@fC _ _ _ _ _ _ _ _ _ _ _ false fP okAdd (@fC _ _ _ _ _ _ _ _ _ _ _ false lO okMul (@fj _ _ _ _ _ _) (@pdv _ _ _ 0 _ _ rfl)) (@fj _ _ _ _ _ _)) (@fg _ _ _) rfl) rfl))) (by intro _ ;rfl)) (@fg _ _ _) rfl) rfl (by decide) (by decide)) lj.nd rfl (.inl rfl) rfl (.inr rfl)) (@fA _ _ _ _ _ (@fG _ _ _ _ _ _ (@fC _ _ _ _ _ _ _ _ _ _ _ false fP okAdd (@pdv _ _ _ 2 _ _ rfl) (@gX _ _ _ _ _ _ false (@fe _ _ _ _ _ _ _ (@pdv _ _ _ 3 _ _ rfl) (@fe _ _ _ _ _ _ _ (@iT _ _ _ _ _ _ _ _ _ _ _ false (@pdv _ _ _ 3 _ _ rfl) (@mt _ _ _) (@iz _ _ _ _ _ (@fj _ _ _ _ _ _))) (@fe _ _ _ _ _ _ _ (@fU _ _ _ _ _ _ _ (@fe _ _ _ _ _ _ _ (@fU _ _ _ _ _ _ _ (@fe _ _ _ _ _ _ _ (@fj _ _ _ _ _ _) (@fe _ _ _ _ _ _ _ (@fj _ _ _ _ _ _) (@fg _ _ _) rfl) rfl)) (@fg _ _ _) rfl)) (@fe _ _ _ _ _ _ _ (@fU _ _ _ _ _ _ _ (@fe _ _ _ _ _ _ _ (@fU _ _ _ _ _ _ _ (@fe _ _ _ _ _ _ _ (@oy _ _ _ _ _ _ (@fj _ _ _ _ _ _)) (@fe _ _ _ _ _ _ _ (@fj _ _ _ _ _ _) (@fg _ _ _) rfl) rfl)) (@fg _ _ _) rfl)) (@fe _ _ _ _ _ _ _ (@fU _ _ _ _ _ _ _ (@fe _ _ _ _ _ _ _ (@fU _ _ _ _ _ _ _ (@fe _ _ _ _ _ _ _ (@jK _ _ _ _ _ _) (@fe _ _ _ _ _ _ _ (@fj _ _ _ _ _ _) (@fg _ _ _) rfl) rfl)) (@fg _ _ _) rfl)) (@fe _ _ _ _ _ _ _ (@fU _ _ _ _ _ _ _ (@fe _ _ _ _ _ _ _ (@fU _ _ _ _ _ _ _ (@fe _ _ _ _ _ _ _ (@fj _ _ _ _ _ _) (@fe _ _ _ _ _ _ _ (@fC _ _ _ _ _ _ _ _ _ _ _ false jJ okSub (@fC _ _ _ _ _ _ _ _ _ _ _ false oQ okPow (@fj _ _ _ _ _ _) (@fj _ _ _ _ _ _)) (@fj _ _ _ _ _ _)) (@fg _ _ _) rfl) rfl)) (@fg _ _ _) rfl)) (@fe _ _ _ _ _ _ _ (@fU _ _ _ _ _ _ _ (@fe _ _ _ _ _ _ _ (@fU _ _ _ _ _ _ _ (@fe _ _ _ _ _ _ _ (@fj _ _ _ _ _ _) (@fe _ _ _ _ _ _ _ (@fj _ _ _ _ _ _) (@fe _ _ _ _ _ _ _ (@fj _ _ _ _ _ _) (@fg _ _ _) rfl) rfl) rfl)) (@fg _ _ _) rfl)) (@fe _ _ _ _ _ _ _ (@fU _ _ _ _ _ _ _ (@fe _ _ _ _ _ _ _ (@gX _ _ _ _ _ _ false (@fe _ _ _ _ _ _ _ (@fj _ _ _ _ _ _) (@fe _ _ _ _ _ _ _ (@fj _ _ _ _ _ _) (@fg _ _ _) rfl) rfl)) (@fg _ _ _) rfl)) (@fg _ _ _) rfl) rfl) rfl) rfl) rfl) rfl) rfl) rfl))))))))))
noncomputable abbrev iX:Stmt:=top 45
theorem Ca:FnScope ["_law_script", "_law_k"] ["_law_script", "_law_k"] (fq iX):=⟨rfl,rfl,rfl,by decide +kernel,rfl,by decide +kernel,by decide +kernel⟩
theorem jr (bas:Bas K mg blts) (d:Def K mg "_law_cell_at" iX ["_law_script", "_law_k"]):Has P w K mg base cl 1 "_law_cell_at" ["_law_script", "_law_k"] K1.ic :=
  gp (k:=0) (m:=K1.lf) d Ca (fun f cdv A outer s H E n F0 hr=>(@fB _ _ _ _ _ _ _ (@gR _ _ _ _ _ _ _ _ _ _ (@iq _ _ _ _ _ _ _ _ _ _ _ (Ar hr.units0) okLt (@pdv _ _ _ 1 _ _ rfl) (@GG _ _ _ _ _ _ _ rfl (bas.nb "len" (by decide)) (@pdv _ _ _ 0 _ _ rfl) rfl) (nomark _)) (@fA _ _ _ _ _ (@fG _ _ _ _ _ _ (@N7 _ _ _ _ _ _ _ _ (@pdv _ _ _ 0 _ _ rfl) (@pdv _ _ _ 1 _ _ rfl) (fun _ _=>rfl)))) (@gF _ _ _)) (@fA _ _ _ _ _ (@fG _ _ _ _ _ _ (@fj _ _ _ _ _ _)))))
noncomputable abbrev j3:Stmt:=top 54
theorem mT:FnScope ["_law_pot_here", "_law_near", "_law_found", "_law_begin", "_law_turn"] ["_law_pot_here", "_law_near"] (fq j3):=⟨rfl,rfl,rfl,by decide +kernel,rfl,by decide +kernel,by decide +kernel⟩
theorem mG (bas:Bas K mg blts) (d:Def K mg "_law_outs" j3 ["_law_pot_here", "_law_near"]) (fD:Has P w K mg base cl 1 "_law_take" ["_law_pot_here", "_law_far_here"] K1.fu):Has P w K mg base cl 2 "_law_outs" ["_law_pot_here", "_law_near"] K2.iI :=
  gp (k:=1) (m:=K2.oD) d mT (fun f cdv A outer s H E n F0 hr=>(@fB _ _ _ _ _ _ _ (@MQ _ _ _ _ _ _ _ _ _ _ _ _ _ _ _ 2 3 rfl mT.nd (@fe _ _ _ _ _ _ _ (@gX _ _ _ _ _ _ true (@fg _ _ _)) (@fe _ _ _ _ _ _ _ (@fI _ _ _ _ _ _ _ _ _ _ _ _ _ _ fD hr (by omega) rfl (@fz _) (@fe _ _ _ _ _ _ _ (@pdv _ _ _ 0 _ _ rfl) (@fe _ _ _ _ _ _ _ (@pdv _ _ _ 1 _ _ rfl) (@fg _ _ _) rfl) rfl) rfl rfl (by decide)) (@fg _ _ _) rfl) rfl) rfl rfl (by decide) rfl rfl rfl rfl) (@fB _ _ _ _ _ _ _ (@js _ _ _ _ _ _ _ _ _ _ PassesOwn.never rfl (@iN _ _ _ _ _ _ _ _ rfl (bas.nb "range" (by decide)) (@fe _ _ _ _ _ _ _ (@gz _ _ _ _ _ _ _ _ _ _ gb okIx (@gX _ _ _ _ _ _ false (@fe _ _ _ _ _ _ _ (@fj _ _ _ _ _ _) (@fe _ _ _ _ _ _ _ (@fj _ _ _ _ _ _) (@fe _ _ _ _ _ _ _ (@fj _ _ _ _ _ _) (@fe _ _ _ _ _ _ _ (@fj _ _ _ _ _ _) (@fg _ _ _) rfl) rfl) rfl) rfl)) (@fI _ _ _ _ _ _ _ _ _ _ _ _ _ _ fD hr (by omega) rfl (@fz _) (@fe _ _ _ _ _ _ _ (@pdv _ _ _ 0 _ _ rfl) (@fe _ _ _ _ _ _ _ (@fj _ _ _ _ _ _) (@fg _ _ _) rfl) rfl) rfl rfl (by decide)) (fun _ _=>rfl)) (@fg _ _ _) rfl) rfl) (@fL _ _ _ 4 _ mT.nd rfl (.inl rfl) (.inr rfl)) (@fB _ _ _ _ _ _ _ (@oU _ _ _ _ _ _ (@Cz _ _ _ _ _ _ _ _ _ (@pdv _ _ _ 2 _ _ rfl) (@fU _ _ _ _ _ _ _ (@fe _ _ _ _ _ _ _ (@pdv _ _ _ 3 _ _ rfl) (@fe _ _ _ _ _ _ _ (@fC _ _ _ _ _ _ _ _ _ _ _ false fP okAdd (@fC _ _ _ _ _ _ _ _ _ _ _ false fP okAdd (@pdv _ _ _ 3 _ _ rfl) (@fj _ _ _ _ _ _)) (@fI _ _ _ _ _ _ _ _ _ _ _ _ _ _ fD hr (by omega) rfl (@fz _) (@fe _ _ _ _ _ _ _ (@pdv _ _ _ 0 _ _ rfl) (@fe _ _ _ _ _ _ _ (@pdv _ _ _ 1 _ _ rfl) (@fg _ _ _) rfl) rfl) rfl rfl (by decide))) (@fg _ _ _) rfl) rfl)) rfl rfl rfl rfl) rfl) (@fA _ _ _ _ _ (@gk _ _ _ _ _ _ 3 _ _ (@fC _ _ _ _ _ _ _ _ _ _ _ false fP okAdd (@fC _ _ _ _ _ _ _ _ _ _ _ false fP okAdd (@gz _ _ _ _ _ _ _ _ _ _ gb okIx (@gz _ _ _ _ _ _ _ _ _ _ gb okIx (@pdv _ _ _ 2 _ _ rfl) (@oy _ _ _ _ _ _ (@fj _ _ _ _ _ _)) (fun _ _=>rfl)) (@fj _ _ _ _ _ _) (fun _ _=>rfl)) (@fj _ _ _ _ _ _)) (@fI _ _ _ _ _ _ _ _ _ _ _ _ _ _ fD hr (by omega) rfl (@fz _) (@fe _ _ _ _ _ _ _ (@pdv _ _ _ 0 _ _ rfl) (@fe _ _ _ _ _ _ _ (@pdv _ _ _ 1 _ _ rfl) (@fg _ _ _) rfl) rfl) rfl rfl (by decide))) mT.nd rfl (.inl rfl) rfl (.inr rfl)))) (by intro _ ;rfl)) (@fA _ _ _ _ _ (@fG _ _ _ _ _ _ (@oA _ _ _ _ _ _ _ _ _ _ _ _ false il okTuple rfl (bas.nb "tuple" (by decide)) (by decide +kernel) (@fe _ _ _ _ _ _ _ (@pdv _ _ _ 2 _ _ rfl) (@fg _ _ _) rfl) rfl (by decide) (by decide)))))))
noncomputable abbrev j4:Stmt:=top 23
theorem Fy:FnScope ["thing", "fewest", "most"] ["thing", "fewest", "most"] (fq j4):=⟨rfl,rfl,rfl,by decide +kernel,rfl,by decide +kernel,by decide +kernel⟩
theorem fS (bas:Bas K mg blts) (d:Def K mg "is_tuple" j4 ["thing", "fewest", "most"]):Has P w K mg base cl 1 "is_tuple" ["thing", "fewest", "most"] K1.fT :=
  gp (k:=0) (m:=K1.Av) d Fy (fun f cdv A outer s H E n F0 hr=>(@fA _ _ _ _ _ (@fG _ _ _ _ _ _ (@im _ _ _ _ _ _ _ _ _ (@AJ _ _ _ _ _ _ _ _ _ _ bas.tt rfl (bas.nb "isinstance" (by decide)) rfl (bas.nb "tuple" (by decide)) (by decide +kernel) (@pdv _ _ _ 0 _ _ rfl) rfl (by decide) (by decide)) (@jx _ _ _ _ _ _ _ (@BC _ _ _ _ _ _ _ _ _ _ _ _ _ _ _ _ (mv hr.units0) (mv hr.units0) okLe okLe (@pdv _ _ _ 1 _ _ rfl) (@iB _ _ _ _ _ _ _ _ _ _ _ _ false gE okLen rfl (bas.nb "len" (by decide)) (by decide +kernel) (@fe _ _ _ _ _ _ _ (@pdv _ _ _ 0 _ _ rfl) (@fg _ _ _) rfl) rfl (by decide) (by decide)) (@pdv _ _ _ 2 _ _ rfl) (by with_unfolding_all rfl)))))))
noncomputable abbrev j5:Stmt:=top 20
theorem Fz:FnScope ["thing"] ["thing"] (fq j5):=⟨rfl,rfl,rfl,by decide +kernel,rfl,by decide +kernel,by decide +kernel⟩
theorem ja (bas:Bas K mg blts) (d:Def K mg "is_whole" j5 ["thing"]):Has P w K mg base cl 1 "is_whole" ["thing"] K1.jD :=
  gp (k:=0) (m:=K1.Au) d Fz (fun f cdv A outer s H E n F0 hr=>(@fA _ _ _ _ _ (@fG _ _ _ _ _ _ (@im _ _ _ _ _ _ _ _ _ (@AJ _ _ _ _ _ _ _ _ _ _ bas.ti rfl (bas.nb "isinstance" (by decide)) rfl (bas.nb "int" (by decide)) (by decide +kernel) (@pdv _ _ _ 0 _ _ rfl) rfl (by decide) (by decide)) (@jx _ _ _ _ _ _ _ (@Lj _ _ _ _ _ _ (@AJ _ _ _ _ _ _ _ _ _ _ bas.tb rfl (bas.nb "isinstance" (by decide)) rfl (bas.nb "bool" (by decide)) (by decide +kernel) (@pdv _ _ _ 0 _ _ rfl) rfl (by decide) (by decide))))))))
noncomputable abbrev jG:Stmt:=top 21
theorem Dp:FnScope ["thing", "least", "greatest"] ["thing", "least", "greatest"] (fq jG):=⟨rfl,rfl,rfl,by decide +kernel,rfl,by decide +kernel,by decide +kernel⟩
theorem fV (bas:Bas K mg blts) (d:Def K mg "is_within" jG ["thing", "least", "greatest"]) (ja:Has P w K mg base cl 1 "is_whole" ["thing"] K1.jD):Has P w K mg base cl 2 "is_within" ["thing", "least", "greatest"] K1.ge :=
  gp (k:=1) (m:=K1.oV) d Dp (fun f cdv A outer s H E n F0 hr=>(@fA _ _ _ _ _ (@fG _ _ _ _ _ _ (@im _ _ _ _ _ _ _ _ _ (@fI _ _ _ _ _ _ _ _ _ _ _ _ _ _ ja hr (by omega) rfl (@fz _) (@fe _ _ _ _ _ _ _ (@pdv _ _ _ 0 _ _ rfl) (@fg _ _ _) rfl) rfl rfl (by decide)) (@jx _ _ _ _ _ _ _ (@BC _ _ _ _ _ _ _ _ _ _ _ _ _ _ _ _ (mv hr.units0) (mv hr.units0) okLe okLe (@pdv _ _ _ 1 _ _ rfl) (@pdv _ _ _ 0 _ _ rfl) (@pdv _ _ _ 2 _ _ rfl) (by with_unfolding_all rfl)))))))
noncomputable abbrev jb:Stmt:=top 30
theorem Dq:FnScope ["thing"] ["thing"] (fq jb):=⟨rfl,rfl,rfl,by decide +kernel,rfl,by decide +kernel,by decide +kernel⟩
theorem lD (bas:Bas K mg blts) (d:Def K mg "are_rooms" jb ["thing"]) (gl_COLDEST:∃ t,mg "COLDEST"=some (.int 3 t)) (fS:Has P w K mg base cl 1 "is_tuple" ["thing", "fewest", "most"] K1.fT) (fV:Has P w K mg base cl 2 "is_within" ["thing", "least", "greatest"] K1.ge):Has P w K mg base cl 3 "are_rooms" ["thing"] K1.jM :=
  gp (k:=2) (m:=K1.lx) d Dq (fun f cdv A outer s H E n F0 hr=>(@fA _ _ _ _ _ (@fG _ _ _ _ _ _ (@im _ _ _ _ _ _ _ _ _ (@fI _ _ _ _ _ _ _ _ _ _ _ _ _ _ fS hr (by omega) rfl (@fz _) (@fe _ _ _ _ _ _ _ (@pdv _ _ _ 0 _ _ rfl) (@fe _ _ _ _ _ _ _ (@fj _ _ _ _ _ _) (@fe _ _ _ _ _ _ _ (@fj _ _ _ _ _ _) (@fg _ _ _) rfl) rfl) rfl) rfl rfl (by decide)) (@jx _ _ _ _ _ _ _ (@iB _ _ _ _ _ _ _ _ _ _ _ _ false (jk rfl) okAll rfl (bas.nb "all" (by decide)) (by decide +kernel) (@fe _ _ _ _ _ _ _ (@iu _ _ _ (["cold"]) _ _ _ _ _ _ _ _ _ _ _ false rfl (gw (XN:=["thing"]) (sc:=fq jb) (fun _=>rfl) rfl (by decide +kernel)) (@iy _ _ _ _ _ _ (@pdv _ _ _ 0 _ _ rfl)) (fun _ _ _ _ _ _=>(@fL _ _ _ 0 _ (show (["cold"]:List Str).Nodup by decide +kernel) rfl (.inl rfl) (.inr rfl))) (fun _ _ _ _ _ _=>(@iM _ _ _)) (fun _ _ _ _ _ _=>(@fI _ _ _ _ _ _ _ _ _ _ _ _ _ _ fV hr (by omega) rfl (@fz _) (@fe _ _ _ _ _ _ _ (@pdv _ _ _ 0 _ _ rfl) (@fe _ _ _ _ _ _ _ (@fj _ _ _ _ _ _) (@fe _ _ _ _ _ _ _ (@Bn _ _ _ _ _ _ rfl gl_COLDEST (by decide)) (@fg _ _ _) rfl) rfl) rfl) rfl rfl (by decide))) (by intro _ ;rfl)) (@fg _ _ _) rfl) rfl (by decide) (by decide)))))))
noncomputable abbrev iL:Stmt:=top 33
theorem Ds:FnScope ["thing"] ["thing"] (fq iL):=⟨rfl,rfl,rfl,by decide +kernel,rfl,by decide +kernel,by decide +kernel⟩
theorem lE (bas:Bas K mg blts) (d:Def K mg "are_rates" iL ["thing"]) (gl_COLDEST:∃ t,mg "COLDEST"=some (.int 3 t)) (fS:Has P w K mg base cl 1 "is_tuple" ["thing", "fewest", "most"] K1.fT) (fV:Has P w K mg base cl 2 "is_within" ["thing", "least", "greatest"] K1.ge):Has P w K mg base cl 3 "are_rates" ["thing"] K1.lR :=
  gp (k:=2) (m:=K1.ly) d Ds (fun f cdv A outer s H E n F0 hr=>(@fB _ _ _ _ _ _ _ (@gR _ _ _ _ _ _ _ _ _ _ (@BD _ _ _ _ _ (@oT _ _ _ _ _ _ _ _ _ (@ir _ _ _ _ _ _ (@ig _ _ _ _ _ (@fI _ _ _ _ _ _ _ _ _ _ _ _ _ _ fS hr (by omega) rfl (@fz _) (@fe _ _ _ _ _ _ _ (@pdv _ _ _ 0 _ _ rfl) (@fe _ _ _ _ _ _ _ (@fC _ _ _ _ _ _ _ _ _ _ _ false fP okAdd (@Bn _ _ _ _ _ _ rfl gl_COLDEST (by decide)) (@fj _ _ _ _ _ _)) (@fe _ _ _ _ _ _ _ (@fC _ _ _ _ _ _ _ _ _ _ _ false fP okAdd (@Bn _ _ _ _ _ _ rfl gl_COLDEST (by decide)) (@fj _ _ _ _ _ _)) (@fg _ _ _) rfl) rfl) rfl) rfl rfl (by decide)) (by intro _ ;rfl))) (@Ad _ _ _ _ _ _ (@ir _ _ _ _ _ _ (@ig _ _ _ _ _ (@iB _ _ _ _ _ _ _ _ _ _ _ _ false (jk rfl) okAll rfl (bas.nb "all" (by decide)) (by decide +kernel) (@fe _ _ _ _ _ _ _ (@iu _ _ _ (["rate"]) _ _ _ _ _ _ _ _ _ _ _ false rfl (gw (XN:=["thing"]) (sc:=fq iL) (fun _=>rfl) rfl (by decide +kernel)) (@iy _ _ _ _ _ _ (@pdv _ _ _ 0 _ _ rfl)) (fun _ _ _ _ _ _=>(@fL _ _ _ 0 _ (show (["rate"]:List Str).Nodup by decide +kernel) rfl (.inl rfl) (.inr rfl))) (fun _ _ _ _ _ _=>(@iM _ _ _)) (fun _ _ _ _ _ _=>(@fI _ _ _ _ _ _ _ _ _ _ _ _ _ _ fV hr (by omega) rfl (@fz _) (@fe _ _ _ _ _ _ _ (@pdv _ _ _ 0 _ _ rfl) (@fe _ _ _ _ _ _ _ (@fj _ _ _ _ _ _) (@fe _ _ _ _ _ _ _ (@fj _ _ _ _ _ _) (@fg _ _ _) rfl) rfl) rfl) rfl rfl (by decide))) (by intro _ ;rfl)) (@fg _ _ _) rfl) rfl (by decide) (by decide)) (by intro _ ;rfl)))))) (@fA _ _ _ _ _ (@fG _ _ _ _ _ _ (@jK _ _ _ _ _ _))) (@gF _ _ _)) (@fA _ _ _ _ _ (@fG _ _ _ _ _ _ (@iB _ _ _ _ _ _ _ _ _ _ _ _ false (jk rfl) okAll rfl (bas.nb "all" (by decide)) (by decide +kernel) (@fe _ _ _ _ _ _ _ (@iu _ _ _ (["warmer", "colder"]) _ _ _ _ _ _ _ _ _ _ _ false rfl (gw (XN:=["thing"]) (sc:=fq iL) (fun _=>rfl) rfl (by decide +kernel)) (@GI _ _ _ _ _ _ _ _ _ _ _ rfl (bas.nb "zip" (by decide)) (@fe _ _ _ _ _ _ _ (@pdv _ _ _ 0 _ _ rfl) (@fe _ _ _ _ _ _ _ (@iT _ _ _ _ _ _ _ _ _ _ _ false (@pdv _ _ _ 0 _ _ rfl) (@iz _ _ _ _ _ (@fj _ _ _ _ _ _)) (@mt _ _ _)) (@fg _ _ _) rfl) rfl) rfl rfl) (fun _ _ _ _ _ _=>(@Bc _ _ _ _ _ _ _ rfl (@iO _ _ _ _ _ _ (@fL _ _ _ 0 _ (show (["warmer", "colder"]:List Str).Nodup by decide +kernel) rfl (.inl rfl) (.inr rfl)) (@iO _ _ _ _ _ _ (@fL _ _ _ 1 _ (show (["warmer", "colder"]:List Str).Nodup by decide +kernel) rfl (.inl rfl) (.inr rfl)) (@lv _ _) rfl) rfl) rfl rfl)) (fun _ _ _ _ _ _=>(@iM _ _ _)) (fun _ _ _ _ _ _=>(@Aq _ _ _ _ _ _ _ _ _ _ _ (mv hr.units0) okLe (@pdv _ _ _ 1 _ _ rfl) (@pdv _ _ _ 0 _ _ rfl) (nomark _))) (by intro _ ;rfl)) (@fg _ _ _) rfl) rfl (by decide) (by decide))))))
noncomputable abbrev mf:Stmt:=top 32
theorem Gg:FnScope ["thing"] ["thing"] (fq mf):=⟨rfl,rfl,rfl,by decide +kernel,rfl,by decide +kernel,by decide +kernel⟩
theorem oi (bas:Bas K mg blts) (d:Def K mg "is_kind" mf ["thing"]) (fS:Has P w K mg base cl 1 "is_tuple" ["thing", "fewest", "most"] K1.fT) (fV:Has P w K mg base cl 2 "is_within" ["thing", "least", "greatest"] K1.ge) (lE:Has P w K mg base cl 3 "are_rates" ["thing"] K1.lR):Has P w K mg base cl 4 "is_kind" ["thing"] K1.oB :=
  gp (k:=3) (m:=K1.m9) d Gg (fun f cdv A outer s H E n F0 hr=>(@fA _ _ _ _ _ (@fG _ _ _ _ _ _ (@im _ _ _ _ _ _ _ _ _ (@fI _ _ _ _ _ _ _ _ _ _ _ _ _ _ fS hr (by omega) rfl (@fz _) (@fe _ _ _ _ _ _ _ (@pdv _ _ _ 0 _ _ rfl) (@fe _ _ _ _ _ _ _ (@fj _ _ _ _ _ _) (@fe _ _ _ _ _ _ _ (@fj _ _ _ _ _ _) (@fg _ _ _) rfl) rfl) rfl) rfl rfl (by decide)) (@im _ _ _ _ _ _ _ _ _ (@fI _ _ _ _ _ _ _ _ _ _ _ _ _ _ fV hr (by omega) rfl (@fz _) (@fe _ _ _ _ _ _ _ (@gz _ _ _ _ _ _ _ _ _ _ gb okIx (@pdv _ _ _ 0 _ _ rfl) (@fj _ _ _ _ _ _) (fun _ _=>rfl)) (@fe _ _ _ _ _ _ _ (@fj _ _ _ _ _ _) (@fe _ _ _ _ _ _ _ (@fj _ _ _ _ _ _) (@fg _ _ _) rfl) rfl) rfl) rfl rfl (by decide)) (@jx _ _ _ _ _ _ _ (@fI _ _ _ _ _ _ _ _ _ _ _ _ _ _ lE hr (by omega) rfl (@fz _) (@fe _ _ _ _ _ _ _ (@gz _ _ _ _ _ _ _ _ _ _ gb okIx (@pdv _ _ _ 0 _ _ rfl) (@fj _ _ _ _ _ _) (fun _ _=>rfl)) (@fg _ _ _) rfl) rfl rfl (by decide))))))))
noncomputable abbrev jc:Stmt:=top 31
theorem Dt:FnScope ["thing"] ["thing"] (fq jc):=⟨rfl,rfl,rfl,by decide +kernel,rfl,by decide +kernel,by decide +kernel⟩
theorem lF (bas:Bas K mg blts) (d:Def K mg "are_kinds" jc ["thing"]) (fS:Has P w K mg base cl 1 "is_tuple" ["thing", "fewest", "most"] K1.fT) (oi:Has P w K mg base cl 4 "is_kind" ["thing"] K1.oB):Has P w K mg base cl 5 "are_kinds" ["thing"] K1.jN :=
  gp (k:=4) (m:=K1.lz) d Dt (fun f cdv A outer s H E n F0 hr=>(@fA _ _ _ _ _ (@fG _ _ _ _ _ _ (@im _ _ _ _ _ _ _ _ _ (@fI _ _ _ _ _ _ _ _ _ _ _ _ _ _ fS hr (by omega) rfl (@fz _) (@fe _ _ _ _ _ _ _ (@pdv _ _ _ 0 _ _ rfl) (@fe _ _ _ _ _ _ _ (@fj _ _ _ _ _ _) (@fe _ _ _ _ _ _ _ (@fj _ _ _ _ _ _) (@fg _ _ _) rfl) rfl) rfl) rfl rfl (by decide)) (@jx _ _ _ _ _ _ _ (@iB _ _ _ _ _ _ _ _ _ _ _ _ false (jk rfl) okAll rfl (bas.nb "all" (by decide)) (by decide +kernel) (@fe _ _ _ _ _ _ _ (@iu _ _ _ (["kind"]) _ _ _ _ _ _ _ _ _ _ _ false rfl (gw (XN:=["thing"]) (sc:=fq jc) (fun _=>rfl) rfl (by decide +kernel)) (@iy _ _ _ _ _ _ (@pdv _ _ _ 0 _ _ rfl)) (fun _ _ _ _ _ _=>(@fL _ _ _ 0 _ (show (["kind"]:List Str).Nodup by decide +kernel) rfl (.inl rfl) (.inr rfl))) (fun _ _ _ _ _ _=>(@iM _ _ _)) (fun _ _ _ _ _ _=>(@fI _ _ _ _ _ _ _ _ _ _ _ _ _ _ oi hr (by omega) rfl (@fz _) (@fe _ _ _ _ _ _ _ (@pdv _ _ _ 0 _ _ rfl) (@fg _ _ _) rfl) rfl rfl (by decide))) (by intro _ ;rfl)) (@fg _ _ _) rfl) rfl (by decide) (by decide)))))))
noncomputable abbrev jd:Stmt:=top 24
theorem Du:FnScope ["things"] ["things"] (fq jd):=⟨rfl,rfl,rfl,by decide +kernel,rfl,by decide +kernel,by decide +kernel⟩
theorem lG (bas:Bas K mg blts) (d:Def K mg "is_rising" jd ["things"]):Has P w K mg base cl 1 "is_rising" ["things"] K1.lQ :=
  gp (k:=0) (m:=K1.oW) d Du (fun f cdv A outer s H E n F0 hr=>(@fA _ _ _ _ _ (@fG _ _ _ _ _ _ (@iB _ _ _ _ _ _ _ _ _ _ _ _ false (jk rfl) okAll rfl (bas.nb "all" (by decide)) (by decide +kernel) (@fe _ _ _ _ _ _ _ (@iu _ _ _ (["at", "things"]) _ _ _ _ _ _ _ _ _ _ _ false rfl (gw (XN:=["things"]) (sc:=fq jd) (fun _=>rfl) rfl (by decide +kernel)) (@FP _ _ _ _ _ _ _ _ _ rfl (bas.nb "range" (by decide)) (@fe _ _ _ _ _ _ _ (@fj _ _ _ _ _ _) (@fe _ _ _ _ _ _ _ (@iB _ _ _ _ _ _ _ _ _ _ _ _ false gE okLen rfl (bas.nb "len" (by decide)) (by decide +kernel) (@fe _ _ _ _ _ _ _ (@pdv _ _ _ 0 _ _ rfl) (@fg _ _ _) rfl) rfl (by decide) (by decide)) (@fg _ _ _) rfl) rfl) rfl rfl) (fun _ _ _ _ _ _=>(@fL _ _ _ 0 _ (show (["at", "things"]:List Str).Nodup by decide +kernel) rfl (.inl rfl) (.inr rfl))) (fun _ _ _ _ _ _=>(@iM _ _ _)) (fun _ _ _ _ _ _=>(@Aq _ _ _ _ _ _ _ _ _ _ _ (Ar hr.units0) okLt (@gz _ _ _ _ _ _ _ _ _ _ gb okIx (@pdv _ _ _ 1 _ _ rfl) (@fC _ _ _ _ _ _ _ _ _ _ _ false jJ okSub (@pdv _ _ _ 0 _ _ rfl) (@fj _ _ _ _ _ _)) (fun _ _=>rfl)) (@gz _ _ _ _ _ _ _ _ _ _ gb okIx (@pdv _ _ _ 1 _ _ rfl) (@pdv _ _ _ 0 _ _ rfl) (fun _ _=>rfl)) (nomark _))) (by intro _ ;rfl)) (@fg _ _ _) rfl) rfl (by decide) (by decide)))))
noncomputable abbrev gS:Stmt:=top 35
theorem A8:FnScope ["thing", "many"] ["thing", "many"] (fq gS):=⟨rfl,rfl,rfl,by decide +kernel,rfl,by decide +kernel,by decide +kernel⟩
theorem iV (bas:Bas K mg blts) (d:Def K mg "is_pair_apart" gS ["thing", "many"]) (fS:Has P w K mg base cl 1 "is_tuple" ["thing", "fewest", "most"] K1.fT) (fV:Has P w K mg base cl 2 "is_within" ["thing", "least", "greatest"] K1.ge):Has P w K mg base cl 3 "is_pair_apart" ["thing", "many"] K1.iC :=
  gp (k:=2) (m:=K1.iU) d A8 (fun f cdv A outer s H E n F0 hr=>(@fB _ _ _ _ _ _ _ (@gR _ _ _ _ _ _ _ _ _ _ (@ir _ _ _ _ _ _ (@ig _ _ _ _ _ (@fI _ _ _ _ _ _ _ _ _ _ _ _ _ _ fS hr (by omega) rfl (@fz _) (@fe _ _ _ _ _ _ _ (@pdv _ _ _ 0 _ _ rfl) (@fe _ _ _ _ _ _ _ (@fj _ _ _ _ _ _) (@fe _ _ _ _ _ _ _ (@fj _ _ _ _ _ _) (@fg _ _ _) rfl) rfl) rfl) rfl rfl (by decide)) (by intro _ ;rfl))) (@fA _ _ _ _ _ (@fG _ _ _ _ _ _ (@jK _ _ _ _ _ _))) (@gF _ _ _)) (@fA _ _ _ _ _ (@fG _ _ _ _ _ _ (@im _ _ _ _ _ _ _ _ _ (@iB _ _ _ _ _ _ _ _ _ _ _ _ false (jk rfl) okAll rfl (bas.nb "all" (by decide)) (by decide +kernel) (@fe _ _ _ _ _ _ _ (@iu _ _ _ (["kind", "many"]) _ _ _ _ _ _ _ _ _ _ _ false rfl (gw (XN:=["thing", "many"]) (sc:=fq gS) (fun _=>rfl) rfl (by decide +kernel)) (@iy _ _ _ _ _ _ (@pdv _ _ _ 0 _ _ rfl)) (fun _ _ _ _ _ _=>(@fL _ _ _ 0 _ (show (["kind", "many"]:List Str).Nodup by decide +kernel) rfl (.inl rfl) (.inr rfl))) (fun _ _ _ _ _ _=>(@iM _ _ _)) (fun _ _ _ _ _ _=>(@fI _ _ _ _ _ _ _ _ _ _ _ _ _ _ fV hr (by omega) rfl (@fz _) (@fe _ _ _ _ _ _ _ (@pdv _ _ _ 0 _ _ rfl) (@fe _ _ _ _ _ _ _ (@fj _ _ _ _ _ _) (@fe _ _ _ _ _ _ _ (@fC _ _ _ _ _ _ _ _ _ _ _ false jJ okSub (@pdv _ _ _ 1 _ _ rfl) (@fj _ _ _ _ _ _)) (@fg _ _ _) rfl) rfl) rfl) rfl rfl (by decide))) (by intro _ ;rfl)) (@fg _ _ _) rfl) rfl (by decide) (by decide)) (@jx _ _ _ _ _ _ _ (@Aq _ _ _ _ _ _ _ _ _ _ _ (Ar hr.units0) okLt (@gz _ _ _ _ _ _ _ _ _ _ gb okIx (@pdv _ _ _ 0 _ _ rfl) (@fj _ _ _ _ _ _) (fun _ _=>rfl)) (@gz _ _ _ _ _ _ _ _ _ _ gb okIx (@pdv _ _ _ 0 _ _ rfl) (@fj _ _ _ _ _ _) (fun _ _=>rfl)) (nomark _))))))))
noncomputable abbrev jf:Stmt:=top 34
theorem Dv:FnScope ["thing", "many"] ["thing", "many"] (fq jf):=⟨rfl,rfl,rfl,by decide +kernel,rfl,by decide +kernel,by decide +kernel⟩
theorem lH (bas:Bas K mg blts) (d:Def K mg "are_apart" jf ["thing", "many"]) (lG:Has P w K mg base cl 1 "is_rising" ["things"] K1.lQ) (iV:Has P w K mg base cl 3 "is_pair_apart" ["thing", "many"] K1.iC):Has P w K mg base cl 4 "are_apart" ["thing", "many"] K1.ij :=
  gp (k:=3) (m:=K1.lA) d Dv (fun f cdv A outer s H E n F0 hr=>(@fB _ _ _ _ _ _ _ (@gR _ _ _ _ _ _ _ _ _ _ (@ir _ _ _ _ _ _ (@ig _ _ _ _ _ (@AJ _ _ _ _ _ _ _ _ _ _ bas.tt rfl (bas.nb "isinstance" (by decide)) rfl (bas.nb "tuple" (by decide)) (by decide +kernel) (@pdv _ _ _ 0 _ _ rfl) rfl (by decide) (by decide)) (by intro _ ;rfl))) (@fA _ _ _ _ _ (@fG _ _ _ _ _ _ (@jK _ _ _ _ _ _))) (@gF _ _ _)) (@fA _ _ _ _ _ (@fG _ _ _ _ _ _ (@im _ _ _ _ _ _ _ _ _ (@iB _ _ _ _ _ _ _ _ _ _ _ _ false (jk rfl) okAll rfl (bas.nb "all" (by decide)) (by decide +kernel) (@fe _ _ _ _ _ _ _ (@iu _ _ _ (["pair", "many"]) _ _ _ _ _ _ _ _ _ _ _ false rfl (gw (XN:=["thing", "many"]) (sc:=fq jf) (fun _=>rfl) rfl (by decide +kernel)) (@iy _ _ _ _ _ _ (@pdv _ _ _ 0 _ _ rfl)) (fun _ _ _ _ _ _=>(@fL _ _ _ 0 _ (show (["pair", "many"]:List Str).Nodup by decide +kernel) rfl (.inl rfl) (.inr rfl))) (fun _ _ _ _ _ _=>(@iM _ _ _)) (fun _ _ _ _ _ _=>(@fI _ _ _ _ _ _ _ _ _ _ _ _ _ _ iV hr (by omega) rfl (@fz _) (@fe _ _ _ _ _ _ _ (@pdv _ _ _ 0 _ _ rfl) (@fe _ _ _ _ _ _ _ (@pdv _ _ _ 1 _ _ rfl) (@fg _ _ _) rfl) rfl) rfl rfl (by decide))) (by intro _ ;rfl)) (@fg _ _ _) rfl) rfl (by decide) (by decide)) (@jx _ _ _ _ _ _ _ (@fI _ _ _ _ _ _ _ _ _ _ _ _ _ _ lG hr (by omega) rfl (@fz _) (@fe _ _ _ _ _ _ _ (@pdv _ _ _ 0 _ _ rfl) (@fg _ _ _) rfl) rfl rfl (by decide))))))))
noncomputable abbrev j6:Stmt:=top 29
theorem lI:FnScope ["thing", "rooms", "kinds", "apart", "hold"] ["thing"] (fq j6):=⟨rfl,rfl,rfl,by decide +kernel,rfl,by decide +kernel,by decide +kernel⟩
theorem mH (bas:Bas K mg blts) (d:Def K mg "is_house" j6 ["thing"]) (fS:Has P w K mg base cl 1 "is_tuple" ["thing", "fewest", "most"] K1.fT) (lD:Has P w K mg base cl 3 "are_rooms" ["thing"] K1.jM) (lF:Has P w K mg base cl 5 "are_kinds" ["thing"] K1.jN) (lH:Has P w K mg base cl 4 "are_apart" ["thing", "many"] K1.ij) (fV:Has P w K mg base cl 2 "is_within" ["thing", "least", "greatest"] K1.ge):Has P w K mg base cl 6 "is_house" ["thing"] K1.iH :=
  gp (k:=5) (m:=K1.mz) d lI (fun f cdv A outer s H E n F0 hr=>(@fB _ _ _ _ _ _ _ (@gR _ _ _ _ _ _ _ _ _ _ (@ir _ _ _ _ _ _ (@ig _ _ _ _ _ (@fI _ _ _ _ _ _ _ _ _ _ _ _ _ _ fS hr (by omega) rfl (@fz _) (@fe _ _ _ _ _ _ _ (@pdv _ _ _ 0 _ _ rfl) (@fe _ _ _ _ _ _ _ (@fj _ _ _ _ _ _) (@fe _ _ _ _ _ _ _ (@fj _ _ _ _ _ _) (@fg _ _ _) rfl) rfl) rfl) rfl rfl (by decide)) (by intro _ ;rfl))) (@fA _ _ _ _ _ (@fG _ _ _ _ _ _ (@jK _ _ _ _ _ _))) (@gF _ _ _)) (@fB _ _ _ _ _ _ _ (@CY _ _ _ _ _ _ _ _ (@pdv _ _ _ 0 _ _ rfl) (@Bc _ _ _ _ _ _ _ rfl (@iO _ _ _ _ _ _ (@fL _ _ _ 1 _ lI.nd rfl (.inl rfl) (.inr rfl)) (@iO _ _ _ _ _ _ (@fL _ _ _ 2 _ lI.nd rfl (.inl rfl) (.inr rfl)) (@iO _ _ _ _ _ _ (@fL _ _ _ 3 _ lI.nd rfl (.inl rfl) (.inr rfl)) (@iO _ _ _ _ _ _ (@fL _ _ _ 4 _ lI.nd rfl (.inl rfl) (.inr rfl)) (@lv _ _) rfl) rfl) rfl) rfl) rfl rfl) rfl rfl rfl) (@fA _ _ _ _ _ (@fG _ _ _ _ _ _ (@im _ _ _ _ _ _ _ _ _ (@fI _ _ _ _ _ _ _ _ _ _ _ _ _ _ lD hr (by omega) rfl (@fz _) (@fe _ _ _ _ _ _ _ (@pdv _ _ _ 1 _ _ rfl) (@fg _ _ _) rfl) rfl rfl (by decide)) (@im _ _ _ _ _ _ _ _ _ (@fI _ _ _ _ _ _ _ _ _ _ _ _ _ _ lF hr (by omega) rfl (@fz _) (@fe _ _ _ _ _ _ _ (@pdv _ _ _ 2 _ _ rfl) (@fg _ _ _) rfl) rfl rfl (by decide)) (@im _ _ _ _ _ _ _ _ _ (@fI _ _ _ _ _ _ _ _ _ _ _ _ _ _ lH hr (by omega) rfl (@fz _) (@fe _ _ _ _ _ _ _ (@pdv _ _ _ 3 _ _ rfl) (@fe _ _ _ _ _ _ _ (@iB _ _ _ _ _ _ _ _ _ _ _ _ false gE okLen rfl (bas.nb "len" (by decide)) (by decide +kernel) (@fe _ _ _ _ _ _ _ (@pdv _ _ _ 2 _ _ rfl) (@fg _ _ _) rfl) rfl (by decide) (by decide)) (@fg _ _ _) rfl) rfl) rfl rfl (by decide)) (@jx _ _ _ _ _ _ _ (@fI _ _ _ _ _ _ _ _ _ _ _ _ _ _ fV hr (by omega) rfl (@fz _) (@fe _ _ _ _ _ _ _ (@pdv _ _ _ 4 _ _ rfl) (@fe _ _ _ _ _ _ _ (@fj _ _ _ _ _ _) (@fe _ _ _ _ _ _ _ (@fj _ _ _ _ _ _) (@fg _ _ _) rfl) rfl) rfl) rfl rfl (by decide)))))))))))
noncomputable abbrev jm:Stmt:=top 36
theorem Cl:FnScope ["thing"] ["thing"] (fq jm):=⟨rfl,rfl,rfl,by decide +kernel,rfl,by decide +kernel,by decide +kernel⟩
theorem jT (bas:Bas K mg blts) (d:Def K mg "need_house" jm ["thing"]) (ext:ExT K mg R cl) (mH:Has P w K mg base cl 6 "is_house" ["thing"] K1.iH):Has P w K mg base cl 7 "need_house" ["thing"] K2.lg :=
  AK (k:=6) (m:=K2.jO) d Cl (fun f cdv A outer s H E n F0 hr=>(@fA _ _ _ _ _ (@gR _ _ _ _ _ _ _ _ _ _ (@ir _ _ _ _ _ _ (@ig _ _ _ _ _ (@fI _ _ _ _ _ _ _ _ _ _ _ _ _ _ mH hr (by omega) rfl ii.passes (@fe _ _ _ _ _ _ _ (@pdv _ _ _ 0 _ _ rfl) (@fg _ _ _) rfl) rfl rfl (by decide)) (by intro _ ;rfl))) (@fA _ _ _ _ _ (@Ah _ _ _ _ _ _ _ _ _ _ 0 ext rfl ii rfl rfl (@lM _ _ _ _ _ _) (by decide) rfl (by decide))) (@gF _ _ _))))
noncomputable abbrev jg:Stmt:=top 39
theorem Dw:FnScope ["outs"] ["outs"] (fq jg):=⟨rfl,rfl,rfl,by decide +kernel,rfl,by decide +kernel,by decide +kernel⟩
theorem lJ (bas:Bas K mg blts) (d:Def K mg "lie_apart" jg ["outs"]):Has P w K mg base cl 1 "lie_apart" ["outs"] K2.lT :=
  gp (k:=0) (m:=K2.lB) d Dw (fun f cdv A outer s H E n F0 hr=>(@fA _ _ _ _ _ (@fG _ _ _ _ _ _ (@iB _ _ _ _ _ _ _ _ _ _ _ _ false (jk rfl) okAll rfl (bas.nb "all" (by decide)) (by decide +kernel) (@fe _ _ _ _ _ _ _ (@iu _ _ _ (["ahead", "behind"]) _ _ _ _ _ _ _ _ _ _ _ false rfl (gw (XN:=["outs"]) (sc:=fq jg) (fun _=>rfl) rfl (by decide +kernel)) (@GI _ _ _ _ _ _ _ _ _ _ _ rfl (bas.nb "zip" (by decide)) (@fe _ _ _ _ _ _ _ (@pdv _ _ _ 0 _ _ rfl) (@fe _ _ _ _ _ _ _ (@iT _ _ _ _ _ _ _ _ _ _ _ false (@pdv _ _ _ 0 _ _ rfl) (@iz _ _ _ _ _ (@fj _ _ _ _ _ _)) (@mt _ _ _)) (@fg _ _ _) rfl) rfl) rfl rfl) (fun _ _ _ _ _ _=>(@Bc _ _ _ _ _ _ _ rfl (@iO _ _ _ _ _ _ (@fL _ _ _ 0 _ (show (["ahead", "behind"]:List Str).Nodup by decide +kernel) rfl (.inl rfl) (.inr rfl)) (@iO _ _ _ _ _ _ (@fL _ _ _ 1 _ (show (["ahead", "behind"]:List Str).Nodup by decide +kernel) rfl (.inl rfl) (.inr rfl)) (@lv _ _) rfl) rfl) rfl rfl)) (fun _ _ _ _ _ _=>(@iM _ _ _)) (fun _ _ _ _ _ _=>(@Aq _ _ _ _ _ _ _ _ _ _ _ (Ar hr.units0) okLt (@gz _ _ _ _ _ _ _ _ _ _ gb okIx (@pdv _ _ _ 0 _ _ rfl) (@fj _ _ _ _ _ _) (fun _ _=>rfl)) (@gz _ _ _ _ _ _ _ _ _ _ gb okIx (@pdv _ _ _ 1 _ _ rfl) (@fj _ _ _ _ _ _) (fun _ _=>rfl)) (nomark _))) (by intro _ ;rfl)) (@fg _ _ _) rfl) rfl (by decide) (by decide)))))
noncomputable abbrev mh:Stmt:=top 22
theorem Gh:FnScope ["thing"] ["thing"] (fq mh):=⟨rfl,rfl,rfl,by decide +kernel,rfl,by decide +kernel,by decide +kernel⟩
theorem jn (bas:Bas K mg blts) (d:Def K mg "is_hour" mh ["thing"]) (ja:Has P w K mg base cl 1 "is_whole" ["thing"] K1.jD):Has P w K mg base cl 2 "is_hour" ["thing"] K2.i5 :=
  gp (k:=1) (m:=K2.A0) d Gh (fun f cdv A outer s H E n F0 hr=>(@fA _ _ _ _ _ (@fG _ _ _ _ _ _ (@im _ _ _ _ _ _ _ _ _ (@fI _ _ _ _ _ _ _ _ _ _ _ _ _ _ ja hr (by omega) rfl (@fz _) (@fe _ _ _ _ _ _ _ (@pdv _ _ _ 0 _ _ rfl) (@fg _ _ _) rfl) rfl rfl (by decide)) (@jx _ _ _ _ _ _ _ (@Aq _ _ _ _ _ _ _ _ _ _ _ JY okGeI (@pdv _ _ _ 0 _ _ rfl) (@fj _ _ _ _ _ _) (nomark _)))))))
noncomputable abbrev oj:Stmt:=top 38
theorem JL:FnScope ["thing"] ["thing"] (fq oj):=⟨rfl,rfl,rfl,by decide +kernel,rfl,by decide +kernel,by decide +kernel⟩
theorem Aa (bas:Bas K mg blts) (d:Def K mg "is_out" oj ["thing"]) (fS:Has P w K mg base cl 1 "is_tuple" ["thing", "fewest", "most"] K1.fT) (jn:Has P w K mg base cl 2 "is_hour" ["thing"] K2.i5):Has P w K mg base cl 3 "is_out" ["thing"] K2.oa :=
  gp (k:=2) (m:=K2.oY) d JL (fun f cdv A outer s H E n F0 hr=>(@fA _ _ _ _ _ (@fG _ _ _ _ _ _ (@im _ _ _ _ _ _ _ _ _ (@fI _ _ _ _ _ _ _ _ _ _ _ _ _ _ fS hr (by omega) rfl (@fz _) (@fe _ _ _ _ _ _ _ (@pdv _ _ _ 0 _ _ rfl) (@fe _ _ _ _ _ _ _ (@fj _ _ _ _ _ _) (@fe _ _ _ _ _ _ _ (@fj _ _ _ _ _ _) (@fg _ _ _) rfl) rfl) rfl) rfl rfl (by decide)) (@im _ _ _ _ _ _ _ _ _ (@fI _ _ _ _ _ _ _ _ _ _ _ _ _ _ jn hr (by omega) rfl (@fz _) (@fe _ _ _ _ _ _ _ (@gz _ _ _ _ _ _ _ _ _ _ gb okIx (@pdv _ _ _ 0 _ _ rfl) (@fj _ _ _ _ _ _) (fun _ _=>rfl)) (@fg _ _ _) rfl) rfl rfl (by decide)) (@im _ _ _ _ _ _ _ _ _ (@fI _ _ _ _ _ _ _ _ _ _ _ _ _ _ jn hr (by omega) rfl (@fz _) (@fe _ _ _ _ _ _ _ (@gz _ _ _ _ _ _ _ _ _ _ gb okIx (@pdv _ _ _ 0 _ _ rfl) (@fj _ _ _ _ _ _) (fun _ _=>rfl)) (@fg _ _ _) rfl) rfl rfl (by decide)) (@jx _ _ _ _ _ _ _ (@Aq _ _ _ _ _ _ _ _ _ _ _ (Ar hr.units0) okLt (@gz _ _ _ _ _ _ _ _ _ _ gb okIx (@pdv _ _ _ 0 _ _ rfl) (@fj _ _ _ _ _ _) (fun _ _=>rfl)) (@gz _ _ _ _ _ _ _ _ _ _ gb okIx (@pdv _ _ _ 0 _ _ rfl) (@fj _ _ _ _ _ _) (fun _ _=>rfl)) (nomark _)))))))))
noncomputable abbrev jA:Stmt:=top 37
theorem FA:FnScope ["house", "thing"] ["house", "thing"] (fq jA):=⟨rfl,rfl,rfl,by decide +kernel,rfl,by decide +kernel,by decide +kernel⟩
theorem jh (bas:Bas K mg blts) (d:Def K mg "are_outs" jA ["house", "thing"]) (gl_MOST_OUTS:∃ t,mg "MOST_OUTS"=some (.int 4 t)) (jT:Has P w K mg base cl 7 "need_house" ["thing"] K2.lg) (fS:Has P w K mg base cl 1 "is_tuple" ["thing", "fewest", "most"] K1.fT) (lJ:Has P w K mg base cl 1 "lie_apart" ["outs"] K2.lT) (Aa:Has P w K mg base cl 3 "is_out" ["thing"] K2.oa):Has P w K mg base cl 8 "are_outs" ["house", "thing"] K2.iJ :=
  AK (k:=7) (m:=K2.mC) d FA (fun f cdv A outer s H E n F0 hr=>(@fB _ _ _ _ _ _ _ (@oU _ _ _ _ _ _ (@fI _ _ _ _ _ _ _ _ _ _ _ _ _ _ jT hr (by omega) rfl ii.passes (@fe _ _ _ _ _ _ _ (@pdv _ _ _ 0 _ _ rfl) (@fg _ _ _) rfl) rfl rfl (by decide)) rfl) (@fA _ _ _ _ _ (@fG _ _ _ _ _ _ (@im _ _ _ _ _ _ _ _ _ (@fI _ _ _ _ _ _ _ _ _ _ _ _ _ _ fS hr (by omega) rfl ii.passes (@fe _ _ _ _ _ _ _ (@pdv _ _ _ 1 _ _ rfl) (@fe _ _ _ _ _ _ _ (@fj _ _ _ _ _ _) (@fe _ _ _ _ _ _ _ (@Bn _ _ _ _ _ _ rfl gl_MOST_OUTS (by decide)) (@fg _ _ _) rfl) rfl) rfl) rfl rfl (by decide)) (@im _ _ _ _ _ _ _ _ _ (@iB _ _ _ _ _ _ _ _ _ _ _ _ false (jk rfl) okAll rfl (bas.nb "all" (by decide)) (by decide +kernel) (@fe _ _ _ _ _ _ _ (@iu _ _ _ (["out"]) _ _ _ _ _ _ _ _ _ _ _ false rfl (gw (XN:=["house", "thing"]) (sc:=fq jA) (fun _=>rfl) rfl (by decide +kernel)) (@iy _ _ _ _ _ _ (@pdv _ _ _ 1 _ _ rfl)) (fun _ _ _ _ _ _=>(@fL _ _ _ 0 _ (show (["out"]:List Str).Nodup by decide +kernel) rfl (.inl rfl) (.inr rfl))) (fun _ _ _ _ _ _=>(@iM _ _ _)) (fun _ _ _ _ _ _=>(@fI _ _ _ _ _ _ _ _ _ _ _ _ _ _ Aa hr (by omega) rfl (@fz _) (@fe _ _ _ _ _ _ _ (@pdv _ _ _ 0 _ _ rfl) (@fg _ _ _) rfl) rfl rfl (by decide))) (by intro _ ;rfl)) (@fg _ _ _) rfl) rfl (by decide) (by decide)) (@jx _ _ _ _ _ _ _ (@fI _ _ _ _ _ _ _ _ _ _ _ _ _ _ lJ hr (by omega) rfl ii.passes (@fe _ _ _ _ _ _ _ (@pdv _ _ _ 1 _ _ rfl) (@fg _ _ _) rfl) rfl rfl (by decide)))))))))
noncomputable abbrev jH:Stmt:=top 40
theorem Dx:FnScope ["house", "thing"] ["house", "thing"] (fq jH):=⟨rfl,rfl,rfl,by decide +kernel,rfl,by decide +kernel,by decide +kernel⟩
theorem lK (bas:Bas K mg blts) (d:Def K mg "need_outs" jH ["house", "thing"]) (ext:ExT K mg R cl) (jh:Has P w K mg base cl 8 "are_outs" ["house", "thing"] K2.iJ):Has P w K mg base cl 9 "need_outs" ["house", "thing"] K2.jP :=
  AK (k:=8) (m:=K2.Bd) d Dx (fun f cdv A outer s H E n F0 hr=>(@fA _ _ _ _ _ (@gR _ _ _ _ _ _ _ _ _ _ (@ir _ _ _ _ _ _ (@ig _ _ _ _ _ (@fI _ _ _ _ _ _ _ _ _ _ _ _ _ _ jh hr (by omega) rfl ii.passes (@fe _ _ _ _ _ _ _ (@pdv _ _ _ 0 _ _ rfl) (@fe _ _ _ _ _ _ _ (@pdv _ _ _ 1 _ _ rfl) (@fg _ _ _) rfl) rfl) rfl rfl (by decide)) (by intro _ ;rfl))) (@fA _ _ _ _ _ (@Ah _ _ _ _ _ _ _ _ _ _ 1 ext rfl ii rfl rfl (@lM _ _ _ _ _ _) (by decide) rfl (by decide))) (@gF _ _ _))))
noncomputable abbrev jI:Stmt:=top 25
theorem Dy:FnScope ["thing"] ["thing"] (fq jI):=⟨rfl,rfl,rfl,by decide +kernel,rfl,by decide +kernel,by decide +kernel⟩
theorem lL (bas:Bas K mg blts) (d:Def K mg "need_hour" jI ["thing"]) (ext:ExT K mg R cl) (jn:Has P w K mg base cl 2 "is_hour" ["thing"] K2.i5):Has P w K mg base cl 3 "need_hour" ["thing"] K2.lU :=
  AK (k:=2) (m:=K2.Be) d Dy (fun f cdv A outer s H E n F0 hr=>(@fA _ _ _ _ _ (@gR _ _ _ _ _ _ _ _ _ _ (@ir _ _ _ _ _ _ (@ig _ _ _ _ _ (@fI _ _ _ _ _ _ _ _ _ _ _ _ _ _ jn hr (by omega) rfl ii.passes (@fe _ _ _ _ _ _ _ (@pdv _ _ _ 0 _ _ rfl) (@fg _ _ _) rfl) rfl rfl (by decide)) (by intro _ ;rfl))) (@fA _ _ _ _ _ (@Ah _ _ _ _ _ _ _ _ _ _ 3 ext rfl ii rfl rfl (@lM _ _ _ _ _ _) (by decide) rfl (by decide))) (@gF _ _ _))))
noncomputable abbrev iF:Stmt:=top 43
theorem ju:FnScope ["house", "outs", "room", "hour", "cold", "begin", "end"] ["house", "outs", "room", "hour"] (fq iF):=⟨rfl,rfl,rfl,by decide +kernel,rfl,by decide +kernel,by decide +kernel⟩
theorem ji (bas:Bas K mg blts) (d:Def K mg "cold_by_outs" iF ["house", "outs", "room", "hour"]):Has P w K mg base cl 1 "cold_by_outs" ["house", "outs", "room", "hour"] K2.jt :=
  gp (k:=0) (m:=K2.jQ) d ju (fun f cdv A outer s H E n F0 hr=>(@fB _ _ _ _ _ _ _ (@gk _ _ _ _ _ _ 4 _ _ (@gz _ _ _ _ _ _ _ _ _ _ gb okIx (@gz _ _ _ _ _ _ _ _ _ _ gb okIx (@pdv _ _ _ 0 _ _ rfl) (@fj _ _ _ _ _ _) (fun _ _=>rfl)) (@pdv _ _ _ 2 _ _ rfl) (fun _ _=>rfl)) ju.nd rfl (.inl rfl) rfl (.inr rfl)) (@fB _ _ _ _ _ _ _ (@js _ _ _ _ _ _ _ _ _ _ PassesOwn.never rfl (@iy _ _ _ _ _ _ (@pdv _ _ _ 1 _ _ rfl)) (@Bc _ _ _ _ _ _ _ rfl (@iO _ _ _ _ _ _ (@fL _ _ _ 5 _ ju.nd rfl (.inl rfl) (.inr rfl)) (@iO _ _ _ _ _ _ (@fL _ _ _ 6 _ ju.nd rfl (.inl rfl) (.inr rfl)) (@lv _ _) rfl) rfl) rfl rfl) (@fA _ _ _ _ _ (@gR _ _ _ _ _ _ _ _ _ _ (@Ct _ _ _ _ _ _ _ _ _ _ _ _ _ _ _ _ (mv hr.units0) (Ar hr.units0) okLe okLt (@pdv _ _ _ 5 _ _ rfl) (@pdv _ _ _ 3 _ _ rfl) (@pdv _ _ _ 6 _ _ rfl) (by with_unfolding_all rfl)) (@fA _ _ _ _ _ (@fG _ _ _ _ _ _ (@iB _ _ _ _ _ _ _ _ _ _ _ _ false (Ab rfl) okMax rfl (bas.nb "max" (by decide)) (by decide +kernel) (@fe _ _ _ _ _ _ _ (@fj _ _ _ _ _ _) (@fe _ _ _ _ _ _ _ (@fC _ _ _ _ _ _ _ _ _ _ _ false jJ okSub (@pdv _ _ _ 4 _ _ rfl) (@fC _ _ _ _ _ _ _ _ _ _ _ false CM okFdiv (@fC _ _ _ _ _ _ _ _ _ _ _ false jJ okSub (@pdv _ _ _ 3 _ _ rfl) (@pdv _ _ _ 5 _ _ rfl)) (@gz _ _ _ _ _ _ _ _ _ _ gb okIx (@pdv _ _ _ 0 _ _ rfl) (@fj _ _ _ _ _ _) (fun _ _=>rfl)))) (@fg _ _ _) rfl) rfl) rfl (by decide) (by decide)))) (@gF _ _ _))) (by intro _ ;rfl)) (@fA _ _ _ _ _ (@fG _ _ _ _ _ _ (@pdv _ _ _ 4 _ _ rfl))))))
noncomputable abbrev ml:Stmt:=top 41
theorem Gi:FnScope ["house", "thing"] ["house", "thing"] (fq ml):=⟨rfl,rfl,rfl,by decide +kernel,rfl,by decide +kernel,by decide +kernel⟩
theorem ol (bas:Bas K mg blts) (d:Def K mg "is_room" ml ["house", "thing"]) (fV:Has P w K mg base cl 2 "is_within" ["thing", "least", "greatest"] K1.ge):Has P w K mg base cl 3 "is_room" ["house", "thing"] K2.mD :=
  gp (k:=2) (m:=K2.CG) d Gi (fun f cdv A outer s H E n F0 hr=>(@fA _ _ _ _ _ (@fG _ _ _ _ _ _ (@fI _ _ _ _ _ _ _ _ _ _ _ _ _ _ fV hr (by omega) rfl (@fz _) (@fe _ _ _ _ _ _ _ (@pdv _ _ _ 1 _ _ rfl) (@fe _ _ _ _ _ _ _ (@fj _ _ _ _ _ _) (@fe _ _ _ _ _ _ _ (@fC _ _ _ _ _ _ _ _ _ _ _ false jJ okSub (@iB _ _ _ _ _ _ _ _ _ _ _ _ false gE okLen rfl (bas.nb "len" (by decide)) (by decide +kernel) (@fe _ _ _ _ _ _ _ (@gz _ _ _ _ _ _ _ _ _ _ gb okIx (@pdv _ _ _ 0 _ _ rfl) (@fj _ _ _ _ _ _) (fun _ _=>rfl)) (@fg _ _ _) rfl) rfl (by decide) (by decide)) (@fj _ _ _ _ _ _)) (@fg _ _ _) rfl) rfl) rfl) rfl rfl (by decide)))))
noncomputable abbrev mm:Stmt:=top 42
theorem Gj:FnScope ["house", "outs", "room", "hour"] ["house", "outs", "room", "hour"] (fq mm):=⟨rfl,rfl,rfl,by decide +kernel,rfl,by decide +kernel,by decide +kernel⟩
theorem om (bas:Bas K mg blts) (d:Def K mg "cold_at" mm ["house", "outs", "room", "hour"]) (ext:ExT K mg R cl) (lK:Has P w K mg base cl 9 "need_outs" ["house", "thing"] K2.jP) (lL:Has P w K mg base cl 3 "need_hour" ["thing"] K2.lU) (ji:Has P w K mg base cl 1 "cold_by_outs" ["house", "outs", "room", "hour"] K2.jt) (ol:Has P w K mg base cl 3 "is_room" ["house", "thing"] K2.mD):Has P w K mg base cl 10 "cold_at" ["house", "outs", "room", "hour"] K2.Ax :=
  AK (k:=9) (m:=K2.Aj) d Gj (fun f cdv A outer s H E n F0 hr=>(@fB _ _ _ _ _ _ _ (@oU _ _ _ _ _ _ (@fI _ _ _ _ _ _ _ _ _ _ _ _ _ _ lK hr (by omega) rfl ii.passes (@fe _ _ _ _ _ _ _ (@pdv _ _ _ 0 _ _ rfl) (@fe _ _ _ _ _ _ _ (@pdv _ _ _ 1 _ _ rfl) (@fg _ _ _) rfl) rfl) rfl rfl (by decide)) rfl) (@fB _ _ _ _ _ _ _ (@gR _ _ _ _ _ _ _ _ _ _ (@ir _ _ _ _ _ _ (@ig _ _ _ _ _ (@fI _ _ _ _ _ _ _ _ _ _ _ _ _ _ ol hr (by omega) rfl ii.passes (@fe _ _ _ _ _ _ _ (@pdv _ _ _ 0 _ _ rfl) (@fe _ _ _ _ _ _ _ (@pdv _ _ _ 2 _ _ rfl) (@fg _ _ _) rfl) rfl) rfl rfl (by decide)) (by intro _ ;rfl))) (@fA _ _ _ _ _ (@Ah _ _ _ _ _ _ _ _ _ _ 2 ext rfl ii rfl rfl (@lM _ _ _ _ _ _) (by decide) rfl (by decide))) (@gF _ _ _)) (@fB _ _ _ _ _ _ _ (@oU _ _ _ _ _ _ (@fI _ _ _ _ _ _ _ _ _ _ _ _ _ _ lL hr (by omega) rfl ii.passes (@fe _ _ _ _ _ _ _ (@pdv _ _ _ 3 _ _ rfl) (@fg _ _ _) rfl) rfl rfl (by decide)) rfl) (@fA _ _ _ _ _ (@fG _ _ _ _ _ _ (@fI _ _ _ _ _ _ _ _ _ _ _ _ _ _ ji hr (by omega) rfl ii.passes (@fe _ _ _ _ _ _ _ (@pdv _ _ _ 0 _ _ rfl) (@fe _ _ _ _ _ _ _ (@pdv _ _ _ 1 _ _ rfl) (@fe _ _ _ _ _ _ _ (@pdv _ _ _ 2 _ _ rfl) (@fe _ _ _ _ _ _ _ (@pdv _ _ _ 3 _ _ rfl) (@fg _ _ _) rfl) rfl) rfl) rfl) rfl rfl (by decide))))))))
noncomputable abbrev j7:Stmt:=top 60
theorem Bh:FnScope ["_law_house_here", "_law_outs_here", "_law_room", "_law_hour", "_law_e"] ["_law_house_here", "_law_outs_here", "_law_room", "_law_hour"] (fq j7):=⟨rfl,rfl,rfl,by decide +kernel,rfl,by decide +kernel,by decide +kernel⟩
theorem j8 (bas:Bas K mg blts) (d:Def K mg "_law_told" j7 ["_law_house_here", "_law_outs_here", "_law_room", "_law_hour"]) (ext:ExT K mg R cl) (hw:HasW P w K mg base cl) (om:Has P w K mg base cl 10 "cold_at" ["house", "outs", "room", "hour"] K2.Ax):Has P w K mg base cl 11 "_law_told" ["_law_house_here", "_law_outs_here", "_law_room", "_law_hour"] K2.ia :=
  gp (k:=10) (m:=K2.oE) d Bh (fun f cdv A outer s H E n F0 hr=>(@fA _ _ _ _ _ (@MP _ _ _ _ _ _ _ _ _ _ _ _ _ 4 _ _ _ ext hw hr (by omega) rfl rfl rfl rfl rfl Bh.nd rfl rfl (fun pn E=>(@fA _ _ _ _ _ (@fG _ _ _ _ _ _ (@fI _ _ _ _ _ _ _ _ _ _ _ _ _ _ om hr (by omega) rfl Jk.passes (@fe _ _ _ _ _ _ _ (@pdv _ _ _ 0 _ _ rfl) (@fe _ _ _ _ _ _ _ (@pdv _ _ _ 1 _ _ rfl) (@fe _ _ _ _ _ _ _ (@pdv _ _ _ 2 _ _ rfl) (@fe _ _ _ _ _ _ _ (@pdv _ _ _ 3 _ _ rfl) (@fg _ _ _) rfl) rfl) rfl) rfl) rfl rfl (by decide))))) (by first | exact Or.inl rfl | exact Or.inr ( Or.inl rfl ) | exact Or.inr ( Or.inr rfl )) (by decide) (by decide))))
noncomputable abbrev iY:Stmt:=top 56
theorem Cb:FnScope ["_law_thing"] ["_law_thing"] (fq iY):=⟨rfl,rfl,rfl,by decide +kernel,rfl,by decide +kernel,by decide +kernel⟩
theorem gN (bas:Bas K mg blts) (d:Def K mg "_law_is_hour" iY ["_law_thing"]) (gM:Has P w K mg base cl 1 "_law_whole" ["_law_thing"] K1.gL):Has P w K mg base cl 2 "_law_is_hour" ["_law_thing"] K2.gP :=
  gp (k:=1) (m:=K2.mX) d Cb (fun f cdv A outer s H E n F0 hr=>(@fA _ _ _ _ _ (@fG _ _ _ _ _ _ (@im _ _ _ _ _ _ _ _ _ (@fI _ _ _ _ _ _ _ _ _ _ _ _ _ _ gM hr (by omega) rfl (@fz _) (@fe _ _ _ _ _ _ _ (@pdv _ _ _ 0 _ _ rfl) (@fg _ _ _) rfl) rfl rfl (by decide)) (@jx _ _ _ _ _ _ _ (@Aq _ _ _ _ _ _ _ _ _ _ _ JY okGeI (@pdv _ _ _ 0 _ _ rfl) (@fj _ _ _ _ _ _) (nomark _)))))))
noncomputable abbrev iG:Stmt:=top 57
theorem jv:FnScope ["_law_thing", "_law_behind", "_law_one"] ["_law_thing"] (fq iG):=⟨rfl,rfl,rfl,by decide +kernel,rfl,by decide +kernel,by decide +kernel⟩
theorem gQ (bas:Bas K mg blts) (d:Def K mg "_law_are_outs" iG ["_law_thing"]) (gN:Has P w K mg base cl 2 "_law_is_hour" ["_law_thing"] K2.gP):Has P w K mg base cl 3 "_law_are_outs" ["_law_thing"] K2.gG :=
  gp (k:=2) (m:=K2.i6) d jv (fun f cdv A outer s H E n F0 hr=>(@fB _ _ _ _ _ _ _ (@gR _ _ _ _ _ _ _ _ _ _ (@BD _ _ _ _ _ (@oT _ _ _ _ _ _ _ _ _ (@ir _ _ _ _ _ _ (@ig _ _ _ _ _ (@AJ _ _ _ _ _ _ _ _ _ _ bas.tt rfl (bas.nb "isinstance" (by decide)) rfl (bas.nb "tuple" (by decide)) (by decide +kernel) (@pdv _ _ _ 0 _ _ rfl) rfl (by decide) (by decide)) (by intro _ ;rfl))) (@Ad _ _ _ _ _ _ (@iq _ _ _ _ _ _ _ _ _ _ _ Nc okGtI (@iB _ _ _ _ _ _ _ _ _ _ _ _ false gE okLen rfl (bas.nb "len" (by decide)) (by decide +kernel) (@fe _ _ _ _ _ _ _ (@pdv _ _ _ 0 _ _ rfl) (@fg _ _ _) rfl) rfl (by decide) (by decide)) (@fj _ _ _ _ _ _) (nomark _))))) (@fA _ _ _ _ _ (@fG _ _ _ _ _ _ (@jK _ _ _ _ _ _))) (@gF _ _ _)) (@fB _ _ _ _ _ _ _ (@gk _ _ _ _ _ _ 1 _ _ (@oy _ _ _ _ _ _ (@fj _ _ _ _ _ _)) jv.nd rfl (.inl rfl) rfl (.inr rfl)) (@fB _ _ _ _ _ _ _ (@js _ _ _ _ _ _ _ _ _ _ PassesOwn.never rfl (@iy _ _ _ _ _ _ (@pdv _ _ _ 0 _ _ rfl)) (@fL _ _ _ 2 _ jv.nd rfl (.inl rfl) (.inr rfl)) (@fB _ _ _ _ _ _ _ (@gR _ _ _ _ _ _ _ _ _ _ (@BD _ _ _ _ _ (@oT _ _ _ _ _ _ _ _ _ (@ir _ _ _ _ _ _ (@ig _ _ _ _ _ (@AJ _ _ _ _ _ _ _ _ _ _ bas.tt rfl (bas.nb "isinstance" (by decide)) rfl (bas.nb "tuple" (by decide)) (by decide +kernel) (@pdv _ _ _ 2 _ _ rfl) rfl (by decide) (by decide)) (by intro _ ;rfl))) (@oT _ _ _ _ _ _ _ _ _ (@iq _ _ _ _ _ _ _ _ _ _ _ (BF hr.units0) okNe (@iB _ _ _ _ _ _ _ _ _ _ _ _ false gE okLen rfl (bas.nb "len" (by decide)) (by decide +kernel) (@fe _ _ _ _ _ _ _ (@pdv _ _ _ 2 _ _ rfl) (@fg _ _ _) rfl) rfl (by decide) (by decide)) (@fj _ _ _ _ _ _) (nomark _)) (@oT _ _ _ _ _ _ _ _ _ (@ir _ _ _ _ _ _ (@ig _ _ _ _ _ (@fI _ _ _ _ _ _ _ _ _ _ _ _ _ _ gN hr (by omega) rfl (@fz _) (@fe _ _ _ _ _ _ _ (@gz _ _ _ _ _ _ _ _ _ _ gb okIx (@pdv _ _ _ 2 _ _ rfl) (@fj _ _ _ _ _ _) (fun _ _=>rfl)) (@fg _ _ _) rfl) rfl rfl (by decide)) (by intro _ ;rfl))) (@Ad _ _ _ _ _ _ (@ir _ _ _ _ _ _ (@ig _ _ _ _ _ (@fI _ _ _ _ _ _ _ _ _ _ _ _ _ _ gN hr (by omega) rfl (@fz _) (@fe _ _ _ _ _ _ _ (@gz _ _ _ _ _ _ _ _ _ _ gb okIx (@pdv _ _ _ 2 _ _ rfl) (@fj _ _ _ _ _ _) (fun _ _=>rfl)) (@fg _ _ _) rfl) rfl rfl (by decide)) (by intro _ ;rfl)))))))) (@fA _ _ _ _ _ (@fG _ _ _ _ _ _ (@jK _ _ _ _ _ _))) (@gF _ _ _)) (@fB _ _ _ _ _ _ _ (@gR _ _ _ _ _ _ _ _ _ _ (@BD _ _ _ _ _ (@oT _ _ _ _ _ _ _ _ _ (@iq _ _ _ _ _ _ _ _ _ _ _ (mv hr.units0) okLe (@gz _ _ _ _ _ _ _ _ _ _ gb okIx (@pdv _ _ _ 2 _ _ rfl) (@fj _ _ _ _ _ _) (fun _ _=>rfl)) (@pdv _ _ _ 1 _ _ rfl) (nomark _)) (@Ad _ _ _ _ _ _ (@iq _ _ _ _ _ _ _ _ _ _ _ (mv hr.units0) okLe (@gz _ _ _ _ _ _ _ _ _ _ gb okIx (@pdv _ _ _ 2 _ _ rfl) (@fj _ _ _ _ _ _) (fun _ _=>rfl)) (@gz _ _ _ _ _ _ _ _ _ _ gb okIx (@pdv _ _ _ 2 _ _ rfl) (@fj _ _ _ _ _ _) (fun _ _=>rfl)) (nomark _))))) (@fA _ _ _ _ _ (@fG _ _ _ _ _ _ (@jK _ _ _ _ _ _))) (@gF _ _ _)) (@fA _ _ _ _ _ (@gk _ _ _ _ _ _ 1 _ _ (@gz _ _ _ _ _ _ _ _ _ _ gb okIx (@pdv _ _ _ 2 _ _ rfl) (@fj _ _ _ _ _ _) (fun _ _=>rfl)) jv.nd rfl (.inl rfl) rfl (.inr rfl))))) (by intro _ ;rfl)) (@fA _ _ _ _ _ (@fG _ _ _ _ _ _ (@jK _ _ _ _ _ _)))))))
noncomputable abbrev jo:Stmt:=top 49
theorem Cm:FnScope ["_law_thing", "_law_low", "_law_high"] ["_law_thing", "_law_low", "_law_high"] (fq jo):=⟨rfl,rfl,rfl,by decide +kernel,rfl,by decide +kernel,by decide +kernel⟩
theorem jU (bas:Bas K mg blts) (d:Def K mg "_law_within" jo ["_law_thing", "_law_low", "_law_high"]) (gM:Has P w K mg base cl 1 "_law_whole" ["_law_thing"] K1.gL):Has P w K mg base cl 2 "_law_within" ["_law_thing", "_law_low", "_law_high"] K1.gK :=
  gp (k:=1) (m:=K1.oC) d Cm (fun f cdv A outer s H E n F0 hr=>(@fA _ _ _ _ _ (@fG _ _ _ _ _ _ (@im _ _ _ _ _ _ _ _ _ (@fI _ _ _ _ _ _ _ _ _ _ _ _ _ _ gM hr (by omega) rfl (@fz _) (@fe _ _ _ _ _ _ _ (@pdv _ _ _ 0 _ _ rfl) (@fg _ _ _) rfl) rfl rfl (by decide)) (@jx _ _ _ _ _ _ _ (@BC _ _ _ _ _ _ _ _ _ _ _ _ _ _ _ _ (mv hr.units0) (mv hr.units0) okLe okLe (@pdv _ _ _ 1 _ _ rfl) (@pdv _ _ _ 0 _ _ rfl) (@pdv _ _ _ 2 _ _ rfl) (by with_unfolding_all rfl)))))))
noncomputable abbrev j9:Stmt:=top 59
theorem mU:FnScope ["_law_house_here", "_law_outs_here", "_law_room", "_law_hour", "_law_cold_here", "_law_begin", "_law_end"] ["_law_house_here", "_law_outs_here", "_law_room", "_law_hour"] (fq j9):=⟨rfl,rfl,rfl,by decide +kernel,rfl,by decide +kernel,by decide +kernel⟩
theorem mI (bas:Bas K mg blts) (d:Def K mg "_law_cold" j9 ["_law_house_here", "_law_outs_here", "_law_room", "_law_hour"]):Has P w K mg base cl 1 "_law_cold" ["_law_house_here", "_law_outs_here", "_law_room", "_law_hour"] K2.mM :=
  gp (k:=0) (m:=K2.oF) d mU (fun f cdv A outer s H E n F0 hr=>(@fB _ _ _ _ _ _ _ (@gk _ _ _ _ _ _ 4 _ _ (@gz _ _ _ _ _ _ _ _ _ _ gb okIx (@gz _ _ _ _ _ _ _ _ _ _ gb okIx (@pdv _ _ _ 0 _ _ rfl) (@fj _ _ _ _ _ _) (fun _ _=>rfl)) (@pdv _ _ _ 2 _ _ rfl) (fun _ _=>rfl)) mU.nd rfl (.inl rfl) rfl (.inr rfl)) (@fB _ _ _ _ _ _ _ (@js _ _ _ _ _ _ _ _ _ _ PassesOwn.never rfl (@iy _ _ _ _ _ _ (@pdv _ _ _ 1 _ _ rfl)) (@Bc _ _ _ _ _ _ _ rfl (@iO _ _ _ _ _ _ (@fL _ _ _ 5 _ mU.nd rfl (.inl rfl) (.inr rfl)) (@iO _ _ _ _ _ _ (@fL _ _ _ 6 _ mU.nd rfl (.inl rfl) (.inr rfl)) (@lv _ _) rfl) rfl) rfl rfl) (@fA _ _ _ _ _ (@gR _ _ _ _ _ _ _ _ _ _ (@Ct _ _ _ _ _ _ _ _ _ _ _ _ _ _ _ _ (mv hr.units0) (Ar hr.units0) okLe okLt (@pdv _ _ _ 5 _ _ rfl) (@pdv _ _ _ 3 _ _ rfl) (@pdv _ _ _ 6 _ _ rfl) (by with_unfolding_all rfl)) (@fA _ _ _ _ _ (@fG _ _ _ _ _ _ (@iB _ _ _ _ _ _ _ _ _ _ _ _ false (Ab rfl) okMax rfl (bas.nb "max" (by decide)) (by decide +kernel) (@fe _ _ _ _ _ _ _ (@fC _ _ _ _ _ _ _ _ _ _ _ false jJ okSub (@pdv _ _ _ 4 _ _ rfl) (@fC _ _ _ _ _ _ _ _ _ _ _ false CM okFdiv (@fC _ _ _ _ _ _ _ _ _ _ _ false jJ okSub (@pdv _ _ _ 3 _ _ rfl) (@pdv _ _ _ 5 _ _ rfl)) (@gz _ _ _ _ _ _ _ _ _ _ gb okIx (@pdv _ _ _ 0 _ _ rfl) (@fj _ _ _ _ _ _) (fun _ _=>rfl)))) (@fe _ _ _ _ _ _ _ (@fj _ _ _ _ _ _) (@fg _ _ _) rfl) rfl) rfl (by decide) (by decide)))) (@gF _ _ _))) (by intro _ ;rfl)) (@fA _ _ _ _ _ (@fG _ _ _ _ _ _ (@pdv _ _ _ 4 _ _ rfl))))))
noncomputable abbrev mn:Stmt:=top 61
theorem Gk:FnScope ["_law_house_here", "_law_outs_here", "_law_room", "_law_hour"] ["_law_house_here", "_law_outs_here", "_law_room", "_law_hour"] (fq mn):=⟨rfl,rfl,rfl,by decide +kernel,rfl,by decide +kernel,by decide +kernel⟩
theorem mq (bas:Bas K mg blts) (d:Def K mg "_law_due" mn ["_law_house_here", "_law_outs_here", "_law_room", "_law_hour"]) (gQ:Has P w K mg base cl 3 "_law_are_outs" ["_law_thing"] K2.gG) (jU:Has P w K mg base cl 2 "_law_within" ["_law_thing", "_law_low", "_law_high"] K1.gK) (gN:Has P w K mg base cl 2 "_law_is_hour" ["_law_thing"] K2.gP) (mI:Has P w K mg base cl 1 "_law_cold" ["_law_house_here", "_law_outs_here", "_law_room", "_law_hour"] K2.mM):Has P w K mg base cl 4 "_law_due" ["_law_house_here", "_law_outs_here", "_law_room", "_law_hour"] K2.io :=
  gp (k:=3) (m:=K2.A2) d Gk (fun f cdv A outer s H E n F0 hr=>(@fB _ _ _ _ _ _ _ (@gR _ _ _ _ _ _ _ _ _ _ (@ir _ _ _ _ _ _ (@ig _ _ _ _ _ (@fI _ _ _ _ _ _ _ _ _ _ _ _ _ _ gQ hr (by omega) rfl (@fz _) (@fe _ _ _ _ _ _ _ (@pdv _ _ _ 1 _ _ rfl) (@fg _ _ _) rfl) rfl rfl (by decide)) (by intro _ ;rfl))) (@fA _ _ _ _ _ (@fG _ _ _ _ _ _ (@lM _ _ _ _ _ _))) (@gF _ _ _)) (@fB _ _ _ _ _ _ _ (@gR _ _ _ _ _ _ _ _ _ _ (@ir _ _ _ _ _ _ (@ig _ _ _ _ _ (@fI _ _ _ _ _ _ _ _ _ _ _ _ _ _ jU hr (by omega) rfl (@fz _) (@fe _ _ _ _ _ _ _ (@pdv _ _ _ 2 _ _ rfl) (@fe _ _ _ _ _ _ _ (@fj _ _ _ _ _ _) (@fe _ _ _ _ _ _ _ (@fC _ _ _ _ _ _ _ _ _ _ _ false jJ okSub (@iB _ _ _ _ _ _ _ _ _ _ _ _ false gE okLen rfl (bas.nb "len" (by decide)) (by decide +kernel) (@fe _ _ _ _ _ _ _ (@gz _ _ _ _ _ _ _ _ _ _ gb okIx (@pdv _ _ _ 0 _ _ rfl) (@fj _ _ _ _ _ _) (fun _ _=>rfl)) (@fg _ _ _) rfl) rfl (by decide) (by decide)) (@fj _ _ _ _ _ _)) (@fg _ _ _) rfl) rfl) rfl) rfl rfl (by decide)) (by intro _ ;rfl))) (@fA _ _ _ _ _ (@fG _ _ _ _ _ _ (@lM _ _ _ _ _ _))) (@gF _ _ _)) (@fA _ _ _ _ _ (@fG _ _ _ _ _ _ (NW (@ig _ _ _ _ _ (@fI _ _ _ _ _ _ _ _ _ _ _ _ _ _ gN hr (by omega) rfl (@fz _) (@fe _ _ _ _ _ _ _ (@pdv _ _ _ 3 _ _ rfl) (@fg _ _ _) rfl) rfl rfl (by decide)) (by intro _ ;rfl)) (@fI _ _ _ _ _ _ _ _ _ _ _ _ _ _ mI hr (by omega) rfl (@fz _) (@fe _ _ _ _ _ _ _ (@pdv _ _ _ 0 _ _ rfl) (@fe _ _ _ _ _ _ _ (@pdv _ _ _ 1 _ _ rfl) (@fe _ _ _ _ _ _ _ (@pdv _ _ _ 2 _ _ rfl) (@fe _ _ _ _ _ _ _ (@pdv _ _ _ 3 _ _ rfl) (@fg _ _ _) rfl) rfl) rfl) rfl) rfl rfl (by decide)) (@lM _ _ _ _ _ _)))))))
noncomputable abbrev CK:Stmt:=top 63
theorem jj:FnScope ["_law_script", "_law_k", "_law_pot_here", "_law_house_here", "_law_outs_here", "_law_pages", "_law_by", "_law_thing", "_law_kept", "_law_hours", "_law_begin", "_law_end", "_law_less", "_law_room", "_law_hour"] ["_law_script"] (fq CK):=⟨rfl,rfl,rfl,by decide +kernel,rfl,by decide +kernel,by decide +kernel⟩
theorem Pg (bas:Bas K mg blts) (d:Def K mg "law" CK ["_law_script"]) (og:Has P w K mg base cl 1 "_law_pot" ["_law_cell"] K1.jy) (lC:Has P w K mg base cl 3 "_law_house" ["_law_pot_here"] K1.iP) (oh:Has P w K mg base cl 2 "_law_far" ["_law_pot_here", "_law_outs_here", "_law_pages"] K2.jz) (jS:Has P w K mg base cl 16 "_law_things" ["_law_pot_here", "_law_outs_here"] K2.iW) (jr:Has P w K mg base cl 1 "_law_cell_at" ["_law_script", "_law_k"] K1.ic) (mG:Has P w K mg base cl 2 "_law_outs" ["_law_pot_here", "_law_near"] K2.iI) (fD:Has P w K mg base cl 1 "_law_take" ["_law_pot_here", "_law_far_here"] K1.fu) (j8:Has P w K mg base cl 11 "_law_told" ["_law_house_here", "_law_outs_here", "_law_room", "_law_hour"] K2.ia) (mq:Has P w K mg base cl 4 "_law_due" ["_law_house_here", "_law_outs_here", "_law_room", "_law_hour"] K2.io) (jh:Has P w K mg base cl 8 "are_outs" ["house", "thing"] K2.iJ) (gQ:Has P w K mg base cl 3 "_law_are_outs" ["_law_thing"] K2.gG):Has P w K mg base cl 17 "law" ["_law_script"] K2.BP :=
  gp (k:=16) (m:=K2.CF) d jj (fun f cdv A outer s H E n F0 hr=>(@fB _ _ _ _ _ _ _ (@js _ _ _ _ _ _ _ _ _ _ PassesOwn.never rfl (@iN _ _ _ _ _ _ _ _ rfl (bas.nb "range" (by decide)) (@fe _ _ _ _ _ _ _ (@iB _ _ _ _ _ _ _ _ _ _ _ _ false (Ab rfl) okMax rfl (bas.nb "max" (by decide)) (by decide +kernel) (@fe _ _ _ _ _ _ _ (@fj _ _ _ _ _ _) (@fe _ _ _ _ _ _ _ (@iB _ _ _ _ _ _ _ _ _ _ _ _ false (Jd rfl) okMin rfl (bas.nb "min" (by decide)) (by decide +kernel) (@fe _ _ _ _ _ _ _ (@GG _ _ _ _ _ _ _ rfl (bas.nb "len" (by decide)) (@pdv _ _ _ 0 _ _ rfl) rfl) (@fe _ _ _ _ _ _ _ (@fj _ _ _ _ _ _) (@fg _ _ _) rfl) rfl) rfl (by decide) (by decide)) (@fg _ _ _) rfl) rfl) rfl (by decide) (by decide)) (@fg _ _ _) rfl) rfl) (@fL _ _ _ 1 _ jj.nd rfl (.inl rfl) (.inr rfl)) (@fB _ _ _ _ _ _ _ (@gk _ _ _ _ _ _ 2 _ _ (@fI _ _ _ _ _ _ _ _ _ _ _ _ _ _ og hr (by omega) rfl (@fz _) (@fe _ _ _ _ _ _ _ (@fI _ _ _ _ _ _ _ _ _ _ _ _ _ _ jr hr (by omega) rfl (@fz _) (@fe _ _ _ _ _ _ _ (@pdv _ _ _ 0 _ _ rfl) (@fe _ _ _ _ _ _ _ (@pdv _ _ _ 1 _ _ rfl) (@fg _ _ _) rfl) rfl) rfl rfl (by decide)) (@fg _ _ _) rfl) rfl rfl (by decide)) jj.nd rfl (.inl rfl) rfl (.inr rfl)) (@fB _ _ _ _ _ _ _ (@gk _ _ _ _ _ _ 3 _ _ (@fI _ _ _ _ _ _ _ _ _ _ _ _ _ _ lC hr (by omega) rfl (@fz _) (@fe _ _ _ _ _ _ _ (@pdv _ _ _ 2 _ _ rfl) (@fg _ _ _) rfl) rfl rfl (by decide)) jj.nd rfl (.inl rfl) rfl (.inr rfl)) (@fB _ _ _ _ _ _ _ (@CY _ _ _ _ _ _ _ _ (@fI _ _ _ _ _ _ _ _ _ _ _ _ _ _ oh hr (by omega) rfl (@fz _) (@fe _ _ _ _ _ _ _ (@pdv _ _ _ 2 _ _ rfl) (@fe _ _ _ _ _ _ _ (@fI _ _ _ _ _ _ _ _ _ _ _ _ _ _ mG hr (by omega) rfl (@fz _) (@fe _ _ _ _ _ _ _ (@pdv _ _ _ 2 _ _ rfl) (@fe _ _ _ _ _ _ _ (@fj _ _ _ _ _ _) (@fg _ _ _) rfl) rfl) rfl rfl (by decide)) (@fe _ _ _ _ _ _ _ (@gX _ _ _ _ _ _ false (@fg _ _ _)) (@fg _ _ _) rfl) rfl) rfl) rfl rfl (by decide)) (@Bc _ _ _ _ _ _ _ rfl (@iO _ _ _ _ _ _ (@fL _ _ _ 4 _ jj.nd rfl (.inl rfl) (.inr rfl)) (@iO _ _ _ _ _ _ (@fL _ _ _ 5 _ jj.nd rfl (.inl rfl) (.inr rfl)) (@iO _ _ _ _ _ _ (@fL _ _ _ 6 _ jj.nd rfl (.inl rfl) (.inr rfl)) (@lv _ _) rfl) rfl) rfl) rfl rfl) rfl rfl rfl) (@fB _ _ _ _ _ _ _ (@js _ _ _ _ _ _ _ _ _ _ PassesOwn.never rfl (@iy _ _ _ _ _ _ (@fI _ _ _ _ _ _ _ _ _ _ _ _ _ _ jS hr (by omega) rfl (@fz _) (@fe _ _ _ _ _ _ _ (@pdv _ _ _ 2 _ _ rfl) (@fe _ _ _ _ _ _ _ (@pdv _ _ _ 4 _ _ rfl) (@fg _ _ _) rfl) rfl) rfl rfl (by decide))) (@fL _ _ _ 7 _ jj.nd rfl (.inl rfl) (.inr rfl)) (@fB _ _ _ _ _ _ _ (@gk _ _ _ _ _ _ 8 _ _ (@mK _ _ _ _ _ _ _ _ hr rfl (bas.nb "repr" (by decide)) (@pdv _ _ _ 7 _ _ rfl) rfl) jj.nd rfl (.inl rfl) rfl (.inr rfl)) (@fB _ _ _ _ _ _ _ (@gR _ _ _ _ _ _ _ _ _ _ (@BD _ _ _ _ _ (@oT _ _ _ _ _ _ _ _ _ (@iq _ _ _ _ _ _ _ _ _ _ _ (BF hr.units0) okNe (@mK _ _ _ _ _ _ _ _ hr rfl (bas.nb "repr" (by decide)) (@fI _ _ _ _ _ _ _ _ _ _ _ _ _ _ jh hr (by omega) rfl (@fz _) (@fe _ _ _ _ _ _ _ (@pdv _ _ _ 3 _ _ rfl) (@fe _ _ _ _ _ _ _ (@pdv _ _ _ 7 _ _ rfl) (@fg _ _ _) rfl) rfl) rfl rfl (by decide)) rfl) (@mK _ _ _ _ _ _ _ _ hr rfl (bas.nb "repr" (by decide)) (@fI _ _ _ _ _ _ _ _ _ _ _ _ _ _ gQ hr (by omega) rfl (@fz _) (@fe _ _ _ _ _ _ _ (@pdv _ _ _ 7 _ _ rfl) (@fg _ _ _) rfl) rfl rfl (by decide)) rfl) (nomark _)) (@Ad _ _ _ _ _ _ (@iq _ _ _ _ _ _ _ _ _ _ _ (BF hr.units0) okNe (@mK _ _ _ _ _ _ _ _ hr rfl (bas.nb "repr" (by decide)) (@pdv _ _ _ 7 _ _ rfl) rfl) (@pdv _ _ _ 8 _ _ rfl) (nomark _))))) (@fA _ _ _ _ _ (@fG _ _ _ _ _ _ (@jK _ _ _ _ _ _))) (@gF _ _ _)) (@fA _ _ _ _ _ (@gR _ _ _ _ _ _ _ _ _ _ (@iq _ _ _ _ _ _ _ _ _ _ _ (BF hr.units0) okNe (@mK _ _ _ _ _ _ _ _ hr rfl (bas.nb "repr" (by decide)) (@fI _ _ _ _ _ _ _ _ _ _ _ _ _ _ j8 hr (by omega) rfl (@fz _) (@fe _ _ _ _ _ _ _ (@pdv _ _ _ 3 _ _ rfl) (@fe _ _ _ _ _ _ _ (@pdv _ _ _ 7 _ _ rfl) (@fe _ _ _ _ _ _ _ (@fj _ _ _ _ _ _) (@fe _ _ _ _ _ _ _ (@fj _ _ _ _ _ _) (@fg _ _ _) rfl) rfl) rfl) rfl) rfl rfl (by decide)) rfl) (@mK _ _ _ _ _ _ _ _ hr rfl (bas.nb "repr" (by decide)) (@fI _ _ _ _ _ _ _ _ _ _ _ _ _ _ mq hr (by omega) rfl (@fz _) (@fe _ _ _ _ _ _ _ (@pdv _ _ _ 3 _ _ rfl) (@fe _ _ _ _ _ _ _ (@pdv _ _ _ 7 _ _ rfl) (@fe _ _ _ _ _ _ _ (@fj _ _ _ _ _ _) (@fe _ _ _ _ _ _ _ (@fj _ _ _ _ _ _) (@fg _ _ _) rfl) rfl) rfl) rfl) rfl rfl (by decide)) rfl) (nomark _)) (@fA _ _ _ _ _ (@fG _ _ _ _ _ _ (@jK _ _ _ _ _ _))) (@gF _ _ _))))) (by intro _ ;rfl)) (@fB _ _ _ _ _ _ _ (@gk _ _ _ _ _ _ 9 _ _ (@gX _ _ _ _ _ _ false (@fe _ _ _ _ _ _ _ (@fj _ _ _ _ _ _) (@fe _ _ _ _ _ _ _ (@fC _ _ _ _ _ _ _ _ _ _ _ false fP okAdd (@pdv _ _ _ 6 _ _ rfl) (@fI _ _ _ _ _ _ _ _ _ _ _ _ _ _ fD hr (by omega) rfl (@fz _) (@fe _ _ _ _ _ _ _ (@pdv _ _ _ 2 _ _ rfl) (@fe _ _ _ _ _ _ _ (@fj _ _ _ _ _ _) (@fg _ _ _) rfl) rfl) rfl rfl (by decide))) (@fe _ _ _ _ _ _ _ (@fC _ _ _ _ _ _ _ _ _ _ _ false jJ okSub (@fC _ _ _ _ _ _ _ _ _ _ _ false oQ okPow (@fj _ _ _ _ _ _) (@fj _ _ _ _ _ _)) (@fj _ _ _ _ _ _)) (@fe _ _ _ _ _ _ _ (@jK _ _ _ _ _ _) (@fe _ _ _ _ _ _ _ (@FO _ _ _ _ _) (@fe _ _ _ _ _ _ _ (@oy _ _ _ _ _ _ (@fj _ _ _ _ _ _)) (@fe _ _ _ _ _ _ _ (@lM _ _ _ _ _ _) (@fe _ _ _ _ _ _ _ (@fU _ _ _ _ _ _ _ (@fe _ _ _ _ _ _ _ (@fj _ _ _ _ _ _) (@fg _ _ _) rfl)) (@fg _ _ _) rfl) rfl) rfl) rfl) rfl) rfl) rfl) rfl)) jj.nd rfl (.inl rfl) rfl (.inr rfl)) (@fB _ _ _ _ _ _ _ (@js _ _ _ _ _ _ _ _ _ _ PassesOwn.never rfl (@iy _ _ _ _ _ _ (@pdv _ _ _ 4 _ _ rfl)) (@Bc _ _ _ _ _ _ _ rfl (@iO _ _ _ _ _ _ (@fL _ _ _ 10 _ jj.nd rfl (.inl rfl) (.inr rfl)) (@iO _ _ _ _ _ _ (@fL _ _ _ 11 _ jj.nd rfl (.inl rfl) (.inr rfl)) (@lv _ _) rfl) rfl) rfl rfl) (@fB _ _ _ _ _ _ _ (@gk _ _ _ _ _ _ 9 _ _ (@fC _ _ _ _ _ _ _ _ _ _ _ false fP okAdd (@pdv _ _ _ 9 _ _ rfl) (@gX _ _ _ _ _ _ false (@fe _ _ _ _ _ _ _ (@pdv _ _ _ 10 _ _ rfl) (@fe _ _ _ _ _ _ _ (@pdv _ _ _ 11 _ _ rfl) (@fe _ _ _ _ _ _ _ (@fC _ _ _ _ _ _ _ _ _ _ _ false jJ okSub (@pdv _ _ _ 11 _ _ rfl) (@fj _ _ _ _ _ _)) (@fe _ _ _ _ _ _ _ (@iB _ _ _ _ _ _ _ _ _ _ _ _ false (Ab rfl) okMax rfl (bas.nb "max" (by decide)) (by decide +kernel) (@fe _ _ _ _ _ _ _ (@fj _ _ _ _ _ _) (@fe _ _ _ _ _ _ _ (@fC _ _ _ _ _ _ _ _ _ _ _ false jJ okSub (@pdv _ _ _ 10 _ _ rfl) (@fj _ _ _ _ _ _)) (@fg _ _ _) rfl) rfl) rfl (by decide) (by decide)) (@fe _ _ _ _ _ _ _ (@fC _ _ _ _ _ _ _ _ _ _ _ false fP okAdd (@pdv _ _ _ 10 _ _ rfl) (@fI _ _ _ _ _ _ _ _ _ _ _ _ _ _ fD hr (by omega) rfl (@fz _) (@fe _ _ _ _ _ _ _ (@pdv _ _ _ 2 _ _ rfl) (@fe _ _ _ _ _ _ _ (@fj _ _ _ _ _ _) (@fg _ _ _) rfl) rfl) rfl rfl (by decide))) (@fg _ _ _) rfl) rfl) rfl) rfl) rfl))) jj.nd rfl (.inl rfl) rfl (.inr rfl)) (@fA _ _ _ _ _ (@js _ _ _ _ _ _ _ _ _ _ PassesOwn.never rfl (@iy _ _ _ _ _ _ (@fU _ _ _ _ _ _ _ (@fe _ _ _ _ _ _ _ (@fj _ _ _ _ _ _) (@fe _ _ _ _ _ _ _ (@fj _ _ _ _ _ _) (@fe _ _ _ _ _ _ _ (@fj _ _ _ _ _ _) (@fe _ _ _ _ _ _ _ (@fj _ _ _ _ _ _) (@fg _ _ _) rfl) rfl) rfl) rfl))) (@fL _ _ _ 12 _ jj.nd rfl (.inl rfl) (.inr rfl)) (@fA _ _ _ _ _ (@gk _ _ _ _ _ _ 9 _ _ (@fC _ _ _ _ _ _ _ _ _ _ _ false fP okAdd (@pdv _ _ _ 9 _ _ rfl) (@gX _ _ _ _ _ _ false (@fe _ _ _ _ _ _ _ (@fC _ _ _ _ _ _ _ _ _ _ _ false fP okAdd (@pdv _ _ _ 10 _ _ rfl) (@fC _ _ _ _ _ _ _ _ _ _ _ false lO okMul (@gz _ _ _ _ _ _ _ _ _ _ gb okIx (@pdv _ _ _ 3 _ _ rfl) (@fj _ _ _ _ _ _) (fun _ _=>rfl)) (@pdv _ _ _ 12 _ _ rfl))) (@fe _ _ _ _ _ _ _ (@fC _ _ _ _ _ _ _ _ _ _ _ false jJ okSub (@fC _ _ _ _ _ _ _ _ _ _ _ false fP okAdd (@pdv _ _ _ 10 _ _ rfl) (@fC _ _ _ _ _ _ _ _ _ _ _ false lO okMul (@gz _ _ _ _ _ _ _ _ _ _ gb okIx (@pdv _ _ _ 3 _ _ rfl) (@fj _ _ _ _ _ _) (fun _ _=>rfl)) (@pdv _ _ _ 12 _ _ rfl))) (@fj _ _ _ _ _ _)) (@fg _ _ _) rfl) rfl))) jj.nd rfl (.inl rfl) rfl (.inr rfl))) (by intro _ ;rfl)))) (by intro _ ;rfl)) (@fA _ _ _ _ _ (@js _ _ _ _ _ _ _ _ _ _ PassesOwn.never rfl (@iy _ _ _ _ _ _ (@fC _ _ _ _ _ _ _ _ _ _ _ false fP okAdd (@OU _ _ _ _ _ _ _ _ _ false rfl rfl (bas.nb "list" (by decide)) rfl (bas.nb "range" (by decide)) (@fe _ _ _ _ _ _ _ (@fC _ _ _ _ _ _ _ _ _ _ _ false fP okAdd (@iB _ _ _ _ _ _ _ _ _ _ _ _ false gE okLen rfl (bas.nb "len" (by decide)) (by decide +kernel) (@fe _ _ _ _ _ _ _ (@gz _ _ _ _ _ _ _ _ _ _ gb okIx (@pdv _ _ _ 3 _ _ rfl) (@fj _ _ _ _ _ _) (fun _ _=>rfl)) (@fg _ _ _) rfl) rfl (by decide) (by decide)) (@fj _ _ _ _ _ _)) (@fg _ _ _) rfl) rfl) (@gX _ _ _ _ _ _ false (@fe _ _ _ _ _ _ _ (@oy _ _ _ _ _ _ (@fj _ _ _ _ _ _)) (@fe _ _ _ _ _ _ _ (@jK _ _ _ _ _ _) (@fe _ _ _ _ _ _ _ (@FO _ _ _ _ _) (@fe _ _ _ _ _ _ _ (@lM _ _ _ _ _ _) (@fg _ _ _) rfl) rfl) rfl) rfl)))) (@fL _ _ _ 13 _ jj.nd rfl (.inl rfl) (.inr rfl)) (@fA _ _ _ _ _ (@js _ _ _ _ _ _ _ _ _ _ PassesOwn.never rfl (@iy _ _ _ _ _ _ (@pdv _ _ _ 9 _ _ rfl)) (@fL _ _ _ 14 _ jj.nd rfl (.inl rfl) (.inr rfl)) (@fA _ _ _ _ _ (@gR _ _ _ _ _ _ _ _ _ _ (@iq _ _ _ _ _ _ _ _ _ _ _ (BF hr.units0) okNe (@mK _ _ _ _ _ _ _ _ hr rfl (bas.nb "repr" (by decide)) (@fI _ _ _ _ _ _ _ _ _ _ _ _ _ _ j8 hr (by omega) rfl (@fz _) (@fe _ _ _ _ _ _ _ (@pdv _ _ _ 3 _ _ rfl) (@fe _ _ _ _ _ _ _ (@pdv _ _ _ 4 _ _ rfl) (@fe _ _ _ _ _ _ _ (@pdv _ _ _ 13 _ _ rfl) (@fe _ _ _ _ _ _ _ (@pdv _ _ _ 14 _ _ rfl) (@fg _ _ _) rfl) rfl) rfl) rfl) rfl rfl (by decide)) rfl) (@mK _ _ _ _ _ _ _ _ hr rfl (bas.nb "repr" (by decide)) (@fI _ _ _ _ _ _ _ _ _ _ _ _ _ _ mq hr (by omega) rfl (@fz _) (@fe _ _ _ _ _ _ _ (@pdv _ _ _ 3 _ _ rfl) (@fe _ _ _ _ _ _ _ (@pdv _ _ _ 4 _ _ rfl) (@fe _ _ _ _ _ _ _ (@pdv _ _ _ 13 _ _ rfl) (@fe _ _ _ _ _ _ _ (@pdv _ _ _ 14 _ _ rfl) (@fg _ _ _) rfl) rfl) rfl) rfl) rfl rfl (by decide)) rfl) (nomark _)) (@fA _ _ _ _ _ (@fG _ _ _ _ _ _ (@jK _ _ _ _ _ _))) (@gF _ _ _))) (by intro _ ;rfl))) (by intro _ ;rfl))))))))) (by intro _ ;rfl)) (@fA _ _ _ _ _ (@fG _ _ _ _ _ _ (@jK _ _ _ _ _ _)))))
end
end K2
set_option Elab.async false
set_option linter.all false
set_option maxRecDepth 100000
set_option maxHeartbeats 4000000
namespace K2.Wd
open PySem L2 L2.DL PySem.W PyProof.Rows
noncomputable abbrev sWord:Stmt:=PySem.Challenge.pw_rimehold_k02_outs_and_colds.main.body.getD 58 (.Pass ⟨0,0,0,0⟩)
theorem Mc {H:Hp}{l:Addr}{o:HO} (h:H l=none):Same H (upd H l o):=fun b u e=>by rw [fM (fZ e h)];exact e
noncomputable def bls (i n:Nat):List V:=(List.range n).map fun j=>V.bl (decide (i=j))
theorem FB (i n:Nat):(bls i n).all flatV=true:=by
  rw [List.all_eq_true]
  intro x hx
  obtain ⟨j,_,rfl⟩:=List.mem_map.mp hx
  rfl
theorem JM:∀ i,i < 17->(bls i 17).countP (fun z=>eqV z (.bl true))=1:=by decide
theorem OA:∀ i,i < 17->(bls i 17)[i]?=some (.bl true):=by decide
theorem OB:∀ i,i < 17->∀ m,m < i->(bls i 17)[m]?=some (.bl false):=by decide
theorem scWord:FnScope ["_law_e", "_law_some", "_law_words"] ["_law_e"] (fq sWord):=⟨rfl,rfl,rfl,by decide +kernel,rfl,by decide +kernel,by decide +kernel⟩
theorem JN:bootBuiltins "ValueError"=some (.type "ValueError"):=by decide +kernel
noncomputable def stW (i:Nat):Stmt:=(fH sWord).getD i (.Pass ⟨0,0,0,0⟩)
theorem Gm {env:Env}{x:Str} (es:List Expr) (p pos':Pos) (line:Nat):swapsWith (.List es p) (some (.Name x pos')) line env=pure false:=by rfl
section
variable {P : Program} {w : World} {K : Frag} {mg : Str -> Option Value} {base : Heap} {R : Addr} {c : Nat -> Addr} {f : Addr} {cdv : Value} {A : Around} {outer : List Env} {s : Shared} {Hx : Hp} {E : XK}
noncomputable abbrev XW (P:Program) (w:World) (K:Frag) (mg:Str->Option Value) (base:Heap) (f:Addr) (cdv:Value) (A:Around) (outer:List Env) (s:Shared) (H:Hp) (E:XK):Cx:=(cxH CX0 P w K mg base ["_law_e", "_law_some", "_law_words"] "_law_word" (fq sWord) f cdv A outer s H E).nox
theorem lm {H0 H:Hp}{l:Addr}{o:HO} (s:Same H0 H) (h:H0 l=none):Same H0 (upd H l o):=fun b u e=>by rw [fM (fZ e h)];exact s b u e
theorem w0 (T:ExT K mg R c) {i:Nat} (hi:i < 17) {a:Addr}{H0:Hp} (ha:H0 a=some (.ext (Ex1 a (c i)))):∃ t,PS (XW P w K mg base f cdv A outer s Hx E) (stW 0) t /\ ∀ D,
    (∀ l H',H0 l=none->Same H0 H'->H' l=some (.lst [.bl (decide (i=0)),.bl (decide (i=1)),.bl (decide (i=2)),.bl (decide (i=3))])->D.nx [some (.ref a),some (.ref l),none] H')->t D [some (.ref a),none,none] H0:=by
  refine ⟨_,AT (i:=1) scWord.nd rfl (Or.inl rfl) (Ao (fE (gq gn (by rfl) T.inst boot_isinstance (fE (pv 0) (fE (gU (v:=.ref (c 0)) rfl (T.m 0 _ rfl) rfl) gu))) (fE (gq gn (by rfl) T.inst boot_isinstance (fE (pv 0) (fE (gU (v:=.ref (c 1)) rfl (T.m 1 _ rfl) rfl) gu))) (fE (gq gn (by rfl) T.inst boot_isinstance (fE (pv 0) (fE (gU (v:=.ref (c 2)) rfl (T.m 2 _ rfl) rfl) gu))) (fE (gq gn (by rfl) T.inst boot_isinstance (fE (pv 0) (fE (gU (v:=.ref (c 3)) rfl (T.m 3 _ rfl) rfl) gu))) gu))))),fun D k=>?_⟩
  exact ⟨_,rfl,_,_,_,_,_,rfl,.exc ha (T.ek i hi),rfl,T.kt i 0 hi (by decide),_,rfl,_,_,_,_,_,rfl,.exc ha (T.ek i hi),rfl,T.kt i 1 hi (by decide),_,rfl,_,_,_,_,_,rfl,.exc ha (T.ek i hi),rfl,T.kt i 2 hi (by decide),_,rfl,_,_,_,_,_,rfl,.exc ha (T.ek i hi),rfl,T.kt i 3 hi (by decide),by show 4 <= sizeLine;decide,fun l n=>k l _ n (Mc n) fX⟩
theorem w1 (T:ExT K mg R c) {i:Nat} (hi:i < 17) {a:Addr}{H0:Hp} (ha:H0 a=some (.ext (Ex1 a (c i)))):∃ t,PS (XW P w K mg base f cdv A outer s Hx E) (stW 1) t /\ ∀ D H l xs,Same H0 H->H0 l=none->H l=some (.lst xs)->xs.length <= 100 ->
    (∀ p H',H0 p=none->Same H0 H'->H' p=some (.lst (xs ++ [.bl (decide (i=4)),.bl (decide (i=5)),.bl (decide (i=6)),.bl (decide (i=7))]))->D.nx [some (.ref a),some (.ref p),none] H')->t D [some (.ref a),some (.ref l),none] H:=by
  refine ⟨_,AT (i:=1) scWord.nd rfl (Or.inl rfl) (DC BA (pv 1) (Ao (fE (gq gn (by rfl) T.inst boot_isinstance (fE (pv 0) (fE (gU (v:=.ref (c 4)) rfl (T.m 4 _ rfl) rfl) gu))) (fE (gq gn (by rfl) T.inst boot_isinstance (fE (pv 0) (fE (gU (v:=.ref (c 5)) rfl (T.m 5 _ rfl) rfl) gu))) (fE (gq gn (by rfl) T.inst boot_isinstance (fE (pv 0) (fE (gU (v:=.ref (c 6)) rfl (T.m 6 _ rfl) rfl) gu))) (fE (gq gn (by rfl) T.inst boot_isinstance (fE (pv 0) (fE (gU (v:=.ref (c 7)) rfl (T.m 7 _ rfl) rfl) gu))) gu)))))),fun D H l xs sm hn hl hx k=>?_⟩
  have ha':=sm _ _ ha
  refine ⟨_,rfl,_,rfl,_,_,_,_,_,rfl,.exc ha' (T.ek i hi),rfl,T.kt i 4 hi (by decide),_,rfl,_,_,_,_,_,rfl,.exc ha' (T.ek i hi),rfl,T.kt i 5 hi (by decide),_,rfl,_,_,_,_,_,rfl,.exc ha' (T.ek i hi),rfl,T.kt i 6 hi (by decide),_,rfl,_,_,_,_,_,rfl,.exc ha' (T.ek i hi),rfl,T.kt i 7 hi (by decide),by show 4 <= sizeLine;decide,fun l2 n2=>?_⟩
  refine ⟨l,l2,xs,_,rfl,rfl,by rw [fM (fZ hl n2)];exact hl,fX,small1000 (by simp;omega) |> Nat.le_of_lt,fun p np=>?_⟩
  have m2:H0 l2=none:=sm.free n2
  have s2:=lm (o:=.lst [.bl (decide (i=4)),.bl (decide (i=5)),.bl (decide (i=6)),.bl (decide (i=7))]) sm m2
  have mp:H0 p=none:=s2.free np
  exact k p _ mp (lm s2 mp) fX
theorem w2 (T:ExT K mg R c) {i:Nat} (hi:i < 17) {a:Addr}{H0:Hp} (ha:H0 a=some (.ext (Ex1 a (c i)))):∃ t,PS (XW P w K mg base f cdv A outer s Hx E) (stW 2) t /\ ∀ D H l xs,Same H0 H->H0 l=none->H l=some (.lst xs)->xs.length <= 100 ->
    (∀ p H',H0 p=none->Same H0 H'->H' p=some (.lst (xs ++ [.bl (decide (i=8)),.bl (decide (i=9)),.bl (decide (i=10)),.bl (decide (i=11))]))->D.nx [some (.ref a),some (.ref p),none] H')->t D [some (.ref a),some (.ref l),none] H:=by
  refine ⟨_,AT (i:=1) scWord.nd rfl (Or.inl rfl) (DC BA (pv 1) (Ao (fE (gq gn (by rfl) T.inst boot_isinstance (fE (pv 0) (fE (gU (v:=.ref (c 8)) rfl (T.m 8 _ rfl) rfl) gu))) (fE (gq gn (by rfl) T.inst boot_isinstance (fE (pv 0) (fE (gU (v:=.ref (c 9)) rfl (T.m 9 _ rfl) rfl) gu))) (fE (gq gn (by rfl) T.inst boot_isinstance (fE (pv 0) (fE (gU (v:=.ref (c 10)) rfl (T.m 10 _ rfl) rfl) gu))) (fE (gq gn (by rfl) T.inst boot_isinstance (fE (pv 0) (fE (gU (v:=.ref (c 11)) rfl (T.m 11 _ rfl) rfl) gu))) gu)))))),fun D H l xs sm hn hl hx k=>?_⟩
  have ha':=sm _ _ ha
  refine ⟨_,rfl,_,rfl,_,_,_,_,_,rfl,.exc ha' (T.ek i hi),rfl,T.kt i 8 hi (by decide),_,rfl,_,_,_,_,_,rfl,.exc ha' (T.ek i hi),rfl,T.kt i 9 hi (by decide),_,rfl,_,_,_,_,_,rfl,.exc ha' (T.ek i hi),rfl,T.kt i 10 hi (by decide),_,rfl,_,_,_,_,_,rfl,.exc ha' (T.ek i hi),rfl,T.kt i 11 hi (by decide),by show 4 <= sizeLine;decide,fun l2 n2=>?_⟩
  refine ⟨l,l2,xs,_,rfl,rfl,by rw [fM (fZ hl n2)];exact hl,fX,small1000 (by simp;omega) |> Nat.le_of_lt,fun p np=>?_⟩
  have m2:H0 l2=none:=sm.free n2
  have s2:=lm (o:=.lst [.bl (decide (i=8)),.bl (decide (i=9)),.bl (decide (i=10)),.bl (decide (i=11))]) sm m2
  have mp:H0 p=none:=s2.free np
  exact k p _ mp (lm s2 mp) fX
theorem w3 (T:ExT K mg R c) {i:Nat} (hi:i < 17) {a:Addr}{H0:Hp} (ha:H0 a=some (.ext (Ex1 a (c i)))):∃ t,PS (XW P w K mg base f cdv A outer s Hx E) (stW 3) t /\ ∀ D H l xs,Same H0 H->H0 l=none->H l=some (.lst xs)->xs.length <= 100 ->
    (∀ p H',H0 p=none->Same H0 H'->H' p=some (.lst (xs ++ [.bl (decide (i=12)),.bl (decide (i=13)),.bl (decide (i=14)),.bl (decide (i=15))]))->D.nx [some (.ref a),some (.ref p),none] H')->t D [some (.ref a),some (.ref l),none] H:=by
  refine ⟨_,AT (i:=1) scWord.nd rfl (Or.inl rfl) (DC BA (pv 1) (Ao (fE (gq gn (by rfl) T.inst boot_isinstance (fE (pv 0) (fE (gU (v:=.ref (c 12)) rfl (T.m 12 _ rfl) rfl) gu))) (fE (gq gn (by rfl) T.inst boot_isinstance (fE (pv 0) (fE (gU (v:=.ref (c 13)) rfl (T.m 13 _ rfl) rfl) gu))) (fE (gq gn (by rfl) T.inst boot_isinstance (fE (pv 0) (fE (gU (v:=.ref (c 14)) rfl (T.m 14 _ rfl) rfl) gu))) (fE (gq gn (by rfl) T.inst boot_isinstance (fE (pv 0) (fE (gU (v:=.ref (c 15)) rfl (T.m 15 _ rfl) rfl) gu))) gu)))))),fun D H l xs sm hn hl hx k=>?_⟩
  have ha':=sm _ _ ha
  refine ⟨_,rfl,_,rfl,_,_,_,_,_,rfl,.exc ha' (T.ek i hi),rfl,T.kt i 12 hi (by decide),_,rfl,_,_,_,_,_,rfl,.exc ha' (T.ek i hi),rfl,T.kt i 13 hi (by decide),_,rfl,_,_,_,_,_,rfl,.exc ha' (T.ek i hi),rfl,T.kt i 14 hi (by decide),_,rfl,_,_,_,_,_,rfl,.exc ha' (T.ek i hi),rfl,T.kt i 15 hi (by decide),by show 4 <= sizeLine;decide,fun l2 n2=>?_⟩
  refine ⟨l,l2,xs,_,rfl,rfl,by rw [fM (fZ hl n2)];exact hl,fX,small1000 (by simp;omega) |> Nat.le_of_lt,fun p np=>?_⟩
  have m2:H0 l2=none:=sm.free n2
  have s2:=lm (o:=.lst [.bl (decide (i=12)),.bl (decide (i=13)),.bl (decide (i=14)),.bl (decide (i=15))]) sm m2
  have mp:H0 p=none:=s2.free np
  exact k p _ mp (lm s2 mp) fX
theorem w4 (T:ExT K mg R c) {i:Nat} (hi:i < 17) {a:Addr}{H0:Hp} (ha:H0 a=some (.ext (Ex1 a (c i)))):∃ t,PS (XW P w K mg base f cdv A outer s Hx E) (stW 4) t /\ ∀ D H l xs,Same H0 H->H0 l=none->H l=some (.lst xs)->xs.length <= 100 ->
    (∀ H',Same H0 H'->H' l=some (.lst (xs ++ [.bl (decide (i=16))]))->D.nx [some (.ref a),some (.ref l),none] H')->t D [some (.ref a),some (.ref l),none] H:=by
  refine ⟨_,Gp (Gx PySem.F.plainAttrs_list PySem.F.slot_list_append PySem.F.type_list_append AU (pv 1) (fE (gq gn (by rfl) T.inst boot_isinstance (fE (pv 0) (fE (gU (v:=.ref (c 16)) rfl (T.m 16 _ rfl) rfl) gu))) gu)),fun D H l xs sm hn hl hx k=>?_⟩
  exact ⟨_,rfl,.inl ⟨rfl,_,SqL.of hl⟩,_,rfl,_,_,_,_,_,rfl,.exc (sm _ _ ha) (T.ek i hi),rfl,T.kt i 16 hi (by decide),l,xs,_,rfl,rfl,hl,small1000 (by omega),k _ (lm sm hn) fX⟩
theorem w5 (T:ExT K mg R c) {i:Nat} (hi:i < 17) {a:Addr}{H0:Hp} (ha:H0 a=some (.ext (Ex1 a (c i)))):∃ t,PS (XW P w K mg base f cdv A outer s Hx E) (stW 5) t /\ ∀ D H l,Same H0 H->H l=some (.lst (bls i 17)) ->
    D.nx [some (.ref a),some (.ref l),none] H->t D [some (.ref a),some (.ref l),none] H:=by
  refine ⟨_,(M9 (PW.pt (M8 (Gu Nb (Gx PySem.F.plainAttrs_list PySem.F.slot_list_count PySem.F.type_list_count Lf (pv 1) (fE JP gu)) By (nomark _)) (JR (JS (JQ (gq gn (by rfl) T.inst boot_isinstance (fE (pv 0) (fE (Gn (v:=.ty "ValueError") rfl T.verr JN rfl) gu)))))))) (Bl (CL FD)) Go),fun D H l sm hl k=>?_⟩
  refine ⟨_,rfl,.inl ⟨rfl,_,SqL.of hl⟩,l,_,_,rfl,rfl,hl,FB i 17,rfl,rfl,_,rfl,?_⟩
  rw [JM i hi]
  refine iteF ?_
  exact ⟨_,rfl,_,_,_,_,_,rfl,.exc (sm _ _ ha) (T.ek i hi),rfl,T.kv i hi,_,rfl,iteF k⟩
theorem w6 (T:ExT K mg R c) {a:Addr}{H0:Hp}:∃ t,PS (XW P w K mg base f cdv A outer s Hx E) (stW 6) t /\ ∀ D H l,Same H0 H ->
    (∀ l2 H',H l2=none->H'=upd H l2 (.lst ((exWords.take 12).map V.str))->D.nx [some (.ref a),some (.ref l),some (.ref l2)] H')->t D [some (.ref a),some (.ref l),none] H:=by
  have e:∃ p es q r,stW 6=.Assign [.Name "_law_words" p] (.List es q) r /\ es.map txtOf=(exWords.take 12).map some:=⟨_,_,_,_,rfl,rfl⟩
  obtain ⟨p,es,q,r,h,he⟩:=e
  rw [h]
  refine ⟨_,AT (i:=2) (x:="_law_words") scWord.nd rfl (Or.inl rfl) (Ao (CV he)) (Gm _ _ _ _),fun D H l sm k=>?_⟩
  exact ⟨by decide,fun l2 n2=>k l2 _ n2 rfl⟩
theorem w7 (T:ExT K mg R c) {i:Nat} (hi:i < 17) {a:Addr}{H0:Hp}:∃ t,PS (XW P w K mg base f cdv A outer s Hx E) (stW 7) t /\ ∀ D H l l2,Same H0 H->H l=some (.lst (bls i 17))->H l2=some (.lst ((exWords.take 12).map V.str)) ->
    (∀ H',Same H0 H'->D.rt (.str (wordOf i)) H')->t D [some (.ref a),some (.ref l),some (.ref l2)] H:=by
  refine ⟨_,(CL (J4 CP (DC BA (pv 2) (Ao (CV (xs:=exWords.drop 12) rfl))) (Gx PySem.F.plainAttrs_list PySem.F.slot_list_index PySem.F.type_list_index Lg (pv 1) (fE JP gu)) (fun _ _=>rfl))),fun D H l l2 sm hl h2 k=>?_⟩
  refine ⟨_,rfl,by decide,fun l3 n3=>?_⟩
  refine ⟨l2,l3,_,_,rfl,rfl,by rw [fM (fZ h2 n3)];exact h2,fX,by decide,fun p np=>?_⟩
  have m3:H0 l3=none:=sm.free n3
  have s3:=lm (o:=.lst ((exWords.drop 12).map V.str)) sm m3
  have mp:H0 p=none:=s3.free np
  have lp:l ≠ p:=by
    intro z
    rw [<-z,fM (fZ hl n3),hl] at np
    cases np
  have hl':(upd (upd H l3 (.lst ((exWords.drop 12).map V.str))) p (.lst ((exWords.take 12).map V.str ++ (exWords.drop 12).map V.str))) l=some (.lst (bls i 17)):=by rw [fM lp,fM (fZ hl n3)];exact hl
  refine ⟨_,rfl,.inl ⟨rfl,_,SqL.of hl'⟩,l,_,_,i,rfl,rfl,hl',FB i 17,rfl,?_,?_,?_,p,_,_,_,rfl,rfl,SqL.of fX,Mq (j:=i) (v:=.str (wordOf i)) ?_,k _ (lm s3 mp)⟩
  . exact hi
  . intro z e;rw [OA i hi] at e;cases e;rfl
  . intro m z hm e;rw [OB i hi m hm] at e;cases e;rfl
  . have:∀ i,i < 17->((exWords.take 12).map V.str ++ (exWords.drop 12).map V.str)[i]?=some (.str (wordOf i)):=by decide
    exact this i hi
theorem bodyW:fH sWord=[stW 0,stW 1,stW 2,stW 3,stW 4,stW 5,stW 6,stW 7]:=rfl
end
section
variable {P : Program} {w : World} {K : Frag} {mg : Str -> Option Value} {base : Heap} {R : Addr} {c : Nat -> Addr} {f : Addr}
theorem bls17 (i:Nat):(([.bl (decide (i=0)),.bl (decide (i=1)),.bl (decide (i=2)),.bl (decide (i=3))] ++ [.bl (decide (i=4)),.bl (decide (i=5)),.bl (decide (i=6)),.bl (decide (i=7))] ++ [.bl (decide (i=8)),.bl (decide (i=9)),.bl (decide (i=10)),.bl (decide (i=11))] ++ [.bl (decide (i=12)),.bl (decide (i=13)),.bl (decide (i=14)),.bl (decide (i=15))] ++ [.bl (decide (i=16))]:List V))=bls i 17:=rfl
theorem M7 {fd:FuncData} (F:Fun K "_law_word" "_law_word" sWord f fd) (T:ExT K mg R c):FnOkH P w K mg base CX0 1 f fd ["_law_e"] (spWord c):=by
  refine F.okH scWord (fun vs H Q E h=>?_) (fun cdv A outer s H vs Q E hr h=>?_)
  . obtain ⟨a,i,rfl,_⟩:=h
    rfl
  . obtain ⟨a,i,rfl,hi,ha,q⟩:=h
    rw [bodyW]
    obtain ⟨t0,p0,r0⟩:=w0 (P:=P) (w:=w) (K:=K) (mg:=mg) (base:=base) (f:=f) (cdv:=cdv) (A:=A) (outer:=outer) (s:=s) (Hx:=H) (E:=E) T hi ha
    obtain ⟨t1,p1,r1⟩:=w1 (P:=P) (w:=w) (K:=K) (mg:=mg) (base:=base) (f:=f) (cdv:=cdv) (A:=A) (outer:=outer) (s:=s) (Hx:=H) (E:=E) T hi ha
    obtain ⟨t2,p2,r2⟩:=w2 (P:=P) (w:=w) (K:=K) (mg:=mg) (base:=base) (f:=f) (cdv:=cdv) (A:=A) (outer:=outer) (s:=s) (Hx:=H) (E:=E) T hi ha
    obtain ⟨t3,p3,r3⟩:=w3 (P:=P) (w:=w) (K:=K) (mg:=mg) (base:=base) (f:=f) (cdv:=cdv) (A:=A) (outer:=outer) (s:=s) (Hx:=H) (E:=E) T hi ha
    obtain ⟨t4,p4,r4⟩:=w4 (P:=P) (w:=w) (K:=K) (mg:=mg) (base:=base) (f:=f) (cdv:=cdv) (A:=A) (outer:=outer) (s:=s) (Hx:=H) (E:=E) T hi ha
    obtain ⟨t5,p5,r5⟩:=w5 (P:=P) (w:=w) (K:=K) (mg:=mg) (base:=base) (f:=f) (cdv:=cdv) (A:=A) (outer:=outer) (s:=s) (Hx:=H) (E:=E) T hi ha
    obtain ⟨t6,p6,r6⟩:=w6 (P:=P) (w:=w) (K:=K) (mg:=mg) (base:=base) (f:=f) (cdv:=cdv) (A:=A) (outer:=outer) (s:=s) (Hx:=H) (E:=E) (a:=a) (H0:=H) T
    obtain ⟨t7,p7,r7⟩:=w7 (P:=P) (w:=w) (K:=K) (mg:=mg) (base:=base) (f:=f) (cdv:=cdv) (A:=A) (outer:=outer) (s:=s) (Hx:=H) (E:=E) (a:=a) (H0:=H) T hi
    generalize stW 0=x0 at p0 ⊢
    generalize stW 1=x1 at p1 ⊢
    generalize stW 2=x2 at p2 ⊢
    generalize stW 3=x3 at p3 ⊢
    generalize stW 4=x4 at p4 ⊢
    generalize stW 5=x5 at p5 ⊢
    generalize stW 6=x6 at p6 ⊢
    generalize stW 7=x7 at p7 ⊢
    refine ⟨_,ls p0 (ls p1 (ls p2 (ls p3 (ls p4 (ls p5 (ls p6 (Bl p7))))))),?_⟩
    refine r0 _ fun l1 H1 n1 s1 e1=>?_
    refine r1 _ _ _ _ s1 n1 e1 (by simp) fun l2 H2 n2 s2 e2=>?_
    refine r2 _ _ _ _ s2 n2 e2 (by simp) fun l3 H3 n3 s3 e3=>?_
    refine r3 _ _ _ _ s3 n3 e3 (by simp) fun l4 H4 n4 s4 e4=>?_
    refine r4 _ _ _ _ s4 n4 e4 (by simp) fun H5 s5 e5=>?_
    have e5':H5 l4=some (.lst (bls i 17)):=by rw [<-bls17 i];exact e5
    refine r5 _ _ _ s5 e5' ?_
    refine r6 _ _ _ s5 fun l6 H6 n6 e6=>?_
    subst e6
    have m6:H l6=none:=s5.free n6
    refine r7 _ _ _ _ (lm s5 m6) (by rw [fM (fZ e5' n6)];exact e5') fX fun H7 s7=>q H7 s7
end
end K2.Wd
set_option Elab.async false
set_option linter.all false
set_option maxRecDepth 100000
set_option maxHeartbeats 4000000
namespace K2
open PySem L2 L2.DL PySem.W PyProof.Rows
theorem OC {l:PySem.W.OpenLaw}{w:World}{K:Frag}{h:Heap}{mg:Str->Option Value}{fa:Addr} (X:K.In h) (G:h.Ns mainGlobals mg) (hfa:mg "law"=some (.ref fa))
    (z0:nsIn K mainGlobals "all"=some none)
    (z1:nsIn K mainGlobals "bool"=some none)
    (z2:nsIn K mainGlobals "int"=some none)
    (z3:nsIn K mainGlobals "isinstance"=some none)
    (z4:nsIn K mainGlobals "len"=some none)
    (z5:nsIn K mainGlobals "list"=some none)
    (z6:nsIn K mainGlobals "max"=some none)
    (z7:nsIn K mainGlobals "min"=some none)
    (z8:nsIn K mainGlobals "range"=some none)
    (z9:nsIn K mainGlobals "repr"=some none)
    (z10:nsIn K mainGlobals "sorted"=some none)
    (z11:nsIn K mainGlobals "tuple"=some none)
    (z12:nsIn K mainGlobals "zip"=some none)
    {gt0:Tok} (gg0:nsIn K mainGlobals "COLDEST"=some (some (.int 3 gt0)))
    {gt1:Tok} (gg1:nsIn K mainGlobals "MOST_OUTS"=some (some (.int 4 gt1)))
    {f0:Addr}{od0 an0:Option Addr}{sl0:Array (Option Value)}{oc0 kV0 dc0 pm0 cd0 ct0:Value} (a0:nsIn K mainGlobals "_law_pot"=some (some (.ref f0))) (l0:K.lookup f0=some ⟨oc0,od0,.func (fnOf "_law_pot" "_law_pot" (fN lY) (fH lY) (fq lY) .none kV0 dc0 pm0 an0 cd0 ct0),sl0⟩) (g0:codeIn K cd0 "_law_pot"=true) (k0:keepIn K (.ref f0)=true)
    {f1:Addr}{od1 an1:Option Addr}{sl1:Array (Option Value)}{oc1 kV1 dc1 pm1 cd1 ct1:Value} (a1:nsIn K mainGlobals "_law_take"=some (some (.ref f1))) (l1:K.lookup f1=some ⟨oc1,od1,.func (fnOf "_law_take" "_law_take" (fN jY) (fH jY) (fq jY) .none kV1 dc1 pm1 an1 cd1 ct1),sl1⟩) (g1:codeIn K cd1 "_law_take"=true) (k1:keepIn K (.ref f1)=true)
    {f2:Addr}{od2 an2:Option Addr}{sl2:Array (Option Value)}{oc2 kV2 dc2 pm2 cd2 ct2:Value} (a2:nsIn K mainGlobals "_law_kind_of"=some (some (.ref f2))) (l2:K.lookup f2=some ⟨oc2,od2,.func (fnOf "_law_kind_of" "_law_kind_of" (fN ip) (fH ip) (fq ip) .none kV2 dc2 pm2 an2 cd2 ct2),sl2⟩) (g2:codeIn K cd2 "_law_kind_of"=true) (k2:keepIn K (.ref f2)=true)
    {f3:Addr}{od3 an3:Option Addr}{sl3:Array (Option Value)}{oc3 kV3 dc3 pm3 cd3 ct3:Value} (a3:nsIn K mainGlobals "_law_house"=some (some (.ref f3))) (l3:K.lookup f3=some ⟨oc3,od3,.func (fnOf "_law_house" "_law_house" (fN ik) (fH ik) (fq ik) .none kV3 dc3 pm3 an3 cd3 ct3),sl3⟩) (g3:codeIn K cd3 "_law_house"=true) (k3:keepIn K (.ref f3)=true)
    {f4:Addr}{od4 an4:Option Addr}{sl4:Array (Option Value)}{oc4 kV4 dc4 pm4 cd4 ct4:Value} (a4:nsIn K mainGlobals "_law_far"=some (some (.ref f4))) (l4:K.lookup f4=some ⟨oc4,od4,.func (fnOf "_law_far" "_law_far" (fN jE) (fH jE) (fq jE) .none kV4 dc4 pm4 an4 cd4 ct4),sl4⟩) (g4:codeIn K cd4 "_law_far"=true) (k4:keepIn K (.ref f4)=true)
    {f5:Addr}{od5 an5:Option Addr}{sl5:Array (Option Value)}{oc5 kV5 dc5 pm5 cd5 ct5:Value} (a5:nsIn K mainGlobals "_law_odd"=some (some (.ref f5))) (l5:K.lookup f5=some ⟨oc5,od5,.func (fnOf "_law_odd" "_law_odd" (fN lZ) (fH lZ) (fq lZ) .none kV5 dc5 pm5 an5 cd5 ct5),sl5⟩) (g5:codeIn K cd5 "_law_odd"=true) (k5:keepIn K (.ref f5)=true)
    {f6:Addr}{od6 an6:Option Addr}{sl6:Array (Option Value)}{oc6 kV6 dc6 pm6 cd6 ct6:Value} (a6:nsIn K mainGlobals "_law_whole"=some (some (.ref f6))) (l6:K.lookup f6=some ⟨oc6,od6,.func (fnOf "_law_whole" "_law_whole" (fN jF) (fH jF) (fq jF) .none kV6 dc6 pm6 an6 cd6 ct6),sl6⟩) (g6:codeIn K cd6 "_law_whole"=true) (k6:keepIn K (.ref f6)=true)
    {f7:Addr}{od7 an7:Option Addr}{sl7:Array (Option Value)}{oc7 kV7 dc7 pm7 cd7 ct7:Value} (a7:nsIn K mainGlobals "_law_bent"=some (some (.ref f7))) (l7:K.lookup f7=some ⟨oc7,od7,.func (fnOf "_law_bent" "_law_bent" (fN jZ) (fH jZ) (fq jZ) .none kV7 dc7 pm7 an7 cd7 ct7),sl7⟩) (g7:codeIn K cd7 "_law_bent"=true) (k7:keepIn K (.ref f7)=true)
    {f8:Addr}{od8 an8:Option Addr}{sl8:Array (Option Value)}{oc8 kV8 dc8 pm8 cd8 ct8:Value} (a8:nsIn K mainGlobals "_law_things"=some (some (.ref f8))) (l8:K.lookup f8=some ⟨oc8,od8,.func (fnOf "_law_things" "_law_things" (fN iQ) (fH iQ) (fq iQ) .none kV8 dc8 pm8 an8 cd8 ct8),sl8⟩) (g8:codeIn K cd8 "_law_things"=true) (k8:keepIn K (.ref f8)=true)
    {f9:Addr}{od9 an9:Option Addr}{sl9:Array (Option Value)}{oc9 kV9 dc9 pm9 cd9 ct9:Value} (a9:nsIn K mainGlobals "_law_cell_at"=some (some (.ref f9))) (l9:K.lookup f9=some ⟨oc9,od9,.func (fnOf "_law_cell_at" "_law_cell_at" (fN iX) (fH iX) (fq iX) .none kV9 dc9 pm9 an9 cd9 ct9),sl9⟩) (g9:codeIn K cd9 "_law_cell_at"=true) (k9:keepIn K (.ref f9)=true)
    {f10:Addr}{od10 an10:Option Addr}{sl10:Array (Option Value)}{oc10 kV10 dc10 pm10 cd10 ct10:Value} (a10:nsIn K mainGlobals "_law_outs"=some (some (.ref f10))) (l10:K.lookup f10=some ⟨oc10,od10,.func (fnOf "_law_outs" "_law_outs" (fN j3) (fH j3) (fq j3) .none kV10 dc10 pm10 an10 cd10 ct10),sl10⟩) (g10:codeIn K cd10 "_law_outs"=true) (k10:keepIn K (.ref f10)=true)
    {f11:Addr}{od11 an11:Option Addr}{sl11:Array (Option Value)}{oc11 kV11 dc11 pm11 cd11 ct11:Value} (a11:nsIn K mainGlobals "is_tuple"=some (some (.ref f11))) (l11:K.lookup f11=some ⟨oc11,od11,.func (fnOf "is_tuple" "is_tuple" (fN j4) (fH j4) (fq j4) .none kV11 dc11 pm11 an11 cd11 ct11),sl11⟩) (g11:codeIn K cd11 "is_tuple"=true) (k11:keepIn K (.ref f11)=true)
    {f12:Addr}{od12 an12:Option Addr}{sl12:Array (Option Value)}{oc12 kV12 dc12 pm12 cd12 ct12:Value} (a12:nsIn K mainGlobals "is_whole"=some (some (.ref f12))) (l12:K.lookup f12=some ⟨oc12,od12,.func (fnOf "is_whole" "is_whole" (fN j5) (fH j5) (fq j5) .none kV12 dc12 pm12 an12 cd12 ct12),sl12⟩) (g12:codeIn K cd12 "is_whole"=true) (k12:keepIn K (.ref f12)=true)
    {f13:Addr}{od13 an13:Option Addr}{sl13:Array (Option Value)}{oc13 kV13 dc13 pm13 cd13 ct13:Value} (a13:nsIn K mainGlobals "is_within"=some (some (.ref f13))) (l13:K.lookup f13=some ⟨oc13,od13,.func (fnOf "is_within" "is_within" (fN jG) (fH jG) (fq jG) .none kV13 dc13 pm13 an13 cd13 ct13),sl13⟩) (g13:codeIn K cd13 "is_within"=true) (k13:keepIn K (.ref f13)=true)
    {f14:Addr}{od14 an14:Option Addr}{sl14:Array (Option Value)}{oc14 kV14 dc14 pm14 cd14 ct14:Value} (a14:nsIn K mainGlobals "are_rooms"=some (some (.ref f14))) (l14:K.lookup f14=some ⟨oc14,od14,.func (fnOf "are_rooms" "are_rooms" (fN jb) (fH jb) (fq jb) .none kV14 dc14 pm14 an14 cd14 ct14),sl14⟩) (g14:codeIn K cd14 "are_rooms"=true) (k14:keepIn K (.ref f14)=true)
    {f15:Addr}{od15 an15:Option Addr}{sl15:Array (Option Value)}{oc15 kV15 dc15 pm15 cd15 ct15:Value} (a15:nsIn K mainGlobals "are_rates"=some (some (.ref f15))) (l15:K.lookup f15=some ⟨oc15,od15,.func (fnOf "are_rates" "are_rates" (fN iL) (fH iL) (fq iL) .none kV15 dc15 pm15 an15 cd15 ct15),sl15⟩) (g15:codeIn K cd15 "are_rates"=true) (k15:keepIn K (.ref f15)=true)
    {f16:Addr}{od16 an16:Option Addr}{sl16:Array (Option Value)}{oc16 kV16 dc16 pm16 cd16 ct16:Value} (a16:nsIn K mainGlobals "is_kind"=some (some (.ref f16))) (l16:K.lookup f16=some ⟨oc16,od16,.func (fnOf "is_kind" "is_kind" (fN mf) (fH mf) (fq mf) .none kV16 dc16 pm16 an16 cd16 ct16),sl16⟩) (g16:codeIn K cd16 "is_kind"=true) (k16:keepIn K (.ref f16)=true)
    {f17:Addr}{od17 an17:Option Addr}{sl17:Array (Option Value)}{oc17 kV17 dc17 pm17 cd17 ct17:Value} (a17:nsIn K mainGlobals "are_kinds"=some (some (.ref f17))) (l17:K.lookup f17=some ⟨oc17,od17,.func (fnOf "are_kinds" "are_kinds" (fN jc) (fH jc) (fq jc) .none kV17 dc17 pm17 an17 cd17 ct17),sl17⟩) (g17:codeIn K cd17 "are_kinds"=true) (k17:keepIn K (.ref f17)=true)
    {f18:Addr}{od18 an18:Option Addr}{sl18:Array (Option Value)}{oc18 kV18 dc18 pm18 cd18 ct18:Value} (a18:nsIn K mainGlobals "is_rising"=some (some (.ref f18))) (l18:K.lookup f18=some ⟨oc18,od18,.func (fnOf "is_rising" "is_rising" (fN jd) (fH jd) (fq jd) .none kV18 dc18 pm18 an18 cd18 ct18),sl18⟩) (g18:codeIn K cd18 "is_rising"=true) (k18:keepIn K (.ref f18)=true)
    {f19:Addr}{od19 an19:Option Addr}{sl19:Array (Option Value)}{oc19 kV19 dc19 pm19 cd19 ct19:Value} (a19:nsIn K mainGlobals "is_pair_apart"=some (some (.ref f19))) (l19:K.lookup f19=some ⟨oc19,od19,.func (fnOf "is_pair_apart" "is_pair_apart" (fN gS) (fH gS) (fq gS) .none kV19 dc19 pm19 an19 cd19 ct19),sl19⟩) (g19:codeIn K cd19 "is_pair_apart"=true) (k19:keepIn K (.ref f19)=true)
    {f20:Addr}{od20 an20:Option Addr}{sl20:Array (Option Value)}{oc20 kV20 dc20 pm20 cd20 ct20:Value} (a20:nsIn K mainGlobals "are_apart"=some (some (.ref f20))) (l20:K.lookup f20=some ⟨oc20,od20,.func (fnOf "are_apart" "are_apart" (fN jf) (fH jf) (fq jf) .none kV20 dc20 pm20 an20 cd20 ct20),sl20⟩) (g20:codeIn K cd20 "are_apart"=true) (k20:keepIn K (.ref f20)=true)
    {f21:Addr}{od21 an21:Option Addr}{sl21:Array (Option Value)}{oc21 kV21 dc21 pm21 cd21 ct21:Value} (a21:nsIn K mainGlobals "is_house"=some (some (.ref f21))) (l21:K.lookup f21=some ⟨oc21,od21,.func (fnOf "is_house" "is_house" (fN j6) (fH j6) (fq j6) .none kV21 dc21 pm21 an21 cd21 ct21),sl21⟩) (g21:codeIn K cd21 "is_house"=true) (k21:keepIn K (.ref f21)=true)
    {f22:Addr}{od22 an22:Option Addr}{sl22:Array (Option Value)}{oc22 kV22 dc22 pm22 cd22 ct22:Value} (a22:nsIn K mainGlobals "need_house"=some (some (.ref f22))) (l22:K.lookup f22=some ⟨oc22,od22,.func (fnOf "need_house" "need_house" (fN jm) (fH jm) (fq jm) .none kV22 dc22 pm22 an22 cd22 ct22),sl22⟩) (g22:codeIn K cd22 "need_house"=true) (k22:keepIn K (.ref f22)=true)
    {f23:Addr}{od23 an23:Option Addr}{sl23:Array (Option Value)}{oc23 kV23 dc23 pm23 cd23 ct23:Value} (a23:nsIn K mainGlobals "lie_apart"=some (some (.ref f23))) (l23:K.lookup f23=some ⟨oc23,od23,.func (fnOf "lie_apart" "lie_apart" (fN jg) (fH jg) (fq jg) .none kV23 dc23 pm23 an23 cd23 ct23),sl23⟩) (g23:codeIn K cd23 "lie_apart"=true) (k23:keepIn K (.ref f23)=true)
    {f24:Addr}{od24 an24:Option Addr}{sl24:Array (Option Value)}{oc24 kV24 dc24 pm24 cd24 ct24:Value} (a24:nsIn K mainGlobals "is_hour"=some (some (.ref f24))) (l24:K.lookup f24=some ⟨oc24,od24,.func (fnOf "is_hour" "is_hour" (fN mh) (fH mh) (fq mh) .none kV24 dc24 pm24 an24 cd24 ct24),sl24⟩) (g24:codeIn K cd24 "is_hour"=true) (k24:keepIn K (.ref f24)=true)
    {f25:Addr}{od25 an25:Option Addr}{sl25:Array (Option Value)}{oc25 kV25 dc25 pm25 cd25 ct25:Value} (a25:nsIn K mainGlobals "is_out"=some (some (.ref f25))) (l25:K.lookup f25=some ⟨oc25,od25,.func (fnOf "is_out" "is_out" (fN oj) (fH oj) (fq oj) .none kV25 dc25 pm25 an25 cd25 ct25),sl25⟩) (g25:codeIn K cd25 "is_out"=true) (k25:keepIn K (.ref f25)=true)
    {f26:Addr}{od26 an26:Option Addr}{sl26:Array (Option Value)}{oc26 kV26 dc26 pm26 cd26 ct26:Value} (a26:nsIn K mainGlobals "are_outs"=some (some (.ref f26))) (l26:K.lookup f26=some ⟨oc26,od26,.func (fnOf "are_outs" "are_outs" (fN jA) (fH jA) (fq jA) .none kV26 dc26 pm26 an26 cd26 ct26),sl26⟩) (g26:codeIn K cd26 "are_outs"=true) (k26:keepIn K (.ref f26)=true)
    {f27:Addr}{od27 an27:Option Addr}{sl27:Array (Option Value)}{oc27 kV27 dc27 pm27 cd27 ct27:Value} (a27:nsIn K mainGlobals "need_outs"=some (some (.ref f27))) (l27:K.lookup f27=some ⟨oc27,od27,.func (fnOf "need_outs" "need_outs" (fN jH) (fH jH) (fq jH) .none kV27 dc27 pm27 an27 cd27 ct27),sl27⟩) (g27:codeIn K cd27 "need_outs"=true) (k27:keepIn K (.ref f27)=true)
    {f28:Addr}{od28 an28:Option Addr}{sl28:Array (Option Value)}{oc28 kV28 dc28 pm28 cd28 ct28:Value} (a28:nsIn K mainGlobals "need_hour"=some (some (.ref f28))) (l28:K.lookup f28=some ⟨oc28,od28,.func (fnOf "need_hour" "need_hour" (fN jI) (fH jI) (fq jI) .none kV28 dc28 pm28 an28 cd28 ct28),sl28⟩) (g28:codeIn K cd28 "need_hour"=true) (k28:keepIn K (.ref f28)=true)
    {f29:Addr}{od29 an29:Option Addr}{sl29:Array (Option Value)}{oc29 kV29 dc29 pm29 cd29 ct29:Value} (a29:nsIn K mainGlobals "cold_by_outs"=some (some (.ref f29))) (l29:K.lookup f29=some ⟨oc29,od29,.func (fnOf "cold_by_outs" "cold_by_outs" (fN iF) (fH iF) (fq iF) .none kV29 dc29 pm29 an29 cd29 ct29),sl29⟩) (g29:codeIn K cd29 "cold_by_outs"=true) (k29:keepIn K (.ref f29)=true)
    {f30:Addr}{od30 an30:Option Addr}{sl30:Array (Option Value)}{oc30 kV30 dc30 pm30 cd30 ct30:Value} (a30:nsIn K mainGlobals "is_room"=some (some (.ref f30))) (l30:K.lookup f30=some ⟨oc30,od30,.func (fnOf "is_room" "is_room" (fN ml) (fH ml) (fq ml) .none kV30 dc30 pm30 an30 cd30 ct30),sl30⟩) (g30:codeIn K cd30 "is_room"=true) (k30:keepIn K (.ref f30)=true)
    {f31:Addr}{od31 an31:Option Addr}{sl31:Array (Option Value)}{oc31 kV31 dc31 pm31 cd31 ct31:Value} (a31:nsIn K mainGlobals "cold_at"=some (some (.ref f31))) (l31:K.lookup f31=some ⟨oc31,od31,.func (fnOf "cold_at" "cold_at" (fN mm) (fH mm) (fq mm) .none kV31 dc31 pm31 an31 cd31 ct31),sl31⟩) (g31:codeIn K cd31 "cold_at"=true) (k31:keepIn K (.ref f31)=true)
    {f32:Addr}{od32 an32:Option Addr}{sl32:Array (Option Value)}{oc32 kV32 dc32 pm32 cd32 ct32:Value} (a32:nsIn K mainGlobals "_law_told"=some (some (.ref f32))) (l32:K.lookup f32=some ⟨oc32,od32,.func (fnOf "_law_told" "_law_told" (fN j7) (fH j7) (fq j7) .none kV32 dc32 pm32 an32 cd32 ct32),sl32⟩) (g32:codeIn K cd32 "_law_told"=true) (k32:keepIn K (.ref f32)=true)
    {f33:Addr}{od33 an33:Option Addr}{sl33:Array (Option Value)}{oc33 kV33 dc33 pm33 cd33 ct33:Value} (a33:nsIn K mainGlobals "_law_is_hour"=some (some (.ref f33))) (l33:K.lookup f33=some ⟨oc33,od33,.func (fnOf "_law_is_hour" "_law_is_hour" (fN iY) (fH iY) (fq iY) .none kV33 dc33 pm33 an33 cd33 ct33),sl33⟩) (g33:codeIn K cd33 "_law_is_hour"=true) (k33:keepIn K (.ref f33)=true)
    {f34:Addr}{od34 an34:Option Addr}{sl34:Array (Option Value)}{oc34 kV34 dc34 pm34 cd34 ct34:Value} (a34:nsIn K mainGlobals "_law_are_outs"=some (some (.ref f34))) (l34:K.lookup f34=some ⟨oc34,od34,.func (fnOf "_law_are_outs" "_law_are_outs" (fN iG) (fH iG) (fq iG) .none kV34 dc34 pm34 an34 cd34 ct34),sl34⟩) (g34:codeIn K cd34 "_law_are_outs"=true) (k34:keepIn K (.ref f34)=true)
    {f35:Addr}{od35 an35:Option Addr}{sl35:Array (Option Value)}{oc35 kV35 dc35 pm35 cd35 ct35:Value} (a35:nsIn K mainGlobals "_law_within"=some (some (.ref f35))) (l35:K.lookup f35=some ⟨oc35,od35,.func (fnOf "_law_within" "_law_within" (fN jo) (fH jo) (fq jo) .none kV35 dc35 pm35 an35 cd35 ct35),sl35⟩) (g35:codeIn K cd35 "_law_within"=true) (k35:keepIn K (.ref f35)=true)
    {f36:Addr}{od36 an36:Option Addr}{sl36:Array (Option Value)}{oc36 kV36 dc36 pm36 cd36 ct36:Value} (a36:nsIn K mainGlobals "_law_cold"=some (some (.ref f36))) (l36:K.lookup f36=some ⟨oc36,od36,.func (fnOf "_law_cold" "_law_cold" (fN j9) (fH j9) (fq j9) .none kV36 dc36 pm36 an36 cd36 ct36),sl36⟩) (g36:codeIn K cd36 "_law_cold"=true) (k36:keepIn K (.ref f36)=true)
    {f37:Addr}{od37 an37:Option Addr}{sl37:Array (Option Value)}{oc37 kV37 dc37 pm37 cd37 ct37:Value} (a37:nsIn K mainGlobals "_law_due"=some (some (.ref f37))) (l37:K.lookup f37=some ⟨oc37,od37,.func (fnOf "_law_due" "_law_due" (fN mn) (fH mn) (fq mn) .none kV37 dc37 pm37 an37 cd37 ct37),sl37⟩) (g37:codeIn K cd37 "_law_due"=true) (k37:keepIn K (.ref f37)=true)
    {f38:Addr}{od38 an38:Option Addr}{sl38:Array (Option Value)}{oc38 kV38 dc38 pm38 cd38 ct38:Value} (a38:nsIn K mainGlobals "law"=some (some (.ref f38))) (l38:K.lookup f38=some ⟨oc38,od38,.func (fnOf "law" "law" (fN CK) (fH CK) (fq CK) .none kV38 dc38 pm38 an38 cd38 ct38),sl38⟩) (g38:codeIn K cd38 "law"=true) (k38:keepIn K (.ref f38)=true)
    {R c0 c1 c2 c3 c4 c5 c6 c7 c8 c9 c10 c11 c12 c13 c14 c15 c16:Addr}
    (eR:nsIn K mainGlobals "RimeError"=some (some (.ref R)))
    (e0:nsIn K mainGlobals "NoHouse"=some (some (.ref c0)))
    (e1:nsIn K mainGlobals "NoOuts"=some (some (.ref c1)))
    (e2:nsIn K mainGlobals "NoRoom"=some (some (.ref c2)))
    (e3:nsIn K mainGlobals "NoHour"=some (some (.ref c3)))
    (e4:nsIn K mainGlobals "NoPages"=some (some (.ref c4)))
    (e5:nsIn K mainGlobals "NoLot"=some (some (.ref c5)))
    (e6:nsIn K mainGlobals "NoAsks"=some (some (.ref c6)))
    (e7:nsIn K mainGlobals "NoNumber"=some (some (.ref c7)))
    (e8:nsIn K mainGlobals "NoMoves"=some (some (.ref c8)))
    (e9:nsIn K mainGlobals "NoEach"=some (some (.ref c9)))
    (e10:nsIn K mainGlobals "NoOrder"=some (some (.ref c10)))
    (e11:nsIn K mainGlobals "NoPage"=some (some (.ref c11)))
    (e12:nsIn K mainGlobals "NoOut"=some (some (.ref c12)))
    (e13:nsIn K mainGlobals "Twice"=some (some (.ref c13)))
    (e14:nsIn K mainGlobals "Missing"=some (some (.ref c14)))
    (e15:nsIn K mainGlobals "TooMany"=some (some (.ref c15)))
    (e16:nsIn K mainGlobals "NoDeed"=some (some (.ref c16)))
    (zi:nsIn K mainGlobals "isinstance"=some none) (zv:nsIn K mainGlobals "ValueError"=some none)
    (h1:([c0,c1,c2,c3,c4,c5,c6,c7,c8,c9,c10,c11,c12,c13,c14,c15,c16]:List Addr).all (chk1 K R)=true) (h2:chk2 K ([c0,c1,c2,c3,c4,c5,c6,c7,c8,c9,c10,c11,c12,c13,c14,c15,c16]:List Addr)=true) (h3:chk3 K R=true)
    {fW:Addr}{odW anW:Option Addr}{slW:Array (Option Value)}{ocW kVW dcW pmW cdW ctW:Value} (aW:nsIn K mainGlobals "_law_word"=some (some (.ref fW))) (lW:K.lookup fW=some ⟨ocW,odW,.func (fnOf "_law_word" "_law_word" (fN Wd.sWord) (fH Wd.sWord) (fq Wd.sWord) .none kVW dcW pmW anW cdW ctW),slW⟩) (gW:codeIn K cdW "_law_word"=true) (kW:keepIn K (.ref fW)=true)
    (y1:tysChk K=true) :
    ∃ (cl:Nat->Addr) (fd:FuncData),(∀ (s:Shared) (u:Value),BindsTo s fd ⟨[u],[]⟩ [("_law_script",u)]) /\ ∀ base:Heap,K.In base->base.Ns mainGlobals mg->FnOk l.prog w K mg base (CXr l.prog w) 17 fa fd ["_law_script"] (spD cl 1 K2.BP):=by
  have gl_COLDEST:∃ t,mg "COLDEST"=some (.int 3 t):=⟨gt0,mg_of X G gg0⟩
  have gl_MOST_OUTS:∃ t,mg "MOST_OUTS"=some (.int 4 t):=⟨gt1,mg_of X G gg1⟩
  have D0:Def K mg "_law_pot" lY ["_law_cell"]:=gj X G a0 l0 g0 k0 fun fd F=>F.binds (ps:=["_law_cell"]) fun _ _ _ _ _ _ us hl=>match us,hl with | [_],_=>rfl
  have D1:Def K mg "_law_take" jY ["_law_pot_here", "_law_far_here"]:=gj X G a1 l1 g1 k1 fun fd F=>F.binds (ps:=["_law_pot_here", "_law_far_here"]) fun _ _ _ _ _ _ us hl=>match us,hl with | [_,_],_=>rfl
  have D2:Def K mg "_law_kind_of" ip ["_law_pot_here"]:=gj X G a2 l2 g2 k2 fun fd F=>F.binds (ps:=["_law_pot_here"]) fun _ _ _ _ _ _ us hl=>match us,hl with | [_],_=>rfl
  have D3:Def K mg "_law_house" ik ["_law_pot_here"]:=gj X G a3 l3 g3 k3 fun fd F=>F.binds (ps:=["_law_pot_here"]) fun _ _ _ _ _ _ us hl=>match us,hl with | [_],_=>rfl
  have D4:Def K mg "_law_far" jE ["_law_pot_here", "_law_outs_here", "_law_pages"]:=gj X G a4 l4 g4 k4 fun fd F=>F.binds (ps:=["_law_pot_here", "_law_outs_here", "_law_pages"]) fun _ _ _ _ _ _ us hl=>match us,hl with | [_,_,_],_=>rfl
  have D5:Def K mg "_law_odd" lZ ["_law_pot_here"]:=gj X G a5 l5 g5 k5 fun fd F=>F.binds (ps:=["_law_pot_here"]) fun _ _ _ _ _ _ us hl=>match us,hl with | [_],_=>rfl
  have D6:Def K mg "_law_whole" jF ["_law_thing"]:=gj X G a6 l6 g6 k6 fun fd F=>F.binds (ps:=["_law_thing"]) fun _ _ _ _ _ _ us hl=>match us,hl with | [_],_=>rfl
  have D7:Def K mg "_law_bent" jZ ["_law_pot_here", "_law_thing"]:=gj X G a7 l7 g7 k7 fun fd F=>F.binds (ps:=["_law_pot_here", "_law_thing"]) fun _ _ _ _ _ _ us hl=>match us,hl with | [_,_],_=>rfl
  have D8:Def K mg "_law_things" iQ ["_law_pot_here", "_law_outs_here"]:=gj X G a8 l8 g8 k8 fun fd F=>F.binds (ps:=["_law_pot_here", "_law_outs_here"]) fun _ _ _ _ _ _ us hl=>match us,hl with | [_,_],_=>rfl
  have D9:Def K mg "_law_cell_at" iX ["_law_script", "_law_k"]:=gj X G a9 l9 g9 k9 fun fd F=>F.binds (ps:=["_law_script", "_law_k"]) fun _ _ _ _ _ _ us hl=>match us,hl with | [_,_],_=>rfl
  have D10:Def K mg "_law_outs" j3 ["_law_pot_here", "_law_near"]:=gj X G a10 l10 g10 k10 fun fd F=>F.binds (ps:=["_law_pot_here", "_law_near"]) fun _ _ _ _ _ _ us hl=>match us,hl with | [_,_],_=>rfl
  have D11:Def K mg "is_tuple" j4 ["thing", "fewest", "most"]:=gj X G a11 l11 g11 k11 fun fd F=>F.binds (ps:=["thing", "fewest", "most"]) fun _ _ _ _ _ _ us hl=>match us,hl with | [_,_,_],_=>rfl
  have D12:Def K mg "is_whole" j5 ["thing"]:=gj X G a12 l12 g12 k12 fun fd F=>F.binds (ps:=["thing"]) fun _ _ _ _ _ _ us hl=>match us,hl with | [_],_=>rfl
  have D13:Def K mg "is_within" jG ["thing", "least", "greatest"]:=gj X G a13 l13 g13 k13 fun fd F=>F.binds (ps:=["thing", "least", "greatest"]) fun _ _ _ _ _ _ us hl=>match us,hl with | [_,_,_],_=>rfl
  have D14:Def K mg "are_rooms" jb ["thing"]:=gj X G a14 l14 g14 k14 fun fd F=>F.binds (ps:=["thing"]) fun _ _ _ _ _ _ us hl=>match us,hl with | [_],_=>rfl
  have D15:Def K mg "are_rates" iL ["thing"]:=gj X G a15 l15 g15 k15 fun fd F=>F.binds (ps:=["thing"]) fun _ _ _ _ _ _ us hl=>match us,hl with | [_],_=>rfl
  have D16:Def K mg "is_kind" mf ["thing"]:=gj X G a16 l16 g16 k16 fun fd F=>F.binds (ps:=["thing"]) fun _ _ _ _ _ _ us hl=>match us,hl with | [_],_=>rfl
  have D17:Def K mg "are_kinds" jc ["thing"]:=gj X G a17 l17 g17 k17 fun fd F=>F.binds (ps:=["thing"]) fun _ _ _ _ _ _ us hl=>match us,hl with | [_],_=>rfl
  have D18:Def K mg "is_rising" jd ["things"]:=gj X G a18 l18 g18 k18 fun fd F=>F.binds (ps:=["things"]) fun _ _ _ _ _ _ us hl=>match us,hl with | [_],_=>rfl
  have D19:Def K mg "is_pair_apart" gS ["thing", "many"]:=gj X G a19 l19 g19 k19 fun fd F=>F.binds (ps:=["thing", "many"]) fun _ _ _ _ _ _ us hl=>match us,hl with | [_,_],_=>rfl
  have D20:Def K mg "are_apart" jf ["thing", "many"]:=gj X G a20 l20 g20 k20 fun fd F=>F.binds (ps:=["thing", "many"]) fun _ _ _ _ _ _ us hl=>match us,hl with | [_,_],_=>rfl
  have D21:Def K mg "is_house" j6 ["thing"]:=gj X G a21 l21 g21 k21 fun fd F=>F.binds (ps:=["thing"]) fun _ _ _ _ _ _ us hl=>match us,hl with | [_],_=>rfl
  have D22:Def K mg "need_house" jm ["thing"]:=gj X G a22 l22 g22 k22 fun fd F=>F.binds (ps:=["thing"]) fun _ _ _ _ _ _ us hl=>match us,hl with | [_],_=>rfl
  have D23:Def K mg "lie_apart" jg ["outs"]:=gj X G a23 l23 g23 k23 fun fd F=>F.binds (ps:=["outs"]) fun _ _ _ _ _ _ us hl=>match us,hl with | [_],_=>rfl
  have D24:Def K mg "is_hour" mh ["thing"]:=gj X G a24 l24 g24 k24 fun fd F=>F.binds (ps:=["thing"]) fun _ _ _ _ _ _ us hl=>match us,hl with | [_],_=>rfl
  have D25:Def K mg "is_out" oj ["thing"]:=gj X G a25 l25 g25 k25 fun fd F=>F.binds (ps:=["thing"]) fun _ _ _ _ _ _ us hl=>match us,hl with | [_],_=>rfl
  have D26:Def K mg "are_outs" jA ["house", "thing"]:=gj X G a26 l26 g26 k26 fun fd F=>F.binds (ps:=["house", "thing"]) fun _ _ _ _ _ _ us hl=>match us,hl with | [_,_],_=>rfl
  have D27:Def K mg "need_outs" jH ["house", "thing"]:=gj X G a27 l27 g27 k27 fun fd F=>F.binds (ps:=["house", "thing"]) fun _ _ _ _ _ _ us hl=>match us,hl with | [_,_],_=>rfl
  have D28:Def K mg "need_hour" jI ["thing"]:=gj X G a28 l28 g28 k28 fun fd F=>F.binds (ps:=["thing"]) fun _ _ _ _ _ _ us hl=>match us,hl with | [_],_=>rfl
  have D29:Def K mg "cold_by_outs" iF ["house", "outs", "room", "hour"]:=gj X G a29 l29 g29 k29 fun fd F=>F.binds (ps:=["house", "outs", "room", "hour"]) fun _ _ _ _ _ _ us hl=>match us,hl with | [_,_,_,_],_=>rfl
  have D30:Def K mg "is_room" ml ["house", "thing"]:=gj X G a30 l30 g30 k30 fun fd F=>F.binds (ps:=["house", "thing"]) fun _ _ _ _ _ _ us hl=>match us,hl with | [_,_],_=>rfl
  have D31:Def K mg "cold_at" mm ["house", "outs", "room", "hour"]:=gj X G a31 l31 g31 k31 fun fd F=>F.binds (ps:=["house", "outs", "room", "hour"]) fun _ _ _ _ _ _ us hl=>match us,hl with | [_,_,_,_],_=>rfl
  have D32:Def K mg "_law_told" j7 ["_law_house_here", "_law_outs_here", "_law_room", "_law_hour"]:=gj X G a32 l32 g32 k32 fun fd F=>F.binds (ps:=["_law_house_here", "_law_outs_here", "_law_room", "_law_hour"]) fun _ _ _ _ _ _ us hl=>match us,hl with | [_,_,_,_],_=>rfl
  have D33:Def K mg "_law_is_hour" iY ["_law_thing"]:=gj X G a33 l33 g33 k33 fun fd F=>F.binds (ps:=["_law_thing"]) fun _ _ _ _ _ _ us hl=>match us,hl with | [_],_=>rfl
  have D34:Def K mg "_law_are_outs" iG ["_law_thing"]:=gj X G a34 l34 g34 k34 fun fd F=>F.binds (ps:=["_law_thing"]) fun _ _ _ _ _ _ us hl=>match us,hl with | [_],_=>rfl
  have D35:Def K mg "_law_within" jo ["_law_thing", "_law_low", "_law_high"]:=gj X G a35 l35 g35 k35 fun fd F=>F.binds (ps:=["_law_thing", "_law_low", "_law_high"]) fun _ _ _ _ _ _ us hl=>match us,hl with | [_,_,_],_=>rfl
  have D36:Def K mg "_law_cold" j9 ["_law_house_here", "_law_outs_here", "_law_room", "_law_hour"]:=gj X G a36 l36 g36 k36 fun fd F=>F.binds (ps:=["_law_house_here", "_law_outs_here", "_law_room", "_law_hour"]) fun _ _ _ _ _ _ us hl=>match us,hl with | [_,_,_,_],_=>rfl
  have D37:Def K mg "_law_due" mn ["_law_house_here", "_law_outs_here", "_law_room", "_law_hour"]:=gj X G a37 l37 g37 k37 fun fd F=>F.binds (ps:=["_law_house_here", "_law_outs_here", "_law_room", "_law_hour"]) fun _ _ _ _ _ _ us hl=>match us,hl with | [_,_,_,_],_=>rfl
  have D38:Def K mg "law" CK ["_law_script"]:=gj X G a38 l38 g38 k38 fun fd F=>F.binds (ps:=["_law_script"]) fun _ _ _ _ _ _ us hl=>match us,hl with | [_],_=>rfl
  refine Oy (fun i=>([c0,c1,c2,c3,c4,c5,c6,c7,c8,c9,c10,c11,c12,c13,c14,c15,c16]:List Addr).getD i 0) hfa D38 (fun fd f F s u=>?_) fun base _ _=>?_
  . obtain ⟨⟨oc,od,kV,doc,pm,an,cdv,ct,osl,rfl,_,_⟩,_⟩:=F
    exact .of_eq rfl
  . have bas:Bas K mg blts:=Ox X G (fun x m=>by
      simp only [blts,List.mem_cons,List.not_mem_nil,or_false] at m
      rcases m with rfl | rfl | rfl | rfl | rfl | rfl | rfl | rfl | rfl | rfl | rfl | rfl | rfl
      . exact z0
      . exact z1
      . exact z2
      . exact z3
      . exact z4
      . exact z5
      . exact z6
      . exact z7
      . exact z8
      . exact z9
      . exact z10
      . exact z11
      . exact z12) y1
    have ext:ExT K mg R (fun i=>([c0,c1,c2,c3,c4,c5,c6,c7,c8,c9,c10,c11,c12,c13,c14,c15,c16]:List Addr).getD i 0):=Oz X G rfl eR (fun i x hx=>by
      match i,hx with
      | 0,hx=>cases hx;exact e0
      | 1,hx=>cases hx;exact e1
      | 2,hx=>cases hx;exact e2
      | 3,hx=>cases hx;exact e3
      | 4,hx=>cases hx;exact e4
      | 5,hx=>cases hx;exact e5
      | 6,hx=>cases hx;exact e6
      | 7,hx=>cases hx;exact e7
      | 8,hx=>cases hx;exact e8
      | 9,hx=>cases hx;exact e9
      | 10,hx=>cases hx;exact e10
      | 11,hx=>cases hx;exact e11
      | 12,hx=>cases hx;exact e12
      | 13,hx=>cases hx;exact e13
      | 14,hx=>cases hx;exact e14
      | 15,hx=>cases hx;exact e15
      | 16,hx=>cases hx;exact e16
      | n + 17,hx=>simp [exNames] at hx) zi zv h1 h2 h3
    have hw:HasW l.prog w K mg base (fun i=>([c0,c1,c2,c3,c4,c5,c6,c7,c8,c9,c10,c11,c12,c13,c14,c15,c16]:List Addr).getD i 0):=by
      have F:=FL (st:=Wd.sWord) lW gW kW
      exact ⟨fW,_,Wd.M7 F ext,mg_of X G aW,kW,F.binds (ps:=["_law_e"]) fun _ _ _ _ _ _ us hl=>match us,hl with | [_],_=>rfl⟩
    have og:=og (P:=l.prog) (w:=w) (base:=base) (cl:=(fun i=>([c0,c1,c2,c3,c4,c5,c6,c7,c8,c9,c10,c11,c12,c13,c14,c15,c16]:List Addr).getD i 0)) bas D0
    have fD:=fD (P:=l.prog) (w:=w) (base:=base) (cl:=(fun i=>([c0,c1,c2,c3,c4,c5,c6,c7,c8,c9,c10,c11,c12,c13,c14,c15,c16]:List Addr).getD i 0)) bas D1
    have jq:=jq (P:=l.prog) (w:=w) (base:=base) (cl:=(fun i=>([c0,c1,c2,c3,c4,c5,c6,c7,c8,c9,c10,c11,c12,c13,c14,c15,c16]:List Addr).getD i 0)) bas D2 fD
    have lC:=lC (P:=l.prog) (w:=w) (base:=base) (cl:=(fun i=>([c0,c1,c2,c3,c4,c5,c6,c7,c8,c9,c10,c11,c12,c13,c14,c15,c16]:List Addr).getD i 0)) bas D3 fD jq
    have oh:=oh (P:=l.prog) (w:=w) (base:=base) (cl:=(fun i=>([c0,c1,c2,c3,c4,c5,c6,c7,c8,c9,c10,c11,c12,c13,c14,c15,c16]:List Addr).getD i 0)) bas D4 fD
    have iE:=iE (P:=l.prog) (w:=w) (base:=base) (cl:=(fun i=>([c0,c1,c2,c3,c4,c5,c6,c7,c8,c9,c10,c11,c12,c13,c14,c15,c16]:List Addr).getD i 0)) bas D5 fD
    have gM:=gM (P:=l.prog) (w:=w) (base:=base) (cl:=(fun i=>([c0,c1,c2,c3,c4,c5,c6,c7,c8,c9,c10,c11,c12,c13,c14,c15,c16]:List Addr).getD i 0)) bas D6
    have i9:=i9 (P:=l.prog) (w:=w) (base:=base) (cl:=(fun i=>([c0,c1,c2,c3,c4,c5,c6,c7,c8,c9,c10,c11,c12,c13,c14,c15,c16]:List Addr).getD i 0)) bas D7 fD iE gM 12
    have jS:=jS (P:=l.prog) (w:=w) (base:=base) (cl:=(fun i=>([c0,c1,c2,c3,c4,c5,c6,c7,c8,c9,c10,c11,c12,c13,c14,c15,c16]:List Addr).getD i 0)) bas D8 iE i9
    have jr:=jr (P:=l.prog) (w:=w) (base:=base) (cl:=(fun i=>([c0,c1,c2,c3,c4,c5,c6,c7,c8,c9,c10,c11,c12,c13,c14,c15,c16]:List Addr).getD i 0)) bas D9
    have mG:=mG (P:=l.prog) (w:=w) (base:=base) (cl:=(fun i=>([c0,c1,c2,c3,c4,c5,c6,c7,c8,c9,c10,c11,c12,c13,c14,c15,c16]:List Addr).getD i 0)) bas D10 fD
    have fS:=fS (P:=l.prog) (w:=w) (base:=base) (cl:=(fun i=>([c0,c1,c2,c3,c4,c5,c6,c7,c8,c9,c10,c11,c12,c13,c14,c15,c16]:List Addr).getD i 0)) bas D11
    have ja:=ja (P:=l.prog) (w:=w) (base:=base) (cl:=(fun i=>([c0,c1,c2,c3,c4,c5,c6,c7,c8,c9,c10,c11,c12,c13,c14,c15,c16]:List Addr).getD i 0)) bas D12
    have fV:=fV (P:=l.prog) (w:=w) (base:=base) (cl:=(fun i=>([c0,c1,c2,c3,c4,c5,c6,c7,c8,c9,c10,c11,c12,c13,c14,c15,c16]:List Addr).getD i 0)) bas D13 ja
    have lD:=lD (P:=l.prog) (w:=w) (base:=base) (cl:=(fun i=>([c0,c1,c2,c3,c4,c5,c6,c7,c8,c9,c10,c11,c12,c13,c14,c15,c16]:List Addr).getD i 0)) bas D14 gl_COLDEST fS fV
    have lE:=lE (P:=l.prog) (w:=w) (base:=base) (cl:=(fun i=>([c0,c1,c2,c3,c4,c5,c6,c7,c8,c9,c10,c11,c12,c13,c14,c15,c16]:List Addr).getD i 0)) bas D15 gl_COLDEST fS fV
    have oi:=oi (P:=l.prog) (w:=w) (base:=base) (cl:=(fun i=>([c0,c1,c2,c3,c4,c5,c6,c7,c8,c9,c10,c11,c12,c13,c14,c15,c16]:List Addr).getD i 0)) bas D16 fS fV lE
    have lF:=lF (P:=l.prog) (w:=w) (base:=base) (cl:=(fun i=>([c0,c1,c2,c3,c4,c5,c6,c7,c8,c9,c10,c11,c12,c13,c14,c15,c16]:List Addr).getD i 0)) bas D17 fS oi
    have lG:=lG (P:=l.prog) (w:=w) (base:=base) (cl:=(fun i=>([c0,c1,c2,c3,c4,c5,c6,c7,c8,c9,c10,c11,c12,c13,c14,c15,c16]:List Addr).getD i 0)) bas D18
    have iV:=iV (P:=l.prog) (w:=w) (base:=base) (cl:=(fun i=>([c0,c1,c2,c3,c4,c5,c6,c7,c8,c9,c10,c11,c12,c13,c14,c15,c16]:List Addr).getD i 0)) bas D19 fS fV
    have lH:=lH (P:=l.prog) (w:=w) (base:=base) (cl:=(fun i=>([c0,c1,c2,c3,c4,c5,c6,c7,c8,c9,c10,c11,c12,c13,c14,c15,c16]:List Addr).getD i 0)) bas D20 lG iV
    have mH:=mH (P:=l.prog) (w:=w) (base:=base) (cl:=(fun i=>([c0,c1,c2,c3,c4,c5,c6,c7,c8,c9,c10,c11,c12,c13,c14,c15,c16]:List Addr).getD i 0)) bas D21 fS lD lF lH fV
    have jT:=jT (P:=l.prog) (w:=w) (base:=base) (cl:=(fun i=>([c0,c1,c2,c3,c4,c5,c6,c7,c8,c9,c10,c11,c12,c13,c14,c15,c16]:List Addr).getD i 0)) bas D22 ext mH
    have lJ:=lJ (P:=l.prog) (w:=w) (base:=base) (cl:=(fun i=>([c0,c1,c2,c3,c4,c5,c6,c7,c8,c9,c10,c11,c12,c13,c14,c15,c16]:List Addr).getD i 0)) bas D23
    have jn:=jn (P:=l.prog) (w:=w) (base:=base) (cl:=(fun i=>([c0,c1,c2,c3,c4,c5,c6,c7,c8,c9,c10,c11,c12,c13,c14,c15,c16]:List Addr).getD i 0)) bas D24 ja
    have Aa:=Aa (P:=l.prog) (w:=w) (base:=base) (cl:=(fun i=>([c0,c1,c2,c3,c4,c5,c6,c7,c8,c9,c10,c11,c12,c13,c14,c15,c16]:List Addr).getD i 0)) bas D25 fS jn
    have jh:=jh (P:=l.prog) (w:=w) (base:=base) (cl:=(fun i=>([c0,c1,c2,c3,c4,c5,c6,c7,c8,c9,c10,c11,c12,c13,c14,c15,c16]:List Addr).getD i 0)) bas D26 gl_MOST_OUTS jT fS lJ Aa
    have lK:=lK (P:=l.prog) (w:=w) (base:=base) (cl:=(fun i=>([c0,c1,c2,c3,c4,c5,c6,c7,c8,c9,c10,c11,c12,c13,c14,c15,c16]:List Addr).getD i 0)) bas D27 ext jh
    have lL:=lL (P:=l.prog) (w:=w) (base:=base) (cl:=(fun i=>([c0,c1,c2,c3,c4,c5,c6,c7,c8,c9,c10,c11,c12,c13,c14,c15,c16]:List Addr).getD i 0)) bas D28 ext jn
    have ji:=ji (P:=l.prog) (w:=w) (base:=base) (cl:=(fun i=>([c0,c1,c2,c3,c4,c5,c6,c7,c8,c9,c10,c11,c12,c13,c14,c15,c16]:List Addr).getD i 0)) bas D29
    have ol:=ol (P:=l.prog) (w:=w) (base:=base) (cl:=(fun i=>([c0,c1,c2,c3,c4,c5,c6,c7,c8,c9,c10,c11,c12,c13,c14,c15,c16]:List Addr).getD i 0)) bas D30 fV
    have om:=om (P:=l.prog) (w:=w) (base:=base) (cl:=(fun i=>([c0,c1,c2,c3,c4,c5,c6,c7,c8,c9,c10,c11,c12,c13,c14,c15,c16]:List Addr).getD i 0)) bas D31 ext lK lL ji ol
    have j8:=j8 (P:=l.prog) (w:=w) (base:=base) (cl:=(fun i=>([c0,c1,c2,c3,c4,c5,c6,c7,c8,c9,c10,c11,c12,c13,c14,c15,c16]:List Addr).getD i 0)) bas D32 ext hw om
    have gN:=gN (P:=l.prog) (w:=w) (base:=base) (cl:=(fun i=>([c0,c1,c2,c3,c4,c5,c6,c7,c8,c9,c10,c11,c12,c13,c14,c15,c16]:List Addr).getD i 0)) bas D33 gM
    have gQ:=gQ (P:=l.prog) (w:=w) (base:=base) (cl:=(fun i=>([c0,c1,c2,c3,c4,c5,c6,c7,c8,c9,c10,c11,c12,c13,c14,c15,c16]:List Addr).getD i 0)) bas D34 gN
    have jU:=jU (P:=l.prog) (w:=w) (base:=base) (cl:=(fun i=>([c0,c1,c2,c3,c4,c5,c6,c7,c8,c9,c10,c11,c12,c13,c14,c15,c16]:List Addr).getD i 0)) bas D35 gM
    have mI:=mI (P:=l.prog) (w:=w) (base:=base) (cl:=(fun i=>([c0,c1,c2,c3,c4,c5,c6,c7,c8,c9,c10,c11,c12,c13,c14,c15,c16]:List Addr).getD i 0)) bas D36
    have mq:=mq (P:=l.prog) (w:=w) (base:=base) (cl:=(fun i=>([c0,c1,c2,c3,c4,c5,c6,c7,c8,c9,c10,c11,c12,c13,c14,c15,c16]:List Addr).getD i 0)) bas D37 gQ jU gN mI
    exact Pg (P:=l.prog) (w:=w) (base:=base) (cl:=(fun i=>([c0,c1,c2,c3,c4,c5,c6,c7,c8,c9,c10,c11,c12,c13,c14,c15,c16]:List Addr).getD i 0)) bas D38 og lC oh jS jr mG fD j8 mq jh gQ
end K2
open PySem PySem.W PyProof.Rows
set_option maxRecDepth 100000
set_option maxHeartbeats 0
def PySem.W.Fast.tw3541134973132831063:Unit:=()
def PySem.W.Fast.tw655131020878088234:Unit:=()
def PySem.W.Fast.tw783498309285053999:Unit:=()
def PySem.W.Fast.tw17745876952176914382:Unit:=()
def PySem.W.Fast.tw8257618851667019439:Unit:=()
def PySem.W.Fast.tw432068554791582868:Unit:=()
def PySem.W.Fast.tw17951624874204634246:Unit:=()
def PySem.W.Fast.tw14248143724015484492:Unit:=()
def PySem.W.Fast.tw9010647942158604621:Unit:=()
def PySem.W.Fast.tw8358964824152894631:Unit:=()
def PySem.W.Fast.tw2104561680086700562:Unit:=()
def PySem.W.Fast.tw17703574788047869040:Unit:=()
def PySem.W.Fast.tw15285563252638462279:Unit:=()
def PySem.W.Fast.tw3293029181098739957:Unit:=()
def PySem.W.Fast.tw15800444066557905000:Unit:=()
open_top hdk2 for PySem.Challenge.rw_rimehold_k02_outs_and_colds
set_option maxRecDepth 100000 in
set_option maxHeartbeats 0 in
theorem PySem.Challenge.cw_rimehold_k02_outs_and_colds_holds : PySem.Challenge.rw_rimehold_k02_outs_and_colds.Holds :=
  hdk2 (by
  k_fill
  refine L2.DL.walk_d (l:=PySem.Challenge.rw_rimehold_k02_outs_and_colds) (k:=17) (fn:=K2.BP) ⟨rfl,by decide,by decide,rfl⟩ rfl rfl (fun w h Y=>PySem.W.kIn_of Y) ?kq_nl (fun ns h=>K2.law_true ns (by omega)) ?kq_F
  case kq_nl =>
    intro w
    kernel_rfl
  case kq_F =>
    intro w mg fa h KX G hmg
    refine' K2.OC KX G hmg ?kq_z0 ?kq_z1 ?kq_z2 ?kq_z3 ?kq_z4 ?kq_z5 ?kq_z6 ?kq_z7 ?kq_z8 ?kq_z9 ?kq_z10 ?kq_z11 ?kq_z12 ?kq_gg0 ?kq_gg1 ?kq_a0 ?kq_l0 ?kq_g0 ?kq_k0 ?kq_a1 ?kq_l1 ?kq_g1 ?kq_k1 ?kq_a2 ?kq_l2 ?kq_g2 ?kq_k2 ?kq_a3 ?kq_l3 ?kq_g3 ?kq_k3 ?kq_a4 ?kq_l4 ?kq_g4 ?kq_k4 ?kq_a5 ?kq_l5 ?kq_g5 ?kq_k5 ?kq_a6 ?kq_l6 ?kq_g6 ?kq_k6 ?kq_a7 ?kq_l7 ?kq_g7 ?kq_k7 ?kq_a8 ?kq_l8 ?kq_g8 ?kq_k8 ?kq_a9 ?kq_l9 ?kq_g9 ?kq_k9 ?kq_a10 ?kq_l10 ?kq_g10 ?kq_k10 ?kq_a11 ?kq_l11 ?kq_g11 ?kq_k11 ?kq_a12 ?kq_l12 ?kq_g12 ?kq_k12 ?kq_a13 ?kq_l13 ?kq_g13 ?kq_k13 ?kq_a14 ?kq_l14 ?kq_g14 ?kq_k14 ?kq_a15 ?kq_l15 ?kq_g15 ?kq_k15 ?kq_a16 ?kq_l16 ?kq_g16 ?kq_k16 ?kq_a17 ?kq_l17 ?kq_g17 ?kq_k17 ?kq_a18 ?kq_l18 ?kq_g18 ?kq_k18 ?kq_a19 ?kq_l19 ?kq_g19 ?kq_k19 ?kq_a20 ?kq_l20 ?kq_g20 ?kq_k20 ?kq_a21 ?kq_l21 ?kq_g21 ?kq_k21 ?kq_a22 ?kq_l22 ?kq_g22 ?kq_k22 ?kq_a23 ?kq_l23 ?kq_g23 ?kq_k23 ?kq_a24 ?kq_l24 ?kq_g24 ?kq_k24 ?kq_a25 ?kq_l25 ?kq_g25 ?kq_k25 ?kq_a26 ?kq_l26 ?kq_g26 ?kq_k26 ?kq_a27 ?kq_l27 ?kq_g27 ?kq_k27 ?kq_a28 ?kq_l28 ?kq_g28 ?kq_k28 ?kq_a29 ?kq_l29 ?kq_g29 ?kq_k29 ?kq_a30 ?kq_l30 ?kq_g30 ?kq_k30 ?kq_a31 ?kq_l31 ?kq_g31 ?kq_k31 ?kq_a32 ?kq_l32 ?kq_g32 ?kq_k32 ?kq_a33 ?kq_l33 ?kq_g33 ?kq_k33 ?kq_a34 ?kq_l34 ?kq_g34 ?kq_k34 ?kq_a35 ?kq_l35 ?kq_g35 ?kq_k35 ?kq_a36 ?kq_l36 ?kq_g36 ?kq_k36 ?kq_a37 ?kq_l37 ?kq_g37 ?kq_k37 ?kq_a38 ?kq_l38 ?kq_g38 ?kq_k38 ?kq_eR ?kq_e0 ?kq_e1 ?kq_e2 ?kq_e3 ?kq_e4 ?kq_e5 ?kq_e6 ?kq_e7 ?kq_e8 ?kq_e9 ?kq_e10 ?kq_e11 ?kq_e12 ?kq_e13 ?kq_e14 ?kq_e15 ?kq_e16 ?kq_zi ?kq_zv ?kq_h1 ?kq_h2 ?kq_h3 ?kq_aW ?kq_lW ?kq_gW ?kq_kW ?kq_y1
    (case kq_z0=>k_is)
    (case kq_z1=>k_is)
    (case kq_z2=>k_is)
    (case kq_z3=>k_is)
    (case kq_z4=>k_is)
    (case kq_z5=>k_is)
    (case kq_z6=>k_is)
    (case kq_z7=>k_is)
    (case kq_z8=>k_is)
    (case kq_z9=>k_is)
    (case kq_z10=>k_is)
    (case kq_z11=>k_is)
    (case kq_z12=>k_is)
    (case kq_gg0=>k_is)
    (case kq_gg1=>k_is)
    (case kq_a0=>k_is)
    (case kq_l0=>k_is)
    (case kq_g0=>k_is)
    (case kq_k0=>k_is)
    (case kq_a1=>k_is)
    (case kq_l1=>k_is)
    (case kq_g1=>k_is)
    (case kq_k1=>k_is)
    (case kq_a2=>k_is)
    (case kq_l2=>k_is)
    (case kq_g2=>k_is)
    (case kq_k2=>k_is)
    (case kq_a3=>k_is)
    (case kq_l3=>k_is)
    (case kq_g3=>k_is)
    (case kq_k3=>k_is)
    (case kq_a4=>k_is)
    (case kq_l4=>k_is)
    (case kq_g4=>k_is)
    (case kq_k4=>k_is)
    (case kq_a5=>k_is)
    (case kq_l5=>k_is)
    (case kq_g5=>k_is)
    (case kq_k5=>k_is)
    (case kq_a6=>k_is)
    (case kq_l6=>k_is)
    (case kq_g6=>k_is)
    (case kq_k6=>k_is)
    (case kq_a7=>k_is)
    (case kq_l7=>k_is)
    (case kq_g7=>k_is)
    (case kq_k7=>k_is)
    (case kq_a8=>k_is)
    (case kq_l8=>k_is)
    (case kq_g8=>k_is)
    (case kq_k8=>k_is)
    (case kq_a9=>k_is)
    (case kq_l9=>k_is)
    (case kq_g9=>k_is)
    (case kq_k9=>k_is)
    (case kq_a10=>k_is)
    (case kq_l10=>k_is)
    (case kq_g10=>k_is)
    (case kq_k10=>k_is)
    (case kq_a11=>k_is)
    (case kq_l11=>k_is)
    (case kq_g11=>k_is)
    (case kq_k11=>k_is)
    (case kq_a12=>k_is)
    (case kq_l12=>k_is)
    (case kq_g12=>k_is)
    (case kq_k12=>k_is)
    (case kq_a13=>k_is)
    (case kq_l13=>k_is)
    (case kq_g13=>k_is)
    (case kq_k13=>k_is)
    (case kq_a14=>k_is)
    (case kq_l14=>k_is)
    (case kq_g14=>k_is)
    (case kq_k14=>k_is)
    (case kq_a15=>k_is)
    (case kq_l15=>k_is)
    (case kq_g15=>k_is)
    (case kq_k15=>k_is)
    (case kq_a16=>k_is)
    (case kq_l16=>k_is)
    (case kq_g16=>k_is)
    (case kq_k16=>k_is)
    (case kq_a17=>k_is)
    (case kq_l17=>k_is)
    (case kq_g17=>k_is)
    (case kq_k17=>k_is)
    (case kq_a18=>k_is)
    (case kq_l18=>k_is)
    (case kq_g18=>k_is)
    (case kq_k18=>k_is)
    (case kq_a19=>k_is)
    (case kq_l19=>k_is)
    (case kq_g19=>k_is)
    (case kq_k19=>k_is)
    (case kq_a20=>k_is)
    (case kq_l20=>k_is)
    (case kq_g20=>k_is)
    (case kq_k20=>k_is)
    (case kq_a21=>k_is)
    (case kq_l21=>k_is)
    (case kq_g21=>k_is)
    (case kq_k21=>k_is)
    (case kq_a22=>k_is)
    (case kq_l22=>k_is)
    (case kq_g22=>k_is)
    (case kq_k22=>k_is)
    (case kq_a23=>k_is)
    (case kq_l23=>k_is)
    (case kq_g23=>k_is)
    (case kq_k23=>k_is)
    (case kq_a24=>k_is)
    (case kq_l24=>k_is)
    (case kq_g24=>k_is)
    (case kq_k24=>k_is)
    (case kq_a25=>k_is)
    (case kq_l25=>k_is)
    (case kq_g25=>k_is)
    (case kq_k25=>k_is)
    (case kq_a26=>k_is)
    (case kq_l26=>k_is)
    (case kq_g26=>k_is)
    (case kq_k26=>k_is)
    (case kq_a27=>k_is)
    (case kq_l27=>k_is)
    (case kq_g27=>k_is)
    (case kq_k27=>k_is)
    (case kq_a28=>k_is)
    (case kq_l28=>k_is)
    (case kq_g28=>k_is)
    (case kq_k28=>k_is)
    (case kq_a29=>k_is)
    (case kq_l29=>k_is)
    (case kq_g29=>k_is)
    (case kq_k29=>k_is)
    (case kq_a30=>k_is)
    (case kq_l30=>k_is)
    (case kq_g30=>k_is)
    (case kq_k30=>k_is)
    (case kq_a31=>k_is)
    (case kq_l31=>k_is)
    (case kq_g31=>k_is)
    (case kq_k31=>k_is)
    (case kq_a32=>k_is)
    (case kq_l32=>k_is)
    (case kq_g32=>k_is)
    (case kq_k32=>k_is)
    (case kq_a33=>k_is)
    (case kq_l33=>k_is)
    (case kq_g33=>k_is)
    (case kq_k33=>k_is)
    (case kq_a34=>k_is)
    (case kq_l34=>k_is)
    (case kq_g34=>k_is)
    (case kq_k34=>k_is)
    (case kq_a35=>k_is)
    (case kq_l35=>k_is)
    (case kq_g35=>k_is)
    (case kq_k35=>k_is)
    (case kq_a36=>k_is)
    (case kq_l36=>k_is)
    (case kq_g36=>k_is)
    (case kq_k36=>k_is)
    (case kq_a37=>k_is)
    (case kq_l37=>k_is)
    (case kq_g37=>k_is)
    (case kq_k37=>k_is)
    (case kq_a38=>k_is)
    (case kq_l38=>k_is)
    (case kq_g38=>k_is)
    (case kq_k38=>k_is)
    (case kq_eR=>k_is)
    (case kq_e0=>k_is)
    (case kq_e1=>k_is)
    (case kq_e2=>k_is)
    (case kq_e3=>k_is)
    (case kq_e4=>k_is)
    (case kq_e5=>k_is)
    (case kq_e6=>k_is)
    (case kq_e7=>k_is)
    (case kq_e8=>k_is)
    (case kq_e9=>k_is)
    (case kq_e10=>k_is)
    (case kq_e11=>k_is)
    (case kq_e12=>k_is)
    (case kq_e13=>k_is)
    (case kq_e14=>k_is)
    (case kq_e15=>k_is)
    (case kq_e16=>k_is)
    (case kq_zi=>k_is)
    (case kq_zv=>k_is)
    (case kq_h1=>kernel_rfl)
    (case kq_h2=>kernel_rfl)
    (case kq_h3=>kernel_rfl)
    (case kq_aW=>k_is)
    (case kq_lW=>k_is)
    (case kq_gW=>k_is)
    (case kq_kW=>k_is)
    (case kq_y1=>kernel_rfl)
  )
