import PyProof.Rows.All
import Wide.All
import OpenK.AllK
import Wide.FinOn
import Lean
import PyProof.EqAt
import PyProof.EqKinds
import PyProof.TupleCall
import PyProof.Walks
import PyProof.ListMulRoad
import PyProof.ReprRoads
import PyProof.ZipIter
import PyProof.Draws
import PyProof.TupleIter
import PyProof.CompUse
import PyProof.ListRange
import KE.KDictLaws
import PyProof.EnumFor
import PyProof.EnumMake
import PyProof.EnumStmt
import PySem.Challenge.RW_rimehold_k52_rows_looked_at
set_option Elab.async false
set_option linter.all false
set_option maxRecDepth 100000
namespace L2
open PySem PySem.Spec PyProof.Rows
noncomputable abbrev Key:=Sum Int Str
noncomputable def keyIs:Key->Value->Bool
  | .inl k,v=>Value.isInt k v
  | .inr x,v=>Value.isStrOf x v
noncomputable def keyH (w:World):Key->Int
  | .inl k=>hashInt k
  | .inr x=>hashStr w x
theorem gD:∀ {k:Key}{v:Value},keyIs k v=true->(∃ i t,k=Sum.inl i /\ v=Value.int i t) \/ (∃ x t,k=Sum.inr x /\ v=Value.str x t)
  | .inl i,v,h=>by
    obtain ⟨t,e⟩:=Value.isInt_shape (k:=i) (v:=v) h
    exact .inl ⟨i,t,rfl,e⟩
  | .inr x,v,h=>by
    obtain ⟨t,e⟩:=Value.isStrOf_shape (x:=x) (v:=v) h
    exact .inr ⟨x,t,rfl,e⟩
theorem Ge (i:Int) (t:Tok):keyIs (.inl i) (.int i t)=true:=by simp [keyIs,Value.isInt]
theorem Gf (x:Str) (t:Tok):keyIs (.inr x) (.str x t)=true:=by simp [keyIs,Value.isStrOf]
theorem M5 (a b:Int):decide ((Sum.inl a:Key)=Sum.inl b)=(a == b):=by
  by_cases e:a=b
  . subst e;simp
  . have h:¬ (Sum.inl a:Key)=Sum.inl b:=fun q=>e (Sum.inl.inj q)
    rw [decide_eq_false h]
    exact (beq_eq_false_iff_ne.mpr e).symm
theorem M6 (a b:Str):decide ((Sum.inr a:Key)=Sum.inr b)=decide (a=b):=by
  by_cases e:a=b
  . subst e;simp
  . have h:¬ (Sum.inr a:Key)=Sum.inr b:=fun q=>e (Sum.inr.inj q)
    rw [decide_eq_false h,decide_eq_false e]
theorem M7 (a:Int) (b:Str):decide ((Sum.inl a:Key)=Sum.inr b)=false:=decide_eq_false (fun q=>nomatch q)
theorem M8 (a:Str) (b:Int):decide ((Sum.inr a:Key)=Sum.inl b)=false:=decide_eq_false (fun q=>nomatch q)
noncomputable def mixKind (prog:Program) (w:World):PySem.KeyKind prog w Key where
  is:=keyIs
  hash:=keyH w
  inj:=fun v a b ha hb=>by
    rcases gD ha with ⟨i,t,rfl,rfl⟩ | ⟨x,t,rfl,rfl⟩
    . rcases gD hb with ⟨j,u,rfl,e⟩ | ⟨y,u,rfl,e⟩
      . injection e with e1 _;rw [e1]
      . exact nomatch e
    . rcases gD hb with ⟨j,u,rfl,e⟩ | ⟨y,u,rfl,e⟩
      . exact nomatch e
      . injection e with e1 _;rw [e1]
  byValue:=fun k v h=>by
    rcases gD h with ⟨i,t,rfl,rfl⟩ | ⟨x,t,rfl,rfl⟩ <;> rfl
  pyHash:=fun hv h=>by
    rcases gD hv with ⟨i,t,rfl,rfl⟩ | ⟨x,t,rfl,rfl⟩
    . exact wpAny_pyHash_int h
    . exact wpAny_pyHash_str h
  eqBool:=fun hu hv h=>by
    rcases gD hu with ⟨i,t,rfl,rfl⟩ | ⟨x,t,rfl,rfl⟩
    . rcases gD hv with ⟨j,u,rfl,rfl⟩ | ⟨y,u,rfl,rfl⟩
      . rw [M5] at h;exact wpAny_eqBool_int h
      . rw [M7] at h;exact SeqAt.EqAt.int_str i t y u _ _ _ _ h
    . rcases gD hv with ⟨j,u,rfl,rfl⟩ | ⟨y,u,rfl,rfl⟩
      . rw [M8] at h;exact SeqAt.EqAt.str_int x t j u _ _ _ _ h
      . rw [M6] at h;exact wpAny_eqBool_str h
  «strs»:=fun k x t v h=>by
    rcases gD h with ⟨i,u,rfl,e⟩ | ⟨y,u,rfl,e⟩
    . exact nomatch e
    . injection e with e1 _
      subst e1
      cases v <;> rfl
theorem Cu (prog:Program) (w:World) (i:Int) (t:Tok):(mixKind prog w).is (.inl i) (.int i t)=true:=Ge i t
theorem Cv (prog:Program) (w:World) (x:Str) (t:Tok):(mixKind prog w).is (.inr x) (.str x t)=true:=Gf x t
end L2
namespace L2
open PySem PySem.Spec PyProof.Rows
inductive V where
  | non | bl (b:Bool) | int (i:Int) | str (x:Str) | byt (b:Array UInt8) | flt (b:UInt64) | ref (a:Addr) | ty (n:String)
  deriving DecidableEq
noncomputable def RelV:V->Value->Prop
  | .non,u=>u=Value.none
  | .bl b,u=>u=Value.bool b
  | .int i,u=>∃ t,u=Value.int i t
  | .str x,u=>∃ t,u=Value.str x t
  | .byt b,u=>∃ t,u=Value.bytes b t
  | .flt b,u=>∃ t,u=Value.float b t
  | .ref a,u=>u=Value.ref a
  | .ty n,u=>u=Value.type n
noncomputable abbrev Vals:List V->List Value->Prop:=Paired RelV
theorem Vals.length {xs:List V}{us:List Value} (r:Vals xs us):xs.length=us.length:=Paired.length r
theorem Vals.get:∀ {xs:List V}{us:List Value}{i:Nat}{x:V},Vals xs us->xs[i]?=some x->∃ u,us[i]?=some u /\ RelV x u
  | _,_,_,_,.nil,e=>by simp at e
  | _,_,0,_,.cons r _,e=>by simp at e;subst e;exact ⟨_,rfl,r⟩
  | _,_,i + 1,x,.cons _ t,e=>by
    obtain ⟨u,h1,h2⟩:=Vals.get (i:=i) (x:=x) t (by simpa using e)
    exact ⟨u,by simpa using h1,h2⟩
theorem Vals.set {x:V}{u:Value} (r:RelV x u):∀ {xs:List V}{us:List Value} (i:Nat),Vals xs us->Vals (xs.set i x) (us.set i u)
  | _,_,_,.nil=>.nil
  | _,_,0,.cons _ t=>.cons r t
  | _,_,i + 1,.cons q t=>.cons q (Vals.set r i t)
theorem Vals.append:∀ {xs ys:List V}{us ws:List Value},Vals xs us->Vals ys ws->Vals (xs ++ ys) (us ++ ws)
  | _,_,_,_,.nil,s=>s
  | _,_,_,_,.cons r t,s=>.cons r (Vals.append t s)
theorem Vals.take:∀ {xs:List V}{us:List Value} (n:Nat),Vals xs us->Vals (xs.take n) (us.take n)
  | _,_,0,_=>.nil
  | _,_,_ + 1,.nil=>.nil
  | _,_,n + 1,.cons r t=>.cons r (Vals.take n t)
theorem Vals.drop:∀ {xs:List V}{us:List Value} (n:Nat),Vals xs us->Vals (xs.drop n) (us.drop n)
  | _,_,0,r=>r
  | _,_,_ + 1,.nil=>.nil
  | _,_,n + 1,.cons _ t=>Vals.drop n t
noncomputable def RelO:Option V->Option Value->Prop
  | some v,some u=>RelV v u
  | none,none=>True
  | _,_=>False
noncomputable def KV {κ:Type}:List (κ × V)->List (κ × Value)->Prop:=Paired fun (p:κ × V) (q:κ × Value)=>p.1=q.1 /\ RelV p.2 q.2
noncomputable def kV:Key->V
  | .inl i=>.int i
  | .inr x=>.str x
inductive HO where
  /-- a list -/
  | lst (xs:List V)
  /-- a tuple (never changes) -/
  | tup (xs:List V)
  /-- a dict whose keys are ints and texts;one whose keys are tuples of ints and texts (the empty one is both) -/
  | dK (kvs:List (Key × V)) | dT (kvs:List (List Key × V))
  /-- a set of ints: its members,its size -/
  | set (S:Int->Bool) (n:Nat)
  /-- an instance of the class at C,its dict at dx,its attributes -/
  | ins (C dx:Addr) (fs:List (Str × V))
  /-- the dict of the instance at x -/
  | own (x:Addr)
  /-- the dict of an exception -/
  | xd (fs:List (Str × V))
  /-- a bound method,f of x -/
  | met (f x:Addr)
  /-- a range object lo,lo + 1,.. below hi -/
  | rng (lo hi:Int)
  /-- a thing that is known to the object (the script;a dict while a loop walks it): read,never written while it is so -/
  | frz (o:Obj) (u:HO)
  /-- a code object's table -/
  | tbl (ps:Array Value)
  /-- any other thing,by what is true of its one object (a def of one's own: SetO a S n:=HO.ext fun h=>..) -/
  | ext (φ:Heap->Prop)
noncomputable abbrev Hp:=Addr->Option HO
noncomputable def upd (H:Hp) (a:Addr) (o:HO):Hp:=fun b=>if b=a then some o else H b
theorem fY {H:Hp}{a:Addr}{o:HO}:upd H a o a=some o:=by unfold upd;rw [if_pos rfl]
theorem fX {H:Hp}{a b:Addr}{o:HO} (h:b ≠ a):upd H a o b=H b:=by unfold upd;rw [if_neg h]
theorem Ft {H:Hp}{a:Addr}{o u:HO}:upd (upd H a o) a u=upd H a u:=by
  funext b;unfold upd;split <;> rfl
theorem Oo {H:Hp}{a b:Addr}{o u:HO} (h:H a=some o) (h':H b=some u) (d:o ≠ u):a ≠ b:=by
  intro e;subst e;rw [h] at h';exact d (Option.some.inj h')
theorem gL {H:Hp}{a b:Addr}{o:HO} (h:H a=some o) (h':H b=none):a ≠ b:=by
  intro e;subst e;rw [h] at h';cases h'
section
variable (P : Program) (w : World)
noncomputable def ObjOk (H:Hp) (h:Heap) (a:Addr):HO->Prop
  | .lst xs=>xs.length <= sizeLine /\ ∃ (its:List Value) (n:Nat),Vals xs its /\ h.get? a=some { cls:=.type "list",data:=.seq its.toArray n }
  | .tup xs=>xs.length <= sizeLine /\ ∃ its:List Value,Vals xs its /\ IsTup h a its.toArray
  | .dK kvs=>kvs.length <= sizeLine /\ (a == sysModules)=false /\ ∃ vs,KV kvs vs /\ h.DictOf (mixKind P w) a vs
  | .dT kvs=>kvs.length <= sizeLine /\ (a == sysModules)=false /\ ∃ xs:List (List Key × Addr × Value),
      Paired (fun (p:List Key × V) (q:List Key × Addr × Value)=>p.1=q.1 /\ H q.2.1=some (.tup (p.1.map kV)) /\ RelV p.2 q.2.2) kvs xs /\
      ∃ o es ep,h.get? a=some o /\ o.ExactDict /\ o.data=.dict es ep /\ es.toList=xs.map (entryOfKey (tupleKind (mixKind P w))) /\ (xs.map (·.1)).Nodup
  | .set S n=>h.SetOf (intKind P w) a S n
  | .ins C dx fs=>H dx=some (.own a) /\ fs.length <= 1000 /\ dx ≠ a /\ h.get? a=some (PySem.W.instObj C dx) /\
      ∃ mA,h.Ns1 dx mA /\ (∀ f,RelO (fs.lookup f) (mA f)) /\ PySem.Within mA (fs.map (·.1))
  | .own _=>∃ o,h.get? a=some o
  | .xd fs=>∃ mA,h.Ns1 a mA /\ ∀ f,RelO (fs.lookup f) (mA f)
  | .rng lo hi=>∃ t u v,h.get? a=some { cls:=.type "range",data:=.fields #[.int lo t,.int hi u,.int 1 v] }
  | .frz o u=>h.get? a=some o /\ ObjOk H h a u
  | .tbl ps=>h.get? a=some { cls:=.none,data:=.fields ps }
  | .met f x=>h.get? a=some (PySem.W.methodObj (.ref f) (.ref x))
  | .ext φ=>φ h /\ (∃ o,h.get? a=some o) /\ ∀ h1 h2:Heap,φ h1->(∀ o,h1.get? a=some o->h2.get? a=some o)->φ h2
noncomputable def HOk (H:Hp) (h:Heap):Prop:=∀ a o,H a=some o->ObjOk P w H h a o
end
section
variable {P : Program} {w : World} {H H' : Hp} {h h' : Heap} {a : Addr} {o : HO}
theorem ObjOk.lt (x:ObjOk P w H h a o):a < h.objs.size:=by
  cases o with
  | lst xs=>obtain ⟨_,_,_,_,e⟩:=x;exact Heap.lt_size e
  | tup xs=>obtain ⟨_,_,_,p⟩:=x;exact p.lt
  | dK kvs=>obtain ⟨_,_,_,_,o,_,_,e,_⟩:=x;exact Heap.lt_size e
  | dT kvs=>obtain ⟨_,_,_,_,o,_,_,e,_⟩:=x;exact Heap.lt_size e
  | set S n=>obtain ⟨o,_,_,_,e,_⟩:=x;exact Heap.lt_size e
  | ins C dx fs=>obtain ⟨_,_,_,e,_⟩:=x;exact Heap.lt_size e
  | own y=>obtain ⟨_,e⟩:=x;exact Heap.lt_size e
  | xd fs=>obtain ⟨_,⟨_,_,_,e,_⟩,_⟩:=x;exact Heap.lt_size e
  | rng lo hi=>obtain ⟨_,_,_,e⟩:=x;exact Heap.lt_size e
  | frz ob u=>obtain ⟨e,_⟩:=x;exact Heap.lt_size e
  | tbl ps=>exact Heap.lt_size (show h.get? a=some _ from x)
  | met f y=>exact Heap.lt_size (show h.get? a=some _ from x)
  | ext φ=>obtain ⟨_,⟨_,e⟩,_⟩:=x;exact Heap.lt_size e
theorem Paired.mapP {α β:Type}{F G:α->β->Prop}:∀ {l₁:List α}{l₂:List β},Paired F l₁ l₂->(∀ a b,F a b->G a b)->Paired G l₁ l₂
  | _,_,.nil,_=>.nil
  | _,_,.cons r t,f=>.cons (f _ _ r) (Paired.mapP t f)
theorem ObjOk.stay (x:ObjOk P w H h a o) (k:∀ b u,(b=a \/ H b=some (.own a))->h.get? b=some u->h'.get? b=some u)
    (ho:∀ b,H b=some (.own a)->H' b=some (.own a)) (ht:∀ b xs,H b=some (.tup xs)->H' b=some (.tup xs)):ObjOk P w H' h' a o:=by
  induction o with
  | lst xs=>obtain ⟨z,its,n,r,e⟩:=x;exact ⟨z,its,n,r,k _ _ (.inl rfl) e⟩
  | tup xs=>obtain ⟨z,its,r,ob,e,c⟩:=x;exact ⟨z,its,r,ob,k _ _ (.inl rfl) e,c⟩
  | dK kvs=>obtain ⟨z,y,vs,r,ob,es,ep,e,c⟩:=x;exact ⟨z,y,vs,r,ob,es,ep,k _ _ (.inl rfl) e,c⟩
  | dT kvs =>
    obtain ⟨z,y,xs,r,ob,es,ep,e,c⟩:=x
    exact ⟨z,y,xs,Paired.mapP r fun p q z=>⟨z.1,ht _ _ z.2.1,z.2.2⟩,ob,es,ep,k _ _ (.inl rfl) e,c⟩
  | set S n=>obtain ⟨ob,es,ep,t,e,c⟩:=x;exact ⟨ob,es,ep,t,k _ _ (.inl rfl) e,c⟩
  | ins C dx fs =>
    obtain ⟨d,z,ne,e,mA,⟨od,es,ep,e2,c⟩,r⟩:=x
    exact ⟨ho _ d,z,ne,k _ _ (.inl rfl) e,mA,⟨od,es,ep,k _ _ (.inr d) e2,c⟩,r⟩
  | own y=>obtain ⟨ob,e⟩:=x;exact ⟨ob,k _ _ (.inl rfl) e⟩
  | xd fs=>obtain ⟨mA,⟨od,es,ep,e,c⟩,r⟩:=x;exact ⟨mA,⟨od,es,ep,k _ _ (.inl rfl) e,c⟩,r⟩
  | rng lo hi=>obtain ⟨t,u,v,e⟩:=x;exact ⟨t,u,v,k _ _ (.inl rfl) e⟩
  | frz ob u ih=>obtain ⟨e,q⟩:=x;exact ⟨k _ _ (.inl rfl) e,ih q⟩
  | tbl ps =>
    have e:h.get? a=some { cls:=.none,data:=.fields ps }:=x
    show h'.get? a=some { cls:=.none,data:=.fields ps }
    exact k a _ (.inl rfl) e
  | met f y =>
    have e:h.get? a=some (PySem.W.methodObj (.ref f) (.ref y)):=x
    show h'.get? a=some (PySem.W.methodObj (.ref f) (.ref y))
    exact k a _ (.inl rfl) e
  | ext φ=>obtain ⟨p,⟨o,e⟩,st⟩:=x;exact ⟨st _ _ p fun o q=>k _ _ (.inl rfl) q,⟨o,k _ _ (.inl rfl) e⟩,st⟩
theorem HOk.lt (x:HOk P w H h) (e:H a=some o):a < h.objs.size:=(x a o e).lt
theorem HOk.fresh (x:HOk P w H h) (e:h.objs.size <= a):H a=none:=by
  cases q:H a with
  | none=>rfl
  | some u=>exact absurd (Nat.lt_of_lt_of_le (x.lt q) e) (Nat.lt_irrefl _)
theorem HOk.kept (x:HOk P w H h) (k:∀ b u,h.get? b=some u->h'.get? b=some u):HOk P w H h':=fun a o e =>
  (x a o e).stay (fun b u _ q=>k b u q) (fun _ q=>q) fun _ _ q=>q
theorem HOk.laid (x:HOk P w H h) (k:∀ b u,h.get? b=some u->h'.get? b=some u) (hp:h.objs.size <= a) (new:ObjOk P w (upd H a o) h' a o):HOk P w (upd H a o) h':=fun b u e=>by
  have hn:=x.fresh hp
  by_cases hb:b=a
  . subst hb;rw [fY] at e;cases e;exact new
  . rw [fX hb] at e
    exact (x b u e).stay (fun c v _ q=>k c v q) (fun c q=>by rw [fX (gL q hn)];exact q) fun c xs q=>by rw [fX (gL q hn)];exact q
end
noncomputable def Rd (H:Hp) (a:Addr) (u:HO):Prop:=H a=some u \/ ∃ o,H a=some (.frz o u)
theorem Rd.ok {P:Program}{w:World}{H:Hp}{h:Heap}{a:Addr}{u:HO} (r:Rd H a u) (x:HOk P w H h):ObjOk P w H h a u:=by
  rcases r with r | ⟨o,r⟩
  . exact x a u r
  . obtain ⟨_,q⟩:=x a _ r
    exact q
noncomputable def Mut:Option HO->Prop
  | some (.lst _)=>True
  | some (.dK _)=>True
  | some (.dT _)=>True
  | some (.set _ _)=>True
  | some (.ins _ _ _)=>True
  | some (.ext _)=>True
  | _=>False
section
variable {P : Program} {w : World} {H : Hp} {h h' : Heap} {x e : Addr} {o' : HO}
theorem HOk.write (ok:HOk P w H h) (mu:Mut (H x)) (he:e=x \/ H e=some (.own x)) (k:∀ b u,b ≠ e->h.get? b=some u->h'.get? b=some u) (heo:∃ u,h'.get? e=some u)
    (new:ObjOk P w (upd H x o') h' x o'):HOk P w (upd H x o') h':=fun b u q=>by
  have nown:∀ c y,H c=some (.own y)->c ≠ x:=fun c y r z=>by subst z;rw [r] at mu;exact mu
  have ntup:∀ c xs,H c=some (.tup xs)->c ≠ x:=fun c xs r z=>by subst z;rw [r] at mu;exact mu
  by_cases hb:b=x
  . subst hb;rw [fY] at q;cases q;exact new
  . rw [fX hb] at q
    by_cases hbe:b=e
    . have q':H b=some (.own x):=by
        rcases he with z | z
        . exact absurd (hbe.trans z) hb
        . rw [hbe];exact z
      rw [q] at q';cases q'
      obtain ⟨v,hv⟩:=heo
      exact ⟨v,by rw [hbe];exact hv⟩
    . refine (ok b u q).stay (fun c v hc r=>k c v ?_ r) (fun c r=>by rw [fX (nown c b r)];exact r) fun c xs r=>by rw [fX (ntup c xs r)];exact r
      rcases hc with rfl | hc
      . exact hbe
      . rintro rfl
        rcases he with z | z
        . exact nown c b hc z
        . rw [hc] at z;cases z;exact hb rfl
end
structure Un (fs ex:List Addr) (H H':Hp) (h h':Heap):Prop where
  keep:∀ b o,h.get? b=some o->H b=none->b ∉ fs->b ∉ ex->h'.get? b=some o
  slot:∀ b o,h.get? b=some o->H b=none->b ∈ fs->b ∉ ex->∃ sl,h'.get? b=some { o with slots:=sl }
  free:∀ b o,h.get? b=some o->H b=none->b ∉ ex->H' b=none
  there:∀ b o,h.get? b=some o->b ∉ ex->∃ o',h'.get? b=some o'
  tups:∀ b xs,H b=some (.tup xs)->H' b=some (.tup xs)
  frzs:∀ b o u,H b=some (.frz o u)->H' b=some (.frz o u)
  tbls:∀ b ps,H b=some (.tbl ps)->∃ more,H' b=some (.tbl (ps ++ more))
section
variable {fs fs' ex ex' : List Addr} {H H1 H2 : Hp} {h h1 h2 h' : Heap} {a x e : Addr} {o : HO}
theorem Un.any (u:Un fs ex H H1 h h1) {b:Addr}{ob:Obj} (q:h.get? b=some ob) (n:H b=none) (hx:b ∉ ex):∃ sl,h1.get? b=some { ob with slots:=sl }:=by
  by_cases hb:b ∈ fs
  . exact u.slot b ob q n hb hx
  . exact ⟨ob.slots,u.keep b ob q n hb hx⟩
theorem Un.kept (k:∀ b u,h.get? b=some u->h'.get? b=some u):Un fs ex H H h h' :=
  ⟨fun b ob q _ _ _=>k b ob q,fun b ob q _ _ _=>⟨ob.slots,k b ob q⟩,fun _ _ _ n _=>n,fun b ob q _=>⟨ob,k b ob q⟩,fun _ _ q=>q,fun _ _ _ q=>q,fun _ ps q=>⟨#[],by rw [q];simp⟩⟩
theorem Un.refl:Un fs ex H H h h:=Un.kept fun _ _ q=>q
theorem Un.laid (k:∀ b u,h.get? b=some u->h'.get? b=some u) (hp:h.objs.size <= a) (hn:H a=none):Un fs ex H (upd H a o) h h' where
  keep:=fun b u q _ _ _=>k b u q
  slot:=fun b u q _ _ _=>⟨u.slots,k b u q⟩
  free:=fun b u q n _=>by rw [fX (Nat.ne_of_lt (Nat.lt_of_lt_of_le (Heap.lt_size q) hp))];exact n
  there:=fun b u q _=>⟨u,k b u q⟩
  tups:=fun b xs q=>by rw [fX (gL q hn)];exact q
  frzs:=fun b u xs q=>by rw [fX (gL q hn)];exact q
  tbls:=fun b ps q=>⟨#[],by rw [fX (gL q hn),q];simp⟩
theorem Un.write (mu:Mut (H x)) (he:e=x \/ H e=some (.own x)) (k:∀ b u,b ≠ e->h.get? b=some u->h'.get? b=some u) (heo:∃ u,h'.get? e=some u):Un fs ex H (upd H x o) h h':=by
  have hx:∀ b,H b=none->b ≠ x:=fun b n z=>by subst z;rw [n] at mu;exact mu
  have hb:∀ b,H b=none->b ≠ e:=fun b n z=>by
    subst z
    rcases he with r | r
    . exact hx b n r
    . rw [n] at r;cases r
  have hm:∀ b u,H b=some u->¬ Mut (some u)->b ≠ x:=fun b u q nm z=>by subst z;rw [q] at mu;exact nm mu
  refine ⟨fun b u q n _ _=>k b u (hb b n) q,fun b u q n _ _=>⟨u.slots,k b u (hb b n) q⟩,fun b u q n _=>by rw [fX (hx b n)];exact n,fun b u q _=>?_,
    fun b xs q=>by rw [fX (hm b _ q fun z=>z)];exact q,fun b u xs q=>by rw [fX (hm b _ q fun z=>z)];exact q,fun b ps q=>⟨#[],by rw [fX (hm b _ q fun z=>z),q];simp⟩⟩
  by_cases hbe:b=e
  . subst hbe;exact heo
  . exact ⟨u,k b u hbe q⟩
end
noncomputable def trk (h:Heap) (H:Hp):List Addr:=(List.range h.objs.size).filter fun a=>(H a).isSome
noncomputable def hidT (h:Heap) (H:Hp):Heap:=PySem.W.hideAll h (trk h H)
theorem Gg (h:Heap) (H:Hp):(hidT h H).objs.size=h.objs.size:=PySem.W.hideAll_size _ _
theorem G4 {h:Heap}{H:Hp}{b:Addr}{o:Obj} (e:h.get? b=some o) (n:H b=none):(hidT h H).get? b=some o :=
  PySem.W.hideAll_get _ e fun hm=>by
    have q:(H b).isSome=true:=(List.mem_filter.mp hm).2
    rw [n] at q;simp at q
theorem LJ {h:Heap}{H:Hp}{b:Addr}{o:Obj} (e:(hidT h H).get? b=some o):h.get? b=some o /\ H b=none:=by
  have e':h.get? b=some o:=PySem.W.of_hideAll (trk h H) e
  refine ⟨e',?_⟩
  cases q:H b with
  | none=>rfl
  | some x =>
    have hm:b ∈ trk h H:=List.mem_filter.mpr ⟨List.mem_range.mpr (Heap.lt_size e'),by simp [q]⟩
    have z:(hidT h H).get? b=none:=PySem.W.hideAll_none (trk h H) hm
    rw [z] at e;cases e
noncomputable def allNews (g h:Heap) (L:Addr):List (Addr × Obj):=(List.range h.objs.size).filterMap fun a=>if a=L \/ (g.get? a).isSome=true then none else (h.get? a).map fun o=>(a,o)
noncomputable def rest (g h:Heap) (L d:Addr):List (Addr × Obj):=(allNews g h L).filter fun p=>decide (p.1 ≠ d)
end L2
namespace L2
open PySem PySem.Spec PyProof.Rows
structure Mod (K:PySem.W.Frag) (mg:Str->Option Value) (base:Heap):Prop where
  kin:K.In base
  glob:base.Ns mainGlobals mg
  blt:∃ mb,base.Ns builtinsNs mb /\ ∀ x:Str,x ≠ "__name__"->mb x=bootBuiltins x
  nolimit:base.NoLimit
structure Cx where
  prog:Program
  w:World
  K:PySem.W.Frag
  mg:Str->Option Value
  base:Heap
  A:Around
  N:List Str
  s₀:Shared
  H₀:Hp
  env:Env
  outer:List Env
  stack:List Env
  ex:List Addr
  fn:Str->Bool
  calm:Bool
  pn:List (Addr × Obj)
  xe:Value->Shared->Prop
noncomputable def frs (l:List Env):List Addr:=l.filterMap (·.frame)
noncomputable abbrev Cx.fs (X:Cx):List Addr:=frs X.outer
noncomputable def Vis (sc:Scope) (x:Str):Prop:=sc.names.lookup x=some .local \/ sc.names.lookup x=some .cell \/ sc.names.lookup x=some .free
noncomputable def Loc (sc:Scope) (x:Str):Prop:=sc.names.lookup x=some .local \/ sc.names.lookup x=some .cell
noncomputable def Look (env:Env) (h:Heap) (m:Str->Option Value) (x:Str) (u:Value):Prop :=
  (env.kindOf x=some .local /\ m x=some u) \/ ((env.kindOf x=some .cell \/ env.kindOf x=some .free) /\ ∃ c,env.cells.lookup x=some c /\ h.IsCell c (some u))
structure Cx.Ok (X:Cx):Prop where
  mod:Mod X.K X.mg X.base
  kind:X.env.scope.kind=.function
  glob:X.env.globals=mainGlobals
  blt:X.env.builtins=builtinsNs
  above:X.s₀.heap.objs.size <= X.env.locals
  inj:∀ x y c,X.env.cells.lookup x=some c->X.env.cells.lookup y=some c->x=y
  has:∀ x,(X.env.kindOf x=some .cell \/ X.env.kindOf x=some .free)->∃ c,X.env.cells.lookup x=some c
  cab:∀ x c,X.fn x=true->X.env.cells.lookup x=some c->X.s₀.heap.objs.size <= c
  hd:X.calm=true->X.A.handled=none
  frames:X.A.frames=some X.stack
  stk:X.stack=X.outer \/ (X.stack=X.env :: X.outer /\ X.env.frame=some X.env.locals)
  exf:∀ b ∈ X.ex,b ≠ X.env.locals /\ ∀ x c,X.env.cells.lookup x=some c->c ≠ b
  bs:∀ b o,X.base.get? b=some o->X.s₀.heap.get? b=some o /\ X.H₀ b=none
  bsz:X.base.objs.size <= X.s₀.heap.objs.size
  noex:∀ b o,X.base.get? b=some o->b ∉ X.ex
  exfs:∀ b ∈ X.ex,b ∉ X.fs
  funs:X.s₀.heap.FunFrames X.base X.outer
  frf:∀ b ∈ X.fs,X.H₀ b=none
structure Inv (X:Cx) (pins:List (Addr × Obj)) (σ:List (Option V)) (H:Hp) (s:Shared):Prop where
  ok:X.Ok
  os:s.os=X.s₀.os
  bare:AllBare s.gens
  base:Un X.fs X.ex X.H₀ H X.s₀.heap s.heap
  loc:∃ m,s.heap.Ns X.env.locals m /\ ∀ (i:Nat) (x:Str) (v:V),X.N[i]?=some x->σ[i]?=some (some v)->Vis X.env.scope x->∃ u,RelV v u /\ Look X.env s.heap m x u
  cell:∀ x c,X.env.cells.lookup x=some c->∃ v,s.heap.IsCell c v
  free:H X.env.locals=none
  freeC:∀ x c,X.env.cells.lookup x=some c->H c=none
  pin:∀ p ∈ X.pn ++ pins,s.heap.get? p.1=some p.2 /\ H p.1=none /\ p.1 ≠ X.env.locals /\ p.1 ∉ X.fs /\ ∀ v,p.2.data ≠ .cell v
  hok:HOk X.prog X.w H s.heap
  len:σ.length=X.N.length
section
variable {X : Cx} {pins : List (Addr × Obj)} {σ : List (Option V)} {H H' : Hp} {s : Shared} {h' : Heap}
theorem Cx.Ok.nofr (ok:X.Ok) {b:Addr}{o:Obj} (e:X.base.get? b=some o):b ∉ X.fs:=fun hb=>by
  have:=(ok.funs.mem hb).1
  rw [e] at this;cases this
theorem Inv.bs (I:Inv X pins σ H s):∀ b o,X.base.get? b=some o->s.heap.get? b=some o /\ H b=none:=fun b o e =>
  ⟨I.base.keep b o (I.ok.bs b o e).1 (I.ok.bs b o e).2 (I.ok.nofr e) (I.ok.noex b o e),I.base.free b o (I.ok.bs b o e).1 (I.ok.bs b o e).2 (I.ok.noex b o e)⟩
theorem Inv.bk (I:Inv X pins σ H s):∀ b o,X.base.get? b=some o->s.heap.get? b=some o:=fun b o e=>(I.bs b o e).1
theorem Inv.mod (I:Inv X pins σ H s):Mod X.K X.mg X.base:=I.ok.mod
theorem Inv.kIn (I:Inv X pins σ H s):X.K.In s.heap:=I.ok.mod.kin.keeps I.bk
theorem Inv.lt (I:Inv X pins σ H s):X.env.locals < s.heap.objs.size:=let ⟨_,hn,_⟩:=I.loc;hn.lt
theorem Inv.sz (I:Inv X pins σ H s):X.s₀.heap.objs.size <= s.heap.objs.size:=Nat.le_trans I.ok.above (Nat.le_of_lt I.lt)
theorem Inv.nofs (I:Inv X pins σ H s) {a:Addr} (h:s.heap.objs.size <= a):a ∉ X.fs:=fun hb=>by
  obtain ⟨_,o,ho,_⟩:=I.ok.funs.mem hb
  exact absurd (Nat.lt_of_lt_of_le (Heap.lt_size ho) (Nat.le_trans I.sz h)) (Nat.lt_irrefl _)
theorem Inv.cne (I:Inv X pins σ H s):∀ x c,X.env.cells.lookup x=some c->c ≠ X.env.locals:=fun x c e z=>by
  obtain ⟨v,o,ho,hd⟩:=I.cell x c e
  obtain ⟨m,⟨o',es,ep,ho',hd',_⟩,_⟩:=I.loc
  rw [z,ho'] at ho;cases ho;rw [hd'] at hd;cases hd
theorem Inv.funs (I:Inv X pins σ H s):s.heap.FunFrames X.base X.outer:=by
  have all:∀ (l:List Env),(∀ b ∈ frs l,b ∈ X.fs)->X.s₀.heap.FunFrames X.base l->s.heap.FunFrames X.base l:=by
    intro l
    induction l with
    | nil=>intro _ _;trivial
    | cons env r ih =>
      intro hs hl
      obtain ⟨hk,⟨L,o,hf,hn,ho,hd⟩,hr⟩:=hl
      have hL:L ∈ X.fs:=hs L (by unfold frs;rw [List.filterMap_cons,hf];exact List.mem_cons_self)
      obtain ⟨sl,e⟩:=I.base.slot L o ho (I.ok.frf L hL) hL fun z=>I.ok.exfs L z hL
      exact ⟨hk,⟨L,_,hf,hn,e,hd⟩,ih (fun b hb=>hs b (by unfold frs;rw [List.filterMap_cons,hf];exact List.mem_cons_of_mem _ hb)) hr⟩
  exact all X.outer (fun _ hb=>hb) I.ok.funs
theorem Inv.stack (I:Inv X pins σ H s):s.heap.FunFrames X.base X.stack:=by
  rcases I.ok.stk with e | ⟨e,hf⟩
  . rw [e];exact I.funs
  . rw [e]
    obtain ⟨m,hn,_⟩:=I.loc
    refine .cons (by rw [I.ok.kind];decide) hf hn ?_ I.funs
    exact Heap.get?_none_of_le (Nat.le_trans I.ok.bsz I.ok.above)
theorem Inv.stkSub (I:Inv X pins σ H s):∀ b ∈ frs X.stack,b ∈ X.env.locals :: X.fs:=fun b hb=>by
  rcases I.ok.stk with e | ⟨e,hf⟩
  . rw [e] at hb;exact List.mem_cons_of_mem _ hb
  . rw [e] at hb
    unfold frs at hb
    rw [List.filterMap_cons,hf] at hb
    exact hb
theorem Inv.stkFree (I:Inv X pins σ H s):∀ b ∈ frs X.stack,H b=none:=fun b hb=>by
  rcases List.mem_cons.mp (I.stkSub b hb) with e | hb
  . rw [e];exact I.free
  . obtain ⟨_,o,ho,_⟩:=I.ok.funs.mem hb
    exact I.base.free b o ho (I.ok.frf b hb) fun z=>I.ok.exfs b z hb
theorem Inv.step {g':Array GenState}{t':Nat}{d':Drawn}{ch:List Addr} (I:Inv X pins σ H s)
    (hch:∀ b ∈ ch,(b ∈ X.ex \/ X.s₀.heap.objs.size <= b) /\ b ≠ X.env.locals /\ (∀ x c,X.env.cells.lookup x=some c->c ≠ b) /\ ∀ p ∈ X.pn ++ pins,p.1 ≠ b)
    (keep:∀ b o,b ≠ X.env.locals->b ∉ X.fs->b ∉ ch->s.heap.get? b=some o->H b=none->h'.get? b=some o)
    (slot:∀ b o,b ≠ X.env.locals->b ∈ X.fs->b ∉ ch->s.heap.get? b=some o->H b=none->∃ sl,h'.get? b=some { o with slots:=sl }) (free:∀ b o,b ∉ ch->s.heap.get? b=some o->H b=none->H' b=none)
    (there:∀ b o,b ∉ ch->s.heap.get? b=some o->∃ o',h'.get? b=some o')
    (tups:∀ b xs,H b=some (.tup xs)->H' b=some (.tup xs)) (frzs:∀ b o u,H b=some (.frz o u)->H' b=some (.frz o u)) (tbls:∀ b ps,H b=some (.tbl ps)->∃ more,H' b=some (.tbl (ps ++ more)))
    (ns:∀ m,s.heap.Ns X.env.locals m->h'.Ns X.env.locals m) (hok:HOk X.prog X.w H' h') (hg:AllBare g') :
    Inv X pins σ H' { s with heap:=h',gens:=g',drawn:=d',toks:=t' }:=by
  have neL:∀ b o,X.s₀.heap.get? b=some o->b ≠ X.env.locals:=fun b o e=>Nat.ne_of_lt (Nat.lt_of_lt_of_le (Heap.lt_size e) I.ok.above)
  have neC:∀ b o,X.s₀.heap.get? b=some o->b ∉ X.ex->b ∉ ch:=fun b o e hx hb=>by
    rcases (hch b hb).1 with z | z
    . exact hx z
    . exact absurd (Nat.lt_of_lt_of_le (Heap.lt_size e) z) (Nat.lt_irrefl _)
  have cellK:∀ x c,X.env.cells.lookup x=some c->∀ v,s.heap.IsCell c v->h'.IsCell c v:=fun x c e v ⟨o,ho,hd⟩=>by
    have nch:c ∉ ch:=fun z=>(hch c z).2.2.1 x c e rfl
    by_cases hc:c ∈ X.fs
    . obtain ⟨sl,q⟩:=slot c o (I.cne x c e) hc nch ho (I.freeC x c e)
      exact ⟨_,q,hd⟩
    . exact ⟨o,keep c o (I.cne x c e) hc nch ho (I.freeC x c e),hd⟩
  refine ⟨I.ok,I.os,hg,⟨fun b o e n hb hx=>?_,fun b o e n hb hx=>?_,fun b o e n hx=>?_,fun b o e hx=>?_,fun b xs e=>tups b xs (I.base.tups b xs e),fun b o xs e=>frzs b o xs (I.base.frzs b o xs e),fun b ps e=>?_⟩,?_,fun x c e=>?_,?_,fun x c e=>?_,fun p hp=>?_,hok,I.len⟩
  . exact keep b o (neL b o e) hb (neC b o e hx) (I.base.keep b o e n hb hx) (I.base.free b o e n hx)
  . obtain ⟨sl,e1⟩:=I.base.slot b o e n hb hx
    obtain ⟨sl',e2⟩:=slot b _ (neL b o e) hb (neC b o e hx) e1 (I.base.free b o e n hx)
    exact ⟨sl',e2⟩
  . obtain ⟨o',e1⟩:=I.base.there b o e hx
    exact free b o' (neC b o e hx) e1 (I.base.free b o e n hx)
  . obtain ⟨o',e1⟩:=I.base.there b o e hx
    exact there b o' (neC b o e hx) e1
  . obtain ⟨m1,e1⟩:=I.base.tbls b ps e
    obtain ⟨m2,e2⟩:=tbls b _ e1
    exact ⟨m1 ++ m2,by rw [e2,Array.append_assoc]⟩
  . obtain ⟨m,hn,hl⟩:=I.loc
    refine ⟨m,ns m hn,fun i x v e1 e2 e3=>?_⟩
    obtain ⟨u,r,l⟩:=hl i x v e1 e2 e3
    refine ⟨u,r,?_⟩
    rcases l with l | ⟨k,c,e,z⟩
    . exact .inl l
    . exact .inr ⟨k,c,e,cellK x c e _ z⟩
  . obtain ⟨v,z⟩:=I.cell x c e
    exact ⟨v,cellK x c e v z⟩
  . obtain ⟨m,⟨o,_,_,ho,_⟩,_⟩:=I.loc
    exact free _ o (fun z=>(hch _ z).2.1 rfl) ho I.free
  . obtain ⟨v,o,ho,hd⟩:=I.cell x c e
    exact free c o (fun z=>(hch c z).2.2.1 x c e rfl) ho (I.freeC x c e)
  . obtain ⟨e,n,ne,nf,d⟩:=I.pin p hp
    have nch:p.1 ∉ ch:=fun z=>(hch p.1 z).2.2.2 p hp rfl
    exact ⟨keep p.1 p.2 ne nf nch e n,free p.1 p.2 nch e n,ne,nf,d⟩
theorem Inv.un {t':Nat} (I:Inv X pins σ H s) (u:Un X.fs [] H H' s.heap h') (hok:HOk X.prog X.w H' h'):Inv X pins σ H' { s with heap:=h',toks:=t' }:=by
  obtain ⟨m,⟨o,es,ep,ho,r⟩,_⟩:=id I.loc
  obtain ⟨sl,hL⟩:=u.any ho I.free (by simp)
  exact I.step (g':=s.gens) (d':=s.drawn) (ch:=[]) (fun _ z=>nomatch z) (fun b o _ hb _ e n=>u.keep b o e n hb (by simp)) (fun b o _ hb _ e n=>u.slot b o e n hb (by simp)) (fun b o _ e n=>u.free b o e n (by simp)) (fun b o _ e=>u.there b o e (by simp)) u.tups u.frzs u.tbls (fun m' hm=>by
    obtain ⟨o',es',ep',ho',r'⟩:=hm
    rw [ho] at ho';cases ho'
    exact ⟨_,es',ep',hL,r'⟩) hok I.bare
theorem Inv.call {g':Array GenState}{t':Nat}{d':Drawn}{ch:List Addr} (I:Inv X pins σ H s) (u:Un (frs X.stack) ch H H' s.heap h') (hok:HOk X.prog X.w H' h') (hg:AllBare g')
    (hch:∀ b ∈ ch,(b ∈ X.ex \/ X.s₀.heap.objs.size <= b) /\ b ≠ X.env.locals /\ (∀ x c,X.env.cells.lookup x=some c->c ≠ b) /\ ∀ p ∈ X.pn ++ pins,p.1 ≠ b) :
    Inv X pins σ H' { s with heap:=h',gens:=g',drawn:=d',toks:=t' }:=by
  obtain ⟨m,⟨o,es,ep,ho,r⟩,_⟩:=id I.loc
  obtain ⟨sl,hL⟩:=u.any ho I.free fun z=>(hch _ z).2.1 rfl
  exact I.step (ch:=ch) hch (fun b o hL hb hc e n=>u.keep b o e n (fun z=>(List.mem_cons.mp (I.stkSub b z)).elim hL hb) hc) (fun b o _ _ hc e n=>u.any e n hc) (fun b o hc e n=>u.free b o e n hc) (fun b o hc e=>u.there b o e hc) u.tups u.frzs u.tbls (fun m' hm=>by
    obtain ⟨o',es',ep',ho',r'⟩:=hm
    rw [ho] at ho';cases ho'
    exact ⟨_,es',ep',hL,r'⟩) hok hg
theorem Inv.turned {t':Nat}{it:Addr} (I:Inv X pins σ H s) (k:∀ b o,b ≠ it->s.heap.get? b=some o->h'.get? b=some o) (hn:H it=none) (hL:it ≠ X.env.locals)
    (h1:it ∈ X.ex \/ X.s₀.heap.objs.size <= it) (h2:∀ x c,X.env.cells.lookup x=some c->c ≠ it) (h3:∀ p ∈ X.pn ++ pins,p.1 ≠ it):Inv X pins σ H { s with heap:=h',toks:=t' }:=by
  have nit:∀ b u,H b=some u->b ≠ it:=fun b u e z=>by rw [z,hn] at e;cases e
  refine I.step (g':=s.gens) (d':=s.drawn) (ch:=[it]) (fun b hb=>?_) (fun b o _ _ hc e _=>k b o (fun z=>hc (by simp [z])) e) (fun b o _ _ hc e _=>⟨o.slots,k b o (fun z=>hc (by simp [z])) e⟩) (fun _ _ _ _ n=>n)
    (fun b o hc e=>⟨o,k b o (fun z=>hc (by simp [z])) e⟩) (fun _ _ e=>e) (fun _ _ _ e=>e) (fun b ps e=>⟨#[],by rw [e];simp⟩) (fun m hm=>?_) (fun b u e=>?_) I.bare
  . have e:b=it:=by simpa using hb
    subst e
    exact ⟨h1,hL,h2,h3⟩
  . obtain ⟨o,es,ep,ho,r⟩:=hm
    exact ⟨o,es,ep,k _ o (Ne.symm hL) ho,r⟩
  . refine (I.hok b u e).stay (fun c v hc q=>k c v ?_ q) (fun _ q=>q) fun _ _ q=>q
    rcases hc with z | z
    . rw [z];exact nit b u e
    . exact nit c _ z
theorem Inv.tok (I:Inv X pins σ H s) (t:Nat):Inv X pins σ H { s with toks:=t }:=I.un (h':=s.heap) (t':=t) Un.refl I.hok
theorem Inv.kept {t':Nat} (I:Inv X pins σ H s) (k:∀ b u,s.heap.get? b=some u->h'.get? b=some u):Inv X pins σ H { s with heap:=h',toks:=t' }:=I.un (Un.kept k) (I.hok.kept k)
theorem Inv.laid {a:Addr}{o:HO}{t':Nat} (I:Inv X pins σ H s) (k:∀ b u,s.heap.get? b=some u->h'.get? b=some u) (hp:s.heap.objs.size <= a) (new:ObjOk X.prog X.w (upd H a o) h' a o) :
    Inv X pins σ (upd H a o) { s with heap:=h',toks:=t' }:=I.un (Un.laid k hp (I.hok.fresh hp)) (I.hok.laid k hp new)
theorem Inv.write {x e:Addr}{o:HO}{t':Nat} (I:Inv X pins σ H s) (mu:Mut (H x)) (he:e=x \/ H e=some (.own x)) (k:∀ b u,b ≠ e->s.heap.get? b=some u->h'.get? b=some u) (heo:∃ u,h'.get? e=some u)
    (new:ObjOk X.prog X.w (upd H x o) h' x o):Inv X pins σ (upd H x o) { s with heap:=h',toks:=t' }:=I.un (Un.write mu he k heo) (I.hok.write mu he k heo new)
theorem Inv.pins_of {pins':List (Addr × Obj)} (I:Inv X pins σ H s) (h:∀ p ∈ pins',s.heap.get? p.1=some p.2 /\ H p.1=none /\ p.1 ≠ X.env.locals /\ p.1 ∉ X.fs /\ ∀ v,p.2.data ≠ .cell v):Inv X pins' σ H s :=
  ⟨I.ok,I.os,I.bare,I.base,I.loc,I.cell,I.free,I.freeC,fun p hp=>(List.mem_append.mp hp).elim (fun z=>I.pin p (List.mem_append_left _ z)) (h p),I.hok,I.len⟩
theorem Cw {N:List Str} (hN:N.Nodup) {i j:Nat}{x:Str} (a:N[i]?=some x) (b:N[j]?=some x):i=j:=by
  obtain ⟨h1,e1⟩:=List.getElem?_eq_some_iff.mp a
  obtain ⟨h2,e2⟩:=List.getElem?_eq_some_iff.mp b
  exact (List.getElem_inj hN).mp (e1.trans e2.symm)
theorem Gh {M:Model}{A:Around}{E:Value->Shared->Prop}{i:Nat}{x:Str}{v:V}{u:Value}{Q:Unit->Shared->Prop} (I:Inv X pins σ H s) (hN:X.N.Nodup) (hi:X.N[i]?=some x) (hx:Loc X.env.scope x) (r:RelV v u)
    (h:∀ s',Inv X pins (σ.set i (some v)) H s'->(∃ a,Heap.SameBut a s.heap s'.heap /\ (a=X.env.locals \/ X.env.cells.lookup x=some a))->Q () s') (hf:X.fn x=true \/ X.env.scope.names.lookup x=some .local:=by first | exact .inl rfl | exact .inr rfl | assumption):wpAny M A (storeName X.env x u) Q E s:=by
  obtain ⟨m,hn,hl⟩:=id I.loc
  have hcls:(X.env.scope.kind == .class || (X.env.scope.kind == .module && X.env.locals != X.env.globals))=false:=by rw [I.ok.kind];rfl
  have hiσ:i < σ.length:=by rw [I.len];exact (List.getElem?_eq_some_iff.mp hi).1
  have cne:=I.cne
  have tracked:∀ {a:Addr}{h':Heap},(∃ o,s.heap.get? a=some o /\ H a=none)->Heap.SameBut a s.heap h'->HOk X.prog X.w H h':=fun {a h'} ha hs b ob e=>by
    obtain ⟨_,_,hfree⟩:=ha
    refine (I.hok b ob e).stay (fun c w' hc q=>(hs.2 c ?_).trans q) (fun _ q=>q) fun _ _ q=>q
    rintro rfl
    rcases hc with rfl | hc
    . rw [hfree] at e;cases e
    . rw [hfree] at hc;cases hc
  rcases hx with hk | hk
  . refine wpAny_storeName_local hk hn (fun h' hn' hs=>?_) hcls
    obtain ⟨oL,_,_,hoL,_⟩:=id hn
    refine h _ ⟨I.ok,I.os,I.bare,⟨fun b o e n hb hx=>?_,fun b o e n hb hx=>?_,I.base.free,fun b o e hx=>?_,I.base.tups,I.base.frzs,I.base.tbls⟩,⟨_,hn',fun j y v' e1 e2 e3=>?_⟩,fun y c e=>?_,I.free,I.freeC,fun p hp=>?_,tracked ⟨oL,hoL,I.free⟩ hs,by simpa using I.len⟩ ⟨_,hs,.inl rfl⟩
    . exact (hs.2 b (Nat.ne_of_lt (Nat.lt_of_lt_of_le (Heap.lt_size e) I.ok.above))).trans (I.base.keep b o e n hb hx)
    . obtain ⟨sl,e1⟩:=I.base.slot b o e n hb hx
      exact ⟨sl,(hs.2 b (Nat.ne_of_lt (Nat.lt_of_lt_of_le (Heap.lt_size e) I.ok.above))).trans e1⟩
    . obtain ⟨o',e1⟩:=I.base.there b o e hx
      exact ⟨o',(hs.2 b (Nat.ne_of_lt (Nat.lt_of_lt_of_le (Heap.lt_size e) I.ok.above))).trans e1⟩
    . by_cases hj:j=i
      . subst hj
        rw [hi] at e1;cases e1
        rw [List.getElem?_set_self hiσ] at e2
        cases e2
        exact ⟨u,r,.inl ⟨hk,by simp⟩⟩
      . rw [List.getElem?_set_ne (Ne.symm hj)] at e2
        obtain ⟨u',r',q⟩:=hl j y v' e1 e2 e3
        refine ⟨u',r',?_⟩
        rcases q with ⟨k,e⟩ | ⟨k,c,e,z⟩
        . refine .inl ⟨k,?_⟩
          have:y ≠ x:=fun e=>hj (Cw hN e1 (e ▸ hi))
          simp [this,e]
        . exact .inr ⟨k,c,e,z.sameBut hs (cne y c e)⟩
    . obtain ⟨w',z⟩:=I.cell y c e
      exact ⟨w',z.sameBut hs (cne y c e)⟩
    . obtain ⟨e,n,ne,nf,d⟩:=I.pin p hp
      exact ⟨(hs.2 p.1 ne).trans e,n,ne,nf,d⟩
  . have hfn:X.fn x=true:=by
      rcases hf with z | z
      . exact z
      . rw [z] at hk;cases hk
    obtain ⟨c,hc⟩:=I.ok.has x (.inl hk)
    obtain ⟨w',z⟩:=I.cell x c hc
    refine wpAny_storeName_cell I.ok.kind hk hc z (fun h' hc' hs=>?_)
    obtain ⟨oc,hoc,hocd⟩:=id z
    refine h { s with heap:=h' } ⟨I.ok,I.os,I.bare,⟨fun b o e n hb hx=>?_,fun b o e n hb hx=>?_,I.base.free,fun b o e hx=>?_,I.base.tups,I.base.frzs,I.base.tbls⟩,⟨m,hn.sameBut hs (Ne.symm (cne x c hc)),fun j y v' e1 e2 e3=>?_⟩,fun y c' e=>?_,I.free,I.freeC,fun p hp=>?_,tracked ⟨oc,hoc,I.freeC x c hc⟩ hs,by simpa using I.len⟩ ⟨c,hs,.inr hc⟩
    . exact (hs.2 b (Nat.ne_of_lt (Nat.lt_of_lt_of_le (Heap.lt_size e) (I.ok.cab x c hfn hc)))).trans (I.base.keep b o e n hb hx)
    . obtain ⟨sl,e1⟩:=I.base.slot b o e n hb hx
      exact ⟨sl,(hs.2 b (Nat.ne_of_lt (Nat.lt_of_lt_of_le (Heap.lt_size e) (I.ok.cab x c hfn hc)))).trans e1⟩
    . obtain ⟨o',e1⟩:=I.base.there b o e hx
      exact ⟨o',(hs.2 b (Nat.ne_of_lt (Nat.lt_of_lt_of_le (Heap.lt_size e) (I.ok.cab x c hfn hc)))).trans e1⟩
    . by_cases hj:j=i
      . subst hj
        rw [hi] at e1;cases e1
        rw [List.getElem?_set_self hiσ] at e2
        cases e2
        exact ⟨u,r,.inr ⟨.inl hk,c,hc,hc'⟩⟩
      . rw [List.getElem?_set_ne (Ne.symm hj)] at e2
        obtain ⟨u',r',q⟩:=hl j y v' e1 e2 e3
        refine ⟨u',r',?_⟩
        rcases q with q | ⟨k,c',e,z'⟩
        . exact .inl q
        . refine .inr ⟨k,c',e,z'.sameBut hs ?_⟩
          rintro rfl
          exact hj (Cw hN e1 (I.ok.inj _ _ _ e hc ▸ hi))
    . by_cases hcc:c'=c
      . subst hcc;exact ⟨_,hc'⟩
      . obtain ⟨w2,z2⟩:=I.cell y c' e
        exact ⟨w2,z2.sameBut hs hcc⟩
    . obtain ⟨e,n,ne,nf,d⟩:=I.pin p hp
      refine ⟨(hs.2 p.1 ?_).trans e,n,ne,nf,d⟩
      intro q
      rw [q,hoc] at e
      have q':oc=p.2:=Option.some.inj e
      exact d w' (by rw [<-q'];exact hocd)
theorem oG {M:Model}{A:Around}{E:Value->Shared->Prop}{i:Nat}{x:Str}{v:V}{u:Value}{Q:Unit->Shared->Prop} (I:Inv X pins σ H s) (hN:X.N.Nodup) (hi:X.N[i]?=some x) (hx:Loc X.env.scope x) (r:RelV v u)
    (h:∀ s',Inv X pins (σ.set i (some v)) H s'->Q () s') (hf:X.fn x=true \/ X.env.scope.names.lookup x=some .local:=by first | exact .inl rfl | exact .inr rfl | assumption):wpAny M A (storeName X.env x u) Q E s :=
  Gh I hN hi hx r (fun s' I' _=>h s' I') hf
theorem Inv.call' {s':Shared}{ch:List Addr} (I:Inv X pins σ H s) (ho:s'.os=s.os) (u:Un (frs X.stack) ch H H' s.heap s'.heap) (hok:HOk X.prog X.w H' s'.heap) (hg:AllBare s'.gens)
    (hch:∀ b ∈ ch,(b ∈ X.ex \/ X.s₀.heap.objs.size <= b) /\ b ≠ X.env.locals /\ (∀ x c,X.env.cells.lookup x=some c->c ≠ b) /\ ∀ p ∈ X.pn ++ pins,p.1 ≠ b):Inv X pins σ H' s':=by
  obtain ⟨h',g',d',t',o'⟩:=s'
  have e:o'=s.os:=ho
  subst e
  exact I.call (g':=g') (t':=t') (d':=d') u hok hg hch
end
noncomputable abbrev XK:=Value->Option Addr->Hp->Prop
noncomputable abbrev St:=List (Option V)
noncomputable abbrev VK:=V->Hp->Prop
noncomputable abbrev TE:=St->Hp->VK->Prop
noncomputable abbrev TT:=St->Hp->(Bool->Hp->Prop)->Prop
noncomputable abbrev TA:=St->Hp->(List V->Hp->Prop)->Prop
structure Ends where
  nx:St->Hp->Prop
  rt:VK
  bk:St->Hp->Prop:=fun _ _=>False
  ct:St->Hp->Prop:=fun _ _=>False
noncomputable abbrev TS:=Ends->St->Hp->Prop
noncomputable def EP (X:Cx) (pins:List (Addr × Obj)) (σ:St) (Q:VK) (u:Value) (s':Shared):Prop:=∃ v H',Inv X pins σ H' s' /\ RelV v u /\ Q v H'
noncomputable def TP (X:Cx) (pins:List (Addr × Obj)) (σ:St) (Q:Bool->Hp->Prop) (b:Bool) (s':Shared):Prop:=∃ H',Inv X pins σ H' s' /\ Q b H'
noncomputable def AP (X:Cx) (pins:List (Addr × Obj)) (σ:St) (Q:List V->Hp->Prop) (us:List Value) (s':Shared):Prop:=∃ vs H',Inv X pins σ H' s' /\ Vals vs us /\ Q vs H'
noncomputable def SP (X:Cx) (pins:List (Addr × Obj)) (D:Ends) (f:Flow) (s':Shared):Prop :=
  match f with
  | .next=>∃ σ' H',Inv X pins σ' H' s' /\ D.nx σ' H'
  | .brk=>∃ σ' H',Inv X pins σ' H' s' /\ D.bk σ' H'
  | .cont=>∃ σ' H',Inv X pins σ' H' s' /\ D.ct σ' H'
  | .ret u=>∃ v σ' H',Inv X pins σ' H' s' /\ RelV v u /\ D.rt v H'
noncomputable def PE (X:Cx) (e:Expr) (t:TE):Prop :=
  ∀ (pins:List (Addr × Obj)) (s:Shared) (σ:St) (H:Hp) (Q:VK),Inv X pins σ H s->t σ H Q->wpAny (model X.prog X.w) X.A (eval e X.env) (EP X pins σ Q) X.xe s
noncomputable def PT (X:Cx) (e:Expr) (t:TT):Prop :=
  ∀ (pins:List (Addr × Obj)) (s:Shared) (σ:St) (H:Hp) (Q:Bool->Hp->Prop),Inv X pins σ H s->t σ H Q->wpAny (model X.prog X.w) X.A (isTrue e X.env (eval e X.env)) (TP X pins σ Q) X.xe s
noncomputable def PW (X:Cx) (e:Expr) (t:TT):Prop :=
  ∀ (whole:Sem Value) (pins:List (Addr × Obj)) (s:Shared) (σ:St) (H:Hp) (Q:Bool->Hp->Prop),Inv X pins σ H s->t σ H Q->wpAny (model X.prog X.w) X.A (isTrue e X.env whole) (TP X pins σ Q) X.xe s
theorem PW.pt {X:Cx}{e:Expr}{t:TT} (h:PW X e t):PT X e t:=h _
noncomputable def PA (X:Cx) (es:List Expr) (t:TA):Prop :=
  ∀ (pos:Pos) (pins:List (Addr × Obj)) (s:Shared) (σ:St) (H:Hp) (Q:List V->Hp->Prop),Inv X pins σ H s->t σ H Q->wpAny (model X.prog X.w) X.A (spliced (backTo pos (starEach es X.env))) (AP X pins σ Q) X.xe s
noncomputable def PS (X:Cx) (st:Stmt) (t:TS):Prop :=
  ∀ (pins:List (Addr × Obj)) (s:Shared) (σ:St) (H:Hp) (D:Ends),Inv X pins σ H s->t D σ H->wpAny (model X.prog X.w) X.A (exec st X.env) (SP X pins D) X.xe s
noncomputable def PSs (X:Cx) (st:List Stmt) (t:TS):Prop :=
  ∀ (pins:List (Addr × Obj)) (s:Shared) (σ:St) (H:Hp) (D:Ends),Inv X pins σ H s->t D σ H->wpAny (model X.prog X.w) X.A (execs st X.env) (SP X pins D) X.xe s
theorem thn {α:Type}{t:Sem α}{Q Q':α->Shared->Prop}{M:Model}{A:Around}{E:Value->Shared->Prop}{s:Shared} (h:wpAny M A t Q E s) (hQ:∀ a s,Q a s->Q' a s):wpAny M A t Q' E s:=wpAny_mono h hQ fun _ _ x=>x
end L2
namespace L2
open PySem PySem.Spec PyProof.Rows
section
variable {X : Cx}
theorem bin {a b:Expr}{ta tb:TE} (ha:PE X a ta) (hb:PE X b tb) {pins:List (Addr × Obj)}{s:Shared}{σ:St}{H:Hp}{R:V->V->Hp->Prop} (I:Inv X pins σ H s) (h:ta σ H fun x H1=>tb σ H1 fun y H2=>R x y H2)
    {α:Type}{Q:α->Shared->Prop}{f:Value->Value->Sem α}
    (hf:∀ v u s2 x y H2,Inv X pins σ H2 s2->RelV x v->RelV y u->R x y H2->wpAny (model X.prog X.w) X.A (f v u) Q X.xe s2) :
    wpAny (model X.prog X.w) X.A (eval a X.env) (fun v s₁=>wpAny (model X.prog X.w) X.A (eval b X.env) (fun u s₂=>wpAny (model X.prog X.w) X.A (f v u) Q X.xe s₂) X.xe s₁) X.xe s:=by
  refine thn (ha pins s σ H _ I h) fun v s1 ⟨x,H1,I1,r1,q1⟩=>?_
  refine thn (hb pins s1 σ H1 _ I1 q1) fun u s2 ⟨y,H2,I2,r2,q2⟩=>?_
  exact hf v u s2 x y H2 I2 r1 r2 q2
noncomputable def tVar (i:Nat):TE:=fun σ H Q=>∃ v,σ[i]?=some (some v) /\ Q v H
noncomputable def tC (v:V):TE:=fun _ H Q=>Q v H
theorem Ds {i:Nat}{x:Str}{pos:Pos} (hN:X.N[i]?=some x) (hv:Vis X.env.scope x) (hd:(x == ("__debug__":Str))=false:=by decide) (hcd:(x == ("__classdict__":Str))=false:=by decide):PE X (.Name x pos) (tVar i):=by
  intro pins s σ H Q I h
  obtain ⟨v,e,h⟩:=h
  obtain ⟨m,hn,hl⟩:=I.loc
  obtain ⟨u,r,l⟩:=hl i x v hN e hv
  have fin:EP X pins σ Q u s:=⟨v,H,I,r,h⟩
  rcases l with ⟨hk,hm⟩ | ⟨hk,c,hc,hcell⟩
  . exact wpAny_Name (wpAny_loadName_local I.ok.kind hk hn hm fin) hd
  . rcases hk with hk | hk
    . exact wpAny_Name (wpAny_loadName_cell I.ok.kind hk hc hcell fin) hd
    . exact wpAny_Name (wpAny_loadName_free I.ok.kind hk hc hcell fin hcd) hd
theorem Ay {i j pos}:PE X (.Constant (.int i) j pos) (tC (.int i)):=fun _ _ _ H _ I h=>wpAny_Constant_int ⟨.int i,H,I.tok _,⟨_,rfl⟩,h⟩
theorem Op {b j pos}:PE X (.Constant (.bool b) j pos) (tC (.bl b)):=fun _ _ _ H _ I h=>Constant_bool ⟨.bl b,H,I,rfl,h⟩
theorem M9 {j pos}:PE X (.Constant .none j pos) (tC .non):=fun _ _ _ H _ I h=>Constant_none ⟨.non,H,I,rfl,h⟩
theorem Na {x j pos}:PE X (.Constant (.str x) j pos) (tC (.str x)):=fun _ _ _ H _ I h=>Calls.Constant_str ⟨.str x,H,I.tok _,⟨_,rfl⟩,h⟩
noncomputable def Gl (X:Cx) (x:Str):Prop:=X.env.kindOf x=some .globalImplicit
theorem Fu {E:Value->Shared->Prop}{pins:List (Addr × Obj)}{s:Shared}{σ:St}{H:Hp}{x:Str}{u:Value}{pos:Pos}{Q:Value->Shared->Prop} (I:Inv X pins σ H s) (hg:Gl X x) (hm:X.mg x=some u) (h:Q u s)
    (hd:(x == ("__debug__":Str))=false:=by decide):wpAny (model X.prog X.w) X.A (eval (.Name x pos) X.env) Q E s :=
  Calls.Name_function_global I.ok.kind hg (Calls.loadGlobal_global (by rw [I.ok.glob];exact I.mod.glob.keeps I.bk) hm h) hd
theorem lW {E:Value->Shared->Prop}{pins:List (Addr × Obj)}{s:Shared}{σ:St}{H:Hp}{x:Str}{u:Value}{pos:Pos}{Q:Value->Shared->Prop} (I:Inv X pins σ H s) (hg:Gl X x) (hm:X.mg x=none) (hv:bootBuiltins x=some u) (h:Q u s)
    (hn:x ≠ "__name__":=by decide) (hd:(x == ("__debug__":Str))=false:=by decide):wpAny (model X.prog X.w) X.A (eval (.Name x pos) X.env) Q E s:=by
  obtain ⟨mb,h1,h2⟩:=I.mod.blt
  exact Calls.Name_function_global I.ok.kind hg (Calls.loadGlobal_builtin (by rw [I.ok.glob];exact I.mod.glob.keeps I.bk) hm (by rw [I.ok.blt];exact h1.keeps I.bk) ((h2 x hn).trans hv) h) hd
theorem LK {x:Str}{v:V}{u:Value}{pos:Pos} (hg:Gl X x) (hm:X.mg x=some u) (r:RelV v u) (hd:(x == ("__debug__":Str))=false:=by decide):PE X (.Name x pos) (tC v) :=
  fun _ _ _ H _ I h=>Fu I hg hm ⟨v,H,I,r,h⟩ hd
theorem LL {x:Str}{v:V}{u:Value}{pos:Pos} (hg:Gl X x) (hm:X.mg x=none) (hv:bootBuiltins x=some u) (r:RelV v u) (hn:x ≠ "__name__":=by decide) (hd:(x == ("__debug__":Str))=false:=by decide):PE X (.Name x pos) (tC v) :=
  fun _ _ _ H _ I h=>lW I hg hm hv ⟨v,H,I,r,h⟩ hn hd
variable {a b : Expr} {ta tb : TE} {pos : Pos}
noncomputable def PC (X:Cx) (op:CmpOp) (a b:Expr) (t:TE):Prop :=
  ∀ (pins:List (Addr × Obj)) (s:Shared) (σ:St) (H:Hp) (Q:VK),Inv X pins σ H s->t σ H Q ->
    wpAny (model X.prog X.w) X.A (eval a X.env) (fun v s₁=>wpAny (model X.prog X.w) X.A (eval b X.env) (fun u s₂=>wpAny (model X.prog X.w) X.A (compareOp op v u) (EP X pins σ Q) X.xe s₂) X.xe s₁) X.xe s
noncomputable def tB (t:TE):TT:=fun σ H Q=>t σ H fun x H1=>∃ c,x=.bl c /\ Q c H1
theorem Nb {op:CmpOp}{t:TE} (h:PC X op a b t) (h1:behindInMarks op b=false:=by first | exact nobehind _ (by decide) (by decide) | rfl):PE X (.Compare a [op] [b] pos) t:=fun pins s σ H Q I hw=>wpAny_Compare1 (h pins s σ H Q I hw) h1
theorem Pc {op:CmpOp}{t:TE} (h:PC X op a b t) (h1:behindInMarks op b=false:=by first | exact nobehind _ (by decide) (by decide) | rfl):PT X (.Compare a [op] [b] pos) (tB t):=by
  intro pins s σ H Q I hw
  refine wpAny_isTrue_Compare1 (thn (h pins s σ H _ I hw) fun v s1 h1=>thn h1 fun u s2 h2=>thn h2 fun c s3 ⟨x,H1,I1,r1,q1⟩=>?_) h1
  obtain ⟨d,rfl,q⟩:=q1
  cases r1
  exact wpAny_truthy_bool ⟨H1,I1,q⟩
theorem Nc {e:Expr}{t:TE} (h:PE X e t) (he:∀ whole,isTrue e X.env whole=(do let v <-whole;standAt e.pos;holding [v] (truthy v)):=by intro _;rfl):PT X e (tB t):=by
  intro pins s σ H Q I hw
  refine isTrue_plain (thn (h pins s σ H _ I hw) fun v s1 ⟨x,H1,I1,r1,q1⟩=>?_) (he _)
  obtain ⟨d,rfl,q⟩:=q1
  cases r1
  exact wpAny_truthy_bool ⟨H1,I1,q⟩
variable {tA tB' : TT} {rest : List Expr}
noncomputable def tOr (t u:TT):TT:=fun σ H Q=>t σ H fun c H1=>if c=true then Q true H1 else u σ H1 Q
noncomputable def tNot (t:TT):TT:=fun σ H Q=>t σ H fun c H1=>Q (!c) H1
theorem Nd (ha:PT X a tA):PW X (.BoolOp .Or [a] pos) tA:=by
  intro wh pins s σ H Q I h
  refine isTrue_or (thn (ha pins s σ H Q I h) fun c s1 e=>?_)
  cases c with
  | false=>exact isTrue_or_nil e
  | true=>exact e
theorem Oq (ha:PT X a tA) (hb:PW X (.BoolOp .Or (b :: rest) pos) tB'):PW X (.BoolOp .Or (a :: b :: rest) pos) (tOr tA tB'):=by
  intro wh pins s σ H Q I h
  refine isTrue_or (thn (ha pins s σ H _ I h) fun c s1 ⟨H1,I1,q1⟩=>?_)
  cases c with
  | true=>exact ⟨H1,I1,q1⟩
  | false=>exact hb wh pins s1 σ H1 Q I1 q1
theorem Nf (ha:PT X a tA):PT X (.UnaryOp .Not a pos) (tNot tA):=by
  intro pins s σ H Q I h
  exact isTrue_not (ha pins s σ H (fun c H1=>Q (!c) H1) I h)
noncomputable def tAndV (ta tb:TE):TE:=fun σ H Q=>ta σ H fun x H1=>∃ c,x=.bl c /\ if c=true then tb σ H1 Q else Q (.bl false) H1
noncomputable def tNotV (ta:TE):TE:=fun σ H Q=>ta σ H fun x H1=>∃ c,x=.bl c /\ Q (.bl (!c)) H1
theorem Ng {op}{t:TE} (h:PE X a t):PE X (.BoolOp op [a] pos) t:=fun pins s σ H Q I hw=>BoolOp_one (h pins s σ H Q I hw)
theorem Nh (ha:PE X a ta) (hb:PE X (.BoolOp .And (b :: rest) pos) tb):PE X (.BoolOp .And (a :: b :: rest) pos) (tAndV ta tb):=by
  intro pins s σ H Q I h
  refine BoolOp_and (thn (ha pins s σ H _ I h) fun v s1 ⟨x,H1,I1,r1,q1⟩=>?_)
  obtain ⟨c,rfl,q1⟩:=q1
  cases r1
  refine wpAny_truthy_bool ?_
  cases c with
  | true=>exact hb pins s1 σ H1 Q I1 q1
  | false=>exact ⟨.bl false,H1,I1,rfl,q1⟩
theorem Ni (ha:PE X a ta):PE X (.UnaryOp .Not a pos) (tNotV ta):=by
  intro pins s σ H Q I h
  refine UnaryOp_ (thn (ha pins s σ H _ I h) fun v s1 ⟨x,H1,I1,r1,q1⟩=>?_)
  obtain ⟨c,rfl,q1⟩:=q1
  cases r1
  exact not_of (wpAny_truthy_bool ⟨.bl (!c),H1,I1,rfl,q1⟩)
noncomputable def tIf (t:TT) (ta tb:TE):TE:=fun σ H Q=>t σ H fun c H1=>if c=true then ta σ H1 Q else tb σ H1 Q
theorem G5 {c:Expr} (hc:PT X c tA) (ha:PE X a ta) (hb:PE X b tb):PE X (.IfExp c a b pos) (tIf tA ta tb):=by
  intro pins s σ H Q I h
  refine wpAny_IfExp (thn (hc pins s σ H _ I h) fun d s1 ⟨H1,I1,q1⟩=>?_)
  cases d with
  | true=>exact ha pins s1 σ H1 Q I1 q1
  | false=>exact hb pins s1 σ H1 Q I1 q1
end
end L2
namespace L2
open PySem PySem.Spec PyProof.Rows
noncomputable def SqL (K:PySem.W.Frag) (H:Hp) (a:Addr) (xs:List V):Prop :=
  Rd H a (.lst xs) \/
    ∃ (o:Obj) (its:Array Value) (n:Nat),K.lookup a=some o /\ o.cls=.type "list" /\ o.dict=none /\ o.data=.seq its n /\ its.size <= sizeLine /\ Vals xs its.toList
noncomputable def SqT (K:PySem.W.Frag) (H:Hp) (a:Addr) (xs:List V):Prop :=
  Rd H a (.tup xs) \/
    ∃ (o:Obj) (its:Array Value) (n:Nat),K.lookup a=some o /\ o.cls=.type "tuple" /\ o.data=.seq its n /\ its.size <= sizeLine /\ Vals xs its.toList
noncomputable def absV:Value->Option V
  | .none=>some .non
  | .bool b=>some (.bl b)
  | .int i _=>some (.int i)
  | .str x _=>some (.str x)
  | .bytes b _=>some (.byt b)
  | .float b _=>some (.flt b)
  | .ref a=>some (.ref a)
  | .type n=>some (.ty n)
  | _=>none
theorem RelV.abs {x:V}{u:Value} (r:RelV x u):absV u=some x:=by
  cases x with
  | non=>cases r;rfl
  | bl _=>cases r;rfl
  | int _=>obtain ⟨t,rfl⟩:=r;rfl
  | str _=>obtain ⟨t,rfl⟩:=r;rfl
  | byt _=>obtain ⟨t,rfl⟩:=r;rfl
  | flt _=>obtain ⟨t,rfl⟩:=r;rfl
  | ref _=>cases r;rfl
  | ty _=>cases r;rfl
theorem RelV.inj {x y:V}{u:Value} (r:RelV x u) (q:RelV y u):x=y:=Option.some.inj (r.abs.symm.trans q.abs)
theorem Vals.inj:∀ {xs ys:List V}{us:List Value},Vals xs us->Vals ys us->xs=ys
  | _,_,_,.nil,.nil=>rfl
  | _,_,_,.cons r t,.cons r' t'=>by rw [r.inj r',Vals.inj t t']
section
variable {X : Cx} {pins : List (Addr × Obj)} {σ : St} {H : Hp} {s : Shared} {a : Addr} {xs ys : List V}
theorem SqL.of {K:PySem.W.Frag} (h:H a=some (.lst xs)):SqL K H a xs:=.inl (.inl h)
theorem SqT.of {K:PySem.W.Frag} (h:H a=some (.tup xs)):SqT K H a xs:=.inl (.inl h)
theorem Inv.list (I:Inv X pins σ H s) (h:SqL X.K H a xs):∃ its:List Value,Vals xs its /\ PlainL s.heap a its.toArray /\ xs.length <= sizeLine:=by
  rcases h with h | ⟨o,its,n,hk,hc,hd,hs,hz,r⟩
  . obtain ⟨z,its,n,r,e⟩:=h.ok I.hok
    exact ⟨its,r,⟨_,n,e,rfl,rfl,rfl⟩,z⟩
  . refine ⟨its.toList,r,⟨o,n,I.kIn a o hk,hc,hd,by simpa using hs⟩,?_⟩
    have e:=r.length
    simp only [Array.length_toList] at e
    omega
theorem Inv.tuple (I:Inv X pins σ H s) (h:SqT X.K H a xs):∃ its:List Value,Vals xs its /\ IsTup s.heap a its.toArray /\ xs.length <= sizeLine:=by
  rcases h with h | ⟨o,its,n,hk,hc,hs,hz,r⟩
  . obtain ⟨z,its,r,p⟩:=h.ok I.hok
    exact ⟨its,r,p,z⟩
  . refine ⟨its.toList,r,⟨o,I.kIn a o hk,hc,n,by simpa using hs⟩,?_⟩
    have e:=r.length
    simp only [Array.length_toList] at e
    omega
theorem Inv.list_inj (I:Inv X pins σ H s) (h:SqL X.K H a xs) (h':SqL X.K H a ys):xs=ys:=by
  obtain ⟨its,r,⟨o,n,e,_,_,d⟩,_⟩:=I.list h
  obtain ⟨its',r',⟨o',n',e',_,_,d'⟩,_⟩:=I.list h'
  rw [e] at e';cases e'
  rw [d] at d'
  injection d' with d1 _
  have:its=its':=by simpa using congrArg Array.toList d1
  subst this
  exact r.inj r'
theorem Inv.tuple_inj (I:Inv X pins σ H s) (h:SqT X.K H a xs) (h':SqT X.K H a ys):xs=ys:=by
  obtain ⟨its,r,⟨o,e,_,n,d⟩,_⟩:=I.tuple h
  obtain ⟨its',r',⟨o',e',_,n',d'⟩,_⟩:=I.tuple h'
  rw [e] at e';cases e'
  rw [d] at d'
  injection d' with d1 _
  have:its=its':=by simpa using congrArg Array.toList d1
  subst this
  exact r.inj r'
end
noncomputable abbrev Cx.wish (X:Cx) (E:Value->Shared->Prop):Cx:={ X with xe:=E }
noncomputable abbrev Cx.nox (X:Cx):Cx:=X.wish fun _ _=>False
theorem Cx.Ok.wish {X:Cx} (ok:X.Ok) (E:Value->Shared->Prop):(X.wish E).Ok :=
  ⟨ok.mod,ok.kind,ok.glob,ok.blt,ok.above,ok.inj,ok.has,ok.cab,ok.hd,ok.frames,ok.stk,ok.exf,ok.bs,ok.bsz,ok.noex,ok.exfs,ok.funs,ok.frf⟩
theorem Cx.Ok.unwish {X:Cx}{E:Value->Shared->Prop} (ok:(X.wish E).Ok):X.Ok :=
  ⟨ok.mod,ok.kind,ok.glob,ok.blt,ok.above,ok.inj,ok.has,ok.cab,ok.hd,ok.frames,ok.stk,ok.exf,ok.bs,ok.bsz,ok.noex,ok.exfs,ok.funs,ok.frf⟩
section
variable {X : Cx} {pins : List (Addr × Obj)} {σ : St} {H : Hp} {s : Shared} {E : Value -> Shared -> Prop}
theorem Inv.wish (I:Inv X pins σ H s) (E:Value->Shared->Prop):Inv (X.wish E) pins σ H s:=⟨I.ok.wish E,I.os,I.bare,I.base,I.loc,I.cell,I.free,I.freeC,I.pin,I.hok,I.len⟩
theorem Inv.unwish (I:Inv (X.wish E) pins σ H s):Inv X pins σ H s:=⟨I.ok.unwish,I.os,I.bare,I.base,I.loc,I.cell,I.free,I.freeC,I.pin,I.hok,I.len⟩
theorem SP.unwish {D:Ends}{f:Flow}{s':Shared} (h:SP (X.wish E) pins D f s'):SP X pins D f s':=by
  cases f with
  | next=>obtain ⟨σ',H',I,q⟩:=h;exact ⟨σ',H',I.unwish,q⟩
  | brk=>obtain ⟨σ',H',I,q⟩:=h;exact ⟨σ',H',I.unwish,q⟩
  | cont=>obtain ⟨σ',H',I,q⟩:=h;exact ⟨σ',H',I.unwish,q⟩
  | ret u=>obtain ⟨v,σ',H',I,r,q⟩:=h;exact ⟨v,σ',H',I.unwish,r,q⟩
theorem PSs.nox {st:List Stmt}{t:TS} (h:PSs X.nox st t):PSs X st t:=fun pins s σ H D I hw =>
  wpAny_mono (h pins s σ H D (I.wish _) hw) (fun _ _ q=>q.unwish) fun _ _ z=>False.elim z
end
section
variable {X : Cx} {st : Stmt} {rest : List Stmt} {t u : TS} {e : Expr} {te : TE} {pos : Pos}
noncomputable def tNext:TS:=fun D σ H=>D.nx σ H
noncomputable def tSeq (t u:TS):TS:=fun D σ H=>t { D with nx:=u D } σ H
theorem LM:PSs X [] tNext:=fun _ _ σ H _ I h=>wpAny_execs_nil ⟨σ,H,I,h⟩
theorem G6 (h1:PS X st t) (h2:PSs X rest u):PSs X (st :: rest) (tSeq t u):=by
  intro pins s σ H D I h
  refine wpAny_execs_cons (thn (h1 pins s σ H { D with nx:=u D } I h) fun f s1 q=>?_)
  cases f with
  | next =>
    obtain ⟨σ',H',I',q⟩:=q
    exact h2 pins s1 σ' H' D I' q
  | ret v=>exact q
  | brk=>exact q
  | cont=>exact q
theorem LN (h1:PS X st t):PSs X [st] t:=by
  intro pins s σ H D I h
  refine wpAny_execs_cons (thn (h1 pins s σ H D I h) fun f s1 q=>?_)
  cases f with
  | next=>exact wpAny_execs_nil q
  | ret v=>exact q
  | brk=>exact q
  | cont=>exact q
theorem Inv.quiet {pins:List (Addr × Obj)}{σ:St}{H:Hp}{s:Shared} (I:Inv X pins σ H s):interactive X.env=false:=by simp [interactive,I.ok.kind]
noncomputable def tDrop (te:TE):TS:=fun D σ H=>te σ H fun _ H1=>D.nx σ H1
theorem LO (he:PE X e te) (hs:swapsWith e none pos.line X.env=pure false:=by rfl):PS X (.Expr e pos) (tDrop te):=by
  intro pins s σ H D I h
  exact wpAny_Expr_any (thn (he pins s σ H _ I h) fun v s1 ⟨x,H1,I1,r1,q1⟩=>⟨σ,H1,I1,q1⟩) I.quiet hs
noncomputable def tRet (te:TE):TS:=fun D σ H=>te σ H D.rt
theorem Nj (he:PE X e te):PS X (.Return (some e) pos) (tRet te):=by
  intro pins s σ H D I h
  exact wpAny_Return_some (thn (he pins s σ H _ I h) fun v s1 ⟨x,H1,I1,r1,q1⟩=>⟨x,σ,H1,I1,r1,q1⟩)
noncomputable def tIfS (c:TT) (t u:TS):TS:=fun D σ H=>c σ H fun b H1=>if b=true then t D σ H1 else u D σ H1
theorem Os {c:Expr}{a b:List Stmt}{tc:TT} (hc:PT X c tc) (ha:PSs X a t) (hb:PSs X b u):PS X (.If c a b pos) (tIfS tc t u):=by
  intro pins s σ H D I h
  refine wpAny_If (thn (hc pins s σ H _ I h) fun d s1 ⟨H1,I1,q1⟩=>?_)
  cases d with
  | true=>exact ha pins s1 σ H1 D I1 q1
  | false=>exact hb pins s1 σ H1 D I1 q1
end
noncomputable abbrev TG:=V->St->Hp->(St->Hp->Prop)->Prop
noncomputable abbrev TGs:=List V->St->Hp->(St->Hp->Prop)->Prop
noncomputable def PG (X:Cx) (target:Expr) (t:TG):Prop :=
  ∀ (pins:List (Addr × Obj)) (s:Shared) (σ:St) (H:Hp) (v:V) (u:Value) (Q:St->Hp->Prop),Inv X pins σ H s->RelV v u->t v σ H Q ->
    wpAny (model X.prog X.w) X.A (assign target X.env u) (fun _ s'=>∃ σ' H',Inv X pins σ' H' s' /\ Q σ' H') X.xe s
noncomputable def PGs (X:Cx) (ts:List Expr) (t:TGs):Prop :=
  ∀ (pins:List (Addr × Obj)) (s:Shared) (σ:St) (H:Hp) (vs:List V) (us:List Value) (Q:St->Hp->Prop),Inv X pins σ H s->Vals vs us->t vs σ H Q ->
    wpAny (model X.prog X.w) X.A (assignInOrder ((assignEach ts X.env).map (·.2)) us) (fun _ s'=>∃ σ' H',Inv X pins σ' H' s' /\ Q σ' H') X.xe s
noncomputable abbrev TSet:=V->V->V->Hp->(Hp->Prop)->Prop
noncomputable def PSet (X:Cx) (t:TSet):Prop :=
  ∀ (pins:List (Addr × Obj)) (s:Shared) (σ:St) (H:Hp) (o i v:V) (ov iv u:Value) (Q:Hp->Prop),Inv X pins σ H s->RelV o ov->RelV i iv->RelV v u->t o i v H Q ->
    wpAny (model X.prog X.w) X.A (setItem ov iv u) (fun _ s'=>∃ H',Inv X pins σ H' s' /\ Q H') X.xe s
section
variable {X : Cx} {pos : Pos}
noncomputable def gName (i:Nat):TG:=fun v σ H Q=>Q (σ.set i (some v)) H
theorem BO {i:Nat}{x:Str} (hN:X.N.Nodup) (hi:X.N[i]?=some x) (hx:Loc X.env.scope x) (hf:X.fn x=true \/ X.env.scope.names.lookup x=some .local:=by first | exact .inl rfl | exact .inr rfl | assumption):PG X (.Name x pos) (gName i):=by
  intro pins s σ H v u Q I r h
  exact wpAny_assign_Name (oG I hN hi hx r (fun s' I'=>⟨_,H,I',h⟩) hf)
noncomputable def gNil:TGs:=fun vs σ H Q=>vs=[] /\ Q σ H
noncomputable def gCons (t:TG) (u:TGs):TGs:=fun vs σ H Q=>∃ v r,vs=v :: r /\ t v σ H fun σ' H'=>u r σ' H' Q
theorem Fv:PGs X [] gNil:=by
  intro pins s σ H vs us Q I r h
  obtain ⟨e,h⟩:=h
  subst e
  cases r
  exact assignInOrder_nil ⟨σ,H,I,h⟩
theorem Az {e:Expr}{es:List Expr}{t:TG}{u:TGs} (h1:PG X e t) (h2:PGs X es u)
    (hs:(assignEach (e :: es) X.env).map (·.2)=assign e X.env :: (assignEach es X.env).map (·.2):=by rfl):PGs X (e :: es) (gCons t u):=by
  intro pins s σ H vs us Q I r h
  obtain ⟨v,vr,e1,h⟩:=h
  subst e1
  cases r with
  | cons r rr =>
    rw [hs]
    refine assignInOrder_cons (thn (h1 pins s σ H _ _ _ I r h) fun _ s1 ⟨σ1,H1,I1,q1⟩=>?_)
    exact h2 pins s1 σ1 H1 _ _ Q I1 rr q1
noncomputable def gTup (K:PySem.W.Frag) (n:Nat) (t:TGs):TG:=fun v σ H Q=>∃ a xs,v=.ref a /\ SqT K H a xs /\ xs.length=n /\ t xs σ H Q
theorem G7 {es:List Expr}{k:Nat}{t:TGs}{n:Nat} (hc:X.calm=true) (h:PGs X es t)
    (hn:(assignEach es X.env).length=n:=by rfl) (hst:(assignEach es X.env).findIdx? (·.1)=none:=by rfl):PG X (.Tuple es k pos) (gTup X.K n t):=by
  intro pins s σ H v u Q I r hw
  obtain ⟨a,xs,e1,hq,hl,hw⟩:=hw
  subst e1
  cases r
  obtain ⟨its,rv,ht,hz⟩:=I.tuple hq
  refine assign_Tuple_tuple (I.ok.hd hc) ht (by simp [hn,<-hl,rv.length]) hst fun h' hx=>?_
  have I1:Inv X pins σ H { s with heap:=h' }:=I.kept (t':=s.toks) fun b o e=>hx b o (Nat.ne_of_lt (Heap.lt_size e)) e
  exact h pins _ σ H xs _ Q I1 (by simpa using rv) hw
noncomputable def gSub (to ti:TE) (t:TSet):TG:=fun v σ H Q=>to σ H fun o H1=>ti σ H1 fun i H2=>t o i v H2 fun H3=>Q σ H3
theorem Nk {o i:Expr}{to ti:TE}{t:TSet} (ho:PE X o to) (hi:PE X i ti) (hs:PSet X t)
    (ha:∀ v,assign (.Subscript o i pos) X.env v=(do
      let ov <-holding [v] (eval o X.env)
      let iv <-holding [v,ov] (eval i X.env)
      standAt pos
      holding [v,ov,iv] (setItem ov iv v)
      release [v,ov,iv] []):=by intro _;rfl):PG X (.Subscript o i pos) (gSub to ti t):=by
  intro pins s σ H v u Q I r h
  rw [ha]
  refine wpAny_bind (wpAny_holding (thn (ho pins s σ H _ I h) fun ov s1 ⟨x,H1,I1,r1,q1⟩=>?_))
  refine wpAny_bind (wpAny_holding (thn (hi pins s1 σ H1 _ I1 q1) fun iv s2 ⟨y,H2,I2,r2,q2⟩=>?_))
  refine wpAny_bind (wpAny_standAt (wpAny_bind (wpAny_holding (thn (hs pins s2 σ H2 x y v ov iv u _ I2 r1 r2 r q2) fun _ s3 ⟨H3,I3,q3⟩=>?_))))
  exact wpAny_release ⟨σ,H3,I3,q3⟩
noncomputable def tAsg (te:TE) (g:TG):TS:=fun D σ H=>te σ H fun x H1=>g x σ H1 D.nx
theorem G8 {tg e:Expr}{te:TE}{g:TG} (he:PE X e te) (hg:PG X tg g) (hs:swapsWithSole [tg] e pos.line X.env=pure false:=by rfl) (hw:swappedStores [tg] e X.env=pure none:=by rfl)
    (h1:(assignEach [tg] X.env).map (·.2)=[assign tg X.env]:=by rfl):PS X (.Assign [tg] e pos) (tAsg te g):=by
  intro pins s σ H D I h
  refine wpAny_Assign_stores (thn (he pins s σ H _ I h) fun v s1 ⟨x,H1,I1,r1,q1⟩=>?_) hs hw
  rw [h1]
  exact thn (hg pins s1 σ H1 x v _ I1 r1 q1) fun _ s2 q=>q
theorem Nl {i:Nat}{x:Str}{e:Expr}{te:TE}{pos':Pos} (hN:X.N.Nodup) (hi:X.N[i]?=some x) (hx:Loc X.env.scope x) (he:PE X e te) (hs:swapsWith e (some (.Name x pos')) pos.line X.env=pure false:=by rfl) (hf:X.fn x=true \/ X.env.scope.names.lookup x=some .local:=by first | exact .inl rfl | exact .inr rfl | assumption) :
    PS X (.Assign [.Name x pos'] e pos) (tAsg te (gName i)):=by
  intro pins s σ H D I h
  refine wpAny_Assign_Name (thn (he pins s σ H _ I h) fun v s1 ⟨y,H1,I1,r1,q1⟩=>?_) hs
  exact oG I1 hN hi hx r1 (fun s2 I2=>⟨_,H1,I2,q1⟩) hf
noncomputable def tPar (i j:Nat) (ta:TA):TS:=fun D σ H=>ta σ H fun vs H1=>∃ v w,vs=[v,w] /\ D.nx ((σ.set i (some v)).set j (some w)) H1
theorem Nm {i j:Nat}{x y:Str}{a b:Expr}{ta:TA}{px py pt:Pos}{kt k2 pt2} (hc:X.calm=true) (hN:X.N.Nodup) (hi:X.N[i]?=some x) (hj:X.N[j]?=some y) (hij:i ≠ j)
    (hx:X.env.scope.names.lookup x=some .local) (hy:X.env.scope.names.lookup y=some .local) (ha:PA X [a,b] ta)
    (hw:swappedStores [.Tuple [.Name x px,.Name y py] kt pt] (.Tuple [a,b] k2 pt2) X.env=pure (some [x,y]))
    (hs:swapsWithSole [.Tuple [.Name x px,.Name y py] kt pt] (.Tuple [a,b] k2 pt2) pos.line X.env=pure false:=by rfl) :
    PS X (.Assign [.Tuple [.Name x px,.Name y py] kt pt] (.Tuple [a,b] k2 pt2) pos) (tPar i j ta):=by
  intro pins s σ H D I h
  rw [exec_Assign_arm]
  refine wpAny_bind (wpAny_standAt ?_)
  rw [hs]
  refine wpAny_bind (wpAny_pure ?_)
  rw [if_neg (by decide)]
  refine wpAny_bind (Tuple_ (thn (ha _ pins s σ H _ I h) fun us s1 ⟨vs,H1,I1,r1,q1⟩=>?_))
  obtain ⟨v,w,e1,q1⟩:=q1
  subst e1
  obtain ⟨u1,u2,rfl,rv,rw'⟩:∃ u1 u2,us=[u1,u2] /\ RelV v u1 /\ RelV w u2:=by
    cases r1 with
    | cons p q =>
      cases q with
      | cons p' q' =>
        cases q'
        exact ⟨_,_,rfl,p,p'⟩
  refine wpAny_newObj_type ?_ (by show 2 <= sizeLine;decide)
  have I2:Inv X pins σ H1 { s1 with heap:=s1.heap.push { cls:=.type "tuple",data:=.seq [u1,u2].toArray } }:=I1.kept (t':=s1.toks) fun b o e=>Heap.get?_push_of_some _ e
  rw [hw]
  refine wpAny_bind (wpAny_pure ?_)
  show wpAny (model X.prog X.w) X.A (do rule "assign.swapped-stores";let items <-unpackItems (.ref s1.heap.objs.size) 2 none;assignInOrder [fun v=>bindName X.env y v,fun v=>bindName X.env x v] items.reverse;pure Flow.next) _ _ _
  refine wpAny_bind (wpAny_rule (wpAny_bind (unpackItems_tuple (items:=#[u1,u2]) (I.ok.hd hc) (IsTup.new s1.heap _) fun h' hx'=>?_)))
  have I3:=I2.kept (h':=h') (t':=s1.toks) fun b o e=>hx' b o (Nat.ne_of_lt (Heap.lt_size e)) e
  show wpAny _ _ (assignInOrder [fun v=>bindName X.env y v,fun v=>bindName X.env x v] [u2,u1] >>= fun _=>pure Flow.next) _ _ _
  refine wpAny_bind (assignInOrder_cons (wpAny_bindName (oG I3 hN hj (.inl hy) rw' (fun s2 I4=>?_) (.inr hy))))
  refine assignInOrder_cons (wpAny_bindName (oG I4 hN hi (.inl hx) rv (fun s3 I5=>assignInOrder_nil (wpAny_pure ?_)) (.inr hx)))
  rw [List.set_comm _ _ (Ne.symm hij)] at I5
  exact ⟨_,H1,I5,q1⟩
end
section
variable {X : Cx} {pos : Pos}
end
structure It where
  go:Nat->Hp->Prop
  yld:Nat->Hp->V->Hp->Prop
  stop:Nat->Hp->Prop
noncomputable def FpOk (X:Cx) (pins:List (Addr × Obj)) (H:Hp) (b:Addr):Prop :=
  H b=none /\ b ≠ X.env.locals /\ b ∉ X.fs /\ (b ∈ X.ex \/ X.s₀.heap.objs.size <= b) /\ (∀ x c,X.env.cells.lookup x=some c->c ≠ b) /\ ∀ p ∈ X.pn ++ pins,p.1 ≠ b
theorem Inv.fpOk {X:Cx}{pins:List (Addr × Obj)}{σ:St}{H H':Hp}{s:Shared}{b:Addr} (I:Inv X pins σ H s) (hb:s.heap.objs.size <= b) (hn:H' b=none):FpOk X pins H' b:=by
  refine ⟨hn,Nat.ne_of_gt (Nat.lt_of_lt_of_le I.lt hb),I.nofs hb,.inr (Nat.le_trans I.sz hb),fun x c e z=>?_,fun p hp z=>?_⟩
  . obtain ⟨v,q⟩:=I.cell x c e
    exact absurd (Nat.lt_of_lt_of_le q.lt (by rw [z];exact hb)) (Nat.lt_irrefl _)
  . exact absurd (Nat.lt_of_lt_of_le (Heap.lt_size (I.pin p hp).1) (by rw [z];exact hb)) (Nat.lt_irrefl _)
structure Turn (P:Program) (w:World) (K:PySem.W.Frag) (tg:Expr) (J:It) (fp:List Addr) (it:Addr) (tn:Nat->Heap->Prop):Prop where
  mem:it ∈ fp
  obj:∀ i h,tn i h->∀ b ∈ fp,∃ o,h.get? b=some o /\ ∀ v,o.data ≠ .cell v
  keep:∀ i h h',tn i h->(∀ b ∈ fp,∀ o,h.get? b=some o->h'.get? b=some o)->tn i h'
  item:∀ (X:Cx),X.prog=P->X.w=w->X.K=K->X.calm=true->∀ (i:Nat) (pins:List (Addr × Obj)) (s:Shared) (σ:St) (H:Hp) (E:Value->Shared->Prop),Inv X pins σ H s->(∀ b ∈ fp,FpOk X pins H b)->tn i s.heap->J.go i H ->
    wpAny (model P w) X.A (pyNext (.ref it)) (fun r s1=>∃ u,r=some u /\
      wpAny (model P w) X.A (letOwnedTupleGo tg (.ref it) u) (fun _ s2=>∃ x H',Inv X pins σ H' s2 /\ RelV x u /\ J.yld i H x H' /\ tn (i + 1) s2.heap /\ ∀ b ∈ fp,H' b=none) E s1) E s
  done:∀ (X:Cx),X.prog=P->X.w=w->X.K=K->X.calm=true->∀ (i:Nat) (pins:List (Addr × Obj)) (s:Shared) (σ:St) (H:Hp) (E:Value->Shared->Prop),Inv X pins σ H s->(∀ b ∈ fp,FpOk X pins H b)->tn i s.heap->J.stop i H ->
    wpAny (model P w) X.A (pyNext (.ref it)) (fun r s1=>r=none /\ Inv X pins σ H s1) E s
  self:∀ (A:Around) (i:Nat) (s:Shared) (Q:Value->Shared->Prop) (E:Value->Shared->Prop),tn i s.heap->Q (.ref it) s->wpAny (model P w) A (pyIter (.ref it)) Q E s
noncomputable abbrev TI:=St->Hp->(It->Hp->Prop)->Prop
noncomputable def PIE (X:Cx) (pins:List (Addr × Obj)) (σ:St) (tg:Expr) (R:It->Hp->Prop) (itv:Value) (s2:Shared):Prop :=
  ∃ (it:Addr) (fp:List Addr) (tn:Nat->Heap->Prop) (J:It) (H':Hp),itv=.ref it /\ Inv X pins σ H' s2 /\ Turn X.prog X.w X.K tg J fp it tn /\ tn 0 s2.heap /\ (∀ b ∈ fp,FpOk X pins H' b) /\ R J H'
noncomputable def PI (X:Cx) (tg iter:Expr) (wi:TI):Prop :=
  ∀ (pins:List (Addr × Obj)) (s:Shared) (σ:St) (H:Hp) (R:It->Hp->Prop),Inv X pins σ H s->wi σ H R ->
    wpAny (model X.prog X.w) X.A (eval iter X.env) (fun v s1=>wpAny (model X.prog X.w) X.A (pyIter v) (PIE X pins σ tg R) X.xe s1) X.xe s
theorem G9 {M:Model}{A:Around}{E:Value->Shared->Prop}{s:Shared}{tg:Expr}{it:Addr}{u:Value}{o:Obj}{n:String}{vs:Array Value}{Q:Unit->Shared->Prop} (ho:s.heap.get? it=some o) (hc:o.cls=.type n) (hd:o.data=.fields vs)
    (hn:["enumerate", "zip", "dict_itemiterator", "dict_reverseitemiterator", "odict_iterator", "itertools.zip_longest", "itertools.pairwise"].contains n=false) (hQ:Q () s):wpAny M A (letOwnedTupleGo tg (.ref it) u) Q E s:=by
  unfold letOwnedTupleGo
  cases tg <;> first
    | exact wpAny_pure hQ
    | (cases u <;> first
        | exact wpAny_pure hQ
        | (refine wpAny_bind (wpAny_load ho ?_)
           rw [hc,hd]
           show wpAny M A (if (["enumerate", "zip", "dict_itemiterator", "dict_reverseitemiterator", "odict_iterator", "itertools.zip_longest", "itertools.pairwise"].contains n && vs[0]? == some (rawInt _))=true then _ else _) Q E s
           rw [if_neg (by intro h;rw [hn,Bool.false_and] at h;cases h)]
           exact wpAny_pure hQ))
noncomputable def Itl (K:PySem.W.Frag) (a:Addr):It :=
  ⟨fun i H=>∃ xs x,SqL K H a xs /\ xs[i]?=some x,fun i H x H'=>H'=H /\ ∀ xs,SqL K H a xs->xs[i]?=some x,fun i H=>∃ xs,SqL K H a xs /\ xs.length <= i⟩
noncomputable def Itt (K:PySem.W.Frag) (a:Addr):It :=
  ⟨fun i H=>∃ xs x,SqT K H a xs /\ xs[i]?=some x,fun i H x H'=>H'=H /\ ∀ xs,SqT K H a xs->xs[i]?=some x,fun i H=>∃ xs,SqT K H a xs /\ xs.length <= i⟩
noncomputable def Itr (lo:Int) (n:Nat):It:=⟨fun i _=>i < n,fun i H x H'=>H'=H /\ x=.int (lo + i),fun i _=>n <= i⟩
theorem Gi {P:Program}{w:World}{K:PySem.W.Frag}{tg:Expr} (a it:Addr):Turn P w K tg (Itl K a) [it] it (fun i h=>h.IsListIter it a i) where
  mem:=by simp
  obj:=fun i h st b hb=>by
    have e:b=it:=by simpa using hb
    subst e
    obtain ⟨o,e,c,d⟩:=st
    exact ⟨o,e,fun v z=>by rw [d] at z;cases z⟩
  keep:=fun i h h' st k=>st.at fun o e=>k it (by simp) o e
  item:=by
    intro X hP hw hK hc i pins s σ H E I hf st hg
    subst hP hw hK
    obtain ⟨xs,x,hq,hx⟩:=hg
    obtain ⟨its,rv,p,hz⟩:=I.list hq
    obtain ⟨u,hu,ru⟩:=rv.get hx
    obtain ⟨f0,f1,f2,f3,f4,f5⟩:=hf it (by simp)
    refine wpAny_pyNext_list_item st p.isList (x:=u) (by simpa using hu) fun h' st' sb=>?_
    have I1:Inv X pins σ H { s with heap:=h' }:=I.turned (t':=s.toks) (fun b o hb e=>(sb.2 b hb).trans e) f0 f1 f3 f4 f5
    obtain ⟨o,e,c,d⟩:=id st'
    exact ⟨u,rfl,G9 (s:={ s with heap:=h' }) e c d (by decide) ⟨x,H,I1,ru,⟨rfl,fun ys hy=>by rw [I.list_inj hy hq];exact hx⟩,st',fun b hb=>(hf b hb).1⟩⟩
  done:=by
    intro X hP hw hK hc i pins s σ H E I hf st hg
    subst hP hw hK
    obtain ⟨xs,hq,hx⟩:=hg
    obtain ⟨its,rv,p,hz⟩:=I.list hq
    obtain ⟨f0,f1,f2,f3,f4,f5⟩:=hf it (by simp)
    have hl:=rv.length
    exact wpAny_pyNext_list_end (I.ok.hd hc) st p.isList (by simp;omega) fun h' eb=>⟨rfl,I.turned (t':=s.toks) (fun b o hb e=>eb b o hb e) f0 f1 f3 f4 f5⟩
  self:=fun _ _ _ _ _ st h=>wpAny_pyIter_listiter st h
theorem Dt {P:Program}{w:World}{K:PySem.W.Frag}{tg:Expr} (a it:Addr):Turn P w K tg (Itt K a) [it] it (fun i h=>h.IsTupleIter it a i) where
  mem:=by simp
  obj:=fun i h st b hb=>by
    have e:b=it:=by simpa using hb
    subst e
    obtain ⟨o,e,c,d⟩:=st
    exact ⟨o,e,fun v z=>by rw [d] at z;cases z⟩
  keep:=fun i h h' st k=>st.at fun o e=>k it (by simp) o e
  item:=by
    intro X hP hw hK hc i pins s σ H E I hf st hg
    subst hP hw hK
    obtain ⟨xs,x,hq,hx⟩:=hg
    obtain ⟨its,rv,p,hz⟩:=I.tuple hq
    obtain ⟨u,hu,ru⟩:=rv.get hx
    obtain ⟨f0,f1,f2,f3,f4,f5⟩:=hf it (by simp)
    refine wpAny_pyNext_tuple_item st (show s.heap.IsTuple a its.toArray from p) (x:=u) (by simpa using hu) fun h' st' sb=>?_
    have I1:Inv X pins σ H { s with heap:=h' }:=I.turned (t':=s.toks) (fun b o hb e=>(sb.2 b hb).trans e) f0 f1 f3 f4 f5
    obtain ⟨o,e,c,d⟩:=id st'
    exact ⟨u,rfl,G9 (s:={ s with heap:=h' }) e c d (by decide) ⟨x,H,I1,ru,⟨rfl,fun ys hy=>by rw [I.tuple_inj hy hq];exact hx⟩,st',fun b hb=>(hf b hb).1⟩⟩
  done:=by
    intro X hP hw hK hc i pins s σ H E I hf st hg
    subst hP hw hK
    obtain ⟨xs,hq,hx⟩:=hg
    obtain ⟨its,rv,p,hz⟩:=I.tuple hq
    obtain ⟨f0,f1,f2,f3,f4,f5⟩:=hf it (by simp)
    have hl:=rv.length
    exact wpAny_pyNext_tuple_end (I.ok.hd hc) st (show s.heap.IsTuple a its.toArray from p) (by simp;omega) fun h' eb=>⟨rfl,I.turned (t':=s.toks) (fun b o hb e=>eb b o hb e) f0 f1 f3 f4 f5⟩
  self:=fun _ _ _ _ _ st h=>wpAny_pyIter_tupleiter st h
theorem Du {P:Program}{w:World}{K:PySem.W.Frag}{tg:Expr} (it:Addr) (lo:Int) (n:Nat):Turn P w K tg (Itr lo n) [it] it (fun i h=>IsRangeIter h it (lo + (i:Nat) * 1) ((n:Int) - (i:Nat)) 1) where
  mem:=by simp
  obj:=fun i h st b hb=>by
    have e:b=it:=by simpa using hb
    subst e
    exact ⟨_,st,fun v z=>by
      have z':Data.fields _=Data.cell v:=z
      cases z'⟩
  keep:=fun i h h' st k=>k it (by simp) _ st
  item:=by
    intro X hP hw hK hc i pins s σ H E I hf st hg
    subst hP hw hK
    obtain ⟨f0,f1,f2,f3,f4,f5⟩:=hf it (by simp)
    have W:=Walks.range (prog:=X.prog) (w:=X.w) (I.ok.hd hc) it lo 1 n
    refine W.item i s _ _ hg st fun v h' tk hv st' kk=>?_
    obtain ⟨t,rfl⟩:=hv
    have I1:Inv X pins σ H { s with heap:=h',toks:=tk }:=I.turned (fun b o hb e=>kk b o (by simpa using hb) e) f0 f1 f3 f4 f5
    refine ⟨_,rfl,G9 (s:={ s with heap:=h',toks:=tk }) (n:="range_iterator") st' rfl rfl (by decide) ⟨.int (lo + i),H,I1,⟨t,?_⟩,⟨rfl,rfl⟩,st',fun b hb=>(hf b hb).1⟩⟩
    rw [Int.mul_one]
  done:=by
    intro X hP hw hK hc i pins s σ H E I hf st hg
    subst hP hw hK
    obtain ⟨f0,f1,f2,f3,f4,f5⟩:=hf it (by simp)
    exact wpAny_pyNext_range_end (I.ok.hd hc) st (by have:n <= i:=hg;omega) fun h' eb=>⟨rfl,I.turned (t':=s.toks) (fun b o hb e=>eb b o hb e) f0 f1 f3 f4 f5⟩
  self:=fun _ _ _ _ _ st h=>wpAny_pyIter_rangeiter st h
end L2
namespace L2
open PySem PySem.Spec PyProof.Rows
section
variable {X : Cx} {tg : Expr}
theorem Cy {pins:List (Addr × Obj)}{σ:St}{H:Hp}{s:Shared}{R:It->Hp->Prop}{E:Value->Shared->Prop}{lo hi:Int}{t u v:Tok}{tk:Nat} (I:Inv X pins σ H s) (h1:-(2 ^ 62) <= lo) (h2:lo < 2 ^ 62) (h3:-(2 ^ 62) <= hi) (h4:hi < 2 ^ 62)
    (q:R (Itr lo (hi - lo).toNat) H):wpAny (model X.prog X.w) X.A (pyIter (.ref s.heap.objs.size)) (PIE X pins σ tg R) E { s with heap:=s.heap.push { cls:=.type "range",data:=.fields #[.int lo t,.int hi u,.int 1 v] },toks:=tk }:=by
  refine wpAny_pyIter_range (IsRange.new ..) (small_one h1 h2 h3 h4) ?_
  have I1:Inv X pins σ H { s with heap:=s.heap.push { cls:=.type "range",data:=.fields #[.int lo t,.int hi u,.int 1 v] },toks:=tk }:=I.kept fun b o e=>Heap.get?_push_of_some _ e
  refine ⟨(s.heap.push { cls:=.type "range",data:=.fields #[.int lo t,.int hi u,.int 1 v] }).objs.size,[(s.heap.push { cls:=.type "range",data:=.fields #[.int lo t,.int hi u,.int 1 v] }).objs.size],_,_,H,rfl,
    I1.kept (t':=tk) fun b o e=>Heap.get?_push_of_some _ e,Du _ lo (hi - lo).toNat,?_,fun b hb=>?_,q⟩
  . have e1:lo + ((0:Nat):Int) * 1=lo:=by simp
    have e2:(((hi - lo).toNat:Nat):Int) - ((0:Nat):Int)=Builtin.Range.rangeSize lo hi 1:=by rw [rangeSize_one];split <;> omega
    show IsRangeIter _ _ (lo + ((0:Nat):Int) * 1) ((((hi - lo).toNat:Nat):Int) - ((0:Nat):Int)) 1
    rw [e1,e2]
    exact Heap.get?_push_size _ rfl
  . have e:b=(s.heap.push { cls:=.type "range",data:=.fields #[.int lo t,.int hi u,.int 1 v] }).objs.size:=by simpa using hb
    subst e
    exact I1.fpOk (Nat.le_refl _) (I1.hok.fresh (Nat.le_refl _))
noncomputable def iRng1 (ta:TA):TI:=fun σ H R=>ta σ H fun vs H1=>∃ j:Int,vs=[.int j] /\ -(2 ^ 62) <= j /\ j < 2 ^ 62 /\ R (Itr 0 j.toNat) H1
noncomputable def iRng2 (ta:TA):TI:=fun σ H R=>ta σ H fun vs H1=>∃ i j:Int,vs=[.int i,.int j] /\ (-(2 ^ 62) <= i /\ i < 2 ^ 62 /\ -(2 ^ 62) <= j /\ j < 2 ^ 62) /\ R (Itr i (j - i).toNat) H1
theorem Gj {a:Expr}{ta:TA}{p pos:Pos} (hg:Gl X "range") (hm:X.mg "range"=none) (ha:PA X [a] ta) (hs:starEach [a] X.env=[(false,eval a X.env)]:=by rfl):PI X tg (.Call (.Name "range" p) [a] [] pos) (iRng1 ta):=by
  intro pins s σ H R I h
  refine Call_ (lW I hg hm boot_range (PyProof.Rows.callWith_type1 (thn (ha pos pins s σ H _ I h) fun us s1 ⟨vs,H1,I1,r1,q1⟩=>?_) hs rfl))
  obtain ⟨j,e,q1,q2,q⟩:=q1
  subst e
  cases r1 with
  | cons r rr =>
    cases rr
    obtain ⟨t,rfl⟩:=r
    exact call_range_1 (Cy I1 (by omega) (by omega) q1 q2 (by simpa using q))
theorem Gk {a b:Expr}{ta:TA}{p pos:Pos} (hg:Gl X "range") (hm:X.mg "range"=none) (ha:PA X [a,b] ta) (hs:starEach [a,b] X.env=[(false,eval a X.env),(false,eval b X.env)]:=by rfl) (hs2:starEach [b] X.env=[(false,eval b X.env)]:=by rfl) :
    PI X tg (.Call (.Name "range" p) [a,b] [] pos) (iRng2 ta):=by
  intro pins s σ H R I h
  refine Call_ (lW I hg hm boot_range (PyProof.Rows.callWith_type1 (thn (ha pos pins s σ H _ I h) fun us s1 ⟨vs,H1,I1,r1,q1⟩=>?_) (by rw [hs,hs2]) (by rw [hs2];rfl)))
  obtain ⟨i,j,e,⟨q1,q2,q3,q4⟩,q⟩:=q1
  subst e
  cases r1 with
  | cons r rr =>
    cases rr with
    | cons r' rr =>
      cases rr
      obtain ⟨t,rfl⟩:=r
      obtain ⟨t',rfl⟩:=r'
      exact call_range_2 (Cy I1 q1 q2 q3 q4 q)
noncomputable def tFor (wi:TI) (g:TG) (tb:TS):TS:=fun D σ H=>wi σ H fun J H1=>∃ W:Nat->Nat->St->Hp->Prop,(∃ m,W 0 m σ H1) /\ ∀ i m σ H,W i m σ H ->
  (J.stop i H /\ D.nx σ H) \/ (J.go i H /\ ∃ N:St->Hp->Prop,(∀ σ' H',N σ' H'->∃ m',m' < m /\ W (i + 1) m' σ' H') /\ ∀ x H',J.yld i H x H'->g x σ H' fun σ2 H2=>tb { D with nx:=N,ct:=N,bk:=D.nx } σ2 H2)
noncomputable def pinsAt (fp:List Addr) (h:Heap):List (Addr × Obj):=fp.filterMap fun b=>(h.get? b).map fun o=>(b,o)
theorem lX {fp:List Addr}{h:Heap}{b:Addr}{o:Obj} (hb:b ∈ fp) (e:h.get? b=some o):(b,o) ∈ pinsAt fp h:=List.mem_filterMap.mpr ⟨b,hb,by rw [e];rfl⟩
theorem Gm {fp:List Addr}{h:Heap}{p:Addr × Obj} (hp:p ∈ pinsAt fp h):p.1 ∈ fp /\ h.get? p.1=some p.2:=by
  obtain ⟨b,hb,e⟩:=List.mem_filterMap.mp hp
  cases q:h.get? b with
  | none=>rw [q] at e;cases e
  | some o =>
    rw [q] at e
    have e':(b,o)=p:=Option.some.inj e
    subst e'
    exact ⟨hb,q⟩
theorem Inv.pinned {pins:List (Addr × Obj)}{σ:St}{H:Hp}{s:Shared}{fp:List Addr} (I:Inv X pins σ H s) (hf:∀ b ∈ fp,FpOk X pins H b) (ho:∀ b ∈ fp,∃ o,s.heap.get? b=some o /\ ∀ v,o.data ≠ .cell v):Inv X (pins ++ pinsAt fp s.heap) σ H s :=
  I.pins_of fun p hp=>(List.mem_append.mp hp).elim (fun z=>I.pin p (List.mem_append_right _ z)) fun z=>by
    obtain ⟨hb,e⟩:=Gm z
    obtain ⟨f0,f1,f2,_⟩:=hf p.1 hb
    obtain ⟨o,e',d⟩:=ho p.1 hb
    rw [e] at e';cases e'
    exact ⟨e,f0,f1,f2,d⟩
theorem Inv.unpinned {pins pl:List (Addr × Obj)}{σ:St}{H:Hp}{s:Shared} (I:Inv X (pins ++ pl) σ H s):Inv X pins σ H s:=I.pins_of fun p hp=>I.pin p (List.mem_append_right _ (List.mem_append_left _ hp))
theorem Nn {iter:Expr}{body:List Stmt}{wi:TI}{g:TG}{tb:TS}{pos:Pos} (hp:PassesOwn (model X.prog X.w) X.A X.env X.xe) (hc:X.calm=true) (hi:PI X tg iter wi) (hg:PG X tg g) (hb:PSs X body tb)
    (hs:∀ x,foldedSetIterable iter X.env x=pure x:=by intro _;rfl):PS X (.For tg iter body [] pos) (tFor wi g tb):=by
  intro pins s σ H D I h
  refine wpAny_For (thn (hi pins s σ H _ I h) fun v s1 h1=>thn h1 fun itv s2 h2=>?_) hs
  obtain ⟨it,fp,tn,J,H2,e,I2,T,st2,f2,W,⟨m0,w0⟩,turn⟩:=h2
  subst e
  -- what stays true of the iterator's objects through the loop
  have stat:∀ {H':Hp},(∀ b ∈ fp,H' b=none)->∀ b ∈ fp,FpOk X pins H' b:=fun hn b hb=>⟨hn b hb,(f2 b hb).2⟩
  refine codeAny_forLoop_any (fun n s'=>∃ i σ' H',Inv X pins σ' H' s' /\ tn i s'.heap /\ (∀ b ∈ fp,H' b=none) /\ W i n σ' H') ?_ m0 ⟨0,σ,H2,I2,st2,fun b hb=>(f2 b hb).1,w0⟩
  rintro n s3 ⟨i,σ3,H3,I3,st3,fr3,w3⟩
  rcases turn i n σ3 H3 w3 with ⟨stop,qn⟩ | ⟨go,N,hN,step⟩
  . refine wpAny_passesOwn hp (thn (T.done X rfl rfl rfl hc i pins s3 σ3 H3 X.xe I3 (stat fr3) st3 stop) fun r s4 ⟨hr,I4⟩=>?_)
    subst hr
    exact wpAny_execs_nil ⟨σ3,H3,I4,qn⟩
  . refine wpAny_passesOwn hp (thn (T.item X rfl rfl rfl hc i pins s3 σ3 H3 X.xe I3 (stat fr3) st3 go) fun r s4 ⟨u,hr,h4⟩=>?_)
    subst hr
    refine wpAny_passesOwn hp (thn h4 fun _ s5 ⟨x,H5,I5,r5,y5,st5,fr5⟩=>?_)
    have I5':=I5.pinned (stat fr5) (T.obj _ _ st5)
    refine wpAny_passesOwn hp (thn (hg _ s5 σ3 H5 x u _ I5' r5 (step x H5 y5)) fun _ s6 ⟨σ6,H6,I6,q6⟩=>?_)
    refine wpAny_passesOwn hp (thn (hb _ s6 σ6 H6 _ I6 q6) fun f s7 q7=>?_)
    have again:∀ {σ7:St}{H7:Hp},Inv X (pins ++ pinsAt fp s5.heap) σ7 H7 s7->N σ7 H7->∃ m,m < n /\ ∃ i σ' H',Inv X pins σ' H' s7 /\ tn i s7.heap /\ (∀ b ∈ fp,H' b=none) /\ W i m σ' H':=fun {σ7 H7} I7 n7=>by
      obtain ⟨m',hm,w7⟩:=hN σ7 H7 n7
      refine ⟨m',hm,i + 1,σ7,H7,I7.unpinned,T.keep _ _ _ st5 fun b hb o e=>(I7.pin (b,o) (List.mem_append_right _ (List.mem_append_right _ (lX hb e)))).1,fun b hb=>?_,w7⟩
      obtain ⟨o,e,d⟩:=T.obj _ _ st5 b hb
      exact (I7.pin (b,o) (List.mem_append_right _ (List.mem_append_right _ (lX hb e)))).2.1
    cases f with
    | next=>obtain ⟨σ7,H7,I7,n7⟩:=q7;exact again I7 n7
    | cont=>obtain ⟨σ7,H7,I7,n7⟩:=q7;exact again I7 n7
    | brk=>obtain ⟨σ7,H7,I7,q7⟩:=q7;exact ⟨σ7,H7,I7.unpinned,q7⟩
    | ret v=>obtain ⟨x7,σ7,H7,I7,r7,q7⟩:=q7;exact ⟨x7,σ7,H7,I7.unpinned,r7,q7⟩
end
end L2
namespace L2
open PySem PySem.Spec PyProof.Rows
noncomputable abbrev R2:=V->V->Hp->VK->Prop
noncomputable def OpR (X:Cx) (f:Value->Value->Sem Value) (r:R2):Prop :=
  ∀ (pins:List (Addr × Obj)) (s:Shared) (σ:St) (H:Hp) (x y:V) (v u:Value) (Q:VK),Inv X pins σ H s->RelV x v->RelV y u->r x y H Q ->
    wpAny (model X.prog X.w) X.A (f v u) (EP X pins σ Q) X.xe s
noncomputable def UnR (X:Cx) (f:Value->Sem Value) (r:V->Hp->VK->Prop):Prop :=
  ∀ (pins:List (Addr × Obj)) (s:Shared) (σ:St) (H:Hp) (x:V) (v:Value) (Q:VK),Inv X pins σ H s->RelV x v->r x H Q ->
    wpAny (model X.prog X.w) X.A (f v) (EP X pins σ Q) X.xe s
noncomputable def CallR (X:Cx) (f:Value) (r:List V->Hp->VK->Prop):Prop :=
  ∀ (pins:List (Addr × Obj)) (s:Shared) (σ:St) (H:Hp) (xs:List V) (us:List Value) (Q:VK),Inv X pins σ H s->Vals xs us->r xs H Q ->
    wpAny (model X.prog X.w) X.A (call f us) (EP X pins σ Q) X.xe s
noncomputable def tOp (r:R2) (ta tb:TE):TE:=fun σ H Q=>ta σ H fun x H1=>tb σ H1 fun y H2=>r x y H2 Q
noncomputable def tUn (r:V->Hp->VK->Prop) (ta:TE):TE:=fun σ H Q=>ta σ H fun x H1=>r x H1 Q
noncomputable def rI (C:Int->Int->Prop) (g:Int->Int->V):R2:=fun x y H Q=>∃ i j,x=.int i /\ y=.int j /\ C i j /\ Q (g i j) H
noncomputable def rI0 (g:Int->Int->V):R2:=fun x y H Q=>∃ i j,x=.int i /\ y=.int j /\ Q (g i j) H
noncomputable def rU (g:Int->V):V->Hp->VK->Prop:=fun x H Q=>∃ i,x=.int i /\ Q (g i) H
section
variable {X : Cx} {a b c : Expr} {ta tb tc : TE} {pos : Pos}
theorem binT (ha:PE X a ta) (hb:PE X b tb) {pins:List (Addr × Obj)}{s:Shared}{σ:St}{H:Hp}{R:V->V->Hp->Prop} (I:Inv X pins σ H s)
    (h:ta σ H fun x H1=>tb σ H1 fun y H2=>R x y H2) {Q:Value->Shared->Prop}{f:Value->Value->Sem Value}
    (hf:∀ v u s2 x y H2,Inv X pins σ H2 s2->RelV x v->RelV y u->R x y H2->wpAny (model X.prog X.w) X.A (f v u) Q X.xe s2) :
    wpAny (model X.prog X.w) X.A (eval a X.env) (fun v s₁=>wpAny (model X.prog X.w) X.A (eval b X.env) (fun u s₂=>wpAny (model X.prog X.w) X.A (f v u) Q X.xe s₂) X.xe s₁) X.xe s:=by
  refine thn (ha pins s σ H _ I h) fun v s1 ⟨x,H1,I1,r1,q1⟩=>?_
  refine thn (hb pins s1 σ H1 _ I1 q1) fun u s2 ⟨y,H2,I2,r2,q2⟩=>?_
  exact hf v u s2 x y H2 I2 r1 r2 q2
theorem Ot {op:Operator}{r:R2} (ho:OpR X (binaryOp op) r) (ha:PE X a ta) (hb:PE X b tb):PE X (.BinOp a op b pos) (tOp r ta tb):=by
  intro pins s σ H Q I h
  exact wpAny_BinOp (binT ha hb I h fun v u s2 x y H2 I2 rx ry q=>ho pins s2 σ H2 x y v u Q I2 rx ry q)
theorem MU {op:UnaryOp}{r:V->Hp->VK->Prop} (ho:UnR X (unaryOp op) r) (ha:PE X a ta):PE X (.UnaryOp op a pos) (tUn r ta):=by
  intro pins s σ H Q I h
  exact UnaryOp_ (thn (ha pins s σ H _ I h) fun v s1 ⟨x,H1,I1,r1,q1⟩=>ho pins s1 σ H1 x v Q I1 r1 q1)
theorem opI {f:Value->Value->Sem Value}{C:Int->Int->Prop}{g:Int->Int->Int}
    (rule:∀ (i j:Int) (t u:Tok) (s:Shared) (Q:Value->Shared->Prop) (E:Value->Shared->Prop),C i j->Q (.int (g i j) s.toks) { s with toks:=s.toks + 1 }->wpAny (model X.prog X.w) X.A (f (.int i t) (.int j u)) Q E s) :
    OpR X f (rI C fun i j=>.int (g i j)):=by
  intro pins s σ H x y v u Q I rx ry h
  obtain ⟨i,j,rfl,rfl,hc,q⟩:=h
  obtain ⟨t,rfl⟩:=rx
  obtain ⟨t',rfl⟩:=ry
  exact rule i j t t' s _ _ hc ⟨.int (g i j),H,I.tok _,⟨_,rfl⟩,q⟩
theorem opI0 {f:Value->Value->Sem Value}{g:Int->Int->Int}
    (rule:∀ (i j:Int) (t u:Tok) (s:Shared) (Q:Value->Shared->Prop) (E:Value->Shared->Prop),Q (.int (g i j) s.toks) { s with toks:=s.toks + 1 }->wpAny (model X.prog X.w) X.A (f (.int i t) (.int j u)) Q E s) :
    OpR X f (rI0 fun i j=>.int (g i j)):=by
  intro pins s σ H x y v u Q I rx ry h
  obtain ⟨i,j,rfl,rfl,q⟩:=h
  obtain ⟨t,rfl⟩:=rx
  obtain ⟨t',rfl⟩:=ry
  exact rule i j t t' s _ _ ⟨.int (g i j),H,I.tok _,⟨_,rfl⟩,q⟩
theorem opB0 {f:Value->Value->Sem Value}{g:Int->Int->Bool}
    (rule:∀ (i j:Int) (t u:Tok) (s:Shared) (Q:Value->Shared->Prop) (E:Value->Shared->Prop),Q (.bool (g i j)) s->wpAny (model X.prog X.w) X.A (f (.int i t) (.int j u)) Q E s) :
    OpR X f (rI0 fun i j=>.bl (g i j)):=by
  intro pins s σ H x y v u Q I rx ry h
  obtain ⟨i,j,rfl,rfl,q⟩:=h
  obtain ⟨t,rfl⟩:=rx
  obtain ⟨t',rfl⟩:=ry
  exact rule i j t t' s _ _ ⟨.bl (g i j),H,I,rfl,q⟩
noncomputable def CDiv (i j:Int):Prop:=0 < j /\ j < 1073741824
noncomputable def CPow (i j:Int):Prop:=0 <= j /\ j <= 1000000 /\ i.natAbs < 2 ^ 64
noncomputable def CMul (i j:Int):Prop:=(-(2 ^ 64) < i /\ i < 2 ^ 64) \/ (-(2 ^ 64) < j /\ j < 2 ^ 64)
theorem CMul.ok {i j:Int} (h:CMul i j):IntMulOk i j:=by
  rcases h with ⟨h1,h2⟩ | ⟨h1,h2⟩
  . exact .of_left (intBits_le_64 h1 h2)
  . exact .of_right (intBits_le_64 h1 h2)
theorem No:OpR X (binaryOp .Add) (rI0 fun i j=>.int (i + j)):=opI0 fun _ _ _ _ _ _ _ q=>add_int q
theorem om:OpR X (binaryOp .Sub) (rI0 fun i j=>.int (i - j)):=opI0 fun _ _ _ _ _ _ _ q=>sub_int q
theorem Np:OpR X (binaryOp .Mult) (rI CMul fun i j=>.int (i * j)):=opI fun _ _ _ _ _ _ _ hc q=>mul_int q hc.ok
theorem LP:OpR X (binaryOp .FloorDiv) (rI CDiv fun i j=>.int (i / j)):=opI fun i j _ _ _ _ _ hc q=>by
  have h1:(0:Int) < j:=hc.1
  have h2:j < 1073741824:=hc.2
  exact floordiv_int (by omega) (by rw [Int.fdiv_eq_ediv_of_nonneg i (by omega)];exact q) (.inl (PyProof.noPylong_small (by omega)))
theorem AA:OpR X (binaryOp .Mod) (rI (fun _ j=>0 < j) fun i j=>.int (i % j)):=opI fun i j _ _ _ _ _ hc q=>by
  have h1:(0:Int) < j:=hc
  exact mod_int' (by omega) (by rw [Int.fmod_eq_emod_of_nonneg i (by omega)];exact q)
theorem Dv:OpR X (binaryOp .Pow) (rI CPow fun i j=>.int (i ^ j.toNat)):=opI fun _ _ _ _ _ _ _ hc q=>pow_int_small hc.1 hc.2.1 hc.2.2 q
theorem unI {f:Value->Sem Value}{g:Int->Int}
    (rule:∀ (i:Int) (t:Tok) (s:Shared) (Q:Value->Shared->Prop) (E:Value->Shared->Prop),Q (.int (g i) s.toks) { s with toks:=s.toks + 1 }->wpAny (model X.prog X.w) X.A (f (.int i t)) Q E s) :
    UnR X f (rU fun i=>.int (g i)):=by
  intro pins s σ H x v Q I rx h
  obtain ⟨i,rfl,q⟩:=h
  obtain ⟨t,rfl⟩:=rx
  exact rule i t s _ _ ⟨.int (g i),H,I.tok _,⟨_,rfl⟩,q⟩
theorem Ja:UnR X (unaryOp .USub) (rU fun i=>.int (-i)):=unI fun _ _ _ _ _ q=>neg_int q
end
noncomputable def scal:V->V->Bool
  | .non,.non=>true | .non,.int _=>true | .int _,.non=>true | .non,.bl _=>true | .bl _,.non=>true | .non,.str _=>true | .str _,.non=>true
  | .int _,.int _=>true | .bl _,.bl _=>true | .str _,.str _=>true | .byt _,.byt _=>true
  | .int _,.str _=>true | .str _,.int _=>true | .bl _,.str _=>true | .str _,.bl _=>true
  | _,_=>false
noncomputable def rEq:R2:=fun x y H Q=>scal x y=true /\ Q (.bl (decide (x=y))) H
noncomputable def rNe:R2:=fun x y H Q=>scal x y=true /\ Q (.bl (!decide (x=y))) H
theorem Fw {i j:Int}:decide (V.int i=V.int j)=(i == j):=by
  rw [Bool.eq_iff_iff]
  simp
theorem Jb {i j:Bool}:decide (V.bl i=V.bl j)=(i == j):=by
  rw [Bool.eq_iff_iff]
  simp
theorem Fx {i j:Str}:decide (V.str i=V.str j)=(i == j):=by
  rw [Bool.eq_iff_iff]
  simp
theorem Fy {i j:Array UInt8}:decide (V.byt i=V.byt j)=(i.toList == j.toList):=by
  rw [Bool.eq_iff_iff]
  cases i
  cases j
  simp
section
variable {X : Cx} {a b c : Expr} {ta tb tc : TE} {pos : Pos}
theorem gi {pins:List (Addr × Obj)}{σ:St}{H:Hp}{s:Shared}{Q:VK}{k k':Bool} (I:Inv X pins σ H s) (q:Q (.bl k) H) (e:k=k'):EP X pins σ Q (.bool k') s:=by
  subst e
  exact ⟨.bl k,H,I,rfl,q⟩
theorem Ou:OpR X (compareOp .Eq) rEq:=by
  intro pins s σ H x y v u Q I rx ry h
  obtain ⟨hs,q⟩:=h
  cases x with
  | non =>
    cases rx
    cases y with
    | non=>cases ry;exact PySem.EqNone.eq_none_none (gi I q (by simp))
    | bl j=>cases ry;exact PySem.EqNone.eq_none_bool (gi I q (by simp))
    | int j=>obtain ⟨t',rfl⟩:=ry;exact PySem.EqNone.eq_none_int (gi I q (by simp))
    | str j=>obtain ⟨t',rfl⟩:=ry;exact PySem.EqNone.eq_none_str (gi I q (by simp))
    | _=>exact absurd (show false=true from hs) Bool.false_ne_true
  | bl i =>
    cases rx
    cases y with
    | non=>cases ry;exact PySem.EqNone.eq_bool_none (gi I q (by simp))
    | bl j=>cases ry;exact eq_bool (gi I q Jb)
    | str j=>obtain ⟨t',rfl⟩:=ry;exact PySem.EqMixed.eq_bool_str (gi I q (by simp))
    | _=>exact absurd (show false=true from hs) Bool.false_ne_true
  | int i =>
    obtain ⟨t,rfl⟩:=rx
    cases y with
    | non=>cases ry;exact PySem.EqNone.eq_int_none (gi I q (by simp))
    | int j=>obtain ⟨t',rfl⟩:=ry;exact eq_int (gi I q Fw)
    | str j=>obtain ⟨t',rfl⟩:=ry;exact PySem.EqMixed.eq_int_str (gi I q (by simp))
    | _=>exact absurd (show false=true from hs) Bool.false_ne_true
  | str i =>
    obtain ⟨t,rfl⟩:=rx
    cases y with
    | non=>cases ry;exact PySem.EqNone.eq_str_none (gi I q (by simp))
    | bl j=>cases ry;exact PySem.EqMixed.eq_str_bool (gi I q (by simp))
    | int j=>obtain ⟨t',rfl⟩:=ry;exact PySem.EqMixed.eq_str_int (gi I q (by simp))
    | str j=>obtain ⟨t',rfl⟩:=ry;exact eq_str (gi I q Fx)
    | _=>exact absurd (show false=true from hs) Bool.false_ne_true
  | byt i =>
    obtain ⟨t,rfl⟩:=rx
    cases y with
    | byt j=>obtain ⟨t',rfl⟩:=ry;exact PySem.W.eq_bytes (gi I q Fy)
    | _=>exact absurd (show false=true from hs) Bool.false_ne_true
  | _=>cases y <;> exact absurd (show false=true from hs) Bool.false_ne_true
theorem Ov:OpR X (compareOp .NotEq) rNe:=by
  intro pins s σ H x y v u Q I rx ry h
  obtain ⟨hs,q⟩:=h
  cases x with
  | non =>
    cases rx
    cases y with
    | non=>cases ry;exact PySem.EqNone.ne_none_none (gi I q (by simp))
    | bl j=>cases ry;exact PySem.EqNone.ne_none_bool (gi I q (by simp))
    | int j=>obtain ⟨t',rfl⟩:=ry;exact PySem.EqNone.ne_none_int (gi I q (by simp))
    | str j=>obtain ⟨t',rfl⟩:=ry;exact PySem.EqNone.ne_none_str (gi I q (by simp))
    | _=>exact absurd (show false=true from hs) Bool.false_ne_true
  | bl i =>
    cases rx
    cases y with
    | non=>cases ry;exact PySem.EqNone.ne_bool_none (gi I q (by simp))
    | bl j=>cases ry;exact ne_bool (gi I q (congrArg not Jb))
    | str j=>obtain ⟨t',rfl⟩:=ry;exact PySem.EqMixed.ne_bool_str (gi I q (by simp))
    | _=>exact absurd (show false=true from hs) Bool.false_ne_true
  | int i =>
    obtain ⟨t,rfl⟩:=rx
    cases y with
    | non=>cases ry;exact PySem.EqNone.ne_int_none (gi I q (by simp))
    | int j=>obtain ⟨t',rfl⟩:=ry;exact ne_int (gi I q (congrArg not Fw))
    | str j=>obtain ⟨t',rfl⟩:=ry;exact PySem.EqMixed.ne_int_str (gi I q (by simp))
    | _=>exact absurd (show false=true from hs) Bool.false_ne_true
  | str i =>
    obtain ⟨t,rfl⟩:=rx
    cases y with
    | non=>cases ry;exact PySem.EqNone.ne_str_none (gi I q (by simp))
    | bl j=>cases ry;exact PySem.EqMixed.ne_str_bool (gi I q (by simp))
    | int j=>obtain ⟨t',rfl⟩:=ry;exact PySem.EqMixed.ne_str_int (gi I q (by simp))
    | str j=>obtain ⟨t',rfl⟩:=ry;exact ne_str (gi I q (congrArg not Fx))
    | _=>exact absurd (show false=true from hs) Bool.false_ne_true
  | byt i =>
    obtain ⟨t,rfl⟩:=rx
    cases y with
    | byt j=>obtain ⟨t',rfl⟩:=ry;exact PySem.W.ne_bytes (gi I q (congrArg not Fy))
    | _=>exact absurd (show false=true from hs) Bool.false_ne_true
  | _=>cases y <;> exact absurd (show false=true from hs) Bool.false_ne_true
theorem Ow:OpR X (compareOp .Lt) (rI0 fun i j=>.bl (decide (i < j))):=opB0 fun _ _ _ _ _ _ _ q=>lt_int q
theorem Ox:OpR X (compareOp .LtE) (rI0 fun i j=>.bl (decide (i <= j))):=opB0 fun _ _ _ _ _ _ _ q=>le_int q
theorem Oy:OpR X (compareOp .Gt) (rI0 fun i j=>.bl (decide (j < i))):=opB0 fun _ _ _ _ _ _ _ q=>gt_int q
theorem Oz:OpR X (compareOp .GtE) (rI0 fun i j=>.bl (decide (j <= i))):=opB0 fun _ _ _ _ _ _ _ q=>ge_int q
theorem OpR.or {f:Value->Value->Sem Value}{r r':R2} (h:OpR X f r) (h':OpR X f r'):OpR X f (fun x y H Q=>r x y H Q \/ r' x y H Q):=by
  intro pins s σ H x y v u Q I rx ry q
  rcases q with q | q
  . exact h pins s σ H x y v u Q I rx ry q
  . exact h' pins s σ H x y v u Q I rx ry q
theorem nomark (b:Expr) {op:CmpOp} (h:op ≠ .In:=by decide) (h2:op ≠ .NotIn:=by decide):behindInMarks op b=false:=by
  have e1:(op == CmpOp.In)=false:=by cases op <;> first | rfl | exact absurd rfl h
  have e2:(op == CmpOp.NotIn)=false:=by cases op <;> first | rfl | exact absurd rfl h2
  cases b <;> simp [behindInMarks,e1,e2]
theorem LQ {op:CmpOp}{r:R2} (ho:OpR X (compareOp op) r) (ha:PE X a ta) (hb:PE X b tb) (hm:behindInMarks op b=false):PE X (.Compare a [op] [b] pos) (tOp r ta tb):=by
  intro pins s σ H Q I h
  exact wpAny_Compare1 (binT ha hb I h fun v u s2 x y H2 I2 rx ry q=>ho pins s2 σ H2 x y v u Q I2 rx ry q) hm
noncomputable def tTest (t:TE):TT:=fun σ H Q=>t σ H fun x H'=>∃ k,x=.bl k /\ Q k H'
theorem LR {op:CmpOp}{r:R2} (ho:OpR X (compareOp op) r) (ha:PE X a ta) (hb:PE X b tb) (hm:behindInMarks op b=false):PT X (.Compare a [op] [b] pos) (tTest (tOp r ta tb)):=by
  intro pins s σ H Q I h
  refine wpAny_isTrue_Compare1 (thn (ha pins s σ H _ I h) fun v s1 ⟨x,H1,I1,r1,q1⟩=>thn (hb pins s1 σ H1 _ I1 q1) fun u s2 ⟨y,H2,I2,r2,q2⟩ =>
    thn (ho pins s2 σ H2 x y v u _ I2 r1 r2 q2) fun c s3 ⟨z,H3,I3,r3,k,e,q3⟩=>?_) hm
  subst e
  cases r3
  exact wpAny_truthy_bool ⟨H3,I3,q3⟩
noncomputable def tChain (r r':R2) (ta tb tc:TE):TE:=fun σ H Q=>ta σ H fun x H1=>tb σ H1 fun y H2=>r x y H2 fun z H3=>∃ k,z=.bl k /\
  (if k=true then tc σ H3 fun w' H4=>r' y w' H4 Q else Q (.bl false) H3)
theorem Jc {op op':CmpOp}{r r':R2} (ho:OpR X (compareOp op) r) (ho':OpR X (compareOp op') r') (ha:PE X a ta) (hb:PE X b tb) (hc:PE X c tc)
    (hm:lastMarks [op,op'] [b,c]=false:=by with_unfolding_all rfl):PE X (.Compare a [op,op'] [b,c] pos) (tChain r r' ta tb tc):=by
  intro pins s σ H Q I h
  refine Compare_chain (thn (ha pins s σ H _ I h) fun v s1 ⟨x,H1,I1,r1,q1⟩=>chain_link (thn (hb pins s1 σ H1 _ I1 q1) fun u s2 ⟨y,H2,I2,r2,q2⟩ =>
    thn (ho pins s2 σ H2 x y v u _ I2 r1 r2 q2) fun d s3 ⟨z,H3,I3,r3,k,e,q3⟩=>?_)) hm
  subst e
  cases r3
  refine wpAny_truthy_bool ?_
  cases k with
  | false=>exact ite_ff ⟨.bl false,H3,I3,rfl,q3⟩
  | true=>exact ite_tt (chain_last (thn (hc pins s3 σ H3 _ I3 q3) fun w' s4 ⟨z',H4,I4,r4,q4⟩=>ho' pins s4 σ H4 y z' u w' Q I4 r2 r4 q4))
theorem line63:(sizeLine:Nat) < 2 ^ 63:=by rw [sizeLine_eq];decide
theorem Dw:OpR X (binaryOp .Add) (fun x y H Q=>∃ i j,x=.str i /\ y=.str j /\ i.length + j.length <= sizeLine /\ Q (.str (i ++ j)) H):=by
  intro pins s σ H x y v u Q I rx ry h
  obtain ⟨i,j,rfl,rfl,hz,q⟩:=h
  obtain ⟨t,rfl⟩:=rx
  obtain ⟨t',rfl⟩:=ry
  exact add_str (fun t' tk=>⟨.str (i ++ j),H,I.tok _,⟨_,rfl⟩,q⟩) hz
theorem vals1 {x:V}{us:List Value} (r:Vals [x] us):∃ u,us=[u] /\ RelV x u:=by
  cases r with
  | cons r1 r2=>cases r2;exact ⟨_,rfl,r1⟩
theorem vals2 {x y:V}{us:List Value} (r:Vals [x,y] us):∃ u w',us=[u,w'] /\ RelV x u /\ RelV y w':=by
  cases r with
  | cons r1 r2 =>
    cases r2 with
    | cons r3 r4=>cases r4;exact ⟨_,_,rfl,r1,r3⟩
theorem Gn (hc:X.calm=true):CallR X (.builtin "max") (fun xs H Q=>∃ i j,xs=[.int i,.int j] /\ Q (.int (if j > i then j else i)) H):=by
  intro pins s σ H xs us Q I r h
  obtain ⟨i,j,rfl,q⟩:=h
  obtain ⟨u,w',rfl,⟨t,rfl⟩,⟨t',rfl⟩⟩:=vals2 r
  refine max_two_ints (I.ok.hd hc) fun h' tk k=>⟨_,H,I.kept k,?_,q⟩
  by_cases hj:j > i
  . rw [if_pos hj,if_pos hj];exact ⟨_,rfl⟩
  . rw [if_neg hj,if_neg hj];exact ⟨_,rfl⟩
theorem Go (hc:X.calm=true):CallR X (.builtin "min") (fun xs H Q=>∃ i j,xs=[.int i,.int j] /\ Q (.int (if j < i then j else i)) H):=by
  intro pins s σ H xs us Q I r h
  obtain ⟨i,j,rfl,q⟩:=h
  obtain ⟨u,w',rfl,⟨t,rfl⟩,⟨t',rfl⟩⟩:=vals2 r
  refine min_two_ints (I.ok.hd hc) fun h' tk k=>⟨_,H,I.kept k,?_,q⟩
  by_cases hj:j < i
  . rw [if_pos hj,if_pos hj];exact ⟨_,rfl⟩
  . rw [if_neg hj,if_neg hj];exact ⟨_,rfl⟩
theorem Gp:CallR X (.type "int") (fun xs H Q=>(∃ i,xs=[.int i] /\ Q (.int i) H) \/ ∃ k,xs=[.bl k] /\ Q (.int (if k then 1 else 0)) H):=by
  intro pins s σ H xs us Q I r h
  rcases h with ⟨i,rfl,q⟩ | ⟨k,rfl,q⟩
  . obtain ⟨u,rfl,t,rfl⟩:=vals1 r
    exact call_int_int ⟨.int i,H,I,⟨_,rfl⟩,q⟩
  . obtain ⟨u,rfl,r1⟩:=vals1 r
    cases r1
    exact call_int_bool ⟨.int (if k then 1 else 0),H,I.tok _,⟨_,rfl⟩,q⟩
end
end L2
namespace L2
open PySem PySem.Spec PyProof.Rows
structure ObjM (h:Heap) (x dx C:Addr) (mA:Str->Option Value):Prop where
  obj:h.get? x=some (PySem.W.instObj C dx)
  ns:h.Ns1 dx mA
  ne:dx ≠ x
theorem Gq {h:Heap}{dx:Addr}{mA:Str->Option Value} (n:h.Ns1 dx mA):∃ od,h.get? dx=some od /\ ∀ name,PySem.W.lookIn name od=some (mA name):=by
  obtain ⟨o,es,ep,ho,hd,hk,_,hm⟩:=n
  refine ⟨o,ho,fun name=>?_⟩
  have e:=hm name
  unfold nsFind findBy at e
  rw [<-Array.find?_toList] at e
  unfold PySem.W.lookIn
  rw [hd]
  dsimp only
  split
  . rename_i y q
    rw [q] at e
    exact congrArg some e
  . rename_i q
    rw [q] at e
    have a:es.toList.any (·.refKey)=false:=by
      rw [List.any_eq_false]
      intro y hy
      obtain ⟨z,t,hkey⟩:=hk y (Array.mem_toList_iff.mp hy)
      simp [DictEntry.refKey,hkey]
    have a':¬ es.toList.any (·.refKey)=true:=by rw [a];exact Bool.false_ne_true
    rw [if_neg a']
    exact congrArg some e
theorem ObjM.look {h:Heap}{x dx C:Addr}{mA:Str->Option Value} (I:ObjM h x dx C mA):∃ od,PySem.W.InstAt h x (PySem.W.instObj C dx) C (some od) /\ ∀ name,PySem.W.lookIn name od=some (mA name) :=
  let ⟨od,ho,hl⟩:=Gq I.ns
  ⟨od,⟨I.obj,rfl,rfl,ho⟩,hl⟩
section
variable {prog : Program} {w : World} {A : Around} {E : Value -> Shared -> Prop} {s : Shared} {K : PySem.W.Frag} {x dx C f : Addr} {mA : Str -> Option Value} {name : Str} {v : Value}
end
theorem RelO.some_of {v:V}{o:Option Value} (r:RelO (some v) o):∃ u,o=some u /\ RelV v u:=by
  cases o with
  | none=>exact (show False from r).elim
  | some u=>exact ⟨u,rfl,r⟩
theorem RelO.none_of {o:Option Value} (r:RelO none o):o=none:=by
  cases o with
  | none=>rfl
  | some u=>exact (show False from r).elim
section
variable {P : Program} {w : World} {H H' : Hp} {h h' : Heap} {a C dx : Addr} {fs fs' : List (Str × V)}
theorem LS (hok:HOk P w H h) (e:H a=some (.ins C dx fs)):∃ mA,ObjM h a dx C mA /\ (∀ f,RelO (fs.lookup f) (mA f)) /\ PySem.Within mA (fs.map (·.1)) /\ fs.length <= 1000 /\ H dx=some (.own a):=by
  obtain ⟨d,z,ne,ob,mA,n,r,q⟩:=(show ObjOk P w H h a (.ins C dx fs) from hok a _ e)
  exact ⟨mA,⟨ob,n,ne⟩,r,q,z,d⟩
end
structure Cls (K:PySem.W.Frag) (C:Addr):Prop where
  pg:PySem.W.plainGet K C Str.empty=true
  hd:PySem.W.hasDictIn K C=true
  po:PySem.W.plainOver K C=true
  sa:PySem.W.findIn K (.ref C) "__setattr__"=some (some (.builtin "object.__setattr__"))
theorem Cls.get {K:PySem.W.Frag}{C:Addr} (c:Cls K C) (f:Str):PySem.W.plainGet K C f=true:=c.pg
structure Con (K:PySem.W.Frag) (C:Addr) (f:Str) (v:V) (u:Value):Prop where
  at_:PySem.W.findIn K (.ref C) f=some (some u)
  rel:RelV v u
  get:PySem.W.specialIn K u "__get__"=some none
  cp:PySem.W.copiedNames.contains f=false
structure Meth (K:PySem.W.Frag) (C:Addr) (m:Str) (f:Addr):Prop where
  at_:PySem.W.findIn K (.ref C) m=some (some (.ref f))
  fn:PySem.W.isFn K (.ref f)=true
  kp:PySem.W.keepIn K (.ref f)=true
section
variable {X : Cx} {pins : List (Addr × Obj)} {σ : St} {H : Hp} {s : Shared} {a C dx : Addr} {fs : List (Str × V)} {f : Str} {v : V} {A : Around} {E : Value -> Shared -> Prop}
end
section
variable {X : Cx} {o e value : Expr} {f : Str} {pos pos' tpos : Pos} {ta tv : TE}
noncomputable def rAdd:V->V->Hp->VK->Prop:=fun x y H Q=>∃ i j,x=.int i /\ y=.int j /\ Q (.int (i + j)) H
end
section
variable {X : Cx} {pins : List (Addr × Obj)} {σ : St} {H : Hp} {s : Shared} {A : Around} {E : Value -> Shared -> Prop} {Q : Value -> Shared -> Prop} {c : Value} {b : Bool}
inductive TyOf (K:PySem.W.Frag) (H:Hp):V->Value->Prop where
  | non:TyOf K H .non (.type "NoneType")
  | bl (x:Bool):TyOf K H (.bl x) (.type "bool")
  | int (i:Int):TyOf K H (.int i) (.type "int")
  | str (x:Str):TyOf K H (.str x) (.type "str")
  | flt (x:UInt64):TyOf K H (.flt x) (.type "float")
  | lst {a:Addr}{xs:List V} (e:H a=some (.lst xs)):TyOf K H (.ref a) (.type "list")
  | frz {a:Addr}{o:Obj}{xs:List V} (e:H a=some (.frz o (.lst xs))):TyOf K H (.ref a) (.type "list")
  | tup {a:Addr}{xs:List V} (e:H a=some (.tup xs)):TyOf K H (.ref a) (.type "tuple")
  | dK {a:Addr}{kvs:List (Key × V)} (e:H a=some (.dK kvs)):TyOf K H (.ref a) (.type "dict")
  | dT {a:Addr}{kvs:List (List Key × V)} (e:H a=some (.dT kvs)):TyOf K H (.ref a) (.type "dict")
  | ins {a C dx:Addr}{fs:List (Str × V)} (e:H a=some (.ins C dx fs)) (cl:Cls K C) (ha:PySem.W.findIn K (.ref C) "__class__"=some (some (.builtin "object.__class__")))
      (hn:PySem.W.specialIn K (.builtin "object.__class__") "__get__"=some (some (.builtin "getset_descriptor.__get__"))) (htk:PySem.W.takesIn K (.builtin "object.__class__")=some true)
      (hm:PySem.W.mroIn K C (.type "object")=some true):TyOf K H (.ref a) (.ref C)
theorem Gr {x:V}{u t:Value} (I:Inv X pins σ H s) (rx:RelV x u) (ty:TyOf X.K H x t) (e:PySem.W.kitOne X.K t c=some b) (h:∀ tk,Q (.bool b) { s with toks:=tk }) :
    wpAny (model X.prog X.w) A (call (.builtin "isinstance") [u,c]) Q E s:=by
  cases ty with
  | non=>cases (show u=Value.none from rx);exact PySem.W.kia_one PySem.W.kitx_none I.kIn True.intro e (fun z=>nomatch z) h
  | bl y=>cases (show u=Value.bool y from rx);exact PySem.W.kia_one PySem.W.kitx_bool I.kIn True.intro e (fun z=>nomatch z) h
  | int i=>obtain ⟨t,q⟩:=(show ∃ t,u=Value.int i t from rx);cases q;exact PySem.W.kia_one PySem.W.kitx_int I.kIn True.intro e (fun z=>nomatch z) h
  | str y=>obtain ⟨t,q⟩:=(show ∃ t,u=Value.str y t from rx);cases q;exact PySem.W.kia_one PySem.W.kitx_str I.kIn True.intro e (fun z=>nomatch z) h
  | flt y=>obtain ⟨t,q⟩:=(show ∃ t,u=Value.float y t from rx);cases q;exact PySem.W.kia_one PySem.W.kitx_float I.kIn True.intro e (fun z=>nomatch z) h
  | @lst a xs ea =>
    cases (show u=Value.ref a from rx)
    obtain ⟨_,_,n,_,h1⟩:=(show ObjOk X.prog X.w H s.heap a (.lst xs) from I.hok a _ ea)
    exact PySem.W.kia_one PySem.W.kitx_list I.kIn ⟨_,h1,rfl⟩ e (fun z=>nomatch z) h
  | @frz a ob xs ea =>
    cases (show u=Value.ref a from rx)
    obtain ⟨_,_,_,n,_,h1⟩:=(show ObjOk X.prog X.w H s.heap a (.frz ob (.lst xs)) from I.hok a _ ea)
    exact PySem.W.kia_one PySem.W.kitx_list I.kIn ⟨_,h1,rfl⟩ e (fun z=>nomatch z) h
  | @tup a xs ea =>
    cases (show u=Value.ref a from rx)
    obtain ⟨_,_,_,p⟩:=(show ObjOk X.prog X.w H s.heap a (.tup xs) from I.hok a _ ea)
    obtain ⟨o,h1,h2,_⟩:=p
    exact PySem.W.kia_one PySem.W.kitx_tuple I.kIn ⟨o,h1,h2⟩ e (fun z=>nomatch z) h
  | @dK a kvs ea =>
    cases (show u=Value.ref a from rx)
    obtain ⟨_,_,vs,_,p⟩:=(show ObjOk X.prog X.w H s.heap a (.dK kvs) from I.hok a _ ea)
    obtain ⟨o,es,ep,h1,h2,_⟩:=p
    exact PySem.W.kia_one PySem.W.kitx_dict I.kIn ⟨o,h1,h2.1⟩ e (fun z=>nomatch z) h
  | @dT a kvs ea =>
    cases (show u=Value.ref a from rx)
    obtain ⟨_,_,xs,_,o,es,ep,h1,h2,_⟩:=(show ObjOk X.prog X.w H s.heap a (.dT kvs) from I.hok a _ ea)
    exact PySem.W.kia_one PySem.W.kitx_dict I.kIn ⟨o,h1,h2.1⟩ e (fun z=>nomatch z) h
  | @ins a C dx fs ea cl ha hn htk hm =>
    cases (show u=Value.ref a from rx)
    obtain ⟨mA,O,_⟩:=LS I.hok ea
    obtain ⟨od,J,_⟩:=O.look
    exact PySem.W.kia_one (PySem.W.kitx_own (cl.get _) cl.hd ha hn htk hm) I.kIn J e (fun z=>nomatch z) h
end
end L2
namespace L2
open PySem PySem.Spec PyProof.Rows
structure Room (k:Nat) (A:Around):Prop where
  hd:A.handled=none
  dp:A.depth + 3 * k + 5 < recursionLimit
  un:A.units + 16 * k + 200 < cLine
  gd:A.guards=some []
theorem Room.mono {j k:Nat}{A:Around} (r:Room k A) (h:j <= k):Room j A:=⟨r.hd,by have:=r.dp;omega,by have:=r.un;omega,r.gd⟩
theorem Room.deeper {k:Nat}{A:Around} (r:Room (k + 1) A) (env:Env):Room k (A.deeper env) :=
  ⟨r.hd,by have:=r.dp;show A.depth + 1 + 3 * k + 5 < _;omega,by have:=r.un;show A.units + 3 + 16 * k + 200 < _;omega,by first | exact r.gd | (rw [<-r.gd];first | rfl | simp [Around.under,Code.isGuard,guardIds])⟩
theorem Room.depth {k:Nat}{A:Around} (r:Room k A):A.depth < recursionLimit:=by have:=r.dp;omega
theorem Room.units {k:Nat}{A:Around} (r:Room k A):A.units + 64 < cLine:=by have:=r.un;omega
theorem Room.units0 {k:Nat}{A:Around} (r:Room k A):A.units < cLine:=by have:=r.un;omega
noncomputable def tNil:TA:=fun _ H Q=>Q [] H
noncomputable def tCons (ta:TE) (tr:TA):TA:=fun σ H Q=>ta σ H fun x H1=>tr σ H1 fun xs H2=>Q (x :: xs) H2
section
variable {X : Cx} {e : Expr} {es : List Expr} {te : TE} {t : TA} {pos : Pos}
theorem oo:PA X [] tNil:=fun _ _ _ _ H Q I h=>Calls.spliced_nil ⟨[],H,I,.nil,h⟩
theorem lB (ha:PE X e te) (hr:PA X es t) (hs:starEach (e :: es) X.env=(false,eval e X.env) :: starEach es X.env:=by rfl):PA X (e :: es) (tCons te t):=by
  intro pos pins s σ H Q I h
  rw [hs]
  show wpAny _ _ (spliced ((false,eval e X.env) :: backTo pos (starEach es X.env))) _ _ s
  refine Calls.spliced_cons (thn (ha pins s σ H _ I h) fun u s1 ⟨x,H1,I1,r1,q1⟩=>?_)
  exact thn (hr pos pins s1 σ H1 _ I1 q1) fun us s2 ⟨xs,H2,I2,r2,q2⟩=>⟨x :: xs,H2,I2,.cons r1 r2,q2⟩
noncomputable def tTup (t:TA):TE:=fun σ H Q=>t σ H fun xs H1=>xs.length <= sizeLine /\ ∀ p,H1 p=none->Q (.ref p) (upd H1 p (.tup xs))
noncomputable def tLst (t:TA):TE:=fun σ H Q=>t σ H fun xs H1=>xs.length <= sizeLine /\ ∀ p,H1 p=none->Q (.ref p) (upd H1 p (.lst xs))
theorem Jd {x1} (h:PA X es t):PE X (.Tuple es x1 pos) (tTup t):=by
  intro pins s σ H Q I hq
  refine wpAny_Tuple_spliced (thn (h pos pins s σ H _ I hq) fun us s1 ⟨xs,H1,I1,r,z,q⟩=>⟨by rw [<-r.length];exact z,?_⟩)
  have hf:H1 s1.heap.objs.size=none:=I1.hok.fresh (Nat.le_refl _)
  refine ⟨.ref s1.heap.objs.size,upd H1 s1.heap.objs.size (.tup xs),I1.laid (t':=s1.toks) (fun b u e=>Heap.get?_push_of_some _ e) (Nat.le_refl _) ?_,rfl,q _ hf⟩
  exact ⟨z,us,r,⟨_,Heap.get?_push_size _ rfl,rfl,_,rfl⟩⟩
theorem Nq (h:PA X es t):PE X (.List es pos) (tLst t):=by
  intro pins s σ H Q I hq
  refine wpAny_List_spliced (thn (h pos pins s σ H _ I hq) fun us s1 ⟨xs,H1,I1,r,z,q⟩=>⟨by rw [<-r.length];exact z,?_⟩)
  have hf:H1 s1.heap.objs.size=none:=I1.hok.fresh (Nat.le_refl _)
  refine ⟨.ref s1.heap.objs.size,upd H1 s1.heap.objs.size (.lst xs),I1.laid (t':=s1.toks) (fun b u e=>Heap.get?_push_of_some _ e) (Nat.le_refl _) ?_,rfl,q _ hf⟩
  exact ⟨z,us,0,r,Heap.get?_push_size _ rfl⟩
end
noncomputable abbrev Sp:=List V->Hp->VK->XK->Prop
noncomputable abbrev CXT:=List Env->Hp->Shared->XK->Value->Shared->Prop
structure Env0 (P:Program) (w:World) (K:PySem.W.Frag) (mg:Str->Option Value) (base:Heap) (A:Around) (outer:List Env) (s:Shared) (H:Hp):Prop where
  frames:A.frames=some outer
  mod:Mod K mg base
  bs:∀ b o,base.get? b=some o->s.heap.get? b=some o /\ H b=none
  bsz:base.objs.size <= s.heap.objs.size
  funs:s.heap.FunFrames base outer
  frf:∀ b ∈ frs outer,H b=none
  hok:HOk P w H s.heap
  bare:AllBare s.gens
noncomputable def CE (outer:List Env) (P:Program) (w:World) (H:Hp) (s:Shared) (Q:VK) (u:Value) (s':Shared):Prop :=
  ∃ v H',s'.os=s.os /\ AllBare s'.gens /\ Un (frs outer) [] H H' s.heap s'.heap /\ HOk P w H' s'.heap /\ RelV v u /\ Q v H'
noncomputable def CR (CX:CXT) (outer:List Env) (P:Program) (w:World) (H:Hp) (s:Shared) (Q:VK) (E:XK) (r:Result) (s':Shared):Prop :=
  match r with
  | .ok (.ret u)=>CE outer P w H s Q u s'
  | .ok _=>False
  | .error e=>CX outer H s E e s'
structure FnOk (P:Program) (w:World) (K:PySem.W.Frag) (mg:Str->Option Value) (base:Heap) (CX:CXT) (k:Nat) (f:Addr) (fd:FuncData) (ps:List Str) (sp:Sp):Prop where
  len:∀ vs H Q E,sp vs H Q E->vs.length=ps.length
  run:∀ (A:Around) (outer:List Env) (s:Shared) (H:Hp) (args:Args) (us:List Value) (vs:List V) (Q:VK) (E:XK),Room k A->Env0 P w K mg base A outer s H->BindsTo s fd args (ps.zip us)->Vals vs us->sp vs H Q E ->
    codeAny (model P w) A (.call (.ref f) args) (CR CX outer P w H s Q E) s
section
variable {X : Cx} {pins : List (Addr × Obj)} {σ : St} {H : Hp} {s s' : Shared}
theorem Inv.env0 (I:Inv X pins σ H s):Env0 X.prog X.w X.K X.mg X.base X.A X.stack s H :=
  ⟨I.ok.frames,I.ok.mod,I.bs,Nat.le_trans I.ok.bsz I.sz,I.stack,I.stkFree,I.hok,I.bare⟩
theorem Inv.after {Q:VK}{u:Value} (I:Inv X pins σ H s) (h:CE X.stack X.prog X.w H s Q u s'):EP X pins σ Q u s':=by
  obtain ⟨v,H',os,bare,un,hok,r,q⟩:=h
  obtain ⟨hh,g,d,t,os'⟩:=s'
  obtain rfl:os'=s.os:=os
  exact ⟨v,H',I.call (h':=hh) (g':=g) (d':=d) (t':=t) (ch:=[]) un hok bare (fun b z=>absurd z (by simp)),r,q⟩
end
noncomputable def tCall (sp:Sp) (dvs:List V) (E:XK) (t:TA):TE:=fun σ H Q=>t σ H fun vs H1=>sp (vs ++ dvs) H1 Q E
noncomputable def Binds (K:PySem.W.Frag) (fd:FuncData) (ps:List Str) (ds:List Value):Prop :=
  ∀ (s:Shared) (us:List Value),K.In s.heap->(us ++ ds).length=ps.length->BindsTo s fd ⟨us,[]⟩ (ps.zip (us ++ ds))
theorem Binds.all {K:PySem.W.Frag}{fd:FuncData}{ps:List Str} (h:∀ us:List Value,us.length=ps.length->bindArgs fd ⟨us,[]⟩=pure (ps.zip us)):Binds K fd ps []:=fun s us _ hl=>by
  rw [List.append_nil] at hl ⊢
  exact .of_eq (h us hl)
noncomputable def Passes (CX:CXT) (X:Cx) (E:XK):Prop:=∀ (pins:List (Addr × Obj)) (σ:St) (H:Hp) (s:Shared) (e:Value) (s':Shared),Inv X pins σ H s->CX X.stack H s E e s'->X.xe e s'
section
variable {X : Cx} {CX : CXT} {k : Nat} {f C : Addr} {fd : FuncData} {ps : List Str} {sp : Sp} {dvs : List V} {ds : List Value} {E : XK} {x m : Str} {p pos apos : Pos} {e o : Expr} {es : List Expr} {ta : TE} {t : TA}
theorem Nr {pins:List (Addr × Obj)}{σ:St}{H:Hp}{s:Shared}{Q:VK}{us:List Value}{vs:List V} (F:FnOk X.prog X.w X.K X.mg X.base CX k f fd ps sp) (hr:Room k X.A) (hb:Binds X.K fd ps ds) (hd:Vals dvs ds) (hx:Passes CX X E)
    (I:Inv X pins σ H s) (r:Vals vs us) (h:sp (vs ++ dvs) H Q E):wpAny (model X.prog X.w) X.A (call (.ref f) us) (EP X pins σ Q) X.xe s:=by
  have r2:Vals (vs ++ dvs) (us ++ ds):=r.append hd
  have hl:(us ++ ds).length=ps.length:=by rw [<-r2.length];exact F.len _ _ _ _ h
  refine wpAny_call (codeAny_mono (F.run X.A X.stack s H ⟨us,[]⟩ (us ++ ds) (vs ++ dvs) Q E hr I.env0 (hb s us I.kIn hl) r2 h) fun r s' hq=>?_)
  cases r with
  | error e=>exact hx pins σ H s e s' I hq
  | ok fl =>
    cases fl with
    | ret u=>exact I.after hq
    | next=>exact False.elim hq
    | brk=>exact False.elim hq
    | cont=>exact False.elim hq
theorem LT (F:FnOk X.prog X.w X.K X.mg X.base CX k f fd ps sp) (hr:Room k X.A) (hg:Gl X x) (hm:X.mg x=some (.ref f)) (hk:PySem.W.keepIn X.K (.ref f)=true) (hb:Binds X.K fd ps ds) (hd:Vals dvs ds) (hx:Passes CX X E)
    (ha:PA X (e :: es) t) (hdb:(x == ("__debug__":Str))=false:=by decide) (he:starEach (e :: es) X.env=(false,eval e X.env) :: starEach es X.env:=by rfl) (hpl:(backTo pos (starEach es X.env)).any (·.1)=false:=by rfl) :
    PE X (.Call (.Name x p) (e :: es) [] pos) (tCall sp dvs E t):=by
  intro pins s σ H Q I h
  refine wpAny_Call_Name_kw (Fu I hg hm ?_ hdb)
  refine PySem.W.callWith_K (h₀:=X.base) I.ok.mod.kin hk (thn (ha pos pins s σ H _ I h) fun us s1 ⟨vs,H1,I1,r,q⟩=>⟨I1.kIn,?_⟩) he hpl
  exact Nr F hr hb hd hx I1 r q
structure Mk (K:PySem.W.Frag) (C f:Addr):Prop where
  makes:PySem.W.makesIn K C=true
  init:PySem.W.findIn K (.ref C) "__init__"=some (some (.ref f))
  fn:PySem.W.isFn K (.ref f)=true
  kp:PySem.W.keepIn K (.ref C)=true
end
section
variable {X : Cx} {CX : CXT} {k : Nat} {f C : Addr} {fd : FuncData} {ps ks : List Str} {sp : Sp} {E : XK} {x m : Str} {p pos apos kpos : Pos} {e o : Expr} {es : List Expr} {kws : List Keyword} {te ta : TE} {t tk : TA} {nm : Option Str}
structure KBinds (K:PySem.W.Frag) (fd:FuncData) (ps ks:List Str) (g:List Value->List Value->List Value) (gV:List V->List V->List V):Prop where
  to:∀ (s:Shared) (us ws:List Value),K.In s.heap->(g us ws).length=ps.length->BindsTo s fd ⟨us,ks.zip ws⟩ (ps.zip (g us ws))
  rel:∀ {vs:List V}{us:List Value}{zs:List V}{ws:List Value},Vals vs us->Vals zs ws->Vals (gV vs zs) (g us ws)
variable {g : List Value -> List Value -> List Value} {gV : List V -> List V -> List V}
end
structure FnScope (N P:List Str) (sc:Scope):Prop where
  kind:sc.kind=.function
  co:sc.isCoroutine=false
  gen:sc.isGenerator=false
  nd:N.Nodup
  pre:N.take P.length=P
  par:∀ x ∈ P,sc.names.lookup x=some .local \/ sc.names.lookup x=some .cell
  nofree:∀ y ∈ sc.names,y.2 ≠ .free
theorem Bo {kindOf:Str->Option NameKind}{x:Str}:∀ {binds:List (Str × Value)}{m:Str->Option Value},(∀ v,(x,v) ∉ binds)->bindL kindOf binds m x=m x
  | [],_,_=>rfl
  | (n,v) :: r,m,h=>by
    unfold bindL
    rw [Bo fun w hw=>h w (List.mem_cons_of_mem _ hw)]
    split
    . have:x ≠ n:=by rintro rfl;exact h v List.mem_cons_self
      simp [this]
    . rfl
theorem Bp {kindOf:Str->Option NameKind}{x:Str}:∀ {binds:List (Str × Value)}{m:Str->Option Value},(∀ v,(x,v) ∉ binds)->bindC kindOf binds m x=m x
  | [],_,_=>rfl
  | (n,v) :: r,m,h=>by
    unfold bindC
    rw [Bp fun w hw=>h w (List.mem_cons_of_mem _ hw)]
    split
    . rfl
    . have:x ≠ n:=by rintro rfl;exact h v List.mem_cons_self
      simp [this]
theorem Bq {kindOf:Str->Option NameKind}{x:Str}{v:Value}:∀ {P:List Str}{vs:List Value}{i:Nat}{m:Str->Option Value},P.Nodup->P[i]?=some x->vs[i]?=some v->kindOf x=some .local ->
    bindL kindOf (P.zip vs) m x=some v
  | [],_,_,_,_,h,_,_=>by simp at h
  | _ :: _,[],_,_,_,_,h,_=>by simp at h
  | p :: P,w :: vs,0,m,nd,h1,h2,hk=>by
    simp at h1 h2;subst h1;subst h2
    show bindL kindOf ((p,w) :: P.zip vs) m p=_
    unfold bindL
    rw [Bo fun v hv=>(List.nodup_cons.mp nd).1 (List.of_mem_zip hv).1,if_pos hk]
    simp
  | p :: P,w :: vs,i + 1,m,nd,h1,h2,hk=>by
    show bindL kindOf ((p,w) :: P.zip vs) m x=_
    unfold bindL
    exact Bq (i:=i) (List.nodup_cons.mp nd).2 (by simpa using h1) (by simpa using h2) hk
theorem Br {kindOf:Str->Option NameKind}{x:Str}{v:Value}:∀ {P:List Str}{vs:List Value}{i:Nat}{m:Str->Option Value},P.Nodup->P[i]?=some x->vs[i]?=some v->kindOf x ≠ some .local ->
    bindC kindOf (P.zip vs) m x=some v
  | [],_,_,_,_,h,_,_=>by simp at h
  | _ :: _,[],_,_,_,_,h,_=>by simp at h
  | p :: P,w :: vs,0,m,nd,h1,h2,hk=>by
    simp at h1 h2;subst h1;subst h2
    show bindC kindOf ((p,w) :: P.zip vs) m p=_
    unfold bindC
    rw [Bp fun v hv=>(List.nodup_cons.mp nd).1 (List.of_mem_zip hv).1,if_neg hk]
    simp
  | p :: P,w :: vs,i + 1,m,nd,h1,h2,hk=>by
    show bindC kindOf ((p,w) :: P.zip vs) m x=_
    unfold bindC
    exact Br (i:=i) (List.nodup_cons.mp nd).2 (by simpa using h1) (by simpa using h2) hk
noncomputable def start (N:List Str) (vs:List V):St:=vs.map some ++ List.replicate (N.length - vs.length) none
noncomputable def cxOf (CX:CXT) (P:Program) (w:World) (K:PySem.W.Frag) (mg:Str->Option Value) (base:Heap) (N:List Str) (qual:Str) (scope:Scope) (f:Addr) (cd:Value) (A:Around) (outer:List Env) (s:Shared) (H:Hp) (E:XK):Cx where
  prog:=P
  w:=w
  K:=K
  mg:=mg
  base:=base
  A:=A.deeper (envOfC qual scope s.heap.objs.size f cd)
  N:=N
  s₀:=s
  H₀:=H
  env:=envOfC qual scope s.heap.objs.size f cd
  outer:=outer
  stack:=envOfC qual scope s.heap.objs.size f cd :: outer
  ex:=[]
  calm:=true
  fn:=fun _=>true
  pn:=[]
  xe:=fun e s'=>wpAny (model P w) (A.deeper (envOfC qual scope s.heap.objs.size f cd)) (leaving (envOfC qual scope s.heap.objs.size f cd) e) (fun _ s''=>CX outer H s E e s'') (fun e' s''=>CX outer H s E e' s'') s'
theorem Cz {sc:Scope}{n:Nat}{x:Str} (h:sc.names.lookup x=some .cell):∃ c,(cellsFrom n sc.names []).lookup x=some c:=by
  have q:=PySem.W.cellsFrom_some sc.names n [] (.inl h)
  exact Option.isSome_iff_exists.mp q
theorem Gs {CX:CXT}{P:Program}{w:World}{K:PySem.W.Frag}{mg:Str->Option Value}{base:Heap}{N ps:List Str}{qual:Str}{scope:Scope}{f:Addr}{cd:Value}{A:Around}{outer:List Env}{s s1:Shared}{H:Hp}{E:XK}{us:List Value}{vs:List V}
    (S:FnScope N ps scope) (hd:A.handled=none) (e0:Env0 P w K mg base A outer s H) (hl:vs.length=ps.length) (r:Vals vs us)
    (x:InCallC s s.heap.objs.size (bindL (envOfC qual scope s.heap.objs.size f cd).kindOf (ps.zip us) fun _=>none) (cellsFrom (s.heap.objs.size + 1) scope.names []) (bindC (envOfC qual scope s.heap.objs.size f cd).kindOf (ps.zip us) fun _=>none) s1) :
    Inv (cxOf CX P w K mg base N qual scope f cd A outer s H E) [] (start N vs) H s1:=by
  have hpl:ps.length <= N.length:=by have:=congrArg List.length S.pre;rw [List.length_take] at this;omega
  obtain ⟨h1,tk,rfl,hk⟩:=x.done
  have noA:∀ b:Addr,b ∉ (cxOf CX P w K mg base N qual scope f cd A outer s H E).ex:=fun b z=>absurd (show b ∈ ([]:List Addr) from z) (by simp)
  refine ⟨⟨e0.mod,S.kind,rfl,rfl,Nat.le_refl _,fun y z c h1 h2=>?_,fun y hy=>?_,fun y c _ h=>?_,fun _=>hd,Around.frames_deeper e0.frames,.inr ⟨rfl,rfl⟩,fun b z=>absurd z (noA b),e0.bs,e0.bsz,fun b _ _=>noA b,fun b z=>absurd z (noA b),e0.funs,e0.frf⟩,
    rfl,e0.bare,Un.kept hk,⟨_,x.toInCall.ns,fun i y v h1 h2 h3=>?_⟩,fun y c h=>⟨_,x.cell y c h⟩,e0.hok.fresh (Nat.le_refl _),fun y c h=>?_,fun p hp=>absurd (show p ∈ ([]:List (Addr × Obj)) from hp) (by simp),e0.hok.kept hk,?_⟩
  . exact name_of_addr x.apart (PySem.mem_of_lookup h1) (PySem.mem_of_lookup h2)
  . have hy:scope.names.lookup y=some .cell \/ scope.names.lookup y=some .free:=hy
    rcases hy with hy | hy
    . exact Cz hy
    . exact absurd rfl (S.nofree _ (PySem.mem_of_lookup hy))
  . exact Nat.le_of_lt (x.above y c (PySem.mem_of_lookup h))
  . have hi:i < vs.length:=by
      unfold start at h2
      by_cases hi:i < vs.length
      . exact hi
      . rw [List.getElem?_append_right (by simpa using hi)] at h2
        rw [List.getElem?_replicate] at h2
        split at h2 <;> cases h2
    have ha:vs[i]?=some v:=by
      unfold start at h2
      rw [List.getElem?_append_left (by simpa using hi),List.getElem?_map] at h2
      cases e:vs[i]? with
      | none=>rw [e] at h2;cases h2
      | some a=>rw [e] at h2;cases h2;rfl
    obtain ⟨u,hu,rv⟩:=r.get ha
    have hp:ps[i]?=some y:=by
      rw [<-S.pre,List.getElem?_take_of_lt (by omega)];exact h1
    have ndP:ps.Nodup:=by rw [<-S.pre];exact S.nd.sublist (List.take_sublist _ _)
    refine ⟨u,rv,?_⟩
    rcases S.par y (List.mem_of_getElem? hp) with k | k
    . exact .inl ⟨k,Bq ndP hp hu k⟩
    . obtain ⟨c,e⟩:=Cz (n:=s.heap.objs.size + 1) k
      refine .inr ⟨.inl k,c,e,?_⟩
      have q:=x.cell y c e
      rw [Br ndP hp hu (by show scope.names.lookup y ≠ _;rw [k];decide)] at q
      exact q
  . exact e0.hok.fresh (Nat.le_of_lt (x.above y c (PySem.mem_of_lookup h)))
  . unfold start
    show _=N.length
    rw [List.length_append,List.length_map,List.length_replicate]
    omega
theorem OA {CX:CXT}{P:Program}{w:World}{K:PySem.W.Frag}{mg:Str->Option Value}{base:Heap}{k:Nat}{f:Addr}{name qual:Str}{params:Arguments}{body:List Stmt}{scope:Scope}{dV kV doc pm cdv ct oc:Value}{an od:Option Addr}
    {osl:Array (Option Value)}{N ps:List Str}{sp:Sp} (lk:K.lookup f=some ⟨oc,od,.func (PySem.W.fnOf name qual params body scope dV kV doc pm an cdv ct),osl⟩) (hcd:PySem.W.codeIn K cdv qual=true) (S:FnScope N ps scope)
    (len:∀ vs H Q E,sp vs H Q E->vs.length=ps.length)
    (hbody:∀ (A:Around) (outer:List Env) (s:Shared) (H:Hp) (vs:List V) (Q:VK) (E:XK),Room k (A.deeper (envOfC qual scope s.heap.objs.size f cdv))->sp vs H Q E ->
      ∃ t,PSs (cxOf CX P w K mg base N qual scope f cdv A outer s H E) body t /\ t { nx:=fun _ H'=>Q .non H',rt:=Q } (start N vs) H) :
    FnOk P w K mg base CX (k + 1) f (PySem.W.fnOf name qual params body scope dV kV doc pm an cdv ct) ps sp:=by
  refine ⟨len,fun A outer s H args us vs Q E hr e0 hb r hsp=>?_⟩
  have hl:=len _ _ _ _ hsp
  have KX:K.In s.heap:=e0.mod.kin.keeps fun b o e=>(e0.bs b o e).1
  have lim:s.heap.NoLimit:=e0.mod.nolimit.keeps fun b o e=>(e0.bs b o e).1
  have hkind:∀ y ∈ ps.zip us,scope.names.lookup y.1=some .local \/ (scope.names.lookup y.1=some .cell /\ ((cellsFrom (s.heap.objs.size + 1) scope.names []).lookup y.1).isSome=true):=fun ⟨n,v⟩ hy=>by
    rcases S.par n (List.of_mem_zip hy).1 with q | q
    . exact .inl q
    . exact .inr ⟨q,PySem.W.cellsFrom_some _ _ _ (.inl q)⟩
  refine codeAny_call_function hr.depth (KX _ _ lk) rfl S.co S.gen rfl (PySem.W.codeRec_of KX hcd) (hb _ _ _ _ ?_)
  refine wpAny_newFunctionEnv_cells S.kind hkind fun env he s1 x=>?_
  subst he
  refine ⟨lim.keeps x.toInCall.keep,codeAny_func ?_⟩
  obtain ⟨t,ht,hq⟩:=hbody A outer s H vs Q E (hr.deeper _) hsp
  have I:Inv (cxOf CX P w K mg base N qual scope f cdv A outer s H E) [] (start N vs) H s1:=Gs S hr.hd e0 hl r x
  refine wpAny_mono (ht [] s1 (start N vs) H _ I hq) (fun fl s' hs=>?_) fun e s' hs=>hs
  have fin:∀ {σ':St}{H':Hp}{v:V}{u:Value},Inv (cxOf CX P w K mg base N qual scope f cdv A outer s H E) [] σ' H' s'->RelV v u->Q v H'->CE outer P w H s Q u s' :=
    fun {σ' H' v u} J rv q=>⟨v,H',J.os,J.bare,J.base,J.hok,rv,q⟩
  cases fl with
  | ret u =>
    obtain ⟨v,σ',H',J,rv,q⟩:=hs
    exact fin J rv q
  | next =>
    obtain ⟨σ',H',J,q⟩:=hs
    exact fin (v:=V.non) (u:=Value.none) J rfl q
  | brk =>
    obtain ⟨_,_,_,q⟩:=hs
    exact False.elim q
  | cont =>
    obtain ⟨_,_,_,q⟩:=hs
    exact False.elim q
end L2
namespace L2
open PySem PySem.Spec PyProof.Rows
section
variable {X : Cx} {x : Str} {p pos : Pos} {e : Expr} {es : List Expr} {t : TA} {id T : String} {r : List V -> Hp -> VK -> Prop}
noncomputable def tCB (r:List V->Hp->VK->Prop) (t:TA):TE:=fun σ H Q=>t σ H fun vs H1=>r vs H1 Q
theorem oH (hc:CallR X (.builtin id) r) (hg:Gl X x) (hm:X.mg x=none) (hv:bootBuiltins x=some (.builtin id)) (ha:PA X (e :: es) t) (hn:x ≠ "__name__":=by decide) (hdb:(x == ("__debug__":Str))=false:=by decide)
    (he:starEach (e :: es) X.env=(false,eval e X.env) :: starEach es X.env:=by rfl) (hpl:(backTo pos (starEach es X.env)).any (·.1)=false:=by rfl):PE X (.Call (.Name x p) (e :: es) [] pos) (tCB r t):=by
  intro pins s σ H Q I h
  refine wpAny_Call_Name_kw (lW I hg hm hv ?_ hn hdb)
  exact PyProof.Rows.callWith_builtin1 (thn (ha pos pins s σ H _ I h) fun us s1 ⟨vs,H1,I1,r1,q1⟩=>hc pins s1 σ H1 vs us Q I1 r1 q1) he hpl
theorem Gu (hc:CallR X (.type T) r) (hg:Gl X x) (hm:X.mg x=none) (hv:bootBuiltins x=some (.type T)) (ha:PA X (e :: es) t) (hn:x ≠ "__name__":=by decide) (hdb:(x == ("__debug__":Str))=false:=by decide)
    (he:starEach (e :: es) X.env=(false,eval e X.env) :: starEach es X.env:=by rfl) (hpl:(backTo pos (starEach es X.env)).any (·.1)=false:=by rfl):PE X (.Call (.Name x p) (e :: es) [] pos) (tCB r t):=by
  intro pins s σ H Q I h
  refine wpAny_Call_Name_kw (lW I hg hm hv ?_ hn hdb)
  exact PyProof.Rows.callWith_type1 (thn (ha pos pins s σ H _ I h) fun us s1 ⟨vs,H1,I1,r1,q1⟩=>hc pins s1 σ H1 vs us Q I1 r1 q1) he hpl
end
end L2
namespace HT
open PySem PyProof.Rows
noncomputable def lexLt:List Int->List Int->Bool
  | [],[]=>false
  | [],_ :: _=>true
  | _ :: _,[]=>false
  | x :: xs,y :: ys=>if x=y then lexLt xs ys else decide (x < y)
theorem i3 (x y:Int) (xs ys:List Int):lexLt (x :: xs) (y :: ys)=if x=y then lexLt xs ys else decide (x < y):=rfl
theorem oi:lexLt [] []=false:=rfl
theorem mI (y:Int) (ys:List Int):lexLt [] (y :: ys)=true:=rfl
theorem mJ (x:Int) (xs:List Int):lexLt (x :: xs) []=false:=rfl
theorem CA (A:Around) (s:Shared) (a:Int) (t:Tok) (c:Int) (u:Tok):∃ e,SeqAt.EqAt A s (.int a t) (.int c u) e /\ (e=true ↔ a=c) :=
  ⟨(a == c),SeqAt.EqAt.int_int a t c u,by simp⟩
theorem Je (A:Around) (s:Shared) (a:Int) (t:Tok) (c:Int) (u:Tok) (prog:Program) (w:World) (E:Value->Shared->Prop) (Q:Value->Shared->Prop) (h:Q (.bool (decide (a < c))) s) :
    wpAny (model prog w) A (richCompare .Lt (.int a t) (.int c u)) Q E s :=
  (PyProof.Rows.lt_int h:wpAny (model prog w) A (compareOp .Lt (.int a t) (.int c u)) Q E s)
section
open PySem.SeqAt
open PySem.AutoSeq1 (wpAny_loadPart')
open PySem.MeetsSeq PySem.MeetsSeq2 PySem.MeetsSeq3
theorem A9 (l b:Addr) (items items2:Array Value) (n n2:Nat) (dd dd2:Option Addr) (sl sl2:Array (Option Value)) (ns ms:List Int) (hi:IntsAre items.toList ns) (hj:IntsAre items2.toList ms) :
    Meets (Builtin.«tuple.__lt__» ⟨[.ref l,.ref b],[]⟩)
      (fun _ R s=>s.heap.get? l=some { cls:=.type "tuple",dict:=dd,data:=.seq items n,slots:=sl } /\ s.heap.get? b=some { cls:=.type "tuple",dict:=dd2,data:=.seq items2 n2,slots:=sl2 } /\
        R (.ok (.ret (.bool (lexLt ns ms)))) s) :=
  .of_wp fun prog w A R s h=>by
    obtain ⟨hp,g,d,tk,os⟩:=s;obtain ⟨hl,hb,h⟩:=h
    have f2:=AutoSeq1.sub_tuple_tuple
    have z1:items.size=ns.length:=by rw [<-hi.length];simp
    have z2:items2.size=ms.length:=by rw [<-hj.length];simp
    wp_walk using wpAny_loadPart' hl,wpAny_loadPart' hb,wpAny_forIn_list _ (fun rest b s'=>b.1=none /\ s'=⟨hp,g,d,tk,os⟩ /\ ∃ (vs ws:List Value) (ns' ms':List Int),rest=vs.zip ws /\
      IntsAre vs ns' /\ IntsAre ws ms' /\ ns'.length + items2.size=ms'.length + items.size /\ R (.ok (.ret (.bool (lexLt ns' ms')))) ⟨hp,g,d,tk,os⟩) _
    case turn =>
      rintro ⟨y,x⟩ rest b s' ⟨hb',rfl,vs,ws,ns',ms',hz,hvi,hwi,hlen,hR⟩
      cases hvi with
      | nil=>rw [List.zip_nil_left] at hz;cases hz
      | cons a t hvi' =>
        cases hwi with
        | nil=>rw [List.zip_nil_right] at hz;cases hz
        | cons c u hwi' =>
          rw [List.zip_cons_cons] at hz
          injection hz with hyx hrest
          injection hyx with hy hx
          subst hy hx
          rw [i3] at hR
          simp only [List.length_cons] at hlen
          obtain ⟨e,he,hiff⟩:=CA A.in1 ⟨hp,g,d,tk,os⟩ a t c u
          refine wpAny_bind (he prog w _ _ ?_)
          cases e with
          | true =>
            rw [if_pos (hiff.mp rfl)] at hR
            wp_walk
            exact ⟨rfl,rfl,_,_,_,_,hrest,hvi',hwi',by omega,hR⟩
          | false =>
            rw [if_neg (fun q=>absurd (hiff.mpr q) Bool.false_ne_true)] at hR
            have hri:=Je A.in1 ⟨hp,g,d,tk,os⟩ a t c u prog w
            wp_walk using hri
            exact ⟨_,rfl,by simpa using hR⟩
    case fin =>
      rintro ⟨b1,b2⟩ s' ⟨hb',rfl,vs,ws,ns',ms',hz,hvi,hwi,hlen,hR⟩
      simp only at hb'
      subst hb'
      have hv:lexLt ns' ms'=decide (items.size < items2.size):=by
        cases hvi with
        | nil =>
          cases hwi with
          | nil =>
            simp only [List.length_nil] at hlen
            rw [oi]
            exact (decide_eq_false (by omega)).symm
          | cons c u hw =>
            simp only [List.length_nil,List.length_cons] at hlen
            rw [mI]
            exact (decide_eq_true (by omega)).symm
        | cons a t hv =>
          cases hwi with
          | nil =>
            simp only [List.length_nil,List.length_cons] at hlen
            rw [mJ]
            exact (decide_eq_false (by omega)).symm
          | cons c u hw =>
            rw [List.zip_cons_cons] at hz
            cases hz
      rw [hv] at hR
      wp_walk
      exact ⟨_,rfl,by simpa [Builtin.Tuple.tupleCompareSizes] using hR⟩
    case h =>
      exact ⟨rfl,rfl,items.toList,items2.toList,ns,ms,rfl,hi,hj,by omega,h⟩
end
section
variable {prog : Program} {w : World} {A : Around} {E : Value -> Shared -> Prop} {s : Shared}
theorem Dx {l b:Addr}{items items2:Array Value}{ns ms:List Int}{Q:Value->Shared->Prop} (hl:IsTup s.heap l items) (hb:IsTup s.heap b items2) (hi:IntsAre items.toList ns) (hj:IntsAre items2.toList ms)
    (hu:A.units < cLine) (h:Q (.bool (lexLt ns ms)) s):wpAny (model prog w) A (compareOp .Lt (.ref l) (.ref b)) Q E s:=by
  obtain ⟨⟨cls,dd,data,sl⟩,ho,hc,n,hd⟩:=id hl
  obtain ⟨⟨cls2,dd2,data2,sl2⟩,ho2,hc2,n2,hd2⟩:=id hb
  simp only at hc hd hc2 hd2
  subst hc hd hc2 hd2
  exact richCompare_meets_room (op:=.Lt) ⟨_,ho,rfl⟩ ⟨_,ho2,rfl⟩ PySem.F.slot_tuple_lt PySem.F.entry_tuple_lt (PySem.F.args_tuple_lt_2 _ _) (A9 l b items items2 n n2 dd dd2 sl sl2 ns ms hi hj)
    ⟨ho,ho2,show Value.bool (lexLt ns ms) ≠ Value.notImplemented /\ Q (.bool (lexLt ns ms)) s from ⟨(fun x=>nomatch x),h⟩⟩ hu
theorem LU {t b:Addr}{vs ws:List Value}{Q:Value->Shared->Prop} (ht:IsTup s.heap t vs.toArray) (hb:IsTup s.heap b ws.toArray) (hv:vs ≠ [])
    (h1:ws=[]->Q (.ref t) s) (h2:ws ≠ []->Q (.ref s.heap.objs.size) { s with heap:=s.heap.push { cls:=.type "tuple",data:=.seq (vs ++ ws).toArray } })
    (hsz:vs.length + ws.length <= sizeLine):wpAny (model prog w) A (binaryOp .Add (.ref t) (.ref b)) Q E s:=by
  obtain ⟨⟨cls,dd,data,sl⟩,ho,hc,n,hd⟩:=id ht
  obtain ⟨⟨cls2,dd2,data2,sl2⟩,ho2,hc2,n2,hd2⟩:=id hb
  simp only at hc hd hc2 hd2
  subst hc hd hc2 hd2
  have e:vs.toArray ++ ws.toArray=(vs ++ ws).toArray:=by simp
  by_cases hw:ws=[]
  . exact concat_meets ⟨_,ho,rfl⟩ ⟨_,ho2,rfl⟩ noFill_tuple_add seq_tuple_add PySem.F.slot_tuple_add PySem.F.entry_tuple_add (PySem.F.args_tuple_add_2 _ _)
      (tuple_addW1 t b vs.toArray ws.toArray n n2 dd dd2 sl sl2 (by simpa using hv) (by simp [hw])) ⟨ho,ho2,h1 hw⟩
  . refine concat_meets ⟨_,ho,rfl⟩ ⟨_,ho2,rfl⟩ noFill_tuple_add seq_tuple_add PySem.F.slot_tuple_add PySem.F.entry_tuple_add (PySem.F.args_tuple_add_2 _ _)
      (tuple_addW2 t b vs.toArray ws.toArray n n2 dd dd2 sl sl2 (by simpa using hv) (by simpa using hw) (by rw [List.size_toArray,List.size_toArray];exact hsz)) ⟨ho,ho2,?_⟩
    rw [e]
    exact h2 hw
noncomputable def sIx (n d:Nat):Option Int->Nat
  | none=>d
  | some v=>if v < 0 then (v + (n:Int)).toNat else min v.toNat n
theorem Jf (n d:Nat):sIx n d none=d:=rfl
theorem LV (n d k:Nat):sIx n d (some (k:Int))=min k n:=by
  show (if (k:Int) < 0 then ((k:Int) + (n:Int)).toNat else min (k:Int).toNat n)=min k n
  rw [if_neg (by omega),Int.toNat_natCast]
theorem Nt (n d:Nat) (hd:d <= n) (o:Option Int):sIx n d o <= n:=by
  cases o with
  | none=>exact hd
  | some v =>
    show (if v < 0 then (v + (n:Int)).toNat else min v.toNat n) <= n
    by_cases hv:v < 0
    . rw [if_pos hv];omega
    . rw [if_neg hv];exact Nat.min_le_right _ _
theorem Fz (v:Int) (n d:Nat):(if v < 0 then max (v + (n:Int)) 0 else min v (n:Int))=((sIx n d (some v):Nat):Int):=by
  show (if v < 0 then max (v + (n:Int)) 0 else min v (n:Int))=(((if v < 0 then (v + (n:Int)).toNat else min v.toNat n):Nat):Int)
  by_cases hv:v < 0
  . simp only [if_pos hv];omega
  . simp only [if_neg hv];omega
theorem Dy (lo hi:Option Int) (n:Nat):Builtin.Slice.sliceAdjust lo hi 1 (n:Int)=(((sIx n 0 lo:Nat):Int),((sIx n n hi:Nat):Int)):=by
  have h1:¬ ((1:Int) < 0):=by omega
  unfold Builtin.Slice.sliceAdjust
  simp only [h1,if_false]
  refine Prod.ext ?_ ?_
  . cases lo with
    | none=>rfl
    | some v=>exact Fz v n 0
  . cases hi with
    | none=>rfl
    | some v=>exact Fz v n n
theorem Dz (i j:Nat):Builtin.Slice.slicePlaces (i:Int) (j:Int) 1=j - i:=by
  unfold Builtin.Slice.slicePlaces
  have h1:(1:Int) > 0:=by omega
  simp only [h1,if_true,Int.ediv_one]
  split <;> omega
theorem AB {v:Value}{o:Option Int}{Q:Option Int->Shared->Prop} (p:IsPart v o) (h:Q o s):wpAny (model prog w) A (Builtin.Slice.slicePartIndex v) Q E s:=by
  cases p with
  | none=>exact slicePart_none h
  | int i t=>exact slicePart_int h
theorem lM {sl:Addr}{vl vu:Value}{lo hi:Option Int}{n:Nat}{Q:Int × Int × Nat->Shared->Prop} (hs:s.heap.IsSliceOf sl vl vu .none) (pl:IsPart vl lo) (pu:IsPart vu hi)
    (h:Q (((sIx n 0 lo:Nat):Int),1,sIx n n hi - sIx n 0 lo) s):wpAny (model prog w) A (Builtin.Slice.sliceApplied (.ref sl) (pure (n:Int))) Q E s:=by
  obtain ⟨os,hos,hcs,hds⟩:=id hs
  unfold Builtin.Slice.sliceApplied Builtin.Slice.sliceFields
  refine wpAny_bind (wpAny_bind (wpAny_field hos hds (x:=vl) rfl (wpAny_bind (wpAny_field hos hds (x:=vu) rfl (wpAny_bind (wpAny_field hos hds (x:=.none) rfl (wpAny_pure ?_)))))))
  refine wpAny_bind (slicePart_none ?_)
  show wpAny _ _ (if ((1:Int) == 0)=true then _ else _) _ _ s
  rw [if_neg (by decide)]
  refine wpAny_bind (AB pl (wpAny_bind (AB pu (wpAny_bind (wpAny_pure ?_)))))
  show wpAny _ _ (match Builtin.Slice.sliceAdjust lo hi 1 (n:Int) with | (lo,hi)=>pure (lo,(1:Int),Builtin.Slice.slicePlaces lo hi 1)) _ _ s
  rw [Dy lo hi n]
  show wpAny _ _ (pure (((sIx n 0 lo:Nat):Int),(1:Int),Builtin.Slice.slicePlaces ((sIx n 0 lo:Nat):Int) ((sIx n n hi:Nat):Int) 1)) _ _ s
  rw [Dz]
  exact wpAny_pure h
theorem Jg (xs:Array Value) (i k:Nat):((List.range k).filterMap fun (m:Nat)=>xs[((i:Int) + (m:Int) * 1).toNat]?).toArray=((xs.toList.drop i).take k).toArray:=by
  have e:(fun (m:Nat)=>xs[((i:Int) + (m:Int) * 1).toNat]?)=fun m=>xs[i + m]?:=by
    funext m
    have:((i:Int) + (m:Int) * 1).toNat=i + m:=by omega
    rw [this]
  rw [e]
  have:=pick_run xs i k
  rw [List.filterMap_map] at this
  have e2:((fun x=>xs[x]?) ∘ fun x=>i + x)=fun m=>xs[i + m]?:=rfl
  rw [e2] at this
  rw [this]
theorem oI {t sl:Addr}{items:Array Value}{vl vu:Value}{lo hi:Option Int}{Q:Value->Shared->Prop} (ht:IsTup s.heap t items) (hs:s.heap.IsSliceOf sl vl vu .none) (pl:IsPart vl lo) (pu:IsPart vu hi)
    (hw:¬ (sIx items.size 0 lo=0 /\ sIx items.size items.size hi=items.size))
    (h:Q (.ref s.heap.objs.size) { s with heap:=s.heap.push { cls:=.type "tuple",data:=.seq ((items.toList.drop (sIx items.size 0 lo)).take (sIx items.size items.size hi - sIx items.size 0 lo)).toArray } })
    (hsz:items.size <= sizeLine):wpAny (model prog w) A (getItem (.ref t) (.ref sl)) Q E s:=by
  have htake:sizeOk (.seq ((items.toList.drop (sIx items.size 0 lo)).take (sIx items.size items.size hi - sIx items.size 0 lo)).toArray):=by
    show ((items.toList.drop (sIx items.size 0 lo)).take (sIx items.size items.size hi - sIx items.size 0 lo)).toArray.size <= sizeLine
    rw [List.size_toArray,List.length_take,List.length_drop,Array.length_toList]
    omega
  have hj:sIx items.size items.size hi <= items.size:=Nt _ _ (Nat.le_refl _) hi
  obtain ⟨os,hos,hcs,hds⟩:=id hs
  have hTs:s.TypeIs (.ref sl) "slice":=⟨os,hos,hcs⟩
  unfold getItem
  try with_reducible refine wpAny_holding ?_
  first | refine wpAny_bind (wpAny_pure ?_) | skip
  refine wpAny_bind (wpAny_sequenceKey ht.typeIs (by decide) ?_)
  refine wpAny_bind (wpAny_callSpecial?_slot (name:=Str.ofString "__getitem__") ht.typeIs PyProof.Rows.slot_tuple_getitem
    (wpAny_call_entry PyProof.Rows.slot_tuple_getitem ht.typeIs entry_tuple_getitem ?_ (args_tuple_getitem _ _)))
  show wpAny _ _ (Builtin.Tuple.tupleItemsOf (.ref t) >>= _) _ _ s
  refine wpAny_bind (tupleItemsOf_ ht ?_)
  refine wpAny_bind (wpAny_typeOf hTs ?_)
  rw [if_pos (by decide)]
  refine wpAny_bind (lM hs pl pu ?_)
  have hno:¬ ((((sIx items.size 0 lo:Nat):Int) == 0 && (1:Int) == 1 && (sIx items.size items.size hi - sIx items.size 0 lo) == items.size)=true):=by
    intro q
    rw [Bool.and_eq_true,Bool.and_eq_true] at q
    have q1:((sIx items.size 0 lo:Nat):Int)=0:=eq_of_beq q.1.1
    have q2:sIx items.size items.size hi - sIx items.size 0 lo=items.size:=eq_of_beq q.2
    exact hw ⟨by omega,by omega⟩
  show wpAny _ _ (if (((sIx items.size 0 lo:Nat):Int) == 0 && (1:Int) == 1 && (sIx items.size items.size hi - sIx items.size 0 lo) == items.size)=true then _ else _) _ _ s
  rw [if_neg hno,Jg]
  first
    | exact wpAny_bind (m:=Builtin.Tuple.tupleExact _) (wpAny_newObj_type (wpAny_pure ⟨_,rfl,wpAny_pure h⟩) htake)
    | exact wpAny_bind (m:=Builtin.Tuple.tupleExact _) (wpAny_newObj_type (wpAny_bind (wpAny_pure (wpAny_pure ⟨_,rfl,wpAny_pure h⟩))) htake)
    | exact wpAny_bind (wpAny_bind (m:=Builtin.Tuple.tupleExact _) (wpAny_newObj_type (wpAny_pure (wpAny_pure ⟨_,rfl,wpAny_pure h⟩)) htake))
    | exact wpAny_bind (wpAny_bind (m:=Builtin.Tuple.tupleExact _) (wpAny_newObj_type (wpAny_pure ⟨_,rfl,wpAny_pure h⟩) htake))
end
end HT
namespace L2
open PySem PySem.Spec PyProof.Rows
noncomputable abbrev TO:=St->Hp->(Option Int->Hp->Prop)->Prop
noncomputable def PO (X:Cx) (e:Option Expr) (t:TO):Prop :=
  ∀ (pins:List (Addr × Obj)) (s:Shared) (σ:St) (H:Hp) (Q:Option Int->Hp->Prop),Inv X pins σ H s->t σ H Q ->
    wpAny (model X.prog X.w) X.A (evalPart e X.env) (fun u s'=>∃ o H',Inv X pins σ H' s' /\ IsPart u o /\ Q o H') X.xe s
noncomputable def tNoPart:TO:=fun _ H Q=>Q none H
noncomputable def tPart (t:TE):TO:=fun σ H Q=>t σ H fun x H1=>∃ i,x=.int i /\ Q (some i) H1
theorem i4 {ns:List Int}:∀ {us:List Value},Vals (ns.map V.int) us->IntsAre us ns:=by
  induction ns with
  | nil=>intro us r;rw [List.map_nil] at r;cases r;exact .nil
  | cons n ns ih =>
    intro us r
    rw [List.map_cons] at r
    cases r with
    | cons r1 r2 =>
      obtain ⟨t,e⟩:=r1
      subst e
      exact .cons n t (ih r2)
section
variable {X : Cx} {e : Expr} {te : TE} {lo hi : Option Expr} {tl th : TO} {pos p2 : Pos}
theorem LW:PO X none tNoPart:=by
  intro pins s σ H Q I h
  rw [evalPart_none]
  exact wpAny_pure ⟨none,H,I,.none,h⟩
theorem LX (h:PE X e te):PO X (some e) (tPart te):=by
  intro pins s σ H Q I hw
  rw [evalPart_some]
  refine thn (h pins s σ H _ I hw) fun u s1 ⟨x,H1,I1,r1,q1⟩=>?_
  obtain ⟨i,rfl,q⟩:=q1
  obtain ⟨t,rfl⟩:=r1
  exact ⟨some i,H1,I1,.int i t,q⟩
noncomputable def SlR (X:Cx) (r:V->Option Int->Option Int->Hp->VK->Prop):Prop :=
  ∀ (pins:List (Addr × Obj)) (s:Shared) (σ:St) (H:Hp) (x:V) (v vl vu:Value) (lo hi:Option Int) (sl:Addr) (Q:VK),Inv X pins σ H s->RelV x v->s.heap.IsSliceOf sl vl vu .none->IsPart vl lo->IsPart vu hi->r x lo hi H Q ->
    ∃ T id,typeLookup (.type T) "__getitem__"=pure (some (.builtin id)) /\ s.TypeIs v T /\ wpAny (model X.prog X.w) X.A (getItem v (.ref sl)) (EP X pins σ Q) X.xe s
theorem SlR.or {r r':V->Option Int->Option Int->Hp->VK->Prop} (h:SlR X r) (h':SlR X r'):SlR X (fun x lo hi H Q=>r x lo hi H Q \/ r' x lo hi H Q):=by
  intro pins s σ H x v vl vu lo hi sl Q I rx hs pl pu q
  rcases q with q | q
  . exact h pins s σ H x v vl vu lo hi sl Q I rx hs pl pu q
  . exact h' pins s σ H x v vl vu lo hi sl Q I rx hs pl pu q
noncomputable def tSl (r:V->Option Int->Option Int->Hp->VK->Prop) (te:TE) (tl th:TO):TE:=fun σ H Q=>te σ H fun x H1=>tl σ H1 fun l H2=>th σ H2 fun u H3=>r x l u H3 Q
theorem Jh {r:V->Option Int->Option Int->Hp->VK->Prop} (hr:SlR X r) (he:PE X e te) (hl:PO X lo tl) (hu:PO X hi th):PE X (.Subscript e (.Slice lo hi none p2) pos) (tSl r te tl th):=by
  intro pins s σ H Q I h
  refine Subscript_ (thn (he pins s σ H _ I h) fun v s1 ⟨x,H1,I1,r1,q1⟩=>?_)
  refine wpAny_Slice (thn (hl pins s1 σ H1 _ I1 q1) fun vl s2 ⟨l,H2,I2,pl,q2⟩=>thn (hu pins s2 σ H2 _ I2 q2) fun vu s3 ⟨u,H3,I3,pu,q3⟩=>?_)
  rw [evalPart_none]
  refine wpAny_pure ?_
  have I4:Inv X pins σ H3 { s3 with heap:=s3.heap.push { cls:=.type "slice",data:=.fields #[vl,vu,.none] } }:=I3.kept (t':=s3.toks) fun b ob q=>Heap.get?_push_of_some _ q
  obtain ⟨T,id,hT,ht,hg⟩:=hr pins { s3 with heap:=s3.heap.push { cls:=.type "slice",data:=.fields #[vl,vu,.none] } } σ H3 x v vl vu l u s3.heap.objs.size Q I4 r1 (Heap.IsSliceOf.new ..) pl pu q3
  show wpAny (model X.prog X.w) X.A (subscriptTail e (.Slice lo hi none p2) v (.ref s3.heap.objs.size)) (EP X pins σ Q) X.xe { s3 with heap:=s3.heap.push { cls:=.type "slice",data:=.fields #[vl,vu,.none] } }
  exact tail_any (ops:=[.ref s3.heap.objs.size,v]) ht hT hg (by with_unfolding_all rfl)
noncomputable def cutV (xs:List V) (lo hi:Option Int):List V:=(xs.drop (HT.sIx xs.length 0 lo)).take (HT.sIx xs.length xs.length hi - HT.sIx xs.length 0 lo)
theorem Af (xs:List V) (lo hi:Option Int):(cutV xs lo hi).length <= xs.length:=by
  unfold cutV
  rw [List.length_take,List.length_drop]
  omega
noncomputable def rSlT (K:PySem.W.Frag):V->Option Int->Option Int->Hp->VK->Prop:=fun x lo hi H Q=>∃ a xs,x=.ref a /\ SqT K H a xs /\
  ¬ (HT.sIx xs.length 0 lo=0 /\ HT.sIx xs.length xs.length hi=xs.length) /\ ∀ p,H p=none->Q (.ref p) (upd H p (.tup (cutV xs lo hi)))
theorem Nu:SlR X (rSlT X.K):=by
  intro pins s σ H x v vl vu lo hi sl Q I rx hs pl pu h
  obtain ⟨a,xs,rfl,hx,hw,q⟩:=h
  cases rx
  obtain ⟨its,r,ht,hz⟩:=I.tuple hx
  have hlen:its.toArray.size=xs.length:=by rw [List.size_toArray];exact r.length.symm
  refine ⟨"tuple",_,PyProof.Rows.slot_tuple_getitem.lookup,ht.typeIs,?_⟩
  refine HT.oI ht hs pl pu (by rw [hlen];exact hw) ?_ (by rw [hlen];exact hz)
  rw [hlen]
  refine ⟨.ref s.heap.objs.size,_,I.laid (t':=s.toks) (o:=.tup (cutV xs lo hi)) (fun b ob q=>Heap.get?_push_of_some _ q) (Nat.le_refl _) ?_,rfl,q _ (I.hok.fresh (Nat.le_refl _))⟩
  exact ⟨Nat.le_trans (Af xs lo hi) hz,_,(r.drop (HT.sIx xs.length 0 lo)).take (HT.sIx xs.length xs.length hi - HT.sIx xs.length 0 lo),IsTup.new _ _⟩
noncomputable def rLtT (K:PySem.W.Frag):R2:=fun x y H Q=>∃ a b ns ms,x=.ref a /\ y=.ref b /\ SqT K H a (ns.map V.int) /\ SqT K H b (ms.map V.int) /\ Q (.bl (HT.lexLt ns ms)) H
theorem Nv (hu:X.A.units < cLine):OpR X (compareOp .Lt) (rLtT X.K):=by
  intro pins s σ H x y v u Q I rx ry h
  obtain ⟨a,b,ns,ms,rfl,rfl,ha,hb,q⟩:=h
  cases rx
  cases ry
  obtain ⟨its,r1,p1,_⟩:=I.tuple ha
  obtain ⟨its2,r2,p2,_⟩:=I.tuple hb
  have i1:IntsAre its.toArray.toList ns:=i4 r1
  have i2:IntsAre its2.toArray.toList ms:=i4 r2
  exact HT.Dx p1 p2 i1 i2 hu ⟨.bl (HT.lexLt ns ms),H,I,rfl,q⟩
noncomputable def rCatT (K:PySem.W.Frag):R2:=fun x y H Q=>∃ a b xs ys,x=.ref a /\ y=.ref b /\ SqT K H a xs /\ SqT K H b ys /\ xs ≠ [] /\ xs.length + ys.length <= sizeLine /\
  (ys=[]->Q (.ref a) H) /\ (ys ≠ []->∀ p,H p=none->Q (.ref p) (upd H p (.tup (xs ++ ys))))
theorem Vals.nil_iff {xs:List V}{us:List Value} (r:Vals xs us):us=[] ↔ xs=[]:=by
  cases r with
  | nil=>simp
  | cons _ _=>simp
theorem LY:OpR X (binaryOp .Add) (rCatT X.K):=by
  intro pins s σ H x y v u Q I rx ry h
  obtain ⟨a,b,xs,ys,rfl,rfl,ha,hb,hx,hz,q1,q2⟩:=h
  cases rx
  cases ry
  obtain ⟨its,r1,p1,_⟩:=I.tuple ha
  obtain ⟨its2,r2,p2,_⟩:=I.tuple hb
  refine HT.LU p1 p2 (fun z=>hx (r1.nil_iff.mp z)) (fun z=>⟨.ref a,H,I,rfl,q1 (r2.nil_iff.mp z)⟩) (fun z=>?_) (by rw [<-r1.length,<-r2.length];exact hz)
  refine ⟨.ref s.heap.objs.size,_,I.laid (t':=s.toks) (o:=.tup (xs ++ ys)) (fun b ob q=>Heap.get?_push_of_some _ q) (Nat.le_refl _) ?_,rfl,q2 (fun w=>z (r2.nil_iff.mpr w)) _ (I.hok.fresh (Nat.le_refl _))⟩
  exact ⟨by rw [List.length_append];exact hz,_,r1.append r2,IsTup.new _ _⟩
end
end L2
namespace L2
open PySem PySem.Spec PyProof.Rows
noncomputable def ixN (n:Nat) (i:Int):Option Nat:=if 0 <= i then (if i < n then some i.toNat else none) else if -(n:Int) <= i then some (i + n).toNat else none
noncomputable def atI {α:Type} (xs:List α) (i:Int):Option α:=(ixN xs.length i).bind fun j=>xs[j]?
theorem BP {n:Nat}{i:Int}{j:Nat} (h:ixN n i=some j):seqIndex? i n=some j /\ j < n /\ -(n:Int) <= i /\ i < n:=by
  unfold ixN at h
  by_cases h0:0 <= i
  . rw [if_pos h0] at h
    by_cases h1:i < n
    . rw [if_pos h1] at h
      have e:i.toNat=j:=Option.some.inj h
      exact ⟨by rw [seqIndex_of h0 h1,e],by omega,by omega,h1⟩
    . rw [if_neg h1] at h;cases h
  . rw [if_neg h0] at h
    by_cases h1:-(n:Int) <= i
    . rw [if_pos h1] at h
      have e:(i + n).toNat=j:=Option.some.inj h
      exact ⟨by rw [seqIndex_neg (by omega) h1,e],by omega,h1,by omega⟩
    . rw [if_neg h1] at h;cases h
theorem BQ {α:Type}{xs:List α}{i:Int}{v:α} (h:atI xs i=some v):∃ j,seqIndex? i xs.length=some j /\ xs[j]?=some v /\ j < xs.length /\ -(xs.length:Int) <= i /\ i < xs.length:=by
  unfold atI at h
  cases e:ixN xs.length i with
  | none=>rw [e] at h;cases h
  | some j =>
    rw [e] at h
    obtain ⟨h1,h2,h3,h4⟩:=BP e
    exact ⟨j,h1,h,h2,h3,h4⟩
noncomputable def PlainIx (b:Expr):Prop:=∀ o i,subscripted b false o i=operate [o,i] (getItem o i)
noncomputable def IxR (X:Cx) (r:R2):Prop :=
  ∀ (value slice:Expr) (pins:List (Addr × Obj)) (s:Shared) (σ:St) (H:Hp) (x y:V) (v u:Value) (Q:VK),Inv X pins σ H s->RelV x v->RelV y u->r x y H Q ->
    subscripted slice false v u=operate [v,u] (getItem v u)->wpAny (model X.prog X.w) X.A (subscriptTail value slice v u) (EP X pins σ Q) X.xe s
noncomputable def MtR (X:Cx) (id:String) (r:V->List V->Hp->VK->Prop):Prop :=
  ∀ (pins:List (Addr × Obj)) (s:Shared) (σ:St) (H:Hp) (x:V) (xs:List V) (v:Value) (us:List Value) (Q:VK),Inv X pins σ H s->RelV x v->Vals xs us->r x xs H Q ->
    wpAny (model X.prog X.w) X.A (call (.builtin id) (v :: us)) (EP X pins σ Q) X.xe s
section
variable {X : Cx} {a b : Expr} {ta tb : TE} {pos : Pos}
theorem IxR.or {r r':R2} (h:IxR X r) (h':IxR X r'):IxR X (fun x y H Q=>r x y H Q \/ r' x y H Q):=by
  intro value slice pins s σ H x y v u Q I rx ry q hs
  rcases q with q | q
  . exact h value slice pins s σ H x y v u Q I rx ry q hs
  . exact h' value slice pins s σ H x y v u Q I rx ry q hs
theorem MV {r:R2} (hr:IxR X r) (ha:PE X a ta) (hb:PE X b tb) (hs:PlainIx b):PE X (.Subscript a b pos) (tOp r ta tb):=by
  intro pins s σ H Q I h
  exact Subscript_ (binT ha hb I h fun v u s2 x y H2 I2 rx ry q=>hr a b pins s2 σ H2 x y v u Q I2 rx ry q (hs _ _))
noncomputable def rIxL (K:PySem.W.Frag):R2:=fun x y H Q=>∃ p xs i v,x=.ref p /\ y=.int i /\ SqL K H p xs /\ atI xs i=some v /\ Q v H
noncomputable def rIxT (K:PySem.W.Frag):R2:=fun x y H Q=>∃ p xs i v,x=.ref p /\ y=.int i /\ SqT K H p xs /\ atI xs i=some v /\ Q v H
noncomputable def rIxS:R2:=fun x y H Q=>∃ z i c,x=.str z /\ y=.int i /\ z.length <= sizeLine /\ atI z.cps.toList i=some c /\ Q (.str ⟨#[c]⟩) H
theorem FA:IxR X (rIxL X.K):=by
  intro value slice pins s σ H x y v u Q I rx ry h hs
  obtain ⟨p,xs,i,z,rfl,rfl,hq,he,q⟩:=h
  cases rx
  obtain ⟨t,rfl⟩:=ry
  obtain ⟨its,r,pl,hz⟩:=I.list hq
  obtain ⟨j,h1,h2,h3,h4,h5⟩:=BQ he
  obtain ⟨w,ew,rw'⟩:=r.get h2
  have hl:=r.length
  have hn:=line63
  have fin:EP X pins σ Q w s:=⟨z,H,I,rw',q⟩
  by_cases h0:0 <= i
  . have hj:i.toNat=j:=by
      rw [seqIndex_of h0 h5] at h1
      exact Option.some.inj h1
    exact item_listR pl.isList h0 (by omega) (by rw [hj];simpa using ew) fin hs
  . have hj:(i + (its.toArray.size:Int)).toNat=j:=by
      rw [seqIndex_neg (by omega) h4] at h1
      rw [List.size_toArray,<-hl]
      exact Option.some.inj h1
    exact subscriptTail_builtinR (x:=w) pl.isList.typeIs slot_list_getitem.lookup
      (wpAny_getItem_list_neg (Q:=fun r s'=>r=w /\ EP X pins σ Q r s') pl.isList (by omega) (by rw [List.size_toArray] <;> omega) (by omega) (by rw [hj];simpa using ew) ⟨rfl,fin⟩) hs
theorem Nw:IxR X (rIxT X.K):=by
  intro value slice pins s σ H x y v u Q I rx ry h hs
  obtain ⟨p,xs,i,z,rfl,rfl,hq,he,q⟩:=h
  cases rx
  obtain ⟨t,rfl⟩:=ry
  obtain ⟨its,r,pl,hz⟩:=I.tuple hq
  obtain ⟨j,h1,h2,h3,h4,h5⟩:=BQ he
  obtain ⟨w,ew,rw'⟩:=r.get h2
  have hl:=r.length
  have hn:=line63
  have fin:EP X pins σ Q w s:=⟨z,H,I,rw',q⟩
  exact subscriptTail_builtinR (x:=w) pl.typeIs slot_tuple_getitem.lookup
    (getItem_tuple (j:=j) (Q:=fun r s'=>r=w /\ EP X pins σ Q r s') pl (by omega) (by omega) (by rw [List.size_toArray,<-hl];exact h1) (by simpa using ew) ⟨rfl,fin⟩) hs
theorem Nx:IxR X rIxS:=by
  intro value slice pins s σ H x y v u Q I rx ry h hs
  obtain ⟨z,i,c,rfl,rfl,hz,he,q⟩:=h
  obtain ⟨t,rfl⟩:=rx
  obtain ⟨t',rfl⟩:=ry
  obtain ⟨j,h1,h2,h3,h4,h5⟩:=BQ he
  have hl:z.cps.toList.length=z.length:=by simp [Str.length]
  rw [hl] at h1 h4 h5
  have hn:=line63
  exact tail_any (typeIs_str s z t) slot_str_getitem.lookup (getItem_str (c:=c) (by
    have e1:decide (i < -(2 ^ 63:Int))=false:=decide_eq_false (by omega)
    have e2:decide (i >= 2 ^ 63)=false:=decide_eq_false (by omega)
    rw [e1,e2,Bool.or_false]) (by rw [h1];simpa using h2) ⟨.str ⟨#[c]⟩,H,I.tok _,⟨_,rfl⟩,q⟩) hs
noncomputable def rIx (K:PySem.W.Frag):R2:=fun x y H Q=>rIxL K x y H Q \/ rIxT K x y H Q \/ rIxS x y H Q
theorem gO:IxR X (rIx X.K):=FA.or (Nw.or Nx)
theorem DA (its:List Value) (n j:Nat) (u:Value):Obj.mapSeq (·.setIfInBounds j u) { cls:=.type "list",data:=.seq its.toArray n }={ cls:=.type "list",data:=.seq (its.set j u).toArray n }:=by
  simp [Obj.mapSeq]
theorem Inv.lst {pins:List (Addr × Obj)}{σ:St}{H:Hp}{s:Shared}{p:Addr}{xs:List V} (I:Inv X pins σ H s) (h:H p=some (.lst xs)) :
    ∃ (its:List Value) (n:Nat),Vals xs its /\ s.heap.get? p=some { cls:=.type "list",data:=.seq its.toArray n } /\ xs.length <= sizeLine:=by
  obtain ⟨z,its,n,r,e⟩:=I.hok p _ h
  exact ⟨its,n,r,e,z⟩
theorem Inv.lstUpd {pins:List (Addr × Obj)}{σ:St}{H:Hp}{s:Shared}{p:Addr}{xs ys:List V}{its its':List Value}{n n':Nat}{f:Obj->Obj} (I:Inv X pins σ H s) (h:H p=some (.lst xs))
    (ho:s.heap.get? p=some { cls:=.type "list",data:=.seq its.toArray n }) (hf:f { cls:=.type "list",data:=.seq its.toArray n }={ cls:=.type "list",data:=.seq its'.toArray n' }) (r:Vals ys its') (hz:ys.length <= sizeLine) (t:Nat) :
    Inv X pins σ (upd H p (.lst ys)) { s with heap:=s.heap.update p f,toks:=t }:=by
  have e:(s.heap.update p f).get? p=some { cls:=.type "list",data:=.seq its'.toArray n' }:=by
    rw [Heap.get?_update_self f ho (by rw [hf] <;> rfl),hf]
  refine I.write (x:=p) (e:=p) (by rw [h];trivial) (.inl rfl) (fun b u hb q=>(Heap.get?_update_other _ _ (Ne.symm hb)).trans q) ⟨_,e⟩ ?_
  exact ⟨hz,its',n',r,e⟩
noncomputable def rSetL:V->V->V->Hp->(Hp->Prop)->Prop:=fun o i v H Q=>∃ p xs k j,o=.ref p /\ i=.int k /\ H p=some (.lst xs) /\ ixN xs.length k=some j /\ Q (upd H p (.lst (xs.set j v)))
theorem Ji:PSet X rSetL:=by
  intro pins s σ H o i v ov iv u Q I ro ri rv h
  obtain ⟨p,xs,k,j,rfl,rfl,hp,hj,q⟩:=h
  cases ro
  obtain ⟨t,rfl⟩:=ri
  obtain ⟨its,n,r,ho,hz⟩:=I.lst hp
  obtain ⟨h1,h2,h3,h4⟩:=BP hj
  have hl:=r.length
  have hn:=line63
  have I':Inv X pins σ (upd H p (.lst (xs.set j v))) { s with heap:=s.heap.update p (Obj.mapSeq (·.setIfInBounds j u)) } :=
    I.lstUpd hp ho (DA its n j u) (r.set rv j) (by rw [List.length_set];exact hz) s.toks
  by_cases h0:0 <= k
  . have hk:k.toNat=j:=by
      rw [seqIndex_of h0 h4] at h1
      exact Option.some.inj h1
    exact PySem.W.ki_setAt ho h0 (by omega) (by rw [List.size_toArray,<-hl];exact h4) (by rw [hk];exact ⟨_,I',q⟩)
  . have hk:(k + (its.toArray.size:Int)).toNat=j:=by
      rw [seqIndex_neg (by omega) h3] at h1
      rw [List.size_toArray,<-hl]
      exact Option.some.inj h1
    exact PySem.W.ki_setBack ho (by omega) (by rw [List.size_toArray,<-hl];exact h3) (by omega) (by rw [hk];exact ⟨_,I',q⟩)
theorem BR (lo hi:Option Int) (n:Nat):(sliceBounds lo hi none n).1=((HT.sIx n 0 lo:Nat):Int) /\ (sliceBounds lo hi none n).2.1=((HT.sIx n n hi:Nat):Int) /\ (sliceBounds lo hi none n).2.2=1:=by
  refine ⟨?_,?_,rfl⟩
  . cases lo with
    | none=>simp [sliceBounds,HT.sIx]
    | some i =>
      simp only [sliceBounds,HT.sIx,Option.getD_none,show (1:Int) > 0 by decide,if_true]
      by_cases h:i < 0
      . simp only [h,if_true] <;> omega
      . simp only [h,if_false] <;> omega
  . cases hi with
    | none=>simp [sliceBounds,HT.sIx]
    | some i =>
      simp only [sliceBounds,HT.sIx,Option.getD_none,show (1:Int) > 0 by decide,if_true]
      by_cases h:i < 0
      . simp only [h,if_true] <;> omega
      . simp only [h,if_false] <;> omega
theorem Ba (its:List Value) (lo hi:Option Int):slicePick its.toArray lo hi none=((its.drop (HT.sIx its.length 0 lo)).take (HT.sIx its.length its.length hi - HT.sIx its.length 0 lo)).toArray:=by
  obtain ⟨h1,h2,h3⟩:=BR lo hi its.toArray.size
  unfold slicePick
  rw [h1,h2,h3]
  simp only [sliceRange_one,pick_run,List.size_toArray] <;> rfl
noncomputable def rSlL (K:PySem.W.Frag):V->Option Int->Option Int->Hp->VK->Prop:=fun x lo hi H Q=>∃ a xs,x=.ref a /\ SqL K H a xs /\ ∀ p,H p=none->Q (.ref p) (upd H p (.lst (cutV xs lo hi)))
theorem LZ:SlR X (rSlL X.K):=by
  intro pins s σ H x v vl vu lo hi sl Q I rx hs pl pu h
  obtain ⟨a,xs,rfl,hx,q⟩:=h
  cases rx
  obtain ⟨its,r,ht,hz⟩:=I.list hx
  have hlen:=r.length
  refine ⟨"list",_,slot_list_getitem.lookup,ht.isList.typeIs,?_⟩
  refine wpAny_getItem_list_slice ht.isList hs pl pu .none (by simp) ?_ (by rw [List.size_toArray] <;> omega)
  rw [Ba,<-hlen]
  refine ⟨.ref s.heap.objs.size,_,I.laid (t':=s.toks) (o:=.lst (cutV xs lo hi)) (fun b ob q=>Heap.get?_push_of_some _ q) (Nat.le_refl _) ?_,rfl,q _ (I.hok.fresh (Nat.le_refl _))⟩
  exact ⟨Nat.le_trans (Af xs lo hi) hz,_,0,(r.drop (HT.sIx xs.length 0 lo)).take (HT.sIx xs.length xs.length hi - HT.sIx xs.length 0 lo),Heap.get?_push_size _ rfl⟩
noncomputable def flatV:V->Bool
  | .non=>true
  | .bl _=>true
  | .int _=>true
  | .str _=>true
  | _=>false
noncomputable def eqV:V->V->Bool
  | .non,.non=>true
  | .bl a,.bl b=>a == b
  | .bl a,.int b=>(if a then 1 else 0) == b
  | .int a,.bl b=>a == (if b then 1 else 0)
  | .int a,.int b=>a == b
  | .str a,.str b=>a == b
  | _,_=>false
theorem Jj {A:Around}{s:Shared}{y x:V}{u v:Value} (ry:RelV y u) (rx:RelV x v) (fy:flatV y=true) (fx:flatV x=true):SeqAt.EqAt A s u v (eqV y x):=by
  cases y with
  | non =>
    cases ry
    cases x with
    | non=>cases rx;exact SeqAt.EqAt.same _
    | bl b=>cases rx;exact SeqAt.EqAt.none_bool b
    | int b=>obtain ⟨t,rfl⟩:=rx;exact SeqAt.EqAt.none_int b t
    | str b=>obtain ⟨t,rfl⟩:=rx;exact SeqAt.EqAt.none_str b t
    | _=>exact absurd (show false=true from fx) Bool.false_ne_true
  | bl a =>
    cases ry
    cases x with
    | non=>cases rx;exact SeqAt.EqAt.bool_none a
    | bl b=>cases rx;exact SeqAt.EqAt.bool_bool a b
    | int b=>obtain ⟨t,rfl⟩:=rx;exact SeqAt.EqAt.bool_int a b t
    | str b=>obtain ⟨t,rfl⟩:=rx;exact SeqAt.EqAt.bool_str a b t
    | _=>exact absurd (show false=true from fx) Bool.false_ne_true
  | int a =>
    obtain ⟨t',rfl⟩:=ry
    cases x with
    | non=>cases rx;exact SeqAt.EqAt.int_none a t'
    | bl b=>cases rx;exact SeqAt.EqAt.int_bool a t' b
    | int b=>obtain ⟨t,rfl⟩:=rx;exact SeqAt.EqAt.int_int a t' b t
    | str b=>obtain ⟨t,rfl⟩:=rx;exact SeqAt.EqAt.int_str a t' b t
    | _=>exact absurd (show false=true from fx) Bool.false_ne_true
  | str a =>
    obtain ⟨t',rfl⟩:=ry
    cases x with
    | non=>cases rx;exact SeqAt.EqAt.str_none a t'
    | bl b=>cases rx;exact SeqAt.EqAt.str_bool a t' b
    | int b=>obtain ⟨t,rfl⟩:=rx;exact SeqAt.EqAt.str_int a t' b t
    | str b=>obtain ⟨t,rfl⟩:=rx;exact SeqAt.EqAt.str_str a t' b t
    | _=>exact absurd (show false=true from fx) Bool.false_ne_true
  | _=>exact absurd (show false=true from fy) Bool.false_ne_true
noncomputable def eqU (x:V) (u:Value):Bool:=match u with
  | .none=>eqV .non x
  | .bool b=>eqV (.bl b) x
  | .int i _=>eqV (.int i) x
  | .str z _=>eqV (.str z) x
  | _=>false
theorem Jk {x y:V}{u:Value} (r:RelV y u) (f:flatV y=true):eqU x u=eqV y x:=by
  cases y with
  | non=>cases r;rfl
  | bl b=>cases r;rfl
  | int i=>obtain ⟨t,rfl⟩:=r;rfl
  | str z=>obtain ⟨t,rfl⟩:=r;rfl
  | _=>exact absurd (show false=true from f) Bool.false_ne_true
theorem BS {x:V}:∀ {xs:List V}{us:List Value},Vals xs us->xs.all flatV=true->us.any (eqU x)=xs.any fun y=>eqV y x
  | _,_,.nil,_=>rfl
  | y :: xs,u :: us,.cons r t,f=>by
    rw [List.all_cons,Bool.and_eq_true] at f
    rw [List.any_cons,List.any_cons,Jk r f.1,BS t f.2]
theorem AC {A:Around}{s:Shared}{x:V}{v:Value} (rx:RelV x v) (fx:flatV x=true):∀ {xs:List V}{us:List Value},Vals xs us->xs.all flatV=true->∀ u ∈ us,SeqAt.EqAt A s u v (eqU x u)
  | _,_,.nil,_=>fun u hu=>by cases hu
  | y :: xs,u :: us,.cons r t,f=>fun u' hu=>by
    rw [List.all_cons,Bool.and_eq_true] at f
    rcases List.mem_cons.mp hu with rfl | hu
    . rw [Jk r f.1];exact Jj r rx f.1 fx
    . exact AC rx fx t f.2 u' hu
noncomputable def inV (x:V) (xs:List V):Bool:=xs.any fun y=>eqV y x
noncomputable def rIn (K:PySem.W.Frag) (neg:Bool):R2:=fun x y H Q=>∃ p xs,y=.ref p /\ (SqL K H p xs \/ SqT K H p xs) /\ flatV x=true /\ xs.all flatV=true /\ Q (.bl (if neg then !inV x xs else inV x xs)) H
theorem oJ:OpR X (compareOp .NotIn) (rIn X.K true):=by
  intro pins s σ H x y v u Q I rx ry h
  obtain ⟨p,xs,rfl,hq,fx,fs,q⟩:=h
  cases ry
  rcases hq with hq | hq
  . obtain ⟨its,r,pl,hz⟩:=I.list hq
    refine SeqAt.notIn_listAt (eqU x) pl.isList (fun w hw=>AC rx fx r fs w (by simpa using hw)) ⟨.bl _,H,I,rfl,?_⟩
    rw [show its.toArray.any (eqU x)=its.any (eqU x) by simp,BS r fs]
    exact q
  . obtain ⟨its,r,pl,hz⟩:=I.tuple hq
    refine SeqAt.notIn_tupleAt (eqU x) pl (fun w hw=>AC rx fx r fs w (by simpa using hw)) ⟨.bl _,H,I,rfl,?_⟩
    rw [show its.toArray.any (eqU x)=its.any (eqU x) by simp,BS r fs]
    exact q
theorem gc:CallR X (.builtin "len") (fun xs H Q=>∃ p ys,xs=[.ref p] /\ (SqL X.K H p ys \/ SqT X.K H p ys) /\ Q (.int ys.length) H):=by
  intro pins s σ H xs us Q I r h
  obtain ⟨p,ys,rfl,hq,q⟩:=h
  obtain ⟨u,rfl,rx⟩:=vals1 r
  cases rx
  have hn:=line63
  rcases hq with hq | hq
  . obtain ⟨its,r',pl,hz⟩:=I.list hq
    have hlen:=r'.length
    exact Calls.call_len_list pl.isList (by simp only [List.size_toArray] <;> omega) ⟨.int ys.length,H,I.tok _,⟨s.toks + 1,by rw [List.size_toArray,hlen]⟩,q⟩
  . obtain ⟨its,r',pl,hz⟩:=I.tuple hq
    have hlen:=r'.length
    exact len_tuple pl (by simp only [List.size_toArray] <;> omega) ⟨.int ys.length,H,I.tok _,⟨s.toks + 1,by rw [List.size_toArray,hlen]⟩,q⟩
theorem jZ:CallR X (.type "list") (fun xs H Q=>∃ p ys,xs=[.ref p] /\ (SqL X.K H p ys \/ SqT X.K H p ys) /\ ∀ l,H l=none->Q (.ref l) (upd H l (.lst ys))):=by
  intro pins s σ H xs us Q I r h
  obtain ⟨p,ys,rfl,hq,q⟩:=h
  obtain ⟨u,rfl,rx⟩:=vals1 r
  cases rx
  have fin:∀ (its:List Value),Vals ys its->ys.length <= sizeLine->∀ (h':Heap) (c':Nat),(∀ b o',s.heap.get? b=some o'->h'.get? b=some o') ->
      h'.get? s.heap.objs.size=some { cls:=.type "list",dict:=none,data:=.seq its.toArray c',slots:=#[] }->EP X pins σ Q (.ref s.heap.objs.size) { s with heap:=h' }:=fun its r' hz h' c' kp e =>
    ⟨.ref s.heap.objs.size,_,I.laid (t':=s.toks) kp (Nat.le_refl _) (show ObjOk X.prog X.w _ h' _ (.lst ys) from ⟨hz,its,c',r',e⟩),rfl,q _ (I.hok.fresh (Nat.le_refl _))⟩
  rcases hq with hq | hq
  . obtain ⟨its,r',pl,hz⟩:=I.list hq
    have hlen:=r'.length
    obtain ⟨o,ho,hc,n,hd⟩:=pl.isList
    exact call_list_seq p (.inl rfl) ho hc hd (fun h' c' kp e=>fin its r' hz h' c' kp e) (by simp only [List.size_toArray] <;> omega)
  . obtain ⟨its,r',pl,hz⟩:=I.tuple hq
    have hlen:=r'.length
    obtain ⟨o,ho,hc,n,hd⟩:=pl
    exact call_list_seq p (.inr rfl) ho hc hd (fun h' c' kp e=>fin its r' hz h' c' kp e) (by simp only [List.size_toArray] <;> omega)
theorem iA:CallR X (.type "tuple") (fun xs H Q=>∃ p ys,xs=[.ref p] /\ ((SqL X.K H p ys /\ ∀ l,H l=none->Q (.ref l) (upd H l (.tup ys))) \/ (SqT X.K H p ys /\ Q (.ref p) H))):=by
  intro pins s σ H xs us Q I r h
  obtain ⟨p,ys,rfl,h⟩:=h
  obtain ⟨u,rfl,rx⟩:=vals1 r
  cases rx
  rcases h with ⟨hq,q⟩ | ⟨hq,q⟩
  . obtain ⟨its,r',pl,hz⟩:=I.list hq
    have hlen:=r'.length
    refine call_tuple_list pl.isList (fun h' kp=>?_) (by simp only [List.size_toArray] <;> omega)
    have I1:Inv X pins σ H { s with heap:=h' }:=I.kept (t':=s.toks) kp
    have I2:Inv X pins σ (upd H h'.objs.size (.tup ys)) { s with heap:=h'.push { cls:=.type "tuple",data:=.seq its.toArray } } :=
      I1.laid (t':=s.toks) (fun b o e=>Heap.get?_push_of_some _ e) (Nat.le_refl _) (show ObjOk X.prog X.w _ _ _ (.tup ys) from ⟨hz,its,r',IsTup.new _ _⟩)
    exact ⟨.ref h'.objs.size,_,I2,rfl,q _ (I1.hok.fresh (Nat.le_refl _))⟩
  . obtain ⟨its,r',pl,hz⟩:=I.tuple hq
    exact call_tuple_same pl ⟨.ref p,H,I,rfl,q⟩
noncomputable def tyV (K:PySem.W.Frag) (T:String) (x:V) (H:Hp):Prop:=match x with
  | .str _=>T="str"
  | .int _=>T="int"
  | .ref p=>(T="list" /\ ∃ xs,SqL K H p xs) \/ (T="tuple" /\ ∃ o,K.lookup p=some o /\ o.cls=.type "tuple" /\ o.dict=none) \/
      (T="dict" /\ ((∃ kvs,H p=some (.dK kvs)) \/ ∃ kvs,H p=some (.dT kvs))) \/ (T="set" /\ ∃ S n,H p=some (.set S n))
  | _=>False
theorem Ny {pins:List (Addr × Obj)}{σ:St}{H:Hp}{s:Shared}{T:String}{x:V}{v:Value} (I:Inv X pins σ H s) (r:RelV x v) (ty:tyV X.K T x H) :
    s.TypeIs v T /\ ∀ a,v=.ref a->∃ ob,s.heap.get? a=some ob /\ ob.dict=none:=by
  cases x with
  | str z =>
    obtain ⟨t,rfl⟩:=r
    cases (show T="str" from ty)
    exact ⟨typeIs_str s z t,fun _ e=>nomatch e⟩
  | int i =>
    obtain ⟨t,rfl⟩:=r
    cases (show T="int" from ty)
    exact ⟨typeIs_int s i t,fun _ e=>nomatch e⟩
  | ref p =>
    cases r
    rcases ty with ⟨rfl,xs,hq⟩ | ⟨rfl,o,hk,hc,hd⟩ | ⟨rfl,hk⟩ | ⟨rfl,S,n,hk⟩
    . obtain ⟨its,_,pl,_⟩:=I.list hq
      refine ⟨pl.isList.typeIs,fun a e=>?_⟩
      cases e
      obtain ⟨o,n,e,c,hd,_⟩:=pl
      exact ⟨o,e,hd⟩
    . refine ⟨⟨o,I.kIn p o hk,hc⟩,fun a e=>?_⟩
      cases e
      exact ⟨o,I.kIn _ o hk,hd⟩
    . have z:∃ o,s.heap.get? p=some o /\ o.ExactDict:=by
        rcases hk with ⟨kvs,hk⟩ | ⟨kvs,hk⟩
        . obtain ⟨_,_,_,_,o,_,_,e,ex,_⟩:=I.hok p _ hk
          exact ⟨o,e,ex⟩
        . obtain ⟨_,_,_,_,o,_,_,e,ex,_⟩:=I.hok p _ hk
          exact ⟨o,e,ex⟩
      obtain ⟨o,e,ex⟩:=z
      refine ⟨⟨o,e,ex.1⟩,fun a e2=>?_⟩
      cases e2
      exact ⟨o,e,ex.2.1⟩
    . obtain ⟨o,_,_,_,e,ex,_⟩:=I.hok p _ hk
      refine ⟨⟨o,e,ex.1⟩,fun a e2=>?_⟩
      cases e2
      exact ⟨o,e,ex.2.1⟩
  | _=>exact False.elim ty
noncomputable def tBM (K:PySem.W.Frag) (T:String) (r:V->List V->Hp->VK->Prop) (to:TE) (t:TA):TE:=fun σ H Q=>to σ H fun x H1=>tyV K T x H1 /\ t σ H1 fun xs H2=>r x xs H2 Q
variable {o e : Expr} {es : List Expr} {to : TE} {t : TA} {name : Str} {apos cpos : Pos} {T id : String} {r : V -> List V -> Hp -> VK -> Prop}
theorem Jl (pa:PlainAttrs T) (slot:Slot T name id) (hty:typeOf (.builtin id)=pure (.type "method_descriptor")) (hm:MtR X id r) (ho:PE X o to) (ha:PA X (e :: es) t)
    (hbase:attributeBase o name X.env (eval o X.env)=eval o X.env:=by rfl)
    (hfew:((backTo cpos (starEach (e :: es) X.env)).all (fun x=>!x.1) && (backToKw cpos (keywordEach [] X.env)).all (fun x=>x.1.isSome)
      && decide ((e :: es).length + ([]:List Keyword).length + (if ([]:List Keyword).isEmpty then 0 else 1) < 30))=true:=by rfl)
    (hline:(apos.endLine == cpos.line)=true:=by rfl) (hs:starEach (e :: es) X.env=(false,eval e X.env) :: starEach es X.env:=by rfl) (hplain:(backTo cpos (starEach es X.env)).any (·.1)=false:=by rfl) :
    PE X (.Call (.Attribute o name apos) (e :: es) [] cpos) (tBM X.K T r to t):=by
  intro pins s σ H Q I h
  refine wpAny_Call_method_late hbase hfew hline rfl (thn (ho pins s σ H _ I h) fun v s1 ⟨x,H1,I1,r1,ty,q1⟩=>?_)
  obtain ⟨h1,h2⟩:=Ny I1 r1 ty
  refine ⟨T,id,pa,slot,hty,h1,h2,?_⟩
  have hA:=ha cpos pins s1 σ H1 _ I1 q1
  rw [hs] at hA ⊢
  refine Calls.callWith_builtin (by show (false || (backTo cpos (starEach es X.env)).any (·.1))=false;rw [hplain] <;> rfl) (Calls.evalArgs_plain ?_)
  exact thn hA fun us s2 ⟨vs,H2,I2,r2,q2⟩=>hm pins s2 σ H2 x vs v us Q I2 r1 r2 q2
/- xs.append(e),list.index on a module's tuple .. are MtR facts of 06m -/
end
end L2
namespace L2
open PySem PySem.Spec PyProof.Rows
noncomputable def MtM (X:Cx) (id:String) (r:V->List V->Hp->VK->Prop):Prop :=
  ∀ (pins:List (Addr × Obj)) (s:Shared) (σ:St) (H:Hp) (x:V) (xs:List V) (v:Value) (us:List Value) (Q:VK),Inv X pins σ H s->RelV x v->Vals xs us->r x xs H Q ->
    wpAny (model X.prog X.w) X.A (call (.builtin id) (v :: us)) (EP X pins σ Q) X.xe s
theorem Vals.one:∀ {x:V}{us:List Value},Vals [x] us->∃ u,us=[u] /\ RelV x u
  | _,_,.cons r .nil=>⟨_,rfl,r⟩
theorem Vals.two:∀ {x y:V}{us:List Value},Vals [x,y] us->∃ u v,us=[u,v] /\ RelV x u /\ RelV y v
  | _,_,_,.cons r (.cons q .nil)=>⟨_,_,rfl,r,q⟩
theorem Vals.eraseIdx:∀ {xs:List V}{us:List Value} (i:Nat),Vals xs us->Vals (xs.eraseIdx i) (us.eraseIdx i)
  | _,_,_,.nil=>.nil
  | _,_,0,.cons _ t=>t
  | _,_,i + 1,.cons r t=>.cons r (Vals.eraseIdx i t)
theorem Vals.reverse {xs:List V}{us:List Value} (h:Vals xs us):Vals xs.reverse us.reverse:=by
  induction h with
  | nil=>exact .nil
  | cons r t ih=>rw [List.reverse_cons,List.reverse_cons];exact Vals.append ih (.cons r .nil)
theorem Vals.rep {xs:List V}{us:List Value} (h:Vals xs us):∀ k:Nat,Vals (List.replicate k xs).flatten (List.replicate k us).flatten
  | 0=>.nil
  | k + 1=>by
    rw [List.replicate_succ,List.replicate_succ,List.flatten_cons,List.flatten_cons]
    exact Vals.append h (Vals.rep h k)
theorem Bs {α:Type}:∀ (l:List α) (i:Nat),(l.eraseIdx i).length <= l.length
  | [],_=>Nat.le_refl _
  | _ :: _,0=>Nat.le_succ _
  | _ :: r,i + 1=>Nat.succ_le_succ (Bs r i)
theorem mX (its:List Value):∀ (k:Nat) (acc:List Value),
    List.foldl (fun x1 x2=>x1 ++ x2) acc.toArray (List.replicate k its.toArray)=(acc ++ (List.replicate k its).flatten).toArray
  | 0,acc=>by simp
  | k + 1,acc=>by
    have e:acc.toArray ++ its.toArray=(acc ++ its).toArray:=by simp
    have e2:(acc ++ its) ++ (List.replicate k its).flatten=acc ++ (List.replicate (k + 1) its).flatten:=by
      rw [List.replicate_succ,List.flatten_cons,List.append_assoc]
    rw [<-e2,<-mX its k (acc ++ its),<-e,List.replicate_succ,List.foldl_cons]
section
variable {X : Cx} {pins : List (Addr × Obj)} {σ : St} {H : Hp} {s : Shared} {l b : Addr} {xs ys zs : List V}
theorem Inv.lset {its its':List Value}{n:Nat}{f:Array Value->Array Value}{t':Nat} (I:Inv X pins σ H s) (hH:H l=some (.lst xs))
    (e:s.heap.get? l=some { cls:=.type "list",data:=.seq its.toArray n }) (hf:f its.toArray=its'.toArray) (hv:Vals ys its') (hz:ys.length <= sizeLine) :
    Inv X pins σ (upd H l (.lst ys)) { s with heap:=s.heap.update l (Obj.mapSeq f),toks:=t' }:=by
  have q:=PySem.IsL.update e f
  rw [hf] at q
  refine I.write (x:=l) (e:=l) (by rw [hH];exact trivial) (.inl rfl) (fun b' u hb hu=>(Heap.get?_update_other s.heap (Obj.mapSeq f) (Ne.symm hb)).trans hu) ⟨_,q⟩ ?_
  exact ⟨hz,its',_,hv,q⟩
theorem Inv.lnew {its:List Value}{t':Nat} (I:Inv X pins σ H s) (hv:Vals ys its) (hz:ys.length <= sizeLine) :
    Inv X pins σ (upd H s.heap.objs.size (.lst ys)) { s with heap:=s.heap.push { cls:=.type "list",data:=.seq its.toArray },toks:=t' } :=
  I.laid (fun _ _ q=>Heap.get?_push_of_some _ q) (Nat.le_refl _) ⟨hz,its,0,hv,Heap.get?_push_size _ rfl⟩
theorem Inv.fresh (I:Inv X pins σ H s):H s.heap.objs.size=none:=I.hok.fresh (Nat.le_refl _)
theorem Inv.lstM (I:Inv X pins σ H s) (hH:H l=some (.lst xs)):xs.length <= sizeLine /\ ∃ (its:List Value) (n:Nat),Vals xs its /\ xs.length=its.length /\ s.heap.get? l=some { cls:=.type "list",data:=.seq its.toArray n }:=by
  obtain ⟨z,its,n,r,e⟩:=I.hok l _ hH
  exact ⟨z,its,n,r,r.length,e⟩
theorem notLongL {n:Nat} (h:n <= sizeLine):Builtin.List.listTooLong n=false:=by
  unfold Builtin.List.listTooLong
  exact decide_eq_false (by omega)
end
section
variable {X : Cx}
noncomputable def rAppend:V->List V->Hp->VK->Prop:=fun x vs H Q=>∃ l xs y,x=.ref l /\ vs=[y] /\ H l=some (.lst xs) /\ xs.length < sizeLine /\ Q .non (upd H l (.lst (xs ++ [y])))
theorem Bt:MtM X "list.append" rAppend:=by
  intro pins s σ H x vs v us Q I rx rv h
  obtain ⟨l,xs,y,rfl,rfl,hH,hz,q⟩:=h
  cases rx
  obtain ⟨u,rfl,ru⟩:=rv.one
  obtain ⟨z,its,n,r,hl,e⟩:=I.lstM hH
  refine call_meets F.slot_list_append ⟨_,e,rfl⟩ F.entry_list_append (F.args_list_append_2 _ _) (PySem.list_append l its.toArray n u (by rw [List.size_toArray];omega)) ⟨e,?_⟩
  refine ⟨.non,_,I.lset (its':=its ++ [u]) hH e (by simp) (r.append (.cons ru .nil)) ?_,rfl,q⟩
  rw [List.length_append,List.length_singleton]
  omega
noncomputable def rExtend:V->List V->Hp->VK->Prop:=fun x vs H Q=>∃ l b xs zs,x=.ref l /\ vs=[.ref b] /\ H l=some (.lst xs) /\ H b=some (.lst zs) /\ xs.length + zs.length <= sizeLine /\ Q .non (upd H l (.lst (xs ++ zs)))
theorem Om:MtM X "list.extend" rExtend:=by
  intro pins s σ H x vs v us Q I rx rv h
  obtain ⟨l,b,xs,zs,rfl,rfl,hH,hB,hz,q⟩:=h
  cases rx
  obtain ⟨u,rfl,ru⟩:=rv.one
  cases ru
  obtain ⟨z,its,n,r,hl,e⟩:=I.lstM hH
  obtain ⟨z2,its2,n2,r2,hl2,e2⟩:=I.lstM hB
  have hsz:its.toArray.size + its2.toArray.size <= sizeLine:=by rw [List.size_toArray,List.size_toArray];omega
  have hlong:¬ (!its.toArray.isEmpty && Builtin.List.listTooLong (its.toArray.size + its2.toArray.size))=true:=by
    rw [notLongL hsz,Bool.and_false]
    exact Bool.false_ne_true
  refine call_meets F.slot_list_extend ⟨_,e,rfl⟩ F.entry_list_extend (F.args_list_extend_2 _ _)
    (AutoSeq1.list_extend_list_list_0 l its.toArray n b its2.toArray n2 hlong (by rw [List.size_toArray];omega) (by omega)) ⟨e,e2,?_⟩
  refine ⟨.non,_,I.lset (its':=its ++ its2) hH e (by simp) (r.append r2) ?_,rfl,q⟩
  rw [List.length_append]
  omega
noncomputable def rPopAt:V->List V->Hp->VK->Prop:=fun x vs H Q=>∃ l xs i k y,x=.ref l /\ vs=[.int i] /\ H l=some (.lst xs) /\ -(2 ^ 63) <= i /\ i < 2 ^ 63 /\ seqIndex? i xs.length=some k /\ xs[k]?=some y /\ Q y (upd H l (.lst (xs.eraseIdx k)))
theorem Jm:MtM X "list.pop" rPopAt:=by
  intro pins s σ H x vs v us Q I rx rv h
  obtain ⟨l,xs,i,k,y,rfl,rfl,hH,h1,h2,hk,hy,q⟩:=h
  cases rx
  obtain ⟨u,rfl,ru⟩:=rv.one
  obtain ⟨t,rfl⟩:=ru
  obtain ⟨z,its,n,r,hl,e⟩:=I.lstM hH
  obtain ⟨w,hw,rw'⟩:=r.get hy
  refine call_meets F.slot_list_pop ⟨_,e,rfl⟩ F.entry_list_pop (F.args_list_pop_2 _ _)
    (MeetsSeq.list_pop_at l its.toArray n i t k w (fitsIndex_both h1 h2) (by rw [List.size_toArray,<-hl];exact hk) (by rw [<-Array.getElem?_toList];exact hw) (by rw [List.size_toArray];omega)) ⟨e,?_⟩
  refine ⟨y,_,I.lset (its':=its.eraseIdx k) hH e ?_ (r.eraseIdx k) ?_,rw',q⟩
  . show its.toArray.eraseIdxIfInBounds k=(its.eraseIdx k).toArray
    rw [List.eraseIdxIfInBounds_toArray]
  . have:=Bs xs k
    omega
noncomputable def rCat:R2:=fun x y H Q=>∃ l b xs zs,x=.ref l /\ y=.ref b /\ H l=some (.lst xs) /\ H b=some (.lst zs) /\ xs.length + zs.length <= sizeLine /\ ∀ p,H p=none->Q (.ref p) (upd H p (.lst (xs ++ zs)))
theorem Nz:OpR X (binaryOp .Add) rCat:=by
  intro pins s σ H x y v u Q I rx ry h
  obtain ⟨l,b,xs,zs,rfl,rfl,hH,hB,hz,q⟩:=h
  cases rx
  cases ry
  obtain ⟨z,its,n,r,hl,e⟩:=I.lstM hH
  obtain ⟨z2,its2,n2,r2,hl2,e2⟩:=I.lstM hB
  refine PySem.P.add_list e e2 ?_ (by rw [List.size_toArray,List.size_toArray];omega)
  have ea:its.toArray ++ its2.toArray=(its ++ its2).toArray:=by simp
  rw [ea]
  exact ⟨.ref _,_,I.lnew (t':=s.toks) (r.append r2) (by rw [List.length_append];omega),rfl,q _ I.fresh⟩
noncomputable def rRep:R2:=fun x y H Q=>∃ l k xs,x=.ref l /\ y=.int k /\ H l=some (.lst xs) /\ -(2 ^ 63) <= k /\ k < 2 ^ 63 /\ xs.length * k.toNat <= sizeLine /\
  ∀ p,H p=none->Q (.ref p) (upd H p (.lst (List.replicate k.toNat xs).flatten))
theorem BT {α:Type} (xs:List α) (k:Nat):(List.replicate k xs).flatten.length=k * xs.length:=by
  induction k with
  | zero=>simp
  | succ k ih=>rw [List.replicate_succ,List.flatten_cons,List.length_append,ih,Nat.succ_mul,Nat.add_comm]
theorem NA:OpR X (binaryOp .Mult) rRep:=by
  intro pins s σ H x y v u Q I rx ry h
  obtain ⟨l,k,xs,rfl,rfl,hH,h1,h2,hz,q⟩:=h
  cases rx
  obtain ⟨t,rfl⟩:=ry
  obtain ⟨z,its,n,r,hl,e⟩:=I.lstM hH
  have hlen:its.toArray.size * k.toNat <= sizeLine:=by rw [List.size_toArray,<-hl];exact hz
  have hcap:¬ its.toArray.size * k.toNat > (2 ^ 63 - 1) / 8:=by
    have:(sizeLine:Nat) <= (2 ^ 63 - 1) / 8:=by decide
    omega
  have hfit:¬ (!Builtin.List.listFitsIndex k)=true:=by
    rw [fitsIndex_both h1 h2]
    exact Bool.false_ne_true
  have hlong:¬ Builtin.List.listTooLong (its.toArray.size * k.toNat)=true:=by
    rw [notLongL hlen]
    exact Bool.false_ne_true
  have hnew:List.foldl (fun x1 x2=>x1 ++ x2) #[] (List.replicate (if its.toArray.isEmpty=true then 0 else k.toNat) its.toArray)=(List.replicate k.toNat its).flatten.toArray:=by
    have f0:∀ m:Nat,List.foldl (fun x1 x2=>x1 ++ x2) #[] (List.replicate m its.toArray)=(List.replicate m its).flatten.toArray:=fun m=>by
      have:=mX its m []
      rw [List.nil_append] at this
      exact this
    rw [f0]
    cases its with
    | nil=>simp
    | cons a r'=>rw [if_neg (by simp)]
  refine wpAny_binaryOp_repeat_ref (T:="list") (U:="int") (by decide) ⟨_,e,rfl⟩ (fun s'=>typeIs_int s' k t) noFill_list_mul F.fills_int_mul F.slot_int_rmul repeat_list F.slot_int_index.lookup
    (call_meets F.slot_int_rmul (typeIs_int s k t) F.entry_int_rmul (F.args_int_rmul_2 _ _) (int___rmul___int_list k t l its.toArray n)
      ⟨e,rfl,⟨_,e,rfl⟩,call_meets F.slot_list_mul ⟨_,e,rfl⟩ F.entry_list_mul (F.args_list_mul_2 _ _) (AutoListH.list___mul___list_int_3 l its.toArray n k t hfit hcap hlong) ⟨e,?_⟩⟩)
  rw [hnew]
  exact ⟨.ref _,_,I.lnew (t':=s.toks) (r.rep k.toNat) (by rw [BT,Nat.mul_comm];exact hz),rfl,q _ I.fresh⟩
end
section
variable {prog : Program} {w : World} {A : Around} {E : Value -> Shared -> Prop} {s : Shared}
set_option maxRecDepth 100000 in
end
section
variable {X : Cx}
end
end L2
namespace Att
open PySem PySem.W PySem.Calls PyProof.Rows
theorem An {P:Params}{h:Heap}:∀ (ns:List Int) (vs:List Value),WellAll P h vs (ns.map WData.int)->IntsAre vs ns:=by
  intro ns
  induction ns with
  | nil =>
    intro vs w
    rw [List.map_nil] at w
    cases w
    exact .nil
  | cons n ns ih =>
    intro vs w
    rw [List.map_cons] at w
    cases w with
    | cons a b =>
      cases a
      exact .cons _ _ (ih _ b)
theorem Gv {l:OpenLaw}{n:Nat} (hn:l.most=some n) {P:Params}{h:Heap}{args:List WData}{vals:List Value}
    (hpre:l.row.toRowW.claim.pre args=true) (hwl:WellAll P h vals args) :
    ∃ a vs ns,vals=[Value.ref a] /\ args=[WData.list (ns.map WData.int)] /\ h.get? a=some { cls:=.type "list",data:=.seq vs.toArray } /\ IntsAre vs ns /\ ns.length <= n:=by
  have hsh:WShape.hasAll [] args [.list .int]=true:=(pre_splitW hpre).1
  have hc:l.pre.holds [] { args:=args }=true:=(pre_splitW hpre).2
  obtain ⟨d,r,rfl,h1,h2⟩:=hasAllW_cons hsh
  obtain rfl:=hasAllW_nil h2
  obtain ⟨xs,rfl,h3⟩:=hasW_list h1
  obtain ⟨ns,rfl⟩:=items_int h3
  have hlen:ns.length <= n:=by
    unfold OpenLaw.pre at hc
    have h4:(WTm.not (.lt (.lit (.int (n:Int))) (.len (.arg 0)))).holds [] { args:=[.list (ns.map .int)] }=true:=by
      have h4:=(holds_andW hc).1
      rw [hn] at h4
      exact h4
    have h5:=condW_of h4 (w_not (w_lt w_lit (w_len_list (w_arg rfl))))
    rw [List.length_map] at h5
    refine Nat.le_of_not_lt fun q=>?_
    have q':(n:Int) < ((ns.length:Nat):Int):=by omega
    first
      | (rw [decide_eq_true q'] at h5;exact absurd h5 (by decide))
      | (simp at h5;omega)
  cases hwl with
  | cons w1 w2 =>
    cases w2
    cases w1 with
    | list ho hall=>exact ⟨_,_,ns,rfl,rfl,ho,An ns _ hall,hlen⟩
theorem Gw (l:OpenLaw) (args:List WData):l.row.toRowW.claim.post args (.bool true) args=true :=
  postW_of (r:=l.row.toRowW) (X:=(true == true))
    (show WShape.has [] (.bool true) .bool=true by first | rfl | decide | simp [WShape.has,WShape.arms,WShape.armsAll])
    (show (WTm.eq .res (.lit (.bool true))).value [] { args:=args,res:=some (.bool true),after:=args }=some (.bool (true == true)) from w_eq_bool (w_res rfl) w_lit) rfl
theorem attach_call {l:OpenLaw}{n:Nat}{q:Program}{loose:List Str}{XP:(Str->Option Value)->Heap->Prop}{YP:World->Heap->Prop}{d:DefRec}
    (hn:l.most=some n) (hdf:d.params.defaults=[])
    (call:∀ (w:World) (s₀ s₁:Shared) (mg mb:Str->Option Value) (fa:Addr) (o:Obj) (pm cd doc:Value) (a:Addr) (vs:List Value) (ns:List Int),
      Ground q loose [] XP w s₀ mg mb s₁.heap->YP w s₁.heap ->
      s₁.heap.get? fa=some o->o.data=.func (docDef d.name d.params d.body d.scope pm cd doc)->s₁.heap.CodeRec cd d.name->mg d.name=some (.ref fa) ->
      s₁.heap.get? a=some { cls:=.type "list",data:=.seq vs.toArray }->IntsAre vs ns->ns.length <= n->s₁.gens=#[] ->
      codeAny (model l.prog w) callerA (.call (.ref fa) ⟨[.ref a],[]⟩) (fun r s'=>r=.ok (.ret (.bool true)) /\ OldK s₁.heap s'.heap /\ s'.os=s₁.os /\ AllBare s'.gens) s₁) :
    WalkO q loose XP YP l.row.toRowW d [] (fun f vs=>PySem.call f vs):=by
  intro w s₀ s₁ mg mb G Y fa o pm cd doc dV kV ho hd hcd hD hmg hg args vals as hpre hlay hrd hwl hlo
  obtain rfl:dV=.none:=Dflts.none hD hdf
  obtain rfl:kV=.none:=Dflts.noKw hD
  obtain ⟨a,vs,ns,rfl,rfl,hobj,hints,hlen⟩:=Gv hn hpre hwl
  refine enter_call (codeAny_mono (call w s₀ s₁ mg mb fa o pm cd doc a vs ns G Y ho (fd_plain hd) hcd hmg hobj hints hlen hg) fun r s' hq=>?_)
  obtain ⟨rfl,h2,h3,h4⟩:=hq
  exact ⟨.inl ⟨.bool true,.bool true,[],rfl,fun _=>rfl,.bool true,Gw l _,fun _=>⟨List.Pairwise.nil,fun _ hm=>(nomatch hm)⟩⟩,h2,h3,h4⟩
section
variable {prog : Program} {w : World} {A : Around} {E : Value -> Shared -> Prop} {s : Shared} {K : Frag}
end
end Att
namespace L2
open PySem PySem.Spec PyProof.Rows
theorem Bu:∀ {vs:List Value}{ns:List Int},IntsAre vs ns->Vals (ns.map V.int) vs
  | _,_,.nil=>.nil
  | _,_,.cons n t h=>.cons ⟨t,rfl⟩ (Bu h)
noncomputable def Only (H:Hp):Prop:=∀ b,H b=none \/ ∃ o xs,H b=some (.frz o (.lst xs))
theorem Jn {P:Program}{w:World}{K:PySem.W.Frag}{mg mb:Str->Option Value}{CX:CXT}{k:Nat}{fa a:Addr}{fd:FuncData}{x:Str}{sp:Sp}{s₁:Shared}{vs:List Value}{ns:List Int}
    (KX:K.In s₁.heap) (hns:s₁.heap.Ns mainGlobals mg) (hb:s₁.heap.Ns builtinsNs mb) (hbb:∀ x:Str,x ≠ "__name__"->mb x=bootBuiltins x) (hlim:s₁.heap.NoLimit) (hg:s₁.gens=#[])
    (ha:s₁.heap.get? a=some { cls:=.type "list",data:=.seq vs.toArray }) (hi:IntsAre vs ns) (hl:ns.length <= sizeLine) (hr:Room k callerA)
    (F:∀ base:Heap,K.In base->base.Ns mainGlobals mg->FnOk P w K mg base CX k fa fd [x] sp) (hbind:∀ (s:Shared) (u:Value),BindsTo s fd ⟨[u],[]⟩ [(x,u)])
    (hsp:∀ H:Hp,Only H->SqL K H a (ns.map V.int)->sp [.ref a] H (fun v _=>v=.bl true) fun _ _ _=>False)
    (hCX:∀ H e s',CX [] H s₁ (fun _ _ _=>False) e s'->False) :
    codeAny (model P w) callerA (.call (.ref fa) ⟨[.ref a],[]⟩) (fun r s'=>r=.ok (.ret (.bool true)) /\ OldK s₁.heap s'.heap /\ s'.os=s₁.os /\ AllBare s'.gens) s₁:=by
  have rv:=Bu hi
  have lenV:=hi.length
  -- from an abstract heap in which nothing but the script may be tracked
  have core:∀ H:Hp,Only H->SqL K H a (ns.map V.int)->HOk P w H s₁.heap->(∀ b,H b ≠ none->b=a)->(H a ≠ none->K.lookup a=none) ->
      codeAny (model P w) callerA (.call (.ref fa) ⟨[.ref a],[]⟩) (fun r s'=>r=.ok (.ret (.bool true)) /\ OldK s₁.heap s'.heap /\ s'.os=s₁.os /\ AllBare s'.gens) s₁:=by
    intro H hO hS hok hA hK
    have base_of:∀ {b:Addr}{o:Obj},s₁.heap.get? b=some o->H b=none->(hidT s₁.heap H).get? b=some o:=fun e n=>G4 e n
    have noA:∀ {b:Addr}{o:Obj}{es:Array DictEntry}{ep:Nat},s₁.heap.get? b=some o->o.data=.dict es ep->H b=none:=fun {b o es ep} e d=>by
      cases q:H b with
      | none=>rfl
      | some u =>
        have e':b=a:=hA b (by rw [q];simp)
        subst e'
        rw [ha] at e;cases e
        have d':Data.seq vs.toArray _=Data.dict es ep:=d
        cases d'
    have nsK:∀ {b:Addr}{m:Str->Option Value},s₁.heap.Ns b m->(hidT s₁.heap H).Ns b m:=fun {b m} ⟨o,es,ep,e,d,r⟩=>⟨o,es,ep,base_of e (noA e d),d,r⟩
    have hKb:K.In (hidT s₁.heap H):=fun b o e=>base_of (KX b o e) (by
      cases q:H b with
      | none=>rfl
      | some u =>
        have e':b=a:=hA b (by rw [q];simp)
        subst e'
        rw [hK (by rw [q];simp)] at e;cases e)
    have hM:Mod K mg (hidT s₁.heap H):=⟨hKb,nsK hns,⟨mb,nsK hb,hbb⟩,let ⟨mc,h1,h2⟩:=hlim;⟨mc,nsK h1,h2⟩⟩
    have e0:Env0 P w K mg (hidT s₁.heap H) callerA [] s₁ H:=⟨rfl,hM,fun b o e=>LJ e,Nat.le_of_eq (Gg _ _),trivial,fun b hb=>absurd (show b ∈ ([]:List Addr) from hb) (by simp),hok,.of_eq hg⟩
    refine codeAny_mono ((F _ hKb (nsK hns)).run callerA [] s₁ H ⟨[.ref a],[]⟩ [.ref a] [.ref a] _ _ hr e0 (hbind s₁ (.ref a)) (.cons rfl .nil) (hsp H hO hS)) fun r s' h=>?_
    cases r with
    | error e=>exact (hCX H e s' h).elim
    | ok fl =>
      cases fl with
      | next=>exact False.elim h
      | brk=>exact False.elim h
      | cont=>exact False.elim h
      | ret u =>
        obtain ⟨v,H',os,bare,un,hok',r',q⟩:=h
        have q':v=.bl true:=q
        subst q'
        obtain rfl:u=Value.bool true:=r'
        refine ⟨rfl,OldK.of_keep fun b o e=>?_,os,bare⟩
        cases q:H b with
        | none=>exact un.keep b o e q (by intro z;exact absurd (show b ∈ ([]:List Addr) from z) (by simp)) (by simp)
        | some u =>
          rcases hO b with z | ⟨ob,xs,z⟩
          . rw [q] at z;cases z
          . have z2:=un.frzs b ob _ z
            obtain ⟨e1,_⟩:=hok b _ z
            obtain ⟨e2,_⟩:=hok' b _ z2
            rw [e] at e1;cases e1
            exact e2
  cases hk:K.lookup a with
  | some o =>
    -- the script is one of the module's own objects
    have e:=KX a o hk
    rw [ha] at e
    cases e
    refine core (fun _=>none) (fun _=>.inl rfl) (.inr ⟨_,vs.toArray,_,hk,rfl,rfl,rfl,by rw [List.size_toArray,lenV];exact hl,by simpa using rv⟩) (fun b u z=>by have z':(none:Option HO)=some u:=z;cases z') (fun b z=>absurd rfl z) fun z=>absurd rfl z
  | none =>
    refine core (fun b=>if b=a then some (.frz { cls:=.type "list",data:=.seq vs.toArray } (.lst (ns.map V.int))) else none) (fun b=>?_) (.inl (.inr ⟨{ cls:=.type "list",data:=.seq vs.toArray },if_pos rfl⟩)) (fun b u z=>?_) (fun b z=>?_) fun _=>hk
    . by_cases hb:b=a
      . exact .inr ⟨_,_,if_pos hb⟩
      . exact .inl (if_neg hb)
    . by_cases hb:b=a
      . have z':=(if_pos hb).symm.trans z
        cases z'
        subst hb
        exact ⟨ha,by rw [List.length_map];exact hl,vs,_,rv,ha⟩
      . have z':=(if_neg hb).symm.trans z
        cases z'
    . by_cases hb:b=a
      . exact hb
      . exact absurd (if_neg hb) z
end L2
namespace L2
open PySem PySem.Spec PyProof.Rows
noncomputable abbrev KOf {K:PySem.W.Frag}{h:Heap} (_:K.In h):PySem.W.Frag:=K
end L2
/- THE LAST THEOREM (shape;LID,My.* are yours):
   My.Adr: a structure of the addresses that your layer names (classes,functions);My.Txt K t: a structure (Prop) of the equations over K;
   My.txt_mk:{K}{implicit addresses ..} (e1:nsIn K mainGlobals "law"=some (some (.ref f))) (e2:K.lookup f=some ⟨oc,od,.func (fnOf "law" "law" params body scope dV kV doc pm an cdv ct),sl⟩) (e3:codeIn K cdv "law"=true) ..:∃ t,My.Txt K t
set_option maxRecDepth 100000 in
set_option maxHeartbeats 0 in
theorem PySem.Challenge.cw_LID_holds : PySem.Challenge.rw_LID.Holds := by
  w_on;o_law;k_head;(case hw=>w_witness2)
  k_fill
  refine L2.walk_of (l:=PySem.Challenge.rw_LID) (n:=63) (k:=40) (x:="script") (CX:=fun w=>..) (sp:=fun _=>My.sp_law) rfl (by decide) rfl ⟨rfl,by decide,by decide⟩ (fun w h Y=>PySem.W.kIn_of Y) ?F ?S ?C
  case F =>
    intro w mg fa h KX G hmg
    have T:∃ t,My.Txt (L2.KOf KX) t:=by
      dsimp only [L2.KOf]                          -- K must stand as «<heap const> w.params» for k_is
      refine' My.txt_mk ?e1 ?e2 ?e3 ..
      (case e1=>PySem.W.k_is)                    -- in the order: a name->its address->its object->its parts
      (case e2=>PySem.W.k_is)
      ..
    obtain ⟨t,T⟩:=T
    have e0:=hmg.symm.trans (PySem.W.mg_of KX G T.law)
    cases e0                                       -- fa is the law's own address
    exact ⟨_,fun s u=>.of_eq rfl,fun base kb nb=>My.law_fn T kb nb⟩     -- if «.of_eq rfl» comes too early: refine' ⟨_,?b,fun base kb nb=>My.law_fn T kb nb⟩;exact fun s u=>.of_eq rfl
  case S=>exact fun w H a ns hl hO hS=>..
  case C=>exact ..
(the tactic k_is has no namespace: write k_is) -/
namespace L2
open PySem PySem.Spec PyProof.Rows
noncomputable def fV (s:Stmt):Arguments:=match s with
  | .FunctionDef _ a _ _ _ _ _ _ _ _=>a
  | _=>{ posonlyargs:=[],args:=[],vararg:=none,kwonlyargs:=[],kw_defaults:=[],kwarg:=none,defaults:=[] }
noncomputable def fQ (s:Stmt):List Stmt:=match s with
  | .FunctionDef _ _ b _ _ _ _ _ _ _=>b
  | _=>[]
noncomputable def fq (s:Stmt):Scope:=match s with
  | .FunctionDef _ _ _ _ _ _ sc _ _ _=>sc
  | _=>{ kind:=.function,names:=[],isGenerator:=false,isCoroutine:=false }
noncomputable abbrev CX0:CXT:=fun _ _ _ _ _ _=>False
noncomputable abbrev E0:XK:=fun _ _ _=>False
structure Fun (K:PySem.W.Frag) (x qual:Str) (st:Stmt) (f:Addr) (fd:FuncData):Prop where
  ex:∃ (oc:Value) (od:Option Addr) (kV doc pm:Value) (an:Option Addr) (cdv ct:Value) (osl:Array (Option Value)),
    fd=PySem.W.fnOf x qual (fV st) (fQ st) (fq st) .none kV doc pm an cdv ct /\ K.lookup f=some ⟨oc,od,.func fd,osl⟩ /\ PySem.W.codeIn K cdv qual=true
  kp:PySem.W.keepIn K (.ref f)=true
section
variable {P : Program} {w : World} {K : PySem.W.Frag} {mg : Str -> Option Value} {base : Heap}
theorem Fun.ok {x qual:Str}{st:Stmt}{f:Addr}{fd:FuncData}{N ps:List Str}{k:Nat}{sp:Sp} (F:Fun K x qual st f fd) (S:FnScope N ps (fq st)) (len:∀ vs H Q E,sp vs H Q E->vs.length=ps.length)
    (hbody:∀ (cdv:Value) (A:Around) (outer:List Env) (s:Shared) (H:Hp) (vs:List V) (Q:VK) (E:XK),Room k (A.deeper (envOfC qual (fq st) s.heap.objs.size f cdv))->sp vs H Q E ->
      ∃ t,PSs (cxOf CX0 P w K mg base N qual (fq st) f cdv A outer s H E).nox (fQ st) t /\ t { nx:=fun _ H'=>Q .non H',rt:=Q } (start N vs) H):FnOk P w K mg base CX0 (k + 1) f fd ps sp:=by
  obtain ⟨oc,od,kV,doc,pm,an,cdv,ct,osl,rfl,lk,hcd⟩:=F.ex
  refine OA lk hcd S len fun A outer s H vs Q E hr hsp=>?_
  obtain ⟨t,h,q⟩:=hbody cdv A outer s H vs Q E hr hsp
  exact ⟨t,h.nox,q⟩
theorem Fun.binds {x qual:Str}{st:Stmt}{f:Addr}{fd:FuncData}{ps:List Str} (F:Fun K x qual st f fd)
    (h:∀ (kV doc pm:Value) (an:Option Addr) (cdv ct:Value) (us:List Value),us.length=ps.length->bindArgs (PySem.W.fnOf x qual (fV st) (fQ st) (fq st) .none kV doc pm an cdv ct) ⟨us,[]⟩=pure (ps.zip us)):Binds K fd ps []:=by
  obtain ⟨oc,od,kV,doc,pm,an,cdv,ct,osl,rfl,lk,hcd⟩:=F.ex
  exact .all (h kV doc pm an cdv ct)
theorem Jo {x qual:Str}{st:Stmt}{f:Addr}{oc:Value}{od an:Option Addr}{osl:Array (Option Value)}{kV doc pm cdv ct:Value} (l:K.lookup f=some ⟨oc,od,.func (PySem.W.fnOf x qual (fV st) (fQ st) (fq st) .none kV doc pm an cdv ct),osl⟩)
    (c:PySem.W.codeIn K cdv qual=true) (k:PySem.W.keepIn K (.ref f)=true):Fun K x qual st f (PySem.W.fnOf x qual (fV st) (fQ st) (fq st) .none kV doc pm an cdv ct):=⟨⟨oc,od,kV,doc,pm,an,cdv,ct,osl,rfl,l,c⟩,k⟩
end
section
variable {X : Cx}
end
end L2
set_option Elab.async false
set_option linter.all false
set_option maxRecDepth 100000
set_option maxHeartbeats 4000000
namespace L2
open PySem PySem.Spec PyProof.Rows
noncomputable def clOf (cells:List (Str × Addr)):List (Str × NameKind)->List (Str × Addr)->List (Str × Addr)
  | [],acc=>acc
  | (n,k) :: r,acc=>clOf cells r (if k == .free then (match cells.lookup n with | some c=>(n,c) :: acc | none=>acc) else acc)
theorem lY {env:Env}:∀ (names:List (Str × NameKind)) (acc:List (Str × Addr)),(∀ y ∈ names,y.2=.free->∃ c,env.cells.lookup y.1=some c) ->
    (forIn names acc (fun (x:Str × NameKind) (r:List (Str × Addr))=>(match x with
      | (name,kind)=>if (kind == NameKind.free)=true then (do let a <-cellOf env name;pure (ForInStep.yield ((name,a) :: r))) else pure (ForInStep.yield r):Sem (ForInStep (List (Str × Addr))))))=(pure (clOf env.cells names acc):Sem _)
  | [],acc,_=>rfl
  | (n,k) :: r,acc,h=>by
    rw [List.forIn_cons]
    by_cases hk:k=.free
    . subst hk
      obtain ⟨c,e⟩:=h (n,.free) List.mem_cons_self rfl
      have e':env.cells.lookup n=some c:=e
      have e1:cellOf env n=pure c:=by unfold cellOf;rw [e']
      dsimp only
      rw [if_pos (by decide),e1]
      have q:=lY (env:=env) r ((n,c) :: acc) fun y hy=>h y (List.mem_cons_of_mem _ hy)
      have z:clOf env.cells ((n,NameKind.free) :: r) acc=clOf env.cells r ((n,c) :: acc):=by
        show clOf env.cells r _=_
        rw [if_pos (by decide),e']
      rw [z,<-q]
      rfl
    . dsimp only
      have hb:(k == NameKind.free)=false:=by simpa using hk
      rw [if_neg (by rw [hb];decide)]
      have q:=lY (env:=env) r acc fun y hy=>h y (List.mem_cons_of_mem _ hy)
      have z:clOf env.cells ((n,k) :: r) acc=clOf env.cells r acc:=by
        show clOf env.cells r _=_
        rw [if_neg (by rw [hb];decide)]
      rw [z,<-q]
      rfl
theorem DB {scope:Scope}{env:Env} (h:∀ y ∈ scope.names,y.2=.free->∃ c,env.cells.lookup y.1=some c):closureFor scope env=pure (clOf env.cells scope.names []):=by
  have q:=lY (env:=env) scope.names [] h
  unfold closureFor
  first
    | exact q
    | (dsimp only;rw [show (forIn scope.names ([]:List (Str × Addr)) _:Sem _)=_ from q];rfl)
    | (rw [<-q];rfl)
theorem CB {cells:List (Str × Addr)}:∀ (names:List (Str × NameKind)) (acc:List (Str × Addr)),(∀ x c,acc.lookup x=some c->cells.lookup x=some c)->∀ x c,(clOf cells names acc).lookup x=some c->cells.lookup x=some c
  | [],_,h=>h
  | (n,k) :: r,acc,h=>by
    refine CB r _ ?_
    intro x c e
    by_cases hk:(k == NameKind.free)=true
    . rw [if_pos hk] at e
      cases q:cells.lookup n with
      | none=>rw [q] at e;exact h x c e
      | some a =>
        rw [q] at e
        have e':((n,a) :: acc).lookup x=some c:=e
        rw [List.lookup_cons] at e'
        cases hx:x == n with
        | true=>rw [hx] at e';rw [eq_of_beq hx,q];exact e'
        | false=>rw [hx] at e';exact h x c e'
    . rw [if_neg hk] at e;exact h x c e
theorem CC {cells:List (Str × Addr)}:∀ (names:List (Str × NameKind)) (acc:List (Str × Addr)) (x:Str),((∃ c,acc.lookup x=some c) \/ ((x,NameKind.free) ∈ names /\ ∃ c,cells.lookup x=some c))->∃ c,(clOf cells names acc).lookup x=some c
  | [],_,x,h=>h.elim id fun z=>nomatch z.1
  | (n,k) :: r,acc,x,h=>by
    refine CC r _ x ?_
    rcases h with ⟨c,e⟩ | ⟨hm,c,e⟩
    . left
      by_cases hk:(k == NameKind.free)=true
      . rw [if_pos hk]
        cases q:cells.lookup n with
        | none=>exact ⟨c,e⟩
        | some a =>
          show ∃ c,((n,a) :: acc).lookup x=some c
          rw [List.lookup_cons]
          cases hx:x == n with
          | true=>exact ⟨a,rfl⟩
          | false=>exact ⟨c,e⟩
      . rw [if_neg hk];exact ⟨c,e⟩
    . rcases List.mem_cons.mp hm with z | z
      . have z1:x=n:=congrArg Prod.fst z
        have z2:NameKind.free=k:=congrArg Prod.snd z
        subst z1;subst z2
        left
        rw [if_pos (by decide),e]
        exact ⟨c,by show ((x,c) :: acc).lookup x=_;rw [List.lookup_cons,beq_self_eq_true]⟩
      . exact .inr ⟨z,c,e⟩
theorem oq {env:Env}:∀ (names:List (Str × NameKind)) (x:Str) (k':NameKind),
    (names.map fun (n,k)=>if (k == NameKind.free && env.scope.kind == .function && env.kindOf n == some .cell) then (n,NameKind.cell) else (n,k)).lookup x=some k' ->
    ∃ k,names.lookup x=some k /\ (k'=k \/ (k=.free /\ k'=.cell))
  | [],_,_,h=>by simp at h
  | (n,k) :: r,x,k',h=>by
    have h':List.lookup x ((if (k == NameKind.free && env.scope.kind == .function && env.kindOf n == some .cell)=true then (n,NameKind.cell) else (n,k)) :: (r.map fun (n,k)=>if (k == NameKind.free && env.scope.kind == .function && env.kindOf n == some .cell) then (n,NameKind.cell) else (n,k)))=some k':=h
    by_cases hc:(k == NameKind.free && env.scope.kind == .function && env.kindOf n == some .cell)=true
    . rw [if_pos hc,List.lookup_cons] at h'
      rw [List.lookup_cons]
      cases hx:x == n with
      | true =>
        rw [hx] at h'
        have hk:k=.free:=by
          cases hq:(k == NameKind.free) with
          | true=>exact eq_of_beq hq
          | false=>rw [hq] at hc;simp at hc
        exact ⟨k,rfl,.inr ⟨hk,(Option.some.inj h').symm⟩⟩
      | false=>rw [hx] at h';exact oq r x k' h'
    . rw [if_neg hc,List.lookup_cons] at h'
      rw [List.lookup_cons]
      cases hx:x == n with
      | true=>rw [hx] at h';exact ⟨k,rfl,.inl (Option.some.inj h').symm⟩
      | false=>rw [hx] at h';exact oq r x k' h'
theorem lZ {env:Env}:∀ (names:List (Str × NameKind)) (x:Str),names.lookup x=some .free ->
    (names.map fun (n,k)=>if (k == NameKind.free && env.scope.kind == .function && env.kindOf n == some .cell) then (n,NameKind.cell) else (n,k)).lookup x=some .cell \/
    (names.map fun (n,k)=>if (k == NameKind.free && env.scope.kind == .function && env.kindOf n == some .cell) then (n,NameKind.cell) else (n,k)).lookup x=some .free
  | [],_,h=>by simp at h
  | (n,k) :: r,x,h=>by
    show List.lookup x ((if (k == NameKind.free && env.scope.kind == .function && env.kindOf n == some .cell)=true then (n,NameKind.cell) else (n,k)) :: _)=_ \/ List.lookup x ((if (k == NameKind.free && env.scope.kind == .function && env.kindOf n == some .cell)=true then (n,NameKind.cell) else (n,k)) :: _)=_
    rw [List.lookup_cons] at h
    by_cases hc:(k == NameKind.free && env.scope.kind == .function && env.kindOf n == some .cell)=true
    . rw [if_pos hc,List.lookup_cons]
      cases hx:x == n with
      | true=>exact .inl rfl
      | false=>rw [hx] at h;exact lZ r x h
    . rw [if_neg hc,List.lookup_cons]
      cases hx:x == n with
      | true=>rw [hx] at h;exact .inr h
      | false=>rw [hx] at h;exact lZ r x h
noncomputable abbrev Cx.comp (X:Cx) (N:List Str) (scope:Scope) (cl:List (Str × Addr)) (s:Shared) (H:Hp) (C:Addr) (fp:List Addr):Cx :=
  { X with N:=N,s₀:=s,H₀:=H,env:=compEnvC scope cl C X.env,outer:=X.stack,stack:=X.stack,ex:=fp,fn:=fun _=>false,pn:=[],xe:=fun _ _=>False }
structure CompScope (X:Cx) (N:List Str) (src:List (Option Nat)) (scope:Scope):Prop where
  kind:scope.kind=.function
  nocell:∀ y ∈ scope.names,y.2 ≠ .cell
  names:∀ y ∈ scope.names,y.2=.local->scope.names.lookup y.1=some .local
  has:∀ y ∈ scope.names,y.2=.free->X.env.kindOf y.1=some .cell \/ X.env.kindOf y.1=some .free
  slen:src.length=N.length
  frm:∀ (j i:Nat) (x:Str),src[j]?=some (some i)->N[j]?=some x->X.N[i]?=some x /\ scope.names.lookup x=some .free
noncomputable def srcSt (src:List (Option Nat)) (σ:St):St:=src.map fun o=>o.bind fun i=>(σ[i]?).bind id
noncomputable def PF (X:Cx) (ifs:List Expr) (t:TT):Prop :=
  ∀ (pins:List (Addr × Obj)) (s:Shared) (σ:St) (H:Hp) (Q:Bool->Hp->Prop),Inv X pins σ H s->t σ H Q ->
    wpAny (model X.prog X.w) X.A (forIn ifs true fun c r=>if r=true then do let ok <-isTrue c X.env (eval c X.env);pure (ForInStep.yield ok) else pure (ForInStep.yield r)) (TP X pins σ Q) X.xe s
theorem NB {X:Cx}:PF X [] (fun _ H Q=>Q true H):=fun _ _ _ H _ I h=>wpAny_tests_nil ⟨H,I,h⟩
noncomputable def CompW (J:It) (g:TG) (tf:TT) (te:TE) (D:Addr) (Q:VK) (σ0:St) (H0:Hp):Prop :=
  ∃ W:Nat->Nat->St->Hp->Prop,(∃ m,W 0 m σ0 H0) /\ ∀ i m σ' H',W i m σ' H' ->
    (J.stop i H' /\ Q (.ref D) H') \/ (J.go i H' /\ ∃ N:St->Hp->Prop,(∀ σ2 H2,N σ2 H2->∃ m',m' < m /\ W (i + 1) m' σ2 H2) /\ ∀ x H2,J.yld i H' x H2->g x σ' H2 fun σ2 H3=>tf σ2 H3 fun b H4 =>
      if b=true then te σ2 H4 fun y H5=>∃ ys,H5 D=some (.lst ys) /\ ys.length < sizeLine /\ N σ2 (upd H5 D (.lst (ys ++ [y]))) else N σ2 H4)
noncomputable def tComp (src:List (Option Nat)) (wi:TI) (g:TG) (tf:TT) (te:TE):TE:=fun σ H Q=>wi σ H fun J H1=>∀ D,H1 D=none->CompW J g tf te D Q (srcSt src σ) (upd H1 D (.lst []))
section
variable {prog : Program} {w : World} {A : Around} {R : Result -> Shared -> Prop} {s : Shared}
noncomputable abbrev cErr (P:Program) (w:World) (A:Around) (env:Env) (R:Result->Shared->Prop):Value->Shared->Prop :=
  notedBy (model P w) A env fun x z=>R (.error x) z
noncomputable abbrev cTests (ifs:List Expr) (env:Env):Sem Bool :=
  forIn ifs true fun c r=>if r=true then do let ok <-isTrue c env (eval c env);pure (ForInStep.yield ok) else pure (ForInStep.yield r)
theorem BU {elt tg iter:Expr}{ifs:List Expr}{scope:Scope}{pos:Pos}{it acc:Value}{env:Env}
    (J:Nat->Shared->Prop) (N:Value->Nat->Shared->Prop)
    (hN:∀ v n z,N v n z->wpAny (model prog w) A (letOwnedTupleGo tg it v) (fun _ z1 =>
      wpAny (model prog w) A (assign tg env v) (fun _ z2 =>
      wpAny (model prog w) A (cTests ifs env) (fun b z3 =>
        if b=true then wpAny (model prog w) A (eval elt env) (fun y z4 =>
          wpAny (model prog w) A (call (.builtin "list.append") [acc,y])
            (fun _ z5=>∃ k,k < n /\ J k z5) (cErr prog w A env R) z4) (cErr prog w A env R) z3
        else ∃ k,k < n /\ J k z3)
        (cErr prog w A env R) z2) (cErr prog w A env R) z1) (cErr prog w A env R) z)
    (go:∀ n z,J n z->wpAny (model prog w) A (pyNext it)
      (fun r z1=>match r with | none=>R (.ok .next) z1 | some v=>N v n z1) (cErr prog w A env R) z)
    (n:Nat) (h:J n s) :
    codeAny (model prog w) A (.compLoop (.ListComp elt [⟨tg,iter,ifs,0⟩] scope pos) 0 it acc env) R s:=by
  refine codeAny_loop rfl J (fun k z hz=>?_) n h
  show wpAny _ A (Sem.onRaise (compTurn _ 0 it acc env) _) _ _ z
  refine wpAny_noted ?_
  rw [compTurn_list]
  refine wpAny_bind (wpAny_standAt (wpAny_bind ?_))
  refine wpAny_mono (go k z hz) (fun r z1 h1=>?_) fun _ _ q=>q
  cases r with
  | none=>exact wpAny_pure h1
  | some v =>
    refine wpAny_bind (wpAny_mono (hN v k z1 h1) (fun _ z2 h2=>wpAny_bind ?_) fun _ _ q=>q)
    refine wpAny_mono h2 (fun _ z3 h3=>wpAny_bind ?_) fun _ _ q=>q
    refine wpAny_mono h3 (fun b z4 h4=>?_) fun _ _ q=>q
    cases b with
    | false=>exact wpAny_pure ⟨rfl,h4⟩
    | true =>
      refine wpAny_bind (wpAny_bind (wpAny_mono h4 (fun y z5 h5=>wpAny_bind ?_) fun _ _ q=>q))
      exact wpAny_mono h5 (fun _ z6 h6=>wpAny_pure (wpAny_pure ⟨rfl,h6⟩)) fun _ _ q=>q
end
end L2
set_option Elab.async false
set_option linter.all false
set_option maxRecDepth 100000
set_option maxHeartbeats 4000000
namespace L2
open PySem PySem.Spec PyProof.Rows
section
variable {X : Cx}
theorem CompScope.cells {N:List Str}{src:List (Option Nat)}{scope:Scope} (S:CompScope X N src scope) (ok:X.Ok):∀ y ∈ scope.names,y.2=.free->∃ c,X.env.cells.lookup y.1=some c :=
  fun y hy hf=>ok.has y.1 (S.has y hy hf)
theorem Jp {N:List Str}{src:List (Option Nat)}{scope:Scope}{pins:List (Addr × Obj)}{σ:St}{H:Hp}{s s':Shared}{fp:List Addr}
    (S:CompScope X N src scope) (I:Inv X pins σ H s) (hfp:∀ b ∈ fp,FpOk X pins H b /\ b < s.heap.objs.size) (hh:∃ h' tk,s'={ s with heap:=h',toks:=tk } /\ h'.Ns s.heap.objs.size (fun _=>none) /\ ∀ b o,s.heap.get? b=some o->h'.get? b=some o) :
    Inv (X.comp N scope (clOf X.env.cells scope.names []) s H s.heap.objs.size fp) [] (srcSt src σ) H s':=by
  obtain ⟨h',tk,rfl,hns,hk⟩:=hh
  have sub:=CB (cells:=X.env.cells) scope.names [] (fun x c e=>by simp at e)
  have kfree:∀ x,(compEnvC scope (clOf X.env.cells scope.names []) s.heap.objs.size X.env).kindOf x=some .cell \/ (compEnvC scope (clOf X.env.cells scope.names []) s.heap.objs.size X.env).kindOf x=some .free->scope.names.lookup x=some .free:=fun x hx=>by
    have go:∀ k',(k'=NameKind.cell \/ k'=NameKind.free)->(relabel scope X.env).names.lookup x=some k'->scope.names.lookup x=some .free:=fun k' hk' e=>by
      obtain ⟨k,e1,q⟩:=oq (env:=X.env) scope.names x k' e
      rcases q with q | ⟨q,_⟩
      . subst q
        rcases hk' with z | z
        . subst z;exact absurd rfl (S.nocell _ (PySem.mem_of_lookup e1))
        . subst z;exact e1
      . subst q;exact e1
    exact hx.elim (go _ (.inl rfl)) (go _ (.inr rfl))
  have chas:∀ x,scope.names.lookup x=some .free->∃ c,(clOf X.env.cells scope.names []).lookup x=some c /\ X.env.cells.lookup x=some c:=fun x e=>by
    have hm:=PySem.mem_of_lookup e
    obtain ⟨c,e1⟩:=CC (cells:=X.env.cells) scope.names [] x (.inr ⟨hm,S.cells I.ok (x,.free) hm rfl⟩)
    exact ⟨c,e1,sub x c e1⟩
  refine ⟨⟨I.ok.mod,?_,I.ok.glob,I.ok.blt,Nat.le_refl _,fun x y c e1 e2=>?_,fun x hx=>?_,fun x c e=>?_,I.ok.hd,I.ok.frames,.inl rfl,fun b hb=>?_,I.bs,Nat.le_trans I.ok.bsz I.sz,fun b o e hb=>?_,fun b hb=>?_,I.stack,I.stkFree⟩,
    rfl,I.bare,Un.kept hk,⟨_,hns,fun j x v e1 e2 e3=>?_⟩,fun x c e=>?_,I.hok.fresh (Nat.le_refl _),fun x c e=>?_,fun p hp=>absurd (show p ∈ ([]:List (Addr × Obj)) from hp) (by simp),I.hok.kept hk,?_⟩
  . exact S.kind
  . exact I.ok.inj x y c (sub x c e1) (sub y c e2)
  . obtain ⟨c,e1,_⟩:=chas x (kfree x hx)
    exact ⟨c,e1⟩
  . exact absurd e (by simp)
  . obtain ⟨f,hl⟩:=hfp b hb
    exact ⟨Nat.ne_of_lt hl,fun x c e=>f.2.2.2.2.1 x c (sub x c e)⟩
  . obtain ⟨f,_⟩:=hfp b hb
    obtain ⟨_,_,_,f4,_⟩:=f
    rcases f4 with z | z
    . exact I.ok.noex b o e z
    . have q:=(I.ok.bs b o e).1
      exact absurd (Nat.lt_of_lt_of_le (Heap.lt_size q) z) (Nat.lt_irrefl _)
  . obtain ⟨f,_⟩:=hfp b hb
    intro hz
    rcases List.mem_cons.mp (I.stkSub b hz) with e | e
    . exact f.2.1 e
    . exact f.2.2.1 e
  . have hs:∃ i,src[j]?=some (some i) /\ σ[i]?=some (some v):=by
      have e2':(src.map fun o=>o.bind fun i=>(σ[i]?).bind id)[j]?=some (some v):=e2
      rw [List.getElem?_map] at e2'
      cases q:src[j]? with
      | none=>rw [q] at e2';cases e2'
      | some o =>
        rw [q] at e2'
        cases o with
        | none=>cases e2'
        | some i =>
          refine ⟨i,rfl,?_⟩
          have e3':(σ[i]?).bind id=some v:=Option.some.inj e2'
          cases z:σ[i]? with
          | none=>rw [z] at e3';cases e3'
          | some o' =>
            rw [z] at e3'
            have:o'=some v:=e3'
            rw [this]
    obtain ⟨i,hsj,hσ⟩:=hs
    obtain ⟨hN,hfr⟩:=S.frm j i x hsj e1
    have hkX:=S.has (x,.free) (PySem.mem_of_lookup hfr) rfl
    obtain ⟨m,_,hl⟩:=I.loc
    obtain ⟨u,r,lk⟩:=hl i x v hN hσ (.inr hkX)
    refine ⟨u,r,?_⟩
    rcases lk with ⟨k,_⟩ | ⟨_,c,ec,hcell⟩
    . rcases hkX with z | z
      . rw [z] at k;cases k
      . rw [z] at k;cases k
    . obtain ⟨c',e1',e2'⟩:=chas x hfr
      have:c'=c:=by rw [ec] at e2';exact (Option.some.inj e2').symm
      subst this
      refine .inr ⟨?_,c',e1',?_⟩
      . exact lZ (env:=X.env) scope.names x hfr
      . obtain ⟨o,ho,hd⟩:=hcell
        exact ⟨o,hk _ _ ho,hd⟩
  . obtain ⟨v,o,ho,hd⟩:=I.cell x c (sub x c e)
    exact ⟨v,o,hk _ _ ho,hd⟩
  . exact I.freeC x c (sub x c e)
  . show (srcSt src σ).length=N.length
    unfold srcSt
    rw [List.length_map];exact S.slen
theorem L3 {N:List Str}{src:List (Option Nat)}{elt tg iter:Expr}{ifs:List Expr}{scope:Scope}{pos:Pos}{wi:TI}{g:TG}{tf:TT}{te:TE}
    (hc:X.calm=true) (S:CompScope X N src scope) (hi:PI X tg iter wi)
    (hg:∀ cl s H C fp,PG (X.comp N scope cl s H C fp) tg g) (hf:∀ cl s H C fp,PF (X.comp N scope cl s H C fp) ifs tf) (he:∀ cl s H C fp,PE (X.comp N scope cl s H C fp) elt te)
    (hs:∀ x,foldedSetIterable iter X.env x=pure x:=by intro _;rfl):PE X (.ListComp elt [⟨tg,iter,ifs,0⟩] scope pos) (tComp src wi g tf te):=by
  intro pins s σ H Q I h
  rw [eval_ListComp]
  refine wpAny_comprehension_free (use:=none) rfl hs (DB (S.cells I.ok)) S.kind S.names (thn (hi pins s σ H _ I h) fun xv s1 h1=>thn h1 fun itv s2 h2=>?_)
  obtain ⟨it,fp,tn,J,H2,e,I2,T,st2,f2,hW⟩:=h2
  subst e
  refine wpAny_newObj_type ?_
  generalize hD:s2.heap.objs.size=D
  have hDn:H2 D=none:=I2.hok.fresh (Nat.le_of_eq hD)
  have I3:Inv X pins σ (upd H2 D (.lst [])) { s2 with heap:=s2.heap.push { cls:=.type "list",dict:=none,data:=.seq ([]:List Value).toArray } }:=by
    subst hD
    exact I2.laid (t':=s2.toks) (fun b u e=>Heap.get?_push_of_some _ e) (Nat.le_refl _) ⟨Nat.zero_le _,[],0,.nil,Heap.get?_push_size _ rfl⟩
  obtain ⟨W,⟨m0,w0⟩,turn⟩:=hW D hDn
  have up:∀ b o,s2.heap.get? b=some o->(s2.heap.push { cls:=.type "list",dict:=none,data:=.seq ([]:List Value).toArray }).get? b=some o:=fun b u e=>Heap.get?_push_of_some _ e
  have obj2:=T.obj _ _ st2
  have st3:tn 0 (s2.heap.push { cls:=.type "list",dict:=none,data:=.seq ([]:List Value).toArray }):=T.keep _ _ _ st2 fun b _ o e=>up b o e
  have fpl:∀ b ∈ fp,b < s2.heap.objs.size:=fun b hb=>by obtain ⟨o,e,_⟩:=obj2 b hb;exact Heap.lt_size e
  have f3:∀ b ∈ fp,FpOk X pins (upd H2 D (.lst [])) b:=fun b hb=>⟨by rw [fX (by rw [<-hD];exact Nat.ne_of_lt (fpl b hb))];exact (f2 b hb).1,(f2 b hb).2⟩
  generalize hs3:({ s2 with heap:=s2.heap.push { cls:=.type "list",dict:=none,data:=.seq ([]:List Value).toArray } }:Shared)=s3 at I3 ⊢
  have hs3h:s3.heap=s2.heap.push { cls:=.type "list",dict:=none,data:=.seq ([]:List Value).toArray }:=by rw [<-hs3]
  rw [<-hs3h] at st3
  have fpl3:∀ b ∈ fp,b < s3.heap.objs.size:=fun b hb=>by rw [hs3h,Heap.size_push];exact Nat.lt_succ_of_lt (fpl b hb)
  generalize hH3:upd H2 D (.lst [])=H3 at I3 f3 w0
  refine wpAny_newFunctionEnv S.nocell (by intro y hy;simp at hy) (fun h₁ hns₁ hsb₁=>?_) S.kind
  have k1:∀ b o,s3.heap.get? b=some o->h₁.get? b=some o:=fun b o e=>hsb₁.extBut b o (Nat.ne_of_lt (Heap.lt_size e)) (Heap.get?_push_of_some _ e)
  have IY:=Jp S I3 (fun b hb=>⟨f3 b hb,fpl3 b hb⟩) ⟨h₁,s3.toks + ([]:List (Str × Value)).length,rfl,hns₁,k1⟩
  have st4:tn 0 h₁:=T.keep _ _ _ st3 fun b _ o e=>k1 b o e
  generalize hcl:clOf X.env.cells scope.names []=cl at IY ⊢
  generalize hC:s3.heap.objs.size=C at IY hns₁ hsb₁ ⊢
  have fpY:∀ {H':Hp},(∀ b ∈ fp,H' b=none)->∀ b ∈ fp,FpOk (X.comp N scope cl s3 H3 C fp) [] H' b:=fun hn b hb=>by
    refine ⟨hn b hb,?_,?_,.inl hb,?_,fun p hp=>absurd (show p ∈ ([]:List (Addr × Obj)) from hp) (by simp)⟩
    . exact (IY.ok.exf b hb).1
    . exact IY.ok.exfs b hb
    . intro x c e z;exact (IY.ok.exf b hb).2 x c e z
  have fin:∀ (σ':St) (H':Hp) (s':Shared),Inv (X.comp N scope cl s3 H3 C fp) [] σ' H' s'->∀ h',Heap.SameBut C s'.heap h'->Inv X pins σ H' { s' with heap:=h' }:=fun σ' H' s' I' h' hsb=>by
    have hCf:H' C=none:=I'.free
    have kp:∀ b o,b ≠ C->s'.heap.get? b=some o->h'.get? b=some o:=fun b o hb e=>hsb.extBut b o hb e
    have hCs:s3.heap.get? C=none:=by rw [<-hC];exact Heap.get?_none_of_le (Nat.le_refl _)
    have neC:∀ b o,s3.heap.get? b=some o->b ≠ C:=fun b o e z=>by rw [z,hCs] at e;cases e
    have U:=I'.base
    refine I3.call' (s':={ s' with heap:=h' }) (ch:=fp) I'.os ⟨fun b o e n hb hx=>kp b o (neC b o e) (U.keep b o e n hb hx),fun b o e n hb hx=>?_,U.free,fun b o e hx=>?_,U.tups,U.frzs,U.tbls⟩ ?_ I'.bare fun b hb=>?_
    . obtain ⟨sl,e1⟩:=U.slot b o e n hb hx
      exact ⟨sl,kp b _ (neC b o e) e1⟩
    . obtain ⟨o',e1⟩:=U.there b o e hx
      exact ⟨o',kp b o' (neC b o e) e1⟩
    . intro b ob e
      refine (I'.hok b ob e).stay (fun c w' hcc q=>kp c w' (fun z=>?_) q) (fun _ q=>q) fun _ _ q=>q
      rcases hcc with z1 | z1
      . rw [<-z1,z,hCf] at e;cases e
      . rw [z,hCf] at z1;cases z1
    . exact ⟨(f3 b hb).2.2.2.1,(f3 b hb).2.1,fun x c e=>(f3 b hb).2.2.2.2.1 x c e,(f3 b hb).2.2.2.2.2⟩
  have loop:∀ s4:Shared,s4={ s3 with heap:=h₁,toks:=s3.toks + ([]:List (Str × Value)).length } ->
      codeAny (model X.prog X.w) X.A (.compLoop (.ListComp elt [⟨tg,iter,ifs,0⟩] scope pos) 0 (.ref it) (.ref D) (compEnvC scope cl C X.env)) (compPost (model X.prog X.w) X.A X.xe none (EP X pins σ Q) (.ref D) C) s4:=by
    rintro s4 rfl
    refine BU (fun n s'=>∃ i σ' H',Inv (X.comp N scope cl s3 H3 C fp) [] σ' H' s' /\ tn i s'.heap /\ (∀ b ∈ fp,H' b=none) /\ W i n σ' H') _ (fun _ _ _ q=>q) ?_ m0 ⟨0,_,H3,IY,st4,fun b hb=>(f3 b hb).1,w0⟩
    rintro n s5 ⟨i,σ5,H5,I5,st5,fr5,w5⟩
    have nofail:∀ {α:Type}{t:Sem α}{Q1:α->Shared->Prop}{E1:Value->Shared->Prop}{ss:Shared},wpAny (model X.prog X.w) X.A t Q1 (fun _ _=>False) ss->wpAny (model X.prog X.w) X.A t Q1 E1 ss:=fun hw=>wpAny_mono hw (fun _ _ q=>q) fun _ _ z=>False.elim z
    rcases turn i n σ5 H5 w5 with ⟨stop,q5⟩ | ⟨go,NN,hN,step⟩
    . refine nofail (thn (T.done (X.comp N scope cl s3 H3 C fp) rfl rfl rfl hc i [] s5 σ5 H5 (fun _ _=>False) I5 (fpY fr5) st5 stop) fun r s6 ⟨hr,I6⟩=>?_)
      subst hr
      obtain ⟨m6,hn6,_⟩:=I6.loc
      exact ⟨m6,hn6,fun h' hsb=>⟨.ref D,H5,fin σ5 H5 s6 I6 h' hsb,rfl,q5⟩⟩
    . refine nofail (thn (T.item (X.comp N scope cl s3 H3 C fp) rfl rfl rfl hc i [] s5 σ5 H5 (fun _ _=>False) I5 (fpY fr5) st5 go) fun r s6 ⟨u,hr,h6⟩=>?_)
      subst hr
      refine nofail (thn h6 fun _ s7 ⟨x,H7,I7,r7,y7,st7,fr7⟩=>?_)
      have I7':=I7.pinned (fpY fr7) (T.obj _ _ st7)
      refine nofail (thn (hg cl s3 H3 C fp _ s7 σ5 H7 x u _ I7' r7 (step x H7 y7)) fun _ s8 ⟨σ8,H8,I8,q8⟩=>?_)
      refine nofail (thn (hf cl s3 H3 C fp _ s8 σ8 H8 _ I8 q8) fun b s9 ⟨H9,I9,q9⟩=>?_)
      have again:∀ {σ9:St}{HA:Hp}{sA:Shared},Inv (X.comp N scope cl s3 H3 C fp) ([] ++ pinsAt fp s7.heap) σ9 HA sA->NN σ9 HA->∃ m,m < n /\ ∃ i σ' H',Inv (X.comp N scope cl s3 H3 C fp) [] σ' H' sA /\ tn i sA.heap /\ (∀ b ∈ fp,H' b=none) /\ W i m σ' H':=fun {σ9 HA sA} IA nA=>by
        obtain ⟨m',hm,wA⟩:=hN σ9 HA nA
        refine ⟨m',hm,i + 1,σ9,HA,IA.unpinned,T.keep _ _ _ st7 fun b hb o e=>(IA.pin (b,o) (List.mem_append_right _ (List.mem_append_right _ (lX hb e)))).1,fun b hb=>?_,wA⟩
        obtain ⟨o,e,d⟩:=T.obj _ _ st7 b hb
        exact (IA.pin (b,o) (List.mem_append_right _ (List.mem_append_right _ (lX hb e)))).2.1
      cases b with
      | false =>
        rw [if_neg (by decide)] at q9
        rw [if_neg (by decide)]
        exact again I9 q9
      | true =>
        rw [if_pos rfl] at q9
        rw [if_pos rfl]
        refine nofail (thn (he cl s3 H3 C fp _ s9 σ8 H9 _ I9 q9) fun yv sA ⟨y,HA,IA,rA,ys,hys,hyl,nA⟩=>?_)
        refine nofail (thn (Bt _ sA σ8 HA (.ref D) [y] (.ref D) [yv] (fun _ HB=>NN σ8 HB) IA rfl (.cons rA .nil) ⟨D,ys,y,rfl,rfl,hys,hyl,nA⟩) fun r sB hB=>?_)
        obtain ⟨_,HB,IB,_,nB⟩:=hB
        exact again IB nB
  exact codeAny_compStart_list (loop _ rfl) (T.self _ 0 _ _ _ st4 (loop _ rfl))
end
end L2
set_option Elab.async false
set_option linter.all false
set_option maxRecDepth 100000
set_option maxHeartbeats 4000000
namespace L2
open PySem PySem.Spec PyProof.Rows PySem.W PySem.Builtin PySem.Builtin.ObjectAttr PySem.Builtin.Getset_descriptor
section
variable {prog : Program} {w : World} {A : Around} {E : Value -> Shared -> Prop} {K : Frag} {x C : Addr}
noncomputable def Ex1 (x C:Addr) (h:Heap):Prop:=∃ ox,h.get? x=some ox /\ ox.cls=.ref C
theorem Ex1.type {M:Model}{h:Heap} (I:Ex1 x C h):Looks M h (typeOf (.ref x)) (.ref C):=by
  obtain ⟨ox,e,hc⟩:=I
  exact hc ▸ (Looks.ld e).andThen .now
theorem Jq {M:Model}{h:Heap} (X:K.In h) {a g:Value}{name:Str} (ha:findIn K (.ref C) name=some (some a)) (hg:specialIn K a "__get__"=some (some g)) (ht:takesIn K a=some true) :
    Looks M h (find (.ref x) (.ref C) name) (.bind g a):=by
  have l1:=looks_findIn (M:=M) X ha
  have l2:Looks M h (getOf (some a)) (some g):=looks_specialIn X hg
  have l3:=looks_takesIn (M:=M) X ht
  have l4:Looks M h (dataDescriptor? (some a) (some g)) (some (g,a)):=l3.andThen .now
  exact l1.andThen (l2.andThen (l4.andThen (Looks.tag .now)))
theorem L4 {prog:Program}{w:World}{A:Around}{R:Result->Shared->Prop}{s:Shared}{tp:Value} (X:K.In s.heap) (I:Ex1 x C s.heap) (hm:mroIn K C (.type "object")=some true) (q:R (.ok (.ret (.ref C))) s) :
    codeAny (model prog w) A (.call (.builtin "getset_descriptor.__get__") ⟨[.builtin "object.__class__",.ref x,tp],[]⟩) R s:=by
  obtain ⟨hh,g,dr,t,os⟩:=s
  have l0:=I.type (M:=model prog w)
  have l1:=looks_mroIn (M:=model prog w) X hm
  refine codeAny_call_builtin KF.slot_gs.plain KF.entry_gs
    (KF.slot_gs.check _ _ _ _ _ _ _ _ KF.type_class (KF.args_gs _ _ _) ?_)
  unfold Builtin.«getset_descriptor.__get__» descrGet
  rw [dga_obj]
  refine wpAny_bind (wpAny_pure ?_)
  unfold descrGetter descrCheckInstance descrNameAndClass
  unfold isInstance
  simp only [KF.owner_class]
  repeat (any_goals (first | assumption | with_reducible refine l0.at ?_ | with_reducible refine l1.at ?_ | wp_step))
  refine ⟨Code.quiet_builtin _ (by decide +kernel),codeAny_builtin KF.entry_class ?_⟩
  unfold Builtin.«object.__class__»
  unfold shownTypeOf
  repeat (any_goals (first | assumption | with_reducible refine l0.at ?_ | wp_step))
structure ExcK (K:Frag) (C:Addr):Prop where
  ga:findIn K (.ref C) "__getattribute__"=some (some (.builtin "BaseException.__getattribute__"))
  gt:findIn K (.ref C) "__getattr__"=some none
  cl:findIn K (.ref C) "__class__"=some (some (.builtin "object.__class__"))
  gs:specialIn K (.builtin "object.__class__") "__get__"=some (some (.builtin "getset_descriptor.__get__"))
  tk:takesIn K (.builtin "object.__class__")=some true
  mo:mroIn K C (.type "object")=some true
  mb:mroIn K C (.type "BaseException")=some true
  cd:(clsIn K C).isSome=true
theorem Jr {M:Model}{A:Around}{h:Heap}{g:Array GenState}{d:Drawn}{t:Nat}{os:OsState}{nameV:Value}{Q:Unit->Shared->Prop} (T:ExcK K C) (X:K.In h) (I:Ex1 x C h)
    (hq:Q () ⟨h,g,d,t,os⟩):wpAny M A (checkBuiltinCall "BaseException.__getattribute__" ⟨[.ref x,nameV],[]⟩) Q E ⟨h,g,d,t,os⟩:=by
  have hk:builtinKind "BaseException.__getattribute__"=some .slot:=by decide +kernel
  have hsplit:splitId "BaseException.__getattribute__"=some ("BaseException", "__getattribute__"):=by decide +kernel
  have ha:=F.args_bexc_ga (.ref x) nameV
  have L0:=I.type (M:=M)
  have L1:=looks_mroIn (M:=M) X T.mb
  have LI:Looks M h (isInstance (.ref x) (.type "BaseException")) true:=L0.andThen L1
  simp only [checkBuiltinCall,hk,hsplit]
  refine wpAny_bind (LI.at ?_)
  repeat (any_goals (first | assumption | wp_step))
theorem Js {tk:Tok}{Q:Fin->Shared->Prop}{h:Heap}{g:Array GenState}{d:Drawn}{t:Nat}{os:OsState} (T:ExcK K C) (X:K.In h) (I:Ex1 x C h) (hq:Q (.done (.ret (.ref C))) ⟨h,g,d,t,os⟩) :
    wpAny (model prog w) A (Builtin.«object.__getattribute__» ⟨[.ref x,.str "__class__" tk],[]⟩) Q E ⟨h,g,d,t,os⟩:=by
  have L0:=I.type (M:=model prog w)
  have L1:=Jq (x:=x) (M:=model prog w) X T.cl T.gs T.tk
  unfold Builtin.«object.__getattribute__»
  refine wpAny_bind (wpAny_pure ?_)
  repeat (any_goals (first | assumption | with_reducible refine L0.at ?_ | with_reducible refine L1.at ?_ | wp_step))
  refine L4 X I T.mo ?_
  repeat (any_goals (first | assumption | wp_step))
theorem L5 {tk:Tok}{R:Result->Shared->Prop}{h:Heap}{g:Array GenState}{d:Drawn}{t:Nat}{os:OsState} (T:ExcK K C) (X:K.In h) (I:Ex1 x C h) (hq:R (.ok (.ret (.ref C))) ⟨h,g,d,t,os⟩) :
    codeAny (model prog w) A (.call (.builtin "BaseException.__getattribute__") ⟨[.ref x,.str "__class__" tk],[]⟩) R ⟨h,g,d,t,os⟩ :=
  codeAny_call_builtin F.excAttr_ValueError.ga.plain F.entry_bexc_ga (Jr T X I (Js T X I hq))
theorem NC {Q:Option Value->Shared->Prop}{s:Shared} (T:ExcK K C) (X:K.In s.heap) (I:Ex1 x C s.heap) (hq:Q (some (.ref C)) { s with toks:=s.toks + 1 }) :
    wpAny (model prog w) A (getAttr? (.ref x) "__class__") Q E s:=by
  obtain ⟨h,g,d,t,os⟩:=s
  have L0:=I.type (M:=model prog w)
  have L1:=looks_findIn (M:=model prog w) X T.ga
  have L2:=looks_findIn (M:=model prog w) X T.gt
  have f3:=F.excAttr_ValueError.ga.bind (.ref x)
  have hx0:(false && onTheHeap (Value.builtin "BaseException.__getattribute__"))=false:=rfl
  have hx2:(Value.builtin "BaseException.__getattribute__" == Value.builtin "object.__getattribute__")=false:=by decide +kernel
  have hx1:(onTheHeap (Value.ref C) && Value.builtin "BaseException.__getattribute__" == Value.builtin "object.__getattribute__")=false:=by rw [hx2];rfl
  unfold getAttr? getAttrBy?
  refine wpAny_bind (wpAny_mkText (wpAny_bind (wpAny_attempt ?_)))
  repeat (any_goals (first | assumption | with_reducible refine L0.at ?_ | with_reducible refine L1.at ?_ | with_reducible refine L2.at ?_ | wp_step))
  refine L5 T X I ?_
  repeat (any_goals (first | assumption | wp_step))
theorem Jt (T:ExcK K C):KitX K (.ref x) (.ref C) (Ex1 x C) where
  ty:=fun _ _ _ I=>I.type
  it:=fun _ _ X _=>by
    obtain ⟨cdD,hcD⟩:=Option.isSome_iff_exists.mp T.cd
    unfold clsIn at hcD
    split at hcD
    . rename_i c' d' cd' sl' ho
      intro A' Q' E' s' k q
      unfold isType loadHead
      exact wpAny_bind (wpAny_loadPart (k _ _ (X _ _ ho)) (wpAny_pure q))
    . cases hcD
  ne:=fun h tp dd its n sl X htp=>by
    obtain ⟨cdD,hcD⟩:=Option.isSome_iff_exists.mp T.cd
    refine Bool.eq_false_iff.mpr fun q=>?_
    have e:C=tp:=Value.ref.inj (beq_iff_eq.mp q)
    subst e
    unfold clsIn at hcD
    split at hcD
    . rename_i c' d' cd' sl' ho
      have z:=(X _ _ ho).symm.trans htp
      cases z
    . cases hcD
  ca:=fun X I k=>NC T X I k
end
end L2
set_option Elab.async false
set_option linter.all false
set_option maxRecDepth 100000
set_option maxHeartbeats 4000000
namespace L2
open PySem PySem.Spec PyProof.Rows PySem.W
noncomputable def ExIn (B:Heap) (l:List Env) (ea:Addr) (cls a0:Value) (h:Heap):Prop :=
  Heap.FlyingW B l ea cls a0 h \/ (B.StaysIn h /\ B.get? ea=none /\ h.FunFrames B l /\
    h.get? ea=some { cls:=cls,data:=.fields #[a0,.none,.none,.none,.bool false,.none] })
section
variable {M : Model} {A : Around} {E : Value -> Shared -> Prop} {s : Shared} {B : Heap} {env : Env} {outer : List Env} {L ea : Addr} {cls a0 : Value} {Q : Unit -> Shared -> Prop}
end
noncomputable def CXr (P:Program) (w:World):CXT:=fun outer H s E e s'=>∃ (ea C:Addr) (a0:Value) (B:Heap) (H':Hp),
  e=.ref ea /\ s'.os=s.os /\ AllBare s'.gens /\ Un (frs outer) [] H H' s.heap s'.heap /\ HOk P w H' s'.heap /\ ExIn B outer ea (.ref C) a0 s'.heap /\
  (∀ b u o,H' b=some u->s'.heap.get? b=some o->B.get? b=some o) /\ (∀ b o,s.heap.get? b=some o->b ∉ frs outer->∃ o',B.get? b=some o') /\ E (.ref C) none H'
section
variable {X : Cx}
end
end L2
set_option Elab.async false
set_option linter.all false
set_option maxRecDepth 100000
set_option maxHeartbeats 4000000
namespace L2
open PySem PySem.Spec PyProof.Rows PySem.W
noncomputable abbrev vErr:List Value:=[.type "ValueError",.type "Exception",.type "BaseException",.type "object"]
section
variable {X : Cx}
end
end L2
set_option Elab.async false
set_option linter.all false
set_option maxRecDepth 100000
set_option maxHeartbeats 4000000
namespace L2
open PySem PySem.Spec PyProof.Rows PySem.W
section
variable {X : Cx}
end
end L2
set_option Elab.async false
set_option linter.all false
set_option maxRecDepth 100000
set_option maxHeartbeats 4000000
namespace L2
open PySem PySem.Spec PyProof.Rows PySem.W
structure RoomH (k:Nat) (A:Around):Prop where
  dp:A.depth + 3 * k + 5 < recursionLimit
  un:A.units + 16 * k + 200 < cLine
structure FnOkH (P:Program) (w:World) (K:PySem.W.Frag) (mg:Str->Option Value) (base:Heap) (CX:CXT) (k:Nat) (f:Addr) (fd:FuncData) (ps:List Str) (sp:Sp):Prop where
  len:∀ vs H Q E,sp vs H Q E->vs.length=ps.length
  run:∀ (A:Around) (outer:List Env) (s:Shared) (H:Hp) (args:Args) (us:List Value) (vs:List V) (Q:VK) (E:XK),RoomH k A->Env0 P w K mg base A outer s H->BindsTo s fd args (ps.zip us)->Vals vs us->sp vs H Q E ->
    codeAny (model P w) A (.call (.ref f) args) (CR CX outer P w H s Q E) s
section
variable {X : Cx} {CX : CXT} {k : Nat} {f C : Addr} {fd : FuncData} {ps : List Str} {sp : Sp} {dvs : List V} {ds : List Value} {E : XK} {x m : Str} {p pos apos : Pos} {e o : Expr} {es : List Expr} {ta : TE} {t : TA}
inductive TyX (K:Frag) (H:Hp):V->Value->Prop where
  | of {x:V}{t:Value} (h:TyOf K H x t):TyX K H x t
  | exc {a C:Addr} (e:H a=some (.ext (Ex1 a C))) (T:ExcK K C):TyX K H (.ref a) (.ref C)
noncomputable def ClsV:V->Value->Prop
  | .ref a,c=>c=.ref a
  | .ty n,c=>c=.type n
  | _,_=>False
noncomputable def rInst (K:Frag):List V->Hp->VK->Prop:=fun vs H Q=>∃ x c t cv b,vs=[x,c] /\ TyX K H x t /\ ClsV c cv /\ kitOne K t cv=some b /\ Q (.bl b) H
theorem Gx:CallR X (.builtin "isinstance") (rInst X.K):=by
  intro pins s σ H xs us Q I rv h
  obtain ⟨x,c,t,cv,b,rfl,ty,hc,e,q⟩:=h
  cases rv with
  | cons r1 r2 =>
    cases r2 with
    | cons r3 r4 =>
      cases r4
      rename_i u1 u2
      have ec:u2=cv:=by
        cases c with
        | ref a=>exact (show u2=.ref a from r3).trans (show cv=.ref a from hc).symm
        | ty n=>exact (show u2=.type n from r3).trans (show cv=.type n from hc).symm
        | non=>exact hc.elim
        | bl _=>exact hc.elim
        | int _=>exact hc.elim
        | str _=>exact hc.elim
        | byt _=>exact hc.elim
        | flt _=>exact hc.elim
      subst ec
      cases ty with
      | of ty=>exact Gr I r1 ty e fun tk=>⟨.bl b,H,I.tok tk,rfl,q⟩
      | @exc a C ea T =>
        cases (show u1=Value.ref a from r1)
        obtain ⟨p,_,_⟩:=(show ObjOk X.prog X.w H s.heap a (.ext (Ex1 a C)) from I.hok a _ ea)
        exact PySem.W.kia_one (Jt T) I.kIn p e (fun z=>nomatch z) fun tk=>⟨.bl b,H,I.tok tk,rfl,q⟩
end
end L2
set_option Elab.async false
set_option linter.all false
set_option maxRecDepth 100000
set_option maxHeartbeats 4000000
namespace L2
open PySem PySem.Spec PyProof.Rows PySem.W
section
variable {X : Cx}
theorem CD {A:Around}{s:Shared}{y:V}{u:Value} (ry:RelV y u) (fy:flatV y=true) (f:Value->Bool):∀ {xs:List V}{us:List Value},Vals xs us->xs.all flatV=true ->
    (∀ z w,z ∈ xs->w ∈ us->RelV z w->f w=eqV z y)->∀ w ∈ us,SeqAt.EqAt A s w u (f w)
  | _,_,.nil,_,_,_,h=>nomatch h
  | z :: zs,w :: ws,.cons r t,ha,hf,v,hv=>by
    rw [List.all_cons,Bool.and_eq_true] at ha
    rcases List.mem_cons.mp hv with e | e
    . subst e
      rw [hf z v List.mem_cons_self List.mem_cons_self r]
      exact Jj r ry ha.1 fy
    . exact CD ry fy f t ha.2 (fun a b h1 h2=>hf a b (List.mem_cons_of_mem _ h1) (List.mem_cons_of_mem _ h2)) v e
noncomputable def eqW (y:V) (w:Value):Bool:=match w with
  | .none=>eqV .non y
  | .bool b=>eqV (.bl b) y
  | .int i _=>eqV (.int i) y
  | .str x _=>eqV (.str x) y
  | _=>false
theorem Ju {z y:V}{w:Value} (r:RelV z w) (f:flatV z=true):eqW y w=eqV z y:=by
  cases z with
  | non=>cases (show w=Value.none from r);rfl
  | bl b=>cases (show w=Value.bool b from r);rfl
  | int i=>obtain ⟨t,rfl⟩:=(show ∃ t,w=Value.int i t from r);rfl
  | str x=>obtain ⟨t,rfl⟩:=(show ∃ t,w=Value.str x t from r);rfl
  | byt b=>exact nomatch f
  | flt b=>exact nomatch f
  | ref a=>exact nomatch f
  | ty n=>exact nomatch f
theorem ND {y:V}:∀ {xs:List V}{us:List Value}{j:Nat} (h:j < us.length),Vals xs us->xs.all flatV=true->∃ z,xs[j]?=some z /\ eqW y us[j]=eqV z y
  | _,_,_,h,.nil,_=>absurd h (by simp)
  | z :: zs,w :: ws,0,_,.cons r t,ha=>by
    rw [List.all_cons,Bool.and_eq_true] at ha
    exact ⟨z,rfl,Ju r ha.1⟩
  | z :: zs,w :: ws,j + 1,h,.cons r t,ha=>by
    rw [List.all_cons,Bool.and_eq_true] at ha
    obtain ⟨v,e1,e2⟩:=ND (y:=y) (j:=j) (by simpa using h) t ha.2
    exact ⟨v,by simpa using e1,by simpa using e2⟩
noncomputable def rIndex:V->List V->Hp->VK->Prop:=fun x vs H Q=>∃ l xs y j,x=.ref l /\ vs=[y] /\ H l=some (.lst xs) /\ xs.all flatV=true /\ flatV y=true /\ j < xs.length /\
  (∀ z,xs[j]?=some z->eqV z y=true) /\ (∀ (m:Nat) z,m < j->xs[m]?=some z->eqV z y=false) /\ Q (.int (j:Nat)) H
theorem Jv:MtM X "list.index" rIndex:=by
  intro pins s σ H x vs v us Q I rx rv h
  obtain ⟨l,xs,y,j,rfl,rfl,hH,ha,hy,hj,hit,hno,q⟩:=h
  cases rx
  obtain ⟨u,rfl,ru⟩:=rv.one
  obtain ⟨z,its,n,r,hl,e⟩:=I.lstM hH
  have hj':j < its.length:=by omega
  have small:(j:Int) < 2 ^ 63 - 1:=by have:=line63;omega
  refine call_meets F.slot_list_index ⟨_,e,rfl⟩ F.entry_list_index (F.args_list_index_2 _ _) (SeqAt.list_indexAt l its.toArray n none #[] u (eqW y) j (by simpa using hj') small ?_ ?_) ⟨e,?_,?_⟩
  . obtain ⟨v,e1,e2⟩:=ND (y:=y) hj' r ha
    rw [show (its.toArray[j]'(by simpa using hj'))=its[j] from rfl,e2]
    exact hit v e1
  . intro m hm hmj
    have hm':m < its.length:=by simpa using hm
    obtain ⟨v,e1,e2⟩:=ND (y:=y) hm' r ha
    rw [show (its.toArray[m]'hm)=its[m] from rfl,e2]
    exact hno m v hmj e1
  . intro w hw
    exact CD ru hy (eqW y) r ha (fun z w h1 h2 rz=>Ju rz (List.all_eq_true.mp ha z h1)) w (by simpa using hw)
  . exact ⟨.int (j:Nat),H,I.tok _,⟨_,rfl⟩,q⟩
end
end L2
set_option Elab.async false
set_option linter.all false
set_option maxRecDepth 100000
set_option maxHeartbeats 4000000
namespace L2
open PySem PySem.Spec PyProof.Rows PySem.W
section
variable {X : Cx}
end
end L2
set_option Elab.async false
set_option linter.all false
set_option maxRecDepth 100000
set_option maxHeartbeats 4000000
namespace L2.DL
open PySem PySem.Spec PyProof.Rows
inductive D where
  | non | bl (b:Bool) | int (i:Int) | str (x:Str) | tup (l:List D) | lst (l:List D) | dic (l:List (Key × D))
inductive W where
  | d (x:D) | b (n:Nat) | s (l:List Int) | x (i:Nat)
inductive Bx where
  | lst (l:List D) | dic (l:List (Key × D)) | dead
mutual
noncomputable def Den (F:Hp):D->V->Prop
  | .non,v=>v=.non
  | .bl b,v=>v=.bl b
  | .int i,v=>v=.int i
  | .str x,v=>v=.str x
  | .tup l,v=>∃ a vs,v=.ref a /\ F a=some (.tup vs) /\ DenL F l vs
  | .lst l,v=>∃ a vs,v=.ref a /\ F a=some (.lst vs) /\ DenL F l vs
  | .dic l,v=>∃ a kvs,v=.ref a /\ F a=some (.dK kvs) /\ DenK F l kvs
noncomputable def DenL (F:Hp):List D->List V->Prop
  | [],vs=>vs=[]
  | d :: l,vs=>∃ v r,vs=v :: r /\ Den F d v /\ DenL F l r
noncomputable def DenK (F:Hp):List (Key × D)->List (Key × V)->Prop
  | [],r=>r=[]
  | (k,d) :: l,r=>∃ v r',r=(k,v) :: r' /\ Den F d v /\ DenK F l r'
end
noncomputable def Sub (F F':Hp):Prop:=∀ a u,F a=some u->F' a=some u
theorem Sub.refl (F:Hp):Sub F F:=fun _ _ h=>h
theorem Sub.trans {F G H:Hp} (a:Sub F G) (b:Sub G H):Sub F H:=fun x u h=>b x u (a x u h)
mutual
theorem Den.mono {F F':Hp} (s:Sub F F'):∀ (d:D) {v:V},Den F d v->Den F' d v
  | .non,_,h=>h
  | .bl _,_,h=>h
  | .int _,_,h=>h
  | .str _,_,h=>h
  | .tup l,_,h=>by
    obtain ⟨a,vs,e,h1,h2⟩:=h
    exact ⟨a,vs,e,s _ _ h1,DenL.mono s l h2⟩
  | .lst l,_,h=>by
    obtain ⟨a,vs,e,h1,h2⟩:=h
    exact ⟨a,vs,e,s _ _ h1,DenL.mono s l h2⟩
  | .dic l,_,h=>by
    obtain ⟨a,vs,e,h1,h2⟩:=h
    exact ⟨a,vs,e,s _ _ h1,DenK.mono s l h2⟩
theorem DenL.mono {F F':Hp} (s:Sub F F'):∀ (l:List D) {vs:List V},DenL F l vs->DenL F' l vs
  | [],_,h=>h
  | d :: l,_,h=>by
    obtain ⟨v,r,e,h1,h2⟩:=h
    exact ⟨v,r,e,Den.mono s d h1,DenL.mono s l h2⟩
theorem DenK.mono {F F':Hp} (s:Sub F F'):∀ (l:List (Key × D)) {vs:List (Key × V)},DenK F l vs->DenK F' l vs
  | [],_,h=>h
  | (k,d) :: l,_,h=>by
    obtain ⟨v,r,e,h1,h2⟩:=h
    exact ⟨v,r,e,Den.mono s d h1,DenK.mono s l h2⟩
end
theorem DenL.length {F:Hp}:∀ {l:List D}{vs:List V},DenL F l vs->l.length=vs.length
  | [],_,h=>by
    have e:_=[]:=h
    rw [e]
    rfl
  | d :: l,_,h=>by
    obtain ⟨v,r,e,_,h2⟩:=h
    rw [e,List.length_cons,List.length_cons,h2.length]
theorem DenL.get {F:Hp}:∀ {l:List D}{vs:List V}{i:Nat}{d:D},DenL F l vs->l[i]?=some d->∃ v,vs[i]?=some v /\ Den F d v
  | [],_,_,_,_,e=>by simp at e
  | x :: l,_,0,d,h,e=>by
    obtain ⟨v,r,q,h1,_⟩:=h
    simp at e
    subst e
    subst q
    exact ⟨v,rfl,h1⟩
  | x :: l,_,i + 1,d,h,e=>by
    obtain ⟨v,r,q,_,h2⟩:=h
    subst q
    obtain ⟨u,e1,e2⟩:=DenL.get (i:=i) h2 (by simpa using e)
    exact ⟨u,by simpa using e1,e2⟩
theorem DenL.nil {F:Hp}:DenL F [] []:=rfl
theorem DenL.cons {F:Hp}{d:D}{v:V}{l:List D}{vs:List V} (h:Den F d v) (t:DenL F l vs):DenL F (d :: l) (v :: vs):=⟨v,vs,rfl,h,t⟩
theorem DenL.append {F:Hp}:∀ {l l':List D}{vs vs':List V},DenL F l vs->DenL F l' vs'->DenL F (l ++ l') (vs ++ vs')
  | [],_,_,_,h,t=>by
    have e:_=[]:=h
    rw [e]
    exact t
  | d :: l,_,_,_,h,t=>by
    obtain ⟨v,r,q,h1,h2⟩:=h
    subst q
    exact .cons h1 (h2.append t)
theorem DenL.take {F:Hp}:∀ {l:List D}{vs:List V} (n:Nat),DenL F l vs->DenL F (l.take n) (vs.take n)
  | l,_,0,_=>by rw [List.take_zero,List.take_zero];rfl
  | [],_,n + 1,h=>by
    have e:_=[]:=h
    rw [e]
    exact rfl
  | d :: l,_,n + 1,h=>by
    obtain ⟨v,r,q,h1,h2⟩:=h
    subst q
    exact .cons h1 (h2.take n)
theorem DenL.drop {F:Hp}:∀ {l:List D}{vs:List V} (n:Nat),DenL F l vs->DenL F (l.drop n) (vs.drop n)
  | l,_,0,h=>h
  | [],_,n + 1,h=>by
    have e:_=[]:=h
    rw [e]
    exact rfl
  | d :: l,_,n + 1,h=>by
    obtain ⟨v,r,q,h1,h2⟩:=h
    subst q
    exact h2.drop n
theorem DenL.reverse {F:Hp}:∀ {l:List D}{vs:List V},DenL F l vs->DenL F l.reverse vs.reverse
  | [],_,h=>by
    have e:_=[]:=h
    rw [e]
    exact rfl
  | d :: l,_,h=>by
    obtain ⟨v,r,q,h1,h2⟩:=h
    subst q
    rw [List.reverse_cons,List.reverse_cons]
    exact h2.reverse.append (.cons h1 .nil)
theorem DenL.set {F:Hp}{d:D}{v:V} (hd:Den F d v):∀ {l:List D}{vs:List V} (i:Nat),DenL F l vs->DenL F (l.set i d) (vs.set i v)
  | [],_,_,h=>by
    have e:_=[]:=h
    rw [e]
    exact rfl
  | _ :: l,_,0,h=>by
    obtain ⟨v',r,q,h1,h2⟩:=h
    subst q
    exact .cons hd h2
  | _ :: l,_,i + 1,h=>by
    obtain ⟨v',r,q,h1,h2⟩:=h
    subst q
    exact .cons h1 (DenL.set hd i h2)
theorem DenL.eraseIdx {F:Hp}:∀ {l:List D}{vs:List V} (i:Nat),DenL F l vs->DenL F (l.eraseIdx i) (vs.eraseIdx i)
  | [],_,_,h=>by
    have e:_=[]:=h
    rw [e]
    exact rfl
  | _ :: l,_,0,h=>by
    obtain ⟨v',r,q,h1,h2⟩:=h
    subst q
    exact h2
  | _ :: l,_,i + 1,h=>by
    obtain ⟨v',r,q,h1,h2⟩:=h
    subst q
    exact .cons h1 (h2.eraseIdx i)
structure Fr where
  H₀:Hp
  n₀:Nat
  F₀:Hp
noncomputable def DenW (F:Hp) (rho:List Addr):W->V->Prop
  | .d x,v=>Den F x v
  | .b n,v=>∃ a,v=.ref a /\ rho[n]?=some a
  | .s l,v=>∃ a o,v=.ref a /\ F a=some (.frz o (.lst (l.map V.int)))
  | .x _,_=>False
theorem DenW.mono {F F':Hp}{r r':List Addr} (s:Sub F F') (p:r <+: r'):∀ (w:W) {v:V},DenW F r w v->DenW F' r' w v
  | .d x,_,h=>Den.mono s x h
  | .b n,_,h=>by
    obtain ⟨a,e,h⟩:=h
    refine ⟨a,e,?_⟩
    obtain ⟨t,rfl⟩:=p
    rw [List.getElem?_append_left (List.getElem?_eq_some_iff.mp h).1]
    exact h
  | .s l,_,h=>let ⟨a,o,e,h⟩:=h;⟨a,o,e,s _ _ h⟩
  | .x _,_,h=>h
noncomputable def BxOk (F H:Hp) (a:Addr):Bx->Prop
  | .lst l=>F a=none /\ ∃ vs,H a=some (.lst vs) /\ DenL F l vs
  | .dic l=>F a=none /\ ∃ kvs,H a=some (.dK kvs) /\ DenK F l kvs
  | .dead=>∃ u,H a=some u
noncomputable abbrev DEnv:=List (Option W)
structure Rel (T:Fr) (F:Hp) (r:List Addr) (σ:St) (H:Hp) (env:DEnv) (bx:List Bx):Prop where
  fh:Sub F H
  slot:∀ (i:Nat) (w:W),env[i]?=some (some w)->∃ v,σ[i]?=some (some v) /\ DenW F r w v
  len:r.length=bx.length
  nd:r.Nodup
  box:∀ (n:Nat) (c:Bx) (a:Addr),bx[n]?=some c->r[n]?=some a->BxOk F H a c
  keep:∀ a u,T.H₀ a=some u->a ∉ r->H a=some u
  new:∀ (n:Nat) (a:Addr),T.n₀ <= n->r[n]?=some a->T.H₀ a=none
  n0:T.n₀ <= r.length
  sl:env.length <= σ.length
  fs:∀ a u,F a=some u->T.F₀ a=some u \/ T.H₀ a=none \/ a ∈ r
structure Grow (F:Hp) (r:List Addr) (F':Hp) (r':List Addr):Prop where
  s:Sub F F'
  p:r <+: r'
theorem Grow.refl (F:Hp) (r:List Addr):Grow F r F r:=⟨Sub.refl F,List.prefix_refl r⟩
theorem Grow.trans {F F' F'':Hp}{r r' r'':List Addr} (a:Grow F r F' r') (b:Grow F' r' F'' r''):Grow F r F'' r'':=⟨a.s.trans b.s,a.p.trans b.p⟩
theorem Grow.den {F F':Hp}{r r':List Addr} (g:Grow F r F' r') {w:W}{v:V} (h:DenW F r w v):DenW F' r' w v:=h.mono g.s g.p w
inductive O (α:Type) where
  | val (a:α) (bx:List Bx) | exc (c:Nat) (bx:List Bx) | bad
noncomputable abbrev DE (α:Type):=DEnv->List Bx->O α
noncomputable def fE {α β:Type} (m:O α) (k:α->List Bx->O β):O β :=
  match m with
  | .val a bx=>k a bx
  | .exc c bx=>.exc c bx
  | .bad=>.bad
structure Xs where
  E:XK
  cl:Nat->Addr
noncomputable def End {α β:Type} (T:Fr) (Z:Xs) (Rl:Hp->List Addr->α->β->Prop) (F:Hp) (r:List Addr) (σ:St) (env:DEnv) (Q:β->Hp->Prop):O α->Prop
  | .val d bx'=>∀ F' r' v H',Grow F r F' r'->Rel T F' r' σ H' env bx'->Rl F' r' d v->Q v H'
  | .exc c bx'=>∀ F' r' H',Grow F r F' r'->Rel T F' r' [] H' [] bx'->Z.E (.ref (Z.cl c)) none H'
  | .bad=>False
theorem End.weak {α β:Type}{T:Fr}{Z:Xs}{Rl:Hp->List Addr->α->β->Prop}{F F':Hp}{r r':List Addr}{σ:St}{env:DEnv}{Q:β->Hp->Prop} (g:Grow F r F' r'):∀ {o:O α},End T Z Rl F r σ env Q o->End T Z Rl F' r' σ env Q o
  | .val _ _,h=>fun F2 r2 v H2 g2=>h F2 r2 v H2 (g.trans g2)
  | .exc _ _,h=>fun F2 r2 H2 g2=>h F2 r2 H2 (g.trans g2)
  | .bad,h=>h
theorem End.bind {α β α' β':Type}{T:Fr}{Z:Xs}{R1:Hp->List Addr->α->β->Prop}{R2:Hp->List Addr->α'->β'->Prop}{F:Hp}{r:List Addr}{σ:St}{env:DEnv}{Q:β'->Hp->Prop}{Q1:β->Hp->Prop}
    {m:O α}{k:α->List Bx->O α'} (h:End T Z R2 F r σ env Q (fE m k))
    (c:∀ d bx1 F1 r1 v H1,Grow F r F1 r1->Rel T F1 r1 σ H1 env bx1->R1 F1 r1 d v->End T Z R2 F1 r1 σ env Q (k d bx1)->Q1 v H1):End T Z R1 F r σ env Q1 m:=by
  cases m with
  | val d bx=>exact fun F' r' v H' g R q=>c d bx F' r' v H' g R q (End.weak g h)
  | exc n bx=>exact h
  | bad=>exact h
theorem Rel.drop {T:Fr}{F:Hp}{r:List Addr}{σ:St}{H:Hp}{env:DEnv}{bx:List Bx} (R:Rel T F r σ H env bx):Rel T F r [] H [] bx :=
  ⟨R.fh,fun i w e=>by simp at e,R.len,R.nd,R.box,R.keep,R.new,R.n0,Nat.le_refl _,R.fs⟩
noncomputable def tD (T:Fr) (Z:Xs) (m:DE W):TE:=fun σ H Q=>∃ F r env bx,Rel T F r σ H env bx /\ End T Z DenW F r σ env Q (m env bx)
noncomputable def PD (X:Cx) (T:Fr) (Z:Xs) (e:Expr) (m:DE W):Prop:=PE X e (tD T Z m)
noncomputable abbrev DenB:Hp->List Addr->Bool->Bool->Prop:=fun _ _ a b=>a=b
noncomputable def tDT (T:Fr) (Z:Xs) (m:DE Bool):TT:=fun σ H Q=>∃ F r env bx,Rel T F r σ H env bx /\ End T Z DenB F r σ env Q (m env bx)
noncomputable def PDT (X:Cx) (T:Fr) (Z:Xs) (e:Expr) (m:DE Bool):Prop:=PT X e (tDT T Z m)
noncomputable def DenWs (F:Hp) (r:List Addr):List W->List V->Prop
  | [],vs=>vs=[]
  | w :: l,vs=>∃ v t,vs=v :: t /\ DenW F r w v /\ DenWs F r l t
theorem DenWs.mono {F F':Hp}{r r':List Addr} (g:Grow F r F' r'):∀ {l:List W}{vs:List V},DenWs F r l vs->DenWs F' r' l vs
  | [],_,h=>h
  | w :: l,_,h=>by
    obtain ⟨v,t,e,h1,h2⟩:=h
    exact ⟨v,t,e,g.den h1,h2.mono g⟩
noncomputable def tDA (T:Fr) (Z:Xs) (m:DE (List W)):TA:=fun σ H Q=>∃ F r env bx,Rel T F r σ H env bx /\ End T Z DenWs F r σ env Q (m env bx)
noncomputable def PDA (X:Cx) (T:Fr) (Z:Xs) (es:List Expr) (m:DE (List W)):Prop:=PA X es (tDA T Z m)
theorem PE.imp {X:Cx}{e:Expr}{t t':TE} (h:PE X e t) (f:∀ σ H Q,t' σ H Q->t σ H Q):PE X e t':=fun pins s σ H Q I q=>h pins s σ H Q I (f σ H Q q)
theorem PT.imp {X:Cx}{e:Expr}{t t':TT} (h:PT X e t) (f:∀ σ H Q,t' σ H Q->t σ H Q):PT X e t':=fun pins s σ H Q I q=>h pins s σ H Q I (f σ H Q q)
theorem PW.imp {X:Cx}{e:Expr}{t t':TT} (h:PW X e t) (f:∀ σ H Q,t' σ H Q->t σ H Q):PW X e t':=fun whole pins s σ H Q I q=>h whole pins s σ H Q I (f σ H Q q)
theorem PA.imp {X:Cx}{e:List Expr}{t t':TA} (h:PA X e t) (f:∀ σ H Q,t' σ H Q->t σ H Q):PA X e t':=fun pos pins s σ H Q I q=>h pos pins s σ H Q I (f σ H Q q)
theorem PS.imp {X:Cx}{e:Stmt}{t t':TS} (h:PS X e t) (f:∀ Q σ H,t' Q σ H->t Q σ H):PS X e t':=fun pins s σ H Q I q=>h pins s σ H Q I (f Q σ H q)
theorem PSs.imp {X:Cx}{e:List Stmt}{t t':TS} (h:PSs X e t) (f:∀ Q σ H,t' Q σ H->t Q σ H):PSs X e t':=fun pins s σ H Q I q=>h pins s σ H Q I (f Q σ H q)
section
variable {X : Cx} {T : Fr} {Z : Xs} {a b c e : Expr} {es : List Expr} {ma mb mc : DE W} {pos : Pos}
noncomputable def dV (i:Nat):DE W:=fun env bx=>match env[i]? with | some (some w)=>.val w bx | _=>.bad
theorem NE (i:Nat) {x:Str} (hN:X.N[i]?=some x:=by rfl) (hv:Vis X.env.scope x:=by first | exact Or.inl rfl | exact Or.inr (Or.inl rfl) | exact Or.inr (Or.inr rfl)) (hd:(x == ("__debug__":Str))=false:=by decide)
    (hcd:(x == ("__classdict__":Str))=false:=by decide):PD X T Z (.Name x pos) (dV i):=by
  refine PE.imp (Ds hN hv hd hcd) fun σ H Q ⟨F,r,env,bx,R,h⟩=>?_
  unfold dV at h
  split at h
  . rename_i w e
    obtain ⟨v,e1,e2⟩:=R.slot i w e
    exact ⟨v,e1,h F r v H (.refl F r) R e2⟩
  . exact h.elim
noncomputable def dC (d:D):DE W:=fun _ bx=>.val (.d d) bx
theorem CF {d:D}{v:V} (h:PE X e (tC v)) (hd:∀ F,Den F d v):PD X T Z e (dC d) :=
  PE.imp h fun σ H Q ⟨F,r,env,bx,R,h⟩=>h F r v H (.refl F r) R (hd F)
theorem fr {i:Int}{j}:PD X T Z (.Constant (.int i) j pos) (dC (.int i)):=CF Ay fun _=>rfl
theorem li {i:Bool}{j}:PD X T Z (.Constant (.bool i) j pos) (dC (.bl i)):=CF Op fun _=>rfl
theorem Jw {j}:PD X T Z (.Constant .none j pos) (dC .non):=CF M9 fun _=>rfl
theorem DC {x:Str}{j}:PD X T Z (.Constant (.str x) j pos) (dC (.str x)):=CF Na fun _=>rfl
noncomputable def fc:DE (List W):=fun _ bx=>.val [] bx
noncomputable def fb (m:DE W) (k:DE (List W)):DE (List W):=fun env bx=>fE (m env bx) fun w bx1=>fE (k env bx1) fun l bx2=>.val (w :: l) bx2
theorem fj:PDA X T Z [] fc:=PA.imp oo fun σ H Q ⟨F,r,env,bx,R,h⟩=>h F r [] H (.refl F r) R rfl
theorem Jx {k:DE (List W)} (ha:PD X T Z e ma) (hr:PDA X T Z es k) (hs:starEach (e :: es) X.env=(false,eval e X.env) :: starEach es X.env:=by rfl):PDA X T Z (e :: es) (fb ma k):=by
  refine PA.imp (lB ha hr hs) fun σ H Q ⟨F,r,env,bx,R,h⟩=>?_
  refine ⟨F,r,env,bx,R,End.bind h fun w bx1 F1 r1 v H1 g1 R1 d1 h1=>?_⟩
  refine ⟨F1,r1,env,bx1,R1,End.bind h1 fun l bx2 F2 r2 vs H2 g2 R2 d2 h2=>?_⟩
  exact h2 F2 r2 _ H2 (.refl F2 r2) R2 ⟨v,vs,rfl,g2.den d1,d2⟩
end
end L2.DL
set_option Elab.async false
set_option linter.all false
set_option maxRecDepth 100000
set_option maxHeartbeats 4000000
namespace L2.DL
open PySem PySem.Spec PyProof.Rows
section
variable {T : Fr} {F H : Hp} {r : List Addr} {σ : St} {env : DEnv} {bx : List Bx}
theorem Ap {F:Hp}{p:Addr}{o:HO} (h:F p=none):Sub F (upd F p o):=fun a u e=>by rw [fX (gL e h)];exact e
theorem Rel.fnone (R:Rel T F r σ H env bx) {p:Addr} (h:H p=none):F p=none:=by
  cases e:F p with
  | none=>rfl
  | some u=>rw [R.fh p u e] at h;cases h
theorem BxOk.there {a:Addr}:∀ {c:Bx},BxOk F H a c->∃ u,H a=some u
  | .lst _,h=>let ⟨_,vs,e,_⟩:=h;⟨_,e⟩
  | .dic _,h=>let ⟨_,vs,e,_⟩:=h;⟨_,e⟩
  | .dead,h=>h
theorem Rel.bat (R:Rel T F r σ H env bx) {n:Nat}{a:Addr} (e:r[n]?=some a):∃ c,bx[n]?=some c /\ BxOk F H a c:=by
  have h:=(List.getElem?_eq_some_iff.mp e).1
  rw [R.len] at h
  exact ⟨_,List.getElem?_eq_getElem h,R.box n _ a (List.getElem?_eq_getElem h) e⟩
theorem Rel.notBox (R:Rel T F r σ H env bx) {p:Addr} (h:H p=none):p ∉ r:=fun hp=>by
  obtain ⟨n,e⟩:=List.mem_iff_getElem?.mp hp
  obtain ⟨c,_,k⟩:=R.bat e
  obtain ⟨u,k⟩:=k.there
  rw [h] at k;cases k
theorem BxOk.grow {F F' H H':Hp}{a:Addr} (s:Sub F F') (hf:F a=none->F' a=none) (hh:∀ u,H a=some u->H' a=some u):∀ {c:Bx},BxOk F H a c->BxOk F' H' a c
  | .lst _,h=>let ⟨h1,vs,h2,h3⟩:=h;⟨hf h1,vs,hh _ h2,DenL.mono s _ h3⟩
  | .dic _,h=>let ⟨h1,vs,h2,h3⟩:=h;⟨hf h1,vs,hh _ h2,DenK.mono s _ h3⟩
  | .dead,h=>let ⟨u,h⟩:=h;⟨u,hh u h⟩
theorem Rel.allocD (R:Rel T F r σ H env bx) {p:Addr}{o:HO} (h:H p=none):Rel T (upd F p o) r σ (upd H p o) env bx:=by
  have hf:=R.fnone h
  have s:=Ap (o:=o) hf
  refine ⟨fun a u e=>?_,fun i w e=>?_,R.len,R.nd,fun n c a e1 e2=>?_,fun a u e hn=>?_,R.new,R.n0,R.sl,fun a u e=>?_⟩
  . by_cases ha:a=p
    . subst ha;rw [fY] at e ⊢;exact e
    . rw [fX ha] at e ⊢;exact R.fh a u e
  . obtain ⟨v,e1,e2⟩:=R.slot i w e
    exact ⟨v,e1,e2.mono s (List.prefix_refl r)⟩
  . have k:=R.box n c a e1 e2
    obtain ⟨u,hu⟩:=k.there
    have ha:a ≠ p:=gL hu h
    exact k.grow s (fun z=>by rw [fX ha];exact z) (fun u z=>by rw [fX ha];exact z)
  . have k:=R.keep a u e hn
    rw [fX (gL k h)]
    exact k
  . by_cases ha:a=p
    . subst ha
      refine .inr (.inl ?_)
      cases q:T.H₀ a with
      | none=>rfl
      | some u=>rw [R.keep a u q (R.notBox h)] at h;cases h
    . rw [fX ha] at e;exact R.fs a u e
theorem Rel.growD (R:Rel T F r σ H env bx) {p:Addr}{o:HO} (h:H p=none):Grow F r (upd F p o) r:=⟨Ap (R.fnone h),List.prefix_refl r⟩
theorem Rel.allocB (R:Rel T F r σ H env bx) {p:Addr}{o:HO}{c:Bx} (h:H p=none) (hc:BxOk F (upd H p o) p c):Rel T F (r ++ [p]) σ (upd H p o) env (bx ++ [c]):=by
  have hs:∀ a u,H a=some u->upd H p o a=some u:=fun a u e=>by rw [fX (gL e h)];exact e
  refine ⟨fun a u e=>hs a u (R.fh a u e),fun i w e=>?_,by rw [List.length_append,List.length_append,R.len];rfl,?_,fun n c' a e1 e2=>?_,fun a u e hn=>?_,fun n a hn e=>?_,by rw [List.length_append];exact Nat.le_trans R.n0 (Nat.le_add_right _ _),R.sl,fun a u e=>(R.fs a u e).imp id (Or.imp id fun z=>List.mem_append_left _ z)⟩
  . obtain ⟨v,e1,e2⟩:=R.slot i w e
    exact ⟨v,e1,e2.mono (Sub.refl F) (List.prefix_append r [p])⟩
  . rw [List.nodup_append]
    refine ⟨R.nd,by simp,fun a ha b hb=>?_⟩
    rw [List.mem_singleton] at hb
    subst hb
    exact fun z=>R.notBox h (z ▸ ha)
  . by_cases hn:n < r.length
    . rw [List.getElem?_append_left hn] at e2
      rw [List.getElem?_append_left (by rw [<-R.len];exact hn)] at e1
      exact (R.box n c' a e1 e2).grow (Sub.refl F) id (hs a)
    . rw [List.getElem?_append_right (by omega)] at e2
      rw [List.getElem?_append_right (by rw [<-R.len];omega)] at e1
      have hl:n - r.length=0:=by
        cases q:n - r.length with
        | zero=>rfl
        | succ k=>rw [q] at e2;simp at e2
      have hl':n - bx.length=0:=by rw [<-R.len];exact hl
      rw [hl] at e2;rw [hl'] at e1
      simp at e1 e2
      subst e1 e2
      exact hc
  . exact hs a u (R.keep a u e fun z=>hn (List.mem_append_left _ z))
  . by_cases hl:n < r.length
    . rw [List.getElem?_append_left hl] at e
      exact R.new n a hn e
    . have hp:a=p:=by
        rw [List.getElem?_append_right (by omega)] at e
        cases q:n - r.length with
        | zero=>rw [q] at e;simp at e;exact e.symm
        | succ k=>rw [q] at e;simp at e
      subst hp
      cases q:T.H₀ a with
      | none=>rfl
      | some u=>rw [R.keep a u q (R.notBox h)] at h;cases h
theorem AD {α:Type}{l:List α} (h:l.Nodup) {i j:Nat}{x:α} (a:l[i]?=some x) (b:l[j]?=some x):i=j:=by
  have h1:=(List.getElem?_eq_some_iff.mp a).1
  have h2:=(List.getElem?_eq_some_iff.mp b).1
  exact (List.getElem?_inj h1 h).mp (a.trans b.symm)
theorem Rel.write (R:Rel T F r σ H env bx) {n:Nat}{a:Addr}{o:HO}{c:Bx} (e:r[n]?=some a) (hF:F a=none) (hc:BxOk F (upd H a o) a c):Rel T F r σ (upd H a o) env (bx.set n c):=by
  have ha:a ∈ r:=List.mem_iff_getElem?.mpr ⟨n,e⟩
  refine ⟨fun b u q=>?_,R.slot,by rw [List.length_set];exact R.len,R.nd,fun m c' b e1 e2=>?_,fun b u q hn=>?_,R.new,R.n0,R.sl,R.fs⟩
  . by_cases hb:b=a
    . subst hb;rw [hF] at q;cases q
    . rw [fX hb];exact R.fh b u q
  . by_cases hm:m=n
    . subst hm
      rw [e] at e2;cases e2
      rw [List.getElem?_set_self (by rw [<-R.len];exact (List.getElem?_eq_some_iff.mp e).1)] at e1
      cases e1
      exact hc
    . rw [List.getElem?_set_ne (Ne.symm hm)] at e1
      have hb:b ≠ a:=fun z=>hm (AD R.nd e2 (z ▸ e))
      exact (R.box m c' b e1 e2).grow (Sub.refl F) id fun u z=>by rw [fX hb];exact z
  . rw [fX (fun z=>hn (by rw [z];exact ha))];exact R.keep b u q hn
theorem Rel.freeze (R:Rel T F r σ H env bx) {n:Nat}{a:Addr}{o:HO} (e:r[n]?=some a) (hF:F a=none) (hH:H a=some o):Rel T (upd F a o) r σ H env (bx.set n .dead) /\ Grow F r (upd F a o) r:=by
  have s:=Ap (o:=o) hF
  refine ⟨⟨fun b u q=>?_,fun i w q=>?_,by rw [List.length_set];exact R.len,R.nd,fun m c' b e1 e2=>?_,R.keep,R.new,R.n0,R.sl,fun b u q=>?_⟩,s,List.prefix_refl r⟩
  . by_cases hb:b=a
    . subst hb;rw [fY] at q;cases q;exact hH
    . rw [fX hb] at q;exact R.fh b u q
  . obtain ⟨v,e1,e2⟩:=R.slot i w q
    exact ⟨v,e1,e2.mono s (List.prefix_refl r)⟩
  . by_cases hm:m=n
    . subst hm
      rw [e] at e2;cases e2
      rw [List.getElem?_set_self (by rw [<-R.len];exact (List.getElem?_eq_some_iff.mp e).1)] at e1
      cases e1
      exact ⟨_,hH⟩
    . rw [List.getElem?_set_ne (Ne.symm hm)] at e1
      have hb:b ≠ a:=fun z=>hm (AD R.nd e2 (z ▸ e))
      exact (R.box m c' b e1 e2).grow s (fun z=>by rw [fX hb];exact z) fun u z=>z
  . by_cases hb:b=a
    . subst hb;exact .inr (.inr (List.mem_iff_getElem?.mpr ⟨n,e⟩))
    . rw [fX hb] at q;exact R.fs b u q
noncomputable def Rdd (F H:Hp):D->V->Prop
  | .lst l,v=>∃ a vs,v=.ref a /\ H a=some (.lst vs) /\ DenL F l vs
  | .dic l,v=>∃ a kvs,v=.ref a /\ H a=some (.dK kvs) /\ DenK F l kvs
  | .tup l,v=>∃ a vs,v=.ref a /\ F a=some (.tup vs) /\ DenL F l vs
  | .non,v=>v=.non
  | .bl b,v=>v=.bl b
  | .int i,v=>v=.int i
  | .str x,v=>v=.str x
noncomputable def rdW (bx:List Bx):W->Option D
  | .d x=>some x
  | .b n=>match bx[n]? with
    | some (.lst l)=>some (.lst l)
    | some (.dic l)=>some (.dic l)
    | _=>none
  | _=>none
theorem Den.rdd (s:Sub F H):∀ {d:D}{v:V},Den F d v->Rdd F H d v
  | .non,_,h=>h
  | .bl _,_,h=>h
  | .int _,_,h=>h
  | .str _,_,h=>h
  | .tup l,_,h=>h
  | .lst l,_,h=>let ⟨a,vs,e,h1,h2⟩:=h;⟨a,vs,e,s _ _ h1,h2⟩
  | .dic l,_,h=>let ⟨a,vs,e,h1,h2⟩:=h;⟨a,vs,e,s _ _ h1,h2⟩
theorem Rel.rdd (R:Rel T F r σ H env bx) {w:W}{v:V}{d:D} (h:DenW F r w v) (e:rdW bx w=some d):Rdd F H d v:=by
  cases w with
  | d x =>
    cases e
    exact Den.rdd R.fh h
  | b n =>
    obtain ⟨a,rfl,ha⟩:=h
    obtain ⟨c,hc,k⟩:=R.bat ha
    simp only [rdW,hc] at e
    cases c with
    | lst l=>cases e;obtain ⟨_,vs,k1,k2⟩:=k;exact ⟨a,vs,rfl,k1,k2⟩
    | dic l=>cases e;obtain ⟨_,vs,k1,k2⟩:=k;exact ⟨a,vs,rfl,k1,k2⟩
    | dead=>cases e
  | s l=>cases e
  | x i=>exact h.elim
noncomputable def RddL (F H:Hp):List D->List V->Prop
  | [],vs=>vs=[]
  | d :: l,vs=>∃ v t,vs=v :: t /\ Rdd F H d v /\ RddL F H l t
noncomputable def rdWs (bx:List Bx):List W->Option (List D)
  | []=>some []
  | w :: l=>(rdW bx w).bind fun d=>(rdWs bx l).map fun t=>d :: t
theorem Rel.rddL (R:Rel T F r σ H env bx):∀ {ws:List W}{vs:List V}{ds:List D},DenWs F r ws vs->rdWs bx ws=some ds->RddL F H ds vs
  | [],_,_,h,e=>by cases e;exact h
  | w :: l,_,ds,h,e=>by
    obtain ⟨v,t,q,h1,h2⟩:=h
    unfold rdWs at e
    cases e1:rdW bx w with
    | none=>rw [e1] at e;cases e
    | some d =>
      rw [e1] at e
      cases e2:rdWs bx l with
      | none=>rw [e2] at e;cases e
      | some t' =>
        rw [e2] at e
        cases e
        exact ⟨v,t,q,R.rdd h1 e1,R.rddL h2 e2⟩
inductive Res where
  | old (d:D) | tup (l:List D) | lst (l:List D) | dic (l:List (Key × D))
noncomputable def Res.toD:Res->D
  | .old d=>d | .tup l=>.tup l | .lst l=>.lst l | .dic l=>.dic l
noncomputable def RRes (F H:Hp):Res->V->Hp->Prop
  | .old d,v,H'=>H'=H /\ Den F d v
  | .tup l,v,H'=>(H'=H /\ Den F (.tup l) v) \/ ∃ p vs,v=.ref p /\ H p=none /\ H'=upd H p (.tup vs) /\ DenL F l vs
  | .lst l,v,H'=>∃ p vs,v=.ref p /\ H p=none /\ H'=upd H p (.lst vs) /\ DenL F l vs
  | .dic l,v,H'=>∃ p vs,v=.ref p /\ H p=none /\ H'=upd H p (.dK vs) /\ DenK F l vs
theorem Rel.res (R:Rel T F r σ H env bx) {v:V}{H':Hp}:∀ {q:Res},RRes F H q v H'->∃ F',Grow F r F' r /\ Rel T F' r σ H' env bx /\ Den F' q.toD v
  | .old d,h=>by
    obtain ⟨rfl,h⟩:=h
    exact ⟨F,.refl F r,R,h⟩
  | .tup l,h=>by
    rcases h with ⟨rfl,h⟩ | ⟨p,vs,rfl,hp,rfl,h⟩
    . exact ⟨F,.refl F r,R,h⟩
    exact ⟨_,R.growD hp,R.allocD hp,p,vs,rfl,fY,DenL.mono (R.growD (o:=.tup vs) hp).s l h⟩
  | .lst l,h=>by
    obtain ⟨p,vs,rfl,hp,rfl,h⟩:=h
    exact ⟨_,R.growD hp,R.allocD hp,p,vs,rfl,fY,DenL.mono (R.growD (o:=.lst vs) hp).s l h⟩
  | .dic l,h=>by
    obtain ⟨p,vs,rfl,hp,rfl,h⟩:=h
    exact ⟨_,R.growD hp,R.allocD hp,p,vs,rfl,fY,DenK.mono (R.growD (o:=.dK vs) hp).s l h⟩
theorem Rel.resB (R:Rel T F r σ H env bx) {v:V}{H':Hp}{l:List D} (h:RRes F H (.lst l) v H'):∃ r',Grow F r F r' /\ Rel T F r' σ H' env (bx ++ [.lst l]) /\ DenW F r' (.b bx.length) v:=by
  obtain ⟨p,vs,rfl,hp,rfl,h⟩:=h
  refine ⟨r ++ [p],⟨Sub.refl F,List.prefix_append r [p]⟩,R.allocB hp ⟨R.fnone hp,vs,fY,h⟩,p,rfl,?_⟩
  rw [<-R.len,List.getElem?_append_right (Nat.le_refl _),Nat.sub_self];rfl
theorem Rel.resBd (R:Rel T F r σ H env bx) {v:V}{H':Hp}{l:List (Key × D)} (h:RRes F H (.dic l) v H'):∃ r',Grow F r F r' /\ Rel T F r' σ H' env (bx ++ [.dic l]) /\ DenW F r' (.b bx.length) v:=by
  obtain ⟨p,vs,rfl,hp,rfl,h⟩:=h
  refine ⟨r ++ [p],⟨Sub.refl F,List.prefix_append r [p]⟩,R.allocB hp ⟨R.fnone hp,vs,fY,h⟩,p,rfl,?_⟩
  rw [<-R.len,List.getElem?_append_right (Nat.le_refl _),Nat.sub_self];rfl
noncomputable def resO (b:Bool):Option Res->List Bx->O W
  | none,_=>.bad
  | some q,bx=>match b,q with
    | true,.lst l=>.val (.b bx.length) (bx ++ [.lst l])
    | true,.dic l=>.val (.b bx.length) (bx ++ [.dic l])
    | _,_=>.val (.d q.toD) bx
theorem jg {Z:Xs}{Q:VK}{b:Bool}{q:Res}{v:V}{H':Hp} (R:Rel T F r σ H env bx) (h:End T Z DenW F r σ env Q (resO b (some q) bx)) (k:RRes F H q v H'):Q v H':=by
  have one:End T Z DenW F r σ env Q (.val (.d q.toD) bx)->Q v H':=fun h=>by
    obtain ⟨F',g,R',d⟩:=R.res k
    exact h F' r v H' g R' d
  cases b with
  | false=>exact one h
  | true =>
    cases q with
    | old d=>exact one h
    | tup l=>exact one h
    | lst l =>
      obtain ⟨r',g,R',d⟩:=R.resB k
      exact h F r' v H' g R' d
    | dic l =>
      obtain ⟨r',g,R',d⟩:=R.resBd k
      exact h F r' v H' g R' d
noncomputable def Ok2 (q:R2) (g:D->D->Option Res):Prop:=∀ (F H:Hp) (x y:D) (v w:V) (Q:VK) (s:Res),Sub F H->Rdd F H x v->Rdd F H y w->g x y=some s->(∀ u H',RRes F H s u H'->Q u H')->q v w H Q
noncomputable def OkN (q:List V->Hp->VK->Prop) (g:List D->Option Res):Prop:=∀ (F H:Hp) (xs:List D) (vs:List V) (Q:VK) (s:Res),Sub F H->RddL F H xs vs->g xs=some s->(∀ u H',RRes F H s u H'->Q u H')->q vs H Q
noncomputable def d2 (b:Bool) (g:D->D->Option Res) (ma mb:DE W):DE W:=fun env bx=>fE (ma env bx) fun x bx1=>fE (mb env bx1) fun y bx2=>resO b ((rdW bx2 x).bind fun p=>(rdW bx2 y).bind fun q=>g p q) bx2
theorem FB {Z:Xs}{q:R2}{g:D->D->Option Res}{b:Bool}{ma mb:DE W} (hg:Ok2 q g) (σ:St) (H:Hp) (Q:VK) (h:tD T Z (d2 b g ma mb) σ H Q):tOp q (tD T Z ma) (tD T Z mb) σ H Q:=by
  obtain ⟨F,r,env,bx,R,h⟩:=h
  refine ⟨F,r,env,bx,R,End.bind h fun x bx1 F1 r1 v H1 g1 R1 d1 h1=>?_⟩
  refine ⟨F1,r1,env,bx1,R1,End.bind h1 fun y bx2 F2 r2 w H2 g2 R2 d2' h2=>?_⟩
  have d1':=g2.den d1
  cases e1:rdW bx2 x with
  | none=>rw [e1] at h2;exact h2.elim
  | some p =>
    cases e2:rdW bx2 y with
    | none=>rw [e1,e2] at h2;exact h2.elim
    | some z =>
      cases e3:g p z with
      | none=>rw [e1,e2] at h2;simp only [Option.bind_some,e3] at h2;exact h2.elim
      | some s =>
        rw [e1,e2] at h2
        simp only [Option.bind_some,e3] at h2
        exact hg F2 H2 p z v w Q s R2.fh (R2.rdd d1' e1) (R2.rdd d2' e2) e3 fun u H' k=>jg R2 h2 k
noncomputable def dN (b:Bool) (g:List D->Option Res) (k:DE (List W)):DE W:=fun env bx=>fE (k env bx) fun ws bx1=>resO b ((rdWs bx1 ws).bind g) bx1
theorem MW {Z:Xs}{q:List V->Hp->VK->Prop}{g:List D->Option Res}{b:Bool}{k:DE (List W)} (hg:OkN q g) (σ:St) (H:Hp) (Q:VK) (h:tD T Z (dN b g k) σ H Q):tCB q (tDA T Z k) σ H Q:=by
  obtain ⟨F,r,env,bx,R,h⟩:=h
  refine ⟨F,r,env,bx,R,End.bind h fun ws bx1 F1 r1 vs H1 g1 R1 d1 h1=>?_⟩
  cases e1:rdWs bx1 ws with
  | none=>rw [e1] at h1;exact h1.elim
  | some ds =>
    rw [e1] at h1
    cases e2:g ds with
    | none=>simp only [Option.bind_some,e2] at h1;exact h1.elim
    | some s =>
      simp only [Option.bind_some,e2] at h1
      exact hg F1 H1 ds vs Q s R1.fh (R1.rddL d1 e1) e2 fun u H' k=>jg R1 h1 k
end
end L2.DL
set_option Elab.async false
set_option linter.all false
set_option maxRecDepth 100000
set_option maxHeartbeats 4000000
namespace L2.DL
open PySem PySem.Spec PyProof.Rows
section
variable {X : Cx} {T : Fr} {Z : Xs} {a b c e : Expr} {es : List Expr} {ma mb mc : DE W} {pos p : Pos}
theorem fG {op:Operator}{q:R2}{g:D->D->Option Res} (bo:Bool) (ho:OpR X (binaryOp op) q) (hg:Ok2 q g) (ha:PD X T Z a ma) (hb:PD X T Z b mb):PD X T Z (.BinOp a op b pos) (d2 bo g ma mb) :=
  PE.imp (Ot ho ha hb) (FB hg)
theorem ou {op:CmpOp}{q:R2}{g:D->D->Option Res} (ho:OpR X (compareOp op) q) (hg:Ok2 q g) (ha:PD X T Z a ma) (hb:PD X T Z b mb) (hm:behindInMarks op b=false):PD X T Z (.Compare a [op] [b] pos) (d2 false g ma mb) :=
  PE.imp (LQ ho ha hb hm) (FB hg)
theorem iX {q:R2}{g:D->D->Option Res} (ho:IxR X q) (hg:Ok2 q g) (ha:PD X T Z a ma) (hb:PD X T Z b mb) (hs:PlainIx b):PD X T Z (.Subscript a b pos) (d2 false g ma mb) :=
  PE.imp (MV ho ha hb hs) (FB hg)
noncomputable def dB (m:DE W):DE Bool:=fun env bx=>fE (m env bx) fun w bx1=>match w with | .d (.bl k)=>.val k bx1 | _=>.bad
theorem Pd {σ:St}{H:Hp}{Q:Bool->Hp->Prop} (h:tDT T Z (dB ma) σ H Q):tB (tD T Z ma) σ H Q:=by
  obtain ⟨F,r,env,bx,R,h⟩:=h
  refine ⟨F,r,env,bx,R,End.bind h fun w bx1 F1 r1 v H1 g1 R1 d1 h1=>?_⟩
  split at h1
  . rename_i k
    exact ⟨k,d1,h1 F1 r1 k H1 (.refl F1 r1) R1 rfl⟩
  . exact h1.elim
theorem jh (h:PD X T Z e ma) (he:∀ whole,isTrue e X.env whole=(do let v <-whole;standAt e.pos;holding [v] (truthy v)):=by intro _;rfl):PDT X T Z e (dB ma) :=
  PT.imp (Nc h he) fun σ H Q h=>Pd h
theorem ij {op:CmpOp}{q:R2}{g:D->D->Option Res} (ho:OpR X (compareOp op) q) (hg:Ok2 q g) (ha:PD X T Z a ma) (hb:PD X T Z b mb) (hm:behindInMarks op b=false):PDT X T Z (.Compare a [op] [b] pos) (dB (d2 false g ma mb)):=by
  refine PT.imp (LR ho ha hb hm) fun σ H Q h=>?_
  obtain ⟨F,r,env,bx,R,h⟩:=h
  refine FB (T:=T) (Z:=Z) (b:=false) hg σ H _ ⟨F,r,env,bx,R,End.bind h fun w bx1 F1 r1 v H1 g1 R1 d1 h1=>?_⟩
  split at h1
  . rename_i k
    exact ⟨k,d1,h1 F1 r1 k H1 (.refl F1 r1) R1 rfl⟩
  . exact h1.elim
theorem DenL.isEmpty {F:Hp}{l:List D}{vs:List V} (h:DenL F l vs):l.isEmpty=vs.isEmpty:=by
  have:=h.length
  cases l <;> cases vs <;> simp_all
theorem DenK.length {F:Hp}:∀ {l:List (Key × D)}{vs:List (Key × V)},DenK F l vs->l.length=vs.length
  | [],_,h=>by
    have e:_=[]:=h
    rw [e]
    rfl
  | (k,d) :: l,_,h=>by
    obtain ⟨v,r,e,_,h2⟩:=h
    rw [e,List.length_cons,List.length_cons,h2.length]
noncomputable def d3 (g g':D->D->Option Res) (ma mb mc:DE W):DE W:=fun env bx=>fE (ma env bx) fun x bx1=>fE (mb env bx1) fun y bx2 =>
  fE (resO false ((rdW bx2 x).bind fun p=>(rdW bx2 y).bind fun q=>g p q) bx2) fun z bx3=>match z with
    | .d (.bl true)=>fE (mc env bx3) fun w bx4=>resO false ((rdW bx4 y).bind fun p=>(rdW bx4 w).bind fun q=>g' p q) bx4
    | .d (.bl false)=>.val (.d (.bl false)) bx3
    | _=>.bad
theorem res2 {q:R2}{g:D->D->Option Res} (hg:Ok2 q g) {F H:Hp}{r:List Addr}{σ:St}{env:DEnv}{bx:List Bx}{x y:W}{v w:V}{Q:VK} (R:Rel T F r σ H env bx) (dx:DenW F r x v) (dy:DenW F r y w)
    (h:End T Z DenW F r σ env Q (resO false ((rdW bx x).bind fun p=>(rdW bx y).bind fun q=>g p q) bx)):q v w H Q:=by
  cases e1:rdW bx x with
  | none=>rw [e1] at h;exact h.elim
  | some p =>
    cases e2:rdW bx y with
    | none=>rw [e1,e2] at h;exact h.elim
    | some z =>
      cases e3:g p z with
      | none=>rw [e1,e2] at h;simp only [Option.bind_some,e3] at h;exact h.elim
      | some s =>
        rw [e1,e2] at h
        simp only [Option.bind_some,e3] at h
        exact hg F H p z v w Q s R.fh (R.rdd dx e1) (R.rdd dy e2) e3 fun u H' k=>jg R h k
theorem L6 {q q':R2}{g g':D->D->Option Res} (hg:Ok2 q g) (hg':Ok2 q' g') {σ:St}{H:Hp}{Q:VK} (h:tD T Z (d3 g g' ma mb mc) σ H Q):tChain q q' (tD T Z ma) (tD T Z mb) (tD T Z mc) σ H Q:=by
  obtain ⟨F,r,env,bx,R,h⟩:=h
  refine ⟨F,r,env,bx,R,End.bind h fun x bx1 F1 r1 v H1 g1 R1 d1 h1=>?_⟩
  refine ⟨F1,r1,env,bx1,R1,End.bind h1 fun y bx2 F2 r2 w H2 g2 R2 d2 h2=>?_⟩
  refine res2 (T:=T) (Z:=Z) (bx:=bx2) hg R2 (g2.den d1) d2 (End.bind h2 fun z bx3 F3 r3 u H3 g3 R3 d3 h3=>?_)
  split at h3
  . refine ⟨true,d3,?_⟩
    rw [if_pos rfl]
    refine ⟨F3,r3,env,bx3,R3,End.bind h3 fun t bx4 F4 r4 s H4 g4 R4 d4 h4=>?_⟩
    exact res2 (T:=T) (Z:=Z) hg' R4 (g4.den (g3.den d2)) d4 h4
  . refine ⟨false,d3,?_⟩
    rw [if_neg (by decide)]
    exact h3 F3 r3 _ H3 (.refl F3 r3) R3 rfl
  . exact h3.elim
theorem AE {op op':CmpOp}{q q':R2}{g g':D->D->Option Res} (ho:OpR X (compareOp op) q) (ho':OpR X (compareOp op') q') (hg:Ok2 q g) (hg':Ok2 q' g') (ha:PD X T Z a ma) (hb:PD X T Z b mb) (hc:PD X T Z c mc)
    (hm:lastMarks [op,op'] [b,c]=false:=by with_unfolding_all rfl):PD X T Z (.Compare a [op,op'] [b,c] pos) (d3 g g' ma mb mc) :=
  PE.imp (Jc ho ho' ha hb hc hm) fun σ H Q h=>L6 hg hg' h
noncomputable def dAnd (m k:DE Bool):DE Bool:=fun env bx=>fE (m env bx) fun b bx1=>match b with | true=>k env bx1 | false=>.val false bx1
noncomputable def dOr (m k:DE Bool):DE Bool:=fun env bx=>fE (m env bx) fun b bx1=>match b with | true=>.val true bx1 | false=>k env bx1
noncomputable def dNot (m:DE Bool):DE Bool:=fun env bx=>fE (m env bx) fun b bx1=>.val (!b) bx1
noncomputable def PDW (X:Cx) (T:Fr) (Z:Xs) (e:Expr) (m:DE Bool):Prop:=PW X e (tDT T Z m)
variable {ta tb : DE Bool} {rest : List Expr}
theorem oK (h:PDT X T Z a ta):PDW X T Z (.BoolOp .Or [a] pos) ta:=Nd h
theorem AF (ha:PDT X T Z a ta) (hb:PDW X T Z (.BoolOp .Or (b :: rest) pos) tb):PDW X T Z (.BoolOp .Or (a :: b :: rest) pos) (dOr ta tb):=by
  refine PW.imp (Oq ha hb) fun σ H Q ⟨F,r,env,bx,R,h⟩=>?_
  refine ⟨F,r,env,bx,R,End.bind h fun k bx1 F1 r1 v H1 g1 R1 d1 h1=>?_⟩
  subst d1
  cases k with
  | false=>rw [if_neg (by decide)];exact ⟨F1,r1,env,bx1,R1,h1⟩
  | true=>rw [if_pos rfl];exact h1 F1 r1 _ H1 (.refl F1 r1) R1 rfl
theorem CG (h:PDW X T Z e ta):PDT X T Z e ta:=h.pt
theorem ji (h:PDT X T Z a ta):PDT X T Z (.UnaryOp .Not a pos) (dNot ta):=by
  refine PT.imp (Nf h) fun σ H Q ⟨F,r,env,bx,R,h⟩=>?_
  refine ⟨F,r,env,bx,R,End.bind h fun k bx1 F1 r1 v H1 g1 R1 d1 h1=>?_⟩
  subst d1
  exact h1 F1 r1 _ H1 (.refl F1 r1) R1 rfl
noncomputable def gE (m k:DE W):DE W:=fun env bx=>fE (m env bx) fun w bx1=>match w with | .d (.bl true)=>k env bx1 | .d (.bl false)=>.val (.d (.bl false)) bx1 | _=>.bad
noncomputable def dOrV (m k:DE W):DE W:=fun env bx=>fE (m env bx) fun w bx1=>match w with | .d (.bl true)=>.val (.d (.bl true)) bx1 | .d (.bl false)=>k env bx1 | _=>.bad
noncomputable def dNotV (m:DE W):DE W:=fun env bx=>fE (m env bx) fun w bx1=>match w with | .d (.bl k)=>.val (.d (.bl (!k))) bx1 | _=>.bad
theorem jj {op} (h:PD X T Z a ma):PD X T Z (.BoolOp op [a] pos) ma:=Ng h
theorem gZ (ha:PD X T Z a ma) (hb:PD X T Z (.BoolOp .And (b :: rest) pos) mb):PD X T Z (.BoolOp .And (a :: b :: rest) pos) (gE ma mb):=by
  refine PE.imp (Nh ha hb) fun σ H Q ⟨F,r,env,bx,R,h⟩=>?_
  refine ⟨F,r,env,bx,R,End.bind h fun w bx1 F1 r1 v H1 g1 R1 d1 h1=>?_⟩
  split at h1
  . refine ⟨true,d1,?_⟩
    rw [if_pos rfl];exact ⟨F1,r1,env,bx1,R1,h1⟩
  . refine ⟨false,d1,?_⟩
    rw [if_neg (by decide)];exact h1 F1 r1 _ H1 (.refl F1 r1) R1 rfl
  . exact h1.elim
theorem Jy (ha:PD X T Z a ma):PD X T Z (.UnaryOp .Not a pos) (dNotV ma):=by
  refine PE.imp (Ni ha) fun σ H Q ⟨F,r,env,bx,R,h⟩=>?_
  refine ⟨F,r,env,bx,R,End.bind h fun w bx1 F1 r1 v H1 g1 R1 d1 h1=>?_⟩
  split at h1
  . rename_i k
    exact ⟨k,d1,h1 F1 r1 _ H1 (.refl F1 r1) R1 rfl⟩
  . exact h1.elim
noncomputable def dIf (t:DE Bool) (m k:DE W):DE W:=fun env bx=>fE (t env bx) fun b bx1=>match b with | true=>m env bx1 | false=>k env bx1
theorem Jz (hc:PDT X T Z c ta) (ha:PD X T Z a ma) (hb:PD X T Z b mb):PD X T Z (.IfExp c a b pos) (dIf ta ma mb):=by
  refine PE.imp (G5 hc ha hb) fun σ H Q ⟨F,r,env,bx,R,h⟩=>?_
  refine ⟨F,r,env,bx,R,End.bind h fun k bx1 F1 r1 v H1 g1 R1 d1 h1=>?_⟩
  subst d1
  cases k with
  | true=>rw [if_pos rfl];exact ⟨F1,r1,env,bx1,R1,h1⟩
  | false=>rw [if_neg (by decide)];exact ⟨F1,r1,env,bx1,R1,h1⟩
noncomputable def dsOf:List W->Option (List D)
  | []=>some []
  | .d x :: l=>(dsOf l).map fun t=>x :: t
  | _=>none
theorem DenWs.ds {F:Hp}{r:List Addr}:∀ {ws:List W}{vs:List V}{ds:List D},DenWs F r ws vs->dsOf ws=some ds->DenL F ds vs
  | [],_,_,h,e=>by cases e;exact h
  | .d x :: l,_,ds,h,e=>by
    obtain ⟨v,t,q,h1,h2⟩:=h
    unfold dsOf at e
    cases e2:dsOf l with
    | none=>rw [e2] at e;cases e
    | some t' =>
      rw [e2] at e
      cases e
      exact ⟨v,t,q,h1,h2.ds e2⟩
  | .b _ :: l,_,ds,h,e=>by cases e
  | .s _ :: l,_,ds,h,e=>by cases e
  | .x _ :: l,_,ds,h,e=>by cases e
noncomputable def fF (k:DE (List W)):DE W:=fun env bx=>fE (k env bx) fun ws bx1=>resO false ((dsOf ws).bind fun l=>if l.length <= sizeLine then some (.tup l) else none) bx1
noncomputable def fS (bo:Bool) (k:DE (List W)):DE W:=fun env bx=>fE (k env bx) fun ws bx1=>resO bo ((dsOf ws).bind fun l=>if l.length <= sizeLine then some (.lst l) else none) bx1
theorem jt {x1}{k:DE (List W)} (h:PDA X T Z es k):PD X T Z (.Tuple es x1 pos) (fF k):=by
  refine PE.imp (Jd h) fun σ H Q ⟨F,r,env,bx,R,h⟩=>?_
  refine ⟨F,r,env,bx,R,End.bind h fun ws bx1 F1 r1 vs H1 g1 R1 d1 h1=>?_⟩
  cases e:dsOf ws with
  | none=>rw [e] at h1;exact h1.elim
  | some l =>
    rw [e] at h1
    simp only [Option.bind_some] at h1
    split at h1
    . have dl:=d1.ds e
      refine ⟨by rw [<-dl.length];assumption,fun p hp=>jg R1 h1 (.inr ⟨p,vs,rfl,hp,rfl,dl⟩)⟩
    . exact h1.elim
theorem gP {k:DE (List W)} (bo:Bool) (h:PDA X T Z es k):PD X T Z (.List es pos) (fS bo k):=by
  refine PE.imp (Nq h) fun σ H Q ⟨F,r,env,bx,R,h⟩=>?_
  refine ⟨F,r,env,bx,R,End.bind h fun ws bx1 F1 r1 vs H1 g1 R1 d1 h1=>?_⟩
  cases e:dsOf ws with
  | none=>rw [e] at h1;exact h1.elim
  | some l =>
    rw [e] at h1
    simp only [Option.bind_some] at h1
    split at h1
    . have dl:=d1.ds e
      refine ⟨by rw [<-dl.length];assumption,fun p hp=>jg R1 h1 ⟨p,vs,rfl,hp,rfl,dl⟩⟩
    . exact h1.elim
theorem JA {x:Str}{id:String}{q:List V->Hp->VK->Prop}{g:List D->Option Res}{k:DE (List W)} (bo:Bool) (hc:CallR X (.builtin id) q) (hk:OkN q g) (hg:Gl X x) (hm:X.mg x=none) (hv:bootBuiltins x=some (.builtin id)) (ha:PDA X T Z (e :: es) k)
    (hn:x ≠ "__name__":=by decide) (hdb:(x == ("__debug__":Str))=false:=by decide)
    (he:starEach (e :: es) X.env=(false,eval e X.env) :: starEach es X.env:=by rfl) (hpl:(backTo pos (starEach es X.env)).any (·.1)=false:=by rfl):PD X T Z (.Call (.Name x p) (e :: es) [] pos) (dN bo g k) :=
  PE.imp (oH hc hg hm hv ha hn hdb he hpl) (MW hk)
theorem Gy {x:Str}{id:String}{q:List V->Hp->VK->Prop}{g:List D->Option Res}{k:DE (List W)} (bo:Bool) (hc:CallR X (.type id) q) (hk:OkN q g) (hg:Gl X x) (hm:X.mg x=none) (hv:bootBuiltins x=some (.type id)) (ha:PDA X T Z (e :: es) k)
    (hn:x ≠ "__name__":=by decide) (hdb:(x == ("__debug__":Str))=false:=by decide)
    (he:starEach (e :: es) X.env=(false,eval e X.env) :: starEach es X.env:=by rfl) (hpl:(backTo pos (starEach es X.env)).any (·.1)=false:=by rfl):PD X T Z (.Call (.Name x p) (e :: es) [] pos) (dN bo g k) :=
  PE.imp (Gu hc hg hm hv ha hn hdb he hpl) (MW hk)
noncomputable def spD (cl:Nat->Addr) (n:Nat) (fn:List W->List Bx->O W):Sp:=fun vs H Q E=>∃ F r ws bx,Rel ⟨H,r.length,F⟩ F r [] H [] bx /\ DenWs F r ws vs /\ ws.length=n /\ End ⟨H,r.length,F⟩ ⟨E,cl⟩ DenW F r [] [] Q (fn ws bx)
theorem DenWs.length {F:Hp}{r:List Addr}:∀ {ws:List W}{vs:List V},DenWs F r ws vs->ws.length=vs.length
  | [],_,h=>by
    have e:_=[]:=h
    rw [e]
    rfl
  | d :: l,_,h=>by
    obtain ⟨v,t,e,_,h2⟩:=h
    rw [e,List.length_cons,List.length_cons,h2.length]
theorem Rel.enter {T:Fr}{F H:Hp}{r:List Addr}{σ:St}{env:DEnv}{bx:List Bx} (R:Rel T F r σ H env bx):Rel ⟨H,r.length,F⟩ F r [] H [] bx :=
  ⟨R.fh,fun i w e=>by simp at e,R.len,R.nd,R.box,fun a u e _=>e,fun n a hn e=>(by rw [List.getElem?_eq_none hn] at e;cases e),Nat.le_refl _,Nat.le_refl _,fun a u e=>.inl e⟩
theorem Rel.after {T:Fr}{F F' H H':Hp}{r r':List Addr}{σ:St}{env:DEnv}{bx bx':List Bx} (R:Rel T F r σ H env bx) (g:Grow F r F' r') (R':Rel ⟨H,r.length,F⟩ F' r' [] H' [] bx'):Rel T F' r' σ H' env bx':=by
  have pre:∀ (n:Nat) (a:Addr),r[n]?=some a->r'[n]?=some a:=fun n a e=>by
    obtain ⟨t,rfl⟩:=g.p
    rw [List.getElem?_append_left (List.getElem?_eq_some_iff.mp e).1]
    exact e
  have sub:∀ a,a ∈ r->a ∈ r':=fun a h=>g.p.subset h
  refine ⟨R'.fh,fun i w e=>?_,R'.len,R'.nd,R'.box,fun a u e hn=>?_,fun n a hn e=>?_,Nat.le_trans R.n0 g.p.length_le,R.sl,fun a u e=>?_⟩
  . obtain ⟨v,e1,e2⟩:=R.slot i w e
    exact ⟨v,e1,g.den e2⟩
  . exact R'.keep a u (R.keep a u e fun z=>hn (sub a z)) hn
  . by_cases hl:n < r.length
    . have q:=pre n _ (List.getElem?_eq_getElem hl)
      rw [e] at q
      cases q
      exact R.new n _ hn (List.getElem?_eq_getElem hl)
    . have q:H a=none:=R'.new n a (Nat.le_of_not_lt hl) e
      cases z:T.H₀ a with
      | none=>rfl
      | some u =>
        have hr:a ∉ r:=fun ha=>by
          obtain ⟨m,em⟩:=List.mem_iff_getElem?.mp ha
          have:=AD R'.nd (pre m a em) e
          exact hl (by rw [<-this];exact (List.getElem?_eq_some_iff.mp em).1)
        rw [R.keep a u z hr] at q
        cases q
  . rcases R'.fs a u e with z | z | z
    . exact (R.fs a u z).imp id (Or.imp id (sub a))
    . by_cases ha:a ∈ r
      . exact .inr (.inr (sub a ha))
      . refine .inr (.inl ?_)
        cases y:T.H₀ a with
        | none=>rfl
        | some u =>
          have z':H a=none:=z
          rw [R.keep a u y ha] at z';cases z'
    . exact .inr (.inr z)
noncomputable def fk (fn:List W->List Bx->O W) (n:Nat) (k:DE (List W)):DE W:=fun env bx=>fE (k env bx) fun ws bx1=>if ws.length=n then fn ws bx1 else .bad
theorem NF {fn:List W->List Bx->O W}{n:Nat}{k:DE (List W)}{σ:St}{H:Hp}{Q:VK} (h:tD T Z (fk fn n k) σ H Q):tCall (spD Z.cl n fn) [] Z.E (tDA T Z k) σ H Q:=by
  obtain ⟨F,r,env,bx,R,h⟩:=h
  refine ⟨F,r,env,bx,R,End.bind h fun ws bx1 F1 r1 vs H1 g1 R1 d1 h1=>?_⟩
  split at h1
  . rename_i hl
    refine ⟨F1,r1,ws,bx1,R1.enter,by rw [List.append_nil];exact d1,hl,?_⟩
    cases e:fn ws bx1 with
    | val w bx'=>rw [e] at h1;exact fun F' r' v H' g R' d=>h1 F' r' v H' g (R1.after g R') d
    | exc c bx'=>rw [e] at h1;exact fun F' r' H' g R'=>h1 F' r' H' g (R1.after g R').drop
    | bad=>rw [e] at h1;exact h1
  . exact h1.elim
theorem L7 {x:Str}{f:Addr}{fd:FuncData}{ps:List Str}{k:Nat}{fn:List W->List Bx->O W}{m:DE (List W)} (G:FnOk X.prog X.w X.K X.mg X.base (CXr X.prog X.w) k f fd ps (spD Z.cl ps.length fn)) (hr:Room k X.A) (hg:Gl X x) (hm:X.mg x=some (.ref f))
    (hk:PySem.W.keepIn X.K (.ref f)=true) (hb:Binds X.K fd ps []) (hx:Passes (CXr X.prog X.w) X Z.E) (ha:PDA X T Z (e :: es) m) (hdb:(x == ("__debug__":Str))=false:=by decide)
    (he:starEach (e :: es) X.env=(false,eval e X.env) :: starEach es X.env:=by rfl) (hpl:(backTo pos (starEach es X.env)).any (·.1)=false:=by rfl):PD X T Z (.Call (.Name x p) (e :: es) [] pos) (fk fn ps.length m) :=
  PE.imp (LT G hr hg hm hk hb .nil hx ha hdb he hpl) fun σ H Q h=>NF h
end
end L2.DL
set_option Elab.async false
set_option linter.all false
set_option maxRecDepth 100000
set_option maxHeartbeats 4000000
namespace L2.DL
open PySem PySem.Spec PyProof.Rows
inductive OS where
  | nx (env:DEnv) (bx:List Bx) | rt (w:W) (bx:List Bx) | bk (env:DEnv) (bx:List Bx) | ct (env:DEnv) (bx:List Bx) | exc (c:Nat) (bx:List Bx) | bad
noncomputable abbrev DSt:=DEnv->List Bx->OS
noncomputable def EndS (T:Fr) (Z:Xs) (F:Hp) (r:List Addr) (D:Ends):OS->Prop
  | .nx env' bx'=>∀ F' r' σ' H',Grow F r F' r'->Rel T F' r' σ' H' env' bx'->D.nx σ' H'
  | .rt w bx'=>∀ F' r' v H',Grow F r F' r'->Rel T F' r' [] H' [] bx'->DenW F' r' w v->D.rt v H'
  | .bk env' bx'=>∀ F' r' σ' H',Grow F r F' r'->Rel T F' r' σ' H' env' bx'->D.bk σ' H'
  | .ct env' bx'=>∀ F' r' σ' H',Grow F r F' r'->Rel T F' r' σ' H' env' bx'->D.ct σ' H'
  | .exc c bx'=>∀ F' r' H',Grow F r F' r'->Rel T F' r' [] H' [] bx'->Z.E (.ref (Z.cl c)) none H'
  | .bad=>False
theorem EndS.weak {T:Fr}{Z:Xs}{F F':Hp}{r r':List Addr}{D:Ends} (g:Grow F r F' r'):∀ {o:OS},EndS T Z F r D o->EndS T Z F' r' D o
  | .nx _ _,h=>fun F2 r2 s2 H2 g2=>h F2 r2 s2 H2 (g.trans g2)
  | .rt _ _,h=>fun F2 r2 s2 H2 g2=>h F2 r2 s2 H2 (g.trans g2)
  | .bk _ _,h=>fun F2 r2 s2 H2 g2=>h F2 r2 s2 H2 (g.trans g2)
  | .ct _ _,h=>fun F2 r2 s2 H2 g2=>h F2 r2 s2 H2 (g.trans g2)
  | .exc _ _,h=>fun F2 r2 H2 g2=>h F2 r2 H2 (g.trans g2)
  | .bad,h=>h
noncomputable def bindS {α:Type} (m:O α) (k:α->List Bx->OS):OS :=
  match m with
  | .val a bx=>k a bx
  | .exc c bx=>.exc c bx
  | .bad=>.bad
theorem End.bindS {α β:Type}{T:Fr}{Z:Xs}{R1:Hp->List Addr->α->β->Prop}{F:Hp}{r:List Addr}{σ:St}{env:DEnv}{D:Ends}{Q1:β->Hp->Prop}
    {m:O α}{k:α->List Bx->OS} (h:EndS T Z F r D (DL.bindS m k))
    (c:∀ d bx1 F1 r1 v H1,Grow F r F1 r1->Rel T F1 r1 σ H1 env bx1->R1 F1 r1 d v->EndS T Z F1 r1 D (k d bx1)->Q1 v H1):End T Z R1 F r σ env Q1 m:=by
  cases m with
  | val d bx=>exact fun F' r' v H' g R q=>c d bx F' r' v H' g R q (EndS.weak g h)
  | exc n bx=>exact h
  | bad=>exact h
noncomputable def tS (T:Fr) (Z:Xs) (m:DSt):TS:=fun D σ H=>∃ F r env bx,Rel T F r σ H env bx /\ EndS T Z F r D (m env bx)
noncomputable def PSD (X:Cx) (T:Fr) (Z:Xs) (s:Stmt) (m:DSt):Prop:=PS X s (tS T Z m)
noncomputable def PSDs (X:Cx) (T:Fr) (Z:Xs) (s:List Stmt) (m:DSt):Prop:=PSs X s (tS T Z m)
section
variable {X : Cx} {T : Fr} {Z : Xs} {a b c e : Expr} {es : List Expr} {ma mb mc : DE W} {pos p : Pos} {st : Stmt} {rest : List Stmt} {m k : DSt} {tc : DE Bool}
noncomputable def sNil:DSt:=fun env bx=>.nx env bx
noncomputable def fu (m k:DSt):DSt:=fun env bx=>match m env bx with | .nx env1 bx1=>k env1 bx1 | o=>o
theorem gJ:PSDs X T Z [] sNil:=PSs.imp LM fun D σ H ⟨F,r,env,bx,R,h⟩=>h F r σ H (.refl F r) R
theorem fA (h1:PSD X T Z st m) (h2:PSDs X T Z rest k):PSDs X T Z (st :: rest) (fu m k):=by
  refine PSs.imp (G6 h1 h2) fun D σ H ⟨F,r,env,bx,R,h⟩=>⟨F,r,env,bx,R,?_⟩
  unfold fu at h
  cases e:m env bx with
  | nx env1 bx1=>rw [e] at h;exact fun F1 r1 σ1 H1 g R1=>⟨F1,r1,env1,bx1,R1,EndS.weak g h⟩
  | rt w bx1=>rw [e] at h;exact h
  | bk env1 bx1=>rw [e] at h;exact h
  | ct env1 bx1=>rw [e] at h;exact h
  | exc c bx1=>rw [e] at h;exact h
  | bad=>rw [e] at h;exact h
theorem fD (h1:PSD X T Z st m):PSDs X T Z [st] m:=LN h1
noncomputable def gR (m:DE W):DSt:=fun env bx=>bindS (m env bx) fun _ bx1=>.nx env bx1
theorem lj (h:PD X T Z e ma) (hs:swapsWith e none pos.line X.env=pure false:=by rfl):PSD X T Z (.Expr e pos) (gR ma):=by
  refine PS.imp (LO h hs) fun D σ H ⟨F,r,env,bx,R,h⟩=>?_
  exact ⟨F,r,env,bx,R,End.bindS h fun w bx1 F1 r1 v H1 g1 R1 d1 h1=>h1 F1 r1 σ H1 (.refl F1 r1) R1⟩
noncomputable def fM (m:DE W):DSt:=fun env bx=>bindS (m env bx) fun w bx1=>.rt w bx1
theorem fL (h:PD X T Z e ma):PSD X T Z (.Return (some e) pos) (fM ma):=by
  refine PS.imp (Nj h) fun D σ H ⟨F,r,env,bx,R,h⟩=>?_
  exact ⟨F,r,env,bx,R,End.bindS h fun w bx1 F1 r1 v H1 g1 R1 d1 h1=>h1 F1 r1 v H1 (.refl F1 r1) R1.drop d1⟩
noncomputable def sIf (t:DE Bool) (m k:DSt):DSt:=fun env bx=>bindS (t env bx) fun b bx1=>match b with | true=>m env bx1 | false=>k env bx1
theorem ik {sa sb:List Stmt} (hc:PDT X T Z c tc) (ha:PSDs X T Z sa m) (hb:PSDs X T Z sb k):PSD X T Z (.If c sa sb pos) (sIf tc m k):=by
  refine PS.imp (Os hc ha hb) fun D σ H ⟨F,r,env,bx,R,h⟩=>?_
  refine ⟨F,r,env,bx,R,End.bindS h fun w bx1 F1 r1 v H1 g1 R1 d1 h1=>?_⟩
  subst d1
  cases w with
  | true=>rw [if_pos rfl];exact ⟨F1,r1,env,bx1,R1,h1⟩
  | false=>rw [if_neg (by decide)];exact ⟨F1,r1,env,bx1,R1,h1⟩
noncomputable abbrev DG:=W->DEnv->List Bx->Option (DEnv × List Bx)
noncomputable abbrev DGs:=List W->DEnv->List Bx->Option (DEnv × List Bx)
noncomputable def EndG (T:Fr) (F:Hp) (r:List Addr) (Q:St->Hp->Prop):Option (DEnv × List Bx)->Prop
  | none=>False
  | some (env',bx')=>∀ F' r' σ' H',Grow F r F' r'->Rel T F' r' σ' H' env' bx'->Q σ' H'
noncomputable def tG (T:Fr) (g:DG):TG:=fun v σ H Q=>∃ F r env bx w,Rel T F r σ H env bx /\ DenW F r w v /\ EndG T F r Q (g w env bx)
noncomputable def tGs (T:Fr) (g:DGs):TGs:=fun vs σ H Q=>∃ F r env bx ws,Rel T F r σ H env bx /\ DenWs F r ws vs /\ EndG T F r Q (g ws env bx)
noncomputable def PGD (X:Cx) (T:Fr) (tg:Expr) (g:DG):Prop:=PG X tg (tG T g)
noncomputable def PGDs (X:Cx) (T:Fr) (tg:List Expr) (g:DGs):Prop:=PGs X tg (tGs T g)
theorem PG.imp {X:Cx}{tg:Expr}{t t':TG} (h:PG X tg t) (f:∀ v σ H Q,t' v σ H Q->t v σ H Q):PG X tg t':=fun pins s σ H v u Q I r q=>h pins s σ H v u Q I r (f v σ H Q q)
theorem PGs.imp {X:Cx}{tg:List Expr}{t t':TGs} (h:PGs X tg t) (f:∀ v σ H Q,t' v σ H Q->t v σ H Q):PGs X tg t':=fun pins s σ H v u Q I r q=>h pins s σ H v u Q I r (f v σ H Q q)
noncomputable def fe (i:Nat):DG:=fun w env bx=>some (env.set i (some w),bx)
theorem Rel.set {F H:Hp}{r:List Addr}{σ:St}{env:DEnv}{bx:List Bx} (R:Rel T F r σ H env bx) {w:W}{v:V} (d:DenW F r w v) (i:Nat):Rel T F r (σ.set i (some v)) H (env.set i (some w)) bx:=by
  refine ⟨R.fh,fun j w' e=>?_,R.len,R.nd,R.box,R.keep,R.new,R.n0,by rw [List.length_set,List.length_set];exact R.sl,R.fs⟩
  by_cases hj:j=i
  . subst hj
    have hl:j < env.length:=by
      have:=(List.getElem?_eq_some_iff.mp e).1
      rw [List.length_set] at this
      exact this
    rw [List.getElem?_set_self hl] at e
    cases e
    exact ⟨v,List.getElem?_set_self (Nat.lt_of_lt_of_le hl R.sl),d⟩
  . rw [List.getElem?_set_ne (Ne.symm hj)] at e
    obtain ⟨u,e1,e2⟩:=R.slot j w' e
    exact ⟨u,by rw [List.getElem?_set_ne (Ne.symm hj)];exact e1,e2⟩
theorem fK (i:Nat) {x:Str} (hN:X.N.Nodup) (hi:X.N[i]?=some x:=by rfl) (hx:Loc X.env.scope x:=by first | exact Or.inl rfl | exact Or.inr rfl) (hf:X.fn x=true \/ X.env.scope.names.lookup x=some .local:=by first | exact .inl rfl | exact .inr rfl | assumption):PGD X T (.Name x pos) (fe i) :=
  PG.imp (BO hN hi hx hf) fun v σ H Q ⟨F,r,env,bx,w,R,d,h⟩=>h F r _ H (.refl F r) (R.set d i)
noncomputable def iu:DGs:=fun ws env bx=>match ws with | []=>some (env,bx) | _=>none
noncomputable def fH (g:DG) (k:DGs):DGs:=fun ws env bx=>match ws with | w :: l=>(g w env bx).bind fun (env1,bx1)=>k l env1 bx1 | _=>none
theorem mK:PGDs X T [] iu:=PGs.imp Fv fun v σ H Q ⟨F,r,env,bx,w,R,d,h⟩=>by
  cases w with
  | nil=>exact ⟨d,h F r σ H (.refl F r) R⟩
  | cons _ _=>exact h.elim
theorem Gz {g:DG}{k:DGs} (h1:PGD X T e g) (h2:PGDs X T es k) (hs:(assignEach (e :: es) X.env).map (·.2)=assign e X.env :: (assignEach es X.env).map (·.2):=by rfl):PGDs X T (e :: es) (fH g k):=by
  refine PGs.imp (Az h1 h2 hs) fun v σ H Q ⟨F,r,env,bx,ws,R,d,h⟩=>?_
  cases ws with
  | nil=>exact h.elim
  | cons w l =>
    obtain ⟨u,t,rfl,d1,d2⟩:=d
    refine ⟨u,t,rfl,F,r,env,bx,w,R,d1,?_⟩
    unfold fH at h
    cases eg:g w env bx with
    | none=>simp only [eg] at h;exact h.elim
    | some o =>
      obtain ⟨env1,bx1⟩:=o
      simp only [eg,Option.bind_some] at h
      intro F1 r1 σ1 H1 g1 R1
      refine ⟨F1,r1,env1,bx1,l,R1,d2.mono g1,?_⟩
      cases ek:k l env1 bx1 with
      | none=>simp only [ek] at h;exact h.elim
      | some o2 =>
        simp only [ek] at h
        exact fun F2 r2 σ2 H2 g2 R2=>h F2 r2 σ2 H2 (g1.trans g2) R2
theorem DenL.ws {F:Hp}{r:List Addr}:∀ {l:List D}{vs:List V},DenL F l vs->DenWs F r (l.map W.d) vs
  | [],_,h=>h
  | d :: l,_,h=>by
    obtain ⟨v,t,e,h1,h2⟩:=h
    exact ⟨v,t,e,h1,h2.ws⟩
noncomputable def ia (n:Nat) (k:DGs):DG:=fun w env bx=>match w with | .d (.tup l)=>if l.length=n then k (l.map W.d) env bx else none | _=>none
theorem L8 {k:DGs}{n i:Nat} (hc:X.calm=true) (h:PGDs X T es k) (hn:(assignEach es X.env).length=n:=by rfl) (hst:(assignEach es X.env).findIdx? (·.1)=none:=by rfl):PGD X T (.Tuple es i pos) (ia n k):=by
  refine PG.imp (G7 hc h hn hst) fun v σ H Q ⟨F,r,env,bx,w,R,d,h⟩=>?_
  unfold ia at h
  split at h
  . rename_i l
    split at h
    . rename_i hl
      obtain ⟨p,vs,rfl,h1,h2⟩:=d
      exact ⟨p,vs,rfl,.of (R.fh _ _ h1),by rw [<-h2.length];exact hl,F,r,env,bx,_,R,h2.ws,h⟩
    . exact h.elim
  . exact h.elim
noncomputable def fJ (m:DE W) (g:DG):DSt:=fun env bx=>bindS (m env bx) fun w bx1=>match g w env bx1 with | some (env1,bx2)=>.nx env1 bx2 | none=>.bad
theorem OB {g:DG}{D:Ends}{σ:St}{H:Hp} (h:tS T Z (fJ ma g) D σ H):tAsg (tD T Z ma) (tG T g) D σ H:=by
  obtain ⟨F,r,env,bx,R,h⟩:=h
  refine ⟨F,r,env,bx,R,End.bindS h fun w bx1 F1 r1 v H1 g1 R1 d1 h1=>⟨F1,r1,env,bx1,w,R1,d1,?_⟩⟩
  cases eg:g w env bx1 with
  | none=>simp only [eg] at h1;exact h1.elim
  | some o=>simp only [eg] at h1;exact h1
theorem BV {tg:Expr}{g:DG} (he:PD X T Z e ma) (hg:PGD X T tg g) (hs:swapsWithSole [tg] e pos.line X.env=pure false:=by rfl) (hw:swappedStores [tg] e X.env=pure none:=by rfl)
    (h1:(assignEach [tg] X.env).map (·.2)=[assign tg X.env]:=by rfl):PSD X T Z (.Assign [tg] e pos) (fJ ma g) :=
  PS.imp (G8 he hg hs hw h1) fun D σ H h=>OB h
theorem gK (i:Nat) {x:Str}{pos':Pos} (he:PD X T Z e ma) (hN:X.N.Nodup) (hi:X.N[i]?=some x:=by rfl) (hx:Loc X.env.scope x:=by first | exact Or.inl rfl | exact Or.inr rfl) (hs:swapsWith e (some (.Name x pos')) pos.line X.env=pure false:=by rfl) (hf:X.fn x=true \/ X.env.scope.names.lookup x=some .local:=by first | exact .inl rfl | exact .inr rfl | assumption) :
    PSD X T Z (.Assign [.Name x pos'] e pos) (fJ ma (fe i)):=by
  refine PS.imp (Nl hN hi hx he hs hf) fun D σ H ⟨F,r,env,bx,R,h⟩=>?_
  exact ⟨F,r,env,bx,R,End.bindS h fun w bx1 F1 r1 v H1 g1 R1 d1 h1=>h1 F1 r1 _ H1 (.refl F1 r1) (R1.set d1 i)⟩
noncomputable def sPar (i j:Nat) (m:DE (List W)):DSt:=fun env bx=>bindS (m env bx) fun ws bx1=>match ws with | [x,y]=>.nx ((env.set i (some x)).set j (some y)) bx1 | _=>.bad
theorem OC {i j:Nat}{m:DE (List W)}{D:Ends}{σ:St}{H:Hp} (h:tS T Z (sPar i j m) D σ H):tPar i j (tDA T Z m) D σ H:=by
  obtain ⟨F,r,env,bx,R,h⟩:=h
  refine ⟨F,r,env,bx,R,End.bindS h fun ws bx1 F1 r1 vs H1 g1 R1 d1 h1=>?_⟩
  split at h1
  . obtain ⟨v,t,rfl,q1,u,t2,rfl,q2,q3⟩:=d1
    cases (show t2=[] from q3)
    exact ⟨v,u,rfl,h1 F1 r1 _ H1 (.refl F1 r1) ((R1.set q1 i).set q2 j)⟩
  . exact h1.elim
noncomputable def Yields (F:Hp) (r:List Addr) (ds:List W) (J:It):Prop :=
  ∀ (T:Fr) (i:Nat) (F1:Hp) (r1:List Addr) (σ1:St) (H1:Hp) (env1:DEnv) (bx1:List Bx),Grow F r F1 r1->Rel T F1 r1 σ1 H1 env1 bx1 ->
    (ds.length=i->J.stop i H1) /\ ∀ w,ds[i]?=some w->J.go i H1 /\ ∀ x H2,J.yld i H1 x H2->∃ F2,Grow F1 r1 F2 r1 /\ Rel T F2 r1 σ1 H2 env1 bx1 /\ DenW F2 r1 w x
noncomputable def tI (T:Fr) (Z:Xs) (m:DE (List W)):TI:=fun σ H R=>∃ F r env bx,Rel T F r σ H env bx /\ End T Z Yields F r σ env R (m env bx)
noncomputable def PID (X:Cx) (T:Fr) (Z:Xs) (tg iter:Expr) (m:DE (List W)):Prop:=PI X tg iter (tI T Z m)
theorem PI.imp {X:Cx}{tg iter:Expr}{t t':TI} (h:PI X tg iter t) (f:∀ σ H Q,t' σ H Q->t σ H Q):PI X tg iter t':=fun pins s σ H R I q=>h pins s σ H R I (f σ H R q)
noncomputable def forD (g:DG) (body:DSt):List W->DSt
  | [],env,bx=>.nx env bx
  | w :: l,env,bx=>match g w env bx with
    | none=>.bad
    | some (env1,bx1)=>match body env1 bx1 with
      | .nx env2 bx2=>forD g body l env2 bx2
      | .ct env2 bx2=>forD g body l env2 bx2
      | .bk env2 bx2=>.nx env2 bx2
      | o=>o
noncomputable def gI (m:DE (List W)) (g:DG) (body:DSt):DSt:=fun env bx=>bindS (m env bx) fun ds bx1=>forD g body ds env bx1
theorem OD {mi:DE (List W)}{g:DG}{D:Ends}{σ:St}{H:Hp} (h:tS T Z (gI mi g m) D σ H):tFor (tI T Z mi) (tG T g) (tS T Z m) D σ H:=by
  obtain ⟨F,r,env,bx,R,h⟩:=h
  refine ⟨F,r,env,bx,R,End.bindS h fun ds bx1 F1 r1 J H1 g1 R1 y1 h1=>?_⟩
  refine ⟨fun i n σ' H'=>∃ pre l F' r' env' bx',ds=pre ++ l /\ pre.length=i /\ n=l.length /\ Grow F1 r1 F' r' /\ Rel T F' r' σ' H' env' bx' /\ EndS T Z F' r' D (forD g m l env' bx'),⟨ds.length,[],ds,F1,r1,env,bx1,rfl,rfl,rfl,.refl F1 r1,R1,h1⟩,?_⟩
  rintro i n σ' H' ⟨pre,l,F',r',env',bx',hds,hi,hn,g',R',h'⟩
  obtain ⟨ys,yg⟩:=y1 T i F' r' σ' H' env' bx' g' R'
  cases l with
  | nil=>exact .inl ⟨ys (by rw [hds,List.append_nil];omega),h' F' r' σ' H' (.refl F' r') R'⟩
  | cons w l =>
    obtain ⟨go,yl⟩:=yg w (by rw [hds,List.getElem?_append_right (by omega),hi,Nat.sub_self];rfl)
    refine .inr ⟨go,fun σ2 H2=>∃ F2 r2 env2 bx2,Grow F1 r1 F2 r2 /\ Rel T F2 r2 σ2 H2 env2 bx2 /\ EndS T Z F2 r2 D (forD g m l env2 bx2),fun σ2 H2 ⟨F2,r2,env2,bx2,g2,R2,h2⟩=>⟨l.length,by rw [hn];exact Nat.lt_succ_self _,pre ++ [w],l,F2,r2,env2,bx2,by rw [hds,List.append_assoc];rfl,by rw [List.length_append,hi];rfl,rfl,g2,R2,h2⟩,fun x H2 hy=>?_⟩
    obtain ⟨F2,g2,R2,d2⟩:=yl x H2 hy
    refine ⟨F2,r',env',bx',w,R2,d2,?_⟩
    simp only [forD] at h'
    cases eg:g w env' bx' with
    | none=>simp only [eg] at h';exact h'.elim
    | some o =>
      obtain ⟨env3,bx3⟩:=o
      simp only [eg] at h'
      intro F3 r3 σ3 H3 g3 R3
      refine ⟨F3,r3,env3,bx3,R3,?_⟩
      have gg:=(g'.trans g2).trans g3
      cases em:m env3 bx3 with
      | nx env4 bx4=>simp only [em] at h';exact fun F4 r4 σ4 H4 g4 R4=>⟨F4,r4,env4,bx4,gg.trans g4,R4,EndS.weak ((g2.trans g3).trans g4) h'⟩
      | ct env4 bx4=>simp only [em] at h';exact fun F4 r4 σ4 H4 g4 R4=>⟨F4,r4,env4,bx4,gg.trans g4,R4,EndS.weak ((g2.trans g3).trans g4) h'⟩
      | bk env4 bx4=>simp only [em] at h';exact fun F4 r4 σ4 H4 g4 R4=>h' F4 r4 σ4 H4 ((g2.trans g3).trans g4) R4
      | rt w bx4=>simp only [em] at h';exact EndS.weak (g2.trans g3) (o:=.rt w bx4) h'
      | exc c bx4=>simp only [em] at h';exact EndS.weak (g2.trans g3) (o:=.exc c bx4) h'
      | bad=>simp only [em] at h';exact h'
theorem jk {tg iter:Expr}{body:List Stmt}{mi:DE (List W)}{g:DG} (hp:PassesOwn (model X.prog X.w) X.A X.env X.xe) (hc:X.calm=true) (hi:PID X T Z tg iter mi) (hg:PGD X T tg g) (hb:PSDs X T Z body m)
    (hs:∀ x,foldedSetIterable iter X.env x=pure x:=by intro _;rfl):PSD X T Z (.For tg iter body [] pos) (gI mi g m) :=
  PS.imp (Nn hp hc hi hg hb hs) fun D σ H h=>OD h
noncomputable def dIter (m:DE W):DE (List W):=fun env bx=>fE (m env bx) fun w bx1=>match w with | .d (.lst l)=>.val (l.map W.d) bx1 | .d (.tup l)=>.val (l.map W.d) bx1 | _=>.bad
end
end L2.DL
set_option Elab.async false
set_option linter.all false
set_option maxRecDepth 100000
set_option maxHeartbeats 4000000
namespace L2.DL
open PySem PySem.Spec PyProof.Rows
noncomputable def retO:OS->O W
  | .rt w bx=>.val w bx
  | .nx _ bx=>.val (.d .non) bx
  | .exc c bx=>.exc c bx
  | _=>.bad
noncomputable def cutO (n:Nat):O W->O W
  | .val (.d x) bx=>.val (.d x) (bx.take n)
  | .val w bx=>.val w bx
  | .exc c bx=>.exc c (bx.take n)
  | .bad=>.bad
noncomputable def envOf (n:Nat) (ws:List W):DEnv:=ws.map some ++ List.replicate (n - ws.length) none
noncomputable def fnD (n:Nat) (m:DSt):List W->List Bx->O W:=fun ws bx=>cutO bx.length (retO (m (envOf n ws) bx))
noncomputable def noX (m:DSt):DSt:=fun env bx=>match m env bx with | .exc _ _=>.bad | o=>o
theorem DenWs.get {F:Hp}{r:List Addr}:∀ {l:List W}{vs:List V}{i:Nat}{d:W},DenWs F r l vs->l[i]?=some d->∃ v,vs[i]?=some v /\ DenW F r d v
  | [],_,_,_,_,e=>by simp at e
  | x :: l,_,0,d,h,e=>by
    obtain ⟨v,t,q,h1,_⟩:=h
    simp at e
    subst e
    subst q
    exact ⟨v,rfl,h1⟩
  | x :: l,_,i + 1,d,h,e=>by
    obtain ⟨v,t,q,_,h2⟩:=h
    subst q
    obtain ⟨u,e1,e2⟩:=DenWs.get (i:=i) h2 (by simpa using e)
    exact ⟨u,by simpa using e1,e2⟩
theorem Rel.start {T:Fr}{F H:Hp}{r:List Addr}{bx:List Bx}{N:List Str}{ws:List W}{vs:List V} (R:Rel T F r [] H [] bx) (d:DenWs F r ws vs):Rel T F r (start N vs) H (envOf N.length ws) bx:=by
  have hl:=d.length
  refine ⟨R.fh,fun i w e=>?_,R.len,R.nd,R.box,R.keep,R.new,R.n0,?_,R.fs⟩
  . unfold envOf at e
    unfold L2.start
    by_cases hi:i < ws.length
    . rw [List.getElem?_append_left (by rw [List.length_map];exact hi),List.getElem?_map] at e
      cases q:ws[i]? with
      | none=>rw [q] at e;cases e
      | some w' =>
        rw [q] at e
        cases e
        obtain ⟨v,e1,e2⟩:=d.get q
        refine ⟨v,?_,e2⟩
        rw [List.getElem?_append_left (by rw [List.length_map,<-hl];exact hi),List.getElem?_map,e1]
        rfl
    . rw [List.getElem?_append_right (by rw [List.length_map];omega)] at e
      rw [List.getElem?_replicate] at e
      split at e <;> cases e
  . unfold envOf L2.start
    rw [List.length_append,List.length_append,List.length_map,List.length_map,List.length_replicate,List.length_replicate,hl]
    exact Nat.le_refl _
theorem JB {α:Type}{l l':List α} (h:l <+: l'):l'.take l.length=l:=by
  obtain ⟨t,rfl⟩:=h
  simp
theorem Rel.cut {F F' H H':Hp}{r r':List Addr}{bx':List Bx} (g:Grow F r F' r') (R:Rel ⟨H,r.length,F⟩ F' r' [] H' [] bx'):Rel ⟨H,r.length,F⟩ F' r [] H' [] (bx'.take r.length):=by
  have hr:r'.take r.length=r:=JB g.p
  have hle:r.length <= r'.length:=g.p.length_le
  have pre:∀ (n:Nat) (a:Addr),r[n]?=some a->r'[n]?=some a:=fun n a e=>by
    obtain ⟨t,rfl⟩:=g.p
    rw [List.getElem?_append_left (List.getElem?_eq_some_iff.mp e).1]
    exact e
  refine ⟨R.fh,fun i w e=>by simp at e,?_,?_,fun n c a e1 e2=>?_,fun a u e hn=>?_,fun n a hn e=>?_,Nat.le_refl _,Nat.le_refl _,fun a u e=>?_⟩
  . rw [List.length_take,<-R.len];omega
  . exact List.Sublist.nodup (List.IsPrefix.sublist g.p) R.nd
  . have hlt:=(List.getElem?_eq_some_iff.mp e2).1
    rw [List.getElem?_take_of_lt hlt] at e1
    exact R.box n c a e1 (pre n a e2)
  . refine R.keep a u e fun z=>?_
    obtain ⟨m,em⟩:=List.mem_iff_getElem?.mp z
    by_cases hm:m < r.length
    . have q:=pre m _ (List.getElem?_eq_getElem hm)
      rw [em] at q
      cases q
      exact hn (List.getElem_mem hm)
    . have q:=R.new m a (Nat.le_of_not_lt hm) em
      have e':H a=some u:=e
      have q':H a=none:=q
      rw [e'] at q';cases q'
  . rw [List.getElem?_eq_none hn] at e;cases e
  . rcases R.fs a u e with z | z | z
    . exact .inl z
    . exact .inr (.inl z)
    . obtain ⟨m,em⟩:=List.mem_iff_getElem?.mp z
      by_cases hm:m < r.length
      . have q:=pre m _ (List.getElem?_eq_getElem hm)
        rw [em] at q
        cases q
        exact .inr (.inr (List.getElem_mem hm))
      . exact .inr (.inl (R.new m a (Nat.le_of_not_lt hm) em))
theorem L9 {F H:Hp}{r:List Addr}{Q:VK}{Z:Xs}{bx:List Bx} (hb:bx.length=r.length) {o:O W} (h:End ⟨H,r.length,F⟩ Z DenW F r [] [] Q (cutO bx.length o)):End ⟨H,r.length,F⟩ Z DenW F r [] [] Q o:=by
  rw [hb] at h
  cases o with
  | bad=>exact h
  | exc c bx1=>exact fun F' r' H' g R=>h F' r H' ⟨g.s,List.prefix_refl r⟩ (R.cut g)
  | val w bx1 =>
    cases w with
    | d x=>exact fun F' r' v H' g R d=>h F' r v H' ⟨g.s,List.prefix_refl r⟩ (R.cut g) d
    | b n=>exact h
    | s l=>exact h
    | x i=>exact h
theorem Ma {T:Fr}{Z:Xs}{F:Hp}{r:List Addr}{Q:VK}{o:OS} (h:End T Z DenW F r [] [] Q (retO o)):EndS T Z F r { nx:=fun _ H'=>Q .non H',rt:=Q } o:=by
  cases o with
  | nx env bx=>exact fun F' r' σ' H' g R=>h F' r' .non H' g R.drop rfl
  | rt w bx=>exact fun F' r' v H' g R d=>h F' r' v H' g R d
  | exc c bx=>exact h
  | bk env bx=>exact (show False from h).elim
  | ct env bx=>exact (show False from h).elim
  | bad=>exact h
section
variable {P : Program} {w : World} {K : PySem.W.Frag} {mg : Str -> Option Value} {base : Heap} {x qual : Str} {st : Stmt} {f : Addr} {fd : FuncData} {N ps : List Str} {k : Nat} {m : DSt} {cl : Nat -> Addr}
theorem OE {CX:CXT}{sp:Sp} (G:FnOk P w K mg base CX0 k f fd ps sp):FnOk P w K mg base CX k f fd ps sp :=
  ⟨G.len,fun A outer s H args us vs Q E hr e0 hb hv hs=>codeAny_mono (G.run A outer s H args us vs Q E hr e0 hb hv hs) fun r s' h=>by
    cases r with
    | error e=>exact False.elim h
    | ok fl =>
      cases fl with
      | ret u=>exact h
      | next=>exact h
      | brk=>exact h
      | cont=>exact h⟩
theorem OF (F:Fun K x qual st f fd) (S:FnScope N ps (fq st))
    (hbody:∀ (cdv:Value) (A:Around) (outer:List Env) (s:Shared) (H:Hp) (E:XK) (n:Nat) (F0:Hp),Room k (A.deeper (envOfC qual (fq st) s.heap.objs.size f cdv)) ->
      PSDs (cxOf CX0 P w K mg base N qual (fq st) f cdv A outer s H E).nox ⟨H,n,F0⟩ ⟨E0,cl⟩ (fQ st) m):FnOk P w K mg base (CXr P w) (k + 1) f fd ps (spD cl ps.length (fnD N.length (noX m))):=by
  refine OE (F.ok S (fun vs H Q E h=>?_) (fun cdv A outer s H vs Q E hr h=>?_))
  . obtain ⟨F,r,ws,bx,_,d,hl,_⟩:=h
    rw [<-d.length];exact hl
  . obtain ⟨F,r,ws,bx,R,d,hl,h⟩:=h
    refine ⟨_,hbody cdv A outer s H E r.length F hr,F,r,envOf N.length ws,bx,R.start d,?_⟩
    have h':=Ma (L9 R.len.symm h)
    unfold noX at h'
    cases e:m (envOf N.length ws) bx with
    | nx env bx1=>simp only [e] at h';exact h'
    | rt w bx1=>simp only [e] at h';exact h'
    | bk env bx1=>simp only [e] at h';exact h'
    | ct env bx1=>simp only [e] at h';exact h'
    | exc c bx1=>simp only [e] at h';exact h'.elim
    | bad=>simp only [e] at h';exact h'
end
theorem fz {X:Cx}:Passes (CXr X.prog X.w) X E0:=fun _ _ _ _ _ _ _ h=>by
  obtain ⟨_,_,_,_,_,_,_,_,_,_,_,_,_,h⟩:=h
  exact h.elim
section
variable {X : Cx} {T : Fr} {Z : Xs} {m : DSt} {sts : List Stmt}
end
noncomputable def bindB {α β:Type} (m:O α) (k:α->List Bx->O β):O β :=
  match m with
  | .val a bx=>k a bx
  | _=>.bad
noncomputable def compD (g:DG) (tf:DE Bool) (te:DE W):List W->DEnv->List Bx->List D->O (List D)
  | [],_,bx,acc=>.val acc bx
  | w :: l,env,bx,acc=>match g w env bx with
    | none=>.bad
    | some (env1,bx1)=>bindB (tf env1 bx1) fun b bx2=>match b with
      | false=>compD g tf te l env1 bx2 acc
      | true=>bindB (te env1 bx2) fun y bx3=>match y with
        | .d d=>if acc.length < sizeLine then compD g tf te l env1 bx3 (acc ++ [d]) else .bad
        | _=>.bad
noncomputable def srcEnv (src:List (Option Nat)) (env:DEnv):DEnv:=src.map fun o=>o.bind fun i=>(env[i]?).bind id
noncomputable def ge (bo:Bool) (src:List (Option Nat)) (mi:DE (List W)) (g:DG) (tf:DE Bool) (te:DE W):DE W:=fun env bx =>
  fE (mi env bx) fun ds bx1=>fE (compD g tf te ds (srcEnv src env) bx1 []) fun l bx2=>resO bo (some (.lst l)) bx2
theorem Rel.src {T:Fr}{F H:Hp}{r:List Addr}{σ:St}{env:DEnv}{bx:List Bx} (R:Rel T F r σ H env bx) (src:List (Option Nat)):Rel T F r (srcSt src σ) H (srcEnv src env) bx:=by
  refine ⟨R.fh,fun j w e=>?_,R.len,R.nd,R.box,R.keep,R.new,R.n0,?_,R.fs⟩
  . unfold srcEnv at e
    unfold L2.srcSt
    rw [List.getElem?_map] at e ⊢
    cases q:src[j]? with
    | none=>rw [q] at e;cases e
    | some o =>
      rw [q] at e
      cases o with
      | none=>cases e
      | some i =>
        have e':(env[i]?).bind id=some w:=Option.some.inj e
        cases z:env[i]? with
        | none=>rw [z] at e';cases e'
        | some o' =>
          rw [z] at e'
          have e2:o'=some w:=e'
          subst e2
          obtain ⟨v,e1,e2⟩:=R.slot i w z
          exact ⟨v,by simp [e1],e2⟩
  . unfold srcEnv L2.srcSt
    rw [List.length_map,List.length_map]
    exact Nat.le_refl _
theorem Rel.inner {T:Fr}{F F' H H':Hp}{r r':List Addr}{σ σ':St}{env env':DEnv}{bx bx':List Bx} (R:Rel T F r σ H env bx) (g:Grow F r F' r') (R':Rel ⟨H,r.length,F⟩ F' r' σ' H' env' bx'):Rel T F' r' σ' H' env' bx':=by
  have q:=R.after g R'.drop
  exact ⟨q.fh,R'.slot,q.len,q.nd,q.box,q.keep,q.new,q.n0,R'.sl,q.fs⟩
theorem Rel.again {T:Fr}{F H:Hp}{r:List Addr}{σ:St}{env:DEnv}{bx:List Bx} (R:Rel T F r σ H env bx):Rel ⟨H,r.length,F⟩ F r σ H env bx :=
  ⟨R.fh,R.slot,R.len,R.nd,R.box,fun a u e _=>e,fun n a hn e=>(by rw [List.getElem?_eq_none hn] at e;cases e),Nat.le_refl _,R.sl,fun a u e=>.inl e⟩
structure Own (F:Hp) (r:List Addr) (H:Hp) (a:Addr) (vs:List V):Prop where
  h:H a=some (.lst vs)
  f:F a=none
  b:a ∉ r
theorem Own.inner {F F' H H':Hp}{r r':List Addr}{σ':St}{env':DEnv}{bx':List Bx}{a:Addr}{vs:List V} (o:Own F r H a vs) (g:Grow F r F' r') (R':Rel ⟨H,r.length,F⟩ F' r' σ' H' env' bx'):Own F' r' H' a vs:=by
  have hb:a ∉ r':=fun z=>by
    obtain ⟨m,em⟩:=List.mem_iff_getElem?.mp z
    by_cases hm:m < r.length
    . obtain ⟨t,e⟩:=g.p
      rw [<-e,List.getElem?_append_left hm] at em
      exact o.b (List.mem_iff_getElem?.mpr ⟨m,em⟩)
    . have q:H a=none:=R'.new m a (Nat.le_of_not_lt hm) em
      rw [o.h] at q;cases q
  refine ⟨R'.keep a _ o.h hb,?_,hb⟩
  cases q:F' a with
  | none=>rfl
  | some u =>
    rcases R'.fs a u q with z | z | z
    . have z':F a=some u:=z
      rw [o.f] at z';cases z'
    . have z':H a=none:=z
      rw [o.h] at z';cases z'
    . exact absurd z hb
end L2.DL
set_option Elab.async false
set_option linter.all false
set_option maxRecDepth 100000
set_option maxHeartbeats 4000000
namespace L2.DL
open PySem PySem.Spec PyProof.Rows
section
variable {T : Fr} {F H : Hp} {r : List Addr} {σ : St} {env : DEnv} {bx : List Bx}
theorem Rel.priv (R:Rel T F r σ H env bx) {p:Addr}{o:HO} (h:H p=none):Rel T F r σ (upd H p o) env bx:=by
  have hs:∀ a u,H a=some u->upd H p o a=some u:=fun a u e=>by rw [fX (gL e h)];exact e
  exact ⟨fun a u e=>hs a u (R.fh a u e),R.slot,R.len,R.nd,fun n c a e1 e2=>(R.box n c a e1 e2).grow (Sub.refl F) id (hs a),fun a u e hn=>hs a u (R.keep a u e hn),R.new,R.n0,R.sl,R.fs⟩
theorem Rel.privSet (R:Rel T F r σ H env bx) {p:Addr}{vs:List V}{o:HO} (w:Own F r H p vs) (hT:T.H₀ p=none):Rel T F r σ (upd H p o) env bx:=by
  refine ⟨fun a u e=>?_,R.slot,R.len,R.nd,fun n c a e1 e2=>?_,fun a u e hn=>?_,R.new,R.n0,R.sl,R.fs⟩
  . rw [fX (fun z=>by rw [z,w.f] at e;cases e)];exact R.fh a u e
  . have ha:a ≠ p:=fun z=>w.b (List.mem_iff_getElem?.mpr ⟨n,z ▸ e2⟩)
    exact (R.box n c a e1 e2).grow (Sub.refl F) id fun u z=>by rw [fX ha];exact z
  . rw [fX (fun z=>by rw [z,hT] at e;cases e)];exact R.keep a u e hn
theorem Rel.adoptD (R:Rel T F r σ H env bx) {p:Addr}{vs:List V} (w:Own F r H p vs) (hT:T.H₀ p=none):Rel T (upd F p (.lst vs)) r σ H env bx /\ Grow F r (upd F p (.lst vs)) r:=by
  have s:=Ap (o:=.lst vs) w.f
  refine ⟨⟨fun a u e=>?_,fun i w e=>?_,R.len,R.nd,fun n c a e1 e2=>?_,R.keep,R.new,R.n0,R.sl,fun a u e=>?_⟩,s,List.prefix_refl r⟩
  . by_cases ha:a=p
    . subst ha;rw [fY] at e;cases e;exact w.h
    . rw [fX ha] at e;exact R.fh a u e
  . obtain ⟨v,e1,e2⟩:=R.slot i w e
    exact ⟨v,e1,e2.mono s (List.prefix_refl r)⟩
  . have ha:a ≠ p:=fun z=>w.b (List.mem_iff_getElem?.mpr ⟨n,z ▸ e2⟩)
    exact (R.box n c a e1 e2).grow s (fun z=>by rw [fX ha];exact z) fun u z=>z
  . by_cases ha:a=p
    . subst ha;exact .inr (.inl hT)
    . rw [fX ha] at e;exact R.fs a u e
theorem Rel.adoptB (R:Rel T F r σ H env bx) {p:Addr}{vs:List V}{l:List D} (w:Own F r H p vs) (hT:T.H₀ p=none) (d:DenL F l vs):Rel T F (r ++ [p]) σ H env (bx ++ [.lst l]) /\ Grow F r F (r ++ [p]) /\ (r ++ [p])[bx.length]?=some p:=by
  have hx:(r ++ [p])[bx.length]?=some p:=by rw [<-R.len,List.getElem?_append_right (Nat.le_refl _),Nat.sub_self];rfl
  have g:Grow F r F (r ++ [p]):=⟨Sub.refl F,List.prefix_append r [p]⟩
  refine ⟨⟨R.fh,fun i w e=>?_,by rw [List.length_append,List.length_append,R.len];rfl,?_,fun n c' a e1 e2=>?_,fun a u e hn=>R.keep a u e fun z=>hn (List.mem_append_left _ z),fun n a hn e=>?_,by rw [List.length_append];exact Nat.le_trans R.n0 (Nat.le_add_right _ _),R.sl,fun a u e=>(R.fs a u e).imp id (Or.imp id fun z=>List.mem_append_left _ z)⟩,g,hx⟩
  . obtain ⟨v,e1,e2⟩:=R.slot i w e
    exact ⟨v,e1,g.den e2⟩
  . rw [List.nodup_append]
    refine ⟨R.nd,by simp,fun a ha b hb=>?_⟩
    rw [List.mem_singleton] at hb
    subst hb
    exact fun z=>w.b (z ▸ ha)
  . by_cases hn:n < r.length
    . rw [List.getElem?_append_left hn] at e2
      rw [List.getElem?_append_left (by rw [<-R.len];exact hn)] at e1
      exact R.box n c' a e1 e2
    . rw [List.getElem?_append_right (by omega)] at e2
      rw [List.getElem?_append_right (by rw [<-R.len];omega)] at e1
      have hl:n - r.length=0:=by
        cases q:n - r.length with
        | zero=>rfl
        | succ k=>rw [q] at e2;simp at e2
      have hl':n - bx.length=0:=by rw [<-R.len];exact hl
      rw [hl] at e2;rw [hl'] at e1
      simp at e1 e2
      subst e1 e2
      exact ⟨w.f,vs,w.h,d⟩
  . by_cases hl:n < r.length
    . rw [List.getElem?_append_left hl] at e
      exact R.new n a hn e
    . have hp:a=p:=by
        rw [List.getElem?_append_right (by omega)] at e
        cases q:n - r.length with
        | zero=>rw [q] at e;simp at e;exact e.symm
        | succ k=>rw [q] at e;simp at e
      subst hp
      exact hT
end
section
variable {X : Cx} {T : Fr} {Z : Xs} {N : List Str} {src : List (Option Nat)} {elt tg iter : Expr} {ifs : List Expr} {scope : Scope} {pos : Pos} {mi : DE (List W)} {g : DG} {tf : DE Bool} {te : DE W}
noncomputable abbrev gAny (g:DG):TG:=fun v σ H Q=>∃ T,tG T g v σ H Q
noncomputable abbrev fAny (Z:Xs) (tf:DE Bool):TT:=fun σ H Q=>∃ T,tDT T Z tf σ H Q
noncomputable abbrev eAny (Z:Xs) (te:DE W):TE:=fun σ H Q=>∃ T,tD T Z te σ H Q
theorem Rel.slots {T T':Fr}{F F' H H':Hp}{r r':List Addr}{σ σ':St}{env env':DEnv}{bx bx':List Bx} (R:Rel T F r σ H env bx) (g:Grow F r F' r') (R':Rel T' F' r' σ' H' env' bx'):Rel T' F' r' σ H' env bx' :=
  ⟨R'.fh,fun i w e=>let ⟨v,e1,e2⟩:=R.slot i w e;⟨v,e1,g.den e2⟩,R'.len,R'.nd,R'.box,R'.keep,R'.new,R'.n0,R.sl,R'.fs⟩
theorem NG {bo:Bool}{σ:St}{H:Hp}{Q:VK} (h:tD T Z (ge bo src mi g tf te) σ H Q):tComp src (tI T Z mi) (gAny g) (fAny ⟨E0,Z.cl⟩ tf) (eAny ⟨E0,Z.cl⟩ te) σ H Q:=by
  obtain ⟨F,r,env,bx,R,h⟩:=h
  refine ⟨F,r,env,bx,R,End.bind h fun ds bx1 F1 r1 J H1 g1 R1 y1 h1=>fun Da hD=>?_⟩
  have hT:T.H₀ Da=none:=by
    cases q:T.H₀ Da with
    | none=>rfl
    | some u=>rw [R1.keep Da u q (R1.notBox hD)] at hD;cases hD
  have o0:Own F1 r1 (upd H1 Da (.lst [])) Da []:=⟨fY,R1.fnone hD,R1.notBox hD⟩
  refine ⟨fun i n σ' H'=>∃ pre l F' r' env' bx' acc vs,ds=pre ++ l /\ pre.length=i /\ n=l.length /\ Grow F1 r1 F' r' /\ Rel T F' r' σ' H' env' bx' /\ Own F' r' H' Da vs /\ DenL F' acc vs /\
    End T Z DenW F' r' σ env Q (fE (compD g tf te l env' bx' acc) fun l bx2=>resO bo (some (.lst l)) bx2),
    ⟨ds.length,[],ds,F1,r1,_,bx1,[],[],rfl,rfl,rfl,.refl F1 r1,(R1.priv hD).src src,o0,.nil,h1⟩,?_⟩
  rintro i n σ' H' ⟨pre,l,F',r',env',bx',acc,vs,hds,hi,hn,g',R',o',da,h'⟩
  obtain ⟨ys,yg⟩:=y1 ⟨H',r'.length,F'⟩ i F' r' σ' H' env' bx' g' R'.again
  cases l with
  | nil =>
    refine .inl ⟨ys (by rw [hds,List.append_nil];omega),?_⟩
    have RO:Rel T F' r' σ H' env bx':=R1.slots g' R'
    have hd:End T Z DenW F' r' σ env Q (.val (.d (.lst acc)) bx')->Q (.ref Da) H':=fun h'=>by
      obtain ⟨RA,gA⟩:=RO.adoptD o' hT
      exact h' _ r' _ H' gA RA ⟨Da,vs,rfl,fY,DenL.mono gA.s acc da⟩
    cases bo with
    | false=>exact hd h'
    | true =>
      obtain ⟨RB,gB,hx⟩:=RO.adoptB o' hT da
      exact h' F' _ _ H' gB RB ⟨Da,rfl,hx⟩
  | cons w l =>
    obtain ⟨go,yl⟩:=yg w (by rw [hds,List.getElem?_append_right (by omega),hi,Nat.sub_self];rfl)
    refine .inr ⟨go,fun σ2 H2=>∃ F2 r2 env2 bx2 acc2 vs2,Grow F1 r1 F2 r2 /\ Rel T F2 r2 σ2 H2 env2 bx2 /\ Own F2 r2 H2 Da vs2 /\ DenL F2 acc2 vs2 /\
      End T Z DenW F2 r2 σ env Q (fE (compD g tf te l env2 bx2 acc2) fun l bx2=>resO bo (some (.lst l)) bx2),
      fun σ2 H2 ⟨F2,r2,env2,bx2,acc2,vs2,g2,R2,o2,d2,h2⟩=>⟨l.length,by rw [hn];exact Nat.lt_succ_self _,pre ++ [w],l,F2,r2,env2,bx2,acc2,vs2,by rw [hds,List.append_assoc];rfl,by rw [List.length_append,hi];rfl,rfl,g2,R2,o2,d2,h2⟩,fun x H2 hy=>?_⟩
    obtain ⟨F2,g2,R2,d2⟩:=yl x H2 hy
    have R2':=R'.inner g2 R2
    have o2:=o'.inner g2 R2
    refine ⟨⟨H2,r'.length,F2⟩,F2,r',env',bx',w,R2'.again,d2,?_⟩
    simp only [compD] at h'
    cases eg:g w env' bx' with
    | none=>simp only [eg] at h';exact h'.elim
    | some o =>
      obtain ⟨env3,bx3⟩:=o
      simp only [eg] at h'
      intro F3 r3 σ3 H3 g3 R3
      have R3':=R2'.inner g3 R3
      have o3:=o2.inner g3 R3
      refine ⟨⟨H3,r3.length,F3⟩,F3,r3,env3,bx3,R3'.again,?_⟩
      cases ef:tf env3 bx3 with
      | bad=>simp only [ef,bindB] at h';exact h'.elim
      | exc c bx4=>simp only [ef,bindB] at h';exact h'.elim
      | val b bx4 =>
        simp only [ef,bindB] at h'
        intro F4 r4 b' H4 g4 R4 eb
        subst eb
        have R4':=R3'.inner g4 R4
        have o4:=o3.inner g4 R4
        have g14:Grow F1 r1 F4 r4:=((g'.trans g2).trans g3).trans g4
        have g04:Grow F' r' F4 r4:=(g2.trans g3).trans g4
        cases b with
        | false =>
          rw [if_neg (by decide)]
          exact ⟨F4,r4,env3,bx4,acc,vs,g14,R4',o4,DenL.mono g04.s acc da,End.weak g04 h'⟩
        | true =>
          rw [if_pos rfl]
          refine ⟨⟨H4,r4.length,F4⟩,F4,r4,env3,bx4,R4'.again,?_⟩
          cases ee:te env3 bx4 with
          | bad=>simp only [ee] at h';exact h'.elim
          | exc c bx5=>simp only [ee] at h';exact h'.elim
          | val y bx5 =>
            simp only [ee] at h'
            intro F5 r5 v H5 g5 R5 d5
            have R5':=R4'.inner g5 R5
            have o5:=o4.inner g5 R5
            have g05:=g04.trans g5
            cases y with
            | d d =>
              simp only at h'
              split at h'
              . rename_i hz
                have da5:=DenL.mono g05.s acc da
                refine ⟨vs,o5.h,by rw [<-da.length];exact hz,F5,r5,env3,bx5,acc ++ [d],vs ++ [v],g14.trans g5,R5'.privSet o5 hT,⟨fY,o5.f,o5.b⟩,da5.append (.cons d5 .nil),End.weak g05 h'⟩
              . exact h'.elim
            | b n=>exact h'.elim
            | s l=>exact h'.elim
            | x i=>exact h'.elim
theorem gX (bo:Bool) (hc:X.calm=true) (S:CompScope X N src scope) (hi:PID X T Z tg iter mi)
    (hg:∀ T cl s H C fp,PGD (X.comp N scope cl s H C fp) T tg g) (hf:∀ T cl s H C fp,PF (X.comp N scope cl s H C fp) ifs (tDT T ⟨E0,Z.cl⟩ tf)) (he:∀ T cl s H C fp,PD (X.comp N scope cl s H C fp) T ⟨E0,Z.cl⟩ elt te)
    (hs:∀ x,foldedSetIterable iter X.env x=pure x:=by intro _;rfl):PD X T Z (.ListComp elt [⟨tg,iter,ifs,0⟩] scope pos) (ge bo src mi g tf te) :=
  PE.imp (L3 (src:=src) (g:=gAny g) (tf:=fAny ⟨E0,Z.cl⟩ tf) (te:=eAny ⟨E0,Z.cl⟩ te) hc S hi (fun cl s H C fp pins s' σ' H' v u Q I rv ⟨T,q⟩=>hg T cl s H C fp pins s' σ' H' v u Q I rv q)
    (fun cl s H C fp pins s' σ' H' Q I ⟨T,q⟩=>hf T cl s H C fp pins s' σ' H' Q I q) (fun cl s H C fp pins s' σ' H' Q I ⟨T,q⟩=>he T cl s H C fp pins s' σ' H' Q I q) hs) fun σ H Q h=>NG h
noncomputable def fZ:DE Bool:=fun _ bx=>.val true bx
theorem gY {X:Cx}:PF X [] (tDT T Z fZ):=fun pins s σ H Q I ⟨F,r,env,bx,R,h⟩=>NB pins s σ H Q I (h F r true H (.refl F r) R rfl)
theorem Bv {F:Hp}{r:List Addr}{l:List D}{i:Nat}{w:W} (e:(l.map W.d)[i]?=some w):∃ d,l[i]?=some d /\ w=.d d:=by
  rw [List.getElem?_map] at e
  cases q:l[i]? with
  | none=>rw [q] at e;cases e
  | some d=>rw [q] at e;cases e;exact ⟨d,rfl,rfl⟩
noncomputable def dItl (m:DE W):DE (List W):=fun env bx=>fE (m env bx) fun w bx1=>match w with | .d (.lst l)=>.val (l.map W.d) bx1 | _=>.bad
noncomputable def fO (lo:Int) (n:Nat):List W:=(List.range n).map fun (i:Nat)=>W.d (.int (lo + i))
theorem oM {F:Hp}{r:List Addr} (lo:Int) (n:Nat):Yields F r (fO lo n) (Itr lo n):=fun T i F1 r1 σ1 H1 env1 bx1 g R=>by
  unfold fO
  refine ⟨fun hl=>?_,fun w e=>?_⟩
  . rw [List.length_map,List.length_range] at hl;exact Nat.le_of_eq hl
  . rw [List.getElem?_map] at e
    cases q:(List.range n)[i]? with
    | none=>rw [q] at e;cases e
    | some j =>
      rw [q] at e
      cases e
      obtain ⟨h1,h2⟩:=List.getElem?_eq_some_iff.mp q
      rw [List.getElem_range] at h2
      subst h2
      rw [List.length_range] at h1
      refine ⟨h1,fun x H2 ⟨e1,e2⟩=>?_⟩
      subst e1 e2
      exact ⟨F1,.refl F1 r1,R,rfl⟩
noncomputable def dRng1 (k:DE (List W)):DE (List W):=fun env bx=>fE (k env bx) fun ws bx1=>match ws with
  | [.d (.int j)]=>if -(2 ^ 62) <= j /\ j < 2 ^ 62 then .val (fO 0 j.toNat) bx1 else .bad
  | _=>.bad
theorem im {a:Expr}{p pos:Pos}{k:DE (List W)} (hg:Gl X "range") (hm:X.mg "range"=none) (ha:PDA X T Z [a] k) (hs:starEach [a] X.env=[(false,eval a X.env)]:=by rfl):PID X T Z tg (.Call (.Name "range" p) [a] [] pos) (dRng1 k):=by
  refine PI.imp (Gj hg hm ha hs) fun σ H Q ⟨F,r,env,bx,R,h⟩=>?_
  refine ⟨F,r,env,bx,R,End.bind h fun ws bx1 F1 r1 vs H1 g1 R1 d1 h1=>?_⟩
  split at h1
  . rename_i j
    split at h1
    . rename_i hj
      obtain ⟨v,t,rfl,e1,e2⟩:=d1
      cases (show t=[] from e2)
      cases (show v=.int j from e1)
      exact ⟨j,rfl,hj.1,hj.2,h1 F1 r1 _ H1 (.refl F1 r1) R1 (oM 0 j.toNat)⟩
    . exact h1.elim
  . exact h1.elim
noncomputable def dRng2 (k:DE (List W)):DE (List W):=fun env bx=>fE (k env bx) fun ws bx1=>match ws with
  | [.d (.int i),.d (.int j)]=>if (-(2 ^ 62) <= i /\ i < 2 ^ 62) /\ -(2 ^ 62) <= j /\ j < 2 ^ 62 then .val (fO i (j - i).toNat) bx1 else .bad
  | _=>.bad
theorem AG {a b:Expr}{p pos:Pos}{k:DE (List W)} (hg:Gl X "range") (hm:X.mg "range"=none) (ha:PDA X T Z [a,b] k) (hs:starEach [a,b] X.env=[(false,eval a X.env),(false,eval b X.env)]:=by rfl) (hs2:starEach [b] X.env=[(false,eval b X.env)]:=by rfl) :
    PID X T Z tg (.Call (.Name "range" p) [a,b] [] pos) (dRng2 k):=by
  refine PI.imp (Gk hg hm ha hs hs2) fun σ H Q ⟨F,r,env,bx,R,h⟩=>?_
  refine ⟨F,r,env,bx,R,End.bind h fun ws bx1 F1 r1 vs H1 g1 R1 d1 h1=>?_⟩
  split at h1
  . rename_i i j
    split at h1
    . rename_i hj
      obtain ⟨v,t,rfl,e1,v2,t2,rfl,e2,e3⟩:=d1
      cases (show t2=[] from e3)
      cases (show v=.int i from e1)
      cases (show v2=.int j from e2)
      exact ⟨i,j,rfl,⟨hj.1.1,hj.1.2,hj.2.1,hj.2.2⟩,h1 F1 r1 _ H1 (.refl F1 r1) R1 (oM i _)⟩
    . exact h1.elim
  . exact h1.elim
end
end L2.DL
set_option Elab.async false
set_option linter.all false
set_option maxRecDepth 100000
set_option maxHeartbeats 4000000
namespace L2.DL
open PySem PySem.Spec PyProof.Rows
section
variable {X : Cx} {T : Fr} {Z : Xs} {a b c e : Expr} {es : List Expr} {ma mb mc : DE W} {pos p : Pos}
noncomputable def rCatT0 (K:PySem.W.Frag):R2:=fun x y H Q=>∃ a b ys,x=.ref a /\ y=.ref b /\ SqT K H a [] /\ SqT K H b ys /\ Q (.ref b) H
theorem JC:OpR X (binaryOp .Add) (rCatT0 X.K):=by
  intro pins s σ H x y v u Q I rx ry h
  obtain ⟨a,b,ys,rfl,rfl,ha,hb,q⟩:=h
  cases rx
  cases ry
  obtain ⟨its,r1,p1,_⟩:=I.tuple ha
  obtain ⟨its2,r2,p2,_⟩:=I.tuple hb
  cases r1
  obtain ⟨⟨cls,dd,data,sl⟩,ho,hc,n,hd⟩:=id p1
  obtain ⟨⟨cls2,dd2,data2,sl2⟩,ho2,hc2,n2,hd2⟩:=id p2
  simp only at hc hd hc2 hd2
  subst hc hd hc2 hd2
  exact concat_meets ⟨_,ho,rfl⟩ ⟨_,ho2,rfl⟩ noFill_tuple_add seq_tuple_add PySem.F.slot_tuple_add PySem.F.entry_tuple_add (PySem.F.args_tuple_add_2 _ _)
      (tuple_addW0 a b ([]:List Value).toArray its2.toArray n n2 dd dd2 sl sl2 (by simp)) ⟨ho,ho2,⟨.ref b,H,I,rfl,q⟩⟩
noncomputable def rAdd (K:PySem.W.Frag):R2:=fun x y H Q=>rI0 (fun i j=>.int (i + j)) x y H Q \/ rCatT K x y H Q \/ rCatT0 K x y H Q \/ rCat x y H Q \/ ∃ i j,x=.str i /\ y=.str j /\ i.length + j.length <= sizeLine /\ Q (.str (i ++ j)) H
theorem fT:OpR X (binaryOp .Add) (rAdd X.K):=No.or (LY.or (JC.or (Nz.or Dw)))
noncomputable def fB:D->D->Option Res
  | .int i,.int j=>some (.old (.int (i + j)))
  | .tup a,.tup b=>if a.length + b.length <= sizeLine then some (.tup (a ++ b)) else none
  | .lst a,.lst b=>if a.length + b.length <= sizeLine then some (.lst (a ++ b)) else none
  | .str a,.str b=>if a.length + b.length <= sizeLine then some (.old (.str (a ++ b))) else none
  | _,_=>none
theorem DenL.eq_nil {F:Hp}{l:List D}{vs:List V} (h:DenL F l vs):vs=[] ↔ l=[]:=by
  have:=h.length
  cases l <;> cases vs <;> simp_all
theorem okAdd {K:PySem.W.Frag}:Ok2 (rAdd K) fB:=by
  intro F H x y v w Q s sub rx ry e k
  unfold fB at e
  split at e
  . rename_i i j
    cases e
    exact .inl ⟨i,j,rx,ry,k _ _ ⟨rfl,rfl⟩⟩
  . rename_i l l'
    split at e
    . rename_i hz
      cases e
      obtain ⟨a,vs,rfl,h1,h2⟩:=rx
      obtain ⟨b,ws,rfl,h3,h4⟩:=ry
      by_cases hv:vs=[]
      . subst hv
        have hl:l=[]:=h2.eq_nil.mp rfl
        subst hl
        exact .inr (.inr (.inl ⟨a,b,ws,rfl,rfl,.of (sub _ _ h1),.of (sub _ _ h3),k _ _ (.inl ⟨rfl,b,ws,rfl,h3,h4⟩)⟩))
      . refine .inr (.inl ⟨a,b,vs,ws,rfl,rfl,.of (sub _ _ h1),.of (sub _ _ h3),hv,by rw [<-h2.length,<-h4.length];exact hz,fun hw=>?_,fun hw p hp=>k _ _ (.inr ⟨p,vs ++ ws,rfl,hp,rfl,h2.append h4⟩)⟩)
        have hl:l'=[]:=h4.eq_nil.mp hw
        subst hl
        exact k _ _ (.inl ⟨rfl,a,vs,rfl,h1,by rw [List.append_nil];exact h2⟩)
    . cases e
  . rename_i l l'
    split at e
    . rename_i hz
      cases e
      obtain ⟨a,vs,rfl,h1,h2⟩:=rx
      obtain ⟨b,ws,rfl,h3,h4⟩:=ry
      exact .inr (.inr (.inr (.inl ⟨a,b,vs,ws,rfl,rfl,h1,h3,by rw [<-h2.length,<-h4.length];exact hz,fun p hp=>k _ _ ⟨p,vs ++ ws,rfl,hp,rfl,h2.append h4⟩⟩)))
    . cases e
  . rename_i i j
    split at e
    . rename_i hz
      cases e
      exact .inr (.inr (.inr (.inr ⟨i,j,rx,ry,hz,k _ _ ⟨rfl,rfl⟩⟩)))
    . cases e
  . cases e
theorem okI {C:Int->Int->Prop} [∀ i j,Decidable (C i j)] {g:Int->Int->D}{gv:Int->Int->V} (hg:∀ i j F,Den F (g i j) (gv i j)):Ok2 (rI C gv) fun x y=>match x,y with | .int i,.int j=>if C i j then some (.old (g i j)) else none | _,_=>none:=by
  intro F H x y v w Q s sub rx ry e k
  dsimp only at e
  split at e
  . rename_i i j
    split at e
    . rename_i hc
      cases e
      exact ⟨i,j,rx,ry,hc,k _ _ ⟨rfl,hg i j F⟩⟩
    . cases e
  . cases e
theorem okI0 {g:Int->Int->D}{gv:Int->Int->V} (hg:∀ i j F,Den F (g i j) (gv i j)):Ok2 (rI0 gv) fun x y=>match x,y with | .int i,.int j=>some (.old (g i j)) | _,_=>none:=by
  intro F H x y v w Q s sub rx ry e k
  dsimp only at e
  split at e
  . rename_i i j
    cases e
    exact ⟨i,j,rx,ry,k _ _ ⟨rfl,hg i j F⟩⟩
  . cases e
noncomputable def subD:D->D->Option Res:=fun x y=>match x,y with | .int i,.int j=>some (.old (.int (i - j))) | _,_=>none
theorem okSub:Ok2 (rI0 fun i j=>.int (i - j)) subD:=okI0 (g:=fun i j=>.int (i - j)) fun _ _ _=>rfl
instance (i j:Int):Decidable (CMul i j):=by unfold CMul;exact inferInstance
instance (i j:Int):Decidable (CDiv i j):=by unfold CDiv;exact inferInstance
instance (i j:Int):Decidable (CPow i j):=by unfold CPow;exact inferInstance
noncomputable def fdivD:D->D->Option Res:=fun x y=>match x,y with | .int i,.int j=>if CDiv i j then some (.old (.int (i / j))) else none | _,_=>none
theorem okFdiv:Ok2 (rI CDiv fun i j=>.int (i / j)) fdivD:=okI (g:=fun i j=>.int (i / j)) fun _ _ _=>rfl
noncomputable def modD:D->D->Option Res:=fun x y=>match x,y with | .int i,.int j=>if 0 < j then some (.old (.int (i % j))) else none | _,_=>none
theorem okMod:Ok2 (rI (fun _ j=>0 < j) fun i j=>.int (i % j)) modD:=okI (C:=fun _ j=>0 < j) (g:=fun i j=>.int (i % j)) fun _ _ _=>rfl
noncomputable def powD:D->D->Option Res:=fun x y=>match x,y with | .int i,.int j=>if CPow i j then some (.old (.int (i ^ j.toNat))) else none | _,_=>none
theorem okPow:Ok2 (rI CPow fun i j=>.int (i ^ j.toNat)) powD:=okI (g:=fun i j=>.int (i ^ j.toNat)) fun _ _ _=>rfl
noncomputable def intsOf:List D->Option (List Int)
  | []=>some []
  | .int i :: l=>(intsOf l).map fun t=>i :: t
  | _=>none
theorem DenL.ints {F:Hp}:∀ {l:List D}{vs:List V}{ns:List Int},DenL F l vs->intsOf l=some ns->vs=ns.map V.int
  | [],_,_,h,e=>by cases e;exact h
  | .int i :: l,_,ns,h,e=>by
    obtain ⟨v,r,q,h1,h2⟩:=h
    unfold intsOf at e
    cases e2:intsOf l with
    | none=>rw [e2] at e;cases e
    | some t =>
      rw [e2] at e
      cases e
      rw [q,h2.ints e2,show v=.int i from h1]
      rfl
  | .non :: l,_,_,_,e=>by cases e
  | .bl _ :: l,_,_,_,e=>by cases e
  | .str _ :: l,_,_,_,e=>by cases e
  | .tup _ :: l,_,_,_,e=>by cases e
  | .lst _ :: l,_,_,_,e=>by cases e
  | .dic _ :: l,_,_,_,e=>by cases e
noncomputable def ltD:D->D->Option Res
  | .int i,.int j=>some (.old (.bl (decide (i < j))))
  | .tup a,.tup b=>(intsOf a).bind fun ns=>(intsOf b).map fun ms=>.old (.bl (HT.lexLt ns ms))
  | _,_=>none
theorem BW (hu:X.A.units < cLine):OpR X (compareOp .Lt) (fun x y H Q=>rI0 (fun i j=>.bl (decide (i < j))) x y H Q \/ rLtT X.K x y H Q):=Ow.or (Nv hu)
theorem okLt {K:PySem.W.Frag}:Ok2 (fun x y H Q=>rI0 (fun i j=>.bl (decide (i < j))) x y H Q \/ rLtT K x y H Q) ltD:=by
  intro F H x y v w Q s sub rx ry e k
  unfold ltD at e
  split at e
  . rename_i i j
    cases e
    exact .inl ⟨i,j,rx,ry,k _ _ ⟨rfl,rfl⟩⟩
  . rename_i l l'
    cases e1:intsOf l with
    | none=>rw [e1] at e;cases e
    | some ns =>
      cases e2:intsOf l' with
      | none=>rw [e1,e2] at e;cases e
      | some ms =>
        rw [e1,e2] at e
        cases e
        obtain ⟨a,vs,rfl,h1,h2⟩:=rx
        obtain ⟨b,ws,rfl,h3,h4⟩:=ry
        have q1:=h2.ints e1
        have q2:=h4.ints e2
        subst q1 q2
        exact .inr ⟨a,b,ns,ms,rfl,rfl,.of (sub _ _ h1),.of (sub _ _ h3),k _ _ ⟨rfl,rfl⟩⟩
  . cases e
noncomputable def gtI:D->D->Option Res:=fun x y=>match x,y with | .int i,.int j=>some (.old (.bl (decide (j < i)))) | _,_=>none
theorem okGtI:Ok2 (rI0 fun i j=>.bl (decide (j < i))) gtI:=okI0 (g:=fun i j=>.bl (decide (j < i))) fun _ _ _=>rfl
noncomputable def geI:D->D->Option Res:=fun x y=>match x,y with | .int i,.int j=>some (.old (.bl (decide (j <= i)))) | _,_=>none
theorem okGeI:Ok2 (rI0 fun i j=>.bl (decide (j <= i))) geI:=okI0 (g:=fun i j=>.bl (decide (j <= i))) fun _ _ _=>rfl
noncomputable def ixD:D->D->Option Res
  | .lst l,.int i=>(atI l i).map Res.old
  | .tup l,.int i=>(atI l i).map Res.old
  | _,_=>none
theorem FC {F:Hp}{l:List D}{vs:List V}{i:Int}{d:D} (h:DenL F l vs) (e:atI l i=some d):∃ v,atI vs i=some v /\ Den F d v:=by
  unfold atI at e ⊢
  rw [<-h.length]
  cases q:ixN l.length i with
  | none=>rw [q] at e;cases e
  | some j=>rw [q] at e;exact h.get e
theorem okIx {K:PySem.W.Frag}:Ok2 (rIx K) ixD:=by
  intro F H x y v w Q s sub rx ry e k
  unfold ixD at e
  split at e
  . rename_i l i
    obtain ⟨a,vs,rfl,h1,h2⟩:=rx
    cases e1:atI l i with
    | none=>rw [e1] at e;cases e
    | some d =>
      rw [e1] at e
      cases e
      obtain ⟨u,e2,du⟩:=FC h2 e1
      exact .inl ⟨a,vs,i,u,rfl,ry,.of h1,e2,k _ _ ⟨rfl,du⟩⟩
  . rename_i l i
    obtain ⟨a,vs,rfl,h1,h2⟩:=rx
    cases e1:atI l i with
    | none=>rw [e1] at e;cases e
    | some d =>
      rw [e1] at e
      cases e
      obtain ⟨u,e2,du⟩:=FC h2 e1
      exact .inr (.inl ⟨a,vs,i,u,rfl,ry,.of (sub _ _ h1),e2,k _ _ ⟨rfl,du⟩⟩)
  . cases e
noncomputable def lenD:List D->Option Res
  | [.lst l]=>some (.old (.int l.length))
  | [.tup l]=>some (.old (.int l.length))
  | _=>none
theorem okLen {K:PySem.W.Frag}:OkN (fun xs H Q=>∃ p ys,xs=[.ref p] /\ (SqL K H p ys \/ SqT K H p ys) /\ Q (.int ys.length) H) lenD:=by
  intro F H xs vs Q s sub rx e k
  unfold lenD at e
  split at e
  . rename_i l
    cases e
    obtain ⟨v,t,rfl,⟨a,us,rfl,h1,h2⟩,rt⟩:=rx
    cases (show t=[] from rt)
    exact ⟨a,us,rfl,.inl (.of h1),k _ _ ⟨rfl,by rw [<-h2.length];rfl⟩⟩
  . rename_i l
    cases e
    obtain ⟨v,t,rfl,⟨a,us,rfl,h1,h2⟩,rt⟩:=rx
    cases (show t=[] from rt)
    exact ⟨a,us,rfl,.inr (.of (sub _ _ h1)),k _ _ ⟨rfl,by rw [<-h2.length];rfl⟩⟩
  . cases e
noncomputable def tyN:D->String
  | .non=>"NoneType" | .bl _=>"bool" | .int _=>"int" | .str _=>"str" | .tup _=>"tuple" | .lst _=>"list" | .dic _=>"dict"
noncomputable def subT (S T:String):Bool:=S == T || (S == "bool" && T == "int")
noncomputable def Tys (K:PySem.W.Frag) (T:String):Prop:=∀ d:D,PySem.W.kitOne K (.type (tyN d)) (.type T)=some (subT (tyN d) T)
theorem OG {K:PySem.W.Frag}{F H:Hp} (sub:Sub F H):∀ {d:D}{v:V},Rdd F H d v->TyOf K H v (.type (tyN d))
  | .non,_,h=>by cases (show _=V.non from h);exact .non
  | .bl b,_,h=>by cases (show _=V.bl b from h);exact .bl b
  | .int b,_,h=>by cases (show _=V.int b from h);exact .int b
  | .str b,_,h=>by cases (show _=V.str b from h);exact .str b
  | .tup l,_,h=>by obtain ⟨a,vs,rfl,h1,h2⟩:=h;exact .tup (sub _ _ h1)
  | .lst l,_,h=>by obtain ⟨a,vs,rfl,h1,h2⟩:=h;exact .lst h1
  | .dic l,_,h=>by obtain ⟨a,vs,rfl,h1,h2⟩:=h;exact .dK h1
noncomputable def ic (n:String) (m:DE W):DE W:=fun env bx=>fE (m env bx) fun w bx1=>match rdW bx1 w with | some d=>.val (.d (.bl (subT (tyN d) n))) bx1 | none=>.bad
theorem Mb {n:String}{x:Str}{p p1:Pos} (hT:Tys X.K n) (hg:Gl X "isinstance") (hm:X.mg "isinstance"=none) (hg2:Gl X x) (hm2:X.mg x=none) (hv:bootBuiltins x=some (.type n)) (ha:PD X T Z a ma)
    (hn:x ≠ "__name__":=by decide) (hdb:(x == ("__debug__":Str))=false:=by decide)
    (he1:starEach [a,.Name x p1] X.env=(false,eval a X.env) :: starEach [.Name x p1] X.env:=by rfl) (he2:starEach [.Name x p1] X.env=(false,eval (.Name x p1) X.env) :: starEach [] X.env:=by rfl)
    (hpl:(backTo pos (starEach [.Name x p1] X.env)).any (·.1)=false:=by rfl):PD X T Z (.Call (.Name "isinstance" p) [a,.Name x p1] [] pos) (ic n ma):=by
  refine PE.imp (oH Gx hg hm (by decide +kernel) (lB ha (lB (LL hg2 hm2 hv (v:=.ty n) rfl hn hdb) oo he2) he1) (by decide) (by decide) he1 hpl) fun σ H Q ⟨F,r,env,bx,R,h⟩=>?_
  refine ⟨F,r,env,bx,R,End.bind h fun w bx1 F1 r1 v H1 g1 R1 d1 h1=>?_⟩
  cases e:rdW bx1 w with
  | none=>simp only [e] at h1;exact h1.elim
  | some d =>
    simp only [e] at h1
    exact ⟨v,.ty n,_,.type n,_,rfl,.of (OG R1.fh (R1.rdd d1 e)),rfl,hT d,h1 F1 r1 _ H1 (.refl F1 r1) R1 rfl⟩
end
end L2.DL
set_option Elab.async false
set_option linter.all false
set_option maxRecDepth 100000
set_option maxHeartbeats 4000000
namespace L2.DL
open PySem PySem.Spec PyProof.Rows
section
variable {X : Cx} {T : Fr} {Z : Xs} {a b c e : Expr} {es : List Expr} {ma mb mc : DE W} {pos p : Pos}
noncomputable def rEqT (K:PySem.W.Frag):R2:=fun x y H Q=>∃ a b xs,x=.ref a /\ y=.ref b /\ SqT K H a xs /\ SqT K H b [] /\ Q (.bl xs.isEmpty) H
theorem NH (hu:X.A.units < cLine):OpR X (compareOp .Eq) (rEqT X.K):=by
  intro pins s σ H x y v u Q I rx ry h
  obtain ⟨a,b,xs,rfl,rfl,h1,h2,q⟩:=h
  cases rx;cases ry
  obtain ⟨i1,r1,p1,z1⟩:=I.tuple h1
  obtain ⟨i2,r2,p2,z2⟩:=I.tuple h2
  cases r2
  refine SeqAt.eq_tupleAt (items:=i1.toArray) (items2:=([]:List Value).toArray) (e:=fun _=>true) p1 p2 hu (fun j h1 h2=>absurd h2 (by simp)) ⟨.bl xs.isEmpty,H,I,?_,q⟩
  have:=r1.length
  cases xs <;> cases i1 <;> simp_all [RelV]
noncomputable def rEqL (K:PySem.W.Frag):R2:=fun x y H Q=>∃ (a b:Addr) (ns ms:List Int),x=.ref a /\ y=.ref b /\ SqL K H a (ns.map V.int) /\ SqL K H b (ms.map V.int) /\ Q (.bl (decide (ns=ms))) H
theorem GA {ns ms:List Int} (h:ns.length=ms.length):((List.range ns.length).all fun j=>(ns.getD j 0 == ms.getD j 0))=decide (ns=ms):=by
  rw [Bool.eq_iff_iff,List.all_eq_true,decide_eq_true_iff]
  constructor
  . intro q
    refine List.ext_getElem h fun j h1 h2=>?_
    have:=q j (List.mem_range.mpr h1)
    simpa [List.getD,h1,h2] using this
  . rintro rfl j _
    simp
theorem NI (hu:X.A.units < cLine):OpR X (compareOp .Eq) (rEqL X.K):=by
  intro pins s σ H x y v u Q I rx ry h
  obtain ⟨a,b,ns,ms,rfl,rfl,h1,h2,q⟩:=h
  cases rx;cases ry
  obtain ⟨i1,r1,p1,z1⟩:=I.list h1
  obtain ⟨i2,r2,p2,z2⟩:=I.list h2
  have l1:ns.length=i1.length:=by have:=r1.length;simpa using this
  have l2:ms.length=i2.length:=by have:=r2.length;simpa using this
  by_cases hl:ns.length=ms.length
  . refine SeqAt.eq_listAt (items:=i1.toArray) (items2:=i2.toArray) (e:=fun j=>ns.getD j 0 == ms.getD j 0) p1.isList p2.isList (by simp;omega) hu (fun j h1 h2=>?_) ?_
    . have g1:j < i1.length:=by simpa using h1
      have g2:j < i2.length:=by simpa using h2
      obtain ⟨w1,e1,q1⟩:=r1.get (i:=j) (x:=V.int (ns[j]'(by omega))) (by simp [show j < ns.length by omega])
      obtain ⟨w2,e2,q2⟩:=r2.get (i:=j) (x:=V.int (ms[j]'(by omega))) (by simp [show j < ms.length by omega])
      have k1:i1[j]=w1:=by rw [List.getElem?_eq_getElem g1] at e1;exact Option.some.inj e1
      have k2:i2[j]=w2:=by rw [List.getElem?_eq_getElem g2] at e2;exact Option.some.inj e2
      show SeqAt.EqAt _ _ i1[j] i2[j] _
      rw [k1,k2]
      obtain ⟨t,rfl⟩:=q1
      obtain ⟨t',rfl⟩:=q2
      have d1:ns.getD j 0=ns[j]'(by omega):=by simp [List.getD,show j < ns.length by omega]
      have d2:ms.getD j 0=ms[j]'(by omega):=by simp [List.getD,show j < ms.length by omega]
      rw [d1,d2]
      exact SeqAt.EqAt.int_int _ _ _ _
    . rw [show i1.toArray.size=ns.length by simp;omega,GA hl]
      exact ⟨.bl _,H,I,rfl,q⟩
  . refine SeqAt.eq_list_lengthsAt (items:=i1.toArray) (items2:=i2.toArray) p1.isList p2.isList (by simp;omega) hu ⟨.bl false,H,I,rfl,?_⟩
    rw [decide_eq_false (fun z=>hl (by rw [z]))] at q
    exact q
noncomputable def rEqA (K:PySem.W.Frag):R2:=fun x y H Q=>rEq x y H Q \/ rEqT K x y H Q \/ rEqL K x y H Q
theorem mf (hu:X.A.units < cLine):OpR X (compareOp .Eq) (rEqA X.K):=Ou.or ((NH hu).or (NI hu))
noncomputable def eqD:D->D->Option Res
  | .int i,.int j=>some (.old (.bl (decide (i=j))))
  | .str i,.str j=>some (.old (.bl (decide (i=j))))
  | .tup l,.tup []=>some (.old (.bl l.isEmpty))
  | .lst a,.lst b=>(intsOf a).bind fun ns=>(intsOf b).map fun ms=>.old (.bl (decide (ns=ms)))
  | _,_=>none
theorem okEq {K:PySem.W.Frag}:Ok2 (rEqA K) eqD:=by
  intro F H x y v w Q s sub rx ry e k
  unfold eqD at e
  split at e
  . rename_i i j
    cases e
    cases (show v=.int i from rx)
    cases (show w=.int j from ry)
    exact .inl ⟨rfl,k _ _ ⟨rfl,by show _=_;simp⟩⟩
  . rename_i i j
    cases e
    cases (show v=.str i from rx)
    cases (show w=.str j from ry)
    exact .inl ⟨rfl,k _ _ ⟨rfl,by show _=_;simp⟩⟩
  . rename_i l
    cases e
    obtain ⟨a,vs,rfl,h1,h2⟩:=rx
    obtain ⟨b,ws,rfl,h3,h4⟩:=ry
    cases (show ws=[] from h4)
    exact .inr (.inl ⟨a,b,vs,rfl,rfl,.of (sub _ _ h1),.of (sub _ _ h3),k _ _ ⟨rfl,by show _=_;rw [h2.isEmpty]⟩⟩)
  . rename_i l l'
    cases e1:intsOf l with
    | none=>rw [e1] at e;cases e
    | some ns =>
      cases e2:intsOf l' with
      | none=>rw [e1,e2] at e;cases e
      | some ms =>
        rw [e1,e2] at e
        cases e
        obtain ⟨a,vs,rfl,h1,h2⟩:=rx
        obtain ⟨b,ws,rfl,h3,h4⟩:=ry
        have q1:=h2.ints e1
        have q2:=h4.ints e2
        subst q1 q2
        exact .inr (.inr ⟨a,b,ns,ms,rfl,rfl,.of h1,.of h3,k _ _ ⟨rfl,rfl⟩⟩)
  . cases e
noncomputable def rNeE (K:PySem.W.Frag):R2:=fun x y H Q=>∃ a b xs,x=.ref a /\ y=.ref b /\ SqL K H a xs /\ SqL K H b [] /\ Q (.bl (!xs.isEmpty)) H
theorem NJ (hu:X.A.units < cLine):OpR X (compareOp .NotEq) (rNeE X.K):=by
  intro pins s σ H x y v u Q I rx ry h
  obtain ⟨a,b,xs,rfl,rfl,h1,h2,q⟩:=h
  cases rx;cases ry
  obtain ⟨i1,r1,p1,z1⟩:=I.list h1
  obtain ⟨i2,r2,p2,z2⟩:=I.list h2
  cases r2
  cases r1 with
  | nil=>exact SeqAt.RcNeAt.lists (items:=([]:List Value).toArray) (items2:=([]:List Value).toArray) (e:=fun _=>true) p1.isList p2.isList rfl hu (fun j h1 h2=>absurd h2 (by simp)) X.prog X.w X.xe _ ⟨.bl false,H,I,rfl,q⟩
  | cons _ _=>exact SeqAt.RcNeAt.lists_lengths (items2:=([]:List Value).toArray) p1.isList p2.isList (by simp) hu X.prog X.w X.xe _ ⟨.bl true,H,I,rfl,q⟩
noncomputable def rNeA (K:PySem.W.Frag):R2:=fun x y H Q=>rNe x y H Q \/ rNeE K x y H Q
theorem DD (hu:X.A.units < cLine):OpR X (compareOp .NotEq) (rNeA X.K):=Ov.or (NJ hu)
noncomputable def neD:D->D->Option Res
  | .int i,.int j=>some (.old (.bl (!decide (i=j))))
  | .str i,.str j=>some (.old (.bl (!decide (i=j))))
  | .lst l,.lst []=>some (.old (.bl (!l.isEmpty)))
  | _,_=>none
theorem okNe {K:PySem.W.Frag}:Ok2 (rNeA K) neD:=by
  intro F H x y v w Q s sub rx ry e k
  unfold neD at e
  split at e
  . rename_i i j
    cases e
    cases (show v=.int i from rx)
    cases (show w=.int j from ry)
    exact .inl ⟨rfl,k _ _ ⟨rfl,by show _=_;simp⟩⟩
  . rename_i i j
    cases e
    cases (show v=.str i from rx)
    cases (show w=.str j from ry)
    exact .inl ⟨rfl,k _ _ ⟨rfl,by show _=_;simp⟩⟩
  . rename_i l
    cases e
    obtain ⟨a,vs,rfl,h1,h2⟩:=rx
    obtain ⟨b,ws,rfl,h3,h4⟩:=ry
    cases (show ws=[] from h4)
    exact .inr ⟨a,b,vs,rfl,rfl,.of h1,.of h3,k _ _ ⟨rfl,by show _=_;rw [h2.isEmpty]⟩⟩
  . cases e
noncomputable def isntD:D->D->Option Res
  | .bl i,.bl j=>some (.old (.bl (!(i == j))))
  | _,_=>none
noncomputable def rAll (K:PySem.W.Frag) (vs:List V) (H:Hp) (Q:VK):Prop:=∃ (p:Addr) (bs:List Bool),vs=[.ref p] /\ H p=some (.lst (bs.map V.bl)) /\ Q (.bl (bs.all id)) H
theorem gQ (hc:X.calm=true):CallR X (.builtin "all") (rAll X.K):=by
  intro pins s σ H xs us Q I rv h
  obtain ⟨p,bs,rfl,hp,q⟩:=h
  obtain ⟨u,rfl,ru⟩:=Vals.one rv
  cases ru
  obtain ⟨its,r1,p1,z1⟩:=I.list (SqL.of (K:=X.K) hp)
  have hl:=p1.isList
  have hlt:p < s.heap.objs.size:=by obtain ⟨_,e,_⟩:=hl;exact Heap.lt_size e
  have hlen:bs.length=its.length:=by have:=r1.length;simpa using this
  refine call_all_walk (wpAny_pyIter_list hl ?_)
  refine ⟨s.heap.objs.size,[s.heap.objs.size,p],[s.heap.objs.size],its.toArray.size,_,_,fun i=>(bs[i]?).getD true,rfl,Walks.list (A:=X.A.in1) (I.ok.hd hc) _ p (Nat.ne_of_lt hlt) its.toArray,
    ⟨⟨_,Heap.get?_push_size _ rfl,rfl,rfl⟩,hl.push _⟩,fun i v s' Q' E' hP hQ=>?_,fun h' tk hk=>?_⟩
  . have hP':its[i]?=some v:=by simpa using hP
    have hi:i < bs.length:=by rw [hlen];exact (List.getElem?_eq_some_iff.mp hP').1
    obtain ⟨w,e1,e2⟩:=r1.get (i:=i) (x:=V.bl bs[i]) (by simp [hi])
    rw [hP'] at e1
    cases e1
    cases e2
    simp only [List.getElem?_eq_getElem hi,Option.getD_some] at hQ
    exact wpAny_truthy_bool hQ
  . have e:((List.range its.toArray.size).all fun i=>(bs[i]?).getD true)=bs.all id:=by
      rw [List.size_toArray,<-hlen];exact LSm.range_all bs
    rw [e]
    exact ⟨.bl _,H,I.kept (t':=tk) (LSm.kept_iter hk),rfl,q⟩
noncomputable def bolsOf:List D->Option (List Bool)
  | []=>some []
  | .bl i :: l=>(bolsOf l).map fun t=>i :: t
  | _=>none
theorem DenL.bols {F:Hp}:∀ {l:List D}{vs:List V}{ns:List Bool},DenL F l vs->bolsOf l=some ns->vs=ns.map V.bl
  | [],_,_,h,e=>by cases e;exact h
  | .bl i :: l,_,ns,h,e=>by
    obtain ⟨v,r,q,h1,h2⟩:=h
    unfold bolsOf at e
    cases e2:bolsOf l with
    | none=>rw [e2] at e;cases e
    | some t =>
      rw [e2] at e
      cases e
      rw [q,h2.bols e2,show v=.bl i from h1]
      rfl
  | .non :: l,_,_,_,e=>by cases e
  | .int _ :: l,_,_,_,e=>by cases e
  | .str _ :: l,_,_,_,e=>by cases e
  | .tup _ :: l,_,_,_,e=>by cases e
  | .lst _ :: l,_,_,_,e=>by cases e
  | .dic _ :: l,_,_,_,e=>by cases e
noncomputable def allD:List D->Option Res
  | [.lst l]=>(bolsOf l).map fun bs=>.old (.bl (bs.all id))
  | _=>none
theorem okAll {K:PySem.W.Frag}:OkN (rAll K) allD:=by
  intro F H xs vs Q s sub rx e k
  unfold allD at e
  split at e
  . rename_i l
    obtain ⟨v,t,rfl,⟨a,us,rfl,h1,h2⟩,rt⟩:=rx
    cases (show t=[] from rt)
    cases e1:bolsOf l with
    | none=>rw [e1] at e;cases e
    | some bs =>
      rw [e1] at e
      cases e
      have q1:=h2.bols e1
      subst q1
      exact ⟨a,bs,rfl,h1,k _ _ ⟨rfl,rfl⟩⟩
  . cases e
theorem okTuple {K:PySem.W.Frag}:OkN (fun xs H Q=>∃ p ys,xs=[.ref p] /\ ((SqL K H p ys /\ ∀ l,H l=none->Q (.ref l) (upd H l (.tup ys))) \/ (SqT K H p ys /\ Q (.ref p) H)))
    (fun xs=>match xs with | [.lst l]=>some (.tup l) | [.tup l]=>some (.tup l) | _=>none):=by
  intro F H xs vs Q s sub rx e k
  dsimp only at e
  split at e
  . rename_i l
    cases e
    obtain ⟨v,t,rfl,⟨a,us,rfl,h1,h2⟩,rt⟩:=rx
    cases (show t=[] from rt)
    exact ⟨a,us,rfl,.inl ⟨.of h1,fun p hp=>k _ _ (.inr ⟨p,us,rfl,hp,rfl,h2⟩)⟩⟩
  . rename_i l
    cases e
    obtain ⟨v,t,rfl,⟨a,us,rfl,h1,h2⟩,rt⟩:=rx
    cases (show t=[] from rt)
    exact ⟨a,us,rfl,.inr ⟨.of (sub _ _ h1),k _ _ (.inl ⟨rfl,a,us,rfl,h1,h2⟩)⟩⟩
  . cases e
noncomputable def tupleD:List D->Option Res:=fun xs=>match xs with | [.lst l]=>some (.tup l) | [.tup l]=>some (.tup l) | _=>none
noncomputable def listD:List D->Option Res:=fun xs=>match xs with | [.lst l]=>some (.lst l) | [.tup l]=>some (.lst l) | _=>none
theorem okList {K:PySem.W.Frag}:OkN (fun xs H Q=>∃ p ys,xs=[.ref p] /\ (SqL K H p ys \/ SqT K H p ys) /\ ∀ l,H l=none->Q (.ref l) (upd H l (.lst ys))) listD:=by
  intro F H xs vs Q s sub rx e k
  unfold listD at e
  split at e
  . rename_i l
    cases e
    obtain ⟨v,t,rfl,⟨a,us,rfl,h1,h2⟩,rt⟩:=rx
    cases (show t=[] from rt)
    exact ⟨a,us,rfl,.inl (.of h1),fun p hp=>k _ _ ⟨p,us,rfl,hp,rfl,h2⟩⟩
  . rename_i l
    cases e
    obtain ⟨v,t,rfl,⟨a,us,rfl,h1,h2⟩,rt⟩:=rx
    cases (show t=[] from rt)
    exact ⟨a,us,rfl,.inr (.of (sub _ _ h1)),fun p hp=>k _ _ ⟨p,us,rfl,hp,rfl,h2⟩⟩
  . cases e
noncomputable def maxD:List D->Option Res:=fun xs=>match xs with | [.int i,.int j]=>some (.old (.int (if j > i then j else i))) | _=>none
theorem okMax:OkN (fun xs H Q=>∃ i j,xs=[.int i,.int j] /\ Q (.int (if j > i then j else i)) H) maxD:=by
  intro F H xs vs Q s sub rx e k
  unfold maxD at e
  split at e
  . rename_i i j
    cases e
    obtain ⟨v,t,rfl,h1,v2,t2,rfl,h2,rt⟩:=rx
    cases (show t2=[] from rt)
    cases (show v=.int i from h1)
    cases (show v2=.int j from h2)
    exact ⟨i,j,rfl,k _ _ ⟨rfl,rfl⟩⟩
  . cases e
noncomputable def minD:List D->Option Res:=fun xs=>match xs with | [.int i,.int j]=>some (.old (.int (if j < i then j else i))) | _=>none
theorem okMin:OkN (fun xs H Q=>∃ i j,xs=[.int i,.int j] /\ Q (.int (if j < i then j else i)) H) minD:=by
  intro F H xs vs Q s sub rx e k
  unfold minD at e
  split at e
  . rename_i i j
    cases e
    obtain ⟨v,t,rfl,h1,v2,t2,rfl,h2,rt⟩:=rx
    cases (show t2=[] from rt)
    cases (show v=.int i from h1)
    cases (show v2=.int j from h2)
    exact ⟨i,j,rfl,k _ _ ⟨rfl,rfl⟩⟩
  . cases e
end
end L2.DL
set_option Elab.async false
set_option linter.all false
set_option maxRecDepth 100000
set_option maxHeartbeats 4000000
namespace HT
open PySem PySem.Spec PyProof.Rows
section
variable {prog : Program} {w : World} {A : Around} {E : Value -> Shared -> Prop} {s : Shared}
theorem oN {t sl:Addr}{items:Array Value}{vl vu:Value}{lo hi:Option Int}{Q:Value->Shared->Prop} (ht:IsTup s.heap t items) (hs:s.heap.IsSliceOf sl vl vu .none) (pl:IsPart vl lo) (pu:IsPart vu hi)
    (hw:sIx items.size 0 lo=0 /\ sIx items.size items.size hi=items.size) (h:Q (.ref t) s):wpAny (model prog w) A (getItem (.ref t) (.ref sl)) Q E s:=by
  obtain ⟨os,hos,hcs,hds⟩:=id hs
  have hTs:s.TypeIs (.ref sl) "slice":=⟨os,hos,hcs⟩
  unfold getItem
  try with_reducible refine wpAny_holding ?_
  first | refine wpAny_bind (wpAny_pure ?_) | skip
  refine wpAny_bind (wpAny_sequenceKey ht.typeIs (by decide) ?_)
  refine wpAny_bind (wpAny_callSpecial?_slot (name:=Str.ofString "__getitem__") ht.typeIs PyProof.Rows.slot_tuple_getitem
    (wpAny_call_entry PyProof.Rows.slot_tuple_getitem ht.typeIs entry_tuple_getitem ?_ (args_tuple_getitem _ _)))
  show wpAny _ _ (Builtin.Tuple.tupleItemsOf (.ref t) >>= _) _ _ s
  refine wpAny_bind (tupleItemsOf_ ht ?_)
  refine wpAny_bind (wpAny_typeOf hTs ?_)
  rw [if_pos (by decide)]
  refine wpAny_bind (lM hs pl pu ?_)
  have hyes:((((sIx items.size 0 lo:Nat):Int) == 0 && (1:Int) == 1 && (sIx items.size items.size hi - sIx items.size 0 lo) == items.size)=true):=by
    rw [hw.1,hw.2]
    simp
  show wpAny _ _ (if (((sIx items.size 0 lo:Nat):Int) == 0 && (1:Int) == 1 && (sIx items.size items.size hi - sIx items.size 0 lo) == items.size)=true then _ else _) _ _ s
  rw [if_pos hyes]
  refine wpAny_bind (m:=Builtin.Tuple.tupleIsExact (.ref t)) ?_
  unfold Builtin.Tuple.tupleIsExact
  refine wpAny_bind (wpAny_typeOf ht.typeIs (wpAny_pure ?_))
  rw [if_pos (by decide)]
  exact wpAny_bind (wpAny_rule (wpAny_pure ⟨_,rfl,wpAny_pure h⟩))
theorem CH {α β:Type}{f g:α->Option β}:∀ {l:List α},(∀ x ∈ l,f x=g x)->l.filterMap f=l.filterMap g
  | [],_=>rfl
  | x :: l,h=>by
    rw [List.filterMap_cons,List.filterMap_cons,h x List.mem_cons_self,CH fun y hy=>h y (List.mem_cons_of_mem _ hy)]
theorem AH (n:Nat):sliceRange ((n:Int) - 1) (-1) (-1)=(List.range n).map fun k=>n - 1 - k:=by
  have e:(if (-1:Int) > 0 then (if (n:Int) - 1 < -1 then (-1 - ((n:Int) - 1) + -1 - 1) / -1 else 0) else (if (n:Int) - 1 > -1 then ((n:Int) - 1 - -1 - -1 - 1) / (- -1) else 0):Int).toNat=n:=by
    rw [if_neg (by decide)]
    split
    . have:((n:Int) - 1 - -1 - -1 - 1) / (- -1)=n:=by
        rw [show (- -1:Int)=1 by decide,Int.ediv_one];omega
      rw [this];rfl
    . omega
  show (List.range (if (-1:Int) > 0 then (if (n:Int) - 1 < -1 then (-1 - ((n:Int) - 1) + -1 - 1) / -1 else 0) else (if (n:Int) - 1 > -1 then ((n:Int) - 1 - -1 - -1 - 1) / (- -1) else 0):Int).toNat).map _=_
  rw [e]
  refine List.map_congr_left fun k hk=>?_
  have:=List.mem_range.mp hk
  omega
theorem Bb (its:List Value):slicePick its.toArray none none (some (-1))=its.reverse.toArray:=by
  unfold slicePick
  have e:sliceBounds none none (some (-1)) its.toArray.size=((its.length:Int) - 1,-1,-1):=by
    simp [sliceBounds]
  rw [e]
  congr 1
  show (sliceRange ((its.length:Int) - 1) (-1) (-1)).filterMap (its.toArray[·]?)=_
  rw [AH,List.filterMap_map]
  apply List.ext_getElem?
  intro i
  have h1:(List.range its.length).filterMap ((fun x=>its.toArray[x]?) ∘ fun k=>its.length - 1 - k)=(List.range its.length).map fun k=>(its[its.length - 1 - k]?).getD .none:=by
    rw [<-List.filterMap_eq_map]
    refine CH fun k hk=>?_
    have hk':=List.mem_range.mp hk
    have hlt:its.length - 1 - k < its.length:=by omega
    simp [hlt]
  rw [h1,List.getElem?_map]
  by_cases hi:i < its.length
  . have hlt:its.length - 1 - i < its.length:=by omega
    rw [List.getElem?_range hi,List.getElem?_reverse hi]
    simp [hlt]
  . rw [List.getElem?_eq_none (by simpa using Nat.le_of_not_lt hi),List.getElem?_eq_none (by simpa using Nat.le_of_not_lt hi)]
    rfl
end
end HT
namespace L2.DL
open PySem PySem.Spec PyProof.Rows
section
variable {X : Cx} {T : Fr} {Z : Xs} {a b c e : Expr} {es : List Expr} {ma mb mc : DE W} {pos p p2 : Pos} {lo hi : Option Expr}
noncomputable def rSlW (K:PySem.W.Frag):V->Option Int->Option Int->Hp->VK->Prop:=fun x lo hi H Q=>∃ a xs,x=.ref a /\ SqT K H a xs /\
  (HT.sIx xs.length 0 lo=0 /\ HT.sIx xs.length xs.length hi=xs.length) /\ Q (.ref a) H
theorem Mc:SlR X (rSlW X.K):=by
  intro pins s σ H x v vl vu lo hi sl Q I rx hs pl pu h
  obtain ⟨a,xs,rfl,hx,hw,q⟩:=h
  cases rx
  obtain ⟨its,r,ht,hz⟩:=I.tuple hx
  have hlen:its.toArray.size=xs.length:=by rw [List.size_toArray];exact r.length.symm
  exact ⟨"tuple",_,PyProof.Rows.slot_tuple_getitem.lookup,ht.typeIs,HT.oN ht hs pl pu (by rw [hlen];exact hw) ⟨.ref a,H,I,rfl,q⟩⟩
noncomputable def rSl (K:PySem.W.Frag):V->Option Int->Option Int->Hp->VK->Prop:=fun x lo hi H Q=>rSlT K x lo hi H Q \/ rSlW K x lo hi H Q \/ rSlL K x lo hi H Q
theorem NK:SlR X (rSl X.K):=Nu.or (Mc.or LZ)
noncomputable def cutD (xs:List D) (lo hi:Option Int):List D:=(xs.drop (HT.sIx xs.length 0 lo)).take (HT.sIx xs.length xs.length hi - HT.sIx xs.length 0 lo)
theorem FD {F:Hp}{l:List D}{vs:List V} (h:DenL F l vs) (lo hi:Option Int):DenL F (cutD l lo hi) (cutV vs lo hi):=by
  unfold cutD cutV
  rw [h.length]
  exact (h.drop _).take _
noncomputable def slD:D->Option Int->Option Int->Option Res
  | .tup l,lo,hi=>some (.tup (cutD l lo hi))
  | .lst l,lo,hi=>some (.lst (cutD l lo hi))
  | _,_,_=>none
theorem okSl {K:PySem.W.Frag}{F H:Hp}{x:D}{v:V}{lo hi:Option Int}{Q:VK}{s:Res} (sub:Sub F H) (rx:Rdd F H x v) (e:slD x lo hi=some s) (k:∀ u H',RRes F H s u H'->Q u H'):rSl K v lo hi H Q:=by
  cases x with
  | tup l =>
    cases e
    obtain ⟨a,vs,rfl,h1,h2⟩:=rx
    by_cases hw:HT.sIx vs.length 0 lo=0 /\ HT.sIx vs.length vs.length hi=vs.length
    . refine .inr (.inl ⟨a,vs,rfl,.of (sub _ _ h1),hw,k _ _ (.inl ⟨rfl,?_⟩)⟩)
      have e:cutD l lo hi=l:=by
        unfold cutD
        rw [h2.length,hw.1,hw.2,Nat.sub_zero,List.drop_zero,<-h2.length,List.take_length]
      rw [e]
      exact ⟨a,vs,rfl,h1,h2⟩
    . exact .inl ⟨a,vs,rfl,.of (sub _ _ h1),hw,fun p hp=>k _ _ (.inr ⟨p,_,rfl,hp,rfl,FD h2 lo hi⟩)⟩
  | lst l =>
    cases e
    obtain ⟨a,vs,rfl,h1,h2⟩:=rx
    exact .inr (.inr ⟨a,vs,rfl,.of h1,fun p hp=>k _ _ ⟨p,_,rfl,hp,rfl,FD h2 lo hi⟩⟩)
  | non=>cases e
  | bl _=>cases e
  | int _=>cases e
  | str _=>cases e
  | dic _=>cases e
noncomputable abbrev DenO:Hp->List Addr->Option Int->Option Int->Prop:=fun _ _ a b=>a=b
noncomputable def tDO (T:Fr) (Z:Xs) (m:DE (Option Int)):TO:=fun σ H Q=>∃ F r env bx,Rel T F r σ H env bx /\ End T Z DenO F r σ env Q (m env bx)
noncomputable def PDO (X:Cx) (T:Fr) (Z:Xs) (e:Option Expr) (m:DE (Option Int)):Prop:=PO X e (tDO T Z m)
theorem PO.imp {X:Cx}{e:Option Expr}{t t':TO} (h:PO X e t) (f:∀ σ H Q,t' σ H Q->t σ H Q):PO X e t':=fun pins s σ H Q I q=>h pins s σ H Q I (f σ H Q q)
noncomputable def dNo:DE (Option Int):=fun _ bx=>.val none bx
noncomputable def dPart (m:DE W):DE (Option Int):=fun env bx=>fE (m env bx) fun w bx1=>match w with | .d (.int i)=>.val (some i) bx1 | _=>.bad
theorem i5:PDO X T Z none dNo:=PO.imp LW fun σ H Q ⟨F,r,env,bx,R,h⟩=>h F r none H (.refl F r) R rfl
theorem gM (h:PD X T Z e ma):PDO X T Z (some e) (dPart ma):=by
  refine PO.imp (LX h) fun σ H Q ⟨F,r,env,bx,R,h⟩=>?_
  refine ⟨F,r,env,bx,R,End.bind h fun w bx1 F1 r1 v H1 g1 R1 d1 h1=>?_⟩
  split at h1
  . rename_i i
    exact ⟨i,d1,h1 F1 r1 _ H1 (.refl F1 r1) R1 rfl⟩
  . exact h1.elim
noncomputable def dSl (bo:Bool) (m:DE W) (l u:DE (Option Int)):DE W:=fun env bx=>fE (m env bx) fun x bx1=>fE (l env bx1) fun i bx2=>fE (u env bx2) fun j bx3=>resO bo ((rdW bx3 x).bind fun d=>slD d i j) bx3
theorem gN {l u:DE (Option Int)} (bo:Bool) (ha:PD X T Z e ma) (hl:PDO X T Z lo l) (hu:PDO X T Z hi u):PD X T Z (.Subscript e (.Slice lo hi none p2) pos) (dSl bo ma l u):=by
  refine PE.imp (Jh NK ha hl hu) fun σ H Q ⟨F,r,env,bx,R,h⟩=>?_
  refine ⟨F,r,env,bx,R,End.bind h fun x bx1 F1 r1 v H1 g1 R1 d1 h1=>?_⟩
  refine ⟨F1,r1,env,bx1,R1,End.bind h1 fun i bx2 F2 r2 i' H2 g2 R2 d2 h2=>?_⟩
  refine ⟨F2,r2,env,bx2,R2,End.bind h2 fun j bx3 F3 r3 j' H3 g3 R3 d3 h3=>?_⟩
  subst d2 d3
  cases e1:rdW bx3 x with
  | none=>rw [e1] at h3;exact h3.elim
  | some d =>
    rw [e1] at h3
    simp only [Option.bind_some] at h3
    cases e2:slD d i j with
    | none=>rw [e2] at h3;exact h3.elim
    | some s =>
      rw [e2] at h3
      exact okSl R3.fh (R3.rdd (g3.den (g2.den d1)) e1) e2 fun u H' k=>jg R3 h3 k
theorem NL {te:TE}{i:Int}{j:Nat}{q1 q2:Pos} (he:PE X e te):PE X (.Subscript e (.Slice none none (some (.UnaryOp .USub (.Constant (.int 1) j q1) q2)) p2) pos)
    (fun σ H Q=>te σ H fun x H1=>∃ a xs,x=.ref a /\ SqL X.K H1 a xs /\ ∀ p,H1 p=none->Q (.ref p) (upd H1 p (.lst xs.reverse))):=by
  intro pins s σ H Q I h
  refine Subscript_ (thn (he pins s σ H _ I h) fun v s1 ⟨x,H1,I1,r1,q1⟩=>?_)
  refine wpAny_Slice ?_
  rw [evalPart_none]
  refine wpAny_pure (wpAny_pure ?_)
  rw [evalPart_some]
  refine thn (MU (X:=X) Ja Ay pins s1 σ H1 (fun y H2=>y=.int (-1) /\ H2=H1) I1 ⟨1,rfl,rfl,rfl⟩) fun vs s3 ⟨y,H3,I3,r3,e1,e2⟩=>?_
  subst e1 e2
  obtain ⟨t,rfl⟩:=r3
  obtain ⟨a,xs,rfl,hx,q⟩:=q1
  cases r1
  have I4:Inv X pins σ H3 { s3 with heap:=s3.heap.push { cls:=.type "slice",data:=.fields #[.none,.none,.int (-1) t] } }:=I3.kept (t':=s3.toks) fun b ob q=>Heap.get?_push_of_some _ q
  obtain ⟨its,r,ht,hz⟩:=I4.list hx
  have hlen:=r.length
  have hg:wpAny (model X.prog X.w) X.A (getItem (.ref a) (.ref s3.heap.objs.size)) (EP X pins σ Q) X.xe { s3 with heap:=s3.heap.push { cls:=.type "slice",data:=.fields #[.none,.none,.int (-1) t] } }:=by
    refine wpAny_getItem_list_slice (lo:=none) (hi:=none) (st:=some (-1)) ht.isList (Heap.IsSliceOf.new ..) .none .none (.int (-1) t) (by simp) ?_ (by rw [List.size_toArray] <;> omega)
    rw [HT.Bb]
    refine ⟨.ref _,_,I4.laid (t':=s3.toks) (o:=.lst xs.reverse) (fun b ob q=>Heap.get?_push_of_some _ q) (Nat.le_refl _) ?_,rfl,q _ (I4.hok.fresh (Nat.le_refl _))⟩
    exact ⟨by rw [List.length_reverse];exact hz,_,0,r.reverse,Heap.get?_push_size _ rfl⟩
  show wpAny (model X.prog X.w) X.A (subscriptTail e (.Slice none none (some (.UnaryOp .USub (.Constant (.int 1) j _) q2)) p2) (.ref a) (.ref s3.heap.objs.size)) (EP X pins σ Q) X.xe _
  exact tail_any (ops:=[.ref a,.ref s3.heap.objs.size]) ht.isList.typeIs slot_list_getitem.lookup hg (by with_unfolding_all rfl)
noncomputable def dRev (bo:Bool) (m:DE W):DE W:=fun env bx=>fE (m env bx) fun x bx1=>resO bo ((rdW bx1 x).bind fun d=>match d with | .lst l=>some (.lst l.reverse) | _=>none) bx1
theorem DF {j:Nat}{q1 q2:Pos} (bo:Bool) (ha:PD X T Z e ma):PD X T Z (.Subscript e (.Slice none none (some (.UnaryOp .USub (.Constant (.int 1) j q1) q2)) p2) pos) (dRev bo ma):=by
  refine PE.imp (NL (i:=0) ha) fun σ H Q ⟨F,r,env,bx,R,h⟩=>?_
  refine ⟨F,r,env,bx,R,End.bind h fun x bx1 F1 r1 v H1 g1 R1 d1 h1=>?_⟩
  cases e1:rdW bx1 x with
  | none=>rw [e1] at h1;exact h1.elim
  | some d =>
    rw [e1] at h1
    cases d with
    | lst l =>
      obtain ⟨a,vs,rfl,k1,k2⟩:=R1.rdd d1 e1
      exact ⟨a,vs,rfl,.of k1,fun p hp=>jg R1 h1 ⟨p,_,rfl,hp,rfl,k2.reverse⟩⟩
    | _=>exact h1.elim
noncomputable def dNeg (m:DE W):DE W:=fun env bx=>fE (m env bx) fun w bx1=>match w with | .d (.int i)=>.val (.d (.int (-i))) bx1 | _=>.bad
theorem DH (ha:PD X T Z a ma):PD X T Z (.UnaryOp .USub a pos) (dNeg ma):=by
  refine PE.imp (MU Ja ha) fun σ H Q ⟨F,r,env,bx,R,h⟩=>?_
  refine ⟨F,r,env,bx,R,End.bind h fun w bx1 F1 r1 v H1 g1 R1 d1 h1=>?_⟩
  split at h1
  . rename_i i
    exact ⟨i,d1,h1 F1 r1 _ H1 (.refl F1 r1) R1 rfl⟩
  . exact h1.elim
end
end L2.DL
set_option Elab.async false
set_option linter.all false
set_option maxRecDepth 100000
set_option maxHeartbeats 4000000
namespace HT
open PySem PySem.Spec PyProof.Rows
section
variable {prog : Program} {w : World} {A : Around} {E : Value -> Shared -> Prop} {s : Shared}
theorem CI {l:Addr}{vs:List Value}{Q:List Value->Shared->Prop} (hl:IsTup s.heap l vs.toArray) (hz:vs.length <= sizeLine)
    (h:Q vs { s with heap:=(s.heap.push (seqObj "list" #[] 0)).update s.heap.objs.size (Obj.mapSeq (· ++ vs.toArray)) }):wpAny (model prog w) A (collect (.ref l)) Q E s:=by
  obtain ⟨ob,ho,hcl,k,hda⟩:=id hl
  unfold collect
  refine wpAny_bind (wpAny_runValue (codeAny_builtin entry_proto_collect' (wpAny_bind (wpAny_newList (wpAny_pure ⟨Code.quiet_builtin _ (by decide +kernel),codeAny_builtin entry_list_iadd' ?_⟩)))))
  show wpAny _ _ (Builtin.List.listExtendWith (.ref s.heap.objs.size) (.ref l) (.ref s.heap.objs.size)) _ _ { s with heap:=s.heap.push (seqObj "list" #[] 0) }
  unfold Builtin.List.listExtendWith
  have hob:(s.heap.push (seqObj "list" #[] 0)).get? l=some ob:=Heap.get?_push_of_some _ ho
  refine wpAny_bind (wpAny_typeOf (T:="tuple") ⟨ob,hob,hcl⟩ ?_)
  rw [if_pos (by rw [show (Value.type "tuple" == Value.type "tuple")=true by decide,Bool.or_true])]
  refine wpAny_bind (listItems_at hob hda (wpAny_bind (listItems_at (xs:=#[]) (n:=0) (Heap.get?_push_size _ rfl) rfl ?_)))
  rw [if_neg (by simp)]
  refine wpAny_bind (listUpdate_at (xs:=#[]) (n:=0) (Heap.get?_push_size _ rfl) rfl (wpAny_pure ?_) (Nat.zero_le _) (by show (#[] ++ vs.toArray).size <= sizeLine + 1;simp only [Array.size_append,List.size_toArray,List.length_nil];omega))
  refine wpAny_bind (wpAny_load (get?_update_seq (Heap.get?_push_size _ rfl) _) (show wpAny _ _ (pure ((#[]:Array Value) ++ vs.toArray).toList) Q E _ from ?_))
  rw [show ((#[]:Array Value) ++ vs.toArray).toList=vs by simp]
  exact wpAny_pure h
theorem AI {l:Addr}{vs:List Value}{ns:List Int}{Q:Value->Shared->Prop} (hl:IsTup s.heap l vs.toArray) (hI:IntsAre vs ns) (h64:vs.length < 64)
    (h:∀ (out:Array Value) (ns':List Int),IntsAre out.toList ns'->ns'.Perm ns->ns'.Pairwise (· <= ·)->Q (.ref (s.heap.objs.size + 1)) { s with heap:=sortedAll s.heap vs out }):wpAny (model prog w) A (call (.builtin "sorted") [.ref l]) Q E s:=by
  refine Calls.call_function_entry kind_sorted plain_sorted entry_sorted (args_sorted1 _) ?_
  unfold Builtin.«sorted»
  refine wpAny_bind (m:=checkCount "sorted" 1 1 _) (wpAny_pure (wpAny_bind (CI hl (Nat.le_trans (Nat.le_of_lt h64) (by decide)) (wpAny_bind (wpAny_newList ?_)))))
  have hsz:((s.heap.push (seqObj "list" #[] 0)).update s.heap.objs.size (Obj.mapSeq (· ++ vs.toArray))).objs.size=s.heap.objs.size + 1:=by rw [Heap.size_update,size_push']
  have hoL:(((s.heap.push (seqObj "list" #[] 0)).update s.heap.objs.size (Obj.mapSeq (· ++ vs.toArray))).push (seqObj "list" vs.toArray 0)).get? (s.heap.objs.size + 1)=some (seqObj "list" vs.toArray 0):=by rw [<-hsz];exact Heap.get?_push_size _ rfl
  show wpAny _ _ _ _ _ { s with heap:=((s.heap.push (seqObj "list" #[] 0)).update s.heap.objs.size (Obj.mapSeq (· ++ vs.toArray))).push (seqObj "list" vs.toArray 0) }
  rw [hsz]
  exact wpAny_bind (wpAny_holding (wpAny_call_entry slot_list_sort ⟨_,hoL,rfl⟩ entry_list_sort (list_sort_tree hoL hI h64 fun out ns' a1 a2 a3=>⟨_,rfl,wpAny_pure ⟨_,rfl,h out ns' a1 a2 a3⟩⟩) (args_list_sort _)))
end
end HT
namespace L2.DL
open PySem PySem.Spec PyProof.Rows
noncomputable def sortI (ns:List Int):List Int:=ns.mergeSort fun a b=>decide (a <= b)
theorem mh (ns:List Int):(sortI ns).Perm ns:=List.mergeSort_perm ns _
theorem oO (ns:List Int):(sortI ns).Pairwise (· <= ·):=by
  have h:=List.pairwise_mergeSort (le:=fun a b:Int=>decide (a <= b)) (fun a b c h1 h2=>by simp at *;omega) (fun a b=>by simp;omega) ns
  exact h.imp fun q=>by simpa using q
theorem CJ {a b:List Int} (p:a.Perm b) (ha:a.Pairwise (· <= ·)) (hb:b.Pairwise (· <= ·)):a=b :=
  p.eq_of_pairwise (fun x y _ _ h1 h2=>Int.le_antisymm h1 h2) ha hb
section
variable {X : Cx} {T : Fr} {Z : Xs} {a b c e : Expr} {es : List Expr} {ma mb mc : DE W} {pos p p2 : Pos}
noncomputable def rSort (K:PySem.W.Frag) (vs:List V) (H:Hp) (Q:VK):Prop:=∃ (p:Addr) (ns:List Int),vs=[.ref p] /\ (SqL K H p (ns.map V.int) \/ SqT K H p (ns.map V.int)) /\ ns.length < 64 /\ ∀ l,H l=none->Q (.ref l) (upd H l (.lst ((sortI ns).map V.int)))
theorem Bw:∀ {us:List Value}{ns:List Int},IntsAre us ns->Vals (ns.map V.int) us
  | _,_,.nil=>.nil
  | _,_,.cons n t h=>.cons ⟨t,rfl⟩ (Bw h)
theorem GB:CallR X (.builtin "sorted") (rSort X.K):=by
  intro pins s σ H xs us Q I rv h
  obtain ⟨p,ns,rfl,hp,h64,q⟩:=h
  obtain ⟨u,rfl,ru⟩:=Vals.one rv
  cases ru
  have fin:∀ (its:List Value) (out:Array Value) (ns':List Int),IntsAre out.toList ns'->ns'.Perm ns->ns'.Pairwise (· <= ·)->EP X pins σ Q (.ref (s.heap.objs.size + 1)) { s with heap:=sortedAll s.heap its out }:=fun its out ns' a1 a2 a3=>by
    obtain ⟨k,he⟩:=sortedAll_at s.heap its out
    have e:ns'=sortI ns:=CJ (a2.trans (mh ns).symm) a3 (oO ns)
    subst e
    have hf:H (s.heap.objs.size + 1)=none:=I.hok.fresh (Nat.le_succ _)
    have ll:((sortI ns).map V.int).length <= sizeLine:=by
      rw [List.length_map,(mh ns).length_eq];exact Nat.le_trans (Nat.le_of_lt h64) (by decide)
    refine ⟨.ref (s.heap.objs.size + 1),_,I.laid (t':=s.toks) (o:=.lst ((sortI ns).map V.int)) (fun b ob q=>sortedAll_old q) (Nat.le_succ _) ?_,rfl,q _ hf⟩
    exact ⟨ll,out.toList,k,Bw a1,he⟩
  rcases hp with hp | hp
  . obtain ⟨its,r1,p1,z1⟩:=I.list hp
    have hl:ns.length=its.length:=by have:=r1.length;simpa using this
    exact sorted_ints p1.isList (i4 r1) (by omega) fun out ns'=>fin its out ns'
  . obtain ⟨its,r1,p1,z1⟩:=I.tuple hp
    have hl:ns.length=its.length:=by have:=r1.length;simpa using this
    exact HT.AI p1 (i4 r1) (by omega) fun out ns'=>fin its out ns'
noncomputable def sortD:List D->Option Res
  | [.lst l]=>(intsOf l).bind fun ns=>if ns.length < 64 then some (.lst ((sortI ns).map D.int)) else none
  | [.tup l]=>(intsOf l).bind fun ns=>if ns.length < 64 then some (.lst ((sortI ns).map D.int)) else none
  | _=>none
theorem oP {F:Hp}:∀ (ns:List Int),DenL F (ns.map D.int) (ns.map V.int)
  | []=>rfl
  | n :: ns=>.cons rfl (oP ns)
theorem okSort {K:PySem.W.Frag}:OkN (rSort K) sortD:=by
  intro F H xs vs Q s sub rx e k
  unfold sortD at e
  split at e
  . rename_i l
    obtain ⟨v,t,rfl,⟨a,us,rfl,h1,h2⟩,rt⟩:=rx
    cases (show t=[] from rt)
    cases e1:intsOf l with
    | none=>rw [e1] at e;cases e
    | some ns =>
      rw [e1] at e
      simp only [Option.bind_some] at e
      split at e
      . rename_i h64
        cases e
        have q1:=h2.ints e1
        subst q1
        exact ⟨a,ns,rfl,.inl (.of h1),h64,fun l hl=>k _ _ ⟨l,_,rfl,hl,rfl,oP _⟩⟩
      . cases e
  . rename_i l
    obtain ⟨v,t,rfl,⟨a,us,rfl,h1,h2⟩,rt⟩:=rx
    cases (show t=[] from rt)
    cases e1:intsOf l with
    | none=>rw [e1] at e;cases e
    | some ns =>
      rw [e1] at e
      simp only [Option.bind_some] at e
      split at e
      . rename_i h64
        cases e
        have q1:=h2.ints e1
        subst q1
        exact ⟨a,ns,rfl,.inr (.of (sub _ _ h1)),h64,fun l hl=>k _ _ ⟨l,_,rfl,hl,rfl,oP _⟩⟩
      . cases e
  . cases e
noncomputable def dApp (m:DE W) (k:DE W):DE W:=fun env bx=>fE (m env bx) fun x bx1=>match x with
  | .b n=>(match bx1[n]? with
    | some (.lst _)=>fE (k env bx1) fun y bx2=>(match y,bx2[n]? with
      | .d d,some (.lst l)=>if l.length < sizeLine then .val (.d .non) (bx2.set n (.lst (l ++ [d]))) else .bad
      | _,_=>.bad)
    | _=>.bad)
  | _=>.bad
theorem OH {σ:St}{H:Hp}{Q:VK} (h:tD T Z (dApp ma mb) σ H Q):tBM X.K "list" rAppend (tD T Z ma) (tCons (tD T Z mb) tNil) σ H Q:=by
  obtain ⟨F,r,env,bx,R,h⟩:=h
  refine ⟨F,r,env,bx,R,End.bind h fun x bx1 F1 r1 v H1 g1 R1 d1 h1=>?_⟩
  cases x with
  | d _=>exact h1.elim
  | s _=>exact h1.elim
  | x _=>exact h1.elim
  | b n =>
    simp only at h1
    obtain ⟨a,rfl,ha⟩:=d1
    obtain ⟨c,hc,kc⟩:=R1.bat ha
    rw [hc] at h1
    cases c with
    | dic _=>exact h1.elim
    | dead=>exact h1.elim
    | lst l0 =>
      obtain ⟨_,vs0,k0,_⟩:=kc
      refine ⟨.inl ⟨rfl,vs0,SqL.of k0⟩,?_⟩
      refine ⟨F1,r1,env,bx1,R1,End.bind h1 fun y bx2 F2 r2 u H2 g2 R2 d2 h2=>?_⟩
      obtain ⟨t,et⟩:=g2.p
      have ha2:r2[n]?=some a:=by rw [<-et,List.getElem?_append_left (List.getElem?_eq_some_iff.mp ha).1];exact ha
      obtain ⟨c2,hc2,kc2⟩:=R2.bat ha2
      rw [hc2] at h2
      cases y with
      | b _=>exact h2.elim
      | s _=>exact h2.elim
      | x _=>exact h2.elim
      | d dd =>
        cases c2 with
        | dic _=>exact h2.elim
        | dead=>exact h2.elim
        | lst l =>
          simp only at h2
          split at h2
          . rename_i hz
            obtain ⟨hF,vs,k1,k2⟩:=kc2
            refine ⟨a,vs,u,rfl,rfl,k1,by rw [<-k2.length];exact hz,?_⟩
            exact h2 F2 r2 _ _ (.refl F2 r2) (R2.write ha2 hF ⟨hF,vs ++ [u],fY,k2.append (.cons d2 .nil)⟩) rfl
          . exact h2.elim
end
end L2.DL
set_option Elab.async false
set_option linter.all false
set_option maxRecDepth 100000
namespace L2
open PySem PySem.Spec PyProof.Rows
section
variable {κ : Type} [DecidableEq κ]
noncomputable def valV (kvs:List (κ × V)) (k:κ):Option V:=(kvs.find? fun kv=>decide (kv.1=k)).map (·.2)
noncomputable def putK (kvs:List (κ × V)) (k:κ) (v:V):List (κ × V) :=
  if (kvs.any fun kv=>decide (kv.1=k))=true then kvs.map (fun kv=>if kv.1=k then (kv.1,v) else kv) else kvs ++ [(k,v)]
theorem oQ {p:κ × V}{r:List (κ × V)}{k:κ} (e:p.1=k):valV (p :: r) k=some p.2:=by simp [valV,List.find?_cons,e]
theorem mL {p:κ × V}{r:List (κ × V)}{k:κ} (e:¬ p.1=k):valV (p :: r) k=valV r k:=by simp [valV,List.find?_cons,e]
theorem CK (k:κ):∀ kvs:List (κ × V),(kvs.any fun kv=>decide (kv.1=k))=(valV kvs k).isSome
  | []=>rfl
  | p :: r=>by
    rw [List.any_cons]
    by_cases e:p.1=k
    . simp only [oQ e,decide_eq_true e,Bool.true_or,Option.isSome_some]
    . rw [mL e,decide_eq_false e,Bool.false_or];exact CK k r
theorem lC (kvs:List (κ × V)) (k:κ) (v:V):(putK kvs k v).length <= kvs.length + 1:=by
  unfold putK
  split
  . rw [List.length_map];omega
  . rw [List.length_append,List.length_cons,List.length_nil];omega
theorem RelO.isSome_eq {o:Option V}{u:Option Value} (r:RelO o u):o.isSome=u.isSome:=by
  cases o with
  | none=>cases u with
    | none=>rfl
    | some _=>exact (show False from r).elim
  | some _=>cases u with
    | none=>exact (show False from r).elim
    | some _=>rfl
theorem KV.val {kvs:List (κ × V)}{vs:List (κ × Value)} (r:KV kvs vs) (k:κ):RelO (valV kvs k) (valueAt vs k):=by
  unfold KV at r
  induction r with
  | nil=>exact True.intro
  | @cons p q ps qs h t ih =>
    obtain ⟨h1,h2⟩:=h
    by_cases e:p.1=k
    . have e':q.1=k:=h1.symm.trans e
      have b:valueAt (q :: qs) k=some q.2:=by simp [valueAt,List.find?_cons,e']
      rw [oQ e,b];exact h2
    . have e':¬ q.1=k:=fun z=>e (h1.trans z)
      have b:valueAt (q :: qs) k=valueAt qs k:=by simp [valueAt,List.find?_cons,e']
      rw [mL e,b];exact ih
theorem KV.any {kvs:List (κ × V)}{vs:List (κ × Value)} (r:KV kvs vs) (k:κ):(kvs.any fun kv=>decide (kv.1=k))=vs.any fun kv=>decide (kv.1=k):=by
  unfold KV at r
  induction r with
  | nil=>rfl
  | cons h t ih=>rw [List.any_cons,List.any_cons,ih,h.1]
theorem KV.repl {kvs:List (κ × V)}{vs:List (κ × Value)} (r:KV kvs vs) (k:κ) {y:V}{u:Value} (ry:RelV y u) :
    KV (kvs.map fun kv=>if kv.1=k then (kv.1,y) else kv) (vs.map fun kv=>if kv.1=k then (kv.1,u) else kv):=by
  unfold KV at r ⊢
  induction r with
  | nil=>exact .nil
  | @cons p q ps qs h t ih =>
    rw [List.map_cons,List.map_cons]
    refine .cons ?_ ih
    obtain ⟨h1,h2⟩:=h
    by_cases e:p.1=k
    . rw [if_pos e,if_pos (h1.symm.trans e)];exact ⟨h1,ry⟩
    . rw [if_neg e,if_neg (fun z=>e (h1.trans z))];exact ⟨h1,h2⟩
theorem KV.put {kvs:List (κ × V)}{vs:List (κ × Value)} (r:KV kvs vs) (k:κ) {y:V}{u:Value} (ry:RelV y u):KV (putK kvs k y) (stored vs k u):=by
  unfold putK stored
  rw [r.any k]
  by_cases e:(vs.any fun kv=>decide (kv.1=k))=true
  . rw [if_pos e,if_pos e];exact r.repl k ry
  . rw [if_neg e,if_neg e];exact Paired.snoc r ⟨rfl,ry⟩
theorem KV.length {kvs:List (κ × V)}{vs:List (κ × Value)} (r:KV kvs vs):kvs.length=vs.length:=Paired.length r
end
theorem By {P:Program}{w:World}{k:Key}{u:Value} (r:RelV (kV k) u):(mixKind P w).is k u=true:=by
  cases k with
  | inl i=>obtain ⟨t,e⟩:=(show ∃ t,u=Value.int i t from r);subst e;exact Cu P w i t
  | inr x=>obtain ⟨t,e⟩:=(show ∃ t,u=Value.str x t from r);subst e;exact Cv P w x t
theorem Bz {P:Program}{w:World}:∀ {ks:List Key}{us:List Value},Vals (ks.map kV) us->ItemsAre (mixKind P w) ks us
  | [],_,r=>by rw [List.map_nil] at r;cases r;exact .nil
  | k :: ks,_,r=>by
    rw [List.map_cons] at r
    cases r with
    | cons h t=>exact .cons (By h) (Bz t)
noncomputable abbrev KT (H:Hp):List (List Key × V)->List (List Key × Addr × Value)->Prop:=Paired fun p q=>p.1=q.1 /\ H q.2.1=some (.tup (p.1.map kV)) /\ RelV p.2 q.2.2
theorem KT.val {H:Hp}{kvs:List (List Key × V)}{xs:List (List Key × Addr × Value)} (r:KT H kvs xs) (k:List Key):RelO (valV kvs k) ((atKey xs k).map (·.2)):=by
  induction r with
  | nil=>exact True.intro
  | @cons p q ps qs h t ih =>
    obtain ⟨h1,_,h2⟩:=h
    by_cases e:p.1=k
    . have e':q.1=k:=h1.symm.trans e
      have b:atKey (q :: qs) k=some q.2:=by simp [atKey,List.find?_cons,e']
      rw [oQ e,b];exact h2
    . have e':¬ q.1=k:=fun z=>e (h1.trans z)
      have b:atKey (q :: qs) k=atKey qs k:=by simp [atKey,List.find?_cons,e']
      rw [mL e,b];exact ih
theorem KT.repl {H:Hp}{kvs:List (List Key × V)}{xs:List (List Key × Addr × Value)} (r:KT H kvs xs) (k:List Key) {y:V}{u:Value} (ry:RelV y u) :
    KT H (kvs.map fun kv=>if kv.1=k then (kv.1,y) else kv) (xs.map (putAt k u)):=by
  induction r with
  | nil=>exact .nil
  | @cons p q ps qs h t ih =>
    rw [List.map_cons,List.map_cons]
    refine .cons ?_ ih
    obtain ⟨h1,h2,h3⟩:=h
    unfold putAt
    by_cases e:p.1=k
    . rw [if_pos e,if_pos (h1.symm.trans e)];exact ⟨h1,h2,ry⟩
    . rw [if_neg e,if_neg (fun z=>e (h1.trans z))];exact ⟨h1,h2,h3⟩
theorem KT.put {H:Hp}{kvs:List (List Key × V)}{xs:List (List Key × Addr × Value)} (r:KT H kvs xs) (k:List Key) {b:Addr}{y:V}{u:Value} (hb:H b=some (.tup (k.map kV))) (ry:RelV y u) :
    KT H (putK kvs k y) (storedH xs k b u):=by
  have e:(kvs.any fun kv=>decide (kv.1=k))=(atKey xs k).isSome:=by
    rw [CK,(r.val k).isSome_eq,Option.isSome_map]
  unfold putK storedH
  rw [e]
  by_cases q:(atKey xs k).isSome=true
  . rw [if_pos q,if_pos q];exact r.repl k ry
  . rw [if_neg q,if_neg q];exact Paired.snoc r ⟨rfl,hb,ry⟩
theorem KT.keeps {H H':Hp}{kvs:List (List Key × V)}{xs:List (List Key × Addr × Value)} (r:KT H kvs xs) (ht:∀ b ys,H b=some (.tup ys)->H' b=some (.tup ys)):KT H' kvs xs :=
  Paired.mapP r fun _ _ z=>⟨z.1,ht _ _ z.2.1,z.2.2⟩
section
variable {P : Program} {w : World} {H : Hp} {h : Heap} {a : Addr}
theorem MX {u:HO} (ok:HOk P w H h) (e:Rd H a u):ObjOk P w H h a u:=e.ok ok
theorem CL {kvs:List (Key × V)} (ok:HOk P w H h) (e:Rd H a (.dK kvs)):kvs.length <= sizeLine /\ (a == sysModules)=false /\ ∃ vs,KV kvs vs /\ h.DictOf (mixKind P w) a vs :=
  show ObjOk P w H h a (.dK kvs) from MX ok e
theorem JD {kvs:List (Key × V)} (ok:HOk P w H h) (e:H a=some (.dK kvs)):kvs.length <= sizeLine /\ (a == sysModules)=false /\ ∃ vs,KV kvs vs /\ h.DictOf (mixKind P w) a vs:=CL ok (.inl e)
theorem BX {ks:List Key} (ok:HOk P w H h) (e:H a=some (.tup (ks.map kV))):(tupleKind (mixKind P w)).is h ks a:=by
  obtain ⟨_,its,r,o,h1,h2,n,h3⟩:=(show ObjOk P w H h a (.tup (ks.map kV)) from ok a _ e)
  exact ⟨o,its.toArray,n,h1,h2,h3,by simpa using Bz r⟩
theorem CM {kvs:List (List Key × V)} (ok:HOk P w H h) (e:Rd H a (.dT kvs)):kvs.length <= sizeLine /\ (a == sysModules)=false /\
    ∃ xs,KT H kvs xs /\ h.DictOfH (tupleKind (mixKind P w)) a xs:=by
  obtain ⟨z,y,xs,r,o,es,ep,h1,h2,h3,h4,h5⟩:=(show ObjOk P w H h a (.dT kvs) from MX ok e)
  refine ⟨z,y,xs,r,o,es,ep,h1,h2,h3,h4,fun x hx=>?_,h5⟩
  have all:∀ {l:List (List Key × V)}{m:List (List Key × Addr × Value)},KT H l m->∀ x ∈ m,(tupleKind (mixKind P w)).is h x.1 x.2.1:=by
    intro l m q
    induction q with
    | nil=>intro x hx;exact nomatch hx
    | @cons p q ps qs hq t ih =>
      intro x hx
      rcases List.mem_cons.mp hx with e | hx
      . subst e
        exact BX ok (by rw [<-hq.1];exact hq.2.1)
      . exact ih x hx
  exact all r x hx
theorem OI {kvs:List (List Key × V)} (ok:HOk P w H h) (e:H a=some (.dT kvs)):kvs.length <= sizeLine /\ (a == sysModules)=false /\
    ∃ xs,KT H kvs xs /\ h.DictOfH (tupleKind (mixKind P w)) a xs:=CM ok (.inl e)
end
noncomputable def DGet (H:Hp) (a:Addr) (y:V) (r:Option V):Prop :=
  (∃ kvs k,Rd H a (.dK kvs) /\ y=kV k /\ r=valV kvs k) \/ ∃ kvs k b,Rd H a (.dT kvs) /\ y=.ref b /\ H b=some (.tup (k.map kV)) /\ r=valV kvs k
noncomputable def DPut (H:Hp) (a:Addr) (y v:V) (H':Hp):Prop :=
  (∃ kvs k,H a=some (.dK kvs) /\ y=kV k /\ kvs.length < sizeLine /\ H'=upd H a (.dK (putK kvs k v))) \/
  ∃ kvs k b,H a=some (.dT kvs) /\ y=.ref b /\ H b=some (.tup (k.map kV)) /\ kvs.length < sizeLine /\ H'=upd H a (.dT (putK kvs k v))
theorem DGet.k {H:Hp}{a:Addr}{kvs:List (Key × V)}{k:Key} (e:H a=some (.dK kvs)):DGet H a (kV k) (valV kvs k):=.inl ⟨kvs,k,.inl e,rfl,rfl⟩
section
variable {X : Cx} {pins : List (Addr × Obj)} {σ : St} {H : Hp} {s : Shared} {a : Addr} {y v : V} {u r : Value} {o : Option V} {A : Around} {E : Value -> Shared -> Prop}
theorem Inv.big (I:Inv X pins σ H s):sysModules < s.heap.objs.size:=by
  have h:mainGlobals < s.heap.objs.size:=(I.mod.glob.keeps I.bk).lt
  exact Nat.lt_trans (by decide) h
theorem GC {Q:Value->Shared->Prop} (hu:A.units + 1 < cLine) (I:Inv X pins σ H s) (g:DGet H a y (some v)) (ry:RelV y u) (h:∀ w' s',Inv X pins σ H s'->RelV v w'->Q w' s') :
    wpAny (model X.prog X.w) A (getItem (.ref a) u) Q E s:=by
  rcases g with ⟨kvs,k,e,ey,l⟩ | ⟨kvs,k,b,e,ey,eb,l⟩
  . subst ey
    obtain ⟨z,hd,vs,rel,dd⟩:=CL I.hok e
    obtain ⟨w',hw,rw'⟩:=RelO.some_of (v:=v) (o:=valueAt vs k) (by rw [l];exact rel.val k)
    exact wpAny_getItem_of (By ry) dd.mapOf hw (h w' _ (I.tok _) rw')
  . subst ey
    cases (show u=Value.ref b from ry)
    obtain ⟨z,hd,xs,rel,dd⟩:=CM I.hok e
    obtain ⟨w',hw,rw'⟩:=RelO.some_of (v:=v) (o:=(atKey xs k).map (·.2)) (by rw [l];exact rel.val k)
    obtain ⟨p,hp,hp2⟩:=Option.map_eq_some_iff.mp hw
    refine wpAny_getItem_heap (tupleKind_room_in1 hu) (BX I.hok eb) dd hp ?_
    rw [hp2]
    exact h w' _ (I.tok _) rw'
theorem Pe {Q:Value->Shared->Prop} (hu:A.units + 1 < cLine) (I:Inv X pins σ H s) (g:DGet H a y o) (ry:RelV y u) (h:∀ s',Inv X pins σ H s'->Q (.bool o.isSome) s') :
    wpAny (model X.prog X.w) A (compareOp .In u (.ref a)) Q E s:=by
  rcases g with ⟨kvs,k,e,ey,l⟩ | ⟨kvs,k,b,e,ey,eb,l⟩
  . subst ey
    obtain ⟨z,hd,vs,rel,dd⟩:=CL I.hok e
    refine wpAny_in_of (By ry) hd dd.mapOf ?_
    rw [<-(rel.val k).isSome_eq,<-l]
    exact h _ (I.tok _)
  . subst ey
    cases (show u=Value.ref b from ry)
    obtain ⟨z,hd,xs,rel,dd⟩:=CM I.hok e
    refine wpAny_in_heap (tupleKind_room_in1 hu) (BX I.hok eb) hd dd ?_
    have q:=(rel.val k).isSome_eq
    rw [Option.isSome_map] at q
    rw [<-q,<-l]
    exact h _ (I.tok _)
theorem Aq {h':Heap}{t':Nat}{ob:HO} (I:Inv X pins σ H s) (mu:Mut (H a)) (hs:Heap.SameBut a s.heap h') (he:∃ q,h'.get? a=some q) (new:ObjOk X.prog X.w (upd H a ob) h' a ob) :
    Inv X pins σ (upd H a ob) { s with heap:=h',toks:=t' } :=
  I.write (x:=a) (e:=a) mu (.inl rfl) (fun b q hb z=>(hs.2 b hb).trans z) he new
theorem DI {P:Program}{w:World}{H':Hp}{h':Heap}{kvs:List (Key × V)}{vs:List (Key × Value)} (z:kvs.length <= sizeLine) (hd:(a == sysModules)=false) (rel:KV kvs vs) (dd:h'.DictOf (mixKind P w) a vs) :
    ObjOk P w H' h' a (.dK kvs):=⟨z,hd,vs,rel,dd⟩
theorem GD {H':Hp}{Q:Unit->Shared->Prop} (hu:A.units + 1 < cLine) (I:Inv X pins σ H s) (g:DPut H a y v H') (ry:RelV y u) (rv:RelV v r) (h:∀ s',Inv X pins σ H' s'->Q () s') :
    wpAny (model X.prog X.w) A (setItem (.ref a) u r) Q E s:=by
  rcases g with ⟨kvs,k,e,ey,l,eH⟩ | ⟨kvs,k,b,e,ey,eb,l,eH⟩
  . subst ey eH
    obtain ⟨z,hd,vs,rel,dd⟩:=JD I.hok e
    have hz:vs.length <= sizeLine:=by rw [<-rel.length];exact z
    have hl:(putK kvs k v).length <= sizeLine:=by have:=lC kvs k v;omega
    refine wpAny_setItem_pairs (hsz:=hz) (By ry) dd fun h' dd' hs=>h _ ?_
    have he:∃ q,h'.get? a=some q:=let ⟨q,_,_,hq,_⟩:=dd';⟨q,hq⟩
    exact Aq I (by rw [e];exact True.intro) hs he (DI hl hd (rel.put k rv) dd')
  . subst ey eH
    cases (show u=Value.ref b from ry)
    obtain ⟨z,hd,xs,rel,dd⟩:=OI I.hok e
    have hz:xs.length <= sizeLine:=by rw [<-Paired.length rel];exact z
    have hl:(putK kvs k v).length <= sizeLine:=by have:=lC kvs k v;omega
    refine wpAny_setItem_heap (hsz:=hz) (tupleKind_room_in1 hu) (BX I.hok eb) dd fun h' dd' hs=>h _ ?_
    obtain ⟨q,es,ep,hq,h2,h3,h4,_,h5⟩:=dd'
    refine Aq I (by rw [e];exact True.intro) hs ⟨q,hq⟩ ⟨hl,hd,_,(rel.put k eb rv).keeps fun c ys ec=>?_,q,es,ep,hq,h2,h3,h4,h5⟩
    rw [fX (Oo ec e (fun z=>nomatch z))]
    exact ec
end
section
variable {X : Cx} {pins : List (Addr × Obj)} {σ : St} {H : Hp} {s : Shared} {a : Addr} {kvs : List (Key × V)} {k : Key} {u : Value} {A : Around} {E : Value -> Shared -> Prop}
end
noncomputable def NoSl (i:Expr):Prop:=∀ ov iv,subscripted i false ov iv=operate [ov,iv] (getItem ov iv)
theorem Md {prog:Program}{w:World}{A:Around}{E:Value->Shared->Prop}{s:Shared}{env:Env}{value slice:Expr}{pos:Pos}{T id:String}{Q:Value->Shared->Prop}
    (hl:typeLookup (.type T) "__getitem__"=pure (some (.builtin id))) (hs:NoSl slice)
    (h:wpAny (model prog w) A (eval value env) (fun o s₁=>wpAny (model prog w) A (eval slice env) (fun i s₂=>s₂.TypeIs o T /\ wpAny (model prog w) A (getItem o i) Q E s₂) E s₁) E s) :
    wpAny (model prog w) A (eval (.Subscript value slice pos) env) Q E s:=by
  refine Subscript_ (wpAny_mono h (fun o s₁ h₁=>wpAny_mono h₁ (fun i s₂ h₂=>?_) fun _ _ x=>x) fun _ _ x=>x)
  obtain ⟨hT,h₂⟩:=h₂
  unfold subscriptTail
  refine wpAny_bind ?_
  rw [getitemInPython_of_ne hT.not_modules]
  refine wpAny_bind (wpAny_specialOf hT hl ?_)
  have fin:wpAny (model prog w) A (subscripted slice false o i) (fun r s₃=>wpAny (model prog w) A (letTemporaryGo value o r >>= fun _=>pure r) Q E s₃) E s₂:=by
    rw [hs o i]
    exact wpAny_operating (wpAny_mono h₂ (fun r s₃ h₃=>wpAny_bind (wpAny_letTemporaryGo (wpAny_pure h₃))) fun _ _ x=>x)
  first
    | exact wpAny_pure (wpAny_bind fin)
    | exact wpAny_bind (wpAny_pure (wpAny_bind fin))
    | exact wpAny_bind fin
theorem CN {X:Cx}{pins:List (Addr × Obj)}{σ:St}{H:Hp}{s:Shared}{a:Addr}{y:V}{o:Option V} (I:Inv X pins σ H s) (g:DGet H a y o):s.TypeIs (.ref a) "dict":=by
  rcases g with ⟨kvs,k,e,_,_⟩ | ⟨kvs,k,b,e,_,_,_⟩
  . obtain ⟨_,_,vs,_,dd⟩:=CL I.hok e
    exact dd.typeIs
  . obtain ⟨_,_,xs,_,dd⟩:=CM I.hok e
    exact dd.typeIs
noncomputable def tDGet (td ty:TE):TE:=fun σ H Q=>td σ H fun x H1=>ty σ H1 fun y H2=>∃ a v,x=.ref a /\ DGet H2 a y (some v) /\ Q v H2
noncomputable def tDIn (ty td:TE):TE:=fun σ H Q=>ty σ H fun y H1=>td σ H1 fun x H2=>∃ a o,x=.ref a /\ DGet H2 a y o /\ Q (.bl o.isSome) H2
noncomputable def sDPut (td ty tv:TE):TS:=fun D σ H=>tv σ H fun v H1=>td σ H1 fun x H2=>ty σ H2 fun y H3=>∃ a H4,x=.ref a /\ DPut H3 a y v H4 /\ D.nx σ H4
section
variable {X : Cx} {o i e value : Expr} {pos pos' tpos : Pos} {td ty tv : TE}
theorem Me (hu:X.A.units + 1 < cLine) (ho:PE X o td) (hi:PE X i ty) (hs:NoSl i):PE X (.Subscript o i pos) (tDGet td ty):=by
  intro pins s σ H Q I h
  refine Md PySem.F.slot_dict_getitem.lookup hs (thn (ho pins s σ H _ I h) fun u s1 ⟨x,H1,I1,rx,q1⟩=>thn (hi pins s1 σ H1 _ I1 q1) fun iv s2 ⟨y,H2,I2,ry,a,v,ex,g,q2⟩=>?_)
  subst ex
  obtain rfl:u=Value.ref a:=rx
  exact ⟨CN I2 g,GC hu I2 g ry fun w' s3 I3 rw'=>⟨v,H2,I3,rw',q2⟩⟩
theorem NM (hu:X.A.units + 1 < cLine) (hi:PE X i ty) (ho:PE X o td):PC X .In i o (tDIn ty td):=by
  intro pins s σ H Q I h
  refine thn (hi pins s σ H _ I h) fun iv s1 ⟨y,H1,I1,ry,q1⟩=>thn (ho pins s1 σ H1 _ I1 q1) fun u s2 ⟨x,H2,I2,rx,a,ov,ex,g,q2⟩=>?_
  subst ex
  obtain rfl:u=Value.ref a:=rx
  exact Pe hu I2 g ry fun s3 I3=>⟨.bl ov.isSome,H2,I3,rfl,q2⟩
theorem Mf (hu:X.A.units + 1 < cLine) (ho:PE X o td) (hi:PE X i ty) (hv:PE X value tv) (hs:swapsWith value (some (.Subscript o i pos')) pos.line X.env=pure false) :
    PS X (.Assign [.Subscript o i pos'] value pos) (sDPut td ty tv):=by
  intro pins s σ H D I h
  refine wpAny_Assign_Subscript (thn (hv pins s σ H _ I h) fun r s1 ⟨v,H1,I1,rv,q1⟩=>thn (ho pins s1 σ H1 _ I1 q1) fun u s2 ⟨x,H2,I2,rx,q2⟩=>thn (hi pins s2 σ H2 _ I2 q2) fun iv s3 ⟨y,H3,I3,ry,a,H4,ex,g,q3⟩=>?_) hs
  subst ex
  obtain rfl:u=Value.ref a:=rx
  exact GD hu I3 g ry rv fun s4 I4=>⟨σ,H4,I4,q3⟩
end
theorem CO {P:Program}{w:World}{H:Hp} (h:Heap) (hb:sysModules < h.objs.size):ObjOk P w H (h.push { cls:=.type "dict",data:=.dict #[] }) h.objs.size (.dK []) :=
  ⟨Nat.zero_le _,beq_eq_false_iff_ne.mpr (Ne.symm (Nat.ne_of_lt hb)),[],.nil,Heap.DictOf.new h⟩
noncomputable def tDNewK:TE:=fun _ H Q=>∀ p,H p=none->Q (.ref p) (upd H p (.dK []))
section
variable {X : Cx} {pos : Pos}
theorem JE:PE X (.Dict [] [] pos) tDNewK:=fun pins s σ H Q I h =>
  wpAny_Dict_empty ⟨.ref s.heap.objs.size,_,I.laid (a:=s.heap.objs.size) (o:=.dK []) (t':=s.toks) (fun _ _ q=>Heap.get?_push_of_some _ q) (Nat.le_refl _) (CO s.heap I.big),rfl,h _ (I.hok.fresh (Nat.le_refl _))⟩
end
noncomputable def tPairs:List (TE × TE)->St->Hp->(List (V × V)->Hp->Prop)->Prop
  | [],_,H,Q=>Q [] H
  | (tk,tv) :: r,σ,H,Q=>tk σ H fun x H1=>tv σ H1 fun y H2=>tPairs r σ H2 fun ps H3=>Q ((x,y) :: ps) H3
noncomputable abbrev VV:List (V × V)->List (Value × Value)->Prop:=Paired fun p q=>RelV p.1 q.1 /\ RelV p.2 q.2
noncomputable def PPs (X:Cx) (pos:Pos) (keys:List (Option Expr)) (values:List Expr) (trs:List (TE × TE)):Prop :=
  ∀ (pins:List (Addr × Obj)) (s:Shared) (σ:St) (H:Hp) (Q:List (V × V)->Hp->Prop),Inv X pins σ H s->tPairs trs σ H Q ->
    wpAny (model X.prog X.w) X.A (evalPairs (pairTrees keys values X.env pos)) (fun vs s'=>∃ ps H',Inv X pins σ H' s' /\ VV ps vs /\ Q ps H') X.xe s
theorem FE {X:Cx}{pos:Pos}:PPs X pos [] [] []:=fun pins s σ H Q I h=>pairTrees_nil_walk ⟨[],H,I,.nil,h⟩
theorem CP {X:Cx}{pos:Pos}{k v:Expr}{ks:List (Option Expr)}{vs:List Expr}{tk tv:TE}{trs:List (TE × TE)} (hk:PE X k tk) (hv:PE X v tv) (hr:PPs X pos ks vs trs) :
    PPs X pos (some k :: ks) (v :: vs) ((tk,tv) :: trs):=fun pins s σ H Q I h =>
  pairTrees_cons_walk (thn (hk pins s σ H _ I h) fun u s1 ⟨x,H1,I1,rx,q1⟩=>thn (hv pins s1 σ H1 _ I1 q1) fun w2 s2 ⟨y,H2,I2,ry,q2⟩ =>
    thn (hr pins s2 σ H2 _ I2 q2) fun ws s3 ⟨ps,H3,I3,rel,q3⟩=>⟨(x,y) :: ps,H3,I3,.cons ⟨rx,ry⟩ rel,q3⟩)
noncomputable def mergeK (kvs more:List (Key × V)):List (Key × V):=more.foldl (fun acc kv=>putK acc kv.1 kv.2) kvs
theorem KV.merge:∀ {more:List (Key × V)}{rs:List (Key × Value)}{kvs:List (Key × V)}{vs:List (Key × Value)},KV more rs->KV kvs vs->KV (mergeK kvs more) (merged vs rs):=by
  intro more rs kvs vs r
  unfold KV at r
  induction r generalizing kvs vs with
  | nil=>intro q;exact q
  | @cons p q ps qs h t ih =>
    intro r0
    have e:KV (putK kvs p.1 p.2) (stored vs q.1 q.2):=by
      have:=r0.put p.1 h.2
      rw [<-h.1];exact this
    exact ih e
theorem oj:∀ (more kvs:List (Key × V)),(mergeK kvs more).length <= kvs.length + more.length
  | [],kvs=>by show kvs.length <= kvs.length + 0;omega
  | p :: r,kvs=>by
    have h1:=oj r (putK kvs p.1 p.2)
    have h2:=lC kvs p.1 p.2
    show (mergeK (putK kvs p.1 p.2) r).length <= _
    rw [List.length_cons];omega
theorem AJ {P:Program}{w:World}:∀ {kvs:List (Key × V)}{ws:List (Value × Value)},VV (kvs.map fun kv=>(kV kv.1,kv.2)) ws->∃ rs,Carries (mixKind P w) ws rs /\ KV kvs rs
  | [],_,r=>by rw [List.map_nil] at r;cases r;exact ⟨[],True.intro,.nil⟩
  | p :: kvs,_,r=>by
    rw [List.map_cons] at r
    cases r with
    | @cons a b as bs h t =>
      obtain ⟨rs,c,q⟩:=AJ (P:=P) (w:=w) t
      obtain ⟨b1,b2⟩:=b
      exact ⟨(p.1,b2) :: rs,⟨By h.1,rfl,c⟩,.cons ⟨rfl,h.2⟩ q⟩
noncomputable def tDisp (trs:List (TE × TE)):TE:=fun σ H Q=>∀ p,H p=none->tPairs trs σ (upd H p (.dK [])) fun ps H2=>H2 p=some (.dK []) /\ ∃ kvs:List (Key × V),ps=kvs.map (fun kv=>(kV kv.1,kv.2)) /\ kvs.length <= 15 /\ Q (.ref p) (upd H2 p (.dK (mergeK [] kvs)))
theorem FF {X:Cx}{pos:Pos}{keys:List (Option Expr)}{values:List Expr}{trs:List (TE × TE)} (h:PPs X pos keys values trs) (hall:keys.all (·.isSome)=true) (hl:keys.length=values.length) (h0:keys ≠ [])
    (h15:keys.length <= 15):PE X (.Dict keys values pos) (tDisp trs):=by
  intro pins s σ H Q I q
  have hn:=I.hok.fresh (Nat.le_refl s.heap.objs.size)
  have I1:=I.laid (a:=s.heap.objs.size) (o:=.dK []) (h':=s.heap.push { cls:=.type "dict",data:=.dict #[] }) (t':=s.toks) (fun _ _ q=>Heap.get?_push_of_some _ q) (Nat.le_refl _) (CO s.heap I.big)
  refine wpAny_Dict_walk (knd:=mixKind X.prog X.w) hall hl h0 h15 (thn (h pins _ σ _ _ I1 (q _ hn)) fun ws s2 ⟨ps,H2,I2,rel,e,kvs,ep,lk,q2⟩=>?_)
  subst ep
  obtain ⟨rs,c,rk⟩:=AJ (P:=X.prog) (w:=X.w) rel
  obtain ⟨z,hd,vs0,r0,dd⟩:=JD I2.hok e
  cases r0
  refine ⟨rs,c,dd,fun h' dd' hs=>⟨.ref s.heap.objs.size,_,?_,rfl,q2⟩⟩
  have hz:(mergeK [] kvs).length <= sizeLine:=by
    have h1:=oj kvs []
    rw [List.length_nil] at h1
    rw [sizeLine_eq];omega
  have he:∃ q,h'.get? s.heap.objs.size=some q:=let ⟨q,_,_,hq,_⟩:=dd';⟨q,hq⟩
  exact Aq I2 (by rw [e];exact True.intro) hs he (DI hz hd (rk.merge .nil) dd')
structure M1 (X:Cx) (o:Expr) (m:Str) (apos:Pos) (e:Expr) (cpos:Pos):Prop where
  base:attributeBase o m X.env (eval o X.env)=eval o X.env
  few:((backTo cpos (starEach [e] X.env)).all (fun x=>!x.1) && (backToKw cpos (keywordEach [] X.env)).all (fun x=>x.1.isSome)
    && decide (([e]:List Expr).length + ([]:List Keyword).length + (if ([]:List Keyword).isEmpty then 0 else 1) < 30))=true
  line:(apos.endLine == cpos.line)=true
  trees:backTo cpos (starEach [e] X.env)=[(false,eval e X.env)]
structure M2 (X:Cx) (o:Expr) (m:Str) (apos:Pos) (e f:Expr) (cpos:Pos):Prop where
  base:attributeBase o m X.env (eval o X.env)=eval o X.env
  few:((backTo cpos (starEach [e,f] X.env)).all (fun x=>!x.1) && (backToKw cpos (keywordEach [] X.env)).all (fun x=>x.1.isSome)
    && decide (([e,f]:List Expr).length + ([]:List Keyword).length + (if ([]:List Keyword).isEmpty then 0 else 1) < 30))=true
  line:(apos.endLine == cpos.line)=true
  trees:backTo cpos (starEach [e,f] X.env)=[(false,eval e X.env),(false,eval f X.env)]
noncomputable def IsD (H:Hp) (a:Addr):Prop:=(∃ kvs,Rd H a (.dK kvs)) \/ ∃ kvs,Rd H a (.dT kvs)
theorem NO {X:Cx}{pins:List (Addr × Obj)}{σ:St}{H:Hp}{s:Shared}{a:Addr} (I:Inv X pins σ H s) (d:IsD H a) :
    s.TypeIs (.ref a) "dict" /\ (∀ b,Value.ref a=.ref b->∃ ob,s.heap.get? b=some ob /\ ob.dict=none) /\ (a == sysModules)=false:=by
  rcases d with ⟨kvs,e⟩ | ⟨kvs,e⟩
  . obtain ⟨_,hd,vs,_,dd⟩:=CL I.hok e
    refine ⟨dd.typeIs,fun b q=>?_,hd⟩
    cases q
    obtain ⟨ob,_,_,h1,h2,_⟩:=dd
    exact ⟨ob,h1,h2.2.1⟩
  . obtain ⟨_,hd,xs,_,dd⟩:=CM I.hok e
    refine ⟨dd.typeIs,fun b q=>?_,hd⟩
    cases q
    obtain ⟨ob,_,_,h1,h2,_⟩:=dd
    exact ⟨ob,h1,h2.2.1⟩
section
variable {X : Cx} {pins : List (Addr × Obj)} {σ : St} {H : Hp} {s : Shared} {a : Addr} {y d : V} {u r : Value} {o : Option V} {A : Around} {E : Value -> Shared -> Prop}
end
section
variable {X : Cx} {o e f : Expr} {apos cpos : Pos} {td ty tx : TE}
end
section
variable {X : Cx} {pins : List (Addr × Obj)} {σ : St} {H : Hp} {s : Shared} {a : Addr} {kvs : List (Key × V)} {A : Around} {E : Value -> Shared -> Prop}
end
section
variable {X : Cx} {pins : List (Addr × Obj)} {σ : St} {H : Hp} {s : Shared} {a : Addr} {y : V} {u : Value} {A : Around} {E : Value -> Shared -> Prop}
end
end L2
set_option Elab.async false
set_option linter.all false
set_option maxRecDepth 100000
set_option maxHeartbeats 4000000
namespace L2.DL
open PySem PySem.Spec PyProof.Rows
noncomputable def keyP:Key->PyData
  | .inl i=>.int i
  | .inr x=>.str x
mutual
noncomputable def toPy:D->PyData
  | .non=>.none
  | .bl b=>.bool b
  | .int i=>.int i
  | .str x=>.str x
  | .tup l=>.tuple (toPys l)
  | .lst l=>.list (toPys l)
  | .dic l=>.dict (toPyK l)
noncomputable def toPys:List D->List PyData
  | []=>[]
  | d :: l=>toPy d :: toPys l
noncomputable def toPyK:List (Key × D)->List (PyData × PyData)
  | []=>[]
  | (k,d) :: l=>(keyP k,toPy d) :: toPyK l
end
section
variable {X : Cx} {pins : List (Addr × Obj)} {σ : St} {F H : Hp} {s : Shared}
theorem BA {h:Heap}:∀ {es:List DictEntry}{vs:List (Key × Value)}{l:List (Key × D)}{kvs:List (Key × V)},PySem.Pairs (mixKind X.prog X.w) es vs->KV kvs vs->DenK F l kvs->ReadsAll h (es.map (·.key)) ((toPyK l).map (·.1)) []
  | _,_,[],_,p,k,d=>by
    cases (show _=[] from d)
    cases k
    cases p
    exact .nil
  | _,_,(k,x) :: l,_,p,q,d=>by
    obtain ⟨v,r,e,_,d2⟩:=d
    subst e
    cases q with
    | cons q1 q2 =>
      cases p with
      | @cons de _ _ _ p1 p2 p3 =>
        have ih:=BA (h:=h) p3 q2 d2
        have e1:=q1.1
        simp only at e1
        rw [<-e1] at p1
        have hk:Reads h de.key (keyP k) []:=by
          rcases gD (show keyIs k de.key=true from p1) with ⟨i,t,e2,e3⟩ | ⟨y,t,e2,e3⟩
          . rw [e2,e3];exact .int i t
          . rw [e2,e3];exact .str y t
        exact ReadsAll.cons hk ih
mutual
theorem i6 (I:Inv X pins σ H s) (sub:Sub F H):∀ {d:D}{v:V}{u:Value},Den F d v->RelV v u->∃ as,Reads s.heap u (toPy d) as
  | .non,_,_,h,r=>by cases (show _=V.non from h);cases r;exact ⟨[],.none⟩
  | .bl b,_,_,h,r=>by cases (show _=V.bl b from h);cases r;exact ⟨[],.bool b⟩
  | .int i,_,_,h,r=>by cases (show _=V.int i from h);obtain ⟨t,rfl⟩:=r;exact ⟨[],.int i t⟩
  | .str x,_,_,h,r=>by cases (show _=V.str x from h);obtain ⟨t,rfl⟩:=r;exact ⟨[],.str x t⟩
  | .tup l,_,_,h,r=>by
    obtain ⟨a,vs,rfl,h1,h2⟩:=h
    cases r
    obtain ⟨_,its,rv,ob,e1,e2,n,e3⟩:=(show ObjOk X.prog X.w H s.heap a (.tup vs) from I.hok a _ (sub _ _ h1))
    obtain ⟨as,ra⟩:=oy I sub h2 rv
    exact ⟨as,.tuple e1 e2 e3 (by simpa using ra)⟩
  | .lst l,_,_,h,r=>by
    obtain ⟨a,vs,rfl,h1,h2⟩:=h
    cases r
    obtain ⟨_,its,n,rv,e1⟩:=(show ObjOk X.prog X.w H s.heap a (.lst vs) from I.hok a _ (sub _ _ h1))
    obtain ⟨as,ra⟩:=oy I sub h2 rv
    exact ⟨a :: as,.list e1 rfl rfl (by simpa using ra)⟩
  | .dic l,_,_,h,r=>by
    obtain ⟨a,kvs,rfl,h1,h2⟩:=h
    cases r
    obtain ⟨_,_,vs,rk,ob,es,ep,e1,e2,e3,_,pr,_⟩:=(show ObjOk X.prog X.w H s.heap a (.dK kvs) from I.hok a _ (sub _ _ h1))
    obtain ⟨as,ra⟩:=AK I sub h2 rk pr
    exact ⟨a :: [] ++ as,.dict e1 e2.1 e3 (BA (X:=X) pr rk h2) ra⟩
theorem oy (I:Inv X pins σ H s) (sub:Sub F H):∀ {l:List D}{vs:List V}{us:List Value},DenL F l vs->Vals vs us->∃ as,ReadsAll s.heap us (toPys l) as
  | [],_,_,h,r=>by cases (show _=[] from h);cases r;exact ⟨[],.nil⟩
  | d :: l,_,_,h,r=>by
    obtain ⟨v,t,e,h1,h2⟩:=h
    subst e
    cases r with
    | cons r1 r2 =>
      obtain ⟨as,ra⟩:=i6 I sub h1 r1
      obtain ⟨bs,rb⟩:=oy I sub h2 r2
      exact ⟨as ++ bs,.cons ra rb⟩
theorem AK (I:Inv X pins σ H s) (sub:Sub F H):∀ {l:List (Key × D)}{kvs:List (Key × V)}{vs:List (Key × Value)}{es:List DictEntry},DenK F l kvs->KV kvs vs->PySem.Pairs (mixKind X.prog X.w) es vs->∃ as,ReadsAll s.heap (es.map (·.val)) ((toPyK l).map (·.2)) as
  | [],_,_,_,h,r,p=>by cases (show _=[] from h);cases r;cases p;exact ⟨[],.nil⟩
  | (k,d) :: l,_,_,_,h,r,p=>by
    obtain ⟨v,t,e,h1,h2⟩:=h
    subst e
    cases r with
    | cons r1 r2 =>
      cases p with
      | cons p1 p2 p3 =>
        obtain ⟨as,ra⟩:=i6 I sub h1 r1.2
        obtain ⟨bs,rb⟩:=AK I sub h2 r2 p3
        rw [<-p2] at ra
        exact ⟨as ++ bs,.cons ra rb⟩
end
noncomputable abbrev Fit (ts:List Str):Prop:=∀ t ∈ ts,t.length <= sizeLine
theorem JF {h:Heap}{k:Key}{y:Value} (e:keyIs k y=true) (hs:(keyP k).showable=true) (hz:(keyP k).shown.length <= sizeLine) (n:Nat):ReprK X.prog X.w [] h n y (keyP k).shown:=by
  rcases gD e with ⟨i,t,e2,e3⟩ | ⟨x,t,e2,e3⟩
  . subst e2;subst e3
    exact .of_is (ReprIs.int t (by simpa [keyP,PyData.showable] using hs)) _ _ _
  . subst e2;subst e3
    exact .of_is (ReprIs.str x t (by simpa only [keyP,PyData.shown] using hz)) _ _ _
theorem oY {h:Heap}{n:Nat}:∀ {es:List DictEntry}{vs:List (Key × Value)}{l:List (Key × D)}{kvs:List (Key × V)},PySem.Pairs (mixKind X.prog X.w) es vs->KV kvs vs->DenK F l kvs->PyData.showableKv (toPyK l)=true->Fit (PyData.shownKv (toPyK l)) ->
    ReprAllK X.prog X.w [] h n (es.map (·.key)) (PyData.shownAll ((toPyK l).map (·.1)))
  | _,_,[],_,p,k,d,_,_=>by
    cases (show _=[] from d)
    cases k
    cases p
    exact .nil
  | _,_,(k,x) :: l,_,p,q,d,hs,hz=>by
    obtain ⟨v,r,e,_,d2⟩:=d
    subst e
    simp only [toPyK,PyData.showableKv,Bool.and_eq_true] at hs
    simp only [toPyK,PyData.shownKv] at hz
    have z1:=hz _ (List.mem_cons_self ..)
    rw [strLen_append,strLen_append] at z1
    cases q with
    | cons q1 q2 =>
      cases p with
      | @cons de _ _ _ p1 p2 p3 =>
        have e1:=q1.1
        simp only at e1
        rw [<-e1] at p1
        simp only [toPyK,List.map_cons,PyData.shownAll]
        exact .cons (JF (show keyIs k de.key=true from p1) hs.1.1 (by omega) n) (oY p3 q2 d2 hs.2 fun t m=>hz t (List.mem_cons_of_mem _ m))
mutual
theorem CQ (I:Inv X pins σ H s) (sub:Sub F H):∀ {d:D}{v:V}{u:Value},Den F d v->RelV v u->(toPy d).showable=true->(toPy d).shown.length <= sizeLine->∃ bs,ReadAtMost s.heap (toPy d).depth bs /\ ReprK X.prog X.w bs s.heap (toPy d).depth u (toPy d).shown
  | .non,_,_,h,r,_,_=>by cases (show _=V.non from h);cases r;exact ⟨[],(fun _ z=>nomatch z),.of_is ReprIs.none _ _ _⟩
  | .bl b,_,_,h,r,_,_=>by cases (show _=V.bl b from h);cases r;exact ⟨[],(fun _ z=>nomatch z),.of_is (ReprIs.bool b) _ _ _⟩
  | .int i,_,_,h,r,hs,_=>by cases (show _=V.int i from h);obtain ⟨t,rfl⟩:=r;exact ⟨[],(fun _ z=>nomatch z),.of_is (ReprIs.int t (of_decide_eq_true hs)) _ _ _⟩
  | .str x,_,_,h,r,_,hz=>by cases (show _=V.str x from h);obtain ⟨t,rfl⟩:=r;exact ⟨[],(fun _ z=>nomatch z),.of_is (ReprIs.str x t hz) _ _ _⟩
  | .tup l,_,_,h,r,hs,hz=>by
    obtain ⟨as,rd⟩:=i6 I sub h r
    obtain ⟨a,vs,rfl,h1,h2⟩:=h
    cases r
    obtain ⟨_,its,rv,ob,e1,e2,n,e3⟩:=(show ObjOk X.prog X.w H s.heap a (.tup vs) from I.hok a _ (sub _ _ h1))
    have hz':(tupleText (PyData.shownAll (toPys l))).length <= sizeLine:=by simpa only [toPy,PyData.shown] using hz
    obtain ⟨bs,hb,hk⟩:=lN I sub h2 rv (by simpa [toPy,PyData.showable] using hs) fun t m=>Nat.le_trans (tupleText_mem_le m) hz'
    simp only [toPy,PyData.depth,PyData.shown] at rd ⊢
    exact ⟨a :: bs,ReadAtMost.cons rd (Nat.le_succ _) hb,ReprK.tuple e1 e2 e3 (not_mem_of_deeper rd (Nat.lt_succ_self _) hb) (by simpa using hk)⟩
  | .lst l,_,_,h,r,hs,hz=>by
    obtain ⟨as,rd⟩:=i6 I sub h r
    obtain ⟨a,vs,rfl,h1,h2⟩:=h
    cases r
    obtain ⟨_,its,n,rv,e1⟩:=(show ObjOk X.prog X.w H s.heap a (.lst vs) from I.hok a _ (sub _ _ h1))
    have hz':(listText (PyData.shownAll (toPys l))).length <= sizeLine:=by simpa only [toPy,PyData.shown] using hz
    obtain ⟨bs,hb,hk⟩:=lN I sub h2 rv (by simpa [toPy,PyData.showable] using hs) fun t m=>Nat.le_trans (listText_mem_le m) hz'
    simp only [toPy,PyData.depth,PyData.shown] at rd ⊢
    refine ⟨a :: bs,ReadAtMost.cons rd (Nat.le_succ _) hb,?_⟩
    cases its with
    | nil =>
      have e:toPys l=[]:=by
        cases l with
        | nil=>rfl
        | cons x l=>obtain ⟨v,t,e,_⟩:=h2;subst e;cases rv
      rw [e]
      simp only [PyData.shownAll,listText_nil]
      exact ReprK.listEmpty e1 rfl rfl
    | cons x its=>exact ReprK.list e1 rfl rfl (not_mem_of_deeper rd (Nat.lt_succ_self _) hb) (by simpa using hk.length_eq) fun i y q=>hk.item i y (by simpa using q)
  | .dic l,_,_,h,r,hs,hz=>by
    obtain ⟨as,rd⟩:=i6 I sub h r
    obtain ⟨a,kvs,rfl,h1,h2⟩:=h
    cases r
    obtain ⟨_,hy,vs,rk,ob,es,ep,e1,e2,e3,_,pr,_⟩:=(show ObjOk X.prog X.w H s.heap a (.dK kvs) from I.hok a _ (sub _ _ h1))
    have hz':(dictText (PyData.shownKv (toPyK l))).length <= sizeLine:=by simpa only [toPy,PyData.shown] using hz
    have fit:Fit (PyData.shownKv (toPyK l)):=fun t m=>Nat.le_trans (dictText_mem_le m) hz'
    have hs':PyData.showableKv (toPyK l)=true:=by simpa [toPy,PyData.showable] using hs
    obtain ⟨bs,hb,hk⟩:=oZ I sub h2 rk pr hs' fit
    have hK:=oY (X:=X) (h:=s.heap) (n:=PyData.depthKv (toPyK l)) pr rk h2 hs' fit
    simp only [toPy,PyData.depth,PyData.shown] at rd ⊢
    rw [PyData.shownKv_eq]
    exact ⟨a :: bs,ReadAtMost.cons rd (Nat.le_succ _) hb,ReprK.dict e1 e2.1 e3 hy (not_mem_of_deeper rd (Nat.lt_succ_self _) hb) (ReprEntriesK.of_two _ _ _ (hK.more_le (fun _ z=>by cases z) (Nat.le_refl _)) hk)⟩
theorem lN (I:Inv X pins σ H s) (sub:Sub F H):∀ {l:List D}{vs:List V}{us:List Value},DenL F l vs->Vals vs us->PyData.showableAll (toPys l)=true->Fit (PyData.shownAll (toPys l))->∃ bs,ReadAtMost s.heap (PyData.depthAll (toPys l)) bs /\ ReprAllK X.prog X.w bs s.heap (PyData.depthAll (toPys l)) us (PyData.shownAll (toPys l))
  | [],_,_,h,r,_,_=>by cases (show _=[] from h);cases r;exact ⟨[],(fun _ z=>nomatch z),.nil⟩
  | d :: l,_,_,h,r,hs,hz=>by
    obtain ⟨v,t,e,h1,h2⟩:=h
    subst e
    simp only [toPys,PyData.showableAll,Bool.and_eq_true] at hs
    simp only [toPys,PyData.shownAll] at hz
    cases r with
    | cons r1 r2 =>
      obtain ⟨as,ha,ka⟩:=CQ I sub h1 r1 hs.1 (hz _ (List.mem_cons_self ..))
      obtain ⟨bs,hb,kb⟩:=lN I sub h2 r2 hs.2 fun t m=>hz t (List.mem_cons_of_mem _ m)
      simp only [toPys,PyData.depthAll,PyData.shownAll]
      have la:=Nat.le_max_left (toPy d).depth (PyData.depthAll (toPys l))
      have lb:=Nat.le_max_right (toPy d).depth (PyData.depthAll (toPys l))
      exact ⟨as ++ bs,(ha.mono la).append (hb.mono lb),.cons ((ka.more fun _ m=>List.mem_append_left _ m).level_le la) (kb.more_le (fun _ m=>List.mem_append_right _ m) lb)⟩
theorem oZ (I:Inv X pins σ H s) (sub:Sub F H):∀ {l:List (Key × D)}{kvs:List (Key × V)}{vs:List (Key × Value)}{es:List DictEntry},DenK F l kvs->KV kvs vs->PySem.Pairs (mixKind X.prog X.w) es vs->PyData.showableKv (toPyK l)=true->Fit (PyData.shownKv (toPyK l)) ->
    ∃ bs,ReadAtMost s.heap (PyData.depthKv (toPyK l)) bs /\ ReprAllK X.prog X.w bs s.heap (PyData.depthKv (toPyK l)) (es.map (·.val)) (PyData.shownAll ((toPyK l).map (·.2)))
  | [],_,_,_,h,r,p,_,_=>by cases (show _=[] from h);cases r;cases p;exact ⟨[],(fun _ z=>nomatch z),.nil⟩
  | (k,d) :: l,_,_,_,h,r,p,hs,hz=>by
    obtain ⟨v,t,e,h1,h2⟩:=h
    subst e
    simp only [toPyK,PyData.showableKv,Bool.and_eq_true] at hs
    simp only [toPyK,PyData.shownKv] at hz
    have z1:=hz _ (List.mem_cons_self ..)
    rw [strLen_append,strLen_append] at z1
    cases r with
    | cons r1 r2 =>
      cases p with
      | cons p1 p2 p3 =>
        obtain ⟨as,ha,ka⟩:=CQ I sub h1 r1.2 hs.1.2 (by omega)
        obtain ⟨bs,hb,kb⟩:=oZ I sub h2 r2 p3 hs.2 fun t m=>hz t (List.mem_cons_of_mem _ m)
        rw [<-p2] at ka
        simp only [toPyK,PyData.depthKv,List.map_cons,PyData.shownAll]
        have la:(toPy d).depth <= max (max (keyP k).depth (toPy d).depth) (PyData.depthKv (toPyK l)):=by omega
        have lb:PyData.depthKv (toPyK l) <= max (max (keyP k).depth (toPy d).depth) (PyData.depthKv (toPyK l)):=by omega
        exact ⟨as ++ bs,(ha.mono la).append (hb.mono lb),.cons ((ka.more fun _ m=>List.mem_append_left _ m).level_le la) (kb.more_le (fun _ m=>List.mem_append_right _ m) lb)⟩
end
end
section
variable {X : Cx} {T : Fr} {Z : Xs} {a b c e : Expr} {es : List Expr} {ma mb mc : DE W} {pos p p2 : Pos}
noncomputable def rRepr (vs:List V) (H:Hp) (Q:VK):Prop:=∃ (F:Hp) (d:D) (v:V),vs=[v] /\ Sub F H /\ Den F d v /\ (toPy d).showable=true /\ (toPy d).depth <= 60 /\ (toPy d).shown.length <= sizeLine /\ Q (.str (toPy d).shown) H
theorem GE {k:Nat} (hr:Room k X.A):CallR X (.builtin "repr") rRepr:=by
  intro pins s σ H xs us Q I rv h
  obtain ⟨F,d,v,rfl,sub,hd,h1,h2,h3,q⟩:=h
  obtain ⟨u,rfl,ru⟩:=Vals.one rv
  have fin:∀ (t:Tok) (tk:Nat),EP X pins σ Q (.str (toPy d).shown t) { s with toks:=tk }:=fun t tk=>⟨.str _,H,I.tok tk,⟨t,rfl⟩,q⟩
  have end':∀ (t':Str),t'=(toPy d).shown->∀ h' u tk,(∀ b o,s.heap.get? b=some o->h'.get? b=some o)->∃ x t,Value.str t' u=.str x t /\ EP X pins σ Q (.str t' u) { s with heap:=h',toks:=tk }:=fun t' et h' t tk hk=>by
    subst et
    exact ⟨_,_,rfl,.str _,H,I.kept (t':=tk) hk,⟨t,rfl⟩,q⟩
  have hu:=hr.units
  cases d with
  | non=>cases (show v=.non from hd);cases ru;exact P.repr_of_none (fin _ _)
  | bl b=>cases (show v=.bl b from hd);cases ru;exact P.repr_of_bool (fin _ _)
  | int i=>cases (show v=.int i from hd);obtain ⟨t,rfl⟩:=ru;exact P.repr_of_int (of_decide_eq_true h1) (fin _ _)
  | str x=>cases (show v=.str x from hd);obtain ⟨t,rfl⟩:=ru;exact P.repr_of_str (hsz:=h3) (fin _ _)
  | tup l =>
    obtain ⟨as,rd⟩:=i6 I sub hd ru
    obtain ⟨a,vs,rfl,k1,k2⟩:=hd
    cases ru
    obtain ⟨_,its,rv,ob,e1,e2,n,e3⟩:=(show ObjOk X.prog X.w H s.heap a (.tup vs) from I.hok a _ (sub _ _ k1))
    have hz':(tupleText (PyData.shownAll (toPys l))).length <= sizeLine:=by simpa only [toPy,PyData.shown] using h3
    obtain ⟨bs,hb,hk⟩:=lN I sub k2 rv (by simpa [toPy,PyData.showable] using h1) fun t m=>Nat.le_trans (tupleText_mem_le m) hz'
    simp only [toPy,PyData.depth] at rd h2
    exact call_repr_slot (by omega) ⟨ob,e1,e2⟩ PySem.F.slot_tuple_repr (call_tuple_reprK e1 e2 e3 (not_mem_of_deeper rd (Nat.lt_succ_self _) hb) (by simpa using hk) hr.gd (fun b _=>Clear.nil b) (by show X.A.units + 1 + _ < cLine;omega) (fun _ _ z=>z) (end' _ (by simp only [toPy,PyData.shown])) hz')
  | lst l =>
    obtain ⟨as,rd⟩:=i6 I sub hd ru
    obtain ⟨a,vs,rfl,k1,k2⟩:=hd
    cases ru
    obtain ⟨_,its,n,rv,e1⟩:=(show ObjOk X.prog X.w H s.heap a (.lst vs) from I.hok a _ (sub _ _ k1))
    have hz':(listText (PyData.shownAll (toPys l))).length <= sizeLine:=by simpa only [toPy,PyData.shown] using h3
    obtain ⟨bs,hb,hk⟩:=lN I sub k2 rv (by simpa [toPy,PyData.showable] using h1) fun t m=>Nat.le_trans (listText_mem_le m) hz'
    simp only [toPy,PyData.depth] at rd h2
    refine call_repr_slot (by omega) ⟨_,e1,rfl⟩ PySem.F.slot_list_repr.toG ?_
    cases its with
    | nil =>
      have e:toPys l=[]:=by
        cases l with
        | nil=>rfl
        | cons x l=>obtain ⟨v,t,e,_⟩:=k2;subst e;cases rv
      exact call_list_repr_empty ⟨_,e1,rfl⟩ e1 rfl (end' "[]" (by simp only [toPy,PyData.shown,e,PyData.shownAll,listText_nil]) s.heap _ _ fun _ _ z=>z)
    | cons x its=>exact call_list_reprK e1 rfl rfl (not_mem_of_deeper rd (Nat.lt_succ_self _) hb) (by simpa using hk.length_eq) (fun i y q=>hk.item i y (by simpa using q)) hr.gd (fun b _=>Clear.nil b) (by show X.A.units + 1 + _ < cLine;omega) (fun _ _ z=>z) (end' _ (by simp only [toPy,PyData.shown])) hz'
  | dic l =>
    obtain ⟨as,rd⟩:=i6 I sub hd ru
    obtain ⟨a,kvs,rfl,k1,k2⟩:=hd
    cases ru
    obtain ⟨_,hy,vs,rk,ob,es,ep,e1,e2,e3,_,pr,_⟩:=(show ObjOk X.prog X.w H s.heap a (.dK kvs) from I.hok a _ (sub _ _ k1))
    have hz':(dictText (PyData.shownKv (toPyK l))).length <= sizeLine:=by simpa only [toPy,PyData.shown] using h3
    have fit:Fit (PyData.shownKv (toPyK l)):=fun t m=>Nat.le_trans (dictText_mem_le m) hz'
    have hs':PyData.showableKv (toPyK l)=true:=by simpa [toPy,PyData.showable] using h1
    obtain ⟨bs,hb,hk⟩:=oZ I sub k2 rk pr hs' fit
    have hK:=oY (X:=X) (h:=s.heap) (n:=PyData.depthKv (toPyK l)) pr rk k2 hs' fit
    simp only [toPy,PyData.depth] at rd h2
    rw [PyData.shownKv_eq] at hz'
    exact call_repr_slot (by omega) ⟨ob,e1,e2.1⟩ PySem.F.slot_dict_repr (call_dict_reprK e1 e2.1 e3 hy (not_mem_of_deeper rd (Nat.lt_succ_self _) hb) (ReprEntriesK.of_two _ _ _ (hK.more_le (fun _ z=>by cases z) (Nat.le_refl _)) hk) hr.gd (fun b _=>Clear.nil b) (by show X.A.units + 1 + _ < cLine;omega) (fun _ _ z=>z) (end' _ (by simp only [toPy,PyData.shown,PyData.shownKv_eq])) hz')
noncomputable def canShow (d:D):Bool:=(toPy d).showable && decide ((toPy d).depth <= 60) && decide ((toPy d).shown.length <= sizeLine)
noncomputable def dRepr (m:DE W):DE W:=fun env bx=>fE (m env bx) fun w bx1=>match w with
  | .d d=>if canShow d=true then .val (.d (.str (toPy d).shown)) bx1 else .bad
  | _=>.bad
theorem Ar {k:Nat} (hr:Room k X.A) (hg:Gl X "repr") (hm:X.mg "repr"=none) (ha:PD X T Z a ma) (he:starEach [a] X.env=(false,eval a X.env) :: starEach [] X.env:=by rfl) :
    PD X T Z (.Call (.Name "repr" p) [a] [] pos) (dRepr ma):=by
  refine PE.imp (oH (GE hr) hg hm (by decide +kernel) (lB ha oo he) (by decide) (by decide) he (by rfl)) fun σ H Q ⟨F,r,env,bx,R,h⟩=>?_
  refine ⟨F,r,env,bx,R,End.bind h fun w bx1 F1 r1 v H1 g1 R1 d1 h1=>?_⟩
  cases w with
  | b _=>exact h1.elim
  | s _=>exact h1.elim
  | x _=>exact h1.elim
  | d d =>
    simp only at h1
    split at h1
    . rename_i hc
      unfold canShow at hc
      rw [Bool.and_eq_true,Bool.and_eq_true] at hc
      exact ⟨F1,d,v,rfl,R1.fh,d1,hc.1.1,of_decide_eq_true hc.1.2,of_decide_eq_true hc.2,h1 F1 r1 _ H1 (.refl F1 r1) R1 rfl⟩
    . exact h1.elim
end
end L2.DL
set_option Elab.async false
set_option linter.all false
set_option maxRecDepth 100000
set_option maxHeartbeats 4000000
namespace HT
open PySem PySem.Spec PyProof.Rows
noncomputable def lexLe:List Int->List Int->Bool
  | [],_=>true
  | _ :: _,[]=>false
  | x :: xs,y :: ys=>if x=y then lexLe xs ys else decide (x <= y)
theorem JG (A:Around) (s:Shared) (a:Int) (t:Tok) (c:Int) (u:Tok) (prog:Program) (w:World) (E:Value->Shared->Prop) (Q:Value->Shared->Prop) (h:Q (.bool (decide (a <= c))) s) :
    wpAny (model prog w) A (richCompare .LtE (.int a t) (.int c u)) Q E s:=(PyProof.Rows.le_int h:wpAny (model prog w) A (compareOp .LtE (.int a t) (.int c u)) Q E s)
section
open PySem.SeqAt
open PySem.AutoSeq1 (wpAny_loadPart')
open PySem.MeetsSeq PySem.MeetsSeq2 PySem.MeetsSeq3
theorem Bc (l b:Addr) (items items2:Array Value) (n n2:Nat) (dd dd2:Option Addr) (sl sl2:Array (Option Value)) (ns ms:List Int) (hi:IntsAre items.toList ns) (hj:IntsAre items2.toList ms) :
    Meets (Builtin.«tuple.__le__» ⟨[.ref l,.ref b],[]⟩)
      (fun _ R s=>s.heap.get? l=some { cls:=.type "tuple",dict:=dd,data:=.seq items n,slots:=sl } /\ s.heap.get? b=some { cls:=.type "tuple",dict:=dd2,data:=.seq items2 n2,slots:=sl2 } /\
        R (.ok (.ret (.bool (lexLe ns ms)))) s) :=
  .of_wp fun prog w A R s h=>by
    obtain ⟨hp,g,d,tk,os⟩:=s;obtain ⟨hl,hb,h⟩:=h
    have f2:=AutoSeq1.sub_tuple_tuple
    have z1:items.size=ns.length:=by rw [<-hi.length];simp
    have z2:items2.size=ms.length:=by rw [<-hj.length];simp
    wp_walk using wpAny_loadPart' hl,wpAny_loadPart' hb,wpAny_forIn_list _ (fun rest b s'=>b.1=none /\ s'=⟨hp,g,d,tk,os⟩ /\ ∃ (vs ws:List Value) (ns' ms':List Int),rest=vs.zip ws /\
      IntsAre vs ns' /\ IntsAre ws ms' /\ ns'.length + items2.size=ms'.length + items.size /\ R (.ok (.ret (.bool (lexLe ns' ms')))) ⟨hp,g,d,tk,os⟩) _
    case turn =>
      rintro ⟨y,x⟩ rest b s' ⟨hb',rfl,vs,ws,ns',ms',hz,hvi,hwi,hlen,hR⟩
      cases hvi with
      | nil=>rw [List.zip_nil_left] at hz;cases hz
      | cons a t hvi' =>
        cases hwi with
        | nil=>rw [List.zip_nil_right] at hz;cases hz
        | cons c u hwi' =>
          rw [List.zip_cons_cons] at hz
          injection hz with hyx hrest
          injection hyx with hy hx
          subst hy hx
          rw [show lexLe (a :: _) (c :: _)=if a=c then lexLe _ _ else decide (a <= c) from rfl] at hR
          simp only [List.length_cons] at hlen
          obtain ⟨e,he,hiff⟩:=CA A.in1 ⟨hp,g,d,tk,os⟩ a t c u
          refine wpAny_bind (he prog w _ _ ?_)
          cases e with
          | true =>
            rw [if_pos (hiff.mp rfl)] at hR
            wp_walk
            exact ⟨rfl,rfl,_,_,_,_,hrest,hvi',hwi',by omega,hR⟩
          | false =>
            rw [if_neg (fun q=>absurd (hiff.mpr q) Bool.false_ne_true)] at hR
            have hri:=JG A.in1 ⟨hp,g,d,tk,os⟩ a t c u prog w
            wp_walk using hri
            exact ⟨_,rfl,by simpa using hR⟩
    case fin =>
      rintro ⟨b1,b2⟩ s' ⟨hb',rfl,vs,ws,ns',ms',hz,hvi,hwi,hlen,hR⟩
      simp only at hb'
      subst hb'
      have hv:lexLe ns' ms'=decide (items.size <= items2.size):=by
        cases hvi with
        | nil =>
          rw [show lexLe [] ms'=true by cases ms' <;> rfl]
          simp only [List.length_nil] at hlen
          exact (decide_eq_true (by omega)).symm
        | cons a t hv =>
          cases hwi with
          | nil =>
            simp only [List.length_nil,List.length_cons] at hlen
            exact (decide_eq_false (by omega)).symm
          | cons c u hw =>
            rw [List.zip_cons_cons] at hz
            cases hz
      rw [hv] at hR
      wp_walk
      exact ⟨_,rfl,by simpa [Builtin.Tuple.tupleCompareSizes] using hR⟩
    case h =>
      exact ⟨rfl,rfl,items.toList,items2.toList,ns,ms,rfl,hi,hj,by omega,h⟩
end
section
variable {prog : Program} {w : World} {A : Around} {E : Value -> Shared -> Prop} {s : Shared}
theorem DJ {l b:Addr}{items items2:Array Value}{ns ms:List Int}{Q:Value->Shared->Prop} (hl:IsTup s.heap l items) (hb:IsTup s.heap b items2) (hi:IntsAre items.toList ns) (hj:IntsAre items2.toList ms)
    (hu:A.units < cLine) (h:Q (.bool (lexLe ns ms)) s):wpAny (model prog w) A (compareOp .LtE (.ref l) (.ref b)) Q E s:=by
  obtain ⟨⟨cls,dd,data,sl⟩,ho,hc,n,hd⟩:=id hl
  obtain ⟨⟨cls2,dd2,data2,sl2⟩,ho2,hc2,n2,hd2⟩:=id hb
  simp only at hc hd hc2 hd2
  subst hc hd hc2 hd2
  exact richCompare_meets_room (op:=.LtE) ⟨_,ho,rfl⟩ ⟨_,ho2,rfl⟩ PySem.F.slot_tuple_le PySem.F.entry_tuple_le (PySem.F.args_tuple_le_2 _ _) (Bc l b items items2 n n2 dd dd2 sl sl2 ns ms hi hj)
    ⟨ho,ho2,show Value.bool (lexLe ns ms) ≠ Value.notImplemented /\ Q (.bool (lexLe ns ms)) s from ⟨(fun x=>nomatch x),h⟩⟩ hu
theorem o6:fillsNumberSlot (.type "tuple") "mul"=pure false :=
  PySem.fillsNumberSlot_seq (id:="tuple.__mul__") (r:=some (.builtin "tuple.__rmul__")) F.slot_tuple_mul.lookup (by decide +kernel) F.slot_tuple_rmul.lookup (by decide +kernel)
theorem BY:seqRepeat? (.type "tuple")=pure (some (.builtin "tuple.__mul__")):=by
  unfold seqRepeat?
  rw [PySem.seqSlot_of (T:="tuple") (name:="__mul__") (id:="tuple.__mul__") F.slot_tuple_mul.lookup (by decide +kernel),PySem.seqSlot_of (T:="tuple") (name:="__rmul__") (id:="tuple.__rmul__") F.slot_tuple_rmul.lookup (by decide +kernel)]
  rfl
open PySem.AutoSeq1 (wpAny_loadPart')
theorem AL (a:Int) (t:Tok) (l:Addr) (items:Array Value) (n:Nat) (dd:Option Addr) (sl:Array (Option Value)) :
    Meets (Builtin.«int.__rmul__» ⟨[.int a t,.ref l],[]⟩) (fun _ R s=>s.heap.get? l=some { cls:=.type "tuple",dict:=dd,data:=.seq items n,slots:=sl } /\ R (.ok (.ret Value.notImplemented)) s) :=
  .of_wp fun prog w A R s h=>by obtain ⟨hp,g,d,tk,os⟩:=s;obtain ⟨hl,h⟩:=h;wp_walk;exact ⟨_,rfl,h⟩
theorem DK (l:Addr) (items:Array Value) (n:Nat) (x:Int) (u:Tok) (dd:Option Addr) (sl:Array (Option Value)) (h2:2 <= x) (h63:x < 2 ^ 63) (hne:items.isEmpty=false) (hsz:items.size * x.toNat <= sizeLine) :
    Meets (Builtin.«tuple.__mul__» ⟨[.ref l,.int x u],[]⟩) (fun _ R s=>s.heap.get? l=some { cls:=.type "tuple",dict:=dd,data:=.seq items n,slots:=sl } /\
      R (.ok (.ret (Value.ref s.heap.objs.size))) { s with heap:=s.heap.push { cls:=Value.type "tuple",data:=Data.seq (List.foldl (fun x1 x2=>x1 ++ x2) #[] (List.replicate x.toNat items)) },toks:=s.toks }) :=
  .of_wp fun prog w A R s h=>by
    obtain ⟨hp,g,d,tk,os⟩:=s;obtain ⟨hl,h⟩:=h
    have f1:=AutoSeq1.idx_int
    have c1:(decide (x < -2 ^ 63) || decide (x >= 2 ^ 63))=false:=by rw [Bool.or_eq_false_iff];exact ⟨decide_eq_false (by omega),decide_eq_false (by omega)⟩
    have c2:(items.isEmpty || x == 1)=false:=by rw [hne,Bool.false_or];exact beq_eq_false_iff_ne.mpr (by omega)
    have c3:(decide (x <= 0) || items.isEmpty)=false:=by rw [hne,Bool.or_false];exact decide_eq_false (by omega)
    have hx:(items.size:Int) * x=((items.size * x.toNat:Nat):Int):=by rw [Int.natCast_mul,Int.toNat_of_nonneg (by omega)]
    have c4:¬ ((items.size:Int) * x > (2 ^ 63 - 1) / 8):=by
      rw [hx]
      have:(sizeLine:Nat)=16777216:=sizeLine_eq
      omega
    have c5:Builtin.Tuple.tupleTooMany ((items.size:Int) * x)=false:=by
      unfold Builtin.Tuple.tupleTooMany
      rw [hx]
      exact decide_eq_false (by omega)
    have fl:(List.foldl (fun x1 x2=>x1 ++ x2) #[] (List.replicate x.toNat items)).size <= sizeLine:=by
      have q:=L2.mX items.toList x.toNat []
      rw [show items.toList.toArray=items by simp,show ([]:List Value).toArray=#[] from rfl] at q
      rw [q,List.size_toArray,List.nil_append,L2.BT]
      simp only [Array.length_toList]
      rw [Nat.mul_comm];exact hsz
    wp_walk using wpAny_loadPart' hl
    refine wpAny_ite_false (decide_eq_false (by rw [c1];decide)) ?_
    wp_walk using wpAny_loadPart' hl
    refine wpAny_ite_false (decide_eq_false (by rw [c2];decide)) ?_
    refine wpAny_ite_false (decide_eq_false (by rw [c3];decide)) ?_
    refine wpAny_ite_false (decide_eq_false c4) ?_
    refine wpAny_ite_false (decide_eq_false (by rw [c5];decide)) ?_
    exact wpAny_bind (m:=Builtin.Tuple.tupleExact _) (wpAny_newObj_type (wpAny_pure ⟨_,rfl,h⟩) fl)
end
end HT
set_option Elab.async false
set_option linter.all false
set_option maxRecDepth 100000
set_option maxHeartbeats 4000000
namespace L2.DL
open PySem PySem.Spec PyProof.Rows
section
variable {X : Cx} {T : Fr} {Z : Xs} {a b c e : Expr} {es : List Expr} {ma mb mc : DE W} {pos p p2 : Pos}
noncomputable def rMulT (K:PySem.W.Frag):R2:=fun x y H Q=>∃ (l:Addr) (k:Int) (xs:List V),x=.ref l /\ y=.int k /\ SqT K H l xs /\ xs ≠ [] /\ 2 <= k /\ k < 2 ^ 63 /\ xs.length * k.toNat <= sizeLine /\
  ∀ p,H p=none->Q (.ref p) (upd H p (.tup (List.replicate k.toNat xs).flatten))
theorem Mg:OpR X (binaryOp .Mult) (rMulT X.K):=by
  intro pins s σ H x y v u Q I rx ry h
  obtain ⟨l,k,xs,rfl,rfl,hH,hne,h1,h2,hz,q⟩:=h
  cases rx
  obtain ⟨t,rfl⟩:=ry
  obtain ⟨its,r,p1,z⟩:=I.tuple hH
  have hl:=r.length
  have hlen:its.toArray.size * k.toNat <= sizeLine:=by rw [List.size_toArray,<-hl];exact hz
  have hem:its.toArray.isEmpty=false:=by
    cases its with
    | nil=>exact absurd (r.nil_iff.mp rfl) hne
    | cons _ _=>simp
  obtain ⟨⟨cls,dd,data,sl⟩,ho,hc,n,hd⟩:=id p1
  simp only at hc hd
  subst hc hd
  refine wpAny_binaryOp_repeat_ref (T:="tuple") (U:="int") (by decide) ⟨_,ho,rfl⟩ (fun s'=>typeIs_int s' k t) HT.o6 F.fills_int_mul F.slot_int_rmul HT.BY F.slot_int_index.lookup
    (call_meets F.slot_int_rmul (typeIs_int s k t) F.entry_int_rmul (F.args_int_rmul_2 _ _) (HT.AL k t l its.toArray n dd sl)
      ⟨ho,rfl,⟨_,ho,rfl⟩,call_meets F.slot_tuple_mul ⟨_,ho,rfl⟩ F.entry_tuple_mul (F.args_tuple_mul_2 _ _) (HT.DK l its.toArray n k t dd sl h1 h2 hem hlen) ⟨ho,?_⟩⟩)
  have f0:=mX its k.toNat []
  rw [List.nil_append] at f0
  rw [show (List.foldl (fun x1 x2=>x1 ++ x2) #[] (List.replicate k.toNat its.toArray))=(List.replicate k.toNat its).flatten.toArray from f0]
  refine ⟨.ref s.heap.objs.size,_,I.laid (t':=s.toks) (o:=.tup (List.replicate k.toNat xs).flatten) (fun b ob q=>Heap.get?_push_of_some _ q) (Nat.le_refl _) ?_,rfl,q _ (I.hok.fresh (Nat.le_refl _))⟩
  exact ⟨by rw [BT,Nat.mul_comm];exact hz,_,r.rep k.toNat,IsTup.new _ _⟩
noncomputable def rMul (K:PySem.W.Frag):R2:=fun x y H Q=>rI CMul (fun i j=>.int (i * j)) x y H Q \/ rMulT K x y H Q \/ rRep x y H Q
theorem mj:OpR X (binaryOp .Mult) (rMul X.K):=Np.or (Mg.or NA)
noncomputable def mulD:D->D->Option Res
  | .int i,.int j=>if CMul i j then some (.old (.int (i * j))) else none
  | .tup l,.int k=>if l.isEmpty=false /\ 2 <= k /\ k < 2 ^ 63 /\ l.length * k.toNat <= sizeLine then some (.tup (List.replicate k.toNat l).flatten) else none
  | .lst l,.int k=>if -(2 ^ 63) <= k /\ k < 2 ^ 63 /\ l.length * k.toNat <= sizeLine then some (.lst (List.replicate k.toNat l).flatten) else none
  | _,_=>none
theorem DenL.rep {F:Hp}{l:List D}{vs:List V} (h:DenL F l vs):∀ k:Nat,DenL F (List.replicate k l).flatten (List.replicate k vs).flatten
  | 0=>rfl
  | k + 1=>by
    rw [List.replicate_succ,List.replicate_succ,List.flatten_cons,List.flatten_cons]
    exact h.append (h.rep k)
theorem okMul {K:PySem.W.Frag}:Ok2 (rMul K) mulD:=by
  intro F H x y v w Q s sub rx ry e k
  unfold mulD at e
  split at e
  . rename_i i j
    split at e
    . rename_i hc
      cases e
      exact .inl ⟨i,j,rx,ry,hc,k _ _ ⟨rfl,rfl⟩⟩
    . cases e
  . rename_i l j
    split at e
    . rename_i hc
      cases e
      obtain ⟨a,vs,rfl,h1,h2⟩:=rx
      refine .inr (.inl ⟨a,j,vs,rfl,ry,.of (sub _ _ h1),fun z=>?_,hc.2.1,hc.2.2.1,by rw [<-h2.length];exact hc.2.2.2,fun p hp=>k _ _ (.inr ⟨p,_,rfl,hp,rfl,h2.rep _⟩)⟩)
      have:=h2.eq_nil.mp z
      rw [this] at hc
      exact absurd hc.1 (by simp)
    . cases e
  . rename_i l j
    split at e
    . rename_i hc
      cases e
      obtain ⟨a,vs,rfl,h1,h2⟩:=rx
      exact .inr (.inr ⟨a,j,vs,rfl,ry,h1,hc.1,hc.2.1,by rw [<-h2.length];exact hc.2.2,fun p hp=>k _ _ ⟨p,_,rfl,hp,rfl,h2.rep _⟩⟩)
    . cases e
  . cases e
noncomputable def rLeT (K:PySem.W.Frag):R2:=fun x y H Q=>∃ (a b:Addr) (ns ms:List Int),x=.ref a /\ y=.ref b /\ SqT K H a (ns.map V.int) /\ SqT K H b (ms.map V.int) /\ Q (.bl (HT.lexLe ns ms)) H
theorem NP (hu:X.A.units < cLine):OpR X (compareOp .LtE) (rLeT X.K):=by
  intro pins s σ H x y v u Q I rx ry h
  obtain ⟨a,b,ns,ms,rfl,rfl,ha,hb,q⟩:=h
  cases rx;cases ry
  obtain ⟨its,r1,p1,_⟩:=I.tuple ha
  obtain ⟨its2,r2,p2,_⟩:=I.tuple hb
  exact HT.DJ p1 p2 (i4 r1) (i4 r2) hu ⟨.bl (HT.lexLe ns ms),H,I,rfl,q⟩
theorem mM (hu:X.A.units < cLine):OpR X (compareOp .LtE) (fun x y H Q=>rI0 (fun i j=>.bl (decide (i <= j))) x y H Q \/ rLeT X.K x y H Q):=Ox.or (NP hu)
noncomputable def leD:D->D->Option Res
  | .int i,.int j=>some (.old (.bl (decide (i <= j))))
  | .tup a,.tup b=>(intsOf a).bind fun ns=>(intsOf b).map fun ms=>.old (.bl (HT.lexLe ns ms))
  | _,_=>none
theorem okLe {K:PySem.W.Frag}:Ok2 (fun x y H Q=>rI0 (fun i j=>.bl (decide (i <= j))) x y H Q \/ rLeT K x y H Q) leD:=by
  intro F H x y v w Q s sub rx ry e k
  unfold leD at e
  split at e
  . rename_i i j
    cases e
    exact .inl ⟨i,j,rx,ry,k _ _ ⟨rfl,rfl⟩⟩
  . rename_i l l'
    cases e1:intsOf l with
    | none=>rw [e1] at e;cases e
    | some ns =>
      cases e2:intsOf l' with
      | none=>rw [e1,e2] at e;cases e
      | some ms =>
        rw [e1,e2] at e
        cases e
        obtain ⟨a,vs,rfl,h1,h2⟩:=rx
        obtain ⟨b,ws,rfl,h3,h4⟩:=ry
        have q1:=h2.ints e1
        have q2:=h4.ints e2
        subst q1 q2
        exact .inr ⟨a,b,ns,ms,rfl,rfl,.of (sub _ _ h1),.of (sub _ _ h3),k _ _ ⟨rfl,rfl⟩⟩
  . cases e
theorem mY {o:Expr}{apos:Pos} (ho:PD X T Z o ma) (ha:PD X T Z e mb)
    (hbase:attributeBase o "append" X.env (eval o X.env)=eval o X.env:=by rfl)
    (hfew:((backTo pos (starEach [e] X.env)).all (fun x=>!x.1) && (backToKw pos (keywordEach [] X.env)).all (fun x=>x.1.isSome)
      && decide ([e].length + ([]:List Keyword).length + (if ([]:List Keyword).isEmpty then 0 else 1) < 30))=true:=by rfl)
    (hline:(apos.endLine == pos.line)=true:=by rfl) (hs:starEach [e] X.env=(false,eval e X.env) :: starEach [] X.env:=by rfl) :
    PD X T Z (.Call (.Attribute o "append" apos) [e] [] pos) (dApp ma mb) :=
  PE.imp (Jl PySem.F.plainAttrs_list PySem.F.slot_list_append PySem.F.type_list_append Bt ho (lB ha oo hs) hbase hfew hline hs (by rfl)) fun σ H Q h=>OH h
noncomputable def gdSub (mo mi:DE W):DG:=fun w env bx=>match mo env bx with
  | .val (.b n) bx1=>(match mi env bx1 with
    | .val (.d (.int k)) bx2=>(match w,bx2[n]? with
      | .d d,some (.lst l)=>(ixN l.length k).map fun j=>(env,bx2.set n (.lst (l.set j d)))
      | _,_=>none)
    | _=>none)
  | _=>none
theorem FG {o i:Expr}{mo mi:DE W} (ho:PD X T Z o mo) (hi:PD X T Z i mi)
    (ha:∀ v,assign (.Subscript o i pos) X.env v=(do
      let ov <-holding [v] (eval o X.env)
      let iv <-holding [v,ov] (eval i X.env)
      standAt pos
      holding [v,ov,iv] (setItem ov iv v)
      release [v,ov,iv] []):=by intro _;rfl):PGD X T (.Subscript o i pos) (gdSub mo mi):=by
  refine PG.imp (Nk ho hi Ji ha) fun v σ H Q ⟨F,r,env,bx,w,R,dw,h⟩=>?_
  unfold gdSub at h
  refine ⟨F,r,env,bx,R,?_⟩
  cases eo:mo env bx with
  | bad=>simp only [eo] at h;exact h.elim
  | exc c bx1=>simp only [eo] at h;exact h.elim
  | val ow bx1 =>
    simp only [eo] at h
    intro F1 r1 ov H1 g1 R1 d1
    cases ow with
    | d _=>exact h.elim
    | s _=>exact h.elim
    | x _=>exact h.elim
    | b n =>
      simp only at h
      refine ⟨F1,r1,env,bx1,R1,?_⟩
      cases ei:mi env bx1 with
      | bad=>simp only [ei] at h;exact h.elim
      | exc c bx2=>simp only [ei] at h;exact h.elim
      | val iw bx2 =>
        simp only [ei] at h
        intro F2 r2 iv H2 g2 R2 d2
        cases iw with
        | b _=>exact h.elim
        | s _=>exact h.elim
        | x _=>exact h.elim
        | d id =>
          cases id with
          | int k =>
            simp only at h
            obtain ⟨a,rfl,ha⟩:=g2.den d1
            obtain ⟨c2,hc2,kc2⟩:=R2.bat ha
            rw [hc2] at h
            cases w with
            | b _=>exact h.elim
            | s _=>exact h.elim
            | x _=>exact h.elim
            | d dd =>
              cases c2 with
              | dic _=>exact h.elim
              | dead=>exact h.elim
              | lst l =>
                simp only at h
                cases ej:ixN l.length k with
                | none=>rw [ej] at h;exact h.elim
                | some j =>
                  rw [ej] at h
                  obtain ⟨hF,vs,k1,k2⟩:=kc2
                  refine ⟨a,vs,k,j,rfl,d2,k1,by rw [<-k2.length];exact ej,?_⟩
                  have dw2:Den F2 dd v:=Den.mono (g1.trans g2).s dd dw
                  exact h F2 r2 σ _ (g1.trans g2) (R2.write ha hF ⟨hF,_,fY,DenL.set dw2 j k2⟩)
          | _=>exact h.elim
noncomputable def dFrz (i:Nat):DE W:=fun env bx=>match env[i]? with
  | some (some (.b n))=>(match bx[n]? with
    | some (.lst l)=>.val (.d (.lst l)) (bx.set n .dead)
    | some (.dic l)=>.val (.d (.dic l)) (bx.set n .dead)
    | _=>.bad)
  | _=>.bad
theorem NQ (i:Nat) {x:Str} (hN:X.N[i]?=some x:=by rfl) (hv:Vis X.env.scope x:=by first | exact Or.inl rfl | exact Or.inr (Or.inl rfl) | exact Or.inr (Or.inr rfl)) (hd:(x == ("__debug__":Str))=false:=by decide)
    (hcd:(x == ("__classdict__":Str))=false:=by decide):PD X T Z (.Name x pos) (dFrz i):=by
  refine PE.imp (Ds hN hv hd hcd) fun σ H Q ⟨F,r,env,bx,R,h⟩=>?_
  unfold dFrz at h
  split at h
  . rename_i n e
    obtain ⟨v,e1,a,rfl,ha⟩:=R.slot i _ e
    obtain ⟨c,hc,kc⟩:=R.bat ha
    rw [hc] at h
    cases c with
    | dead=>exact h.elim
    | lst l =>
      obtain ⟨hF,vs,k1,k2⟩:=kc
      obtain ⟨R',g⟩:=R.freeze ha hF k1
      exact ⟨_,e1,h _ r _ H g R' ⟨a,vs,rfl,fY,DenL.mono g.s l k2⟩⟩
    | dic l =>
      obtain ⟨hF,vs,k1,k2⟩:=kc
      obtain ⟨R',g⟩:=R.freeze ha hF k1
      exact ⟨_,e1,h _ r _ H g R' ⟨a,vs,rfl,fY,DenK.mono g.s l k2⟩⟩
  . exact h.elim
noncomputable def dLenS (m:DE W):DE W:=fun env bx=>fE (m env bx) fun w bx1=>match w with | .s l=>.val (.d (.int l.length)) bx1 | _=>.bad
theorem FH (hg:Gl X "len") (hm:X.mg "len"=none) (ha:PD X T Z a ma) (he:starEach [a] X.env=(false,eval a X.env) :: starEach [] X.env:=by rfl):PD X T Z (.Call (.Name "len" p) [a] [] pos) (dLenS ma):=by
  refine PE.imp (oH gc hg hm PySem.boot_len (lB ha oo he) (by decide) (by decide) he (by rfl)) fun σ H Q ⟨F,r,env,bx,R,h⟩=>?_
  refine ⟨F,r,env,bx,R,End.bind h fun w bx1 F1 r1 v H1 g1 R1 d1 h1=>?_⟩
  cases w with
  | b _=>exact h1.elim
  | d _=>exact h1.elim
  | x _=>exact h1.elim
  | s l =>
    obtain ⟨q,o,rfl,k⟩:=d1
    refine ⟨q,_,rfl,.inl (.inl (.inr ⟨o,R1.fh _ _ k⟩)),?_⟩
    rw [List.length_map]
    exact h1 F1 r1 _ H1 (.refl F1 r1) R1 rfl
noncomputable def dIxS (m k:DE W):DE W:=fun env bx=>fE (m env bx) fun w bx1=>fE (k env bx1) fun u bx2=>match w,u with
  | .s l,.d (.int i)=>(match atI l i with | some n=>.val (.d (.int n)) bx2 | none=>.bad)
  | _,_=>.bad
theorem NR (ha:PD X T Z a ma) (hb:PD X T Z b mb) (hs:PlainIx b):PD X T Z (.Subscript a b pos) (dIxS ma mb):=by
  refine PE.imp (MV FA ha hb hs) fun σ H Q ⟨F,r,env,bx,R,h⟩=>?_
  refine ⟨F,r,env,bx,R,End.bind h fun w bx1 F1 r1 v H1 g1 R1 d1 h1=>?_⟩
  refine ⟨F1,r1,env,bx1,R1,End.bind h1 fun u bx2 F2 r2 y H2 g2 R2 d2 h2=>?_⟩
  cases w with
  | b _=>exact h2.elim
  | d _=>exact h2.elim
  | x _=>exact h2.elim
  | s l =>
    cases u with
    | b _=>exact h2.elim
    | s _=>exact h2.elim
    | x _=>exact h2.elim
    | d d =>
      cases d with
      | int i =>
        obtain ⟨q,o,rfl,k⟩:=d1
        simp only at h2
        cases e:atI l i with
        | none=>rw [e] at h2;exact h2.elim
        | some n =>
          rw [e] at h2
          refine ⟨q,l.map V.int,i,.int n,rfl,d2,.inl (.inr ⟨o,R2.fh _ _ (g2.s _ _ k)⟩),?_,h2 F2 r2 _ H2 (.refl F2 r2) R2 rfl⟩
          unfold atI at e ⊢
          rw [List.length_map]
          cases ej:ixN l.length i with
          | none=>rw [ej] at e;cases e
          | some j=>rw [ej] at e;simp only [Option.bind_some] at e ⊢;rw [List.getElem?_map,e];rfl
      | _=>exact h2.elim
noncomputable def dDic (bo:Bool) (l:List (Key × D)):DE W:=fun _ bx=>resO bo (some (.dic l)) bx
theorem BZ (bo:Bool):PD X T Z (.Dict [] [] pos) (dDic bo []):=by
  refine PE.imp (JE) fun σ H Q ⟨F,r,env,bx,R,h⟩=>?_
  exact fun p hp=>jg R h ⟨p,[],rfl,hp,rfl,rfl⟩
theorem Mh (bo:Bool) {k v:Int}{j1 j2:Nat}{q1 q2:Pos}:PD X T Z (.Dict [some (.Constant (.int k) j1 q1)] [.Constant (.int v) j2 q2] pos) (dDic bo [(.inl k,.int v)]):=by
  refine PE.imp (FF (CP Ay Ay FE) rfl rfl (by simp) (by simp)) fun σ H Q ⟨F,r,env,bx,R,h⟩=>?_
  intro p hp
  refine ⟨fY,[(.inl k,.int v)],rfl,by simp,?_⟩
  rw [Ft]
  exact jg R h ⟨p,[(.inl k,.int v)],rfl,hp,rfl,⟨_,_,rfl,rfl,rfl⟩⟩
end
end L2.DL
set_option Elab.async false
set_option linter.all false
set_option maxRecDepth 100000
set_option maxHeartbeats 4000000
namespace HT
open PySem PySem.Spec PyProof.Rows
section
variable {prog : Program} {w : World} {A : Around} {E : Value -> Shared -> Prop} {s : Shared}
theorem DM {it t:Addr}{i:Nat}{items:Array Value}{x:Value}{Q:Value->Shared->Prop} (hit:s.heap.IsTupleIter it t i) (ht:s.heap.IsTuple t items) (hx:items[i]?=some x)
    (hQ:∀ h',h'.IsTupleIter it t (i + 1)->Heap.SameBut it s.heap h'->Q x { s with heap:=h' }):wpAny (model prog w) A (Builtin.SmallTypes.nextOf (.ref it)) Q E s:=by
  obtain ⟨ob,hob,hcl,hda⟩:=id hit
  obtain ⟨ot,hot,_,nt,hdt⟩:=ht
  unfold Builtin.SmallTypes.nextOf
  refine wpAny_bind (wpAny_callSpecial?_slot (name:=Str.ofString "__next__") hit.typeIs F.slot_tuple_iterator_next (wpAny_call_entry F.slot_tuple_iterator_next hit.typeIs F.entry_tuple_iterator_next (show wpAny _ _ (field (.ref it) 0 >>= _) _ _ s from wpAny_bind (wpAny_field hob hda (x:=.ref t) rfl ?_)) (F.args_tuple_iterator_next_1 _)))
  change wpAny _ _ (if (Value.ref t == Value.none)=true then _ else _) _ _ s;rw [if_neg (show ¬ ((Value.ref t == Value.none)=true) from Bool.false_ne_true)]
  change wpAny _ _ (field (.ref it) 1 >>= _) _ _ s
  refine wpAny_bind (wpAny_field hob hda (x:=.int i 0) rfl (show wpAny _ _ (seqItems? (.ref t) >>= _) _ _ s from wpAny_bind (wpAny_seqItems hot hdt ?_)))
  simp only [Int.toNat_natCast,hx]
  refine wpAny_bind (wpAny_setField hob hda (by simp) (wpAny_pure ⟨x,rfl,wpAny_pure (hQ _ ⟨_,Heap.get?_update_self _ hob (Obj.isFreed_of_fields (Obj.data_mapFields hda _)),(Obj.cls_mapFields ..).trans hcl,?_⟩ (Heap.SameBut.update ..))⟩))
  rw [Obj.data_mapFields hda];simp [rawInt]
theorem GF {it t:Addr}{i:Nat}{items:Array Value}{Q:Value->Shared->Prop} (hh:A.handled=none) (hit:s.heap.IsTupleIter it t i) (ht:s.heap.IsTuple t items) (hx:items[i]?=none)
    (hE:∀ h' e,Heap.ExtBut it s.heap h'->(∃ o,h'.get? e=some o /\ o.cls=.type "StopIteration")->E (.ref e) { s with heap:=h' }):wpAny (model prog w) A (Builtin.SmallTypes.nextOf (.ref it)) Q E s:=by
  obtain ⟨ob,hob,hcl,hda⟩:=id hit
  obtain ⟨ot,hot,_,nt,hdt⟩:=ht
  unfold Builtin.SmallTypes.nextOf
  refine wpAny_bind (wpAny_callSpecial?_slot (name:=Str.ofString "__next__") hit.typeIs F.slot_tuple_iterator_next (wpAny_call_entry F.slot_tuple_iterator_next hit.typeIs F.entry_tuple_iterator_next (show wpAny _ _ (field (.ref it) 0 >>= _) _ _ s from wpAny_bind (wpAny_field hob hda (x:=.ref t) rfl ?_)) (F.args_tuple_iterator_next_1 _)))
  change wpAny _ _ (if (Value.ref t == Value.none)=true then _ else _) _ _ s;rw [if_neg (show ¬ ((Value.ref t == Value.none)=true) from Bool.false_ne_true)]
  change wpAny _ _ (field (.ref it) 1 >>= _) _ _ s
  refine wpAny_bind (wpAny_field hob hda (x:=.int i 0) rfl (show wpAny _ _ (seqItems? (.ref t) >>= _) _ _ s from wpAny_bind (wpAny_seqItems hot hdt ?_)))
  simp only [Int.toNat_natCast,hx]
  refine wpAny_bind (wpAny_rule (wpAny_bind (wpAny_setField hob hda (by simp) (show wpAny _ _ (newExc (.type "StopIteration") [] >>= _) _ _ _ from wpAny_bind ?_))))
  simp only [newExc,newTuple]
  refine wpAny_bind (wpAny_newObj_type (wpAny_bind (m:=firstArgMember _ _) (wpAny_of_eq (a:=Value.none) (by first | rfl | (simp only [firstArgMember];rfl)) (wpAny_newObj_type ?_ (by size_fits)))) (by size_fits))
  simp only [raiseNew]
  refine wpAny_bind (wpAny_handled ?_)
  first | rw [show A.in1.handled=none from hh] | rw [hh]
  exact wpAny_bind (wpAny_pure (wpAny_throw (hE _ _ (((Heap.SameBut.update ..).extBut.push _).push _) ⟨_,Heap.get?_push_size _ rfl,rfl⟩)))
theorem mZ (hh:A.handled=none) (it l:Addr) (hne:l ≠ it) (items:Array Value) :
    Draws prog w A it [it,l] items.size (fun i v=>items[i]?=some v) (fun i h=>h.IsTupleIter it l i /\ h.IsTuple l items) where
  live:=fun _ _ st=>let ⟨o,ho,_⟩:=st.1;⟨o,ho⟩
  frame:=fun _ _ _ st hk=>⟨st.1.at fun o e=>hk it (by simp) o e,st.2.at fun o e=>hk l (by simp) o e⟩
  item:=fun i s Q E hi st hQ=>DM st.1 st.2 (x:=items[i]) (by simp [hi]) fun h' a b=>hQ _ h' s.toks (by simp [hi]) ⟨a,st.2.at fun o e=>b.extBut _ _ hne e⟩ b
  done:=fun s Q E st hE=>GF hh st.1 st.2 (by simp) hE
structure Far (z TI TO i1 i2:Addr) (fp1 fp2:List Addr):Prop where
  a:TI ≠ z /\ TO ≠ z /\ i1 ≠ z /\ i2 ≠ z /\ TI ≠ TO /\ TI ≠ i1 /\ TI ≠ i2 /\ TO ≠ i1 /\ TO ≠ i2 /\ i1 ≠ i2
  f1:z ∉ fp1 /\ TO ∉ fp1 /\ i2 ∉ fp1
  f2:z ∉ fp2 /\ TO ∉ fp2 /\ i1 ∉ fp2
variable {z TI TO i1 i2 : Addr} {fp1 fp2 : List Addr} {n1 n2 : Nat} {P1 P2 : Nat -> Value -> Prop} {S1 S2 : Nat -> Heap -> Prop}
theorem Draws.same {it:Addr}{fp:List Addr}{n:Nat}{P:Nat->Value->Prop}{S:Nat->Heap->Prop} (D:Draws prog w A it fp n P S) {c:Addr}{h h':Heap}{k:Nat} (x:Heap.SameBut c h h') (hc:c ∉ fp) (st:S k h):S k h' :=
  D.frame k h h' st fun b hb o e=>x.extBut _ _ (fun q=>hc (q ▸ hb)) e
theorem JH (D1:Draws prog w A i1 fp1 n1 P1 S1) (D2:Draws prog w A i2 fp2 n2 P2 S2) (R:Far z TI TO i1 i2 fp1 fp2) {k:Nat}{a b:Value}{Q:Value->Shared->Prop} (k1:k < n1) (k2:k < n2)
    (hz:IsZip s.heap z TI TO .none) (hTI:IsPair s.heap TI (.ref i1) (.ref i2)) (hTO:IsPair s.heap TO a b) (s1:S1 k s.heap) (s2:S2 k s.heap)
    (hQ:∀ x y h' tk,P1 k x->P2 k y->IsZip h' z TI TO (rawInt s.heap.objs.size)->IsPair h' TO x y->S1 (k + 1) h'->S2 (k + 1) h'->IsPair h' s.heap.objs.size x y ->
      (∀ c o,c ≠ z->c ≠ TO->c ≠ i1->c ≠ i2->s.heap.get? c=some o->h'.get? c=some o)->Q (.ref s.heap.objs.size) { s with heap:=h',toks:=tk }) :
    wpAny (model prog w) A (Builtin.«zip.__next__» ⟨[.ref z],[]⟩) (fun fin s'=>∃ v,fin=.done (.ret v) /\ Q v s') E s:=by
  obtain ⟨⟨r1,r2,r3,r4,r5,r6,r7,r8,r9,r10⟩,⟨f1,f2,f3⟩,⟨f4,f5,f6⟩⟩:=R
  change wpAny _ _ (field (.ref z) 2 >>= _) _ _ _;refine wpAny_bind (wpAny_field hz rfl (x:=.bool false) rfl ?_)
  change wpAny _ _ (field (.ref z) 3 >>= _) _ _ _;refine wpAny_bind (wpAny_field hz rfl (x:=.ref TI) rfl (wpAny_bind (wpAny_seqItems hTI rfl ?_)))
  change wpAny _ _ (Builtin.SmallTypes.ownedTupleIsFree (.ref z) >>= _) _ _ _;refine wpAny_bind ?_
  unfold Builtin.SmallTypes.ownedTupleIsFree
  refine wpAny_bind (wpAny_field hz rfl (x:=.none) rfl (wpAny_pure ?_))
  simp only [if_true]
  refine wpAny_bind (wpAny_rule (wpAny_bind (wpAny_field hz rfl (x:=.ref TO) rfl (wpAny_bind (wpAny_setField_rec hz (by simp) fun g1 hz1 e1=>?_)))))
  have hz1':IsZip g1 z TI TO .ellipsis:=hz1
  refine wpAny_bind ?_
  simp only [List.zipIdx_cons,List.zipIdx_nil,List.forIn_cons,List.forIn_nil]
  refine wpAny_bind (wpAny_bind (wpAny_onRaise (show wpAny _ _ (Builtin.SmallTypes.nextOf (.ref i1) >>= _) _ _ _ from wpAny_bind (D1.item k _ _ _ k1 (Draws.same D1 e1 f1 s1) fun x g2 t2 px s1' e2=>wpAny_pure ?_))))
  have hTO2:IsPair g2 TO a b:=e2.extBut _ _ r8 (e1.extBut _ _ r2 hTO)
  refine wpAny_bind (wpAny_seqItems hTO2 rfl (wpAny_bind (wpAny_updateSeq_pair hTO2 fun g3 hTO3 e3=>wpAny_bind (wpAny_letGo (wpAny_pure ?_)))))
  have hTO3':IsPair g3 TO x b:=hTO3
  refine wpAny_bind (wpAny_bind (wpAny_onRaise (show wpAny _ _ (Builtin.SmallTypes.nextOf (.ref i2) >>= _) _ _ _ from wpAny_bind (D2.item k _ _ _ k2 (Draws.same D2 e3 f5 (Draws.same D2 e2 f6 (Draws.same D2 e1 f4 s2))) fun y g4 t4 py s2' e4=>wpAny_pure ?_))))
  have hTO4:IsPair g4 TO x b:=e4.extBut _ _ r9 hTO3'
  refine wpAny_bind (wpAny_seqItems hTO4 rfl (wpAny_bind (wpAny_updateSeq_pair hTO4 fun g5 hTO5 e5=>wpAny_bind (wpAny_letGo (wpAny_pure (wpAny_pure ?_))))))
  have hTO5':IsPair g5 TO x y:=hTO5
  refine wpAny_bind (wpAny_seqItems hTO5' rfl (wpAny_bind (wpAny_newTuple ?_)))
  have hsz:g5.objs.size=s.heap.objs.size:=by rw [e5.1,e4.1,e3.1,e2.1,e1.1]
  have hz5:IsZip g5 z TI TO .ellipsis:=e5.extBut _ _ r2.symm (e4.extBut _ _ r4.symm (e3.extBut _ _ r2.symm (e2.extBut _ _ r3.symm hz1')))
  have kp:∀ c o,c ≠ z->c ≠ TO->c ≠ i1->c ≠ i2->s.heap.get? c=some o->g5.get? c=some o:=fun c o c1 c2 c3 c4 q=>e5.extBut _ _ c2 (e4.extBut _ _ c4 (e3.extBut _ _ c2 (e2.extBut _ _ c3 (e1.extBut _ _ c1 q))))
  have q1:S1 (k + 1) g5:=Draws.same D1 e5 f2 (Draws.same D1 e4 f3 (Draws.same D1 e3 f2 s1'))
  have q2:S2 (k + 1) g5:=Draws.same D2 e5 f5 s2'
  have zlt:z < g5.objs.size:=Heap.lt_size hz5
  change wpAny _ _ (Builtin.SmallTypes.ownedTupleHandOut (.ref z) (.ref g5.objs.size) >>= _) _ _ _;refine wpAny_bind ?_
  unfold Builtin.SmallTypes.ownedTupleHandOut
  refine wpAny_bind (wpAny_setField_rec (Heap.get?_push_of_some _ hz5) (by simp) fun g7 hz7 e7=>wpAny_setField_rec (show IsZip g7 z TI TO (rawInt g5.objs.size) from hz7) (by simp) fun g8 hz8 e8=>?_)
  have up:∀ c o,c ≠ z->g5.get? c=some o->g8.get? c=some o:=fun c o c1 q=>e8.extBut _ _ c1 (e7.extBut _ _ c1 (Heap.get?_push_of_some _ q))
  have hT8:IsPair g8 g5.objs.size x y:=e8.extBut _ _ (Nat.ne_of_gt zlt) (e7.extBut _ _ (Nat.ne_of_gt zlt) (Heap.get?_push_size _ rfl))
  have hz8':IsZip g8 z TI TO (rawInt g5.objs.size):=hz8
  refine wpAny_pure ⟨_,rfl,(show Q (.ref g5.objs.size) _ from ?_)⟩
  rw [hsz] at hT8 hz8' ⊢
  exact hQ x y g8 _ px py hz8' (up _ _ r2 hTO5') (D1.frame _ _ _ q1 fun c hc o q=>up c o (fun w=>f1 (w ▸ hc)) q) (D2.frame _ _ _ q2 fun c hc o q=>up c o (fun w=>f4 (w ▸ hc)) q) hT8 fun c o c1 c2 c3 c4 q=>up c o c1 (kp c o c1 c2 c3 c4 q)
theorem JI (D1:Draws prog w A i1 fp1 n1 P1 S1) (D2:Draws prog w A i2 fp2 n2 P2 S2) (R:Far z TI TO i1 i2 fp1 fp2) {k:Nat}{a b:Value}{Q:Fin->Shared->Prop} (hk:k=n1 \/ (k < n1 /\ k=n2))
    (hz:IsZip s.heap z TI TO .none) (hTI:IsPair s.heap TI (.ref i1) (.ref i2)) (hTO:IsPair s.heap TO a b) (s1:S1 k s.heap) (s2:S2 k s.heap)
    (hE:∀ h' e tk,(∀ c o,c ≠ z->c ≠ TO->c ≠ i1->c ≠ i2->s.heap.get? c=some o->h'.get? c=some o)->(∃ o,h'.get? e=some o /\ o.cls=.type "StopIteration")->E (.ref e) { s with heap:=h',toks:=tk }) :
    wpAny (model prog w) A (Builtin.«zip.__next__» ⟨[.ref z],[]⟩) Q E s:=by
  obtain ⟨⟨r1,r2,r3,r4,r5,r6,r7,r8,r9,r10⟩,⟨f1,f2,f3⟩,⟨f4,f5,f6⟩⟩:=R
  change wpAny _ _ (field (.ref z) 2 >>= _) _ _ _;refine wpAny_bind (wpAny_field hz rfl (x:=.bool false) rfl ?_)
  change wpAny _ _ (field (.ref z) 3 >>= _) _ _ _;refine wpAny_bind (wpAny_field hz rfl (x:=.ref TI) rfl (wpAny_bind (wpAny_seqItems hTI rfl ?_)))
  change wpAny _ _ (Builtin.SmallTypes.ownedTupleIsFree (.ref z) >>= _) _ _ _;refine wpAny_bind ?_
  unfold Builtin.SmallTypes.ownedTupleIsFree
  refine wpAny_bind (wpAny_field hz rfl (x:=.none) rfl (wpAny_pure ?_))
  simp only [if_true]
  refine wpAny_bind (wpAny_rule (wpAny_bind (wpAny_field hz rfl (x:=.ref TO) rfl (wpAny_bind (wpAny_setField_rec hz (by simp) fun g1 hz1 e1=>?_)))))
  have hz1':IsZip g1 z TI TO .ellipsis:=hz1
  refine wpAny_bind ?_
  simp only [List.zipIdx_cons,List.zipIdx_nil,List.forIn_cons,List.forIn_nil]
  rcases hk with hk | ⟨hk1,hk2⟩
  . refine wpAny_bind (wpAny_bind (wpAny_onRaise (show wpAny _ _ (Builtin.SmallTypes.nextOf (.ref i1) >>= _) _ _ _ from wpAny_bind (D1.done _ _ _ (hk ▸ Draws.same D1 e1 f1 s1) fun g2 ex e2 hx=>?_))))
    obtain ⟨oe,hoe,hce⟩:=hx
    have hz2:IsZip g2 z TI TO .ellipsis:=e2 _ _ r3.symm hz1'
    have hez:ex ≠ z:=fun q=>by subst q;rw [hz2] at hoe;cases hoe;simp at hce
    exact wpAny_setField_rec hz2 (by simp) fun g3 _ e3=>hE g3 ex _ (fun c o c1 _ c3 _ q=>e3.extBut _ _ c1 (e2 _ _ c3 (e1.extBut _ _ c1 q))) ⟨oe,e3.extBut _ _ hez hoe,hce⟩
  . refine wpAny_bind (wpAny_bind (wpAny_onRaise (show wpAny _ _ (Builtin.SmallTypes.nextOf (.ref i1) >>= _) _ _ _ from wpAny_bind (D1.item k _ _ _ hk1 (Draws.same D1 e1 f1 s1) fun x g2 t2 px s1' e2=>wpAny_pure ?_))))
    have hTO2:IsPair g2 TO a b:=e2.extBut _ _ r8 (e1.extBut _ _ r2 hTO)
    refine wpAny_bind (wpAny_seqItems hTO2 rfl (wpAny_bind (wpAny_updateSeq_pair hTO2 fun g3 hTO3 e3=>wpAny_bind (wpAny_letGo (wpAny_pure ?_)))))
    refine wpAny_bind (wpAny_bind (wpAny_onRaise (show wpAny _ _ (Builtin.SmallTypes.nextOf (.ref i2) >>= _) _ _ _ from wpAny_bind (D2.done _ _ _ (hk2 ▸ Draws.same D2 e3 f5 (Draws.same D2 e2 f6 (Draws.same D2 e1 f4 s2))) fun g4 ex e4 hx=>?_))))
    obtain ⟨oe,hoe,hce⟩:=hx
    have hz4:IsZip g4 z TI TO .ellipsis:=e4 _ _ r4.symm (e3.extBut _ _ r2.symm (e2.extBut _ _ r3.symm hz1'))
    have hez:ex ≠ z:=fun q=>by subst q;rw [hz4] at hoe;cases hoe;simp at hce
    exact wpAny_setField_rec hz4 (by simp) fun g5 _ e5=>hE g5 ex _ (fun c o c1 c2 c3 c4 q=>e5.extBut _ _ c1 (e4 _ _ c4 (e3.extBut _ _ c2 (e2.extBut _ _ c3 (e1.extBut _ _ c1 q))))) ⟨oe,e5.extBut _ _ hez hoe,hce⟩
theorem Bd (D1:Draws prog w A.in1 i1 fp1 n1 P1 S1) (D2:Draws prog w A.in1 i2 fp2 n2 P2 S2) (R:Far z TI TO i1 i2 fp1 fp2) {k:Nat}{a b:Value}{Q:Option Value->Shared->Prop} (k1:k < n1) (k2:k < n2)
    (hz:IsZip s.heap z TI TO .none) (hTI:IsPair s.heap TI (.ref i1) (.ref i2)) (hTO:IsPair s.heap TO a b) (s1:S1 k s.heap) (s2:S2 k s.heap)
    (hQ:∀ x y h' tk,P1 k x->P2 k y->IsZip h' z TI TO (rawInt s.heap.objs.size)->IsPair h' TO x y->S1 (k + 1) h'->S2 (k + 1) h'->IsPair h' s.heap.objs.size x y ->
      (∀ c o,c ≠ z->c ≠ TO->c ≠ i1->c ≠ i2->s.heap.get? c=some o->h'.get? c=some o)->Q (some (.ref s.heap.objs.size)) { s with heap:=h',toks:=tk }):wpAny (model prog w) A (pyNext (.ref z)) Q E s:=by
  have hT:s.TypeIs (.ref z) "zip":=⟨_,hz,rfl⟩
  unfold pyNext
  exact wpAny_bind (wpAny_attempt (wpAny_callSpecial?_slot (name:=Str.ofString "__next__") hT F.slot_zip_next (wpAny_call_entry F.slot_zip_next hT F.entry_zip_next (JH D1 D2 R k1 k2 hz hTI hTO s1 s2 fun x y h' tk b1 b2 b3 b4 b5 b6 b7 b8=>wpAny_pure (hQ x y h' tk b1 b2 b3 b4 b5 b6 b7 b8)) (F.args_zip_next_1 _))))
theorem Be (D1:Draws prog w A.in1 i1 fp1 n1 P1 S1) (D2:Draws prog w A.in1 i2 fp2 n2 P2 S2) (R:Far z TI TO i1 i2 fp1 fp2) {k:Nat}{a b:Value}{Q:Option Value->Shared->Prop} (hk:k=n1 \/ (k < n1 /\ k=n2))
    (hz:IsZip s.heap z TI TO .none) (hTI:IsPair s.heap TI (.ref i1) (.ref i2)) (hTO:IsPair s.heap TO a b) (s1:S1 k s.heap) (s2:S2 k s.heap)
    (hQ:∀ h' tk,(∀ c o,c ≠ z->c ≠ TO->c ≠ i1->c ≠ i2->s.heap.get? c=some o->h'.get? c=some o)->Q none { s with heap:=h',toks:=tk }):wpAny (model prog w) A (pyNext (.ref z)) Q E s:=by
  have hT:s.TypeIs (.ref z) "zip":=⟨_,hz,rfl⟩
  unfold pyNext
  refine wpAny_bind (wpAny_attempt (wpAny_callSpecial?_slot (name:=Str.ofString "__next__") hT F.slot_zip_next (wpAny_call_entry F.slot_zip_next hT F.entry_zip_next (JI D1 D2 R hk hz hTI hTO s1 s2 fun h' e tk q1 q2=>?_) (F.args_zip_next_1 _))))
  obtain ⟨o,ho,hc⟩:=q2
  exact wpAny_bind (wpAny_isInstance (T:="StopIteration") (b:=true) ⟨o,ho,hc⟩ isSubtype_stop (wpAny_pure (hQ h' tk q1)))
noncomputable def zH1 (h:Heap) (l1:Addr):Heap:=h.push { cls:=.type "tuple_iterator",data:=.fields #[.ref l1,.int 0 0] }
noncomputable def zH2 (h:Heap) (l1 l2:Addr):Heap:=(zH1 h l1).push { cls:=.type "tuple_iterator",data:=.fields #[.ref l2,.int 0 0] }
noncomputable def zH3 (h:Heap) (l1 l2:Addr):Heap:=(zH2 h l1 l2).push { cls:=.type "tuple",data:=.seq #[.ref h.objs.size,.ref (zH1 h l1).objs.size] }
noncomputable def zH4 (h:Heap) (l1 l2:Addr):Heap:=(zH3 h l1 l2).push { cls:=.type "tuple",data:=.seq #[.none,.none] }
noncomputable def zH5 (h:Heap) (l1 l2:Addr):Heap:=(zH4 h l1 l2).push { cls:=.type "zip",data:=.fields #[.none,.bool false,.bool false,.ref (zH2 h l1 l2).objs.size,.ref (zH3 h l1 l2).objs.size] }
theorem DN (l1 l2:Addr) (xs ys:Array Value) :
    Meets (Builtin.«zip.__new__» ⟨[.type "zip",.ref l1,.ref l2],[]⟩) (fun _ R s=>s.heap.IsTuple l1 xs /\ s.heap.IsTuple l2 ys /\ R (.ok (.ret (.ref (zH4 s.heap l1 l2).objs.size))) { s with heap:=zH5 s.heap l1 l2 }) :=
  .of_wp fun prog w A R s h=>by
    obtain ⟨hp,g,d,tk,os⟩:=s;obtain ⟨hl1,hl2,h⟩:=h
    have hsub:=sub_zip
    have hL1:Heap.IsTuple (Shared.heap ⟨hp,g,d,tk,os⟩) l1 xs:=hl1
    have hL2:Heap.IsTuple (Shared.heap ⟨hp.push { cls:=.type "tuple_iterator",data:=.fields #[.ref l1,.int 0 0] },g,d,tk,os⟩) l2 ys:=hl2.at fun o e=>Heap.get?_push_of_some _ e
    wp_walk using wpAny_pyIter_tuple hL1,wpAny_pyIter_tuple hL2
    exact ⟨_,rfl,h⟩
theorem GG {l1 l2:Addr}{xs ys:Array Value}{Q:Value->Shared->Prop} (hl1:s.heap.IsTuple l1 xs) (hl2:s.heap.IsTuple l2 ys)
    (h:∀ h',IsZip h' (s.heap.objs.size + 4) (s.heap.objs.size + 2) (s.heap.objs.size + 3) .none->IsPair h' (s.heap.objs.size + 2) (.ref s.heap.objs.size) (.ref (s.heap.objs.size + 1))->IsPair h' (s.heap.objs.size + 3) .none .none ->
      h'.IsTupleIter s.heap.objs.size l1 0->h'.IsTupleIter (s.heap.objs.size + 1) l2 0->(∀ c o,s.heap.get? c=some o->h'.get? c=some o)->Q (.ref (s.heap.objs.size + 4)) { s with heap:=h' }):wpAny (model prog w) A (call (.type "zip") [.ref l1,.ref l2]) Q E s:=by
  refine callType_new F.called_zip (by decide) (F.typeCall_zip_2 _ _) (F.newCall_zip_2 _ _) (fun obj=>F.args_object_init_3 obj _ _) F.entry_zip_new (DN l1 l2 xs ys) ⟨hl1,hl2,?_⟩
  have z1:(zH1 s.heap l1).objs.size=s.heap.objs.size + 1:=Heap.size_push ..
  have z2:(zH2 s.heap l1 l2).objs.size=s.heap.objs.size + 2:=by rw [zH2,Heap.size_push,z1]
  have z3:(zH3 s.heap l1 l2).objs.size=s.heap.objs.size + 3:=by rw [zH3,Heap.size_push,z2]
  have z4:(zH4 s.heap l1 l2).objs.size=s.heap.objs.size + 4:=by rw [zH4,Heap.size_push,z3]
  have g5:(zH5 s.heap l1 l2).get? (zH4 s.heap l1 l2).objs.size=some { cls:=.type "zip",data:=.fields #[.none,.bool false,.bool false,.ref (zH2 s.heap l1 l2).objs.size,.ref (zH3 s.heap l1 l2).objs.size] }:=Heap.get?_push_size _ rfl
  have g4:(zH5 s.heap l1 l2).get? (zH3 s.heap l1 l2).objs.size=some { cls:=.type "tuple",data:=.seq #[.none,.none] }:=Heap.get?_push_of_some _ (Heap.get?_push_size _ rfl)
  have g3:(zH5 s.heap l1 l2).get? (zH2 s.heap l1 l2).objs.size=some { cls:=.type "tuple",data:=.seq #[.ref s.heap.objs.size,.ref (zH1 s.heap l1).objs.size] }:=Heap.get?_push_of_some _ (Heap.get?_push_of_some _ (Heap.get?_push_size _ rfl))
  have g2:(zH5 s.heap l1 l2).get? (zH1 s.heap l1).objs.size=some { cls:=.type "tuple_iterator",data:=.fields #[.ref l2,.int 0 0] }:=Heap.get?_push_of_some _ (Heap.get?_push_of_some _ (Heap.get?_push_of_some _ (Heap.get?_push_size _ rfl)))
  have g1:(zH5 s.heap l1 l2).get? s.heap.objs.size=some { cls:=.type "tuple_iterator",data:=.fields #[.ref l1,.int 0 0] }:=Heap.get?_push_of_some _ (Heap.get?_push_of_some _ (Heap.get?_push_of_some _ (Heap.get?_push_of_some _ (Heap.get?_push_size _ rfl))))
  change _ /\ _
  rw [z2,z3,z4] at g5
  rw [z1,z2] at g3
  rw [z3] at g4
  rw [z1] at g2
  rw [z4]
  exact ⟨⟨_,g5,rfl⟩,h _ g5 g3 g4 ⟨_,g1,rfl,rfl⟩ ⟨_,g2,rfl,rfl⟩ fun c o q=>Heap.get?_push_of_some _ (Heap.get?_push_of_some _ (Heap.get?_push_of_some _ (Heap.get?_push_of_some _ (Heap.get?_push_of_some _ q))))⟩
end
end HT
set_option Elab.async false
set_option linter.all false
set_option maxRecDepth 100000
set_option maxHeartbeats 4000000
namespace L2
open PySem PySem.Spec PyProof.Rows
section
variable {X : Cx} {pins : List (Addr × Obj)} {σ : St} {H : Hp} {s : Shared} {h' : Heap}
theorem Inv.turnedL {t':Nat}{ch:List Addr}{p:Addr}{o:HO} (I:Inv X pins σ H s) (hf:∀ b ∈ ch,FpOk X pins H b) (k:∀ b o,b ∉ ch->s.heap.get? b=some o->h'.get? b=some o) (hp:s.heap.objs.size <= p)
    (new:ObjOk X.prog X.w (upd H p o) h' p o):Inv X pins σ (upd H p o) { s with heap:=h',toks:=t' }:=by
  have hfr:H p=none:=I.hok.fresh hp
  have nch:∀ b u,H b=some u->b ∉ ch:=fun b u e z=>by rw [(hf b z).1] at e;cases e
  have nep:∀ b u,H b=some u->b ≠ p:=fun b u e=>gL e hfr
  have stay:∀ b u,H b=some u->upd H p o b=some u:=fun b u e=>by rw [fX (nep b u e)];exact e
  refine I.step (g':=s.gens) (d':=s.drawn) (ch:=ch) (fun b hb=>?_) (fun b o _ _ hc e _=>k b o hc e) (fun b o _ _ hc e _=>⟨o.slots,k b o hc e⟩) (fun b ob _ e n=>?_)
    (fun b o hc e=>⟨o,k b o hc e⟩) (fun b _ e=>stay b _ e) (fun b _ _ e=>stay b _ e) (fun b ps e=>⟨#[],by rw [stay b _ e];simp⟩) (fun m hm=>?_) ?_ I.bare
  . obtain ⟨f0,f1,f2,f3,f4,f5⟩:=hf b hb
    exact ⟨f3,f1,f4,f5⟩
  . rw [fX (fun z=>Nat.lt_irrefl _ (Nat.lt_of_lt_of_le (Heap.lt_size e) (by rw [z];exact hp)))];exact n
  . obtain ⟨ob,es,ep,ho,r⟩:=hm
    exact ⟨ob,es,ep,k _ ob (fun z=>(hf _ z).2.1 rfl) ho,r⟩
  . intro b u e
    by_cases hb:b=p
    . subst hb;rw [fY] at e;cases e;exact new
    . rw [fX hb] at e
      refine (I.hok b u e).stay (fun c v hc q=>k c v ?_ q) (fun c q=>stay c _ q) fun c xs q=>stay c _ q
      rcases hc with z | z
      . rw [z];exact nch b u e
      . exact nch c _ z
theorem Inv.turnedM {t':Nat}{ch:List Addr} (I:Inv X pins σ H s) (hf:∀ b ∈ ch,FpOk X pins H b) (k:∀ b o,b ∉ ch->s.heap.get? b=some o->h'.get? b=some o):Inv X pins σ H { s with heap:=h',toks:=t' }:=by
  have nch:∀ b u,H b=some u->b ∉ ch:=fun b u e z=>by rw [(hf b z).1] at e;cases e
  refine I.step (g':=s.gens) (d':=s.drawn) (ch:=ch) (fun b hb=>?_) (fun b o _ _ hc e _=>k b o hc e) (fun b o _ _ hc e _=>⟨o.slots,k b o hc e⟩) (fun b ob _ e n=>n)
    (fun b o hc e=>⟨o,k b o hc e⟩) (fun b _ e=>e) (fun b _ _ e=>e) (fun b ps e=>⟨#[],by rw [e];simp⟩) (fun m hm=>?_) ?_ I.bare
  . obtain ⟨f0,f1,f2,f3,f4,f5⟩:=hf b hb
    exact ⟨f3,f1,f4,f5⟩
  . obtain ⟨ob,es,ep,ho,r⟩:=hm
    exact ⟨ob,es,ep,k _ ob (fun z=>(hf _ z).2.1 rfl) ho,r⟩
  . intro b u e
    refine (I.hok b u e).stay (fun c v hc q=>k c v ?_ q) (fun c q=>q) fun c xs q=>q
    rcases hc with z | z
    . rw [z];exact nch b u e
    . exact nch c _ z
end
noncomputable def Itz (K:PySem.W.Frag) (a b:Addr):It :=
  ⟨fun i H=>∃ (xs ys:List V) (x y:V),SqT K H a xs /\ SqT K H b ys /\ xs[i]?=some x /\ ys[i]?=some y,
   fun i H w H'=>∀ (xs ys:List V),SqT K H a xs->SqT K H b ys->∃ (p:Addr) (x y:V),xs[i]?=some x /\ ys[i]?=some y /\ H p=none /\ w=.ref p /\ H'=upd H p (.tup [x,y]),
   fun i H=>∃ (xs ys:List V),SqT K H a xs /\ SqT K H b ys /\ (i=xs.length \/ (i < xs.length /\ i=ys.length))⟩
theorem BB {b n:Nat} (k:Nat) (h:b < n):b ≠ n + k:=by omega
theorem BC {m n:Nat} (h:n + 4 < m):m ≠ n /\ m ≠ n + 1 /\ m ≠ n + 2 /\ m ≠ n + 3 /\ m ≠ n + 4:=by omega
theorem FI {n a b:Addr} (ha:a < n) (hb:b < n):HT.Far (n + 4) (n + 2) (n + 3) n (n + 1) [n,a] [n + 1,b] where
  a:=by refine ⟨?_,?_,?_,?_,?_,?_,?_,?_,?_,?_⟩ <;> exact fun z=>by have z':(_:Nat)=_:=z;omega
  f1:=by
    have e1:∀ k:Nat,n + k ≠ a:=fun k z=>Nat.lt_irrefl _ (Nat.lt_of_le_of_lt (Nat.le_add_right n k) (z ▸ ha))
    refine ⟨?_,?_,?_⟩ <;> (rw [List.mem_cons,List.mem_singleton];rintro (z | z))
    . have z':(_:Nat)=_:=z;omega
    . exact e1 4 z
    . have z':(_:Nat)=_:=z;omega
    . exact e1 3 z
    . have z':(_:Nat)=_:=z;omega
    . exact e1 1 z
  f2:=by
    have e1:∀ k:Nat,n + k ≠ b:=fun k z=>Nat.lt_irrefl _ (Nat.lt_of_le_of_lt (Nat.le_add_right n k) (z ▸ hb))
    refine ⟨?_,?_,?_⟩ <;> (rw [List.mem_cons,List.mem_singleton];rintro (z | z))
    . have z':(_:Nat)=_:=z;omega
    . exact e1 4 z
    . have z':(_:Nat)=_:=z;omega
    . exact e1 3 z
    . have z':(_:Nat)=_:=z;omega
    . exact e1 0 z
theorem JJ {P:Program}{w:World}{K:PySem.W.Frag}{elts:List Expr}{kt:Nat}{tp:Pos}{n a b:Addr} (ha:a < n) (hb:b < n) :
    Turn P w K (.Tuple elts kt tp) (Itz K a b) [n + 4,n + 2,n + 3,n,n + 1] (n + 4)
      (fun i h=>IsZip h (n + 4) (n + 2) (n + 3) .none /\ IsPair h (n + 2) (.ref n) (.ref (n + 1)) /\ (∃ u v,IsPair h (n + 3) u v) /\ h.IsTupleIter n a i /\ h.IsTupleIter (n + 1) b i) where
  mem:=by simp
  obj:=fun i h st c hc=>by
    obtain ⟨z1,z2,⟨u,v,z3⟩,⟨o4,e4,c4,d4⟩,⟨o5,e5,c5,d5⟩⟩:=st
    simp only [List.mem_cons,List.not_mem_nil,or_false] at hc
    rcases hc with rfl | rfl | rfl | rfl | rfl
    . exact ⟨_,z1,fun v z=>by cases z⟩
    . exact ⟨_,z2,fun v z=>by cases z⟩
    . exact ⟨_,z3,fun v z=>by cases z⟩
    . exact ⟨o4,e4,fun v z=>by rw [d4] at z;cases z⟩
    . exact ⟨o5,e5,fun v z=>by rw [d5] at z;cases z⟩
  keep:=fun i h h' st k=>by
    obtain ⟨z1,z2,⟨u,v,z3⟩,z4,z5⟩:=st
    exact ⟨k _ (by simp) _ z1,k _ (by simp) _ z2,⟨u,v,k _ (by simp) _ z3⟩,z4.at fun o e=>k _ (by simp) o e,z5.at fun o e=>k _ (by simp) o e⟩
  item:=by
    intro X hP hw hK hc i pins s σ H E I hf st hg
    subst hP hw hK
    obtain ⟨xs,ys,x,y,q1,q2,e1,e2⟩:=hg
    obtain ⟨z1,z2,⟨u,v,z3⟩,z4,z5⟩:=st
    obtain ⟨i1,r1,p1,l1⟩:=I.tuple q1
    obtain ⟨i2,r2,p2,l2⟩:=I.tuple q2
    have hx:=(List.getElem?_eq_some_iff.mp e1).1
    have hy:=(List.getElem?_eq_some_iff.mp e2).1
    have R:=FI ha hb
    have D1:=HT.mZ (prog:=X.prog) (w:=X.w) (A:=X.A.in1) (I.ok.hd hc) n a (Nat.ne_of_lt ha) i1.toArray
    have D2:=HT.mZ (prog:=X.prog) (w:=X.w) (A:=X.A.in1) (I.ok.hd hc) (n + 1) b (BB 1 hb) i2.toArray
    refine HT.Bd D1 D2 R (by rw [List.size_toArray,<-r1.length];exact hx) (by rw [List.size_toArray,<-r2.length];exact hy) z1 z2 z3 ⟨z4,p1⟩ ⟨z5,p2⟩ fun vx vy h' tk b1 b2 b3 b4 b5 b6 b7 b8=>⟨_,rfl,?_⟩
    refine wpAny_letOwnedTupleGo_zip b3 fun h2 hz2 hs2=>?_
    obtain ⟨w1,f1,g1⟩:=r1.get e1
    obtain ⟨w2,f2,g2⟩:=r2.get e2
    have b1':i1[i]?=some vx:=by simpa using b1
    have b2':i2[i]?=some vy:=by simpa using b2
    rw [f1] at b1';cases b1'
    rw [f2] at b2';cases b2'
    have zlt:(n + 4:Nat) < s.heap.objs.size:=Heap.lt_size z1
    have hT2:IsPair h2 s.heap.objs.size vx vy:=hs2.extBut _ _ (BC zlt).2.2.2.2 b7
    have nw:H s.heap.objs.size=none:=I.hok.fresh (Nat.le_refl _)
    have I2:Inv X pins σ (upd H s.heap.objs.size (.tup [x,y])) { s with heap:=h2,toks:=tk }:=by
      refine I.turnedL (ch:=[n + 4,n + 2,n + 3,n,n + 1]) hf (fun c o hcc e=>?_) (Nat.le_refl _) ?_
      . simp only [List.mem_cons,List.not_mem_nil,or_false,not_or] at hcc
        exact hs2.extBut _ _ hcc.1 (b8 c o hcc.1 hcc.2.2.1 hcc.2.2.2.1 hcc.2.2.2.2 e)
      . exact ⟨by show 2 <= sizeLine;decide,[vx,vy],.cons g1 (.cons g2 .nil),⟨_,hT2,rfl,_,rfl⟩⟩
    refine ⟨.ref s.heap.objs.size,_,I2,rfl,fun xs' ys' y1 y2=>⟨_,x,y,by rw [I.tuple_inj y1 q1];exact e1,by rw [I.tuple_inj y2 q2];exact e2,nw,rfl,rfl⟩,⟨hz2,?_,⟨_,_,hs2.extBut _ _ R.a.2.1 b4⟩,?_,?_⟩,fun c hcc=>?_⟩
    . exact hs2.extBut _ _ R.a.1 (b8 _ _ R.a.1 R.a.2.2.2.2.1 R.a.2.2.2.2.2.1 R.a.2.2.2.2.2.2.1 z2)
    . exact b5.1.at fun o e=>hs2.extBut _ _ R.a.2.2.1 e
    . exact b6.1.at fun o e=>hs2.extBut _ _ R.a.2.2.2.1 e
    . rw [fX]
      . exact (hf c hcc).1
      . intro z
        subst z
        simp only [List.mem_cons,List.not_mem_nil,or_false] at hcc
        obtain ⟨m1,m2,m3,m4,m5⟩:=BC zlt
        rcases hcc with q | q | q | q | q
        . exact m5 q
        . exact m3 q
        . exact m4 q
        . exact m1 q
        . exact m2 q
  done:=by
    intro X hP hw hK hc i pins s σ H E I hf st hg
    subst hP hw hK
    obtain ⟨xs,ys,q1,q2,hk⟩:=hg
    obtain ⟨z1,z2,⟨u,v,z3⟩,z4,z5⟩:=st
    obtain ⟨i1,r1,p1,l1⟩:=I.tuple q1
    obtain ⟨i2,r2,p2,l2⟩:=I.tuple q2
    have R:=FI ha hb
    have D1:=HT.mZ (prog:=X.prog) (w:=X.w) (A:=X.A.in1) (I.ok.hd hc) n a (Nat.ne_of_lt ha) i1.toArray
    have D2:=HT.mZ (prog:=X.prog) (w:=X.w) (A:=X.A.in1) (I.ok.hd hc) (n + 1) b (BB 1 hb) i2.toArray
    refine HT.Be D1 D2 R (k:=i) (by rw [List.size_toArray,List.size_toArray,<-r1.length,<-r2.length];exact hk) z1 z2 z3 ⟨z4,p1⟩ ⟨z5,p2⟩ fun h' tk b8=>⟨rfl,I.turnedM (ch:=[n + 4,n + 2,n + 3,n,n + 1]) hf fun c o hcc e=>?_⟩
    simp only [List.mem_cons,List.not_mem_nil,or_false,not_or] at hcc
    exact b8 c o hcc.1 hcc.2.2.1 hcc.2.2.2.1 hcc.2.2.2.2 e
  self:=fun _ _ _ _ _ st h=>wpAny_pyIter_zip st.1 h
end L2
namespace L2
open PySem PySem.Spec PyProof.Rows
theorem Itup.lt {X:Cx}{pins:List (Addr × Obj)}{σ:St}{H:Hp}{s:Shared}{a:Addr}{its:List Value} (p:IsTup s.heap a its.toArray):a < s.heap.objs.size:=by
  obtain ⟨o,e,_⟩:=p
  exact Heap.lt_size e
noncomputable def iZip (K:PySem.W.Frag) (ta:TA):TI:=fun σ H R=>ta σ H fun vs H2=>∃ (p q:Addr) (xs ys:List V),vs=[.ref p,.ref q] /\ SqT K H2 p xs /\ SqT K H2 q ys /\ R (Itz K p q) H2
theorem NS {X:Cx}{a b:Expr}{ta:TA}{p pos tp:Pos}{elts:List Expr}{kt:Nat} (hg:Gl X "zip") (hm:X.mg "zip"=none) (ha:PA X [a,b] ta) (hs:starEach [a,b] X.env=[(false,eval a X.env),(false,eval b X.env)]:=by rfl) (hs2:starEach [b] X.env=[(false,eval b X.env)]:=by rfl) :
    PI X (.Tuple elts kt tp) (.Call (.Name "zip" p) [a,b] [] pos) (iZip X.K ta):=by
  intro pins s σ H R I h
  refine wpAny_Call_Name_kw (lW I hg hm (by decide +kernel:bootBuiltins "zip"=some (.type "zip")) ?_)
  refine PyProof.Rows.callWith_type1 (thn (ha pos pins s σ H _ I h) fun us s1 ⟨vs,H2,I2,r2,q⟩=>?_) (by rw [hs,hs2]) (by rw [hs2];rfl)
  obtain ⟨x,y,xs,ys,rfl,hx,hy,q⟩:=q
  obtain ⟨u,v,rfl,ru,rv⟩:=Vals.two r2
  cases ru
  cases rv
  obtain ⟨i1,r1,p1,_⟩:=I2.tuple hx
  obtain ⟨i2,r2,p2,_⟩:=I2.tuple hy
  refine HT.GG (xs:=i1.toArray) (ys:=i2.toArray) p1 p2 fun h' b1 b2 b3 b4 b5 b6=>?_
  refine wpAny_pyIter_zip b1 ?_
  refine ⟨s1.heap.objs.size + 4,_,_,_,H2,rfl,I2.kept (t':=s1.toks) b6,JJ (Itup.lt (X:=X) (pins:=pins) (σ:=σ) (H:=H2) p1) (Itup.lt (X:=X) (pins:=pins) (σ:=σ) (H:=H2) p2),⟨b1,b2,⟨_,_,b3⟩,b4,b5⟩,fun c hc=>?_,q⟩
  have hle:s1.heap.objs.size <= c:=by
    simp only [List.mem_cons,List.not_mem_nil,or_false] at hc
    rcases hc with z | z | z | z | z <;> (rw [z];first | exact Nat.le_refl _ | exact Nat.le_add_right _ _)
  exact I2.fpOk hle (I2.hok.fresh hle)
end L2
namespace L2.DL
open PySem PySem.Spec PyProof.Rows
section
variable {X : Cx} {T : Fr} {Z : Xs} {a b : Expr} {p pos tp : Pos} {elts : List Expr} {kt : Nat} {k : DE (List W)}
noncomputable def zipW:List D->List D->List W
  | x :: l,y :: r=>.d (.tup [x,y]) :: zipW l r
  | _,_=>[]
theorem CS:∀ (l r:List D),(zipW l r).length=min l.length r.length
  | [],_=>by simp [zipW]
  | _ :: _,[]=>by simp [zipW]
  | _ :: l,_ :: r=>by simp only [zipW,List.length_cons,CS l r];omega
theorem CT:∀ {l r:List D}{i:Nat}{w:W},(zipW l r)[i]?=some w->∃ x y,l[i]?=some x /\ r[i]?=some y /\ w=.d (.tup [x,y])
  | [],_,_,_,e=>by simp [zipW] at e
  | _ :: _,[],_,_,e=>by simp [zipW] at e
  | x :: l,y :: r,0,w,e=>by simp [zipW] at e;exact ⟨x,y,rfl,rfl,e.symm⟩
  | x :: l,y :: r,i + 1,w,e=>by
    have e':(zipW l r)[i]?=some w:=by simpa [zipW] using e
    obtain ⟨x',y',h1,h2,h3⟩:=CT e'
    exact ⟨x',y',by simpa using h1,by simpa using h2,h3⟩
noncomputable def dZip (k:DE (List W)):DE (List W):=fun env bx=>fE (k env bx) fun ws bx1=>match ws with
  | [.d (.tup l),.d (.tup r)]=>.val (zipW l r) bx1
  | _=>.bad
theorem DO {K:PySem.W.Frag}{F:Hp}{r:List Addr}{p q:Addr}{vs us:List V}{l m:List D} (hp:F p=some (.tup vs)) (hq:F q=some (.tup us)) (dl:DenL F l vs) (dm:DenL F m us):Yields F r (zipW l m) (Itz K p q):=by
  intro T i F1 r1 σ1 H1 env1 bx1 g R
  have s1:SqT K H1 p vs:=.of (R.fh _ _ (g.s _ _ hp))
  have s2:SqT K H1 q us:=.of (R.fh _ _ (g.s _ _ hq))
  have e1:=dl.length
  have e2:=dm.length
  refine ⟨fun hl=>?_,fun w e=>?_⟩
  . rw [CS] at hl
    exact ⟨vs,us,s1,s2,by omega⟩
  . obtain ⟨x,y,h1,h2,rfl⟩:=CT e
    obtain ⟨v,f1,d1⟩:=dl.get h1
    obtain ⟨u,f2,d2⟩:=dm.get h2
    refine ⟨⟨vs,us,v,u,s1,s2,f1,f2⟩,fun w H2 hy=>?_⟩
    obtain ⟨a,v',u',g1,g2,ha,rfl,rfl⟩:=hy vs us s1 s2
    rw [f1] at g1;cases g1
    rw [f2] at g2;cases g2
    have gr:=R.growD (o:=.tup [v,u]) ha
    exact ⟨_,gr,R.allocD ha,a,[v,u],rfl,fY,.cons (Den.mono (g.trans gr).s x d1) (.cons (Den.mono (g.trans gr).s y d2) .nil)⟩
theorem Mi (hg:Gl X "zip") (hm:X.mg "zip"=none) (ha:PDA X T Z [a,b] k) (hs:starEach [a,b] X.env=[(false,eval a X.env),(false,eval b X.env)]:=by rfl) (hs2:starEach [b] X.env=[(false,eval b X.env)]:=by rfl) :
    PID X T Z (.Tuple elts kt tp) (.Call (.Name "zip" p) [a,b] [] pos) (dZip k):=by
  refine PI.imp (NS hg hm ha hs hs2) fun σ H Q ⟨F,r,env,bx,R,h⟩=>?_
  refine ⟨F,r,env,bx,R,End.bind h fun ws bx1 F1 r1 vs H1 g1 R1 d1 h1=>?_⟩
  split at h1
  . rename_i l m
    obtain ⟨v,t,rfl,⟨p,us,rfl,k1,k2⟩,v2,t2,rfl,⟨q,us2,rfl,k3,k4⟩,rt⟩:=d1
    cases (show t2=[] from rt)
    exact ⟨p,q,us,us2,rfl,.of (R1.fh _ _ k1),.of (R1.fh _ _ k3),h1 F1 r1 _ H1 (.refl F1 r1) R1 (DO k1 k3 k2 k4)⟩
  . exact h1.elim
end
end L2.DL
set_option Elab.async false
set_option linter.all false
set_option maxRecDepth 100000
set_option maxHeartbeats 4000000
namespace L2.DL
open PySem PySem.Spec PyProof.Rows
section
variable {X : Cx} {T : Fr} {Z : Xs} {tg a : Expr} {pos p : Pos}
noncomputable def iSeq (K:PySem.W.Frag) (tl:TE):TI:=fun σ H R=>tl σ H fun x H1=>(∃ a,x=.ref a /\ (∃ xs,SqL K H1 a xs) /\ R (Itl K a) H1) \/ ∃ a,x=.ref a /\ (∃ xs,SqT K H1 a xs) /\ R (Itt K a) H1
theorem NT {l:Expr}{tl:TE} (hl:PE X l tl):PI X tg l (iSeq X.K tl):=by
  intro pins s σ H R I h
  refine thn (hl pins s σ H _ I h) fun v s1 ⟨x,H1,I1,r1,q1⟩=>?_
  rcases q1 with ⟨a,rfl,⟨xs,hq⟩,q⟩ | ⟨a,rfl,⟨xs,hq⟩,q⟩
  . cases r1
    obtain ⟨its,rv,p,hz⟩:=I1.list hq
    refine wpAny_pyIter_list p.isList ⟨s1.heap.objs.size,[s1.heap.objs.size],_,_,H1,rfl,I1.kept (t':=s1.toks) fun b o e=>Heap.get?_push_of_some _ e,Gi a _,⟨_,Heap.get?_push_size _ rfl,rfl,rfl⟩,fun b hb=>?_,q⟩
    cases List.mem_singleton.mp hb
    exact I1.fpOk (Nat.le_refl _) (I1.hok.fresh (Nat.le_refl _))
  . cases r1
    obtain ⟨its,rv,p,hz⟩:=I1.tuple hq
    refine wpAny_pyIter_tuple (show s1.heap.IsTuple a its.toArray from p) ⟨s1.heap.objs.size,[s1.heap.objs.size],_,_,H1,rfl,I1.kept (t':=s1.toks) fun b o e=>Heap.get?_push_of_some _ e,Dt a _,⟨_,Heap.get?_push_size _ rfl,rfl,rfl⟩,fun b hb=>?_,q⟩
    cases List.mem_singleton.mp hb
    exact I1.fpOk (Nat.le_refl _) (I1.hok.fresh (Nat.le_refl _))
theorem CU {K:PySem.W.Frag}{F:Hp}{r:List Addr}{a:Addr}{vs:List V}{l:List D} (k1:F a=some (.lst vs)) (k2:DenL F l vs):Yields F r (l.map W.d) (Itl K a):=fun T' i F2 r2 σ2 H2 env2 bx2 g2 R2=>by
  have hq:SqL K H2 a vs:=.of (R2.fh _ _ (g2.s _ _ k1))
  refine ⟨fun hl=>?_,fun w e=>?_⟩
  . rw [List.length_map,k2.length] at hl
    exact ⟨vs,hq,Nat.le_of_eq hl⟩
  . obtain ⟨d,e1,rfl⟩:=Bv (F:=F) (r:=r) e
    obtain ⟨u,e2,du⟩:=k2.get e1
    refine ⟨⟨vs,u,hq,e2⟩,fun x H3 ⟨e3,hy⟩=>?_⟩
    subst e3
    have e4:vs[i]?=some x:=hy vs hq
    rw [e2] at e4
    cases e4
    exact ⟨F2,.refl F2 r2,R2,Den.mono g2.s d du⟩
theorem DP {K:PySem.W.Frag}{F:Hp}{r:List Addr}{a:Addr}{vs:List V}{l:List D} (k1:F a=some (.tup vs)) (k2:DenL F l vs):Yields F r (l.map W.d) (Itt K a):=fun T' i F2 r2 σ2 H2 env2 bx2 g2 R2=>by
  have hq:SqT K H2 a vs:=.of (R2.fh _ _ (g2.s _ _ k1))
  refine ⟨fun hl=>?_,fun w e=>?_⟩
  . rw [List.length_map,k2.length] at hl
    exact ⟨vs,hq,Nat.le_of_eq hl⟩
  . obtain ⟨d,e1,rfl⟩:=Bv (F:=F) (r:=r) e
    obtain ⟨u,e2,du⟩:=k2.get e1
    refine ⟨⟨vs,u,hq,e2⟩,fun x H3 ⟨e3,hy⟩=>?_⟩
    subst e3
    have e4:vs[i]?=some x:=hy vs hq
    rw [e2] at e4
    cases e4
    exact ⟨F2,.refl F2 r2,R2,Den.mono g2.s d du⟩
theorem iF {ma:DE W} (ha:PD X T Z a ma):PID X T Z tg a (dIter ma):=by
  refine PI.imp (NT ha) fun σ H Q ⟨F,r,env,bx,R,h⟩=>?_
  refine ⟨F,r,env,bx,R,End.bind h fun w bx1 F1 r1 v H1 g1 R1 d1 h1=>?_⟩
  split at h1
  . rename_i l
    obtain ⟨p,vs,rfl,k1,k2⟩:=d1
    exact .inl ⟨p,rfl,⟨vs,.of (R1.fh _ _ k1)⟩,h1 F1 r1 _ H1 (.refl F1 r1) R1 (CU k1 k2)⟩
  . rename_i l
    obtain ⟨p,vs,rfl,k1,k2⟩:=d1
    exact .inr ⟨p,rfl,⟨vs,.of (R1.fh _ _ k1)⟩,h1 F1 r1 _ H1 (.refl F1 r1) R1 (DP k1 k2)⟩
  . exact h1.elim
theorem As {x:Str}{v:Int} (hg:Gl X x) (hm:∃ t,X.mg x=some (.int v t)) (hd:(x == ("__debug__":Str))=false:=by decide):PD X T Z (.Name x pos) (dC (.int v)):=by
  obtain ⟨t,hm⟩:=hm
  exact CF (LK (v:=.int v) hg hm ⟨t,rfl⟩ hd) fun _=>rfl
end
noncomputable def compChk (XN:List Str) (sc cs:Scope) (N:List Str) (src:List (Option Nat)):Bool :=
  decide (cs.kind=.function) && cs.names.all (fun y=>decide (y.2 ≠ .cell)) && cs.names.all (fun y=>decide (y.2=.local->cs.names.lookup y.1=some .local)) &&
  cs.names.all (fun y=>decide (y.2=.free->(sc.names.lookup y.1=some .cell \/ sc.names.lookup y.1=some .free))) && decide (src.length=N.length) &&
  (List.range src.length).all fun j=>match src[j]?,N[j]? with
    | some (some i),some x=>decide (XN[i]?=some x /\ cs.names.lookup x=some .free)
    | _,_=>true
theorem gh {X:Cx}{N XN:List Str}{src:List (Option Nat)}{sc cs:Scope} (hX:∀ x,X.env.kindOf x=sc.names.lookup x) (hN:X.N=XN) (h:compChk XN sc cs N src=true):CompScope X N src cs:=by
  subst hN
  unfold compChk at h
  simp only [Bool.and_eq_true,decide_eq_true_eq,List.all_eq_true] at h
  obtain ⟨⟨⟨⟨⟨h1,h2⟩,h3⟩,h4⟩,h5⟩,h6⟩:=h
  refine ⟨h1,fun y hy=>h2 y hy,fun y hy=>h3 y hy,fun y hy hf=>?_,h5,fun j i x e1 e2=>?_⟩
  . rw [hX];exact h4 y hy hf
  . have q:=h6 j (List.mem_range.mpr (List.getElem?_eq_some_iff.mp e1).1)
    rw [e1,e2] at q
    exact of_decide_eq_true q
section
variable (P : Program) (w : World) (K : PySem.W.Frag) (mg : Str -> Option Value) (base : Heap) (cl : Nat -> Addr)
noncomputable def Has (k:Nat) (x:Str) (ps:List Str) (fn:List W->List Bx->O W):Prop :=
  ∃ (f:Addr) (fd:FuncData),FnOk P w K mg base (CXr P w) k f fd ps (spD cl ps.length fn) /\ mg x=some (.ref f) /\ PySem.W.keepIn K (.ref f)=true /\ Binds K fd ps [] /\ ∃ o:Obj,K.lookup f=some o /\ o.data=.func fd
noncomputable def Def (x:Str) (st:Stmt) (ps:List Str):Prop:=∃ (f:Addr) (fd:FuncData),Fun K x x st f fd /\ mg x=some (.ref f) /\ Binds K fd ps []
end
section
variable {P : Program} {w : World} {K : PySem.W.Frag} {mg : Str -> Option Value} {base : Heap} {cl : Nat -> Addr} {k : Nat} {x : Str} {st : Stmt} {N ps : List Str} {m : DSt} {fn : List W -> List Bx -> O W} {nn kk : Nat}
theorem _root_.L2.Fun.obj {qual:Str}{f:Addr}{fd:FuncData} (F:Fun K x qual st f fd):∃ o:Obj,K.lookup f=some o /\ o.data=.func fd:=by
  obtain ⟨⟨oc,od,kV,doc,pm,an,cdv,ct,osl,_,l,_⟩,_⟩:=F
  exact ⟨_,l,rfl⟩
theorem gn (d:Def K mg x st ps) (S:FnScope N ps (fq st))
    (hbody:∀ (f:Addr) (cdv:Value) (A:Around) (outer:List Env) (s:Shared) (H:Hp) (E:XK) (n:Nat) (F0:Hp),Room k (A.deeper (envOfC x (fq st) s.heap.objs.size f cdv)) ->
      PSDs (cxOf CX0 P w K mg base N x (fq st) f cdv A outer s H E).nox ⟨H,n,F0⟩ ⟨E0,cl⟩ (fQ st) m) (hn:N.length=nn:=by rfl) (hkk:k + 1=kk:=by rfl):Has P w K mg base cl kk x ps (fnD nn (noX m)):=by
  subst hn hkk
  obtain ⟨f,fd,F,hm,hb⟩:=d
  exact ⟨f,fd,OF F S (fun cdv A outer s H E n F0 hr=>hbody f cdv A outer s H E n F0 hr),hm,F.kp,hb,F.obj⟩
end
section
variable {X : Cx} {T : Fr} {Z : Xs} {e : Expr} {es : List Expr} {pos p : Pos} {k k' : Nat} {x : Str} {ps : List Str} {fn : List W -> List Bx -> O W} {m : DE (List W)} {nn : Nat}
theorem NU (h:Has X.prog X.w X.K X.mg X.base Z.cl k x ps fn) (hr:Room k' X.A) (hk:k <= k') (hg:Gl X x) (hx:Passes (CXr X.prog X.w) X Z.E) (ha:PDA X T Z (e :: es) m) (hdb:(x == ("__debug__":Str))=false:=by decide)
    (he:starEach (e :: es) X.env=(false,eval e X.env) :: starEach es X.env:=by rfl) (hpl:(backTo pos (starEach es X.env)).any (·.1)=false:=by rfl) (hn:ps.length=nn:=by rfl):PD X T Z (.Call (.Name x p) (e :: es) [] pos) (fk fn nn m):=by
  subst hn
  obtain ⟨f,fd,G,hm,hkp,hb,_⟩:=h
  exact L7 G (hr.mono hk) hg hm hkp hb hx ha hdb he hpl
end
structure Bas (K:PySem.W.Frag) (mg:Str->Option Value) (bs:List Str):Prop where
  nb:∀ x,x ∈ bs->mg x=none
  ti:Tys K "int"
  tb:Tys K "bool"
  tt:Tys K "tuple"
  tl:Tys K "list"
end L2.DL
set_option Elab.async false
set_option linter.all false
set_option maxRecDepth 100000
set_option maxHeartbeats 4000000
namespace HT
open PySem PySem.Spec PyProof.Rows
structure SB (kd:SortKind) (b:Array Keyed) (z:SortSt):Prop where
  pm:(arrOf z).Perm b
  kd:kindOf z=kd
  fl:failedOf z=none
  pn:pendingOf z=#[]
theorem SB.len {kd:SortKind}{b:Array Keyed}{z:SortSt} (g:SB kd b z):(arrOf z).size=b.size:=g.pm.size_eq
theorem SB.put {kd:SortKind}{b:Array Keyed}{z:SortSt} (g:SB kd b z) {c:Array Keyed} (q:c.Perm (arrOf z)):SB kd b (setArr z c):=⟨q.trans g.pm,g.kd,g.fl,g.pn⟩
section
variable {prog : Program} {w : World} {A : Around} {E : Value -> Shared -> Prop} {s : Shared}
noncomputable def Cmp (prog:Program) (w:World) (A:Around) (E:Value->Shared->Prop) (s:Shared) (κ:KeyKind) (kd:SortKind) (b:Array Keyed):Prop :=
  ∀ (x y:Keyed),x ∈ b.toList->y ∈ b.toList->∀ (Q:Bool->Shared->Prop) (E':Value->Shared->Prop),Q (κ.blt ((κ.keyOf x.1).getD κ.dflt) ((κ.keyOf y.1).getD κ.dflt)) s->wpAny (model prog w) A (keyLt' kd x.1 y.1) Q E' s
variable {κ : KeyKind} {kd : SortKind} {b : Array Keyed}
noncomputable abbrev kx (κ:KeyKind) (z:SortSt) (i:Nat):κ.α:=KK κ (arrOf z) i
theorem SB.item {z:SortSt} (g:SB kd b z) {i:Nat} (hi:i < b.size):∃ x,(arrOf z)[i]?=some x /\ x ∈ b.toList /\ kx κ z i=(κ.keyOf x.1).getD κ.dflt:=by
  have hz:i < (arrOf z).size:=g.len ▸ hi
  refine ⟨(arrOf z)[i],getElem?_pos _ i hz,(Array.perm_iff_toList_perm.mp g.pm).mem_iff.mp (by simp),?_⟩
  simp only [kx,KK,getElem?_pos (arrOf z) i hz]
theorem ask (C:Cmp prog w A E s κ kd b) {z:SortSt} (g:SB kd b z) {i j:Nat} (hi:i < b.size) (hj:j < b.size) {Q:Option Bool->SortSt->Prop}
    (q:Q (some (κ.blt (kx κ z i) (kx κ z j))) z):wpS (model prog w) A E s (ltAt' i j) Q z:=by
  obtain ⟨x,ex,mx,kx'⟩:=g.item (κ:=κ) hi
  obtain ⟨y,ey,my,ky'⟩:=g.item (κ:=κ) hj
  rw [kx',ky'] at q
  rw [ltAt'_eq]
  refine wpS_bind (wpS_get ?_)
  dsimp only
  rw [elem'_eq,elem'_eq,ex,ey]
  refine wpS_bind (wpS_pure (wpS_bind (wpS_pure ?_)))
  rw [lt'_eq]
  refine wpS_bind (wpS_get ?_)
  rw [g.kd]
  exact wpS_bind (wpS_lift (wpAny_attempt (C x y mx my _ _ ⟨rfl,wpS_pure q⟩)))
noncomputable def Up (κ:KeyKind) (z:SortSt) (n:Nat):Prop:=∀ i j,i <= j->j < n->κ.kle (kx κ z i) (kx κ z j)
noncomputable def Dn (κ:KeyKind) (z:SortSt) (n:Nat):Prop:=∀ i j,i <= j->j < n->κ.kle (kx κ z j) (kx κ z i)
theorem Up.one {z:SortSt}{n:Nat} (h:n <= 1):Up κ z n:=fun i j a c=>by
  have e:i=j:=by omega
  subst e;exact KeyOrd.kle_refl _
theorem Up.more {z:SortSt}{n:Nat} (u:Up κ z n) (h:1 <= n) (l:κ.kle (kx κ z (n - 1)) (kx κ z n)):Up κ z (n + 1):=fun i j a c=>by
  rcases Nat.lt_or_ge j n with c' | c'
  . exact u i j a c'
  obtain rfl:j=n:=by omega
  rcases Nat.lt_or_ge i j with a' | a'
  . exact KeyOrd.kle_trans (u i (j - 1) (by omega) (by omega)) l
  . obtain rfl:i=j:=by omega
    exact KeyOrd.kle_refl _
theorem Dn.more {z:SortSt}{n:Nat} (u:Dn κ z n) (h:1 <= n) (l:κ.kle (kx κ z n) (kx κ z (n - 1))):Dn κ z (n + 1):=fun i j a c=>by
  rcases Nat.lt_or_ge j n with c' | c'
  . exact u i j a c'
  obtain rfl:j=n:=by omega
  rcases Nat.lt_or_ge i j with a' | a'
  . exact KeyOrd.kle_trans l (u i (j - 1) (by omega) (by omega))
  . obtain rfl:i=j:=by omega
    exact KeyOrd.kle_refl _
theorem asc (C:Cmp prog w A E s κ kd b) {z:SortSt} (g:SB kd b z) {a n:Nat} (hn:n <= b.size) (h1:1 <= a) (h2:a <= n) (u:Up κ z a) {Q:AscSt->SortSt->Prop}
    (q:∀ m,a <= m->m <= n->Up κ z m->(m < n->κ.klt (kx κ z m) (kx κ z (m - 1)))->Q (none,m) z):wpS (model prog w) A E s (ascLoop a n) Q z:=by
  unfold ascLoop
  refine wpS_forRange (I:=fun m c y=>y=z /\ c=(none,m) /\ Up κ z m) ?_ ?_ ⟨rfl,rfl,u⟩
  . intro m c y g1 g2 ⟨e1,e2,u'⟩
    subst e1;subst e2
    refine wpS_bind (ask C g (show m < b.size by omega) (show m - 1 < b.size by omega) ?_)
    cases e:κ.blt (kx κ y m) (kx κ y (m - 1)) with
    | true=>exact wpS_pure (q m g1 (Nat.le_of_lt g2) u' fun _=>e)
    | false=>exact wpS_pure ⟨rfl,rfl,u'.more (by omega) e⟩
  . intro c y ⟨e1,e2,u'⟩
    subst e1;subst e2
    rw [Nat.max_eq_right h2] at u' ⊢
    exact q n h2 (Nat.le_refl n) u' fun h=>absurd h (Nat.lt_irrefl n)
theorem FJ {z:SortSt}{i j k:Nat} (hj:j <= (arrOf z).size):kx κ (setArr z (mirror (arrOf z) i j ((j - i) / 2))) k=if i <= k /\ k < j then kx κ z (i + j - 1 - k) else kx κ z k:=KK_mirror (κ:=κ) hj k
theorem m7 {z:SortSt}{i j:Nat} (hj:j <= (arrOf z).size) (e:∀ k,i <= k->k < j->kx κ z k=kx κ z (j - 1)) (k:Nat):kx κ (setArr z (mirror (arrOf z) i j ((j - i) / 2))) k=kx κ z k:=KK_mirror_equal (κ:=κ) hj e k
noncomputable def Ends (prog:Program) (w:World) (A:Around) (E:Value->Shared->Prop) (s:Shared) (κ:KeyKind) (kd:SortKind) (b:Array Keyed) (n:Nat) (Q:Option Nat->SortSt->Prop):Prop :=
  ∀ m y,SB kd b y->1 <= m->m <= n->Up κ y m->Q (some m) y
theorem turned (C:Cmp prog w A E s κ kd b) {z:SortSt} (g:SB kd b z) {a n:Nat} (hn:n <= b.size) (h1:1 <= a) (h2:a <= n) (d:Dn κ z a) {Q:Option Nat->SortSt->Prop} (q:Ends prog w A E s κ kd b n Q) :
    wpS (model prog w) A E s (tail3 a n) Q z:=by
  have hz:a <= (arrOf z).size:=g.len ▸ Nat.le_trans h2 hn
  have g':SB kd b (setArr z (mirror (arrOf z) 0 a ((a - 0) / 2))):=g.put (mirror_perm _ _ _ _)
  unfold tail3
  refine wpS_bind (wpS_reverse (wpS_bind (asc C g' hn h1 h2 (fun i j c1 c2=>?_) fun m m1 m2 um _=>wpS_pure (q m _ g' (Nat.le_trans h1 m1) m2 um))))
  rw [FJ hz,FJ hz,if_pos ⟨Nat.zero_le i,by omega⟩,if_pos ⟨Nat.zero_le j,c2⟩]
  exact d _ _ (by omega) (by omega)
noncomputable def Alike (κ:KeyKind) (z:SortSt) (m e:Nat):Prop:=e + 1 <= m /\ ∀ i,m - (e + 1) <= i->i < m->kx κ z i=kx κ z (m - 1)
theorem Alike.zero {z:SortSt}{m:Nat} (h:1 <= m):Alike κ z m 0:=⟨h,fun i h1 h2=>by rw [show i=m - 1 by omega]⟩
theorem desc (C:Cmp prog w A E s κ kd b) {z:SortSt} (g:SB kd b z) {a n:Nat} (hn:n <= b.size) (h1:1 <= a) (h2:a <= n) (d:Dn κ z a) {Q:DescSt->SortSt->Prop}
    (q:∀ m e y,SB kd b y->a <= m->m <= n->Dn κ y m->Alike κ y m e->Q (none,m,e) y):wpS (model prog w) A E s (descLoop a n) Q z:=by
  unfold descLoop
  refine wpS_forRange (I:=fun m c y=>∃ e,c=(none,m,e) /\ SB kd b y /\ Dn κ y m /\ Alike κ y m e) ?_ ?_ ⟨0,rfl,g,d,.zero h1⟩
  . intro m c y g1 g2 ⟨e,ec,gy,dy,al⟩
    subst ec
    have hm:m <= (arrOf y).size:=by rw [gy.len];omega
    refine wpS_bind (ask C gy (show m < b.size by omega) (show m - 1 < b.size by omega) ?_)
    cases t:κ.blt (kx κ y m) (kx κ y (m - 1)) with
    | true =>
      have d':Dn κ y (m + 1):=dy.more (by omega) (KeyOrd.kle_of_klt t)
      dsimp only
      rw [if_pos rfl]
      by_cases he:e > 0
      . rw [if_pos he]
        refine wpS_bind (wpS_reverse (wpS_pure ⟨0,rfl,gy.put (mirror_perm _ _ _ _),fun i j c1 c2=>?_,.zero (by omega)⟩))
        rw [m7 hm al.2,m7 hm al.2]
        exact d' i j c1 c2
      . rw [if_neg he]
        exact wpS_pure ⟨0,rfl,gy,d',.zero (by omega)⟩
    | false =>
      dsimp only
      rw [if_neg (by simp)]
      refine wpS_bind (ask C gy (show m - 1 < b.size by omega) (show m < b.size by omega) ?_)
      cases t2:κ.blt (kx κ y (m - 1)) (kx κ y m) with
      | true=>exact wpS_pure (q m e y gy g1 (by omega) dy al)
      | false =>
        have eq:kx κ y m=kx κ y (m - 1):=KeyOrd.kle_antisymm t2 t
        refine wpS_pure ⟨e + 1,rfl,gy,dy.more (by omega) t2,by have:=al.1;omega,fun i c1 c2=>?_⟩
        rw [show m + 1 - 1=m by omega]
        by_cases hi:i=m
        . rw [hi]
        . rw [eq];exact al.2 i (by omega) (by omega)
  . intro c y ⟨e,ec,gy,dy,al⟩
    subst ec
    rw [Nat.max_eq_right h2] at dy al ⊢
    exact q n e y gy h2 (Nat.le_refl n) dy al
theorem fall (C:Cmp prog w A E s κ kd b) {z:SortSt} (g:SB kd b z) {a n:Nat} (hn:n <= b.size) (h2:a + 1 <= n) (d:Dn κ z (a + 1)) {Q:Option Nat->SortSt->Prop} (q:Ends prog w A E s κ kd b n Q) :
    wpS (model prog w) A E s (descPart a n) Q z:=by
  unfold descPart
  refine wpS_bind (wpS_lift (wpAny_rule ⟨rfl,wpS_bind (desc C g hn (Nat.succ_pos a) h2 d fun m e y gy m1 m2 dy al=>?_)⟩))
  dsimp only
  by_cases he:e > 0
  . rw [if_pos he]
    have hm:m <= (arrOf y).size:=by rw [gy.len];omega
    refine wpS_bind (wpS_reverse (turned C (gy.put (mirror_perm _ _ _ _)) hn (by omega) m2 (fun i j c1 c2=>?_) q))
    rw [m7 hm al.2,m7 hm al.2]
    exact dy i j c1 c2
  . rw [if_neg he]
    exact turned C gy hn (by omega) m2 dy q
theorem count (C:Cmp prog w A E s κ kd b) {z:SortSt} (g:SB kd b z) {n:Nat} (hn:n <= b.size) (h1:1 <= n) {Q:Option Nat->SortSt->Prop} (q:Ends prog w A E s κ kd b n Q) :
    wpS (model prog w) A E s (countRun' 0 n) Q z:=by
  rw [countRun0_eq]
  refine wpS_bind (asc C g hn (Nat.le_refl 1) h1 (.one (Nat.le_refl 1)) fun m m1 m2 um last=>?_)
  dsimp only
  by_cases hm:m=n
  . rw [if_pos (by simp [hm])]
    exact wpS_pure (q m z g m1 m2 um)
  rw [if_neg (by simp [hm])]
  have lt:=last (by omega)
  by_cases h3:m > 1
  . rw [if_pos h3]
    refine wpS_bind (ask C g (show 0 < b.size by omega) (show m - 1 < b.size by omega) ?_)
    cases t:κ.blt (kx κ z 0) (kx κ z (m - 1)) with
    | true=>exact wpS_pure (q m z g m1 m2 um)
    | false =>
      dsimp only
      rw [if_neg (by simp)]
      have al:∀ k,0 <= k->k < m->kx κ z k=kx κ z (m - 1):=fun k _ hk =>
        KeyOrd.kle_antisymm (um k (m - 1) (by omega) (by omega)) (KeyOrd.kle_trans t (um 0 k (Nat.zero_le k) hk))
      have hz:m <= (arrOf z).size:=by rw [g.len];omega
      refine wpS_bind (wpS_reverse (fall C (g.put (mirror_perm _ _ _ _)) hn (by omega) (fun i j c1 c2=>?_) q))
      rw [m7 hz al,m7 hz al]
      have d0:Dn κ z m:=fun i j c1 c2=>by rw [al i (Nat.zero_le _) (by omega),al j (Nat.zero_le _) c2];exact KeyOrd.kle_refl _
      exact d0.more m1 (KeyOrd.kle_of_klt lt) i j c1 c2
  . rw [if_neg h3]
    obtain rfl:m=1:=by omega
    have d0:Dn κ z 1:=fun i j c1 c2=>by
      obtain rfl:i=j:=by omega
      exact KeyOrd.kle_refl _
    exact fall C g hn (by omega) (d0.more (Nat.le_refl 1) (KeyOrd.kle_of_klt lt)) q
end
end HT
set_option Elab.async false
set_option linter.all false
set_option maxRecDepth 100000
set_option maxHeartbeats 4000000
namespace HT
open PySem PySem.Spec PyProof.Rows
section
variable {prog : Program} {w : World} {A : Around} {E : Value -> Shared -> Prop} {s : Shared} {κ : KeyKind} {kd : SortKind} {b : Array Keyed}
noncomputable def Fits (κ:KeyKind) (z:SortSt) (k l r:Nat):Prop:=(∀ i,i < l->κ.kle (kx κ z i) (kx κ z k)) /\ ∀ i,r <= i->i < k->κ.klt (kx κ z k) (kx κ z i)
theorem FK {z:SortSt}{k l i:Nat} (hk:k < (arrOf z).size) (hl:l <= k):kx κ (setArr z (bubble (arrOf z) k (k - l))) i=if i=l then kx κ z k else if l < i /\ i <= k then kx κ z (i - 1) else kx κ z i:=by
  have e:=KK_bubble (κ:=κ) hk (Nat.sub_le k l) i
  rw [show k - (k - l)=l by omega] at e
  exact e
theorem Up.insert {z:SortSt}{k l:Nat} (u:Up κ z k) (hk:k < (arrOf z).size) (hl:l <= k) (f:Fits κ z k l l):Up κ (setArr z (bubble (arrOf z) k (k - l))) (k + 1):=by
  intro i j c1 c2
  rw [FK hk hl,FK hk hl]
  by_cases i1:i=l
  . rw [if_pos i1]
    by_cases j1:j=l
    . rw [if_pos j1];exact KeyOrd.kle_refl _
    . rw [if_neg j1,if_pos ⟨by omega,by omega⟩]
      exact KeyOrd.kle_of_klt (f.2 _ (by omega) (by omega))
  . rw [if_neg i1]
    by_cases i2:l < i /\ i <= k
    . rw [if_pos i2,if_neg (by omega),if_pos ⟨by omega,by omega⟩]
      exact u _ _ (by omega) (by omega)
    . rw [if_neg i2]
      by_cases j1:j=l
      . rw [if_pos j1];exact f.1 i (by omega)
      . rw [if_neg j1]
        by_cases j2:l < j /\ j <= k
        . rw [if_pos j2];exact u _ _ (by omega) (by omega)
        . rw [if_neg j2];exact u _ _ c1 (by omega)
theorem insAll (C:Cmp prog w A E s κ kd b) {z:SortSt} (g:SB kd b z) {n m:Nat} (hn:n <= b.size) (hm:m <= n) (u:Up κ z m) {Q:Bool->SortSt->Prop} (q:∀ y,SB kd b y->Up κ y n->Q true y) :
    wpS (model prog w) A E s (binarySort' 0 n m) Q z:=by
  rw [binarySort'_eq]
  simp only [Nat.zero_add]
  refine wpS_bind (wpS_mono (Q:=fun c y=>c=(none,()) /\ SB kd b y /\ Up κ y n) (wpS_forRange (I:=fun k c y=>c=(none,()) /\ SB kd b y /\ Up κ y (min k n)) ?_ ?_ ?_) ?_)
  . intro k c y k1 k2 ⟨ec,gy,uy⟩
    subst ec
    rw [Nat.min_eq_left (Nat.le_of_lt k2)] at uy
    have kb:k < b.size:=by omega
    have ks:k < (arrOf y).size:=by rw [gy.len];exact kb
    refine wpS_bind (wpS_mono (Q:=fun c y'=>y'=y /\ ∃ l r,c=(none,l,r) /\ l <= k /\ Fits κ y k l l) (wpS_forRange (I:=fun x c y'=>y'=y /\ ∃ l r,c=(none,l,r) /\ l <= r /\ r <= k /\ r - l <= k - x /\ Fits κ y k l r) ?_ ?_ ?_) ?_)
    . intro x c y' _ x2 ⟨ey,l,r,ec,p1,p2,p3,f⟩
      subst ey;subst ec
      dsimp only
      by_cases lr:l >= r
      . rw [if_pos lr]
        obtain rfl:l=r:=by omega
        exact wpS_pure ⟨rfl,l,l,rfl,p2,f⟩
      rw [if_neg lr]
      refine wpS_bind (ask C gy kb (show (l + r) / 2 < b.size by omega) ?_)
      cases t:κ.blt (kx κ y' k) (kx κ y' ((l + r) / 2)) with
      | true=>exact wpS_pure ⟨rfl,l,(l + r) / 2,rfl,by omega,by omega,by omega,f.1,fun i i1 i2=>KeyOrd.klt_of_klt_of_kle t (uy _ _ i1 i2)⟩
      | false=>exact wpS_pure ⟨rfl,(l + r) / 2 + 1,r,rfl,by omega,by omega,by omega,fun i i1=>KeyOrd.kle_trans (uy i ((l + r) / 2) (by omega) (by omega)) t,f.2⟩
    . intro c y' ⟨ey,l,r,ec,p1,p2,p3,f⟩
      obtain rfl:l=r:=by omega
      exact ⟨ey,l,l,ec,p2,f⟩
    . exact ⟨rfl,0,k,rfl,Nat.zero_le k,Nat.le_refl k,Nat.le_refl _,fun i hi=>absurd hi (Nat.not_lt_zero i),fun i i1 i2=>absurd i2 (by omega)⟩
    . intro c y' ⟨ey,l,r,ec,p,f⟩
      subst ey;subst ec
      show wpS _ _ _ _ (moveDown' k l >>= fun _=>pure (ForInStep.yield (none,()))) _ _
      rw [moveDown'_eq]
      refine wpS_bind (wpS_modify (wpS_pure ⟨rfl,gy.put (bubble_perm _ _ _),?_⟩))
      rw [Nat.min_eq_left k2]
      exact uy.insert ks p f
  . intro c y ⟨ec,gy,uy⟩
    rw [show min (max (max m 1) n) n=n by omega] at uy
    exact ⟨ec,gy,uy⟩
  . refine ⟨rfl,g,?_⟩
    rcases Nat.lt_or_ge m 1 with m0 | m0
    . exact .one (by omega)
    . rw [show min (max m 1) n=m by omega];exact u
  . intro c y ⟨ec,gy,uy⟩
    subst ec
    exact wpS_pure (q y gy uy)
noncomputable def Fin' (κ:KeyKind) (b:Array Keyed) (y:SortSt):Prop:=(arrOf y).Perm b /\ failedOf y=none /\ pendingOf y=#[(0,b.size,0)] /\ Up κ y b.size
theorem SB.fin {y:SortSt} (g:SB kd b y) (u:Up κ y b.size):Fin' κ b (setPending y ((pendingOf y).push (0,b.size,0))):=⟨g.pm,g.fl,by show (pendingOf y).push _=_;rw [g.pn];rfl,u⟩
theorem runs (C:Cmp prog w A E s κ kd b) {z:SortSt} (g:SB kd b z) (h2:2 <= b.size) (h64:b.size < 64) {Q:Unit->SortSt->Prop} (q:∀ y,(arrOf y).Perm b->failedOf y=none->Up κ y b.size->Q () y) :
    wpS (model prog w) A E s sortRuns' Q z:=by
  have mr:minRun' b.size b.size 0=b.size:=by
    obtain ⟨f,e⟩:=Nat.exists_eq_add_of_lt (show 0 < b.size by omega)
    have:minRun' (0 + f + 1) b.size 0=b.size:=by rw [minRun'_succ,if_pos h64];rfl
    rw [<-e] at this;exact this
  rw [sortRuns'_eq]
  refine wpS_bind (wpS_get ?_)
  dsimp only
  simp only [g.len,mr]
  refine wpS_bind (wpS_mono (Q:=fun c y=>c=(none,b.size) /\ Fin' κ b y)
    (wpS_forRange (I:=fun x c y=>if x=0 then c=(none,0) /\ SB kd b y else c=(none,b.size) /\ Fin' κ b y) ?_ ?_ (by rw [if_pos rfl];exact ⟨rfl,g⟩)) ?_)
  . intro x c y _ x2 I
    by_cases x0:x=0
    . rw [if_pos x0] at I
      obtain ⟨ec,gy⟩:=I
      subst ec;subst x0
      dsimp only
      rw [if_neg (by omega)]
      simp only [Nat.sub_zero,Nat.min_self,Nat.zero_add]
      have fin:∀ y',SB kd b y'->Up κ y' b.size->(if (1:Nat)=0 then ((none:Option PUnit),b.size)=(none,0) /\ SB kd b (setPending y' ((pendingOf y').push (0,b.size,0))) else ((none:Option PUnit),b.size)=(none,b.size) /\ Fin' κ b (setPending y' ((pendingOf y').push (0,b.size,0)))) :=
        fun y' g' u'=>by rw [if_neg (by omega)];exact ⟨rfl,g'.fin u'⟩
      refine wpS_bind (count C gy (Nat.le_refl _) (by omega) fun m y1 g1 m1 m2 u1=>?_)
      dsimp only
      by_cases lt:m < b.size
      . rw [if_pos lt]
        refine wpS_bind (wpS_lift (wpAny_rule ⟨rfl,wpS_bind (insAll C g1 (Nat.le_refl _) m2 u1 fun y3 g3 u3=>?_)⟩))
        rw [if_neg (by simp)]
        refine wpS_bind (wpS_get ?_)
        rw [show (pendingOf y3).back?=none by rw [g3.pn];rfl]
        exact wpS_bind (wpS_modify (wpS_pure (fin y3 g3 u3)))
      . rw [if_neg lt]
        obtain rfl:m=b.size:=by omega
        refine wpS_bind (wpS_get ?_)
        rw [show (pendingOf y1).back?=none by rw [g1.pn];rfl]
        exact wpS_bind (wpS_modify (wpS_pure (fin y1 g1 u1)))
    . rw [if_neg x0] at I
      obtain ⟨ec,fy⟩:=I
      subst ec
      dsimp only
      rw [if_pos (Nat.le_refl _)]
      exact wpS_pure ⟨rfl,fy⟩
  . intro c y I
    rw [if_neg (by omega)] at I
    exact I
  . intro c y ⟨ec,fy⟩
    subst ec
    dsimp only
    refine wpS_bind (wpS_mono (Q:=fun c y'=>y'=y /\ c=(none,())) (wpS_forRange (I:=fun _ c y'=>y'=y /\ c=(none,())) ?_ (fun _ _ h=>h) ⟨rfl,rfl⟩) ?_)
    . intro x c y' _ _ ⟨e1,e2⟩
      subst e1;subst e2
      refine wpS_bind (wpS_get ?_)
      rw [if_pos (by rw [fy.2.2.1];exact Nat.le_refl 1)]
      exact wpS_pure ⟨rfl,rfl⟩
    . intro c y' ⟨e1,e2⟩
      subst e1;subst e2
      exact wpS_pure (q _ fy.1 fy.2.1 fy.2.2.2)
end
end HT
set_option Elab.async false
set_option linter.all false
set_option maxRecDepth 100000
set_option maxHeartbeats 4000000
namespace HT
open PySem PySem.Spec PyProof.Rows
noncomputable def TupI (h:Heap) (v:Value) (ns:List Int):Prop:=∃ a vs,v=.ref a /\ IsTup h a vs.toArray /\ IntsAre vs ns /\ ns ≠ []
theorem Ag:∀ {vs:List Value}{ns ms:List Int},IntsAre vs ns->IntsAre vs ms->ns=ms
  | _,_,_,.nil,.nil=>rfl
  | _,_,_,.cons n t h,g=>by cases g with | cons _ _ g=>rw [Ag h g]
theorem TupI.inj {h:Heap}{v:Value}{ns ms:List Int} (p:TupI h v ns) (q:TupI h v ms):ns=ms:=by
  obtain ⟨a,vs,rfl,⟨o,e1,_,n,e2⟩,i1,_⟩:=p
  obtain ⟨a',vs',e,⟨o',f1,_,n',f2⟩,i2,_⟩:=q
  cases e
  rw [e1] at f1;cases f1
  rw [e2] at f2
  injection f2 with g _
  have:vs=vs':=by simpa using g
  subst this
  exact Ag i1 i2
theorem o7:∀ a,lexLt a a=false
  | []=>rfl
  | x :: a=>by rw [i3,if_pos rfl];exact o7 a
theorem oR:∀ a b c,lexLt a b=true->lexLt b c=true->lexLt a c=true
  | [],[],_,h,_=>by cases h
  | [],_ :: _,[],_,h=>by cases h
  | [],_ :: _,_ :: _,_,_=>rfl
  | _ :: _,[],_,h,_=>by cases h
  | _ :: _,_ :: _,[],_,h=>by cases h
  | x :: a,y :: b,z :: c,h,g=>by
    rw [i3] at *
    by_cases e1:x=y
    . subst e1
      rw [if_pos rfl] at h
      by_cases e2:x=z
      . subst e2;rw [if_pos rfl] at g ⊢;exact oR a b c h g
      . rw [if_neg e2] at g ⊢;exact g
    . rw [if_neg e1] at h
      by_cases e2:y=z
      . subst e2;rw [if_neg e1];exact h
      . rw [if_neg e2] at g
        have h':=of_decide_eq_true h
        have g':=of_decide_eq_true g
        rw [if_neg (by omega)]
        exact decide_eq_true (by omega)
theorem m8:∀ a b,lexLt a b=false->lexLt b a=false->a=b
  | [],[],_,_=>rfl
  | [],_ :: _,h,_=>by cases h
  | _ :: _,[],_,h=>by cases h
  | x :: a,y :: b,h,g=>by
    rw [i3] at *
    by_cases e:x=y
    . subst e;rw [if_pos rfl] at h g;rw [m8 a b h g]
    . rw [if_neg e] at h;rw [if_neg (Ne.symm e)] at g
      have h':=of_decide_eq_false h
      have g':=of_decide_eq_false g
      omega
theorem BD (a b c:List Int) (h:lexLt a c=true):lexLt a b=true \/ lexLt b c=true:=by
  cases e:lexLt a b with
  | true=>exact .inl rfl
  | false =>
    refine .inr ?_
    cases f:lexLt b a with
    | true=>exact oR b a c f h
    | false=>rw [<-m8 a b e f];exact h
open Classical in
noncomputable def tupKey (h:Heap):KeyKind where
  α:=List Int
  blt:=lexLt
  irrefl:=o7
  trans:=oR
  negTrans:=BD
  total:=m8
  keyOf v:=if p:∃ ns,TupI h v ns then some p.choose else none
  dflt:=[]
open Classical in
theorem m9 {h:Heap}{v:Value}{ns:List Int} (p:TupI h v ns):((tupKey h).keyOf v).getD []=ns:=by
  have e:∃ ns,TupI h v ns:=⟨ns,p⟩
  show (if p:∃ ns,TupI h v ns then some p.choose else none).getD []=ns
  rw [dif_pos e]
  exact TupI.inj e.choose_spec p
section
variable {prog : Program} {w : World} {A : Around} {E : Value -> Shared -> Prop} {s : Shared}
theorem DQ {x y:Int}{t u:Tok} (k:Bool) {Q:Bool->Shared->Prop} (h:Q (decide (x < y)) s):wpAny (model prog w) A (oneLt' k (.int x t) (.int y u)) Q E s:=by
  cases k with
  | true=>exact oneLt_int h
  | false =>
    rw [oneLt'_eq]
    rw [if_neg (by simp)]
    exact wpAny_bind (show wpAny (model prog w) A (richCompare .Lt (.int x t) (.int y u)) _ E s from (PyProof.Rows.lt_int (wpAny_truthy_bool h):wpAny (model prog w) A (compareOp .Lt (.int x t) (.int y u)) _ E s))
theorem B0 (f:Bool) (x y:Value):keyLt' (tuples' f) x y=(do
    let xs <-Builtin.List.listItems x
    let ys <-Builtin.List.listItems y
    for ((p,q),i) in (xs.toList.zip ys.toList).zipIdx do
      if !(<-eqBool p q) then return <-oneLt' (f && i == 0) p q
    return decide (xs.size < ys.size)):=rfl
theorem DR {f:Bool}{x y:Value}{ns ms:List Int} (hx:TupI s.heap x ns) (hy:TupI s.heap y ms) {Q:Bool->Shared->Prop} (h:Q (lexLt ns ms) s):wpAny (model prog w) A (keyLt' (tuples' f) x y) Q E s:=by
  obtain ⟨a,vs,rfl,⟨o,e1,_,n,e2⟩,i1,_⟩:=hx
  obtain ⟨a',us,rfl,⟨o',f1,_,n',f2⟩,i2,_⟩:=hy
  rw [B0]
  refine wpAny_bind (listItems_at e1 e2 (wpAny_bind (listItems_at f1 f2 ?_)))
  have L:∀ (vs us:List Value) (ns ms:List Int) (i:Nat),IntsAre vs ns->IntsAre us ms->∀ (R:(Option Bool × PUnit)->Shared->Prop),
      (∀ r,(r=(some (lexLt ns ms),PUnit.unit) \/ (r=(none,PUnit.unit) /\ lexLt ns ms=decide (vs.length < us.length)))->R r s) ->
      wpAny (model prog w) A (forIn ((vs.zip us).zipIdx i) ((none,PUnit.unit):Option Bool × PUnit) fun (z:(Value × Value) × Nat) _=>(do
        let z1 <-eqBool z.1.1 z.1.2
        if (!z1)=true then do
          let r <-oneLt' (f && z.2 == 0) z.1.1 z.1.2
          pure (ForInStep.done (some r,PUnit.unit))
        else pure (ForInStep.yield (none,PUnit.unit)))) R E s:=by
    intro vs
    induction vs with
    | nil =>
      intro us ns ms i p q R k
      cases p
      rw [List.zip_nil_left,List.zipIdx_nil,List.forIn_nil]
      refine wpAny_pure (k _ (.inr ⟨rfl,?_⟩))
      cases q with
      | nil=>rfl
      | cons m t q=>simp [mI]
    | cons v vs ih =>
      intro us ns ms i p q R k
      cases p with
      | cons n t p =>
        cases q with
        | nil =>
          rw [List.zip_nil_right,List.zipIdx_nil,List.forIn_nil]
          exact wpAny_pure (k _ (.inr ⟨rfl,by simp [mJ]⟩))
        | cons m u q =>
          rw [List.zip_cons_cons,List.zipIdx_cons,List.forIn_cons]
          refine wpAny_bind (wpAny_bind (wpAny_eqBool_int ?_))
          by_cases e:n=m
          . subst e
            rw [if_neg (by simp)]
            refine wpAny_pure ?_
            refine ih _ _ _ (i + 1) p q R fun r hr=>k r ?_
            rw [i3,if_pos rfl]
            rcases hr with hr | ⟨hr,hr2⟩
            . exact .inl hr
            . exact .inr ⟨hr,by rw [hr2];simp⟩
          . rw [if_pos (by simp [e])]
            refine wpAny_bind (DQ _ (wpAny_pure (wpAny_pure (k _ (.inl ?_)))))
            rw [i3,if_neg e]
  refine wpAny_bind (L vs us ns ms 0 i1 i2 _ fun r hr=>?_)
  rcases hr with rfl | ⟨rfl,e⟩
  . exact wpAny_pure h
  . refine wpAny_pure ?_
    rw [List.size_toArray,List.size_toArray,<-e]
    exact h
theorem Mj {vs:List Value} (H:∀ v ∈ vs,∃ ns,TupI s.heap v ns) (f:Bool):Cmp prog w A E s (tupKey s.heap) (tuples' f) (pairsOf vs):=by
  intro x y mx my Q E' q
  rw [pairsOf_toList] at mx my
  obtain ⟨ns,hx⟩:=H _ (mem_zip_self mx).2
  obtain ⟨ms,hy⟩:=H _ (mem_zip_self my).2
  refine DR hx hy ?_
  have e1:=m9 hx
  have e2:=m9 hy
  change Q (lexLt (((tupKey s.heap).keyOf x.1).getD []) (((tupKey s.heap).keyOf y.1).getD [])) s at q
  rw [e1,e2] at q
  exact q
theorem GH {v:Value}{ns:List Int} (p:TupI s.heap v ns) {Q:Option Value->Shared->Prop} (h:∀ i t,Q (some (.int i t)) s):wpAny (model prog w) A (firstOfTuple' v) Q E s:=by
  obtain ⟨a,vs,rfl,⟨o,e1,e3,n,e2⟩,i1,ne⟩:=p
  show wpAny (model prog w) A (do
    if (<-typeOf (.ref a)) != .type "tuple" then return none
    return (<-Builtin.List.listItems (.ref a))[0]?) Q E s
  refine wpAny_bind (wpAny_typeOf (T:="tuple") ⟨o,e1,e3⟩ ?_)
  rw [if_neg (by decide)]
  refine wpAny_bind (listItems_at e1 e2 (wpAny_pure ?_))
  cases i1 with
  | nil=>exact absurd rfl ne
  | cons i t _=>exact h i t
theorem AM:∀ {vs:List Value},(∀ v ∈ vs,∃ ns,TupI s.heap v ns)->∀ {Q:List (Option Value)->Shared->Prop},(∀ (us:List Value) (is:List Int),us.length=vs.length->IntsAre us is->Q (us.map some) s)->wpAny (model prog w) A (vs.mapM firstOfTuple') Q E s
  | [],_,Q,h=>by rw [List.mapM_nil];exact wpAny_pure (h [] [] rfl .nil)
  | v :: vs,H,Q,h=>by
    obtain ⟨ns,p⟩:=H v (List.mem_cons_self ..)
    rw [List.mapM_cons]
    refine wpAny_bind (GH p fun i t=>wpAny_bind (AM (fun u hu=>H u (List.mem_cons_of_mem _ hu)) fun us is e k=>wpAny_pure (h (.int i t :: us) (i :: is) (by simp [e]) (.cons i t k))))
theorem JK {vs:List Value} (ne:vs ≠ []) (H:∀ v ∈ vs,∃ ns,TupI s.heap v ns) {Q:SortKind->Shared->Prop} (h:Q (tuples' true) s):wpAny (model prog w) A (keyKind' vs.toArray) Q E s:=by
  rw [keyKind'_eq,List.mapM_toArray]
  refine wpAny_bind (show wpAny (model prog w) A (List.toArray <$> vs.mapM firstOfTuple') _ E s from ?_)
  rw [<-bind_pure_comp]
  refine wpAny_bind (AM H fun us is e k=>wpAny_pure ?_)
  rw [if_pos (by simp)]
  refine wpAny_bind (wpAny_rule ?_)
  have e1:((us.map some).toArray.filterMap id)=us.toArray:=by simp [List.filterMap_map]
  rw [e1,oneTypeOnly'_eq,List.mapM_toArray,mapM_typeOf_ints k]
  cases us with
  | nil=>exact absurd (List.eq_nil_of_length_eq_zero e.symm) ne
  | cons u us =>
    simp only [map_pure,pure_bind]
    rw [show ((u :: us).map fun _=>Value.type "int").toArray[0]?=some (Value.type "int") by simp]
    dsimp only
    rw [if_pos (by simp)]
    exact wpAny_bind (wpAny_pure (wpAny_pure h))
end
end HT
set_option Elab.async false
set_option linter.all false
set_option maxRecDepth 100000
set_option maxHeartbeats 4000000
namespace HT
open PySem PySem.Spec PyProof.Rows
theorem TupI.push {h:Heap}{v:Value}{ns:List Int} (p:TupI h v ns) (o:Obj):TupI (h.push o) v ns:=by
  obtain ⟨a,vs,e,⟨u,e1,e2⟩,k⟩:=p
  exact ⟨a,vs,e,⟨u,Heap.get?_push_of_some _ e1,e2⟩,k⟩
theorem TupI.upd {h:Heap}{v:Value}{ns:List Int} (p:TupI h v ns) {l:Addr}{xs:Array Value}{n:Nat} (hl:h.get? l=some (seqObj "list" xs n)) (f:Obj->Obj):TupI (h.update l f) v ns:=by
  obtain ⟨a,vs,e,⟨u,e1,e2,e3⟩,k⟩:=p
  refine ⟨a,vs,e,⟨u,?_,e2,e3⟩,k⟩
  by_cases q:l=a
  . subst q
    rw [hl] at e1;cases e1
    injection (show Value.type "list"=Value.type "tuple" from e2) with e4
    exact absurd e4 (by decide)
  . rw [Heap.get?_update_ne _ _ _ _ (Ne.symm q)]
    exact e1
section
variable {prog : Program} {w : World} {A : Around} {E : Value -> Shared -> Prop} {s : Shared}
noncomputable def InOrder (h:Heap) (vs:List Value):Prop:=vs.Pairwise fun x y=>∀ ns ms,TupI h x ns->TupI h y ms->lexLt ms ns=false
theorem JL {h h':Heap}{vs:List Value} (H:∀ v ∈ vs,∃ ns,TupI h v ns) (up:∀ v ns,TupI h v ns->TupI h' v ns) {z:SortSt} (pm:(arrOf z).Perm (pairsOf vs)) (u:Up (tupKey h') z (pairsOf vs).size) :
    ((arrOf z).map (·.2)).toList.Perm vs /\ InOrder h ((arrOf z).map (·.2)).toList:=by
  have hl:(arrOf z).toList.Perm (vs.zip vs):=by rw [<-pairsOf_toList];exact Array.perm_iff_toList_perm.mp pm
  have me:∀ p ∈ (arrOf z).toList,p.1=p.2 /\ p.1 ∈ vs:=fun p hp=>mem_zip_self (hl.mem_iff.mp hp)
  rw [Array.toList_map]
  constructor
  . have:=hl.map (·.2)
    rw [List.map_snd_zip (Nat.le_refl _)] at this
    exact this
  . unfold InOrder
    rw [List.pairwise_map,List.pairwise_iff_getElem]
    intro i j hi hj hij ns ms p q
    have hi':i < (arrOf z).size:=by simpa using hi
    have hj':j < (arrOf z).size:=by simpa using hj
    have g:=u i j (Nat.le_of_lt hij) (by rw [<-pm.size_eq];exact hj')
    have ki:kx (tupKey h') z i=ns:=by
      simp only [kx,KK,getElem?_pos (arrOf z) i hi']
      rw [Array.getElem_toList,<-(me _ (by simp)).1] at p
      exact m9 (up _ _ p)
    have kj:kx (tupKey h') z j=ms:=by
      simp only [kx,KK,getElem?_pos (arrOf z) j hj']
      rw [Array.getElem_toList,<-(me _ (by simp)).1] at q
      exact m9 (up _ _ q)
    rw [ki,kj] at g
    exact g
theorem GI {a:Addr}{vs:List Value}{n:Nat}{P:Fin->Shared->Prop} (ho:s.heap.get? a=some (seqObj "list" vs.toArray n)) (H:∀ v ∈ vs,∃ ns,TupI s.heap v ns) (h64:vs.length < 64)
    (h:∀ out:Array Value,out.toList.Perm vs->InOrder s.heap out.toList->P (.done (.ret .none)) { s with heap:=sortedHeap s.heap a vs out }):wpAny (model prog w) A (Builtin.«list.sort» ⟨[.ref a],[]⟩) P E s:=by
  rw [list_sort_plain]
  have la:a < s.heap.objs.size:=Heap.lt_size ho
  refine wpAny_bind (listItems_at ho rfl (wpAny_bind (listUpdate_at ho rfl ?_)))
  obtain ⟨k,ho1⟩:∃ k,(s.heap.update a (Obj.mapSeq fun _=>#[])).get? a=some (seqObj "list" #[] k):=⟨_,get?_update_seq ho (fun _=>#[])⟩
  refine wpAny_bind (seqEpoch_at ho1 rfl (wpAny_bind (wpAny_newTuple (wpAny_bind (wpAny_newList (wpAny_holding ?_))))))
  generalize eh:((s.heap.update a (Obj.mapSeq fun _=>#[])).push (seqObj "tuple" vs.toArray 0)).push (seqObj "list" #[] 0)=h6
  have up:∀ v ns,TupI s.heap v ns->TupI h6 v ns:=fun v ns p=>eh ▸ ((p.upd ho _).push _).push _
  have ho6:h6.get? a=some (seqObj "list" #[] k):=by
    rw [<-eh]
    exact Heap.get?_push_of_some _ (Heap.get?_push_of_some _ ho1)
  have fin:∀ out:Array Value,out.toList.Perm vs->InOrder s.heap out.toList->P (.done (.ret .none)) { s with heap:=h6.update a (Obj.mapSeq fun _=>out) }:=fun out p q=>by
    rw [<-eh];exact h out p q
  show wpAny (model prog w) A _ P E { s with heap:=h6 }
  dsimp only
  have big:vs.length <= sizeLine + 1:=by rw [sizeLine_eq];omega
  by_cases h2:vs.toArray.size < 2
  . rw [if_pos h2,if_pos h2]
    refine wpAny_bind (wpAny_pure ?_)
    rw [StateT.run_pure]
    refine wpAny_bind (wpAny_pure ?_)
    dsimp only
    have em:(Array.map (fun x=>x.2) (vs.toArray.zip vs.toArray))=vs.toArray:=by
      apply Array.toList_inj.mp
      simp [List.map_snd_zip]
    rw [em]
    refine wpAny_bind (seqEpoch_at ho6 rfl (wpAny_bind (listUpdate_at ho6 rfl ?_ (hsz2:=by rw [List.size_toArray];exact big))))
    rw [bne_self_eq_false]
    refine wpAny_pure (fin vs.toArray (List.Perm.refl _) ?_)
    rw [List.size_toArray] at h2
    unfold InOrder
    match vs,h2 with
    | [],_=>exact List.Pairwise.nil
    | [x],_=>exact List.pairwise_singleton _ _
  . rw [if_neg h2,if_neg h2]
    rw [List.size_toArray] at h2
    have ne:vs ≠ []:=fun e=>by rw [e] at h2;simp at h2
    have H6:∀ v ∈ vs,∃ ns,TupI h6 v ns:=fun v m=>let ⟨ns,p⟩:=H v m;⟨ns,up v ns p⟩
    refine wpAny_bind (JK (s:={ s with heap:=h6 }) ne H6 ?_)
    refine wpAny_bind (wpAny_mono (runs (s:={ s with heap:=h6 }) (κ:=tupKey h6) (kd:=tuples' true) (b:=pairsOf vs) (z:=SortSt.mk' (tuples' true) (vs.toArray.zip vs.toArray) #[] 7 none)
      (Q:=fun _ y=>(arrOf y).Perm (pairsOf vs) /\ failedOf y=none /\ Up (tupKey h6) y (pairsOf vs).size) (Mj (s:={ s with heap:=h6 }) H6 true) ⟨Array.Perm.refl _,rfl,rfl,rfl⟩ (by rw [pairsOf_size];omega) (by rw [pairsOf_size];exact h64) fun y a1 a2 a3=>⟨a1,a2,a3⟩) ?_ fun _ _ e=>e)
    rintro ⟨⟨⟩,y⟩ s' ⟨es,pm,fl,u⟩
    subst es
    dsimp only
    obtain ⟨o1,o2⟩:=JL H up pm u
    refine wpAny_bind (seqEpoch_at ho6 rfl (wpAny_bind (listUpdate_at ho6 rfl ?_ (hsz2:=by rw [Array.size_map,pm.size_eq,pairsOf_size];exact big))))
    rw [fl,bne_self_eq_false]
    exact wpAny_pure (fin _ o1 o2)
theorem CV {l:Addr}{vs:List Value}{Q:Value->Shared->Prop} (hl:s.heap.IsList l vs.toArray) (H:∀ v ∈ vs,∃ ns,TupI s.heap v ns) (h64:vs.length < 64)
    (h:∀ out:Array Value,out.toList.Perm vs->InOrder s.heap out.toList->Q (.ref (s.heap.objs.size + 1)) { s with heap:=sortedAll s.heap vs out }):wpAny (model prog w) A (call (.builtin "sorted") [.ref l]) Q E s:=by
  refine Calls.call_function_entry kind_sorted plain_sorted entry_sorted (args_sorted1 _) ?_
  unfold Builtin.«sorted»
  refine wpAny_bind (m:=checkCount "sorted" 1 1 _) (wpAny_pure (wpAny_bind (collect_list hl (wpAny_bind (wpAny_newList ?_)))))
  generalize eg:(s.heap.push (seqObj "list" #[] 0)).update s.heap.objs.size (Obj.mapSeq (· ++ vs.toArray))=g
  have sg:g.objs.size=s.heap.objs.size + 1:=by rw [<-eg,Heap.size_update,size_push']
  have up:∀ v ns,TupI s.heap v ns->TupI (g.push (seqObj "list" vs.toArray 0)) v ns:=fun v ns p=>by
    rw [<-eg];exact ((p.push _).upd (Heap.get?_push_size _ rfl) _).push _
  have dn:∀ v ns,v ∈ vs->TupI (g.push (seqObj "list" vs.toArray 0)) v ns->TupI s.heap v ns:=fun v ns m p=>by
    obtain ⟨ms,q⟩:=H v m
    rw [TupI.inj p (up v ms q)];exact q
  have gl:(g.push (seqObj "list" vs.toArray 0)).get? (s.heap.objs.size + 1)=some (seqObj "list" vs.toArray 0):=by rw [<-sg];exact Heap.get?_push_size _ rfl
  show wpAny _ _ _ _ _ { s with heap:=g.push (seqObj "list" vs.toArray 0) }
  rw [sg]
  refine wpAny_bind (wpAny_holding (wpAny_call_entry slot_list_sort ⟨_,gl,rfl⟩ entry_list_sort (GI (s:={ s with heap:=g.push (seqObj "list" vs.toArray 0) }) gl (fun v m=>let ⟨ns,p⟩:=H v m;⟨ns,up v ns p⟩) h64 fun out o1 o2=>⟨_,rfl,wpAny_pure ⟨_,rfl,?_⟩⟩) (args_list_sort _)))
  have:=h out o1 (List.Pairwise.imp (fun {x y} r ns ms p q=>r ns ms (up _ _ p) (up _ _ q)) o2)
  unfold sortedAll at this
  rw [eg] at this
  exact this
end
end HT
set_option Elab.async false
set_option linter.all false
set_option maxRecDepth 100000
set_option maxHeartbeats 4000000
namespace L2.DL
open PySem PySem.Spec PyProof.Rows
section
variable {X : Cx} {T : Fr} {Z : Xs}
noncomputable def rSortT (K:PySem.W.Frag) (vs:List V) (H:Hp) (Q:VK):Prop:=∃ (p:Addr) (rs:List Addr) (key:Addr->List Int),vs=[.ref p] /\ SqL K H p (rs.map V.ref) /\ (∀ r ∈ rs,H r=some (.tup ((key r).map V.int)) /\ key r ≠ []) /\ rs.length < 64 /\
  ∀ (l:Addr) (rs':List Addr),H l=none->rs'.Perm rs->rs'.Pairwise (fun a b=>HT.lexLt (key b) (key a)=false)->Q (.ref l) (upd H l (.lst (rs'.map V.ref)))
theorem CW:∀ {rs:List Addr}{us:List Value},Vals (rs.map V.ref) us->us=rs.map Value.ref
  | [],_,.nil=>rfl
  | r :: rs,_,.cons q t=>by
    cases q
    rw [CW t];rfl
noncomputable def unref:Value->Addr
  | .ref a=>a
  | _=>0
theorem GJ {us:List Value}{rs:List Addr} (p:us.Perm (rs.map Value.ref)):∃ rs':List Addr,us=rs'.map Value.ref /\ rs'.Perm rs:=by
  refine ⟨us.map unref,?_,?_⟩
  . rw [List.map_map]
    refine (List.map_id us).symm.trans (List.map_congr_left fun u hu=>?_)
    obtain ⟨r,_,rfl⟩:=List.mem_map.mp (p.mem_iff.mp hu)
    rfl
  . have:=p.map unref
    rw [List.map_map] at this
    exact this.trans (by rw [show (unref ∘ Value.ref)=id from rfl,List.map_id])
theorem BE:∀ (rs:List Addr),Vals (rs.map V.ref) (rs.map Value.ref)
  | []=>.nil
  | r :: rs=>.cons rfl (BE rs)
theorem DS:CallR X (.builtin "sorted") (rSortT X.K):=by
  intro pins s σ H xs us Q I rv h
  obtain ⟨p,rs,key,rfl,hp,hk,h64,q⟩:=h
  obtain ⟨u,rfl,ru⟩:=Vals.one rv
  cases ru
  obtain ⟨its,r1,p1,z1⟩:=I.list hp
  have ei:=CW r1
  subst ei
  have tup:∀ r ∈ rs,HT.TupI s.heap (.ref r) (key r):=fun r m=>by
    obtain ⟨ys,v1,v2,_⟩:=I.tuple (.of (hk r m).1)
    exact ⟨r,ys,rfl,v2,i4 v1,(hk r m).2⟩
  refine HT.CV p1.isList (fun v m=>?_) (by rw [List.length_map];exact h64) fun out o1 o2=>?_
  . obtain ⟨r,mr,rfl⟩:=List.mem_map.mp m
    exact ⟨_,tup r mr⟩
  obtain ⟨rs',e1,e2⟩:=GJ o1
  obtain ⟨k,he⟩:=sortedAll_at s.heap (rs.map Value.ref) out
  have hf:H (s.heap.objs.size + 1)=none:=I.hok.fresh (Nat.le_succ _)
  have ll:(rs'.map V.ref).length <= sizeLine:=by
    rw [List.length_map,e2.length_eq];exact Nat.le_trans (Nat.le_of_lt h64) (by decide)
  have ord:rs'.Pairwise (fun a b=>HT.lexLt (key b) (key a)=false):=by
    unfold HT.InOrder at o2
    rw [e1,List.pairwise_map] at o2
    refine List.Pairwise.imp_of_mem (fun {a b} ma mb r=>?_) o2
    exact r _ _ (tup a (e2.mem_iff.mp ma)) (tup b (e2.mem_iff.mp mb))
  refine ⟨.ref (s.heap.objs.size + 1),_,I.laid (t':=s.toks) (o:=.lst (rs'.map V.ref)) (fun b ob q=>sortedAll_old q) (Nat.le_succ _) ?_,rfl,q _ rs' hf e2 ord⟩
  exact ⟨ll,out.toList,k,e1 ▸ BE rs',he⟩
noncomputable def tupsOf:List D->Option (List (List Int))
  | []=>some []
  | .tup t :: l=>(intsOf t).bind fun ns=>if ns.isEmpty then none else (tupsOf l).map fun r=>ns :: r
  | _=>none
noncomputable def sortT (ns:List (List Int)):List (List Int):=ns.mergeSort fun a b=>!HT.lexLt b a
theorem DT (ns:List (List Int)):(sortT ns).Perm ns:=List.mergeSort_perm ns _
theorem B5 (ns:List (List Int)):(sortT ns).Pairwise (fun a b=>HT.lexLt b a=false):=by
  have h:=List.pairwise_mergeSort (le:=fun a b:List Int=>!HT.lexLt b a) (fun a b c h1 h2=>by
    simp only [Bool.not_eq_true'] at *
    cases e:HT.lexLt c a with
    | false=>rfl
    | true=>rcases HT.BD c b a e with q | q <;> simp_all) (fun a b=>by
    cases e:HT.lexLt b a with
    | false=>simp
    | true =>
      cases f:HT.lexLt a b with
      | false=>simp
      | true=>have:=HT.oR a b a f e;rw [HT.o7] at this;cases this) ns
  exact h.imp fun q=>by simpa using q
theorem DU {a b:List (List Int)} (p:a.Perm b) (ha:a.Pairwise (fun a b=>HT.lexLt b a=false)) (hb:b.Pairwise (fun a b=>HT.lexLt b a=false)):a=b :=
  p.eq_of_pairwise (fun x y _ _ h1 h2=>HT.m8 x y h2 h1) ha hb
noncomputable def dTups (ns:List (List Int)):List D:=ns.map fun t=>D.tup (t.map D.int)
noncomputable def sortA:List D->Option Res:=fun xs=>match sortD xs with
  | some r=>some r
  | none=>match xs with
    | [.lst l]=>(tupsOf l).bind fun ns=>if ns.length < 64 then some (.lst (dTups (sortT ns))) else none
    | _=>none
noncomputable def vKey (F:Hp) (a:Addr):List Int:=match F a with
  | some (.tup vs)=>vs.filterMap fun v=>match v with | .int i=>some i | _=>none
  | _=>[]
theorem Ml {F:Hp}{a:Addr}{ns:List Int} (h:F a=some (.tup (ns.map V.int))):vKey F a=ns:=by
  simp only [vKey,h,List.filterMap_map]
  exact (List.filterMap_eq_map (f:=id) ▸ List.map_id ns:List.filterMap (some ∘ id) ns=ns)
theorem CY {F:Hp}:∀ {l:List D}{vs:List V}{ns:List (List Int)},DenL F l vs->tupsOf l=some ns->∃ rs:List Addr,vs=rs.map V.ref /\ ns=rs.map (vKey F) /\ ∀ r ∈ rs,F r=some (.tup ((vKey F r).map V.int)) /\ vKey F r ≠ []
  | [],vs,ns,h,e=>by
    cases e
    exact ⟨[],h,rfl,fun r m=>by cases m⟩
  | .tup t :: l,vs,ns,h,e=>by
    obtain ⟨v,us,rfl,⟨a,ws,rfl,f1,f2⟩,h2⟩:=h
    simp only [tupsOf] at e
    cases e1:intsOf t with
    | none=>rw [e1] at e;cases e
    | some ms =>
      rw [e1] at e
      simp only [Option.bind_some] at e
      split at e
      . cases e
      rename_i ne
      cases e2:tupsOf l with
      | none=>rw [e2] at e;cases e
      | some ks =>
        rw [e2] at e
        cases e
        obtain ⟨rs,q1,q2,q3⟩:=CY h2 e2
        have fa:=f2.ints e1
        subst fa
        have ka:=Ml f1
        refine ⟨a :: rs,by rw [q1];rfl,by rw [q2,List.map_cons,ka],fun r m=>?_⟩
        rcases List.mem_cons.mp m with rfl | m
        . rw [ka];exact ⟨f1,fun z=>ne (by rw [z];rfl)⟩
        . exact q3 r m
  | .non :: _,_,_,_,e=>by cases e
  | .bl _ :: _,_,_,_,e=>by cases e
  | .int _ :: _,_,_,_,e=>by cases e
  | .str _ :: _,_,_,_,e=>by cases e
  | .lst _ :: _,_,_,_,e=>by cases e
  | .dic _ :: _,_,_,_,e=>by cases e
theorem CZ {F:Hp}:∀ (rs:List Addr),(∀ r ∈ rs,F r=some (.tup ((vKey F r).map V.int)))->DenL F (dTups (rs.map (vKey F))) (rs.map V.ref)
  | [],_=>rfl
  | r :: rs,h=>.cons ⟨r,_,rfl,h r (List.mem_cons_self ..),oP _⟩ (CZ rs fun q m=>h q (List.mem_cons_of_mem _ m))
theorem DV:CallR X (.builtin "sorted") (fun vs H Q=>rSort X.K vs H Q \/ rSortT X.K vs H Q):=by
  intro pins s σ H xs us Q I rv h
  rcases h with h | h
  . exact GB pins s σ H xs us Q I rv h
  . exact DS pins s σ H xs us Q I rv h
theorem okSortA {K:PySem.W.Frag}:OkN (fun vs H Q=>rSort K vs H Q \/ rSortT K vs H Q) sortA:=by
  intro F H xs vs Q s sub rx e k
  unfold sortA at e
  cases er:sortD xs with
  | some r =>
    rw [er] at e
    cases e
    exact .inl (okSort F H xs vs Q s sub rx er k)
  | none =>
    rw [er] at e
    dsimp only at e
    clear er
    split at e
    . rename_i l
      obtain ⟨v,t,rfl,⟨a,us,rfl,h1,h2⟩,rt⟩:=rx
      cases (show t=[] from rt)
      cases e1:tupsOf l with
      | none=>rw [e1] at e;cases e
      | some ns =>
        rw [e1] at e
        simp only [Option.bind_some] at e
        split at e
        . rename_i h64
          cases e
          obtain ⟨rs,q1,q2,q3⟩:=CY h2 e1
          subst q1
          refine .inr ⟨a,rs,vKey F,rfl,.of h1,fun r m=>⟨sub _ _ (q3 r m).1,(q3 r m).2⟩,by rw [q2,List.length_map] at h64;exact h64,fun l rs' hl pm ord=>k _ _ ⟨l,_,rfl,hl,rfl,?_⟩⟩
          have:rs'.map (vKey F)=sortT ns:=DU ((pm.map (vKey F)).trans (by rw [<-q2];exact (DT ns).symm)) (List.pairwise_map.mpr ord) (B5 ns)
          rw [<-this]
          exact CZ rs' fun r m=>(q3 r (pm.mem_iff.mp m)).1
        . cases e
    . cases e
end
end L2.DL
set_option Elab.async false
set_option linter.all false
set_option maxRecDepth 100000
set_option maxHeartbeats 4000000
namespace L2
open PySem PySem.Spec PyProof.Rows
section
variable {X : Cx}
end
end L2
namespace L2.DL
open PySem PySem.Spec PyProof.Rows
section
variable {X : Cx} {T : Fr} {Z : Xs} {N : List Str} {src : List (Option Nat)} {elt tg iter : Expr} {ifs : List Expr} {scope : Scope} {pos pos' spos : Pos} {mi : DE (List W)} {g : DG} {tf : DE Bool} {te : DE W}
end
end L2.DL
namespace L2.DL
open PySem PySem.Spec PyProof.Rows
noncomputable def nst:Expr->Bool
  | .Starred _ _=>false
  | _=>true
noncomputable def nsts:List Expr->Bool
  | []=>true
  | e :: es=>nst e && nsts es
theorem gF {e:Expr} (h:nst e=true) (es:List Expr) (env:Env):starEach (e :: es) env=(false,eval e env) :: starEach es env:=by
  cases e <;> first | rfl | cases h
theorem lO {env:Env}{pos:Pos}:∀ {es:List Expr},nsts es=true->(backTo pos (starEach es env)).any (·.1)=false
  | [],_=>rfl
  | e :: es,h=>by
    have h':(nst e && nsts es)=true:=h
    rw [Bool.and_eq_true] at h'
    rw [gF h'.1]
    show (false || (backTo pos (starEach es env)).any (·.1))=false
    rw [lO h'.2]
    rfl
theorem ju {e:Expr}{es:List Expr} (h:nsts (e :: es)=true):nst e=true /\ nsts es=true:=by
  have h':(nst e && nsts es)=true:=h
  rwa [Bool.and_eq_true] at h'
theorem Ah {e:Expr} (h:nst e=true) (es:List Expr) (env:Env):assignEach (e :: es) env=(false,assign e env) :: assignEach es env:=by
  cases e <;> first | rfl | cases h
theorem oz {env:Env}:∀ {es:List Expr},nsts es=true->(assignEach es env).length=es.length /\ (assignEach es env).findIdx? (·.1)=none
  | [],_=>⟨rfl,rfl⟩
  | e :: es,h=>by
    obtain ⟨h1,h2⟩:=ju h
    obtain ⟨a,b⟩:=oz (env:=env) h2
    rw [Ah h1]
    exact ⟨by rw [List.length_cons,List.length_cons,a],by rw [List.findIdx?_cons,b];rfl⟩
section
variable {X : Cx} {T : Fr} {Z : Xs} {a b c e : Expr} {es : List Expr} {ma mb mc : DE W} {pos p p1 : Pos} {k k' nn : Nat} {x : Str} {ps : List Str} {fn : List W -> List Bx -> O W} {m : DE (List W)}
theorem fg (ha:PD X T Z e ma) (hr:PDA X T Z es m) (hn:nst e=true:=by rfl):PDA X T Z (e :: es) (fb ma m):=Jx ha hr (gF hn es X.env)
theorem gW {id:String}{q:List V->Hp->VK->Prop}{g:List D->Option Res} (bo:Bool) (hc:CallR X (.builtin id) q) (hk:OkN q g) (hg:Gl X x) (hm:X.mg x=none) (hv:bootBuiltins x=some (.builtin id)) (ha:PDA X T Z (e :: es) m)
    (hns:nsts (e :: es)=true:=by rfl) (hn:x ≠ "__name__":=by decide) (hdb:(x == ("__debug__":Str))=false:=by decide):PD X T Z (.Call (.Name x p) (e :: es) [] pos) (dN bo g m) :=
  JA bo hc hk hg hm hv ha hn hdb (gF (ju hns).1 es X.env) (lO (ju hns).2)
theorem lm {id:String}{q:List V->Hp->VK->Prop}{g:List D->Option Res} (bo:Bool) (hc:CallR X (.type id) q) (hk:OkN q g) (hg:Gl X x) (hm:X.mg x=none) (hv:bootBuiltins x=some (.type id)) (ha:PDA X T Z (e :: es) m)
    (hns:nsts (e :: es)=true:=by rfl) (hn:x ≠ "__name__":=by decide) (hdb:(x == ("__debug__":Str))=false:=by decide):PD X T Z (.Call (.Name x p) (e :: es) [] pos) (dN bo g m) :=
  Gy bo hc hk hg hm hv ha hn hdb (gF (ju hns).1 es X.env) (lO (ju hns).2)
theorem fN (h:Has X.prog X.w X.K X.mg X.base Z.cl k x ps fn) (hr:Room k' X.A) (hk:k <= k') (hg:Gl X x) (hx:Passes (CXr X.prog X.w) X Z.E) (ha:PDA X T Z (e :: es) m)
    (hns:nsts (e :: es)=true:=by rfl) (hn:ps.length=nn:=by rfl) (hdb:(x == ("__debug__":Str))=false:=by decide):PD X T Z (.Call (.Name x p) (e :: es) [] pos) (fk fn nn m) :=
  NU h hr hk hg hx ha hdb (gF (ju hns).1 es X.env) (lO (ju hns).2) hn
theorem oS {n:String} (hT:Tys X.K n) (hg:Gl X "isinstance") (hm:X.mg "isinstance"=none) (hg2:Gl X x) (hm2:X.mg x=none) (hv:bootBuiltins x=some (.type n)) (ha:PD X T Z a ma) (hs:nst a=true:=by rfl)
    (hn:x ≠ "__name__":=by decide) (hdb:(x == ("__debug__":Str))=false:=by decide):PD X T Z (.Call (.Name "isinstance" p) [a,.Name x p1] [] pos) (ic n ma) :=
  Mb hT hg hm hg2 hm2 hv ha hn hdb (gF hs _ X.env) (gF rfl _ X.env) (lO rfl)
theorem jX {g:DG}{q:DGs} (h1:PGD X T e g) (h2:PGDs X T es q) (hn:nst e=true:=by rfl):PGDs X T (e :: es) (fH g q):=Gz h1 h2 (by rw [Ah hn];rfl)
theorem C0 {q:DGs}{i:Nat} (hc:X.calm=true) (h:PGDs X T es q) (hns:nsts es=true:=by rfl) (hn:es.length=nn:=by rfl):PGD X T (.Tuple es i pos) (ia nn q) :=
  L8 hc h ((oz hns).1.trans hn) (oz hns).2
end
end L2.DL
set_option Elab.async false
set_option linter.all false
set_option maxRecDepth 100000
set_option maxHeartbeats 4000000
namespace L2.DL
open PySem PySem.Spec PyProof.Rows PySem.W
noncomputable def exNames:List Str:=["NoHouse", "NoOuts", "NoRoom", "NoHour", "NoPages", "NoLot", "NoAsks", "NoNumber", "NoMoves", "NoEach", "NoOrder", "NoPage", "NoOut", "Twice", "Missing", "TooMany", "NoDeed"]
noncomputable def exWords:List Str:=["house", "outs", "room", "hour", "pages", "lot", "asks", "number", "moves", "each", "order", "page", "out", "twice", "missing", "many", "deed"]
noncomputable def wordOf (i:Nat):Str:=exWords.getD i ""
structure ExT (K:Frag) (mg:Str->Option Value) (R:Addr) (c:Nat->Addr):Prop where
  m:∀ i x,exNames[i]?=some x->mg x=some (.ref (c i))
  mR:mg "RimeError"=some (.ref R)
  inst:mg "isinstance"=none
  verr:mg "ValueError"=none
  ex:∀ i,i < 17->excIn K (c i) vErr "ValueError.__new__"=true
  ek:∀ i,i < 17->ExcK K (c i)
  kt:∀ i j,i < 17->j < 17->kitOne K (.ref (c i)) (.ref (c j))=some (decide (i=j))
  kv:∀ i,i < 17->kitOne K (.ref (c i)) (.type "ValueError")=some true
  kr:∀ i,i < 17->kitCls K (.ref (c i)) (.ref R)=some true
  rb:mroIn K R (.type "BaseException")=some true
section
variable {X : Cx} {T : Fr} {Z : Xs} {a b e : Expr} {es : List Expr} {ma mb mc : DE W} {pos p np cpos rp hpos : Pos} {st : Stmt} {body : List Stmt} {m k : DSt} {x n : Str} {c i j : Nat} {R : Addr}
noncomputable def sRaise (c:Nat) (m:DE W):DSt:=fun env bx=>bindS (m env bx) fun _ bx1=>.exc c bx1
noncomputable def sBad:DSt:=fun _ _=>.bad
theorem FL:PSD X T Z st sBad:=fun _ _ _ _ _ _ h=>by
  obtain ⟨_,_,_,_,_,h⟩:=h
  exact h.elim
noncomputable def sTry (m:DSt):DSt:=fun env bx=>match m env bx with
  | .exc c bx1=>if c < 17 then .rt (.d (.str (wordOf c))) bx1 else .bad
  | o=>o
end
section
variable {P : Program} {w : World} {K : Frag} {mg : Str -> Option Value} {base : Heap} {cl : Nat -> Addr} {k : Nat} {x : Str} {st : Stmt} {N ps : List Str} {m : DSt} {nn kk : Nat}
end
end L2.DL
set_option Elab.async false
set_option linter.all false
set_option maxRecDepth 100000
set_option maxHeartbeats 4000000
namespace L2.DL
open PySem PySem.Spec PyProof.Rows PySem.W
noncomputable def ints0 (n:Nat):List V:=(List.range n).map fun (i:Nat)=>V.int (i:Int)
theorem Bf:∀ {n:Nat}{acc:Array Value},ItemsOf (fun i v=>∃ t,v=Value.int (0 + (i:Int) * 1) t) acc n->Vals (ints0 n) acc.toList:=by
  intro n acc h
  have key:∀ (k:Nat) (l:List Value),(∀ j v,l[j]?=some v->∃ t,v=Value.int ((k + j:Nat):Int) t)->Vals ((List.range' k l.length).map fun (i:Nat)=>V.int (i:Int)) l:=by
    intro k l
    induction l generalizing k with
    | nil=>intro _;exact .nil
    | cons v l ih =>
      intro h
      obtain ⟨t,e⟩:=h 0 v rfl
      rw [List.length_cons,List.range'_succ,List.map_cons]
      refine .cons ⟨t,by simpa using e⟩ (ih (k + 1) fun j u q=>?_)
      obtain ⟨t',e'⟩:=h (j + 1) u (by simpa using q)
      exact ⟨t',by rw [e',show k + (j + 1)=k + 1 + j by omega]⟩
  have:=key 0 acc.toList fun j v q=>by
    obtain ⟨t,e⟩:=h.2 j v (by rw [Array.getElem?_toList] at q;exact q)
    exact ⟨t,by rw [e];simp⟩
  unfold ints0
  rw [List.range_eq_range',<-h.1]
  simpa using this
section
variable {X : Cx} {T : Fr} {Z : Xs} {a : Expr} {p p2 pos pos2 : Pos} {ta : TA} {ks : DE (List W)}
theorem GK:bootBuiltins "list"=some (.type "list"):=by decide +kernel
noncomputable def tLR (ta:TA):TE:=fun σ H Q=>ta σ H fun vs H1=>∃ j:Int,vs=[.int j] /\ -(2 ^ 62) <= j /\ j <= 2 ^ 24 /\ ∀ l,H1 l=none->Q (.ref l) (upd H1 l (.lst (ints0 j.toNat)))
theorem B6 (hc:X.calm=true) (hg:Gl X "list") (hm:X.mg "list"=none) (hg2:Gl X "range") (hm2:X.mg "range"=none) (ha:PA X [a] ta) (hs:nst a=true):PE X (.Call (.Name "list" p) [.Call (.Name "range" p2) [a] [] pos2] [] pos) (tLR ta):=by
  intro pins s σ H Q I h
  refine wpAny_Call_Name_kw (lW I hg hm GK ?_ (by decide) (by decide))
  refine PyProof.Rows.callWith_type1 ?_ (gF (e:=.Call (.Name "range" p2) [a] [] pos2) rfl [] X.env) (lO (es:=[]) rfl)
  rw [gF (e:=.Call (.Name "range" p2) [a] [] pos2) rfl [] X.env]
  show wpAny _ _ (spliced ((false,eval (.Call (.Name "range" p2) [a] [] pos2) X.env) :: backTo pos (starEach [] X.env))) _ _ s
  refine Calls.spliced_cons ?_
  refine wpAny_Call_Name_kw (lW I hg2 hm2 boot_range ?_ (by decide) (by decide))
  refine PyProof.Rows.callWith_type1 (thn (ha pos2 pins s σ H _ I h) fun us s1 ⟨vs,H1,I1,r1,q1⟩=>?_) (gF hs [] X.env) rfl
  obtain ⟨j,e,b1,b2,q⟩:=q1
  subst e
  cases r1 with
  | cons r rr =>
    cases rr
    obtain ⟨t,rfl⟩:=r
    refine call_range_1 ?_
    refine Calls.spliced_nil ?_
    have hn:((j.toNat:Nat):Int)=Builtin.Range.rangeSize 0 j 1:=by rw [rangeSize_one];split <;> omega
    refine call_list_range (I1.ok.hd hc) (IsRange.new ..) (small_one (by omega) (by omega) b1 (by omega)) hn.symm (by omega) fun h' tk acc' c' kp e it=>?_
    have rv:=Bf it
    have sz:sizeLine=16777216:=sizeLine_eq
    have hz:(ints0 j.toNat).length <= sizeLine:=by
      unfold ints0
      rw [List.length_map,List.length_range]
      omega
    refine ⟨.ref _,_,(I1.kept (fun b o z=>Heap.get?_push_of_some _ z)).laid (t':=tk) kp (Nat.le_refl _) (show ObjOk X.prog X.w _ h' _ (.lst (ints0 j.toNat)) from ⟨hz,acc'.toList,c',rv,by simpa using e⟩),rfl,q _ (I1.hok.fresh (by simp [Heap.push]))⟩
noncomputable def dLR (bo:Bool) (k:DE (List W)):DE W:=fun env bx=>fE (k env bx) fun ws bx1=>match ws with
  | [.d (.int j)]=>if -(2 ^ 62) <= j /\ j <= 2 ^ 24 then resO bo (some (.lst ((List.range j.toNat).map fun (i:Nat)=>D.int (i:Int)))) bx1 else .bad
  | _=>.bad
theorem GL {F:Hp} (n:Nat):DenL F ((List.range n).map fun (i:Nat)=>D.int (i:Int)) (ints0 n):=by
  have key:∀ l:List Nat,DenL F (l.map fun (i:Nat)=>D.int (i:Int)) (l.map fun (i:Nat)=>V.int (i:Int)):=by
    intro l
    induction l with
    | nil=>exact rfl
    | cons i l ih=>exact .cons (show Den F (.int i) (.int i) from rfl) ih
  exact key _
theorem OJ (bo:Bool) (hc:X.calm=true) (hg:Gl X "list") (hm:X.mg "list"=none) (hg2:Gl X "range") (hm2:X.mg "range"=none) (ha:PDA X T Z [a] ks) (hs:nst a=true:=by rfl):PD X T Z (.Call (.Name "list" p) [.Call (.Name "range" p2) [a] [] pos2] [] pos) (dLR bo ks):=by
  refine PE.imp (B6 hc hg hm hg2 hm2 ha hs) fun σ H Q ⟨F,r,env,bx,R,h⟩=>?_
  refine ⟨F,r,env,bx,R,End.bind h fun ws bx1 F1 r1 vs H1 g1 R1 d1 h1=>?_⟩
  split at h1
  . rename_i j
    split at h1
    . rename_i hj
      obtain ⟨v,t,rfl,q1,q2⟩:=d1
      cases (show t=[] from q2)
      cases (show v=.int j from q1)
      exact ⟨j,rfl,hj.1,hj.2,fun l hl=>jg R1 h1 ⟨l,_,rfl,hl,rfl,GL _⟩⟩
    . exact h1.elim
  . exact h1.elim
theorem oT {b:Expr}{x y:Str}{px py pt:Pos}{kt k2 pt2} (i j:Nat) (hc:X.calm=true) (hN:X.N.Nodup) (ha:PDA X T Z [a,b] ks) (hi:X.N[i]?=some x:=by rfl) (hj:X.N[j]?=some y:=by rfl) (hij:i ≠ j:=by decide)
    (hx:X.env.scope.names.lookup x=some .local:=by rfl) (hy:X.env.scope.names.lookup y=some .local:=by rfl)
    (hw:swappedStores [.Tuple [.Name x px,.Name y py] kt pt] (.Tuple [a,b] k2 pt2) X.env=pure (some [x,y]):=by rfl)
    (hs:swapsWithSole [.Tuple [.Name x px,.Name y py] kt pt] (.Tuple [a,b] k2 pt2) pos.line X.env=pure false:=by rfl) :
    PSD X T Z (.Assign [.Tuple [.Name x px,.Name y py] kt pt] (.Tuple [a,b] k2 pt2) pos) (sPar i j ks) :=
  PS.imp (Nm hc hN hi hj hij hx hy ha hw hs) fun D σ H h=>OC h
noncomputable def okV (N:List Str) (sc:Scope) (i:Nat) (x:Str):Bool:=decide (N[i]?=some x) && (decide (sc.names.lookup x=some .local) || decide (sc.names.lookup x=some .cell) || decide (sc.names.lookup x=some .free)) && !(x == ("__debug__":Str)) && !(x == ("__classdict__":Str))
theorem pdv (i:Nat) {x:Str}{vpos:Pos} (h:okV X.N X.env.scope i x=true):PD X T Z (.Name x vpos) (dV i):=by
  simp only [okV,Bool.and_eq_true,Bool.or_eq_true,decide_eq_true_eq,Bool.not_eq_true'] at h
  obtain ⟨⟨⟨h1,h2⟩,h3⟩,h4⟩:=h
  exact NE i h1 (by
    rcases h2 with (h2 | h2) | h2
    . exact .inl h2
    . exact .inr (.inl h2)
    . exact .inr (.inr h2)) h3 h4
end
end L2.DL
set_option Elab.async false
set_option linter.all false
set_option maxRecDepth 100000
set_option maxHeartbeats 4000000
namespace K1
open PySem PySem.Spec PyProof.Rows L2 L2.DL
noncomputable def oA:DSt:=(fM (gE (ic "int" (dV 0)) (dNotV (ic "bool" (dV 0)))))
noncomputable def jF:List W->List Bx->O W:=fnD 1 (noX oA)
noncomputable def mN:DSt:=(fM (gE (fk K1.jF 1 (fb (dV 0) fc)) (d3 leD leD (dV 1) (dV 0) (dV 2))))
noncomputable def fW:List W->List Bx->O W:=fnD 3 (noX mN)
noncomputable def oB:DSt:=(fM (gE (ic "tuple" (dV 0)) (d3 leD leD (dV 1) (dN false lenD (fb (dV 0) fc)) (dV 2))))
noncomputable def fU:List W->List Bx->O W:=fnD 3 (noX oB)
noncomputable def mO:DSt:=(fM (dN false allD (fb (ge false [none,some 0] (dRng2 (fb (dC (.int 1)) (fb (dN false lenD (fb (dV 0) fc)) fc))) (fe 0) fZ (d2 false ltD (d2 false ixD (dV 1) (d2 false subD (dV 0) (dC (.int 1)))) (d2 false ixD (dV 1) (dV 0)))) fc)))
noncomputable def j0:List W->List Bx->O W:=fnD 1 (noX mO)
noncomputable def jG:DSt:=(fM (gE (fk K1.fU 3 (fb (dV 0) (fb (dC (.int 1)) (fb (dC (.int 5)) fc)))) (dN false allD (fb (ge false [none] (dIter (dV 0)) (fe 0) fZ (fk K1.fW 3 (fb (dV 0) (fb (dC (.int 0)) (fb (dC (.int 3)) fc))))) fc))))
noncomputable def jl:List W->List Bx->O W:=fnD 1 (noX jG)
noncomputable def jH:DSt:=(fu (sIf (dOr (dNot (dB (fk K1.fU 3 (fb (dV 0) (fb (d2 false fB (dC (.int 3)) (dC (.int 1))) (fb (d2 false fB (dC (.int 3)) (dC (.int 1))) fc)))))) (dNot (dB (dN false allD (fb (ge false [none] (dIter (dV 0)) (fe 0) fZ (fk K1.fW 3 (fb (dV 0) (fb (dC (.int 0)) (fb (dC (.int 9)) fc))))) fc))))) (fM (dC (.bl false))) sNil) (fM (dN false allD (fb (ge false [none,none] (dZip (fb (dV 0) (fb (dSl false (dV 0) (dPart (dC (.int 1))) dNo) fc))) (ia 2 (fH (fe 0) (fH (fe 1) iu))) fZ (d2 false leD (dV 1) (dV 0))) fc))))
noncomputable def j3:List W->List Bx->O W:=fnD 1 (noX jH)
noncomputable def lP:DSt:=(fM (gE (fk K1.fU 3 (fb (dV 0) (fb (dC (.int 2)) (fb (dC (.int 2)) fc)))) (gE (fk K1.fW 3 (fb (d2 false ixD (dV 0) (dC (.int 0))) (fb (dC (.int 1)) (fb (dC (.int 999)) fc)))) (fk K1.j3 1 (fb (d2 false ixD (dV 0) (dC (.int 1))) fc)))))
noncomputable def mk:List W->List Bx->O W:=fnD 1 (noX lP)
noncomputable def jI:DSt:=(fM (gE (fk K1.fU 3 (fb (dV 0) (fb (dC (.int 1)) (fb (dC (.int 4)) fc)))) (dN false allD (fb (ge false [none] (dIter (dV 0)) (fe 0) fZ (fk K1.mk 1 (fb (dV 0) fc))) fc))))
noncomputable def jm:List W->List Bx->O W:=fnD 1 (noX jI)
noncomputable def iy:DSt:=(fu (sIf (dNot (dB (fk K1.fU 3 (fb (dV 0) (fb (dC (.int 2)) (fb (dC (.int 2)) fc)))))) (fM (dC (.bl false))) sNil) (fM (gE (dN false allD (fb (ge false [none,some 1] (dIter (dV 0)) (fe 0) fZ (fk K1.fW 3 (fb (dV 0) (fb (dC (.int 0)) (fb (d2 false subD (dV 1) (dC (.int 1))) fc))))) fc)) (d2 false ltD (d2 false ixD (dV 0) (dC (.int 0))) (d2 false ixD (dV 0) (dC (.int 1)))))))
noncomputable def ie:List W->List Bx->O W:=fnD 2 (noX iy)
noncomputable def jJ:DSt:=(fu (sIf (dNot (dB (ic "tuple" (dV 0)))) (fM (dC (.bl false))) sNil) (fM (gE (dN false allD (fb (ge false [none,some 1] (dIter (dV 0)) (fe 0) fZ (fk K1.ie 2 (fb (dV 0) (fb (dV 1) fc)))) fc)) (fk K1.j0 1 (fb (dV 0) fc)))))
noncomputable def gS:List W->List Bx->O W:=fnD 2 (noX jJ)
noncomputable def lq:DSt:=(fu (sIf (dNot (dB (fk K1.fU 3 (fb (dV 0) (fb (dC (.int 4)) (fb (dC (.int 4)) fc)))))) (fM (dC (.bl false))) sNil) (fu (fJ (dV 0) (ia 4 (fH (fe 1) (fH (fe 2) (fH (fe 3) (fH (fe 4) iu)))))) (fM (gE (fk K1.jl 1 (fb (dV 1) fc)) (gE (fk K1.jm 1 (fb (dV 2) fc)) (gE (fk K1.gS 2 (fb (dV 3) (fb (dN false lenD (fb (dV 2) fc)) fc))) (fk K1.fW 3 (fb (dV 4) (fb (dC (.int 1)) (fb (dC (.int 9)) fc))))))))))
noncomputable def gT:List W->List Bx->O W:=fnD 5 (noX lq)
noncomputable def jE:DSt:=(fu (sIf (dB (d2 false ltD (dV 1) (dLenS (dV 0)))) (fM (dIxS (dV 0) (dV 1))) sNil) (fM (dC (.int 0))))
noncomputable def gq:List W->List Bx->O W:=fnD 2 (noX jE)
noncomputable def j7:DSt:=(fu (sIf (dB (d2 false geI (dV 0) (d2 false powD (dC (.int 10)) (dC (.int 18))))) (fM (fS true (fb (d2 false subD (dV 0) (d2 false powD (dC (.int 10)) (dC (.int 18)))) fc))) sNil) (fu (fJ (dC (.int 0)) (fe 1)) (fu (gI (dRng1 (fb (dC (.int 64)) fc)) (fe 2) (fu (fJ (d2 false modD (d2 false mulD (d2 false fB (d2 false fB (d2 false modD (dV 0) (dC (.int 2147483629))) (d2 false mulD (dC (.int 7919)) (dV 2))) (dC (.int 1))) (dC (.int 48271))) (dC (.int 2147483647))) (fe 3)) (fu (fJ (d2 false modD (d2 false fB (d2 false fB (d2 false mulD (dV 3) (dV 3)) (d2 false mulD (dC (.int 69621)) (dV 2))) (dC (.int 7))) (dC (.int 2147483587))) (fe 3)) (fJ (d2 false fB (d2 false mulD (dV 1) (dC (.int 2147483587))) (dV 3)) (fe 1))))) (fM (fS true (fb (dV 1) fc))))))
noncomputable def io:List W->List Bx->O W:=fnD 4 (noX j7)
noncomputable def oC:DSt:=(fu (fJ (d2 false modD (d2 false ixD (dV 0) (dC (.int 0))) (dV 1)) (fe 2)) (fu (fJ (d2 false fdivD (d2 false ixD (dV 0) (dC (.int 0))) (dV 1)) (gdSub (dV 0) (dC (.int 0)))) (fM (dV 2))))
noncomputable def ff:List W->List Bx->O W:=fnD 3 (noX oC)
noncomputable def mP:DSt:=(fM (gE (ic "int" (dV 0)) (dNotV (ic "bool" (dV 0)))))
noncomputable def iP:List W->List Bx->O W:=fnD 1 (noX mP)
noncomputable def mm:DSt:=(fM (gE (fk K1.iP 1 (fb (dV 0) fc)) (d3 leD leD (dV 1) (dV 0) (dV 2))))
noncomputable def gb:List W->List Bx->O W:=fnD 3 (noX mm)
noncomputable def o8:DSt:=(fu (fJ (fS false (fb (dC .non) (fb (dC (.bl true)) (fb (dC (.bl false)) (fb (dNeg (dC (.int 1))) (fb (d2 false powD (dC (.int 10)) (dC (.int 30))) (fb (dC (.str "")) (fb (dC (.str "a")) (fb (dC (.str "1")) (fb (fF fc) (fb (fS false fc) (fb (dDic false []) (fb (fS false (fb (fF fc) fc)) (fb (fF (fb (fF fc) fc)) (fb (fF (fb (dC (.int 0)) fc)) (fb (fS false (fb (dC (.int 0)) fc)) (fb (dDic false [(.inl 0,.int 1)]) (fb (fF (fb (dC (.bl true)) (fb (dC (.bl true)) fc))) fc)))))))))))))))))) (fe 1)) (fM (d2 false ixD (dV 1) (fk K1.ff 2 (fb (dV 0) (fb (dN false lenD (fb (dV 1) fc)) fc))))))
noncomputable def gu:List W->List Bx->O W:=fnD 2 (noX o8)
noncomputable def DW (rec:List W->List Bx->O W):DSt:=(fu (sIf (dNot (dB (ic "tuple" (dV 1)))) (fu (sIf (dAnd (dB (fk K1.iP 1 (fb (dV 1) fc))) (dB (d2 false gtI (fk K1.ff 2 (fb (dV 0) (fb (dC (.int 3)) fc))) (dC (.int 0))))) (fM (d2 false fB (dV 1) (d2 false ixD (fS false (fb (dC (.int 1)) (fb (dNeg (dC (.int 1))) (fb (dC (.int 9)) (fb (dC (.int 100)) (fb (dC (.int 9999)) (fb (dNeg (d2 false powD (dC (.int 10)) (dC (.int 4)))) fc))))))) (fk K1.ff 2 (fb (dV 0) (fb (dC (.int 6)) fc)))))) sNil) (fM (fk K1.gu 1 (fb (dV 0) fc)))) sNil) (fu (fJ (fk K1.ff 2 (fb (dV 0) (fb (dC (.int 12)) fc))) (fe 2)) (fu (sIf (dOr (dB (d2 false eqD (dV 2) (dC (.int 0)))) (dB (d2 false eqD (dV 1) (fF fc)))) (fM (d2 false ixD (fS false (fb (fk K1.gu 1 (fb (dV 0) fc)) (fb (dN false listD (fb (dV 1) fc)) (fb (d2 false fB (dV 1) (fF (fb (fk K1.gu 1 (fb (dV 0) fc)) fc))) (fb (d2 false fB (dV 1) (dSl false (dV 1) (dPart (dNeg (dC (.int 1)))) dNo)) fc))))) (fk K1.ff 2 (fb (dV 0) (fb (dC (.int 4)) fc))))) sNil) (fu (fJ (fk K1.ff 2 (fb (dV 0) (fb (dN false lenD (fb (dV 1) fc)) fc))) (fe 3)) (fu (sIf (dB (d2 false eqD (dV 2) (dC (.int 1)))) (fM (d2 false fB (dSl false (dV 1) dNo (dPart (dV 3))) (dSl false (dV 1) (dPart (d2 false fB (dV 3) (dC (.int 1)))) dNo))) sNil) (fu (sIf (dB (d2 false eqD (dV 2) (dC (.int 2)))) (fM (d2 false fB (d2 false fB (dSl false (dV 1) dNo (dPart (dV 3))) (dSl false (dV 1) (dPart (dV 3)) (dPart (d2 false fB (dV 3) (dC (.int 1)))))) (dSl false (dV 1) (dPart (dV 3)) dNo))) sNil) (fM (d2 false fB (d2 false fB (dSl false (dV 1) dNo (dPart (dV 3))) (fF (fb (fk rec 2 (fb (dV 0) (fb (d2 false ixD (dV 1) (dV 3)) fc))) fc))) (dSl false (dV 1) (dPart (d2 false fB (dV 3) (dC (.int 1)))) dNo)))))))))
noncomputable def i7:Nat->List W->List Bx->O W
  | 0=>fun _ _=>.bad
  | i + 1=>fnD 4 (noX (DW (i7 i)))
noncomputable def Bg:DSt:=(fu (fJ (d2 false ixD (fS false (fb (dC (.int 9)) (fb (dC (.int 3)) (fb (dC (.int 1)) (fb (dC (.int 9)) fc))))) (fk K1.ff 2 (fb (dV 0) (fb (dC (.int 4)) fc)))) (fe 1)) (fu (fJ (dRev false (dN false sortA (fb (ge false [none,some 0,some 1] (dRng1 (fb (dC (.int 4)) fc)) (fe 0) fZ (fk K1.ff 2 (fb (dV 1) (fb (d2 false fB (dV 2) (dC (.int 1))) fc)))) fc))) (fe 2)) (fM (fF (fb (d2 false ixD (fS false (fb (dC (.int 30)) (fb (d2 false fB (dC (.int 1)) (fk K1.ff 2 (fb (dV 0) (fb (dC (.int 20)) fc)))) (fb (dC (.int 999)) (fb (dC (.int 8)) fc))))) (fk K1.ff 2 (fb (dV 0) (fb (dC (.int 4)) fc)))) (fb (dN false tupleD (fb (dV 2) fc)) fc))))))
noncomputable def AN:List W->List Bx->O W:=fnD 3 (noX Bg)
noncomputable def i8:DSt:=(fu (fJ (dN false tupleD (fb (ge false [none,some 0] (dRng1 (fb (d2 false fB (dC (.int 1)) (fk K1.ff 2 (fb (dV 0) (fb (dC (.int 5)) fc)))) fc)) (fe 0) fZ (fk K1.ff 2 (fb (dV 1) (fb (dC (.int 4)) fc)))) fc)) (fe 1)) (fu (fJ (dN false tupleD (fb (ge false [none,some 0] (dRng1 (fb (d2 false fB (dC (.int 1)) (fk K1.ff 2 (fb (dV 0) (fb (dC (.int 4)) fc)))) fc)) (fe 0) fZ (fk K1.AN 1 (fb (dV 1) fc))) fc)) (fe 2)) (fu (fJ (fS false fc) (fe 3)) (fu (gI (dRng1 (fb (dN false lenD (fb (dV 2) fc)) fc)) (fe 4) (fJ (d2 false fB (dV 3) (ge false [none,some 4,some 0] (dRng1 (fb (dV 4) fc)) (fe 0) (dB (d2 false eqD (fk K1.ff 2 (fb (dV 2) (fb (dC (.int 3)) fc))) (dC (.int 0)))) (fF (fb (dV 0) (fb (dV 1) fc))))) (fe 3))) (fM (fF (fb (dV 1) (fb (dV 2) (fb (dN false tupleD (fb (dN false sortA (fb (dV 3) fc)) fc)) (fb (d2 false ixD (fS false (fb (dC (.int 1)) (fb (dC (.int 2)) (fb (dC (.int 9)) (fb (d2 false fB (dC (.int 1)) (fk K1.ff 2 (fb (dV 0) (fb (dC (.int 9)) fc)))) fc))))) (fk K1.ff 2 (fb (dV 0) (fb (dC (.int 4)) fc)))) fc))))))))))
noncomputable def gC:List W->List Bx->O W:=fnD 5 (noX i8)
noncomputable def Bh:DSt:=(fu (sIf (dOr (dNot (dB (ic "tuple" (dV 0)))) (dOr (dB (d2 false neD (dN false lenD (fb (dV 0) fc)) (dC (.int 2)))) (dNot (dB (fk K1.gb 3 (fb (d2 false ixD (dV 0) (dC (.int 0))) (fb (dC (.int 1)) (fb (dC (.int 999)) fc)))))))) (fM (dC (.bl false))) sNil) (fu (sIf (dOr (dNot (dB (ic "tuple" (d2 false ixD (dV 0) (dC (.int 1)))))) (dB (d2 false neD (dN false lenD (fb (d2 false ixD (dV 0) (dC (.int 1))) fc)) (dC (.int 4))))) (fM (dC (.bl false))) sNil) (fu (sIf (dB (d2 false neD (ge false [none] (dIter (d2 false ixD (dV 0) (dC (.int 1)))) (fe 0) (dNot (dB (fk K1.gb 3 (fb (dV 0) (fb (dC (.int 0)) (fb (dC (.int 9)) fc)))))) (dV 0)) (fS false fc))) (fM (dC (.bl false))) sNil) (fM (d2 false eqD (dN false listD (fb (d2 false ixD (dV 0) (dC (.int 1))) fc)) (dRev false (dN false sortA (fb (d2 false ixD (dV 0) (dC (.int 1))) fc))))))))
noncomputable def AO:List W->List Bx->O W:=fnD 1 (noX Bh)
noncomputable def AQ:DSt:=(fu (sIf (dOr (dNot (dB (ic "tuple" (dV 0)))) (dOr (dB (d2 false neD (dN false lenD (fb (dV 0) fc)) (dC (.int 4)))) (dNot (dB (dN false allD (fb (ge false [none] (dIter (dSl false (dV 0) dNo (dPart (dC (.int 3))))) (fe 0) fZ (ic "tuple" (dV 0))) fc)))))) (fM (dC (.bl false))) sNil) (fu (fJ (dV 0) (ia 4 (fH (fe 1) (fH (fe 2) (fH (fe 3) (fH (fe 4) iu)))))) (fu (sIf (dOr (dNot (dB (d3 leD leD (dC (.int 1)) (dN false lenD (fb (dV 1) fc)) (dC (.int 5))))) (dB (d2 false neD (ge false [none] (dIter (dV 1)) (fe 0) (dNot (dB (fk K1.gb 3 (fb (dV 0) (fb (dC (.int 0)) (fb (dC (.int 3)) fc)))))) (dV 0)) (fS false fc)))) (fM (dC (.bl false))) sNil) (fu (sIf (dOr (dNot (dB (d3 leD leD (dC (.int 1)) (dN false lenD (fb (dV 2) fc)) (dC (.int 4))))) (dB (d2 false neD (ge false [none] (dIter (dV 2)) (fe 0) (dNot (dB (fk K1.AO 1 (fb (dV 0) fc)))) (dV 0)) (fS false fc)))) (fM (dC (.bl false))) sNil) (fu (fJ (fF (fb (dNeg (dC (.int 1))) (fb (dNeg (dC (.int 1))) fc))) (fe 5)) (fu (gI (dIter (dV 3)) (fe 6) (fu (sIf (dOr (dNot (dB (ic "tuple" (dV 6)))) (dOr (dB (d2 false neD (dN false lenD (fb (dV 6) fc)) (dC (.int 2)))) (dNot (dB (fk K1.gb 3 (fb (d2 false ixD (dV 6) (dC (.int 0))) (fb (dC (.int 0)) (fb (d2 false subD (dN false lenD (fb (dV 2) fc)) (dC (.int 1))) fc)))))))) (fM (dC (.bl false))) sNil) (fu (sIf (dOr (dNot (dB (fk K1.gb 3 (fb (d2 false ixD (dV 6) (dC (.int 1))) (fb (d2 false fB (d2 false ixD (dV 6) (dC (.int 0))) (dC (.int 1))) (fb (d2 false subD (dN false lenD (fb (dV 2) fc)) (dC (.int 1))) fc)))))) (dB (d2 false leD (dV 6) (dV 5)))) (fM (dC (.bl false))) sNil) (fJ (dV 6) (fe 5))))) (fM (fk K1.gb 3 (fb (dV 4) (fb (dC (.int 1)) (fb (dC (.int 9)) fc)))))))))))
noncomputable def mH:List W->List Bx->O W:=fnD 7 (noX AQ)
noncomputable def oU:DSt:=(fu (fJ (dV 1) (ia 4 (fH (fe 2) (fH (fe 3) (fH (fe 4) (fH (fe 5) iu)))))) (fu (fJ (d2 false ixD (dV 3) (dC (.int 0))) (ia 2 (fH (fe 6) (fH (fe 7) iu)))) (fu (fJ (fk K1.ff 2 (fb (dV 0) (fb (dN false lenD (fb (dV 2) fc)) fc))) (fe 8)) (fu (fJ (ge true [none,some 3,some 4,some 5,some 2,some 8] (dIter (fS false (fb (dNeg (dC (.int 1))) (fb (dC (.int 0)) (fb (dC (.int 3)) (fb (dC (.int 4)) (fb (dC (.bl true)) fc))))))) (fe 0) fZ (fF (fb (d2 false fB (d2 false fB (dSl false (dV 4) dNo (dPart (dV 5))) (fF (fb (dV 0) fc))) (dSl false (dV 4) (dPart (d2 false fB (dV 5) (dC (.int 1)))) dNo)) (fb (dV 1) (fb (dV 2) (fb (dV 3) fc)))))) (fe 9)) (fu (fJ (d2 true fB (dV 9) (ge false [none,some 3,some 4,some 5,some 2] (dIter (fS false (fb (dC (.int 0)) (fb (dC (.int 1)) (fb (dC (.int 5)) (fb (dC (.int 6)) fc)))))) (fe 0) fZ (fF (fb (dSl false (d2 false mulD (dV 4) (dC (.int 6))) dNo (dPart (dV 0))) (fb (dV 1) (fb (dV 2) (fb (dV 3) fc))))))) (fe 9)) (fu (fJ (d2 true fB (dV 9) (ge false [none,some 2,some 3,some 4] (dIter (fS false (fb (dC (.int 0)) (fb (dC (.int 1)) (fb (dC (.int 9)) (fb (dC (.int 10)) (fb (dC (.bl true)) fc))))))) (fe 0) fZ (fF (fb (dV 1) (fb (dV 2) (fb (dV 3) (fb (dV 0) fc))))))) (fe 9)) (fu (fJ (d2 true fB (dV 9) (ge false [none,some 2,some 4,some 5,some 3,some 7] (dIter (fS false (fb (dC (.int 0)) (fb (dC (.int 1)) (fb (dC (.int 999)) (fb (dC (.int 1000)) fc)))))) (fe 0) fZ (fF (fb (dV 1) (fb (d2 false fB (fF (fb (fF (fb (dV 0) (fb (dV 5) fc))) fc)) (dSl false (dV 4) (dPart (dC (.int 1))) dNo)) (fb (dV 2) (fb (dV 3) fc))))))) (fe 9)) (fu (gI (dIter (fS false (fb (fF (fb (dC (.int 9)) (fb (dC (.int 9)) (fb (dC (.int 9)) (fb (dC (.int 9)) fc))))) (fb (fF (fb (dC (.int 0)) (fb (dC (.int 0)) (fb (dC (.int 0)) (fb (dC (.int 0)) fc))))) (fb (fF (fb (dC (.int 10)) (fb (dC (.int 9)) (fb (dC (.int 9)) (fb (dC (.int 9)) fc))))) (fb (fF (fb (dC (.int 3)) (fb (dC (.int 2)) (fb (dC (.int 1)) (fb (dNeg (dC (.int 1))) fc))))) (fb (fF (fb (dC (.int 3)) (fb (dC (.int 3)) (fb (dC (.int 4)) (fb (dC (.int 2)) fc))))) (fb (fF (fb (dC (.int 4)) (fb (dC (.int 3)) (fb (dC (.int 2)) fc)))) (fb (fF (fb (dC (.int 4)) (fb (dC (.int 3)) (fb (dC (.int 2)) (fb (dC (.int 1)) (fb (dC (.int 0)) fc)))))) fc))))))))) (fe 10) (gR (dApp (dV 9) (fF (fb (dV 2) (fb (d2 false fB (fF (fb (fF (fb (dV 6) (fb (dV 10) fc))) fc)) (dSl false (dV 3) (dPart (dC (.int 1))) dNo)) (fb (dV 4) (fb (dV 5) fc)))))))) (fu (fJ (dSl false (d2 false mulD (dV 3) (dC (.int 5))) dNo (dPart (dC (.int 5)))) (fe 11)) (fu (gI (dIter (fS false (fb (dV 11) (fb (dSl false (dV 11) dNo (dPart (dC (.int 4)))) (fb (fF fc) (fb (dN false listD (fb (dV 3) fc)) (fb (dSl false (dV 3) dNo (dPart (dC (.int 1)))) fc))))))) (fe 10) (gR (dApp (dV 9) (fF (fb (dV 2) (fb (dV 10) (fb (fF fc) (fb (dV 5) fc)))))))) (fu (fJ (dSl false (d2 false mulD (dV 3) (dC (.int 2))) dNo (dPart (dC (.int 2)))) (fe 12)) (fu (gI (dIter (fS false (fb (fF fc) (fb (fF (fb (fF (fb (dC (.int 0)) (fb (dC (.int 1)) fc))) fc)) (fb (fF (fb (fF (fb (dC (.int 1)) (fb (dC (.int 0)) fc))) fc)) (fb (fF (fb (fF (fb (dC (.int 0)) (fb (dC (.int 0)) fc))) fc)) (fb (fF (fb (fF (fb (dC (.int 0)) (fb (dC (.int 1)) fc))) (fb (fF (fb (dC (.int 0)) (fb (dC (.int 1)) fc))) fc))) (fb (fF (fb (fF (fb (dC (.int 0)) (fb (dC (.int 2)) fc))) fc)) (fb (fF (fb (fF (fb (dNeg (dC (.int 1))) (fb (dC (.int 0)) fc))) fc)) (fb (fS false (fb (fF (fb (dC (.int 0)) (fb (dC (.int 1)) fc))) fc)) (fb (fF (fb (fF (fb (dC (.int 0)) fc)) fc)) fc))))))))))) (fe 10) (gR (dApp (dV 9) (fF (fb (dV 2) (fb (dV 12) (fb (dV 10) (fb (dV 5) fc)))))))) (fu (fJ (dSl false (d2 false mulD (dV 3) (dC (.int 3))) dNo (dPart (dC (.int 3)))) (fe 13)) (fu (gI (dIter (fS false (fb (fF (fb (fF (fb (dC (.int 0)) (fb (dC (.int 2)) fc))) (fb (fF (fb (dC (.int 1)) (fb (dC (.int 2)) fc))) fc))) (fb (fF (fb (fF (fb (dC (.int 1)) (fb (dC (.int 2)) fc))) (fb (fF (fb (dC (.int 0)) (fb (dC (.int 2)) fc))) fc))) (fb (fF (fb (fF (fb (dC (.int 0)) (fb (dC (.int 1)) fc))) (fb (fF (fb (dC (.int 0)) (fb (dC (.int 2)) fc))) (fb (fF (fb (dC (.int 1)) (fb (dC (.int 2)) fc))) fc)))) fc))))) (fe 10) (gR (dApp (dV 9) (fF (fb (dV 2) (fb (dV 13) (fb (dV 10) (fb (dV 5) fc)))))))) (fM (dFrz 9))))))))))))))))
noncomputable def lu:List W->List Bx->O W:=fnD 14 (noX oU)
noncomputable def Ai:DSt:=(fu (gI (dRng1 (fb (dN false maxD (fb (dC (.int 1)) (fb (dN false minD (fb (dLenS (dV 0)) (fb (dC (.int 16)) fc))) fc))) fc)) (fe 1) (fu (fJ (fk K1.io 1 (fb (fk K1.gq 2 (fb (dV 0) (fb (dV 1) fc))) fc)) (fe 2)) (fu (fJ (fk K1.gC 1 (fb (dV 2) fc)) (fe 3)) (fu (sIf (dB (d2 false isntD (fk K1.gT 1 (fb (dV 3) fc)) (dC (.bl true)))) (fM (dC (.bl false))) sNil) (fu (fJ (d2 true fB (fS false (fb (fk K1.gu 1 (fb (dV 2) fc)) (fb (dN false listD (fb (dV 3) fc)) fc))) (fk K1.lu 2 (fb (dV 2) (fb (dV 3) fc)))) (fe 4)) (fu (gI (dRng1 (fb (dC (.int 6)) fc)) (fe 5) (fu (fJ (dV 3) (fe 6)) (fu (gI (dRng1 (fb (d2 false fB (dC (.int 1)) (fk K1.ff 2 (fb (dV 2) (fb (dC (.int 3)) fc)))) fc)) (fe 7) (fJ (fk (K1.i7 12) 2 (fb (dV 2) (fb (dV 6) fc))) (fe 6))) (gR (dApp (dV 4) (dV 6)))))) (gI (dIter (dFrz 4)) (fe 8) (fu (fJ (dRepr (dV 8)) (fe 9)) (sIf (dOr (dB (d2 false neD (dRepr (fk K1.gT 1 (fb (dV 8) fc))) (dRepr (fk K1.mH 1 (fb (dV 8) fc))))) (dB (d2 false neD (dRepr (dV 8)) (dV 9)))) (fM (dC (.bl false))) sNil))))))))) (fM (dC (.bl true))))
noncomputable def o9:List W->List Bx->O W:=fnD 10 (noX Ai)
end K1
set_option Elab.async false
set_option linter.all false
set_option maxRecDepth 100000
set_option maxHeartbeats 4000000
namespace K2
open PySem PySem.Spec PyProof.Rows L2 L2.DL
noncomputable def GM:DSt:=(fu (fJ (d2 false ixD (fS false (fb (dC (.int 0)) (fb (dC (.int 0)) (fb (d2 false powD (dC (.int 10)) (dC (.int 6))) (fb (d2 false powD (dC (.int 10)) (dC (.int 39))) fc))))) (fk K1.ff 2 (fb (dV 0) (fb (dC (.int 4)) fc)))) (fe 3)) (fu (fJ (dN false tupleD (fb (ge false [none,none,some 3] (dIter (dV 1)) (ia 2 (fH (fe 0) (fH (fe 1) iu))) fZ (fF (fb (d2 false fB (dV 0) (dV 2)) (fb (d2 false fB (dV 1) (dV 2)) fc)))) fc)) (fe 4)) (fM (fF (fb (dV 4) (fb (ge false [none,some 3] (dIter (dV 2)) (fe 0) fZ (d2 false fB (fF (fb (d2 false fB (d2 false ixD (dV 0) (dC (.int 0))) (dV 1)) fc)) (dSl false (dV 0) (dPart (dC (.int 1))) dNo))) (fb (dV 3) fc)))))))
noncomputable def AR:List W->List Bx->O W:=fnD 5 (noX GM)
noncomputable def B7:DSt:=(fu (fJ (fS true (fb (dV 1) (fb (dN false listD (fb (dV 1) fc)) (fb (fk K1.gu 1 (fb (dV 0) fc)) (fb (fk (K1.i7 12) 2 (fb (dV 0) (fb (dV 1) fc))) (fb (d2 false fB (dV 1) (fF (fb (fF (fb (dC (.int 1)) (fb (dC (.int 2)) fc))) fc))) fc)))))) (fe 2)) (fu (gR (dApp (dV 2) (fk (K1.i7 12) 2 (fb (dV 0) (fb (fk (K1.i7 12) 2 (fb (dV 0) (fb (dV 1) fc))) fc))))) (fu (fJ (d2 true fB (dV 2) (fS false (fb (fF (fb (fF (fb (dC (.int 3)) (fb (dC (.int 5)) fc))) (fb (fF (fb (dC (.int 5)) (fb (dC (.int 6)) fc))) fc))) (fb (fF (fb (fF (fb (dC (.int 3)) (fb (dC (.int 5)) fc))) (fb (fF (fb (dC (.int 6)) (fb (dC (.int 7)) fc))) fc))) (fb (fF (fb (fF (fb (dC (.int 3)) (fb (dC (.int 5)) fc))) (fb (fF (fb (dC (.int 4)) (fb (dC (.int 7)) fc))) fc))) (fb (fF (fb (fF (fb (dC (.int 6)) (fb (dC (.int 7)) fc))) (fb (fF (fb (dC (.int 3)) (fb (dC (.int 5)) fc))) fc))) (fb (fF (fb (fF (fb (dC (.int 3)) (fb (dC (.int 3)) fc))) fc)) (fb (fF (fb (fF (fb (dC (.int 4)) (fb (dC (.int 3)) fc))) fc)) fc)))))))) (fe 2)) (fu (fJ (dN false tupleD (fb (ge false [none] (dRng1 (fb (dC (.int 5)) fc)) (fe 0) fZ (fF (fb (d2 false mulD (dC (.int 3)) (dV 0)) (fb (d2 false fB (d2 false mulD (dC (.int 3)) (dV 0)) (dC (.int 1))) fc)))) fc)) (fe 3)) (fM (d2 false fB (dV 2) (fS false (fb (dV 3) (fb (dSl false (dV 3) dNo (dPart (dC (.int 4)))) (fb (fF (fb (fF (fb (dC (.int 0)) (fb (dC (.int 1)) fc))) fc)) (fb (fF (fb (fF (fb (dNeg (dC (.int 1))) (fb (dC (.int 1)) fc))) fc)) (fb (fF (fb (fF (fb (dC (.bl true)) (fb (dC (.int 3)) fc))) fc)) (fb (fF (fb (fF (fb (dC (.int 0)) (fb (d2 false subD (d2 false powD (dC (.int 10)) (dC (.int 40))) (dC (.int 1))) fc))) fc)) (fb (fF (fb (fF (fb (dC (.int 0)) (fb (dC (.int 1)) (fb (dC (.int 2)) fc)))) fc)) (fb (fF (fb (fS false (fb (dC (.int 0)) (fb (dC (.int 1)) fc))) fc)) fc)))))))))))))))
noncomputable def ol:List W->List Bx->O W:=fnD 4 (noX B7)
noncomputable def DX:DSt:=(fu (sPar 2 3 (fb (fS true fc) (fb (fk K1.ff 2 (fb (dV 0) (fb (dV 1) fc))) fc))) (fu (gI (dRng1 (fb (d2 false ixD (fS false (fb (dC (.int 0)) (fb (dC (.int 1)) (fb (dC (.int 2)) (fb (dC (.int 4)) fc))))) (fk K1.ff 2 (fb (dV 0) (fb (dC (.int 4)) fc)))) fc)) (fe 4) (fu (gR (dApp (dV 2) (fF (fb (dV 3) (fb (d2 false fB (d2 false fB (dV 3) (dC (.int 1))) (fk K1.ff 2 (fb (dV 0) (fb (dV 1) fc)))) fc))))) (fJ (d2 false fB (d2 false fB (d2 false ixD (d2 false ixD (dV 2) (dNeg (dC (.int 1)))) (dC (.int 1))) (dC (.int 1))) (fk K1.ff 2 (fb (dV 0) (fb (dV 1) fc)))) (fe 3)))) (fM (dN false tupleD (fb (dV 2) fc)))))
noncomputable def Aj:List W->List Bx->O W:=fnD 5 (noX DX)
noncomputable def iq:DSt:=(sIf (dNot (dB (fk K1.gT 1 (fb (dV 0) fc)))) (sRaise 0 (dC (.str "a house is a tuple (rooms, kinds, apart, hold)"))) sNil)
noncomputable def iB:List W->List Bx->O W:=fnD 1 iq
noncomputable def C1:DSt:=(fM (dN false allD (fb (ge false [none,none] (dZip (fb (dV 0) (fb (dSl false (dV 0) (dPart (dC (.int 1))) dNo) fc))) (ia 2 (fH (fe 0) (fH (fe 1) iu))) fZ (d2 false ltD (d2 false ixD (dV 0) (dC (.int 1))) (d2 false ixD (dV 1) (dC (.int 0))))) fc)))
noncomputable def B8:List W->List Bx->O W:=fnD 1 (noX C1)
noncomputable def GN:DSt:=(fM (gE (fk K1.jF 1 (fb (dV 0) fc)) (d2 false geI (dV 0) (dC (.int 0)))))
noncomputable def oD:List W->List Bx->O W:=fnD 1 (noX GN)
noncomputable def JM:DSt:=(fM (gE (fk K1.fU 3 (fb (dV 0) (fb (dC (.int 2)) (fb (dC (.int 2)) fc)))) (gE (fk K2.oD 1 (fb (d2 false ixD (dV 0) (dC (.int 0))) fc)) (gE (fk K2.oD 1 (fb (d2 false ixD (dV 0) (dC (.int 1))) fc)) (d2 false ltD (d2 false ixD (dV 0) (dC (.int 0))) (d2 false ixD (dV 0) (dC (.int 1))))))))
noncomputable def GO:List W->List Bx->O W:=fnD 1 (noX JM)
noncomputable def DY:DSt:=(fu (gR (fk K2.iB 1 (fb (dV 0) fc))) (fM (gE (fk K1.fU 3 (fb (dV 1) (fb (dC (.int 0)) (fb (dC (.int 4)) fc)))) (gE (dN false allD (fb (ge false [none] (dIter (dV 1)) (fe 0) fZ (fk K2.GO 1 (fb (dV 0) fc))) fc)) (fk K2.B8 1 (fb (dV 1) fc))))))
noncomputable def mQ:List W->List Bx->O W:=fnD 2 DY
noncomputable def C2:DSt:=(sIf (dNot (dB (fk K2.mQ 2 (fb (dV 0) (fb (dV 1) fc))))) (sRaise 1 (dC (.str "outs are a tuple of at most four tuples (begin, end) that don't meet or touch"))) sNil)
noncomputable def B9:List W->List Bx->O W:=fnD 2 C2
noncomputable def C3:DSt:=(sIf (dNot (dB (fk K2.oD 1 (fb (dV 0) fc)))) (sRaise 3 (dC (.str "an hour is a whole number from 0 on"))) sNil)
noncomputable def Ca:List W->List Bx->O W:=fnD 1 C3
noncomputable def AS:DSt:=(fu (fJ (d2 false ixD (d2 false ixD (dV 0) (dC (.int 0))) (dV 2)) (fe 4)) (fu (gI (dIter (dV 1)) (ia 2 (fH (fe 5) (fH (fe 6) iu))) (sIf (dB (d3 leD ltD (dV 5) (dV 3) (dV 6))) (fM (dN false maxD (fb (dC (.int 0)) (fb (d2 false subD (dV 4) (d2 false fdivD (d2 false subD (dV 3) (dV 5)) (d2 false ixD (dV 0) (dC (.int 3))))) fc)))) sNil)) (fM (dV 4))))
noncomputable def Ao:List W->List Bx->O W:=fnD 7 (noX AS)
noncomputable def BF:DSt:=(fM (fk K1.fW 3 (fb (dV 1) (fb (dC (.int 0)) (fb (d2 false subD (dN false lenD (fb (d2 false ixD (dV 0) (dC (.int 0))) fc)) (dC (.int 1))) fc)))))
noncomputable def gG:List W->List Bx->O W:=fnD 2 (noX BF)
noncomputable def GP:DSt:=(fu (gR (fk K2.B9 2 (fb (dV 0) (fb (dV 1) fc)))) (fu (sIf (dNot (dB (fk K2.gG 2 (fb (dV 0) (fb (dV 2) fc))))) (sRaise 2 (dC (.str "a room is a whole number from 0 on, less than the house has rooms"))) sNil) (fu (gR (fk K2.Ca 1 (fb (dV 3) fc))) (fM (fk K2.Ao 4 (fb (dV 0) (fb (dV 1) (fb (dV 2) (fb (dV 3) fc)))))))))
noncomputable def DZ:List W->List Bx->O W:=fnD 4 GP
noncomputable def Fa:DSt:=(sTry (fM (fk K2.DZ 4 (fb (dV 0) (fb (dV 1) (fb (dV 2) (fb (dV 3) fc)))))))
noncomputable def lD:List W->List Bx->O W:=fnD 5 (noX Fa)
noncomputable def Bi:DSt:=(fM (gE (fk K1.iP 1 (fb (dV 0) fc)) (d2 false geI (dV 0) (dC (.int 0)))))
noncomputable def lv:List W->List Bx->O W:=fnD 1 (noX Bi)
noncomputable def AT:DSt:=(fu (sIf (dOr (dNot (dB (ic "tuple" (dV 0)))) (dB (d2 false gtI (dN false lenD (fb (dV 0) fc)) (dC (.int 4))))) (fM (dC (.bl false))) sNil) (fu (fJ (dNeg (dC (.int 1))) (fe 1)) (fu (gI (dIter (dV 0)) (fe 2) (fu (sIf (dOr (dNot (dB (ic "tuple" (dV 2)))) (dOr (dB (d2 false neD (dN false lenD (fb (dV 2) fc)) (dC (.int 2)))) (dOr (dNot (dB (fk K2.lv 1 (fb (d2 false ixD (dV 2) (dC (.int 0))) fc)))) (dNot (dB (fk K2.lv 1 (fb (d2 false ixD (dV 2) (dC (.int 1))) fc))))))) (fM (dC (.bl false))) sNil) (fu (sIf (dOr (dB (d2 false leD (d2 false ixD (dV 2) (dC (.int 0))) (dV 1))) (dB (d2 false leD (d2 false ixD (dV 2) (dC (.int 1))) (d2 false ixD (dV 2) (dC (.int 0)))))) (fM (dC (.bl false))) sNil) (fJ (d2 false ixD (dV 2) (dC (.int 1))) (fe 1))))) (fM (dC (.bl true))))))
noncomputable def jY:List W->List Bx->O W:=fnD 3 (noX AT)
noncomputable def Fb:DSt:=(fu (fJ (d2 false ixD (d2 false ixD (dV 0) (dC (.int 0))) (dV 2)) (fe 4)) (fu (gI (dIter (dV 1)) (ia 2 (fH (fe 5) (fH (fe 6) iu))) (sIf (dB (d3 leD ltD (dV 5) (dV 3) (dV 6))) (fM (dN false maxD (fb (d2 false subD (dV 4) (d2 false fdivD (d2 false subD (dV 3) (dV 5)) (d2 false ixD (dV 0) (dC (.int 3))))) (fb (dC (.int 0)) fc)))) sNil)) (fM (dV 4))))
noncomputable def C4:List W->List Bx->O W:=fnD 7 (noX Fb)
noncomputable def GQ:DSt:=(fu (sIf (dNot (dB (fk K2.jY 1 (fb (dV 1) fc)))) (fM (dC (.str "outs"))) sNil) (fu (sIf (dNot (dB (fk K1.gb 3 (fb (dV 2) (fb (dC (.int 0)) (fb (d2 false subD (dN false lenD (fb (d2 false ixD (dV 0) (dC (.int 0))) fc)) (dC (.int 1))) fc)))))) (fM (dC (.str "room"))) sNil) (fM (dIf (dB (fk K2.lv 1 (fb (dV 3) fc))) (fk K2.C4 4 (fb (dV 0) (fb (dV 1) (fb (dV 2) (fb (dV 3) fc))))) (dC (.str "hour"))))))
noncomputable def mn:List W->List Bx->O W:=fnD 4 (noX GQ)
noncomputable def Ai:DSt:=(fu (gI (dRng1 (fb (dN false maxD (fb (dC (.int 1)) (fb (dN false minD (fb (dLenS (dV 0)) (fb (dC (.int 6)) fc))) fc))) fc)) (fe 1) (fu (fJ (fk K1.io 1 (fb (fk K1.gq 2 (fb (dV 0) (fb (dV 1) fc))) fc)) (fe 2)) (fu (fJ (fk K1.gC 1 (fb (dV 2) fc)) (fe 3)) (fu (fJ (fk K2.AR 3 (fb (dV 2) (fb (fk K2.Aj 2 (fb (dV 2) (fb (dC (.int 30)) fc))) (fb (fS false fc) fc)))) (ia 3 (fH (fe 4) (fH (fe 5) (fH (fe 6) iu))))) (fu (gI (dIter (fk K2.ol 2 (fb (dV 2) (fb (dV 4) fc)))) (fe 7) (fu (fJ (dRepr (dV 7)) (fe 8)) (fu (sIf (dOr (dB (d2 false neD (dRepr (fk K2.mQ 2 (fb (dV 3) (fb (dV 7) fc)))) (dRepr (fk K2.jY 1 (fb (dV 7) fc))))) (dB (d2 false neD (dRepr (dV 7)) (dV 8)))) (fM (dC (.bl false))) sNil) (sIf (dB (d2 false neD (dRepr (fk K2.lD 4 (fb (dV 3) (fb (dV 7) (fb (dC (.int 0)) (fb (dC (.int 4)) fc)))))) (dRepr (fk K2.mn 4 (fb (dV 3) (fb (dV 7) (fb (dC (.int 0)) (fb (dC (.int 4)) fc)))))))) (fM (dC (.bl false))) sNil)))) (fu (fJ (fS false (fb (dC (.int 0)) (fb (d2 false fB (dV 6) (fk K1.ff 2 (fb (dV 2) (fb (dC (.int 200)) fc)))) (fb (d2 false subD (d2 false powD (dC (.int 10)) (dC (.int 40))) (dC (.int 1))) (fb (dC (.bl true)) (fb (dC .non) (fb (dNeg (dC (.int 1))) (fb (dC (.str "3")) (fb (fF (fb (dC (.int 3)) fc)) fc))))))))) (fe 9)) (fu (gI (dIter (dV 4)) (ia 2 (fH (fe 10) (fH (fe 11) iu))) (fu (fJ (d2 false fB (dV 9) (fS false (fb (dV 10) (fb (dV 11) (fb (d2 false subD (dV 11) (dC (.int 1))) (fb (dN false maxD (fb (dC (.int 0)) (fb (d2 false subD (dV 10) (dC (.int 1))) fc))) (fb (d2 false fB (dV 10) (fk K1.ff 2 (fb (dV 2) (fb (dC (.int 40)) fc)))) fc))))))) (fe 9)) (gI (dIter (fF (fb (dC (.int 1)) (fb (dC (.int 2)) (fb (dC (.int 3)) (fb (dC (.int 4)) fc)))))) (fe 12) (fJ (d2 false fB (dV 9) (fS false (fb (d2 false fB (dV 10) (d2 false mulD (d2 false ixD (dV 3) (dC (.int 3))) (dV 12))) (fb (d2 false subD (d2 false fB (dV 10) (d2 false mulD (d2 false ixD (dV 3) (dC (.int 3))) (dV 12))) (dC (.int 1))) fc)))) (fe 9))))) (gI (dIter (d2 false fB (dLR false (fb (d2 false fB (dN false lenD (fb (d2 false ixD (dV 3) (dC (.int 0))) fc)) (dC (.int 1))) fc)) (fS false (fb (dNeg (dC (.int 1))) (fb (dC (.bl true)) (fb (dC .non) (fb (dC (.str "0")) fc))))))) (fe 13) (gI (dIter (dV 9)) (fe 14) (sIf (dB (d2 false neD (dRepr (fk K2.lD 4 (fb (dV 3) (fb (dV 4) (fb (dV 13) (fb (dV 14) fc)))))) (dRepr (fk K2.mn 4 (fb (dV 3) (fb (dV 4) (fb (dV 13) (fb (dV 14) fc)))))))) (fM (dC (.bl false))) sNil)))))))))) (fM (dC (.bl true))))
noncomputable def o9:List W->List Bx->O W:=fnD 15 (noX Ai)
end K2
set_option Elab.async false
set_option linter.all false
set_option maxRecDepth 100000
namespace L2.DL
open PySem PySem.Spec PyProof.Rows
section
variable {α β : Type}
@[simp] theorem gj {a:α}{bx:List Bx}{k:α->List Bx->O β}:fE (.val a bx) k=k a bx:=rfl
@[simp] theorem Pr {k:α->List Bx->O β}:fE .bad k=.bad:=rfl
@[simp] theorem Aa {a:α}{bx:List Bx}{k:α->List Bx->OS}:bindS (.val a bx) k=k a bx:=rfl
@[simp] theorem Ps {k:α->List Bx->OS}:bindS (.bad:O α) k=.bad:=rfl
@[simp] theorem Mm {a:α}{bx:List Bx}{k:α->List Bx->O β}:bindB (.val a bx) k=k a bx:=rfl
end
section
variable {env : DEnv} {bx : List Bx}
@[simp] theorem Pf {i:Nat}:dV i env bx=match env[i]? with | some (some w)=>.val w bx | _=>.bad:=rfl
@[simp] theorem Pg {d:D}:dC d env bx=.val (.d d) bx:=rfl
@[simp] theorem Fc:fc env bx=.val [] bx:=rfl
@[simp] theorem At {m:DE W}{k:DE (List W)}:fb m k env bx=fE (m env bx) fun w bx1=>fE (k env bx1) fun l bx2=>.val (w :: l) bx2:=rfl
@[simp] theorem FM {fn:List W->List Bx->O W}{n:Nat}{k:DE (List W)}:fk fn n k env bx=fE (k env bx) fun ws bx1=>if ws.length=n then fn ws bx1 else .bad:=rfl
@[simp] theorem Ph {m:DE W}:dB m env bx=fE (m env bx) fun w bx1=>match w with | .d (.bl k)=>.val k bx1 | _=>.bad:=rfl
@[simp] theorem Pi {m k:DE Bool}:dAnd m k env bx=fE (m env bx) fun b bx1=>match b with | true=>k env bx1 | false=>.val false bx1:=rfl
@[simp] theorem MY {m k:DE Bool}:dOr m k env bx=fE (m env bx) fun b bx1=>match b with | true=>.val true bx1 | false=>k env bx1:=rfl
@[simp] theorem NV {m:DE Bool}:dNot m env bx=fE (m env bx) fun b bx1=>.val (!b) bx1:=rfl
@[simp] theorem FN {m k:DE W}:gE m k env bx=fE (m env bx) fun w bx1=>match w with | .d (.bl true)=>k env bx1 | .d (.bl false)=>.val (.d (.bl false)) bx1 | _=>.bad:=rfl
@[simp] theorem Pj {m k:DE W}:dOrV m k env bx=fE (m env bx) fun w bx1=>match w with | .d (.bl true)=>.val (.d (.bl true)) bx1 | .d (.bl false)=>k env bx1 | _=>.bad:=rfl
@[simp] theorem O5 {m:DE W}:dNotV m env bx=fE (m env bx) fun w bx1=>match w with | .d (.bl k)=>.val (.d (.bl (!k))) bx1 | _=>.bad:=rfl
@[simp] theorem FO:fZ env bx=.val true bx:=rfl
@[simp] theorem O6 {n:String}{m:DE W}:ic n m env bx=fE (m env bx) fun w bx1=>match rdW bx1 w with | some d=>.val (.d (.bl (subT (tyN d) n))) bx1 | none=>.bad:=rfl
@[simp] theorem JN {b:Bool}{g:D->D->Option Res}{ma mb:DE W}:d2 b g ma mb env bx=fE (ma env bx) fun x bx1=>fE (mb env bx1) fun y bx2=>resO b ((rdW bx2 x).bind fun p=>(rdW bx2 y).bind fun q=>g p q) bx2:=rfl
@[simp] theorem Fd {b:Bool}{g:List D->Option Res}{k:DE (List W)}:dN b g k env bx=fE (k env bx) fun ws bx1=>resO b ((rdWs bx1 ws).bind g) bx1:=rfl
@[simp] theorem Pt {g g':D->D->Option Res}{ma mb mc:DE W}:d3 g g' ma mb mc env bx=fE (ma env bx) fun x bx1=>fE (mb env bx1) fun y bx2 =>
  fE (resO false ((rdW bx2 x).bind fun p=>(rdW bx2 y).bind fun q=>g p q) bx2) fun z bx3=>match z with
    | .d (.bl true)=>fE (mc env bx3) fun w bx4=>resO false ((rdW bx4 y).bind fun p=>(rdW bx4 w).bind fun q=>g' p q) bx4
    | .d (.bl false)=>.val (.d (.bl false)) bx3
    | _=>.bad:=rfl
@[simp] theorem Ak {d:D}:rdW bx (.d d)=some d:=rfl
@[simp] theorem C5:rdWs bx []=some []:=rfl
@[simp] theorem Fe {d:D}{l:List W}:rdWs bx (.d d :: l)=(rdWs bx l).map fun t=>d :: t:=by
  simp only [rdWs,Ak]
  cases rdWs bx l <;> rfl
@[simp] theorem On {b:Bool}:resO b none bx=.bad:=rfl
@[simp] theorem lw {q:Res}:resO false (some q) bx=.val (.d q.toD) bx:=by cases q <;> rfl
@[simp] theorem Pk {l:List D}:resO true (some (.lst l)) bx=.val (.b bx.length) (bx ++ [.lst l]):=rfl
@[simp] theorem Cb {d:D}:(Res.old d).toD=d:=rfl
@[simp] theorem Mn {l:List D}:(Res.tup l).toD=.tup l:=rfl
@[simp] theorem Au {l:List D}:(Res.lst l).toD=.lst l:=rfl
@[simp] theorem O7 {l:List (Key × D)}:(Res.dic l).toD=.dic l:=rfl
@[simp] theorem Pl:sNil env bx=.nx env bx:=rfl
@[simp] theorem Ff {m k:DSt}:fu m k env bx=match m env bx with | .nx env1 bx1=>k env1 bx1 | o=>o:=rfl
@[simp] theorem Mo {m:DE W}:gR m env bx=bindS (m env bx) fun _ bx1=>.nx env bx1:=rfl
@[simp] theorem Fg {m:DE W}:fM m env bx=bindS (m env bx) fun w bx1=>.rt w bx1:=rfl
@[simp] theorem JO {t:DE Bool}{m k:DSt}:sIf t m k env bx=bindS (t env bx) fun b bx1=>match b with | true=>m env bx1 | false=>k env bx1:=rfl
@[simp] theorem JP {m:DE W}{g:DG}:fJ m g env bx=bindS (m env bx) fun w bx1=>match g w env bx1 with | some (env1,bx2)=>.nx env1 bx2 | none=>.bad:=rfl
@[simp] theorem NW {m:DE (List W)}{g:DG}{body:DSt}:gI m g body env bx=bindS (m env bx) fun ds bx1=>forD g body ds env bx1:=rfl
@[simp] theorem JQ {i:Nat}{w:W}:fe i w env bx=some (env.set i (some w),bx):=rfl
@[simp] theorem O8:iu [] env bx=some (env,bx):=rfl
@[simp] theorem OK {g:DG}{k:DGs}{w:W}{l:List W}:fH g k (w :: l) env bx=(g w env bx).bind fun (env1,bx1)=>k l env1 bx1:=rfl
@[simp] theorem O9 {n:Nat}{k:DGs}{l:List D}:ia n k (.d (.tup l)) env bx=if l.length=n then k (l.map W.d) env bx else none:=rfl
@[simp] theorem Cc {bo:Bool}{src:List (Option Nat)}{mi:DE (List W)}{g:DG}{tf:DE Bool}{te:DE W}:ge bo src mi g tf te env bx=fE (mi env bx) fun ds bx1=>fE (compD g tf te ds (srcEnv src env) bx1 []) fun l bx2=>resO bo (some (.lst l)) bx2:=rfl
@[simp] theorem Fh:srcEnv [] env=[]:=rfl
@[simp] theorem C6 {l:List (Option Nat)}:srcEnv (none :: l) env=none :: srcEnv l env:=rfl
@[simp] theorem C7 {i:Nat}{l:List (Option Nat)}:srcEnv (some i :: l) env=((env[i]?).bind id) :: srcEnv l env:=rfl
@[simp] theorem FP {m:DE W}:dIter m env bx=fE (m env bx) fun w bx1=>match w with | .d (.lst l)=>.val (l.map W.d) bx1 | .d (.tup l)=>.val (l.map W.d) bx1 | _=>.bad:=rfl
@[simp] theorem NX {k:DE (List W)}:fF k env bx=fE (k env bx) fun ws bx1=>resO false ((dsOf ws).bind fun l=>if l.length <= sizeLine then some (.tup l) else none) bx1:=rfl
@[simp] theorem JR {bo:Bool}{k:DE (List W)}:fS bo k env bx=fE (k env bx) fun ws bx1=>resO bo ((dsOf ws).bind fun l=>if l.length <= sizeLine then some (.lst l) else none) bx1:=rfl
@[simp] theorem OL:dsOf []=some []:=rfl
@[simp] theorem NY {d:D}{l:List W}:dsOf (.d d :: l)=(dsOf l).map fun t=>d :: t:=rfl
@[simp] theorem NZ {m:DE W}:dNeg m env bx=fE (m env bx) fun w bx1=>match w with | .d (.int i)=>.val (.d (.int (-i))) bx1 | _=>.bad:=rfl
@[simp] theorem OM {bo:Bool}{m:DE W}{l u:DE (Option Int)}:dSl bo m l u env bx=fE (m env bx) fun x bx1=>fE (l env bx1) fun i bx2=>fE (u env bx2) fun j bx3=>resO bo ((rdW bx3 x).bind fun d=>slD d i j) bx3:=rfl
@[simp] theorem Pq:dNo env bx=.val none bx:=rfl
@[simp] theorem Mp {m:DE W}:dPart m env bx=fE (m env bx) fun w bx1=>match w with | .d (.int i)=>.val (some i) bx1 | _=>.bad:=rfl
@[simp] theorem Pm {bo:Bool}{m:DE W}:dRev bo m env bx=fE (m env bx) fun x bx1=>resO bo ((rdW bx1 x).bind fun d=>match d with | .lst l=>some (.lst l.reverse) | _=>none) bx1:=rfl
theorem Pa {n:Nat}{ws:List W}:DL.envOf n ws=ws.map some ++ List.replicate (n - ws.length) none:=rfl
theorem i9 {n:Nat}{m:DSt}{ws:List W}{d:D} (h:m (ws.map some ++ List.replicate (n - ws.length) none) bx=.rt (.d d) bx):fnD n (noX m) ws bx=.val (.d d) bx:=by
  simp only [fnD,noX,DL.envOf,h,retO,cutO,List.take_length]
end
end L2.DL
set_option Elab.async false
set_option linter.all false
set_option maxRecDepth 100000
set_option maxHeartbeats 1000000
namespace K1
open PySem PySem.Spec PyProof.Rows L2 L2.DL
noncomputable def wh:D->Bool
  | .int _=>true
  | _=>false
noncomputable def wi (d:D) (lo hi:Int):Bool:=match d with
  | .int i=>decide (lo <= i) && decide (i <= hi)
  | _=>false
noncomputable def tl (d:D) (lo hi:Int):Bool:=match d with
  | .tup l=>decide (lo <= (l.length:Int)) && decide ((l.length:Int) <= hi)
  | _=>false
theorem JS (d:D):subT (tyN d) "int"=(match d with | .int _=>true | .bl _=>true | _=>false):=by cases d <;> rfl
theorem FQ (d:D):subT (tyN d) "bool"=(match d with | .bl _=>true | _=>false):=by cases d <;> rfl
theorem Fi (d:D):subT (tyN d) "tuple"=(match d with | .tup _=>true | _=>false):=by cases d <;> rfl
theorem JT (d:D) (bx:List Bx):jF [.d d] bx=.val (.d (.bl (wh d))) bx :=
  i9 (by cases d <;> simp [oA,JS,FQ,wh])
theorem GR (d:D) (bx:List Bx):iP [.d d] bx=.val (.d (.bl (wh d))) bx :=
  i9 (by cases d <;> simp [mP,JS,FQ,wh])
theorem j8 (d:D) (lo hi:Int) (bx:List Bx):fW [.d d,.d (.int lo),.d (.int hi)] bx=.val (.d (.bl (wi d lo hi))) bx :=
  i9 (by
    cases d <;> simp [mN,JT,wh,wi,leD]
    rename_i i
    by_cases h:lo <= i <;> simp [h])
theorem Fj (d:D) (lo hi:Int) (bx:List Bx):gb [.d d,.d (.int lo),.d (.int hi)] bx=.val (.d (.bl (wi d lo hi))) bx :=
  i9 (by
    cases d <;> simp [mm,GR,wh,wi,leD]
    rename_i i
    by_cases h:lo <= i <;> simp [h])
theorem gw (d:D) (lo hi:Int) (bx:List Bx):fU [.d d,.d (.int lo),.d (.int hi)] bx=.val (.d (.bl (tl d lo hi))) bx :=
  i9 (by
    cases d <;> simp [oB,Fi,tl,leD,lenD]
    rename_i l
    by_cases h:lo <= (l.length:Int) <;> simp [h])
theorem Cd {g:DG}{tf:DE Bool}{te:DE W} (J:DEnv->Prop) (p:D->Bool) (f:D->D) {bx:List Bx}:∀ (l:List D) (env:DEnv) (acc:List D),J env ->
    (∀ d ∈ l,∀ env,J env->∃ env',g (.d d) env bx=some (env',bx) /\ J env' /\ tf env' bx=.val (p d) bx /\ (p d=true->te env' bx=.val (.d (f d)) bx))->acc.length + l.length <= sizeLine ->
    compD g tf te (l.map W.d) env bx acc=.val (acc ++ (l.filter p).map f) bx
  | [],env,acc,_,_,_=>by simp [compD]
  | d :: l,env,acc,j,h,n=>by
    obtain ⟨env',e1,j',e2,e3⟩:=h d (List.mem_cons_self ..) env j
    have n':acc.length < sizeLine:=by simp only [List.length_cons] at n;omega
    simp only [List.map_cons,compD,e1,e2,Mm]
    have h':=fun x (m:x ∈ l)=>h x (List.mem_cons_of_mem _ m)
    cases q:p d with
    | false =>
      simp only [List.filter_cons,q]
      exact Cd J p f l env' acc j' h' (by simp only [List.length_cons] at n;omega)
    | true =>
      simp only [List.filter_cons,q,e3 q,Mm,if_pos n']
      rw [Cd J p f l env' (acc ++ [f d]) j' h' (by simp only [List.length_append,List.length_cons,List.length_nil] at n ⊢;omega)]
      simp
theorem iI {g:DG}{te:DE W} (J:DEnv->Prop) (f:D->D) {bx:List Bx}{l:List D}{env:DEnv} (j:J env) (h:∀ d ∈ l,∀ env,J env->∃ env',g (.d d) env bx=some (env',bx) /\ J env' /\ te env' bx=.val (.d (f d)) bx) (n:l.length <= sizeLine) :
    compD g fZ te (l.map W.d) env bx []=.val (l.map f) bx:=by
  rw [Cd (tf:=fZ) J (fun _=>true) f l env [] j (fun d m e je=>let ⟨e',a,b,c⟩:=h d m e je;⟨e',a,b,rfl,fun _=>c⟩) (by simpa using n)]
  rw [List.filter_eq_self.mpr (fun _ _=>rfl)];rfl
theorem JU (l:List D) (p:D->Bool):bolsOf (l.map fun d=>D.bl (p d))=some (l.map p):=by
  induction l with
  | nil=>rfl
  | cons d l ih=>simp [bolsOf,ih]
@[simp] theorem all_map (l:List D) (p:D->Bool):allD [.lst (l.map fun d=>D.bl (p d))]=some (.old (.bl (l.all p))):=by
  simp [allD,JU,List.all_map]
noncomputable def rooms (d:D):Bool:=match d with
  | .tup l=>tl (.tup l) 1 5 && l.all fun x=>wi x 0 3
  | _=>false
theorem sl5:(5:Nat) <= sizeLine:=by decide
theorem mS {l:List D}{lo hi:Int} (h:tl (.tup l) lo hi=true):lo <= (l.length:Int) /\ (l.length:Int) <= hi:=by simpa [tl] using h
theorem JV (d:D) (bx:List Bx):jl [.d d] bx=.val (.d (.bl (rooms d))) bx :=
  i9 (by
    cases d with
    | tup l =>
      cases h:tl (.tup l) 1 5 with
      | false=>simp [jG,gw,h,rooms]
      | true =>
        have n:=mS h
        simp [jG,gw,h,rooms]
        rw [iI (fun e=>∃ w,e=[w]) (fun x=>.bl (wi x 0 3)) ⟨none,rfl⟩ (fun x _ e ⟨w,je⟩=>⟨[some (.d x)],by simp [je],⟨_,rfl⟩,by simp [j8]⟩) (by have:=sl5;omega)]
        simp
    | _=>simp [jG,gw,tl,rooms])
noncomputable def fallD:List D->Bool
  | x :: y :: l=>(match x,y with | .int i,.int j=>decide (j <= i) | _,_=>false) && fallD (y :: l)
  | _=>true
noncomputable def rates (d:D):Bool:=match d with
  | .tup l=>tl (.tup l) 4 4 && (l.all (fun x=>wi x 0 9) && fallD l)
  | _=>false
theorem JW (d:D) (bx:List Bx):j3 [.d d] bx=.val (.d (.bl (rates d))) bx :=
  i9 (by
    cases d with
    | tup l =>
      cases h:tl (.tup l) 4 4 with
      | false=>simp [jH,gw,h,rates,fB]
      | true =>
        have n:=mS h
        simp [jH,gw,h,rates,fB]
        rw [iI (fun e=>∃ w,e=[w]) (fun x=>.bl (wi x 0 9)) ⟨none,rfl⟩ (fun x _ e ⟨w,je⟩=>⟨[some (.d x)],by simp [je],⟨_,rfl⟩,by simp [j8]⟩) (by have:=sl5;omega)]
        simp
        cases q:l.all fun x=>wi x 0 9 with
        | false=>simp
        | true =>
          have l4:l.length=4:=by omega
          obtain ⟨a,l,rfl⟩:∃ a t,l=a :: t:=List.exists_cons_of_length_pos (by omega)
          obtain ⟨b,l,rfl⟩:∃ a t,l=a :: t:=List.exists_cons_of_length_pos (by simp at l4;omega)
          obtain ⟨c,l,rfl⟩:∃ a t,l=a :: t:=List.exists_cons_of_length_pos (by simp at l4;omega)
          obtain ⟨e,l,rfl⟩:∃ a t,l=a :: t:=List.exists_cons_of_length_pos (by simp at l4;omega)
          obtain rfl:l=[]:=by simpa using l4
          have isI:∀ x,wi x 0 9=true->∃ i,x=.int i:=fun x hx=>by
            cases x <;> simp [wi] at hx
            exact ⟨_,rfl⟩
          simp at q
          obtain ⟨a,rfl⟩:=isI a q.1
          obtain ⟨b,rfl⟩:=isI b q.2.1
          obtain ⟨c,rfl⟩:=isI c q.2.2.1
          obtain ⟨e,rfl⟩:=isI e q.2.2.2
          simp [dZip,slD,DL.cutD,HT.sIx,zipW,compD,leD,fallD,allD,bolsOf,sizeLine]
    | _=>simp [jH,gw,tl,rates,fB])
theorem tl2 {l:List D} (h:tl (.tup l) 2 2=true):∃ a b,l=[a,b]:=by
  have n:=mS h
  obtain ⟨a,l,rfl⟩:∃ a t,l=a :: t:=List.exists_cons_of_length_pos (by omega)
  obtain ⟨b,l,rfl⟩:∃ a t,l=a :: t:=List.exists_cons_of_length_pos (by simp at n;omega)
  have:l.length=0:=by simp at n;omega
  exact ⟨a,b,by rw [List.eq_nil_of_length_eq_zero this]⟩
theorem tl4 {l:List D} (h:tl (.tup l) 4 4=true):∃ a b c e,l=[a,b,c,e]:=by
  have n:=mS h
  obtain ⟨a,l,rfl⟩:∃ a t,l=a :: t:=List.exists_cons_of_length_pos (by omega)
  obtain ⟨b,l,rfl⟩:∃ a t,l=a :: t:=List.exists_cons_of_length_pos (by simp at n;omega)
  obtain ⟨c,l,rfl⟩:∃ a t,l=a :: t:=List.exists_cons_of_length_pos (by simp at n;omega)
  obtain ⟨e,l,rfl⟩:∃ a t,l=a :: t:=List.exists_cons_of_length_pos (by simp at n;omega)
  have:l.length=0:=by simp at n;omega
  exact ⟨a,b,c,e,by rw [List.eq_nil_of_length_eq_zero this]⟩
theorem oE {x:D}{lo hi:Int} (h:wi x lo hi=true):∃ i,x=.int i /\ lo <= i /\ i <= hi:=by
  cases x <;> simp [wi] at h
  exact ⟨_,rfl,h⟩
noncomputable def kind (d:D):Bool:=match d with
  | .tup l=>tl (.tup l) 2 2 && (match l with | [a,b]=>wi a 1 999 && rates b | _=>false)
  | _=>false
theorem Mq (d:D) (bx:List Bx):mk [.d d] bx=.val (.d (.bl (kind d))) bx :=
  i9 (by
    cases d with
    | tup l =>
      cases h:tl (.tup l) 2 2 with
      | false=>simp [lP,gw,h,kind]
      | true =>
        obtain ⟨a,b,rfl⟩:=tl2 h
        simp [lP,gw,h,kind,ixD,atI,ixN,j8]
        cases q:wi a 1 999 <;> simp [JW]
    | _=>simp [lP,gw,tl,kind])
noncomputable def kinds (d:D):Bool:=match d with
  | .tup l=>tl (.tup l) 1 4 && l.all kind
  | _=>false
theorem JX (d:D) (bx:List Bx):jm [.d d] bx=.val (.d (.bl (kinds d))) bx :=
  i9 (by
    cases d with
    | tup l =>
      cases h:tl (.tup l) 1 4 with
      | false=>simp [jI,gw,h,kinds]
      | true =>
        have n:=mS h
        simp [jI,gw,h,kinds]
        rw [iI (fun e=>∃ w,e=[w]) (fun x=>.bl (kind x)) ⟨none,rfl⟩ (fun x _ e ⟨w,je⟩=>⟨[some (.d x)],by simp [je],⟨_,rfl⟩,by simp [Mq]⟩) (by have:=sl5;omega)]
        simp
    | _=>simp [jI,gw,tl,kinds])
noncomputable def pairA (n:Int) (d:D):Bool:=match d with
  | .tup l=>tl (.tup l) 2 2 && (match l with | [.int a,.int b]=>decide (0 <= a) && decide (a < b) && decide (b <= n - 1) | _=>false)
  | _=>false
theorem JY (d:D) (n:Int) (bx:List Bx):ie [.d d,.d (.int n)] bx=.val (.d (.bl (pairA n d))) bx :=
  i9 (by
    cases d with
    | tup l =>
      cases h:tl (.tup l) 2 2 with
      | false=>simp [iy,gw,h,pairA]
      | true =>
        obtain ⟨a,b,rfl⟩:=tl2 h
        simp [iy,gw,h,pairA,ixD,atI,ixN]
        have c:=iI (g:=fe 0) (te:=fk fW 3 (fb (dV 0) (fb (dC (.int 0)) (fb (d2 false subD (dV 1) (dC (.int 1))) fc)))) (bx:=bx) (l:=[a,b]) (fun e=>∃ w,e=[w,some (.d (.int n))]) (fun x=>.bl (wi x 0 (n - 1))) ⟨none,rfl⟩ (fun x _ e ⟨w,je⟩=>⟨[some (.d x),some (.d (.int n))],by simp [je],⟨_,rfl⟩,by simp [j8,subD]⟩) (show (2:Nat) <= sizeLine by decide)
        simp only [List.map_cons,List.map_nil] at c
        rw [c]
        have e:=all_map [a,b] fun x=>wi x 0 (n - 1)
        simp only [List.map_cons,List.map_nil] at e
        simp [e]
        cases q1:wi a 0 (n - 1) with
        | false =>
          cases a <;> cases b <;> simp [wi] at q1 ⊢
          omega
        | true =>
          cases q2:wi b 0 (n - 1) with
          | false =>
            obtain ⟨i,rfl,i1,i2⟩:=oE q1
            cases b <;> simp [wi] at q2 ⊢
            omega
          | true =>
            obtain ⟨i,rfl,i1,i2⟩:=oE q1
            obtain ⟨j,rfl,j1,j2⟩:=oE q2
            simp [ltD,i1,j2]
    | _=>simp [iy,gw,tl,pairA])
end K1
set_option Elab.async false
set_option linter.all false
set_option maxRecDepth 100000
set_option maxHeartbeats 1000000
namespace K1
open PySem PySem.Spec PyProof.Rows L2 L2.DL
noncomputable abbrev dP (p:Int × Int):D:=.tup [.int p.1,.int p.2]
noncomputable def ltP (p q:Int × Int):Bool:=HT.lexLt [p.1,p.2] [q.1,q.2]
theorem JZ {n:Int}{d:D} (h:pairA n d=true):∃ p:Int × Int,d=dP p /\ 0 <= p.1 /\ p.1 < p.2 /\ p.2 <= n - 1:=by
  cases d with
  | tup l =>
    simp only [pairA,Bool.and_eq_true] at h
    obtain ⟨a,b,rfl⟩:=tl2 h.1
    have h2:=h.2
    cases a <;> cases b <;> simp at h2
    exact ⟨(_,_),rfl,h2.1.1,h2.1.2,h2.2⟩
  | _=>simp [pairA] at h
theorem C8 {n:Int}:∀ {l:List D},l.all (pairA n)=true->∃ ps:List (Int × Int),l=ps.map dP /\ ∀ p ∈ ps,0 <= p.1 /\ p.1 < p.2 /\ p.2 <= n - 1
  | [],_=>⟨[],rfl,fun p m=>by cases m⟩
  | d :: l,h=>by
    simp only [List.all_cons,Bool.and_eq_true] at h
    obtain ⟨p,rfl,hp⟩:=JZ h.1
    obtain ⟨ps,rfl,hs⟩:=C8 h.2
    exact ⟨p :: ps,rfl,fun q m=>by
      rcases List.mem_cons.mp m with rfl | m
      . exact hp
      . exact hs q m⟩
noncomputable def incr:List (Int × Int)->Bool
  | p :: q :: r=>ltP p q && incr (q :: r)
  | _=>true
theorem AU:∀ ps:List (Int × Int),incr ps=(List.range (ps.length - 1)).all fun i=>ltP (ps.getD i (0,0)) (ps.getD (i + 1) (0,0))
  | []=>rfl
  | [p]=>rfl
  | p :: q :: r=>by
    rw [incr,AU (q :: r)]
    simp only [List.length_cons,Nat.add_sub_cancel]
    rw [List.range_succ_eq_map,List.all_cons,List.all_map]
    rfl
theorem FR {ps:List (Int × Int)}{i:Nat} (h:i < ps.length):atI (ps.map dP) (i:Int)=some (dP (ps.getD i (0,0))):=by
  unfold atI ixN
  simp [h,List.getD]
theorem J0 {k:DE (List W)}{env:DEnv}{bx bx1:List Bx}{i j:Int} (e:k env bx=.val [.d (.int i),.d (.int j)] bx1) (h:(-(2 ^ 62) <= i /\ i < 2 ^ 62) /\ -(2 ^ 62) <= j /\ j < 2 ^ 62):dRng2 k env bx=.val (fO i (j - i).toNat) bx1:=by
  unfold dRng2
  rw [e,gj]
  exact if_pos h
theorem lI {k:DE (List W)}{env:DEnv}{bx bx1:List Bx}{j:Int} (e:k env bx=.val [.d (.int j)] bx1) (h:-(2 ^ 62) <= j /\ j < 2 ^ 62):dRng1 k env bx=.val (fO 0 j.toNat) bx1:=by
  unfold dRng1
  rw [e,gj]
  exact if_pos h
theorem Mr (lo:Int) (n:Nat):fO lo n=((List.range n).map fun (i:Nat)=>D.int (lo + (i:Int))).map W.d:=by
  unfold fO
  rw [List.map_map]
  rfl
theorem GS (ps:List (Int × Int)) (n:ps.length <= sizeLine) (bx:List Bx):j0 [.d (.tup (ps.map dP))] bx=.val (.d (.bl (incr ps))) bx :=
  i9 (by
    have s2:sizeLine=16777216:=sizeLine_eq
    have r:dRng2 (fb (dC (.int 1)) (fb (dN false lenD (fb (dV 0) fc)) fc)) [some (.d (.tup (ps.map dP)))] bx=.val (fO 1 (((ps.length:Nat):Int) - 1).toNat) bx:=J0 (by simp [lenD]) (by omega)
    simp only [mO,Fg,Fd,At,Cc,List.map_cons,List.map_nil,List.length_cons,List.length_nil,Nat.sub_self,List.replicate_zero,List.append_nil,r,gj,Mr,C6,C7,Fh,List.getElem?_cons_zero,Option.bind_some,id]
    rw [iI (fun e=>∃ w,e=[w,some (.d (.tup (ps.map dP)))]) (fun x=>.bl (match x with | .int i=>ltP (ps.getD (i.toNat - 1) (0,0)) (ps.getD i.toNat (0,0)) | _=>false)) ⟨none,rfl⟩ ?_ (by rw [List.length_map,List.length_range];omega)]
    . simp only [gj,Fc,lw,Au,Fe,C5,Option.map_some,Option.bind_some]
      rw [all_map,lw,Cb,Aa,List.all_map,show ((ps.length:Int) - 1).toNat=ps.length - 1 by omega]
      have z:((fun x:D=>match x with | .int i=>ltP (ps.getD (i.toNat - 1) (0,0)) (ps.getD i.toNat (0,0)) | _=>false) ∘ fun (i:Nat)=>D.int (1 + (i:Int)))=fun i=>ltP (ps.getD i (0,0)) (ps.getD (i + 1) (0,0)):=by
        funext i
        show ltP (ps.getD ((1 + (i:Int)).toNat - 1) (0,0)) (ps.getD (1 + (i:Int)).toNat (0,0))=_
        rw [show (1 + (i:Int)).toNat=i + 1 by omega,Nat.add_sub_cancel]
      rw [z,<-AU]
    . intro x m e ⟨w,je⟩
      obtain ⟨i,mi,rfl⟩:=List.mem_map.mp m
      have hi:i < ((ps.length:Int) - 1).toNat:=List.mem_range.mp mi
      refine ⟨[some (.d (.int (1 + (i:Int)))),some (.d (.tup (ps.map dP)))],by simp [je],⟨_,rfl⟩,?_⟩
      have a1:=FR (ps:=ps) (i:=i) (by omega)
      have a2:=FR (ps:=ps) (i:=i + 1) (by omega)
      rw [show ((i + 1:Nat):Int)=1 + (i:Int) by omega] at a2
      simp only [JN,Pf,Pg,List.getElem?_cons_zero,List.getElem?_cons_succ,gj,Ak,Option.bind_some,ixD,subD,lw,Cb,show 1 + (i:Int) - 1=(i:Int) by omega,a1,a2,Option.map_some,ltD,dP,intsOf]
      rw [show (1 + (i:Int)).toNat=i + 1 by omega]
      rfl)
end K1
set_option Elab.async false
set_option linter.all false
set_option maxRecDepth 100000
set_option maxHeartbeats 1000000
namespace K1
open PySem PySem.Spec PyProof.Rows L2 L2.DL
noncomputable def toP:D->Option (Int × Int)
  | .tup [.int a,.int b]=>some (a,b)
  | _=>none
theorem FS (ps:List (Int × Int)):(ps.map dP).filterMap toP=ps:=by
  induction ps with
  | nil=>rfl
  | cons p ps ih=>rw [List.map_cons,List.filterMap_cons,ih];rfl
noncomputable def apart (n:Int) (d:D):Bool:=match d with
  | .tup l=>l.all (pairA n) && incr (l.filterMap toP)
  | _=>false
noncomputable def short (d:D):Prop:=match d with
  | .tup l=>l.length <= sizeLine
  | _=>True
theorem Fk (l:List D) (n:Int) (h':l.length <= sizeLine) (bx:List Bx):compD (fe 0) fZ (fk ie 2 (fb (dV 0) (fb (dV 1) fc))) (l.map W.d) [none,some (.d (.int n))] bx []=.val (l.map fun x=>.bl (pairA n x)) bx :=
  iI (fun e=>∃ w,e=[w,some (.d (.int n))]) (fun x=>.bl (pairA n x)) ⟨none,rfl⟩ (fun x _ e ⟨w,je⟩=>⟨[some (.d x),some (.d (.int n))],by simp [je],⟨_,rfl⟩,by simp [JY]⟩) h'
theorem GT (d:D) (n:Int) (bx:List Bx) (h:∀ l,d ≠ .tup l):gS [.d d,.d (.int n)] bx=.val (.d (.bl (apart n d))) bx :=
  i9 (by
    cases d with
    | tup l=>exact absurd rfl (h l)
    | _=>simp [jJ,Fi,apart])
theorem GU {fp:List W->List Bx->O W}{l:List D}{n:Int}{bx:List Bx} (c:compD (fe 0) fZ (fk fp 2 (fb (dV 0) (fb (dV 1) fc))) (l.map W.d) [none,some (.d (.int n))] bx []=.val (l.map fun x=>.bl (pairA n x)) bx) :
    dN false allD (fb (ge false [none,some 1] (dIter (dV 0)) (fe 0) fZ (fk fp 2 (fb (dV 0) (fb (dV 1) fc)))) fc) [some (.d (.tup l)),some (.d (.int n))] bx=.val (.d (.bl (l.all (pairA n)))) bx:=by
  have i:dIter (dV 0) [some (.d (.tup l)),some (.d (.int n))] bx=.val (l.map W.d) bx:=rfl
  rw [Fd,At,Cc,i,gj,show srcEnv [none,some 1] [some (W.d (.tup l)),some (W.d (.int n))]=[none,some (W.d (.int n))] from rfl,c,gj,lw,gj,Fc,gj,gj,Fe,C5,Option.map_some,Option.bind_some,Au,all_map,lw,Cb]
theorem Ms {m k:DE W}{env:DEnv}{bx bx1:List Bx}{b:Bool} (h:m env bx=.val (.d (.bl b)) bx1):gE m k env bx=if b then k env bx1 else .val (.d (.bl false)) bx1:=by
  rw [FN,h];cases b <;> rfl
theorem N0 {t:DE Bool}{m k:DSt}{env:DEnv}{bx:List Bx} (h:t env bx=.val false bx):fu (sIf t m sNil) k env bx=k env bx:=by
  rw [Ff,JO,h];rfl
theorem N1 {l:List D}{w:Option W}{bx:List Bx}:dNot (dB (ic "tuple" (dV 0))) [some (.d (.tup l)),w] bx=.val false bx:=by
  simp [Fi]
theorem GV (l:List D) (n:Int) (bx:List Bx) (h':l.length <= sizeLine):gS [.d (.tup l),.d (.int n)] bx=.val (.d (.bl (apart n (.tup l)))) bx:=by
  have e1:=GU (Fk l n h' bx)
  refine i9 ?_
  show jJ [some (.d (.tup l)),some (.d (.int n))] bx=OS.rt (.d (.bl (l.all (pairA n) && incr (l.filterMap toP)))) bx
  unfold jJ
  rw [N0 N1,Fg,Ms e1]
  cases q:l.all (pairA n) with
  | false=>rfl
  | true =>
    obtain ⟨ps,e,_⟩:=C8 q
    subst e
    have r:=GS ps (by rw [List.length_map] at h';exact h') bx
    rw [if_pos rfl,FM,At,show dV 0 [some (W.d (.tup (ps.map dP))),some (W.d (.int n))] bx=.val (.d (.tup (ps.map dP))) bx from rfl,gj,Fc,gj,gj,if_pos (show [W.d (D.tup (ps.map dP))].length=1 from rfl),r,Aa,FS,Bool.true_and]
theorem J1 (d:D) (n:Int) (h:short d) (bx:List Bx):gS [.d d,.d (.int n)] bx=.val (.d (.bl (apart n d))) bx:=by
  cases d with
  | tup l=>exact GV l n bx (by simpa only [short] using h)
  | _=>exact GT _ n bx (fun l e=>by cases e)
noncomputable def lenOf:D->Int
  | .tup l=>l.length
  | _=>0
noncomputable def house (d:D):Bool:=match d with
  | .tup [r,k,p,h]=>rooms r && (kinds k && (apart (lenOf k) p && wi h 1 9))
  | _=>false
noncomputable def okH (d:D):Prop:=match d with
  | .tup [_,_,p,_]=>short p
  | _=>True
theorem GW {k:D} (h:kinds k=true):∃ l,k=.tup l:=by
  cases k with
  | tup l=>exact ⟨l,rfl⟩
  | _=>simp [kinds] at h
theorem J2 (d:D) (ok:okH d) (bx:List Bx):gT [.d d] bx=.val (.d (.bl (house d))) bx :=
  i9 (by
    cases d with
    | tup l =>
      cases t:tl (.tup l) 4 4 with
      | false =>
        have e:house (.tup l)=false:=by
          unfold house
          split
          . rename_i q;cases q;simp [tl] at t
          . rfl
        simp [lq,gw,t,e]
      | true =>
        obtain ⟨r,k,p,h,rfl⟩:=tl4 t
        have e1:=gw (.tup [r,k,p,h]) 4 4 bx
        have e2:=JV r bx
        have e3:=JX k bx
        have e4:∀ n:Int,gS [.d p,.d (.int n)] bx=.val (.d (.bl (apart n p))) bx:=fun n=>J1 p n (by simpa only [okH] using ok) bx
        have e5:=j8 h 1 9 bx
        rw [t] at e1
        unfold lq
        generalize fU=f1 at e1 ⊢
        generalize jl=f2 at e2 ⊢
        generalize jm=f3 at e3 ⊢
        generalize gS=f4 at e4 ⊢
        generalize fW=f5 at e5 ⊢
        simp [e1,e2,house]
        cases q1:rooms r with
        | false=>simp
        | true =>
          simp [e3]
          cases q2:kinds k with
          | false=>simp
          | true =>
            obtain ⟨l,rfl⟩:=GW q2
            simp [lenD,e4,lenOf]
            cases q3:apart (l.length:Int) p <;> simp [e5]
    | _=>simp [lq,gw,tl,house])
end K1
set_option Elab.async false
set_option linter.all false
set_option maxRecDepth 100000
set_option maxHeartbeats 1000000
namespace K1
open PySem PySem.Spec PyProof.Rows L2 L2.DL
theorem oV:∀ ns:List Int,intsOf (ns.map D.int)=some ns
  | []=>rfl
  | n :: ns=>by rw [List.map_cons,intsOf,oV ns];rfl
theorem FT:∀ ns:List Int,fallD (ns.map D.int)=true ↔ ns.Pairwise (fun a b=>b <= a)
  | []=>by simp [fallD]
  | [x]=>by simp [fallD]
  | x :: y :: l=>by
    have ih:=FT (y :: l)
    simp only [List.map_cons] at ih ⊢
    simp only [fallD,Bool.and_eq_true,decide_eq_true_eq,ih]
    constructor
    . intro ⟨h,p⟩
      refine List.pairwise_cons.mpr ⟨fun z m=>?_,p⟩
      rcases List.mem_cons.mp m with rfl | m
      . exact h
      . exact Int.le_trans ((List.pairwise_cons.mp p).1 z m) h
    . intro p
      have q:=List.pairwise_cons.mp p
      exact ⟨q.1 y (List.mem_cons_self ..),q.2⟩
theorem C9 {lo hi:Int}:∀ {l:List D},(l.all fun x=>wi x lo hi)=true->∃ ns:List Int,l=ns.map D.int
  | [],_=>⟨[],rfl⟩
  | d :: l,h=>by
    simp only [List.all_cons,Bool.and_eq_true] at h
    obtain ⟨i,rfl,_⟩:=oE h.1
    obtain ⟨ns,rfl⟩:=C9 h.2
    exact ⟨i :: ns,rfl⟩
end K1
set_option Elab.async false
set_option linter.all false
set_option maxRecDepth 100000
set_option maxHeartbeats 1000000
namespace K1
open PySem PySem.Spec PyProof.Rows L2 L2.DL
end K1
set_option Elab.async false
set_option linter.all false
set_option maxRecDepth 100000
set_option maxHeartbeats 1000000
namespace K1
open PySem PySem.Spec PyProof.Rows L2 L2.DL
end K1
set_option Elab.async false
set_option linter.all false
set_option maxRecDepth 100000
set_option maxHeartbeats 1000000
namespace K1
open PySem PySem.Spec PyProof.Rows L2 L2.DL
noncomputable abbrev pBody (fw:List W->List Bx->O W):DSt:=(fu (sIf (dOr (dNot (dB (ic "tuple" (dV 6)))) (dOr (dB (d2 false neD (dN false lenD (fb (dV 6) fc)) (dC (.int 2)))) (dNot (dB (fk fw 3 (fb (d2 false ixD (dV 6) (dC (.int 0))) (fb (dC (.int 0)) (fb (d2 false subD (dN false lenD (fb (dV 2) fc)) (dC (.int 1))) fc)))))))) (fM (dC (.bl false))) sNil) (fu (sIf (dOr (dNot (dB (fk fw 3 (fb (d2 false ixD (dV 6) (dC (.int 1))) (fb (d2 false fB (d2 false ixD (dV 6) (dC (.int 0))) (dC (.int 1))) (fb (d2 false subD (dN false lenD (fb (dV 2) fc)) (dC (.int 1))) fc)))))) (dB (d2 false leD (dV 6) (dV 5)))) (fM (dC (.bl false))) sNil) (fJ (dV 6) (fe 5))))
end K1
set_option Elab.async false
set_option linter.all false
set_option maxRecDepth 100000
set_option maxHeartbeats 1000000
namespace K1
open PySem PySem.Spec PyProof.Rows L2 L2.DL
end K1
set_option Elab.async false
set_option linter.all false
set_option maxRecDepth 100000
set_option exponentiation.threshold 3000
set_option maxHeartbeats 1000000
namespace L2.DL
open PySem PySem.Spec PyProof.Rows
noncomputable def kwt:Key->Nat
  | .inl _=>1921
  | .inr x=>(reprText x).length
mutual
noncomputable def wt:D->Nat
  | .non=>4
  | .bl _=>5
  | .int _=>1921
  | .str x=>(reprText x).length
  | .tup l=>3 + wts l
  | .lst l=>3 + wts l
  | .dic l=>3 + wtk l
noncomputable def wts:List D->Nat
  | []=>0
  | d :: l=>wt d + 2 + wts l
noncomputable def wtk:List (Key × D)->Nat
  | []=>0
  | (k,d) :: l=>kwt k + wt d + 4 + wtk l
end
theorem FU (ts:List Str):(Str.join ", " ts).length <= piled ts:=by
  by_cases h:ts=[]
  . subst h;exact Nat.le_refl _
  . have:=join_length_add ts h;omega
theorem Ce (ts:List Str):(tupleText ts).length <= 3 + piled ts:=by
  unfold tupleText
  have h:=FU ts
  have e1:(("(":String):Str).length=1:=rfl
  have e2:((",)":String):Str).length=2:=rfl
  have e3:((")":String):Str).length=1:=rfl
  rw [strLen_append,strLen_append]
  split <;> omega
theorem Al:∀ (ts:List Str) (k:Nat) (acc:Str),(textFrom k acc ts).length <= acc.length + piled ts
  | [],k,acc=>by show acc.length <= _;omega
  | t :: r,k,acc=>by
    have h:=Al r (k + 1) (acc ++ (if k > 0 then ", " else "":String) ++ t)
    have e1:((", ":String):Str).length=2:=rfl
    have e2:(("":String):Str).length=0:=rfl
    rw [strLen_append,strLen_append] at h
    rw [piled_cons]
    show (textFrom (k + 1) (acc ++ (if k > 0 then ", " else "":String) ++ t) r).length <= _
    split at h <;> rename_i hk <;> simp only [hk,if_true,if_false] at h ⊢ <;> omega
theorem Db (ts:List Str):(listText ts).length <= 3 + piled ts:=by
  unfold listText
  have h:=Al ts 0 "["
  have e1:(("[":String):Str).length=1:=rfl
  have e2:(("]":String):Str).length=1:=rfl
  rw [strLen_append];omega
theorem Dc (ts:List Str):(dictText ts).length <= 3 + piled ts:=by
  unfold dictText
  have h:=FU ts
  have e1:(("{":String):Str).length=1:=rfl
  have e2:(("}":String):Str).length=1:=rfl
  rw [strLen_append,strLen_append];omega
theorem Dd {i:Int} (h:i.natAbs.log2 < 1920):(Str.ofString (toString i)).length <= 1921:=by
  have:=int_text_length_le (a:=i) (k:=1920) (by decide) h
  rw [PySem.ofString_length]
  exact this
mutual
theorem AV:∀ (d:D),(toPy d).showable=true->(toPy d).shown.length <= wt d
  | .non,_=>by simp only [toPy,PyData.shown,wt];decide
  | .bl b,_=>by cases b <;> simp only [toPy,PyData.shown,wt] <;> decide
  | .int i,h=>by
    simp only [toPy,PyData.shown,wt]
    exact Dd (by simpa [toPy,PyData.showable] using h)
  | .str x,_=>by simp only [toPy,PyData.shown,wt];exact Nat.le_refl _
  | .tup l,h=>by
    simp only [toPy,PyData.shown,wt]
    have:=Ab l (by simpa [toPy,PyData.showable] using h)
    have:=Ce (PyData.shownAll (toPys l))
    omega
  | .lst l,h=>by
    simp only [toPy,PyData.shown,wt]
    have:=Ab l (by simpa [toPy,PyData.showable] using h)
    have:=Db (PyData.shownAll (toPys l))
    omega
  | .dic l,h=>by
    simp only [toPy,PyData.shown,wt]
    have:=De l (by simpa [toPy,PyData.showable] using h)
    have:=Dc (PyData.shownKv (toPyK l))
    omega
theorem Ab:∀ (l:List D),PyData.showableAll (toPys l)=true->piled (PyData.shownAll (toPys l)) <= wts l
  | [],_=>by simp only [toPys,PyData.shownAll,wts];exact Nat.le_refl _
  | d :: l,h=>by
    simp only [toPys,PyData.showableAll,Bool.and_eq_true] at h
    have h1:=AV d h.1
    have h2:=Ab l h.2
    simp only [toPys,PyData.shownAll,wts,piled_cons]
    omega
theorem De:∀ (l:List (Key × D)),PyData.showableKv (toPyK l)=true->piled (PyData.shownKv (toPyK l)) <= wtk l
  | [],_=>by simp only [toPyK,PyData.shownKv,wtk];exact Nat.le_refl _
  | (k,d) :: l,h=>by
    simp only [toPyK,PyData.showableKv,Bool.and_eq_true] at h
    have h1:=AV d h.1.2
    have h2:=De l h.2
    have e1:((": ":String):Str).length=2:=rfl
    have hk:(PyData.shown (keyP k)).length <= kwt k:=by
      cases k with
      | inl i=>exact Dd (by simpa [keyP,PyData.showable] using h.1.1)
      | inr x=>exact Nat.le_refl _
    simp only [toPyK,PyData.shownKv,wtk,piled_cons]
    rw [strLen_append,strLen_append]
    omega
end
mutual
noncomputable def ib (B:Nat):D->Bool
  | .int i=>decide (i.natAbs <= B)
  | .tup l=>ibs B l
  | .lst l=>ibs B l
  | .dic l=>ibk B l
  | _=>true
noncomputable def ibs (B:Nat):List D->Bool
  | []=>true
  | d :: l=>ib B d && ibs B l
noncomputable def ibk (B:Nat):List (Key × D)->Bool
  | []=>true
  | (k,d) :: l=>(match k with | .inl i=>decide (i.natAbs <= B) | _=>true) && ib B d && ibk B l
end
theorem J3 {B:Nat} (hB:B < 2 ^ 1900) {i:Int} (h:i.natAbs <= B):i.natAbs.log2 < 1920:=by
  by_cases h0:i.natAbs=0
  . rw [h0];decide
  . exact (Nat.log2_lt h0).mpr (Nat.lt_of_lt_of_le (Nat.lt_of_le_of_lt h hB) (Nat.pow_le_pow_right (by decide) (by decide)))
mutual
theorem Cf {B:Nat} (hB:B < 2 ^ 1900):∀ (d:D),ib B d=true->(toPy d).showable=true
  | .non,_=>by simp [toPy,PyData.showable]
  | .bl b,_=>by simp [toPy,PyData.showable]
  | .int i,h=>by
    simp only [toPy,PyData.showable,decide_eq_true_eq]
    exact J3 hB (by simpa [ib] using h)
  | .str x,_=>by simp [toPy,PyData.showable]
  | .tup l,h=>by
    simp only [toPy,PyData.showable]
    exact AW hB l (by simpa [ib] using h)
  | .lst l,h=>by
    simp only [toPy,PyData.showable]
    exact AW hB l (by simpa [ib] using h)
  | .dic l,h=>by
    simp only [toPy,PyData.showable]
    exact Df hB l (by simpa [ib] using h)
theorem AW {B:Nat} (hB:B < 2 ^ 1900):∀ (l:List D),ibs B l=true->PyData.showableAll (toPys l)=true
  | [],_=>by simp [toPys,PyData.showableAll]
  | d :: l,h=>by
    simp only [ibs,Bool.and_eq_true] at h
    simp only [toPys,PyData.showableAll,Cf hB d h.1,AW hB l h.2,Bool.and_self]
theorem Df {B:Nat} (hB:B < 2 ^ 1900):∀ (l:List (Key × D)),ibk B l=true->PyData.showableKv (toPyK l)=true
  | [],_=>by simp [toPyK,PyData.showableKv]
  | (k,d) :: l,h=>by
    simp only [ibk,Bool.and_eq_true] at h
    have hk:(keyP k).showable=true:=by
      cases k with
      | inl i =>
        simp only [keyP,PyData.showable,decide_eq_true_eq]
        exact J3 hB (by simpa using h.1.1)
      | inr x=>simp [keyP,PyData.showable]
    simp only [toPyK,PyData.showableKv,hk,Cf hB d h.1.2,Df hB l h.2,Bool.and_self]
end
mutual
theorem J4 {B B':Nat} (h:B <= B'):∀ (d:D),ib B d=true->ib B' d=true
  | .non,_=>by simp [ib]
  | .bl b,_=>by simp [ib]
  | .int i,q=>by
    simp only [ib,decide_eq_true_eq] at q ⊢
    omega
  | .str x,_=>by simp [ib]
  | .tup l,q=>by
    simp only [ib] at q ⊢
    exact Fl h l q
  | .lst l,q=>by
    simp only [ib] at q ⊢
    exact Fl h l q
  | .dic l,q=>by
    simp only [ib] at q ⊢
    exact J5 h l q
theorem Fl {B B':Nat} (h:B <= B'):∀ (l:List D),ibs B l=true->ibs B' l=true
  | [],_=>by simp [ibs]
  | d :: l,q=>by
    simp only [ibs,Bool.and_eq_true] at q ⊢
    exact ⟨J4 h d q.1,Fl h l q.2⟩
theorem J5 {B B':Nat} (h:B <= B'):∀ (l:List (Key × D)),ibk B l=true->ibk B' l=true
  | [],_=>by simp [ibk]
  | (k,d) :: l,q=>by
    simp only [ibk,Bool.and_eq_true] at q ⊢
    refine ⟨⟨?_,J4 h d q.1.2⟩,J5 h l q.2⟩
    have:=q.1.1
    cases k with
    | inl i=>simp only [decide_eq_true_eq] at this ⊢;omega
    | inr x=>rfl
end
structure Sm (B a b:Nat) (d:D):Prop where
  s:ib B d=true
  e:(toPy d).depth <= a
  w:wt d <= b
structure SmL (B a b:Nat) (l:List D):Prop where
  s:ibs B l=true
  e:PyData.depthAll (toPys l) <= a
  w:wts l <= b
theorem AX {B a b:Nat}{d:D} (h:Sm B a b d) (hB:B < 2 ^ 1900) (ha:a <= 60) (hb:b <= sizeLine):canShow d=true:=by
  have hs:=Cf hB d h.s
  have:=AV d hs
  have h1:=h.e
  have h2:=h.w
  unfold canShow
  rw [hs,decide_eq_true (by omega:(toPy d).depth <= 60),decide_eq_true (by omega:(toPy d).shown.length <= sizeLine)]
  rfl
theorem Sm.mono {B a b a' b':Nat}{d:D} (h:Sm B a b d) (ha:a <= a') (hb:b <= b'):Sm B a' b' d:=⟨h.s,Nat.le_trans h.e ha,Nat.le_trans h.w hb⟩
theorem SmL.mono {B a b a' b':Nat}{l:List D} (h:SmL B a b l) (ha:a <= a') (hb:b <= b'):SmL B a' b' l:=⟨h.s,Nat.le_trans h.e ha,Nat.le_trans h.w hb⟩
theorem Sm.up {B B' a b:Nat}{d:D} (h:Sm B a b d) (q:B <= B'):Sm B' a b d:=⟨J4 q d h.s,h.e,h.w⟩
theorem SmL.nil {B a:Nat}:SmL B a 0 []:=⟨rfl,by simp [toPys,PyData.depthAll],Nat.le_refl _⟩
theorem SmL.cons {B a b c:Nat}{d:D}{l:List D} (h:Sm B a b d) (t:SmL B a c l):SmL B a (b + 2 + c) (d :: l) :=
  ⟨by simp [ibs,h.s,t.s],by simp only [toPys,PyData.depthAll];exact Nat.max_le.mpr ⟨h.e,t.e⟩,by simp only [wts];have:=h.w;have:=t.w;omega⟩
theorem Sm.tup {B a b:Nat}{l:List D} (h:SmL B a b l):Sm B (a + 1) (3 + b) (.tup l) :=
  ⟨by simp [ib,h.s],by simp only [toPy,PyData.depth];have:=h.e;omega,by simp only [wt];have:=h.w;omega⟩
theorem Sm.lst {B a b:Nat}{l:List D} (h:SmL B a b l):Sm B (a + 1) (3 + b) (.lst l) :=
  ⟨by simp [ib,h.s],by simp only [toPy,PyData.depth];have:=h.e;omega,by simp only [wt];have:=h.w;omega⟩
theorem Sm.int {B a:Nat}{i:Int} (h:i.natAbs <= B):Sm B a 1921 (.int i) :=
  ⟨by simp [ib,h],by simp [toPy,PyData.depth],Nat.le_refl _⟩
theorem Sm.bl {B a:Nat}{i:Bool}:Sm B a 5 (.bl i):=⟨by simp [ib],by simp [toPy,PyData.depth],Nat.le_refl _⟩
theorem Sm.non {B a:Nat}:Sm B a 4 .non:=⟨by simp [ib],by simp [toPy,PyData.depth],Nat.le_refl _⟩
theorem SmL.of {B a b:Nat}:∀ {l:List D},(∀ d ∈ l,Sm B a b d)->SmL B a (l.length * (b + 2)) l
  | [],_=>by simpa using SmL.nil
  | d :: l,h=>by
    have h1:=h d (List.mem_cons_self ..)
    have h2:=SmL.of fun x m=>h x (List.mem_cons_of_mem _ m)
    exact (SmL.cons h1 h2).mono (Nat.le_refl _) (by rw [List.length_cons,Nat.succ_mul];omega)
end L2.DL
set_option Elab.async false
set_option linter.all false
set_option maxRecDepth 100000
set_option maxHeartbeats 1000000
namespace K1
open PySem PySem.Spec PyProof.Rows L2 L2.DL
noncomputable def pt (bx:List Bx) (n:Nat) (p:Int):List Bx:=bx.set n (.lst [.int p])
theorem iE {bx:List Bx}{n:Nat}{p:Int}:(pt bx n p).length=bx.length:=List.length_set ..
theorem N2 {bx:List Bx}{n:Nat}{p:Int} (h:n < bx.length):(pt bx n p)[n]?=some (.lst [.int p]):=by simp [pt,h]
theorem J6 {n:Nat}{m:DSt}{ws:List W}{d:D}{bx bx':List Bx} (h:m (ws.map some ++ List.replicate (n - ws.length) none) bx=.rt (.d d) bx') (l:bx'.length <= bx.length):fnD n (noX m) ws bx=.val (.d d) bx':=by
  simp only [fnD,noX,DL.envOf,h,retO,cutO,List.take_of_length_le l]
theorem FV {bx:List Bx}{n:Nat} (h:n < bx.length) (p k:Int) (hk:0 < k) (hk2:k < 1073741824):ff [.b n,.d (.int k)] (pt bx n p)=.val (.d (.int (p % k))) (pt bx n (p / k)):=by
  refine J6 ?_ (by rw [iE,iE];exact Nat.le_refl _)
  have g:=N2 (p:=p) h
  have c:CDiv p k:=⟨hk,hk2⟩
  simp [oC,rdW,g,ixD,atI,ixN,modD,fdivD,hk,c,gdSub]
  rw [pt,pt,List.set_set]
theorem FW {α:Type}{l:List α}{i:Int} (h0:0 <= i) (h1:i < l.length):∃ d,atI l i=some d /\ d ∈ l:=by
  have h2:i.toNat < l.length:=by omega
  refine ⟨l[i.toNat],?_,List.getElem_mem h2⟩
  simp [atI,ixN,h0,h1,h2]
noncomputable def Dr (o:O W) (bx:List Bx) (n:Nat) (P:D->Prop):Prop:=∃ d p,o=.val (.d d) (pt bx n p) /\ P d
theorem Fm (p:Int) {k:Int} (h:0 < k):0 <= p % k:=Int.emod_nonneg _ (by omega)
theorem Fn (p:Int) {k:Int} (h:0 < k):p % k < k:=Int.emod_lt_of_pos _ h
noncomputable def odds:List D:=[.non,.bl true,.bl false,.int (-1),.int (10 ^ 30),.str "",.str "a",.str "1",.tup [],.lst [],.dic [],.lst [.tup []],.tup [.tup []],.tup [.int 0],.lst [.int 0],.dic [(.inl 0,.int 1)],.tup [.bl true,.bl true]]
theorem FX:∀ d ∈ odds,Sm (10 ^ 30) 2 3850 d:=by
  intro d m
  have c:∀ x ∈ odds,(ib (10 ^ 30) x && decide ((toPy x).depth <= 2) && decide (wt x <= 3850))=true:=by
    rw [<-List.all_eq_true]
    decide +kernel
  have:=c d m
  simp only [Bool.and_eq_true,decide_eq_true_eq] at this
  exact ⟨this.1.1,this.1.2,this.2⟩
theorem J7 {bx:List Bx}{n:Nat} (h:n < bx.length) (p:Int):Dr (gu [.b n] (pt bx n p)) bx n (fun d=>d ∈ odds):=by
  have h0:=Fm p (k:=17) (by decide)
  have h1:=Fn p (k:=17) (by decide)
  obtain ⟨d,e,m⟩:=FW (l:=odds) h0 (by show _ < (17:Int);exact h1)
  refine ⟨d,p / 17,J6 ?_ (by rw [iE,iE];exact Nat.le_refl _),m⟩
  have t:=FV h p 17 (by decide) (by decide)
  have c:CPow 10 30:=by decide
  have s17:(17:Nat) <= sizeLine:=by decide
  have s0:(1:Nat) <= sizeLine:=by decide
  have s2:(2:Nat) <= sizeLine:=by decide
  unfold o8
  generalize ff=ft at t ⊢
  unfold odds at e
  simp [powD,c,dDic,lenD,t,ixD,s17,s0,s2] at e ⊢
  simp [e]
end K1
set_option Elab.async false
set_option linter.all false
set_option maxRecDepth 100000
set_option maxHeartbeats 1000000
namespace K1
open PySem PySem.Spec PyProof.Rows L2 L2.DL
theorem J8 (l:List D) (i:Nat) (h:i <= l.length):DL.cutD l (some (i:Int)) none=l.drop i:=by
  unfold DL.cutD
  rw [HT.LV,HT.Jf,Nat.min_eq_left h]
  exact List.take_of_length_le (by rw [List.length_drop];exact Nat.le_refl _)
theorem N3 {α:Type} (l:List α) (i:Nat) (h:i < l.length):atI l (i:Int)=some l[i]:=by
  simp [atI,ixN,h]
end K1
set_option Elab.async false
set_option linter.all false
set_option maxRecDepth 100000
set_option maxHeartbeats 1000000
namespace K1
open PySem PySem.Spec PyProof.Rows L2 L2.DL
theorem Av {g:DG}{te:DE W} (J:DEnv->Prop) (P:D->Prop) {bx:List Bx}{n:Nat}:∀ (l:List W) (env:DEnv) (p:Int) (acc:List D),J env ->
    (∀ w ∈ l,∀ env p,J env->∃ env',g w env (pt bx n p)=some (env',pt bx n p) /\ J env' /\ Dr (te env' (pt bx n p)) bx n P)->acc.length + l.length <= sizeLine ->
    ∃ ds p',compD g fZ te l env (pt bx n p) acc=.val (acc ++ ds) (pt bx n p') /\ ds.length=l.length /\ ∀ d ∈ ds,P d
  | [],env,p,acc,_,_,_=>⟨[],p,by simp [compD],rfl,fun d m=>by cases m⟩
  | w :: l,env,p,acc,j,h,z=>by
    obtain ⟨env',e1,j',d,q,e2,hd⟩:=h w (List.mem_cons_self ..) env p j
    have z':acc.length < sizeLine:=by simp only [List.length_cons] at z;omega
    obtain ⟨ds,p',e3,e4,e5⟩:=Av J P l env' q (acc ++ [d]) j' (fun x m=>h x (List.mem_cons_of_mem _ m)) (by simp only [List.length_append,List.length_cons,List.length_nil] at z ⊢;omega)
    refine ⟨d :: ds,p',?_,by simp [e4],fun x m=>?_⟩
    . simp only [compD,e1,FO,Mm,e2,if_pos z',e3]
      simp
    . rcases List.mem_cons.mp m with rfl | m
      . exact hd
      . exact e5 x m
noncomputable def digit (d:D):Prop:=∃ i:Int,d=.int i /\ 0 <= i /\ i <= 9
theorem BG:∀ {l:List D},(∀ d ∈ l,digit d)->∃ ns:List Int,l=ns.map D.int /\ ∀ i ∈ ns,0 <= i /\ i <= 9
  | [],_=>⟨[],rfl,fun _ m=>by cases m⟩
  | d :: l,h=>by
    obtain ⟨i,rfl,h1⟩:=h d (List.mem_cons_self ..)
    obtain ⟨ns,rfl,h2⟩:=BG fun x m=>h x (List.mem_cons_of_mem _ m)
    exact ⟨i :: ns,rfl,fun x m=>by
      rcases List.mem_cons.mp m with rfl | m
      . exact h1
      . exact h2 x m⟩
theorem J9 {ns:List Int} (h4:ns.length=4) (h:∀ i ∈ ns,0 <= i /\ i <= 9):rates (.tup ((sortI ns).map D.int).reverse)=true:=by
  have l4:(sortI ns).length=4:=by rw [(mh ns).length_eq,h4]
  rw [<-List.map_reverse]
  have a1:tl (.tup ((sortI ns).reverse.map D.int)) 4 4=true:=by simp [tl,l4]
  have a2:(((sortI ns).reverse.map D.int).all fun x=>wi x 0 9)=true:=by
    rw [List.all_map,List.all_eq_true]
    intro i m
    have:=h i ((mh ns).mem_iff.mp (List.mem_reverse.mp m))
    simp [wi,this.1,this.2]
  have a3:fallD ((sortI ns).reverse.map D.int)=true:=(FT _).mpr (List.pairwise_reverse.mpr (oO ns))
  simp only [rates,a1,a2,a3,Bool.and_self]
end K1
set_option Elab.async false
set_option linter.all false
set_option maxRecDepth 100000
set_option maxHeartbeats 1000000
namespace L2.DL
open PySem PySem.Spec PyProof.Rows
section
variable {env env1 env2 : DEnv} {bx bx1 bx2 bx3 : List Bx} {m k : DE W} {ks : DE (List W)} {w u : W} {l : List W}
theorem fm (h1:m env bx=.val w bx1) (h2:ks env bx1=.val l bx2):fb m ks env bx=.val (w :: l) bx2:=by rw [At,h1,gj,h2,gj]
theorem FY:∀ {ds:List D},rdWs bx (ds.map W.d)=some ds
  | []=>rfl
  | d :: ds=>by rw [List.map_cons,Fe,FY];rfl
theorem Aw:∀ {ds:List D},dsOf (ds.map W.d)=some ds
  | []=>rfl
  | d :: ds=>by rw [List.map_cons,NY,Aw];rfl
theorem lQ {g:List D->Option Res}{r:Res} (ds:List D) (h:ks env bx=.val (ds.map W.d) bx1) (hg:g ds=some r):dN false g ks env bx=.val (.d r.toD) bx1:=by rw [Fd,h,gj,FY,Option.bind_some,hg,lw]
theorem Ac (ds:List D) (h:ks env bx=.val (ds.map W.d) bx1) (hl:ds.length <= sizeLine):fF ks env bx=.val (.d (.tup ds)) bx1:=by rw [NX,h,gj,Aw,Option.bind_some,if_pos hl,lw,Mn]
theorem mw (ds:List D) (h:ks env bx=.val (ds.map W.d) bx1) (hl:ds.length <= sizeLine):fS false ks env bx=.val (.d (.lst ds)) bx1:=by rw [JR,h,gj,Aw,Option.bind_some,if_pos hl,lw,Au]
theorem Ad (ds:List D) (h:ks env bx=.val (ds.map W.d) bx1) (hl:ds.length <= sizeLine):fS true ks env bx=.val (.b bx1.length) (bx1 ++ [.lst ds]):=by rw [JR,h,gj,Aw,Option.bind_some,if_pos hl];rfl
theorem gf {g:D->D->Option Res}{r:Res}{x y:D} (h1:m env bx=.val (.d x) bx1) (h2:k env bx1=.val (.d y) bx2) (hg:g x y=some r):d2 false g m k env bx=.val (.d r.toD) bx2:=by rw [JN,h1,gj,h2,gj,Ak,Ak,Option.bind_some,Option.bind_some,hg,lw]
theorem gz {fn:List W->List Bx->O W}{n:Nat} (h:ks env bx=.val l bx1) (hn:l.length=n) (hf:fn l bx1=.val w bx2):fk fn n ks env bx=.val w bx2:=by rw [FM,h,gj,if_pos hn,hf]
theorem lR {b:Bool} (h:m env bx=.val (.d (.bl b)) bx1):dB m env bx=.val b bx1:=by rw [Ph,h,gj]
theorem mT {t:DE Bool}{b:Bool} (h:t env bx=.val b bx1):dNot t env bx=.val (!b) bx1:=by rw [NV,h,gj]
theorem La {t s:DE Bool} (h:t env bx=.val true bx1):dOr t s env bx=.val true bx1:=by rw [MY,h,gj]
theorem AY {t s:DE Bool}{b:Bool} (h:t env bx=.val false bx1) (h2:s env bx1=.val b bx2):dOr t s env bx=.val b bx2:=by rw [MY,h,gj,h2]
theorem FZ {b:Bool} (h:m env bx=.val (.d (.bl b)) bx1):gE m k env bx=if b then k env bx1 else .val (.d (.bl false)) bx1:=by rw [FN,h];cases b <;> rfl
theorem j4 {src:List (Option Nat)}{mi:DE (List W)}{g:DG}{tf:DE Bool}{te:DE W}{ds:List D}{e2:DEnv} (h1:mi env bx=.val l bx1) (he:srcEnv src env=e2) (h2:compD g tf te l e2 bx1 []=.val ds bx2):ge false src mi g tf te env bx=.val (.d (.lst ds)) bx2:=by
  subst he;rw [Cc,h1,gj,h2,gj,lw,Au]
theorem AZ {x:D}{r:Res}{lo hi:DE (Option Int)}{i j:Option Int} (h1:m env bx=.val (.d x) bx1) (h2:lo env bx1=.val i bx2) (h3:hi env bx2=.val j bx3) (hs:slD x i j=some r):dSl false m lo hi env bx=.val (.d r.toD) bx3:=by
  rw [OM,h1,gj,h2,gj,h3,gj,Ak,Option.bind_some,hs,lw]
theorem mB {i:Int} (h:m env bx=.val (.d (.int i)) bx1):dPart m env bx=.val (some i) bx1:=by rw [Mp,h,gj]
theorem lE {ds:List D} (h:m env bx=.val (.d (.lst ds)) bx1):dIter m env bx=.val (ds.map W.d) bx1:=by rw [FP,h,gj]
theorem Mt {ds:List D} (h:m env bx=.val (.d (.tup ds)) bx1):dIter m env bx=.val (ds.map W.d) bx1:=by rw [FP,h,gj]
theorem Lb {i:Int} (h:m env bx=.val (.d (.int i)) bx1):dNeg m env bx=.val (.d (.int (-i))) bx1:=by rw [NZ,h,gj]
theorem Cg {d:D} (h:m env bx=.val (.d d) bx1) (c:canShow d=true):dRepr m env bx=.val (.d (.str (toPy d).shown)) bx1:=by
  unfold dRepr;rw [h,gj];exact if_pos c
theorem fI {a b:DSt} (h:a env bx=.nx env1 bx1):fu a b env bx=b env1 bx1:=by rw [Ff,h]
theorem lx {a b:DSt} (h:a env bx=.rt w bx1):fu a b env bx=.rt w bx1:=by rw [Ff,h]
theorem jK {i:Nat} (h:m env bx=.val w bx1):fJ m (fe i) env bx=.nx (env.set i (some w)) bx1:=by rw [JP,h,Aa,JQ]
theorem iG (h:m env bx=.val w bx1):fM m env bx=.rt w bx1:=by rw [Fg,h,Aa]
theorem mU (h:m env bx=.val w bx1):gR m env bx=.nx env bx1:=by rw [Mo,h,Aa]
theorem Bj {t:DE Bool}{a b:DSt} (h:t env bx=.val true bx1):sIf t a b env bx=a env bx1:=by rw [JO,h,Aa]
theorem Bk {t:DE Bool}{a b:DSt} (h:t env bx=.val false bx1):sIf t a b env bx=b env bx1:=by rw [JO,h,Aa]
theorem mV {mi:DE (List W)}{g:DG}{body:DSt} (h:mi env bx=.val l bx1):gI mi g body env bx=forD g body l env bx1:=by rw [NW,h,Aa]
theorem A0 {g:DG}{body:DSt} (h1:g w env bx=some (env1,bx1)) (h2:body env1 bx1=.nx env2 bx2):forD g body (w :: l) env bx=forD g body l env2 bx2:=by
  rw [forD,h1]
  simp only [h2]
theorem N4 {g:DG}{body:DSt} (h1:g w env bx=some (env1,bx1)) (h2:body env1 bx1=.rt u bx2):forD g body (w :: l) env bx=.rt u bx2:=by
  rw [forD,h1]
  simp only [h2]
theorem Pb {g:DG}{body:DSt}:forD g body [] env bx=.nx env bx:=rfl
theorem mC {g:DG}{body:DSt} (I:Nat->DEnv->List Bx->Prop):∀ (l:List W) (k:Nat) (env:DEnv) (bx:List Bx),I k env bx ->
    (∀ i w env bx,l[i]?=some w->I (k + i) env bx->∃ env1 bx1 env2 bx2,g w env bx=some (env1,bx1) /\ body env1 bx1=.nx env2 bx2 /\ I (k + i + 1) env2 bx2) ->
    ∃ env' bx',forD g body l env bx=.nx env' bx' /\ I (k + l.length) env' bx':=by
  intro l
  induction l with
  | nil=>intro k env bx h _;exact ⟨env,bx,rfl,h⟩
  | cons w l ih =>
    intro k env bx h st
    obtain ⟨env1,bx1,env2,bx2,e1,e2,h2⟩:=st 0 w env bx rfl h
    obtain ⟨env',bx',e3,h3⟩:=ih (k + 1) env2 bx2 h2 fun i x env bx e hi=>by
      have:=st (i + 1) x env bx (by simpa using e) (by rw [show k + (i + 1)=k + 1 + i by omega];exact hi)
      rw [show k + (i + 1) + 1=k + 1 + i + 1 by omega] at this
      exact this
    exact ⟨env',bx',by rw [A0 e1 e2,e3],by rw [List.length_cons,show k + (l.length + 1)=k + 1 + l.length by omega];exact h3⟩
end
end L2.DL
set_option Elab.async false
set_option linter.all false
set_option maxRecDepth 100000
set_option maxHeartbeats 1000000
namespace K1
open PySem PySem.Spec PyProof.Rows L2 L2.DL
structure Prs (k:Nat) (ps:List (Int × Int)):Prop where
  nd:ps.Nodup
  b:∀ p ∈ ps,0 <= p.1 /\ p.1 < p.2 /\ p.2 < (k:Int)
  l:ps.length <= 4 * k
theorem Mu {env:DEnv}{bx:List Bx}{k:Nat}{m:DE (List W)} (e:m env bx=.val [.d (.int (k:Int))] bx) (hk:k <= 1000000):dRng1 m env bx=.val (fO 0 k) bx:=by
  rw [lI e (by omega),Int.toNat_natCast]
end K1
set_option Elab.async false
set_option linter.all false
set_option maxRecDepth 100000
set_option maxHeartbeats 1000000
namespace K1
open PySem PySem.Spec PyProof.Rows L2 L2.DL
theorem Lc {d:D}{lo hi:Int}{B a:Nat} (h:wi d lo hi=true) (h1:lo.natAbs <= B) (h2:hi.natAbs <= B):Sm B a 1921 d:=by
  obtain ⟨i,rfl,a1,a2⟩:=oE h
  exact Sm.int (by omega)
theorem Ld {d:D} (h:rates d=true):Sm 999 1 7695 d:=by
  cases d with
  | tup l =>
    simp only [rates,Bool.and_eq_true] at h
    have n:=mS h.1
    have s:=SmL.of (B:=999) (a:=0) (b:=1921) (l:=l) fun x m=>Lc (List.all_eq_true.mp h.2.1 x m) (by decide) (by decide)
    have e:l.length=4:=by omega
    rw [e] at s
    exact Sm.tup s
  | _=>simp [rates] at h
theorem Mw {d:D} (h:kind d=true):Sm 999 2 9623 d:=by
  cases d with
  | tup l =>
    simp only [kind,Bool.and_eq_true] at h
    obtain ⟨a,b,rfl⟩:=tl2 h.1
    simp only [Bool.and_eq_true] at h
    have s1:=Lc (B:=999) (a:=1) h.2.1 (by decide) (by decide)
    have s2:=Ld h.2.2
    exact Sm.tup (SmL.cons s1 (SmL.cons s2 SmL.nil))
  | _=>simp [kind] at h
theorem ON {p:Int × Int}{k:Nat} (h:0 <= p.1 /\ p.1 < p.2 /\ p.2 < (k:Int)) (hk:k <= 4):Sm 999 1 3849 (dP p) :=
  Sm.tup (SmL.cons (Sm.int (by omega)) (SmL.cons (Sm.int (by omega)) SmL.nil))
end K1
set_option Elab.async false
set_option linter.all false
set_option maxRecDepth 100000
set_option maxHeartbeats 1000000
namespace K1
open PySem PySem.Spec PyProof.Rows L2 L2.DL
theorem Le {α:Type}{l:List α}{i:Nat}{a:α} (h:l[i]?=some a):l.set i a=l:=by
  obtain ⟨hi,e⟩:=List.getElem?_eq_some_iff.mp h
  rw [<-e];exact List.set_getElem_self hi
section
variable {bx : List Bx}
theorem F6 {m k:DE W}{env:DEnv}{bx bx1 bx2:List Bx}{i:Nat}{l l0:List D}{d:D} (h1:m env bx=.val (.b i) bx1) (hb0:bx1[i]?=some (.lst l0)) (h2:k env bx1=.val (.d d) bx2) (hb:bx2[i]?=some (.lst l)) (hl:l.length < sizeLine):dApp m k env bx=.val (.d .non) (bx2.set i (.lst (l ++ [d]))):=by
  unfold dApp
  rw [h1,gj]
  simp only [hb0,h2,gj,hb,if_pos hl]
end
section
variable {n : Nat} {d hd lim rt : D} {rs ks ps : List D} {j : Nat} {fo so fi tw th : Option W} {bx : List Bx}
end
end K1
set_option Elab.async false
set_option linter.all false
set_option maxRecDepth 100000
set_option maxHeartbeats 1000000
namespace K1
open PySem PySem.Spec PyProof.Rows L2 L2.DL
section
variable {n : Nat} {d hd lim rt : D} {rs ks ps : List D} {j : Nat} {fo so fi tw th : Option W} {bx : List Bx}
end
end K1
set_option Elab.async false
set_option linter.all false
set_option maxRecDepth 100000
set_option maxHeartbeats 1000000
namespace K1
open PySem PySem.Spec PyProof.Rows L2 L2.DL
theorem A1 {n:Nat}{m:DSt}{ws:List W}{d:D}{bx bx':List Bx} (h:m (ws.map some ++ List.replicate (n - ws.length) none) bx=.rt (.d d) bx'):fnD n (noX m) ws bx=.val (.d d) (bx'.take bx.length):=by
  simp only [fnD,noX,DL.envOf,h,retO,cutO]
theorem OO {env:DEnv}{bx:List Bx}{i k:Nat}{l:List D} (h:env[k]?=some (some (.b i))) (hb:bx[i]?=some (.lst l)):dFrz k env bx=.val (.d (.lst l)) (bx.set i .dead):=by
  unfold dFrz
  simp only [h,hb]
structure House (d hd lim rt:D) (rs ks ps:List D):Prop where
  e:d=.tup [.tup rs,.tup ks,.tup ps,hd]
  k:ks[0]?=some (.tup [lim,rt])
  r0:rs ≠ []
  r5:rs.length <= 5
  k0:ks ≠ []
  k4:ks.length <= 4
end K1
set_option Elab.async false
set_option linter.all false
set_option maxRecDepth 100000
set_option maxHeartbeats 1000000
namespace K1
open PySem PySem.Spec PyProof.Rows L2 L2.DL
theorem N5 (l:List Int) (k:Nat) (bx:List Bx):∃ c:Int,gq [.s l,.d (.int (k:Int))] bx=.val (.d (.int c)) bx:=by
  by_cases h:k < l.length
  . have a:atI l (k:Int)=some l[k]:=N3 l k h
    refine ⟨l[k],i9 ?_⟩
    have h':(k:Int) < (l.length:Int):=by omega
    simp [jE,dLenS,ltD,h',dIxS,a]
  . refine ⟨0,i9 ?_⟩
    have h':¬ (k:Int) < (l.length:Int):=by omega
    simp [jE,dLenS,ltD,h']
noncomputable abbrev potBody:DSt:=(fu (fJ (d2 false modD (d2 false mulD (d2 false fB (d2 false fB (d2 false modD (dV 0) (dC (.int 2147483629))) (d2 false mulD (dC (.int 7919)) (dV 2))) (dC (.int 1))) (dC (.int 48271))) (dC (.int 2147483647))) (fe 3)) (fu (fJ (d2 false modD (d2 false fB (d2 false fB (d2 false mulD (dV 3) (dV 3)) (d2 false mulD (dC (.int 69621)) (dV 2))) (dC (.int 7))) (dC (.int 2147483587))) (fe 3)) (fJ (d2 false fB (d2 false mulD (dV 1) (dC (.int 2147483587))) (dV 3)) (fe 1))))
theorem Lf {i j:Int} (h1:-(2 ^ 64) < i) (h2:i < 2 ^ 64):mulD (.int i) (.int j)=some (.old (.int (i * j))):=if_pos (.inl ⟨h1,h2⟩)
theorem MZ {i j:Int} (h1:-(2 ^ 64) < j) (h2:j < 2 ^ 64):mulD (.int i) (.int j)=some (.old (.int (i * j))):=if_pos (.inr ⟨h1,h2⟩)
theorem Lg {i j:Int} (h1:0 < j):modD (.int i) (.int j)=some (.old (.int (i % j))):=if_pos h1
theorem OP {i j:Int} (h1:CPow i j):powD (.int i) (.int j)=some (.old (.int (i ^ j.toNat))):=if_pos h1
theorem GX (c x j:Int) (w:Option W) (bx:List Bx):∃ x' y,potBody [some (.d (.int c)),some (.d (.int x)),some (.d (.int j)),w] bx=.nx [some (.d (.int c)),some (.d (.int x')),some (.d (.int j)),some (.d (.int y))] bx:=by
  let a:=(c % 2147483629 + 7919 * j + 1) * 48271 % 2147483647
  let b:=(a * a + 69621 * j + 7) % 2147483587
  have a0:0 <= a:=Fm _ (by decide)
  have a1:a < 2147483647:=Fn _ (by decide)
  have e1:fJ (d2 false modD (d2 false mulD (d2 false fB (d2 false fB (d2 false modD (dV 0) (dC (.int 2147483629))) (d2 false mulD (dC (.int 7919)) (dV 2))) (dC (.int 1))) (dC (.int 48271))) (dC (.int 2147483647))) (fe 3) [some (.d (.int c)),some (.d (.int x)),some (.d (.int j)),w] bx=.nx [some (.d (.int c)),some (.d (.int x)),some (.d (.int j)),some (.d (.int a))] bx :=
    jK (gf (r:=.old _) (gf (r:=.old _) (gf (r:=.old _) (gf (r:=.old _) (gf (r:=.old _) rfl rfl (Lg (by decide))) (gf (r:=.old _) rfl rfl (Lf (by decide) (by decide))) rfl) rfl rfl) rfl (MZ (by decide) (by decide))) rfl (Lg (by decide)))
  have e2:fJ (d2 false modD (d2 false fB (d2 false fB (d2 false mulD (dV 3) (dV 3)) (d2 false mulD (dC (.int 69621)) (dV 2))) (dC (.int 7))) (dC (.int 2147483587))) (fe 3) [some (.d (.int c)),some (.d (.int x)),some (.d (.int j)),some (.d (.int a))] bx=.nx [some (.d (.int c)),some (.d (.int x)),some (.d (.int j)),some (.d (.int b))] bx :=
    jK (gf (r:=.old _) (gf (r:=.old _) (gf (r:=.old _) (gf (r:=.old _) rfl rfl (Lf (by omega) (by omega))) (gf (r:=.old _) rfl rfl (Lf (by decide) (by decide))) rfl) rfl rfl) rfl (Lg (by decide)))
  have e3:fJ (d2 false fB (d2 false mulD (dV 1) (dC (.int 2147483587))) (dV 3)) (fe 1) [some (.d (.int c)),some (.d (.int x)),some (.d (.int j)),some (.d (.int b))] bx=.nx [some (.d (.int c)),some (.d (.int (x * 2147483587 + b))),some (.d (.int j)),some (.d (.int b))] bx :=
    jK (gf (r:=.old _) (gf (r:=.old _) rfl rfl (MZ (by decide) (by decide))) rfl rfl)
  exact ⟨_,_,by unfold potBody;rw [fI e1,fI e2,e3]⟩
theorem Lh {n:Nat}{m:DSt}{ws:List W}{i:Nat}{bx bx':List Bx} (h:m (ws.map some ++ List.replicate (n - ws.length) none) bx=.rt (.b i) bx'):fnD n (noX m) ws bx=.val (.b i) bx':=by
  simp only [fnD,noX,DL.envOf,h,retO,cutO]
theorem OQ (c:Int) (bx:List Bx):∃ p:Int,io [.d (.int c)] bx=.val (.b bx.length) (bx ++ [.lst [.int p]]):=by
  have sz:sizeLine=16777216:=sizeLine_eq
  have p18:∀ e b,d2 false powD (dC (.int 10)) (dC (.int 18)) e b=.val (.d (.int (10 ^ 18))) b:=fun e b=>gf (r:=.old _) rfl rfl (OP (by decide))
  have t:dB (d2 false geI (dV 0) (d2 false powD (dC (.int 10)) (dC (.int 18)))) [some (.d (.int c)),none,none,none] bx=.val (decide (10 ^ 18 <= c)) bx:=lR (gf (r:=.old _) rfl (p18 _ _) rfl)
  by_cases h:10 ^ 18 <= c
  . rw [decide_eq_true h] at t
    refine ⟨c - 10 ^ 18,Lh ?_⟩
    show j7 [some (.d (.int c)),none,none,none] bx=_
    unfold j7
    refine (lx ((Bj t).trans (iG (Ad [.int (c - 10 ^ 18)] (fm (gf (r:=.old _) rfl (p18 _ _) rfl) rfl) (show (1:Nat) <= sizeLine by omega))))).trans rfl
  . rw [decide_eq_false h] at t
    have rg:=Mu (env:=[some (.d (.int c)),some (.d (.int 0)),none,none]) (bx:=bx) (k:=64) (m:=fb (dC (.int 64)) fc) rfl (by decide)
    obtain ⟨env',bx',e,x,w2,w3,rfl,rfl⟩:=mC (g:=fe 2) (body:=potBody) (fun _ env b=>∃ (x:Int) (w2 w3:Option W),env=[some (.d (.int c)),some (.d (.int x)),w2,w3] /\ b=bx) (fO 0 64) 0 [some (.d (.int c)),some (.d (.int 0)),none,none] bx ⟨0,none,none,rfl,rfl⟩ (by
      rintro i w env b hw ⟨x,w2,w3,rfl,rfl⟩
      obtain ⟨j,_,rfl⟩:=List.mem_map.mp (List.mem_of_getElem? hw)
      obtain ⟨x',y,e⟩:=GX c x (0 + (j:Int)) w3 b
      exact ⟨_,_,_,_,rfl,e,x',_,_,rfl,rfl⟩)
    refine ⟨x,Lh ?_⟩
    show j7 [some (.d (.int c)),none,none,none] bx'=_
    unfold j7
    refine (fI (Bk t)).trans ?_
    refine (fI (jK rfl)).trans ?_
    refine (fI ((mV rg).trans e)).trans ?_
    exact iG (Ad [.int x] rfl (show (1:Nat) <= sizeLine by omega))
end K1
set_option Elab.async false
set_option linter.all false
set_option maxRecDepth 100000
set_option maxHeartbeats 1000000
set_option exponentiation.threshold 3000
namespace K1
open PySem PySem.Spec PyProof.Rows L2 L2.DL
noncomputable def F:Nat->Nat
  | 0=>111672
  | i + 1=>2 * F i + 4000
noncomputable abbrev lapBody:DSt:=(fJ (fk (i7 12) 2 (fb (dV 2) (fb (dV 6) fc))) (fe 6))
noncomputable abbrev turnBody:DSt:=(fu (fJ (dV 3) (fe 6)) (fu (gI (dRng1 (fb (d2 false fB (dC (.int 1)) (fk ff 2 (fb (dV 2) (fb (dC (.int 3)) fc)))) fc)) (fe 7) lapBody) (gR (dApp (dV 4) (dV 6)))))
noncomputable abbrev lookBody:DSt:=(fu (fJ (dRepr (dV 8)) (fe 9)) (sIf (dOr (dB (d2 false neD (dRepr (fk gT 1 (fb (dV 8) fc))) (dRepr (fk mH 1 (fb (dV 8) fc))))) (dB (d2 false neD (dRepr (dV 8)) (dV 9)))) (fM (dC (.bl false))) sNil))
end K1
set_option Elab.async false
set_option linter.all false
set_option maxRecDepth 100000
set_option maxHeartbeats 1000000
namespace K2
open PySem PySem.Spec PyProof.Rows L2 L2.DL K1
noncomputable def hr (d:D):Bool:=match d with
  | .int i=>decide (0 <= i)
  | _=>false
noncomputable def outB (d:D):Bool:=match d with
  | .tup [.int a,.int b]=>decide (0 <= a) && decide (a < b)
  | _=>false
noncomputable def apartP:List (Int × Int)->Bool
  | p :: q :: r=>decide (p.2 < q.1) && apartP (q :: r)
  | _=>true
noncomputable def outs (d:D):Bool:=match d with
  | .tup l=>decide (l.length <= 4) && (l.all outB && apartP (l.filterMap toP))
  | _=>false
end K2
set_option Elab.async false
set_option linter.all false
set_option maxRecDepth 100000
set_option maxHeartbeats 1000000
namespace K2
open PySem PySem.Spec PyProof.Rows L2 L2.DL K1
end K2
set_option Elab.async false
set_option linter.all false
set_option maxRecDepth 100000
set_option maxHeartbeats 1000000
namespace K2
open PySem PySem.Spec PyProof.Rows L2 L2.DL K1
section
variable {hs : List D} {c hold hour : Int} {x1 x2 : Option W} {bx : List Bx}
end
structure HouseI (d:D) (rs:List Int) (hold:Int):Prop where
  e:∃ k p,d=.tup [.tup (rs.map D.int),k,p,.int hold]
  r:∀ c ∈ rs,0 <= c /\ c <= 3
  n:1 <= rs.length /\ rs.length <= 5
  h:1 <= hold /\ hold <= 9
theorem GY {d:D} (h:house d=true):∃ rs hold,HouseI d rs hold:=by
  unfold house at h
  split at h
  . rename_i r k p hd
    simp only [Bool.and_eq_true] at h
    obtain ⟨h1,h2,h3,h4⟩:=h
    cases r with
    | tup l =>
      simp only [rooms,Bool.and_eq_true] at h1
      have n:=mS h1.1
      obtain ⟨rs,rfl⟩:=C9 h1.2
      obtain ⟨i,rfl,i1,i2⟩:=oE h4
      rw [List.length_map] at n
      refine ⟨rs,i,⟨k,p,rfl⟩,fun c m=>?_,by omega,i1,i2⟩
      have:=List.all_eq_true.mp h1.2 (.int c) (List.mem_map_of_mem m)
      simpa [wi] using this
    | _=>simp [rooms] at h1
  . simp at h
section
variable {d : D} {rs : List Int} {hold hour : Int} {bx : List Bx}
end
end K2
set_option Elab.async false
set_option linter.all false
set_option maxRecDepth 100000
set_option maxHeartbeats 1000000
namespace L2.DL
section
variable {env env1 : DEnv} {bx bx1 bx2 : List Bx} {m : DE W} {ks : DE (List W)} {l : List W} {c : Nat}
end
end L2.DL
namespace K2
open PySem PySem.Spec PyProof.Rows L2 L2.DL K1
section
variable {h : D} {rs : List Int} {hold : Int} {bx : List Bx}
theorem Mx (H:HouseI h rs hold) {f:List W->List Bx->O W} (hf:∀ d lo hi bx,f [.d d,.d (.int lo),.d (.int hi)] bx=.val (.d (.bl (wi d lo hi))) bx) (r:D) {i j:Nat}{env:DEnv} (e1:dV i env bx=.val (.d h) bx) (e2:dV j env bx=.val (.d r) bx) :
    fk f 3 (fb (dV j) (fb (dC (.int 0)) (fb (d2 false subD (dN false lenD (fb (d2 false ixD (dV i) (dC (.int 0))) fc)) (dC (.int 1))) fc))) env bx=.val (.d (.bl (wi r 0 ((rs.length:Int) - 1)))) bx:=by
  obtain ⟨⟨k,p,rfl⟩,_⟩:=H
  have e0:ixD (.tup [.tup (rs.map D.int),k,p,.int hold]) (.int 0)=some (.old (.tup (rs.map D.int))):=by simp [ixD,atI,ixN]
  have el:lenD [.tup (rs.map D.int)]=some (.old (.int rs.length)):=by simp [lenD]
  exact gz (fm e2 (fm rfl (fm (gf (r:=.old _) (lQ [.tup (rs.map D.int)] (fm (gf e1 rfl e0) rfl) el) rfl rfl) rfl))) rfl (hf _ _ _ _)
theorem GZ (H:HouseI h rs hold) (r:D):gG [.d h,.d r] bx=.val (.d (.bl (wi r 0 ((rs.length:Int) - 1)))) bx :=
  i9 (iG (Mx H j8 r rfl rfl))
end
end K2
set_option Elab.async false
set_option linter.all false
set_option maxRecDepth 100000
set_option maxHeartbeats 400000
set_option exponentiation.threshold 3000
namespace K1
open PySem PySem.Spec PyProof.Rows L2 L2.DL
section
variable {bx : List Bx} {n : Nat} {p : Int} {x y : Bx} {E : List Bx}
theorem lJ (h:n < bx.length):pt bx n p ++ E=pt (bx ++ E) n p:=by
  unfold pt
  rw [List.set_append_left _ _ h]
theorem iH (h:n < bx.length):(pt (bx ++ [x]) n p)[bx.length]?=some x:=by
  rw [<-lJ h,<-iE (bx:=bx) (n:=n) (p:=p)]
  exact List.getElem?_concat_length
theorem mD (h:n < bx.length):(pt (bx ++ [x]) n p).set bx.length y=pt (bx ++ [y]) n p:=by
  rw [<-lJ h,<-lJ h,<-iE (bx:=bx) (n:=n) (p:=p),List.set_append_right _ _ (Nat.le_refl _),Nat.sub_self]
  rfl
theorem A2 (h:n < bx.length):(pt (bx ++ E) n p).take bx.length=pt bx n p:=by
  rw [<-lJ h,<-iE (bx:=bx) (n:=n) (p:=p),List.take_left]
end
theorem Mz {bx:List Bx}{n:Nat} (h:n < bx.length) (p k:Int) (hk:0 < k) (hk2:k < 1073741824):∃ r q,ff [.b n,.d (.int k)] (pt bx n p)=.val (.d (.int r)) (pt bx n q) /\ 0 <= r /\ r < k :=
  ⟨_,_,FV h p k hk hk2,Fm p hk,Fn p hk⟩
end K1
namespace K2
open PySem PySem.Spec PyProof.Rows L2 L2.DL K1
end K2
set_option Elab.async false
set_option linter.all false
set_option maxRecDepth 100000
set_option maxHeartbeats 1000000
namespace L2.DL
open PySem PySem.Spec PyProof.Rows PySem.W
noncomputable def vOf:D->V
  | .non=>.non
  | .bl b=>.bl b
  | .int i=>.int i
  | .str x=>.str x
  | _=>.ty ""
noncomputable def flatD:D->Bool
  | .non=>true
  | .bl _=>true
  | .int _=>true
  | .str _=>true
  | _=>false
noncomputable def eqF (a b:D):Bool:=eqV (vOf a) (vOf b)
theorem oW {F:Hp}{d:D}{v:V} (f:flatD d=true) (h:Den F d v):v=vOf d /\ flatV v=true:=by
  cases d with
  | non=>cases (show v=.non from h);exact ⟨rfl,rfl⟩
  | bl b=>cases (show v=.bl b from h);exact ⟨rfl,rfl⟩
  | int i=>cases (show v=.int i from h);exact ⟨rfl,rfl⟩
  | str x=>cases (show v=.str x from h);exact ⟨rfl,rfl⟩
  | _=>cases f
theorem oa {F:Hp}:∀ {l:List D}{vs:List V},l.all flatD=true->DenL F l vs->vs=l.map vOf /\ vs.all flatV=true
  | [],_,_,h=>by cases (show _=[] from h);exact ⟨rfl,rfl⟩
  | d :: l,_,f,h=>by
    obtain ⟨v,r,e,h1,h2⟩:=h
    subst e
    rw [List.all_cons,Bool.and_eq_true] at f
    obtain ⟨e1,f1⟩:=oW f.1 h1
    obtain ⟨e2,f2⟩:=oa f.2 h2
    subst e1;subst e2
    exact ⟨rfl,by rw [List.all_cons,f1,f2];rfl⟩
noncomputable def inF (x:D) (l:List D):Bool:=l.any fun y=>eqF y x
theorem F7 (x:D) (l:List D):inV (vOf x) (l.map vOf)=inF x l:=by
  unfold inV inF
  rw [List.any_map]
  rfl
noncomputable def inD (neg:Bool):D->D->Option Res:=fun x y=>match y with
  | .lst l=>if flatD x=true /\ l.all flatD=true then some (.old (.bl (if neg then !inF x l else inF x l))) else none
  | .tup l=>if flatD x=true /\ l.all flatD=true then some (.old (.bl (if neg then !inF x l else inF x l))) else none
  | _=>none
theorem okIn {K:Frag} (neg:Bool):Ok2 (rIn K neg) (inD neg):=by
  intro F H x y v w Q s sub hx hy e k
  unfold inD at e
  have fx:∀ {d:D},flatD d=true->Rdd F H d v->Den F d v:=fun {d} f h=>by
    cases d with
    | non=>exact h
    | bl b=>exact h
    | int i=>exact h
    | str z=>exact h
    | _=>cases f
  cases y with
  | lst l =>
    simp only at e
    split at e
    . rename_i f
      cases e
      obtain ⟨a,vs,rfl,h1,h2⟩:=hy
      obtain ⟨e1,f1⟩:=oW f.1 (fx f.1 hx)
      obtain ⟨e2,f2⟩:=oa f.2 h2
      subst e1;subst e2
      refine ⟨a,_,rfl,.inl (SqL.of h1),f1,f2,?_⟩
      rw [F7]
      exact k _ _ ⟨rfl,rfl⟩
    . cases e
  | tup l =>
    simp only at e
    split at e
    . rename_i f
      cases e
      obtain ⟨a,vs,rfl,h1,h2⟩:=hy
      obtain ⟨e1,f1⟩:=oW f.1 (fx f.1 hx)
      obtain ⟨e2,f2⟩:=oa f.2 h2
      subst e1;subst e2
      refine ⟨a,_,rfl,.inr (SqT.of (sub _ _ h1)),f1,f2,?_⟩
      rw [F7]
      exact k _ _ ⟨rfl,rfl⟩
    . cases e
  | _=>cases e
noncomputable def intD:List D->Option Res:=fun xs=>match xs with
  | [.int i]=>some (.old (.int i))
  | [.bl b]=>some (.old (.int (if b then 1 else 0)))
  | _=>none
theorem okInt:OkN (fun xs H Q=>(∃ i,xs=[.int i] /\ Q (.int i) H) \/ ∃ k,xs=[.bl k] /\ Q (.int (if k then 1 else 0)) H) intD:=by
  intro F H xs vs Q s sub rx e k
  unfold intD at e
  split at e
  . cases e
    obtain ⟨v,t,rfl,hv,rt⟩:=rx
    cases (show t=[] from rt)
    cases (show v=.int _ from hv)
    exact .inl ⟨_,rfl,k _ _ ⟨rfl,rfl⟩⟩
  . cases e
    obtain ⟨v,t,rfl,hv,rt⟩:=rx
    cases (show t=[] from rt)
    cases (show v=.bl _ from hv)
    exact .inr ⟨_,rfl,k _ _ ⟨rfl,rfl⟩⟩
  . cases e
section
variable {X : Cx} {T : Fr} {Z : Xs} {a b e o : Expr} {es : List Expr} {ma mb mc : DE W} {pos p apos : Pos}
noncomputable def dIndex (m k:DE W):DE W:=fun env bx=>fE (m env bx) fun x bx1=>match rdW bx1 x with
  | some (.lst _)=>fE (k env bx1) fun y bx2=>(match y,rdW bx2 x with
    | .d d,some (.lst l)=>if flatD d=true /\ l.all flatD=true then (match l.findIdx? fun z=>eqF z d with | some j=>.val (.d (.int (j:Nat))) bx2 | none=>.bad) else .bad
    | _,_=>.bad)
  | _=>.bad
theorem Li {F:Hp}{r:List Addr}{σ:St}{H:Hp}{env:DEnv}{bx:List Bx} (R:Rel T F r σ H env bx) {w:W}{v:V} (d:DenW F r w v) {l:List D} (e:rdW bx w=some (.lst l)):∃ a vs,v=.ref a /\ H a=some (.lst vs) /\ DenL F l vs:=by
  cases w with
  | d x =>
    cases (show some x=some (.lst l) from e)
    obtain ⟨a,vs,rfl,h1,h2⟩:=d
    exact ⟨a,vs,rfl,R.fh _ _ h1,h2⟩
  | b n =>
    obtain ⟨a,rfl,ha⟩:=d
    obtain ⟨c,hc,kc⟩:=R.bat ha
    simp only [rdW,hc] at e
    cases c with
    | lst l' =>
      cases e
      obtain ⟨_,vs,h1,h2⟩:=kc
      exact ⟨a,vs,rfl,h1,h2⟩
    | dic l'=>cases e
    | dead=>cases e
  | s l'=>cases e
  | x i=>cases e
theorem MA {σ:St}{H:Hp}{Q:VK} (h:tD T Z (dIndex ma mb) σ H Q):tBM X.K "list" rIndex (tD T Z ma) (tCons (tD T Z mb) tNil) σ H Q:=by
  obtain ⟨F,r,env,bx,R,h⟩:=h
  refine ⟨F,r,env,bx,R,End.bind h fun x bx1 F1 r1 v H1 g1 R1 d1 h1=>?_⟩
  cases q:rdW bx1 x with
  | none=>rw [q] at h1;exact h1.elim
  | some dx =>
    rw [q] at h1
    cases dx with
    | lst l0 =>
      simp only at h1
      obtain ⟨a,vs,rfl,k1,k2⟩:=Li R1 d1 q
      refine ⟨.inl ⟨rfl,vs,SqL.of k1⟩,F1,r1,env,bx1,R1,End.bind h1 fun y bx2 F2 r2 u H2 g2 R2 d2 h2=>?_⟩
      split at h2
      . rename_i d l q2
        split at h2
        . rename_i f
          obtain ⟨a',vs',ea,k3,k4⟩:=Li R2 (g2.den d1) q2
          cases ea
          obtain ⟨e1,f1⟩:=oW f.1 d2
          obtain ⟨e2,f2⟩:=oa f.2 k4
          subst e1;subst e2
          split at h2
          . rename_i j hj
            obtain ⟨hl,hj1,hj2⟩:=List.findIdx?_eq_some_iff_getElem.mp hj
            refine ⟨a,l.map vOf,vOf d,j,rfl,rfl,k3,f2,f1,by rw [List.length_map];exact hl,fun z hz=>?_,fun m z hm hz=>?_,h2 F2 r2 _ H2 (.refl F2 r2) R2 rfl⟩
            . rw [List.getElem?_map,List.getElem?_eq_getElem hl] at hz
              cases hz
              exact hj1
            . rw [List.getElem?_map,List.getElem?_eq_getElem (by omega:m < l.length)] at hz
              cases hz
              have:=hj2 m hm
              simpa [eqF] using this
          . exact h2.elim
        . exact h2.elim
      . exact h2.elim
    | _=>exact h1.elim
theorem Lj (ho:PD X T Z o ma) (ha:PD X T Z e mb) (hns:nst e=true:=by rfl)
    (hbase:attributeBase o "index" X.env (eval o X.env)=eval o X.env:=by rfl)
    (hfew:((backTo pos (starEach [e] X.env)).all (fun x=>!x.1) && (backToKw pos (keywordEach [] X.env)).all (fun x=>x.1.isSome)
      && decide ([e].length + ([]:List Keyword).length + (if ([]:List Keyword).isEmpty then 0 else 1) < 30))=true:=by rfl)
    (hline:(apos.endLine == pos.line)=true:=by rfl):PD X T Z (.Call (.Attribute o "index" apos) [e] [] pos) (dIndex ma mb) :=
  PE.imp (Jl PySem.F.plainAttrs_list PySem.F.slot_list_index PySem.F.type_list_index Jv ho (lB ha oo (gF hns [] X.env)) hbase hfew hline (gF hns [] X.env) (by rfl)) fun σ H Q h=>MA h
noncomputable def dPopAt (m k:DE W):DE W:=fun env bx=>fE (m env bx) fun x bx1=>match x with
  | .b n=>(match bx1[n]? with
    | some (.lst _)=>fE (k env bx1) fun y bx2=>(match y,bx2[n]? with
      | .d (.int i),some (.lst l)=>if -(2 ^ 63) <= i /\ i < 2 ^ 63 then (match ixN l.length i with
        | some j=>(match l[j]? with | some d=>.val (.d d) (bx2.set n (.lst (l.eraseIdx j))) | none=>.bad)
        | none=>.bad) else .bad
      | _,_=>.bad)
    | _=>.bad)
  | _=>.bad
theorem MB {σ:St}{H:Hp}{Q:VK} (h:tD T Z (dPopAt ma mb) σ H Q):tBM X.K "list" rPopAt (tD T Z ma) (tCons (tD T Z mb) tNil) σ H Q:=by
  obtain ⟨F,r,env,bx,R,h⟩:=h
  refine ⟨F,r,env,bx,R,End.bind h fun x bx1 F1 r1 v H1 g1 R1 d1 h1=>?_⟩
  cases x with
  | d _=>exact h1.elim
  | s _=>exact h1.elim
  | x _=>exact h1.elim
  | b n =>
    simp only at h1
    obtain ⟨a,rfl,ha⟩:=d1
    obtain ⟨c,hc,kc⟩:=R1.bat ha
    rw [hc] at h1
    cases c with
    | dic _=>exact h1.elim
    | dead=>exact h1.elim
    | lst l0 =>
      obtain ⟨_,vs0,k0,_⟩:=kc
      refine ⟨.inl ⟨rfl,vs0,SqL.of k0⟩,F1,r1,env,bx1,R1,End.bind h1 fun y bx2 F2 r2 u H2 g2 R2 d2 h2=>?_⟩
      obtain ⟨t,et⟩:=g2.p
      have ha2:r2[n]?=some a:=by rw [<-et,List.getElem?_append_left (List.getElem?_eq_some_iff.mp ha).1];exact ha
      obtain ⟨c2,hc2,kc2⟩:=R2.bat ha2
      rw [hc2] at h2
      split at h2
      . rename_i i l eq
        cases eq
        obtain ⟨hF,vs,k1,k2⟩:=kc2
        cases (show u=.int i from d2)
        split at h2
        . rename_i hi
          split at h2
          . rename_i j hj
            split at h2
            . rename_i d hd
              obtain ⟨y,hy,dy⟩:=k2.get hd
              refine ⟨a,vs,i,j,y,rfl,rfl,k1,hi.1,hi.2,?_,hy,?_⟩
              . rw [<-k2.length];exact (BP hj).1
              . exact h2 F2 r2 _ _ (.refl F2 r2) (R2.write ha2 hF ⟨hF,vs.eraseIdx j,fY,k2.eraseIdx j⟩) dy
            . exact h2.elim
          . exact h2.elim
        . exact h2.elim
      . exact h2.elim
theorem Lk (ho:PD X T Z o ma) (ha:PD X T Z e mb) (hns:nst e=true:=by rfl)
    (hbase:attributeBase o "pop" X.env (eval o X.env)=eval o X.env:=by rfl)
    (hfew:((backTo pos (starEach [e] X.env)).all (fun x=>!x.1) && (backToKw pos (keywordEach [] X.env)).all (fun x=>x.1.isSome)
      && decide ([e].length + ([]:List Keyword).length + (if ([]:List Keyword).isEmpty then 0 else 1) < 30))=true:=by rfl)
    (hline:(apos.endLine == pos.line)=true:=by rfl):PD X T Z (.Call (.Attribute o "pop" apos) [e] [] pos) (dPopAt ma mb) :=
  PE.imp (Jl PySem.F.plainAttrs_list PySem.F.slot_list_pop PySem.F.type_list_pop Jm ho (lB ha oo (gF hns [] X.env)) hbase hfew hline (gF hns [] X.env) (by rfl)) fun σ H Q h=>MB h
noncomputable def keyD:D->Option Key
  | .int i=>some (.inl i)
  | .str x=>some (.inr x)
  | _=>none
theorem Ax {F:Hp}{d:D}{k:Key}{v:V} (e:keyD d=some k) (h:Den F d v):v=kV k:=by
  cases d with
  | int i=>cases e;exact h
  | str x=>cases e;exact h
  | _=>cases e
noncomputable def getK (l:List (Key × D)) (k:Key):Option D:=(l.find? fun kv=>decide (kv.1=k)).map (·.2)
noncomputable def putKD (l:List (Key × D)) (k:Key) (d:D):List (Key × D) :=
  if (l.any fun kv=>decide (kv.1=k))=true then l.map (fun kv=>if kv.1=k then (kv.1,d) else kv) else l ++ [(k,d)]
theorem DenK.some {F:Hp}{k:Key}{d:D}:∀ {l:List (Key × D)}{vs:List (Key × V)},DenK F l vs->getK l k=some d->∃ v,valV vs k=some v /\ Den F d v
  | [],_,_,e=>by cases e
  | (k',d') :: l,_,⟨v,r,e,h1,h2⟩,q=>by
    subst e
    by_cases c:k'=k
    . simp only [getK,List.find?_cons,c,decide_true,Option.map_some] at q
      cases q
      exact ⟨v,oQ c,h1⟩
    . simp only [getK,List.find?_cons,c,decide_false] at q
      obtain ⟨u,e1,e2⟩:=DenK.some h2 q
      exact ⟨u,(mL c).trans e1,e2⟩
theorem DenK.none {F:Hp}{k:Key}:∀ {l:List (Key × D)}{vs:List (Key × V)},DenK F l vs->getK l k=none->valV vs k=none
  | [],_,h,_=>by cases (show _=[] from h);rfl
  | (k',d') :: l,_,⟨v,r,e,h1,h2⟩,q=>by
    subst e
    by_cases c:k'=k
    . simp only [getK,List.find?_cons,c,decide_true,Option.map_some] at q
      cases q
    . simp only [getK,List.find?_cons,c,decide_false] at q
      exact (mL c).trans (DenK.none h2 q)
theorem DenK.any {F:Hp} (k:Key):∀ {l:List (Key × D)}{vs:List (Key × V)},DenK F l vs->(l.any fun kv=>decide (kv.1=k))=(vs.any fun kv=>decide (kv.1=k))
  | [],_,h=>by cases (show _=[] from h);rfl
  | (k',d') :: l,_,⟨v,r,e,h1,h2⟩=>by subst e;simp only [List.any_cons,DenK.any k h2]
theorem DenK.map {F:Hp}{k:Key}{d:D}{v:V} (hv:Den F d v):∀ {l:List (Key × D)}{vs:List (Key × V)},DenK F l vs->DenK F (l.map fun kv=>if kv.1=k then (kv.1,d) else kv) (vs.map fun kv=>if kv.1=k then (kv.1,v) else kv)
  | [],_,h=>by cases (show _=[] from h);exact rfl
  | (k',d') :: l,_,⟨u,r,e,h1,h2⟩=>by
    subst e
    by_cases c:k'=k
    . simp only [List.map_cons,c,if_true];exact ⟨v,_,rfl,hv,DenK.map hv h2⟩
    . simp only [List.map_cons,c,if_false];exact ⟨u,_,rfl,h1,DenK.map hv h2⟩
theorem DenK.app {F:Hp}{m:List (Key × D)}{us:List (Key × V)} (hm:DenK F m us):∀ {l:List (Key × D)}{vs:List (Key × V)},DenK F l vs->DenK F (l ++ m) (vs ++ us)
  | [],_,h=>by cases (show _=[] from h);exact hm
  | (k',d') :: l,_,⟨u,r,e,h1,h2⟩=>by subst e;exact ⟨u,_,rfl,h1,DenK.app hm h2⟩
theorem DenK.put {F:Hp}{k:Key}{d:D}{v:V}{l:List (Key × D)}{vs:List (Key × V)} (h:DenK F l vs) (hv:Den F d v):DenK F (putKD l k d) (putK vs k v):=by
  unfold putKD putK
  rw [DenK.any k h]
  split
  . exact DenK.map hv h
  . exact DenK.app (show DenK F [(k,d)] [(k,v)] from ⟨v,[],rfl,hv,rfl⟩) h
theorem Ll {F:Hp}{r:List Addr}{σ:St}{H:Hp}{env:DEnv}{bx:List Bx} (R:Rel T F r σ H env bx) {w:W}{v:V} (d:DenW F r w v) {l:List (Key × D)} (e:rdW bx w=some (.dic l)):∃ a kvs,v=.ref a /\ H a=some (.dK kvs) /\ DenK F l kvs:=by
  cases w with
  | d x =>
    cases (show some x=some (.dic l) from e)
    obtain ⟨a,vs,rfl,h1,h2⟩:=d
    exact ⟨a,vs,rfl,R.fh _ _ h1,h2⟩
  | b n =>
    obtain ⟨a,rfl,ha⟩:=d
    obtain ⟨c,hc,kc⟩:=R.bat ha
    simp only [rdW,hc] at e
    cases c with
    | dic l' =>
      cases e
      obtain ⟨_,vs,h1,h2⟩:=kc
      exact ⟨a,vs,rfl,h1,h2⟩
    | lst l'=>cases e
    | dead=>cases e
  | s l'=>cases e
  | x i=>cases e
noncomputable def dDGet (m k:DE W):DE W:=fun env bx=>fE (m env bx) fun x bx1=>fE (k env bx1) fun y bx2=>match y,rdW bx2 x with
  | .d d,some (.dic l)=>(match (keyD d).bind (getK l) with | some u=>.val (.d u) bx2 | none=>.bad)
  | _,_=>.bad
theorem N6 {σ:St}{H:Hp}{Q:VK} (h:tD T Z (dDGet ma mb) σ H Q):tDGet (tD T Z ma) (tD T Z mb) σ H Q:=by
  obtain ⟨F,r,env,bx,R,h⟩:=h
  refine ⟨F,r,env,bx,R,End.bind h fun x bx1 F1 r1 v H1 g1 R1 d1 h1=>⟨F1,r1,env,bx1,R1,End.bind h1 fun y bx2 F2 r2 u H2 g2 R2 d2 h2=>?_⟩⟩
  split at h2
  . rename_i d l q
    obtain ⟨a,kvs,rfl,k1,k2⟩:=Ll R2 (g2.den d1) q
    split at h2
    . rename_i w hw
      obtain ⟨k,e1,e2⟩:=Option.bind_eq_some_iff.mp hw
      cases Ax e1 d2
      obtain ⟨z,e3,e4⟩:=DenK.some k2 e2
      exact ⟨a,z,rfl,e3 ▸ DGet.k k1,h2 F2 r2 _ H2 (.refl F2 r2) R2 e4⟩
    . exact h2.elim
  . exact h2.elim
theorem F8 (hu:X.A.units + 1 < cLine) (ho:PD X T Z o ma) (hi:PD X T Z e mb) (hs:NoSl e):PD X T Z (.Subscript o e pos) (dDGet ma mb) :=
  PE.imp (Me hu ho hi hs) fun σ H Q h=>N6 h
noncomputable def dDIn (neg:Bool) (k m:DE W):DE W:=fun env bx=>fE (k env bx) fun y bx1=>fE (m env bx1) fun x bx2=>match y,rdW bx2 x with
  | .d d,some (.dic l)=>(match keyD d with | some k=>.val (.d (.bl (if neg then !(getK l k).isSome else (getK l k).isSome))) bx2 | none=>.bad)
  | _,_=>.bad
theorem OR {F:Hp}{l:List (Key × D)}{vs:List (Key × V)} (h:DenK F l vs) (k:Key):(valV vs k).isSome=(getK l k).isSome:=by
  cases q:getK l k with
  | none=>rw [DenK.none h q];rfl
  | some d=>obtain ⟨v,e,_⟩:=DenK.some h q;rw [e];rfl
theorem OT {σ:St}{H:Hp}{Q:VK} (h:tD T Z (dDIn false mb ma) σ H Q):tDIn (tD T Z mb) (tD T Z ma) σ H Q:=by
  obtain ⟨F,r,env,bx,R,h⟩:=h
  refine ⟨F,r,env,bx,R,End.bind h fun y bx1 F1 r1 u H1 g1 R1 d1 h1=>⟨F1,r1,env,bx1,R1,End.bind h1 fun x bx2 F2 r2 v H2 g2 R2 d2 h2=>?_⟩⟩
  split at h2
  . rename_i d l q
    obtain ⟨a,kvs,rfl,k1,k2⟩:=Ll R2 d2 q
    split at h2
    . rename_i k e1
      cases Ax e1 (g2.den (w:=.d d) d1)
      refine ⟨a,_,rfl,DGet.k k1,?_⟩
      rw [OR k2]
      exact h2 F2 r2 _ H2 (.refl F2 r2) R2 rfl
    . exact h2.elim
  . exact h2.elim
theorem Lm (hu:X.A.units + 1 < cLine) (hi:PD X T Z e mb) (ho:PD X T Z o ma) (hm:behindInMarks .In o=false):PD X T Z (.Compare e [.In] [o] pos) (dDIn false mb ma) :=
  PE.imp (Nb (NM hu hi ho) hm) fun σ H Q h=>OT h
noncomputable def sPut (m k v:DE W):DSt:=fun env bx=>bindS (v env bx) fun z bx1=>bindS (m env bx1) fun x bx2=>bindS (k env bx2) fun y bx3=>match x,y,z with
  | .b n,.d d,.d u=>(match bx3[n]?,keyD d with
    | some (.dic l),some k=>if l.length < sizeLine then .nx env (bx3.set n (.dic (putKD l k u))) else .bad
    | _,_=>.bad)
  | _,_,_=>.bad
theorem OU {σ:St}{H:Hp}{D:Ends} (h:tS T Z (sPut ma mb mc) D σ H):sDPut (tD T Z ma) (tD T Z mb) (tD T Z mc) D σ H:=by
  obtain ⟨F,r,env,bx,R,h⟩:=h
  refine ⟨F,r,env,bx,R,End.bindS h fun z bx1 F1 r1 t H1 g1 R1 d1 h1=>⟨F1,r1,env,bx1,R1,End.bindS h1 fun x bx2 F2 r2 v H2 g2 R2 d2 h2=>⟨F2,r2,env,bx2,R2,End.bindS h2 fun y bx3 F3 r3 u H3 g3 R3 d3 h3=>?_⟩⟩⟩
  split at h3
  . rename_i n d w
    obtain ⟨a,rfl,ha⟩:=(g3.den (w:=.b n) d2:DenW F3 r3 (.b n) v)
    obtain ⟨c,hc,kc⟩:=R3.bat ha
    rw [hc] at h3
    split at h3
    . rename_i l k e1 e2
      cases e1
      split at h3
      . rename_i hl
        obtain ⟨hF,kvs,k1,k2⟩:=kc
        cases Ax e2 d3
        have dz:Den F3 w t:=g3.den (w:=.d w) (g2.den (w:=.d w) d1)
        exact ⟨a,_,rfl,.inl ⟨kvs,k,k1,rfl,by rw [<-DenK.length k2];exact hl,rfl⟩,h3 F3 r3 _ _ (.refl F3 r3) (R3.write ha hF ⟨hF,_,fY,DenK.put k2 dz⟩)⟩
      . exact h3.elim
    . exact h3.elim
  . exact h3.elim
theorem Ln {value:Expr}{pos':Pos} (hu:X.A.units + 1 < cLine) (ho:PD X T Z o ma) (hi:PD X T Z e mb) (hv:PD X T Z value mc) (hs:swapsWith value (some (.Subscript o e pos')) pos.line X.env=pure false:=by rfl) :
    PSD X T Z (.Assign [.Subscript o e pos'] value pos) (sPut ma mb mc) :=
  PS.imp (Mf hu ho hi hv hs) fun D σ H h=>OU h
noncomputable def tDSet (td ty tx:TE):TE:=fun σ H Q=>td σ H fun x H1=>∃ a,x=.ref a /\ IsD H1 a /\ ty σ H1 fun y H2=>tx σ H2 fun z H3=>∃ kvs k,H3 a=some (.dK kvs) /\ y=kV k /\ kvs.length < sizeLine /\
  (∀ v,valV kvs k=some v->Q v H3) /\ (valV kvs k=none->Q z (upd H3 a (.dK (putK kvs k z))))
theorem MC {f:Expr}{td ty tx:TE}{cpos:Pos} (ho:PE X o td) (he:PE X e ty) (hf:PE X f tx) (m:M2 X o "setdefault" apos e f cpos):PE X (.Call (.Attribute o "setdefault" apos) [e,f] [] cpos) (tDSet td ty tx):=by
  intro pins s σ H Q I h
  refine wpAny_Call_method m.base m.few m.line PySem.F.plainAttrs_dict PySem.F.slot_dict_setdefault PySem.F.type_dict_setdefault (thn (ho pins s σ H _ I h) fun u s1 ⟨x,H1,I1,rx,a,ex,d,q1⟩=>?_)
  subst ex
  obtain rfl:u=Value.ref a:=rx
  obtain ⟨t1,t2,_⟩:=NO I1 d
  refine ⟨t1,t2,?_⟩
  rw [m.trees]
  refine Calls.callWith_builtin rfl (Calls.evalArgs_plain (Calls.spliced_cons (thn (he pins s1 σ H1 _ I1 q1) fun iv s2 ⟨y,H2,I2,ry,q2⟩ =>
    Calls.spliced_cons (thn (hf pins s2 σ H2 _ I2 q2) fun fv s3 ⟨z,H3,I3,rz,kvs,k,ea,ey,el,q3,q4⟩=>Calls.spliced_nil ?_))))
  subst ey
  obtain ⟨zl,hd,vs,rel,dd⟩:=JD I3.hok ea
  refine call_meetsIn PySem.F.slot_dict_setdefault dd.typeIs PySem.F.entry_dict_setdefault (PySem.F.args_dict_setdefault_3 _ _ _) (kt_meets_setdefault (mixKind X.prog X.w) a (By ry) hd fv) ⟨vs,dd,by rw [<-rel.length];exact zl,fun v hv=>?_,fun hn h' dd' hs=>?_⟩
  . cases l:valV kvs k with
    | none=>have hno:valueAt vs k=none:=RelO.none_of (by rw [<-l];exact rel.val k);rw [hv] at hno;cases hno
    | some v' =>
      obtain ⟨w',hw,rw'⟩:=RelO.some_of (v:=v') (o:=valueAt vs k) (by rw [<-l];exact rel.val k)
      rw [hv] at hw
      cases hw
      exact ⟨v',H3,I3.tok _,rw',q3 v' l⟩
  . have l:valV kvs k=none:=by
      cases l:valV kvs k with
      | none=>rfl
      | some v' =>
        obtain ⟨w',hw,rw'⟩:=RelO.some_of (v:=v') (o:=valueAt vs k) (by rw [<-l];exact rel.val k)
        rw [hn] at hw
        cases hw
    have he:∃ q,h'.get? a=some q:=let ⟨q,_,_,hq,_⟩:=dd';⟨q,hq⟩
    have hl:(putK kvs k z).length <= sizeLine:=by have:=lC kvs k z;omega
    exact ⟨z,_,Aq I3 (by rw [ea];exact True.intro) hs he (DI hl hd (rel.put k rz) dd'),rz,q4 l⟩
noncomputable def dSetD (m k v:DE W):DE W:=fun env bx=>fE (m env bx) fun x bx1=>match x with
  | .b n=>(match bx1[n]? with
    | some (.dic _)=>fE (k env bx1) fun y bx2=>fE (v env bx2) fun z bx3=>(match y,z,bx3[n]? with
      | .d d,.d u,some (.dic l)=>(match keyD d with
        | some k=>if l.length < sizeLine then (match getK l k with | some w=>.val (.d w) bx3 | none=>.val (.d u) (bx3.set n (.dic (putKD l k u)))) else .bad
        | none=>.bad)
      | _,_,_=>.bad)
    | _=>.bad)
  | _=>.bad
theorem N7 {σ:St}{H:Hp}{Q:VK} (h:tD T Z (dSetD ma mb mc) σ H Q):tDSet (tD T Z ma) (tD T Z mb) (tD T Z mc) σ H Q:=by
  obtain ⟨F,r,env,bx,R,h⟩:=h
  refine ⟨F,r,env,bx,R,End.bind h fun x bx1 F1 r1 v H1 g1 R1 d1 h1=>?_⟩
  cases x with
  | d _=>exact h1.elim
  | s _=>exact h1.elim
  | x _=>exact h1.elim
  | b n =>
    simp only at h1
    obtain ⟨a,rfl,ha⟩:=d1
    obtain ⟨c,hc,kc⟩:=R1.bat ha
    rw [hc] at h1
    cases c with
    | lst _=>exact h1.elim
    | dead=>exact h1.elim
    | dic l0 =>
      obtain ⟨_,vs0,k0,_⟩:=kc
      refine ⟨a,rfl,.inl ⟨vs0,.inl k0⟩,F1,r1,env,bx1,R1,End.bind h1 fun y bx2 F2 r2 u H2 g2 R2 d2 h2=>⟨F2,r2,env,bx2,R2,End.bind h2 fun z bx3 F3 r3 t H3 g3 R3 d3 h3=>?_⟩⟩
      obtain ⟨t1,et1⟩:=g2.p
      obtain ⟨t2,et2⟩:=g3.p
      have ha2:r2[n]?=some a:=by rw [<-et1,List.getElem?_append_left (List.getElem?_eq_some_iff.mp ha).1];exact ha
      have ha3:r3[n]?=some a:=by rw [<-et2,List.getElem?_append_left (List.getElem?_eq_some_iff.mp ha2).1];exact ha2
      obtain ⟨c2,hc2,kc2⟩:=R3.bat ha3
      rw [hc2] at h3
      split at h3
      . rename_i d w l eq
        cases eq
        obtain ⟨hF,vs,k1,k2⟩:=kc2
        split at h3
        . rename_i k e1
          cases Ax e1 (g3.den (w:=.d d) d2)
          split at h3
          . rename_i hl
            refine ⟨vs,k,k1,rfl,by rw [<-DenK.length k2];exact hl,fun v' hv'=>?_,fun hn=>?_⟩
            . split at h3
              . rename_i w' hw'
                obtain ⟨v2,e2,e3⟩:=DenK.some k2 hw'
                rw [hv'] at e2
                cases e2
                exact h3 F3 r3 _ H3 (.refl F3 r3) R3 e3
              . rename_i hw'
                rw [DenK.none k2 hw'] at hv'
                cases hv'
            . split at h3
              . rename_i w' hw'
                obtain ⟨v2,e2,e3⟩:=DenK.some k2 hw'
                rw [hn] at e2
                cases e2
              . exact h3 F3 r3 _ _ (.refl F3 r3) (R3.write ha3 hF ⟨hF,_,fY,DenK.put k2 d3⟩) d3
          . exact h3.elim
        . exact h3.elim
      . exact h3.elim
theorem MD {f:Expr} (ho:PD X T Z o ma) (ha:PD X T Z e mb) (hf:PD X T Z f mc) (hns:nst e=true:=by rfl) (hnf:nst f=true:=by rfl)
    (hbase:attributeBase o "setdefault" X.env (eval o X.env)=eval o X.env:=by rfl)
    (hfew:((backTo pos (starEach [e,f] X.env)).all (fun x=>!x.1) && (backToKw pos (keywordEach [] X.env)).all (fun x=>x.1.isSome)
      && decide ([e,f].length + ([]:List Keyword).length + (if ([]:List Keyword).isEmpty then 0 else 1) < 30))=true:=by rfl)
    (hline:(apos.endLine == pos.line)=true:=by rfl) (ht:backTo pos (starEach [e,f] X.env)=[(false,eval e X.env),(false,eval f X.env)]:=by rfl):PD X T Z (.Call (.Attribute o "setdefault" apos) [e,f] [] pos) (dSetD ma mb mc) :=
  PE.imp (MC ho ha hf ⟨hbase,hfew,hline,ht⟩) fun σ H Q h=>N7 h
end
end L2.DL
set_option Elab.async false
set_option linter.all false
set_option maxRecDepth 100000
set_option maxHeartbeats 1000000
namespace L2
open PySem PySem.Spec PyProof.Rows
noncomputable def Ite (K:PySem.W.Frag) (a:Addr):It :=
  ⟨fun i H=>∃ (xs:List V) (x:V),SqL K H a xs /\ xs[i]?=some x,
   fun i H w H'=>∀ (xs:List V),SqL K H a xs->∃ (p:Addr) (x:V),xs[i]?=some x /\ H p=none /\ w=.ref p /\ H'=upd H p (.tup [.int (i:Nat),x]),
   fun i H=>∃ (xs:List V),SqL K H a xs /\ i=xs.length⟩
theorem G0 {P:Program}{w:World}{K:PySem.W.Frag}{elts:List Expr}{kt:Nat}{tp:Pos}{n a:Addr} :
    Turn P w K (.Tuple elts kt tp) (Ite K a) [n + 1,n] (n + 1) (fun i h=>(∃ old,IsEnum h (n + 1) n (i:Nat) old) /\ h.IsListIter n a i) where
  mem:=by simp
  obj:=fun i h st c hc=>by
    obtain ⟨⟨old,z1⟩,⟨o4,e4,c4,d4⟩⟩:=st
    simp only [List.mem_cons,List.not_mem_nil,or_false] at hc
    rcases hc with rfl | rfl
    . exact ⟨_,z1,fun v z=>by cases z⟩
    . exact ⟨o4,e4,fun v z=>by rw [d4] at z;cases z⟩
  keep:=fun i h h' st k=>by
    obtain ⟨⟨old,z1⟩,z4⟩:=st
    exact ⟨⟨old,k _ (by simp) _ z1⟩,z4.at fun o e=>k _ (by simp) o e⟩
  item:=by
    intro X hP hw hK hc i pins s σ H E I hf st hg
    subst hP hw hK
    obtain ⟨xs,x,q1,e1⟩:=hg
    obtain ⟨⟨old,z1⟩,z4⟩:=st
    obtain ⟨i1,r1,p1,l1⟩:=I.list q1
    have hx:=(List.getElem?_eq_some_iff.mp e1).1
    obtain ⟨w1,f1,g1⟩:=r1.get e1
    have ne1:(n + 1:Nat) ≠ n:=Nat.succ_ne_self n
    refine wpAny_pyNext_enum_item z1 z4 p1.isList (x:=w1) (by simpa using f1) ne1 fun h' b1 b2 b3 b4 b5=>⟨_,rfl,?_⟩
    refine wpAny_letOwnedTupleGo_enum b1 fun h2 hz2 hs2=>?_
    have zlt:(n + 1:Nat) < s.heap.objs.size:=Heap.lt_size z1
    have hT2:h2.get? s.heap.objs.size=some { cls:=.type "tuple",data:=.seq #[.int i s.toks,w1] }:=hs2.extBut _ _ (Nat.ne_of_gt zlt) b3
    have nw:H s.heap.objs.size=none:=I.hok.fresh (Nat.le_refl _)
    have I2:Inv X pins σ (upd H s.heap.objs.size (.tup [.int (i:Nat),x])) { s with heap:=h2,toks:=s.toks + 1 }:=by
      refine I.turnedL (ch:=[n + 1,n]) hf (fun c o hcc e=>?_) (Nat.le_refl _) ?_
      . simp only [List.mem_cons,List.not_mem_nil,or_false,not_or] at hcc
        exact hs2.extBut _ _ hcc.1 (b5 c o hcc.1 hcc.2 e)
      . exact ⟨by show 2 <= sizeLine;decide,[.int i s.toks,w1],.cons ⟨_,rfl⟩ (.cons g1 .nil),⟨_,hT2,rfl,_,rfl⟩⟩
    refine ⟨.ref s.heap.objs.size,_,I2,rfl,fun xs' y1=>⟨_,x,by rw [I.list_inj y1 q1];exact e1,nw,rfl,rfl⟩,⟨⟨_,by have:=hz2;push_cast;exact this⟩,?_⟩,fun c hcc=>?_⟩
    . exact b2.at fun o e=>hs2.extBut _ _ (Ne.symm ne1) e
    . rw [fX]
      . exact (hf c hcc).1
      . intro z
        subst z
        simp only [List.mem_cons,List.not_mem_nil,or_false] at hcc
        rcases hcc with q | q
        . exact absurd q (Nat.ne_of_gt zlt)
        . exact absurd q (Nat.ne_of_gt (Nat.lt_of_succ_lt zlt))
  done:=by
    intro X hP hw hK hc i pins s σ H E I hf st hg
    subst hP hw hK
    obtain ⟨xs,q1,hk⟩:=hg
    obtain ⟨⟨old,z1⟩,z4⟩:=st
    obtain ⟨i1,r1,p1,l1⟩:=I.list q1
    refine wpAny_pyNext_enum_end (I.ok.hd hc) z1 z4 p1.isList (by simp [<-r1.length,hk]) fun h' eb=>⟨rfl,I.turnedM (t':=s.toks) (ch:=[n + 1,n]) hf fun c o hcc e=>?_⟩
    simp only [List.mem_cons,List.not_mem_nil,or_false,not_or] at hcc
    exact eb c o hcc.2 e
  self:=fun _ _ _ _ _ st h=>wpAny_pyIter_enum st.1.choose_spec h
noncomputable def iEnum (K:PySem.W.Frag) (ta:TA):TI:=fun σ H R=>ta σ H fun vs H2=>∃ (p:Addr) (xs:List V),vs=[.ref p] /\ SqL K H2 p xs /\ R (Ite K p) H2
theorem ME {X:Cx}{a:Expr}{ta:TA}{p pos tp:Pos}{elts:List Expr}{kt:Nat} (hg:Gl X "enumerate") (hm:X.mg "enumerate"=none) (ha:PA X [a] ta) (hs:starEach [a] X.env=[(false,eval a X.env)]:=by rfl) :
    PI X (.Tuple elts kt tp) (.Call (.Name "enumerate" p) [a] [] pos) (iEnum X.K ta):=by
  intro pins s σ H R I h
  refine wpAny_Call_Name_kw (lW I hg hm (by decide +kernel:bootBuiltins "enumerate"=some (.type "enumerate")) ?_)
  refine PyProof.Rows.callWith_type1 (thn (ha pos pins s σ H _ I h) fun us s1 ⟨vs,H2,I2,r2,q⟩=>?_) hs rfl
  obtain ⟨x,xs,rfl,hx,q⟩:=q
  obtain ⟨u,rfl,ru⟩:=r2.one
  cases ru
  obtain ⟨i1,r1,p1,_⟩:=I2.list hx
  refine call_enumerate_list p1.isList fun h' b1 b2 b3 b4=>?_
  refine wpAny_pyIter_enum b1 ?_
  refine ⟨s1.heap.objs.size + 1,_,_,_,H2,rfl,I2.kept (t':=s1.toks) b4,G0,⟨⟨_,b1⟩,b2⟩,fun c hc=>?_,q⟩
  have hle:s1.heap.objs.size <= c:=by
    simp only [List.mem_cons,List.not_mem_nil,or_false] at hc
    rcases hc with z | z <;> (rw [z];first | exact Nat.le_refl _ | exact Nat.le_add_right _ _)
  exact I2.fpOk hle (I2.hok.fresh hle)
end L2
theorem L2.Room.units1 {k:Nat}{A:PySem.Around} (r:L2.Room k A):A.units + 1 < PySem.cLine:=by have:=r.un;omega
namespace L2.DL
open PySem PySem.Spec PyProof.Rows
section
variable {X : Cx} {T : Fr} {Z : Xs} {a : Expr} {p pos tp : Pos} {elts : List Expr} {kt : Nat} {k : DE (List W)}
noncomputable def enumW:Nat->List D->List W
  | _,[]=>[]
  | n,x :: l=>.d (.tup [.int (n:Nat),x]) :: enumW (n + 1) l
theorem BH:∀ (n:Nat) (l:List D),(enumW n l).length=l.length
  | _,[]=>rfl
  | n,_ :: l=>by simp only [enumW,List.length_cons,BH (n + 1) l]
theorem BI:∀ {l:List D}{n i:Nat}{w:W},(enumW n l)[i]?=some w->∃ x,l[i]?=some x /\ w=.d (.tup [.int ((n + i:Nat):Int),x])
  | [],_,_,_,e=>by simp [enumW] at e
  | x :: l,n,0,w,e=>by simp [enumW] at e;exact ⟨x,rfl,e.symm⟩
  | x :: l,n,i + 1,w,e=>by
    obtain ⟨y,h1,h2⟩:=BI (l:=l) (n:=n + 1) (i:=i) (w:=w) (by simpa [enumW] using e)
    refine ⟨y,by simpa using h1,?_⟩
    rw [h2,show n + 1 + i=n + (i + 1) by omega]
noncomputable def dEnum (k:DE (List W)):DE (List W):=fun env bx=>fE (k env bx) fun ws bx1=>match ws with
  | [.d (.lst l)]=>.val (enumW 0 l) bx1
  | _=>.bad
theorem Dg {K:PySem.W.Frag}{F:Hp}{r:List Addr}{p:Addr}{vs:List V}{l:List D} (hp:F p=some (.lst vs)) (dl:DenL F l vs):Yields F r (enumW 0 l) (Ite K p):=by
  intro T i F1 r1 σ1 H1 env1 bx1 g R
  have s1:SqL K H1 p vs:=.of (R.fh _ _ (g.s _ _ hp))
  have e1:=dl.length
  refine ⟨fun hl=>?_,fun w e=>?_⟩
  . rw [BH] at hl
    exact ⟨vs,s1,by omega⟩
  . obtain ⟨x,h1,rfl⟩:=BI e
    rw [Nat.zero_add]
    obtain ⟨v,f1,d1⟩:=dl.get h1
    refine ⟨⟨vs,v,s1,f1⟩,fun w H2 hy=>?_⟩
    obtain ⟨a,v',g1,ha,rfl,rfl⟩:=hy vs s1
    rw [f1] at g1;cases g1
    have gr:=R.growD (o:=.tup [.int (i:Nat),v]) ha
    exact ⟨_,gr,R.allocD ha,a,[.int (i:Nat),v],rfl,fY,.cons (show Den _ (.int (i:Nat)) (.int (i:Nat)) from rfl) (.cons (Den.mono (g.trans gr).s x d1) .nil)⟩
theorem Lo (hg:Gl X "enumerate") (hm:X.mg "enumerate"=none) (ha:PDA X T Z [a] k) (hs:starEach [a] X.env=[(false,eval a X.env)]:=by rfl) :
    PID X T Z (.Tuple elts kt tp) (.Call (.Name "enumerate" p) [a] [] pos) (dEnum k):=by
  refine PI.imp (ME hg hm ha hs) fun σ H Q ⟨F,r,env,bx,R,h⟩=>?_
  refine ⟨F,r,env,bx,R,End.bind h fun ws bx1 F1 r1 vs H1 g1 R1 d1 h1=>?_⟩
  split at h1
  . rename_i l
    obtain ⟨v,t,rfl,⟨p,us,rfl,k1,k2⟩,rt⟩:=d1
    cases (show t=[] from rt)
    exact ⟨p,us,rfl,.of (R1.fh _ _ k1),h1 F1 r1 _ H1 (.refl F1 r1) R1 (Dg k1 k2)⟩
  . exact h1.elim
noncomputable def dDicV (bo:Bool) (k:Int) (i:Nat):DE W:=fun env bx=>match env[i]? with
  | some (some (.d d))=>resO bo (some (.dic [(.inl k,d)])) bx
  | _=>.bad
theorem MF (bo:Bool) (i:Nat) {k:Int}{x:Str}{j1:Nat}{q1 vpos:Pos} (hv:okV X.N X.env.scope i x=true):PD X T Z (.Dict [some (.Constant (.int k) j1 q1)] [.Name x vpos] pos) (dDicV bo k i):=by
  simp only [okV,Bool.and_eq_true,Bool.or_eq_true,decide_eq_true_eq,Bool.not_eq_true'] at hv
  obtain ⟨⟨⟨h1,h2⟩,h3⟩,h4⟩:=hv
  have h5:Vis X.env.scope x:=by
    rcases h2 with (h2 | h2) | h2
    . exact .inl h2
    . exact .inr (.inl h2)
    . exact .inr (.inr h2)
  refine PE.imp (FF (CP Ay (Ds h1 h5 h3 h4) FE) rfl rfl (by simp) (by simp)) fun σ H Q ⟨F,r,env,bx,R,h⟩=>?_
  unfold dDicV at h
  split at h
  . rename_i d he
    obtain ⟨v,e1,e2⟩:=R.slot i _ he
    intro p hp
    refine ⟨v,e1,fY,[(.inl k,v)],rfl,by simp,?_⟩
    rw [Ft]
    exact jg R h ⟨p,[(.inl k,v)],rfl,hp,rfl,⟨_,_,rfl,e2,rfl⟩⟩
  . exact h.elim
theorem Lp {a b:Expr}{ks:DE (List W)}{x y:Str}{px py pt:Pos}{kt k2 pt2} (i j:Nat) (hc:X.calm=true) (hN:X.N.Nodup) (ha:PDA X T Z [a,b] ks) (hi:X.N[i]?=some x:=by rfl) (hj:X.N[j]?=some y:=by rfl)
    (hx:Loc X.env.scope x:=by first | exact Or.inl rfl | exact Or.inr rfl) (hy:Loc X.env.scope y:=by first | exact Or.inl rfl | exact Or.inr rfl)
    (hfx:X.fn x=true \/ X.env.scope.names.lookup x=some .local:=by first | exact .inl rfl | exact .inr rfl) (hfy:X.fn y=true \/ X.env.scope.names.lookup y=some .local:=by first | exact .inl rfl | exact .inr rfl)
    (hs:swapsWithSole [.Tuple [.Name x px,.Name y py] kt pt] (.Tuple [a,b] k2 pt2) pos.line X.env=pure false:=by rfl)
    (hw:swappedStores [.Tuple [.Name x px,.Name y py] kt pt] (.Tuple [a,b] k2 pt2) X.env=pure none:=by rfl)
    (h0:(assignEach [.Tuple [.Name x px,.Name y py] kt pt] X.env).map (·.2)=[assign (.Tuple [.Name x px,.Name y py] kt pt) X.env]:=by rfl)
    (h1:(assignEach [.Name x px,.Name y py] X.env).map (·.2)=assign (.Name x px) X.env :: (assignEach [.Name y py] X.env).map (·.2):=by rfl)
    (h2:(assignEach [.Name y py] X.env).map (·.2)=assign (.Name y py) X.env :: (assignEach [] X.env).map (·.2):=by rfl)
    (hn:(assignEach [.Name x px,.Name y py] X.env).length=2:=by rfl) (hst:(assignEach [.Name x px,.Name y py] X.env).findIdx? (·.1)=none:=by rfl) :
    PSD X T Z (.Assign [.Tuple [.Name x px,.Name y py] kt pt] (.Tuple [a,b] k2 pt2) pos) (sPar i j ks):=by
  refine PS.imp (G8 (Jd ha) (G7 hc (Az (BO hN hi hx hfx) (Az (BO hN hj hy hfy) Fv h2) h1) hn hst) hs hw h0) fun D σ H ⟨F,r,env,bx,R,h⟩=>?_
  refine ⟨F,r,env,bx,R,End.bindS h fun ws bx1 F1 r1 vs H1 g1 R1 d1 h1=>?_⟩
  split at h1
  . obtain ⟨v,t,rfl,q1,u,t2,rfl,q2,q3⟩:=d1
    cases (show t2=[] from q3)
    refine ⟨by show 2 <= sizeLine;decide,fun p hp=>?_⟩
    have gr:=R1.growD (o:=.tup [v,u]) hp
    exact ⟨p,[v,u],rfl,SqT.of fY,rfl,v,[u],rfl,u,[],rfl,rfl,h1 _ r1 _ _ gr (((R1.allocD hp).set (gr.den q1) i).set (gr.den q2) j)⟩
  . exact h1.elim
theorem locB {sc:Scope}{x:Str} (h:(decide (sc.names.lookup x=some .local) || decide (sc.names.lookup x=some .cell))=true):Loc sc x:=by
  rw [Bool.or_eq_true,decide_eq_true_eq,decide_eq_true_eq] at h
  exact h
theorem fnB {b:Bool}{sc:Scope}{x:Str} (h:(b || decide (sc.names.lookup x=some .local))=true):b=true \/ sc.names.lookup x=some .local:=by
  rw [Bool.or_eq_true,decide_eq_true_eq] at h
  exact h
end
end L2.DL
set_option Elab.async false
set_option linter.all false
set_option maxRecDepth 100000
set_option maxHeartbeats 4000000
namespace K52
open PySem PySem.Spec PyProof.Rows L2 L2.DL
noncomputable def i8:DSt:=(fu (fJ (dN false tupleD (fb (ge false [none,some 0] (dRng1 (fb (d2 false fB (dC (.int 1)) (fk K1.ff 2 (fb (dV 0) (fb (dC (.int 5)) fc)))) fc)) (fe 0) fZ (fk K1.ff 2 (fb (dV 1) (fb (dC (.int 4)) fc)))) fc)) (fe 1)) (fu (fJ (fS true fc) (fe 2)) (fu (gI (dRng1 (fb (d2 false fB (dC (.int 1)) (fk K1.ff 2 (fb (dV 0) (fb (d2 false ixD (fS false (fb (dC (.int 1)) (fb (dC (.int 2)) (fb (dC (.int 4)) fc)))) (fk K1.ff 2 (fb (dV 0) (fb (dC (.int 3)) fc)))) fc)))) fc)) (fe 3) (fu (fJ (dN false sortA (fb (ge false [none,some 0] (dRng1 (fb (dC (.int 4)) fc)) (fe 0) fZ (fk K1.ff 2 (fb (dV 1) (fb (d2 false ixD (fS false (fb (dC (.int 2)) (fb (dC (.int 4)) (fb (dC (.int 10)) fc)))) (fk K1.ff 2 (fb (dV 1) (fb (dC (.int 3)) fc)))) fc)))) fc)) (fe 4)) (gR (dApp (dV 2) (fF (fb (d2 false ixD (fS false (fb (dC (.int 5)) (fb (dC (.int 40)) (fb (dC (.int 300)) (fb (dC (.int 999)) fc))))) (fk K1.ff 2 (fb (dV 0) (fb (dC (.int 4)) fc)))) (fb (dN false tupleD (fb (dRev false (dV 4)) fc)) fc))))))) (fu (fJ (fS true fc) (fe 5)) (fu (gI (dRng1 (fb (dN false lenD (fb (dV 2) fc)) fc)) (fe 6) (gI (dRng2 (fb (d2 false fB (dV 6) (dC (.int 1))) (fb (dN false lenD (fb (dV 2) fc)) fc))) (fe 7) (sIf (dB (d2 false eqD (fk K1.ff 2 (fb (dV 0) (fb (dC (.int 3)) fc))) (dC (.int 0)))) (gR (dApp (dV 5) (fF (fb (dV 6) (fb (dV 7) fc))))) sNil))) (fM (fF (fb (dV 1) (fb (dN false tupleD (fb (dV 2) fc)) (fb (dN false tupleD (fb (dV 5) fc)) (fb (d2 false fB (dC (.int 1)) (fk K1.ff 2 (fb (dV 0) (fb (d2 false ixD (fS false (fb (dC (.int 3)) (fb (dC (.int 9)) fc))) (fk K1.ff 2 (fb (dV 0) (fb (dC (.int 2)) fc)))) fc)))) fc)))))))))))
noncomputable def gC:List W->List Bx->O W:=fnD 8 (noX i8)
noncomputable def lF:DSt:=(fu (sPar 2 3 (fb (dN false lenD (fb (d2 false ixD (dV 1) (dC (.int 0))) fc)) (fb (fS true fc) fc))) (fu (gI (dRng1 (fb (dIf (dB (d2 false gtI (dV 2) (dC (.int 1)))) (fk K1.ff 2 (fb (dV 0) (fb (dC (.int 11)) fc))) (dC (.int 0))) fc)) (fe 4) (fu (fJ (fk K1.ff 2 (fb (dV 0) (fb (dV 2) fc))) (fe 5)) (fu (fJ (d2 false modD (d2 false fB (d2 false fB (dV 5) (dC (.int 1))) (fk K1.ff 2 (fb (dV 0) (fb (d2 false subD (dV 2) (dC (.int 1))) fc)))) (dV 2)) (fe 6)) (fu (gR (dApp (dV 3) (fF (fb (dV 5) (fb (dV 6) fc))))) (sIf (dB (d2 false eqD (fk K1.ff 2 (fb (dV 0) (fb (dC (.int 5)) fc))) (dC (.int 0)))) (fJ (fF (fb (d2 false ixD (d2 false ixD (dV 3) (dC (.int 0))) (dC (.int 1))) (fb (d2 false ixD (d2 false ixD (dV 3) (dC (.int 0))) (dC (.int 0))) fc))) (gdSub (dV 3) (dNeg (dC (.int 1))))) sNil))))) (fM (dFrz 3))))
noncomputable def iQ:List W->List Bx->O W:=fnD 7 (noX lF)
noncomputable def lG:DSt:=(fu (fJ (dN true listD (fb (dV 1) fc)) (fe 2)) (fM (ge false [none,some 2,some 0] (dIter (dV 1)) (fe 0) fZ (dPopAt (dV 1) (fk K1.ff 2 (fb (dV 2) (fb (dN false lenD (fb (dV 1) fc)) fc)))))))
noncomputable def iR:List W->List Bx->O W:=fnD 3 (noX lG)
noncomputable def mE:DSt:=(fu (sPar 3 4 (fb (dN false listD (fb (dV 2) fc)) (fb (fk K1.ff 2 (fb (dV 0) (fb (dC (.int 7)) fc))) fc))) (fu (sPar 5 6 (fb (fk K1.ff 2 (fb (dV 0) (fb (d2 false fB (dN false lenD (fb (dV 3) fc)) (dC (.int 1))) fc))) (fb (fk K1.ff 2 (fb (dV 0) (fb (d2 false fB (dN false lenD (fb (dV 3) fc)) (dC (.int 1))) fc))) fc))) (fu (sIf (dB (d2 false eqD (dV 4) (dC (.int 0)))) (fM (d2 false fB (dSl false (dV 3) dNo (dPart (dV 5))) (dSl false (dV 3) (dPart (d2 false fB (dV 5) (dC (.int 1)))) dNo))) sNil) (fu (sIf (dB (d2 false eqD (dV 4) (dC (.int 1)))) (fM (d2 false fB (d2 false fB (dSl false (dV 3) dNo (dPart (dV 5))) (fS false (fb (d2 false subD (fk K1.ff 2 (fb (dV 0) (fb (d2 false fB (dV 1) (dC (.int 2))) fc))) (dN false intD (fb (d2 false eqD (fk K1.ff 2 (fb (dV 0) (fb (dC (.int 6)) fc))) (dC (.int 0))) fc))) fc))) (dSl false (dV 3) (dPart (dV 5)) dNo))) sNil) (fu (sIf (dB (d2 false eqD (dV 4) (dC (.int 2)))) (fM (d2 false fB (d2 false fB (dSl false (dV 3) dNo (dPart (dV 5))) (fS false (fb (fk K1.gu 1 (fb (dV 0) fc)) fc))) (dSl false (dV 3) (dPart (d2 false fB (dV 5) (dC (.int 1)))) dNo))) sNil) (fu (sIf (dB (d2 false eqD (dV 4) (dC (.int 3)))) (fM (d2 false fB (dSl false (dV 3) (dPart (dV 5)) dNo) (dSl false (dV 3) dNo (dPart (dV 5))))) sNil) (fu (sIf (dB (d2 false eqD (dV 4) (dC (.int 4)))) (fM (d2 false fB (dSl false (dV 3) dNo (dPart (dV 5))) (dSl false (dV 3) (dPart (dV 6)) dNo))) sNil) (fM (dIf (dB (d2 false eqD (dV 4) (dC (.int 5)))) (dRev false (dV 3)) (dN false tupleD (fb (dV 3) fc)))))))))))
noncomputable def gm:List W->List Bx->O W:=fnD 7 (noX mE)
noncomputable def j5:DSt:=(fu (sIf (dOr (dNot (dB (ic "list" (dV 2)))) (dNot (dB (dN false allD (fb (ge false [none,some 1] (dIter (dV 2)) (fe 0) fZ (fk K1.gb 3 (fb (dV 0) (fb (dC (.int 0)) (fb (dV 1) fc))))) fc))))) (fM (dC (.bl false))) sNil) (fu (gI (dIter (dV 0)) (ia 2 (fH (fe 3) (fH (fe 4) iu))) (sIf (dOr (dB (d2 false (inD true) (dV 3) (dV 2))) (dB (d2 false (inD true) (dV 4) (dSl false (dV 2) (dPart (dIndex (dV 2) (dV 3))) dNo)))) (fM (dC (.bl false))) sNil)) (fM (dC (.bl true)))))
noncomputable def iC:List W->List Bx->O W:=fnD 5 (noX j5)
noncomputable def iq:DSt:=(sIf (dNot (dB (fk K1.gT 1 (fb (dV 0) fc)))) sBad sNil)
noncomputable def iB:List W->List Bx->O W:=fnD 1 (noX iq)
noncomputable def og:DSt:=(fM (gE (fk K1.fU 3 (fb (dV 1) (fb (dC (.int 2)) (fb (dC (.int 2)) fc)))) (gE (dN false allD (fb (ge false [none,some 0] (dIter (dV 1)) (fe 0) fZ (fk K2.gG 2 (fb (dV 1) (fb (dV 0) fc)))) fc)) (d2 false neD (d2 false ixD (dV 1) (dC (.int 0))) (d2 false ixD (dV 1) (dC (.int 1)))))))
noncomputable def jv:List W->List Bx->O W:=fnD 2 (noX og)
noncomputable def lH:DSt:=(fM (gE (ic "list" (dV 1)) (gE (d2 false leD (dN false lenD (fb (dV 1) fc)) (dC (.int 10))) (dN false allD (fb (ge false [none,some 0] (dIter (dV 1)) (fe 0) fZ (fk K52.jv 2 (fb (dV 1) (fb (dV 0) fc)))) fc)))))
noncomputable def j6:List W->List Bx->O W:=fnD 2 (noX lH)
noncomputable def jn:DSt:=(fu (gR (fk K52.iB 1 (fb (dV 0) fc))) (sIf (dNot (dB (fk K52.j6 2 (fb (dV 0) (fb (dV 1) fc))))) sBad sNil))
noncomputable def iY:List W->List Bx->O W:=fnD 2 (noX jn)
noncomputable def lS:DSt:=(fu (gR (fk K52.iY 2 (fb (dV 0) (fb (dV 1) fc)))) (fu (sIf (dOr (dNot (dB (ic "list" (dV 2)))) (dNot (dB (dN false allD (fb (ge false [none,some 0] (dIter (dV 2)) (fe 0) fZ (fk K2.gG 2 (fb (dV 1) (fb (dV 0) fc)))) fc))))) (fM (dC (.bl false))) sNil) (fu (sPar 3 4 (fb (dDic true []) (fb (dDic true []) fc))) (fu (gI (dEnum (fb (dV 2) fc)) (ia 2 (fH (fe 5) (fH (fe 6) iu))) (fu (gR (dSetD (dV 3) (dV 6) (dV 5))) (sPut (dV 4) (dV 6) (dV 5)))) (fM (dN false allD (fb (ge false [none,none,some 3,some 4] (dIter (dV 1)) (ia 2 (fH (fe 0) (fH (fe 1) iu))) fZ (gE (dDIn false (dV 0) (dV 2)) (gE (dDIn false (dV 1) (dV 2)) (d2 false ltD (dDGet (dV 2) (dV 0)) (dDGet (dV 3) (dV 1)))))) fc)))))))
noncomputable def jw:List W->List Bx->O W:=fnD 7 (noX lS)
noncomputable def Ai:DSt:=(fu (gI (dRng1 (fb (dN false maxD (fb (dC (.int 1)) (fb (dN false minD (fb (dLenS (dV 0)) (fb (dC (.int 8)) fc))) fc))) fc)) (fe 1) (fu (fJ (fk K1.io 1 (fb (fk K1.gq 2 (fb (dV 0) (fb (dV 1) fc))) fc)) (fe 2)) (fu (fJ (fk K52.gC 1 (fb (dV 2) fc)) (fe 3)) (fu (fJ (d2 false subD (dN false lenD (fb (d2 false ixD (dV 3) (dC (.int 0))) fc)) (dC (.int 1))) (fe 4)) (gI (dRng1 (fb (dC (.int 3)) fc)) (fe 5) (fu (sPar 6 7 (fb (fk K52.iQ 2 (fb (dV 2) (fb (dV 3) fc))) (fb (fk K52.iR 2 (fb (dV 2) (fb (dLR false (fb (d2 false fB (dV 4) (dC (.int 1))) fc)) fc))) fc))) (fu (fJ (fS true (fb (dV 7) (fb (d2 false fB (dV 7) (dV 7)) (fb (d2 false fB (dV 7) (dRev false (dV 7))) (fb (d2 false fB (dV 7) (dSl false (dV 7) dNo (dPart (dC (.int 1))))) (fb (d2 false fB (dSl false (dV 7) (dPart (dC (.int 1))) dNo) (d2 false mulD (dSl false (dV 7) dNo (dPart (dC (.int 1)))) (dC (.int 2)))) (fb (fS false fc) fc))))))) (fe 8)) (fu (gR (dApp (dV 8) (ge false [none,some 2,some 4] (dRng1 (fb (fk K1.ff 2 (fb (dV 2) (fb (dC (.int 9)) fc))) fc)) (fe 0) fZ (fk K1.ff 2 (fb (dV 1) (fb (d2 false fB (dV 2) (dC (.int 1))) fc)))))) (fu (gI (dIter (dN false listD (fb (dV 8) fc))) (fe 9) (fu (fJ (fk K52.gm 3 (fb (dV 2) (fb (dV 4) (fb (dV 9) fc)))) (fe 10)) (fJ (d2 true fB (dV 8) (fS false (fb (dV 10) (fb (fk K52.gm 3 (fb (dV 2) (fb (dV 4) (fb (dN false listD (fb (dV 10) fc)) fc)))) fc)))) (fe 8)))) (gI (dIter (d2 false fB (dV 8) (fS false (fb (fk K1.gu 1 (fb (dV 2) fc)) (fb (dC .non) (fb (dDicV false 0 7) (fb (dN false tupleD (fb (d2 false fB (dV 7) (dV 7)) fc)) (fb (d2 false mulD (fS false (fb (dC (.bl true)) fc)) (dC (.int 4))) (fb (fS false (fb (d2 false fB (dV 4) (dC (.int 1))) fc)) (fb (fS false (fb (dNeg (dC (.int 1))) fc)) fc)))))))))) (fe 11) (fu (sPar 12 13 (fb (dRepr (fF (fb (dV 3) (fb (dV 6) (fb (dV 11) fc))))) (fb (dRepr (fk K52.iC 3 (fb (dV 6) (fb (dV 4) (fb (dV 11) fc))))) fc))) (sIf (dOr (dB (d2 false neD (dRepr (fk K52.jw 3 (fb (dV 3) (fb (dV 6) (fb (dV 11) fc))))) (dV 13))) (dB (d2 false neD (dRepr (fF (fb (dV 3) (fb (dV 6) (fb (dV 11) fc))))) (dV 12)))) (fM (dC (.bl false))) sNil)))))))))))) (fM (dC (.bl true))))
noncomputable def o9:List W->List Bx->O W:=fnD 14 (noX Ai)
end K52
set_option Elab.async false
set_option linter.all false
set_option maxRecDepth 100000
set_option maxHeartbeats 400000
set_option exponentiation.threshold 3000
namespace K52
open PySem PySem.Spec PyProof.Rows L2 L2.DL K1
section
variable {bx : List Bx} {n : Nat} {env : DEnv} {i : Nat}
theorem ly (h:n < bx.length) {p p1:Int} (he:env[i]?=some (some (.b n))) {m:DE W}{k:Int} (hm:m env (pt bx n p)=.val (.d (.int k)) (pt bx n p1)) (h0:0 < k) (h1:k < 1073741824) :
    ∃ r q,fk K1.ff 2 (fb (dV i) (fb m fc)) env (pt bx n p)=.val (.d (.int r)) (pt bx n q) /\ 0 <= r /\ r < k:=by
  obtain ⟨r,q,t,a,b⟩:=Mz h p1 k h0 h1
  refine ⟨r,q,?_,a,b⟩
  have e0:dV i env (pt bx n p)=.val (.b n) (pt bx n p):=by unfold dV;rw [he]
  exact gz (fm e0 (fm hm rfl)) rfl t
theorem takeC (h:n < bx.length) (p:Int) (he:env[i]?=some (some (.b n))) (k:Int) (h0:0 < k) (h1:k < 1073741824) :
    ∃ r q,fk K1.ff 2 (fb (dV i) (fb (dC (.int k)) fc)) env (pt bx n p)=.val (.d (.int r)) (pt bx n q) /\ 0 <= r /\ r < k :=
  ly h he (m:=dC (.int k)) rfl h0 h1
theorem Ch (h:n < bx.length) (p:Int) (he:env[i]?=some (some (.b n))) (l:List Int) {ks:DE (List W)} (hk:∀ e b,ks e b=.val ((l.map D.int).map W.d) b) {k:Int} (hl:(l.length:Int)=k) (h0:0 < k) (h1:k < 1000) :
    ∃ v q,d2 false ixD (fS false ks) (fk K1.ff 2 (fb (dV i) (fb (dC (.int k)) fc))) env (pt bx n p)=.val (.d (.int v)) (pt bx n q) /\ v ∈ l:=by
  obtain ⟨r,q,t,a,b⟩:=takeC h p he k h0 (by omega)
  obtain ⟨d,e,m⟩:=FW (l:=l.map D.int) a (by rw [List.length_map,hl];exact b)
  obtain ⟨v,mv,rfl⟩:=List.mem_map.mp m
  have sz:sizeLine=16777216:=sizeLine_eq
  exact ⟨v,q,gf (r:=.old (.int v)) (mw (l.map D.int) (hk _ _) (by rw [List.length_map];omega)) t (by simp only [ixD,e,Option.map_some]),mv⟩
theorem Fo {m:DE W}{bx bx1:List Bx}{j:Nat}{l:List D} (h:m env bx=.val (.b j) bx1) (g:bx1[j]?=some (.lst l)):dN false lenD (fb m fc) env bx=.val (.d (.int l.length)) bx1:=by
  rw [Fd,fm (w:=.b j) (l:=[]) h rfl,gj]
  have:rdWs bx1 [.b j]=some [.lst l]:=by simp only [rdWs,rdW,g,Option.bind_some,Option.map_some]
  rw [this]
  rfl
theorem Lq {m:DE W}{bx bx1:List Bx}{j:Nat}{l:List D} (h:m env bx=.val (.b j) bx1) (g:bx1[j]?=some (.lst l)):dN false tupleD (fb m fc) env bx=.val (.d (.tup l)) bx1:=by
  rw [Fd,fm (w:=.b j) (l:=[]) h rfl,gj]
  have:rdWs bx1 [.b j]=some [.lst l]:=by simp only [rdWs,rdW,g,Option.bind_some,Option.map_some]
  rw [this]
  rfl
theorem M0 {p:Int}{j:Nat} (h:j ≠ n):(pt bx n p)[j]?=bx[j]?:=by unfold pt;rw [List.getElem?_set_ne (Ne.symm h)]
end
noncomputable abbrev mRooms:DE W:=dN false tupleD (fb (ge false [none,some 0] (dRng1 (fb (d2 false fB (dC (.int 1)) (fk K1.ff 2 (fb (dV 0) (fb (dC (.int 5)) fc)))) fc)) (fe 0) fZ (fk K1.ff 2 (fb (dV 1) (fb (dC (.int 4)) fc)))) fc)
theorem MG {bx:List Bx}{n:Nat} (h:n < bx.length) (p:Int) (env:DEnv):∃ ds q,rooms (.tup ds)=true /\ mRooms (some (.b n) :: env) (pt bx n p)=.val (.d (.tup ds)) (pt bx n q):=by
  have sz:sizeLine=16777216:=sizeLine_eq
  obtain ⟨r,q0,t5,lo,hi⟩:=takeC h p (env:=some (.b n) :: env) (i:=0) rfl 5 (by decide) (by decide)
  obtain ⟨j,rfl⟩:=Int.eq_ofNat_of_zero_le lo
  obtain ⟨ds,q,e1,e2,e3⟩:=Av (g:=fe 0) (te:=fk K1.ff 2 (fb (dV 1) (fb (dC (.int 4)) fc))) (fun e=>∃ w,e=[w,some (.b n)]) (fun d=>wi d 0 3=true) (bx:=bx) (n:=n) (fO 0 (1 + j)) [none,some (.b n)] q0 [] ⟨none,rfl⟩ (by
      intro w _ env p ⟨w0,je⟩
      obtain ⟨r,q,t,b1,b2⟩:=takeC h p (env:=[some w,some (.b n)]) (i:=1) rfl 4 (by decide) (by decide)
      exact ⟨[some w,some (.b n)],by simp [je],⟨_,rfl⟩,.int r,q,t,by simp [wi];omega⟩) (by simp [fO];omega)
  have n5:ds.length=1 + j:=by rw [e2];simp [fO]
  refine ⟨ds,q,?_,?_⟩
  . have a1:tl (.tup ds) 1 5=true:=by simp [tl];omega
    have a2:(ds.all fun x=>wi x 0 3)=true:=List.all_eq_true.mpr e3
    simp [rooms,a1,a2]
  . have rg:dRng1 (fb (d2 false fB (dC (.int 1)) (fk K1.ff 2 (fb (dV 0) (fb (dC (.int 5)) fc)))) fc) (some (.b n) :: env) (pt bx n p)=.val (fO 0 (1 + j)) (pt bx n q0):=by
      have a:=fm (ks:=fc) (gf (g:=fB) (r:=.old (.int (1 + (j:Int)))) (m:=dC (.int 1)) rfl t5 rfl) rfl
      rw [lI a (by omega),show (1 + (j:Int)).toNat=1 + j by omega]
    rw [List.nil_append] at e1
    exact lQ (r:=.tup ds) [.lst ds] (fm (j4 rg rfl e1) rfl) rfl
noncomputable abbrev kBody:DSt:=fu (fJ (dN false sortA (fb (ge false [none,some 0] (dRng1 (fb (dC (.int 4)) fc)) (fe 0) fZ (fk K1.ff 2 (fb (dV 1) (fb (d2 false ixD (fS false (fb (dC (.int 2)) (fb (dC (.int 4)) (fb (dC (.int 10)) fc)))) (fk K1.ff 2 (fb (dV 1) (fb (dC (.int 3)) fc)))) fc)))) fc)) (fe 4)) (gR (dApp (dV 2) (fF (fb (d2 false ixD (fS false (fb (dC (.int 5)) (fb (dC (.int 40)) (fb (dC (.int 300)) (fb (dC (.int 999)) fc))))) (fk K1.ff 2 (fb (dV 0) (fb (dC (.int 4)) fc)))) (fb (dN false tupleD (fb (dRev false (dV 4)) fc)) fc)))))
theorem MH {bx:List Bx}{n:Nat} (h:n < bx.length) (p:Int) (ks:List D) (hl:ks.length <= 1000) (x1 x3 x4 x5 x6 x7:Option W) :
    ∃ k x q,kBody [some (.b n),x1,some (.b bx.length),x3,x4,x5,x6,x7] (pt (bx ++ [.lst ks]) n p)=.nx [some (.b n),x1,some (.b bx.length),x3,x,x5,x6,x7] (pt (bx ++ [.lst (ks ++ [k])]) n q) /\ kind k=true:=by
  have sz:sizeLine=16777216:=sizeLine_eq
  have h1:n < (bx ++ [Bx.lst ks]).length:=by simp;omega
  obtain ⟨ds,q,e1,e2,e3⟩:=Av (g:=fe 0) (te:=fk K1.ff 2 (fb (dV 1) (fb (d2 false ixD (fS false (fb (dC (.int 2)) (fb (dC (.int 4)) (fb (dC (.int 10)) fc)))) (fk K1.ff 2 (fb (dV 1) (fb (dC (.int 3)) fc)))) fc))) (fun e=>∃ w,e=[w,some (.b n)]) digit (bx:=bx ++ [Bx.lst ks]) (n:=n) (fO 0 4) [none,some (.b n)] p [] ⟨none,rfl⟩ (by
      intro w _ env p ⟨w0,je⟩
      refine ⟨[some w,some (.b n)],by simp [je],⟨_,rfl⟩,?_⟩
      obtain ⟨v,q,t,mv⟩:=Ch h1 p (env:=[some w,some (.b n)]) (i:=1) rfl [2,4,10] (fun _ _=>rfl) (k:=3) rfl (by decide) (by decide)
      have hv:0 < v /\ v <= 10:=by simp at mv;omega
      obtain ⟨r,q2,t2,b1,b2⟩:=ly h1 (env:=[some w,some (.b n)]) (i:=1) rfl t hv.1 (by omega)
      exact ⟨.int r,q2,t2,r,rfl,b1,by omega⟩) (by simp [fO];omega)
  obtain ⟨ns,rfl,hns⟩:=BG e3
  have n4:ns.length=4:=by
    rw [List.length_map] at e2
    rw [e2]
    simp [fO]
  have so:sortA [.lst (ns.map D.int)]=some (.lst ((sortI ns).map D.int)):=by simp [sortA,sortD,K1.oV,n4]
  have rr:=J9 n4 hns
  have rg:∀ env bx,dRng1 (fb (dC (.int 4)) fc) env bx=.val (fO 0 4) bx:=fun env bx=>lI (j:=4) (bx1:=bx) (by simp) (by decide)
  rw [List.nil_append] at e1
  generalize hS:(sortI ns).map D.int=S at so rr
  obtain ⟨v,q2,t4,mv⟩:=Ch h1 q (env:=[some (.b n),x1,some (.b bx.length),x3,some (.d (.lst S)),x5,x6,x7]) (i:=0) rfl [5,40,300,999] (ks:=fb (dC (.int 5)) (fb (dC (.int 40)) (fb (dC (.int 300)) (fb (dC (.int 999)) fc)))) (fun _ _=>rfl) (k:=4) rfl (by decide) (by decide)
  have hv:wi (.int v) 1 999=true:=by simp at mv;simp [wi];omega
  refine ⟨.tup [.int v,.tup S.reverse],some (.d (.lst S)),q2,?_,by simp [kind,tl,hv,rr]⟩
  have b1:=iH (p:=q) (x:=.lst ks) h
  have b2:=iH (p:=q2) (x:=.lst ks) h
  have s1:fJ (dN false sortA (fb (ge false [none,some 0] (dRng1 (fb (dC (.int 4)) fc)) (fe 0) fZ (fk K1.ff 2 (fb (dV 1) (fb (d2 false ixD (fS false (fb (dC (.int 2)) (fb (dC (.int 4)) (fb (dC (.int 10)) fc)))) (fk K1.ff 2 (fb (dV 1) (fb (dC (.int 3)) fc)))) fc)))) fc)) (fe 4) [some (.b n),x1,some (.b bx.length),x3,x4,x5,x6,x7] (pt (bx ++ [.lst ks]) n p)=.nx [some (.b n),x1,some (.b bx.length),x3,some (.d (.lst S)),x5,x6,x7] (pt (bx ++ [.lst ks]) n q) :=
    jK (lQ (r:=.lst S) [.lst (ns.map D.int)] (fm (j4 (rg _ _) rfl e1) rfl) so)
  have tv:fF (fb (d2 false ixD (fS false (fb (dC (.int 5)) (fb (dC (.int 40)) (fb (dC (.int 300)) (fb (dC (.int 999)) fc))))) (fk K1.ff 2 (fb (dV 0) (fb (dC (.int 4)) fc)))) (fb (dN false tupleD (fb (dRev false (dV 4)) fc)) fc)) [some (.b n),x1,some (.b bx.length),x3,some (.d (.lst S)),x5,x6,x7] (pt (bx ++ [.lst ks]) n q)=.val (.d (.tup [.int v,.tup S.reverse])) (pt (bx ++ [.lst ks]) n q2):=by
    generalize pt (bx ++ [.lst ks]) n q=B at t4 ⊢
    generalize pt (bx ++ [.lst ks]) n q2=B' at t4 ⊢
    have r1:dRev false (dV 4) [some (.b n),x1,some (.b bx.length),x3,some (.d (.lst S)),x5,x6,x7] B'=.val (.d (.lst S.reverse)) B':=rfl
    exact Ac [.int v,.tup S.reverse] (fm t4 (fm (lQ (r:=.tup S.reverse) [.lst S.reverse] (fm r1 rfl) rfl) rfl)) (show (2:Nat) <= sizeLine by omega)
  have ap:=F6 (m:=dV 2) (env:=[some (.b n),x1,some (.b bx.length),x3,some (.d (.lst S)),x5,x6,x7]) rfl b1 tv b2 (by omega)
  rw [mD h] at ap
  exact (fI s1).trans (mU ap)
theorem Dh:∀ {ps:List (Int × Int)}{x:Int × Int},incr ps=true->(∀ q ∈ ps,ltP q x=true)->incr (ps ++ [x])=true
  | [],_,_,_=>rfl
  | [p],x,_,h=>by simp [incr,h p (by simp)]
  | p :: q :: r,x,h,hx=>by
    simp only [incr,Bool.and_eq_true] at h
    have ih:=Dh (ps:=q :: r) (x:=x) h.2 (fun z m=>hx z (List.mem_cons_of_mem _ m))
    show (ltP p q && incr (q :: (r ++ [x])))=true
    rw [h.1]
    exact ih
theorem N8 {q x:Int × Int} (h:q.1 < x.1 \/ (q.1=x.1 /\ q.2 < x.2)):ltP q x=true:=by
  unfold ltP
  simp only [HT.i3,HT.oi]
  split
  . split
    . omega
    . rw [decide_eq_true_eq];omega
  . rw [decide_eq_true_eq];omega
structure Up (ps:List (Int × Int)) (k:Nat) (a b:Int):Prop where
  i:incr ps=true
  bd:∀ q ∈ ps,0 <= q.1 /\ q.1 < q.2 /\ q.2 < (k:Int)
  u:∀ q ∈ ps,q.1 < a \/ (q.1=a /\ q.2 < b)
theorem Up.push {ps:List (Int × Int)}{k:Nat}{a b:Int} (h:Up ps k a b) (h0:0 <= a) (h1:a < b) (h2:b < (k:Int)):Up (ps ++ [(a,b)]) k a (b + 1):=by
  refine ⟨Dh h.i fun q m=>N8 (h.u q m),fun q m=>?_,fun q m=>?_⟩
  . rcases List.mem_append.mp m with m | m
    . exact h.bd q m
    . rw [List.mem_singleton.mp m];exact ⟨h0,h1,h2⟩
  . rcases List.mem_append.mp m with m | m
    . have:=h.u q m;omega
    . rw [List.mem_singleton.mp m];exact .inr ⟨rfl,by show b < b + 1;omega⟩
theorem Up.next {ps:List (Int × Int)}{k:Nat}{a b:Int} (h:Up ps k a b):Up ps k a (b + 1):=⟨h.i,h.bd,fun q m=>by have:=h.u q m;omega⟩
theorem Up.row {ps:List (Int × Int)}{k:Nat}{a b c:Int} (h:Up ps k a b):Up ps k (a + 1) c:=⟨h.i,h.bd,fun q m=>by have:=h.u q m;omega⟩
noncomputable abbrev iBody:DSt:=sIf (dB (d2 false eqD (fk K1.ff 2 (fb (dV 0) (fb (dC (.int 3)) fc))) (dC (.int 0)))) (gR (dApp (dV 5) (fF (fb (dV 6) (fb (dV 7) fc))))) sNil
theorem BJ {a b:Int}:eqD (.int a) (.int b)=some (.old (.bl (decide (a=b)))):=by simp [eqD]
theorem MI {bx:List Bx}{n:Nat} (h:n < bx.length) (p:Int) (ps:List (Int × Int)) (hl:ps.length <= 1000) (a b:Int) (x1 x2 x3 x4:Option W) :
    ∃ ps' q,iBody [some (.b n),x1,x2,x3,x4,some (.b bx.length),some (.d (.int a)),some (.d (.int b))] (pt (bx ++ [.lst (ps.map dP)]) n p)=.nx [some (.b n),x1,x2,x3,x4,some (.b bx.length),some (.d (.int a)),some (.d (.int b))] (pt (bx ++ [.lst (ps'.map dP)]) n q) /\ (ps'=ps \/ ps'=ps ++ [(a,b)]):=by
  have sz:sizeLine=16777216:=sizeLine_eq
  have h1:n < (bx ++ [Bx.lst (ps.map dP)]).length:=by simp;omega
  obtain ⟨r,q,t,b1,b2⟩:=takeC h1 p (env:=[some (.b n),x1,x2,x3,x4,some (.b bx.length),some (.d (.int a)),some (.d (.int b))]) (i:=0) rfl 3 (by decide) (by decide)
  have bg:=iH (p:=q) (x:=.lst (ps.map dP)) h
  by_cases hr:r=0
  . refine ⟨ps ++ [(a,b)],q,?_,.inr rfl⟩
    have c:dB (d2 false eqD (fk K1.ff 2 (fb (dV 0) (fb (dC (.int 3)) fc))) (dC (.int 0))) [some (.b n),x1,x2,x3,x4,some (.b bx.length),some (.d (.int a)),some (.d (.int b))] (pt (bx ++ [.lst (ps.map dP)]) n p)=.val true (pt (bx ++ [.lst (ps.map dP)]) n q):=by
      refine lR (b:=true) (gf (r:=.old (.bl true)) t rfl ?_)
      rw [BJ,hr];rfl
    have ap:=F6 (m:=dV 5) (k:=fF (fb (dV 6) (fb (dV 7) fc))) (env:=[some (.b n),x1,x2,x3,x4,some (.b bx.length),some (.d (.int a)),some (.d (.int b))]) (d:=dP (a,b)) rfl bg (Ac [.int a,.int b] rfl (show (2:Nat) <= sizeLine by omega)) bg (by rw [List.length_map];omega)
    rw [mD h,show ps.map dP ++ [dP (a,b)]=(ps ++ [(a,b)]).map dP by simp] at ap
    exact (Bj c).trans (mU ap)
  . refine ⟨ps,q,?_,.inl rfl⟩
    have c:dB (d2 false eqD (fk K1.ff 2 (fb (dV 0) (fb (dC (.int 3)) fc))) (dC (.int 0))) [some (.b n),x1,x2,x3,x4,some (.b bx.length),some (.d (.int a)),some (.d (.int b))] (pt (bx ++ [.lst (ps.map dP)]) n p)=.val false (pt (bx ++ [.lst (ps.map dP)]) n q):=by
      refine lR (b:=false) (gf (r:=.old (.bl false)) t rfl ?_)
      rw [BJ,decide_eq_false hr]
    exact Bk c
theorem mF {lo:Int}{m j:Nat}{w:W} (h:(fO lo m)[j]?=some w):w=.d (.int (lo + j)) /\ j < m:=by
  have hj:=(List.getElem?_eq_some_iff.mp h).1
  have hm:j < m:=by simpa [fO] using hj
  simp [fO,hm] at h
  exact ⟨h.symm,hm⟩
theorem MJ {bx:List Bx}{n:Nat} (h:n < bx.length) (p:Int) (ps:List (Int × Int)) (k a:Nat) (hk:k <= 4) (hl:ps.length <= 4 * a) (ha:a < k) (U:Up ps k a (a + 1)) (x1 x2 x3 x4 w7:Option W) :
    ∃ ps' q w',forD (fe 7) iBody (fO ((a:Int) + 1) (k - (a + 1))) [some (.b n),x1,x2,x3,x4,some (.b bx.length),some (.d (.int a)),w7] (pt (bx ++ [.lst (ps.map dP)]) n p)=.nx [some (.b n),x1,x2,x3,x4,some (.b bx.length),some (.d (.int a)),w'] (pt (bx ++ [.lst (ps'.map dP)]) n q) /\ ps'.length <= 4 * (a + 1) /\ Up ps' k ((a + 1:Nat):Int) ((a + 1:Nat) + 1):=by
  obtain ⟨env',bx',e,ps',q,w',rfl,rfl,U',l'⟩:=mC (g:=fe 7) (body:=iBody) (fun j env bb=>∃ ps' q w',env=[some (.b n),x1,x2,x3,x4,some (.b bx.length),some (.d (.int a)),w'] /\ bb=pt (bx ++ [.lst (ps'.map dP)]) n q /\ Up ps' k a ((a:Int) + 1 + (j:Nat)) /\ ps'.length <= 4 * a + j) (fO ((a:Int) + 1) (k - (a + 1))) 0 _ _ ⟨ps,p,w7,rfl,rfl,by simpa using U,by omega⟩ (by
      rintro j w env bb hw ⟨ps',q,w',rfl,rfl,U',l'⟩
      rw [Nat.zero_add] at U' l' ⊢
      obtain ⟨rfl,hj⟩:=mF hw
      obtain ⟨ps2,q2,e2,c⟩:=MI h q ps' (by omega) (a:Int) ((a:Int) + 1 + (j:Nat)) x1 x2 x3 x4
      refine ⟨_,_,_,_,rfl,e2,ps2,q2,_,rfl,rfl,?_,?_⟩
      . rw [show ((a:Int) + 1 + ((j + 1:Nat):Int))=(a:Int) + 1 + (j:Nat) + 1 by omega]
        rcases c with rfl | rfl
        . exact U'.next
        . exact U'.push (by omega) (by omega) (by omega)
      . rcases c with rfl | rfl
        . omega
        . simp;omega)
  have lr:(fO ((a:Int) + 1) (k - (a + 1))).length=k - (a + 1):=by simp [fO]
  rw [lr] at l'
  refine ⟨ps',q,w',e,by omega,?_⟩
  have:=U'.row (c:=((a + 1:Nat):Int) + 1)
  push_cast at this ⊢
  exact this
noncomputable abbrev mRest:DSt:=gI (dRng1 (fb (dN false lenD (fb (dV 2) fc)) fc)) (fe 6) (gI (dRng2 (fb (d2 false fB (dV 6) (dC (.int 1))) (fb (dN false lenD (fb (dV 2) fc)) fc))) (fe 7) iBody)
theorem N9 {bx:List Bx}{n:Nat} (h:n < bx.length) (p:Int) (ks:List D) (hk:ks.length <= 4) (x1 x3 x4:Option W) :
    ∃ ps q w6 w7,mRest [some (.b n),x1,some (.b bx.length),x3,x4,some (.b (bx ++ [Bx.lst ks]).length),none,none] (pt (bx ++ [.lst ks] ++ [.lst []]) n p)=.nx [some (.b n),x1,some (.b bx.length),x3,x4,some (.b (bx ++ [Bx.lst ks]).length),w6,w7] (pt (bx ++ [.lst ks] ++ [.lst (ps.map dP)]) n q) /\ ps.length <= 16 /\ incr ps=true /\ ∀ q ∈ ps,0 <= q.1 /\ q.1 < q.2 /\ q.2 < (ks.length:Int):=by
  have h1:n < (bx ++ [Bx.lst ks]).length:=by simp;omega
  have gk:∀ (q:Int) (l:List D),(pt (bx ++ [.lst ks] ++ [.lst l]) n q)[bx.length]?=some (.lst ks):=fun q l=>by
    rw [M0 (by omega)]
    simp
  have rg:dRng1 (fb (dN false lenD (fb (dV 2) fc)) fc) [some (.b n),x1,some (.b bx.length),x3,x4,some (.b (bx ++ [Bx.lst ks]).length),none,none] (pt (bx ++ [.lst ks] ++ [.lst []]) n p)=.val (fO 0 ks.length) (pt (bx ++ [.lst ks] ++ [.lst []]) n p):=by
    have g:=gk p []
    generalize pt (bx ++ [.lst ks] ++ [.lst []]) n p=B at g ⊢
    rw [lI (fm (Fo (m:=dV 2) rfl g) rfl) (by omega),Int.toNat_natCast]
  obtain ⟨env',bx',e,ps,q,w6,w7,rfl,rfl,l,U⟩:=mC (g:=fe 6) (body:=gI (dRng2 (fb (d2 false fB (dV 6) (dC (.int 1))) (fb (dN false lenD (fb (dV 2) fc)) fc))) (fe 7) iBody) (fun a env bb=>∃ ps q w6 w7,env=[some (.b n),x1,some (.b bx.length),x3,x4,some (.b (bx ++ [Bx.lst ks]).length),w6,w7] /\ bb=pt (bx ++ [.lst ks] ++ [.lst (ps.map dP)]) n q /\ ps.length <= 4 * a /\ Up ps ks.length (a:Nat) ((a:Nat) + 1)) (fO 0 ks.length) 0 _ _ ⟨[],p,none,none,rfl,rfl,by simp,⟨rfl,by simp,by simp⟩⟩ (by
      rintro a w env bb hw ⟨ps,q,w6,w7,rfl,rfl,l,U⟩
      rw [Nat.zero_add] at l U ⊢
      obtain ⟨rfl,ha⟩:=mF hw
      rw [Int.zero_add]
      obtain ⟨ps',q',w',e',l',U'⟩:=MJ h1 q ps ks.length a hk l ha U x1 (some (.b bx.length)) x3 x4 w7
      refine ⟨_,_,[some (.b n),x1,some (.b bx.length),x3,x4,some (.b (bx ++ [Bx.lst ks]).length),some (.d (.int a)),w'],pt (bx ++ [.lst ks] ++ [.lst (ps'.map dP)]) n q',rfl,?_,ps',q',some (.d (.int a)),w',rfl,rfl,l',U'⟩
      have g:=gk q (ps.map dP)
      generalize pt (bx ++ [.lst ks] ++ [.lst (ps'.map dP)]) n q'=B' at e' ⊢
      generalize pt (bx ++ [.lst ks] ++ [.lst (ps.map dP)]) n q=B at g e' ⊢
      have r2:dRng2 (fb (d2 false fB (dV 6) (dC (.int 1))) (fb (dN false lenD (fb (dV 2) fc)) fc)) [some (.b n),x1,some (.b bx.length),x3,x4,some (.b (bx ++ [Bx.lst ks]).length),some (.d (.int a)),w7] B=.val (fO ((a:Int) + 1) (ks.length - (a + 1))) B:=by
        have c1:=fm (env:=[some (.b n),x1,some (.b bx.length),x3,x4,some (.b (bx ++ [Bx.lst ks]).length),some (.d (.int a)),w7]) (gf (g:=fB) (r:=.old (.int ((a:Int) + 1))) (m:=dV 6) (k:=dC (.int 1)) rfl rfl rfl) (fm (ks:=fc) (Fo (m:=dV 2) rfl g) rfl)
        rw [J0 c1 (by omega),show ((ks.length:Int) - ((a:Int) + 1)).toNat=ks.length - (a + 1) by omega]
      exact (mV r2).trans e')
  have lr:(fO 0 ks.length).length=ks.length:=by simp [fO]
  rw [lr,Nat.zero_add] at l U
  exact ⟨ps,q,w6,w7,(mV rg).trans e,by omega,U.i,U.bd⟩
theorem Lr {bx:List Bx}{n:Nat} (h:n < bx.length) (p:Int) (x1:Option W) :
    ∃ ks q x3 x4,gI (dRng1 (fb (d2 false fB (dC (.int 1)) (fk K1.ff 2 (fb (dV 0) (fb (d2 false ixD (fS false (fb (dC (.int 1)) (fb (dC (.int 2)) (fb (dC (.int 4)) fc)))) (fk K1.ff 2 (fb (dV 0) (fb (dC (.int 3)) fc)))) fc)))) fc)) (fe 3) kBody [some (.b n),x1,some (.b bx.length),none,none,none,none,none] (pt (bx ++ [.lst []]) n p)=.nx [some (.b n),x1,some (.b bx.length),x3,x4,none,none,none] (pt (bx ++ [.lst ks]) n q) /\ 1 <= ks.length /\ ks.length <= 4 /\ ∀ k ∈ ks,kind k=true:=by
  have h1:n < (bx ++ [Bx.lst []]).length:=by simp;omega
  obtain ⟨v,q,t,mv⟩:=Ch h1 p (env:=[some (.b n),x1,some (.b bx.length),none,none,none,none,none]) (i:=0) rfl [1,2,4] (ks:=fb (dC (.int 1)) (fb (dC (.int 2)) (fb (dC (.int 4)) fc))) (fun _ _=>rfl) (k:=3) rfl (by decide) (by decide)
  have hv:0 < v /\ v <= 4:=by simp at mv;omega
  obtain ⟨r,q2,t2,b1,b2⟩:=ly h1 (env:=[some (.b n),x1,some (.b bx.length),none,none,none,none,none]) (i:=0) rfl t hv.1 (by omega)
  obtain ⟨j,rfl⟩:=Int.eq_ofNat_of_zero_le b1
  have rg:dRng1 (fb (d2 false fB (dC (.int 1)) (fk K1.ff 2 (fb (dV 0) (fb (d2 false ixD (fS false (fb (dC (.int 1)) (fb (dC (.int 2)) (fb (dC (.int 4)) fc)))) (fk K1.ff 2 (fb (dV 0) (fb (dC (.int 3)) fc)))) fc)))) fc) [some (.b n),x1,some (.b bx.length),none,none,none,none,none] (pt (bx ++ [.lst []]) n p)=.val (fO 0 (1 + j)) (pt (bx ++ [.lst []]) n q2):=by
    have a:=fm (ks:=fc) (gf (g:=fB) (r:=.old (.int (1 + (j:Int)))) (m:=dC (.int 1)) rfl t2 rfl) rfl
    rw [lI a (by omega),show (1 + (j:Int)).toNat=1 + j by omega]
  obtain ⟨env',bx',e,ks,q3,x3,x4,rfl,rfl,l,hk⟩:=mC (g:=fe 3) (body:=kBody) (fun i env bb=>∃ ks q x3 x4,env=[some (.b n),x1,some (.b bx.length),x3,x4,none,none,none] /\ bb=pt (bx ++ [.lst ks]) n q /\ ks.length=i /\ ∀ k ∈ ks,kind k=true) (fO 0 (1 + j)) 0 _ _ ⟨[],q2,none,none,rfl,rfl,rfl,by simp⟩ (by
      rintro i w env bb hw ⟨ks,q,x3,x4,rfl,rfl,l,hk⟩
      rw [Nat.zero_add] at l ⊢
      obtain ⟨rfl,hi⟩:=mF hw
      obtain ⟨k,x,q',e',hk'⟩:=MH h q ks (by omega) x1 (some (.d (.int (0 + (i:Nat))))) x4 none none none
      refine ⟨_,_,[some (.b n),x1,some (.b bx.length),some (.d (.int (0 + (i:Nat)))),x,none,none,none],_,rfl,e',ks ++ [k],q',_,x,rfl,rfl,by simp [l],fun z m=>?_⟩
      rcases List.mem_append.mp m with m | m
      . exact hk z m
      . rw [List.mem_singleton.mp m];exact hk')
  have lr:(fO 0 (1 + j)).length=1 + j:=by simp [fO]
  rw [lr,Nat.zero_add] at l
  exact ⟨ks,q3,x3,x4,(mV rg).trans e,by omega,by omega,hk⟩
theorem Oa {bx:List Bx}{n:Nat} (h:n < bx.length) (p:Int) (env:DEnv):∃ v q,d2 false fB (dC (.int 1)) (fk K1.ff 2 (fb (dV 0) (fb (d2 false ixD (fS false (fb (dC (.int 3)) (fb (dC (.int 9)) fc))) (fk K1.ff 2 (fb (dV 0) (fb (dC (.int 2)) fc)))) fc))) (some (.b n) :: env) (pt bx n p)=.val (.d (.int v)) (pt bx n q) /\ 1 <= v /\ v <= 9:=by
  obtain ⟨v,q,t,mv⟩:=Ch h p (env:=some (.b n) :: env) (i:=0) rfl [3,9] (ks:=fb (dC (.int 3)) (fb (dC (.int 9)) fc)) (fun _ _=>rfl) (k:=2) rfl (by decide) (by decide)
  have hv:0 < v /\ v <= 9:=by simp at mv;omega
  obtain ⟨r,q2,t2,b1,b2⟩:=ly h (env:=some (.b n) :: env) (i:=0) rfl t hv.1 (by omega)
  exact ⟨1 + r,q2,gf (g:=fB) (r:=.old (.int (1 + r))) (m:=dC (.int 1)) rfl t2 rfl,by omega,by omega⟩
structure House (d:D) (n:Nat):Prop where
  h:house d=true
  sm:Sm 999 4 111672 d
  ok:okH d
  rs:∃ rs k a b,d=.tup [.tup rs,k,a,b] /\ rs.length=n
  n0:1 <= n
  n5:n <= 5
theorem Ls {bx:List Bx}{n:Nat} (h:n < bx.length) (p:Int):∃ d k q,gC [.b n] (pt bx n p)=.val (.d d) (pt bx n q) /\ House d k:=by
  have sz:sizeLine=16777216:=sizeLine_eq
  obtain ⟨rs,q1,hr,e1⟩:=MG h p [none,none,none,none,none,none,none]
  obtain ⟨ks,q2,x3,x4,e2,l1,l4,hk⟩:=Lr h q1 (some (.d (.tup rs)))
  obtain ⟨ps,q3,w6,w7,e3,lp,ip,hb⟩:=N9 h q2 ks l4 (some (.d (.tup rs))) x3 x4
  have h1:n < (bx ++ [Bx.lst ks]).length:=by simp;omega
  have h2:n < (bx ++ [Bx.lst ks] ++ [Bx.lst (ps.map dP)]).length:=by simp;omega
  obtain ⟨v,q4,e4,v1,v9⟩:=Oa h2 q3 [some (.d (.tup rs)),some (.b bx.length),x3,x4,some (.b (bx ++ [Bx.lst ks]).length),w6,w7]
  have rl:1 <= (rs.length:Int) /\ (rs.length:Int) <= 5:=by
    simp only [rooms,Bool.and_eq_true] at hr
    exact mS hr.1
  have s1:fJ (fS true fc) (fe 2) [some (.b n),some (.d (.tup rs)),none,none,none,none,none,none] (pt bx n q1)=.nx [some (.b n),some (.d (.tup rs)),some (.b bx.length),none,none,none,none,none] (pt (bx ++ [.lst []]) n q1):=by
    have a:=Ad (env:=[some (.b n),some (.d (.tup rs)),none,none,none,none,none,none]) (ks:=fc) (bx:=pt bx n q1) [] rfl (Nat.zero_le _)
    rw [lJ h,iE] at a
    exact jK a
  have s2:fJ (fS true fc) (fe 5) [some (.b n),some (.d (.tup rs)),some (.b bx.length),x3,x4,none,none,none] (pt (bx ++ [.lst ks]) n q2)=.nx [some (.b n),some (.d (.tup rs)),some (.b bx.length),x3,x4,some (.b (bx ++ [Bx.lst ks]).length),none,none] (pt (bx ++ [.lst ks] ++ [.lst []]) n q2):=by
    have a:=Ad (env:=[some (.b n),some (.d (.tup rs)),some (.b bx.length),x3,x4,none,none,none]) (ks:=fc) (bx:=pt (bx ++ [.lst ks]) n q2) [] rfl (Nat.zero_le _)
    rw [lJ h1,iE] at a
    exact jK a
  have gk:∀ q,(pt (bx ++ [.lst ks] ++ [.lst (ps.map dP)]) n q)[bx.length]?=some (.lst ks):=fun q=>by
    rw [M0 (by omega)]
    simp
  have gp:=iH (p:=q3) (x:=.lst (ps.map dP)) h1
  have gk3:=gk q3
  have s3:fM (fF (fb (dV 1) (fb (dN false tupleD (fb (dV 2) fc)) (fb (dN false tupleD (fb (dV 5) fc)) (fb (d2 false fB (dC (.int 1)) (fk K1.ff 2 (fb (dV 0) (fb (d2 false ixD (fS false (fb (dC (.int 3)) (fb (dC (.int 9)) fc))) (fk K1.ff 2 (fb (dV 0) (fb (dC (.int 2)) fc)))) fc)))) fc))))) [some (.b n),some (.d (.tup rs)),some (.b bx.length),x3,x4,some (.b (bx ++ [Bx.lst ks]).length),w6,w7] (pt (bx ++ [.lst ks] ++ [.lst (ps.map dP)]) n q3)=.rt (.d (.tup [.tup rs,.tup ks,.tup (ps.map dP),.int v])) (pt (bx ++ [.lst ks] ++ [.lst (ps.map dP)]) n q4):=by
    generalize pt (bx ++ [.lst ks] ++ [.lst (ps.map dP)]) n q4=B' at e4 ⊢
    generalize pt (bx ++ [.lst ks] ++ [.lst (ps.map dP)]) n q3=B at e4 gk3 gp ⊢
    exact iG (Ac [.tup rs,.tup ks,.tup (ps.map dP),.int v] (fm rfl (fm (Lq (m:=dV 2) rfl gk3) (fm (Lq (m:=dV 5) rfl gp) (fm e4 rfl)))) (show (4:Nat) <= sizeLine by omega))
  have M:i8 [some (.b n),none,none,none,none,none,none,none] (pt bx n p)=.rt (.d (.tup [.tup rs,.tup ks,.tup (ps.map dP),.int v])) (pt (bx ++ [.lst ks] ++ [.lst (ps.map dP)]) n q4):=by
    unfold i8
    exact (fI (jK e1)).trans ((fI s1).trans ((fI e2).trans ((fI s2).trans ((fI e3).trans s3))))
  refine ⟨.tup [.tup rs,.tup ks,.tup (ps.map dP),.int v],rs.length,q4,?_,⟨?_,?_,?_,⟨rs,_,_,_,rfl,rfl⟩,by omega,by omega⟩⟩
  . refine (A1 M).trans ?_
    rw [iE,List.append_assoc,A2 h]
  . have a:apart (ks.length:Int) (.tup (ps.map dP))=true:=by
      have b1:(ps.map dP).all (pairA (ks.length:Int))=true:=by
        rw [List.all_map,List.all_eq_true]
        intro p m
        have:=hb p m
        simp [pairA,tl]
        omega
      show (((ps.map dP).all (pairA (ks.length:Int))) && incr ((ps.map dP).filterMap toP))=true
      rw [FS,b1,ip];rfl
    have kk:kinds (.tup ks)=true:=by
      have a1:tl (.tup ks) 1 4=true:=by simp [tl];omega
      simp [kinds,a1]
      exact hk
    have hh:wi (.int v) 1 9=true:=by simp [wi];omega
    simp only [house,lenOf,hr,kk,a,hh,Bool.and_self]
  . have r1:Sm 999 1 9618 (.tup rs):=by
      simp only [rooms,Bool.and_eq_true] at hr
      exact (Sm.tup (SmL.of (B:=999) (a:=0) (b:=1921) fun x m=>Lc (List.all_eq_true.mp hr.2 x m) (by decide) (by decide))).mono (by decide) (by omega)
    have r2:Sm 999 3 38503 (.tup ks) :=
      (Sm.tup (SmL.of (B:=999) (a:=2) (b:=9623) fun x m=>Mw (hk x m))).mono (by decide) (by omega)
    have r3:Sm 999 2 61619 (.tup (ps.map dP)):=by
      have z:=SmL.of (B:=999) (a:=1) (b:=3849) (l:=ps.map dP) fun x m=>by
        obtain ⟨p,mp,rfl⟩:=List.mem_map.mp m
        exact ON (hb p mp) l4
      rw [List.length_map] at z
      exact (Sm.tup z).mono (by decide) (by omega)
    exact (Sm.tup (SmL.cons (r1.mono (by decide) (Nat.le_refl _)) (SmL.cons r2 (SmL.cons (r3.mono (by decide) (Nat.le_refl _)) (SmL.cons (Sm.int (by omega)) SmL.nil))))).mono (Nat.le_refl _) (by decide)
  . show (ps.map dP).length <= sizeLine
    rw [List.length_map]
    omega
end K52
set_option Elab.async false
set_option linter.all false
set_option maxRecDepth 100000
set_option maxHeartbeats 400000
set_option exponentiation.threshold 3000
namespace K52
open PySem PySem.Spec PyProof.Rows L2 L2.DL K1
section
variable {env : DEnv} {bx bx1 bx2 : List Bx}
theorem OV {m k:DE W}{j:Nat}{i:Int}{l:List D}{d:D} (h:m env bx=.val (.b j) bx1) (hk:k env bx1=.val (.d (.int i)) bx2) (g:bx2[j]?=some (.lst l)) (ha:atI l i=some d):d2 false ixD m k env bx=.val (.d d) bx2:=by
  rw [JN,h,gj,hk,gj]
  have r1:rdW bx2 (.b j)=some (.lst l):=by simp only [rdW,g]
  rw [r1,Ak,Option.bind_some,Option.bind_some]
  show resO false (Option.map Res.old (atI l i)) _=_
  rw [ha]
  rfl
theorem OW {mo mi:DE W}{n j:Nat}{k:Int}{l:List D}{w:D} (h1:mo env bx=.val (.b n) bx1) (h2:mi env bx1=.val (.d (.int k)) bx2) (h3:bx2[n]?=some (.lst l)) (h4:ixN l.length k=some j):gdSub mo mi (.d w) env bx=some (env,bx2.set n (.lst (l.set j w))):=by
  unfold gdSub
  simp only [h1,h2,h3,h4,Option.map_some]
theorem OX {m:DE W}{g:DG}{w:W}{env':DEnv}{bx':List Bx} (h:m env bx=.val w bx1) (hg:g w env bx1=some (env',bx')):fJ m g env bx=.nx env' bx':=by
  rw [JP,h,Aa,hg]
theorem BK {i j:Nat}{x y:W}{a b:DE W} (h1:a env bx=.val x bx1) (h2:b env bx1=.val y bx2):sPar i j (fb a (fb b fc)) env bx=.nx ((env.set i (some x)).set j (some y)) bx2:=by
  unfold sPar
  rw [fm h1 (fm h2 rfl),Aa]
end
theorem Lu {m:Nat} (h:0 < m):ixN m (-1)=some (m - 1):=by
  unfold ixN
  simp
  omega
theorem at0 {l:List (Int × Int)}{z:Int × Int}{t:List (Int × Int)} (h:l=z :: t):atI (l.map dP) 0=some (dP z):=by
  subst h
  simp [atI,ixN]
noncomputable def Mv (k:Int) (ps:List (Int × Int)):Prop:=∀ q ∈ ps,0 <= q.1 /\ q.1 < k /\ 0 <= q.2 /\ q.2 < k /\ q.1 ≠ q.2
theorem Lv {k a r:Int} (hk:2 <= k) (hk5:k <= 5) (h0:0 <= a) (h1:a < k) (h2:0 <= r) (h3:r < k - 1):0 <= (a + 1 + r) % k /\ (a + 1 + r) % k < k /\ a ≠ (a + 1 + r) % k:=by
  obtain rfl | rfl | rfl | rfl:k=2 \/ k=3 \/ k=4 \/ k=5:=by omega
  all_goals omega
noncomputable abbrev mEnd:DSt:=sIf (dB (d2 false eqD (fk K1.ff 2 (fb (dV 0) (fb (dC (.int 5)) fc))) (dC (.int 0)))) (fJ (fF (fb (d2 false ixD (d2 false ixD (dV 3) (dC (.int 0))) (dC (.int 1))) (fb (d2 false ixD (d2 false ixD (dV 3) (dC (.int 0))) (dC (.int 0))) fc))) (gdSub (dV 3) (dNeg (dC (.int 1))))) sNil
noncomputable abbrev mBody:DSt:=fu (fJ (fk K1.ff 2 (fb (dV 0) (fb (dV 2) fc))) (fe 5)) (fu (fJ (d2 false modD (d2 false fB (d2 false fB (dV 5) (dC (.int 1))) (fk K1.ff 2 (fb (dV 0) (fb (d2 false subD (dV 2) (dC (.int 1))) fc)))) (dV 2)) (fe 6)) (fu (gR (dApp (dV 3) (fF (fb (dV 5) (fb (dV 6) fc))))) mEnd))
theorem Ob {bx:List Bx}{n:Nat} (h:n < bx.length) (p k:Int) (ps:List (Int × Int)) (x:Int × Int) (M:Mv k (ps ++ [x])) (x1 x2 w4 w5 w6:Option W) :
    ∃ y q,mEnd [some (.b n),x1,x2,some (.b bx.length),w4,w5,w6] (pt (bx ++ [.lst ((ps ++ [x]).map dP)]) n p)=.nx [some (.b n),x1,x2,some (.b bx.length),w4,w5,w6] (pt (bx ++ [.lst ((ps ++ [y]).map dP)]) n q) /\ Mv k (ps ++ [y]):=by
  have sz:sizeLine=16777216:=sizeLine_eq
  have h1:n < (bx ++ [Bx.lst ((ps ++ [x]).map dP)]).length:=by simp;omega
  obtain ⟨r,q,t,b1,b2⟩:=takeC h1 p (env:=[some (.b n),x1,x2,some (.b bx.length),w4,w5,w6]) (i:=0) rfl 5 (by decide) (by decide)
  have bg:=iH (p:=q) (x:=.lst ((ps ++ [x]).map dP)) h
  obtain ⟨z,tl,hz⟩:∃ z t,ps ++ [x]=z :: t:=by cases ps with | nil=>exact ⟨x,[],rfl⟩ | cons a l=>exact ⟨a,l ++ [x],rfl⟩
  have mz:z ∈ ps ++ [x]:=by rw [hz];exact List.mem_cons_self ..
  by_cases hr:r=0
  . refine ⟨(z.2,z.1),q,?_,fun w m=>?_⟩
    . have c:dB (d2 false eqD (fk K1.ff 2 (fb (dV 0) (fb (dC (.int 5)) fc))) (dC (.int 0))) [some (.b n),x1,x2,some (.b bx.length),w4,w5,w6] (pt (bx ++ [.lst ((ps ++ [x]).map dP)]) n p)=.val true (pt (bx ++ [.lst ((ps ++ [x]).map dP)]) n q):=by
        refine lR (b:=true) (gf (r:=.old (.bl true)) t rfl ?_)
        rw [BJ,hr];rfl
      have st:=mD (p:=q) (x:=.lst ((ps ++ [x]).map dP)) (y:=.lst ((ps ++ [(z.2,z.1)]).map dP)) h
      have a0:=at0 hz
      have hl:ixN ((ps ++ [x]).map dP).length (-1)=some ps.length:=by
        rw [Lu (by simp)];simp
      have es:((ps ++ [x]).map dP).set ps.length (D.tup [.int z.2,.int z.1])=(ps ++ [(z.2,z.1)]).map dP:=by
        rw [List.map_append,List.map_append,List.set_append_right _ _ (by simp)]
        simp
      refine (Bj c).trans ?_
      generalize pt (bx ++ [.lst ((ps ++ [(z.2,z.1)]).map dP)]) n q=B' at st ⊢
      generalize pt (bx ++ [.lst ((ps ++ [x]).map dP)]) n q=B at bg st ⊢
      generalize (ps ++ [x]).map dP=L at bg a0 hl es
      have i0:d2 false ixD (dV 3) (dC (.int 0)) [some (.b n),x1,x2,some (.b bx.length),w4,w5,w6] B=.val (.d (dP z)) B:=OV rfl rfl bg a0
      have tv:fF (fb (d2 false ixD (d2 false ixD (dV 3) (dC (.int 0))) (dC (.int 1))) (fb (d2 false ixD (d2 false ixD (dV 3) (dC (.int 0))) (dC (.int 0))) fc)) [some (.b n),x1,x2,some (.b bx.length),w4,w5,w6] B=.val (.d (.tup [.int z.2,.int z.1])) B :=
        Ac [.int z.2,.int z.1] (fm (gf (r:=.old (.int z.2)) i0 rfl rfl) (fm (gf (r:=.old (.int z.1)) i0 rfl rfl) rfl)) (show (2:Nat) <= sizeLine by omega)
      have sv:=OW (env:=[some (.b n),x1,x2,some (.b bx.length),w4,w5,w6]) (mo:=dV 3) (mi:=dNeg (dC (.int 1))) (w:=D.tup [.int z.2,.int z.1]) (bx:=B) (n:=bx.length) rfl (Lb rfl) bg hl
      rw [es,st] at sv
      exact OX tv sv
    . rcases List.mem_append.mp m with m | m
      . exact M w (List.mem_append.mpr (.inl m))
      . rw [List.mem_singleton.mp m]
        have:=M z mz
        exact ⟨this.2.2.1,this.2.2.2.1,this.1,this.2.1,Ne.symm this.2.2.2.2⟩
  . refine ⟨x,q,?_,M⟩
    have c:dB (d2 false eqD (fk K1.ff 2 (fb (dV 0) (fb (dC (.int 5)) fc))) (dC (.int 0))) [some (.b n),x1,x2,some (.b bx.length),w4,w5,w6] (pt (bx ++ [.lst ((ps ++ [x]).map dP)]) n p)=.val false (pt (bx ++ [.lst ((ps ++ [x]).map dP)]) n q):=by
      refine lR (b:=false) (gf (r:=.old (.bl false)) t rfl ?_)
      rw [BJ,decide_eq_false hr]
    exact Bk c
theorem MK {bx:List Bx}{n:Nat} (h:n < bx.length) (p k:Int) (hk:2 <= k) (hk5:k <= 5) (ps:List (Int × Int)) (hl:ps.length <= 1000) (M:Mv k ps) (x1 w4 w5 w6:Option W) :
    ∃ y q w5' w6',mBody [some (.b n),x1,some (.d (.int k)),some (.b bx.length),w4,w5,w6] (pt (bx ++ [.lst (ps.map dP)]) n p)=.nx [some (.b n),x1,some (.d (.int k)),some (.b bx.length),w4,w5',w6'] (pt (bx ++ [.lst ((ps ++ [y]).map dP)]) n q) /\ Mv k (ps ++ [y]):=by
  have sz:sizeLine=16777216:=sizeLine_eq
  have h1:n < (bx ++ [Bx.lst (ps.map dP)]).length:=by simp;omega
  obtain ⟨a,q1,t1,a0,a1⟩:=ly h1 (p:=p) (env:=[some (.b n),x1,some (.d (.int k)),some (.b bx.length),w4,w5,w6]) (i:=0) (m:=dV 2) (k:=k) rfl rfl (by omega) (by omega)
  obtain ⟨r,q2,t2,b0,b1⟩:=ly h1 (p:=q1) (env:=[some (.b n),x1,some (.d (.int k)),some (.b bx.length),w4,some (.d (.int a)),w6]) (i:=0) (m:=d2 false subD (dV 2) (dC (.int 1))) (k:=k - 1) rfl (gf (r:=.old (.int (k - 1))) rfl rfl rfl) (by omega) (by omega)
  obtain ⟨c0,c1,c2⟩:=Lv hk hk5 a0 a1 b0 b1
  have cd:modD (.int (a + 1 + r)) (.int k)=some (.old (.int ((a + 1 + r) % k))):=by
    simp [modD]
    omega
  have bg:=iH (p:=q2) (x:=.lst (ps.map dP)) h
  have st:=mD (p:=q2) (x:=.lst (ps.map dP)) (y:=.lst ((ps ++ [(a,(a + 1 + r) % k)]).map dP)) h
  have M':Mv k (ps ++ [(a,(a + 1 + r) % k)]):=fun w m=>by
    rcases List.mem_append.mp m with m | m
    . exact M w m
    . rw [List.mem_singleton.mp m];exact ⟨a0,a1,c0,c1,c2⟩
  obtain ⟨y,q,e,My⟩:=Ob h q2 k ps _ M' x1 (some (.d (.int k))) w4 (some (.d (.int a))) (some (.d (.int ((a + 1 + r) % k))))
  refine ⟨y,q,some (.d (.int a)),some (.d (.int ((a + 1 + r) % k))),?_,My⟩
  generalize (a + 1 + r) % k=b at cd st e ⊢
  generalize pt (bx ++ [.lst ((ps ++ [y]).map dP)]) n q=B4 at e ⊢
  have ap:gR (dApp (dV 3) (fF (fb (dV 5) (fb (dV 6) fc)))) [some (.b n),x1,some (.d (.int k)),some (.b bx.length),w4,some (.d (.int a)),some (.d (.int b))] (pt (bx ++ [.lst (ps.map dP)]) n q2)=.nx [some (.b n),x1,some (.d (.int k)),some (.b bx.length),w4,some (.d (.int a)),some (.d (.int b))] (pt (bx ++ [.lst ((ps ++ [(a,b)]).map dP)]) n q2):=by
    have ap:=F6 (m:=dV 3) (k:=fF (fb (dV 5) (fb (dV 6) fc))) (env:=[some (.b n),x1,some (.d (.int k)),some (.b bx.length),w4,some (.d (.int a)),some (.d (.int b))]) (d:=dP (a,b)) rfl bg (Ac [.int a,.int b] rfl (show (2:Nat) <= sizeLine by omega)) bg (by rw [List.length_map];omega)
    rw [show ps.map dP ++ [dP (a,b)]=(ps ++ [(a,b)]).map dP by simp,st] at ap
    exact mU ap
  refine Eq.trans ?_ e
  generalize pt (bx ++ [.lst ((ps ++ [(a,b)]).map dP)]) n q2=B3 at ap ⊢
  generalize pt (bx ++ [.lst (ps.map dP)]) n q2=B2 at t2 ap
  generalize pt (bx ++ [.lst (ps.map dP)]) n q1=B1 at t1 t2
  refine (fI (jK t1)).trans ((fI (jK (gf (r:=.old (.int b)) (gf (r:=.old (.int (a + 1 + r))) (gf (r:=.old (.int (a + 1))) rfl rfl rfl) t2 rfl) rfl cd))).trans (fI ap))
theorem Lw {bx:List Bx}{n:Nat} (h:n < bx.length) (p:Int) {d:D}{k:Nat} (H:House d k):∃ ps q,iQ [.b n,.d d] (pt bx n p)=.val (.d (.lst (ps.map dP))) (pt bx n q) /\ Mv k ps /\ ps.length <= 10:=by
  have sz:sizeLine=16777216:=sizeLine_eq
  obtain ⟨rs,kk,aa,bb,rfl,hn⟩:=H.rs
  have n0:=H.n0
  have n5:=H.n5
  have h1:n < (bx ++ [Bx.lst []]).length:=by simp;omega
  have s1:sPar 2 3 (fb (dN false lenD (fb (d2 false ixD (dV 1) (dC (.int 0))) fc)) (fb (fS true fc) fc)) [some (.b n),some (.d (.tup [.tup rs,kk,aa,bb])),none,none,none,none,none] (pt bx n p)=.nx [some (.b n),some (.d (.tup [.tup rs,kk,aa,bb])),some (.d (.int (k:Nat))),some (.b bx.length),none,none,none] (pt (bx ++ [.lst []]) n p):=by
    have a:=Ad (env:=[some (.b n),some (.d (.tup [.tup rs,kk,aa,bb])),none,none,none,none,none]) (ks:=fc) (bx:=pt bx n p) [] rfl (Nat.zero_le _)
    rw [lJ h,iE] at a
    have b:dN false lenD (fb (d2 false ixD (dV 1) (dC (.int 0))) fc) [some (.b n),some (.d (.tup [.tup rs,kk,aa,bb])),none,none,none,none,none] (pt bx n p)=.val (.d (.int (k:Nat))) (pt bx n p) :=
      lQ (r:=.old (.int (k:Nat))) [.tup rs] (fm (gf (r:=.old (.tup rs)) rfl rfl rfl) rfl) (by simp [lenD,hn])
    exact BK b a
  obtain ⟨c,q1,rg,hc,hk1⟩:∃ (c:Nat) (q1:Int),dRng1 (fb (dIf (dB (d2 false gtI (dV 2) (dC (.int 1)))) (fk K1.ff 2 (fb (dV 0) (fb (dC (.int 11)) fc))) (dC (.int 0))) fc) [some (.b n),some (.d (.tup [.tup rs,kk,aa,bb])),some (.d (.int (k:Nat))),some (.b bx.length),none,none,none] (pt (bx ++ [.lst []]) n p)=.val (fO 0 c) (pt (bx ++ [.lst []]) n q1) /\ c <= 10 /\ (1 <= c->2 <= k):=by
    by_cases hk:2 <= k
    . obtain ⟨r,q1,t,r0,r1⟩:=takeC h1 p (env:=[some (.b n),some (.d (.tup [.tup rs,kk,aa,bb])),some (.d (.int (k:Nat))),some (.b bx.length),none,none,none]) (i:=0) rfl 11 (by decide) (by decide)
      obtain ⟨c,rfl⟩:=Int.eq_ofNat_of_zero_le r0
      refine ⟨c,q1,?_,by omega,fun _=>hk⟩
      generalize pt (bx ++ [.lst []]) n p=B at t ⊢
      have ct:dB (d2 false gtI (dV 2) (dC (.int 1))) [some (.b n),some (.d (.tup [.tup rs,kk,aa,bb])),some (.d (.int (k:Nat))),some (.b bx.length),none,none,none] B=.val true B:=by
        refine lR (b:=true) (gf (r:=.old (.bl true)) rfl rfl ?_)
        simp [gtI];omega
      have di:dIf (dB (d2 false gtI (dV 2) (dC (.int 1)))) (fk K1.ff 2 (fb (dV 0) (fb (dC (.int 11)) fc))) (dC (.int 0)) [some (.b n),some (.d (.tup [.tup rs,kk,aa,bb])),some (.d (.int (k:Nat))),some (.b bx.length),none,none,none] B=.val (.d (.int (c:Nat))) (pt (bx ++ [.lst []]) n q1):=by
        unfold dIf;rw [ct,gj];exact t
      rw [lI (fm di rfl) (by omega),Int.toNat_natCast]
    . refine ⟨0,p,?_,by omega,fun z=>by omega⟩
      generalize pt (bx ++ [.lst []]) n p=B
      have ct:dB (d2 false gtI (dV 2) (dC (.int 1))) [some (.b n),some (.d (.tup [.tup rs,kk,aa,bb])),some (.d (.int (k:Nat))),some (.b bx.length),none,none,none] B=.val false B:=by
        refine lR (b:=false) (gf (r:=.old (.bl false)) rfl rfl ?_)
        simp [gtI];omega
      have di:dIf (dB (d2 false gtI (dV 2) (dC (.int 1)))) (fk K1.ff 2 (fb (dV 0) (fb (dC (.int 11)) fc))) (dC (.int 0)) [some (.b n),some (.d (.tup [.tup rs,kk,aa,bb])),some (.d (.int (k:Nat))),some (.b bx.length),none,none,none] B=.val (.d (.int 0)) B:=by
        unfold dIf;rw [ct,gj];rfl
      exact lI (fm di rfl) (by decide)
  obtain ⟨env',bx',e,ps,q,w4,w5,w6,rfl,rfl,l,M⟩:=mC (g:=fe 4) (body:=mBody) (fun i env bb'=>∃ ps q w4 w5 w6,env=[some (.b n),some (.d (.tup [.tup rs,kk,aa,bb])),some (.d (.int (k:Nat))),some (.b bx.length),w4,w5,w6] /\ bb'=pt (bx ++ [.lst (ps.map dP)]) n q /\ ps.length=i /\ Mv k ps) (fO 0 c) 0 _ _ ⟨[],q1,none,none,none,rfl,rfl,rfl,fun _ m=>nomatch m⟩ (by
      rintro i w env bb' hw ⟨ps,q,w4,w5,w6,rfl,rfl,l,M⟩
      rw [Nat.zero_add] at l ⊢
      obtain ⟨rfl,hi⟩:=mF hw
      obtain ⟨y,q',w5',w6',e',M'⟩:=MK h q (k:Nat) (by have:=hk1 (by omega);omega) (by omega) ps (by omega) M (some (.d (.tup [.tup rs,kk,aa,bb]))) (some (.d (.int (0 + (i:Nat))))) w5 w6
      exact ⟨_,_,[some (.b n),some (.d (.tup [.tup rs,kk,aa,bb])),some (.d (.int (k:Nat))),some (.b bx.length),some (.d (.int (0 + (i:Nat)))),w5',w6'],_,rfl,e',ps ++ [y],q',_,w5',w6',rfl,rfl,by simp [l],M'⟩)
  have lr:(fO 0 c).length=c:=by simp [fO]
  rw [lr,Nat.zero_add] at l
  refine ⟨ps,q,?_,M,by omega⟩
  have bg:=iH (p:=q) (x:=.lst (ps.map dP)) h
  have M2:lF [some (.b n),some (.d (.tup [.tup rs,kk,aa,bb])),none,none,none,none,none] (pt bx n p)=.rt (.d (.lst (ps.map dP))) ((pt (bx ++ [.lst (ps.map dP)]) n q).set bx.length .dead):=by
    unfold lF
    exact (fI s1).trans ((fI ((mV rg).trans e)).trans (iG (OO rfl bg)))
  refine (A1 M2).trans ?_
  rw [iE,mD h,A2 h]
end K52
set_option Elab.async false
set_option linter.all false
set_option maxRecDepth 100000
set_option maxHeartbeats 400000
set_option exponentiation.threshold 3000
namespace K2
open PySem PySem.Spec PyProof.Rows L2 L2.DL K1
end K2
set_option Elab.async false
set_option linter.all false
set_option maxRecDepth 100000
set_option maxHeartbeats 400000
set_option exponentiation.threshold 3000
namespace K52
open PySem PySem.Spec PyProof.Rows L2 L2.DL K1
section
variable {env : DEnv} {bx bx1 bx2 : List Bx}
theorem ML {m k:DE W}{j t:Nat}{i:Int}{l l0:List D}{d:D} (h1:m env bx=.val (.b j) bx1) (g0:bx1[j]?=some (.lst l0)) (h2:k env bx1=.val (.d (.int i)) bx2) (g:bx2[j]?=some (.lst l)) (hi:-(2 ^ 63) <= i /\ i < 2 ^ 63) (hx:ixN l.length i=some t) (hd:l[t]?=some d) :
    dPopAt m k env bx=.val (.d d) (bx2.set j (.lst (l.eraseIdx t))):=by
  unfold dPopAt
  rw [h1,gj]
  simp only [g0,h2,gj,g,if_pos hi,hx,hd]
end
theorem MM {m t:Nat} (h:t < m):ixN m (t:Int)=some t:=by
  unfold ixN
  simp
  omega
noncomputable abbrev mPop:DE W:=dPopAt (dV 1) (fk K1.ff 2 (fb (dV 2) (fb (dN false lenD (fb (dV 1) fc)) fc)))
theorem A3 {bx:List Bx}{n:Nat} (h:n < bx.length):∀ (l:List W) (left:List D) (w:Option W) (p:Int) (acc:List D),left.length=l.length->left.length <= 1000->acc.length + l.length <= sizeLine ->
    ∃ ds q,compD (fe 0) fZ mPop l [w,some (.b bx.length),some (.b n)] (pt (bx ++ [.lst left]) n p) acc=.val (acc ++ ds) (pt (bx ++ [.lst []]) n q) /\ ds.length=l.length /\ ∀ d ∈ ds,d ∈ left
  | [],left,w,p,acc,hl,_,_=>by
    cases left with
    | nil=>exact ⟨[],p,by simp [compD],rfl,fun d m=>nomatch m⟩
    | cons a b=>simp at hl
  | u :: l,left,w,p,acc,hl,h1000,z=>by
    have h1:n < (bx ++ [Bx.lst left]).length:=by simp;omega
    have b0:=iH (p:=p) (x:=.lst left) h
    have ln:dN false lenD (fb (dV 1) fc) [some u,some (.b bx.length),some (.b n)] (pt (bx ++ [.lst left]) n p)=.val (.d (.int left.length)) (pt (bx ++ [.lst left]) n p):=Fo rfl b0
    have lp:0 < left.length:=by rw [hl];simp
    obtain ⟨r,q,t,r0,r1⟩:=ly h1 (env:=[some u,some (.b bx.length),some (.b n)]) (i:=2) rfl ln (by omega) (by omega)
    obtain ⟨c,rfl⟩:=Int.eq_ofNat_of_zero_le r0
    have hc:c < left.length:=by omega
    have b1:=iH (p:=q) (x:=.lst left) h
    have pv:=ML (m:=dV 1) rfl b0 t b1 ⟨by omega,by omega⟩ (MM hc) (List.getElem?_eq_getElem hc)
    rw [mD h] at pv
    have z':acc.length < sizeLine:=by simp only [List.length_cons] at z;omega
    have el:(left.eraseIdx c).length=l.length:=by rw [List.length_eraseIdx_of_lt hc,hl];simp
    obtain ⟨ds,q',e3,e4,e5⟩:=A3 h l (left.eraseIdx c) (some u) q (acc ++ [left[c]]) el (by rw [el];simp at hl;omega) (by simp only [List.length_append,List.length_cons,List.length_nil] at z ⊢;omega)
    refine ⟨left[c] :: ds,q',?_,by simp [e4],fun x m=>?_⟩
    . have g0:fe 0 u [w,some (.b bx.length),some (.b n)] (pt (bx ++ [.lst left]) n p)=some ([some u,some (.b bx.length),some (.b n)],pt (bx ++ [.lst left]) n p):=rfl
      simp only [compD,g0,FO,Mm,pv,if_pos z',e3]
      simp
    . rcases List.mem_cons.mp m with rfl | m
      . exact List.getElem_mem hc
      . exact List.mem_of_mem_eraseIdx (e5 x m)
theorem Lx {bx:List Bx}{n:Nat} (h:n < bx.length) (p:Int) (l:List D) (hl:l.length <= 1000):∃ ds q,iR [.b n,.d (.lst l)] (pt bx n p)=.val (.d (.lst ds)) (pt bx n q) /\ ds.length=l.length /\ ∀ d ∈ ds,d ∈ l:=by
  have sz:sizeLine=16777216:=sizeLine_eq
  obtain ⟨ds,q,e1,e2,e3⟩:=A3 h (l.map W.d) l none p [] (by simp) hl (by simp;omega)
  rw [List.nil_append] at e1
  have s1:fJ (dN true listD (fb (dV 1) fc)) (fe 2) [some (.b n),some (.d (.lst l)),none] (pt bx n p)=.nx [some (.b n),some (.d (.lst l)),some (.b bx.length)] (pt (bx ++ [.lst l]) n p):=by
    have a:dN true listD (fb (dV 1) fc) [some (.b n),some (.d (.lst l)),none] (pt bx n p)=.val (.b bx.length) (pt (bx ++ [.lst l]) n p):=by
      rw [Fd,fm (w:=.d (.lst l)) (l:=[]) rfl rfl,gj,<-lJ h]
      have:=iE (bx:=bx) (n:=n) (p:=p)
      show O.val (W.b (pt bx n p).length) _=_
      rw [this]
    exact jK a
  have M:lG [some (.b n),some (.d (.lst l)),none] (pt bx n p)=.rt (.d (.lst ds)) (pt (bx ++ [.lst []]) n q):=by
    unfold lG
    exact (fI s1).trans (iG (j4 (lE rfl) rfl e1))
  refine ⟨ds,q,(A1 M).trans ?_,by rw [e2];simp,e3⟩
  rw [iE,A2 h]
noncomputable abbrev El (x:D):Prop:=Sm (10 ^ 30) 2 3850 x
structure Rw (L:Nat) (l:List D):Prop where
  len:l.length <= L
  all:∀ x ∈ l,El x
theorem Ly (l:List D) (x y:Option Int):(cutD l x y).length <= l.length:=by
  unfold DL.cutD
  rw [List.length_take,List.length_drop]
  omega
theorem Lz {l:List D}{x y:Option Int}{d:D} (m:d ∈ cutD l x y):d ∈ l:=List.mem_of_mem_drop (List.mem_of_mem_take m)
theorem Rw.cut {L:Nat}{l:List D} (h:Rw L l) (x y:Option Int):Rw L (cutD l x y):=⟨Nat.le_trans (Ly l x y) h.len,fun d m=>h.all d (Lz m)⟩
theorem Rw.app {L K:Nat}{l m:List D} (h:Rw L l) (k:Rw K m):Rw (L + K) (l ++ m):=⟨by rw [List.length_append];exact Nat.add_le_add h.len k.len,fun d z=>(List.mem_append.mp z).elim (h.all d) (k.all d)⟩
theorem Rw.one {d:D} (h:El d):Rw 1 [d]:=⟨Nat.le_refl _,fun x m=>by rw [List.mem_singleton.mp m];exact h⟩
theorem Rw.mono {L K:Nat}{l:List D} (h:Rw L l) (k:L <= K):Rw K l:=⟨Nat.le_trans h.len k,h.all⟩
theorem Rw.rev {L:Nat}{l:List D} (h:Rw L l):Rw L l.reverse:=⟨by rw [List.length_reverse];exact h.len,fun d m=>h.all d (List.mem_reverse.mp m)⟩
theorem addL {a b:List D}{L K:Nat} (h:Rw L a) (k:Rw K b) (z:L + K <= 1000000):fB (.lst a) (.lst b)=some (.lst (a ++ b)):=by
  have sz:sizeLine=16777216:=sizeLine_eq
  have:=h.len
  have:=k.len
  exact if_pos (by omega)
theorem A4 {i:Int} (h:i.natAbs <= 1000):El (.int i):=(Sm.int (B:=10 ^ 30) (a:=2) (Nat.le_trans h (by decide))).mono (Nat.le_refl _) (by decide)
noncomputable abbrev cW (c:Int):DE Bool:=dB (d2 false eqD (dV 4) (dC (.int c)))
theorem MN {bx:List Bx}{x0 x1 x2 x3 x5 x6:Option W}{w:Int} (c:Int):cW c [x0,x1,x2,x3,some (.d (.int w)),x5,x6] bx=.val (decide (w=c)) bx :=
  lR (gf (r:=.old (.bl (decide (w=c)))) rfl rfl BJ)
theorem BL {bx:List Bx}{n:Nat} (h:n < bx.length) (p:Int) (m:Nat) (hm:m <= 100) (l:List D) (L:Nat) (hL:L <= 1000) (R:Rw L l) :
    ∃ r q,gm [.b n,.d (.int m),.d (.lst l)] (pt bx n p)=.val (.d r) (pt bx n q) /\ ∃ l',(r=.lst l' \/ r=.tup l') /\ Rw (2 * L + 1) l':=by
  have sz:sizeLine=16777216:=sizeLine_eq
  have hl:=R.len
  have E0:∀ B,dN false listD (fb (dV 2) fc) [some (.b n),some (.d (.int m)),some (.d (.lst l)),none,none,none,none] B=.val (.d (.lst l)) B:=fun B=>lQ (r:=.lst l) [.lst l] (fm rfl rfl) rfl
  obtain ⟨w,q1,t1,w0,w1⟩:=takeC h p (env:=[some (.b n),some (.d (.int m)),some (.d (.lst l)),none,none,none,none]) (i:=0) rfl 7 (by decide) (by decide)
  have ln:∀ B x5,d2 false fB (dN false lenD (fb (dV 3) fc)) (dC (.int 1)) [some (.b n),some (.d (.int m)),some (.d (.lst l)),some (.d (.lst l)),some (.d (.int w)),x5,none] B=.val (.d (.int (l.length + 1))) B:=fun B x5=>gf (r:=.old (.int (l.length + 1))) (lQ (r:=.old (.int l.length)) [.lst l] (fm rfl rfl) rfl) rfl rfl
  obtain ⟨a,q2,t2,a0,a1⟩:=ly h (env:=[some (.b n),some (.d (.int m)),some (.d (.lst l)),some (.d (.lst l)),some (.d (.int w)),none,none]) (i:=0) rfl (ln (pt bx n q1) none) (by omega) (by omega)
  obtain ⟨b,q3,t3,b0,b1⟩:=ly h (env:=[some (.b n),some (.d (.int m)),some (.d (.lst l)),some (.d (.lst l)),some (.d (.int w)),none,none]) (i:=0) rfl (ln (pt bx n q2) none) (by omega) (by omega)
  have s1:=(BK (i:=3) (j:=4) (E0 (pt bx n p)) t1)
  have s2:=(BK (i:=5) (j:=6) t2 t3)
  have fin:∀ {r:D}{q:Int} (rest:DSt),rest [some (.b n),some (.d (.int m)),some (.d (.lst l)),some (.d (.lst l)),some (.d (.int w)),some (.d (.int a)),some (.d (.int b))] (pt bx n q3)=.rt (.d r) (pt bx n q) ->
      (mE=fu (sPar 3 4 (fb (dN false listD (fb (dV 2) fc)) (fb (fk K1.ff 2 (fb (dV 0) (fb (dC (.int 7)) fc))) fc))) (fu (sPar 5 6 (fb (fk K1.ff 2 (fb (dV 0) (fb (d2 false fB (dN false lenD (fb (dV 3) fc)) (dC (.int 1))) fc))) (fb (fk K1.ff 2 (fb (dV 0) (fb (d2 false fB (dN false lenD (fb (dV 3) fc)) (dC (.int 1))) fc))) fc))) rest)) ->
      gm [.b n,.d (.int m),.d (.lst l)] (pt bx n p)=.val (.d r) (pt bx n q):=by
    intro r q rest hr hM
    refine J6 ?_ (by rw [iE,iE];exact Nat.le_refl _)
    rw [hM]
    exact (fI s1).trans ((fI s2).trans hr)
  have c1:∀ B,dSl false (dV 3) dNo (dPart (dV 5)) [some (.b n),some (.d (.int m)),some (.d (.lst l)),some (.d (.lst l)),some (.d (.int w)),some (.d (.int a)),some (.d (.int b))] B=.val (.d (.lst (cutD l none (some a)))) B:=fun B=>AZ (r:=.lst _) rfl rfl (mB rfl) rfl
  have c2:∀ B,dSl false (dV 3) (dPart (d2 false fB (dV 5) (dC (.int 1)))) dNo [some (.b n),some (.d (.int m)),some (.d (.lst l)),some (.d (.lst l)),some (.d (.int w)),some (.d (.int a)),some (.d (.int b))] B=.val (.d (.lst (cutD l (some (a + 1)) none))) B:=fun B=>AZ (r:=.lst _) rfl (mB (gf (r:=.old (.int (a + 1))) rfl rfl rfl)) rfl rfl
  have c3:∀ B,dSl false (dV 3) (dPart (dV 5)) dNo [some (.b n),some (.d (.int m)),some (.d (.lst l)),some (.d (.lst l)),some (.d (.int w)),some (.d (.int a)),some (.d (.int b))] B=.val (.d (.lst (cutD l (some a) none))) B:=fun B=>AZ (r:=.lst _) rfl (mB rfl) rfl rfl
  have c4:∀ B,dSl false (dV 3) (dPart (dV 6)) dNo [some (.b n),some (.d (.int m)),some (.d (.lst l)),some (.d (.lst l)),some (.d (.int w)),some (.d (.int a)),some (.d (.int b))] B=.val (.d (.lst (cutD l (some b) none))) B:=fun B=>AZ (r:=.lst _) rfl (mB rfl) rfl rfl
  have ift:∀ {c:Int}{x y:DSt}{B:List Bx},w=c->sIf (cW c) x y [some (.b n),some (.d (.int m)),some (.d (.lst l)),some (.d (.lst l)),some (.d (.int w)),some (.d (.int a)),some (.d (.int b))] B=x [some (.b n),some (.d (.int m)),some (.d (.lst l)),some (.d (.lst l)),some (.d (.int w)),some (.d (.int a)),some (.d (.int b))] B:=fun {c x y B} hc=>Bj (by rw [MN,decide_eq_true hc])
  have iff':∀ {c:Int}{x:DSt}{B:List Bx},w ≠ c->sIf (cW c) x sNil [some (.b n),some (.d (.int m)),some (.d (.lst l)),some (.d (.lst l)),some (.d (.int w)),some (.d (.int a)),some (.d (.int b))] B=.nx [some (.b n),some (.d (.int m)),some (.d (.lst l)),some (.d (.lst l)),some (.d (.int w)),some (.d (.int a)),some (.d (.int b))] B:=fun {c x B} hc=>(Bk (by rw [MN,decide_eq_false hc])).trans rfl
  have RC:=R.cut
  by_cases h0:w=0
  . refine ⟨_,q3,fin _ ((lx ((ift h0).trans (iG (gf (r:=.lst _) (c1 _) (c2 _) (addL (RC _ _) (RC _ _) (by omega))))))) rfl,_,.inl rfl,((RC _ _).app (RC _ _)).mono (by omega)⟩
  by_cases h1:w=1
  . obtain ⟨u,q4,t4,u0,u1⟩:=ly h (p:=q3) (env:=[some (.b n),some (.d (.int m)),some (.d (.lst l)),some (.d (.lst l)),some (.d (.int w)),some (.d (.int a)),some (.d (.int b))]) (i:=0) (m:=d2 false fB (dV 1) (dC (.int 2))) (k:=(m:Int) + 2) rfl (gf (r:=.old (.int ((m:Int) + 2))) rfl rfl rfl) (by omega) (by omega)
    obtain ⟨v,q5,t5,v0,v1⟩:=takeC h q4 (env:=[some (.b n),some (.d (.int m)),some (.d (.lst l)),some (.d (.lst l)),some (.d (.int w)),some (.d (.int a)),some (.d (.int b))]) (i:=0) rfl 6 (by decide) (by decide)
    have ti:dN false intD (fb (d2 false eqD (fk K1.ff 2 (fb (dV 0) (fb (dC (.int 6)) fc))) (dC (.int 0))) fc) [some (.b n),some (.d (.int m)),some (.d (.lst l)),some (.d (.lst l)),some (.d (.int w)),some (.d (.int a)),some (.d (.int b))] (pt bx n q4)=.val (.d (.int (if v=0 then 1 else 0))) (pt bx n q5):=by
      refine lQ (r:=.old (.int (if v=0 then 1 else 0))) [.bl (decide (v=0))] (fm (gf (r:=.old (.bl (decide (v=0)))) t5 rfl BJ) rfl) ?_
      by_cases hv:v=0 <;> simp [DL.intD,hv]
    have tv:fS false (fb (d2 false subD (fk K1.ff 2 (fb (dV 0) (fb (d2 false fB (dV 1) (dC (.int 2))) fc))) (dN false intD (fb (d2 false eqD (fk K1.ff 2 (fb (dV 0) (fb (dC (.int 6)) fc))) (dC (.int 0))) fc))) fc) [some (.b n),some (.d (.int m)),some (.d (.lst l)),some (.d (.lst l)),some (.d (.int w)),some (.d (.int a)),some (.d (.int b))] (pt bx n q3)=.val (.d (.lst [.int (u - (if v=0 then 1 else 0))])) (pt bx n q5) :=
      mw [.int (u - (if v=0 then 1 else 0))] (fm (gf (r:=.old (.int (u - (if v=0 then 1 else 0)))) t4 ti rfl) rfl) (show (1:Nat) <= sizeLine by omega)
    have ee:El (.int (u - (if v=0 then 1 else 0))):=A4 (by split <;> omega)
    refine ⟨_,q5,fin _ ((fI (iff' h0)).trans (lx ((ift h1).trans (iG (gf (r:=.lst _) (gf (r:=.lst _) (c1 _) tv (addL (RC _ _) (.one ee) (by omega))) (c3 _) (addL ((RC _ _).app (.one ee)) (RC _ _) (by omega))))))) rfl,_,.inl rfl,(((RC _ _).app (.one ee)).app (RC _ _)).mono (by omega)⟩
  by_cases h2:w=2
  . obtain ⟨d,q4,t4,md⟩:=J7 h q3
    have tv:fS false (fb (fk K1.gu 1 (fb (dV 0) fc)) fc) [some (.b n),some (.d (.int m)),some (.d (.lst l)),some (.d (.lst l)),some (.d (.int w)),some (.d (.int a)),some (.d (.int b))] (pt bx n q3)=.val (.d (.lst [d])) (pt bx n q4) :=
      mw [d] (fm (gz (fm rfl rfl) rfl t4) rfl) (show (1:Nat) <= sizeLine by omega)
    have ee:El d:=FX d md
    refine ⟨_,q4,fin _ ((fI (iff' h0)).trans ((fI (iff' h1)).trans (lx ((ift h2).trans (iG (gf (r:=.lst _) (gf (r:=.lst _) (c1 _) tv (addL (RC _ _) (.one ee) (by omega))) (c2 _) (addL ((RC _ _).app (.one ee)) (RC _ _) (by omega)))))))) rfl,_,.inl rfl,(((RC _ _).app (.one ee)).app (RC _ _)).mono (by omega)⟩
  by_cases h3:w=3
  . refine ⟨_,q3,fin _ ((fI (iff' h0)).trans ((fI (iff' h1)).trans ((fI (iff' h2)).trans (lx ((ift h3).trans (iG (gf (r:=.lst _) (c3 _) (c1 _) (addL (RC _ _) (RC _ _) (by omega))))))))) rfl,_,.inl rfl,((RC _ _).app (RC _ _)).mono (by omega)⟩
  by_cases h4:w=4
  . refine ⟨_,q3,fin _ ((fI (iff' h0)).trans ((fI (iff' h1)).trans ((fI (iff' h2)).trans ((fI (iff' h3)).trans (lx ((ift h4).trans (iG (gf (r:=.lst _) (c1 _) (c4 _) (addL (RC _ _) (RC _ _) (by omega)))))))))) rfl,_,.inl rfl,((RC _ _).app (RC _ _)).mono (by omega)⟩
  by_cases h5:w=5
  . have e:dIf (cW 5) (dRev false (dV 3)) (dN false tupleD (fb (dV 3) fc)) [some (.b n),some (.d (.int m)),some (.d (.lst l)),some (.d (.lst l)),some (.d (.int w)),some (.d (.int a)),some (.d (.int b))] (pt bx n q3)=.val (.d (.lst l.reverse)) (pt bx n q3):=by
      unfold dIf;rw [MN,decide_eq_true h5,gj];rfl
    refine ⟨_,q3,fin _ ((fI (iff' h0)).trans ((fI (iff' h1)).trans ((fI (iff' h2)).trans ((fI (iff' h3)).trans ((fI (iff' h4)).trans (iG e)))))) rfl,_,.inl rfl,R.rev.mono (by omega)⟩
  . have e:dIf (cW 5) (dRev false (dV 3)) (dN false tupleD (fb (dV 3) fc)) [some (.b n),some (.d (.int m)),some (.d (.lst l)),some (.d (.lst l)),some (.d (.int w)),some (.d (.int a)),some (.d (.int b))] (pt bx n q3)=.val (.d (.tup l)) (pt bx n q3):=by
      unfold dIf;rw [MN,decide_eq_false h5,gj];rfl
    refine ⟨_,q3,fin _ ((fI (iff' h0)).trans ((fI (iff' h1)).trans ((fI (iff' h2)).trans ((fI (iff' h3)).trans ((fI (iff' h4)).trans (iG e)))))) rfl,_,.inr rfl,R.mono (by omega)⟩
end K52
set_option Elab.async false
set_option linter.all false
set_option maxRecDepth 100000
set_option maxHeartbeats 400000
set_option exponentiation.threshold 3000
namespace K52
open PySem PySem.Spec PyProof.Rows L2 L2.DL K1 K2
theorem oF {m k:DE W}{env:DEnv}{bx bx1:List Bx}{r:O W} (h:m env bx=.val (.d (.bl true)) bx1) (h2:k env bx1=r):gE m k env bx=r:=by rw [FZ h];exact h2
theorem LA {m k:DE W}{env:DEnv}{bx bx1:List Bx} (h:m env bx=.val (.d (.bl false)) bx1):gE m k env bx=.val (.d (.bl false)) bx1:=by rw [FZ h];rfl
section
variable {bx : List Bx} {h : D} {k : Nat}
theorem F9 (H:House h k) (r:D):gG [.d h,.d r] bx=.val (.d (.bl (wi r 0 ((k:Int) - 1)))) bx:=by
  obtain ⟨rs,hold,HI⟩:=GY H.h
  have e:=GZ (bx:=bx) HI r
  obtain ⟨rs',kk,a,b,e1,e2⟩:=H.rs
  obtain ⟨k',p',e3⟩:=HI.e
  rw [e1] at e3
  have:rs.length=k:=by
    have:=congrArg (fun d=>match d with | D.tup (.tup l :: _)=>l.length | _=>0) e3
    simp at this
    omega
  rw [this] at e
  exact e
theorem G1 (H:House h k) {q:Int × Int} (hq:0 <= q.1 /\ q.1 < (k:Int) /\ 0 <= q.2 /\ q.2 < (k:Int) /\ q.1 ≠ q.2):jv [.d h,.d (dP q)] bx=.val (.d (.bl true)) bx:=by
  have sz:sizeLine=16777216:=sizeLine_eq
  refine i9 ?_
  have t:=gw (dP q) 2 2 bx
  have tt:tl (dP q) 2 2=true:=by simp [tl]
  rw [tt] at t
  have ca:compD (fe 0) fZ (fk K2.gG 2 (fb (dV 1) (fb (dV 0) fc))) ([D.int q.1,.int q.2].map W.d) [none,some (.d h)] bx []=.val ([D.int q.1,.int q.2].map fun d=>.bl (wi d 0 ((k:Int) - 1))) bx :=
    iI (fun e=>∃ w,e=[w,some (.d h)]) _ ⟨none,rfl⟩ (by
      rintro d m env ⟨w,rfl⟩
      exact ⟨[some (.d d),some (.d h)],rfl,⟨_,rfl⟩,gz (fm rfl (fm rfl rfl)) rfl (F9 H d)⟩) (show (2:Nat) <= sizeLine by omega)
  have al:([D.int q.1,.int q.2].all fun d=>wi d 0 ((k:Int) - 1))=true:=by simp [wi];omega
  have a2:dN false allD (fb (ge false [none,some 0] (dIter (dV 1)) (fe 0) fZ (fk K2.gG 2 (fb (dV 1) (fb (dV 0) fc)))) fc) [some (.d h),some (.d (dP q))] bx=.val (.d (.bl true)) bx :=
    lQ (r:=.old (.bl true)) [.lst ([D.int q.1,.int q.2].map fun d=>.bl (wi d 0 ((k:Int) - 1)))] (fm (j4 (Mt rfl) rfl ca) rfl) (by rw [all_map,al])
  have a3:d2 false neD (d2 false ixD (dV 1) (dC (.int 0))) (d2 false ixD (dV 1) (dC (.int 1))) [some (.d h),some (.d (dP q))] bx=.val (.d (.bl true)) bx :=
    gf (r:=.old (.bl true)) (gf (r:=.old (.int q.1)) rfl rfl rfl) (gf (r:=.old (.int q.2)) rfl rfl rfl) (by simp [neD,hq.2.2.2.2])
  show og [some (.d h),some (.d (dP q))] bx=_
  unfold og
  exact iG (oF (gz (fm rfl (fm rfl (fm rfl rfl))) rfl t) (oF a2 a3))
theorem Di (H:House h k) {ps:List (Int × Int)} (M:Mv k ps) (hl:ps.length <= 10):j6 [.d h,.d (.lst (ps.map dP))] bx=.val (.d (.bl true)) bx:=by
  have sz:sizeLine=16777216:=sizeLine_eq
  refine i9 ?_
  have ca:compD (fe 0) fZ (fk K52.jv 2 (fb (dV 1) (fb (dV 0) fc))) ((ps.map dP).map W.d) [none,some (.d h)] bx []=.val ((ps.map dP).map fun d=>.bl true) bx :=
    iI (fun e=>∃ w,e=[w,some (.d h)]) _ ⟨none,rfl⟩ (by
      rintro d m env ⟨w,rfl⟩
      obtain ⟨q,mq,rfl⟩:=List.mem_map.mp m
      exact ⟨[some (.d (dP q)),some (.d h)],rfl,⟨_,rfl⟩,gz (fm rfl (fm rfl rfl)) rfl (G1 H (M q mq))⟩) (by rw [List.length_map];omega)
  have a1:ic "list" (dV 1) [some (.d h),some (.d (.lst (ps.map dP)))] bx=.val (.d (.bl true)) bx:=rfl
  have a2:d2 false leD (dN false lenD (fb (dV 1) fc)) (dC (.int 10)) [some (.d h),some (.d (.lst (ps.map dP)))] bx=.val (.d (.bl true)) bx :=
    gf (r:=.old (.bl true)) (lQ (r:=.old (.int ((ps.map dP).length:Nat))) [.lst (ps.map dP)] (fm rfl rfl) rfl) rfl (by simp [leD];omega)
  have a3:dN false allD (fb (ge false [none,some 0] (dIter (dV 1)) (fe 0) fZ (fk K52.jv 2 (fb (dV 1) (fb (dV 0) fc)))) fc) [some (.d h),some (.d (.lst (ps.map dP)))] bx=.val (.d (.bl true)) bx :=
    lQ (r:=.old (.bl true)) [.lst ((ps.map dP).map fun d=>.bl true)] (fm (j4 (lE rfl) rfl ca) rfl) (by rw [all_map (p:=fun _=>true)];simp)
  show lH [some (.d h),some (.d (.lst (ps.map dP)))] bx=_
  unfold lH
  exact iG (oF a1 (oF a2 a3))
theorem Ci (H:House h k):K52.iB [.d h] bx=.val (.d .non) bx:=by
  have e:=J2 h H.ok bx
  rw [H.h] at e
  have m:K52.iq [some (.d h)] bx=.nx [some (.d h)] bx:=by
    unfold K52.iq
    exact Bk (mT (lR (gz (fm rfl rfl) rfl e)))
  show cutO bx.length (retO (noX K52.iq [some (.d h)] bx))=_
  unfold noX
  rw [m]
  simp [retO,cutO]
theorem Cj (H:House h k) {ps:List (Int × Int)} (M:Mv k ps) (hl:ps.length <= 10):iY [.d h,.d (.lst (ps.map dP))] bx=.val (.d .non) bx:=by
  have e:=Ci (bx:=bx) H
  have a:=Di (bx:=bx) H M hl
  have m:jn [some (.d h),some (.d (.lst (ps.map dP)))] bx=.nx [some (.d h),some (.d (.lst (ps.map dP)))] bx:=by
    unfold jn
    exact (fI (mU (gz (fm rfl rfl) rfl e))).trans (Bk (mT (lR (gz (fm rfl (fm rfl rfl)) rfl a))))
  show cutO bx.length (retO (noX jn [some (.d h),some (.d (.lst (ps.map dP)))] bx))=_
  unfold noX
  rw [m]
  simp [retO,cutO]
end
noncomputable def rowOne (is:List Int) (q:Int × Int):Bool:=match is.findIdx? (fun z=>decide (z=q.1)) with
  | none=>false
  | some i=>(is.drop i).any fun z=>decide (z=q.2)
theorem LB (is:List Int) (b:Int):inF (.int b) (is.map D.int)=is.any fun z=>decide (z=b):=by
  unfold inF
  rw [List.any_map]
  rfl
theorem BM (is:List Int):(is.map D.int).all flatD=true:=by rw [List.all_map];exact List.all_eq_true.mpr fun _ _=>rfl
theorem G2 (is:List Int) (b:Int):((is.map D.int).findIdx? fun z=>eqF z (.int b))=is.findIdx? fun z=>decide (z=b):=by
  rw [List.findIdx?_map]
  rfl
section
variable {bx : List Bx}
noncomputable abbrev lBody:DSt:=sIf (dOr (dB (d2 false (inD true) (dV 3) (dV 2))) (dB (d2 false (inD true) (dV 4) (dSl false (dV 2) (dPart (dIndex (dV 2) (dV 3))) dNo)))) (fM (dC (.bl false))) sNil
theorem OY (is:List Int) (b:Int):inD true (.int b) (.lst (is.map D.int))=some (.old (.bl (!(is.any fun z=>decide (z=b))))):=by
  show (if flatD (.int b)=true /\ (is.map D.int).all flatD=true then some (Res.old (.bl (if true then !inF (.int b) (is.map D.int) else inF (.int b) (is.map D.int)))) else none)=_
  rw [if_pos ⟨rfl,BM is⟩,LB]
  rfl
theorem MO (is:List Int) (q:Int × Int) (x0 x1:Option W):lBody [x0,x1,some (.d (.lst (is.map D.int))),some (.d (.int q.1)),some (.d (.int q.2))] bx=if rowOne is q then .nx [x0,x1,some (.d (.lst (is.map D.int))),some (.d (.int q.1)),some (.d (.int q.2))] bx else .rt (.d (.bl false)) bx:=by
  have t1:dB (d2 false (inD true) (dV 3) (dV 2)) [x0,x1,some (.d (.lst (is.map D.int))),some (.d (.int q.1)),some (.d (.int q.2))] bx=.val (!(is.any fun z=>decide (z=q.1))) bx:=lR (gf (r:=.old _) rfl rfl (OY is q.1))
  cases hf:is.findIdx? (fun z=>decide (z=q.1)) with
  | none =>
    have ha:(is.any fun z=>decide (z=q.1))=false:=by
      rw [List.findIdx?_eq_none_iff] at hf
      rw [List.any_eq_false]
      intro z m
      simpa using hf z m
    rw [ha] at t1
    have r0:rowOne is q=false:=by unfold rowOne;rw [hf]
    rw [r0]
    exact (Bj (La t1)).trans (iG rfl)
  | some i =>
    obtain ⟨hi,hi1,hi2⟩:=List.findIdx?_eq_some_iff_getElem.mp hf
    have ha:(is.any fun z=>decide (z=q.1))=true:=List.any_eq_true.mpr ⟨is[i],List.getElem_mem hi,hi1⟩
    rw [ha] at t1
    have ix:dIndex (dV 2) (dV 3) [x0,x1,some (.d (.lst (is.map D.int))),some (.d (.int q.1)),some (.d (.int q.2))] bx=.val (.d (.int (i:Nat))) bx:=by
      show (if flatD (.int q.1)=true /\ (is.map D.int).all flatD=true then (match (is.map D.int).findIdx? fun z=>eqF z (.int q.1) with | some j=>O.val (W.d (.int (j:Nat))) bx | none=>.bad) else .bad)=_
      rw [if_pos ⟨rfl,BM is⟩,G2,hf]
    have cf:=J8 (is.map D.int) i (by rw [List.length_map];omega)
    have sl:dSl false (dV 2) (dPart (dIndex (dV 2) (dV 3))) dNo [x0,x1,some (.d (.lst (is.map D.int))),some (.d (.int q.1)),some (.d (.int q.2))] bx=.val (.d (.lst ((is.drop i).map D.int))) bx:=by
      rw [List.map_drop,<-cf]
      exact AZ (r:=.lst _) rfl (mB ix) rfl rfl
    have t2:dB (d2 false (inD true) (dV 4) (dSl false (dV 2) (dPart (dIndex (dV 2) (dV 3))) dNo)) [x0,x1,some (.d (.lst (is.map D.int))),some (.d (.int q.1)),some (.d (.int q.2))] bx=.val (!((is.drop i).any fun z=>decide (z=q.2))) bx:=lR (gf (r:=.old _) rfl sl (OY _ q.2))
    have r0:rowOne is q=(is.drop i).any fun z=>decide (z=q.2):=by unfold rowOne;rw [hf]
    rw [r0]
    cases c:(is.drop i).any fun z=>decide (z=q.2) with
    | true=>rw [c] at t2;exact (Bk (AY t1 t2)).trans rfl
    | false=>rw [c] at t2;exact (Bj (AY t1 t2)).trans (iG rfl)
theorem Ga (is:List Int) (x0 x1:Option W):∀ (ps:List (Int × Int)) (w3 w4:Option W),∃ w3' w4',forD (ia 2 (fH (fe 3) (fH (fe 4) iu))) lBody ((ps.map dP).map W.d) [x0,x1,some (.d (.lst (is.map D.int))),w3,w4] bx=if ps.all (rowOne is) then .nx [x0,x1,some (.d (.lst (is.map D.int))),w3',w4'] bx else .rt (.d (.bl false)) bx
  | [],w3,w4=>⟨w3,w4,rfl⟩
  | q :: ps,w3,w4=>by
    have b:=MO (bx:=bx) is q x0 x1
    have g:ia 2 (fH (fe 3) (fH (fe 4) iu)) (.d (dP q)) [x0,x1,some (.d (.lst (is.map D.int))),w3,w4] bx=some ([x0,x1,some (.d (.lst (is.map D.int))),some (.d (.int q.1)),some (.d (.int q.2))],bx):=rfl
    cases c:rowOne is q with
    | false =>
      rw [c] at b
      refine ⟨w3,w4,?_⟩
      rw [List.all_cons,c,Bool.false_and,if_neg (by decide),List.map_cons,List.map_cons]
      exact N4 g b
    | true =>
      rw [c,if_pos rfl] at b
      obtain ⟨w3',w4',e⟩:=Ga is x0 x1 ps (some (.d (.int q.1))) (some (.d (.int q.2)))
      refine ⟨w3',w4',?_⟩
      rw [List.all_cons,c,Bool.true_and,List.map_cons,List.map_cons]
      exact (A0 g b).trans e
noncomputable def rowB (ps:List (Int × Int)) (k:Nat) (d:D):Bool:=match d with
  | .lst l=>l.all (fun x=>wi x 0 ((k:Int) - 1)) && (match intsOf l with | some is=>ps.all (rowOne is) | none=>false)
  | _=>false
theorem Gb {l:List D}{lo hi:Int} (h:l.all (fun x=>wi x lo hi)=true):∃ is:List Int,l=is.map D.int /\ ∀ i ∈ is,lo <= i /\ i <= hi:=by
  induction l with
  | nil=>exact ⟨[],rfl,fun i m=>nomatch m⟩
  | cons x l ih =>
    rw [List.all_cons,Bool.and_eq_true] at h
    obtain ⟨i,rfl,a,b⟩:=oE h.1
    obtain ⟨is,rfl,hi⟩:=ih h.2
    exact ⟨i :: is,rfl,fun j m=>by
      rcases List.mem_cons.mp m with rfl | m
      . exact ⟨a,b⟩
      . exact hi j m⟩
noncomputable def Ok (d:D):Prop:=match d with | .lst l=>l.length <= 1000000 | _=>True
theorem Ck (ps:List (Int × Int)) (k:Nat) (d:D) (ok:Ok d):iC [.d (.lst (ps.map dP)),.d (.int ((k:Int) - 1)),.d d] bx=.val (.d (.bl (rowB ps k d))) bx:=by
  have sz:sizeLine=16777216:=sizeLine_eq
  refine i9 ?_
  show j5 [some (.d (.lst (ps.map dP))),some (.d (.int ((k:Int) - 1))),some (.d d),none,none] bx=_
  unfold j5
  by_cases hd:∃ l,d=.lst l
  . obtain ⟨l,rfl⟩:=hd
    have i1:dNot (dB (ic "list" (dV 2))) [some (.d (.lst (ps.map dP))),some (.d (.int ((k:Int) - 1))),some (.d (.lst l)),none,none] bx=.val false bx:=mT (b:=true) (lR (b:=true) rfl)
    have ca:compD (fe 0) fZ (fk K1.gb 3 (fb (dV 0) (fb (dC (.int 0)) (fb (dV 1) fc)))) (l.map W.d) [none,some (.d (.int ((k:Int) - 1)))] bx []=.val (l.map fun d=>.bl (wi d 0 ((k:Int) - 1))) bx :=
      iI (fun e=>∃ w,e=[w,some (.d (.int ((k:Int) - 1)))]) _ ⟨none,rfl⟩ (by
        rintro d m env ⟨w,rfl⟩
        exact ⟨[some (.d d),some (.d (.int ((k:Int) - 1)))],rfl,⟨_,rfl⟩,gz (fm rfl (fm rfl (fm rfl rfl))) rfl (Fj d 0 _ bx)⟩) (by have:l.length <= 1000000:=ok;omega)
    have i2:dNot (dB (dN false allD (fb (ge false [none,some 1] (dIter (dV 2)) (fe 0) fZ (fk K1.gb 3 (fb (dV 0) (fb (dC (.int 0)) (fb (dV 1) fc))))) fc))) [some (.d (.lst (ps.map dP))),some (.d (.int ((k:Int) - 1))),some (.d (.lst l)),none,none] bx=.val (!(l.all fun d=>wi d 0 ((k:Int) - 1))) bx :=
      mT (lR (lQ (r:=.old (.bl (l.all fun d=>wi d 0 ((k:Int) - 1)))) [.lst (l.map fun d=>.bl (wi d 0 ((k:Int) - 1)))] (fm (j4 (lE rfl) rfl ca) rfl) (all_map _ _)))
    cases c:l.all (fun x=>wi x 0 ((k:Int) - 1)) with
    | false =>
      rw [c] at i2
      have r0:rowB ps k (.lst l)=false:=by simp only [rowB,c,Bool.false_and]
      rw [r0]
      exact lx ((Bj (AY i1 i2)).trans (iG rfl))
    | true =>
      rw [c] at i2
      obtain ⟨is,rfl,hi⟩:=Gb c
      have r0:rowB ps k (.lst (is.map D.int))=ps.all (rowOne is):=by simp only [rowB,c,Bool.true_and,K1.oV]
      rw [r0]
      refine (fI ((Bk (AY i1 i2)).trans rfl)).trans ?_
      obtain ⟨w3,w4,e⟩:=Ga (bx:=bx) is (some (.d (.lst (ps.map dP)))) (some (.d (.int ((k:Int) - 1)))) ps none none
      have e':=(mV (mi:=dIter (dV 0)) (g:=ia 2 (fH (fe 3) (fH (fe 4) iu))) (body:=lBody) (lE (ds:=ps.map dP) (bx1:=bx) rfl)).trans e
      cases c2:ps.all (rowOne is) with
      | true=>rw [c2,if_pos rfl] at e';exact (fI e').trans (iG rfl)
      | false=>rw [c2,if_neg (by decide)] at e';exact lx e'
  . have i1:dNot (dB (ic "list" (dV 2))) [some (.d (.lst (ps.map dP))),some (.d (.int ((k:Int) - 1))),some (.d d),none,none] bx=.val true bx:=by
      refine mT (b:=false) (lR (b:=false) ?_)
      cases d with
      | lst l=>exact absurd ⟨l,rfl⟩ hd
      | _=>rfl
    have r0:rowB ps k d=false:=by cases d with | lst l=>exact absurd ⟨l,rfl⟩ hd | _=>rfl
    rw [r0]
    exact lx ((Bj (La i1)).trans (iG rfl))
end
end K52
set_option Elab.async false
set_option linter.all false
set_option maxRecDepth 100000
set_option maxHeartbeats 400000
set_option exponentiation.threshold 3000
namespace K52
open PySem PySem.Spec PyProof.Rows L2 L2.DL K1 K2
theorem j9 (a:Key) (d:D) (l:List (Key × D)) (k:Key):getK ((a,d) :: l) k=if a=k then some d else getK l k:=by
  unfold getK
  by_cases h:a=k <;> simp [List.find?_cons,h]
theorem A5 (k:Key):∀ l:List (Key × D),(l.any fun kv=>decide (kv.1=k))=(getK l k).isSome
  | []=>rfl
  | (a,d) :: l=>by
    rw [j9,List.any_cons,A5 k l]
    by_cases h:a=k <;> simp [h]
theorem Dj (k k':Key) (d:D):∀ l:List (Key × D),getK (l.map fun kv=>if kv.1=k then (kv.1,d) else kv) k'=if k'=k then (getK l k).map (fun _=>d) else getK l k'
  | []=>by simp [getK]
  | (a,x) :: l=>by
    have ih:=Dj k k' d l
    rw [List.map_cons]
    by_cases h:a=k
    . simp only [h,if_true,j9,ih]
      by_cases h2:k'=k
      . simp [h2]
      . simp [h2,Ne.symm h2]
    . simp only [h,if_false,j9,ih]
      by_cases h2:k'=k
      . subst h2;simp [h]
      . simp [h2]
theorem Dk (k k':Key) (d:D):∀ l:List (Key × D),getK (l ++ [(k,d)]) k'=(getK l k').or (if k=k' then some d else none)
  | []=>by simp [j9,getK]
  | (a,x) :: l=>by
    rw [List.cons_append,j9,j9,Dk k k' d l]
    split <;> simp
theorem Dl (l:List (Key × D)) (k k':Key) (d:D):getK (putKD l k d) k'=if k'=k then some d else getK l k':=by
  unfold putKD
  split
  . rename_i h
    rw [A5] at h
    rw [Dj]
    by_cases h2:k'=k
    . rw [if_pos h2,if_pos h2]
      cases q:getK l k with
      | none=>rw [q] at h;cases h
      | some x=>rfl
    . rw [if_neg h2,if_neg h2]
  . rename_i h
    rw [A5] at h
    rw [Dk]
    by_cases h2:k'=k
    . subst h2
      cases q:getK l k' with
      | none=>simp
      | some x=>rw [q] at h;exact absurd rfl h
    . rw [if_neg h2,if_neg (Ne.symm h2)];simp
theorem BN (l:List (Key × D)) (k:Key) (d:D):(putKD l k d).length <= l.length + 1:=by
  unfold putKD
  split <;> simp
section
variable {env : DEnv} {bx bx1 bx2 bx3 : List Bx}
theorem LC {y:D}{j:Nat}{kx m:DE W}{l:List (Key × D)}{key:Key} (h1:kx env bx=.val (.d y) bx1) (h2:m env bx1=.val (.b j) bx2) (g:bx2[j]?=some (.dic l)) (hk:keyD y=some key):dDIn false kx m env bx=.val (.d (.bl (getK l key).isSome)) bx2:=by
  unfold dDIn
  rw [h1,gj,h2,gj]
  have r1:rdW bx2 (.b j)=some (.dic l):=by simp only [rdW,g]
  simp only [r1,hk]
  rfl
theorem Gc {y u:D}{j:Nat}{kx m:DE W}{l:List (Key × D)}{key:Key} (h1:m env bx=.val (.b j) bx1) (h2:kx env bx1=.val (.d y) bx2) (g:bx2[j]?=some (.dic l)) (hk:keyD y=some key) (hv:getK l key=some u):dDGet m kx env bx=.val (.d u) bx2:=by
  unfold dDGet
  rw [h1,gj,h2,gj]
  have r1:rdW bx2 (.b j)=some (.dic l):=by simp only [rdW,g]
  simp only [r1,hk,Option.bind_some,hv]
theorem MP {y z:D}{j:Nat}{m kx v:DE W}{l0 l:List (Key × D)}{key:Key} (h1:m env bx=.val (.b j) bx1) (g0:bx1[j]?=some (.dic l0)) (h2:kx env bx1=.val (.d y) bx2) (h3:v env bx2=.val (.d z) bx3) (g:bx3[j]?=some (.dic l)) (hk:keyD y=some key) (hl:l.length < sizeLine) :
    ∃ u,dSetD m kx v env bx=.val (.d u) (match getK l key with | some _=>bx3 | none=>bx3.set j (.dic (putKD l key z))):=by
  unfold dSetD
  rw [h1,gj]
  simp only [g0,h2,gj,h3,g,hk,if_pos hl]
  cases getK l key with
  | none=>exact ⟨z,rfl⟩
  | some w=>exact ⟨w,rfl⟩
theorem Oc {y z:D}{j:Nat}{m kx v:DE W}{l:List (Key × D)}{key:Key} (h0:v env bx=.val (.d z) bx1) (h1:m env bx1=.val (.b j) bx2) (h2:kx env bx2=.val (.d y) bx3) (g:bx3[j]?=some (.dic l)) (hk:keyD y=some key) (hl:l.length < sizeLine) :
    sPut m kx v env bx=.nx env (bx3.set j (.dic (putKD l key z))):=by
  unfold sPut
  rw [h0,Aa,h1,Aa,h2,Aa]
  simp only [g,hk,if_pos hl]
end
noncomputable def Fst (is:List Int) (d:List (Key × D)):Prop:=∀ k:Int,(getK d (.inl k)=none /\ ∀ m:Nat,is[m]? ≠ some k) \/ ∃ i:Nat,getK d (.inl k)=some (.int i) /\ is[i]?=some k /\ ∀ m:Nat,m < i->is[m]? ≠ some k
noncomputable def Lst (is:List Int) (d:List (Key × D)):Prop:=∀ k:Int,(getK d (.inl k)=none /\ ∀ m:Nat,is[m]? ≠ some k) \/ ∃ i:Nat,getK d (.inl k)=some (.int i) /\ is[i]?=some k /\ ∀ m:Nat,i < m->is[m]? ≠ some k
theorem mG {is:List Int}{x k:Int}{m:Nat} (h:(is ++ [x])[m]?=some k):is[m]?=some k \/ (m=is.length /\ x=k):=by
  by_cases hm:m < is.length
  . rw [List.getElem?_append_left hm] at h;exact .inl h
  . rw [List.getElem?_append_right (by omega)] at h
    have:m - is.length=0:=by
      have:=(List.getElem?_eq_some_iff.mp h).1
      simp at this
      omega
    rw [this] at h
    simp at h
    exact .inr ⟨by omega,h⟩
theorem LD {is:List Int}{x k:Int}{m:Nat} (h:is[m]?=some k):(is ++ [x])[m]?=some k:=by
  rw [List.getElem?_append_left (List.getElem?_eq_some_iff.mp h).1];exact h
theorem Fst.keep {is:List Int}{d:List (Key × D)}{x:Int} (h:Fst is d) {w:D} (hx:getK d (.inl x)=some w):Fst (is ++ [x]) d:=by
  intro k
  rcases h k with ⟨a,b⟩ | ⟨i,a,b,c⟩
  . refine .inl ⟨a,fun m hm=>?_⟩
    rcases mG hm with z | ⟨_,z⟩
    . exact b m z
    . subst z;rw [hx] at a;cases a
  . refine .inr ⟨i,a,LD b,fun m hm z=>?_⟩
    have hi:=(List.getElem?_eq_some_iff.mp b).1
    rcases mG z with z | ⟨z,_⟩
    . exact c m hm z
    . omega
theorem Fst.put {is:List Int}{d:List (Key × D)}{x:Int} (h:Fst is d) (hx:getK d (.inl x)=none):Fst (is ++ [x]) (putKD d (.inl x) (.int is.length)):=by
  intro k
  rw [Dl]
  by_cases hk:k=x
  . subst hk
    rw [if_pos rfl]
    refine .inr ⟨is.length,rfl,by simp,fun m hm z=>?_⟩
    rcases h k with ⟨_,b⟩ | ⟨i,a,_,_⟩
    . rcases mG z with z | ⟨z,_⟩
      . exact b m z
      . omega
    . rw [hx] at a;cases a
  . rw [if_neg (fun z=>hk (by injection z))]
    rcases h k with ⟨a,b⟩ | ⟨i,a,b,c⟩
    . refine .inl ⟨a,fun m hm=>?_⟩
      rcases mG hm with z | ⟨_,z⟩
      . exact b m z
      . exact hk z.symm
    . refine .inr ⟨i,a,LD b,fun m hm z=>?_⟩
      rcases mG z with z | ⟨_,z⟩
      . exact c m hm z
      . exact hk z.symm
theorem Lst.put {is:List Int}{d:List (Key × D)}{x:Int} (h:Lst is d):Lst (is ++ [x]) (putKD d (.inl x) (.int is.length)):=by
  intro k
  rw [Dl]
  by_cases hk:k=x
  . subst hk
    rw [if_pos rfl]
    refine .inr ⟨is.length,rfl,by simp,fun m hm z=>?_⟩
    have:=(List.getElem?_eq_some_iff.mp z).1
    simp at this
    omega
  . rw [if_neg (fun z=>hk (by injection z))]
    rcases h k with ⟨a,b⟩ | ⟨i,a,b,c⟩
    . refine .inl ⟨a,fun m hm=>?_⟩
      rcases mG hm with z | ⟨_,z⟩
      . exact b m z
      . exact hk z.symm
    . refine .inr ⟨i,a,LD b,fun m hm z=>?_⟩
      rcases mG z with z | ⟨_,z⟩
      . exact c m hm z
      . exact hk z.symm
theorem LE {is:List Int}{q:Int × Int} (h:∀ m:Nat,is[m]? ≠ some q.1):rowOne is q=false:=by
  have:is.findIdx? (fun z=>decide (z=q.1))=none:=by
    rw [List.findIdx?_eq_none_iff]
    intro x m
    obtain ⟨i,hi,e⟩:=List.mem_iff_getElem.mp m
    rw [decide_eq_false_iff_not]
    intro z
    exact h i (by rw [List.getElem?_eq_getElem hi,e,z])
  unfold rowOne
  rw [this]
theorem Dm {is:List Int}{q:Int × Int}{i:Nat} (h:is[i]?=some q.1) (h2:∀ m:Nat,m < i->is[m]? ≠ some q.1):rowOne is q=(is.drop i).any fun z=>decide (z=q.2):=by
  obtain ⟨hi,e⟩:=List.getElem?_eq_some_iff.mp h
  have:is.findIdx? (fun z=>decide (z=q.1))=some i:=by
    rw [List.findIdx?_eq_some_iff_getElem]
    refine ⟨hi,by simp [e],fun j hj=>?_⟩
    simp only [decide_eq_true_eq]
    intro z
    exact h2 j hj (by rw [List.getElem?_eq_getElem (by omega),z])
  unfold rowOne
  rw [this]
theorem Do {is:List Int}{i:Nat}{e:Int}:((is.drop i).any fun z=>decide (z=e))=true ↔ ∃ m:Nat,i <= m /\ is[m]?=some e:=by
  rw [List.any_eq_true]
  constructor
  . rintro ⟨x,mx,hx⟩
    obtain ⟨j,hj,ej⟩:=List.mem_iff_getElem?.mp mx |>.elim fun j hj=>(⟨j,(List.getElem?_eq_some_iff.mp hj).1,hj⟩:∃ j,∃ _:j < (is.drop i).length,(is.drop i)[j]?=some x)
    rw [List.getElem?_drop] at ej
    rw [decide_eq_true_eq] at hx
    exact ⟨i + j,by omega,by rw [ej,hx]⟩
  . rintro ⟨m,hm,e'⟩
    refine ⟨e,?_,by simp⟩
    rw [List.mem_iff_getElem?]
    exact ⟨m - i,by rw [List.getElem?_drop,show i + (m - i)=m by omega];exact e'⟩
theorem Od {is:List Int}{q:Int × Int}{i j:Nat} (hq:q.1 ≠ q.2) (h:is[i]?=some q.1) (h2:∀ m:Nat,m < i->is[m]? ≠ some q.1) (h3:is[j]?=some q.2) (h4:∀ m:Nat,j < m->is[m]? ≠ some q.2):rowOne is q=decide ((i:Int) < (j:Int)):=by
  rw [Dm h h2,Bool.eq_iff_iff,Do,decide_eq_true_eq]
  constructor
  . rintro ⟨m,hm,e⟩
    have h5:¬ j < m:=fun z=>h4 m z e
    have h6:i ≠ j:=fun z=>hq (by subst z;rw [h] at h3;injection h3)
    omega
  . intro z
    exact ⟨j,by omega,h3⟩
section
variable {bx : List Bx}
noncomputable abbrev pBody:DSt:=fu (gR (dSetD (dV 3) (dV 6) (dV 5))) (sPut (dV 4) (dV 6) (dV 5))
theorem two0 (x y:Bx):(bx ++ [x,y])[bx.length]?=some x:=by simp
theorem two1 (x y:Bx):(bx ++ [x,y])[bx.length + 1]?=some y:=by simp
theorem set0 (x y z:Bx):(bx ++ [x,y]).set bx.length z=bx ++ [z,y]:=by
  rw [List.set_append_right _ _ (Nat.le_refl _),Nat.sub_self];rfl
theorem set1 (x y z:Bx):(bx ++ [x,y]).set (bx.length + 1) z=bx ++ [x,z]:=by
  rw [List.set_append_right _ _ (by omega),show bx.length + 1 - bx.length=1 by omega];rfl
theorem MQ (is:List Int) (x:Int) (d1 d2:List (Key × D)) (h1:Fst is d1) (h2:Lst is d2) (l1:d1.length <= is.length) (l2:d2.length <= is.length) (hl:is.length <= 1000000) (x0 x1 x2:Option W) :
    ∃ d1' d2',pBody [x0,x1,x2,some (.b bx.length),some (.b (bx.length + 1)),some (.d (.int (is.length:Nat))),some (.d (.int x))] (bx ++ [.dic d1,.dic d2])=.nx [x0,x1,x2,some (.b bx.length),some (.b (bx.length + 1)),some (.d (.int (is.length:Nat))),some (.d (.int x))] (bx ++ [.dic d1',.dic d2']) /\ Fst (is ++ [x]) d1' /\ Lst (is ++ [x]) d2' /\ d1'.length <= is.length + 1 /\ d2'.length <= is.length + 1:=by
  have sz:sizeLine=16777216:=sizeLine_eq
  obtain ⟨u,e1⟩:=MP (env:=[x0,x1,x2,some (.b bx.length),some (.b (bx.length + 1)),some (.d (.int (is.length:Nat))),some (.d (.int x))]) (m:=dV 3) (kx:=dV 6) (v:=dV 5) (y:=.int x) (z:=.int (is.length:Nat)) (key:=.inl x) rfl (two0 (bx:=bx) (.dic d1) (.dic d2)) rfl rfl (two0 (bx:=bx) (.dic d1) (.dic d2)) rfl (by omega)
  have P:∀ d1',sPut (dV 4) (dV 6) (dV 5) [x0,x1,x2,some (.b bx.length),some (.b (bx.length + 1)),some (.d (.int (is.length:Nat))),some (.d (.int x))] (bx ++ [.dic d1',.dic d2])=.nx [x0,x1,x2,some (.b bx.length),some (.b (bx.length + 1)),some (.d (.int (is.length:Nat))),some (.d (.int x))] (bx ++ [.dic d1',.dic (putKD d2 (.inl x) (.int (is.length:Nat)))]):=fun d1'=>by
    have:=Oc (env:=[x0,x1,x2,some (.b bx.length),some (.b (bx.length + 1)),some (.d (.int (is.length:Nat))),some (.d (.int x))]) (m:=dV 4) (kx:=dV 6) (v:=dV 5) (y:=.int x) (z:=.int (is.length:Nat)) (key:=.inl x) rfl rfl rfl (two1 (bx:=bx) (.dic d1') (.dic d2)) rfl (by omega)
    rw [set1] at this
    exact this
  have q2:=BN d2 (.inl x) (.int (is.length:Nat))
  cases c:getK d1 (.inl x) with
  | some w =>
    rw [c] at e1
    exact ⟨d1,_,(fI (mU e1)).trans (P d1),h1.keep c,h2.put,by omega,by omega⟩
  | none =>
    rw [c] at e1
    simp only at e1
    rw [set0] at e1
    have q1:=BN d1 (.inl x) (.int (is.length:Nat))
    exact ⟨_,_,(fI (mU e1)).trans (P _),h1.put c,h2.put,by omega,by omega⟩
theorem Gd (x0 x1 x2:Option W):∀ (rest is:List Int) (d1 d2:List (Key × D)) (w5 w6:Option W),Fst is d1->Lst is d2->d1.length <= is.length->d2.length <= is.length->is.length + rest.length <= 1000000 ->
    ∃ D1 D2 w5' w6',forD (ia 2 (fH (fe 5) (fH (fe 6) iu))) pBody (enumW is.length (rest.map D.int)) [x0,x1,x2,some (.b bx.length),some (.b (bx.length + 1)),w5,w6] (bx ++ [.dic d1,.dic d2])=.nx [x0,x1,x2,some (.b bx.length),some (.b (bx.length + 1)),w5',w6'] (bx ++ [.dic D1,.dic D2]) /\ Fst (is ++ rest) D1 /\ Lst (is ++ rest) D2
  | [],is,d1,d2,w5,w6,h1,h2,_,_,_=>⟨d1,d2,w5,w6,rfl,by rw [List.append_nil];exact h1,by rw [List.append_nil];exact h2⟩
  | x :: rest,is,d1,d2,w5,w6,h1,h2,l1,l2,hl=>by
    obtain ⟨d1',d2',e,a1,a2,a3,a4⟩:=MQ (bx:=bx) is x d1 d2 h1 h2 l1 l2 (by omega) x0 x1 x2
    obtain ⟨D1,D2,w5',w6',e',b1,b2⟩:=Gd x0 x1 x2 rest (is ++ [x]) d1' d2' (some (.d (.int (is.length:Nat)))) (some (.d (.int x))) a1 a2 (by simp;omega) (by simp;omega) (by simp at hl ⊢;omega)
    refine ⟨D1,D2,w5',w6',?_,by simpa using b1,by simpa using b2⟩
    have g:ia 2 (fH (fe 5) (fH (fe 6) iu)) (.d (.tup [.int (is.length:Nat),.int x])) [x0,x1,x2,some (.b bx.length),some (.b (bx.length + 1)),w5,w6] (bx ++ [.dic d1,.dic d2])=some ([x0,x1,x2,some (.b bx.length),some (.b (bx.length + 1)),some (.d (.int (is.length:Nat))),some (.d (.int x))],bx ++ [.dic d1,.dic d2]):=rfl
    rw [List.length_append,List.length_singleton] at e'
    exact (A0 g e).trans e'
noncomputable abbrev pTe:DE W:=gE (dDIn false (dV 0) (dV 2)) (gE (dDIn false (dV 1) (dV 2)) (d2 false ltD (dDGet (dV 2) (dV 0)) (dDGet (dV 3) (dV 1))))
theorem OZ {is:List Int}{D1 D2:List (Key × D)} (h1:Fst is D1) (h2:Lst is D2) (q:Int × Int) (hq:q.1 ≠ q.2):pTe [some (.d (.int q.1)),some (.d (.int q.2)),some (.b bx.length),some (.b (bx.length + 1))] (bx ++ [.dic D1,.dic D2])=.val (.d (.bl (rowOne is q))) (bx ++ [.dic D1,.dic D2]):=by
  have i1:=LC (env:=[some (.d (.int q.1)),some (.d (.int q.2)),some (.b bx.length),some (.b (bx.length + 1))]) (kx:=dV 0) (m:=dV 2) (y:=.int q.1) (key:=.inl q.1) rfl rfl (two0 (bx:=bx) (.dic D1) (.dic D2)) rfl
  have i2:=LC (env:=[some (.d (.int q.1)),some (.d (.int q.2)),some (.b bx.length),some (.b (bx.length + 1))]) (kx:=dV 1) (m:=dV 2) (y:=.int q.2) (key:=.inl q.2) rfl rfl (two0 (bx:=bx) (.dic D1) (.dic D2)) rfl
  rcases h1 q.1 with ⟨a,b⟩ | ⟨i,a,b,c⟩
  . rw [a] at i1
    rw [LE b]
    exact LA i1
  . rw [a] at i1
    rcases h1 q.2 with ⟨a',b'⟩ | ⟨i',a',b',c'⟩
    . rw [a'] at i2
      have:rowOne is q=false:=by
        rw [Dm b c,Bool.eq_false_iff]
        intro z
        obtain ⟨m,_,e⟩:=Do.mp z
        exact b' m e
      rw [this]
      exact oF i1 (LA i2)
    . rw [a'] at i2
      rcases h2 q.2 with ⟨a2,b2⟩ | ⟨j,a2,b2,c2⟩
      . exact absurd b' (b2 i')
      . have g1:=Gc (env:=[some (.d (.int q.1)),some (.d (.int q.2)),some (.b bx.length),some (.b (bx.length + 1))]) (kx:=dV 0) (m:=dV 2) (y:=.int q.1) (key:=.inl q.1) rfl rfl (two0 (bx:=bx) (.dic D1) (.dic D2)) rfl a
        have g2:=Gc (env:=[some (.d (.int q.1)),some (.d (.int q.2)),some (.b bx.length),some (.b (bx.length + 1))]) (kx:=dV 1) (m:=dV 3) (y:=.int q.2) (key:=.inl q.2) rfl rfl (two1 (bx:=bx) (.dic D1) (.dic D2)) rfl a2
        rw [Od hq b c b2 c2]
        exact oF i1 (oF i2 (gf (r:=.old (.bl (decide ((i:Int) < (j:Int))))) g1 g2 rfl))
theorem LF {h:D}{k:Nat} (H:House h k) {ps:List (Int × Int)} (M:Mv k ps) (hl:ps.length <= 10) (d:D) (ok:Ok d):jw [.d h,.d (.lst (ps.map dP)),.d d] bx=.val (.d (.bl (rowB ps k d))) bx:=by
  have sz:sizeLine=16777216:=sizeLine_eq
  have nm:=Cj (bx:=bx) H M hl
  have go:∀ {b:Bool}{bx':List Bx},lS [some (.d h),some (.d (.lst (ps.map dP))),some (.d d),none,none,none,none] bx=.rt (.d (.bl b)) bx'->bx'.take bx.length=bx->jw [.d h,.d (.lst (ps.map dP)),.d d] bx=.val (.d (.bl b)) bx:=fun {b bx'} m tk=>by
    refine (A1 m).trans ?_
    rw [tk]
  have n1:∀ (r:DSt),fu (gR (fk K52.iY 2 (fb (dV 0) (fb (dV 1) fc)))) r [some (.d h),some (.d (.lst (ps.map dP))),some (.d d),none,none,none,none] bx=r [some (.d h),some (.d (.lst (ps.map dP))),some (.d d),none,none,none,none] bx:=fun r=>fI (mU (gz (fm rfl (fm rfl rfl)) rfl nm))
  by_cases hd:∃ l,d=.lst l
  . obtain ⟨l,rfl⟩:=hd
    have i1:dNot (dB (ic "list" (dV 2))) [some (.d h),some (.d (.lst (ps.map dP))),some (.d (.lst l)),none,none,none,none] bx=.val false bx:=mT (b:=true) (lR (b:=true) rfl)
    have ca:compD (fe 0) fZ (fk K2.gG 2 (fb (dV 1) (fb (dV 0) fc))) (l.map W.d) [none,some (.d h)] bx []=.val (l.map fun d=>.bl (wi d 0 ((k:Int) - 1))) bx :=
      iI (fun e=>∃ w,e=[w,some (.d h)]) _ ⟨none,rfl⟩ (by
        rintro d m env ⟨w,rfl⟩
        exact ⟨[some (.d d),some (.d h)],rfl,⟨_,rfl⟩,gz (fm rfl (fm rfl rfl)) rfl (F9 H d)⟩) (by have:l.length <= 1000000:=ok;omega)
    have i2:dNot (dB (dN false allD (fb (ge false [none,some 0] (dIter (dV 2)) (fe 0) fZ (fk K2.gG 2 (fb (dV 1) (fb (dV 0) fc)))) fc))) [some (.d h),some (.d (.lst (ps.map dP))),some (.d (.lst l)),none,none,none,none] bx=.val (!(l.all fun d=>wi d 0 ((k:Int) - 1))) bx :=
      mT (lR (lQ (r:=.old (.bl (l.all fun d=>wi d 0 ((k:Int) - 1)))) [.lst (l.map fun d=>.bl (wi d 0 ((k:Int) - 1)))] (fm (j4 (lE rfl) rfl ca) rfl) (all_map _ _)))
    cases c:l.all (fun x=>wi x 0 ((k:Int) - 1)) with
    | false =>
      rw [c] at i2
      have r0:rowB ps k (.lst l)=false:=by simp only [rowB,c,Bool.false_and]
      rw [r0]
      refine go (bx':=bx) ?_ (List.take_length ..)
      unfold lS
      exact (n1 _).trans (lx ((Bj (AY i1 i2)).trans (iG rfl)))
    | true =>
      rw [c] at i2
      obtain ⟨is,rfl,hi⟩:=Gb c
      have r0:rowB ps k (.lst (is.map D.int))=ps.all (rowOne is):=by simp only [rowB,c,Bool.true_and,K1.oV]
      rw [r0]
      have il:is.length <= 1000000:=by have:(is.map D.int).length <= 1000000:=ok;simpa using this
      obtain ⟨D1,D2,w5,w6,e,f1,f2⟩:=Gd (bx:=bx) (some (.d h)) (some (.d (.lst (ps.map dP)))) (some (.d (.lst (is.map D.int)))) is [] [] [] none none (fun k=>.inl ⟨rfl,fun m=>by simp⟩) (fun k=>.inl ⟨rfl,fun m=>by simp⟩) (Nat.le_refl _) (Nat.le_refl _) (by simpa using il)
      rw [List.nil_append] at f1 f2
      have s2:sPar 3 4 (fb (dDic true []) (fb (dDic true []) fc)) [some (.d h),some (.d (.lst (ps.map dP))),some (.d (.lst (is.map D.int))),none,none,none,none] bx=.nx [some (.d h),some (.d (.lst (ps.map dP))),some (.d (.lst (is.map D.int))),some (.b bx.length),some (.b (bx.length + 1)),none,none] (bx ++ [.dic [],.dic []]):=by
        have p1:dDic true [] [some (.d h),some (.d (.lst (ps.map dP))),some (.d (.lst (is.map D.int))),none,none,none,none] bx=.val (.b bx.length) (bx ++ [.dic []]):=rfl
        have p2:dDic true [] [some (.d h),some (.d (.lst (ps.map dP))),some (.d (.lst (is.map D.int))),none,none,none,none] (bx ++ [.dic []])=.val (.b (bx.length + 1)) (bx ++ [.dic [],.dic []]):=by
          show O.val (W.b (bx ++ [Bx.dic []]).length) ((bx ++ [Bx.dic []]) ++ [Bx.dic []])=_
          rw [List.length_append,List.append_assoc]
          rfl
        exact BK p1 p2
      have s3:dEnum (fb (dV 2) fc) [some (.d h),some (.d (.lst (ps.map dP))),some (.d (.lst (is.map D.int))),some (.b bx.length),some (.b (bx.length + 1)),none,none] (bx ++ [.dic [],.dic []])=.val (enumW 0 (is.map D.int)) (bx ++ [.dic [],.dic []]):=rfl
      have cb:compD (ia 2 (fH (fe 0) (fH (fe 1) iu))) fZ pTe ((ps.map dP).map W.d) [none,none,some (.b bx.length),some (.b (bx.length + 1))] (bx ++ [.dic D1,.dic D2]) []=.val ((ps.map dP).map fun d=>.bl (match toP d with | some q=>rowOne is q | none=>false)) (bx ++ [.dic D1,.dic D2]) :=
        iI (fun e=>∃ u w,e=[u,w,some (.b bx.length),some (.b (bx.length + 1))]) _ ⟨none,none,rfl⟩ (by
          rintro d m env ⟨u,w,rfl⟩
          obtain ⟨q,mq,rfl⟩:=List.mem_map.mp m
          exact ⟨[some (.d (.int q.1)),some (.d (.int q.2)),some (.b bx.length),some (.b (bx.length + 1))],rfl,⟨_,_,rfl⟩,OZ f1 f2 q (M q mq).2.2.2.2⟩) (by rw [List.length_map];omega)
      have al:((ps.map dP).all fun d=>match toP d with | some q=>rowOne is q | none=>false)=ps.all (rowOne is):=by
        rw [List.all_map]
        rfl
      have s4:fM (dN false allD (fb (ge false [none,none,some 3,some 4] (dIter (dV 1)) (ia 2 (fH (fe 0) (fH (fe 1) iu))) fZ pTe) fc)) [some (.d h),some (.d (.lst (ps.map dP))),some (.d (.lst (is.map D.int))),some (.b bx.length),some (.b (bx.length + 1)),w5,w6] (bx ++ [.dic D1,.dic D2])=.rt (.d (.bl (ps.all (rowOne is)))) (bx ++ [.dic D1,.dic D2]) :=
        iG (lQ (r:=.old (.bl (ps.all (rowOne is)))) [.lst ((ps.map dP).map fun d=>.bl (match toP d with | some q=>rowOne is q | none=>false))] (fm (j4 (lE rfl) rfl cb) rfl) (by rw [all_map,al]))
      refine go (bx':=bx ++ [.dic D1,.dic D2]) ?_ (List.take_left ..)
      unfold lS
      exact (n1 _).trans ((fI ((Bk (AY i1 i2)).trans rfl)).trans ((fI s2).trans ((fI ((mV s3).trans e)).trans s4)))
  . have i1:dNot (dB (ic "list" (dV 2))) [some (.d h),some (.d (.lst (ps.map dP))),some (.d d),none,none,none,none] bx=.val true bx:=by
      refine mT (b:=false) (lR (b:=false) ?_)
      cases d with
      | lst l=>exact absurd ⟨l,rfl⟩ hd
      | _=>rfl
    have r0:rowB ps k d=false:=by cases d with | lst l=>exact absurd ⟨l,rfl⟩ hd | _=>rfl
    rw [r0]
    refine go (bx':=bx) ?_ (List.take_length ..)
    unfold lS
    exact (n1 _).trans (lx ((Bj (La i1)).trans (iG rfl)))
end
end K52
set_option Elab.async false
set_option linter.all false
set_option maxRecDepth 100000
set_option maxHeartbeats 400000
set_option exponentiation.threshold 3000
namespace K2
open PySem PySem.Spec PyProof.Rows L2 L2.DL K1
section
variable {h : D} {rs : List Int} {hold : Int} {bx : List Bx} {x0 x1 x2 x4 x5 x6 x7 x8 x9 x10 x11 x12 x13 x14 : Option W}
noncomputable abbrev thBody:DSt:=(fu (fJ (dRepr (dV 7)) (fe 8)) (fu (sIf (dOr (dB (d2 false neD (dRepr (fk K2.mQ 2 (fb (dV 3) (fb (dV 7) fc)))) (dRepr (fk K2.jY 1 (fb (dV 7) fc))))) (dB (d2 false neD (dRepr (dV 7)) (dV 8)))) (fM (dC (.bl false))) sNil) (sIf (dB (d2 false neD (dRepr (fk K2.lD 4 (fb (dV 3) (fb (dV 7) (fb (dC (.int 0)) (fb (dC (.int 4)) fc)))))) (dRepr (fk K2.mn 4 (fb (dV 3) (fb (dV 7) (fb (dC (.int 0)) (fb (dC (.int 4)) fc)))))))) (fM (dC (.bl false))) sNil)))
noncomputable abbrev hrBody:DSt:=(sIf (dB (d2 false neD (dRepr (fk K2.lD 4 (fb (dV 3) (fb (dV 4) (fb (dV 13) (fb (dV 14) fc)))))) (dRepr (fk K2.mn 4 (fb (dV 3) (fb (dV 4) (fb (dV 13) (fb (dV 14) fc)))))))) (fM (dC (.bl false))) sNil)
end
section
variable {h : D} {rs : List Int} {hold : Int} {bx : List Bx} {n : Nat} {x0 x1 x4 x5 x6 x7 x8 x12 x13 x14 : Option W}
noncomputable abbrev lsBody:DSt:=(fJ (d2 false fB (dV 9) (fS false (fb (d2 false fB (dV 10) (d2 false mulD (d2 false ixD (dV 3) (dC (.int 3))) (dV 12))) (fb (d2 false subD (d2 false fB (dV 10) (d2 false mulD (d2 false ixD (dV 3) (dC (.int 3))) (dV 12))) (dC (.int 1))) fc)))) (fe 9))
noncomputable abbrev hoBody:DSt:=(fu (fJ (d2 false fB (dV 9) (fS false (fb (dV 10) (fb (dV 11) (fb (d2 false subD (dV 11) (dC (.int 1))) (fb (dN false maxD (fb (dC (.int 0)) (fb (d2 false subD (dV 10) (dC (.int 1))) fc))) (fb (d2 false fB (dV 10) (fk K1.ff 2 (fb (dV 2) (fb (dC (.int 40)) fc)))) fc))))))) (fe 9)) (gI (dIter (fF (fb (dC (.int 1)) (fb (dC (.int 2)) (fb (dC (.int 3)) (fb (dC (.int 4)) fc)))))) (fe 12) lsBody))
end
end K2
set_option Elab.async false
set_option linter.all false
set_option maxRecDepth 100000
set_option maxHeartbeats 1000000
set_option exponentiation.threshold 3000
namespace K1
open PySem PySem.Spec PyProof.Rows L2 L2.DL
noncomputable abbrev lawBody:DSt:=(fu (fJ (fk io 1 (fb (fk gq 2 (fb (dV 0) (fb (dV 1) fc))) fc)) (fe 2)) (fu (fJ (fk gC 1 (fb (dV 2) fc)) (fe 3)) (fu (sIf (dB (d2 false isntD (fk gT 1 (fb (dV 3) fc)) (dC (.bl true)))) (fM (dC (.bl false))) sNil) (fu (fJ (d2 true fB (fS false (fb (fk gu 1 (fb (dV 2) fc)) (fb (dN false listD (fb (dV 3) fc)) fc))) (fk lu 2 (fb (dV 2) (fb (dV 3) fc)))) (fe 4)) (fu (gI (dRng1 (fb (dC (.int 6)) fc)) (fe 5) turnBody) (gI (dIter (dFrz 4)) (fe 8) lookBody))))))
end K1
set_option Elab.async false
set_option linter.all false
set_option maxRecDepth 100000
set_option maxHeartbeats 400000
set_option exponentiation.threshold 3000
namespace K2
open PySem PySem.Spec PyProof.Rows L2 L2.DL K1
noncomputable abbrev lawBody:DSt:=(fu (fJ (fk K1.io 1 (fb (fk K1.gq 2 (fb (dV 0) (fb (dV 1) fc))) fc)) (fe 2)) (fu (fJ (fk K1.gC 1 (fb (dV 2) fc)) (fe 3)) (fu (fJ (fk K2.AR 3 (fb (dV 2) (fb (fk K2.Aj 2 (fb (dV 2) (fb (dC (.int 30)) fc))) (fb (fS false fc) fc)))) (ia 3 (fH (fe 4) (fH (fe 5) (fH (fe 6) iu))))) (fu (gI (dIter (fk K2.ol 2 (fb (dV 2) (fb (dV 4) fc)))) (fe 7) thBody) (fu (fJ (fS false (fb (dC (.int 0)) (fb (d2 false fB (dV 6) (fk K1.ff 2 (fb (dV 2) (fb (dC (.int 200)) fc)))) (fb (d2 false subD (d2 false powD (dC (.int 10)) (dC (.int 40))) (dC (.int 1))) (fb (dC (.bl true)) (fb (dC .non) (fb (dNeg (dC (.int 1))) (fb (dC (.str "3")) (fb (fF (fb (dC (.int 3)) fc)) fc))))))))) (fe 9)) (fu (gI (dIter (dV 4)) (ia 2 (fH (fe 10) (fH (fe 11) iu))) hoBody) (gI (dIter (d2 false fB (dLR false (fb (d2 false fB (dN false lenD (fb (d2 false ixD (dV 3) (dC (.int 0))) fc)) (dC (.int 1))) fc)) (fS false (fb (dNeg (dC (.int 1))) (fb (dC (.bl true)) (fb (dC .non) (fb (dC (.str "0")) fc))))))) (fe 13) (gI (dIter (dV 9)) (fe 14) hrBody))))))))
theorem O0 {ks:DE (List W)}{env:DEnv}{bx bx1:List Bx}{j:Nat} (h:ks env bx=.val [.d (.int (j:Int))] bx1) (hj:j <= 1000):dLR false ks env bx=.val (.d (.lst ((List.range j).map fun (i:Nat)=>D.int (i:Int)))) bx1:=by
  unfold dLR
  rw [h,gj]
  show (if -(2 ^ 62) <= (j:Int) /\ (j:Int) <= 2 ^ 24 then _ else _)=_
  rw [if_pos (by omega),Int.toNat_natCast]
  rfl
end K2
set_option Elab.async false
set_option linter.all false
set_option maxRecDepth 100000
set_option maxHeartbeats 400000
set_option exponentiation.threshold 3000
namespace K52
open PySem PySem.Spec PyProof.Rows L2 L2.DL K1 K2
theorem Oe {B a b:Nat}{d:D} (h:Sm B a b d):Sm B (a + 1) (b + 3000) (.dic [(.inl 0,d)]):=by
  refine ⟨by simp [ib,ibk,h.s],?_,?_⟩
  . have:=h.e
    simp only [toPy,toPyK,PyData.depth,PyData.depthKv,keyP]
    omega
  . have:=h.w
    simp only [wt,wtk,kwt]
    omega
structure Th (d:D):Prop where
  ok:Ok d
  sm:Sm (10 ^ 30) 10 400000 d
theorem Rw.sml {L:Nat}{l:List D} (h:Rw L l):SmL (10 ^ 30) 2 (L * 3852) l:=(SmL.of h.all).mono (Nat.le_refl _) (Nat.mul_le_mul_right _ h.len)
theorem Rw.thL {L:Nat}{l:List D} (h:Rw L l) (hL:L <= 70):Th (.lst l):=⟨by show l.length <= 1000000;have:=h.len;omega,(Sm.lst h.sml).mono (by decide) (by omega)⟩
theorem Rw.thT {L:Nat}{l:List D} (h:Rw L l) (hL:L <= 70):Th (.tup l):=⟨True.intro,(Sm.tup h.sml).mono (by decide) (by omega)⟩
theorem Of {d:D} (h:d ∈ odds):Th d:=by
  refine ⟨?_,(FX d h).mono (by decide) (by decide)⟩
  have c:∀ x ∈ odds,(match x with | .lst l=>decide (l.length <= 1000000) | _=>true)=true:=by
    rw [<-List.all_eq_true]
    decide +kernel
  have:=c d h
  cases d with
  | lst l=>exact (show l.length <= 1000000 from of_decide_eq_true (p:=l.length <= 1000000) this)
  | _=>exact True.intro
theorem LG {k:Nat}{ps:List (Int × Int)} (M:Mv k ps) (hk:k <= 5) (hl:ps.length <= 10):Sm (10 ^ 30) 2 40000 (.lst (ps.map dP)):=by
  have z:=SmL.of (B:=10 ^ 30) (a:=1) (b:=3849) (l:=ps.map dP) fun x m=>by
    obtain ⟨q,mq,rfl⟩:=List.mem_map.mp m
    have:=M q mq
    exact Sm.tup (SmL.cons (Sm.int (Nat.le_trans (show q.1.natAbs <= 5 by omega) (by decide))) (SmL.cons (Sm.int (Nat.le_trans (show q.2.natAbs <= 5 by omega) (by decide))) SmL.nil))
  rw [List.length_map] at z
  exact (Sm.lst z).mono (by decide) (by omega)
theorem LH {h:D}{k:Nat} (H:House h k) {ps:List (Int × Int)} (M:Mv k ps) (hl:ps.length <= 10) {t:D} (T:Th t):canShow (.tup [h,.lst (ps.map dP),t])=true:=by
  have sz:sizeLine=16777216:=sizeLine_eq
  have n5:=H.n5
  have s:=Sm.tup (SmL.cons ((H.sm.up (show 999 <= 10 ^ 30 by decide)).mono (show 4 <= 10 by decide) (Nat.le_refl _)) (SmL.cons ((LG M n5 hl).mono (show 2 <= 10 by decide) (Nat.le_refl _)) (SmL.cons T.sm SmL.nil)))
  exact AX s (by decide) (by decide) (by omega)
noncomputable abbrev thB:DSt:=fu (sPar 12 13 (fb (dRepr (fF (fb (dV 3) (fb (dV 6) (fb (dV 11) fc))))) (fb (dRepr (fk K52.iC 3 (fb (dV 6) (fb (dV 4) (fb (dV 11) fc))))) fc))) (sIf (dOr (dB (d2 false neD (dRepr (fk K52.jw 3 (fb (dV 3) (fb (dV 6) (fb (dV 11) fc))))) (dV 13))) (dB (d2 false neD (dRepr (fF (fb (dV 3) (fb (dV 6) (fb (dV 11) fc))))) (dV 12)))) (fM (dC (.bl false))) sNil)
theorem neS (x:Str):neD (.str x) (.str x)=some (.old (.bl false)):=by simp [neD]
section
variable {bx : List Bx} {x0 x1 x2 x5 x7 x8 x9 x10 : Option W}
theorem O1 {h:D}{k:Nat} (H:House h k) {ps:List (Int × Int)} (M:Mv k ps) (hl:ps.length <= 10) {t:D} (T:Th t) (w12 w13:Option W) :
    ∃ y12 y13,thB [x0,x1,x2,some (.d h),some (.d (.int ((k:Int) - 1))),x5,some (.d (.lst (ps.map dP))),x7,x8,x9,x10,some (.d t),w12,w13] bx=.nx [x0,x1,x2,some (.d h),some (.d (.int ((k:Int) - 1))),x5,some (.d (.lst (ps.map dP))),x7,x8,x9,x10,some (.d t),y12,y13] bx:=by
  have sz:sizeLine=16777216:=sizeLine_eq
  have a1:=Ck (bx:=bx) ps k t T.ok
  have a2:=LF (bx:=bx) H M hl t T.ok
  have c1:=LH H M hl T
  have c2:∀ b,canShow (.bl b)=true:=fun b=>AX (B:=0) (a:=0) (b:=5) Sm.bl (by decide) (by decide) (by omega)
  refine ⟨some (.d (.str (toPy (.tup [h,.lst (ps.map dP),t])).shown)),some (.d (.str (toPy (.bl (rowB ps k t))).shown)),?_⟩
  have r1:∀ y12 y13,dRepr (fF (fb (dV 3) (fb (dV 6) (fb (dV 11) fc)))) [x0,x1,x2,some (.d h),some (.d (.int ((k:Int) - 1))),x5,some (.d (.lst (ps.map dP))),x7,x8,x9,x10,some (.d t),y12,y13] bx=.val (.d (.str (toPy (.tup [h,.lst (ps.map dP),t])).shown)) bx:=fun y12 y13=>Cg (Ac [h,.lst (ps.map dP),t] rfl (show (3:Nat) <= sizeLine by omega)) c1
  have r2:dRepr (fk K52.iC 3 (fb (dV 6) (fb (dV 4) (fb (dV 11) fc)))) [x0,x1,x2,some (.d h),some (.d (.int ((k:Int) - 1))),x5,some (.d (.lst (ps.map dP))),x7,x8,x9,x10,some (.d t),w12,w13] bx=.val (.d (.str (toPy (.bl (rowB ps k t))).shown)) bx:=Cg (gz (fm rfl (fm rfl (fm rfl rfl))) rfl a1) (c2 _)
  have r3:∀ y12 y13,dRepr (fk K52.jw 3 (fb (dV 3) (fb (dV 6) (fb (dV 11) fc)))) [x0,x1,x2,some (.d h),some (.d (.int ((k:Int) - 1))),x5,some (.d (.lst (ps.map dP))),x7,x8,x9,x10,some (.d t),y12,y13] bx=.val (.d (.str (toPy (.bl (rowB ps k t))).shown)) bx:=fun y12 y13=>Cg (gz (fm rfl (fm rfl (fm rfl rfl))) rfl a2) (c2 _)
  generalize (toPy (.tup [h,.lst (ps.map dP),t])).shown=S1 at r1 ⊢
  generalize (toPy (.bl (rowB ps k t))).shown=S2 at r2 r3 ⊢
  refine (fI (BK (r1 _ _) r2)).trans ?_
  refine (Bk (AY (b:=false) (lR (b:=false) (gf (r:=.old (.bl false)) (r3 (some (.d (.str S1))) (some (.d (.str S2)))) rfl (neS S2))) (lR (b:=false) (gf (r:=.old (.bl false)) (r1 (some (.d (.str S1))) (some (.d (.str S2)))) rfl (neS S1))))).trans rfl
theorem M3 {h:D}{k:Nat} (H:House h k) {ps:List (Int × Int)} (M:Mv k ps) (hl:ps.length <= 10):∀ (ts:List D) (w11 w12 w13:Option W),(∀ t ∈ ts,Th t) ->
    ∃ y11 y12 y13,forD (fe 11) thB (ts.map W.d) [x0,x1,x2,some (.d h),some (.d (.int ((k:Int) - 1))),x5,some (.d (.lst (ps.map dP))),x7,x8,x9,x10,w11,w12,w13] bx=.nx [x0,x1,x2,some (.d h),some (.d (.int ((k:Int) - 1))),x5,some (.d (.lst (ps.map dP))),x7,x8,x9,x10,y11,y12,y13] bx
  | [],w11,w12,w13,_=>⟨w11,w12,w13,rfl⟩
  | t :: ts,w11,w12,w13,T=>by
    obtain ⟨y12,y13,e⟩:=O1 (bx:=bx) (x0:=x0) (x1:=x1) (x2:=x2) (x5:=x5) (x7:=x7) (x8:=x8) (x9:=x9) (x10:=x10) H M hl (T t (List.mem_cons_self ..)) w12 w13
    obtain ⟨z11,z12,z13,e'⟩:=M3 H M hl ts (some (.d t)) y12 y13 fun u m=>T u (List.mem_cons_of_mem _ m)
    exact ⟨z11,z12,z13,(A0 rfl e).trans e'⟩
end
section
variable {env : DEnv} {bx bx1 bx2 : List Bx}
theorem Og {m k:DE W}{j:Nat}{l r:List D} (h1:m env bx=.val (.b j) bx1) (h2:k env bx1=.val (.d (.lst r)) bx2) (g:bx2[j]?=some (.lst l)) (hl:l.length + r.length <= sizeLine):d2 true fB m k env bx=.val (.b bx2.length) (bx2 ++ [.lst (l ++ r)]):=by
  rw [JN,h1,gj,h2,gj]
  have r1:rdW bx2 (.b j)=some (.lst l):=by simp only [rdW,g]
  rw [r1,Ak,Option.bind_some,Option.bind_some,show fB (.lst l) (.lst r)=some (.lst (l ++ r)) from if_pos hl]
  rfl
theorem MR {m k:DE W}{j:Nat}{l r:List D} (h1:m env bx=.val (.b j) bx1) (h2:k env bx1=.val (.d (.lst r)) bx2) (g:bx2[j]?=some (.lst l)) (hl:l.length + r.length <= sizeLine):d2 false fB m k env bx=.val (.d (.lst (l ++ r))) bx2:=by
  rw [JN,h1,gj,h2,gj]
  have r1:rdW bx2 (.b j)=some (.lst l):=by simp only [rdW,g]
  rw [r1,Ak,Option.bind_some,Option.bind_some,show fB (.lst l) (.lst r)=some (.lst (l ++ r)) from if_pos hl]
  rfl
theorem MS {m:DE W}{j:Nat}{l:List D} (h:m env bx=.val (.b j) bx1) (g:bx1[j]?=some (.lst l)):dN false listD (fb m fc) env bx=.val (.d (.lst l)) bx1:=by
  rw [Fd,fm (w:=.b j) (l:=[]) h rfl,gj]
  have:rdWs bx1 [.b j]=some [.lst l]:=by simp only [rdWs,rdW,g,Option.bind_some,Option.map_some]
  rw [this]
  rfl
end
noncomputable abbrev roB:DSt:=fu (fJ (fk K52.gm 3 (fb (dV 2) (fb (dV 4) (fb (dV 9) fc)))) (fe 10)) (fJ (d2 true fB (dV 8) (fS false (fb (dV 10) (fb (fk K52.gm 3 (fb (dV 2) (fb (dV 4) (fb (dN false listD (fb (dV 10) fc)) fc)))) fc)))) (fe 8))
section
variable {x0 x1 x3 x5 x6 x7 x11 x12 x13 : Option W}
theorem O2 {C:List Bx}{n:Nat} (h:n < C.length) (p:Int) (m:Nat) (hm:m <= 100) (rows:List D) (hr:rows.length <= 1000) (T:∀ t ∈ rows,Th t) (l:List D) (R:Rw 15 l) (w10:Option W) :
    ∃ rows' q y10,roB [x0,x1,some (.b n),x3,some (.d (.int (m:Nat))),x5,x6,x7,some (.b C.length),some (.d (.lst l)),w10,x11,x12,x13] (pt (C ++ [.lst rows]) n p)=.nx [x0,x1,some (.b n),x3,some (.d (.int (m:Nat))),x5,x6,x7,some (.b (C ++ [Bx.lst rows]).length),some (.d (.lst l)),y10,x11,x12,x13] (pt (C ++ [.lst rows] ++ [.lst rows']) n q) /\ rows'.length=rows.length + 2 /\ ∀ t ∈ rows',Th t:=by
  have sz:sizeLine=16777216:=sizeLine_eq
  have h1:n < (C ++ [Bx.lst rows]).length:=by simp;omega
  obtain ⟨a,q1,e1,la,ha,Ra⟩:=BL h1 p m hm l 15 (by decide) R
  obtain ⟨b,q2,e2,lb,hb,Rb⟩:=BL h1 q1 m hm la 31 (by decide) Ra
  have ta:Th a:=by rcases ha with rfl | rfl;exact Ra.thL (by decide);exact Ra.thT (by decide)
  have tb:Th b:=by rcases hb with rfl | rfl;exact Rb.thL (by decide);exact Rb.thT (by decide)
  have bg:=iH (p:=q2) (x:=.lst rows) h
  refine ⟨rows ++ [a,b],q2,some (.d a),?_,by simp,fun t m=>?_⟩
  . have s1:fJ (fk K52.gm 3 (fb (dV 2) (fb (dV 4) (fb (dV 9) fc)))) (fe 10) [x0,x1,some (.b n),x3,some (.d (.int (m:Nat))),x5,x6,x7,some (.b C.length),some (.d (.lst l)),w10,x11,x12,x13] (pt (C ++ [.lst rows]) n p)=.nx [x0,x1,some (.b n),x3,some (.d (.int (m:Nat))),x5,x6,x7,some (.b C.length),some (.d (.lst l)),some (.d a),x11,x12,x13] (pt (C ++ [.lst rows]) n q1):=jK (gz (fm rfl (fm rfl (fm rfl rfl))) rfl e1)
    have ls:dN false listD (fb (dV 10) fc) [x0,x1,some (.b n),x3,some (.d (.int (m:Nat))),x5,x6,x7,some (.b C.length),some (.d (.lst l)),some (.d a),x11,x12,x13] (pt (C ++ [.lst rows]) n q1)=.val (.d (.lst la)) (pt (C ++ [.lst rows]) n q1):=by
      rcases ha with rfl | rfl
      . exact lQ (r:=.lst la) [.lst la] (fm rfl rfl) rfl
      . exact lQ (r:=.lst la) [.tup la] (fm rfl rfl) rfl
    have s2:fS false (fb (dV 10) (fb (fk K52.gm 3 (fb (dV 2) (fb (dV 4) (fb (dN false listD (fb (dV 10) fc)) fc)))) fc)) [x0,x1,some (.b n),x3,some (.d (.int (m:Nat))),x5,x6,x7,some (.b C.length),some (.d (.lst l)),some (.d a),x11,x12,x13] (pt (C ++ [.lst rows]) n q1)=.val (.d (.lst [a,b])) (pt (C ++ [.lst rows]) n q2) :=
      mw [a,b] (fm rfl (fm (gz (fm rfl (fm rfl (fm ls rfl))) rfl e2) rfl)) (show (2:Nat) <= sizeLine by omega)
    have s3:=Og (m:=dV 8) (env:=[x0,x1,some (.b n),x3,some (.d (.int (m:Nat))),x5,x6,x7,some (.b C.length),some (.d (.lst l)),some (.d a),x11,x12,x13]) rfl s2 bg (by show rows.length + 2 <= _;omega)
    rw [lJ h1,iE] at s3
    exact (fI s1).trans (jK s3)
  . rcases List.mem_append.mp m with m | m
    . exact T t m
    . simp at m
      rcases m with rfl | rfl
      . exact ta
      . exact tb
theorem M4 {n:Nat} (m:Nat) (hm:m <= 100):∀ (ls:List (List D)) (C:List Bx) (p:Int) (rows:List D) (w9 w10:Option W),n < C.length->rows.length + 2 * ls.length <= 1000->(∀ t ∈ rows,Th t)->(∀ l ∈ ls,Rw 15 l) ->
    ∃ C' rows' q y9 y10,n < C'.length /\ forD (fe 9) roB ((ls.map D.lst).map W.d) [x0,x1,some (.b n),x3,some (.d (.int (m:Nat))),x5,x6,x7,some (.b C.length),w9,w10,x11,x12,x13] (pt (C ++ [.lst rows]) n p)=.nx [x0,x1,some (.b n),x3,some (.d (.int (m:Nat))),x5,x6,x7,some (.b C'.length),y9,y10,x11,x12,x13] (pt (C' ++ [.lst rows']) n q) /\ rows'.length <= 1000 /\ ∀ t ∈ rows',Th t
  | [],C,p,rows,w9,w10,h,hr,T,_=>⟨C,rows,p,w9,w10,h,rfl,by simp at hr;omega,T⟩
  | l :: ls,C,p,rows,w9,w10,h,hr,T,R=>by
    simp only [List.length_cons] at hr
    obtain ⟨rows1,q1,y10,e1,l1,T1⟩:=O2 (x0:=x0) (x1:=x1) (x3:=x3) (x5:=x5) (x6:=x6) (x7:=x7) (x11:=x11) (x12:=x12) (x13:=x13) h p m hm rows (by omega) T l (R l (List.mem_cons_self ..)) w10
    obtain ⟨C',rows',q,y9,y10',h',e',l',T'⟩:=M4 m hm ls (C ++ [.lst rows]) q1 rows1 (some (.d (.lst l))) y10 (by rw [List.length_append];exact Nat.lt_of_lt_of_le h (Nat.le_add_right _ _)) (by omega) T1 fun u mu=>R u (List.mem_cons_of_mem _ mu)
    exact ⟨C',rows',q,y9,y10',h',(A0 rfl e1).trans e',l',T'⟩
end
end K52
set_option Elab.async false
set_option linter.all false
set_option maxRecDepth 100000
set_option maxHeartbeats 400000
set_option exponentiation.threshold 3000
namespace K52
open PySem PySem.Spec PyProof.Rows L2 L2.DL K1 K2
theorem mul2 {c:List D} (h:c.length <= 1000):mulD (.lst c) (.int 2)=some (.lst (c ++ c)):=by
  have sz:sizeLine=16777216:=sizeLine_eq
  have e:(List.replicate (2:Int).toNat c).flatten=c ++ c:=by
    show c ++ (c ++ [])=_
    rw [List.append_nil]
  have:mulD (.lst c) (.int 2)=some (.lst (List.replicate (2:Int).toNat c).flatten):=if_pos ⟨by decide,by decide,by show c.length * 2 <= _;omega⟩
  rw [this,e]
theorem mulN {c:List D}{k:Int} (h0:0 <= k) (h1:k <= 100) (h:c.length <= 1000):mulD (.lst c) (.int k)=some (.lst (List.replicate k.toNat c).flatten):=by
  have sz:sizeLine=16777216:=sizeLine_eq
  refine if_pos ⟨by omega,by omega,?_⟩
  have:c.length * k.toNat <= 1000 * 100:=Nat.mul_le_mul h (by omega)
  omega
theorem mul4:mulD (.lst [.bl true]) (.int 4)=some (.lst [.bl true,.bl true,.bl true,.bl true]):=mulN (c:=[.bl true]) (k:=4) (by decide) (by decide) (by decide)
noncomputable abbrev roE:DE (List W):=fb (dV 7) (fb (d2 false fB (dV 7) (dV 7)) (fb (d2 false fB (dV 7) (dRev false (dV 7))) (fb (d2 false fB (dV 7) (dSl false (dV 7) dNo (dPart (dC (.int 1))))) (fb (d2 false fB (dSl false (dV 7) (dPart (dC (.int 1))) dNo) (d2 false mulD (dSl false (dV 7) dNo (dPart (dC (.int 1)))) (dC (.int 2)))) (fb (fS false fc) fc)))))
noncomputable abbrev drE:DE W:=ge false [none,some 2,some 4] (dRng1 (fb (fk K1.ff 2 (fb (dV 2) (fb (dC (.int 9)) fc))) fc)) (fe 0) fZ (fk K1.ff 2 (fb (dV 1) (fb (d2 false fB (dV 2) (dC (.int 1))) fc)))
noncomputable abbrev thE:DE W:=fS false (fb (fk K1.gu 1 (fb (dV 2) fc)) (fb (dC .non) (fb (dDicV false 0 7) (fb (dN false tupleD (fb (d2 false fB (dV 7) (dV 7)) fc)) (fb (d2 false mulD (fS false (fb (dC (.bl true)) fc)) (dC (.int 4))) (fb (fS false (fb (d2 false fB (dV 4) (dC (.int 1))) fc)) (fb (fS false (fb (dNeg (dC (.int 1))) fc)) fc)))))))
noncomputable abbrev tBody:DSt:=fu (sPar 6 7 (fb (fk K52.iQ 2 (fb (dV 2) (fb (dV 3) fc))) (fb (fk K52.iR 2 (fb (dV 2) (fb (dLR false (fb (d2 false fB (dV 4) (dC (.int 1))) fc)) fc))) fc))) (fu (fJ (fS true roE) (fe 8)) (fu (gR (dApp (dV 8) drE)) (fu (gI (dIter (dN false listD (fb (dV 8) fc))) (fe 9) roB) (gI (dIter (d2 false fB (dV 8) thE)) (fe 11) thB))))
section
variable {x0 x1 x5 : Option W}
theorem Pn {ds:List D} (R:Rw 5 ds) (m:Nat) (n:Nat) (x3 x6 x8 x9 x10 x11 x12 x13:Option W) (B:List Bx):∃ ls:List (List D),roE [x0,x1,some (.b n),x3,some (.d (.int (m:Nat))),x5,x6,some (.d (.lst ds)),x8,x9,x10,x11,x12,x13] B=.val ((ls.map D.lst).map W.d) B /\ ls.length=6 /\ ∀ l ∈ ls,Rw 15 l:=by
  have sz:sizeLine=16777216:=sizeLine_eq
  have RC:=R.cut
  have c1:∀ x8,dSl false (dV 7) dNo (dPart (dC (.int 1))) [x0,x1,some (.b n),x3,some (.d (.int (m:Nat))),x5,x6,some (.d (.lst ds)),x8,x9,x10,x11,x12,x13] B=.val (.d (.lst (DL.cutD ds none (some 1)))) B:=fun x8=>AZ (r:=.lst _) rfl rfl (mB rfl) rfl
  have c2:∀ x8,dSl false (dV 7) (dPart (dC (.int 1))) dNo [x0,x1,some (.b n),x3,some (.d (.int (m:Nat))),x5,x6,some (.d (.lst ds)),x8,x9,x10,x11,x12,x13] B=.val (.d (.lst (DL.cutD ds (some 1) none))) B:=fun x8=>AZ (r:=.lst _) rfl (mB rfl) rfl rfl
  refine ⟨[ds,ds ++ ds,ds ++ ds.reverse,ds ++ DL.cutD ds none (some 1),DL.cutD ds (some 1) none ++ (DL.cutD ds none (some 1) ++ DL.cutD ds none (some 1)),[]],?_,rfl,fun l m=>?_⟩
  . refine fm rfl (fm (gf (r:=.lst (ds ++ ds)) rfl rfl (addL R R (by decide))) (fm (gf (r:=.lst (ds ++ ds.reverse)) rfl rfl (addL R R.rev (by decide))) (fm (gf (r:=.lst (ds ++ DL.cutD ds none (some 1))) rfl (c1 _) (addL R (RC _ _) (by decide))) (fm (gf (r:=.lst (DL.cutD ds (some 1) none ++ (DL.cutD ds none (some 1) ++ DL.cutD ds none (some 1)))) (c2 _) (gf (r:=.lst (DL.cutD ds none (some 1) ++ DL.cutD ds none (some 1))) (c1 _) rfl (mul2 (by have:=(RC none (some 1)).len;omega))) (addL (RC _ _) ((RC _ _).app (RC _ _)) (by decide))) (fm (mw [] rfl (Nat.zero_le _)) rfl)))))
  . simp only [List.mem_cons,List.not_mem_nil,or_false] at m
    rcases m with rfl | rfl | rfl | rfl | rfl | rfl
    . exact R.mono (by decide)
    . exact (R.app R).mono (by decide)
    . exact (R.app R.rev).mono (by decide)
    . exact (R.app (RC _ _)).mono (by decide)
    . exact ((RC _ _).app ((RC _ _).app (RC _ _))).mono (by decide)
    . exact ⟨Nat.zero_le _,fun x m=>nomatch m⟩
theorem Po {bx:List Bx}{n:Nat} (h:n < bx.length) (p:Int) (m:Nat) (hm:m <= 100) (x3 x6 x7 x8 x9 x10 x11 x12 x13:Option W):∃ es q,drE [x0,x1,some (.b n),x3,some (.d (.int (m:Nat))),x5,x6,x7,x8,x9,x10,x11,x12,x13] (pt bx n p)=.val (.d (.lst es)) (pt bx n q) /\ Rw 15 es:=by
  have sz:sizeLine=16777216:=sizeLine_eq
  obtain ⟨r,q1,t1,r0,r1⟩:=takeC h p (env:=[x0,x1,some (.b n),x3,some (.d (.int (m:Nat))),x5,x6,x7,x8,x9,x10,x11,x12,x13]) (i:=2) rfl 9 (by decide) (by decide)
  obtain ⟨c,rfl⟩:=Int.eq_ofNat_of_zero_le r0
  obtain ⟨es,q,e1,e2,e3⟩:=Av (g:=fe 0) (te:=fk K1.ff 2 (fb (dV 1) (fb (d2 false fB (dV 2) (dC (.int 1))) fc))) (fun e=>∃ w,e=[w,some (.b n),some (.d (.int (m:Nat)))]) El (bx:=bx) (n:=n) (fO 0 c) [none,some (.b n),some (.d (.int (m:Nat)))] q1 [] ⟨none,rfl⟩ (by
      intro w _ env p ⟨w0,je⟩
      obtain ⟨r,q,t,b1,b2⟩:=ly h (p:=p) (env:=[some w,some (.b n),some (.d (.int (m:Nat)))]) (i:=1) (m:=d2 false fB (dV 2) (dC (.int 1))) (k:=(m:Int) + 1) rfl (gf (r:=.old (.int ((m:Int) + 1))) rfl rfl rfl) (by omega) (by omega)
      exact ⟨[some w,some (.b n),some (.d (.int (m:Nat)))],by simp [je],⟨_,rfl⟩,.int r,q,t,A4 (by omega)⟩) (by simp [fO];omega)
  rw [List.nil_append] at e1
  have le:es.length=c:=by rw [e2];simp [fO]
  have rg:dRng1 (fb (fk K1.ff 2 (fb (dV 2) (fb (dC (.int 9)) fc))) fc) [x0,x1,some (.b n),x3,some (.d (.int (m:Nat))),x5,x6,x7,x8,x9,x10,x11,x12,x13] (pt bx n p)=.val (fO 0 c) (pt bx n q1):=by
    rw [lI (fm t1 rfl) (by omega),Int.toNat_natCast]
  exact ⟨es,q,j4 rg rfl e1,by omega,e3⟩
theorem Pp {bx:List Bx}{n:Nat} (h:n < bx.length) (p:Int) (m:Nat) (hm:m <= 100) {ds:List D} (R:Rw 5 ds) (x3 x6 x8 x9 x10 x11 x12 x13:Option W):∃ ts q,thE [x0,x1,some (.b n),x3,some (.d (.int (m:Nat))),x5,x6,some (.d (.lst ds)),x8,x9,x10,x11,x12,x13] (pt bx n p)=.val (.d (.lst ts)) (pt bx n q) /\ ts.length=7 /\ ∀ t ∈ ts,Th t:=by
  have sz:sizeLine=16777216:=sizeLine_eq
  obtain ⟨d,q,e,md⟩:=J7 h p
  refine ⟨[d,.non,.dic [(.inl 0,.lst ds)],.tup (ds ++ ds),.lst [.bl true,.bl true,.bl true,.bl true],.lst [.int ((m:Int) + 1)],.lst [.int (-1)]],q,?_,rfl,fun t mt=>?_⟩
  . generalize pt bx n p=B at e ⊢
    generalize pt bx n q=B' at e ⊢
    have a3:dN false tupleD (fb (d2 false fB (dV 7) (dV 7)) fc) [x0,x1,some (.b n),x3,some (.d (.int (m:Nat))),x5,x6,some (.d (.lst ds)),x8,x9,x10,x11,x12,x13] B'=.val (.d (.tup (ds ++ ds))) B':=lQ (r:=.tup (ds ++ ds)) [.lst (ds ++ ds)] (fm (gf (r:=.lst (ds ++ ds)) rfl rfl (addL R R (by decide))) rfl) rfl
    have a4:d2 false mulD (fS false (fb (dC (.bl true)) fc)) (dC (.int 4)) [x0,x1,some (.b n),x3,some (.d (.int (m:Nat))),x5,x6,some (.d (.lst ds)),x8,x9,x10,x11,x12,x13] B'=.val (.d (.lst [.bl true,.bl true,.bl true,.bl true])) B':=gf (r:=.lst _) (mw [.bl true] rfl (show (1:Nat) <= sizeLine by omega)) rfl mul4
    have a5:fS false (fb (d2 false fB (dV 4) (dC (.int 1))) fc) [x0,x1,some (.b n),x3,some (.d (.int (m:Nat))),x5,x6,some (.d (.lst ds)),x8,x9,x10,x11,x12,x13] B'=.val (.d (.lst [.int ((m:Int) + 1)])) B':=mw [.int ((m:Int) + 1)] (fm (gf (r:=.old (.int ((m:Int) + 1))) rfl rfl rfl) rfl) (show (1:Nat) <= sizeLine by omega)
    have a6:fS false (fb (dNeg (dC (.int 1))) fc) [x0,x1,some (.b n),x3,some (.d (.int (m:Nat))),x5,x6,some (.d (.lst ds)),x8,x9,x10,x11,x12,x13] B'=.val (.d (.lst [.int (-1)])) B':=mw [.int (-1)] (fm (Lb rfl) rfl) (show (1:Nat) <= sizeLine by omega)
    exact mw [d,.non,.dic [(.inl 0,.lst ds)],.tup (ds ++ ds),.lst [.bl true,.bl true,.bl true,.bl true],.lst [.int ((m:Int) + 1)],.lst [.int (-1)]] (fm (gz (fm rfl rfl) rfl e) (fm rfl (fm rfl (fm a3 (fm a4 (fm a5 (fm a6 rfl))))))) (show (7:Nat) <= sizeLine by omega)
  . simp only [List.mem_cons,List.not_mem_nil,or_false] at mt
    rcases mt with rfl | rfl | rfl | rfl | rfl | rfl | rfl
    . exact Of md
    . exact ⟨True.intro,Sm.non.mono (Nat.le_refl _) (by decide)⟩
    . exact ⟨True.intro,(Oe (Sm.lst R.sml)).mono (by decide) (by decide)⟩
    . exact (R.app R).thT (by decide)
    . exact Rw.thL (L:=4) ⟨Nat.le_refl _,fun x mx=>by
        simp only [List.mem_cons,List.not_mem_nil,or_false,or_self] at mx
        rw [mx];exact Sm.bl.mono (Nat.le_refl _) (by decide)⟩ (by decide)
    . exact Rw.thL (L:=1) (.one (A4 (by omega))) (by decide)
    . exact Rw.thL (L:=1) (.one (A4 (by decide))) (by decide)
theorem MT {A:List Bx}{n:Nat} (h:n < A.length) (p:Int) {hh:D}{k:Nat} (H:House hh k) (x6 x7 x8 x9 x10 x11 x12 x13:Option W) :
    ∃ A' q y6 y7 y8 y9 y10 y11 y12 y13,n < A'.length /\ tBody [x0,x1,some (.b n),some (.d hh),some (.d (.int ((k:Int) - 1))),x5,x6,x7,x8,x9,x10,x11,x12,x13] (pt A n p)=.nx [x0,x1,some (.b n),some (.d hh),some (.d (.int ((k:Int) - 1))),x5,y6,y7,y8,y9,y10,y11,y12,y13] (pt A' n q):=by
  have sz:sizeLine=16777216:=sizeLine_eq
  have n0:=H.n0
  have n5:=H.n5
  obtain ⟨m,hm⟩:∃ m:Nat,k=m + 1:=⟨k - 1,by omega⟩
  have hk:(k:Int) - 1=(m:Nat):=by omega
  obtain ⟨ps,q1,em,M,lp⟩:=Lw h p H
  obtain ⟨ds,q2,ex,ld,md⟩:=Lx h q1 ((List.range k).map fun (i:Nat)=>D.int (i:Int)) (by simp;omega)
  have R:Rw 5 ds:=⟨by rw [ld];simp;omega,fun x mx=>by
    obtain ⟨i,mi,rfl⟩:=List.mem_map.mp (md x mx)
    have:=List.mem_range.mp mi
    exact A4 (by omega)⟩
  rw [hk]
  have s1:sPar 6 7 (fb (fk K52.iQ 2 (fb (dV 2) (fb (dV 3) fc))) (fb (fk K52.iR 2 (fb (dV 2) (fb (dLR false (fb (d2 false fB (dV 4) (dC (.int 1))) fc)) fc))) fc)) [x0,x1,some (.b n),some (.d hh),some (.d (.int (m:Nat))),x5,x6,x7,x8,x9,x10,x11,x12,x13] (pt A n p)=.nx [x0,x1,some (.b n),some (.d hh),some (.d (.int (m:Nat))),x5,some (.d (.lst (ps.map dP))),some (.d (.lst ds)),x8,x9,x10,x11,x12,x13] (pt A n q2):=by
    generalize pt A n p=B at em ⊢
    generalize pt A n q1=B1 at em ex
    generalize pt A n q2=B2 at ex ⊢
    have lr:dLR false (fb (d2 false fB (dV 4) (dC (.int 1))) fc) [x0,x1,some (.b n),some (.d hh),some (.d (.int (m:Nat))),x5,x6,x7,x8,x9,x10,x11,x12,x13] B1=.val (.d (.lst ((List.range k).map fun (i:Nat)=>D.int (i:Int)))) B1:=by
      refine O0 (j:=k) ?_ (by omega)
      exact fm (gf (r:=.old (.int (k:Int))) rfl rfl (by show some (Res.old (.int ((m:Int) + 1)))=_;rw [show (k:Int)=(m:Int) + 1 by omega])) rfl
    exact BK (gz (fm rfl (fm rfl rfl)) rfl em) (gz (fm rfl (fm lr rfl)) rfl ex)
  obtain ⟨ls,er,ll,Rl⟩:=Pn (x0:=x0) (x1:=x1) (x5:=x5) R m n (some (.d hh)) (some (.d (.lst (ps.map dP)))) x8 x9 x10 x11 x12 x13 (pt A n q2)
  have s2:fJ (fS true roE) (fe 8) [x0,x1,some (.b n),some (.d hh),some (.d (.int (m:Nat))),x5,some (.d (.lst (ps.map dP))),some (.d (.lst ds)),x8,x9,x10,x11,x12,x13] (pt A n q2)=.nx [x0,x1,some (.b n),some (.d hh),some (.d (.int (m:Nat))),x5,some (.d (.lst (ps.map dP))),some (.d (.lst ds)),some (.b A.length),x9,x10,x11,x12,x13] (pt (A ++ [.lst (ls.map D.lst)]) n q2):=by
    have a:=Ad (ls.map D.lst) er (by rw [List.length_map];omega)
    rw [lJ h,iE] at a
    exact jK a
  have h1:n < (A ++ [Bx.lst (ls.map D.lst)]).length:=by rw [List.length_append];exact Nat.lt_of_lt_of_le h (Nat.le_add_right _ _)
  obtain ⟨es,q3,ee,Re⟩:=Po (x0:=x0) (x1:=x1) (x5:=x5) h1 q2 m (by omega) (some (.d hh)) (some (.d (.lst (ps.map dP)))) (some (.d (.lst ds))) (some (.b A.length)) x9 x10 x11 x12 x13
  have s3:gR (dApp (dV 8) drE) [x0,x1,some (.b n),some (.d hh),some (.d (.int (m:Nat))),x5,some (.d (.lst (ps.map dP))),some (.d (.lst ds)),some (.b A.length),x9,x10,x11,x12,x13] (pt (A ++ [.lst (ls.map D.lst)]) n q2)=.nx [x0,x1,some (.b n),some (.d hh),some (.d (.int (m:Nat))),x5,some (.d (.lst (ps.map dP))),some (.d (.lst ds)),some (.b A.length),x9,x10,x11,x12,x13] (pt (A ++ [.lst ((ls ++ [es]).map D.lst)]) n q3):=by
    have ap:=F6 (m:=dV 8) (env:=[x0,x1,some (.b n),some (.d hh),some (.d (.int (m:Nat))),x5,some (.d (.lst (ps.map dP))),some (.d (.lst ds)),some (.b A.length),x9,x10,x11,x12,x13]) rfl (iH (p:=q2) (x:=.lst (ls.map D.lst)) h) ee (iH (p:=q3) (x:=.lst (ls.map D.lst)) h) (by rw [List.length_map];omega)
    rw [mD h,show ls.map D.lst ++ [D.lst es]=(ls ++ [es]).map D.lst by simp] at ap
    exact mU ap
  have Rl':∀ l ∈ ls ++ [es],Rw 15 l:=fun l ml=>by
    rcases List.mem_append.mp ml with ml | ml
    . exact Rl l ml
    . rw [List.mem_singleton.mp ml];exact Re
  obtain ⟨C,rows,q4,y9,y10,hC,e4,lr,Tr⟩:=M4 (x0:=x0) (x1:=x1) (x3:=some (.d hh)) (x5:=x5) (x6:=some (.d (.lst (ps.map dP)))) (x7:=some (.d (.lst ds))) (x11:=x11) (x12:=x12) (x13:=x13) m (by omega) (ls ++ [es]) A q3 ((ls ++ [es]).map D.lst) x9 x10 h (by simp;omega) (fun t mt=>by
    obtain ⟨l,ml,rfl⟩:=List.mem_map.mp mt
    exact (Rl' l ml).thL (by decide)) Rl'
  have s4:=(mV (mi:=dIter (dN false listD (fb (dV 8) fc))) (g:=fe 9) (body:=roB) (env:=[x0,x1,some (.b n),some (.d hh),some (.d (.int (m:Nat))),x5,some (.d (.lst (ps.map dP))),some (.d (.lst ds)),some (.b A.length),x9,x10,x11,x12,x13]) (lE (MS (m:=dV 8) rfl (iH (p:=q3) (x:=.lst ((ls ++ [es]).map D.lst)) h)))).trans e4
  have h2:n < (C ++ [Bx.lst rows]).length:=by rw [List.length_append];exact Nat.lt_of_lt_of_le hC (Nat.le_add_right _ _)
  obtain ⟨ts,q5,et,lt,Tt⟩:=Pp (x0:=x0) (x1:=x1) (x5:=x5) h2 q4 m (by omega) R (some (.d hh)) (some (.d (.lst (ps.map dP)))) (some (.b C.length)) y9 y10 x11 x12 x13
  have ei:=MR (m:=dV 8) (env:=[x0,x1,some (.b n),some (.d hh),some (.d (.int (m:Nat))),x5,some (.d (.lst (ps.map dP))),some (.d (.lst ds)),some (.b C.length),y9,y10,x11,x12,x13]) rfl et (iH (p:=q5) (x:=.lst rows) hC) (by omega)
  obtain ⟨y11,y12,y13,e5⟩:=M3 (bx:=pt (C ++ [.lst rows]) n q5) (x0:=x0) (x1:=x1) (x2:=some (.b n)) (x5:=x5) (x7:=some (.d (.lst ds))) (x8:=some (.b C.length)) (x9:=y9) (x10:=y10) H M lp (rows ++ ts) x11 x12 x13 (fun t mt=>(List.mem_append.mp mt).elim (Tr t) (Tt t))
  rw [hk] at e5
  refine ⟨C ++ [.lst rows],q5,some (.d (.lst (ps.map dP))),some (.d (.lst ds)),some (.b C.length),y9,y10,y11,y12,y13,h2,?_⟩
  exact (fI s1).trans ((fI s2).trans ((fI s3).trans ((fI s4).trans ((mV (lE ei)).trans e5))))
end
noncomputable abbrev lawBody:DSt:=fu (fJ (fk K1.io 1 (fb (fk K1.gq 2 (fb (dV 0) (fb (dV 1) fc))) fc)) (fe 2)) (fu (fJ (fk K52.gC 1 (fb (dV 2) fc)) (fe 3)) (fu (fJ (d2 false subD (dN false lenD (fb (d2 false ixD (dV 3) (dC (.int 0))) fc)) (dC (.int 1))) (fe 4)) (gI (dRng1 (fb (dC (.int 3)) fc)) (fe 5) tBody)))
theorem Oh (l:List Int) (k:Nat) (bx:List Bx) (x2 x3 x4 x5 x6 x7 x8 x9 x10 x11 x12 x13:Option W):∃ (ys:DEnv) (bx':List Bx),ys.length=13 /\ lawBody [some (.s l),some (.d (.int (k:Int))),x2,x3,x4,x5,x6,x7,x8,x9,x10,x11,x12,x13] bx=.nx (some (.s l) :: ys) bx':=by
  obtain ⟨c,ec⟩:=N5 l k bx
  obtain ⟨p,ep⟩:=OQ c bx
  obtain ⟨A,hn,pA⟩:∃ A:List Bx,bx.length < A.length /\ bx ++ [Bx.lst [D.int p]]=pt A bx.length p :=
    ⟨bx ++ [.lst [.int p]],by simp,by unfold pt;exact (Le List.getElem?_concat_length).symm⟩
  rw [pA] at ep
  obtain ⟨h,m,q,eh,H⟩:=Ls hn p
  obtain ⟨rs,kk,aa,bb,eH,hrs⟩:=H.rs
  have s3:fJ (d2 false subD (dN false lenD (fb (d2 false ixD (dV 3) (dC (.int 0))) fc)) (dC (.int 1))) (fe 4) [some (.s l),some (.d (.int (k:Int))),some (.b bx.length),some (.d h),x4,x5,x6,x7,x8,x9,x10,x11,x12,x13] (pt A bx.length q)=.nx [some (.s l),some (.d (.int (k:Int))),some (.b bx.length),some (.d h),some (.d (.int ((m:Int) - 1))),x5,x6,x7,x8,x9,x10,x11,x12,x13] (pt A bx.length q):=by
    have e0:ixD h (.int 0)=some (.old (.tup rs)):=by rw [eH];simp [ixD,atI,ixN]
    exact jK (gf (r:=.old (.int ((m:Int) - 1))) (lQ (r:=.old (.int (m:Nat))) [.tup rs] (fm (gf rfl rfl e0) rfl) (by simp [lenD,hrs])) rfl rfl)
  have rg:∀ env b,dRng1 (fb (dC (.int 3)) fc) env b=.val (fO 0 3) b:=fun env b=>lI (j:=3) (bx1:=b) (by simp) (by decide)
  obtain ⟨env',bx',e,A',q',y5,y6,y7,y8,y9,y10,y11,y12,y13,rfl,rfl,_⟩:=mC (g:=fe 5) (body:=tBody) (fun _ env b=>∃ A q y5 y6 y7 y8 y9 y10 y11 y12 y13,env=[some (.s l),some (.d (.int (k:Int))),some (.b bx.length),some (.d h),some (.d (.int ((m:Int) - 1))),y5,y6,y7,y8,y9,y10,y11,y12,y13] /\ b=pt A bx.length q /\ bx.length < A.length) (fO 0 3) 0 _ _ ⟨A,q,x5,x6,x7,x8,x9,x10,x11,x12,x13,rfl,rfl,hn⟩ (by
    rintro i w env b hw ⟨A,q,y5,y6,y7,y8,y9,y10,y11,y12,y13,rfl,rfl,hA⟩
    obtain ⟨A',q',z6,z7,z8,z9,z10,z11,z12,z13,hA',e⟩:=MT (x0:=some (.s l)) (x1:=some (.d (.int (k:Int)))) (x5:=some w) hA q H y6 y7 y8 y9 y10 y11 y12 y13
    exact ⟨[some (.s l),some (.d (.int (k:Int))),some (.b bx.length),some (.d h),some (.d (.int ((m:Int) - 1))),some w,y6,y7,y8,y9,y10,y11,y12,y13],pt A bx.length q,_,_,rfl,e,A',q',some w,z6,z7,z8,z9,z10,z11,z12,z13,rfl,rfl,hA'⟩)
  refine ⟨[some (.d (.int (k:Int))),some (.b bx.length),some (.d h),some (.d (.int ((m:Int) - 1))),y5,y6,y7,y8,y9,y10,y11,y12,y13],pt A' bx.length q',rfl,?_⟩
  unfold lawBody
  exact (fI (jK (gz (fm (gz (fm rfl (fm rfl rfl)) rfl ec) rfl) rfl ep))).trans ((fI (jK (gz (fm rfl rfl) rfl eh))).trans ((fI s3).trans ((mV (rg _ _)).trans e)))
theorem O3 (l:List Int) (hl:l.length <= 1000) (bx:List Bx) (xs:DEnv):∃ c:Nat,dRng1 (fb (dN false maxD (fb (dC (.int 1)) (fb (dN false minD (fb (dLenS (dV 0)) (fb (dC (.int 8)) fc))) fc))) fc) (some (.s l) :: xs) bx=.val (fO 0 c) bx:=by
  have e1:dLenS (dV 0) (some (.s l) :: xs) bx=.val (.d (.int l.length)) bx:=rfl
  have e2:dN false minD (fb (dLenS (dV 0)) (fb (dC (.int 8)) fc)) (some (.s l) :: xs) bx=.val (.d (.int (if (8:Int) < l.length then 8 else l.length))) bx:=lQ (r:=.old _) [.int l.length,.int 8] (fm e1 (fm rfl rfl)) rfl
  have e3:dN false maxD (fb (dC (.int 1)) (fb (dN false minD (fb (dLenS (dV 0)) (fb (dC (.int 8)) fc))) fc)) (some (.s l) :: xs) bx=.val (.d (.int (if (if (8:Int) < l.length then (8:Int) else l.length) > 1 then (if (8:Int) < l.length then 8 else l.length) else 1))) bx:=lQ (r:=.old _) [.int 1,.int (if (8:Int) < l.length then 8 else l.length)] (fm rfl (fm e2 rfl)) rfl
  have e4:=fm (ks:=fc) e3 rfl
  refine ⟨_,lI e4 ?_⟩
  split <;> split <;> omega
theorem law_true (l:List Int) (hl:l.length <= 1000):∃ bx',o9 [.s l] []=.val (.d (.bl true)) bx':=by
  obtain ⟨c,ec⟩:=O3 l hl [] [none,none,none,none,none,none,none,none,none,none,none,none,none]
  obtain ⟨env',bx',e,ys,rfl,hy⟩:=mC (g:=fe 1) (body:=lawBody) (fun _ env b=>∃ ys:DEnv,env=some (.s l) :: ys /\ ys.length=13) (fO 0 c) 0 [some (.s l),none,none,none,none,none,none,none,none,none,none,none,none,none] [] ⟨_,rfl,rfl⟩ (by
    rintro i w env b hw ⟨ys,rfl,hy⟩
    obtain ⟨k,_,rfl⟩:=List.mem_map.mp (List.mem_of_getElem? hw)
    match ys,hy with
    | [x1,x2,x3,x4,x5,x6,x7,x8,x9,x10,x11,x12,x13],_ =>
      obtain ⟨zs,bx',hz,e⟩:=Oh l k b x2 x3 x4 x5 x6 x7 x8 x9 x10 x11 x12 x13
      refine ⟨[some (.s l),some (.d (.int (k:Int))),x2,x3,x4,x5,x6,x7,x8,x9,x10,x11,x12,x13],b,_,_,by rw [Int.zero_add];rfl,e,zs,rfl,hz⟩)
  refine ⟨_,A1 (bx':=bx') ?_⟩
  show Ai [some (.s l),none,none,none,none,none,none,none,none,none,none,none,none,none] []=_
  unfold Ai
  refine (fI ((mV ec).trans e)).trans ?_
  exact iG rfl
end K52
set_option Elab.async false
set_option linter.all false
set_option maxRecDepth 100000
set_option maxHeartbeats 1000000
namespace L2.DL
open PySem PySem.Spec PyProof.Rows
noncomputable def lstO (o:Obj):Bool:=match o.cls with | .type n=>n == "list" | _=>false
noncomputable def noList (K:PySem.W.Frag):Bool:=K.all fun p=>!lstO p.2
theorem G3 {K:PySem.W.Frag} (h:noList K=true) {a:Addr}{o:Obj} (e:K.lookup a=some o):o.cls ≠ .type "list":=by
  intro c
  unfold noList at h
  rw [List.all_eq_true] at h
  have m:(a,o) ∈ K:=by
    clear h
    induction K with
    | nil=>cases e
    | cons p K ih =>
      rw [List.lookup_cons] at e
      cases q:a == p.1 with
      | true =>
        rw [q] at e
        cases e
        have:a=p.1:=by simpa using q
        subst this
        exact List.mem_cons_self ..
      | false =>
        rw [q] at e
        exact List.mem_cons_of_mem _ (ih e)
  have:=h _ m
  simp [lstO,c] at this
theorem sp_law {K:PySem.W.Frag}{H:Hp}{a:Addr}{ns:List Int}{fn:List W->List Bx->O W}{cl:Nat->Addr} (nl:noList K=true) (hO:Only H) (hS:SqL K H a (ns.map V.int)) (hf:∃ bx',fn [.s ns] []=.val (.d (.bl true)) bx') :
    spD cl 1 fn [.ref a] H (fun v _=>v=.bl true) fun _ _ _=>False:=by
  rcases hS with hS | ⟨o,its,n,e1,e2,_⟩
  . rcases hS with hS | ⟨o,hS⟩
    . rcases hO a with z | ⟨o,xs,z⟩
      . rw [hS] at z;cases z
      . rw [hS] at z;cases z
    . obtain ⟨bx',hf⟩:=hf
      refine ⟨H,[],[.s ns],[],⟨Sub.refl H,fun i w e=>by simp at e,rfl,.nil,fun n c a e=>by simp at e,fun a u e _=>e,fun n a _ e=>by simp at e,Nat.le_refl _,Nat.le_refl _,fun a u e=>.inl e⟩,⟨.ref a,[],rfl,⟨a,o,rfl,hS⟩,rfl⟩,rfl,?_⟩
      rw [hf]
      intro F' r' v H' _ _ d
      exact d
  . exact absurd e2 (G3 nl e1)
noncomputable def tys:List String:=["NoneType", "bool", "int", "str", "tuple", "list", "dict"]
noncomputable def tysChk (K:PySem.W.Frag):Bool:=tys.all fun S=>["int", "bool", "tuple", "list"].all fun T=>PySem.W.kitOne K (.type S) (.type T) == some (subT S T)
theorem Cl {K:PySem.W.Frag} (h:tysChk K=true) {T:String} (m:T ∈ ["int", "bool", "tuple", "list"]):Tys K T:=by
  intro d
  unfold tysChk at h
  rw [List.all_eq_true] at h
  have m1:tyN d ∈ tys:=by cases d <;> simp [tyN,tys]
  have z:=h _ m1
  rw [List.all_eq_true] at z
  exact beq_iff_eq.mp (z _ m)
theorem gx {K:PySem.W.Frag}{h:Heap}{mg:Str->Option Value}{x:Str}{st:Stmt}{ps:List Str}{f:Addr}{oc:Value}{od an:Option Addr}{osl:Array (Option Value)}{kV doc pm cdv ct:Value} (X:K.In h) (G:h.Ns mainGlobals mg)
    (a:PySem.W.nsIn K mainGlobals x=some (some (.ref f))) (l:K.lookup f=some ⟨oc,od,.func (PySem.W.fnOf x x (fV st) (fQ st) (fq st) .none kV doc pm an cdv ct),osl⟩)
    (c:PySem.W.codeIn K cdv x=true) (k:PySem.W.keepIn K (.ref f)=true) (hb:∀ fd,Fun K x x st f fd->Binds K fd ps []):Def K mg x st ps :=
  ⟨f,_,Jo l c k,PySem.W.mg_of X G a,hb _ (Jo l c k)⟩
theorem Oi {K:PySem.W.Frag}{h:Heap}{mg:Str->Option Value}{bs:List Str} (X:K.In h) (G:h.Ns mainGlobals mg) (z:∀ x ∈ bs,PySem.W.nsIn K mainGlobals x=some none) (t:tysChk K=true):Bas K mg bs :=
  ⟨fun x m=>PySem.W.mg_none_of X G (z x m),Cl t (by simp),Cl t (by simp),Cl t (by simp),Cl t (by simp)⟩
theorem Oj {l:PySem.W.OpenLaw}{w:World}{K:PySem.W.Frag}{mg:Str->Option Value}{fa:Addr}{k:Nat}{fn:List W->List Bx->O W}{st:Stmt} (cl:Nat->Addr) (hfa:mg "law"=some (.ref fa)) (D:Def K mg "law" st ["_law_script"])
    (hB:∀ (fd:FuncData) (f:Addr),Fun K "law" "law" st f fd->∀ (s:Shared) (u:Value),BindsTo s fd ⟨[u],[]⟩ [("_law_script",u)])
    (H:∀ base:Heap,K.In base->base.Ns mainGlobals mg->Has l.prog w K mg base cl k "law" ["_law_script"] fn) :
    ∃ (cl:Nat->Addr) (fd:FuncData),(∀ (s:Shared) (u:Value),BindsTo s fd ⟨[u],[]⟩ [("_law_script",u)]) /\ ∀ base:Heap,K.In base->base.Ns mainGlobals mg->FnOk l.prog w K mg base (CXr l.prog w) k fa fd ["_law_script"] (spD cl 1 fn):=by
  obtain ⟨f,fd,F,hm,_⟩:=D
  rw [hfa] at hm
  cases hm
  refine ⟨cl,fd,hB fd fa F,fun base hK hN=>?_⟩
  obtain ⟨f',fd',ok,hm',_,_,o,hl,hd⟩:=H base hK hN
  rw [hfa] at hm'
  cases hm'
  obtain ⟨o2,hl2,hd2⟩:=F.obj
  rw [hl] at hl2
  cases hl2
  rw [hd] at hd2
  cases hd2
  exact ok
theorem walk_d {l:PySem.W.OpenLaw}{q:Program}{loose:List Str}{XP:(Str->Option Value)->Heap->Prop}{YP:World->Heap->Prop}{d:DefRec}{K:Params->PySem.W.Frag}{k:Nat}{fn:List W->List Bx->O W} (hk:Room k callerA) (hn:l.most=some 63) (hdf:d.params.defaults=[])
    (hY:∀ (w:World) (h:Heap),YP w h->(K w.params).In h) (nl:∀ w:World,noList (K w.params)=true) (hf:∀ ns:List Int,ns.length <= 63->∃ bx',fn [.s ns] []=.val (.d (.bl true)) bx')
    (F:∀ (w:World) (mg:Str->Option Value) (fa:Addr) (h:Heap),(K w.params).In h->h.Ns mainGlobals mg->mg d.name=some (.ref fa) ->
      ∃ (cl:Nat->Addr) (fd:FuncData),(∀ (s:Shared) (u:Value),BindsTo s fd ⟨[u],[]⟩ [("_law_script",u)]) /\ ∀ base:Heap,(K w.params).In base->base.Ns mainGlobals mg->FnOk l.prog w (K w.params) mg base (CXr l.prog w) k fa fd ["_law_script"] (spD cl 1 fn)) :
    PySem.W.WalkO q loose XP YP l.row.toRowW d [] (fun f vs=>PySem.call f vs):=by
  refine Att.attach_call hn hdf fun w s0 s1 mg mb fa o pm cd doc a vs ns G Y ho hd hcd hmg hobj hints hlen hg=>?_
  have KX:=hY w _ Y
  obtain ⟨cl,fd,hb,hF⟩:=F w mg fa _ KX G.T.g hmg
  exact Jn KX G.T.g G.T.b G.T.builtins G.T.nolimit hg hobj hints (Nat.le_trans hlen (by decide)) hk hF hb (fun H hO hS=>sp_law (nl w) hO hS (hf ns hlen)) fun H e s' z=>by
    obtain ⟨_,_,_,_,_,_,_,_,_,_,_,_,_,z⟩:=z
    exact z
end L2.DL
set_option Elab.async false
set_option linter.all false
set_option maxRecDepth 100000
set_option maxHeartbeats 4000000
namespace K52
open PySem PySem.Spec PyProof.Rows L2 L2.DL
noncomputable def top (i:Nat):Stmt:=PySem.Challenge.pw_rimehold_k52_rows_looked_at.main.body.getD i (.Pass ⟨0,0,0,0⟩)
noncomputable def blts:List Str:=["all", "bool", "enumerate", "int", "isinstance", "len", "list", "max", "min", "range", "repr", "sorted", "tuple", "zip"]
section
variable {P : Program} {w : World} {K : PySem.W.Frag} {mg : Str -> Option Value} {base : Heap} {cl : Nat -> Addr} {R : Addr}
noncomputable abbrev lc:Stmt:=top 28
theorem jx:FnScope ["_law_cell", "_law_number", "_law_j", "_law_more"] ["_law_cell"] (fq lc):=⟨rfl,rfl,rfl,by decide +kernel,rfl,by decide +kernel,by decide +kernel⟩
theorem lT (bas:Bas K mg blts) (d:Def K mg "_law_pot" lc ["_law_cell"]):Has P w K mg base cl 1 "_law_pot" ["_law_cell"] K1.io :=
  gn (k:=0) (m:=K1.j7) d jx (fun f cdv A outer s H E n F0 hr=>(@fA _ _ _ _ _ _ _ (@ik _ _ _ _ _ _ _ _ _ _ (@ij _ _ _ _ _ _ _ _ _ _ _ Oz okGeI (@pdv _ _ _ 0 _ _ rfl) (@fG _ _ _ _ _ _ _ _ _ _ _ false Dv okPow (@fr _ _ _ _ _ _) (@fr _ _ _ _ _ _)) (nomark _)) (@fD _ _ _ _ _ (@fL _ _ _ _ _ _ (@gP _ _ _ _ _ _ true (@fg _ _ _ _ _ _ _ (@fG _ _ _ _ _ _ _ _ _ _ _ false om okSub (@pdv _ _ _ 0 _ _ rfl) (@fG _ _ _ _ _ _ _ _ _ _ _ false Dv okPow (@fr _ _ _ _ _ _) (@fr _ _ _ _ _ _))) (@fj _ _ _) rfl)))) (@gJ _ _ _)) (@fA _ _ _ _ _ _ _ (@gK _ _ _ _ _ _ 1 _ _ (@fr _ _ _ _ _ _) jx.nd rfl (locB rfl) rfl (fnB rfl)) (@fA _ _ _ _ _ _ _ (@jk _ _ _ _ _ _ _ _ _ _ PassesOwn.never rfl (@im _ _ _ _ _ _ _ _ rfl (bas.nb "range" (by decide)) (@fg _ _ _ _ _ _ _ (@fr _ _ _ _ _ _) (@fj _ _ _) rfl) rfl) (@fK _ _ _ 2 _ jx.nd rfl (locB rfl) (fnB rfl)) (@fA _ _ _ _ _ _ _ (@gK _ _ _ _ _ _ 3 _ _ (@fG _ _ _ _ _ _ _ _ _ _ _ false AA okMod (@fG _ _ _ _ _ _ _ _ _ _ _ false mj okMul (@fG _ _ _ _ _ _ _ _ _ _ _ false fT okAdd (@fG _ _ _ _ _ _ _ _ _ _ _ false fT okAdd (@fG _ _ _ _ _ _ _ _ _ _ _ false AA okMod (@pdv _ _ _ 0 _ _ rfl) (@fr _ _ _ _ _ _)) (@fG _ _ _ _ _ _ _ _ _ _ _ false mj okMul (@fr _ _ _ _ _ _) (@pdv _ _ _ 2 _ _ rfl))) (@fr _ _ _ _ _ _)) (@fr _ _ _ _ _ _)) (@fr _ _ _ _ _ _)) jx.nd rfl (locB rfl) rfl (fnB rfl)) (@fA _ _ _ _ _ _ _ (@gK _ _ _ _ _ _ 3 _ _ (@fG _ _ _ _ _ _ _ _ _ _ _ false AA okMod (@fG _ _ _ _ _ _ _ _ _ _ _ false fT okAdd (@fG _ _ _ _ _ _ _ _ _ _ _ false fT okAdd (@fG _ _ _ _ _ _ _ _ _ _ _ false mj okMul (@pdv _ _ _ 3 _ _ rfl) (@pdv _ _ _ 3 _ _ rfl)) (@fG _ _ _ _ _ _ _ _ _ _ _ false mj okMul (@fr _ _ _ _ _ _) (@pdv _ _ _ 2 _ _ rfl))) (@fr _ _ _ _ _ _)) (@fr _ _ _ _ _ _)) jx.nd rfl (locB rfl) rfl (fnB rfl)) (@fD _ _ _ _ _ (@gK _ _ _ _ _ _ 1 _ _ (@fG _ _ _ _ _ _ _ _ _ _ _ false fT okAdd (@fG _ _ _ _ _ _ _ _ _ _ _ false mj okMul (@pdv _ _ _ 1 _ _ rfl) (@fr _ _ _ _ _ _)) (@pdv _ _ _ 3 _ _ rfl)) jx.nd rfl (locB rfl) rfl (fnB rfl))))) (by intro _ ;rfl)) (@fD _ _ _ _ _ (@fL _ _ _ _ _ _ (@gP _ _ _ _ _ _ true (@fg _ _ _ _ _ _ _ (@pdv _ _ _ 1 _ _ rfl) (@fj _ _ _) rfl))))))))
noncomputable abbrev jy:Stmt:=top 29
theorem Am:FnScope ["_law_pot_here", "_law_far", "_law_found"] ["_law_pot_here", "_law_far"] (fq jy):=⟨rfl,rfl,rfl,by decide +kernel,rfl,by decide +kernel,by decide +kernel⟩
theorem fC (bas:Bas K mg blts) (d:Def K mg "_law_take" jy ["_law_pot_here", "_law_far"]):Has P w K mg base cl 1 "_law_take" ["_law_pot_here", "_law_far"] K1.ff :=
  gn (k:=0) (m:=K1.oC) d Am (fun f cdv A outer s H E n F0 hr=>(@fA _ _ _ _ _ _ _ (@gK _ _ _ _ _ _ 2 _ _ (@fG _ _ _ _ _ _ _ _ _ _ _ false AA okMod (@iX _ _ _ _ _ _ _ _ _ _ gO okIx (@pdv _ _ _ 0 _ _ rfl) (@fr _ _ _ _ _ _) (fun _ _=>rfl)) (@pdv _ _ _ 1 _ _ rfl)) Am.nd rfl (locB rfl) rfl (fnB rfl)) (@fA _ _ _ _ _ _ _ (@BV _ _ _ _ _ _ _ _ (@fG _ _ _ _ _ _ _ _ _ _ _ false LP okFdiv (@iX _ _ _ _ _ _ _ _ _ _ gO okIx (@pdv _ _ _ 0 _ _ rfl) (@fr _ _ _ _ _ _) (fun _ _=>rfl)) (@pdv _ _ _ 1 _ _ rfl)) (@FG _ _ (⟨E0,cl⟩) _ _ _ _ _ (@pdv _ _ _ 0 _ _ rfl) (@fr _ _ _ _ _ _) (by intro _ ;rfl)) rfl rfl rfl) (@fD _ _ _ _ _ (@fL _ _ _ _ _ _ (@pdv _ _ _ 2 _ _ rfl))))))
noncomputable abbrev ig:Stmt:=top 34
theorem gU:FnScope ["_law_pot_here", "_law_rooms", "_law_kinds", "_law_turn", "_law_rates", "_law_apart", "_law_one", "_law_other"] ["_law_pot_here"] (fq ig):=⟨rfl,rfl,rfl,by decide +kernel,rfl,by decide +kernel,by decide +kernel⟩
theorem jL (bas:Bas K mg blts) (d:Def K mg "_law_house" ig ["_law_pot_here"]) (fC:Has P w K mg base cl 1 "_law_take" ["_law_pot_here", "_law_far"] K1.ff):Has P w K mg base cl 2 "_law_house" ["_law_pot_here"] K52.gC :=
  gn (k:=1) (m:=K52.i8) d gU (fun f cdv A outer s H E n F0 hr=>(@fA _ _ _ _ _ _ _ (@gK _ _ _ _ _ _ 1 _ _ (@lm _ _ _ _ _ _ _ _ _ _ _ _ false iA okTuple rfl (bas.nb "tuple" (by decide)) (by decide +kernel) (@fg _ _ _ _ _ _ _ (@gX _ _ _ (["_law_turn", "_law_pot_here"]) _ _ _ _ _ _ _ _ _ _ _ false rfl (gh (XN:=["_law_pot_here", "_law_rooms", "_law_kinds", "_law_turn", "_law_rates", "_law_apart", "_law_one", "_law_other"]) (sc:=fq ig) (fun _=>rfl) rfl (by decide +kernel)) (@im _ _ _ _ _ _ _ _ rfl (bas.nb "range" (by decide)) (@fg _ _ _ _ _ _ _ (@fG _ _ _ _ _ _ _ _ _ _ _ false fT okAdd (@fr _ _ _ _ _ _) (@fN _ _ _ _ _ _ _ _ _ _ _ _ _ _ fC hr (by omega) rfl (@fz _) (@fg _ _ _ _ _ _ _ (@pdv _ _ _ 0 _ _ rfl) (@fg _ _ _ _ _ _ _ (@fr _ _ _ _ _ _) (@fj _ _ _) rfl) rfl) rfl rfl (by decide))) (@fj _ _ _) rfl) rfl) (fun _ _ _ _ _ _=>(@fK _ _ _ 0 _ (show (["_law_turn", "_law_pot_here"]:List Str).Nodup by decide +kernel) rfl (locB rfl) (fnB rfl))) (fun _ _ _ _ _ _=>(@gY _ _ _)) (fun _ _ _ _ _ _=>(@fN _ _ _ _ _ _ _ _ _ _ _ _ _ _ fC hr (by omega) rfl (@fz _) (@fg _ _ _ _ _ _ _ (@pdv _ _ _ 1 _ _ rfl) (@fg _ _ _ _ _ _ _ (@fr _ _ _ _ _ _) (@fj _ _ _) rfl) rfl) rfl rfl (by decide))) (by intro _ ;rfl)) (@fj _ _ _) rfl) rfl (by decide) (by decide)) gU.nd rfl (locB rfl) rfl (fnB rfl)) (@fA _ _ _ _ _ _ _ (@gK _ _ _ _ _ _ 2 _ _ (@gP _ _ _ _ _ _ true (@fj _ _ _)) gU.nd rfl (locB rfl) rfl (fnB rfl)) (@fA _ _ _ _ _ _ _ (@jk _ _ _ _ _ _ _ _ _ _ PassesOwn.never rfl (@im _ _ _ _ _ _ _ _ rfl (bas.nb "range" (by decide)) (@fg _ _ _ _ _ _ _ (@fG _ _ _ _ _ _ _ _ _ _ _ false fT okAdd (@fr _ _ _ _ _ _) (@fN _ _ _ _ _ _ _ _ _ _ _ _ _ _ fC hr (by omega) rfl (@fz _) (@fg _ _ _ _ _ _ _ (@pdv _ _ _ 0 _ _ rfl) (@fg _ _ _ _ _ _ _ (@iX _ _ _ _ _ _ _ _ _ _ gO okIx (@gP _ _ _ _ _ _ false (@fg _ _ _ _ _ _ _ (@fr _ _ _ _ _ _) (@fg _ _ _ _ _ _ _ (@fr _ _ _ _ _ _) (@fg _ _ _ _ _ _ _ (@fr _ _ _ _ _ _) (@fj _ _ _) rfl) rfl) rfl)) (@fN _ _ _ _ _ _ _ _ _ _ _ _ _ _ fC hr (by omega) rfl (@fz _) (@fg _ _ _ _ _ _ _ (@pdv _ _ _ 0 _ _ rfl) (@fg _ _ _ _ _ _ _ (@fr _ _ _ _ _ _) (@fj _ _ _) rfl) rfl) rfl rfl (by decide)) (fun _ _=>rfl)) (@fj _ _ _) rfl) rfl) rfl rfl (by decide))) (@fj _ _ _) rfl) rfl) (@fK _ _ _ 3 _ gU.nd rfl (locB rfl) (fnB rfl)) (@fA _ _ _ _ _ _ _ (@gK _ _ _ _ _ _ 4 _ _ (@gW _ _ _ _ _ _ _ _ _ _ _ _ false DV okSortA rfl (bas.nb "sorted" (by decide)) (by decide +kernel) (@fg _ _ _ _ _ _ _ (@gX _ _ _ (["_law_cold", "_law_pot_here"]) _ _ _ _ _ _ _ _ _ _ _ false rfl (gh (XN:=["_law_pot_here", "_law_rooms", "_law_kinds", "_law_turn", "_law_rates", "_law_apart", "_law_one", "_law_other"]) (sc:=fq ig) (fun _=>rfl) rfl (by decide +kernel)) (@im _ _ _ _ _ _ _ _ rfl (bas.nb "range" (by decide)) (@fg _ _ _ _ _ _ _ (@fr _ _ _ _ _ _) (@fj _ _ _) rfl) rfl) (fun _ _ _ _ _ _=>(@fK _ _ _ 0 _ (show (["_law_cold", "_law_pot_here"]:List Str).Nodup by decide +kernel) rfl (locB rfl) (fnB rfl))) (fun _ _ _ _ _ _=>(@gY _ _ _)) (fun _ _ _ _ _ _=>(@fN _ _ _ _ _ _ _ _ _ _ _ _ _ _ fC hr (by omega) rfl (@fz _) (@fg _ _ _ _ _ _ _ (@pdv _ _ _ 1 _ _ rfl) (@fg _ _ _ _ _ _ _ (@iX _ _ _ _ _ _ _ _ _ _ gO okIx (@gP _ _ _ _ _ _ false (@fg _ _ _ _ _ _ _ (@fr _ _ _ _ _ _) (@fg _ _ _ _ _ _ _ (@fr _ _ _ _ _ _) (@fg _ _ _ _ _ _ _ (@fr _ _ _ _ _ _) (@fj _ _ _) rfl) rfl) rfl)) (@fN _ _ _ _ _ _ _ _ _ _ _ _ _ _ fC hr (by omega) rfl (@fz _) (@fg _ _ _ _ _ _ _ (@pdv _ _ _ 1 _ _ rfl) (@fg _ _ _ _ _ _ _ (@fr _ _ _ _ _ _) (@fj _ _ _) rfl) rfl) rfl rfl (by decide)) (fun _ _=>rfl)) (@fj _ _ _) rfl) rfl) rfl rfl (by decide))) (by intro _ ;rfl)) (@fj _ _ _) rfl) rfl (by decide) (by decide)) gU.nd rfl (locB rfl) rfl (fnB rfl)) (@fD _ _ _ _ _ (@lj _ _ _ _ _ _ (@mY _ _ _ _ _ _ _ _ _ (@pdv _ _ _ 2 _ _ rfl) (@jt _ _ _ _ _ _ _ (@fg _ _ _ _ _ _ _ (@iX _ _ _ _ _ _ _ _ _ _ gO okIx (@gP _ _ _ _ _ _ false (@fg _ _ _ _ _ _ _ (@fr _ _ _ _ _ _) (@fg _ _ _ _ _ _ _ (@fr _ _ _ _ _ _) (@fg _ _ _ _ _ _ _ (@fr _ _ _ _ _ _) (@fg _ _ _ _ _ _ _ (@fr _ _ _ _ _ _) (@fj _ _ _) rfl) rfl) rfl) rfl)) (@fN _ _ _ _ _ _ _ _ _ _ _ _ _ _ fC hr (by omega) rfl (@fz _) (@fg _ _ _ _ _ _ _ (@pdv _ _ _ 0 _ _ rfl) (@fg _ _ _ _ _ _ _ (@fr _ _ _ _ _ _) (@fj _ _ _) rfl) rfl) rfl rfl (by decide)) (fun _ _=>rfl)) (@fg _ _ _ _ _ _ _ (@lm _ _ _ _ _ _ _ _ _ _ _ _ false iA okTuple rfl (bas.nb "tuple" (by decide)) (by decide +kernel) (@fg _ _ _ _ _ _ _ (@DF _ _ _ _ _ _ _ _ _ _ false (@pdv _ _ _ 4 _ _ rfl)) (@fj _ _ _) rfl) rfl (by decide) (by decide)) (@fj _ _ _) rfl) rfl)) rfl rfl rfl rfl) rfl))) (by intro _ ;rfl)) (@fA _ _ _ _ _ _ _ (@gK _ _ _ _ _ _ 5 _ _ (@gP _ _ _ _ _ _ true (@fj _ _ _)) gU.nd rfl (locB rfl) rfl (fnB rfl)) (@fA _ _ _ _ _ _ _ (@jk _ _ _ _ _ _ _ _ _ _ PassesOwn.never rfl (@im _ _ _ _ _ _ _ _ rfl (bas.nb "range" (by decide)) (@fg _ _ _ _ _ _ _ (@gW _ _ _ _ _ _ _ _ _ _ _ _ false gc okLen rfl (bas.nb "len" (by decide)) (by decide +kernel) (@fg _ _ _ _ _ _ _ (@pdv _ _ _ 2 _ _ rfl) (@fj _ _ _) rfl) rfl (by decide) (by decide)) (@fj _ _ _) rfl) rfl) (@fK _ _ _ 6 _ gU.nd rfl (locB rfl) (fnB rfl)) (@fD _ _ _ _ _ (@jk _ _ _ _ _ _ _ _ _ _ PassesOwn.never rfl (@AG _ _ _ _ _ _ _ _ _ rfl (bas.nb "range" (by decide)) (@fg _ _ _ _ _ _ _ (@fG _ _ _ _ _ _ _ _ _ _ _ false fT okAdd (@pdv _ _ _ 6 _ _ rfl) (@fr _ _ _ _ _ _)) (@fg _ _ _ _ _ _ _ (@gW _ _ _ _ _ _ _ _ _ _ _ _ false gc okLen rfl (bas.nb "len" (by decide)) (by decide +kernel) (@fg _ _ _ _ _ _ _ (@pdv _ _ _ 2 _ _ rfl) (@fj _ _ _) rfl) rfl (by decide) (by decide)) (@fj _ _ _) rfl) rfl) rfl rfl) (@fK _ _ _ 7 _ gU.nd rfl (locB rfl) (fnB rfl)) (@fD _ _ _ _ _ (@ik _ _ _ _ _ _ _ _ _ _ (@ij _ _ _ _ _ _ _ _ _ _ _ (mf hr.units0) okEq (@fN _ _ _ _ _ _ _ _ _ _ _ _ _ _ fC hr (by omega) rfl (@fz _) (@fg _ _ _ _ _ _ _ (@pdv _ _ _ 0 _ _ rfl) (@fg _ _ _ _ _ _ _ (@fr _ _ _ _ _ _) (@fj _ _ _) rfl) rfl) rfl rfl (by decide)) (@fr _ _ _ _ _ _) (nomark _)) (@fD _ _ _ _ _ (@lj _ _ _ _ _ _ (@mY _ _ _ _ _ _ _ _ _ (@pdv _ _ _ 5 _ _ rfl) (@jt _ _ _ _ _ _ _ (@fg _ _ _ _ _ _ _ (@pdv _ _ _ 6 _ _ rfl) (@fg _ _ _ _ _ _ _ (@pdv _ _ _ 7 _ _ rfl) (@fj _ _ _) rfl) rfl)) rfl rfl rfl rfl) rfl)) (@gJ _ _ _))) (by intro _ ;rfl))) (by intro _ ;rfl)) (@fD _ _ _ _ _ (@fL _ _ _ _ _ _ (@jt _ _ _ _ _ _ _ (@fg _ _ _ _ _ _ _ (@pdv _ _ _ 1 _ _ rfl) (@fg _ _ _ _ _ _ _ (@lm _ _ _ _ _ _ _ _ _ _ _ _ false iA okTuple rfl (bas.nb "tuple" (by decide)) (by decide +kernel) (@fg _ _ _ _ _ _ _ (@pdv _ _ _ 2 _ _ rfl) (@fj _ _ _) rfl) rfl (by decide) (by decide)) (@fg _ _ _ _ _ _ _ (@lm _ _ _ _ _ _ _ _ _ _ _ _ false iA okTuple rfl (bas.nb "tuple" (by decide)) (by decide +kernel) (@fg _ _ _ _ _ _ _ (@pdv _ _ _ 5 _ _ rfl) (@fj _ _ _) rfl) rfl (by decide) (by decide)) (@fg _ _ _ _ _ _ _ (@fG _ _ _ _ _ _ _ _ _ _ _ false fT okAdd (@fr _ _ _ _ _ _) (@fN _ _ _ _ _ _ _ _ _ _ _ _ _ _ fC hr (by omega) rfl (@fz _) (@fg _ _ _ _ _ _ _ (@pdv _ _ _ 0 _ _ rfl) (@fg _ _ _ _ _ _ _ (@iX _ _ _ _ _ _ _ _ _ _ gO okIx (@gP _ _ _ _ _ _ false (@fg _ _ _ _ _ _ _ (@fr _ _ _ _ _ _) (@fg _ _ _ _ _ _ _ (@fr _ _ _ _ _ _) (@fj _ _ _) rfl) rfl)) (@fN _ _ _ _ _ _ _ _ _ _ _ _ _ _ fC hr (by omega) rfl (@fz _) (@fg _ _ _ _ _ _ _ (@pdv _ _ _ 0 _ _ rfl) (@fg _ _ _ _ _ _ _ (@fr _ _ _ _ _ _) (@fj _ _ _) rfl) rfl) rfl rfl (by decide)) (fun _ _=>rfl)) (@fj _ _ _) rfl) rfl) rfl rfl (by decide))) (@fj _ _ _) rfl) rfl) rfl) rfl))))))))))
noncomputable abbrev iD:Stmt:=top 27
theorem A6:FnScope ["_law_script", "_law_k"] ["_law_script", "_law_k"] (fq iD):=⟨rfl,rfl,rfl,by decide +kernel,rfl,by decide +kernel,by decide +kernel⟩
theorem iZ (bas:Bas K mg blts) (d:Def K mg "_law_cell_at" iD ["_law_script", "_law_k"]):Has P w K mg base cl 1 "_law_cell_at" ["_law_script", "_law_k"] K1.gq :=
  gn (k:=0) (m:=K1.jE) d A6 (fun f cdv A outer s H E n F0 hr=>(@fA _ _ _ _ _ _ _ (@ik _ _ _ _ _ _ _ _ _ _ (@ij _ _ _ _ _ _ _ _ _ _ _ (BW hr.units0) okLt (@pdv _ _ _ 1 _ _ rfl) (@FH _ _ _ _ _ _ _ rfl (bas.nb "len" (by decide)) (@pdv _ _ _ 0 _ _ rfl) rfl) (nomark _)) (@fD _ _ _ _ _ (@fL _ _ _ _ _ _ (@NR _ _ _ _ _ _ _ _ (@pdv _ _ _ 0 _ _ rfl) (@pdv _ _ _ 1 _ _ rfl) (fun _ _=>rfl)))) (@gJ _ _ _)) (@fD _ _ _ _ _ (@fL _ _ _ _ _ _ (@fr _ _ _ _ _ _)))))
noncomputable abbrev ja:Stmt:=top 35
theorem jo:FnScope ["_law_pot_here", "_law_house_here", "_law_rooms", "_law_found", "_law_turn", "_law_one", "_law_other"] ["_law_pot_here", "_law_house_here"] (fq ja):=⟨rfl,rfl,rfl,by decide +kernel,rfl,by decide +kernel,by decide +kernel⟩
theorem jM (bas:Bas K mg blts) (d:Def K mg "_law_moves" ja ["_law_pot_here", "_law_house_here"]) (fC:Has P w K mg base cl 1 "_law_take" ["_law_pot_here", "_law_far"] K1.ff):Has P w K mg base cl 2 "_law_moves" ["_law_pot_here", "_law_house_here"] K52.iQ :=
  gn (k:=1) (m:=K52.lF) d jo (fun f cdv A outer s H E n F0 hr=>(@fA _ _ _ _ _ _ _ (@oT _ _ _ _ _ _ _ _ _ _ _ _ _ _ _ 2 3 rfl jo.nd (@fg _ _ _ _ _ _ _ (@gW _ _ _ _ _ _ _ _ _ _ _ _ false gc okLen rfl (bas.nb "len" (by decide)) (by decide +kernel) (@fg _ _ _ _ _ _ _ (@iX _ _ _ _ _ _ _ _ _ _ gO okIx (@pdv _ _ _ 1 _ _ rfl) (@fr _ _ _ _ _ _) (fun _ _=>rfl)) (@fj _ _ _) rfl) rfl (by decide) (by decide)) (@fg _ _ _ _ _ _ _ (@gP _ _ _ _ _ _ true (@fj _ _ _)) (@fj _ _ _) rfl) rfl) rfl rfl (by decide) rfl rfl rfl rfl) (@fA _ _ _ _ _ _ _ (@jk _ _ _ _ _ _ _ _ _ _ PassesOwn.never rfl (@im _ _ _ _ _ _ _ _ rfl (bas.nb "range" (by decide)) (@fg _ _ _ _ _ _ _ (Jz (@ij _ _ _ _ _ _ _ _ _ _ _ Oy okGtI (@pdv _ _ _ 2 _ _ rfl) (@fr _ _ _ _ _ _) (nomark _)) (@fN _ _ _ _ _ _ _ _ _ _ _ _ _ _ fC hr (by omega) rfl (@fz _) (@fg _ _ _ _ _ _ _ (@pdv _ _ _ 0 _ _ rfl) (@fg _ _ _ _ _ _ _ (@fr _ _ _ _ _ _) (@fj _ _ _) rfl) rfl) rfl rfl (by decide)) (@fr _ _ _ _ _ _)) (@fj _ _ _) rfl) rfl) (@fK _ _ _ 4 _ jo.nd rfl (locB rfl) (fnB rfl)) (@fA _ _ _ _ _ _ _ (@gK _ _ _ _ _ _ 5 _ _ (@fN _ _ _ _ _ _ _ _ _ _ _ _ _ _ fC hr (by omega) rfl (@fz _) (@fg _ _ _ _ _ _ _ (@pdv _ _ _ 0 _ _ rfl) (@fg _ _ _ _ _ _ _ (@pdv _ _ _ 2 _ _ rfl) (@fj _ _ _) rfl) rfl) rfl rfl (by decide)) jo.nd rfl (locB rfl) rfl (fnB rfl)) (@fA _ _ _ _ _ _ _ (@gK _ _ _ _ _ _ 6 _ _ (@fG _ _ _ _ _ _ _ _ _ _ _ false AA okMod (@fG _ _ _ _ _ _ _ _ _ _ _ false fT okAdd (@fG _ _ _ _ _ _ _ _ _ _ _ false fT okAdd (@pdv _ _ _ 5 _ _ rfl) (@fr _ _ _ _ _ _)) (@fN _ _ _ _ _ _ _ _ _ _ _ _ _ _ fC hr (by omega) rfl (@fz _) (@fg _ _ _ _ _ _ _ (@pdv _ _ _ 0 _ _ rfl) (@fg _ _ _ _ _ _ _ (@fG _ _ _ _ _ _ _ _ _ _ _ false om okSub (@pdv _ _ _ 2 _ _ rfl) (@fr _ _ _ _ _ _)) (@fj _ _ _) rfl) rfl) rfl rfl (by decide))) (@pdv _ _ _ 2 _ _ rfl)) jo.nd rfl (locB rfl) rfl (fnB rfl)) (@fA _ _ _ _ _ _ _ (@lj _ _ _ _ _ _ (@mY _ _ _ _ _ _ _ _ _ (@pdv _ _ _ 3 _ _ rfl) (@jt _ _ _ _ _ _ _ (@fg _ _ _ _ _ _ _ (@pdv _ _ _ 5 _ _ rfl) (@fg _ _ _ _ _ _ _ (@pdv _ _ _ 6 _ _ rfl) (@fj _ _ _) rfl) rfl)) rfl rfl rfl rfl) rfl) (@fD _ _ _ _ _ (@ik _ _ _ _ _ _ _ _ _ _ (@ij _ _ _ _ _ _ _ _ _ _ _ (mf hr.units0) okEq (@fN _ _ _ _ _ _ _ _ _ _ _ _ _ _ fC hr (by omega) rfl (@fz _) (@fg _ _ _ _ _ _ _ (@pdv _ _ _ 0 _ _ rfl) (@fg _ _ _ _ _ _ _ (@fr _ _ _ _ _ _) (@fj _ _ _) rfl) rfl) rfl rfl (by decide)) (@fr _ _ _ _ _ _) (nomark _)) (@fD _ _ _ _ _ (@BV _ _ _ _ _ _ _ _ (@jt _ _ _ _ _ _ _ (@fg _ _ _ _ _ _ _ (@iX _ _ _ _ _ _ _ _ _ _ gO okIx (@iX _ _ _ _ _ _ _ _ _ _ gO okIx (@pdv _ _ _ 3 _ _ rfl) (@fr _ _ _ _ _ _) (fun _ _=>rfl)) (@fr _ _ _ _ _ _) (fun _ _=>rfl)) (@fg _ _ _ _ _ _ _ (@iX _ _ _ _ _ _ _ _ _ _ gO okIx (@iX _ _ _ _ _ _ _ _ _ _ gO okIx (@pdv _ _ _ 3 _ _ rfl) (@fr _ _ _ _ _ _) (fun _ _=>rfl)) (@fr _ _ _ _ _ _) (fun _ _=>rfl)) (@fj _ _ _) rfl) rfl)) (@FG _ _ (⟨E0,cl⟩) _ _ _ _ _ (@pdv _ _ _ 3 _ _ rfl) (@DH _ _ _ _ _ _ (@fr _ _ _ _ _ _)) (by intro _ ;rfl)) rfl rfl rfl)) (@gJ _ _ _)))))) (by intro _ ;rfl)) (@fD _ _ _ _ _ (@fL _ _ _ _ _ _ (@NQ _ _ _ _ 3 _ rfl (by first | exact Or.inl rfl | exact Or.inr ( Or.inl rfl ) | exact Or.inr ( Or.inr rfl )) (by decide) (by decide)))))))
noncomputable abbrev iJ:Stmt:=top 32
theorem oX:FnScope ["_law_pot_here", "_law_some", "_law_left"] ["_law_pot_here", "_law_some"] (fq iJ):=⟨rfl,rfl,rfl,by decide +kernel,rfl,by decide +kernel,by decide +kernel⟩
theorem jN (bas:Bas K mg blts) (d:Def K mg "_law_mixed" iJ ["_law_pot_here", "_law_some"]) (fC:Has P w K mg base cl 1 "_law_take" ["_law_pot_here", "_law_far"] K1.ff):Has P w K mg base cl 2 "_law_mixed" ["_law_pot_here", "_law_some"] K52.iR :=
  gn (k:=1) (m:=K52.lG) d oX (fun f cdv A outer s H E n F0 hr=>(@fA _ _ _ _ _ _ _ (@gK _ _ _ _ _ _ 2 _ _ (@lm _ _ _ _ _ _ _ _ _ _ _ _ true jZ okList rfl (bas.nb "list" (by decide)) (by decide +kernel) (@fg _ _ _ _ _ _ _ (@pdv _ _ _ 1 _ _ rfl) (@fj _ _ _) rfl) rfl (by decide) (by decide)) oX.nd rfl (locB rfl) rfl (fnB rfl)) (@fD _ _ _ _ _ (@fL _ _ _ _ _ _ (@gX _ _ _ (["_law_one", "_law_left", "_law_pot_here"]) _ _ _ _ _ _ _ _ _ _ _ false rfl (gh (XN:=["_law_pot_here", "_law_some", "_law_left"]) (sc:=fq iJ) (fun _=>rfl) rfl (by decide +kernel)) (@iF _ _ _ _ _ _ (@pdv _ _ _ 1 _ _ rfl)) (fun _ _ _ _ _ _=>(@fK _ _ _ 0 _ (show (["_law_one", "_law_left", "_law_pot_here"]:List Str).Nodup by decide +kernel) rfl (locB rfl) (fnB rfl))) (fun _ _ _ _ _ _=>(@gY _ _ _)) (fun _ _ _ _ _ _=>(@Lk _ _ _ _ _ _ _ _ _ (@pdv _ _ _ 1 _ _ rfl) (@fN _ _ _ _ _ _ _ _ _ _ _ _ _ _ fC hr (by omega) rfl (@fz _) (@fg _ _ _ _ _ _ _ (@pdv _ _ _ 2 _ _ rfl) (@fg _ _ _ _ _ _ _ (@gW _ _ _ _ _ _ _ _ _ _ _ _ false gc okLen rfl (bas.nb "len" (by decide)) (by decide +kernel) (@fg _ _ _ _ _ _ _ (@pdv _ _ _ 1 _ _ rfl) (@fj _ _ _) rfl) rfl (by decide) (by decide)) (@fj _ _ _) rfl) rfl) rfl rfl (by decide)) rfl rfl rfl rfl)) (by intro _ ;rfl))))))
noncomputable abbrev lf:Stmt:=top 33
theorem A7:FnScope ["_law_pot_here", "_law_some"] ["_law_pot_here"] (fq lf):=⟨rfl,rfl,rfl,by decide +kernel,rfl,by decide +kernel,by decide +kernel⟩
theorem jb (bas:Bas K mg blts) (d:Def K mg "_law_odd" lf ["_law_pot_here"]) (fC:Has P w K mg base cl 1 "_law_take" ["_law_pot_here", "_law_far"] K1.ff):Has P w K mg base cl 2 "_law_odd" ["_law_pot_here"] K1.gu :=
  gn (k:=1) (m:=K1.o8) d A7 (fun f cdv A outer s H E n F0 hr=>(@fA _ _ _ _ _ _ _ (@gK _ _ _ _ _ _ 1 _ _ (@gP _ _ _ _ _ _ false (@fg _ _ _ _ _ _ _ (@Jw _ _ _ _ _) (@fg _ _ _ _ _ _ _ (@li _ _ _ _ _ _) (@fg _ _ _ _ _ _ _ (@li _ _ _ _ _ _) (@fg _ _ _ _ _ _ _ (@DH _ _ _ _ _ _ (@fr _ _ _ _ _ _)) (@fg _ _ _ _ _ _ _ (@fG _ _ _ _ _ _ _ _ _ _ _ false Dv okPow (@fr _ _ _ _ _ _) (@fr _ _ _ _ _ _)) (@fg _ _ _ _ _ _ _ (@DC _ _ _ _ _ _) (@fg _ _ _ _ _ _ _ (@DC _ _ _ _ _ _) (@fg _ _ _ _ _ _ _ (@DC _ _ _ _ _ _) (@fg _ _ _ _ _ _ _ (@jt _ _ _ _ _ _ _ (@fj _ _ _)) (@fg _ _ _ _ _ _ _ (@gP _ _ _ _ _ _ false (@fj _ _ _)) (@fg _ _ _ _ _ _ _ (@BZ _ _ _ _ false) (@fg _ _ _ _ _ _ _ (@gP _ _ _ _ _ _ false (@fg _ _ _ _ _ _ _ (@jt _ _ _ _ _ _ _ (@fj _ _ _)) (@fj _ _ _) rfl)) (@fg _ _ _ _ _ _ _ (@jt _ _ _ _ _ _ _ (@fg _ _ _ _ _ _ _ (@jt _ _ _ _ _ _ _ (@fj _ _ _)) (@fj _ _ _) rfl)) (@fg _ _ _ _ _ _ _ (@jt _ _ _ _ _ _ _ (@fg _ _ _ _ _ _ _ (@fr _ _ _ _ _ _) (@fj _ _ _) rfl)) (@fg _ _ _ _ _ _ _ (@gP _ _ _ _ _ _ false (@fg _ _ _ _ _ _ _ (@fr _ _ _ _ _ _) (@fj _ _ _) rfl)) (@fg _ _ _ _ _ _ _ (@Mh _ _ _ _ false _ _ _ _ _ _) (@fg _ _ _ _ _ _ _ (@jt _ _ _ _ _ _ _ (@fg _ _ _ _ _ _ _ (@li _ _ _ _ _ _) (@fg _ _ _ _ _ _ _ (@li _ _ _ _ _ _) (@fj _ _ _) rfl) rfl)) (@fj _ _ _) rfl) rfl) rfl) rfl) rfl) rfl) rfl) rfl) rfl) rfl) rfl) rfl) rfl) rfl) rfl) rfl) rfl)) A7.nd rfl (locB rfl) rfl (fnB rfl)) (@fD _ _ _ _ _ (@fL _ _ _ _ _ _ (@iX _ _ _ _ _ _ _ _ _ _ gO okIx (@pdv _ _ _ 1 _ _ rfl) (@fN _ _ _ _ _ _ _ _ _ _ _ _ _ _ fC hr (by omega) rfl (@fz _) (@fg _ _ _ _ _ _ _ (@pdv _ _ _ 0 _ _ rfl) (@fg _ _ _ _ _ _ _ (@gW _ _ _ _ _ _ _ _ _ _ _ _ false gc okLen rfl (bas.nb "len" (by decide)) (by decide +kernel) (@fg _ _ _ _ _ _ _ (@pdv _ _ _ 1 _ _ rfl) (@fj _ _ _) rfl) rfl (by decide) (by decide)) (@fj _ _ _) rfl) rfl) rfl rfl (by decide)) (fun _ _=>rfl))))))
noncomputable abbrev iS:Stmt:=top 37
theorem lK:FnScope ["_law_pot_here", "_law_most", "_law_row", "_law_found", "_law_way", "_law_at", "_law_to"] ["_law_pot_here", "_law_most", "_law_row"] (fq iS):=⟨rfl,rfl,rfl,by decide +kernel,rfl,by decide +kernel,by decide +kernel⟩
theorem iT (bas:Bas K mg blts) (d:Def K mg "_law_turned" iS ["_law_pot_here", "_law_most", "_law_row"]) (fC:Has P w K mg base cl 1 "_law_take" ["_law_pot_here", "_law_far"] K1.ff) (jb:Has P w K mg base cl 2 "_law_odd" ["_law_pot_here"] K1.gu):Has P w K mg base cl 3 "_law_turned" ["_law_pot_here", "_law_most", "_law_row"] K52.gm :=
  gn (k:=2) (m:=K52.mE) d lK (fun f cdv A outer s H E n F0 hr=>(@fA _ _ _ _ _ _ _ (@oT _ _ _ _ _ _ _ _ _ _ _ _ _ _ _ 3 4 rfl lK.nd (@fg _ _ _ _ _ _ _ (@lm _ _ _ _ _ _ _ _ _ _ _ _ false jZ okList rfl (bas.nb "list" (by decide)) (by decide +kernel) (@fg _ _ _ _ _ _ _ (@pdv _ _ _ 2 _ _ rfl) (@fj _ _ _) rfl) rfl (by decide) (by decide)) (@fg _ _ _ _ _ _ _ (@fN _ _ _ _ _ _ _ _ _ _ _ _ _ _ fC hr (by omega) rfl (@fz _) (@fg _ _ _ _ _ _ _ (@pdv _ _ _ 0 _ _ rfl) (@fg _ _ _ _ _ _ _ (@fr _ _ _ _ _ _) (@fj _ _ _) rfl) rfl) rfl rfl (by decide)) (@fj _ _ _) rfl) rfl) rfl rfl (by decide) rfl rfl rfl rfl) (@fA _ _ _ _ _ _ _ (@oT _ _ _ _ _ _ _ _ _ _ _ _ _ _ _ 5 6 rfl lK.nd (@fg _ _ _ _ _ _ _ (@fN _ _ _ _ _ _ _ _ _ _ _ _ _ _ fC hr (by omega) rfl (@fz _) (@fg _ _ _ _ _ _ _ (@pdv _ _ _ 0 _ _ rfl) (@fg _ _ _ _ _ _ _ (@fG _ _ _ _ _ _ _ _ _ _ _ false fT okAdd (@gW _ _ _ _ _ _ _ _ _ _ _ _ false gc okLen rfl (bas.nb "len" (by decide)) (by decide +kernel) (@fg _ _ _ _ _ _ _ (@pdv _ _ _ 3 _ _ rfl) (@fj _ _ _) rfl) rfl (by decide) (by decide)) (@fr _ _ _ _ _ _)) (@fj _ _ _) rfl) rfl) rfl rfl (by decide)) (@fg _ _ _ _ _ _ _ (@fN _ _ _ _ _ _ _ _ _ _ _ _ _ _ fC hr (by omega) rfl (@fz _) (@fg _ _ _ _ _ _ _ (@pdv _ _ _ 0 _ _ rfl) (@fg _ _ _ _ _ _ _ (@fG _ _ _ _ _ _ _ _ _ _ _ false fT okAdd (@gW _ _ _ _ _ _ _ _ _ _ _ _ false gc okLen rfl (bas.nb "len" (by decide)) (by decide +kernel) (@fg _ _ _ _ _ _ _ (@pdv _ _ _ 3 _ _ rfl) (@fj _ _ _) rfl) rfl (by decide) (by decide)) (@fr _ _ _ _ _ _)) (@fj _ _ _) rfl) rfl) rfl rfl (by decide)) (@fj _ _ _) rfl) rfl) rfl rfl (by decide) rfl rfl rfl rfl) (@fA _ _ _ _ _ _ _ (@ik _ _ _ _ _ _ _ _ _ _ (@ij _ _ _ _ _ _ _ _ _ _ _ (mf hr.units0) okEq (@pdv _ _ _ 4 _ _ rfl) (@fr _ _ _ _ _ _) (nomark _)) (@fD _ _ _ _ _ (@fL _ _ _ _ _ _ (@fG _ _ _ _ _ _ _ _ _ _ _ false fT okAdd (@gN _ _ _ _ _ _ _ _ _ _ _ false (@pdv _ _ _ 3 _ _ rfl) (@i5 _ _ _) (@gM _ _ _ _ _ (@pdv _ _ _ 5 _ _ rfl))) (@gN _ _ _ _ _ _ _ _ _ _ _ false (@pdv _ _ _ 3 _ _ rfl) (@gM _ _ _ _ _ (@fG _ _ _ _ _ _ _ _ _ _ _ false fT okAdd (@pdv _ _ _ 5 _ _ rfl) (@fr _ _ _ _ _ _))) (@i5 _ _ _))))) (@gJ _ _ _)) (@fA _ _ _ _ _ _ _ (@ik _ _ _ _ _ _ _ _ _ _ (@ij _ _ _ _ _ _ _ _ _ _ _ (mf hr.units0) okEq (@pdv _ _ _ 4 _ _ rfl) (@fr _ _ _ _ _ _) (nomark _)) (@fD _ _ _ _ _ (@fL _ _ _ _ _ _ (@fG _ _ _ _ _ _ _ _ _ _ _ false fT okAdd (@fG _ _ _ _ _ _ _ _ _ _ _ false fT okAdd (@gN _ _ _ _ _ _ _ _ _ _ _ false (@pdv _ _ _ 3 _ _ rfl) (@i5 _ _ _) (@gM _ _ _ _ _ (@pdv _ _ _ 5 _ _ rfl))) (@gP _ _ _ _ _ _ false (@fg _ _ _ _ _ _ _ (@fG _ _ _ _ _ _ _ _ _ _ _ false om okSub (@fN _ _ _ _ _ _ _ _ _ _ _ _ _ _ fC hr (by omega) rfl (@fz _) (@fg _ _ _ _ _ _ _ (@pdv _ _ _ 0 _ _ rfl) (@fg _ _ _ _ _ _ _ (@fG _ _ _ _ _ _ _ _ _ _ _ false fT okAdd (@pdv _ _ _ 1 _ _ rfl) (@fr _ _ _ _ _ _)) (@fj _ _ _) rfl) rfl) rfl rfl (by decide)) (@lm _ _ _ _ _ _ _ _ _ _ _ _ false Gp okInt rfl (bas.nb "int" (by decide)) (by decide +kernel) (@fg _ _ _ _ _ _ _ (@ou _ _ _ _ _ _ _ _ _ _ _ (mf hr.units0) okEq (@fN _ _ _ _ _ _ _ _ _ _ _ _ _ _ fC hr (by omega) rfl (@fz _) (@fg _ _ _ _ _ _ _ (@pdv _ _ _ 0 _ _ rfl) (@fg _ _ _ _ _ _ _ (@fr _ _ _ _ _ _) (@fj _ _ _) rfl) rfl) rfl rfl (by decide)) (@fr _ _ _ _ _ _) (nomark _)) (@fj _ _ _) rfl) rfl (by decide) (by decide))) (@fj _ _ _) rfl))) (@gN _ _ _ _ _ _ _ _ _ _ _ false (@pdv _ _ _ 3 _ _ rfl) (@gM _ _ _ _ _ (@pdv _ _ _ 5 _ _ rfl)) (@i5 _ _ _))))) (@gJ _ _ _)) (@fA _ _ _ _ _ _ _ (@ik _ _ _ _ _ _ _ _ _ _ (@ij _ _ _ _ _ _ _ _ _ _ _ (mf hr.units0) okEq (@pdv _ _ _ 4 _ _ rfl) (@fr _ _ _ _ _ _) (nomark _)) (@fD _ _ _ _ _ (@fL _ _ _ _ _ _ (@fG _ _ _ _ _ _ _ _ _ _ _ false fT okAdd (@fG _ _ _ _ _ _ _ _ _ _ _ false fT okAdd (@gN _ _ _ _ _ _ _ _ _ _ _ false (@pdv _ _ _ 3 _ _ rfl) (@i5 _ _ _) (@gM _ _ _ _ _ (@pdv _ _ _ 5 _ _ rfl))) (@gP _ _ _ _ _ _ false (@fg _ _ _ _ _ _ _ (@fN _ _ _ _ _ _ _ _ _ _ _ _ _ _ jb hr (by omega) rfl (@fz _) (@fg _ _ _ _ _ _ _ (@pdv _ _ _ 0 _ _ rfl) (@fj _ _ _) rfl) rfl rfl (by decide)) (@fj _ _ _) rfl))) (@gN _ _ _ _ _ _ _ _ _ _ _ false (@pdv _ _ _ 3 _ _ rfl) (@gM _ _ _ _ _ (@fG _ _ _ _ _ _ _ _ _ _ _ false fT okAdd (@pdv _ _ _ 5 _ _ rfl) (@fr _ _ _ _ _ _))) (@i5 _ _ _))))) (@gJ _ _ _)) (@fA _ _ _ _ _ _ _ (@ik _ _ _ _ _ _ _ _ _ _ (@ij _ _ _ _ _ _ _ _ _ _ _ (mf hr.units0) okEq (@pdv _ _ _ 4 _ _ rfl) (@fr _ _ _ _ _ _) (nomark _)) (@fD _ _ _ _ _ (@fL _ _ _ _ _ _ (@fG _ _ _ _ _ _ _ _ _ _ _ false fT okAdd (@gN _ _ _ _ _ _ _ _ _ _ _ false (@pdv _ _ _ 3 _ _ rfl) (@gM _ _ _ _ _ (@pdv _ _ _ 5 _ _ rfl)) (@i5 _ _ _)) (@gN _ _ _ _ _ _ _ _ _ _ _ false (@pdv _ _ _ 3 _ _ rfl) (@i5 _ _ _) (@gM _ _ _ _ _ (@pdv _ _ _ 5 _ _ rfl)))))) (@gJ _ _ _)) (@fA _ _ _ _ _ _ _ (@ik _ _ _ _ _ _ _ _ _ _ (@ij _ _ _ _ _ _ _ _ _ _ _ (mf hr.units0) okEq (@pdv _ _ _ 4 _ _ rfl) (@fr _ _ _ _ _ _) (nomark _)) (@fD _ _ _ _ _ (@fL _ _ _ _ _ _ (@fG _ _ _ _ _ _ _ _ _ _ _ false fT okAdd (@gN _ _ _ _ _ _ _ _ _ _ _ false (@pdv _ _ _ 3 _ _ rfl) (@i5 _ _ _) (@gM _ _ _ _ _ (@pdv _ _ _ 5 _ _ rfl))) (@gN _ _ _ _ _ _ _ _ _ _ _ false (@pdv _ _ _ 3 _ _ rfl) (@gM _ _ _ _ _ (@pdv _ _ _ 6 _ _ rfl)) (@i5 _ _ _))))) (@gJ _ _ _)) (@fD _ _ _ _ _ (@fL _ _ _ _ _ _ (Jz (@ij _ _ _ _ _ _ _ _ _ _ _ (mf hr.units0) okEq (@pdv _ _ _ 4 _ _ rfl) (@fr _ _ _ _ _ _) (nomark _)) (@DF _ _ _ _ _ _ _ _ _ _ false (@pdv _ _ _ 3 _ _ rfl)) (@lm _ _ _ _ _ _ _ _ _ _ _ _ false iA okTuple rfl (bas.nb "tuple" (by decide)) (by decide +kernel) (@fg _ _ _ _ _ _ _ (@pdv _ _ _ 3 _ _ rfl) (@fj _ _ _) rfl) rfl (by decide) (by decide)))))))))))))
noncomputable abbrev jc:Stmt:=top 30
theorem Cm:FnScope ["_law_thing"] ["_law_thing"] (fq jc):=⟨rfl,rfl,rfl,by decide +kernel,rfl,by decide +kernel,by decide +kernel⟩
theorem jO (bas:Bas K mg blts) (d:Def K mg "_law_whole" jc ["_law_thing"]):Has P w K mg base cl 1 "_law_whole" ["_law_thing"] K1.iP :=
  gn (k:=0) (m:=K1.mP) d Cm (fun f cdv A outer s H E n F0 hr=>(@fD _ _ _ _ _ (@fL _ _ _ _ _ _ (@gZ _ _ _ _ _ _ _ _ _ (@oS _ _ _ _ _ _ _ _ _ _ bas.ti rfl (bas.nb "isinstance" (by decide)) rfl (bas.nb "int" (by decide)) (by decide +kernel) (@pdv _ _ _ 0 _ _ rfl) rfl (by decide) (by decide)) (@jj _ _ _ _ _ _ _ (@Jy _ _ _ _ _ _ (@oS _ _ _ _ _ _ _ _ _ _ bas.tb rfl (bas.nb "isinstance" (by decide)) rfl (bas.nb "bool" (by decide)) (by decide +kernel) (@pdv _ _ _ 0 _ _ rfl) rfl (by decide) (by decide))))))))
noncomputable abbrev iU:Stmt:=top 31
theorem Bl:FnScope ["_law_thing", "_law_low", "_law_high"] ["_law_thing", "_law_low", "_law_high"] (fq iU):=⟨rfl,rfl,rfl,by decide +kernel,rfl,by decide +kernel,by decide +kernel⟩
theorem jp (bas:Bas K mg blts) (d:Def K mg "_law_within" iU ["_law_thing", "_law_low", "_law_high"]) (jO:Has P w K mg base cl 1 "_law_whole" ["_law_thing"] K1.iP):Has P w K mg base cl 2 "_law_within" ["_law_thing", "_law_low", "_law_high"] K1.gb :=
  gn (k:=1) (m:=K1.mm) d Bl (fun f cdv A outer s H E n F0 hr=>(@fD _ _ _ _ _ (@fL _ _ _ _ _ _ (@gZ _ _ _ _ _ _ _ _ _ (@fN _ _ _ _ _ _ _ _ _ _ _ _ _ _ jO hr (by omega) rfl (@fz _) (@fg _ _ _ _ _ _ _ (@pdv _ _ _ 0 _ _ rfl) (@fj _ _ _) rfl) rfl rfl (by decide)) (@jj _ _ _ _ _ _ _ (@AE _ _ _ _ _ _ _ _ _ _ _ _ _ _ _ _ (mM hr.units0) (mM hr.units0) okLe okLe (@pdv _ _ _ 1 _ _ rfl) (@pdv _ _ _ 0 _ _ rfl) (@pdv _ _ _ 2 _ _ rfl) (by with_unfolding_all rfl)))))))
noncomputable abbrev ir:Stmt:=top 36
theorem lL:FnScope ["_law_moves_here", "_law_most", "_law_thing", "_law_begin", "_law_end"] ["_law_moves_here", "_law_most", "_law_thing"] (fq ir):=⟨rfl,rfl,rfl,by decide +kernel,rfl,by decide +kernel,by decide +kernel⟩
theorem jq (bas:Bas K mg blts) (d:Def K mg "_law_is_row" ir ["_law_moves_here", "_law_most", "_law_thing"]) (jp:Has P w K mg base cl 2 "_law_within" ["_law_thing", "_law_low", "_law_high"] K1.gb):Has P w K mg base cl 3 "_law_is_row" ["_law_moves_here", "_law_most", "_law_thing"] K52.iC :=
  gn (k:=2) (m:=K52.j5) d lL (fun f cdv A outer s H E n F0 hr=>(@fA _ _ _ _ _ _ _ (@ik _ _ _ _ _ _ _ _ _ _ (@CG _ _ _ _ _ (@AF _ _ _ _ _ _ _ _ _ (@ji _ _ _ _ _ _ (@jh _ _ _ _ _ (@oS _ _ _ _ _ _ _ _ _ _ bas.tl rfl (bas.nb "isinstance" (by decide)) rfl (bas.nb "list" (by decide)) (by decide +kernel) (@pdv _ _ _ 2 _ _ rfl) rfl (by decide) (by decide)) (by intro _ ;rfl))) (@oK _ _ _ _ _ _ (@ji _ _ _ _ _ _ (@jh _ _ _ _ _ (@gW _ _ _ _ _ _ _ _ _ _ _ _ false (gQ rfl) okAll rfl (bas.nb "all" (by decide)) (by decide +kernel) (@fg _ _ _ _ _ _ _ (@gX _ _ _ (["_law_room", "_law_most"]) _ _ _ _ _ _ _ _ _ _ _ false rfl (gh (XN:=["_law_moves_here", "_law_most", "_law_thing", "_law_begin", "_law_end"]) (sc:=fq ir) (fun _=>rfl) rfl (by decide +kernel)) (@iF _ _ _ _ _ _ (@pdv _ _ _ 2 _ _ rfl)) (fun _ _ _ _ _ _=>(@fK _ _ _ 0 _ (show (["_law_room", "_law_most"]:List Str).Nodup by decide +kernel) rfl (locB rfl) (fnB rfl))) (fun _ _ _ _ _ _=>(@gY _ _ _)) (fun _ _ _ _ _ _=>(@fN _ _ _ _ _ _ _ _ _ _ _ _ _ _ jp hr (by omega) rfl (@fz _) (@fg _ _ _ _ _ _ _ (@pdv _ _ _ 0 _ _ rfl) (@fg _ _ _ _ _ _ _ (@fr _ _ _ _ _ _) (@fg _ _ _ _ _ _ _ (@pdv _ _ _ 1 _ _ rfl) (@fj _ _ _) rfl) rfl) rfl) rfl rfl (by decide))) (by intro _ ;rfl)) (@fj _ _ _) rfl) rfl (by decide) (by decide)) (by intro _ ;rfl)))))) (@fD _ _ _ _ _ (@fL _ _ _ _ _ _ (@li _ _ _ _ _ _))) (@gJ _ _ _)) (@fA _ _ _ _ _ _ _ (@jk _ _ _ _ _ _ _ _ _ _ PassesOwn.never rfl (@iF _ _ _ _ _ _ (@pdv _ _ _ 0 _ _ rfl)) (@C0 _ _ _ _ _ _ _ rfl (@jX _ _ _ _ _ _ (@fK _ _ _ 3 _ lL.nd rfl (locB rfl) (fnB rfl)) (@jX _ _ _ _ _ _ (@fK _ _ _ 4 _ lL.nd rfl (locB rfl) (fnB rfl)) (@mK _ _) rfl) rfl) rfl rfl) (@fD _ _ _ _ _ (@ik _ _ _ _ _ _ _ _ _ _ (@CG _ _ _ _ _ (@AF _ _ _ _ _ _ _ _ _ (@ij _ _ _ _ _ _ _ _ _ _ _ oJ (okIn true) (@pdv _ _ _ 3 _ _ rfl) (@pdv _ _ _ 2 _ _ rfl) rfl) (@oK _ _ _ _ _ _ (@ij _ _ _ _ _ _ _ _ _ _ _ oJ (okIn true) (@pdv _ _ _ 4 _ _ rfl) (@gN _ _ _ _ _ _ _ _ _ _ _ false (@pdv _ _ _ 2 _ _ rfl) (@gM _ _ _ _ _ (@Lj _ _ _ _ _ _ _ _ _ (@pdv _ _ _ 2 _ _ rfl) (@pdv _ _ _ 3 _ _ rfl) rfl rfl rfl rfl)) (@i5 _ _ _)) rfl)))) (@fD _ _ _ _ _ (@fL _ _ _ _ _ _ (@li _ _ _ _ _ _))) (@gJ _ _ _))) (by intro _ ;rfl)) (@fD _ _ _ _ _ (@fL _ _ _ _ _ _ (@li _ _ _ _ _ _))))))
noncomputable abbrev jz:Stmt:=top 7
theorem Dp:FnScope ["thing", "fewest", "most"] ["thing", "fewest", "most"] (fq jz):=⟨rfl,rfl,rfl,by decide +kernel,rfl,by decide +kernel,by decide +kernel⟩
theorem fP (bas:Bas K mg blts) (d:Def K mg "is_tuple" jz ["thing", "fewest", "most"]):Has P w K mg base cl 1 "is_tuple" ["thing", "fewest", "most"] K1.fU :=
  gn (k:=0) (m:=K1.oB) d Dp (fun f cdv A outer s H E n F0 hr=>(@fD _ _ _ _ _ (@fL _ _ _ _ _ _ (@gZ _ _ _ _ _ _ _ _ _ (@oS _ _ _ _ _ _ _ _ _ _ bas.tt rfl (bas.nb "isinstance" (by decide)) rfl (bas.nb "tuple" (by decide)) (by decide +kernel) (@pdv _ _ _ 0 _ _ rfl) rfl (by decide) (by decide)) (@jj _ _ _ _ _ _ _ (@AE _ _ _ _ _ _ _ _ _ _ _ _ _ _ _ _ (mM hr.units0) (mM hr.units0) okLe okLe (@pdv _ _ _ 1 _ _ rfl) (@gW _ _ _ _ _ _ _ _ _ _ _ _ false gc okLen rfl (bas.nb "len" (by decide)) (by decide +kernel) (@fg _ _ _ _ _ _ _ (@pdv _ _ _ 0 _ _ rfl) (@fj _ _ _) rfl) rfl (by decide) (by decide)) (@pdv _ _ _ 2 _ _ rfl) (by with_unfolding_all rfl)))))))
noncomputable abbrev jA:Stmt:=top 5
theorem Dq:FnScope ["thing"] ["thing"] (fq jA):=⟨rfl,rfl,rfl,by decide +kernel,rfl,by decide +kernel,by decide +kernel⟩
theorem lz (bas:Bas K mg blts) (d:Def K mg "is_whole" jA ["thing"]):Has P w K mg base cl 1 "is_whole" ["thing"] K1.jF :=
  gn (k:=0) (m:=K1.oA) d Dq (fun f cdv A outer s H E n F0 hr=>(@fD _ _ _ _ _ (@fL _ _ _ _ _ _ (@gZ _ _ _ _ _ _ _ _ _ (@oS _ _ _ _ _ _ _ _ _ _ bas.ti rfl (bas.nb "isinstance" (by decide)) rfl (bas.nb "int" (by decide)) (by decide +kernel) (@pdv _ _ _ 0 _ _ rfl) rfl (by decide) (by decide)) (@jj _ _ _ _ _ _ _ (@Jy _ _ _ _ _ _ (@oS _ _ _ _ _ _ _ _ _ _ bas.tb rfl (bas.nb "isinstance" (by decide)) rfl (bas.nb "bool" (by decide)) (by decide +kernel) (@pdv _ _ _ 0 _ _ rfl) rfl (by decide) (by decide))))))))
noncomputable abbrev jd:Stmt:=top 6
theorem Cn:FnScope ["thing", "least", "greatest"] ["thing", "least", "greatest"] (fq jd):=⟨rfl,rfl,rfl,by decide +kernel,rfl,by decide +kernel,by decide +kernel⟩
theorem fR (bas:Bas K mg blts) (d:Def K mg "is_within" jd ["thing", "least", "greatest"]) (lz:Has P w K mg base cl 1 "is_whole" ["thing"] K1.jF):Has P w K mg base cl 2 "is_within" ["thing", "least", "greatest"] K1.fW :=
  gn (k:=1) (m:=K1.mN) d Cn (fun f cdv A outer s H E n F0 hr=>(@fD _ _ _ _ _ (@fL _ _ _ _ _ _ (@gZ _ _ _ _ _ _ _ _ _ (@fN _ _ _ _ _ _ _ _ _ _ _ _ _ _ lz hr (by omega) rfl (@fz _) (@fg _ _ _ _ _ _ _ (@pdv _ _ _ 0 _ _ rfl) (@fj _ _ _) rfl) rfl rfl (by decide)) (@jj _ _ _ _ _ _ _ (@AE _ _ _ _ _ _ _ _ _ _ _ _ _ _ _ _ (mM hr.units0) (mM hr.units0) okLe okLe (@pdv _ _ _ 1 _ _ rfl) (@pdv _ _ _ 0 _ _ rfl) (@pdv _ _ _ 2 _ _ rfl) (by with_unfolding_all rfl)))))))
noncomputable abbrev iK:Stmt:=top 12
theorem Co:FnScope ["thing"] ["thing"] (fq iK):=⟨rfl,rfl,rfl,by decide +kernel,rfl,by decide +kernel,by decide +kernel⟩
theorem jP (bas:Bas K mg blts) (d:Def K mg "are_rooms" iK ["thing"]) (gl_COLDEST:∃ t,mg "COLDEST"=some (.int 3 t)) (fP:Has P w K mg base cl 1 "is_tuple" ["thing", "fewest", "most"] K1.fU) (fR:Has P w K mg base cl 2 "is_within" ["thing", "least", "greatest"] K1.fW):Has P w K mg base cl 3 "are_rooms" ["thing"] K1.jl :=
  gn (k:=2) (m:=K1.jG) d Co (fun f cdv A outer s H E n F0 hr=>(@fD _ _ _ _ _ (@fL _ _ _ _ _ _ (@gZ _ _ _ _ _ _ _ _ _ (@fN _ _ _ _ _ _ _ _ _ _ _ _ _ _ fP hr (by omega) rfl (@fz _) (@fg _ _ _ _ _ _ _ (@pdv _ _ _ 0 _ _ rfl) (@fg _ _ _ _ _ _ _ (@fr _ _ _ _ _ _) (@fg _ _ _ _ _ _ _ (@fr _ _ _ _ _ _) (@fj _ _ _) rfl) rfl) rfl) rfl rfl (by decide)) (@jj _ _ _ _ _ _ _ (@gW _ _ _ _ _ _ _ _ _ _ _ _ false (gQ rfl) okAll rfl (bas.nb "all" (by decide)) (by decide +kernel) (@fg _ _ _ _ _ _ _ (@gX _ _ _ (["cold"]) _ _ _ _ _ _ _ _ _ _ _ false rfl (gh (XN:=["thing"]) (sc:=fq iK) (fun _=>rfl) rfl (by decide +kernel)) (@iF _ _ _ _ _ _ (@pdv _ _ _ 0 _ _ rfl)) (fun _ _ _ _ _ _=>(@fK _ _ _ 0 _ (show (["cold"]:List Str).Nodup by decide +kernel) rfl (locB rfl) (fnB rfl))) (fun _ _ _ _ _ _=>(@gY _ _ _)) (fun _ _ _ _ _ _=>(@fN _ _ _ _ _ _ _ _ _ _ _ _ _ _ fR hr (by omega) rfl (@fz _) (@fg _ _ _ _ _ _ _ (@pdv _ _ _ 0 _ _ rfl) (@fg _ _ _ _ _ _ _ (@fr _ _ _ _ _ _) (@fg _ _ _ _ _ _ _ (@As _ _ _ _ _ _ rfl gl_COLDEST (by decide)) (@fj _ _ _) rfl) rfl) rfl) rfl rfl (by decide))) (by intro _ ;rfl)) (@fj _ _ _) rfl) rfl (by decide) (by decide)))))))
noncomputable abbrev ii:Stmt:=top 15
theorem Cp:FnScope ["thing"] ["thing"] (fq ii):=⟨rfl,rfl,rfl,by decide +kernel,rfl,by decide +kernel,by decide +kernel⟩
theorem jQ (bas:Bas K mg blts) (d:Def K mg "are_rates" ii ["thing"]) (gl_COLDEST:∃ t,mg "COLDEST"=some (.int 3 t)) (fP:Has P w K mg base cl 1 "is_tuple" ["thing", "fewest", "most"] K1.fU) (fR:Has P w K mg base cl 2 "is_within" ["thing", "least", "greatest"] K1.fW):Has P w K mg base cl 3 "are_rates" ["thing"] K1.j3 :=
  gn (k:=2) (m:=K1.jH) d Cp (fun f cdv A outer s H E n F0 hr=>(@fA _ _ _ _ _ _ _ (@ik _ _ _ _ _ _ _ _ _ _ (@CG _ _ _ _ _ (@AF _ _ _ _ _ _ _ _ _ (@ji _ _ _ _ _ _ (@jh _ _ _ _ _ (@fN _ _ _ _ _ _ _ _ _ _ _ _ _ _ fP hr (by omega) rfl (@fz _) (@fg _ _ _ _ _ _ _ (@pdv _ _ _ 0 _ _ rfl) (@fg _ _ _ _ _ _ _ (@fG _ _ _ _ _ _ _ _ _ _ _ false fT okAdd (@As _ _ _ _ _ _ rfl gl_COLDEST (by decide)) (@fr _ _ _ _ _ _)) (@fg _ _ _ _ _ _ _ (@fG _ _ _ _ _ _ _ _ _ _ _ false fT okAdd (@As _ _ _ _ _ _ rfl gl_COLDEST (by decide)) (@fr _ _ _ _ _ _)) (@fj _ _ _) rfl) rfl) rfl) rfl rfl (by decide)) (by intro _ ;rfl))) (@oK _ _ _ _ _ _ (@ji _ _ _ _ _ _ (@jh _ _ _ _ _ (@gW _ _ _ _ _ _ _ _ _ _ _ _ false (gQ rfl) okAll rfl (bas.nb "all" (by decide)) (by decide +kernel) (@fg _ _ _ _ _ _ _ (@gX _ _ _ (["rate"]) _ _ _ _ _ _ _ _ _ _ _ false rfl (gh (XN:=["thing"]) (sc:=fq ii) (fun _=>rfl) rfl (by decide +kernel)) (@iF _ _ _ _ _ _ (@pdv _ _ _ 0 _ _ rfl)) (fun _ _ _ _ _ _=>(@fK _ _ _ 0 _ (show (["rate"]:List Str).Nodup by decide +kernel) rfl (locB rfl) (fnB rfl))) (fun _ _ _ _ _ _=>(@gY _ _ _)) (fun _ _ _ _ _ _=>(@fN _ _ _ _ _ _ _ _ _ _ _ _ _ _ fR hr (by omega) rfl (@fz _) (@fg _ _ _ _ _ _ _ (@pdv _ _ _ 0 _ _ rfl) (@fg _ _ _ _ _ _ _ (@fr _ _ _ _ _ _) (@fg _ _ _ _ _ _ _ (@fr _ _ _ _ _ _) (@fj _ _ _) rfl) rfl) rfl) rfl rfl (by decide))) (by intro _ ;rfl)) (@fj _ _ _) rfl) rfl (by decide) (by decide)) (by intro _ ;rfl)))))) (@fD _ _ _ _ _ (@fL _ _ _ _ _ _ (@li _ _ _ _ _ _))) (@gJ _ _ _)) (@fD _ _ _ _ _ (@fL _ _ _ _ _ _ (@gW _ _ _ _ _ _ _ _ _ _ _ _ false (gQ rfl) okAll rfl (bas.nb "all" (by decide)) (by decide +kernel) (@fg _ _ _ _ _ _ _ (@gX _ _ _ (["warmer", "colder"]) _ _ _ _ _ _ _ _ _ _ _ false rfl (gh (XN:=["thing"]) (sc:=fq ii) (fun _=>rfl) rfl (by decide +kernel)) (@Mi _ _ _ _ _ _ _ _ _ _ _ rfl (bas.nb "zip" (by decide)) (@fg _ _ _ _ _ _ _ (@pdv _ _ _ 0 _ _ rfl) (@fg _ _ _ _ _ _ _ (@gN _ _ _ _ _ _ _ _ _ _ _ false (@pdv _ _ _ 0 _ _ rfl) (@gM _ _ _ _ _ (@fr _ _ _ _ _ _)) (@i5 _ _ _)) (@fj _ _ _) rfl) rfl) rfl rfl) (fun _ _ _ _ _ _=>(@C0 _ _ _ _ _ _ _ rfl (@jX _ _ _ _ _ _ (@fK _ _ _ 0 _ (show (["warmer", "colder"]:List Str).Nodup by decide +kernel) rfl (locB rfl) (fnB rfl)) (@jX _ _ _ _ _ _ (@fK _ _ _ 1 _ (show (["warmer", "colder"]:List Str).Nodup by decide +kernel) rfl (locB rfl) (fnB rfl)) (@mK _ _) rfl) rfl) rfl rfl)) (fun _ _ _ _ _ _=>(@gY _ _ _)) (fun _ _ _ _ _ _=>(@ou _ _ _ _ _ _ _ _ _ _ _ (mM hr.units0) okLe (@pdv _ _ _ 1 _ _ rfl) (@pdv _ _ _ 0 _ _ rfl) (nomark _))) (by intro _ ;rfl)) (@fj _ _ _) rfl) rfl (by decide) (by decide))))))
noncomputable abbrev lg:Stmt:=top 14
theorem Fp:FnScope ["thing"] ["thing"] (fq lg):=⟨rfl,rfl,rfl,by decide +kernel,rfl,by decide +kernel,by decide +kernel⟩
theorem lU (bas:Bas K mg blts) (d:Def K mg "is_kind" lg ["thing"]) (fP:Has P w K mg base cl 1 "is_tuple" ["thing", "fewest", "most"] K1.fU) (fR:Has P w K mg base cl 2 "is_within" ["thing", "least", "greatest"] K1.fW) (jQ:Has P w K mg base cl 3 "are_rates" ["thing"] K1.j3):Has P w K mg base cl 4 "is_kind" ["thing"] K1.mk :=
  gn (k:=3) (m:=K1.lP) d Fp (fun f cdv A outer s H E n F0 hr=>(@fD _ _ _ _ _ (@fL _ _ _ _ _ _ (@gZ _ _ _ _ _ _ _ _ _ (@fN _ _ _ _ _ _ _ _ _ _ _ _ _ _ fP hr (by omega) rfl (@fz _) (@fg _ _ _ _ _ _ _ (@pdv _ _ _ 0 _ _ rfl) (@fg _ _ _ _ _ _ _ (@fr _ _ _ _ _ _) (@fg _ _ _ _ _ _ _ (@fr _ _ _ _ _ _) (@fj _ _ _) rfl) rfl) rfl) rfl rfl (by decide)) (@gZ _ _ _ _ _ _ _ _ _ (@fN _ _ _ _ _ _ _ _ _ _ _ _ _ _ fR hr (by omega) rfl (@fz _) (@fg _ _ _ _ _ _ _ (@iX _ _ _ _ _ _ _ _ _ _ gO okIx (@pdv _ _ _ 0 _ _ rfl) (@fr _ _ _ _ _ _) (fun _ _=>rfl)) (@fg _ _ _ _ _ _ _ (@fr _ _ _ _ _ _) (@fg _ _ _ _ _ _ _ (@fr _ _ _ _ _ _) (@fj _ _ _) rfl) rfl) rfl) rfl rfl (by decide)) (@jj _ _ _ _ _ _ _ (@fN _ _ _ _ _ _ _ _ _ _ _ _ _ _ jQ hr (by omega) rfl (@fz _) (@fg _ _ _ _ _ _ _ (@iX _ _ _ _ _ _ _ _ _ _ gO okIx (@pdv _ _ _ 0 _ _ rfl) (@fr _ _ _ _ _ _) (fun _ _=>rfl)) (@fj _ _ _) rfl) rfl rfl (by decide))))))))
noncomputable abbrev iL:Stmt:=top 13
theorem Cq:FnScope ["thing"] ["thing"] (fq iL):=⟨rfl,rfl,rfl,by decide +kernel,rfl,by decide +kernel,by decide +kernel⟩
theorem jR (bas:Bas K mg blts) (d:Def K mg "are_kinds" iL ["thing"]) (fP:Has P w K mg base cl 1 "is_tuple" ["thing", "fewest", "most"] K1.fU) (lU:Has P w K mg base cl 4 "is_kind" ["thing"] K1.mk):Has P w K mg base cl 5 "are_kinds" ["thing"] K1.jm :=
  gn (k:=4) (m:=K1.jI) d Cq (fun f cdv A outer s H E n F0 hr=>(@fD _ _ _ _ _ (@fL _ _ _ _ _ _ (@gZ _ _ _ _ _ _ _ _ _ (@fN _ _ _ _ _ _ _ _ _ _ _ _ _ _ fP hr (by omega) rfl (@fz _) (@fg _ _ _ _ _ _ _ (@pdv _ _ _ 0 _ _ rfl) (@fg _ _ _ _ _ _ _ (@fr _ _ _ _ _ _) (@fg _ _ _ _ _ _ _ (@fr _ _ _ _ _ _) (@fj _ _ _) rfl) rfl) rfl) rfl rfl (by decide)) (@jj _ _ _ _ _ _ _ (@gW _ _ _ _ _ _ _ _ _ _ _ _ false (gQ rfl) okAll rfl (bas.nb "all" (by decide)) (by decide +kernel) (@fg _ _ _ _ _ _ _ (@gX _ _ _ (["kind"]) _ _ _ _ _ _ _ _ _ _ _ false rfl (gh (XN:=["thing"]) (sc:=fq iL) (fun _=>rfl) rfl (by decide +kernel)) (@iF _ _ _ _ _ _ (@pdv _ _ _ 0 _ _ rfl)) (fun _ _ _ _ _ _=>(@fK _ _ _ 0 _ (show (["kind"]:List Str).Nodup by decide +kernel) rfl (locB rfl) (fnB rfl))) (fun _ _ _ _ _ _=>(@gY _ _ _)) (fun _ _ _ _ _ _=>(@fN _ _ _ _ _ _ _ _ _ _ _ _ _ _ lU hr (by omega) rfl (@fz _) (@fg _ _ _ _ _ _ _ (@pdv _ _ _ 0 _ _ rfl) (@fj _ _ _) rfl) rfl rfl (by decide))) (by intro _ ;rfl)) (@fj _ _ _) rfl) rfl (by decide) (by decide)))))))
noncomputable abbrev iM:Stmt:=top 8
theorem Cr:FnScope ["things"] ["things"] (fq iM):=⟨rfl,rfl,rfl,by decide +kernel,rfl,by decide +kernel,by decide +kernel⟩
theorem jS (bas:Bas K mg blts) (d:Def K mg "is_rising" iM ["things"]):Has P w K mg base cl 1 "is_rising" ["things"] K1.j0 :=
  gn (k:=0) (m:=K1.mO) d Cr (fun f cdv A outer s H E n F0 hr=>(@fD _ _ _ _ _ (@fL _ _ _ _ _ _ (@gW _ _ _ _ _ _ _ _ _ _ _ _ false (gQ rfl) okAll rfl (bas.nb "all" (by decide)) (by decide +kernel) (@fg _ _ _ _ _ _ _ (@gX _ _ _ (["at", "things"]) _ _ _ _ _ _ _ _ _ _ _ false rfl (gh (XN:=["things"]) (sc:=fq iM) (fun _=>rfl) rfl (by decide +kernel)) (@AG _ _ _ _ _ _ _ _ _ rfl (bas.nb "range" (by decide)) (@fg _ _ _ _ _ _ _ (@fr _ _ _ _ _ _) (@fg _ _ _ _ _ _ _ (@gW _ _ _ _ _ _ _ _ _ _ _ _ false gc okLen rfl (bas.nb "len" (by decide)) (by decide +kernel) (@fg _ _ _ _ _ _ _ (@pdv _ _ _ 0 _ _ rfl) (@fj _ _ _) rfl) rfl (by decide) (by decide)) (@fj _ _ _) rfl) rfl) rfl rfl) (fun _ _ _ _ _ _=>(@fK _ _ _ 0 _ (show (["at", "things"]:List Str).Nodup by decide +kernel) rfl (locB rfl) (fnB rfl))) (fun _ _ _ _ _ _=>(@gY _ _ _)) (fun _ _ _ _ _ _=>(@ou _ _ _ _ _ _ _ _ _ _ _ (BW hr.units0) okLt (@iX _ _ _ _ _ _ _ _ _ _ gO okIx (@pdv _ _ _ 1 _ _ rfl) (@fG _ _ _ _ _ _ _ _ _ _ _ false om okSub (@pdv _ _ _ 0 _ _ rfl) (@fr _ _ _ _ _ _)) (fun _ _=>rfl)) (@iX _ _ _ _ _ _ _ _ _ _ gO okIx (@pdv _ _ _ 1 _ _ rfl) (@pdv _ _ _ 0 _ _ rfl) (fun _ _=>rfl)) (nomark _))) (by intro _ ;rfl)) (@fj _ _ _) rfl) rfl (by decide) (by decide)))))
noncomputable abbrev gH:Stmt:=top 17
theorem Ae:FnScope ["thing", "many"] ["thing", "many"] (fq gH):=⟨rfl,rfl,rfl,by decide +kernel,rfl,by decide +kernel,by decide +kernel⟩
theorem iz (bas:Bas K mg blts) (d:Def K mg "is_pair_apart" gH ["thing", "many"]) (fP:Has P w K mg base cl 1 "is_tuple" ["thing", "fewest", "most"] K1.fU) (fR:Has P w K mg base cl 2 "is_within" ["thing", "least", "greatest"] K1.fW):Has P w K mg base cl 3 "is_pair_apart" ["thing", "many"] K1.ie :=
  gn (k:=2) (m:=K1.iy) d Ae (fun f cdv A outer s H E n F0 hr=>(@fA _ _ _ _ _ _ _ (@ik _ _ _ _ _ _ _ _ _ _ (@ji _ _ _ _ _ _ (@jh _ _ _ _ _ (@fN _ _ _ _ _ _ _ _ _ _ _ _ _ _ fP hr (by omega) rfl (@fz _) (@fg _ _ _ _ _ _ _ (@pdv _ _ _ 0 _ _ rfl) (@fg _ _ _ _ _ _ _ (@fr _ _ _ _ _ _) (@fg _ _ _ _ _ _ _ (@fr _ _ _ _ _ _) (@fj _ _ _) rfl) rfl) rfl) rfl rfl (by decide)) (by intro _ ;rfl))) (@fD _ _ _ _ _ (@fL _ _ _ _ _ _ (@li _ _ _ _ _ _))) (@gJ _ _ _)) (@fD _ _ _ _ _ (@fL _ _ _ _ _ _ (@gZ _ _ _ _ _ _ _ _ _ (@gW _ _ _ _ _ _ _ _ _ _ _ _ false (gQ rfl) okAll rfl (bas.nb "all" (by decide)) (by decide +kernel) (@fg _ _ _ _ _ _ _ (@gX _ _ _ (["kind", "many"]) _ _ _ _ _ _ _ _ _ _ _ false rfl (gh (XN:=["thing", "many"]) (sc:=fq gH) (fun _=>rfl) rfl (by decide +kernel)) (@iF _ _ _ _ _ _ (@pdv _ _ _ 0 _ _ rfl)) (fun _ _ _ _ _ _=>(@fK _ _ _ 0 _ (show (["kind", "many"]:List Str).Nodup by decide +kernel) rfl (locB rfl) (fnB rfl))) (fun _ _ _ _ _ _=>(@gY _ _ _)) (fun _ _ _ _ _ _=>(@fN _ _ _ _ _ _ _ _ _ _ _ _ _ _ fR hr (by omega) rfl (@fz _) (@fg _ _ _ _ _ _ _ (@pdv _ _ _ 0 _ _ rfl) (@fg _ _ _ _ _ _ _ (@fr _ _ _ _ _ _) (@fg _ _ _ _ _ _ _ (@fG _ _ _ _ _ _ _ _ _ _ _ false om okSub (@pdv _ _ _ 1 _ _ rfl) (@fr _ _ _ _ _ _)) (@fj _ _ _) rfl) rfl) rfl) rfl rfl (by decide))) (by intro _ ;rfl)) (@fj _ _ _) rfl) rfl (by decide) (by decide)) (@jj _ _ _ _ _ _ _ (@ou _ _ _ _ _ _ _ _ _ _ _ (BW hr.units0) okLt (@iX _ _ _ _ _ _ _ _ _ _ gO okIx (@pdv _ _ _ 0 _ _ rfl) (@fr _ _ _ _ _ _) (fun _ _=>rfl)) (@iX _ _ _ _ _ _ _ _ _ _ gO okIx (@pdv _ _ _ 0 _ _ rfl) (@fr _ _ _ _ _ _) (fun _ _=>rfl)) (nomark _))))))))
noncomputable abbrev iN:Stmt:=top 16
theorem Cs:FnScope ["thing", "many"] ["thing", "many"] (fq iN):=⟨rfl,rfl,rfl,by decide +kernel,rfl,by decide +kernel,by decide +kernel⟩
theorem jT (bas:Bas K mg blts) (d:Def K mg "are_apart" iN ["thing", "many"]) (jS:Has P w K mg base cl 1 "is_rising" ["things"] K1.j0) (iz:Has P w K mg base cl 3 "is_pair_apart" ["thing", "many"] K1.ie):Has P w K mg base cl 4 "are_apart" ["thing", "many"] K1.gS :=
  gn (k:=3) (m:=K1.jJ) d Cs (fun f cdv A outer s H E n F0 hr=>(@fA _ _ _ _ _ _ _ (@ik _ _ _ _ _ _ _ _ _ _ (@ji _ _ _ _ _ _ (@jh _ _ _ _ _ (@oS _ _ _ _ _ _ _ _ _ _ bas.tt rfl (bas.nb "isinstance" (by decide)) rfl (bas.nb "tuple" (by decide)) (by decide +kernel) (@pdv _ _ _ 0 _ _ rfl) rfl (by decide) (by decide)) (by intro _ ;rfl))) (@fD _ _ _ _ _ (@fL _ _ _ _ _ _ (@li _ _ _ _ _ _))) (@gJ _ _ _)) (@fD _ _ _ _ _ (@fL _ _ _ _ _ _ (@gZ _ _ _ _ _ _ _ _ _ (@gW _ _ _ _ _ _ _ _ _ _ _ _ false (gQ rfl) okAll rfl (bas.nb "all" (by decide)) (by decide +kernel) (@fg _ _ _ _ _ _ _ (@gX _ _ _ (["pair", "many"]) _ _ _ _ _ _ _ _ _ _ _ false rfl (gh (XN:=["thing", "many"]) (sc:=fq iN) (fun _=>rfl) rfl (by decide +kernel)) (@iF _ _ _ _ _ _ (@pdv _ _ _ 0 _ _ rfl)) (fun _ _ _ _ _ _=>(@fK _ _ _ 0 _ (show (["pair", "many"]:List Str).Nodup by decide +kernel) rfl (locB rfl) (fnB rfl))) (fun _ _ _ _ _ _=>(@gY _ _ _)) (fun _ _ _ _ _ _=>(@fN _ _ _ _ _ _ _ _ _ _ _ _ _ _ iz hr (by omega) rfl (@fz _) (@fg _ _ _ _ _ _ _ (@pdv _ _ _ 0 _ _ rfl) (@fg _ _ _ _ _ _ _ (@pdv _ _ _ 1 _ _ rfl) (@fj _ _ _) rfl) rfl) rfl rfl (by decide))) (by intro _ ;rfl)) (@fj _ _ _) rfl) rfl (by decide) (by decide)) (@jj _ _ _ _ _ _ _ (@fN _ _ _ _ _ _ _ _ _ _ _ _ _ _ jS hr (by omega) rfl (@fz _) (@fg _ _ _ _ _ _ _ (@pdv _ _ _ 0 _ _ rfl) (@fj _ _ _) rfl) rfl rfl (by decide))))))))
noncomputable abbrev jB:Stmt:=top 11
theorem jU:FnScope ["thing", "rooms", "kinds", "apart", "hold"] ["thing"] (fq jB):=⟨rfl,rfl,rfl,by decide +kernel,rfl,by decide +kernel,by decide +kernel⟩
theorem lA (bas:Bas K mg blts) (d:Def K mg "is_house" jB ["thing"]) (fP:Has P w K mg base cl 1 "is_tuple" ["thing", "fewest", "most"] K1.fU) (jP:Has P w K mg base cl 3 "are_rooms" ["thing"] K1.jl) (jR:Has P w K mg base cl 5 "are_kinds" ["thing"] K1.jm) (jT:Has P w K mg base cl 4 "are_apart" ["thing", "many"] K1.gS) (fR:Has P w K mg base cl 2 "is_within" ["thing", "least", "greatest"] K1.fW):Has P w K mg base cl 6 "is_house" ["thing"] K1.gT :=
  gn (k:=5) (m:=K1.lq) d jU (fun f cdv A outer s H E n F0 hr=>(@fA _ _ _ _ _ _ _ (@ik _ _ _ _ _ _ _ _ _ _ (@ji _ _ _ _ _ _ (@jh _ _ _ _ _ (@fN _ _ _ _ _ _ _ _ _ _ _ _ _ _ fP hr (by omega) rfl (@fz _) (@fg _ _ _ _ _ _ _ (@pdv _ _ _ 0 _ _ rfl) (@fg _ _ _ _ _ _ _ (@fr _ _ _ _ _ _) (@fg _ _ _ _ _ _ _ (@fr _ _ _ _ _ _) (@fj _ _ _) rfl) rfl) rfl) rfl rfl (by decide)) (by intro _ ;rfl))) (@fD _ _ _ _ _ (@fL _ _ _ _ _ _ (@li _ _ _ _ _ _))) (@gJ _ _ _)) (@fA _ _ _ _ _ _ _ (@BV _ _ _ _ _ _ _ _ (@pdv _ _ _ 0 _ _ rfl) (@C0 _ _ _ _ _ _ _ rfl (@jX _ _ _ _ _ _ (@fK _ _ _ 1 _ jU.nd rfl (locB rfl) (fnB rfl)) (@jX _ _ _ _ _ _ (@fK _ _ _ 2 _ jU.nd rfl (locB rfl) (fnB rfl)) (@jX _ _ _ _ _ _ (@fK _ _ _ 3 _ jU.nd rfl (locB rfl) (fnB rfl)) (@jX _ _ _ _ _ _ (@fK _ _ _ 4 _ jU.nd rfl (locB rfl) (fnB rfl)) (@mK _ _) rfl) rfl) rfl) rfl) rfl rfl) rfl rfl rfl) (@fD _ _ _ _ _ (@fL _ _ _ _ _ _ (@gZ _ _ _ _ _ _ _ _ _ (@fN _ _ _ _ _ _ _ _ _ _ _ _ _ _ jP hr (by omega) rfl (@fz _) (@fg _ _ _ _ _ _ _ (@pdv _ _ _ 1 _ _ rfl) (@fj _ _ _) rfl) rfl rfl (by decide)) (@gZ _ _ _ _ _ _ _ _ _ (@fN _ _ _ _ _ _ _ _ _ _ _ _ _ _ jR hr (by omega) rfl (@fz _) (@fg _ _ _ _ _ _ _ (@pdv _ _ _ 2 _ _ rfl) (@fj _ _ _) rfl) rfl rfl (by decide)) (@gZ _ _ _ _ _ _ _ _ _ (@fN _ _ _ _ _ _ _ _ _ _ _ _ _ _ jT hr (by omega) rfl (@fz _) (@fg _ _ _ _ _ _ _ (@pdv _ _ _ 3 _ _ rfl) (@fg _ _ _ _ _ _ _ (@gW _ _ _ _ _ _ _ _ _ _ _ _ false gc okLen rfl (bas.nb "len" (by decide)) (by decide +kernel) (@fg _ _ _ _ _ _ _ (@pdv _ _ _ 2 _ _ rfl) (@fj _ _ _) rfl) rfl (by decide) (by decide)) (@fj _ _ _) rfl) rfl) rfl rfl (by decide)) (@jj _ _ _ _ _ _ _ (@fN _ _ _ _ _ _ _ _ _ _ _ _ _ _ fR hr (by omega) rfl (@fz _) (@fg _ _ _ _ _ _ _ (@pdv _ _ _ 4 _ _ rfl) (@fg _ _ _ _ _ _ _ (@fr _ _ _ _ _ _) (@fg _ _ _ _ _ _ _ (@fr _ _ _ _ _ _) (@fj _ _ _) rfl) rfl) rfl) rfl rfl (by decide)))))))))))
noncomputable abbrev iV:Stmt:=top 18
theorem Bm:FnScope ["thing"] ["thing"] (fq iV):=⟨rfl,rfl,rfl,by decide +kernel,rfl,by decide +kernel,by decide +kernel⟩
theorem jr (bas:Bas K mg blts) (d:Def K mg "need_house" iV ["thing"]) (lA:Has P w K mg base cl 6 "is_house" ["thing"] K1.gT):Has P w K mg base cl 7 "need_house" ["thing"] K52.iB :=
  gn (k:=6) (m:=K52.iq) d Bm (fun f cdv A outer s H E n F0 hr=>(@fD _ _ _ _ _ (@ik _ _ _ _ _ _ _ _ _ _ (@ji _ _ _ _ _ _ (@jh _ _ _ _ _ (@fN _ _ _ _ _ _ _ _ _ _ _ _ _ _ lA hr (by omega) rfl (@fz _) (@fg _ _ _ _ _ _ _ (@pdv _ _ _ 0 _ _ rfl) (@fj _ _ _) rfl) rfl rfl (by decide)) (by intro _ ;rfl))) (@fD _ _ _ _ _ (@FL _ _ _ _)) (@gJ _ _ _))))
noncomputable abbrev lh:Stmt:=top 19
theorem Fq:FnScope ["house", "thing"] ["house", "thing"] (fq lh):=⟨rfl,rfl,rfl,by decide +kernel,rfl,by decide +kernel,by decide +kernel⟩
theorem jf (bas:Bas K mg blts) (d:Def K mg "is_room" lh ["house", "thing"]) (fR:Has P w K mg base cl 2 "is_within" ["thing", "least", "greatest"] K1.fW):Has P w K mg base cl 3 "is_room" ["house", "thing"] K2.gG :=
  gn (k:=2) (m:=K2.BF) d Fq (fun f cdv A outer s H E n F0 hr=>(@fD _ _ _ _ _ (@fL _ _ _ _ _ _ (@fN _ _ _ _ _ _ _ _ _ _ _ _ _ _ fR hr (by omega) rfl (@fz _) (@fg _ _ _ _ _ _ _ (@pdv _ _ _ 1 _ _ rfl) (@fg _ _ _ _ _ _ _ (@fr _ _ _ _ _ _) (@fg _ _ _ _ _ _ _ (@fG _ _ _ _ _ _ _ _ _ _ _ false om okSub (@gW _ _ _ _ _ _ _ _ _ _ _ _ false gc okLen rfl (bas.nb "len" (by decide)) (by decide +kernel) (@fg _ _ _ _ _ _ _ (@iX _ _ _ _ _ _ _ _ _ _ gO okIx (@pdv _ _ _ 0 _ _ rfl) (@fr _ _ _ _ _ _) (fun _ _=>rfl)) (@fj _ _ _) rfl) rfl (by decide) (by decide)) (@fr _ _ _ _ _ _)) (@fj _ _ _) rfl) rfl) rfl) rfl rfl (by decide)))))
noncomputable abbrev jC:Stmt:=top 25
theorem Fs:FnScope ["house", "thing"] ["house", "thing"] (fq jC):=⟨rfl,rfl,rfl,by decide +kernel,rfl,by decide +kernel,by decide +kernel⟩
theorem lV (bas:Bas K mg blts) (d:Def K mg "is_move" jC ["house", "thing"]) (fP:Has P w K mg base cl 1 "is_tuple" ["thing", "fewest", "most"] K1.fU) (jf:Has P w K mg base cl 3 "is_room" ["house", "thing"] K2.gG):Has P w K mg base cl 4 "is_move" ["house", "thing"] K52.jv :=
  gn (k:=3) (m:=K52.og) d Fs (fun f cdv A outer s H E n F0 hr=>(@fD _ _ _ _ _ (@fL _ _ _ _ _ _ (@gZ _ _ _ _ _ _ _ _ _ (@fN _ _ _ _ _ _ _ _ _ _ _ _ _ _ fP hr (by omega) rfl (@fz _) (@fg _ _ _ _ _ _ _ (@pdv _ _ _ 1 _ _ rfl) (@fg _ _ _ _ _ _ _ (@fr _ _ _ _ _ _) (@fg _ _ _ _ _ _ _ (@fr _ _ _ _ _ _) (@fj _ _ _) rfl) rfl) rfl) rfl rfl (by decide)) (@gZ _ _ _ _ _ _ _ _ _ (@gW _ _ _ _ _ _ _ _ _ _ _ _ false (gQ rfl) okAll rfl (bas.nb "all" (by decide)) (by decide +kernel) (@fg _ _ _ _ _ _ _ (@gX _ _ _ (["room", "house"]) _ _ _ _ _ _ _ _ _ _ _ false rfl (gh (XN:=["house", "thing"]) (sc:=fq jC) (fun _=>rfl) rfl (by decide +kernel)) (@iF _ _ _ _ _ _ (@pdv _ _ _ 1 _ _ rfl)) (fun _ _ _ _ _ _=>(@fK _ _ _ 0 _ (show (["room", "house"]:List Str).Nodup by decide +kernel) rfl (locB rfl) (fnB rfl))) (fun _ _ _ _ _ _=>(@gY _ _ _)) (fun _ _ _ _ _ _=>(@fN _ _ _ _ _ _ _ _ _ _ _ _ _ _ jf hr (by omega) rfl (@fz _) (@fg _ _ _ _ _ _ _ (@pdv _ _ _ 1 _ _ rfl) (@fg _ _ _ _ _ _ _ (@pdv _ _ _ 0 _ _ rfl) (@fj _ _ _) rfl) rfl) rfl rfl (by decide))) (by intro _ ;rfl)) (@fj _ _ _) rfl) rfl (by decide) (by decide)) (@jj _ _ _ _ _ _ _ (@ou _ _ _ _ _ _ _ _ _ _ _ (DD hr.units0) okNe (@iX _ _ _ _ _ _ _ _ _ _ gO okIx (@pdv _ _ _ 1 _ _ rfl) (@fr _ _ _ _ _ _) (fun _ _=>rfl)) (@iX _ _ _ _ _ _ _ _ _ _ gO okIx (@pdv _ _ _ 1 _ _ rfl) (@fr _ _ _ _ _ _) (fun _ _=>rfl)) (nomark _))))))))
noncomputable abbrev iO:Stmt:=top 24
theorem Ct:FnScope ["house", "thing"] ["house", "thing"] (fq iO):=⟨rfl,rfl,rfl,by decide +kernel,rfl,by decide +kernel,by decide +kernel⟩
theorem jV (bas:Bas K mg blts) (d:Def K mg "are_moves" iO ["house", "thing"]) (gl_MOST_MOVES:∃ t,mg "MOST_MOVES"=some (.int 10 t)) (lV:Has P w K mg base cl 4 "is_move" ["house", "thing"] K52.jv):Has P w K mg base cl 5 "are_moves" ["house", "thing"] K52.j6 :=
  gn (k:=4) (m:=K52.lH) d Ct (fun f cdv A outer s H E n F0 hr=>(@fD _ _ _ _ _ (@fL _ _ _ _ _ _ (@gZ _ _ _ _ _ _ _ _ _ (@oS _ _ _ _ _ _ _ _ _ _ bas.tl rfl (bas.nb "isinstance" (by decide)) rfl (bas.nb "list" (by decide)) (by decide +kernel) (@pdv _ _ _ 1 _ _ rfl) rfl (by decide) (by decide)) (@gZ _ _ _ _ _ _ _ _ _ (@ou _ _ _ _ _ _ _ _ _ _ _ (mM hr.units0) okLe (@gW _ _ _ _ _ _ _ _ _ _ _ _ false gc okLen rfl (bas.nb "len" (by decide)) (by decide +kernel) (@fg _ _ _ _ _ _ _ (@pdv _ _ _ 1 _ _ rfl) (@fj _ _ _) rfl) rfl (by decide) (by decide)) (@As _ _ _ _ _ _ rfl gl_MOST_MOVES (by decide)) (nomark _)) (@jj _ _ _ _ _ _ _ (@gW _ _ _ _ _ _ _ _ _ _ _ _ false (gQ rfl) okAll rfl (bas.nb "all" (by decide)) (by decide +kernel) (@fg _ _ _ _ _ _ _ (@gX _ _ _ (["move", "house"]) _ _ _ _ _ _ _ _ _ _ _ false rfl (gh (XN:=["house", "thing"]) (sc:=fq iO) (fun _=>rfl) rfl (by decide +kernel)) (@iF _ _ _ _ _ _ (@pdv _ _ _ 1 _ _ rfl)) (fun _ _ _ _ _ _=>(@fK _ _ _ 0 _ (show (["move", "house"]:List Str).Nodup by decide +kernel) rfl (locB rfl) (fnB rfl))) (fun _ _ _ _ _ _=>(@gY _ _ _)) (fun _ _ _ _ _ _=>(@fN _ _ _ _ _ _ _ _ _ _ _ _ _ _ lV hr (by omega) rfl (@fz _) (@fg _ _ _ _ _ _ _ (@pdv _ _ _ 1 _ _ rfl) (@fg _ _ _ _ _ _ _ (@pdv _ _ _ 0 _ _ rfl) (@fj _ _ _) rfl) rfl) rfl rfl (by decide))) (by intro _ ;rfl)) (@fj _ _ _) rfl) rfl (by decide) (by decide))))))))
noncomputable abbrev iW:Stmt:=top 23
theorem Bn:FnScope ["house", "thing"] ["house", "thing"] (fq iW):=⟨rfl,rfl,rfl,by decide +kernel,rfl,by decide +kernel,by decide +kernel⟩
theorem js (bas:Bas K mg blts) (d:Def K mg "need_moves" iW ["house", "thing"]) (jr:Has P w K mg base cl 7 "need_house" ["thing"] K52.iB) (jV:Has P w K mg base cl 5 "are_moves" ["house", "thing"] K52.j6):Has P w K mg base cl 8 "need_moves" ["house", "thing"] K52.iY :=
  gn (k:=7) (m:=K52.jn) d Bn (fun f cdv A outer s H E n F0 hr=>(@fA _ _ _ _ _ _ _ (@lj _ _ _ _ _ _ (@fN _ _ _ _ _ _ _ _ _ _ _ _ _ _ jr hr (by omega) rfl (@fz _) (@fg _ _ _ _ _ _ _ (@pdv _ _ _ 0 _ _ rfl) (@fj _ _ _) rfl) rfl rfl (by decide)) rfl) (@fD _ _ _ _ _ (@ik _ _ _ _ _ _ _ _ _ _ (@ji _ _ _ _ _ _ (@jh _ _ _ _ _ (@fN _ _ _ _ _ _ _ _ _ _ _ _ _ _ jV hr (by omega) rfl (@fz _) (@fg _ _ _ _ _ _ _ (@pdv _ _ _ 0 _ _ rfl) (@fg _ _ _ _ _ _ _ (@pdv _ _ _ 1 _ _ rfl) (@fj _ _ _) rfl) rfl) rfl rfl (by decide)) (by intro _ ;rfl))) (@fD _ _ _ _ _ (@FL _ _ _ _)) (@gJ _ _ _)))))
noncomputable abbrev jW:Stmt:=top 22
theorem oh:FnScope ["house", "moves", "thing", "first", "last", "place", "room"] ["house", "moves", "thing"] (fq jW):=⟨rfl,rfl,rfl,by decide +kernel,rfl,by decide +kernel,by decide +kernel⟩
theorem mW (bas:Bas K mg blts) (d:Def K mg "is_row" jW ["house", "moves", "thing"]) (js:Has P w K mg base cl 8 "need_moves" ["house", "thing"] K52.iY) (jf:Has P w K mg base cl 3 "is_room" ["house", "thing"] K2.gG):Has P w K mg base cl 9 "is_row" ["house", "moves", "thing"] K52.jw :=
  gn (k:=8) (m:=K52.lS) d oh (fun f cdv A outer s H E n F0 hr=>(@fA _ _ _ _ _ _ _ (@lj _ _ _ _ _ _ (@fN _ _ _ _ _ _ _ _ _ _ _ _ _ _ js hr (by omega) rfl (@fz _) (@fg _ _ _ _ _ _ _ (@pdv _ _ _ 0 _ _ rfl) (@fg _ _ _ _ _ _ _ (@pdv _ _ _ 1 _ _ rfl) (@fj _ _ _) rfl) rfl) rfl rfl (by decide)) rfl) (@fA _ _ _ _ _ _ _ (@ik _ _ _ _ _ _ _ _ _ _ (@CG _ _ _ _ _ (@AF _ _ _ _ _ _ _ _ _ (@ji _ _ _ _ _ _ (@jh _ _ _ _ _ (@oS _ _ _ _ _ _ _ _ _ _ bas.tl rfl (bas.nb "isinstance" (by decide)) rfl (bas.nb "list" (by decide)) (by decide +kernel) (@pdv _ _ _ 2 _ _ rfl) rfl (by decide) (by decide)) (by intro _ ;rfl))) (@oK _ _ _ _ _ _ (@ji _ _ _ _ _ _ (@jh _ _ _ _ _ (@gW _ _ _ _ _ _ _ _ _ _ _ _ false (gQ rfl) okAll rfl (bas.nb "all" (by decide)) (by decide +kernel) (@fg _ _ _ _ _ _ _ (@gX _ _ _ (["room", "house"]) _ _ _ _ _ _ _ _ _ _ _ false rfl (gh (XN:=["house", "moves", "thing", "first", "last", "place", "room"]) (sc:=fq jW) (fun _=>rfl) rfl (by decide +kernel)) (@iF _ _ _ _ _ _ (@pdv _ _ _ 2 _ _ rfl)) (fun _ _ _ _ _ _=>(@fK _ _ _ 0 _ (show (["room", "house"]:List Str).Nodup by decide +kernel) rfl (locB rfl) (fnB rfl))) (fun _ _ _ _ _ _=>(@gY _ _ _)) (fun _ _ _ _ _ _=>(@fN _ _ _ _ _ _ _ _ _ _ _ _ _ _ jf hr (by omega) rfl (@fz _) (@fg _ _ _ _ _ _ _ (@pdv _ _ _ 1 _ _ rfl) (@fg _ _ _ _ _ _ _ (@pdv _ _ _ 0 _ _ rfl) (@fj _ _ _) rfl) rfl) rfl rfl (by decide))) (by intro _ ;rfl)) (@fj _ _ _) rfl) rfl (by decide) (by decide)) (by intro _ ;rfl)))))) (@fD _ _ _ _ _ (@fL _ _ _ _ _ _ (@li _ _ _ _ _ _))) (@gJ _ _ _)) (@fA _ _ _ _ _ _ _ (@Lp _ _ _ _ _ _ _ _ _ _ _ _ _ _ _ 3 4 rfl oh.nd (@fg _ _ _ _ _ _ _ (@BZ _ _ _ _ true) (@fg _ _ _ _ _ _ _ (@BZ _ _ _ _ true) (@fj _ _ _) rfl) rfl) rfl rfl (locB rfl) (locB rfl) (fnB rfl) (fnB rfl) rfl rfl rfl rfl rfl rfl rfl) (@fA _ _ _ _ _ _ _ (@jk _ _ _ _ _ _ _ _ _ _ PassesOwn.never rfl (@Lo _ _ _ _ _ _ _ _ _ _ rfl (bas.nb "enumerate" (by decide)) (@fg _ _ _ _ _ _ _ (@pdv _ _ _ 2 _ _ rfl) (@fj _ _ _) rfl) rfl) (@C0 _ _ _ _ _ _ _ rfl (@jX _ _ _ _ _ _ (@fK _ _ _ 5 _ oh.nd rfl (locB rfl) (fnB rfl)) (@jX _ _ _ _ _ _ (@fK _ _ _ 6 _ oh.nd rfl (locB rfl) (fnB rfl)) (@mK _ _) rfl) rfl) rfl rfl) (@fA _ _ _ _ _ _ _ (@lj _ _ _ _ _ _ (@MD _ _ _ _ _ _ _ _ _ _ _ (@pdv _ _ _ 3 _ _ rfl) (@pdv _ _ _ 6 _ _ rfl) (@pdv _ _ _ 5 _ _ rfl) rfl rfl rfl rfl rfl rfl) rfl) (@fD _ _ _ _ _ (@Ln _ _ _ _ _ _ _ _ _ _ _ hr.units1 (@pdv _ _ _ 4 _ _ rfl) (@pdv _ _ _ 6 _ _ rfl) (@pdv _ _ _ 5 _ _ rfl) rfl))) (by intro _ ;rfl)) (@fD _ _ _ _ _ (@fL _ _ _ _ _ _ (@gW _ _ _ _ _ _ _ _ _ _ _ _ false (gQ rfl) okAll rfl (bas.nb "all" (by decide)) (by decide +kernel) (@fg _ _ _ _ _ _ _ (@gX _ _ _ (["left", "entered", "first", "last"]) _ _ _ _ _ _ _ _ _ _ _ false rfl (gh (XN:=["house", "moves", "thing", "first", "last", "place", "room"]) (sc:=fq jW) (fun _=>rfl) rfl (by decide +kernel)) (@iF _ _ _ _ _ _ (@pdv _ _ _ 1 _ _ rfl)) (fun _ _ _ _ _ _=>(@C0 _ _ _ _ _ _ _ rfl (@jX _ _ _ _ _ _ (@fK _ _ _ 0 _ (show (["left", "entered", "first", "last"]:List Str).Nodup by decide +kernel) rfl (locB rfl) (fnB rfl)) (@jX _ _ _ _ _ _ (@fK _ _ _ 1 _ (show (["left", "entered", "first", "last"]:List Str).Nodup by decide +kernel) rfl (locB rfl) (fnB rfl)) (@mK _ _) rfl) rfl) rfl rfl)) (fun _ _ _ _ _ _=>(@gY _ _ _)) (fun _ _ _ _ _ _=>(@gZ _ _ _ _ _ _ _ _ _ (@Lm _ _ _ _ _ _ _ _ hr.units1 (@pdv _ _ _ 0 _ _ rfl) (@pdv _ _ _ 2 _ _ rfl) rfl) (@gZ _ _ _ _ _ _ _ _ _ (@Lm _ _ _ _ _ _ _ _ hr.units1 (@pdv _ _ _ 1 _ _ rfl) (@pdv _ _ _ 2 _ _ rfl) rfl) (@jj _ _ _ _ _ _ _ (@ou _ _ _ _ _ _ _ _ _ _ _ (BW hr.units0) okLt (@F8 _ _ _ _ _ _ _ _ hr.units1 (@pdv _ _ _ 2 _ _ rfl) (@pdv _ _ _ 0 _ _ rfl) (fun _ _=>rfl)) (@F8 _ _ _ _ _ _ _ _ hr.units1 (@pdv _ _ _ 3 _ _ rfl) (@pdv _ _ _ 1 _ _ rfl) (fun _ _=>rfl)) (nomark _)))))) (by intro _ ;rfl)) (@fj _ _ _) rfl) rfl (by decide) (by decide)))))))))
noncomputable abbrev A8:Stmt:=top 38
theorem jD:FnScope ["_law_script", "_law_k", "_law_pot_here", "_law_house_here", "_law_most", "_law_turn", "_law_moves_here", "_law_rooms", "_law_rows", "_law_row", "_law_other", "_law_thing", "_law_kept", "_law_due"] ["_law_script"] (fq A8):=⟨rfl,rfl,rfl,by decide +kernel,rfl,by decide +kernel,by decide +kernel⟩
theorem O4 (bas:Bas K mg blts) (d:Def K mg "law" A8 ["_law_script"]) (lT:Has P w K mg base cl 1 "_law_pot" ["_law_cell"] K1.io) (jL:Has P w K mg base cl 2 "_law_house" ["_law_pot_here"] K52.gC) (iZ:Has P w K mg base cl 1 "_law_cell_at" ["_law_script", "_law_k"] K1.gq) (jM:Has P w K mg base cl 2 "_law_moves" ["_law_pot_here", "_law_house_here"] K52.iQ) (jN:Has P w K mg base cl 2 "_law_mixed" ["_law_pot_here", "_law_some"] K52.iR) (iT:Has P w K mg base cl 3 "_law_turned" ["_law_pot_here", "_law_most", "_law_row"] K52.gm) (fC:Has P w K mg base cl 1 "_law_take" ["_law_pot_here", "_law_far"] K1.ff) (jb:Has P w K mg base cl 2 "_law_odd" ["_law_pot_here"] K1.gu) (jq:Has P w K mg base cl 3 "_law_is_row" ["_law_moves_here", "_law_most", "_law_thing"] K52.iC) (mW:Has P w K mg base cl 9 "is_row" ["house", "moves", "thing"] K52.jw):Has P w K mg base cl 10 "law" ["_law_script"] K52.o9 :=
  gn (k:=9) (m:=K52.Ai) d jD (fun f cdv A outer s H E n F0 hr=>(@fA _ _ _ _ _ _ _ (@jk _ _ _ _ _ _ _ _ _ _ PassesOwn.never rfl (@im _ _ _ _ _ _ _ _ rfl (bas.nb "range" (by decide)) (@fg _ _ _ _ _ _ _ (@gW _ _ _ _ _ _ _ _ _ _ _ _ false (Gn rfl) okMax rfl (bas.nb "max" (by decide)) (by decide +kernel) (@fg _ _ _ _ _ _ _ (@fr _ _ _ _ _ _) (@fg _ _ _ _ _ _ _ (@gW _ _ _ _ _ _ _ _ _ _ _ _ false (Go rfl) okMin rfl (bas.nb "min" (by decide)) (by decide +kernel) (@fg _ _ _ _ _ _ _ (@FH _ _ _ _ _ _ _ rfl (bas.nb "len" (by decide)) (@pdv _ _ _ 0 _ _ rfl) rfl) (@fg _ _ _ _ _ _ _ (@fr _ _ _ _ _ _) (@fj _ _ _) rfl) rfl) rfl (by decide) (by decide)) (@fj _ _ _) rfl) rfl) rfl (by decide) (by decide)) (@fj _ _ _) rfl) rfl) (@fK _ _ _ 1 _ jD.nd rfl (locB rfl) (fnB rfl)) (@fA _ _ _ _ _ _ _ (@gK _ _ _ _ _ _ 2 _ _ (@fN _ _ _ _ _ _ _ _ _ _ _ _ _ _ lT hr (by omega) rfl (@fz _) (@fg _ _ _ _ _ _ _ (@fN _ _ _ _ _ _ _ _ _ _ _ _ _ _ iZ hr (by omega) rfl (@fz _) (@fg _ _ _ _ _ _ _ (@pdv _ _ _ 0 _ _ rfl) (@fg _ _ _ _ _ _ _ (@pdv _ _ _ 1 _ _ rfl) (@fj _ _ _) rfl) rfl) rfl rfl (by decide)) (@fj _ _ _) rfl) rfl rfl (by decide)) jD.nd rfl (locB rfl) rfl (fnB rfl)) (@fA _ _ _ _ _ _ _ (@gK _ _ _ _ _ _ 3 _ _ (@fN _ _ _ _ _ _ _ _ _ _ _ _ _ _ jL hr (by omega) rfl (@fz _) (@fg _ _ _ _ _ _ _ (@pdv _ _ _ 2 _ _ rfl) (@fj _ _ _) rfl) rfl rfl (by decide)) jD.nd rfl (locB rfl) rfl (fnB rfl)) (@fA _ _ _ _ _ _ _ (@gK _ _ _ _ _ _ 4 _ _ (@fG _ _ _ _ _ _ _ _ _ _ _ false om okSub (@gW _ _ _ _ _ _ _ _ _ _ _ _ false gc okLen rfl (bas.nb "len" (by decide)) (by decide +kernel) (@fg _ _ _ _ _ _ _ (@iX _ _ _ _ _ _ _ _ _ _ gO okIx (@pdv _ _ _ 3 _ _ rfl) (@fr _ _ _ _ _ _) (fun _ _=>rfl)) (@fj _ _ _) rfl) rfl (by decide) (by decide)) (@fr _ _ _ _ _ _)) jD.nd rfl (locB rfl) rfl (fnB rfl)) (@fD _ _ _ _ _ (@jk _ _ _ _ _ _ _ _ _ _ PassesOwn.never rfl (@im _ _ _ _ _ _ _ _ rfl (bas.nb "range" (by decide)) (@fg _ _ _ _ _ _ _ (@fr _ _ _ _ _ _) (@fj _ _ _) rfl) rfl) (@fK _ _ _ 5 _ jD.nd rfl (locB rfl) (fnB rfl)) (@fA _ _ _ _ _ _ _ (@oT _ _ _ _ _ _ _ _ _ _ _ _ _ _ _ 6 7 rfl jD.nd (@fg _ _ _ _ _ _ _ (@fN _ _ _ _ _ _ _ _ _ _ _ _ _ _ jM hr (by omega) rfl (@fz _) (@fg _ _ _ _ _ _ _ (@pdv _ _ _ 2 _ _ rfl) (@fg _ _ _ _ _ _ _ (@pdv _ _ _ 3 _ _ rfl) (@fj _ _ _) rfl) rfl) rfl rfl (by decide)) (@fg _ _ _ _ _ _ _ (@fN _ _ _ _ _ _ _ _ _ _ _ _ _ _ jN hr (by omega) rfl (@fz _) (@fg _ _ _ _ _ _ _ (@pdv _ _ _ 2 _ _ rfl) (@fg _ _ _ _ _ _ _ (@OJ _ _ _ _ _ _ _ _ _ false rfl rfl (bas.nb "list" (by decide)) rfl (bas.nb "range" (by decide)) (@fg _ _ _ _ _ _ _ (@fG _ _ _ _ _ _ _ _ _ _ _ false fT okAdd (@pdv _ _ _ 4 _ _ rfl) (@fr _ _ _ _ _ _)) (@fj _ _ _) rfl) rfl) (@fj _ _ _) rfl) rfl) rfl rfl (by decide)) (@fj _ _ _) rfl) rfl) rfl rfl (by decide) rfl rfl rfl rfl) (@fA _ _ _ _ _ _ _ (@gK _ _ _ _ _ _ 8 _ _ (@gP _ _ _ _ _ _ true (@fg _ _ _ _ _ _ _ (@pdv _ _ _ 7 _ _ rfl) (@fg _ _ _ _ _ _ _ (@fG _ _ _ _ _ _ _ _ _ _ _ false fT okAdd (@pdv _ _ _ 7 _ _ rfl) (@pdv _ _ _ 7 _ _ rfl)) (@fg _ _ _ _ _ _ _ (@fG _ _ _ _ _ _ _ _ _ _ _ false fT okAdd (@pdv _ _ _ 7 _ _ rfl) (@DF _ _ _ _ _ _ _ _ _ _ false (@pdv _ _ _ 7 _ _ rfl))) (@fg _ _ _ _ _ _ _ (@fG _ _ _ _ _ _ _ _ _ _ _ false fT okAdd (@pdv _ _ _ 7 _ _ rfl) (@gN _ _ _ _ _ _ _ _ _ _ _ false (@pdv _ _ _ 7 _ _ rfl) (@i5 _ _ _) (@gM _ _ _ _ _ (@fr _ _ _ _ _ _)))) (@fg _ _ _ _ _ _ _ (@fG _ _ _ _ _ _ _ _ _ _ _ false fT okAdd (@gN _ _ _ _ _ _ _ _ _ _ _ false (@pdv _ _ _ 7 _ _ rfl) (@gM _ _ _ _ _ (@fr _ _ _ _ _ _)) (@i5 _ _ _)) (@fG _ _ _ _ _ _ _ _ _ _ _ false mj okMul (@gN _ _ _ _ _ _ _ _ _ _ _ false (@pdv _ _ _ 7 _ _ rfl) (@i5 _ _ _) (@gM _ _ _ _ _ (@fr _ _ _ _ _ _))) (@fr _ _ _ _ _ _))) (@fg _ _ _ _ _ _ _ (@gP _ _ _ _ _ _ false (@fj _ _ _)) (@fj _ _ _) rfl) rfl) rfl) rfl) rfl) rfl)) jD.nd rfl (locB rfl) rfl (fnB rfl)) (@fA _ _ _ _ _ _ _ (@lj _ _ _ _ _ _ (@mY _ _ _ _ _ _ _ _ _ (@pdv _ _ _ 8 _ _ rfl) (@gX _ _ _ (["_law_lap", "_law_pot_here", "_law_most"]) _ _ _ _ _ _ _ _ _ _ _ false rfl (gh (XN:=["_law_script", "_law_k", "_law_pot_here", "_law_house_here", "_law_most", "_law_turn", "_law_moves_here", "_law_rooms", "_law_rows", "_law_row", "_law_other", "_law_thing", "_law_kept", "_law_due"]) (sc:=fq A8) (fun _=>rfl) rfl (by decide +kernel)) (@im _ _ _ _ _ _ _ _ rfl (bas.nb "range" (by decide)) (@fg _ _ _ _ _ _ _ (@fN _ _ _ _ _ _ _ _ _ _ _ _ _ _ fC hr (by omega) rfl (@fz _) (@fg _ _ _ _ _ _ _ (@pdv _ _ _ 2 _ _ rfl) (@fg _ _ _ _ _ _ _ (@fr _ _ _ _ _ _) (@fj _ _ _) rfl) rfl) rfl rfl (by decide)) (@fj _ _ _) rfl) rfl) (fun _ _ _ _ _ _=>(@fK _ _ _ 0 _ (show (["_law_lap", "_law_pot_here", "_law_most"]:List Str).Nodup by decide +kernel) rfl (locB rfl) (fnB rfl))) (fun _ _ _ _ _ _=>(@gY _ _ _)) (fun _ _ _ _ _ _=>(@fN _ _ _ _ _ _ _ _ _ _ _ _ _ _ fC hr (by omega) rfl (@fz _) (@fg _ _ _ _ _ _ _ (@pdv _ _ _ 1 _ _ rfl) (@fg _ _ _ _ _ _ _ (@fG _ _ _ _ _ _ _ _ _ _ _ false fT okAdd (@pdv _ _ _ 2 _ _ rfl) (@fr _ _ _ _ _ _)) (@fj _ _ _) rfl) rfl) rfl rfl (by decide))) (by intro _ ;rfl)) rfl rfl rfl rfl) rfl) (@fA _ _ _ _ _ _ _ (@jk _ _ _ _ _ _ _ _ _ _ PassesOwn.never rfl (@iF _ _ _ _ _ _ (@lm _ _ _ _ _ _ _ _ _ _ _ _ false jZ okList rfl (bas.nb "list" (by decide)) (by decide +kernel) (@fg _ _ _ _ _ _ _ (@pdv _ _ _ 8 _ _ rfl) (@fj _ _ _) rfl) rfl (by decide) (by decide))) (@fK _ _ _ 9 _ jD.nd rfl (locB rfl) (fnB rfl)) (@fA _ _ _ _ _ _ _ (@gK _ _ _ _ _ _ 10 _ _ (@fN _ _ _ _ _ _ _ _ _ _ _ _ _ _ iT hr (by omega) rfl (@fz _) (@fg _ _ _ _ _ _ _ (@pdv _ _ _ 2 _ _ rfl) (@fg _ _ _ _ _ _ _ (@pdv _ _ _ 4 _ _ rfl) (@fg _ _ _ _ _ _ _ (@pdv _ _ _ 9 _ _ rfl) (@fj _ _ _) rfl) rfl) rfl) rfl rfl (by decide)) jD.nd rfl (locB rfl) rfl (fnB rfl)) (@fD _ _ _ _ _ (@gK _ _ _ _ _ _ 8 _ _ (@fG _ _ _ _ _ _ _ _ _ _ _ true fT okAdd (@pdv _ _ _ 8 _ _ rfl) (@gP _ _ _ _ _ _ false (@fg _ _ _ _ _ _ _ (@pdv _ _ _ 10 _ _ rfl) (@fg _ _ _ _ _ _ _ (@fN _ _ _ _ _ _ _ _ _ _ _ _ _ _ iT hr (by omega) rfl (@fz _) (@fg _ _ _ _ _ _ _ (@pdv _ _ _ 2 _ _ rfl) (@fg _ _ _ _ _ _ _ (@pdv _ _ _ 4 _ _ rfl) (@fg _ _ _ _ _ _ _ (@lm _ _ _ _ _ _ _ _ _ _ _ _ false jZ okList rfl (bas.nb "list" (by decide)) (by decide +kernel) (@fg _ _ _ _ _ _ _ (@pdv _ _ _ 10 _ _ rfl) (@fj _ _ _) rfl) rfl (by decide) (by decide)) (@fj _ _ _) rfl) rfl) rfl) rfl rfl (by decide)) (@fj _ _ _) rfl) rfl))) jD.nd rfl (locB rfl) rfl (fnB rfl)))) (by intro _ ;rfl)) (@fD _ _ _ _ _ (@jk _ _ _ _ _ _ _ _ _ _ PassesOwn.never rfl (@iF _ _ _ _ _ _ (@fG _ _ _ _ _ _ _ _ _ _ _ false fT okAdd (@pdv _ _ _ 8 _ _ rfl) (@gP _ _ _ _ _ _ false (@fg _ _ _ _ _ _ _ (@fN _ _ _ _ _ _ _ _ _ _ _ _ _ _ jb hr (by omega) rfl (@fz _) (@fg _ _ _ _ _ _ _ (@pdv _ _ _ 2 _ _ rfl) (@fj _ _ _) rfl) rfl rfl (by decide)) (@fg _ _ _ _ _ _ _ (@Jw _ _ _ _ _) (@fg _ _ _ _ _ _ _ (@MF _ _ _ _ false 7 _ _ _ _ _ rfl) (@fg _ _ _ _ _ _ _ (@lm _ _ _ _ _ _ _ _ _ _ _ _ false iA okTuple rfl (bas.nb "tuple" (by decide)) (by decide +kernel) (@fg _ _ _ _ _ _ _ (@fG _ _ _ _ _ _ _ _ _ _ _ false fT okAdd (@pdv _ _ _ 7 _ _ rfl) (@pdv _ _ _ 7 _ _ rfl)) (@fj _ _ _) rfl) rfl (by decide) (by decide)) (@fg _ _ _ _ _ _ _ (@fG _ _ _ _ _ _ _ _ _ _ _ false mj okMul (@gP _ _ _ _ _ _ false (@fg _ _ _ _ _ _ _ (@li _ _ _ _ _ _) (@fj _ _ _) rfl)) (@fr _ _ _ _ _ _)) (@fg _ _ _ _ _ _ _ (@gP _ _ _ _ _ _ false (@fg _ _ _ _ _ _ _ (@fG _ _ _ _ _ _ _ _ _ _ _ false fT okAdd (@pdv _ _ _ 4 _ _ rfl) (@fr _ _ _ _ _ _)) (@fj _ _ _) rfl)) (@fg _ _ _ _ _ _ _ (@gP _ _ _ _ _ _ false (@fg _ _ _ _ _ _ _ (@DH _ _ _ _ _ _ (@fr _ _ _ _ _ _)) (@fj _ _ _) rfl)) (@fj _ _ _) rfl) rfl) rfl) rfl) rfl) rfl) rfl)))) (@fK _ _ _ 11 _ jD.nd rfl (locB rfl) (fnB rfl)) (@fA _ _ _ _ _ _ _ (@oT _ _ _ _ _ _ _ _ _ _ _ _ _ _ _ 12 13 rfl jD.nd (@fg _ _ _ _ _ _ _ (@Ar _ _ _ _ _ _ _ _ hr rfl (bas.nb "repr" (by decide)) (@jt _ _ _ _ _ _ _ (@fg _ _ _ _ _ _ _ (@pdv _ _ _ 3 _ _ rfl) (@fg _ _ _ _ _ _ _ (@pdv _ _ _ 6 _ _ rfl) (@fg _ _ _ _ _ _ _ (@pdv _ _ _ 11 _ _ rfl) (@fj _ _ _) rfl) rfl) rfl)) rfl) (@fg _ _ _ _ _ _ _ (@Ar _ _ _ _ _ _ _ _ hr rfl (bas.nb "repr" (by decide)) (@fN _ _ _ _ _ _ _ _ _ _ _ _ _ _ jq hr (by omega) rfl (@fz _) (@fg _ _ _ _ _ _ _ (@pdv _ _ _ 6 _ _ rfl) (@fg _ _ _ _ _ _ _ (@pdv _ _ _ 4 _ _ rfl) (@fg _ _ _ _ _ _ _ (@pdv _ _ _ 11 _ _ rfl) (@fj _ _ _) rfl) rfl) rfl) rfl rfl (by decide)) rfl) (@fj _ _ _) rfl) rfl) rfl rfl (by decide) rfl rfl rfl rfl) (@fD _ _ _ _ _ (@ik _ _ _ _ _ _ _ _ _ _ (@CG _ _ _ _ _ (@AF _ _ _ _ _ _ _ _ _ (@ij _ _ _ _ _ _ _ _ _ _ _ (DD hr.units0) okNe (@Ar _ _ _ _ _ _ _ _ hr rfl (bas.nb "repr" (by decide)) (@fN _ _ _ _ _ _ _ _ _ _ _ _ _ _ mW hr (by omega) rfl (@fz _) (@fg _ _ _ _ _ _ _ (@pdv _ _ _ 3 _ _ rfl) (@fg _ _ _ _ _ _ _ (@pdv _ _ _ 6 _ _ rfl) (@fg _ _ _ _ _ _ _ (@pdv _ _ _ 11 _ _ rfl) (@fj _ _ _) rfl) rfl) rfl) rfl rfl (by decide)) rfl) (@pdv _ _ _ 13 _ _ rfl) (nomark _)) (@oK _ _ _ _ _ _ (@ij _ _ _ _ _ _ _ _ _ _ _ (DD hr.units0) okNe (@Ar _ _ _ _ _ _ _ _ hr rfl (bas.nb "repr" (by decide)) (@jt _ _ _ _ _ _ _ (@fg _ _ _ _ _ _ _ (@pdv _ _ _ 3 _ _ rfl) (@fg _ _ _ _ _ _ _ (@pdv _ _ _ 6 _ _ rfl) (@fg _ _ _ _ _ _ _ (@pdv _ _ _ 11 _ _ rfl) (@fj _ _ _) rfl) rfl) rfl)) rfl) (@pdv _ _ _ 12 _ _ rfl) (nomark _))))) (@fD _ _ _ _ _ (@fL _ _ _ _ _ _ (@li _ _ _ _ _ _))) (@gJ _ _ _)))) (by intro _ ;rfl))))))) (by intro _ ;rfl)))))) (by intro _ ;rfl)) (@fD _ _ _ _ _ (@fL _ _ _ _ _ _ (@li _ _ _ _ _ _)))))
end
end K52
set_option Elab.async false
set_option linter.all false
set_option maxRecDepth 100000
set_option maxHeartbeats 4000000
namespace K52
open PySem L2 L2.DL PySem.W PyProof.Rows
theorem Ol {l:PySem.W.OpenLaw}{w:World}{K:Frag}{h:Heap}{mg:Str->Option Value}{fa:Addr} (X:K.In h) (G:h.Ns mainGlobals mg) (hfa:mg "law"=some (.ref fa))
    (z0:nsIn K mainGlobals "all"=some none)
    (z1:nsIn K mainGlobals "bool"=some none)
    (z2:nsIn K mainGlobals "enumerate"=some none)
    (z3:nsIn K mainGlobals "int"=some none)
    (z4:nsIn K mainGlobals "isinstance"=some none)
    (z5:nsIn K mainGlobals "len"=some none)
    (z6:nsIn K mainGlobals "list"=some none)
    (z7:nsIn K mainGlobals "max"=some none)
    (z8:nsIn K mainGlobals "min"=some none)
    (z9:nsIn K mainGlobals "range"=some none)
    (z10:nsIn K mainGlobals "repr"=some none)
    (z11:nsIn K mainGlobals "sorted"=some none)
    (z12:nsIn K mainGlobals "tuple"=some none)
    (z13:nsIn K mainGlobals "zip"=some none)
    {gt0:Tok} (gg0:nsIn K mainGlobals "COLDEST"=some (some (.int 3 gt0)))
    {gt1:Tok} (gg1:nsIn K mainGlobals "MOST_MOVES"=some (some (.int 10 gt1)))
    {f0:Addr}{od0 an0:Option Addr}{sl0:Array (Option Value)}{oc0 kV0 dc0 pm0 cd0 ct0:Value} (a0:nsIn K mainGlobals "_law_pot"=some (some (.ref f0))) (l0:K.lookup f0=some ⟨oc0,od0,.func (fnOf "_law_pot" "_law_pot" (fV lc) (fQ lc) (fq lc) .none kV0 dc0 pm0 an0 cd0 ct0),sl0⟩) (g0:codeIn K cd0 "_law_pot"=true) (k0:keepIn K (.ref f0)=true)
    {f1:Addr}{od1 an1:Option Addr}{sl1:Array (Option Value)}{oc1 kV1 dc1 pm1 cd1 ct1:Value} (a1:nsIn K mainGlobals "_law_take"=some (some (.ref f1))) (l1:K.lookup f1=some ⟨oc1,od1,.func (fnOf "_law_take" "_law_take" (fV jy) (fQ jy) (fq jy) .none kV1 dc1 pm1 an1 cd1 ct1),sl1⟩) (g1:codeIn K cd1 "_law_take"=true) (k1:keepIn K (.ref f1)=true)
    {f2:Addr}{od2 an2:Option Addr}{sl2:Array (Option Value)}{oc2 kV2 dc2 pm2 cd2 ct2:Value} (a2:nsIn K mainGlobals "_law_house"=some (some (.ref f2))) (l2:K.lookup f2=some ⟨oc2,od2,.func (fnOf "_law_house" "_law_house" (fV ig) (fQ ig) (fq ig) .none kV2 dc2 pm2 an2 cd2 ct2),sl2⟩) (g2:codeIn K cd2 "_law_house"=true) (k2:keepIn K (.ref f2)=true)
    {f3:Addr}{od3 an3:Option Addr}{sl3:Array (Option Value)}{oc3 kV3 dc3 pm3 cd3 ct3:Value} (a3:nsIn K mainGlobals "_law_cell_at"=some (some (.ref f3))) (l3:K.lookup f3=some ⟨oc3,od3,.func (fnOf "_law_cell_at" "_law_cell_at" (fV iD) (fQ iD) (fq iD) .none kV3 dc3 pm3 an3 cd3 ct3),sl3⟩) (g3:codeIn K cd3 "_law_cell_at"=true) (k3:keepIn K (.ref f3)=true)
    {f4:Addr}{od4 an4:Option Addr}{sl4:Array (Option Value)}{oc4 kV4 dc4 pm4 cd4 ct4:Value} (a4:nsIn K mainGlobals "_law_moves"=some (some (.ref f4))) (l4:K.lookup f4=some ⟨oc4,od4,.func (fnOf "_law_moves" "_law_moves" (fV ja) (fQ ja) (fq ja) .none kV4 dc4 pm4 an4 cd4 ct4),sl4⟩) (g4:codeIn K cd4 "_law_moves"=true) (k4:keepIn K (.ref f4)=true)
    {f5:Addr}{od5 an5:Option Addr}{sl5:Array (Option Value)}{oc5 kV5 dc5 pm5 cd5 ct5:Value} (a5:nsIn K mainGlobals "_law_mixed"=some (some (.ref f5))) (l5:K.lookup f5=some ⟨oc5,od5,.func (fnOf "_law_mixed" "_law_mixed" (fV iJ) (fQ iJ) (fq iJ) .none kV5 dc5 pm5 an5 cd5 ct5),sl5⟩) (g5:codeIn K cd5 "_law_mixed"=true) (k5:keepIn K (.ref f5)=true)
    {f6:Addr}{od6 an6:Option Addr}{sl6:Array (Option Value)}{oc6 kV6 dc6 pm6 cd6 ct6:Value} (a6:nsIn K mainGlobals "_law_odd"=some (some (.ref f6))) (l6:K.lookup f6=some ⟨oc6,od6,.func (fnOf "_law_odd" "_law_odd" (fV lf) (fQ lf) (fq lf) .none kV6 dc6 pm6 an6 cd6 ct6),sl6⟩) (g6:codeIn K cd6 "_law_odd"=true) (k6:keepIn K (.ref f6)=true)
    {f7:Addr}{od7 an7:Option Addr}{sl7:Array (Option Value)}{oc7 kV7 dc7 pm7 cd7 ct7:Value} (a7:nsIn K mainGlobals "_law_turned"=some (some (.ref f7))) (l7:K.lookup f7=some ⟨oc7,od7,.func (fnOf "_law_turned" "_law_turned" (fV iS) (fQ iS) (fq iS) .none kV7 dc7 pm7 an7 cd7 ct7),sl7⟩) (g7:codeIn K cd7 "_law_turned"=true) (k7:keepIn K (.ref f7)=true)
    {f8:Addr}{od8 an8:Option Addr}{sl8:Array (Option Value)}{oc8 kV8 dc8 pm8 cd8 ct8:Value} (a8:nsIn K mainGlobals "_law_whole"=some (some (.ref f8))) (l8:K.lookup f8=some ⟨oc8,od8,.func (fnOf "_law_whole" "_law_whole" (fV jc) (fQ jc) (fq jc) .none kV8 dc8 pm8 an8 cd8 ct8),sl8⟩) (g8:codeIn K cd8 "_law_whole"=true) (k8:keepIn K (.ref f8)=true)
    {f9:Addr}{od9 an9:Option Addr}{sl9:Array (Option Value)}{oc9 kV9 dc9 pm9 cd9 ct9:Value} (a9:nsIn K mainGlobals "_law_within"=some (some (.ref f9))) (l9:K.lookup f9=some ⟨oc9,od9,.func (fnOf "_law_within" "_law_within" (fV iU) (fQ iU) (fq iU) .none kV9 dc9 pm9 an9 cd9 ct9),sl9⟩) (g9:codeIn K cd9 "_law_within"=true) (k9:keepIn K (.ref f9)=true)
    {f10:Addr}{od10 an10:Option Addr}{sl10:Array (Option Value)}{oc10 kV10 dc10 pm10 cd10 ct10:Value} (a10:nsIn K mainGlobals "_law_is_row"=some (some (.ref f10))) (l10:K.lookup f10=some ⟨oc10,od10,.func (fnOf "_law_is_row" "_law_is_row" (fV ir) (fQ ir) (fq ir) .none kV10 dc10 pm10 an10 cd10 ct10),sl10⟩) (g10:codeIn K cd10 "_law_is_row"=true) (k10:keepIn K (.ref f10)=true)
    {f11:Addr}{od11 an11:Option Addr}{sl11:Array (Option Value)}{oc11 kV11 dc11 pm11 cd11 ct11:Value} (a11:nsIn K mainGlobals "is_tuple"=some (some (.ref f11))) (l11:K.lookup f11=some ⟨oc11,od11,.func (fnOf "is_tuple" "is_tuple" (fV jz) (fQ jz) (fq jz) .none kV11 dc11 pm11 an11 cd11 ct11),sl11⟩) (g11:codeIn K cd11 "is_tuple"=true) (k11:keepIn K (.ref f11)=true)
    {f12:Addr}{od12 an12:Option Addr}{sl12:Array (Option Value)}{oc12 kV12 dc12 pm12 cd12 ct12:Value} (a12:nsIn K mainGlobals "is_whole"=some (some (.ref f12))) (l12:K.lookup f12=some ⟨oc12,od12,.func (fnOf "is_whole" "is_whole" (fV jA) (fQ jA) (fq jA) .none kV12 dc12 pm12 an12 cd12 ct12),sl12⟩) (g12:codeIn K cd12 "is_whole"=true) (k12:keepIn K (.ref f12)=true)
    {f13:Addr}{od13 an13:Option Addr}{sl13:Array (Option Value)}{oc13 kV13 dc13 pm13 cd13 ct13:Value} (a13:nsIn K mainGlobals "is_within"=some (some (.ref f13))) (l13:K.lookup f13=some ⟨oc13,od13,.func (fnOf "is_within" "is_within" (fV jd) (fQ jd) (fq jd) .none kV13 dc13 pm13 an13 cd13 ct13),sl13⟩) (g13:codeIn K cd13 "is_within"=true) (k13:keepIn K (.ref f13)=true)
    {f14:Addr}{od14 an14:Option Addr}{sl14:Array (Option Value)}{oc14 kV14 dc14 pm14 cd14 ct14:Value} (a14:nsIn K mainGlobals "are_rooms"=some (some (.ref f14))) (l14:K.lookup f14=some ⟨oc14,od14,.func (fnOf "are_rooms" "are_rooms" (fV iK) (fQ iK) (fq iK) .none kV14 dc14 pm14 an14 cd14 ct14),sl14⟩) (g14:codeIn K cd14 "are_rooms"=true) (k14:keepIn K (.ref f14)=true)
    {f15:Addr}{od15 an15:Option Addr}{sl15:Array (Option Value)}{oc15 kV15 dc15 pm15 cd15 ct15:Value} (a15:nsIn K mainGlobals "are_rates"=some (some (.ref f15))) (l15:K.lookup f15=some ⟨oc15,od15,.func (fnOf "are_rates" "are_rates" (fV ii) (fQ ii) (fq ii) .none kV15 dc15 pm15 an15 cd15 ct15),sl15⟩) (g15:codeIn K cd15 "are_rates"=true) (k15:keepIn K (.ref f15)=true)
    {f16:Addr}{od16 an16:Option Addr}{sl16:Array (Option Value)}{oc16 kV16 dc16 pm16 cd16 ct16:Value} (a16:nsIn K mainGlobals "is_kind"=some (some (.ref f16))) (l16:K.lookup f16=some ⟨oc16,od16,.func (fnOf "is_kind" "is_kind" (fV lg) (fQ lg) (fq lg) .none kV16 dc16 pm16 an16 cd16 ct16),sl16⟩) (g16:codeIn K cd16 "is_kind"=true) (k16:keepIn K (.ref f16)=true)
    {f17:Addr}{od17 an17:Option Addr}{sl17:Array (Option Value)}{oc17 kV17 dc17 pm17 cd17 ct17:Value} (a17:nsIn K mainGlobals "are_kinds"=some (some (.ref f17))) (l17:K.lookup f17=some ⟨oc17,od17,.func (fnOf "are_kinds" "are_kinds" (fV iL) (fQ iL) (fq iL) .none kV17 dc17 pm17 an17 cd17 ct17),sl17⟩) (g17:codeIn K cd17 "are_kinds"=true) (k17:keepIn K (.ref f17)=true)
    {f18:Addr}{od18 an18:Option Addr}{sl18:Array (Option Value)}{oc18 kV18 dc18 pm18 cd18 ct18:Value} (a18:nsIn K mainGlobals "is_rising"=some (some (.ref f18))) (l18:K.lookup f18=some ⟨oc18,od18,.func (fnOf "is_rising" "is_rising" (fV iM) (fQ iM) (fq iM) .none kV18 dc18 pm18 an18 cd18 ct18),sl18⟩) (g18:codeIn K cd18 "is_rising"=true) (k18:keepIn K (.ref f18)=true)
    {f19:Addr}{od19 an19:Option Addr}{sl19:Array (Option Value)}{oc19 kV19 dc19 pm19 cd19 ct19:Value} (a19:nsIn K mainGlobals "is_pair_apart"=some (some (.ref f19))) (l19:K.lookup f19=some ⟨oc19,od19,.func (fnOf "is_pair_apart" "is_pair_apart" (fV gH) (fQ gH) (fq gH) .none kV19 dc19 pm19 an19 cd19 ct19),sl19⟩) (g19:codeIn K cd19 "is_pair_apart"=true) (k19:keepIn K (.ref f19)=true)
    {f20:Addr}{od20 an20:Option Addr}{sl20:Array (Option Value)}{oc20 kV20 dc20 pm20 cd20 ct20:Value} (a20:nsIn K mainGlobals "are_apart"=some (some (.ref f20))) (l20:K.lookup f20=some ⟨oc20,od20,.func (fnOf "are_apart" "are_apart" (fV iN) (fQ iN) (fq iN) .none kV20 dc20 pm20 an20 cd20 ct20),sl20⟩) (g20:codeIn K cd20 "are_apart"=true) (k20:keepIn K (.ref f20)=true)
    {f21:Addr}{od21 an21:Option Addr}{sl21:Array (Option Value)}{oc21 kV21 dc21 pm21 cd21 ct21:Value} (a21:nsIn K mainGlobals "is_house"=some (some (.ref f21))) (l21:K.lookup f21=some ⟨oc21,od21,.func (fnOf "is_house" "is_house" (fV jB) (fQ jB) (fq jB) .none kV21 dc21 pm21 an21 cd21 ct21),sl21⟩) (g21:codeIn K cd21 "is_house"=true) (k21:keepIn K (.ref f21)=true)
    {f22:Addr}{od22 an22:Option Addr}{sl22:Array (Option Value)}{oc22 kV22 dc22 pm22 cd22 ct22:Value} (a22:nsIn K mainGlobals "need_house"=some (some (.ref f22))) (l22:K.lookup f22=some ⟨oc22,od22,.func (fnOf "need_house" "need_house" (fV iV) (fQ iV) (fq iV) .none kV22 dc22 pm22 an22 cd22 ct22),sl22⟩) (g22:codeIn K cd22 "need_house"=true) (k22:keepIn K (.ref f22)=true)
    {f23:Addr}{od23 an23:Option Addr}{sl23:Array (Option Value)}{oc23 kV23 dc23 pm23 cd23 ct23:Value} (a23:nsIn K mainGlobals "is_room"=some (some (.ref f23))) (l23:K.lookup f23=some ⟨oc23,od23,.func (fnOf "is_room" "is_room" (fV lh) (fQ lh) (fq lh) .none kV23 dc23 pm23 an23 cd23 ct23),sl23⟩) (g23:codeIn K cd23 "is_room"=true) (k23:keepIn K (.ref f23)=true)
    {f24:Addr}{od24 an24:Option Addr}{sl24:Array (Option Value)}{oc24 kV24 dc24 pm24 cd24 ct24:Value} (a24:nsIn K mainGlobals "is_move"=some (some (.ref f24))) (l24:K.lookup f24=some ⟨oc24,od24,.func (fnOf "is_move" "is_move" (fV jC) (fQ jC) (fq jC) .none kV24 dc24 pm24 an24 cd24 ct24),sl24⟩) (g24:codeIn K cd24 "is_move"=true) (k24:keepIn K (.ref f24)=true)
    {f25:Addr}{od25 an25:Option Addr}{sl25:Array (Option Value)}{oc25 kV25 dc25 pm25 cd25 ct25:Value} (a25:nsIn K mainGlobals "are_moves"=some (some (.ref f25))) (l25:K.lookup f25=some ⟨oc25,od25,.func (fnOf "are_moves" "are_moves" (fV iO) (fQ iO) (fq iO) .none kV25 dc25 pm25 an25 cd25 ct25),sl25⟩) (g25:codeIn K cd25 "are_moves"=true) (k25:keepIn K (.ref f25)=true)
    {f26:Addr}{od26 an26:Option Addr}{sl26:Array (Option Value)}{oc26 kV26 dc26 pm26 cd26 ct26:Value} (a26:nsIn K mainGlobals "need_moves"=some (some (.ref f26))) (l26:K.lookup f26=some ⟨oc26,od26,.func (fnOf "need_moves" "need_moves" (fV iW) (fQ iW) (fq iW) .none kV26 dc26 pm26 an26 cd26 ct26),sl26⟩) (g26:codeIn K cd26 "need_moves"=true) (k26:keepIn K (.ref f26)=true)
    {f27:Addr}{od27 an27:Option Addr}{sl27:Array (Option Value)}{oc27 kV27 dc27 pm27 cd27 ct27:Value} (a27:nsIn K mainGlobals "is_row"=some (some (.ref f27))) (l27:K.lookup f27=some ⟨oc27,od27,.func (fnOf "is_row" "is_row" (fV jW) (fQ jW) (fq jW) .none kV27 dc27 pm27 an27 cd27 ct27),sl27⟩) (g27:codeIn K cd27 "is_row"=true) (k27:keepIn K (.ref f27)=true)
    {f28:Addr}{od28 an28:Option Addr}{sl28:Array (Option Value)}{oc28 kV28 dc28 pm28 cd28 ct28:Value} (a28:nsIn K mainGlobals "law"=some (some (.ref f28))) (l28:K.lookup f28=some ⟨oc28,od28,.func (fnOf "law" "law" (fV A8) (fQ A8) (fq A8) .none kV28 dc28 pm28 an28 cd28 ct28),sl28⟩) (g28:codeIn K cd28 "law"=true) (k28:keepIn K (.ref f28)=true)
    (y1:tysChk K=true) :
    ∃ (cl:Nat->Addr) (fd:FuncData),(∀ (s:Shared) (u:Value),BindsTo s fd ⟨[u],[]⟩ [("_law_script",u)]) /\ ∀ base:Heap,K.In base->base.Ns mainGlobals mg->FnOk l.prog w K mg base (CXr l.prog w) 10 fa fd ["_law_script"] (spD cl 1 K52.o9):=by
  have gl_COLDEST:∃ t,mg "COLDEST"=some (.int 3 t):=⟨gt0,mg_of X G gg0⟩
  have gl_MOST_MOVES:∃ t,mg "MOST_MOVES"=some (.int 10 t):=⟨gt1,mg_of X G gg1⟩
  have D0:Def K mg "_law_pot" lc ["_law_cell"]:=gx X G a0 l0 g0 k0 fun fd F=>F.binds (ps:=["_law_cell"]) fun _ _ _ _ _ _ us hl=>match us,hl with | [_],_=>rfl
  have D1:Def K mg "_law_take" jy ["_law_pot_here", "_law_far"]:=gx X G a1 l1 g1 k1 fun fd F=>F.binds (ps:=["_law_pot_here", "_law_far"]) fun _ _ _ _ _ _ us hl=>match us,hl with | [_,_],_=>rfl
  have D2:Def K mg "_law_house" ig ["_law_pot_here"]:=gx X G a2 l2 g2 k2 fun fd F=>F.binds (ps:=["_law_pot_here"]) fun _ _ _ _ _ _ us hl=>match us,hl with | [_],_=>rfl
  have D3:Def K mg "_law_cell_at" iD ["_law_script", "_law_k"]:=gx X G a3 l3 g3 k3 fun fd F=>F.binds (ps:=["_law_script", "_law_k"]) fun _ _ _ _ _ _ us hl=>match us,hl with | [_,_],_=>rfl
  have D4:Def K mg "_law_moves" ja ["_law_pot_here", "_law_house_here"]:=gx X G a4 l4 g4 k4 fun fd F=>F.binds (ps:=["_law_pot_here", "_law_house_here"]) fun _ _ _ _ _ _ us hl=>match us,hl with | [_,_],_=>rfl
  have D5:Def K mg "_law_mixed" iJ ["_law_pot_here", "_law_some"]:=gx X G a5 l5 g5 k5 fun fd F=>F.binds (ps:=["_law_pot_here", "_law_some"]) fun _ _ _ _ _ _ us hl=>match us,hl with | [_,_],_=>rfl
  have D6:Def K mg "_law_odd" lf ["_law_pot_here"]:=gx X G a6 l6 g6 k6 fun fd F=>F.binds (ps:=["_law_pot_here"]) fun _ _ _ _ _ _ us hl=>match us,hl with | [_],_=>rfl
  have D7:Def K mg "_law_turned" iS ["_law_pot_here", "_law_most", "_law_row"]:=gx X G a7 l7 g7 k7 fun fd F=>F.binds (ps:=["_law_pot_here", "_law_most", "_law_row"]) fun _ _ _ _ _ _ us hl=>match us,hl with | [_,_,_],_=>rfl
  have D8:Def K mg "_law_whole" jc ["_law_thing"]:=gx X G a8 l8 g8 k8 fun fd F=>F.binds (ps:=["_law_thing"]) fun _ _ _ _ _ _ us hl=>match us,hl with | [_],_=>rfl
  have D9:Def K mg "_law_within" iU ["_law_thing", "_law_low", "_law_high"]:=gx X G a9 l9 g9 k9 fun fd F=>F.binds (ps:=["_law_thing", "_law_low", "_law_high"]) fun _ _ _ _ _ _ us hl=>match us,hl with | [_,_,_],_=>rfl
  have D10:Def K mg "_law_is_row" ir ["_law_moves_here", "_law_most", "_law_thing"]:=gx X G a10 l10 g10 k10 fun fd F=>F.binds (ps:=["_law_moves_here", "_law_most", "_law_thing"]) fun _ _ _ _ _ _ us hl=>match us,hl with | [_,_,_],_=>rfl
  have D11:Def K mg "is_tuple" jz ["thing", "fewest", "most"]:=gx X G a11 l11 g11 k11 fun fd F=>F.binds (ps:=["thing", "fewest", "most"]) fun _ _ _ _ _ _ us hl=>match us,hl with | [_,_,_],_=>rfl
  have D12:Def K mg "is_whole" jA ["thing"]:=gx X G a12 l12 g12 k12 fun fd F=>F.binds (ps:=["thing"]) fun _ _ _ _ _ _ us hl=>match us,hl with | [_],_=>rfl
  have D13:Def K mg "is_within" jd ["thing", "least", "greatest"]:=gx X G a13 l13 g13 k13 fun fd F=>F.binds (ps:=["thing", "least", "greatest"]) fun _ _ _ _ _ _ us hl=>match us,hl with | [_,_,_],_=>rfl
  have D14:Def K mg "are_rooms" iK ["thing"]:=gx X G a14 l14 g14 k14 fun fd F=>F.binds (ps:=["thing"]) fun _ _ _ _ _ _ us hl=>match us,hl with | [_],_=>rfl
  have D15:Def K mg "are_rates" ii ["thing"]:=gx X G a15 l15 g15 k15 fun fd F=>F.binds (ps:=["thing"]) fun _ _ _ _ _ _ us hl=>match us,hl with | [_],_=>rfl
  have D16:Def K mg "is_kind" lg ["thing"]:=gx X G a16 l16 g16 k16 fun fd F=>F.binds (ps:=["thing"]) fun _ _ _ _ _ _ us hl=>match us,hl with | [_],_=>rfl
  have D17:Def K mg "are_kinds" iL ["thing"]:=gx X G a17 l17 g17 k17 fun fd F=>F.binds (ps:=["thing"]) fun _ _ _ _ _ _ us hl=>match us,hl with | [_],_=>rfl
  have D18:Def K mg "is_rising" iM ["things"]:=gx X G a18 l18 g18 k18 fun fd F=>F.binds (ps:=["things"]) fun _ _ _ _ _ _ us hl=>match us,hl with | [_],_=>rfl
  have D19:Def K mg "is_pair_apart" gH ["thing", "many"]:=gx X G a19 l19 g19 k19 fun fd F=>F.binds (ps:=["thing", "many"]) fun _ _ _ _ _ _ us hl=>match us,hl with | [_,_],_=>rfl
  have D20:Def K mg "are_apart" iN ["thing", "many"]:=gx X G a20 l20 g20 k20 fun fd F=>F.binds (ps:=["thing", "many"]) fun _ _ _ _ _ _ us hl=>match us,hl with | [_,_],_=>rfl
  have D21:Def K mg "is_house" jB ["thing"]:=gx X G a21 l21 g21 k21 fun fd F=>F.binds (ps:=["thing"]) fun _ _ _ _ _ _ us hl=>match us,hl with | [_],_=>rfl
  have D22:Def K mg "need_house" iV ["thing"]:=gx X G a22 l22 g22 k22 fun fd F=>F.binds (ps:=["thing"]) fun _ _ _ _ _ _ us hl=>match us,hl with | [_],_=>rfl
  have D23:Def K mg "is_room" lh ["house", "thing"]:=gx X G a23 l23 g23 k23 fun fd F=>F.binds (ps:=["house", "thing"]) fun _ _ _ _ _ _ us hl=>match us,hl with | [_,_],_=>rfl
  have D24:Def K mg "is_move" jC ["house", "thing"]:=gx X G a24 l24 g24 k24 fun fd F=>F.binds (ps:=["house", "thing"]) fun _ _ _ _ _ _ us hl=>match us,hl with | [_,_],_=>rfl
  have D25:Def K mg "are_moves" iO ["house", "thing"]:=gx X G a25 l25 g25 k25 fun fd F=>F.binds (ps:=["house", "thing"]) fun _ _ _ _ _ _ us hl=>match us,hl with | [_,_],_=>rfl
  have D26:Def K mg "need_moves" iW ["house", "thing"]:=gx X G a26 l26 g26 k26 fun fd F=>F.binds (ps:=["house", "thing"]) fun _ _ _ _ _ _ us hl=>match us,hl with | [_,_],_=>rfl
  have D27:Def K mg "is_row" jW ["house", "moves", "thing"]:=gx X G a27 l27 g27 k27 fun fd F=>F.binds (ps:=["house", "moves", "thing"]) fun _ _ _ _ _ _ us hl=>match us,hl with | [_,_,_],_=>rfl
  have D28:Def K mg "law" A8 ["_law_script"]:=gx X G a28 l28 g28 k28 fun fd F=>F.binds (ps:=["_law_script"]) fun _ _ _ _ _ _ us hl=>match us,hl with | [_],_=>rfl
  refine Oj (fun _=>0) hfa D28 (fun fd f F s u=>?_) fun base _ _=>?_
  . obtain ⟨⟨oc,od,kV,doc,pm,an,cdv,ct,osl,rfl,_,_⟩,_⟩:=F
    exact .of_eq rfl
  . have bas:Bas K mg blts:=Oi X G (fun x m=>by
      simp only [blts,List.mem_cons,List.not_mem_nil,or_false] at m
      rcases m with rfl | rfl | rfl | rfl | rfl | rfl | rfl | rfl | rfl | rfl | rfl | rfl | rfl | rfl
      . exact z0
      . exact z1
      . exact z2
      . exact z3
      . exact z4
      . exact z5
      . exact z6
      . exact z7
      . exact z8
      . exact z9
      . exact z10
      . exact z11
      . exact z12
      . exact z13) y1
    have lT:=lT (P:=l.prog) (w:=w) (base:=base) (cl:=(fun _=>0)) bas D0
    have fC:=fC (P:=l.prog) (w:=w) (base:=base) (cl:=(fun _=>0)) bas D1
    have jL:=jL (P:=l.prog) (w:=w) (base:=base) (cl:=(fun _=>0)) bas D2 fC
    have iZ:=iZ (P:=l.prog) (w:=w) (base:=base) (cl:=(fun _=>0)) bas D3
    have jM:=jM (P:=l.prog) (w:=w) (base:=base) (cl:=(fun _=>0)) bas D4 fC
    have jN:=jN (P:=l.prog) (w:=w) (base:=base) (cl:=(fun _=>0)) bas D5 fC
    have jb:=jb (P:=l.prog) (w:=w) (base:=base) (cl:=(fun _=>0)) bas D6 fC
    have iT:=iT (P:=l.prog) (w:=w) (base:=base) (cl:=(fun _=>0)) bas D7 fC jb
    have jO:=jO (P:=l.prog) (w:=w) (base:=base) (cl:=(fun _=>0)) bas D8
    have jp:=jp (P:=l.prog) (w:=w) (base:=base) (cl:=(fun _=>0)) bas D9 jO
    have jq:=jq (P:=l.prog) (w:=w) (base:=base) (cl:=(fun _=>0)) bas D10 jp
    have fP:=fP (P:=l.prog) (w:=w) (base:=base) (cl:=(fun _=>0)) bas D11
    have lz:=lz (P:=l.prog) (w:=w) (base:=base) (cl:=(fun _=>0)) bas D12
    have fR:=fR (P:=l.prog) (w:=w) (base:=base) (cl:=(fun _=>0)) bas D13 lz
    have jP:=jP (P:=l.prog) (w:=w) (base:=base) (cl:=(fun _=>0)) bas D14 gl_COLDEST fP fR
    have jQ:=jQ (P:=l.prog) (w:=w) (base:=base) (cl:=(fun _=>0)) bas D15 gl_COLDEST fP fR
    have lU:=lU (P:=l.prog) (w:=w) (base:=base) (cl:=(fun _=>0)) bas D16 fP fR jQ
    have jR:=jR (P:=l.prog) (w:=w) (base:=base) (cl:=(fun _=>0)) bas D17 fP lU
    have jS:=jS (P:=l.prog) (w:=w) (base:=base) (cl:=(fun _=>0)) bas D18
    have iz:=iz (P:=l.prog) (w:=w) (base:=base) (cl:=(fun _=>0)) bas D19 fP fR
    have jT:=jT (P:=l.prog) (w:=w) (base:=base) (cl:=(fun _=>0)) bas D20 jS iz
    have lA:=lA (P:=l.prog) (w:=w) (base:=base) (cl:=(fun _=>0)) bas D21 fP jP jR jT fR
    have jr:=jr (P:=l.prog) (w:=w) (base:=base) (cl:=(fun _=>0)) bas D22 lA
    have jf:=jf (P:=l.prog) (w:=w) (base:=base) (cl:=(fun _=>0)) bas D23 fR
    have lV:=lV (P:=l.prog) (w:=w) (base:=base) (cl:=(fun _=>0)) bas D24 fP jf
    have jV:=jV (P:=l.prog) (w:=w) (base:=base) (cl:=(fun _=>0)) bas D25 gl_MOST_MOVES lV
    have js:=js (P:=l.prog) (w:=w) (base:=base) (cl:=(fun _=>0)) bas D26 jr jV
    have mW:=mW (P:=l.prog) (w:=w) (base:=base) (cl:=(fun _=>0)) bas D27 js jf
    exact O4 (P:=l.prog) (w:=w) (base:=base) (cl:=(fun _=>0)) bas D28 lT jL iZ jM jN iT fC jb jq mW
end K52
open PySem PySem.W PyProof.Rows
set_option maxRecDepth 100000
set_option maxHeartbeats 0
def PySem.W.Fast.tw5967306672276327359:Unit:=()
def PySem.W.Fast.tw8030593348036511901:Unit:=()
def PySem.W.Fast.tw7684858978715493146:Unit:=()
def PySem.W.Fast.tw16367513418174084045:Unit:=()
def PySem.W.Fast.tw9205560297416128844:Unit:=()
def PySem.W.Fast.tw10996155585378183264:Unit:=()
def PySem.W.Fast.tw12474372567878538222:Unit:=()
open_top hdk52 for PySem.Challenge.rw_rimehold_k52_rows_looked_at
set_option maxRecDepth 100000 in
set_option maxHeartbeats 0 in
theorem PySem.Challenge.cw_rimehold_k52_rows_looked_at_holds : PySem.Challenge.rw_rimehold_k52_rows_looked_at.Holds :=
  hdk52 (by
  k_fill
  refine L2.DL.walk_d (l:=PySem.Challenge.rw_rimehold_k52_rows_looked_at) (k:=10) (fn:=K52.o9) ⟨rfl,by decide,by decide,rfl⟩ rfl rfl (fun w h Y=>PySem.W.kIn_of Y) ?kq_nl (fun ns h=>K52.law_true ns (by omega)) ?kq_F
  case kq_nl =>
    intro w
    kernel_rfl
  case kq_F =>
    intro w mg fa h KX G hmg
    refine' K52.Ol KX G hmg ?kq_z0 ?kq_z1 ?kq_z2 ?kq_z3 ?kq_z4 ?kq_z5 ?kq_z6 ?kq_z7 ?kq_z8 ?kq_z9 ?kq_z10 ?kq_z11 ?kq_z12 ?kq_z13 ?kq_gg0 ?kq_gg1 ?kq_a0 ?kq_l0 ?kq_g0 ?kq_k0 ?kq_a1 ?kq_l1 ?kq_g1 ?kq_k1 ?kq_a2 ?kq_l2 ?kq_g2 ?kq_k2 ?kq_a3 ?kq_l3 ?kq_g3 ?kq_k3 ?kq_a4 ?kq_l4 ?kq_g4 ?kq_k4 ?kq_a5 ?kq_l5 ?kq_g5 ?kq_k5 ?kq_a6 ?kq_l6 ?kq_g6 ?kq_k6 ?kq_a7 ?kq_l7 ?kq_g7 ?kq_k7 ?kq_a8 ?kq_l8 ?kq_g8 ?kq_k8 ?kq_a9 ?kq_l9 ?kq_g9 ?kq_k9 ?kq_a10 ?kq_l10 ?kq_g10 ?kq_k10 ?kq_a11 ?kq_l11 ?kq_g11 ?kq_k11 ?kq_a12 ?kq_l12 ?kq_g12 ?kq_k12 ?kq_a13 ?kq_l13 ?kq_g13 ?kq_k13 ?kq_a14 ?kq_l14 ?kq_g14 ?kq_k14 ?kq_a15 ?kq_l15 ?kq_g15 ?kq_k15 ?kq_a16 ?kq_l16 ?kq_g16 ?kq_k16 ?kq_a17 ?kq_l17 ?kq_g17 ?kq_k17 ?kq_a18 ?kq_l18 ?kq_g18 ?kq_k18 ?kq_a19 ?kq_l19 ?kq_g19 ?kq_k19 ?kq_a20 ?kq_l20 ?kq_g20 ?kq_k20 ?kq_a21 ?kq_l21 ?kq_g21 ?kq_k21 ?kq_a22 ?kq_l22 ?kq_g22 ?kq_k22 ?kq_a23 ?kq_l23 ?kq_g23 ?kq_k23 ?kq_a24 ?kq_l24 ?kq_g24 ?kq_k24 ?kq_a25 ?kq_l25 ?kq_g25 ?kq_k25 ?kq_a26 ?kq_l26 ?kq_g26 ?kq_k26 ?kq_a27 ?kq_l27 ?kq_g27 ?kq_k27 ?kq_a28 ?kq_l28 ?kq_g28 ?kq_k28 ?kq_y1
    (case kq_z0=>k_is)
    (case kq_z1=>k_is)
    (case kq_z2=>k_is)
    (case kq_z3=>k_is)
    (case kq_z4=>k_is)
    (case kq_z5=>k_is)
    (case kq_z6=>k_is)
    (case kq_z7=>k_is)
    (case kq_z8=>k_is)
    (case kq_z9=>k_is)
    (case kq_z10=>k_is)
    (case kq_z11=>k_is)
    (case kq_z12=>k_is)
    (case kq_z13=>k_is)
    (case kq_gg0=>k_is)
    (case kq_gg1=>k_is)
    (case kq_a0=>k_is)
    (case kq_l0=>k_is)
    (case kq_g0=>k_is)
    (case kq_k0=>k_is)
    (case kq_a1=>k_is)
    (case kq_l1=>k_is)
    (case kq_g1=>k_is)
    (case kq_k1=>k_is)
    (case kq_a2=>k_is)
    (case kq_l2=>k_is)
    (case kq_g2=>k_is)
    (case kq_k2=>k_is)
    (case kq_a3=>k_is)
    (case kq_l3=>k_is)
    (case kq_g3=>k_is)
    (case kq_k3=>k_is)
    (case kq_a4=>k_is)
    (case kq_l4=>k_is)
    (case kq_g4=>k_is)
    (case kq_k4=>k_is)
    (case kq_a5=>k_is)
    (case kq_l5=>k_is)
    (case kq_g5=>k_is)
    (case kq_k5=>k_is)
    (case kq_a6=>k_is)
    (case kq_l6=>k_is)
    (case kq_g6=>k_is)
    (case kq_k6=>k_is)
    (case kq_a7=>k_is)
    (case kq_l7=>k_is)
    (case kq_g7=>k_is)
    (case kq_k7=>k_is)
    (case kq_a8=>k_is)
    (case kq_l8=>k_is)
    (case kq_g8=>k_is)
    (case kq_k8=>k_is)
    (case kq_a9=>k_is)
    (case kq_l9=>k_is)
    (case kq_g9=>k_is)
    (case kq_k9=>k_is)
    (case kq_a10=>k_is)
    (case kq_l10=>k_is)
    (case kq_g10=>k_is)
    (case kq_k10=>k_is)
    (case kq_a11=>k_is)
    (case kq_l11=>k_is)
    (case kq_g11=>k_is)
    (case kq_k11=>k_is)
    (case kq_a12=>k_is)
    (case kq_l12=>k_is)
    (case kq_g12=>k_is)
    (case kq_k12=>k_is)
    (case kq_a13=>k_is)
    (case kq_l13=>k_is)
    (case kq_g13=>k_is)
    (case kq_k13=>k_is)
    (case kq_a14=>k_is)
    (case kq_l14=>k_is)
    (case kq_g14=>k_is)
    (case kq_k14=>k_is)
    (case kq_a15=>k_is)
    (case kq_l15=>k_is)
    (case kq_g15=>k_is)
    (case kq_k15=>k_is)
    (case kq_a16=>k_is)
    (case kq_l16=>k_is)
    (case kq_g16=>k_is)
    (case kq_k16=>k_is)
    (case kq_a17=>k_is)
    (case kq_l17=>k_is)
    (case kq_g17=>k_is)
    (case kq_k17=>k_is)
    (case kq_a18=>k_is)
    (case kq_l18=>k_is)
    (case kq_g18=>k_is)
    (case kq_k18=>k_is)
    (case kq_a19=>k_is)
    (case kq_l19=>k_is)
    (case kq_g19=>k_is)
    (case kq_k19=>k_is)
    (case kq_a20=>k_is)
    (case kq_l20=>k_is)
    (case kq_g20=>k_is)
    (case kq_k20=>k_is)
    (case kq_a21=>k_is)
    (case kq_l21=>k_is)
    (case kq_g21=>k_is)
    (case kq_k21=>k_is)
    (case kq_a22=>k_is)
    (case kq_l22=>k_is)
    (case kq_g22=>k_is)
    (case kq_k22=>k_is)
    (case kq_a23=>k_is)
    (case kq_l23=>k_is)
    (case kq_g23=>k_is)
    (case kq_k23=>k_is)
    (case kq_a24=>k_is)
    (case kq_l24=>k_is)
    (case kq_g24=>k_is)
    (case kq_k24=>k_is)
    (case kq_a25=>k_is)
    (case kq_l25=>k_is)
    (case kq_g25=>k_is)
    (case kq_k25=>k_is)
    (case kq_a26=>k_is)
    (case kq_l26=>k_is)
    (case kq_g26=>k_is)
    (case kq_k26=>k_is)
    (case kq_a27=>k_is)
    (case kq_l27=>k_is)
    (case kq_g27=>k_is)
    (case kq_k27=>k_is)
    (case kq_a28=>k_is)
    (case kq_l28=>k_is)
    (case kq_g28=>k_is)
    (case kq_k28=>k_is)
    (case kq_y1=>kernel_rfl)
  )
