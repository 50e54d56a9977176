import PyProof.Rows.All
import Wide.All
import OpenK.AllK
import Wide.FinOn
import Lean
import PyProof.EqAt
import PyProof.EqKinds
import PyProof.TupleCall
import PyProof.P3Statements
import KE.KLam
import KE.KSortKey
import PySem.Challenge.RW_twonamed_k21_whole_kept
set_option maxHeartbeats 4000000
set_option genInjectivity false
set_option genSizeOf false
set_option Elab.async false
set_option linter.all false
set_option maxRecDepth 100000
namespace L2
open PySem PySem.Spec PyProof.Rows
noncomputable abbrev Key:=Sum Int Str
noncomputable def keyIs:Key→Value→Bool
 | .inl k,v=>Value.isInt k v
 | .inr x,v=>Value.isStrOf x v
noncomputable def keyH (w:World):Key→Int
 | .inl k=>hashInt k
 | .inr x=>hashStr w x
theorem keyIs_shape:∀ {k:Key} {v:Value},keyIs k v=true→(∃ i t,k=Sum.inl i∧v=Value.int i t)∨(∃ x t,k=Sum.inr x∧v=Value.str x t)
 | .inl i,v,h=>by
  obtain ⟨t,e⟩:=Value.isInt_shape (k:=i) (v:=v) h
  exact .inl ⟨i,t,rfl,e⟩
 | .inr x,v,h=>by
  obtain ⟨t,e⟩:=Value.isStrOf_shape (x:=x) (v:=v) h
  exact .inr ⟨x,t,rfl,e⟩
theorem keyIs_int (i:Int) (t:Tok):keyIs (.inl i) (.int i t)=true:=by simp [keyIs,Value.isInt]
theorem keyIs_str (x:Str) (t:Tok):keyIs (.inr x) (.str x t)=true:=by simp [keyIs,Value.isStrOf]
theorem key_ll (a b:Int):decide ((Sum.inl a:Key)=Sum.inl b)=(a==b):=by
 by_cases e:a=b
 ·subst e;simp
 ·have h:¬ (Sum.inl a:Key)=Sum.inl b:=fun q=>e (Sum.inl.inj q)
  rw [decide_eq_false h]
  exact (beq_eq_false_iff_ne.mpr e).symm
theorem key_rr (a b:Str):decide ((Sum.inr a:Key)=Sum.inr b)=decide (a=b):=by
 by_cases e:a=b
 ·subst e;simp
 ·have h:¬ (Sum.inr a:Key)=Sum.inr b:=fun q=>e (Sum.inr.inj q)
  rw [decide_eq_false h,decide_eq_false e]
theorem key_lr (a:Int) (b:Str):decide ((Sum.inl a:Key)=Sum.inr b)=false:=decide_eq_false (fun q=>nomatch q)
theorem key_rl (a:Str) (b:Int):decide ((Sum.inr a:Key)=Sum.inl b)=false:=decide_eq_false (fun q=>nomatch q)
noncomputable def mixKind (prog:Program) (w:World):PySem.KeyKind prog w Key where
 is:=keyIs
 hash:=keyH w
 inj:=fun v a b ha hb=>by
  rcases keyIs_shape ha with ⟨i,t,rfl,rfl⟩ | ⟨x,t,rfl,rfl⟩
  ·rcases keyIs_shape hb with ⟨j,u,rfl,e⟩ | ⟨y,u,rfl,e⟩
   ·injection e with e1 _;rw [e1]
   ·exact nomatch e
  ·rcases keyIs_shape hb with ⟨j,u,rfl,e⟩ | ⟨y,u,rfl,e⟩
   ·exact nomatch e
   ·injection e with e1 _;rw [e1]
 byValue:=fun k v h=>by
  rcases keyIs_shape h with ⟨i,t,rfl,rfl⟩ | ⟨x,t,rfl,rfl⟩ <;> rfl
 pyHash:=fun hv h=>by
  rcases keyIs_shape hv with ⟨i,t,rfl,rfl⟩ | ⟨x,t,rfl,rfl⟩
  ·exact wpAny_pyHash_int h
  ·exact wpAny_pyHash_str h
 eqBool:=fun hu hv h=>by
  rcases keyIs_shape hu with ⟨i,t,rfl,rfl⟩ | ⟨x,t,rfl,rfl⟩
  ·rcases keyIs_shape hv with ⟨j,u,rfl,rfl⟩ | ⟨y,u,rfl,rfl⟩
   ·rw [key_ll] at h;exact wpAny_eqBool_int h
   ·rw [key_lr] at h;exact SeqAt.EqAt.int_str i t y u _ _ _ _ h
  ·rcases keyIs_shape hv with ⟨j,u,rfl,rfl⟩ | ⟨y,u,rfl,rfl⟩
   ·rw [key_rl] at h;exact SeqAt.EqAt.str_int x t j u _ _ _ _ h
   ·rw [key_rr] at h;exact wpAny_eqBool_str h
 «strs»:=fun k x t v h=>by
  rcases keyIs_shape h with ⟨i,u,rfl,e⟩ | ⟨y,u,rfl,e⟩
  ·exact nomatch e
  ·injection e with e1 _
   subst e1
   cases v <;> rfl
theorem mixKind_int (prog:Program) (w:World) (i:Int) (t:Tok):(mixKind prog w).is (.inl i) (.int i t)=true:=keyIs_int i t
theorem mixKind_str (prog:Program) (w:World) (x:Str) (t:Tok):(mixKind prog w).is (.inr x) (.str x t)=true:=keyIs_str x t
end L2
namespace L2
open PySem PySem.Spec PyProof.Rows
inductive V where
 | non | bl (b:Bool) | int (i:Int) | str (x:Str) | byt (b:Array UInt8) | flt (b:UInt64) | ref (a:Addr) | ty (n:String)
 deriving DecidableEq
noncomputable def RelV:V→Value→Prop
 | .non,u=>u=Value.none
 | .bl b,u=>u=Value.bool b
 | .int i,u=>∃ t,u=Value.int i t
 | .str x,u=>∃ t,u=Value.str x t
 | .byt b,u=>∃ t,u=Value.bytes b t
 | .flt b,u=>∃ t,u=Value.float b t
 | .ref a,u=>u=Value.ref a
 | .ty n,u=>u=Value.type n
noncomputable abbrev Vals:List V→List Value→Prop:=Paired RelV
theorem Vals.length {xs:List V} {us:List Value} (r:Vals xs us):xs.length=us.length:=Paired.length r
theorem Vals.get:∀ {xs:List V} {us:List Value} {i:Nat} {x:V},Vals xs us→xs[i]?=some x→∃ u,us[i]?=some u∧RelV x u
 | _,_,_,_,.nil,e=>by simp at e
 | _,_,0,_,.cons r _,e=>by simp at e;subst e;exact ⟨_,rfl,r⟩
 | _,_,i+1,x,.cons _ t,e=>by
  obtain ⟨u,h1,h2⟩:=Vals.get (i:=i) (x:=x) t (by simpa using e)
  exact ⟨u,by simpa using h1,h2⟩
theorem Vals.append:∀ {xs ys:List V} {us ws:List Value},Vals xs us→Vals ys ws→Vals (xs++ys) (us++ws)
 | _,_,_,_,.nil,s=>s
 | _,_,_,_,.cons r t,s=>.cons r (Vals.append t s)
theorem Vals.take:∀ {xs:List V} {us:List Value} (n:Nat),Vals xs us→Vals (xs.take n) (us.take n)
 | _,_,0,_=>.nil
 | _,_,_+1,.nil=>.nil
 | _,_,n+1,.cons r t=>.cons r (Vals.take n t)
theorem Vals.drop:∀ {xs:List V} {us:List Value} (n:Nat),Vals xs us→Vals (xs.drop n) (us.drop n)
 | _,_,0,r=>r
 | _,_,_+1,.nil=>.nil
 | _,_,n+1,.cons _ t=>Vals.drop n t
noncomputable def RelO:Option V→Option Value→Prop
 | some v,some u=>RelV v u
 | none,none=>True
 | _,_=>False
noncomputable def KV {κ:Type}:List (κ×V)→List (κ×Value)→Prop:=Paired fun (p:κ×V) (q:κ×Value)=>p.1=q.1∧RelV p.2 q.2
noncomputable def kV:Key→V
 | .inl i=>.int i
 | .inr x=>.str x
inductive HO where
  | lst (xs:List V)
  | tup (xs:List V)
  | dK (kvs:List (Key×V)) | dT (kvs:List (List Key×V))
  | set (S:Int→Bool) (n:Nat)
  | ins (C dx:Addr) (fs:List (Str×V))
  | own (x:Addr)
  | xd (fs:List (Str×V))
  | met (f x:Addr)
  | rng (lo hi:Int)
  | frz (o:Obj) (u:HO)
  | tbl (ps:Array Value)
  | ext (φ:Heap→Prop)
noncomputable abbrev Hp:=Addr→Option HO
noncomputable def upd (H:Hp) (a:Addr) (o:HO):Hp:=fun b=>if b=a then some o else H b
theorem upd_same {H:Hp} {a:Addr} {o:HO}:upd H a o a=some o:=by unfold upd;rw [if_pos rfl]
theorem upd_ne {H:Hp} {a b:Addr} {o:HO} (h:b≠a):upd H a o b=H b:=by unfold upd;rw [if_neg h]
theorem ne_of {H:Hp} {a b:Addr} {o u:HO} (h:H a=some o) (h':H b=some u) (d:o≠u):a≠b:=by
 intro e;subst e;rw [h] at h';exact d (Option.some.inj h')
theorem ne_of_none {H:Hp} {a b:Addr} {o:HO} (h:H a=some o) (h':H b=none):a≠b:=by
 intro e;subst e;rw [h] at h';cases h'
section
variable (P:Program) (w:World)
noncomputable def ObjOk (H:Hp) (h:Heap) (a:Addr):HO→Prop
 | .lst xs=>xs.length≤sizeLine∧∃ (its:List Value) (n:Nat),Vals xs its∧h.get? a=some {cls:=.type "list",data:=.seq its.toArray n}
 | .tup xs=>xs.length≤sizeLine∧∃ its:List Value,Vals xs its∧IsTup h a its.toArray
 | .dK kvs=>kvs.length≤sizeLine∧(a==sysModules)=false∧∃ vs,KV kvs vs∧h.DictOf (mixKind P w) a vs
 | .dT kvs=>kvs.length≤sizeLine∧(a==sysModules)=false∧∃ xs:List (List Key×Addr×Value),
   Paired (fun (p:List Key×V) (q:List Key×Addr×Value)=>p.1=q.1∧H q.2.1=some (.tup (p.1.map kV))∧RelV p.2 q.2.2) kvs xs∧
   ∃ o es ep,h.get? a=some o∧o.ExactDict∧o.data=.dict es ep∧es.toList=xs.map (entryOfKey (tupleKind (mixKind P w)))∧(xs.map (·.1)).Nodup
 | .set S n=>h.SetOf (intKind P w) a S n
 | .ins C dx fs=>H dx=some (.own a)∧fs.length≤1000∧dx≠a∧h.get? a=some (PySem.W.instObj C dx)∧
   ∃ mA,h.Ns1 dx mA∧(∀ f,RelO (fs.lookup f) (mA f))∧PySem.Within mA (fs.map (·.1))
 | .own _=>∃ o,h.get? a=some o
 | .xd fs=>∃ mA,h.Ns1 a mA∧∀ f,RelO (fs.lookup f) (mA f)
 | .rng lo hi=>∃ t u v,h.get? a=some {cls:=.type "range",data:=.fields #[.int lo t,.int hi u,.int 1 v]}
 | .frz o u=>h.get? a=some o∧ObjOk H h a u
 | .tbl ps=>h.get? a=some {cls:=.none,data:=.fields ps}
 | .met f x=>h.get? a=some (PySem.W.methodObj (.ref f) (.ref x))
 | .ext φ=>φ h∧(∃ o,h.get? a=some o)∧∀ h1 h2:Heap,φ h1→(∀ o,h1.get? a=some o→h2.get? a=some o)→φ h2
noncomputable def HOk (H:Hp) (h:Heap):Prop:=∀ a o,H a=some o→ObjOk P w H h a o
end
section
variable {P:Program} {w:World} {H H':Hp} {h h':Heap} {a:Addr} {o:HO}
theorem ObjOk.lt (x:ObjOk P w H h a o):a<h.objs.size:=by
 cases o with
 | lst xs=>obtain ⟨_,_,_,_,e⟩:=x;exact Heap.lt_size e
 | tup xs=>obtain ⟨_,_,_,p⟩:=x;exact p.lt
 | dK kvs=>obtain ⟨_,_,_,_,o,_,_,e,_⟩:=x;exact Heap.lt_size e
 | dT kvs=>obtain ⟨_,_,_,_,o,_,_,e,_⟩:=x;exact Heap.lt_size e
 | set S n=>obtain ⟨o,_,_,_,e,_⟩:=x;exact Heap.lt_size e
 | ins C dx fs=>obtain ⟨_,_,_,e,_⟩:=x;exact Heap.lt_size e
 | own y=>obtain ⟨_,e⟩:=x;exact Heap.lt_size e
 | xd fs=>obtain ⟨_,⟨_,_,_,e,_⟩,_⟩:=x;exact Heap.lt_size e
 | rng lo hi=>obtain ⟨_,_,_,e⟩:=x;exact Heap.lt_size e
 | frz ob u=>obtain ⟨e,_⟩:=x;exact Heap.lt_size e
 | tbl ps=>exact Heap.lt_size (show h.get? a=some _ from x)
 | met f y=>exact Heap.lt_size (show h.get? a=some _ from x)
 | ext φ=>obtain ⟨_,⟨_,e⟩,_⟩:=x;exact Heap.lt_size e
theorem Paired.mapP {α β:Type} {F G:α→β→Prop}:∀ {l₁:List α} {l₂:List β},Paired F l₁ l₂→(∀ a b,F a b→G a b)→Paired G l₁ l₂
 | _,_,.nil,_=>.nil
 | _,_,.cons r t,f=>.cons (f _ _ r) (Paired.mapP t f)
theorem ObjOk.stay (x:ObjOk P w H h a o) (k:∀ b u,(b=a∨H b=some (.own a))→h.get? b=some u→h'.get? b=some u)
  (ho:∀ b,H b=some (.own a)→H' b=some (.own a)) (ht:∀ b xs,H b=some (.tup xs)→H' b=some (.tup xs)):ObjOk P w H' h' a o:=by
 induction o with
 | lst xs=>obtain ⟨z,its,n,r,e⟩:=x;exact ⟨z,its,n,r,k _ _ (.inl rfl) e⟩
 | tup xs=>obtain ⟨z,its,r,ob,e,c⟩:=x;exact ⟨z,its,r,ob,k _ _ (.inl rfl) e,c⟩
 | dK kvs=>obtain ⟨z,y,vs,r,ob,es,ep,e,c⟩:=x;exact ⟨z,y,vs,r,ob,es,ep,k _ _ (.inl rfl) e,c⟩
 | dT kvs=>
  obtain ⟨z,y,xs,r,ob,es,ep,e,c⟩:=x
  exact ⟨z,y,xs,Paired.mapP r fun p q z=>⟨z.1,ht _ _ z.2.1,z.2.2⟩,ob,es,ep,k _ _ (.inl rfl) e,c⟩
 | set S n=>obtain ⟨ob,es,ep,t,e,c⟩:=x;exact ⟨ob,es,ep,t,k _ _ (.inl rfl) e,c⟩
 | ins C dx fs=>
  obtain ⟨d,z,ne,e,mA,⟨od,es,ep,e2,c⟩,r⟩:=x
  exact ⟨ho _ d,z,ne,k _ _ (.inl rfl) e,mA,⟨od,es,ep,k _ _ (.inr d) e2,c⟩,r⟩
 | own y=>obtain ⟨ob,e⟩:=x;exact ⟨ob,k _ _ (.inl rfl) e⟩
 | xd fs=>obtain ⟨mA,⟨od,es,ep,e,c⟩,r⟩:=x;exact ⟨mA,⟨od,es,ep,k _ _ (.inl rfl) e,c⟩,r⟩
 | rng lo hi=>obtain ⟨t,u,v,e⟩:=x;exact ⟨t,u,v,k _ _ (.inl rfl) e⟩
 | frz ob u ih=>obtain ⟨e,q⟩:=x;exact ⟨k _ _ (.inl rfl) e,ih q⟩
 | tbl ps=>
  have e:h.get? a=some {cls:=.none,data:=.fields ps}:=x
  show h'.get? a=some {cls:=.none,data:=.fields ps}
  exact k a _ (.inl rfl) e
 | met f y=>
  have e:h.get? a=some (PySem.W.methodObj (.ref f) (.ref y)):=x
  show h'.get? a=some (PySem.W.methodObj (.ref f) (.ref y))
  exact k a _ (.inl rfl) e
 | ext φ=>obtain ⟨p,⟨o,e⟩,st⟩:=x;exact ⟨st _ _ p fun o q=>k _ _ (.inl rfl) q,⟨o,k _ _ (.inl rfl) e⟩,st⟩
theorem HOk.lt (x:HOk P w H h) (e:H a=some o):a<h.objs.size:=(x a o e).lt
theorem HOk.fresh (x:HOk P w H h) (e:h.objs.size≤a):H a=none:=by
 cases q:H a with
 | none=>rfl
 | some u=>exact absurd (Nat.lt_of_lt_of_le (x.lt q) e) (Nat.lt_irrefl _)
theorem HOk.kept (x:HOk P w H h) (k:∀ b u,h.get? b=some u→h'.get? b=some u):HOk P w H h':=fun a o e=>
 (x a o e).stay (fun b u _ q=>k b u q) (fun _ q=>q) fun _ _ q=>q
theorem HOk.laid (x:HOk P w H h) (k:∀ b u,h.get? b=some u→h'.get? b=some u) (hp:h.objs.size≤a) (new:ObjOk P w (upd H a o) h' a o):HOk P w (upd H a o) h':=fun b u e=>by
 have hn:=x.fresh hp
 by_cases hb:b=a
 ·subst hb;rw [upd_same] at e;cases e;exact new
 ·rw [upd_ne hb] at e
  exact (x b u e).stay (fun c v _ q=>k c v q) (fun c q=>by rw [upd_ne (ne_of_none q hn)];exact q) fun c xs q=>by rw [upd_ne (ne_of_none q hn)];exact q
end
noncomputable def Rd (H:Hp) (a:Addr) (u:HO):Prop:=H a=some u∨∃ o,H a=some (.frz o u)
theorem Rd.ok {P:Program} {w:World} {H:Hp} {h:Heap} {a:Addr} {u:HO} (r:Rd H a u) (x:HOk P w H h):ObjOk P w H h a u:=by
 rcases r with r | ⟨o,r⟩
 ·exact x a u r
 ·obtain ⟨_,q⟩:=x a _ r
  exact q
noncomputable def Mut:Option HO→Prop
 | some (.lst _)=>True
 | some (.dK _)=>True
 | some (.dT _)=>True
 | some (.set _ _)=>True
 | some (.ins _ _ _)=>True
 | some (.ext _)=>True
 | _=>False
section
variable {P:Program} {w:World} {H:Hp} {h h':Heap} {x e:Addr} {o':HO}
theorem HOk.write (ok:HOk P w H h) (mu:Mut (H x)) (he:e=x∨H e=some (.own x)) (k:∀ b u,b≠e→h.get? b=some u→h'.get? b=some u) (heo:∃ u,h'.get? e=some u)
  (new:ObjOk P w (upd H x o') h' x o'):HOk P w (upd H x o') h':=fun b u q=>by
 have nown:∀ c y,H c=some (.own y)→c≠x:=fun c y r z=>by subst z;rw [r] at mu;exact mu
 have ntup:∀ c xs,H c=some (.tup xs)→c≠x:=fun c xs r z=>by subst z;rw [r] at mu;exact mu
 by_cases hb:b=x
 ·subst hb;rw [upd_same] at q;cases q;exact new
 ·rw [upd_ne hb] at q
  by_cases hbe:b=e
  ·have q':H b=some (.own x):=by
    rcases he with z | z
    ·exact absurd (hbe.trans z) hb
    ·rw [hbe];exact z
   rw [q] at q';cases q'
   obtain ⟨v,hv⟩:=heo
   exact ⟨v,by rw [hbe];exact hv⟩
  ·refine (ok b u q).stay (fun c v hc r=>k c v ?_ r) (fun c r=>by rw [upd_ne (nown c b r)];exact r) fun c xs r=>by rw [upd_ne (ntup c xs r)];exact r
   rcases hc with rfl | hc
   ·exact hbe
   ·rintro rfl
    rcases he with z | z
    ·exact nown c b hc z
    ·rw [hc] at z;cases z;exact hb rfl
end
structure Un (fs ex:List Addr) (H H':Hp) (h h':Heap):Prop where
 keep:∀ b o,h.get? b=some o→H b=none→b∉fs→b∉ex→h'.get? b=some o
 slot:∀ b o,h.get? b=some o→H b=none→b∈fs→b∉ex→∃ sl,h'.get? b=some {o with slots:=sl}
 free:∀ b o,h.get? b=some o→H b=none→b∉ex→H' b=none
 there:∀ b o,h.get? b=some o→b∉ex→∃ o',h'.get? b=some o'
 tups:∀ b xs,H b=some (.tup xs)→H' b=some (.tup xs)
 frzs:∀ b o u,H b=some (.frz o u)→H' b=some (.frz o u)
 tbls:∀ b ps,H b=some (.tbl ps)→∃ more,H' b=some (.tbl (ps++more))
section
variable {fs fs' ex ex':List Addr} {H H1 H2:Hp} {h h1 h2 h':Heap} {a x e:Addr} {o:HO}
theorem Un.any (u:Un fs ex H H1 h h1) {b:Addr} {ob:Obj} (q:h.get? b=some ob) (n:H b=none) (hx:b∉ex):∃ sl,h1.get? b=some {ob with slots:=sl}:=by
 by_cases hb:b∈fs
 ·exact u.slot b ob q n hb hx
 ·exact ⟨ob.slots,u.keep b ob q n hb hx⟩
theorem Un.kept (k:∀ b u,h.get? b=some u→h'.get? b=some u):Un fs ex H H h h':=
 ⟨fun b ob q _ _ _=>k b ob q,fun b ob q _ _ _=>⟨ob.slots,k b ob q⟩,fun _ _ _ n _=>n,fun b ob q _=>⟨ob,k b ob q⟩,fun _ _ q=>q,fun _ _ _ q=>q,fun _ ps q=>⟨#[],by rw [q];simp⟩⟩
theorem Un.refl:Un fs ex H H h h:=Un.kept fun _ _ q=>q
theorem Un.laid (k:∀ b u,h.get? b=some u→h'.get? b=some u) (hp:h.objs.size≤a) (hn:H a=none):Un fs ex H (upd H a o) h h' where
 keep:=fun b u q _ _ _=>k b u q
 slot:=fun b u q _ _ _=>⟨u.slots,k b u q⟩
 free:=fun b u q n _=>by rw [upd_ne (Nat.ne_of_lt (Nat.lt_of_lt_of_le (Heap.lt_size q) hp))];exact n
 there:=fun b u q _=>⟨u,k b u q⟩
 tups:=fun b xs q=>by rw [upd_ne (ne_of_none q hn)];exact q
 frzs:=fun b u xs q=>by rw [upd_ne (ne_of_none q hn)];exact q
 tbls:=fun b ps q=>⟨#[],by rw [upd_ne (ne_of_none q hn),q];simp⟩
theorem Un.write (mu:Mut (H x)) (he:e=x∨H e=some (.own x)) (k:∀ b u,b≠e→h.get? b=some u→h'.get? b=some u) (heo:∃ u,h'.get? e=some u):Un fs ex H (upd H x o) h h':=by
 have hx:∀ b,H b=none→b≠x:=fun b n z=>by subst z;rw [n] at mu;exact mu
 have hb:∀ b,H b=none→b≠e:=fun b n z=>by
  subst z
  rcases he with r | r
  ·exact hx b n r
  ·rw [n] at r;cases r
 have hm:∀ b u,H b=some u→¬ Mut (some u)→b≠x:=fun b u q nm z=>by subst z;rw [q] at mu;exact nm mu
 refine ⟨fun b u q n _ _=>k b u (hb b n) q,fun b u q n _ _=>⟨u.slots,k b u (hb b n) q⟩,fun b u q n _=>by rw [upd_ne (hx b n)];exact n,fun b u q _=>?_,
  fun b xs q=>by rw [upd_ne (hm b _ q fun z=>z)];exact q,fun b u xs q=>by rw [upd_ne (hm b _ q fun z=>z)];exact q,fun b ps q=>⟨#[],by rw [upd_ne (hm b _ q fun z=>z),q];simp⟩⟩
 by_cases hbe:b=e
 ·subst hbe;exact heo
 ·exact ⟨u,k b u hbe q⟩
theorem Un.mono (u:Un fs ex H H1 h h1) (hs:∀ b∈fs,b∈fs') (hx:∀ b∈ex,b∈ex'):Un fs' ex' H H1 h h1:=
 ⟨fun b ob q n hb he=>u.keep b ob q n (fun z=>hb (hs b z)) fun z=>he (hx b z),fun _ _ q n _ he=>u.any q n fun z=>he (hx _ z),fun b ob q n he=>u.free b ob q n fun z=>he (hx b z),fun b ob q he=>u.there b ob q fun z=>he (hx b z),u.tups,u.frzs,u.tbls⟩
end
noncomputable def trk (h:Heap) (H:Hp):List Addr:=(List.range h.objs.size).filter fun a=>(H a).isSome
noncomputable def hidT (h:Heap) (H:Hp):Heap:=PySem.W.hideAll h (trk h H)
theorem hidT_size (h:Heap) (H:Hp):(hidT h H).objs.size=h.objs.size:=PySem.W.hideAll_size _ _
theorem hidT_get {h:Heap} {H:Hp} {b:Addr} {o:Obj} (e:h.get? b=some o) (n:H b=none):(hidT h H).get? b=some o:=
 PySem.W.hideAll_get _ e fun hm=>by
  have q:(H b).isSome=true:=(List.mem_filter.mp hm).2
  rw [n] at q;simp at q
theorem of_hidT {h:Heap} {H:Hp} {b:Addr} {o:Obj} (e:(hidT h H).get? b=some o):h.get? b=some o∧H b=none:=by
 have e':h.get? b=some o:=PySem.W.of_hideAll (trk h H) e
 refine ⟨e',?_⟩
 cases q:H b with
 | none=>rfl
 | some x=>
  have hm:b∈trk h H:=List.mem_filter.mpr ⟨List.mem_range.mpr (Heap.lt_size e'),by simp [q]⟩
  have z:(hidT h H).get? b=none:=PySem.W.hideAll_none (trk h H) hm
  rw [z] at e;cases e
end L2
namespace L2
open PySem PySem.Spec PyProof.Rows
structure Mod (K:PySem.W.Frag) (mg:Str→Option Value) (base:Heap):Prop where
 kin:K.In base
 glob:base.Ns mainGlobals mg
 blt:∃ mb,base.Ns builtinsNs mb∧∀ x:Str,x≠"__name__"→mb x=bootBuiltins x
 nolimit:base.NoLimit
structure Cx where
 prog:Program
 w:World
 K:PySem.W.Frag
 mg:Str→Option Value
 base:Heap
 A:Around
 N:List Str
 s₀:Shared
 H₀:Hp
 env:Env
 outer:List Env
 stack:List Env
 ex:List Addr
 fn:Str→Bool
 calm:Bool
 pn:List (Addr×Obj)
 xe:Value→Shared→Prop
noncomputable def frs (l:List Env):List Addr:=l.filterMap (·.frame)
noncomputable abbrev Cx.fs (X:Cx):List Addr:=frs X.outer
noncomputable def Vis (sc:Scope) (x:Str):Prop:=sc.names.lookup x=some .local∨sc.names.lookup x=some .cell∨sc.names.lookup x=some .free
noncomputable def Loc (sc:Scope) (x:Str):Prop:=sc.names.lookup x=some .local∨sc.names.lookup x=some .cell
noncomputable def Look (env:Env) (h:Heap) (m:Str→Option Value) (x:Str) (u:Value):Prop:=
 (env.kindOf x=some .local∧m x=some u)∨((env.kindOf x=some .cell∨env.kindOf x=some .free)∧∃ c,env.cells.lookup x=some c∧h.IsCell c (some u))
structure Cx.Ok (X:Cx):Prop where
 mod:Mod X.K X.mg X.base
 kind:X.env.scope.kind=.function
 glob:X.env.globals=mainGlobals
 blt:X.env.builtins=builtinsNs
 above:X.s₀.heap.objs.size≤X.env.locals
 inj:∀ x y c,X.env.cells.lookup x=some c→X.env.cells.lookup y=some c→x=y
 has:∀ x,(X.env.kindOf x=some .cell∨X.env.kindOf x=some .free)→∃ c,X.env.cells.lookup x=some c
 cab:∀ x c,X.fn x=true→X.env.cells.lookup x=some c→X.s₀.heap.objs.size≤c
 hd:X.calm=true→X.A.handled=none
 frames:X.A.frames=some X.stack
 stk:X.stack=X.outer∨(X.stack=X.env::X.outer∧X.env.frame=some X.env.locals)
 exf:∀ b∈X.ex,b≠X.env.locals∧∀ x c,X.env.cells.lookup x=some c→c≠b
 bs:∀ b o,X.base.get? b=some o→X.s₀.heap.get? b=some o∧X.H₀ b=none
 bsz:X.base.objs.size≤X.s₀.heap.objs.size
 noex:∀ b o,X.base.get? b=some o→b∉X.ex
 exfs:∀ b∈X.ex,b∉X.fs
 funs:X.s₀.heap.FunFrames X.base X.outer
 frf:∀ b∈X.fs,X.H₀ b=none
structure Inv (X:Cx) (pins:List (Addr×Obj)) (σ:List (Option V)) (H:Hp) (s:Shared):Prop where
 ok:X.Ok
 os:s.os=X.s₀.os
 bare:AllBare s.gens
 base:Un X.fs X.ex X.H₀ H X.s₀.heap s.heap
 loc:∃ m,s.heap.Ns X.env.locals m∧∀ (i:Nat) (x:Str) (v:V),X.N[i]?=some x→σ[i]?=some (some v)→Vis X.env.scope x→∃ u,RelV v u∧Look X.env s.heap m x u
 cell:∀ x c,X.env.cells.lookup x=some c→∃ v,s.heap.IsCell c v
 free:H X.env.locals=none
 freeC:∀ x c,X.env.cells.lookup x=some c→H c=none
 pin:∀ p∈X.pn++pins,s.heap.get? p.1=some p.2∧H p.1=none∧p.1≠X.env.locals∧p.1∉X.fs∧∀ v,p.2.data≠.cell v
 hok:HOk X.prog X.w H s.heap
 len:σ.length=X.N.length
section
variable {X:Cx} {pins:List (Addr×Obj)} {σ:List (Option V)} {H H':Hp} {s:Shared} {h':Heap}
theorem Cx.Ok.nofr (ok:X.Ok) {b:Addr} {o:Obj} (e:X.base.get? b=some o):b∉X.fs:=fun hb=>by
 have:=(ok.funs.mem hb).1
 rw [e] at this;cases this
theorem Inv.bs (I:Inv X pins σ H s):∀ b o,X.base.get? b=some o→s.heap.get? b=some o∧H b=none:=fun b o e=>
 ⟨I.base.keep b o (I.ok.bs b o e).1 (I.ok.bs b o e).2 (I.ok.nofr e) (I.ok.noex b o e),I.base.free b o (I.ok.bs b o e).1 (I.ok.bs b o e).2 (I.ok.noex b o e)⟩
theorem Inv.bk (I:Inv X pins σ H s):∀ b o,X.base.get? b=some o→s.heap.get? b=some o:=fun b o e=>(I.bs b o e).1
theorem Inv.mod (I:Inv X pins σ H s):Mod X.K X.mg X.base:=I.ok.mod
theorem Inv.kIn (I:Inv X pins σ H s):X.K.In s.heap:=I.ok.mod.kin.keeps I.bk
theorem Inv.nolimit (I:Inv X pins σ H s):s.heap.NoLimit:=I.ok.mod.nolimit.keeps I.bk
theorem Inv.lt (I:Inv X pins σ H s):X.env.locals<s.heap.objs.size:=let ⟨_,hn,_⟩:=I.loc;hn.lt
theorem Inv.sz (I:Inv X pins σ H s):X.s₀.heap.objs.size≤s.heap.objs.size:=Nat.le_trans I.ok.above (Nat.le_of_lt I.lt)
theorem Inv.nofs (I:Inv X pins σ H s) {a:Addr} (h:s.heap.objs.size≤a):a∉X.fs:=fun hb=>by
 obtain ⟨_,o,ho,_⟩:=I.ok.funs.mem hb
 exact absurd (Nat.lt_of_lt_of_le (Heap.lt_size ho) (Nat.le_trans I.sz h)) (Nat.lt_irrefl _)
theorem Inv.cne (I:Inv X pins σ H s):∀ x c,X.env.cells.lookup x=some c→c≠X.env.locals:=fun x c e z=>by
 obtain ⟨v,o,ho,hd⟩:=I.cell x c e
 obtain ⟨m,⟨o',es,ep,ho',hd',_⟩,_⟩:=I.loc
 rw [z,ho'] at ho;cases ho;rw [hd'] at hd;cases hd
theorem Inv.funs (I:Inv X pins σ H s):s.heap.FunFrames X.base X.outer:=by
 have all:∀ (l:List Env),(∀ b∈frs l,b∈X.fs)→X.s₀.heap.FunFrames X.base l→s.heap.FunFrames X.base l:=by
  intro l
  induction l with
  | nil=>intro _ _;trivial
  | cons env r ih=>
   intro hs hl
   obtain ⟨hk,⟨L,o,hf,hn,ho,hd⟩,hr⟩:=hl
   have hL:L∈X.fs:=hs L (by unfold frs;rw [List.filterMap_cons,hf];exact List.mem_cons_self)
   obtain ⟨sl,e⟩:=I.base.slot L o ho (I.ok.frf L hL) hL fun z=>I.ok.exfs L z hL
   exact ⟨hk,⟨L,_,hf,hn,e,hd⟩,ih (fun b hb=>hs b (by unfold frs;rw [List.filterMap_cons,hf];exact List.mem_cons_of_mem _ hb)) hr⟩
 exact all X.outer (fun _ hb=>hb) I.ok.funs
theorem Inv.stack (I:Inv X pins σ H s):s.heap.FunFrames X.base X.stack:=by
 rcases I.ok.stk with e | ⟨e,hf⟩
 ·rw [e];exact I.funs
 ·rw [e]
  obtain ⟨m,hn,_⟩:=I.loc
  refine .cons (by rw [I.ok.kind];decide) hf hn ?_ I.funs
  exact Heap.get?_none_of_le (Nat.le_trans I.ok.bsz I.ok.above)
theorem Inv.stkSub (I:Inv X pins σ H s):∀ b∈frs X.stack,b∈X.env.locals::X.fs:=fun b hb=>by
 rcases I.ok.stk with e | ⟨e,hf⟩
 ·rw [e] at hb;exact List.mem_cons_of_mem _ hb
 ·rw [e] at hb
  unfold frs at hb
  rw [List.filterMap_cons,hf] at hb
  exact hb
theorem Inv.stkFree (I:Inv X pins σ H s):∀ b∈frs X.stack,H b=none:=fun b hb=>by
 rcases List.mem_cons.mp (I.stkSub b hb) with e | hb
 ·rw [e];exact I.free
 ·obtain ⟨_,o,ho,_⟩:=I.ok.funs.mem hb
  exact I.base.free b o ho (I.ok.frf b hb) fun z=>I.ok.exfs b z hb
theorem Inv.step {g':Array GenState} {t':Nat} {d':Drawn} {ch:List Addr} (I:Inv X pins σ H s)
  (hch:∀ b∈ch,(b∈X.ex∨X.s₀.heap.objs.size≤b)∧b≠X.env.locals∧(∀ x c,X.env.cells.lookup x=some c→c≠b)∧∀ p∈X.pn++pins,p.1≠b)
  (keep:∀ b o,b≠X.env.locals→b∉X.fs→b∉ch→s.heap.get? b=some o→H b=none→h'.get? b=some o)
  (slot:∀ b o,b≠X.env.locals→b∈X.fs→b∉ch→s.heap.get? b=some o→H b=none→∃ sl,h'.get? b=some {o with slots:=sl}) (free:∀ b o,b∉ch→s.heap.get? b=some o→H b=none→H' b=none)
  (there:∀ b o,b∉ch→s.heap.get? b=some o→∃ o',h'.get? b=some o')
  (tups:∀ b xs,H b=some (.tup xs)→H' b=some (.tup xs)) (frzs:∀ b o u,H b=some (.frz o u)→H' b=some (.frz o u)) (tbls:∀ b ps,H b=some (.tbl ps)→∃ more,H' b=some (.tbl (ps++more)))
  (ns:∀ m,s.heap.Ns X.env.locals m→h'.Ns X.env.locals m) (hok:HOk X.prog X.w H' h') (hg:AllBare g'):
  Inv X pins σ H' {s with heap:=h',gens:=g',drawn:=d',toks:=t'}:=by
 have neL:∀ b o,X.s₀.heap.get? b=some o→b≠X.env.locals:=fun b o e=>Nat.ne_of_lt (Nat.lt_of_lt_of_le (Heap.lt_size e) I.ok.above)
 have neC:∀ b o,X.s₀.heap.get? b=some o→b∉X.ex→b∉ch:=fun b o e hx hb=>by
  rcases (hch b hb).1 with z | z
  ·exact hx z
  ·exact absurd (Nat.lt_of_lt_of_le (Heap.lt_size e) z) (Nat.lt_irrefl _)
 have cellK:∀ x c,X.env.cells.lookup x=some c→∀ v,s.heap.IsCell c v→h'.IsCell c v:=fun x c e v ⟨o,ho,hd⟩=>by
  have nch:c∉ch:=fun z=>(hch c z).2.2.1 x c e rfl
  by_cases hc:c∈X.fs
  ·obtain ⟨sl,q⟩:=slot c o (I.cne x c e) hc nch ho (I.freeC x c e)
   exact ⟨_,q,hd⟩
  ·exact ⟨o,keep c o (I.cne x c e) hc nch ho (I.freeC x c e),hd⟩
 refine ⟨I.ok,I.os,hg,⟨fun b o e n hb hx=>?_,fun b o e n hb hx=>?_,fun b o e n hx=>?_,fun b o e hx=>?_,fun b xs e=>tups b xs (I.base.tups b xs e),fun b o xs e=>frzs b o xs (I.base.frzs b o xs e),fun b ps e=>?_⟩,?_,fun x c e=>?_,?_,fun x c e=>?_,fun p hp=>?_,hok,I.len⟩
 ·exact keep b o (neL b o e) hb (neC b o e hx) (I.base.keep b o e n hb hx) (I.base.free b o e n hx)
 ·obtain ⟨sl,e1⟩:=I.base.slot b o e n hb hx
  obtain ⟨sl',e2⟩:=slot b _ (neL b o e) hb (neC b o e hx) e1 (I.base.free b o e n hx)
  exact ⟨sl',e2⟩
 ·obtain ⟨o',e1⟩:=I.base.there b o e hx
  exact free b o' (neC b o e hx) e1 (I.base.free b o e n hx)
 ·obtain ⟨o',e1⟩:=I.base.there b o e hx
  exact there b o' (neC b o e hx) e1
 ·obtain ⟨m1,e1⟩:=I.base.tbls b ps e
  obtain ⟨m2,e2⟩:=tbls b _ e1
  exact ⟨m1++m2,by rw [e2,Array.append_assoc]⟩
 ·obtain ⟨m,hn,hl⟩:=I.loc
  refine ⟨m,ns m hn,fun i x v e1 e2 e3=>?_⟩
  obtain ⟨u,r,l⟩:=hl i x v e1 e2 e3
  refine ⟨u,r,?_⟩
  rcases l with l | ⟨k,c,e,z⟩
  ·exact .inl l
  ·exact .inr ⟨k,c,e,cellK x c e _ z⟩
 ·obtain ⟨v,z⟩:=I.cell x c e
  exact ⟨v,cellK x c e v z⟩
 ·obtain ⟨m,⟨o,_,_,ho,_⟩,_⟩:=I.loc
  exact free _ o (fun z=>(hch _ z).2.1 rfl) ho I.free
 ·obtain ⟨v,o,ho,hd⟩:=I.cell x c e
  exact free c o (fun z=>(hch c z).2.2.1 x c e rfl) ho (I.freeC x c e)
 ·obtain ⟨e,n,ne,nf,d⟩:=I.pin p hp
  have nch:p.1∉ch:=fun z=>(hch p.1 z).2.2.2 p hp rfl
  exact ⟨keep p.1 p.2 ne nf nch e n,free p.1 p.2 nch e n,ne,nf,d⟩
theorem Inv.un {t':Nat} (I:Inv X pins σ H s) (u:Un X.fs [] H H' s.heap h') (hok:HOk X.prog X.w H' h'):Inv X pins σ H' {s with heap:=h',toks:=t'}:=by
 obtain ⟨m,⟨o,es,ep,ho,r⟩,_⟩:=id I.loc
 obtain ⟨sl,hL⟩:=u.any ho I.free (by simp)
 exact I.step (g':=s.gens) (d':=s.drawn) (ch:=[]) (fun _ z=>nomatch z) (fun b o _ hb _ e n=>u.keep b o e n hb (by simp)) (fun b o _ hb _ e n=>u.slot b o e n hb (by simp)) (fun b o _ e n=>u.free b o e n (by simp)) (fun b o _ e=>u.there b o e (by simp)) u.tups u.frzs u.tbls (fun m' hm=>by
  obtain ⟨o',es',ep',ho',r'⟩:=hm
  rw [ho] at ho';cases ho'
  exact ⟨_,es',ep',hL,r'⟩) hok I.bare
theorem Inv.call {g':Array GenState} {t':Nat} {d':Drawn} {ch:List Addr} (I:Inv X pins σ H s) (u:Un (frs X.stack) ch H H' s.heap h') (hok:HOk X.prog X.w H' h') (hg:AllBare g')
  (hch:∀ b∈ch,(b∈X.ex∨X.s₀.heap.objs.size≤b)∧b≠X.env.locals∧(∀ x c,X.env.cells.lookup x=some c→c≠b)∧∀ p∈X.pn++pins,p.1≠b):
  Inv X pins σ H' {s with heap:=h',gens:=g',drawn:=d',toks:=t'}:=by
 obtain ⟨m,⟨o,es,ep,ho,r⟩,_⟩:=id I.loc
 obtain ⟨sl,hL⟩:=u.any ho I.free fun z=>(hch _ z).2.1 rfl
 exact I.step (ch:=ch) hch (fun b o hL hb hc e n=>u.keep b o e n (fun z=>(List.mem_cons.mp (I.stkSub b z)).elim hL hb) hc) (fun b o _ _ hc e n=>u.any e n hc) (fun b o hc e n=>u.free b o e n hc) (fun b o hc e=>u.there b o e hc) u.tups u.frzs u.tbls (fun m' hm=>by
  obtain ⟨o',es',ep',ho',r'⟩:=hm
  rw [ho] at ho';cases ho'
  exact ⟨_,es',ep',hL,r'⟩) hok hg
theorem Inv.turned {t':Nat} {it:Addr} (I:Inv X pins σ H s) (k:∀ b o,b≠it→s.heap.get? b=some o→h'.get? b=some o) (hn:H it=none) (hL:it≠X.env.locals)
  (h1:it∈X.ex∨X.s₀.heap.objs.size≤it) (h2:∀ x c,X.env.cells.lookup x=some c→c≠it) (h3:∀ p∈X.pn++pins,p.1≠it):Inv X pins σ H {s with heap:=h',toks:=t'}:=by
 have nit:∀ b u,H b=some u→b≠it:=fun b u e z=>by rw [z,hn] at e;cases e
 refine I.step (g':=s.gens) (d':=s.drawn) (ch:=[it]) (fun b hb=>?_) (fun b o _ _ hc e _=>k b o (fun z=>hc (by simp [z])) e) (fun b o _ _ hc e _=>⟨o.slots,k b o (fun z=>hc (by simp [z])) e⟩) (fun _ _ _ _ n=>n)
  (fun b o hc e=>⟨o,k b o (fun z=>hc (by simp [z])) e⟩) (fun _ _ e=>e) (fun _ _ _ e=>e) (fun b ps e=>⟨#[],by rw [e];simp⟩) (fun m hm=>?_) (fun b u e=>?_) I.bare
 ·have e:b=it:=by simpa using hb
  subst e
  exact ⟨h1,hL,h2,h3⟩
 ·obtain ⟨o,es,ep,ho,r⟩:=hm
  exact ⟨o,es,ep,k _ o (Ne.symm hL) ho,r⟩
 ·refine (I.hok b u e).stay (fun c v hc q=>k c v ?_ q) (fun _ q=>q) fun _ _ q=>q
  rcases hc with z | z
  ·rw [z];exact nit b u e
  ·exact nit c _ z
theorem Inv.tok (I:Inv X pins σ H s) (t:Nat):Inv X pins σ H {s with toks:=t}:=I.un (h':=s.heap) (t':=t) Un.refl I.hok
theorem Inv.kept {t':Nat} (I:Inv X pins σ H s) (k:∀ b u,s.heap.get? b=some u→h'.get? b=some u):Inv X pins σ H {s with heap:=h',toks:=t'}:=I.un (Un.kept k) (I.hok.kept k)
theorem Inv.laid {a:Addr} {o:HO} {t':Nat} (I:Inv X pins σ H s) (k:∀ b u,s.heap.get? b=some u→h'.get? b=some u) (hp:s.heap.objs.size≤a) (new:ObjOk X.prog X.w (upd H a o) h' a o):
  Inv X pins σ (upd H a o) {s with heap:=h',toks:=t'}:=I.un (Un.laid k hp (I.hok.fresh hp)) (I.hok.laid k hp new)
theorem Inv.write {x e:Addr} {o:HO} {t':Nat} (I:Inv X pins σ H s) (mu:Mut (H x)) (he:e=x∨H e=some (.own x)) (k:∀ b u,b≠e→s.heap.get? b=some u→h'.get? b=some u) (heo:∃ u,h'.get? e=some u)
  (new:ObjOk X.prog X.w (upd H x o) h' x o):Inv X pins σ (upd H x o) {s with heap:=h',toks:=t'}:=I.un (Un.write mu he k heo) (I.hok.write mu he k heo new)
theorem Inv.pins_of {pins':List (Addr×Obj)} (I:Inv X pins σ H s) (h:∀ p∈pins',s.heap.get? p.1=some p.2∧H p.1=none∧p.1≠X.env.locals∧p.1∉X.fs∧∀ v,p.2.data≠.cell v):Inv X pins' σ H s:=
 ⟨I.ok,I.os,I.bare,I.base,I.loc,I.cell,I.free,I.freeC,fun p hp=>(List.mem_append.mp hp).elim (fun z=>I.pin p (List.mem_append_left _ z)) (h p),I.hok,I.len⟩
theorem nodup_ix {N:List Str} (hN:N.Nodup) {i j:Nat} {x:Str} (a:N[i]?=some x) (b:N[j]?=some x):i=j:=by
 obtain ⟨h1,e1⟩:=List.getElem?_eq_some_iff.mp a
 obtain ⟨h2,e2⟩:=List.getElem?_eq_some_iff.mp b
 exact (List.getElem_inj hN).mp (e1.trans e2.symm)
theorem store_ok2 {M:Model} {A:Around} {E:Value→Shared→Prop} {i:Nat} {x:Str} {v:V} {u:Value} {Q:Unit→Shared→Prop} (I:Inv X pins σ H s) (hN:X.N.Nodup) (hi:X.N[i]?=some x) (hx:Loc X.env.scope x) (r:RelV v u)
  (h:∀ s',Inv X pins (σ.set i (some v)) H s'→(∃ a,Heap.SameBut a s.heap s'.heap∧(a=X.env.locals∨X.env.cells.lookup x=some a))→Q () s') (hf:X.fn x=true∨X.env.scope.names.lookup x=some .local:=by first | exact .inl rfl | exact .inr rfl | assumption):wpAny M A (storeName X.env x u) Q E s:=by
 obtain ⟨m,hn,hl⟩:=id I.loc
 have hcls:(X.env.scope.kind==.class||(X.env.scope.kind==.module&&X.env.locals != X.env.globals))=false:=by rw [I.ok.kind];rfl
 have hiσ:i<σ.length:=by rw [I.len];exact (List.getElem?_eq_some_iff.mp hi).1
 have cne:=I.cne
 have tracked:∀ {a:Addr} {h':Heap},(∃ o,s.heap.get? a=some o∧H a=none)→Heap.SameBut a s.heap h'→HOk X.prog X.w H h':=fun {a h'} ha hs b ob e=>by
  obtain ⟨_,_,hfree⟩:=ha
  refine (I.hok b ob e).stay (fun c w' hc q=>(hs.2 c ?_).trans q) (fun _ q=>q) fun _ _ q=>q
  rintro rfl
  rcases hc with rfl | hc
  ·rw [hfree] at e;cases e
  ·rw [hfree] at hc;cases hc
 rcases hx with hk | hk
 ·refine wpAny_storeName_local hk hn (fun h' hn' hs=>?_) hcls
  obtain ⟨oL,_,_,hoL,_⟩:=id hn
  refine h _ ⟨I.ok,I.os,I.bare,⟨fun b o e n hb hx=>?_,fun b o e n hb hx=>?_,I.base.free,fun b o e hx=>?_,I.base.tups,I.base.frzs,I.base.tbls⟩,⟨_,hn',fun j y v' e1 e2 e3=>?_⟩,fun y c e=>?_,I.free,I.freeC,fun p hp=>?_,tracked ⟨oL,hoL,I.free⟩ hs,by simpa using I.len⟩ ⟨_,hs,.inl rfl⟩
  ·exact (hs.2 b (Nat.ne_of_lt (Nat.lt_of_lt_of_le (Heap.lt_size e) I.ok.above))).trans (I.base.keep b o e n hb hx)
  ·obtain ⟨sl,e1⟩:=I.base.slot b o e n hb hx
   exact ⟨sl,(hs.2 b (Nat.ne_of_lt (Nat.lt_of_lt_of_le (Heap.lt_size e) I.ok.above))).trans e1⟩
  ·obtain ⟨o',e1⟩:=I.base.there b o e hx
   exact ⟨o',(hs.2 b (Nat.ne_of_lt (Nat.lt_of_lt_of_le (Heap.lt_size e) I.ok.above))).trans e1⟩
  ·by_cases hj:j=i
   ·subst hj
    rw [hi] at e1;cases e1
    rw [List.getElem?_set_self hiσ] at e2
    cases e2
    exact ⟨u,r,.inl ⟨hk,by simp⟩⟩
   ·rw [List.getElem?_set_ne (Ne.symm hj)] at e2
    obtain ⟨u',r',q⟩:=hl j y v' e1 e2 e3
    refine ⟨u',r',?_⟩
    rcases q with ⟨k,e⟩ | ⟨k,c,e,z⟩
    ·refine .inl ⟨k,?_⟩
     have:y≠x:=fun e=>hj (nodup_ix hN e1 (e▸hi))
     simp [this,e]
    ·exact .inr ⟨k,c,e,z.sameBut hs (cne y c e)⟩
  ·obtain ⟨w',z⟩:=I.cell y c e
   exact ⟨w',z.sameBut hs (cne y c e)⟩
  ·obtain ⟨e,n,ne,nf,d⟩:=I.pin p hp
   exact ⟨(hs.2 p.1 ne).trans e,n,ne,nf,d⟩
 ·have hfn:X.fn x=true:=by
   rcases hf with z | z
   ·exact z
   ·rw [z] at hk;cases hk
  obtain ⟨c,hc⟩:=I.ok.has x (.inl hk)
  obtain ⟨w',z⟩:=I.cell x c hc
  refine wpAny_storeName_cell I.ok.kind hk hc z (fun h' hc' hs=>?_)
  obtain ⟨oc,hoc,hocd⟩:=id z
  refine h {s with heap:=h'} ⟨I.ok,I.os,I.bare,⟨fun b o e n hb hx=>?_,fun b o e n hb hx=>?_,I.base.free,fun b o e hx=>?_,I.base.tups,I.base.frzs,I.base.tbls⟩,⟨m,hn.sameBut hs (Ne.symm (cne x c hc)),fun j y v' e1 e2 e3=>?_⟩,fun y c' e=>?_,I.free,I.freeC,fun p hp=>?_,tracked ⟨oc,hoc,I.freeC x c hc⟩ hs,by simpa using I.len⟩ ⟨c,hs,.inr hc⟩
  ·exact (hs.2 b (Nat.ne_of_lt (Nat.lt_of_lt_of_le (Heap.lt_size e) (I.ok.cab x c hfn hc)))).trans (I.base.keep b o e n hb hx)
  ·obtain ⟨sl,e1⟩:=I.base.slot b o e n hb hx
   exact ⟨sl,(hs.2 b (Nat.ne_of_lt (Nat.lt_of_lt_of_le (Heap.lt_size e) (I.ok.cab x c hfn hc)))).trans e1⟩
  ·obtain ⟨o',e1⟩:=I.base.there b o e hx
   exact ⟨o',(hs.2 b (Nat.ne_of_lt (Nat.lt_of_lt_of_le (Heap.lt_size e) (I.ok.cab x c hfn hc)))).trans e1⟩
  ·by_cases hj:j=i
   ·subst hj
    rw [hi] at e1;cases e1
    rw [List.getElem?_set_self hiσ] at e2
    cases e2
    exact ⟨u,r,.inr ⟨.inl hk,c,hc,hc'⟩⟩
   ·rw [List.getElem?_set_ne (Ne.symm hj)] at e2
    obtain ⟨u',r',q⟩:=hl j y v' e1 e2 e3
    refine ⟨u',r',?_⟩
    rcases q with q | ⟨k,c',e,z'⟩
    ·exact .inl q
    ·refine .inr ⟨k,c',e,z'.sameBut hs ?_⟩
     rintro rfl
     exact hj (nodup_ix hN e1 (I.ok.inj _ _ _ e hc▸hi))
  ·by_cases hcc:c'=c
   ·subst hcc;exact ⟨_,hc'⟩
   ·obtain ⟨w2,z2⟩:=I.cell y c' e
    exact ⟨w2,z2.sameBut hs hcc⟩
  ·obtain ⟨e,n,ne,nf,d⟩:=I.pin p hp
   refine ⟨(hs.2 p.1 ?_).trans e,n,ne,nf,d⟩
   intro q
   rw [q,hoc] at e
   have q':oc=p.2:=Option.some.inj e
   exact d w' (by rw [← q'];exact hocd)
theorem store_ok {M:Model} {A:Around} {E:Value→Shared→Prop} {i:Nat} {x:Str} {v:V} {u:Value} {Q:Unit→Shared→Prop} (I:Inv X pins σ H s) (hN:X.N.Nodup) (hi:X.N[i]?=some x) (hx:Loc X.env.scope x) (r:RelV v u)
  (h:∀ s',Inv X pins (σ.set i (some v)) H s'→Q () s') (hf:X.fn x=true∨X.env.scope.names.lookup x=some .local:=by first | exact .inl rfl | exact .inr rfl | assumption):wpAny M A (storeName X.env x u) Q E s:=
 store_ok2 I hN hi hx r (fun s' I' _=>h s' I') hf
theorem Inv.call' {s':Shared} {ch:List Addr} (I:Inv X pins σ H s) (ho:s'.os=s.os) (u:Un (frs X.stack) ch H H' s.heap s'.heap) (hok:HOk X.prog X.w H' s'.heap) (hg:AllBare s'.gens)
  (hch:∀ b∈ch,(b∈X.ex∨X.s₀.heap.objs.size≤b)∧b≠X.env.locals∧(∀ x c,X.env.cells.lookup x=some c→c≠b)∧∀ p∈X.pn++pins,p.1≠b):Inv X pins σ H' s':=by
 obtain ⟨h',g',d',t',o'⟩:=s'
 have e:o'=s.os:=ho
 subst e
 exact I.call (g':=g') (t':=t') (d':=d') u hok hg hch
end
noncomputable abbrev XK:=Value→Option Addr→Hp→Prop
noncomputable abbrev St:=List (Option V)
noncomputable abbrev VK:=V→Hp→Prop
noncomputable abbrev TE:=St→Hp→VK→Prop
noncomputable abbrev TT:=St→Hp→(Bool→Hp→Prop)→Prop
noncomputable abbrev TA:=St→Hp→(List V→Hp→Prop)→Prop
structure Ends where
 nx:St→Hp→Prop
 rt:VK
 bk:St→Hp→Prop:=fun _ _=>False
 ct:St→Hp→Prop:=fun _ _=>False
noncomputable abbrev TS:=Ends→St→Hp→Prop
noncomputable def EP (X:Cx) (pins:List (Addr×Obj)) (σ:St) (Q:VK) (u:Value) (s':Shared):Prop:=∃ v H',Inv X pins σ H' s'∧RelV v u∧Q v H'
noncomputable def TP (X:Cx) (pins:List (Addr×Obj)) (σ:St) (Q:Bool→Hp→Prop) (b:Bool) (s':Shared):Prop:=∃ H',Inv X pins σ H' s'∧Q b H'
noncomputable def AP (X:Cx) (pins:List (Addr×Obj)) (σ:St) (Q:List V→Hp→Prop) (us:List Value) (s':Shared):Prop:=∃ vs H',Inv X pins σ H' s'∧Vals vs us∧Q vs H'
noncomputable def SP (X:Cx) (pins:List (Addr×Obj)) (D:Ends) (f:Flow) (s':Shared):Prop:=
 match f with
 | .next=>∃ σ' H',Inv X pins σ' H' s'∧D.nx σ' H'
 | .brk=>∃ σ' H',Inv X pins σ' H' s'∧D.bk σ' H'
 | .cont=>∃ σ' H',Inv X pins σ' H' s'∧D.ct σ' H'
 | .ret u=>∃ v σ' H',Inv X pins σ' H' s'∧RelV v u∧D.rt v H'
noncomputable def PE (X:Cx) (e:Expr) (t:TE):Prop:=
 ∀ (pins:List (Addr×Obj)) (s:Shared) (σ:St) (H:Hp) (Q:VK),Inv X pins σ H s→t σ H Q→wpAny (model X.prog X.w) X.A (eval e X.env) (EP X pins σ Q) X.xe s
noncomputable def PT (X:Cx) (e:Expr) (t:TT):Prop:=
 ∀ (pins:List (Addr×Obj)) (s:Shared) (σ:St) (H:Hp) (Q:Bool→Hp→Prop),Inv X pins σ H s→t σ H Q→wpAny (model X.prog X.w) X.A (isTrue e X.env (eval e X.env)) (TP X pins σ Q) X.xe s
noncomputable def PW (X:Cx) (e:Expr) (t:TT):Prop:=
 ∀ (whole:Sem Value) (pins:List (Addr×Obj)) (s:Shared) (σ:St) (H:Hp) (Q:Bool→Hp→Prop),Inv X pins σ H s→t σ H Q→wpAny (model X.prog X.w) X.A (isTrue e X.env whole) (TP X pins σ Q) X.xe s
theorem PW.pt {X:Cx} {e:Expr} {t:TT} (h:PW X e t):PT X e t:=h _
noncomputable def PA (X:Cx) (es:List Expr) (t:TA):Prop:=
 ∀ (pos:Pos) (pins:List (Addr×Obj)) (s:Shared) (σ:St) (H:Hp) (Q:List V→Hp→Prop),Inv X pins σ H s→t σ H Q→wpAny (model X.prog X.w) X.A (spliced (backTo pos (starEach es X.env))) (AP X pins σ Q) X.xe s
noncomputable def PS (X:Cx) (st:Stmt) (t:TS):Prop:=
 ∀ (pins:List (Addr×Obj)) (s:Shared) (σ:St) (H:Hp) (D:Ends),Inv X pins σ H s→t D σ H→wpAny (model X.prog X.w) X.A (exec st X.env) (SP X pins D) X.xe s
noncomputable def PSs (X:Cx) (st:List Stmt) (t:TS):Prop:=
 ∀ (pins:List (Addr×Obj)) (s:Shared) (σ:St) (H:Hp) (D:Ends),Inv X pins σ H s→t D σ H→wpAny (model X.prog X.w) X.A (execs st X.env) (SP X pins D) X.xe s
theorem thn {α:Type} {t:Sem α} {Q Q':α→Shared→Prop} {M:Model} {A:Around} {E:Value→Shared→Prop} {s:Shared} (h:wpAny M A t Q E s) (hQ:∀ a s,Q a s→Q' a s):wpAny M A t Q' E s:=wpAny_mono h hQ fun _ _ x=>x
end L2
namespace L2
open PySem PySem.Spec PyProof.Rows
section
variable {X:Cx}
theorem bin {a b:Expr} {ta tb:TE} (ha:PE X a ta) (hb:PE X b tb) {pins:List (Addr×Obj)} {s:Shared} {σ:St} {H:Hp} {R:V→V→Hp→Prop} (I:Inv X pins σ H s) (h:ta σ H fun x H1=>tb σ H1 fun y H2=>R x y H2)
  {α:Type} {Q:α→Shared→Prop} {f:Value→Value→Sem α}
  (hf:∀ v u s2 x y H2,Inv X pins σ H2 s2→RelV x v→RelV y u→R x y H2→wpAny (model X.prog X.w) X.A (f v u) Q X.xe s2):
  wpAny (model X.prog X.w) X.A (eval a X.env) (fun v s₁=>wpAny (model X.prog X.w) X.A (eval b X.env) (fun u s₂=>wpAny (model X.prog X.w) X.A (f v u) Q X.xe s₂) X.xe s₁) X.xe s:=by
 refine thn (ha pins s σ H _ I h) fun v s1 ⟨x,H1,I1,r1,q1⟩=>?_
 refine thn (hb pins s1 σ H1 _ I1 q1) fun u s2 ⟨y,H2,I2,r2,q2⟩=>?_
 exact hf v u s2 x y H2 I2 r1 r2 q2
noncomputable def tVar (i:Nat):TE:=fun σ H Q=>∃ v,σ[i]?=some (some v)∧Q v H
noncomputable def tC (v:V):TE:=fun _ H Q=>Q v H
theorem pe_var {i:Nat} {x:Str} {pos:Pos} (hN:X.N[i]?=some x) (hv:Vis X.env.scope x) (hd:(x==("__debug__":Str))=false:=by decide) (hcd:(x==("__classdict__":Str))=false:=by decide):PE X (.Name x pos) (tVar i):=by
 intro pins s σ H Q I h
 obtain ⟨v,e,h⟩:=h
 obtain ⟨m,hn,hl⟩:=I.loc
 obtain ⟨u,r,l⟩:=hl i x v hN e hv
 have fin:EP X pins σ Q u s:=⟨v,H,I,r,h⟩
 rcases l with ⟨hk,hm⟩ | ⟨hk,c,hc,hcell⟩
 ·exact wpAny_Name (wpAny_loadName_local I.ok.kind hk hn hm fin) hd
 ·rcases hk with hk | hk
  ·exact wpAny_Name (wpAny_loadName_cell I.ok.kind hk hc hcell fin) hd
  ·exact wpAny_Name (wpAny_loadName_free I.ok.kind hk hc hcell fin hcd) hd
theorem pe_int {i j pos}:PE X (.Constant (.int i) j pos) (tC (.int i)):=fun _ _ _ H _ I h=>wpAny_Constant_int ⟨.int i,H,I.tok _,⟨_,rfl⟩,h⟩
theorem pe_bl {b j pos}:PE X (.Constant (.bool b) j pos) (tC (.bl b)):=fun _ _ _ H _ I h=>Constant_bool ⟨.bl b,H,I,rfl,h⟩
theorem pe_non {j pos}:PE X (.Constant .none j pos) (tC .non):=fun _ _ _ H _ I h=>Constant_none ⟨.non,H,I,rfl,h⟩
theorem pe_str {x j pos}:PE X (.Constant (.str x) j pos) (tC (.str x)):=fun _ _ _ H _ I h=>Calls.Constant_str ⟨.str x,H,I.tok _,⟨_,rfl⟩,h⟩
noncomputable def Gl (X:Cx) (x:Str):Prop:=X.env.kindOf x=some .globalImplicit
theorem ld_glob {E:Value→Shared→Prop} {pins:List (Addr×Obj)} {s:Shared} {σ:St} {H:Hp} {x:Str} {u:Value} {pos:Pos} {Q:Value→Shared→Prop} (I:Inv X pins σ H s) (hg:Gl X x) (hm:X.mg x=some u) (h:Q u s)
  (hd:(x==("__debug__":Str))=false:=by decide):wpAny (model X.prog X.w) X.A (eval (.Name x pos) X.env) Q E s:=
 Calls.Name_function_global I.ok.kind hg (Calls.loadGlobal_global (by rw [I.ok.glob];exact I.mod.glob.keeps I.bk) hm h) hd
theorem ld_blt {E:Value→Shared→Prop} {pins:List (Addr×Obj)} {s:Shared} {σ:St} {H:Hp} {x:Str} {u:Value} {pos:Pos} {Q:Value→Shared→Prop} (I:Inv X pins σ H s) (hg:Gl X x) (hm:X.mg x=none) (hv:bootBuiltins x=some u) (h:Q u s)
  (hn:x≠"__name__":=by decide) (hd:(x==("__debug__":Str))=false:=by decide):wpAny (model X.prog X.w) X.A (eval (.Name x pos) X.env) Q E s:=by
 obtain ⟨mb,h1,h2⟩:=I.mod.blt
 exact Calls.Name_function_global I.ok.kind hg (Calls.loadGlobal_builtin (by rw [I.ok.glob];exact I.mod.glob.keeps I.bk) hm (by rw [I.ok.blt];exact h1.keeps I.bk) ((h2 x hn).trans hv) h) hd
theorem pe_glob {x:Str} {v:V} {u:Value} {pos:Pos} (hg:Gl X x) (hm:X.mg x=some u) (r:RelV v u) (hd:(x==("__debug__":Str))=false:=by decide):PE X (.Name x pos) (tC v):=
 fun _ _ _ H _ I h=>ld_glob I hg hm ⟨v,H,I,r,h⟩ hd
theorem pe_bltn {x:Str} {v:V} {u:Value} {pos:Pos} (hg:Gl X x) (hm:X.mg x=none) (hv:bootBuiltins x=some u) (r:RelV v u) (hn:x≠"__name__":=by decide) (hd:(x==("__debug__":Str))=false:=by decide):PE X (.Name x pos) (tC v):=
 fun _ _ _ H _ I h=>ld_blt I hg hm hv ⟨v,H,I,r,h⟩ hn hd
variable {a b:Expr} {ta tb:TE} {pos:Pos}
variable {tA tB':TT} {rest:List Expr}
noncomputable def tAnd (t u:TT):TT:=fun σ H Q=>t σ H fun c H1=>if c=true then u σ H1 Q else Q false H1
noncomputable def tOr (t u:TT):TT:=fun σ H Q=>t σ H fun c H1=>if c=true then Q true H1 else u σ H1 Q
noncomputable def tNot (t:TT):TT:=fun σ H Q=>t σ H fun c H1=>Q (!c) H1
theorem pw_and1 (ha:PT X a tA):PW X (.BoolOp .And [a] pos) tA:=by
 intro wh pins s σ H Q I h
 refine isTrue_and (thn (ha pins s σ H Q I h) fun c s1 e=>?_)
 cases c with
 | true=>exact isTrue_and_nil e
 | false=>exact e
theorem pw_or1 (ha:PT X a tA):PW X (.BoolOp .Or [a] pos) tA:=by
 intro wh pins s σ H Q I h
 refine isTrue_or (thn (ha pins s σ H Q I h) fun c s1 e=>?_)
 cases c with
 | false=>exact isTrue_or_nil e
 | true=>exact e
theorem pw_and (ha:PT X a tA) (hb:PW X (.BoolOp .And (b::rest) pos) tB'):PW X (.BoolOp .And (a::b::rest) pos) (tAnd tA tB'):=by
 intro wh pins s σ H Q I h
 refine isTrue_and (thn (ha pins s σ H _ I h) fun c s1 ⟨H1,I1,q1⟩=>?_)
 cases c with
 | true=>exact hb wh pins s1 σ H1 Q I1 q1
 | false=>exact ⟨H1,I1,q1⟩
theorem pw_or (ha:PT X a tA) (hb:PW X (.BoolOp .Or (b::rest) pos) tB'):PW X (.BoolOp .Or (a::b::rest) pos) (tOr tA tB'):=by
 intro wh pins s σ H Q I h
 refine isTrue_or (thn (ha pins s σ H _ I h) fun c s1 ⟨H1,I1,q1⟩=>?_)
 cases c with
 | true=>exact ⟨H1,I1,q1⟩
 | false=>exact hb wh pins s1 σ H1 Q I1 q1
theorem pt_not (ha:PT X a tA):PT X (.UnaryOp .Not a pos) (tNot tA):=by
 intro pins s σ H Q I h
 exact isTrue_not (ha pins s σ H (fun c H1=>Q (!c) H1) I h)
theorem pe_one {op} {t:TE} (h:PE X a t):PE X (.BoolOp op [a] pos) t:=fun pins s σ H Q I hw=>BoolOp_one (h pins s σ H Q I hw)
noncomputable def tIf (t:TT) (ta tb:TE):TE:=fun σ H Q=>t σ H fun c H1=>if c=true then ta σ H1 Q else tb σ H1 Q
theorem pe_ifExp {c:Expr} (hc:PT X c tA) (ha:PE X a ta) (hb:PE X b tb):PE X (.IfExp c a b pos) (tIf tA ta tb):=by
 intro pins s σ H Q I h
 refine wpAny_IfExp (thn (hc pins s σ H _ I h) fun d s1 ⟨H1,I1,q1⟩=>?_)
 cases d with
 | true=>exact ha pins s1 σ H1 Q I1 q1
 | false=>exact hb pins s1 σ H1 Q I1 q1
end
end L2
namespace L2
open PySem PySem.Spec PyProof.Rows
noncomputable def SqL (K:PySem.W.Frag) (H:Hp) (a:Addr) (xs:List V):Prop:=
 Rd H a (.lst xs)∨
  ∃ (o:Obj) (its:Array Value) (n:Nat),K.lookup a=some o∧o.cls=.type "list"∧o.dict=none∧o.data=.seq its n∧its.size≤sizeLine∧Vals xs its.toList
noncomputable def SqT (K:PySem.W.Frag) (H:Hp) (a:Addr) (xs:List V):Prop:=
 Rd H a (.tup xs)∨
  ∃ (o:Obj) (its:Array Value) (n:Nat),K.lookup a=some o∧o.cls=.type "tuple"∧o.data=.seq its n∧its.size≤sizeLine∧Vals xs its.toList
noncomputable def absV:Value→Option V
 | .none=>some .non
 | .bool b=>some (.bl b)
 | .int i _=>some (.int i)
 | .str x _=>some (.str x)
 | .bytes b _=>some (.byt b)
 | .float b _=>some (.flt b)
 | .ref a=>some (.ref a)
 | .type n=>some (.ty n)
 | _=>none
theorem RelV.abs {x:V} {u:Value} (r:RelV x u):absV u=some x:=by
 cases x with
 | non=>cases r;rfl
 | bl _=>cases r;rfl
 | int _=>obtain ⟨t,rfl⟩:=r;rfl
 | str _=>obtain ⟨t,rfl⟩:=r;rfl
 | byt _=>obtain ⟨t,rfl⟩:=r;rfl
 | flt _=>obtain ⟨t,rfl⟩:=r;rfl
 | ref _=>cases r;rfl
 | ty _=>cases r;rfl
theorem RelV.inj {x y:V} {u:Value} (r:RelV x u) (q:RelV y u):x=y:=Option.some.inj (r.abs.symm.trans q.abs)
theorem Vals.inj:∀ {xs ys:List V} {us:List Value},Vals xs us→Vals ys us→xs=ys
 | _,_,_,.nil,.nil=>rfl
 | _,_,_,.cons r t,.cons r' t'=>by rw [r.inj r',Vals.inj t t']
section
variable {X:Cx} {pins:List (Addr×Obj)} {σ:St} {H:Hp} {s:Shared} {a:Addr} {xs ys:List V}
theorem SqL.of {K:PySem.W.Frag} (h:H a=some (.lst xs)):SqL K H a xs:=.inl (.inl h)
theorem SqT.of {K:PySem.W.Frag} (h:H a=some (.tup xs)):SqT K H a xs:=.inl (.inl h)
theorem Inv.list (I:Inv X pins σ H s) (h:SqL X.K H a xs):∃ its:List Value,Vals xs its∧PlainL s.heap a its.toArray∧xs.length≤sizeLine:=by
 rcases h with h | ⟨o,its,n,hk,hc,hd,hs,hz,r⟩
 ·obtain ⟨z,its,n,r,e⟩:=h.ok I.hok
  exact ⟨its,r,⟨_,n,e,rfl,rfl,rfl⟩,z⟩
 ·refine ⟨its.toList,r,⟨o,n,I.kIn a o hk,hc,hd,by simpa using hs⟩,?_⟩
  have e:=r.length
  simp only [Array.length_toList] at e
  lia
theorem Inv.tuple (I:Inv X pins σ H s) (h:SqT X.K H a xs):∃ its:List Value,Vals xs its∧IsTup s.heap a its.toArray∧xs.length≤sizeLine:=by
 rcases h with h | ⟨o,its,n,hk,hc,hs,hz,r⟩
 ·obtain ⟨z,its,r,p⟩:=h.ok I.hok
  exact ⟨its,r,p,z⟩
 ·refine ⟨its.toList,r,⟨o,I.kIn a o hk,hc,n,by simpa using hs⟩,?_⟩
  have e:=r.length
  simp only [Array.length_toList] at e
  lia
theorem Inv.list_inj (I:Inv X pins σ H s) (h:SqL X.K H a xs) (h':SqL X.K H a ys):xs=ys:=by
 obtain ⟨its,r,⟨o,n,e,_,_,d⟩,_⟩:=I.list h
 obtain ⟨its',r',⟨o',n',e',_,_,d'⟩,_⟩:=I.list h'
 rw [e] at e';cases e'
 rw [d] at d'
 injection d' with d1 _
 have:its=its':=by simpa using congrArg Array.toList d1
 subst this
 exact r.inj r'
theorem Inv.tuple_inj (I:Inv X pins σ H s) (h:SqT X.K H a xs) (h':SqT X.K H a ys):xs=ys:=by
 obtain ⟨its,r,⟨o,e,_,n,d⟩,_⟩:=I.tuple h
 obtain ⟨its',r',⟨o',e',_,n',d'⟩,_⟩:=I.tuple h'
 rw [e] at e';cases e'
 rw [d] at d'
 injection d' with d1 _
 have:its=its':=by simpa using congrArg Array.toList d1
 subst this
 exact r.inj r'
end
noncomputable abbrev Cx.wish (X:Cx) (E:Value→Shared→Prop):Cx:={X with xe:=E}
noncomputable abbrev Cx.nox (X:Cx):Cx:=X.wish fun _ _=>False
theorem Cx.Ok.wish {X:Cx} (ok:X.Ok) (E:Value→Shared→Prop):(X.wish E).Ok:=
 ⟨ok.mod,ok.kind,ok.glob,ok.blt,ok.above,ok.inj,ok.has,ok.cab,ok.hd,ok.frames,ok.stk,ok.exf,ok.bs,ok.bsz,ok.noex,ok.exfs,ok.funs,ok.frf⟩
theorem Cx.Ok.unwish {X:Cx} {E:Value→Shared→Prop} (ok:(X.wish E).Ok):X.Ok:=
 ⟨ok.mod,ok.kind,ok.glob,ok.blt,ok.above,ok.inj,ok.has,ok.cab,ok.hd,ok.frames,ok.stk,ok.exf,ok.bs,ok.bsz,ok.noex,ok.exfs,ok.funs,ok.frf⟩
section
variable {X:Cx} {pins:List (Addr×Obj)} {σ:St} {H:Hp} {s:Shared} {E:Value→Shared→Prop}
theorem Inv.wish (I:Inv X pins σ H s) (E:Value→Shared→Prop):Inv (X.wish E) pins σ H s:=⟨I.ok.wish E,I.os,I.bare,I.base,I.loc,I.cell,I.free,I.freeC,I.pin,I.hok,I.len⟩
theorem Inv.unwish (I:Inv (X.wish E) pins σ H s):Inv X pins σ H s:=⟨I.ok.unwish,I.os,I.bare,I.base,I.loc,I.cell,I.free,I.freeC,I.pin,I.hok,I.len⟩
theorem SP.unwish {D:Ends} {f:Flow} {s':Shared} (h:SP (X.wish E) pins D f s'):SP X pins D f s':=by
 cases f with
 | next=>obtain ⟨σ',H',I,q⟩:=h;exact ⟨σ',H',I.unwish,q⟩
 | brk=>obtain ⟨σ',H',I,q⟩:=h;exact ⟨σ',H',I.unwish,q⟩
 | cont=>obtain ⟨σ',H',I,q⟩:=h;exact ⟨σ',H',I.unwish,q⟩
 | ret u=>obtain ⟨v,σ',H',I,r,q⟩:=h;exact ⟨v,σ',H',I.unwish,r,q⟩
theorem PSs.nox {st:List Stmt} {t:TS} (h:PSs X.nox st t):PSs X st t:=fun pins s σ H D I hw=>
 wpAny_mono (h pins s σ H D (I.wish _) hw) (fun _ _ q=>q.unwish) fun _ _ z=>False.elim z
end
section
variable {X:Cx} {st:Stmt} {rest:List Stmt} {t u:TS} {e:Expr} {te:TE} {pos:Pos}
noncomputable def tNext:TS:=fun D σ H=>D.nx σ H
noncomputable def tSeq (t u:TS):TS:=fun D σ H=>t {D with nx:=u D} σ H
theorem pss_nil:PSs X [] tNext:=fun _ _ σ H _ I h=>wpAny_execs_nil ⟨σ,H,I,h⟩
theorem pss_cons (h1:PS X st t) (h2:PSs X rest u):PSs X (st::rest) (tSeq t u):=by
 intro pins s σ H D I h
 refine wpAny_execs_cons (thn (h1 pins s σ H {D with nx:=u D} I h) fun f s1 q=>?_)
 cases f with
 | next=>
  obtain ⟨σ',H',I',q⟩:=q
  exact h2 pins s1 σ' H' D I' q
 | ret v=>exact q
 | brk=>exact q
 | cont=>exact q
theorem pss_one (h1:PS X st t):PSs X [st] t:=by
 intro pins s σ H D I h
 refine wpAny_execs_cons (thn (h1 pins s σ H D I h) fun f s1 q=>?_)
 cases f with
 | next=>exact wpAny_execs_nil q
 | ret v=>exact q
 | brk=>exact q
 | cont=>exact q
theorem ps_pass:PS X (.Pass pos) tNext:=fun _ _ σ H _ I h=>wpAny_Pass ⟨σ,H,I,h⟩
theorem Inv.quiet {pins:List (Addr×Obj)} {σ:St} {H:Hp} {s:Shared} (I:Inv X pins σ H s):interactive X.env=false:=by simp [interactive,I.ok.kind]
noncomputable def tDrop (te:TE):TS:=fun D σ H=>te σ H fun _ H1=>D.nx σ H1
theorem ps_expr (he:PE X e te) (hs:swapsWith e none pos.line X.env=pure false:=by rfl):PS X (.Expr e pos) (tDrop te):=by
 intro pins s σ H D I h
 exact wpAny_Expr_any (thn (he pins s σ H _ I h) fun v s1 ⟨x,H1,I1,r1,q1⟩=>⟨σ,H1,I1,q1⟩) I.quiet hs
noncomputable def tRet (te:TE):TS:=fun D σ H=>te σ H D.rt
theorem ps_ret (he:PE X e te):PS X (.Return (some e) pos) (tRet te):=by
 intro pins s σ H D I h
 exact wpAny_Return_some (thn (he pins s σ H _ I h) fun v s1 ⟨x,H1,I1,r1,q1⟩=>⟨x,σ,H1,I1,r1,q1⟩)
noncomputable def tIfS (c:TT) (t u:TS):TS:=fun D σ H=>c σ H fun b H1=>if b=true then t D σ H1 else u D σ H1
theorem ps_if {c:Expr} {a b:List Stmt} {tc:TT} (hc:PT X c tc) (ha:PSs X a t) (hb:PSs X b u):PS X (.If c a b pos) (tIfS tc t u):=by
 intro pins s σ H D I h
 refine wpAny_If (thn (hc pins s σ H _ I h) fun d s1 ⟨H1,I1,q1⟩=>?_)
 cases d with
 | true=>exact ha pins s1 σ H1 D I1 q1
 | false=>exact hb pins s1 σ H1 D I1 q1
end
noncomputable abbrev TG:=V→St→Hp→(St→Hp→Prop)→Prop
noncomputable abbrev TGs:=List V→St→Hp→(St→Hp→Prop)→Prop
noncomputable def PG (X:Cx) (target:Expr) (t:TG):Prop:=
 ∀ (pins:List (Addr×Obj)) (s:Shared) (σ:St) (H:Hp) (v:V) (u:Value) (Q:St→Hp→Prop),Inv X pins σ H s→RelV v u→t v σ H Q→
  wpAny (model X.prog X.w) X.A (assign target X.env u) (fun _ s'=>∃ σ' H',Inv X pins σ' H' s'∧Q σ' H') X.xe s
noncomputable def PGs (X:Cx) (ts:List Expr) (t:TGs):Prop:=
 ∀ (pins:List (Addr×Obj)) (s:Shared) (σ:St) (H:Hp) (vs:List V) (us:List Value) (Q:St→Hp→Prop),Inv X pins σ H s→Vals vs us→t vs σ H Q→
  wpAny (model X.prog X.w) X.A (assignInOrder ((assignEach ts X.env).map (·.2)) us) (fun _ s'=>∃ σ' H',Inv X pins σ' H' s'∧Q σ' H') X.xe s
section
variable {X:Cx} {pos:Pos}
noncomputable def gName (i:Nat):TG:=fun v σ H Q=>Q (σ.set i (some v)) H
theorem pg_name {i:Nat} {x:Str} (hN:X.N.Nodup) (hi:X.N[i]?=some x) (hx:Loc X.env.scope x) (hf:X.fn x=true∨X.env.scope.names.lookup x=some .local:=by first | exact .inl rfl | exact .inr rfl | assumption):PG X (.Name x pos) (gName i):=by
 intro pins s σ H v u Q I r h
 exact wpAny_assign_Name (store_ok I hN hi hx r (fun s' I'=>⟨_,H,I',h⟩) hf)
noncomputable def gNil:TGs:=fun vs σ H Q=>vs=[]∧Q σ H
noncomputable def gCons (t:TG) (u:TGs):TGs:=fun vs σ H Q=>∃ v r,vs=v::r∧t v σ H fun σ' H'=>u r σ' H' Q
theorem pgs_nil:PGs X [] gNil:=by
 intro pins s σ H vs us Q I r h
 obtain ⟨e,h⟩:=h
 subst e
 cases r
 exact assignInOrder_nil ⟨σ,H,I,h⟩
theorem pgs_cons {e:Expr} {es:List Expr} {t:TG} {u:TGs} (h1:PG X e t) (h2:PGs X es u)
  (hs:(assignEach (e::es) X.env).map (·.2)=assign e X.env::(assignEach es X.env).map (·.2):=by rfl):PGs X (e::es) (gCons t u):=by
 intro pins s σ H vs us Q I r h
 obtain ⟨v,vr,e1,h⟩:=h
 subst e1
 cases r with
 | cons r rr=>
  rw [hs]
  refine assignInOrder_cons (thn (h1 pins s σ H _ _ _ I r h) fun _ s1 ⟨σ1,H1,I1,q1⟩=>?_)
  exact h2 pins s1 σ1 H1 _ _ Q I1 rr q1
noncomputable def gTup (K:PySem.W.Frag) (n:Nat) (t:TGs):TG:=fun v σ H Q=>∃ a xs,v=.ref a∧SqT K H a xs∧xs.length=n∧t xs σ H Q
theorem pg_tup {es:List Expr} {k:Nat} {t:TGs} {n:Nat} (hc:X.calm=true) (h:PGs X es t)
  (hn:(assignEach es X.env).length=n:=by rfl) (hst:(assignEach es X.env).findIdx? (·.1)=none:=by rfl):PG X (.Tuple es k pos) (gTup X.K n t):=by
 intro pins s σ H v u Q I r hw
 obtain ⟨a,xs,e1,hq,hl,hw⟩:=hw
 subst e1
 cases r
 obtain ⟨its,rv,ht,hz⟩:=I.tuple hq
 refine assign_Tuple_tuple (I.ok.hd hc) ht (by simp [hn,← hl,rv.length]) hst fun h' hx=>?_
 have I1:Inv X pins σ H {s with heap:=h'}:=I.kept (t':=s.toks) fun b o e=>hx b o (Nat.ne_of_lt (Heap.lt_size e)) e
 exact h pins _ σ H xs _ Q I1 (by simpa using rv) hw
noncomputable def tAsg (te:TE) (g:TG):TS:=fun D σ H=>te σ H fun x H1=>g x σ H1 D.nx
theorem ps_asg {tg e:Expr} {te:TE} {g:TG} (he:PE X e te) (hg:PG X tg g) (hs:swapsWithSole [tg] e pos.line X.env=pure false:=by rfl) (hw:swappedStores [tg] e X.env=pure none:=by rfl)
  (h1:(assignEach [tg] X.env).map (·.2)=[assign tg X.env]:=by rfl):PS X (.Assign [tg] e pos) (tAsg te g):=by
 intro pins s σ H D I h
 refine wpAny_Assign_stores (thn (he pins s σ H _ I h) fun v s1 ⟨x,H1,I1,r1,q1⟩=>?_) hs hw
 rw [h1]
 exact thn (hg pins s1 σ H1 x v _ I1 r1 q1) fun _ s2 q=>q
theorem ps_set {i:Nat} {x:Str} {e:Expr} {te:TE} {pos':Pos} (hN:X.N.Nodup) (hi:X.N[i]?=some x) (hx:Loc X.env.scope x) (he:PE X e te) (hs:swapsWith e (some (.Name x pos')) pos.line X.env=pure false:=by rfl) (hf:X.fn x=true∨X.env.scope.names.lookup x=some .local:=by first | exact .inl rfl | exact .inr rfl | assumption):
  PS X (.Assign [.Name x pos'] e pos) (tAsg te (gName i)):=by
 intro pins s σ H D I h
 refine wpAny_Assign_Name (thn (he pins s σ H _ I h) fun v s1 ⟨y,H1,I1,r1,q1⟩=>?_) hs
 exact store_ok I1 hN hi hx r1 (fun s2 I2=>⟨_,H1,I2,q1⟩) hf
end
section
variable {X:Cx} {pos:Pos}
end
structure It where
 go:Nat→Hp→Prop
 yld:Nat→Hp→V→Hp→Prop
 stop:Nat→Hp→Prop
noncomputable def FpOk (X:Cx) (pins:List (Addr×Obj)) (H:Hp) (b:Addr):Prop:=
 H b=none∧b≠X.env.locals∧b∉X.fs∧(b∈X.ex∨X.s₀.heap.objs.size≤b)∧(∀ x c,X.env.cells.lookup x=some c→c≠b)∧∀ p∈X.pn++pins,p.1≠b
theorem Inv.fpOk {X:Cx} {pins:List (Addr×Obj)} {σ:St} {H H':Hp} {s:Shared} {b:Addr} (I:Inv X pins σ H s) (hb:s.heap.objs.size≤b) (hn:H' b=none):FpOk X pins H' b:=by
 refine ⟨hn,Nat.ne_of_gt (Nat.lt_of_lt_of_le I.lt hb),I.nofs hb,.inr (Nat.le_trans I.sz hb),fun x c e z=>?_,fun p hp z=>?_⟩
 ·obtain ⟨v,q⟩:=I.cell x c e
  exact absurd (Nat.lt_of_lt_of_le q.lt (by rw [z];exact hb)) (Nat.lt_irrefl _)
 ·exact absurd (Nat.lt_of_lt_of_le (Heap.lt_size (I.pin p hp).1) (by rw [z];exact hb)) (Nat.lt_irrefl _)
structure Turn (P:Program) (w:World) (K:PySem.W.Frag) (tg:Expr) (J:It) (fp:List Addr) (it:Addr) (tn:Nat→Heap→Prop):Prop where
 mem:it∈fp
 obj:∀ i h,tn i h→∀ b∈fp,∃ o,h.get? b=some o∧∀ v,o.data≠.cell v
 keep:∀ i h h',tn i h→(∀ b∈fp,∀ o,h.get? b=some o→h'.get? b=some o)→tn i h'
 item:∀ (X:Cx),X.prog=P→X.w=w→X.K=K→X.calm=true→∀ (i:Nat) (pins:List (Addr×Obj)) (s:Shared) (σ:St) (H:Hp) (E:Value→Shared→Prop),Inv X pins σ H s→(∀ b∈fp,FpOk X pins H b)→tn i s.heap→J.go i H→
  wpAny (model P w) X.A (pyNext (.ref it)) (fun r s1=>∃ u,r=some u∧
   wpAny (model P w) X.A (letOwnedTupleGo tg (.ref it) u) (fun _ s2=>∃ x H',Inv X pins σ H' s2∧RelV x u∧J.yld i H x H'∧tn (i+1) s2.heap∧∀ b∈fp,H' b=none) E s1) E s
 done:∀ (X:Cx),X.prog=P→X.w=w→X.K=K→X.calm=true→∀ (i:Nat) (pins:List (Addr×Obj)) (s:Shared) (σ:St) (H:Hp) (E:Value→Shared→Prop),Inv X pins σ H s→(∀ b∈fp,FpOk X pins H b)→tn i s.heap→J.stop i H→
  wpAny (model P w) X.A (pyNext (.ref it)) (fun r s1=>r=none∧Inv X pins σ H s1) E s
 self:∀ (A:Around) (i:Nat) (s:Shared) (Q:Value→Shared→Prop) (E:Value→Shared→Prop),tn i s.heap→Q (.ref it) s→wpAny (model P w) A (pyIter (.ref it)) Q E s
noncomputable abbrev TI:=St→Hp→(It→Hp→Prop)→Prop
noncomputable def PIE (X:Cx) (pins:List (Addr×Obj)) (σ:St) (tg:Expr) (R:It→Hp→Prop) (itv:Value) (s2:Shared):Prop:=
 ∃ (it:Addr) (fp:List Addr) (tn:Nat→Heap→Prop) (J:It) (H':Hp),itv=.ref it∧Inv X pins σ H' s2∧Turn X.prog X.w X.K tg J fp it tn∧tn 0 s2.heap∧(∀ b∈fp,FpOk X pins H' b)∧R J H'
noncomputable def PI (X:Cx) (tg iter:Expr) (wi:TI):Prop:=
 ∀ (pins:List (Addr×Obj)) (s:Shared) (σ:St) (H:Hp) (R:It→Hp→Prop),Inv X pins σ H s→wi σ H R→
  wpAny (model X.prog X.w) X.A (eval iter X.env) (fun v s1=>wpAny (model X.prog X.w) X.A (pyIter v) (PIE X pins σ tg R) X.xe s1) X.xe s
theorem go_of {M : Model} {A : Around} {E : Value → Shared → Prop} {s : Shared} {tg : Expr} {it : Addr} {u : Value} {o : Obj} {n : String} {vs : Array Value} {Q : Unit → Shared → Prop} (ho : s.heap.get? it = some o) (hc : o.cls = .type n) (hd : o.data = .fields vs)
    (hn : ["enumerate", "zip", "dict_itemiterator", "dict_reverseitemiterator", "odict_iterator", "itertools.zip_longest", "itertools.pairwise"].contains n = false) (hQ : Q () s) : wpAny M A (letOwnedTupleGo tg (.ref it) u) Q E s := by
  unfold letOwnedTupleGo
  cases tg <;> first
    | exact wpAny_pure hQ
    | (cases u <;> first
        | exact wpAny_pure hQ
        | (refine wpAny_bind (wpAny_load ho ?_)
           rw [hc, hd]
           show wpAny M A (if (["enumerate", "zip", "dict_itemiterator", "dict_reverseitemiterator", "odict_iterator", "itertools.zip_longest", "itertools.pairwise"].contains n && vs[0]? == some (rawInt _)) = true then _ else _) Q E s
           rw [if_neg (by intro h; rw [hn, Bool.false_and] at h; cases h)]
           exact wpAny_pure hQ))
noncomputable def Itl (K:PySem.W.Frag) (a:Addr):It:=
 ⟨fun i H=>∃ xs x,SqL K H a xs∧xs[i]?=some x,fun i H x H'=>H'=H∧∀ xs,SqL K H a xs→xs[i]?=some x,fun i H=>∃ xs,SqL K H a xs∧xs.length≤i⟩
noncomputable def Itt (K:PySem.W.Frag) (a:Addr):It:=
 ⟨fun i H=>∃ xs x,SqT K H a xs∧xs[i]?=some x,fun i H x H'=>H'=H∧∀ xs,SqT K H a xs→xs[i]?=some x,fun i H=>∃ xs,SqT K H a xs∧xs.length≤i⟩
noncomputable def Itr (lo:Int) (n:Nat):It:=⟨fun i _=>i<n,fun i H x H'=>H'=H∧x=.int (lo+i),fun i _=>n≤i⟩
theorem turn_list {P:Program} {w:World} {K:PySem.W.Frag} {tg:Expr} (a it:Addr):Turn P w K tg (Itl K a) [it] it (fun i h=>h.IsListIter it a i) where
 mem:=by simp
 obj:=fun i h st b hb=>by
  have e:b=it:=by simpa using hb
  subst e
  obtain ⟨o,e,c,d⟩:=st
  exact ⟨o,e,fun v z=>by rw [d] at z;cases z⟩
 keep:=fun i h h' st k=>st.at fun o e=>k it (by simp) o e
 item:=by
  intro X hP hw hK hc i pins s σ H E I hf st hg
  subst hP hw hK
  obtain ⟨xs,x,hq,hx⟩:=hg
  obtain ⟨its,rv,p,hz⟩:=I.list hq
  obtain ⟨u,hu,ru⟩:=rv.get hx
  obtain ⟨f0,f1,f2,f3,f4,f5⟩:=hf it (by simp)
  refine wpAny_pyNext_list_item st p.isList (x:=u) (by simpa using hu) fun h' st' sb=>?_
  have I1:Inv X pins σ H {s with heap:=h'}:=I.turned (t':=s.toks) (fun b o hb e=>(sb.2 b hb).trans e) f0 f1 f3 f4 f5
  obtain ⟨o,e,c,d⟩:=id st'
  exact ⟨u,rfl,go_of (s:={s with heap:=h'}) e c d (by decide) ⟨x,H,I1,ru,⟨rfl,fun ys hy=>by rw [I.list_inj hy hq];exact hx⟩,st',fun b hb=>(hf b hb).1⟩⟩
 done:=by
  intro X hP hw hK hc i pins s σ H E I hf st hg
  subst hP hw hK
  obtain ⟨xs,hq,hx⟩:=hg
  obtain ⟨its,rv,p,hz⟩:=I.list hq
  obtain ⟨f0,f1,f2,f3,f4,f5⟩:=hf it (by simp)
  have hl:=rv.length
  exact wpAny_pyNext_list_end (I.ok.hd hc) st p.isList (by simp;lia) fun h' eb=>⟨rfl,I.turned (t':=s.toks) (fun b o hb e=>eb b o hb e) f0 f1 f3 f4 f5⟩
 self:=fun _ _ _ _ _ st h=>wpAny_pyIter_listiter st h
theorem turn_tuple {P:Program} {w:World} {K:PySem.W.Frag} {tg:Expr} (a it:Addr):Turn P w K tg (Itt K a) [it] it (fun i h=>h.IsTupleIter it a i) where
 mem:=by simp
 obj:=fun i h st b hb=>by
  have e:b=it:=by simpa using hb
  subst e
  obtain ⟨o,e,c,d⟩:=st
  exact ⟨o,e,fun v z=>by rw [d] at z;cases z⟩
 keep:=fun i h h' st k=>st.at fun o e=>k it (by simp) o e
 item:=by
  intro X hP hw hK hc i pins s σ H E I hf st hg
  subst hP hw hK
  obtain ⟨xs,x,hq,hx⟩:=hg
  obtain ⟨its,rv,p,hz⟩:=I.tuple hq
  obtain ⟨u,hu,ru⟩:=rv.get hx
  obtain ⟨f0,f1,f2,f3,f4,f5⟩:=hf it (by simp)
  refine wpAny_pyNext_tuple_item st (show s.heap.IsTuple a its.toArray from p) (x:=u) (by simpa using hu) fun h' st' sb=>?_
  have I1:Inv X pins σ H {s with heap:=h'}:=I.turned (t':=s.toks) (fun b o hb e=>(sb.2 b hb).trans e) f0 f1 f3 f4 f5
  obtain ⟨o,e,c,d⟩:=id st'
  exact ⟨u,rfl,go_of (s:={s with heap:=h'}) e c d (by decide) ⟨x,H,I1,ru,⟨rfl,fun ys hy=>by rw [I.tuple_inj hy hq];exact hx⟩,st',fun b hb=>(hf b hb).1⟩⟩
 done:=by
  intro X hP hw hK hc i pins s σ H E I hf st hg
  subst hP hw hK
  obtain ⟨xs,hq,hx⟩:=hg
  obtain ⟨its,rv,p,hz⟩:=I.tuple hq
  obtain ⟨f0,f1,f2,f3,f4,f5⟩:=hf it (by simp)
  have hl:=rv.length
  exact wpAny_pyNext_tuple_end (I.ok.hd hc) st (show s.heap.IsTuple a its.toArray from p) (by simp;lia) fun h' eb=>⟨rfl,I.turned (t':=s.toks) (fun b o hb e=>eb b o hb e) f0 f1 f3 f4 f5⟩
 self:=fun _ _ _ _ _ st h=>wpAny_pyIter_tupleiter st h
theorem turn_range {P:Program} {w:World} {K:PySem.W.Frag} {tg:Expr} (it:Addr) (lo:Int) (n:Nat):Turn P w K tg (Itr lo n) [it] it (fun i h=>IsRangeIter h it (lo+(i:Nat) * 1) ((n:Int) - (i:Nat)) 1) where
 mem:=by simp
 obj:=fun i h st b hb=>by
  have e:b=it:=by simpa using hb
  subst e
  exact ⟨_,st,fun v z=>by
   have z':Data.fields _=Data.cell v:=z
   cases z'⟩
 keep:=fun i h h' st k=>k it (by simp) _ st
 item:=by
  intro X hP hw hK hc i pins s σ H E I hf st hg
  subst hP hw hK
  obtain ⟨f0,f1,f2,f3,f4,f5⟩:=hf it (by simp)
  have W:=Walks.range (prog:=X.prog) (w:=X.w) (I.ok.hd hc) it lo 1 n
  refine W.item i s _ _ hg st fun v h' tk hv st' kk=>?_
  obtain ⟨t,rfl⟩:=hv
  have I1:Inv X pins σ H {s with heap:=h',toks:=tk}:=I.turned (fun b o hb e=>kk b o (by simpa using hb) e) f0 f1 f3 f4 f5
  refine ⟨_,rfl,go_of (s:={s with heap:=h',toks:=tk}) (n:="range_iterator") st' rfl rfl (by decide) ⟨.int (lo+i),H,I1,⟨t,?_⟩,⟨rfl,rfl⟩,st',fun b hb=>(hf b hb).1⟩⟩
  rw [Int.mul_one]
 done:=by
  intro X hP hw hK hc i pins s σ H E I hf st hg
  subst hP hw hK
  obtain ⟨f0,f1,f2,f3,f4,f5⟩:=hf it (by simp)
  exact wpAny_pyNext_range_end (I.ok.hd hc) st (by have:n≤i:=hg;lia) fun h' eb=>⟨rfl,I.turned (t':=s.toks) (fun b o hb e=>eb b o hb e) f0 f1 f3 f4 f5⟩
 self:=fun _ _ _ _ _ st h=>wpAny_pyIter_rangeiter st h
end L2
namespace L2
open PySem PySem.Spec PyProof.Rows
section
variable {X:Cx} {tg:Expr}
theorem range_it {pins:List (Addr×Obj)} {σ:St} {H:Hp} {s:Shared} {R:It→Hp→Prop} {E:Value→Shared→Prop} {lo hi:Int} {t u v:Tok} {tk:Nat} (I:Inv X pins σ H s) (h1:-(2 ^ 62)≤lo) (h2:lo<2 ^ 62) (h3:-(2 ^ 62)≤hi) (h4:hi<2 ^ 62)
  (q:R (Itr lo (hi - lo).toNat) H):wpAny (model X.prog X.w) X.A (pyIter (.ref s.heap.objs.size)) (PIE X pins σ tg R) E {s with heap:=s.heap.push {cls:=.type "range",data:=.fields #[.int lo t,.int hi u,.int 1 v]},toks:=tk}:=by
 refine wpAny_pyIter_range (IsRange.new ..) (small_one h1 h2 h3 h4) ?_
 have I1:Inv X pins σ H {s with heap:=s.heap.push {cls:=.type "range",data:=.fields #[.int lo t,.int hi u,.int 1 v]},toks:=tk}:=I.kept fun b o e=>Heap.get?_push_of_some _ e
 refine ⟨(s.heap.push {cls:=.type "range",data:=.fields #[.int lo t,.int hi u,.int 1 v]}).objs.size,[(s.heap.push {cls:=.type "range",data:=.fields #[.int lo t,.int hi u,.int 1 v]}).objs.size],_,_,H,rfl,
  I1.kept (t':=tk) fun b o e=>Heap.get?_push_of_some _ e,turn_range _ lo (hi - lo).toNat,?_,fun b hb=>?_,q⟩
 ·have e1:lo+((0:Nat):Int) * 1=lo:=by simp
  have e2:(((hi - lo).toNat:Nat):Int) - ((0:Nat):Int)=Builtin.Range.rangeSize lo hi 1:=by rw [rangeSize_one];split <;> lia
  show IsRangeIter _ _ (lo+((0:Nat):Int) * 1) ((((hi - lo).toNat:Nat):Int) - ((0:Nat):Int)) 1
  rw [e1,e2]
  exact Heap.get?_push_size _ rfl
 ·have e:b=(s.heap.push {cls:=.type "range",data:=.fields #[.int lo t,.int hi u,.int 1 v]}).objs.size:=by simpa using hb
  subst e
  exact I1.fpOk (Nat.le_refl _) (I1.hok.fresh (Nat.le_refl _))
noncomputable def iRng1 (ta:TA):TI:=fun σ H R=>ta σ H fun vs H1=>∃ j:Int,vs=[.int j]∧-(2 ^ 62)≤j∧j<2 ^ 62∧R (Itr 0 j.toNat) H1
theorem pi_range1 {a:Expr} {ta:TA} {p pos:Pos} (hg:Gl X "range") (hm:X.mg "range"=none) (ha:PA X [a] ta) (hs:starEach [a] X.env=[(false,eval a X.env)]:=by rfl):PI X tg (.Call (.Name "range" p) [a] [] pos) (iRng1 ta):=by
 intro pins s σ H R I h
 refine Call_ (ld_blt I hg hm boot_range (PyProof.Rows.callWith_type1 (thn (ha pos pins s σ H _ I h) fun us s1 ⟨vs,H1,I1,r1,q1⟩=>?_) hs rfl))
 obtain ⟨j,e,q1,q2,q⟩:=q1
 subst e
 cases r1 with
 | cons r rr=>
  cases rr
  obtain ⟨t,rfl⟩:=r
  exact call_range_1 (range_it I1 (by lia) (by lia) q1 q2 (by simpa using q))
noncomputable def tFor (wi:TI) (g:TG) (tb:TS):TS:=fun D σ H=>wi σ H fun J H1=>∃ W:Nat→Nat→St→Hp→Prop,(∃ m,W 0 m σ H1)∧∀ i m σ H,W i m σ H→
 (J.stop i H∧D.nx σ H)∨(J.go i H∧∃ N:St→Hp→Prop,(∀ σ' H',N σ' H'→∃ m',m'<m∧W (i+1) m' σ' H')∧∀ x H',J.yld i H x H'→g x σ H' fun σ2 H2=>tb {D with nx:=N,ct:=N,bk:=D.nx} σ2 H2)
noncomputable def pinsAt (fp:List Addr) (h:Heap):List (Addr×Obj):=fp.filterMap fun b=>(h.get? b).map fun o=>(b,o)
theorem mem_pinsAt {fp:List Addr} {h:Heap} {b:Addr} {o:Obj} (hb:b∈fp) (e:h.get? b=some o):(b,o)∈pinsAt fp h:=List.mem_filterMap.mpr ⟨b,hb,by rw [e];rfl⟩
theorem of_pinsAt {fp:List Addr} {h:Heap} {p:Addr×Obj} (hp:p∈pinsAt fp h):p.1∈fp∧h.get? p.1=some p.2:=by
 obtain ⟨b,hb,e⟩:=List.mem_filterMap.mp hp
 cases q:h.get? b with
 | none=>rw [q] at e;cases e
 | some o=>
  rw [q] at e
  have e':(b,o)=p:=Option.some.inj e
  subst e'
  exact ⟨hb,q⟩
theorem Inv.pinned {pins:List (Addr×Obj)} {σ:St} {H:Hp} {s:Shared} {fp:List Addr} (I:Inv X pins σ H s) (hf:∀ b∈fp,FpOk X pins H b) (ho:∀ b∈fp,∃ o,s.heap.get? b=some o∧∀ v,o.data≠.cell v):Inv X (pins++pinsAt fp s.heap) σ H s:=
 I.pins_of fun p hp=>(List.mem_append.mp hp).elim (fun z=>I.pin p (List.mem_append_right _ z)) fun z=>by
  obtain ⟨hb,e⟩:=of_pinsAt z
  obtain ⟨f0,f1,f2,_⟩:=hf p.1 hb
  obtain ⟨o,e',d⟩:=ho p.1 hb
  rw [e] at e';cases e'
  exact ⟨e,f0,f1,f2,d⟩
theorem Inv.unpinned {pins pl:List (Addr×Obj)} {σ:St} {H:Hp} {s:Shared} (I:Inv X (pins++pl) σ H s):Inv X pins σ H s:=I.pins_of fun p hp=>I.pin p (List.mem_append_right _ (List.mem_append_left _ hp))
theorem ps_for {iter:Expr} {body:List Stmt} {wi:TI} {g:TG} {tb:TS} {pos:Pos} (hp:PassesOwn (model X.prog X.w) X.A X.env X.xe) (hc:X.calm=true) (hi:PI X tg iter wi) (hg:PG X tg g) (hb:PSs X body tb)
  (hs:∀ x,foldedSetIterable iter X.env x=pure x:=by intro _;rfl):PS X (.For tg iter body [] pos) (tFor wi g tb):=by
 intro pins s σ H D I h
 refine wpAny_For (thn (hi pins s σ H _ I h) fun v s1 h1=>thn h1 fun itv s2 h2=>?_) hs
 obtain ⟨it,fp,tn,J,H2,e,I2,T,st2,f2,W,⟨m0,w0⟩,turn⟩:=h2
 subst e
 
 have stat:∀ {H':Hp},(∀ b∈fp,H' b=none)→∀ b∈fp,FpOk X pins H' b:=fun hn b hb=>⟨hn b hb,(f2 b hb).2⟩
 refine codeAny_forLoop_any (fun n s'=>∃ i σ' H',Inv X pins σ' H' s'∧tn i s'.heap∧(∀ b∈fp,H' b=none)∧W i n σ' H') ?_ m0 ⟨0,σ,H2,I2,st2,fun b hb=>(f2 b hb).1,w0⟩
 rintro n s3 ⟨i,σ3,H3,I3,st3,fr3,w3⟩
 rcases turn i n σ3 H3 w3 with ⟨stop,qn⟩ | ⟨go,N,hN,step⟩
 ·refine wpAny_passesOwn hp (thn (T.done X rfl rfl rfl hc i pins s3 σ3 H3 X.xe I3 (stat fr3) st3 stop) fun r s4 ⟨hr,I4⟩=>?_)
  subst hr
  exact wpAny_execs_nil ⟨σ3,H3,I4,qn⟩
 ·refine wpAny_passesOwn hp (thn (T.item X rfl rfl rfl hc i pins s3 σ3 H3 X.xe I3 (stat fr3) st3 go) fun r s4 ⟨u,hr,h4⟩=>?_)
  subst hr
  refine wpAny_passesOwn hp (thn h4 fun _ s5 ⟨x,H5,I5,r5,y5,st5,fr5⟩=>?_)
  have I5':=I5.pinned (stat fr5) (T.obj _ _ st5)
  refine wpAny_passesOwn hp (thn (hg _ s5 σ3 H5 x u _ I5' r5 (step x H5 y5)) fun _ s6 ⟨σ6,H6,I6,q6⟩=>?_)
  refine wpAny_passesOwn hp (thn (hb _ s6 σ6 H6 _ I6 q6) fun f s7 q7=>?_)
  have again:∀ {σ7:St} {H7:Hp},Inv X (pins++pinsAt fp s5.heap) σ7 H7 s7→N σ7 H7→∃ m,m<n∧∃ i σ' H',Inv X pins σ' H' s7∧tn i s7.heap∧(∀ b∈fp,H' b=none)∧W i m σ' H':=fun {σ7 H7} I7 n7=>by
   obtain ⟨m',hm,w7⟩:=hN σ7 H7 n7
   refine ⟨m',hm,i+1,σ7,H7,I7.unpinned,T.keep _ _ _ st5 fun b hb o e=>(I7.pin (b,o) (List.mem_append_right _ (List.mem_append_right _ (mem_pinsAt hb e)))).1,fun b hb=>?_,w7⟩
   obtain ⟨o,e,d⟩:=T.obj _ _ st5 b hb
   exact (I7.pin (b,o) (List.mem_append_right _ (List.mem_append_right _ (mem_pinsAt hb e)))).2.1
  cases f with
  | next=>obtain ⟨σ7,H7,I7,n7⟩:=q7;exact again I7 n7
  | cont=>obtain ⟨σ7,H7,I7,n7⟩:=q7;exact again I7 n7
  | brk=>obtain ⟨σ7,H7,I7,q7⟩:=q7;exact ⟨σ7,H7,I7.unpinned,q7⟩
  | ret v=>obtain ⟨x7,σ7,H7,I7,r7,q7⟩:=q7;exact ⟨x7,σ7,H7,I7.unpinned,r7,q7⟩
end
end L2
namespace L2
open PySem PySem.Spec PyProof.Rows
noncomputable abbrev R2:=V→V→Hp→VK→Prop
noncomputable def OpR (X:Cx) (f:Value→Value→Sem Value) (r:R2):Prop:=
 ∀ (pins:List (Addr×Obj)) (s:Shared) (σ:St) (H:Hp) (x y:V) (v u:Value) (Q:VK),Inv X pins σ H s→RelV x v→RelV y u→r x y H Q→
  wpAny (model X.prog X.w) X.A (f v u) (EP X pins σ Q) X.xe s
noncomputable def CallR (X:Cx) (f:Value) (r:List V→Hp→VK→Prop):Prop:=
 ∀ (pins:List (Addr×Obj)) (s:Shared) (σ:St) (H:Hp) (xs:List V) (us:List Value) (Q:VK),Inv X pins σ H s→Vals xs us→r xs H Q→
  wpAny (model X.prog X.w) X.A (call f us) (EP X pins σ Q) X.xe s
noncomputable def TruR (X:Cx) (r:V→Hp→(Bool→Hp→Prop)→Prop):Prop:=
 ∀ (pins:List (Addr×Obj)) (s:Shared) (σ:St) (H:Hp) (x:V) (v:Value) (Q:Bool→Hp→Prop),Inv X pins σ H s→RelV x v→r x H Q→
  wpAny (model X.prog X.w) X.A (truthy v) (TP X pins σ Q) X.xe s
noncomputable def tOp (r:R2) (ta tb:TE):TE:=fun σ H Q=>ta σ H fun x H1=>tb σ H1 fun y H2=>r x y H2 Q
noncomputable def rI (C:Int→Int→Prop) (g:Int→Int→V):R2:=fun x y H Q=>∃ i j,x=.int i∧y=.int j∧C i j∧Q (g i j) H
noncomputable def rI0 (g:Int→Int→V):R2:=fun x y H Q=>∃ i j,x=.int i∧y=.int j∧Q (g i j) H
section
variable {X:Cx} {a b c:Expr} {ta tb tc:TE} {pos:Pos}
theorem binT (ha:PE X a ta) (hb:PE X b tb) {pins:List (Addr×Obj)} {s:Shared} {σ:St} {H:Hp} {R:V→V→Hp→Prop} (I:Inv X pins σ H s)
  (h:ta σ H fun x H1=>tb σ H1 fun y H2=>R x y H2) {Q:Value→Shared→Prop} {f:Value→Value→Sem Value}
  (hf:∀ v u s2 x y H2,Inv X pins σ H2 s2→RelV x v→RelV y u→R x y H2→wpAny (model X.prog X.w) X.A (f v u) Q X.xe s2):
  wpAny (model X.prog X.w) X.A (eval a X.env) (fun v s₁=>wpAny (model X.prog X.w) X.A (eval b X.env) (fun u s₂=>wpAny (model X.prog X.w) X.A (f v u) Q X.xe s₂) X.xe s₁) X.xe s:=by
 refine thn (ha pins s σ H _ I h) fun v s1 ⟨x,H1,I1,r1,q1⟩=>?_
 refine thn (hb pins s1 σ H1 _ I1 q1) fun u s2 ⟨y,H2,I2,r2,q2⟩=>?_
 exact hf v u s2 x y H2 I2 r1 r2 q2
theorem pe_op {op:Operator} {r:R2} (ho:OpR X (binaryOp op) r) (ha:PE X a ta) (hb:PE X b tb):PE X (.BinOp a op b pos) (tOp r ta tb):=by
 intro pins s σ H Q I h
 exact wpAny_BinOp (binT ha hb I h fun v u s2 x y H2 I2 rx ry q=>ho pins s2 σ H2 x y v u Q I2 rx ry q)
theorem opI {f:Value→Value→Sem Value} {C:Int→Int→Prop} {g:Int→Int→Int}
  (rule:∀ (i j:Int) (t u:Tok) (s:Shared) (Q:Value→Shared→Prop) (E:Value→Shared→Prop),C i j→Q (.int (g i j) s.toks) {s with toks:=s.toks+1}→wpAny (model X.prog X.w) X.A (f (.int i t) (.int j u)) Q E s):
  OpR X f (rI C fun i j=>.int (g i j)):=by
 intro pins s σ H x y v u Q I rx ry h
 obtain ⟨i,j,rfl,rfl,hc,q⟩:=h
 obtain ⟨t,rfl⟩:=rx
 obtain ⟨t',rfl⟩:=ry
 exact rule i j t t' s _ _ hc ⟨.int (g i j),H,I.tok _,⟨_,rfl⟩,q⟩
theorem opI0 {f:Value→Value→Sem Value} {g:Int→Int→Int}
  (rule:∀ (i j:Int) (t u:Tok) (s:Shared) (Q:Value→Shared→Prop) (E:Value→Shared→Prop),Q (.int (g i j) s.toks) {s with toks:=s.toks+1}→wpAny (model X.prog X.w) X.A (f (.int i t) (.int j u)) Q E s):
  OpR X f (rI0 fun i j=>.int (g i j)):=by
 intro pins s σ H x y v u Q I rx ry h
 obtain ⟨i,j,rfl,rfl,q⟩:=h
 obtain ⟨t,rfl⟩:=rx
 obtain ⟨t',rfl⟩:=ry
 exact rule i j t t' s _ _ ⟨.int (g i j),H,I.tok _,⟨_,rfl⟩,q⟩
theorem opB0 {f:Value→Value→Sem Value} {g:Int→Int→Bool}
  (rule:∀ (i j:Int) (t u:Tok) (s:Shared) (Q:Value→Shared→Prop) (E:Value→Shared→Prop),Q (.bool (g i j)) s→wpAny (model X.prog X.w) X.A (f (.int i t) (.int j u)) Q E s):
  OpR X f (rI0 fun i j=>.bl (g i j)):=by
 intro pins s σ H x y v u Q I rx ry h
 obtain ⟨i,j,rfl,rfl,q⟩:=h
 obtain ⟨t,rfl⟩:=rx
 obtain ⟨t',rfl⟩:=ry
 exact rule i j t t' s _ _ ⟨.bl (g i j),H,I,rfl,q⟩
noncomputable def CDiv (i j:Int):Prop:=0<j∧j<1073741824
noncomputable def CMul (i j:Int):Prop:=(-(2 ^ 64)<i∧i<2 ^ 64)∨(-(2 ^ 64)<j∧j<2 ^ 64)
theorem CMul.ok {i j:Int} (h:CMul i j):IntMulOk i j:=by
 rcases h with ⟨h1,h2⟩ | ⟨h1,h2⟩
 ·exact .of_left (intBits_le_64 h1 h2)
 ·exact .of_right (intBits_le_64 h1 h2)
theorem op_add:OpR X (binaryOp .Add) (rI0 fun i j=>.int (i+j)):=opI0 fun _ _ _ _ _ _ _ q=>add_int q
theorem op_sub:OpR X (binaryOp .Sub) (rI0 fun i j=>.int (i - j)):=opI0 fun _ _ _ _ _ _ _ q=>sub_int q
theorem op_mul:OpR X (binaryOp .Mult) (rI CMul fun i j=>.int (i * j)):=opI fun _ _ _ _ _ _ _ hc q=>mul_int q hc.ok
theorem op_fdiv:OpR X (binaryOp .FloorDiv) (rI CDiv fun i j=>.int (i / j)):=opI fun i j _ _ _ _ _ hc q=>by
 have h1:(0:Int)<j:=hc.1
 have h2:j<1073741824:=hc.2
 exact floordiv_int (by lia) (by rw [Int.fdiv_eq_ediv_of_nonneg i (by lia)];exact q) (.inl (PyProof.noPylong_small (by lia)))
theorem op_mod:OpR X (binaryOp .Mod) (rI (fun _ j=>0<j) fun i j=>.int (i % j)):=opI fun i j _ _ _ _ _ hc q=>by
 have h1:(0:Int)<j:=hc
 exact mod_int' (by lia) (by rw [Int.fmod_eq_emod_of_nonneg i (by lia)];exact q)
end
section
variable {X:Cx} {a b c:Expr} {ta tb tc:TE} {pos:Pos}
theorem fin_bl {pins:List (Addr×Obj)} {σ:St} {H:Hp} {s:Shared} {Q:VK} {k k':Bool} (I:Inv X pins σ H s) (q:Q (.bl k) H) (e:k=k'):EP X pins σ Q (.bool k') s:=by
 subst e
 exact ⟨.bl k,H,I,rfl,q⟩
theorem op_lt:OpR X (compareOp .Lt) (rI0 fun i j=>.bl (decide (i<j))):=opB0 fun _ _ _ _ _ _ _ q=>lt_int q
theorem op_gt:OpR X (compareOp .Gt) (rI0 fun i j=>.bl (decide (j<i))):=opB0 fun _ _ _ _ _ _ _ q=>gt_int q
theorem op_isN : OpR X (compareOp .Is) (fun x y H Q => y = .non ∧ Q (.bl (decide (x = .non))) H) := by
  intro pins s σ H x y v u Q I rx ry h
  obtain ⟨rfl, q⟩ := h
  cases ry
  refine is_none_gen (fin_bl I q ?_)
  cases x <;> first
    | (cases rx; rfl)
    | (obtain ⟨t, rfl⟩ := rx; rfl)
theorem pe_cmpR {op:CmpOp} {r:R2} (ho:OpR X (compareOp op) r) (ha:PE X a ta) (hb:PE X b tb) (hm:behindInMarks op b=false):PE X (.Compare a [op] [b] pos) (tOp r ta tb):=by
 intro pins s σ H Q I h
 exact wpAny_Compare1 (binT ha hb I h fun v u s2 x y H2 I2 rx ry q=>ho pins s2 σ H2 x y v u Q I2 rx ry q) hm
noncomputable def tTest (t:TE):TT:=fun σ H Q=>t σ H fun x H'=>∃ k,x=.bl k∧Q k H'
theorem pt_cmpR {op:CmpOp} {r:R2} (ho:OpR X (compareOp op) r) (ha:PE X a ta) (hb:PE X b tb) (hm:behindInMarks op b=false):PT X (.Compare a [op] [b] pos) (tTest (tOp r ta tb)):=by
 intro pins s σ H Q I h
 refine wpAny_isTrue_Compare1 (thn (ha pins s σ H _ I h) fun v s1 ⟨x,H1,I1,r1,q1⟩=>thn (hb pins s1 σ H1 _ I1 q1) fun u s2 ⟨y,H2,I2,r2,q2⟩=>
  thn (ho pins s2 σ H2 x y v u _ I2 r1 r2 q2) fun c s3 ⟨z,H3,I3,r3,k,e,q3⟩=>?_) hm
 subst e
 cases r3
 exact wpAny_truthy_bool ⟨H3,I3,q3⟩
noncomputable def TruV (K:PySem.W.Frag) (x:V) (H:Hp) (k:Bool):Prop:=
 match x with
 | .non=>k=false
 | .bl b=>k=b
 | .int i=>k=(i != 0)
 | .str y=>y.length≤sizeLine∧k=((y.length:Int) != 0)
 | .byt y=>y.size≤sizeLine∧k=((y.size:Int) != 0)
 | .ref p=>(∃ xs,SqL K H p xs∧k=!xs.isEmpty)∨(∃ xs,SqT K H p xs∧k=!xs.isEmpty)∨∃ kvs,H p=some (.dK kvs)∧k=!kvs.isEmpty
 | _=>False
theorem isEmpty_kv {κ:Type} {kvs:List (κ×V)} {vs:List (κ×Value)} (r:KV kvs vs):(!vs.isEmpty)=!kvs.isEmpty:=by
 cases r <;> rfl
theorem isEmpty_of {xs:List V} {its:List Value} (r:Vals xs its):(!its.toArray.isEmpty)=!xs.isEmpty:=by
 cases r <;> simp
theorem line63:(sizeLine:Nat)<2 ^ 63:=by rw [sizeLine_eq];decide
theorem tru_ok:TruR X (fun x H Q=>∃ k,TruV X.K x H k∧Q k H):=by
 intro pins s σ H x v Q I rx h
 obtain ⟨k,e,q⟩:=h
 have hl:=line63
 have hs:sizeLine=16777216:=sizeLine_eq
 cases x with
 | non=>
  cases rx
  have e':k=false:=e
  subst e'
  exact truthy_none ⟨H,I,q⟩
 | bl b=>
  cases rx
  have e':k=b:=e
  subst e'
  exact wpAny_truthy_bool ⟨H,I,q⟩
 | int i=>
  obtain ⟨t,rfl⟩:=rx
  have e':k=(i != 0):=e
  subst e'
  exact PySem.P.truthy_int ⟨H,I,q⟩
 | str y=>
  obtain ⟨t,rfl⟩:=rx
  obtain ⟨hy,e'⟩:y.length≤sizeLine∧k=((y.length:Int) != 0):=e
  subst e'
  exact PySem.P.truthy_str (by lia) ⟨H,I.tok _,q⟩
 | byt y=>
  obtain ⟨t,rfl⟩:=rx
  obtain ⟨hy,e'⟩:y.size≤sizeLine∧k=((y.size:Int) != 0):=e
  subst e'
  exact PySem.W.truthy_bytes (by lia) ⟨H,I.tok _,q⟩
 | ref p=>
  cases rx
  have e':(∃ xs,SqL X.K H p xs∧k=!xs.isEmpty)∨(∃ xs,SqT X.K H p xs∧k=!xs.isEmpty)∨∃ kvs,H p=some (.dK kvs)∧k=!kvs.isEmpty:=e
  rcases e' with ⟨xs,hx,e'⟩ | ⟨xs,hx,e'⟩ | ⟨kvs,hx,e'⟩
  ·subst e'
   obtain ⟨its,r,pl,hz⟩:=I.list hx
   have hlen:=r.length
   exact wpAny_truthy_list pl.isList (by simp only [List.size_toArray];lia) ⟨H,I.tok _,by rw [isEmpty_of r];exact q⟩
  ·subst e'
   obtain ⟨its,r,pl,hz⟩:=I.tuple hx
   have hlen:=r.length
   exact truthy_tuple pl (by simp only [List.size_toArray];lia) ⟨H,I.tok _,by rw [isEmpty_of r];exact q⟩
  ·subst e'
   obtain ⟨hz,hS,vs,r,m⟩:kvs.length≤sizeLine∧(p==sysModules)=false∧∃ vs,KV kvs vs∧s.heap.DictOf (mixKind X.prog X.w) p vs:=I.hok p _ hx
   have hlen:kvs.length=vs.length:=Paired.length r
   exact wpAny_truthy_dict hS m (by lia) ⟨H,I.tok _,by rw [isEmpty_kv r];exact q⟩
 | _=>exact (show False from e).elim
theorem pt_truth (ha:PE X a ta) (he:∀ whole,isTrue a X.env whole=(do let v ← whole;standAt a.pos;holding [v] (truthy v))):
  PT X a (fun σ H Q=>ta σ H fun x H'=>∃ k,TruV X.K x H' k∧Q k H'):=by
 intro pins s σ H Q I h
 exact isTrue_plain (thn (ha pins s σ H _ I h) fun v s1 ⟨x,H1,I1,r1,q1⟩=>tru_ok pins s1 σ H1 x v Q I1 r1 q1) (he _)
theorem op_add_str:OpR X (binaryOp .Add) (fun x y H Q=>∃ i j,x=.str i∧y=.str j∧i.length+j.length≤sizeLine∧Q (.str (i++j)) H):=by
 intro pins s σ H x y v u Q I rx ry h
 obtain ⟨i,j,rfl,rfl,hz,q⟩:=h
 obtain ⟨t,rfl⟩:=rx
 obtain ⟨t',rfl⟩:=ry
 exact add_str (fun t' tk=>⟨.str (i++j),H,I.tok _,⟨_,rfl⟩,q⟩) hz
theorem vals1 {x:V} {us:List Value} (r:Vals [x] us):∃ u,us=[u]∧RelV x u:=by
 cases r with
 | cons r1 r2=>cases r2;exact ⟨_,rfl,r1⟩
theorem vals2 {x y:V} {us:List Value} (r:Vals [x,y] us):∃ u w',us=[u,w']∧RelV x u∧RelV y w':=by
 cases r with
 | cons r1 r2=>
  cases r2 with
  | cons r3 r4=>cases r4;exact ⟨_,_,rfl,r1,r3⟩
theorem call_int1:CallR X (.type "int") (fun xs H Q=>(∃ i,xs=[.int i]∧Q (.int i) H)∨∃ k,xs=[.bl k]∧Q (.int (if k then 1 else 0)) H):=by
 intro pins s σ H xs us Q I r h
 rcases h with ⟨i,rfl,q⟩ | ⟨k,rfl,q⟩
 ·obtain ⟨u,rfl,t,rfl⟩:=vals1 r
  exact call_int_int ⟨.int i,H,I,⟨_,rfl⟩,q⟩
 ·obtain ⟨u,rfl,r1⟩:=vals1 r
  cases r1
  exact call_int_bool ⟨.int (if k then 1 else 0),H,I.tok _,⟨_,rfl⟩,q⟩
end
end L2
namespace L2
open PySem PySem.Spec PyProof.Rows
section
variable {prog:Program} {w:World} {A:Around} {E:Value→Shared→Prop} {s:Shared} {K:PySem.W.Frag} {x dx C f:Addr} {mA:Str→Option Value} {name:Str} {v:Value}
end
theorem RelO.some_of {v:V} {o:Option Value} (r:RelO (some v) o):∃ u,o=some u∧RelV v u:=by
 cases o with
 | none=>exact (show False from r).elim
 | some u=>exact ⟨u,rfl,r⟩
section
variable {P:Program} {w:World} {H H':Hp} {h h':Heap} {a C dx:Addr} {fs fs':List (Str×V)}
end
section
variable {X:Cx} {pins:List (Addr×Obj)} {σ:St} {H:Hp} {s:Shared} {a C dx:Addr} {fs:List (Str×V)} {f:Str} {v:V} {A:Around} {E:Value→Shared→Prop}
end
section
variable {X:Cx} {o e value:Expr} {f:Str} {pos pos' tpos:Pos} {ta tv:TE}
end
section
variable {X:Cx} {pins:List (Addr×Obj)} {σ:St} {H:Hp} {s:Shared} {A:Around} {E:Value→Shared→Prop} {Q:Value→Shared→Prop} {c:Value} {b:Bool}
end
end L2
namespace L2
open PySem PySem.Spec PyProof.Rows
structure Room (k:Nat) (A:Around):Prop where
 hd:A.handled=none
 dp:A.depth+3 * k+5<recursionLimit
 un:A.units+16 * k+200<cLine
theorem Room.mono {j k:Nat} {A:Around} (r:Room k A) (h:j≤k):Room j A:=⟨r.hd,by have:=r.dp;lia,by have:=r.un;lia⟩
theorem Room.deeper {k:Nat} {A:Around} (r:Room (k+1) A) (env:Env):Room k (A.deeper env):=
 ⟨r.hd,by have:=r.dp;show A.depth+1+3 * k+5<_;lia,by have:=r.un;show A.units+3+16 * k+200<_;lia⟩
theorem Room.in1 {k:Nat} {A:Around} (r:Room (k+1) A):Room k A.in1:=
 ⟨r.hd,by have:=r.dp;show A.depth+3 * k+5<_;lia,by have:=r.un;show A.units+1+16 * k+200<_;lia⟩
theorem Room.depth {k:Nat} {A:Around} (r:Room k A):A.depth<recursionLimit:=by have:=r.dp;lia
noncomputable def tNil:TA:=fun _ H Q=>Q [] H
noncomputable def tCons (ta:TE) (tr:TA):TA:=fun σ H Q=>ta σ H fun x H1=>tr σ H1 fun xs H2=>Q (x::xs) H2
section
variable {X:Cx} {e:Expr} {es:List Expr} {te:TE} {t:TA} {pos:Pos}
theorem pa_nil:PA X [] tNil:=fun _ _ _ _ H Q I h=>Calls.spliced_nil ⟨[],H,I,.nil,h⟩
theorem pa_cons (ha:PE X e te) (hr:PA X es t) (hs:starEach (e::es) X.env=(false,eval e X.env)::starEach es X.env:=by rfl):PA X (e::es) (tCons te t):=by
 intro pos pins s σ H Q I h
 rw [hs]
 show wpAny _ _ (spliced ((false,eval e X.env)::backTo pos (starEach es X.env))) _ _ s
 refine Calls.spliced_cons (thn (ha pins s σ H _ I h) fun u s1 ⟨x,H1,I1,r1,q1⟩=>?_)
 exact thn (hr pos pins s1 σ H1 _ I1 q1) fun us s2 ⟨xs,H2,I2,r2,q2⟩=>⟨x::xs,H2,I2,.cons r1 r2,q2⟩
noncomputable def tTup (t:TA):TE:=fun σ H Q=>t σ H fun xs H1=>xs.length≤sizeLine∧∀ p,H1 p=none→Q (.ref p) (upd H1 p (.tup xs))
noncomputable def tLst (t:TA):TE:=fun σ H Q=>t σ H fun xs H1=>xs.length≤sizeLine∧∀ p,H1 p=none→Q (.ref p) (upd H1 p (.lst xs))
theorem pe_tup {x1} (h:PA X es t):PE X (.Tuple es x1 pos) (tTup t):=by
 intro pins s σ H Q I hq
 refine wpAny_Tuple_spliced (thn (h pos pins s σ H _ I hq) fun us s1 ⟨xs,H1,I1,r,z,q⟩=>⟨by rw [← r.length];exact z,?_⟩)
 have hf:H1 s1.heap.objs.size=none:=I1.hok.fresh (Nat.le_refl _)
 refine ⟨.ref s1.heap.objs.size,upd H1 s1.heap.objs.size (.tup xs),I1.laid (t':=s1.toks) (fun b u e=>Heap.get?_push_of_some _ e) (Nat.le_refl _) ?_,rfl,q _ hf⟩
 exact ⟨z,us,r,⟨_,Heap.get?_push_size _ rfl,rfl,_,rfl⟩⟩
theorem pe_lst (h:PA X es t):PE X (.List es pos) (tLst t):=by
 intro pins s σ H Q I hq
 refine wpAny_List_spliced (thn (h pos pins s σ H _ I hq) fun us s1 ⟨xs,H1,I1,r,z,q⟩=>⟨by rw [← r.length];exact z,?_⟩)
 have hf:H1 s1.heap.objs.size=none:=I1.hok.fresh (Nat.le_refl _)
 refine ⟨.ref s1.heap.objs.size,upd H1 s1.heap.objs.size (.lst xs),I1.laid (t':=s1.toks) (fun b u e=>Heap.get?_push_of_some _ e) (Nat.le_refl _) ?_,rfl,q _ hf⟩
 exact ⟨z,us,0,r,Heap.get?_push_size _ rfl⟩
end
noncomputable abbrev Sp:=List V→Hp→VK→XK→Prop
noncomputable abbrev CXT:=List Env→Hp→Shared→XK→Value→Shared→Prop
structure Env0 (P:Program) (w:World) (K:PySem.W.Frag) (mg:Str→Option Value) (base:Heap) (A:Around) (outer:List Env) (s:Shared) (H:Hp):Prop where
 frames:A.frames=some outer
 mod:Mod K mg base
 bs:∀ b o,base.get? b=some o→s.heap.get? b=some o∧H b=none
 bsz:base.objs.size≤s.heap.objs.size
 funs:s.heap.FunFrames base outer
 frf:∀ b∈frs outer,H b=none
 hok:HOk P w H s.heap
 bare:AllBare s.gens
noncomputable def CE (outer:List Env) (P:Program) (w:World) (H:Hp) (s:Shared) (Q:VK) (u:Value) (s':Shared):Prop:=
 ∃ v H',s'.os=s.os∧AllBare s'.gens∧Un (frs outer) [] H H' s.heap s'.heap∧HOk P w H' s'.heap∧RelV v u∧Q v H'
noncomputable def CR (CX:CXT) (outer:List Env) (P:Program) (w:World) (H:Hp) (s:Shared) (Q:VK) (E:XK) (r:Result) (s':Shared):Prop:=
 match r with
 | .ok (.ret u)=>CE outer P w H s Q u s'
 | .ok _=>False
 | .error e=>CX outer H s E e s'
structure FnOk (P:Program) (w:World) (K:PySem.W.Frag) (mg:Str→Option Value) (base:Heap) (CX:CXT) (k:Nat) (f:Addr) (fd:FuncData) (ps:List Str) (sp:Sp):Prop where
 len:∀ vs H Q E,sp vs H Q E→vs.length=ps.length
 run:∀ (A:Around) (outer:List Env) (s:Shared) (H:Hp) (args:Args) (us:List Value) (vs:List V) (Q:VK) (E:XK),Room k A→Env0 P w K mg base A outer s H→BindsTo s fd args (ps.zip us)→Vals vs us→sp vs H Q E→
  codeAny (model P w) A (.call (.ref f) args) (CR CX outer P w H s Q E) s
theorem FnOk.mono {P:Program} {w:World} {K:PySem.W.Frag} {mg:Str→Option Value} {base:Heap} {CX:CXT} {j k:Nat} {f:Addr} {fd:FuncData} {ps:List Str} {sp:Sp} (F:FnOk P w K mg base CX j f fd ps sp) (h:j≤k):
  FnOk P w K mg base CX k f fd ps sp:=⟨F.len,fun A outer s H args us vs Q E hr=>F.run A outer s H args us vs Q E (hr.mono h)⟩
section
variable {X:Cx} {pins:List (Addr×Obj)} {σ:St} {H:Hp} {s s':Shared}
theorem Inv.env0 (I:Inv X pins σ H s):Env0 X.prog X.w X.K X.mg X.base X.A X.stack s H:=
 ⟨I.ok.frames,I.ok.mod,I.bs,Nat.le_trans I.ok.bsz I.sz,I.stack,I.stkFree,I.hok,I.bare⟩
theorem Inv.after {Q:VK} {u:Value} (I:Inv X pins σ H s) (h:CE X.stack X.prog X.w H s Q u s'):EP X pins σ Q u s':=by
 obtain ⟨v,H',os,bare,un,hok,r,q⟩:=h
 obtain ⟨hh,g,d,t,os'⟩:=s'
 obtain rfl:os'=s.os:=os
 exact ⟨v,H',I.call (h':=hh) (g':=g) (d':=d) (t':=t) (ch:=[]) un hok bare (fun b z=>absurd z (by simp)),r,q⟩
end
noncomputable def tCall (sp:Sp) (dvs:List V) (E:XK) (t:TA):TE:=fun σ H Q=>t σ H fun vs H1=>sp (vs++dvs) H1 Q E
noncomputable def Binds (K:PySem.W.Frag) (fd:FuncData) (ps:List Str) (ds:List Value):Prop:=
 ∀ (s:Shared) (us:List Value),K.In s.heap→(us++ds).length=ps.length→BindsTo s fd ⟨us,[]⟩ (ps.zip (us++ds))
theorem Binds.all {K:PySem.W.Frag} {fd:FuncData} {ps:List Str} (h:∀ us:List Value,us.length=ps.length→bindArgs fd ⟨us,[]⟩=pure (ps.zip us)):Binds K fd ps []:=fun s us _ hl=>by
 rw [List.append_nil] at hl ⊢
 exact .of_eq (h us hl)
noncomputable def Passes (CX:CXT) (X:Cx) (E:XK):Prop:=∀ (pins:List (Addr×Obj)) (σ:St) (H:Hp) (s:Shared) (e:Value) (s':Shared),Inv X pins σ H s→CX X.stack H s E e s'→X.xe e s'
section
variable {X:Cx} {CX:CXT} {k:Nat} {f C:Addr} {fd:FuncData} {ps:List Str} {sp:Sp} {dvs:List V} {ds:List Value} {E:XK} {x m:Str} {p pos apos:Pos} {e o:Expr} {es:List Expr} {ta:TE} {t:TA}
theorem run_fn {pins:List (Addr×Obj)} {σ:St} {H:Hp} {s:Shared} {Q:VK} {us:List Value} {vs:List V} (F:FnOk X.prog X.w X.K X.mg X.base CX k f fd ps sp) (hr:Room k X.A) (hb:Binds X.K fd ps ds) (hd:Vals dvs ds) (hx:Passes CX X E)
  (I:Inv X pins σ H s) (r:Vals vs us) (h:sp (vs++dvs) H Q E):wpAny (model X.prog X.w) X.A (call (.ref f) us) (EP X pins σ Q) X.xe s:=by
 have r2:Vals (vs++dvs) (us++ds):=r.append hd
 have hl:(us++ds).length=ps.length:=by rw [← r2.length];exact F.len _ _ _ _ h
 refine wpAny_call (codeAny_mono (F.run X.A X.stack s H ⟨us,[]⟩ (us++ds) (vs++dvs) Q E hr I.env0 (hb s us I.kIn hl) r2 h) fun r s' hq=>?_)
 cases r with
 | error e=>exact hx pins σ H s e s' I hq
 | ok fl=>
  cases fl with
  | ret u=>exact I.after hq
  | next=>exact False.elim hq
  | brk=>exact False.elim hq
  | cont=>exact False.elim hq
theorem pe_call (F:FnOk X.prog X.w X.K X.mg X.base CX k f fd ps sp) (hr:Room k X.A) (hg:Gl X x) (hm:X.mg x=some (.ref f)) (hk:PySem.W.keepIn X.K (.ref f)=true) (hb:Binds X.K fd ps ds) (hd:Vals dvs ds) (hx:Passes CX X E)
  (ha:PA X (e::es) t) (hdb:(x==("__debug__":Str))=false:=by decide) (he:starEach (e::es) X.env=(false,eval e X.env)::starEach es X.env:=by rfl) (hpl:(backTo pos (starEach es X.env)).any (·.1)=false:=by rfl):
  PE X (.Call (.Name x p) (e::es) [] pos) (tCall sp dvs E t):=by
 intro pins s σ H Q I h
 refine wpAny_Call_Name_kw (ld_glob I hg hm ?_ hdb)
 refine PySem.W.callWith_K (h₀:=X.base) I.ok.mod.kin hk (thn (ha pos pins s σ H _ I h) fun us s1 ⟨vs,H1,I1,r,q⟩=>⟨I1.kIn,?_⟩) he hpl
 exact run_fn F hr hb hd hx I1 r q
end
section
variable {X:Cx} {CX:CXT} {k:Nat} {f C:Addr} {fd:FuncData} {ps ks:List Str} {sp:Sp} {E:XK} {x m:Str} {p pos apos kpos:Pos} {e o:Expr} {es:List Expr} {kws:List Keyword} {te ta:TE} {t tk:TA} {nm:Option Str}
variable {g:List Value→List Value→List Value} {gV:List V→List V→List V}
end
structure FnScope (N P:List Str) (sc:Scope):Prop where
 kind:sc.kind=.function
 co:sc.isCoroutine=false
 gen:sc.isGenerator=false
 nd:N.Nodup
 pre:N.take P.length=P
 par:∀ x∈P,sc.names.lookup x=some .local∨sc.names.lookup x=some .cell
 nofree:∀ y∈sc.names,y.2≠.free
theorem bindL_out {kindOf:Str→Option NameKind} {x:Str}:∀ {binds:List (Str×Value)} {m:Str→Option Value},(∀ v,(x,v)∉binds)→bindL kindOf binds m x=m x
 | [],_,_=>rfl
 | (n,v)::r,m,h=>by
  unfold bindL
  rw [bindL_out fun w hw=>h w (List.mem_cons_of_mem _ hw)]
  split
  ·have:x≠n:=by rintro rfl;exact h v List.mem_cons_self
   simp [this]
  ·rfl
theorem bindC_out {kindOf:Str→Option NameKind} {x:Str}:∀ {binds:List (Str×Value)} {m:Str→Option Value},(∀ v,(x,v)∉binds)→bindC kindOf binds m x=m x
 | [],_,_=>rfl
 | (n,v)::r,m,h=>by
  unfold bindC
  rw [bindC_out fun w hw=>h w (List.mem_cons_of_mem _ hw)]
  split
  ·rfl
  ·have:x≠n:=by rintro rfl;exact h v List.mem_cons_self
   simp [this]
theorem bindL_get {kindOf:Str→Option NameKind} {x:Str} {v:Value}:∀ {P:List Str} {vs:List Value} {i:Nat} {m:Str→Option Value},P.Nodup→P[i]?=some x→vs[i]?=some v→kindOf x=some .local→
  bindL kindOf (P.zip vs) m x=some v
 | [],_,_,_,_,h,_,_=>by simp at h
 | _::_,[],_,_,_,_,h,_=>by simp at h
 | p::P,w::vs,0,m,nd,h1,h2,hk=>by
  simp at h1 h2;subst h1;subst h2
  show bindL kindOf ((p,w)::P.zip vs) m p=_
  unfold bindL
  rw [bindL_out fun v hv=>(List.nodup_cons.mp nd).1 (List.of_mem_zip hv).1,if_pos hk]
  simp
 | p::P,w::vs,i+1,m,nd,h1,h2,hk=>by
  show bindL kindOf ((p,w)::P.zip vs) m x=_
  unfold bindL
  exact bindL_get (i:=i) (List.nodup_cons.mp nd).2 (by simpa using h1) (by simpa using h2) hk
theorem bindC_get {kindOf:Str→Option NameKind} {x:Str} {v:Value}:∀ {P:List Str} {vs:List Value} {i:Nat} {m:Str→Option Value},P.Nodup→P[i]?=some x→vs[i]?=some v→kindOf x≠some .local→
  bindC kindOf (P.zip vs) m x=some v
 | [],_,_,_,_,h,_,_=>by simp at h
 | _::_,[],_,_,_,_,h,_=>by simp at h
 | p::P,w::vs,0,m,nd,h1,h2,hk=>by
  simp at h1 h2;subst h1;subst h2
  show bindC kindOf ((p,w)::P.zip vs) m p=_
  unfold bindC
  rw [bindC_out fun v hv=>(List.nodup_cons.mp nd).1 (List.of_mem_zip hv).1,if_neg hk]
  simp
 | p::P,w::vs,i+1,m,nd,h1,h2,hk=>by
  show bindC kindOf ((p,w)::P.zip vs) m x=_
  unfold bindC
  exact bindC_get (i:=i) (List.nodup_cons.mp nd).2 (by simpa using h1) (by simpa using h2) hk
noncomputable def start (N:List Str) (vs:List V):St:=vs.map some++List.replicate (N.length - vs.length) none
noncomputable def cxOf (CX:CXT) (P:Program) (w:World) (K:PySem.W.Frag) (mg:Str→Option Value) (base:Heap) (N:List Str) (qual:Str) (scope:Scope) (f:Addr) (cd:Value) (A:Around) (outer:List Env) (s:Shared) (H:Hp) (E:XK):Cx where
 prog:=P
 w:=w
 K:=K
 mg:=mg
 base:=base
 A:=A.deeper (envOfC qual scope s.heap.objs.size f cd)
 N:=N
 s₀:=s
 H₀:=H
 env:=envOfC qual scope s.heap.objs.size f cd
 outer:=outer
 stack:=envOfC qual scope s.heap.objs.size f cd::outer
 ex:=[]
 calm:=true
 fn:=fun _=>true
 pn:=[]
 xe:=fun e s'=>wpAny (model P w) (A.deeper (envOfC qual scope s.heap.objs.size f cd)) (leaving (envOfC qual scope s.heap.objs.size f cd) e) (fun _ s''=>CX outer H s E e s'') (fun e' s''=>CX outer H s E e' s'') s'
theorem cell_has {sc:Scope} {n:Nat} {x:Str} (h:sc.names.lookup x=some .cell):∃ c,(cellsFrom n sc.names []).lookup x=some c:=by
 have q:=PySem.W.cellsFrom_some sc.names n [] (.inl h)
 exact Option.isSome_iff_exists.mp q
theorem inv_start {CX:CXT} {P:Program} {w:World} {K:PySem.W.Frag} {mg:Str→Option Value} {base:Heap} {N ps:List Str} {qual:Str} {scope:Scope} {f:Addr} {cd:Value} {A:Around} {outer:List Env} {s s1:Shared} {H:Hp} {E:XK} {us:List Value} {vs:List V}
  (S:FnScope N ps scope) (hd:A.handled=none) (e0:Env0 P w K mg base A outer s H) (hl:vs.length=ps.length) (r:Vals vs us)
  (x:InCallC s s.heap.objs.size (bindL (envOfC qual scope s.heap.objs.size f cd).kindOf (ps.zip us) fun _=>none) (cellsFrom (s.heap.objs.size+1) scope.names []) (bindC (envOfC qual scope s.heap.objs.size f cd).kindOf (ps.zip us) fun _=>none) s1):
  Inv (cxOf CX P w K mg base N qual scope f cd A outer s H E) [] (start N vs) H s1:=by
 have hpl:ps.length≤N.length:=by have:=congrArg List.length S.pre;rw [List.length_take] at this;lia
 obtain ⟨h1,tk,rfl,hk⟩:=x.done
 have noA:∀ b:Addr,b∉(cxOf CX P w K mg base N qual scope f cd A outer s H E).ex:=fun b z=>absurd (show b∈([]:List Addr) from z) (by simp)
 refine ⟨⟨e0.mod,S.kind,rfl,rfl,Nat.le_refl _,fun y z c h1 h2=>?_,fun y hy=>?_,fun y c _ h=>?_,fun _=>hd,Around.frames_deeper e0.frames,.inr ⟨rfl,rfl⟩,fun b z=>absurd z (noA b),e0.bs,e0.bsz,fun b _ _=>noA b,fun b z=>absurd z (noA b),e0.funs,e0.frf⟩,
  rfl,e0.bare,Un.kept hk,⟨_,x.toInCall.ns,fun i y v h1 h2 h3=>?_⟩,fun y c h=>⟨_,x.cell y c h⟩,e0.hok.fresh (Nat.le_refl _),fun y c h=>?_,fun p hp=>absurd (show p∈([]:List (Addr×Obj)) from hp) (by simp),e0.hok.kept hk,?_⟩
 ·exact name_of_addr x.apart (PySem.mem_of_lookup h1) (PySem.mem_of_lookup h2)
 ·have hy:scope.names.lookup y=some .cell∨scope.names.lookup y=some .free:=hy
  rcases hy with hy | hy
  ·exact cell_has hy
  ·exact absurd rfl (S.nofree _ (PySem.mem_of_lookup hy))
 ·exact Nat.le_of_lt (x.above y c (PySem.mem_of_lookup h))
 ·have hi:i<vs.length:=by
   unfold start at h2
   by_cases hi:i<vs.length
   ·exact hi
   ·rw [List.getElem?_append_right (by simpa using hi)] at h2
    rw [List.getElem?_replicate] at h2
    split at h2 <;> cases h2
  have ha:vs[i]?=some v:=by
   unfold start at h2
   rw [List.getElem?_append_left (by simpa using hi),List.getElem?_map] at h2
   cases e:vs[i]? with
   | none=>rw [e] at h2;cases h2
   | some a=>rw [e] at h2;cases h2;rfl
  obtain ⟨u,hu,rv⟩:=r.get ha
  have hp:ps[i]?=some y:=by
   rw [← S.pre,List.getElem?_take_of_lt (by lia)];exact h1
  have ndP:ps.Nodup:=by rw [← S.pre];exact S.nd.sublist (List.take_sublist _ _)
  refine ⟨u,rv,?_⟩
  rcases S.par y (List.mem_of_getElem? hp) with k | k
  ·exact .inl ⟨k,bindL_get ndP hp hu k⟩
  ·obtain ⟨c,e⟩:=cell_has (n:=s.heap.objs.size+1) k
   refine .inr ⟨.inl k,c,e,?_⟩
   have q:=x.cell y c e
   rw [bindC_get ndP hp hu (by show scope.names.lookup y≠_;rw [k];decide)] at q
   exact q
 ·exact e0.hok.fresh (Nat.le_of_lt (x.above y c (PySem.mem_of_lookup h)))
 ·unfold start
  show _=N.length
  rw [List.length_append,List.length_map,List.length_replicate]
  lia
theorem fn_of {CX:CXT} {P:Program} {w:World} {K:PySem.W.Frag} {mg:Str→Option Value} {base:Heap} {k:Nat} {f:Addr} {name qual:Str} {params:Arguments} {body:List Stmt} {scope:Scope} {dV kV doc pm cdv ct oc:Value} {an od:Option Addr}
  {osl:Array (Option Value)} {N ps:List Str} {sp:Sp} (lk:K.lookup f=some ⟨oc,od,.func (PySem.W.fnOf name qual params body scope dV kV doc pm an cdv ct),osl⟩) (hcd:PySem.W.codeIn K cdv qual=true) (S:FnScope N ps scope)
  (len:∀ vs H Q E,sp vs H Q E→vs.length=ps.length)
  (hbody:∀ (A:Around) (outer:List Env) (s:Shared) (H:Hp) (vs:List V) (Q:VK) (E:XK),Room k (A.deeper (envOfC qual scope s.heap.objs.size f cdv))→sp vs H Q E→
   ∃ t,PSs (cxOf CX P w K mg base N qual scope f cdv A outer s H E) body t∧t {nx:=fun _ H'=>Q .non H',rt:=Q} (start N vs) H):
  FnOk P w K mg base CX (k+1) f (PySem.W.fnOf name qual params body scope dV kV doc pm an cdv ct) ps sp:=by
 refine ⟨len,fun A outer s H args us vs Q E hr e0 hb r hsp=>?_⟩
 have hl:=len _ _ _ _ hsp
 have KX:K.In s.heap:=e0.mod.kin.keeps fun b o e=>(e0.bs b o e).1
 have lim:s.heap.NoLimit:=e0.mod.nolimit.keeps fun b o e=>(e0.bs b o e).1
 have hkind:∀ y∈ps.zip us,scope.names.lookup y.1=some .local∨(scope.names.lookup y.1=some .cell∧((cellsFrom (s.heap.objs.size+1) scope.names []).lookup y.1).isSome=true):=fun ⟨n,v⟩ hy=>by
  rcases S.par n (List.of_mem_zip hy).1 with q | q
  ·exact .inl q
  ·exact .inr ⟨q,PySem.W.cellsFrom_some _ _ _ (.inl q)⟩
 refine codeAny_call_function hr.depth (KX _ _ lk) rfl S.co S.gen rfl (PySem.W.codeRec_of KX hcd) (hb _ _ _ _ ?_)
 refine wpAny_newFunctionEnv_cells S.kind hkind fun env he s1 x=>?_
 subst he
 refine ⟨lim.keeps x.toInCall.keep,codeAny_func ?_⟩
 obtain ⟨t,ht,hq⟩:=hbody A outer s H vs Q E (hr.deeper _) hsp
 have I:Inv (cxOf CX P w K mg base N qual scope f cdv A outer s H E) [] (start N vs) H s1:=inv_start S hr.hd e0 hl r x
 refine wpAny_mono (ht [] s1 (start N vs) H _ I hq) (fun fl s' hs=>?_) fun e s' hs=>hs
 have fin:∀ {σ':St} {H':Hp} {v:V} {u:Value},Inv (cxOf CX P w K mg base N qual scope f cdv A outer s H E) [] σ' H' s'→RelV v u→Q v H'→CE outer P w H s Q u s':=
  fun {σ' H' v u} J rv q=>⟨v,H',J.os,J.bare,J.base,J.hok,rv,q⟩
 cases fl with
 | ret u=>
  obtain ⟨v,σ',H',J,rv,q⟩:=hs
  exact fin J rv q
 | next=>
  obtain ⟨σ',H',J,q⟩:=hs
  exact fin (v:=V.non) (u:=Value.none) J rfl q
 | brk=>
  obtain ⟨_,_,_,q⟩:=hs
  exact False.elim q
 | cont=>
  obtain ⟨_,_,_,q⟩:=hs
  exact False.elim q
end L2
namespace L2
open PySem PySem.Spec PyProof.Rows
section
variable {X:Cx} {x:Str} {p pos:Pos} {e:Expr} {es:List Expr} {t:TA} {id T:String} {r:List V→Hp→VK→Prop}
noncomputable def tCB (r:List V→Hp→VK→Prop) (t:TA):TE:=fun σ H Q=>t σ H fun vs H1=>r vs H1 Q
theorem pe_callB (hc:CallR X (.builtin id) r) (hg:Gl X x) (hm:X.mg x=none) (hv:bootBuiltins x=some (.builtin id)) (ha:PA X (e::es) t) (hn:x≠"__name__":=by decide) (hdb:(x==("__debug__":Str))=false:=by decide)
  (he:starEach (e::es) X.env=(false,eval e X.env)::starEach es X.env:=by rfl) (hpl:(backTo pos (starEach es X.env)).any (·.1)=false:=by rfl):PE X (.Call (.Name x p) (e::es) [] pos) (tCB r t):=by
 intro pins s σ H Q I h
 refine wpAny_Call_Name_kw (ld_blt I hg hm hv ?_ hn hdb)
 exact PyProof.Rows.callWith_builtin1 (thn (ha pos pins s σ H _ I h) fun us s1 ⟨vs,H1,I1,r1,q1⟩=>hc pins s1 σ H1 vs us Q I1 r1 q1) he hpl
theorem pe_callTy (hc:CallR X (.type T) r) (hg:Gl X x) (hm:X.mg x=none) (hv:bootBuiltins x=some (.type T)) (ha:PA X (e::es) t) (hn:x≠"__name__":=by decide) (hdb:(x==("__debug__":Str))=false:=by decide)
  (he:starEach (e::es) X.env=(false,eval e X.env)::starEach es X.env:=by rfl) (hpl:(backTo pos (starEach es X.env)).any (·.1)=false:=by rfl):PE X (.Call (.Name x p) (e::es) [] pos) (tCB r t):=by
 intro pins s σ H Q I h
 refine wpAny_Call_Name_kw (ld_blt I hg hm hv ?_ hn hdb)
 exact PyProof.Rows.callWith_type1 (thn (ha pos pins s σ H _ I h) fun us s1 ⟨vs,H1,I1,r1,q1⟩=>hc pins s1 σ H1 vs us Q I1 r1 q1) he hpl
end
end L2
namespace HT
open PySem PyProof.Rows
noncomputable def lexLt:List Int→List Int→Bool
 | [],[]=>false
 | [],_::_=>true
 | _::_,[]=>false
 | x::xs,y::ys=>if x=y then lexLt xs ys else decide (x<y)
theorem lexLt_cons (x y:Int) (xs ys:List Int):lexLt (x::xs) (y::ys)=if x=y then lexLt xs ys else decide (x<y):=rfl
theorem lexLt_nil_nil:lexLt [] []=false:=rfl
theorem lexLt_nil_cons (y:Int) (ys:List Int):lexLt [] (y::ys)=true:=rfl
theorem lexLt_cons_nil (x:Int) (xs:List Int):lexLt (x::xs) []=false:=rfl
theorem eqAt_int (A:Around) (s:Shared) (a:Int) (t:Tok) (c:Int) (u:Tok):∃ e,SeqAt.EqAt A s (.int a t) (.int c u) e∧(e=true↔a=c):=
 ⟨(a==c),SeqAt.EqAt.int_int a t c u,by simp⟩
theorem rcLt_int (A:Around) (s:Shared) (a:Int) (t:Tok) (c:Int) (u:Tok) (prog:Program) (w:World) (E:Value→Shared→Prop) (Q:Value→Shared→Prop) (h:Q (.bool (decide (a<c))) s):
  wpAny (model prog w) A (richCompare .Lt (.int a t) (.int c u)) Q E s:=
 (PyProof.Rows.lt_int h:wpAny (model prog w) A (compareOp .Lt (.int a t) (.int c u)) Q E s)
section
open PySem.SeqAt
open PySem.AutoSeq1 (wpAny_loadPart')
open PySem.MeetsSeq PySem.MeetsSeq2 PySem.MeetsSeq3
theorem tuple_lt_ints (l b:Addr) (items items2:Array Value) (n n2:Nat) (dd dd2:Option Addr) (sl sl2:Array (Option Value)) (ns ms:List Int) (hi:IntsAre items.toList ns) (hj:IntsAre items2.toList ms):
  Meets (Builtin.«tuple.__lt__» ⟨[.ref l,.ref b],[]⟩)
   (fun _ R s=>s.heap.get? l=some {cls:=.type "tuple",dict:=dd,data:=.seq items n,slots:=sl}∧s.heap.get? b=some {cls:=.type "tuple",dict:=dd2,data:=.seq items2 n2,slots:=sl2}∧
    R (.ok (.ret (.bool (lexLt ns ms)))) s):=
 .of_wp fun prog w A R s h=>by
  obtain ⟨hp,g,d,tk,os⟩:=s;obtain ⟨hl,hb,h⟩:=h
  have f2:=AutoSeq1.sub_tuple_tuple
  have z1:items.size=ns.length:=by rw [← hi.length];simp
  have z2:items2.size=ms.length:=by rw [← hj.length];simp
  wp_walk using wpAny_loadPart' hl,wpAny_loadPart' hb,wpAny_forIn_list _ (fun rest b s'=>b.1=none∧s'=⟨hp,g,d,tk,os⟩∧∃ (vs ws:List Value) (ns' ms':List Int),rest=vs.zip ws∧
   IntsAre vs ns'∧IntsAre ws ms'∧ns'.length+items2.size=ms'.length+items.size∧R (.ok (.ret (.bool (lexLt ns' ms')))) ⟨hp,g,d,tk,os⟩) _
  case turn=>
   rintro ⟨y,x⟩ rest b s' ⟨hb',rfl,vs,ws,ns',ms',hz,hvi,hwi,hlen,hR⟩
   cases hvi with
   | nil=>rw [List.zip_nil_left] at hz;cases hz
   | cons a t hvi'=>
    cases hwi with
    | nil=>rw [List.zip_nil_right] at hz;cases hz
    | cons c u hwi'=>
     rw [List.zip_cons_cons] at hz
     injection hz with hyx hrest
     injection hyx with hy hx
     subst hy hx
     rw [lexLt_cons] at hR
     simp only [List.length_cons] at hlen
     obtain ⟨e,he,hiff⟩:=eqAt_int A.in1 ⟨hp,g,d,tk,os⟩ a t c u
     refine wpAny_bind (he prog w _ _ ?_)
     cases e with
     | true=>
      rw [if_pos (hiff.mp rfl)] at hR
      wp_walk
      exact ⟨rfl,rfl,_,_,_,_,hrest,hvi',hwi',by lia,hR⟩
     | false=>
      rw [if_neg (fun q=>absurd (hiff.mpr q) Bool.false_ne_true)] at hR
      have hri:=rcLt_int A.in1 ⟨hp,g,d,tk,os⟩ a t c u prog w
      wp_walk using hri
      exact ⟨_,rfl,by simpa using hR⟩
  case fin=>
   rintro ⟨b1,b2⟩ s' ⟨hb',rfl,vs,ws,ns',ms',hz,hvi,hwi,hlen,hR⟩
   simp only at hb'
   subst hb'
   have hv:lexLt ns' ms'=decide (items.size<items2.size):=by
    cases hvi with
    | nil=>
     cases hwi with
     | nil=>
      simp only [List.length_nil] at hlen
      rw [lexLt_nil_nil]
      exact (decide_eq_false (by lia)).symm
     | cons c u hw=>
      simp only [List.length_nil,List.length_cons] at hlen
      rw [lexLt_nil_cons]
      exact (decide_eq_true (by lia)).symm
    | cons a t hv=>
     cases hwi with
     | nil=>
      simp only [List.length_nil,List.length_cons] at hlen
      rw [lexLt_cons_nil]
      exact (decide_eq_false (by lia)).symm
     | cons c u hw=>
      rw [List.zip_cons_cons] at hz
      cases hz
   rw [hv] at hR
   wp_walk
   exact ⟨_,rfl,by simpa [Builtin.Tuple.tupleCompareSizes] using hR⟩
  case h=>
   exact ⟨rfl,rfl,items.toList,items2.toList,ns,ms,rfl,hi,hj,by lia,h⟩
end
section
variable {prog:Program} {w:World} {A:Around} {E:Value→Shared→Prop} {s:Shared}
theorem lt_tupInts {l b:Addr} {items items2:Array Value} {ns ms:List Int} {Q:Value→Shared→Prop} (hl:IsTup s.heap l items) (hb:IsTup s.heap b items2) (hi:IntsAre items.toList ns) (hj:IntsAre items2.toList ms)
  (hu:A.units<cLine) (h:Q (.bool (lexLt ns ms)) s):wpAny (model prog w) A (compareOp .Lt (.ref l) (.ref b)) Q E s:=by
 obtain ⟨⟨cls,dd,data,sl⟩,ho,hc,n,hd⟩:=id hl
 obtain ⟨⟨cls2,dd2,data2,sl2⟩,ho2,hc2,n2,hd2⟩:=id hb
 simp only at hc hd hc2 hd2
 subst hc hd hc2 hd2
 exact richCompare_meets_room (op:=.Lt) ⟨_,ho,rfl⟩ ⟨_,ho2,rfl⟩ PySem.F.slot_tuple_lt PySem.F.entry_tuple_lt (PySem.F.args_tuple_lt_2 _ _) (tuple_lt_ints l b items items2 n n2 dd dd2 sl sl2 ns ms hi hj)
  ⟨ho,ho2,show Value.bool (lexLt ns ms)≠Value.notImplemented∧Q (.bool (lexLt ns ms)) s from ⟨(fun x=>nomatch x),h⟩⟩ hu
noncomputable def sIx (n d:Nat):Option Int→Nat
 | none=>d
 | some v=>if v<0 then (v+(n:Int)).toNat else min v.toNat n
theorem sIx_le (n d:Nat) (hd:d≤n) (o:Option Int):sIx n d o≤n:=by
 cases o with
 | none=>exact hd
 | some v=>
  show (if v<0 then (v+(n:Int)).toNat else min v.toNat n)≤n
  by_cases hv:v<0
  ·rw [if_pos hv];lia
  ·rw [if_neg hv];exact Nat.min_le_right _ _
theorem clip_eq (v:Int) (n d:Nat):(if v<0 then max (v+(n:Int)) 0 else min v (n:Int))=((sIx n d (some v):Nat):Int):=by
 show (if v<0 then max (v+(n:Int)) 0 else min v (n:Int))=(((if v<0 then (v+(n:Int)).toNat else min v.toNat n):Nat):Int)
 by_cases hv:v<0
 ·simp only [if_pos hv];lia
 ·simp only [if_neg hv];lia
theorem adjust_gen (lo hi:Option Int) (n:Nat):Builtin.Slice.sliceAdjust lo hi 1 (n:Int)=(((sIx n 0 lo:Nat):Int),((sIx n n hi:Nat):Int)):=by
 have h1:¬ ((1:Int)<0):=by lia
 unfold Builtin.Slice.sliceAdjust
 simp only [h1,if_false]
 refine Prod.ext ?_ ?_
 ·cases lo with
  | none=>rfl
  | some v=>exact clip_eq v n 0
 ·cases hi with
  | none=>rfl
  | some v=>exact clip_eq v n n
theorem places_gen (i j:Nat):Builtin.Slice.slicePlaces (i:Int) (j:Int) 1=j - i:=by
 unfold Builtin.Slice.slicePlaces
 have h1:(1:Int)>0:=by lia
 simp only [h1,if_true,Int.ediv_one]
 split <;> lia
theorem slicePart_ {v:Value} {o:Option Int} {Q:Option Int→Shared→Prop} (p:IsPart v o) (h:Q o s):wpAny (model prog w) A (Builtin.Slice.slicePartIndex v) Q E s:=by
 cases p with
 | none=>exact slicePart_none h
 | int i t=>exact slicePart_int h
theorem sliceApplied_gen {sl:Addr} {vl vu:Value} {lo hi:Option Int} {n:Nat} {Q:Int×Int×Nat→Shared→Prop} (hs:s.heap.IsSliceOf sl vl vu .none) (pl:IsPart vl lo) (pu:IsPart vu hi)
  (h:Q (((sIx n 0 lo:Nat):Int),1,sIx n n hi - sIx n 0 lo) s):wpAny (model prog w) A (Builtin.Slice.sliceApplied (.ref sl) (pure (n:Int))) Q E s:=by
 obtain ⟨os,hos,hcs,hds⟩:=id hs
 unfold Builtin.Slice.sliceApplied Builtin.Slice.sliceFields
 refine wpAny_bind (wpAny_bind (wpAny_field hos hds (x:=vl) rfl (wpAny_bind (wpAny_field hos hds (x:=vu) rfl (wpAny_bind (wpAny_field hos hds (x:=.none) rfl (wpAny_pure ?_)))))))
 refine wpAny_bind (slicePart_none ?_)
 show wpAny _ _ (if ((1:Int)==0)=true then _ else _) _ _ s
 rw [if_neg (by decide)]
 refine wpAny_bind (slicePart_ pl (wpAny_bind (slicePart_ pu (wpAny_bind (wpAny_pure ?_)))))
 show wpAny _ _ (match Builtin.Slice.sliceAdjust lo hi 1 (n:Int) with | (lo,hi)=>pure (lo,(1:Int),Builtin.Slice.slicePlaces lo hi 1)) _ _ s
 rw [adjust_gen lo hi n]
 show wpAny _ _ (pure (((sIx n 0 lo:Nat):Int),(1:Int),Builtin.Slice.slicePlaces ((sIx n 0 lo:Nat):Int) ((sIx n n hi:Nat):Int) 1)) _ _ s
 rw [places_gen]
 exact wpAny_pure h
theorem pick_gen (xs:Array Value) (i k:Nat):((List.range k).filterMap fun (m:Nat)=>xs[((i:Int)+(m:Int) * 1).toNat]?).toArray=((xs.toList.drop i).take k).toArray:=by
 have e:(fun (m:Nat)=>xs[((i:Int)+(m:Int) * 1).toNat]?)=fun m=>xs[i+m]?:=by
  funext m
  have:((i:Int)+(m:Int) * 1).toNat=i+m:=by lia
  rw [this]
 rw [e]
 have:=pick_run xs i k
 rw [List.filterMap_map] at this
 have e2:((fun x=>xs[x]?)∘fun x=>i+x)=fun m=>xs[i+m]?:=rfl
 rw [e2] at this
 rw [this]
theorem getItem_tuple_cut {t sl:Addr} {items:Array Value} {vl vu:Value} {lo hi:Option Int} {Q:Value→Shared→Prop} (ht:IsTup s.heap t items) (hs:s.heap.IsSliceOf sl vl vu .none) (pl:IsPart vl lo) (pu:IsPart vu hi)
  (hw:¬ (sIx items.size 0 lo=0∧sIx items.size items.size hi=items.size))
  (h:Q (.ref s.heap.objs.size) {s with heap:=s.heap.push {cls:=.type "tuple",data:=.seq ((items.toList.drop (sIx items.size 0 lo)).take (sIx items.size items.size hi - sIx items.size 0 lo)).toArray}})
  (hsz:items.size≤sizeLine):wpAny (model prog w) A (getItem (.ref t) (.ref sl)) Q E s:=by
 have htake:sizeOk (.seq ((items.toList.drop (sIx items.size 0 lo)).take (sIx items.size items.size hi - sIx items.size 0 lo)).toArray):=by
  show ((items.toList.drop (sIx items.size 0 lo)).take (sIx items.size items.size hi - sIx items.size 0 lo)).toArray.size≤sizeLine
  rw [List.size_toArray,List.length_take,List.length_drop,Array.length_toList]
  lia
 have hj:sIx items.size items.size hi≤items.size:=sIx_le _ _ (Nat.le_refl _) hi
 obtain ⟨os,hos,hcs,hds⟩:=id hs
 have hTs:s.TypeIs (.ref sl) "slice":=⟨os,hos,hcs⟩
 unfold getItem
 try with_reducible refine wpAny_holding ?_
 first | refine wpAny_bind (wpAny_pure ?_) | skip
 refine wpAny_bind (wpAny_sequenceKey ht.typeIs (by decide) ?_)
 refine wpAny_bind (wpAny_callSpecial?_slot (name:=Str.ofString "__getitem__") ht.typeIs PyProof.Rows.slot_tuple_getitem
  (wpAny_call_entry PyProof.Rows.slot_tuple_getitem ht.typeIs entry_tuple_getitem ?_ (args_tuple_getitem _ _)))
 show wpAny _ _ (Builtin.Tuple.tupleItemsOf (.ref t) >>= _) _ _ s
 refine wpAny_bind (tupleItemsOf_ ht ?_)
 refine wpAny_bind (wpAny_typeOf hTs ?_)
 rw [if_pos (by decide)]
 refine wpAny_bind (sliceApplied_gen hs pl pu ?_)
 have hno:¬ ((((sIx items.size 0 lo:Nat):Int)==0&&(1:Int)==1&&(sIx items.size items.size hi - sIx items.size 0 lo)==items.size)=true):=by
  intro q
  rw [Bool.and_eq_true,Bool.and_eq_true] at q
  have q1:((sIx items.size 0 lo:Nat):Int)=0:=eq_of_beq q.1.1
  have q2:sIx items.size items.size hi - sIx items.size 0 lo=items.size:=eq_of_beq q.2
  exact hw ⟨by lia,by lia⟩
 show wpAny _ _ (if (((sIx items.size 0 lo:Nat):Int)==0&&(1:Int)==1&&(sIx items.size items.size hi - sIx items.size 0 lo)==items.size)=true then _ else _) _ _ s
 rw [if_neg hno,pick_gen]
 first
  | exact wpAny_bind (m:=Builtin.Tuple.tupleExact _) (wpAny_newObj_type (wpAny_pure ⟨_,rfl,wpAny_pure h⟩) htake)
  | exact wpAny_bind (m:=Builtin.Tuple.tupleExact _) (wpAny_newObj_type (wpAny_bind (wpAny_pure (wpAny_pure ⟨_,rfl,wpAny_pure h⟩))) htake)
  | exact wpAny_bind (wpAny_bind (m:=Builtin.Tuple.tupleExact _) (wpAny_newObj_type (wpAny_pure (wpAny_pure ⟨_,rfl,wpAny_pure h⟩)) htake))
  | exact wpAny_bind (wpAny_bind (m:=Builtin.Tuple.tupleExact _) (wpAny_newObj_type (wpAny_pure ⟨_,rfl,wpAny_pure h⟩) htake))
end
end HT
namespace L2
open PySem PySem.Spec PyProof.Rows
noncomputable abbrev TO:=St→Hp→(Option Int→Hp→Prop)→Prop
noncomputable def PO (X:Cx) (e:Option Expr) (t:TO):Prop:=
 ∀ (pins:List (Addr×Obj)) (s:Shared) (σ:St) (H:Hp) (Q:Option Int→Hp→Prop),Inv X pins σ H s→t σ H Q→
  wpAny (model X.prog X.w) X.A (evalPart e X.env) (fun u s'=>∃ o H',Inv X pins σ H' s'∧IsPart u o∧Q o H') X.xe s
noncomputable def tNoPart:TO:=fun _ H Q=>Q none H
theorem intsAre_of {ns:List Int}:∀ {us:List Value},Vals (ns.map V.int) us→IntsAre us ns:=by
 induction ns with
 | nil=>intro us r;rw [List.map_nil] at r;cases r;exact .nil
 | cons n ns ih=>
  intro us r
  rw [List.map_cons] at r
  cases r with
  | cons r1 r2=>
   obtain ⟨t,e⟩:=r1
   subst e
   exact .cons n t (ih r2)
section
variable {X:Cx} {e:Expr} {te:TE} {lo hi:Option Expr} {tl th:TO} {pos p2:Pos}
theorem po_none:PO X none tNoPart:=by
 intro pins s σ H Q I h
 rw [evalPart_none]
 exact wpAny_pure ⟨none,H,I,.none,h⟩
noncomputable def SlR (X:Cx) (r:V→Option Int→Option Int→Hp→VK→Prop):Prop:=
 ∀ (pins:List (Addr×Obj)) (s:Shared) (σ:St) (H:Hp) (x:V) (v vl vu:Value) (lo hi:Option Int) (sl:Addr) (Q:VK),Inv X pins σ H s→RelV x v→s.heap.IsSliceOf sl vl vu .none→IsPart vl lo→IsPart vu hi→r x lo hi H Q→
  ∃ T id,typeLookup (.type T) "__getitem__"=pure (some (.builtin id))∧s.TypeIs v T∧wpAny (model X.prog X.w) X.A (getItem v (.ref sl)) (EP X pins σ Q) X.xe s
noncomputable def tSl (r:V→Option Int→Option Int→Hp→VK→Prop) (te:TE) (tl th:TO):TE:=fun σ H Q=>te σ H fun x H1=>tl σ H1 fun l H2=>th σ H2 fun u H3=>r x l u H3 Q
theorem pe_slice {r:V→Option Int→Option Int→Hp→VK→Prop} (hr:SlR X r) (he:PE X e te) (hl:PO X lo tl) (hu:PO X hi th):PE X (.Subscript e (.Slice lo hi none p2) pos) (tSl r te tl th):=by
 intro pins s σ H Q I h
 refine Subscript_ (thn (he pins s σ H _ I h) fun v s1 ⟨x,H1,I1,r1,q1⟩=>?_)
 refine wpAny_Slice (thn (hl pins s1 σ H1 _ I1 q1) fun vl s2 ⟨l,H2,I2,pl,q2⟩=>thn (hu pins s2 σ H2 _ I2 q2) fun vu s3 ⟨u,H3,I3,pu,q3⟩=>?_)
 rw [evalPart_none]
 refine wpAny_pure ?_
 have I4:Inv X pins σ H3 {s3 with heap:=s3.heap.push {cls:=.type "slice",data:=.fields #[vl,vu,.none]}}:=I3.kept (t':=s3.toks) fun b ob q=>Heap.get?_push_of_some _ q
 obtain ⟨T,id,hT,ht,hg⟩:=hr pins {s3 with heap:=s3.heap.push {cls:=.type "slice",data:=.fields #[vl,vu,.none]}} σ H3 x v vl vu l u s3.heap.objs.size Q I4 r1 (Heap.IsSliceOf.new ..) pl pu q3
 show wpAny (model X.prog X.w) X.A (subscriptTail e (.Slice lo hi none p2) v (.ref s3.heap.objs.size)) (EP X pins σ Q) X.xe {s3 with heap:=s3.heap.push {cls:=.type "slice",data:=.fields #[vl,vu,.none]}}
 exact tail_any (ops:=[.ref s3.heap.objs.size,v]) ht hT hg (by with_unfolding_all rfl)
noncomputable def cutV (xs:List V) (lo hi:Option Int):List V:=(xs.drop (HT.sIx xs.length 0 lo)).take (HT.sIx xs.length xs.length hi - HT.sIx xs.length 0 lo)
theorem cutV_length (xs:List V) (lo hi:Option Int):(cutV xs lo hi).length≤xs.length:=by
 unfold cutV
 rw [List.length_take,List.length_drop]
 lia
noncomputable def rSlT (K:PySem.W.Frag):V→Option Int→Option Int→Hp→VK→Prop:=fun x lo hi H Q=>∃ a xs,x=.ref a∧SqT K H a xs∧
 ¬ (HT.sIx xs.length 0 lo=0∧HT.sIx xs.length xs.length hi=xs.length)∧∀ p,H p=none→Q (.ref p) (upd H p (.tup (cutV xs lo hi)))
theorem sl_tup:SlR X (rSlT X.K):=by
 intro pins s σ H x v vl vu lo hi sl Q I rx hs pl pu h
 obtain ⟨a,xs,rfl,hx,hw,q⟩:=h
 cases rx
 obtain ⟨its,r,ht,hz⟩:=I.tuple hx
 have hlen:its.toArray.size=xs.length:=by rw [List.size_toArray];exact r.length.symm
 refine ⟨"tuple",_,PyProof.Rows.slot_tuple_getitem.lookup,ht.typeIs,?_⟩
 refine HT.getItem_tuple_cut ht hs pl pu (by rw [hlen];exact hw) ?_ (by rw [hlen];exact hz)
 rw [hlen]
 refine ⟨.ref s.heap.objs.size,_,I.laid (t':=s.toks) (o:=.tup (cutV xs lo hi)) (fun b ob q=>Heap.get?_push_of_some _ q) (Nat.le_refl _) ?_,rfl,q _ (I.hok.fresh (Nat.le_refl _))⟩
 exact ⟨Nat.le_trans (cutV_length xs lo hi) hz,_,(r.drop (HT.sIx xs.length 0 lo)).take (HT.sIx xs.length xs.length hi - HT.sIx xs.length 0 lo),IsTup.new _ _⟩
noncomputable def rLtT (K:PySem.W.Frag):R2:=fun x y H Q=>∃ a b ns ms,x=.ref a∧y=.ref b∧SqT K H a (ns.map V.int)∧SqT K H b (ms.map V.int)∧Q (.bl (HT.lexLt ns ms)) H
theorem op_ltT (hu:X.A.units<cLine):OpR X (compareOp .Lt) (rLtT X.K):=by
 intro pins s σ H x y v u Q I rx ry h
 obtain ⟨a,b,ns,ms,rfl,rfl,ha,hb,q⟩:=h
 cases rx
 cases ry
 obtain ⟨its,r1,p1,_⟩:=I.tuple ha
 obtain ⟨its2,r2,p2,_⟩:=I.tuple hb
 have i1:IntsAre its.toArray.toList ns:=intsAre_of r1
 have i2:IntsAre its2.toArray.toList ms:=intsAre_of r2
 exact HT.lt_tupInts p1 p2 i1 i2 hu ⟨.bl (HT.lexLt ns ms),H,I,rfl,q⟩
theorem Vals.nil_iff {xs:List V} {us:List Value} (r:Vals xs us):us=[]↔xs=[]:=by
 cases r with
 | nil=>simp
 | cons _ _=>simp
end
end L2
namespace L2
open PySem PySem.Spec PyProof.Rows
noncomputable def ixN (n:Nat) (i:Int):Option Nat:=if 0≤i then (if i<n then some i.toNat else none) else if -(n:Int)≤i then some (i+n).toNat else none
noncomputable def atI {α:Type} (xs:List α) (i:Int):Option α:=(ixN xs.length i).bind fun j=>xs[j]?
theorem ixN_seq {n:Nat} {i:Int} {j:Nat} (h:ixN n i=some j):seqIndex? i n=some j∧j<n∧-(n:Int)≤i∧i<n:=by
 unfold ixN at h
 by_cases h0:0≤i
 ·rw [if_pos h0] at h
  by_cases h1:i<n
  ·rw [if_pos h1] at h
   have e:i.toNat=j:=Option.some.inj h
   exact ⟨by rw [seqIndex_of h0 h1,e],by lia,by lia,h1⟩
  ·rw [if_neg h1] at h;cases h
 ·rw [if_neg h0] at h
  by_cases h1:-(n:Int)≤i
  ·rw [if_pos h1] at h
   have e:(i+n).toNat=j:=Option.some.inj h
   exact ⟨by rw [seqIndex_neg (by lia) h1,e],by lia,h1,by lia⟩
  ·rw [if_neg h1] at h;cases h
theorem atI_get {α:Type} {xs:List α} {i:Int} {v:α} (h:atI xs i=some v):∃ j,seqIndex? i xs.length=some j∧xs[j]?=some v∧j<xs.length∧-(xs.length:Int)≤i∧i<xs.length:=by
 unfold atI at h
 cases e:ixN xs.length i with
 | none=>rw [e] at h;cases h
 | some j=>
  rw [e] at h
  obtain ⟨h1,h2,h3,h4⟩:=ixN_seq e
  exact ⟨j,h1,h,h2,h3,h4⟩
noncomputable def PlainIx (b:Expr):Prop:=∀ o i,subscripted b false o i=operate [o,i] (getItem o i)
noncomputable def IxR (X:Cx) (r:R2):Prop:=
 ∀ (value slice:Expr) (pins:List (Addr×Obj)) (s:Shared) (σ:St) (H:Hp) (x y:V) (v u:Value) (Q:VK),Inv X pins σ H s→RelV x v→RelV y u→r x y H Q→
  subscripted slice false v u=operate [v,u] (getItem v u)→wpAny (model X.prog X.w) X.A (subscriptTail value slice v u) (EP X pins σ Q) X.xe s
noncomputable def MtR (X:Cx) (id:String) (r:V→List V→Hp→VK→Prop):Prop:=
 ∀ (pins:List (Addr×Obj)) (s:Shared) (σ:St) (H:Hp) (x:V) (xs:List V) (v:Value) (us:List Value) (Q:VK),Inv X pins σ H s→RelV x v→Vals xs us→r x xs H Q→
  wpAny (model X.prog X.w) X.A (call (.builtin id) (v::us)) (EP X pins σ Q) X.xe s
section
variable {X:Cx} {a b:Expr} {ta tb:TE} {pos:Pos}
theorem pe_ix {r:R2} (hr:IxR X r) (ha:PE X a ta) (hb:PE X b tb) (hs:PlainIx b):PE X (.Subscript a b pos) (tOp r ta tb):=by
 intro pins s σ H Q I h
 exact Subscript_ (binT ha hb I h fun v u s2 x y H2 I2 rx ry q=>hr a b pins s2 σ H2 x y v u Q I2 rx ry q (hs _ _))
noncomputable def rIxL (K:PySem.W.Frag):R2:=fun x y H Q=>∃ p xs i v,x=.ref p∧y=.int i∧SqL K H p xs∧atI xs i=some v∧Q v H
noncomputable def rIxT (K:PySem.W.Frag):R2:=fun x y H Q=>∃ p xs i v,x=.ref p∧y=.int i∧SqT K H p xs∧atI xs i=some v∧Q v H
noncomputable def rIxS:R2:=fun x y H Q=>∃ z i c,x=.str z∧y=.int i∧z.length≤sizeLine∧atI z.cps.toList i=some c∧Q (.str ⟨#[c]⟩) H
theorem ix_list:IxR X (rIxL X.K):=by
 intro value slice pins s σ H x y v u Q I rx ry h hs
 obtain ⟨p,xs,i,z,rfl,rfl,hq,he,q⟩:=h
 cases rx
 obtain ⟨t,rfl⟩:=ry
 obtain ⟨its,r,pl,hz⟩:=I.list hq
 obtain ⟨j,h1,h2,h3,h4,h5⟩:=atI_get he
 obtain ⟨w,ew,rw'⟩:=r.get h2
 have hl:=r.length
 have hn:=line63
 have fin:EP X pins σ Q w s:=⟨z,H,I,rw',q⟩
 by_cases h0:0≤i
 ·have hj:i.toNat=j:=by
   rw [seqIndex_of h0 h5] at h1
   exact Option.some.inj h1
  exact item_listR pl.isList h0 (by lia) (by rw [hj];simpa using ew) fin hs
 ·have hj:(i+(its.toArray.size:Int)).toNat=j:=by
   rw [seqIndex_neg (by lia) h4] at h1
   rw [List.size_toArray,← hl]
   exact Option.some.inj h1
  exact subscriptTail_builtinR (x:=w) pl.isList.typeIs slot_list_getitem.lookup
   (wpAny_getItem_list_neg (Q:=fun r s'=>r=w∧EP X pins σ Q r s') pl.isList (by lia) (by rw [List.size_toArray] <;> lia) (by lia) (by rw [hj];simpa using ew) ⟨rfl,fin⟩) hs
theorem ix_tup:IxR X (rIxT X.K):=by
 intro value slice pins s σ H x y v u Q I rx ry h hs
 obtain ⟨p,xs,i,z,rfl,rfl,hq,he,q⟩:=h
 cases rx
 obtain ⟨t,rfl⟩:=ry
 obtain ⟨its,r,pl,hz⟩:=I.tuple hq
 obtain ⟨j,h1,h2,h3,h4,h5⟩:=atI_get he
 obtain ⟨w,ew,rw'⟩:=r.get h2
 have hl:=r.length
 have hn:=line63
 have fin:EP X pins σ Q w s:=⟨z,H,I,rw',q⟩
 exact subscriptTail_builtinR (x:=w) pl.typeIs slot_tuple_getitem.lookup
  (getItem_tuple (j:=j) (Q:=fun r s'=>r=w∧EP X pins σ Q r s') pl (by lia) (by lia) (by rw [List.size_toArray,← hl];exact h1) (by simpa using ew) ⟨rfl,fin⟩) hs
theorem ix_str:IxR X rIxS:=by
 intro value slice pins s σ H x y v u Q I rx ry h hs
 obtain ⟨z,i,c,rfl,rfl,hz,he,q⟩:=h
 obtain ⟨t,rfl⟩:=rx
 obtain ⟨t',rfl⟩:=ry
 obtain ⟨j,h1,h2,h3,h4,h5⟩:=atI_get he
 have hl:z.cps.toList.length=z.length:=by simp [Str.length]
 rw [hl] at h1 h4 h5
 have hn:=line63
 exact tail_any (typeIs_str s z t) slot_str_getitem.lookup (getItem_str (c:=c) (by
  have e1:decide (i < -(2 ^ 63:Int))=false:=decide_eq_false (by lia)
  have e2:decide (i≥2 ^ 63)=false:=decide_eq_false (by lia)
  rw [e1,e2,Bool.or_false]) (by rw [h1];simpa using h2) ⟨.str ⟨#[c]⟩,H,I.tok _,⟨_,rfl⟩,q⟩) hs
theorem slice_bounds (lo hi:Option Int) (n:Nat):(sliceBounds lo hi none n).1=((HT.sIx n 0 lo:Nat):Int)∧(sliceBounds lo hi none n).2.1=((HT.sIx n n hi:Nat):Int)∧(sliceBounds lo hi none n).2.2=1:=by
 refine ⟨?_,?_,rfl⟩
 ·cases lo with
  | none=>simp [sliceBounds,HT.sIx]
  | some i=>
   simp only [sliceBounds,HT.sIx,Option.getD_none,show (1:Int)>0 by decide,if_true]
   by_cases h:i<0
   ·simp only [h,if_true] <;> lia
   ·simp only [h,if_false] <;> lia
 ·cases hi with
  | none=>simp [sliceBounds,HT.sIx]
  | some i=>
   simp only [sliceBounds,HT.sIx,Option.getD_none,show (1:Int)>0 by decide,if_true]
   by_cases h:i<0
   ·simp only [h,if_true] <;> lia
   ·simp only [h,if_false] <;> lia
theorem slicePick_cut (its:List Value) (lo hi:Option Int):slicePick its.toArray lo hi none=((its.drop (HT.sIx its.length 0 lo)).take (HT.sIx its.length its.length hi - HT.sIx its.length 0 lo)).toArray:=by
 obtain ⟨h1,h2,h3⟩:=slice_bounds lo hi its.toArray.size
 unfold slicePick
 rw [h1,h2,h3]
 simp only [sliceRange_one,pick_run,List.size_toArray] <;> rfl
noncomputable def rSlL (K:PySem.W.Frag):V→Option Int→Option Int→Hp→VK→Prop:=fun x lo hi H Q=>∃ a xs,x=.ref a∧SqL K H a xs∧∀ p,H p=none→Q (.ref p) (upd H p (.lst (cutV xs lo hi)))
theorem sl_list:SlR X (rSlL X.K):=by
 intro pins s σ H x v vl vu lo hi sl Q I rx hs pl pu h
 obtain ⟨a,xs,rfl,hx,q⟩:=h
 cases rx
 obtain ⟨its,r,ht,hz⟩:=I.list hx
 have hlen:=r.length
 refine ⟨"list",_,slot_list_getitem.lookup,ht.isList.typeIs,?_⟩
 refine wpAny_getItem_list_slice ht.isList hs pl pu .none (by simp) ?_ (by rw [List.size_toArray] <;> lia)
 rw [slicePick_cut,← hlen]
 refine ⟨.ref s.heap.objs.size,_,I.laid (t':=s.toks) (o:=.lst (cutV xs lo hi)) (fun b ob q=>Heap.get?_push_of_some _ q) (Nat.le_refl _) ?_,rfl,q _ (I.hok.fresh (Nat.le_refl _))⟩
 exact ⟨Nat.le_trans (cutV_length xs lo hi) hz,_,0,(r.drop (HT.sIx xs.length 0 lo)).take (HT.sIx xs.length xs.length hi - HT.sIx xs.length 0 lo),Heap.get?_push_size _ rfl⟩
theorem call_len_seq:CallR X (.builtin "len") (fun xs H Q=>∃ p ys,xs=[.ref p]∧(SqL X.K H p ys∨SqT X.K H p ys)∧Q (.int ys.length) H):=by
 intro pins s σ H xs us Q I r h
 obtain ⟨p,ys,rfl,hq,q⟩:=h
 obtain ⟨u,rfl,rx⟩:=vals1 r
 cases rx
 have hn:=line63
 rcases hq with hq | hq
 ·obtain ⟨its,r',pl,hz⟩:=I.list hq
  have hlen:=r'.length
  exact Calls.call_len_list pl.isList (by simp only [List.size_toArray] <;> lia) ⟨.int ys.length,H,I.tok _,⟨s.toks+1,by rw [List.size_toArray,hlen]⟩,q⟩
 ·obtain ⟨its,r',pl,hz⟩:=I.tuple hq
  have hlen:=r'.length
  exact len_tuple pl (by simp only [List.size_toArray] <;> lia) ⟨.int ys.length,H,I.tok _,⟨s.toks+1,by rw [List.size_toArray,hlen]⟩,q⟩
theorem call_len_str:CallR X (.builtin "len") (fun xs H Q=>∃ z,xs=[.str z]∧z.length≤sizeLine∧Q (.int z.length) H):=by
 intro pins s σ H xs us Q I r h
 obtain ⟨z,rfl,hz,q⟩:=h
 obtain ⟨u,rfl,t,rfl⟩:=vals1 r
 have hn:=line63
 exact len_str (by lia) ⟨.int z.length,H,I.tok _,⟨_,rfl⟩,q⟩
theorem call_tuple_of:CallR X (.type "tuple") (fun xs H Q=>∃ p ys,xs=[.ref p]∧((SqL X.K H p ys∧∀ l,H l=none→Q (.ref l) (upd H l (.tup ys)))∨(SqT X.K H p ys∧Q (.ref p) H))):=by
 intro pins s σ H xs us Q I r h
 obtain ⟨p,ys,rfl,h⟩:=h
 obtain ⟨u,rfl,rx⟩:=vals1 r
 cases rx
 rcases h with ⟨hq,q⟩ | ⟨hq,q⟩
 ·obtain ⟨its,r',pl,hz⟩:=I.list hq
  have hlen:=r'.length
  refine call_tuple_list pl.isList (fun h' kp=>?_) (by simp only [List.size_toArray] <;> lia)
  have I1:Inv X pins σ H {s with heap:=h'}:=I.kept (t':=s.toks) kp
  have I2:Inv X pins σ (upd H h'.objs.size (.tup ys)) {s with heap:=h'.push {cls:=.type "tuple",data:=.seq its.toArray}}:=
   I1.laid (t':=s.toks) (fun b o e=>Heap.get?_push_of_some _ e) (Nat.le_refl _) (show ObjOk X.prog X.w _ _ _ (.tup ys) from ⟨hz,its,r',IsTup.new _ _⟩)
  exact ⟨.ref h'.objs.size,_,I2,rfl,q _ (I1.hok.fresh (Nat.le_refl _))⟩
 ·obtain ⟨its,r',pl,hz⟩:=I.tuple hq
  exact call_tuple_same pl ⟨.ref p,H,I,rfl,q⟩
noncomputable def tyV (K:PySem.W.Frag) (T:String) (x:V) (H:Hp):Prop:=match x with
 | .str _=>T="str"
 | .int _=>T="int"
 | .ref p=>(T="list"∧∃ xs,SqL K H p xs)∨(T="tuple"∧∃ o,K.lookup p=some o∧o.cls=.type "tuple"∧o.dict=none)∨
   (T="dict"∧((∃ kvs,H p=some (.dK kvs))∨∃ kvs,H p=some (.dT kvs)))∨(T="set"∧∃ S n,H p=some (.set S n))
 | _=>False
theorem tyV_is {pins:List (Addr×Obj)} {σ:St} {H:Hp} {s:Shared} {T:String} {x:V} {v:Value} (I:Inv X pins σ H s) (r:RelV x v) (ty:tyV X.K T x H):
  s.TypeIs v T∧∀ a,v=.ref a→∃ ob,s.heap.get? a=some ob∧ob.dict=none:=by
 cases x with
 | str z=>
  obtain ⟨t,rfl⟩:=r
  cases (show T="str" from ty)
  exact ⟨typeIs_str s z t,fun _ e=>nomatch e⟩
 | int i=>
  obtain ⟨t,rfl⟩:=r
  cases (show T="int" from ty)
  exact ⟨typeIs_int s i t,fun _ e=>nomatch e⟩
 | ref p=>
  cases r
  rcases ty with ⟨rfl,xs,hq⟩ | ⟨rfl,o,hk,hc,hd⟩ | ⟨rfl,hk⟩ | ⟨rfl,S,n,hk⟩
  ·obtain ⟨its,_,pl,_⟩:=I.list hq
   refine ⟨pl.isList.typeIs,fun a e=>?_⟩
   cases e
   obtain ⟨o,n,e,c,hd,_⟩:=pl
   exact ⟨o,e,hd⟩
  ·refine ⟨⟨o,I.kIn p o hk,hc⟩,fun a e=>?_⟩
   cases e
   exact ⟨o,I.kIn _ o hk,hd⟩
  ·have z:∃ o,s.heap.get? p=some o∧o.ExactDict:=by
    rcases hk with ⟨kvs,hk⟩ | ⟨kvs,hk⟩
    ·obtain ⟨_,_,_,_,o,_,_,e,ex,_⟩:=I.hok p _ hk
     exact ⟨o,e,ex⟩
    ·obtain ⟨_,_,_,_,o,_,_,e,ex,_⟩:=I.hok p _ hk
     exact ⟨o,e,ex⟩
   obtain ⟨o,e,ex⟩:=z
   refine ⟨⟨o,e,ex.1⟩,fun a e2=>?_⟩
   cases e2
   exact ⟨o,e,ex.2.1⟩
  ·obtain ⟨o,_,_,_,e,ex,_⟩:=I.hok p _ hk
   refine ⟨⟨o,e,ex.1⟩,fun a e2=>?_⟩
   cases e2
   exact ⟨o,e,ex.2.1⟩
 | _=>exact False.elim ty
noncomputable def tBM (K:PySem.W.Frag) (T:String) (r:V→List V→Hp→VK→Prop) (to:TE) (t:TA):TE:=fun σ H Q=>to σ H fun x H1=>tyV K T x H1∧t σ H1 fun xs H2=>r x xs H2 Q
variable {o e:Expr} {es:List Expr} {to:TE} {t:TA} {name:Str} {apos cpos:Pos} {T id:String} {r:V→List V→Hp→VK→Prop}
theorem pe_bm (pa:PlainAttrs T) (slot:Slot T name id) (hty:typeOf (.builtin id)=pure (.type "method_descriptor")) (hm:MtR X id r) (ho:PE X o to) (ha:PA X (e::es) t)
  (hbase:attributeBase o name X.env (eval o X.env)=eval o X.env:=by rfl)
  (hfew:((backTo cpos (starEach (e::es) X.env)).all (fun x=>!x.1)&&(backToKw cpos (keywordEach [] X.env)).all (fun x=>x.1.isSome)
   && decide ((e::es).length+([]:List Keyword).length+(if ([]:List Keyword).isEmpty then 0 else 1)<30))=true:=by rfl)
  (hline:(apos.endLine==cpos.line)=true:=by rfl) (hs:starEach (e::es) X.env=(false,eval e X.env)::starEach es X.env:=by rfl) (hplain:(backTo cpos (starEach es X.env)).any (·.1)=false:=by rfl):
  PE X (.Call (.Attribute o name apos) (e::es) [] cpos) (tBM X.K T r to t):=by
 intro pins s σ H Q I h
 refine wpAny_Call_method_late hbase hfew hline rfl (thn (ho pins s σ H _ I h) fun v s1 ⟨x,H1,I1,r1,ty,q1⟩=>?_)
 obtain ⟨h1,h2⟩:=tyV_is I1 r1 ty
 refine ⟨T,id,pa,slot,hty,h1,h2,?_⟩
 have hA:=ha cpos pins s1 σ H1 _ I1 q1
 rw [hs] at hA ⊢
 refine Calls.callWith_builtin (by show (false||(backTo cpos (starEach es X.env)).any (·.1))=false;rw [hplain] <;> rfl) (Calls.evalArgs_plain ?_)
 exact thn hA fun us s2 ⟨vs,H2,I2,r2,q2⟩=>hm pins s2 σ H2 x vs v us Q I2 r1 r2 q2
end
end L2
namespace L2
open PySem PySem.Spec PyProof.Rows
noncomputable def MtM (X:Cx) (id:String) (r:V→List V→Hp→VK→Prop):Prop:=
 ∀ (pins:List (Addr×Obj)) (s:Shared) (σ:St) (H:Hp) (x:V) (xs:List V) (v:Value) (us:List Value) (Q:VK),Inv X pins σ H s→RelV x v→Vals xs us→r x xs H Q→
  wpAny (model X.prog X.w) X.A (call (.builtin id) (v::us)) (EP X pins σ Q) X.xe s
theorem Vals.one:∀ {x:V} {us:List Value},Vals [x] us→∃ u,us=[u]∧RelV x u
 | _,_,.cons r .nil=>⟨_,rfl,r⟩
theorem Vals.zero:∀ {us:List Value},Vals [] us→us=[]
 | _,.nil=>rfl
section
variable {X:Cx} {pins:List (Addr×Obj)} {σ:St} {H:Hp} {s:Shared} {l b:Addr} {xs ys zs:List V}
theorem Inv.lset {its its':List Value} {n:Nat} {f:Array Value→Array Value} {t':Nat} (I:Inv X pins σ H s) (hH:H l=some (.lst xs))
  (e:s.heap.get? l=some {cls:=.type "list",data:=.seq its.toArray n}) (hf:f its.toArray=its'.toArray) (hv:Vals ys its') (hz:ys.length≤sizeLine):
  Inv X pins σ (upd H l (.lst ys)) {s with heap:=s.heap.update l (Obj.mapSeq f),toks:=t'}:=by
 have q:=PySem.IsL.update e f
 rw [hf] at q
 refine I.write (x:=l) (e:=l) (by rw [hH];exact trivial) (.inl rfl) (fun b' u hb hu=>(Heap.get?_update_other s.heap (Obj.mapSeq f) (Ne.symm hb)).trans hu) ⟨_,q⟩ ?_
 exact ⟨hz,its',_,hv,q⟩
theorem Inv.lstM (I:Inv X pins σ H s) (hH:H l=some (.lst xs)):xs.length≤sizeLine∧∃ (its:List Value) (n:Nat),Vals xs its∧xs.length=its.length∧s.heap.get? l=some {cls:=.type "list",data:=.seq its.toArray n}:=by
 obtain ⟨z,its,n,r,e⟩:=I.hok l _ hH
 exact ⟨z,its,n,r,r.length,e⟩
theorem notLongL {n:Nat} (h:n≤sizeLine):Builtin.List.listTooLong n=false:=by
 unfold Builtin.List.listTooLong
 exact decide_eq_false (by lia)
end
section
variable {X:Cx}
noncomputable def rAppend:V→List V→Hp→VK→Prop:=fun x vs H Q=>∃ l xs y,x=.ref l∧vs=[y]∧H l=some (.lst xs)∧xs.length<sizeLine∧Q .non (upd H l (.lst (xs++[y])))
theorem mt_append:MtM X "list.append" rAppend:=by
 intro pins s σ H x vs v us Q I rx rv h
 obtain ⟨l,xs,y,rfl,rfl,hH,hz,q⟩:=h
 cases rx
 obtain ⟨u,rfl,ru⟩:=rv.one
 obtain ⟨z,its,n,r,hl,e⟩:=I.lstM hH
 refine call_meets F.slot_list_append ⟨_,e,rfl⟩ F.entry_list_append (F.args_list_append_2 _ _) (PySem.list_append l its.toArray n u (by rw [List.size_toArray];lia)) ⟨e,?_⟩
 refine ⟨.non,_,I.lset (its':=its++[u]) hH e (by simp) (r.append (.cons ru .nil)) ?_,rfl,q⟩
 rw [List.length_append,List.length_singleton]
 lia
end
section
variable {prog:Program} {w:World} {A:Around} {E:Value→Shared→Prop} {s:Shared}
end
section
variable {X:Cx}
end
end L2
namespace Att
open PySem PySem.W PySem.Calls PyProof.Rows
theorem ints_of_wellAll {P:Params} {h:Heap}:∀ (ns:List Int) (vs:List Value),WellAll P h vs (ns.map WData.int)→IntsAre vs ns:=by
 intro ns
 induction ns with
 | nil=>
  intro vs w
  rw [List.map_nil] at w
  cases w
  exact .nil
 | cons n ns ih=>
  intro vs w
  rw [List.map_cons] at w
  cases w with
  | cons a b=>
   cases a
   exact .cons _ _ (ih _ b)
theorem script_of {l : OpenLaw} {n : Nat} (hn : l.most = some n) {P : Params} {h : Heap} {args : List WData} {vals : List Value}
    (hpre : l.row.toRowW.claim.pre args = true) (hwl : WellAll P h vals args) :
    ∃ a vs ns, vals = [Value.ref a] ∧ args = [WData.list (ns.map WData.int)] ∧ h.get? a = some { cls := .type "list", data := .seq vs.toArray } ∧ IntsAre vs ns ∧ ns.length ≤ n := by
  have hsh : WShape.hasAll [] args [.list .int] = true := (pre_splitW hpre).1
  have hc : l.pre.holds [] { args := args } = true := (pre_splitW hpre).2
  obtain ⟨d, r, rfl, h1, h2⟩ := hasAllW_cons hsh
  obtain rfl := hasAllW_nil h2
  obtain ⟨xs, rfl, h3⟩ := hasW_list h1
  obtain ⟨ns, rfl⟩ := items_int h3
  have hlen : ns.length ≤ n := by
    unfold OpenLaw.pre at hc
    have h4 : (WTm.not (.lt (.lit (.int (n : Int))) (.len (.arg 0)))).holds [] { args := [.list (ns.map .int)] } = true := by
      have h4 := (holds_andW hc).1
      rw [hn] at h4
      exact h4
    have h5 := condW_of h4 (w_not (w_lt w_lit (w_len_list (w_arg rfl))))
    rw [List.length_map] at h5
    refine Nat.le_of_not_lt fun q => ?_
    have q' : (n : Int) < ((ns.length : Nat) : Int) := by lia
    first
      | (rw [decide_eq_true q'] at h5; exact absurd h5 (by decide))
      | (simp at h5; lia)
  cases hwl with
  | cons w1 w2 =>
    cases w2
    cases w1 with
    | list ho hall => exact ⟨_, _, ns, rfl, rfl, ho, ints_of_wellAll ns _ hall, hlen⟩
theorem post_true (l : OpenLaw) (args : List WData) : l.row.toRowW.claim.post args (.bool true) args = true :=
  postW_of (r := l.row.toRowW) (X := (true == true))
    (show WShape.has [] (.bool true) .bool = true by first | rfl | decide | simp [WShape.has, WShape.arms, WShape.armsAll])
    (show (WTm.eq .res (.lit (.bool true))).value [] { args := args, res := some (.bool true), after := args } = some (.bool (true == true)) from w_eq_bool (w_res rfl) w_lit) rfl
theorem attach_call {l:OpenLaw} {n:Nat} {q:Program} {loose:List Str} {XP:(Str→Option Value)→Heap→Prop} {YP:World→Heap→Prop} {d:DefRec}
  (hn:l.most=some n) (hdf:d.params.defaults=[])
  (call:∀ (w:World) (s₀ s₁:Shared) (mg mb:Str→Option Value) (fa:Addr) (o:Obj) (pm cd doc:Value) (a:Addr) (vs:List Value) (ns:List Int),
   Ground q loose [] XP w s₀ mg mb s₁.heap→YP w s₁.heap→
   s₁.heap.get? fa=some o→o.data=.func (docDef d.name d.params d.body d.scope pm cd doc)→s₁.heap.CodeRec cd d.name→mg d.name=some (.ref fa)→
   s₁.heap.get? a=some {cls:=.type "list",data:=.seq vs.toArray}→IntsAre vs ns→ns.length≤n→s₁.gens=#[]→
   codeAny (model l.prog w) callerA (.call (.ref fa) ⟨[.ref a],[]⟩) (fun r s'=>r=.ok (.ret (.bool true))∧OldK s₁.heap s'.heap∧s'.os=s₁.os∧AllBare s'.gens) s₁):
  WalkO q loose XP YP l.row.toRowW d [] (fun f vs=>PySem.call f vs):=by
 intro w s₀ s₁ mg mb G Y fa o pm cd doc dV kV ho hd hcd hD hmg hg args vals as hpre hlay hrd hwl hlo
 obtain rfl:dV=.none:=Dflts.none hD hdf
 obtain rfl:kV=.none:=Dflts.noKw hD
 obtain ⟨a,vs,ns,rfl,rfl,hobj,hints,hlen⟩:=script_of hn hpre hwl
 refine enter_call (codeAny_mono (call w s₀ s₁ mg mb fa o pm cd doc a vs ns G Y ho (fd_plain hd) hcd hmg hobj hints hlen hg) fun r s' hq=>?_)
 obtain ⟨rfl,h2,h3,h4⟩:=hq
 exact ⟨.inl ⟨.bool true,.bool true,[],rfl,fun _=>rfl,.bool true,post_true l _,fun _=>⟨List.Pairwise.nil,fun _ hm=>(nomatch hm)⟩⟩,h2,h3,h4⟩
section
variable {prog:Program} {w:World} {A:Around} {E:Value→Shared→Prop} {s:Shared} {K:Frag}
end
end Att
namespace L2
open PySem PySem.Spec PyProof.Rows
theorem vals_ints:∀ {vs:List Value} {ns:List Int},IntsAre vs ns→Vals (ns.map V.int) vs
 | _,_,.nil=>.nil
 | _,_,.cons n t h=>.cons ⟨t,rfl⟩ (vals_ints h)
end L2
namespace L2
open PySem PySem.Spec PyProof.Rows
end L2
namespace L2
open PySem PySem.Spec PyProof.Rows
noncomputable def defArgs (s:Stmt):Arguments:=match s with
 | .FunctionDef _ a _ _ _ _ _ _ _ _=>a
 | _=>{posonlyargs:=[],args:=[],vararg:=none,kwonlyargs:=[],kw_defaults:=[],kwarg:=none,defaults:=[]}
noncomputable def defBody (s:Stmt):List Stmt:=match s with
 | .FunctionDef _ _ b _ _ _ _ _ _ _=>b
 | _=>[]
noncomputable def defScope (s:Stmt):Scope:=match s with
 | .FunctionDef _ _ _ _ _ _ sc _ _ _=>sc
 | _=>{kind:=.function,names:=[],isGenerator:=false,isCoroutine:=false}
noncomputable abbrev CX0:CXT:=fun _ _ _ _ _ _=>False
noncomputable abbrev E0:XK:=fun _ _ _=>False
theorem pass0 {X:Cx}:Passes CX0 X E0:=fun _ _ _ _ _ _ _ h=>h.elim
structure Fun (K:PySem.W.Frag) (x qual:Str) (st:Stmt) (f:Addr) (fd:FuncData):Prop where
 ex:∃ (oc:Value) (od:Option Addr) (kV doc pm:Value) (an:Option Addr) (cdv ct:Value) (osl:Array (Option Value)),
  fd=PySem.W.fnOf x qual (defArgs st) (defBody st) (defScope st) .none kV doc pm an cdv ct∧K.lookup f=some ⟨oc,od,.func fd,osl⟩∧PySem.W.codeIn K cdv qual=true
 kp:PySem.W.keepIn K (.ref f)=true
section
variable {P:Program} {w:World} {K:PySem.W.Frag} {mg:Str→Option Value} {base:Heap}
theorem Fun.ok {x qual:Str} {st:Stmt} {f:Addr} {fd:FuncData} {N ps:List Str} {k:Nat} {sp:Sp} (F:Fun K x qual st f fd) (S:FnScope N ps (defScope st)) (len:∀ vs H Q E,sp vs H Q E→vs.length=ps.length)
  (hbody:∀ (cdv:Value) (A:Around) (outer:List Env) (s:Shared) (H:Hp) (vs:List V) (Q:VK) (E:XK),Room k (A.deeper (envOfC qual (defScope st) s.heap.objs.size f cdv))→sp vs H Q E→
   ∃ t,PSs (cxOf CX0 P w K mg base N qual (defScope st) f cdv A outer s H E).nox (defBody st) t∧t {nx:=fun _ H'=>Q .non H',rt:=Q} (start N vs) H):FnOk P w K mg base CX0 (k+1) f fd ps sp:=by
 obtain ⟨oc,od,kV,doc,pm,an,cdv,ct,osl,rfl,lk,hcd⟩:=F.ex
 refine fn_of lk hcd S len fun A outer s H vs Q E hr hsp=>?_
 obtain ⟨t,h,q⟩:=hbody cdv A outer s H vs Q E hr hsp
 exact ⟨t,h.nox,q⟩
theorem Fun.binds {x qual:Str} {st:Stmt} {f:Addr} {fd:FuncData} {ps:List Str} (F:Fun K x qual st f fd)
  (h:∀ (kV doc pm:Value) (an:Option Addr) (cdv ct:Value) (us:List Value),us.length=ps.length→bindArgs (PySem.W.fnOf x qual (defArgs st) (defBody st) (defScope st) .none kV doc pm an cdv ct) ⟨us,[]⟩=pure (ps.zip us)):Binds K fd ps []:=by
 obtain ⟨oc,od,kV,doc,pm,an,cdv,ct,osl,rfl,lk,hcd⟩:=F.ex
 exact .all (h kV doc pm an cdv ct)
theorem fun_mk {x qual:Str} {st:Stmt} {f:Addr} {oc:Value} {od an:Option Addr} {osl:Array (Option Value)} {kV doc pm cdv ct:Value} (l:K.lookup f=some ⟨oc,od,.func (PySem.W.fnOf x qual (defArgs st) (defBody st) (defScope st) .none kV doc pm an cdv ct),osl⟩)
  (c:PySem.W.codeIn K cdv qual=true) (k:PySem.W.keepIn K (.ref f)=true):Fun K x qual st f (PySem.W.fnOf x qual (defArgs st) (defBody st) (defScope st) .none kV doc pm an cdv ct):=⟨⟨oc,od,kV,doc,pm,an,cdv,ct,osl,rfl,l,c⟩,k⟩
end
section
variable {X:Cx}
theorem pv (i:Nat) {x:Str} {pos:Pos} (hN:X.N[i]?=some x:=by rfl) (hv:Vis X.env.scope x:=by first | exact Or.inl rfl | exact Or.inr (Or.inl rfl) | exact Or.inr (Or.inr rfl)) (hd:(x==("__debug__":Str))=false:=by decide)
  (hcd:(x==("__classdict__":Str))=false:=by decide):PE X (.Name x pos) (tVar i):=pe_var hN hv hd hcd
end
theorem iteF {A B:Prop} (h:B):if false=true then A else B:=by
 rw [if_neg Bool.false_ne_true]
 exact h
theorem iteT {A B:Prop} (h:A):if true=true then A else B:=by
 rw [if_pos rfl]
 exact h
end L2
namespace L2
open PySem PySem.Spec PyProof.Rows
section
variable {κ:Type} [DecidableEq κ]
noncomputable def valV (kvs:List (κ×V)) (k:κ):Option V:=(kvs.find? fun kv=>decide (kv.1=k)).map (·.2)
noncomputable def putK (kvs:List (κ×V)) (k:κ) (v:V):List (κ×V):=
 if (kvs.any fun kv=>decide (kv.1=k))=true then kvs.map (fun kv=>if kv.1=k then (kv.1,v) else kv) else kvs++[(k,v)]
theorem valV_pos {p:κ×V} {r:List (κ×V)} {k:κ} (e:p.1=k):valV (p::r) k=some p.2:=by simp [valV,List.find?_cons,e]
theorem valV_neg {p:κ×V} {r:List (κ×V)} {k:κ} (e:¬ p.1=k):valV (p::r) k=valV r k:=by simp [valV,List.find?_cons,e]
theorem length_putK (kvs:List (κ×V)) (k:κ) (v:V):(putK kvs k v).length≤kvs.length+1:=by
 unfold putK
 split
 ·rw [List.length_map];lia
 ·rw [List.length_append,List.length_cons,List.length_nil];lia
theorem KV.val {kvs:List (κ×V)} {vs:List (κ×Value)} (r:KV kvs vs) (k:κ):RelO (valV kvs k) (valueAt vs k):=by
 unfold KV at r
 induction r with
 | nil=>exact True.intro
 | @cons p q ps qs h t ih=>
  obtain ⟨h1,h2⟩:=h
  by_cases e:p.1=k
  ·have e':q.1=k:=h1.symm.trans e
   have b:valueAt (q::qs) k=some q.2:=by simp [valueAt,List.find?_cons,e']
   rw [valV_pos e,b];exact h2
  ·have e':¬ q.1=k:=fun z=>e (h1.trans z)
   have b:valueAt (q::qs) k=valueAt qs k:=by simp [valueAt,List.find?_cons,e']
   rw [valV_neg e,b];exact ih
theorem KV.any {kvs:List (κ×V)} {vs:List (κ×Value)} (r:KV kvs vs) (k:κ):(kvs.any fun kv=>decide (kv.1=k))=vs.any fun kv=>decide (kv.1=k):=by
 unfold KV at r
 induction r with
 | nil=>rfl
 | cons h t ih=>rw [List.any_cons,List.any_cons,ih,h.1]
theorem KV.repl {kvs:List (κ×V)} {vs:List (κ×Value)} (r:KV kvs vs) (k:κ) {y:V} {u:Value} (ry:RelV y u):
  KV (kvs.map fun kv=>if kv.1=k then (kv.1,y) else kv) (vs.map fun kv=>if kv.1=k then (kv.1,u) else kv):=by
 unfold KV at r ⊢
 induction r with
 | nil=>exact .nil
 | @cons p q ps qs h t ih=>
  rw [List.map_cons,List.map_cons]
  refine .cons ?_ ih
  obtain ⟨h1,h2⟩:=h
  by_cases e:p.1=k
  ·rw [if_pos e,if_pos (h1.symm.trans e)];exact ⟨h1,ry⟩
  ·rw [if_neg e,if_neg (fun z=>e (h1.trans z))];exact ⟨h1,h2⟩
theorem KV.put {kvs:List (κ×V)} {vs:List (κ×Value)} (r:KV kvs vs) (k:κ) {y:V} {u:Value} (ry:RelV y u):KV (putK kvs k y) (stored vs k u):=by
 unfold putK stored
 rw [r.any k]
 by_cases e:(vs.any fun kv=>decide (kv.1=k))=true
 ·rw [if_pos e,if_pos e];exact r.repl k ry
 ·rw [if_neg e,if_neg e];exact Paired.snoc r ⟨rfl,ry⟩
end
theorem kV_is {P:Program} {w:World} {k:Key} {u:Value} (r:RelV (kV k) u):(mixKind P w).is k u=true:=by
 cases k with
 | inl i=>obtain ⟨t,e⟩:=(show ∃ t,u=Value.int i t from r);subst e;exact mixKind_int P w i t
 | inr x=>obtain ⟨t,e⟩:=(show ∃ t,u=Value.str x t from r);subst e;exact mixKind_str P w x t
theorem items_are {P:Program} {w:World}:∀ {ks:List Key} {us:List Value},Vals (ks.map kV) us→ItemsAre (mixKind P w) ks us
 | [],_,r=>by rw [List.map_nil] at r;cases r;exact .nil
 | k::ks,_,r=>by
  rw [List.map_cons] at r
  cases r with
  | cons h t=>exact .cons (kV_is h) (items_are t)
noncomputable abbrev KT (H:Hp):List (List Key×V)→List (List Key×Addr×Value)→Prop:=Paired fun p q=>p.1=q.1∧H q.2.1=some (.tup (p.1.map kV))∧RelV p.2 q.2.2
theorem KT.val {H:Hp} {kvs:List (List Key×V)} {xs:List (List Key×Addr×Value)} (r:KT H kvs xs) (k:List Key):RelO (valV kvs k) ((atKey xs k).map (·.2)):=by
 induction r with
 | nil=>exact True.intro
 | @cons p q ps qs h t ih=>
  obtain ⟨h1,_,h2⟩:=h
  by_cases e:p.1=k
  ·have e':q.1=k:=h1.symm.trans e
   have b:atKey (q::qs) k=some q.2:=by simp [atKey,List.find?_cons,e']
   rw [valV_pos e,b];exact h2
  ·have e':¬ q.1=k:=fun z=>e (h1.trans z)
   have b:atKey (q::qs) k=atKey qs k:=by simp [atKey,List.find?_cons,e']
   rw [valV_neg e,b];exact ih
section
variable {P:Program} {w:World} {H:Hp} {h:Heap} {a:Addr}
theorem rd_of {u:HO} (ok:HOk P w H h) (e:Rd H a u):ObjOk P w H h a u:=e.ok ok
theorem dk_rd {kvs:List (Key×V)} (ok:HOk P w H h) (e:Rd H a (.dK kvs)):kvs.length≤sizeLine∧(a==sysModules)=false∧∃ vs,KV kvs vs∧h.DictOf (mixKind P w) a vs:=
 show ObjOk P w H h a (.dK kvs) from rd_of ok e
theorem dk_of {kvs:List (Key×V)} (ok:HOk P w H h) (e:H a=some (.dK kvs)):kvs.length≤sizeLine∧(a==sysModules)=false∧∃ vs,KV kvs vs∧h.DictOf (mixKind P w) a vs:=dk_rd ok (.inl e)
theorem key_of {ks:List Key} (ok:HOk P w H h) (e:H a=some (.tup (ks.map kV))):(tupleKind (mixKind P w)).is h ks a:=by
 obtain ⟨_,its,r,o,h1,h2,n,h3⟩:=(show ObjOk P w H h a (.tup (ks.map kV)) from ok a _ e)
 exact ⟨o,its.toArray,n,h1,h2,h3,by simpa using items_are r⟩
theorem dt_rd {kvs:List (List Key×V)} (ok:HOk P w H h) (e:Rd H a (.dT kvs)):kvs.length≤sizeLine∧(a==sysModules)=false∧
  ∃ xs,KT H kvs xs∧h.DictOfH (tupleKind (mixKind P w)) a xs:=by
 obtain ⟨z,y,xs,r,o,es,ep,h1,h2,h3,h4,h5⟩:=(show ObjOk P w H h a (.dT kvs) from rd_of ok e)
 refine ⟨z,y,xs,r,o,es,ep,h1,h2,h3,h4,fun x hx=>?_,h5⟩
 have all:∀ {l:List (List Key×V)} {m:List (List Key×Addr×Value)},KT H l m→∀ x∈m,(tupleKind (mixKind P w)).is h x.1 x.2.1:=by
  intro l m q
  induction q with
  | nil=>intro x hx;exact nomatch hx
  | @cons p q ps qs hq t ih=>
   intro x hx
   rcases List.mem_cons.mp hx with e | hx
   ·subst e
    exact key_of ok (by rw [← hq.1];exact hq.2.1)
   ·exact ih x hx
 exact all r x hx
end
noncomputable def DGet (H:Hp) (a:Addr) (y:V) (r:Option V):Prop:=
 (∃ kvs k,Rd H a (.dK kvs)∧y=kV k∧r=valV kvs k)∨∃ kvs k b,Rd H a (.dT kvs)∧y=.ref b∧H b=some (.tup (k.map kV))∧r=valV kvs k
noncomputable def DPut (H:Hp) (a:Addr) (y v:V) (H':Hp):Prop:=
 (∃ kvs k,H a=some (.dK kvs)∧y=kV k∧kvs.length<sizeLine∧H'=upd H a (.dK (putK kvs k v)))∨
 ∃ kvs k b,H a=some (.dT kvs)∧y=.ref b∧H b=some (.tup (k.map kV))∧kvs.length<sizeLine∧H'=upd H a (.dT (putK kvs k v))
theorem DGet.k {H:Hp} {a:Addr} {kvs:List (Key×V)} {k:Key} (e:H a=some (.dK kvs)):DGet H a (kV k) (valV kvs k):=.inl ⟨kvs,k,.inl e,rfl,rfl⟩
theorem DGet.t {H:Hp} {a b:Addr} {kvs:List (List Key×V)} {k:List Key} (e:H a=some (.dT kvs)) (eb:H b=some (.tup (k.map kV))):DGet H a (.ref b) (valV kvs k):=.inr ⟨kvs,k,b,.inl e,rfl,eb,rfl⟩
theorem DPut.k {H:Hp} {a:Addr} {kvs:List (Key×V)} {k:Key} {v:V} (e:H a=some (.dK kvs)) (hl:kvs.length<sizeLine):DPut H a (kV k) v (upd H a (.dK (putK kvs k v))):=.inl ⟨kvs,k,e,rfl,hl,rfl⟩
theorem DPut.t {H:Hp} {a b:Addr} {kvs:List (List Key×V)} {k:List Key} {v:V} (e:H a=some (.dT kvs)) (eb:H b=some (.tup (k.map kV))) (hl:kvs.length<sizeLine):
  DPut H a (.ref b) v (upd H a (.dT (putK kvs k v))):=.inr ⟨kvs,k,b,e,rfl,eb,hl,rfl⟩
section
variable {X:Cx} {pins:List (Addr×Obj)} {σ:St} {H:Hp} {s:Shared} {a:Addr} {y v:V} {u r:Value} {o:Option V} {A:Around} {E:Value→Shared→Prop}
theorem Inv.big (I:Inv X pins σ H s):sysModules<s.heap.objs.size:=by
 have h:mainGlobals<s.heap.objs.size:=(I.mod.glob.keeps I.bk).lt
 exact Nat.lt_trans (by decide) h
theorem d_getItem {Q:Value→Shared→Prop} (hu:A.units+1<cLine) (I:Inv X pins σ H s) (g:DGet H a y (some v)) (ry:RelV y u) (h:∀ w' s',Inv X pins σ H s'→RelV v w'→Q w' s'):
  wpAny (model X.prog X.w) A (getItem (.ref a) u) Q E s:=by
 rcases g with ⟨kvs,k,e,ey,l⟩ | ⟨kvs,k,b,e,ey,eb,l⟩
 ·subst ey
  obtain ⟨z,hd,vs,rel,dd⟩:=dk_rd I.hok e
  obtain ⟨w',hw,rw'⟩:=RelO.some_of (v:=v) (o:=valueAt vs k) (by rw [l];exact rel.val k)
  exact wpAny_getItem_of (kV_is ry) dd.mapOf hw (h w' _ (I.tok _) rw')
 ·subst ey
  cases (show u=Value.ref b from ry)
  obtain ⟨z,hd,xs,rel,dd⟩:=dt_rd I.hok e
  obtain ⟨w',hw,rw'⟩:=RelO.some_of (v:=v) (o:=(atKey xs k).map (·.2)) (by rw [l];exact rel.val k)
  obtain ⟨p,hp,hp2⟩:=Option.map_eq_some_iff.mp hw
  refine wpAny_getItem_heap (tupleKind_room_in1 hu) (key_of I.hok eb) dd hp ?_
  rw [hp2]
  exact h w' _ (I.tok _) rw'
theorem d_write {h':Heap} {t':Nat} {ob:HO} (I:Inv X pins σ H s) (mu:Mut (H a)) (hs:Heap.SameBut a s.heap h') (he:∃ q,h'.get? a=some q) (new:ObjOk X.prog X.w (upd H a ob) h' a ob):
  Inv X pins σ (upd H a ob) {s with heap:=h',toks:=t'}:=
 I.write (x:=a) (e:=a) mu (.inl rfl) (fun b q hb z=>(hs.2 b hb).trans z) he new
theorem dk_new {P:Program} {w:World} {H':Hp} {h':Heap} {kvs:List (Key×V)} {vs:List (Key×Value)} (z:kvs.length≤sizeLine) (hd:(a==sysModules)=false) (rel:KV kvs vs) (dd:h'.DictOf (mixKind P w) a vs):
  ObjOk P w H' h' a (.dK kvs):=⟨z,hd,vs,rel,dd⟩
end
section
variable {X:Cx} {pins:List (Addr×Obj)} {σ:St} {H:Hp} {s:Shared} {a:Addr} {kvs:List (Key×V)} {k:Key} {u:Value} {A:Around} {E:Value→Shared→Prop}
end
theorem dict_typeIs {X:Cx} {pins:List (Addr×Obj)} {σ:St} {H:Hp} {s:Shared} {a:Addr} {y:V} {o:Option V} (I:Inv X pins σ H s) (g:DGet H a y o):s.TypeIs (.ref a) "dict":=by
 rcases g with ⟨kvs,k,e,_,_⟩ | ⟨kvs,k,b,e,_,_,_⟩
 ·obtain ⟨_,_,vs,_,dd⟩:=dk_rd I.hok e
  exact dd.typeIs
 ·obtain ⟨_,_,xs,_,dd⟩:=dt_rd I.hok e
  exact dd.typeIs
section
variable {X:Cx} {o i e value:Expr} {pos pos' tpos:Pos} {td ty tv:TE}
end
theorem dk_empty {P:Program} {w:World} {H:Hp} (h:Heap) (hb:sysModules<h.objs.size):ObjOk P w H (h.push {cls:=.type "dict",data:=.dict #[]}) h.objs.size (.dK []):=
 ⟨Nat.zero_le _,beq_eq_false_iff_ne.mpr (Ne.symm (Nat.ne_of_lt hb)),[],.nil,Heap.DictOf.new h⟩
section
variable {X:Cx} {pos:Pos}
end
noncomputable def tPairs:List (TE×TE)→St→Hp→(List (V×V)→Hp→Prop)→Prop
 | [],_,H,Q=>Q [] H
 | (tk,tv)::r,σ,H,Q=>tk σ H fun x H1=>tv σ H1 fun y H2=>tPairs r σ H2 fun ps H3=>Q ((x,y)::ps) H3
noncomputable abbrev VV:List (V×V)→List (Value×Value)→Prop:=Paired fun p q=>RelV p.1 q.1∧RelV p.2 q.2
noncomputable def PPs (X:Cx) (pos:Pos) (keys:List (Option Expr)) (values:List Expr) (trs:List (TE×TE)):Prop:=
 ∀ (pins:List (Addr×Obj)) (s:Shared) (σ:St) (H:Hp) (Q:List (V×V)→Hp→Prop),Inv X pins σ H s→tPairs trs σ H Q→
  wpAny (model X.prog X.w) X.A (evalPairs (pairTrees keys values X.env pos)) (fun vs s'=>∃ ps H',Inv X pins σ H' s'∧VV ps vs∧Q ps H') X.xe s
theorem pps_nil {X:Cx} {pos:Pos}:PPs X pos [] [] []:=fun pins s σ H Q I h=>pairTrees_nil_walk ⟨[],H,I,.nil,h⟩
theorem pps_cons {X:Cx} {pos:Pos} {k v:Expr} {ks:List (Option Expr)} {vs:List Expr} {tk tv:TE} {trs:List (TE×TE)} (hk:PE X k tk) (hv:PE X v tv) (hr:PPs X pos ks vs trs):
  PPs X pos (some k::ks) (v::vs) ((tk,tv)::trs):=fun pins s σ H Q I h=>
 pairTrees_cons_walk (thn (hk pins s σ H _ I h) fun u s1 ⟨x,H1,I1,rx,q1⟩=>thn (hv pins s1 σ H1 _ I1 q1) fun w2 s2 ⟨y,H2,I2,ry,q2⟩=>
  thn (hr pins s2 σ H2 _ I2 q2) fun ws s3 ⟨ps,H3,I3,rel,q3⟩=>⟨(x,y)::ps,H3,I3,.cons ⟨rx,ry⟩ rel,q3⟩)
noncomputable def mergeK (kvs more:List (Key×V)):List (Key×V):=more.foldl (fun acc kv=>putK acc kv.1 kv.2) kvs
theorem KV.merge:∀ {more:List (Key×V)} {rs:List (Key×Value)} {kvs:List (Key×V)} {vs:List (Key×Value)},KV more rs→KV kvs vs→KV (mergeK kvs more) (merged vs rs):=by
 intro more rs kvs vs r
 unfold KV at r
 induction r generalizing kvs vs with
 | nil=>intro q;exact q
 | @cons p q ps qs h t ih=>
  intro r0
  have e:KV (putK kvs p.1 p.2) (stored vs q.1 q.2):=by
   have:=r0.put p.1 h.2
   rw [← h.1];exact this
  exact ih e
theorem length_mergeK:∀ (more kvs:List (Key×V)),(mergeK kvs more).length≤kvs.length+more.length
 | [],kvs=>by show kvs.length≤kvs.length+0;lia
 | p::r,kvs=>by
  have h1:=length_mergeK r (putK kvs p.1 p.2)
  have h2:=length_putK kvs p.1 p.2
  show (mergeK (putK kvs p.1 p.2) r).length≤_
  rw [List.length_cons];lia
theorem carries_of {P:Program} {w:World}:∀ {kvs:List (Key×V)} {ws:List (Value×Value)},VV (kvs.map fun kv=>(kV kv.1,kv.2)) ws→∃ rs,Carries (mixKind P w) ws rs∧KV kvs rs
 | [],_,r=>by rw [List.map_nil] at r;cases r;exact ⟨[],True.intro,.nil⟩
 | p::kvs,_,r=>by
  rw [List.map_cons] at r
  cases r with
  | @cons a b as bs h t=>
   obtain ⟨rs,c,q⟩:=carries_of (P:=P) (w:=w) t
   obtain ⟨b1,b2⟩:=b
   exact ⟨(p.1,b2)::rs,⟨kV_is h.1,rfl,c⟩,.cons ⟨rfl,h.2⟩ q⟩
noncomputable def tDisp (trs:List (TE×TE)):TE:=fun σ H Q=>∀ p,H p=none→tPairs trs σ (upd H p (.dK [])) fun ps H2=>H2 p=some (.dK [])∧∃ kvs:List (Key×V),ps=kvs.map (fun kv=>(kV kv.1,kv.2))∧kvs.length≤15∧Q (.ref p) (upd H2 p (.dK (mergeK [] kvs)))
theorem pe_disp {X:Cx} {pos:Pos} {keys:List (Option Expr)} {values:List Expr} {trs:List (TE×TE)} (h:PPs X pos keys values trs) (hall:keys.all (·.isSome)=true) (hl:keys.length=values.length) (h0:keys≠[])
  (h15:keys.length≤15):PE X (.Dict keys values pos) (tDisp trs):=by
 intro pins s σ H Q I q
 have hn:=I.hok.fresh (Nat.le_refl s.heap.objs.size)
 have I1:=I.laid (a:=s.heap.objs.size) (o:=.dK []) (h':=s.heap.push {cls:=.type "dict",data:=.dict #[]}) (t':=s.toks) (fun _ _ q=>Heap.get?_push_of_some _ q) (Nat.le_refl _) (dk_empty s.heap I.big)
 refine wpAny_Dict_walk (knd:=mixKind X.prog X.w) hall hl h0 h15 (thn (h pins _ σ _ _ I1 (q _ hn)) fun ws s2 ⟨ps,H2,I2,rel,e,kvs,ep,lk,q2⟩=>?_)
 subst ep
 obtain ⟨rs,c,rk⟩:=carries_of (P:=X.prog) (w:=X.w) rel
 obtain ⟨z,hd,vs0,r0,dd⟩:=dk_of I2.hok e
 cases r0
 refine ⟨rs,c,dd,fun h' dd' hs=>⟨.ref s.heap.objs.size,_,?_,rfl,q2⟩⟩
 have hz:(mergeK [] kvs).length≤sizeLine:=by
  have h1:=length_mergeK kvs []
  rw [List.length_nil] at h1
  rw [sizeLine_eq];lia
 have he:∃ q,h'.get? s.heap.objs.size=some q:=let ⟨q,_,_,hq,_⟩:=dd';⟨q,hq⟩
 exact d_write I2 (by rw [e];exact True.intro) hs he (dk_new hz hd (rk.merge .nil) dd')
section
variable {X:Cx} {pins:List (Addr×Obj)} {σ:St} {H:Hp} {s:Shared} {a:Addr} {y d:V} {u r:Value} {o:Option V} {A:Around} {E:Value→Shared→Prop}
end
section
variable {X:Cx} {o e f:Expr} {apos cpos:Pos} {td ty tx:TE}
end
section
variable {X:Cx} {pins:List (Addr×Obj)} {σ:St} {H:Hp} {s:Shared} {a:Addr} {kvs:List (Key×V)} {A:Around} {E:Value→Shared→Prop}
end
section
variable {X:Cx} {pins:List (Addr×Obj)} {σ:St} {H:Hp} {s:Shared} {a:Addr} {y:V} {u:Value} {A:Around} {E:Value→Shared→Prop}
end
end L2
namespace DD
open PySem
noncomputable abbrev PV:=PyData
inductive Sl where
 | un
 | val (p:PV)
 | own (ps:List PV)
noncomputable abbrev Env:=List Sl
inductive Op1 where
 | neg | len | isTup | isList | isInt | isBool | isStr | toList | toTuple | toInt | toStr | rev | all | any | isN | notN | srt | sset | enum | srtw
 deriving DecidableEq
inductive Op2 where
 | add | sub | mul | fdiv | mod | pow | eq | ne | lt | le | gt | ge | inn | nin | ix | join | idx
 deriving DecidableEq
inductive E where
 | var (i:Nat)
 | peek (i:Nat)
 | con (p:PV)
 | nil
 | cons (h t:E)
 | tup (a:E)
 | lst (a:E)
 | op1 (o:Op1) (a:E)
 | op2 (o:Op2) (a b:E)
 | sl (a lo hi:E)
 | call (f:Nat) (a:E)
 | and (a b:E)
 | or (a b:E)
 | not (a:E)
 | ite (c a b:E)
 | chain (o o':Op2) (a b c:E)
 | comp (tg:Option Nat) (caps:List Nat) (it cond elt:E)
 | rng (a:E)
 | rng2 (a b:E)
 | dct (ks:List PV) (vs:E)
 | dgt (a k d:E)
 | lrep (a n:E)
 | skey (caps:List Nat) (it key:E)
inductive Tg where
 | one (i:Nat)
 | many (is:List Nat)
inductive S where
 | nx
 | seq (a b:S)
 | set (i:Nat) (e:E)
 | own (i:Nat) (e:E)
 | asg (t:Tg) (e:E)
 | ret (e:E)
 | ife (c:E) (a b:S)
 | loop (t:Tg) (it:E) (body:S)
 | app (i:Nat) (e:E)
 | ext (i:Nat) (e:E)
 | frz (i:Nat)
 | brk
 | cnt
inductive Out where
 | nx (ρ:Env)
 | rt (p:PV)
 | bk (ρ:Env)
 | ct (ρ:Env)
inductive Tag {A:Type} (f:A):Type where
 | mk
noncomputable def bnd {α β:Type} (x:Option α) (f:α→Option β) (_t:Tag f:=Tag.mk):Option β:=match x with
 | none=>none
 | some a=>f a
@[simp] theorem bnd_none {α β:Type} (f:α→Option β) (t:Tag f):bnd none f t=none:=rfl
@[simp] theorem bnd_some {α β:Type} (a:α) (f:α→Option β) (t:Tag f):bnd (some a) f t=f a:=rfl
theorem bnd_eq {α β:Type} {x:Option α} {f:α→Option β} {b:β}:bnd x f=some b↔∃ a,x=some a∧f a=some b:=by
 cases x with
 | none=>simp
 | some a=>simp
noncomputable def tst {α:Type} (t:Bool) (x y:α) (_a:Tag x:=Tag.mk) (_b:Tag y:=Tag.mk):α:=match t with
 | true=>x
 | false=>y
@[simp] theorem tst_true {α:Type} (x y:α) (a:Tag x) (b:Tag y):tst true x y a b=x:=rfl
@[simp] theorem tst_false {α:Type} (x y:α) (a:Tag x) (b:Tag y):tst false x y a b=y:=rfl
noncomputable def truthF:PV→Option Bool
 | .none=>some false
 | .bool b=>some b
 | .int i=>some (i != 0)
 | .str x=>some (x.length != 0)
 | .list xs=>some (!xs.isEmpty)
 | .tuple xs=>some (!xs.isEmpty)
 | .dict _=>none
section
set_option autoImplicit true
@[simp] theorem truthF_e1:truthF (.none)=some false:=rfl
@[simp] theorem truthF_e2:truthF (.bool b)=some b:=rfl
@[simp] theorem truthF_e3:truthF (.int i)=some (i != 0):=rfl
@[simp] theorem truthF_e4:truthF (.str x)=some (x.length != 0):=rfl
@[simp] theorem truthF_e5:truthF (.list xs)=some (!xs.isEmpty):=rfl
@[simp] theorem truthF_e6:truthF (.tuple xs)=some (!xs.isEmpty):=rfl
@[simp] theorem truthF_e7:truthF (.dict zu)=none:=rfl
end
noncomputable def addF:PV→PV→Option PV
 | .int i,.int j=>some (.int (i+j))
 | .str x,.str y=>if x.length+y.length≤16777216 then some (.str (x++y)) else none
 | .tuple xs,.tuple ys=>if xs.length+ys.length≤16777216 then some (.tuple (xs++ys)) else none
 | .list xs,.list ys=>if xs.length+ys.length≤16777216 then some (.list (xs++ys)) else none
 | _,_=>none
section
set_option autoImplicit true
@[simp] theorem addF_e1:addF (.int i) (.int j)=some (.int (i+j)):=rfl
@[simp] theorem addF_e2:addF (.str x) (.str y)=if x.length+y.length≤16777216 then some (.str (x++y)) else none:=rfl
@[simp] theorem addF_e3:addF (.tuple xs) (.tuple ys)=if xs.length+ys.length≤16777216 then some (.tuple (xs++ys)) else none:=rfl
@[simp] theorem addF_e4:addF (.list xs) (.list ys)=if xs.length+ys.length≤16777216 then some (.list (xs++ys)) else none:=rfl
end
noncomputable def subF:PV→PV→Option PV
 | .int i,.int j=>some (.int (i - j))
 | _,_=>none
section
set_option autoImplicit true
@[simp] theorem subF_e1:subF (.int i) (.int j)=some (.int (i - j)):=rfl
end
noncomputable def small (i:Int):Bool:=decide (-(2 ^ 64)<i)&&decide (i<2 ^ 64)
noncomputable def repL {α:Type} (xs:List α) (n:Int):List α:=(List.replicate n.toNat xs).flatten
noncomputable def mulF:PV→PV→Option PV
 | .int i,.int j=>if small i||small j then some (.int (i * j)) else none
 | _,_=>none
section
set_option autoImplicit true
@[simp] theorem mulF_e1:mulF (.int i) (.int j)=if small i||small j then some (.int (i * j)) else none:=rfl
end
noncomputable def fdivF:PV→PV→Option PV
 | .int i,.int j=>if 0<j∧j<1073741824 then some (.int (i / j)) else none
 | _,_=>none
section
set_option autoImplicit true
@[simp] theorem fdivF_e1:fdivF (.int i) (.int j)=if 0<j∧j<1073741824 then some (.int (i / j)) else none:=rfl
end
noncomputable def modF:PV→PV→Option PV
 | .int i,.int j=>if 0<j then some (.int (i % j)) else none
 | _,_=>none
section
set_option autoImplicit true
@[simp] theorem modF_e1:modF (.int i) (.int j)=if 0<j then some (.int (i % j)) else none:=rfl
end
noncomputable def powF:PV→PV→Option PV
 | .int i,.int j=>if i=10∧0≤j∧j≤64 then some (.int (10 ^ j.toNat)) else none
 | _,_=>none
section
set_option autoImplicit true
@[simp] theorem powF_e1:powF (.int i) (.int j)=if i=10∧0≤j∧j≤64 then some (.int (10 ^ j.toNat)) else none:=rfl
end
noncomputable def isDict:PV→Bool
 | .dict _=>true
 | _=>false
@[simp] theorem isDict_none:isDict .none=false:=by first | exact (eq_of_beq (Eq.refl true)) | rfl
@[simp] theorem isDict_bool (b:Bool):isDict (.bool b)=false:=by first | exact (eq_of_beq (Eq.refl true)) | rfl
@[simp] theorem isDict_int (i:Int):isDict (.int i)=false:=by first | exact (eq_of_beq (Eq.refl true)) | rfl
@[simp] theorem isDict_str (x:Str):isDict (.str x)=false:=by first | exact (eq_of_beq (Eq.refl true)) | rfl
@[simp] theorem isDict_list (xs:List PV):isDict (.list xs)=false:=by first | exact (eq_of_beq (Eq.refl true)) | rfl
@[simp] theorem isDict_tuple (xs:List PV):isDict (.tuple xs)=false:=by first | exact (eq_of_beq (Eq.refl true)) | rfl
@[simp] theorem isDict_dict (kvs:List (PV×PV)):isDict (.dict kvs)=true:=by first | exact (eq_of_beq (Eq.refl true)) | rfl
noncomputable def eqF (p q:PV):Option Bool:=if isDict p||isDict q then none else if min p.depth q.depth≤180 then some (PyData.eqv p q) else none
@[simp] noncomputable def intsOf:List PV→Option (List Int)
 | []=>some []
 | .int i::r=>bnd (intsOf r) fun q=>some (i::q)
 | _=>none
noncomputable def lexLt:List Int→List Int→Bool
 | [],[]=>false
 | [],_::_=>true
 | _::_,[]=>false
 | x::xs,y::ys=>if x=y then lexLt xs ys else decide (x<y)
noncomputable def ltF:PV→PV→Option PV
 | .int i,.int j=>some (.bool (decide (i<j)))
 | .tuple xs,.tuple ys=>bnd (intsOf xs) fun ns=>bnd (intsOf ys) fun ms=>some (.bool (lexLt ns ms))
 | _,_=>none
section
set_option autoImplicit true
@[simp] theorem ltF_e1:ltF (.int i) (.int j)=some (.bool (decide (i<j))):=rfl
@[simp] theorem ltF_e2:ltF (.tuple xs) (.tuple ys)=bnd (intsOf xs) fun ns=>bnd (intsOf ys) fun ms=>some (.bool (lexLt ns ms)):=rfl
end
noncomputable def cmpI (f:Int→Int→Bool):PV→PV→Option PV
 | .int i,.int j=>some (.bool (f i j))
 | _,_=>none
section
set_option autoImplicit true
@[simp] theorem cmpI_e1 (f:Int→Int→Bool):cmpI f (.int i) (.int j)=some (.bool (f i j)):=rfl
end
noncomputable def inF (x:PV):PV→Option Bool
 | .list ys=>if isDict x then none else if min (PyData.depthAll ys) x.depth≤180 then some (ys.any fun y=>PyData.eqv y x) else none
 | .tuple ys=>if isDict x then none else if min (PyData.depthAll ys) x.depth≤180 then some (ys.any fun y=>PyData.eqv y x) else none
 | _=>none
noncomputable def ixN (n:Nat) (i:Int):Option Nat:=if 0≤i then (if i<n then some i.toNat else none) else if -(n:Int)≤i then some (i+n).toNat else none
noncomputable def atI {α:Type} (xs:List α) (i:Int):Option α:=(ixN xs.length i).bind fun j=>xs[j]?
noncomputable def keyEq:PV→PV→Bool
 | .str a,.str b=>a==b
 | .int a,.int b=>a==b
 | _,_=>false
noncomputable def isKey:PV→Bool
 | .str _=>true
 | .int _=>true
 | _=>false
section
set_option autoImplicit true
@[simp] theorem isKey_e1:isKey (.str zu)=true:=rfl
@[simp] theorem isKey_e2:isKey (.int zu)=true:=rfl
end
noncomputable def dlook (x:PV):List (PV×PV)→Option PV
 | []=>none
 | (k,v)::r=>if keyEq k x then some v else dlook x r
noncomputable def ixF:PV→PV→Option PV
 | .dict kvs,x=>tst (isKey x) (dlook x kvs) none
 | .tuple xs,.int i=>atI xs i
 | .list xs,.int i=>atI xs i
 | .str x,.int i=>bnd (atI x.cps.toList i) fun c=>some (.str ⟨#[c]⟩)
 | _,_=>none
section
set_option autoImplicit true
@[simp] theorem ixF_e1:ixF (.dict kvs) (x)=tst (isKey x) (dlook x kvs) none:=rfl
@[simp] theorem ixF_e2:ixF (.tuple xs) (.int i)=atI xs i:=rfl
@[simp] theorem ixF_e3:ixF (.list xs) (.int i)=atI xs i:=rfl
@[simp] theorem ixF_e4:ixF (.str x) (.int i)=bnd (atI x.cps.toList i) fun c=>some (.str ⟨#[c]⟩):=rfl
end
@[simp] noncomputable def strsOf:List PV→Option (List Str)
 | []=>some []
 | .str x::r=>bnd (strsOf r) fun q=>some (x::q)
 | _=>none
noncomputable def joinS (sep:Str):List Str→Str
 | []=>⟨#[]⟩
 | [x]=>x
 | x::y::r=>x++sep++joinS sep (y::r)
noncomputable def joinF:PV→PV→Option PV
 | .str sep,.list ys=>bnd (strsOf ys) fun xs=>if (xs.map Str.length).sum+xs.length * sep.length≤16777216 then some (.str (joinS sep xs)) else none
 | _,_=>none
section
set_option autoImplicit true
@[simp] theorem joinF_e1:joinF (.str sep) (.list ys)=bnd (strsOf ys) fun xs=>if (xs.map Str.length).sum+xs.length * sep.length≤16777216 then some (.str (joinS sep xs)) else none:=rfl
end
@[simp] noncomputable def tupsOf:List PV→Option (List (List Int))
 | []=>some []
 | .tuple xs::r=>bnd (intsOf xs) fun x=>bnd (tupsOf r) fun q=>some (x::q)
 | _=>none
noncomputable def insL {α:Type} (lt:α→α→Bool) (x:α):List α→List α
 | []=>[x]
 | y::r=>if lt y x then y::insL lt x r else x::y::r
noncomputable def srtL {α:Type} (lt:α→α→Bool):List α→List α
 | []=>[]
 | x::r=>insL lt x (srtL lt r)
noncomputable def ltI (i j:Int):Bool:=decide (i<j)
noncomputable def intsPv (ns:List Int):List PV:=ns.map .int
noncomputable def tupsPv (ns:List (List Int)):List PV:=ns.map fun t=>.tuple (intsPv t)
noncomputable def dup {α:Type} [BEq α]:List α→List α
 | []=>[]
 | x::r=>if r.contains x then dup r else x::dup r
noncomputable def full64:List (List Int):=(List.range 16).flatMap fun k=>[[(k / 4:Nat),(k % 4:Nat)],[(k / 4:Nat),(k % 4+4:Nat)],[(k / 4+4:Nat),(k % 4:Nat)],[(k / 4+4:Nat),(k % 4+4:Nat)]]
noncomputable def srtF:List PV→Option PV
 | []=>some (.list [])
 | .int i::r=>bnd (intsOf (.int i::r)) fun ns=>tst (decide (ns.length<64)) (some (.list (intsPv (srtL ltI ns)))) none
 | .tuple t::r=>bnd (tupsOf (.tuple t::r)) fun ns=>tst ((decide (ns.length<64)||decide (ns=full64))&&ns.all fun n=>!n.isEmpty) (some (.list (tupsPv (srtL lexLt ns)))) none
 | _=>none
noncomputable def lexG {α:Type} [DecidableEq α] (lt:α→α→Bool):List α→List α→Bool
 | [],[]=>false
 | [],_::_=>true
 | _::_,[]=>false
 | x::xs,y::ys=>if x=y then lexG lt xs ys else lt x y
noncomputable abbrev WK:=List (List (List Int))
noncomputable def ltW:WK→WK→Bool:=lexG (lexG lexLt)
noncomputable def pvW:WK→PV
 | [[[m]],[as],[bs],es]=>.tuple [.int m,.tuple (intsPv as),.tuple (intsPv bs),.tuple (tupsPv es)]
 | _=>.tuple []
noncomputable def wldOf:PV→Option WK
 | .tuple [.int m,.tuple as,.tuple bs,.tuple es]=>bnd (intsOf as) fun a=>bnd (intsOf bs) fun b=>bnd (tupsOf es) fun e=>some [[[m]],[a],[b],e]
 | _=>none
noncomputable def wldsOf:List PV→Option (List WK)
 | []=>some []
 | x::r=>bnd (wldOf x) fun k=>bnd (wldsOf r) fun q=>some (k::q)
noncomputable def srtwF (xs:List PV):Option PV:=bnd (wldsOf xs) fun ks=>tst (decide (ks.length≤1000)) (some (.list ((srtL ltW ks).map pvW))) none
noncomputable def enumF:List PV→Nat→List PV
 | [],_=>[]
 | x::xs,k=>.tuple [.int (k:Nat),x]::enumF xs (k+1)
noncomputable def srtK (ns:List Int) (xs:List PV):List PV:=(srtL (fun (a b:Int×PV)=>ltI a.1 b.1) (ns.zip xs)).map (·.2)
noncomputable def idxL (x:PV):List PV→Nat→Option Nat
 | [],_=>none
 | y::r,k=>if PyData.eqv y x then some k else idxL x r (k+1)
noncomputable def idxF:PV→PV→Option PV
 | .list ys,x=>if isDict x then none else if min (PyData.depthAll ys) x.depth≤180 then bnd (idxL x ys 0) fun k=>some (.int (k:Nat)) else none
 | _,_=>none
@[simp] theorem idxF_e1 (ys:List PV) (x:PV):idxF (.list ys) x=if isDict x then none else if min (PyData.depthAll ys) x.depth≤180 then bnd (idxL x ys 0) fun k=>some (.int (k:Nat)) else none:=rfl
noncomputable def ssF:List PV→Option PV
 | []=>some (.list [])
 | .int i::r=>bnd (intsOf (.int i::r)) fun ns=>tst (decide ((dup ns).length<64)) (some (.list (intsPv (srtL ltI (dup ns))))) none
 | .tuple t::r=>bnd (tupsOf (.tuple t::r)) fun ns=>tst (decide ((dup ns).length<64)&&ns.all fun n=>!n.isEmpty) (some (.list (tupsPv (srtL lexLt (dup ns))))) none
 | _=>none
noncomputable def seqOf:PV→Option (List PV)
 | .list xs=>some xs
 | .tuple xs=>some xs
 | _=>none
section
set_option autoImplicit true
@[simp] theorem seqOf_e1:seqOf (.list xs)=some xs:=rfl
@[simp] theorem seqOf_e2:seqOf (.tuple xs)=some xs:=rfl
end
@[simp] noncomputable def truths:List PV→Option (List Bool)
 | []=>some []
 | .bool b::r=>bnd (truths r) fun q=>some (b::q)
 | _=>none
noncomputable def tupB:PV→Bool
 | .tuple _=>true
 | _=>false
@[simp] theorem tupB_none :tupB .none=false:=by first | exact (eq_of_beq (Eq.refl true)) | rfl
@[simp] theorem tupB_bool (b:Bool):tupB (.bool b)=false:=by first | exact (eq_of_beq (Eq.refl true)) | rfl
@[simp] theorem tupB_int (i:Int):tupB (.int i)=false:=by first | exact (eq_of_beq (Eq.refl true)) | rfl
@[simp] theorem tupB_str (x:Str):tupB (.str x)=false:=by first | exact (eq_of_beq (Eq.refl true)) | rfl
@[simp] theorem tupB_list (xs:List PV):tupB (.list xs)=false:=by first | exact (eq_of_beq (Eq.refl true)) | rfl
@[simp] theorem tupB_tuple (xs:List PV):tupB (.tuple xs)=true:=by first | exact (eq_of_beq (Eq.refl true)) | rfl
noncomputable def lstB:PV→Bool
 | .list _=>true
 | _=>false
@[simp] theorem lstB_none :lstB .none=false:=by first | exact (eq_of_beq (Eq.refl true)) | rfl
@[simp] theorem lstB_bool (b:Bool):lstB (.bool b)=false:=by first | exact (eq_of_beq (Eq.refl true)) | rfl
@[simp] theorem lstB_int (i:Int):lstB (.int i)=false:=by first | exact (eq_of_beq (Eq.refl true)) | rfl
@[simp] theorem lstB_str (x:Str):lstB (.str x)=false:=by first | exact (eq_of_beq (Eq.refl true)) | rfl
@[simp] theorem lstB_list (xs:List PV):lstB (.list xs)=true:=by first | exact (eq_of_beq (Eq.refl true)) | rfl
@[simp] theorem lstB_tuple (xs:List PV):lstB (.tuple xs)=false:=by first | exact (eq_of_beq (Eq.refl true)) | rfl
noncomputable def intB:PV→Bool
 | .int _=>true
 | .bool _=>true
 | _=>false
@[simp] theorem intB_none :intB .none=false:=by first | exact (eq_of_beq (Eq.refl true)) | rfl
@[simp] theorem intB_bool (b:Bool):intB (.bool b)=true:=by first | exact (eq_of_beq (Eq.refl true)) | rfl
@[simp] theorem intB_int (i:Int):intB (.int i)=true:=by first | exact (eq_of_beq (Eq.refl true)) | rfl
@[simp] theorem intB_str (x:Str):intB (.str x)=false:=by first | exact (eq_of_beq (Eq.refl true)) | rfl
@[simp] theorem intB_list (xs:List PV):intB (.list xs)=false:=by first | exact (eq_of_beq (Eq.refl true)) | rfl
@[simp] theorem intB_tuple (xs:List PV):intB (.tuple xs)=false:=by first | exact (eq_of_beq (Eq.refl true)) | rfl
noncomputable def boolB:PV→Bool
 | .bool _=>true
 | _=>false
@[simp] theorem boolB_none :boolB .none=false:=by first | exact (eq_of_beq (Eq.refl true)) | rfl
@[simp] theorem boolB_bool (b:Bool):boolB (.bool b)=true:=by first | exact (eq_of_beq (Eq.refl true)) | rfl
@[simp] theorem boolB_int (i:Int):boolB (.int i)=false:=by first | exact (eq_of_beq (Eq.refl true)) | rfl
@[simp] theorem boolB_str (x:Str):boolB (.str x)=false:=by first | exact (eq_of_beq (Eq.refl true)) | rfl
@[simp] theorem boolB_list (xs:List PV):boolB (.list xs)=false:=by first | exact (eq_of_beq (Eq.refl true)) | rfl
@[simp] theorem boolB_tuple (xs:List PV):boolB (.tuple xs)=false:=by first | exact (eq_of_beq (Eq.refl true)) | rfl
noncomputable def strB:PV→Bool
 | .str _=>true
 | _=>false
@[simp] theorem strB_none :strB .none=false:=by first | exact (eq_of_beq (Eq.refl true)) | rfl
@[simp] theorem strB_bool (b:Bool):strB (.bool b)=false:=by first | exact (eq_of_beq (Eq.refl true)) | rfl
@[simp] theorem strB_int (i:Int):strB (.int i)=false:=by first | exact (eq_of_beq (Eq.refl true)) | rfl
@[simp] theorem strB_str (x:Str):strB (.str x)=true:=by first | exact (eq_of_beq (Eq.refl true)) | rfl
@[simp] theorem strB_list (xs:List PV):strB (.list xs)=false:=by first | exact (eq_of_beq (Eq.refl true)) | rfl
@[simp] theorem strB_tuple (xs:List PV):strB (.tuple xs)=false:=by first | exact (eq_of_beq (Eq.refl true)) | rfl
noncomputable def nonB:PV→Bool
 | .none=>true
 | _=>false
@[simp] theorem nonB_none :nonB .none=true:=by first | exact (eq_of_beq (Eq.refl true)) | rfl
@[simp] theorem nonB_bool (b:Bool):nonB (.bool b)=false:=by first | exact (eq_of_beq (Eq.refl true)) | rfl
@[simp] theorem nonB_int (i:Int):nonB (.int i)=false:=by first | exact (eq_of_beq (Eq.refl true)) | rfl
@[simp] theorem nonB_str (x:Str):nonB (.str x)=false:=by first | exact (eq_of_beq (Eq.refl true)) | rfl
@[simp] theorem nonB_list (xs:List PV):nonB (.list xs)=false:=by first | exact (eq_of_beq (Eq.refl true)) | rfl
@[simp] theorem nonB_tuple (xs:List PV):nonB (.tuple xs)=false:=by first | exact (eq_of_beq (Eq.refl true)) | rfl
noncomputable def intStr (i:Int):Str:=(toString i:String)
noncomputable def opF1:Op1→PV→Option PV
 | .neg,.int i=>some (.int (-i))
 | .len,.tuple xs=>some (.int xs.length)
 | .len,.list xs=>some (.int xs.length)
 | .len,.str x=>some (.int x.length)
 | .isTup,p=>tst (isDict p) none (some (.bool (tupB p)))
 | .isList,p=>tst (isDict p) none (some (.bool (lstB p)))
 | .isInt,p=>tst (isDict p) none (some (.bool (intB p)))
 | .isBool,p=>tst (isDict p) none (some (.bool (boolB p)))
 | .isStr,p=>tst (isDict p) none (some (.bool (strB p)))
 | .toList,.tuple xs=>some (.list xs)
 | .toList,.list xs=>some (.list xs)
 | .toTuple,.tuple xs=>some (.tuple xs)
 | .toTuple,.list xs=>some (.tuple xs)
 | .toInt,.bool b=>some (.int (if b then 1 else 0))
 | .toInt,.int i=>some (.int i)
 | .toStr,.int i=>if i.natAbs<2 ^ 64 then some (.str (intStr i)) else none
 | .rev,.tuple xs=>some (.tuple xs.reverse)
 | .all,.list xs=>bnd (truths xs) fun bs=>some (.bool (bs.all id))
 | .any,.list xs=>bnd (truths xs) fun bs=>some (.bool (bs.any id))
 | .srt,.list xs=>srtF xs
 | .srt,.tuple xs=>srtF xs
 | .srtw,.list xs=>srtwF xs
 | .sset,.tuple xs=>ssF xs
 | .enum,.tuple xs=>some (.list (enumF xs 0))
 | .isN,p=>some (.bool (nonB p))
 | .notN,p=>some (.bool (!nonB p))
 | _,_=>none
section
set_option autoImplicit true
@[simp] theorem opF1_e1:opF1 (.neg) (.int i)=some (.int (-i)):=rfl
@[simp] theorem opF1_e2:opF1 (.len) (.tuple xs)=some (.int xs.length):=rfl
@[simp] theorem opF1_e3:opF1 (.len) (.list xs)=some (.int xs.length):=rfl
@[simp] theorem opF1_e4:opF1 (.len) (.str x)=some (.int x.length):=rfl
@[simp] theorem opF1_e5:opF1 (.isTup) (p)=tst (isDict p) none (some (.bool (tupB p))):=rfl
@[simp] theorem opF1_e6:opF1 (.isList) (p)=tst (isDict p) none (some (.bool (lstB p))):=rfl
@[simp] theorem opF1_e7:opF1 (.isInt) (p)=tst (isDict p) none (some (.bool (intB p))):=rfl
@[simp] theorem opF1_e8:opF1 (.isBool) (p)=tst (isDict p) none (some (.bool (boolB p))):=rfl
@[simp] theorem opF1_e9:opF1 (.isStr) (p)=tst (isDict p) none (some (.bool (strB p))):=rfl
@[simp] theorem opF1_e10:opF1 (.toList) (.tuple xs)=some (.list xs):=rfl
@[simp] theorem opF1_e11:opF1 (.toList) (.list xs)=some (.list xs):=rfl
@[simp] theorem opF1_e12:opF1 (.toTuple) (.tuple xs)=some (.tuple xs):=rfl
@[simp] theorem opF1_e13:opF1 (.toTuple) (.list xs)=some (.tuple xs):=rfl
@[simp] theorem opF1_e14:opF1 (.toInt) (.bool b)=some (.int (if b then 1 else 0)):=rfl
@[simp] theorem opF1_e15:opF1 (.toInt) (.int i)=some (.int i):=rfl
@[simp] theorem opF1_e16:opF1 (.toStr) (.int i)=if i.natAbs<2 ^ 64 then some (.str (intStr i)) else none:=rfl
@[simp] theorem opF1_e17:opF1 (.rev) (.tuple xs)=some (.tuple xs.reverse):=rfl
@[simp] theorem opF1_e19:opF1 (.all) (.list xs)=bnd (truths xs) fun bs=>some (.bool (bs.all id)):=rfl
@[simp] theorem opF1_e20:opF1 (.any) (.list xs)=bnd (truths xs) fun bs=>some (.bool (bs.any id)):=rfl
@[simp] theorem opF1_e21:opF1 (.srt) (.list xs)=srtF xs:=rfl
@[simp] theorem opF1_e22:opF1 (.srt) (.tuple xs)=srtF xs:=rfl
@[simp] theorem opF1_w:opF1 (.srtw) (.list xs)=srtwF xs:=rfl
@[simp] theorem opF1_e24:opF1 (.sset) (.tuple xs)=ssF xs:=rfl
@[simp] theorem opF1_e27:opF1 (.enum) (.tuple xs)=some (.list (enumF xs 0)):=rfl
@[simp] theorem opF1_e25:opF1 (.isN) (p)=some (.bool (nonB p)):=rfl
@[simp] theorem opF1_e26:opF1 (.notN) (p)=some (.bool (!nonB p)):=rfl
end
@[simp] noncomputable def opF2:Op2→PV→PV→Option PV
 | .add=>addF
 | .sub=>subF
 | .mul=>mulF
 | .fdiv=>fdivF
 | .mod=>modF
 | .pow=>powF
 | .eq=>fun p q=>bnd (eqF p q) fun b=>some (.bool b)
 | .ne=>fun p q=>bnd (eqF p q) fun b=>some (.bool (!b))
 | .lt=>ltF
 | .le=>cmpI fun i j=>decide (i≤j)
 | .gt=>cmpI fun i j=>decide (j<i)
 | .ge=>cmpI fun i j=>decide (j≤i)
 | .inn=>fun p q=>bnd (inF p q) fun b=>some (.bool b)
 | .nin=>fun p q=>bnd (inF p q) fun b=>some (.bool (!b))
 | .ix=>ixF
 | .join=>joinF
 | .idx=>idxF
noncomputable def sIx (n d:Nat):Option Int→Nat
 | none=>d
 | some v=>if v<0 then (v+(n:Int)).toNat else min v.toNat n
noncomputable def cut {α:Type} (xs:List α) (lo hi:Option Int):List α:=(xs.drop (sIx xs.length 0 lo)).take (sIx xs.length xs.length hi - sIx xs.length 0 lo)
noncomputable def partF:PV→Option (Option Int)
 | .none=>some none
 | .int i=>some (some i)
 | _=>none
section
set_option autoImplicit true
@[simp] theorem partF_e1:partF (.none)=some none:=rfl
@[simp] theorem partF_e2:partF (.int i)=some (some i):=rfl
end
noncomputable def cutF (l h:Option Int):PV→Option PV
 | .tuple xs=>some (.tuple (cut xs l h))
 | .list xs=>some (.list (cut xs l h))
 | _=>none
section
set_option autoImplicit true
@[simp] theorem cutF_e1 (l h:Option Int):cutF l h (.tuple xs)=some (.tuple (cut xs l h)):=rfl
@[simp] theorem cutF_e2 (l h:Option Int):cutF l h (.list xs)=some (.list (cut xs l h)):=rfl
end
@[simp] noncomputable def slF (x lo hi:PV):Option PV:=bnd (partF lo) fun l=>bnd (partF hi) fun h=>cutF l h x
@[simp] noncomputable def rngF (lo hi:Int):Option PV:=if -1000000≤lo∧lo≤1000000∧-1000000≤hi∧hi≤1000000 then some (.list ((List.range (hi - lo).toNat).map fun k=>.int (lo+(k:Nat)))) else none
noncomputable def Sl.get:Sl→Option PV
 | .val p=>some p
 | _=>none
section
set_option autoImplicit true
@[simp] theorem Sl_get_e1:Sl.get (.val p)=some p:=rfl
end
noncomputable def Sl.look:Sl→Option PV
 | .val p=>some p
 | .own ps=>some (.list ps)
 | .un=>none
section
set_option autoImplicit true
@[simp] theorem Sl_look_e1:Sl.look (.val p)=some p:=rfl
@[simp] theorem Sl_look_e2:Sl.look (.own ps)=some (.list ps):=rfl
@[simp] theorem Sl_look_e3:Sl.look (.un)=none:=rfl
end
noncomputable def bindT:Option Nat→PV→Option (List Sl)
 | none,p=>some [.val p]
 | some n,.tuple xs=>if xs.length=n then some (xs.map .val) else none
 | _,_=>none
section
set_option autoImplicit true
@[simp] theorem bindT_e1:bindT (none) (p)=some [.val p]:=rfl
@[simp] theorem bindT_e2:bindT (some n) (.tuple xs)=if xs.length=n then some (xs.map .val) else none:=rfl
end
@[simp] noncomputable def addO:Option PV→List PV→List PV
 | some y,r=>y::r
 | none,r=>r
noncomputable def compF (g:PV→Option (Option PV)):List PV→Option (List PV)
 | []=>some []
 | x::xs=>bnd (g x) fun o=>bnd (compF g xs) fun r=>some (addO o r)
noncomputable def consF (x:PV):PV→Option PV
 | .tuple xs=>some (.tuple (x::xs))
 | _=>none
section
set_option autoImplicit true
@[simp] theorem consF_e1 (x:PV):consF x (.tuple xs)=some (.tuple (x::xs)):=rfl
end
noncomputable def lrepF:PV→PV→Option PV
 | .list xs,.int j=>if xs.length * j.toNat≤16777216∧-1000000<j∧j<16777216 then some (.list (repL xs j)) else none
 | _,_=>none
@[simp] theorem lrepF_e (xs:List PV) (j:Int):lrepF (.list xs) (.int j)=if xs.length * j.toNat≤16777216∧-1000000<j∧j<16777216 then some (.list (repL xs j)) else none:=rfl
@[simp] noncomputable def anyD:List PV→Bool
 | []=>false
 | x::r=>isDict x||anyD r
noncomputable def lstF:PV→Option PV
 | .tuple xs=>tst (anyD xs) none (some (.list xs))
 | _=>none
section
set_option autoImplicit true
@[simp] theorem lstF_e1:lstF (.tuple xs)=tst (anyD xs) none (some (.list xs)):=rfl
end
noncomputable def tupF:PV→Option PV
 | .tuple xs=>tst (anyD xs) none (some (.tuple xs))
 | _=>none
section
set_option autoImplicit true
@[simp] theorem tupF_e1:tupF (.tuple xs)=tst (anyD xs) none (some (.tuple xs)):=rfl
end
noncomputable def dctF (ks:List PV):PV→Option PV
 | .tuple xs=>tst (anyD xs||ks.length != xs.length) none (some (.dict (ks.zip xs)))
 | _=>none
section
set_option autoImplicit true
@[simp] theorem dctF_e1 (ks:List PV):dctF ks (.tuple xs)=tst (anyD xs||ks.length != xs.length) none (some (.dict (ks.zip xs))):=rfl
end
noncomputable def dgtF (x d:PV):PV→Option PV
 | .dict kvs=>tst (isKey x) (some ((dlook x kvs).getD d)) none
 | _=>none
section
set_option autoImplicit true
end
noncomputable def eltF (y:PV):Option (Option PV):=tst (isDict y) none (some (some y))
@[simp] theorem eltF_e1 (y:PV):eltF y=tst (isDict y) none (some (some y)):=rfl
noncomputable def callF (cf:Nat→List PV→Option PV) (f:Nat):PV→Option PV
 | .tuple xs=>cf f xs
 | _=>none
section
set_option autoImplicit true
@[simp] theorem callF_e1 (cf:Nat→List PV→Option PV) (f:Nat):callF cf f (.tuple xs)=cf f xs:=rfl
end
noncomputable def chainF (k:Unit→Option PV):PV→Option PV
 | .bool true=>k ()
 | .bool false=>some (.bool false)
 | _=>none
section
set_option autoImplicit true
@[simp] theorem chainF_e1 (k:Unit→Option PV):chainF k (.bool true)=k ():=rfl
@[simp] theorem chainF_e2 (k:Unit→Option PV):chainF k (.bool false)=some (.bool false):=rfl
end
noncomputable def rngI:PV→PV→Option PV
 | .int m,.int n=>rngF m n
 | _,_=>none
section
set_option autoImplicit true
@[simp] theorem rngI_e1:rngI (.int m) (.int n)=rngF m n:=rfl
end
@[simp] noncomputable def evE (cf:Nat→List PV→Option PV):E→Env→Option PV
 | .var i,ρ=>bnd ρ[i]? Sl.get
 | .peek i,ρ=>bnd ρ[i]? Sl.look
 | .con p,_=>some p
 | .nil,_=>some (.tuple [])
 | .cons h t,ρ=>bnd (evE cf h ρ) fun x=>bnd (evE cf t ρ) (consF x)
 | .tup a,ρ=>bnd (evE cf a ρ) tupF
 | .lst a,ρ=>bnd (evE cf a ρ) lstF
 | .op1 o a,ρ=>bnd (evE cf a ρ) (opF1 o)
 | .op2 o a b,ρ=>bnd (evE cf a ρ) fun x=>bnd (evE cf b ρ) fun y=>opF2 o x y
 | .sl a lo hi,ρ=>bnd (evE cf a ρ) fun x=>bnd (evE cf lo ρ) fun l=>bnd (evE cf hi ρ) fun h=>slF x l h
 | .call f a,ρ=>bnd (evE cf a ρ) (callF cf f)
 | .and a b,ρ=>bnd (evE cf a ρ) fun x=>bnd (truthF x) fun t=>tst t (evE cf b ρ) (some x)
 | .or a b,ρ=>bnd (evE cf a ρ) fun x=>bnd (truthF x) fun t=>tst t (some x) (evE cf b ρ)
 | .not a,ρ=>bnd (evE cf a ρ) fun x=>bnd (truthF x) fun t=>some (.bool (!t))
 | .ite c a b,ρ=>bnd (evE cf c ρ) fun x=>bnd (truthF x) fun t=>tst t (evE cf a ρ) (evE cf b ρ)
 | .chain o o' a b c,ρ=>bnd (evE cf a ρ) fun x=>bnd (evE cf b ρ) fun y=>bnd (opF2 o x y) (chainF fun _=>bnd (evE cf c ρ) fun z=>opF2 o' y z)
 | .comp tg caps it cond elt,ρ=>bnd (evE cf it ρ) fun s=>bnd (seqOf s) fun xs=>
  bnd (compF (fun x=>bnd (bindT tg x) fun bs=>bnd (evE cf cond (bs++caps.map (ρ.getD · .un))) fun c=>bnd (truthF c) fun t=>
   tst t (bnd (evE cf elt (bs++caps.map (ρ.getD · .un))) eltF) (some none)) xs) fun r=>some (.list r)
 | .rng a,ρ=>bnd (evE cf a ρ) fun x=>rngI (.int 0) x
 | .rng2 a b,ρ=>bnd (evE cf a ρ) fun x=>bnd (evE cf b ρ) fun y=>rngI x y
 | .dct ks vs,ρ=>bnd (evE cf vs ρ) (dctF ks)
 | .dgt a k d,ρ=>bnd (evE cf a ρ) fun x=>bnd (evE cf k ρ) fun y=>bnd (evE cf d ρ) fun z=>dgtF y z x
 | .lrep a n,ρ=>bnd (bnd (evE cf a ρ) lstF) fun x=>bnd (evE cf n ρ) fun y=>lrepF x y
 | .skey caps it key,ρ=>bnd (evE cf it ρ) fun s=>bnd (seqOf s) fun xs=>
  bnd (compF (fun x=>bnd (evE cf key (.val x::caps.map (ρ.getD · .un))) eltF) xs) fun ks=>bnd (intsOf ks) fun ns=>tst (decide (xs.length<64)) (some (.list (srtK ns xs))) none
@[simp] noncomputable def setMany:List Nat→List PV→Env→Option Env
 | [],[],ρ=>some ρ
 | i::is,x::xs,ρ=>setMany is xs (ρ.set i (.val x))
 | _,_,_=>none
noncomputable def bindS:Tg→PV→Env→Option Env
 | .one i,p,ρ=>some (ρ.set i (.val p))
 | .many is,.tuple xs,ρ=>setMany is xs ρ
 | .many _,_,_=>none
section
set_option autoImplicit true
@[simp] theorem bindS_e1:bindS (.one i) (p) (ρ)=some (ρ.set i (.val p)):=rfl
@[simp] theorem bindS_e2:bindS (.many is) (.tuple xs) (ρ)=setMany is xs ρ:=rfl
end
noncomputable def seqO (x:Option Out) (f:Env→Option Out) (_t:Tag f:=Tag.mk):Option Out:=match x with
 | none=>none
 | some (.nx ρ)=>f ρ
 | some o=>some o
@[simp] theorem seqO_none (f:Env→Option Out) (t:Tag f):seqO none f t=none:=rfl
@[simp] theorem seqO_nx (ρ:Env) (f:Env→Option Out) (t:Tag f):seqO (some (.nx ρ)) f t=f ρ:=rfl
@[simp] theorem seqO_rt (p:PV) (f:Env→Option Out) (t:Tag f):seqO (some (.rt p)) f t=some (.rt p):=rfl
@[simp] theorem seqO_bk (ρ:Env) (f:Env→Option Out) (t:Tag f):seqO (some (.bk ρ)) f t=some (.bk ρ):=rfl
@[simp] theorem seqO_ct (ρ:Env) (f:Env→Option Out) (t:Tag f):seqO (some (.ct ρ)) f t=some (.ct ρ):=rfl
noncomputable def turnO (x:Option Out) (f:Env→Option Out) (_t:Tag f:=Tag.mk):Option Out:=match x with
 | none=>none
 | some (.nx ρ)=>f ρ
 | some (.ct ρ)=>f ρ
 | some (.bk ρ)=>some (.nx ρ)
 | some (.rt p)=>some (.rt p)
@[simp] theorem turnO_none (f:Env→Option Out) (t:Tag f):turnO none f t=none:=rfl
@[simp] theorem turnO_nx (ρ:Env) (f:Env→Option Out) (t:Tag f):turnO (some (.nx ρ)) f t=f ρ:=rfl
@[simp] theorem turnO_rt (p:PV) (f:Env→Option Out) (t:Tag f):turnO (some (.rt p)) f t=some (.rt p):=rfl
@[simp] theorem turnO_bk (ρ:Env) (f:Env→Option Out) (t:Tag f):turnO (some (.bk ρ)) f t=some (.nx ρ):=rfl
@[simp] theorem turnO_ct (ρ:Env) (f:Env→Option Out) (t:Tag f):turnO (some (.ct ρ)) f t=f ρ:=rfl
noncomputable def loopF (tg:Tg) (g:Env→Option Out):List PV→Env→Option Out
 | [],ρ=>some (.nx ρ)
 | x::xs,ρ=>bnd (bindS tg x ρ) fun ρ1=>turnO (g ρ1) fun ρ2=>loopF tg g xs ρ2
noncomputable def ownF (i:Nat) (ρ:Env):PV→Option Out
 | .list ps=>some (.nx (ρ.set i (.own ps)))
 | _=>none
section
set_option autoImplicit true
@[simp] theorem ownF_e1 (i:Nat) (ρ:Env):ownF i ρ (.list ps)=some (.nx (ρ.set i (.own ps))):=rfl
end
noncomputable def appF (i:Nat) (ρ:Env) (p:PV):Sl→Option Out
 | .own ps=>if ps.length<1000000∧isDict p=false then some (.nx (ρ.set i (.own (ps++[p])))) else none
 | _=>none
section
set_option autoImplicit true
@[simp] theorem appF_e1 (i:Nat) (ρ:Env) (p:PV):appF i ρ p (.own ps)=if ps.length<1000000∧isDict p=false then some (.nx (ρ.set i (.own (ps++[p])))) else none:=rfl
end
noncomputable def extF (i:Nat) (ρ:Env) (xs:List PV):Sl→Option Out
 | .own ps=>if ps.length+xs.length<1000000 then some (.nx (ρ.set i (.own (ps++xs)))) else none
 | _=>none
@[simp] theorem extF_e1 (i:Nat) (ρ:Env) (xs ps:List PV):extF i ρ xs (.own ps)=if ps.length+xs.length<1000000 then some (.nx (ρ.set i (.own (ps++xs)))) else none:=rfl
noncomputable def frzF (i:Nat) (ρ:Env):Sl→Option Out
 | .own ps=>some (.nx (ρ.set i (.val (.list ps))))
 | _=>some (.nx ρ)
section
set_option autoImplicit true
@[simp] theorem frzF_e1 (i:Nat) (ρ:Env):frzF i ρ (.own ps)=some (.nx (ρ.set i (.val (.list ps)))):=rfl
end
@[simp] noncomputable def evS (cf:Nat→List PV→Option PV):S→Env→Option Out
 | .nx,ρ=>some (.nx ρ)
 | .seq a b,ρ=>seqO (evS cf a ρ) fun ρ1=>evS cf b ρ1
 | .set i e,ρ=>bnd (evE cf e ρ) fun p=>some (.nx (ρ.set i (.val p)))
 | .own i e,ρ=>bnd (evE cf e ρ) (ownF i ρ)
 | .asg t e,ρ=>bnd (evE cf e ρ) fun p=>bnd (bindS t p ρ) fun ρ1=>some (.nx ρ1)
 | .ret e,ρ=>bnd (evE cf e ρ) fun p=>some (.rt p)
 | .ife c a b,ρ=>bnd (evE cf c ρ) fun x=>bnd (truthF x) fun t=>tst t (evS cf a ρ) (evS cf b ρ)
 | .loop t it body,ρ=>bnd (evE cf it ρ) fun s=>bnd (seqOf s) fun xs=>loopF t (evS cf body) xs ρ
 | .app i e,ρ=>bnd (evE cf e ρ) fun p=>bnd ρ[i]? (appF i ρ p)
 | .ext i e,ρ=>bnd (evE cf e ρ) fun p=>bnd (seqOf p) fun xs=>bnd ρ[i]? (extF i ρ xs)
 | .frz i,ρ=>bnd ρ[i]? (frzF i ρ)
 | .brk,ρ=>some (.bk ρ)
 | .cnt,ρ=>some (.ct ρ)
structure Fn where
 np:Nat
 ns:Nat
 body:S
noncomputable def outV:Option Out→Option PV
 | some (.rt p)=>some p
 | some (.nx _)=>some .none
 | _=>none
section
set_option autoImplicit true
@[simp] theorem outV_e1:outV (some (.rt p))=some p:=rfl
@[simp] theorem outV_e2:outV (some (.nx zu))=some .none:=rfl
end
@[simp] noncomputable def start (F:Fn) (args:List PV):Env:=args.map .val++List.replicate (F.ns - F.np) .un
noncomputable abbrev Tab:=Nat→Option Fn
noncomputable def run (T:Tab):Nat→Nat→List PV→Option PV
 | 0,_,_=>none
 | k+1,f,args=>match T f with
  | none=>none
  | some F=>if args.length=F.np then outV (evS (run T k) F.body (start F args)) else none
noncomputable def isOwn:Sl→Bool
 | .own _=>true
 | _=>false
theorem run_succ {T:Tab} {k f:Nat} {args:List PV} {F:Fn} (h:T f=some F) (hl:args.length=F.np):
  run T (k+1) f args=outV (evS (run T k) F.body (start F args)):=by
 simp only [run,h,hl,if_true]
noncomputable def Le (cf cf':Nat→List PV→Option PV):Prop:=∀ f xs p,cf f xs=some p→cf' f xs=some p
theorem bind_le {α β:Type} {x x':Option α} {g g':α→Option β} {q:β} (hx:∀ a,x=some a→x'=some a) (hg:∀ a,g a=some q→g' a=some q)
  (h:bnd x g=some q):bnd x' g'=some q:=by
 cases hxa:x with
 | none=>rw [hxa] at h;cases h
 | some a=>rw [hxa] at h;rw [hx a hxa];exact hg a h
theorem compF_le {g g':PV→Option (Option PV)} (hg:∀ x o,g x=some o→g' x=some o):∀ (xs r:List PV),compF g xs=some r→compF g' xs=some r
 | [],r,h=>h
 | x::xs,r,h=>by
  unfold compF at h ⊢
  refine bind_le (hg x) (fun o h=>?_) h
  exact bind_le (compF_le hg xs) (fun _ h=>h) h
theorem evE_le {cf cf':Nat→List PV→Option PV} (hc:Le cf cf'):∀ (e:E) (ρ:Env) (p:PV),evE cf e ρ=some p→evE cf' e ρ=some p:=by
 intro e
 induction e with
 | var i=>intro ρ p h;exact h
 | peek i=>intro ρ p h;exact h
 | con q=>intro ρ p h;exact h
 | nil=>intro ρ p h;exact h
 | cons a t iha iht=>intro ρ p h;exact bind_le (iha ρ) (fun x h=>bind_le (iht ρ) (fun r h=>h) h) h
 | tup a iha=>intro ρ p h;exact bind_le (iha ρ) (fun r h=>h) h
 | lst a iha=>intro ρ p h;exact bind_le (iha ρ) (fun r h=>h) h
 | op1 o a iha=>intro ρ p h;exact bind_le (iha ρ) (fun r h=>h) h
 | op2 o a b iha ihb=>intro ρ p h;exact bind_le (iha ρ) (fun x h=>bind_le (ihb ρ) (fun r h=>h) h) h
 | sl a lo hi iha ihl ihh=>intro ρ p h;exact bind_le (iha ρ) (fun x h=>bind_le (ihl ρ) (fun r h=>bind_le (ihh ρ) (fun r h=>h) h) h) h
 | call f a iha=>
  intro ρ p h
  refine bind_le (iha ρ) (fun r h=>?_) h
  cases r with
  | tuple xs=>exact hc f xs p h
  | _=>exact h
 | and a b iha ihb=>
  intro ρ p h
  refine bind_le (iha ρ) (fun x h=>bind_le (fun _ h=>h) (fun t h=>?_) h) h
  cases t with
  | true=>exact ihb ρ p h
  | false=>exact h
 | or a b iha ihb=>
  intro ρ p h
  refine bind_le (iha ρ) (fun x h=>bind_le (fun _ h=>h) (fun t h=>?_) h) h
  cases t with
  | true=>exact h
  | false=>exact ihb ρ p h
 | not a iha=>intro ρ p h;exact bind_le (iha ρ) (fun x h=>h) h
 | ite c a b ihc iha ihb=>
  intro ρ p h
  refine bind_le (ihc ρ) (fun x h=>bind_le (fun _ h=>h) (fun t h=>?_) h) h
  cases t with
  | true=>exact iha ρ p h
  | false=>exact ihb ρ p h
 | chain o o' a b c iha ihb ihc=>
  intro ρ p h
  refine bind_le (iha ρ) (fun x h=>bind_le (ihb ρ) (fun y h=>bind_le (fun _ h=>h) (fun r h=>?_) h) h) h
  cases r with
  | bool t=>
   cases t with
   | true=>exact bind_le (ihc ρ) (fun z h=>h) h
   | false=>exact h
  | _=>exact h
 | comp tg caps it cond elt ihi ihc ihe=>
  intro ρ p h
  refine bind_le (ihi ρ) (fun s h=>bind_le (fun _ h=>h) (fun xs h=>?_) h) h
  refine bind_le (compF_le (fun x o h=>?_) xs) (fun _ h=>h) h
  refine bind_le (fun _ h=>h) (fun bs h=>?_) h
  refine bind_le (ihc _) (fun c h=>bind_le (fun _ h=>h) (fun t h=>?_) h) h
  cases t with
  | true=>exact bind_le (ihe _) (fun _ h=>h) h
  | false=>exact h
 | rng a iha=>intro ρ p h;exact bind_le (iha ρ) (fun x h=>h) h
 | rng2 a b iha ihb=>intro ρ p h;exact bind_le (iha ρ) (fun x h=>bind_le (ihb ρ) (fun r h=>h) h) h
 | dct ks vs ih=>intro ρ p h;exact bind_le (ih ρ) (fun r h=>h) h
 | lrep a n iha ihn=>intro ρ p h;exact bind_le (fun _ h=>bind_le (iha ρ) (fun r h=>h) h) (fun x h=>bind_le (ihn ρ) (fun r h=>h) h) h
 | skey caps it key ihi ihk=>
  intro ρ p h
  refine bind_le (ihi ρ) (fun s h=>bind_le (fun _ h=>h) (fun xs h=>?_) h) h
  exact bind_le (compF_le (fun x o h=>bind_le (ihk _) (fun _ h=>h) h) xs) (fun _ h=>h) h
 | dgt a k d iha ihk ihd=>intro ρ p h;exact bind_le (iha ρ) (fun x h=>bind_le (ihk ρ) (fun r h=>bind_le (ihd ρ) (fun r h=>h) h) h) h
theorem seqO_le {x x':Option Out} {g g':Env→Option Out} {q:Out} (hx:∀ a,x=some a→x'=some a) (hg:∀ a o,g a=some o→g' a=some o)
  (h:seqO x g=some q):seqO x' g'=some q:=by
 cases hxa:x with
 | none=>rw [hxa] at h;cases h
 | some a=>
  rw [hxa] at h;rw [hx a hxa]
  cases a with
  | nx ρ=>exact hg ρ q h
  | _=>exact h
theorem turnO_le {x x':Option Out} {g g':Env→Option Out} {q:Out} (hx:∀ a,x=some a→x'=some a) (hg:∀ a o,g a=some o→g' a=some o)
  (h:turnO x g=some q):turnO x' g'=some q:=by
 cases hxa:x with
 | none=>rw [hxa] at h;cases h
 | some a=>
  rw [hxa] at h;rw [hx a hxa]
  cases a with
  | nx ρ=>exact hg ρ q h
  | ct ρ=>exact hg ρ q h
  | _=>exact h
theorem loopF_le {tg:Tg} {g g':Env→Option Out} (hg:∀ ρ o,g ρ=some o→g' ρ=some o):∀ (xs:List PV) (ρ:Env) (o:Out),loopF tg g xs ρ=some o→loopF tg g' xs ρ=some o
 | [],ρ,o,h=>h
 | x::xs,ρ,o,h=>by
  unfold loopF at h ⊢
  exact bind_le (fun _ h=>h) (fun ρ1 h=>turnO_le (hg ρ1) (fun ρ2 o h=>loopF_le hg xs ρ2 o h) h) h
theorem evS_le {cf cf':Nat→List PV→Option PV} (hc:Le cf cf'):∀ (s:S) (ρ:Env) (o:Out),evS cf s ρ=some o→evS cf' s ρ=some o:=by
 intro s
 induction s with
 | nx=>intro ρ o h;exact h
 | seq a b iha ihb=>intro ρ o h;exact seqO_le (iha ρ) ihb h
 | set i e=>intro ρ o h;exact bind_le (evE_le hc e ρ) (fun _ h=>h) h
 | own i e=>intro ρ o h;exact bind_le (evE_le hc e ρ) (fun _ h=>h) h
 | asg t e=>intro ρ o h;exact bind_le (evE_le hc e ρ) (fun _ h=>h) h
 | ret e=>intro ρ o h;exact bind_le (evE_le hc e ρ) (fun _ h=>h) h
 | ife c a b iha ihb=>
  intro ρ o h
  refine bind_le (evE_le hc c ρ) (fun x h=>bind_le (fun _ h=>h) (fun t h=>?_) h) h
  cases t with
  | true=>exact iha ρ o h
  | false=>exact ihb ρ o h
 | loop t it body ih=>
  intro ρ o h
  exact bind_le (evE_le hc it ρ) (fun x h=>bind_le (fun _ h=>h) (fun xs h=>loopF_le ih xs ρ o h) h) h
 | app i e=>intro ρ o h;exact bind_le (evE_le hc e ρ) (fun _ h=>h) h
 | ext i e=>intro ρ o h;exact bind_le (evE_le hc e ρ) (fun _ h=>h) h
 | frz i=>intro ρ o h;exact h
 | brk=>intro ρ o h;exact h
 | cnt=>intro ρ o h;exact h
theorem outV_le {x x':Option Out} {p:PV} (h:∀ o,x=some o→x'=some o) (hx:outV x=some p):outV x'=some p:=by
 cases e:x with
 | none=>rw [e] at hx;cases hx
 | some o=>rw [e] at hx;rw [h o e];exact hx
theorem run_le1 {T:Tab}:∀ k,Le (run T k) (run T (k+1))
 | 0=>fun f xs p h=>by cases h
 | k+1=>fun f xs p h=>by
  unfold run at h ⊢
  cases e:T f with
  | none=>rw [e] at h;cases h
  | some F=>
   rw [e] at h
   dsimp only at h ⊢
   by_cases hl:xs.length=F.np
   ·rw [if_pos hl] at h ⊢
    exact outV_le (fun o=>evS_le (run_le1 k) F.body _ o) h
   ·rw [if_neg hl] at h;cases h
theorem run_le {T:Tab} {k j f:Nat} {xs:List PV} {p:PV} (hk:k≤j) (h:run T k f xs=some p):run T j f xs=some p:=by
 induction hk with
 | refl=>exact h
 | step _ ih=>exact run_le1 _ f xs p ih
end DD
namespace DD
open PySem PySem.Spec PyProof.Rows L2
noncomputable abbrev St:=L2.St
noncomputable def keyOf:PV→Option Key
 | .int i=>some (.inl i)
 | .str x=>some (.inr x)
 | _=>none
mutual
noncomputable def Rp (K:PySem.W.Frag) (G:Hp):PV→V→Prop
 | .none,v=>v=.non
 | .bool b,v=>v=.bl b
 | .int i,v=>v=.int i
 | .str x,v=>v=.str x∧PyData.strOk x=true∧x.length≤16777216
 | .list ps,v=>∃ a vs,v=.ref a∧SqL K G a vs∧RpL K G ps vs
 | .tuple ps,v=>∃ a vs,v=.ref a∧SqT K G a vs∧RpL K G ps vs
 | .dict kvs,v=>∃ a l,v=.ref a∧Rd G a (.dK l)∧RpD K G kvs l
noncomputable def RpL (K:PySem.W.Frag) (G:Hp):List PV→List V→Prop
 | [],vs=>vs=[]
 | p::ps,vs=>∃ v r,vs=v::r∧(isDict p=false∧Rp K G p v)∧RpL K G ps r
noncomputable def RpD (K:PySem.W.Frag) (G:Hp):List (PV×PV)→List (Key×V)→Prop
 | [],l=>l=[]
 | (k,p)::kvs,l=>∃ key v r,l=(key,v)::r∧keyOf k=some key∧(isDict p=false∧Rp K G p v)∧RpD K G kvs r
end
noncomputable def RpA (K:PySem.W.Frag) (G:Hp):List PV→List V→Prop
 | [],vs=>vs=[]
 | p::ps,vs=>∃ v r,vs=v::r∧Rp K G p v∧RpA K G ps r
noncomputable def Sub (G H:Hp):Prop:=∀ a o,G a=some o→H a=some o
theorem Sub.refl (G:Hp):Sub G G:=fun _ _ h=>h
theorem Sub.trans {G H I:Hp} (a:Sub G H) (b:Sub H I):Sub G I:=fun x o h=>b x o (a x o h)
theorem Sub.rd {G H:Hp} (s:Sub G H) {a:Addr} {u:HO} (h:Rd G a u):Rd H a u:=by
 rcases h with h | ⟨o,h⟩
 ·exact .inl (s _ _ h)
 ·exact .inr ⟨o,s _ _ h⟩
theorem Sub.sqL {K:PySem.W.Frag} {G H:Hp} (s:Sub G H) {a:Addr} {xs:List V} (h:SqL K G a xs):SqL K H a xs:=h.elim (fun h=>.inl (s.rd h)) .inr
theorem Sub.sqT {K:PySem.W.Frag} {G H:Hp} (s:Sub G H) {a:Addr} {xs:List V} (h:SqT K G a xs):SqT K H a xs:=h.elim (fun h=>.inl (s.rd h)) .inr
mutual
theorem Rp.mono {K:PySem.W.Frag} {G H:Hp} (s:Sub G H):∀ {p:PV} {v:V},Rp K G p v→Rp K H p v
 | .none,_,h=>h
 | .bool _,_,h=>h
 | .int _,_,h=>h
 | .str _,_,h=>h
 | .list ps,_,h=>by
  obtain ⟨a,vs,e,q,r⟩:=(show ∃ a vs,_=V.ref a∧SqL K G a vs∧RpL K G ps vs from h)
  exact ⟨a,vs,e,s.sqL q,RpL.mono s r⟩
 | .tuple ps,_,h=>by
  obtain ⟨a,vs,e,q,r⟩:=(show ∃ a vs,_=V.ref a∧SqT K G a vs∧RpL K G ps vs from h)
  exact ⟨a,vs,e,s.sqT q,RpL.mono s r⟩
 | .dict kvs,_,h=>by
  obtain ⟨a,l,e,q,r⟩:=(show ∃ a l,_=V.ref a∧Rd G a (.dK l)∧RpD K G kvs l from h)
  exact ⟨a,l,e,s.rd q,RpD.mono s r⟩
theorem RpL.mono {K:PySem.W.Frag} {G H:Hp} (s:Sub G H):∀ {ps:List PV} {vs:List V},RpL K G ps vs→RpL K H ps vs
 | [],_,h=>h
 | p::ps,_,h=>by
  obtain ⟨v,r,e,⟨h0,h1⟩,h2⟩:=(show ∃ v r,_=v::r∧(isDict p=false∧Rp K G p v)∧RpL K G ps r from h)
  exact ⟨v,r,e,⟨h0,Rp.mono s h1⟩,RpL.mono s h2⟩
theorem RpD.mono {K:PySem.W.Frag} {G H:Hp} (s:Sub G H):∀ {kvs:List (PV×PV)} {l:List (Key×V)},RpD K G kvs l→RpD K H kvs l
 | [],_,h=>h
 | (k,p)::kvs,_,h=>by
  obtain ⟨key,v,r,e,h0,⟨hd,h1⟩,h2⟩:=(show ∃ key v r,_=(key,v)::r∧keyOf k=some key∧(isDict p=false∧Rp K G p v)∧RpD K G kvs r from h)
  exact ⟨key,v,r,e,h0,⟨hd,Rp.mono s h1⟩,RpD.mono s h2⟩
end
theorem RpA.mono {K:PySem.W.Frag} {G H:Hp} (s:Sub G H):∀ {ps:List PV} {vs:List V},RpA K G ps vs→RpA K H ps vs
 | [],_,h=>h
 | p::ps,_,h=>by
  obtain ⟨v,r,e,h1,h2⟩:=(show ∃ v r,_=v::r∧Rp K G p v∧RpA K G ps r from h)
  exact ⟨v,r,e,h1.mono s,RpA.mono s h2⟩
theorem RpL.args {K:PySem.W.Frag} {G:Hp}:∀ {ps:List PV} {vs:List V},RpL K G ps vs→RpA K G ps vs
 | [],_,h=>h
 | p::ps,_,h=>by
  obtain ⟨v,r,e,⟨_,h1⟩,h2⟩:=(show ∃ v r,_=v::r∧(isDict p=false∧Rp K G p v)∧RpL K G ps r from h)
  exact ⟨v,r,e,h1,RpL.args h2⟩
theorem RpA.list {K:PySem.W.Frag} {G:Hp}:∀ {ps:List PV} {vs:List V},RpA K G ps vs→anyD ps=false→RpL K G ps vs
 | [],_,h,_=>h
 | p::ps,_,h,hd=>by
  obtain ⟨v,r,e,h1,h2⟩:=(show ∃ v r,_=v::r∧Rp K G p v∧RpA K G ps r from h)
  rw [anyD,Bool.or_eq_false_iff] at hd
  exact ⟨v,r,e,⟨hd.1,h1⟩,RpA.list h2 hd.2⟩
theorem RpA.length {K:PySem.W.Frag} {G:Hp}:∀ {ps:List PV} {vs:List V},RpA K G ps vs→ps.length=vs.length
 | [],_,h=>by cases (show _=[] from h);rfl
 | p::ps,_,h=>by
  obtain ⟨v,r,rfl,_,h2⟩:=(show ∃ v r,_=v::r∧Rp K G p v∧RpA K G ps r from h)
  simp [RpA.length h2]
theorem RpA.get {K:PySem.W.Frag} {G:Hp}:∀ {ps:List PV} {vs:List V} {i:Nat} {p:PV},RpA K G ps vs→ps[i]?=some p→∃ v,vs[i]?=some v∧Rp K G p v
 | [],_,_,_,_,e=>by simp at e
 | q::ps,_,0,p,h,e=>by
  obtain ⟨v,r,rfl,h1,_⟩:=(show ∃ v r,_=v::r∧Rp K G q v∧RpA K G ps r from h)
  have e':q=p:=by simpa using e
  subst e'
  exact ⟨v,rfl,h1⟩
 | q::ps,_,i+1,p,h,e=>by
  obtain ⟨v,r,rfl,_,h2⟩:=(show ∃ v r,_=v::r∧Rp K G q v∧RpA K G ps r from h)
  obtain ⟨w,e1,e2⟩:=RpA.get (i:=i) h2 (by simpa using e)
  exact ⟨w,by simpa using e1,e2⟩
theorem RpA.nil {K:PySem.W.Frag} {G:Hp}:RpA K G [] []:=rfl
theorem RpA.cons {K:PySem.W.Frag} {G:Hp} {p:PV} {ps:List PV} {v:V} {vs:List V} (h:Rp K G p v) (r:RpA K G ps vs):RpA K G (p::ps) (v::vs):=⟨v,vs,rfl,h,r⟩
theorem RpL.length {K:PySem.W.Frag} {G:Hp}:∀ {ps:List PV} {vs:List V},RpL K G ps vs→ps.length=vs.length
 | [],_,h=>by cases (show _=[] from h);rfl
 | p::ps,_,h=>by
  obtain ⟨v,r,rfl,_,h2⟩:=(show ∃ v r,_=v::r∧(isDict p=false∧Rp K G p v)∧RpL K G ps r from h)
  simp [RpL.length h2]
theorem RpL.get {K:PySem.W.Frag} {G:Hp}:∀ {ps:List PV} {vs:List V} {i:Nat} {p:PV},RpL K G ps vs→ps[i]?=some p→∃ v,vs[i]?=some v∧isDict p=false∧Rp K G p v
 | [],_,_,_,_,e=>by simp at e
 | q::ps,_,0,p,h,e=>by
  obtain ⟨v,r,rfl,h1,_⟩:=(show ∃ v r,_=v::r∧(isDict q=false∧Rp K G q v)∧RpL K G ps r from h)
  have e':q=p:=by simpa using e
  subst e'
  exact ⟨v,rfl,h1⟩
 | q::ps,_,i+1,p,h,e=>by
  obtain ⟨v,r,rfl,_,h2⟩:=(show ∃ v r,_=v::r∧(isDict q=false∧Rp K G q v)∧RpL K G ps r from h)
  obtain ⟨w,e1,e2⟩:=RpL.get (i:=i) h2 (by simpa using e)
  exact ⟨w,by simpa using e1,e2⟩
theorem RpL.getV {K:PySem.W.Frag} {G:Hp} {ps:List PV} {vs:List V} {i:Nat} {v:V} (h:RpL K G ps vs) (e:vs[i]?=some v):∃ p,ps[i]?=some p∧isDict p=false∧Rp K G p v:=by
 have hl:=h.length
 have hi:i<vs.length:=(List.getElem?_eq_some_iff.mp e).1
 have e1:ps[i]?=some ps[i]:=List.getElem?_eq_getElem (by lia)
 obtain ⟨w,e2,r⟩:=h.get e1
 rw [e] at e2
 cases e2
 exact ⟨_,e1,r⟩
theorem RpL.append {K:PySem.W.Frag} {G:Hp}:∀ {ps qs:List PV} {vs ws:List V},RpL K G ps vs→RpL K G qs ws→RpL K G (ps++qs) (vs++ws)
 | [],_,_,_,h,h'=>by cases (show _=[] from h);exact h'
 | p::ps,_,_,_,h,h'=>by
  obtain ⟨v,r,rfl,h1,h2⟩:=(show ∃ v r,_=v::r∧(isDict p=false∧Rp K G p v)∧RpL K G ps r from h)
  exact ⟨v,_,rfl,h1,RpL.append h2 h'⟩
theorem RpL.nil {K:PySem.W.Frag} {G:Hp}:RpL K G [] []:=rfl
theorem RpL.cons {K:PySem.W.Frag} {G:Hp} {p:PV} {ps:List PV} {v:V} {vs:List V} (hd:isDict p=false) (h:Rp K G p v) (r:RpL K G ps vs):RpL K G (p::ps) (v::vs):=⟨v,vs,rfl,⟨hd,h⟩,r⟩
theorem RpL.one {K:PySem.W.Frag} {G:Hp} {p:PV} {v:V} (hd:isDict p=false) (h:Rp K G p v):RpL K G [p] [v]:=.cons hd h .nil
theorem RpL.take {K:PySem.W.Frag} {G:Hp}:∀ {ps:List PV} {vs:List V} (n:Nat),RpL K G ps vs→RpL K G (ps.take n) (vs.take n)
 | _,_,0,_=>rfl
 | [],_,_+1,h=>by cases (show _=[] from h);rfl
 | p::ps,_,n+1,h=>by
  obtain ⟨v,r,rfl,h1,h2⟩:=(show ∃ v r,_=v::r∧(isDict p=false∧Rp K G p v)∧RpL K G ps r from h)
  exact ⟨v,_,rfl,h1,RpL.take n h2⟩
theorem RpL.drop {K:PySem.W.Frag} {G:Hp}:∀ {ps:List PV} {vs:List V} (n:Nat),RpL K G ps vs→RpL K G (ps.drop n) (vs.drop n)
 | _,_,0,h=>h
 | [],_,_+1,h=>by cases (show _=[] from h);rfl
 | p::ps,_,n+1,h=>by
  obtain ⟨v,r,rfl,h1,h2⟩:=(show ∃ v r,_=v::r∧(isDict p=false∧Rp K G p v)∧RpL K G ps r from h)
  exact RpL.drop n h2
structure Ext (G H G' H':Hp):Prop where
 hh:Sub H H'
 gg:Sub G G'
 gh:Sub G' H'
 old:∀ a o,H a=some o→G' a=G a
theorem Ext.refl {G H:Hp} (s:Sub G H):Ext G H G H:=⟨.refl _,.refl _,s,fun _ _ _=>rfl⟩
theorem Ext.trans {G H G1 H1 G2 H2:Hp} (a:Ext G H G1 H1) (b:Ext G1 H1 G2 H2):Ext G H G2 H2:=
 ⟨a.hh.trans b.hh,a.gg.trans b.gg,b.gh,fun x o h=>(b.old x o (a.hh x o h)).trans (a.old x o h)⟩
theorem Sub.upd {G H:Hp} (s:Sub G H) (a:Addr) (o:HO):Sub (L2.upd G a o) (L2.upd H a o):=fun b u h=>by
 by_cases e:b=a
 ·subst e;rw [upd_same] at h ⊢;exact h
 ·rw [upd_ne e] at h ⊢;exact s b u h
theorem Sub.fresh {G H:Hp} (s:Sub G H) {a:Addr} (h:H a=none):G a=none:=by
 cases e:G a with
 | none=>rfl
 | some o=>rw [s a o e] at h;cases h
theorem Sub.new {H:Hp} {a:Addr} (h:H a=none) (o:HO):Sub H (L2.upd H a o):=fun b u q=>by rw [upd_ne (ne_of_none q h)];exact q
theorem Ext.new {G H:Hp} (s:Sub G H) {a:Addr} (h:H a=none) (o:HO):Ext G H (L2.upd G a o) (L2.upd H a o):=
 ⟨.new h o,.new (s.fresh h) o,s.upd a o,fun b u q=>by rw [upd_ne (ne_of_none q h)]⟩
theorem Ext.own {G H:Hp} (s:Sub G H) {a:Addr} (h:H a=none) (o:HO):Ext G H G (L2.upd H a o):=
 ⟨.new h o,.refl _,s.trans (.new h o),fun _ _ _=>rfl⟩
noncomputable def Rk (K:PySem.W.Frag) (G H:Hp):PV→V→Prop
 | .list ps,v=>∃ a vs,v=.ref a∧SqL K H a vs∧RpL K G ps vs
 | p,v=>Rp K G p v
theorem Rp.rk {K:PySem.W.Frag} {G H:Hp} (s:Sub G H) {p:PV} {v:V} (h:Rp K G p v):Rk K G H p v:=by
 cases p with
 | list ps=>
  obtain ⟨a,vs,e,q,r⟩:=(show ∃ a vs,_=V.ref a∧SqL K G a vs∧RpL K G ps vs from h)
  exact ⟨a,vs,e,s.sqL q,r⟩
 | _=>exact h
theorem Rk.ext {K:PySem.W.Frag} {G H G' H':Hp} (x:Ext G H G' H') {p:PV} {v:V} (h:Rk K G H p v):Rk K G' H' p v:=by
 cases p with
 | list ps=>
  obtain ⟨a,vs,e,q,r⟩:=(show ∃ a vs,_=V.ref a∧SqL K H a vs∧RpL K G ps vs from h)
  exact ⟨a,vs,e,x.hh.sqL q,r.mono x.gg⟩
 | none=>exact Rp.mono (K:=K) (p:=.none) x.gg h
 | bool b=>exact Rp.mono (K:=K) (p:=.bool b) x.gg h
 | int i=>exact Rp.mono (K:=K) (p:=.int i) x.gg h
 | str y=>exact Rp.mono (K:=K) (p:=.str y) x.gg h
 | tuple ps=>exact Rp.mono (K:=K) (p:=.tuple ps) x.gg h
 | dict kvs=>exact Rp.mono (K:=K) (p:=.dict kvs) x.gg h
section
variable {X:Cx} {pins:List (Addr×Obj)} {σ:St} {G H:Hp} {s:Shared}
mutual
theorem Rp.reads (I:Inv X pins σ H s) (sb:Sub G H):∀ {p:PV} {v:V} {u:Value},isDict p=false→Rp X.K G p v→RelV v u→∃ as,Reads s.heap u p as
 | .none,_,_,_,h,r=>by cases (show _=V.non from h);cases (show _=Value.none from r);exact ⟨_,.none⟩
 | .bool b,_,_,_,h,r=>by cases (show _=V.bl b from h);cases (show _=Value.bool b from r);exact ⟨_,.bool b⟩
 | .int i,_,_,_,h,r=>by cases (show _=V.int i from h);obtain ⟨t,rfl⟩:=r;exact ⟨_,.int i t⟩
 | .str x,_,_,_,h,r=>by
  obtain ⟨e,_⟩:=(show _=V.str x∧_ from h)
  cases e;obtain ⟨t,rfl⟩:=r;exact ⟨_,.str x t⟩
 | .list ps,_,_,_,h,r=>by
  obtain ⟨a,vs,e,q,hr⟩:=(show ∃ a vs,_=V.ref a∧SqL X.K G a vs∧RpL X.K G ps vs from h)
  cases e;cases (show _=Value.ref a from r)
  obtain ⟨its,rv,⟨o,n,e,hc,_,hd⟩,_⟩:=I.list (sb.sqL q)
  obtain ⟨as,ra⟩:=RpL.reads I sb hr rv
  exact ⟨_,.list e hc hd (by simpa using ra)⟩
 | .tuple ps,_,_,_,h,r=>by
  obtain ⟨a,vs,e,q,hr⟩:=(show ∃ a vs,_=V.ref a∧SqT X.K G a vs∧RpL X.K G ps vs from h)
  cases e;cases (show _=Value.ref a from r)
  obtain ⟨its,rv,⟨o,e,hc,n,hd⟩,_⟩:=I.tuple (sb.sqT q)
  obtain ⟨as,ra⟩:=RpL.reads I sb hr rv
  exact ⟨_,.tuple e hc hd (by simpa using ra)⟩
 | .dict _,_,_,hd,_,_=>by cases hd
theorem RpL.reads (I:Inv X pins σ H s) (sb:Sub G H):∀ {ps:List PV} {vs:List V} {us:List Value},RpL X.K G ps vs→Vals vs us→∃ as,ReadsAll s.heap us ps as
 | [],_,_,h,r=>by cases (show _=[] from h);cases r;exact ⟨_,.nil⟩
 | p::ps,_,_,h,r=>by
  obtain ⟨v,w,e,h1,h2⟩:=(show ∃ v r,_=v::r∧(isDict p=false∧Rp X.K G p v)∧RpL X.K G ps r from h)
  subst e
  cases r with
  | cons r1 r2=>
   obtain ⟨as,a1⟩:=Rp.reads I sb h1.1 h1.2 r1
   obtain ⟨bs,a2⟩:=RpL.reads I sb h2 r2
   exact ⟨_,.cons a1 a2⟩
end
mutual
theorem Rp.lays {K:PySem.W.Frag}:∀ {p:PV} {v:V},isDict p=false→Rp K G p v→p.canLay0=true
 | .none,_,_,_=>by simp [PyData.canLay0]
 | .bool _,_,_,_=>by simp [PyData.canLay0]
 | .int _,_,_,_=>by simp [PyData.canLay0]
 | .str x,_,_,h=>by
  obtain ⟨_,e,_⟩:=(show _=V.str x∧PyData.strOk x=true∧_ from h)
  simpa [PyData.canLay0] using e
 | .list ps,_,_,h=>by
  obtain ⟨a,vs,e,q,hr⟩:=(show ∃ a vs,_=V.ref a∧SqL K G a vs∧RpL K G ps vs from h)
  simpa [PyData.canLay0] using RpL.lays hr
 | .tuple ps,_,_,h=>by
  obtain ⟨a,vs,e,q,hr⟩:=(show ∃ a vs,_=V.ref a∧SqT K G a vs∧RpL K G ps vs from h)
  simpa [PyData.canLay0] using RpL.lays hr
 | .dict _,_,hd,_=>by cases hd
theorem RpL.lays {K:PySem.W.Frag}:∀ {ps:List PV} {vs:List V},RpL K G ps vs→PyData.canLayAll0 ps=true
 | [],_,_=>by simp [PyData.canLayAll0]
 | p::ps,_,h=>by
  obtain ⟨v,w,e,h1,h2⟩:=(show ∃ v r,_=v::r∧(isDict p=false∧Rp K G p v)∧RpL K G ps r from h)
  simp [PyData.canLayAll0,Rp.lays h1.1 h1.2,RpL.lays h2]
end
theorem Rk.reads (I:Inv X pins σ H s) (sb:Sub G H) {p:PV} {v:V} {u:Value} (hd:isDict p=false) (h:Rk X.K G H p v) (r:RelV v u):∃ as,Reads s.heap u p as:=by
 cases p with
 | list ps=>
  obtain ⟨a,vs,e,q,hr⟩:=(show ∃ a vs,_=V.ref a∧SqL X.K H a vs∧RpL X.K G ps vs from h)
  cases e;cases (show _=Value.ref a from r)
  obtain ⟨its,rv,⟨o,n,e,hc,_,hd⟩,_⟩:=I.list q
  obtain ⟨as,ra⟩:=RpL.reads I sb hr rv
  exact ⟨_,.list e hc hd (by simpa using ra)⟩
 | none=>exact Rp.reads (p:=.none) I sb hd h r
 | bool b=>exact Rp.reads (p:=.bool b) I sb hd h r
 | int i=>exact Rp.reads (p:=.int i) I sb hd h r
 | str y=>exact Rp.reads (p:=.str y) I sb hd h r
 | tuple ps=>exact Rp.reads (p:=.tuple ps) I sb hd h r
 | dict kvs=>exact Rp.reads (p:=.dict kvs) I sb hd h r
theorem Rk.lays {K:PySem.W.Frag} {p:PV} {v:V} (hd:isDict p=false) (h:Rk K G H p v):p.canLay0=true:=by
 cases p with
 | list ps=>
  obtain ⟨a,vs,e,q,hr⟩:=(show ∃ a vs,_=V.ref a∧SqL K H a vs∧RpL K G ps vs from h)
  simpa [PyData.canLay0] using RpL.lays hr
 | none=>exact Rp.lays (K:=K) (G:=G) (p:=.none) hd h
 | bool b=>exact Rp.lays (K:=K) (G:=G) (p:=.bool b) hd h
 | int i=>exact Rp.lays (K:=K) (G:=G) (p:=.int i) hd h
 | str y=>exact Rp.lays (K:=K) (G:=G) (p:=.str y) hd h
 | tuple ps=>exact Rp.lays (K:=K) (G:=G) (p:=.tuple ps) hd h
 | dict kvs=>cases hd
end
noncomputable def Slot1 (K:PySem.W.Frag) (G H:Hp):Sl→Option V→Prop
 | .un,_=>True
 | .val p,o=>∃ v,o=some v∧Rp K G p v
 | .own ps,o=>∃ a vs,o=some (.ref a)∧H a=some (.lst vs)∧G a=none∧RpL K G ps vs
structure SR (K:PySem.W.Frag) (G H:Hp) (σ:St) (ρ:Env):Prop where
 len:σ.length=ρ.length
 sub:Sub G H
 get:∀ (i:Nat) (sl:Sl) (o:Option V),ρ[i]?=some sl→σ[i]?=some o→Slot1 K G H sl o
 apart:∀ (i j:Nat) (si sj:Sl) (a:Addr),i≠j→ρ[i]?=some si→ρ[j]?=some sj→isOwn si=true→isOwn sj=true→σ[i]?=some (some (.ref a))→σ[j]?≠some (some (.ref a))
theorem Slot1.ext {K:PySem.W.Frag} {G H G' H':Hp} (x:Ext G H G' H') {sl:Sl} {o:Option V} (h:Slot1 K G H sl o):Slot1 K G' H' sl o:=by
 cases sl with
 | un=>exact h
 | val p=>obtain ⟨v,e,r⟩:=h;exact ⟨v,e,r.mono x.gg⟩
 | own ps=>
  obtain ⟨a,vs,e,h1,h2,r⟩:=h
  exact ⟨a,vs,e,x.hh _ _ h1,(x.old _ _ h1).trans h2,r.mono x.gg⟩
theorem SR.ext {K:PySem.W.Frag} {G H G' H':Hp} {σ:St} {ρ:Env} (S:SR K G H σ ρ) (x:Ext G H G' H'):SR K G' H' σ ρ:=
 ⟨S.len,x.gh,fun i sl o e1 e2=>(S.get i sl o e1 e2).ext x,S.apart⟩
theorem SR.at {K:PySem.W.Frag} {G H:Hp} {σ:St} {ρ:Env} (S:SR K G H σ ρ) {i:Nat} {sl:Sl} (e:ρ[i]?=some sl):∃ o,σ[i]?=some o∧Slot1 K G H sl o:=by
 have hi:i<ρ.length:=(List.getElem?_eq_some_iff.mp e).1
 have hi':i<σ.length:=by rw [S.len];exact hi
 have e1:σ[i]?=some σ[i]:=List.getElem?_eq_getElem hi'
 exact ⟨_,e1,S.get i sl _ e e1⟩
theorem SR.setVal {K:PySem.W.Frag} {G H:Hp} {σ:St} {ρ:Env} (S:SR K G H σ ρ) {i:Nat} {p:PV} {v:V} (r:Rp K G p v):SR K G H (σ.set i (some v)) (ρ.set i (.val p)):=by
 refine ⟨by simpa using S.len,S.sub,fun j sl o e1 e2=>?_,fun j k sj sk a hjk e1 e2 o1 o2 e3=>?_⟩
 ·rw [List.getElem?_set] at e1 e2
  by_cases hij:i=j
  ·rw [if_pos hij] at e1 e2
   split at e1
   ·rename_i hl
    rw [if_pos (by rw [S.len];exact hl)] at e2
    cases e1;cases e2
    exact ⟨v,rfl,r⟩
   ·cases e1
  ·rw [if_neg hij] at e1 e2
   exact S.get j sl o e1 e2
 ·have own_ne:∀ (m:Nat) (sl:Sl),(ρ.set i (.val p))[m]?=some sl→isOwn sl=true→i≠m∧ρ[m]?=some sl:=fun m sl e h=>by
   rw [List.getElem?_set] at e
   by_cases hij:i=m
   ·rw [if_pos hij] at e
    split at e
    ·cases e;cases h
    ·cases e
   ·rw [if_neg hij] at e;exact ⟨hij,e⟩
  obtain ⟨n1,f1⟩:=own_ne j sj e1 o1
  obtain ⟨n2,f2⟩:=own_ne k sk e2 o2
  rw [List.getElem?_set_ne n1] at e3
  rw [List.getElem?_set_ne n2]
  exact S.apart j k sj sk a hjk f1 f2 o1 o2 e3
theorem line_eq:sizeLine=16777216:=sizeLine_eq
theorem strOk_append {x y:Str} (hx:PyData.strOk x=true) (hy:PyData.strOk y=true):PyData.strOk (x++y)=true:=by
 show (x.cps++y.cps).all _=true
 rw [Array.all_append]
 simp only [PyData.strOk] at hx hy
 rw [hx,hy];rfl
theorem length_append (x y:Str):(x++y).length=x.length+y.length:=by
 show (x.cps++y.cps).size=_
 rw [Array.size_append];rfl
noncomputable def rOp2 (K:PySem.W.Frag) (o:Op2):R2:=fun x y H Q=>∃ G p q r,Sub G H∧Rk K G H p x∧Rk K G H q y∧opF2 o p q=some r∧∀ v G' H',Ext G H G' H'→Rp K G' r v→Q v H'
noncomputable def rOp1 (K:PySem.W.Frag) (o:Op1):V→Hp→VK→Prop:=fun x H Q=>∃ G p r,Sub G H∧Rk K G H p x∧opF1 o p=some r∧∀ v G' H',Ext G H G' H'→Rp K G' r v→Q v H'
section
variable {X:Cx}
theorem op_catT0:OpR X (binaryOp .Add) (fun x y H Q=>∃ a b xs ys,x=.ref a∧y=.ref b∧SqT X.K H a xs∧SqT X.K H b ys∧xs.length+ys.length≤sizeLine∧
  (xs=[]→Q (.ref b) H)∧(xs≠[]→ys=[]→Q (.ref a) H)∧(xs≠[]→ys≠[]→∀ p,H p=none→Q (.ref p) (upd H p (.tup (xs++ys))))):=by
 intro pins s σ H x y v u Q I rx ry h
 obtain ⟨a,b,xs,ys,rfl,rfl,ha,hb,hz,q0,q1,q2⟩:=h
 cases rx
 cases ry
 obtain ⟨its,r1,p1,_⟩:=I.tuple ha
 obtain ⟨its2,r2,p2,_⟩:=I.tuple hb
 obtain ⟨⟨cls,dd,data,sl⟩,ho,hc,n,hd⟩:=id p1
 obtain ⟨⟨cls2,dd2,data2,sl2⟩,ho2,hc2,n2,hd2⟩:=id p2
 simp only at hc hd hc2 hd2
 subst hc hd hc2 hd2
 have e:its.toArray++its2.toArray=(its++its2).toArray:=by simp
 by_cases hv:its=[]
 ·exact concat_meets ⟨_,ho,rfl⟩ ⟨_,ho2,rfl⟩ noFill_tuple_add seq_tuple_add PySem.F.slot_tuple_add PySem.F.entry_tuple_add (PySem.F.args_tuple_add_2 _ _)
   (tuple_addW0 a b its.toArray its2.toArray n n2 dd dd2 sl sl2 (by simp [hv])) ⟨ho,ho2,.ref b,H,I,rfl,q0 (r1.nil_iff.mp hv)⟩
 ·have hx:xs≠[]:=fun z=>hv (r1.nil_iff.mpr z)
  by_cases hw:its2=[]
  ·exact concat_meets ⟨_,ho,rfl⟩ ⟨_,ho2,rfl⟩ noFill_tuple_add seq_tuple_add PySem.F.slot_tuple_add PySem.F.entry_tuple_add (PySem.F.args_tuple_add_2 _ _)
    (tuple_addW1 a b its.toArray its2.toArray n n2 dd dd2 sl sl2 (by simpa using hv) (by simp [hw])) ⟨ho,ho2,.ref a,H,I,rfl,q1 hx (r2.nil_iff.mp hw)⟩
  ·refine concat_meets ⟨_,ho,rfl⟩ ⟨_,ho2,rfl⟩ noFill_tuple_add seq_tuple_add PySem.F.slot_tuple_add PySem.F.entry_tuple_add (PySem.F.args_tuple_add_2 _ _)
    (tuple_addW2 a b its.toArray its2.toArray n n2 dd dd2 sl sl2 (by simpa using hv) (by simpa using hw) (by rw [List.size_toArray,List.size_toArray,← r1.length,← r2.length];exact hz)) ⟨ho,ho2,?_⟩
   rw [e]
   refine ⟨.ref s.heap.objs.size,_,I.laid (t':=s.toks) (o:=.tup (xs++ys)) (fun b ob q=>Heap.get?_push_of_some _ q) (Nat.le_refl _) ?_,rfl,q2 hx (fun w=>hw (r2.nil_iff.mpr w)) _ (I.hok.fresh (Nat.le_refl _))⟩
   exact ⟨by rw [List.length_append];exact hz,_,r1.append r2,IsTup.new _ _⟩
theorem op_catL0:OpR X (binaryOp .Add) (fun x y H Q=>∃ a b xs ys,x=.ref a∧y=.ref b∧SqL X.K H a xs∧SqL X.K H b ys∧xs.length+ys.length≤sizeLine∧∀ p,H p=none→Q (.ref p) (upd H p (.lst (xs++ys)))):=by
 intro pins s σ H x y v u Q I rx ry h
 obtain ⟨a,b,xs,ys,rfl,rfl,ha,hb,hz,q⟩:=h
 cases rx
 cases ry
 obtain ⟨its,r1,p1,_⟩:=I.list ha
 obtain ⟨its2,r2,p2,_⟩:=I.list hb
 obtain ⟨⟨cls,dd,data,sl⟩,ho,hc,n,hd⟩:=id p1.isList
 obtain ⟨⟨cls2,dd2,data2,sl2⟩,ho2,hc2,n2,hd2⟩:=id p2.isList
 simp only at hc hd hc2 hd2
 subst hc hd hc2 hd2
 have e:its.toArray++its2.toArray=(its++its2).toArray:=by simp
 refine concat_meets ⟨_,ho,rfl⟩ ⟨_,ho2,rfl⟩ noFill_list_add seq_list_add PySem.F.slot_list_add PySem.F.entry_list_add (PySem.F.args_list_add_2 _ _)
  (list_addW a b its.toArray its2.toArray n n2 dd dd2 sl sl2 (by rw [List.size_toArray,List.size_toArray,← r1.length,← r2.length];exact hz)) ⟨ho,ho2,?_⟩
 rw [e]
 refine ⟨.ref s.heap.objs.size,_,I.laid (t':=s.toks) (o:=.lst (xs++ys)) (fun b ob q=>Heap.get?_push_of_some _ q) (Nat.le_refl _) ?_,rfl,q _ (I.hok.fresh (Nat.le_refl _))⟩
 exact ⟨by rw [List.length_append];exact hz,_,0,r1.append r2,Heap.get?_push_size _ rfl⟩
theorem s_add:OpR X (binaryOp .Add) (rOp2 X.K .add):=by
 intro pins s σ H x y v u Q I rx ry h
 obtain ⟨G,p,q,r,sb,hp,hq,e,k⟩:=h
 cases p with
 | int i=>
  cases q with
  | int j=>
   cases (show some (PyData.int (i+j))=some r from e)
   cases (show x=.int i from hp);cases (show y=.int j from hq)
   exact op_add pins s σ H _ _ v u Q I rx ry ⟨i,j,rfl,rfl,k _ G H (.refl sb) rfl⟩
  | _=>exact nomatch (show none=some _ from e)
 | str a=>
  cases q with
  | str b=>
   have e':(if a.length+b.length≤16777216 then some (PyData.str (a++b)) else none)=some r:=e
   by_cases hl:a.length+b.length≤16777216
   ·rw [if_pos hl] at e'
    cases e'
    obtain ⟨e1,s1,l1⟩:=(show x=.str a∧PyData.strOk a=true∧a.length≤16777216 from hp)
    obtain ⟨e2,s2,l2⟩:=(show y=.str b∧PyData.strOk b=true∧b.length≤16777216 from hq)
    subst e1 e2
    exact op_add_str pins s σ H _ _ v u Q I rx ry ⟨a,b,rfl,rfl,by rw [line_eq];exact hl,k _ G H (.refl sb) ⟨rfl,strOk_append s1 s2,by rw [length_append];exact hl⟩⟩
   ·rw [if_neg hl] at e';cases e'
  | _=>exact nomatch (show none=some _ from e)
 | tuple xs=>
  cases q with
  | tuple ys=>
   have e':(if xs.length+ys.length≤16777216 then some (PyData.tuple (xs++ys)) else none)=some r:=e
   by_cases hl:xs.length+ys.length≤16777216
   ·rw [if_pos hl] at e'
    cases e'
    obtain ⟨a,vs,rfl,q1,r1⟩:=(show ∃ a vs,x=V.ref a∧SqT X.K G a vs∧RpL X.K G xs vs from hp)
    obtain ⟨b,ws,rfl,q2,r2⟩:=(show ∃ a vs,y=V.ref a∧SqT X.K G a vs∧RpL X.K G ys vs from hq)
    refine op_catT0 pins s σ H _ _ v u Q I rx ry ⟨a,b,vs,ws,rfl,rfl,sb.sqT q1,sb.sqT q2,by rw [line_eq,← r1.length,← r2.length];exact hl,fun z=>?_,fun z1 z2=>?_,fun _ _ l hn=>?_⟩
    ·have z':xs=[]:=List.length_eq_zero_iff.mp (by rw [r1.length,z];rfl)
     exact k _ G H (.refl sb) ⟨b,ws,rfl,q2,by rw [z'];exact r2⟩
    ·have z':ys=[]:=List.length_eq_zero_iff.mp (by rw [r2.length,z2];rfl)
     exact k _ G H (.refl sb) ⟨a,vs,rfl,q1,by rw [z',List.append_nil];exact r1⟩
    ·have x1:=Ext.new sb hn (.tup (vs++ws))
     exact k _ _ _ x1 ⟨l,_,rfl,SqT.of upd_same,(r1.append r2).mono x1.gg⟩
   ·rw [if_neg hl] at e';cases e'
  | _=>exact nomatch (show none=some _ from e)
 | list xs=>
  cases q with
  | list ys=>
   have e':(if xs.length+ys.length≤16777216 then some (PyData.list (xs++ys)) else none)=some r:=e
   by_cases hl:xs.length+ys.length≤16777216
   ·rw [if_pos hl] at e'
    cases e'
    obtain ⟨a,vs,rfl,q1,r1⟩:=(show ∃ a vs,x=V.ref a∧SqL X.K H a vs∧RpL X.K G xs vs from hp)
    obtain ⟨b,ws,rfl,q2,r2⟩:=(show ∃ a vs,y=V.ref a∧SqL X.K H a vs∧RpL X.K G ys vs from hq)
    refine op_catL0 pins s σ H _ _ v u Q I rx ry ⟨a,b,vs,ws,rfl,rfl,q1,q2,by rw [line_eq,← r1.length,← r2.length];exact hl,fun l hn=>?_⟩
    have x1:=Ext.new sb hn (.lst (vs++ws))
    exact k _ _ _ x1 ⟨l,_,rfl,SqL.of upd_same,(r1.append r2).mono x1.gg⟩
   ·rw [if_neg hl] at e';cases e'
  | _=>exact nomatch (show none=some _ from e)
 | _=>cases q <;> exact nomatch (show none=some _ from e)
theorem s_sub:OpR X (binaryOp .Sub) (rOp2 X.K .sub):=by
 intro pins s σ H x y v u Q I rx ry h
 obtain ⟨G,p,q,r,sb,hp,hq,e,k⟩:=h
 cases p with
 | int i=>
  cases q with
  | int j=>
   cases (show some (PyData.int (i - j))=some r from e)
   cases (show x=.int i from hp);cases (show y=.int j from hq)
   exact op_sub pins s σ H _ _ v u Q I rx ry ⟨i,j,rfl,rfl,k _ G H (.refl sb) rfl⟩
  | _=>exact nomatch (show none=some _ from e)
 | _=>cases q <;> exact nomatch (show none=some _ from e)
theorem small_of {i:Int} (h:small i=true):-(2 ^ 64)<i∧i<2 ^ 64:=by
 unfold small at h
 rw [Bool.and_eq_true] at h
 exact ⟨of_decide_eq_true h.1,of_decide_eq_true h.2⟩
theorem s_fdiv:OpR X (binaryOp .FloorDiv) (rOp2 X.K .fdiv):=by
 intro pins s σ H x y v u Q I rx ry h
 obtain ⟨G,p,q,r,sb,hp,hq,e,k⟩:=h
 cases p with
 | int i=>
  cases q with
  | int j=>
   have e':(if 0<j∧j<1073741824 then some (PyData.int (i / j)) else none)=some r:=e
   by_cases hl:0<j∧j<1073741824
   ·rw [if_pos hl] at e'
    cases e'
    cases (show x=.int i from hp);cases (show y=.int j from hq)
    exact op_fdiv pins s σ H _ _ v u Q I rx ry ⟨i,j,rfl,rfl,hl,k _ G H (.refl sb) rfl⟩
   ·rw [if_neg hl] at e';cases e'
  | _=>exact nomatch (show none=some _ from e)
 | _=>cases q <;> exact nomatch (show none=some _ from e)
theorem s_mod:OpR X (binaryOp .Mod) (rOp2 X.K .mod):=by
 intro pins s σ H x y v u Q I rx ry h
 obtain ⟨G,p,q,r,sb,hp,hq,e,k⟩:=h
 cases p with
 | int i=>
  cases q with
  | int j=>
   have e':(if 0<j then some (PyData.int (i % j)) else none)=some r:=e
   by_cases hl:0<j
   ·rw [if_pos hl] at e'
    cases e'
    cases (show x=.int i from hp);cases (show y=.int j from hq)
    exact op_mod pins s σ H _ _ v u Q I rx ry ⟨i,j,rfl,rfl,hl,k _ G H (.refl sb) rfl⟩
   ·rw [if_neg hl] at e';cases e'
  | _=>exact nomatch (show none=some _ from e)
 | _=>cases q <;> exact nomatch (show none=some _ from e)
theorem s_cmpI {op:CmpOp} {f:Int→Int→Bool} {o:Op2} (ho:OpR X (compareOp op) (rI0 fun i j=>.bl (f i j))) (hf:opF2 o=cmpI f):OpR X (compareOp op) (rOp2 X.K o):=by
 intro pins s σ H x y v u Q I rx ry h
 obtain ⟨G,p,q,r,sb,hp,hq,e,k⟩:=h
 rw [hf] at e
 cases p with
 | int i=>
  cases q with
  | int j=>
   cases (show some (PyData.bool (f i j))=some r from e)
   cases (show x=.int i from hp);cases (show y=.int j from hq)
   exact ho pins s σ H _ _ v u Q I rx ry ⟨i,j,rfl,rfl,k _ G H (.refl sb) rfl⟩
  | _=>exact nomatch (show none=some _ from e)
 | _=>cases q <;> exact nomatch (show none=some _ from e)
theorem s_gt:OpR X (compareOp .Gt) (rOp2 X.K .gt):=s_cmpI op_gt rfl
theorem eqF_inv {p q:PV} {b:Bool} (h:eqF p q=some b):(isDict p=false∧isDict q=false)∧min p.depth q.depth≤180∧b=PyData.eqv p q:=by
 unfold eqF at h
 split at h
 ·cases h
 ·rename_i hn
  split at h
  ·rename_i hd
   cases h
   refine ⟨?_,hd,rfl⟩
   cases e1:isDict p <;> cases e2:isDict q <;> simp [e1,e2] at hn ⊢
  ·cases h
theorem s_eq (hu:X.A.units+190<cLine):OpR X (compareOp .Eq) (rOp2 X.K .eq):=by
 intro pins s σ H x y v u Q I rx ry h
 obtain ⟨G,p,q,r,sb,hp,hq,e,k⟩:=h
 obtain ⟨b,e1,e2⟩:=bnd_eq.mp (show bnd (eqF p q) (fun b=>some (PyData.bool b))=some r from e)
 cases e2
 obtain ⟨⟨dp,dq⟩,hd,rfl⟩:=eqF_inv e1
 obtain ⟨as,ra⟩:=hp.reads I sb dp rx
 obtain ⟨bs,rb⟩:=hq.reads I sb dq ry
 exact SeqAt.compareEq_reads ra rb (hp.lays dp) (hq.lays dq) (by lia) ⟨.bl _,H,I,rfl,k _ G H (.refl sb) rfl⟩
theorem s_ne (hu:X.A.units+190<cLine):OpR X (compareOp .NotEq) (rOp2 X.K .ne):=by
 intro pins s σ H x y v u Q I rx ry h
 obtain ⟨G,p,q,r,sb,hp,hq,e,k⟩:=h
 obtain ⟨b,e1,e2⟩:=bnd_eq.mp (show bnd (eqF p q) (fun b=>some (PyData.bool (!b)))=some r from e)
 cases e2
 obtain ⟨⟨dp,dq⟩,hd,rfl⟩:=eqF_inv e1
 obtain ⟨as,ra⟩:=hp.reads I sb dp rx
 obtain ⟨bs,rb⟩:=hq.reads I sb dq ry
 exact SeqAt.compareNe_reads ra rb (hp.lays dp) (hq.lays dq) (by lia) ⟨.bl _,H,I,rfl,k _ G H (.refl sb) rfl⟩
theorem inF_inv {p q:PV} {b:Bool} (h:inF p q=some b):isDict p=false∧∃ ys,(q=.list ys∨q=.tuple ys)∧min (PyData.depthAll ys) p.depth≤180∧b=ys.any fun y=>PyData.eqv y p:=by
 cases q with
 | list ys=>
  simp only [inF] at h
  split at h
  ·cases h
  ·rename_i hn
   split at h
   ·rename_i hd
    cases h
    exact ⟨by simpa using hn,ys,.inl rfl,hd,rfl⟩
   ·cases h
 | tuple ys=>
  simp only [inF] at h
  split at h
  ·cases h
  ·rename_i hn
   split at h
   ·rename_i hd
    cases h
    exact ⟨by simpa using hn,ys,.inr rfl,hd,rfl⟩
   ·cases h
 | _=>cases h
theorem canAll_of {p:PV} {ys:List PV} (h:p=.list ys∨p=.tuple ys) (hc:p.canLay0=true):PyData.canLayAll0 ys=true:=by
 rcases h with rfl | rfl <;> simpa [PyData.canLay0] using hc
theorem s_in (hu:X.A.units+190<cLine):OpR X (compareOp .In) (rOp2 X.K .inn):=by
 intro pins s σ H x y v u Q I rx ry h
 obtain ⟨G,p,q,r,sb,hp,hq,e,k⟩:=h
 obtain ⟨b,e1,e2⟩:=bnd_eq.mp (show bnd (inF p q) (fun b=>some (PyData.bool b))=some r from e)
 cases e2
 obtain ⟨dp,ys,hy,hd,rfl⟩:=inF_inv e1
 have dq:isDict q=false:=by rcases hy with rfl | rfl <;> rfl
 obtain ⟨as,ra⟩:=hp.reads I sb dp rx
 obtain ⟨bs,rb⟩:=hq.reads I sb dq ry
 have hc:=canAll_of hy (hq.lays dq)
 have fin:EP X pins σ Q (.bool (ys.any fun y=>PyData.eqv y p)) s:=⟨.bl _,H,I,rfl,k _ G H (.refl sb) rfl⟩
 rcases hy with rfl | rfl
 ·exact SeqAt.in_list_reads rb ra hc (hp.lays dp) (by lia) fin
 ·exact SeqAt.in_tuple_reads rb ra hc (hp.lays dp) (by lia) fin
end
section
variable {X:Cx}
theorem at_rel {K:PySem.W.Frag} {G:Hp} {ps:List PV} {vs:List V} {i:Int} {p:PV} (r:RpL K G ps vs) (e:DD.atI ps i=some p):∃ v,L2.atI vs i=some v∧isDict p=false∧Rp K G p v:=by
 unfold DD.atI at e
 cases q:DD.ixN ps.length i with
 | none=>rw [q] at e;cases e
 | some j=>
  rw [q] at e
  obtain ⟨v,ev,rv⟩:=r.get (i:=j) e
  refine ⟨v,?_,rv⟩
  unfold L2.atI
  have q':L2.ixN vs.length i=some j:=by rw [← r.length];exact q
  rw [q'];exact ev
theorem strOk_char {x:Str} {c:Nat} (h:PyData.strOk x=true) (hc:c∈x.cps.toList):PyData.strOk ⟨#[c]⟩=true:=by
 unfold PyData.strOk at h ⊢
 rw [Array.all_eq_true_iff_forall_mem] at h ⊢
 intro y hy
 have:y=c:=by simpa using hy
 subst this
 exact h y (by simpa using hc)
theorem subTail_of {prog:Program} {w:World} {A:Around} {E:Value→Shared→Prop} {s:Shared} {value slice:Expr} {o i:Value} {T id:String} {Q:Value→Shared→Prop}
  (hl:typeLookup (.type T) "__getitem__"=pure (some (.builtin id))) (hs:subscripted slice false o i=operate [o,i] (getItem o i)) (hT:s.TypeIs o T) (h:wpAny (model prog w) A (getItem o i) Q E s):
  wpAny (model prog w) A (subscriptTail value slice o i) Q E s:=by
 unfold subscriptTail
 refine wpAny_bind ?_
 rw [getitemInPython_of_ne hT.not_modules]
 refine wpAny_bind (wpAny_specialOf hT hl ?_)
 have fin:wpAny (model prog w) A (subscripted slice false o i) (fun r s₃=>wpAny (model prog w) A (letTemporaryGo value o r >>= fun _=>pure r) Q E s₃) E s:=by
  rw [hs]
  exact wpAny_operating (wpAny_mono h (fun r s₃ h₃=>wpAny_bind (wpAny_letTemporaryGo (wpAny_pure h₃))) fun _ _ x=>x)
 first
  | exact wpAny_pure (wpAny_bind fin)
  | exact wpAny_pure fin
  | exact wpAny_bind (wpAny_pure (wpAny_bind fin))
theorem keyEq_of {k q:PV} {a b:Key} (ha:keyOf k=some a) (hb:keyOf q=some b):keyEq k q=decide (a=b):=by
 cases k with
 | int i=>
  cases (show some (Sum.inl i:Key)=some a from ha)
  cases q with
  | int j=>cases (show some (Sum.inl j:Key)=some b from hb);rw [key_ll];rfl
  | str y=>cases (show some (Sum.inr y:Key)=some b from hb);rw [key_lr];rfl
  | _=>cases hb
 | str x=>
  cases (show some (Sum.inr x:Key)=some a from ha)
  cases q with
  | int j=>cases (show some (Sum.inl j:Key)=some b from hb);rw [key_rl];rfl
  | str y=>
   cases (show some (Sum.inr y:Key)=some b from hb)
   rw [key_rr]
   show (x==y)=_
   by_cases e:x=y
   ·subst e;simp
   ·rw [beq_eq_false_iff_ne.mpr e,decide_eq_false e]
  | _=>cases hb
 | _=>cases ha
theorem dlook_rel {K:PySem.W.Frag} {G:Hp} {q:PV} {key:Key} (hk:keyOf q=some key):∀ {kvs:List (PV×PV)} {l:List (Key×V)},RpD K G kvs l→
  (∀ r,dlook q kvs=some r→∃ w,valV l key=some w∧isDict r=false∧Rp K G r w)∧(dlook q kvs=none→valV l key=none)
 | [],_,h=>by
  cases (show _=[] from h)
  exact ⟨fun r e=>(by cases e),fun _=>rfl⟩
 | (k,p)::kvs,_,h=>by
  obtain ⟨key',v,r,rfl,h0,⟨hd,h1⟩,h2⟩:=(show ∃ key v r,_=(key,v)::r∧keyOf k=some key∧(isDict p=false∧Rp K G p v)∧RpD K G kvs r from h)
  obtain ⟨i1,i2⟩:=dlook_rel hk h2
  have ek:=keyEq_of h0 hk
  by_cases e:key'=key
  ·rw [decide_eq_true e] at ek
   refine ⟨fun r' e'=>?_,fun e'=>?_⟩
   ·rw [dlook,if_pos ek] at e'
    cases e'
    exact ⟨v,valV_pos (p:=(key',v)) e,hd,h1⟩
   ·rw [dlook,if_pos ek] at e';cases e'
  ·rw [decide_eq_false e] at ek
   refine ⟨fun r' e'=>?_,fun e'=>?_⟩
   ·rw [dlook,if_neg (by rw [ek];decide)] at e'
    rw [valV_neg (p:=(key',v)) e];exact i1 r' e'
   ·rw [dlook,if_neg (by rw [ek];decide)] at e'
    rw [valV_neg (p:=(key',v)) e];exact i2 e'
theorem key_V {K:PySem.W.Frag} {G H:Hp} {q:PV} {y:V} {key:Key} (hk:keyOf q=some key) (h:Rk K G H q y):y=kV key:=by
 cases q with
 | int i=>cases (show some (Sum.inl i:Key)=some key from hk);exact h
 | str x=>cases (show some (Sum.inr x:Key)=some key from hk);exact h.1
 | _=>cases hk
theorem isKey_of {q:PV} (h:isKey q=true):∃ key,keyOf q=some key:=by
 cases q with
 | int i=>exact ⟨_,rfl⟩
 | str x=>exact ⟨_,rfl⟩
 | _=>cases h
theorem tst_some {α:Type} {t:Bool} {x:Option α} {r:α} (h:tst t x none=some r):t=true∧x=some r:=by
 cases t with
 | true=>exact ⟨rfl,h⟩
 | false=>cases h
theorem s_ixD (hu:X.A.units+190<cLine) {kvs:List (PV×PV)} {q r:PV} {G:Hp} {value slice:Expr} {pins:List (Addr×Obj)} {s:Shared} {σ:St} {H:Hp} {x y:V} {v u:Value} {Q:VK} (I:Inv X pins σ H s) (rx:RelV x v) (ry:RelV y u) (sb:Sub G H)
  (hp:Rk X.K G H (.dict kvs) x) (hq:Rk X.K G H q y) (e:tst (isKey q) (dlook q kvs) none=some r) (k:∀ w,Rp X.K G r w→Q w H) (hs:subscripted slice false v u=operate [v,u] (getItem v u)):
  wpAny (model X.prog X.w) X.A (subscriptTail value slice v u) (EP X pins σ Q) X.xe s:=by
 obtain ⟨e1,e2⟩:=tst_some e
 obtain ⟨key,hk⟩:=isKey_of e1
 obtain ⟨a,l,rfl,hl,rd⟩:=(show ∃ a l,x=V.ref a∧Rd G a (.dK l)∧RpD X.K G kvs l from hp)
 obtain ⟨w,ew,_,rw'⟩:=(dlook_rel hk rd).1 r e2
 have ey:=key_V hk hq
 subst ey
 cases (show v=Value.ref a from rx)
 have g:DGet H a (kV key) (some w):=.inl ⟨l,key,sb.rd hl,rfl,ew.symm⟩
 exact subTail_of PySem.F.slot_dict_getitem.lookup hs (dict_typeIs I g) (d_getItem (by lia) I g ry fun w' s3 I3 r3=>⟨w,H,I3,r3,k w rw'⟩)
theorem s_ix (hu:X.A.units+190<cLine):IxR X (rOp2 X.K .ix):=by
 intro value slice pins s σ H x y v u Q I rx ry h hs
 obtain ⟨G,p,q,r,sb,hp,hq,e,k⟩:=h
 by_cases hd:isDict p=true
 ·cases p with
  | dict kvs=>exact s_ixD hu I rx ry sb hp hq e (fun w rw'=>k w G H (.refl sb) rw') hs
  | _=>cases hd
 cases q with
 | int i=>
  cases (show y=.int i from hq)
  cases p with
  | tuple xs=>
   obtain ⟨a,vs,rfl,q1,r1⟩:=(show ∃ a vs,x=V.ref a∧SqT X.K G a vs∧RpL X.K G xs vs from hp)
   obtain ⟨w,ew,_,rw'⟩:=at_rel r1 (show DD.atI xs i=some r from e)
   exact ix_tup value slice pins s σ H _ _ v u Q I rx ry ⟨a,vs,i,w,rfl,rfl,sb.sqT q1,ew,k _ G H (.refl sb) rw'⟩ hs
  | list xs=>
   obtain ⟨a,vs,rfl,q1,r1⟩:=(show ∃ a vs,x=V.ref a∧SqL X.K H a vs∧RpL X.K G xs vs from hp)
   obtain ⟨w,ew,_,rw'⟩:=at_rel r1 (show DD.atI xs i=some r from e)
   exact ix_list value slice pins s σ H _ _ v u Q I rx ry ⟨a,vs,i,w,rfl,rfl,q1,ew,k _ G H (.refl sb) rw'⟩ hs
  | str z=>
   obtain ⟨rfl,so,sl⟩:=(show x=.str z∧PyData.strOk z=true∧z.length≤16777216 from hp)
   obtain ⟨c,ec,er⟩:=bnd_eq.mp (show bnd (DD.atI z.cps.toList i) (fun c=>some (PyData.str ⟨#[c]⟩))=some r from e)
   cases er
   have hm:c∈z.cps.toList:=by
    obtain ⟨j,_,ej,_⟩:=atI_get (show L2.atI z.cps.toList i=some c from ec)
    exact List.mem_of_getElem? ej
   exact ix_str value slice pins s σ H _ _ v u Q I rx ry ⟨z,i,c,rfl,rfl,by rw [line_eq];exact sl,ec,k _ G H (.refl sb) ⟨rfl,strOk_char so hm,by show 1≤16777216;lia⟩⟩ hs
  | dict kvs=>exact absurd rfl hd
  | _=>exact nomatch (show none=some _ from e)
 | _=>cases p <;> first | exact absurd rfl hd | exact nomatch (show none=some _ from e)
theorem sIx_eq (n d:Nat) (o:Option Int):DD.sIx n d o=HT.sIx n d o:=by cases o <;> rfl
theorem cut_rel {K:PySem.W.Frag} {G:Hp} {ps:List PV} {vs:List V} (lo hi:Option Int) (r:RpL K G ps vs):RpL K G (cut ps lo hi) (cutV vs lo hi):=by
 unfold cut cutV
 rw [sIx_eq,sIx_eq,r.length]
 exact (r.drop _).take _
theorem getItem_tuple_whole {prog:Program} {w:World} {A:Around} {E:Value→Shared→Prop} {s:Shared} {t sl:Addr} {items:Array Value} {vl vu:Value} {lo hi:Option Int} {Q:Value→Shared→Prop} (ht:IsTup s.heap t items) (hs:s.heap.IsSliceOf sl vl vu .none)
  (pl:IsPart vl lo) (pu:IsPart vu hi) (h0:HT.sIx items.size 0 lo=0) (h1:HT.sIx items.size items.size hi=items.size) (h:Q (.ref t) s):wpAny (model prog w) A (getItem (.ref t) (.ref sl)) Q E s:=by
 obtain ⟨os,hos,hcs,hds⟩:=id hs
 have hTs:s.TypeIs (.ref sl) "slice":=⟨os,hos,hcs⟩
 unfold getItem
 try with_reducible refine wpAny_holding ?_
 first | refine wpAny_bind (wpAny_pure ?_) | skip
 refine wpAny_bind (wpAny_sequenceKey ht.typeIs (by decide) ?_)
 refine wpAny_bind (wpAny_callSpecial?_slot (name:=Str.ofString "__getitem__") ht.typeIs PyProof.Rows.slot_tuple_getitem
  (wpAny_call_entry PyProof.Rows.slot_tuple_getitem ht.typeIs entry_tuple_getitem ?_ (args_tuple_getitem _ _)))
 show wpAny _ _ (Builtin.Tuple.tupleItemsOf (.ref t) >>= _) _ _ s
 refine wpAny_bind (tupleItemsOf_ ht ?_)
 refine wpAny_bind (wpAny_typeOf hTs ?_)
 rw [if_pos (by decide)]
 refine wpAny_bind (HT.sliceApplied_gen hs pl pu ?_)
 rw [h0,h1]
 show wpAny _ _ (if (((0:Nat):Int)==0&&(1:Int)==1&&(items.size - 0)==items.size)=true then _ else _) _ _ s
 rw [if_pos (by simp)]
 refine wpAny_bind (m:=Builtin.Tuple.tupleIsExact (.ref t)) (wpAny_bind (wpAny_typeOf ht.typeIs (wpAny_pure ?_)))
 rw [if_pos (by decide)]
 first
  | exact wpAny_bind (wpAny_rule (wpAny_pure ⟨_,rfl,wpAny_pure h⟩))
  | exact wpAny_bind (wpAny_rule (wpAny_bind (wpAny_pure (wpAny_pure ⟨_,rfl,wpAny_pure h⟩))))
  | exact wpAny_bind (wpAny_bind (wpAny_rule (wpAny_pure ⟨_,rfl,wpAny_pure h⟩)))
noncomputable def rSl (K:PySem.W.Frag):V→Option Int→Option Int→Hp→VK→Prop:=fun x lo hi H Q=>∃ G p r,Sub G H∧Rk K G H p x∧cutF lo hi p=some r∧∀ v G' H',Ext G H G' H'→Rp K G' r v→Q v H'
theorem s_sl:SlR X (rSl X.K):=by
 intro pins s σ H x v vl vu lo hi sl Q I rx hs pl pu h
 obtain ⟨G,p,r,sb,hp,e,k⟩:=h
 cases p with
 | tuple xs=>
  cases (show some (PyData.tuple (cut xs lo hi))=some r from e)
  obtain ⟨a,vs,rfl,q1,r1⟩:=(show ∃ a vs,x=V.ref a∧SqT X.K G a vs∧RpL X.K G xs vs from hp)
  by_cases hw:HT.sIx vs.length 0 lo=0∧HT.sIx vs.length vs.length hi=vs.length
  ·cases rx
   obtain ⟨its,rv,ht,hz⟩:=I.tuple (sb.sqT q1)
   have hlen:its.toArray.size=vs.length:=by rw [List.size_toArray];exact rv.length.symm
   refine ⟨"tuple",_,PyProof.Rows.slot_tuple_getitem.lookup,ht.typeIs,getItem_tuple_whole ht hs pl pu (by rw [hlen];exact hw.1) (by rw [hlen];exact hw.2) ⟨.ref a,H,I,rfl,k _ G H (.refl sb) ⟨a,vs,rfl,q1,?_⟩⟩⟩
   have hc:cut xs lo hi=xs:=by
    unfold cut
    rw [sIx_eq,sIx_eq,r1.length,hw.1,hw.2,List.drop_zero,Nat.sub_zero,← r1.length,List.take_length]
   rw [hc];exact r1
  ·refine sl_tup pins s σ H _ v vl vu lo hi sl Q I rx hs pl pu ⟨a,vs,rfl,sb.sqT q1,hw,fun l hf=>?_⟩
   have x1:=Ext.new sb hf (.tup (cutV vs lo hi))
   exact k _ _ _ x1 ⟨l,_,rfl,SqT.of upd_same,(cut_rel lo hi r1).mono x1.gg⟩
 | list xs=>
  cases (show some (PyData.list (cut xs lo hi))=some r from e)
  obtain ⟨a,vs,rfl,q1,r1⟩:=(show ∃ a vs,x=V.ref a∧SqL X.K H a vs∧RpL X.K G xs vs from hp)
  refine sl_list pins s σ H _ v vl vu lo hi sl Q I rx hs pl pu ⟨a,vs,rfl,q1,fun l hf=>?_⟩
  have x1:=Ext.new sb hf (.lst (cutV vs lo hi))
  exact k _ _ _ x1 ⟨l,_,rfl,SqL.of upd_same,(cut_rel lo hi r1).mono x1.gg⟩
 | _=>exact nomatch (show none=some _ from e)
noncomputable def rC1 (K:PySem.W.Frag) (o:Op1):List V→Hp→VK→Prop:=fun xs H Q=>∃ x,xs=[x]∧rOp1 K o x H Q
theorem s_len:CallR X (.builtin "len") (rC1 X.K .len):=by
 intro pins s σ H xs us Q I r h
 obtain ⟨x,rfl,G,p,q,sb,hp,e,k⟩:=h
 cases p with
 | tuple ps=>
  cases (show some (PyData.int ps.length)=some q from e)
  obtain ⟨a,vs,rfl,q1,r1⟩:=(show ∃ a vs,x=V.ref a∧SqT X.K G a vs∧RpL X.K G ps vs from hp)
  exact call_len_seq pins s σ H _ us Q I r ⟨a,vs,rfl,.inr (sb.sqT q1),k _ G H (.refl sb) (by rw [r1.length];rfl)⟩
 | list ps=>
  cases (show some (PyData.int ps.length)=some q from e)
  obtain ⟨a,vs,rfl,q1,r1⟩:=(show ∃ a vs,x=V.ref a∧SqL X.K H a vs∧RpL X.K G ps vs from hp)
  exact call_len_seq pins s σ H _ us Q I r ⟨a,vs,rfl,.inl q1,k _ G H (.refl sb) (by rw [r1.length];rfl)⟩
 | str z=>
  cases (show some (PyData.int z.length)=some q from e)
  obtain ⟨rfl,so,sl⟩:=(show x=.str z∧PyData.strOk z=true∧z.length≤16777216 from hp)
  exact call_len_str pins s σ H _ us Q I r ⟨z,rfl,by rw [line_eq];exact sl,k _ G H (.refl sb) rfl⟩
 | _=>exact nomatch (show none=some _ from e)
theorem s_toTuple:CallR X (.type "tuple") (rC1 X.K .toTuple):=by
 intro pins s σ H xs us Q I r h
 obtain ⟨x,rfl,G,p,q,sb,hp,e,k⟩:=h
 cases p with
 | tuple ps=>
  cases (show some (PyData.tuple ps)=some q from e)
  obtain ⟨a,vs,rfl,q1,r1⟩:=(show ∃ a vs,x=V.ref a∧SqT X.K G a vs∧RpL X.K G ps vs from hp)
  exact call_tuple_of pins s σ H _ us Q I r ⟨a,vs,rfl,.inr ⟨sb.sqT q1,k _ G H (.refl sb) ⟨a,vs,rfl,q1,r1⟩⟩⟩
 | list ps=>
  cases (show some (PyData.tuple ps)=some q from e)
  obtain ⟨a,vs,rfl,q1,r1⟩:=(show ∃ a vs,x=V.ref a∧SqL X.K H a vs∧RpL X.K G ps vs from hp)
  refine call_tuple_of pins s σ H _ us Q I r ⟨a,vs,rfl,.inl ⟨q1,fun l hf=>?_⟩⟩
  have x1:=Ext.new sb hf (.tup vs)
  exact k _ _ _ x1 ⟨l,vs,rfl,SqT.of upd_same,r1.mono x1.gg⟩
 | _=>exact nomatch (show none=some _ from e)
theorem s_toInt:CallR X (.type "int") (rC1 X.K .toInt):=by
 intro pins s σ H xs us Q I r h
 obtain ⟨x,rfl,G,p,q,sb,hp,e,k⟩:=h
 cases p with
 | int i=>
  cases (show some (PyData.int i)=some q from e)
  cases (show x=.int i from hp)
  exact call_int1 pins s σ H _ us Q I r (.inl ⟨i,rfl,k _ G H (.refl sb) rfl⟩)
 | bool b=>
  cases (show some (PyData.int (if b then 1 else 0))=some q from e)
  cases (show x=.bl b from hp)
  exact call_int1 pins s σ H _ us Q I r (.inr ⟨b,rfl,k _ G H (.refl sb) rfl⟩)
 | _=>exact nomatch (show none=some _ from e)
noncomputable def rIsi (K:PySem.W.Frag) (o:Op1) (T:String):List V→Hp→VK→Prop:=fun xs H Q=>∃ x,xs=[x,.ty T]∧rOp1 K o x H Q
theorem isi_ok {o:Op1} {T:String} (hn:∀ b,opF1 o .none=some (.bool b)→PySem.W.kitOne X.K (.type "NoneType") (.type T)=some b) (hb:∀ c b,opF1 o (.bool c)=some (.bool b)→PySem.W.kitOne X.K (.type "bool") (.type T)=some b)
  (hi:∀ c b,opF1 o (.int c)=some (.bool b)→PySem.W.kitOne X.K (.type "int") (.type T)=some b) (hs:∀ c b,opF1 o (.str c)=some (.bool b)→PySem.W.kitOne X.K (.type "str") (.type T)=some b)
  (hl:∀ c b,opF1 o (.list c)=some (.bool b)→PySem.W.kitOne X.K (.type "list") (.type T)=some b) (ht:∀ c b,opF1 o (.tuple c)=some (.bool b)→PySem.W.kitOne X.K (.type "tuple") (.type T)=some b)
  (hbool:∀ p r,opF1 o p=some r→∃ b,r=.bool b) (hdct:∀ kvs r,opF1 o (.dict kvs)=some r→False):CallR X (.builtin "isinstance") (rIsi X.K o T):=by
 intro pins s σ H xs us Q I r h
 obtain ⟨x,rfl,G,p,q,sb,hp,e,k⟩:=h
 obtain ⟨u,w',rfl,rx,ry⟩:=vals2 r
 cases (show w'=Value.type T from ry)
 obtain ⟨b,rfl⟩:=hbool p q e
 have fin:∀ tk,EP X pins σ Q (.bool b) {s with toks:=tk}:=fun tk=>⟨.bl b,H,I.tok tk,rfl,k _ G H (.refl sb) rfl⟩
 cases p with
 | none=>cases (show x=.non from hp);cases (show u=Value.none from rx);exact PySem.W.kia_one PySem.W.kitx_none I.kIn True.intro (hn b e) (fun z=>nomatch z) fin
 | bool c=>cases (show x=.bl c from hp);cases (show u=Value.bool c from rx);exact PySem.W.kia_one PySem.W.kitx_bool I.kIn True.intro (hb c b e) (fun z=>nomatch z) fin
 | int c=>cases (show x=.int c from hp);obtain ⟨t,rfl⟩:=(show ∃ t,u=Value.int c t from rx);exact PySem.W.kia_one PySem.W.kitx_int I.kIn True.intro (hi c b e) (fun z=>nomatch z) fin
 | str c=>
  obtain ⟨rfl,_⟩:=(show x=.str c∧_ from hp)
  obtain ⟨t,rfl⟩:=(show ∃ t,u=Value.str c t from rx);exact PySem.W.kia_one PySem.W.kitx_str I.kIn True.intro (hs c b e) (fun z=>nomatch z) fin
 | list c=>
  obtain ⟨a,vs,rfl,q1,r1⟩:=(show ∃ a vs,x=V.ref a∧SqL X.K H a vs∧RpL X.K G c vs from hp)
  cases (show u=Value.ref a from rx)
  obtain ⟨its,_,⟨o',n,h1,h2,_⟩,_⟩:=I.list q1
  exact PySem.W.kia_one PySem.W.kitx_list I.kIn ⟨o',h1,h2⟩ (hl c b e) (fun z=>nomatch z) fin
 | tuple c=>
  obtain ⟨a,vs,rfl,q1,r1⟩:=(show ∃ a vs,x=V.ref a∧SqT X.K G a vs∧RpL X.K G c vs from hp)
  cases (show u=Value.ref a from rx)
  obtain ⟨its,_,⟨o',h1,h2,_⟩,_⟩:=I.tuple (sb.sqT q1)
  exact PySem.W.kia_one PySem.W.kitx_tuple I.kIn ⟨o',h1,h2⟩ (ht c b e) (fun z=>nomatch z) fin
 | dict kvs=>exact (hdct kvs _ e).elim
end
noncomputable abbrev CF:=Nat→List PV→Option PV
noncomputable def isPeek:E→Bool
 | .peek _=>true
 | _=>false
noncomputable def RS (K:PySem.W.Frag) (ie:E) (G H:Hp) (p:PV) (v:V):Prop:=if isPeek ie=true then Rk K G H p v else Rp K G p v
theorem RS.rk {K:PySem.W.Frag} {ie:E} {G H:Hp} {p:PV} {v:V} (s:Sub G H) (h:RS K ie G H p v):Rk K G H p v:=by
 unfold RS at h
 split at h
 ·exact h
 ·exact h.rk s
theorem RS.rp {K:PySem.W.Frag} {ie:E} {G H:Hp} {p:PV} {v:V} (hp:isPeek ie=false) (h:RS K ie G H p v):Rp K G p v:=by
 unfold RS at h
 rw [hp] at h
 exact h
theorem RS.of {K:PySem.W.Frag} {ie:E} {G H:Hp} {p:PV} {v:V} (hp:isPeek ie=false) (h:Rp K G p v):RS K ie G H p v:=by
 unfold RS
 rw [hp]
 exact h
noncomputable def tE (cf:CF) (K:PySem.W.Frag) (ie:E):TE:=fun σ H Q=>∃ G ρ p,SR K G H σ ρ∧evE cf ie ρ=some p∧∀ v G' H',Ext G H G' H'→RS K ie G' H' p v→Q v H'
noncomputable def tT (cf:CF) (K:PySem.W.Frag) (ie:E):TT:=fun σ H Q=>∃ G ρ p b,SR K G H σ ρ∧evE cf ie ρ=some p∧truthF p=some b∧∀ G' H',Ext G H G' H'→Q b H'
noncomputable def tA (cf:CF) (K:PySem.W.Frag) (ie:E):TA:=fun σ H Q=>∃ G ρ ps,SR K G H σ ρ∧evE cf ie ρ=some (.tuple ps)∧∀ vs G' H',Ext G H G' H'→RpA K G' ps vs→Q vs H'
structure Snd (X:Cx) (cf:CF) (ie:E) (e:Expr):Prop where
 pe:PE X e (tE cf X.K ie)
 pt:PT X e (tT cf X.K ie)
section
variable {X:Cx} {cf:CF}
theorem _root_.L2.PE.weak {e:Expr} {t t':TE} (h:PE X e t) (w:∀ σ H Q,t' σ H Q→t σ H Q):PE X e t':=fun pins s σ H Q I q=>h pins s σ H Q I (w σ H Q q)
theorem _root_.L2.PT.weak {e:Expr} {t t':TT} (h:PT X e t) (w:∀ σ H Q,t' σ H Q→t σ H Q):PT X e t':=fun pins s σ H Q I q=>h pins s σ H Q I (w σ H Q q)
theorem _root_.L2.PW.weak {e:Expr} {t t':TT} (h:PW X e t) (w:∀ σ H Q,t' σ H Q→t σ H Q):PW X e t':=fun wh pins s σ H Q I q=>h wh pins s σ H Q I (w σ H Q q)
theorem _root_.L2.PA.weak {es:List Expr} {t t':TA} (h:PA X es t) (w:∀ σ H Q,t' σ H Q→t σ H Q):PA X es t':=fun pos pins s σ H Q I q=>h pos pins s σ H Q I (w σ H Q q)
theorem truV {K:PySem.W.Frag} {G H:Hp} {p:PV} {v:V} {b:Bool} (sb:Sub G H) (h:Rk K G H p v) (e:truthF p=some b):TruV K v H b:=by
 cases p with
 | none=>cases (show v=.non from h);cases (show some false=some b from e);exact (rfl:false=false)
 | bool c=>cases (show v=.bl c from h);have e':c=b:=Option.some.inj e;subst e';exact (rfl:c=c)
 | int i=>cases (show v=.int i from h);cases (show some (i != 0)=some b from e);exact (rfl:(i != 0)=(i != 0))
 | str x=>
  obtain ⟨rfl,_,hl⟩:=(show v=.str x∧PyData.strOk x=true∧x.length≤16777216 from h)
  cases (show some (x.length != 0)=some b from e)
  refine (⟨by rw [line_eq];exact hl,?_⟩:x.length≤sizeLine∧(x.length != 0)=((x.length:Int) != 0))
  cases hx:x.length with
  | zero=>rfl
  | succ n=>simp;lia
 | list ps=>
  obtain ⟨a,vs,rfl,q,r⟩:=(show ∃ a vs,v=V.ref a∧SqL K H a vs∧RpL K G ps vs from h)
  cases (show some (!ps.isEmpty)=some b from e)
  have hl:=r.length
  refine Or.inl ⟨vs,q,?_⟩
  cases ps <;> cases vs <;> simp_all
 | tuple ps=>
  obtain ⟨a,vs,rfl,q,r⟩:=(show ∃ a vs,v=V.ref a∧SqT K G a vs∧RpL K G ps vs from h)
  cases (show some (!ps.isEmpty)=some b from e)
  have hl:=r.length
  refine Or.inr (Or.inl ⟨vs,sb.sqT q,?_⟩)
  cases ps <;> cases vs <;> simp_all
 | dict _=>cases (show none=some b from e)
theorem Snd.plain {ie:E} {e:Expr} (h:PE X e (tE cf X.K ie)) (he:∀ whole,isTrue e X.env whole=(do let v ← whole;standAt e.pos;holding [v] (truthy v))):Snd X cf ie e:=by
 refine ⟨h,(pt_truth h he).weak fun σ H Q ⟨G,ρ,p,b,S,e1,e2,k⟩=>?_⟩
 exact ⟨G,ρ,p,S,e1,fun v G' H' x r=>⟨b,truV x.gh (r.rk x.gh) e2,k G' H' x⟩⟩
theorem snd_var {i:Nat} {x:Str} {pos:Pos} (hN:X.N[i]?=some x) (hv:Vis X.env.scope x) (hd:(x==("__debug__":Str))=false) (hcd:(x==("__classdict__":Str))=false):Snd X cf (.var i) (.Name x pos):=by
 refine .plain ((pe_var hN hv hd hcd).weak fun σ H Q ⟨G,ρ,p,S,e,k⟩=>?_) (fun _=>rfl)
 obtain ⟨sl,e1,e2⟩:=bnd_eq.mp (show bnd ρ[i]? Sl.get=some p from e)
 cases sl with
 | val q=>
  cases (show some q=some p from e2)
  obtain ⟨o,eo,v,rfl,r⟩:=S.at e1
  exact ⟨v,eo,k v G H (.refl S.sub) (.of rfl r)⟩
 | un=>cases (show none=some p from e2)
 | own ps=>cases (show none=some p from e2)
theorem snd_peek {i:Nat} {x:Str} {pos:Pos} (hN:X.N[i]?=some x) (hv:Vis X.env.scope x) (hd:(x==("__debug__":Str))=false) (hcd:(x==("__classdict__":Str))=false):Snd X cf (.peek i) (.Name x pos):=by
 refine .plain ((pe_var hN hv hd hcd).weak fun σ H Q ⟨G,ρ,p,S,e,k⟩=>?_) (fun _=>rfl)
 obtain ⟨sl,e1,e2⟩:=bnd_eq.mp (show bnd ρ[i]? Sl.look=some p from e)
 cases sl with
 | val q=>
  have e3:q=p:=Option.some.inj e2
  subst e3
  obtain ⟨o,eo,v,rfl,r⟩:=S.at e1
  exact ⟨v,eo,k v G H (.refl S.sub) (show Rk X.K G H q v from r.rk S.sub)⟩
 | own ps=>
  cases (show some (PyData.list ps)=some p from e2)
  obtain ⟨o,eo,a,vs,rfl,h1,h2,r⟩:=S.at e1
  exact ⟨_,eo,k _ G H (.refl S.sub) (show Rk X.K G H (.list ps) (.ref a) from ⟨a,vs,rfl,SqL.of h1,r⟩)⟩
 | un=>cases (show none=some p from e2)
theorem pe_con {e:Expr} {p:PV} {v:V} (h:PE X e (tC v)) (r:∀ G,Rp X.K G p v):PE X e (tE cf X.K (.con p)):=
 h.weak fun σ H Q ⟨G,ρ,q,S,e,k⟩=>by
  cases (show some p=some q from e)
  exact k v G H (.refl S.sub) (.of rfl (r G))
theorem tst_none {α:Type} {t:Bool} {x:Option α} {r:α} (h:tst t none x=some r):t=false∧x=some r:=by
 cases t with
 | true=>cases h
 | false=>exact ⟨rfl,h⟩
noncomputable def plainE:Expr→Bool
 | .Starred ..=>false
 | _=>true
theorem star_of {e:Expr} (h:plainE e=true) (es:List Expr) (env:PySem.Env):starEach (e::es) env=(false,eval e env)::starEach es env:=by
 cases e <;> first | rfl | (exact absurd (show false=true from h) Bool.false_ne_true)
theorem snd_nil:PA X [] (tA cf X.K .nil):=pa_nil.weak fun σ H Q ⟨G,ρ,ps,S,e,k⟩=>by
 cases (show some (PyData.tuple [])=some (.tuple ps) from e)
 exact k [] G H (.refl S.sub) .nil
theorem snd_cons {ih it:E} {e:Expr} {es:List Expr} (h:PE X e (tE cf X.K ih)) (hr:PA X es (tA cf X.K it)) (hk:isPeek ih=false) (hs:plainE e=true):PA X (e::es) (tA cf X.K (.cons ih it)):=
 (pa_cons h hr (star_of hs _ _)).weak fun σ H Q ⟨G,ρ,ps,S,e,k⟩=>by
  obtain ⟨x,e1,e2⟩:=bnd_eq.mp (show bnd (evE cf ih ρ) (fun x=>bnd (evE cf it ρ) (consF x))=some (.tuple ps) from e)
  obtain ⟨r,e3,e4⟩:=bnd_eq.mp e2
  cases r with
  | tuple xs=>
   cases (show some (PyData.tuple (x::xs))=some (.tuple ps) from e4)
   exact ⟨G,ρ,x,S,e1,fun v G1 H1 x1 r1=>⟨G1,ρ,xs,S.ext x1,e3,fun vs G2 H2 x2 r2=>k (v::vs) G2 H2 (x1.trans x2) (.cons ((r1.rp hk).mono x2.gg) r2)⟩⟩
  | _=>cases (show none=some (PyData.tuple ps) from e4)
noncomputable def argN:E→Option Nat
 | .nil=>some 0
 | .cons _ t=>(argN t).map (·+1)
 | _=>none
theorem args_len:∀ (a:E) (n:Nat) (ρ:Env) (p:PV),argN a=some n→evE cf a ρ=some p→∃ ps,p=.tuple ps∧ps.length=n
 | .nil,n,ρ,p,hn,e=>by
  cases (show some 0=some n from hn)
  cases (show some (PyData.tuple [])=some p from e)
  exact ⟨[],rfl,rfl⟩
 | .cons h t,n,ρ,p,hn,e=>by
  obtain ⟨x,e1,e2⟩:=bnd_eq.mp (show bnd (evE cf h ρ) (fun x=>bnd (evE cf t ρ) (consF x))=some p from e)
  obtain ⟨r,e3,e4⟩:=bnd_eq.mp e2
  cases hm:argN t with
  | none=>rw [argN,hm] at hn;cases hn
  | some m=>
   rw [argN,hm] at hn
   cases hn
   obtain ⟨xs,rfl,hl⟩:=args_len t m ρ r hm e3
   cases (show some (PyData.tuple (x::xs))=some p from e4)
   exact ⟨_,rfl,by simp [hl]⟩
 | .var _,_,_,_,hn,_=>by cases hn
 | .peek _,_,_,_,hn,_=>by cases hn
 | .con _,_,_,_,hn,_=>by cases hn
 | .tup _,_,_,_,hn,_=>by cases hn
 | .lst _,_,_,_,hn,_=>by cases hn
 | .op1 _ _,_,_,_,hn,_=>by cases hn
 | .op2 _ _ _,_,_,_,hn,_=>by cases hn
 | .sl _ _ _,_,_,_,hn,_=>by cases hn
 | .call _ _,_,_,_,hn,_=>by cases hn
 | .and _ _,_,_,_,hn,_=>by cases hn
 | .or _ _,_,_,_,hn,_=>by cases hn
 | .not _,_,_,_,hn,_=>by cases hn
 | .ite _ _ _,_,_,_,hn,_=>by cases hn
 | .chain _ _ _ _ _,_,_,_,hn,_=>by cases hn
 | .comp _ _ _ _ _,_,_,_,hn,_=>by cases hn
 | .rng _,_,_,_,hn,_=>by cases hn
 | .rng2 _ _,_,_,_,hn,_=>by cases hn
 | .dct _ _,_,_,_,hn,_=>by cases hn
 | .dgt _ _ _,_,_,_,hn,_=>by cases hn
 | .lrep _ _,_,_,_,hn,_=>by cases hn
theorem snd_tup {a:E} {es:List Expr} {k:Nat} {pos:Pos} {n:Nat} (h:PA X es (tA cf X.K a)) (hn:argN a=some n) (hs:n≤1000):Snd X cf (.tup a) (.Tuple es k pos):=by
 refine .plain ((pe_tup h).weak fun σ H Q ⟨G,ρ,p,S,e,k⟩=>?_) (fun _=>rfl)
 obtain ⟨r,e1,e2⟩:=bnd_eq.mp (show bnd (evE cf a ρ) tupF=some p from e)
 obtain ⟨ps,rfl,hl⟩:=args_len a n ρ r hn e1
 obtain ⟨hd,e3⟩:=tst_none (show tst (anyD ps) none (some (PyData.tuple ps))=some p from e2)
 cases e3
 refine ⟨G,ρ,ps,S,e1,fun vs G1 H1 x1 r1=>⟨?_,fun l hf=>?_⟩⟩
 ·have:=r1.length;rw [line_eq];lia
 ·have x2:=Ext.new x1.gh hf (.tup vs)
  exact k _ _ _ (x1.trans x2) (.of rfl ⟨l,vs,rfl,SqT.of upd_same,(r1.list hd).mono x2.gg⟩)
theorem snd_lst {a:E} {es:List Expr} {pos:Pos} {n:Nat} (h:PA X es (tA cf X.K a)) (hn:argN a=some n) (hs:n≤1000):Snd X cf (.lst a) (.List es pos):=by
 refine .plain ((pe_lst h).weak fun σ H Q ⟨G,ρ,p,S,e,k⟩=>?_) (fun _=>rfl)
 obtain ⟨r,e1,e2⟩:=bnd_eq.mp (show bnd (evE cf a ρ) lstF=some p from e)
 obtain ⟨ps,rfl,hl⟩:=args_len a n ρ r hn e1
 obtain ⟨hd,e3⟩:=tst_none (show tst (anyD ps) none (some (PyData.list ps))=some p from e2)
 cases e3
 refine ⟨G,ρ,ps,S,e1,fun vs G1 H1 x1 r1=>⟨?_,fun l hf=>?_⟩⟩
 ·have:=r1.length;rw [line_eq];lia
 ·have x2:=Ext.new x1.gh hf (.lst vs)
  exact k _ _ _ (x1.trans x2) (.of rfl ⟨l,vs,rfl,SqL.of upd_same,(r1.list hd).mono x2.gg⟩)
theorem op2_w {o:Op2} {a b:E}:∀ σ H Q,tE cf X.K (.op2 o a b) σ H Q→tOp (rOp2 X.K o) (tE cf X.K a) (tE cf X.K b) σ H Q:=fun σ H Q ⟨G,ρ,p,S,e,k⟩=>by
 obtain ⟨x,e1,e2⟩:=bnd_eq.mp (show bnd (evE cf a ρ) (fun x=>bnd (evE cf b ρ) fun y=>opF2 o x y)=some p from e)
 obtain ⟨y,e3,e4⟩:=bnd_eq.mp e2
 exact ⟨G,ρ,x,S,e1,fun v G1 H1 x1 r1=>⟨G1,ρ,y,S.ext x1,e3,fun w G2 H2 x2 r2=>
  ⟨G2,x,y,p,x2.gh,(r1.rk x1.gh).ext x2,r2.rk x2.gh,e4,fun u G3 H3 x3 r3=>k u G3 H3 (x1.trans (x2.trans x3)) (.of rfl r3)⟩⟩⟩
theorem snd_bin {op:Operator} {o:Op2} {ia ib:E} {a b:Expr} {pos:Pos} (ho:OpR X (binaryOp op) (rOp2 X.K o)) (ha:PE X a (tE cf X.K ia)) (hb:PE X b (tE cf X.K ib)):Snd X cf (.op2 o ia ib) (.BinOp a op b pos):=
 .plain ((pe_op ho ha hb).weak op2_w) (fun _=>rfl)
theorem snd_cmp {op:CmpOp} {o:Op2} {ia ib:E} {a b:Expr} {pos:Pos} (ho:OpR X (compareOp op) (rOp2 X.K o)) (hb2:∀ p q r,opF2 o p q=some r→∃ b,r=.bool b) (ha:PE X a (tE cf X.K ia)) (hb:PE X b (tE cf X.K ib))
  (hm:behindInMarks op b=false):Snd X cf (.op2 o ia ib) (.Compare a [op] [b] pos):=by
 refine ⟨(pe_cmpR ho ha hb hm).weak op2_w,(pt_cmpR ho ha hb hm).weak fun σ H Q ⟨G,ρ,p,t,S,e,et,k⟩=>?_⟩
 refine op2_w σ H (fun x H'=>∃ c,x=.bl c∧Q c H') ⟨G,ρ,p,S,e,fun v G' H' x r=>?_⟩
 obtain ⟨x',e1,e2⟩:=bnd_eq.mp (show bnd (evE cf ia ρ) (fun x=>bnd (evE cf ib ρ) fun y=>opF2 o x y)=some p from e)
 obtain ⟨y',e3,e4⟩:=bnd_eq.mp e2
 obtain ⟨b',rfl⟩:=hb2 _ _ _ e4
 have et':b'=t:=Option.some.inj et
 subst et'
 have rv:Rp X.K G' (.bool b') v:=r.rp rfl
 cases (show v=.bl b' from rv)
 exact ⟨b',rfl,k G' H' x⟩
end
noncomputable def clOf (cells:List (Str×Addr)):List (Str×NameKind)→List (Str×Addr)→List (Str×Addr)
 | [],acc=>acc
 | (n,k)::r,acc=>if k==NameKind.free then clOf cells r ((n,(cells.lookup n).getD 0)::acc) else clOf cells r acc
theorem closure_of {scope:Scope} {env:PySem.Env} (h:∀ x∈scope.names,x.2=.free→∃ c,env.cells.lookup x.1=some c):closureFor scope env=pure (clOf env.cells scope.names []):=by
 unfold closureFor
 have go:∀ (names:List (Str×NameKind)) (acc:List (Str×Addr)),(∀ x∈names,x.2=.free→∃ c,env.cells.lookup x.1=some c)→
   (forIn names acc fun x cs=>do
    if (x.2==NameKind.free)=true then do
     let a ← cellOf env x.1
     pure (ForInStep.yield ((x.1,a)::cs))
    else pure (ForInStep.yield cs):Sem (List (Str×Addr)))=pure (clOf env.cells names acc):=by
  intro names
  induction names with
  | nil=>intro acc _;rfl
  | cons x r ih=>
   intro acc hn
   obtain ⟨n,k⟩:=x
   rw [List.forIn_cons]
   by_cases hk:k=.free
   ·subst hk
    obtain ⟨c,ec⟩:=hn (n,.free) List.mem_cons_self rfl
    have e1:cellOf env n=pure c:=by unfold cellOf;rw [ec]
    simp only [beq_self_eq_true,if_true,e1,pure_bind]
    rw [clOf,if_pos (by simp),ec]
    exact ih _ fun y hy=>hn y (List.mem_cons_of_mem _ hy)
   ·have hb:(k==NameKind.free)=false:=by simpa using hk
    simp only [hb,Bool.false_eq_true,if_false,pure_bind]
    rw [clOf,if_neg (by simp [hk])]
    exact ih _ fun y hy=>hn y (List.mem_cons_of_mem _ hy)
 have:=go scope.names [] h
 simpa using this
theorem clOf_sub (cells:List (Str×Addr)):∀ (names:List (Str×NameKind)) (acc:List (Str×Addr)),(∀ x∈names,x.2=.free→∃ c,cells.lookup x.1=some c)→(∀ x c,(x,c)∈acc→cells.lookup x=some c)→
  ∀ x c,(x,c)∈clOf cells names acc→cells.lookup x=some c
 | [],acc,_,ha=>ha
 | (n,k)::r,acc,hn,ha=>by
  intro x c h
  rw [clOf] at h
  split at h
  ·rename_i hk
   obtain ⟨d,ed⟩:=hn (n,k) List.mem_cons_self (by simpa using hk)
   refine clOf_sub cells r _ (fun y hy=>hn y (List.mem_cons_of_mem _ hy)) (fun y e hm=>?_) x c h
   rcases List.mem_cons.mp hm with z | z
   ·cases z
    rw [ed];rfl
   ·exact ha y e z
  ·exact clOf_sub cells r acc (fun y hy=>hn y (List.mem_cons_of_mem _ hy)) ha x c h
theorem clOf_mem (cells:List (Str×Addr)):∀ (names:List (Str×NameKind)) (acc:List (Str×Addr)) (x:Str),((∃ c,(x,c)∈acc)∨(x,NameKind.free)∈names)→∃ c,(x,c)∈clOf cells names acc
 | [],acc,x,h=>by
  rcases h with h | h
  ·exact h
  ·cases h
 | (n,k)::r,acc,x,h=>by
  rw [clOf]
  split
  ·rename_i hk
   have hk':k=.free:=by simpa using hk
   subst hk'
   refine clOf_mem cells r _ x ?_
   rcases h with ⟨c,h⟩ | h
   ·exact .inl ⟨c,List.mem_cons_of_mem _ h⟩
   ·rcases List.mem_cons.mp h with z | z
    ·cases z
     exact .inl ⟨_,List.mem_cons_self⟩
    ·exact .inr z
  ·rename_i hk
   refine clOf_mem cells r acc x ?_
   rcases h with h | h
   ·exact .inl h
   ·rcases List.mem_cons.mp h with z | z
    ·cases z
     exact absurd (by simp) hk
    ·exact .inr z
theorem lookup_of_mem {α:Type} {l:List (Str×α)} {x:Str} {c:α} (h:(x,c)∈l):∃ d,l.lookup x=some d:=by
 induction l with
 | nil=>cases h
 | cons y r ih=>
  obtain ⟨n,d⟩:=y
  rw [List.lookup_cons]
  cases e:x==n with
  | true=>exact ⟨d,rfl⟩
  | false=>
   rcases List.mem_cons.mp h with z | z
   ·cases z;simp at e
   ·exact ih z
theorem compLoop_gen {prog:Program} {w:World} {A:Around} {R:Result→Shared→Prop} {s:Shared} {elt target iter:Expr} {ifs:List Expr} {scope:Scope} {pos:Pos} {it acc:Value} {env:PySem.Env} (I:Nat→Shared→Prop)
  (turn:∀ n s,I n s→wpAny (model prog w) A (pyNext it) (fun r s₁=>match r with
   | none=>R (.ok .next) s₁
   | some v=>wpAny (model prog w) A (letOwnedTupleGo target it v) (fun _ s₁'=>wpAny (model prog w) A (assign target env v) (fun _ s₂=>
     wpAny (model prog w) A (forIn ifs true fun c r=>if r=true then do let ok ← isTrue c env (eval c env);pure (ForInStep.yield ok) else pure (ForInStep.yield r)) (fun ok s₃=>
      if ok=true then wpAny (model prog w) A (eval elt env) (fun x s₄=>
       wpAny (model prog w) A (call (.builtin "list.append") [acc,x]) (fun _ s₅=>∃ m,m<n∧I m s₅) (fun _ _=>False) s₄) (fun _ _=>False) s₃
      else ∃ m,m<n∧I m s₃) (fun _ _=>False) s₂) (fun _ _=>False) s₁') (fun _ _=>False) s₁) (fun _ _=>False) s)
  (n:Nat) (h:I n s):codeAny (model prog w) A (.compLoop (.ListComp elt [⟨target,iter,ifs,0⟩] scope pos) 0 it acc env) R s:=by
 refine codeAny_loop rfl I (fun n s hI=>?_) n h
 show wpAny _ A ((compTurn (.ListComp elt [⟨target,iter,ifs,0⟩] scope pos) 0 it acc env).onRaise (fun x=>do noteFrame x env;theTreesLotGoes x)) _ _ s
 refine wpAny_noted ?_
 rw [compTurn_list]
 refine wpAny_bind (wpAny_standAt (wpAny_bind (wpAny_mono (turn n s hI) (fun r s₁ h₁=>?_) fun _ _ h'=>h'.elim)))
 cases r with
 | none=>exact wpAny_pure h₁
 | some v=>
  refine wpAny_bind (wpAny_mono h₁ (fun _ s₁' h₁'=>?_) fun _ _ h'=>h'.elim)
  refine wpAny_bind (wpAny_mono h₁' (fun _ s₂ h₂=>wpAny_bind (wpAny_mono h₂ (fun ok s₃ h₃=>?_) fun _ _ h'=>h'.elim)) fun _ _ h'=>h'.elim)
  cases ok with
  | false=>exact wpAny_pure ⟨rfl,h₃⟩
  | true=>
   exact wpAny_bind (wpAny_bind (wpAny_mono h₃ (fun x s₄ h₄=>wpAny_bind (wpAny_mono h₄ (fun _ s₅ h₅=>wpAny_pure (wpAny_pure ⟨rfl,h₅⟩)) fun _ _ h'=>h'.elim)) fun _ _ h'=>h'.elim))
theorem cellsFrom_app:∀ (names:List (Str×NameKind)) (n:Nat) (acc:List (Str×Addr)),cellsFrom n names acc=cellsFrom n names []++acc
 | [],_,_=>rfl
 | (x,k)::r,n,acc=>by
  unfold cellsFrom
  split
  ·rw [cellsFrom_app r (n+1) ((x,n)::acc),cellsFrom_app r (n+1) [(x,n)],List.append_assoc];rfl
  ·exact cellsFrom_app r n acc
theorem cellsFrom_name:∀ (names:List (Str×NameKind)) (n:Nat) (x:Str) (c:Addr),(x,c)∈cellsFrom n names []→(x,NameKind.cell)∈names
 | [],_,_,_,h=>by cases h
 | (y,k)::r,n,x,c,h=>by
  unfold cellsFrom at h
  split at h
  ·rename_i hk
   rw [cellsFrom_app] at h
   rcases List.mem_append.mp h with z | z
   ·exact List.mem_cons_of_mem _ (cellsFrom_name r _ x c z)
   ·have:(x,c)=(y,n):=by simpa using z
    cases this
    have:k=.cell:=by simpa using hk
    rw [this]
    exact List.mem_cons_self
  ·exact List.mem_cons_of_mem _ (cellsFrom_name r _ x c h)
theorem cellsFrom_there:∀ (names:List (Str×NameKind)) (n:Nat) (x:Str),(x,NameKind.cell)∈names→∃ c,(x,c)∈cellsFrom n names []
 | [],_,_,h=>by cases h
 | (y,k)::r,n,x,h=>by
  unfold cellsFrom
  rcases List.mem_cons.mp h with z | z
  ·cases z
   rw [if_pos (by simp),cellsFrom_app]
   exact ⟨n,List.mem_append_right _ List.mem_cons_self⟩
  ·split
   ·obtain ⟨c,hc⟩:=cellsFrom_there r (n+1) x z
    rw [cellsFrom_app]
    exact ⟨c,List.mem_append_left _ hc⟩
   ·exact cellsFrom_there r n x z
theorem lookup_app {α:Type}:∀ (l m:List (Str×α)) (x:Str),(l++m).lookup x=(l.lookup x).or (m.lookup x)
 | [],_,_=>rfl
 | (y,a)::l,m,x=>by
  rw [List.cons_append,List.lookup_cons,List.lookup_cons]
  cases x==y with
  | true=>rfl
  | false=>exact lookup_app l m x
structure OwnC (names:List (Str×NameKind)) (lo:Nat) (h1:Heap) (new:List (Str×Addr)):Prop where
 ok:∀ x c,new.lookup x=some c→h1.IsCell c none∧lo≤c∧(x,NameKind.cell)∈names
 inj:∀ x y c,new.lookup x=some c→new.lookup y=some c→x=y
 has:∀ x,(x,NameKind.cell)∈names→∃ c,new.lookup x=some c
theorem ownC_of (names:List (Str×NameKind)) (h:Heap):OwnC names h.objs.size (pushCells h names) (cellsFrom h.objs.size names []):=by
 have ok:=cellsFrom_ok names h h.objs.size [] ⟨fun _ _ hm=>(nomatch hm),List.Pairwise.nil⟩ (Nat.le_refl _)
 refine ⟨fun x c e=>?_,fun x y c e1 e2=>PySem.name_of_addr ok.apart (PySem.mem_of_lookup e1) (PySem.mem_of_lookup e2),fun x hx=>?_⟩
 ·have hm:=PySem.mem_of_lookup e
  exact ⟨(ok.empty x c hm).1,(ok.empty x c hm).2,cellsFrom_name names _ x c hm⟩
 ·obtain ⟨c,hc⟩:=cellsFrom_there names h.objs.size x hx
  exact lookup_of_mem hc
theorem nfe_comp {M:Model} {A:Around} {E:Value→Shared→Prop} {s:Shared} {scope:Scope} {globals:Addr} {cl:List (Str×Addr)} {qual:Str} {outer:PySem.Env} {Q:PySem.Env→Shared→Prop}
  (hQ:Q {scope,locals:=s.heap.objs.size,globals,cells:=cellsFrom (s.heap.objs.size+1) scope.names cl,qual,func:=none,code:=outer.code,frame:=outer.frame,builtins:=outer.builtins}
   {s with heap:=pushCells (s.heap.push {cls:=.type "dict",data:=.dict #[]}) scope.names}):
  wpAny M A (newFunctionEnv scope globals cl [] qual none .none (some outer)) Q E s:=by
 simp only [newFunctionEnv,Option.isSome_some,if_true]
 refine wpAny_bind (wpAny_alloc ?_)
 refine wpAny_bind (wpAny_layCells _ (fun name kind cells=>by cases hkc:kind==NameKind.cell <;> simp [hkc]) _ _ _ _ ?_)
 rw [show ({s with heap:=s.heap.push {cls:=.type "dict",data:=.dict #[]}}:Shared).heap.objs.size=s.heap.objs.size+1 from Heap.size_push ..]
 simp only [List.forIn_nil]
 exact wpAny_bind (wpAny_pure (wpAny_pure hQ))
noncomputable def cxC (X:Cx) (N':List Str) (scope:Scope) (cl:List (Str×Addr)) (C:Addr) (s:Shared) (H:Hp) (fp:List Addr):Cx where
 prog:=X.prog
 w:=X.w
 K:=X.K
 mg:=X.mg
 base:=X.base
 A:=X.A
 N:=N'
 s₀:=s
 H₀:=H
 env:=compEnvC scope cl C X.env
 outer:=X.stack
 stack:=X.stack
 ex:=fp
 fn:=fun x=>scope.names.lookup x==some NameKind.cell
 calm:=true
 pn:=[]
 xe:=fun _ _=>False
structure Blk (X:Cx) (N':List Str) (scope:Scope) (X':Cx):Prop where
 prog:X'.prog=X.prog
 w:X'.w=X.w
 K:X'.K=X.K
 mg:X'.mg=X.mg
 base:X'.base=X.base
 A:X'.A=X.A
 N:X'.N=N'
 sc:X'.env.scope=relabel scope X.env
 calm:X'.calm=true
 xe:X'.xe=fun _ _=>False
 fn:X'.fn=fun x=>scope.names.lookup x==some NameKind.cell
structure CScope (X:Cx) (own:List Str) (caps:List Nat) (scope:Scope):Prop where
 kind:scope.kind=.function
 cells:∀ x∈scope.names,x.2=.cell→scope.names.lookup x.1=some .cell
 locals:∀ x∈scope.names,x.2=.local→scope.names.lookup x.1=some .local
 frees:∀ x∈scope.names,x.2=.free→X.env.kindOf x.1=some .cell∨X.env.kindOf x.1=some .free
 caps:∀ j∈caps,∃ y,X.N[j]?=some y∧Vis X.env.scope y∧scope.names.lookup y=some .free
noncomputable def namesC (X:Cx) (own:List Str) (caps:List Nat):List Str:=own++caps.map fun j=>X.N.getD j ""
noncomputable def slotsC (own:List Str) (caps:List Nat) (σ:St):St:=List.replicate own.length none++caps.map fun j=>σ.getD j none
theorem lookup_map {α β:Type} (f:Str×α→Str×β) (hf:∀ n k,(f (n,k)).1=n):∀ (l:List (Str×α)) (y:Str),(l.map f).lookup y=(l.lookup y).map fun k=>(f (y,k)).2
 | [],_=>rfl
 | (n,k)::r,y=>by
  rw [List.map_cons]
  have e:f (n,k)=(n,(f (n,k)).2):=Prod.ext (hf n k) rfl
  rw [e,List.lookup_cons,List.lookup_cons]
  cases h:y==n with
  | true=>
   have:y=n:=by simpa using h
   subst this
   rfl
  | false=>exact lookup_map f hf r y
theorem relabel_lookup (scope:Scope) (env:PySem.Env) (y:Str):(relabel scope env).names.lookup y=(scope.names.lookup y).map fun k=>if (k==.free&&env.scope.kind==.function&&env.kindOf y==some .cell)=true then NameKind.cell else k:=by
 have:=lookup_map (fun (x:Str×NameKind)=>match x with | (n,k)=>if (k==.free&&env.scope.kind==.function&&env.kindOf n==some .cell) then (n,NameKind.cell) else (n,k)) (fun n k=>by dsimp only;split <;> rfl) scope.names y
 refine this.trans ?_
 congr 1
 funext k
 dsimp only
 split <;> rfl
theorem relabel_free {scope:Scope} {env:PySem.Env} {y:Str} (h:scope.names.lookup y=some .free):(relabel scope env).names.lookup y=some .cell∨(relabel scope env).names.lookup y=some .free:=by
 rw [relabel_lookup,h]
 simp only [Option.map_some]
 split
 ·exact .inl rfl
 ·exact .inr rfl
theorem relabel_of {scope:Scope} {env:PySem.Env} {y:Str} (h:(relabel scope env).names.lookup y=some .cell∨(relabel scope env).names.lookup y=some .free):scope.names.lookup y=some .free∨scope.names.lookup y=some .cell:=by
 rw [relabel_lookup] at h
 cases e:scope.names.lookup y with
 | none=>rw [e] at h;simp at h
 | some k=>
  rw [e] at h
  simp only [Option.map_some,Option.some.injEq] at h
  by_cases hk:k=.free
  ·exact .inl (by rw [hk])
  ·have hb:(k==NameKind.free)=false:=by simpa using hk
   simp only [hb,Bool.false_and,Bool.false_eq_true,if_false] at h
   rcases h with h | h
   ·exact .inr (by rw [h])
   ·exact absurd h hk
theorem inv_comp {X:Cx} {pins:List (Addr×Obj)} {σ:St} {H:Hp} {s:Shared} {own:List Str} {caps:List Nat} {scope:Scope} {fp:List Addr} {new:List (Str×Addr)} (I:Inv X pins σ H s) (S:CScope X own caps scope) (hcalm:X.calm=true)
  (hfp:∀ b∈fp,FpOk X pins H b) (hfo:∀ b∈fp,∃ o,s.heap.get? b=some o) {h1:Heap} {t:Nat} {m:Str→Option Value} (hns:h1.Ns s.heap.objs.size m) (hk:∀ b o,s.heap.get? b=some o→h1.get? b=some o) (O:OwnC scope.names (s.heap.objs.size+1) h1 new):
  Inv (cxC X (namesC X own caps) scope (new++clOf X.env.cells scope.names []) s.heap.objs.size s H fp) [] (slotsC own caps σ) H {s with heap:=h1,toks:=t}:=by
 have hfr:∀ x∈scope.names,x.2=.free→∃ c,X.env.cells.lookup x.1=some c:=fun x hx e=>I.ok.has x.1 (S.frees x hx e)
 have cls0:∀ x c,(clOf X.env.cells scope.names []).lookup x=some c→X.env.cells.lookup x=some c:=fun x c e=>clOf_sub X.env.cells scope.names [] hfr (fun _ _ h=>by cases h) x c (PySem.mem_of_lookup e)
 have clh0:∀ x,scope.names.lookup x=some .free→∃ c,(clOf X.env.cells scope.names []).lookup x=some c:=fun x e=>by
  obtain ⟨c,hc⟩:=clOf_mem X.env.cells scope.names [] x (.inr (PySem.mem_of_lookup e))
  exact lookup_of_mem hc
 have cls:∀ x c,(new++clOf X.env.cells scope.names []).lookup x=some c→new.lookup x=some c∨(new.lookup x=none∧X.env.cells.lookup x=some c):=fun x c e=>by
  rw [lookup_app] at e
  cases q:new.lookup x with
  | none=>rw [q] at e;exact .inr ⟨rfl,cls0 x c e⟩
  | some d=>rw [q] at e;exact .inl e
 have clh:∀ x,scope.names.lookup x=some .free→new.lookup x=none∧∃ c,(new++clOf X.env.cells scope.names []).lookup x=some c:=fun x e=>by
  have hn:new.lookup x=none:=by
   cases q:new.lookup x with
   | none=>rfl
   | some d=>
    have:=S.cells _ (O.ok x d q).2.2 rfl
    rw [e] at this;cases this
  obtain ⟨c,hc⟩:=clh0 x e
  refine ⟨hn,c,?_⟩
  rw [lookup_app,hn];exact hc
 have old:∀ x c,X.env.cells.lookup x=some c→c<s.heap.objs.size:=fun x c e=>by
  obtain ⟨v,hv⟩:=I.cell x c e
  exact hv.lt
 have inj:∀ x y c,(new++clOf X.env.cells scope.names []).lookup x=some c→(new++clOf X.env.cells scope.names []).lookup y=some c→x=y:=fun x y c e1 e2=>by
  rcases cls x c e1 with a | ⟨_,a⟩ <;> rcases cls y c e2 with b | ⟨_,b⟩
  ·exact O.inj x y c a b
  ·have h1:=(O.ok x c a).2.1
   have h2:=old y c b
   lia
  ·have h1:=(O.ok y c b).2.1
   have h2:=old x c a
   lia
  ·exact I.ok.inj x y c a b
 refine ⟨⟨I.ok.mod,S.kind,I.ok.glob,I.ok.blt,Nat.le_refl _,inj,fun x hx=>?_,fun x c hf ec=>?_,fun _=>I.ok.hd hcalm,I.ok.frames,.inl rfl,fun b hb=>⟨?_,fun x c e=>?_⟩,I.bs,
  Nat.le_trans I.ok.bsz I.sz,fun b o e hb=>?_,fun b hb hs=>?_,I.stack,I.stkFree⟩,rfl,I.bare,Un.kept hk,⟨m,hns,fun i x v e1 e2 e3=>?_⟩,fun x c e=>?_,I.hok.fresh (Nat.le_refl _),fun x c e=>?_,fun p hp=>?_,I.hok.kept hk,?_⟩
 ·show ∃ c,(new++clOf X.env.cells scope.names []).lookup x=some c
  rcases relabel_of hx with z | z
  ·exact (clh x z).2
  ·obtain ⟨c,hc⟩:=O.has x (PySem.mem_of_lookup z)
   exact ⟨c,by rw [lookup_app,hc];rfl⟩
 ·have hf':scope.names.lookup x=some .cell:=eq_of_beq hf
  obtain ⟨d,hd⟩:=O.has x (PySem.mem_of_lookup hf')
  rcases cls x c ec with z | ⟨z,_⟩
  ·exact Nat.le_of_succ_le (O.ok x c z).2.1
  ·rw [hd] at z;cases z
 ·obtain ⟨o,eo⟩:=hfo b hb
  exact Nat.ne_of_lt (Heap.lt_size eo)
 ·rcases cls x c e with z | ⟨_,z⟩
  ·obtain ⟨o,eo⟩:=hfo b hb
   have:=Heap.lt_size eo
   have:=(O.ok x c z).2.1
   lia
  ·obtain ⟨_,_,_,_,f5,_⟩:=hfp b hb
   exact f5 x c z
 ·obtain ⟨_,_,_,f4,_,_⟩:=hfp b hb
  rcases f4 with z | z
  ·exact I.ok.noex b o e z
  ·have:=Heap.lt_size e
   have:=I.ok.bsz
   exact absurd (Nat.lt_of_lt_of_le (Heap.lt_size e) (Nat.le_trans I.ok.bsz z)) (Nat.lt_irrefl _)
 ·obtain ⟨_,f2,f3,_,_,_⟩:=hfp b hb
  rcases List.mem_cons.mp (I.stkSub b hs) with z | z
  ·exact f2 z
  ·exact f3 z
 ·have hlen:(List.replicate own.length (none:Option V)).length=own.length:=List.length_replicate
  unfold cxC namesC at e1
  dsimp only at e1
  unfold slotsC at e2
  by_cases hi:i<own.length
  ·rw [List.getElem?_append_left (by rw [hlen];exact hi),List.getElem?_replicate,if_pos hi] at e2
   cases e2
  ·rw [List.getElem?_append_right (by rw [hlen];lia),hlen,List.getElem?_map] at e2
   rw [List.getElem?_append_right (by lia),List.getElem?_map] at e1
   cases ec:caps[i - own.length]? with
   | none=>rw [ec] at e2;cases e2
   | some j=>
    rw [ec] at e1 e2
    simp only [Option.map_some,Option.some.injEq] at e1 e2
    obtain ⟨y,ey,vy,fy⟩:=S.caps j (List.mem_of_getElem? ec)
    have eyx:y=x:=by rw [← e1,List.getD_eq_getElem?_getD,ey];rfl
    subst eyx
    have eσ:σ[j]?=some (some v):=by
     rw [List.getD_eq_getElem?_getD] at e2
     cases q:σ[j]? with
     | none=>rw [q] at e2;cases e2
     | some o=>rw [q] at e2;exact congrArg some e2
    obtain ⟨m0,hn0,hl0⟩:=I.loc
    obtain ⟨u,ru,lk⟩:=hl0 j y v ey eσ vy
    refine ⟨u,ru,.inr ⟨?_,?_⟩⟩
    ·exact relabel_free fy
    ·have hfk:=S.frees (y,.free) (PySem.mem_of_lookup fy) rfl
     obtain ⟨hn,c,hc⟩:=clh y fy
     rcases lk with ⟨k1,_⟩ | ⟨_,d,hd,hcell⟩
     ·dsimp only at hfk
      rcases hfk with z | z <;> (rw [k1] at z;cases z)
     ·have:c=d:=by
       rcases cls y c hc with z | ⟨_,z⟩
       ·rw [hn] at z;cases z
       ·exact Option.some.inj (z.symm.trans hd)
      subst this
      exact ⟨c,hc,hcell.keeps hk⟩
 ·rcases cls x c e with z | ⟨_,z⟩
  ·exact ⟨_,(O.ok x c z).1⟩
  ·obtain ⟨v,hv⟩:=I.cell x c z
   exact ⟨v,hv.keeps hk⟩
 ·rcases cls x c e with z | ⟨_,z⟩
  ·exact I.hok.fresh (Nat.le_of_succ_le (O.ok x c z).2.1)
  ·exact I.freeC x c z
 ·exact absurd (show p∈([]:List (Addr×Obj)) from hp) (by simp)
 ·unfold slotsC
  show _=(namesC X own caps).length
  unfold namesC
  simp
structure Walk (K:PySem.W.Frag) (J:It) (G:Hp) (xs:List PV):Prop where
 len:xs.length≤16777216
 go:∀ i H,Sub G H→i<xs.length→J.go i H
 yld:∀ i H x H',Sub G H→i<xs.length→J.yld i H x H'→∃ p,xs[i]?=some p∧((H'=H∧Rp K G p x)∨∃ a vs ps,x=V.ref a∧H a=none∧H'=L2.upd H a (.tup vs)∧p=.tuple ps∧RpL K G ps vs)
 stop:∀ i H,Sub G H→xs.length≤i→J.stop i H
theorem Walk.step {K:PySem.W.Frag} {J:It} {G G1 H H':Hp} {xs:List PV} {i:Nat} {x:V} (wk:Walk K J G xs) (s:Sub G G1) (sh:Sub G1 H) (hi:i<xs.length) (y:J.yld i H x H'):∃ G2 p,Ext G1 H G2 H'∧xs[i]?=some p∧Rp K G2 p x:=by
 obtain ⟨p,ep,⟨rfl,r⟩ | ⟨a,vs,ps,rfl,ha,rfl,rfl,r⟩⟩:=wk.yld i H x H' (s.trans sh) hi y
 ·exact ⟨G1,p,.refl sh,ep,r.mono s⟩
 ·exact ⟨_,_,Ext.new sh ha _,ep,a,vs,rfl,SqT.of upd_same,r.mono (s.trans (.new (sh.fresh ha) _))⟩
theorem walk_list {K:PySem.W.Frag} {G:Hp} {a:Addr} {ps:List PV} {vs:List V} (q:SqL K G a vs) (r:RpL K G ps vs) (hz:vs.length≤sizeLine):Walk K (Itl K a) G ps where
 len:=by rw [r.length,← line_eq];exact hz
 go:=fun i H s hi=>⟨vs,vs[i]'(by rw [← r.length];exact hi),s.sqL q,List.getElem?_eq_getElem _⟩
 yld:=fun i H x H' s hi y=>by
  obtain ⟨e,y⟩:=y
  obtain ⟨p,e1,_,e2⟩:=r.getV (y vs (s.sqL q))
  exact ⟨p,e1,.inl ⟨e,e2⟩⟩
 stop:=fun i H s hi=>⟨vs,s.sqL q,by rw [← r.length];exact hi⟩
theorem walk_tup {K:PySem.W.Frag} {G:Hp} {a:Addr} {ps:List PV} {vs:List V} (q:SqT K G a vs) (r:RpL K G ps vs) (hz:vs.length≤sizeLine):Walk K (Itt K a) G ps where
 len:=by rw [r.length,← line_eq];exact hz
 go:=fun i H s hi=>⟨vs,vs[i]'(by rw [← r.length];exact hi),s.sqT q,List.getElem?_eq_getElem _⟩
 yld:=fun i H x H' s hi y=>by
  obtain ⟨e,y⟩:=y
  obtain ⟨p,e1,_,e2⟩:=r.getV (y vs (s.sqT q))
  exact ⟨p,e1,.inl ⟨e,e2⟩⟩
 stop:=fun i H s hi=>⟨vs,s.sqT q,by rw [← r.length];exact hi⟩
theorem walk_rng {K:PySem.W.Frag} {G:Hp} (lo:Int) (n:Nat) (hn:n≤16777216):Walk K (Itr lo n) G ((List.range n).map fun k=>.int (lo+(k:Nat))) where
 len:=by simpa using hn
 go:=fun i H s hi=>by
  have:i<n:=by simpa using hi
  exact this
 yld:=fun i H x H' s hi y=>by
  obtain ⟨e,y⟩:=y
  have hi':i<n:=by simpa using hi
  exact ⟨.int (lo+(i:Nat)),by simp [hi'],.inl ⟨e,y⟩⟩
 stop:=fun i H s hi=>by
  have:n≤i:=by simpa using hi
  exact this
noncomputable def tI (cf:CF) (K:PySem.W.Frag) (ie:E):TI:=fun σ H R=>∃ G ρ p xs,SR K G H σ ρ∧evE cf ie ρ=some p∧seqOf p=some xs∧∀ J G' H',Ext G H G' H'→Walk K J G' xs→R J H'
section
variable {X:Cx} {cf:CF} {tg:Expr}
theorem _root_.L2.PI.weak {e:Expr} {t t':TI} (h:PI X tg e t) (w:∀ σ H Q,t' σ H Q→t σ H Q):PI X tg e t':=fun pins s σ H Q I q=>h pins s σ H Q I (w σ H Q q)
theorem pi_seq {l:Expr} {tl:TE} (hl:PE X l tl):PI X tg l (fun σ H R=>tl σ H fun x H1=>∃ a,x=.ref a∧((∃ xs,SqL X.K H1 a xs∧(xs.length≤sizeLine→R (Itl X.K a) H1))∨∃ xs,SqT X.K H1 a xs∧(xs.length≤sizeLine→R (Itt X.K a) H1))):=by
 intro pins s σ H R I h
 refine thn (hl pins s σ H _ I h) fun v s1 ⟨x,H1,I1,r1,q1⟩=>?_
 obtain ⟨a,e,q⟩:=q1
 subst e
 cases r1
 rcases q with ⟨xs,hq,q⟩ | ⟨xs,hq,q⟩
 ·obtain ⟨its,rv,p,hz⟩:=I1.list hq
  refine wpAny_pyIter_list p.isList ?_
  refine ⟨s1.heap.objs.size,[s1.heap.objs.size],_,_,H1,rfl,I1.kept (t':=s1.toks) fun b o e=>Heap.get?_push_of_some _ e,turn_list a _,⟨_,Heap.get?_push_size _ rfl,rfl,rfl⟩,fun b hb=>?_,q hz⟩
  have e:b=s1.heap.objs.size:=by simpa using hb
  subst e
  exact I1.fpOk (Nat.le_refl _) (I1.hok.fresh (Nat.le_refl _))
 ·obtain ⟨its,rv,p,hz⟩:=I1.tuple hq
  refine wpAny_pyIter_tuple (show s1.heap.IsTuple a its.toArray from p) ?_
  refine ⟨s1.heap.objs.size,[s1.heap.objs.size],_,_,H1,rfl,I1.kept (t':=s1.toks) fun b o e=>Heap.get?_push_of_some _ e,turn_tuple a _,⟨_,Heap.get?_push_size _ rfl,rfl,rfl⟩,fun b hb=>?_,q hz⟩
  have e:b=s1.heap.objs.size:=by simpa using hb
  subst e
  exact I1.fpOk (Nat.le_refl _) (I1.hok.fresh (Nat.le_refl _))
theorem it_seq {ie:E} {e:Expr} (h:PE X e (tE cf X.K ie)) (hk:isPeek ie=false):PI X tg e (tI cf X.K ie):=
 (pi_seq h).weak fun σ H R ⟨G,ρ,p,xs,S,e1,e2,k⟩=>by
  refine ⟨G,ρ,p,S,e1,fun v G' H' x r=>?_⟩
  have r':=r.rp hk
  cases p with
  | list ps=>
   have e3:ps=xs:=Option.some.inj e2
   subst e3
   obtain ⟨a,vs,rfl,q,rr⟩:=(show ∃ a vs,v=V.ref a∧SqL X.K G' a vs∧RpL X.K G' ps vs from r')
   exact ⟨a,rfl,.inl ⟨vs,x.gh.sqL q,fun hz=>k _ G' H' x (walk_list q rr hz)⟩⟩
  | tuple ps=>
   have e3:ps=xs:=Option.some.inj e2
   subst e3
   obtain ⟨a,vs,rfl,q,rr⟩:=(show ∃ a vs,v=V.ref a∧SqT X.K G' a vs∧RpL X.K G' ps vs from r')
   exact ⟨a,rfl,.inr ⟨vs,x.gh.sqT q,fun hz=>k _ G' H' x (walk_tup q rr hz)⟩⟩
  | _=>cases e2
theorem it_rng {ia:E} {a:Expr} {p pos:Pos} (ha:PE X a (tE cf X.K ia)) (hk:isPeek ia=false) (hs:plainE a=true) (hg:Gl X "range") (hm:X.mg "range"=none):PI X tg (.Call (.Name "range" p) [a] [] pos) (tI cf X.K (.rng ia)):=
 (pi_range1 hg hm (pa_cons ha pa_nil (star_of hs _ _)) (star_of hs _ _)).weak fun σ H R ⟨G,ρ,q,xs,S,e1,e2,k⟩=>by
  obtain ⟨x,ex,er⟩:=bnd_eq.mp (show bnd (evE cf ia ρ) (fun x=>rngI (.int 0) x)=some q from e1)
  refine ⟨G,ρ,x,S,ex,fun v G1 H1 x1 r1=>?_⟩
  have r':=r1.rp hk
  cases x with
  | int n=>
   cases (show v=.int n from r')
   have er':(if -1000000≤(0:Int)∧(0:Int)≤1000000∧-1000000≤n∧n≤1000000 then some (PyData.list ((List.range (n - 0).toNat).map fun k=>.int (0+(k:Nat)))) else none)=some q:=er
   by_cases hc:-1000000≤(0:Int)∧(0:Int)≤1000000∧-1000000≤n∧n≤1000000
   ·rw [if_pos hc] at er'
    cases er'
    cases (show some ((List.range (n - 0).toNat).map fun k=>PyData.int (0+(k:Nat)))=some xs from e2)
    refine ⟨n,rfl,by lia,by lia,k _ G1 H1 x1 ?_⟩
    have:=walk_rng (K:=X.K) (G:=G1) 0 n.toNat (by lia)
    rw [Int.sub_zero]
    exact this
   ·rw [if_neg hc] at er';cases er'
  | _=>simp [rngI] at er
end
noncomputable def bindV (K:PySem.W.Frag):Option Nat→V→Hp→(List V→Prop)→Prop
 | none,v,_,P=>P [v]
 | some n,v,H,P=>∃ a xs,v=.ref a∧SqT K H a xs∧xs.length=n∧P xs
structure BlkOk (X:Cx) (cf:CF) (own:List Str) (caps:List Nat) (scope:Scope) (tg:Option Nat) (target:Expr) (ifs:List Expr) (elt:Expr) (icond ielt:E):Prop where
 tgt:∀ X',Blk X (namesC X own caps) scope X'→PG X' target fun v σ H Q=>own.length≤σ.length∧bindV X.K tg v H fun vs=>vs.length=own.length∧Q (vs.map some++σ.drop own.length) H
 tst:∀ X',Blk X (namesC X own caps) scope X'→∀ (pins:List (Addr×Obj)) (s:Shared) (σ:St) (H:Hp) (Q:Bool→Hp→Prop),Inv X' pins σ H s→tT cf X.K icond σ H Q→
  wpAny (model X.prog X.w) X.A (forIn ifs true fun c r=>if r=true then do let ok ← isTrue c X'.env (eval c X'.env);pure (ForInStep.yield ok) else pure (ForInStep.yield r)) (TP X' pins σ Q) (fun _ _=>False) s
 elt:∀ X',Blk X (namesC X own caps) scope X'→PE X' elt (tE cf X.K ielt)
theorem nodup_at {α:Type} {N:List α} (hN:N.Nodup) {i j:Nat} {x:α} (a:N[i]?=some x) (b:N[j]?=some x):i=j:=by
 obtain ⟨h1,e1⟩:=List.getElem?_eq_some_iff.mp a
 obtain ⟨h2,e2⟩:=List.getElem?_eq_some_iff.mp b
 exact (List.getElem_inj hN).mp (e1.trans e2.symm)
theorem SR.block {K:PySem.W.Frag} {G H:Hp} {σ:St} {ρ:Env} {caps:List Nat} {ps:List PV} {vs:List V} (S:SR K G H σ ρ) (hd:caps.Nodup) (r:RpA K G ps vs):
  SR K G H (vs.map some++caps.map fun j=>σ.getD j none) (ps.map Sl.val++caps.map fun j=>ρ.getD j .un):=by
 have hl:=r.length
 refine ⟨by simp [hl],S.sub,fun i sl o e1 e2=>?_,fun i j si sj a hij e1 e2 o1 o2 e3 e4=>?_⟩
 ·by_cases hi:i<ps.length
  ·rw [List.getElem?_append_left (by simpa using hi),List.getElem?_map] at e1
   rw [List.getElem?_append_left (by simp;lia),List.getElem?_map] at e2
   cases q:ps[i]? with
   | none=>rw [q] at e1;cases e1
   | some p=>
    rw [q] at e1
    cases e1
    obtain ⟨v,ev,rv⟩:=r.get q
    rw [ev] at e2
    cases e2
    exact ⟨v,rfl,rv⟩
  ·rw [List.getElem?_append_right (by simpa using hi),List.getElem?_map] at e1
   rw [List.getElem?_append_right (by simp;lia),List.getElem?_map] at e2
   rw [List.length_map] at e1 e2
   rw [← hl] at e2
   cases q:caps[i - ps.length]? with
   | none=>rw [q] at e1;cases e1
   | some j=>
    rw [q] at e1 e2
    simp only [Option.map_some,Option.some.injEq] at e1 e2
    rw [List.getD_eq_getElem?_getD] at e1 e2
    cases qr:ρ[j]? with
    | none=>rw [qr] at e1;cases e1;trivial
    | some sl'=>
     rw [qr] at e1
     obtain ⟨o',eo,so⟩:=S.at qr
     rw [eo] at e2
     cases e1;cases e2
     exact so
 ·have pick:∀ (m:Nat) (sl:Sl),(ps.map Sl.val++caps.map fun j=>ρ.getD j .un)[m]?=some sl→isOwn sl=true→ps.length≤m∧∃ c,caps[m - ps.length]?=some c∧ρ[c]?=some sl:=fun m sl e h=>by
   by_cases hm:m<ps.length
   ·rw [List.getElem?_append_left (by simpa using hm),List.getElem?_map] at e
    cases q:ps[m]? with
    | none=>rw [q] at e;cases e
    | some p=>rw [q] at e;cases e;cases h
   ·rw [List.getElem?_append_right (by simpa using hm),List.getElem?_map,List.length_map] at e
    cases q:caps[m - ps.length]? with
    | none=>rw [q] at e;cases e
    | some c=>
     rw [q] at e
     simp only [Option.map_some,Option.some.injEq] at e
     rw [List.getD_eq_getElem?_getD] at e
     cases qr:ρ[c]? with
     | none=>rw [qr] at e;cases e;cases h
     | some sl'=>rw [qr] at e;cases e;exact ⟨by lia,c,rfl,qr⟩
  obtain ⟨l1,c1,q1,r1⟩:=pick i si e1 o1
  obtain ⟨l2,c2,q2,r2⟩:=pick j sj e2 o2
  have hne:c1≠c2:=fun z=>by
   subst z
   have:=nodup_at hd q1 q2
   lia
  have rd:∀ (m c:Nat),ps.length≤m→caps[m - ps.length]?=some c→(vs.map some++caps.map fun j=>σ.getD j none)[m]?=some (some (.ref a))→σ[c]?=some (some (.ref a)):=fun m c lm qc e=>by
   rw [List.getElem?_append_right (by simp;lia),List.getElem?_map,List.length_map,← hl,qc] at e
   simp only [Option.map_some,Option.some.injEq] at e
   rw [List.getD_eq_getElem?_getD] at e
   cases q:σ[c]? with
   | none=>rw [q] at e;cases e
   | some o=>rw [q] at e;exact congrArg some e
  exact S.apart c1 c2 si sj a hne r1 r2 o1 o2 (rd i c1 l1 q1 e3) (rd j c2 l2 q2 e4)
section
variable {prog:Program} {w:World} {A:Around} {E:Value→Shared→Prop} {s:Shared}
theorem nextT_item {it t:Addr} {i:Nat} {vals:Array Value} {x:Value} {Q:Value→Shared→Prop} (hi:s.heap.IsTupleIter it t i) (ht:s.heap.IsTuple t vals) (hx:vals[i]?=some x) (k:∀ h',h'.IsTupleIter it t (i+1)→Heap.SameBut it s.heap h'→Q x {s with heap:=h'}):
  wpAny (model prog w) A (Builtin.SmallTypes.nextOf (.ref it)) Q E s:=by
 obtain ⟨oi,gi,ci,di⟩:=id hi
 obtain ⟨ot,gt,_,nt,dt⟩:=ht;unfold Builtin.SmallTypes.nextOf
 refine wpAny_bind (wpAny_callSpecial?_slot (name:=Str.ofString "__next__") hi.typeIs PySem.F.slot_tuple_iterator_next (wpAny_call_entry PySem.F.slot_tuple_iterator_next hi.typeIs PySem.F.entry_tuple_iterator_next ?_ (PySem.F.args_tuple_iterator_next_1 _)))
 refine (show wpAny _ _ (field (.ref it) 0 >>= _) _ _ s from wpAny_bind (wpAny_field gi di (x:=.ref t) rfl ?_))
 refine (show wpAny _ _ (if (Value.ref t==Value.none)=true then _ else _) _ _ s from ?_)
 rw [if_neg (show ¬ (Value.ref t==Value.none)=true from Bool.false_ne_true)]
 refine (show wpAny _ _ (field (.ref it) 1 >>= _) _ _ s from wpAny_bind (wpAny_field gi di (x:=.int i 0) rfl ?_))
 refine (show wpAny _ _ (seqItems? (.ref t) >>= _) _ _ s from wpAny_bind (wpAny_seqItems gt dt ?_))
 simp only [Int.toNat_natCast,hx]
 refine wpAny_bind (wpAny_setField gi di (by simp) (wpAny_pure ⟨x,rfl,wpAny_pure (k _ ⟨_,Heap.get?_update_self _ gi (Obj.isFreed_of_fields (Obj.data_mapFields di _)),(Obj.cls_mapFields ..).trans ci,?_⟩ (Heap.SameBut.update ..))⟩))
 rw [Obj.data_mapFields di];simp [rawInt]
theorem nextT_end {it t:Addr} {i:Nat} {vals:Array Value} {Q:Value→Shared→Prop} (hh:A.handled=none) (hi:s.heap.IsTupleIter it t i) (ht:s.heap.IsTuple t vals) (hx:vals[i]?=none)
  (k:∀ h' e,Heap.ExtBut it s.heap h'→(∃ o,h'.get? e=some o∧o.cls=.type "StopIteration")→E (.ref e) {s with heap:=h'}):wpAny (model prog w) A (Builtin.SmallTypes.nextOf (.ref it)) Q E s:=by
 obtain ⟨oi,gi,ci,di⟩:=id hi
 obtain ⟨ot,gt,_,nt,dt⟩:=ht;unfold Builtin.SmallTypes.nextOf
 refine wpAny_bind (wpAny_callSpecial?_slot (name:=Str.ofString "__next__") hi.typeIs PySem.F.slot_tuple_iterator_next (wpAny_call_entry PySem.F.slot_tuple_iterator_next hi.typeIs PySem.F.entry_tuple_iterator_next ?_ (PySem.F.args_tuple_iterator_next_1 _)))
 refine (show wpAny _ _ (field (.ref it) 0 >>= _) _ _ s from wpAny_bind (wpAny_field gi di (x:=.ref t) rfl ?_))
 refine (show wpAny _ _ (if (Value.ref t==Value.none)=true then _ else _) _ _ s from ?_)
 rw [if_neg (show ¬ (Value.ref t==Value.none)=true from Bool.false_ne_true)]
 refine (show wpAny _ _ (field (.ref it) 1 >>= _) _ _ s from wpAny_bind (wpAny_field gi di (x:=.int i 0) rfl ?_))
 refine (show wpAny _ _ (seqItems? (.ref t) >>= _) _ _ s from wpAny_bind (wpAny_seqItems gt dt ?_))
 simp only [Int.toNat_natCast,hx]
 refine wpAny_bind (wpAny_rule (wpAny_bind (wpAny_setField gi di (by simp) ?_)));show wpAny _ _ (newExc (.type "StopIteration") [] >>= _) _ _ _
 refine wpAny_bind ?_;simp only [newExc,newTuple]
 refine wpAny_bind (wpAny_newObj_type ?_ (by size_fits));refine wpAny_bind (m:=firstArgMember _ _) (wpAny_of_eq (a:=Value.none) (by first | rfl | (simp only [firstArgMember];rfl)) (wpAny_newObj_type ?_ (by size_fits)))
 simp only [raiseNew];refine wpAny_bind (wpAny_handled ?_)
 first | rw [show A.in1.handled=none from hh] | rw [hh]
 refine wpAny_bind (wpAny_pure (wpAny_throw (k _ _ (((Heap.SameBut.update ..).extBut.push _).push _) ⟨_,Heap.get?_push_size _ rfl,rfl⟩)))
theorem drawsT (hh:A.handled=none) (it t:Addr) (hne:t≠it) (vals:Array Value):Draws prog w A it [it,t] vals.size (fun i v=>vals[i]?=some v) (fun i h=>h.IsTupleIter it t i∧h.IsTuple t vals) where
 live:=fun _ _ st=>let ⟨o,ho,_⟩:=st.1;⟨o,ho⟩
 frame:=fun _ _ _ st hk=>⟨st.1.at fun o e=>hk it (by simp) o e,let ⟨o,e,r⟩:=st.2;⟨o,hk t (by simp) o e,r⟩⟩
 item:=fun i s Q E hi st hQ=>nextT_item st.1 st.2 (x:=vals[i]) (by simp [hi]) fun h' a b=>hQ _ h' s.toks (by simp [hi]) ⟨a,st.2.extBut b.extBut hne⟩ b
 done:=fun s Q E st hE=>nextT_end hh st.1 st.2 (by simp) hE
theorem enumT_end {e it t:Addr} {i:Nat} {j:Int} {vals:Array Value} {old:Value} {Q:Option Value→Shared→Prop} (hh:A.handled=none) (he:IsEnum s.heap e it j old) (hi:s.heap.IsTupleIter it t i) (ht:s.heap.IsTuple t vals) (hx:vals[i]?=none)
  (k:∀ h',Heap.ExtBut it s.heap h'→Q none {s with heap:=h'}):wpAny (model prog w) A (pyNext (.ref e)) Q E s:=by
 have hT:s.TypeIs (.ref e) "enumerate":=⟨_,he,rfl⟩;unfold pyNext
 refine wpAny_bind (wpAny_attempt (wpAny_callSpecial?_slot (name:=Str.ofString "__next__") hT PySem.F.slot_enumerate_next (wpAny_call_entry PySem.F.slot_enumerate_next hT PySem.F.entry_enumerate_next ?_ (PySem.F.args_enumerate_next_1 _))))
 refine (show wpAny _ _ (field (.ref e) 2 >>= _) _ _ _ from wpAny_bind (wpAny_field he rfl (x:=.ref it) rfl (wpAny_bind (nextT_end hh hi ht hx fun h' x eb ex=>?_))))
 obtain ⟨o,ho,hc⟩:=ex
 exact wpAny_bind (wpAny_isInstance (T:="StopIteration") (b:=true) ⟨o,ho,hc⟩ isSubtype_stop (wpAny_pure (k _ eb)))
set_option maxHeartbeats 1000000 in
theorem meetsT (l:Addr) (vals:Array Value) (n:Nat) (dct:Option Addr) (sl:Array (Option Value)):Meets (Builtin.«enumerate.__new__» ⟨[.type "enumerate",.ref l],[]⟩) (fun _ R s=>s.heap.get? l=some {cls:=.type "tuple",dict:=dct,data:=.seq vals n,slots:=sl}∧
  R (.ok (.ret (.ref (s.heap.push {cls:=.type "tuple_iterator",data:=.fields #[.ref l,.int 0 0]}).objs.size))) {s with heap:=(s.heap.push {cls:=.type "tuple_iterator",data:=.fields #[.ref l,.int 0 0]}).push {cls:=.type "enumerate",data:=.fields #[.none,.bool false,.ref s.heap.objs.size,rawInt 0,.none,.none]}}):=
 .of_wp fun prog w A R s h=>by
  obtain ⟨hp,g,d,tk,os⟩:=s;obtain ⟨hl,h⟩:=h;have hsub:=sub_enumerate
  have hT:Heap.IsTuple (Shared.heap ⟨hp,g,d,tk,os⟩) l vals:=⟨_,hl,rfl,n,rfl⟩
  wp_walk using AutoSeq1.wpAny_loadPart' hl
  refine wpAny_stack_any fun st=>wpAny_pure ?_;split
  ·rename_i c _ _ _ _ _;cases (c==Value.type "enumerate")
   ·wp_walk using AutoSeq1.wpAny_loadPart' hl,wpAny_pyIter_tuple hT
    exact ⟨_,rfl,h⟩
   ·wp_walk using AutoSeq1.wpAny_loadPart' hl,wpAny_pyIter_tuple hT
    exact ⟨_,rfl,h⟩
  ·wp_walk using AutoSeq1.wpAny_loadPart' hl,wpAny_pyIter_tuple hT
   exact ⟨_,rfl,h⟩
theorem call_enumT {l:Addr} {vals:Array Value} {Q:Value→Shared→Prop} (hL:s.heap.IsTuple l vals)
  (k:∀ h',IsEnum h' (s.heap.objs.size+1) s.heap.objs.size 0 .none→h'.IsTupleIter s.heap.objs.size l 0→(∀ b o,s.heap.get? b=some o→h'.get? b=some o)→Q (.ref (s.heap.objs.size+1)) {s with heap:=h'}):
  wpAny (model prog w) A (call (.type "enumerate") [.ref l]) Q E s:=by
 obtain ⟨⟨c,dct,da,sl⟩,hl,hc,n,hd⟩:=hL
 cases (show c=.type "tuple" from hc);cases (show da=.seq vals n from hd)
 refine callType_new PySem.F.called_enumerate (by decide) (PySem.F.typeCall_enumerate_1 _) (PySem.F.newCall_enumerate_1 _) (fun obj=>PySem.F.args_object_init_2 obj _) PySem.F.entry_enumerate_new (meetsT l vals n dct sl) ⟨hl,?_⟩
 have hz:(s.heap.push {cls:=.type "tuple_iterator",data:=.fields #[.ref l,.int 0 0]}).objs.size=s.heap.objs.size+1:=Heap.size_push ..
 refine (show _∧_ from ?_);rw [hz]
 have he:IsEnum ((s.heap.push {cls:=.type "tuple_iterator",data:=.fields #[.ref l,.int 0 0]}).push {cls:=.type "enumerate",data:=.fields #[.none,.bool false,.ref s.heap.objs.size,rawInt 0,.none,.none]}) (s.heap.objs.size+1) s.heap.objs.size 0 .none:=by
  have q:=Heap.get?_push_size (s.heap.push {cls:=.type "tuple_iterator",data:=.fields #[.ref l,.int 0 0]}) (o:={cls:=.type "enumerate",data:=.fields #[.none,.bool false,.ref s.heap.objs.size,rawInt 0,.none,.none]}) rfl
  rw [hz] at q;exact q
 exact ⟨⟨_,he,rfl⟩,k _ he ⟨_,Heap.get?_push_of_some _ (Heap.get?_push_size _ rfl),rfl,rfl⟩ fun b o x=>Heap.get?_push_of_some _ (Heap.get?_push_of_some _ x)⟩
end
section
variable {X:Cx} {pins:List (Addr×Obj)} {σ:St} {H:Hp} {s:Shared} {h':Heap}
theorem _root_.L2.Inv.turned2 {t':Nat} {e it:Addr} (I:Inv X pins σ H s) (k:∀ b o,b≠e→b≠it→s.heap.get? b=some o→h'.get? b=some o) (fe:FpOk X pins H e) (fi:FpOk X pins H it):Inv X pins σ H {s with heap:=h',toks:=t'}:=by
 obtain ⟨e0,e1,e2,e3,e4,e5⟩:=fe
 obtain ⟨i0,i1,i2,i3,i4,i5⟩:=fi
 have nn:∀ {b:Addr},b∉[e,it]→b≠e∧b≠it:=fun {b} h=>⟨fun z=>h (by simp [z]),fun z=>h (by simp [z])⟩
 have ne:∀ b u,H b=some u→b≠e∧b≠it:=fun b u q=>⟨fun z=>(by rw [z,e0] at q;cases q),fun z=>(by rw [z,i0] at q;cases q)⟩
 refine I.step (g':=s.gens) (d':=s.drawn) (ch:=[e,it]) (fun b hb=>?_) (fun b o _ _ hc q _=>k b o (nn hc).1 (nn hc).2 q) (fun b o _ _ hc q _=>⟨o.slots,k b o (nn hc).1 (nn hc).2 q⟩) (fun _ _ _ _ n=>n)
  (fun b o hc q=>⟨o,k b o (nn hc).1 (nn hc).2 q⟩) (fun _ _ q=>q) (fun _ _ _ q=>q) (fun b ps q=>⟨#[],by rw [q];simp⟩) (fun m hm=>?_) (fun b u q=>?_) I.bare
 ·have z:b=e∨b=it:=by simpa using hb
  rcases z with rfl | rfl
  ·exact ⟨e3,e1,e4,e5⟩
  ·exact ⟨i3,i1,i4,i5⟩
 ·obtain ⟨o,es,ep,ho,r⟩:=hm
  exact ⟨o,es,ep,k _ o (Ne.symm e1) (Ne.symm i1) ho,r⟩
 ·refine (I.hok b u q).stay (fun c v hc z=>?_) (fun _ q=>q) fun _ _ q=>q
  rcases hc with y | y
  ·rw [y] at z ⊢;exact k b v (ne b u q).1 (ne b u q).2 z
  ·exact k c v (ne c _ y).1 (ne c _ y).2 z
end
noncomputable def ItEn (J:It):It:=⟨J.go,fun i H x H'=>∃ y b,J.yld i H y H∧H b=none∧x=.ref b∧H'=L2.upd H b (.tup [.int (i:Nat),y]),J.stop⟩
theorem turn_enumT {P:Program} {w:World} {K:PySem.W.Frag} {elts:List Expr} {x1:Nat} {pos:Pos} (a e it:Addr) (hei:e≠it):Turn P w K (.Tuple elts x1 pos) (ItEn (Itt K a)) [e,it] e (fun i h=>(∃ old,IsEnum h e it (i:Nat) old)∧h.IsTupleIter it a i) where
 mem:=by simp
 obj:=fun i h st b hb=>by
  obtain ⟨⟨old,he⟩,o,g,c,d⟩:=st
  have z:b=e∨b=it:=by simpa using hb
  rcases z with rfl | rfl
  ·exact ⟨_,he,fun v z=>by cases (show Data.fields _=Data.cell v from z)⟩
  ·exact ⟨o,g,fun v z=>by rw [d] at z;cases z⟩
 keep:=fun i h h' st k=>⟨let ⟨old,he⟩:=st.1;⟨old,k e (by simp) _ he⟩,st.2.at fun o q=>k it (by simp) o q⟩
 item:=by
  intro X hP hw hK hc i pins s σ H E I hf st hg
  subst hP hw hK
  obtain ⟨⟨old,he⟩,hit⟩:=st
  obtain ⟨xs,y,hq,hy⟩:=hg
  obtain ⟨its,rv,p,hz⟩:=I.tuple hq
  obtain ⟨u,hu,ru⟩:=rv.get hy
  have fe:=hf e (by simp)
  have fi:=hf it (by simp)
  obtain ⟨o1,g1,c1,d1⟩:=id hit
  have hai:a≠it:=fun z=>by
   obtain ⟨o2,g2,c2,_⟩:=id p
   rw [z,g1] at g2;cases g2
   rw [c1] at c2;injection c2 with c3;exact absurd c3 (by decide)
  have hae:a≠e:=fun z=>by
   obtain ⟨o2,g2,c2,_⟩:=id p
   rw [z,he] at g2;cases g2
   injection (show Value.type "enumerate"=Value.type "tuple" from c2) with c3;exact absurd c3 (by decide)
  have lt:i<its.toArray.size:=by simpa using (List.getElem?_eq_some_iff.mp hu).1
  refine wpAny_pyNext_enum_itemD (drawsT (A:=X.A.in1) (show X.A.in1.handled=none from I.ok.hd hc) it a hai its.toArray) he ⟨hit,p⟩ lt hei (by simp [hei,Ne.symm hae]) fun x h1 tk hx ho st1 ht hsz hk=>⟨_,rfl,wpAny_letOwnedTupleGo_enum ho fun h2 he2 sb=>?_⟩
  have ex:u=x:=by
   have:its[i]?=some x:=by simpa using hx
   rw [hu] at this;exact Option.some.inj this
  subst ex
  have fr:H s.heap.objs.size=none:=I.hok.fresh (Nat.le_refl _)
  have le:e<s.heap.objs.size:=Heap.lt_size he
  have li:it<s.heap.objs.size:=Heap.lt_size g1
  have I1:Inv X pins σ (L2.upd H s.heap.objs.size (.tup [.int (i:Nat),y])) {s with heap:=s.heap.push {cls:=.type "tuple",data:=.seq #[.int (i:Nat) tk,u]},toks:=tk+1}:=
   I.laid (fun b o q=>Heap.get?_push_of_some _ q) (Nat.le_refl _) ⟨by rw [line_eq];simp,[.int (i:Nat) tk,u],.cons ⟨tk,rfl⟩ (.cons ru .nil),⟨_,Heap.get?_push_size _ rfl,rfl,_,rfl⟩⟩
  have up:∀ {b:Addr},b<s.heap.objs.size→FpOk X pins H b→FpOk X pins (L2.upd H s.heap.objs.size (.tup [.int (i:Nat),y])) b:=fun {b} hb f=>⟨by rw [upd_ne (Nat.ne_of_lt hb)];exact f.1,f.2⟩
  have I2:Inv X pins σ (L2.upd H s.heap.objs.size (.tup [.int (i:Nat),y])) {s with heap:=h2,toks:=tk+1}:=I1.turned2 (t':=tk+1) (fun b o n1 n2 q=>by
   refine (sb.2 b n1).trans ?_
   rcases Heap.get?_push_cases q with ⟨rfl,rfl⟩ | q
   ·exact ht
   ·exact hk b o n1 n2 q) (up le fe) (up li fi)
  refine ⟨.ref s.heap.objs.size,_,I2,rfl,⟨y,s.heap.objs.size,⟨rfl,fun ys hys=>by rw [I.tuple_inj hys hq];exact hy⟩,fr,rfl,rfl⟩,⟨⟨u,by simpa using he2⟩,st1.1.at fun o q=>(sb.2 it (Ne.symm hei)).trans q⟩,fun b hb=>?_⟩
  have z:b=e∨b=it:=by simpa using hb
  rcases z with rfl | rfl
  ·exact (up le fe).1
  ·exact (up li fi).1
 done:=by
  intro X hP hw hK hc i pins s σ H E I hf st hg
  subst hP hw hK
  obtain ⟨⟨old,he⟩,hit⟩:=st
  obtain ⟨xs,hq,hl⟩:=hg
  obtain ⟨its,rv,p,hz⟩:=I.tuple hq
  have hlen:=rv.length
  have fi:=hf it (by simp)
  exact enumT_end (I.ok.hd hc) he hit p (by simp;lia) fun h' eb=>⟨rfl,I.turned (t':=s.toks) (fun b o hb q=>eb b o hb q) fi.1 fi.2.1 fi.2.2.2.1 fi.2.2.2.2.1 fi.2.2.2.2.2⟩
 self:=fun _ _ _ _ _ st h=>let ⟨old,he⟩:=st.1;wpAny_pyIter_enum he h
section
variable {X:Cx} {cf:CF}
noncomputable def iEnT (K:PySem.W.Frag) (ta:TA):TI:=fun σ H R=>ta σ H fun vs H1=>∃ a,vs=[.ref a]∧(∃ xs,SqT K H1 a xs∧(xs.length≤sizeLine→R (ItEn (Itt K a)) H1))
theorem pi_enumT {elts:List Expr} {x1:Nat} {tp:Pos} {a:Expr} {ta:TA} {p pos:Pos} (hg:Gl X "enumerate") (hm:X.mg "enumerate"=none) (ha:PA X [a] ta) (hs:starEach [a] X.env=[(false,eval a X.env)]):PI X (.Tuple elts x1 tp) (.Call (.Name "enumerate" p) [a] [] pos) (iEnT X.K ta):=by
 intro pins s σ H R I h
 refine Call_ (ld_blt I hg hm PyProof.Rows.boot_enumerate (PyProof.Rows.callWith_type1 (thn (ha pos pins s σ H _ I h) fun us s1 ⟨vs,H1,I1,r1,q1⟩=>?_) hs rfl))
 obtain ⟨b,ev,xs,hq,q⟩:=q1
 subst ev
 cases r1 with
 | cons r rr=>
  cases rr
  cases (show _=Value.ref b from r)
  obtain ⟨its,rv,pt,hz⟩:=I1.tuple hq
  refine call_enumT (show s1.heap.IsTuple b its.toArray from pt) fun h' he hi k=>?_
  refine wpAny_pyIter_enum (s:={s1 with heap:=h'}) he ?_
  refine ⟨s1.heap.objs.size+1,[s1.heap.objs.size+1,s1.heap.objs.size],_,ItEn (Itt X.K b),H1,rfl,I1.kept (t':=s1.toks) k,turn_enumT b _ _ (Nat.succ_ne_self _),⟨⟨.none,he⟩,hi⟩,fun c hc=>?_,q hz⟩
  have z:c=s1.heap.objs.size+1∨c=s1.heap.objs.size:=by simpa using hc
  rcases z with rfl | rfl
  ·exact I1.fpOk (Nat.le_succ _) (I1.hok.fresh (Nat.le_succ _))
  ·exact I1.fpOk (Nat.le_refl _) (I1.hok.fresh (Nat.le_refl _))
theorem enumF_len:∀ (xs:List PV) (k:Nat),(enumF xs k).length=xs.length
 | [],_=>rfl
 | x::xs,k=>by rw [enumF,List.length_cons,List.length_cons,enumF_len xs]
theorem enumF_get:∀ (xs:List PV) (k i:Nat) (p:PV),xs[i]?=some p→(enumF xs k)[i]?=some (.tuple [.int ((k+i:Nat):Int),p])
 | [],_,_,_,h=>by simp at h
 | x::xs,k,0,p,h=>by
  have e:x=p:=by simpa using h
  subst e;rfl
 | x::xs,k,i+1,p,h=>by
  rw [enumF,List.getElem?_cons_succ,enumF_get xs (k+1) i p (by simpa using h)]
  rw [show k+1+i=k+(i+1) from by lia]
theorem walk_enT {K:PySem.W.Frag} {G:Hp} {a:Addr} {ps:List PV} {vs:List V} (q:SqT K G a vs) (r:RpL K G ps vs) (hz:vs.length≤sizeLine):Walk K (ItEn (Itt K a)) G (enumF ps 0) where
 len:=by rw [enumF_len,r.length,← line_eq];exact hz
 go:=fun i H s hi=>⟨vs,vs[i]'(by rw [← r.length,← enumF_len ps 0];exact hi),s.sqT q,List.getElem?_eq_getElem _⟩
 yld:=fun i H x H' s hi y=>by
  obtain ⟨v,b,⟨_,yy⟩,hb,rfl,rfl⟩:=y
  obtain ⟨p,e1,e0,e2⟩:=r.getV (yy vs (s.sqT q))
  refine ⟨_,enumF_get ps 0 i p e1,.inr ⟨b,_,_,rfl,hb,rfl,rfl,?_⟩⟩
  rw [Nat.zero_add]
  exact .cons rfl rfl (.one e0 e2)
 stop:=fun i H s hi=>⟨vs,s.sqT q,by rw [← r.length,← enumF_len ps 0];exact hi⟩
theorem it_enumT {elts:List Expr} {x1:Nat} {tp:Pos} {ia:E} {a:Expr} {p pos:Pos} (ha:PE X a (tE cf X.K ia)) (hk:isPeek ia=false) (hs:plainE a=true) (hg:Gl X "enumerate") (hm:X.mg "enumerate"=none):PI X (.Tuple elts x1 tp) (.Call (.Name "enumerate" p) [a] [] pos) (tI cf X.K (.op1 .enum ia)):=
 (pi_enumT hg hm (pa_cons ha pa_nil (star_of hs _ _)) (star_of hs _ _)).weak fun σ H R ⟨G,ρ,q,xs,S,e1,e2,k⟩=>by
  obtain ⟨x,ex,er⟩:=bnd_eq.mp (show bnd (evE cf ia ρ) (opF1 .enum)=some q from e1)
  refine ⟨G,ρ,x,S,ex,fun v G1 H1 x1 r1=>?_⟩
  have r':=r1.rp hk
  cases x with
  | tuple ps=>
   cases (show some (PyData.list (enumF ps 0))=some q from er)
   cases (show some (enumF ps 0)=some xs from e2)
   obtain ⟨b,vs,rfl,qq,rr⟩:=(show ∃ a vs,v=V.ref a∧SqT X.K G1 a vs∧RpL X.K G1 ps vs from r')
   exact ⟨b,rfl,vs,x1.gh.sqT qq,fun hz=>k _ G1 H1 x1 (walk_enT qq rr hz)⟩
  | _=>exact nomatch (show none=some _ from er)
end
theorem compF_cons {g:PV→Option (Option PV)} {x:PV} {xs rs:List PV} (h:compF g (x::xs)=some rs):∃ o t,g x=some o∧compF g xs=some t∧rs=addO o t:=by
 unfold compF at h
 obtain ⟨o,e1,e2⟩:=bnd_eq.mp h
 obtain ⟨t,e3,e4⟩:=bnd_eq.mp e2
 cases e4
 exact ⟨o,t,e1,e3,rfl⟩
theorem Ext.mut {G0 H0 G H:Hp} (x:Ext G0 H0 G H) {a:Addr} (h0:H0 a=none) (hg:G a=none) (o:HO):Ext G0 H0 G (L2.upd H a o):=by
 refine ⟨fun b u q=>?_,x.gg,fun b u q=>?_,x.old⟩
 ·rw [upd_ne (ne_of_none q h0)];exact x.hh b u q
 ·rw [upd_ne (ne_of_none q hg)];exact x.gh b u q
theorem foldedSet_of {iter:Expr} {env:PySem.Env} (h:(match iter with | .Set ..=>false | _=>true)=true):∀ x,foldedSetIterable iter env x=pure x:=by
 intro x
 cases iter <;> first | rfl | exact absurd h Bool.false_ne_true
noncomputable def turnC (cf:CF) (tg:Option Nat) (capρ:Env) (icond ielt:E):PV→Option (Option PV):=fun x=>
 bnd (bindT tg x) fun bs=>bnd (evE cf icond (bs++capρ)) fun c=>bnd (truthF c) fun t=>DD.tst t (bnd (evE cf ielt (bs++capρ)) eltF) (some none)
theorem turnC_inv {cf:CF} {tg:Option Nat} {capρ:Env} {icond ielt:E} {x:PV} {o:Option PV} (h:turnC cf tg capρ icond ielt x=some o):
  ∃ ps c t,bindT tg x=some (ps.map Sl.val)∧((tg=none∧ps=[x])∨(∃ n,tg=some n∧x=.tuple ps∧ps.length=n))∧evE cf icond (ps.map Sl.val++capρ)=some c∧truthF c=some t∧
   (t=true→∃ y,evE cf ielt (ps.map Sl.val++capρ)=some y∧o=some y∧isDict y=false)∧(t=false→o=none):=by
 unfold turnC at h
 obtain ⟨bs,e1,h⟩:=bnd_eq.mp h
 obtain ⟨c,e2,h⟩:=bnd_eq.mp h
 obtain ⟨t,e3,h⟩:=bnd_eq.mp h
 have hb:∃ ps,bs=ps.map Sl.val∧((tg=none∧ps=[x])∨(∃ n,tg=some n∧x=.tuple ps∧ps.length=n)):=by
  cases tg with
  | none=>
   cases (show some [Sl.val x]=some bs from e1)
   exact ⟨[x],rfl,.inl ⟨rfl,rfl⟩⟩
  | some n=>
   cases x with
   | tuple xs=>
    have e1':(if xs.length=n then some (xs.map Sl.val) else none)=some bs:=e1
    by_cases hl:xs.length=n
    ·rw [if_pos hl] at e1'
     cases e1'
     exact ⟨xs,rfl,.inr ⟨n,rfl,rfl,hl⟩⟩
    ·rw [if_neg hl] at e1';cases e1'
   | _=>cases (show none=some bs from e1)
 obtain ⟨ps,rfl,hp⟩:=hb
 refine ⟨ps,c,t,e1,hp,e2,e3,fun ht=>?_,fun ht=>?_⟩
 ·subst ht
  obtain ⟨y,e4,e5⟩:=bnd_eq.mp (show bnd (evE cf ielt (ps.map Sl.val++capρ)) eltF=some o from h)
  obtain ⟨hd,e6⟩:=tst_none (show DD.tst (isDict y) none (some (some y))=some o from e5)
  cases e6
  exact ⟨y,e4,rfl,hd⟩
 ·subst ht
  cases (show some none=some o from h)
  rfl
theorem SR.mut {K:PySem.W.Frag} {G H:Hp} {σ:St} {ρ:Env} (S:SR K G H σ ρ) {a:Addr} (ha:∀ (i:Nat) (ps:List PV),ρ[i]?=some (Sl.own ps)→σ[i]?≠some (some (V.ref a))) (hg:G a=none) (o:HO):SR K G (L2.upd H a o) σ ρ:=by
 refine ⟨S.len,fun b u q=>by rw [upd_ne (ne_of_none q hg)];exact S.sub b u q,fun i sl v e1 e2=>?_,S.apart⟩
 have h:=S.get i sl v e1 e2
 cases sl with
 | un=>exact h
 | val p=>exact h
 | own ps=>
  obtain ⟨b,vs,rfl,h1,h2,r⟩:=h
  refine ⟨b,vs,rfl,?_,h2,r⟩
  rw [upd_ne]
  ·exact h1
  ·rintro rfl
   exact ha i ps e1 e2
section
variable {X:Cx} {cf:CF}
theorem comp_block {own:List Str} {caps:List Nat} {scope:Scope} {tg:Option Nat} {target iter elt:Expr} {ifs:List Expr} {icond ielt:E} {pos:Pos} {cl:List (Str×Addr)} {C D it:Addr} {s3 s4:Shared} {fp:List Addr} {tn:Nat→Heap→Prop} {J:It}
  {G2 H2:Hp} {σ:St} {ρ:Env} {xs rs:List PV} {R:Result→Shared→Prop} (hcd:caps.Nodup) (hown:own.length=tg.getD 1) (hpk:isPeek ielt=false) (T:Turn X.prog X.w X.K target J fp it tn) (wk:Walk X.K J G2 xs)
  (B:BlkOk X cf own caps scope tg target ifs elt icond ielt) (S:SR X.K G2 H2 σ ρ) (hDn:H2 D=none) (fpD:∀ b∈fp,b≠D) (f2:∀ b∈fp,H2 b=none)
  (fpk:∀ (H:Hp) (b:Addr),b∈fp→H b=none→FpOk (cxC X (namesC X own caps) scope cl C s3 (upd H2 D (.lst [])) fp) [] H b)
  (I4:Inv (cxC X (namesC X own caps) scope cl C s3 (upd H2 D (.lst [])) fp) [] (slotsC own caps σ) (upd H2 D (.lst [])) s4) (st4:tn 0 s4.heap)
  (e3:compF (turnC cf tg (caps.map fun j=>ρ.getD j .un) icond ielt) xs=some rs)
  (fin:∀ s' σ' H' G' ys,Inv (cxC X (namesC X own caps) scope cl C s3 (upd H2 D (.lst [])) fp) [] σ' H' s'→Ext G2 H2 G' H'→H' D=some (.lst ys)→G' D=none→RpL X.K G' rs ys→R (.ok .next) s'):
  codeAny (model X.prog X.w) X.A (.compStart (.ListComp elt [⟨target,iter,ifs,0⟩] scope pos) 0 (.ref it) (.ref D) (compEnvC scope cl C X.env)) R s4:=by
 generalize hX:cxC X (namesC X own caps) scope cl C s3 (upd H2 D (.lst [])) fp=X' at I4 fin fpk
 have hprog:X'.prog=X.prog:=by rw [← hX];rfl
 have hw:X'.w=X.w:=by rw [← hX];rfl
 have hK:X'.K=X.K:=by rw [← hX];rfl
 have hA:X'.A=X.A:=by rw [← hX];rfl
 have henv:X'.env=compEnvC scope cl C X.env:=by rw [← hX];rfl
 have hcalm:X'.calm=true:=by rw [← hX];rfl
 have hxe:X'.xe=fun _ _=>False:=by rw [← hX];rfl
 have blk:Blk X (namesC X own caps) scope X':=⟨hprog,hw,hK,by rw [← hX];rfl,by rw [← hX];rfl,hA,by rw [← hX];rfl,by rw [← hX];rfl,hcalm,hxe,by rw [← hX];rfl⟩
 have hDO:∀ (i:Nat) (ps:List PV),ρ[i]?=some (Sl.own ps)→σ[i]?≠some (some (V.ref D)):=fun i ps e z=>by
  obtain ⟨o,eo,a,vs,rfl,h1,_⟩:=S.at e
  rw [eo] at z
  cases z
  rw [hDn] at h1;cases h1
 have loop:codeAny (model X.prog X.w) X.A (.compLoop (.ListComp elt [⟨target,iter,ifs,0⟩] scope pos) 0 (.ref it) (.ref D) (compEnvC scope cl C X.env)) R s4:=by
  refine compLoop_gen (fun n s'=>∃ i σ' H' G' ys rs' tl,n=xs.length - i∧i≤xs.length∧Inv X' [] σ' H' s'∧tn i s'.heap∧(∀ b∈fp,H' b=none)∧Ext G2 H2 G' H'∧H' D=some (.lst ys)∧G' D=none∧RpL X.K G' rs' ys∧ys.length≤i∧
   compF (turnC cf tg (caps.map fun j=>ρ.getD j .un) icond ielt) (xs.drop i)=some tl∧rs=rs'++tl∧own.length≤σ'.length∧σ'.drop own.length=caps.map fun j=>σ.getD j none) ?_ xs.length ?_
  ·rintro n s' ⟨i,σ',H',G',ys,rs',tl,rfl,hi,I',st',fr',x',hD',gD',r',hly,et,er,hol,hσ⟩
   by_cases hlt:i<xs.length
   ·have hx:xs.drop i=xs[i]::xs.drop (i+1):=List.drop_eq_getElem_cons hlt
    rw [hx] at et
    obtain ⟨o,t',eo,et',rfl⟩:=compF_cons et
    have step:=T.item X' hprog hw hK hcalm i [] s' σ' H' (fun _ _=>False) I' (fun b hb=>fpk H' b hb (fr' b hb)) st' (wk.go i H' (x'.gg.trans x'.gh) hlt)
    rw [hA] at step
    refine thn step fun r s5 ⟨u,hr,h5⟩=>?_
    subst hr
    refine thn h5 fun _ s6 ⟨x,H6,I6,rx,y6,st6,fr6⟩=>?_
    obtain ⟨G6,px,x6,epx,rpx⟩:=wk.step x'.gg x'.gh hlt y6
    replace x':=x'.trans x6
    replace gD':=(x6.old _ _ hD').trans gD'
    replace hD':=x6.hh _ _ hD'
    replace r':=r'.mono x6.gg
    have epx':xs[i]=px:=by rw [List.getElem?_eq_getElem hlt] at epx;exact Option.some.inj epx
    subst epx'
    obtain ⟨ps,c,t,eb,hp,ec,ett,hyes,hno⟩:=turnC_inv eo
    have I6':=I6.pinned (fun b hb=>fpk H6 b hb (fr6 b hb)) (T.obj _ _ st6)
    
    have keepT:∀ {σa:St} {Ha:Hp} {sa:Shared},Inv X' ([]++pinsAt fp s6.heap) σa Ha sa→tn (i+1) sa.heap∧∀ b∈fp,Ha b=none:=fun {σa Ha sa} Ia=>by
     refine ⟨T.keep _ _ _ st6 fun b hb o e=>(Ia.pin (b,o) (List.mem_append_right _ (List.mem_append_right _ (mem_pinsAt hb e)))).1,fun b hb=>?_⟩
     obtain ⟨o,e,d⟩:=T.obj _ _ st6 b hb
     exact (Ia.pin (b,o) (List.mem_append_right _ (List.mem_append_right _ (mem_pinsAt hb e)))).2.1
    have hbind:∃ vs,RpA X.K G6 ps vs∧vs.length=own.length∧∀ P:List V→Prop,P vs→bindV X.K tg x H6 P:=by
     rcases hp with ⟨rfl,rfl⟩ | ⟨m,rfl,hpx,hm⟩
     ·exact ⟨[x],.cons rpx .nil,by rw [hown];rfl,fun P h=>h⟩
     ·rw [hpx] at rpx
      obtain ⟨a,vs,rfl,qa,ra⟩:=(show ∃ a vs,x=V.ref a∧SqT X.K G6 a vs∧RpL X.K G6 ps vs from rpx)
      refine ⟨vs,ra.args,by rw [hown,← ra.length];exact hm,fun P h=>⟨a,vs,rfl,x6.gh.sqT qa,by rw [← ra.length];exact hm,h⟩⟩
    obtain ⟨vs,rvs,lvs,hb⟩:=hbind
    have asg:=B.tgt X' blk _ s6 σ' H6 x u (fun σ7 H7=>σ7=vs.map some++caps.map (fun j=>σ.getD j none)∧H7=H6) I6' rx ⟨hol,hb _ ⟨lvs,by rw [hσ],rfl⟩⟩
    rw [hprog,hw,hA,henv,hxe] at asg
    refine thn asg fun _ s7 ⟨σ7,H7,I7,hσ7,hH7⟩=>?_
    subst hσ7 hH7
    have Sb:SR X.K G6 H7 (vs.map some++caps.map fun j=>σ.getD j none) (ps.map Sl.val++caps.map fun j=>ρ.getD j .un):=(S.ext x').block hcd rvs
    have tst:=B.tst X' blk _ s7 _ H7 (fun b H8=>b=t∧∃ G8,Ext G6 H7 G8 H8) I7 ⟨G6,_,c,t,Sb,ec,ett,fun G8 H8 x8=>⟨rfl,G8,x8⟩⟩
    rw [henv] at tst
    refine thn tst fun b s8 ⟨H8,I8,hbt,G8,x8⟩=>?_
    subst hbt
    have hD8:H8 D=some (.lst ys):=x8.hh _ _ hD'
    have gD8:G8 D=none:=(x8.old _ _ hD').trans gD'
    have hdrop:(vs.map some++caps.map fun j=>σ.getD j none).drop own.length=caps.map fun j=>σ.getD j none:=by
     have:(vs.map some:St).length=own.length:=by rw [List.length_map];exact lvs
     rw [← this,List.drop_left]
    have hlen7:own.length≤(vs.map some++caps.map fun j=>σ.getD j none:St).length:=by
     rw [List.length_append,List.length_map,lvs];exact Nat.le_add_right _ _
    cases b with
    | false=>
     rw [if_neg Bool.false_ne_true]
     obtain ⟨k1,k2⟩:=keepT I8
     refine ⟨xs.length - (i+1),by lia,i+1,_,H8,G8,ys,rs',t',rfl,hlt,I8.unpinned,k1,k2,x'.trans x8,hD8,gD8,r'.mono x8.gg,by lia,et',?_,hlen7,hdrop⟩
     rw [er,hno rfl];rfl
    | true=>
     rw [if_pos rfl]
     obtain ⟨y,ey,hoy,hyd⟩:=hyes rfl
     have el:=B.elt X' blk _ s8 _ H8 (fun v H9=>∃ G9,Ext G8 H8 G9 H9∧Rp X.K G9 y v) I8 ⟨G8,_,y,Sb.ext x8,ey,fun v G9 H9 x9 r9=>⟨G9,x9,r9.rp hpk⟩⟩
     rw [hprog,hw,hA,henv,hxe] at el
     refine thn el fun w9 s9 ⟨v,H9,I9,rv,G9,x9,ry⟩=>?_
     have hD9:H9 D=some (.lst ys):=x9.hh _ _ hD8
     have gD9:G9 D=none:=(x9.old _ _ hD8).trans gD8
     have ap:=mt_append (X:=X') _ s9 _ H9 (.ref D) [v] (.ref D) [w9] (fun _ H10=>H10=upd H9 D (.lst (ys++[v]))) I9 rfl (.cons rv .nil) ⟨D,ys,v,rfl,rfl,hD9,by have:=wk.len;rw [line_eq];lia,rfl⟩
     rw [hprog,hw,hA,hxe] at ap
     refine thn ap fun _ s10 ⟨_,H10,I10,_,h10⟩=>?_
     subst h10
     obtain ⟨k1,k2⟩:=keepT I10
     refine ⟨xs.length - (i+1),by lia,i+1,_,_,G9,ys++[v],rs'++[y],t',rfl,hlt,I10.unpinned,k1,k2,(x'.trans (x8.trans x9)).mut hDn gD9 _,upd_same,gD9,((r'.mono x8.gg).mono x9.gg).append (.one hyd ry),by simp;lia,et',?_,hlen7,hdrop⟩
     rw [er,hoy,List.append_assoc];rfl
   ·have hie:i=xs.length:=by lia
    subst hie
    have done:=T.done X' hprog hw hK hcalm xs.length [] s' σ' H' (fun _ _=>False) I' (fun b hb=>fpk H' b hb (fr' b hb)) st' (wk.stop _ H' (x'.gg.trans x'.gh) (Nat.le_refl _))
    rw [hA] at done
    refine thn done fun r s5 ⟨hr,I5⟩=>?_
    subst hr
    rw [List.drop_length] at et
    cases (show some []=some tl from et)
    rw [List.append_nil] at er
    subst er
    exact fin s5 σ' H' G' ys I5 x' hD' gD' r'
  ·refine ⟨0,_,_,G2,[],[],rs,by simp,Nat.zero_le _,I4,st4,fun b hb=>?_,?_,upd_same,S.sub.fresh hDn,.nil,Nat.le_refl _,by simpa using e3,rfl,?_,?_⟩
   ·rw [upd_ne (fpD b hb)];exact f2 b hb
   ·exact (Ext.refl S.sub).mut hDn (S.sub.fresh hDn) _
   ·unfold slotsC;simp
   ·unfold slotsC
    exact List.drop_left' List.length_replicate
 refine codeAny_compStart_list loop (T.self X.A 0 s4 _ _ st4 loop)
theorem Ext.frz {G0 H0 G H:Hp} (x:Ext G0 H0 G H) {a:Addr} {o:HO} (h0:H0 a=none) (hg:G a=none) (hh:H a=some o):Ext G0 H0 (L2.upd G a o) H:=by
 refine ⟨x.hh,fun b u q=>?_,fun b u q=>?_,fun b u q=>?_⟩
 ·have:=x.gg b u q
  rw [upd_ne (ne_of_none this hg)];exact this
 ·by_cases e:b=a
  ·subst e;rw [upd_same] at q;cases q;exact hh
  ·rw [upd_ne e] at q;exact x.gh b u q
 ·rw [upd_ne (ne_of_none q h0)];exact x.old b u q
theorem inv_back {pins:List (Addr×Obj)} {σ σ':St} {H3 H':Hp} {s3 s':Shared} {N':List Str} {scope:Scope} {cl:List (Str×Addr)} {fp:List Addr} {h'':Heap} (I3:Inv X pins σ H3 s3)
  (I':Inv (cxC X N' scope cl s3.heap.objs.size s3 H3 fp) [] σ' H' s') (hs:Heap.SameBut s3.heap.objs.size s'.heap h'') (hfp:∀ b∈fp,FpOk X pins H3 b):Inv X pins σ H' {s' with heap:=h''}:=by
 have ne:∀ b o,s3.heap.get? b=some o→b≠s3.heap.objs.size:=fun b o e=>Nat.ne_of_lt (Heap.lt_size e)
 have B:Un (frs X.stack) fp H3 H' s3.heap s'.heap:=I'.base
 refine I3.call' (s':={s' with heap:=h''}) (ch:=fp) I'.os ⟨fun b o e n hb hx=>?_,fun b o e n hb hx=>?_,B.free,fun b o e hx=>?_,B.tups,B.frzs,B.tbls⟩ (fun b ob e=>?_) I'.bare (fun b hb=>?_)
 ·exact (hs.2 b (ne b o e)).trans (B.keep b o e n hb hx)
 ·obtain ⟨sl,e1⟩:=B.slot b o e n hb hx
  exact ⟨sl,(hs.2 b (ne b o e)).trans e1⟩
 ·obtain ⟨o',e1⟩:=B.there b o e hx
  exact ⟨o',(hs.2 b (ne b o e)).trans e1⟩
 ·refine (I'.hok b ob e).stay (fun c w' hc q=>(hs.2 c ?_).trans q) (fun _ q=>q) fun _ _ q=>q
  rintro rfl
  have hfree:H' s3.heap.objs.size=none:=I'.free
  rcases hc with rfl | hc
  ·rw [hfree] at e;cases e
  ·rw [hfree] at hc;cases hc
 ·obtain ⟨_,a2,_,a4,a5,a6⟩:=hfp b hb
  exact ⟨a4,a2,a5,a6⟩
theorem comp_core {own:List Str} {caps:List Nat} {scope:Scope} {tg:Option Nat} {target iter elt:Expr} {ifs:List Expr} {iit icond ielt:E} {pos:Pos} {pins:List (Addr×Obj)} {s:Shared} {σ:St} {G H:Hp} {ρ:Env} {sq:PV} {xs rs:List PV} {RR:Value→Addr→Result→Shared→Prop}
  (hcalm:X.calm=true) (CS:CScope X own caps scope) (hd:caps.Nodup) (hown:own.length=tg.getD 1) (hpk:isPeek ielt=false)
  (hit:PI X target iter (tI cf X.K iit)) (B:BlkOk X cf own caps scope tg target ifs elt icond ielt) (I:Inv X pins σ H s) (S:SR X.K G H σ ρ) (e1:evE cf iit ρ=some sq) (e2:seqOf sq=some xs)
  (e3:compF (turnC cf tg (caps.map fun j=>ρ.getD j .un) icond ielt) xs=some rs)
  (fin:∀ (D:Addr) (s3 s':Shared) (σ':St) (H3 H' G':Hp) (ys:List V) (fp:List Addr) (cl:List (Str×Addr)),Inv X pins σ H3 s3→Inv (cxC X (namesC X own caps) scope cl s3.heap.objs.size s3 H3 fp) [] σ' H' s'→(∀ b∈fp,FpOk X pins H3 b)→
   H D=none→Ext G H G' H'→H' D=some (.lst ys)→G' D=none→RpL X.K G' rs ys→RR (.ref D) s3.heap.objs.size (.ok .next) s'):
  wpAny (model X.prog X.w) X.A (eval iter X.env) (fun x s₁=>wpAny (model X.prog X.w) X.A (pyIter x) (fun it s₂=>wpAny (model X.prog X.w) X.A (newList []) (fun acc s₃=>
   wpAny (model X.prog X.w) X.A (newFunctionEnv scope X.env.globals (clOf X.env.cells scope.names []) [] X.env.qual none .none (some X.env)) (fun cenv s₄=>
    codeAny (model X.prog X.w) X.A (.compStart (.ListComp elt [⟨target,iter,ifs,0⟩] scope pos) 0 it acc {cenv with scope:=relabel scope X.env}) (RR acc cenv.locals) s₄) X.xe s₃) X.xe s₂) X.xe s₁) X.xe s:=by
 have w0:=hit pins s σ H (fun J H2=>∃ G2,Ext G H G2 H2∧Walk X.K J G2 xs) I ⟨G,ρ,sq,xs,S,e1,e2,fun J G' H' x w=>⟨G',x,w⟩⟩
 refine wpAny_mono w0 (fun v s1 h1=>wpAny_mono h1 (fun itv s2 h2=>?_) fun _ _ z=>z) fun _ _ z=>z
 obtain ⟨it,fp,tn,J,H2,rfl,I2,T,st2,f2,G2,x2,wk⟩:=h2
 refine wpAny_newObj_type (nfe_comp ?_)
 have O:=ownC_of scope.names ((s2.heap.push {cls:=.type "list",dict:=none,data:=.seq ([]:List Value).toArray}).push {cls:=.type "dict",data:=.dict #[]})
 rw [Heap.size_push (s2.heap.push _)] at O
 have hns₁:=(Heap.Ns.new (s2.heap.push {cls:=.type "list",dict:=none,data:=.seq ([]:List Value).toArray}) (.type "dict")).keeps (pushCells_keeps scope.names _)
 have hkp:∀ b o,(s2.heap.push {cls:=.type "list",dict:=none,data:=.seq ([]:List Value).toArray}).get? b=some o→(pushCells ((s2.heap.push {cls:=.type "list",dict:=none,data:=.seq ([]:List Value).toArray}).push {cls:=.type "dict",data:=.dict #[]}) scope.names).get? b=some o:=fun b o e=>pushCells_keeps _ _ b o (Heap.get?_push_of_some _ e)
 rw [cellsFrom_app]
 dsimp only at hns₁ ⊢
 generalize (pushCells ((s2.heap.push {cls:=.type "list",dict:=none,data:=.seq ([]:List Value).toArray}).push {cls:=.type "dict",data:=.dict #[]}) scope.names)=h₁ at hns₁ hkp O ⊢
 generalize cellsFrom ((s2.heap.push {cls:=.type "list",dict:=none,data:=.seq ([]:List Value).toArray}).objs.size+1) scope.names []=new at O ⊢
 generalize hD:s2.heap.objs.size=D at hns₁ ⊢
 have fo2:=T.obj 0 _ st2
 have hDn:H2 D=none:=by rw [← hD];exact I2.hok.fresh (Nat.le_refl _)
 have fpD:∀ b∈fp,b≠D:=fun b hb=>by
  obtain ⟨o,eo,_⟩:=fo2 b hb
  rw [← hD];exact Nat.ne_of_lt (Heap.lt_size eo)
 have I3:Inv X pins σ (upd H2 D (.lst [])) {s2 with heap:=s2.heap.push {cls:=.type "list",dict:=none,data:=.seq ([]:List Value).toArray}}:=by
  refine I2.laid (t':=s2.toks) (fun b o e=>Heap.get?_push_of_some _ e) (by rw [hD];exact Nat.le_refl _) ?_
  exact ⟨Nat.zero_le _,[],0,.nil,by rw [← hD];exact Heap.get?_push_size _ rfl⟩
 have kept:∀ b o,s2.heap.get? b=some o→h₁.get? b=some o:=fun b o e=>hkp b o (Heap.get?_push_of_some _ e)
 have fp3:∀ b∈fp,FpOk X pins (upd H2 D (.lst [])) b:=fun b hb=>by
  obtain ⟨a1,a2,a3,a4,a5,a6⟩:=f2 b hb
  exact ⟨by rw [upd_ne (fpD b hb)];exact a1,a2,a3,a4,a5,a6⟩
 have fo3:∀ b∈fp,∃ o,(s2.heap.push {cls:=.type "list",dict:=none,data:=.seq ([]:List Value).toArray}).get? b=some o:=fun b hb=>by
  obtain ⟨o,eo,_⟩:=fo2 b hb
  exact ⟨o,Heap.get?_push_of_some _ eo⟩
 have I4:=inv_comp (h1:=h₁) (t:=s2.toks) I3 CS hcalm fp3 fo3 hns₁ hkp O
 have S2:=S.ext x2
 have st4:tn 0 h₁:=T.keep 0 _ _ st2 fun b _ o e=>kept b o e
 refine comp_block (H2:=H2) (σ:=σ) (ρ:=ρ) hd hown hpk T wk B S2 hDn fpD (fun b hb=>(f2 b hb).1) (fun Hx b hb hn=>?_) I4 st4 e3 (fun s' σ' H' G' ys I' x' hD' gD' r'=>?_)
 ·obtain ⟨a1,a2,a3,a4,a5,a6⟩:=f2 b hb
  obtain ⟨o,eo⟩:=fo3 b hb
  exact ⟨hn,Nat.ne_of_lt (Heap.lt_size eo),(I4.ok.exfs b hb),.inl hb,(I4.ok.exf b hb).2,fun p hp=>absurd (show p∈([]:List (Addr×Obj)) from hp) (by simp)⟩
 ·have hDH:H D=none:=by
   cases q:H D with
   | none=>rfl
   | some o=>have:=x2.hh D o q;rw [hDn] at this;cases this
  exact fin D _ s' σ' _ H' G' ys fp _ I3 I' fp3 hDH (x2.trans x') hD' gD' r'
theorem pe_comp {own:List Str} {caps:List Nat} {scope:Scope} {tg:Option Nat} {target iter elt:Expr} {ifs:List Expr} {iit icond ielt:E} {pos:Pos} (hcalm:X.calm=true) (CS:CScope X own caps scope) (hd:caps.Nodup) (hown:own.length=tg.getD 1) (hpk:isPeek ielt=false)
  (hit:PI X target iter (tI cf X.K iit)) (hfs:∀ x,foldedSetIterable iter X.env x=pure x) (B:BlkOk X cf own caps scope tg target ifs elt icond ielt):
  PE X (.ListComp elt [⟨target,iter,ifs,0⟩] scope pos) (tE cf X.K (.comp tg caps iit icond ielt)):=by
 intro pins s σ H Q I h
 obtain ⟨G,ρ,p,S,e,k⟩:=h
 obtain ⟨sq,e1,e⟩:=bnd_eq.mp (show bnd (evE cf iit ρ) _=some p from e)
 obtain ⟨xs,e2,e⟩:=bnd_eq.mp e
 obtain ⟨rs,e3,e⟩:=bnd_eq.mp e
 cases (show some (PyData.list rs)=some p from e)
 have hfr:∀ x∈scope.names,x.2=.free→∃ c,X.env.cells.lookup x.1=some c:=fun x hx e=>I.ok.has x.1 (CS.frees x hx e)
 rw [eval_ListComp]
 refine wpAny_comprehension_free (use:=none) rfl hfs (closure_of hfr) CS.kind CS.locals ?_
 refine comp_core (RR:=fun acc C=>compPost (model X.prog X.w) X.A X.xe none (EP X pins σ Q) acc C) hcalm CS hd hown hpk hit B I S e1 e2 e3 fun D s3 s' σ' H3 H' G' ys fp cl I3 I' fp3 hDH x hD' gD' r'=>?_
 obtain ⟨m',hn',_⟩:=I'.loc
 refine ⟨m',hn',fun h'' hs''=>?_⟩
 refine ⟨.ref D,H',inv_back I3 I' hs'' fp3,rfl,k _ _ _ (x.frz hDH gD' hD') (.of rfl ⟨D,ys,rfl,SqL.of upd_same,r'.mono ?_⟩)⟩
 exact .new gD' _
theorem ps_comp {own:List Str} {caps:List Nat} {scope:Scope} {tg:Option Nat} {target iter elt:Expr} {ifs:List Expr} {iit icond ielt:E} {pos spos py:Pos} {i:Nat} {y:Str} (hcalm:X.calm=true) (CS:CScope X own caps scope) (hd:caps.Nodup) (hown:own.length=tg.getD 1) (hpk:isPeek ielt=false)
  (hit:PI X target iter (tI cf X.K iit)) (hfs:∀ x,foldedSetIterable iter X.env x=pure x) (B:BlkOk X cf own caps scope tg target ifs elt icond ielt)
  (hN:X.N.Nodup) (hi:X.N[i]?=some y) (hy:X.env.scope.names.lookup y=some .local) (hsw:swapsWith (.ListComp elt [⟨target,iter,ifs,0⟩] scope pos) (some (.Name y py)) spos.line X.env=pure true):
  PS X (.Assign [.Name y py] (.ListComp elt [⟨target,iter,ifs,0⟩] scope pos) spos) (tAsg (tE cf X.K (.comp tg caps iit icond ielt)) (gName i)):=by
 intro pins s σ H D0 I h
 obtain ⟨G,ρ,p,S,e,k⟩:=h
 obtain ⟨sq,e1,e⟩:=bnd_eq.mp (show bnd (evE cf iit ρ) _=some p from e)
 obtain ⟨xs,e2,e⟩:=bnd_eq.mp e
 obtain ⟨rs,e3,e⟩:=bnd_eq.mp e
 cases (show some (PyData.list rs)=some p from e)
 have hfr:∀ x∈scope.names,x.2=.free→∃ c,X.env.cells.lookup x.1=some c:=fun x hx e=>I.ok.has x.1 (CS.frees x hx e)
 rw [exec_Assign_Name_used _ _ _ _ hsw]
 refine wpAny_bind (wpAny_standAt (wpAny_bind ?_))
 show wpAny _ X.A (do let _ ← comprehension (.ListComp elt [⟨target,iter,ifs,0⟩] scope pos) scope X.env _ (newList []) false (eval iter X.env) (some (assign (.Name y py) X.env))) _ _ s
 refine wpAny_bind (wpAny_mono (wpAny_comprehension_free (use:=some (assign (.Name y py) X.env)) (Q:=fun _ s'=>SP X pins D0 .next s') rfl hfs (closure_of hfr) CS.kind CS.locals ?_) (fun _ s' hq=>wpAny_pure (wpAny_pure hq)) fun _ _ e=>e)
 refine comp_core (RR:=fun acc C=>compPost (model X.prog X.w) X.A X.xe (some (assign (.Name y py) X.env)) (fun _ s'=>SP X pins D0 .next s') acc C) hcalm CS hd hown hpk hit B I S e1 e2 e3 fun D s3 s' σ' H3 H' G' ys fp cl I3 I' fp3 hDH x hD' gD' r'=>?_
 have Ib:Inv X pins σ H' s':=inv_back (h'':=s'.heap) I3 I' (.refl ..) fp3
 have hnx:D0.nx (σ.set i (some (.ref D))) H':=k _ _ _ (x.frz hDH gD' hD') (.of rfl ⟨D,ys,rfl,SqL.of upd_same,r'.mono (.new gD' _)⟩)
 show wpAny _ X.A (assign (.Name y py) X.env (.ref D)) _ _ _
 have hCC:s3.heap.objs.size≠X.env.locals:=fun z=>absurd I3.lt (by rw [← z];exact Nat.lt_irrefl _)
 refine wpAny_assign_Name (store_ok2 Ib hN hi (.inl hy) (v:=.ref D) rfl (fun s'' I'' hch=>?_) (.inr hy))
 obtain ⟨m',hn',_⟩:=I'.loc
 obtain ⟨a,hsa,ha⟩:=hch
 have hCa:s3.heap.objs.size≠a:=by
  rcases ha with z | z
  ·rw [z];exact hCC
  ·intro w
   obtain ⟨cv,hcv⟩:=I3.cell y a z
   exact absurd hcv.lt (by rw [← w];exact Nat.lt_irrefl _)
 refine ⟨m',hn'.sameBut hsa hCa,fun h'' hs''=>⟨σ.set i (some (.ref D)),H',?_,hnx⟩⟩
 
 refine I''.call' (s':={s'' with heap:=h''}) (ch:=[s3.heap.objs.size]) rfl ⟨fun b o e n hb hx=>?_,fun b o e n hb hx=>?_,fun b o e n hx=>n,fun b o e hx=>?_,fun _ _ e=>e,fun _ _ _ e=>e,fun b ps e=>⟨#[],by rw [e];simp⟩⟩ (fun b ob e=>?_) I''.bare (fun b hb=>?_)
 ·exact (hs''.2 b fun z=>hx (by simp [z])).trans e
 ·exact ⟨o.slots,(hs''.2 b fun z=>hx (by simp [z])).trans e⟩
 ·exact ⟨o,(hs''.2 b fun z=>hx (by simp [z])).trans e⟩
 ·refine (I''.hok b ob e).stay (fun c w' hc q=>(hs''.2 c ?_).trans q) (fun _ q=>q) fun _ _ q=>q
  rintro rfl
  have hfree:H' s3.heap.objs.size=none:=I'.free
  rcases hc with rfl | hc
  ·rw [hfree] at e;cases e
  ·rw [hfree] at hc;cases hc
 ·have eb:b=s3.heap.objs.size:=by simpa using hb
  subst eb
  refine ⟨.inr (I3.sz),hCC,fun z c ec w=>?_,fun q hq w=>?_⟩
  ·obtain ⟨cv,hcv⟩:=I3.cell z c ec
   exact absurd hcv.lt (by rw [w];exact Nat.lt_irrefl _)
  ·exact absurd (Heap.lt_size (I3.pin q hq).1) (by rw [w];exact Nat.lt_irrefl _)
end
structure LScope (X:Cx) (own:List Str) (caps:List Nat) (scope:Scope):Prop extends CScope X own caps scope where
 nocell:∀ x∈scope.names,x.2≠.cell
structure LamTab (X:Cx) (c P:Addr):Prop where
 code:X.env.code=.ref c
 hd:PySem.W.CodeHd X.base c P
 bm:∃ bm ob,X.mg "__builtins__"=some (.ref bm)∧bm≠builtinsNs∧X.base.get? bm=some ob∧ob.cls=.type "module"∧ob.dict=some builtinsNs∧ob.data=.plain
section
variable {X:Cx} {pins:List (Addr×Obj)} {σ:St} {H:Hp} {s:Shared}
theorem _root_.L2.Inv.grown {P:Addr} {ps more:Array Value} {h':Heap} {t':Nat} (I:Inv X pins σ H s) (hP:H P=some (.tbl ps)) (hx:∀ b o,b≠P→s.heap.get? b=some o→h'.get? b=some o) (hn:h'.get? P=some {cls:=.none,data:=.fields (ps++more)}):
  Inv X pins σ (upd H P (.tbl (ps++more))) {s with heap:=h',toks:=t'}:=by
 have ne:∀ b,H b=none→b≠P:=fun b e z=>by rw [z,hP] at e;cases e
 refine I.step (g':=s.gens) (d':=s.drawn) (ch:=[]) (fun _ z=>nomatch z) (fun b o _ _ _ e n=>hx b o (ne b n) e) (fun b o _ _ _ e n=>⟨o.slots,hx b o (ne b n) e⟩) (fun b o _ _ n=>by rw [upd_ne (ne b n)];exact n)
  (fun b o _ e=>?_) (fun b xs e=>?_) (fun b o u e=>?_) (fun b qs e=>?_) (fun m hm=>?_) (fun b u e=>?_) I.bare
 ·by_cases hb:b=P
  ·exact ⟨_,by rw [hb];exact hn⟩
  ·exact ⟨o,hx b o hb e⟩
 ·rw [upd_ne (ne_of e hP (by simp))];exact e
 ·rw [upd_ne (ne_of e hP (by simp))];exact e
 ·by_cases hb:b=P
  ·subst hb
   rw [hP] at e
   cases e
   exact ⟨more,upd_same⟩
  ·exact ⟨#[],by rw [upd_ne hb,e];simp⟩
 ·obtain ⟨o,es,ep,ho,r⟩:=hm
  exact ⟨o,es,ep,hx _ o (ne _ I.free) ho,r⟩
 ·by_cases hb:b=P
  ·subst hb
   rw [upd_same] at e
   cases e
   exact hn
  ·rw [upd_ne hb] at e
   refine (I.hok b u e).stay (fun c v hc q=>hx c v ?_ q) (fun c q=>?_) fun c xs q=>?_
   ·rcases hc with z | z
    ·rw [z];exact hb
    ·exact ne_of z hP (by simp)
   ·rw [upd_ne (ne_of q hP (by simp))];exact q
   ·rw [upd_ne (ne_of q hP (by simp))];exact q
theorem lam_make {c P:Addr} {own:List Str} {caps:List Nat} {params:Arguments} {body:Expr} {scope:Scope} {pos:Pos} {Q:Value→Shared→Prop} {E:Value→Shared→Prop} (I:Inv X pins σ H s) (T:LamTab X c P) (hP:H P=some (.tbl #[])) (hdef:defaultsOf params X.env=([],[]))
  (CS:LScope X own caps scope)
  (h:∀ (f c':Addr) (oc:Obj) (pm ctv:Value) (more:Array Value) (s':Shared),
   Inv X ((f,PySem.W.kla_obj "<lambda>" (X.env.qual++"<lambda>") params body scope (clOf X.env.cells scope.names []) pm c' ctv)::(c',oc)::pins) σ (upd H P (.tbl more)) s'→s'.heap.CodeRec (.ref c') (X.env.qual++"<lambda>")→
   (∀ b o,b≠P→s.heap.get? b=some o→s'.heap.get? b=some o)→s.heap.objs.size≤c'→s.heap.objs.size≤f→s'.heap.get? c'=some oc→Q (.ref f) s'):
  wpAny (model X.prog X.w) X.A (eval (.Lambda params body scope pos) X.env) Q E s:=by
 have hfr:∀ x∈scope.names,x.2=.free→∃ c,X.env.cells.lookup x.1=some c:=fun x hx e=>I.ok.has x.1 (CS.frees x hx e)
 have hPg:s.heap.get? P=some (PySem.W.tabObj #[]):=I.hok P _ hP
 have gl:=I.mod.glob.keeps I.bk
 have neP:∀ b o,X.base.get? b=some o→b≠P:=fun b o e z=>by
  have:=(I.bs b o e).2
  rw [z,hP] at this;cases this
 have hgP:mainGlobals≠P:=by
  obtain ⟨o,es,ep,e,_⟩:=I.mod.glob
  exact neP _ _ e
 obtain ⟨bm,ob,b1,b2,b3,b4,b5,b6⟩:=T.bm
 have hbG:bm≠mainGlobals:=fun q=>by
  obtain ⟨o,es,ep,e,hd,_⟩:=I.mod.glob
  rw [q,e] at b3;cases b3;rw [hd] at b6;cases b6
 refine PySem.W.kla_eval hdef (PySem.W.kla_makeFunction (mg:=X.mg) (c:=c) (P:=P) (ps:=#[]) (closure_of hfr) I.ok.glob gl T.code (T.hd.keeps I.bk) hPg trivial rfl hgP ⟨bm,ob,b1,b2,hbG,neP _ _ b3,I.bk _ _ b3,b4,b5,b6⟩ fun c' ctv h' tk hx hge hlt hrec htb=>?_)
 obtain ⟨c₂,oc,vs,t,e2,hoc,hd,hv⟩:=hrec
 cases e2
 have hfs:s.heap.objs.size≤h'.objs.size:=Nat.le_trans hge (Nat.le_of_lt hlt)
 have I2:=I.grown (h':=h'.push (PySem.W.kla_obj "<lambda>" (X.env.qual++"<lambda>") params body scope (clOf X.env.cells scope.names []) ((X.mg "__name__").getD .none) c' ctv)) (t':=tk) hP (fun b o hb e=>Heap.get?_push_of_some _ (hx b o hb e)) (Heap.get?_push_of_some _ htb)
 have hnew:∀ b,s.heap.objs.size≤b→upd H P (.tbl (#[]++#[rawInt pos.line,rawInt pos.col,.ref c'])) b=none∧b≠X.env.locals∧b∉X.fs:=fun b hb=>by
  have hbP:b≠P:=fun z=>absurd (Heap.lt_size hPg) (by rw [← z];exact Nat.not_lt.mpr hb)
  exact ⟨by rw [upd_ne hbP];exact I.hok.fresh hb,Nat.ne_of_gt (Nat.lt_of_lt_of_le I.lt hb),I.nofs hb⟩
 refine h h'.objs.size c' oc ((X.mg "__name__").getD .none) ctv _ _ (I2.pins_of fun p hp=>?_) ⟨c',oc,vs,t,rfl,Heap.get?_push_of_some _ hoc,hd,hv⟩ (fun b o hb e=>Heap.get?_push_of_some _ (hx b o hb e)) hge hfs (Heap.get?_push_of_some _ hoc)
 rcases List.mem_cons.mp hp with rfl | hp
 ·obtain ⟨n1,n2,n3⟩:=hnew _ hfs
  exact ⟨Heap.get?_push_size _ rfl,n1,n2,n3,fun v z=>by cases z⟩
 ·rcases List.mem_cons.mp hp with rfl | hp
  ·obtain ⟨n1,n2,n3⟩:=hnew _ hge
   exact ⟨Heap.get?_push_of_some _ hoc,n1,n2,n3,fun v z=>by rw [hd] at z;cases z⟩
  ·exact I2.pin p (List.mem_append_right _ hp)
noncomputable def cxL (X:Cx) (A:Around) (N':List Str) (qual:Str) (scope:Scope) (cl:List (Str×Addr)) (f:Addr) (cd:Value) (s:Shared) (H:Hp):Cx where
 prog:=X.prog
 w:=X.w
 K:=X.K
 mg:=X.mg
 base:=X.base
 A:=A.deeper (PySem.W.envX qual scope s.heap.objs.size f cd cl)
 N:=N'
 s₀:=s
 H₀:=H
 env:=PySem.W.envX qual scope s.heap.objs.size f cd cl
 outer:=X.stack
 stack:=PySem.W.envX qual scope s.heap.objs.size f cd cl::X.stack
 ex:=[]
 fn:=fun _=>false
 calm:=true
 pn:=[]
 xe:=fun _ _=>False
theorem inv_lam {A:Around} {k qual:Str} {caps:List Nat} {scope:Scope} {f:Addr} {cd u:Value} {v:V} (I:Inv X pins σ H s) (S:LScope X [k] caps scope) (hA:A.frames=some X.stack) (hhd:A.handled=none) (hkl:scope.names.lookup k=some .local) (rv:RelV v u)
  {h1:Heap} {t:Nat} (hns:h1.Ns s.heap.objs.size (fun y=>[(k,u)].reverse.lookup y)) (hk:∀ b o,s.heap.get? b=some o→h1.get? b=some o):
  Inv (cxL X A (namesC X [k] caps) qual scope (clOf X.env.cells scope.names []) f cd s H) [] (some v::caps.map fun j=>σ.getD j none) H {s with heap:=h1,toks:=t}:=by
 have hfr:∀ x∈scope.names,x.2=.free→∃ c,X.env.cells.lookup x.1=some c:=fun x hx e=>I.ok.has x.1 (S.frees x hx e)
 have cls:∀ x c,(clOf X.env.cells scope.names []).lookup x=some c→X.env.cells.lookup x=some c:=fun x c e=>clOf_sub X.env.cells scope.names [] hfr (fun _ _ h=>by cases h) x c (PySem.mem_of_lookup e)
 have clh:∀ x,scope.names.lookup x=some .free→∃ c,(clOf X.env.cells scope.names []).lookup x=some c:=fun x e=>by
  obtain ⟨c,hc⟩:=clOf_mem X.env.cells scope.names [] x (.inr (PySem.mem_of_lookup e))
  exact lookup_of_mem hc
 have noA:∀ b:Addr,b∉([]:List Addr):=fun b z=>by cases z
 refine ⟨⟨I.ok.mod,S.kind,rfl,rfl,Nat.le_refl _,fun x y c e1 e2=>I.ok.inj x y c (cls x c e1) (cls y c e2),fun x hx=>?_,fun x c hf _=>?_,fun _=>hhd,Around.frames_deeper hA,.inr ⟨rfl,rfl⟩,fun b z=>absurd z (noA b),I.bs,
  Nat.le_trans I.ok.bsz I.sz,fun b _ _=>noA b,fun b z=>absurd z (noA b),I.stack,I.stkFree⟩,rfl,I.bare,Un.kept hk,⟨_,hns,fun i x v' e1 e2 e3=>?_⟩,fun x c e=>?_,I.hok.fresh (Nat.le_refl _),fun x c e=>I.freeC x c (cls x c e),fun p hp=>?_,I.hok.kept hk,?_⟩
 ·have hx':scope.names.lookup x=some .cell∨scope.names.lookup x=some .free:=hx
  rcases hx' with z | z
  ·exact absurd rfl (S.nocell _ (PySem.mem_of_lookup z))
  ·exact clh x z
 ·exact absurd (show false=true from hf) Bool.false_ne_true
 ·cases i with
  | zero=>
   have e1':some k=some x:=e1
   have e2':some (some v)=some (some v'):=e2
   cases e1';cases e2'
   exact ⟨u,rv,.inl ⟨hkl,by simp⟩⟩
  | succ i=>
   have e1':(caps.map fun j=>X.N.getD j "")[i]?=some x:=e1
   have e2':(caps.map fun j=>σ.getD j none)[i]?=some (some v'):=e2
   rw [List.getElem?_map] at e1' e2'
   cases ec:caps[i]? with
   | none=>rw [ec] at e2';cases e2'
   | some j=>
    rw [ec] at e1' e2'
    simp only [Option.map_some,Option.some.injEq] at e1' e2'
    obtain ⟨y,ey,vy,fy⟩:=S.caps j (List.mem_of_getElem? ec)
    have eyx:y=x:=by rw [← e1',List.getD_eq_getElem?_getD,ey];rfl
    subst eyx
    have eσ:σ[j]?=some (some v'):=by
     rw [List.getD_eq_getElem?_getD] at e2'
     cases q:σ[j]? with
     | none=>rw [q] at e2';cases e2'
     | some o=>rw [q] at e2';exact congrArg some e2'
    obtain ⟨m0,hn0,hl0⟩:=I.loc
    obtain ⟨u',ru,lk⟩:=hl0 j y v' ey eσ vy
    refine ⟨u',ru,.inr ⟨.inr fy,?_⟩⟩
    have hfk:=S.frees (y,.free) (PySem.mem_of_lookup fy) rfl
    obtain ⟨c,hc⟩:=clh y fy
    rcases lk with ⟨k1,_⟩ | ⟨_,d,hd,hcell⟩
    ·dsimp only at hfk
     rcases hfk with z | z <;> (rw [k1] at z;cases z)
    ·have:c=d:=Option.some.inj ((cls y c hc).symm.trans hd)
     subst this
     exact ⟨c,hc,hcell.keeps hk⟩
 ·obtain ⟨v,hv⟩:=I.cell x c (cls x c e)
  exact ⟨v,hv.keeps hk⟩
 ·exact absurd (show p∈([]:List (Addr×Obj)) from hp) (by simp)
 ·show ((some v::caps.map fun j=>σ.getD j none):List (Option V)).length=(namesC X [k] caps).length
  unfold namesC
  simp
theorem lam_call {A:Around} {k name qual:Str} {caps:List Nat} {params:Arguments} {body:Expr} {scope:Scope} {f c':Addr} {pm ctv u:Value} {v:V} {Q:VK} {t:TE} (I:Inv X pins σ H s) (S:LScope X [k] caps scope) (hA:A.frames=some X.stack) (hhd:A.handled=none)
  (hroom:A.depth<recursionLimit) (hkl:scope.names.lookup k=some .local) (hco:scope.isCoroutine=false) (hgen:scope.isGenerator=false) (rv:RelV v u)
  (hf:s.heap.get? f=some (PySem.W.kla_obj name qual params body scope (clOf X.env.cells scope.names []) pm c' ctv)) (hcd:s.heap.CodeRec (.ref c') qual)
  (hbind:bindArgs (PySem.W.kla_fn name qual params body scope (clOf X.env.cells scope.names []) pm (.ref c') ctv) ⟨[u],[]⟩=pure [(k,u)])
  (hb:PE (cxL X A (namesC X [k] caps) qual scope (clOf X.env.cells scope.names []) f (.ref c') s H) body t) (hq:t (some v::caps.map fun j=>σ.getD j none) H Q):
  wpAny (model X.prog X.w) A (call (.ref f) [u]) (EP X pins σ Q) (fun _ _=>False) s:=by
 refine wpAny_call (codeAny_mono (R:=fun r s'=>match r with | .ok (.ret u)=>CE X.stack X.prog X.w H s Q u s' | _=>False) (PySem.W.kla_callFunE hroom hf rfl hco hgen rfl hcd ?_) fun r s' h=>?_)
 ·rw [hbind]
  refine wpAny_pure (wpAny_newFunctionEnv S.nocell (fun y hy=>?_) (fun h₁ hns hsb=>⟨I.nolimit.fresh _ hsb,?_⟩) S.kind)
  ·cases List.mem_singleton.mp hy
   exact hkl
  show codeAny _ _ (.expr body (PySem.W.envX qual scope s.heap.objs.size f (.ref c') (clOf X.env.cells scope.names []))) _ _
  have hk₁:∀ b o,s.heap.get? b=some o→h₁.get? b=some o:=fun b o e=>hsb.extBut b o (Nat.ne_of_lt (Heap.lt_size e)) (Heap.get?_push_of_some _ e)
  exact PySem.W.kla_codeExpr (wpAny_mono (hb [] _ _ H Q (inv_lam I S hA hhd hkl rv hns hk₁) hq) (fun v' s' ⟨w',H',J,rw',q⟩=>⟨w',H',J.os,J.bare,J.base,J.hok,rw',q⟩) fun _ _ z=>z.elim)
 ·cases r with
  | error e=>exact h.elim
  | ok fl=>
   cases fl with
   | ret u=>exact I.after h
   | next=>exact h.elim
   | brk=>exact h.elim
   | cont=>exact h.elim
end
theorem collect_range {prog:Program} {w:World} {A:Around} {E:Value→Shared→Prop} {s:Shared} {Q:List Value→Shared→Prop} {r:Addr} {b:Int} {t u v:Tok} {n:Nat} (hh:A.handled=none) (hr:IsRange s.heap r 0 b 1 t u v) (hsmall:Builtin.Range.small 0 b 1=true)
  (hn:Builtin.Range.rangeSize 0 b 1=n) (hlen:n≤2 ^ 24)
  (hQ:∀ h' tk (acc:Array Value),(∀ b o,s.heap.get? b=some o→h'.get? b=some o)→ItemsOf (fun i v=>∃ t,v=.int (0+i * 1) t) acc n→Q acc.toList {s with heap:=h',toks:=tk}):wpAny (model prog w) A (collect (.ref r)) Q E s:=by
 unfold collect
 refine wpAny_bind (wpAny_runValue (codeAny_builtin F.entry_proto_collect ?_))
 rw [Around.under_plainId F.plain_proto_collect _]
 show wpAny _ A.in1 (newList [] >>= fun l=>again (.builtin "list.__iadd__" ⟨[l,.ref r],[]⟩)) _ _ s
 refine wpAny_bind (wpAny_newObj_type ?_)
 refine wpAny_pure ⟨plainId_quiet F.plain_list_iadd _,codeAny_builtin F.entry_list_iadd ?_⟩
 rw [Around.under_plainId F.plain_list_iadd _]
 show wpAny _ A.in1 (Builtin.List.listExtendWith (.ref s.heap.objs.size) (.ref r) (.ref s.heap.objs.size)) _ _ _
 have hS:(s.heap.push {cls:=.type "list",data:=.seq ([]:List Value).toArray}).get? s.heap.objs.size=some {cls:=.type "list",data:=.seq #[] 0}:=Heap.get?_push_size _ rfl
 have fin':∀ s',(∃ h' tk acc c',s'={s with heap:=h',toks:=tk}∧(∀ b o,s.heap.get? b=some o→h'.get? b=some o)∧h'.get? s.heap.objs.size=some {cls:=.type "list",dict:=none,data:=.seq acc c',slots:=#[]}∧ItemsOf (fun i v=>∃ t,v=.int (0+i * 1) t) acc n)→
   wpAny (model prog w) A (match Value.ref s.heap.objs.size with
   | Value.ref a=>do
    match (← load a).data with
     | Data.seq xs _=>pure xs.toList
     | _=>unsupported "internal:collect"
   | _=>unsupported "internal:collect") Q E s':=by
  rintro s' ⟨h',tk,acc,c',rfl,hk,hg,hi⟩
  show wpAny _ A (load s.heap.objs.size >>= _) _ _ _
  exact wpAny_bind (wpAny_load hg (wpAny_pure (hQ h' tk acc hk hi)))
 refine wpAny_mono (wpAny_extend_range (A:=A) (R:=fun r s'=>r=.ok (.ret (.ref s.heap.objs.size))∧∃ h' tk acc c',s'={s with heap:=h',toks:=tk}∧(∀ b o,s.heap.get? b=some o→h'.get? b=some o)∧h'.get? s.heap.objs.size=some {cls:=.type "list",dict:=none,data:=.seq acc c',slots:=#[]}∧ItemsOf (fun i v=>∃ t,v=.int (0+i * 1) t) acc n)
  (s:={s with heap:=s.heap.push {cls:=.type "list",data:=.seq ([]:List Value).toArray}}) hh (Heap.get?_push_of_some _ hr) hsmall hn hlen s.heap.objs.size _ 0 hS
  (fun h' tk acc c' hk hS' hi=>⟨rfl,h',tk,acc,c',rfl,fun b o e=>hk b o (Nat.ne_of_lt (Heap.lt_size e)) (Heap.get?_push_of_some _ e),hS',hi⟩)) (fun fin s' h=>?_) (fun e s' h=>?_)
 ·cases fin with
  | done f=>
   obtain ⟨e,h⟩:=h
   cases e
   exact fin' s' h
  | again c'=>exact ⟨h.1,codeAny_mono h.2 fun r s'' hr=>by obtain ⟨rfl,hr⟩:=hr;exact fin' s'' hr⟩
 ·exact absurd h.1 (by simp)
noncomputable def FpS (X:Cx) (pins:List (Addr×Obj)) (b:Addr):Prop:=b≠X.env.locals∧b∉X.fs∧(b∈X.ex∨X.s₀.heap.objs.size≤b)∧(∀ x c,X.env.cells.lookup x=some c→c≠b)∧∀ p∈X.pn++pins,p.1≠b
section
variable {X:Cx} {pins:List (Addr×Obj)} {σ:St} {H:Hp} {s:Shared}
theorem _root_.L2.Inv.fpS (I:Inv X pins σ H s) {b:Addr} (hb:s.heap.objs.size≤b):FpS X pins b:=(I.fpOk hb (I.hok.fresh hb)).2
theorem _root_.L2.Inv.turnF {b:Addr} {h':Heap} {t':Nat} (I:Inv X pins σ H s) (hn:H b=none) (F:FpS X pins b) (k:∀ c o,c≠b→s.heap.get? c=some o→h'.get? c=some o):Inv X pins σ H {s with heap:=h',toks:=t'}:=
 I.turned k hn F.1 F.2.2.1 F.2.2.2.1 F.2.2.2.2
theorem _root_.L2.Inv.pinA {b:Addr} {o:Obj} (I:Inv X pins σ H s) (hg:s.heap.get? b=some o) (hn:H b=none) (F:FpS X pins b) (hd:∀ v,o.data≠.cell v):Inv X ((b,o)::pins) σ H s:=I.pins_of fun p hp=>by
 rcases List.mem_cons.mp hp with rfl | hp
 ·exact ⟨hg,hn,F.1,F.2.1,hd⟩
 ·exact I.pin p (List.mem_append_right _ hp)
theorem _root_.L2.Inv.pinD {q:Addr×Obj} (I:Inv X (q::pins) σ H s):Inv X pins σ H s:=I.pins_of fun p hp=>I.pin p (List.mem_append_right _ (List.mem_cons_of_mem _ hp))
theorem FpS.cons {a b:Addr} {o:Obj} (F:FpS X pins b) (h:a≠b):FpS X ((a,o)::pins) b:=⟨F.1,F.2.1,F.2.2.1,F.2.2.2.1,fun p hp=>by
 rcases List.mem_append.mp hp with hp | hp
 ·exact F.2.2.2.2 p (List.mem_append_left _ hp)
 ·rcases List.mem_cons.mp hp with rfl | hp
  ·exact h
  ·exact F.2.2.2.2 p (List.mem_append_right _ hp)⟩
theorem upd_seq {h:Heap} {a:Addr} {xs:Array Value} {n:Nat} (ho:h.get? a=some (seqObj "list" xs n)) (out:Array Value):∃ c,(h.update a (Obj.mapSeq fun _=>out)).get? a=some (seqObj "list" out c):=⟨_,get?_update_seq ho fun _=>out⟩
theorem key_tail {A:Around} {a kS:Addr} {vs:List Value} {e e1:Nat} {kz:List Int} {keys:Array Value} {b:Bool} {st:SortSt} {P:PySem.Fin→Shared→Prop} {E:Value→Shared→Prop} (I:Inv X pins σ H s) (nk:s.heap.get? kS=some (seqObj "list" keys e)) (na:s.heap.get? a=some (seqObj "list" #[] e1))
  (hkn:H kS=none) (han:H a=none) (FK:FpS X pins kS) (F:FpS X pins a) (nek:a≠kS) (hk:IntsAre keys.toList kz) (hlen:kz.length=vs.length) (h64:vs.length<64) (hp:(arrOf st).Perm (keys.zip vs.toArray)) (hs:SortedTo (arrOf st) (arrOf st).size) (hfl:failedOf st=none)
  (h:∀ (s':Shared) (out:Array Value) (e:Nat),Inv X ((a,seqObj "list" out e)::pins) σ H s'→KskOut b kz vs out.toList→P (.done (.ret .none)) s'):wpAny (model X.prog X.w) A (ksk_tail a b e1 (.ref kS) st) P E s:=by
 have hsz:keys.size=vs.length:=by
  have h1:=hk.length
  rw [Array.length_toList] at h1
  lia
 have hsz2:(arrOf st).size=vs.length:=by rw [hp.size_eq,Array.size_zip,hsz,List.size_toArray,Nat.min_self]
 have hout:(if b then ((arrOf st).map (·.2)).reverse else (arrOf st).map (·.2)).size=vs.length:=by
  cases b with
  | false=>simp only [Bool.false_eq_true,if_false,Array.size_map];exact hsz2
  | true=>simp only [if_true,Array.size_reverse,Array.size_map];exact hsz2
 have s1:=Heap.SameBut.update s.heap kS (Obj.mapSeq fun _=>(#[]:Array Value))
 have na1:(s.heap.update kS (Obj.mapSeq fun _=>(#[]:Array Value))).get? a=some (seqObj "list" #[] e1):=(s1.2 a nek).trans na
 have s2:=Heap.SameBut.update (s.heap.update kS (Obj.mapSeq fun _=>(#[]:Array Value))) a (Obj.mapSeq fun _=>if b then ((arrOf st).map (·.2)).reverse else (arrOf st).map (·.2))
 obtain ⟨c2,hc2⟩:=upd_seq na1 (if b then ((arrOf st).map (·.2)).reverse else (arrOf st).map (·.2))
 unfold ksk_tail
 try dsimp only
 refine wpAny_bind (listUpdate_at nk rfl ?_ (by rw [hsz,sizeLine_eq];lia) (Nat.zero_le _))
 refine wpAny_bind (wpAny_letGo ?_)
 refine wpAny_bind (seqEpoch_at na1 rfl ?_)
 refine wpAny_bind (listUpdate_at na1 rfl ?_ (Nat.zero_le _) (Nat.le_trans (Nat.le_of_eq hout) (by rw [sizeLine_eq];lia)))
 rw [hfl]
 simp only [bne_self_eq_false,Bool.false_eq_true,if_false]
 have J2:=I.turnF (b:=kS) (h':=s.heap.update kS (Obj.mapSeq fun _=>(#[]:Array Value))) (t':=s.toks) hkn FK (fun b o hb e=>(s1.2 b hb).trans e)
 have J3:=J2.turnF (b:=a) (h':=(s.heap.update kS (Obj.mapSeq fun _=>(#[]:Array Value))).update a (Obj.mapSeq fun _=>if b then ((arrOf st).map (·.2)).reverse else (arrOf st).map (·.2))) (t':=s.toks) han F (fun b o hb e=>(s2.2 b hb).trans e)
 exact wpAny_pure (h _ _ c2 (J3.pinA hc2 han F (fun v z=>by cases z)) (ksk_out hk hp hs))
theorem key_tree {A : Around} {f : Value} {a : Addr} {vs : List Value} {n : Nat} {kz : List Int} {P : PySem.Fin → Shared → Prop} {E : Value → Shared → Prop} {G : Hp} (I : Inv X pins σ H s) (sub : Sub G H) (ho : s.heap.get? a = some (seqObj "list" vs.toArray n)) (ha : H a = none) (F : FpS X pins a)
    (hlen : kz.length = vs.length) (h64 : vs.length < 64)
    (turn : ∀ (i : Nat) (v : Value) (k : Int), vs[i]? = some v → kz[i]? = some k → ∀ (pins' : List (Addr × Obj)) (s' : Shared) (H' G' : Hp), Inv X pins' σ H' s' → (∀ p ∈ pins, p ∈ pins') → Ext G H G' H' →
      wpAny (model X.prog X.w) A (call f [v]) (fun u s'' => ∃ t H'' G'', u = .int k t ∧ Inv X pins' σ H'' s'' ∧ Ext G' H' G'' H'') (fun _ _ => False) s')
    (h : ∀ (s' : Shared) (H' G' : Hp) (out : Array Value) (e : Nat), Inv X ((a, seqObj "list" out e) :: pins) σ H' s' → Ext G H G' H' → KskOut false kz vs out.toList → P (.done (.ret .none)) s') :
    wpAny (model X.prog X.w) A (ksk_tree a f false) P E s := by
  have ha' : a < s.heap.objs.size := Heap.lt_size ho
  have s1 := Heap.SameBut.update s.heap a (Obj.mapSeq fun _ => (#[] : Array Value))
  obtain ⟨e1, ho1⟩ : ∃ e1, (s.heap.update a (Obj.mapSeq fun _ => (#[] : Array Value))).get? a = some (seqObj "list" #[] e1) := ⟨_, get?_update_seq ho fun _ => #[]⟩
  have hkS : ((s.heap.update a (Obj.mapSeq fun _ => (#[] : Array Value))).push (seqObj "tuple" vs.toArray 0)).objs.size = s.heap.objs.size + 1 := by rw [size_push', Heap.size_update]
  unfold ksk_tree
  refine wpAny_bind (listItems_at ho rfl ?_)
  refine wpAny_bind (listUpdate_at ho rfl ?_ (by rw [List.size_toArray, sizeLine_eq]; lia) (Nat.zero_le _))
  refine wpAny_bind (seqEpoch_at ho1 rfl ?_)
  refine wpAny_bind (wpAny_newTuple ?_ (by show vs.length ≤ _; rw [sizeLine_eq]; lia))
  refine wpAny_bind (wpAny_newList ?_ (Nat.zero_le _))
  refine wpAny_holding ?_
  have k3 : ∀ b o, b ≠ a → s.heap.get? b = some o → (((s.heap.update a (Obj.mapSeq fun _ => (#[] : Array Value))).push (seqObj "tuple" vs.toArray 0)).push (seqObj "list" #[] 0)).get? b = some o := fun b o hb e =>
    Heap.get?_push_of_some _ (Heap.get?_push_of_some _ ((s1.2 b hb).trans e))
  have I3 : Inv X pins σ H { s with heap := ((s.heap.update a (Obj.mapSeq fun _ => (#[] : Array Value))).push (seqObj "tuple" vs.toArray 0)).push (seqObj "list" #[] 0) } := I.turnF (t' := s.toks) ha F k3
  have I4 := I3.pinA (b := a) (o := seqObj "list" #[] e1) (Heap.get?_push_of_some _ (Heap.get?_push_of_some _ ho1)) ha F (fun v z => by cases z)
  generalize hkk : ((s.heap.update a (Obj.mapSeq fun _ => (#[] : Array Value))).push (seqObj "tuple" vs.toArray 0)).objs.size = kS at hkS
  have nek : a ≠ kS := by lia
  have FK : FpS X pins kS := I.fpS (by lia)
  have I5 := I4.pinA (b := kS) (o := seqObj "list" #[] 0) (by rw [← hkk]; exact Heap.get?_push_size _ rfl) (I.hok.fresh (by lia)) (FK.cons nek) (fun v z => by cases z)
  show wpAny _ A (ksk_rest a f false vs.toArray e1 (.ref kS)) P E { s with heap := ((s.heap.update a (Obj.mapSeq fun _ => (#[] : Array Value))).push (seqObj "tuple" vs.toArray 0)).push (seqObj "list" #[] 0) }
  unfold ksk_rest
  refine wpAny_bind (wpAny_rule ?_)
  first
    | rw [List.forIn_toArray]
    | (rw [← Array.forIn_toList]; simp only [List.toList_toArray])
    | rw [← Array.forIn_toList]
  refine wpAny_bind (ksk_fold (fun i s' => ∃ (H' G' : Hp) (kA : Array Value) (e : Nat), Inv X ((kS, seqObj "list" kA e) :: (a, seqObj "list" #[] e1) :: pins) σ H' s' ∧ Ext G H G' H' ∧ IntsAre kA.toList (kz.take i)) vs 0 _
    ⟨H, G, #[], 0, I5, .refl sub, by simpa using IntsAre.nil⟩ (fun j x s' hx hI => ?_) fun s' hI => ?_)
  · obtain ⟨H', G', kA, e, I', x', hk⟩ := hI
    simp only [Nat.zero_add] at hk ⊢
    have hj : j < vs.length := (List.getElem?_eq_some_iff.mp hx).1
    obtain ⟨k, hkj⟩ : ∃ k, kz[j]? = some k := ⟨_, List.getElem?_eq_getElem (by lia)⟩
    have hz : kA.size ≤ vs.length := by
      have h1 := hk.length
      rw [Array.length_toList, List.length_take] at h1
      lia
    refine wpAny_bind (wpAny_attempt (wpAny_mono (turn j x k hx hkj _ s' H' G' I' (fun p hp => List.mem_cons_of_mem _ (List.mem_cons_of_mem _ hp)) x') (fun v s'' he => ?_) fun _ _ hF => hF.elim))
    obtain ⟨t2, H2, G2, rfl, I2, x2⟩ := he
    dsimp only
    have nk := I2.pin (kS, seqObj "list" kA e) (List.mem_append_right _ List.mem_cons_self)
    have s2 := Heap.SameBut.update s''.heap kS (Obj.mapSeq (·.push (.int k t2)))
    obtain ⟨c2, hc2⟩ : ∃ c2, (s''.heap.update kS (Obj.mapSeq (·.push (.int k t2)))).get? kS = some (seqObj "list" (kA.push (.int k t2)) c2) := ⟨_, get?_update_seq nk.1 (·.push (.int k t2))⟩
    have ek : kz.take (j + 1) = kz.take j ++ [k] := by rw [List.take_add_one, hkj]; simp
    have ea : (kA.push (Value.int k t2)).toList = kA.toList ++ [Value.int k t2] := by simp
    refine wpAny_bind (listUpdate_at nk.1 rfl ?_ (by rw [sizeLine_eq]; lia) (Nat.le_trans (Nat.le_of_eq (Array.size_push ..)) (by rw [sizeLine_eq]; lia)))
    have I6 := (I2.pinD.turnF (t' := s''.toks) nk.2.1 (FK.cons nek) (fun b o hb e => (s2.2 b hb).trans e)).pinA hc2 nk.2.1 (FK.cons nek) (fun v z => by cases z)
    exact wpAny_pure ⟨rfl, H2, G2, _, c2, I6, x'.trans x2, by rw [ea, ek]; exact ksk_snoc hk⟩
  · obtain ⟨H', G', kA, e, I', x', hk⟩ := hI
    have hk' : IntsAre kA.toList kz := by
      have e2 : kz.take (0 + vs.length) = kz := by rw [Nat.zero_add, ← hlen]; exact List.take_length
      rw [e2] at hk; exact hk
    have nk := I'.pin (kS, seqObj "list" kA e) (List.mem_append_right _ List.mem_cons_self)
    have na := I'.pin (a, seqObj "list" #[] e1) (List.mem_append_right _ (List.mem_cons_of_mem _ List.mem_cons_self))
    try dsimp only
    refine wpAny_bind (listItems_at nk.1 rfl ?_)
    have hsz : kA.size = vs.length := by
      have h1 := hk'.length
      rw [Array.length_toList] at h1
      lia
    have hzs : (kA.zip vs.toArray).size = vs.length := by rw [Array.size_zip, hsz, List.size_toArray, Nat.min_self]
    have tail : ∀ st : SortSt, (arrOf st).Perm (kA.zip vs.toArray) → SortedTo (arrOf st) (arrOf st).size → failedOf st = none → wpAny (model X.prog X.w) A (ksk_tail a false e1 (.ref kS) st) P E s' := fun st hp hs hf =>
      key_tail I'.pinD.pinD nk.1 na.1 nk.2.1 na.2.1 FK F nek hk' hlen h64 hp hs hf fun s'' out e J ho => h s'' H' G' out e J x' ho
    unfold ksk_end
    try dsimp only
    simp only [Bool.false_eq_true, if_false]
    by_cases h2 : vs.toArray.size < 2
    · rw [if_pos h2, if_pos h2]
      refine wpAny_bind (wpAny_pure ?_)
      rw [StateT.run_pure]
      refine wpAny_bind (wpAny_pure ?_)
      try dsimp only
      refine tail (SortSt.mk' general' (kA.zip vs.toArray) #[] 7 none) (Array.Perm.refl _) (fun i j hij hj => ?_) rfl
      have hj2 : j < (kA.zip vs.toArray).size := hj
      rw [hzs] at hj2
      rw [List.size_toArray] at h2
      have : i = j := by lia
      subst this
      exact Int.le_refl _
    · rw [if_neg h2, if_neg h2]
      rw [List.size_toArray] at h2
      rw [ksk_kind hk' (by rw [hsz]; lia)]
      refine wpAny_bind (wpAny_pure ?_)
      refine wpAny_bind (wpAny_mono (wpS_sortRuns (a₀ := kA.zip vs.toArray) (st := SortSt.mk' oneType' (kA.zip vs.toArray) #[] 7 none)
        (Q := fun _ st' => (arrOf st').Perm (kA.zip vs.toArray) ∧ failedOf st' = none ∧ SortedTo (arrOf st') (kA.zip vs.toArray).size)
        (ksk_intKeys hk') ⟨Array.Perm.refl _, rfl, rfl, rfl⟩ (by rw [hzs]; lia) (by rw [hzs]; exact h64) fun st' a1 a2 a3 => ⟨a1, a2, a3⟩) ?_ fun _ _ e => e)
      rintro ⟨⟨⟩, st'⟩ s2 ⟨rfl, hp, hf, hs⟩
      try dsimp only
      exact tail st' hp (by rw [hp.size_eq]; exact hs) hf
end
theorem keys_get {F:PV→Option PV}:∀ {xs ks:List PV},compF (fun x=>bnd (F x) eltF) xs=some ks→ks.length=xs.length∧∀ (i:Nat) (x:PV),xs[i]?=some x→∃ y,ks[i]?=some y∧F x=some y
 | [],ks,h=>by
  cases (show some []=some ks from h)
  exact ⟨rfl,fun i x e=>by simp at e⟩
 | x::xs,ks,h=>by
  obtain ⟨o,t,e1,e2,rfl⟩:=compF_cons h
  obtain ⟨y,e3,e4⟩:=bnd_eq.mp e1
  obtain ⟨hd,e5⟩:=tst_none (show DD.tst (isDict y) none (some (some y))=some o from e4)
  cases e5
  obtain ⟨l1,l2⟩:=keys_get e2
  refine ⟨by show (y::t).length=_;rw [List.length_cons,l1,List.length_cons],fun i z e=>?_⟩
  cases i with
  | zero=>
   have:x=z:=by simpa using e
   subst this
   exact ⟨y,rfl,e3⟩
  | succ i=>exact l2 i z (by simpa using e)
theorem rpLI {K:PySem.W.Frag} {G:Hp}:∀ ns:List Int,RpL K G (ns.map .int) (ns.map V.int)
 | []=>rfl
 | n::ns=>⟨_,_,rfl,⟨rfl,rfl⟩,rpLI ns⟩
noncomputable def tLam (cf:CF) (K:PySem.W.Frag) (P:Addr) (caps:List Nat) (ia ikey:E):TE:=fun σ H Q=>H P=some (.tbl #[])∧∃ G ρ sq xs ks ns,SR K G H σ ρ∧G P=none∧evE cf (.rng ia) ρ=some sq∧seqOf sq=some xs∧
 compF (fun x=>bnd (evE cf ikey (.val x::caps.map (ρ.getD · .un))) eltF) xs=some ks∧intsOf ks=some ns∧xs.length<64∧∀ ys v G' H',ys.Perm xs→SR K G' H' σ ρ→Rp K G' (.list ys) v→Q v H'
section
variable {X:Cx} {cf:CF} {pins:List (Addr×Obj)} {σ:St} {H:Hp} {s:Shared}
theorem _root_.L2.Inv.track {b:Addr} {u:HO} (I:Inv X pins σ H s) (hn:H b=none) (F:FpS X pins b) (new:ObjOk X.prog X.w (upd H b u) s.heap b u):Inv X pins σ (upd H b u) s:=by
 have ne:∀ c o,H c=some o→c≠b:=fun c o e=>ne_of_none e hn
 refine I.step (h':=s.heap) (g':=s.gens) (d':=s.drawn) (t':=s.toks) (ch:=[b]) (fun c hc=>?_) (fun _ _ _ _ _ e _=>e) (fun _ o _ _ _ e _=>⟨o.slots,e⟩) (fun c o hc _ n=>?_) (fun _ o _ e=>⟨o,e⟩) (fun c xs e=>?_) (fun c o w e=>?_) (fun c ps e=>⟨#[],?_⟩) (fun _ hm=>hm) (fun c w e=>?_) I.bare
 ·cases List.mem_singleton.mp hc
  exact ⟨F.2.2.1,F.1,F.2.2.2.1,F.2.2.2.2⟩
 ·rw [upd_ne (fun z=>hc (by simp [z]))];exact n
 ·rw [upd_ne (ne _ _ e)];exact e
 ·rw [upd_ne (ne _ _ e)];exact e
 ·rw [upd_ne (ne _ _ e),e];simp
 ·by_cases hb:c=b
  ·subst hb
   rw [upd_same] at e
   cases e
   exact new
  ·rw [upd_ne hb] at e
   exact (I.hok c w e).stay (fun _ _ _ q=>q) (fun d q=>by rw [upd_ne (ne _ _ q)];exact q) fun d xs q=>by rw [upd_ne (ne _ _ q)];exact q
theorem pe_rngV {a:Expr} {ia:E} {p pos:Pos} (ha:PE X a (tE cf X.K ia)) (hk:isPeek ia=false) (hs:plainE a=true) (hg:Gl X "range") (hm:X.mg "range"=none):
  PE X (.Call (.Name "range" p) [a] [] pos) fun σ H Q=>∃ G ρ n,SR X.K G H σ ρ∧evE cf ia ρ=some (.int n)∧∀ r G' H',Ext G H G' H'→H' r=none→Q (.ref r) (upd H' r (.rng 0 n)):=by
 intro pins s σ H Q I h
 obtain ⟨G,ρ,n,S,e,k⟩:=h
 refine Call_ (ld_blt I hg hm boot_range (PyProof.Rows.callWith_type1 (thn ((pa_cons ha pa_nil (star_of hs _ _)) pos pins s σ H (fun vs H1=>vs=[.int n]∧∃ G1,Ext G H G1 H1) I ?_) fun us s1 ⟨vs,H1,I1,r1,q1⟩=>?_) (star_of hs _ _) rfl))
 ·refine ⟨G,ρ,.int n,S,e,fun v G1 H1 x1 rr=>?_⟩
  cases (show v=.int n from rr.rp hk)
  exact ⟨rfl,G1,x1⟩
 ·obtain ⟨rfl,G1,x1⟩:=q1
  cases r1 with
  | cons r rr=>
   cases rr
   obtain ⟨t,rfl⟩:=r
   refine call_range_1 ⟨.ref s1.heap.objs.size,_,I1.laid (o:=.rng 0 n) (fun b o e=>Heap.get?_push_of_some _ e) (Nat.le_refl _) ⟨_,_,_,Heap.get?_push_size _ rfl⟩,rfl,k _ G1 H1 x1 (I1.hok.fresh (Nat.le_refl _))⟩
theorem rng_inv {x sq:PV} {xs:List PV} (er:rngI (.int 0) x=some sq) (e2:seqOf sq=some xs):∃ n:Int,x=.int n∧xs=(List.range n.toNat).map (fun k=>PyData.int (k:Nat))∧-1000000≤n∧n≤1000000:=by
 cases x with
 | int n=>
  have er':(if -1000000≤(0:Int)∧(0:Int)≤1000000∧-1000000≤n∧n≤1000000 then some (PyData.list ((List.range (n - 0).toNat).map fun k=>.int (0+(k:Nat)))) else none)=some sq:=er
  by_cases hc:-1000000≤(0:Int)∧(0:Int)≤1000000∧-1000000≤n∧n≤1000000
  ·rw [if_pos hc] at er'
   cases er'
   cases (show some ((List.range (n - 0).toNat).map fun k=>PyData.int (0+(k:Nat)))=some xs from e2)
   refine ⟨n,rfl,?_,hc.2.2.1,hc.2.2.2⟩
   simp
  ·rw [if_neg hc] at er';cases er'
 | _=>simp [rngI] at er
theorem itemsLI {acc:Array Value} {n:Nat} (h:ItemsOf (fun i v=>∃ t,v=.int (0+(i:Int) * 1) t) acc n):IntsAre acc.toList ((List.range n).map fun k=>((k:Nat):Int)):=by
 have h1:=intsAre_ofList acc.toList fun v hv=>by
  obtain ⟨i,hi⟩:=List.getElem?_of_mem hv
  rw [Array.getElem?_toList] at hi
  obtain ⟨t,ht⟩:=h.2 i v hi
  exact ⟨_,t,ht⟩
 have h2:numsOf acc.toList=(List.range n).map fun k=>((k:Nat):Int):=by
  have hl:=h1.length
  rw [Array.length_toList,h.1] at hl
  refine List.ext_getElem? fun i=>?_
  by_cases hi:i<n
  ·have hv:acc[i]?=some (acc[i]'(by rw [h.1];exact hi)):=getElem?_pos _ i (by rw [h.1];exact hi)
   obtain ⟨t,ht⟩:=h.2 i _ hv
   have:=h1.nums
   rw [← this,List.getElem?_map,Array.getElem?_toList,hv,ht,List.getElem?_map,List.getElem?_range hi]
   simp [numOf]
  ·rw [List.getElem?_eq_none (by lia),List.getElem?_eq_none (by simp;lia)]
 rw [h2] at h1
 exact h1
end
structure ST (K:PySem.W.Frag) (G0 H0 G H:Hp) (σ:St) (ρ:Env):Prop where
 sr:SR K G H σ ρ
 ex:Ext G0 H0 G H
 new:∀ (i:Nat) (ps:List PV) (a:Addr),ρ[i]?=some (Sl.own ps)→σ[i]?=some (some (V.ref a))→H0 a=none
theorem ST.ext {K:PySem.W.Frag} {G0 H0 G H G' H':Hp} {σ:St} {ρ:Env} (T:ST K G0 H0 G H σ ρ) (x:Ext G H G' H'):ST K G0 H0 G' H' σ ρ:=⟨T.sr.ext x,T.ex.trans x,T.new⟩
theorem ST.setVal {K:PySem.W.Frag} {G0 H0 G H:Hp} {σ:St} {ρ:Env} (T:ST K G0 H0 G H σ ρ) {i:Nat} {p:PV} {v:V} (r:Rp K G p v):ST K G0 H0 G H (σ.set i (some v)) (ρ.set i (.val p)):=by
 refine ⟨T.sr.setVal r,T.ex,fun j ps a e1 e2=>?_⟩
 rw [List.getElem?_set] at e1
 by_cases hij:i=j
 ·rw [if_pos hij] at e1
  split at e1 <;> cases e1
 ·rw [if_neg hij] at e1
  rw [List.getElem?_set_ne hij] at e2
  exact T.new j ps a e1 e2
theorem ST.setOwn {K:PySem.W.Frag} {G0 H0 G H:Hp} {σ:St} {ρ:Env} (T:ST K G0 H0 G H σ ρ) {i:Nat} {ps:List PV} {vs:List V} {l:Addr} (hl:H l=none) (r:RpL K G ps vs):
  ST K G0 H0 G (L2.upd H l (.lst vs)) (σ.set i (some (.ref l))) (ρ.set i (.own ps)):=by
 have gl:=T.sr.sub.fresh hl
 have h0l:H0 l=none:=by
  cases q:H0 l with
  | none=>rfl
  | some o=>have:=T.ex.hh l o q;rw [hl] at this;cases this
 have x1:Ext G H G (L2.upd H l (.lst vs)):=Ext.own T.sr.sub hl _
 have T1:=T.ext x1
 have lt:∀ (j:Nat) (qs:List PV),ρ[j]?=some (Sl.own qs)→σ[j]?≠some (some (V.ref l)):=fun j qs e z=>by
  obtain ⟨o,eo,a,ws,rfl,h1,_⟩:=T.sr.at e
  rw [eo] at z;cases z
  rw [hl] at h1;cases h1
 refine ⟨⟨by simpa using T.sr.len,x1.gh,fun j sl o e1 e2=>?_,fun j k sj sk a hjk e1 e2 o1 o2 e3 e4=>?_⟩,T1.ex,fun j qs a e1 e2=>?_⟩
 ·rw [List.getElem?_set] at e1 e2
  by_cases hij:i=j
  ·rw [if_pos hij] at e1 e2
   split at e1
   ·rename_i hlt
    rw [if_pos (by rw [T.sr.len];exact hlt)] at e2
    cases e1;cases e2
    exact ⟨l,vs,rfl,upd_same,gl,r⟩
   ·cases e1
  ·rw [if_neg hij] at e1 e2
   exact T1.sr.get j sl o e1 e2
 ·rw [List.getElem?_set] at e1 e2 e3 e4
  by_cases hij:i=j
  ·have hik:i≠k:=fun z=>hjk (hij.symm.trans z)
   rw [if_neg hik] at e2 e4
   rw [if_pos hij] at e3
   split at e3
   ·cases e3
    cases sk with
    | own qs=>exact lt k qs e2 e4
    | un=>cases o2
    | val p=>cases o2
   ·cases e3
  ·rw [if_neg hij] at e1 e3
   by_cases hik:i=k
   ·rw [if_pos hik] at e4
    split at e4
    ·cases e4
     cases sj with
     | own qs=>exact lt j qs e1 e3
     | un=>cases o1
     | val p=>cases o1
    ·cases e4
   ·rw [if_neg hik] at e2 e4
    exact T.sr.apart j k sj sk a hjk e1 e2 o1 o2 e3 e4
 ·rw [List.getElem?_set] at e1 e2
  by_cases hij:i=j
  ·rw [if_pos hij] at e2
   split at e2
   ·cases e2;exact h0l
   ·cases e2
  ·rw [if_neg hij] at e1 e2
   exact T.new j qs a e1 e2
theorem ST.grow {K:PySem.W.Frag} {G0 H0 G H:Hp} {σ:St} {ρ:Env} (T:ST K G0 H0 G H σ ρ) {i:Nat} {ps qs:List PV} {vs ws:List V} {l:Addr} (ei:ρ[i]?=some (Sl.own ps)) (es:σ[i]?=some (some (V.ref l))) (hl:H l=some (.lst vs))
  (gl:G l=none) (r:RpL K G qs ws):ST K G0 H0 G (L2.upd H l (.lst ws)) σ (ρ.set i (.own qs)):=by
 have hi:i<ρ.length:=(List.getElem?_eq_some_iff.mp ei).1
 have old:∀ (j:Nat) (sl:Sl),(ρ.set i (.own qs))[j]?=some sl→(i=j∧sl=.own qs)∨(i≠j∧ρ[j]?=some sl):=fun j sl e=>by
  rw [List.getElem?_set] at e
  by_cases hij:i=j
  ·rw [if_pos hij,if_pos hi] at e
   cases e
   exact .inl ⟨hij,rfl⟩
  ·rw [if_neg hij] at e;exact .inr ⟨hij,e⟩
 refine ⟨⟨by simpa using T.sr.len,fun b u q=>by rw [upd_ne (ne_of_none q gl)];exact T.sr.sub b u q,fun j sl o e1 e2=>?_,fun j k sj sk a hjk e1 e2 o1 o2 e3 e4=>?_⟩,T.ex.mut (T.new i ps l ei es) gl _,fun j qs' a e1 e2=>?_⟩
 ·rcases old j sl e1 with ⟨rfl,rfl⟩ | ⟨hij,e1'⟩
  ·rw [es] at e2
   cases e2
   exact ⟨l,ws,rfl,upd_same,gl,r⟩
  ·have h:=T.sr.get j sl o e1' e2
   cases sl with
   | un=>exact h
   | val p=>exact h
   | own ts=>
    obtain ⟨b,us,rfl,h1,h2,rr⟩:=h
    refine ⟨b,us,rfl,?_,h2,rr⟩
    rw [upd_ne]
    ·exact h1
    ·rintro rfl
     exact T.sr.apart i j (.own ps) (.own ts) b hij ei e1' rfl rfl es e2
 ·have back:∀ (m:Nat) (sl:Sl),(ρ.set i (.own qs))[m]?=some sl→isOwn sl=true→∃ sl',ρ[m]?=some sl'∧isOwn sl'=true:=fun m sl e h=>by
   rcases old m sl e with ⟨rfl,rfl⟩ | ⟨_,e'⟩
   ·exact ⟨_,ei,rfl⟩
   ·exact ⟨sl,e',h⟩
  obtain ⟨s1,f1,g1⟩:=back j sj e1 o1
  obtain ⟨s2,f2,g2⟩:=back k sk e2 o2
  exact T.sr.apart j k s1 s2 a hjk f1 f2 g1 g2 e3 e4
 ·rcases old j _ e1 with ⟨rfl,_⟩ | ⟨_,e1'⟩
  ·exact T.new i ps a ei e2
  ·exact T.new j qs' a e1' e2
theorem ST.frz {K:PySem.W.Frag} {G0 H0 G H:Hp} {σ:St} {ρ:Env} (T:ST K G0 H0 G H σ ρ) {i:Nat} {ps:List PV} (ei:ρ[i]?=some (Sl.own ps)):∃ G',ST K G0 H0 G' H σ (ρ.set i (.val (.list ps))):=by
 obtain ⟨o,es,l,vs,rfl,hl,gl,r⟩:=T.sr.at ei
 have hi:i<ρ.length:=(List.getElem?_eq_some_iff.mp ei).1
 have sg:Sub G (L2.upd G l (.lst vs)):=.new gl _
 have old:∀ (j:Nat) (sl:Sl),(ρ.set i (.val (.list ps)))[j]?=some sl→(i=j∧sl=.val (.list ps))∨(i≠j∧ρ[j]?=some sl):=fun j sl e=>by
  rw [List.getElem?_set] at e
  by_cases hij:i=j
  ·rw [if_pos hij,if_pos hi] at e
   cases e
   exact .inl ⟨hij,rfl⟩
  ·rw [if_neg hij] at e;exact .inr ⟨hij,e⟩
 have x1:=T.ex.frz (T.new i ps l ei es) gl hl
 refine ⟨L2.upd G l (.lst vs),⟨by simpa using T.sr.len,x1.gh,fun j sl o e1 e2=>?_,fun j k sj sk a hjk e1 e2 o1 o2 e3 e4=>?_⟩,x1,fun j qs' a e1 e2=>?_⟩
 ·rcases old j sl e1 with ⟨rfl,rfl⟩ | ⟨hij,e1'⟩
  ·rw [es] at e2
   cases e2
   exact ⟨_,rfl,l,vs,rfl,SqL.of upd_same,r.mono sg⟩
  ·have h:=T.sr.get j sl o e1' e2
   cases sl with
   | un=>exact h
   | val p=>obtain ⟨v,e,rr⟩:=h;exact ⟨v,e,rr.mono sg⟩
   | own ts=>
    obtain ⟨b,us,rfl,h1,h2,rr⟩:=h
    refine ⟨b,us,rfl,h1,?_,rr.mono sg⟩
    rw [upd_ne]
    ·exact h2
    ·rintro rfl
     exact T.sr.apart i j (.own ps) (.own ts) b hij ei e1' rfl rfl es e2
 ·have back:∀ (m:Nat) (sl:Sl),(ρ.set i (.val (.list ps)))[m]?=some sl→isOwn sl=true→ρ[m]?=some sl:=fun m sl e h=>by
   rcases old m sl e with ⟨rfl,rfl⟩ | ⟨_,e'⟩
   ·cases h
   ·exact e'
  exact T.sr.apart j k sj sk a hjk (back j sj e1 o1) (back k sk e2 o2) o1 o2 e3 e4
 ·rcases old j _ e1 with ⟨rfl,z⟩ | ⟨_,e1'⟩
  ·cases z
  ·exact T.new j qs' a e1' e2
noncomputable def Post (K:PySem.W.Frag) (D:Ends) (G0 H0:Hp):Out→Prop
 | .nx ρ=>∀ σ G H,ST K G0 H0 G H σ ρ→D.nx σ H
 | .bk ρ=>∀ σ G H,ST K G0 H0 G H σ ρ→D.bk σ H
 | .ct ρ=>∀ σ G H,ST K G0 H0 G H σ ρ→D.ct σ H
 | .rt p=>∀ v G H,Ext G0 H0 G H→Rp K G p v→D.rt v H
noncomputable def tS (cf:CF) (K:PySem.W.Frag) (is:DD.S):TS:=fun D σ H=>∃ G0 H0 G ρ o,ST K G0 H0 G H σ ρ∧evS cf is ρ=some o∧Post K D G0 H0 o
section
variable {X:Cx} {cf:CF}
theorem _root_.L2.PS.weak {st:Stmt} {t t':TS} (h:PS X st t) (w:∀ D σ H,t' D σ H→t D σ H):PS X st t':=fun pins s σ H D I q=>h pins s σ H D I (w D σ H q)
theorem _root_.L2.PSs.weak {st:List Stmt} {t t':TS} (h:PSs X st t) (w:∀ D σ H,t' D σ H→t D σ H):PSs X st t':=fun pins s σ H D I q=>h pins s σ H D I (w D σ H q)
theorem ss_nil:PSs X [] (tS cf X.K .nx):=pss_nil.weak fun D σ H ⟨G0,H0,G,ρ,o,T,e,k⟩=>by
 cases (show some (Out.nx ρ)=some o from e)
 exact k σ G H T
theorem seqO_inv {x:Option Out} {f:Env→Option Out} {o:Out} (h:seqO x f=some o):(∃ ρ,x=some (.nx ρ)∧f ρ=some o)∨(x=some o∧∀ ρ,o≠.nx ρ):=by
 cases x with
 | none=>cases h
 | some a=>
  cases a with
  | nx ρ=>exact .inl ⟨ρ,rfl,h⟩
  | rt p=>cases h;exact .inr ⟨rfl,fun _ z=>nomatch z⟩
  | bk p=>cases h;exact .inr ⟨rfl,fun _ z=>nomatch z⟩
  | ct p=>cases h;exact .inr ⟨rfl,fun _ z=>nomatch z⟩
theorem ss_cons {a b:DD.S} {st:Stmt} {rest:List Stmt} (ha:PS X st (tS cf X.K a)) (hb:PSs X rest (tS cf X.K b)):PSs X (st::rest) (tS cf X.K (.seq a b)):=
 (pss_cons ha hb).weak fun D σ H ⟨G0,H0,G,ρ,o,T,e,k⟩=>by
  rcases seqO_inv (show seqO (evS cf a ρ) (fun ρ1=>evS cf b ρ1)=some o from e) with ⟨ρ1,e1,e2⟩ | ⟨e1,hne⟩
  ·exact ⟨G0,H0,G,ρ,.nx ρ1,T,e1,fun σ' G' H' T'=>⟨G0,H0,G',ρ1,o,T',e2,k⟩⟩
  ·refine ⟨G0,H0,G,ρ,o,T,e1,?_⟩
   cases o with
   | nx ρ'=>exact absurd rfl (hne ρ')
   | rt p=>exact k
   | bk ρ'=>exact k
   | ct ρ'=>exact k
theorem ss_one {a:DD.S} {st:Stmt} (ha:PS X st (tS cf X.K a)):PSs X [st] (tS cf X.K a):=pss_one ha
theorem ss_frz {i:Nat} {b:DD.S} {sts:List Stmt} (hb:PSs X sts (tS cf X.K b)):PSs X sts (tS cf X.K (.seq (.frz i) b)):=
 hb.weak fun D σ H ⟨G0,H0,G,ρ,o,T,e,k⟩=>by
  rcases seqO_inv (show seqO (bnd ρ[i]? (frzF i ρ)) (fun ρ1=>evS cf b ρ1)=some o from e) with ⟨ρ1,e1,e2⟩ | ⟨e1,hne⟩
  ·obtain ⟨sl,e3,e4⟩:=bnd_eq.mp e1
   cases sl with
   | own ps=>
    cases (show some (Out.nx (ρ.set i (.val (.list ps))))=some (.nx ρ1) from e4)
    obtain ⟨G',T'⟩:=T.frz e3
    exact ⟨G0,H0,G',_,o,T',e2,k⟩
   | un=>cases (show some (Out.nx ρ)=some (.nx ρ1) from e4);exact ⟨G0,H0,G,ρ,o,T,e2,k⟩
   | val p=>cases (show some (Out.nx ρ)=some (.nx ρ1) from e4);exact ⟨G0,H0,G,ρ,o,T,e2,k⟩
  ·obtain ⟨sl,e3,e4⟩:=bnd_eq.mp e1
   cases sl with
   | own ps=>cases (show some (Out.nx (ρ.set i (.val (.list ps))))=some o from e4);exact absurd rfl (hne _)
   | un=>cases (show some (Out.nx ρ)=some o from e4);exact absurd rfl (hne _)
   | val p=>cases (show some (Out.nx ρ)=some o from e4);exact absurd rfl (hne _)
theorem asg_w {i:Nat} {ie:E} (hk:isPeek ie=false):∀ D σ H,tS cf X.K (.set i ie) D σ H→tAsg (tE cf X.K ie) (gName i) D σ H:=fun D σ H ⟨G0,H0,G,ρ,o,T,e,k⟩=>by
 obtain ⟨p,e1,e2⟩:=bnd_eq.mp (show bnd (evE cf ie ρ) (fun p=>some (Out.nx (ρ.set i (.val p))))=some o from e)
 cases e2
 exact ⟨G,ρ,p,T.sr,e1,fun v G' H' x r=>k _ G' H' ((T.ext x).setVal (r.rp hk))⟩
theorem st_set {i:Nat} {x:Str} {e:Expr} {ie:E} {pos pos':Pos} (hN:X.N.Nodup) (hi:X.N[i]?=some x) (hx:Loc X.env.scope x) (hf:X.fn x=true∨X.env.scope.names.lookup x=some .local) (he:PE X e (tE cf X.K ie)) (hk:isPeek ie=false)
  (hs:swapsWith e (some (.Name x pos')) pos.line X.env=pure false):PS X (.Assign [.Name x pos'] e pos) (tS cf X.K (.set i ie)):=(ps_set hN hi hx he hs hf).weak (asg_w hk)
theorem st_own {i:Nat} {x:Str} {es:List Expr} {a:E} {n:Nat} {pos pos' lpos:Pos} (hN:X.N.Nodup) (hi:X.N[i]?=some x) (hx:Loc X.env.scope x) (hf:X.fn x=true∨X.env.scope.names.lookup x=some .local) (h:PA X es (tA cf X.K a)) (hn:argN a=some n) (hs:n≤1000):
  PS X (.Assign [.Name x pos'] (.List es lpos) pos) (tS cf X.K (.own i (.lst a))):=by
 refine (ps_set hN hi hx (pe_lst h) rfl hf).weak fun D σ H ⟨G0,H0,G,ρ,o,T,e,k⟩=>?_
 obtain ⟨p,e1,e2⟩:=bnd_eq.mp (show bnd (evE cf (.lst a) ρ) (ownF i ρ)=some o from e)
 obtain ⟨r,e3,e4⟩:=bnd_eq.mp (show bnd (evE cf a ρ) lstF=some p from e1)
 obtain ⟨ps,rfl,hl⟩:=args_len a n ρ r hn e3
 obtain ⟨hd,e5⟩:=tst_none (show DD.tst (anyD ps) none (some (PyData.list ps))=some p from e4)
 cases e5
 cases (show some (Out.nx (ρ.set i (.own ps)))=some o from e2)
 refine ⟨G,ρ,ps,T.sr,e3,fun vs G1 H1 x1 r1=>⟨?_,fun l hf=>?_⟩⟩
 ·have:=r1.length;rw [line_eq];lia
 ·exact k _ G1 _ ((T.ext x1).setOwn hf (r1.list hd))
theorem st_ret {e:Expr} {ie:E} {pos:Pos} (he:PE X e (tE cf X.K ie)) (hk:isPeek ie=false):PS X (.Return (some e) pos) (tS cf X.K (.ret ie)):=
 (ps_ret he).weak fun D σ H ⟨G0,H0,G,ρ,o,T,e,k⟩=>by
  obtain ⟨p,e1,e2⟩:=bnd_eq.mp (show bnd (evE cf ie ρ) (fun p=>some (Out.rt p))=some o from e)
  cases e2
  exact ⟨G,ρ,p,T.sr,e1,fun v G' H' x r=>k v G' H' (T.ex.trans x) (r.rp hk)⟩
theorem st_ife {c:Expr} {a b:List Stmt} {ic:E} {ia ib:DD.S} {pos:Pos} (hc:PT X c (tT cf X.K ic)) (ha:PSs X a (tS cf X.K ia)) (hb:PSs X b (tS cf X.K ib)):PS X (.If c a b pos) (tS cf X.K (.ife ic ia ib)):=
 (ps_if hc ha hb).weak fun D σ H ⟨G0,H0,G,ρ,o,T,e,k⟩=>by
  obtain ⟨x,e1,e2⟩:=bnd_eq.mp (show bnd (evE cf ic ρ) (fun x=>bnd (truthF x) fun t=>DD.tst t (evS cf ia ρ) (evS cf ib ρ))=some o from e)
  obtain ⟨t,e3,e4⟩:=bnd_eq.mp e2
  refine ⟨G,ρ,x,t,T.sr,e1,e3,fun G' H' xx=>?_⟩
  cases t with
  | true=>exact iteT ⟨G0,H0,G',ρ,o,T.ext xx,e4,k⟩
  | false=>exact iteF ⟨G0,H0,G',ρ,o,T.ext xx,e4,k⟩
theorem st_pass {pos:Pos}:PS X (.Pass pos) (tS cf X.K .nx):=ps_pass.weak fun D σ H ⟨G0,H0,G,ρ,o,T,e,k⟩=>by
 cases (show some (Out.nx ρ)=some o from e)
 exact k σ G H T
end
noncomputable def gMany:List Nat→TGs
 | []=>gNil
 | i::is=>gCons (gName i) (gMany is)
noncomputable def gS (K:PySem.W.Frag):Tg→TG
 | .one i=>gName i
 | .many is=>gTup K is.length (gMany is)
theorem many_ok {K:PySem.W.Frag} {G0 H0 G H:Hp} {Q:St→Hp→Prop}:∀ (is:List Nat) (ps:List PV) (vs:List V) (σ:St) (ρ ρ':Env),ST K G0 H0 G H σ ρ→RpL K G ps vs→setMany is ps ρ=some ρ'→(∀ σ',ST K G0 H0 G H σ' ρ'→Q σ' H)→gMany is vs σ H Q
 | [],[],_,σ,ρ,ρ',T,r,e,k=>by
  cases (show _=[] from r)
  cases (show some ρ=some ρ' from e)
  exact ⟨rfl,k σ T⟩
 | i::is,p::ps,_,σ,ρ,ρ',T,r,e,k=>by
  obtain ⟨v,w,rfl,⟨_,r1⟩,r2⟩:=(show ∃ v r,_=v::r∧(isDict p=false∧Rp K G p v)∧RpL K G ps r from r)
  exact ⟨v,w,rfl,many_ok is ps w _ _ ρ' (T.setVal r1) r2 e k⟩
 | [],_::_,_,_,_,_,_,_,e,_=>by cases e
 | _::_,[],_,_,_,_,_,_,e,_=>by cases e
theorem setMany_len:∀ (is:List Nat) (ps:List PV) (ρ ρ':Env),setMany is ps ρ=some ρ'→is.length=ps.length
 | [],[],_,_,_=>rfl
 | _::is,_::ps,_,ρ',e=>by simp [setMany_len is ps _ ρ' e]
 | [],_::_,_,_,e=>by cases e
 | _::_,[],_,_,e=>by cases e
theorem bindS_ok {K:PySem.W.Frag} {G0 H0 G H:Hp} {Q:St→Hp→Prop} {t:Tg} {p:PV} {v:V} {σ:St} {ρ ρ':Env} (T:ST K G0 H0 G H σ ρ) (r:Rp K G p v) (e:bindS t p ρ=some ρ') (k:∀ σ',ST K G0 H0 G H σ' ρ'→Q σ' H):gS K t v σ H Q:=by
 cases t with
 | one i=>
  cases (show some (ρ.set i (.val p))=some ρ' from e)
  exact k _ (T.setVal r)
 | many is=>
  cases p with
  | tuple xs=>
   obtain ⟨a,vs,rfl,q,rr⟩:=(show ∃ a vs,v=V.ref a∧SqT K G a vs∧RpL K G xs vs from r)
   have hl:=setMany_len is xs ρ ρ' e
   exact ⟨a,vs,rfl,T.sr.sub.sqT q,by rw [← rr.length];exact hl.symm,many_ok is xs vs σ ρ ρ' T rr e k⟩
  | _=>cases (show none=some ρ' from e)
noncomputable def midH (G H0 H:Hp):Hp:=fun a=>if (G a).isSome||(H0 a).isSome then H a else none
theorem midH_some {G H0 H:Hp} {a:Addr} {o:HO} (h:midH G H0 H a=some o):H a=some o∧((G a).isSome=true∨(H0 a).isSome=true):=by
 unfold midH at h
 split at h
 ·rename_i q
  exact ⟨h,by simpa using q⟩
 ·cases h
theorem midH_of {G H0 H:Hp} {a:Addr} (h:(G a).isSome=true∨(H0 a).isSome=true):midH G H0 H a=H a:=by
 unfold midH
 rw [if_pos (by simpa using h)]
theorem ST.mid {K:PySem.W.Frag} {G0 H0 G H:Hp} {σ:St} {ρ:Env} (T:ST K G0 H0 G H σ ρ):ST K G (midH G H0 H) G H σ ρ:=by
 refine ⟨T.sr,⟨fun a o h=>(midH_some h).1,.refl _,T.sr.sub,fun _ _ _=>rfl⟩,fun i ps a e1 e2=>?_⟩
 obtain ⟨o,eo,b,vs,rfl,h1,h2,_⟩:=T.sr.at e1
 rw [eo] at e2
 have eb:b=a:=by injection e2 with e2;injection e2 with e2;injection e2
 subst eb
 have h3:=T.new i ps b e1 eo
 unfold midH
 rw [h2,h3];rfl
theorem ST.back {K:PySem.W.Frag} {G0 H0 G H G2 H2:Hp} {σ σ2:St} {ρ ρ2:Env} (T:ST K G0 H0 G H σ ρ) (T2:ST K G (midH G H0 H) G2 H2 σ2 ρ2):ST K G0 H0 G2 H2 σ2 ρ2∧Sub G G2:=by
 have inM:∀ a o,H0 a=some o→midH G H0 H a=some o:=fun a o h=>by rw [midH_of (.inr (by rw [h];rfl))];exact T.ex.hh a o h
 refine ⟨⟨T2.sr,⟨fun a o h=>T2.ex.hh a o (inM a o h),T.ex.gg.trans T2.ex.gg,T2.ex.gh,fun a o h=>(T2.ex.old a o (inM a o h)).trans (T.ex.old a o h)⟩,fun i ps a e1 e2=>?_⟩,T2.ex.gg⟩
 have:=T2.new i ps a e1 e2
 cases q:H0 a with
 | none=>rfl
 | some o=>rw [inM a o q] at this;cases this
theorem Ext.back {K:PySem.W.Frag} {G0 H0 G H G2 H2:Hp} {σ:St} {ρ:Env} (T:ST K G0 H0 G H σ ρ) (x:Ext G (midH G H0 H) G2 H2):Ext G0 H0 G2 H2:=by
 have inM:∀ a o,H0 a=some o→midH G H0 H a=some o:=fun a o h=>by rw [midH_of (.inr (by rw [h];rfl))];exact T.ex.hh a o h
 exact ⟨fun a o h=>x.hh a o (inM a o h),T.ex.gg.trans x.gg,x.gh,fun a o h=>(x.old a o (inM a o h)).trans (T.ex.old a o h)⟩
section
variable {X:Cx} {cf:CF}
theorem turnO_inv {x:Option Out} {f:Env→Option Out} {o:Out} (h:turnO x f=some o):
  (∃ ρ,(x=some (.nx ρ)∨x=some (.ct ρ))∧f ρ=some o)∨(∃ ρ,x=some (.bk ρ)∧o=.nx ρ)∨(∃ p,x=some (.rt p)∧o=.rt p):=by
 cases x with
 | none=>cases h
 | some a=>
  cases a with
  | nx ρ=>exact .inl ⟨ρ,.inl rfl,h⟩
  | ct ρ=>exact .inl ⟨ρ,.inr rfl,h⟩
  | bk ρ=>cases h;exact .inr (.inl ⟨ρ,rfl,rfl⟩)
  | rt p=>cases h;exact .inr (.inr ⟨p,rfl,rfl⟩)
theorem st_loop {t:Tg} {iit:E} {ib:DD.S} {tg iter:Expr} {body:List Stmt} {pos:Pos} (hxe:X.xe=fun _ _=>False) (hc:X.calm=true) (hit:PI X tg iter (tI cf X.K iit)) (hg:PG X tg (gS X.K t)) (hb:PSs X body (tS cf X.K ib))
  (hfs:∀ x,foldedSetIterable iter X.env x=pure x):PS X (.For tg iter body [] pos) (tS cf X.K (.loop t iit ib)):=by
 have hp:PassesOwn (model X.prog X.w) X.A X.env X.xe:=by rw [hxe];exact PassesOwn.never
 refine (ps_for hp hc hit hg hb hfs).weak fun D σ H ⟨G0,H0,G,ρ,o,T,e,k⟩=>?_
 obtain ⟨sq,e1,e⟩:=bnd_eq.mp (show bnd (evE cf iit ρ) (fun s=>bnd (seqOf s) fun xs=>loopF t (evS cf ib) xs ρ)=some o from e)
 obtain ⟨xs,e2,e3⟩:=bnd_eq.mp e
 refine ⟨G,ρ,sq,xs,T.sr,e1,e2,fun J G1 H1 x1 wk=>?_⟩
 refine ⟨fun i m σ' H'=>m=xs.length - i∧i≤xs.length∧∃ G' ρ',ST X.K G0 H0 G' H' σ' ρ'∧Sub G1 G'∧loopF t (evS cf ib) (xs.drop i) ρ'=some o,⟨xs.length,by simp,Nat.zero_le _,G1,ρ,T.ext x1,.refl _,by simpa using e3⟩,?_⟩
 rintro i m σ' H' ⟨rfl,hi,G',ρ',T',sg,el⟩
 by_cases hlt:i<xs.length
 ·have hx:xs.drop i=xs[i]::xs.drop (i+1):=List.drop_eq_getElem_cons hlt
  rw [hx] at el
  unfold loopF at el
  obtain ⟨ρ1,eb,et⟩:=bnd_eq.mp el
  refine .inr ⟨wk.go i H' (sg.trans T'.sr.sub) hlt,fun σ2 H2=>i+1≤xs.length∧∃ G2 ρ2,ST X.K G0 H0 G2 H2 σ2 ρ2∧Sub G1 G2∧loopF t (evS cf ib) (xs.drop (i+1)) ρ2=some o,?_,fun x H2 y=>?_⟩
  ·rintro σ2 H2 ⟨h1,h2⟩
   exact ⟨xs.length - (i+1),by lia,rfl,h1,h2⟩
  ·obtain ⟨G3,p,x3,ep,rp⟩:=wk.step sg T'.sr.sub hlt y
   have ep':xs[i]=p:=by rw [List.getElem?_eq_getElem hlt] at ep;exact Option.some.inj ep
   subst ep'
   
   replace T':=T'.ext x3
   replace sg:=sg.trans x3.gg
   refine bindS_ok T' rp eb fun σ3 T3=>?_
   have go:∀ {ρ2:Env},loopF t (evS cf ib) (xs.drop (i+1)) ρ2=some o→∀ σ4 G4 H4,ST X.K G3 (midH G3 H0 H2) G4 H4 σ4 ρ2→i+1≤xs.length∧∃ G2 ρ2,ST X.K G0 H0 G2 H4 σ4 ρ2∧Sub G1 G2∧loopF t (evS cf ib) (xs.drop (i+1)) ρ2=some o:=fun {ρ2} e σ4 G4 H4 T4=>by
    obtain ⟨T5,s5⟩:=T3.back T4
    exact ⟨hlt,G4,ρ2,T5,sg.trans s5,e⟩
   rcases turnO_inv et with ⟨ρ2,e4 | e4,e5⟩ | ⟨ρ2,e4,rfl⟩ | ⟨p,e4,rfl⟩
   ·exact ⟨G3,midH G3 H0 H2,G3,ρ1,_,T3.mid,e4,go e5⟩
   ·exact ⟨G3,midH G3 H0 H2,G3,ρ1,_,T3.mid,e4,go e5⟩
   ·exact ⟨G3,midH G3 H0 H2,G3,ρ1,_,T3.mid,e4,fun σ4 G4 H4 T4=>k σ4 G4 H4 (T3.back T4).1⟩
   ·exact ⟨G3,midH G3 H0 H2,G3,ρ1,_,T3.mid,e4,fun v G4 H4 x4 r4=>k v G4 H4 (Ext.back T3 x4) r4⟩
 ·have hie:i=xs.length:=by lia
  subst hie
  rw [List.drop_length] at el
  cases (show some (Out.nx ρ')=some o from el)
  exact .inl ⟨wk.stop _ H' (sg.trans T'.sr.sub) (Nat.le_refl _),k σ' G' H' T'⟩
theorem st_app {i:Nat} {x:Str} {e:Expr} {ie:E} {pos apos cpos npos:Pos} (hi:X.N[i]?=some x) (hv:Vis X.env.scope x) (hd:(x==("__debug__":Str))=false) (hcd:(x==("__classdict__":Str))=false)
  (he:PE X e (tE cf X.K ie)) (hk:isPeek ie=false) (hs:plainE e=true) (hline:(apos.endLine==cpos.line)=true):
  PS X (.Expr (.Call (.Attribute (.Name x npos) "append" apos) [e] [] cpos) pos) (tS cf X.K (.app i ie)):=by
 have hst:=star_of hs [] X.env
 have hfew:((backTo cpos (starEach [e] X.env)).all (fun x=>!x.1)&&(backToKw cpos (keywordEach [] X.env)).all (fun x=>x.1.isSome)
   && decide ([e].length+([]:List Keyword).length+(if ([]:List Keyword).isEmpty then 0 else 1)<30))=true:=by
  rw [hst];rfl
 refine (ps_expr (pe_bm (X:=X) (o:=.Name x npos) PySem.F.plainAttrs_list PySem.F.slot_list_append PySem.F.type_list_append mt_append (pe_var hi hv hd hcd) (pa_cons he pa_nil hst) rfl hfew hline hst rfl) rfl).weak fun D σ H ⟨G0,H0,G,ρ,o,T,e,k⟩=>?_
 obtain ⟨p,e1,e2⟩:=bnd_eq.mp (show bnd (evE cf ie ρ) (fun p=>bnd ρ[i]? (appF i ρ p))=some o from e)
 obtain ⟨sl,e3,e4⟩:=bnd_eq.mp e2
 cases sl with
 | own ps=>
  have e4':(if ps.length<1000000∧isDict p=false then some (Out.nx (ρ.set i (.own (ps++[p])))) else none)=some o:=e4
  by_cases hl:ps.length<1000000∧isDict p=false
  ·rw [if_pos hl] at e4'
   cases e4'
   obtain ⟨o',eo,l,vs,rfl,h1,h2,r⟩:=T.sr.at e3
   refine ⟨.ref l,eo,.inl ⟨rfl,vs,SqL.of h1⟩,G,ρ,p,T.sr,e1,fun v G1 H1 x1 r1=>?_⟩
   have h1':=x1.hh _ _ h1
   have g1':G1 l=none:=(x1.old _ _ h1).trans h2
   refine ⟨l,vs,v,rfl,rfl,h1',by have:=r.length;rw [line_eq];lia,?_⟩
   exact k _ G1 _ ((T.ext x1).grow e3 eo h1' g1' ((r.mono x1.gg).append (.one hl.2 (r1.rp hk))))
  ·rw [if_neg hl] at e4';cases e4'
 | un=>cases (show none=some o from e4)
 | val q=>cases (show none=some o from e4)
end
noncomputable def ixE:Expr→Bool
 | .Slice ..=>false
 | _=>true
theorem plainIx {b:Expr} (h:ixE b=true):PlainIx b:=by
 intro o i
 cases b <;> first | rfl | exact absurd (show false=true from h) Bool.false_ne_true
section
variable {X:Cx} {cf:CF}
theorem snd_ix {ia ib:E} {a b:Expr} {pos:Pos} (hu:X.A.units+190<cLine) (ha:PE X a (tE cf X.K ia)) (hb:PE X b (tE cf X.K ib)) (hs:ixE b=true):Snd X cf (.op2 .ix ia ib) (.Subscript a b pos):=
 .plain ((pe_ix (s_ix hu) ha hb (plainIx hs)).weak op2_w) (fun _=>rfl)
noncomputable def tP (cf:CF) (K:PySem.W.Frag) (ie:E):TO:=fun σ H Q=>∃ G ρ p o,SR K G H σ ρ∧evE cf ie ρ=some p∧partF p=some o∧∀ G' H',Ext G H G' H'→Q o H'
theorem part_none:PO X none (tP cf X.K (.con .none)):=fun pins s σ H Q I ⟨G,ρ,p,o,S,e1,e2,k⟩=>by
 cases (show some PyData.none=some p from e1)
 cases (show some none=some o from e2)
 exact po_none pins s σ H Q I (k G H (.refl S.sub))
theorem part_some {e:Expr} {ie:E} (h:PE X e (tE cf X.K ie)) (hk:isPeek ie=false):PO X (some e) (tP cf X.K ie):=fun pins s σ H Q I ⟨G,ρ,p,o,S,e1,e2,k⟩=>by
 have w:=h pins s σ H (fun v H1=>∃ G1,Ext G H G1 H1∧Rp X.K G1 p v) I ⟨G,ρ,p,S,e1,fun v G' H' x r=>⟨G',x,r.rp hk⟩⟩
 refine thn w fun u s1 ⟨v,H1,I1,rv,G1,x1,r1⟩=>?_
 cases p with
 | int i=>
  cases (show some (some i)=some o from e2)
  cases (show v=.int i from r1)
  obtain ⟨t,rfl⟩:=rv
  exact ⟨some i,H1,I1,.int i t,k G1 H1 x1⟩
 | none=>
  cases (show some none=some o from e2)
  cases (show v=.non from r1)
  cases (show u=Value.none from rv)
  exact ⟨none,H1,I1,.none,k G1 H1 x1⟩
 | _=>cases (show none=some o from e2)
theorem snd_sl {ia il ih:E} {a:Expr} {lo hi:Option Expr} {pos p2:Pos} (ha:PE X a (tE cf X.K ia)) (hl:PO X lo (tP cf X.K il)) (hh:PO X hi (tP cf X.K ih)):Snd X cf (.sl ia il ih) (.Subscript a (.Slice lo hi none p2) pos):=by
 refine .plain ((pe_slice s_sl ha hl hh).weak fun σ H Q ⟨G,ρ,p,S,e,k⟩=>?_) (fun _=>rfl)
 obtain ⟨x,e1,e⟩:=bnd_eq.mp (show bnd (evE cf ia ρ) (fun x=>bnd (evE cf il ρ) fun l=>bnd (evE cf ih ρ) fun h=>slF x l h)=some p from e)
 obtain ⟨l,e2,e⟩:=bnd_eq.mp e
 obtain ⟨h,e3,e⟩:=bnd_eq.mp e
 obtain ⟨ol,e4,e⟩:=bnd_eq.mp (show bnd (partF l) (fun l=>bnd (partF h) fun h=>cutF l h x)=some p from e)
 obtain ⟨oh,e5,e6⟩:=bnd_eq.mp e
 exact ⟨G,ρ,x,S,e1,fun v G1 H1 x1 r1=>⟨G1,ρ,l,ol,S.ext x1,e2,e4,fun G2 H2 x2=>⟨G2,ρ,h,oh,(S.ext x1).ext x2,e3,e5,fun G3 H3 x3=>
  ⟨G3,x,p,x3.gh,((r1.rk x1.gh).ext x2).ext x3,e6,fun u G4 H4 x4 r4=>k u G4 H4 (x1.trans (x2.trans (x3.trans x4))) (.of rfl r4)⟩⟩⟩⟩
theorem op1_w {o:Op1} {a:E}:∀ σ H Q,tE cf X.K (.op1 o a) σ H Q→(tE cf X.K a) σ H fun v H1=>rOp1 X.K o v H1 Q:=fun σ H Q ⟨G,ρ,p,S,e,k⟩=>by
 obtain ⟨x,e1,e2⟩:=bnd_eq.mp (show bnd (evE cf a ρ) (opF1 o)=some p from e)
 exact ⟨G,ρ,x,S,e1,fun v G1 H1 x1 r1=>⟨G1,x,p,x1.gh,r1.rk x1.gh,e2,fun u G2 H2 x2 r2=>k u G2 H2 (x1.trans x2) (.of rfl r2)⟩⟩
theorem tE_mono {ie:E} {σ:St} {H:Hp} {Q Q':VK} (h:tE cf X.K ie σ H Q) (w:∀ v H',Q v H'→Q' v H'):tE cf X.K ie σ H Q':=by
 obtain ⟨G,ρ,p,S,e,k⟩:=h
 exact ⟨G,ρ,p,S,e,fun v G' H' x r=>w v H' (k v G' H' x r)⟩
theorem snd_callB {o:Op1} {ia:E} {a:Expr} {x:Str} {id:String} {p pos:Pos} (hc:CallR X (.builtin id) (rC1 X.K o)) (hg:Gl X x) (hm:X.mg x=none) (hv:bootBuiltins x=some (.builtin id)) (hn:x≠"__name__") (hdb:(x==("__debug__":Str))=false)
  (ha:PE X a (tE cf X.K ia)) (hs:plainE a=true):Snd X cf (.op1 o ia) (.Call (.Name x p) [a] [] pos):=by
 refine .plain ((pe_callB hc hg hm hv (pa_cons ha pa_nil (star_of hs _ _)) hn hdb (star_of hs _ _)).weak fun σ H Q h=>?_) (fun _=>rfl)
 exact tE_mono (op1_w σ H Q h) fun v H' q=>⟨v,rfl,q⟩
theorem snd_callT {o:Op1} {ia:E} {a:Expr} {x:Str} {T:String} {p pos:Pos} (hc:CallR X (.type T) (rC1 X.K o)) (hg:Gl X x) (hm:X.mg x=none) (hv:bootBuiltins x=some (.type T)) (hn:x≠"__name__") (hdb:(x==("__debug__":Str))=false)
  (ha:PE X a (tE cf X.K ia)) (hs:plainE a=true):Snd X cf (.op1 o ia) (.Call (.Name x p) [a] [] pos):=by
 refine .plain ((pe_callTy hc hg hm hv (pa_cons ha pa_nil (star_of hs _ _)) hn hdb (star_of hs _ _)).weak fun σ H Q h=>?_) (fun _=>rfl)
 exact tE_mono (op1_w σ H Q h) fun v H' q=>⟨v,rfl,q⟩
theorem snd_isi {o:Op1} {ia:E} {a:Expr} {x:Str} {T:String} {p p2 pos:Pos} (hc:CallR X (.builtin "isinstance") (rIsi X.K o T)) (hg:Gl X "isinstance") (hm:X.mg "isinstance"=none) (hgT:Gl X x) (hmT:X.mg x=none) (hvT:bootBuiltins x=some (.type T))
  (hn:x≠"__name__") (hdb:(x==("__debug__":Str))=false) (ha:PE X a (tE cf X.K ia)) (hs:plainE a=true):Snd X cf (.op1 o ia) (.Call (.Name "isinstance" p) [a,.Name x p2] [] pos):=by
 refine .plain ((pe_callB hc hg hm boot_isinstance (pa_cons ha (pa_cons (pe_bltn (v:=.ty T) hgT hmT hvT rfl hn hdb) pa_nil rfl) (star_of hs _ _)) (by decide) (by decide) (star_of hs _ _)).weak fun σ H Q h=>?_) (fun _=>rfl)
 exact tE_mono (op1_w σ H Q h) fun v H' q=>⟨v,rfl,q⟩
theorem snd_not {ia:E} {a:Expr} {pos:Pos} (ha:Snd X cf ia a):Snd X cf (.not ia) (.UnaryOp .Not a pos):=by
 refine ⟨fun pins s σ H Q I h=>?_,(pt_not ha.pt).weak fun σ H Q ⟨G,ρ,p,b,S,e,et,k⟩=>?_⟩
 ·obtain ⟨G,ρ,p,S,e,k⟩:=h
  obtain ⟨x,e1,e2⟩:=bnd_eq.mp (show bnd (evE cf ia ρ) (fun x=>bnd (truthF x) fun t=>some (PyData.bool (!t)))=some p from e)
  obtain ⟨t,e3,e4⟩:=bnd_eq.mp e2
  cases e4
  refine UnaryOp_ (thn (ha.pe pins s σ H (fun v H1=>∃ G1,Ext G H G1 H1∧Rk X.K G1 H1 x v) I ⟨G,ρ,x,S,e1,fun v G1 H1 x1 r1=>⟨G1,x1,r1.rk x1.gh⟩⟩) fun u s1 ⟨v,H1,I1,rv,G1,x1,r1⟩=>?_)
  refine not_of (thn (tru_ok pins s1 σ H1 v u (fun b H'=>b=t∧H'=H1) I1 rv ⟨t,truV x1.gh r1 e3,rfl,rfl⟩) fun b s2 ⟨H2,I2,hb,hH⟩=>?_)
  subst hb hH
  exact ⟨.bl (!b),H2,I2,rfl,k _ G1 H2 x1 (.of rfl rfl)⟩
 ·obtain ⟨x,e1,e2⟩:=bnd_eq.mp (show bnd (evE cf ia ρ) (fun x=>bnd (truthF x) fun t=>some (PyData.bool (!t)))=some p from e)
  obtain ⟨t,e3,e4⟩:=bnd_eq.mp e2
  cases e4
  have et':(!t)=b:=Option.some.inj et
  subst et'
  exact ⟨G,ρ,x,t,S,e1,e3,k⟩
structure SndB (X:Cx) (cf:CF) (op:BoolOp) (ie:E) (es:List Expr) (pos:Pos):Prop where
 pe:PE X (.BoolOp op es pos) (tE cf X.K ie)
 pw:PW X (.BoolOp op es pos) (tT cf X.K ie)
theorem sndb_one {op:BoolOp} {ia:E} {a:Expr} {pos:Pos} (ha:Snd X cf ia a):SndB X cf op ia [a] pos:=by
 refine ⟨pe_one ha.pe,?_⟩
 cases op with
 | And=>exact pw_and1 ha.pt
 | Or=>exact pw_or1 ha.pt
theorem sndb_and {ia ib:E} {a b:Expr} {rest:List Expr} {pos:Pos} (ha:Snd X cf ia a) (hka:isPeek ia=false) (hb:SndB X cf .And ib (b::rest) pos) (hkb:isPeek ib=false):SndB X cf .And (.and ia ib) (a::b::rest) pos:=by
 refine ⟨fun pins s σ H Q I h=>?_,(pw_and ha.pt hb.pw).weak fun σ H Q ⟨G,ρ,p,c,S,e,et,k⟩=>?_⟩
 ·obtain ⟨G,ρ,p,S,e,k⟩:=h
  obtain ⟨x,e1,e2⟩:=bnd_eq.mp (show bnd (evE cf ia ρ) (fun x=>bnd (truthF x) fun t=>DD.tst t (evE cf ib ρ) (some x))=some p from e)
  obtain ⟨t,e3,e4⟩:=bnd_eq.mp e2
  refine BoolOp_and (thn (ha.pe pins s σ H (fun v H1=>∃ G1,Ext G H G1 H1∧Rp X.K G1 x v) I ⟨G,ρ,x,S,e1,fun v G1 H1 x1 r1=>⟨G1,x1,r1.rp hka⟩⟩) fun u s1 ⟨v,H1,I1,rv,G1,x1,r1⟩=>?_)
  refine thn (tru_ok pins s1 σ H1 v u (fun b H'=>b=t∧H'=H1) I1 rv ⟨t,truV x1.gh (r1.rk x1.gh) e3,rfl,rfl⟩) fun b s2 ⟨H2,I2,hb',hH⟩=>?_
  subst hb' hH
  cases b with
  | true=>exact hb.pe pins s2 σ H2 Q I2 ⟨G1,ρ,p,S.ext x1,e4,fun w G2 H3 x2 r2=>k w G2 H3 (x1.trans x2) (.of rfl (r2.rp hkb))⟩
  | false=>
   have e5:x=p:=Option.some.inj e4
   subst e5
   exact ⟨v,H2,I2,rv,k v G1 H2 x1 (.of rfl r1)⟩
 ·obtain ⟨x,e1,e2⟩:=bnd_eq.mp (show bnd (evE cf ia ρ) (fun x=>bnd (truthF x) fun t=>DD.tst t (evE cf ib ρ) (some x))=some p from e)
  obtain ⟨t,e3,e4⟩:=bnd_eq.mp e2
  refine ⟨G,ρ,x,t,S,e1,e3,fun G1 H1 x1=>?_⟩
  cases t with
  | true=>exact iteT ⟨G1,ρ,p,c,S.ext x1,e4,et,fun G2 H2 x2=>k G2 H2 (x1.trans x2)⟩
  | false=>
   have e5:x=p:=Option.some.inj e4
   subst e5
   rw [e3] at et
   have e6:false=c:=Option.some.inj et
   subst e6
   exact iteF (k G1 H1 x1)
theorem sndb_or {ia ib:E} {a b:Expr} {rest:List Expr} {pos:Pos} (ha:Snd X cf ia a) (hka:isPeek ia=false) (hb:SndB X cf .Or ib (b::rest) pos) (hkb:isPeek ib=false):SndB X cf .Or (.or ia ib) (a::b::rest) pos:=by
 refine ⟨fun pins s σ H Q I h=>?_,(pw_or ha.pt hb.pw).weak fun σ H Q ⟨G,ρ,p,c,S,e,et,k⟩=>?_⟩
 ·obtain ⟨G,ρ,p,S,e,k⟩:=h
  obtain ⟨x,e1,e2⟩:=bnd_eq.mp (show bnd (evE cf ia ρ) (fun x=>bnd (truthF x) fun t=>DD.tst t (some x) (evE cf ib ρ))=some p from e)
  obtain ⟨t,e3,e4⟩:=bnd_eq.mp e2
  refine BoolOp_or (thn (ha.pe pins s σ H (fun v H1=>∃ G1,Ext G H G1 H1∧Rp X.K G1 x v) I ⟨G,ρ,x,S,e1,fun v G1 H1 x1 r1=>⟨G1,x1,r1.rp hka⟩⟩) fun u s1 ⟨v,H1,I1,rv,G1,x1,r1⟩=>?_)
  refine thn (tru_ok pins s1 σ H1 v u (fun b H'=>b=t∧H'=H1) I1 rv ⟨t,truV x1.gh (r1.rk x1.gh) e3,rfl,rfl⟩) fun b s2 ⟨H2,I2,hb',hH⟩=>?_
  subst hb' hH
  cases b with
  | false=>exact hb.pe pins s2 σ H2 Q I2 ⟨G1,ρ,p,S.ext x1,e4,fun w G2 H3 x2 r2=>k w G2 H3 (x1.trans x2) (.of rfl (r2.rp hkb))⟩
  | true=>
   have e5:x=p:=Option.some.inj e4
   subst e5
   exact ⟨v,H2,I2,rv,k v G1 H2 x1 (.of rfl r1)⟩
 ·obtain ⟨x,e1,e2⟩:=bnd_eq.mp (show bnd (evE cf ia ρ) (fun x=>bnd (truthF x) fun t=>DD.tst t (some x) (evE cf ib ρ))=some p from e)
  obtain ⟨t,e3,e4⟩:=bnd_eq.mp e2
  refine ⟨G,ρ,x,t,S,e1,e3,fun G1 H1 x1=>?_⟩
  cases t with
  | false=>exact iteF ⟨G1,ρ,p,c,S.ext x1,e4,et,fun G2 H2 x2=>k G2 H2 (x1.trans x2)⟩
  | true=>
   have e5:x=p:=Option.some.inj e4
   subst e5
   rw [e3] at et
   have e6:true=c:=Option.some.inj et
   subst e6
   exact iteT (k G1 H1 x1)
theorem SndB.snd {op:BoolOp} {ie:E} {es:List Expr} {pos:Pos} (h:SndB X cf op ie es pos):Snd X cf ie (.BoolOp op es pos):=⟨h.pe,h.pw.pt⟩
theorem snd_ite {ic ia ib:E} {c a b:Expr} {pos:Pos} (hc:Snd X cf ic c) (ha:Snd X cf ia a) (hb:Snd X cf ib b) (hka:isPeek ia=false) (hkb:isPeek ib=false):PE X (.IfExp c a b pos) (tE cf X.K (.ite ic ia ib)):=
 (pe_ifExp hc.pt ha.pe hb.pe).weak fun σ H Q ⟨G,ρ,p,S,e,k⟩=>by
  obtain ⟨x,e1,e2⟩:=bnd_eq.mp (show bnd (evE cf ic ρ) (fun x=>bnd (truthF x) fun t=>DD.tst t (evE cf ia ρ) (evE cf ib ρ))=some p from e)
  obtain ⟨t,e3,e4⟩:=bnd_eq.mp e2
  refine ⟨G,ρ,x,t,S,e1,e3,fun G1 H1 x1=>?_⟩
  cases t with
  | true=>exact iteT ⟨G1,ρ,p,S.ext x1,e4,fun w G2 H3 x2 r2=>k w G2 H3 (x1.trans x2) (.of rfl (r2.rp hka))⟩
  | false=>exact iteF ⟨G1,ρ,p,S.ext x1,e4,fun w G2 H3 x2 r2=>k w G2 H3 (x1.trans x2) (.of rfl (r2.rp hkb))⟩
noncomputable def spD (K:PySem.W.Frag) (np:Nat) (r:List PV→Option PV):Sp:=fun vs H Q _=>vs.length=np∧∃ G ps p,Sub G H∧RpA K G ps vs∧r ps=some p∧∀ v G' H',Ext G H G' H'→Rp K G' p v→Q v H'
theorem snd_call {f:Nat} {ia:E} {es:List Expr} {x:Str} {p pos:Pos} {k:Nat} {fa:Addr} {fd:FuncData} {ps:List Str} {e:Expr} (F:FnOk X.prog X.w X.K X.mg X.base CX0 k fa fd ps (spD X.K ps.length (cf f))) (hr:Room k X.A) (hg:Gl X x) (hm:X.mg x=some (.ref fa))
  (hk:PySem.W.keepIn X.K (.ref fa)=true) (hb:Binds X.K fd ps []) (ha:PA X (e::es) (tA cf X.K ia)) (hn:argN ia=some ps.length) (hdb:(x==("__debug__":Str))=false) (hs:plainE e=true) (hpl:es.all plainE=true):
  Snd X cf (.call f ia) (.Call (.Name x p) (e::es) [] pos):=by
 have hany:(backTo pos (starEach es X.env)).any (·.1)=false:=by
  have:∀ l:List Expr,l.all plainE=true→(starEach l X.env).any (·.1)=false:=by
   intro l
   induction l with
   | nil=>intro _;rfl
   | cons y l ih=>
    intro h
    rw [List.all_cons,Bool.and_eq_true] at h
    rw [star_of h.1,List.any_cons,ih h.2];rfl
  have h2:=this es hpl
  have h3:∀ l:List (Bool×Sem Value),(backTo pos l).any (·.1)=l.any (·.1):=by
   intro l
   unfold backTo
   rw [List.any_map]
   rfl
  rw [h3];exact h2
 refine .plain ((pe_call F hr hg hm hk hb .nil pass0 ha hdb (star_of hs _ _) hany).weak fun σ H Q ⟨G,ρ,q,S,e,k⟩=>?_) (fun _=>rfl)
 obtain ⟨r,e1,e2⟩:=bnd_eq.mp (show bnd (evE cf ia ρ) (callF cf f)=some q from e)
 obtain ⟨xs,rfl,hl⟩:=args_len ia _ ρ r hn e1
 refine ⟨G,ρ,xs,S,e1,fun vs G1 H1 x1 r1=>?_⟩
 show spD X.K ps.length (cf f) (vs++[]) H1 Q E0
 rw [List.append_nil]
 exact ⟨by rw [← r1.length];exact hl,G1,xs,q,x1.gh,r1,e2,fun v G2 H2 x2 r2=>k v G2 H2 (x1.trans x2) (.of rfl r2)⟩
end
section
variable {X:Cx}
end
section
variable {prog:Program} {w:World} {A:Around} {E:Value→Shared→Prop} {s:Shared}
end
section
variable {X:Cx} {cf:CF}
noncomputable def keyC:PV→Expr→Bool
 | .str x,.Constant (.str y) _ _=>x==y&&PyData.strOk x&&decide (x.length≤16777216)
 | .int i,.Constant (.int j) _ _=>i==j
 | _,_=>false
theorem keyC_ok {k:PV} {e:Expr} (h:keyC k e=true):∃ key,keyOf k=some key∧PE X e (tC (kV key)):=by
 cases k with
 | str x=>
  cases e with
  | Constant c j p=>
   cases c with
   | str y=>
    have h':(x==y&&PyData.strOk x&&decide (x.length≤16777216))=true:=h
    simp only [Bool.and_eq_true,beq_iff_eq] at h'
    obtain ⟨⟨rfl,_⟩,_⟩:=h'
    exact ⟨_,rfl,pe_str⟩
   | _=>exact nomatch (show false=true from h)
  | _=>exact nomatch (show false=true from h)
 | int x=>
  cases e with
  | Constant c j p=>
   cases c with
   | int y=>
    cases eq_of_beq (show (x==y)=true from h)
    exact ⟨_,rfl,pe_int⟩
   | _=>exact nomatch (show false=true from h)
  | _=>exact nomatch (show false=true from h)
 | _=>exact nomatch (show false=true from h)
theorem put_new {l:List (Key×V)} {k:Key} (v:V) (h:∀ x∈l,x.1≠k):putK l k v=l++[(k,v)]:=by
 unfold putK
 rw [if_neg]
 simp only [List.any_eq_true,decide_eq_true_eq,not_exists,not_and]
 exact h
theorem merge_new:∀ (more l:List (Key×V)),(more.map (·.1)).Nodup→(∀ x∈l,∀ y∈more,x.1≠y.1)→mergeK l more=l++more
 | [],l,_,_=>by simp [mergeK]
 | p::r,l,hn,hl=>by
  rw [List.map_cons,List.nodup_cons] at hn
  show mergeK (putK l p.1 p.2) r=_
  rw [put_new _ fun x hx=>hl x hx p List.mem_cons_self,merge_new r _ hn.2]
  ·simp
  ·intro x hx y hy
   rcases List.mem_append.mp hx with z | z
   ·exact hl x z y (List.mem_cons_of_mem _ hy)
   ·rw [List.mem_singleton.mp z]
    intro e
    exact hn.1 (by rw [e];exact List.mem_map.mpr ⟨y,hy,rfl⟩)
section
variable (f:E→Expr→Bool)
noncomputable def chkD:List PV→E→List (Option Expr)→List Expr→Bool
 | [],.nil,[],[]=>true
 | k::ks,.cons h t,some e::es,v::vs=>keyC k e&&!isPeek h&&f h v&&chkD ks t es vs
 | _,_,_,_=>false
end
theorem disp_ok {f:E→Expr→Bool} (IH:∀ ie e,f ie e=true→Snd X cf ie e) {pos:Pos}:∀ (ks:List PV) (a:E) (es:List (Option Expr)) (vs:List Expr),chkD f ks a es vs=true→
  es.length=ks.length∧vs.length=ks.length∧es.all (·.isSome)=true∧∃ (keys:List Key) (trs:List (TE×TE)),ks.map keyOf=keys.map some∧PPs X pos es vs trs∧∀ (σ:St) (H:Hp) (Q:List (V×V)→Hp→Prop) (G:Hp) (ρ:Env) (xs:List PV),
   SR X.K G H σ ρ→evE cf a ρ=some (.tuple xs)→(∀ ws G' H',Ext G H G' H'→RpA X.K G' xs ws→ws.length=keys.length→Q ((keys.zip ws).map fun kv=>(kV kv.1,kv.2)) H')→tPairs trs σ H Q:=by
 intro ks
 induction ks with
 | nil=>
  intro a es vs h
  cases a with
  | nil=>
   cases es with
   | nil=>
    cases vs with
    | nil=>
     exact ⟨rfl,rfl,rfl,[],[],rfl,pps_nil,fun σ H Q G ρ xs S e k=>by
      cases (show some (PyData.tuple [])=some (.tuple xs) from e)
      exact k [] G H (.refl S.sub) .nil rfl⟩
    | cons _ _=>exact nomatch (show false=true from h)
   | cons _ _=>exact nomatch (show false=true from h)
  | _=>exact nomatch (show false=true from h)
 | cons k0 ks ih=>
  intro a es vs h
  cases a with
  | cons h0 t=>
   cases es with
   | nil=>exact nomatch (show false=true from h)
   | cons oe es=>
    cases oe with
    | none=>exact nomatch (show false=true from h)
    | some e=>
     cases vs with
     | nil=>exact nomatch (show false=true from h)
     | cons v vs=>
      have hc:(keyC k0 e&&!isPeek h0&&f h0 v&&chkD f ks t es vs)=true:=h
      simp only [Bool.and_eq_true,Bool.not_eq_true'] at hc
      obtain ⟨⟨⟨h1,h2⟩,h3⟩,h4⟩:=hc
      obtain ⟨l1,l2,l3,keys,trs,hk,hp,hr⟩:=ih t es vs h4
      obtain ⟨key,ek,pk⟩:=keyC_ok (X:=X) h1
      refine ⟨congrArg (·+1) l1,congrArg (·+1) l2,l3,key::keys,(tC (kV key),tE cf X.K h0)::trs,by rw [List.map_cons,List.map_cons,hk,ek],pps_cons pk (IH h0 v h3).pe hp,fun σ H Q G ρ xs S ev k=>?_⟩
      obtain ⟨x,e1,e2⟩:=bnd_eq.mp (show bnd (evE cf h0 ρ) (fun x=>bnd (evE cf t ρ) (consF x))=some (.tuple xs) from ev)
      obtain ⟨r,e3,e4⟩:=bnd_eq.mp e2
      cases r with
      | tuple ys=>
       cases (show some (PyData.tuple (x::ys))=some (.tuple xs) from e4)
       refine (show tE cf X.K h0 σ H _ from ⟨G,ρ,x,S,e1,fun w G1 H1 x1 r1=>?_⟩)
       refine hr σ H1 _ G1 ρ ys (S.ext x1) e3 fun ws G2 H2 x2 r2 lw=>?_
       exact k (w::ws) G2 H2 (x1.trans x2) (.cons ((r1.rp h2).mono x2.gg) r2) (congrArg (·+1) lw)
      | _=>exact nomatch (show none=some (PyData.tuple xs) from e4)
  | _=>exact nomatch (show false=true from h)
theorem rpD_of {K:PySem.W.Frag} {G:Hp}:∀ {ks:List PV} {keys:List Key} {xs:List PV} {ws:List V},ks.map keyOf=keys.map some→RpL K G xs ws→ks.length=xs.length→RpD K G (ks.zip xs) (keys.zip ws)
 | [],keys,xs,ws,hk,r,hl=>by
  have:keys=[]:=by simpa using hk.symm
  subst this
  exact rfl
 | k::ks,[],_,_,hk,_,_=>by simp at hk
 | k::ks,key::keys,[],_,_,_,hl=>by simp at hl
 | k::ks,key::keys,x::xs,_,hk,r,hl=>by
  obtain ⟨v,w,rfl,h1,h2⟩:=(show ∃ v r,_=v::r∧(isDict x=false∧Rp K G x v)∧RpL K G xs r from r)
  simp only [List.map_cons,List.cons.injEq] at hk
  exact ⟨key,v,_,rfl,hk.1,h1,rpD_of hk.2 h2 (by simpa using hl)⟩
theorem snd_dct {f:E→Expr→Bool} (IH:∀ ie e,f ie e=true→Snd X cf ie e) {ks:List PV} {a:E} {es:List (Option Expr)} {vs:List Expr} {pos:Pos} (hc:chkD f ks a es vs=true) (hn:(ks.map keyOf).Nodup) (h0:ks≠[]) (h15:ks.length≤15):
  Snd X cf (.dct ks a) (.Dict es vs pos):=by
 obtain ⟨l1,l2,l3,keys,trs,hk,hp,hr⟩:=disp_ok (pos:=pos) IH ks a es vs hc
 have hes:es≠[]:=fun z=>by rw [z] at l1;exact h0 (List.length_eq_zero_iff.mp l1.symm)
 refine .plain ((pe_disp hp l3 (l1.trans l2.symm) hes (by lia)).weak fun σ H Q ⟨G,ρ,p,S,e,k⟩=>?_) (fun _=>rfl)
 obtain ⟨t,e1,e2⟩:=bnd_eq.mp (show bnd (evE cf a ρ) (dctF ks)=some p from e)
 cases t with
 | tuple xs=>
  obtain ⟨hd,e3⟩:=tst_none (show DD.tst (anyD xs||ks.length != xs.length) none (some (PyData.dict (ks.zip xs)))=some p from e2)
  cases e3
  rw [Bool.or_eq_false_iff] at hd
  have hl:ks.length=xs.length:=by simpa using hd.2
  intro d hdn
  have x0:=Ext.own S.sub hdn (.dK [])
  refine hr σ _ _ G ρ xs (S.ext x0) e1 fun ws G2 H2 x2 r2 lw=>⟨x2.hh _ _ upd_same,keys.zip ws,rfl,?_,?_⟩
  ·rw [List.length_zip]
   have:keys.length=ks.length:=by have:=congrArg List.length hk;simpa using this.symm
   lia
  ·have hG2:G2 d=none:=(x2.old _ _ upd_same).trans (S.sub.fresh hdn)
   have xx:=x0.trans x2
   have m:mergeK [] (keys.zip ws)=keys.zip ws:=by
    rw [merge_new _ _ ?_ (by simp)]
    ·simp
    ·have hkn:keys.Nodup:=by
      have h2:(keys.map some).Nodup:=by rw [← hk];exact hn
      exact List.Pairwise.of_map some (fun a b h e=>h (congrArg some e)) h2
     rw [List.map_fst_zip (by lia)]
     exact hkn
   rw [m]
   have y1:=xx.mut hdn hG2 (.dK (keys.zip ws))
   have y2:=y1.frz hdn hG2 upd_same
   refine k _ _ _ y2 (.of rfl ⟨d,keys.zip ws,rfl,.inl upd_same,?_⟩)
   exact (rpD_of hk (r2.list hd.1) hl).mono (.new hG2 _)
 | _=>cases (show none=some p from e2)
end
section
variable {X:Cx}
theorem s_mul:OpR X (binaryOp .Mult) (rOp2 X.K .mul):=by
 intro pins s σ H x y v u Q I rx ry h
 obtain ⟨G,p,q,r,sb,hp,hq,e,k⟩:=h
 cases p with
 | int i=>
  cases q with
  | int j=>
   have e':(if small i||small j then some (PyData.int (i * j)) else none)=some r:=e
   by_cases hl:(small i||small j)=true
   ·rw [if_pos hl] at e'
    cases e'
    cases (show x=.int i from hp);cases (show y=.int j from hq)
    refine op_mul pins s σ H _ _ v u Q I rx ry ⟨i,j,rfl,rfl,?_,k _ G H (.refl sb) rfl⟩
    rw [Bool.or_eq_true] at hl
    exact hl.elim (fun h=>.inl (small_of h)) fun h=>.inr (small_of h)
   ·rw [if_neg hl] at e';cases e'
  | _=>exact nomatch (show (none:Option PV)=some r from e)
 | _=>exact nomatch (show (none:Option PV)=some r from e)
end
section
variable {X:Cx} {cf:CF}
end
end DD
namespace DD
open PySem PySem.Spec PyProof.Rows
noncomputable def LtAt (κ:PyProof.Rows.KeyKind) (prog:Program) (w:World) (A:Around) (s:Shared) (kd:SortKind):Prop:=
 ∀ (E:Value→Shared→Prop) (x y:Value) (a b:κ.α) (Q:Bool→Shared→Prop),κ.keyOf x=some a→κ.keyOf y=some b→Q (κ.blt a b) s→wpAny (model prog w) A (keyLt' kd x y) Q E s
structure SB (kd:SortKind) (a₀:Array Keyed) (st:SortSt):Prop where
 perm:(arrOf st).Perm a₀
 kind:kindOf st=kd
 failed:failedOf st=none
 pend:pendingOf st=#[]
theorem SB.size {kd:SortKind} {a₀:Array Keyed} {st:SortSt} (h:SB kd a₀ st):(arrOf st).size=a₀.size:=h.perm.size_eq
theorem SB.key {κ:PyProof.Rows.KeyKind} {kd:SortKind} {a₀:Array Keyed} {st:SortSt} (h:SB kd a₀ st) (h0:KeysOf κ a₀) {i:Nat} (hi:i<a₀.size):
  ∃ x p a,(arrOf st)[i]?=some (x,p)∧κ.keyOf x=some a∧KK κ (arrOf st) i=a:=by
 have hi':i<(arrOf st).size:=h.size▸hi
 obtain ⟨a,ha⟩:=h0 (arrOf st)[i] ((Array.perm_iff_toList_perm.mp h.perm).mem_iff.mp (Array.mem_toList_iff.mpr (Array.getElem_mem hi')))
 have e:(arrOf st)[i]?=some (arrOf st)[i]:=getElem?_pos _ i hi'
 exact ⟨_,_,a,e,ha,by unfold KK;rw [e];simp [ha]⟩
section
variable {prog:Program} {w:World} {A:Around} {E:Value→Shared→Prop} {s:Shared} {a₀:Array Keyed} {κ:PyProof.Rows.KeyKind} {kd:SortKind}
theorem w_rev {st:SortSt} {i j:Nat} {Q:Unit→SortSt→Prop} (h:Q () (setArr st (mirror (arrOf st) i j ((j - i) / 2)))):wpS (model prog w) A E s (reverseSlice' i j) Q st:=by
 rw [reverseSlice'_eq]
 exact wpS_modify h
end
noncomputable def gallop':Bool→Keyed→Array Keyed→Nat→Nat→Nat→StateT SortSt Sem (Option Nat):=sortPriv% PySem.Builtin.gallop
noncomputable def ahead (left:Bool) (kv:Keyed) (xs:Array Keyed) (b i:Nat):StateT SortSt Sem (Option Bool):=do
 let x ← elem' xs (b+i);(if left then lt' x kv else return (← lt' kv x).map (!·))
theorem gallop'_eq (left:Bool) (kv:Keyed) (xs:Array Keyed) (b n hint:Nat):gallop' left kv xs b n hint=(do
  let mut l:=0;let mut o:=1;let mut lo:=0;let mut hi:=0
  let some r ← ahead left kv xs b hint | return none
  if r then
   let m:=n - hint
   for _ in [0:n] do
    if o≥m then break
    let some q ← ahead left kv xs b (hint+o) | return none
    if !q then break
    l:=o;o:=2 * o+1
   lo:=hint+l+1;hi:=hint+min o m
  else
   let m:=hint+1
   for _ in [0:n] do
    if o≥m then break
    let some q ← ahead left kv xs b (hint - o) | return none
    if q then break
    l:=o;o:=2 * o+1
   lo:=hint+1 - min o m;hi:=hint - l
  for _ in [0:n] do
   if lo≥hi then break
   let m:=lo+(hi - lo) / 2
   let some q ← ahead left kv xs b m | return none
   if q then lo:=m+1 else hi:=m
  return some hi):=rfl
section
variable {prog:Program} {w:World} {A:Around} {E:Value→Shared→Prop} {s:Shared} {κ:PyProof.Rows.KeyKind} {kd:SortKind}
theorem w_ltK (hO:LtAt κ prog w A s kd) {st:SortSt} {x y:Keyed} {a b:κ.α} {Q:Option Bool→SortSt→Prop} (hk:kindOf st=kd) (ha:κ.keyOf x.1=some a) (hb:κ.keyOf y.1=some b) (h:Q (some (κ.blt a b)) st):wpS (model prog w) A E s (lt' x y) Q st:=by
 rw [lt'_eq]
 refine wpS_bind (wpS_get ?_)
 rw [hk]
 exact wpS_bind (wpS_lift (wpAny_attempt (hO _ x.1 y.1 a b _ ha hb ⟨rfl,wpS_pure h⟩)))
theorem w_elem {xs:Array Keyed} {i:Nat} {st:SortSt} {Q:Keyed→SortSt→Prop} (hi:i<xs.size) (h:Q xs[i] st):wpS (model prog w) A E s (elem' xs i) Q st:=by
 rw [elem'_eq,getElem?_pos xs i hi]
 exact wpS_pure h
theorem key_at {xs:Array Keyed} {i:Nat} (hK:KeysOf κ xs) (hi:i<xs.size):κ.keyOf xs[i].1=some (KK κ xs i):=by
 obtain ⟨a,ha⟩:=hK xs[i] (Array.mem_toList_iff.mpr (Array.getElem_mem hi))
 rw [ha];unfold KK;rw [getElem?_pos xs i hi];simp [ha]
noncomputable def bey (κ:PyProof.Rows.KeyKind) (left:Bool) (k:κ.α) (xs:Array Keyed) (b i:Nat):Bool:=if left then κ.blt (KK κ xs (b+i)) k else !κ.blt k (KK κ xs (b+i))
theorem w_ahead (hO:LtAt κ prog w A s kd) {st:SortSt} {left:Bool} {kv:Keyed} {k:κ.α} {xs:Array Keyed} {b i:Nat} {Q:Option Bool→SortSt→Prop} (hk:kindOf st=kd) (hK:KeysOf κ xs) (hkv:κ.keyOf kv.1=some k) (hi:b+i<xs.size) (h:Q (some (bey κ left k xs b i)) st):
  wpS (model prog w) A E s (ahead left kv xs b i) Q st:=by
 unfold ahead
 refine wpS_bind (w_elem hi ?_)
 cases left with
 | true=>exact w_ltK hO hk (key_at hK hi) hkv h
 | false=>exact wpS_bind (w_ltK hO hk hkv (key_at hK hi) (wpS_pure h))
noncomputable def gTail (left:Bool) (kv:Keyed) (xs:Array Keyed) (b n lo hi:Nat):StateT SortSt Sem (Option Nat):=do
 let mut u:=lo;let mut v:=hi
 for _ in [0:n] do
  if u≥v then break
  let m:=u+(v - u) / 2
  let some q ← ahead left kv xs b m | return none
  if q then u:=m+1 else v:=m
 return some v
theorem w_gTail (hO:LtAt κ prog w A s kd) {st:SortSt} {left:Bool} {kv:Keyed} {k:κ.α} {xs:Array Keyed} {b n lo hi:Nat} {Q:Option Nat→SortSt→Prop} (hk:kindOf st=kd) (hK:KeysOf κ xs) (hkv:κ.keyOf kv.1=some k) (hn:b+n≤xs.size)
  (mono:∀ i j,i≤j→j<n→bey κ left k xs b j=true→bey κ left k xs b i=true) (hl:lo≤hi) (hh:hi≤n) (hlo:∀ i,i<lo→bey κ left k xs b i=true) (hhi:∀ i,hi≤i→i<n→bey κ left k xs b i=false)
  (h:∀ p,p≤n→(∀ i,i<p→bey κ left k xs b i=true)→(∀ i,p≤i→i<n→bey κ left k xs b i=false)→Q (some p) st):wpS (model prog w) A E s (gTail left kv xs b n lo hi) Q st:=by
 unfold gTail
 refine wpS_bind (wpS_mono (wpS_forRange (I:=fun x c st'=>st'=st∧∃ u v,c=(none,u,v)∧u≤v∧v≤n∧v - u≤n - x∧(∀ i,i<u→bey κ left k xs b i=true)∧∀ i,v≤i→i<n→bey κ left k xs b i=false)
  (Q:=fun c st'=>st'=st∧∃ v,c=(none,v,v)∧v≤n∧(∀ i,i<v→bey κ left k xs b i=true)∧∀ i,v≤i→i<n→bey κ left k xs b i=false) (fun x c st' _ hx hI=>?_) (fun c st' hI=>?_) ⟨rfl,lo,hi,rfl,hl,hh,by lia,hlo,hhi⟩) fun c st' hI=>?_)
 ·obtain ⟨rfl,u,v,rfl,h1,h2,h3,h4,h5⟩:=hI
  dsimp only
  by_cases hge:u≥v
  ·rw [if_pos hge]
   have e:u=v:=by lia
   subst e
   exact wpS_pure ⟨rfl,u,rfl,h2,h4,h5⟩
  ·rw [if_neg hge]
   refine wpS_bind (w_ahead hO hk hK hkv (by lia) ?_)
   cases hq:bey κ left k xs b (u+(v - u) / 2) with
   | true=>
    simp only [if_true]
    exact wpS_pure ⟨rfl,u+(v - u) / 2+1,v,rfl,by lia,h2,by lia,fun i hi=>mono i (u+(v - u) / 2) (by lia) (by lia) hq,h5⟩
   | false=>
    simp only [Bool.false_eq_true,if_false]
    refine wpS_pure ⟨rfl,u,u+(v - u) / 2,rfl,by lia,by lia,by lia,h4,fun i h6 h7=>?_⟩
    cases e:bey κ left k xs b i with
    | false=>rfl
    | true=>rw [mono _ i h6 h7 e] at hq;cases hq
 ·obtain ⟨rfl,u,v,rfl,h1,h2,h3,h4,h5⟩:=hI
  have e:u=v:=by lia
  subst e
  exact ⟨rfl,u,rfl,h2,h4,h5⟩
 ·obtain ⟨rfl,v,rfl,h2,h4,h5⟩:=hI
  exact wpS_pure (h v h2 h4 h5)
theorem w_gallop (hO:LtAt κ prog w A s kd) {st:SortSt} {left:Bool} {kv:Keyed} {k:κ.α} {xs:Array Keyed} {b n hint:Nat} {Q:Option Nat→SortSt→Prop} (hk:kindOf st=kd) (hK:KeysOf κ xs) (hkv:κ.keyOf kv.1=some k) (hn:b+n≤xs.size) (hh:hint<n)
  (mono:∀ i j,i≤j→j<n→bey κ left k xs b j=true→bey κ left k xs b i=true)
  (h:∀ p,p≤n→(∀ i,i<p→bey κ left k xs b i=true)→(∀ i,p≤i→i<n→bey κ left k xs b i=false)→Q (some p) st):wpS (model prog w) A E s (gallop' left kv xs b n hint) Q st:=by
 rw [gallop'_eq]
 have mono':∀ i j,i≤j→j<n→bey κ left k xs b i=false→bey κ left k xs b j=false:=fun i j hij hj e=>by
  cases e':bey κ left k xs b j with
  | false=>rfl
  | true=>rw [mono i j hij hj e'] at e;cases e
 refine wpS_bind (w_ahead hO hk hK hkv (by lia) ?_)
 dsimp only
 cases hr:bey κ left k xs b hint with
 | true=>
  simp only [if_true]
  refine wpS_bind (wpS_mono (wpS_forRange (I:=fun x c st'=>st'=st∧∃ l o,c=(none,l,o)∧x<o∧l<o∧hint+l<n∧bey κ left k xs b (hint+l)=true)
   (Q:=fun c st'=>st'=st∧∃ l o,c=(none,l,o)∧l<o∧hint+l<n∧bey κ left k xs b (hint+l)=true∧(n - hint≤o∨(hint+o<n∧bey κ left k xs b (hint+o)=false))) (fun x c st' _ hx hI=>?_) (fun c st' hI=>?_) ⟨rfl,0,1,rfl,by lia,by lia,by lia,hr⟩) fun c st' hI=>?_)
  ·obtain ⟨rfl,l,o,rfl,h1,h2,h3,h4⟩:=hI
   dsimp only
   by_cases hge:o≥n - hint
   ·rw [if_pos hge]
    exact wpS_pure ⟨rfl,l,o,rfl,h2,h3,h4,.inl hge⟩
   ·rw [if_neg hge]
    refine wpS_bind (w_ahead hO hk hK hkv (by lia) ?_)
    cases hq:bey κ left k xs b (hint+o) with
    | true=>
     simp only [Bool.not_true,Bool.false_eq_true,if_false]
     exact wpS_pure ⟨rfl,o,2 * o+1,rfl,by lia,by lia,by lia,hq⟩
    | false=>
     simp only [Bool.not_false,if_true]
     exact wpS_pure ⟨rfl,l,o,rfl,h2,h3,h4,.inr ⟨by lia,hq⟩⟩
  ·obtain ⟨rfl,l,o,rfl,h1,h2,h3,h4⟩:=hI
   exact ⟨rfl,l,o,rfl,h2,h3,h4,.inl (by lia)⟩
  ·obtain ⟨rfl,l,o,rfl,h2,h3,h4,h5⟩:=hI
   show wpS _ _ _ _ (gTail left kv xs b n (hint+l+1) (hint+min o (n - hint))) Q st'
   refine w_gTail hO hk hK hkv hn mono (by lia) (by lia) (fun i hi=>mono i (hint+l) (by lia) h3 h4) (fun i h6 h7=>?_) h
   rcases h5 with h5 | ⟨h5,h8⟩
   ·lia
   ·exact mono' (hint+o) i (by lia) h7 h8
 | false=>
  simp only [Bool.false_eq_true,if_false]
  refine wpS_bind (wpS_mono (wpS_forRange (I:=fun x c st'=>st'=st∧∃ l o,c=(none,l,o)∧x<o∧l<o∧l≤hint∧bey κ left k xs b (hint - l)=false)
   (Q:=fun c st'=>st'=st∧∃ l o,c=(none,l,o)∧l<o∧l≤hint∧bey κ left k xs b (hint - l)=false∧(hint+1≤o∨(o≤hint∧bey κ left k xs b (hint - o)=true))) (fun x c st' _ hx hI=>?_) (fun c st' hI=>?_) ⟨rfl,0,1,rfl,by lia,by lia,by lia,hr⟩) fun c st' hI=>?_)
  ·obtain ⟨rfl,l,o,rfl,h1,h2,h3,h4⟩:=hI
   dsimp only
   by_cases hge:o≥hint+1
   ·rw [if_pos hge]
    exact wpS_pure ⟨rfl,l,o,rfl,h2,h3,h4,.inl hge⟩
   ·rw [if_neg hge]
    refine wpS_bind (w_ahead hO hk hK hkv (by lia) ?_)
    cases hq:bey κ left k xs b (hint - o) with
    | true=>
     simp only [if_true]
     exact wpS_pure ⟨rfl,l,o,rfl,h2,h3,h4,.inr ⟨by lia,hq⟩⟩
    | false=>
     simp only [Bool.false_eq_true,if_false]
     exact wpS_pure ⟨rfl,o,2 * o+1,rfl,by lia,by lia,by lia,hq⟩
  ·obtain ⟨rfl,l,o,rfl,h1,h2,h3,h4⟩:=hI
   exact ⟨rfl,l,o,rfl,h2,h3,h4,.inl (by lia)⟩
  ·obtain ⟨rfl,l,o,rfl,h2,h3,h4,h5⟩:=hI
   show wpS _ _ _ _ (gTail left kv xs b n (hint+1 - min o (hint+1)) (hint - l)) Q st'
   refine w_gTail hO hk hK hkv hn mono (by lia) (by lia) (fun i hi=>?_) (fun i h6 h7=>mono' (hint - l) i h6 h7 h4) h
   rcases h5 with h5 | ⟨h5,h8⟩
   ·lia
   ·exact mono i (hint - o) (by lia) (by lia) h8
end
section
variable {κ:PyProof.Rows.KeyKind}
noncomputable def kk (κ:PyProof.Rows.KeyKind) (p:Keyed):κ.α:=(κ.keyOf p.1).getD κ.dflt
noncomputable abbrev Rise (κ:PyProof.Rows.KeyKind) (l:List Keyed):Prop:=l.Pairwise fun p q=>κ.kle (kk κ p) (kk κ q)
theorem KK_kk {xs:Array Keyed} {i:Nat} (hi:i<xs.size):KK κ xs i=kk κ xs[i]:=by unfold KK kk;rw [getElem?_pos xs i hi]
structure MI (κ:PyProof.Rows.KeyKind) (a b:List Keyed) (out:List Keyed) (i j:Nat):Prop where
 hi:i≤a.length
 hj:j≤b.length
 perm:out.Perm (a.take i++b.take j)
 rise:Rise κ out
 la:∀ p∈out,∀ q∈a.drop i,κ.kle (kk κ p) (kk κ q)
 lb:∀ p∈out,∀ q∈b.drop j,κ.kle (kk κ p) (kk κ q)
theorem rise_snoc {l:List Keyed} {x:Keyed} (h:Rise κ l) (hx:∀ p∈l,κ.kle (kk κ p) (kk κ x)):Rise κ (l++[x]):=by
 unfold Rise
 rw [List.pairwise_append]
 exact ⟨h,List.pairwise_singleton _ _,fun p hp q hq=>by rw [List.mem_singleton.mp hq];exact hx p hp⟩
theorem MI.pushB {a b out:List Keyed} {i j:Nat} (M:MI κ a b out i j) (hb:Rise κ b) (hj:j<b.length) (h:∀ q∈a.drop i,κ.kle (kk κ b[j]) (kk κ q)):MI κ a b (out++[b[j]]) i (j+1):=by
 have e:b.drop j=b[j]::b.drop (j+1):=List.drop_eq_getElem_cons hj
 have hr:∀ q∈b.drop (j+1),κ.kle (kk κ b[j]) (kk κ q):=by
  have:=hb.drop (i:=j)
  rw [e,List.pairwise_cons] at this
  exact this.1
 refine ⟨M.hi,hj,?_,rise_snoc M.rise fun p hp=>M.lb p hp _ (by rw [e];exact List.mem_cons_self),fun p hp q hq=>?_,fun p hp q hq=>?_⟩
 ·rw [List.take_succ_eq_append_getElem hj,← List.append_assoc]
  exact M.perm.append_right _
 ·rcases List.mem_append.mp hp with hp | hp
  ·exact M.la p hp q hq
  ·rw [List.mem_singleton.mp hp];exact h q hq
 ·rcases List.mem_append.mp hp with hp | hp
  ·exact M.lb p hp q (by rw [e];exact List.mem_cons_of_mem _ hq)
  ·rw [List.mem_singleton.mp hp];exact hr q hq
theorem MI.pushA {a b out:List Keyed} {i j:Nat} (M:MI κ a b out i j) (ha:Rise κ a) (hi:i<a.length) (h:∀ q∈b.drop j,κ.kle (kk κ a[i]) (kk κ q)):MI κ a b (out++[a[i]]) (i+1) j:=by
 have e:a.drop i=a[i]::a.drop (i+1):=List.drop_eq_getElem_cons hi
 have hr:∀ q∈a.drop (i+1),κ.kle (kk κ a[i]) (kk κ q):=by
  have:=ha.drop (i:=i)
  rw [e,List.pairwise_cons] at this
  exact this.1
 refine ⟨hi,M.hj,?_,rise_snoc M.rise fun p hp=>M.la p hp _ (by rw [e];exact List.mem_cons_self),fun p hp q hq=>?_,fun p hp q hq=>?_⟩
 ·rw [List.take_succ_eq_append_getElem hi]
  refine (M.perm.append_right _).trans ?_
  rw [List.append_assoc,List.append_assoc]
  exact List.Perm.append_left _ List.perm_append_comm
 ·rcases List.mem_append.mp hp with hp | hp
  ·exact M.la p hp q (by rw [e];exact List.mem_cons_of_mem _ hq)
  ·rw [List.mem_singleton.mp hp];exact hr q hq
 ·rcases List.mem_append.mp hp with hp | hp
  ·exact M.lb p hp q hq
  ·rw [List.mem_singleton.mp hp];exact h q hq
theorem MI.moreA {a b:List Keyed} (ha:Rise κ a) {j:Nat}:∀ (k:Nat) {out:List Keyed} {i:Nat},MI κ a b out i j→i+k≤a.length→(∀ t (ht:t<a.length),i≤t→t<i+k→∀ q∈b.drop j,κ.kle (kk κ a[t]) (kk κ q))→MI κ a b (out++(a.drop i).take k) (i+k) j
 | 0,out,i,M,_,_=>by simpa using M
 | k+1,out,i,M,hk,h=>by
  have hi:i<a.length:=by lia
  have M1:=M.pushA ha hi (h i hi (Nat.le_refl _) (by lia))
  have M2:=MI.moreA ha k M1 (by lia) fun t ht h1 h2=>h t ht (by lia) (by lia)
  rw [List.drop_eq_getElem_cons hi,List.take_succ_cons,show i+(k+1)=i+1+k from by lia]
  rw [List.append_assoc] at M2
  exact M2
theorem MI.moreB {a b:List Keyed} (hb:Rise κ b) {i:Nat}:∀ (k:Nat) {out:List Keyed} {j:Nat},MI κ a b out i j→j+k≤b.length→(∀ t (ht:t<b.length),j≤t→t<j+k→∀ q∈a.drop i,κ.kle (kk κ b[t]) (kk κ q))→MI κ a b (out++(b.drop j).take k) i (j+k)
 | 0,out,j,M,_,_=>by simpa using M
 | k+1,out,j,M,hk,h=>by
  have hj:j<b.length:=by lia
  have M1:=M.pushB hb hj (h j hj (Nat.le_refl _) (by lia))
  have M2:=MI.moreB hb k M1 (by lia) fun t ht h1 h2=>h t ht (by lia) (by lia)
  rw [List.drop_eq_getElem_cons hj,List.take_succ_cons,show j+(k+1)=j+1+k from by lia]
  rw [List.append_assoc] at M2
  exact M2
noncomputable def Merged (κ:PyProof.Rows.KeyKind) (a b out:List Keyed):Prop:=out.Perm (a++b)∧Rise κ out
theorem MI.endB {a b out:List Keyed} {i:Nat} (M:MI κ a b out i b.length) (ha:Rise κ a):Merged κ a b (out++a.drop i):=by
 have M2:=MI.moreA ha (a.length - i) M (by have:=M.hi;lia) fun t ht h1 h2 q hq=>by simp at hq
 have e:(a.drop i).take (a.length - i)=a.drop i:=List.take_of_length_le (by simp)
 rw [e,show i+(a.length - i)=a.length from by have:=M.hi;lia] at M2
 exact ⟨by have:=M2.perm;rwa [List.take_length,List.take_length] at this,M2.rise⟩
theorem MI.endA {a b out:List Keyed} {j:Nat} (M:MI κ a b out a.length j) (hb:Rise κ b):Merged κ a b (out++b.drop j):=by
 have M2:=MI.moreB hb (b.length - j) M (by have:=M.hj;lia) fun t ht h1 h2 q hq=>by simp at hq
 have e:(b.drop j).take (b.length - j)=b.drop j:=List.take_of_length_le (by simp)
 rw [e,show j+(b.length - j)=b.length from by have:=M.hj;lia] at M2
 exact ⟨by have:=M2.perm;rwa [List.take_length,List.take_length] at this,M2.rise⟩
theorem MI.endL {a b out:List Keyed} {i j:Nat} (M:MI κ a b out i j) (ha:Rise κ a) (hb:Rise κ b) (hi:i+1=a.length) (hl:∀ q∈b,κ.kle (kk κ q) (kk κ (a[i]'(by lia)))):Merged κ a b (out++b.drop j++a.drop i):=by
 have e0:a.drop i=[a[i]'(by lia)]:=by
  rw [List.drop_eq_getElem_cons (by lia:i<a.length),List.drop_of_length_le (by lia)]
 have M2:=MI.moreB hb (b.length - j) M (by have:=M.hj;lia) fun t ht h1 h2 q hq=>by
  rw [e0] at hq
  rw [List.mem_singleton.mp hq]
  exact hl _ (List.getElem_mem ht)
 have e:(b.drop j).take (b.length - j)=b.drop j:=List.take_of_length_le (by simp)
 rw [e,show j+(b.length - j)=b.length from by have:=M.hj;lia] at M2
 exact M2.endB ha
end
noncomputable def mergeLo':Array Keyed→Array Keyed→StateT SortSt Sem (Array Keyed):=sortPriv% PySem.Builtin.mergeLo
structure Same (st st':SortSt):Prop where
 kind:kindOf st'=kindOf st
 arr:arrOf st'=arrOf st
 pend:pendingOf st'=pendingOf st
 fail:failedOf st'=failedOf st
theorem Same.refl (st:SortSt):Same st st:=⟨rfl,rfl,rfl,rfl⟩
theorem Same.mk'' {st st':SortSt} (h:Same st st') (m:Nat):Same st (SortSt.mk' (kindOf st') (arrOf st') (pendingOf st') m (failedOf st')):=⟨h.kind,h.arr,h.pend,h.fail⟩
section
variable {prog:Program} {w:World} {A:Around} {E:Value→Shared→Prop} {s:Shared} {κ:PyProof.Rows.KeyKind} {kd:SortKind}
structure ML (κ:PyProof.Rows.KeyKind) (a b:Array Keyed) (o:Array Keyed) (i j:Nat):Prop where
 mi:MI κ a.toList b.toList o.toList i j
 hi:i+1<a.size
 hj:j<b.size
noncomputable def finA (a b o:Array Keyed) (i j:Nat):Array Keyed:=o++a.extract i a.size++b.extract j b.size
noncomputable def lastA (a b o:Array Keyed) (i j:Nat):Array Keyed:=o++b.extract j b.size++a.extract i a.size
theorem ext_toList (a:Array Keyed) (i:Nat):(a.extract i a.size).toList=a.toList.drop i:=by
 rw [Array.toList_extract,List.extract_eq_drop_take,List.take_of_length_le (by simp)]
theorem fin_B {a b o:Array Keyed} {i j:Nat} (M:MI κ a.toList b.toList o.toList i j) (ha:Rise κ a.toList) (hj:j=b.size):Merged κ a.toList b.toList (finA a b o i j).toList:=by
 subst hj
 unfold finA
 rw [Array.toList_append,Array.toList_append,ext_toList,ext_toList,List.drop_of_length_le (l:=b.toList) (by simp),List.append_nil]
 exact MI.endB (by simpa using M) ha
theorem fin_A {a b o:Array Keyed} {i j:Nat} (M:MI κ a.toList b.toList o.toList i j) (hb:Rise κ b.toList) (hi:i=a.size):Merged κ a.toList b.toList (finA a b o i j).toList:=by
 subst hi
 unfold finA
 rw [Array.toList_append,Array.toList_append,ext_toList,ext_toList,List.drop_of_length_le (l:=a.toList) (by simp),List.append_nil]
 exact MI.endA (by simpa using M) hb
theorem last_A {a b o:Array Keyed} {i j:Nat} (M:MI κ a.toList b.toList o.toList i j) (ha:Rise κ a.toList) (hb:Rise κ b.toList) (hi:i+1=a.size) (hL:∀ q∈b.toList,κ.kle (kk κ q) (kk κ (a[a.size - 1]'(by lia)))):Merged κ a.toList b.toList (lastA a b o i j).toList:=by
 unfold lastA
 rw [Array.toList_append,Array.toList_append,ext_toList,ext_toList]
 refine MI.endL M ha hb (by simpa using hi) fun q hq=>?_
 have e:a.size - 1=i:=by lia
 have:=hL q hq
 simp only [e] at this
 simpa using this
noncomputable abbrev GS:=Option (Array Keyed)×Array Keyed×Nat×Nat×Nat×Nat×Nat
noncomputable def lowD (a b o:Array Keyed) (i j mg ac bc:Nat):StateT SortSt Sem (ForInStep GS):=do
 let y ← elem' a i
 if (i+1+1==a.size)=true then pure (.done (some (lastA a b (o.push y) (i+1) j),o.push y,i+1,j,mg,ac,bc))
 else if (decide (ac<7)&&decide (bc<7))=true then pure (.done (none,o.push y,i+1,j,mg,ac,bc))
 else pure (.yield (none,o.push y,i+1,j,mg,ac,bc))
noncomputable def lowC (a b o:Array Keyed) (i j mg ac bc:Nat):StateT SortSt Sem (ForInStep GS):=do
 let x ← elem' b j
 if (j+1==b.size)=true then pure (.done (some (finA a b (o.push x) i (j+1)),o.push x,i,j+1,mg,ac,bc))
 else do
  let y ← elem' a i
  let r ← gallop' true y b (j+1) (b.size - (j+1)) 0
  match r with
  | some k=>
   if k>0 then
    if (j+1+k==b.size)=true then pure (.done (some (finA a b (o.push x++b.extract (j+1) (j+1+k)) i (j+1+k)),o.push x++b.extract (j+1) (j+1+k),i,j+1+k,mg,ac,k))
    else lowD a b (o.push x++b.extract (j+1) (j+1+k)) i (j+1+k) mg ac k
   else lowD a b (o.push x) i (j+1) mg ac k
  | _=>pure (.done (some (finA a b (o.push x) i (j+1)),o.push x,i,j+1,mg,ac,bc))
noncomputable def lowB (a b o:Array Keyed) (i j mg ac bc:Nat):StateT SortSt Sem (ForInStep GS):=do
 let x ← elem' b j
 let r ← gallop' false x a i (a.size - i) 0
 match r with
 | some k=>
  if k>0 then
   if (i+k+1==a.size)=true then pure (.done (some (lastA a b (o++a.extract i (i+k)) (i+k) j),o++a.extract i (i+k),i+k,j,mg,k,bc))
   else if (i+k==a.size)=true then pure (.done (some (finA a b (o++a.extract i (i+k)) (i+k) j),o++a.extract i (i+k),i+k,j,mg,k,bc))
   else lowC a b (o++a.extract i (i+k)) (i+k) j mg k bc
  else lowC a b o i j mg k bc
 | _=>pure (.done (some (finA a b o i j),o,i,j,mg,ac,bc))
noncomputable def mgSet (m:Nat):StateT SortSt Sem PUnit:=modify fun s=>SortSt.mk' (kindOf s) (arrOf s) (pendingOf s) m (failedOf s)
noncomputable def lowG (a b:Array Keyed) (c:GS):StateT SortSt Sem (ForInStep GS):=
 if c.2.2.2.2.1>1 then do mgSet (c.2.2.2.2.1 - 1);lowB a b c.2.1 c.2.2.1 c.2.2.2.1 (c.2.2.2.2.1 - 1) c.2.2.2.2.2.1 c.2.2.2.2.2.2
 else do mgSet c.2.2.2.2.1;lowB a b c.2.1 c.2.2.1 c.2.2.2.1 c.2.2.2.2.1 c.2.2.2.2.2.1 c.2.2.2.2.2.2
noncomputable def GPost (κ:PyProof.Rows.KeyKind) (a b:Array Keyed) (m:Nat) (r:ForInStep GS):Prop:=
 match r with
 | .yield c=>∃ o i j mg ac bc,c=(none,o,i,j,mg,ac,bc)∧ML κ a b o i j∧m≤i+j
 | .done c=>(∃ o i j mg ac bc,c=(none,o,i,j,mg,ac,bc)∧ML κ a b o i j∧m≤i+j)∨∃ out,c.1=some out∧Merged κ a.toList b.toList out.toList
theorem low_le {κ:PyProof.Rows.KeyKind} {l:List Keyed} (hl:Rise κ l) {i:Nat} (hi:i<l.length):∀ q∈l.drop i,κ.kle (kk κ l[i]) (kk κ q):=by
 have:=hl.drop (i:=i)
 rw [List.drop_eq_getElem_cons hi,List.pairwise_cons] at this
 intro q hq
 rw [List.drop_eq_getElem_cons hi] at hq
 rcases List.mem_cons.mp hq with rfl | hq
 ·exact KeyOrd.kle_refl _
 ·exact this.1 q hq
theorem w_lowD {a b o:Array Keyed} {i j mg ac bc m:Nat} {st:SortSt} {Q:ForInStep GS→SortSt→Prop} (M:ML κ a b o i j) (ha:Rise κ a.toList) (hb:Rise κ b.toList) (hL:∀ q∈b.toList,κ.kle (kk κ q) (kk κ (a[a.size - 1]'(by have:=M.hi;lia))))
  (hy:∀ q∈b.toList.drop j,κ.kle (kk κ (a[i]'(by have:=M.hi;lia))) (kk κ q)) (hm:m≤i+1+j) (h:∀ r,GPost κ a b m r→Q r st):wpS (model prog w) A E s (lowD a b o i j mg ac bc) Q st:=by
 have hi:=M.hi
 unfold lowD
 refine wpS_bind (w_elem (by lia) ?_)
 have M1:MI κ a.toList b.toList (o.push a[i]).toList (i+1) j:=by
  rw [Array.toList_push]
  exact M.mi.pushA ha (by simpa using Nat.lt_of_succ_lt hi) (by simpa using hy)
 by_cases h1:(i+1+1==a.size)=true
 ·rw [if_pos h1]
  exact wpS_pure (h _ (.inr ⟨_,rfl,last_A M1 ha hb (by simpa using h1) hL⟩))
 rw [if_neg h1]
 have M2:ML κ a b (o.push a[i]) (i+1) j:=⟨M1,by simp at h1;lia,M.hj⟩
 by_cases h2:(decide (ac<7)&&decide (bc<7))=true
 ·rw [if_pos h2]
  exact wpS_pure (h _ (.inl ⟨_,_,_,_,_,_,rfl,M2,hm⟩))
 ·rw [if_neg h2]
  exact wpS_pure (h _ ⟨_,_,_,_,_,_,rfl,M2,hm⟩)
theorem rise_KK {xs:Array Keyed} (hr:Rise κ xs.toList) {i j:Nat} (hij:i≤j) (hj:j<xs.size):κ.kle (KK κ xs i) (KK κ xs j):=by
 rw [KK_kk (by lia),KK_kk hj]
 rcases Nat.lt_or_eq_of_le hij with h | h
 ·have:=(List.pairwise_iff_getElem.mp hr) i j (by simpa using by lia) (by simpa using hj) h
  simpa using this
 ·subst h;exact KeyOrd.kle_refl _
theorem bey_mono {xs:Array Keyed} (hr:Rise κ xs.toList) {left:Bool} {k:κ.α} {b n:Nat} (hn:b+n≤xs.size):∀ i j,i≤j→j<n→bey κ left k xs b j=true→bey κ left k xs b i=true:=by
 intro i j hij hj h
 have h1:=rise_KK hr (i:=b+i) (j:=b+j) (by lia) (by lia)
 cases left with
 | true=>
  have h':κ.klt (KK κ xs (b+j)) k:=h
  exact KeyOrd.klt_of_kle_of_klt h1 h'
 | false=>
  simp only [bey,Bool.false_eq_true,if_false,Bool.not_eq_true'] at h ⊢
  have h':κ.kle (KK κ xs (b+j)) k:=h
  exact KeyOrd.kle_trans h1 h'
theorem kk_key {xs:Array Keyed} {i:Nat} (hK:KeysOf κ xs) (hi:i<xs.size):κ.keyOf xs[i].1=some (kk κ xs[i]):=by
 rw [key_at hK hi,KK_kk hi]
theorem mem_drop_at {xs:Array Keyed} {i:Nat} {q:Keyed} (h:q∈xs.toList.drop i):∃ t,∃ ht:t<xs.size,i≤t∧xs[t]=q:=by
 obtain ⟨n,hn,rfl⟩:=List.mem_iff_getElem.mp h
 have:i+n<xs.size:=by simp at hn;lia
 exact ⟨i+n,this,by lia,by simp⟩
theorem more_A {a b o:Array Keyed} {i j k:Nat} (M:MI κ a.toList b.toList o.toList i j) (ha:Rise κ a.toList) (hk:i+k≤a.size) (h:∀ t (ht:t<a.size),i≤t→t<i+k→∀ q∈b.toList.drop j,κ.kle (kk κ a[t]) (kk κ q)):MI κ a.toList b.toList (o++a.extract i (i+k)).toList (i+k) j:=by
 have:=MI.moreA ha k M (by simpa using hk) fun t ht h1 h2 q hq=>by simpa using h t (by simpa using ht) h1 h2 q hq
 rw [Array.toList_append,Array.toList_extract,List.extract_eq_drop_take,Nat.add_sub_cancel_left]
 exact this
theorem more_B {a b o:Array Keyed} {i j k:Nat} (M:MI κ a.toList b.toList o.toList i j) (hb:Rise κ b.toList) (hk:j+k≤b.size) (h:∀ t (ht:t<b.size),j≤t→t<j+k→∀ q∈a.toList.drop i,κ.kle (kk κ b[t]) (kk κ q)):MI κ a.toList b.toList (o++b.extract j (j+k)).toList i (j+k):=by
 have:=MI.moreB hb k M (by simpa using hk) fun t ht h1 h2 q hq=>by simpa using h t (by simpa using ht) h1 h2 q hq
 rw [Array.toList_append,Array.toList_extract,List.extract_eq_drop_take,Nat.add_sub_cancel_left]
 exact this
theorem w_lowC (hO:LtAt κ prog w A s kd) {a b o:Array Keyed} {i j mg ac bc m:Nat} {st:SortSt} {Q:ForInStep GS→SortSt→Prop} (hk:kindOf st=kd) (hKa:KeysOf κ a) (hKb:KeysOf κ b) (M:ML κ a b o i j) (ha:Rise κ a.toList) (hb:Rise κ b.toList) (hL:∀ q∈b.toList,κ.kle (kk κ q) (kk κ (a[a.size - 1]'(by have:=M.hi;lia))))
  (hx:∀ q∈a.toList.drop i,κ.kle (kk κ (b[j]'M.hj)) (kk κ q)) (hm:m≤i+1+j+1) (h:∀ r,GPost κ a b m r→Q r st):wpS (model prog w) A E s (lowC a b o i j mg ac bc) Q st:=by
 have hi:=M.hi
 have hj:=M.hj
 unfold lowC
 refine wpS_bind (w_elem hj ?_)
 have M1:MI κ a.toList b.toList (o.push b[j]).toList i (j+1):=by
  rw [Array.toList_push]
  exact M.mi.pushB hb (by simpa using hj) (by simpa using hx)
 by_cases h1:(j+1==b.size)=true
 ·rw [if_pos h1]
  exact wpS_pure (h _ (.inr ⟨_,rfl,fin_B M1 ha (by simpa using h1)⟩))
 rw [if_neg h1]
 have hj1:j+1<b.size:=by simp at h1;lia
 refine wpS_bind (w_elem (by lia) ?_)
 refine wpS_bind (w_gallop hO hk hKb (kk_key hKa (by lia)) (by lia) (by lia) (bey_mono hb (by lia)) fun p hp h2 h3=>?_)
 dsimp only
 have hlow:∀ q∈a.toList.drop i,κ.kle (kk κ a[i]) (kk κ q):=low_le ha (i:=i) (show i<a.size from by lia)
 have h2':∀ t (ht:t<b.size),j+1≤t→t<j+1+p→κ.kle (kk κ b[t]) (kk κ a[i]):=fun t ht h4 h5=>by
  have:=h2 (t - (j+1)) (by lia)
  simp only [bey,if_true,show j+1+(t - (j+1))=t from by lia,KK_kk ht] at this
  exact KeyOrd.kle_of_klt this
 have h3':∀ t (ht:t<b.size),j+1+p≤t→κ.kle (kk κ a[i]) (kk κ b[t]):=fun t ht h4=>by
  have:=h3 (t - (j+1)) (by lia) (by lia)
  simp only [bey,if_true,show j+1+(t - (j+1))=t from by lia,KK_kk ht] at this
  exact this
 by_cases hp0:p>0
 ·rw [if_pos hp0]
  have M2:=more_B M1 hb (k:=p) (by lia) fun t ht h4 h5 q hq=>KeyOrd.kle_trans (h2' t ht h4 h5) (hlow q hq)
  by_cases h6:(j+1+p==b.size)=true
  ·rw [if_pos h6]
   exact wpS_pure (h _ (.inr ⟨_,rfl,fin_B M2 ha (by simpa using h6)⟩))
  ·rw [if_neg h6]
   refine w_lowD ⟨M2,hi,by simp at h6;lia⟩ ha hb hL (fun q hq=>?_) (by lia) h
   obtain ⟨t,ht,h7,rfl⟩:=mem_drop_at hq
   exact h3' t ht h7
 ·rw [if_neg hp0]
  refine w_lowD ⟨M1,hi,hj1⟩ ha hb hL (fun q hq=>?_) (by lia) h
  obtain ⟨t,ht,h7,rfl⟩:=mem_drop_at hq
  exact h3' t ht (by lia)
theorem w_lowB (hO:LtAt κ prog w A s kd) {a b o:Array Keyed} {i j mg ac bc m:Nat} {st:SortSt} {Q:ForInStep GS→SortSt→Prop} (hk:kindOf st=kd) (hKa:KeysOf κ a) (hKb:KeysOf κ b) (M:ML κ a b o i j) (ha:Rise κ a.toList) (hb:Rise κ b.toList) (hL:∀ q∈b.toList,κ.kle (kk κ q) (kk κ (a[a.size - 1]'(by have:=M.hi;lia))))
  (hm:m≤i+1+j+1) (h:∀ r,GPost κ a b m r→Q r st):wpS (model prog w) A E s (lowB a b o i j mg ac bc) Q st:=by
 have hi:=M.hi
 have hj:=M.hj
 unfold lowB
 refine wpS_bind (w_elem hj ?_)
 refine wpS_bind (w_gallop hO hk hKa (kk_key hKb hj) (by lia) (by lia) (bey_mono ha (by lia)) fun p hp h2 h3=>?_)
 dsimp only
 have hlow:∀ q∈b.toList.drop j,κ.kle (kk κ b[j]) (kk κ q):=low_le hb (i:=j) (show j<b.size from hj)
 have h2':∀ t (ht:t<a.size),i≤t→t<i+p→κ.kle (kk κ a[t]) (kk κ b[j]):=fun t ht h4 h5=>by
  have:=h2 (t - i) (by lia)
  simp only [bey,Bool.false_eq_true,if_false,Bool.not_eq_true',show i+(t - i)=t from by lia,KK_kk ht] at this
  exact this
 have h3':∀ t (ht:t<a.size),i+p≤t→κ.kle (kk κ b[j]) (kk κ a[t]):=fun t ht h4=>by
  have:=h3 (t - i) (by lia) (by lia)
  simp only [bey,Bool.false_eq_true,if_false,Bool.not_eq_false',show i+(t - i)=t from by lia,KK_kk ht] at this
  exact KeyOrd.kle_of_klt this
 by_cases hp0:p>0
 ·rw [if_pos hp0]
  have M2:=more_A M.mi ha (k:=p) (by lia) fun t ht h4 h5 q hq=>KeyOrd.kle_trans (h2' t ht h4 h5) (hlow q hq)
  by_cases h6:(i+p+1==a.size)=true
  ·rw [if_pos h6]
   exact wpS_pure (h _ (.inr ⟨_,rfl,last_A M2 ha hb (by simpa using h6) hL⟩))
  rw [if_neg h6]
  by_cases h8:(i+p==a.size)=true
  ·rw [if_pos h8]
   exact wpS_pure (h _ (.inr ⟨_,rfl,fin_A M2 hb (by simpa using h8)⟩))
  ·rw [if_neg h8]
   refine w_lowC hO hk hKa hKb ⟨M2,by simp at h6 h8;lia,hj⟩ ha hb hL (fun q hq=>?_) (by lia) h
   obtain ⟨t,ht,h7,rfl⟩:=mem_drop_at hq
   exact h3' t ht h7
 ·rw [if_neg hp0]
  refine w_lowC hO hk hKa hKb M ha hb hL (fun q hq=>?_) (by lia) h
  obtain ⟨t,ht,h7,rfl⟩:=mem_drop_at hq
  exact h3' t ht (by lia)
noncomputable abbrev IS:=Option (Array Keyed)×Array Keyed×Nat×Nat×Nat×Nat
noncomputable abbrev OS:=Option (Array Keyed)×Array Keyed×Nat×Nat×Nat
noncomputable def lowI (a b:Array Keyed) (mg:Nat) (c:IS):StateT SortSt Sem (ForInStep IS):=do
 let x ← elem' b c.2.2.2.1
 let y ← elem' a c.2.2.1
 let r ← lt' x y
 match r with
 | some bw=>
  if bw=true then do
   let z ← elem' b c.2.2.2.1
   if (c.2.2.2.1+1==b.size)=true then pure (.done (some (finA a b (c.2.1.push z) c.2.2.1 (c.2.2.2.1+1)),c.2.1.push z,c.2.2.1,c.2.2.2.1+1,0,c.2.2.2.2.2+1))
   else if c.2.2.2.2.2+1≥mg then pure (.done (none,c.2.1.push z,c.2.2.1,c.2.2.2.1+1,0,c.2.2.2.2.2+1))
   else pure (.yield (none,c.2.1.push z,c.2.2.1,c.2.2.2.1+1,0,c.2.2.2.2.2+1))
  else do
   let z ← elem' a c.2.2.1
   if (c.2.2.1+1+1==a.size)=true then pure (.done (some (lastA a b (c.2.1.push z) (c.2.2.1+1) c.2.2.2.1),c.2.1.push z,c.2.2.1+1,c.2.2.2.1,c.2.2.2.2.1+1,0))
   else if c.2.2.2.2.1+1≥mg then pure (.done (none,c.2.1.push z,c.2.2.1+1,c.2.2.2.1,c.2.2.2.2.1+1,0))
   else pure (.yield (none,c.2.1.push z,c.2.2.1+1,c.2.2.2.1,c.2.2.2.2.1+1,0))
 | _=>pure (.done (some (finA a b c.2.1 c.2.2.1 c.2.2.2.1),c.2.1,c.2.2.1,c.2.2.2.1,c.2.2.2.2.1,c.2.2.2.2.2))
noncomputable def lowR (a b:Array Keyed) (mg:Nat) (c:IS):StateT SortSt Sem (ForInStep OS):=
 match c.1 with
 | some r=>pure (.done (some r,c.2.1,c.2.2.1,c.2.2.2.1,mg))
 | none=>do
  rule "list.sort.gallop"
  let d ← forIn [:a.size+b.size] ((none,c.2.1,c.2.2.1,c.2.2.2.1,mg+1,c.2.2.2.2.1,c.2.2.2.2.2):GS) fun _ d=>lowG a b d
  match d.1 with
  | some r=>pure (.done (some r,d.2.1,d.2.2.1,d.2.2.2.1,d.2.2.2.2.1))
  | none=>do
   mgSet (d.2.2.2.2.1+1)
   pure (.yield (none,d.2.1,d.2.2.1,d.2.2.2.1,d.2.2.2.2.1+1))
noncomputable def lowO (a b:Array Keyed) (c:OS):StateT SortSt Sem (ForInStep OS):=do
 let d ← forIn [:a.size+b.size] ((none,c.2.1,c.2.2.1,c.2.2.2.1,0,0):IS) fun _ d=>lowI a b c.2.2.2.2 d
 lowR a b c.2.2.2.2 d
noncomputable def lowF (c:OS):StateT SortSt Sem (Array Keyed):=
 match c.1 with
 | some r=>pure r
 | none=>unsupported "internal:list.sort.merge-bound"
theorem mergeLo'_eq (a b:Array Keyed):mergeLo' a b=(do
  rule "list.sort.merge-lo"
  let x ← elem' b 0
  if (1==b.size)=true then pure (finA a b #[x] 0 1)
  else if (0+1==a.size)=true then pure (lastA a b #[x] 0 1)
  else do
   let st ← get
   let c ← forIn [:a.size+b.size] ((none,#[x],0,1,gallopOf st):OS) fun _ c=>lowO a b c
   lowF c):=by kernel_rfl
noncomputable def IPost (κ:PyProof.Rows.KeyKind) (a b:Array Keyed) (m:Nat) (r:ForInStep IS):Prop:=
 match r with
 | .yield c=>∃ o i j ac bc,c=(none,o,i,j,ac,bc)∧ML κ a b o i j∧m+1≤i+j
 | .done c=>(∃ o i j ac bc,c=(none,o,i,j,ac,bc)∧ML κ a b o i j∧m+1≤i+j)∨∃ out,c.1=some out∧Merged κ a.toList b.toList out.toList
noncomputable def OPost (κ:PyProof.Rows.KeyKind) (a b:Array Keyed) (m:Nat) (r:ForInStep OS):Prop:=
 match r with
 | .yield c=>∃ o i j mg,c=(none,o,i,j,mg)∧ML κ a b o i j∧m≤i+j
 | .done c=>∃ out,c.1=some out∧Merged κ a.toList b.toList out.toList
theorem w_lowI (hO:LtAt κ prog w A s kd) {st:SortSt} {a b o:Array Keyed} {i' j' mg ac bc m:Nat} {Q:ForInStep IS→SortSt→Prop} (hk:kindOf st=kd) (hKa:KeysOf κ a) (hKb:KeysOf κ b) (ha:Rise κ a.toList) (hb:Rise κ b.toList)
  (M:ML κ a b o i' j') (hL:∀ q∈b.toList,κ.kle (kk κ q) (kk κ (a[a.size - 1]'(by have:=M.hi;lia)))) (hm:m≤i'+j') (h:∀ r,IPost κ a b m r→Q r st):wpS (model prog w) A E s (lowI a b mg (none,o,i',j',ac,bc)) Q st:=by
 have hi:=M.hi
 have hj:=M.hj
 unfold lowI
 dsimp only
 refine wpS_bind (w_elem hj ?_)
 refine wpS_bind (w_elem (by lia) ?_)
 refine wpS_bind (w_ltK hO hk (kk_key hKb hj) (kk_key hKa (by lia)) ?_)
 dsimp only
 have la:=low_le ha (i:=i') (show i'<a.size from by lia)
 have lb:=low_le hb (i:=j') (show j'<b.size from hj)
 cases hq:κ.blt (kk κ b[j']) (kk κ a[i']) with
 | true=>
  rw [if_pos rfl]
  refine wpS_bind (w_elem hj ?_)
  have M1:MI κ a.toList b.toList (o.push b[j']).toList i' (j'+1):=by
   rw [Array.toList_push]
   exact M.mi.pushB hb hj fun q hq'=>KeyOrd.kle_trans (KeyOrd.kle_of_klt hq) (la q hq')
  by_cases h1:(j'+1==b.size)=true
  ·rw [if_pos h1]
   exact wpS_pure (h _ (.inr ⟨_,rfl,fin_B M1 ha (eq_of_beq h1)⟩))
  rw [if_neg h1]
  have M2:ML κ a b (o.push b[j']) i' (j'+1):=⟨M1,hi,Nat.lt_of_le_of_ne hj fun e=>h1 (beq_iff_eq.mpr e)⟩
  by_cases h2:bc+1≥mg
  ·rw [if_pos h2]
   exact wpS_pure (h _ (.inl ⟨_,_,_,_,_,rfl,M2,Nat.succ_le_succ hm⟩))
  ·rw [if_neg h2]
   exact wpS_pure (h _ ⟨_,_,_,_,_,rfl,M2,Nat.succ_le_succ hm⟩)
 | false=>
  rw [if_neg Bool.false_ne_true]
  refine wpS_bind (w_elem (by lia) ?_)
  have M1:MI κ a.toList b.toList (o.push a[i']).toList (i'+1) j':=by
   rw [Array.toList_push]
   exact M.mi.pushA ha (show i'<a.size from by lia) fun q hq'=>KeyOrd.kle_trans (show κ.kle (kk κ a[i']) (kk κ b[j']) from hq) (lb q hq')
  by_cases h1:(i'+1+1==a.size)=true
  ·rw [if_pos h1]
   exact wpS_pure (h _ (.inr ⟨_,rfl,last_A M1 ha hb (eq_of_beq h1) hL⟩))
  rw [if_neg h1]
  have M2:ML κ a b (o.push a[i']) (i'+1) j':=⟨M1,Nat.lt_of_le_of_ne hi fun e=>h1 (beq_iff_eq.mpr e),hj⟩
  by_cases h2:ac+1≥mg
  ·rw [if_pos h2]
   exact wpS_pure (h _ (.inl ⟨_,_,_,_,_,rfl,M2,by lia⟩))
  ·rw [if_neg h2]
   exact wpS_pure (h _ ⟨_,_,_,_,_,rfl,M2,by lia⟩)
theorem w_lowG (hO:LtAt κ prog w A s kd) {st st2:SortSt} {a b o:Array Keyed} {i j mg ac bc m:Nat} {Q:ForInStep GS→SortSt→Prop} (hk:kindOf st=kd) (hKa:KeysOf κ a) (hKb:KeysOf κ b) (ha:Rise κ a.toList) (hb:Rise κ b.toList)
  (hS:Same st st2) (M:ML κ a b o i j) (hL:∀ q∈b.toList,κ.kle (kk κ q) (kk κ (a[a.size - 1]'(by have:=M.hi;lia)))) (hm:m≤i+1+j+1) (h:∀ r st3,Same st st3→GPost κ a b m r→Q r st3):wpS (model prog w) A E s (lowG a b (none,o,i,j,mg,ac,bc)) Q st2:=by
 unfold lowG
 dsimp only
 by_cases h1:mg>1
 ·rw [if_pos h1]
  have hS3:=hS.mk'' (mg - 1)
  exact wpS_bind (wpS_modify (w_lowB hO (hS3.kind.trans hk) hKa hKb M ha hb hL hm fun r hr=>h r _ hS3 hr))
 ·rw [if_neg h1]
  have hS3:=hS.mk'' mg
  exact wpS_bind (wpS_modify (w_lowB hO (hS3.kind.trans hk) hKa hKb M ha hb hL hm fun r hr=>h r _ hS3 hr))
theorem w_lowR (hO:LtAt κ prog w A s kd) {st st1:SortSt} {a b o:Array Keyed} {i' j' mg ac bc m:Nat} {Q:ForInStep OS→SortSt→Prop} (hk:kindOf st=kd) (hKa:KeysOf κ a) (hKb:KeysOf κ b) (ha:Rise κ a.toList) (hb:Rise κ b.toList)
  (hS:Same st st1) (M:ML κ a b o i' j') (hL:∀ q∈b.toList,κ.kle (kk κ q) (kk κ (a[a.size - 1]'(by have:=M.hi;lia)))) (hm:m≤i'+j') (h:∀ r st3,Same st st3→OPost κ a b m r→Q r st3):wpS (model prog w) A E s (lowR a b mg (none,o,i',j',ac,bc)) Q st1:=by
 unfold lowR
 dsimp only
 refine wpS_bind (wpS_lift (wpAny_rule ⟨rfl,?_⟩))
 refine wpS_bind (wpS_mono (wpS_forRange (I:=fun y c st2=>Same st st2∧∃ o i2 j2 mg ac bc,c=(none,o,i2,j2,mg,ac,bc)∧ML κ a b o i2 j2∧i'+j'+y≤i2+j2)
  (Q:=fun c st2=>Same st st2∧((∃ o i2 j2 mg ac bc,c=(none,o,i2,j2,mg,ac,bc)∧ML κ a b o i2 j2∧i'+j'≤i2+j2)∨∃ out,c.1=some out∧Merged κ a.toList b.toList out.toList)) (fun y c st2 _ hy hI=>?_) (fun c st2 hI=>?_) ⟨hS,_,_,_,_,_,_,rfl,M,Nat.le_refl _⟩) fun c st2 hI=>?_)
 ·obtain ⟨hS2,o2,i2,j2,mg2,ac2,bc2,rfl,M2,hm2⟩:=hI
  refine w_lowG hO hk hKa hKb ha hb hS2 M2 hL (m:=i'+j'+y+1) (by lia) fun r st3 hS3 hr=>?_
  cases r with
  | yield c=>obtain ⟨o,i3,j3,mg,ac,bc,rfl,M3,hm3⟩:=hr;exact ⟨hS3,_,_,_,_,_,_,rfl,M3,hm3⟩
  | done c=>
   rcases hr with ⟨o,i3,j3,mg,ac,bc,rfl,M3,hm3⟩ | hr
   ·exact ⟨hS3,.inl ⟨_,_,_,_,_,_,rfl,M3,by lia⟩⟩
   ·exact ⟨hS3,.inr hr⟩
 ·obtain ⟨hS2,o2,i2,j2,mg2,ac2,bc2,rfl,M2,hm2⟩:=hI
  exfalso
  have:=M2.hi;have:=M2.hj
  lia
 ·obtain ⟨hS2,⟨o2,i2,j2,mg2,ac2,bc2,rfl,M2,hm2⟩ | ⟨out,hc,hM⟩⟩:=hI
  ·dsimp only
   exact wpS_bind (wpS_modify (wpS_pure (h _ _ (hS2.mk'' _) ⟨_,_,_,_,rfl,M2,Nat.le_trans hm hm2⟩)))
  ·obtain ⟨c1,c2⟩:=c
   cases hc
   exact wpS_pure (h _ _ hS2 ⟨_,rfl,hM⟩)
theorem w_lowO (hO:LtAt κ prog w A s kd) {st st1:SortSt} {a b o:Array Keyed} {i j mg:Nat} {Q:ForInStep OS→SortSt→Prop} (hk:kindOf st=kd) (hKa:KeysOf κ a) (hKb:KeysOf κ b) (ha:Rise κ a.toList) (hb:Rise κ b.toList)
  (hS:Same st st1) (M:ML κ a b o i j) (hL:∀ q∈b.toList,κ.kle (kk κ q) (kk κ (a[a.size - 1]'(by have:=M.hi;lia)))) (h:∀ r st3,Same st st3→OPost κ a b (i+j+1) r→Q r st3):wpS (model prog w) A E s (lowO a b (none,o,i,j,mg)) Q st1:=by
 unfold lowO
 dsimp only
 refine wpS_bind (wpS_mono (wpS_forRange (I:=fun y c st2=>st2=st1∧∃ o i' j' ac bc,c=(none,o,i',j',ac,bc)∧ML κ a b o i' j'∧i+j+y≤i'+j')
  (Q:=fun c st2=>st2=st1∧((∃ o i' j' ac bc,c=(none,o,i',j',ac,bc)∧ML κ a b o i' j'∧i+j+1≤i'+j')∨∃ out,c.1=some out∧Merged κ a.toList b.toList out.toList)) (fun y c st1 _ hy hI=>?_) (fun c st1 hI=>?_) ⟨rfl,_,_,_,_,_,rfl,M,Nat.le_refl _⟩) fun c st1 hI=>?_)
 ·obtain ⟨rfl,o,i',j',ac,bc,rfl,M,hm⟩:=hI
  refine w_lowI hO (hS.kind.trans hk) hKa hKb ha hb M hL hm fun r hr=>?_
  cases r with
  | yield c=>exact ⟨rfl,hr⟩
  | done c=>
   rcases hr with ⟨o,i3,j3,ac,bc,rfl,M3,hm3⟩ | hr
   ·exact ⟨rfl,.inl ⟨_,_,_,_,_,rfl,M3,by lia⟩⟩
   ·exact ⟨rfl,.inr hr⟩
 ·obtain ⟨rfl,o,i',j',ac,bc,rfl,M,hm⟩:=hI
  exfalso
  have:=M.hi;have:=M.hj
  lia
 ·obtain ⟨rfl,⟨o,i',j',ac,bc,rfl,M,hm⟩ | ⟨out,hc,hM⟩⟩:=hI
  ·exact w_lowR hO hk hKa hKb ha hb hS M hL hm h
  ·obtain ⟨c1,c2⟩:=c
   cases hc
   exact wpS_pure (h _ _ hS ⟨_,rfl,hM⟩)
theorem w_mergeLo (hO:LtAt κ prog w A s kd) {st:SortSt} {a b:Array Keyed} {Q:Array Keyed→SortSt→Prop} (hk:kindOf st=kd) (hKa:KeysOf κ a) (hKb:KeysOf κ b) (ha:Rise κ a.toList) (hb:Rise κ b.toList) (h1:1≤a.size) (h2:1≤b.size)
  (hF:∀ q∈a.toList,κ.kle (kk κ b[0]) (kk κ q)) (hL:∀ q∈b.toList,κ.kle (kk κ q) (kk κ a[a.size - 1]))
  (h:∀ out st',Same st st'→Merged κ a.toList b.toList out.toList→Q out st'):wpS (model prog w) A E s (mergeLo' a b) Q st:=by
 rw [mergeLo'_eq]
 refine wpS_bind (wpS_lift (wpAny_rule ⟨rfl,?_⟩))
 refine wpS_bind (w_elem (by lia) ?_)
 have M0:MI κ a.toList b.toList (#[b[0]]:Array Keyed).toList 0 1:=by
  have:MI κ a.toList b.toList ([]:List Keyed) 0 0:=⟨Nat.zero_le _,Nat.zero_le _,by simp,List.Pairwise.nil,(fun p hp=>by cases hp),(fun p hp=>by cases hp)⟩
  exact this.pushB hb (by simpa using Nat.lt_of_lt_of_le Nat.zero_lt_one h2) (by simpa using hF)
 by_cases hb1:(1==b.size)=true
 ·rw [if_pos hb1]
  exact wpS_pure (h _ _ (Same.refl _) (fin_B M0 ha (eq_of_beq hb1)))
 rw [if_neg hb1]
 by_cases ha1:(0+1==a.size)=true
 ·rw [if_pos ha1]
  exact wpS_pure (h _ _ (Same.refl _) (last_A M0 ha hb (eq_of_beq ha1) hL))
 rw [if_neg ha1]
 refine wpS_bind (wpS_get ?_)
 have hb1':1<b.size:=Nat.lt_of_le_of_ne h2 fun e=>hb1 (beq_iff_eq.mpr e)
 have ha1':0+1<a.size:=Nat.lt_of_le_of_ne h1 fun e=>ha1 (beq_iff_eq.mpr e)
 refine wpS_bind (wpS_mono (wpS_forRange (I:=fun x c st'=>Same st st'∧∃ o i j mg,c=(none,o,i,j,mg)∧ML κ a b o i j∧x+1≤i+j)
  (Q:=fun c st'=>Same st st'∧∃ out,c.1=some out∧Merged κ a.toList b.toList out.toList) (fun x c st' _ hx hI=>?_) (fun c st' hI=>?_) ⟨Same.refl _,_,_,_,_,rfl,⟨M0,ha1',hb1'⟩,Nat.le_refl _⟩) fun c st' hI=>?_)
 ·obtain ⟨hS,o,i,j,mg,rfl,M,hx1⟩:=hI
  refine w_lowO hO hk hKa hKb ha hb hS M hL fun r st3 hS3 hr=>?_
  cases r with
  | yield c=>obtain ⟨o,i3,j3,mg,rfl,M3,hm3⟩:=hr;exact ⟨hS3,_,_,_,_,rfl,M3,by lia⟩
  | done c=>exact ⟨hS3,hr⟩
 ·obtain ⟨hS,o,i,j,mg,rfl,ML0,hx1⟩:=hI
  exfalso
  have:=ML0.hi;have:=ML0.hj
  simp at hx1
  lia
 ·obtain ⟨hS,out,hc,hM⟩:=hI
  obtain ⟨c1,c2⟩:=c
  cases hc
  exact wpS_pure (h _ _ hS hM)
end
section
variable {κ:PyProof.Rows.KeyKind}
structure MH (κ:PyProof.Rows.KeyKind) (a b:List Keyed) (out:List Keyed) (i j:Nat):Prop where
 hi:i≤a.length
 hj:j≤b.length
 perm:out.Perm (a.drop i++b.drop j)
 fall:out.Pairwise fun p q=>κ.kle (kk κ q) (kk κ p)
 la:∀ p∈out,∀ q∈a.take i,κ.kle (kk κ q) (kk κ p)
 lb:∀ p∈out,∀ q∈b.take j,κ.kle (kk κ q) (kk κ p)
theorem rise_top {l:List Keyed} (hl:Rise κ l) {i:Nat} (hi:i<l.length):∀ q∈l.take i,κ.kle (kk κ q) (kk κ l[i]):=by
 intro q hq
 obtain ⟨n,hn,rfl⟩:=List.mem_iff_getElem.mp hq
 have h1:n<i:=by simp at hn;lia
 have:=(List.pairwise_iff_getElem.mp hl) n i (by lia) hi h1
 simpa using this
theorem fall_snoc {l:List Keyed} {x:Keyed} (h:l.Pairwise fun p q=>κ.kle (kk κ q) (kk κ p)) (hx:∀ p∈l,κ.kle (kk κ x) (kk κ p)):(l++[x]).Pairwise fun p q=>κ.kle (kk κ q) (kk κ p):=by
 rw [List.pairwise_append]
 exact ⟨h,List.pairwise_singleton _ _,fun p hp q hq=>by rw [List.mem_singleton.mp hq];exact hx p hp⟩
theorem MH.pushA {a b out:List Keyed} {i j:Nat} (M:MH κ a b out (i+1) j) (ha:Rise κ a) (hi:i<a.length) (h:∀ q∈b.take j,κ.kle (kk κ q) (kk κ a[i])):MH κ a b (out++[a[i]]) i j:=by
 have e:a.take (i+1)=a.take i++[a[i]]:=List.take_succ_eq_append_getElem hi
 refine ⟨Nat.le_of_lt hi,M.hj,?_,fall_snoc M.fall fun p hp=>M.la p hp _ (by rw [e];exact List.mem_append_right _ (List.mem_singleton.mpr rfl)),fun p hp q hq=>?_,fun p hp q hq=>?_⟩
 ·rw [List.drop_eq_getElem_cons hi]
  refine (M.perm.append_right _).trans ?_
  exact List.perm_append_comm
 ·rcases List.mem_append.mp hp with hp | hp
  ·exact M.la p hp q (by rw [e];exact List.mem_append_left _ hq)
  ·rw [List.mem_singleton.mp hp];exact rise_top ha hi q hq
 ·rcases List.mem_append.mp hp with hp | hp
  ·exact M.lb p hp q hq
  ·rw [List.mem_singleton.mp hp];exact h q hq
theorem MH.pushB {a b out:List Keyed} {i j:Nat} (M:MH κ a b out i (j+1)) (hb:Rise κ b) (hj:j<b.length) (h:∀ q∈a.take i,κ.kle (kk κ q) (kk κ b[j])):MH κ a b (out++[b[j]]) i j:=by
 have e:b.take (j+1)=b.take j++[b[j]]:=List.take_succ_eq_append_getElem hj
 refine ⟨M.hi,Nat.le_of_lt hj,?_,fall_snoc M.fall fun p hp=>M.lb p hp _ (by rw [e];exact List.mem_append_right _ (List.mem_singleton.mpr rfl)),fun p hp q hq=>?_,fun p hp q hq=>?_⟩
 ·rw [List.drop_eq_getElem_cons hj]
  refine (M.perm.append_right _).trans ?_
  rw [List.append_assoc]
  refine List.Perm.append_left _ ?_
  exact List.perm_append_comm
 ·rcases List.mem_append.mp hp with hp | hp
  ·exact M.la p hp q hq
  ·rw [List.mem_singleton.mp hp];exact h q hq
 ·rcases List.mem_append.mp hp with hp | hp
  ·exact M.lb p hp q (by rw [e];exact List.mem_append_left _ hq)
  ·rw [List.mem_singleton.mp hp];exact rise_top hb hj q hq
theorem rev_last {l:List Keyed} {i k:Nat} (h:i+k<l.length):((l.drop i).take (k+1)).reverse=l[i+k]::((l.drop i).take k).reverse:=by
 rw [List.take_succ_eq_append_getElem (by simp;lia),List.reverse_append]
 simp
theorem MH.moreA {a b:List Keyed} (ha:Rise κ a) {j:Nat}:∀ (k:Nat) {out:List Keyed} {i:Nat},MH κ a b out (i+k) j→i+k≤a.length→(∀ t (ht:t<a.length),i≤t→t<i+k→∀ q∈b.take j,κ.kle (kk κ q) (kk κ a[t]))→MH κ a b (out++((a.drop i).take k).reverse) i j
 | 0,out,i,M,_,_=>by simpa using M
 | k+1,out,i,M,hk,h=>by
  have hi:i+k<a.length:=by lia
  have M1:=MH.pushA (i:=i+k) M ha hi (h (i+k) hi (by lia) (by lia))
  have M2:=MH.moreA ha k M1 (by lia) fun t ht h1 h2=>h t ht h1 (by lia)
  rw [rev_last hi]
  rw [List.append_assoc] at M2
  exact M2
theorem MH.moreB {a b:List Keyed} (hb:Rise κ b) {i:Nat}:∀ (k:Nat) {out:List Keyed} {j:Nat},MH κ a b out i (j+k)→j+k≤b.length→(∀ t (ht:t<b.length),j≤t→t<j+k→∀ q∈a.take i,κ.kle (kk κ q) (kk κ b[t]))→MH κ a b (out++((b.drop j).take k).reverse) i j
 | 0,out,j,M,_,_=>by simpa using M
 | k+1,out,j,M,hk,h=>by
  have hj:j+k<b.length:=by lia
  have M1:=MH.pushB (j:=j+k) M hb hj (h (j+k) hj (by lia) (by lia))
  have M2:=MH.moreB hb k M1 (by lia) fun t ht h1 h2=>h t ht h1 (by lia)
  rw [rev_last hj]
  rw [List.append_assoc] at M2
  exact M2
theorem MH.endA {a b out:List Keyed} {j:Nat} (M:MH κ a b out 0 j) (hb:Rise κ b):Merged κ a b (b.take j++out.reverse):=by
 refine ⟨?_,?_⟩
 ·refine (List.Perm.append_left _ ((List.reverse_perm _).trans M.perm)).trans ?_
  rw [List.drop_zero]
  refine List.perm_append_comm.trans ?_
  rw [List.append_assoc]
  refine List.Perm.append_left _ (List.perm_append_comm.trans ?_)
  rw [List.take_append_drop]
 ·unfold Rise
  rw [List.pairwise_append]
  exact ⟨hb.sublist (List.take_sublist _ _),List.pairwise_reverse.mpr M.fall,fun p hp q hq=>M.lb q (List.mem_reverse.mp hq) p hp⟩
theorem MH.endB {a b out:List Keyed} {i:Nat} (M:MH κ a b out i 0) (ha:Rise κ a):Merged κ a b (a.take i++out.reverse):=by
 refine ⟨?_,?_⟩
 ·refine (List.Perm.append_left _ ((List.reverse_perm _).trans M.perm)).trans ?_
  rw [List.drop_zero,← List.append_assoc,List.take_append_drop]
 ·unfold Rise
  rw [List.pairwise_append]
  exact ⟨ha.sublist (List.take_sublist _ _),List.pairwise_reverse.mpr M.fall,fun p hp q hq=>M.la q (List.mem_reverse.mp hq) p hp⟩
theorem MH.endF {a b out:List Keyed} {i:Nat} (M:MH κ a b out i 1) (ha:Rise κ a) (hb':Rise κ b) (hb:0<b.length) (hF:∀ q∈a,κ.kle (kk κ b[0]) (kk κ q)):Merged κ a b (b.take 1++a.take i++out.reverse):=by
 have e:b.take 1=[b[0]]:=by rw [List.take_succ_eq_append_getElem hb];rfl
 have M2:=MH.moreA (i:=0) ha i (by simpa using M) (by have:=M.hi;lia) fun t ht h1 h2 q hq=>by
  rw [e] at hq
  rw [List.mem_singleton.mp hq]
  exact hF _ (List.getElem_mem ht)
 rw [List.drop_zero] at M2
 have:=M2.endA hb'
 rw [List.reverse_append,List.reverse_reverse,← List.append_assoc] at this
 exact this
end
noncomputable def mergeHi':Array Keyed→Array Keyed→StateT SortSt Sem (Array Keyed):=sortPriv% PySem.Builtin.mergeHi
section
variable {prog:Program} {w:World} {A:Around} {E:Value→Shared→Prop} {s:Shared} {κ:PyProof.Rows.KeyKind} {kd:SortKind}
structure MU (κ:PyProof.Rows.KeyKind) (a b:Array Keyed) (o:Array Keyed) (i j:Nat):Prop where
 mi:MH κ a.toList b.toList o.toList i j
 hi:0<i
 hj:1<j
theorem MU.hi' {a b o:Array Keyed} {i j:Nat} (M:MU κ a b o i j):i≤a.size:=by simpa using M.mi.hi
theorem MU.hj' {a b o:Array Keyed} {i j:Nat} (M:MU κ a b o i j):j≤b.size:=by simpa using M.mi.hj
noncomputable def finH (a b o:Array Keyed) (i j:Nat):Array Keyed:=a.extract 0 i++b.extract 0 j++o.reverse
noncomputable def firstH (a b o:Array Keyed) (i j:Nat):Array Keyed:=b.extract 0 j++a.extract 0 i++o.reverse
theorem ext0_toList (a:Array Keyed) (i:Nat):(a.extract 0 i).toList=a.toList.take i:=by
 rw [Array.toList_extract,List.extract_eq_drop_take];simp
theorem finH_A {a b o:Array Keyed} {i j:Nat} (M:MH κ a.toList b.toList o.toList i j) (hb:Rise κ b.toList) (hi:i=0):Merged κ a.toList b.toList (finH a b o i j).toList:=by
 subst hi
 unfold finH
 rw [Array.toList_append,Array.toList_append,ext0_toList,ext0_toList,Array.toList_reverse,List.take_zero,List.nil_append]
 exact M.endA hb
theorem finH_B {a b o:Array Keyed} {i j:Nat} (M:MH κ a.toList b.toList o.toList i j) (ha:Rise κ a.toList) (hj:j=0):Merged κ a.toList b.toList (finH a b o i j).toList:=by
 subst hj
 unfold finH
 rw [Array.toList_append,Array.toList_append,ext0_toList,ext0_toList,Array.toList_reverse,List.take_zero,List.append_nil]
 exact M.endB ha
theorem firstH_F {a b o:Array Keyed} {i j:Nat} (M:MH κ a.toList b.toList o.toList i j) (ha:Rise κ a.toList) (hb:Rise κ b.toList) (hj:j=1) (h2:0<b.size) (hF:∀ q∈a.toList,κ.kle (kk κ b[0]) (kk κ q)):Merged κ a.toList b.toList (firstH a b o i j).toList:=by
 subst hj
 unfold firstH
 rw [Array.toList_append,Array.toList_append,ext0_toList,ext0_toList,Array.toList_reverse]
 exact M.endF ha hb h2 hF
theorem push_HA {a b o:Array Keyed} {i j:Nat} (M:MU κ a b o i j) (ha:Rise κ a.toList) (h:∀ q∈b.toList.take j,κ.kle (kk κ q) (kk κ (a[i - 1]'(by have:=M.hi;have:=M.hi';lia)))):MH κ a.toList b.toList (o.push (a[i - 1]'(by have:=M.hi;have:=M.hi';lia))).toList (i - 1) j:=by
 have h1:=M.hi
 have h2:=M.hi'
 rw [Array.toList_push]
 have:=M.mi
 rw [show i=i - 1+1 from by lia] at this
 exact this.pushA ha (show i - 1<a.size from by lia) h
theorem push_HB {a b o:Array Keyed} {i j:Nat} (M:MU κ a b o i j) (hb:Rise κ b.toList) (h:∀ q∈a.toList.take i,κ.kle (kk κ q) (kk κ (b[j - 1]'(by have:=M.hj;have:=M.hj';lia)))):MH κ a.toList b.toList (o.push (b[j - 1]'(by have:=M.hj;have:=M.hj';lia))).toList i (j - 1):=by
 have h1:=M.hj
 have h2:=M.hj'
 rw [Array.toList_push]
 have:=M.mi
 rw [show j=j - 1+1 from by lia] at this
 exact this.pushB hb (show j - 1<b.size from by lia) h
theorem more_HA {a b o:Array Keyed} {i j t:Nat} (M:MH κ a.toList b.toList o.toList i j) (ha:Rise κ a.toList) (hk:t≤i) (h:∀ u (hu:u<a.size),t≤u→u<i→∀ q∈b.toList.take j,κ.kle (kk κ q) (kk κ a[u])):MH κ a.toList b.toList (o++(a.extract t i).reverse).toList t j:=by
 have hi:=M.hi
 rw [show i=t+(i - t) from by lia] at M
 have:=MH.moreA ha (i - t) M (by lia) fun u hu h1 h2 q hq=>h u (by simpa using hu) h1 (by lia) q hq
 rw [Array.toList_append,Array.toList_reverse,Array.toList_extract,List.extract_eq_drop_take]
 exact this
theorem more_HB {a b o:Array Keyed} {i j t:Nat} (M:MH κ a.toList b.toList o.toList i j) (hb:Rise κ b.toList) (hk:t≤j) (h:∀ u (hu:u<b.size),t≤u→u<j→∀ q∈a.toList.take i,κ.kle (kk κ q) (kk κ b[u])):MH κ a.toList b.toList (o++(b.extract t j).reverse).toList i t:=by
 have hj:=M.hj
 rw [show j=t+(j - t) from by lia] at M
 have:=MH.moreB hb (j - t) M (by lia) fun u hu h1 h2 q hq=>h u (by simpa using hu) h1 (by lia) q hq
 rw [Array.toList_append,Array.toList_reverse,Array.toList_extract,List.extract_eq_drop_take]
 exact this
theorem mem_take_at {xs:Array Keyed} {i:Nat} {q:Keyed} (h:q∈xs.toList.take i):∃ t,∃ ht:t<xs.size,t<i∧xs[t]=q:=by
 obtain ⟨n,hn,rfl⟩:=List.mem_iff_getElem.mp h
 have h1:n<i∧n<xs.size:=by simp at hn;lia
 exact ⟨n,h1.2,h1.1,by simp⟩
theorem top_le {xs:Array Keyed} (hr:Rise κ xs.toList) {i:Nat} (h0:0<i) (hi:i≤xs.size):∀ q∈xs.toList.take i,κ.kle (kk κ q) (kk κ (xs[i - 1]'(by lia))):=by
 intro q hq
 obtain ⟨t,ht,h1,rfl⟩:=mem_take_at hq
 have:=rise_KK hr (i:=t) (j:=i - 1) (by lia) (by lia)
 rwa [KK_kk ht,KK_kk (by lia)] at this
noncomputable abbrev HS:=Option (Array Keyed)×Nat×Nat×Array Keyed×Nat×Nat×Nat
noncomputable def highD (a b o:Array Keyed) (i j mg ac bc:Nat):StateT SortSt Sem (ForInStep HS):=do
 let y ← elem' a (i - 1)
 if (i - 1==0)=true then pure (.done (some (finH a b (o.push y) (i - 1) j),i - 1,j,o.push y,mg,ac,bc))
 else if (decide (ac<7)&&decide (bc<7))=true then pure (.done (none,i - 1,j,o.push y,mg,ac,bc))
 else pure (.yield (none,i - 1,j,o.push y,mg,ac,bc))
noncomputable def highC (a b o:Array Keyed) (i j mg ac bc:Nat):StateT SortSt Sem (ForInStep HS):=do
 let x ← elem' b (j - 1)
 if (j - 1==1)=true then pure (.done (some (firstH a b (o.push x) i (j - 1)),i,j - 1,o.push x,mg,ac,bc))
 else do
  let y ← elem' a (i - 1)
  let r ← gallop' true y b 0 (j - 1) (j - 1 - 1)
  match r with
  | some t=>
   if j - 1 - t>0 then
    if (t==1)=true then pure (.done (some (firstH a b (o.push x++(b.extract t (j - 1)).reverse) i t),i,t,o.push x++(b.extract t (j - 1)).reverse,mg,ac,j - 1 - t))
    else if (t==0)=true then pure (.done (some (finH a b (o.push x++(b.extract t (j - 1)).reverse) i t),i,t,o.push x++(b.extract t (j - 1)).reverse,mg,ac,j - 1 - t))
    else highD a b (o.push x++(b.extract t (j - 1)).reverse) i t mg ac (j - 1 - t)
   else highD a b (o.push x) i (j - 1) mg ac (j - 1 - t)
  | _=>pure (.done (some (finH a b (o.push x) i (j - 1)),i,j - 1,o.push x,mg,ac,bc))
noncomputable def highB (a b o:Array Keyed) (i j mg ac bc:Nat):StateT SortSt Sem (ForInStep HS):=do
 let x ← elem' b (j - 1)
 let r ← gallop' false x a 0 i (i - 1)
 match r with
 | some t=>
  if i - t>0 then
   if (t==0)=true then pure (.done (some (finH a b (o++(a.extract t i).reverse) t j),t,j,o++(a.extract t i).reverse,mg,i - t,bc))
   else highC a b (o++(a.extract t i).reverse) t j mg (i - t) bc
  else highC a b o i j mg (i - t) bc
 | _=>pure (.done (some (finH a b o i j),i,j,o,mg,ac,bc))
noncomputable def highG (a b:Array Keyed) (c:HS):StateT SortSt Sem (ForInStep HS):=
 if c.2.2.2.2.1>1 then do mgSet (c.2.2.2.2.1 - 1);highB a b c.2.2.2.1 c.2.1 c.2.2.1 (c.2.2.2.2.1 - 1) c.2.2.2.2.2.1 c.2.2.2.2.2.2
 else do mgSet c.2.2.2.2.1;highB a b c.2.2.2.1 c.2.1 c.2.2.1 c.2.2.2.2.1 c.2.2.2.2.2.1 c.2.2.2.2.2.2
noncomputable def HPost (κ:PyProof.Rows.KeyKind) (a b:Array Keyed) (m:Nat) (r:ForInStep HS):Prop:=
 match r with
 | .yield c=>∃ o i j mg ac bc,c=(none,i,j,o,mg,ac,bc)∧MU κ a b o i j∧i+j≤m
 | .done c=>(∃ o i j mg ac bc,c=(none,i,j,o,mg,ac,bc)∧MU κ a b o i j∧i+j≤m)∨∃ out,c.1=some out∧Merged κ a.toList b.toList out.toList
theorem w_highD {a b o:Array Keyed} {i j mg ac bc m:Nat} {st:SortSt} {Q:ForInStep HS→SortSt→Prop} (M:MU κ a b o i j) (ha:Rise κ a.toList) (hb:Rise κ b.toList)
  (hy:∀ q∈b.toList.take j,κ.kle (kk κ q) (kk κ (a[i - 1]'(by have:=M.hi;have:=M.hi';lia)))) (hm:i+j≤m+1) (h:∀ r,HPost κ a b m r→Q r st):wpS (model prog w) A E s (highD a b o i j mg ac bc) Q st:=by
 have hi:=M.hi
 have hi':=M.hi'
 unfold highD
 refine wpS_bind (w_elem (by lia) ?_)
 have M1:=push_HA M ha hy
 by_cases h1:(i - 1==0)=true
 ·rw [if_pos h1]
  exact wpS_pure (h _ (.inr ⟨_,rfl,finH_A M1 hb (by simpa using h1)⟩))
 rw [if_neg h1]
 have M2:MU κ a b (o.push a[i - 1]) (i - 1) j:=⟨M1,by simp at h1;lia,M.hj⟩
 by_cases h2:(decide (ac<7)&&decide (bc<7))=true
 ·rw [if_pos h2]
  exact wpS_pure (h _ (.inl ⟨_,_,_,_,_,_,rfl,M2,by lia⟩))
 ·rw [if_neg h2]
  exact wpS_pure (h _ ⟨_,_,_,_,_,_,rfl,M2,by lia⟩)
theorem w_highC (hO:LtAt κ prog w A s kd) {a b o:Array Keyed} {i j mg ac bc m:Nat} {st:SortSt} {Q:ForInStep HS→SortSt→Prop} (hk:kindOf st=kd) (hKa:KeysOf κ a) (hKb:KeysOf κ b) (M:MU κ a b o i j) (ha:Rise κ a.toList) (hb:Rise κ b.toList) (h0:0<b.size) (hF:∀ q∈a.toList,κ.kle (kk κ b[0]) (kk κ q))
  (hx:∀ q∈a.toList.take i,κ.kle (kk κ q) (kk κ (b[j - 1]'(by have:=M.hj;have:=M.hj';lia)))) (hm:i+j≤m+2) (h:∀ r,HPost κ a b m r→Q r st):wpS (model prog w) A E s (highC a b o i j mg ac bc) Q st:=by
 have hi:=M.hi
 have hj:=M.hj
 have hi':=M.hi'
 have hj':=M.hj'
 unfold highC
 refine wpS_bind (w_elem (by lia) ?_)
 have M1:=push_HB M hb hx
 by_cases h1:(j - 1==1)=true
 ·rw [if_pos h1]
  exact wpS_pure (h _ (.inr ⟨_,rfl,firstH_F M1 ha hb (by simpa using h1) h0 hF⟩))
 rw [if_neg h1]
 have hj1:1<j - 1:=by simp at h1;lia
 refine wpS_bind (w_elem (by lia) ?_)
 refine wpS_bind (w_gallop hO hk hKb (kk_key hKa (by lia)) (by lia) (by lia) (bey_mono hb (by lia)) fun p hp h2 h3=>?_)
 dsimp only
 have htop:=top_le ha hi hi'
 have h2':∀ t (ht:t<b.size),t<p→κ.kle (kk κ b[t]) (kk κ a[i - 1]):=fun t ht h4=>by
  have:=h2 t h4
  simp only [bey,if_true,Nat.zero_add,KK_kk ht] at this
  exact KeyOrd.kle_of_klt this
 have h3':∀ t (ht:t<b.size),p≤t→t<j - 1→κ.kle (kk κ a[i - 1]) (kk κ b[t]):=fun t ht h4 h5=>by
  have:=h3 t h4 h5
  simp only [bey,if_true,Nat.zero_add,KK_kk ht] at this
  exact this
 by_cases hp0:j - 1 - p>0
 ·rw [if_pos hp0]
  have M2:=more_HB M1 hb (t:=p) (by lia) fun t ht h4 h5 q hq=>KeyOrd.kle_trans (htop q hq) (h3' t ht h4 h5)
  by_cases h6:(p==1)=true
  ·rw [if_pos h6]
   exact wpS_pure (h _ (.inr ⟨_,rfl,firstH_F M2 ha hb (by simpa using h6) h0 hF⟩))
  rw [if_neg h6]
  by_cases h7:(p==0)=true
  ·rw [if_pos h7]
   exact wpS_pure (h _ (.inr ⟨_,rfl,finH_B M2 ha (by simpa using h7)⟩))
  ·rw [if_neg h7]
   refine w_highD ⟨M2,hi,by simp at h6 h7;lia⟩ ha hb (fun q hq=>?_) (by lia) h
   obtain ⟨t,ht,h8,rfl⟩:=mem_take_at hq
   exact h2' t ht h8
 ·rw [if_neg hp0]
  refine w_highD ⟨M1,hi,hj1⟩ ha hb (fun q hq=>?_) (by lia) h
  obtain ⟨t,ht,h8,rfl⟩:=mem_take_at hq
  exact h2' t ht (by lia)
theorem w_highB (hO:LtAt κ prog w A s kd) {a b o:Array Keyed} {i j mg ac bc m:Nat} {st:SortSt} {Q:ForInStep HS→SortSt→Prop} (hk:kindOf st=kd) (hKa:KeysOf κ a) (hKb:KeysOf κ b) (M:MU κ a b o i j) (ha:Rise κ a.toList) (hb:Rise κ b.toList) (h0:0<b.size) (hF:∀ q∈a.toList,κ.kle (kk κ b[0]) (kk κ q))
  (hm:i+j≤m+2) (h:∀ r,HPost κ a b m r→Q r st):wpS (model prog w) A E s (highB a b o i j mg ac bc) Q st:=by
 have hi:=M.hi
 have hj:=M.hj
 have hi':=M.hi'
 have hj':=M.hj'
 unfold highB
 refine wpS_bind (w_elem (by lia) ?_)
 refine wpS_bind (w_gallop hO hk hKa (kk_key hKb (by lia)) (by lia) (by lia) (bey_mono ha (by lia)) fun p hp h2 h3=>?_)
 dsimp only
 have htop:=top_le hb (Nat.lt_of_succ_lt hj) hj'
 have h2':∀ t (ht:t<a.size),t<p→κ.kle (kk κ a[t]) (kk κ b[j - 1]):=fun t ht h4=>by
  have:=h2 t h4
  simp only [bey,Bool.false_eq_true,if_false,Bool.not_eq_true',Nat.zero_add,KK_kk ht] at this
  exact this
 have h3':∀ t (ht:t<a.size),p≤t→t<i→κ.kle (kk κ b[j - 1]) (kk κ a[t]):=fun t ht h4 h5=>by
  have:=h3 t h4 h5
  simp only [bey,Bool.false_eq_true,if_false,Bool.not_eq_false',Nat.zero_add,KK_kk ht] at this
  exact KeyOrd.kle_of_klt this
 by_cases hp0:i - p>0
 ·rw [if_pos hp0]
  have M2:=more_HA M.mi ha (t:=p) (by lia) fun t ht h4 h5 q hq=>KeyOrd.kle_trans (htop q hq) (h3' t ht h4 h5)
  by_cases h6:(p==0)=true
  ·rw [if_pos h6]
   exact wpS_pure (h _ (.inr ⟨_,rfl,finH_A M2 hb (by simpa using h6)⟩))
  ·rw [if_neg h6]
   refine w_highC hO hk hKa hKb ⟨M2,by simp at h6;lia,hj⟩ ha hb h0 hF (fun q hq=>?_) (by lia) h
   obtain ⟨t,ht,h8,rfl⟩:=mem_take_at hq
   exact h2' t ht h8
 ·rw [if_neg hp0]
  refine w_highC hO hk hKa hKb M ha hb h0 hF (fun q hq=>?_) (by lia) h
  obtain ⟨t,ht,h8,rfl⟩:=mem_take_at hq
  exact h2' t ht (by lia)
noncomputable abbrev JS:=Option (Array Keyed)×Nat×Nat×Array Keyed×Nat×Nat
noncomputable abbrev PS':=Option (Array Keyed)×Nat×Nat×Array Keyed×Nat
noncomputable def highI (a b:Array Keyed) (mg:Nat) (c:JS):StateT SortSt Sem (ForInStep JS):=do
 let x ← elem' b (c.2.2.1 - 1)
 let y ← elem' a (c.2.1 - 1)
 let r ← lt' x y
 match r with
 | some aw=>
  if aw=true then do
   let z ← elem' a (c.2.1 - 1)
   if (c.2.1 - 1==0)=true then pure (.done (some (finH a b (c.2.2.2.1.push z) (c.2.1 - 1) c.2.2.1),c.2.1 - 1,c.2.2.1,c.2.2.2.1.push z,c.2.2.2.2.1+1,0))
   else if c.2.2.2.2.1+1≥mg then pure (.done (none,c.2.1 - 1,c.2.2.1,c.2.2.2.1.push z,c.2.2.2.2.1+1,0))
   else pure (.yield (none,c.2.1 - 1,c.2.2.1,c.2.2.2.1.push z,c.2.2.2.2.1+1,0))
  else do
   let z ← elem' b (c.2.2.1 - 1)
   if (c.2.2.1 - 1==1)=true then pure (.done (some (firstH a b (c.2.2.2.1.push z) c.2.1 (c.2.2.1 - 1)),c.2.1,c.2.2.1 - 1,c.2.2.2.1.push z,0,c.2.2.2.2.2+1))
   else if c.2.2.2.2.2+1≥mg then pure (.done (none,c.2.1,c.2.2.1 - 1,c.2.2.2.1.push z,0,c.2.2.2.2.2+1))
   else pure (.yield (none,c.2.1,c.2.2.1 - 1,c.2.2.2.1.push z,0,c.2.2.2.2.2+1))
 | _=>pure (.done (some (finH a b c.2.2.2.1 c.2.1 c.2.2.1),c.2.1,c.2.2.1,c.2.2.2.1,c.2.2.2.2.1,c.2.2.2.2.2))
noncomputable def highR (a b:Array Keyed) (mg:Nat) (c:JS):StateT SortSt Sem (ForInStep PS'):=
 match c.1 with
 | some r=>pure (.done (some r,c.2.1,c.2.2.1,c.2.2.2.1,mg))
 | none=>do
  rule "list.sort.gallop"
  let d ← forIn [:a.size+b.size] ((none,c.2.1,c.2.2.1,c.2.2.2.1,mg+1,c.2.2.2.2.1,c.2.2.2.2.2):HS) fun _ d=>highG a b d
  match d.1 with
  | some r=>pure (.done (some r,d.2.1,d.2.2.1,d.2.2.2.1,d.2.2.2.2.1))
  | none=>do
   mgSet (d.2.2.2.2.1+1)
   pure (.yield (none,d.2.1,d.2.2.1,d.2.2.2.1,d.2.2.2.2.1+1))
noncomputable def highO (a b:Array Keyed) (c:PS'):StateT SortSt Sem (ForInStep PS'):=do
 let d ← forIn [:a.size+b.size] ((none,c.2.1,c.2.2.1,c.2.2.2.1,0,0):JS) fun _ d=>highI a b c.2.2.2.2 d
 highR a b c.2.2.2.2 d
noncomputable def highF (c:PS'):StateT SortSt Sem (Array Keyed):=
 match c.1 with
 | some r=>pure r
 | none=>unsupported "internal:list.sort.merge-bound"
theorem mergeHi'_eq (a b:Array Keyed):mergeHi' a b=(do
  rule "list.sort.merge-hi"
  let x ← elem' a (a.size - 1)
  if (a.size - 1==0)=true then pure (finH a b #[x] (a.size - 1) b.size)
  else if (b.size==1)=true then pure (firstH a b #[x] (a.size - 1) b.size)
  else do
   let st ← get
   let c ← forIn [:a.size+b.size] ((none,a.size - 1,b.size,#[x],gallopOf st):PS') fun _ c=>highO a b c
   highF c):=by kernel_rfl
noncomputable def JPost (κ:PyProof.Rows.KeyKind) (a b:Array Keyed) (m:Nat) (r:ForInStep JS):Prop:=
 match r with
 | .yield c=>∃ o i j ac bc,c=(none,i,j,o,ac,bc)∧MU κ a b o i j∧i+j+1≤m
 | .done c=>(∃ o i j ac bc,c=(none,i,j,o,ac,bc)∧MU κ a b o i j∧i+j+1≤m)∨∃ out,c.1=some out∧Merged κ a.toList b.toList out.toList
noncomputable def PPost (κ:PyProof.Rows.KeyKind) (a b:Array Keyed) (m:Nat) (r:ForInStep PS'):Prop:=
 match r with
 | .yield c=>∃ o i j mg,c=(none,i,j,o,mg)∧MU κ a b o i j∧i+j≤m
 | .done c=>∃ out,c.1=some out∧Merged κ a.toList b.toList out.toList
theorem w_highI (hO:LtAt κ prog w A s kd) {st:SortSt} {a b o:Array Keyed} {i' j' mg ac bc m:Nat} {Q:ForInStep JS→SortSt→Prop} (hk:kindOf st=kd) (hKa:KeysOf κ a) (hKb:KeysOf κ b) (ha:Rise κ a.toList) (hb:Rise κ b.toList)
  (M:MU κ a b o i' j') (h2:1≤b.size) (hF:∀ q∈a.toList,κ.kle (kk κ b[0]) (kk κ q)) (hm:i'+j'≤m) (h:∀ r,JPost κ a b m r→Q r st):wpS (model prog w) A E s (highI a b mg (none,i',j',o,ac,bc)) Q st:=by
 have hi:=M.hi
 have hj:=M.hj
 have hi':=M.hi'
 have hj':=M.hj'
 unfold highI
 dsimp only
 refine wpS_bind (w_elem (by lia) ?_)
 refine wpS_bind (w_elem (by lia) ?_)
 refine wpS_bind (w_ltK hO hk (kk_key hKb (by lia)) (kk_key hKa (by lia)) ?_)
 dsimp only
 have la:=top_le ha hi hi'
 have lb:=top_le hb (Nat.lt_of_succ_lt hj) hj'
 cases hq:κ.blt (kk κ b[j' - 1]) (kk κ a[i' - 1]) with
 | true=>
  rw [if_pos rfl]
  refine wpS_bind (w_elem (by lia) ?_)
  have M1:=push_HA M ha fun q hq'=>KeyOrd.kle_trans (lb q hq') (KeyOrd.kle_of_klt hq)
  by_cases h1:(i' - 1==0)=true
  ·rw [if_pos h1]
   exact wpS_pure (h _ (.inr ⟨_,rfl,finH_A M1 hb (eq_of_beq h1)⟩))
  rw [if_neg h1]
  have M2:MU κ a b (o.push a[i' - 1]) (i' - 1) j':=⟨M1,Nat.pos_of_ne_zero fun e=>h1 (beq_iff_eq.mpr e),hj⟩
  by_cases h2:ac+1≥mg
  ·rw [if_pos h2]
   exact wpS_pure (h _ (.inl ⟨_,_,_,_,_,rfl,M2,by lia⟩))
  ·rw [if_neg h2]
   exact wpS_pure (h _ ⟨_,_,_,_,_,rfl,M2,by lia⟩)
 | false=>
  rw [if_neg Bool.false_ne_true]
  refine wpS_bind (w_elem (by lia) ?_)
  have M1:=push_HB M hb fun q hq'=>KeyOrd.kle_trans (la q hq') (show κ.kle (kk κ a[i' - 1]) (kk κ b[j' - 1]) from hq)
  by_cases h1:(j' - 1==1)=true
  ·rw [if_pos h1]
   exact wpS_pure (h _ (.inr ⟨_,rfl,firstH_F M1 ha hb (eq_of_beq h1) h2 hF⟩))
  rw [if_neg h1]
  have M2:MU κ a b (o.push b[j' - 1]) i' (j' - 1):=⟨M1,hi,by simp at h1;lia⟩
  by_cases h2:bc+1≥mg
  ·rw [if_pos h2]
   exact wpS_pure (h _ (.inl ⟨_,_,_,_,_,rfl,M2,by lia⟩))
  ·rw [if_neg h2]
   exact wpS_pure (h _ ⟨_,_,_,_,_,rfl,M2,by lia⟩)
theorem w_highG (hO:LtAt κ prog w A s kd) {st st2:SortSt} {a b o:Array Keyed} {i j mg ac bc m:Nat} {Q:ForInStep HS→SortSt→Prop} (hk:kindOf st=kd) (hKa:KeysOf κ a) (hKb:KeysOf κ b) (ha:Rise κ a.toList) (hb:Rise κ b.toList)
  (hS:Same st st2) (M:MU κ a b o i j) (h2:1≤b.size) (hF:∀ q∈a.toList,κ.kle (kk κ b[0]) (kk κ q)) (hm:i+j≤m+1+1) (h:∀ r st3,Same st st3→HPost κ a b m r→Q r st3):wpS (model prog w) A E s (highG a b (none,i,j,o,mg,ac,bc)) Q st2:=by
 unfold highG
 dsimp only
 by_cases h1:mg>1
 ·rw [if_pos h1]
  have hS3:=hS.mk'' (mg - 1)
  exact wpS_bind (wpS_modify (w_highB hO (hS3.kind.trans hk) hKa hKb M ha hb h2 hF (by lia) fun r hr=>h r _ hS3 hr))
 ·rw [if_neg h1]
  have hS3:=hS.mk'' mg
  exact wpS_bind (wpS_modify (w_highB hO (hS3.kind.trans hk) hKa hKb M ha hb h2 hF (by lia) fun r hr=>h r _ hS3 hr))
theorem w_highR (hO:LtAt κ prog w A s kd) {st st1:SortSt} {a b o:Array Keyed} {i' j' mg ac bc m:Nat} {Q:ForInStep PS'→SortSt→Prop} (hk:kindOf st=kd) (hKa:KeysOf κ a) (hKb:KeysOf κ b) (ha:Rise κ a.toList) (hb:Rise κ b.toList)
  (hS:Same st st1) (M:MU κ a b o i' j') (h2:1≤b.size) (hF:∀ q∈a.toList,κ.kle (kk κ b[0]) (kk κ q)) (hm:i'+j'≤m) (h:∀ r st3,Same st st3→PPost κ a b m r→Q r st3):wpS (model prog w) A E s (highR a b mg (none,i',j',o,ac,bc)) Q st1:=by
 unfold highR
 dsimp only
 refine wpS_bind (wpS_lift (wpAny_rule ⟨rfl,?_⟩))
 refine wpS_bind (wpS_mono (wpS_forRange (I:=fun y c st2=>Same st st2∧∃ o i2 j2 mg ac bc,c=(none,i2,j2,o,mg,ac,bc)∧MU κ a b o i2 j2∧i2+j2+y≤i'+j')
  (Q:=fun c st2=>Same st st2∧((∃ o i2 j2 mg ac bc,c=(none,i2,j2,o,mg,ac,bc)∧MU κ a b o i2 j2∧i2+j2≤i'+j')∨∃ out,c.1=some out∧Merged κ a.toList b.toList out.toList)) (fun y c st2 _ hy hI=>?_) (fun c st2 hI=>?_) ⟨hS,_,_,_,_,_,_,rfl,M,Nat.le_refl _⟩) fun c st2 hI=>?_)
 ·obtain ⟨hS2,o2,i2,j2,mg2,ac2,bc2,rfl,M2,hm2⟩:=hI
  have hi2:=M2.hi
  have hj2:=M2.hj
  refine w_highG hO hk hKa hKb ha hb hS2 M2 h2 hF (m:=i'+j' - (y+1)) (by lia) fun r st3 hS3 hr=>?_
  cases r with
  | yield c=>obtain ⟨o,i3,j3,mg,ac,bc,rfl,M3,hm3⟩:=hr;have:=M3.hi;exact ⟨hS3,_,_,_,_,_,_,rfl,M3,by lia⟩
  | done c=>
   rcases hr with ⟨o,i3,j3,mg,ac,bc,rfl,M3,hm3⟩ | hr
   ·exact ⟨hS3,.inl ⟨_,_,_,_,_,_,rfl,M3,by lia⟩⟩
   ·exact ⟨hS3,.inr hr⟩
 ·obtain ⟨hS2,o2,i2,j2,mg2,ac2,bc2,rfl,M2,hm2⟩:=hI
  exfalso
  have:=M2.hi;have:=M2.hj;have:=M.hi';have:=M.hj'
  lia
 ·obtain ⟨hS2,⟨o2,i2,j2,mg2,ac2,bc2,rfl,M2,hm2⟩ | ⟨out,hc,hM⟩⟩:=hI
  ·dsimp only
   exact wpS_bind (wpS_modify (wpS_pure (h _ _ (hS2.mk'' _) ⟨_,_,_,_,rfl,M2,Nat.le_trans hm2 hm⟩)))
  ·obtain ⟨c1,c2⟩:=c
   cases hc
   exact wpS_pure (h _ _ hS2 ⟨_,rfl,hM⟩)
theorem w_highO (hO:LtAt κ prog w A s kd) {st st1:SortSt} {a b o:Array Keyed} {i j mg m:Nat} {Q:ForInStep PS'→SortSt→Prop} (hk:kindOf st=kd) (hKa:KeysOf κ a) (hKb:KeysOf κ b) (ha:Rise κ a.toList) (hb:Rise κ b.toList)
  (hS:Same st st1) (M:MU κ a b o i j) (h2:1≤b.size) (hF:∀ q∈a.toList,κ.kle (kk κ b[0]) (kk κ q)) (hm:i+j≤m+1) (h:∀ r st3,Same st st3→PPost κ a b m r→Q r st3):wpS (model prog w) A E s (highO a b (none,i,j,o,mg)) Q st1:=by
 have h5:=M.hi'
 have h6:=M.hj'
 unfold highO
 dsimp only
 refine wpS_bind (wpS_mono (wpS_forRange (I:=fun y c st2=>st2=st1∧∃ o i' j' ac bc,c=(none,i',j',o,ac,bc)∧MU κ a b o i' j'∧i'+j'+y≤i+j)
  (Q:=fun c st2=>st2=st1∧((∃ o i' j' ac bc,c=(none,i',j',o,ac,bc)∧MU κ a b o i' j'∧i'+j'+1≤i+j)∨∃ out,c.1=some out∧Merged κ a.toList b.toList out.toList)) (fun y c st1 _ hy hI=>?_) (fun c st1 hI=>?_) ⟨rfl,_,_,_,_,_,rfl,M,Nat.le_refl _⟩) fun c st1 hI=>?_)
 ·obtain ⟨rfl,o,i',j',ac,bc,rfl,M,hm⟩:=hI
  refine w_highI hO (hS.kind.trans hk) hKa hKb ha hb M h2 hF (m:=i+j - y) (by lia) fun r hr=>?_
  cases r with
  | yield c=>obtain ⟨o,i3,j3,ac,bc,rfl,M3,hm3⟩:=hr;exact ⟨rfl,_,_,_,_,_,rfl,M3,by lia⟩
  | done c=>
   rcases hr with ⟨o,i3,j3,ac,bc,rfl,M3,hm3⟩ | hr
   ·exact ⟨rfl,.inl ⟨_,_,_,_,_,rfl,M3,by lia⟩⟩
   ·exact ⟨rfl,.inr hr⟩
 ·obtain ⟨rfl,o,i',j',ac,bc,rfl,M,hm⟩:=hI
  exfalso
  have:=M.hi;have:=M.hj
  lia
 ·obtain ⟨rfl,⟨o,i',j',ac,bc,rfl,M,hm'⟩ | ⟨out,hc,hM⟩⟩:=hI
  ·exact w_highR hO hk hKa hKb ha hb hS M h2 hF (by lia) h
  ·obtain ⟨c1,c2⟩:=c
   cases hc
   exact wpS_pure (h _ _ hS ⟨_,rfl,hM⟩)
theorem w_mergeHi (hO:LtAt κ prog w A s kd) {st:SortSt} {a b:Array Keyed} {Q:Array Keyed→SortSt→Prop} (hk:kindOf st=kd) (hKa:KeysOf κ a) (hKb:KeysOf κ b) (ha:Rise κ a.toList) (hb:Rise κ b.toList) (h1:1≤a.size) (h2:1≤b.size)
  (hF:∀ q∈a.toList,κ.kle (kk κ b[0]) (kk κ q)) (hL:∀ q∈b.toList,κ.kle (kk κ q) (kk κ a[a.size - 1]))
  (h:∀ out st',Same st st'→Merged κ a.toList b.toList out.toList→Q out st'):wpS (model prog w) A E s (mergeHi' a b) Q st:=by
 rw [mergeHi'_eq]
 refine wpS_bind (wpS_lift (wpAny_rule ⟨rfl,?_⟩))
 refine wpS_bind (w_elem (by lia) ?_)
 have M0:MH κ a.toList b.toList (#[a[a.size - 1]]:Array Keyed).toList (a.size - 1) b.size:=by
  have:MH κ a.toList b.toList ([]:List Keyed) (a.size - 1+1) b.size:=⟨by simp;lia,by simp,by simp;lia,List.Pairwise.nil,(fun p hp=>by cases hp),(fun p hp=>by cases hp)⟩
  exact this.pushA ha (show a.size - 1<a.size from by lia) fun q hq=>hL q (List.mem_of_mem_take hq)
 by_cases ha1:(a.size - 1==0)=true
 ·rw [if_pos ha1]
  exact wpS_pure (h _ _ (Same.refl _) (finH_A M0 hb (eq_of_beq ha1)))
 rw [if_neg ha1]
 by_cases hb1:(b.size==1)=true
 ·rw [if_pos hb1]
  exact wpS_pure (h _ _ (Same.refl _) (firstH_F M0 ha hb (eq_of_beq hb1) h2 hF))
 rw [if_neg hb1]
 refine wpS_bind (wpS_get ?_)
 have ha1':0<a.size - 1:=Nat.pos_of_ne_zero fun e=>ha1 (beq_iff_eq.mpr e)
 have hb1':1<b.size:=Nat.lt_of_le_of_ne h2 fun e=>hb1 (beq_iff_eq.mpr e.symm)
 refine wpS_bind (wpS_mono (wpS_forRange (I:=fun x c st'=>Same st st'∧∃ o i j mg,c=(none,i,j,o,mg)∧MU κ a b o i j∧i+j+x+1≤a.size+b.size)
  (Q:=fun c st'=>Same st st'∧∃ out,c.1=some out∧Merged κ a.toList b.toList out.toList) (fun x c st' _ hx hI=>?_) (fun c st' hI=>?_) ⟨Same.refl _,_,_,_,_,rfl,⟨M0,ha1',hb1'⟩,by lia⟩) fun c st' hI=>?_)
 ·obtain ⟨hS,o,i,j,mg,rfl,M,hx1⟩:=hI
  have:=M.hi
  refine w_highO hO hk hKa hKb ha hb hS M h2 hF (m:=i+j - 1) (by lia) fun r st3 hS3 hr=>?_
  cases r with
  | yield c=>obtain ⟨o,i3,j3,mg,rfl,M3,hm3⟩:=hr;exact ⟨hS3,_,_,_,_,rfl,M3,by lia⟩
  | done c=>exact ⟨hS3,hr⟩
 ·obtain ⟨hS,o,i,j,mg,rfl,ML0,hx1⟩:=hI
  exfalso
  have:=ML0.hi;have:=ML0.hj
  simp at hx1
  lia
 ·obtain ⟨hS,out,hc,hM⟩:=hI
  obtain ⟨c1,c2⟩:=c
  cases hc
  exact wpS_pure (h _ _ hS hM)
end
noncomputable def layBack (lo:Nat) (m:List Keyed) (xs:Array Keyed):Array Keyed:=m.zipIdx.foldl (fun a p=>a.setIfInBounds (lo+p.2) p.1) xs
theorem lay_from (lo:Nat):∀ (m:List Keyed) (n:Nat) (xs:Array Keyed),((m.zipIdx n).foldl (fun a p=>a.setIfInBounds (lo+p.2) p.1) xs).size=xs.size∧
  ∀ t,((m.zipIdx n).foldl (fun a p=>a.setIfInBounds (lo+p.2) p.1) xs)[t]?=if lo+n≤t∧t<lo+n+m.length∧t<xs.size then m[t - (lo+n)]? else xs[t]?
 | [],n,xs=>⟨rfl,fun t=>by rw [if_neg (by simp;lia)];rfl⟩
 | p::m,n,xs=>by
  rw [List.zipIdx_cons,List.foldl_cons]
  obtain ⟨h1,h2⟩:=lay_from lo m (n+1) (xs.setIfInBounds (lo+n) p)
  refine ⟨by rw [h1];simp,fun t=>?_⟩
  rw [h2]
  simp only [Array.size_setIfInBounds,List.length_cons]
  by_cases hA:lo+(n+1)≤t∧t<lo+(n+1)+m.length∧t<xs.size
  ·rw [if_pos hA,if_pos (by lia),show t - (lo+n)=(t - (lo+(n+1)))+1 from by lia,List.getElem?_cons_succ]
  ·rw [if_neg hA,Array.getElem?_setIfInBounds]
   by_cases hB:lo+n=t
   ·subst hB
    by_cases hC:lo+n<xs.size
    ·rw [if_pos rfl,if_pos hC,if_pos (by lia)];simp
    ·rw [if_pos rfl,if_neg hC,if_neg (by lia),getElem?_neg xs _ hC]
   ·rw [if_neg hB,if_neg (by lia)]
theorem lay_size (lo:Nat) (m:List Keyed) (xs:Array Keyed):(layBack lo m xs).size=xs.size:=(lay_from lo m 0 xs).1
theorem lay_at (lo:Nat) (m:List Keyed) (xs:Array Keyed) (hm:lo+m.length≤xs.size) (t:Nat):(layBack lo m xs)[t]?=if lo≤t∧t<lo+m.length then m[t - lo]? else xs[t]?:=by
 have:=(lay_from lo m 0 xs).2 t
 unfold layBack
 rw [this]
 by_cases h:lo≤t∧t<lo+m.length
 ·rw [if_pos (by lia),if_pos h];rfl
 ·rw [if_neg (by lia),if_neg h]
theorem lay_toList (lo:Nat) (m:List Keyed) (xs:Array Keyed) (hm:lo+m.length≤xs.size):(layBack lo m xs).toList=xs.toList.take lo++m++xs.toList.drop (lo+m.length):=by
 refine List.ext_getElem? fun t=>?_
 rw [Array.getElem?_toList,lay_at lo m xs hm]
 by_cases h1:t<lo
 ·rw [if_neg (by lia),List.append_assoc,List.getElem?_append_left (by simp;lia),List.getElem?_take_of_lt h1,Array.getElem?_toList]
 ·by_cases h2:t<lo+m.length
  ·rw [if_pos (by lia),List.getElem?_append_left (by simp;lia),List.getElem?_append_right (by simp;lia)]
   congr 1;simp;lia
  ·rw [if_neg (by lia),List.getElem?_append_right (by simp;lia),List.getElem?_drop,← Array.getElem?_toList]
   congr 1;simp;lia
noncomputable def mergeAt':Nat→StateT SortSt Sem Bool:=sortPriv% PySem.Builtin.mergeAt
theorem mergeAt'_eq (i:Nat):mergeAt' i=(do
  let s ← get
  let (some (p,n,u),some (q,m,_)):=((pendingOf s)[i]?,(pendingOf s)[i+1]?) | unsupported "internal:list.sort.pending"
  set (SortSt.mk' (kindOf s) (arrOf s) (((pendingOf s).setIfInBounds i (p,n+m,u)).eraseIdxIfInBounds (i+1)) (gallopOf s) (failedOf s))
  let some k ← gallop' false (← elem' (arrOf s) q) (arrOf s) p n 0 | return false
  let (p,n):=(p+k,n - k)
  if n==0 then return true
  let some m ← gallop' true (← elem' (arrOf s) (p+n - 1)) (arrOf s) q m (m - 1) | return false
  if m==0 then return true
  let o ← if n≤m then mergeLo' ((arrOf s).extract p q) ((arrOf s).extract q (q+m)) else mergeHi' ((arrOf s).extract p q) ((arrOf s).extract q (q+m))
  modify fun s=>SortSt.mk' (kindOf s) (layBack p o.toList (arrOf s)) (pendingOf s) (gallopOf s) (failedOf s)
  return (failedOf (← get)).isNone):=rfl
section
variable {prog:Program} {w:World} {A:Around} {E:Value→Shared→Prop} {s:Shared} {κ:PyProof.Rows.KeyKind} {kd:SortKind}
theorem wS_set {st1:SortSt} {Q:PUnit→SortSt→Prop} {st:SortSt} (h:Q ⟨⟩ st1):wpS (model prog w) A E s (set st1:StateT SortSt Sem PUnit) Q st:=
 wpS_modify (f:=fun _=>st1) h
noncomputable def Seg (κ:PyProof.Rows.KeyKind) (xs:Array Keyed) (lo hi:Nat):Prop:=∀ i j,lo≤i→i≤j→j<hi→κ.kle (KK κ xs i) (KK κ xs j)
theorem bey_seg {xs:Array Keyed} {left:Bool} {k:κ.α} {b n:Nat} (hr:Seg κ xs b (b+n)):∀ i j,i≤j→j<n→bey κ left k xs b j=true→bey κ left k xs b i=true:=by
 intro i j hij hj h
 have h1:=hr (b+i) (b+j) (by lia) (by lia) (by lia)
 cases left with
 | true=>
  have h':κ.klt (KK κ xs (b+j)) k:=h
  exact KeyOrd.klt_of_kle_of_klt h1 h'
 | false=>
  simp only [bey,Bool.false_eq_true,if_false,Bool.not_eq_true'] at h ⊢
  have h':κ.kle (KK κ xs (b+j)) k:=h
  exact KeyOrd.kle_trans h1 h'
theorem seg_ext {xs:Array Keyed} {lo hi:Nat} (hr:Seg κ xs lo hi) (hh:hi≤xs.size):Rise κ (xs.extract lo hi).toList:=by
 refine List.pairwise_iff_getElem.mpr fun i j hi' hj' hij=>?_
 have h1:i<hi - lo∧j<hi - lo:=by simp at hi' hj';lia
 have:=hr (lo+i) (lo+j) (by lia) (by lia) (by lia)
 rw [KK_kk (by lia),KK_kk (by lia)] at this
 simpa using this
theorem keys_ext {xs:Array Keyed} {lo hi:Nat} (hK:KeysOf κ xs):KeysOf κ (xs.extract lo hi):=fun p hp=>hK p (by
 rw [Array.toList_extract,List.extract_eq_drop_take] at hp
 exact List.mem_of_mem_drop (List.mem_of_mem_take hp))
theorem mem_ext {xs:Array Keyed} {lo hi:Nat} {q:Keyed} (hh:hi≤xs.size) (h:q∈(xs.extract lo hi).toList):∃ t,lo≤t∧t<hi∧kk κ q=KK κ xs t:=by
 obtain ⟨n,hn,rfl⟩:=List.mem_iff_getElem.mp h
 have h1:n<hi - lo:=by simp at hn;lia
 exact ⟨lo+n,by lia,by lia,by rw [KK_kk (by lia)];simp⟩
structure Joined (κ:PyProof.Rows.KeyKind) (xs ys:Array Keyed) (lo hi:Nat):Prop where
 size:ys.size=xs.size
 perm:ys.toList.Perm xs.toList
 out:∀ t,t<lo∨hi≤t→ys[t]?=xs[t]?
 seg:Seg κ ys lo hi
theorem joined_lay {xs:Array Keyed} {p p' q q' e:Nat} {o:List Keyed} (h1:p≤p') (h2:p'≤q) (h3:q≤q') (h4:q'≤e) (h5:e≤xs.size) (ra:Seg κ xs p q) (rb:Seg κ xs q e)
  (hM:Merged κ (xs.extract p' q).toList (xs.extract q q').toList o)
  (hlow:∀ i j,p≤i→i<p'→p'≤j→j<q'→κ.kle (KK κ xs i) (KK κ xs j)) (hhigh:∀ i j,p≤i→i<q'→q'≤j→j<e→κ.kle (KK κ xs i) (KK κ xs j)):Joined κ xs (layBack p' o xs) p e:=by
 have hlen:o.length=q' - p':=by
  rw [hM.1.length_eq];simp;lia
 have hfit:p'+o.length≤xs.size:=by lia
 have hat:=lay_at p' o xs hfit
 have hout:∀ t,t<p'∨q'≤t→KK κ (layBack p' o xs) t=KK κ xs t:=fun t ht=>KK_congr (by rw [hat,if_neg (by lia)])
 have hin:∀ t,p'≤t→t<q'→∃ h:t - p'<o.length,KK κ (layBack p' o xs) t=kk κ o[t - p']:=fun t a b=>by
  have hl:t - p'<o.length:=by lia
  refine ⟨hl,?_⟩
  have:=hat t
  rw [if_pos (by lia),List.getElem?_eq_getElem hl] at this
  unfold KK kk
  rw [this]
 have hfrom:∀ r∈o,∃ t,p'≤t∧t<q'∧kk κ r=KK κ xs t:=fun r hr=>by
  rcases List.mem_append.mp (hM.1.mem_iff.mp hr) with h | h
  ·obtain ⟨t,a,b,c⟩:=mem_ext (κ:=κ) (by lia) h;exact ⟨t,a,by lia,c⟩
  ·obtain ⟨t,a,b,c⟩:=mem_ext (κ:=κ) (by lia) h;exact ⟨t,by lia,b,c⟩
 refine ⟨lay_size _ _ _,?_,fun t ht=>by rw [hat,if_neg (by lia)],fun i j a b c=>?_⟩
 ·rw [lay_toList p' o xs hfit,hlen,show p'+(q' - p')=q' from by lia]
  have e1:xs.toList=xs.toList.take p'++((xs.extract p' q).toList++(xs.extract q q').toList)++xs.toList.drop q':=by
   have e2:(xs.extract p' q).toList++(xs.extract q q').toList=(xs.toList.drop p').take (q' - p'):=by
    rw [← Array.toList_append,Array.extract_append_extract,Nat.min_eq_left h2,Nat.max_eq_right h3,Array.toList_extract,List.extract_eq_drop_take]
   rw [e2,← List.take_add,show p'+(q' - p')=q' from by lia,List.take_append_drop]
  conv=>rhs;rw [e1]
  exact List.Perm.append_right _ (List.Perm.append_left _ hM.1)
 ·by_cases i1:i<p'
  ·rw [hout i (.inl i1)]
   by_cases j1:j<p'
   ·rw [hout j (.inl j1)];exact ra i j a b (by lia)
   ·by_cases j2:j<q'
    ·obtain ⟨hl,e1⟩:=hin j (by lia) j2
     obtain ⟨t,t1,t2,t3⟩:=hfrom _ (List.getElem_mem hl)
     rw [e1,t3];exact hlow i t a i1 t1 t2
    ·rw [hout j (.inr (by lia))];exact hhigh i j a (by lia) (by lia) c
  ·by_cases i2:i<q'
   ·obtain ⟨hl,e1⟩:=hin i (by lia) i2
    rw [e1]
    by_cases j2:j<q'
    ·obtain ⟨hl',e2⟩:=hin j (by lia) j2
     rw [e2]
     rcases Nat.lt_or_eq_of_le b with hlt | heq
     ·exact (List.pairwise_iff_getElem.mp hM.2) (i - p') (j - p') hl hl' (by lia)
     ·subst heq;exact KeyOrd.kle_refl _
    ·obtain ⟨t,t1,t2,t3⟩:=hfrom _ (List.getElem_mem hl)
     rw [t3,hout j (.inr (by lia))];exact hhigh t j (by lia) t2 (by lia) c
   ·rw [hout i (.inr (by lia)),hout j (.inr (by lia))];exact rb i j (by lia) b c
noncomputable def joinP (pd:Array (Nat×Nat×Nat)) (i p n u:Nat):Array (Nat×Nat×Nat):=(pd.setIfInBounds i (p,n,u)).eraseIdxIfInBounds (i+1)
theorem w_mergeAt (hO:LtAt κ prog w A s kd) {st:SortSt} {i p n u q m v:Nat} {Q:Bool→SortSt→Prop} (hk:kindOf st=kd) (hf:failedOf st=none) (hK:KeysOf κ (arrOf st))
  (hp1:(pendingOf st)[i]?=some (p,n,u)) (hp2:(pendingOf st)[i+1]?=some (q,m,v)) (hq:q=p+n) (hn:0<n) (hm:0<m) (hsz:q+m≤(arrOf st).size) (ra:Seg κ (arrOf st) p q) (rb:Seg κ (arrOf st) q (q+m))
  (h:∀ st',kindOf st'=kd→failedOf st'=none→pendingOf st'=joinP (pendingOf st) i p (n+m) u→Joined κ (arrOf st) (arrOf st') p (q+m)→Q true st'):wpS (model prog w) A E s (mergeAt' i) Q st:=by
 rw [mergeAt'_eq]
 refine wpS_bind (wpS_get ?_)
 rw [hp1,hp2]
 dsimp only
 refine wpS_bind (wS_set ?_)
 refine wpS_bind (w_elem (by lia) ?_)
 refine wpS_bind (w_gallop hO hk hK (kk_key hK (by lia)) (by lia) hn (bey_seg (by rw [← hq];exact ra)) fun k hk0 h2 h3=>?_)
 dsimp only
 have h2':∀ t,p≤t→t<p+k→κ.kle (KK κ (arrOf st) t) (KK κ (arrOf st) q):=fun t a b=>by
  have:=h2 (t - p) (by lia)
  simp only [bey,Bool.false_eq_true,if_false,Bool.not_eq_true',show p+(t - p)=t from by lia] at this
  rw [KK_kk (i:=q) (by lia)]
  exact this
 have h3':∀ t,p+k≤t→t<q→κ.kle (KK κ (arrOf st) q) (KK κ (arrOf st) t):=fun t a b=>by
  have:=h3 (t - p) (by lia) (by lia)
  simp only [bey,Bool.false_eq_true,if_false,Bool.not_eq_false',show p+(t - p)=t from by lia] at this
  rw [KK_kk (i:=q) (by lia)]
  exact KeyOrd.kle_of_klt this
 have whole:(∀ a b,p≤a→a<q→q≤b→b<q+m→κ.kle (KK κ (arrOf st) a) (KK κ (arrOf st) b))→Joined κ (arrOf st) (arrOf st) p (q+m):=fun hc=>
  ⟨rfl,.refl _,fun _ _=>rfl,fun a b h4 h5 h6=>by
   by_cases a1:a<q
   ·by_cases b1:b<q
    ·exact ra a b h4 h5 b1
    ·exact hc a b h4 a1 (by lia) h6
   ·exact rb a b (by lia) h5 h6⟩
 by_cases hn0:(n - k==0)=true
 ·rw [if_pos hn0]
  have hn0':n≤k:=by simp at hn0;lia
  exact wpS_pure (h _ hk hf rfl (whole fun a b h4 h5 h6 h7=>KeyOrd.kle_trans (h2' a h4 (by lia)) (rb q b (Nat.le_refl _) h6 h7)))
 rw [if_neg hn0]
 have hnk:k<n:=by simp at hn0;lia
 have el:p+k+(n - k) - 1=q - 1:=by lia
 rw [el]
 refine wpS_bind (w_elem (by lia) ?_)
 refine wpS_bind (w_gallop hO hk hK (kk_key hK (by lia)) hsz (by lia) (bey_seg rb) fun m' hm' h4 h5=>?_)
 dsimp only
 have h4':∀ t,q≤t→t<q+m'→κ.kle (KK κ (arrOf st) t) (KK κ (arrOf st) (q - 1)):=fun t a b=>by
  have:=h4 (t - q) (by lia)
  simp only [bey,if_true,show q+(t - q)=t from by lia] at this
  rw [KK_kk (i:=q - 1) (by lia)]
  exact KeyOrd.kle_of_klt this
 have h5':∀ t,q+m'≤t→t<q+m→κ.kle (KK κ (arrOf st) (q - 1)) (KK κ (arrOf st) t):=fun t a b=>by
  have:=h5 (t - q) (by lia) (by lia)
  simp only [bey,if_true,show q+(t - q)=t from by lia] at this
  rw [KK_kk (i:=q - 1) (by lia)]
  exact this
 by_cases hm0:(m'==0)=true
 ·rw [if_pos hm0]
  have hm0':m'=0:=by simpa using hm0
  exact wpS_pure (h _ hk hf rfl (whole fun a b h6 h7 h8 h9=>KeyOrd.kle_trans (ra a (q - 1) h6 (by lia) (by lia)) (h5' b (by lia) h9)))
 rw [if_neg hm0]
 have hm0':0<m':=by simp at hm0;lia
 have hx:((arrOf st).extract (p+k) q).size=q - (p+k):=by simp;lia
 have hy:((arrOf st).extract q (q+m')).size=m':=by simp;lia
 have rx:=seg_ext (κ:=κ) (xs:=arrOf st) (lo:=p+k) (hi:=q) (fun a b c d e=>ra a b (by lia) d e) (by lia)
 have ry:=seg_ext (κ:=κ) (xs:=arrOf st) (lo:=q) (hi:=q+m') (fun a b c d e=>rb a b c d (by lia)) (by lia)
 have y0:kk κ (((arrOf st).extract q (q+m'))[0]'(by lia))=KK κ (arrOf st) q:=by rw [KK_kk (by lia)];simp
 have xl:kk κ (((arrOf st).extract (p+k) q)[((arrOf st).extract (p+k) q).size - 1]'(by lia))=KK κ (arrOf st) (q - 1):=by
  rw [KK_kk (by lia)]
  simp only [Array.getElem_extract,hx]
  congr 2;lia
 have hF:∀ r∈((arrOf st).extract (p+k) q).toList,κ.kle (kk κ (((arrOf st).extract q (q+m'))[0]'(by lia))) (kk κ r):=fun r hr=>by
  obtain ⟨t,a,b,c⟩:=mem_ext (κ:=κ) (by lia) hr
  rw [y0,c];exact h3' t a b
 have hL:∀ r∈((arrOf st).extract q (q+m')).toList,κ.kle (kk κ r) (kk κ (((arrOf st).extract (p+k) q)[((arrOf st).extract (p+k) q).size - 1]'(by lia))):=fun r hr=>by
  obtain ⟨t,a,b,c⟩:=mem_ext (κ:=κ) (by lia) hr
  rw [xl,c];exact h4' t a b
 have fin:∀ (o:Array Keyed) (st':SortSt),Merged κ ((arrOf st).extract (p+k) q).toList ((arrOf st).extract q (q+m')).toList o.toList→Joined κ (arrOf st) (layBack (p+k) o.toList (arrOf st)) p (q+m):=fun o st' hM=>
  joined_lay (p':=p+k) (q:=q) (q':=q+m') (by lia) (by lia) (by lia) (by lia) hsz ra rb hM (fun a b c d e f=>by
   by_cases b1:b<q
   ·exact ra a b c (by lia) b1
   ·exact KeyOrd.kle_trans (h2' a c d) (rb q b (Nat.le_refl _) (by lia) (by lia))) (fun a b c d e f=>by
   by_cases a1:a<q
   ·exact KeyOrd.kle_trans (ra a (q - 1) c (by lia) (by lia)) (h5' b e f)
   ·exact rb a b (by lia) (by lia) f)
 by_cases hle:n - k≤m'
 ·rw [if_pos hle]
  refine wpS_bind (w_mergeLo hO hk (keys_ext hK) (keys_ext hK) rx ry (by lia) (by lia) hF hL fun o st' hS hM=>?_)
  refine wpS_bind (wpS_modify ?_)
  refine wpS_bind (wpS_get ?_)
  have e1:failedOf st'=none:=hS.fail.trans hf
  refine wpS_pure ?_
  show Q (failedOf st').isNone _
  rw [e1]
  refine h _ (hS.kind.trans hk) rfl hS.pend ?_
  show Joined κ _ (layBack (p+k) o.toList (arrOf st')) _ _
  rw [hS.arr]
  exact fin o st' hM
 ·rw [if_neg hle]
  refine wpS_bind (w_mergeHi hO hk (keys_ext hK) (keys_ext hK) rx ry (by lia) (by lia) hF hL fun o st' hS hM=>?_)
  refine wpS_bind (wpS_modify ?_)
  refine wpS_bind (wpS_get ?_)
  have e1:failedOf st'=none:=hS.fail.trans hf
  refine wpS_pure ?_
  show Q (failedOf st').isNone _
  rw [e1]
  refine h _ (hS.kind.trans hk) rfl hS.pend ?_
  show Joined κ _ (layBack (p+k) o.toList (arrOf st')) _ _
  rw [hS.arr]
  exact fin o st' hM
end
noncomputable def ascL (lo a nrem:Nat):StateT SortSt Sem AscSt:=
 forIn [a:nrem] ((none,a):AscSt) fun _ c=>do
  let b ← ltAt' (lo+c.snd) (lo+c.snd - 1)
  match b with
  | some d=>if d=true then pure (ForInStep.done (none,c.snd)) else pure (ForInStep.yield (none,c.snd+1))
  | _=>pure (ForInStep.done (some none,c.snd))
noncomputable def tailL (lo n nrem:Nat):StateT SortSt Sem (Option Nat):=do
 reverseSlice' lo (lo+n)
 let c ← ascL lo n nrem
 match c.fst with
 | some r=>pure r
 | none=>pure (some c.snd)
noncomputable def descL (lo n nrem:Nat):StateT SortSt Sem DescSt:=
 forIn [n:nrem] ((none,n,0):DescSt) fun _ c=>do
  let b ← ltAt' (lo+c.snd.fst) (lo+c.snd.fst - 1)
  match b with
  | some d=>
   if d=true then
    if c.snd.snd>0 then do
     reverseSlice' (lo+c.snd.fst - (c.snd.snd+1)) (lo+c.snd.fst)
     pure (ForInStep.yield (none,c.snd.fst+1,0))
    else pure (ForInStep.yield (none,c.snd.fst+1,0))
   else do
    let b ← ltAt' (lo+c.snd.fst - 1) (lo+c.snd.fst)
    match b with
    | some d=>
     if d=true then pure (ForInStep.done (none,c.snd.fst,c.snd.snd))
     else pure (ForInStep.yield (none,c.snd.fst+1,c.snd.snd+1))
    | _=>pure (ForInStep.done (some none,c.snd.fst,c.snd.snd))
  | _=>pure (ForInStep.done (some none,c.snd.fst,c.snd.snd))
noncomputable def downL (lo n nrem:Nat):StateT SortSt Sem (Option Nat):=do
 liftM (rule "list.sort.descending-run")
 let c ← descL lo (n+1) nrem
 match c.fst with
 | some r=>pure r
 | none=>
  if c.snd.snd>0 then do
   reverseSlice' (lo+c.snd.fst - (c.snd.snd+1)) (lo+c.snd.fst)
   tailL lo c.snd.fst nrem
  else tailL lo c.snd.fst nrem
noncomputable def countL (lo nrem:Nat):StateT SortSt Sem (Option Nat):=do
  let c ← ascL lo 1 nrem
  match c.fst with
  | some r=>pure r
  | none=>
   if (c.snd==nrem)=true then pure (some c.snd)
   else if c.snd>1 then do
    let b ← ltAt' lo (lo+c.snd - 1)
    match b with
    | some d=>if d=true then pure (some c.snd) else do
      reverseSlice' lo (lo+c.snd)
      downL lo c.snd nrem
    | _=>pure none
   else downL lo c.snd nrem
theorem tailL_eq (lo n nrem:Nat) (f:AscSt→StateT SortSt Sem (Option Nat)) (hf:∀ c,f c=match c.fst with | some r=>pure r | none=>pure (some c.snd)):(reverseSlice' lo (lo+n) >>= fun _=>ascL lo n nrem >>= f)=tailL lo n nrem:=by
 unfold tailL
 exact bind_congr fun _=>bind_congr hf
theorem downL_eq (lo n nrem:Nat) (f:DescSt→StateT SortSt Sem (Option Nat)) (hf:∀ r m q,f (r,m,q)=match r with
   | some r=>pure r
   | none=>if q>0 then do
     reverseSlice' (lo+m - (q+1)) (lo+m)
     tailL lo m nrem
    else tailL lo m nrem):((liftM (rule "list.sort.descending-run"):StateT SortSt Sem Unit) >>= fun _=>descL lo (n+1) nrem >>= f)=downL lo n nrem:=by
 unfold downL
 exact bind_congr fun _=>bind_congr fun c=>by obtain ⟨r,m,q⟩:=c;exact (hf r m q).trans (by cases r <;> rfl)
theorem countL_eq (lo nrem:Nat):countRun' lo nrem=countL lo nrem:=by
 have tl:∀ m,(reverseSlice' lo (lo+m) >>= fun _=>ascL lo m nrem >>= fun c=>match c.fst with | some r=>pure r | none=>pure (some c.snd))=tailL lo m nrem:=fun m=>tailL_eq lo m nrem _ fun c=>rfl
 rw [countRun'_eq]
 unfold countL
 refine bind_congr fun c=>?_
 obtain ⟨r,n⟩:=c
 cases r with
 | some r=>rfl
 | none=>
  dsimp only
  refine ite_congr rfl (fun _=>rfl) fun _=>?_
  have dn:∀ f:DescSt→StateT SortSt Sem (Option Nat),(∀ r m q,f (r,m,q)=match r with
   | some r=>pure r
   | none=>if q>0 then do
     reverseSlice' (lo+m - (q+1)) (lo+m)
     tailL lo m nrem
    else tailL lo m nrem)→((liftM (rule "list.sort.descending-run"):StateT SortSt Sem Unit) >>= fun _=>descL lo (n+1) nrem >>= f)=downL lo n nrem:=fun f hf=>downL_eq lo n nrem f hf
  refine ite_congr rfl (fun _=>?_) fun _=>?_
  ·refine bind_congr fun b=>?_
   cases b with
   | none=>rfl
   | some d=>
    dsimp only
    refine ite_congr rfl (fun _=>rfl) fun _=>?_
    refine bind_congr fun _=>?_
    refine dn _ fun r m q=>?_
    cases r with
    | some r=>rfl
    | none=>
     dsimp only
     refine ite_congr rfl (fun _=>?_) fun _=>?_
     ·refine bind_congr fun _=>?_
      refine tailL_eq lo m nrem _ fun c=>?_
      obtain ⟨r,k⟩:=c
      cases r <;> rfl
     ·refine tailL_eq lo m nrem _ fun c=>?_
      obtain ⟨r,k⟩:=c
      cases r <;> rfl
  ·refine dn _ fun r m q=>?_
   cases r with
   | some r=>rfl
   | none=>
    dsimp only
    refine ite_congr rfl (fun _=>?_) fun _=>?_
    ·refine bind_congr fun _=>?_
     refine tailL_eq lo m nrem _ fun c=>?_
     obtain ⟨r,k⟩:=c
     cases r <;> rfl
    ·refine tailL_eq lo m nrem _ fun c=>?_
     obtain ⟨r,k⟩:=c
     cases r <;> rfl
noncomputable def SortL (κ:PyProof.Rows.KeyKind) (xs:Array Keyed) (lo n:Nat):Prop:=∀ i j,i≤j→j<n→κ.kle (KK κ xs (lo+i)) (KK κ xs (lo+j))
noncomputable def FallL (κ:PyProof.Rows.KeyKind) (xs:Array Keyed) (lo n:Nat):Prop:=∀ i j,i≤j→j<n→κ.kle (KK κ xs (lo+j)) (KK κ xs (lo+i))
structure SL (κ:PyProof.Rows.KeyKind) (kd:SortKind) (a₀:Array Keyed) (pd:Array (Nat×Nat×Nat)) (lo:Nat) (b:Array Keyed) (st:SortSt):Prop where
 perm:(arrOf st).Perm a₀
 kind:kindOf st=kd
 failed:failedOf st=none
 pend:pendingOf st=pd
 low:∀ t,t<lo→KK κ (arrOf st) t=KK κ b t
section
variable {κ:PyProof.Rows.KeyKind} {kd:SortKind} {a₀:Array Keyed} {pd:Array (Nat×Nat×Nat)} {lo:Nat} {b:Array Keyed} {st:SortSt}
theorem SL.size (h:SL κ kd a₀ pd lo b st):(arrOf st).size=a₀.size:=h.perm.size_eq
theorem SL.moved (h:SL κ kd a₀ pd lo b st) {xs:Array Keyed} (p:xs.Perm (arrOf st)) (hl:∀ t,t<lo→KK κ xs t=KK κ (arrOf st) t):SL κ kd a₀ pd lo b (setArr st xs):=
 ⟨p.trans h.perm,h.kind,h.failed,h.pend,fun t ht=>(hl t ht).trans (h.low t ht)⟩
theorem SL.mirrored (h:SL κ kd a₀ pd lo b st) {i j:Nat} (hi:lo≤i) (hj:j≤a₀.size):SL κ kd a₀ pd lo b (setArr st (mirror (arrOf st) i j ((j - i) / 2))):=
 h.moved (mirror_perm _ _ _ _) fun t ht=>by rw [KK_mirror (by rw [h.size];exact hj),if_neg (by lia)]
theorem SL.key (h:SL κ kd a₀ pd lo b st) (h0:KeysOf κ a₀) {i:Nat} (hi:i<a₀.size):
  ∃ x p a,(arrOf st)[i]?=some (x,p)∧κ.keyOf x=some a∧KK κ (arrOf st) i=a:=by
 have hi':i<(arrOf st).size:=h.size▸hi
 obtain ⟨a,ha⟩:=h0 (arrOf st)[i] ((Array.perm_iff_toList_perm.mp h.perm).mem_iff.mp (Array.mem_toList_iff.mpr (Array.getElem_mem hi')))
 have e:(arrOf st)[i]?=some (arrOf st)[i]:=getElem?_pos _ i hi'
 exact ⟨_,_,a,e,ha,by unfold KK;rw [e];simp [ha]⟩
theorem sortL_more {xs:Array Keyed} {x:Nat} (hs:SortL κ xs lo x) (h:x=0∨κ.kle (KK κ xs (lo+x - 1)) (KK κ xs (lo+x))):SortL κ xs lo (x+1):=by
 intro i j hij hj
 rcases Nat.lt_or_ge j x with c | c
 ·exact hs i j hij c
 ·have:j=x:=by lia
  subst this
  rcases Nat.lt_or_ge i j with c2 | c2
  ·rcases h with h | h
   ·lia
   ·have:=hs i (j - 1) (by lia) (by lia)
    rw [show lo+(j - 1)=lo+j - 1 from by lia] at this
    exact KeyOrd.kle_trans this h
  ·have:i=j:=by lia
   subst this;exact KeyOrd.kle_refl _
theorem fallL_more {xs:Array Keyed} {x:Nat} (hs:FallL κ xs lo x) (h:x=0∨κ.kle (KK κ xs (lo+x)) (KK κ xs (lo+x - 1))):FallL κ xs lo (x+1):=by
 intro i j hij hj
 rcases Nat.lt_or_ge j x with c | c
 ·exact hs i j hij c
 ·have:j=x:=by lia
  subst this
  rcases Nat.lt_or_ge i j with c2 | c2
  ·rcases h with h | h
   ·lia
   ·have:=hs i (j - 1) (by lia) (by lia)
    rw [show lo+(j - 1)=lo+j - 1 from by lia] at this
    exact KeyOrd.kle_trans h this
  ·have:i=j:=by lia
   subst this;exact KeyOrd.kle_refl _
end
section
variable {prog:Program} {w:World} {A:Around} {E:Value→Shared→Prop} {s:Shared} {a₀:Array Keyed} {κ:PyProof.Rows.KeyKind} {kd:SortKind} {pd:Array (Nat×Nat×Nat)} {lo:Nat} {b:Array Keyed}
theorem l_lt (hO:LtAt κ prog w A s kd) {st:SortSt} {i j:Nat} {Q:Option Bool→SortSt→Prop} (hB:SL κ kd a₀ pd lo b st) (h0:KeysOf κ a₀) (hi:i<a₀.size) (hj:j<a₀.size)
  (h:Q (some (κ.blt (KK κ (arrOf st) i) (KK κ (arrOf st) j))) st):wpS (model prog w) A E s (ltAt' i j) Q st:=by
 obtain ⟨x,p,a,e1,ha,ka⟩:=hB.key h0 hi
 obtain ⟨y,q,c,e2,hb,kb⟩:=hB.key h0 hj
 rw [ka,kb] at h
 rw [ltAt'_eq]
 refine wpS_bind (wpS_get ?_)
 show wpS _ _ _ _ (elem' (arrOf st) i >>= fun x=>elem' (arrOf st) j >>= fun y=>lt' x y) Q st
 rw [elem'_eq,elem'_eq,e1,e2]
 refine wpS_bind (wpS_pure (wpS_bind (wpS_pure ?_)))
 rw [lt'_eq]
 refine wpS_bind (wpS_get ?_)
 rw [hB.kind]
 exact wpS_bind (wpS_lift (wpAny_attempt (hO _ x y a c _ ha hb ⟨rfl,wpS_pure h⟩)))
theorem l_asc (hO:LtAt κ prog w A s kd) (h0:KeysOf κ a₀) {st:SortSt} {a nrem:Nat} {Q:AscSt→SortSt→Prop} (hn:lo+nrem≤a₀.size) (ha:1≤a) (han:a≤nrem) (hB:SL κ kd a₀ pd lo b st) (hs:SortL κ (arrOf st) lo a)
  (h:∀ n,a≤n→n≤nrem→SortL κ (arrOf st) lo n→(n=nrem∨κ.klt (KK κ (arrOf st) (lo+n)) (KK κ (arrOf st) (lo+n - 1)))→Q (none,n) st):wpS (model prog w) A E s (ascL lo a nrem) Q st:=by
 unfold ascL
 refine wpS_forRange (I:=fun x c st'=>st'=st∧c=(none,x)∧SortL κ (arrOf st) lo x) (fun x c st' hax hxn hI=>?_) (fun c st' hI=>?_) ⟨rfl,rfl,hs⟩
 ·obtain ⟨rfl,rfl,hs'⟩:=hI
  refine wpS_bind (l_lt hO hB h0 (by lia) (by lia) ?_)
  cases c:κ.blt (KK κ (arrOf st') (lo+x)) (KK κ (arrOf st') (lo+x - 1)) with
  | true=>exact wpS_pure (h x hax (by lia) hs' (.inr c))
  | false=>exact wpS_pure ⟨rfl,rfl,sortL_more hs' (.inr c)⟩
 ·obtain ⟨rfl,rfl,hs'⟩:=hI
  have e:max a nrem=nrem:=by lia
  rw [e] at hs' ⊢
  exact h nrem han (Nat.le_refl _) hs' (.inl rfl)
theorem l_tail (hO:LtAt κ prog w A s kd) (h0:KeysOf κ a₀) {st:SortSt} {n nrem:Nat} {Q:Option Nat→SortSt→Prop} (hn:lo+nrem≤a₀.size) (h1:1≤n) (hnn:n≤nrem) (hB:SL κ kd a₀ pd lo b st) (hs:FallL κ (arrOf st) lo n)
  (h:∀ m st',SL κ kd a₀ pd lo b st'→1≤m→m≤nrem→SortL κ (arrOf st') lo m→Q (some m) st'):wpS (model prog w) A E s (tailL lo n nrem) Q st:=by
 unfold tailL
 have hsz:lo+n≤(arrOf st).size:=by rw [hB.size];lia
 have hB':SL κ kd a₀ pd lo b (setArr st (mirror (arrOf st) lo (lo+n) ((lo+n - lo) / 2))):=hB.mirrored (Nat.le_refl _) (by lia)
 have hs':SortL κ (mirror (arrOf st) lo (lo+n) ((lo+n - lo) / 2)) lo n:=fun i j hij hj=>by
  rw [KK_mirror hsz,KK_mirror hsz,if_pos ⟨by lia,by lia⟩,if_pos ⟨by lia,by lia⟩]
  have:=hs (n - 1 - j) (n - 1 - i) (by lia) (by lia)
  rw [show lo+(lo+n) - 1 - (lo+i)=lo+(n - 1 - i) from by lia,show lo+(lo+n) - 1 - (lo+j)=lo+(n - 1 - j) from by lia]
  exact this
 exact wpS_bind (w_rev (wpS_bind (l_asc hO h0 hn h1 hnn hB' hs' fun m g1 g2 g3 _=>wpS_pure (h m _ hB' (by lia) g2 g3))))
theorem l_desc (hO:LtAt κ prog w A s kd) (h0:KeysOf κ a₀) {st:SortSt} {n nrem:Nat} {Q:DescSt→SortSt→Prop} (hn:lo+nrem≤a₀.size) (h1:1≤n) (hnn:n≤nrem) (hB:SL κ kd a₀ pd lo b st) (hs:FallL κ (arrOf st) lo n)
  (h:∀ m neq st',SL κ kd a₀ pd lo b st'→n≤m→m≤nrem→FallL κ (arrOf st') lo m→neq+1≤m→(∀ i,lo+m - (neq+1)≤i→i<lo+m→KK κ (arrOf st') i=KK κ (arrOf st') (lo+m - 1))→Q (none,m,neq) st'):
  wpS (model prog w) A E s (descL lo n nrem) Q st:=by
 unfold descL
 refine wpS_forRange (I:=fun x c st'=>∃ neq,c=(none,x,neq)∧SL κ kd a₀ pd lo b st'∧FallL κ (arrOf st') lo x∧neq+1≤x∧∀ i,lo+x - (neq+1)≤i→i<lo+x→KK κ (arrOf st') i=KK κ (arrOf st') (lo+x - 1))
  (fun x c st' hax hxn hI=>?_) (fun c st' hI=>?_) ⟨0,rfl,hB,hs,h1,fun i g1 g2=>by congr 1;lia⟩
 ·obtain ⟨neq,rfl,hB',hs',hq,he⟩:=hI
  have hsz:lo+x≤(arrOf st').size:=by rw [hB'.size];lia
  dsimp only
  refine wpS_bind (l_lt hO hB' h0 (by lia) (by lia) ?_)
  cases c:κ.blt (KK κ (arrOf st') (lo+x)) (KK κ (arrOf st') (lo+x - 1)) with
  | true=>
   have up:FallL κ (arrOf st') lo (x+1):=fallL_more hs' (.inr (KeyOrd.kle_of_klt c))
   by_cases hp:neq>0
   ·simp only [hp,if_true]
    have same:=KK_mirror_equal (κ:=κ) (i:=lo+x - (neq+1)) hsz he
    refine wpS_bind (w_rev (wpS_pure ⟨0,rfl,hB'.mirrored (by lia) (by lia),fun i j hij hj=>?_,by lia,fun i g1 g2=>by congr 1;lia⟩))
    show κ.kle (KK κ (mirror (arrOf st') _ _ _) (lo+j)) (KK κ (mirror (arrOf st') _ _ _) (lo+i))
    rw [same,same]
    exact up i j hij hj
   ·simp only [hp,if_true,if_false]
    exact wpS_pure ⟨0,rfl,hB',up,by lia,fun i g1 g2=>by congr 1;lia⟩
  | false=>
   simp only [Bool.false_eq_true,if_false]
   refine wpS_bind (l_lt hO hB' h0 (by lia) (by lia) ?_)
   cases d:κ.blt (KK κ (arrOf st') (lo+x - 1)) (KK κ (arrOf st') (lo+x)) with
   | true=>exact wpS_pure (h x neq st' hB' hax (by lia) hs' hq he)
   | false=>
    have eqx:KK κ (arrOf st') (lo+x)=KK κ (arrOf st') (lo+x - 1):=KeyOrd.kle_antisymm d c
    refine wpS_pure ⟨neq+1,rfl,hB',fallL_more hs' (.inr (by rw [eqx];exact KeyOrd.kle_refl _)),by lia,fun i g1 g2=>?_⟩
    rw [show lo+(x+1) - 1=lo+x from by lia]
    rcases Nat.lt_or_ge i (lo+x) with g | g
    ·rw [eqx];exact he i (by lia) g
    ·congr 1;lia
 ·obtain ⟨neq,rfl,hB',hs',hq,he⟩:=hI
  have e:max n nrem=nrem:=by lia
  rw [e] at hs' hq he ⊢
  exact h nrem neq st' hB' hnn (Nat.le_refl _) hs' hq he
theorem l_down (hO:LtAt κ prog w A s kd) (h0:KeysOf κ a₀) {st:SortSt} {n nrem:Nat} {Q:Option Nat→SortSt→Prop} (hn:lo+nrem≤a₀.size) (hnn:n+1≤nrem) (hB:SL κ kd a₀ pd lo b st) (hs:FallL κ (arrOf st) lo (n+1))
  (h:∀ m st',SL κ kd a₀ pd lo b st'→1≤m→m≤nrem→SortL κ (arrOf st') lo m→Q (some m) st'):wpS (model prog w) A E s (downL lo n nrem) Q st:=by
 unfold downL
 refine wpS_bind (wpS_lift (wpAny_rule ⟨rfl,wpS_bind (l_desc hO h0 hn (by lia) hnn hB hs fun m neq st' hB' g1 g2 hs' hq he=>?_)⟩))
 have hsz:lo+m≤(arrOf st').size:=by rw [hB'.size];lia
 by_cases hp:neq>0
 ·simp only [hp,if_true]
  have same:=KK_mirror_equal (κ:=κ) (i:=lo+m - (neq+1)) hsz he
  refine wpS_bind (w_rev (l_tail hO h0 hn (by lia) g2 (hB'.mirrored (by lia) (by lia)) (fun i j hij hj=>?_) h))
  show κ.kle (KK κ (mirror (arrOf st') _ _ _) (lo+j)) (KK κ (mirror (arrOf st') _ _ _) (lo+i))
  rw [same,same]
  exact hs' i j hij hj
 ·simp only [hp,if_false]
  exact l_tail hO h0 hn (by lia) g2 hB' hs' h
theorem l_count (hO:LtAt κ prog w A s kd) (h0:KeysOf κ a₀) {st:SortSt} {nrem:Nat} {Q:Option Nat→SortSt→Prop} (hn:lo+nrem≤a₀.size) (h1:1≤nrem) (hB:SL κ kd a₀ pd lo b st)
  (h:∀ m st',SL κ kd a₀ pd lo b st'→1≤m→m≤nrem→SortL κ (arrOf st') lo m→Q (some m) st'):wpS (model prog w) A E s (countRun' lo nrem) Q st:=by
 rw [countL_eq]
 unfold countL
 have one:SortL κ (arrOf st) lo 1:=fun i j hij hj=>by
  have:i=j:=by lia
  subst this;exact KeyOrd.kle_refl _
 refine wpS_bind (l_asc hO h0 hn (Nat.le_refl 1) h1 hB one fun n g1 g2 hsn hor=>?_)
 by_cases hnn:n=nrem
 ·simp only [hnn,beq_self_eq_true,if_true]
  exact wpS_pure (h nrem st hB h1 (Nat.le_refl _) (hnn▸hsn))
 ·have hb:(n==nrem)=false:=beq_eq_false_iff_ne.mpr hnn
  have hlt:κ.klt (KK κ (arrOf st) (lo+n)) (KK κ (arrOf st) (lo+n - 1)):=hor.resolve_left hnn
  simp only [hb,Bool.false_eq_true,if_false]
  by_cases hg:n>1
  ·simp only [hg,if_true]
   refine wpS_bind (l_lt hO hB h0 (by lia) (by lia) ?_)
   cases c:κ.blt (KK κ (arrOf st) lo) (KK κ (arrOf st) (lo+n - 1)) with
   | true=>exact wpS_pure (h n st hB g1 g2 hsn)
   | false=>
    have hsz:lo+n≤(arrOf st).size:=by rw [hB.size];lia
    have all:∀ k,lo≤k→k<lo+n→KK κ (arrOf st) k=KK κ (arrOf st) (lo+n - 1):=fun k hk0 hk=>by
     have a1:=hsn (k - lo) (n - 1) (by lia) (by lia)
     have a2:=hsn 0 (k - lo) (Nat.zero_le _) (by lia)
     rw [show lo+(k - lo)=k from by lia] at a1 a2
     rw [show lo+(n - 1)=lo+n - 1 from by lia] at a1
     exact KeyOrd.kle_antisymm a1 (KeyOrd.kle_trans c a2)
    have same:=KK_mirror_equal (κ:=κ) (i:=lo) hsz all
    refine wpS_bind (w_rev (l_down hO h0 hn (by lia) (hB.mirrored (Nat.le_refl _) (by lia)) (fallL_more (fun i j hij hj=>?_) (.inr ?_)) h))
    ·show κ.kle (KK κ (mirror (arrOf st) _ _ _) (lo+j)) (KK κ (mirror (arrOf st) _ _ _) (lo+i))
     rw [same,same,all (lo+i) (by lia) (by lia),all (lo+j) (by lia) (by lia)]
     exact KeyOrd.kle_refl _
    ·show κ.kle (KK κ (mirror (arrOf st) _ _ _) (lo+n)) (KK κ (mirror (arrOf st) _ _ _) (lo+n - 1))
     rw [same,same]
     exact KeyOrd.kle_of_klt hlt
  ·simp only [hg,if_false]
   have e1:n=1:=by lia
   subst e1
   refine l_down hO h0 hn (by lia) hB (fallL_more (fun i j hij hj=>?_) (.inr (KeyOrd.kle_of_klt hlt))) h
   have:i=j:=by lia
   subst this;exact KeyOrd.kle_refl _
end
section
variable {prog:Program} {w:World} {A:Around} {E:Value→Shared→Prop} {s:Shared} {a₀:Array Keyed} {κ:PyProof.Rows.KeyKind} {kd:SortKind} {pd:Array (Nat×Nat×Nat)} {lo:Nat} {b:Array Keyed}
theorem l_binary (hO:LtAt κ prog w A s kd) (h0:KeysOf κ a₀) {st:SortSt} {n ok:Nat} {Q:Bool→SortSt→Prop} (hn:lo+n≤a₀.size) (hok:ok≤n) (hB:SL κ kd a₀ pd lo b st) (hs:SortL κ (arrOf st) lo ok)
  (h:∀ st',SL κ kd a₀ pd lo b st'→SortL κ (arrOf st') lo n→Q true st'):wpS (model prog w) A E s (binarySort' lo n ok) Q st:=by
 rw [binarySort'_eq]
 refine wpS_bind (wpS_mono (wpS_forRange (I:=fun k c st'=>c=(none,())∧SL κ kd a₀ pd lo b st'∧SortL κ (arrOf st') lo (min k n)) (Q:=fun c st'=>c=(none,())∧SL κ kd a₀ pd lo b st'∧SortL κ (arrOf st') lo n)
  (fun k c st' hak hkn hI=>?_) (fun c st' hI=>?_) ⟨rfl,hB,fun i j hij hj=>?_⟩) fun c st' hI=>?_)
 ·obtain ⟨rfl,hB',hs'⟩:=hI
  have ek:min k n=k:=by lia
  rw [ek] at hs'
  have hk:lo+k<a₀.size:=by lia
  refine wpS_bind (wpS_mono (wpS_forRange
   (I:=fun x c st2=>st2=st'∧∃ l r,c=(none,l,r)∧l≤r∧r≤k∧r - l≤k - x∧(∀ i,i<l→κ.kle (KK κ (arrOf st') (lo+i)) (KK κ (arrOf st') (lo+k)))∧∀ i,r≤i→i<k→κ.klt (KK κ (arrOf st') (lo+k)) (KK κ (arrOf st') (lo+i)))
   (Q:=fun c st2=>st2=st'∧∃ l r,c=(none,l,r)∧l≤k∧(∀ i,i<l→κ.kle (KK κ (arrOf st') (lo+i)) (KK κ (arrOf st') (lo+k)))∧∀ i,l≤i→i<k→κ.klt (KK κ (arrOf st') (lo+k)) (KK κ (arrOf st') (lo+i)))
   (fun x c st2 _ hx hJ=>?_) (fun c st2 hJ=>?_) ⟨rfl,0,k,rfl,Nat.zero_le _,Nat.le_refl _,by lia,fun i g=>by lia,fun i g1 g2=>by lia⟩) fun c st2 hJ=>?_)
  ·obtain ⟨rfl,l,r,rfl,hlr,hrk,hm,hlo,hhi⟩:=hJ
   by_cases hge:l≥r
   ·simp only [hge,if_true]
    have e:l=r:=by lia
    subst e
    exact wpS_pure ⟨rfl,l,l,rfl,hrk,hlo,hhi⟩
   ·simp only [hge,if_false]
    refine wpS_bind (l_lt hO hB' h0 hk (by lia) ?_)
    cases c:κ.blt (KK κ (arrOf st2) (lo+k)) (KK κ (arrOf st2) (lo+(l+r) / 2)) with
    | true=>exact wpS_pure ⟨rfl,l,(l+r) / 2,rfl,by lia,by lia,by lia,hlo,fun i g1 g2=>KeyOrd.klt_of_klt_of_kle c (hs' _ _ g1 g2)⟩
    | false=>exact wpS_pure ⟨rfl,(l+r) / 2+1,r,rfl,by lia,by lia,by lia,fun i g=>KeyOrd.kle_trans (hs' i ((l+r) / 2) (by lia) (by lia)) (show κ.kle _ _ from c),hhi⟩
  ·obtain ⟨rfl,l,r,rfl,hlr,hrk,hm,hlo,hhi⟩:=hJ
   have e:l=r:=by lia
   subst e
   exact ⟨rfl,l,l,rfl,hrk,hlo,hhi⟩
  ·obtain ⟨rfl,l,r,rfl,hlk,hlo,hhi⟩:=hJ
   show wpS _ _ _ _ (moveDown' (lo+k) (lo+l) >>= fun _=>pure (ForInStep.yield (none,()))) _ _
   rw [moveDown'_eq]
   have hks:lo+k<(arrOf st2).size:=by rw [hB'.size];exact hk
   have ed:lo+k - (lo+l)=k - l:=by lia
   have e3:lo+k - (k - l)=lo+l:=by lia
   have hbub:∀ t,KK κ (bubble (arrOf st2) (lo+k) (lo+k - (lo+l))) t=if t=lo+l then KK κ (arrOf st2) (lo+k) else if lo+l<t∧t≤lo+k then KK κ (arrOf st2) (t - 1) else KK κ (arrOf st2) t:=fun t=>by
    rw [KK_bubble hks (by lia),ed,e3]
   refine wpS_bind (wpS_modify (wpS_pure ⟨rfl,hB'.moved (bubble_perm _ _ _) (fun t ht=>?_),?_⟩))
   ·rw [hbub,if_neg (by lia),if_neg (by lia)]
   have e2:min (k+1) n=k+1:=by lia
   rw [e2]
   intro i j hij hj
   show κ.kle (KK κ (bubble (arrOf st2) (lo+k) (lo+k - (lo+l))) (lo+i)) (KK κ (bubble (arrOf st2) (lo+k) (lo+k - (lo+l))) (lo+j))
   rw [hbub,hbub]
   by_cases c1:i=l
   ·subst c1
    rw [if_pos rfl]
    by_cases c2:j=i
    ·rw [if_pos (by lia)];exact KeyOrd.kle_refl _
    ·rw [if_neg (by lia),if_pos ⟨by lia,by lia⟩,show lo+j - 1=lo+(j - 1) from by lia]
     exact KeyOrd.kle_of_klt (hhi _ (by lia) (by lia))
   ·rw [if_neg (show ¬ lo+i=lo+l by lia)]
    by_cases c3:l<i∧i≤k
    ·rw [if_pos (show lo+l<lo+i∧lo+i≤lo+k by lia),if_neg (by lia),if_pos ⟨by lia,by lia⟩,show lo+j - 1=lo+(j - 1) from by lia,show lo+i - 1=lo+(i - 1) from by lia]
     exact hs' _ _ (by lia) (by lia)
    ·rw [if_neg (show ¬ (lo+l<lo+i∧lo+i≤lo+k) by lia)]
     by_cases c2:j=l
     ·rw [if_pos (by lia)];exact hlo _ (by lia)
     ·rw [if_neg (show ¬ lo+j=lo+l by lia)]
      by_cases c4:l<j∧j≤k
      ·rw [if_pos (by lia),show lo+j - 1=lo+(j - 1) from by lia];exact hs' _ _ (by lia) (by lia)
      ·rw [if_neg (by lia)];exact hs' _ _ (by lia) (by lia)
 ·obtain ⟨rfl,hB',hs'⟩:=hI
  have e:min (max (max ok 1) n) n=n:=by lia
  rw [e] at hs'
  exact ⟨rfl,hB',hs'⟩
 ·by_cases c:ok=0
  ·have:i=j:=by lia
   subst this;exact KeyOrd.kle_refl _
  ·exact hs i j hij (by lia)
 ·obtain ⟨rfl,hB',hs'⟩:=hI
  exact wpS_pure (h st' hB' hs')
end
noncomputable def Tiles (κ:PyProof.Rows.KeyKind) (xs:Array Keyed):List (Nat×Nat×Nat)→Nat→Nat→Prop
 | [],a,e=>a=e
 | (p,n,_)::rs,a,e=>p=a∧0<n∧Seg κ xs a (a+n)∧Tiles κ xs rs (a+n) e
section
variable {κ:PyProof.Rows.KeyKind}
theorem Tiles.le {xs:Array Keyed}:∀ {rs:List (Nat×Nat×Nat)} {a e:Nat},Tiles κ xs rs a e→a+rs.length≤e
 | [],a,e,h=>by cases (show a=e from h);exact Nat.le_refl _
 | (p,n,u)::rs,a,e,h=>by
  obtain ⟨rfl,h1,_,h2⟩:=h
  have:=h2.le
  simp only [List.length_cons];lia
theorem Tiles.mono {xs ys:Array Keyed}:∀ {rs:List (Nat×Nat×Nat)} {a e:Nat},Tiles κ xs rs a e→(∀ t,a≤t→t<e→KK κ ys t=KK κ xs t)→Tiles κ ys rs a e
 | [],a,e,h,_=>h
 | (p,n,u)::rs,a,e,h,hk=>by
  obtain ⟨rfl,h1,h2,h3⟩:=h
  have hl:=h3.le
  exact ⟨rfl,h1,fun i j c1 c2 c3=>by rw [hk i c1 (by lia),hk j (by lia) (by lia)];exact h2 i j c1 c2 c3,h3.mono fun t c1 c2=>hk t (by lia) c2⟩
theorem Tiles.push {xs:Array Keyed}:∀ {rs:List (Nat×Nat×Nat)} {a e n u:Nat},Tiles κ xs rs a e→0<n→Seg κ xs e (e+n)→Tiles κ xs (rs++[(e,n,u)]) a (e+n)
 | [],a,e,n,u,h,hn,hs=>by cases (show a=e from h);exact ⟨rfl,hn,hs,rfl⟩
 | (p,m,v)::rs,a,e,n,u,h,hn,hs=>by
  obtain ⟨rfl,h1,h2,h3⟩:=h
  exact ⟨rfl,h1,h2,h3.push hn hs⟩
theorem Tiles.renum {xs:Array Keyed} (f:Nat×Nat×Nat→Nat×Nat×Nat) (hf:∀ p n u,∃ v,f (p,n,u)=(p,n,v)):∀ {rs:List (Nat×Nat×Nat)} {a e:Nat} (k:Nat),Tiles κ xs rs a e→Tiles κ xs (rs.modify k f) a e
 | [],a,e,k,h=>by cases k <;> exact h
 | (p,n,u)::rs,a,e,0,h=>by
  obtain ⟨v,hv⟩:=hf p n u
  obtain ⟨rfl,h1,h2,h3⟩:=h
  rw [List.modify_zero_cons,hv]
  exact ⟨rfl,h1,h2,h3⟩
 | (p,n,u)::rs,a,e,k+1,h=>by
  obtain ⟨rfl,h1,h2,h3⟩:=h
  rw [List.modify_succ_cons]
  exact ⟨rfl,h1,h2,h3.renum f hf k⟩
theorem Tiles.at {xs:Array Keyed}:∀ {rs:List (Nat×Nat×Nat)} {a e:Nat} (i:Nat),Tiles κ xs rs a e→i+1<rs.length→∃ p n u q m v,rs[i]?=some (p,n,u)∧rs[i+1]?=some (q,m,v)∧q=p+n∧0<n∧0<m∧a≤p∧q+m≤e∧Seg κ xs p q∧Seg κ xs q (q+m)∧
  ∀ ys,(∀ t,t<p∨q+m≤t→KK κ ys t=KK κ xs t)→Seg κ ys p (q+m)→Tiles κ ys ((rs.set i (p,n+m,u)).eraseIdx (i+1)) a e
 | [],a,e,i,h,hi=>by simp at hi
 | [r],a,e,i,h,hi=>by simp at hi
 | (p,n,u)::(q,m,v)::rs,a,e,0,h,hi=>by
  obtain ⟨rfl,h1,h2,rfl,h4,h5,h6⟩:=h
  have hl:=h6.le
  refine ⟨p,n,u,p+n,m,v,rfl,rfl,rfl,h1,h4,Nat.le_refl _,by lia,h2,h5,fun ys hy hs=>?_⟩
  refine ⟨rfl,by lia,by rw [← Nat.add_assoc];exact hs,?_⟩
  rw [← Nat.add_assoc]
  exact h6.mono fun t c1 _=>hy t (.inr c1)
 | r::r'::rs,a,e,i+1,h,hi=>by
  obtain ⟨p,n,u⟩:=r
  obtain ⟨rfl,h1,h2,h3⟩:=h
  obtain ⟨p',n',u',q,m,v,e1,e2,e3,e4,e5,e6,e7,e8,e9,ef⟩:=h3.at i (by simpa using hi)
  refine ⟨p',n',u',q,m,v,e1,e2,e3,e4,e5,by lia,e7,e8,e9,fun ys hy hs=>?_⟩
  refine ⟨rfl,h1,fun x y c1 c2 c3=>?_,ef ys hy hs⟩
  rw [hy x (.inl (by lia)),hy y (.inl (by lia))]
  exact h2 x y c1 c2 c3
theorem joinP_list (pd:Array (Nat×Nat×Nat)) (i p n u:Nat):(joinP pd i p n u).toList=(pd.toList.set i (p,n,u)).eraseIdx (i+1):=by
 unfold joinP
 rw [Array.toList_eraseIdxIfInBounds,Array.toList_setIfInBounds]
end
structure RI (κ:PyProof.Rows.KeyKind) (kd:SortKind) (a₀:Array Keyed) (lo:Nat) (st:SortSt):Prop where
 perm:(arrOf st).Perm a₀
 kind:kindOf st=kd
 failed:failedOf st=none
 tiles:Tiles κ (arrOf st) (pendingOf st).toList 0 lo
section
variable {prog:Program} {w:World} {A:Around} {E:Value→Shared→Prop} {s:Shared} {a₀:Array Keyed} {κ:PyProof.Rows.KeyKind} {kd:SortKind}
theorem RI.size {lo:Nat} {st:SortSt} (h:RI κ kd a₀ lo st):(arrOf st).size=a₀.size:=h.perm.size_eq
theorem RI.keys {lo:Nat} {st:SortSt} (h:RI κ kd a₀ lo st) (h0:KeysOf κ a₀):KeysOf κ (arrOf st):=fun p hp=>h0 p ((Array.perm_iff_toList_perm.mp h.perm).mem_iff.mp hp)
theorem l_join (hO:LtAt κ prog w A s kd) (h0:KeysOf κ a₀) {st:SortSt} {i lo:Nat} {Q:Bool→SortSt→Prop} (hR:RI κ kd a₀ lo st) (hlo:lo≤a₀.size) (hi:i+1<(pendingOf st).size)
  (h:∀ st',RI κ kd a₀ lo st'→(pendingOf st').size+1=(pendingOf st).size→(∀ t,lo≤t→KK κ (arrOf st') t=KK κ (arrOf st) t)→Q true st'):wpS (model prog w) A E s (mergeAt' i) Q st:=by
 obtain ⟨p,n,u,q,m,v,e1,e2,e3,e4,e5,e6,e7,e8,e9,ef⟩:=hR.tiles.at i (by simpa using hi)
 rw [Array.getElem?_toList] at e1 e2
 refine w_mergeAt hO hR.kind hR.failed (hR.keys h0) e1 e2 e3 e4 e5 (by rw [hR.size];lia) e8 e9 fun st' g1 g2 g3 g4=>h st' ⟨?_,g1,g2,?_⟩ ?_ fun t ht=>KK_congr (g4.out t (.inr (by lia)))
 ·exact (Array.perm_iff_toList_perm.mpr g4.perm).trans hR.perm
 ·rw [g3,joinP_list]
  exact ef _ (fun t ht=>KK_congr (g4.out t ht)) g4.seg
 ·rw [← Array.length_toList,g3,joinP_list,List.length_eraseIdx,List.length_set,Array.length_toList,if_pos hi]
  lia
theorem seg_sortL {xs:Array Keyed} {lo n:Nat} (h:SortL κ xs lo n):Seg κ xs lo (lo+n):=fun i j h1 h2 h3=>by
 have:=h (i - lo) (j - lo) (by lia) (by lia)
 rwa [show lo+(i - lo)=i from by lia,show lo+(j - lo)=j from by lia] at this
theorem RI.sl {lo:Nat} {st:SortSt} (h:RI κ kd a₀ lo st):SL κ kd a₀ (pendingOf st) lo (arrOf st) st:=⟨h.perm,h.kind,h.failed,rfl,fun _ _=>rfl⟩
theorem SL.ri {lo:Nat} {st st':SortSt} (h:RI κ kd a₀ lo st) (h':SL κ kd a₀ (pendingOf st) lo (arrOf st) st'):RI κ kd a₀ lo st':=
 ⟨h'.perm,h'.kind,h'.failed,by rw [h'.pend];exact h.tiles.mono fun t _ ht=>h'.low t ht⟩
theorem RI.push {lo n:Nat} {st:SortSt} (h:RI κ kd a₀ lo st) (hn:0<n) (hs:SortL κ (arrOf st) lo n):RI κ kd a₀ (lo+n) (setPending st ((pendingOf st).push (lo,n,0))):=
 ⟨h.perm,h.kind,h.failed,by
  show Tiles κ (arrOf st) ((pendingOf st).push (lo,n,0)).toList 0 (lo+n)
  rw [Array.toList_push]
  exact h.tiles.push hn (seg_sortL hs)⟩
theorem RI.renum {lo:Nat} {st:SortSt} (h:RI κ kd a₀ lo st) (k:Nat) (f:Nat×Nat×Nat→Nat×Nat×Nat) (hf:∀ p n u,∃ v,f (p,n,u)=(p,n,v)):RI κ kd a₀ lo (setPending st ((pendingOf st).modify k f)):=
 ⟨h.perm,h.kind,h.failed,by
  show Tiles κ (arrOf st) ((pendingOf st).modify k f).toList 0 lo
  rw [Array.toList_modify]
  exact h.tiles.renum f hf k⟩
theorem sortL_kk {xs ys:Array Keyed} {lo n:Nat} (h:SortL κ xs lo n) (hk:∀ t,lo≤t→KK κ ys t=KK κ xs t):SortL κ ys lo n:=fun i j h1 h2=>by
 rw [hk _ (by lia),hk _ (by lia)];exact h i j h1 h2
theorem RI.one {st:SortSt} (h:RI κ kd a₀ a₀.size st) (h2:2≤a₀.size) (hp:(pendingOf st).size≤1):SortedToK κ (arrOf st) a₀.size:=by
 have ht:=h.tiles
 rw [← Array.length_toList] at hp
 cases hl:(pendingOf st).toList with
 | nil=>
  rw [hl] at ht
  have:(0:Nat)=a₀.size:=ht
  lia
 | cons r rs=>
  obtain ⟨p,n,u⟩:=r
  rw [hl] at ht hp
  cases rs with
  | cons r' rs'=>simp at hp
  | nil=>
   obtain ⟨rfl,h1,h3,h4⟩:=ht
   have h5:0+n=a₀.size:=h4
   intro i j hij hj
   exact h3 i j (Nat.zero_le _) hij (by lia)
theorem l_runs (hO:LtAt κ prog w A s kd) (h0:KeysOf κ a₀) {st:SortSt} {Q:Unit→SortSt→Prop} (hB:SB kd a₀ st) (h2:2≤a₀.size)
  (h:∀ st',(arrOf st').Perm a₀→failedOf st'=none→SortedToK κ (arrOf st') a₀.size→Q () st'):wpS (model prog w) A E s sortRuns' Q st:=by
 rw [sortRuns'_eq]
 refine wpS_bind (wpS_get ?_)
 simp only [hB.size]
 have hR0:RI κ kd a₀ 0 st:=⟨hB.perm,hB.kind,hB.failed,by rw [hB.pend];exact (rfl:(0:Nat)=0)⟩
 generalize minRun' a₀.size a₀.size 0=mr
 refine wpS_bind (wpS_mono (wpS_forRange (I:=fun x c st'=>∃ lo,c=(none,lo)∧lo≤a₀.size∧x≤lo∧RI κ kd a₀ lo st') (Q:=fun c st'=>c=(none,a₀.size)∧RI κ kd a₀ a₀.size st')
  (fun x c st' _ hx hI=>?_) (fun c st' hI=>?_) ⟨0,rfl,Nat.zero_le _,Nat.le_refl _,hR0⟩) fun c st' hI=>?_)
 ·obtain ⟨lo,rfl,hlo,hxl,hR⟩:=hI
  dsimp only
  by_cases hge:lo≥a₀.size
  ·rw [if_pos hge]
   have e:lo=a₀.size:=by lia
   subst e
   exact wpS_pure ⟨rfl,hR⟩
  ·rw [if_neg hge]
   refine wpS_bind (l_count hO h0 (by lia) (by lia) hR.sl fun m st2 hB2 g1 g2 hs2=>?_)
   have hR2:=SL.ri hR hB2
   dsimp only
   by_cases hlt:m<mr
   ·rw [if_pos hlt]
    have hfo:m≤min (a₀.size - lo) mr:=by lia
    have hf1:1≤min (a₀.size - lo) mr:=by lia
    have hf2:lo+min (a₀.size - lo) mr≤a₀.size:=by lia
    refine wpS_bind (wpS_lift (wpAny_rule ⟨rfl,wpS_bind (l_binary hO h0 hf2 hfo hB2 hs2 fun st3 hB3 hs3=>?_)⟩))
    have hR3:=SL.ri hR hB3
    simp only [Bool.not_true,Bool.false_eq_true,if_false]
    generalize min (a₀.size - lo) mr=fc at hf1 hf2 hs3 ⊢
    refine wpS_bind (wpS_get ?_)
    cases hb:(pendingOf st3).back? with
    | none=>exact wpS_bind (wpS_modify (wpS_pure ⟨lo+fc,rfl,hf2,by lia,RI.push hR3 hf1 hs3⟩))
    | some t=>
     obtain ⟨q1,q2,q3⟩:=t
     dsimp only
     refine wpS_bind (wpS_mono (wpS_forRange (I:=fun _ c st4=>c=(none,())∧RI κ kd a₀ lo st4∧SortL κ (arrOf st4) lo fc) (Q:=fun c st4=>c=(none,())∧RI κ kd a₀ lo st4∧SortL κ (arrOf st4) lo fc)
      (fun y c st4 _ _ hJ=>?_) (fun _ _ hh=>hh) ⟨rfl,hR3,hs3⟩) fun c st4 hJ=>?_)
     ·obtain ⟨rfl,hR4,hs4⟩:=hJ
      refine wpS_bind (wpS_get ?_)
      by_cases hgt:(pendingOf st4).size>1
      ·rw [if_pos hgt]
       cases hq:(pendingOf st4)[(pendingOf st4).size - 2]? with
       | none=>exact wpS_pure ⟨rfl,hR4,hs4⟩
       | some t=>
        obtain ⟨r1,r2,older⟩:=t
        dsimp only
        by_cases hol:older≤power' a₀.size (2 * q1+q2) (2 * q1+q2+q2+fc) a₀.size
        ·rw [if_pos hol]
         exact wpS_pure ⟨rfl,hR4,hs4⟩
        ·rw [if_neg hol]
         refine wpS_bind (l_join hO h0 hR4 hlo (by lia) fun st5 hR5 _ hkk=>?_)
         simp only [Bool.not_true,Bool.false_eq_true,if_false]
         exact wpS_pure ⟨rfl,hR5,sortL_kk hs4 hkk⟩
      ·rw [if_neg hgt]
       exact wpS_pure ⟨rfl,hR4,hs4⟩
     ·obtain ⟨rfl,hR4,hs4⟩:=hJ
      dsimp only
      exact wpS_bind (wpS_modify (wpS_bind (wpS_modify (wpS_pure ⟨lo+fc,rfl,hf2,by lia,RI.push (RI.renum hR4 _ _ fun p n u=>⟨_,rfl⟩) hf1 hs4⟩))))
   ·rw [if_neg hlt]
    have hf2:lo+m≤a₀.size:=by lia
    refine wpS_bind (wpS_get ?_)
    cases hb:(pendingOf st2).back? with
    | none=>exact wpS_bind (wpS_modify (wpS_pure ⟨lo+m,rfl,hf2,by lia,RI.push hR2 g1 hs2⟩))
    | some t=>
     obtain ⟨q1,q2,q3⟩:=t
     dsimp only
     refine wpS_bind (wpS_mono (wpS_forRange (I:=fun _ c st4=>c=(none,())∧RI κ kd a₀ lo st4∧SortL κ (arrOf st4) lo m) (Q:=fun c st4=>c=(none,())∧RI κ kd a₀ lo st4∧SortL κ (arrOf st4) lo m)
      (fun y c st4 _ _ hJ=>?_) (fun _ _ hh=>hh) ⟨rfl,hR2,hs2⟩) fun c st4 hJ=>?_)
     ·obtain ⟨rfl,hR4,hs4⟩:=hJ
      refine wpS_bind (wpS_get ?_)
      by_cases hgt:(pendingOf st4).size>1
      ·rw [if_pos hgt]
       cases hq:(pendingOf st4)[(pendingOf st4).size - 2]? with
       | none=>exact wpS_pure ⟨rfl,hR4,hs4⟩
       | some t=>
        obtain ⟨r1,r2,older⟩:=t
        dsimp only
        by_cases hol:older≤power' a₀.size (2 * q1+q2) (2 * q1+q2+q2+m) a₀.size
        ·rw [if_pos hol]
         exact wpS_pure ⟨rfl,hR4,hs4⟩
        ·rw [if_neg hol]
         refine wpS_bind (l_join hO h0 hR4 hlo (by lia) fun st5 hR5 _ hkk=>?_)
         simp only [Bool.not_true,Bool.false_eq_true,if_false]
         exact wpS_pure ⟨rfl,hR5,sortL_kk hs4 hkk⟩
      ·rw [if_neg hgt]
       exact wpS_pure ⟨rfl,hR4,hs4⟩
     ·obtain ⟨rfl,hR4,hs4⟩:=hJ
      dsimp only
      exact wpS_bind (wpS_modify (wpS_bind (wpS_modify (wpS_pure ⟨lo+m,rfl,hf2,by lia,RI.push (RI.renum hR4 _ _ fun p n u=>⟨_,rfl⟩) g1 hs4⟩))))
 ·obtain ⟨lo,rfl,hlo,hxl,hR⟩:=hI
  have e:lo=a₀.size:=by lia
  subst e
  exact ⟨rfl,hR⟩
 ·obtain ⟨rfl,hR⟩:=hI
  dsimp only
  refine wpS_bind (wpS_mono (wpS_forRange (I:=fun x c st''=>c=(none,())∧RI κ kd a₀ a₀.size st''∧((pendingOf st'').size+x≤a₀.size∨(pendingOf st'').size≤1)) (Q:=fun c st''=>c=(none,())∧RI κ kd a₀ a₀.size st''∧(pendingOf st'').size≤1)
   (fun x c st'' _ hx hJ=>?_) (fun c st'' hJ=>?_) ⟨rfl,hR,.inl ?_⟩) fun c st'' hJ=>?_)
  ·obtain ⟨rfl,hR',hp⟩:=hJ
   refine wpS_bind (wpS_get ?_)
   by_cases hs1:(pendingOf st'').size≤1
   ·rw [if_pos hs1]
    exact wpS_pure ⟨rfl,hR',hs1⟩
   ·rw [if_neg hs1]
    refine wpS_bind (l_join hO h0 hR' (Nat.le_refl _) (by split <;> lia) fun st3 hR3 hz _=>?_)
    simp only [Bool.not_true,Bool.false_eq_true,if_false]
    exact wpS_pure ⟨rfl,hR3,by lia⟩
  ·obtain ⟨rfl,hR',hp⟩:=hJ
   exact ⟨rfl,hR',by lia⟩
  ·have:=hR.tiles.le
   rw [Array.length_toList] at this
   lia
  ·obtain ⟨rfl,hR',hp⟩:=hJ
   exact wpS_pure (h _ hR'.perm hR'.failed (hR'.one h2 hp))
end
section
variable {prog:Program} {w:World} {A:Around} {E:Value→Shared→Prop} {s:Shared} {a₀:Array Keyed} {κ:PyProof.Rows.KeyKind} {kd:SortKind}
noncomputable def KindAt (prog:Program) (w:World) (A:Around) (s:Shared) (vs:List Value) (kd:SortKind):Prop:=
 ∀ (E:Value→Shared→Prop) (Q:SortKind→Shared→Prop),Q kd s→wpAny (model prog w) A (keyKind' vs.toArray) Q E s
theorem w_sort {a:Addr} {vs:List Value} {n:Nat} {P:Fin→Shared→Prop} (ho:s.heap.get? a=some (seqObj "list" vs.toArray n)) (h0:KeysOf κ (pairsOf vs)) (hsl:vs.length≤sizeLine)
  (hO:∀ h':Heap,(∀ b o,b≠a→s.heap.get? b=some o→h'.get? b=some o)→LtAt κ prog w A {s with heap:=h'} kd∧(2≤vs.length→KindAt prog w A {s with heap:=h'} vs kd))
  (h:∀ xs:Array Keyed,xs.Perm (pairsOf vs)→SortedToK κ xs (pairsOf vs).size→P (.done (.ret .none)) {s with heap:=sortedHeap s.heap a vs (xs.map (·.2))}):
  wpAny (model prog w) A (Builtin.«list.sort» ⟨[.ref a],[]⟩) P E s:=by
 rw [list_sort_plain]
 have ha:a<s.heap.objs.size:=Heap.lt_size ho
 have hsa:vs.toArray.size≤sizeLine:=by rw [List.size_toArray];exact hsl
 refine wpAny_bind (listItems_at ho rfl (wpAny_bind (listUpdate_at ho rfl ?_ (hsz:=hsa) (hsz2:=Nat.zero_le _))))
 obtain ⟨e1,ho1⟩:∃ e1,(s.heap.update a (Obj.mapSeq fun _=>#[])).get? a=some (seqObj "list" #[] e1):=⟨_,get?_update_seq ho (fun _=>#[])⟩
 refine wpAny_bind (seqEpoch_at ho1 rfl (wpAny_bind (wpAny_newTuple (hsz:=hsl) (wpAny_bind (wpAny_newList (wpAny_holding ?_))))))
 have n1:a≠(s.heap.update a (Obj.mapSeq fun _=>#[])).objs.size:=by rw [Heap.size_update];exact Nat.ne_of_lt ha
 have n2:a≠((s.heap.update a (Obj.mapSeq fun _=>#[])).push (seqObj "tuple" vs.toArray 0)).objs.size:=by rw [size_push',Heap.size_update];exact Nat.ne_of_lt (Nat.lt_succ_of_lt ha)
 have ho6:(((s.heap.update a (Obj.mapSeq fun _=>#[])).push (seqObj "tuple" vs.toArray 0)).push (seqObj "list" #[] 0)).get? a=some (seqObj "list" #[] e1):=by
  rw [Heap.get?_push_ne _ _ _ n2,Heap.get?_push_ne _ _ _ n1];exact ho1
 have keep:∀ b o,b≠a→s.heap.get? b=some o→(((s.heap.update a (Obj.mapSeq fun _=>#[])).push (seqObj "tuple" vs.toArray 0)).push (seqObj "list" #[] 0)).get? b=some o:=fun b o hb e=>by
  refine Heap.get?_push_of_some _ (Heap.get?_push_of_some _ ?_)
  rw [Heap.get?_update_ne _ _ _ _ hb];exact e
 obtain ⟨hL,hK⟩:=hO _ keep
 show wpAny (model prog w) A _ P E {s with heap:=((s.heap.update a (Obj.mapSeq fun _=>#[])).push (seqObj "tuple" vs.toArray 0)).push (seqObj "list" #[] 0)}
 dsimp only
 have hsz:vs.toArray.size=vs.length:=by simp
 have hps:(pairsOf vs).size=vs.length:=pairsOf_size vs
 have fit:∀ xs:Array Keyed,xs.Perm (pairsOf vs)→(xs.map (·.2)).size≤sizeLine+1:=fun xs p=>by
  rw [Array.size_map,p.size_eq,hps];lia
 by_cases h2:vs.toArray.size<2
 ·rw [if_pos h2,if_pos h2]
  refine wpAny_bind (wpAny_pure ?_)
  rw [StateT.run_pure]
  refine wpAny_bind (wpAny_pure ?_)
  dsimp only
  refine wpAny_bind (seqEpoch_at ho6 rfl (wpAny_bind (listUpdate_at ho6 rfl ?_ (hsz2:=fit (pairsOf vs) (Array.Perm.refl _)))))
  simp only [bne_self_eq_false,Bool.false_eq_true,if_false]
  refine wpAny_pure (h (pairsOf vs) (Array.Perm.refl _) fun i j hij hj=>?_)
  have:i=j:=by lia
  subst this;exact KeyOrd.kle_refl _
 ·rw [if_neg h2,if_neg h2]
  refine wpAny_bind (hK (by lia) _ _ ?_)
  refine wpAny_bind (wpAny_mono (l_runs (κ:=κ) hL (a₀:=pairsOf vs) (st:=SortSt.mk' kd (vs.toArray.zip vs.toArray) #[] 7 none)
   (Q:=fun _ st'=>(arrOf st').Perm (pairsOf vs)∧failedOf st'=none∧SortedToK κ (arrOf st') (pairsOf vs).size)
   h0 ⟨Array.Perm.refl _,rfl,rfl,rfl⟩ (by lia) fun st' g1 g2 g3=>⟨g1,g2,g3⟩) ?_ fun _ _ e=>e)
  rintro ⟨⟨⟩,st'⟩ s' ⟨rfl,hp,hf,hs⟩
  dsimp only
  refine wpAny_bind (seqEpoch_at ho6 rfl (wpAny_bind (listUpdate_at ho6 rfl ?_ (hsz2:=fit (arrOf st') hp))))
  rw [hf]
  simp only [bne_self_eq_false,Bool.false_eq_true,if_false]
  exact wpAny_pure (h (arrOf st') hp hs)
end
section
open PySem.SeqAt
open PySem.AutoSeq1 (wpAny_loadPart')
open PySem.MeetsSeq PySem.MeetsSeq2 PySem.MeetsSeq3
end
end DD
namespace DD
open PySem
structure Strict {α:Type} (lt:α→α→Bool):Prop where
 irr:∀ a,lt a a=false
 tr:∀ a b c,lt a b=true→lt b c=true→lt a c=true
 tot:∀ a b,lt a b=false→lt b a=false→a=b
theorem mem_insL {α:Type} {lt:α→α→Bool} {x z:α}:∀ xs:List α,z∈insL lt x xs↔z=x∨z∈xs
 | []=>by simp [insL]
 | y::r=>by
  rw [insL]
  split
  ·rw [List.mem_cons,mem_insL r,List.mem_cons]
   constructor
   ·rintro (h | h | h)
    ·exact .inr (.inl h)
    ·exact .inl h
    ·exact .inr (.inr h)
   ·rintro (h | h | h)
    ·exact .inr (.inl h)
    ·exact .inl h
    ·exact .inr (.inr h)
  ·simp
theorem mem_srtL {α:Type} {lt:α→α→Bool} {z:α}:∀ xs:List α,z∈srtL lt xs↔z∈xs
 | []=>by simp [srtL]
 | x::r=>by rw [srtL,mem_insL,mem_srtL r,List.mem_cons]
theorem insL_pw {α:Type} {lt:α→α→Bool} (S:Strict lt) {x:α}:∀ xs:List α,xs.Pairwise (fun a b=>lt a b=true)→x∉xs→(insL lt x xs).Pairwise (fun a b=>lt a b=true)
 | [],_,_=>by simp [insL]
 | y::r,h,hx=>by
  rw [List.pairwise_cons] at h
  rw [insL]
  have hne:x≠y:=fun e=>hx (by rw [e];exact List.mem_cons_self)
  split
  ·rename_i hlt
   rw [List.pairwise_cons]
   refine ⟨fun z hz=>?_,insL_pw S r h.2 fun m=>hx (List.mem_cons_of_mem _ m)⟩
   rcases (mem_insL r).mp hz with e | e
   ·rw [e];exact hlt
   ·exact h.1 z e
  ·rename_i hlt
   have hxy:lt x y=true:=by
    cases e:lt x y with
    | true=>rfl
    | false=>exact absurd (S.tot x y e (by simpa using hlt)) hne
   rw [List.pairwise_cons,List.pairwise_cons]
   refine ⟨fun z hz=>?_,h.1,h.2⟩
   rcases List.mem_cons.mp hz with e | e
   ·rw [e];exact hxy
   ·exact S.tr x y z hxy (h.1 z e)
theorem srtL_pw {α:Type} {lt:α→α→Bool} (S:Strict lt):∀ xs:List α,xs.Nodup→(srtL lt xs).Pairwise (fun a b=>lt a b=true)
 | [],_=>by simp [srtL]
 | x::r,h=>by
  rw [List.nodup_cons] at h
  rw [srtL]
  exact insL_pw S _ (srtL_pw S r h.2) fun m=>h.1 ((mem_srtL r).mp m)
theorem srtL_self {α:Type} {lt:α→α→Bool} (S:Strict lt):∀ xs:List α,xs.Pairwise (fun a b=>lt a b=true)→srtL lt xs=xs
 | [],_=>rfl
 | [x],_=>rfl
 | x::y::r,h=>by
  rw [srtL,srtL_self S (y::r) (List.pairwise_cons.mp h).2,insL]
  have hxy:=(List.pairwise_cons.mp h).1 y List.mem_cons_self
  have:lt y x=false:=by
   cases e:lt y x with
   | false=>rfl
   | true=>have:=S.tr x y x hxy e;rw [S.irr] at this;cases this
  rw [this];rfl
theorem strictI:Strict ltI:=by
 refine ⟨fun a=>?_,fun a b c h1 h2=>?_,fun a b h1 h2=>?_⟩
 ·simp [ltI]
 ·simp only [ltI,decide_eq_true_eq] at *;lia
 ·simp only [ltI,decide_eq_false_iff_not] at *;lia
theorem lex_irr:∀ a:List Int,lexLt a a=false
 | []=>rfl
 | x::xs=>by rw [lexLt,if_pos rfl];exact lex_irr xs
theorem lex_tr:∀ a b c:List Int,lexLt a b=true→lexLt b c=true→lexLt a c=true
 | [],[],c,h,_=>by simp [lexLt] at h
 | [],_::_,[],_,h=>by simp [lexLt] at h
 | [],_::_,_::_,_,_=>rfl
 | _::_,[],_,h,_=>by simp [lexLt] at h
 | _::_,_::_,[],_,h=>by simp [lexLt] at h
 | x::xs,y::ys,z::zs,h1,h2=>by
  rw [lexLt] at h1 h2 ⊢
  have ih:=lex_tr xs ys zs
  by_cases e1:x=y
  ·subst e1
   rw [if_pos rfl] at h1
   by_cases e2:x=z
   ·subst e2
    rw [if_pos rfl] at h2
    rw [if_pos rfl]
    exact ih h1 h2
   ·rw [if_neg e2] at h2 ⊢
    exact h2
  ·rw [if_neg e1] at h1
   have h1':=of_decide_eq_true h1
   by_cases e2:y=z
   ·subst e2
    rw [if_neg e1];exact h1
   ·rw [if_neg e2] at h2
    have h2':=of_decide_eq_true h2
    rw [if_neg (by lia)]
    exact decide_eq_true (by lia)
theorem lex_tot:∀ a b:List Int,lexLt a b=false→lexLt b a=false→a=b
 | [],[],_,_=>rfl
 | [],_::_,h,_=>by simp [lexLt] at h
 | _::_,[],_,h=>by simp [lexLt] at h
 | x::xs,y::ys,h1,h2=>by
  rw [lexLt] at h1 h2
  by_cases e:x=y
  ·subst e
   rw [if_pos rfl] at h1 h2
   rw [lex_tot xs ys h1 h2]
  ·rw [if_neg e] at h1
   rw [if_neg (fun q=>e q.symm)] at h2
   have:=of_decide_eq_false h1
   have:=of_decide_eq_false h2
   lia
theorem strictL:Strict lexLt:=⟨lex_irr,lex_tr,lex_tot⟩
theorem len_le_of_sub {α:Type} [DecidableEq α]:∀ (l r:List α),l.Nodup→(∀ x∈l,x∈r)→l.length≤r.length
 | [],r,_,_=>Nat.zero_le _
 | a::l,r,hn,hs=>by
  rw [List.nodup_cons] at hn
  have ha:=hs a List.mem_cons_self
  have ih:=len_le_of_sub l (r.erase a) hn.2 fun x hx=>(List.mem_erase_of_ne (fun e=>hn.1 (by rw [← e];exact hx))).mpr (hs x (List.mem_cons_of_mem _ hx))
  rw [List.length_erase_of_mem ha] at ih
  have:0<r.length:=List.length_pos_of_mem ha
  simp only [List.length_cons];lia
noncomputable abbrev Pr:=SetTable.Probe
noncomputable def adv (mask:Nat) (p:Pr):Pr:=
 if p.more>0 then {p with j:=p.j+1,more:=p.more - 1} else
 let (i,perturb):=SetTable.leap mask p.i p.perturb
 {p with j:=i,more:=SetTable.runEnd mask i - i,i,perturb}
noncomputable def startAt (mask i perturb:Nat):Pr:={j:=i,more:=SetTable.runEnd mask i - i,i,perturb,dummy:=none}
noncomputable def PathN (mask:Nat) (occ:Nat→Prop):Nat→Pr→Pr→Prop
 | 0,p,q=>q=p
 | n+1,p,q=>occ p.j∧PathN mask occ n (adv mask p) q
theorem PathN.mono {mask:Nat} {occ occ':Nat→Prop} (h:∀ j,occ j→occ' j):∀ {n p q},PathN mask occ n p q→PathN mask occ' n p q
 | 0,p,q,e=>e
 | n+1,p,q,e=>⟨h _ e.1,PathN.mono h e.2⟩
noncomputable def Rch (mask:Nat) (occ:Nat→Prop) (h:Int) (j:Nat):Prop:=∃ n q,PathN mask occ n (startAt mask (SetTable.bits h % (mask+1)) (SetTable.bits h)) q∧q.j=j∧n<10 * (mask+15)
theorem Rch.mono {mask:Nat} {occ occ':Nat→Prop} (h:∀ j,occ j→occ' j) {x:Int} {j:Nat} (r:Rch mask occ x j):Rch mask occ' x j:=let ⟨n,q,a,b,c⟩:=r;⟨n,q,a.mono h,b,c⟩
end DD
namespace DD
open PySem PySem.Spec PyProof.Rows
noncomputable def KeptBut (h h':Heap):Prop:=∀ b o,h.get? b=some o→(∀ es n t,o.data≠.set es n t)→h'.get? b=some o
structure EK (prog:Program) (w:World) where
 α:Type
 dec:DecidableEq α
 is:Heap→α→Value→Prop
 hash:α→Int
 sc:Bool
 keep:∀ {h h':Heap} {k:α} {v:Value},is h k v→KeptBut h h'→is h' k v
 pyHash:∀ {A:Around} {E:Value→Shared→Prop} {s:Shared} {k:α} {v:Value} {Q:Int→Shared→Prop},A.units<cLine→is s.heap k v→(∀ tk,s.toks≤tk→Q (hash k) {s with toks:=tk})→wpAny (model prog w) A (pyHash v) Q E s
 eqBool:∀ {A:Around} {E:Value→Shared→Prop} {s:Shared} {k k':α} {v v':Value} {Q:Bool→Shared→Prop},A.units<cLine→is s.heap k v→is s.heap k' v'→Q (decide (k=k')) s→wpAny (model prog w) A (eqBool v v') Q E s
 byVal:∀ {A:Around} {E:Value→Shared→Prop} {s:Shared} {k:α} {v:Value} {Q:Bool→Shared→Prop},is s.heap k v→Q true s→wpAny (model prog w) A (hashByValue 8 v) Q E s
 same:∀ {A:Around} {E:Value→Shared→Prop} {s:Shared} {k:α} {v:Value} {Q:Bool→Shared→Prop},sc=false→is s.heap k v→Q true s→wpAny (model prog w) A (isSame v v) Q E s
 seen:∀ {A:Around} {E:Value→Shared→Prop} {s:Shared} {k:α} {v:Value} {vs:List Value} {Q:Bool→Shared→Prop},sc=false→is s.heap k v→(∀ u∈vs,∃ k',is s.heap k' u)→Q false s→wpAny (model prog w) A (searchCouldBeSeen v vs) Q E s
 scan:∀ {h:Heap} {k:α} {v:Value},is h k v→v.scannable=sc
 nstr:∀ {h:Heap} {k:α} {v:Value},is h k v→∀ x t,v≠.str x t
noncomputable def ekInt (prog:Program) (w:World):EK prog w where
 α:=Int
 dec:=inferInstance
 is:=fun _ k v=>(intKind prog w).is k v=true
 hash:=hashInt
 sc:=true
 keep:=fun h _=>h
 pyHash:=fun {A E s k v Q} _ hk h=>(intKind prog w).pyHash hk (h _ (Nat.le_succ _))
 eqBool:=fun _ h1 h2 h=>(intKind prog w).eqBool h1 h2 h
 byVal:=fun {A E s k v Q} hk h=>by
  cases v <;> simp [intKind,Value.isInt] at hk
  exact wpAny_of_eq (hashByValue_scannable 8 rfl) h
 same:=fun h=>by cases h
 seen:=fun h=>by cases h
 scan:=fun {h k v} hk=>by cases v <;> simp [intKind,Value.isInt] at hk;rfl
 nstr:=fun {h k v} hk x t e=>by subst e;simp [intKind,Value.isInt] at hk
section
variable {prog:Program} {w:World} {A:Around} {E:Value→Shared→Prop} {s:Shared}
theorem items_ints {ks:List Int} {vs:List Value} (h:ItemsAre (intKind prog w) ks vs):∀ v∈vs,∃ i t,v=.int i t:=by
 induction h with
 | nil=>intro v hv;cases hv
 | @cons k v' ks vs h1 _ ih=>
  intro v hv
  rcases List.mem_cons.mp hv with rfl | hv
  ·cases v <;> simp [intKind,Value.isInt] at h1
   exact ⟨_,_,rfl⟩
  ·exact ih v hv
theorem byVal_tuple {ks:List Int} {a:Addr} {Q:Bool→Shared→Prop} (hk:IsTupleKey (intKind prog w) s.heap ks a) (h:Q true s):wpAny (model prog w) A (hashByValue 8 (.ref a)) Q E s:=by
 have hT:=hk.typeIs
 obtain ⟨o,items,n,ho,_,hd,hi⟩:=hk
 unfold hashByValue
 refine wpAny_bind (wpAny_specialOf hT F.slot_tuple_hash.lookup ?_)
 show wpAny _ _ (seqItems? (.ref a) >>= _) _ _ s
 refine wpAny_bind (wpAny_seqItems ho hd ?_)
 refine wpAny_bind ?_
 show wpAny _ _ (forIn items _ _) _ _ s
 rw [← Array.forIn_toList]
 refine wpAny_forIn_list _ (fun rest r s'=>r.1=none∧s'=s∧∀ v∈rest,∃ i t,v=Value.int i t) _ ?_ ?_ _ _ ⟨rfl,rfl,items_ints hi⟩
 ·rintro v rest r s' ⟨hr,rfl,hall⟩
  obtain ⟨i,t,rfl⟩:=hall v List.mem_cons_self
  refine wpAny_bind ?_
  unfold hashByValue
  refine wpAny_pure ?_
  simp only [Bool.not_true,Bool.false_eq_true,if_false]
  exact wpAny_pure ⟨rfl,rfl,fun u hu'=>hall u (List.mem_cons_of_mem _ hu')⟩
 ·rintro ⟨r1,r2⟩ s' ⟨hr,rfl,_⟩
  simp only at hr
  subst hr
  exact wpAny_pure h
theorem notOfClass_tuple {ks:List Int} {a:Addr} {Q:Bool→Shared→Prop} (hk:IsTupleKey (intKind prog w) s.heap ks a) (h:Q false s):wpAny (model prog w) A (ofAClassStatement 8 (.ref a)) Q E s:=by
 have hT:=hk.typeIs
 obtain ⟨o,items,n,ho,_,hd,hi⟩:=hk
 unfold ofAClassStatement
 refine wpAny_bind (wpAny_typeOf hT ?_)
 dsimp only
 rw [if_pos (by decide)]
 refine wpAny_bind (wpAny_pure ?_)
 simp only [Bool.not_true,Bool.false_eq_true,if_false]
 refine wpAny_bind (wpAny_seqItems ho hd ?_)
 refine wpAny_bind ?_
 show wpAny _ _ (forIn items _ _) _ _ s
 rw [← Array.forIn_toList]
 refine wpAny_forIn_list _ (fun rest r s'=>r.1=none∧s'=s∧∀ v∈rest,∃ i t,v=Value.int i t) _ ?_ ?_ _ _ ⟨rfl,rfl,items_ints hi⟩
 ·rintro v rest r s' ⟨hr,rfl,hall⟩
  obtain ⟨i,t,rfl⟩:=hall v List.mem_cons_self
  refine wpAny_bind ?_
  unfold ofAClassStatement
  refine wpAny_pure ?_
  simp only [Bool.false_eq_true,if_false]
  exact wpAny_pure ⟨rfl,rfl,fun u hu'=>hall u (List.mem_cons_of_mem _ hu')⟩
 ·rintro ⟨r1,r2⟩ s' ⟨hr,rfl,_⟩
  simp only at hr
  subst hr
  exact wpAny_pure h
noncomputable def TK (prog:Program) (w:World) (h:Heap) (ks:List Int) (v:Value):Prop:=∃ a,v=.ref a∧IsTupleKey (intKind prog w) h ks a
theorem seen_tuple {ks:List Int} {v:Value} {vs:List Value} {Q:Bool→Shared→Prop} (hk:TK prog w s.heap ks v) (hs:∀ u∈vs,∃ k',TK prog w s.heap k' u) (h:Q false s):wpAny (model prog w) A (searchCouldBeSeen v vs) Q E s:=by
 obtain ⟨a,rfl,hk⟩:=hk
 unfold searchCouldBeSeen
 refine wpAny_bind ?_
 refine wpAny_forIn_list _ (fun rest r s'=>r.1=none∧s'=s∧∀ u∈rest,∃ k',TK prog w s.heap k' u) _ ?_ ?_ _ _ ⟨rfl,rfl,hs⟩
 ·rintro y rest r s' ⟨hr,rfl,hall⟩
  obtain ⟨k',b,rfl,hk'⟩:=hall y List.mem_cons_self
  have rest':∀ u∈rest,∃ k',TK prog w s'.heap k' u:=fun u hu'=>hall u (List.mem_cons_of_mem _ hu')
  dsimp only
  split
  ·exact wpAny_pure ⟨rfl,rfl,rest'⟩
  ·refine wpAny_bind (wpAny_eqIsQuiet_tuple hk ?_)
   simp only [Bool.not_true,Bool.false_eq_true,if_false]
   refine wpAny_bind (wpAny_eqIsQuiet_tuple hk' ?_)
   simp only [Bool.not_true,Bool.false_eq_true,if_false]
   refine wpAny_bind (notOfClass_tuple hk ?_)
   simp only [Bool.false_eq_true,if_false]
   refine wpAny_bind (notOfClass_tuple hk' ?_)
   simp only [Bool.false_eq_true,if_false]
   exact wpAny_pure ⟨rfl,rfl,rest'⟩
 ·rintro ⟨r1,r2⟩ s' ⟨hr,rfl,_⟩
  simp only at hr
  subst hr
  exact wpAny_pure h
end
noncomputable def ekTup (prog:Program) (w:World):EK prog w where
 α:=List Int
 dec:=inferInstance
 is:=TK prog w
 hash:=tupleKeyHash (intKind prog w)
 sc:=false
 keep:=fun {h h' k v} hk hb=>by
  obtain ⟨a,rfl,o,items,n,ho,hc,hd,hi⟩:=hk
  exact ⟨a,rfl,o,items,n,hb a o ho (fun es m t e=>by rw [hd] at e;cases e),hc,hd,hi⟩
 pyHash:=fun {A E s k v Q} hu hk h=>by
  obtain ⟨a,rfl,hk⟩:=hk
  exact wpAny_pyHash_tuple hu hk (h _ (Nat.le_add_right _ _))
 eqBool:=fun {A E s k k' v v' Q} hu h1 h2 h=>by
  obtain ⟨a,rfl,h1⟩:=h1
  obtain ⟨b,rfl,h2⟩:=h2
  exact wpAny_eqBool_tuple hu h1 h2 h
 byVal:=fun {A E s k v Q} hk h=>by
  obtain ⟨a,rfl,hk⟩:=hk
  exact byVal_tuple hk h
 same:=fun {A E s k v Q} _ hk h=>by
  obtain ⟨a,rfl,hk⟩:=hk
  exact wpAny_isSame_ref_self h
 seen:=fun {A E s k v vs Q} _ hk hs h=>seen_tuple hk hs h
 scan:=fun {h k v} hk=>by obtain ⟨a,rfl,hk⟩:=hk;rfl
 nstr:=fun {h k v} hk x t e=>by obtain ⟨a,rfl,hk⟩:=hk;cases e
inductive Els {prog:Program} {w:World} (K:EK prog w) (h:Heap):List (Int×Value)→List K.α→Prop
 | nil:Els K h [] []
 | cons {v:Value} {k:K.α} {es:List (Int×Value)} {ks:List K.α}:K.is h k v→Els K h es ks→Els K h ((K.hash k,v)::es) (k::ks)
section
variable {prog:Program} {w:World} {K:EK prog w} {h h':Heap}
theorem Els.at {es:List (Int×Value)} {ks:List K.α} (x:Els K h es ks):∀ {i:Nat} {e:Int×Value},es[i]?=some e→∃ k,ks[i]?=some k∧K.is h k e.2∧e.1=K.hash k:=by
 induction x with
 | nil=>intro i e he;simp at he
 | @cons v k es ks a _ ih=>
  intro i e he
  cases i with
  | zero=>simp at he;subst he;exact ⟨k,rfl,a,rfl⟩
  | succ i=>simp at he;exact ih he
end
section
variable {prog:Program} {w:World} {K:EK prog w} {A:Around} {E:Value→Shared→Prop} {s:Shared}
end
section
variable {prog:Program} {w:World} {K:EK prog w} {A:Around} {E:Value→Shared→Prop} {s:Shared}
end
noncomputable def Kp (h h':Heap):Prop:=∀ b o,h.get? b=some o→h'.get? b=some o
theorem Kp.but {h h':Heap} (k:Kp h h'):KeptBut h h':=fun b o e _=>k b o e
section
variable {prog:Program} {w:World} {K:EK prog w} {A:Around} {R:Result→Shared→Prop} {I:Addr} {fp wr:List Addr} {n:Nat} {P:Nat→Value→Prop} {St:Nat→Shared→Prop}
end
section
variable {prog:Program} {w:World} {K:EK prog w} {A:Around} {E:Value→Shared→Prop} {s:Shared}
end
section
variable {prog:Program} {w:World} {A:Around} {E:Value→Shared→Prop} {s:Shared}
end
section
variable {prog:Program} {w:World} {A:Around} {E:Value→Shared→Prop} {s:Shared}
end
section
variable {prog:Program} {w:World} {A:Around} {E:Value→Shared→Prop} {s:Shared}
end
structure EO {prog:Program} {w:World} (K:EK prog w) where
 lt:K.α→K.α→Bool
 st:Strict lt
 uniq:∀ {h:Heap} {k k':K.α} {v:Value},K.is h k v→K.is h k' v→k=k'
 good:K.α→Prop
 kd:SortKind
 dflt:K.α
 lts:∀ {A:Around} {E:Value→Shared→Prop} {s:Shared} {a b:K.α} {x y:Value} {Q:Bool→Shared→Prop},A.units<cLine→K.is s.heap a x→K.is s.heap b y→Q (lt a b) s→wpAny (model prog w) A (keyLt' kd x y) Q E s
 kind:∀ {A:Around} {E:Value→Shared→Prop} {s:Shared} {vs:List Value} {Q:SortKind→Shared→Prop},2≤vs.length→(∀ v∈vs,∃ k,K.is s.heap k v∧good k)→Q kd s→wpAny (model prog w) A (keyKind' vs.toArray) Q E s
theorem intsAre_all {prog:Program} {w:World}:∀ {vs:List Value},(∀ v∈vs,∃ k:Int,(intKind prog w).is k v=true)→∃ ns,IntsAre vs ns
 | [],_=>⟨[],.nil⟩
 | v::vs,h=>by
  obtain ⟨k,hk⟩:=h v List.mem_cons_self
  obtain ⟨ns,hn⟩:=intsAre_all fun u hu=>h u (List.mem_cons_of_mem _ hu)
  cases v <;> simp [intKind,Value.isInt] at hk
  exact ⟨_,.cons _ _ hn⟩
noncomputable def eoInt (prog:Program) (w:World):EO (ekInt prog w) where
 lt:=ltI
 st:=strictI
 uniq:=fun {h k k' v} h1 h2=>(intKind prog w).inj v k k' h1 h2
 good:=fun _=>True
 kd:=oneType'
 dflt:=(0:Int)
 lts:=fun {A E s a b x y Q} _ h1 h2 h=>by
  have h1':(intKind prog w).is a x=true:=h1
  have h2':(intKind prog w).is b y=true:=h2
  cases x <;> simp [intKind,Value.isInt] at h1'
  cases y <;> simp [intKind,Value.isInt] at h2'
  have e1:=eq_of_beq (α:=Int) h1'
  have e2:=eq_of_beq (α:=Int) h2'
  subst e1 e2
  rw [keyLt'_oneType]
  exact oneLt_int h
 kind:=fun {A E s vs Q} h2 hv h=>by
  obtain ⟨ns,hn⟩:=intsAre_all (prog:=prog) (w:=w) (vs:=vs) fun v hm=>let ⟨k,hk,_⟩:=hv v hm;⟨k,hk⟩
  match vs,h2,hn with
  | v₁::v₂::vs,_,hn=>exact wpAny_of_eq (keyKind_ints hn) h
theorem oneLt_int' {prog:Program} {w:World} {A:Around} {E:Value→Shared→Prop} {s:Shared} (f:Bool) {a b:Int} {t u:Tok} {Q:Bool→Shared→Prop} (h:Q (decide (a<b)) s):wpAny (model prog w) A (oneLt' f (.int a t) (.int b u)) Q E s:=by
 cases f with
 | true=>exact oneLt_int h
 | false=>
  rw [oneLt'_eq]
  simp only [Bool.false_eq_true,if_false]
  exact wpAny_bind (HT.rcLt_int A s a t b u prog w E _ (wpAny_truthy_bool h))
theorem keyLt'_tuples (f:Bool) (x y:Value):keyLt' (tuples' f) x y=(do
  let xs ← Builtin.List.listItems x;let ys ← Builtin.List.listItems y
  for ((p,q),i) in (xs.toList.zip ys.toList).zipIdx do
   if !(← eqBool p q) then return ← oneLt' (f&&i==0) p q
  return xs.size<ys.size):=rfl
theorem firstOfTuple'_eq (v:Value):firstOfTuple' v=(do
  if (← typeOf v) != .type "tuple" then return none
  return (← Builtin.List.listItems v)[0]?):=rfl
section
variable {prog:Program} {w:World} {A:Around} {E:Value→Shared→Prop} {s:Shared}
theorem keyLt_tup {f:Bool} {ks ms:List Int} {a b:Addr} {Q:Bool→Shared→Prop} (hx:IsTupleKey (intKind prog w) s.heap ks a) (hy:IsTupleKey (intKind prog w) s.heap ms b) (h:Q (lexLt ks ms) s):wpAny (model prog w) A (keyLt' (tuples' f) (.ref a) (.ref b)) Q E s:=by
 obtain ⟨oa,xs,na,hoa,_,hda,hia⟩:=hx
 obtain ⟨ob,ys,nb,hob,_,hdb,hib⟩:=hy
 rw [keyLt'_tuples]
 refine wpAny_bind (listItems_at hoa hda (wpAny_bind (listItems_at hob hdb ?_)))
 refine wpAny_bind ?_
 refine wpAny_forIn_list _ (fun rest r s'=>r.1=none∧s'=s∧∃ ks' ms' vs us i,rest=(List.zip vs us).zipIdx i∧ItemsAre (intKind prog w) ks' vs∧ItemsAre (intKind prog w) ms' us∧lexLt ks' ms'=lexLt ks ms∧decide (vs.length<us.length)=decide (xs.size<ys.size))
  _ ?_ ?_ _ _ ⟨rfl,rfl,ks,ms,xs.toList,ys.toList,0,rfl,hia,hib,rfl,by simp⟩
 ·rintro ⟨⟨p,q⟩,j⟩ rest r s' ⟨hr,rfl,ks',ms',vs,us,i,hz,h1,h2,h3,h4⟩
  cases h1 with
  | nil=>simp at hz
  | @cons k1 u' x'' xs'' g1 h1'=>
   cases h2 with
   | nil=>simp at hz
   | @cons k2 v' y'' ys'' g2 h2'=>
    simp only [List.zip_cons_cons,List.zipIdx_cons,List.cons.injEq,Prod.mk.injEq] at hz
    obtain ⟨⟨⟨rfl,rfl⟩,rfl⟩,rfl⟩:=hz
    dsimp only
    refine wpAny_bind ((intKind prog w).eqBool g1 g2 ?_)
    by_cases hk:k1=k2
    ·subst hk
     simp only [decide_true,Bool.not_true,Bool.false_eq_true,if_false]
     refine wpAny_pure ⟨rfl,rfl,x'',y'',xs'',ys'',_,rfl,h1',h2',?_,by simpa using h4⟩
     rw [← h3,lexLt,if_pos rfl]
    ·simp only [hk,decide_false,Bool.not_false,if_true]
     cases p <;> simp [intKind,Value.isInt] at g1
     cases q <;> simp [intKind,Value.isInt] at g2
     subst g1 g2
     refine wpAny_bind (oneLt_int' _ (wpAny_pure ?_))
     show wpAny _ _ _ _ _ _
     rw [lexLt,if_neg hk] at h3
     refine wpAny_pure ?_
     rw [h3];exact h
 ·rintro ⟨r1,r2⟩ s' ⟨hr,rfl,ks',ms',vs,us,i,hz,h1,h2,h3,h4⟩
  simp only at hr
  subst hr
  dsimp only
  have:decide (xs.size<ys.size)=lexLt ks ms:=by
   cases h1 with
   | nil=>
    cases h2 with
    | nil=>rw [← h4,← h3];simp [lexLt]
    | cons _ _=>rw [← h4,← h3];simp [lexLt]
   | cons _ _=>
    cases h2 with
    | nil=>rw [← h4,← h3];simp [lexLt]
    | cons _ _=>simp at hz
  rw [this]
  exact wpAny_pure h
theorem mapM_same {α β:Type} {M:Model} {f:α→Sem β} (g:α→β):∀ (l:List α) {Q:List β→Shared→Prop},(∀ x∈l,∀ (Q:β→Shared→Prop),Q (g x) s→wpAny M A (f x) Q E s)→Q (l.map g) s→wpAny M A (l.mapM f) Q E s
 | [],Q,_,h=>by rw [List.mapM_nil];exact wpAny_pure h
 | x::l,Q,hf,h=>by
  rw [List.mapM_cons]
  refine wpAny_bind (hf x List.mem_cons_self _ (wpAny_bind (mapM_same g l (fun y hy=>hf y (List.mem_cons_of_mem _ hy)) (wpAny_pure h))))
theorem kind_tup {vs:List Value} {Q:SortKind→Shared→Prop} (h2:2≤vs.length) (hv:∀ v∈vs,∃ k,TK prog w s.heap k v∧k≠[]) (h:Q (tuples' true) s):wpAny (model prog w) A (keyKind' vs.toArray) Q E s:=by
 have hg:∀ v,∃ u:Option Value,v∈vs→(∃ i t,u=some (.int i t))∧∀ (Q:Option Value→Shared→Prop),Q u s→wpAny (model prog w) A (firstOfTuple' v) Q E s:=fun v=>by
  by_cases hm:v∈vs
  ·obtain ⟨k,⟨a,rfl,hk⟩,hne⟩:=hv v hm
   have hT:=hk.typeIs
   obtain ⟨o,items,n,ho,_,hd,hi⟩:=hk
   cases hi':items.toList with
   | nil=>rw [hi'] at hi;cases hi;exact absurd rfl hne
   | cons x xs=>
    have h0:items[0]?=some x:=by rw [← Array.getElem?_toList,hi'];rfl
    have hx:∃ i t,x=.int i t:=items_ints hi x (by rw [hi'];exact List.mem_cons_self)
    obtain ⟨i,t,rfl⟩:=hx
    refine ⟨some (.int i t),fun _=>⟨⟨i,t,rfl⟩,fun Q hq=>?_⟩⟩
    rw [firstOfTuple'_eq]
    refine wpAny_bind (wpAny_typeOf hT ?_)
    simp only [bne_self_eq_false,Bool.false_eq_true,if_false]
    refine wpAny_bind (listItems_at ho hd (wpAny_pure ?_))
    rw [h0];exact hq
  ·exact ⟨none,fun c=>absurd c hm⟩
 have hg':=Classical.axiomOfChoice hg
 obtain ⟨g,hg'⟩:=hg'
 rw [keyKind'_eq,List.mapM_toArray]
 have hall:(vs.map g).toArray.all (·.isSome)=true:=by
  simp only [List.all_toArray,List.all_map,List.all_eq_true]
  intro v hm
  obtain ⟨⟨i,t,e⟩,_⟩:=hg' v hm
  simp [e]
 show wpAny _ _ ((List.toArray <$> vs.mapM firstOfTuple') >>= _) _ _ _
 rw [map_eq_pure_bind,bind_assoc]
 refine wpAny_bind (mapM_same g vs (fun v hm=>(hg' v hm).2) ?_)
 rw [pure_bind,hall]
 simp only [if_true]
 refine wpAny_bind (wpAny_rule ?_)
 rw [oneTypeOnly'_eq]
 have hfm:∃ l:List Value,((vs.map g).toArray.filterMap id)=l.toArray∧l≠[]∧∀ x∈l,∃ i t,x=.int i t:=by
  refine ⟨(vs.map g).filterMap id,by simp,?_,?_⟩
  ·match vs,h2 with
   | v::vs,_=>
    obtain ⟨⟨i,t,e⟩,_⟩:=hg' v List.mem_cons_self
    simp [e]
  ·intro x hx
   simp only [List.mem_filterMap,List.mem_map,id] at hx
   obtain ⟨_,⟨v,hm,rfl⟩,hx⟩:=hx
   obtain ⟨⟨i,t,e⟩,_⟩:=hg' v hm
   rw [e] at hx;cases hx;exact ⟨i,t,rfl⟩
 obtain ⟨l,e1,e2,e3⟩:=hfm
 rw [e1,List.mapM_toArray,map_eq_pure_bind,bind_assoc]
 refine wpAny_bind (wpAny_bind (mapM_same (fun _=>Value.type "int") l (fun x hx Q hq=>?_) ?_))
 ·obtain ⟨i,t,rfl⟩:=e3 x hx
  exact wpAny_pure hq
 ·refine wpAny_pure ?_
  have h0:(l.map (fun _=>Value.type "int")).toArray[0]?=some (Value.type "int"):=by
   match l,e2 with
   | x::l,_=>simp
  rw [h0]
  have ha:((l.map (fun _=>Value.type "int")).toArray.all fun x=>x==Value.type "int")=true:=by
   simp only [List.all_toArray,List.all_map,List.all_eq_true]
   intro _ _;rfl
  dsimp only
  rw [ha]
  simp only [if_true]
  refine wpAny_bind (wpAny_pure (wpAny_pure ?_))
  have:(some (Value.type "int")).any (· != Value.type "tuple")=true:=by decide
  rw [this];exact h
end
noncomputable def eoTup (prog:Program) (w:World):EO (ekTup prog w) where
 lt:=lexLt
 st:=strictL
 uniq:=fun {h k k' v} h1 h2=>by
  obtain ⟨a,rfl,h1⟩:=h1
  obtain ⟨b,e,h2⟩:=h2
  cases e
  exact h1.inj h2
 good:=fun k=>(k:List Int)≠[]
 kd:=tuples' true
 dflt:=([]:List Int)
 lts:=fun {A E s a b x y Q} _ h1 h2 h=>by
  obtain ⟨a',rfl,h1⟩:=h1
  obtain ⟨b',rfl,h2⟩:=h2
  exact keyLt_tup h1 h2 h
 kind:=fun {A E s vs Q} h2 hv h=>kind_tup h2 hv h
section
variable {prog:Program} {w:World} {K:EK prog w}
open Classical in
noncomputable def keyAt (O:EO K) (h0:Heap) (v:Value):Option K.α:=if h:∃ k,K.is h0 k v then some (Classical.choose h) else none
theorem keyAt_of (O:EO K) {h0:Heap} {k:K.α} {v:Value} (h:K.is h0 k v):keyAt O h0 v=some k:=by
 have e:∃ k,K.is h0 k v:=⟨k,h⟩
 unfold keyAt
 rw [dif_pos e]
 exact congrArg some (O.uniq (Classical.choose_spec e) h)
theorem keyAt_is (O:EO K) {h0:Heap} {k:K.α} {v:Value} (h:keyAt O h0 v=some k):K.is h0 k v:=by
 unfold keyAt at h
 split at h
 ·rename_i e;injection h with h;subst h;exact Classical.choose_spec e
 ·cases h
noncomputable def kapOf (O:EO K) (h0:Heap):PyProof.Rows.KeyKind where
 α:=K.α
 blt:=O.lt
 irrefl:=O.st.irr
 trans:=O.st.tr
 negTrans:=fun a b c h=>by
  cases h1:O.lt a b with
  | true=>exact .inl rfl
  | false=>
   refine .inr ?_
   cases h2:O.lt b a with
   | true=>exact O.st.tr b a c h2 h
   | false=>have:=O.st.tot a b h1 h2;subst this;exact h
 total:=O.st.tot
 keyOf:=keyAt O h0
 dflt:=O.dflt
noncomputable def keyD (O:EO K) (h0:Heap) (v:Value):K.α:=(keyAt O h0 v).getD O.dflt
theorem keyD_of (O:EO K) {h0:Heap} {k:K.α} {v:Value} (h:K.is h0 k v):keyD O h0 v=k:=by unfold keyD;rw [keyAt_of O h];rfl
variable {A:Around} {E:Value→Shared→Prop} {s:Shared}
end
end DD
namespace DD
open PySem PySem.Spec PyProof.Rows L2
section
variable {prog:Program} {w:World}
noncomputable def ekTupP (prog:Program) (w:World) (P:List Int→Value→Prop):EK prog w where
 α:=List Int
 dec:=inferInstance
 is:=fun h k v=>TK prog w h k v∧P k v
 hash:=tupleKeyHash (intKind prog w)
 sc:=false
 keep:=fun x kb=>⟨(ekTup prog w).keep x.1 kb,x.2⟩
 pyHash:=fun hu x h=>(ekTup prog w).pyHash hu x.1 h
 eqBool:=fun hu x y h=>(ekTup prog w).eqBool hu x.1 y.1 h
 byVal:=fun x h=>(ekTup prog w).byVal x.1 h
 same:=fun e x h=>(ekTup prog w).same e x.1 h
 seen:=fun e x hs h=>(ekTup prog w).seen e x.1 (fun u hu=>let ⟨k',hk⟩:=hs u hu;⟨k',hk.1⟩) h
 scan:=fun x=>(ekTup prog w).scan x.1
 nstr:=fun x=>(ekTup prog w).nstr x.1
noncomputable def eoTupP (prog:Program) (w:World) (P:List Int→Value→Prop):EO (ekTupP prog w P) where
 lt:=lexLt
 st:=strictL
 uniq:=fun x y=>(eoTup prog w).uniq x.1 y.1
 good:=fun k=>(k:List Int)≠[]
 kd:=tuples' true
 dflt:=([]:List Int)
 lts:=fun hu x y h=>(eoTup prog w).lts hu x.1 y.1 h
 kind:=fun h2 hv h=>(eoTup prog w).kind h2 (fun v hm=>let ⟨k,hk,hg⟩:=hv v hm;⟨k,hk.1,hg⟩) h
end
section
variable {X:Cx}
theorem out_vals {α:Type} {K:PySem.W.Frag} {G:Hp} (pv:α→PV) (hpv:∀ k,isDict (pv k)=false) (key:Value→α):∀ (out:List Value),(∀ v∈out,∃ u,RelV u v∧Rp K G (pv (key v)) u)→∃ outV,Vals outV out∧RpL K G ((out.map key).map pv) outV
 | [],_=>⟨[],.nil,.nil⟩
 | v::out,h=>by
  obtain ⟨u,h1,h2⟩:=h v List.mem_cons_self
  obtain ⟨us,r1,r2⟩:=out_vals pv hpv key out fun x hx=>h x (List.mem_cons_of_mem _ hx)
  exact ⟨u::us,.cons h1 r1,.cons (hpv _) h2 r2⟩
theorem ints_inv:∀ {ps:List PV} {ns:List Int},intsOf ps=some ns→ps=ns.map PyData.int
 | [],ns,e=>by cases (show some []=some ns from e);rfl
 | p::ps,ns,e=>by
  cases p with
  | int i=>
   obtain ⟨q,e1,e2⟩:=bnd_eq.mp (show bnd (intsOf ps) (fun q=>some (i::q))=some ns from e)
   cases e2
   rw [ints_inv e1];rfl
  | _=>simp [intsOf] at e
theorem tups_inv:∀ {ps:List PV} {ns:List (List Int)},tupsOf ps=some ns→ps=ns.map fun t=>PyData.tuple (t.map PyData.int)
 | [],ns,e=>by cases (show some []=some ns from e);rfl
 | p::ps,ns,e=>by
  cases p with
  | tuple xs=>
   obtain ⟨x,e1,e⟩:=bnd_eq.mp (show bnd (intsOf xs) (fun x=>bnd (tupsOf ps) fun q=>some (x::q))=some ns from e)
   obtain ⟨q,e2,e3⟩:=bnd_eq.mp e
   cases e3
   rw [tups_inv e2,ints_inv e1];rfl
  | _=>simp [tupsOf] at e
theorem items_of_vals {prog:Program} {w:World}:∀ {ns:List Int} {its:List Value},Vals (ns.map V.int) its→ItemsAre (intKind prog w) ns its
 | [],its,r=>by cases r;exact .nil
 | n::ns,its,r=>by
  cases r with
  | cons h r=>
   obtain ⟨t,rfl⟩:=(show ∃ t,_=Value.int n t from h)
   exact .cons (intKind_is _ _ _ _) (items_of_vals r)
theorem rpl_ints {K:PySem.W.Frag} {G:Hp}:∀ {ns:List Int} {vs:List V},RpL K G (ns.map PyData.int) vs→vs=ns.map V.int
 | [],vs,h=>h
 | n::ns,vs,h=>by
  obtain ⟨v,r,rfl,⟨_,h1⟩,h2⟩:=(show ∃ v r,vs=v::r∧(isDict (PyData.int n)=false∧Rp K G (.int n) v)∧RpL K G (ns.map PyData.int) r from h)
  cases (show v=.int n from h1)
  rw [rpl_ints h2];rfl
end
section
variable {X:Cx} {cf:CF}
end
theorem perm_ints {kz:List Int} {vs out:List Value} {ms:List Int} (hv:IntsAre vs ms) (hl:kz.length=vs.length) (h:KskOut false kz vs out):∃ ns:List Int,IntsAre out ns∧ns.Perm ms:=by
 obtain ⟨ps,hp,rfl,_⟩:=h
 have e1:(kz.zip vs).map Prod.snd=vs:=List.map_snd_zip (by lia)
 have hp2:(ps.map Prod.snd).Perm vs:=by
  have:=hp.map Prod.snd
  rwa [e1] at this
 have h1:=intsAre_ofList (ps.map Prod.snd) fun v hv'=>by
  have hm:=hp2.mem_iff.mp hv'
  obtain ⟨i,t,e⟩:=hv.all v hm
  exact ⟨i,t,e⟩
 refine ⟨_,h1,?_⟩
 have h2:=h1.nums
 rw [← h2,← hv.nums]
 exact hp2.map _
section
variable {X:Cx} {cf:CF}
theorem pe_lam {k:Str} {caps:List Nat} {a body:Expr} {ia ikey:E} {params:Arguments} {scope:Scope} {p p2 pos pos2 lpos kpos:Pos} {c P:Addr} (hcalm:X.calm=true) (T:LamTab X c P) (ha:PE X a (tE cf X.K ia)) (hk:isPeek ia=false) (hs:plainE a=true)
  (hg:Gl X "range") (hm:X.mg "range"=none) (hgs:Gl X "sorted") (hms:X.mg "sorted"=none) (CS:LScope X [k] caps scope) (hd:caps.Nodup) (hkl:scope.names.lookup k=some .local) (hco:scope.isCoroutine=false) (hgen:scope.isGenerator=false)
  (hdef:defaultsOf params X.env=([],[])) (hroom:X.A.depth<recursionLimit)
  (hbind:∀ cl pm c' ctv u,bindArgs (PySem.W.kla_fn "<lambda>" (X.env.qual++"<lambda>") params body scope cl pm (.ref c') ctv) ⟨[u],[]⟩=pure [(k,u)]) (hpk:isPeek ikey=false)
  (hB:∀ s H f c',PE (cxL X X.A.in1.in1 (namesC X [k] caps) (X.env.qual++"<lambda>") scope (clOf X.env.cells scope.names []) f (.ref c') s H) body (tE cf X.K ikey)):
  PE X (.Call (.Name "sorted" p) [.Call (.Name "range" p2) [a] [] pos2] [⟨some "key",.Lambda params body scope lpos,kpos⟩] pos) (tLam cf X.K P caps ia ikey):=by
 intro pins s σ H Q I h
 obtain ⟨hP,G,ρ,sq,xs,ks,ns,S,hGP,e1,e2,e3,e4,h64,kk⟩:=h
 obtain ⟨x,ex,er⟩:=bnd_eq.mp (show bnd (evE cf ia ρ) (fun x=>rngI (.int 0) x)=some sq from e1)
 obtain ⟨n,rfl,hxs,hn1,hn2⟩:=rng_inv er e2
 obtain ⟨hkl1,hkeys⟩:=keys_get e3
 have hks:=ints_inv e4
 have hlx:xs.length=n.toNat:=by rw [hxs];simp
 have hlns:ns.length=n.toNat:=by rw [← hlx,← hkl1,hks];simp
 refine wpAny_Call_Name_kw (ld_blt I hgs hms boot_sorted ?_ (by decide) (by decide))
 refine callWith_builtin_kwB rfl rfl (evalArgs_kw2 rfl (thn ((pa_cons (pe_rngV ha hk hs hg hm) pa_nil rfl) pos pins s σ H (fun vs H1=>∃ r G' H',vs=[.ref r]∧Ext G H G' H'∧H' r=none∧H1=upd H' r (.rng 0 n)) I ?_) fun us s1 ⟨vs,H1,I1,r1,q1⟩=>?_))
 ·exact ⟨G,ρ,n,S,ex,fun r G' H' x hr=>⟨r,G',H',rfl,x,hr,rfl⟩⟩
 obtain ⟨r,G1,H1',rfl,x1,hr,rfl⟩:=q1
 cases r1 with
 | cons r1 r2=>
  cases r2
  change _=Value.ref r at r1
  subst r1
  have hP1:H1' P=some (.tbl #[]):=x1.hh _ _ hP
  have hrP:P≠r:=ne_of_none hP1 hr
  have hP2:upd H1' r (.rng 0 n) P=some (.tbl #[]):=by rw [upd_ne hrP];exact hP1
  have hG1P:G1 P=none:=(x1.old _ _ hP).trans hGP
  have hG1r:G1 r=none:=x1.gh.fresh hr
  refine kwAll_cons (lam_make I1 T hP2 hdef CS fun f c' oc pm ctv more s2 I2 hrec keep hge hfs hoc=>kwAll_nil ?_)
  have hr2:upd (upd H1' r (.rng 0 n)) P (.tbl more) r=some (.rng 0 n):=by rw [upd_ne (Ne.symm hrP),upd_same]
  obtain ⟨t1,t2,t3,hro⟩:=I2.hok r _ hr2
  
  have S1:SR X.K G1 H1' σ ρ:=S.ext x1
  have noown:∀ (b:Addr),(∀ ws,H1' b≠some (.lst ws))→∀ (i:Nat) (ps:List PV),ρ[i]?=some (Sl.own ps)→σ[i]?≠some (some (V.ref b)):=fun b hb i ps e z=>by
   obtain ⟨o,eo,a',vs',rfl,h1,_⟩:=S1.at e
   rw [eo] at z
   cases z
   exact hb _ h1
  have S2:SR X.K G1 (upd H1' r (.rng 0 n)) σ ρ:=S1.mut (noown r fun ws z=>by rw [hr] at z;cases z) hG1r _
  have S3:SR X.K G1 (upd (upd H1' r (.rng 0 n)) P (.tbl more)) σ ρ:=S2.mut (noown P fun ws z=>by rw [hP1] at z;cases z) hG1P _
  show wpAny _ X.A (call (.builtin "sorted") [.ref r] [(Str.ofString "key",.ref f)]) _ _ _
  refine call_function_entry_kw kind_sorted plain_sorted entry_sorted (ksk_s1 _ _) ?_
  unfold Builtin.«sorted»
  refine wpAny_bind (m:=checkCount "sorted" 1 1 _) (wpAny_pure ?_)
  have hsize:Builtin.Range.rangeSize 0 n 1=((n.toNat:Nat):Int):=by
   unfold Builtin.Range.rangeSize
   simp
   lia
  refine wpAny_bind (collect_range (n:=n.toNat) (I.ok.hd hcalm) hro (small_one (by decide) (by decide) (by lia) (by lia)) hsize (by lia) fun h1 tk1 acc kp hi=>?_)
  have hII:=itemsLI hi
  have hlen:acc.toList.length=n.toNat:=by rw [Array.length_toList,hi.1]
  refine wpAny_bind (wpAny_newList ?_ (by rw [sizeLine_eq];lia))
  have hoL:(h1.push (seqObj "list" acc.toList.toArray 0)).get? h1.objs.size=some (seqObj "list" acc.toList.toArray 0):=Heap.get?_push_size _ rfl
  have IA:=I2.kept (h':=h1) (t':=tk1) kp
  have FA:=IA.fpS (Nat.le_refl h1.objs.size)
  have hAn:upd (upd H1' r (.rng 0 n)) P (.tbl more) h1.objs.size=none:=IA.hok.fresh (Nat.le_refl h1.objs.size)
  have I3:=IA.kept (h':=h1.push (seqObj "list" acc.toList.toArray 0)) (t':=tk1) fun b o e=>Heap.get?_push_of_some _ e
  show wpAny _ _ _ _ _ {s2 with heap:=h1.push (seqObj "list" acc.toList.toArray 0),toks:=tk1}
  generalize hA:h1.objs.size=aL at hoL FA hAn
  show wpAny _ _ (_ >>= _) _ _ _
  refine wpAny_bind (wpAny_holding (wpAny_call_entry_kw slot_list_sort ⟨_,hoL,rfl⟩ entry_list_sort ?body (ksk_l1 _ _)))
  case body=>
   show wpAny (model X.prog X.w) X.A.in1.in1 (Builtin.«list.sort» ⟨[.ref aL],[(Str.ofString "key",.ref f)]⟩) _ _ _
   rw [ksk_t1]
   refine key_tree (kz:=ns) (G:=G1) I3 S3.sub hoL hAn FA (by lia) (by lia) (fun i v kz hv hkz pins' s' H' G' I' hsub x'=>?_) fun s' H' G' out e I' x' hout=>⟨_,rfl,?_⟩
   ·
    have hix:i<n.toNat:=by rw [← hlen];exact (List.getElem?_eq_some_iff.mp hv).1
    have hxi:xs[i]?=some (.int (i:Nat)):=by rw [hxs,List.getElem?_map,List.getElem?_range hix];rfl
    obtain ⟨t,ht⟩:=hi.2 i v (by rw [← Array.getElem?_toList];exact hv)
    obtain ⟨y,ey1,ey2⟩:=hkeys i _ hxi
    have ey3:y=.int kz:=by
     rw [hks,List.getElem?_map,hkz] at ey1
     exact (Option.some.inj ey1).symm
    subst ey3
    have hpf:=I'.pin _ (List.mem_append_right _ (hsub _ List.mem_cons_self))
    have hpc:=I'.pin _ (List.mem_append_right _ (hsub _ (List.mem_cons_of_mem _ List.mem_cons_self)))
    obtain ⟨c2,o2,vs2,tq,ec2,ho2,hd2,hv2⟩:=hrec
    cases ec2
    rw [hoc] at ho2
    cases ho2
    have rv:RelV (.int (i:Nat)) v:=⟨t,by rw [ht];simp⟩
    have Sb:SR X.K G' H' ([V.int (i:Nat)].map some++caps.map fun j=>σ.getD j none) ([PyData.int (i:Nat)].map Sl.val++caps.map fun j=>ρ.getD j .un):=(S3.ext x').block hd (ps:=[.int (i:Nat)]) (vs:=[.int (i:Nat)]) ⟨_,_,rfl,rfl,rfl⟩
    refine thn (lam_call (A:=X.A.in1.in1) (Q:=fun w H''=>∃ G'',w=V.int kz∧Ext G' H' G'' H'') I' CS (by simpa using I.ok.frames) (by simpa using I.ok.hd hcalm) (by simpa using hroom) hkl hco hgen rv hpf.1 ⟨_,oc,vs2,tq,rfl,hpc.1,hd2,hv2⟩ (hbind _ _ _ _ _) (hB s' H' f _)
     ⟨G',_,.int kz,Sb,ey2,fun w G'' H'' x'' r''=>⟨G'',r''.rp hpk,x''⟩⟩) fun u s'' ⟨w,H'',J,rw',G'',ew,x''⟩=>?_
    subst ew
    obtain ⟨t',rfl⟩:=rw'
    exact ⟨t',H'',G'',rfl,J,x''⟩
   ·
    obtain ⟨ms,hms',hperm⟩:=perm_ints hII (by lia) hout
    have na:=I'.pin (aL,seqObj "list" out e) (List.mem_append_right _ List.mem_cons_self)
    have FP:FpS X pins aL:=⟨FA.1,FA.2.1,FA.2.2.1,FA.2.2.2.1,fun p hp=>FA.2.2.2.2 p (by
     rcases List.mem_append.mp hp with z | z
     ·exact List.mem_append_left _ z
     ·exact List.mem_append_right _ (List.mem_cons_of_mem _ (List.mem_cons_of_mem _ z)))⟩
    have J:=I'.pinD.pinD.pinD
    have hl2:ms.length≤sizeLine:=by
     have:=hperm.length_eq
     rw [sizeLine_eq,this]
     simp
     lia
    have It:=J.track (b:=aL) (u:=.lst (ms.map V.int)) na.2.1 FP ⟨by simpa using hl2,out.toList,e,vals_ints hms',by rw [Array.toArray_toList];exact na.1⟩
    have xn:=Ext.new x'.gh na.2.1 (.lst (ms.map V.int))
    refine wpAny_pure ⟨_,rfl,.ref aL,_,It,rfl,kk (ms.map .int) (.ref aL) _ _ ?_ ((S3.ext x').ext xn) ⟨aL,_,rfl,SqL.of upd_same,rpLI ms⟩⟩
    rw [hxs]
    have:=hperm.map PyData.int
    rw [List.map_map] at this
    exact this
noncomputable def tLamT (cf:CF) (K:PySem.W.Frag) (P:Addr) (caps:List Nat) (ia ikey:E):TE:=fun σ H Q=>H P=some (.tbl #[])∧∃ G ρ sq xs ks ns,SR K G H σ ρ∧G P=none∧evE cf (.rng ia) ρ=some sq∧seqOf sq=some xs∧
 compF (fun x=>bnd (evE cf ikey (.val x::caps.map (ρ.getD · .un))) eltF) xs=some ks∧intsOf ks=some ns∧xs.length<64∧∀ ys v G' H',ys.Perm xs→SR K G' H' σ ρ→Rp K G' (.tuple ys) v→Q v H'
theorem pe_lamT {P:Addr} {caps:List Nat} {ia ikey:E} {f:Expr} {args:List Expr} {kws:List Keyword} {p pos pos2:Pos} (he:PE X (.Call f args kws pos2) (tLam cf X.K P caps ia ikey)) (hg:Gl X "tuple") (hm:X.mg "tuple"=none):
  PE X (.Call (.Name "tuple" p) [.Call f args kws pos2] [] pos) (tLamT cf X.K P caps ia ikey):=
 (pe_callTy s_toTuple hg hm PyProof.Rows.boot_tuple (pa_cons he pa_nil rfl) (by decide) (by decide) rfl rfl).weak fun σ H Q ⟨hP,G,ρ,sq,xs,ks,ns,S,h1,h2,h3,h4,h5,h6,kk⟩=>
  ⟨hP,G,ρ,sq,xs,ks,ns,S,h1,h2,h3,h4,h5,h6,fun ys v G' H' hp S' r=>⟨v,rfl,G',.list ys,.tuple ys,S'.sub,r.rk S'.sub,rfl,fun v' G'' H'' x r'=>kk ys v' G'' H'' hp (S'.ext x) r'⟩⟩
end
end DD
namespace DD
open PySem
noncomputable def byKey:S→Bool
 | .set _ (.skey _ _ _)=>true
 | .set _ (.op1 .toTuple (.skey _ _ _))=>true
 | _=>false
inductive LawEv (cf:Nat→List PV→Option PV):S→Env→Prop
 | step {a b:S} {ρ ρ1:Env}:evS cf a ρ=some (.nx ρ1)→LawEv cf b ρ1→(h:byKey a=false:=by rfl)→LawEv cf (.seq a b) ρ
 | lam {i:Nat} {caps:List Nat} {it key:E} {b:S} {ρ:Env} {s:PV} {xs ks:List PV} {ns:List Int}:evE cf it ρ=some s→seqOf s=some xs→
   compF (fun x=>bnd (evE cf key (.val x::caps.map (ρ.getD · .un))) eltF) xs=some ks→intsOf ks=some ns→xs.length<64→(∀ sl∈ρ,isOwn sl=false)→
   (∀ ys,ys.Perm xs→evS cf b (ρ.set i (.val (.list ys)))=some (.rt (.bool true)))→LawEv cf (.seq (.set i (.skey caps it key)) b) ρ
 | lamT {i:Nat} {caps:List Nat} {it key:E} {b:S} {ρ:Env} {s:PV} {xs ks:List PV} {ns:List Int}:evE cf it ρ=some s→seqOf s=some xs→
   compF (fun x=>bnd (evE cf key (.val x::caps.map (ρ.getD · .un))) eltF) xs=some ks→intsOf ks=some ns→xs.length<64→(∀ sl∈ρ,isOwn sl=false)→
   (∀ ys,ys.Perm xs→evS cf b (ρ.set i (.val (.tuple ys)))=some (.rt (.bool true)))→LawEv cf (.seq (.set i (.op1 .toTuple (.skey caps it key))) b) ρ
theorem insL_perm {α:Type} (lt:α→α→Bool) (x:α):∀ xs:List α,(insL lt x xs).Perm (x::xs)
 | []=>.refl _
 | y::r=>by
  rw [insL]
  split
  ·exact ((insL_perm lt x r).cons y).trans (.swap _ _ _)
  ·exact .refl _
theorem srtL_perm {α:Type} (lt:α→α→Bool):∀ xs:List α,(srtL lt xs).Perm xs
 | []=>.refl _
 | x::r=>(insL_perm lt x _).trans ((srtL_perm lt r).cons x)
theorem Strict.le_tr {α:Type} {lt:α→α→Bool} (S:Strict lt) {a b c:α} (h1:lt b a=false) (h2:lt c b=false):lt c a=false:=by
 cases h:lt c a with
 | false=>rfl
 | true=>
  exfalso
  cases h3:lt a b with
  | true=>have:=S.tr c a b h h3;rw [h2] at this;cases this
  | false=>have:=S.tot a b h3 h1;subst this;rw [h2] at h;cases h
theorem Strict.asym {α:Type} {lt:α→α→Bool} (S:Strict lt) {a b:α} (h:lt a b=true):lt b a=false:=by
 cases h2:lt b a with
 | false=>rfl
 | true=>have:=S.tr a b a h h2;rw [S.irr] at this;cases this
theorem insL_le {α:Type} {lt:α→α→Bool} (S:Strict lt) (x:α):∀ xs:List α,xs.Pairwise (fun a b=>lt b a=false)→(insL lt x xs).Pairwise (fun a b=>lt b a=false)
 | [],_=>by simp [insL]
 | y::r,h=>by
  rw [insL]
  rw [List.pairwise_cons] at h
  split
  ·rename_i c
   rw [List.pairwise_cons]
   refine ⟨fun z hz=>?_,insL_le S x r h.2⟩
   rcases List.mem_cons.mp ((insL_perm lt x r).mem_iff.mp hz) with e | e
   ·rw [e];exact S.asym c
   ·exact h.1 z e
  ·rename_i c
   have c':lt y x=false:=by simpa using c
   rw [List.pairwise_cons,List.pairwise_cons]
   refine ⟨fun z hz=>?_,h⟩
   rcases List.mem_cons.mp hz with e | e
   ·rw [e];exact c'
   ·exact S.le_tr c' (h.1 z e)
theorem srtL_le {α:Type} {lt:α→α→Bool} (S:Strict lt):∀ xs:List α,(srtL lt xs).Pairwise (fun a b=>lt b a=false)
 | []=>.nil
 | x::r=>insL_le S x _ (srtL_le S r)
theorem le_ext {α:Type} {lt:α→α→Bool} (S:Strict lt):∀ (l r:List α),l.Pairwise (fun a b=>lt b a=false)→r.Pairwise (fun a b=>lt b a=false)→l.Perm r→l=r
 | [],r,_,_,p=>(List.Perm.nil_eq p)
 | a::l,[],_,_,p=>by have:=p.length_eq;simp at this
 | a::l,b::r,hl,hr,p=>by
  have hl':=List.pairwise_cons.mp hl
  have hr':=List.pairwise_cons.mp hr
  have hab:a=b:=by
   have h1:lt a b=false:=by
    rcases List.mem_cons.mp (p.mem_iff.mp List.mem_cons_self) with e | e
    ·rw [e];exact S.irr b
    ·exact hr'.1 a e
   have h2:lt b a=false:=by
    rcases List.mem_cons.mp (p.mem_iff.mpr List.mem_cons_self) with e | e
    ·rw [e];exact S.irr a
    ·exact hl'.1 b e
   exact S.tot a b h1 h2
  subst hab
  rw [le_ext S l r hl'.2 hr'.2 p.cons_inv]
end DD
namespace DD
open PySem PySem.Spec PyProof.Rows L2
section
variable {prog:Program} {w:World} {K:EK prog w} {A:Around} {E:Value→Shared→Prop} {s:Shared}
theorem sorted_seq (O:EO K) {c:Addr} {T:String} {o:Obj} {vs:List Value} {n0:Nat} {kl:List K.α} {Q:Value→Shared→Prop} (hT:T="list"∨T="tuple") (ho:s.heap.get? c=some o) (hc:o.cls=.type T) (hd:o.data=.seq vs.toArray n0)
  (hu:A.units+8<cLine) (hlen:vs.length≤sizeLine) (hk:kl.length=vs.length) (hval:∀ (i:Nat) v k,vs[i]?=some v→kl[i]?=some k→K.is s.heap k v) (hg:∀ k∈kl,O.good k)
  (h:∀ h1 h' L (out:List Value) n,Kp s.heap h1→Kp h1 h'→h1.objs.size≤L→h'.get? L=some (seqObj "list" out.toArray n)→(∀ v∈out,K.is s.heap (keyD O s.heap v) v)→out.map (keyD O s.heap)=srtL O.lt kl→out.length=vs.length→Q (.ref L) {s with heap:=h'}):
  wpAny (model prog w) A (call (.builtin "sorted") [.ref c]) Q E s:=by
 have hall:∀ v∈vs,∃ k,K.is s.heap k v∧O.good k:=fun v hv=>by
  obtain ⟨i,hi⟩:=List.getElem?_of_mem hv
  have hlt:i<kl.length:=by rw [hk];exact (List.getElem?_eq_some_iff.mp hi).1
  have e:kl[i]?=some kl[i]:=List.getElem?_eq_getElem hlt
  exact ⟨kl[i],hval i v _ hi e,hg _ (List.getElem_mem hlt)⟩
 have hkeys:vs.map (keyD O s.heap)=kl:=by
  refine List.ext_getElem? fun i=>?_
  rw [List.getElem?_map]
  cases hi:vs[i]? with
  | none=>rw [List.getElem?_eq_none_iff] at hi;exact (List.getElem?_eq_none (by lia)).symm
  | some v=>
   have hlt:i<kl.length:=by rw [hk];exact (List.getElem?_eq_some_iff.mp hi).1
   have e:kl[i]?=some kl[i]:=List.getElem?_eq_getElem hlt
   rw [e,Option.map_some,keyD_of O (hval i v _ hi e)]
 refine Calls.call_function_entry kind_sorted plain_sorted entry_sorted (args_sorted1 _) ?_
 unfold Builtin.«sorted»
 refine wpAny_bind (m:=checkCount "sorted" 1 1 _) (wpAny_pure ?_)
 refine wpAny_bind (wpAny_collect_seq c hT ho hc hd (fun h1 kp1=>?_) (by rw [List.size_toArray];exact hlen))
 rw [List.toList_toArray]
 refine wpAny_bind (wpAny_newList ?_ hlen)
 have hoL:(h1.push (seqObj "list" vs.toArray 0)).get? h1.objs.size=some (seqObj "list" vs.toArray 0):=Heap.get?_push_size _ rfl
 have hz:∀ p,p∈(pairsOf vs).toList→p.1=p.2∧p.1∈vs:=fun p hp'=>by rw [pairsOf_toList] at hp';exact mem_zip_self hp'
 show wpAny _ _ _ _ _ {s with heap:=h1.push (seqObj "list" vs.toArray 0)}
 refine wpAny_bind (wpAny_holding (wpAny_call_entry slot_list_sort ⟨_,hoL,rfl⟩ entry_list_sort (w_sort (κ:=kapOf O s.heap) (kd:=O.kd) hoL (fun p hp'=>?_) hlen (fun h' hk'=>?_) fun xs hx hs=>⟨_,rfl,?_⟩) (args_list_sort _)))
 ·obtain ⟨k,hk,_⟩:=hall p.1 (hz p hp').2
  exact ⟨k,keyAt_of O hk⟩
 ·have kk:Kp s.heap h':=fun b o e=>by
   have e1:=kp1 b o e
   exact hk' b o (Nat.ne_of_lt (Heap.lt_size e1)) (Heap.get?_push_of_some _ e1)
  refine ⟨fun E x y a b Q ha hb hq=>?_,fun h2 E Q hq=>?_⟩
  ·exact O.lts (by simp only [units_in1];lia) (K.keep (keyAt_is O ha) kk.but) (K.keep (keyAt_is O hb) kk.but) hq
  ·exact O.kind h2 (fun v hv=>let ⟨k,g1,g2⟩:=hall v hv;⟨k,K.keep g1 kk.but,g2⟩) hq
 ·have hx':xs.toList.Perm (pairsOf vs).toList:=Array.perm_iff_toList_perm.mp hx
  have hm:∀ p,p∈xs.toList→p.1=p.2∧p.1∈vs:=fun p hp'=>hz p (hx'.mem_iff.mp hp')
  have eo:(xs.map (·.2)).toList=xs.toList.map (·.1):=by
   rw [Array.toList_map];exact List.map_congr_left fun p hp'=>(hm p hp').1.symm
  obtain ⟨n',hout⟩:=sortedHeap_at (out:=xs.map (·.2)) hoL
  have hvp:(xs.toList.map (·.1)).Perm vs:=by
   refine (hx'.map _).trans ?_
   rw [pairsOf_toList]
   have:∀ l:List Value,(l.zip l).map (·.1)=l:=fun l=>by induction l with
    | nil=>rfl
    | cons a l ih=>simp [ih]
   rw [this]
  have hkp2:((xs.toList.map (·.1)).map (keyD O s.heap)).Perm kl:=by
   refine (hvp.map _).trans ?_
   rw [hkeys]
  have hpw:((xs.toList.map (·.1)).map (keyD O s.heap)).Pairwise (fun a b=>O.lt b a=false):=by
   rw [List.pairwise_iff_getElem]
   intro i j hi hj hij
   have hi':i<xs.size:=by simpa using hi
   have hj':j<xs.size:=by simpa using hj
   have q:=hs i j (Nat.le_of_lt hij) (by rw [← hx.size_eq];exact hj')
   have e1:KK (kapOf O s.heap) xs i=((xs.toList.map (·.1)).map (keyD O s.heap))[i]:=by
    unfold KK;rw [Array.getElem?_eq_getElem hi'];simp [kapOf,keyD]
   have e2:KK (kapOf O s.heap) xs j=((xs.toList.map (·.1)).map (keyD O s.heap))[j]:=by
    unfold KK;rw [Array.getElem?_eq_getElem hj'];simp [kapOf,keyD]
   rw [e1,e2] at q
   exact q
  have hfin:(xs.toList.map (·.1)).map (keyD O s.heap)=srtL O.lt kl:=le_ext O.st _ _ hpw (srtL_le O.st kl) (hkp2.trans (srtL_perm O.lt kl).symm)
  have:=h h1 (sortedHeap (h1.push (seqObj "list" vs.toArray 0)) h1.objs.size vs (xs.map (·.2))) h1.objs.size (xs.map (·.2)).toList n' kp1 (fun b o e=>?_) (Nat.le_refl _) (by rw [Array.toArray_toList];exact hout) (fun v hv=>?_) (by rw [eo];exact hfin) (by rw [eo];exact hvp.length_eq)
  ·exact wpAny_pure ⟨_,rfl,this⟩
  ·have hb:=Heap.lt_size e
   rw [sortedHeap_old (Nat.ne_of_lt hb) (by rw [size_push'];exact Nat.lt_succ_of_lt hb)]
   exact Heap.get?_push_of_some _ e
  ·rw [eo] at hv
   obtain ⟨p,hp',rfl⟩:=List.mem_map.mp hv
   obtain ⟨k,hk,_⟩:=hall p.1 (hm p hp').2
   rw [keyD_of O hk];exact hk
end
section
variable {X:Cx}
theorem srt_run {K:EK X.prog X.w} (O:EO K) (pv:K.α→PV) (hpv:∀ k,isDict (pv k)=false) {pins:List (Addr×Obj)} {σ:St} {G H:Hp} {s:Shared} {a:Addr} {vs:List V} {kl:List K.α} {Q:VK} (I:Inv X pins σ H s) (sb:Sub G H)
  (hT:SqL X.K H a vs∨SqT X.K H a vs) (hR:RpL X.K G (kl.map pv) vs) (hK:∀ u v k,Rp X.K G (pv k) u→RelV u v→K.is s.heap k v) (hB:∀ k v,K.is s.heap k v→∃ u,RelV u v∧Rp X.K G (pv k) u) (hgood:∀ k∈kl,O.good k) (hlen:kl.length≤sizeLine)
  (hu:X.A.units+190<cLine) (hQ:∀ v G' H',Ext G H G' H'→Rp X.K G' (.list ((srtL O.lt kl).map pv)) v→Q v H'):
  wpAny (model X.prog X.w) X.A (call (.builtin "sorted") [.ref a]) (EP X pins σ Q) X.xe s:=by
 have hkl:kl.length=vs.length:=by have:=hR.length;simpa using this
 obtain ⟨T,o,its,n0,hTT,ho,hc,hd,r⟩:∃ (T:String) (o:Obj) (its:List Value) (n0:Nat),(T="list"∨T="tuple")∧s.heap.get? a=some o∧o.cls=.type T∧o.data=.seq its.toArray n0∧Vals vs its:=by
  rcases hT with h | h
  ·obtain ⟨its,r,⟨o,n,e,c,_,d⟩,_⟩:=I.list h
   exact ⟨"list",o,its,n,.inl rfl,e,c,d,r⟩
  ·obtain ⟨its,r,⟨o,e,c,n,d⟩,_⟩:=I.tuple h
   exact ⟨"tuple",o,its,n,.inr rfl,e,c,d,r⟩
 have hvl:vs.length=its.length:=r.length
 refine sorted_seq O (kl:=kl) hTT ho hc hd (by lia) (by lia) (by lia) (fun i v k hv hk=>?_) hgood fun h1 h' L out n kp1 kp2 hL hget his hkeys hol=>?_
 ·obtain ⟨u,e1,_,e2⟩:=hR.get (i:=i) (p:=pv k) (by rw [List.getElem?_map,hk];rfl)
  obtain ⟨v2,e3,e4⟩:=Vals.get r e1
  rw [hv] at e3;cases e3
  exact hK u v k e2 e4
 ·obtain ⟨outV,ov1,ov2⟩:=out_vals (K:=X.K) (G:=G) pv hpv (keyD O s.heap) out fun v hv=>hB _ v (his v hv)
  have I2:Inv X pins σ H {s with heap:=h1}:=I.kept (t':=s.toks) fun b u e=>kp1 b u e
  have hf:H L=none:=I2.hok.fresh hL
  have hlo:outV.length≤sizeLine:=by
   have:=ov1.length
   lia
  have I3:=I2.laid (t':=s.toks) (o:=.lst outV) (h':=h') kp2 hL ⟨hlo,out,n,ov1,hget⟩
  have x1:=Ext.new sb hf (.lst outV)
  refine ⟨.ref L,_,I3,rfl,hQ _ _ _ x1 ⟨L,outV,rfl,SqL.of upd_same,?_⟩⟩
  rw [hkeys] at ov2
  exact ov2.mono x1.gg
theorem s_srt (hu:X.A.units+190<cLine):CallR X (.builtin "sorted") (rC1 X.K .srt):=by
 intro pins s σ H xs us Q I r h
 obtain ⟨x,rfl,G,p,q,sb,hp,e,k⟩:=h
 obtain ⟨u,rfl,ru⟩:=vals1 r
 have main:∀ (ps:List PV) (a:Addr) (vs:List V),x=V.ref a→(SqL X.K H a vs∨SqT X.K H a vs)→RpL X.K G ps vs→srtF ps=some q→wpAny (model X.prog X.w) X.A (call (.builtin "sorted") [u]) (EP X pins σ Q) X.xe s:=by
  intro ps a vs ex q1 r1 e'
  subst ex
  cases (show u=.ref a from ru)
  have hInts:∀ ns:List Int,ps=ns.map PyData.int→ns.length<64→q=.list ((srtL ltI ns).map PyData.int)→wpAny (model X.prog X.w) X.A (call (.builtin "sorted") [.ref a]) (EP X pins σ Q) X.xe s:=fun ns e1 hd e2=>by
   subst e1 e2
   refine srt_run (eoInt X.prog X.w) (fun i=>PyData.int i) (fun _=>rfl) I sb q1 (kl:=ns) r1 (fun u v i hu hv=>?_) (fun u v hv=>?_) (fun _ _=>trivial) (Nat.le_trans (Nat.le_of_lt hd) (by rw [sizeLine_eq];decide)) hu fun v G' H' x1 x2=>k v G' H' x1 x2
   ·cases (show u=.int i from hu)
    obtain ⟨t,rfl⟩:=(show ∃ t,v=Value.int i t from hv)
    exact intKind_is _ _ _ _
   ·have hv':(intKind X.prog X.w).is u v=true:=hv
    cases v <;> simp [intKind,Value.isInt] at hv'
    have e1:=eq_of_beq (α:=Int) hv'
    subst e1
    exact ⟨.int _,⟨_,rfl⟩,rfl⟩
  have hTups:∀ ns:List (List Int),ps=ns.map (fun t=>PyData.tuple (t.map PyData.int))→(ns.length<64∨ns=full64)→(∀ n∈ns,n≠[])→q=.list ((srtL lexLt ns).map fun t=>PyData.tuple (t.map PyData.int))→
    wpAny (model X.prog X.w) X.A (call (.builtin "sorted") [.ref a]) (EP X pins σ Q) X.xe s:=fun ns e1 hd hne e2=>by
   subst e1 e2
   have hl:ns.length≤sizeLine:=by
    rw [sizeLine_eq]
    rcases hd with hd | rfl
    ·lia
    ·decide
   let P:List Int→Value→Prop:=fun k v=>∃ u,RelV u v∧Rp X.K G (PyData.tuple (k.map PyData.int)) u
   refine srt_run (eoTupP X.prog X.w P) (fun t=>PyData.tuple (t.map PyData.int)) (fun _=>rfl) I sb q1 (kl:=ns) r1 (fun u v i hu hv=>⟨?_,u,hv,hu⟩) (fun u v hv=>hv.2) (fun n hn=>hne n hn) hl hu fun v G' H' x1 x2=>k v G' H' x1 x2
   obtain ⟨b,ws,rfl,q2,r2⟩:=(show ∃ a vs,u=V.ref a∧SqT X.K G a vs∧RpL X.K G (i.map PyData.int) vs from hu)
   cases (show v=Value.ref b from hv)
   cases rpl_ints r2
   obtain ⟨its,r3,pl,_⟩:=I.tuple (sb.sqT q2)
   obtain ⟨o,ho,hc,n,hd⟩:=pl
   exact ⟨b,rfl,o,its.toArray,n,ho,hc,hd,items_of_vals r3⟩
  cases ps with
  | nil=>exact hInts [] rfl (by decide) (Option.some.inj (show some (PyData.list [])=some q from e')).symm
  | cons p ps=>
   cases p with
   | int i=>
    obtain ⟨ns,e1,e2⟩:=bnd_eq.mp (show bnd (intsOf (.int i::ps)) (fun ns=>tst (decide (ns.length<64)) (some (PyData.list (intsPv (srtL ltI ns)))) none)=some q from e')
    obtain ⟨t1,t2⟩:=tst_some e2
    exact hInts ns (ints_inv e1) (of_decide_eq_true t1) (Option.some.inj t2).symm
   | tuple t=>
    obtain ⟨ns,e1,e2⟩:=bnd_eq.mp (show bnd (tupsOf (.tuple t::ps)) (fun ns=>tst ((decide (ns.length<64)||decide (ns=full64))&&ns.all fun n=>!n.isEmpty) (some (PyData.list (tupsPv (srtL lexLt ns)))) none)=some q from e')
    obtain ⟨t1,t2⟩:=tst_some e2
    rw [Bool.and_eq_true] at t1
    have hd:ns.length<64∨ns=full64:=by
     rcases (Bool.or_eq_true _ _).mp t1.1 with z | z
     ·exact .inl (of_decide_eq_true z)
     ·exact .inr (of_decide_eq_true z)
    refine hTups ns (tups_inv e1) hd (fun n hn c=>?_) (Option.some.inj t2).symm
    have:=List.all_eq_true.mp t1.2 n hn
    rw [c] at this;cases this
   | _=>cases e'
 cases p with
 | list ps=>
  obtain ⟨a,vs,ex,q1,r1⟩:=(show ∃ a vs,x=V.ref a∧SqL X.K H a vs∧RpL X.K G ps vs from hp)
  exact main ps a vs ex (.inl q1) r1 e
 | tuple ps=>
  obtain ⟨a,vs,ex,q1,r1⟩:=(show ∃ a vs,x=V.ref a∧SqT X.K G a vs∧RpL X.K G ps vs from hp)
  exact main ps a vs ex (.inr (sb.sqT q1)) r1 e
 | _=>exact nomatch (show none=some q from e)
end
end DD
namespace DD
open PySem
section
variable {α:Type} [DecidableEq α] {lt:α→α→Bool}
end
end DD
namespace DD
open PySem PySem.Spec PyProof.Rows L2
section
variable {prog:Program} {w:World} {α:Type}
end
section
variable {prog:Program} {w:World} {α:Type} {A:Around} {E:Value→Shared→Prop} {s:Shared}
end
section
variable {X:Cx}
end
open PySem.SeqAt
section
variable {prog:Program} {w:World} {A:Around} {E:Value→Shared→Prop} {s:Shared}
end
open PySem.SeqAt
section
variable {X:Cx}
end
section
variable {X:Cx} {cf:CF}
end
open PySem.SeqAt
theorem idxL_inv {x:PV}:∀ {ys:List PV} {k m:Nat},idxL x ys k=some m→k≤m∧∃ (h:m - k<ys.length),PyData.eqv ys[m - k] x=true∧∀ i (hi:i<ys.length),i<m - k→PyData.eqv ys[i] x=false
 | [],k,m,h=>by cases h
 | y::r,k,m,h=>by
  rw [idxL] at h
  by_cases c:PyData.eqv y x=true
  ·rw [if_pos c] at h
   cases h
   refine ⟨Nat.le_refl _,by simp,by simpa using c,fun i hi h2=>by lia⟩
  ·rw [if_neg c] at h
   obtain ⟨h1,h2,h3,h4⟩:=idxL_inv h
   have e:m - k=(m - (k+1))+1:=by lia
   refine ⟨by lia,by rw [List.length_cons];lia,?_,fun i hi h5=>?_⟩
   ·have:(y::r)[m - k]'(by rw [List.length_cons];lia)=r[m - (k+1)]:=by simp only [e,List.getElem_cons_succ]
    rw [this];exact h3
   ·cases i with
    | zero=>simpa using c
    | succ i=>
     have:=h4 i (by simpa using hi) (by lia)
     simpa using this
theorem reads_at {h:Heap}:∀ {vs:List Value} {ds:List PV} {as:List Addr},ReadsAll h vs ds as→vs.length=ds.length∧∀ (i:Nat) (h1:i<vs.length) (h2:i<ds.length),∃ bs,Reads h vs[i] ds[i] bs
 | [],ds,as,q=>by cases q;exact ⟨rfl,fun i h1=>by cases h1⟩
 | v::vs,ds,as,q=>by
  cases q with
  | cons r q2=>
   obtain ⟨l,f⟩:=reads_at q2
   refine ⟨by simp [l],fun i h1 h2=>?_⟩
   cases i with
   | zero=>exact ⟨_,r⟩
   | succ i=>simpa using f i (by simpa using h1) (by simpa using h2)
theorem can_at:∀ {ds:List PV},PyData.canLayAll0 ds=true→∀ d∈ds,d.canLay0=true
 | x::ds,h,d,hd=>by
  simp only [PyData.canLayAll0,Bool.and_eq_true] at h
  rcases List.mem_cons.mp hd with rfl | hd
  ·exact h.1
  ·exact can_at h.2 d hd
theorem dep_at {d:PV}:∀ {ds:List PV},d∈ds→d.depth≤PyData.depthAll ds
 | x::ds,h=>by
  rw [PyData.depthAll]
  rcases List.mem_cons.mp h with rfl | h
  ·lia
  ·have:=dep_at h
   lia
section
variable {X:Cx} {cf:CF}
open Classical in
theorem s_idx (hu:X.A.units+190<cLine):MtR X "list.index" (fun x vs H Q=>∃ y,vs=[y]∧rOp2 X.K .idx x y H Q):=by
 intro pins s σ H x vs v us Q I rx rv h
 obtain ⟨y,rfl,G,p,q,r,sb,hp,hq,e,k⟩:=h
 obtain ⟨u,rfl,ru⟩:=rv.one
 cases p with
 | list ys=>
  have e':(if isDict q=true then none else if min (PyData.depthAll ys) q.depth≤180 then bnd (idxL q ys 0) (fun k=>some (PyData.int (k:Nat))) else none)=some r:=e
  by_cases dq:isDict q=true
  ·rw [if_pos dq] at e';cases e'
  rw [if_neg dq] at e'
  have dq':isDict q=false:=by simpa using dq
  by_cases hdp:min (PyData.depthAll ys) q.depth≤180
  ·rw [if_pos hdp] at e'
   obtain ⟨m,em,e2⟩:=bnd_eq.mp e'
   cases e2
   obtain ⟨_,hm,hit,hno⟩:=idxL_inv em
   simp only [Nat.sub_zero] at hm hit hno
   obtain ⟨as,ra⟩:=hp.reads I sb rfl rx
   obtain ⟨bs,rb⟩:=hq.reads I sb dq' ru
   have hcl:PyData.canLayAll0 ys=true:=by simpa [PyData.canLay0] using hp.lays rfl
   cases ra with
   | @list l o items n _ as' ho hc hd rall=>
    obtain ⟨cls,dd,data,sl⟩:=o
    simp only at hc hd
    subst hc hd
    obtain ⟨hl,hat⟩:=reads_at rall
    let ef:Value→Bool:=fun z=>decide (∃ d cs,Reads s.heap z d cs∧PyData.eqv d q=true)
    have hef:∀ (i:Nat) (h1:i<items.size),ef items[i]=PyData.eqv (ys[i]'(by rw [← hl,Array.length_toList];exact h1)) q:=fun i h1=>by
     have h2:i<ys.length:=by rw [← hl,Array.length_toList];exact h1
     obtain ⟨cs,rc⟩:=hat i (by simpa using h1) h2
     have e3:items.toList[i]'(by simpa using h1)=items[i]:=by simp
     rw [e3] at rc
     cases hb:PyData.eqv ys[i] q with
     | true=>exact decide_eq_true ⟨_,_,rc,hb⟩
     | false=>
      refine decide_eq_false ?_
      rintro ⟨d,ds,rd,hd⟩
      rw [← (Reads.unique rc _ _ rd).1,hb] at hd
      cases hd
    have hms:m<items.size:=by rw [← Array.length_toList,hl];exact hm
    have hsz:items.size≤2 ^ 62:=by
     obtain ⟨a0,vs0,_,q1,r1⟩:=(show ∃ a vs,x=V.ref a∧SqL X.K H a vs∧RpL X.K G ys vs from hp)
     obtain ⟨its,rr,_,hz⟩:=I.list q1
     have h1:=r1.length
     have h2:=rr.length
     rw [← Array.length_toList,hl]
     rw [sizeLine_eq] at hz
     lia
    refine call_meets PySem.F.slot_list_index ⟨_,ho,rfl⟩ PySem.F.entry_list_index (PySem.F.args_list_index_2 _ _) (SeqAt.list_indexAt l items n dd sl u ef m hms (by lia) (by rw [hef m hms];exact hit) (fun i hi h2=>by rw [hef i hi];exact hno i _ h2)) ⟨ho,fun z hz=>?_,?_⟩
    ·obtain ⟨i,hi,rfl⟩:=Array.mem_iff_getElem.mp hz
     rw [hef i hi]
     have h2:i<ys.length:=by rw [← hl,Array.length_toList];exact hi
     obtain ⟨cs,rc⟩:=hat i (by simpa using hi) h2
     have e3:items.toList[i]'(by simpa using hi)=items[i]:=by simp
     rw [e3] at rc
     have hdi:=dep_at (List.getElem_mem h2)
     exact eqAt_reads ys[i] q _ s _ _ _ _ rc rb (can_at hcl _ (List.getElem_mem h2)) (hq.lays dq') (by simp only [units_in1];lia)
    ·exact ⟨.int _,H,I.tok _,⟨_,rfl⟩,k _ G H (.refl sb) rfl⟩
  ·rw [if_neg hdp] at e';cases e'
 | _=>exact nomatch (show none=some r from e)
theorem snd_idx {ia ib:E} {a b:Expr} {apos pos:Pos} (hu:X.A.units+190<cLine) (ha:PE X a (tE cf X.K ia)) (hb:PE X b (tE cf X.K ib)) (hs:plainE b=true) (hbase:attributeBase a "index" X.env (eval a X.env)=eval a X.env) (hline:(apos.endLine==pos.line)=true):
  Snd X cf (.op2 .idx ia ib) (.Call (.Attribute a "index" apos) [b] [] pos):=by
 have hst:=star_of hs [] X.env
 have hfew:((backTo pos (starEach [b] X.env)).all (fun x=>!x.1)&&(backToKw pos (keywordEach [] X.env)).all (fun x=>x.1.isSome)
   && decide ([b].length+([]:List Keyword).length+(if ([]:List Keyword).isEmpty then 0 else 1)<30))=true:=by
  rw [hst];rfl
 refine .plain ((pe_bm (X:=X) (o:=a) PySem.F.plainAttrs_list PySem.F.slot_list_index PySem.F.type_list_index (s_idx hu) ha (pa_cons hb pa_nil hst) hbase hfew hline hst rfl).weak fun σ H Q h=>?_) (fun _=>rfl)
 obtain ⟨G,ρ,p,S,e,k⟩:=h
 obtain ⟨x,e1,e2⟩:=bnd_eq.mp (show bnd (evE cf ia ρ) (fun x=>bnd (evE cf ib ρ) fun y=>opF2 .idx x y)=some p from e)
 obtain ⟨y,e3,e4⟩:=bnd_eq.mp e2
 refine ⟨G,ρ,x,S,e1,fun v G1 H1 x1 r1=>⟨?_,G1,ρ,y,S.ext x1,e3,fun w G2 H2 x2 r2=>⟨w,rfl,G2,x,y,p,x2.gh,(r1.rk x1.gh).ext x2,r2.rk x2.gh,e4,fun u G3 H3 x3 r3=>k u G3 H3 (x1.trans (x2.trans x3)) (.of rfl r3)⟩⟩⟩
 cases x with
 | list ys=>
  obtain ⟨a',vs',rfl,q1,_⟩:=(show ∃ a vs,v=V.ref a∧SqL X.K H1 a vs∧RpL X.K G1 ys vs from r1.rk x1.gh)
  exact .inl ⟨rfl,vs',q1⟩
 | _=>exact nomatch (show none=some p from e4)
end
theorem meets_extT (l:Addr) (items:Array Value) (n:Nat) (b:Addr) (more:Array Value) (n2:Nat) (dct:Option Addr) (sl:Array (Option Value)) (h0:¬(!items.isEmpty&&Builtin.List.listTooLong (items.size+more.size))=true) (h1:items.size≤sizeLine) (h2:items.size+more.size≤sizeLine+1):
  Meets (Builtin.«list.extend» ⟨[.ref l,.ref b],[]⟩) (fun _ R s=>s.heap.get? l=some {cls:=.type "list",dict:=none,data:=.seq items n,slots:=#[]}∧s.heap.get? b=some {cls:=.type "tuple",dict:=dct,data:=.seq more n2,slots:=sl}∧
   R (.ok (.ret Value.none)) {s with heap:=s.heap.update l (Obj.mapSeq fun x=>x++more),toks:=s.toks}):=
 .of_wp fun prog w A R s h=>by
  obtain ⟨hp,g,d,tk,os⟩:=s;obtain ⟨hl,hb,h⟩:=h;have f1:=AutoSeq1.idx_int;have f2:=sub_tuple_tuple;have f3:=sub_list_list
  have f4:=sub_tuple_list;have f5:=sub_list_tuple;have hz':(items++more).size≤sizeLine+1:=by rw [Array.size_append];exact h2
  wp_walk using (wpAny_updateSeq hl rfl (hz:=h1) (_hz':=hz')),AutoSeq1.wpAny_loadPart' hl,AutoSeq1.wpAny_loadPart' hb
  exact ⟨_,rfl,h⟩
theorem meets_extL (l:Addr) (items:Array Value) (n:Nat) (b:Addr) (more:Array Value) (n2:Nat) (dct:Option Addr) (sl:Array (Option Value)) (h0:¬(!items.isEmpty&&Builtin.List.listTooLong (items.size+more.size))=true) (h1:items.size≤sizeLine) (h2:items.size+more.size≤sizeLine+1):
  Meets (Builtin.«list.extend» ⟨[.ref l,.ref b],[]⟩) (fun _ R s=>s.heap.get? l=some {cls:=.type "list",dict:=none,data:=.seq items n,slots:=#[]}∧s.heap.get? b=some {cls:=.type "list",dict:=dct,data:=.seq more n2,slots:=sl}∧
   R (.ok (.ret Value.none)) {s with heap:=s.heap.update l (Obj.mapSeq fun x=>x++more),toks:=s.toks}):=
 .of_wp fun prog w A R s h=>by
  obtain ⟨hp,g,d,tk,os⟩:=s;obtain ⟨hl,hb,h⟩:=h;have f1:=AutoSeq1.idx_int;have f2:=sub_tuple_tuple;have f3:=sub_list_list
  have f4:=sub_tuple_list;have f5:=sub_list_tuple;have hz':(items++more).size≤sizeLine+1:=by rw [Array.size_append];exact h2
  wp_walk using (wpAny_updateSeq hl rfl (hz:=h1) (_hz':=hz')),AutoSeq1.wpAny_loadPart' hl,AutoSeq1.wpAny_loadPart' hb
  exact ⟨_,rfl,h⟩
section
variable {X:Cx} {cf:CF}
noncomputable def rExt (K:PySem.W.Frag):V→List V→Hp→VK→Prop:=fun x vs H Q=>∃ l b xs zs,x=.ref l∧vs=[.ref b]∧H l=some (.lst xs)∧(SqL K H b zs∨SqT K H b zs)∧xs.length+zs.length≤sizeLine∧Q .non (L2.upd H l (.lst (xs++zs)))
theorem mt_ext:MtM X "list.extend" (rExt X.K):=by
 intro pins s σ H x vs v us Q I rx rv h
 obtain ⟨l,b,xs,zs,rfl,rfl,hH,hB,hz,q⟩:=h
 cases rx
 obtain ⟨u,rfl,ru⟩:=rv.one
 cases ru
 obtain ⟨z,its,n,r,hl,e⟩:=I.lstM hH
 rcases hB with hB | hB
 ·obtain ⟨its2,r2,⟨⟨c,dd,da,sl⟩,n2,e2,hc,_,hd⟩,hz2⟩:=I.list hB
  cases (show c=.type "list" from hc)
  cases (show da=.seq its2.toArray n2 from hd)
  have hl2:=r2.length
  have hsz:its.toArray.size+its2.toArray.size≤sizeLine:=by rw [List.size_toArray,List.size_toArray];lia
  have hlong:¬ (!its.toArray.isEmpty&&Builtin.List.listTooLong (its.toArray.size+its2.toArray.size))=true:=by rw [notLongL hsz,Bool.and_false];exact Bool.false_ne_true
  refine call_meets PySem.F.slot_list_extend ⟨_,e,rfl⟩ PySem.F.entry_list_extend (PySem.F.args_list_extend_2 _ _) (meets_extL l its.toArray n b its2.toArray n2 dd sl hlong (by rw [List.size_toArray];lia) (by lia)) ⟨e,e2,?_⟩
  exact ⟨.non,_,I.lset (its':=its++its2) hH e (by simp) (r.append r2) (by rw [List.length_append];lia),rfl,q⟩
 ·obtain ⟨its2,r2,⟨⟨c,dd,da,sl⟩,e2,hc,n2,hd⟩,hz2⟩:=I.tuple hB
  cases (show c=.type "tuple" from hc)
  cases (show da=.seq its2.toArray n2 from hd)
  have hl2:=r2.length
  have hsz:its.toArray.size+its2.toArray.size≤sizeLine:=by rw [List.size_toArray,List.size_toArray];lia
  have hlong:¬ (!its.toArray.isEmpty&&Builtin.List.listTooLong (its.toArray.size+its2.toArray.size))=true:=by rw [notLongL hsz,Bool.and_false];exact Bool.false_ne_true
  refine call_meets PySem.F.slot_list_extend ⟨_,e,rfl⟩ PySem.F.entry_list_extend (PySem.F.args_list_extend_2 _ _) (meets_extT l its.toArray n b its2.toArray n2 dd sl hlong (by rw [List.size_toArray];lia) (by lia)) ⟨e,e2,?_⟩
  exact ⟨.non,_,I.lset (its':=its++its2) hH e (by simp) (r.append r2) (by rw [List.length_append];lia),rfl,q⟩
theorem st_ext {i:Nat} {x:Str} {e:Expr} {ie:E} {pos apos cpos npos:Pos} (hi:X.N[i]?=some x) (hv:Vis X.env.scope x) (hd:(x==("__debug__":Str))=false) (hcd:(x==("__classdict__":Str))=false)
  (he:PE X e (tE cf X.K ie)) (hk:isPeek ie=false) (hs:plainE e=true) (hline:(apos.endLine==cpos.line)=true):
  PS X (.Expr (.Call (.Attribute (.Name x npos) "extend" apos) [e] [] cpos) pos) (tS cf X.K (.ext i ie)):=by
 have hst:=star_of hs [] X.env
 have hfew:((backTo cpos (starEach [e] X.env)).all (fun x=>!x.1)&&(backToKw cpos (keywordEach [] X.env)).all (fun x=>x.1.isSome)
   && decide ([e].length+([]:List Keyword).length+(if ([]:List Keyword).isEmpty then 0 else 1)<30))=true:=by
  rw [hst];rfl
 refine (ps_expr (pe_bm (X:=X) (o:=.Name x npos) PySem.F.plainAttrs_list PySem.F.slot_list_extend PySem.F.type_list_extend mt_ext (pe_var hi hv hd hcd) (pa_cons he pa_nil hst) rfl hfew hline hst rfl) rfl).weak fun D σ H ⟨G0,H0,G,ρ,o,T,e,k⟩=>?_
 obtain ⟨p,e1,e2⟩:=bnd_eq.mp (show bnd (evE cf ie ρ) (fun p=>bnd (seqOf p) fun xs=>bnd ρ[i]? (extF i ρ xs))=some o from e)
 obtain ⟨xs,e5,e6⟩:=bnd_eq.mp e2
 obtain ⟨sl,e3,e4⟩:=bnd_eq.mp e6
 cases sl with
 | own ps=>
  have e4':(if ps.length+xs.length<1000000 then some (Out.nx (ρ.set i (.own (ps++xs)))) else none)=some o:=e4
  by_cases hl:ps.length+xs.length<1000000
  ·rw [if_pos hl] at e4'
   cases e4'
   obtain ⟨o',eo,l,vs,rfl,h1,h2,r⟩:=T.sr.at e3
   refine ⟨.ref l,eo,.inl ⟨rfl,vs,SqL.of h1⟩,G,ρ,p,T.sr,e1,fun v G1 H1 x1 r1=>?_⟩
   have h1':=x1.hh _ _ h1
   have g1':G1 l=none:=(x1.old _ _ h1).trans h2
   have rp:=r1.rp hk
   have fin:∀ (b:Addr) (zs:List V),v=.ref b→(SqL X.K H1 b zs∨SqT X.K H1 b zs)→RpL X.K G1 xs zs→rExt X.K (.ref l) [v] H1 fun _ H'=>D.nx σ H':=fun b zs ev hq hr=>by
    subst ev
    refine ⟨l,b,vs,zs,rfl,rfl,h1',hq,by have:=r.length;have:=hr.length;rw [line_eq];lia,?_⟩
    exact k _ G1 _ ((T.ext x1).grow e3 eo h1' g1' ((r.mono x1.gg).append hr))
   cases p with
   | list qs=>
    cases (show some qs=some xs from e5)
    obtain ⟨b,zs,ev,q1,q2⟩:=(show ∃ a vs,v=V.ref a∧SqL X.K G1 a vs∧RpL X.K G1 xs vs from rp)
    exact fin b zs ev (.inl (x1.gh.sqL q1)) q2
   | tuple qs=>
    cases (show some qs=some xs from e5)
    obtain ⟨b,zs,ev,q1,q2⟩:=(show ∃ a vs,v=V.ref a∧SqT X.K G1 a vs∧RpL X.K G1 xs vs from rp)
    exact fin b zs ev (.inr (x1.gh.sqT q1)) q2
   | _=>exact nomatch (show none=some xs from e5)
  ·rw [if_neg hl] at e4';cases e4'
 | un=>cases (show none=some o from e4)
 | val q=>cases (show none=some o from e4)
end
end DD
set_option genInjectivity false
namespace DD
open PySem
noncomputable def onName (e:Expr) (k:Str→Pos→Bool):Bool:=match e with
 | .Name x p=>k x p
 | _=>false
@[elab_as_elim] theorem onName_el {e:Expr} {k:Str→Pos→Bool} {P:Expr→Prop} (h:onName e k=true) (H:∀ x p,k x p=true→P (.Name x p)):P e:=by
 cases e with
 | Name x p=>exact H x p h
 | _=>exact nomatch (show false=true from h)
noncomputable def onConst (e:Expr) (k:Const→Nat→Pos→Bool):Bool:=match e with
 | .Constant c j p=>k c j p
 | _=>false
@[elab_as_elim] theorem onConst_el {e:Expr} {k:Const→Nat→Pos→Bool} {P:Expr→Prop} (h:onConst e k=true) (H:∀ c j p,k c j p=true→P (.Constant c j p)):P e:=by
 cases e with
 | Constant c j p=>exact H c j p h
 | _=>exact nomatch (show false=true from h)
noncomputable def onCall (e:Expr) (k:Expr→List Expr→Pos→Bool):Bool:=match e with
 | .Call g as ks p=>ks.isEmpty&&k g as p
 | _=>false
@[elab_as_elim] theorem onCall_el {e:Expr} {k:Expr→List Expr→Pos→Bool} {P:Expr→Prop} (h:onCall e k=true) (H:∀ g as p,k g as p=true→P (.Call g as [] p)):P e:=by
 cases e with
 | Call g as ks p=>
  have h':(ks.isEmpty&&k g as p)=true:=h
  cases ks with
  | nil=>exact H g as p h'
  | cons _ _=>exact nomatch (show false=true from h')
 | _=>exact nomatch (show false=true from h)
noncomputable def onAttr (e:Expr) (k:Expr→Str→Pos→Bool):Bool:=match e with
 | .Attribute v m p=>k v m p
 | _=>false
@[elab_as_elim] theorem onAttr_el {e:Expr} {k:Expr→Str→Pos→Bool} {P:Expr→Prop} (h:onAttr e k=true) (H:∀ v m p,k v m p=true→P (.Attribute v m p)):P e:=by
 cases e with
 | Attribute v m p=>exact H v m p h
 | _=>exact nomatch (show false=true from h)
noncomputable def onUn (e:Expr) (k:UnaryOp→Expr→Pos→Bool):Bool:=match e with
 | .UnaryOp u x p=>k u x p
 | _=>false
@[elab_as_elim] theorem onUn_el {e:Expr} {k:UnaryOp→Expr→Pos→Bool} {P:Expr→Prop} (h:onUn e k=true) (H:∀ u x p,k u x p=true→P (.UnaryOp u x p)):P e:=by
 cases e with
 | UnaryOp u x p=>exact H u x p h
 | _=>exact nomatch (show false=true from h)
noncomputable def isUSub:UnaryOp→Bool
 | .USub=>true
 | _=>false
noncomputable def isNotU:UnaryOp→Bool
 | .Not=>true
 | _=>false
theorem isNotU_of {u:UnaryOp} (h:isNotU u=true):u=.Not:=by cases u <;> first | rfl | exact nomatch (show false=true from h)
noncomputable def onBin (e:Expr) (k:Expr→Operator→Expr→Pos→Bool):Bool:=match e with
 | .BinOp x o y p=>k x o y p
 | _=>false
@[elab_as_elim] theorem onBin_el {e:Expr} {k:Expr→Operator→Expr→Pos→Bool} {P:Expr→Prop} (h:onBin e k=true) (H:∀ x o y p,k x o y p=true→P (.BinOp x o y p)):P e:=by
 cases e with
 | BinOp x o y p=>exact H x o y p h
 | _=>exact nomatch (show false=true from h)
noncomputable def onBool (e:Expr) (k:BoolOp→List Expr→Pos→Bool):Bool:=match e with
 | .BoolOp o xs p=>k o xs p
 | _=>false
@[elab_as_elim] theorem onBool_el {e:Expr} {k:BoolOp→List Expr→Pos→Bool} {P:Expr→Prop} (h:onBool e k=true) (H:∀ o xs p,k o xs p=true→P (.BoolOp o xs p)):P e:=by
 cases e with
 | BoolOp o xs p=>exact H o xs p h
 | _=>exact nomatch (show false=true from h)
noncomputable def onCmp (e:Expr) (k:Expr→List CmpOp→List Expr→Pos→Bool):Bool:=match e with
 | .Compare x os ys p=>k x os ys p
 | _=>false
@[elab_as_elim] theorem onCmp_el {e:Expr} {k:Expr→List CmpOp→List Expr→Pos→Bool} {P:Expr→Prop} (h:onCmp e k=true) (H:∀ x os ys p,k x os ys p=true→P (.Compare x os ys p)):P e:=by
 cases e with
 | Compare x os ys p=>exact H x os ys p h
 | _=>exact nomatch (show false=true from h)
noncomputable def onSub (e:Expr) (k:Expr→Expr→Pos→Bool):Bool:=match e with
 | .Subscript x y p=>k x y p
 | _=>false
@[elab_as_elim] theorem onSub_el {e:Expr} {k:Expr→Expr→Pos→Bool} {P:Expr→Prop} (h:onSub e k=true) (H:∀ x y p,k x y p=true→P (.Subscript x y p)):P e:=by
 cases e with
 | Subscript x y p=>exact H x y p h
 | _=>exact nomatch (show false=true from h)
noncomputable def onSlice (e:Expr) (k:Option Expr→Option Expr→Option Expr→Pos→Bool):Bool:=match e with
 | .Slice a b c p=>k a b c p
 | _=>false
@[elab_as_elim] theorem onSlice_el {e:Expr} {k:Option Expr→Option Expr→Option Expr→Pos→Bool} {P:Expr→Prop} (h:onSlice e k=true) (H:∀ a b c p,k a b c p=true→P (.Slice a b c p)):P e:=by
 cases e with
 | Slice a b c p=>exact H a b c p h
 | _=>exact nomatch (show false=true from h)
noncomputable def onTup (e:Expr) (k:List Expr→Nat→Pos→Bool):Bool:=match e with
 | .Tuple xs j p=>k xs j p
 | _=>false
@[elab_as_elim] theorem onTup_el {e:Expr} {k:List Expr→Nat→Pos→Bool} {P:Expr→Prop} (h:onTup e k=true) (H:∀ xs j p,k xs j p=true→P (.Tuple xs j p)):P e:=by
 cases e with
 | Tuple xs j p=>exact H xs j p h
 | _=>exact nomatch (show false=true from h)
noncomputable def onList (e:Expr) (k:List Expr→Pos→Bool):Bool:=match e with
 | .List xs p=>k xs p
 | _=>false
@[elab_as_elim] theorem onList_el {e:Expr} {k:List Expr→Pos→Bool} {P:Expr→Prop} (h:onList e k=true) (H:∀ xs p,k xs p=true→P (.List xs p)):P e:=by
 cases e with
 | List xs p=>exact H xs p h
 | _=>exact nomatch (show false=true from h)
noncomputable def onDict (e:Expr) (k:List (Option Expr)→List Expr→Pos→Bool):Bool:=match e with
 | .Dict es vs p=>k es vs p
 | _=>false
@[elab_as_elim] theorem onDict_el {e:Expr} {k:List (Option Expr)→List Expr→Pos→Bool} {P:Expr→Prop} (h:onDict e k=true) (H:∀ es vs p,k es vs p=true→P (.Dict es vs p)):P e:=by
 cases e with
 | Dict es vs p=>exact H es vs p h
 | _=>exact nomatch (show false=true from h)
noncomputable def onIfE (e:Expr) (k:Expr→Expr→Expr→Pos→Bool):Bool:=match e with
 | .IfExp t x y p=>k t x y p
 | _=>false
@[elab_as_elim] theorem onIfE_el {e:Expr} {k:Expr→Expr→Expr→Pos→Bool} {P:Expr→Prop} (h:onIfE e k=true) (H:∀ t x y p,k t x y p=true→P (.IfExp t x y p)):P e:=by
 cases e with
 | IfExp t x y p=>exact H t x y p h
 | _=>exact nomatch (show false=true from h)
noncomputable def onLC (e:Expr) (k:Expr→List Comprehension→Scope→Pos→Bool):Bool:=match e with
 | .ListComp y gs sc p=>k y gs sc p
 | _=>false
@[elab_as_elim] theorem onLC_el {e:Expr} {k:Expr→List Comprehension→Scope→Pos→Bool} {P:Expr→Prop} (h:onLC e k=true) (H:∀ y gs sc p,k y gs sc p=true→P (.ListComp y gs sc p)):P e:=by
 cases e with
 | ListComp y gs sc p=>exact H y gs sc p h
 | _=>exact nomatch (show false=true from h)
noncomputable def on1 {α:Type} (l:List α) (k:α→Bool):Bool:=match l with
 | [x]=>k x
 | _=>false
@[elab_as_elim] theorem on1_el {α:Type} {l:List α} {k:α→Bool} {P:List α→Prop} (h:on1 l k=true) (H:∀ x,k x=true→P ([x])):P l:=by
 cases l with
 | nil=>exact nomatch (show false=true from h)
 | cons x l=>
  cases l with
  | nil=>exact H x h
  | cons _ _=>exact nomatch (show false=true from h)
noncomputable def on2 {α:Type} (l:List α) (k:α→α→Bool):Bool:=match l with
 | x::r=>on1 r (k x)
 | _=>false
@[elab_as_elim] theorem on2_el {α:Type} {l:List α} {k:α→α→Bool} {P:List α→Prop} (h:on2 l k=true) (H:∀ x y,k x y=true→P ([x,y])):P l:=by
 cases l with
 | nil=>exact nomatch (show false=true from h)
 | cons x l=>
  exact on1_el (P:=fun r=>P (x::r)) (show on1 l (k x)=true from h) fun y h=>H x y h
noncomputable def onCons {α:Type} (l:List α) (k:α→List α→Bool):Bool:=match l with
 | x::r=>k x r
 | _=>false
@[elab_as_elim] theorem onCons_el {α:Type} {l:List α} {k:α→List α→Bool} {P:List α→Prop} (h:onCons l k=true) (H:∀ x r,k x r=true→P (x::r)):P l:=by
 cases l with
 | nil=>exact nomatch (show false=true from h)
 | cons x l=>exact H x l h
noncomputable def onSo {α:Type} (o:Option α) (k:α→Bool):Bool:=match o with
 | some x=>k x
 | none=>false
@[elab_as_elim] theorem onSo_el {α:Type} {o:Option α} {k:α→Bool} {P:Option α→Prop} (h:onSo o k=true) (H:∀ x,k x=true→P (some x)):P o:=by
 cases o with
 | none=>exact nomatch (show false=true from h)
 | some x=>exact H x h
theorem onSo_of {α:Type} {o:Option α} {k:α→Bool} (h:onSo o k=true):∃ x,o=some x∧k x=true:=onSo_el (P:=fun o=>∃ x,o=some x∧k x=true) h fun x h=>⟨x,rfl,h⟩
theorem isN_of {α:Type} {o:Option α} (h:o.isNone=true):o=none:=by
 cases o with
 | none=>rfl
 | some _=>exact nomatch (show false=true from h)
noncomputable def onInt (c:Const) (k:Int→Bool):Bool:=match c with
 | .int i=>k i
 | _=>false
noncomputable def onStr (c:Const) (k:Str→Bool):Bool:=match c with
 | .str i=>k i
 | _=>false
noncomputable def isNonC:Const→Bool
 | .none=>true
 | _=>false
theorem isNonC_of {c:Const} (h:isNonC c=true):c=.none:=by cases c <;> first | rfl | exact nomatch (show false=true from h)
noncomputable def onAsg (st:Stmt) (k:Expr→Expr→Pos→Bool):Bool:=match st with
 | .Assign ts v p=>on1 ts fun t=>k t v p
 | _=>false
@[elab_as_elim] theorem onAsg_el {st:Stmt} {k:Expr→Expr→Pos→Bool} {P:Stmt→Prop} (h:onAsg st k=true) (H:∀ t v p,k t v p=true→P (.Assign [t] v p)):P st:=by
 cases st with
 | Assign ts v p=>
  exact on1_el (P:=fun r=>P (.Assign r v p)) (show on1 ts (fun t=>k t v p)=true from h) fun t h=>H t v p h
 | _=>exact nomatch (show false=true from h)
noncomputable def onRet (st:Stmt) (k:Expr→Bool):Bool:=match st with
 | .Return v _=>onSo v k
 | _=>false
@[elab_as_elim] theorem onRet_el {st:Stmt} {k:Expr→Bool} {P:Stmt→Prop} (h:onRet st k=true) (H:∀ v p,k v=true→P (.Return (some v) p)):P st:=by
 cases st with
 | Return v p=>
  exact onSo_el (P:=fun r=>P (.Return r p)) (show onSo v k=true from h) fun v h=>H v p h
 | _=>exact nomatch (show false=true from h)
noncomputable def onIfS (st:Stmt) (k:Expr→List Stmt→List Stmt→Bool):Bool:=match st with
 | .If t x y _=>k t x y
 | _=>false
@[elab_as_elim] theorem onIfS_el {st:Stmt} {k:Expr→List Stmt→List Stmt→Bool} {P:Stmt→Prop} (h:onIfS st k=true) (H:∀ t x y p,k t x y=true→P (.If t x y p)):P st:=by
 cases st with
 | If t x y p=>exact H t x y p h
 | _=>exact nomatch (show false=true from h)
noncomputable def onFor (st:Stmt) (k:Expr→Expr→List Stmt→Bool):Bool:=match st with
 | .For t i b o _=>o.isEmpty&&k t i b
 | _=>false
@[elab_as_elim] theorem onFor_el {st:Stmt} {k:Expr→Expr→List Stmt→Bool} {P:Stmt→Prop} (h:onFor st k=true) (H:∀ t i b p,k t i b=true→P (.For t i b [] p)):P st:=by
 cases st with
 | For t i b o p=>
  have h':(o.isEmpty&&k t i b)=true:=h
  cases o with
  | nil=>exact H t i b p h'
  | cons _ _=>exact nomatch (show false=true from h')
 | _=>exact nomatch (show false=true from h)
noncomputable def onExS (st:Stmt) (k:Expr→Bool):Bool:=match st with
 | .Expr e _=>k e
 | _=>false
@[elab_as_elim] theorem onExS_el {st:Stmt} {k:Expr→Bool} {P:Stmt→Prop} (h:onExS st k=true) (H:∀ e p,k e=true→P (.Expr e p)):P st:=by
 cases st with
 | Expr e p=>exact H e p h
 | _=>exact nomatch (show false=true from h)
noncomputable def isPass:Stmt→Bool
 | .Pass _=>true
 | _=>false
theorem isPass_of {st:Stmt} (h:isPass st=true):∃ p,st=.Pass p:=by cases st <;> first | exact ⟨_,rfl⟩ | exact nomatch (show false=true from h)
end DD
namespace DD
open PySem PySem.Spec PyProof.Rows L2
mutual
noncomputable def pvB:PV→PV→Bool
 | .none,.none=>true
 | .bool a,.bool b=>a==b
 | .int a,.int b=>a==b
 | .str a,.str b=>a==b
 | .list a,.list b=>pvsB a b
 | .tuple a,.tuple b=>pvsB a b
 | _,_=>false
noncomputable def pvsB:List PV→List PV→Bool
 | [],[]=>true
 | x::xs,y::ys=>pvB x y&&pvsB xs ys
 | _,_=>false
end
mutual
theorem pvB_eq:∀ {p q:PV},pvB p q=true→p=q
 | .none,q,h=>by
  cases q with
  | none=>rfl
  | _=>exact nomatch (show false=true from h)
 | .bool a,q,h=>by
  cases q with
  | bool b=>rw [eq_of_beq (show (a==b)=true from h)]
  | _=>exact nomatch (show false=true from h)
 | .int a,q,h=>by
  cases q with
  | int b=>rw [eq_of_beq (show (a==b)=true from h)]
  | _=>exact nomatch (show false=true from h)
 | .str a,q,h=>by
  cases q with
  | str b=>rw [eq_of_beq (show (a==b)=true from h)]
  | _=>exact nomatch (show false=true from h)
 | .list a,q,h=>by
  cases q with
  | list b=>rw [pvsB_eq (show pvsB a b=true from h)]
  | _=>exact nomatch (show false=true from h)
 | .tuple a,q,h=>by
  cases q with
  | tuple b=>rw [pvsB_eq (show pvsB a b=true from h)]
  | _=>exact nomatch (show false=true from h)
 | .dict a,q,h=>by cases q <;> exact nomatch (show false=true from h)
theorem pvsB_eq:∀ {p q:List PV},pvsB p q=true→p=q
 | [],q,h=>by
  cases q with
  | nil=>rfl
  | cons _ _=>exact nomatch (show false=true from h)
 | x::xs,q,h=>by
  cases q with
  | nil=>exact nomatch (show false=true from h)
  | cons y ys=>
   obtain ⟨h1,h2⟩:=(Bool.and_eq_true _ _).mp (show (pvB x y&&pvsB xs ys)=true from h)
   rw [pvB_eq h1,pvsB_eq h2]
end
structure Info where
 fns:List (Str×Nat×Nat)
 consts:List (Str×PV)
 blts:List Str
 dcts:List (Str×List (PV×PV)):=[]
noncomputable def TopD (X:Cx) (x:Str) (kvs:List (PV×PV)):Prop:=∃ a l vs,X.mg x=some (.ref a)∧(∀ G,RpD X.K G kvs l)∧KV l vs∧∀ h:Heap,X.K.In h→h.DictOf (mixKind X.prog X.w) a vs
structure Good (X:Cx) (k:Nat) (cf:CF) (Gam:Info):Prop where
 calm:X.calm=true
 xe:X.xe=fun _ _=>False
 room:Room k X.A
 fns:∀ x id n,(x,id,n)∈Gam.fns→∃ fa fd ps,ps.length=n∧X.mg x=some (.ref fa)∧PySem.W.keepIn X.K (.ref fa)=true∧L2.Binds X.K fd ps []∧FnOk X.prog X.w X.K X.mg X.base CX0 k fa fd ps (spD X.K ps.length (cf id))
 consts:∀ x p,(x,p)∈Gam.consts→∃ u v,X.mg x=some u∧RelV v u∧∀ G,Rp X.K G p v
 blts:∀ x∈Gam.blts,X.mg x=none
 dcts:∀ x kvs,(x,kvs)∈Gam.dcts→TopD X x kvs
noncomputable abbrev Nms:=List (Str×NameKind)
noncomputable def okN (x:Str):Bool:=!(x==("__debug__":Str))&&!(x==("__classdict__":Str))&&!(x==("__name__":Str))
noncomputable def visB (nm:Nms) (x:Str):Bool:=nm.lookup x==some .local||nm.lookup x==some .cell||nm.lookup x==some .free
noncomputable def glB (nm:Nms) (x:Str):Bool:=nm.lookup x==some .globalImplicit&&okN x
noncomputable def bltB (Gam:Info) (nm:Nms) (x y:Str):Bool:=x==y&&glB nm x&&Gam.blts.contains x
theorem okN_of {x:Str} (h:okN x=true):(x==("__debug__":Str))=false∧(x==("__classdict__":Str))=false∧x≠"__name__":=by
 unfold okN at h
 simp only [Bool.and_eq_true,Bool.not_eq_true'] at h
 exact ⟨h.1.1,h.1.2,by simpa using h.2⟩
theorem visB_of {sc:Scope} {x:Str} (h:visB sc.names x=true):Vis sc x:=by
 unfold visB at h
 simp only [Bool.or_eq_true,beq_iff_eq] at h
 rcases h with (h | h) | h
 ·exact .inl h
 ·exact .inr (.inl h)
 ·exact .inr (.inr h)
noncomputable def conB (p:PV):Const→Bool
 | .none=>pvB p .none
 | .bool b=>pvB p (.bool b)
 | .int i=>pvB p (.int i)
 | .str x=>pvB p (.str x)&&PyData.strOk x&&decide (x.length≤16777216)
 | _=>false
noncomputable def binO:Op2→Option Operator
 | .add=>some .Add
 | .sub=>some .Sub
 | .fdiv=>some .FloorDiv
 | .mod=>some .Mod
 | .mul=>some .Mult
 | _=>none
noncomputable def binB (o:Op2) (op:Operator):Bool:=decide (binO o=some op)
noncomputable def cmpO:Op2→Option CmpOp
 | .eq=>some .Eq
 | .ne=>some .NotEq
 | .lt=>some .Lt
 | .gt=>some .Gt
 | .inn=>some .In
 | _=>none
noncomputable def cmpB (o:Op2) (op:CmpOp):Bool:=decide (cmpO o=some op)
noncomputable def kindT:Op1→Option String
 | .isStr=>some "str"
 | _=>none
noncomputable def bltFn:Op1→Option Str
 | .len=>some "len"
 | .toTuple=>some "tuple"
 | .toInt=>some "int"
 | .srt=>some "sorted"
 | _=>none
section
variable {X:Cx}
theorem ints_rel {K:PySem.W.Frag} {G:Hp}:∀ {ps:List PV} {vs:List V} {ns:List Int},RpL K G ps vs→intsOf ps=some ns→vs=ns.map V.int
 | [],_,_,h,e=>by
  cases (show _=[] from h)
  cases (show some []=some _ from e)
  rfl
 | p::ps,_,ns,h,e=>by
  obtain ⟨v,w,rfl,⟨_,h1⟩,h2⟩:=(show ∃ v r,_=v::r∧(isDict p=false∧Rp K G p v)∧RpL K G ps r from h)
  cases p with
  | int i=>
   obtain ⟨q,e1,e2⟩:=bnd_eq.mp (show bnd (intsOf ps) (fun q=>some (i::q))=some ns from e)
   cases e2
   cases (show v=.int i from h1)
   rw [ints_rel h2 e1];rfl
  | _=>exact nomatch (show none=some _ from e)
theorem lexLt_eq:∀ (a b:List Int),DD.lexLt a b=HT.lexLt a b
 | [],[]=>rfl
 | [],_::_=>rfl
 | _::_,[]=>rfl
 | x::xs,y::ys=>by
  rw [HT.lexLt_cons,DD.lexLt,lexLt_eq xs ys]
theorem s_lt (hu:X.A.units+190<cLine):OpR X (compareOp .Lt) (rOp2 X.K .lt):=by
 intro pins s σ H x y v u Q I rx ry h
 obtain ⟨G,p,q,r,sb,hp,hq,e,k⟩:=h
 cases p with
 | int i=>
  cases q with
  | int j=>
   cases (show some (PyData.bool (decide (i<j)))=some r from e)
   cases (show x=.int i from hp);cases (show y=.int j from hq)
   exact op_lt pins s σ H _ _ v u Q I rx ry ⟨i,j,rfl,rfl,k _ G H (.refl sb) rfl⟩
  | _=>exact nomatch (show none=some _ from e)
 | tuple xs=>
  cases q with
  | tuple ys=>
   obtain ⟨ns,e1,e⟩:=bnd_eq.mp (show bnd (intsOf xs) (fun ns=>bnd (intsOf ys) fun ms=>some (PyData.bool (DD.lexLt ns ms)))=some r from e)
   obtain ⟨ms,e2,e⟩:=bnd_eq.mp e
   cases e
   obtain ⟨a,vs,rfl,q1,r1⟩:=(show ∃ a vs,x=V.ref a∧SqT X.K G a vs∧RpL X.K G xs vs from hp)
   obtain ⟨b,ws,rfl,q2,r2⟩:=(show ∃ a vs,y=V.ref a∧SqT X.K G a vs∧RpL X.K G ys vs from hq)
   have h1:=ints_rel r1 e1
   have h2:=ints_rel r2 e2
   subst h1 h2
   refine op_ltT (by lia) pins s σ H _ _ v u Q I rx ry ⟨a,b,ns,ms,rfl,rfl,sb.sqT q1,sb.sqT q2,k _ G H (.refl sb) ?_⟩
   rw [lexLt_eq];rfl
  | _=>exact nomatch (show none=some _ from e)
 | _=>cases q <;> exact nomatch (show none=some _ from e)
theorem s_isN:OpR X (compareOp .Is) (fun x y H Q=>y=.non∧rOp1 X.K .isN x H Q):=by
 intro pins s σ H x y v u Q I rx ry h
 obtain ⟨rfl,G,p,r,sb,hp,e,k⟩:=h
 refine op_isN pins s σ H x .non v u Q I rx ry ⟨rfl,?_⟩
 have key:Rp X.K G r (.bl (decide (x=.non))):=by
  cases p with
  | none=>cases (show x=.non from hp);cases (show some (PyData.bool true)=some r from e);exact (rfl:V.bl (decide (V.non=V.non))=.bl true)
  | bool b=>cases (show x=.bl b from hp);cases (show some (PyData.bool false)=some r from e);exact (rfl:V.bl (decide (V.bl b=V.non))=.bl false)
  | int b=>cases (show x=.int b from hp);cases (show some (PyData.bool false)=some r from e);exact (rfl:V.bl (decide (V.int b=V.non))=.bl false)
  | str b=>
   obtain ⟨rfl,_⟩:=(show x=.str b∧_ from hp)
   cases (show some (PyData.bool false)=some r from e);exact (rfl:V.bl (decide (V.str b=V.non))=.bl false)
  | list ps=>
   obtain ⟨a,vs,rfl,_⟩:=(show ∃ a vs,x=V.ref a∧SqL X.K H a vs∧RpL X.K G ps vs from hp)
   cases (show some (PyData.bool false)=some r from e);exact (rfl:V.bl (decide (V.ref a=V.non))=.bl false)
  | tuple ps=>
   obtain ⟨a,vs,rfl,_⟩:=(show ∃ a vs,x=V.ref a∧SqT X.K G a vs∧RpL X.K G ps vs from hp)
   cases (show some (PyData.bool false)=some r from e);exact (rfl:V.bl (decide (V.ref a=V.non))=.bl false)
  | dict kvs=>
   obtain ⟨a,l,rfl,_⟩:=(show ∃ a l,x=V.ref a∧Rd G a (.dK l)∧RpD X.K G kvs l from hp)
   cases (show some (PyData.bool false)=some r from e);exact (rfl:V.bl (decide (V.ref a=V.non))=.bl false)
 exact k _ G H (.refl sb) key
end
section
variable {X:Cx} {cf:CF}
theorem is_bool {o:Op1} (ho:o=.isN∨o=.notN) {p r:PV} (e:opF1 o p=some r):∃ b,r=.bool b:=by
 rcases ho with rfl | rfl <;> (cases p <;> (cases e;exact ⟨_,rfl⟩))
theorem snd_is {op:CmpOp} {o:Op1} {ia:E} {a:Expr} {j:Nat} {p2 pos:Pos} (ho:OpR X (compareOp op) (fun x y H Q=>y=.non∧rOp1 X.K o x H Q)) (ho1:o=.isN∨o=.notN) (ha:PE X a (tE cf X.K ia)) (hm:behindInMarks op (.Constant .none j p2)=false):
  Snd X cf (.op1 o ia) (.Compare a [op] [.Constant .none j p2] pos):=by
 have w:∀ σ H Q,tE cf X.K (.op1 o ia) σ H Q→tOp (fun x y H Q=>y=.non∧rOp1 X.K o x H Q) (tE cf X.K ia) (tC .non) σ H Q:=fun σ H Q h=>tE_mono (op1_w σ H Q h) fun v H' q=>⟨rfl,q⟩
 refine ⟨(pe_cmpR ho ha pe_non hm).weak w,(pt_cmpR ho ha pe_non hm).weak fun σ H Q ⟨G,ρ,p,t,S,e,et,k⟩=>?_⟩
 refine w σ H (fun x H'=>∃ c,x=.bl c∧Q c H') ⟨G,ρ,p,S,e,fun v G' H' x r=>?_⟩
 obtain ⟨x',e1,e2⟩:=bnd_eq.mp (show bnd (evE cf ia ρ) (opF1 o)=some p from e)
 obtain ⟨b',rfl⟩:=is_bool ho1 e2
 have et':b'=t:=Option.some.inj et
 subst et'
 have rv:Rp X.K G' (.bool b') v:=r.rp rfl
 cases (show v=.bl b' from rv)
 exact ⟨b',rfl,k G' H' x⟩
end
section
variable (Gam:Info) (N:List Str) (nm:Nms) (f:E→Expr→Bool)
noncomputable def chkA:E→List Expr→Bool
 | .nil,[]=>true
 | .cons h t,e::es=>!isPeek h&&plainE e&&f h e&&chkA t es
 | _,_=>false
noncomputable def chkB (op:BoolOp):E→List Expr→Bool
 | ie,[e]=>f ie e
 | .and a b,e::e2::r=>op==.And&&!isPeek a&&!isPeek b&&f a e&&chkB op b (e2::r)
 | .or a b,e::e2::r=>op==.Or&&!isPeek a&&!isPeek b&&f a e&&chkB op b (e2::r)
 | _,_=>false
noncomputable def chkVar (i:Nat) (e:Expr):Bool:=onName e fun x _=>N[i]?==some x&&visB nm x&&okN x
noncomputable def chkCon (p:PV) (e:Expr):Bool:=onConst e (fun c _ _=>conB p c)||onName e (fun x _=>glB nm x&&Gam.consts.any fun c=>c.1==x&&pvB c.2 p)
noncomputable def chkTup (a:E) (e:Expr):Bool:=onTup e fun es _ _=>chkA f a es&&(argN a).any (·≤1000)
noncomputable def chkLst (a:E) (e:Expr):Bool:=onList e fun es _=>chkA f a es&&(argN a).any (·≤1000)
noncomputable def chkSset (x:Str) (a:E) (e:Expr):Bool:=false&&(onCall e fun g as _=>onName g fun y _=>on1 as fun z=>bltB Gam nm x "sorted"&&bltB Gam nm y "set"&&plainE z&&f a z)
noncomputable def chkOnea (o:Op1) (a:E) (e:Expr):Bool:=onCall e fun g as _=>onName g fun x _=>on1 as fun y=>if o==.sset then chkSset Gam nm f x a y else (bltFn o).any (fun z=>bltB Gam nm x z)&&plainE y&&f a y
noncomputable def chkOneb (o:Op1) (a:E) (e:Expr):Bool:=onCall e fun g as _=>onName g fun x _=>on2 as fun y u=>onName u fun t _=>bltB Gam nm x "isinstance"&&(kindT o).any (fun z=>bltB Gam nm t z)&&plainE y&&f a y
noncomputable def chkOnec (o:Op1) (a:E) (e:Expr):Bool:=false&&(onUn e fun u y _=>isUSub u&&o==.neg&&f a y)
noncomputable def chkOned (o:Op1) (a:E) (e:Expr):Bool:=false&&(onSub e fun y sl _=>onSlice sl fun l h st _=>l.isNone&&h.isNone&&onSo st fun z=>onUn z fun u c _=>isUSub u&&onConst c fun cc _ _=>onInt cc fun i=>o==.rev&&i==1&&f a y)
noncomputable def chkOnee (o:Op1) (a:E) (e:Expr):Bool:=onCmp e fun y os cs _=>on1 os fun op=>on1 cs fun c=>onConst c fun cc _ _=>isNonC cc&&decide (op=.Is)&&o==.isN&&f a y
noncomputable def chkOnef (o:Op1) (a:E) (e:Expr):Bool:=false&&(onCmp e fun y os cs _=>on1 os fun op=>on1 cs fun c=>onConst c fun cc _ _=>isNonC cc&&decide (op=.IsNot)&&o==.notN&&f a y)
noncomputable def rngE:E→Option E
 | .rng a=>some a
 | _=>none
noncomputable def chkOneg (o:Op1) (a:E) (e:Expr):Bool:=false&&(onCall e fun g as _=>onName g fun x _=>on1 as fun y=>onCall y fun g2 as2 _=>onName g2 fun x2 _=>on1 as2 fun z=>o==.toList&&bltB Gam nm x "list"&&bltB Gam nm x2 "range"&&plainE z&&onSo (rngE a) fun ia=>!isPeek ia&&f ia z)
noncomputable def chkOp1 (o:Op1) (a:E) (e:Expr):Bool:=chkOnea Gam nm f o a e||chkOneb Gam nm f o a e||chkOnec f o a e||chkOned f o a e||chkOnee f o a e||chkOnef f o a e||chkOneg Gam nm f o a e
noncomputable def chkTwoa (o:Op2) (a b:E) (e:Expr):Bool:=onBin e fun x op y _=>binB o op&&f a x&&f b y
noncomputable def chkTwob (o:Op2) (a b:E) (e:Expr):Bool:=onCmp e fun x os ys _=>on1 os fun op=>on1 ys fun y=>cmpB o op&&!behindInMarks op y&&f a x&&f b y
noncomputable def chkTwoc (o:Op2) (a b:E) (e:Expr):Bool:=onSub e fun x y _=>o==.ix&&ixE y&&f a x&&f b y
noncomputable def conE:E→Option PV
 | .con p=>some p
 | _=>none
noncomputable def chkTwod (o:Op2) (a b:E) (e:Expr):Bool:=false&&(onCall e fun g as pos=>onAttr g fun v m apos=>on1 as fun y=>onConst v fun c _ _=>onStr c fun s=>o==.join&&m=="join"&&(conE a).any (fun p=>pvB p (.str s))&&PyData.strOk s&&decide (s.length≤16777216)&&plainE y&&apos.endLine==pos.line&&f b y)
noncomputable def kvsB:List PV→E→List (PV×PV)→Bool
 | [],.nil,[]=>true
 | k::ks,.cons (.con p) r,kv::kvs=>pvB k kv.1&&pvB p kv.2&&kvsB ks r kvs
 | _,_,_=>false
noncomputable def dctE:E→Option (List PV×E)
 | .dct ks vs=>some (ks,vs)
 | _=>none
noncomputable def chkTwoe (o:Op2) (a b:E) (e:Expr):Bool:=false&&(onSub e fun v y _=>onName v fun x _=>o==.ix&&ixE y&&glB nm x&&(dctE a).any (fun kv=>Gam.dcts.any fun d=>d.1==x&&kvsB kv.1 kv.2 d.2)&&f b y)
noncomputable def chkTwof (o:Op2) (a b:E) (e:Expr):Bool:=onCall e fun g as pos=>onAttr g fun v m apos=>on1 as fun y=>onName v fun x p=>o==.idx&&m=="index"&&plainE y&&apos.endLine==pos.line&&f a (.Name x p)&&f b y
noncomputable def chkOp2 (o:Op2) (a b:E) (e:Expr):Bool:=chkTwoa f o a b e||chkTwob f o a b e||chkTwoc f o a b e||chkTwod f o a b e||chkTwoe Gam nm f o a b e||chkTwof f o a b e
noncomputable def chkP:E→Option Expr→Bool
 | ie,some e=>!isPeek ie&&f ie e
 | .con .none,none=>true
 | _,none=>false
noncomputable def chkSl (a lo hi:E) (e:Expr):Bool:=onSub e fun x sl _=>onSlice sl fun l h st _=>st.isNone&&f a x&&chkP f lo l&&chkP f hi h
noncomputable def chkCall (id:Nat) (a:E) (e:Expr):Bool:=onCall e fun g as _=>onName g fun x _=>onCons as fun y ys=>glB nm x&&plainE y&&ys.all plainE&&chkA f a (y::ys)&&Gam.fns.any fun r=>r.1==x&&r.2.1==id&&argN a==some r.2.2
noncomputable def chkAnd (a b:E) (e:Expr):Bool:=onBool e fun o xs _=>o==.And&&chkB f .And (.and a b) xs
noncomputable def chkOr (a b:E) (e:Expr):Bool:=onBool e fun o xs _=>o==.Or&&chkB f .Or (.or a b) xs
noncomputable def chkNot (a:E) (e:Expr):Bool:=onUn e fun u x _=>isNotU u&&f a x
noncomputable def chkIte (c a b:E) (e:Expr):Bool:=onIfE e fun t x y _=>f c t&&f a x&&f b y&&!isPeek a&&!isPeek b
noncomputable def chkChain (o o':Op2) (a b c:E) (e:Expr):Bool:=false&&(onCmp e fun x os ys _=>on2 os fun op op'=>on2 ys fun y z=>cmpB o op&&cmpB o' op'&&!lastMarks [op,op'] [y,z]&&f a x&&f b y&&f c z)
noncomputable def chkDct (ks:List PV) (a:E) (e:Expr):Bool:=onDict e fun es vs _=>chkD f ks a es vs&&decide (ks.map keyOf).Nodup&&!ks.isEmpty&&decide (ks.length≤15)
noncomputable def plainObj:Expr→Bool
 | .Dict ..=>true
 | .Name ..=>true
 | _=>false
noncomputable def chkDgt (a k d:E) (e:Expr):Bool:=false&&(onCall e fun g as pos=>onAttr g fun o m apos=>on2 as fun e1 e2=>m=="get"&&plainObj o&&plainE e1&&plainE e2&&apos.endLine==pos.line&&!isPeek d&&f a o&&f k e1&&f d e2)
noncomputable def chkLrep (a n:E) (e:Expr):Bool:=false&&(onBin e fun l op e2 _=>onList l fun es _=>decide (op=.Mult)&&chkA f a es&&(argN a).any (·≤1000)&&!isPeek n&&f n e2)
noncomputable def notSet:Expr→Bool
 | .Set ..=>false
 | _=>true
noncomputable def enmE:E→Option E
 | .op1 o a=>if o==.enum then some a else none
 | _=>none
noncomputable def chkIa (ie:E) (e:Expr):Bool:=onSo (rngE ie) fun a=>onCall e fun g as _=>onName g fun x _=>on1 as fun y=>bltB Gam nm x "range"&&!isPeek a&&plainE y&&f a y
noncomputable def chkIb (tgt:Expr) (ie:E) (e:Expr):Bool:=onSo (enmE ie) fun a=>onCall e fun g as _=>onName g fun x _=>on1 as fun y=>onTup tgt (fun _ _ _=>true)&&bltB Gam nm x "enumerate"&&!isPeek a&&plainE y&&f a y
noncomputable def chkI (tgt:Expr) (ie:E) (e:Expr):Bool:=chkIa Gam nm f ie e||chkIb Gam nm f tgt ie e||(!isPeek ie&&notSet e&&f ie e)
noncomputable def relB (nm:Nms) (names:Nms):Nms:=names.map fun (n,k)=>if (k==.free&&nm.lookup n==some .cell) then (n,NameKind.cell) else (n,k)
noncomputable def tgNames:Option Nat→Expr→Option (List Str)
 | none,.Name x _=>some [x]
 | some n,.Tuple es _ _=>if es.length=n then (es.mapM fun e=>match e with | .Name x _=>some x | _=>none) else none
 | _,_=>none
noncomputable def scopeB (own:List Str) (caps:List Nat) (scope:Scope):Bool:=
 scope.kind==.function&&scope.names.all (fun x=>x.2 != .cell||scope.names.lookup x.1==some .cell)&&scope.names.all (fun x=>x.2 != .local||scope.names.lookup x.1==some .local) &&
 scope.names.all (fun x=>x.2 != .free||nm.lookup x.1==some .cell||nm.lookup x.1==some .free) &&
 caps.all (fun j=>match N[j]? with | some y=>visB nm y&&scope.names.lookup y==some .free | none=>false)&&decide caps.Nodup &&
 own.all (fun x=>(scope.names.lookup x==some .local||scope.names.lookup x==some .cell)&&okN x)&&decide (own++caps.map fun j=>N.getD j "").Nodup
noncomputable def isTrueC:E→Bool
 | .con (.bool true)=>true
 | _=>false
noncomputable def chkComp (g:List Str→Nms→E→Expr→Bool) (tg:Option Nat) (caps:List Nat) (it cond elt:E) (e:Expr):Bool:=onLC e fun y gs scope _=>on1 gs fun q=>onSo (tgNames tg q.target) fun own=>
  q.is_async==0&&scopeB N nm own caps scope&&notSet q.iter&&chkI Gam nm f q.target it q.iter&&!isPeek elt &&
   g (own++caps.map fun j=>N.getD j "") (relB nm scope.names) elt y &&
   ((q.ifs.isEmpty&&isTrueC cond)||on1 q.ifs fun c=>g (own++caps.map fun j=>N.getD j "") (relB nm scope.names) cond c)
end
noncomputable def chkE (Gam:Info):Nat→List Str→Nms→E→Expr→Bool
 | 0,_,_,_,_=>false
 | n+1,N,nm,ie,e=>match ie with
  | .var i=>chkVar N nm i e
  | .peek i=>chkVar N nm i e
  | .con p=>chkCon Gam nm p e
  | .nil=>false
  | .cons _ _=>false
  | .tup a=>chkTup (chkE Gam n N nm) a e
  | .lst a=>chkLst (chkE Gam n N nm) a e
  | .op1 o a=>chkOp1 Gam nm (chkE Gam n N nm) o a e
  | .op2 o a b=>chkOp2 Gam nm (chkE Gam n N nm) o a b e
  | .sl a lo hi=>chkSl (chkE Gam n N nm) a lo hi e
  | .call f a=>chkCall Gam nm (chkE Gam n N nm) f a e
  | .and a b=>chkAnd (chkE Gam n N nm) a b e
  | .or a b=>chkOr (chkE Gam n N nm) a b e
  | .not a=>chkNot (chkE Gam n N nm) a e
  | .ite c a b=>chkIte (chkE Gam n N nm) c a b e
  | .chain o o' a b c=>chkChain (chkE Gam n N nm) o o' a b c e
  | .comp tg caps it cond elt=>chkComp Gam N nm (chkE Gam n N nm) (chkE Gam n) tg caps it cond elt e
  | .rng _=>false
  | .rng2 _ _=>false
  | .dct ks a=>chkDct (chkE Gam n N nm) ks a e
  | .dgt a k d=>chkDgt (chkE Gam n N nm) a k d e
  | .lrep a k=>chkLrep (chkE Gam n N nm) a k e
  | .skey _ _ _=>false
theorem rngE_of {ie a:E} (h:rngE ie=some a):ie=.rng a:=by
 cases ie with
 | rng b=>cases (show some b=some a from h);rfl
 | _=>exact nomatch (show none=some a from h)
theorem enmE_of {ie a:E} (h:enmE ie=some a):ie=.op1 .enum a:=by
 cases ie with
 | op1 o b=>
  have h':(if o==.enum then some b else none)=some a:=h
  by_cases ho:(o==.enum)=true
  ·rw [if_pos ho] at h'
   cases h'
   cases eq_of_beq ho
   rfl
  ·rw [if_neg ho] at h';cases h'
 | _=>exact nomatch (show none=some a from h)
theorem isTrueC_of {e:E} (h:isTrueC e=true):e=.con (.bool true):=by
 cases e with
 | con p=>
  cases p with
  | bool b=>
   cases b with
   | true=>rfl
   | false=>exact nomatch (show false=true from h)
  | _=>exact nomatch (show false=true from h)
 | _=>exact nomatch (show false=true from h)
section
variable {X:Cx} {cf:CF} {k:Nat} {Gam:Info} {f:E→Expr→Bool}
theorem Good.units (g:Good X k cf Gam):X.A.units+190<cLine:=by have:=g.room.un;lia
theorem ok_var {i:Nat} {e:Expr} (h:chkVar X.N X.env.scope.names i e=true):Snd X cf (.var i) e∧Snd X cf (.peek i) e:=by
 refine onName_el h fun x pos h=>?_
 simp only [Bool.and_eq_true,beq_iff_eq] at h
 obtain ⟨⟨h1,h2⟩,h3⟩:=h
 obtain ⟨o1,o2,o3⟩:=okN_of h3
 exact ⟨snd_var h1 (visB_of h2) o1 o2,snd_peek h1 (visB_of h2) o1 o2⟩
theorem glB_of {x:Str} (h:glB X.env.scope.names x=true):Gl X x∧(x==("__debug__":Str))=false∧x≠"__name__":=by
 simp only [glB,Bool.and_eq_true,beq_iff_eq] at h
 obtain ⟨o1,o2,o3⟩:=okN_of h.2
 exact ⟨h.1,o1,o3⟩
theorem bltB_of (g:Good X k cf Gam) {x y:Str} (h:bltB Gam X.env.scope.names x y=true):x=y∧Gl X x∧(x==("__debug__":Str))=false∧x≠"__name__"∧X.mg x=none:=by
 simp only [bltB,Bool.and_eq_true,beq_iff_eq] at h
 obtain ⟨⟨h1,h2⟩,h3⟩:=h
 obtain ⟨a,b,c⟩:=glB_of h2
 exact ⟨h1,a,b,c,g.blts x (by simpa using h3)⟩
theorem ok_con (g:Good X k cf Gam) {p:PV} {e:Expr} (h:chkCon Gam X.env.scope.names p e=true):Snd X cf (.con p) e:=by
 rcases (Bool.or_eq_true _ _).mp h with h | h
 ·refine onConst_el h fun c j pos h'=>?_
  refine .plain ?_ (fun _=>rfl)
  cases c with
  | none=>cases pvB_eq (show pvB p .none=true from h');exact pe_con pe_non fun G=>rfl
  | bool b=>cases pvB_eq (show pvB p (.bool b)=true from h');exact pe_con pe_bl fun G=>rfl
  | int i=>cases pvB_eq (show pvB p (.int i)=true from h');exact pe_con pe_int fun G=>rfl
  | str x=>
   have h':(pvB p (.str x)&&PyData.strOk x&&decide (x.length≤16777216))=true:=h'
   simp only [Bool.and_eq_true,decide_eq_true_eq] at h'
   cases pvB_eq h'.1.1
   exact pe_con pe_str fun G=>⟨rfl,h'.1.2,h'.2⟩
  | float b=>cases h'
  | complex a b=>cases h'
  | bytes b=>cases h'
  | ellipsis=>cases h'
 ·refine onName_el h fun x pos h=>?_
  simp only [Bool.and_eq_true,List.any_eq_true,beq_iff_eq] at h
  obtain ⟨h1,c,hc,rfl,h3⟩:=h
  obtain ⟨gl,o1,o3⟩:=glB_of h1
  obtain ⟨u,v,hm,r,rp⟩:=g.consts c.1 c.2 hc
  rw [pvB_eq h3] at rp
  exact .plain (pe_con (pe_glob gl hm r o1) rp) (fun _=>rfl)
theorem isi_str:CallR X (.builtin "isinstance") (rIsi X.K .isStr "str"):=
 isi_ok (fun b e=>by cases e;rfl) (fun c b e=>by cases e;rfl) (fun c b e=>by cases e;rfl) (fun c b e=>by cases e;rfl) (fun c b e=>by cases e;rfl) (fun c b e=>by cases e;rfl) (fun p r e=>by cases p <;> first | (cases e;exact ⟨_,rfl⟩) | cases e) fun kvs r e=>by cases e
variable (IH:∀ ie e,f ie e=true→Snd X cf ie e)
include IH
theorem ok_args:∀ {a:E} {es:List Expr},chkA f a es=true→PA X es (tA cf X.K a)∧∃ n,argN a=some n∧n=es.length:=by
 intro a
 induction a with
 | nil=>
  intro es hc
  cases es with
  | nil=>exact ⟨snd_nil,0,rfl,rfl⟩
  | cons _ _=>exact nomatch (show false=true from hc)
 | cons h t _ iht=>
  intro es hc
  cases es with
  | nil=>exact nomatch (show false=true from hc)
  | cons e es=>
   have hc':(!isPeek h&&plainE e&&f h e&&chkA f t es)=true:=hc
   simp only [Bool.and_eq_true,Bool.not_eq_true'] at hc'
   obtain ⟨⟨⟨h1,h2⟩,h3⟩,h4⟩:=hc'
   obtain ⟨p,n,hn,hl⟩:=iht h4
   exact ⟨snd_cons (IH h e h3).pe p h1 h2,n+1,by rw [argN,hn];rfl,congrArg (·+1) hl⟩
 | _=>exact fun hc=>nomatch (show false=true from hc)
theorem ok_tup {a:E} {e:Expr} (h:chkTup f a e=true):Snd X cf (.tup a) e:=by
 refine onTup_el h fun es j pos h=>?_
 rw [Bool.and_eq_true] at h
 obtain ⟨p,n,hn,_⟩:=ok_args IH h.1
 rw [hn] at h
 exact snd_tup p hn (by simpa using h.2)
theorem ok_lst {a:E} {e:Expr} (h:chkLst f a e=true):Snd X cf (.lst a) e:=by
 refine onList_el h fun es pos h=>?_
 rw [Bool.and_eq_true] at h
 obtain ⟨p,n,hn,_⟩:=ok_args IH h.1
 rw [hn] at h
 exact snd_lst p hn (by simpa using h.2)
theorem cmp_ok (g:Good X k cf Gam) {o:Op2} {op:CmpOp} (h:cmpB o op=true):OpR X (compareOp op) (rOp2 X.K o)∧∀ p q r,opF2 o p q=some r→∃ b,r=.bool b:=by
 have hu:=g.units
 have bl:∀ (x:Option Bool) (f:Bool→Bool) (r:PV),bnd x (fun b=>some (PyData.bool (f b)))=some r→∃ b,r=.bool b:=fun x f r e=>by
  obtain ⟨b,_,e2⟩:=bnd_eq.mp e
  cases e2
  exact ⟨_,rfl⟩
 have ci:∀ (f:Int→Int→Bool) (p q r:PV),cmpI f p q=some r→∃ b,r=.bool b:=fun f p q r e=>by
  cases p <;> cases q <;> simp [cmpI,ltF] at e
  exact ⟨_,e.symm⟩
 have h':cmpO o=some op:=of_decide_eq_true h
 cases o with
 | eq=>cases (show some CmpOp.Eq=some op from h');exact ⟨s_eq hu,fun p q r e=>bl _ id r e⟩
 | ne=>cases (show some CmpOp.NotEq=some op from h');exact ⟨s_ne hu,fun p q r e=>bl _ not r e⟩
 | inn=>cases (show some CmpOp.In=some op from h');exact ⟨s_in hu,fun p q r e=>bl _ id r e⟩
 | gt=>cases (show some CmpOp.Gt=some op from h');exact ⟨s_gt,fun p q r e=>ci _ p q r e⟩
 | lt=>
  cases (show some CmpOp.Lt=some op from h')
  refine ⟨s_lt hu,fun p q r e=>?_⟩
  cases p <;> cases q <;> simp [cmpI,ltF] at e
  ·exact ⟨_,e.symm⟩
  ·obtain ⟨_,_,e⟩:=bnd_eq.mp e
   obtain ⟨_,_,e⟩:=bnd_eq.mp e
   cases e
   exact ⟨_,rfl⟩
 | _=>cases h'
theorem ok_twoa {o:Op2} {a b:E} {e:Expr} (h:chkTwoa f o a b e=true):Snd X cf (.op2 o a b) e:=by
 refine onBin_el h fun x op y pos h=>?_
 simp only [Bool.and_eq_true] at h
 obtain ⟨⟨h1,h2⟩,h3⟩:=h
 have A:=(IH a x h2).pe
 have B:=(IH b y h3).pe
 have h':binO o=some op:=of_decide_eq_true h1
 cases o with
 | add=>cases (show some Operator.Add=some op from h');exact snd_bin s_add A B
 | sub=>cases (show some Operator.Sub=some op from h');exact snd_bin s_sub A B
 | fdiv=>cases (show some Operator.FloorDiv=some op from h');exact snd_bin s_fdiv A B
 | mod=>cases (show some Operator.Mod=some op from h');exact snd_bin s_mod A B
 | mul=>cases (show some Operator.Mult=some op from h');exact snd_bin s_mul A B
 | _=>exact nomatch (show none=some op from h')
theorem ok_twob (g:Good X k cf Gam) {o:Op2} {a b:E} {e:Expr} (h:chkTwob f o a b e=true):Snd X cf (.op2 o a b) e:=by
 refine onCmp_el h fun x os ys pos h=>?_
 refine on1_el h fun op h=>?_
 refine on1_el h fun y h=>?_
 simp only [Bool.and_eq_true,Bool.not_eq_true'] at h
 obtain ⟨⟨⟨h1,h2⟩,h3⟩,h4⟩:=h
 obtain ⟨c1,c2⟩:=cmp_ok IH g h1
 exact snd_cmp c1 c2 (IH a x h3).pe (IH b y h4).pe h2
theorem ok_twoc (g:Good X k cf Gam) {o:Op2} {a b:E} {e:Expr} (h:chkTwoc f o a b e=true):Snd X cf (.op2 o a b) e:=by
 refine onSub_el h fun x y pos h=>?_
 simp only [Bool.and_eq_true,beq_iff_eq] at h
 obtain ⟨⟨⟨h1,h2⟩,h3⟩,h4⟩:=h
 subst h1
 exact snd_ix g.units (IH a x h3).pe (IH b y h4).pe h2
theorem ok_twod {o:Op2} {a b:E} {e:Expr} (h:chkTwod f o a b e=true):Snd X cf (.op2 o a b) e:=nomatch (show false=true from h)
theorem ok_twoe (g:Good X k cf Gam) {o:Op2} {a b:E} {e:Expr} (h:chkTwoe Gam X.env.scope.names f o a b e=true):Snd X cf (.op2 o a b) e:=nomatch (show false=true from h)
theorem ok_twof (g:Good X k cf Gam) {o:Op2} {a b:E} {e:Expr} (h:chkTwof f o a b e=true):Snd X cf (.op2 o a b) e:=by
 refine onCall_el h fun g1 as pos h=>?_
 refine onAttr_el h fun v m apos h=>?_
 refine on1_el h fun y h=>?_
 refine onName_el h fun x p h=>?_
 simp only [Bool.and_eq_true,beq_iff_eq] at h
 obtain ⟨⟨⟨⟨⟨rfl,rfl⟩,h3⟩,h4⟩,h5⟩,h6⟩:=h
 exact snd_idx g.units (IH _ _ h5).pe (IH _ _ h6).pe h3 rfl (by rw [h4];simp)
theorem ok_op2 (g:Good X k cf Gam) {o:Op2} {a b:E} {e:Expr} (h:chkOp2 Gam X.env.scope.names f o a b e=true):Snd X cf (.op2 o a b) e:=by
 have h':(chkTwoa f o a b e||chkTwob f o a b e||chkTwoc f o a b e||chkTwod f o a b e||chkTwoe Gam X.env.scope.names f o a b e||chkTwof f o a b e)=true:=h
 simp only [Bool.or_eq_true] at h'
 rcases h' with ((((h | h) | h) | h) | h) | h
 ·exact ok_twoa IH h
 ·exact ok_twob IH g h
 ·exact ok_twoc IH g h
 ·exact ok_twod IH h
 ·exact ok_twoe IH g h
 ·exact ok_twof IH g h
theorem ok_sset (g:Good X k cf Gam) {x:Str} {a:E} {y:Expr} {p pos:Pos} (h:chkSset Gam X.env.scope.names f x a y=true):Snd X cf (.op1 .sset a) (.Call (.Name x p) [y] [] pos):=nomatch (show false=true from h)
theorem ok_onea (g:Good X k cf Gam) {o:Op1} {a:E} {e:Expr} (h:chkOnea Gam X.env.scope.names f o a e=true):Snd X cf (.op1 o a) e:=by
 refine onCall_el h fun g1 as pos h=>?_
 refine onName_el h fun x p h=>?_
 refine on1_el h fun y hq=>?_
 clear h
 by_cases ho:(o==.sset)=true
 ·rw [if_pos ho] at hq
  cases eq_of_beq ho
  exact ok_sset IH g hq
 rw [if_neg ho] at hq
 simp only [Bool.and_eq_true] at hq
 obtain ⟨⟨h1,h2⟩,h3⟩:=hq
 have A:=(IH a y h3).pe
 cases hb:bltFn o with
 | none=>rw [hb] at h1;cases h1
 | some z=>
  rw [hb] at h1
  obtain ⟨rfl,gl,o1,o3,hm⟩:=bltB_of g (show bltB Gam X.env.scope.names x z=true from h1)
  cases o with
  | len=>cases (show some ("len":Str)=some x from hb);exact snd_callB s_len gl hm boot_len o3 o1 A h2
  | toTuple=>cases (show some ("tuple":Str)=some x from hb);exact snd_callT s_toTuple gl hm PyProof.Rows.boot_tuple o3 o1 A h2
  | toInt=>cases (show some ("int":Str)=some x from hb);exact snd_callT s_toInt gl hm PyProof.Rows.boot_int o3 o1 A h2
  | srt=>cases (show some ("sorted":Str)=some x from hb);exact snd_callB (s_srt g.units) gl hm boot_sorted o3 o1 A h2
  | _=>exact nomatch (show none=some x from hb)
theorem ok_oneb (g:Good X k cf Gam) {o:Op1} {a:E} {e:Expr} (h:chkOneb Gam X.env.scope.names f o a e=true):Snd X cf (.op1 o a) e:=by
 refine onCall_el h fun g1 as pos h=>?_
 refine onName_el h fun x p h=>?_
 refine on2_el h fun y u h=>?_
 refine onName_el h fun t p2 h=>?_
 simp only [Bool.and_eq_true] at h
 obtain ⟨⟨⟨h0,h1⟩,h2⟩,h3⟩:=h
 have A:=(IH a y h3).pe
 obtain ⟨rfl,gl0,_,_,hm0⟩:=bltB_of g h0
 cases hb:kindT o with
 | none=>rw [hb] at h1;cases h1
 | some z=>
  rw [hb] at h1
  obtain ⟨et,gl,o1,o3,hm⟩:=bltB_of g (show bltB Gam X.env.scope.names t z=true from h1)
  have fin:∀ {T:String},CallR X (.builtin "isinstance") (rIsi X.K o T)→bootBuiltins (T:Str)=some (.type T)→z=T→Snd X cf (.op1 o a) (.Call (.Name "isinstance" p) [y,.Name t p2] [] pos):=fun {T} hc hv ez=>by
   subst ez
   rw [et] at gl hm o3 o1 ⊢
   exact snd_isi hc gl0 hm0 gl hm hv o3 o1 A h2
  cases o with
  | isStr=>exact fin isi_str PyProof.Rows.boot_str (Option.some.inj hb).symm
  | _=>exact nomatch (show none=some z from hb)
theorem ok_onec {o:Op1} {a:E} {e:Expr} (h:chkOnec f o a e=true):Snd X cf (.op1 o a) e:=nomatch (show false=true from h)
theorem ok_oned {o:Op1} {a:E} {e:Expr} (h:chkOned f o a e=true):Snd X cf (.op1 o a) e:=nomatch (show false=true from h)
theorem ok_onee {o:Op1} {a:E} {e:Expr} (h:chkOnee f o a e=true):Snd X cf (.op1 o a) e:=by
 refine onCmp_el h fun y os cs pos h=>?_
 refine on1_el h fun op h=>?_
 refine on1_el h fun c h=>?_
 refine onConst_el h fun cc j p2 h=>?_
 simp only [Bool.and_eq_true,beq_iff_eq,decide_eq_true_eq] at h
 obtain ⟨⟨⟨hc,rfl⟩,rfl⟩,h2⟩:=h
 cases isNonC_of hc
 exact snd_is s_isN (.inl rfl) (IH a y h2).pe rfl
theorem ok_onef {o:Op1} {a:E} {e:Expr} (h:chkOnef f o a e=true):Snd X cf (.op1 o a) e:=nomatch (show false=true from h)
theorem ok_oneg (g:Good X k cf Gam) {o:Op1} {a:E} {e:Expr} (h:chkOneg Gam X.env.scope.names f o a e=true):Snd X cf (.op1 o a) e:=nomatch (show false=true from h)
theorem ok_op1 (g:Good X k cf Gam) {o:Op1} {a:E} {e:Expr} (h:chkOp1 Gam X.env.scope.names f o a e=true):Snd X cf (.op1 o a) e:=by
 have h':(chkOnea Gam X.env.scope.names f o a e||chkOneb Gam X.env.scope.names f o a e||chkOnec f o a e||chkOned f o a e||chkOnee f o a e||chkOnef f o a e||chkOneg Gam X.env.scope.names f o a e)=true:=h
 simp only [Bool.or_eq_true] at h'
 rcases h' with (((((h | h) | h) | h) | h) | h) | h
 ·exact ok_onea IH g h
 ·exact ok_oneb IH g h
 ·exact ok_onec IH h
 ·exact ok_oned IH h
 ·exact ok_onee IH h
 ·exact ok_onef IH h
 ·exact ok_oneg IH g h
theorem ok_part {ie:E} {e:Option Expr} (h:chkP f ie e=true):PO X e (tP cf X.K ie):=by
 cases e with
 | some e=>
  simp only [chkP,Bool.and_eq_true,Bool.not_eq_true'] at h
  exact part_some (IH ie e h.2).pe h.1
 | none=>
  cases ie with
  | con p=>
   cases p with
   | none=>exact part_none
   | _=>simp [chkP] at h
  | _=>simp [chkP] at h
theorem ok_sl {a lo hi:E} {e:Expr} (h:chkSl f a lo hi e=true):Snd X cf (.sl a lo hi) e:=by
 refine onSub_el h fun x sl pos h=>?_
 refine onSlice_el h fun l hh st p1 h=>?_
 simp only [Bool.and_eq_true] at h
 cases isN_of h.1.1.1
 exact snd_sl (IH _ _ h.1.1.2).pe (ok_part IH h.1.2) (ok_part IH h.2)
theorem ok_call (g:Good X k cf Gam) {id:Nat} {a:E} {e:Expr} (h:chkCall Gam X.env.scope.names f id a e=true):Snd X cf (.call id a) e:=by
 refine onCall_el h fun g1 as pos h=>?_
 refine onName_el h fun x p h=>?_
 refine onCons_el h fun y ys h=>?_
 simp only [Bool.and_eq_true,List.any_eq_true,beq_iff_eq] at h
 obtain ⟨⟨⟨⟨h1,h2⟩,h3⟩,h4⟩,r,hr,⟨h5,h6⟩,h7⟩:=h
 obtain ⟨gl,o1,o3⟩:=glB_of h1
 obtain ⟨x',id',n'⟩:=r
 dsimp only at h5 h6 h7
 subst h5 h6
 obtain ⟨fa,fd,ps,hl,hm,hk,hb,F⟩:=g.fns x' id' n' hr
 obtain ⟨pa,_⟩:=ok_args IH h4
 exact snd_call F g.room gl hm hk hb pa (by rw [h7,hl]) o1 h2 h3
theorem ok_bool:∀ {op:BoolOp} {ie:E} {es:List Expr} {pos:Pos},chkB f op ie es=true→SndB X cf op ie es pos
 | op,ie,[e],pos,h=>by
  have h':f ie e=true:=by
   unfold chkB at h
   exact h
  exact sndb_one (IH ie e h')
 | op,ie,e::e2::r,pos,h=>by
  cases ie with
  | and a b=>
   simp only [chkB,Bool.and_eq_true,Bool.not_eq_true',beq_iff_eq] at h
   obtain ⟨⟨⟨⟨rfl,h1⟩,h2⟩,h3⟩,h4⟩:=h
   exact sndb_and (IH a e h3) h1 (ok_bool h4) h2
  | or a b=>
   simp only [chkB,Bool.and_eq_true,Bool.not_eq_true',beq_iff_eq] at h
   obtain ⟨⟨⟨⟨rfl,h1⟩,h2⟩,h3⟩,h4⟩:=h
   exact sndb_or (IH a e h3) h1 (ok_bool h4) h2
  | _=>simp [chkB] at h
 | op,ie,[],pos,h=>by cases ie <;> simp [chkB] at h
theorem ok_and {a b:E} {e:Expr} (h:chkAnd f a b e=true):Snd X cf (.and a b) e:=by
 refine onBool_el h fun o xs pos h=>?_
 rw [Bool.and_eq_true] at h
 cases eq_of_beq h.1
 exact (ok_bool IH h.2).snd
theorem ok_or {a b:E} {e:Expr} (h:chkOr f a b e=true):Snd X cf (.or a b) e:=by
 refine onBool_el h fun o xs pos h=>?_
 rw [Bool.and_eq_true] at h
 cases eq_of_beq h.1
 exact (ok_bool IH h.2).snd
theorem ok_not {a:E} {e:Expr} (h:chkNot f a e=true):Snd X cf (.not a) e:=by
 refine onUn_el h fun u x pos h=>?_
 rw [Bool.and_eq_true] at h
 cases isNotU_of h.1
 exact snd_not (IH _ _ h.2)
theorem ok_ite {c a b:E} {e:Expr} (h:chkIte f c a b e=true):Snd X cf (.ite c a b) e:=by
 refine onIfE_el h fun t x y pos h=>?_
 simp only [Bool.and_eq_true,Bool.not_eq_true'] at h
 obtain ⟨⟨⟨⟨h1,h2⟩,h3⟩,h4⟩,h5⟩:=h
 refine ⟨snd_ite (IH _ _ h1) (IH _ _ h2) (IH _ _ h3) h4 h5,fun pins s σ H Q I hq=>?_⟩
 obtain ⟨G,ρ,p,d,S,e,et,k⟩:=hq
 obtain ⟨z,e1,e2⟩:=bnd_eq.mp (show bnd (evE cf c ρ) (fun x=>bnd (truthF x) fun t=>DD.tst t (evE cf a ρ) (evE cf b ρ))=some p from e)
 obtain ⟨w,e3,e4⟩:=bnd_eq.mp e2
 refine isTrue_IfExp (thn ((IH _ _ h1).pt pins s σ H (fun v H1=>v=w∧∃ G1,Ext G H G1 H1) I ⟨G,ρ,z,w,S,e1,e3,fun G1 H1 x1=>⟨rfl,G1,x1⟩⟩) fun v s1 ⟨H1,I1,hv,G1,x1⟩=>?_)
 subst hv
 cases v with
 | true=>exact (IH _ _ h2).pt pins s1 σ H1 Q I1 ⟨G1,ρ,p,d,S.ext x1,e4,et,fun G2 H2 x2=>k G2 H2 (x1.trans x2)⟩
 | false=>exact (IH _ _ h3).pt pins s1 σ H1 Q I1 ⟨G1,ρ,p,d,S.ext x1,e4,et,fun G2 H2 x2=>k G2 H2 (x1.trans x2)⟩
theorem ok_dct {ks:List PV} {a:E} {e:Expr} (h:chkDct f ks a e=true):Snd X cf (.dct ks a) e:=by
 refine onDict_el h fun es vs pos h=>?_
 simp only [Bool.and_eq_true,Bool.not_eq_true',decide_eq_true_eq] at h
 obtain ⟨⟨⟨h1,h2⟩,h3⟩,h4⟩:=h
 exact snd_dct IH h1 h2 (by intro z;rw [z] at h3;cases h3) h4
theorem ok_dgt (g:Good X k cf Gam) {a b d:E} {e:Expr} (h:chkDgt f a b d e=true):Snd X cf (.dgt a b d) e:=nomatch (show false=true from h)
theorem ok_lrep {a n:E} {e:Expr} (h:chkLrep f a n e=true):Snd X cf (.lrep a n) e:=nomatch (show false=true from h)
theorem ok_chain (g:Good X k cf Gam) {o o':Op2} {a b c:E} {e:Expr} (h:chkChain f o o' a b c e=true):Snd X cf (.chain o o' a b c) e:=nomatch (show false=true from h)
theorem ok_itera (g:Good X k cf Gam) {tg:Expr} {ie:E} {e:Expr} (h:chkIa Gam X.env.scope.names f ie e=true):PI X tg e (tI cf X.K ie):=by
 obtain ⟨a,ha,h⟩:=onSo_of h
 cases rngE_of ha
 refine onCall_el h fun g1 as pos h=>?_
 refine onName_el h fun x p h=>?_
 refine on1_el h fun y h=>?_
 simp only [Bool.and_eq_true,Bool.not_eq_true'] at h
 obtain ⟨⟨⟨h1,h2⟩,h3⟩,h4⟩:=h
 obtain ⟨rfl,gl,_,_,hm⟩:=bltB_of g h1
 exact it_rng (IH _ _ h4).pe h2 h3 gl hm
theorem ok_iterb (g:Good X k cf Gam) {tg:Expr} {ie:E} {e:Expr} (h:chkIb Gam X.env.scope.names f tg ie e=true):PI X tg e (tI cf X.K ie):=by
 obtain ⟨a,ha,h⟩:=onSo_of h
 cases enmE_of ha
 refine onCall_el h fun g1 as pos h=>?_
 refine onName_el h fun x p h=>?_
 refine on1_el h fun y h=>?_
 simp only [Bool.and_eq_true,Bool.not_eq_true'] at h
 obtain ⟨⟨⟨⟨h5,h1⟩,h2⟩,h3⟩,h4⟩:=h
 obtain ⟨rfl,gl,_,_,hm⟩:=bltB_of g h1
 refine onTup_el h5 fun es j tp _=>?_
 exact it_enumT (IH _ _ h4).pe h2 h3 gl hm
theorem ok_iter (g:Good X k cf Gam) {tg:Expr} {ie:E} {e:Expr} (h:chkI Gam X.env.scope.names f tg ie e=true):PI X tg e (tI cf X.K ie):=by
 have h':(chkIa Gam X.env.scope.names f ie e||chkIb Gam X.env.scope.names f tg ie e||(!isPeek ie&&notSet e&&f ie e))=true:=h
 simp only [Bool.or_eq_true] at h'
 rcases h' with (h | h) | h
 ·exact ok_itera IH g h
 ·exact ok_iterb IH g h
 ·simp only [Bool.and_eq_true,Bool.not_eq_true'] at h
  exact it_seq (IH _ _ h.2).pe h.1.1
theorem folded_of {e:Expr} {env:PySem.Env} (h:notSet e=true):∀ x,foldedSetIterable e env x=pure x:=foldedSet_of (by cases e <;> first | rfl | exact absurd (show false=true from h) Bool.false_ne_true)
end
theorem Good.blk {X X':Cx} {k:Nat} {cf:CF} {Gam:Info} {N':List Str} {scope:Scope} (g:Good X k cf Gam) (b:Blk X N' scope X'):Good X' k cf Gam:=by
 refine ⟨b.calm,b.xe,by rw [b.A];exact g.room,fun x id n h=>?_,fun x p h=>?_,fun x h=>by rw [b.mg];exact g.blts x h,fun x kvs h=>?_⟩
 ·obtain ⟨fa,fd,ps,h1,h2,h3,h4,h5⟩:=g.fns x id n h
  exact ⟨fa,fd,ps,h1,by rw [b.mg];exact h2,by rw [b.K];exact h3,by rw [b.K];exact h4,by rw [b.prog,b.w,b.K,b.mg,b.base];exact h5⟩
 ·obtain ⟨u,v,h1,h2,h3⟩:=g.consts x p h
  exact ⟨u,v,by rw [b.mg];exact h1,h2,by rw [b.K];exact h3⟩
 ·obtain ⟨a,l,vs,h1,h2,h3,h4⟩:=g.dcts x kvs h
  exact ⟨a,l,vs,by rw [b.mg];exact h1,by rw [b.K];exact h2,h3,by rw [b.K,b.prog,b.w];exact h4⟩
theorem relB_eq {scope:Scope} {env:PySem.Env} (hk:env.scope.kind=.function):(relabel scope env).names=relB env.scope.names scope.names:=by
 unfold relabel relB
 dsimp only
 congr 1
 funext x
 obtain ⟨n,k⟩:=x
 dsimp only
 have e:(env.scope.kind==.function)=true:=by rw [hk];rfl
 rw [e,Bool.and_true]
 rfl
theorem relB_cell {nm names:Nms} {x:Str} (h:names.lookup x=some .cell):(relB nm names).lookup x=some .cell:=by
 unfold relB
 have:=lookup_map (fun (y:Str×NameKind)=>match y with | (n,k)=>if (k==.free&&nm.lookup n==some .cell) then (n,NameKind.cell) else (n,k)) (fun n k=>by dsimp only;split <;> rfl) names x
 refine this.trans ?_
 rw [h]
 rfl
theorem relB_local {nm names:Nms} {x:Str} (h:names.lookup x=some .local):(relB nm names).lookup x=some .local:=by
 unfold relB
 have:=lookup_map (fun (y:Str×NameKind)=>match y with | (n,k)=>if (k==.free&&nm.lookup n==some .cell) then (n,NameKind.cell) else (n,k)) (fun n k=>by dsimp only;split <;> rfl) names x
 refine this.trans ?_
 rw [h]
 rfl
theorem names_of:∀ {es:List Expr} {own:List Str},(es.mapM fun e=>match e with | .Name x _=>some x | _=>none)=some own→∃ ps:List Pos,ps.length=own.length∧es=(own.zip ps).map fun q=>Expr.Name q.1 q.2
 | [],own,h=>by
  cases (show some []=some own from h)
  exact ⟨[],rfl,rfl⟩
 | e::es,own,h=>by
  rw [List.mapM_cons] at h
  cases e with
  | Name x pos=>
   cases hm:(es.mapM fun e=>match e with | .Name x _=>some x | _=>none) with
   | none=>rw [hm] at h;cases h
   | some r=>
    rw [hm] at h
    cases (show some (x::r)=some own from h)
    obtain ⟨ps,h1,h2⟩:=names_of hm
    exact ⟨pos::ps,by simp [h1],by rw [h2];rfl⟩
  | _=>cases h
section
variable {X':Cx}
noncomputable def gNames:Nat→Nat→TGs
 | _,0=>gNil
 | i,n+1=>gCons (gName i) (gNames (i+1) n)
theorem pg_names {N:List Str} (hN:X'.N.Nodup):∀ (own:List Str) (ps:List Pos) (i:Nat),ps.length=own.length→(∀ (j:Nat) (x:Str),own[j]?=some x→X'.N[i+j]?=some x∧Loc X'.env.scope x∧(X'.fn x=true∨X'.env.scope.names.lookup x=some .local))→
  PGs X' ((own.zip ps).map fun q=>Expr.Name q.1 q.2) (gNames i own.length)
 | [],ps,i,hl,h=>by
  have:ps=[]:=List.length_eq_zero_iff.mp hl
  subst this
  exact pgs_nil
 | x::own,[],i,hl,h=>by cases hl
 | x::own,p::ps,i,hl,h=>by
  obtain ⟨h1,h2,h3⟩:=h 0 x rfl
  refine pgs_cons (pg_name hN h1 h2 h3) (pg_names (N:=N) hN own ps (i+1) (by simpa using hl) fun j y e=>?_) rfl
  have:=h (j+1) y (by simpa using e)
  rw [show i+(j+1)=i+1+j from by lia] at this
  exact this
theorem gNames_ok {Q:St→Hp→Prop} {H:Hp}:∀ (vs:List V) (σ:St) (i:Nat),i+vs.length≤σ.length→Q (σ.take i++(vs.map some++σ.drop (i+vs.length))) H→gNames i vs.length vs σ H Q
 | [],σ,i,hl,h=>by
  refine ⟨rfl,?_⟩
  have e:σ.take i++(([]:List V).map some++σ.drop (i+([]:List V).length))=σ:=by simp
  rw [e] at h
  exact h
 | v::vs,σ,i,hl,h=>by
  refine ⟨v,vs,rfl,gNames_ok vs (σ.set i (some v)) (i+1) (by simp at hl ⊢;lia) ?_⟩
  have hi:i<σ.length:=by simp at hl;lia
  have e:(σ.set i (some v)).take (i+1)++(vs.map some++(σ.set i (some v)).drop (i+1+vs.length))=σ.take i++((v::vs).map some++σ.drop (i+(v::vs).length)):=by
   rw [List.take_succ_eq_append_getElem (by simpa using hi),List.take_set_of_le (Nat.le_refl _),List.getElem_set_self,List.drop_set_of_lt (by lia),List.append_assoc]
   simp [show i+1+vs.length=i+(vs.length+1) from by lia]
  rw [e]
  exact h
end
structure CompOk (X:Cx) (cf:CF) (tg:Option Nat) (caps:List Nat) (it cond elt:E) (y tgt iter:Expr) (ifs:List Expr) (scope:Scope) (own:List Str):Prop where
 cs:CScope X own caps scope
 hd:caps.Nodup
 hown:own.length=tg.getD 1
 hpk:isPeek elt=false
 hit:PI X tgt iter (tI cf X.K it)
 hfs:∀ x,foldedSetIterable iter X.env x=pure x
 B:BlkOk X cf own caps scope tg tgt ifs y cond elt
section
variable {X:Cx} {cf:CF} {k:Nat} {Gam:Info} {f:E→Expr→Bool} {gB:List Str→Nms→E→Expr→Bool}
theorem comp_data (g:Good X k cf Gam) (hkind:X.env.scope.kind=.function) (IH:∀ ie e,f ie e=true→Snd X cf ie e)
  (IHB:∀ X',Good X' k cf Gam→X'.env.scope.kind=.function→∀ ie e,gB X'.N X'.env.scope.names ie e=true→Snd X' cf ie e) {tg:Option Nat} {caps:List Nat} {it cond elt:E} {y tgt iter:Expr} {ifs:List Expr} {z:Int} {scope:Scope} {pos:Pos}
  (h:chkComp Gam X.N X.env.scope.names f gB tg caps it cond elt (.ListComp y [⟨tgt,iter,ifs,z⟩] scope pos)=true):z=0∧∃ own,CompOk X cf tg caps it cond elt y tgt iter ifs scope own:=by
 obtain ⟨own,hn,hq⟩:=onSo_of (show onSo (tgNames tg tgt) _=true from h)
 ·simp only [Bool.and_eq_true,beq_iff_eq,Bool.not_eq_true'] at hq
  obtain ⟨⟨⟨⟨⟨⟨h1,h2⟩,h3⟩,h4⟩,h5⟩,h6⟩,h7⟩:=hq
  refine ⟨h1,own,?_⟩
  simp only [scopeB,Bool.and_eq_true,beq_iff_eq,List.all_eq_true,Bool.or_eq_true,bne_iff_ne,decide_eq_true_eq] at h2
  obtain ⟨⟨⟨⟨⟨⟨⟨s1,s2⟩,s3⟩,s4⟩,s5⟩,s6⟩,s7⟩,s8⟩:=h2
  have cs:CScope X own caps scope:=by
   refine ⟨s1,fun x hx e=>?_,fun x hx e=>?_,fun x hx e=>?_,fun j hj=>?_⟩
   ·rcases s2 x hx with q | q
    ·exact absurd e q
    ·exact q
   ·rcases s3 x hx with q | q
    ·exact absurd e q
    ·exact q
   ·rcases s4 x hx with (q | q) | q
    ·exact absurd e q
    ·exact .inl q
    ·exact .inr q
   ·have:=s5 j hj
    cases q:X.N[j]? with
    | none=>rw [q] at this;cases this
    | some y=>
     rw [q] at this
     simp only [Bool.and_eq_true,beq_iff_eq] at this
     exact ⟨y,rfl,visB_of this.1,this.2⟩
  have hown:own.length=tg.getD 1:=by
   cases tg with
   | none=>
    cases tgt with
    | Name x p=>cases (show some [x]=some own from hn);rfl
    | _=>cases hn
   | some n=>
    cases tgt with
    | Tuple es j p=>
     simp only [tgNames] at hn
     split at hn
     ·rename_i hl
      obtain ⟨ps,h1,h2⟩:=names_of hn
      have:es.length=own.length:=by rw [h2];simp [h1]
      rw [← this];exact hl
     ·cases hn
    | _=>cases hn
  have kx:∀ X',Blk X (namesC X own caps) scope X'→X'.N=own++caps.map (fun j=>X.N.getD j "")∧X'.env.scope.names=relB X.env.scope.names scope.names∧X'.env.scope.kind=.function:=fun X' b=>
   ⟨b.N,by rw [b.sc];exact relB_eq hkind,by rw [b.sc];exact s1⟩
  refine ⟨cs,s6,hown,h5,ok_iter IH g h4,folded_of IH h3,⟨fun X' b=>?_,fun X' b=>?_,fun X' b=>?_⟩⟩
  ·obtain ⟨kN,kS,kK⟩:=kx X' b
   have nd:X'.N.Nodup:=by rw [kN];exact s8
   have pl:∀ (j:Nat) (x:Str),own[j]?=some x→X'.N[0+j]?=some x∧Loc X'.env.scope x∧(X'.fn x=true∨X'.env.scope.names.lookup x=some .local):=fun j x e=>by
    refine ⟨?_,?_⟩
    ·rw [kN,Nat.zero_add,List.getElem?_append_left (List.getElem?_eq_some_iff.mp e).1];exact e
    ·rcases (s7 x (List.mem_of_getElem? e)).1 with z | z
     ·have z':X'.env.scope.names.lookup x=some .local:=by rw [kS];exact relB_local z
      exact ⟨.inl z',.inr z'⟩
     ·exact ⟨.inr (by rw [kS];exact relB_cell z),.inl (by rw [b.fn];exact beq_iff_eq.mpr z)⟩
   cases tg with
   | none=>
    cases tgt with
    | Name x p=>
     cases (show some [x]=some own from hn)
     obtain ⟨p1,p2,p3⟩:=pl 0 x rfl
     have pg:=pg_name (pos:=p) nd p1 p2 p3
     intro pins s σ H v u Q I r hq
     obtain ⟨hl,_,hq⟩:=hq
     refine pg pins s σ H v u Q I r ?_
     show Q (σ.set 0 (some v)) H
     cases σ with
     | nil=>cases hl
     | cons o σ=>exact hq
    | _=>cases hn
   | some n=>
    cases tgt with
    | Tuple es j p=>
     simp only [tgNames] at hn
     split at hn
     ·rename_i hl
      obtain ⟨ps,l1,l2⟩:=names_of hn
      have hes:es.length=own.length:=by rw [l2];simp [l1]
      have pgs:=pg_names (N:=X'.N) nd own ps 0 l1 pl
      rw [← l2] at pgs
      have as1:∀ (l:List Expr) (qs:List Pos) (ow:List Str),qs.length=ow.length→l=(ow.zip qs).map (fun q=>Expr.Name q.1 q.2)→(assignEach l X'.env).length=l.length∧(assignEach l X'.env).findIdx? (·.1)=none:=by
       intro l
       induction l with
       | nil=>intro _ _ _ _;exact ⟨rfl,rfl⟩
       | cons e l ih=>
        intro qs ow hq he
        cases ow with
        | nil=>cases he
        | cons w ow=>
         cases qs with
         | nil=>cases hq
         | cons q qs=>
          cases he
          obtain ⟨i1,i2⟩:=ih qs ow (by simpa using hq) rfl
          refine ⟨?_,?_⟩
          ·show ((assignEach _ X'.env).length+1)=_
           rw [i1];rfl
          ·show List.findIdx? _ ((false,_)::assignEach _ X'.env)=none
           rw [List.findIdx?_cons,i2]
           rfl
      obtain ⟨a1,a2⟩:=as1 es ps own l1 l2
      have pg:=pg_tup (X:=X') (pos:=p) (k:=j) b.calm pgs (a1.trans hl) a2
      intro pins s σ H v u Q I r hq
      obtain ⟨hlen,a,xs,rfl,q,lx,_,hq⟩:=hq
      refine pg pins s σ H _ u Q I r ⟨a,xs,rfl,by rw [b.K];exact q,lx,?_⟩
      have eo:own.length=xs.length:=by lia
      rw [eo] at hlen hq ⊢
      exact gNames_ok xs σ 0 (by lia) (by simpa using hq)
     ·cases hn
    | _=>cases hn
  ·obtain ⟨kN,kS,kK⟩:=kx X' b
   intro pins s σ H Q I hq
   have e1:=b.prog
   have e2:=b.w
   have e3:=b.A
   cases ifs with
   | nil=>
    obtain ⟨G,ρ,p,t,S,e,et,kq⟩:=hq
    have h8:isTrueC cond=true:=by
     rcases (Bool.or_eq_true _ _).mp h7 with z | z
     ·exact z
     ·exact nomatch (show false=true from z)
    cases isTrueC_of h8
    cases (show some (PyData.bool true)=some p from e)
    have et':true=t:=Option.some.inj et
    subst et'
    exact wpAny_tests_nil ⟨H,I,kq G H (.refl S.sub)⟩
   | cons c cs'=>
    have h8:on1 (c::cs') (fun c=>gB (own++caps.map fun j=>X.N.getD j "") (relB X.env.scope.names scope.names) cond c)=true:=by
     rcases (Bool.or_eq_true _ _).mp h7 with z | z
     ·exact nomatch (show false=true from z)
     ·exact z
    cases cs' with
    | nil=>
     have sn:=IHB X' (g.blk b) kK cond c (by rw [kN,kS];exact h8)
     have:=sn.pt pins s σ H Q I (by rw [b.K];exact hq)
     rw [e1,e2,e3,b.xe] at this
     exact wpAny_tests_one this
    | cons _ _=>exact nomatch (show false=true from h8)
  ·obtain ⟨kN,kS,kK⟩:=kx X' b
   have:=(IHB X' (g.blk b) kK elt y (by rw [kN,kS];exact h6)).pe
   rw [b.K] at this
   exact this
theorem comp_form {tg:Option Nat} {caps:List Nat} {it cond elt:E} {N:List Str} {nm:Nms} {P:Expr→Prop} {e:Expr} (H:∀ y q scope pos,chkComp Gam N nm f gB tg caps it cond elt (.ListComp y [q] scope pos)=true→P (.ListComp y [q] scope pos)) (h:chkComp Gam N nm f gB tg caps it cond elt e=true):P e:=by
 have h0:=h
 revert h0
 refine onLC_el h fun y gs scope pos h=>?_
 refine on1_el h fun q _ h0=>?_
 exact H y q scope pos h0
theorem ok_comp (g:Good X k cf Gam) (hkind:X.env.scope.kind=.function) (IH:∀ ie e,f ie e=true→Snd X cf ie e)
  (IHB:∀ X',Good X' k cf Gam→X'.env.scope.kind=.function→∀ ie e,gB X'.N X'.env.scope.names ie e=true→Snd X' cf ie e) {tg:Option Nat} {caps:List Nat} {it cond elt:E} {e:Expr}
  (h:chkComp Gam X.N X.env.scope.names f gB tg caps it cond elt e=true):Snd X cf (.comp tg caps it cond elt) e:=by
 refine comp_form (P:=fun e=>Snd X cf (.comp tg caps it cond elt) e) (fun y q scope pos h=>?_) h
 obtain ⟨tgt,iter,ifs,z⟩:=q
 obtain ⟨rfl,own,c⟩:=comp_data g hkind IH IHB h
 exact .plain (pe_comp g.calm c.cs c.hd c.hown c.hpk c.hit c.hfs c.B) (fun _=>rfl)
end
theorem chk_ok {cf:CF} {k:Nat} {Gam:Info}:∀ (n:Nat) (X:Cx),Good X k cf Gam→X.env.scope.kind=.function→∀ ie e,chkE Gam n X.N X.env.scope.names ie e=true→Snd X cf ie e
 | 0,X,g,hk,ie,e,h=>by cases h
 | n+1,X,g,hk,ie,e,h=>by
  have IH:=chk_ok n X g hk
  have IHB:=fun X' g' hk'=>chk_ok (cf:=cf) (k:=k) (Gam:=Gam) n X' g' hk'
  cases ie with
  | var i=>exact (ok_var h).1
  | peek i=>exact (ok_var h).2
  | con p=>exact ok_con g h
  | nil=>cases h
  | cons _ _=>cases h
  | tup a=>exact ok_tup IH h
  | lst a=>exact ok_lst IH h
  | op1 o a=>exact ok_op1 IH g h
  | op2 o a b=>exact ok_op2 IH g h
  | sl a lo hi=>exact ok_sl IH h
  | call f a=>exact ok_call IH g h
  | and a b=>exact ok_and IH h
  | or a b=>exact ok_or IH h
  | not a=>exact ok_not IH h
  | ite c a b=>exact ok_ite IH h
  | chain o o' a b c=>exact ok_chain IH g h
  | comp tg caps it cond elt=>exact ok_comp g hk IH IHB h
  | rng _=>cases h
  | rng2 _ _=>cases h
  | dct ks a=>exact ok_dct IH h
  | dgt a b d=>exact ok_dgt IH g h
  | lrep a n=>exact ok_lrep IH h
  | skey _ _ _=>cases h
noncomputable def locB (nm:Nms) (x:Str):Bool:=nm.lookup x==some .local||nm.lookup x==some .cell
noncomputable def notComp:Expr→Bool
 | .ListComp ..=>false
 | .SetComp ..=>false
 | .DictComp ..=>false
 | _=>true
theorem swaps_no {e:Expr} (h:notComp e=true) (t:Option Expr) (l:Nat) (env:PySem.Env):swapsWith e t l env=pure false:=by
 cases e <;> first | rfl | exact absurd (show false=true from h) Bool.false_ne_true
theorem swaps_comp (y:Expr) (gs:List Comprehension) (scope:Scope) (pos p:Pos) (x:Str) (l:Nat) (env:PySem.Env):∃ b:Bool,swapsWith (.ListComp y gs scope pos) (some (.Name x p)) l env=pure b∧(b=true→env.kindOf x=some .local):=by
 refine ⟨env.blockKind==.function&&env.kindOf x==some .local&&p.line==(Expr.ListComp y gs scope pos).pos.line&&!(scope.names.any fun (n,k)=>n==x&&(k==.local||k==.cell)),rfl,fun h=>?_⟩
 simp only [Bool.and_eq_true,beq_iff_eq] at h
 exact h.1.1.2
section
variable (Gam:Info) (N:List Str) (nm:Nms) (f:E→Expr→Bool) (gB:List Str→Nms→E→Expr→Bool)
noncomputable def isLC:Expr→Bool
 | .ListComp ..=>true
 | _=>false
noncomputable def isCompE:E→Bool
 | .comp ..=>true
 | _=>false
noncomputable def lstE:E→Option E
 | .lst a=>some a
 | _=>none
noncomputable def setB (i:Nat) (ie:E) (x:Str) (v:Expr):Bool:=N[i]?==some x&&locB nm x&&!isPeek ie&&(notComp v||(isLC v&&isCompE ie))&&f ie v
noncomputable def tgN:List Nat→List Expr→Bool
 | [],[]=>true
 | i::is,e::es=>(onName e fun x _=>N[i]?==some x&&locB nm x)&&tgN is es
 | _,_=>false
noncomputable def tgB (t:Tg) (e:Expr):Bool:=match t with
 | .one i=>onName e fun x _=>N[i]?==some x&&locB nm x
 | .many is=>onTup e fun es _ _=>tgN N nm is es
noncomputable def chkS (fB:S→List Stmt→Bool) (is:S) (st:Stmt):Bool:=match is with
 | .set i ie=>onAsg st fun t v _=>onName t fun x _=>setB N nm f i ie x v
 | .own i ie=>onAsg st fun t v _=>onName t fun x _=>onList v fun es _=>N[i]?==some x&&locB nm x&&(lstE ie).any fun a=>chkA f a es&&(argN a).any (·≤1000)
 | .ret ie=>onRet st fun v=>!isPeek ie&&f ie v
 | .ife c a b=>onIfS st fun t x y=>f c t&&fB a x&&fB b y
 | .loop t it b=>onFor st fun tgt iter body=>tgB N nm t tgt&&notSet iter&&chkI Gam nm f tgt it iter&&fB b body
 | .app i ie=>onExS st fun e=>onCall e fun g as cpos=>onAttr g fun o m apos=>onName o fun x _=>on1 as fun v=>m=="append"&&N[i]?==some x&&visB nm x&&okN x&&!isPeek ie&&plainE v&&apos.endLine==cpos.line&&f ie v
 | .ext i ie=>onExS st fun e=>onCall e fun g as cpos=>onAttr g fun o m apos=>onName o fun x _=>on1 as fun v=>m=="extend"&&N[i]?==some x&&visB nm x&&okN x&&!isPeek ie&&plainE v&&apos.endLine==cpos.line&&f ie v
 | .nx=>isPass st
 | _=>false
end
noncomputable def chkSs (fS:S→Stmt→Bool):S→List Stmt→Bool
 | .nx,[]=>true
 | .seq (.frz _) b,sts=>chkSs fS b sts
 | .seq a b,st::rest=>fS a st&&chkSs fS b rest
 | a,[st]=>fS a st
 | _,_=>false
noncomputable def chkBody (Gam:Info) (m:Nat):Nat→List Str→Nms→S→List Stmt→Bool
 | 0,_,_,_,_=>false
 | n+1,N,nm,is,sts=>chkSs (chkS Gam N nm (chkE Gam m N nm) (chkBody Gam m n N nm)) is sts
section
variable {X:Cx} {cf:CF} {k:Nat} {Gam:Info} {m:Nat}
theorem locB_of {x:Str} (h:locB X.env.scope.names x=true):Loc X.env.scope x:=by
 simp only [locB,Bool.or_eq_true,beq_iff_eq] at h
 exact h
theorem ok_tgN (hN:X.N.Nodup) (hfn:∀ x,X.fn x=true):∀ {is:List Nat} {es:List Expr},tgN X.N X.env.scope.names is es=true→PGs X es (gMany is)∧(assignEach es X.env).length=is.length∧(assignEach es X.env).findIdx? (·.1)=none
 | [],[],_=>⟨pgs_nil,rfl,rfl⟩
 | i::is,[],h=>nomatch (show false=true from h)
 | [],_::_,h=>nomatch (show false=true from h)
 | i::is,e::es,h=>by
  obtain ⟨h1,h2⟩:=(Bool.and_eq_true _ _).mp (show ((onName e fun x _=>X.N[i]?==some x&&locB X.env.scope.names x)&&tgN X.N X.env.scope.names is es)=true from h)
  obtain ⟨q1,q2,q3⟩:=ok_tgN hN hfn h2
  clear h
  refine onName_el h1 fun x p h=>?_
  simp only [Bool.and_eq_true,beq_iff_eq] at h
  refine ⟨pgs_cons (pg_name hN h.1 (locB_of h.2) (.inl (hfn x))) q1 rfl,?_,?_⟩
  ·show (assignEach es X.env).length+1=is.length+1
   rw [q2]
  ·show List.findIdx? _ ((false,_)::assignEach es X.env)=none
   rw [List.findIdx?_cons,q3]
   rfl
theorem ok_tgB (hc:X.calm=true) (hN:X.N.Nodup) (hfn:∀ x,X.fn x=true) {t:Tg} {e:Expr} (h:tgB X.N X.env.scope.names t e=true):PG X e (gS X.K t):=by
 cases t with
 | one i=>
  refine onName_el (show onName e _=true from h) fun x p h=>?_
  simp only [Bool.and_eq_true,beq_iff_eq] at h
  exact pg_name hN h.1 (locB_of h.2) (.inl (hfn _))
 | many is=>
  refine onTup_el (show onTup e _=true from h) fun es j p h=>?_
  obtain ⟨q1,q2,q3⟩:=ok_tgN hN hfn h
  exact pg_tup hc q1 q2 q3
theorem isLC_el {v:Expr} {P:Expr→Prop} (h:isLC v=true) (H:∀ y gs scope pos,P (.ListComp y gs scope pos)):P v:=by
 cases v with
 | ListComp y gs scope pos=>exact H y gs scope pos
 | _=>exact nomatch (show false=true from h)
theorem isCompE_el {ie:E} {P:E→Prop} (h:isCompE ie=true) (H:∀ tg caps it cond elt,P (.comp tg caps it cond elt)):P ie:=by
 cases ie with
 | comp tg caps it cond elt=>exact H tg caps it cond elt
 | _=>exact nomatch (show false=true from h)
theorem lstE_of {ie a:E} (h:lstE ie=some a):ie=.lst a:=by
 cases ie with
 | lst b=>cases (show some b=some a from h);rfl
 | _=>exact nomatch (show none=some a from h)
theorem ok_setS (g:Good X k cf Gam) (hk:X.env.scope.kind=.function) (hN:X.N.Nodup) (hfn:∀ x,X.fn x=true) {i:Nat} {ie:E} {x:Str} {v:Expr} {p pos:Pos} (h:setB X.N X.env.scope.names (chkE Gam (m+1) X.N X.env.scope.names) i ie x v=true):
  PS X (.Assign [.Name x p] v pos) (tS cf X.K (.set i ie)):=by
 simp only [setB,Bool.and_eq_true,beq_iff_eq,Bool.not_eq_true',Bool.or_eq_true] at h
 obtain ⟨⟨⟨⟨h1,h2⟩,h3⟩,h4⟩,h5⟩:=h
 rcases h4 with hc | ⟨hl,hi⟩
 ·exact st_set hN h1 (locB_of h2) (.inl (hfn x)) (chk_ok (cf:=cf) (k:=k) (Gam:=Gam) (m+1) X g hk ie v h5).pe h3 (swaps_no hc _ _ _)
 ·revert h5;revert h3
  refine isLC_el (P:=fun v=>isPeek ie=false→chkE Gam (m+1) X.N X.env.scope.names ie v=true→PS X (.Assign [.Name x p] v pos) (tS cf X.K (.set i ie))) hl fun y gs scope cpos=>?_
  refine isCompE_el (P:=fun ie=>isPeek ie=false→chkE Gam (m+1) X.N X.env.scope.names ie (.ListComp y gs scope cpos)=true→PS X (.Assign [.Name x p] (.ListComp y gs scope cpos) pos) (tS cf X.K (.set i ie))) hi fun tg caps it cond elt=>?_
  intro h3 h5
  refine comp_form (P:=fun v=>PS X (.Assign [.Name x p] v pos) (tS cf X.K (.set i (.comp tg caps it cond elt)))) (fun y q scope cpos h=>?_) (show chkComp Gam X.N X.env.scope.names (chkE Gam m X.N X.env.scope.names) (chkE Gam m) tg caps it cond elt (.ListComp y gs scope cpos)=true from h5)
  obtain ⟨tgt,iter,ifs,z⟩:=q
  obtain ⟨rfl,own,c⟩:=comp_data g hk (chk_ok (cf:=cf) (k:=k) (Gam:=Gam) m X g hk) (fun X' g' hk'=>chk_ok (cf:=cf) (k:=k) (Gam:=Gam) m X' g' hk') h
  obtain ⟨b,sw,sl⟩:=swaps_comp _ [⟨tgt,iter,ifs,0⟩] _ _ p x pos.line X.env
  cases b with
  | false=>exact st_set hN h1 (locB_of h2) (.inl (hfn x)) (pe_comp g.calm c.cs c.hd c.hown c.hpk c.hit c.hfs c.B) h3 sw
  | true=>exact (ps_comp g.calm c.cs c.hd c.hown c.hpk c.hit c.hfs c.B hN h1 (sl rfl) sw).weak (asg_w rfl)
theorem ok_stmt (g:Good X k cf Gam) (hk:X.env.scope.kind=.function) (hN:X.N.Nodup) (hfn:∀ x,X.fn x=true) {fB:S→List Stmt→Bool} (IHB:∀ is sts,fB is sts=true→PSs X sts (tS cf X.K is)) {is:S} {st:Stmt}
  (h:chkS Gam X.N X.env.scope.names (chkE Gam (m+1) X.N X.env.scope.names) fB is st=true):PS X st (tS cf X.K is):=by
 have IH:=chk_ok (cf:=cf) (k:=k) (Gam:=Gam) (m+1) X g hk
 cases is with
 | set i ie=>
  refine onAsg_el (show onAsg st _=true from h) fun t v pos h=>?_
  refine onName_el h fun x p h=>?_
  exact ok_setS g hk hN hfn h
 | own i ie=>
  refine onAsg_el (show onAsg st _=true from h) fun t v pos h=>?_
  refine onName_el h fun x p h=>?_
  refine onList_el h fun es lp h=>?_
  simp only [Bool.and_eq_true,beq_iff_eq] at h
  obtain ⟨⟨h1,h2⟩,h3⟩:=h
  cases hl:lstE ie with
  | none=>rw [hl] at h3;exact nomatch (show false=true from h3)
  | some a=>
   rw [hl] at h3
   cases lstE_of hl
   obtain ⟨h4,h5⟩:=(Bool.and_eq_true _ _).mp (show (chkA (chkE Gam (m+1) X.N X.env.scope.names) a es&&(argN a).any (·≤1000))=true from h3)
   obtain ⟨pa,n,hn,_⟩:=ok_args IH h4
   rw [hn] at h5
   exact st_own hN h1 (locB_of h2) (.inl (hfn x)) pa hn (by simpa using h5)
 | ret ie=>
  refine onRet_el (show onRet st _=true from h) fun v pos h=>?_
  simp only [Bool.and_eq_true,Bool.not_eq_true'] at h
  exact st_ret (IH _ _ h.2).pe h.1
 | ife c a b=>
  refine onIfS_el (show onIfS st _=true from h) fun t x y pos h=>?_
  simp only [Bool.and_eq_true] at h
  exact st_ife (IH _ _ h.1.1).pt (IHB _ _ h.1.2) (IHB _ _ h.2)
 | loop t it b=>
  refine onFor_el (show onFor st _=true from h) fun tgt iter body pos h=>?_
  simp only [Bool.and_eq_true] at h
  obtain ⟨⟨⟨h1,h2⟩,h3⟩,h4⟩:=h
  exact st_loop g.xe g.calm (ok_iter IH g h3) (ok_tgB g.calm hN hfn h1) (IHB _ _ h4) (folded_of IH h2)
 | app i ie=>
  refine onExS_el (show onExS st _=true from h) fun e pos h=>?_
  refine onCall_el h fun g1 as cpos h=>?_
  refine onAttr_el h fun o mm apos h=>?_
  refine onName_el h fun x p h=>?_
  refine on1_el h fun v h=>?_
  simp only [Bool.and_eq_true,beq_iff_eq,Bool.not_eq_true'] at h
  obtain ⟨⟨⟨⟨⟨⟨⟨h1,h2⟩,h3⟩,h4⟩,h5⟩,h6⟩,h7⟩,h8⟩:=h
  subst h1
  obtain ⟨o1,o2,o3⟩:=okN_of h4
  exact st_app h2 (visB_of h3) o1 o2 (IH _ _ h8).pe h5 h6 (by rw [h7];simp)
 | ext i ie=>
  refine onExS_el (show onExS st _=true from h) fun e pos h=>?_
  refine onCall_el h fun g1 as cpos h=>?_
  refine onAttr_el h fun o mm apos h=>?_
  refine onName_el h fun x p h=>?_
  refine on1_el h fun v h=>?_
  simp only [Bool.and_eq_true,beq_iff_eq,Bool.not_eq_true'] at h
  obtain ⟨⟨⟨⟨⟨⟨⟨h1,h2⟩,h3⟩,h4⟩,h5⟩,h6⟩,h7⟩,h8⟩:=h
  subst h1
  obtain ⟨o1,o2,o3⟩:=okN_of h4
  exact st_ext h2 (visB_of h3) o1 o2 (IH _ _ h8).pe h5 h6 (by rw [h7];simp)
 | nx=>obtain ⟨p,rfl⟩:=isPass_of h;exact st_pass
 | _=>exact nomatch (show false=true from h)
theorem ok_stmts {fS:S→Stmt→Bool} (IH:∀ is st,fS is st=true→PS X st (tS cf X.K is)):∀ (is:S) (sts:List Stmt),chkSs fS is sts=true→PSs X sts (tS cf X.K is):=by
 intro is
 induction is with
 | seq a b iha ihb=>
  intro sts h
  unfold chkSs at h
  split at h
  ·rename_i heq;cases heq
  ·rename_i i b' sts' heq
   injection heq with q1 q2
   subst q1 q2
   exact ss_frz (ihb _ h)
  ·rename_i a' b' st rest _ heq
   injection heq with q1 q2
   subst q1 q2
   simp only [Bool.and_eq_true] at h
   exact ss_cons (IH _ _ h.1) (ihb _ h.2)
  ·rename_i a' st hna _ _
   exact ss_one (IH _ _ h)
  ·cases h
 | nx=>
  intro sts h
  cases sts with
  | nil=>exact ss_nil
  | cons st rest=>
   cases rest with
   | nil=>exact ss_one (IH _ _ (by simpa [chkSs] using h))
   | cons _ _=>simp [chkSs] at h
 | _=>
  intro sts h
  cases sts with
  | nil=>simp [chkSs] at h
  | cons st rest=>
   cases rest with
   | nil=>exact ss_one (IH _ _ (by simpa [chkSs] using h))
   | cons _ _=>simp [chkSs] at h
theorem ok_body (g:Good X k cf Gam) (hk:X.env.scope.kind=.function) (hN:X.N.Nodup) (hfn:∀ x,X.fn x=true):∀ (n:Nat) (is:S) (sts:List Stmt),chkBody Gam (m+1) n X.N X.env.scope.names is sts=true→PSs X sts (tS cf X.K is)
 | 0,is,sts,h=>by cases h
 | n+1,is,sts,h=>ok_stmts (fun is st h=>ok_stmt (m:=m) g hk hN hfn (ok_body g hk hN hfn n) h) is sts h
end
theorem sr_start {K:PySem.W.Frag} {G H:Hp} {N:List Str} {F:Fn} {vs:List V} {ps:List PV} (s:Sub G H) (r:RpA K G ps vs) (h1:ps.length=F.np) (h2:N.length=F.ns) (h3:F.np≤F.ns):
  SR K G H (L2.start N vs) (DD.start F ps):=by
 have hl:=r.length
 have noown:∀ (i:Nat) (sl:Sl),(DD.start F ps)[i]?=some sl→isOwn sl=false:=fun i sl e=>by
  have hm:=List.mem_of_getElem? e
  simp only [DD.start,List.mem_append,List.mem_map,List.mem_replicate] at hm
  rcases hm with ⟨p,_,rfl⟩ | ⟨_,rfl⟩ <;> rfl
 refine ⟨?_,s,fun i sl o e1 e2=>?_,fun i j si sj a _ e1 _ o1 _ _=>?_⟩
 ·simp only [L2.start,DD.start,List.length_append,List.length_map,List.length_replicate]
  lia
 ·simp only [DD.start] at e1
  simp only [L2.start] at e2
  by_cases hi:i<ps.length
  ·rw [List.getElem?_append_left (by simpa using hi)] at e1
   rw [List.getElem?_append_left (by simpa using (by lia:i<vs.length))] at e2
   rw [List.getElem?_map] at e1 e2
   obtain ⟨p,ep⟩:∃ p,ps[i]?=some p:=⟨_,List.getElem?_eq_getElem hi⟩
   obtain ⟨v,ev,rv⟩:=r.get ep
   rw [ep] at e1;rw [ev] at e2
   cases e1;cases e2
   exact ⟨v,rfl,rv⟩
  ·have hm:sl∈List.replicate (F.ns - F.np) Sl.un:=by
    rw [List.getElem?_append_right (by simpa using hi)] at e1
    exact List.mem_of_getElem? e1
   rw [(List.mem_replicate.mp hm).2]
   trivial
 ·have:=noown i si e1
  rw [this] at o1;cases o1
structure DI where
 x:Str
 id:Nat
 st:Stmt
 N:List Str
 ps:List Str
structure Def1 (K:PySem.W.Frag) (mg:Str→Option Value) (T:Tab) (Gam:Info) (d:DI) (f:Addr) (fd:FuncData):Prop where
 F:Fun K d.x d.x d.st f fd
 b:Binds K fd d.ps []
 m:mg d.x=some (.ref f)
 S:FnScope d.N d.ps (defScope d.st)
 c:∃ B,T d.id=some B∧d.ps.length=B.np∧d.N.length=B.ns∧B.np≤B.ns∧chkBody Gam 200 200 d.N (defScope d.st).names B.body (defBody d.st)=true
theorem spD_len {K:PySem.W.Frag} {n:Nat} {r:List PV→Option PV}:∀ vs H Q E,spD K n r vs H Q E→vs.length=n:=fun _ _ _ _ h=>h.1
theorem all_ok {P:Program} {w:World} {K:PySem.W.Frag} {mg:Str→Option Value} {base:Heap} {T:Tab} {Gam:Info}
  (hf:∀ x id n,(x,id,n)∈Gam.fns→∃ d f fd,d.x=x∧d.id=id∧d.ps.length=n∧Def1 K mg T Gam d f fd)
  (hc:∀ x p,(x,p)∈Gam.consts→∃ u v,mg x=some u∧RelV v u∧∀ G,Rp K G p v) (hb:∀ x∈Gam.blts,mg x=none)
  (hd:∀ x kvs,(x,kvs)∈Gam.dcts→∃ a l vs,mg x=some (.ref a)∧(∀ G,RpD K G kvs l)∧KV l vs∧∀ h:Heap,K.In h→h.DictOf (mixKind P w) a vs):
  ∀ (k:Nat) (d:DI) (f:Addr) (fd:FuncData),Def1 K mg T Gam d f fd→FnOk P w K mg base CX0 k f fd d.ps (spD K d.ps.length (run T k d.id))
 | 0,d,f,fd,D=>⟨spD_len,fun A outer s H args us vs Q E hr e0 hbi hv hsp=>by
   obtain ⟨_,G,ps,p,_,_,e,_⟩:=hsp
   cases (show (none:Option PV)=some p from e)⟩
 | k+1,d,f,fd,D=>by
  obtain ⟨B,eB,n1,n2,n3,hchk⟩:=D.c
  refine D.F.ok D.S spD_len fun cdv A outer s H vs Q E hr hsp=>?_
  obtain ⟨hl,G,ps,p,sub,r,e,hQ⟩:=hsp
  have g:Good (cxOf CX0 P w K mg base d.N d.x (defScope d.st) f cdv A outer s H E).nox k (run T k) Gam:=by
   refine ⟨rfl,rfl,hr,fun x id n hm=>?_,hc,hb,hd⟩
   obtain ⟨d',f',fd',rfl,rfl,rfl,D'⟩:=hf x id n hm
   exact ⟨f',fd',d'.ps,rfl,D'.m,D'.F.kp,D'.b,all_ok hf hc hb hd k d' f' fd' D'⟩
  refine ⟨_,ok_body (m:=199) g D.S.kind D.S.nd (fun _=>rfl) 200 B.body (defBody d.st) hchk,?_⟩
  have hpl:ps.length=B.np:=by rw [r.length,hl,n1]
  have sr:=sr_start (N:=d.N) (F:=B) sub r hpl n2 n3
  unfold run at e
  rw [eB] at e
  simp only [hpl,if_true] at e
  cases ho:evS (run T k) B.body (DD.start B ps) with
  | none=>rw [ho] at e;cases e
  | some o=>
   rw [ho] at e
   refine ⟨G,H,G,DD.start B ps,o,⟨sr,.refl sub,fun i qs a e1 e2=>?_⟩,ho,?_⟩
   ·exfalso
    have hm:=List.mem_of_getElem? e1
    simp only [DD.start,List.mem_append,List.mem_map,List.mem_replicate] at hm
    rcases hm with ⟨p,_,z⟩ | ⟨_,z⟩ <;> cases z
   ·cases o with
    | rt q=>
     cases (show some q=some p from e)
     exact fun v G' H' x rv=>hQ v G' H' x rv
    | nx ρ=>
     cases (show some PyData.none=some p from e)
     exact fun σ G' H' T'=>hQ .non G' H' T'.ex rfl
    | bk ρ=>cases (show (none:Option PV)=some p from e)
    | ct ρ=>cases (show (none:Option PV)=some p from e)
theorem bindK (an:Option Expr) (ap:Pos) (name qual:Str) (body:Expr) (scope:Scope) (cl:List (Str×Addr)) (pm:Value) (c':Addr) (ctv u:Value):
  bindArgs (PySem.W.kla_fn name qual ⟨[],[⟨"_law_k",an,ap⟩],none,[],[],none,[]⟩ body scope cl pm (.ref c') ctv) ⟨[u],[]⟩=pure [(("_law_k":Str),u)]:=rfl
noncomputable def onRng (it:E) (k:E→Bool):Bool:=match it with
 | .rng a=>k a
 | _=>false
@[elab_as_elim] theorem onRng_el {it:E} {k:E→Bool} {P:E→Prop} (h:onRng it k=true) (H:∀ a,k a=true→P (.rng a)):P it:=by
 cases it with
 | rng a=>exact H a h
 | _=>exact nomatch (show false=true from h)
noncomputable def onCallK (e:Expr) (k:Expr→List Expr→Str→Expr→Bool):Bool:=match e with
 | .Call g as ks _=>on1 ks fun q=>onSo q.arg fun n=>k g as n q.value
 | _=>false
@[elab_as_elim] theorem onCallK_el {e:Expr} {k:Expr→List Expr→Str→Expr→Bool} {P:Expr→Prop} (h:onCallK e k=true) (H:∀ g as n v kp p,k g as n v=true→P (.Call g as [⟨some n,v,kp⟩] p)):P e:=by
 cases e with
 | Call g as ks p=>
  refine on1_el (P:=fun r=>P (.Call g as r p)) (show on1 ks (fun q=>onSo q.arg fun n=>k g as n q.value)=true from h) fun q h=>?_
  obtain ⟨n,v,kp⟩:=q
  cases n with
  | none=>exact nomatch (show false=true from h)
  | some n=>exact H g as n v kp p h
 | _=>exact nomatch (show false=true from h)
noncomputable def onLamb (e:Expr) (k:Arg→Expr→Scope→Bool):Bool:=match e with
 | .Lambda a b s _=>(a.posonlyargs.isEmpty&&a.vararg.isNone&&a.kwonlyargs.isEmpty&&a.kw_defaults.isEmpty&&a.kwarg.isNone&&a.defaults.isEmpty)&&on1 a.args fun q=>k q b s
 | _=>false
@[elab_as_elim] theorem onLamb_el {e:Expr} {k:Arg→Expr→Scope→Bool} {P:Expr→Prop} (h:onLamb e k=true) (H:∀ q b s p,k q b s=true→P (.Lambda ⟨[],[q],none,[],[],none,[]⟩ b s p)):P e:=by
 cases e with
 | Lambda a b s p=>
  obtain ⟨a1,a2,a3,a4,a5,a6,a7⟩:=a
  obtain ⟨h0,h⟩:=(Bool.and_eq_true _ _).mp (show ((a1.isEmpty&&a3.isNone&&a4.isEmpty&&a5.isEmpty&&a6.isNone&&a7.isEmpty)&&on1 a2 fun q=>k q b s)=true from h)
  simp only [Bool.and_eq_true,List.isEmpty_iff,Option.isNone_iff_eq_none] at h0
  obtain ⟨⟨⟨⟨⟨rfl,rfl⟩,rfl⟩,rfl⟩,rfl⟩,rfl⟩:=h0
  exact on1_el (P:=fun r=>P (.Lambda ⟨[],r,none,[],[],none,[]⟩ b s p)) h fun q h=>H q b s p h
 | _=>exact nomatch (show false=true from h)
noncomputable def chkLamE (Gam:Info) (m:Nat) (N:List Str) (nm:Nms) (caps:List Nat) (it key:E) (e:Expr):Bool:=
 onRng it fun ia=>onCallK e fun fe as kw v=>onName fe fun f _=>on1 as fun r=>onCall r fun ge bs _=>onName ge fun g _=>on1 bs fun a=>onLamb v fun q body scope=>
  q.arg==("_law_k":Str)&&bltB Gam nm f "sorted"&&bltB Gam nm g "range"&&kw==("key":Str)&&plainE a&&!isPeek ia&&chkE Gam m N nm ia a&&(scopeB N nm [q.arg] caps scope&&scope.names.all fun x=>x.2 != .cell) &&
   (scope.isCoroutine==false)&&(scope.isGenerator==false)&&!isPeek key&&chkE Gam m ([q.arg]++caps.map fun j=>N.getD j "") scope.names key body
noncomputable def chkLam (Gam:Info) (m:Nat) (N:List Str) (nm:Nms) (w:Bool) (i:Nat) (caps:List Nat) (it key:E) (st:Stmt):Bool:=
 onAsg st fun t e _=>onName t fun y _=>(N[i]?==some y&&locB nm y)&&match w with
  | false=>chkLamE Gam m N nm caps it key e
  | true=>onCall e fun t as _=>onName t fun t _=>on1 as fun c=>bltB Gam nm t "tuple"&&chkLamE Gam m N nm caps it key c
noncomputable def keyS:S→Option (Bool×Nat×List Nat×E×E)
 | .set i (.skey caps it key)=>some (false,i,caps,it,key)
 | .set i (.op1 .toTuple (.skey caps it key))=>some (true,i,caps,it,key)
 | _=>none
theorem keyS_of {a:S} {w:Bool} {i:Nat} {caps:List Nat} {it key:E} (h:keyS a=some (w,i,caps,it,key)):(w=false∧a=.set i (.skey caps it key))∨(w=true∧a=.set i (.op1 .toTuple (.skey caps it key))):=by
 unfold keyS at h
 split at h
 ·cases h;exact .inl ⟨rfl,rfl⟩
 ·cases h;exact .inr ⟨rfl,rfl⟩
 ·cases h
noncomputable def chkL (Gam:Info) (m n:Nat) (N:List Str) (nm:Nms):S→List Stmt→Bool
 | .seq a b,st::sts=>match keyS a with
  | some (w,i,caps,it,key)=>chkLam Gam m N nm w i caps it key st&&chkBody Gam m n N nm b sts
  | none=>chkS Gam N nm (chkE Gam m N nm) (chkBody Gam m n N nm) a st&&chkL Gam m n N nm b sts
 | _,_=>false
noncomputable def tL (cf:CF) (K:PySem.W.Frag) (P:Addr) (is:S):TS:=fun D σ H=>∃ G0 H0 G ρ,ST K G0 H0 G H σ ρ∧H0 P=some (.tbl #[])∧G0 P=none∧LawEv cf is ρ∧∀ H',D.rt (.bl true) H'
section
variable {X:Cx} {cf:CF} {k k':Nat} {Gam:Info} {m n:Nat} {c P:Addr}
theorem cscope_of {own:List Str} {caps:List Nat} {scope:Scope} (h2:(scopeB X.N X.env.scope.names own caps scope&&scope.names.all fun x=>x.2 != .cell)=true):LScope X own caps scope∧caps.Nodup∧∀ x∈own,scope.names.lookup x=some .local:=by
 simp only [scopeB,Bool.and_eq_true,beq_iff_eq,List.all_eq_true,Bool.or_eq_true,bne_iff_ne,decide_eq_true_eq] at h2
 obtain ⟨⟨⟨⟨⟨⟨⟨⟨s1,s2⟩,s3⟩,s4⟩,s5⟩,s6⟩,s7⟩,s8⟩,s9⟩:=h2
 refine ⟨⟨⟨s1,fun x hx e=>absurd e (s9 x hx),fun x hx e=>?_,fun x hx e=>?_,fun j hj=>?_⟩,s9⟩,s6,fun x hx=>(s7 x hx).1.elim id fun z=>absurd rfl (s9 _ (PySem.mem_of_lookup z))⟩
 ·rcases s3 x hx with q | q
  ·exact absurd e q
  ·exact q
 ·rcases s4 x hx with (q | q) | q
  ·exact absurd e q
  ·exact .inl q
  ·exact .inr q
 ·have:=s5 j hj
  cases q:X.N[j]? with
  | none=>rw [q] at this;cases this
  | some y=>
   rw [q] at this
   simp only [Bool.and_eq_true,beq_iff_eq] at this
   exact ⟨y,rfl,visB_of this.1,this.2⟩
theorem ok_lamE (g:Good X k cf Gam) (hk:X.env.scope.kind=.function) (T:LamTab X c P) (hroom:X.A.depth<recursionLimit)
  (hL:∀ N' qual scope cl f cd s H,Good (cxL X X.A.in1.in1 N' qual scope cl f cd s H) k' cf Gam) {caps:List Nat} {it key:E} {e:Expr} (h:chkLamE Gam m X.N X.env.scope.names caps it key e=true):
  ∃ ia,it=.rng ia∧PE X e (tLam cf X.K P caps ia key):=by
 unfold chkLamE at h
 refine onRng_el h fun ia h=>onCallK_el h fun fe as kw v kp pos h=>onName_el h fun f pf h=>on1_el h fun r h=>onCall_el h fun ge bs p2 h=>onName_el h fun gg pg h=>on1_el h fun a h=>onLamb_el h fun q body scope lpos h=>?_
 simp only [Bool.and_eq_true,beq_iff_eq,Bool.not_eq_true'] at h
 obtain ⟨⟨⟨⟨⟨⟨⟨⟨⟨⟨⟨h0,h3⟩,h4⟩,h5⟩,h6⟩,h7⟩,h8⟩,h9a,h9b⟩,h10⟩,h11⟩,h12⟩,h13⟩:=h
 obtain ⟨qa,qn,qp⟩:=q
 cases (show qa=("_law_k":Str) from h0)
 obtain ⟨rfl,b1,b2,b3,b4⟩:=bltB_of g h3
 obtain ⟨rfl,d1,d2,d3,d4⟩:=bltB_of g h4
 subst h5
 obtain ⟨cs,cd,cl⟩:=cscope_of (Bool.and_eq_true_iff.mpr ⟨h9a,h9b⟩)
 have ha:=(chk_ok (cf:=cf) (k:=k) (Gam:=Gam) m X g hk ia a h8).pe
 refine ⟨ia,rfl,pe_lam g.calm T ha h7 h6 d1 d4 b1 b4 cs cd (cl _ List.mem_cons_self) h10 h11 rfl hroom (fun _ _ _ _ _=>bindK _ _ _ _ _ _ _ _ _ _ _) h12 fun s H f c'=>?_⟩
 exact (chk_ok (cf:=cf) (k:=k') (Gam:=Gam) m (cxL X X.A.in1.in1 (namesC X ["_law_k"] caps) (X.env.qual++"<lambda>") scope (clOf X.env.cells scope.names []) f (.ref c') s H) (hL _ _ _ _ _ _ _ _) cs.kind key body h13).pe
theorem lamE_call {N:List Str} {nm:Nms} {caps:List Nat} {it key:E} {e:Expr} (h:chkLamE Gam m N nm caps it key e=true):∃ g as n v kp p,e=.Call g as [⟨some n,v,kp⟩] p:=by
 unfold chkLamE at h
 exact onRng_el h fun _ h=>onCallK_el h fun g as n v kp p _=>⟨g,as,n,v,kp,p,rfl⟩
theorem ok_lam (g:Good X k cf Gam) (hk:X.env.scope.kind=.function) (hN:X.N.Nodup) (hfn:∀ x,X.fn x=true) (T:LamTab X c P) (hroom:X.A.depth<recursionLimit)
  (hL:∀ N' qual scope cl f cd s H,Good (cxL X X.A.in1.in1 N' qual scope cl f cd s H) k' cf Gam) {w:Bool} {i:Nat} {caps:List Nat} {it key:E} {st:Stmt} (h:chkLam Gam m X.N X.env.scope.names w i caps it key st=true):
  ∃ ia,it=.rng ia∧(w=false→PS X st (tAsg (tLam cf X.K P caps ia key) (gName i)))∧(w=true→PS X st (tAsg (tLamT cf X.K P caps ia key) (gName i))):=by
 unfold chkLam at h
 refine onAsg_el h fun t e spos h=>onName_el h fun y py h=>?_
 obtain ⟨h0,h⟩:=(Bool.and_eq_true _ _).mp h
 simp only [Bool.and_eq_true,beq_iff_eq] at h0
 obtain ⟨h1,h2⟩:=h0
 cases w with
 | false=>
  obtain ⟨ia,rfl,pe⟩:=ok_lamE g hk T hroom hL h
  refine ⟨ia,rfl,fun _=>?_,fun z=>by cases z⟩
  obtain ⟨_,_,_,_,_,_,rfl⟩:=lamE_call h
  exact ps_asg pe (pg_name hN h1 (locB_of h2) (.inl (hfn y)))
 | true=>
  refine onCall_el h fun te as pos h=>onName_el h fun t pt h=>on1_el h fun c h=>?_
  obtain ⟨h4,h3⟩:=(Bool.and_eq_true _ _).mp h
  obtain ⟨ia,rfl,pe⟩:=ok_lamE g hk T hroom hL h3
  obtain ⟨_,_,_,_,_,_,rfl⟩:=lamE_call h3
  obtain ⟨rfl,d1,d2,d3,d4⟩:=bltB_of g h4
  exact ⟨ia,rfl,fun z=>(by cases z),fun _=>ps_asg (pe_lamT pe d1 d4) (pg_name hN h1 (locB_of h2) (.inl (hfn y)))⟩
theorem ok_law (g:Good X k cf Gam) (hk:X.env.scope.kind=.function) (hN:X.N.Nodup) (hfn:∀ x,X.fn x=true) (T:LamTab X c P) (hroom:X.A.depth<recursionLimit)
  (hL:∀ N' qual scope cl f cd s H,Good (cxL X X.A.in1.in1 N' qual scope cl f cd s H) k' cf Gam):∀ (is:S) (sts:List Stmt),chkL Gam (m+1) n X.N X.env.scope.names is sts=true→PSs X sts (tL cf X.K P is):=by
 intro is
 induction is with
 | seq a b iha ihb=>
  intro sts h
  cases sts with
  | nil=>cases h
  | cons st sts=>
   rw [chkL] at h
   cases hq:keyS a with
   | some q=>
    obtain ⟨w,i,caps,it,key⟩:=q
    rw [hq] at h
    obtain ⟨h1,h2⟩:=(Bool.and_eq_true _ _).mp h
    obtain ⟨ia,rfl,psF,psT⟩:=ok_lam g hk hN hfn T hroom hL h1
    have pb:=ok_body g hk hN hfn n b sts h2
    rcases keyS_of hq with ⟨rfl,rfl⟩ | ⟨rfl,rfl⟩
    ·refine (pss_cons (psF rfl) pb).weak fun D σ H hh=>?_
     obtain ⟨G0,H0,G,ρ,S,hP,hG,L,hr⟩:=hh
     cases L with
     | step e L' hby=>cases hby
     | lam e1 e2 e3 e4 h64 hown hys=>
      refine ⟨S.ex.hh _ _ hP,G,ρ,_,_,_,_,S.sr,(S.ex.old _ _ hP).trans hG,e1,e2,e3,e4,h64,fun ys v G' H' hp S' r=>?_⟩
      have T':ST X.K G' H' G' H' σ ρ:=⟨S',.refl S'.sub,fun i ps a e _=>by
       have:=hown _ (List.mem_of_getElem? e)
       cases this⟩
      refine ⟨G',H',G',_,.rt (.bool true),T'.setVal r,hys ys hp,fun w G2 H2 x rw'=>?_⟩
      cases (show w=.bl true from rw')
      exact hr H2
    ·refine (pss_cons (psT rfl) pb).weak fun D σ H hh=>?_
     obtain ⟨G0,H0,G,ρ,S,hP,hG,L,hr⟩:=hh
     cases L with
     | step e L' hby=>cases hby
     | lamT e1 e2 e3 e4 h64 hown hys=>
      refine ⟨S.ex.hh _ _ hP,G,ρ,_,_,_,_,S.sr,(S.ex.old _ _ hP).trans hG,e1,e2,e3,e4,h64,fun ys v G' H' hp S' r=>?_⟩
      have T':ST X.K G' H' G' H' σ ρ:=⟨S',.refl S'.sub,fun i ps a e _=>by
       have:=hown _ (List.mem_of_getElem? e)
       cases this⟩
      refine ⟨G',H',G',_,.rt (.bool true),T'.setVal r,hys ys hp,fun w G2 H2 x rw'=>?_⟩
      cases (show w=.bl true from rw')
      exact hr H2
   | none=>
    rw [hq] at h
    obtain ⟨h1,h2⟩:=(Bool.and_eq_true _ _).mp h
    have ps:=ok_stmt (m:=m) g hk hN hfn (ok_body g hk hN hfn n) h1
    refine (pss_cons ps (ihb sts h2)).weak fun D σ H hh=>?_
    obtain ⟨G0,H0,G,ρ,S,hP,hG,L,hr⟩:=hh
    cases L with
    | step e L' hby=>exact ⟨G0,H0,G,ρ,_,S,e,fun σ' G' H' T'=>⟨G0,H0,G',_,T',hP,hG,L',hr⟩⟩
    | lam e1 e2 e3 e4 h64 hown hys=>cases hq
    | lamT e1 e2 e3 e4 h64 hown hys=>cases hq
 | _=>intro sts h;cases h
end
noncomputable def spL (K:PySem.W.Frag) (T:Tab) (j:Nat) (B:Fn) (Pt:Addr) (n:Nat):Sp:=fun vs H Q E=>vs.length=n∧H Pt=some (.tbl #[])∧∃ G ps,Sub G H∧G Pt=none∧RpA K G ps vs∧ps.length=B.np∧LawEv (run T j) B.body (start B ps)∧∀ H',Q (.bl true) H'
noncomputable def BMod (mg:Str→Option Value) (base:Heap):Prop:=∃ bm ob,mg "__builtins__"=some (.ref bm)∧bm≠builtinsNs∧base.get? bm=some ob∧ob.cls=.type "module"∧ob.dict=some builtinsNs∧ob.data=.plain
theorem law_fn {P:Program} {w:World} {K:PySem.W.Frag} {mg:Str→Option Value} {base:Heap} {T:Tab} {Gam:Info}
  (hf:∀ x id n,(x,id,n)∈Gam.fns→∃ d f fd,d.x=x∧d.id=id∧d.ps.length=n∧Def1 K mg T Gam d f fd)
  (hc:∀ x p,(x,p)∈Gam.consts→∃ u v,mg x=some u∧RelV v u∧∀ G,Rp K G p v) (hb:∀ x∈Gam.blts,mg x=none)
  (hd:∀ x kvs,(x,kvs)∈Gam.dcts→∃ a l vs,mg x=some (.ref a)∧(∀ G,RpD K G kvs l)∧KV l vs∧∀ h:Heap,K.In h→h.DictOf (mixKind P w) a vs)
  {d:DI} {f:Addr} {fd:FuncData} (F:Fun K d.x d.x d.st f fd) (S:FnScope d.N d.ps (defScope d.st)) {B:Fn} (n2:d.N.length=B.ns) (n3:B.np≤B.ns)
  (hchk:chkL Gam 200 200 d.N (defScope d.st).names B.body (defBody d.st)=true) {c Pt:Addr} (hcode:fd.code=.ref c) (hcd:PySem.W.CodeHd base c Pt) (hbm:BMod mg base) (j:Nat):
  FnOk P w K mg base CX0 (j+4) f fd d.ps (spL K T j B Pt d.ps.length):=by
 obtain ⟨oc,od,kV,doc,pm,an,cdv,ct,osl,rfl,lk,hcdv⟩:=F.ex
 refine fn_of lk hcdv S (fun vs H Q E h=>h.1) fun A outer s H vs Q E hr hsp=>?_
 obtain ⟨hl,hP,G,ps,sub,hGP,r,hnp,L,hQ⟩:=hsp
 have fns:∀ x id n,(x,id,n)∈Gam.fns→∃ fa fd ps,ps.length=n∧mg x=some (.ref fa)∧PySem.W.keepIn K (.ref fa)=true∧L2.Binds K fd ps []∧FnOk P w K mg base CX0 j fa fd ps (spD K ps.length (run T j id)):=fun x id n hm=>by
  obtain ⟨d',f',fd',rfl,rfl,rfl,D'⟩:=hf x id n hm
  exact ⟨f',fd',d'.ps,rfl,D'.m,D'.F.kp,D'.b,all_ok hf hc hb hd j d' f' fd' D'⟩
 have g:Good (cxOf CX0 P w K mg base d.N d.x (defScope d.st) f cdv A outer s H E).nox (j+3) (run T j) Gam:=by
  refine ⟨rfl,rfl,hr,fun x id n hm=>?_,hc,hb,hd⟩
  obtain ⟨fa,fd,ps,h1,h2,h3,h4,h5⟩:=fns x id n hm
  exact ⟨fa,fd,ps,h1,h2,h3,h4,h5.mono (Nat.le_add_right _ _)⟩
 have hroom:(cxOf CX0 P w K mg base d.N d.x (defScope d.st) f cdv A outer s H E).nox.A.depth<recursionLimit:=
  Nat.lt_of_le_of_lt (Nat.le_trans (Nat.le_add_right _ (3 * (j+3))) (Nat.le_add_right _ 5)) hr.dp
 have tab:LamTab (cxOf CX0 P w K mg base d.N d.x (defScope d.st) f cdv A outer s H E).nox c Pt:=⟨hcode,hcd,hbm⟩
 have body:=ok_law (m:=199) (n:=200) (P:=Pt) (k':=j) g S.kind S.nd (fun _=>rfl) tab hroom (fun N' qual scope cl f' cd' s' H'=>⟨rfl,rfl,hr.in1.in1.deeper _,fun x id n hm=>fns x id n hm,hc,hb,hd⟩) B.body (defBody d.st) hchk
 refine ⟨_,body.nox,?_⟩
 have sr:=sr_start (N:=d.N) (F:=B) sub r hnp n2 n3
 refine ⟨G,H,G,DD.start B ps,⟨sr,.refl sub,fun i qs a e1 e2=>?_⟩,hP,hGP,L,hQ⟩
 exfalso
 have hm:=List.mem_of_getElem? e1
 simp only [DD.start,List.mem_append,List.mem_map,List.mem_replicate] at hm
 rcases hm with ⟨p,_,z⟩ | ⟨_,z⟩ <;> cases z
@[elab_as_elim] theorem lens1 {P:List Value→Prop} (h:∀ a,P [a]) (us:List Value) (hl:us.length=1):P us:=by
 cases us with
 | nil=>cases hl
 | cons a us=>
  cases List.length_eq_zero_iff.mp (Nat.succ.inj hl)
  exact h a
@[elab_as_elim] theorem lens2 {P:List Value→Prop} (h:∀ a b,P [a,b]) (us:List Value) (hl:us.length=2):P us:=by
 cases us with
 | nil=>cases hl
 | cons a us=>exact lens1 (P:=fun r=>P (a::r)) (h a) us (Nat.succ.inj hl)
@[elab_as_elim] theorem lens3 {P:List Value→Prop} (h:∀ a b c,P [a,b,c]) (us:List Value) (hl:us.length=3):P us:=by
 cases us with
 | nil=>cases hl
 | cons a us=>exact lens2 (P:=fun r=>P (a::r)) (h a) us (Nat.succ.inj hl)
@[elab_as_elim] theorem lens4 {P:List Value→Prop} (h:∀ a b c d,P [a,b,c,d]) (us:List Value) (hl:us.length=4):P us:=by
 cases us with
 | nil=>cases hl
 | cons a us=>exact lens3 (P:=fun r=>P (a::r)) (h a) us (Nat.succ.inj hl)
theorem rpL_ints {K:PySem.W.Frag} {G:Hp}:∀ ns:List Int,RpL K G (ns.map .int) (ns.map V.int)
 | []=>rfl
 | n::ns=>⟨_,_,rfl,⟨rfl,rfl⟩,rpL_ints ns⟩
theorem law_callT {P:Program} {w:World} {K:PySem.W.Frag} {mg mb:Str→Option Value} {k:Nat} {fa a:Addr} {fd:FuncData} {x:Str} {s₁:Shared} {vs:List Value} {ns:List Int} {T:Tab} {j:Nat} {B:Fn} {c Pt:Addr}
  (KX:K.In s₁.heap) (hns:s₁.heap.Ns mainGlobals mg) (hb:s₁.heap.Ns builtinsNs mb) (hbb:∀ x:Str,x≠"__name__"→mb x=bootBuiltins x) (hlim:s₁.heap.NoLimit) (hg:s₁.gens=#[])
  (ha:s₁.heap.get? a=some {cls:=.type "list",data:=.seq vs.toArray}) (hi:IntsAre vs ns) (hl:ns.length≤sizeLine) (hr:Room k callerA) (hc:PySem.W.CodeHd s₁.heap c Pt) (hPt:s₁.heap.get? Pt=some (PySem.W.tabObj #[])) (hKP:K.lookup Pt=none) (hbm:BMod mg s₁.heap)
  (F:∀ base:Heap,K.In base→base.Ns mainGlobals mg→PySem.W.CodeHd base c Pt→BMod mg base→FnOk P w K mg base CX0 k fa fd [x] (spL K T j B Pt 1)) (hbind:∀ (s:Shared) (u:Value),BindsTo s fd ⟨[u],[]⟩ [(x,u)])
  (hnp:B.np=1) (hev:LawEv (run T j) B.body (start B [.list (ns.map .int)])):
  codeAny (model P w) callerA (.call (.ref fa) ⟨[.ref a],[]⟩) (fun r s'=>r=.ok (.ret (.bool true))∧OldK s₁.heap s'.heap∧s'.os=s₁.os∧AllBare s'.gens) s₁:=by
 have rv:=vals_ints hi
 have lenV:=hi.length
 have haP:a≠Pt:=fun z=>by rw [z,hPt] at ha;cases ha
 have core:∀ H:Hp,(∀ b,b≠Pt→(H b=none∨∃ o xs,H b=some (.frz o (.lst xs))))→H Pt=some (.tbl #[])→SqL K H a (ns.map V.int)→HOk P w H s₁.heap→(∀ b,b≠Pt→H b≠none→b=a)→(H a≠none→K.lookup a=none)→
   codeAny (model P w) callerA (.call (.ref fa) ⟨[.ref a],[]⟩) (fun r s'=>r=.ok (.ret (.bool true))∧OldK s₁.heap s'.heap∧s'.os=s₁.os∧AllBare s'.gens) s₁:=by
  intro H hO hPH hS hok hA hK
  have base_of:∀ {b:Addr} {o:Obj},s₁.heap.get? b=some o→H b=none→(hidT s₁.heap H).get? b=some o:=fun e n=>hidT_get e n
  have nH:∀ {b:Addr} {o:Obj},s₁.heap.get? b=some o→o≠{cls:=.type "list",data:=.seq vs.toArray}→o≠PySem.W.tabObj #[]→H b=none:=fun {b o} e d1 d2=>by
   have hbP:b≠Pt:=fun z=>by rw [z,hPt] at e;cases e;exact d2 rfl
   cases q:H b with
   | none=>rfl
   | some u=>
    have e':b=a:=hA b hbP (by rw [q];simp)
    subst e'
    rw [ha] at e;cases e
    exact absurd rfl d1
  have noA:∀ {b:Addr} {o:Obj} {es:Array DictEntry} {ep:Nat},s₁.heap.get? b=some o→o.data=.dict es ep→H b=none:=fun {b o es ep} e d=>
   nH e (fun z=>by rw [z] at d;cases d) (fun z=>by rw [z] at d;cases d)
  have nsK:∀ {b:Addr} {m:Str→Option Value},s₁.heap.Ns b m→(hidT s₁.heap H).Ns b m:=fun {b m} ⟨o,es,ep,e,d,r⟩=>⟨o,es,ep,base_of e (noA e d),d,r⟩
  have hKb:K.In (hidT s₁.heap H):=fun b o e=>base_of (KX b o e) (by
   cases q:H b with
   | none=>rfl
   | some u=>
    by_cases hbP:b=Pt
    ·rw [hbP,hKP] at e;cases e
    ·have e':b=a:=hA b hbP (by rw [q];simp)
     subst e'
     rw [hK (by rw [q];simp)] at e;cases e)
  have hM:Mod K mg (hidT s₁.heap H):=⟨hKb,nsK hns,⟨mb,nsK hb,hbb⟩,let ⟨mc,h1,h2⟩:=hlim;⟨mc,nsK h1,h2⟩⟩
  have e0:Env0 P w K mg (hidT s₁.heap H) callerA [] s₁ H:=⟨rfl,hM,fun b o e=>of_hidT e,Nat.le_of_eq (hidT_size _ _),trivial,fun b hb=>absurd (show b∈([]:List Addr) from hb) (by simp),hok,.of_eq hg⟩
  have hcB:PySem.W.CodeHd (hidT s₁.heap H) c Pt:=by
   obtain ⟨o,us,file,tf,flags,tg,inF,text,tt,e1,r1,r2⟩:=hc
   exact ⟨o,us,file,tf,flags,tg,inF,text,tt,base_of e1 (nH e1 (fun z=>by rw [z] at r1;injection r1 with q;exact absurd q (by decide)) (fun z=>by rw [z] at r1;cases r1)),r1,r2⟩
  have hbB:BMod mg (hidT s₁.heap H):=by
   obtain ⟨bm,ob,b1,b2,b3,b4,b5⟩:=hbm
   exact ⟨bm,ob,b1,b2,base_of b3 (nH b3 (fun z=>by rw [z] at b4;injection b4 with q;exact absurd q (by decide)) (fun z=>by rw [z] at b4;cases b4)),b4,b5⟩
  have hsp:spL K T j B Pt 1 [.ref a] H (fun v _=>v=.bl true) fun _ _ _=>False:=by
   refine ⟨rfl,hPH,fun b=>if b=Pt then none else H b,[.list (ns.map .int)],fun b o e=>?_,if_pos rfl,⟨.ref a,[],rfl,⟨a,_,rfl,?_,rpL_ints ns⟩,rfl⟩,hnp.symm,hev,fun _=>rfl⟩
   ·dsimp only at e
    split at e
    ·cases e
    ·exact e
   ·have hsame:(fun b=>if b=Pt then none else H b:Hp) a=H a:=if_neg haP
    rcases hS with h | h
    ·refine .inl ?_
     unfold Rd at h ⊢
     rw [hsame];exact h
    ·exact .inr h
  refine codeAny_mono ((F _ hKb (nsK hns) hcB hbB).run callerA [] s₁ H ⟨[.ref a],[]⟩ [.ref a] [.ref a] _ _ hr e0 (hbind s₁ (.ref a)) (.cons rfl .nil) hsp) fun r s' h=>?_
  cases r with
  | error e=>exact (show False from h).elim
  | ok fl=>
   cases fl with
   | next=>exact False.elim h
   | brk=>exact False.elim h
   | cont=>exact False.elim h
   | ret u=>
    obtain ⟨v,H',os,bare,un,hok',r',q⟩:=h
    have q':v=.bl true:=q
    subst q'
    obtain rfl:u=Value.bool true:=r'
    have keep:∀ b o,b≠Pt→s₁.heap.get? b=some o→s'.heap.get? b=some o:=fun b o hbP e=>by
     cases q:H b with
     | none=>exact un.keep b o e q (by intro z;exact absurd (show b∈([]:List Addr) from z) (by simp)) (by simp)
     | some u=>
      rcases hO b hbP with z | ⟨ob,xs,z⟩
      ·rw [q] at z;cases z
      ·have z2:=un.frzs b ob _ z
       obtain ⟨e1,_⟩:=hok b _ z
       obtain ⟨e2,_⟩:=hok' b _ z2
       rw [e] at e1;cases e1
       exact e2
    obtain ⟨more,hm⟩:=un.tbls Pt #[] hPH
    have hPn:s'.heap.get? Pt=some (PySem.W.tabObj (#[]++more)):=hok' Pt _ hm
    refine ⟨rfl,⟨fun b o e=>?_,fun b o e=>?_⟩,os,bare⟩
    ·by_cases hbP:b=Pt
     ·subst hbP
      rw [hPt] at e
      cases e
      exact .inr (.inl ⟨(hc.tab hPt).isCodeTable,rfl,#[],more,rfl,hPn⟩)
     ·exact .inl (keep b o hbP e)
    ·by_cases hbP:b=Pt
     ·exact ⟨_,by rw [hbP];exact hPn⟩
     ·exact ⟨o,keep b o hbP e⟩
 cases hk:K.lookup a with
 | some o=>
  have e:=KX a o hk
  rw [ha] at e
  cases e
  refine core (fun b=>if b=Pt then some (.tbl #[]) else none) (fun b hb=>.inl (if_neg hb)) (if_pos rfl) (.inr ⟨_,vs.toArray,_,hk,rfl,rfl,rfl,by rw [List.size_toArray,lenV];exact hl,by simpa using rv⟩) (fun b u z=>?_) (fun b hb z=>absurd (if_neg hb) z) fun z=>absurd (if_neg haP) z
  by_cases hb:b=Pt
  ·have z':=(if_pos hb).symm.trans z
   cases z'
   subst hb
   exact hPt
  ·have z':=(if_neg hb).symm.trans z
   cases z'
 | none=>
  refine core (fun b=>if b=Pt then some (.tbl #[]) else if b=a then some (.frz {cls:=.type "list",data:=.seq vs.toArray} (.lst (ns.map V.int))) else none) (fun b hbP=>?_) (if_pos rfl) (.inl (.inr ⟨{cls:=.type "list",data:=.seq vs.toArray},(if_neg haP).trans (if_pos rfl)⟩)) (fun b u z=>?_) (fun b hbP z=>?_) fun _=>hk
  ·by_cases hb:b=a
   ·exact .inr ⟨_,_,(if_neg hbP).trans (if_pos hb)⟩
   ·exact .inl ((if_neg hbP).trans (if_neg hb))
  ·by_cases hbP:b=Pt
   ·have z':=(if_pos hbP).symm.trans z
    cases z'
    subst hbP
    exact hPt
   ·by_cases hb:b=a
    ·have z':=((if_neg hbP).trans (if_pos hb)).symm.trans z
     cases z'
     subst hb
     exact ⟨ha,by rw [List.length_map];exact hl,vs,_,rv,ha⟩
    ·have z':=((if_neg hbP).trans (if_neg hb)).symm.trans z
     cases z'
  ·by_cases hb:b=a
   ·exact hb
   ·exact absurd ((if_neg hbP).trans (if_neg hb)) z
theorem walk_lam {l:PySem.W.OpenLaw} {n k:Nat} {q:Program} {loose:List Str} {XP:(Str→Option Value)→Heap→Prop} {YP:World→Heap→Prop} {d:DefRec} {K:Params→PySem.W.Frag} {x:Str} {T:Tab} {j:Nat} {B:Fn}
  (hn:l.most=some n) (hn2:n≤sizeLine) (hdf:d.params.defaults=[]) (hr:Room k callerA)
  (hY:∀ (w:World) (h:Heap),YP w h→(K w.params).In h)
  (ht:∀ (w:World) (h:Heap),YP w h→∃ c Pt,PySem.W.tabIn (K w.params) d.name=some (c,Pt)∧PySem.W.CodeHd h c Pt∧h.get? Pt=some (PySem.W.tabObj #[])∧(K w.params).lookup Pt=none)
  (F:∀ (w:World) (mg:Str→Option Value) (fa:Addr) (h:Heap),(K w.params).In h→h.Ns mainGlobals mg→mg d.name=some (.ref fa)→
   ∃ fd:FuncData,(∃ o,h.get? fa=some o∧o.data=.func fd)∧(∀ (s:Shared) (u:Value),BindsTo s fd ⟨[u],[]⟩ [(x,u)])∧
    ∀ (base:Heap) (c Pt:Addr),(K w.params).In base→base.Ns mainGlobals mg→fd.code=.ref c→PySem.W.CodeHd base c Pt→BMod mg base→FnOk l.prog w (K w.params) mg base CX0 k fa fd [x] (spL (K w.params) T j B Pt 1))
  (hnp:B.np=1) (hev:∀ ns:List Int,LawEv (run T j) B.body (start B [.list (ns.map .int)])):
  PySem.W.WalkO q loose XP YP l.row.toRowW d [] (fun f vs=>PySem.call f vs):=by
 refine Att.attach_call hn hdf fun w s₀ s₁ mg mb fa o pm cd doc a vs ns G Y ho hd hcd hmg hobj hints hlen hg=>?_
 have KX:=hY w _ Y
 obtain ⟨fd,⟨o',ho',hd'⟩,hb,hF⟩:=F w mg fa _ KX G.T.g hmg
 obtain ⟨c,Pt,ht1,hc,hPt,ht2⟩:=ht w _ Y
 have hcode:=PySem.W.law_code KX G.T.g ht1 hmg ho' hd'
 have hbm:BMod mg s₁.heap:=by
  obtain ⟨bm,ob,b1,b2,b3,b4,b5,b6⟩:=G.T.bmain
  exact ⟨bm,ob,b1,b2,b3,b4,b5,b6⟩
 exact law_callT KX G.T.g G.T.b G.T.builtins G.T.nolimit hg hobj hints (Nat.le_trans hlen hn2) hr hc hPt ht2 hbm (fun base k1 k2 k3 k4=>hF base c Pt k1 k2 hcode k3 k4) hb hnp (hev ns)
end DD
namespace DD
open PySem
noncomputable def b1:S:=(.ret (.and (.op1 .isInt (.var 0)) (.not (.op1 .isBool (.var 0)))))
noncomputable def b2:S:=(.ret (.and (.call 0 (.cons (.var 0) (.cons (.con (.int 2)) .nil))) (.and (.op2 .inn (.op2 .ix (.var 0) (.con (.int 0))) (.con (.tuple [(.str "a"),(.str "b")]))) (.op2 .inn (.op2 .ix (.var 0) (.con (.int 1))) (.con (.tuple [(.str "x"),(.str "y")]))))))
noncomputable def b16:S:=(.seq (.ife (.op2 .lt (.var 1) (.op1 .len (.var 0))) (.ret (.op2 .ix (.var 0) (.var 1))) .nx) (.ret (.con (.int 0))))
noncomputable abbrev f16:Fn:=⟨2,2,b16⟩
noncomputable def b17:S:=(.seq (.set 2 (.op2 .mod (.op2 .mul (.op2 .add (.op2 .add (.call 16 (.cons (.var 0) (.cons (.var 1) .nil))) (.op2 .mul (.con (.int 7919)) (.var 1))) (.con (.int 1))) (.con (.int 48271))) (.con (.int 2147483647)))) (.ret (.op2 .mod (.op2 .add (.op2 .add (.op2 .mul (.var 2) (.var 2)) (.op2 .mul (.con (.int 7)) (.var 2))) (.var 1)) (.con (.int 2147483629)))))
noncomputable abbrev f17:Fn:=⟨2,3,b17⟩
noncomputable def b18:S:=(.seq (.set 2 (.op2 .mod (.op2 .mul (.op2 .add (.op2 .add (.var 0) (.op2 .mul (.con (.int 104729)) (.var 1))) (.con (.int 17))) (.con (.int 69621))) (.con (.int 2147483647)))) (.ret (.op2 .mod (.op2 .add (.op2 .add (.op2 .mul (.var 2) (.var 2)) (.op2 .mul (.con (.int 3)) (.var 2))) (.var 1)) (.con (.int 2147483629)))))
noncomputable abbrev f18:Fn:=⟨2,3,b18⟩
noncomputable def b19:S:=(.seq (.set 2 (.op2 .mod (.var 0) (.con (.int 10)))) (.seq (.ife (.or (.op2 .eq (.var 1) (.con (.int 0))) (.op2 .lt (.var 2) (.con (.int 3)))) (.seq (.set 3 (.lst (.cons (.tup (.cons (.con (.str "a")) (.cons (.con (.str "x")) .nil))) (.cons (.tup (.cons (.con (.str "a")) (.cons (.con (.str "y")) .nil))) (.cons (.tup (.cons (.con (.str "b")) (.cons (.con (.str "x")) .nil))) (.cons (.tup (.cons (.con (.str "b")) (.cons (.con (.str "y")) .nil))) (.cons (.tup (.cons (.con (.str "to")) (.cons (.con (.str "x")) (.cons (.con (.str "y")) .nil)))) (.cons (.tup (.cons (.con (.str "to")) (.cons (.con (.str "y")) (.cons (.con (.str "x")) .nil)))) (.cons (.tup (.cons (.con (.str "to")) (.cons (.con (.str "x")) (.cons (.con (.str "y")) .nil)))) .nil))))))))) (.ret (.op2 .ix (.op2 .add (.var 3) (.lst (.cons (.tup (.cons (.con (.str "to")) (.cons (.con (.str "x")) (.cons (.con (.str "x")) .nil)))) (.cons (.tup (.cons (.con (.str "to")) (.cons (.con (.str "y")) (.cons (.con (.str "y")) .nil)))) (.cons (.tup (.cons (.con (.str "to")) (.cons (.con (.str "y")) (.cons (.con (.str "x")) .nil)))) (.cons (.con (.str "yes")) (.cons (.con (.str "no")) .nil))))))) (.op2 .mod (.op2 .fdiv (.var 0) (.con (.int 10))) (.con (.int 12)))))) .nx) (.seq (.set 4 (.call 19 (.cons (.call 18 (.cons (.var 0) (.cons (.con (.int 1)) .nil))) (.cons (.op2 .sub (.var 1) (.con (.int 1))) .nil)))) (.seq (.ife (.op2 .eq (.var 2) (.con (.int 3))) (.ret (.tup (.cons (.con (.str "not")) (.cons (.var 4) .nil)))) .nx) (.seq (.set 5 (.call 19 (.cons (.call 18 (.cons (.var 0) (.cons (.con (.int 2)) .nil))) (.cons (.op2 .sub (.var 1) (.con (.int 1))) .nil)))) (.seq (.ife (.and (.op2 .lt (.var 2) (.con (.int 6))) (.op2 .gt (.var 1) (.con (.int 1)))) (.ret (.tup (.cons (.con (.str "either")) (.cons (.tup (.cons (.con (.str "not")) (.cons (.call 19 (.cons (.call 18 (.cons (.var 0) (.cons (.con (.int 1)) .nil))) (.cons (.op2 .sub (.var 1) (.con (.int 2))) .nil))) .nil))) (.cons (.var 5) .nil))))) .nx) (.ret (.tup (.cons (.op2 .ix (.tup (.cons (.con (.str "both")) (.cons (.con (.str "either")) .nil))) (.op2 .mod (.var 2) (.con (.int 2)))) (.cons (.var 4) (.cons (.var 5) .nil)))))))))))
noncomputable abbrev f19:Fn:=⟨2,6,b19⟩
noncomputable def b20:S:=(.seq (.set 2 (.op2 .ix (.tup (.cons (.con (.str "each")) (.cons (.con (.str "each")) (.cons (.con (.str "each")) (.cons (.con (.str "some")) .nil))))) (.op2 .mod (.var 0) (.con (.int 4))))) (.seq (.set 3 (.op2 .ix (.tup (.cons (.con (.str "some")) (.cons (.con (.str "each")) (.cons (.con (.str "some")) .nil)))) (.op2 .mod (.op2 .fdiv (.var 0) (.con (.int 4))) (.con (.int 3))))) (.ret (.tup (.cons (.var 2) (.cons (.var 3) (.cons (.call 19 (.cons (.op2 .fdiv (.var 0) (.con (.int 12))) (.cons (.var 1) .nil))) .nil)))))))
noncomputable abbrev f20:Fn:=⟨2,4,b20⟩
noncomputable def b21l0:S:=(.seq (.set 4 (.call 20 (.cons (.call 18 (.cons (.var 0) (.cons (.var 3) .nil))) (.cons (.con (.int 3)) .nil)))) (.seq (.set 5 (.comp none [] (.var 2) (.op2 .eq (.sl (.var 0) (.con .none) (.con (.int 2))) (.tup (.cons (.con (.str "some")) (.cons (.con (.str "each")) .nil)))) (.var 0))) (.seq (.ife (.and (.op2 .eq (.sl (.var 4) (.con .none) (.con (.int 2))) (.tup (.cons (.con (.str "some")) (.cons (.con (.str "each")) .nil)))) (.op2 .eq (.op1 .len (.var 5)) (.con (.int 2)))) (.set 4 (.tup (.cons (.con (.str "each")) (.cons (.con (.str "some")) (.cons (.op2 .ix (.var 4) (.con (.int 2))) .nil))))) .nx) (.set 2 (.op2 .add (.var 2) (.tup (.cons (.var 4) .nil)))))))
noncomputable def b21:S:=(.seq (.set 2 (.tup .nil)) (.seq (.loop (.one 3) (.rng (.op2 .mod (.var 0) (.op2 .add (.var 1) (.con (.int 1))))) b21l0) (.ret (.var 2))))
noncomputable abbrev f21:Fn:=⟨2,6,b21⟩
noncomputable def b22l0:S:=(.app 3 (.op1 .toTuple (.comp none [0,4] (.rng (.var 2)) (.op2 .eq (.op2 .mod (.op2 .fdiv (.call 18 (.cons (.var 1) (.cons (.op2 .add (.op2 .mul (.con (.int 10)) (.var 2)) (.var 0)) .nil))) (.con (.int 4))) (.con (.int 2))) (.con (.int 1))) (.var 0))))
noncomputable def b22l1:S:=(.ife (.op2 .lt (.op2 .mod (.op2 .fdiv (.call 18 (.cons (.var 0) (.cons (.op2 .add (.op2 .add (.con (.int 30)) (.op2 .mul (.con (.int 8)) (.var 7))) (.var 8)) .nil))) (.con (.int 4))) (.con (.int 5))) (.var 6)) (.app 5 (.tup (.cons (.var 7) (.cons (.var 8) .nil)))) .nx)
noncomputable def b22l2:S:=(.loop (.one 8) (.rng (.var 2)) b22l1)
noncomputable def b22:S:=(.seq (.set 2 (.op2 .add (.con (.int 1)) (.op2 .mod (.var 0) (.var 1)))) (.seq (.own 3 (.lst .nil)) (.seq (.loop (.one 4) (.tup (.cons (.con (.int 0)) (.cons (.con (.int 1)) .nil))) b22l0) (.seq (.own 5 (.lst .nil)) (.seq (.set 6 (.op2 .add (.con (.int 1)) (.op2 .mod (.op2 .fdiv (.var 0) (.con (.int 24))) (.con (.int 4))))) (.seq (.loop (.one 7) (.rng (.var 2)) b22l2) (.ret (.tup (.cons (.var 2) (.cons (.op2 .ix (.peek 3) (.con (.int 0))) (.cons (.op2 .ix (.peek 3) (.con (.int 1))) (.cons (.op1 .toTuple (.peek 5)) .nil))))))))))))
noncomputable abbrev f22:Fn:=⟨2,9,b22⟩
noncomputable def b37:S:=(.seq (.set 4 (.comp none [2,3] (.sl (.var 0) (.con (.int 1)) (.con .none)) (.con (.bool true)) (.ite (.op2 .eq (.var 0) (.con (.str "x"))) (.var 1) (.var 2)))) (.seq (.ife (.op2 .eq (.op2 .ix (.var 0) (.con (.int 0))) (.con (.str "to"))) (.ret (.op2 .inn (.tup (.cons (.op2 .ix (.var 4) (.con (.int 0))) (.cons (.op2 .ix (.var 4) (.con (.int 1))) .nil))) (.op2 .ix (.var 1) (.con (.int 3))))) .nx) (.seq (.ife (.op2 .eq (.op2 .ix (.var 0) (.con (.int 0))) (.con (.str "a"))) (.ret (.op2 .inn (.op2 .ix (.var 4) (.con (.int 0))) (.op2 .ix (.var 1) (.con (.int 1))))) .nx) (.ret (.op2 .inn (.op2 .ix (.var 4) (.con (.int 0))) (.op2 .ix (.var 1) (.con (.int 2))))))))
noncomputable abbrev f37:Fn:=⟨4,5,b37⟩
noncomputable def b38:S:=(.seq (.ife (.op1 .isStr (.var 0)) (.ret (.op2 .eq (.var 0) (.con (.str "yes")))) .nx) (.seq (.ife (.op2 .eq (.op2 .ix (.var 0) (.con (.int 0))) (.con (.str "not"))) (.ret (.not (.call 38 (.cons (.op2 .ix (.var 0) (.con (.int 1))) (.cons (.var 1) (.cons (.var 2) (.cons (.var 3) .nil))))))) .nx) (.seq (.ife (.op2 .eq (.op2 .ix (.var 0) (.con (.int 0))) (.con (.str "both"))) (.ret (.and (.call 38 (.cons (.op2 .ix (.var 0) (.con (.int 1))) (.cons (.var 1) (.cons (.var 2) (.cons (.var 3) .nil))))) (.call 38 (.cons (.op2 .ix (.var 0) (.con (.int 2))) (.cons (.var 1) (.cons (.var 2) (.cons (.var 3) .nil))))))) .nx) (.seq (.ife (.op2 .eq (.op2 .ix (.var 0) (.con (.int 0))) (.con (.str "either"))) (.ret (.or (.call 38 (.cons (.op2 .ix (.var 0) (.con (.int 1))) (.cons (.var 1) (.cons (.var 2) (.cons (.var 3) .nil))))) (.call 38 (.cons (.op2 .ix (.var 0) (.con (.int 2))) (.cons (.var 1) (.cons (.var 2) (.cons (.var 3) .nil))))))) .nx) (.ret (.call 37 (.cons (.var 0) (.cons (.var 1) (.cons (.var 2) (.cons (.var 3) .nil))))))))))
noncomputable abbrev f38:Fn:=⟨4,4,b38⟩
noncomputable def b39l0:S:=(.ife (.op2 .eq (.call 38 (.cons (.op2 .ix (.var 0) (.con (.int 2))) (.cons (.var 1) (.cons (.var 2) (.cons (.var 4) .nil))))) (.var 3)) (.ret (.var 3)) .nx)
noncomputable def b39:S:=(.seq (.set 3 (.op2 .eq (.op2 .ix (.var 0) (.con (.int 1))) (.con (.str "some")))) (.seq (.loop (.one 4) (.rng (.op2 .ix (.var 1) (.con (.int 0)))) b39l0) (.ret (.not (.var 3)))))
noncomputable abbrev f39:Fn:=⟨3,5,b39⟩
noncomputable def b40l0:S:=(.ife (.op2 .eq (.call 39 (.cons (.var 0) (.cons (.var 1) (.cons (.var 3) .nil)))) (.var 2)) (.ret (.var 2)) .nx)
noncomputable def b40:S:=(.seq (.set 2 (.op2 .eq (.op2 .ix (.var 0) (.con (.int 0))) (.con (.str "some")))) (.seq (.loop (.one 3) (.rng (.op2 .ix (.var 1) (.con (.int 0)))) b40l0) (.ret (.not (.var 2)))))
noncomputable abbrev f40:Fn:=⟨2,4,b40⟩
noncomputable def b41l0:S:=(.ife (.not (.call 40 (.cons (.var 3) (.cons (.var 1) .nil)))) (.ret (.var 2)) .nx)
noncomputable def b41:S:=(.seq (.loop (.many [2,3]) (.op1 .enum (.var 0)) b41l0) (.ret (.con .none)))
noncomputable abbrev f41:Fn:=⟨2,4,b41⟩
noncomputable def b42:S:=(.ret (.op1 .isN (.call 41 (.cons (.var 0) (.cons (.var 1) .nil)))))
noncomputable abbrev f42:Fn:=⟨2,2,b42⟩
noncomputable def b44:S:=(.seq (.ife (.or (.op2 .eq (.var 0) (.con (.str "yes"))) (.op2 .eq (.var 0) (.con (.str "no")))) (.ret (.op2 .eq (.var 0) (.con (.str "yes")))) .nx) (.seq (.ife (.op2 .inn (.op2 .ix (.var 0) (.con (.int 0))) (.tup (.cons (.con (.str "a")) (.cons (.con (.str "b")) .nil)))) (.ret (.op2 .inn (.op2 .ix (.dct [(.str "x"),(.str "y")] (.cons (.var 2) (.cons (.var 3) .nil))) (.op2 .ix (.var 0) (.con (.int 1)))) (.op2 .ix (.var 1) (.op2 .ix (.dct [(.str "a"),(.str "b")] (.cons (.con (.int 1)) (.cons (.con (.int 2)) .nil))) (.op2 .ix (.var 0) (.con (.int 0))))))) .nx) (.seq (.ife (.op2 .eq (.op2 .ix (.var 0) (.con (.int 0))) (.con (.str "to"))) (.seq (.set 4 (.op1 .toTuple (.comp none [2,3] (.sl (.var 0) (.con (.int 1)) (.con .none)) (.con (.bool true)) (.op2 .ix (.dct [(.str "x"),(.str "y")] (.cons (.var 1) (.cons (.var 2) .nil))) (.var 0))))) (.ret (.op2 .inn (.var 4) (.op2 .ix (.var 1) (.con (.int 3)))))) .nx) (.seq (.set 5 (.comp none [1,2,3] (.sl (.var 0) (.con (.int 1)) (.con .none)) (.con (.bool true)) (.call 44 (.cons (.var 0) (.cons (.var 1) (.cons (.var 2) (.cons (.var 3) .nil))))))) (.seq (.ife (.op2 .eq (.op2 .ix (.var 0) (.con (.int 0))) (.con (.str "not"))) (.ret (.not (.op2 .ix (.var 5) (.con (.int 0))))) .nx) (.seq (.ife (.op2 .eq (.op2 .ix (.var 0) (.con (.int 0))) (.con (.str "both"))) (.ret (.and (.op2 .ix (.var 5) (.con (.int 0))) (.op2 .ix (.var 5) (.con (.int 1))))) .nx) (.ret (.or (.op2 .ix (.var 5) (.con (.int 0))) (.op2 .ix (.var 5) (.con (.int 1)))))))))))
noncomputable abbrev f44:Fn:=⟨4,6,b44⟩
noncomputable def b45l0:S:=(.seq (.set 4 (.comp none [0,1,3] (.rng (.op2 .ix (.var 1) (.con (.int 0)))) (.con (.bool true)) (.call 44 (.cons (.op2 .ix (.var 1) (.con (.int 2))) (.cons (.var 2) (.cons (.var 3) (.cons (.var 0) .nil))))))) (.app 2 (.op2 .ix (.lst (.cons (.op2 .inn (.con (.bool true)) (.var 4)) (.cons (.not (.op2 .inn (.con (.bool false)) (.var 4))) .nil))) (.op1 .toInt (.op2 .eq (.op2 .ix (.var 0) (.con (.int 1))) (.con (.str "each")))))))
noncomputable def b45:S:=(.seq (.own 2 (.lst .nil)) (.seq (.loop (.one 3) (.rng (.op2 .ix (.var 1) (.con (.int 0)))) b45l0) (.ret (.op2 .ix (.lst (.cons (.op2 .inn (.con (.bool true)) (.peek 2)) (.cons (.not (.op2 .inn (.con (.bool false)) (.peek 2))) .nil))) (.op1 .toInt (.op2 .eq (.op2 .ix (.var 0) (.con (.int 0))) (.con (.str "each"))))))))
noncomputable abbrev f45:Fn:=⟨2,5,b45⟩
noncomputable def b46:S:=(.ret (.op2 .eq (.comp none [1] (.var 0) (.not (.call 45 (.cons (.var 0) (.cons (.var 1) .nil)))) (.var 0)) (.lst .nil)))
noncomputable abbrev f46:Fn:=⟨2,2,b46⟩
noncomputable def b48l0:S:=(.ext 2 (.op2 .ix (.var 1) (.var 3)))
noncomputable def b48:S:=(.seq (.own 2 (.lst .nil)) (.seq (.loop (.one 3) (.var 0) b48l0) (.seq (.frz 2) (.ret (.op1 .toTuple (.op1 .srt (.peek 2)))))))
noncomputable abbrev f48:Fn:=⟨2,4,b48⟩
noncomputable def b49l0:S:=(.ext 2 (.comp none [4] (.op2 .ix (.var 1) (.op2 .ix (.var 3) (.con (.int 1)))) (.con (.bool true)) (.tup (.cons (.var 1) (.cons (.var 0) .nil)))))
noncomputable def b49l1:S:=(.loop (.one 4) (.op2 .ix (.var 1) (.op2 .ix (.var 3) (.con (.int 0)))) b49l0)
noncomputable def b49:S:=(.seq (.own 2 (.lst .nil)) (.seq (.loop (.one 3) (.var 0) b49l1) (.seq (.frz 2) (.ret (.op1 .toTuple (.op1 .srt (.peek 2)))))))
noncomputable abbrev f49:Fn:=⟨2,5,b49⟩
noncomputable def b50:S:=(.seq (.set 3 (.call 48 (.cons (.op2 .ix (.var 0) (.con (.int 1))) (.cons (.var 2) .nil)))) (.seq (.set 4 (.call 48 (.cons (.op2 .ix (.var 0) (.con (.int 2))) (.cons (.var 2) .nil)))) (.ret (.tup (.cons (.var 1) (.cons (.var 3) (.cons (.var 4) (.cons (.call 49 (.cons (.op2 .ix (.var 0) (.con (.int 3))) (.cons (.var 2) .nil))) .nil))))))))
noncomputable abbrev f50:Fn:=⟨3,5,b50⟩
noncomputable def b52:S:=(.seq (.set 1 (.op2 .ix (.var 0) (.con (.int 0)))) (.ret (.call 50 (.cons (.var 0) (.cons (.op2 .add (.var 1) (.var 1)) (.cons (.comp none [1] (.rng (.var 1)) (.con (.bool true)) (.tup (.cons (.var 0) (.cons (.op2 .add (.var 0) (.var 1)) .nil)))) .nil))))))
noncomputable abbrev f52:Fn:=⟨1,2,b52⟩
noncomputable def b55:S:=(.ret (.call 50 (.cons (.var 0) (.cons (.op2 .ix (.var 0) (.con (.int 0))) (.cons (.comp none [] (.var 1) (.con (.bool true)) (.tup (.cons (.var 0) .nil))) .nil)))))
noncomputable abbrev f55:Fn:=⟨2,2,b55⟩
noncomputable def b57:S:=(.seq (.set 2 (.comp none [1] (.op2 .ix (.var 0) (.con (.int 3))) (.op2 .eq (.op2 .ix (.var 0) (.con (.int 0))) (.var 1)) (.op2 .ix (.var 0) (.con (.int 1))))) (.seq (.set 3 (.comp none [1] (.op2 .ix (.var 0) (.con (.int 3))) (.op2 .eq (.op2 .ix (.var 0) (.con (.int 1))) (.var 1)) (.op2 .ix (.var 0) (.con (.int 0))))) (.ret (.tup (.cons (.op2 .inn (.var 1) (.op2 .ix (.var 0) (.con (.int 1)))) (.cons (.op2 .inn (.var 1) (.op2 .ix (.var 0) (.con (.int 2)))) (.cons (.var 2) (.cons (.var 3) .nil))))))))
noncomputable abbrev f57:Fn:=⟨2,4,b57⟩
noncomputable def b58:S:=(.seq (.set 1 (.comp none [0] (.rng (.op2 .ix (.var 0) (.con (.int 0)))) (.con (.bool true)) (.call 57 (.cons (.var 1) (.cons (.var 0) .nil))))) (.ret (.comp none [1] (.rng (.op2 .ix (.var 0) (.con (.int 0)))) (.op2 .eq (.op2 .idx (.var 1) (.op2 .ix (.var 1) (.var 0))) (.var 0)) (.var 0))))
noncomputable abbrev f58:Fn:=⟨1,2,b58⟩
noncomputable def b59:S:=(.seq (.set 1 (.call 58 (.cons (.var 0) .nil))) (.seq (.set 2 (.comp none [1] (.rng (.op2 .ix (.var 0) (.con (.int 0)))) (.con (.bool true)) (.ite (.op2 .inn (.var 0) (.var 1)) (.tup (.cons (.op2 .idx (.var 1) (.var 0)) .nil)) (.tup .nil)))) (.ret (.call 50 (.cons (.var 0) (.cons (.op1 .len (.var 1)) (.cons (.var 2) .nil)))))))
noncomputable abbrev f59:Fn:=⟨1,3,b59⟩
noncomputable def b60l0:S:=(.ife (.op2 .ne (.op2 .inn (.var 1) (.var 3)) (.op2 .inn (.var 2) (.var 3))) (.ret (.con (.bool false))) .nx)
noncomputable def b60l1:S:=(.seq (.ife (.op2 .ne (.op2 .inn (.tup (.cons (.var 1) (.cons (.var 4) .nil))) (.op2 .ix (.var 0) (.con (.int 3)))) (.op2 .inn (.tup (.cons (.var 2) (.cons (.var 4) .nil))) (.op2 .ix (.var 0) (.con (.int 3))))) (.ret (.con (.bool false))) .nx) (.ife (.op2 .ne (.op2 .inn (.tup (.cons (.var 4) (.cons (.var 1) .nil))) (.op2 .ix (.var 0) (.con (.int 3)))) (.op2 .inn (.tup (.cons (.var 4) (.cons (.var 2) .nil))) (.op2 .ix (.var 0) (.con (.int 3))))) (.ret (.con (.bool false))) .nx))
noncomputable def b60:S:=(.seq (.loop (.one 3) (.sl (.var 0) (.con (.int 1)) (.con (.int 3))) b60l0) (.seq (.loop (.one 4) (.rng (.op2 .ix (.var 0) (.con (.int 0)))) b60l1) (.ret (.con (.bool true)))))
noncomputable abbrev f60:Fn:=⟨3,5,b60⟩
noncomputable def b61l0:S:=(.ife (.or (.op2 .ne (.call 42 (.cons (.var 1) (.cons (.var 6) .nil))) (.var 3)) (.op2 .ne (.call 46 (.cons (.var 1) (.cons (.var 6) .nil))) (.var 3))) (.ret (.con (.bool false))) .nx)
noncomputable def b61l1:S:=(.ife (.op2 .ne (.comp none [5,7] (.rng (.var 7)) (.call 60 (.cons (.var 1) (.cons (.var 2) (.cons (.var 0) .nil)))) (.var 0)) (.lst .nil)) (.ret (.con (.bool false))) .nx)
noncomputable def b61:S:=(.seq (.set 1 (.call 21 (.cons (.call 17 (.cons (.var 0) (.cons (.con (.int 0)) .nil))) (.cons (.con (.int 4)) .nil)))) (.seq (.set 2 (.call 22 (.cons (.call 17 (.cons (.var 0) (.cons (.con (.int 1)) .nil))) (.cons (.con (.int 4)) .nil)))) (.seq (.ife (.and (.op2 .eq (.op2 .mod (.call 17 (.cons (.var 0) (.cons (.con (.int 2)) .nil))) (.con (.int 3))) (.con (.int 1))) (.op2 .lt (.op2 .ix (.var 2) (.con (.int 0))) (.con (.int 3)))) (.set 2 (.call 52 (.cons (.var 2) .nil))) .nx) (.seq (.set 3 (.call 46 (.cons (.var 1) (.cons (.var 2) .nil)))) (.seq (.set 4 (.op1 .toTuple (.skey [0] (.rng (.op2 .ix (.var 2) (.con (.int 0)))) (.call 18 (.cons (.call 17 (.cons (.var 1) (.cons (.con (.int 2)) .nil))) (.cons (.var 0) .nil)))))) (.seq (.set 5 (.call 59 (.cons (.var 2) .nil))) (.seq (.loop (.one 6) (.tup (.cons (.call 52 (.cons (.var 2) .nil)) (.cons (.call 55 (.cons (.var 2) (.cons (.var 4) .nil))) (.cons (.var 5) .nil)))) b61l0) (.seq (.loop (.one 7) (.rng (.op2 .ix (.var 5) (.con (.int 0)))) b61l1) (.seq (.ife (.or (.op2 .ne (.call 59 (.cons (.call 52 (.cons (.var 2) .nil)) .nil)) (.var 5)) (.op2 .ne (.call 59 (.cons (.var 5) .nil)) (.var 5))) (.ret (.con (.bool false))) .nx) (.seq (.set 8 (.comp none [2] (.rng (.op2 .ix (.var 2) (.con (.int 0)))) (.op2 .eq (.comp none [1,0] (.rng (.var 0)) (.call 60 (.cons (.var 1) (.cons (.var 2) (.cons (.var 0) .nil)))) (.var 0)) (.lst .nil)) (.var 0))) (.seq (.set 9 (.comp none [8] (.sl (.var 2) (.con (.int 1)) (.con (.int 3))) (.con (.bool true)) (.op1 .toTuple (.comp none [1] (.var 0) (.op2 .inn (.var 0) (.var 1)) (.op2 .idx (.var 1) (.var 0)))))) (.seq (.set 10 (.comp (some 2) [8] (.op2 .ix (.var 2) (.con (.int 3))) (.and (.op2 .inn (.var 0) (.var 2)) (.op2 .inn (.var 1) (.var 2))) (.tup (.cons (.op2 .idx (.var 2) (.var 0)) (.cons (.op2 .idx (.var 2) (.var 1)) .nil))))) (.ret (.op2 .eq (.var 5) (.tup (.cons (.op1 .len (.var 8)) (.cons (.op2 .ix (.var 9) (.con (.int 0))) (.cons (.op2 .ix (.var 9) (.con (.int 1))) (.cons (.op1 .toTuple (.var 10)) .nil)))))))))))))))))))
noncomputable abbrev f61:Fn:=⟨1,11,b61⟩
inductive Nm where
 | x | y
noncomputable def Nm.s:Nm→Str
 | .x=>"x"
 | .y=>"y"
inductive Fm where
 | yes | no | a (n:Nm) | b (n:Nm) | to (m n:Nm) | not (f:Fm) | both (f g:Fm) | either (f g:Fm)
noncomputable def Fm.pv:Fm→PV
 | .yes=>.str "yes"
 | .no=>.str "no"
 | .a n=>.tuple [.str "a",.str n.s]
 | .b n=>.tuple [.str "b",.str n.s]
 | .to m n=>.tuple [.str "to",.str m.s,.str n.s]
 | .not f=>.tuple [.str "not",f.pv]
 | .both f g=>.tuple [.str "both",f.pv,g.pv]
 | .either f g=>.tuple [.str "either",f.pv,g.pv]
@[simp] theorem isDict_fm (f:Fm):isDict f.pv=false:=by cases f <;> simp [Fm.pv]
noncomputable def Fm.dep:Fm→Nat
 | .yes | .no | .a _ | .b _ | .to _ _=>0
 | .not f=>f.dep+1
 | .both f g=>max f.dep g.dep+1
 | .either f g=>max f.dep g.dep+1
theorem run_at {T:Tab} {k f:Nat} {args:List PV} {F:Fn} (h:T f=some F) (hl:args.length=F.np):
  run T (k+1) f args=outV (evS (run T k) F.body (start F args)):=run_succ h hl
noncomputable def drawnD (n k:Int):Int:=(n+104729 * k+17) * 69621 % 2147483647
noncomputable def drawnI (n k:Int):Int:=(drawnD n k * drawnD n k+3 * drawnD n k+k) % 2147483629
theorem small_mod {n m:Int} (h0:0<m) (h1:m<2 ^ 64):small (n % m)=true:=by
 unfold small
 have a:=Int.emod_nonneg n (Int.ne_of_gt h0)
 have b:=Int.emod_lt_of_pos n h0
 simp only [Bool.and_eq_true,decide_eq_true_eq]
 lia
theorem drawn_run {T:Tab} (h:T 18=some f18) (k:Nat) (n j:Int):run T (k+1) 18 [.int n,.int j]=some (.int (drawnI n j)):=by
 rw [run_at h rfl]
 have e:small (drawnD n j)=true:=small_mod (by decide) (by decide)
 unfold drawnD at e
 simp [eqF,inF,b18,drawnI,drawnD,e,show small 104729=true from by decide,show small 69621=true from by decide,show small 3=true from by decide]
theorem leaf_at (i:Int) (h0:0≤i) (h1:i<12):∃ f:Fm,f.dep=0∧atI [PyData.tuple [.str "a",.str "x"],.tuple [.str "a",.str "y"],.tuple [.str "b",.str "x"],.tuple [.str "b",.str "y"],
  .tuple [.str "to",.str "x",.str "y"],.tuple [.str "to",.str "y",.str "x"],.tuple [.str "to",.str "x",.str "y"],.tuple [.str "to",.str "x",.str "x"],.tuple [.str "to",.str "y",.str "y"],.tuple [.str "to",.str "y",.str "x"],
  .str "yes",.str "no"] i=some f.pv:=by
 cases i with
 | negSucc n=>exact absurd h0 (Int.negSucc_not_nonneg n).mp
 | ofNat n=>
  have h:n<12:=Int.ofNat_lt.mp h1
  clear h0 h1
  match n,h with
  | 0,_=>exact ⟨.a .x,rfl,rfl⟩
  | 1,_=>exact ⟨.a .y,rfl,rfl⟩
  | 2,_=>exact ⟨.b .x,rfl,rfl⟩
  | 3,_=>exact ⟨.b .y,rfl,rfl⟩
  | 4,_=>exact ⟨.to .x .y,rfl,rfl⟩
  | 5,_=>exact ⟨.to .y .x,rfl,rfl⟩
  | 6,_=>exact ⟨.to .x .y,rfl,rfl⟩
  | 7,_=>exact ⟨.to .x .x,rfl,rfl⟩
  | 8,_=>exact ⟨.to .y .y,rfl,rfl⟩
  | 9,_=>exact ⟨.to .y .x,rfl,rfl⟩
  | 10,_=>exact ⟨.yes,rfl,rfl⟩
  | 11,_=>exact ⟨.no,rfl,rfl⟩
  | n+12,h=>lia
theorem eqv_int (i j:Int):PyData.eqv (.int i) (.int j)=decide (i=j):=by simp only [PyData.eqv];rfl
theorem eqv_str (i j:Str):PyData.eqv (.str i) (.str j)=(i==j):=by first | rfl | simp [eqF,inF,PyData.eqv]
theorem form_ex {T:Tab} (h18:T 18=some f18) (h19:T 19=some f19):∀ (d:Nat) (n:Int) (k:Nat),∃ f:Fm,f.dep≤d∧run T (k+d+2) 19 [.int n,.int d]=some f.pv:=by
 intro d
 induction d using Nat.strongRecOn with
 | _ d ih=>
  intro n k
  rw [run_at h19 rfl]
  obtain ⟨fl,dl,el⟩:=leaf_at (n / 10 % 12) (by lia) (by lia)
  by_cases hk:n % 10<3∨d=0
  ·refine ⟨fl,by lia,?_⟩
   by_cases hd:d=0
   ·subst hd
    simp [eqF,inF,b19,eqv_int,el,PyData.depth]
   ·have hk':n % 10<3:=by lia
    simp [eqF,inF,b19,eqv_int,hk',hd,el,PyData.depth]
  ·have hd:¬ d=0:=by lia
   have hn:¬ n % 10<3:=by lia
   obtain ⟨d',rfl⟩:∃ d',d=d'+1:=⟨d - 1,by lia⟩
   obtain ⟨g1,q1,r1⟩:=ih d' (by lia) (drawnI n 1) k
   obtain ⟨g2,q2,r2⟩:=ih d' (by lia) (drawnI n 2) k
   have e1:(((d'+1:Nat):Int) - 1)=(d':Int):=by lia
   have a1:=drawn_run h18 (k+d'+1) n 1
   have a2:=drawn_run h18 (k+d'+1) n 2
   have ek:k+(d'+1)+1=k+d'+2:=by lia
   rw [ek]
   have hdn:¬ ((d':Int)+1=0):=by lia
   by_cases h3:n % 10=3
   ·refine ⟨.not g1,by simp only [Fm.dep];lia,?_⟩
    simp [eqF,inF,b19,eqv_int,h3,PyData.depth,a1,r1,Fm.pv,hdn]
   ·by_cases h6:n % 10<6∧0<d'
    ·obtain ⟨d2,rfl⟩:∃ d2,d'=d2+1:=⟨d' - 1,by lia⟩
     obtain ⟨g3,q3,r3⟩:=ih d2 (by lia) (drawnI n 1) (k+1)
     have e2:(((d2+1+1:Nat):Int) - 2)=(d2:Int):=by lia
     have ek3:k+1+d2+2=k+(d2+1)+2:=by lia
     rw [ek3] at r3
     refine ⟨.either (.not g3) g2,by simp only [Fm.dep];lia,?_⟩
     have hd1:(1:Int)<(d2:Int)+1+1:=by lia
     have e1':(d2:Int)+1+1 - 1=(d2:Int)+1:=by lia
     have e2':(d2:Int)+1+1 - 2=(d2:Int):=by lia
     simp only [Int.natCast_add,Int.natCast_one] at r1 r2
     have hdn:¬ ((d2:Int)+1+1=0):=by lia
     simp [eqF,inF,b19,eqv_int,hn,h3,h6.1,hd1,PyData.depth,a1,a2,r1,r2,r3,Fm.pv,e1',e2',hdn]
    ·have hc:n % 10<6→¬ (1:Int)<(d':Int)+1:=by lia
     rcases (by lia:n % 10 % 2=0∨n % 10 % 2=1) with hp | hp
     ·refine ⟨.both g1 g2,by simp only [Fm.dep];lia,?_⟩
      by_cases h66:n % 10<6
      ·simp [eqF,inF,b19,eqv_int,hn,h3,h66,hc h66,PyData.depth,a1,a2,r1,r2,Fm.pv,hdn,hp,atI,ixN]
      ·simp [eqF,inF,b19,eqv_int,hn,h3,h66,PyData.depth,a1,a2,r1,r2,Fm.pv,hdn,hp,atI,ixN]
     ·refine ⟨.either g1 g2,by simp only [Fm.dep];lia,?_⟩
      by_cases h66:n % 10<6
      ·simp [eqF,inF,b19,eqv_int,hn,h3,h66,hc h66,PyData.depth,a1,a2,r1,r2,Fm.pv,hdn,hp,atI,ixN]
      ·simp [eqF,inF,b19,eqv_int,hn,h3,h66,PyData.depth,a1,a2,r1,r2,Fm.pv,hdn,hp,atI,ixN]
theorem loop_by {tg:Tg} {g:Env→Option Out} (I:Nat→Env→Prop):∀ (xs:List PV) (k:Nat),(∀ i x ρ,xs[i]?=some x→I (k+i) ρ→∃ ρ1 ρ2,bindS tg x ρ=some ρ1∧g ρ1=some (.nx ρ2)∧I (k+i+1) ρ2)→
  ∀ ρ,I k ρ→∃ ρ',loopF tg g xs ρ=some (.nx ρ')∧I (k+xs.length) ρ'
 | [],k,_,ρ,h=>⟨ρ,rfl,h⟩
 | x::xs,k,hs,ρ,h=>by
  obtain ⟨ρ1,ρ2,e1,e2,h2⟩:=hs 0 x ρ rfl h
  obtain ⟨ρ',e3,h3⟩:=loop_by (tg:=tg) (g:=g) I xs (k+1) (fun i y ρ e h=>by
   have:=hs (i+1) y ρ (by simpa using e) (by rw [show k+(i+1)=k+1+i from by lia];exact h)
   rw [show k+(i+1)+1=k+1+i+1 from by lia] at this
   exact this) ρ2 h2
  refine ⟨ρ',?_,?_⟩
  ·unfold loopF
   rw [e1,bnd_some,e2,turnO_nx]
   exact e3
  ·rw [List.length_cons,show k+(xs.length+1)=k+1+xs.length from by lia]
   exact h3
theorem comp_by {α:Type} {g:PV→Option (Option PV)} (c:α→PV) (p:α→Bool) (f:α→PV):∀ (xs:List α),(∀ x∈xs,g (c x)=some (if p x then some (f x) else none))→compF g (xs.map c)=some ((xs.filter p).map f)
 | [],_=>rfl
 | x::xs,h=>by
  have h1:=h x List.mem_cons_self
  have h2:=comp_by c p f xs fun y hy=>h y (List.mem_cons_of_mem _ hy)
  rw [List.map_cons]
  unfold compF
  rw [h1,h2]
  cases hp:p x <;> simp [eqF,inF,hp]
theorem comp_all {α:Type} {g:PV→Option (Option PV)} (c f:α→PV) (xs:List α) (h:∀ x∈xs,g (c x)=some (some (f x))):compF g (xs.map c)=some (xs.map f):=by
 have:=comp_by (g:=g) c (fun _=>true) f xs fun x hx=>by simpa using h x hx
 rw [this];congr 2;exact List.filter_eq_self.mpr fun _ _=>rfl
inductive Qt where
 | each | some
 deriving DecidableEq
noncomputable def Qt.s:Qt→Str
 | .each=>"each"
 | .some=>"some"
structure Dm where
 one:Qt
 other:Qt
 f:Fm
noncomputable def Dm.pv (d:Dm):PV:=.tuple [.str d.one.s,.str d.other.s,d.f.pv]
@[simp] theorem isDict_dm (d:Dm):isDict d.pv=false:=by first | rfl | simp [eqF,inF,Dm.pv]
noncomputable def Dm.mark (d:Dm):Bool:=decide (d.one=.some)&&decide (d.other=.each)
noncomputable def rowPv (r:List Dm):PV:=.tuple (r.map Dm.pv)
@[simp] theorem isDict_row (r:List Dm):isDict (rowPv r)=false:=by first | rfl | simp [eqF,inF,rowPv]
theorem mark_eqv (a b:Qt):PyData.eqv (.tuple [.str a.s,.str b.s]) (.tuple [.str "some",.str "each"])=(decide (a=.some)&&decide (b=.each)):=by
 cases a <;> cases b <;> decide +kernel
theorem depth_two (a b:Str):(PyData.tuple [.str a,.str b]).depth=1:=by first | rfl | simp [eqF,inF,PyData.depth,PyData.depthAll]
theorem demand_ex {T:Tab} (h18:T 18=some f18) (h19:T 19=some f19) (h20:T 20=some f20) (e:Nat) (n:Int) (k:Nat):∃ d:Dm,d.f.dep≤e∧run T (k+e+3) 20 [.int n,.int e]=some d.pv:=by
 rw [run_at h20 rfl]
 obtain ⟨f,hf,rf⟩:=form_ex h18 h19 e (n / 12) k
 have one:∃ a:Qt,atI [PyData.str "each",.str "each",.str "each",.str "some"] (n % 4)=some (.str a.s):=by
  rcases (by lia:n % 4=0∨n % 4=1∨n % 4=2∨n % 4=3) with h | h | h | h <;> rw [h]
  ·exact ⟨.each,rfl⟩
  ·exact ⟨.each,rfl⟩
  ·exact ⟨.each,rfl⟩
  ·exact ⟨.some,rfl⟩
 have two:∃ a:Qt,atI [PyData.str "some",.str "each",.str "some"] (n / 4 % 3)=some (.str a.s):=by
  rcases (by lia:n / 4 % 3=0∨n / 4 % 3=1∨n / 4 % 3=2) with h | h | h <;> rw [h]
  ·exact ⟨.some,rfl⟩
  ·exact ⟨.each,rfl⟩
  ·exact ⟨.some,rfl⟩
 obtain ⟨a,ea⟩:=one
 obtain ⟨b,eb⟩:=two
 refine ⟨⟨a,b,f⟩,hf,?_⟩
 simp [eqF,inF,b20,ea,eb,rf,Dm.pv]
noncomputable def marks (r:List Dm):Nat:=(r.filter Dm.mark).length
structure RowOk (m e:Nat) (r:List Dm):Prop where
 len:r.length≤m
 dep:∀ d∈r,d.f.dep≤e
 two:marks r≤2
theorem cut2 (a b c:PV):cut [a,b,c] none (some 2)=[a,b]:=by
 simp [eqF,inF,cut,sIx]
theorem depth_int (i:Int):(PyData.int i).depth=0:=by first | rfl | simp [eqF,inF,PyData.depth]
theorem depth_str (i:Str):(PyData.str i).depth=0:=by first | rfl | simp [eqF,inF,PyData.depth]
theorem rng_run {cf:Nat→List PV→Option PV} {a:E} {ρ:Env} {j:Nat} (h:evE cf a ρ=some (.int j)) (hj:j≤1000000):evE cf (.rng a) ρ=some (.list ((List.range j).map fun k=>.int (k:Nat))):=by
 rw [evE,h,bnd_some]
 have c:-1000000≤(0:Int)∧(0:Int)≤1000000∧-1000000≤(j:Int)∧(j:Int)≤1000000:=⟨by decide,by decide,by lia,by lia⟩
 simp only [rngI,rngF]
 rw [if_pos c]
 simp
theorem loop_run {cf:Nat→List PV→Option PV} {t:Tg} {it:E} {body:S} {ρ:Env} {p:PV} {xs:List PV} {o:Option Out} (h:evE cf it ρ=some p) (hx:seqOf p=some xs) (hl:loopF t (evS cf body) xs ρ=o):evS cf (.loop t it body) ρ=o:=by
 rw [evS,h,bnd_some,hx];exact hl
theorem marks_snoc (r:List Dm) (d:Dm):marks (r++[d])=marks r+(if d.mark then 1 else 0):=by
 unfold marks
 rw [List.filter_append,List.length_append]
 cases h:d.mark <;> simp [eqF,inF,h]
theorem mark_is (d:Dm):PyData.eqv (.tuple [.str d.one.s,.str d.other.s]) (.tuple [.str "some",.str "each"])=d.mark:=mark_eqv d.one d.other
theorem seq_nx {cf:Nat→List PV→Option PV} {a b:S} {ρ ρ1:Env} {o:Option Out} (h1:evS cf a ρ=some (.nx ρ1)) (h2:evS cf b ρ1=o):evS cf (.seq a b) ρ=o:=by
 rw [evS,h1];exact h2
theorem seq_rt {cf:Nat→List PV→Option PV} {a b:S} {ρ:Env} {p:PV} (h1:evS cf a ρ=some (.rt p)):evS cf (.seq a b) ρ=some (.rt p):=by
 rw [evS,h1];rfl
theorem set_nx {cf:Nat→List PV→Option PV} {i:Nat} {e:E} {ρ:Env} {p:PV} (h:evE cf e ρ=some p):evS cf (.set i e) ρ=some (.nx (ρ.set i (.val p))):=by
 rw [evS,h];rfl
theorem ret_rt {cf:Nat→List PV→Option PV} {e:E} {ρ:Env} {p:PV} (h:evE cf e ρ=some p):evS cf (.ret e) ρ=some (.rt p):=by
 rw [evS,h];rfl
theorem ife_t {cf:Nat→List PV→Option PV} {c:E} {a b:S} {ρ:Env} {p:PV} {o:Option Out} (h:evE cf c ρ=some p) (t:truthF p=some true) (h2:evS cf a ρ=o):evS cf (.ife c a b) ρ=o:=by
 rw [evS,h,bnd_some,t];exact h2
theorem ife_f {cf:Nat→List PV→Option PV} {c:E} {a b:S} {ρ:Env} {p:PV} {o:Option Out} (h:evE cf c ρ=some p) (t:truthF p=some false) (h2:evS cf b ρ=o):evS cf (.ife c a b) ρ=o:=by
 rw [evS,h,bnd_some,t];exact h2
theorem ife_b {cf:Nat→List PV→Option PV} {c:E} {a b:S} {ρ:Env} {t:Bool} {o:Option Out} (h:evE cf c ρ=some (.bool t)) (h1:t=true→evS cf a ρ=o) (h2:t=false→evS cf b ρ=o):evS cf (.ife c a b) ρ=o:=by
 cases t with
 | true=>exact ife_t h rfl (h1 rfl)
 | false=>exact ife_f h rfl (h2 rfl)
theorem row_marks (cf:Nat→List PV→Option PV) (r:List Dm) (ρ:Env) (e:evE cf (.var 2) ρ=some (rowPv r)):
  evE cf (.comp none [] (.var 2) (.op2 .eq (.sl (.var 0) (.con .none) (.con (.int 2))) (.tup (.cons (.con (.str "some")) (.cons (.con (.str "each")) .nil)))) (.var 0)) ρ=some (.list ((r.filter Dm.mark).map Dm.pv)):=by
 rw [evE,e]
 simp only [rowPv,bnd_some,seqOf]
 rw [comp_by Dm.pv Dm.mark Dm.pv r]
 ·rfl
 ·intro d _
  simp [eqF,inF,Dm.pv,cut2,depth_two,mark_is]
  cases h:d.mark <;> simp
theorem row_turn {T : Tab} (h18 : T 18 = some f18) (h19 : T 19 = some f19) (h20 : T 20 = some f20) (k : Nat) (n j : Int) (m : PV) (r : List Dm) (hr : marks r ≤ 2) (hl : r.length ≤ 100) (s4 s5 : Sl) :
    ∃ (d : Dm) (t4 t5 : Sl), d.f.dep ≤ 3 ∧ marks (r ++ [d]) ≤ 2 ∧
      evS (run T (k + 6)) b21l0 [.val (.int n), .val m, .val (rowPv r), .val (.int j), s4, s5] = some (.nx [.val (.int n), .val m, .val (rowPv (r ++ [d])), .val (.int j), t4, t5]) := by
  obtain ⟨d, hd, ed⟩ := demand_ex h18 h19 h20 3 (drawnI n j) k
  have ed' : run T (k + 6) 20 [.int (drawnI n j), .int 3] = some d.pv := ed
  have em := row_marks (run T (k + 6)) r [.val (.int n), .val m, .val (rowPv r), .val (.int j), .val d.pv, s5] (by first | rfl | simp)
  have dr := drawn_run h18 (k + 5) n j
  have hll : r.length + 1 ≤ 16777216 := by lia
  have hml : ((r.filter Dm.mark).length : Int) = (marks r : Int) := rfl
  refine ⟨if d.mark = true ∧ marks r = 2 then ⟨.each, .some, d.f⟩ else d, .val (if d.mark = true ∧ marks r = 2 then (⟨.each, .some, d.f⟩ : Dm) else d).pv, .val (.list ((r.filter Dm.mark).map Dm.pv)), ?_, ?_, ?_⟩
  · split <;> exact hd
  · rw [marks_snoc]
    split
    · have : (⟨.each, .some, d.f⟩ : Dm).mark = false := rfl
      rw [this]; simpa using hr
    · rename_i hc
      cases hm : d.mark with
      | false => simpa using hr
      | true => have : marks r ≠ 2 := fun z => hc ⟨hm, z⟩
                simp; lia
  · unfold b21l0
    refine seq_nx (set_nx (p := d.pv) (by first | rfl | simp [eqF, inF, dr, ed'])) ?_
    refine seq_nx (set_nx em) ?_
    have ec : evE (run T (k + 6)) (.and (.op2 .eq (.sl (.var 4) (.con .none) (.con (.int 2))) (.tup (.cons (.con (.str "some")) (.cons (.con (.str "each")) .nil)))) (.op2 .eq (.op1 .len (.var 5)) (.con (.int 2))))
        [.val (.int n), .val m, .val (rowPv r), .val (.int j), .val d.pv, .val (.list ((r.filter Dm.mark).map Dm.pv))] = some (.bool (decide (d.mark = true ∧ marks r = 2))) := by
      cases hm : d.mark with
      | false => simp [eqF, inF, Dm.pv, cut2, depth_two, mark_is, hm]
      | true =>
        have hq : decide (((r.filter Dm.mark).length : Int) = 2) = decide (marks r = 2) := by
          rw [hml]
          by_cases h2 : marks r = 2
          · simp [eqF, inF, h2]
          · have h3 : ¬ ((marks r : Nat) : Int) = 2 := by lia
            simp [eqF, inF, h2, h3]
        simp [eqF, inF, Dm.pv, cut2, depth_two, mark_is, hm, depth_int, eqv_int]; lia
    refine seq_nx (ρ1 := [.val (.int n), .val m, .val (rowPv r), .val (.int j), .val (if d.mark = true ∧ marks r = 2 then (⟨.each, .some, d.f⟩ : Dm) else d).pv, .val (.list ((r.filter Dm.mark).map Dm.pv))]) (ife_b ec (fun ht => ?_) (fun hf => ?_)) ?_
    · have ht' := of_decide_eq_true ht
      rw [if_pos ht']
      refine set_nx (by first | rfl | simp [eqF, inF, Dm.pv, atI, ixN, Qt.s])
    · have hf' := of_decide_eq_false hf
      rw [if_neg hf']
      rfl
    · refine set_nx (p := rowPv (r ++ [if d.mark = true ∧ marks r = 2 then ⟨.each, .some, d.f⟩ else d])) ?_
      simp [eqF, inF, rowPv, hll]
theorem row_ex {T:Tab} (h18:T 18=some f18) (h19:T 19=some f19) (h20:T 20=some f20) (h21:T 21=some f21) (m:Nat) (hm:m≤10) (n:Int) (k:Nat):
  ∃ r:List Dm,RowOk m 3 r∧run T (k+7) 21 [.int n,.int m]=some (rowPv r):=by
 rw [run_at h21 rfl]
 have hm0:(0:Int)<(m:Int)+1:=by lia
 have hn0:0≤n % ((m:Int)+1):=Int.emod_nonneg _ (by lia)
 have hn1:n % ((m:Int)+1)<(m:Int)+1:=Int.emod_lt_of_pos _ hm0
 obtain ⟨j,ej⟩:∃ j:Nat,n % ((m:Int)+1)=(j:Int):=⟨(n % ((m:Int)+1)).toNat,by lia⟩
 have hj:j≤m:=by lia
 obtain ⟨ρ',e1,hI⟩:=loop_by (tg:=.one 3) (g:=evS (run T (k+6)) b21l0)
  (fun i ρ=>i≤m→∃ r:List Dm,r.length=i∧(∀ d∈r,d.f.dep≤3)∧marks r≤2∧∃ s3 s4 s5,ρ=[.val (.int n),.val (.int m),.val (rowPv r),s3,s4,s5])
  ((List.range j).map fun k=>.int (k:Nat)) 0 (fun i x ρ ex hI=>by
   have hi:i<j:=by simpa using (List.getElem?_eq_some_iff.mp ex).1
   have ex':PyData.int (i:Nat)=x:=by simpa [hi] using ex
   subst ex'
   by_cases him:0+i≤m
   ·obtain ⟨r,hl,hd,h2,s3,s4,s5,rfl⟩:=hI him
    obtain ⟨d,t4,t5,dd,d2,ee⟩:=row_turn h18 h19 h20 k n (i:Nat) (.int m) r h2 (by lia) s4 s5
    refine ⟨_,_,rfl,ee,fun _=>⟨r++[d],by first | rfl | simp [eqF,inF,hl],fun c hc=>?_,d2,_,_,_,rfl⟩⟩
    rcases List.mem_append.mp hc with hc | hc
    ·exact hd c hc
    ·rw [List.mem_singleton.mp hc];exact dd
   ·lia) [.val (.int n),.val (.int m),.val (.tuple []),.un,.un,.un] (fun _=>⟨[],rfl,by simp,by first | rfl | simp [eqF,inF,marks],_,_,_,rfl⟩)
 obtain ⟨r,hl,hd,h2,s3,s4,s5,rfl⟩:=hI (by simp;lia)
 have hl':r.length≤m:=by rw [hl];simp;lia
 refine ⟨r,⟨hl',hd,h2⟩,?_⟩
 have body:evS (run T (k+6)) b21 (start f21 [.int n,.int m])=some (.rt (rowPv r)):=by
  unfold b21
  refine seq_nx (set_nx (p:=.tuple []) (by first | rfl | simp)) ?_
  refine seq_nx (loop_run (rng_run (j:=j) ?_ (by lia)) rfl e1) (ret_rt (by first | rfl | simp))
  simp [eqF,inF,hm0,ej]
 exact congrArg outV body
theorem cell_ex {T:Tab} (h16:T 16=some f16) (k:Nat) (ns:List Int) (j:Nat):∃ c:Int,run T (k+1) 16 [.list (ns.map .int),.int j]=some (.int c):=by
 rw [run_at h16 rfl]
 by_cases h:(j:Int)<(ns.length:Int)
 ·refine ⟨ns.getD j 0,?_⟩
  have hj:j<ns.length:=by lia
  simp [eqF,inF,b16,h,atI,ixN,hj]
 ·have hj:¬ j<ns.length:=by lia
  refine ⟨0,?_⟩
  simp [eqF,inF,b16,h,hj]
theorem mixed_ex {T:Tab} (h16:T 16=some f16) (h17:T 17=some f17) (k:Nat) (ns:List Int) (j:Nat):∃ c:Int,0≤c∧c<2147483629∧run T (k+2) 17 [.list (ns.map .int),.int j]=some (.int c):=by
 obtain ⟨c,hc⟩:=cell_ex h16 k ns j
 rw [run_at h17 rfl]
 have e:small ((c+7919 * (j:Int)+1) * 48271 % 2147483647)=true:=small_mod (by decide) (by decide)
 refine ⟨((c+7919 * (j:Int)+1) * 48271 % 2147483647 * ((c+7919 * (j:Int)+1) * 48271 % 2147483647)+7 * ((c+7919 * (j:Int)+1) * 48271 % 2147483647)+j) % 2147483629,Int.emod_nonneg _ (by decide),Int.emod_lt_of_pos _ (by decide),?_⟩
 simp [eqF,inF,b17,hc,e,show small 7919=true from by decide,show small 48271=true from by decide,show small 7=true from by decide]
theorem cut1_2 (a b:PV):cut [a,b] (some 1) none=[b]:=by first | rfl | simp [eqF,inF,cut,sIx]
theorem cut1_3 (a b c:PV):cut [a,b,c] (some 1) none=[b,c]:=by first | rfl | simp [eqF,inF,cut,sIx]
inductive Pl:PV→Prop where
 | none:Pl .none
 | bool (b:Bool):Pl (.bool b)
 | int (i:Int):Pl (.int i)
 | str (x:Str):Pl (.str x)
 | list {ps:List PV} (h:∀ p∈ps,Pl p):Pl (.list ps)
 | tuple {ps:List PV} (h:∀ p∈ps,Pl p):Pl (.tuple ps)
theorem Pl.nd {p:PV} (h:Pl p):isDict p=false:=by cases h <;> rfl
@[simp] theorem ite_and (x y:Bool):(if x=true then some (PyData.bool y) else some (PyData.bool x))=some (.bool (x&&y)):=by cases x <;> rfl
@[simp] theorem ite_and' (x y:Bool):(if x=true then some (PyData.bool y) else some (PyData.bool false))=some (.bool (x&&y)):=by cases x <;> rfl
@[simp] theorem ite_or (x y:Bool):(if x=true then some (PyData.bool x) else some (PyData.bool y))=some (.bool (x||y)):=by cases x <;> rfl
@[simp] theorem ite_or' (x y:Bool):(if x=true then some (PyData.bool true) else some (PyData.bool y))=some (.bool (x||y)):=by cases x <;> rfl
noncomputable def isS (s:Str):PV→Bool
 | .str t=>decide (t=s)
 | _=>false
@[simp] theorem isS_e (s t:Str):isS s (.str t)=decide (t=s):=rfl
theorem beq_dec (s t:Str):(s==t)=decide (s=t):=by
 by_cases h:s=t
 ·simp [h]
 ·rw [beq_eq_false_iff_ne.mpr h,decide_eq_false h]
theorem eqv_l (p:PV) (s:Str):PyData.eqv p (.str s)=isS s p:=by cases p <;> simp [PyData.eqv,isS,beq_dec]
theorem eqv_r (p:PV) (s:Str):PyData.eqv (.str s) p=isS s p:=by
 cases p <;> simp [PyData.eqv,isS,beq_dec,eq_comm]
theorem eq_s (p:PV) (s:Str) (h:isDict p=false):eqF p (.str s)=some (isS s p):=by
 simp [eqF,h,eqv_l,depth_str]
noncomputable def in2 (s t:Str) (p:PV):Bool:=isS s p||isS t p
theorem in_2 (p:PV) (s t:Str) (h:isDict p=false):inF p (.tuple [.str s,.str t])=some (in2 s t p):=by
 have e:min (PyData.depthAll [.str s,.str t]) p.depth≤180:=by first | rfl | simp [PyData.depthAll,depth_str]
 simp only [inF,h,e]
 simp [eqv_r,in2]
theorem eq_ii (i j:Int):eqF (.int i) (.int j)=some (decide (i=j)):=by first | rfl | simp [eqF,eqv_int,depth_int]
theorem comp_self {cf:Nat→List PV→Option PV} {caps:List Nat} {it cond:E} {ρ:Env} {s:PV} {xs:List PV} (P:PV→Bool) (h:evE cf it ρ=some s) (hx:seqOf s=some xs) (hd:∀ x∈xs,isDict x=false)
  (hc:∀ x∈xs,evE cf cond (.val x::caps.map (ρ.getD · .un))=some (.bool (P x))):evE cf (.comp none caps it cond (.var 0)) ρ=some (.list (xs.filter P)):=by
 rw [evE,h,bnd_some,hx,bnd_some]
 have key:=comp_by (g:=fun x=>bnd (bindT none x) fun bs=>bnd (evE cf cond (bs++caps.map (ρ.getD · .un))) fun c=>bnd (truthF c) fun t=>tst t (bnd (evE cf (.var 0) (bs++caps.map (ρ.getD · .un))) eltF) (some none)) id P id xs fun x hxm=>by
  have c:=hc x hxm
  simp only [id,bindT_e1,bnd_some,List.cons_append,List.nil_append,c,truthF_e2]
  cases e:P x <;> simp [hd x hxm]
 rw [List.map_id] at key
 rw [key,bnd_some,List.map_id]
theorem all_map {α:Type} (f:α→Bool) (xs:List α):(xs.map f).all id=xs.all f:=by simp
theorem comp_map {cf:Nat→List PV→Option PV} {caps:List Nat} {it elt:E} {ρ:Env} {s:PV} {xs:List PV} (F:PV→PV) (h:evE cf it ρ=some s) (hx:seqOf s=some xs)
  (hc:∀ x∈xs,evE cf elt (.val x::caps.map (ρ.getD · .un))=some (F x)) (hd:∀ x∈xs,isDict (F x)=false):evE cf (.comp none caps it (.con (.bool true)) elt) ρ=some (.list (xs.map F)):=by
 rw [evE,h,bnd_some,hx,bnd_some]
 have key:=comp_all (g:=fun x=>bnd (bindT none x) fun bs=>bnd (evE cf (.con (.bool true)) (bs++caps.map (ρ.getD · .un))) fun c=>bnd (truthF c) fun t=>tst t (bnd (evE cf elt (bs++caps.map (ρ.getD · .un))) eltF) (some none)) id F xs fun x hxm=>by
  have c:=hc x hxm
  simp only [id,bindT_e1,bnd_some,List.cons_append,List.nil_append,evE,c,truthF_e2,tst_true,eltF_e1,hd x hxm,tst_false]
 rw [List.map_id] at key
 rw [key,bnd_some]
noncomputable def numB (n:Int):PV→Bool
 | .int i=>decide (0≤i)&&decide (i<n)
 | _=>false
noncomputable def toI:PV→Int
 | .int i=>i
 | _=>0
theorem intsOf_map (ns:List Int):intsOf (ns.map PyData.int)=some ns:=by
 induction ns with
 | nil=>rfl
 | cons n ns ih=>simp [ih]
structure Wd where
 n:Nat
 a:List Nat
 b:List Nat
 e:List (Nat×Nat)
noncomputable def nPv (k:Nat):PV:=.int (k:Nat)
noncomputable def pPv (p:Nat×Nat):PV:=.tuple [nPv p.1,nPv p.2]
noncomputable def Wd.pv (w:Wd):PV:=.tuple [nPv w.n,.tuple (w.a.map nPv),.tuple (w.b.map nPv),.tuple (w.e.map pPv)]
noncomputable def rowOf (n:Nat) (pe:Nat→Nat→Bool) (x:Nat):List (Nat×Nat):=((List.range n).filter (pe x)).map fun y=>(x,y)
noncomputable def mkW (n:Nat) (pa pb:Nat→Bool) (pe:Nat→Nat→Bool):Wd:=⟨n,(List.range n).filter pa,(List.range n).filter pb,(List.range n).flatMap (rowOf n pe)⟩
@[simp] theorem isDict_n (k:Nat):isDict (nPv k)=false:=rfl
@[simp] theorem isDict_p (p:Nat×Nat):isDict (pPv p)=false:=rfl
theorem own_nx {cf:Nat→List PV→Option PV} {i:Nat} {e:E} {ρ:Env} {ps:List PV} (h:evE cf e ρ=some (.list ps)):evS cf (.own i e) ρ=some (.nx (ρ.set i (.own ps))):=by
 rw [evS,h];rfl
theorem app_nx {cf:Nat→List PV→Option PV} {i:Nat} {e:E} {ρ:Env} {ps:List PV} {p:PV} (h:evE cf e ρ=some p) (hi:ρ[i]?=some (.own ps)) (hl:ps.length<1000000) (hd:isDict p=false):evS cf (.app i e) ρ=some (.nx (ρ.set i (.own (ps++[p])))):=by
 rw [evS,h,bnd_some,hi,bnd_some,appF,if_pos ⟨hl,hd⟩]
theorem comp_range {cf:Nat→List PV→Option PV} {caps:List Nat} {it cond:E} {ρ:Env} {n:Nat} (P:Nat→Bool) (h:evE cf it ρ=some (.list ((List.range n).map nPv)))
  (hc:∀ k,k<n→evE cf cond (.val (nPv k)::caps.map (ρ.getD · .un))=some (.bool (P k))):evE cf (.comp none caps it cond (.var 0)) ρ=some (.list (((List.range n).filter P).map nPv)):=by
 rw [comp_self (s:=.list ((List.range n).map nPv)) (fun p=>P (toI p).toNat) h rfl (fun x hx=>by obtain ⟨k,_,rfl⟩:=List.mem_map.mp hx;rfl) fun x hx=>by
  obtain ⟨k,hk,rfl⟩:=List.mem_map.mp hx
  exact hc k (List.mem_range.mp hk)]
 rw [List.filter_map];rfl
theorem rng_n {cf:Nat→List PV→Option PV} {a:E} {ρ:Env} {j:Nat} (h:evE cf a ρ=some (nPv j)) (hj:j≤1000000):evE cf (.rng a) ρ=some (.list ((List.range j).map nPv)):=rng_run h hj
theorem rng_get {n i:Nat} {x:PV} (h:((List.range n).map nPv)[i]?=some x):i<n∧x=nPv i:=by
 have hi:i<n:=by simpa using (List.getElem?_eq_some_iff.mp h).1
 refine ⟨hi,?_⟩
 have:((List.range n).map nPv)[i]?=some (nPv i):=by first | rfl | simp [hi]
 rw [this] at h
 exact (Option.some.inj h).symm
theorem rowOf_len (n:Nat) (pe:Nat→Nat→Bool) (x:Nat):(rowOf n pe x).length≤n:=by
 unfold rowOf
 rw [List.length_map]
 exact Nat.le_trans (List.length_filter_le _ _) (by first | rfl | simp)
theorem rows_len (n:Nat) (pe:Nat→Nat→Bool):∀ l:List Nat,(l.flatMap (rowOf n pe)).length≤l.length * n
 | []=>by simp
 | x::l=>by
  have:=rows_len n pe l
  have:=rowOf_len n pe x
  rw [List.flatMap_cons,List.length_append,List.length_cons,Nat.succ_mul]
  lia
theorem world22 {T:Tab} (h18:T 18=some f18) (h:T 22=some f22) (k:Nat) (num:Int) (m:Nat) (hm:1≤m) (hm2:m≤100):
  ∃ n pa pb pe,1≤n∧n≤m∧run T (k+2) 22 [.int num,.int m]=some (mkW n pa pb pe).pv:=by
 rw [run_at h rfl]
 have hm0:(0:Int)<(m:Int):=by lia
 have g0:=Int.emod_nonneg num (show (m:Int)≠0 by lia)
 have g1:=Int.emod_lt_of_pos num hm0
 obtain ⟨n,en⟩:∃ n:Nat,1+num % (m:Int)=(n:Int):=⟨(1+num % (m:Int)).toNat,by lia⟩
 have hn1:1≤n:=by lia
 have hn2:n≤m:=by lia
 let mk:Int→Nat→Bool:=fun at' x=>decide (drawnI num (10 * at'+x) / 4 % 2=1)
 let sh:Int:=1+num / 24 % 4
 let pe:Nat→Nat→Bool:=fun x y=>decide (drawnI num (30+8 * x+y) / 4 % 5<sh)
 refine ⟨n,mk 0,mk 1,pe,hn1,hn2,?_⟩
 have sm10:small 10=true:=by decide
 have sm8:small 8=true:=by decide
 
 have turn0:∀ (at':Int) (ps:List PV) (hp:ps.length<100) (s5 s6 s7 s8:Sl),evS (run T (k+1)) b22l0 [.val (.int num),.val (.int m),.val (nPv n),.own ps,.val (.int at'),s5,s6,s7,s8]=
   some (.nx [.val (.int num),.val (.int m),.val (nPv n),.own (ps++[.tuple (((List.range n).filter (mk at')).map nPv)]),.val (.int at'),s5,s6,s7,s8]):=by
  intro at' ps hp s5 s6 s7 s8
  unfold b22l0
  have c:evE (run T (k+1)) (.comp none [0,4] (.rng (.var 2)) (.op2 .eq (.op2 .mod (.op2 .fdiv (.call 18 (.cons (.var 1) (.cons (.op2 .add (.op2 .mul (.con (.int 10)) (.var 2)) (.var 0)) .nil))) (.con (.int 4))) (.con (.int 2))) (.con (.int 1))) (.var 0))
    [.val (.int num),.val (.int m),.val (nPv n),.own ps,.val (.int at'),s5,s6,s7,s8]=some (.list (((List.range n).filter (mk at')).map nPv)):=by
   refine comp_range (mk at') (rng_n (by first | rfl | simp) (by lia)) fun x hx=>?_
   have d:=drawn_run h18 k num (10 * at'+x)
   simp [nPv,sm10,d,eq_ii,mk]
  exact app_nx (p:=.tuple (((List.range n).filter (mk at')).map nPv)) (by rw [evE,c];rfl) rfl (by lia) rfl
 
 have turn1:∀ (x:Nat) (ps:List (Nat×Nat)) (hp:ps.length≤100 * 100) (s3 s4:Sl) (s8:Sl),∃ t8,evS (run T (k+1)) b22l2 [.val (.int num),.val (.int m),.val (nPv n),s3,s4,.own (ps.map pPv),.val (.int sh),.val (nPv x),s8]=
   some (.nx [.val (.int num),.val (.int m),.val (nPv n),s3,s4,.own ((ps++rowOf n pe x).map pPv),.val (.int sh),.val (nPv x),t8]):=by
  intro x ps hp s3 s4 s8
  unfold b22l2
  obtain ⟨ρ',e1,hI⟩:=loop_by (tg:=.one 8) (g:=evS (run T (k+1)) b22l1)
   (fun i ρ=>i≤n→∃ t8,ρ=[.val (.int num),.val (.int m),.val (nPv n),s3,s4,.own ((ps++((List.range i).filter (pe x)).map fun y=>(x,y)).map pPv),.val (.int sh),.val (nPv x),t8])
   ((List.range n).map nPv) 0 (fun i y ρ ey hI=>by
    obtain ⟨hi,rfl⟩:=rng_get ey
    obtain ⟨t8,rfl⟩:=hI (by lia)
    have d:=drawn_run h18 k num (30+8 * (x:Int)+(0+i:Nat))
    have hlen:(List.map (fun y=>(x,y)) (List.filter (pe x) (List.range (0+i)))).length≤100:=by
     rw [List.length_map]
     exact Nat.le_trans (List.length_filter_le _ _) (by simp;lia)
    have dd:=drawn_run h18 k num (30+8 * (x:Int)+(i:Nat))
    have hps:((ps++List.map (fun y=>(x,y)) (List.filter (pe x) (List.range (0+i)))).map pPv).length<1000000:=by
     rw [List.length_map,List.length_append];lia
    refine ⟨_,[.val (.int num),.val (.int m),.val (nPv n),s3,s4,.own ((ps++((List.range (0+i+1)).filter (pe x)).map fun y=>(x,y)).map pPv),.val (.int sh),.val (nPv x),.val (nPv i)],rfl,?_,fun _=>⟨.val (nPv i),rfl⟩⟩
    have hstep:ps++((List.range (0+i+1)).filter (pe x)).map (fun y=>(x,y))=(ps++((List.range (0+i)).filter (pe x)).map fun y=>(x,y))++(if pe x i=true then [(x,i)] else []):=by
     rw [List.range_succ,Nat.zero_add,List.filter_append,List.map_append,← List.append_assoc]
     cases ec:pe x i <;> simp [ec]
    rw [hstep]
    revert hps
    generalize (ps++((List.range (0+i)).filter (pe x)).map fun y=>(x,y))=A
    intro hps
    show evS (run T (k+1)) b22l1 [.val (.int num),.val (.int m),.val (nPv n),s3,s4,.own (A.map pPv),.val (.int sh),.val (nPv x),.val (nPv i)]=_
    unfold b22l1
    have c:evE (run T (k+1)) (.op2 .lt (.op2 .mod (.op2 .fdiv (.call 18 (.cons (.var 0) (.cons (.op2 .add (.op2 .add (.con (.int 30)) (.op2 .mul (.con (.int 8)) (.var 7))) (.var 8)) .nil))) (.con (.int 4))) (.con (.int 5))) (.var 6))
      [.val (.int num),.val (.int m),.val (nPv n),s3,s4,.own (A.map pPv),.val (.int sh),.val (nPv x),.val (nPv i)]=some (.bool (pe x i)):=by
     simp [nPv,sm8,dd,pe]
    cases ec:pe x i with
    | false=>
     rw [ec] at c
     rw [if_neg (by decide),List.append_nil]
     exact ife_f c rfl rfl
    | true=>
     rw [ec] at c
     rw [if_pos rfl,List.map_append]
     exact ife_t c rfl (app_nx (p:=pPv (x,i)) (by first | rfl | simp [pPv]) rfl hps rfl))
   [.val (.int num),.val (.int m),.val (nPv n),s3,s4,.own (ps.map pPv),.val (.int sh),.val (nPv x),s8] (fun _=>⟨s8,by simp⟩)
  obtain ⟨t8,rfl⟩:=hI (by first | rfl | simp)
  refine ⟨t8,loop_run (rng_n (j:=n) (by first | rfl | simp) (by lia)) rfl ?_⟩
  rw [e1]
  simp [rowOf]
 have body:evS (run T (k+1)) b22 [.val (.int num),.val (.int m),.un,.un,.un,.un,.un,.un,.un]=some (.rt (mkW n (mk 0) (mk 1) pe).pv):=by
  unfold b22
  refine seq_nx (set_nx (p:=nPv n) (by first | rfl | simp [hm0,show 0<m from by lia,en,nPv])) ?_
  refine seq_nx (own_nx (ps:=[]) (by first | rfl | simp)) ?_
  refine seq_nx (ρ1:=[.val (.int num),.val (.int m),.val (nPv n),.own [.tuple (((List.range n).filter (mk 0)).map nPv),.tuple (((List.range n).filter (mk 1)).map nPv)],.val (.int 1),.un,.un,.un,.un]) (loop_run (p:=.tuple [.int 0,.int 1]) (xs:=[.int 0,.int 1]) (by first | rfl | simp) rfl ?_) ?_
  ·have t0:=turn0 0 [] (by first | rfl | simp) .un .un .un .un
   have t1:=turn0 1 [.tuple (((List.range n).filter (mk 0)).map nPv)] (by first | rfl | simp) .un .un .un .un
   simp only [loopF,bindS,List.set_cons_succ,List.set_cons_zero,bnd_some,t0,turnO_nx,List.nil_append]
   rw [t1]
   rfl
  refine seq_nx (own_nx (ps:=[]) (by first | rfl | simp)) ?_
  refine seq_nx (set_nx (p:=.int sh) (by first | rfl | simp [sh])) ?_
  obtain ⟨ρ',e1,hI⟩:=loop_by (tg:=.one 7) (g:=evS (run T (k+1)) b22l2)
   (fun i ρ=>i≤n→∃ t7 t8,ρ=[.val (.int num),.val (.int m),.val (nPv n),.own [.tuple (((List.range n).filter (mk 0)).map nPv),.tuple (((List.range n).filter (mk 1)).map nPv)],.val (.int 1),.own (((List.range i).flatMap (rowOf n pe)).map pPv),.val (.int sh),t7,t8])
   ((List.range n).map nPv) 0 (fun i x ρ ex hI=>by
    obtain ⟨hi,rfl⟩:=rng_get ex
    obtain ⟨t7,t8,rfl⟩:=hI (by lia)
    have hlen:((List.range (0+i)).flatMap (rowOf n pe)).length≤100 * 100:=by
     refine Nat.le_trans (rows_len n pe _) ?_
     rw [List.length_range]
     exact Nat.mul_le_mul (by lia) (by lia)
    obtain ⟨u8,et⟩:=turn1 i ((List.range (0+i)).flatMap (rowOf n pe)) hlen (.own [.tuple (((List.range n).filter (mk 0)).map nPv),.tuple (((List.range n).filter (mk 1)).map nPv)]) (.val (.int 1)) t8
    refine ⟨_,_,rfl,et,fun _=>⟨.val (nPv i),u8,?_⟩⟩
    have hr:List.range (0+i+1)=List.range (0+i)++[i]:=by rw [List.range_succ,Nat.zero_add]
    rw [hr,List.flatMap_append]
    simp)
   [.val (.int num),.val (.int m),.val (nPv n),.own [.tuple (((List.range n).filter (mk 0)).map nPv),.tuple (((List.range n).filter (mk 1)).map nPv)],.val (.int 1),.own [],.val (.int sh),.un,.un] (fun _=>⟨.un,.un,by simp⟩)
  obtain ⟨t7,t8,rfl⟩:=hI (by first | rfl | simp)
  refine seq_nx (loop_run (rng_n (j:=n) (by first | rfl | simp) (by lia)) rfl e1) (ret_rt ?_)
  simp [atI,ixN,mkW,Wd.pv]
 exact congrArg outV body
noncomputable def Nm.at:Nm→Nat→Nat→Nat
 | .x,i,_=>i
 | .y,_,j=>j
noncomputable def Fm.val (w:Wd) (i j:Nat):Fm→Bool
 | .yes=>true
 | .no=>false
 | .a n=>decide (n.at i j∈w.a)
 | .b n=>decide (n.at i j∈w.b)
 | .to m n=>decide ((m.at i j,n.at i j)∈w.e)
 | .not f=>!f.val w i j
 | .both f g=>f.val w i j&&g.val w i j
 | .either f g=>f.val w i j||g.val w i j
theorem eqv_n (x y:Nat):PyData.eqv (nPv x) (nPv y)=decide (x=y):=by
 unfold nPv
 rw [eqv_int]
 by_cases h:x=y
 ·subst h;simp
 ·have:¬ ((x:Int)=(y:Int)):=by lia
  simp [h,this]
theorem eqv_p (p q:Nat×Nat):PyData.eqv (pPv p) (pPv q)=decide (p=q):=by
 obtain ⟨a,b⟩:=p
 obtain ⟨c,d⟩:=q
 unfold pPv
 simp only [PyData.eqv,PyData.eqvAll,eqv_n]
 by_cases h1:a=c <;> by_cases h2:b=d <;> simp [h1,h2]
theorem any_dec {α:Type} [DecidableEq α] (c:α→PV) (hc:∀ a b,PyData.eqv (c a) (c b)=decide (a=b)) (x:α):∀ l:List α,((l.map c).any fun y=>PyData.eqv y (c x))=decide (x∈l)
 | []=>rfl
 | y::l=>by
  rw [List.map_cons,List.any_cons,any_dec c hc x l,hc]
  by_cases h:y=x
  ·subst h;simp
  ·have h':¬ x=y:=fun z=>h z.symm
   simp [h,h']
theorem in_n (x:Nat) (l:List Nat):inF (nPv x) (.tuple (l.map nPv))=some (decide (x∈l)):=by
 have d:(nPv x).depth=0:=depth_int _
 show (if isDict (nPv x)=true then none else if min (PyData.depthAll (l.map nPv)) (nPv x).depth≤180 then some ((l.map nPv).any fun y=>PyData.eqv y (nPv x)) else none)=_
 rw [isDict_n,if_neg Bool.false_ne_true,d,if_pos (by lia),any_dec nPv eqv_n]
theorem in_p (p:Nat×Nat) (l:List (Nat×Nat)):inF (pPv p) (.tuple (l.map pPv))=some (decide (p∈l)):=by
 have d:(pPv p).depth=1:=by simp [pPv,nPv,PyData.depth,PyData.depthAll]
 show (if isDict (pPv p)=true then none else if min (PyData.depthAll (l.map pPv)) (pPv p).depth≤180 then some ((l.map pPv).any fun y=>PyData.eqv y (pPv p)) else none)=_
 rw [isDict_p,if_neg Bool.false_ne_true,d,if_pos (by lia),any_dec pPv eqv_p]
 exact congrArg some (decide_eq_decide.mpr Iff.rfl)
theorem eq_ss (s t:Str):eqF (.str s) (.str t)=some (s==t):=by simp [eqF,eqv_str,depth_str]
theorem op2_run {cf:Nat→List PV→Option PV} {o:Op2} {a b:E} {ρ:Env} {x y r:PV} (ha:evE cf a ρ=some x) (hb:evE cf b ρ=some y) (h:opF2 o x y=some r):evE cf (.op2 o a b) ρ=some r:=by
 rw [evE,ha,bnd_some,hb,bnd_some,h]
theorem nmx (n:Nm):(n.s==("x":Str))=(match n with | .x=>true | .y=>false):=by cases n <;> decide +kernel
theorem w0 (w:Wd):atI [nPv w.n,.tuple (w.a.map nPv),.tuple (w.b.map nPv),.tuple (w.e.map pPv)] 0=some (nPv w.n):=rfl
theorem w1 (w:Wd):atI [nPv w.n,.tuple (w.a.map nPv),.tuple (w.b.map nPv),.tuple (w.e.map pPv)] 1=some (.tuple (w.a.map nPv)):=rfl
theorem w2 (w:Wd):atI [nPv w.n,.tuple (w.a.map nPv),.tuple (w.b.map nPv),.tuple (w.e.map pPv)] 2=some (.tuple (w.b.map nPv)):=rfl
theorem w3 (w:Wd):atI [nPv w.n,.tuple (w.a.map nPv),.tuple (w.b.map nPv),.tuple (w.e.map pPv)] 3=some (.tuple (w.e.map pPv)):=rfl
theorem t20 (a b:PV):atI [a,b] 0=some a:=rfl
theorem t21 (a b:PV):atI [a,b] 1=some b:=rfl
theorem t30 (a b c:PV):atI [a,b,c] 0=some a:=rfl
theorem t31 (a b c:PV):atI [a,b,c] 1=some b:=rfl
theorem t32 (a b c:PV):atI [a,b,c] 2=some c:=rfl
theorem t10 (a:PV):atI [a] 0=some a:=rfl
theorem beqs:(("a":Str)=="a")=true∧(("b":Str)=="a")=false∧(("b":Str)=="b")=true∧(("to":Str)=="to")=true∧(("not":Str)=="not")=true∧(("both":Str)=="both")=true∧(("either":Str)=="either")=true∧(("a":Str)=="not")=false∧(("a":Str)=="both")=false∧(("a":Str)=="either")=false∧
  (("b":Str)=="not")=false∧(("b":Str)=="both")=false∧(("b":Str)=="either")=false∧(("to":Str)=="not")=false∧(("to":Str)=="both")=false∧(("to":Str)=="either")=false∧(("both":Str)=="not")=false∧(("either":Str)=="not")=false∧(("either":Str)=="both")=false∧
  (("yes":Str)=="yes")=true∧(("no":Str)=="yes")=false∧(("no":Str)=="no")=true∧(("a":Str)=="to")=false∧(("b":Str)=="to")=false∧(("not":Str)=="to")=false∧(("both":Str)=="to")=false∧(("either":Str)=="to")=false:=by decide +kernel
noncomputable def nmPv (i j:Nat) (n:Nm):PV:=nPv (n.at i j)
theorem things1 (cf:Nat→List PV→Option PV) (n:Nm) (i j:Nat) (a:PV) (w:Wd) (s4:Sl):evE cf (.comp none [2,3] (.sl (.var 0) (.con (.int 1)) (.con .none)) (.con (.bool true)) (.ite (.op2 .eq (.var 0) (.con (.str "x"))) (.var 1) (.var 2)))
  [.val (.tuple [a,.str n.s]),.val w.pv,.val (nPv i),.val (nPv j),s4]=some (.list [nmPv i j n]):=by
 cases n <;> simp [cut1_2,compF,eq_ss,nmx,nmPv,Nm.at]
theorem things2 (cf:Nat→List PV→Option PV) (m n:Nm) (i j:Nat) (a:PV) (w:Wd) (s4:Sl):evE cf (.comp none [2,3] (.sl (.var 0) (.con (.int 1)) (.con .none)) (.con (.bool true)) (.ite (.op2 .eq (.var 0) (.con (.str "x"))) (.var 1) (.var 2)))
  [.val (.tuple [a,.str m.s,.str n.s]),.val w.pv,.val (nPv i),.val (nPv j),s4]=some (.list [nmPv i j m,nmPv i j n]):=by
 cases m <;> cases n <;> simp [cut1_3,compF,eq_ss,nmx,nmPv,Nm.at]
theorem named37 {T:Tab} (h:T 37=some f37) (k:Nat) (f:Fm) (w:Wd) (i j:Nat) (hf:f.dep=0∧strB f.pv=false):run T (k+1) 37 [f.pv,w.pv,nPv i,nPv j]=some (.bool (f.val w i j)):=by
 rw [run_at h rfl]
 obtain ⟨h0,h1⟩:=hf
 have bs:=beqs
 have key:evS (run T k) b37 [.val f.pv,.val w.pv,.val (nPv i),.val (nPv j),.un]=some (.rt (.bool (f.val w i j))):=by
  unfold b37
  cases f with
  | a n=>
   refine seq_nx (set_nx (things1 _ n i j _ w .un)) ?_
   simp [Fm.pv,Wd.pv,t20,t10,eq_ss,bs,w1,nmPv,in_n,Fm.val]
  | b n=>
   refine seq_nx (set_nx (things1 _ n i j _ w .un)) ?_
   simp [Fm.pv,Wd.pv,t20,t10,eq_ss,bs,w2,nmPv,in_n,Fm.val]
  | to m n=>
   refine seq_nx (set_nx (things2 _ m n i j _ w .un)) ?_
   have e:inF (.tuple [nPv (m.at i j),nPv (n.at i j)]) (.tuple (w.e.map pPv))=_:=in_p (m.at i j,n.at i j) w.e
   simp [Fm.pv,Wd.pv,t30,t20,t21,eq_ss,bs,w3,nmPv,e,Fm.val]
  | yes=>cases h1
  | no=>cases h1
  | not f=>cases h0
  | both f g=>cases h0
  | either f g=>cases h0
 exact congrArg outV key
theorem form38 {T:Tab} (h37:T 37=some f37) (h:T 38=some f38) (w:Wd) (i j:Nat):∀ (f:Fm) (k:Nat),run T (k+f.dep+2) 38 [f.pv,w.pv,nPv i,nPv j]=some (.bool (f.val w i j))
 | .yes,k=>by
  rw [run_at h rfl];simp [b38,Fm.pv,eq_ss,beqs,Fm.val]
 | .no,k=>by
  rw [run_at h rfl];simp [b38,Fm.pv,eq_ss,beqs,Fm.val]
 | .a n,k=>by
  have q:=named37 h37 k (.a n) w i j ⟨rfl,rfl⟩
  rw [run_at h rfl]
  simp only [Fm.pv] at q ⊢
  simp [b38,eq_ss,beqs,t20,Fm.dep,q]
 | .b n,k=>by
  have q:=named37 h37 k (.b n) w i j ⟨rfl,rfl⟩
  rw [run_at h rfl]
  simp only [Fm.pv] at q ⊢
  simp [b38,eq_ss,beqs,t20,Fm.dep,q]
 | .to m n,k=>by
  have q:=named37 h37 k (.to m n) w i j ⟨rfl,rfl⟩
  rw [run_at h rfl]
  simp only [Fm.pv] at q ⊢
  simp [b38,eq_ss,beqs,t30,Fm.dep,q]
 | .not f,k=>by
  have q:=form38 h37 h w i j f k
  have e:k+(Fm.not f).dep+1=k+f.dep+2:=by simp only [Fm.dep];lia
  rw [run_at h rfl,e]
  simp [b38,Fm.pv,eq_ss,beqs,t20,t21,q,Fm.val]
 | .both f g,k=>by
  have e:k+(Fm.both f g).dep+1=k+max f.dep g.dep+2:=by simp only [Fm.dep];lia
  have q1:=run_le (j:=k+max f.dep g.dep+2) (by lia) (form38 h37 h w i j f k)
  have q2:=run_le (j:=k+max f.dep g.dep+2) (by lia) (form38 h37 h w i j g k)
  rw [run_at h rfl,e]
  cases e1:f.val w i j <;> rw [e1] at q1 <;> simp [b38,Fm.pv,eq_ss,beqs,t30,t31,t32,q1,q2,Fm.val,e1]
 | .either f g,k=>by
  have e:k+(Fm.either f g).dep+1=k+max f.dep g.dep+2:=by simp only [Fm.dep];lia
  have q1:=run_le (j:=k+max f.dep g.dep+2) (by lia) (form38 h37 h w i j f k)
  have q2:=run_le (j:=k+max f.dep g.dep+2) (by lia) (form38 h37 h w i j g k)
  rw [run_at h rfl,e]
  cases e1:f.val w i j <;> rw [e1] at q1 <;> simp [b38,Fm.pv,eq_ss,beqs,t30,t31,t32,q1,q2,Fm.val,e1]
theorem dl_xy (n:Nm) (a b:PV):dlook (.str n.s) [(.str "x",a),(.str "y",b)]=some (match n with | .x=>a | .y=>b):=by
 cases n <;> rfl
theorem in_ab (s:Str):inF (.str s) (.tuple [.str "a",.str "b"])=some ((s=="a")||(s=="b")):=by
 rw [in_2 _ _ _ (isDict_str _)]
 simp [in2,isS,beq_dec,eq_comm]
theorem true44 {T:Tab} (h:T 44=some f44) (w:Wd) (i j:Nat):∀ (f:Fm) (k:Nat),run T (k+f.dep+1) 44 [f.pv,w.pv,nPv i,nPv j]=some (.bool (f.val w i j))
 | .yes,k=>by
  rw [run_at h rfl];simp [b44,Fm.pv,eq_ss,beqs,Fm.val]
 | .no,k=>by
  rw [run_at h rfl];simp [b44,Fm.pv,eq_ss,beqs,Fm.val]
 | .a n,k=>by
  rw [run_at h rfl]
  have e:evE (run T (k+(Fm.a n).dep)) (.op2 .ix (.dct [(.str "a"),(.str "b")] (.cons (.con (.int 1)) (.cons (.con (.int 2)) .nil))) (.op2 .ix (.var 0) (.con (.int 0)))) [.val (Fm.a n).pv,.val w.pv,.val (nPv i),.val (nPv j),.un,.un]=some (.int 1):=by
   simp [Fm.pv,t20];rfl
  have n1:isS "yes" (.tuple [.str "a",.str n.s])=false:=rfl
  have n2:isS "no" (.tuple [.str "a",.str n.s])=false:=rfl
  have key:evS (run T (k+(Fm.a n).dep)) b44 [.val (Fm.a n).pv,.val w.pv,.val (nPv i),.val (nPv j),.un,.un]=some (.rt (.bool ((Fm.a n).val w i j))):=by
   unfold b44
   refine seq_nx (ife_f (p:=.bool false) (by simp [Fm.pv,eq_s,n1,n2]) rfl rfl) ?_
   refine seq_rt (ife_t (p:=.bool true) (by simp [Fm.pv,t20,in_ab,beqs]) rfl (ret_rt ?_))
   refine op2_run (x:=nPv (n.at i j)) (y:=.tuple (w.a.map nPv)) ?_ (op2_run (x:=w.pv) rfl e (w1 w)) ?_
   ·cases n <;> simp [Fm.pv,t21,dl_xy,Nm.at]
   ·simp [in_n,Fm.val]
  exact congrArg outV key
 | .b n,k=>by
  rw [run_at h rfl]
  have e:evE (run T (k+(Fm.b n).dep)) (.op2 .ix (.dct [(.str "a"),(.str "b")] (.cons (.con (.int 1)) (.cons (.con (.int 2)) .nil))) (.op2 .ix (.var 0) (.con (.int 0)))) [.val (Fm.b n).pv,.val w.pv,.val (nPv i),.val (nPv j),.un,.un]=some (.int 2):=by
   simp [Fm.pv,t20];rfl
  have n1:isS "yes" (.tuple [.str "b",.str n.s])=false:=rfl
  have n2:isS "no" (.tuple [.str "b",.str n.s])=false:=rfl
  have key:evS (run T (k+(Fm.b n).dep)) b44 [.val (Fm.b n).pv,.val w.pv,.val (nPv i),.val (nPv j),.un,.un]=some (.rt (.bool ((Fm.b n).val w i j))):=by
   unfold b44
   refine seq_nx (ife_f (p:=.bool false) (by simp [Fm.pv,eq_s,n1,n2]) rfl rfl) ?_
   refine seq_rt (ife_t (p:=.bool true) (by simp [Fm.pv,t20,in_ab,beqs]) rfl (ret_rt ?_))
   refine op2_run (x:=nPv (n.at i j)) (y:=.tuple (w.b.map nPv)) ?_ (op2_run (x:=w.pv) rfl e (w2 w)) ?_
   ·cases n <;> simp [Fm.pv,t21,dl_xy,Nm.at]
   ·simp [in_n,Fm.val]
  exact congrArg outV key
 | .to m n,k=>by
  rw [run_at h rfl]
  have n1:isS "yes" (.tuple [.str "to",.str m.s,.str n.s])=false:=rfl
  have n2:isS "no" (.tuple [.str "to",.str m.s,.str n.s])=false:=rfl
  have b1:(("to":Str)=="a")=false:=by decide +kernel
  have b2:(("to":Str)=="b")=false:=by decide +kernel
  have key:evS (run T (k+(Fm.to m n).dep)) b44 [.val (Fm.to m n).pv,.val w.pv,.val (nPv i),.val (nPv j),.un,.un]=some (.rt (.bool ((Fm.to m n).val w i j))):=by
   unfold b44
   refine seq_nx (ife_f (p:=.bool false) (by simp [Fm.pv,eq_s,n1,n2]) rfl rfl) ?_
   refine seq_nx (ife_f (p:=.bool false) (by simp [Fm.pv,t30,in_ab,b1,b2]) rfl rfl) ?_
   refine seq_rt (ife_t (p:=.bool true) (by simp [Fm.pv,t30,eq_ss,beqs]) rfl (seq_nx (set_nx (p:=pPv (m.at i j,n.at i j)) ?_) (ret_rt ?_)))
   ·cases m <;> cases n <;> simp [Fm.pv,cut1_3,compF,dl_xy,Nm.at,pPv]
   ·simp [Wd.pv,w3,in_p,Fm.val]
  exact congrArg outV key
 | .not f,k=>by
  have q:=true44 h w i j f k
  have e:k+(Fm.not f).dep=k+f.dep+1:=by simp only [Fm.dep];lia
  rw [run_at h rfl,e]
  have n1:eqF (.tuple [.str "not",f.pv]) (.str "yes")=some false:=eq_s _ _ rfl
  have n2:eqF (.tuple [.str "not",f.pv]) (.str "no")=some false:=eq_s _ _ rfl
  have b1:(("not":Str)=="a")=false:=by decide +kernel
  have b2:(("not":Str)=="b")=false:=by decide +kernel
  simp [b44,Fm.pv,n1,n2,t20,in_ab,b1,b2,eq_ss,beqs,cut1_2,compF,q,t10,Fm.val]
 | .both f g,k=>by
  have e:k+(Fm.both f g).dep=k+max f.dep g.dep+1:=by simp only [Fm.dep];lia
  have q1:=run_le (j:=k+max f.dep g.dep+1) (by lia) (true44 h w i j f k)
  have q2:=run_le (j:=k+max f.dep g.dep+1) (by lia) (true44 h w i j g k)
  rw [run_at h rfl,e]
  have n1:eqF (.tuple [.str "both",f.pv,g.pv]) (.str "yes")=some false:=eq_s _ _ rfl
  have n2:eqF (.tuple [.str "both",f.pv,g.pv]) (.str "no")=some false:=eq_s _ _ rfl
  have b1:(("both":Str)=="a")=false:=by decide +kernel
  have b2:(("both":Str)=="b")=false:=by decide +kernel
  cases e1:f.val w i j <;> rw [e1] at q1 <;> simp [b44,Fm.pv,n1,n2,t30,in_ab,b1,b2,eq_ss,beqs,cut1_3,compF,q1,q2,t20,t21,Fm.val,e1]
 | .either f g,k=>by
  have e:k+(Fm.either f g).dep=k+max f.dep g.dep+1:=by simp only [Fm.dep];lia
  have q1:=run_le (j:=k+max f.dep g.dep+1) (by lia) (true44 h w i j f k)
  have q2:=run_le (j:=k+max f.dep g.dep+1) (by lia) (true44 h w i j g k)
  rw [run_at h rfl,e]
  have n1:eqF (.tuple [.str "either",f.pv,g.pv]) (.str "yes")=some false:=eq_s _ _ rfl
  have n2:eqF (.tuple [.str "either",f.pv,g.pv]) (.str "no")=some false:=eq_s _ _ rfl
  have b1:(("either":Str)=="a")=false:=by decide +kernel
  have b2:(("either":Str)=="b")=false:=by decide +kernel
  cases e1:f.val w i j <;> rw [e1] at q1 <;> simp [b44,Fm.pv,n1,n2,t30,in_ab,b1,b2,eq_ss,beqs,cut1_3,compF,q1,q2,t20,t21,Fm.val,e1]
noncomputable def Qt.of (q:Qt) (n:Nat) (p:Nat→Bool):Bool:=match q with
 | .some=>(List.range n).any p
 | .each=>(List.range n).all p
noncomputable def Dm.with (d:Dm) (w:Wd) (x:Nat):Bool:=d.other.of w.n fun y=>d.f.val w x y
noncomputable def Dm.holds (d:Dm) (w:Wd):Bool:=d.one.of w.n (d.with w)
theorem loop_find {α:Type} {g:Env→Option Out} {ρ0:Sl→Env} {i:Nat} {r:PV} (c:α→PV) (P:α→Bool) (hset:∀ s x,(ρ0 s).set i (.val x)=ρ0 (.val x)):∀ (xs:List α),(∀ x∈xs,g (ρ0 (.val (c x)))=if P x=true then some (.rt r) else some (.nx (ρ0 (.val (c x)))))→∀ s,
  (xs.any P=true→loopF (.one i) g (xs.map c) (ρ0 s)=some (.rt r))∧(xs.any P=false→∃ t,loopF (.one i) g (xs.map c) (ρ0 s)=some (.nx (ρ0 t)))
 | [],_,s=>⟨fun z=>by simp at z,fun _=>⟨s,rfl⟩⟩
 | x::xs,h,s=>by
  have hx:=h x List.mem_cons_self
  obtain ⟨i1,i2⟩:=loop_find (r:=r) c P hset xs (fun y hy=>h y (List.mem_cons_of_mem _ hy)) (.val (c x))
  cases e:P x with
  | true=>
   rw [e] at hx
   refine ⟨fun _=>?_,fun z=>by simp [e] at z⟩
   rw [List.map_cons,loopF]
   simp [hset,hx]
  | false=>
   rw [e] at hx
   simp only [Bool.false_eq_true,if_false] at hx
   refine ⟨fun z=>?_,fun z=>?_⟩
   ·rw [List.map_cons,loopF]
    simp [hset,hx,i1 (by simpa [e] using z)]
   ·obtain ⟨t,et⟩:=i2 (by simpa [e] using z)
    refine ⟨t,?_⟩
    rw [List.map_cons,loopF]
    simp [hset,hx,et]
theorem qt_some (q:Qt):(q.s==("some":Str))=decide (q=.some):=by cases q <;> decide +kernel
theorem qt_each (q:Qt):(q.s==("each":Str))=decide (q=.each):=by cases q <;> decide +kernel
theorem eqv_bb (a b:Bool):PyData.eqv (.bool a) (.bool b)=(a==b):=by cases a <;> cases b <;> simp [PyData.eqv]
theorem depth_b (b:Bool):(PyData.bool b).depth=0:=by simp [PyData.depth]
theorem eq_bb (a b:Bool):eqF (.bool a) (.bool b)=some (a==b):=by simp [eqF,eqv_bb,depth_b]
theorem any_not (n:Nat) (p:Nat→Bool):(List.range n).any (fun y=>p y==false)=!(List.range n).all p:=by
 induction (List.range n) with
 | nil=>rfl
 | cons x xs ih=>
  rw [List.any_cons,List.all_cons,ih]
  cases p x <;> rfl
theorem any_same (n:Nat) (p:Nat→Bool):(List.range n).any (fun y=>p y==true)=(List.range n).any p:=by
 congr 1;funext y;simp
theorem dv0 (d:Dm):atI [PyData.str d.one.s,.str d.other.s,d.f.pv] 0=some (.str d.one.s):=rfl
theorem dv1 (d:Dm):atI [PyData.str d.one.s,.str d.other.s,d.f.pv] 1=some (.str d.other.s):=rfl
theorem dv2 (d:Dm):atI [PyData.str d.one.s,.str d.other.s,d.f.pv] 2=some d.f.pv:=rfl
theorem of_find (q:Qt) (n:Nat) (p:Nat→Bool) {body:Option Out} {fin:Option Out} (hb:(List.range n).any (fun y=>p y==decide (q=.some))=true→body=some (.rt (.bool (decide (q=.some)))))
  (hf:(List.range n).any (fun y=>p y==decide (q=.some))=false→body=some (.rt (.bool (!decide (q=.some))))):body=some (.rt (.bool (q.of n p))):=by
 cases q with
 | some=>
  simp only [decide_true,any_same] at hb hf
  unfold Qt.of
  cases e:(List.range n).any p with
  | true=>exact hb e
  | false=>exact hf e
 | each=>
  simp only [reduceCtorEq,decide_false,any_not] at hb hf
  unfold Qt.of
  cases e:(List.range n).all p with
  | true=>exact hf (by simp [e])
  | false=>exact hb (by simp [e])
theorem with39 {T:Tab} (h37:T 37=some f37) (h38:T 38=some f38) (h:T 39=some f39) (d:Dm) (w:Wd) (hn:w.n≤1000) (x k:Nat):run T (k+d.f.dep+3) 39 [d.pv,w.pv,nPv x]=some (.bool (d.with w x)):=by
 rw [run_at h rfl]
 have key:evS (run T (k+d.f.dep+2)) b39 [.val d.pv,.val w.pv,.val (nPv x),.un,.un]=some (.rt (.bool (d.with w x))):=by
  unfold b39
  refine seq_nx (set_nx (p:=.bool (decide (d.other=.some))) (by simp [Dm.pv,dv1,eq_ss,qt_some])) ?_
  obtain ⟨i1,i2⟩:=loop_find (g:=evS (run T (k+d.f.dep+2)) b39l0) (ρ0:=fun s=>[.val d.pv,.val w.pv,.val (nPv x),.val (.bool (decide (d.other=.some))),s]) (i:=4) (r:=.bool (decide (d.other=.some))) nPv
   (fun y=>d.f.val w x y==decide (d.other=.some)) (fun _ _=>rfl) (List.range w.n) (fun y _=>by
    have q:=form38 h37 h38 w x y d.f k
    cases e:(d.f.val w x y==decide (d.other=.some)) <;> simp [b39l0,Dm.pv,dv2,q,eq_bb,e]) .un
  have lp:∀ o,loopF (.one 4) (evS (run T (k+d.f.dep+2)) b39l0) ((List.range w.n).map nPv) [.val d.pv,.val w.pv,.val (nPv x),.val (.bool (decide (d.other=.some))),.un]=o→
    evS (run T (k+d.f.dep+2)) (.loop (.one 4) (.rng (.op2 .ix (.var 1) (.con (.int 0)))) b39l0) [.val d.pv,.val w.pv,.val (nPv x),.val (.bool (decide (d.other=.some))),.un]=o:=
   fun o e=>loop_run (rng_n (j:=w.n) (by simp [Wd.pv,w0]) (by lia)) rfl e
  refine of_find (fin:=none) d.other w.n (fun y=>d.f.val w x y) (fun z=>?_) (fun z=>?_)
  ·exact seq_rt (lp _ (i1 z))
  ·obtain ⟨t,et⟩:=i2 z
   exact seq_nx (lp _ et) (ret_rt (by simp))
 exact congrArg outV key
theorem demand40 {T:Tab} (h37:T 37=some f37) (h38:T 38=some f38) (h39:T 39=some f39) (h:T 40=some f40) (d:Dm) (w:Wd) (hn:w.n≤1000) (k:Nat):run T (k+d.f.dep+4) 40 [d.pv,w.pv]=some (.bool (d.holds w)):=by
 rw [run_at h rfl]
 have key:evS (run T (k+d.f.dep+3)) b40 [.val d.pv,.val w.pv,.un,.un]=some (.rt (.bool (d.holds w))):=by
  unfold b40
  refine seq_nx (set_nx (p:=.bool (decide (d.one=.some))) (by simp [Dm.pv,dv0,eq_ss,qt_some])) ?_
  obtain ⟨i1,i2⟩:=loop_find (g:=evS (run T (k+d.f.dep+3)) b40l0) (ρ0:=fun s=>[.val d.pv,.val w.pv,.val (.bool (decide (d.one=.some))),s]) (i:=3) (r:=.bool (decide (d.one=.some))) nPv
   (fun y=>d.with w y==decide (d.one=.some)) (fun _ _=>rfl) (List.range w.n) (fun y _=>by
    have q:=with39 h37 h38 h39 d w hn y k
    cases e:(d.with w y==decide (d.one=.some)) <;> simp [b40l0,q,eq_bb,e]) .un
  have lp:∀ o,loopF (.one 3) (evS (run T (k+d.f.dep+3)) b40l0) ((List.range w.n).map nPv) [.val d.pv,.val w.pv,.val (.bool (decide (d.one=.some))),.un]=o→
    evS (run T (k+d.f.dep+3)) (.loop (.one 3) (.rng (.op2 .ix (.var 1) (.con (.int 0)))) b40l0) [.val d.pv,.val w.pv,.val (.bool (decide (d.one=.some))),.un]=o:=
   fun o e=>loop_run (rng_n (j:=w.n) (by simp [Wd.pv,w0]) (by lia)) rfl e
  refine of_find (fin:=none) d.one w.n (d.with w) (fun z=>?_) (fun z=>?_)
  ·exact seq_rt (lp _ (i1 z))
  ·obtain ⟨t,et⟩:=i2 z
   exact seq_nx (lp _ et) (ret_rt (by simp))
 exact congrArg outV key
noncomputable def bPv (b:Bool):PV:=.bool b
theorem in_b (x:Bool) (l:List Bool):inF (.bool x) (.list (l.map bPv))=some (l.any (·==x)):=by
 show (if isDict (.bool x)=true then none else if min (PyData.depthAll (l.map bPv)) (PyData.bool x).depth≤180 then some ((l.map bPv).any fun y=>PyData.eqv y (.bool x)) else none)=_
 rw [isDict_bool,if_neg Bool.false_ne_true,depth_b,if_pos (by lia),List.any_map]
 have:((fun y=>PyData.eqv y (.bool x))∘bPv)=(·==x):=by funext y;simp [bPv,eqv_bb]
 rw [this]
noncomputable def Qt.pick (q:Qt) (l:List Bool):Bool:=match q with
 | .some=>l.any (·==true)
 | .each=>!l.any (·==false)
theorem pick_run {cf:Nat→List PV→Option PV} {e1 c:E} {ρ:Env} {l:List Bool} {q:Qt} (h1:evE cf e1 ρ=some (.list (l.map bPv))) (h2:evE cf c ρ=some (.str q.s)):
  evE cf (.op2 .ix (.lst (.cons (.op2 .inn (.con (.bool true)) e1) (.cons (.not (.op2 .inn (.con (.bool false)) e1)) .nil))) (.op1 .toInt (.op2 .eq c (.con (.str "each"))))) ρ=some (.bool (q.pick l)):=by
 cases q <;> simp [h1,h2,in_b,eq_ss,qt_each,Qt.pick] <;> rfl
theorem any_range {n:Nat} (p:Nat→Bool) (b:Bool):((List.range n).map p).any (·==b)=(List.range n).any fun y=>p y==b:=by rw [List.any_map];rfl
theorem pick_of (q:Qt) (n:Nat) (p:Nat→Bool):q.pick ((List.range n).map p)=q.of n p:=by
 cases q <;> simp only [Qt.pick,any_range,any_same,any_not,Qt.of,Bool.not_not]
theorem meets45 {T:Tab} (h44:T 44=some f44) (h:T 45=some f45) (d:Dm) (w:Wd) (hn:w.n≤1000) (k:Nat):run T (k+d.f.dep+2) 45 [d.pv,w.pv]=some (.bool (d.holds w)):=by
 rw [run_at h rfl]
 have key:evS (run T (k+d.f.dep+1)) b45 [.val d.pv,.val w.pv,.un,.un,.un]=some (.rt (.bool (d.holds w))):=by
  unfold b45
  refine seq_nx (own_nx (ps:=[]) (by simp)) ?_
  obtain ⟨ρ',e1,hI⟩:=loop_by (tg:=.one 3) (g:=evS (run T (k+d.f.dep+1)) b45l0)
   (fun i ρ=>i≤w.n→∃ s3 s4,ρ=[.val d.pv,.val w.pv,.own (((List.range i).map (d.with w)).map bPv),s3,s4]) ((List.range w.n).map nPv) 0 (fun i x ρ ex hI=>by
    obtain ⟨hi,rfl⟩:=rng_get ex
    obtain ⟨s3,s4,rfl⟩:=hI (by lia)
    refine ⟨_,_,rfl,?_,fun _=>⟨.val (nPv i),.val (.list (((List.range w.n).map fun y=>d.f.val w i y).map bPv)),rfl⟩⟩
    show evS (run T (k+d.f.dep+1)) b45l0 [.val d.pv,.val w.pv,.own (((List.range (0+i)).map (d.with w)).map bPv),.val (nPv i),s4]=_
    unfold b45l0
    have c:evE (run T (k+d.f.dep+1)) (.comp none [0,1,3] (.rng (.op2 .ix (.var 1) (.con (.int 0)))) (.con (.bool true)) (.call 44 (.cons (.op2 .ix (.var 1) (.con (.int 2))) (.cons (.var 2) (.cons (.var 3) (.cons (.var 0) .nil))))))
      [.val d.pv,.val w.pv,.own (((List.range (0+i)).map (d.with w)).map bPv),.val (nPv i),s4]=some (.list (((List.range w.n).map fun y=>d.f.val w i y).map bPv)):=by
     rw [comp_map (s:=.list ((List.range w.n).map nPv)) (fun p=>.bool (d.f.val w i (toI p).toNat)) (rng_n (j:=w.n) (by simp [Wd.pv,w0]) (by lia)) rfl (fun x hx=>by
      obtain ⟨y,hy,rfl⟩:=List.mem_map.mp hx
      have q:=true44 h44 w i y d.f k
      simp [Dm.pv,dv2,q]
      simp [nPv,toI]) (fun _ _=>isDict_bool _)]
     rw [List.map_map,List.map_map];rfl
    refine seq_nx (set_nx c) ?_
    have pk:=pick_run (cf:=run T (k+d.f.dep+1)) (e1:=.var 4) (c:=.op2 .ix (.var 0) (.con (.int 1))) (ρ:=[.val d.pv,.val w.pv,.own (((List.range (0+i)).map (d.with w)).map bPv),.val (nPv i),.val (.list (((List.range w.n).map fun y=>d.f.val w i y).map bPv))])
     (l:=(List.range w.n).map fun y=>d.f.val w i y) (q:=d.other) (by simp) (by simp [Dm.pv,dv1])
    rw [pick_of] at pk
    refine (app_nx (i:=2) (ps:=((List.range (0+i)).map (d.with w)).map bPv) pk rfl (by simp;lia) rfl).trans ?_
    have:((List.range (0+i+1)).map (d.with w)).map bPv=((List.range (0+i)).map (d.with w)).map bPv++[.bool (d.other.of w.n fun y=>d.f.val w i y)]:=by
     rw [List.range_succ,List.map_append,List.map_append,Nat.zero_add];rfl
    rw [this];rfl)
   [.val d.pv,.val w.pv,.own [],.un,.un] (fun _=>⟨_,_,rfl⟩)
  obtain ⟨s3,s4,rfl⟩:=hI (by simp)
  refine seq_nx (loop_run (rng_n (j:=w.n) (by simp [Wd.pv,w0]) (by lia)) rfl e1) (ret_rt ?_)
  have e0:(0+((List.range w.n).map nPv).length)=w.n:=by simp
  rw [e0]
  have pk:=pick_run (cf:=run T (k+d.f.dep+1)) (e1:=.peek 2) (c:=.op2 .ix (.var 0) (.con (.int 0))) (ρ:=[.val d.pv,.val w.pv,.own (((List.range w.n).map (d.with w)).map bPv),s3,s4])
   (l:=(List.range w.n).map (d.with w)) (q:=d.one) (by simp) (by simp [Dm.pv,dv0])
  rw [pick_of] at pk
  exact pk
 exact congrArg outV key
noncomputable def ltN (a b:Nat):Bool:=decide (a<b)
noncomputable def prL (p:Nat×Nat):List Int:=[(p.1:Nat),(p.2:Nat)]
noncomputable def ltP (p q:Nat×Nat):Bool:=lexLt (prL p) (prL q)
theorem ltP_iff (p q:Nat×Nat):ltP p q=true↔p.1<q.1∨(p.1=q.1∧p.2<q.2):=by
 obtain ⟨a,b⟩:=p
 obtain ⟨c,d⟩:=q
 unfold ltP prL
 simp only [lexLt]
 by_cases h1:(a:Int)=(c:Int)
 ·have:a=c:=by lia
  subst this
  by_cases h2:(b:Int)=(d:Int)
  ·have:b=d:=by lia
   subst this
   simp
  ·rw [if_pos rfl,if_neg h2];simp only [decide_eq_true_eq,true_and,Nat.lt_irrefl,false_or];lia
 ·rw [if_neg h1];simp only [decide_eq_true_eq];lia
theorem strictN:Strict ltN:=⟨fun a=>by simp [ltN],fun a b c h1 h2=>by simp only [ltN,decide_eq_true_eq] at *;lia,fun a b h1 h2=>by simp only [ltN,decide_eq_false_iff_not] at *;lia⟩
theorem strictP:Strict ltP:=by
 refine ⟨fun a=>?_,fun a b c h1 h2=>?_,fun a b h1 h2=>?_⟩
 ·cases h:ltP a a with
  | false=>rfl
  | true=>rw [ltP_iff] at h;lia
 ·rw [ltP_iff] at *;lia
 ·have n1:¬ (a.1<b.1∨(a.1=b.1∧a.2<b.2)):=fun z=>by rw [(ltP_iff a b).mpr z] at h1;cases h1
  have n2:¬ (b.1<a.1∨(b.1=a.1∧b.2<a.2)):=fun z=>by rw [(ltP_iff b a).mpr z] at h2;cases h2
  obtain ⟨a1,a2⟩:=a
  obtain ⟨b1,b2⟩:=b
  simp only at n1 n2
  have e1:a1=b1:=by lia
  have e2:a2=b2:=by lia
  rw [e1,e2]
theorem insL_map {α β:Type} (f:α→β) {lt:α→α→Bool} {lt':β→β→Bool} (h:∀ a b,lt' (f a) (f b)=lt a b) (x:α):∀ xs:List α,insL lt' (f x) (xs.map f)=(insL lt x xs).map f
 | []=>rfl
 | y::r=>by
  rw [List.map_cons,insL,insL,h]
  cases lt y x with
  | true=>rw [if_pos rfl,if_pos rfl,insL_map f h x r];rfl
  | false=>rw [if_neg Bool.false_ne_true,if_neg Bool.false_ne_true];rfl
theorem srtL_map {α β:Type} (f:α→β) {lt:α→α→Bool} {lt':β→β→Bool} (h:∀ a b,lt' (f a) (f b)=lt a b):∀ xs:List α,srtL lt' (xs.map f)=(srtL lt xs).map f
 | []=>rfl
 | x::r=>by rw [List.map_cons,srtL,srtL_map f h r,insL_map f h];rfl
theorem intsOf_n:∀ l:List Nat,intsOf (l.map nPv)=some (l.map fun k:Nat=>(k:Int))
 | []=>rfl
 | x::r=>by rw [List.map_cons,nPv,intsOf,intsOf_n r];rfl
theorem tupsOf_p:∀ l:List (Nat×Nat),tupsOf (l.map pPv)=some (l.map prL)
 | []=>rfl
 | x::r=>by
  rw [List.map_cons,pPv,tupsOf]
  have:intsOf [nPv x.1,nPv x.2]=some (prL x):=rfl
  rw [this,bnd_some,tupsOf_p r];rfl
theorem srt_n (l:List Nat) (h:l.length<64):srtF (l.map nPv)=some (.list ((srtL ltN l).map nPv)):=by
 cases l with
 | nil=>rfl
 | cons x r=>
  show bnd (intsOf ((x::r).map nPv)) _=_
  rw [intsOf_n,bnd_some,List.length_map,decide_eq_true h,tst_true]
  have:srtL ltI ((x::r).map fun k:Nat=>(k:Int))=(srtL ltN (x::r)).map fun k:Nat=>(k:Int):=srtL_map (fun k:Nat=>(k:Int)) (fun a b=>by simp [ltI,ltN]) _
  rw [this]
  simp only [intsPv,List.map_map]
  rfl
noncomputable def fullP:List (Nat×Nat):=(List.range 16).flatMap fun k=>[(k / 4,k % 4),(k / 4,k % 4+4),(k / 4+4,k % 4),(k / 4+4,k % 4+4)]
theorem fullP_eq:fullP.map prL=full64:=by decide +kernel
theorem srt_p (l:List (Nat×Nat)) (h:l.length<64∨l=fullP):srtF (l.map pPv)=some (.list ((srtL ltP l).map pPv)):=by
 cases l with
 | nil=>rfl
 | cons x r=>
  show bnd (tupsOf ((x::r).map pPv)) _=_
  rw [tupsOf_p,bnd_some,List.length_map]
  have c:((decide ((x::r).length<64)||decide ((x::r).map prL=full64))&&((x::r).map prL).all fun n=>!n.isEmpty)=true:=by
   have c2:(((x::r).map prL).all fun n=>!n.isEmpty)=true:=by
    rw [List.all_eq_true]
    intro y hy
    obtain ⟨z,_,rfl⟩:=List.mem_map.mp hy
    rfl
   rw [c2,Bool.and_true]
   rcases h with h | h
   ·rw [decide_eq_true h];rfl
   ·rw [h,fullP_eq];simp
  rw [c,tst_true]
  have:srtL lexLt ((x::r).map prL)=(srtL ltP (x::r)).map prL:=srtL_map prL (fun a b=>rfl) _
  rw [this]
  simp only [tupsPv,List.map_map]
  rfl
noncomputable abbrev RiseN (l:List Nat):Prop:=l.Pairwise fun a b=>ltN a b=true
noncomputable abbrev RiseP (l:List (Nat×Nat)):Prop:=l.Pairwise fun a b=>ltP a b=true
theorem rise_ext {α:Type} {lt:α→α→Bool} (S:Strict lt) {l r:List α} (hl:l.Pairwise fun a b=>lt a b=true) (hr:r.Pairwise fun a b=>lt a b=true) (h:∀ x,x∈l↔x∈r):l=r:=by
 induction l generalizing r with
 | nil=>
  cases r with
  | nil=>rfl
  | cons b r=>have:=(h b).mpr List.mem_cons_self;cases this
 | cons a l ih=>
  cases r with
  | nil=>have:=(h a).mp List.mem_cons_self;cases this
  | cons b r=>
   rw [List.pairwise_cons] at hl hr
   have hab:a=b:=by
    rcases List.mem_cons.mp ((h a).mp List.mem_cons_self) with e | e
    ·exact e
    ·rcases List.mem_cons.mp ((h b).mpr List.mem_cons_self) with q | q
     ·exact q.symm
     ·have:=S.tr a b a (hl.1 b q) (hr.1 a e)
      rw [S.irr] at this;cases this
   subst hab
   have no:∀ t:List α,(∀ x∈t,lt a x=true)→a∉t:=fun t ht c=>by have:=ht a c;rw [S.irr] at this;cases this
   rw [ih hl.2 hr.2 fun x=>?_]
   constructor
   ·intro hx
    rcases List.mem_cons.mp ((h x).mp (List.mem_cons_of_mem _ hx)) with e | e
    ·subst e;exact absurd hx (no l hl.1)
    ·exact e
   ·intro hx
    rcases List.mem_cons.mp ((h x).mpr (List.mem_cons_of_mem _ hx)) with e | e
    ·subst e;exact absurd hx (no r hr.1)
    ·exact e
theorem rise_nodup {α:Type} {lt:α→α→Bool} (S:Strict lt) {l:List α} (h:l.Pairwise fun a b=>lt a b=true):l.Nodup:=h.imp fun {a b} q e=>by
 subst e
 rw [S.irr] at q;cases q
structure WOk (w:Wd):Prop where
 ra:RiseN w.a
 rb:RiseN w.b
 re:RiseP w.e
 ia:∀ x∈w.a,x<w.n
 ib:∀ x∈w.b,x<w.n
 ie:∀ p∈w.e,p.1<w.n∧p.2<w.n
theorem range_rise (n:Nat):RiseN (List.range n):=by
 have:=List.pairwise_lt_range (n:=n)
 exact this.imp fun {a b} h=>decide_eq_true h
theorem rows_rise (n:Nat) (pe:Nat→Nat→Bool):∀ l:List Nat,RiseN l→RiseP (l.flatMap (rowOf n pe))
 | [],_=>.nil
 | x::l,h=>by
  unfold RiseN at h
  rw [List.pairwise_cons] at h
  rw [List.flatMap_cons]
  unfold RiseP
  rw [List.pairwise_append]
  refine ⟨?_,rows_rise n pe l h.2,fun p hp q hq=>?_⟩
  ·unfold rowOf
   rw [List.pairwise_map]
   exact ((range_rise n).filter (pe x)).imp fun {a b} (q:ltN a b=true)=>(ltP_iff (x,a) (x,b)).mpr (.inr ⟨rfl,of_decide_eq_true q⟩)
  ·obtain ⟨y,hy,hq⟩:=List.mem_flatMap.mp hq
   unfold rowOf at hp hq
   obtain ⟨a,_,rfl⟩:=List.mem_map.mp hp
   obtain ⟨b,_,rfl⟩:=List.mem_map.mp hq
   exact (ltP_iff _ _).mpr (.inl (of_decide_eq_true (h.1 y hy)))
theorem mkW_ok (n:Nat) (pa pb:Nat→Bool) (pe:Nat→Nat→Bool):WOk (mkW n pa pb pe) where
 ra:=(range_rise n).filter _
 rb:=(range_rise n).filter _
 re:=rows_rise n pe _ (range_rise n)
 ia:=fun x hx=>List.mem_range.mp (List.mem_filter.mp hx).1
 ib:=fun x hx=>List.mem_range.mp (List.mem_filter.mp hx).1
 ie:=fun p hp=>by
  obtain ⟨x,hx,hp⟩:=List.mem_flatMap.mp hp
  unfold rowOf at hp
  obtain ⟨y,hy,rfl⟩:=List.mem_map.mp hp
  exact ⟨List.mem_range.mp hx,List.mem_range.mp (List.mem_filter.mp hy).1⟩
theorem WOk.la {w:Wd} (h:WOk w):w.a.length≤w.n:=by
 have:=len_le_of_sub w.a (List.range w.n) (rise_nodup strictN h.ra) fun x hx=>List.mem_range.mpr (h.ia x hx)
 simpa using this
theorem WOk.lb {w:Wd} (h:WOk w):w.b.length≤w.n:=by
 have:=len_le_of_sub w.b (List.range w.n) (rise_nodup strictN h.rb) fun x hx=>List.mem_range.mpr (h.ib x hx)
 simpa using this
noncomputable def allP (n:Nat):List (Nat×Nat):=(List.range n).flatMap fun x=>(List.range n).map fun y=>(x,y)
theorem mem_allP {n:Nat} {p:Nat×Nat}:p∈allP n↔p.1<n∧p.2<n:=by
 unfold allP
 rw [List.mem_flatMap]
 constructor
 ·rintro ⟨x,hx,hp⟩
  obtain ⟨y,hy,rfl⟩:=List.mem_map.mp hp
  exact ⟨List.mem_range.mp hx,List.mem_range.mp hy⟩
 ·rintro ⟨h1,h2⟩
  exact ⟨p.1,List.mem_range.mpr h1,List.mem_map.mpr ⟨p.2,List.mem_range.mpr h2,rfl⟩⟩
theorem len_allP (n:Nat):(allP n).length=n * n:=by
 have:∀ l:List Nat,(l.flatMap fun x=>(List.range n).map fun y=>(x,y)).length=l.length * n:=by
  intro l
  induction l with
  | nil=>simp
  | cons a l ih=>rw [List.flatMap_cons,List.length_append,ih,List.length_cons,Nat.succ_mul];simp;lia
 unfold allP
 rw [this,List.length_range]
theorem WOk.le {w:Wd} (h:WOk w):w.e.length≤w.n * w.n:=by
 have:=len_le_of_sub w.e (allP w.n) (rise_nodup strictP h.re) fun x hx=>mem_allP.mpr (h.ie x hx)
 rwa [len_allP] at this
theorem allP_rise (n:Nat):RiseP (allP n):=by
 have:=rows_rise n (fun _ _=>true) (List.range n) (range_rise n)
 have e:(List.range n).flatMap (rowOf n fun _ _=>true)=allP n:=by
  unfold allP
  congr 1
  funext x
  unfold rowOf
  rw [List.filter_eq_self.mpr fun _ _=>rfl]
 rw [e] at this;exact this
theorem WOk.full {w:Wd} (h:WOk w) (hl:w.n * w.n≤w.e.length):w.e=allP w.n:=by
 refine rise_ext strictP h.re (allP_rise _) fun p=>⟨fun hp=>mem_allP.mpr (h.ie p hp),fun hp=>?_⟩
 apply Classical.byContradiction
 intro hn
 have:=len_le_of_sub w.e ((allP w.n).erase p) (rise_nodup strictP h.re) fun x hx=>(List.mem_erase_of_ne (fun (e:x=p)=>hn (by rw [← e];exact hx))).mpr (mem_allP.mpr (h.ie x hx))
 rw [List.length_erase_of_mem hp,len_allP] at this
 have:0<w.n * w.n:=by rw [← len_allP];exact List.length_pos_of_mem hp
 lia
noncomputable def tPv (t:List Nat):PV:=.tuple (t.map nPv)
noncomputable def bsPv (bs:List (List Nat)):PV:=.list (bs.map tPv)
@[simp] theorem isDict_t (t:List Nat):isDict (tPv t)=false:=rfl
noncomputable def reN (bs:List (List Nat)) (l:List Nat):List Nat:=l.flatMap fun k=>bs.getD k []
noncomputable def reP (bs:List (List Nat)) (p:Nat×Nat):List (Nat×Nat):=(bs.getD p.1 []).flatMap fun s=>(bs.getD p.2 []).map fun t=>(s,t)
noncomputable def Wd.re (w:Wd) (n:Nat) (bs:List (List Nat)):Wd:=⟨n,srtL ltN (reN bs w.a),srtL ltN (reN bs w.b),srtL ltP (w.e.flatMap (reP bs))⟩
theorem ext_nx {cf:Nat→List PV→Option PV} {i:Nat} {e:E} {ρ:Env} {ps xs:List PV} {p:PV} (h:evE cf e ρ=some p) (hx:seqOf p=some xs) (hi:ρ[i]?=some (.own ps)) (hl:ps.length+xs.length<1000000):evS cf (.ext i e) ρ=some (.nx (ρ.set i (.own (ps++xs)))):=by
 rw [evS,h,bnd_some,hx,bnd_some,hi,bnd_some,extF,if_pos hl]
theorem at_bs {bs:List (List Nat)} {k:Nat} (h:k<bs.length):atI (bs.map tPv) (k:Int)=some (tPv (bs.getD k [])):=by
 refine atI_nat' _ k _ ?_
 simp [h]
where
 atI_nat' {α:Type} (l:List α) (i:Nat) (x:α) (h:l[i]?=some x):atI l (i:Int)=some x:=by
  unfold atI ixN
  have hi:i<l.length:=(List.getElem?_eq_some_iff.mp h).1
  rw [if_pos (by lia),if_pos (by lia)]
  simpa using h
theorem marks48 {T:Tab} (h:T 48=some f48) (k:Nat) (bs:List (List Nat)) (l:List Nat) (hl:∀ x∈l,x<bs.length) (h64:(reN bs l).length<64):run T (k+1) 48 [tPv l,bsPv bs]=some (tPv (srtL ltN (reN bs l))):=by
 rw [run_at h rfl]
 have key:evS (run T k) b48 [.val (tPv l),.val (bsPv bs),.un,.un]=some (.rt (tPv (srtL ltN (reN bs l)))):=by
  unfold b48
  refine seq_nx (own_nx (ps:=[]) (by simp)) ?_
  have lp:∀ (l:List Nat),(∀ x∈l,x<bs.length)→∀ (acc:List Nat) (s3:Sl) (tl:PV),(acc++reN bs l).length<64→∃ t3,loopF (.one 3) (evS (run T k) b48l0) (l.map nPv) [.val tl,.val (bsPv bs),.own (acc.map nPv),s3]=some (.nx [.val tl,.val (bsPv bs),.own ((acc++reN bs l).map nPv),t3]):=by
   intro l
   induction l with
   | nil=>intro _ acc s3 tl _;exact ⟨s3,by simp [reN,loopF]⟩
   | cons x l ih=>
    intro hx acc s3 tl hlen
    have e0:reN bs (x::l)=bs.getD x []++reN bs l:=rfl
    rw [e0,← List.append_assoc] at hlen
    obtain ⟨t3,e⟩:=ih (fun y hy=>hx y (List.mem_cons_of_mem _ hy)) (acc++bs.getD x []) (.val (nPv x)) tl hlen
    refine ⟨t3,?_⟩
    rw [List.map_cons,loopF]
    have st:evS (run T k) b48l0 [.val tl,.val (bsPv bs),.own (acc.map nPv),.val (nPv x)]=some (.nx [.val tl,.val (bsPv bs),.own ((acc++bs.getD x []).map nPv),.val (nPv x)]):=by
     have a:=at_bs (hx x List.mem_cons_self)
     refine (ext_nx (i:=2) (p:=tPv (bs.getD x [])) (xs:=(bs.getD x []).map nPv) (ps:=acc.map nPv) (by simp [bsPv,nPv,a]) rfl rfl ?_).trans ?_
     ·simp only [List.length_append] at hlen;simp only [List.length_map];lia
     ·simp
    show turnO (evS (run T k) b48l0 [.val tl,.val (bsPv bs),.own (acc.map nPv),.val (nPv x)]) _=_
    rw [st,turnO_nx,e,e0,List.append_assoc]
  obtain ⟨t3,e⟩:=lp l hl [] .un (tPv l) (by simpa using h64)
  rw [List.nil_append] at e
  refine seq_nx (loop_run (p:=tPv l) (by simp) rfl e) ?_
  have s:=srt_n _ h64
  simp [s,tPv]
 exact congrArg outV key
theorem comp_pairs (cf:Nat→List PV→Option PV) (bs:List (List Nat)) (s y x:Nat) (hy:y<bs.length) (s0 s2:Sl):evE cf (.comp none [4] (.op2 .ix (.var 1) (.op2 .ix (.var 3) (.con (.int 1)))) (.con (.bool true)) (.tup (.cons (.var 1) (.cons (.var 0) .nil))))
  [s0,.val (bsPv bs),s2,.val (pPv (x,y)),.val (nPv s)]=some (.list (((bs.getD y []).map fun t=>(s,t)).map pPv)):=by
 have a:=at_bs hy
 rw [comp_map (s:=tPv (bs.getD y [])) (fun p=>pPv (s,(toI p).toNat)) (by simp [bsPv,pPv,t21,nPv,a]) rfl (fun p hp=>by
  obtain ⟨t,_,rfl⟩:=List.mem_map.mp hp
  simp [pPv]
  rfl) (fun _ _=>rfl)]
 rw [List.map_map,List.map_map];rfl
theorem arrows49 {T:Tab} (h:T 49=some f49) (k:Nat) (bs:List (List Nat)) (l:List (Nat×Nat)) (hl:∀ p∈l,p.1<bs.length∧p.2<bs.length) (h64:(l.flatMap (reP bs)).length<64∨l.flatMap (reP bs)=fullP):
  run T (k+1) 49 [.tuple (l.map pPv),bsPv bs]=some (.tuple ((srtL ltP (l.flatMap (reP bs))).map pPv)):=by
 rw [run_at h rfl]
 have h65:(l.flatMap (reP bs)).length≤64:=by
  rcases h64 with q | q
  ·lia
  ·rw [q];decide +kernel
 have key:evS (run T k) b49 [.val (.tuple (l.map pPv)),.val (bsPv bs),.un,.un,.un]=some (.rt (.tuple ((srtL ltP (l.flatMap (reP bs))).map pPv))):=by
  unfold b49
  refine seq_nx (own_nx (ps:=[]) (by simp)) ?_
  
  have in1:∀ (ss:List Nat) (x y:Nat),y<bs.length→∀ (acc:List (Nat×Nat)) (s4:Sl) (tl:PV),(acc++ss.flatMap fun s=>(bs.getD y []).map fun t=>(s,t)).length≤64→
    ∃ t4,loopF (.one 4) (evS (run T k) b49l0) (ss.map nPv) [.val tl,.val (bsPv bs),.own (acc.map pPv),.val (pPv (x,y)),s4]=some (.nx [.val tl,.val (bsPv bs),.own ((acc++ss.flatMap fun s=>(bs.getD y []).map fun t=>(s,t)).map pPv),.val (pPv (x,y)),t4]):=by
   intro ss
   induction ss with
   | nil=>intro x y _ acc s4 tl _;exact ⟨s4,by simp [loopF]⟩
   | cons s ss ih=>
    intro x y hy acc s4 tl hlen
    rw [List.flatMap_cons,← List.append_assoc] at hlen
    obtain ⟨t4,e⟩:=ih x y hy (acc++(bs.getD y []).map fun t=>(s,t)) (.val (nPv s)) tl hlen
    refine ⟨t4,?_⟩
    rw [List.map_cons,loopF]
    have st:evS (run T k) b49l0 [.val tl,.val (bsPv bs),.own (acc.map pPv),.val (pPv (x,y)),.val (nPv s)]=some (.nx [.val tl,.val (bsPv bs),.own ((acc++(bs.getD y []).map fun t=>(s,t)).map pPv),.val (pPv (x,y)),.val (nPv s)]):=by
     refine (ext_nx (i:=2) (ps:=acc.map pPv) (comp_pairs _ bs s y x hy _ _) rfl rfl ?_).trans ?_
     ·simp only [List.length_append,List.length_map] at hlen;simp only [List.length_map];lia
     ·simp
    show turnO (evS (run T k) b49l0 [.val tl,.val (bsPv bs),.own (acc.map pPv),.val (pPv (x,y)),.val (nPv s)]) _=_
    rw [st,turnO_nx,e,List.flatMap_cons,List.append_assoc]
  have lp:∀ (l:List (Nat×Nat)),(∀ p∈l,p.1<bs.length∧p.2<bs.length)→∀ (acc:List (Nat×Nat)) (s3 s4:Sl) (tl:PV),(acc++l.flatMap (reP bs)).length≤64→
    ∃ t3 t4,loopF (.one 3) (evS (run T k) b49l1) (l.map pPv) [.val tl,.val (bsPv bs),.own (acc.map pPv),s3,s4]=some (.nx [.val tl,.val (bsPv bs),.own ((acc++l.flatMap (reP bs)).map pPv),t3,t4]):=by
   intro l
   induction l with
   | nil=>intro _ acc s3 s4 tl _;exact ⟨s3,s4,by simp [loopF]⟩
   | cons p l ih=>
    intro hx acc s3 s4 tl hlen
    rw [List.flatMap_cons,← List.append_assoc] at hlen
    obtain ⟨h1,h2⟩:=hx p List.mem_cons_self
    have hle:(acc++(bs.getD p.1 []).flatMap fun s=>(bs.getD p.2 []).map fun t=>(s,t)).length≤64:=by
     have:(acc++reP bs p).length≤64:=by rw [List.length_append] at hlen;lia
     exact this
    obtain ⟨u4,e4⟩:=in1 (bs.getD p.1 []) p.1 p.2 h2 acc s4 tl hle
    obtain ⟨t3,t4,e⟩:=ih (fun y hy=>hx y (List.mem_cons_of_mem _ hy)) (acc++reP bs p) (.val (pPv p)) u4 tl hlen
    refine ⟨t3,t4,?_⟩
    rw [List.map_cons,loopF]
    have st:evS (run T k) b49l1 [.val tl,.val (bsPv bs),.own (acc.map pPv),.val (pPv p),s4]=some (.nx [.val tl,.val (bsPv bs),.own ((acc++reP bs p).map pPv),.val (pPv p),u4]):=by
     have a:=at_bs h1
     unfold b49l1
     exact loop_run (p:=tPv (bs.getD p.1 [])) (by simp [bsPv,pPv,t20,nPv,a]) rfl e4
    show turnO (evS (run T k) b49l1 [.val tl,.val (bsPv bs),.own (acc.map pPv),.val (pPv p),s4]) _=_
    rw [st,turnO_nx,e,List.flatMap_cons,List.append_assoc]
  obtain ⟨t3,t4,e⟩:=lp l hl [] .un .un (.tuple (l.map pPv)) (by simpa using h65)
  rw [List.nil_append] at e
  refine seq_nx (loop_run (p:=.tuple (l.map pPv)) (by simp) rfl e) ?_
  have s:=srt_p _ h64
  simp [s]
 exact congrArg outV key
structure ReOk (w:Wd) (bs:List (List Nat)):Prop where
 a:∀ x∈w.a,x<bs.length
 b:∀ x∈w.b,x<bs.length
 e:∀ p∈w.e,p.1<bs.length∧p.2<bs.length
 la:(reN bs w.a).length<64
 lb:(reN bs w.b).length<64
 le:(w.e.flatMap (reP bs)).length<64∨w.e.flatMap (reP bs)=fullP
theorem remade50 {T:Tab} (h48:T 48=some f48) (h49:T 49=some f49) (h:T 50=some f50) (k:Nat) (w:Wd) (n:Nat) (bs:List (List Nat)) (R:ReOk w bs):run T (k+2) 50 [w.pv,nPv n,bsPv bs]=some (w.re n bs).pv:=by
 rw [run_at h rfl]
 have qa:=marks48 h48 k bs w.a R.a R.la
 have qb:=marks48 h48 k bs w.b R.b R.lb
 have qe:=arrows49 h49 k bs w.e R.e R.le
 unfold tPv at qa qb
 simp [b50,Wd.pv,w1,w2,w3,qa,qb,qe,Wd.re]
theorem comp_allE {α:Type} {cf:Nat→List PV→Option PV} {caps:List Nat} {it elt:E} {ρ:Env} {s:PV} {xs:List α} (c F:α→PV) (h:evE cf it ρ=some s) (hx:seqOf s=some (xs.map c))
  (hc:∀ x∈xs,evE cf elt (.val (c x)::caps.map (ρ.getD · .un))=some (F x)) (hd:∀ x,isDict (F x)=false):evE cf (.comp none caps it (.con (.bool true)) elt) ρ=some (.list (xs.map F)):=by
 rw [evE,h,bnd_some,hx,bnd_some,comp_all c F xs,bnd_some]
 intro x hm
 have q:=hc x hm
 simp only [bindT_e1,bnd_some,List.cons_append,List.nil_append,evE,q,truthF_e2,tst_true,eltF_e1,hd x,tst_false]
theorem comp_filE {α:Type} {cf:Nat→List PV→Option PV} {caps:List Nat} {it cond elt:E} {ρ:Env} {s:PV} {xs:List α} (c F:α→PV) (P:α→Bool) (h:evE cf it ρ=some s) (hx:seqOf s=some (xs.map c))
  (hp:∀ x∈xs,evE cf cond (.val (c x)::caps.map (ρ.getD · .un))=some (.bool (P x))) (hc:∀ x∈xs,evE cf elt (.val (c x)::caps.map (ρ.getD · .un))=some (F x)) (hd:∀ x,isDict (F x)=false):
  evE cf (.comp none caps it cond elt) ρ=some (.list ((xs.filter P).map F)):=by
 rw [evE,h,bnd_some,hx,bnd_some,comp_by c P F xs,bnd_some]
 intro x hm
 have q1:=hp x hm
 have q2:=hc x hm
 simp only [bindT_e1,bnd_some,List.cons_append,List.nil_append,q1,truthF_e2]
 cases P x with
 | true=>simp only [tst_true,q2,bnd_some,eltF_e1,hd x,tst_false,if_true]
 | false=>rfl
theorem call1 {cf:Nat→List PV→Option PV} {f:Nat} {a:E} {ρ:Env} {x r:PV} (ha:evE cf a ρ=some x) (h:cf f [x]=some r):evE cf (.call f (.cons a .nil)) ρ=some r:=by
 simp only [evE,ha,bnd_some,consF_e1,callF_e1,h]
theorem call2 {cf:Nat→List PV→Option PV} {f:Nat} {a b:E} {ρ:Env} {x y r:PV} (ha:evE cf a ρ=some x) (hb:evE cf b ρ=some y) (h:cf f [x,y]=some r):evE cf (.call f (.cons a (.cons b .nil))) ρ=some r:=by
 simp only [evE,ha,hb,bnd_some,consF_e1,callF_e1,h]
theorem call3 {cf:Nat→List PV→Option PV} {f:Nat} {a b c:E} {ρ:Env} {x y z r:PV} (ha:evE cf a ρ=some x) (hb:evE cf b ρ=some y) (hc:evE cf c ρ=some z) (h:cf f [x,y,z]=some r):evE cf (.call f (.cons a (.cons b (.cons c .nil)))) ρ=some r:=by
 simp only [evE,ha,hb,hc,bnd_some,consF_e1,callF_e1,h]
theorem op1_run {cf:Nat→List PV→Option PV} {o:Op1} {a:E} {ρ:Env} {x r:PV} (ha:evE cf a ρ=some x) (h:opF1 o x=some r):evE cf (.op1 o a) ρ=some r:=by
 rw [evE,ha,bnd_some,h]
theorem tup4_run {cf:Nat→List PV→Option PV} {a b c d:E} {ρ:Env} {x y z u:PV} (ha:evE cf a ρ=some x) (hb:evE cf b ρ=some y) (hc:evE cf c ρ=some z) (hd:evE cf d ρ=some u) (h:isDict x=false∧isDict y=false∧isDict z=false∧isDict u=false):
  evE cf (.tup (.cons a (.cons b (.cons c (.cons d .nil))))) ρ=some (.tuple [x,y,z,u]):=by
 simp only [evE,ha,hb,hc,hd,bnd_some,consF_e1,tupF_e1,anyD,h,Bool.or_self,Bool.or_false,tst_false]
theorem eqvAll_self:∀ (ps:List PV),(∀ p∈ps,PyData.eqv p p=true)→PyData.eqvAll ps ps=true
 | [],_=>by simp [PyData.eqvAll]
 | p::ps,h=>by simp [PyData.eqvAll,h p List.mem_cons_self,eqvAll_self ps fun q hq=>h q (List.mem_cons_of_mem _ hq)]
theorem Pl.self {p:PV} (h:Pl p):PyData.eqv p p=true:=by
 induction h with
 | none=>simp [PyData.eqv]
 | bool b=>simp [PyData.eqv]
 | int i=>simp [PyData.eqv]
 | str x=>simp [PyData.eqv]
 | list h ih=>simp only [PyData.eqv];exact eqvAll_self _ ih
 | tuple h ih=>simp only [PyData.eqv];exact eqvAll_self _ ih
theorem depthAll_le {d:Nat}:∀ (ps:List PV),(∀ p∈ps,p.depth≤d)→PyData.depthAll ps≤d
 | [],_=>by simp [PyData.depthAll]
 | p::ps,h=>by
  have h1:=h p List.mem_cons_self
  have h2:=depthAll_le ps fun q hq=>h q (List.mem_cons_of_mem _ hq)
  simp only [PyData.depthAll]
  lia
theorem eq_self {p:PV} (h:Pl p) (hd:p.depth≤180):eqF p p=some true:=by
 unfold eqF
 simp only [h.nd,Bool.or_self,Bool.false_eq_true,if_false,h.self]
 rw [if_pos (by lia)]
theorem pl_n (k:Nat):Pl (nPv k):=.int _
theorem pl_p (p:Nat×Nat):Pl (pPv p):=.tuple fun q hq=>by
 rcases List.mem_cons.mp hq with rfl | hq
 ·exact pl_n _
 ·rw [List.mem_singleton.mp hq];exact pl_n _
theorem pl_t (t:List Nat):Pl (tPv t):=.tuple fun q hq=>by
 obtain ⟨k,_,rfl⟩:=List.mem_map.mp hq
 exact pl_n k
theorem pl_e (t:List (Nat×Nat)):Pl (.tuple (t.map pPv)):=.tuple fun q hq=>by
 obtain ⟨k,_,rfl⟩:=List.mem_map.mp hq
 exact pl_p k
theorem pl_w (w:Wd):Pl w.pv:=.tuple fun q hq=>by
 rcases List.mem_cons.mp hq with rfl | hq
 ·exact pl_n _
 rcases List.mem_cons.mp hq with rfl | hq
 ·exact pl_t _
 rcases List.mem_cons.mp hq with rfl | hq
 ·exact pl_t _
 ·rw [List.mem_singleton.mp hq];exact pl_e _
theorem dp_n (k:Nat):(nPv k).depth=0:=by simp [nPv,PyData.depth]
theorem dp_p (p:Nat×Nat):(pPv p).depth=1:=by simp [pPv,nPv,PyData.depth,PyData.depthAll]
theorem dp_t (t:List Nat):(tPv t).depth≤1:=by
 have:=depthAll_le (d:=0) (t.map nPv) fun q hq=>by obtain ⟨k,_,rfl⟩:=List.mem_map.mp hq;rw [dp_n];lia
 simp only [tPv,PyData.depth];lia
theorem dp_e (t:List (Nat×Nat)):(PyData.tuple (t.map pPv)).depth≤2:=by
 have:=depthAll_le (d:=1) (t.map pPv) fun q hq=>by obtain ⟨k,_,rfl⟩:=List.mem_map.mp hq;rw [dp_p];lia
 simp only [PyData.depth];lia
theorem dp_w (w:Wd):w.pv.depth≤3:=by
 have h1:=dp_t w.a
 have h2:=dp_t w.b
 have h3:=dp_e w.e
 have h0:=dp_n w.n
 unfold tPv at h1 h2
 simp only [Wd.pv]
 rw [PyData.depth]
 simp only [PyData.depthAll]
 lia
theorem eq_w (w:Wd):eqF w.pv w.pv=some true:=eq_self (pl_w w) (by have:=dp_w w;lia)
structure WoK (T:Tab):Prop where
 h48:T 48=some f48
 h49:T 49=some f49
 h50:T 50=some f50
theorem add_n (a b:Nat):addF (nPv a) (nPv b)=some (nPv (a+b)):=by simp [nPv]
noncomputable def dbB (n:Nat):List (List Nat):=(List.range n).map fun k=>[k,k+n]
theorem dbB_get {n k:Nat} (h:k<n):(dbB n).getD k []=[k,k+n]:=by simp [dbB,h]
theorem mem_db {n:Nat} {l:List Nat} (h:∀ x∈l,x<n) {y:Nat}:y∈reN (dbB n) l↔y<2 * n∧y % n∈l:=by
 unfold reN
 rw [List.mem_flatMap]
 constructor
 ·rintro ⟨x,hx,hy⟩
  have hxn:=h x hx
  rw [dbB_get hxn] at hy
  simp only [List.mem_cons,List.not_mem_nil,or_false] at hy
  rcases hy with rfl | rfl
  ·exact ⟨by lia,by rw [Nat.mod_eq_of_lt hxn];exact hx⟩
  ·exact ⟨by lia,by rw [Nat.add_mod_right,Nat.mod_eq_of_lt hxn];exact hx⟩
 ·rintro ⟨h1,h2⟩
  have hxn:=h _ h2
  refine ⟨y % n,h2,?_⟩
  rw [dbB_get hxn]
  simp only [List.mem_cons,List.not_mem_nil,or_false]
  by_cases hy:y<n
  ·left;exact (Nat.mod_eq_of_lt hy).symm
  ·right
   have:y % n=y - n:=by rw [Nat.mod_eq_sub_mod (by lia),Nat.mod_eq_of_lt (by lia)]
   lia
theorem db_nodup {n:Nat}:∀ {l:List Nat},l.Nodup→(∀ x∈l,x<n)→(reN (dbB n) l).Nodup
 | [],_,_=>List.nodup_nil
 | x::l,hn,h=>by
  rw [List.nodup_cons] at hn
  have hx:=h x List.mem_cons_self
  have hl:=fun y hy=>h y (List.mem_cons_of_mem _ hy)
  show ((dbB n).getD x []++reN (dbB n) l).Nodup
  rw [dbB_get hx,List.nodup_append]
  refine ⟨by simp;lia,db_nodup hn.2 hl,fun a ha b hb e=>?_⟩
  subst e
  have:=((mem_db hl).mp hb).2
  simp only [List.mem_cons,List.not_mem_nil,or_false] at ha
  rcases ha with rfl | rfl
  ·rw [Nat.mod_eq_of_lt hx] at this;exact hn.1 this
  ·rw [Nat.add_mod_right,Nat.mod_eq_of_lt hx] at this;exact hn.1 this
theorem db_marks {n:Nat} {l:List Nat} (hr:RiseN l) (h:∀ x∈l,x<n):srtL ltN (reN (dbB n) l)=(List.range (2 * n)).filter fun k=>decide (k % n∈l):=by
 refine rise_ext strictN (srtL_pw strictN _ (db_nodup (rise_nodup strictN hr) h)) ((range_rise _).filter _) fun x=>?_
 rw [mem_srtL,mem_db h,List.mem_filter,List.mem_range,decide_eq_true_eq]
noncomputable def dbP (n:Nat) (p:Nat×Nat):List (Nat×Nat):=[(p.1,p.2),(p.1,p.2+n),(p.1+n,p.2),(p.1+n,p.2+n)]
theorem reP_db {n:Nat} {p:Nat×Nat} (h:p.1<n∧p.2<n):reP (dbB n) p=dbP n p:=by
 unfold reP
 rw [dbB_get h.1,dbB_get h.2];rfl
theorem flat_db {n:Nat}:∀ {l:List (Nat×Nat)},(∀ p∈l,p.1<n∧p.2<n)→l.flatMap (reP (dbB n))=l.flatMap (dbP n)
 | [],_=>rfl
 | p::l,h=>by rw [List.flatMap_cons,List.flatMap_cons,reP_db (h p List.mem_cons_self),flat_db fun q hq=>h q (List.mem_cons_of_mem _ hq)]
theorem mem_dbP {n:Nat} {p q:Nat×Nat} (h:p.1<n∧p.2<n):q∈dbP n p↔q.1<2 * n∧q.2<2 * n∧(q.1 % n,q.2 % n)=p:=by
 obtain ⟨a,b⟩:=p
 obtain ⟨c,d⟩:=q
 obtain ⟨h1,h2⟩:=h
 simp only at h1 h2
 have md:∀ x:Nat,x<2 * n→∀ y,y<n→(x % n=y↔x=y∨x=y+n):=fun x hx y hy=>by
  by_cases hxn:x<n
  ·rw [Nat.mod_eq_of_lt hxn];lia
  ·have:x % n=x - n:=by rw [Nat.mod_eq_sub_mod (by lia),Nat.mod_eq_of_lt (by lia)]
   lia
 simp only [dbP,List.mem_cons,List.not_mem_nil,or_false,Prod.mk.injEq]
 constructor
 ·intro h
  have hc:c<2 * n:=by lia
  have hd:d<2 * n:=by lia
  refine ⟨hc,hd,(md c hc a h1).mpr (by lia),(md d hd b h2).mpr (by lia)⟩
 ·rintro ⟨hc,hd,e1,e2⟩
  have:=(md c hc a h1).mp e1
  have:=(md d hd b h2).mp e2
  lia
theorem len_dbP (n:Nat):∀ l:List (Nat×Nat),(l.flatMap (dbP n)).length=4 * l.length
 | []=>rfl
 | p::l=>by rw [List.flatMap_cons,List.length_append,len_dbP n l,List.length_cons];simp [dbP];lia
theorem dbP_nodup {n:Nat}:∀ {l:List (Nat×Nat)},l.Nodup→(∀ p∈l,p.1<n∧p.2<n)→(l.flatMap (dbP n)).Nodup
 | [],_,_=>List.nodup_nil
 | p::l,hn,h=>by
  rw [List.nodup_cons] at hn
  have hp:=h p List.mem_cons_self
  have hl:=fun y hy=>h y (List.mem_cons_of_mem _ hy)
  rw [List.flatMap_cons,List.nodup_append]
  refine ⟨by simp [dbP];lia,dbP_nodup hn.2 hl,fun a ha b hb e=>?_⟩
  subst e
  obtain ⟨q,hq,hb⟩:=List.mem_flatMap.mp hb
  have e1:=((mem_dbP hp).mp ha).2.2
  have e2:=((mem_dbP (hl q hq)).mp hb).2.2
  exact hn.1 (by rw [← e1,e2];exact hq)
noncomputable def dueE (n:Nat) (e:List (Nat×Nat)) (m:Nat):List (Nat×Nat):=(List.range m).flatMap (rowOf (2 * n) fun x y=>decide ((x % n,y % n)∈e))
theorem db_arrows {n:Nat} {l:List (Nat×Nat)} (hr:RiseP l) (h:∀ p∈l,p.1<n∧p.2<n):srtL ltP (l.flatMap (reP (dbB n)))=dueE n l (2 * n):=by
 rw [flat_db h]
 refine rise_ext strictP (srtL_pw strictP _ (dbP_nodup (rise_nodup strictP hr) h)) (rows_rise _ _ _ (range_rise _)) fun q=>?_
 rw [mem_srtL,List.mem_flatMap]
 unfold dueE
 rw [List.mem_flatMap]
 constructor
 ·rintro ⟨p,hp,hq⟩
  obtain ⟨h1,h2,h3⟩:=(mem_dbP (h p hp)).mp hq
  refine ⟨q.1,List.mem_range.mpr h1,List.mem_map.mpr ⟨q.2,List.mem_filter.mpr ⟨List.mem_range.mpr h2,decide_eq_true ?_⟩,rfl⟩⟩
  rw [h3];exact hp
 ·rintro ⟨x,hx,hq⟩
  unfold rowOf at hq
  obtain ⟨y,hy,rfl⟩:=List.mem_map.mp hq
  obtain ⟨hy1,hy2⟩:=List.mem_filter.mp hy
  have hm:=of_decide_eq_true hy2
  exact ⟨_,hm,(mem_dbP (h _ hm)).mpr ⟨List.mem_range.mp hx,List.mem_range.mp hy1,rfl⟩⟩
theorem full_db:(allP 4).flatMap (dbP 4)=fullP:=by decide +kernel
theorem db_ok {w:Wd} (O:WOk w) (hn:w.n≤4):ReOk w (dbB w.n):=by
 have l1:=O.la
 have l2:=O.lb
 have l3:=O.le
 have l4:w.n * w.n≤4 * 4:=Nat.mul_le_mul hn hn
 have lr:∀ l:List Nat,(∀ x∈l,x<w.n)→(reN (dbB w.n) l).length=2 * l.length:=by
  intro l
  induction l with
  | nil=>intro _;rfl
  | cons x l ih=>
   intro h
   show ((dbB w.n).getD x []++reN (dbB w.n) l).length=_
   rw [dbB_get (h x List.mem_cons_self),List.length_append,ih fun y hy=>h y (List.mem_cons_of_mem _ hy)]
   simp;lia
 refine ⟨fun x hx=>by simpa [dbB] using O.ia x hx,fun x hx=>by simpa [dbB] using O.ib x hx,fun p hp=>by simpa [dbB] using O.ie p hp,?_,?_,?_⟩
 ·rw [lr w.a O.ia];lia
 ·rw [lr w.b O.ib];lia
 ·rw [flat_db O.ie]
  by_cases hf:w.e.length<16
  ·left;rw [len_dbP];lia
  ·right
   have h4:w.n=4:=by
    rcases (by lia:w.n=0∨w.n=1∨w.n=2∨w.n=3∨w.n=4) with h | h | h | h | h <;> rw [h] at l3 <;> lia
   have:=O.full (by rw [h4];lia)
   rw [this,h4,full_db]
noncomputable def dblW (w:Wd):Wd:=⟨w.n+w.n,(List.range (2 * w.n)).filter (fun k=>decide (k % w.n∈w.a)),(List.range (2 * w.n)).filter (fun k=>decide (k % w.n∈w.b)),dueE w.n w.e (2 * w.n)⟩
theorem re_db {w:Wd} (O:WOk w):w.re (w.n+w.n) (dbB w.n)=dblW w:=by
 unfold Wd.re dblW
 rw [db_marks O.ra O.ia,db_marks O.rb O.ib,db_arrows O.re O.ie]
theorem doubled52 {T:Tab} (H:WoK T) (h:T 52=some f52) (k:Nat) (w:Wd) (O:WOk w) (hw:w.n≤4):run T (k+3) 52 [w.pv]=some (dblW w).pv:=by
 rw [run_at h rfl]
 have q:=remade50 H.h48 H.h49 H.h50 k w (w.n+w.n) _ (db_ok O hw)
 rw [re_db O] at q
 have bs:evE (run T (k+2)) (.comp none [1] (.rng (.var 1)) (.con (.bool true)) (.tup (.cons (.var 0) (.cons (.op2 .add (.var 0) (.var 1)) .nil)))) [.val w.pv,.val (nPv w.n)]=some (bsPv (dbB w.n)):=by
  rw [comp_allE (xs:=List.range w.n) nPv (fun k=>tPv [k,k+w.n]) (rng_n (j:=w.n) (by simp) (by lia)) rfl (fun x _=>by simp [add_n,tPv]) (fun _=>rfl)]
  simp [bsPv,dbB,List.map_map,Function.comp_def]
 have key:evS (run T (k+2)) b52 [.val w.pv,.un]=some (.rt (dblW w).pv):=by
  unfold b52
  refine seq_nx (set_nx (p:=nPv w.n) (by simp [Wd.pv,w0])) (ret_rt ?_)
  exact call3 (x:=w.pv) (y:=nPv (w.n+w.n)) (by simp) (by simp [add_n]) bs q
 exact congrArg outV key
noncomputable def onB (names:List Nat):List (List Nat):=names.map fun x=>[x]
theorem onB_get {names:List Nat} {k:Nat} (h:k<names.length):(onB names).getD k []=[names.getD k 0]:=by simp [onB,h]
theorem reN_on {names:List Nat}:∀ {l:List Nat},(∀ x∈l,x<names.length)→reN (onB names) l=l.map fun k=>names.getD k 0
 | [],_=>rfl
 | x::l,h=>by
  show (onB names).getD x []++reN (onB names) l=_
  rw [onB_get (h x List.mem_cons_self),reN_on fun y hy=>h y (List.mem_cons_of_mem _ hy)];rfl
theorem reP_on {names:List Nat}:∀ {l:List (Nat×Nat)},(∀ p∈l,p.1<names.length∧p.2<names.length)→l.flatMap (reP (onB names))=l.map fun p=>(names.getD p.1 0,names.getD p.2 0)
 | [],_=>rfl
 | p::l,h=>by
  obtain ⟨h1,h2⟩:=h p List.mem_cons_self
  rw [List.flatMap_cons,reP_on fun y hy=>h y (List.mem_cons_of_mem _ hy)]
  unfold reP
  rw [onB_get h1,onB_get h2];rfl
noncomputable def shufW (w:Wd) (names:List Nat):Wd:=⟨w.n,srtL ltN (w.a.map fun k=>names.getD k 0),srtL ltN (w.b.map fun k=>names.getD k 0),srtL ltP (w.e.map fun p=>(names.getD p.1 0,names.getD p.2 0))⟩
theorem shuf_ok {w:Wd} (O:WOk w) (hn:w.n≤7) {names:List Nat} (hl:names.length=w.n):ReOk w (onB names)∧w.re w.n (onB names)=shufW w names:=by
 have l1:=O.la
 have l2:=O.lb
 have l3:=O.le
 have l4:w.n * w.n≤7 * 7:=Nat.mul_le_mul hn hn
 have ha:∀ x∈w.a,x<names.length:=fun x hx=>by rw [hl];exact O.ia x hx
 have hb:∀ x∈w.b,x<names.length:=fun x hx=>by rw [hl];exact O.ib x hx
 have he:∀ p∈w.e,p.1<names.length∧p.2<names.length:=fun x hx=>by rw [hl];exact O.ie x hx
 have hz:(onB names).length=names.length:=by simp [onB]
 refine ⟨⟨by rw [hz];exact ha,by rw [hz];exact hb,by rw [hz];exact he,?_,?_,.inl ?_⟩,?_⟩
 ·rw [reN_on ha,List.length_map];lia
 ·rw [reN_on hb,List.length_map];lia
 ·rw [reP_on he,List.length_map];lia
 ·unfold Wd.re shufW
  rw [reN_on ha,reN_on hb,reP_on he]
theorem shuffled55 {T:Tab} (H:WoK T) (h:T 55=some f55) (k:Nat) (w:Wd) (O:WOk w) (hn:w.n≤7) (names:List Nat) (hl:names.length=w.n):run T (k+3) 55 [w.pv,tPv names]=some (shufW w names).pv:=by
 rw [run_at h rfl]
 obtain ⟨R,e⟩:=shuf_ok O hn hl
 have q:=remade50 H.h48 H.h49 H.h50 k w w.n _ R
 rw [e] at q
 have bs:evE (run T (k+2)) (.comp none [] (.var 1) (.con (.bool true)) (.tup (.cons (.var 0) .nil))) [.val w.pv,.val (tPv names)]=some (bsPv (onB names)):=by
  rw [comp_allE (xs:=names) nPv (fun k=>tPv [k]) (s:=tPv names) (by simp) rfl (fun x _=>by simp [tPv]) (fun _=>rfl)]
  simp [bsPv,onB,List.map_map,Function.comp_def]
 have key:evS (run T (k+2)) b55 [.val w.pv,.val (tPv names)]=some (.rt (shufW w names).pv):=by
  unfold b55
  exact ret_rt (call3 (x:=w.pv) (y:=nPv w.n) (by simp) (by simp [Wd.pv,w0]) bs q)
 exact congrArg outV key
theorem perm_n {ys:List PV} {l:List Nat} (h:ys.Perm (l.map nPv)):∃ names:List Nat,ys=names.map nPv∧names.length=l.length∧∀ x∈names,x∈l:=by
 have inv:∀ y∈ys,∃ x∈l,nPv x=y:=fun y hy=>List.mem_map.mp (h.mem_iff.mp hy)
 refine ⟨ys.map fun y=>match y with | .int i=>i.toNat | _=>0,?_,by rw [List.length_map,h.length_eq,List.length_map],fun x hx=>?_⟩
 ·rw [List.map_map]
  conv=>lhs;rw [← List.map_id ys]
  refine List.map_congr_left fun y hy=>?_
  obtain ⟨x,_,rfl⟩:=inv y hy
  rfl
 ·obtain ⟨y,hy,rfl⟩:=List.mem_map.mp hx
  obtain ⟨x,hl,rfl⟩:=inv y hy
  exact hl
theorem cut13 (a b c d:PV):cut [a,b,c,d] (some 1) (some 3)=[b,c]:=by simp [cut,sIx]
noncomputable def failAt (w:Wd):List Dm→Nat→Option Nat
 | [],_=>none
 | d::r,k=>if d.holds w=true then failAt w r (k+1) else some k
noncomputable def optPv:Option Nat→PV
 | none=>.none
 | some n=>nPv n
structure HoK (T:Tab):Prop where
 h37:T 37=some f37
 h38:T 38=some f38
 h39:T 39=some f39
 h40:T 40=some f40
 h41:T 41=some f41
 h42:T 42=some f42
theorem failing41 {T:Tab} (H:HoK T) (r:List Dm) (w:Wd) (hn:w.n≤1000) (e:Nat) (hr:∀ d∈r,d.f.dep≤e) (k:Nat):run T (k+e+5) 41 [rowPv r,w.pv]=some (optPv (failAt w r 0)):=by
 rw [run_at H.h41 rfl]
 have lp:∀ (r:List Dm),(∀ d∈r,d.f.dep≤e)→∀ (n:Nat) (row:PV) (s2 s3:Sl),(∀ m,failAt w r n=some m→loopF (.many [2,3]) (evS (run T (k+e+4)) b41l0) (enumF (r.map Dm.pv) n) [.val row,.val w.pv,s2,s3]=some (.rt (nPv m)))∧
   (failAt w r n=none→∃ t2 t3,loopF (.many [2,3]) (evS (run T (k+e+4)) b41l0) (enumF (r.map Dm.pv) n) [.val row,.val w.pv,s2,s3]=some (.nx [.val row,.val w.pv,t2,t3])):=by
  intro r
  induction r with
  | nil=>exact fun _ n row s2 s3=>⟨fun m z=>(by cases z),fun _=>⟨s2,s3,rfl⟩⟩
  | cons d r ih=>
   intro hr n row s2 s3
   have hd:=hr d List.mem_cons_self
   have q:=run_le (j:=k+e+4) (by lia) (demand40 H.h37 H.h38 H.h39 H.h40 d w hn k)
   obtain ⟨i1,i2⟩:=ih (fun c hc=>hr c (List.mem_cons_of_mem _ hc)) (n+1) row (.val (nPv n)) (.val d.pv)
   have step:loopF (.many [2,3]) (evS (run T (k+e+4)) b41l0) (enumF ((d::r).map Dm.pv) n) [.val row,.val w.pv,s2,s3]=
     turnO (evS (run T (k+e+4)) b41l0 [.val row,.val w.pv,.val (nPv n),.val d.pv]) (fun ρ=>loopF (.many [2,3]) (evS (run T (k+e+4)) b41l0) (enumF (r.map Dm.pv) (n+1)) ρ):=rfl
   rw [step]
   cases ed:d.holds w with
   | true=>
    rw [ed] at q
    have b:evS (run T (k+e+4)) b41l0 [.val row,.val w.pv,.val (nPv n),.val d.pv]=some (.nx [.val row,.val w.pv,.val (nPv n),.val d.pv]):=by simp [b41l0,q]
    have f:failAt w (d::r) n=failAt w r (n+1):=by simp [failAt,ed]
    rw [b,turnO_nx,f]
    exact ⟨i1,i2⟩
   | false=>
    rw [ed] at q
    have b:evS (run T (k+e+4)) b41l0 [.val row,.val w.pv,.val (nPv n),.val d.pv]=some (.rt (nPv n)):=by simp [b41l0,q]
    have f:failAt w (d::r) n=some n:=by simp [failAt,ed]
    rw [b,turnO_rt,f]
    exact ⟨fun m z=>(by cases z;rfl),fun z=>(by cases z)⟩
 have key:evS (run T (k+e+4)) b41 [.val (rowPv r),.val w.pv,.un,.un]=some (.rt (optPv (failAt w r 0))):=by
  unfold b41
  obtain ⟨i1,i2⟩:=lp r hr 0 (rowPv r) .un .un
  have lr:∀ o,loopF (.many [2,3]) (evS (run T (k+e+4)) b41l0) (enumF (r.map Dm.pv) 0) [.val (rowPv r),.val w.pv,.un,.un]=o→evS (run T (k+e+4)) (.loop (.many [2,3]) (.op1 .enum (.var 0)) b41l0) [.val (rowPv r),.val w.pv,.un,.un]=o:=
   fun o z=>loop_run (p:=.list (enumF (r.map Dm.pv) 0)) (by simp [rowPv]) rfl z
  cases ef:failAt w r 0 with
  | none=>
   obtain ⟨t2,t3,et⟩:=i2 ef
   exact seq_nx (lr _ et) (ret_rt (by simp [optPv]))
  | some m=>exact seq_rt (lr _ (i1 m ef))
 exact congrArg outV key
theorem optPv_n (o:Option Nat):nonB (optPv o)=o.isNone:=by cases o <;> rfl
theorem holds42 {T:Tab} (H:HoK T) (r:List Dm) (w:Wd) (hn:w.n≤1000) (e:Nat) (hr:∀ d∈r,d.f.dep≤e) (k:Nat):run T (k+e+6) 42 [rowPv r,w.pv]=some (.bool (failAt w r 0).isNone):=by
 rw [run_at H.h42 rfl]
 have q:=failing41 H r w hn e hr k
 simp [b42,q,optPv_n]
theorem fail_none (w:Wd):∀ (r:List Dm) (k:Nat),(failAt w r k).isNone=r.all fun d=>d.holds w
 | [],_=>rfl
 | d::r,k=>by
  rw [failAt,List.all_cons,← fail_none w r (k+1)]
  cases d.holds w <;> rfl
noncomputable def Qt.opp:Qt→Qt
 | .each=>.some
 | .some=>.each
noncomputable def Dm.con (d:Dm):Dm:=⟨d.one.opp,d.other.opp,.not d.f⟩
theorem atI_nat {α:Type} (l:List α) (i:Nat) (x:α) (h:l[i]?=some x):atI l (i:Int)=some x:=by
 unfold atI ixN
 have hi:i<l.length:=(List.getElem?_eq_some_iff.mp h).1
 rw [if_pos (by lia),if_pos (by lia)]
 simpa using h
noncomputable def holdsW (r:List Dm) (w:Wd):Bool:=r.all fun d=>d.holds w
theorem lholds46 {T:Tab} (h44:T 44=some f44) (h45:T 45=some f45) (h:T 46=some f46) (r:List Dm) (w:Wd) (hn:w.n≤1000) (e:Nat) (hr:∀ d∈r,d.f.dep≤e) (k:Nat):
  run T (k+e+3) 46 [rowPv r,w.pv]=some (.bool (holdsW r w)):=by
 rw [run_at h rfl]
 have key:evS (run T (k+e+2)) b46 [.val (rowPv r),.val w.pv]=some (.rt (.bool (holdsW r w))):=by
  unfold b46
  have h1:evE (run T (k+e+2)) (.comp none [1] (.var 0) (.not (.call 45 (.cons (.var 0) (.cons (.var 1) .nil)))) (.var 0)) [.val (rowPv r),.val w.pv]=some (.list ((r.filter fun d=>!d.holds w).map Dm.pv)):=by
   refine comp_filE (xs:=r) Dm.pv Dm.pv (fun d=>!d.holds w) (s:=rowPv r) (by simp) rfl (fun d hd=>?_) (fun d _=>by simp) (fun d=>isDict_dm d)
   have hd':=hr d hd
   obtain ⟨j,ej⟩:∃ j,k+e+2=j+d.f.dep+2:=⟨k+(e - d.f.dep),by lia⟩
   have m45:=meets45 h44 h45 d w hn j
   rw [← ej] at m45
   have c:=call2 (cf:=run T (k+e+2)) (f:=45) (a:=.var 0) (b:=.var 1) (ρ:=[.val d.pv,.val w.pv]) (x:=d.pv) (y:=w.pv) (by simp) (by simp) m45
   show evE (run T (k+e+2)) (.not (.call 45 (.cons (.var 0) (.cons (.var 1) .nil)))) [.val d.pv,.val w.pv]=_
   rw [evE,c,bnd_some,truthF_e2,bnd_some]
  refine ret_rt (op2_run h1 (y:=.list []) (by simp) ?_)
  have hz:(r.filter fun d=>!d.holds w).isEmpty=holdsW r w:=by
   unfold holdsW
   rw [Bool.eq_iff_iff]
   simp [List.isEmpty_iff,List.filter_eq_nil_iff,List.all_eq_true]
  rw [← hz]
  cases r.filter fun d=>!d.holds w with
  | nil=>simp [eqF,PyData.eqv,PyData.eqvAll,PyData.depth,PyData.depthAll]
  | cons d l=>simp [eqF,PyData.eqv,PyData.eqvAll,PyData.depth,PyData.depthAll]
 exact congrArg outV key
structure Onto (v w:Wd) (f:Nat→Nat):Prop where
 lt:∀ x,x<v.n→f x<w.n
 sj:∀ y,y<w.n→∃ x,x<v.n∧f x=y
 a:∀ x,x<v.n→(x∈v.a↔f x∈w.a)
 b:∀ x,x<v.n→(x∈v.b↔f x∈w.b)
 e:∀ x y,x<v.n→y<v.n→((x,y)∈v.e↔(f x,f y)∈w.e)
theorem at_lt (m:Nm) {i j n:Nat} (hi:i<n) (hj:j<n):m.at i j<n:=by cases m <;> assumption
theorem at_map (m:Nm) (f:Nat→Nat) (i j:Nat):m.at (f i) (f j)=f (m.at i j):=by cases m <;> rfl
section
variable {v w:Wd} {f:Nat→Nat}
theorem Onto.val (O:Onto v w f) {i j:Nat} (hi:i<v.n) (hj:j<v.n):∀ g:Fm,g.val v i j=g.val w (f i) (f j)
 | .yes=>rfl
 | .no=>rfl
 | .a m=>by simp only [Fm.val,at_map];exact decide_eq_decide.mpr (O.a _ (at_lt m hi hj))
 | .b m=>by simp only [Fm.val,at_map];exact decide_eq_decide.mpr (O.b _ (at_lt m hi hj))
 | .to m n=>by simp only [Fm.val,at_map];exact decide_eq_decide.mpr (O.e _ _ (at_lt m hi hj) (at_lt n hi hj))
 | .not g=>by simp only [Fm.val,O.val hi hj g]
 | .both g h=>by simp only [Fm.val,O.val hi hj g,O.val hi hj h]
 | .either g h=>by simp only [Fm.val,O.val hi hj g,O.val hi hj h]
theorem Onto.of (O:Onto v w f) (q:Qt) {p p':Nat→Bool} (h:∀ x,x<v.n→p x=p' (f x)):q.of v.n p=q.of w.n p':=by
 cases q with
 | some=>
  unfold Qt.of
  rw [Bool.eq_iff_iff,List.any_eq_true,List.any_eq_true]
  constructor
  ·rintro ⟨x,hx,hp⟩
   have hx':=List.mem_range.mp hx
   exact ⟨f x,List.mem_range.mpr (O.lt x hx'),by rw [← h x hx'];exact hp⟩
  ·rintro ⟨y,hy,hp⟩
   obtain ⟨x,hx,rfl⟩:=O.sj y (List.mem_range.mp hy)
   exact ⟨x,List.mem_range.mpr hx,by rw [h x hx];exact hp⟩
 | each=>
  unfold Qt.of
  rw [Bool.eq_iff_iff,List.all_eq_true,List.all_eq_true]
  constructor
  ·intro hp y hy
   obtain ⟨x,hx,rfl⟩:=O.sj y (List.mem_range.mp hy)
   rw [← h x hx];exact hp x (List.mem_range.mpr hx)
  ·intro hp x hx
   have hx':=List.mem_range.mp hx
   rw [h x hx'];exact hp _ (List.mem_range.mpr (O.lt x hx'))
theorem Onto.holds (O:Onto v w f) (d:Dm):d.holds v=d.holds w:=by
 unfold Dm.holds
 refine O.of _ fun x hx=>?_
 unfold Dm.with
 exact O.of _ fun y hy=>O.val hx hy d.f
theorem Onto.row (O:Onto v w f) (r:List Dm):holdsW r v=holdsW r w:=by
 unfold holdsW
 congr 1
 funext d
 exact O.holds d
end
structure Alike (w:Wd) (i j:Nat):Prop where
 a:i∈w.a↔j∈w.a
 b:i∈w.b↔j∈w.b
 o:∀ k,k<w.n→((i,k)∈w.e↔(j,k)∈w.e)
 i:∀ k,k<w.n→((k,i)∈w.e↔(k,j)∈w.e)
noncomputable def alikeB (w:Wd) (i j:Nat):Bool:=((decide (i∈w.a)==decide (j∈w.a))&&(decide (i∈w.b)==decide (j∈w.b)))&&(List.range w.n).all fun k=>(decide ((i,k)∈w.e)==decide ((j,k)∈w.e))&&(decide ((k,i)∈w.e)==decide ((k,j)∈w.e))
theorem dec_beq {p q:Prop} [Decidable p] [Decidable q]:(decide p==decide q)=true↔(p↔q):=by
 by_cases hp:p <;> by_cases hq:q <;> simp [hp,hq]
theorem alikeB_iff {w:Wd} {i j:Nat}:alikeB w i j=true↔Alike w i j:=by
 unfold alikeB
 simp only [Bool.and_eq_true,dec_beq,List.all_eq_true,List.mem_range]
 exact ⟨fun ⟨⟨h1,h2⟩,h3⟩=>⟨h1,h2,fun k hk=>(h3 k hk).1,fun k hk=>(h3 k hk).2⟩,fun h=>⟨⟨h.a,h.b⟩,fun k hk=>⟨h.o k hk,h.i k hk⟩⟩⟩
section
variable {v w:Wd}
theorem Alike.refl (i:Nat):Alike w i i:=⟨.rfl,.rfl,fun _ _=>.rfl,fun _ _=>.rfl⟩
theorem Alike.symm {i j:Nat} (h:Alike w i j):Alike w j i:=⟨h.a.symm,h.b.symm,fun k hk=>(h.o k hk).symm,fun k hk=>(h.i k hk).symm⟩
theorem Alike.trans {i j l:Nat} (h:Alike w i j) (g:Alike w j l):Alike w i l:=⟨h.a.trans g.a,h.b.trans g.b,fun k hk=>(h.o k hk).trans (g.o k hk),fun k hk=>(h.i k hk).trans (g.i k hk)⟩
theorem alikeB_comm (i j:Nat):alikeB w i j=alikeB w j i:=by
 rw [Bool.eq_iff_iff,alikeB_iff,alikeB_iff]
 exact ⟨Alike.symm,Alike.symm⟩
theorem Onto.alike {f:Nat→Nat} (O:Onto v w f) {x y:Nat} (hx:x<v.n) (hy:y<v.n):Alike v x y↔Alike w (f x) (f y):=by
 constructor
 ·intro h
  refine ⟨(O.a x hx).symm.trans (h.a.trans (O.a y hy)),(O.b x hx).symm.trans (h.b.trans (O.b y hy)),fun k hk=>?_,fun k hk=>?_⟩
  ·obtain ⟨z,hz,rfl⟩:=O.sj k hk
   exact (O.e x z hx hz).symm.trans ((h.o z hz).trans (O.e y z hy hz))
  ·obtain ⟨z,hz,rfl⟩:=O.sj k hk
   exact (O.e z x hz hx).symm.trans ((h.i z hz).trans (O.e z y hz hy))
 ·intro h
  refine ⟨(O.a x hx).trans (h.a.trans (O.a y hy).symm),(O.b x hx).trans (h.b.trans (O.b y hy).symm),fun z hz=>?_,fun z hz=>?_⟩
  ·exact (O.e x z hx hz).trans ((h.o _ (O.lt z hz)).trans (O.e y z hy hz).symm)
  ·exact (O.e z x hz hx).trans ((h.i _ (O.lt z hz)).trans (O.e z y hz hy).symm)
end
noncomputable def keptW (w:Wd):List Nat:=(List.range w.n).filter fun k=>!(List.range k).any (alikeB w k)
section
variable {w:Wd}
theorem mem_kept {k:Nat}:k∈keptW w↔k<w.n∧∀ j,j<k→¬ Alike w k j:=by
 unfold keptW
 rw [List.mem_filter,List.mem_range,Bool.not_eq_true',← Bool.not_eq_true,List.any_eq_true]
 refine and_congr_right fun _=>⟨fun h j hj ha=>h ⟨j,List.mem_range.mpr hj,alikeB_iff.mpr ha⟩,?_⟩
 rintro h ⟨j,hj,ha⟩
 exact h j (List.mem_range.mp hj) (alikeB_iff.mp ha)
theorem kept_rise:RiseN (keptW w):=(range_rise _).filter _
theorem rep_ex:∀ k,k<w.n→∃ j,j∈keptW w∧Alike w k j:=by
 intro k
 induction k using Nat.strongRecOn with
 | ind k ih=>
  intro hk
  by_cases h:k∈keptW w
  ·exact ⟨k,h,.refl k⟩
  ·have:∃ j,j<k∧Alike w k j:=by
    apply Classical.byContradiction
    intro hn
    exact h (mem_kept.mpr ⟨hk,fun j hj ha=>hn ⟨j,hj,ha⟩⟩)
   obtain ⟨j,hj,ha⟩:=this
   obtain ⟨l,hl,hb⟩:=ih j hj (by lia)
   exact ⟨l,hl,ha.trans hb⟩
theorem kept_eq {i j:Nat} (hi:i∈keptW w) (hj:j∈keptW w) (h:Alike w i j):i=j:=by
 rcases Nat.lt_trichotomy i j with z | z | z
 ·exact absurd h.symm ((mem_kept.mp hj).2 i z)
 ·exact z
 ·exact absurd h ((mem_kept.mp hi).2 j z)
end
noncomputable def ixK:List Nat→Nat→Nat
 | [],_=>0
 | y::l,x=>if y=x then 0 else ixK l x+1
theorem ixK_at:∀ {l:List Nat} {x:Nat},x∈l→l[ixK l x]?=some x
 | [],x,h=>by cases h
 | y::l,x,h=>by
  unfold ixK
  by_cases e:y=x
  ·rw [if_pos e,e];rfl
  ·rw [if_neg e]
   rcases List.mem_cons.mp h with z | z
   ·exact absurd z.symm e
   ·simpa using ixK_at z
theorem ixK_lt {l:List Nat} {x:Nat} (h:x∈l):ixK l x<l.length:=(List.getElem?_eq_some_iff.mp (ixK_at h)).1
theorem ixK_inj {l:List Nat} {x y:Nat} (hx:x∈l) (hy:y∈l) (h:ixK l x=ixK l y):x=y:=by
 have h1:=ixK_at hx
 rw [h,ixK_at hy] at h1
 exact (Option.some.inj h1).symm
theorem ixK_of {l:List Nat} (hn:l.Nodup) {i x:Nat} (h:l[i]?=some x):ixK l x=i:=by
 have hx:=ixK_at (List.mem_of_getElem? h)
 obtain ⟨h1,e1⟩:=List.getElem?_eq_some_iff.mp hx
 obtain ⟨h2,e2⟩:=List.getElem?_eq_some_iff.mp h
 exact (List.getElem_inj hn).mp (e1.trans e2.symm)
theorem ixK_mono {l:List Nat} (hr:RiseN l) {x y:Nat} (hx:x∈l) (hy:y∈l) (h:x<y):ixK l x<ixK l y:=by
 obtain ⟨h1,e1⟩:=List.getElem?_eq_some_iff.mp (ixK_at hx)
 obtain ⟨h2,e2⟩:=List.getElem?_eq_some_iff.mp (ixK_at hy)
 rcases Nat.lt_trichotomy (ixK l x) (ixK l y) with z | z | z
 ·exact z
 ·exact absurd (ixK_inj hx hy z) (by lia)
 ·have:=of_decide_eq_true (List.pairwise_iff_getElem.mp hr _ _ h2 h1 z)
  lia
noncomputable def leanM (K:List Nat) (l:List Nat):List Nat:=(l.filter fun x=>decide (x∈K)).map (ixK K)
noncomputable def leanE (K:List Nat) (l:List (Nat×Nat)):List (Nat×Nat):=(l.filter fun p=>decide (p.1∈K)&&decide (p.2∈K)).map fun p=>(ixK K p.1,ixK K p.2)
noncomputable def leanW (w:Wd):Wd:=⟨(keptW w).length,leanM (keptW w) w.a,leanM (keptW w) w.b,leanE (keptW w) w.e⟩
theorem mem_leanM {K l:List Nat} {x:Nat} (hx:x∈K):ixK K x∈leanM K l↔x∈l:=by
 unfold leanM
 rw [List.mem_map]
 constructor
 ·rintro ⟨y,hy,e⟩
  obtain ⟨h1,h2⟩:=List.mem_filter.mp hy
  rw [← ixK_inj (of_decide_eq_true h2) hx e];exact h1
 ·intro h
  exact ⟨x,List.mem_filter.mpr ⟨h,decide_eq_true hx⟩,rfl⟩
theorem mem_leanE {K:List Nat} {l:List (Nat×Nat)} {x y:Nat} (hx:x∈K) (hy:y∈K):(ixK K x,ixK K y)∈leanE K l↔(x,y)∈l:=by
 unfold leanE
 rw [List.mem_map]
 constructor
 ·rintro ⟨⟨a,b⟩,hp,e⟩
  obtain ⟨h1,h2⟩:=List.mem_filter.mp hp
  rw [Bool.and_eq_true] at h2
  have e1:=(Prod.mk.inj e).1
  have e2:=(Prod.mk.inj e).2
  rw [← ixK_inj (of_decide_eq_true h2.1) hx e1,← ixK_inj (of_decide_eq_true h2.2) hy e2];exact h1
 ·intro h
  exact ⟨(x,y),List.mem_filter.mpr ⟨h,by simp [hx,hy]⟩,rfl⟩
theorem leanM_rise {K l:List Nat} (hK:RiseN K) (hl:RiseN l):RiseN (leanM K l):=by
 unfold leanM RiseN
 rw [List.pairwise_map]
 refine (List.Pairwise.filter (fun x=>decide (x∈K)) hl).imp_of_mem fun {a b} ha hb q=>?_
 exact decide_eq_true (ixK_mono hK (of_decide_eq_true (List.mem_filter.mp ha).2) (of_decide_eq_true (List.mem_filter.mp hb).2) (of_decide_eq_true q))
theorem leanE_rise {K:List Nat} {l:List (Nat×Nat)} (hK:RiseN K) (hl:RiseP l):RiseP (leanE K l):=by
 unfold leanE RiseP
 rw [List.pairwise_map]
 refine (List.Pairwise.filter (fun p:Nat×Nat=>decide (p.1∈K)&&decide (p.2∈K)) hl).imp_of_mem fun {a b} ha hb q=>?_
 have ha':=(List.mem_filter.mp ha).2
 have hb':=(List.mem_filter.mp hb).2
 rw [Bool.and_eq_true] at ha' hb'
 rw [ltP_iff] at q ⊢
 rcases q with q | ⟨q1,q2⟩
 ·exact .inl (ixK_mono hK (of_decide_eq_true ha'.1) (of_decide_eq_true hb'.1) q)
 ·refine .inr ⟨?_,ixK_mono hK (of_decide_eq_true ha'.2) (of_decide_eq_true hb'.2) q2⟩
  show ixK K a.1=ixK K b.1
  rw [q1]
theorem lean_ok {w:Wd} (O:WOk w):WOk (leanW w) where
 ra:=leanM_rise kept_rise O.ra
 rb:=leanM_rise kept_rise O.rb
 re:=leanE_rise kept_rise O.re
 ia:=fun x hx=>by
  obtain ⟨y,hy,rfl⟩:=List.mem_map.mp hx
  exact ixK_lt (of_decide_eq_true (List.mem_filter.mp hy).2)
 ib:=fun x hx=>by
  obtain ⟨y,hy,rfl⟩:=List.mem_map.mp hx
  exact ixK_lt (of_decide_eq_true (List.mem_filter.mp hy).2)
 ie:=fun p hp=>by
  obtain ⟨y,hy,rfl⟩:=List.mem_map.mp hp
  have h:=(List.mem_filter.mp hy).2
  rw [Bool.and_eq_true] at h
  exact ⟨ixK_lt (of_decide_eq_true h.1),ixK_lt (of_decide_eq_true h.2)⟩
theorem lean_onto (w:Wd):∃ f,Onto w (leanW w) f:=by
 have h:∀ k,∃ j,k<w.n→j∈keptW w∧Alike w k j:=fun k=>by
  by_cases hk:k<w.n
  ·obtain ⟨j,hj⟩:=rep_ex k hk
   exact ⟨j,fun _=>hj⟩
  ·exact ⟨0,fun z=>absurd z hk⟩
 refine ⟨fun k=>ixK (keptW w) (Classical.choose (h k)),⟨fun x hx=>?_,fun y hy=>?_,fun x hx=>?_,fun x hx=>?_,fun x y hx hy=>?_⟩⟩
 ·exact ixK_lt (Classical.choose_spec (h x) hx).1
 ·have hy':y<(keptW w).length:=hy
  have e:(keptW w)[y]?=some (keptW w)[y]:=List.getElem?_eq_getElem hy'
  have hm:=List.mem_of_getElem? e
  have hx:=(mem_kept.mp hm).1
  obtain ⟨c1,c2⟩:=Classical.choose_spec (h (keptW w)[y]) hx
  refine ⟨(keptW w)[y],hx,?_⟩
  rw [← kept_eq hm c1 c2]
  exact ixK_of (rise_nodup strictN kept_rise) e
 ·obtain ⟨c1,c2⟩:=Classical.choose_spec (h x) hx
  exact c2.a.trans (mem_leanM c1).symm
 ·obtain ⟨c1,c2⟩:=Classical.choose_spec (h x) hx
  exact c2.b.trans (mem_leanM c1).symm
 ·obtain ⟨c1,c2⟩:=Classical.choose_spec (h x) hx
  obtain ⟨d1,d2⟩:=Classical.choose_spec (h y) hy
  exact (c2.o y hy).trans ((d2.i _ (mem_kept.mp c1).1).trans (mem_leanE c1 d1).symm)
theorem lean_apart {w:Wd} {i j:Nat} (hi:i<(leanW w).n) (hj:j<(leanW w).n) (h:Alike (leanW w) i j):i=j:=by
 obtain ⟨f,O⟩:=lean_onto w
 obtain ⟨x,hx,rfl⟩:∃ x,x∈keptW w∧ixK (keptW w) x=i:=by
  have e:(keptW w)[i]?=some (keptW w)[i]:=List.getElem?_eq_getElem hi
  exact ⟨_,List.mem_of_getElem? e,ixK_of (rise_nodup strictN kept_rise) e⟩
 obtain ⟨y,hy,rfl⟩:∃ y,y∈keptW w∧ixK (keptW w) y=j:=by
  have e:(keptW w)[j]?=some (keptW w)[j]:=List.getElem?_eq_getElem hj
  exact ⟨_,List.mem_of_getElem? e,ixK_of (rise_nodup strictN kept_rise) e⟩
 have:Alike w x y:=by
  refine ⟨(mem_leanM hx).symm.trans (h.a.trans (mem_leanM hy)),(mem_leanM hx).symm.trans (h.b.trans (mem_leanM hy)),fun k hk=>?_,fun k hk=>?_⟩
  ·obtain ⟨l,hl,ha⟩:=rep_ex k hk
   exact (ha.i x (mem_kept.mp hx).1).trans ((mem_leanE hx hl).symm.trans ((h.o _ (ixK_lt hl)).trans ((mem_leanE hy hl).trans (ha.i y (mem_kept.mp hy).1).symm)))
  ·obtain ⟨l,hl,ha⟩:=rep_ex k hk
   exact (ha.o x (mem_kept.mp hx).1).trans ((mem_leanE hl hx).symm.trans ((h.i _ (ixK_lt hl)).trans ((mem_leanE hl hy).trans (ha.o y (mem_kept.mp hy).1).symm)))
 rw [kept_eq hx hy this]
theorem kept_lean (w:Wd):keptW (leanW w)=List.range (leanW w).n:=by
 unfold keptW
 refine List.filter_eq_self.mpr fun k hk=>?_
 have hk':=List.mem_range.mp hk
 rw [Bool.not_eq_true',← Bool.not_eq_true,List.any_eq_true]
 rintro ⟨j,hj,ha⟩
 have hj':=List.mem_range.mp hj
 have:=lean_apart hk' (by lia) (alikeB_iff.mp ha)
 lia
theorem ixK_range {n x:Nat} (h:x<n):ixK (List.range n) x=x:=ixK_of List.nodup_range (by simp [h])
theorem leanM_range {n:Nat} {l:List Nat} (h:∀ x∈l,x<n):leanM (List.range n) l=l:=by
 unfold leanM
 rw [List.filter_eq_self.mpr fun x hx=>decide_eq_true (List.mem_range.mpr (h x hx))]
 conv=>rhs;rw [← List.map_id l]
 exact List.map_congr_left fun x hx=>ixK_range (h x hx)
theorem leanE_range {n:Nat} {l:List (Nat×Nat)} (h:∀ p∈l,p.1<n∧p.2<n):leanE (List.range n) l=l:=by
 unfold leanE
 rw [List.filter_eq_self.mpr fun p hp=>by simp [List.mem_range,h p hp]]
 conv=>rhs;rw [← List.map_id l]
 refine List.map_congr_left fun p hp=>?_
 rw [ixK_range (h p hp).1,ixK_range (h p hp).2];rfl
theorem lean_lean {w:Wd} (O:WOk w):leanW (leanW w)=leanW w:=by
 have L:=lean_ok O
 have e:leanW (leanW w)=⟨(keptW (leanW w)).length,leanM (keptW (leanW w)) (leanW w).a,leanM (keptW (leanW w)) (leanW w).b,leanE (keptW (leanW w)) (leanW w).e⟩:=rfl
 rw [e,kept_lean,leanM_range L.ia,leanM_range L.ib,leanE_range L.ie,List.length_range]
theorem dbl_ok {w:Wd} (O:WOk w) (h:1≤w.n):WOk (dblW w) where
 ra:=(range_rise _).filter _
 rb:=(range_rise _).filter _
 re:=rows_rise _ _ _ (range_rise _)
 ia:=fun x hx=>by
  have:=List.mem_range.mp (List.mem_filter.mp hx).1
  show x<w.n+w.n
  lia
 ib:=fun x hx=>by
  have:=List.mem_range.mp (List.mem_filter.mp hx).1
  show x<w.n+w.n
  lia
 ie:=fun p hp=>by
  obtain ⟨x,hx,hp⟩:=List.mem_flatMap.mp hp
  unfold rowOf at hp
  obtain ⟨y,hy,rfl⟩:=List.mem_map.mp hp
  have h1:=List.mem_range.mp hx
  have h2:=List.mem_range.mp (List.mem_filter.mp hy).1
  show x<w.n+w.n∧y<w.n+w.n
  lia
theorem mem_dueE {n:Nat} {e:List (Nat×Nat)} {m:Nat} {p:Nat×Nat}:p∈dueE n e m↔p.1<m∧p.2<2 * n∧(p.1 % n,p.2 % n)∈e:=by
 unfold dueE
 rw [List.mem_flatMap]
 constructor
 ·rintro ⟨x,hx,hp⟩
  unfold rowOf at hp
  obtain ⟨y,hy,rfl⟩:=List.mem_map.mp hp
  obtain ⟨h1,h2⟩:=List.mem_filter.mp hy
  exact ⟨List.mem_range.mp hx,List.mem_range.mp h1,of_decide_eq_true h2⟩
 ·rintro ⟨h1,h2,h3⟩
  exact ⟨p.1,List.mem_range.mpr h1,List.mem_map.mpr ⟨p.2,List.mem_filter.mpr ⟨List.mem_range.mpr h2,decide_eq_true h3⟩,rfl⟩⟩
theorem dbl_onto {w:Wd} (h:1≤w.n):Onto (dblW w) w (· % w.n) where
 lt:=fun x _=>Nat.mod_lt _ (by lia)
 sj:=fun y hy=>⟨y,by show y<w.n+w.n;lia,Nat.mod_eq_of_lt hy⟩
 a:=fun x hx=>by
  have hx':x<w.n+w.n:=hx
  show x∈(List.range (2 * w.n)).filter _↔_
  rw [List.mem_filter,List.mem_range,decide_eq_true_eq]
  exact ⟨fun z=>z.2,fun z=>⟨by lia,z⟩⟩
 b:=fun x hx=>by
  have hx':x<w.n+w.n:=hx
  show x∈(List.range (2 * w.n)).filter _↔_
  rw [List.mem_filter,List.mem_range,decide_eq_true_eq]
  exact ⟨fun z=>z.2,fun z=>⟨by lia,z⟩⟩
 e:=fun x y hx hy=>by
  have hx':x<w.n+w.n:=hx
  have hy':y<w.n+w.n:=hy
  show (x,y)∈dueE w.n w.e (2 * w.n)↔_
  rw [mem_dueE]
  exact ⟨fun z=>z.2.2,fun z=>⟨by show x<_;lia,by show y<_;lia,z⟩⟩
theorem kept_dbl {w:Wd} (h:1≤w.n):keptW (dblW w)=keptW w:=by
 have O:=dbl_onto h
 refine rise_ext strictN kept_rise kept_rise fun k=>?_
 rw [mem_kept,mem_kept]
 have hn:(dblW w).n=w.n+w.n:=rfl
 constructor
 ·rintro ⟨h1,h2⟩
  have hk:k<w.n:=by
   apply Classical.byContradiction
   intro hk
   refine h2 (k - w.n) (by lia) ((O.alike h1 (by lia)).mpr ?_)
   have:(k - w.n) % w.n=k % w.n:=(Nat.mod_eq_sub_mod (by lia)).symm
   rw [this]
   exact .refl _
  refine ⟨hk,fun j hj ha=>h2 j hj ((O.alike h1 (by lia)).mpr ?_)⟩
  rw [Nat.mod_eq_of_lt hk,Nat.mod_eq_of_lt (by lia)]
  exact ha
 ·rintro ⟨h1,h2⟩
  refine ⟨by lia,fun j hj ha=>h2 j hj ?_⟩
  have:=(O.alike (by lia) (by lia)).mp ha
  rw [Nat.mod_eq_of_lt h1,Nat.mod_eq_of_lt (by lia)] at this
  exact this
theorem lean_dbl {w:Wd} (O:WOk w) (h:1≤w.n):leanW (dblW w)=leanW w:=by
 have D:=dbl_ok O h
 have o:=dbl_onto h
 have hn:(dblW w).n=w.n+w.n:=rfl
 have m:∀ l l':List Nat,RiseN l→RiseN l'→(∀ x,x<(dblW w).n→(x∈l↔x % w.n∈l'))→leanM (keptW w) l=leanM (keptW w) l':=fun l l' hl hl' hx=>by
  unfold leanM
  congr 1
  refine rise_ext strictN (hl.filter _) (hl'.filter _) fun x=>?_
  rw [List.mem_filter,List.mem_filter,decide_eq_true_eq]
  refine and_congr_left fun hk=>?_
  have hk':=(mem_kept.mp hk).1
  rw [hx x (by lia),Nat.mod_eq_of_lt hk']
 have e:leanE (keptW w) (dblW w).e=leanE (keptW w) w.e:=by
  unfold leanE
  congr 1
  refine rise_ext strictP (D.re.filter _) (O.re.filter _) fun p=>?_
  rw [List.mem_filter,List.mem_filter,Bool.and_eq_true,decide_eq_true_eq,decide_eq_true_eq]
  refine and_congr_left fun hk=>?_
  have h1:=(mem_kept.mp hk.1).1
  have h2:=(mem_kept.mp hk.2).1
  have:=o.e p.1 p.2 (by lia) (by lia)
  rw [Nat.mod_eq_of_lt h1,Nat.mod_eq_of_lt h2] at this
  exact this
 have ee:leanW (dblW w)=⟨(keptW (dblW w)).length,leanM (keptW (dblW w)) (dblW w).a,leanM (keptW (dblW w)) (dblW w).b,leanE (keptW (dblW w)) (dblW w).e⟩:=rfl
 rw [ee,kept_dbl h,m _ _ D.ra O.ra fun x hx=>o.a x hx,m _ _ D.rb O.rb fun x hx=>o.b x hx,e]
 rfl
theorem shuf_onto {w:Wd} (O:WOk w) {names:List Nat} (hp:names.Perm (List.range w.n)):Onto w (shufW w names) (fun k=>names.getD k 0):=by
 have hl:names.length=w.n:=by rw [hp.length_eq,List.length_range]
 have hd:names.Nodup:=hp.nodup_iff.mpr List.nodup_range
 have ga:∀ x,x<w.n→names[x]?=some (names.getD x 0):=fun x hx=>by simp [show x<names.length by lia]
 have inj:∀ x y,x<w.n→y<w.n→names.getD x 0=names.getD y 0→x=y:=fun x y hx hy e=>by
  have h1:=ga x hx
  have h2:=ga y hy
  rw [← e] at h2
  obtain ⟨q1,e1⟩:=List.getElem?_eq_some_iff.mp h1
  obtain ⟨q2,e2⟩:=List.getElem?_eq_some_iff.mp h2
  exact (List.getElem_inj hd).mp (e1.trans e2.symm)
 have mk:∀ (l:List Nat),(∀ x∈l,x<w.n)→∀ x,x<w.n→(x∈l↔names.getD x 0∈srtL ltN (l.map fun k=>names.getD k 0)):=fun l hl x hx=>by
  rw [mem_srtL,List.mem_map]
  constructor
  ·intro h;exact ⟨x,h,rfl⟩
  ·rintro ⟨y,hy,e⟩
   rw [← inj y x (hl y hy) hx e];exact hy
 refine ⟨fun x hx=>?_,fun y hy=>?_,mk w.a O.ia,mk w.b O.ib,fun x y hx hy=>?_⟩
 ·have:=hp.mem_iff.mp (List.mem_of_getElem? (ga x hx))
  exact List.mem_range.mp this
 ·have:=hp.mem_iff.mpr (List.mem_range.mpr hy)
  obtain ⟨x,hx,e⟩:=List.getElem_of_mem this
  refine ⟨x,by lia,?_⟩
  simp [hx,e]
 ·show _↔_∈srtL ltP (w.e.map fun p=>(names.getD p.1 0,names.getD p.2 0))
  rw [mem_srtL,List.mem_map]
  constructor
  ·intro h;exact ⟨(x,y),h,rfl⟩
  ·rintro ⟨⟨a,b⟩,hp,e⟩
   obtain ⟨h1,h2⟩:=O.ie _ hp
   have e1:=(Prod.mk.inj e).1
   have e2:=(Prod.mk.inj e).2
   rw [← inj a x h1 hx e1,← inj b y h2 hy e2];exact hp
noncomputable def outsW (w:Wd) (k:Nat):List Nat:=(w.e.filter fun p=>decide (p.1=k)).map (·.2)
noncomputable def insW (w:Wd) (k:Nat):List Nat:=(w.e.filter fun p=>decide (p.2=k)).map (·.1)
noncomputable def lPv (l:List Nat):PV:=.list (l.map nPv)
noncomputable def lookPv (w:Wd) (k:Nat):PV:=.tuple [.bool (decide (k∈w.a)),.bool (decide (k∈w.b)),lPv (outsW w k),lPv (insW w k)]
@[simp] theorem isDict_lk (w:Wd) (k:Nat):isDict (lookPv w k)=false:=rfl
theorem mem_outs {w:Wd} {k y:Nat}:y∈outsW w k↔(k,y)∈w.e:=by
 unfold outsW
 rw [List.mem_map]
 constructor
 ·rintro ⟨⟨a,b⟩,hp,rfl⟩
  obtain ⟨h1,h2⟩:=List.mem_filter.mp hp
  rw [← of_decide_eq_true h2];exact h1
 ·intro h;exact ⟨(k,y),List.mem_filter.mpr ⟨h,by simp⟩,rfl⟩
theorem mem_ins {w:Wd} {k y:Nat}:y∈insW w k↔(y,k)∈w.e:=by
 unfold insW
 rw [List.mem_map]
 constructor
 ·rintro ⟨⟨a,b⟩,hp,rfl⟩
  obtain ⟨h1,h2⟩:=List.mem_filter.mp hp
  rw [← of_decide_eq_true h2];exact h1
 ·intro h;exact ⟨(y,k),List.mem_filter.mpr ⟨h,by simp⟩,rfl⟩
theorem outs_rise {w:Wd} (O:WOk w) (k:Nat):RiseN (outsW w k):=by
 unfold outsW RiseN
 rw [List.pairwise_map]
 refine (List.Pairwise.filter (fun p:Nat×Nat=>decide (p.1=k)) O.re).imp_of_mem fun {a b} ha hb q=>?_
 have ha':=of_decide_eq_true (List.mem_filter.mp ha).2
 have hb':=of_decide_eq_true (List.mem_filter.mp hb).2
 rw [ltP_iff] at q
 exact decide_eq_true (by lia)
theorem ins_rise {w:Wd} (O:WOk w) (k:Nat):RiseN (insW w k):=by
 unfold insW RiseN
 rw [List.pairwise_map]
 refine (List.Pairwise.filter (fun p:Nat×Nat=>decide (p.2=k)) O.re).imp_of_mem fun {a b} ha hb q=>?_
 have ha':=of_decide_eq_true (List.mem_filter.mp ha).2
 have hb':=of_decide_eq_true (List.mem_filter.mp hb).2
 rw [ltP_iff] at q
 exact decide_eq_true (by lia)
theorem eqvAll_n:∀ l r:List Nat,PyData.eqvAll (l.map nPv) (r.map nPv)=decide (l=r)
 | [],[]=>by simp [PyData.eqvAll]
 | [],y::r=>by simp [PyData.eqvAll]
 | x::l,[]=>by simp [PyData.eqvAll]
 | x::l,y::r=>by
  rw [List.map_cons,List.map_cons,PyData.eqvAll,eqv_n,eqvAll_n l r]
  by_cases h1:x=y <;> by_cases h2:l=r <;> simp [h1,h2]
theorem eqv_look {w:Wd} (O:WOk w) (i j:Nat):PyData.eqv (lookPv w i) (lookPv w j)=alikeB w i j:=by
 have e:PyData.eqv (lookPv w i) (lookPv w j)=((decide (i∈w.a)==decide (j∈w.a))&&((decide (i∈w.b)==decide (j∈w.b))&&(decide (outsW w i=outsW w j)&&(decide (insW w i=insW w j)&&true)))):=by
  unfold lookPv lPv
  simp only [PyData.eqv,PyData.eqvAll,eqv_bb,eqvAll_n]
 rw [e,Bool.eq_iff_iff,alikeB_iff]
 simp only [Bool.and_eq_true,dec_beq,decide_eq_true_eq,and_true]
 constructor
 ·rintro ⟨h1,h2,h3,h4⟩
  refine ⟨h1,h2,fun k _=>?_,fun k _=>?_⟩
  ·rw [← mem_outs,← mem_outs,h3]
  ·rw [← mem_ins,← mem_ins,h4]
 ·intro h
  refine ⟨h.a,h.b,rise_ext strictN (outs_rise O i) (outs_rise O j) fun k=>?_,rise_ext strictN (ins_rise O i) (ins_rise O j) fun k=>?_⟩
  ·rw [mem_outs,mem_outs]
   by_cases hk:k<w.n
   ·exact h.o k hk
   ·exact ⟨fun z=>absurd (O.ie _ z).2 hk,fun z=>absurd (O.ie _ z).2 hk⟩
  ·rw [mem_ins,mem_ins]
   by_cases hk:k<w.n
   ·exact h.i k hk
   ·exact ⟨fun z=>absurd (O.ie _ z).1 hk,fun z=>absurd (O.ie _ z).1 hk⟩
theorem dp_l (l:List Nat):(lPv l).depth≤1:=by
 have:=depthAll_le (d:=0) (l.map nPv) fun q hq=>by obtain ⟨k,_,rfl⟩:=List.mem_map.mp hq;rw [dp_n];lia
 simp only [lPv,PyData.depth];lia
theorem dp_look (w:Wd) (k:Nat):(lookPv w k).depth≤2:=by
 have h1:=dp_l (outsW w k)
 have h2:=dp_l (insW w k)
 unfold lookPv
 rw [PyData.depth]
 simp only [PyData.depthAll,depth_b]
 lia
theorem eqn (a b:Nat):eqF (nPv a) (nPv b)=some (decide (a=b)):=by
 simp [eqF,eqv_n,dp_n]
theorem look57 {T:Tab} (h:T 57=some f57) (k:Nat) (w:Wd) (i:Nat):run T (k+1) 57 [w.pv,nPv i]=some (lookPv w i):=by
 rw [run_at h rfl]
 have c1:evE (run T k) (.comp none [1] (.op2 .ix (.var 0) (.con (.int 3))) (.op2 .eq (.op2 .ix (.var 0) (.con (.int 0))) (.var 1)) (.op2 .ix (.var 0) (.con (.int 1)))) [.val w.pv,.val (nPv i),.un,.un]=some (lPv (outsW w i)):=by
  rw [comp_filE (xs:=w.e) pPv (fun p=>nPv p.2) (fun p=>decide (p.1=i)) (s:=.tuple (w.e.map pPv)) (by simp [Wd.pv,w3]) rfl (fun p _=>by simp [pPv,t20,eqn]) (fun p _=>by simp [pPv,t21]) (fun _=>rfl)]
  simp [lPv,outsW,List.map_map,Function.comp_def]
 have c2:∀ s,evE (run T k) (.comp none [1] (.op2 .ix (.var 0) (.con (.int 3))) (.op2 .eq (.op2 .ix (.var 0) (.con (.int 1))) (.var 1)) (.op2 .ix (.var 0) (.con (.int 0)))) [.val w.pv,.val (nPv i),s,.un]=some (lPv (insW w i)):=by
  intro s
  rw [comp_filE (xs:=w.e) pPv (fun p=>nPv p.1) (fun p=>decide (p.2=i)) (s:=.tuple (w.e.map pPv)) (by simp [Wd.pv,w3]) rfl (fun p _=>by simp [pPv,t21,eqn]) (fun p _=>by simp [pPv,t20]) (fun _=>rfl)]
  simp [lPv,insW,List.map_map,Function.comp_def]
 have key:evS (run T k) b57 [.val w.pv,.val (nPv i),.un,.un]=some (.rt (lookPv w i)):=by
  unfold b57
  refine seq_nx (set_nx c1) (seq_nx (set_nx (c2 _)) (ret_rt ?_))
  refine tup4_run (x:=.bool (decide (i∈w.a))) (y:=.bool (decide (i∈w.b))) (z:=lPv (outsW w i)) (u:=lPv (insW w i)) ?_ ?_ (by simp) (by simp) ⟨rfl,rfl,rfl,rfl⟩
  ·simp [Wd.pv,w1,in_n]
  ·simp [Wd.pv,w2,in_n]
 exact congrArg outV key
theorem idxL_first (L:Nat→PV) (x:PV):∀ (m s k:Nat),s≤k→k<s+m→PyData.eqv (L k) x=true→∃ j,idxL x ((List.range' s m).map L) s=some j∧j≤k∧(j=k↔∀ i,s≤i→i<k→PyData.eqv (L i) x=false)
 | 0,s,k,h1,h2,_=>by lia
 | m+1,s,k,h1,h2,he=>by
  rw [List.range'_succ,List.map_cons,idxL]
  by_cases h:PyData.eqv (L s) x=true
  ·rw [if_pos h]
   refine ⟨s,rfl,h1,fun e i hi hk=>by lia,fun hz=>?_⟩
   by_cases hs:s=k
   ·exact hs
   ·have:=hz s (Nat.le_refl _) (by lia)
    rw [h] at this;cases this
  ·rw [if_neg h]
   have hs:s≠k:=fun e=>h (by rw [e];exact he)
   obtain ⟨j,e1,e2,e3⟩:=idxL_first L x m (s+1) k (by lia) (by lia) he
   refine ⟨j,e1,e2,fun e i hi hk=>?_,fun hz=>e3.mpr fun i hi hk=>hz i (by lia) hk⟩
   by_cases his:i=s
   ·rw [his];exact Bool.eq_false_iff.mpr h
   ·exact e3.mp e i (by lia) hk
theorem first58 {T:Tab} (h57:T 57=some f57) (h:T 58=some f58) (k:Nat) (w:Wd) (O:WOk w) (hn:w.n≤1000):run T (k+2) 58 [w.pv]=some (lPv (keptW w)):=by
 rw [run_at h rfl]
 have key:evS (run T (k+1)) b58 [.val w.pv,.un]=some (.rt (lPv (keptW w))):=by
  unfold b58
  have c1:evE (run T (k+1)) (.comp none [0] (.rng (.op2 .ix (.var 0) (.con (.int 0)))) (.con (.bool true)) (.call 57 (.cons (.var 1) (.cons (.var 0) .nil)))) [.val w.pv,.un]=some (.list ((List.range w.n).map (lookPv w))):=
   comp_allE (xs:=List.range w.n) nPv (lookPv w) (rng_n (j:=w.n) (by simp [Wd.pv,w0]) (by lia)) rfl (fun i _=>call2 (x:=w.pv) (y:=nPv i) (by simp) (by simp) (look57 h57 k w i)) (fun _=>rfl)
  refine seq_nx (set_nx c1) (ret_rt ?_)
  unfold lPv keptW
  refine comp_range _ (rng_n (j:=w.n) (by simp [Wd.pv,w0]) (by lia)) fun i hi=>?_
  have ha:atI ((List.range w.n).map (lookPv w)) (i:Int)=some (lookPv w i):=atI_nat _ i _ (by simp [hi])
  have hix:ixF (.list ((List.range w.n).map (lookPv w))) (nPv i)=some (lookPv w i):=ha
  obtain ⟨j,e1,e2,e3⟩:=idxL_first (lookPv w) (lookPv w i) w.n 0 i (Nat.zero_le _) (by lia) (by rw [eqv_look O];exact alikeB_iff.mpr (.refl i))
  rw [← List.range_eq_range'] at e1
  have hdx:idxF (.list ((List.range w.n).map (lookPv w))) (lookPv w i)=some (nPv j):=by
   have:=dp_look w i
   rw [idxF_e1,isDict_lk,if_neg Bool.false_ne_true,if_pos (by lia),e1];rfl
  have hb:decide (j=i)=!(List.range i).any (alikeB w i):=by
   rw [Bool.eq_iff_iff,decide_eq_true_eq,e3,Bool.not_eq_true',← Bool.not_eq_true,List.any_eq_true]
   constructor
   ·rintro hz ⟨l,hl,ha⟩
    have:=hz l (Nat.zero_le _) (List.mem_range.mp hl)
    rw [eqv_look O,alikeB_comm,ha] at this;cases this
   ·intro hz l _ hl
    rw [eqv_look O,alikeB_comm]
    exact Bool.eq_false_iff.mpr fun q=>hz ⟨l,List.mem_range.mpr hl,q⟩
  rw [← hb]
  refine op2_run (x:=nPv j) (y:=nPv i) ?_ (by simp) (by simp only [opF2,eqn,bnd_some])
  exact op2_run (x:=.list ((List.range w.n).map (lookPv w))) (y:=lookPv w i) (by simp) (op2_run (x:=.list ((List.range w.n).map (lookPv w))) (y:=nPv i) (by simp) (by simp) hix) hdx
 exact congrArg outV key
theorem in_l (x:Nat) (l:List Nat):inF (nPv x) (lPv l)=some (decide (x∈l)):=by
 have d:(nPv x).depth=0:=depth_int _
 show (if isDict (nPv x)=true then none else if min (PyData.depthAll (l.map nPv)) (nPv x).depth≤180 then some ((l.map nPv).any fun y=>PyData.eqv y (nPv x)) else none)=_
 rw [isDict_n,if_neg Bool.false_ne_true,d,if_pos (by lia),any_dec nPv eqv_n]
theorem idxL_n:∀ (l:List Nat) (x s:Nat),x∈l→idxL (nPv x) (l.map nPv) s=some (s+ixK l x)
 | [],_,_,h=>by cases h
 | y::l,x,s,h=>by
  rw [List.map_cons,idxL,eqv_n,ixK]
  by_cases e:y=x
  ·rw [if_pos (decide_eq_true e),if_pos e];rfl
  ·rw [if_neg (by simp [e]),if_neg e]
   rcases List.mem_cons.mp h with z | z
   ·exact absurd z.symm e
   ·rw [idxL_n l x (s+1) z]
    exact congrArg some (by lia)
theorem idx_l {x:Nat} {l:List Nat} (h:x∈l):idxF (lPv l) (nPv x)=some (nPv (ixK l x)):=by
 have:=dp_n x
 rw [lPv,idxF_e1,isDict_n,if_neg Bool.false_ne_true,if_pos (by lia),idxL_n l x 0 h,Nat.zero_add];rfl
noncomputable def lnB (n:Nat) (K:List Nat):List (List Nat):=(List.range n).map fun k=>if k∈K then [ixK K k] else []
theorem lnB_get {n k:Nat} {K:List Nat} (h:k<n):(lnB n K).getD k []=if k∈K then [ixK K k] else []:=by simp [lnB,h]
theorem reN_ln {n:Nat} {K:List Nat}:∀ {l:List Nat},(∀ x∈l,x<n)→reN (lnB n K) l=leanM K l
 | [],_=>rfl
 | x::l,h=>by
  show (lnB n K).getD x []++reN (lnB n K) l=_
  rw [lnB_get (h x List.mem_cons_self),reN_ln fun y hy=>h y (List.mem_cons_of_mem _ hy)]
  unfold leanM
  by_cases hx:x∈K
  ·rw [if_pos hx,List.filter_cons_of_pos (by simp [hx])];rfl
  ·rw [if_neg hx,List.filter_cons_of_neg (by simp [hx])];rfl
theorem reP_ln {n:Nat} {K:List Nat}:∀ {l:List (Nat×Nat)},(∀ p∈l,p.1<n∧p.2<n)→l.flatMap (reP (lnB n K))=leanE K l
 | [],_=>rfl
 | p::l,h=>by
  obtain ⟨h1,h2⟩:=h p List.mem_cons_self
  rw [List.flatMap_cons,reP_ln fun y hy=>h y (List.mem_cons_of_mem _ hy)]
  unfold reP leanE
  rw [lnB_get h1,lnB_get h2]
  by_cases hx:p.1∈K
  ·by_cases hy:p.2∈K
   ·rw [if_pos hx,if_pos hy,List.filter_cons_of_pos (by simp [hx,hy])];rfl
   ·rw [if_pos hx,if_neg hy,List.filter_cons_of_neg (by simp [hy])];rfl
  ·rw [if_neg hx,List.filter_cons_of_neg (by simp [hx])];rfl
theorem ln_ok {w:Wd} (O:WOk w) (hn:w.n≤60) (hK:(keptW w).length≤7):ReOk w (lnB w.n (keptW w))∧w.re (keptW w).length (lnB w.n (keptW w))=leanW w:=by
 have L:=lean_ok O
 have hz:(lnB w.n (keptW w)).length=w.n:=by simp [lnB]
 have l1:=L.la
 have l2:=L.lb
 have l3:=L.le
 have l0:(leanW w).n≤7:=hK
 have l4:(leanW w).n * (leanW w).n≤7 * 7:=Nat.mul_le_mul l0 l0
 refine ⟨⟨by rw [hz];exact O.ia,by rw [hz];exact O.ib,by rw [hz];exact O.ie,?_,?_,.inl ?_⟩,?_⟩
 ·rw [reN_ln O.ia];show (leanW w).a.length<64;lia
 ·rw [reN_ln O.ib];show (leanW w).b.length<64;lia
 ·rw [reP_ln O.ie];show (leanW w).e.length<64;lia
 ·unfold Wd.re
  rw [reN_ln O.ia,reN_ln O.ib,reP_ln O.ie,srtL_self strictN _ (leanM_rise kept_rise O.ra),srtL_self strictN _ (leanM_rise kept_rise O.rb),srtL_self strictP _ (leanE_rise kept_rise O.re)];rfl
theorem lean59 {T:Tab} (H:WoK T) (h57:T 57=some f57) (h58:T 58=some f58) (h:T 59=some f59) (k:Nat) (w:Wd) (O:WOk w) (hn:w.n≤60) (hK:(keptW w).length≤7):run T (k+3) 59 [w.pv]=some (leanW w).pv:=by
 rw [run_at h rfl]
 obtain ⟨R,e⟩:=ln_ok O hn hK
 have q:=remade50 H.h48 H.h49 H.h50 k w (keptW w).length _ R
 rw [e] at q
 have key:evS (run T (k+2)) b59 [.val w.pv,.un,.un]=some (.rt (leanW w).pv):=by
  unfold b59
  refine seq_nx (set_nx (call1 (x:=w.pv) (by simp) (first58 h57 h58 k w O (by lia)))) ?_
  have c:evE (run T (k+2)) (.comp none [1] (.rng (.op2 .ix (.var 0) (.con (.int 0)))) (.con (.bool true)) (.ite (.op2 .inn (.var 0) (.var 1)) (.tup (.cons (.op2 .idx (.var 1) (.var 0)) .nil)) (.tup .nil))) [.val w.pv,.val (lPv (keptW w)),.un]=some (bsPv (lnB w.n (keptW w))):=by
   rw [comp_allE (xs:=List.range w.n) nPv (fun k=>tPv (if k∈keptW w then [ixK (keptW w) k] else [])) (rng_n (j:=w.n) (by simp [Wd.pv,w0]) (by lia)) rfl (fun i _=>by
    by_cases hi:i∈keptW w
    ·have hx:=idx_l hi
     simp [in_l,hi,hx,tPv]
    ·simp [in_l,hi,tPv]) (fun _=>rfl)]
   simp [bsPv,lnB,List.map_map,Function.comp_def]
  refine seq_nx (set_nx c) (ret_rt ?_)
  refine call3 (x:=w.pv) (y:=nPv (keptW w).length) (by simp) ?_ (by simp) q
  refine op1_run (x:=lPv (keptW w)) (by simp) ?_
  simp [lPv,nPv]
 exact congrArg outV key
theorem neb (a b:Bool):opF2 .ne (.bool a) (.bool b)=some (.bool (!(a==b))):=by simp only [opF2,eq_bb,bnd_some]
theorem alike60 {T:Tab} (h:T 60=some f60) (k:Nat) (w:Wd) (hn:w.n≤1000) (i j:Nat):run T (k+1) 60 [w.pv,nPv i,nPv j]=some (.bool (alikeB w i j)):=by
 rw [run_at h rfl]
 have key:evS (run T k) b60 [.val w.pv,.val (nPv i),.val (nPv j),.un,.un]=some (.rt (.bool (alikeB w i j))):=by
  unfold b60
  obtain ⟨i1,i2⟩:=loop_find (g:=evS (run T k) b60l0) (ρ0:=fun s=>[.val w.pv,.val (nPv i),.val (nPv j),s,.un]) (i:=3) (r:=.bool false) tPv
   (fun l=>!(decide (i∈l)==decide (j∈l))) (fun _ _=>rfl) [w.a,w.b] (fun l _=>by
    have q:evE (run T k) (.op2 .ne (.op2 .inn (.var 1) (.var 3)) (.op2 .inn (.var 2) (.var 3))) [.val w.pv,.val (nPv i),.val (nPv j),.val (tPv l),.un]=some (.bool (!(decide (i∈l)==decide (j∈l)))):=
     op2_run (x:=.bool (decide (i∈l))) (y:=.bool (decide (j∈l))) (by simp [tPv,in_n]) (by simp [tPv,in_n]) (neb _ _)
    show evS (run T k) b60l0 [.val w.pv,.val (nPv i),.val (nPv j),.val (tPv l),.un]=_
    unfold b60l0
    rw [evS,q,bnd_some,truthF_e2,bnd_some]
    cases !(decide (i∈l)==decide (j∈l)) <;> simp) .un
  have hs:evE (run T k) (.sl (.var 0) (.con (.int 1)) (.con (.int 3))) [.val w.pv,.val (nPv i),.val (nPv j),.un,.un]=some (.tuple [tPv w.a,tPv w.b]):=by simp [Wd.pv,cut13,tPv]
  cases e1:[w.a,w.b].any (fun l=>!(decide (i∈l)==decide (j∈l))) with
  | true=>
   have:alikeB w i j=false:=by
    simp only [List.any_cons,List.any_nil,Bool.or_false] at e1
    unfold alikeB
    revert e1
    cases (decide (i∈w.a)==decide (j∈w.a)) <;> cases (decide (i∈w.b)==decide (j∈w.b)) <;> simp
   rw [this]
   exact seq_rt (loop_run hs rfl (i1 e1))
  | false=>
   obtain ⟨t3,et⟩:=i2 e1
   refine seq_nx (loop_run hs rfl et) ?_
   obtain ⟨j1,j2⟩:=loop_find (g:=evS (run T k) b60l1) (ρ0:=fun s=>[.val w.pv,.val (nPv i),.val (nPv j),t3,s]) (i:=4) (r:=.bool false) nPv
    (fun l=>!((decide ((i,l)∈w.e)==decide ((j,l)∈w.e))&&(decide ((l,i)∈w.e)==decide ((l,j)∈w.e)))) (fun _ _=>rfl) (List.range w.n) (fun l _=>by
     have hin:∀ a b:Nat,inF (.tuple [nPv a,nPv b]) (.tuple (w.e.map pPv))=some (decide ((a,b)∈w.e)):=fun a b=>in_p (a,b) w.e
     have q1:evE (run T k) (.op2 .ne (.op2 .inn (.tup (.cons (.var 1) (.cons (.var 4) .nil))) (.op2 .ix (.var 0) (.con (.int 3)))) (.op2 .inn (.tup (.cons (.var 2) (.cons (.var 4) .nil))) (.op2 .ix (.var 0) (.con (.int 3))))) [.val w.pv,.val (nPv i),.val (nPv j),t3,.val (nPv l)]=some (.bool (!(decide ((i,l)∈w.e)==decide ((j,l)∈w.e)))):=
      op2_run (x:=.bool (decide ((i,l)∈w.e))) (y:=.bool (decide ((j,l)∈w.e))) (by simp [Wd.pv,w3,hin]) (by simp [Wd.pv,w3,hin]) (neb _ _)
     have q2:evE (run T k) (.op2 .ne (.op2 .inn (.tup (.cons (.var 4) (.cons (.var 1) .nil))) (.op2 .ix (.var 0) (.con (.int 3)))) (.op2 .inn (.tup (.cons (.var 4) (.cons (.var 2) .nil))) (.op2 .ix (.var 0) (.con (.int 3))))) [.val w.pv,.val (nPv i),.val (nPv j),t3,.val (nPv l)]=some (.bool (!(decide ((l,i)∈w.e)==decide ((l,j)∈w.e)))):=
      op2_run (x:=.bool (decide ((l,i)∈w.e))) (y:=.bool (decide ((l,j)∈w.e))) (by simp [Wd.pv,w3,hin]) (by simp [Wd.pv,w3,hin]) (neb _ _)
     show evS (run T k) b60l1 [.val w.pv,.val (nPv i),.val (nPv j),t3,.val (nPv l)]=_
     unfold b60l1
     rw [evS,evS,q1,bnd_some,truthF_e2,bnd_some]
     cases (decide ((i,l)∈w.e)==decide ((j,l)∈w.e)) with
     | false=>simp
     | true=>
      simp only [Bool.not_true,Bool.true_and,tst_false]
      rw [show evS (run T k) .nx [.val w.pv,.val (nPv i),.val (nPv j),t3,.val (nPv l)]=some (.nx [.val w.pv,.val (nPv i),.val (nPv j),t3,.val (nPv l)]) from rfl]
      have:∀ g,seqO (some (.nx [.val w.pv,.val (nPv i),.val (nPv j),t3,.val (nPv l)])) g=g [.val w.pv,.val (nPv i),.val (nPv j),t3,.val (nPv l)]:=fun g=>rfl
      rw [this,evS,q2,bnd_some,truthF_e2,bnd_some]
      cases (decide ((l,i)∈w.e)==decide ((l,j)∈w.e)) <;> simp) .un
   have hab:((decide (i∈w.a)==decide (j∈w.a))&&(decide (i∈w.b)==decide (j∈w.b)))=true:=by
    simp only [List.any_cons,List.any_nil,Bool.or_false] at e1
    revert e1
    cases (decide (i∈w.a)==decide (j∈w.a)) <;> cases (decide (i∈w.b)==decide (j∈w.b)) <;> simp
   have hal:∀ (l:List Nat) (p:Nat→Bool),(l.any fun x=>!p x)=!l.all p:=fun l p=>by
    induction l with
    | nil=>rfl
    | cons x l ih=>rw [List.any_cons,List.all_cons,ih];cases p x <;> rfl
   have hr:evE (run T k) (.rng (.op2 .ix (.var 0) (.con (.int 0)))) [.val w.pv,.val (nPv i),.val (nPv j),t3,.un]=some (.list ((List.range w.n).map nPv)):=rng_n (j:=w.n) (by simp [Wd.pv,w0]) (by lia)
   have hA:alikeB w i j=(List.range w.n).all fun l=>(decide ((i,l)∈w.e)==decide ((j,l)∈w.e))&&(decide ((l,i)∈w.e)==decide ((l,j)∈w.e)):=by
    unfold alikeB
    rw [hab,Bool.true_and]
   rw [hal] at j1 j2
   rw [hA]
   cases e2:(List.range w.n).all fun l=>(decide ((i,l)∈w.e)==decide ((j,l)∈w.e))&&(decide ((l,i)∈w.e)==decide ((l,j)∈w.e)) with
   | false=>exact seq_rt (loop_run hr rfl (j1 (by rw [e2];rfl)))
   | true=>
    obtain ⟨t4,e4⟩:=j2 (by rw [e2];rfl)
    exact seq_nx (loop_run hr rfl e4) (ret_rt (by simp))
 exact congrArg outV key
theorem comp_filT {cf:Nat→List PV→Option PV} {caps:List Nat} {it cond elt:E} {ρ:Env} {s:PV} {xs:List (Nat×Nat)} (F:Nat×Nat→PV) (P:Nat×Nat→Bool) (h:evE cf it ρ=some s) (hx:seqOf s=some (xs.map pPv))
  (hp:∀ x∈xs,evE cf cond (.val (nPv x.1)::.val (nPv x.2)::caps.map (ρ.getD · .un))=some (.bool (P x))) (hc:∀ x∈xs,P x=true→evE cf elt (.val (nPv x.1)::.val (nPv x.2)::caps.map (ρ.getD · .un))=some (F x)) (hd:∀ x,isDict (F x)=false):
  evE cf (.comp (some 2) caps it cond elt) ρ=some (.list ((xs.filter P).map F)):=by
 rw [evE,h,bnd_some,hx,bnd_some,comp_by pPv P F xs,bnd_some]
 intro x hm
 have q1:=hp x hm
 have b:bindT (some 2) (pPv x)=some [.val (nPv x.1),.val (nPv x.2)]:=rfl
 simp only [b,bnd_some,List.cons_append,List.nil_append,q1,truthF_e2]
 cases hP:P x with
 | true=>simp only [tst_true,hc x hm hP,bnd_some,eltF_e1,hd x,tst_false,if_true]
 | false=>rfl
theorem comp_filF {α:Type} {cf:Nat→List PV→Option PV} {caps:List Nat} {it cond elt:E} {ρ:Env} {s:PV} {xs:List α} (c F:α→PV) (P:α→Bool) (h:evE cf it ρ=some s) (hx:seqOf s=some (xs.map c))
  (hp:∀ x∈xs,evE cf cond (.val (c x)::caps.map (ρ.getD · .un))=some (.bool (P x))) (hc:∀ x∈xs,P x=true→evE cf elt (.val (c x)::caps.map (ρ.getD · .un))=some (F x)) (hd:∀ x,isDict (F x)=false):
  evE cf (.comp none caps it cond elt) ρ=some (.list ((xs.filter P).map F)):=by
 rw [evE,h,bnd_some,hx,bnd_some,comp_by c P F xs,bnd_some]
 intro x hm
 have q1:=hp x hm
 simp only [bindT_e1,bnd_some,List.cons_append,List.nil_append,q1,truthF_e2]
 cases hP:P x with
 | true=>simp only [tst_true,hc x hm hP,bnd_some,eltF_e1,hd x,tst_false,if_true]
 | false=>rfl
theorem eq_nil (l:List Nat):eqF (lPv l) (.list [])=some l.isEmpty:=by
 cases l with
 | nil=>simp [lPv,eqF,PyData.eqv,PyData.eqvAll,PyData.depth,PyData.depthAll]
 | cons x l=>simp [lPv,eqF,PyData.eqv,PyData.eqvAll,PyData.depth,PyData.depthAll]
theorem fil_empty (p:Nat→Bool) (l:List Nat):(l.filter p).isEmpty=!l.any p:=by
 induction l with
 | nil=>rfl
 | cons x l ih=>
  rw [List.filter_cons,List.any_cons]
  cases p x with
  | true=>rfl
  | false=>exact ih
theorem perm_nP {ys:List PV} {l:List Nat} (h:ys.Perm (l.map nPv)):∃ names:List Nat,ys=names.map nPv∧names.Perm l:=by
 obtain ⟨names,e,h1,h2⟩:=perm_n h
 refine ⟨names,e,?_⟩
 subst e
 have:=h.map fun y=>match y with | PyData.int i=>i.toNat | _=>0
 rw [List.map_map,List.map_map] at this
 have i1:∀ l:List Nat,l.map ((fun y=>match y with | PyData.int i=>i.toNat | _=>0)∘nPv)=l:=fun l=>by
  conv=>rhs;rw [← List.map_id l]
  rfl
 rw [i1,i1] at this
 exact this
theorem tup3_run {cf:Nat→List PV→Option PV} {a b c:E} {ρ:Env} {x y z:PV} (ha:evE cf a ρ=some x) (hb:evE cf b ρ=some y) (hc:evE cf c ρ=some z) (h:isDict x=false∧isDict y=false∧isDict z=false):
  evE cf (.tup (.cons a (.cons b (.cons c .nil)))) ρ=some (.tuple [x,y,z]):=by
 simp only [evE,ha,hb,hc,bnd_some,consF_e1,tupF_e1,anyD,h,Bool.or_self,Bool.or_false,tst_false]
theorem or_ff {cf:Nat→List PV→Option PV} {a b:E} {ρ:Env} (ha:evE cf a ρ=some (.bool false)) (hb:evE cf b ρ=some (.bool false)):evE cf (.or a b) ρ=some (.bool false):=by
 rw [evE,ha,bnd_some,truthF_e2,bnd_some,tst_false];exact hb
theorem and_bb {cf:Nat→List PV→Option PV} {a b:E} {ρ:Env} {p q:Bool} (ha:evE cf a ρ=some (.bool p)) (hb:evE cf b ρ=some (.bool q)):evE cf (.and a b) ρ=some (.bool (p&&q)):=by
 rw [evE,ha,bnd_some,truthF_e2,bnd_some]
 cases p with
 | true=>rw [tst_true,hb];rfl
 | false=>rfl
structure K21 (T:Tab):Prop extends WoK T,HoK T where
 h16:T 16=some f16
 h17:T 17=some f17
 h18:T 18=some f18
 h19:T 19=some f19
 h20:T 20=some f20
 h21:T 21=some f21
 h22:T 22=some f22
 h44:T 44=some f44
 h45:T 45=some f45
 h46:T 46=some f46
 h52:T 52=some f52
 h55:T 55=some f55
 h57:T 57=some f57
 h58:T 58=some f58
 h59:T 59=some f59
 h60:T 60=some f60
theorem kept_len (w:Wd):(keptW w).length≤w.n:=by
 unfold keptW
 have:=List.length_filter_le (fun k=>!(List.range k).any (alikeB w k)) (List.range w.n)
 simpa using this
theorem tail21 {T:Tab} (H:K21 T) (sc:PV) (r:List Dm) (hr:RowOk 4 3 r) (w:Wd) (O:WOk w) (hw1:1≤w.n) (hw4:w.n≤4) (names:List Nat) (hp:names.Perm (List.range w.n)) {b:S}
  (hb:b=(.seq (.set 5 (.call 59 (.cons (.var 2) .nil))) (.seq (.loop (.one 6) (.tup (.cons (.call 52 (.cons (.var 2) .nil)) (.cons (.call 55 (.cons (.var 2) (.cons (.var 4) .nil))) (.cons (.var 5) .nil)))) b61l0) (.seq (.loop (.one 7) (.rng (.op2 .ix (.var 5) (.con (.int 0)))) b61l1) (.seq (.ife (.or (.op2 .ne (.call 59 (.cons (.call 52 (.cons (.var 2) .nil)) .nil)) (.var 5)) (.op2 .ne (.call 59 (.cons (.var 5) .nil)) (.var 5))) (.ret (.con (.bool false))) .nx) (.seq (.set 8 (.comp none [2] (.rng (.op2 .ix (.var 2) (.con (.int 0)))) (.op2 .eq (.comp none [1,0] (.rng (.var 0)) (.call 60 (.cons (.var 1) (.cons (.var 2) (.cons (.var 0) .nil)))) (.var 0)) (.lst .nil)) (.var 0))) (.seq (.set 9 (.comp none [8] (.sl (.var 2) (.con (.int 1)) (.con (.int 3))) (.con (.bool true)) (.op1 .toTuple (.comp none [1] (.var 0) (.op2 .inn (.var 0) (.var 1)) (.op2 .idx (.var 1) (.var 0)))))) (.seq (.set 10 (.comp (some 2) [8] (.op2 .ix (.var 2) (.con (.int 3))) (.and (.op2 .inn (.var 0) (.var 2)) (.op2 .inn (.var 1) (.var 2))) (.tup (.cons (.op2 .idx (.var 2) (.var 0)) (.cons (.op2 .idx (.var 2) (.var 1)) .nil))))) (.ret (.op2 .eq (.var 5) (.tup (.cons (.op1 .len (.var 8)) (.cons (.op2 .ix (.var 9) (.con (.int 0))) (.cons (.op2 .ix (.var 9) (.con (.int 1))) (.cons (.op1 .toTuple (.var 10)) .nil))))))))))))))):
  evS (run T 39) b [.val sc,.val (rowPv r),.val w.pv,.val (.bool (holdsW r w)),.val (tPv names),.un,.un,.un,.un,.un,.un]=some (.rt (.bool true)):=by
 subst hb
 have hkl:=kept_len w
 have hnl:names.length=w.n:=by rw [hp.length_eq,List.length_range]
 have L:=lean_ok O
 have hLn:(leanW w).n≤4:=by show (keptW w).length≤4;lia
 obtain ⟨f,Of⟩:=lean_onto w
 have q59:run T 39 59 [w.pv]=some (leanW w).pv:=lean59 H.toWoK H.h57 H.h58 H.h59 36 w O (by lia) (by lia)
 have q59L:run T 39 59 [(leanW w).pv]=some (leanW w).pv:=by
  have:=lean59 H.toWoK H.h57 H.h58 H.h59 36 (leanW w) L (by lia) (by have:=kept_len (leanW w);lia)
  rw [lean_lean O] at this;exact this
 have q52:run T 39 52 [w.pv]=some (dblW w).pv:=doubled52 H.toWoK H.h52 36 w O hw4
 have hdn:(dblW w).n=w.n+w.n:=rfl
 have q59D:run T 39 59 [(dblW w).pv]=some (leanW w).pv:=by
  have:=lean59 H.toWoK H.h57 H.h58 H.h59 36 (dblW w) (dbl_ok O hw1) (by lia) (by rw [kept_dbl hw1];lia)
  rw [lean_dbl O hw1] at this;exact this
 have q55:run T 39 55 [w.pv,tPv names]=some (shufW w names).pv:=shuffled55 H.toWoK H.h55 36 w O (by lia) names hnl
 have hold:∀ u:Wd,u.n≤1000→run T 39 42 [rowPv r,u.pv]=some (.bool (holdsW r u))∧run T 39 46 [rowPv r,u.pv]=some (.bool (holdsW r u)):=fun u hu=>by
  refine ⟨?_,lholds46 H.h44 H.h45 H.h46 r u hu 3 hr.dep 33⟩
  have:=holds42 H.toHoK r u hu 3 hr.dep 30
  rw [fail_none] at this
  exact this
 refine seq_nx (set_nx (call1 (x:=w.pv) (by simp) q59)) ?_
 
 have us:∀ u∈[dblW w,shufW w names,leanW w],u.n≤1000∧holdsW r u=holdsW r w:=fun u hu=>by
  simp only [List.mem_cons,List.not_mem_nil,or_false] at hu
  rcases hu with rfl | rfl | rfl
  ·exact ⟨by lia,(dbl_onto hw1).row r⟩
  ·exact ⟨by show w.n≤1000;lia,((shuf_onto O hp).row r).symm⟩
  ·exact ⟨by lia,(Of.row r).symm⟩
 obtain ⟨ρ',e1,hI⟩:=loop_by (tg:=.one 6) (g:=evS (run T 39) b61l0)
  (fun i ρ=>∃ s6,ρ=[.val sc,.val (rowPv r),.val w.pv,.val (.bool (holdsW r w)),.val (tPv names),.val (leanW w).pv,s6,.un,.un,.un,.un]) ([dblW w,shufW w names,leanW w].map Wd.pv) 0 (fun i x ρ ex hI=>by
   obtain ⟨s6,rfl⟩:=hI
   obtain ⟨u,hu,rfl⟩:=List.mem_map.mp (List.mem_of_getElem? ex)
   obtain ⟨hu1,hu2⟩:=us u hu
   obtain ⟨h1,h2⟩:=hold u hu1
   rw [hu2] at h1 h2
   refine ⟨_,_,rfl,?_,⟨.val u.pv,rfl⟩⟩
   show evS (run T 39) b61l0 [.val sc,.val (rowPv r),.val w.pv,.val (.bool (holdsW r w)),.val (tPv names),.val (leanW w).pv,.val u.pv,.un,.un,.un,.un]=_
   unfold b61l0
   have nn:opF2 .ne (.bool (holdsW r w)) (.bool (holdsW r w))=some (.bool false):=by rw [neb];simp
   exact ife_f (p:=.bool false) (or_ff (op2_run (call2 (x:=rowPv r) (y:=u.pv) (by simp) (by simp) h1) (y:=.bool (holdsW r w)) (by simp) nn) (op2_run (call2 (x:=rowPv r) (y:=u.pv) (by simp) (by simp) h2) (y:=.bool (holdsW r w)) (by simp) nn)) rfl rfl)
  [.val sc,.val (rowPv r),.val w.pv,.val (.bool (holdsW r w)),.val (tPv names),.val (leanW w).pv,.un,.un,.un,.un,.un] ⟨_,rfl⟩
 obtain ⟨s6,rfl⟩:=hI
 refine seq_nx (loop_run (p:=.tuple [(dblW w).pv,(shufW w names).pv,(leanW w).pv]) (tup3_run (call1 (x:=w.pv) (by simp) q52) (call2 (x:=w.pv) (y:=tPv names) (by simp) (by simp) q55) (by simp) ⟨rfl,rfl,rfl⟩) rfl e1) ?_
 
 obtain ⟨ρ',e2,hI⟩:=loop_by (tg:=.one 7) (g:=evS (run T 39) b61l1)
  (fun i ρ=>∃ s7,ρ=[.val sc,.val (rowPv r),.val w.pv,.val (.bool (holdsW r w)),.val (tPv names),.val (leanW w).pv,s6,s7,.un,.un,.un]) ((List.range (leanW w).n).map nPv) 0 (fun i x ρ ex hI=>by
   obtain ⟨hi,rfl⟩:=rng_get ex
   obtain ⟨s7,rfl⟩:=hI
   refine ⟨_,_,rfl,?_,⟨.val (nPv i),rfl⟩⟩
   show evS (run T 39) b61l1 [.val sc,.val (rowPv r),.val w.pv,.val (.bool (holdsW r w)),.val (tPv names),.val (leanW w).pv,s6,.val (nPv i),.un,.un,.un]=_
   unfold b61l1
   have c:evE (run T 39) (.comp none [5,7] (.rng (.var 7)) (.call 60 (.cons (.var 1) (.cons (.var 2) (.cons (.var 0) .nil)))) (.var 0)) [.val sc,.val (rowPv r),.val w.pv,.val (.bool (holdsW r w)),.val (tPv names),.val (leanW w).pv,s6,.val (nPv i),.un,.un,.un]=some (lPv ((List.range i).filter (alikeB (leanW w) i))):=
    comp_range _ (rng_n (j:=i) (by simp) (by lia)) fun j _=>call3 (x:=(leanW w).pv) (y:=nPv i) (z:=nPv j) (by simp) (by simp) (by simp) (alike60 H.h60 38 (leanW w) (by lia) i j)
   have z:(List.range i).filter (alikeB (leanW w) i)=[]:=List.filter_eq_nil_iff.mpr fun j hj ha=>by
    have hj':=List.mem_range.mp hj
    have:=lean_apart hi (by lia) (alikeB_iff.mp ha)
    lia
   rw [z] at c
   exact ife_f (p:=.bool false) (op2_run c (y:=.list []) (by simp) (by simp only [opF2,eq_nil,bnd_some,List.isEmpty_nil,Bool.not_true])) rfl rfl)
  [.val sc,.val (rowPv r),.val w.pv,.val (.bool (holdsW r w)),.val (tPv names),.val (leanW w).pv,s6,.un,.un,.un,.un] ⟨_,rfl⟩
 obtain ⟨s7,rfl⟩:=hI
 refine seq_nx (loop_run (rng_n (j:=(leanW w).n) (by simp [Wd.pv,w0]) (by lia)) rfl e2) ?_
 have nw:opF2 .ne (leanW w).pv (leanW w).pv=some (.bool false):=by simp only [opF2,eq_w,bnd_some,Bool.not_true]
 refine seq_nx (ife_f (p:=.bool false) (or_ff (op2_run (call1 (call1 (x:=w.pv) (by simp) q52) q59D) (y:=(leanW w).pv) (by simp) nw) (op2_run (call1 (x:=(leanW w).pv) (by simp) q59L) (y:=(leanW w).pv) (by simp) nw)) rfl rfl) ?_
 
 have c8:evE (run T 39) (.comp none [2] (.rng (.op2 .ix (.var 2) (.con (.int 0)))) (.op2 .eq (.comp none [1,0] (.rng (.var 0)) (.call 60 (.cons (.var 1) (.cons (.var 2) (.cons (.var 0) .nil)))) (.var 0)) (.lst .nil)) (.var 0)) [.val sc,.val (rowPv r),.val w.pv,.val (.bool (holdsW r w)),.val (tPv names),.val (leanW w).pv,s6,s7,.un,.un,.un]=some (lPv (keptW w)):=by
  unfold lPv keptW
  refine comp_range _ (rng_n (j:=w.n) (by simp [Wd.pv,w0]) (by lia)) fun i hi=>?_
  show evE (run T 39) (.op2 .eq (.comp none [1,0] (.rng (.var 0)) (.call 60 (.cons (.var 1) (.cons (.var 2) (.cons (.var 0) .nil)))) (.var 0)) (.lst .nil)) [.val (nPv i),.val w.pv]=_
  have c:evE (run T 39) (.comp none [1,0] (.rng (.var 0)) (.call 60 (.cons (.var 1) (.cons (.var 2) (.cons (.var 0) .nil)))) (.var 0)) [.val (nPv i),.val w.pv]=some (lPv ((List.range i).filter (alikeB w i))):=
   comp_range _ (rng_n (j:=i) (by simp) (by lia)) fun j _=>call3 (x:=w.pv) (y:=nPv i) (z:=nPv j) (by simp) (by simp) (by simp) (alike60 H.h60 38 w (by lia) i j)
  exact op2_run c (y:=.list []) (by simp) (by simp only [opF2,eq_nil,bnd_some,fil_empty])
 refine seq_nx (set_nx c8) ?_
 have c9:evE (run T 39) (.comp none [8] (.sl (.var 2) (.con (.int 1)) (.con (.int 3))) (.con (.bool true)) (.op1 .toTuple (.comp none [1] (.var 0) (.op2 .inn (.var 0) (.var 1)) (.op2 .idx (.var 1) (.var 0))))) [.val sc,.val (rowPv r),.val w.pv,.val (.bool (holdsW r w)),.val (tPv names),.val (leanW w).pv,s6,s7,.val (lPv (keptW w)),.un,.un]=some (.list [tPv (leanW w).a,tPv (leanW w).b]):=by
  refine comp_allE (xs:=[w.a,w.b]) tPv (fun l=>tPv (leanM (keptW w) l)) (s:=.tuple [tPv w.a,tPv w.b]) (by simp [Wd.pv,cut13,tPv]) rfl (fun l hl=>?_) (fun _=>rfl)
  show evE (run T 39) _ [.val (tPv l),.val (lPv (keptW w))]=_
  refine op1_run (x:=lPv (leanM (keptW w) l)) ?_ rfl
  rw [comp_filF (xs:=l) nPv (fun x=>nPv (ixK (keptW w) x)) (fun x=>decide (x∈keptW w)) (s:=tPv l) (by simp) rfl (fun x _=>by simp [in_l]) (fun x _ hx=>by simp [idx_l (of_decide_eq_true hx)]) (fun _=>rfl)]
  simp [lPv,leanM,List.map_map,Function.comp_def]
 refine seq_nx (set_nx c9) ?_
 have c10:∀ s9,evE (run T 39) (.comp (some 2) [8] (.op2 .ix (.var 2) (.con (.int 3))) (.and (.op2 .inn (.var 0) (.var 2)) (.op2 .inn (.var 1) (.var 2))) (.tup (.cons (.op2 .idx (.var 2) (.var 0)) (.cons (.op2 .idx (.var 2) (.var 1)) .nil)))) [.val sc,.val (rowPv r),.val w.pv,.val (.bool (holdsW r w)),.val (tPv names),.val (leanW w).pv,s6,s7,.val (lPv (keptW w)),s9,.un]=some (.list ((leanW w).e.map pPv)):=by
  intro s9
  rw [comp_filT (xs:=w.e) (fun p=>pPv (ixK (keptW w) p.1,ixK (keptW w) p.2)) (fun p=>decide (p.1∈keptW w)&&decide (p.2∈keptW w)) (s:=.tuple (w.e.map pPv)) (by simp [Wd.pv,w3]) rfl (fun p _=>and_bb (by simp [in_l]) (by simp [in_l])) (fun p _ hx=>by
   rw [Bool.and_eq_true] at hx
   simp [idx_l (of_decide_eq_true hx.1),idx_l (of_decide_eq_true hx.2),pPv]) (fun _=>rfl)]
  simp [leanW,leanE,List.map_map,Function.comp_def]
 refine seq_nx (set_nx (c10 _)) (ret_rt ?_)
 refine op2_run (x:=(leanW w).pv) (y:=(leanW w).pv) (by simp) ?_ (by simp only [opF2,eq_w,bnd_some])
 refine tup4_run (x:=nPv (leanW w).n) (y:=tPv (leanW w).a) (z:=tPv (leanW w).b) (u:=.tuple ((leanW w).e.map pPv)) ?_ (by simp [t20]) (by simp [t21]) (by simp) ⟨rfl,rfl,rfl,rfl⟩
 refine op1_run (x:=lPv (keptW w)) (by simp) ?_
 simp [lPv,nPv,leanW]
theorem law21 {T:Tab} (H:K21 T) (ns:List Int):LawEv (run T 39) b61 (start f61 [.list (ns.map .int)]):=by
 obtain ⟨c0,_,_,m0⟩:=mixed_ex H.h16 H.h17 37 ns 0
 obtain ⟨c1,_,_,m1⟩:=mixed_ex H.h16 H.h17 37 ns 1
 obtain ⟨c2,_,_,m2⟩:=mixed_ex H.h16 H.h17 37 ns 2
 obtain ⟨r,hr,er⟩:=row_ex H.h18 H.h19 H.h20 H.h21 4 (by lia) c0 32
 obtain ⟨n,pa,pb,pe,hn1,hn2,ew⟩:=world22 H.h18 H.h22 37 c1 4 (by lia) (by lia)
 have O:=mkW_ok n pa pb pe
 have hvn:1≤(mkW n pa pb pe).n∧(mkW n pa pb pe).n≤4:=⟨hn1,hn2⟩
 generalize mkW n pa pb pe=v at ew O hvn
 obtain ⟨hv1,hv4⟩:=hvn
 have m0':run T 39 17 [.list (ns.map .int),.int 0]=some (.int c0):=m0
 have m1':run T 39 17 [.list (ns.map .int),.int 1]=some (.int c1):=m1
 have m2':run T 39 17 [.list (ns.map .int),.int 2]=some (.int c2):=m2
 have er':run T 39 21 [.int c0,.int 4]=some (rowPv r):=er
 have ev':run T 39 22 [.int c1,.int 4]=some v.pv:=ew
 show LawEv (run T 39) b61 [.val (.list (ns.map .int)),.un,.un,.un,.un,.un,.un,.un,.un,.un,.un]
 unfold b61
 refine LawEv.step (set_nx (p:=rowPv r) (by simp [m0',er'])) ?_
 refine LawEv.step (set_nx (p:=v.pv) (by simp [m1',ev'])) ?_
 obtain ⟨w,Ow,hw1,hw4,eif⟩:∃ w:Wd,WOk w∧1≤w.n∧w.n≤4∧evS (run T 39) (.ife (.and (.op2 .eq (.op2 .mod (.call 17 (.cons (.var 0) (.cons (.con (.int 2)) .nil))) (.con (.int 3))) (.con (.int 1))) (.op2 .lt (.op2 .ix (.var 2) (.con (.int 0))) (.con (.int 3)))) (.set 2 (.call 52 (.cons (.var 2) .nil))) .nx)
   [.val (.list (ns.map .int)),.val (rowPv r),.val v.pv,.un,.un,.un,.un,.un,.un,.un,.un]=some (.nx [.val (.list (ns.map .int)),.val (rowPv r),.val w.pv,.un,.un,.un,.un,.un,.un,.un,.un]):=by
  have a:evE (run T 39) (.op2 .eq (.op2 .mod (.call 17 (.cons (.var 0) (.cons (.con (.int 2)) .nil))) (.con (.int 3))) (.con (.int 1))) [.val (.list (ns.map .int)),.val (rowPv r),.val v.pv,.un,.un,.un,.un,.un,.un,.un,.un]=some (.bool (decide (c2 % 3=1))):=by
   refine op2_run (x:=.int (c2 % 3)) (y:=.int 1) ?_ (by simp) (by simp only [opF2,eq_ii,bnd_some])
   simp [m2']
  have b:evE (run T 39) (.op2 .lt (.op2 .ix (.var 2) (.con (.int 0))) (.con (.int 3))) [.val (.list (ns.map .int)),.val (rowPv r),.val v.pv,.un,.un,.un,.un,.un,.un,.un,.un]=some (.bool (decide ((v.n:Int)<3))):=by
   refine op2_run (x:=nPv v.n) (y:=.int 3) (by simp [Wd.pv,w0]) (by simp) ?_
   simp [nPv]
  have c:=and_bb a b
  by_cases hc:(decide (c2 % 3=1)&&decide ((v.n:Int)<3))=true
  ·rw [hc] at c
   have hv3:v.n<3:=by
    rw [Bool.and_eq_true,decide_eq_true_eq,decide_eq_true_eq] at hc
    lia
   refine ⟨dblW v,dbl_ok O hv1,by show 1≤v.n+v.n;lia,by show v.n+v.n≤4;lia,?_⟩
   exact ife_t c rfl (set_nx (call1 (x:=v.pv) (by simp) (doubled52 H.toWoK H.h52 36 v O hv4)))
  ·rw [Bool.eq_false_iff.mpr hc] at c
   exact ⟨v,O,hv1,hv4,ife_f c rfl rfl⟩
 refine LawEv.step eif ?_
 have q46:run T 39 46 [rowPv r,w.pv]=some (.bool (holdsW r w)):=lholds46 H.h44 H.h45 H.h46 r w (by lia) 3 hr.dep 33
 refine LawEv.step (set_nx (call2 (x:=rowPv r) (y:=w.pv) (by simp) (by simp) q46)) ?_
 have kd:∀ x:Nat,run T 39 18 [.int c2,nPv x]=some (.int (drawnI c2 x)):=fun x=>drawn_run H.h18 38 c2 x
 have rg:=rng_n (cf:=run T 39) (a:=.op2 .ix (.var 2) (.con (.int 0))) (ρ:=[.val (.list (ns.map .int)),.val (rowPv r),.val w.pv,.val (.bool (holdsW r w)),.un,.un,.un,.un,.un,.un,.un]) (j:=w.n) (by simp [Wd.pv,w0]) (by lia)
 have io:intsOf ((List.range w.n).map fun (x:Nat)=>PyData.int (drawnI c2 x))=some ((List.range w.n).map fun (x:Nat)=>drawnI c2 x):=by
  have:=intsOf_map ((List.range w.n).map fun (x:Nat)=>drawnI c2 x)
  rw [List.map_map] at this;exact this
 refine LawEv.lamT rg rfl (comp_all nPv (fun x=>.int (drawnI c2 x)) (List.range w.n) (fun x _=>by simp [m2',kd])) io (by simp;lia) (fun sl hsl=>by
  simp only [List.set_cons_succ,List.set_cons_zero,List.mem_cons,List.not_mem_nil,or_false] at hsl
  rcases hsl with rfl | rfl | rfl | rfl | rfl | rfl | rfl | rfl | rfl | rfl | rfl <;> rfl) fun ys hys=>?_
 obtain ⟨names,rfl,hnp⟩:=perm_nP hys
 exact tail21 H _ r hr w Ow hw1 hw4 names hnp rfl
end DD
namespace K21
open PySem DD
noncomputable def tab:Tab:=fun i=>List.lookup i [(48,f48),(49,f49),(50,f50),(52,f52),(57,f57),(58,f58),(59,f59),(55,f55),(37,f37),(38,f38),(39,f39),(40,f40),(41,f41),(42,f42),(16,f16),(17,f17),(18,f18),(19,f19),(20,f20),(21,f21),(22,f22),(44,f44),(45,f45),(46,f46),(60,f60),(61,f61)]
end K21
namespace K21
open PySem PySem.Spec PyProof.Rows L2 DD
noncomputable def top (i:Nat):Stmt:=PySem.Challenge.pw_twonamed_k21_whole_kept.main.body.getD i (.Pass ⟨0,0,0,0⟩)
noncomputable def Gam:Info:={
 fns:=[("remade_marks",48,2),("remade_arrows",49,2),("remade",50,3),("doubled",52,1),("look_of",57,2),("first_of_alike",58,1),("lean_world",59,1),("shuffled",55,2),("named_form_holds",37,4),("form_holds",38,4),("holds_with",39,3),("demand_holds",40,2),("failing",41,2),("holds",42,2),("_law_cell_at",16,2),("_law_mixed",17,2),("_law_drawn",18,2),("_law_form",19,2),("_law_demand",20,2),("_law_row",21,2),("_law_world",22,2),("_law_true",44,4),("_law_meets",45,2),("_law_holds",46,2),("_law_alike",60,3)]
 consts:=[]
 blts:=["enumerate","int","isinstance","len","range","sorted","str","tuple"]
 dcts:=[]}
noncomputable abbrev d48:DI:=⟨"remade_marks",48,top 1,["marked","becomes","found","k"],["marked","becomes"]⟩
theorem s48:FnScope d48.N d48.ps (defScope d48.st):=⟨rfl,rfl,rfl,by decide +kernel,rfl,by decide +kernel,by decide +kernel⟩
theorem c48:∃ B,tab d48.id=some B∧d48.ps.length=B.np∧d48.N.length=B.ns∧B.np≤B.ns∧chkBody Gam 200 200 d48.N (defScope d48.st).names B.body (defBody d48.st)=true:=⟨f48,rfl,rfl,rfl,by decide,by decide +kernel⟩
noncomputable abbrev d49:DI:=⟨"remade_arrows",49,top 2,["arrows","becomes","found","arrow","start"],["arrows","becomes"]⟩
theorem s49:FnScope d49.N d49.ps (defScope d49.st):=⟨rfl,rfl,rfl,by decide +kernel,rfl,by decide +kernel,by decide +kernel⟩
theorem c49:∃ B,tab d49.id=some B∧d49.ps.length=B.np∧d49.N.length=B.ns∧B.np≤B.ns∧chkBody Gam 200 200 d49.N (defScope d49.st).names B.body (defBody d49.st)=true:=⟨f49,rfl,rfl,rfl,by decide,by decide +kernel⟩
noncomputable abbrev d50:DI:=⟨"remade",50,top 3,["world","many","becomes","marked_a","marked_b"],["world","many","becomes"]⟩
theorem s50:FnScope d50.N d50.ps (defScope d50.st):=⟨rfl,rfl,rfl,by decide +kernel,rfl,by decide +kernel,by decide +kernel⟩
theorem c50:∃ B,tab d50.id=some B∧d50.ps.length=B.np∧d50.N.length=B.ns∧B.np≤B.ns∧chkBody Gam 200 200 d50.N (defScope d50.st).names B.body (defBody d50.st)=true:=⟨f50,rfl,rfl,rfl,by decide,by decide +kernel⟩
noncomputable abbrev d52:DI:=⟨"doubled",52,top 4,["world","many"],["world"]⟩
theorem s52:FnScope d52.N d52.ps (defScope d52.st):=⟨rfl,rfl,rfl,by decide +kernel,rfl,by decide +kernel,by decide +kernel⟩
theorem c52:∃ B,tab d52.id=some B∧d52.ps.length=B.np∧d52.N.length=B.ns∧B.np≤B.ns∧chkBody Gam 200 200 d52.N (defScope d52.st).names B.body (defBody d52.st)=true:=⟨f52,rfl,rfl,rfl,by decide,by decide +kernel⟩
noncomputable abbrev d57:DI:=⟨"look_of",57,top 5,["world","k","reached","reaching"],["world","k"]⟩
theorem s57:FnScope d57.N d57.ps (defScope d57.st):=⟨rfl,rfl,rfl,by decide +kernel,rfl,by decide +kernel,by decide +kernel⟩
theorem c57:∃ B,tab d57.id=some B∧d57.ps.length=B.np∧d57.N.length=B.ns∧B.np≤B.ns∧chkBody Gam 200 200 d57.N (defScope d57.st).names B.body (defBody d57.st)=true:=⟨f57,rfl,rfl,rfl,by decide,by decide +kernel⟩
noncomputable abbrev d58:DI:=⟨"first_of_alike",58,top 6,["world","looks"],["world"]⟩
theorem s58:FnScope d58.N d58.ps (defScope d58.st):=⟨rfl,rfl,rfl,by decide +kernel,rfl,by decide +kernel,by decide +kernel⟩
theorem c58:∃ B,tab d58.id=some B∧d58.ps.length=B.np∧d58.N.length=B.ns∧B.np≤B.ns∧chkBody Gam 200 200 d58.N (defScope d58.st).names B.body (defBody d58.st)=true:=⟨f58,rfl,rfl,rfl,by decide,by decide +kernel⟩
noncomputable abbrev d59:DI:=⟨"lean_world",59,top 7,["world","kept","becomes"],["world"]⟩
theorem s59:FnScope d59.N d59.ps (defScope d59.st):=⟨rfl,rfl,rfl,by decide +kernel,rfl,by decide +kernel,by decide +kernel⟩
theorem c59:∃ B,tab d59.id=some B∧d59.ps.length=B.np∧d59.N.length=B.ns∧B.np≤B.ns∧chkBody Gam 200 200 d59.N (defScope d59.st).names B.body (defBody d59.st)=true:=⟨f59,rfl,rfl,rfl,by decide,by decide +kernel⟩
noncomputable abbrev d55:DI:=⟨"shuffled",55,top 8,["world","names"],["world","names"]⟩
theorem s55:FnScope d55.N d55.ps (defScope d55.st):=⟨rfl,rfl,rfl,by decide +kernel,rfl,by decide +kernel,by decide +kernel⟩
theorem c55:∃ B,tab d55.id=some B∧d55.ps.length=B.np∧d55.N.length=B.ns∧B.np≤B.ns∧chkBody Gam 200 200 d55.N (defScope d55.st).names B.body (defBody d55.st)=true:=⟨f55,rfl,rfl,rfl,by decide,by decide +kernel⟩
noncomputable abbrev d37:DI:=⟨"named_form_holds",37,top 10,["form","world","x","y","things"],["form","world","x","y"]⟩
theorem s37:FnScope d37.N d37.ps (defScope d37.st):=⟨rfl,rfl,rfl,by decide +kernel,rfl,by decide +kernel,by decide +kernel⟩
theorem c37:∃ B,tab d37.id=some B∧d37.ps.length=B.np∧d37.N.length=B.ns∧B.np≤B.ns∧chkBody Gam 200 200 d37.N (defScope d37.st).names B.body (defBody d37.st)=true:=⟨f37,rfl,rfl,rfl,by decide,by decide +kernel⟩
noncomputable abbrev d38:DI:=⟨"form_holds",38,top 11,["form","world","x","y"],["form","world","x","y"]⟩
theorem s38:FnScope d38.N d38.ps (defScope d38.st):=⟨rfl,rfl,rfl,by decide +kernel,rfl,by decide +kernel,by decide +kernel⟩
theorem c38:∃ B,tab d38.id=some B∧d38.ps.length=B.np∧d38.N.length=B.ns∧B.np≤B.ns∧chkBody Gam 200 200 d38.N (defScope d38.st).names B.body (defBody d38.st)=true:=⟨f38,rfl,rfl,rfl,by decide,by decide +kernel⟩
noncomputable abbrev d39:DI:=⟨"holds_with",39,top 12,["demand","world","x","settling","y"],["demand","world","x"]⟩
theorem s39:FnScope d39.N d39.ps (defScope d39.st):=⟨rfl,rfl,rfl,by decide +kernel,rfl,by decide +kernel,by decide +kernel⟩
theorem c39:∃ B,tab d39.id=some B∧d39.ps.length=B.np∧d39.N.length=B.ns∧B.np≤B.ns∧chkBody Gam 200 200 d39.N (defScope d39.st).names B.body (defBody d39.st)=true:=⟨f39,rfl,rfl,rfl,by decide,by decide +kernel⟩
noncomputable abbrev d40:DI:=⟨"demand_holds",40,top 13,["demand","world","settling","x"],["demand","world"]⟩
theorem s40:FnScope d40.N d40.ps (defScope d40.st):=⟨rfl,rfl,rfl,by decide +kernel,rfl,by decide +kernel,by decide +kernel⟩
theorem c40:∃ B,tab d40.id=some B∧d40.ps.length=B.np∧d40.N.length=B.ns∧B.np≤B.ns∧chkBody Gam 200 200 d40.N (defScope d40.st).names B.body (defBody d40.st)=true:=⟨f40,rfl,rfl,rfl,by decide,by decide +kernel⟩
noncomputable abbrev d41:DI:=⟨"failing",41,top 14,["row","world","n","demand"],["row","world"]⟩
theorem s41:FnScope d41.N d41.ps (defScope d41.st):=⟨rfl,rfl,rfl,by decide +kernel,rfl,by decide +kernel,by decide +kernel⟩
theorem c41:∃ B,tab d41.id=some B∧d41.ps.length=B.np∧d41.N.length=B.ns∧B.np≤B.ns∧chkBody Gam 200 200 d41.N (defScope d41.st).names B.body (defBody d41.st)=true:=⟨f41,rfl,rfl,rfl,by decide,by decide +kernel⟩
noncomputable abbrev d42:DI:=⟨"holds",42,top 15,["row","world"],["row","world"]⟩
theorem s42:FnScope d42.N d42.ps (defScope d42.st):=⟨rfl,rfl,rfl,by decide +kernel,rfl,by decide +kernel,by decide +kernel⟩
theorem c42:∃ B,tab d42.id=some B∧d42.ps.length=B.np∧d42.N.length=B.ns∧B.np≤B.ns∧chkBody Gam 200 200 d42.N (defScope d42.st).names B.body (defBody d42.st)=true:=⟨f42,rfl,rfl,rfl,by decide,by decide +kernel⟩
noncomputable abbrev d16:DI:=⟨"_law_cell_at",16,top 17,["_law_script","_law_k"],["_law_script","_law_k"]⟩
theorem s16:FnScope d16.N d16.ps (defScope d16.st):=⟨rfl,rfl,rfl,by decide +kernel,rfl,by decide +kernel,by decide +kernel⟩
theorem c16:∃ B,tab d16.id=some B∧d16.ps.length=B.np∧d16.N.length=B.ns∧B.np≤B.ns∧chkBody Gam 200 200 d16.N (defScope d16.st).names B.body (defBody d16.st)=true:=⟨f16,rfl,rfl,rfl,by decide,by decide +kernel⟩
noncomputable abbrev d17:DI:=⟨"_law_mixed",17,top 18,["_law_script","_law_k","_law_drawn_here"],["_law_script","_law_k"]⟩
theorem s17:FnScope d17.N d17.ps (defScope d17.st):=⟨rfl,rfl,rfl,by decide +kernel,rfl,by decide +kernel,by decide +kernel⟩
theorem c17:∃ B,tab d17.id=some B∧d17.ps.length=B.np∧d17.N.length=B.ns∧B.np≤B.ns∧chkBody Gam 200 200 d17.N (defScope d17.st).names B.body (defBody d17.st)=true:=⟨f17,rfl,rfl,rfl,by decide,by decide +kernel⟩
noncomputable abbrev d18:DI:=⟨"_law_drawn",18,top 19,["_law_number","_law_k","_law_drawn_here"],["_law_number","_law_k"]⟩
theorem s18:FnScope d18.N d18.ps (defScope d18.st):=⟨rfl,rfl,rfl,by decide +kernel,rfl,by decide +kernel,by decide +kernel⟩
theorem c18:∃ B,tab d18.id=some B∧d18.ps.length=B.np∧d18.N.length=B.ns∧B.np≤B.ns∧chkBody Gam 200 200 d18.N (defScope d18.st).names B.body (defBody d18.st)=true:=⟨f18,rfl,rfl,rfl,by decide,by decide +kernel⟩
noncomputable abbrev d19:DI:=⟨"_law_form",19,top 20,["_law_number","_law_deep","_law_kind","_law_some","_law_one","_law_other"],["_law_number","_law_deep"]⟩
theorem s19:FnScope d19.N d19.ps (defScope d19.st):=⟨rfl,rfl,rfl,by decide +kernel,rfl,by decide +kernel,by decide +kernel⟩
theorem c19:∃ B,tab d19.id=some B∧d19.ps.length=B.np∧d19.N.length=B.ns∧B.np≤B.ns∧chkBody Gam 200 200 d19.N (defScope d19.st).names B.body (defBody d19.st)=true:=⟨f19,rfl,rfl,rfl,by decide,by decide +kernel⟩
noncomputable abbrev d20:DI:=⟨"_law_demand",20,top 21,["_law_number","_law_deep","_law_one","_law_other"],["_law_number","_law_deep"]⟩
theorem s20:FnScope d20.N d20.ps (defScope d20.st):=⟨rfl,rfl,rfl,by decide +kernel,rfl,by decide +kernel,by decide +kernel⟩
theorem c20:∃ B,tab d20.id=some B∧d20.ps.length=B.np∧d20.N.length=B.ns∧B.np≤B.ns∧chkBody Gam 200 200 d20.N (defScope d20.st).names B.body (defBody d20.st)=true:=⟨f20,rfl,rfl,rfl,by decide,by decide +kernel⟩
noncomputable abbrev d21:DI:=⟨"_law_row",21,top 22,["_law_number","_law_most","_law_found","_law_k","_law_demand_here","_law_marks"],["_law_number","_law_most"]⟩
theorem s21:FnScope d21.N d21.ps (defScope d21.st):=⟨rfl,rfl,rfl,by decide +kernel,rfl,by decide +kernel,by decide +kernel⟩
theorem c21:∃ B,tab d21.id=some B∧d21.ps.length=B.np∧d21.N.length=B.ns∧B.np≤B.ns∧chkBody Gam 200 200 d21.N (defScope d21.st).names B.body (defBody d21.st)=true:=⟨f21,rfl,rfl,rfl,by decide,by decide +kernel⟩
noncomputable abbrev d22:DI:=⟨"_law_world",22,top 23,["_law_number","_law_most","_law_many","_law_marked","_law_at","_law_arrows","_law_share","_law_one","_law_other"],["_law_number","_law_most"]⟩
theorem s22:FnScope d22.N d22.ps (defScope d22.st):=⟨rfl,rfl,rfl,by decide +kernel,rfl,by decide +kernel,by decide +kernel⟩
theorem c22:∃ B,tab d22.id=some B∧d22.ps.length=B.np∧d22.N.length=B.ns∧B.np≤B.ns∧chkBody Gam 200 200 d22.N (defScope d22.st).names B.body (defBody d22.st)=true:=⟨f22,rfl,rfl,rfl,by decide,by decide +kernel⟩
noncomputable abbrev d44:DI:=⟨"_law_true",44,top 24,["_law_form_here","_law_world_here","_law_x","_law_y","_law_pair","_law_some"],["_law_form_here","_law_world_here","_law_x","_law_y"]⟩
theorem s44:FnScope d44.N d44.ps (defScope d44.st):=⟨rfl,rfl,rfl,by decide +kernel,rfl,by decide +kernel,by decide +kernel⟩
theorem c44:∃ B,tab d44.id=some B∧d44.ps.length=B.np∧d44.N.length=B.ns∧B.np≤B.ns∧chkBody Gam 200 200 d44.N (defScope d44.st).names B.body (defBody d44.st)=true:=⟨f44,rfl,rfl,rfl,by decide,by decide +kernel⟩
noncomputable abbrev d45:DI:=⟨"_law_meets",45,top 25,["_law_demand_here","_law_world_here","_law_rows","_law_x","_law_row_here"],["_law_demand_here","_law_world_here"]⟩
theorem s45:FnScope d45.N d45.ps (defScope d45.st):=⟨rfl,rfl,rfl,by decide +kernel,rfl,by decide +kernel,by decide +kernel⟩
theorem c45:∃ B,tab d45.id=some B∧d45.ps.length=B.np∧d45.N.length=B.ns∧B.np≤B.ns∧chkBody Gam 200 200 d45.N (defScope d45.st).names B.body (defBody d45.st)=true:=⟨f45,rfl,rfl,rfl,by decide,by decide +kernel⟩
noncomputable abbrev d46:DI:=⟨"_law_holds",46,top 26,["_law_row_here","_law_world_here"],["_law_row_here","_law_world_here"]⟩
theorem s46:FnScope d46.N d46.ps (defScope d46.st):=⟨rfl,rfl,rfl,by decide +kernel,rfl,by decide +kernel,by decide +kernel⟩
theorem c46:∃ B,tab d46.id=some B∧d46.ps.length=B.np∧d46.N.length=B.ns∧B.np≤B.ns∧chkBody Gam 200 200 d46.N (defScope d46.st).names B.body (defBody d46.st)=true:=⟨f46,rfl,rfl,rfl,by decide,by decide +kernel⟩
noncomputable abbrev d60:DI:=⟨"_law_alike",60,top 27,["_law_world_here","_law_one","_law_other","_law_some","_law_k"],["_law_world_here","_law_one","_law_other"]⟩
theorem s60:FnScope d60.N d60.ps (defScope d60.st):=⟨rfl,rfl,rfl,by decide +kernel,rfl,by decide +kernel,by decide +kernel⟩
theorem c60:∃ B,tab d60.id=some B∧d60.ps.length=B.np∧d60.N.length=B.ns∧B.np≤B.ns∧chkBody Gam 200 200 d60.N (defScope d60.st).names B.body (defBody d60.st)=true:=⟨f60,rfl,rfl,rfl,by decide,by decide +kernel⟩
noncomputable abbrev d61:DI:=⟨"law",61,top 28,["_law_script","_law_row_here","_law_world_here","_law_due","_law_names","_law_little","_law_other","_law_one","_law_kept","_law_marked","_law_arrows"],["_law_script"]⟩
theorem s61:FnScope d61.N d61.ps (defScope d61.st):=⟨rfl,rfl,rfl,by decide +kernel,rfl,by decide +kernel,by decide +kernel⟩
theorem c61:chkL Gam 200 200 d61.N (defScope d61.st).names f61.body (defBody d61.st)=true:=by decide +kernel
theorem all_mk {l:PySem.W.OpenLaw} {w:World} {K:PySem.W.Frag} {h:Heap} {mg:Str→Option Value} {fa:Addr} (X:K.In h) (G:h.Ns mainGlobals mg) (hfa:mg "law"=some (.ref fa))
  {f48:Addr} {od48 an48:Option Addr} {sl48:Array (Option Value)} {oc48 kV48 dc48 pm48 cd48 ct48:Value}
  (a48:PySem.W.nsIn K mainGlobals "remade_marks"=some (some (.ref f48))) (l48:K.lookup f48=some ⟨oc48,od48,.func (PySem.W.fnOf "remade_marks" "remade_marks" (defArgs (top 1)) (defBody (top 1)) (defScope (top 1)) .none kV48 dc48 pm48 an48 cd48 ct48),sl48⟩) (c48:PySem.W.codeIn K cd48 "remade_marks"=true) (k48:PySem.W.keepIn K (.ref f48)=true)
  {f49:Addr} {od49 an49:Option Addr} {sl49:Array (Option Value)} {oc49 kV49 dc49 pm49 cd49 ct49:Value}
  (a49:PySem.W.nsIn K mainGlobals "remade_arrows"=some (some (.ref f49))) (l49:K.lookup f49=some ⟨oc49,od49,.func (PySem.W.fnOf "remade_arrows" "remade_arrows" (defArgs (top 2)) (defBody (top 2)) (defScope (top 2)) .none kV49 dc49 pm49 an49 cd49 ct49),sl49⟩) (c49:PySem.W.codeIn K cd49 "remade_arrows"=true) (k49:PySem.W.keepIn K (.ref f49)=true)
  {f50:Addr} {od50 an50:Option Addr} {sl50:Array (Option Value)} {oc50 kV50 dc50 pm50 cd50 ct50:Value}
  (a50:PySem.W.nsIn K mainGlobals "remade"=some (some (.ref f50))) (l50:K.lookup f50=some ⟨oc50,od50,.func (PySem.W.fnOf "remade" "remade" (defArgs (top 3)) (defBody (top 3)) (defScope (top 3)) .none kV50 dc50 pm50 an50 cd50 ct50),sl50⟩) (c50:PySem.W.codeIn K cd50 "remade"=true) (k50:PySem.W.keepIn K (.ref f50)=true)
  {f52:Addr} {od52 an52:Option Addr} {sl52:Array (Option Value)} {oc52 kV52 dc52 pm52 cd52 ct52:Value}
  (a52:PySem.W.nsIn K mainGlobals "doubled"=some (some (.ref f52))) (l52:K.lookup f52=some ⟨oc52,od52,.func (PySem.W.fnOf "doubled" "doubled" (defArgs (top 4)) (defBody (top 4)) (defScope (top 4)) .none kV52 dc52 pm52 an52 cd52 ct52),sl52⟩) (c52:PySem.W.codeIn K cd52 "doubled"=true) (k52:PySem.W.keepIn K (.ref f52)=true)
  {f57:Addr} {od57 an57:Option Addr} {sl57:Array (Option Value)} {oc57 kV57 dc57 pm57 cd57 ct57:Value}
  (a57:PySem.W.nsIn K mainGlobals "look_of"=some (some (.ref f57))) (l57:K.lookup f57=some ⟨oc57,od57,.func (PySem.W.fnOf "look_of" "look_of" (defArgs (top 5)) (defBody (top 5)) (defScope (top 5)) .none kV57 dc57 pm57 an57 cd57 ct57),sl57⟩) (c57:PySem.W.codeIn K cd57 "look_of"=true) (k57:PySem.W.keepIn K (.ref f57)=true)
  {f58:Addr} {od58 an58:Option Addr} {sl58:Array (Option Value)} {oc58 kV58 dc58 pm58 cd58 ct58:Value}
  (a58:PySem.W.nsIn K mainGlobals "first_of_alike"=some (some (.ref f58))) (l58:K.lookup f58=some ⟨oc58,od58,.func (PySem.W.fnOf "first_of_alike" "first_of_alike" (defArgs (top 6)) (defBody (top 6)) (defScope (top 6)) .none kV58 dc58 pm58 an58 cd58 ct58),sl58⟩) (c58:PySem.W.codeIn K cd58 "first_of_alike"=true) (k58:PySem.W.keepIn K (.ref f58)=true)
  {f59:Addr} {od59 an59:Option Addr} {sl59:Array (Option Value)} {oc59 kV59 dc59 pm59 cd59 ct59:Value}
  (a59:PySem.W.nsIn K mainGlobals "lean_world"=some (some (.ref f59))) (l59:K.lookup f59=some ⟨oc59,od59,.func (PySem.W.fnOf "lean_world" "lean_world" (defArgs (top 7)) (defBody (top 7)) (defScope (top 7)) .none kV59 dc59 pm59 an59 cd59 ct59),sl59⟩) (c59:PySem.W.codeIn K cd59 "lean_world"=true) (k59:PySem.W.keepIn K (.ref f59)=true)
  {f55:Addr} {od55 an55:Option Addr} {sl55:Array (Option Value)} {oc55 kV55 dc55 pm55 cd55 ct55:Value}
  (a55:PySem.W.nsIn K mainGlobals "shuffled"=some (some (.ref f55))) (l55:K.lookup f55=some ⟨oc55,od55,.func (PySem.W.fnOf "shuffled" "shuffled" (defArgs (top 8)) (defBody (top 8)) (defScope (top 8)) .none kV55 dc55 pm55 an55 cd55 ct55),sl55⟩) (c55:PySem.W.codeIn K cd55 "shuffled"=true) (k55:PySem.W.keepIn K (.ref f55)=true)
  {f37:Addr} {od37 an37:Option Addr} {sl37:Array (Option Value)} {oc37 kV37 dc37 pm37 cd37 ct37:Value}
  (a37:PySem.W.nsIn K mainGlobals "named_form_holds"=some (some (.ref f37))) (l37:K.lookup f37=some ⟨oc37,od37,.func (PySem.W.fnOf "named_form_holds" "named_form_holds" (defArgs (top 10)) (defBody (top 10)) (defScope (top 10)) .none kV37 dc37 pm37 an37 cd37 ct37),sl37⟩) (c37:PySem.W.codeIn K cd37 "named_form_holds"=true) (k37:PySem.W.keepIn K (.ref f37)=true)
  {f38:Addr} {od38 an38:Option Addr} {sl38:Array (Option Value)} {oc38 kV38 dc38 pm38 cd38 ct38:Value}
  (a38:PySem.W.nsIn K mainGlobals "form_holds"=some (some (.ref f38))) (l38:K.lookup f38=some ⟨oc38,od38,.func (PySem.W.fnOf "form_holds" "form_holds" (defArgs (top 11)) (defBody (top 11)) (defScope (top 11)) .none kV38 dc38 pm38 an38 cd38 ct38),sl38⟩) (c38:PySem.W.codeIn K cd38 "form_holds"=true) (k38:PySem.W.keepIn K (.ref f38)=true)
  {f39:Addr} {od39 an39:Option Addr} {sl39:Array (Option Value)} {oc39 kV39 dc39 pm39 cd39 ct39:Value}
  (a39:PySem.W.nsIn K mainGlobals "holds_with"=some (some (.ref f39))) (l39:K.lookup f39=some ⟨oc39,od39,.func (PySem.W.fnOf "holds_with" "holds_with" (defArgs (top 12)) (defBody (top 12)) (defScope (top 12)) .none kV39 dc39 pm39 an39 cd39 ct39),sl39⟩) (c39:PySem.W.codeIn K cd39 "holds_with"=true) (k39:PySem.W.keepIn K (.ref f39)=true)
  {f40:Addr} {od40 an40:Option Addr} {sl40:Array (Option Value)} {oc40 kV40 dc40 pm40 cd40 ct40:Value}
  (a40:PySem.W.nsIn K mainGlobals "demand_holds"=some (some (.ref f40))) (l40:K.lookup f40=some ⟨oc40,od40,.func (PySem.W.fnOf "demand_holds" "demand_holds" (defArgs (top 13)) (defBody (top 13)) (defScope (top 13)) .none kV40 dc40 pm40 an40 cd40 ct40),sl40⟩) (c40:PySem.W.codeIn K cd40 "demand_holds"=true) (k40:PySem.W.keepIn K (.ref f40)=true)
  {f41:Addr} {od41 an41:Option Addr} {sl41:Array (Option Value)} {oc41 kV41 dc41 pm41 cd41 ct41:Value}
  (a41:PySem.W.nsIn K mainGlobals "failing"=some (some (.ref f41))) (l41:K.lookup f41=some ⟨oc41,od41,.func (PySem.W.fnOf "failing" "failing" (defArgs (top 14)) (defBody (top 14)) (defScope (top 14)) .none kV41 dc41 pm41 an41 cd41 ct41),sl41⟩) (c41:PySem.W.codeIn K cd41 "failing"=true) (k41:PySem.W.keepIn K (.ref f41)=true)
  {f42:Addr} {od42 an42:Option Addr} {sl42:Array (Option Value)} {oc42 kV42 dc42 pm42 cd42 ct42:Value}
  (a42:PySem.W.nsIn K mainGlobals "holds"=some (some (.ref f42))) (l42:K.lookup f42=some ⟨oc42,od42,.func (PySem.W.fnOf "holds" "holds" (defArgs (top 15)) (defBody (top 15)) (defScope (top 15)) .none kV42 dc42 pm42 an42 cd42 ct42),sl42⟩) (c42:PySem.W.codeIn K cd42 "holds"=true) (k42:PySem.W.keepIn K (.ref f42)=true)
  {f16:Addr} {od16 an16:Option Addr} {sl16:Array (Option Value)} {oc16 kV16 dc16 pm16 cd16 ct16:Value}
  (a16:PySem.W.nsIn K mainGlobals "_law_cell_at"=some (some (.ref f16))) (l16:K.lookup f16=some ⟨oc16,od16,.func (PySem.W.fnOf "_law_cell_at" "_law_cell_at" (defArgs (top 17)) (defBody (top 17)) (defScope (top 17)) .none kV16 dc16 pm16 an16 cd16 ct16),sl16⟩) (c16:PySem.W.codeIn K cd16 "_law_cell_at"=true) (k16:PySem.W.keepIn K (.ref f16)=true)
  {f17:Addr} {od17 an17:Option Addr} {sl17:Array (Option Value)} {oc17 kV17 dc17 pm17 cd17 ct17:Value}
  (a17:PySem.W.nsIn K mainGlobals "_law_mixed"=some (some (.ref f17))) (l17:K.lookup f17=some ⟨oc17,od17,.func (PySem.W.fnOf "_law_mixed" "_law_mixed" (defArgs (top 18)) (defBody (top 18)) (defScope (top 18)) .none kV17 dc17 pm17 an17 cd17 ct17),sl17⟩) (c17:PySem.W.codeIn K cd17 "_law_mixed"=true) (k17:PySem.W.keepIn K (.ref f17)=true)
  {f18:Addr} {od18 an18:Option Addr} {sl18:Array (Option Value)} {oc18 kV18 dc18 pm18 cd18 ct18:Value}
  (a18:PySem.W.nsIn K mainGlobals "_law_drawn"=some (some (.ref f18))) (l18:K.lookup f18=some ⟨oc18,od18,.func (PySem.W.fnOf "_law_drawn" "_law_drawn" (defArgs (top 19)) (defBody (top 19)) (defScope (top 19)) .none kV18 dc18 pm18 an18 cd18 ct18),sl18⟩) (c18:PySem.W.codeIn K cd18 "_law_drawn"=true) (k18:PySem.W.keepIn K (.ref f18)=true)
  {f19:Addr} {od19 an19:Option Addr} {sl19:Array (Option Value)} {oc19 kV19 dc19 pm19 cd19 ct19:Value}
  (a19:PySem.W.nsIn K mainGlobals "_law_form"=some (some (.ref f19))) (l19:K.lookup f19=some ⟨oc19,od19,.func (PySem.W.fnOf "_law_form" "_law_form" (defArgs (top 20)) (defBody (top 20)) (defScope (top 20)) .none kV19 dc19 pm19 an19 cd19 ct19),sl19⟩) (c19:PySem.W.codeIn K cd19 "_law_form"=true) (k19:PySem.W.keepIn K (.ref f19)=true)
  {f20:Addr} {od20 an20:Option Addr} {sl20:Array (Option Value)} {oc20 kV20 dc20 pm20 cd20 ct20:Value}
  (a20:PySem.W.nsIn K mainGlobals "_law_demand"=some (some (.ref f20))) (l20:K.lookup f20=some ⟨oc20,od20,.func (PySem.W.fnOf "_law_demand" "_law_demand" (defArgs (top 21)) (defBody (top 21)) (defScope (top 21)) .none kV20 dc20 pm20 an20 cd20 ct20),sl20⟩) (c20:PySem.W.codeIn K cd20 "_law_demand"=true) (k20:PySem.W.keepIn K (.ref f20)=true)
  {f21:Addr} {od21 an21:Option Addr} {sl21:Array (Option Value)} {oc21 kV21 dc21 pm21 cd21 ct21:Value}
  (a21:PySem.W.nsIn K mainGlobals "_law_row"=some (some (.ref f21))) (l21:K.lookup f21=some ⟨oc21,od21,.func (PySem.W.fnOf "_law_row" "_law_row" (defArgs (top 22)) (defBody (top 22)) (defScope (top 22)) .none kV21 dc21 pm21 an21 cd21 ct21),sl21⟩) (c21:PySem.W.codeIn K cd21 "_law_row"=true) (k21:PySem.W.keepIn K (.ref f21)=true)
  {f22:Addr} {od22 an22:Option Addr} {sl22:Array (Option Value)} {oc22 kV22 dc22 pm22 cd22 ct22:Value}
  (a22:PySem.W.nsIn K mainGlobals "_law_world"=some (some (.ref f22))) (l22:K.lookup f22=some ⟨oc22,od22,.func (PySem.W.fnOf "_law_world" "_law_world" (defArgs (top 23)) (defBody (top 23)) (defScope (top 23)) .none kV22 dc22 pm22 an22 cd22 ct22),sl22⟩) (c22:PySem.W.codeIn K cd22 "_law_world"=true) (k22:PySem.W.keepIn K (.ref f22)=true)
  {f44:Addr} {od44 an44:Option Addr} {sl44:Array (Option Value)} {oc44 kV44 dc44 pm44 cd44 ct44:Value}
  (a44:PySem.W.nsIn K mainGlobals "_law_true"=some (some (.ref f44))) (l44:K.lookup f44=some ⟨oc44,od44,.func (PySem.W.fnOf "_law_true" "_law_true" (defArgs (top 24)) (defBody (top 24)) (defScope (top 24)) .none kV44 dc44 pm44 an44 cd44 ct44),sl44⟩) (c44:PySem.W.codeIn K cd44 "_law_true"=true) (k44:PySem.W.keepIn K (.ref f44)=true)
  {f45:Addr} {od45 an45:Option Addr} {sl45:Array (Option Value)} {oc45 kV45 dc45 pm45 cd45 ct45:Value}
  (a45:PySem.W.nsIn K mainGlobals "_law_meets"=some (some (.ref f45))) (l45:K.lookup f45=some ⟨oc45,od45,.func (PySem.W.fnOf "_law_meets" "_law_meets" (defArgs (top 25)) (defBody (top 25)) (defScope (top 25)) .none kV45 dc45 pm45 an45 cd45 ct45),sl45⟩) (c45:PySem.W.codeIn K cd45 "_law_meets"=true) (k45:PySem.W.keepIn K (.ref f45)=true)
  {f46:Addr} {od46 an46:Option Addr} {sl46:Array (Option Value)} {oc46 kV46 dc46 pm46 cd46 ct46:Value}
  (a46:PySem.W.nsIn K mainGlobals "_law_holds"=some (some (.ref f46))) (l46:K.lookup f46=some ⟨oc46,od46,.func (PySem.W.fnOf "_law_holds" "_law_holds" (defArgs (top 26)) (defBody (top 26)) (defScope (top 26)) .none kV46 dc46 pm46 an46 cd46 ct46),sl46⟩) (c46:PySem.W.codeIn K cd46 "_law_holds"=true) (k46:PySem.W.keepIn K (.ref f46)=true)
  {f60:Addr} {od60 an60:Option Addr} {sl60:Array (Option Value)} {oc60 kV60 dc60 pm60 cd60 ct60:Value}
  (a60:PySem.W.nsIn K mainGlobals "_law_alike"=some (some (.ref f60))) (l60:K.lookup f60=some ⟨oc60,od60,.func (PySem.W.fnOf "_law_alike" "_law_alike" (defArgs (top 27)) (defBody (top 27)) (defScope (top 27)) .none kV60 dc60 pm60 an60 cd60 ct60),sl60⟩) (c60:PySem.W.codeIn K cd60 "_law_alike"=true) (k60:PySem.W.keepIn K (.ref f60)=true)
  {f61:Addr} {od61 an61:Option Addr} {sl61:Array (Option Value)} {oc61 kV61 dc61 pm61 cd61 ct61:Value}
  (a61:PySem.W.nsIn K mainGlobals "law"=some (some (.ref f61))) (l61:K.lookup f61=some ⟨oc61,od61,.func (PySem.W.fnOf "law" "law" (defArgs (top 28)) (defBody (top 28)) (defScope (top 28)) .none kV61 dc61 pm61 an61 cd61 ct61),sl61⟩) (c61:PySem.W.codeIn K cd61 "law"=true) (k61:PySem.W.keepIn K (.ref f61)=true)
  (z0:PySem.W.nsIn K mainGlobals "enumerate"=some none)
  (z1:PySem.W.nsIn K mainGlobals "int"=some none)
  (z2:PySem.W.nsIn K mainGlobals "isinstance"=some none)
  (z3:PySem.W.nsIn K mainGlobals "len"=some none)
  (z4:PySem.W.nsIn K mainGlobals "range"=some none)
  (z5:PySem.W.nsIn K mainGlobals "sorted"=some none)
  (z6:PySem.W.nsIn K mainGlobals "str"=some none)
  (z7:PySem.W.nsIn K mainGlobals "tuple"=some none)
  : ∃ fd:FuncData,(∃ o,h.get? fa=some o∧o.data=.func fd)∧(∀ (s:Shared) (v:Value),BindsTo s fd ⟨[v],[]⟩ [("_law_script",v)])∧∀ (base:Heap) (c Pt:Addr),K.In base→base.Ns mainGlobals mg→fd.code=.ref c→PySem.W.CodeHd base c Pt→BMod mg base→FnOk l.prog w K mg base CX0 (39+4) fa fd ["_law_script"] (spL K tab 39 DD.f61 Pt 1):=by
 have e:=hfa.symm.trans (PySem.W.mg_of X G a61)
 cases e
 have F48:=fun_mk (st:=top 1) l48 c48 k48
 have D48:Def1 K mg tab Gam d48 _ _:=⟨F48,F48.binds (ps:=["marked","becomes"]) fun _ _ _ _ _ _ us hl=>lens2 (fun _ _=>rfl) us hl,PySem.W.mg_of X G a48,s48,K21.c48⟩
 have F49:=fun_mk (st:=top 2) l49 c49 k49
 have D49:Def1 K mg tab Gam d49 _ _:=⟨F49,F49.binds (ps:=["arrows","becomes"]) fun _ _ _ _ _ _ us hl=>lens2 (fun _ _=>rfl) us hl,PySem.W.mg_of X G a49,s49,K21.c49⟩
 have F50:=fun_mk (st:=top 3) l50 c50 k50
 have D50:Def1 K mg tab Gam d50 _ _:=⟨F50,F50.binds (ps:=["world","many","becomes"]) fun _ _ _ _ _ _ us hl=>lens3 (fun _ _ _=>rfl) us hl,PySem.W.mg_of X G a50,s50,K21.c50⟩
 have F52:=fun_mk (st:=top 4) l52 c52 k52
 have D52:Def1 K mg tab Gam d52 _ _:=⟨F52,F52.binds (ps:=["world"]) fun _ _ _ _ _ _ us hl=>lens1 (fun _=>rfl) us hl,PySem.W.mg_of X G a52,s52,K21.c52⟩
 have F57:=fun_mk (st:=top 5) l57 c57 k57
 have D57:Def1 K mg tab Gam d57 _ _:=⟨F57,F57.binds (ps:=["world","k"]) fun _ _ _ _ _ _ us hl=>lens2 (fun _ _=>rfl) us hl,PySem.W.mg_of X G a57,s57,K21.c57⟩
 have F58:=fun_mk (st:=top 6) l58 c58 k58
 have D58:Def1 K mg tab Gam d58 _ _:=⟨F58,F58.binds (ps:=["world"]) fun _ _ _ _ _ _ us hl=>lens1 (fun _=>rfl) us hl,PySem.W.mg_of X G a58,s58,K21.c58⟩
 have F59:=fun_mk (st:=top 7) l59 c59 k59
 have D59:Def1 K mg tab Gam d59 _ _:=⟨F59,F59.binds (ps:=["world"]) fun _ _ _ _ _ _ us hl=>lens1 (fun _=>rfl) us hl,PySem.W.mg_of X G a59,s59,K21.c59⟩
 have F55:=fun_mk (st:=top 8) l55 c55 k55
 have D55:Def1 K mg tab Gam d55 _ _:=⟨F55,F55.binds (ps:=["world","names"]) fun _ _ _ _ _ _ us hl=>lens2 (fun _ _=>rfl) us hl,PySem.W.mg_of X G a55,s55,K21.c55⟩
 have F37:=fun_mk (st:=top 10) l37 c37 k37
 have D37:Def1 K mg tab Gam d37 _ _:=⟨F37,F37.binds (ps:=["form","world","x","y"]) fun _ _ _ _ _ _ us hl=>lens4 (fun _ _ _ _=>rfl) us hl,PySem.W.mg_of X G a37,s37,K21.c37⟩
 have F38:=fun_mk (st:=top 11) l38 c38 k38
 have D38:Def1 K mg tab Gam d38 _ _:=⟨F38,F38.binds (ps:=["form","world","x","y"]) fun _ _ _ _ _ _ us hl=>lens4 (fun _ _ _ _=>rfl) us hl,PySem.W.mg_of X G a38,s38,K21.c38⟩
 have F39:=fun_mk (st:=top 12) l39 c39 k39
 have D39:Def1 K mg tab Gam d39 _ _:=⟨F39,F39.binds (ps:=["demand","world","x"]) fun _ _ _ _ _ _ us hl=>lens3 (fun _ _ _=>rfl) us hl,PySem.W.mg_of X G a39,s39,K21.c39⟩
 have F40:=fun_mk (st:=top 13) l40 c40 k40
 have D40:Def1 K mg tab Gam d40 _ _:=⟨F40,F40.binds (ps:=["demand","world"]) fun _ _ _ _ _ _ us hl=>lens2 (fun _ _=>rfl) us hl,PySem.W.mg_of X G a40,s40,K21.c40⟩
 have F41:=fun_mk (st:=top 14) l41 c41 k41
 have D41:Def1 K mg tab Gam d41 _ _:=⟨F41,F41.binds (ps:=["row","world"]) fun _ _ _ _ _ _ us hl=>lens2 (fun _ _=>rfl) us hl,PySem.W.mg_of X G a41,s41,K21.c41⟩
 have F42:=fun_mk (st:=top 15) l42 c42 k42
 have D42:Def1 K mg tab Gam d42 _ _:=⟨F42,F42.binds (ps:=["row","world"]) fun _ _ _ _ _ _ us hl=>lens2 (fun _ _=>rfl) us hl,PySem.W.mg_of X G a42,s42,K21.c42⟩
 have F16:=fun_mk (st:=top 17) l16 c16 k16
 have D16:Def1 K mg tab Gam d16 _ _:=⟨F16,F16.binds (ps:=["_law_script","_law_k"]) fun _ _ _ _ _ _ us hl=>lens2 (fun _ _=>rfl) us hl,PySem.W.mg_of X G a16,s16,K21.c16⟩
 have F17:=fun_mk (st:=top 18) l17 c17 k17
 have D17:Def1 K mg tab Gam d17 _ _:=⟨F17,F17.binds (ps:=["_law_script","_law_k"]) fun _ _ _ _ _ _ us hl=>lens2 (fun _ _=>rfl) us hl,PySem.W.mg_of X G a17,s17,K21.c17⟩
 have F18:=fun_mk (st:=top 19) l18 c18 k18
 have D18:Def1 K mg tab Gam d18 _ _:=⟨F18,F18.binds (ps:=["_law_number","_law_k"]) fun _ _ _ _ _ _ us hl=>lens2 (fun _ _=>rfl) us hl,PySem.W.mg_of X G a18,s18,K21.c18⟩
 have F19:=fun_mk (st:=top 20) l19 c19 k19
 have D19:Def1 K mg tab Gam d19 _ _:=⟨F19,F19.binds (ps:=["_law_number","_law_deep"]) fun _ _ _ _ _ _ us hl=>lens2 (fun _ _=>rfl) us hl,PySem.W.mg_of X G a19,s19,K21.c19⟩
 have F20:=fun_mk (st:=top 21) l20 c20 k20
 have D20:Def1 K mg tab Gam d20 _ _:=⟨F20,F20.binds (ps:=["_law_number","_law_deep"]) fun _ _ _ _ _ _ us hl=>lens2 (fun _ _=>rfl) us hl,PySem.W.mg_of X G a20,s20,K21.c20⟩
 have F21:=fun_mk (st:=top 22) l21 c21 k21
 have D21:Def1 K mg tab Gam d21 _ _:=⟨F21,F21.binds (ps:=["_law_number","_law_most"]) fun _ _ _ _ _ _ us hl=>lens2 (fun _ _=>rfl) us hl,PySem.W.mg_of X G a21,s21,K21.c21⟩
 have F22:=fun_mk (st:=top 23) l22 c22 k22
 have D22:Def1 K mg tab Gam d22 _ _:=⟨F22,F22.binds (ps:=["_law_number","_law_most"]) fun _ _ _ _ _ _ us hl=>lens2 (fun _ _=>rfl) us hl,PySem.W.mg_of X G a22,s22,K21.c22⟩
 have F44:=fun_mk (st:=top 24) l44 c44 k44
 have D44:Def1 K mg tab Gam d44 _ _:=⟨F44,F44.binds (ps:=["_law_form_here","_law_world_here","_law_x","_law_y"]) fun _ _ _ _ _ _ us hl=>lens4 (fun _ _ _ _=>rfl) us hl,PySem.W.mg_of X G a44,s44,K21.c44⟩
 have F45:=fun_mk (st:=top 25) l45 c45 k45
 have D45:Def1 K mg tab Gam d45 _ _:=⟨F45,F45.binds (ps:=["_law_demand_here","_law_world_here"]) fun _ _ _ _ _ _ us hl=>lens2 (fun _ _=>rfl) us hl,PySem.W.mg_of X G a45,s45,K21.c45⟩
 have F46:=fun_mk (st:=top 26) l46 c46 k46
 have D46:Def1 K mg tab Gam d46 _ _:=⟨F46,F46.binds (ps:=["_law_row_here","_law_world_here"]) fun _ _ _ _ _ _ us hl=>lens2 (fun _ _=>rfl) us hl,PySem.W.mg_of X G a46,s46,K21.c46⟩
 have F60:=fun_mk (st:=top 27) l60 c60 k60
 have D60:Def1 K mg tab Gam d60 _ _:=⟨F60,F60.binds (ps:=["_law_world_here","_law_one","_law_other"]) fun _ _ _ _ _ _ us hl=>lens3 (fun _ _ _=>rfl) us hl,PySem.W.mg_of X G a60,s60,K21.c60⟩
 have F61:=fun_mk (st:=top 28) l61 c61 k61
 refine ⟨PySem.W.fnOf "law" "law" (defArgs (top 28)) (defBody (top 28)) (defScope (top 28)) .none kV61 dc61 pm61 an61 cd61 ct61,⟨_,X _ _ l61,rfl⟩,fun s v=>.of_eq rfl,fun base c Pt _ _ hcode hcd hbm=>?_⟩
 refine law_fn (P:=l.prog) (w:=w) (base:=base) (Gam:=Gam) (T:=tab) (d:=d61) (B:=DD.f61) (fun x id n hm=>?_) (fun x p hm=>?_) (fun x hm=>?_) (fun x kvs hm=>?_) F61 s61 rfl (by decide) K21.c61 hcode hcd hbm 39
 ·simp only [Gam,List.mem_cons,List.mem_nil_iff,List.not_mem_nil,or_false,Prod.mk.injEq] at hm
  rcases hm with ⟨rfl,rfl,rfl⟩ | ⟨rfl,rfl,rfl⟩ | ⟨rfl,rfl,rfl⟩ | ⟨rfl,rfl,rfl⟩ | ⟨rfl,rfl,rfl⟩ | ⟨rfl,rfl,rfl⟩ | ⟨rfl,rfl,rfl⟩ | ⟨rfl,rfl,rfl⟩ | ⟨rfl,rfl,rfl⟩ | ⟨rfl,rfl,rfl⟩ | ⟨rfl,rfl,rfl⟩ | ⟨rfl,rfl,rfl⟩ | ⟨rfl,rfl,rfl⟩ | ⟨rfl,rfl,rfl⟩ | ⟨rfl,rfl,rfl⟩ | ⟨rfl,rfl,rfl⟩ | ⟨rfl,rfl,rfl⟩ | ⟨rfl,rfl,rfl⟩ | ⟨rfl,rfl,rfl⟩ | ⟨rfl,rfl,rfl⟩ | ⟨rfl,rfl,rfl⟩ | ⟨rfl,rfl,rfl⟩ | ⟨rfl,rfl,rfl⟩ | ⟨rfl,rfl,rfl⟩ | ⟨rfl,rfl,rfl⟩
  ·exact ⟨d48,_,_,rfl,rfl,rfl,D48⟩
  ·exact ⟨d49,_,_,rfl,rfl,rfl,D49⟩
  ·exact ⟨d50,_,_,rfl,rfl,rfl,D50⟩
  ·exact ⟨d52,_,_,rfl,rfl,rfl,D52⟩
  ·exact ⟨d57,_,_,rfl,rfl,rfl,D57⟩
  ·exact ⟨d58,_,_,rfl,rfl,rfl,D58⟩
  ·exact ⟨d59,_,_,rfl,rfl,rfl,D59⟩
  ·exact ⟨d55,_,_,rfl,rfl,rfl,D55⟩
  ·exact ⟨d37,_,_,rfl,rfl,rfl,D37⟩
  ·exact ⟨d38,_,_,rfl,rfl,rfl,D38⟩
  ·exact ⟨d39,_,_,rfl,rfl,rfl,D39⟩
  ·exact ⟨d40,_,_,rfl,rfl,rfl,D40⟩
  ·exact ⟨d41,_,_,rfl,rfl,rfl,D41⟩
  ·exact ⟨d42,_,_,rfl,rfl,rfl,D42⟩
  ·exact ⟨d16,_,_,rfl,rfl,rfl,D16⟩
  ·exact ⟨d17,_,_,rfl,rfl,rfl,D17⟩
  ·exact ⟨d18,_,_,rfl,rfl,rfl,D18⟩
  ·exact ⟨d19,_,_,rfl,rfl,rfl,D19⟩
  ·exact ⟨d20,_,_,rfl,rfl,rfl,D20⟩
  ·exact ⟨d21,_,_,rfl,rfl,rfl,D21⟩
  ·exact ⟨d22,_,_,rfl,rfl,rfl,D22⟩
  ·exact ⟨d44,_,_,rfl,rfl,rfl,D44⟩
  ·exact ⟨d45,_,_,rfl,rfl,rfl,D45⟩
  ·exact ⟨d46,_,_,rfl,rfl,rfl,D46⟩
  ·exact ⟨d60,_,_,rfl,rfl,rfl,D60⟩
 ·cases hm
 ·simp only [Gam,List.mem_cons,List.mem_nil_iff,List.not_mem_nil,or_false] at hm
  rcases hm with rfl | rfl | rfl | rfl | rfl | rfl | rfl | rfl
  ·exact PySem.W.mg_none_of X G z0
  ·exact PySem.W.mg_none_of X G z1
  ·exact PySem.W.mg_none_of X G z2
  ·exact PySem.W.mg_none_of X G z3
  ·exact PySem.W.mg_none_of X G z4
  ·exact PySem.W.mg_none_of X G z5
  ·exact PySem.W.mg_none_of X G z6
  ·exact PySem.W.mg_none_of X G z7
 ·cases hm
end K21
open PySem PySem.W PyProof.Rows
set_option maxRecDepth 100000 in
set_option maxHeartbeats 0 in
theorem PySem.Challenge.cw_twonamed_k21_whole_kept_holds : PySem.Challenge.rw_twonamed_k21_whole_kept.Holds := by
 w_on;o_law;k_head;(case hw=>w_witness2)
 k_fill
 refine DD.walk_lam (l:=PySem.Challenge.rw_twonamed_k21_whole_kept) (n:=63) (k:=(39+4)) (x:="_law_script") (T:=K21.tab) (j:=39) (B:=DD.f61) rfl (by decide) rfl ⟨rfl,by decide,by decide⟩ (fun w h Y=>PySem.W.km_in_of Y) ?T ?F rfl fun ns=>DD.law21 (T:=K21.tab) ⟨⟨rfl,rfl,rfl⟩,⟨rfl,rfl,rfl,rfl,rfl,rfl⟩,rfl,rfl,rfl,rfl,rfl,rfl,rfl,rfl,rfl,rfl,rfl,rfl,rfl,rfl,rfl,rfl⟩ ns
 case T=>
  intro w h Y
  have KX:=PySem.W.km_in_of Y
  have hT:=PySem.W.km_tabs_of Y
  exact ⟨169,167,by kernel_rfl,codeHd_of_K (c:=169) (P:=167) KX (by kernel_rfl),hT 167 (by k_mem),by kernel_rfl⟩
 case F=>
  intro w mg fa h KX G hmg
  refine' K21.all_mk KX G hmg ?a48 ?l48 ?c48 ?k48 ?a49 ?l49 ?c49 ?k49 ?a50 ?l50 ?c50 ?k50 ?a52 ?l52 ?c52 ?k52 ?a57 ?l57 ?c57 ?k57 ?a58 ?l58 ?c58 ?k58 ?a59 ?l59 ?c59 ?k59 ?a55 ?l55 ?c55 ?k55 ?a37 ?l37 ?c37 ?k37 ?a38 ?l38 ?c38 ?k38 ?a39 ?l39 ?c39 ?k39 ?a40 ?l40 ?c40 ?k40 ?a41 ?l41 ?c41 ?k41 ?a42 ?l42 ?c42 ?k42 ?a16 ?l16 ?c16 ?k16 ?a17 ?l17 ?c17 ?k17 ?a18 ?l18 ?c18 ?k18 ?a19 ?l19 ?c19 ?k19 ?a20 ?l20 ?c20 ?k20 ?a21 ?l21 ?c21 ?k21 ?a22 ?l22 ?c22 ?k22 ?a44 ?l44 ?c44 ?k44 ?a45 ?l45 ?c45 ?k45 ?a46 ?l46 ?c46 ?k46 ?a60 ?l60 ?c60 ?k60 ?a61 ?l61 ?c61 ?k61 ?z0 ?z1 ?z2 ?z3 ?z4 ?z5 ?z6 ?z7
  (case a48=>k_is)
  (case l48=>k_is)
  (case c48=>k_is)
  (case k48=>k_is)
  (case a49=>k_is)
  (case l49=>k_is)
  (case c49=>k_is)
  (case k49=>k_is)
  (case a50=>k_is)
  (case l50=>k_is)
  (case c50=>k_is)
  (case k50=>k_is)
  (case a52=>k_is)
  (case l52=>k_is)
  (case c52=>k_is)
  (case k52=>k_is)
  (case a57=>k_is)
  (case l57=>k_is)
  (case c57=>k_is)
  (case k57=>k_is)
  (case a58=>k_is)
  (case l58=>k_is)
  (case c58=>k_is)
  (case k58=>k_is)
  (case a59=>k_is)
  (case l59=>k_is)
  (case c59=>k_is)
  (case k59=>k_is)
  (case a55=>k_is)
  (case l55=>k_is)
  (case c55=>k_is)
  (case k55=>k_is)
  (case a37=>k_is)
  (case l37=>k_is)
  (case c37=>k_is)
  (case k37=>k_is)
  (case a38=>k_is)
  (case l38=>k_is)
  (case c38=>k_is)
  (case k38=>k_is)
  (case a39=>k_is)
  (case l39=>k_is)
  (case c39=>k_is)
  (case k39=>k_is)
  (case a40=>k_is)
  (case l40=>k_is)
  (case c40=>k_is)
  (case k40=>k_is)
  (case a41=>k_is)
  (case l41=>k_is)
  (case c41=>k_is)
  (case k41=>k_is)
  (case a42=>k_is)
  (case l42=>k_is)
  (case c42=>k_is)
  (case k42=>k_is)
  (case a16=>k_is)
  (case l16=>k_is)
  (case c16=>k_is)
  (case k16=>k_is)
  (case a17=>k_is)
  (case l17=>k_is)
  (case c17=>k_is)
  (case k17=>k_is)
  (case a18=>k_is)
  (case l18=>k_is)
  (case c18=>k_is)
  (case k18=>k_is)
  (case a19=>k_is)
  (case l19=>k_is)
  (case c19=>k_is)
  (case k19=>k_is)
  (case a20=>k_is)
  (case l20=>k_is)
  (case c20=>k_is)
  (case k20=>k_is)
  (case a21=>k_is)
  (case l21=>k_is)
  (case c21=>k_is)
  (case k21=>k_is)
  (case a22=>k_is)
  (case l22=>k_is)
  (case c22=>k_is)
  (case k22=>k_is)
  (case a44=>k_is)
  (case l44=>k_is)
  (case c44=>k_is)
  (case k44=>k_is)
  (case a45=>k_is)
  (case l45=>k_is)
  (case c45=>k_is)
  (case k45=>k_is)
  (case a46=>k_is)
  (case l46=>k_is)
  (case c46=>k_is)
  (case k46=>k_is)
  (case a60=>k_is)
  (case l60=>k_is)
  (case c60=>k_is)
  (case k60=>k_is)
  (case a61=>k_is)
  (case l61=>k_is)
  (case c61=>k_is)
  (case k61=>k_is)
  (case z0=>k_is)
  (case z1=>k_is)
  (case z2=>k_is)
  (case z3=>k_is)
  (case z4=>k_is)
  (case z5=>k_is)
  (case z6=>k_is)
  (case z7=>k_is)
