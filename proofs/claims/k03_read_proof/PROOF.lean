import PyProof.Rows.All
import Wide.All
import OpenK.AllK
import Wide.FinOn
import Lean
import PyProof.EqAt
import PyProof.EqKinds
import PyProof.TupleCall
import PyProof.P3Statements
import PyProof.StrLawsTight
import PyProof.StrBlockI
import PyProof.StrBlock2
import PyProof.Rows.StrSplitJoin
import PyProof.Rows.StrItems
import PySem.Challenge.RW_twonamed_k03_whole_read
set_option maxHeartbeats 4000000
set_option genInjectivity false
set_option genSizeOf false
set_option Elab.async false
set_option linter.all false
set_option maxRecDepth 100000
namespace L2
open PySem PySem.Spec PyProof.Rows
noncomputable abbrev Key:=Sum Int Str
noncomputable def keyIs:Key→Value→Bool
 | .inl k,v=>Value.isInt k v
 | .inr x,v=>Value.isStrOf x v
noncomputable def keyH (w:World):Key→Int
 | .inl k=>hashInt k
 | .inr x=>hashStr w x
theorem keyIs_shape:∀ {k:Key} {v:Value},keyIs k v=true→(∃ i t,k=Sum.inl i∧v=Value.int i t)∨(∃ x t,k=Sum.inr x∧v=Value.str x t)
 | .inl i,v,h=>by
  obtain ⟨t,e⟩:=Value.isInt_shape (k:=i) (v:=v) h
  exact .inl ⟨i,t,rfl,e⟩
 | .inr x,v,h=>by
  obtain ⟨t,e⟩:=Value.isStrOf_shape (x:=x) (v:=v) h
  exact .inr ⟨x,t,rfl,e⟩
theorem keyIs_int (i:Int) (t:Tok):keyIs (.inl i) (.int i t)=true:=by simp [keyIs,Value.isInt]
theorem keyIs_str (x:Str) (t:Tok):keyIs (.inr x) (.str x t)=true:=by simp [keyIs,Value.isStrOf]
theorem key_ll (a b:Int):decide ((Sum.inl a:Key)=Sum.inl b)=(a==b):=by
 by_cases e:a=b
 ·subst e;simp
 ·have h:¬ (Sum.inl a:Key)=Sum.inl b:=fun q=>e (Sum.inl.inj q)
  rw [decide_eq_false h]
  exact (beq_eq_false_iff_ne.mpr e).symm
theorem key_rr (a b:Str):decide ((Sum.inr a:Key)=Sum.inr b)=decide (a=b):=by
 by_cases e:a=b
 ·subst e;simp
 ·have h:¬ (Sum.inr a:Key)=Sum.inr b:=fun q=>e (Sum.inr.inj q)
  rw [decide_eq_false h,decide_eq_false e]
theorem key_lr (a:Int) (b:Str):decide ((Sum.inl a:Key)=Sum.inr b)=false:=decide_eq_false (fun q=>nomatch q)
theorem key_rl (a:Str) (b:Int):decide ((Sum.inr a:Key)=Sum.inl b)=false:=decide_eq_false (fun q=>nomatch q)
noncomputable def mixKind (prog:Program) (w:World):PySem.KeyKind prog w Key where
 is:=keyIs
 hash:=keyH w
 inj:=fun v a b ha hb=>by
  rcases keyIs_shape ha with ⟨i,t,rfl,rfl⟩ | ⟨x,t,rfl,rfl⟩
  ·rcases keyIs_shape hb with ⟨j,u,rfl,e⟩ | ⟨y,u,rfl,e⟩
   ·injection e with e1 _;rw [e1]
   ·exact nomatch e
  ·rcases keyIs_shape hb with ⟨j,u,rfl,e⟩ | ⟨y,u,rfl,e⟩
   ·exact nomatch e
   ·injection e with e1 _;rw [e1]
 byValue:=fun k v h=>by
  rcases keyIs_shape h with ⟨i,t,rfl,rfl⟩ | ⟨x,t,rfl,rfl⟩ <;> rfl
 pyHash:=fun hv h=>by
  rcases keyIs_shape hv with ⟨i,t,rfl,rfl⟩ | ⟨x,t,rfl,rfl⟩
  ·exact wpAny_pyHash_int h
  ·exact wpAny_pyHash_str h
 eqBool:=fun hu hv h=>by
  rcases keyIs_shape hu with ⟨i,t,rfl,rfl⟩ | ⟨x,t,rfl,rfl⟩
  ·rcases keyIs_shape hv with ⟨j,u,rfl,rfl⟩ | ⟨y,u,rfl,rfl⟩
   ·rw [key_ll] at h;exact wpAny_eqBool_int h
   ·rw [key_lr] at h;exact SeqAt.EqAt.int_str i t y u _ _ _ _ h
  ·rcases keyIs_shape hv with ⟨j,u,rfl,rfl⟩ | ⟨y,u,rfl,rfl⟩
   ·rw [key_rl] at h;exact SeqAt.EqAt.str_int x t j u _ _ _ _ h
   ·rw [key_rr] at h;exact wpAny_eqBool_str h
 «strs»:=fun k x t v h=>by
  rcases keyIs_shape h with ⟨i,u,rfl,e⟩ | ⟨y,u,rfl,e⟩
  ·exact nomatch e
  ·injection e with e1 _
   subst e1
   cases v <;> rfl
theorem mixKind_int (prog:Program) (w:World) (i:Int) (t:Tok):(mixKind prog w).is (.inl i) (.int i t)=true:=keyIs_int i t
theorem mixKind_str (prog:Program) (w:World) (x:Str) (t:Tok):(mixKind prog w).is (.inr x) (.str x t)=true:=keyIs_str x t
end L2
namespace L2
open PySem PySem.Spec PyProof.Rows
inductive V where
 | non | bl (b:Bool) | int (i:Int) | str (x:Str) | byt (b:Array UInt8) | flt (b:UInt64) | ref (a:Addr) | ty (n:String)
 deriving DecidableEq
noncomputable def RelV:V→Value→Prop
 | .non,u=>u=Value.none
 | .bl b,u=>u=Value.bool b
 | .int i,u=>∃ t,u=Value.int i t
 | .str x,u=>∃ t,u=Value.str x t
 | .byt b,u=>∃ t,u=Value.bytes b t
 | .flt b,u=>∃ t,u=Value.float b t
 | .ref a,u=>u=Value.ref a
 | .ty n,u=>u=Value.type n
noncomputable abbrev Vals:List V→List Value→Prop:=Paired RelV
theorem Vals.length {xs:List V} {us:List Value} (r:Vals xs us):xs.length=us.length:=Paired.length r
theorem Vals.get:∀ {xs:List V} {us:List Value} {i:Nat} {x:V},Vals xs us→xs[i]?=some x→∃ u,us[i]?=some u∧RelV x u
 | _,_,_,_,.nil,e=>by simp at e
 | _,_,0,_,.cons r _,e=>by simp at e;subst e;exact ⟨_,rfl,r⟩
 | _,_,i+1,x,.cons _ t,e=>by
  obtain ⟨u,h1,h2⟩:=Vals.get (i:=i) (x:=x) t (by simpa using e)
  exact ⟨u,by simpa using h1,h2⟩
theorem Vals.set {x:V} {u:Value} (r:RelV x u):∀ {xs:List V} {us:List Value} (i:Nat),Vals xs us→Vals (xs.set i x) (us.set i u)
 | _,_,_,.nil=>.nil
 | _,_,0,.cons _ t=>.cons r t
 | _,_,i+1,.cons q t=>.cons q (Vals.set r i t)
theorem Vals.append:∀ {xs ys:List V} {us ws:List Value},Vals xs us→Vals ys ws→Vals (xs++ys) (us++ws)
 | _,_,_,_,.nil,s=>s
 | _,_,_,_,.cons r t,s=>.cons r (Vals.append t s)
theorem Vals.take:∀ {xs:List V} {us:List Value} (n:Nat),Vals xs us→Vals (xs.take n) (us.take n)
 | _,_,0,_=>.nil
 | _,_,_+1,.nil=>.nil
 | _,_,n+1,.cons r t=>.cons r (Vals.take n t)
theorem Vals.drop:∀ {xs:List V} {us:List Value} (n:Nat),Vals xs us→Vals (xs.drop n) (us.drop n)
 | _,_,0,r=>r
 | _,_,_+1,.nil=>.nil
 | _,_,n+1,.cons _ t=>Vals.drop n t
noncomputable def RelO:Option V→Option Value→Prop
 | some v,some u=>RelV v u
 | none,none=>True
 | _,_=>False
noncomputable def KV {κ:Type}:List (κ×V)→List (κ×Value)→Prop:=Paired fun (p:κ×V) (q:κ×Value)=>p.1=q.1∧RelV p.2 q.2
noncomputable def kV:Key→V
 | .inl i=>.int i
 | .inr x=>.str x
inductive HO where
  | lst (xs:List V)
  | tup (xs:List V)
  | dK (kvs:List (Key×V)) | dT (kvs:List (List Key×V))
  | set (S:Int→Bool) (n:Nat)
  | ins (C dx:Addr) (fs:List (Str×V))
  | own (x:Addr)
  | xd (fs:List (Str×V))
  | met (f x:Addr)
  | rng (lo hi:Int)
  | frz (o:Obj) (u:HO)
  | tbl (ps:Array Value)
  | ext (φ:Heap→Prop)
noncomputable abbrev Hp:=Addr→Option HO
noncomputable def upd (H:Hp) (a:Addr) (o:HO):Hp:=fun b=>if b=a then some o else H b
theorem upd_same {H:Hp} {a:Addr} {o:HO}:upd H a o a=some o:=by unfold upd;rw [if_pos rfl]
theorem upd_ne {H:Hp} {a b:Addr} {o:HO} (h:b≠a):upd H a o b=H b:=by unfold upd;rw [if_neg h]
theorem ne_of_none {H:Hp} {a b:Addr} {o:HO} (h:H a=some o) (h':H b=none):a≠b:=by
 intro e;subst e;rw [h] at h';cases h'
section
variable (P:Program) (w:World)
noncomputable def ObjOk (H:Hp) (h:Heap) (a:Addr):HO→Prop
 | .lst xs=>xs.length≤sizeLine∧∃ (its:List Value) (n:Nat),Vals xs its∧h.get? a=some {cls:=.type "list",data:=.seq its.toArray n}
 | .tup xs=>xs.length≤sizeLine∧∃ its:List Value,Vals xs its∧IsTup h a its.toArray
 | .dK kvs=>kvs.length≤sizeLine∧(a==sysModules)=false∧∃ vs,KV kvs vs∧h.DictOf (mixKind P w) a vs
 | .dT kvs=>kvs.length≤sizeLine∧(a==sysModules)=false∧∃ xs:List (List Key×Addr×Value),
   Paired (fun (p:List Key×V) (q:List Key×Addr×Value)=>p.1=q.1∧H q.2.1=some (.tup (p.1.map kV))∧RelV p.2 q.2.2) kvs xs∧
   ∃ o es ep,h.get? a=some o∧o.ExactDict∧o.data=.dict es ep∧es.toList=xs.map (entryOfKey (tupleKind (mixKind P w)))∧(xs.map (·.1)).Nodup
 | .set S n=>h.SetOf (intKind P w) a S n
 | .ins C dx fs=>H dx=some (.own a)∧fs.length≤1000∧dx≠a∧h.get? a=some (PySem.W.instObj C dx)∧
   ∃ mA,h.Ns1 dx mA∧(∀ f,RelO (fs.lookup f) (mA f))∧PySem.Within mA (fs.map (·.1))
 | .own _=>∃ o,h.get? a=some o
 | .xd fs=>∃ mA,h.Ns1 a mA∧∀ f,RelO (fs.lookup f) (mA f)
 | .rng lo hi=>∃ t u v,h.get? a=some {cls:=.type "range",data:=.fields #[.int lo t,.int hi u,.int 1 v]}
 | .frz o u=>h.get? a=some o∧ObjOk H h a u
 | .tbl ps=>h.get? a=some {cls:=.none,data:=.fields ps}
 | .met f x=>h.get? a=some (PySem.W.methodObj (.ref f) (.ref x))
 | .ext φ=>φ h∧(∃ o,h.get? a=some o)∧∀ h1 h2:Heap,φ h1→(∀ o,h1.get? a=some o→h2.get? a=some o)→φ h2
noncomputable def HOk (H:Hp) (h:Heap):Prop:=∀ a o,H a=some o→ObjOk P w H h a o
end
section
variable {P:Program} {w:World} {H H':Hp} {h h':Heap} {a:Addr} {o:HO}
theorem ObjOk.lt (x:ObjOk P w H h a o):a<h.objs.size:=by
 cases o with
 | lst xs=>obtain ⟨_,_,_,_,e⟩:=x;exact Heap.lt_size e
 | tup xs=>obtain ⟨_,_,_,p⟩:=x;exact p.lt
 | dK kvs=>obtain ⟨_,_,_,_,o,_,_,e,_⟩:=x;exact Heap.lt_size e
 | dT kvs=>obtain ⟨_,_,_,_,o,_,_,e,_⟩:=x;exact Heap.lt_size e
 | set S n=>obtain ⟨o,_,_,_,e,_⟩:=x;exact Heap.lt_size e
 | ins C dx fs=>obtain ⟨_,_,_,e,_⟩:=x;exact Heap.lt_size e
 | own y=>obtain ⟨_,e⟩:=x;exact Heap.lt_size e
 | xd fs=>obtain ⟨_,⟨_,_,_,e,_⟩,_⟩:=x;exact Heap.lt_size e
 | rng lo hi=>obtain ⟨_,_,_,e⟩:=x;exact Heap.lt_size e
 | frz ob u=>obtain ⟨e,_⟩:=x;exact Heap.lt_size e
 | tbl ps=>exact Heap.lt_size (show h.get? a=some _ from x)
 | met f y=>exact Heap.lt_size (show h.get? a=some _ from x)
 | ext φ=>obtain ⟨_,⟨_,e⟩,_⟩:=x;exact Heap.lt_size e
theorem Paired.mapP {α β:Type} {F G:α→β→Prop}:∀ {l₁:List α} {l₂:List β},Paired F l₁ l₂→(∀ a b,F a b→G a b)→Paired G l₁ l₂
 | _,_,.nil,_=>.nil
 | _,_,.cons r t,f=>.cons (f _ _ r) (Paired.mapP t f)
theorem ObjOk.stay (x:ObjOk P w H h a o) (k:∀ b u,(b=a∨H b=some (.own a))→h.get? b=some u→h'.get? b=some u)
  (ho:∀ b,H b=some (.own a)→H' b=some (.own a)) (ht:∀ b xs,H b=some (.tup xs)→H' b=some (.tup xs)):ObjOk P w H' h' a o:=by
 induction o with
 | lst xs=>obtain ⟨z,its,n,r,e⟩:=x;exact ⟨z,its,n,r,k _ _ (.inl rfl) e⟩
 | tup xs=>obtain ⟨z,its,r,ob,e,c⟩:=x;exact ⟨z,its,r,ob,k _ _ (.inl rfl) e,c⟩
 | dK kvs=>obtain ⟨z,y,vs,r,ob,es,ep,e,c⟩:=x;exact ⟨z,y,vs,r,ob,es,ep,k _ _ (.inl rfl) e,c⟩
 | dT kvs=>
  obtain ⟨z,y,xs,r,ob,es,ep,e,c⟩:=x
  exact ⟨z,y,xs,Paired.mapP r fun p q z=>⟨z.1,ht _ _ z.2.1,z.2.2⟩,ob,es,ep,k _ _ (.inl rfl) e,c⟩
 | set S n=>obtain ⟨ob,es,ep,t,e,c⟩:=x;exact ⟨ob,es,ep,t,k _ _ (.inl rfl) e,c⟩
 | ins C dx fs=>
  obtain ⟨d,z,ne,e,mA,⟨od,es,ep,e2,c⟩,r⟩:=x
  exact ⟨ho _ d,z,ne,k _ _ (.inl rfl) e,mA,⟨od,es,ep,k _ _ (.inr d) e2,c⟩,r⟩
 | own y=>obtain ⟨ob,e⟩:=x;exact ⟨ob,k _ _ (.inl rfl) e⟩
 | xd fs=>obtain ⟨mA,⟨od,es,ep,e,c⟩,r⟩:=x;exact ⟨mA,⟨od,es,ep,k _ _ (.inl rfl) e,c⟩,r⟩
 | rng lo hi=>obtain ⟨t,u,v,e⟩:=x;exact ⟨t,u,v,k _ _ (.inl rfl) e⟩
 | frz ob u ih=>obtain ⟨e,q⟩:=x;exact ⟨k _ _ (.inl rfl) e,ih q⟩
 | tbl ps=>
  have e:h.get? a=some {cls:=.none,data:=.fields ps}:=x
  show h'.get? a=some {cls:=.none,data:=.fields ps}
  exact k a _ (.inl rfl) e
 | met f y=>
  have e:h.get? a=some (PySem.W.methodObj (.ref f) (.ref y)):=x
  show h'.get? a=some (PySem.W.methodObj (.ref f) (.ref y))
  exact k a _ (.inl rfl) e
 | ext φ=>obtain ⟨p,⟨o,e⟩,st⟩:=x;exact ⟨st _ _ p fun o q=>k _ _ (.inl rfl) q,⟨o,k _ _ (.inl rfl) e⟩,st⟩
theorem HOk.lt (x:HOk P w H h) (e:H a=some o):a<h.objs.size:=(x a o e).lt
theorem HOk.fresh (x:HOk P w H h) (e:h.objs.size≤a):H a=none:=by
 cases q:H a with
 | none=>rfl
 | some u=>exact absurd (Nat.lt_of_lt_of_le (x.lt q) e) (Nat.lt_irrefl _)
theorem HOk.kept (x:HOk P w H h) (k:∀ b u,h.get? b=some u→h'.get? b=some u):HOk P w H h':=fun a o e=>
 (x a o e).stay (fun b u _ q=>k b u q) (fun _ q=>q) fun _ _ q=>q
theorem HOk.laid (x:HOk P w H h) (k:∀ b u,h.get? b=some u→h'.get? b=some u) (hp:h.objs.size≤a) (new:ObjOk P w (upd H a o) h' a o):HOk P w (upd H a o) h':=fun b u e=>by
 have hn:=x.fresh hp
 by_cases hb:b=a
 ·subst hb;rw [upd_same] at e;cases e;exact new
 ·rw [upd_ne hb] at e
  exact (x b u e).stay (fun c v _ q=>k c v q) (fun c q=>by rw [upd_ne (ne_of_none q hn)];exact q) fun c xs q=>by rw [upd_ne (ne_of_none q hn)];exact q
end
noncomputable def Rd (H:Hp) (a:Addr) (u:HO):Prop:=H a=some u∨∃ o,H a=some (.frz o u)
theorem Rd.ok {P:Program} {w:World} {H:Hp} {h:Heap} {a:Addr} {u:HO} (r:Rd H a u) (x:HOk P w H h):ObjOk P w H h a u:=by
 rcases r with r | ⟨o,r⟩
 ·exact x a u r
 ·obtain ⟨_,q⟩:=x a _ r
  exact q
noncomputable def Mut:Option HO→Prop
 | some (.lst _)=>True
 | some (.dK _)=>True
 | some (.dT _)=>True
 | some (.set _ _)=>True
 | some (.ins _ _ _)=>True
 | some (.ext _)=>True
 | _=>False
section
variable {P:Program} {w:World} {H:Hp} {h h':Heap} {x e:Addr} {o':HO}
theorem HOk.write (ok:HOk P w H h) (mu:Mut (H x)) (he:e=x∨H e=some (.own x)) (k:∀ b u,b≠e→h.get? b=some u→h'.get? b=some u) (heo:∃ u,h'.get? e=some u)
  (new:ObjOk P w (upd H x o') h' x o'):HOk P w (upd H x o') h':=fun b u q=>by
 have nown:∀ c y,H c=some (.own y)→c≠x:=fun c y r z=>by subst z;rw [r] at mu;exact mu
 have ntup:∀ c xs,H c=some (.tup xs)→c≠x:=fun c xs r z=>by subst z;rw [r] at mu;exact mu
 by_cases hb:b=x
 ·subst hb;rw [upd_same] at q;cases q;exact new
 ·rw [upd_ne hb] at q
  by_cases hbe:b=e
  ·have q':H b=some (.own x):=by
    rcases he with z | z
    ·exact absurd (hbe.trans z) hb
    ·rw [hbe];exact z
   rw [q] at q';cases q'
   obtain ⟨v,hv⟩:=heo
   exact ⟨v,by rw [hbe];exact hv⟩
  ·refine (ok b u q).stay (fun c v hc r=>k c v ?_ r) (fun c r=>by rw [upd_ne (nown c b r)];exact r) fun c xs r=>by rw [upd_ne (ntup c xs r)];exact r
   rcases hc with rfl | hc
   ·exact hbe
   ·rintro rfl
    rcases he with z | z
    ·exact nown c b hc z
    ·rw [hc] at z;cases z;exact hb rfl
end
structure Un (fs ex:List Addr) (H H':Hp) (h h':Heap):Prop where
 keep:∀ b o,h.get? b=some o→H b=none→b∉fs→b∉ex→h'.get? b=some o
 slot:∀ b o,h.get? b=some o→H b=none→b∈fs→b∉ex→∃ sl,h'.get? b=some {o with slots:=sl}
 free:∀ b o,h.get? b=some o→H b=none→b∉ex→H' b=none
 there:∀ b o,h.get? b=some o→b∉ex→∃ o',h'.get? b=some o'
 tups:∀ b xs,H b=some (.tup xs)→H' b=some (.tup xs)
 frzs:∀ b o u,H b=some (.frz o u)→H' b=some (.frz o u)
 tbls:∀ b ps,H b=some (.tbl ps)→∃ more,H' b=some (.tbl (ps++more))
section
variable {fs fs' ex ex':List Addr} {H H1 H2:Hp} {h h1 h2 h':Heap} {a x e:Addr} {o:HO}
theorem Un.any (u:Un fs ex H H1 h h1) {b:Addr} {ob:Obj} (q:h.get? b=some ob) (n:H b=none) (hx:b∉ex):∃ sl,h1.get? b=some {ob with slots:=sl}:=by
 by_cases hb:b∈fs
 ·exact u.slot b ob q n hb hx
 ·exact ⟨ob.slots,u.keep b ob q n hb hx⟩
theorem Un.kept (k:∀ b u,h.get? b=some u→h'.get? b=some u):Un fs ex H H h h':=
 ⟨fun b ob q _ _ _=>k b ob q,fun b ob q _ _ _=>⟨ob.slots,k b ob q⟩,fun _ _ _ n _=>n,fun b ob q _=>⟨ob,k b ob q⟩,fun _ _ q=>q,fun _ _ _ q=>q,fun _ ps q=>⟨#[],by rw [q];simp⟩⟩
theorem Un.refl:Un fs ex H H h h:=Un.kept fun _ _ q=>q
theorem Un.laid (k:∀ b u,h.get? b=some u→h'.get? b=some u) (hp:h.objs.size≤a) (hn:H a=none):Un fs ex H (upd H a o) h h' where
 keep:=fun b u q _ _ _=>k b u q
 slot:=fun b u q _ _ _=>⟨u.slots,k b u q⟩
 free:=fun b u q n _=>by rw [upd_ne (Nat.ne_of_lt (Nat.lt_of_lt_of_le (Heap.lt_size q) hp))];exact n
 there:=fun b u q _=>⟨u,k b u q⟩
 tups:=fun b xs q=>by rw [upd_ne (ne_of_none q hn)];exact q
 frzs:=fun b u xs q=>by rw [upd_ne (ne_of_none q hn)];exact q
 tbls:=fun b ps q=>⟨#[],by rw [upd_ne (ne_of_none q hn),q];simp⟩
theorem Un.write (mu:Mut (H x)) (he:e=x∨H e=some (.own x)) (k:∀ b u,b≠e→h.get? b=some u→h'.get? b=some u) (heo:∃ u,h'.get? e=some u):Un fs ex H (upd H x o) h h':=by
 have hx:∀ b,H b=none→b≠x:=fun b n z=>by subst z;rw [n] at mu;exact mu
 have hb:∀ b,H b=none→b≠e:=fun b n z=>by
  subst z
  rcases he with r | r
  ·exact hx b n r
  ·rw [n] at r;cases r
 have hm:∀ b u,H b=some u→¬ Mut (some u)→b≠x:=fun b u q nm z=>by subst z;rw [q] at mu;exact nm mu
 refine ⟨fun b u q n _ _=>k b u (hb b n) q,fun b u q n _ _=>⟨u.slots,k b u (hb b n) q⟩,fun b u q n _=>by rw [upd_ne (hx b n)];exact n,fun b u q _=>?_,
  fun b xs q=>by rw [upd_ne (hm b _ q fun z=>z)];exact q,fun b u xs q=>by rw [upd_ne (hm b _ q fun z=>z)];exact q,fun b ps q=>⟨#[],by rw [upd_ne (hm b _ q fun z=>z),q];simp⟩⟩
 by_cases hbe:b=e
 ·subst hbe;exact heo
 ·exact ⟨u,k b u hbe q⟩
end
noncomputable def trk (h:Heap) (H:Hp):List Addr:=(List.range h.objs.size).filter fun a=>(H a).isSome
noncomputable def hidT (h:Heap) (H:Hp):Heap:=PySem.W.hideAll h (trk h H)
theorem hidT_size (h:Heap) (H:Hp):(hidT h H).objs.size=h.objs.size:=PySem.W.hideAll_size _ _
theorem hidT_get {h:Heap} {H:Hp} {b:Addr} {o:Obj} (e:h.get? b=some o) (n:H b=none):(hidT h H).get? b=some o:=
 PySem.W.hideAll_get _ e fun hm=>by
  have q:(H b).isSome=true:=(List.mem_filter.mp hm).2
  rw [n] at q;simp at q
theorem of_hidT {h:Heap} {H:Hp} {b:Addr} {o:Obj} (e:(hidT h H).get? b=some o):h.get? b=some o∧H b=none:=by
 have e':h.get? b=some o:=PySem.W.of_hideAll (trk h H) e
 refine ⟨e',?_⟩
 cases q:H b with
 | none=>rfl
 | some x=>
  have hm:b∈trk h H:=List.mem_filter.mpr ⟨List.mem_range.mpr (Heap.lt_size e'),by simp [q]⟩
  have z:(hidT h H).get? b=none:=PySem.W.hideAll_none (trk h H) hm
  rw [z] at e;cases e
end L2
namespace L2
open PySem PySem.Spec PyProof.Rows
structure Mod (K:PySem.W.Frag) (mg:Str→Option Value) (base:Heap):Prop where
 kin:K.In base
 glob:base.Ns mainGlobals mg
 blt:∃ mb,base.Ns builtinsNs mb∧∀ x:Str,x≠"__name__"→mb x=bootBuiltins x
 nolimit:base.NoLimit
structure Cx where
 prog:Program
 w:World
 K:PySem.W.Frag
 mg:Str→Option Value
 base:Heap
 A:Around
 N:List Str
 s₀:Shared
 H₀:Hp
 env:Env
 outer:List Env
 stack:List Env
 ex:List Addr
 fn:Str→Bool
 calm:Bool
 pn:List (Addr×Obj)
 xe:Value→Shared→Prop
noncomputable def frs (l:List Env):List Addr:=l.filterMap (·.frame)
noncomputable abbrev Cx.fs (X:Cx):List Addr:=frs X.outer
noncomputable def Vis (sc:Scope) (x:Str):Prop:=sc.names.lookup x=some .local∨sc.names.lookup x=some .cell∨sc.names.lookup x=some .free
noncomputable def Loc (sc:Scope) (x:Str):Prop:=sc.names.lookup x=some .local∨sc.names.lookup x=some .cell
noncomputable def Look (env:Env) (h:Heap) (m:Str→Option Value) (x:Str) (u:Value):Prop:=
 (env.kindOf x=some .local∧m x=some u)∨((env.kindOf x=some .cell∨env.kindOf x=some .free)∧∃ c,env.cells.lookup x=some c∧h.IsCell c (some u))
structure Cx.Ok (X:Cx):Prop where
 mod:Mod X.K X.mg X.base
 kind:X.env.scope.kind=.function
 glob:X.env.globals=mainGlobals
 blt:X.env.builtins=builtinsNs
 above:X.s₀.heap.objs.size≤X.env.locals
 inj:∀ x y c,X.env.cells.lookup x=some c→X.env.cells.lookup y=some c→x=y
 has:∀ x,(X.env.kindOf x=some .cell∨X.env.kindOf x=some .free)→∃ c,X.env.cells.lookup x=some c
 cab:∀ x c,X.fn x=true→X.env.cells.lookup x=some c→X.s₀.heap.objs.size≤c
 hd:X.calm=true→X.A.handled=none
 frames:X.A.frames=some X.stack
 stk:X.stack=X.outer∨(X.stack=X.env::X.outer∧X.env.frame=some X.env.locals)
 exf:∀ b∈X.ex,b≠X.env.locals∧∀ x c,X.env.cells.lookup x=some c→c≠b
 bs:∀ b o,X.base.get? b=some o→X.s₀.heap.get? b=some o∧X.H₀ b=none
 bsz:X.base.objs.size≤X.s₀.heap.objs.size
 noex:∀ b o,X.base.get? b=some o→b∉X.ex
 exfs:∀ b∈X.ex,b∉X.fs
 funs:X.s₀.heap.FunFrames X.base X.outer
 frf:∀ b∈X.fs,X.H₀ b=none
structure Inv (X:Cx) (pins:List (Addr×Obj)) (σ:List (Option V)) (H:Hp) (s:Shared):Prop where
 ok:X.Ok
 os:s.os=X.s₀.os
 bare:AllBare s.gens
 base:Un X.fs X.ex X.H₀ H X.s₀.heap s.heap
 loc:∃ m,s.heap.Ns X.env.locals m∧∀ (i:Nat) (x:Str) (v:V),X.N[i]?=some x→σ[i]?=some (some v)→Vis X.env.scope x→∃ u,RelV v u∧Look X.env s.heap m x u
 cell:∀ x c,X.env.cells.lookup x=some c→∃ v,s.heap.IsCell c v
 free:H X.env.locals=none
 freeC:∀ x c,X.env.cells.lookup x=some c→H c=none
 pin:∀ p∈X.pn++pins,s.heap.get? p.1=some p.2∧H p.1=none∧p.1≠X.env.locals∧p.1∉X.fs∧∀ v,p.2.data≠.cell v
 hok:HOk X.prog X.w H s.heap
 len:σ.length=X.N.length
section
variable {X:Cx} {pins:List (Addr×Obj)} {σ:List (Option V)} {H H':Hp} {s:Shared} {h':Heap}
theorem Cx.Ok.nofr (ok:X.Ok) {b:Addr} {o:Obj} (e:X.base.get? b=some o):b∉X.fs:=fun hb=>by
 have:=(ok.funs.mem hb).1
 rw [e] at this;cases this
theorem Inv.bs (I:Inv X pins σ H s):∀ b o,X.base.get? b=some o→s.heap.get? b=some o∧H b=none:=fun b o e=>
 ⟨I.base.keep b o (I.ok.bs b o e).1 (I.ok.bs b o e).2 (I.ok.nofr e) (I.ok.noex b o e),I.base.free b o (I.ok.bs b o e).1 (I.ok.bs b o e).2 (I.ok.noex b o e)⟩
theorem Inv.bk (I:Inv X pins σ H s):∀ b o,X.base.get? b=some o→s.heap.get? b=some o:=fun b o e=>(I.bs b o e).1
theorem Inv.mod (I:Inv X pins σ H s):Mod X.K X.mg X.base:=I.ok.mod
theorem Inv.kIn (I:Inv X pins σ H s):X.K.In s.heap:=I.ok.mod.kin.keeps I.bk
theorem Inv.lt (I:Inv X pins σ H s):X.env.locals<s.heap.objs.size:=let ⟨_,hn,_⟩:=I.loc;hn.lt
theorem Inv.sz (I:Inv X pins σ H s):X.s₀.heap.objs.size≤s.heap.objs.size:=Nat.le_trans I.ok.above (Nat.le_of_lt I.lt)
theorem Inv.nofs (I:Inv X pins σ H s) {a:Addr} (h:s.heap.objs.size≤a):a∉X.fs:=fun hb=>by
 obtain ⟨_,o,ho,_⟩:=I.ok.funs.mem hb
 exact absurd (Nat.lt_of_lt_of_le (Heap.lt_size ho) (Nat.le_trans I.sz h)) (Nat.lt_irrefl _)
theorem Inv.cne (I:Inv X pins σ H s):∀ x c,X.env.cells.lookup x=some c→c≠X.env.locals:=fun x c e z=>by
 obtain ⟨v,o,ho,hd⟩:=I.cell x c e
 obtain ⟨m,⟨o',es,ep,ho',hd',_⟩,_⟩:=I.loc
 rw [z,ho'] at ho;cases ho;rw [hd'] at hd;cases hd
theorem Inv.funs (I:Inv X pins σ H s):s.heap.FunFrames X.base X.outer:=by
 have all:∀ (l:List Env),(∀ b∈frs l,b∈X.fs)→X.s₀.heap.FunFrames X.base l→s.heap.FunFrames X.base l:=by
  intro l
  induction l with
  | nil=>intro _ _;trivial
  | cons env r ih=>
   intro hs hl
   obtain ⟨hk,⟨L,o,hf,hn,ho,hd⟩,hr⟩:=hl
   have hL:L∈X.fs:=hs L (by unfold frs;rw [List.filterMap_cons,hf];exact List.mem_cons_self)
   obtain ⟨sl,e⟩:=I.base.slot L o ho (I.ok.frf L hL) hL fun z=>I.ok.exfs L z hL
   exact ⟨hk,⟨L,_,hf,hn,e,hd⟩,ih (fun b hb=>hs b (by unfold frs;rw [List.filterMap_cons,hf];exact List.mem_cons_of_mem _ hb)) hr⟩
 exact all X.outer (fun _ hb=>hb) I.ok.funs
theorem Inv.stack (I:Inv X pins σ H s):s.heap.FunFrames X.base X.stack:=by
 rcases I.ok.stk with e | ⟨e,hf⟩
 ·rw [e];exact I.funs
 ·rw [e]
  obtain ⟨m,hn,_⟩:=I.loc
  refine .cons (by rw [I.ok.kind];decide) hf hn ?_ I.funs
  exact Heap.get?_none_of_le (Nat.le_trans I.ok.bsz I.ok.above)
theorem Inv.stkSub (I:Inv X pins σ H s):∀ b∈frs X.stack,b∈X.env.locals::X.fs:=fun b hb=>by
 rcases I.ok.stk with e | ⟨e,hf⟩
 ·rw [e] at hb;exact List.mem_cons_of_mem _ hb
 ·rw [e] at hb
  unfold frs at hb
  rw [List.filterMap_cons,hf] at hb
  exact hb
theorem Inv.stkFree (I:Inv X pins σ H s):∀ b∈frs X.stack,H b=none:=fun b hb=>by
 rcases List.mem_cons.mp (I.stkSub b hb) with e | hb
 ·rw [e];exact I.free
 ·obtain ⟨_,o,ho,_⟩:=I.ok.funs.mem hb
  exact I.base.free b o ho (I.ok.frf b hb) fun z=>I.ok.exfs b z hb
theorem Inv.step {g':Array GenState} {t':Nat} {d':Drawn} {ch:List Addr} (I:Inv X pins σ H s)
  (hch:∀ b∈ch,(b∈X.ex∨X.s₀.heap.objs.size≤b)∧b≠X.env.locals∧(∀ x c,X.env.cells.lookup x=some c→c≠b)∧∀ p∈X.pn++pins,p.1≠b)
  (keep:∀ b o,b≠X.env.locals→b∉X.fs→b∉ch→s.heap.get? b=some o→H b=none→h'.get? b=some o)
  (slot:∀ b o,b≠X.env.locals→b∈X.fs→b∉ch→s.heap.get? b=some o→H b=none→∃ sl,h'.get? b=some {o with slots:=sl}) (free:∀ b o,b∉ch→s.heap.get? b=some o→H b=none→H' b=none)
  (there:∀ b o,b∉ch→s.heap.get? b=some o→∃ o',h'.get? b=some o')
  (tups:∀ b xs,H b=some (.tup xs)→H' b=some (.tup xs)) (frzs:∀ b o u,H b=some (.frz o u)→H' b=some (.frz o u)) (tbls:∀ b ps,H b=some (.tbl ps)→∃ more,H' b=some (.tbl (ps++more)))
  (ns:∀ m,s.heap.Ns X.env.locals m→h'.Ns X.env.locals m) (hok:HOk X.prog X.w H' h') (hg:AllBare g'):
  Inv X pins σ H' {s with heap:=h',gens:=g',drawn:=d',toks:=t'}:=by
 have neL:∀ b o,X.s₀.heap.get? b=some o→b≠X.env.locals:=fun b o e=>Nat.ne_of_lt (Nat.lt_of_lt_of_le (Heap.lt_size e) I.ok.above)
 have neC:∀ b o,X.s₀.heap.get? b=some o→b∉X.ex→b∉ch:=fun b o e hx hb=>by
  rcases (hch b hb).1 with z | z
  ·exact hx z
  ·exact absurd (Nat.lt_of_lt_of_le (Heap.lt_size e) z) (Nat.lt_irrefl _)
 have cellK:∀ x c,X.env.cells.lookup x=some c→∀ v,s.heap.IsCell c v→h'.IsCell c v:=fun x c e v ⟨o,ho,hd⟩=>by
  have nch:c∉ch:=fun z=>(hch c z).2.2.1 x c e rfl
  by_cases hc:c∈X.fs
  ·obtain ⟨sl,q⟩:=slot c o (I.cne x c e) hc nch ho (I.freeC x c e)
   exact ⟨_,q,hd⟩
  ·exact ⟨o,keep c o (I.cne x c e) hc nch ho (I.freeC x c e),hd⟩
 refine ⟨I.ok,I.os,hg,⟨fun b o e n hb hx=>?_,fun b o e n hb hx=>?_,fun b o e n hx=>?_,fun b o e hx=>?_,fun b xs e=>tups b xs (I.base.tups b xs e),fun b o xs e=>frzs b o xs (I.base.frzs b o xs e),fun b ps e=>?_⟩,?_,fun x c e=>?_,?_,fun x c e=>?_,fun p hp=>?_,hok,I.len⟩
 ·exact keep b o (neL b o e) hb (neC b o e hx) (I.base.keep b o e n hb hx) (I.base.free b o e n hx)
 ·obtain ⟨sl,e1⟩:=I.base.slot b o e n hb hx
  obtain ⟨sl',e2⟩:=slot b _ (neL b o e) hb (neC b o e hx) e1 (I.base.free b o e n hx)
  exact ⟨sl',e2⟩
 ·obtain ⟨o',e1⟩:=I.base.there b o e hx
  exact free b o' (neC b o e hx) e1 (I.base.free b o e n hx)
 ·obtain ⟨o',e1⟩:=I.base.there b o e hx
  exact there b o' (neC b o e hx) e1
 ·obtain ⟨m1,e1⟩:=I.base.tbls b ps e
  obtain ⟨m2,e2⟩:=tbls b _ e1
  exact ⟨m1++m2,by rw [e2,Array.append_assoc]⟩
 ·obtain ⟨m,hn,hl⟩:=I.loc
  refine ⟨m,ns m hn,fun i x v e1 e2 e3=>?_⟩
  obtain ⟨u,r,l⟩:=hl i x v e1 e2 e3
  refine ⟨u,r,?_⟩
  rcases l with l | ⟨k,c,e,z⟩
  ·exact .inl l
  ·exact .inr ⟨k,c,e,cellK x c e _ z⟩
 ·obtain ⟨v,z⟩:=I.cell x c e
  exact ⟨v,cellK x c e v z⟩
 ·obtain ⟨m,⟨o,_,_,ho,_⟩,_⟩:=I.loc
  exact free _ o (fun z=>(hch _ z).2.1 rfl) ho I.free
 ·obtain ⟨v,o,ho,hd⟩:=I.cell x c e
  exact free c o (fun z=>(hch c z).2.2.1 x c e rfl) ho (I.freeC x c e)
 ·obtain ⟨e,n,ne,nf,d⟩:=I.pin p hp
  have nch:p.1∉ch:=fun z=>(hch p.1 z).2.2.2 p hp rfl
  exact ⟨keep p.1 p.2 ne nf nch e n,free p.1 p.2 nch e n,ne,nf,d⟩
theorem Inv.un {t':Nat} (I:Inv X pins σ H s) (u:Un X.fs [] H H' s.heap h') (hok:HOk X.prog X.w H' h'):Inv X pins σ H' {s with heap:=h',toks:=t'}:=by
 obtain ⟨m,⟨o,es,ep,ho,r⟩,_⟩:=id I.loc
 obtain ⟨sl,hL⟩:=u.any ho I.free (by simp)
 exact I.step (g':=s.gens) (d':=s.drawn) (ch:=[]) (fun _ z=>nomatch z) (fun b o _ hb _ e n=>u.keep b o e n hb (by simp)) (fun b o _ hb _ e n=>u.slot b o e n hb (by simp)) (fun b o _ e n=>u.free b o e n (by simp)) (fun b o _ e=>u.there b o e (by simp)) u.tups u.frzs u.tbls (fun m' hm=>by
  obtain ⟨o',es',ep',ho',r'⟩:=hm
  rw [ho] at ho';cases ho'
  exact ⟨_,es',ep',hL,r'⟩) hok I.bare
theorem Inv.call {g':Array GenState} {t':Nat} {d':Drawn} {ch:List Addr} (I:Inv X pins σ H s) (u:Un (frs X.stack) ch H H' s.heap h') (hok:HOk X.prog X.w H' h') (hg:AllBare g')
  (hch:∀ b∈ch,(b∈X.ex∨X.s₀.heap.objs.size≤b)∧b≠X.env.locals∧(∀ x c,X.env.cells.lookup x=some c→c≠b)∧∀ p∈X.pn++pins,p.1≠b):
  Inv X pins σ H' {s with heap:=h',gens:=g',drawn:=d',toks:=t'}:=by
 obtain ⟨m,⟨o,es,ep,ho,r⟩,_⟩:=id I.loc
 obtain ⟨sl,hL⟩:=u.any ho I.free fun z=>(hch _ z).2.1 rfl
 exact I.step (ch:=ch) hch (fun b o hL hb hc e n=>u.keep b o e n (fun z=>(List.mem_cons.mp (I.stkSub b z)).elim hL hb) hc) (fun b o _ _ hc e n=>u.any e n hc) (fun b o hc e n=>u.free b o e n hc) (fun b o hc e=>u.there b o e hc) u.tups u.frzs u.tbls (fun m' hm=>by
  obtain ⟨o',es',ep',ho',r'⟩:=hm
  rw [ho] at ho';cases ho'
  exact ⟨_,es',ep',hL,r'⟩) hok hg
theorem Inv.turned {t':Nat} {it:Addr} (I:Inv X pins σ H s) (k:∀ b o,b≠it→s.heap.get? b=some o→h'.get? b=some o) (hn:H it=none) (hL:it≠X.env.locals)
  (h1:it∈X.ex∨X.s₀.heap.objs.size≤it) (h2:∀ x c,X.env.cells.lookup x=some c→c≠it) (h3:∀ p∈X.pn++pins,p.1≠it):Inv X pins σ H {s with heap:=h',toks:=t'}:=by
 have nit:∀ b u,H b=some u→b≠it:=fun b u e z=>by rw [z,hn] at e;cases e
 refine I.step (g':=s.gens) (d':=s.drawn) (ch:=[it]) (fun b hb=>?_) (fun b o _ _ hc e _=>k b o (fun z=>hc (by simp [z])) e) (fun b o _ _ hc e _=>⟨o.slots,k b o (fun z=>hc (by simp [z])) e⟩) (fun _ _ _ _ n=>n)
  (fun b o hc e=>⟨o,k b o (fun z=>hc (by simp [z])) e⟩) (fun _ _ e=>e) (fun _ _ _ e=>e) (fun b ps e=>⟨#[],by rw [e];simp⟩) (fun m hm=>?_) (fun b u e=>?_) I.bare
 ·have e:b=it:=by simpa using hb
  subst e
  exact ⟨h1,hL,h2,h3⟩
 ·obtain ⟨o,es,ep,ho,r⟩:=hm
  exact ⟨o,es,ep,k _ o (Ne.symm hL) ho,r⟩
 ·refine (I.hok b u e).stay (fun c v hc q=>k c v ?_ q) (fun _ q=>q) fun _ _ q=>q
  rcases hc with z | z
  ·rw [z];exact nit b u e
  ·exact nit c _ z
theorem Inv.tok (I:Inv X pins σ H s) (t:Nat):Inv X pins σ H {s with toks:=t}:=I.un (h':=s.heap) (t':=t) Un.refl I.hok
theorem Inv.kept {t':Nat} (I:Inv X pins σ H s) (k:∀ b u,s.heap.get? b=some u→h'.get? b=some u):Inv X pins σ H {s with heap:=h',toks:=t'}:=I.un (Un.kept k) (I.hok.kept k)
theorem Inv.laid {a:Addr} {o:HO} {t':Nat} (I:Inv X pins σ H s) (k:∀ b u,s.heap.get? b=some u→h'.get? b=some u) (hp:s.heap.objs.size≤a) (new:ObjOk X.prog X.w (upd H a o) h' a o):
  Inv X pins σ (upd H a o) {s with heap:=h',toks:=t'}:=I.un (Un.laid k hp (I.hok.fresh hp)) (I.hok.laid k hp new)
theorem Inv.write {x e:Addr} {o:HO} {t':Nat} (I:Inv X pins σ H s) (mu:Mut (H x)) (he:e=x∨H e=some (.own x)) (k:∀ b u,b≠e→s.heap.get? b=some u→h'.get? b=some u) (heo:∃ u,h'.get? e=some u)
  (new:ObjOk X.prog X.w (upd H x o) h' x o):Inv X pins σ (upd H x o) {s with heap:=h',toks:=t'}:=I.un (Un.write mu he k heo) (I.hok.write mu he k heo new)
theorem Inv.pins_of {pins':List (Addr×Obj)} (I:Inv X pins σ H s) (h:∀ p∈pins',s.heap.get? p.1=some p.2∧H p.1=none∧p.1≠X.env.locals∧p.1∉X.fs∧∀ v,p.2.data≠.cell v):Inv X pins' σ H s:=
 ⟨I.ok,I.os,I.bare,I.base,I.loc,I.cell,I.free,I.freeC,fun p hp=>(List.mem_append.mp hp).elim (fun z=>I.pin p (List.mem_append_left _ z)) (h p),I.hok,I.len⟩
theorem nodup_ix {N:List Str} (hN:N.Nodup) {i j:Nat} {x:Str} (a:N[i]?=some x) (b:N[j]?=some x):i=j:=by
 obtain ⟨h1,e1⟩:=List.getElem?_eq_some_iff.mp a
 obtain ⟨h2,e2⟩:=List.getElem?_eq_some_iff.mp b
 exact (List.getElem_inj hN).mp (e1.trans e2.symm)
theorem store_ok2 {M:Model} {A:Around} {E:Value→Shared→Prop} {i:Nat} {x:Str} {v:V} {u:Value} {Q:Unit→Shared→Prop} (I:Inv X pins σ H s) (hN:X.N.Nodup) (hi:X.N[i]?=some x) (hx:Loc X.env.scope x) (r:RelV v u)
  (h:∀ s',Inv X pins (σ.set i (some v)) H s'→(∃ a,Heap.SameBut a s.heap s'.heap∧(a=X.env.locals∨X.env.cells.lookup x=some a))→Q () s') (hf:X.fn x=true∨X.env.scope.names.lookup x=some .local:=by first | exact .inl rfl | exact .inr rfl | assumption):wpAny M A (storeName X.env x u) Q E s:=by
 obtain ⟨m,hn,hl⟩:=id I.loc
 have hcls:(X.env.scope.kind==.class||(X.env.scope.kind==.module&&X.env.locals != X.env.globals))=false:=by rw [I.ok.kind];rfl
 have hiσ:i<σ.length:=by rw [I.len];exact (List.getElem?_eq_some_iff.mp hi).1
 have cne:=I.cne
 have tracked:∀ {a:Addr} {h':Heap},(∃ o,s.heap.get? a=some o∧H a=none)→Heap.SameBut a s.heap h'→HOk X.prog X.w H h':=fun {a h'} ha hs b ob e=>by
  obtain ⟨_,_,hfree⟩:=ha
  refine (I.hok b ob e).stay (fun c w' hc q=>(hs.2 c ?_).trans q) (fun _ q=>q) fun _ _ q=>q
  rintro rfl
  rcases hc with rfl | hc
  ·rw [hfree] at e;cases e
  ·rw [hfree] at hc;cases hc
 rcases hx with hk | hk
 ·refine wpAny_storeName_local hk hn (fun h' hn' hs=>?_) hcls
  obtain ⟨oL,_,_,hoL,_⟩:=id hn
  refine h _ ⟨I.ok,I.os,I.bare,⟨fun b o e n hb hx=>?_,fun b o e n hb hx=>?_,I.base.free,fun b o e hx=>?_,I.base.tups,I.base.frzs,I.base.tbls⟩,⟨_,hn',fun j y v' e1 e2 e3=>?_⟩,fun y c e=>?_,I.free,I.freeC,fun p hp=>?_,tracked ⟨oL,hoL,I.free⟩ hs,by simpa using I.len⟩ ⟨_,hs,.inl rfl⟩
  ·exact (hs.2 b (Nat.ne_of_lt (Nat.lt_of_lt_of_le (Heap.lt_size e) I.ok.above))).trans (I.base.keep b o e n hb hx)
  ·obtain ⟨sl,e1⟩:=I.base.slot b o e n hb hx
   exact ⟨sl,(hs.2 b (Nat.ne_of_lt (Nat.lt_of_lt_of_le (Heap.lt_size e) I.ok.above))).trans e1⟩
  ·obtain ⟨o',e1⟩:=I.base.there b o e hx
   exact ⟨o',(hs.2 b (Nat.ne_of_lt (Nat.lt_of_lt_of_le (Heap.lt_size e) I.ok.above))).trans e1⟩
  ·by_cases hj:j=i
   ·subst hj
    rw [hi] at e1;cases e1
    rw [List.getElem?_set_self hiσ] at e2
    cases e2
    exact ⟨u,r,.inl ⟨hk,by simp⟩⟩
   ·rw [List.getElem?_set_ne (Ne.symm hj)] at e2
    obtain ⟨u',r',q⟩:=hl j y v' e1 e2 e3
    refine ⟨u',r',?_⟩
    rcases q with ⟨k,e⟩ | ⟨k,c,e,z⟩
    ·refine .inl ⟨k,?_⟩
     have:y≠x:=fun e=>hj (nodup_ix hN e1 (e▸hi))
     simp [this,e]
    ·exact .inr ⟨k,c,e,z.sameBut hs (cne y c e)⟩
  ·obtain ⟨w',z⟩:=I.cell y c e
   exact ⟨w',z.sameBut hs (cne y c e)⟩
  ·obtain ⟨e,n,ne,nf,d⟩:=I.pin p hp
   exact ⟨(hs.2 p.1 ne).trans e,n,ne,nf,d⟩
 ·have hfn:X.fn x=true:=by
   rcases hf with z | z
   ·exact z
   ·rw [z] at hk;cases hk
  obtain ⟨c,hc⟩:=I.ok.has x (.inl hk)
  obtain ⟨w',z⟩:=I.cell x c hc
  refine wpAny_storeName_cell I.ok.kind hk hc z (fun h' hc' hs=>?_)
  obtain ⟨oc,hoc,hocd⟩:=id z
  refine h {s with heap:=h'} ⟨I.ok,I.os,I.bare,⟨fun b o e n hb hx=>?_,fun b o e n hb hx=>?_,I.base.free,fun b o e hx=>?_,I.base.tups,I.base.frzs,I.base.tbls⟩,⟨m,hn.sameBut hs (Ne.symm (cne x c hc)),fun j y v' e1 e2 e3=>?_⟩,fun y c' e=>?_,I.free,I.freeC,fun p hp=>?_,tracked ⟨oc,hoc,I.freeC x c hc⟩ hs,by simpa using I.len⟩ ⟨c,hs,.inr hc⟩
  ·exact (hs.2 b (Nat.ne_of_lt (Nat.lt_of_lt_of_le (Heap.lt_size e) (I.ok.cab x c hfn hc)))).trans (I.base.keep b o e n hb hx)
  ·obtain ⟨sl,e1⟩:=I.base.slot b o e n hb hx
   exact ⟨sl,(hs.2 b (Nat.ne_of_lt (Nat.lt_of_lt_of_le (Heap.lt_size e) (I.ok.cab x c hfn hc)))).trans e1⟩
  ·obtain ⟨o',e1⟩:=I.base.there b o e hx
   exact ⟨o',(hs.2 b (Nat.ne_of_lt (Nat.lt_of_lt_of_le (Heap.lt_size e) (I.ok.cab x c hfn hc)))).trans e1⟩
  ·by_cases hj:j=i
   ·subst hj
    rw [hi] at e1;cases e1
    rw [List.getElem?_set_self hiσ] at e2
    cases e2
    exact ⟨u,r,.inr ⟨.inl hk,c,hc,hc'⟩⟩
   ·rw [List.getElem?_set_ne (Ne.symm hj)] at e2
    obtain ⟨u',r',q⟩:=hl j y v' e1 e2 e3
    refine ⟨u',r',?_⟩
    rcases q with q | ⟨k,c',e,z'⟩
    ·exact .inl q
    ·refine .inr ⟨k,c',e,z'.sameBut hs ?_⟩
     rintro rfl
     exact hj (nodup_ix hN e1 (I.ok.inj _ _ _ e hc▸hi))
  ·by_cases hcc:c'=c
   ·subst hcc;exact ⟨_,hc'⟩
   ·obtain ⟨w2,z2⟩:=I.cell y c' e
    exact ⟨w2,z2.sameBut hs hcc⟩
  ·obtain ⟨e,n,ne,nf,d⟩:=I.pin p hp
   refine ⟨(hs.2 p.1 ?_).trans e,n,ne,nf,d⟩
   intro q
   rw [q,hoc] at e
   have q':oc=p.2:=Option.some.inj e
   exact d w' (by rw [← q'];exact hocd)
theorem store_ok {M:Model} {A:Around} {E:Value→Shared→Prop} {i:Nat} {x:Str} {v:V} {u:Value} {Q:Unit→Shared→Prop} (I:Inv X pins σ H s) (hN:X.N.Nodup) (hi:X.N[i]?=some x) (hx:Loc X.env.scope x) (r:RelV v u)
  (h:∀ s',Inv X pins (σ.set i (some v)) H s'→Q () s') (hf:X.fn x=true∨X.env.scope.names.lookup x=some .local:=by first | exact .inl rfl | exact .inr rfl | assumption):wpAny M A (storeName X.env x u) Q E s:=
 store_ok2 I hN hi hx r (fun s' I' _=>h s' I') hf
theorem Inv.call' {s':Shared} {ch:List Addr} (I:Inv X pins σ H s) (ho:s'.os=s.os) (u:Un (frs X.stack) ch H H' s.heap s'.heap) (hok:HOk X.prog X.w H' s'.heap) (hg:AllBare s'.gens)
  (hch:∀ b∈ch,(b∈X.ex∨X.s₀.heap.objs.size≤b)∧b≠X.env.locals∧(∀ x c,X.env.cells.lookup x=some c→c≠b)∧∀ p∈X.pn++pins,p.1≠b):Inv X pins σ H' s':=by
 obtain ⟨h',g',d',t',o'⟩:=s'
 have e:o'=s.os:=ho
 subst e
 exact I.call (g':=g') (t':=t') (d':=d') u hok hg hch
end
noncomputable abbrev XK:=Value→Option Addr→Hp→Prop
noncomputable abbrev St:=List (Option V)
noncomputable abbrev VK:=V→Hp→Prop
noncomputable abbrev TE:=St→Hp→VK→Prop
noncomputable abbrev TT:=St→Hp→(Bool→Hp→Prop)→Prop
noncomputable abbrev TA:=St→Hp→(List V→Hp→Prop)→Prop
structure Ends where
 nx:St→Hp→Prop
 rt:VK
 bk:St→Hp→Prop:=fun _ _=>False
 ct:St→Hp→Prop:=fun _ _=>False
noncomputable abbrev TS:=Ends→St→Hp→Prop
noncomputable def EP (X:Cx) (pins:List (Addr×Obj)) (σ:St) (Q:VK) (u:Value) (s':Shared):Prop:=∃ v H',Inv X pins σ H' s'∧RelV v u∧Q v H'
noncomputable def TP (X:Cx) (pins:List (Addr×Obj)) (σ:St) (Q:Bool→Hp→Prop) (b:Bool) (s':Shared):Prop:=∃ H',Inv X pins σ H' s'∧Q b H'
noncomputable def AP (X:Cx) (pins:List (Addr×Obj)) (σ:St) (Q:List V→Hp→Prop) (us:List Value) (s':Shared):Prop:=∃ vs H',Inv X pins σ H' s'∧Vals vs us∧Q vs H'
noncomputable def SP (X:Cx) (pins:List (Addr×Obj)) (D:Ends) (f:Flow) (s':Shared):Prop:=
 match f with
 | .next=>∃ σ' H',Inv X pins σ' H' s'∧D.nx σ' H'
 | .brk=>∃ σ' H',Inv X pins σ' H' s'∧D.bk σ' H'
 | .cont=>∃ σ' H',Inv X pins σ' H' s'∧D.ct σ' H'
 | .ret u=>∃ v σ' H',Inv X pins σ' H' s'∧RelV v u∧D.rt v H'
noncomputable def PE (X:Cx) (e:Expr) (t:TE):Prop:=
 ∀ (pins:List (Addr×Obj)) (s:Shared) (σ:St) (H:Hp) (Q:VK),Inv X pins σ H s→t σ H Q→wpAny (model X.prog X.w) X.A (eval e X.env) (EP X pins σ Q) X.xe s
noncomputable def PT (X:Cx) (e:Expr) (t:TT):Prop:=
 ∀ (pins:List (Addr×Obj)) (s:Shared) (σ:St) (H:Hp) (Q:Bool→Hp→Prop),Inv X pins σ H s→t σ H Q→wpAny (model X.prog X.w) X.A (isTrue e X.env (eval e X.env)) (TP X pins σ Q) X.xe s
noncomputable def PW (X:Cx) (e:Expr) (t:TT):Prop:=
 ∀ (whole:Sem Value) (pins:List (Addr×Obj)) (s:Shared) (σ:St) (H:Hp) (Q:Bool→Hp→Prop),Inv X pins σ H s→t σ H Q→wpAny (model X.prog X.w) X.A (isTrue e X.env whole) (TP X pins σ Q) X.xe s
theorem PW.pt {X:Cx} {e:Expr} {t:TT} (h:PW X e t):PT X e t:=h _
noncomputable def PA (X:Cx) (es:List Expr) (t:TA):Prop:=
 ∀ (pos:Pos) (pins:List (Addr×Obj)) (s:Shared) (σ:St) (H:Hp) (Q:List V→Hp→Prop),Inv X pins σ H s→t σ H Q→wpAny (model X.prog X.w) X.A (spliced (backTo pos (starEach es X.env))) (AP X pins σ Q) X.xe s
noncomputable def PS (X:Cx) (st:Stmt) (t:TS):Prop:=
 ∀ (pins:List (Addr×Obj)) (s:Shared) (σ:St) (H:Hp) (D:Ends),Inv X pins σ H s→t D σ H→wpAny (model X.prog X.w) X.A (exec st X.env) (SP X pins D) X.xe s
noncomputable def PSs (X:Cx) (st:List Stmt) (t:TS):Prop:=
 ∀ (pins:List (Addr×Obj)) (s:Shared) (σ:St) (H:Hp) (D:Ends),Inv X pins σ H s→t D σ H→wpAny (model X.prog X.w) X.A (execs st X.env) (SP X pins D) X.xe s
theorem thn {α:Type} {t:Sem α} {Q Q':α→Shared→Prop} {M:Model} {A:Around} {E:Value→Shared→Prop} {s:Shared} (h:wpAny M A t Q E s) (hQ:∀ a s,Q a s→Q' a s):wpAny M A t Q' E s:=wpAny_mono h hQ fun _ _ x=>x
end L2
namespace L2
open PySem PySem.Spec PyProof.Rows
section
variable {X:Cx}
theorem bin {a b:Expr} {ta tb:TE} (ha:PE X a ta) (hb:PE X b tb) {pins:List (Addr×Obj)} {s:Shared} {σ:St} {H:Hp} {R:V→V→Hp→Prop} (I:Inv X pins σ H s) (h:ta σ H fun x H1=>tb σ H1 fun y H2=>R x y H2)
  {α:Type} {Q:α→Shared→Prop} {f:Value→Value→Sem α}
  (hf:∀ v u s2 x y H2,Inv X pins σ H2 s2→RelV x v→RelV y u→R x y H2→wpAny (model X.prog X.w) X.A (f v u) Q X.xe s2):
  wpAny (model X.prog X.w) X.A (eval a X.env) (fun v s₁=>wpAny (model X.prog X.w) X.A (eval b X.env) (fun u s₂=>wpAny (model X.prog X.w) X.A (f v u) Q X.xe s₂) X.xe s₁) X.xe s:=by
 refine thn (ha pins s σ H _ I h) fun v s1 ⟨x,H1,I1,r1,q1⟩=>?_
 refine thn (hb pins s1 σ H1 _ I1 q1) fun u s2 ⟨y,H2,I2,r2,q2⟩=>?_
 exact hf v u s2 x y H2 I2 r1 r2 q2
noncomputable def tVar (i:Nat):TE:=fun σ H Q=>∃ v,σ[i]?=some (some v)∧Q v H
noncomputable def tC (v:V):TE:=fun _ H Q=>Q v H
theorem pe_var {i:Nat} {x:Str} {pos:Pos} (hN:X.N[i]?=some x) (hv:Vis X.env.scope x) (hd:(x==("__debug__":Str))=false:=by decide) (hcd:(x==("__classdict__":Str))=false:=by decide):PE X (.Name x pos) (tVar i):=by
 intro pins s σ H Q I h
 obtain ⟨v,e,h⟩:=h
 obtain ⟨m,hn,hl⟩:=I.loc
 obtain ⟨u,r,l⟩:=hl i x v hN e hv
 have fin:EP X pins σ Q u s:=⟨v,H,I,r,h⟩
 rcases l with ⟨hk,hm⟩ | ⟨hk,c,hc,hcell⟩
 ·exact wpAny_Name (wpAny_loadName_local I.ok.kind hk hn hm fin) hd
 ·rcases hk with hk | hk
  ·exact wpAny_Name (wpAny_loadName_cell I.ok.kind hk hc hcell fin) hd
  ·exact wpAny_Name (wpAny_loadName_free I.ok.kind hk hc hcell fin hcd) hd
theorem pe_int {i j pos}:PE X (.Constant (.int i) j pos) (tC (.int i)):=fun _ _ _ H _ I h=>wpAny_Constant_int ⟨.int i,H,I.tok _,⟨_,rfl⟩,h⟩
theorem pe_bl {b j pos}:PE X (.Constant (.bool b) j pos) (tC (.bl b)):=fun _ _ _ H _ I h=>Constant_bool ⟨.bl b,H,I,rfl,h⟩
theorem pe_non {j pos}:PE X (.Constant .none j pos) (tC .non):=fun _ _ _ H _ I h=>Constant_none ⟨.non,H,I,rfl,h⟩
theorem pe_str {x j pos}:PE X (.Constant (.str x) j pos) (tC (.str x)):=fun _ _ _ H _ I h=>Calls.Constant_str ⟨.str x,H,I.tok _,⟨_,rfl⟩,h⟩
noncomputable def Gl (X:Cx) (x:Str):Prop:=X.env.kindOf x=some .globalImplicit
theorem ld_glob {E:Value→Shared→Prop} {pins:List (Addr×Obj)} {s:Shared} {σ:St} {H:Hp} {x:Str} {u:Value} {pos:Pos} {Q:Value→Shared→Prop} (I:Inv X pins σ H s) (hg:Gl X x) (hm:X.mg x=some u) (h:Q u s)
  (hd:(x==("__debug__":Str))=false:=by decide):wpAny (model X.prog X.w) X.A (eval (.Name x pos) X.env) Q E s:=
 Calls.Name_function_global I.ok.kind hg (Calls.loadGlobal_global (by rw [I.ok.glob];exact I.mod.glob.keeps I.bk) hm h) hd
theorem ld_blt {E:Value→Shared→Prop} {pins:List (Addr×Obj)} {s:Shared} {σ:St} {H:Hp} {x:Str} {u:Value} {pos:Pos} {Q:Value→Shared→Prop} (I:Inv X pins σ H s) (hg:Gl X x) (hm:X.mg x=none) (hv:bootBuiltins x=some u) (h:Q u s)
  (hn:x≠"__name__":=by decide) (hd:(x==("__debug__":Str))=false:=by decide):wpAny (model X.prog X.w) X.A (eval (.Name x pos) X.env) Q E s:=by
 obtain ⟨mb,h1,h2⟩:=I.mod.blt
 exact Calls.Name_function_global I.ok.kind hg (Calls.loadGlobal_builtin (by rw [I.ok.glob];exact I.mod.glob.keeps I.bk) hm (by rw [I.ok.blt];exact h1.keeps I.bk) ((h2 x hn).trans hv) h) hd
theorem pe_glob {x:Str} {v:V} {u:Value} {pos:Pos} (hg:Gl X x) (hm:X.mg x=some u) (r:RelV v u) (hd:(x==("__debug__":Str))=false:=by decide):PE X (.Name x pos) (tC v):=
 fun _ _ _ H _ I h=>ld_glob I hg hm ⟨v,H,I,r,h⟩ hd
theorem pe_bltn {x:Str} {v:V} {u:Value} {pos:Pos} (hg:Gl X x) (hm:X.mg x=none) (hv:bootBuiltins x=some u) (r:RelV v u) (hn:x≠"__name__":=by decide) (hd:(x==("__debug__":Str))=false:=by decide):PE X (.Name x pos) (tC v):=
 fun _ _ _ H _ I h=>ld_blt I hg hm hv ⟨v,H,I,r,h⟩ hn hd
variable {a b:Expr} {ta tb:TE} {pos:Pos}
variable {tA tB':TT} {rest:List Expr}
noncomputable def tAnd (t u:TT):TT:=fun σ H Q=>t σ H fun c H1=>if c=true then u σ H1 Q else Q false H1
noncomputable def tOr (t u:TT):TT:=fun σ H Q=>t σ H fun c H1=>if c=true then Q true H1 else u σ H1 Q
noncomputable def tNot (t:TT):TT:=fun σ H Q=>t σ H fun c H1=>Q (!c) H1
theorem pw_and1 (ha:PT X a tA):PW X (.BoolOp .And [a] pos) tA:=by
 intro wh pins s σ H Q I h
 refine isTrue_and (thn (ha pins s σ H Q I h) fun c s1 e=>?_)
 cases c with
 | true=>exact isTrue_and_nil e
 | false=>exact e
theorem pw_or1 (ha:PT X a tA):PW X (.BoolOp .Or [a] pos) tA:=by
 intro wh pins s σ H Q I h
 refine isTrue_or (thn (ha pins s σ H Q I h) fun c s1 e=>?_)
 cases c with
 | false=>exact isTrue_or_nil e
 | true=>exact e
theorem pw_and (ha:PT X a tA) (hb:PW X (.BoolOp .And (b::rest) pos) tB'):PW X (.BoolOp .And (a::b::rest) pos) (tAnd tA tB'):=by
 intro wh pins s σ H Q I h
 refine isTrue_and (thn (ha pins s σ H _ I h) fun c s1 ⟨H1,I1,q1⟩=>?_)
 cases c with
 | true=>exact hb wh pins s1 σ H1 Q I1 q1
 | false=>exact ⟨H1,I1,q1⟩
theorem pw_or (ha:PT X a tA) (hb:PW X (.BoolOp .Or (b::rest) pos) tB'):PW X (.BoolOp .Or (a::b::rest) pos) (tOr tA tB'):=by
 intro wh pins s σ H Q I h
 refine isTrue_or (thn (ha pins s σ H _ I h) fun c s1 ⟨H1,I1,q1⟩=>?_)
 cases c with
 | true=>exact ⟨H1,I1,q1⟩
 | false=>exact hb wh pins s1 σ H1 Q I1 q1
theorem pt_not (ha:PT X a tA):PT X (.UnaryOp .Not a pos) (tNot tA):=by
 intro pins s σ H Q I h
 exact isTrue_not (ha pins s σ H (fun c H1=>Q (!c) H1) I h)
noncomputable def tAndV (ta tb:TE):TE:=fun σ H Q=>ta σ H fun x H1=>∃ c,x=.bl c∧if c=true then tb σ H1 Q else Q (.bl false) H1
theorem pe_one {op} {t:TE} (h:PE X a t):PE X (.BoolOp op [a] pos) t:=fun pins s σ H Q I hw=>BoolOp_one (h pins s σ H Q I hw)
theorem pe_and (ha:PE X a ta) (hb:PE X (.BoolOp .And (b::rest) pos) tb):PE X (.BoolOp .And (a::b::rest) pos) (tAndV ta tb):=by
 intro pins s σ H Q I h
 refine BoolOp_and (thn (ha pins s σ H _ I h) fun v s1 ⟨x,H1,I1,r1,q1⟩=>?_)
 obtain ⟨c,rfl,q1⟩:=q1
 cases r1
 refine wpAny_truthy_bool ?_
 cases c with
 | true=>exact hb pins s1 σ H1 Q I1 q1
 | false=>exact ⟨.bl false,H1,I1,rfl,q1⟩
end
end L2
namespace L2
open PySem PySem.Spec PyProof.Rows
noncomputable def SqL (K:PySem.W.Frag) (H:Hp) (a:Addr) (xs:List V):Prop:=
 Rd H a (.lst xs)∨
  ∃ (o:Obj) (its:Array Value) (n:Nat),K.lookup a=some o∧o.cls=.type "list"∧o.dict=none∧o.data=.seq its n∧its.size≤sizeLine∧Vals xs its.toList
noncomputable def SqT (K:PySem.W.Frag) (H:Hp) (a:Addr) (xs:List V):Prop:=
 Rd H a (.tup xs)∨
  ∃ (o:Obj) (its:Array Value) (n:Nat),K.lookup a=some o∧o.cls=.type "tuple"∧o.data=.seq its n∧its.size≤sizeLine∧Vals xs its.toList
noncomputable def absV:Value→Option V
 | .none=>some .non
 | .bool b=>some (.bl b)
 | .int i _=>some (.int i)
 | .str x _=>some (.str x)
 | .bytes b _=>some (.byt b)
 | .float b _=>some (.flt b)
 | .ref a=>some (.ref a)
 | .type n=>some (.ty n)
 | _=>none
theorem RelV.abs {x:V} {u:Value} (r:RelV x u):absV u=some x:=by
 cases x with
 | non=>cases r;rfl
 | bl _=>cases r;rfl
 | int _=>obtain ⟨t,rfl⟩:=r;rfl
 | str _=>obtain ⟨t,rfl⟩:=r;rfl
 | byt _=>obtain ⟨t,rfl⟩:=r;rfl
 | flt _=>obtain ⟨t,rfl⟩:=r;rfl
 | ref _=>cases r;rfl
 | ty _=>cases r;rfl
theorem RelV.inj {x y:V} {u:Value} (r:RelV x u) (q:RelV y u):x=y:=Option.some.inj (r.abs.symm.trans q.abs)
theorem Vals.inj:∀ {xs ys:List V} {us:List Value},Vals xs us→Vals ys us→xs=ys
 | _,_,_,.nil,.nil=>rfl
 | _,_,_,.cons r t,.cons r' t'=>by rw [r.inj r',Vals.inj t t']
section
variable {X:Cx} {pins:List (Addr×Obj)} {σ:St} {H:Hp} {s:Shared} {a:Addr} {xs ys:List V}
theorem SqL.of {K:PySem.W.Frag} (h:H a=some (.lst xs)):SqL K H a xs:=.inl (.inl h)
theorem SqT.of {K:PySem.W.Frag} (h:H a=some (.tup xs)):SqT K H a xs:=.inl (.inl h)
theorem Inv.list (I:Inv X pins σ H s) (h:SqL X.K H a xs):∃ its:List Value,Vals xs its∧PlainL s.heap a its.toArray∧xs.length≤sizeLine:=by
 rcases h with h | ⟨o,its,n,hk,hc,hd,hs,hz,r⟩
 ·obtain ⟨z,its,n,r,e⟩:=h.ok I.hok
  exact ⟨its,r,⟨_,n,e,rfl,rfl,rfl⟩,z⟩
 ·refine ⟨its.toList,r,⟨o,n,I.kIn a o hk,hc,hd,by simpa using hs⟩,?_⟩
  have e:=r.length
  simp only [Array.length_toList] at e
  lia
theorem Inv.tuple (I:Inv X pins σ H s) (h:SqT X.K H a xs):∃ its:List Value,Vals xs its∧IsTup s.heap a its.toArray∧xs.length≤sizeLine:=by
 rcases h with h | ⟨o,its,n,hk,hc,hs,hz,r⟩
 ·obtain ⟨z,its,r,p⟩:=h.ok I.hok
  exact ⟨its,r,p,z⟩
 ·refine ⟨its.toList,r,⟨o,I.kIn a o hk,hc,n,by simpa using hs⟩,?_⟩
  have e:=r.length
  simp only [Array.length_toList] at e
  lia
theorem Inv.list_inj (I:Inv X pins σ H s) (h:SqL X.K H a xs) (h':SqL X.K H a ys):xs=ys:=by
 obtain ⟨its,r,⟨o,n,e,_,_,d⟩,_⟩:=I.list h
 obtain ⟨its',r',⟨o',n',e',_,_,d'⟩,_⟩:=I.list h'
 rw [e] at e';cases e'
 rw [d] at d'
 injection d' with d1 _
 have:its=its':=by simpa using congrArg Array.toList d1
 subst this
 exact r.inj r'
theorem Inv.tuple_inj (I:Inv X pins σ H s) (h:SqT X.K H a xs) (h':SqT X.K H a ys):xs=ys:=by
 obtain ⟨its,r,⟨o,e,_,n,d⟩,_⟩:=I.tuple h
 obtain ⟨its',r',⟨o',e',_,n',d'⟩,_⟩:=I.tuple h'
 rw [e] at e';cases e'
 rw [d] at d'
 injection d' with d1 _
 have:its=its':=by simpa using congrArg Array.toList d1
 subst this
 exact r.inj r'
end
noncomputable abbrev Cx.wish (X:Cx) (E:Value→Shared→Prop):Cx:={X with xe:=E}
noncomputable abbrev Cx.nox (X:Cx):Cx:=X.wish fun _ _=>False
theorem Cx.Ok.wish {X:Cx} (ok:X.Ok) (E:Value→Shared→Prop):(X.wish E).Ok:=
 ⟨ok.mod,ok.kind,ok.glob,ok.blt,ok.above,ok.inj,ok.has,ok.cab,ok.hd,ok.frames,ok.stk,ok.exf,ok.bs,ok.bsz,ok.noex,ok.exfs,ok.funs,ok.frf⟩
theorem Cx.Ok.unwish {X:Cx} {E:Value→Shared→Prop} (ok:(X.wish E).Ok):X.Ok:=
 ⟨ok.mod,ok.kind,ok.glob,ok.blt,ok.above,ok.inj,ok.has,ok.cab,ok.hd,ok.frames,ok.stk,ok.exf,ok.bs,ok.bsz,ok.noex,ok.exfs,ok.funs,ok.frf⟩
section
variable {X:Cx} {pins:List (Addr×Obj)} {σ:St} {H:Hp} {s:Shared} {E:Value→Shared→Prop}
theorem Inv.wish (I:Inv X pins σ H s) (E:Value→Shared→Prop):Inv (X.wish E) pins σ H s:=⟨I.ok.wish E,I.os,I.bare,I.base,I.loc,I.cell,I.free,I.freeC,I.pin,I.hok,I.len⟩
theorem Inv.unwish (I:Inv (X.wish E) pins σ H s):Inv X pins σ H s:=⟨I.ok.unwish,I.os,I.bare,I.base,I.loc,I.cell,I.free,I.freeC,I.pin,I.hok,I.len⟩
theorem SP.unwish {D:Ends} {f:Flow} {s':Shared} (h:SP (X.wish E) pins D f s'):SP X pins D f s':=by
 cases f with
 | next=>obtain ⟨σ',H',I,q⟩:=h;exact ⟨σ',H',I.unwish,q⟩
 | brk=>obtain ⟨σ',H',I,q⟩:=h;exact ⟨σ',H',I.unwish,q⟩
 | cont=>obtain ⟨σ',H',I,q⟩:=h;exact ⟨σ',H',I.unwish,q⟩
 | ret u=>obtain ⟨v,σ',H',I,r,q⟩:=h;exact ⟨v,σ',H',I.unwish,r,q⟩
theorem PE.nox {e:Expr} {t:TE} (h:PE X.nox e t):PE X e t:=fun pins s σ H Q I hw=>
 wpAny_mono (h pins s σ H Q (I.wish _) hw) (fun _ _ ⟨v,H',I',r,q⟩=>⟨v,H',I'.unwish,r,q⟩) fun _ _ z=>False.elim z
theorem PT.nox {e:Expr} {t:TT} (h:PT X.nox e t):PT X e t:=fun pins s σ H Q I hw=>
 wpAny_mono (h pins s σ H Q (I.wish _) hw) (fun _ _ ⟨H',I',q⟩=>⟨H',I'.unwish,q⟩) fun _ _ z=>False.elim z
theorem PSs.nox {st:List Stmt} {t:TS} (h:PSs X.nox st t):PSs X st t:=fun pins s σ H D I hw=>
 wpAny_mono (h pins s σ H D (I.wish _) hw) (fun _ _ q=>q.unwish) fun _ _ z=>False.elim z
end
section
variable {X:Cx} {st:Stmt} {rest:List Stmt} {t u:TS} {e:Expr} {te:TE} {pos:Pos}
noncomputable def tNext:TS:=fun D σ H=>D.nx σ H
noncomputable def tSeq (t u:TS):TS:=fun D σ H=>t {D with nx:=u D} σ H
theorem pss_nil:PSs X [] tNext:=fun _ _ σ H _ I h=>wpAny_execs_nil ⟨σ,H,I,h⟩
theorem pss_cons (h1:PS X st t) (h2:PSs X rest u):PSs X (st::rest) (tSeq t u):=by
 intro pins s σ H D I h
 refine wpAny_execs_cons (thn (h1 pins s σ H {D with nx:=u D} I h) fun f s1 q=>?_)
 cases f with
 | next=>
  obtain ⟨σ',H',I',q⟩:=q
  exact h2 pins s1 σ' H' D I' q
 | ret v=>exact q
 | brk=>exact q
 | cont=>exact q
theorem pss_one (h1:PS X st t):PSs X [st] t:=by
 intro pins s σ H D I h
 refine wpAny_execs_cons (thn (h1 pins s σ H D I h) fun f s1 q=>?_)
 cases f with
 | next=>exact wpAny_execs_nil q
 | ret v=>exact q
 | brk=>exact q
 | cont=>exact q
theorem ps_pass:PS X (.Pass pos) tNext:=fun _ _ σ H _ I h=>wpAny_Pass ⟨σ,H,I,h⟩
theorem Inv.quiet {pins:List (Addr×Obj)} {σ:St} {H:Hp} {s:Shared} (I:Inv X pins σ H s):interactive X.env=false:=by simp [interactive,I.ok.kind]
noncomputable def tDrop (te:TE):TS:=fun D σ H=>te σ H fun _ H1=>D.nx σ H1
theorem ps_expr (he:PE X e te) (hs:swapsWith e none pos.line X.env=pure false:=by rfl):PS X (.Expr e pos) (tDrop te):=by
 intro pins s σ H D I h
 exact wpAny_Expr_any (thn (he pins s σ H _ I h) fun v s1 ⟨x,H1,I1,r1,q1⟩=>⟨σ,H1,I1,q1⟩) I.quiet hs
noncomputable def tRet (te:TE):TS:=fun D σ H=>te σ H D.rt
theorem ps_ret (he:PE X e te):PS X (.Return (some e) pos) (tRet te):=by
 intro pins s σ H D I h
 exact wpAny_Return_some (thn (he pins s σ H _ I h) fun v s1 ⟨x,H1,I1,r1,q1⟩=>⟨x,σ,H1,I1,r1,q1⟩)
noncomputable def tIfS (c:TT) (t u:TS):TS:=fun D σ H=>c σ H fun b H1=>if b=true then t D σ H1 else u D σ H1
theorem ps_if {c:Expr} {a b:List Stmt} {tc:TT} (hc:PT X c tc) (ha:PSs X a t) (hb:PSs X b u):PS X (.If c a b pos) (tIfS tc t u):=by
 intro pins s σ H D I h
 refine wpAny_If (thn (hc pins s σ H _ I h) fun d s1 ⟨H1,I1,q1⟩=>?_)
 cases d with
 | true=>exact ha pins s1 σ H1 D I1 q1
 | false=>exact hb pins s1 σ H1 D I1 q1
end
noncomputable abbrev TG:=V→St→Hp→(St→Hp→Prop)→Prop
noncomputable abbrev TGs:=List V→St→Hp→(St→Hp→Prop)→Prop
noncomputable def PG (X:Cx) (target:Expr) (t:TG):Prop:=
 ∀ (pins:List (Addr×Obj)) (s:Shared) (σ:St) (H:Hp) (v:V) (u:Value) (Q:St→Hp→Prop),Inv X pins σ H s→RelV v u→t v σ H Q→
  wpAny (model X.prog X.w) X.A (assign target X.env u) (fun _ s'=>∃ σ' H',Inv X pins σ' H' s'∧Q σ' H') X.xe s
noncomputable def PGs (X:Cx) (ts:List Expr) (t:TGs):Prop:=
 ∀ (pins:List (Addr×Obj)) (s:Shared) (σ:St) (H:Hp) (vs:List V) (us:List Value) (Q:St→Hp→Prop),Inv X pins σ H s→Vals vs us→t vs σ H Q→
  wpAny (model X.prog X.w) X.A (assignInOrder ((assignEach ts X.env).map (·.2)) us) (fun _ s'=>∃ σ' H',Inv X pins σ' H' s'∧Q σ' H') X.xe s
noncomputable abbrev TSet:=V→V→V→Hp→(Hp→Prop)→Prop
noncomputable def PSet (X:Cx) (t:TSet):Prop:=
 ∀ (pins:List (Addr×Obj)) (s:Shared) (σ:St) (H:Hp) (o i v:V) (ov iv u:Value) (Q:Hp→Prop),Inv X pins σ H s→RelV o ov→RelV i iv→RelV v u→t o i v H Q→
  wpAny (model X.prog X.w) X.A (setItem ov iv u) (fun _ s'=>∃ H',Inv X pins σ H' s'∧Q H') X.xe s
section
variable {X:Cx} {pos:Pos}
noncomputable def gName (i:Nat):TG:=fun v σ H Q=>Q (σ.set i (some v)) H
theorem pg_name {i:Nat} {x:Str} (hN:X.N.Nodup) (hi:X.N[i]?=some x) (hx:Loc X.env.scope x) (hf:X.fn x=true∨X.env.scope.names.lookup x=some .local:=by first | exact .inl rfl | exact .inr rfl | assumption):PG X (.Name x pos) (gName i):=by
 intro pins s σ H v u Q I r h
 exact wpAny_assign_Name (store_ok I hN hi hx r (fun s' I'=>⟨_,H,I',h⟩) hf)
noncomputable def gNil:TGs:=fun vs σ H Q=>vs=[]∧Q σ H
noncomputable def gCons (t:TG) (u:TGs):TGs:=fun vs σ H Q=>∃ v r,vs=v::r∧t v σ H fun σ' H'=>u r σ' H' Q
theorem pgs_nil:PGs X [] gNil:=by
 intro pins s σ H vs us Q I r h
 obtain ⟨e,h⟩:=h
 subst e
 cases r
 exact assignInOrder_nil ⟨σ,H,I,h⟩
theorem pgs_cons {e:Expr} {es:List Expr} {t:TG} {u:TGs} (h1:PG X e t) (h2:PGs X es u)
  (hs:(assignEach (e::es) X.env).map (·.2)=assign e X.env::(assignEach es X.env).map (·.2):=by rfl):PGs X (e::es) (gCons t u):=by
 intro pins s σ H vs us Q I r h
 obtain ⟨v,vr,e1,h⟩:=h
 subst e1
 cases r with
 | cons r rr=>
  rw [hs]
  refine assignInOrder_cons (thn (h1 pins s σ H _ _ _ I r h) fun _ s1 ⟨σ1,H1,I1,q1⟩=>?_)
  exact h2 pins s1 σ1 H1 _ _ Q I1 rr q1
noncomputable def gTup (K:PySem.W.Frag) (n:Nat) (t:TGs):TG:=fun v σ H Q=>∃ a xs,v=.ref a∧SqT K H a xs∧xs.length=n∧t xs σ H Q
theorem pg_tup {es:List Expr} {k:Nat} {t:TGs} {n:Nat} (hc:X.calm=true) (h:PGs X es t)
  (hn:(assignEach es X.env).length=n:=by rfl) (hst:(assignEach es X.env).findIdx? (·.1)=none:=by rfl):PG X (.Tuple es k pos) (gTup X.K n t):=by
 intro pins s σ H v u Q I r hw
 obtain ⟨a,xs,e1,hq,hl,hw⟩:=hw
 subst e1
 cases r
 obtain ⟨its,rv,ht,hz⟩:=I.tuple hq
 refine assign_Tuple_tuple (I.ok.hd hc) ht (by simp [hn,← hl,rv.length]) hst fun h' hx=>?_
 have I1:Inv X pins σ H {s with heap:=h'}:=I.kept (t':=s.toks) fun b o e=>hx b o (Nat.ne_of_lt (Heap.lt_size e)) e
 exact h pins _ σ H xs _ Q I1 (by simpa using rv) hw
noncomputable def gSub (to ti:TE) (t:TSet):TG:=fun v σ H Q=>to σ H fun o H1=>ti σ H1 fun i H2=>t o i v H2 fun H3=>Q σ H3
theorem pg_sub {o i:Expr} {to ti:TE} {t:TSet} (ho:PE X o to) (hi:PE X i ti) (hs:PSet X t)
  (ha:∀ v,assign (.Subscript o i pos) X.env v=(do
   let ov ← holding [v] (eval o X.env)
   let iv ← holding [v,ov] (eval i X.env)
   standAt pos
   holding [v,ov,iv] (setItem ov iv v)
   release [v,ov,iv] []):=by intro _;rfl):PG X (.Subscript o i pos) (gSub to ti t):=by
 intro pins s σ H v u Q I r h
 rw [ha]
 refine wpAny_bind (wpAny_holding (thn (ho pins s σ H _ I h) fun ov s1 ⟨x,H1,I1,r1,q1⟩=>?_))
 refine wpAny_bind (wpAny_holding (thn (hi pins s1 σ H1 _ I1 q1) fun iv s2 ⟨y,H2,I2,r2,q2⟩=>?_))
 refine wpAny_bind (wpAny_standAt (wpAny_bind (wpAny_holding (thn (hs pins s2 σ H2 x y v ov iv u _ I2 r1 r2 r q2) fun _ s3 ⟨H3,I3,q3⟩=>?_))))
 exact wpAny_release ⟨σ,H3,I3,q3⟩
noncomputable def tAsg (te:TE) (g:TG):TS:=fun D σ H=>te σ H fun x H1=>g x σ H1 D.nx
theorem ps_asg {tg e:Expr} {te:TE} {g:TG} (he:PE X e te) (hg:PG X tg g) (hs:swapsWithSole [tg] e pos.line X.env=pure false:=by rfl) (hw:swappedStores [tg] e X.env=pure none:=by rfl)
  (h1:(assignEach [tg] X.env).map (·.2)=[assign tg X.env]:=by rfl):PS X (.Assign [tg] e pos) (tAsg te g):=by
 intro pins s σ H D I h
 refine wpAny_Assign_stores (thn (he pins s σ H _ I h) fun v s1 ⟨x,H1,I1,r1,q1⟩=>?_) hs hw
 rw [h1]
 exact thn (hg pins s1 σ H1 x v _ I1 r1 q1) fun _ s2 q=>q
theorem ps_set {i:Nat} {x:Str} {e:Expr} {te:TE} {pos':Pos} (hN:X.N.Nodup) (hi:X.N[i]?=some x) (hx:Loc X.env.scope x) (he:PE X e te) (hs:swapsWith e (some (.Name x pos')) pos.line X.env=pure false:=by rfl) (hf:X.fn x=true∨X.env.scope.names.lookup x=some .local:=by first | exact .inl rfl | exact .inr rfl | assumption):
  PS X (.Assign [.Name x pos'] e pos) (tAsg te (gName i)):=by
 intro pins s σ H D I h
 refine wpAny_Assign_Name (thn (he pins s σ H _ I h) fun v s1 ⟨y,H1,I1,r1,q1⟩=>?_) hs
 exact store_ok I1 hN hi hx r1 (fun s2 I2=>⟨_,H1,I2,q1⟩) hf
end
section
variable {X:Cx} {pos:Pos}
noncomputable def tWhile (c:TT) (tb:TS):TS:=fun D σ H=>∃ W:Nat→St→Hp→Prop,(∃ m,W m σ H)∧∀ m σ H,W m σ H→
 c σ H fun b H1=>if b=true then ∃ N:St→Hp→Prop,(∀ σ' H',N σ' H'→∃ m',m'<m∧W m' σ' H')∧tb {D with nx:=N,ct:=N,bk:=D.nx} σ H1 else D.nx σ H1
theorem ps_while {c:Expr} {body:List Stmt} {tc:TT} {tb:TS} (hp:PassesOwn (model X.prog X.w) X.A X.env X.xe) (hc:PT X c tc) (hb:PSs X body tb):PS X (.While c body [] pos) (tWhile tc tb):=by
 intro pins s σ H D I h
 obtain ⟨W,⟨m0,w0⟩,turn⟩:=h
 refine wpAny_While (codeAny_whileLoop (fun n s'=>∃ σ' H',Inv X pins σ' H' s'∧W n σ' H') ?_ m0 ⟨σ,H,I,w0⟩)
 rintro n s1 ⟨σ1,H1,I1,w1⟩
 refine wpAny_passesOwn hp (thn (hc pins s1 σ1 H1 _ I1 (turn n σ1 H1 w1)) fun b s2 ⟨H2,I2,q2⟩=>?_)
 cases b with
 | true=>
  obtain ⟨N,hN,q2⟩:=q2
  rw [if_pos rfl]
  refine wpAny_passesOwn hp (thn (hb pins s2 σ1 H2 _ I2 q2) fun f s3 q3=>?_)
  cases f with
  | next=>
   obtain ⟨σ3,H3,I3,n3⟩:=q3
   obtain ⟨m',hm,w3⟩:=hN σ3 H3 n3
   exact ⟨m',hm,σ3,H3,I3,w3⟩
  | cont=>
   obtain ⟨σ3,H3,I3,n3⟩:=q3
   obtain ⟨m',hm,w3⟩:=hN σ3 H3 n3
   exact ⟨m',hm,σ3,H3,I3,w3⟩
  | brk=>exact q3
  | ret v=>exact q3
 | false=>
  rw [if_neg Bool.false_ne_true]
  exact wpAny_execs_nil ⟨σ1,H2,I2,q2⟩
end
structure It where
 go:Nat→Hp→Prop
 yld:Nat→Hp→V→Hp→Prop
 stop:Nat→Hp→Prop
noncomputable def FpOk (X:Cx) (pins:List (Addr×Obj)) (H:Hp) (b:Addr):Prop:=
 H b=none∧b≠X.env.locals∧b∉X.fs∧(b∈X.ex∨X.s₀.heap.objs.size≤b)∧(∀ x c,X.env.cells.lookup x=some c→c≠b)∧∀ p∈X.pn++pins,p.1≠b
theorem Inv.fpOk {X:Cx} {pins:List (Addr×Obj)} {σ:St} {H H':Hp} {s:Shared} {b:Addr} (I:Inv X pins σ H s) (hb:s.heap.objs.size≤b) (hn:H' b=none):FpOk X pins H' b:=by
 refine ⟨hn,Nat.ne_of_gt (Nat.lt_of_lt_of_le I.lt hb),I.nofs hb,.inr (Nat.le_trans I.sz hb),fun x c e z=>?_,fun p hp z=>?_⟩
 ·obtain ⟨v,q⟩:=I.cell x c e
  exact absurd (Nat.lt_of_lt_of_le q.lt (by rw [z];exact hb)) (Nat.lt_irrefl _)
 ·exact absurd (Nat.lt_of_lt_of_le (Heap.lt_size (I.pin p hp).1) (by rw [z];exact hb)) (Nat.lt_irrefl _)
structure Turn (P:Program) (w:World) (K:PySem.W.Frag) (tg:Expr) (J:It) (fp:List Addr) (it:Addr) (tn:Nat→Heap→Prop):Prop where
 mem:it∈fp
 obj:∀ i h,tn i h→∀ b∈fp,∃ o,h.get? b=some o∧∀ v,o.data≠.cell v
 keep:∀ i h h',tn i h→(∀ b∈fp,∀ o,h.get? b=some o→h'.get? b=some o)→tn i h'
 item:∀ (X:Cx),X.prog=P→X.w=w→X.K=K→X.calm=true→∀ (i:Nat) (pins:List (Addr×Obj)) (s:Shared) (σ:St) (H:Hp) (E:Value→Shared→Prop),Inv X pins σ H s→(∀ b∈fp,FpOk X pins H b)→tn i s.heap→J.go i H→
  wpAny (model P w) X.A (pyNext (.ref it)) (fun r s1=>∃ u,r=some u∧
   wpAny (model P w) X.A (letOwnedTupleGo tg (.ref it) u) (fun _ s2=>∃ x H',Inv X pins σ H' s2∧RelV x u∧J.yld i H x H'∧tn (i+1) s2.heap∧∀ b∈fp,H' b=none) E s1) E s
 done:∀ (X:Cx),X.prog=P→X.w=w→X.K=K→X.calm=true→∀ (i:Nat) (pins:List (Addr×Obj)) (s:Shared) (σ:St) (H:Hp) (E:Value→Shared→Prop),Inv X pins σ H s→(∀ b∈fp,FpOk X pins H b)→tn i s.heap→J.stop i H→
  wpAny (model P w) X.A (pyNext (.ref it)) (fun r s1=>r=none∧Inv X pins σ H s1) E s
 self:∀ (A:Around) (i:Nat) (s:Shared) (Q:Value→Shared→Prop) (E:Value→Shared→Prop),tn i s.heap→Q (.ref it) s→wpAny (model P w) A (pyIter (.ref it)) Q E s
noncomputable abbrev TI:=St→Hp→(It→Hp→Prop)→Prop
noncomputable def PIE (X:Cx) (pins:List (Addr×Obj)) (σ:St) (tg:Expr) (R:It→Hp→Prop) (itv:Value) (s2:Shared):Prop:=
 ∃ (it:Addr) (fp:List Addr) (tn:Nat→Heap→Prop) (J:It) (H':Hp),itv=.ref it∧Inv X pins σ H' s2∧Turn X.prog X.w X.K tg J fp it tn∧tn 0 s2.heap∧(∀ b∈fp,FpOk X pins H' b)∧R J H'
noncomputable def PI (X:Cx) (tg iter:Expr) (wi:TI):Prop:=
 ∀ (pins:List (Addr×Obj)) (s:Shared) (σ:St) (H:Hp) (R:It→Hp→Prop),Inv X pins σ H s→wi σ H R→
  wpAny (model X.prog X.w) X.A (eval iter X.env) (fun v s1=>wpAny (model X.prog X.w) X.A (pyIter v) (PIE X pins σ tg R) X.xe s1) X.xe s
theorem go_of {M : Model} {A : Around} {E : Value → Shared → Prop} {s : Shared} {tg : Expr} {it : Addr} {u : Value} {o : Obj} {n : String} {vs : Array Value} {Q : Unit → Shared → Prop} (ho : s.heap.get? it = some o) (hc : o.cls = .type n) (hd : o.data = .fields vs)
    (hn : ["enumerate", "zip", "dict_itemiterator", "dict_reverseitemiterator", "odict_iterator", "itertools.zip_longest", "itertools.pairwise"].contains n = false) (hQ : Q () s) : wpAny M A (letOwnedTupleGo tg (.ref it) u) Q E s := by
  unfold letOwnedTupleGo
  cases tg <;> first
    | exact wpAny_pure hQ
    | (cases u <;> first
        | exact wpAny_pure hQ
        | (refine wpAny_bind (wpAny_load ho ?_)
           rw [hc, hd]
           show wpAny M A (if (["enumerate", "zip", "dict_itemiterator", "dict_reverseitemiterator", "odict_iterator", "itertools.zip_longest", "itertools.pairwise"].contains n && vs[0]? == some (rawInt _)) = true then _ else _) Q E s
           rw [if_neg (by intro h; rw [hn, Bool.false_and] at h; cases h)]
           exact wpAny_pure hQ))
noncomputable def Itl (K:PySem.W.Frag) (a:Addr):It:=
 ⟨fun i H=>∃ xs x,SqL K H a xs∧xs[i]?=some x,fun i H x H'=>H'=H∧∀ xs,SqL K H a xs→xs[i]?=some x,fun i H=>∃ xs,SqL K H a xs∧xs.length≤i⟩
noncomputable def Itt (K:PySem.W.Frag) (a:Addr):It:=
 ⟨fun i H=>∃ xs x,SqT K H a xs∧xs[i]?=some x,fun i H x H'=>H'=H∧∀ xs,SqT K H a xs→xs[i]?=some x,fun i H=>∃ xs,SqT K H a xs∧xs.length≤i⟩
noncomputable def Itr (lo:Int) (n:Nat):It:=⟨fun i _=>i<n,fun i H x H'=>H'=H∧x=.int (lo+i),fun i _=>n≤i⟩
theorem turn_list {P:Program} {w:World} {K:PySem.W.Frag} {tg:Expr} (a it:Addr):Turn P w K tg (Itl K a) [it] it (fun i h=>h.IsListIter it a i) where
 mem:=by simp
 obj:=fun i h st b hb=>by
  have e:b=it:=by simpa using hb
  subst e
  obtain ⟨o,e,c,d⟩:=st
  exact ⟨o,e,fun v z=>by rw [d] at z;cases z⟩
 keep:=fun i h h' st k=>st.at fun o e=>k it (by simp) o e
 item:=by
  intro X hP hw hK hc i pins s σ H E I hf st hg
  subst hP hw hK
  obtain ⟨xs,x,hq,hx⟩:=hg
  obtain ⟨its,rv,p,hz⟩:=I.list hq
  obtain ⟨u,hu,ru⟩:=rv.get hx
  obtain ⟨f0,f1,f2,f3,f4,f5⟩:=hf it (by simp)
  refine wpAny_pyNext_list_item st p.isList (x:=u) (by simpa using hu) fun h' st' sb=>?_
  have I1:Inv X pins σ H {s with heap:=h'}:=I.turned (t':=s.toks) (fun b o hb e=>(sb.2 b hb).trans e) f0 f1 f3 f4 f5
  obtain ⟨o,e,c,d⟩:=id st'
  exact ⟨u,rfl,go_of (s:={s with heap:=h'}) e c d (by decide) ⟨x,H,I1,ru,⟨rfl,fun ys hy=>by rw [I.list_inj hy hq];exact hx⟩,st',fun b hb=>(hf b hb).1⟩⟩
 done:=by
  intro X hP hw hK hc i pins s σ H E I hf st hg
  subst hP hw hK
  obtain ⟨xs,hq,hx⟩:=hg
  obtain ⟨its,rv,p,hz⟩:=I.list hq
  obtain ⟨f0,f1,f2,f3,f4,f5⟩:=hf it (by simp)
  have hl:=rv.length
  exact wpAny_pyNext_list_end (I.ok.hd hc) st p.isList (by simp;lia) fun h' eb=>⟨rfl,I.turned (t':=s.toks) (fun b o hb e=>eb b o hb e) f0 f1 f3 f4 f5⟩
 self:=fun _ _ _ _ _ st h=>wpAny_pyIter_listiter st h
theorem turn_tuple {P:Program} {w:World} {K:PySem.W.Frag} {tg:Expr} (a it:Addr):Turn P w K tg (Itt K a) [it] it (fun i h=>h.IsTupleIter it a i) where
 mem:=by simp
 obj:=fun i h st b hb=>by
  have e:b=it:=by simpa using hb
  subst e
  obtain ⟨o,e,c,d⟩:=st
  exact ⟨o,e,fun v z=>by rw [d] at z;cases z⟩
 keep:=fun i h h' st k=>st.at fun o e=>k it (by simp) o e
 item:=by
  intro X hP hw hK hc i pins s σ H E I hf st hg
  subst hP hw hK
  obtain ⟨xs,x,hq,hx⟩:=hg
  obtain ⟨its,rv,p,hz⟩:=I.tuple hq
  obtain ⟨u,hu,ru⟩:=rv.get hx
  obtain ⟨f0,f1,f2,f3,f4,f5⟩:=hf it (by simp)
  refine wpAny_pyNext_tuple_item st (show s.heap.IsTuple a its.toArray from p) (x:=u) (by simpa using hu) fun h' st' sb=>?_
  have I1:Inv X pins σ H {s with heap:=h'}:=I.turned (t':=s.toks) (fun b o hb e=>(sb.2 b hb).trans e) f0 f1 f3 f4 f5
  obtain ⟨o,e,c,d⟩:=id st'
  exact ⟨u,rfl,go_of (s:={s with heap:=h'}) e c d (by decide) ⟨x,H,I1,ru,⟨rfl,fun ys hy=>by rw [I.tuple_inj hy hq];exact hx⟩,st',fun b hb=>(hf b hb).1⟩⟩
 done:=by
  intro X hP hw hK hc i pins s σ H E I hf st hg
  subst hP hw hK
  obtain ⟨xs,hq,hx⟩:=hg
  obtain ⟨its,rv,p,hz⟩:=I.tuple hq
  obtain ⟨f0,f1,f2,f3,f4,f5⟩:=hf it (by simp)
  have hl:=rv.length
  exact wpAny_pyNext_tuple_end (I.ok.hd hc) st (show s.heap.IsTuple a its.toArray from p) (by simp;lia) fun h' eb=>⟨rfl,I.turned (t':=s.toks) (fun b o hb e=>eb b o hb e) f0 f1 f3 f4 f5⟩
 self:=fun _ _ _ _ _ st h=>wpAny_pyIter_tupleiter st h
theorem turn_range {P:Program} {w:World} {K:PySem.W.Frag} {tg:Expr} (it:Addr) (lo:Int) (n:Nat):Turn P w K tg (Itr lo n) [it] it (fun i h=>IsRangeIter h it (lo+(i:Nat) * 1) ((n:Int) - (i:Nat)) 1) where
 mem:=by simp
 obj:=fun i h st b hb=>by
  have e:b=it:=by simpa using hb
  subst e
  exact ⟨_,st,fun v z=>by
   have z':Data.fields _=Data.cell v:=z
   cases z'⟩
 keep:=fun i h h' st k=>k it (by simp) _ st
 item:=by
  intro X hP hw hK hc i pins s σ H E I hf st hg
  subst hP hw hK
  obtain ⟨f0,f1,f2,f3,f4,f5⟩:=hf it (by simp)
  have W:=Walks.range (prog:=X.prog) (w:=X.w) (I.ok.hd hc) it lo 1 n
  refine W.item i s _ _ hg st fun v h' tk hv st' kk=>?_
  obtain ⟨t,rfl⟩:=hv
  have I1:Inv X pins σ H {s with heap:=h',toks:=tk}:=I.turned (fun b o hb e=>kk b o (by simpa using hb) e) f0 f1 f3 f4 f5
  refine ⟨_,rfl,go_of (s:={s with heap:=h',toks:=tk}) (n:="range_iterator") st' rfl rfl (by decide) ⟨.int (lo+i),H,I1,⟨t,?_⟩,⟨rfl,rfl⟩,st',fun b hb=>(hf b hb).1⟩⟩
  rw [Int.mul_one]
 done:=by
  intro X hP hw hK hc i pins s σ H E I hf st hg
  subst hP hw hK
  obtain ⟨f0,f1,f2,f3,f4,f5⟩:=hf it (by simp)
  exact wpAny_pyNext_range_end (I.ok.hd hc) st (by have:n≤i:=hg;lia) fun h' eb=>⟨rfl,I.turned (t':=s.toks) (fun b o hb e=>eb b o hb e) f0 f1 f3 f4 f5⟩
 self:=fun _ _ _ _ _ st h=>wpAny_pyIter_rangeiter st h
end L2
namespace L2
open PySem PySem.Spec PyProof.Rows
section
variable {X:Cx} {tg:Expr}
theorem range_it {pins:List (Addr×Obj)} {σ:St} {H:Hp} {s:Shared} {R:It→Hp→Prop} {E:Value→Shared→Prop} {lo hi:Int} {t u v:Tok} {tk:Nat} (I:Inv X pins σ H s) (h1:-(2 ^ 62)≤lo) (h2:lo<2 ^ 62) (h3:-(2 ^ 62)≤hi) (h4:hi<2 ^ 62)
  (q:R (Itr lo (hi - lo).toNat) H):wpAny (model X.prog X.w) X.A (pyIter (.ref s.heap.objs.size)) (PIE X pins σ tg R) E {s with heap:=s.heap.push {cls:=.type "range",data:=.fields #[.int lo t,.int hi u,.int 1 v]},toks:=tk}:=by
 refine wpAny_pyIter_range (IsRange.new ..) (small_one h1 h2 h3 h4) ?_
 have I1:Inv X pins σ H {s with heap:=s.heap.push {cls:=.type "range",data:=.fields #[.int lo t,.int hi u,.int 1 v]},toks:=tk}:=I.kept fun b o e=>Heap.get?_push_of_some _ e
 refine ⟨(s.heap.push {cls:=.type "range",data:=.fields #[.int lo t,.int hi u,.int 1 v]}).objs.size,[(s.heap.push {cls:=.type "range",data:=.fields #[.int lo t,.int hi u,.int 1 v]}).objs.size],_,_,H,rfl,
  I1.kept (t':=tk) fun b o e=>Heap.get?_push_of_some _ e,turn_range _ lo (hi - lo).toNat,?_,fun b hb=>?_,q⟩
 ·have e1:lo+((0:Nat):Int) * 1=lo:=by simp
  have e2:(((hi - lo).toNat:Nat):Int) - ((0:Nat):Int)=Builtin.Range.rangeSize lo hi 1:=by rw [rangeSize_one];split <;> lia
  show IsRangeIter _ _ (lo+((0:Nat):Int) * 1) ((((hi - lo).toNat:Nat):Int) - ((0:Nat):Int)) 1
  rw [e1,e2]
  exact Heap.get?_push_size _ rfl
 ·have e:b=(s.heap.push {cls:=.type "range",data:=.fields #[.int lo t,.int hi u,.int 1 v]}).objs.size:=by simpa using hb
  subst e
  exact I1.fpOk (Nat.le_refl _) (I1.hok.fresh (Nat.le_refl _))
noncomputable def iRng1 (ta:TA):TI:=fun σ H R=>ta σ H fun vs H1=>∃ j:Int,vs=[.int j]∧-(2 ^ 62)≤j∧j<2 ^ 62∧R (Itr 0 j.toNat) H1
theorem pi_range1 {a:Expr} {ta:TA} {p pos:Pos} (hg:Gl X "range") (hm:X.mg "range"=none) (ha:PA X [a] ta) (hs:starEach [a] X.env=[(false,eval a X.env)]:=by rfl):PI X tg (.Call (.Name "range" p) [a] [] pos) (iRng1 ta):=by
 intro pins s σ H R I h
 refine Call_ (ld_blt I hg hm boot_range (PyProof.Rows.callWith_type1 (thn (ha pos pins s σ H _ I h) fun us s1 ⟨vs,H1,I1,r1,q1⟩=>?_) hs rfl))
 obtain ⟨j,e,q1,q2,q⟩:=q1
 subst e
 cases r1 with
 | cons r rr=>
  cases rr
  obtain ⟨t,rfl⟩:=r
  exact call_range_1 (range_it I1 (by lia) (by lia) q1 q2 (by simpa using q))
noncomputable def tFor (wi:TI) (g:TG) (tb:TS):TS:=fun D σ H=>wi σ H fun J H1=>∃ W:Nat→Nat→St→Hp→Prop,(∃ m,W 0 m σ H1)∧∀ i m σ H,W i m σ H→
 (J.stop i H∧D.nx σ H)∨(J.go i H∧∃ N:St→Hp→Prop,(∀ σ' H',N σ' H'→∃ m',m'<m∧W (i+1) m' σ' H')∧∀ x H',J.yld i H x H'→g x σ H' fun σ2 H2=>tb {D with nx:=N,ct:=N,bk:=D.nx} σ2 H2)
noncomputable def pinsAt (fp:List Addr) (h:Heap):List (Addr×Obj):=fp.filterMap fun b=>(h.get? b).map fun o=>(b,o)
theorem mem_pinsAt {fp:List Addr} {h:Heap} {b:Addr} {o:Obj} (hb:b∈fp) (e:h.get? b=some o):(b,o)∈pinsAt fp h:=List.mem_filterMap.mpr ⟨b,hb,by rw [e];rfl⟩
theorem of_pinsAt {fp:List Addr} {h:Heap} {p:Addr×Obj} (hp:p∈pinsAt fp h):p.1∈fp∧h.get? p.1=some p.2:=by
 obtain ⟨b,hb,e⟩:=List.mem_filterMap.mp hp
 cases q:h.get? b with
 | none=>rw [q] at e;cases e
 | some o=>
  rw [q] at e
  have e':(b,o)=p:=Option.some.inj e
  subst e'
  exact ⟨hb,q⟩
theorem Inv.pinned {pins:List (Addr×Obj)} {σ:St} {H:Hp} {s:Shared} {fp:List Addr} (I:Inv X pins σ H s) (hf:∀ b∈fp,FpOk X pins H b) (ho:∀ b∈fp,∃ o,s.heap.get? b=some o∧∀ v,o.data≠.cell v):Inv X (pins++pinsAt fp s.heap) σ H s:=
 I.pins_of fun p hp=>(List.mem_append.mp hp).elim (fun z=>I.pin p (List.mem_append_right _ z)) fun z=>by
  obtain ⟨hb,e⟩:=of_pinsAt z
  obtain ⟨f0,f1,f2,_⟩:=hf p.1 hb
  obtain ⟨o,e',d⟩:=ho p.1 hb
  rw [e] at e';cases e'
  exact ⟨e,f0,f1,f2,d⟩
theorem Inv.unpinned {pins pl:List (Addr×Obj)} {σ:St} {H:Hp} {s:Shared} (I:Inv X (pins++pl) σ H s):Inv X pins σ H s:=I.pins_of fun p hp=>I.pin p (List.mem_append_right _ (List.mem_append_left _ hp))
theorem ps_for {iter:Expr} {body:List Stmt} {wi:TI} {g:TG} {tb:TS} {pos:Pos} (hp:PassesOwn (model X.prog X.w) X.A X.env X.xe) (hc:X.calm=true) (hi:PI X tg iter wi) (hg:PG X tg g) (hb:PSs X body tb)
  (hs:∀ x,foldedSetIterable iter X.env x=pure x:=by intro _;rfl):PS X (.For tg iter body [] pos) (tFor wi g tb):=by
 intro pins s σ H D I h
 refine wpAny_For (thn (hi pins s σ H _ I h) fun v s1 h1=>thn h1 fun itv s2 h2=>?_) hs
 obtain ⟨it,fp,tn,J,H2,e,I2,T,st2,f2,W,⟨m0,w0⟩,turn⟩:=h2
 subst e
 
 have stat:∀ {H':Hp},(∀ b∈fp,H' b=none)→∀ b∈fp,FpOk X pins H' b:=fun hn b hb=>⟨hn b hb,(f2 b hb).2⟩
 refine codeAny_forLoop_any (fun n s'=>∃ i σ' H',Inv X pins σ' H' s'∧tn i s'.heap∧(∀ b∈fp,H' b=none)∧W i n σ' H') ?_ m0 ⟨0,σ,H2,I2,st2,fun b hb=>(f2 b hb).1,w0⟩
 rintro n s3 ⟨i,σ3,H3,I3,st3,fr3,w3⟩
 rcases turn i n σ3 H3 w3 with ⟨stop,qn⟩ | ⟨go,N,hN,step⟩
 ·refine wpAny_passesOwn hp (thn (T.done X rfl rfl rfl hc i pins s3 σ3 H3 X.xe I3 (stat fr3) st3 stop) fun r s4 ⟨hr,I4⟩=>?_)
  subst hr
  exact wpAny_execs_nil ⟨σ3,H3,I4,qn⟩
 ·refine wpAny_passesOwn hp (thn (T.item X rfl rfl rfl hc i pins s3 σ3 H3 X.xe I3 (stat fr3) st3 go) fun r s4 ⟨u,hr,h4⟩=>?_)
  subst hr
  refine wpAny_passesOwn hp (thn h4 fun _ s5 ⟨x,H5,I5,r5,y5,st5,fr5⟩=>?_)
  have I5':=I5.pinned (stat fr5) (T.obj _ _ st5)
  refine wpAny_passesOwn hp (thn (hg _ s5 σ3 H5 x u _ I5' r5 (step x H5 y5)) fun _ s6 ⟨σ6,H6,I6,q6⟩=>?_)
  refine wpAny_passesOwn hp (thn (hb _ s6 σ6 H6 _ I6 q6) fun f s7 q7=>?_)
  have again:∀ {σ7:St} {H7:Hp},Inv X (pins++pinsAt fp s5.heap) σ7 H7 s7→N σ7 H7→∃ m,m<n∧∃ i σ' H',Inv X pins σ' H' s7∧tn i s7.heap∧(∀ b∈fp,H' b=none)∧W i m σ' H':=fun {σ7 H7} I7 n7=>by
   obtain ⟨m',hm,w7⟩:=hN σ7 H7 n7
   refine ⟨m',hm,i+1,σ7,H7,I7.unpinned,T.keep _ _ _ st5 fun b hb o e=>(I7.pin (b,o) (List.mem_append_right _ (List.mem_append_right _ (mem_pinsAt hb e)))).1,fun b hb=>?_,w7⟩
   obtain ⟨o,e,d⟩:=T.obj _ _ st5 b hb
   exact (I7.pin (b,o) (List.mem_append_right _ (List.mem_append_right _ (mem_pinsAt hb e)))).2.1
  cases f with
  | next=>obtain ⟨σ7,H7,I7,n7⟩:=q7;exact again I7 n7
  | cont=>obtain ⟨σ7,H7,I7,n7⟩:=q7;exact again I7 n7
  | brk=>obtain ⟨σ7,H7,I7,q7⟩:=q7;exact ⟨σ7,H7,I7.unpinned,q7⟩
  | ret v=>obtain ⟨x7,σ7,H7,I7,r7,q7⟩:=q7;exact ⟨x7,σ7,H7,I7.unpinned,r7,q7⟩
end
end L2
namespace L2
open PySem PySem.Spec PyProof.Rows
noncomputable abbrev R2:=V→V→Hp→VK→Prop
noncomputable def OpR (X:Cx) (f:Value→Value→Sem Value) (r:R2):Prop:=
 ∀ (pins:List (Addr×Obj)) (s:Shared) (σ:St) (H:Hp) (x y:V) (v u:Value) (Q:VK),Inv X pins σ H s→RelV x v→RelV y u→r x y H Q→
  wpAny (model X.prog X.w) X.A (f v u) (EP X pins σ Q) X.xe s
noncomputable def UnR (X:Cx) (f:Value→Sem Value) (r:V→Hp→VK→Prop):Prop:=
 ∀ (pins:List (Addr×Obj)) (s:Shared) (σ:St) (H:Hp) (x:V) (v:Value) (Q:VK),Inv X pins σ H s→RelV x v→r x H Q→
  wpAny (model X.prog X.w) X.A (f v) (EP X pins σ Q) X.xe s
noncomputable def CallR (X:Cx) (f:Value) (r:List V→Hp→VK→Prop):Prop:=
 ∀ (pins:List (Addr×Obj)) (s:Shared) (σ:St) (H:Hp) (xs:List V) (us:List Value) (Q:VK),Inv X pins σ H s→Vals xs us→r xs H Q→
  wpAny (model X.prog X.w) X.A (call f us) (EP X pins σ Q) X.xe s
noncomputable def TruR (X:Cx) (r:V→Hp→(Bool→Hp→Prop)→Prop):Prop:=
 ∀ (pins:List (Addr×Obj)) (s:Shared) (σ:St) (H:Hp) (x:V) (v:Value) (Q:Bool→Hp→Prop),Inv X pins σ H s→RelV x v→r x H Q→
  wpAny (model X.prog X.w) X.A (truthy v) (TP X pins σ Q) X.xe s
noncomputable def tOp (r:R2) (ta tb:TE):TE:=fun σ H Q=>ta σ H fun x H1=>tb σ H1 fun y H2=>r x y H2 Q
noncomputable def tUn (r:V→Hp→VK→Prop) (ta:TE):TE:=fun σ H Q=>ta σ H fun x H1=>r x H1 Q
noncomputable def rI (C:Int→Int→Prop) (g:Int→Int→V):R2:=fun x y H Q=>∃ i j,x=.int i∧y=.int j∧C i j∧Q (g i j) H
noncomputable def rI0 (g:Int→Int→V):R2:=fun x y H Q=>∃ i j,x=.int i∧y=.int j∧Q (g i j) H
noncomputable def rU (g:Int→V):V→Hp→VK→Prop:=fun x H Q=>∃ i,x=.int i∧Q (g i) H
section
variable {X:Cx} {a b c:Expr} {ta tb tc:TE} {pos:Pos}
theorem binT (ha:PE X a ta) (hb:PE X b tb) {pins:List (Addr×Obj)} {s:Shared} {σ:St} {H:Hp} {R:V→V→Hp→Prop} (I:Inv X pins σ H s)
  (h:ta σ H fun x H1=>tb σ H1 fun y H2=>R x y H2) {Q:Value→Shared→Prop} {f:Value→Value→Sem Value}
  (hf:∀ v u s2 x y H2,Inv X pins σ H2 s2→RelV x v→RelV y u→R x y H2→wpAny (model X.prog X.w) X.A (f v u) Q X.xe s2):
  wpAny (model X.prog X.w) X.A (eval a X.env) (fun v s₁=>wpAny (model X.prog X.w) X.A (eval b X.env) (fun u s₂=>wpAny (model X.prog X.w) X.A (f v u) Q X.xe s₂) X.xe s₁) X.xe s:=by
 refine thn (ha pins s σ H _ I h) fun v s1 ⟨x,H1,I1,r1,q1⟩=>?_
 refine thn (hb pins s1 σ H1 _ I1 q1) fun u s2 ⟨y,H2,I2,r2,q2⟩=>?_
 exact hf v u s2 x y H2 I2 r1 r2 q2
theorem pe_op {op:Operator} {r:R2} (ho:OpR X (binaryOp op) r) (ha:PE X a ta) (hb:PE X b tb):PE X (.BinOp a op b pos) (tOp r ta tb):=by
 intro pins s σ H Q I h
 exact wpAny_BinOp (binT ha hb I h fun v u s2 x y H2 I2 rx ry q=>ho pins s2 σ H2 x y v u Q I2 rx ry q)
theorem pe_un {op:UnaryOp} {r:V→Hp→VK→Prop} (ho:UnR X (unaryOp op) r) (ha:PE X a ta):PE X (.UnaryOp op a pos) (tUn r ta):=by
 intro pins s σ H Q I h
 exact UnaryOp_ (thn (ha pins s σ H _ I h) fun v s1 ⟨x,H1,I1,r1,q1⟩=>ho pins s1 σ H1 x v Q I1 r1 q1)
theorem opI {f:Value→Value→Sem Value} {C:Int→Int→Prop} {g:Int→Int→Int}
  (rule:∀ (i j:Int) (t u:Tok) (s:Shared) (Q:Value→Shared→Prop) (E:Value→Shared→Prop),C i j→Q (.int (g i j) s.toks) {s with toks:=s.toks+1}→wpAny (model X.prog X.w) X.A (f (.int i t) (.int j u)) Q E s):
  OpR X f (rI C fun i j=>.int (g i j)):=by
 intro pins s σ H x y v u Q I rx ry h
 obtain ⟨i,j,rfl,rfl,hc,q⟩:=h
 obtain ⟨t,rfl⟩:=rx
 obtain ⟨t',rfl⟩:=ry
 exact rule i j t t' s _ _ hc ⟨.int (g i j),H,I.tok _,⟨_,rfl⟩,q⟩
theorem opI0 {f:Value→Value→Sem Value} {g:Int→Int→Int}
  (rule:∀ (i j:Int) (t u:Tok) (s:Shared) (Q:Value→Shared→Prop) (E:Value→Shared→Prop),Q (.int (g i j) s.toks) {s with toks:=s.toks+1}→wpAny (model X.prog X.w) X.A (f (.int i t) (.int j u)) Q E s):
  OpR X f (rI0 fun i j=>.int (g i j)):=by
 intro pins s σ H x y v u Q I rx ry h
 obtain ⟨i,j,rfl,rfl,q⟩:=h
 obtain ⟨t,rfl⟩:=rx
 obtain ⟨t',rfl⟩:=ry
 exact rule i j t t' s _ _ ⟨.int (g i j),H,I.tok _,⟨_,rfl⟩,q⟩
theorem opB0 {f:Value→Value→Sem Value} {g:Int→Int→Bool}
  (rule:∀ (i j:Int) (t u:Tok) (s:Shared) (Q:Value→Shared→Prop) (E:Value→Shared→Prop),Q (.bool (g i j)) s→wpAny (model X.prog X.w) X.A (f (.int i t) (.int j u)) Q E s):
  OpR X f (rI0 fun i j=>.bl (g i j)):=by
 intro pins s σ H x y v u Q I rx ry h
 obtain ⟨i,j,rfl,rfl,q⟩:=h
 obtain ⟨t,rfl⟩:=rx
 obtain ⟨t',rfl⟩:=ry
 exact rule i j t t' s _ _ ⟨.bl (g i j),H,I,rfl,q⟩
noncomputable def CDiv (i j:Int):Prop:=0<j∧j<1073741824
noncomputable def CMul (i j:Int):Prop:=(-(2 ^ 64)<i∧i<2 ^ 64)∨(-(2 ^ 64)<j∧j<2 ^ 64)
theorem CMul.ok {i j:Int} (h:CMul i j):IntMulOk i j:=by
 rcases h with ⟨h1,h2⟩ | ⟨h1,h2⟩
 ·exact .of_left (intBits_le_64 h1 h2)
 ·exact .of_right (intBits_le_64 h1 h2)
theorem op_add:OpR X (binaryOp .Add) (rI0 fun i j=>.int (i+j)):=opI0 fun _ _ _ _ _ _ _ q=>add_int q
theorem op_sub:OpR X (binaryOp .Sub) (rI0 fun i j=>.int (i - j)):=opI0 fun _ _ _ _ _ _ _ q=>sub_int q
theorem op_mul:OpR X (binaryOp .Mult) (rI CMul fun i j=>.int (i * j)):=opI fun _ _ _ _ _ _ _ hc q=>mul_int q hc.ok
theorem op_fdiv:OpR X (binaryOp .FloorDiv) (rI CDiv fun i j=>.int (i / j)):=opI fun i j _ _ _ _ _ hc q=>by
 have h1:(0:Int)<j:=hc.1
 have h2:j<1073741824:=hc.2
 exact floordiv_int (by lia) (by rw [Int.fdiv_eq_ediv_of_nonneg i (by lia)];exact q) (.inl (PyProof.noPylong_small (by lia)))
theorem op_mod:OpR X (binaryOp .Mod) (rI (fun _ j=>0<j) fun i j=>.int (i % j)):=opI fun i j _ _ _ _ _ hc q=>by
 have h1:(0:Int)<j:=hc
 exact mod_int' (by lia) (by rw [Int.fmod_eq_emod_of_nonneg i (by lia)];exact q)
theorem unI {f:Value→Sem Value} {g:Int→Int}
  (rule:∀ (i:Int) (t:Tok) (s:Shared) (Q:Value→Shared→Prop) (E:Value→Shared→Prop),Q (.int (g i) s.toks) {s with toks:=s.toks+1}→wpAny (model X.prog X.w) X.A (f (.int i t)) Q E s):
  UnR X f (rU fun i=>.int (g i)):=by
 intro pins s σ H x v Q I rx h
 obtain ⟨i,rfl,q⟩:=h
 obtain ⟨t,rfl⟩:=rx
 exact rule i t s _ _ ⟨.int (g i),H,I.tok _,⟨_,rfl⟩,q⟩
theorem un_neg:UnR X (unaryOp .USub) (rU fun i=>.int (-i)):=unI fun _ _ _ _ _ q=>neg_int q
end
section
variable {X:Cx} {a b c:Expr} {ta tb tc:TE} {pos:Pos}
theorem fin_bl {pins:List (Addr×Obj)} {σ:St} {H:Hp} {s:Shared} {Q:VK} {k k':Bool} (I:Inv X pins σ H s) (q:Q (.bl k) H) (e:k=k'):EP X pins σ Q (.bool k') s:=by
 subst e
 exact ⟨.bl k,H,I,rfl,q⟩
theorem op_lt:OpR X (compareOp .Lt) (rI0 fun i j=>.bl (decide (i<j))):=opB0 fun _ _ _ _ _ _ _ q=>lt_int q
theorem op_le:OpR X (compareOp .LtE) (rI0 fun i j=>.bl (decide (i≤j))):=opB0 fun _ _ _ _ _ _ _ q=>le_int q
theorem op_gt:OpR X (compareOp .Gt) (rI0 fun i j=>.bl (decide (j<i))):=opB0 fun _ _ _ _ _ _ _ q=>gt_int q
theorem op_ge:OpR X (compareOp .GtE) (rI0 fun i j=>.bl (decide (j≤i))):=opB0 fun _ _ _ _ _ _ _ q=>ge_int q
theorem op_isN : OpR X (compareOp .Is) (fun x y H Q => y = .non ∧ Q (.bl (decide (x = .non))) H) := by
  intro pins s σ H x y v u Q I rx ry h
  obtain ⟨rfl, q⟩ := h
  cases ry
  refine is_none_gen (fin_bl I q ?_)
  cases x <;> first
    | (cases rx; rfl)
    | (obtain ⟨t, rfl⟩ := rx; rfl)
theorem op_notN : OpR X (compareOp .IsNot) (fun x y H Q => y = .non ∧ Q (.bl (!decide (x = .non))) H) := by
  intro pins s σ H x y v u Q I rx ry h
  obtain ⟨rfl, q⟩ := h
  cases ry
  refine isnot_none_gen (fin_bl I q ?_)
  cases x <;> first
    | (cases rx; rfl)
    | (obtain ⟨t, rfl⟩ := rx; rfl)
theorem pe_cmpR {op:CmpOp} {r:R2} (ho:OpR X (compareOp op) r) (ha:PE X a ta) (hb:PE X b tb) (hm:behindInMarks op b=false):PE X (.Compare a [op] [b] pos) (tOp r ta tb):=by
 intro pins s σ H Q I h
 exact wpAny_Compare1 (binT ha hb I h fun v u s2 x y H2 I2 rx ry q=>ho pins s2 σ H2 x y v u Q I2 rx ry q) hm
noncomputable def tTest (t:TE):TT:=fun σ H Q=>t σ H fun x H'=>∃ k,x=.bl k∧Q k H'
theorem pt_cmpR {op:CmpOp} {r:R2} (ho:OpR X (compareOp op) r) (ha:PE X a ta) (hb:PE X b tb) (hm:behindInMarks op b=false):PT X (.Compare a [op] [b] pos) (tTest (tOp r ta tb)):=by
 intro pins s σ H Q I h
 refine wpAny_isTrue_Compare1 (thn (ha pins s σ H _ I h) fun v s1 ⟨x,H1,I1,r1,q1⟩=>thn (hb pins s1 σ H1 _ I1 q1) fun u s2 ⟨y,H2,I2,r2,q2⟩=>
  thn (ho pins s2 σ H2 x y v u _ I2 r1 r2 q2) fun c s3 ⟨z,H3,I3,r3,k,e,q3⟩=>?_) hm
 subst e
 cases r3
 exact wpAny_truthy_bool ⟨H3,I3,q3⟩
noncomputable def TruV (K:PySem.W.Frag) (x:V) (H:Hp) (k:Bool):Prop:=
 match x with
 | .non=>k=false
 | .bl b=>k=b
 | .int i=>k=(i != 0)
 | .str y=>y.length≤sizeLine∧k=((y.length:Int) != 0)
 | .byt y=>y.size≤sizeLine∧k=((y.size:Int) != 0)
 | .ref p=>(∃ xs,SqL K H p xs∧k=!xs.isEmpty)∨(∃ xs,SqT K H p xs∧k=!xs.isEmpty)∨∃ kvs,H p=some (.dK kvs)∧k=!kvs.isEmpty
 | _=>False
theorem isEmpty_kv {κ:Type} {kvs:List (κ×V)} {vs:List (κ×Value)} (r:KV kvs vs):(!vs.isEmpty)=!kvs.isEmpty:=by
 cases r <;> rfl
theorem isEmpty_of {xs:List V} {its:List Value} (r:Vals xs its):(!its.toArray.isEmpty)=!xs.isEmpty:=by
 cases r <;> simp
theorem line63:(sizeLine:Nat)<2 ^ 63:=by rw [sizeLine_eq];decide
theorem tru_ok:TruR X (fun x H Q=>∃ k,TruV X.K x H k∧Q k H):=by
 intro pins s σ H x v Q I rx h
 obtain ⟨k,e,q⟩:=h
 have hl:=line63
 have hs:sizeLine=16777216:=sizeLine_eq
 cases x with
 | non=>
  cases rx
  have e':k=false:=e
  subst e'
  exact truthy_none ⟨H,I,q⟩
 | bl b=>
  cases rx
  have e':k=b:=e
  subst e'
  exact wpAny_truthy_bool ⟨H,I,q⟩
 | int i=>
  obtain ⟨t,rfl⟩:=rx
  have e':k=(i != 0):=e
  subst e'
  exact PySem.P.truthy_int ⟨H,I,q⟩
 | str y=>
  obtain ⟨t,rfl⟩:=rx
  obtain ⟨hy,e'⟩:y.length≤sizeLine∧k=((y.length:Int) != 0):=e
  subst e'
  exact PySem.P.truthy_str (by lia) ⟨H,I.tok _,q⟩
 | byt y=>
  obtain ⟨t,rfl⟩:=rx
  obtain ⟨hy,e'⟩:y.size≤sizeLine∧k=((y.size:Int) != 0):=e
  subst e'
  exact PySem.W.truthy_bytes (by lia) ⟨H,I.tok _,q⟩
 | ref p=>
  cases rx
  have e':(∃ xs,SqL X.K H p xs∧k=!xs.isEmpty)∨(∃ xs,SqT X.K H p xs∧k=!xs.isEmpty)∨∃ kvs,H p=some (.dK kvs)∧k=!kvs.isEmpty:=e
  rcases e' with ⟨xs,hx,e'⟩ | ⟨xs,hx,e'⟩ | ⟨kvs,hx,e'⟩
  ·subst e'
   obtain ⟨its,r,pl,hz⟩:=I.list hx
   have hlen:=r.length
   exact wpAny_truthy_list pl.isList (by simp only [List.size_toArray];lia) ⟨H,I.tok _,by rw [isEmpty_of r];exact q⟩
  ·subst e'
   obtain ⟨its,r,pl,hz⟩:=I.tuple hx
   have hlen:=r.length
   exact truthy_tuple pl (by simp only [List.size_toArray];lia) ⟨H,I.tok _,by rw [isEmpty_of r];exact q⟩
  ·subst e'
   obtain ⟨hz,hS,vs,r,m⟩:kvs.length≤sizeLine∧(p==sysModules)=false∧∃ vs,KV kvs vs∧s.heap.DictOf (mixKind X.prog X.w) p vs:=I.hok p _ hx
   have hlen:kvs.length=vs.length:=Paired.length r
   exact wpAny_truthy_dict hS m (by lia) ⟨H,I.tok _,by rw [isEmpty_kv r];exact q⟩
 | _=>exact (show False from e).elim
theorem pt_truth (ha:PE X a ta) (he:∀ whole,isTrue a X.env whole=(do let v ← whole;standAt a.pos;holding [v] (truthy v))):
  PT X a (fun σ H Q=>ta σ H fun x H'=>∃ k,TruV X.K x H' k∧Q k H'):=by
 intro pins s σ H Q I h
 exact isTrue_plain (thn (ha pins s σ H _ I h) fun v s1 ⟨x,H1,I1,r1,q1⟩=>tru_ok pins s1 σ H1 x v Q I1 r1 q1) (he _)
theorem op_add_str:OpR X (binaryOp .Add) (fun x y H Q=>∃ i j,x=.str i∧y=.str j∧i.length+j.length≤sizeLine∧Q (.str (i++j)) H):=by
 intro pins s σ H x y v u Q I rx ry h
 obtain ⟨i,j,rfl,rfl,hz,q⟩:=h
 obtain ⟨t,rfl⟩:=rx
 obtain ⟨t',rfl⟩:=ry
 exact add_str (fun t' tk=>⟨.str (i++j),H,I.tok _,⟨_,rfl⟩,q⟩) hz
theorem vals1 {x:V} {us:List Value} (r:Vals [x] us):∃ u,us=[u]∧RelV x u:=by
 cases r with
 | cons r1 r2=>cases r2;exact ⟨_,rfl,r1⟩
theorem vals2 {x y:V} {us:List Value} (r:Vals [x,y] us):∃ u w',us=[u,w']∧RelV x u∧RelV y w':=by
 cases r with
 | cons r1 r2=>
  cases r2 with
  | cons r3 r4=>cases r4;exact ⟨_,_,rfl,r1,r3⟩
theorem call_int1:CallR X (.type "int") (fun xs H Q=>(∃ i,xs=[.int i]∧Q (.int i) H)∨∃ k,xs=[.bl k]∧Q (.int (if k then 1 else 0)) H):=by
 intro pins s σ H xs us Q I r h
 rcases h with ⟨i,rfl,q⟩ | ⟨k,rfl,q⟩
 ·obtain ⟨u,rfl,t,rfl⟩:=vals1 r
  exact call_int_int ⟨.int i,H,I,⟨_,rfl⟩,q⟩
 ·obtain ⟨u,rfl,r1⟩:=vals1 r
  cases r1
  exact call_int_bool ⟨.int (if k then 1 else 0),H,I.tok _,⟨_,rfl⟩,q⟩
end
end L2
namespace L2
open PySem PySem.Spec PyProof.Rows
section
variable {prog:Program} {w:World} {A:Around} {E:Value→Shared→Prop} {s:Shared} {K:PySem.W.Frag} {x dx C f:Addr} {mA:Str→Option Value} {name:Str} {v:Value}
end
theorem RelO.some_of {v:V} {o:Option Value} (r:RelO (some v) o):∃ u,o=some u∧RelV v u:=by
 cases o with
 | none=>exact (show False from r).elim
 | some u=>exact ⟨u,rfl,r⟩
section
variable {P:Program} {w:World} {H H':Hp} {h h':Heap} {a C dx:Addr} {fs fs':List (Str×V)}
end
section
variable {X:Cx} {pins:List (Addr×Obj)} {σ:St} {H:Hp} {s:Shared} {a C dx:Addr} {fs:List (Str×V)} {f:Str} {v:V} {A:Around} {E:Value→Shared→Prop}
end
section
variable {X:Cx} {o e value:Expr} {f:Str} {pos pos' tpos:Pos} {ta tv:TE}
end
section
variable {X:Cx} {pins:List (Addr×Obj)} {σ:St} {H:Hp} {s:Shared} {A:Around} {E:Value→Shared→Prop} {Q:Value→Shared→Prop} {c:Value} {b:Bool}
end
end L2
namespace L2
open PySem PySem.Spec PyProof.Rows
structure Room (k:Nat) (A:Around):Prop where
 hd:A.handled=none
 dp:A.depth+3 * k+5<recursionLimit
 un:A.units+16 * k+200<cLine
theorem Room.mono {j k:Nat} {A:Around} (r:Room k A) (h:j≤k):Room j A:=⟨r.hd,by have:=r.dp;lia,by have:=r.un;lia⟩
theorem Room.deeper {k:Nat} {A:Around} (r:Room (k+1) A) (env:Env):Room k (A.deeper env):=
 ⟨r.hd,by have:=r.dp;show A.depth+1+3 * k+5<_;lia,by have:=r.un;show A.units+3+16 * k+200<_;lia⟩
theorem Room.depth {k:Nat} {A:Around} (r:Room k A):A.depth<recursionLimit:=by have:=r.dp;lia
noncomputable def tNil:TA:=fun _ H Q=>Q [] H
noncomputable def tCons (ta:TE) (tr:TA):TA:=fun σ H Q=>ta σ H fun x H1=>tr σ H1 fun xs H2=>Q (x::xs) H2
section
variable {X:Cx} {e:Expr} {es:List Expr} {te:TE} {t:TA} {pos:Pos}
theorem pa_nil:PA X [] tNil:=fun _ _ _ _ H Q I h=>Calls.spliced_nil ⟨[],H,I,.nil,h⟩
theorem pa_cons (ha:PE X e te) (hr:PA X es t) (hs:starEach (e::es) X.env=(false,eval e X.env)::starEach es X.env:=by rfl):PA X (e::es) (tCons te t):=by
 intro pos pins s σ H Q I h
 rw [hs]
 show wpAny _ _ (spliced ((false,eval e X.env)::backTo pos (starEach es X.env))) _ _ s
 refine Calls.spliced_cons (thn (ha pins s σ H _ I h) fun u s1 ⟨x,H1,I1,r1,q1⟩=>?_)
 exact thn (hr pos pins s1 σ H1 _ I1 q1) fun us s2 ⟨xs,H2,I2,r2,q2⟩=>⟨x::xs,H2,I2,.cons r1 r2,q2⟩
noncomputable def tTup (t:TA):TE:=fun σ H Q=>t σ H fun xs H1=>xs.length≤sizeLine∧∀ p,H1 p=none→Q (.ref p) (upd H1 p (.tup xs))
noncomputable def tLst (t:TA):TE:=fun σ H Q=>t σ H fun xs H1=>xs.length≤sizeLine∧∀ p,H1 p=none→Q (.ref p) (upd H1 p (.lst xs))
theorem pe_tup {x1} (h:PA X es t):PE X (.Tuple es x1 pos) (tTup t):=by
 intro pins s σ H Q I hq
 refine wpAny_Tuple_spliced (thn (h pos pins s σ H _ I hq) fun us s1 ⟨xs,H1,I1,r,z,q⟩=>⟨by rw [← r.length];exact z,?_⟩)
 have hf:H1 s1.heap.objs.size=none:=I1.hok.fresh (Nat.le_refl _)
 refine ⟨.ref s1.heap.objs.size,upd H1 s1.heap.objs.size (.tup xs),I1.laid (t':=s1.toks) (fun b u e=>Heap.get?_push_of_some _ e) (Nat.le_refl _) ?_,rfl,q _ hf⟩
 exact ⟨z,us,r,⟨_,Heap.get?_push_size _ rfl,rfl,_,rfl⟩⟩
theorem pe_lst (h:PA X es t):PE X (.List es pos) (tLst t):=by
 intro pins s σ H Q I hq
 refine wpAny_List_spliced (thn (h pos pins s σ H _ I hq) fun us s1 ⟨xs,H1,I1,r,z,q⟩=>⟨by rw [← r.length];exact z,?_⟩)
 have hf:H1 s1.heap.objs.size=none:=I1.hok.fresh (Nat.le_refl _)
 refine ⟨.ref s1.heap.objs.size,upd H1 s1.heap.objs.size (.lst xs),I1.laid (t':=s1.toks) (fun b u e=>Heap.get?_push_of_some _ e) (Nat.le_refl _) ?_,rfl,q _ hf⟩
 exact ⟨z,us,0,r,Heap.get?_push_size _ rfl⟩
end
noncomputable abbrev Sp:=List V→Hp→VK→XK→Prop
noncomputable abbrev CXT:=List Env→Hp→Shared→XK→Value→Shared→Prop
structure Env0 (P:Program) (w:World) (K:PySem.W.Frag) (mg:Str→Option Value) (base:Heap) (A:Around) (outer:List Env) (s:Shared) (H:Hp):Prop where
 frames:A.frames=some outer
 mod:Mod K mg base
 bs:∀ b o,base.get? b=some o→s.heap.get? b=some o∧H b=none
 bsz:base.objs.size≤s.heap.objs.size
 funs:s.heap.FunFrames base outer
 frf:∀ b∈frs outer,H b=none
 hok:HOk P w H s.heap
 bare:AllBare s.gens
noncomputable def CE (outer:List Env) (P:Program) (w:World) (H:Hp) (s:Shared) (Q:VK) (u:Value) (s':Shared):Prop:=
 ∃ v H',s'.os=s.os∧AllBare s'.gens∧Un (frs outer) [] H H' s.heap s'.heap∧HOk P w H' s'.heap∧RelV v u∧Q v H'
noncomputable def CR (CX:CXT) (outer:List Env) (P:Program) (w:World) (H:Hp) (s:Shared) (Q:VK) (E:XK) (r:Result) (s':Shared):Prop:=
 match r with
 | .ok (.ret u)=>CE outer P w H s Q u s'
 | .ok _=>False
 | .error e=>CX outer H s E e s'
structure FnOk (P:Program) (w:World) (K:PySem.W.Frag) (mg:Str→Option Value) (base:Heap) (CX:CXT) (k:Nat) (f:Addr) (fd:FuncData) (ps:List Str) (sp:Sp):Prop where
 len:∀ vs H Q E,sp vs H Q E→vs.length=ps.length
 run:∀ (A:Around) (outer:List Env) (s:Shared) (H:Hp) (args:Args) (us:List Value) (vs:List V) (Q:VK) (E:XK),Room k A→Env0 P w K mg base A outer s H→BindsTo s fd args (ps.zip us)→Vals vs us→sp vs H Q E→
  codeAny (model P w) A (.call (.ref f) args) (CR CX outer P w H s Q E) s
theorem FnOk.mono {P:Program} {w:World} {K:PySem.W.Frag} {mg:Str→Option Value} {base:Heap} {CX:CXT} {j k:Nat} {f:Addr} {fd:FuncData} {ps:List Str} {sp:Sp} (F:FnOk P w K mg base CX j f fd ps sp) (h:j≤k):
  FnOk P w K mg base CX k f fd ps sp:=⟨F.len,fun A outer s H args us vs Q E hr=>F.run A outer s H args us vs Q E (hr.mono h)⟩
theorem FnOk.imp {P:Program} {w:World} {K:PySem.W.Frag} {mg:Str→Option Value} {base:Heap} {CX:CXT} {k:Nat} {f:Addr} {fd:FuncData} {ps:List Str} {sp sp':Sp} (F:FnOk P w K mg base CX k f fd ps sp)
  (h:∀ vs H Q E,sp' vs H Q E→sp vs H Q E):FnOk P w K mg base CX k f fd ps sp':=
 ⟨fun vs H Q E q=>F.len vs H Q E (h _ _ _ _ q),fun A outer s H args us vs Q E hr he hb hv hs=>F.run A outer s H args us vs Q E hr he hb hv (h _ _ _ _ hs)⟩
section
variable {X:Cx} {pins:List (Addr×Obj)} {σ:St} {H:Hp} {s s':Shared}
theorem Inv.env0 (I:Inv X pins σ H s):Env0 X.prog X.w X.K X.mg X.base X.A X.stack s H:=
 ⟨I.ok.frames,I.ok.mod,I.bs,Nat.le_trans I.ok.bsz I.sz,I.stack,I.stkFree,I.hok,I.bare⟩
theorem Inv.after {Q:VK} {u:Value} (I:Inv X pins σ H s) (h:CE X.stack X.prog X.w H s Q u s'):EP X pins σ Q u s':=by
 obtain ⟨v,H',os,bare,un,hok,r,q⟩:=h
 obtain ⟨hh,g,d,t,os'⟩:=s'
 obtain rfl:os'=s.os:=os
 exact ⟨v,H',I.call (h':=hh) (g':=g) (d':=d) (t':=t) (ch:=[]) un hok bare (fun b z=>absurd z (by simp)),r,q⟩
end
noncomputable def tCall (sp:Sp) (dvs:List V) (E:XK) (t:TA):TE:=fun σ H Q=>t σ H fun vs H1=>sp (vs++dvs) H1 Q E
noncomputable def Binds (K:PySem.W.Frag) (fd:FuncData) (ps:List Str) (ds:List Value):Prop:=
 ∀ (s:Shared) (us:List Value),K.In s.heap→(us++ds).length=ps.length→BindsTo s fd ⟨us,[]⟩ (ps.zip (us++ds))
theorem Binds.all {K:PySem.W.Frag} {fd:FuncData} {ps:List Str} (h:∀ us:List Value,us.length=ps.length→bindArgs fd ⟨us,[]⟩=pure (ps.zip us)):Binds K fd ps []:=fun s us _ hl=>by
 rw [List.append_nil] at hl ⊢
 exact .of_eq (h us hl)
noncomputable def Passes (CX:CXT) (X:Cx) (E:XK):Prop:=∀ (pins:List (Addr×Obj)) (σ:St) (H:Hp) (s:Shared) (e:Value) (s':Shared),Inv X pins σ H s→CX X.stack H s E e s'→X.xe e s'
section
variable {X:Cx} {CX:CXT} {k:Nat} {f C:Addr} {fd:FuncData} {ps:List Str} {sp:Sp} {dvs:List V} {ds:List Value} {E:XK} {x m:Str} {p pos apos:Pos} {e o:Expr} {es:List Expr} {ta:TE} {t:TA}
theorem run_fn {pins:List (Addr×Obj)} {σ:St} {H:Hp} {s:Shared} {Q:VK} {us:List Value} {vs:List V} (F:FnOk X.prog X.w X.K X.mg X.base CX k f fd ps sp) (hr:Room k X.A) (hb:Binds X.K fd ps ds) (hd:Vals dvs ds) (hx:Passes CX X E)
  (I:Inv X pins σ H s) (r:Vals vs us) (h:sp (vs++dvs) H Q E):wpAny (model X.prog X.w) X.A (call (.ref f) us) (EP X pins σ Q) X.xe s:=by
 have r2:Vals (vs++dvs) (us++ds):=r.append hd
 have hl:(us++ds).length=ps.length:=by rw [← r2.length];exact F.len _ _ _ _ h
 refine wpAny_call (codeAny_mono (F.run X.A X.stack s H ⟨us,[]⟩ (us++ds) (vs++dvs) Q E hr I.env0 (hb s us I.kIn hl) r2 h) fun r s' hq=>?_)
 cases r with
 | error e=>exact hx pins σ H s e s' I hq
 | ok fl=>
  cases fl with
  | ret u=>exact I.after hq
  | next=>exact False.elim hq
  | brk=>exact False.elim hq
  | cont=>exact False.elim hq
theorem pe_call (F:FnOk X.prog X.w X.K X.mg X.base CX k f fd ps sp) (hr:Room k X.A) (hg:Gl X x) (hm:X.mg x=some (.ref f)) (hk:PySem.W.keepIn X.K (.ref f)=true) (hb:Binds X.K fd ps ds) (hd:Vals dvs ds) (hx:Passes CX X E)
  (ha:PA X (e::es) t) (hdb:(x==("__debug__":Str))=false:=by decide) (he:starEach (e::es) X.env=(false,eval e X.env)::starEach es X.env:=by rfl) (hpl:(backTo pos (starEach es X.env)).any (·.1)=false:=by rfl):
  PE X (.Call (.Name x p) (e::es) [] pos) (tCall sp dvs E t):=by
 intro pins s σ H Q I h
 refine wpAny_Call_Name_kw (ld_glob I hg hm ?_ hdb)
 refine PySem.W.callWith_K (h₀:=X.base) I.ok.mod.kin hk (thn (ha pos pins s σ H _ I h) fun us s1 ⟨vs,H1,I1,r,q⟩=>⟨I1.kIn,?_⟩) he hpl
 exact run_fn F hr hb hd hx I1 r q
end
section
variable {X:Cx} {CX:CXT} {k:Nat} {f C:Addr} {fd:FuncData} {ps ks:List Str} {sp:Sp} {E:XK} {x m:Str} {p pos apos kpos:Pos} {e o:Expr} {es:List Expr} {kws:List Keyword} {te ta:TE} {t tk:TA} {nm:Option Str}
variable {g:List Value→List Value→List Value} {gV:List V→List V→List V}
end
structure FnScope (N P:List Str) (sc:Scope):Prop where
 kind:sc.kind=.function
 co:sc.isCoroutine=false
 gen:sc.isGenerator=false
 nd:N.Nodup
 pre:N.take P.length=P
 par:∀ x∈P,sc.names.lookup x=some .local∨sc.names.lookup x=some .cell
 nofree:∀ y∈sc.names,y.2≠.free
theorem bindL_out {kindOf:Str→Option NameKind} {x:Str}:∀ {binds:List (Str×Value)} {m:Str→Option Value},(∀ v,(x,v)∉binds)→bindL kindOf binds m x=m x
 | [],_,_=>rfl
 | (n,v)::r,m,h=>by
  unfold bindL
  rw [bindL_out fun w hw=>h w (List.mem_cons_of_mem _ hw)]
  split
  ·have:x≠n:=by rintro rfl;exact h v List.mem_cons_self
   simp [this]
  ·rfl
theorem bindC_out {kindOf:Str→Option NameKind} {x:Str}:∀ {binds:List (Str×Value)} {m:Str→Option Value},(∀ v,(x,v)∉binds)→bindC kindOf binds m x=m x
 | [],_,_=>rfl
 | (n,v)::r,m,h=>by
  unfold bindC
  rw [bindC_out fun w hw=>h w (List.mem_cons_of_mem _ hw)]
  split
  ·rfl
  ·have:x≠n:=by rintro rfl;exact h v List.mem_cons_self
   simp [this]
theorem bindL_get {kindOf:Str→Option NameKind} {x:Str} {v:Value}:∀ {P:List Str} {vs:List Value} {i:Nat} {m:Str→Option Value},P.Nodup→P[i]?=some x→vs[i]?=some v→kindOf x=some .local→
  bindL kindOf (P.zip vs) m x=some v
 | [],_,_,_,_,h,_,_=>by simp at h
 | _::_,[],_,_,_,_,h,_=>by simp at h
 | p::P,w::vs,0,m,nd,h1,h2,hk=>by
  simp at h1 h2;subst h1;subst h2
  show bindL kindOf ((p,w)::P.zip vs) m p=_
  unfold bindL
  rw [bindL_out fun v hv=>(List.nodup_cons.mp nd).1 (List.of_mem_zip hv).1,if_pos hk]
  simp
 | p::P,w::vs,i+1,m,nd,h1,h2,hk=>by
  show bindL kindOf ((p,w)::P.zip vs) m x=_
  unfold bindL
  exact bindL_get (i:=i) (List.nodup_cons.mp nd).2 (by simpa using h1) (by simpa using h2) hk
theorem bindC_get {kindOf:Str→Option NameKind} {x:Str} {v:Value}:∀ {P:List Str} {vs:List Value} {i:Nat} {m:Str→Option Value},P.Nodup→P[i]?=some x→vs[i]?=some v→kindOf x≠some .local→
  bindC kindOf (P.zip vs) m x=some v
 | [],_,_,_,_,h,_,_=>by simp at h
 | _::_,[],_,_,_,_,h,_=>by simp at h
 | p::P,w::vs,0,m,nd,h1,h2,hk=>by
  simp at h1 h2;subst h1;subst h2
  show bindC kindOf ((p,w)::P.zip vs) m p=_
  unfold bindC
  rw [bindC_out fun v hv=>(List.nodup_cons.mp nd).1 (List.of_mem_zip hv).1,if_neg hk]
  simp
 | p::P,w::vs,i+1,m,nd,h1,h2,hk=>by
  show bindC kindOf ((p,w)::P.zip vs) m x=_
  unfold bindC
  exact bindC_get (i:=i) (List.nodup_cons.mp nd).2 (by simpa using h1) (by simpa using h2) hk
noncomputable def start (N:List Str) (vs:List V):St:=vs.map some++List.replicate (N.length - vs.length) none
noncomputable def cxOf (CX:CXT) (P:Program) (w:World) (K:PySem.W.Frag) (mg:Str→Option Value) (base:Heap) (N:List Str) (qual:Str) (scope:Scope) (f:Addr) (cd:Value) (A:Around) (outer:List Env) (s:Shared) (H:Hp) (E:XK):Cx where
 prog:=P
 w:=w
 K:=K
 mg:=mg
 base:=base
 A:=A.deeper (envOfC qual scope s.heap.objs.size f cd)
 N:=N
 s₀:=s
 H₀:=H
 env:=envOfC qual scope s.heap.objs.size f cd
 outer:=outer
 stack:=envOfC qual scope s.heap.objs.size f cd::outer
 ex:=[]
 calm:=true
 fn:=fun _=>true
 pn:=[]
 xe:=fun e s'=>wpAny (model P w) (A.deeper (envOfC qual scope s.heap.objs.size f cd)) (leaving (envOfC qual scope s.heap.objs.size f cd) e) (fun _ s''=>CX outer H s E e s'') (fun e' s''=>CX outer H s E e' s'') s'
theorem cell_has {sc:Scope} {n:Nat} {x:Str} (h:sc.names.lookup x=some .cell):∃ c,(cellsFrom n sc.names []).lookup x=some c:=by
 have q:=PySem.W.cellsFrom_some sc.names n [] (.inl h)
 exact Option.isSome_iff_exists.mp q
theorem inv_start {CX:CXT} {P:Program} {w:World} {K:PySem.W.Frag} {mg:Str→Option Value} {base:Heap} {N ps:List Str} {qual:Str} {scope:Scope} {f:Addr} {cd:Value} {A:Around} {outer:List Env} {s s1:Shared} {H:Hp} {E:XK} {us:List Value} {vs:List V}
  (S:FnScope N ps scope) (hd:A.handled=none) (e0:Env0 P w K mg base A outer s H) (hl:vs.length=ps.length) (r:Vals vs us)
  (x:InCallC s s.heap.objs.size (bindL (envOfC qual scope s.heap.objs.size f cd).kindOf (ps.zip us) fun _=>none) (cellsFrom (s.heap.objs.size+1) scope.names []) (bindC (envOfC qual scope s.heap.objs.size f cd).kindOf (ps.zip us) fun _=>none) s1):
  Inv (cxOf CX P w K mg base N qual scope f cd A outer s H E) [] (start N vs) H s1:=by
 have hpl:ps.length≤N.length:=by have:=congrArg List.length S.pre;rw [List.length_take] at this;lia
 obtain ⟨h1,tk,rfl,hk⟩:=x.done
 have noA:∀ b:Addr,b∉(cxOf CX P w K mg base N qual scope f cd A outer s H E).ex:=fun b z=>absurd (show b∈([]:List Addr) from z) (by simp)
 refine ⟨⟨e0.mod,S.kind,rfl,rfl,Nat.le_refl _,fun y z c h1 h2=>?_,fun y hy=>?_,fun y c _ h=>?_,fun _=>hd,Around.frames_deeper e0.frames,.inr ⟨rfl,rfl⟩,fun b z=>absurd z (noA b),e0.bs,e0.bsz,fun b _ _=>noA b,fun b z=>absurd z (noA b),e0.funs,e0.frf⟩,
  rfl,e0.bare,Un.kept hk,⟨_,x.toInCall.ns,fun i y v h1 h2 h3=>?_⟩,fun y c h=>⟨_,x.cell y c h⟩,e0.hok.fresh (Nat.le_refl _),fun y c h=>?_,fun p hp=>absurd (show p∈([]:List (Addr×Obj)) from hp) (by simp),e0.hok.kept hk,?_⟩
 ·exact name_of_addr x.apart (PySem.mem_of_lookup h1) (PySem.mem_of_lookup h2)
 ·have hy:scope.names.lookup y=some .cell∨scope.names.lookup y=some .free:=hy
  rcases hy with hy | hy
  ·exact cell_has hy
  ·exact absurd rfl (S.nofree _ (PySem.mem_of_lookup hy))
 ·exact Nat.le_of_lt (x.above y c (PySem.mem_of_lookup h))
 ·have hi:i<vs.length:=by
   unfold start at h2
   by_cases hi:i<vs.length
   ·exact hi
   ·rw [List.getElem?_append_right (by simpa using hi)] at h2
    rw [List.getElem?_replicate] at h2
    split at h2 <;> cases h2
  have ha:vs[i]?=some v:=by
   unfold start at h2
   rw [List.getElem?_append_left (by simpa using hi),List.getElem?_map] at h2
   cases e:vs[i]? with
   | none=>rw [e] at h2;cases h2
   | some a=>rw [e] at h2;cases h2;rfl
  obtain ⟨u,hu,rv⟩:=r.get ha
  have hp:ps[i]?=some y:=by
   rw [← S.pre,List.getElem?_take_of_lt (by lia)];exact h1
  have ndP:ps.Nodup:=by rw [← S.pre];exact S.nd.sublist (List.take_sublist _ _)
  refine ⟨u,rv,?_⟩
  rcases S.par y (List.mem_of_getElem? hp) with k | k
  ·exact .inl ⟨k,bindL_get ndP hp hu k⟩
  ·obtain ⟨c,e⟩:=cell_has (n:=s.heap.objs.size+1) k
   refine .inr ⟨.inl k,c,e,?_⟩
   have q:=x.cell y c e
   rw [bindC_get ndP hp hu (by show scope.names.lookup y≠_;rw [k];decide)] at q
   exact q
 ·exact e0.hok.fresh (Nat.le_of_lt (x.above y c (PySem.mem_of_lookup h)))
 ·unfold start
  show _=N.length
  rw [List.length_append,List.length_map,List.length_replicate]
  lia
theorem fn_of {CX:CXT} {P:Program} {w:World} {K:PySem.W.Frag} {mg:Str→Option Value} {base:Heap} {k:Nat} {f:Addr} {name qual:Str} {params:Arguments} {body:List Stmt} {scope:Scope} {dV kV doc pm cdv ct oc:Value} {an od:Option Addr}
  {osl:Array (Option Value)} {N ps:List Str} {sp:Sp} (lk:K.lookup f=some ⟨oc,od,.func (PySem.W.fnOf name qual params body scope dV kV doc pm an cdv ct),osl⟩) (hcd:PySem.W.codeIn K cdv qual=true) (S:FnScope N ps scope)
  (len:∀ vs H Q E,sp vs H Q E→vs.length=ps.length)
  (hbody:∀ (A:Around) (outer:List Env) (s:Shared) (H:Hp) (vs:List V) (Q:VK) (E:XK),Room k (A.deeper (envOfC qual scope s.heap.objs.size f cdv))→sp vs H Q E→
   ∃ t,PSs (cxOf CX P w K mg base N qual scope f cdv A outer s H E) body t∧t {nx:=fun _ H'=>Q .non H',rt:=Q} (start N vs) H):
  FnOk P w K mg base CX (k+1) f (PySem.W.fnOf name qual params body scope dV kV doc pm an cdv ct) ps sp:=by
 refine ⟨len,fun A outer s H args us vs Q E hr e0 hb r hsp=>?_⟩
 have hl:=len _ _ _ _ hsp
 have KX:K.In s.heap:=e0.mod.kin.keeps fun b o e=>(e0.bs b o e).1
 have lim:s.heap.NoLimit:=e0.mod.nolimit.keeps fun b o e=>(e0.bs b o e).1
 have hkind:∀ y∈ps.zip us,scope.names.lookup y.1=some .local∨(scope.names.lookup y.1=some .cell∧((cellsFrom (s.heap.objs.size+1) scope.names []).lookup y.1).isSome=true):=fun ⟨n,v⟩ hy=>by
  rcases S.par n (List.of_mem_zip hy).1 with q | q
  ·exact .inl q
  ·exact .inr ⟨q,PySem.W.cellsFrom_some _ _ _ (.inl q)⟩
 refine codeAny_call_function hr.depth (KX _ _ lk) rfl S.co S.gen rfl (PySem.W.codeRec_of KX hcd) (hb _ _ _ _ ?_)
 refine wpAny_newFunctionEnv_cells S.kind hkind fun env he s1 x=>?_
 subst he
 refine ⟨lim.keeps x.toInCall.keep,codeAny_func ?_⟩
 obtain ⟨t,ht,hq⟩:=hbody A outer s H vs Q E (hr.deeper _) hsp
 have I:Inv (cxOf CX P w K mg base N qual scope f cdv A outer s H E) [] (start N vs) H s1:=inv_start S hr.hd e0 hl r x
 refine wpAny_mono (ht [] s1 (start N vs) H _ I hq) (fun fl s' hs=>?_) fun e s' hs=>hs
 have fin:∀ {σ':St} {H':Hp} {v:V} {u:Value},Inv (cxOf CX P w K mg base N qual scope f cdv A outer s H E) [] σ' H' s'→RelV v u→Q v H'→CE outer P w H s Q u s':=
  fun {σ' H' v u} J rv q=>⟨v,H',J.os,J.bare,J.base,J.hok,rv,q⟩
 cases fl with
 | ret u=>
  obtain ⟨v,σ',H',J,rv,q⟩:=hs
  exact fin J rv q
 | next=>
  obtain ⟨σ',H',J,q⟩:=hs
  exact fin (v:=V.non) (u:=Value.none) J rfl q
 | brk=>
  obtain ⟨_,_,_,q⟩:=hs
  exact False.elim q
 | cont=>
  obtain ⟨_,_,_,q⟩:=hs
  exact False.elim q
end L2
namespace L2
open PySem PySem.Spec PyProof.Rows
section
variable {X:Cx} {x:Str} {p pos:Pos} {e:Expr} {es:List Expr} {t:TA} {id T:String} {r:List V→Hp→VK→Prop}
noncomputable def tCB (r:List V→Hp→VK→Prop) (t:TA):TE:=fun σ H Q=>t σ H fun vs H1=>r vs H1 Q
theorem pe_callB (hc:CallR X (.builtin id) r) (hg:Gl X x) (hm:X.mg x=none) (hv:bootBuiltins x=some (.builtin id)) (ha:PA X (e::es) t) (hn:x≠"__name__":=by decide) (hdb:(x==("__debug__":Str))=false:=by decide)
  (he:starEach (e::es) X.env=(false,eval e X.env)::starEach es X.env:=by rfl) (hpl:(backTo pos (starEach es X.env)).any (·.1)=false:=by rfl):PE X (.Call (.Name x p) (e::es) [] pos) (tCB r t):=by
 intro pins s σ H Q I h
 refine wpAny_Call_Name_kw (ld_blt I hg hm hv ?_ hn hdb)
 exact PyProof.Rows.callWith_builtin1 (thn (ha pos pins s σ H _ I h) fun us s1 ⟨vs,H1,I1,r1,q1⟩=>hc pins s1 σ H1 vs us Q I1 r1 q1) he hpl
theorem pe_callTy (hc:CallR X (.type T) r) (hg:Gl X x) (hm:X.mg x=none) (hv:bootBuiltins x=some (.type T)) (ha:PA X (e::es) t) (hn:x≠"__name__":=by decide) (hdb:(x==("__debug__":Str))=false:=by decide)
  (he:starEach (e::es) X.env=(false,eval e X.env)::starEach es X.env:=by rfl) (hpl:(backTo pos (starEach es X.env)).any (·.1)=false:=by rfl):PE X (.Call (.Name x p) (e::es) [] pos) (tCB r t):=by
 intro pins s σ H Q I h
 refine wpAny_Call_Name_kw (ld_blt I hg hm hv ?_ hn hdb)
 exact PyProof.Rows.callWith_type1 (thn (ha pos pins s σ H _ I h) fun us s1 ⟨vs,H1,I1,r1,q1⟩=>hc pins s1 σ H1 vs us Q I1 r1 q1) he hpl
end
end L2
namespace HT
open PySem PyProof.Rows
section
open PySem.SeqAt
open PySem.AutoSeq1 (wpAny_loadPart')
open PySem.MeetsSeq PySem.MeetsSeq2 PySem.MeetsSeq3
end
section
variable {prog:Program} {w:World} {A:Around} {E:Value→Shared→Prop} {s:Shared}
noncomputable def sIx (n d:Nat):Option Int→Nat
 | none=>d
 | some v=>if v<0 then (v+(n:Int)).toNat else min v.toNat n
theorem sIx_le (n d:Nat) (hd:d≤n) (o:Option Int):sIx n d o≤n:=by
 cases o with
 | none=>exact hd
 | some v=>
  show (if v<0 then (v+(n:Int)).toNat else min v.toNat n)≤n
  by_cases hv:v<0
  ·rw [if_pos hv];lia
  ·rw [if_neg hv];exact Nat.min_le_right _ _
theorem clip_eq (v:Int) (n d:Nat):(if v<0 then max (v+(n:Int)) 0 else min v (n:Int))=((sIx n d (some v):Nat):Int):=by
 show (if v<0 then max (v+(n:Int)) 0 else min v (n:Int))=(((if v<0 then (v+(n:Int)).toNat else min v.toNat n):Nat):Int)
 by_cases hv:v<0
 ·simp only [if_pos hv];lia
 ·simp only [if_neg hv];lia
theorem adjust_gen (lo hi:Option Int) (n:Nat):Builtin.Slice.sliceAdjust lo hi 1 (n:Int)=(((sIx n 0 lo:Nat):Int),((sIx n n hi:Nat):Int)):=by
 have h1:¬ ((1:Int)<0):=by lia
 unfold Builtin.Slice.sliceAdjust
 simp only [h1,if_false]
 refine Prod.ext ?_ ?_
 ·cases lo with
  | none=>rfl
  | some v=>exact clip_eq v n 0
 ·cases hi with
  | none=>rfl
  | some v=>exact clip_eq v n n
theorem places_gen (i j:Nat):Builtin.Slice.slicePlaces (i:Int) (j:Int) 1=j - i:=by
 unfold Builtin.Slice.slicePlaces
 have h1:(1:Int)>0:=by lia
 simp only [h1,if_true,Int.ediv_one]
 split <;> lia
theorem slicePart_ {v:Value} {o:Option Int} {Q:Option Int→Shared→Prop} (p:IsPart v o) (h:Q o s):wpAny (model prog w) A (Builtin.Slice.slicePartIndex v) Q E s:=by
 cases p with
 | none=>exact slicePart_none h
 | int i t=>exact slicePart_int h
theorem sliceApplied_gen {sl:Addr} {vl vu:Value} {lo hi:Option Int} {n:Nat} {Q:Int×Int×Nat→Shared→Prop} (hs:s.heap.IsSliceOf sl vl vu .none) (pl:IsPart vl lo) (pu:IsPart vu hi)
  (h:Q (((sIx n 0 lo:Nat):Int),1,sIx n n hi - sIx n 0 lo) s):wpAny (model prog w) A (Builtin.Slice.sliceApplied (.ref sl) (pure (n:Int))) Q E s:=by
 obtain ⟨os,hos,hcs,hds⟩:=id hs
 unfold Builtin.Slice.sliceApplied Builtin.Slice.sliceFields
 refine wpAny_bind (wpAny_bind (wpAny_field hos hds (x:=vl) rfl (wpAny_bind (wpAny_field hos hds (x:=vu) rfl (wpAny_bind (wpAny_field hos hds (x:=.none) rfl (wpAny_pure ?_)))))))
 refine wpAny_bind (slicePart_none ?_)
 show wpAny _ _ (if ((1:Int)==0)=true then _ else _) _ _ s
 rw [if_neg (by decide)]
 refine wpAny_bind (slicePart_ pl (wpAny_bind (slicePart_ pu (wpAny_bind (wpAny_pure ?_)))))
 show wpAny _ _ (match Builtin.Slice.sliceAdjust lo hi 1 (n:Int) with | (lo,hi)=>pure (lo,(1:Int),Builtin.Slice.slicePlaces lo hi 1)) _ _ s
 rw [adjust_gen lo hi n]
 show wpAny _ _ (pure (((sIx n 0 lo:Nat):Int),(1:Int),Builtin.Slice.slicePlaces ((sIx n 0 lo:Nat):Int) ((sIx n n hi:Nat):Int) 1)) _ _ s
 rw [places_gen]
 exact wpAny_pure h
theorem pick_gen (xs:Array Value) (i k:Nat):((List.range k).filterMap fun (m:Nat)=>xs[((i:Int)+(m:Int) * 1).toNat]?).toArray=((xs.toList.drop i).take k).toArray:=by
 have e:(fun (m:Nat)=>xs[((i:Int)+(m:Int) * 1).toNat]?)=fun m=>xs[i+m]?:=by
  funext m
  have:((i:Int)+(m:Int) * 1).toNat=i+m:=by lia
  rw [this]
 rw [e]
 have:=pick_run xs i k
 rw [List.filterMap_map] at this
 have e2:((fun x=>xs[x]?)∘fun x=>i+x)=fun m=>xs[i+m]?:=rfl
 rw [e2] at this
 rw [this]
theorem getItem_tuple_cut {t sl:Addr} {items:Array Value} {vl vu:Value} {lo hi:Option Int} {Q:Value→Shared→Prop} (ht:IsTup s.heap t items) (hs:s.heap.IsSliceOf sl vl vu .none) (pl:IsPart vl lo) (pu:IsPart vu hi)
  (hw:¬ (sIx items.size 0 lo=0∧sIx items.size items.size hi=items.size))
  (h:Q (.ref s.heap.objs.size) {s with heap:=s.heap.push {cls:=.type "tuple",data:=.seq ((items.toList.drop (sIx items.size 0 lo)).take (sIx items.size items.size hi - sIx items.size 0 lo)).toArray}})
  (hsz:items.size≤sizeLine):wpAny (model prog w) A (getItem (.ref t) (.ref sl)) Q E s:=by
 have htake:sizeOk (.seq ((items.toList.drop (sIx items.size 0 lo)).take (sIx items.size items.size hi - sIx items.size 0 lo)).toArray):=by
  show ((items.toList.drop (sIx items.size 0 lo)).take (sIx items.size items.size hi - sIx items.size 0 lo)).toArray.size≤sizeLine
  rw [List.size_toArray,List.length_take,List.length_drop,Array.length_toList]
  lia
 have hj:sIx items.size items.size hi≤items.size:=sIx_le _ _ (Nat.le_refl _) hi
 obtain ⟨os,hos,hcs,hds⟩:=id hs
 have hTs:s.TypeIs (.ref sl) "slice":=⟨os,hos,hcs⟩
 unfold getItem
 try with_reducible refine wpAny_holding ?_
 first | refine wpAny_bind (wpAny_pure ?_) | skip
 refine wpAny_bind (wpAny_sequenceKey ht.typeIs (by decide) ?_)
 refine wpAny_bind (wpAny_callSpecial?_slot (name:=Str.ofString "__getitem__") ht.typeIs PyProof.Rows.slot_tuple_getitem
  (wpAny_call_entry PyProof.Rows.slot_tuple_getitem ht.typeIs entry_tuple_getitem ?_ (args_tuple_getitem _ _)))
 show wpAny _ _ (Builtin.Tuple.tupleItemsOf (.ref t) >>= _) _ _ s
 refine wpAny_bind (tupleItemsOf_ ht ?_)
 refine wpAny_bind (wpAny_typeOf hTs ?_)
 rw [if_pos (by decide)]
 refine wpAny_bind (sliceApplied_gen hs pl pu ?_)
 have hno:¬ ((((sIx items.size 0 lo:Nat):Int)==0&&(1:Int)==1&&(sIx items.size items.size hi - sIx items.size 0 lo)==items.size)=true):=by
  intro q
  rw [Bool.and_eq_true,Bool.and_eq_true] at q
  have q1:((sIx items.size 0 lo:Nat):Int)=0:=eq_of_beq q.1.1
  have q2:sIx items.size items.size hi - sIx items.size 0 lo=items.size:=eq_of_beq q.2
  exact hw ⟨by lia,by lia⟩
 show wpAny _ _ (if (((sIx items.size 0 lo:Nat):Int)==0&&(1:Int)==1&&(sIx items.size items.size hi - sIx items.size 0 lo)==items.size)=true then _ else _) _ _ s
 rw [if_neg hno,pick_gen]
 first
  | exact wpAny_bind (m:=Builtin.Tuple.tupleExact _) (wpAny_newObj_type (wpAny_pure ⟨_,rfl,wpAny_pure h⟩) htake)
  | exact wpAny_bind (m:=Builtin.Tuple.tupleExact _) (wpAny_newObj_type (wpAny_bind (wpAny_pure (wpAny_pure ⟨_,rfl,wpAny_pure h⟩))) htake)
  | exact wpAny_bind (wpAny_bind (m:=Builtin.Tuple.tupleExact _) (wpAny_newObj_type (wpAny_pure (wpAny_pure ⟨_,rfl,wpAny_pure h⟩)) htake))
  | exact wpAny_bind (wpAny_bind (m:=Builtin.Tuple.tupleExact _) (wpAny_newObj_type (wpAny_pure ⟨_,rfl,wpAny_pure h⟩) htake))
end
end HT
namespace L2
open PySem PySem.Spec PyProof.Rows
noncomputable abbrev TO:=St→Hp→(Option Int→Hp→Prop)→Prop
noncomputable def PO (X:Cx) (e:Option Expr) (t:TO):Prop:=
 ∀ (pins:List (Addr×Obj)) (s:Shared) (σ:St) (H:Hp) (Q:Option Int→Hp→Prop),Inv X pins σ H s→t σ H Q→
  wpAny (model X.prog X.w) X.A (evalPart e X.env) (fun u s'=>∃ o H',Inv X pins σ H' s'∧IsPart u o∧Q o H') X.xe s
noncomputable def tNoPart:TO:=fun _ H Q=>Q none H
section
variable {X:Cx} {e:Expr} {te:TE} {lo hi:Option Expr} {tl th:TO} {pos p2:Pos}
theorem po_none:PO X none tNoPart:=by
 intro pins s σ H Q I h
 rw [evalPart_none]
 exact wpAny_pure ⟨none,H,I,.none,h⟩
noncomputable def SlR (X:Cx) (r:V→Option Int→Option Int→Hp→VK→Prop):Prop:=
 ∀ (pins:List (Addr×Obj)) (s:Shared) (σ:St) (H:Hp) (x:V) (v vl vu:Value) (lo hi:Option Int) (sl:Addr) (Q:VK),Inv X pins σ H s→RelV x v→s.heap.IsSliceOf sl vl vu .none→IsPart vl lo→IsPart vu hi→r x lo hi H Q→
  ∃ T id,typeLookup (.type T) "__getitem__"=pure (some (.builtin id))∧s.TypeIs v T∧wpAny (model X.prog X.w) X.A (getItem v (.ref sl)) (EP X pins σ Q) X.xe s
noncomputable def tSl (r:V→Option Int→Option Int→Hp→VK→Prop) (te:TE) (tl th:TO):TE:=fun σ H Q=>te σ H fun x H1=>tl σ H1 fun l H2=>th σ H2 fun u H3=>r x l u H3 Q
theorem pe_slice {r:V→Option Int→Option Int→Hp→VK→Prop} (hr:SlR X r) (he:PE X e te) (hl:PO X lo tl) (hu:PO X hi th):PE X (.Subscript e (.Slice lo hi none p2) pos) (tSl r te tl th):=by
 intro pins s σ H Q I h
 refine Subscript_ (thn (he pins s σ H _ I h) fun v s1 ⟨x,H1,I1,r1,q1⟩=>?_)
 refine wpAny_Slice (thn (hl pins s1 σ H1 _ I1 q1) fun vl s2 ⟨l,H2,I2,pl,q2⟩=>thn (hu pins s2 σ H2 _ I2 q2) fun vu s3 ⟨u,H3,I3,pu,q3⟩=>?_)
 rw [evalPart_none]
 refine wpAny_pure ?_
 have I4:Inv X pins σ H3 {s3 with heap:=s3.heap.push {cls:=.type "slice",data:=.fields #[vl,vu,.none]}}:=I3.kept (t':=s3.toks) fun b ob q=>Heap.get?_push_of_some _ q
 obtain ⟨T,id,hT,ht,hg⟩:=hr pins {s3 with heap:=s3.heap.push {cls:=.type "slice",data:=.fields #[vl,vu,.none]}} σ H3 x v vl vu l u s3.heap.objs.size Q I4 r1 (Heap.IsSliceOf.new ..) pl pu q3
 show wpAny (model X.prog X.w) X.A (subscriptTail e (.Slice lo hi none p2) v (.ref s3.heap.objs.size)) (EP X pins σ Q) X.xe {s3 with heap:=s3.heap.push {cls:=.type "slice",data:=.fields #[vl,vu,.none]}}
 exact tail_any (ops:=[.ref s3.heap.objs.size,v]) ht hT hg (by with_unfolding_all rfl)
noncomputable def cutV (xs:List V) (lo hi:Option Int):List V:=(xs.drop (HT.sIx xs.length 0 lo)).take (HT.sIx xs.length xs.length hi - HT.sIx xs.length 0 lo)
theorem cutV_length (xs:List V) (lo hi:Option Int):(cutV xs lo hi).length≤xs.length:=by
 unfold cutV
 rw [List.length_take,List.length_drop]
 lia
noncomputable def rSlT (K:PySem.W.Frag):V→Option Int→Option Int→Hp→VK→Prop:=fun x lo hi H Q=>∃ a xs,x=.ref a∧SqT K H a xs∧
 ¬ (HT.sIx xs.length 0 lo=0∧HT.sIx xs.length xs.length hi=xs.length)∧∀ p,H p=none→Q (.ref p) (upd H p (.tup (cutV xs lo hi)))
theorem sl_tup:SlR X (rSlT X.K):=by
 intro pins s σ H x v vl vu lo hi sl Q I rx hs pl pu h
 obtain ⟨a,xs,rfl,hx,hw,q⟩:=h
 cases rx
 obtain ⟨its,r,ht,hz⟩:=I.tuple hx
 have hlen:its.toArray.size=xs.length:=by rw [List.size_toArray];exact r.length.symm
 refine ⟨"tuple",_,PyProof.Rows.slot_tuple_getitem.lookup,ht.typeIs,?_⟩
 refine HT.getItem_tuple_cut ht hs pl pu (by rw [hlen];exact hw) ?_ (by rw [hlen];exact hz)
 rw [hlen]
 refine ⟨.ref s.heap.objs.size,_,I.laid (t':=s.toks) (o:=.tup (cutV xs lo hi)) (fun b ob q=>Heap.get?_push_of_some _ q) (Nat.le_refl _) ?_,rfl,q _ (I.hok.fresh (Nat.le_refl _))⟩
 exact ⟨Nat.le_trans (cutV_length xs lo hi) hz,_,(r.drop (HT.sIx xs.length 0 lo)).take (HT.sIx xs.length xs.length hi - HT.sIx xs.length 0 lo),IsTup.new _ _⟩
theorem Vals.nil_iff {xs:List V} {us:List Value} (r:Vals xs us):us=[]↔xs=[]:=by
 cases r with
 | nil=>simp
 | cons _ _=>simp
end
end L2
namespace L2
open PySem PySem.Spec PyProof.Rows
noncomputable def ixN (n:Nat) (i:Int):Option Nat:=if 0≤i then (if i<n then some i.toNat else none) else if -(n:Int)≤i then some (i+n).toNat else none
noncomputable def atI {α:Type} (xs:List α) (i:Int):Option α:=(ixN xs.length i).bind fun j=>xs[j]?
theorem ixN_seq {n:Nat} {i:Int} {j:Nat} (h:ixN n i=some j):seqIndex? i n=some j∧j<n∧-(n:Int)≤i∧i<n:=by
 unfold ixN at h
 by_cases h0:0≤i
 ·rw [if_pos h0] at h
  by_cases h1:i<n
  ·rw [if_pos h1] at h
   have e:i.toNat=j:=Option.some.inj h
   exact ⟨by rw [seqIndex_of h0 h1,e],by lia,by lia,h1⟩
  ·rw [if_neg h1] at h;cases h
 ·rw [if_neg h0] at h
  by_cases h1:-(n:Int)≤i
  ·rw [if_pos h1] at h
   have e:(i+n).toNat=j:=Option.some.inj h
   exact ⟨by rw [seqIndex_neg (by lia) h1,e],by lia,h1,by lia⟩
  ·rw [if_neg h1] at h;cases h
theorem atI_get {α:Type} {xs:List α} {i:Int} {v:α} (h:atI xs i=some v):∃ j,seqIndex? i xs.length=some j∧xs[j]?=some v∧j<xs.length∧-(xs.length:Int)≤i∧i<xs.length:=by
 unfold atI at h
 cases e:ixN xs.length i with
 | none=>rw [e] at h;cases h
 | some j=>
  rw [e] at h
  obtain ⟨h1,h2,h3,h4⟩:=ixN_seq e
  exact ⟨j,h1,h,h2,h3,h4⟩
noncomputable def PlainIx (b:Expr):Prop:=∀ o i,subscripted b false o i=operate [o,i] (getItem o i)
noncomputable def IxR (X:Cx) (r:R2):Prop:=
 ∀ (value slice:Expr) (pins:List (Addr×Obj)) (s:Shared) (σ:St) (H:Hp) (x y:V) (v u:Value) (Q:VK),Inv X pins σ H s→RelV x v→RelV y u→r x y H Q→
  subscripted slice false v u=operate [v,u] (getItem v u)→wpAny (model X.prog X.w) X.A (subscriptTail value slice v u) (EP X pins σ Q) X.xe s
noncomputable def MtR (X:Cx) (id:String) (r:V→List V→Hp→VK→Prop):Prop:=
 ∀ (pins:List (Addr×Obj)) (s:Shared) (σ:St) (H:Hp) (x:V) (xs:List V) (v:Value) (us:List Value) (Q:VK),Inv X pins σ H s→RelV x v→Vals xs us→r x xs H Q→
  wpAny (model X.prog X.w) X.A (call (.builtin id) (v::us)) (EP X pins σ Q) X.xe s
section
variable {X:Cx} {a b:Expr} {ta tb:TE} {pos:Pos}
theorem pe_ix {r:R2} (hr:IxR X r) (ha:PE X a ta) (hb:PE X b tb) (hs:PlainIx b):PE X (.Subscript a b pos) (tOp r ta tb):=by
 intro pins s σ H Q I h
 exact Subscript_ (binT ha hb I h fun v u s2 x y H2 I2 rx ry q=>hr a b pins s2 σ H2 x y v u Q I2 rx ry q (hs _ _))
noncomputable def rIxL (K:PySem.W.Frag):R2:=fun x y H Q=>∃ p xs i v,x=.ref p∧y=.int i∧SqL K H p xs∧atI xs i=some v∧Q v H
noncomputable def rIxT (K:PySem.W.Frag):R2:=fun x y H Q=>∃ p xs i v,x=.ref p∧y=.int i∧SqT K H p xs∧atI xs i=some v∧Q v H
noncomputable def rIxS:R2:=fun x y H Q=>∃ z i c,x=.str z∧y=.int i∧z.length≤sizeLine∧atI z.cps.toList i=some c∧Q (.str ⟨#[c]⟩) H
theorem ix_list:IxR X (rIxL X.K):=by
 intro value slice pins s σ H x y v u Q I rx ry h hs
 obtain ⟨p,xs,i,z,rfl,rfl,hq,he,q⟩:=h
 cases rx
 obtain ⟨t,rfl⟩:=ry
 obtain ⟨its,r,pl,hz⟩:=I.list hq
 obtain ⟨j,h1,h2,h3,h4,h5⟩:=atI_get he
 obtain ⟨w,ew,rw'⟩:=r.get h2
 have hl:=r.length
 have hn:=line63
 have fin:EP X pins σ Q w s:=⟨z,H,I,rw',q⟩
 by_cases h0:0≤i
 ·have hj:i.toNat=j:=by
   rw [seqIndex_of h0 h5] at h1
   exact Option.some.inj h1
  exact item_listR pl.isList h0 (by lia) (by rw [hj];simpa using ew) fin hs
 ·have hj:(i+(its.toArray.size:Int)).toNat=j:=by
   rw [seqIndex_neg (by lia) h4] at h1
   rw [List.size_toArray,← hl]
   exact Option.some.inj h1
  exact subscriptTail_builtinR (x:=w) pl.isList.typeIs slot_list_getitem.lookup
   (wpAny_getItem_list_neg (Q:=fun r s'=>r=w∧EP X pins σ Q r s') pl.isList (by lia) (by rw [List.size_toArray] <;> lia) (by lia) (by rw [hj];simpa using ew) ⟨rfl,fin⟩) hs
theorem ix_tup:IxR X (rIxT X.K):=by
 intro value slice pins s σ H x y v u Q I rx ry h hs
 obtain ⟨p,xs,i,z,rfl,rfl,hq,he,q⟩:=h
 cases rx
 obtain ⟨t,rfl⟩:=ry
 obtain ⟨its,r,pl,hz⟩:=I.tuple hq
 obtain ⟨j,h1,h2,h3,h4,h5⟩:=atI_get he
 obtain ⟨w,ew,rw'⟩:=r.get h2
 have hl:=r.length
 have hn:=line63
 have fin:EP X pins σ Q w s:=⟨z,H,I,rw',q⟩
 exact subscriptTail_builtinR (x:=w) pl.typeIs slot_tuple_getitem.lookup
  (getItem_tuple (j:=j) (Q:=fun r s'=>r=w∧EP X pins σ Q r s') pl (by lia) (by lia) (by rw [List.size_toArray,← hl];exact h1) (by simpa using ew) ⟨rfl,fin⟩) hs
theorem ix_str:IxR X rIxS:=by
 intro value slice pins s σ H x y v u Q I rx ry h hs
 obtain ⟨z,i,c,rfl,rfl,hz,he,q⟩:=h
 obtain ⟨t,rfl⟩:=rx
 obtain ⟨t',rfl⟩:=ry
 obtain ⟨j,h1,h2,h3,h4,h5⟩:=atI_get he
 have hl:z.cps.toList.length=z.length:=by simp [Str.length]
 rw [hl] at h1 h4 h5
 have hn:=line63
 exact tail_any (typeIs_str s z t) slot_str_getitem.lookup (getItem_str (c:=c) (by
  have e1:decide (i < -(2 ^ 63:Int))=false:=decide_eq_false (by lia)
  have e2:decide (i≥2 ^ 63)=false:=decide_eq_false (by lia)
  rw [e1,e2,Bool.or_false]) (by rw [h1];simpa using h2) ⟨.str ⟨#[c]⟩,H,I.tok _,⟨_,rfl⟩,q⟩) hs
theorem mapSeq_set (its:List Value) (n j:Nat) (u:Value):Obj.mapSeq (·.setIfInBounds j u) {cls:=.type "list",data:=.seq its.toArray n}={cls:=.type "list",data:=.seq (its.set j u).toArray n}:=by
 simp [Obj.mapSeq]
theorem Inv.lst {pins:List (Addr×Obj)} {σ:St} {H:Hp} {s:Shared} {p:Addr} {xs:List V} (I:Inv X pins σ H s) (h:H p=some (.lst xs)):
  ∃ (its:List Value) (n:Nat),Vals xs its∧s.heap.get? p=some {cls:=.type "list",data:=.seq its.toArray n}∧xs.length≤sizeLine:=by
 obtain ⟨z,its,n,r,e⟩:=I.hok p _ h
 exact ⟨its,n,r,e,z⟩
theorem Inv.lstUpd {pins:List (Addr×Obj)} {σ:St} {H:Hp} {s:Shared} {p:Addr} {xs ys:List V} {its its':List Value} {n n':Nat} {f:Obj→Obj} (I:Inv X pins σ H s) (h:H p=some (.lst xs))
  (ho:s.heap.get? p=some {cls:=.type "list",data:=.seq its.toArray n}) (hf:f {cls:=.type "list",data:=.seq its.toArray n}={cls:=.type "list",data:=.seq its'.toArray n'}) (r:Vals ys its') (hz:ys.length≤sizeLine) (t:Nat):
  Inv X pins σ (upd H p (.lst ys)) {s with heap:=s.heap.update p f,toks:=t}:=by
 have e:(s.heap.update p f).get? p=some {cls:=.type "list",data:=.seq its'.toArray n'}:=by
  rw [Heap.get?_update_self f ho (by rw [hf] <;> rfl),hf]
 refine I.write (x:=p) (e:=p) (by rw [h];trivial) (.inl rfl) (fun b u hb q=>(Heap.get?_update_other _ _ (Ne.symm hb)).trans q) ⟨_,e⟩ ?_
 exact ⟨hz,its',n',r,e⟩
noncomputable def rSetL:V→V→V→Hp→(Hp→Prop)→Prop:=fun o i v H Q=>∃ p xs k j,o=.ref p∧i=.int k∧H p=some (.lst xs)∧ixN xs.length k=some j∧Q (upd H p (.lst (xs.set j v)))
theorem set_list:PSet X rSetL:=by
 intro pins s σ H o i v ov iv u Q I ro ri rv h
 obtain ⟨p,xs,k,j,rfl,rfl,hp,hj,q⟩:=h
 cases ro
 obtain ⟨t,rfl⟩:=ri
 obtain ⟨its,n,r,ho,hz⟩:=I.lst hp
 obtain ⟨h1,h2,h3,h4⟩:=ixN_seq hj
 have hl:=r.length
 have hn:=line63
 have I':Inv X pins σ (upd H p (.lst (xs.set j v))) {s with heap:=s.heap.update p (Obj.mapSeq (·.setIfInBounds j u))}:=
  I.lstUpd hp ho (mapSeq_set its n j u) (r.set rv j) (by rw [List.length_set];exact hz) s.toks
 by_cases h0:0≤k
 ·have hk:k.toNat=j:=by
   rw [seqIndex_of h0 h4] at h1
   exact Option.some.inj h1
  exact PySem.W.ki_setAt ho h0 (by lia) (by rw [List.size_toArray,← hl];exact h4) (by rw [hk];exact ⟨_,I',q⟩)
 ·have hk:(k+(its.toArray.size:Int)).toNat=j:=by
   rw [seqIndex_neg (by lia) h3] at h1
   rw [List.size_toArray,← hl]
   exact Option.some.inj h1
  exact PySem.W.ki_setBack ho (by lia) (by rw [List.size_toArray,← hl];exact h3) (by lia) (by rw [hk];exact ⟨_,I',q⟩)
theorem slice_bounds (lo hi:Option Int) (n:Nat):(sliceBounds lo hi none n).1=((HT.sIx n 0 lo:Nat):Int)∧(sliceBounds lo hi none n).2.1=((HT.sIx n n hi:Nat):Int)∧(sliceBounds lo hi none n).2.2=1:=by
 refine ⟨?_,?_,rfl⟩
 ·cases lo with
  | none=>simp [sliceBounds,HT.sIx]
  | some i=>
   simp only [sliceBounds,HT.sIx,Option.getD_none,show (1:Int)>0 by decide,if_true]
   by_cases h:i<0
   ·simp only [h,if_true] <;> lia
   ·simp only [h,if_false] <;> lia
 ·cases hi with
  | none=>simp [sliceBounds,HT.sIx]
  | some i=>
   simp only [sliceBounds,HT.sIx,Option.getD_none,show (1:Int)>0 by decide,if_true]
   by_cases h:i<0
   ·simp only [h,if_true] <;> lia
   ·simp only [h,if_false] <;> lia
theorem slicePick_cut (its:List Value) (lo hi:Option Int):slicePick its.toArray lo hi none=((its.drop (HT.sIx its.length 0 lo)).take (HT.sIx its.length its.length hi - HT.sIx its.length 0 lo)).toArray:=by
 obtain ⟨h1,h2,h3⟩:=slice_bounds lo hi its.toArray.size
 unfold slicePick
 rw [h1,h2,h3]
 simp only [sliceRange_one,pick_run,List.size_toArray] <;> rfl
noncomputable def rSlL (K:PySem.W.Frag):V→Option Int→Option Int→Hp→VK→Prop:=fun x lo hi H Q=>∃ a xs,x=.ref a∧SqL K H a xs∧∀ p,H p=none→Q (.ref p) (upd H p (.lst (cutV xs lo hi)))
theorem sl_list:SlR X (rSlL X.K):=by
 intro pins s σ H x v vl vu lo hi sl Q I rx hs pl pu h
 obtain ⟨a,xs,rfl,hx,q⟩:=h
 cases rx
 obtain ⟨its,r,ht,hz⟩:=I.list hx
 have hlen:=r.length
 refine ⟨"list",_,slot_list_getitem.lookup,ht.isList.typeIs,?_⟩
 refine wpAny_getItem_list_slice ht.isList hs pl pu .none (by simp) ?_ (by rw [List.size_toArray] <;> lia)
 rw [slicePick_cut,← hlen]
 refine ⟨.ref s.heap.objs.size,_,I.laid (t':=s.toks) (o:=.lst (cutV xs lo hi)) (fun b ob q=>Heap.get?_push_of_some _ q) (Nat.le_refl _) ?_,rfl,q _ (I.hok.fresh (Nat.le_refl _))⟩
 exact ⟨Nat.le_trans (cutV_length xs lo hi) hz,_,0,(r.drop (HT.sIx xs.length 0 lo)).take (HT.sIx xs.length xs.length hi - HT.sIx xs.length 0 lo),Heap.get?_push_size _ rfl⟩
theorem call_len_seq:CallR X (.builtin "len") (fun xs H Q=>∃ p ys,xs=[.ref p]∧(SqL X.K H p ys∨SqT X.K H p ys)∧Q (.int ys.length) H):=by
 intro pins s σ H xs us Q I r h
 obtain ⟨p,ys,rfl,hq,q⟩:=h
 obtain ⟨u,rfl,rx⟩:=vals1 r
 cases rx
 have hn:=line63
 rcases hq with hq | hq
 ·obtain ⟨its,r',pl,hz⟩:=I.list hq
  have hlen:=r'.length
  exact Calls.call_len_list pl.isList (by simp only [List.size_toArray] <;> lia) ⟨.int ys.length,H,I.tok _,⟨s.toks+1,by rw [List.size_toArray,hlen]⟩,q⟩
 ·obtain ⟨its,r',pl,hz⟩:=I.tuple hq
  have hlen:=r'.length
  exact len_tuple pl (by simp only [List.size_toArray] <;> lia) ⟨.int ys.length,H,I.tok _,⟨s.toks+1,by rw [List.size_toArray,hlen]⟩,q⟩
theorem call_len_str:CallR X (.builtin "len") (fun xs H Q=>∃ z,xs=[.str z]∧z.length≤sizeLine∧Q (.int z.length) H):=by
 intro pins s σ H xs us Q I r h
 obtain ⟨z,rfl,hz,q⟩:=h
 obtain ⟨u,rfl,t,rfl⟩:=vals1 r
 have hn:=line63
 exact len_str (by lia) ⟨.int z.length,H,I.tok _,⟨_,rfl⟩,q⟩
theorem call_tuple_of:CallR X (.type "tuple") (fun xs H Q=>∃ p ys,xs=[.ref p]∧((SqL X.K H p ys∧∀ l,H l=none→Q (.ref l) (upd H l (.tup ys)))∨(SqT X.K H p ys∧Q (.ref p) H))):=by
 intro pins s σ H xs us Q I r h
 obtain ⟨p,ys,rfl,h⟩:=h
 obtain ⟨u,rfl,rx⟩:=vals1 r
 cases rx
 rcases h with ⟨hq,q⟩ | ⟨hq,q⟩
 ·obtain ⟨its,r',pl,hz⟩:=I.list hq
  have hlen:=r'.length
  refine call_tuple_list pl.isList (fun h' kp=>?_) (by simp only [List.size_toArray] <;> lia)
  have I1:Inv X pins σ H {s with heap:=h'}:=I.kept (t':=s.toks) kp
  have I2:Inv X pins σ (upd H h'.objs.size (.tup ys)) {s with heap:=h'.push {cls:=.type "tuple",data:=.seq its.toArray}}:=
   I1.laid (t':=s.toks) (fun b o e=>Heap.get?_push_of_some _ e) (Nat.le_refl _) (show ObjOk X.prog X.w _ _ _ (.tup ys) from ⟨hz,its,r',IsTup.new _ _⟩)
  exact ⟨.ref h'.objs.size,_,I2,rfl,q _ (I1.hok.fresh (Nat.le_refl _))⟩
 ·obtain ⟨its,r',pl,hz⟩:=I.tuple hq
  exact call_tuple_same pl ⟨.ref p,H,I,rfl,q⟩
noncomputable def tyV (K:PySem.W.Frag) (T:String) (x:V) (H:Hp):Prop:=match x with
 | .str _=>T="str"
 | .int _=>T="int"
 | .ref p=>(T="list"∧∃ xs,SqL K H p xs)∨(T="tuple"∧∃ o,K.lookup p=some o∧o.cls=.type "tuple"∧o.dict=none)∨
   (T="dict"∧((∃ kvs,H p=some (.dK kvs))∨∃ kvs,H p=some (.dT kvs)))∨(T="set"∧∃ S n,H p=some (.set S n))
 | _=>False
theorem tyV_is {pins:List (Addr×Obj)} {σ:St} {H:Hp} {s:Shared} {T:String} {x:V} {v:Value} (I:Inv X pins σ H s) (r:RelV x v) (ty:tyV X.K T x H):
  s.TypeIs v T∧∀ a,v=.ref a→∃ ob,s.heap.get? a=some ob∧ob.dict=none:=by
 cases x with
 | str z=>
  obtain ⟨t,rfl⟩:=r
  cases (show T="str" from ty)
  exact ⟨typeIs_str s z t,fun _ e=>nomatch e⟩
 | int i=>
  obtain ⟨t,rfl⟩:=r
  cases (show T="int" from ty)
  exact ⟨typeIs_int s i t,fun _ e=>nomatch e⟩
 | ref p=>
  cases r
  rcases ty with ⟨rfl,xs,hq⟩ | ⟨rfl,o,hk,hc,hd⟩ | ⟨rfl,hk⟩ | ⟨rfl,S,n,hk⟩
  ·obtain ⟨its,_,pl,_⟩:=I.list hq
   refine ⟨pl.isList.typeIs,fun a e=>?_⟩
   cases e
   obtain ⟨o,n,e,c,hd,_⟩:=pl
   exact ⟨o,e,hd⟩
  ·refine ⟨⟨o,I.kIn p o hk,hc⟩,fun a e=>?_⟩
   cases e
   exact ⟨o,I.kIn _ o hk,hd⟩
  ·have z:∃ o,s.heap.get? p=some o∧o.ExactDict:=by
    rcases hk with ⟨kvs,hk⟩ | ⟨kvs,hk⟩
    ·obtain ⟨_,_,_,_,o,_,_,e,ex,_⟩:=I.hok p _ hk
     exact ⟨o,e,ex⟩
    ·obtain ⟨_,_,_,_,o,_,_,e,ex,_⟩:=I.hok p _ hk
     exact ⟨o,e,ex⟩
   obtain ⟨o,e,ex⟩:=z
   refine ⟨⟨o,e,ex.1⟩,fun a e2=>?_⟩
   cases e2
   exact ⟨o,e,ex.2.1⟩
  ·obtain ⟨o,_,_,_,e,ex,_⟩:=I.hok p _ hk
   refine ⟨⟨o,e,ex.1⟩,fun a e2=>?_⟩
   cases e2
   exact ⟨o,e,ex.2.1⟩
 | _=>exact False.elim ty
noncomputable def tBM (K:PySem.W.Frag) (T:String) (r:V→List V→Hp→VK→Prop) (to:TE) (t:TA):TE:=fun σ H Q=>to σ H fun x H1=>tyV K T x H1∧t σ H1 fun xs H2=>r x xs H2 Q
variable {o e:Expr} {es:List Expr} {to:TE} {t:TA} {name:Str} {apos cpos:Pos} {T id:String} {r:V→List V→Hp→VK→Prop}
theorem pe_bm (pa:PlainAttrs T) (slot:Slot T name id) (hty:typeOf (.builtin id)=pure (.type "method_descriptor")) (hm:MtR X id r) (ho:PE X o to) (ha:PA X (e::es) t)
  (hbase:attributeBase o name X.env (eval o X.env)=eval o X.env:=by rfl)
  (hfew:((backTo cpos (starEach (e::es) X.env)).all (fun x=>!x.1)&&(backToKw cpos (keywordEach [] X.env)).all (fun x=>x.1.isSome)
   && decide ((e::es).length+([]:List Keyword).length+(if ([]:List Keyword).isEmpty then 0 else 1)<30))=true:=by rfl)
  (hline:(apos.endLine==cpos.line)=true:=by rfl) (hs:starEach (e::es) X.env=(false,eval e X.env)::starEach es X.env:=by rfl) (hplain:(backTo cpos (starEach es X.env)).any (·.1)=false:=by rfl):
  PE X (.Call (.Attribute o name apos) (e::es) [] cpos) (tBM X.K T r to t):=by
 intro pins s σ H Q I h
 refine wpAny_Call_method_late hbase hfew hline rfl (thn (ho pins s σ H _ I h) fun v s1 ⟨x,H1,I1,r1,ty,q1⟩=>?_)
 obtain ⟨h1,h2⟩:=tyV_is I1 r1 ty
 refine ⟨T,id,pa,slot,hty,h1,h2,?_⟩
 have hA:=ha cpos pins s1 σ H1 _ I1 q1
 rw [hs] at hA ⊢
 refine Calls.callWith_builtin (by show (false||(backTo cpos (starEach es X.env)).any (·.1))=false;rw [hplain] <;> rfl) (Calls.evalArgs_plain ?_)
 exact thn hA fun us s2 ⟨vs,H2,I2,r2,q2⟩=>hm pins s2 σ H2 x vs v us Q I2 r1 r2 q2
end
end L2
namespace L2
open PySem PySem.Spec PyProof.Rows
noncomputable def MtM (X:Cx) (id:String) (r:V→List V→Hp→VK→Prop):Prop:=
 ∀ (pins:List (Addr×Obj)) (s:Shared) (σ:St) (H:Hp) (x:V) (xs:List V) (v:Value) (us:List Value) (Q:VK),Inv X pins σ H s→RelV x v→Vals xs us→r x xs H Q→
  wpAny (model X.prog X.w) X.A (call (.builtin id) (v::us)) (EP X pins σ Q) X.xe s
theorem Vals.one:∀ {x:V} {us:List Value},Vals [x] us→∃ u,us=[u]∧RelV x u
 | _,_,.cons r .nil=>⟨_,rfl,r⟩
theorem Vals.reverse {xs:List V} {us:List Value} (h:Vals xs us):Vals xs.reverse us.reverse:=by
 induction h with
 | nil=>exact .nil
 | cons r t ih=>rw [List.reverse_cons,List.reverse_cons];exact Vals.append ih (.cons r .nil)
section
variable {X:Cx} {pins:List (Addr×Obj)} {σ:St} {H:Hp} {s:Shared} {l b:Addr} {xs ys zs:List V}
theorem Inv.lset {its its':List Value} {n:Nat} {f:Array Value→Array Value} {t':Nat} (I:Inv X pins σ H s) (hH:H l=some (.lst xs))
  (e:s.heap.get? l=some {cls:=.type "list",data:=.seq its.toArray n}) (hf:f its.toArray=its'.toArray) (hv:Vals ys its') (hz:ys.length≤sizeLine):
  Inv X pins σ (upd H l (.lst ys)) {s with heap:=s.heap.update l (Obj.mapSeq f),toks:=t'}:=by
 have q:=PySem.IsL.update e f
 rw [hf] at q
 refine I.write (x:=l) (e:=l) (by rw [hH];exact trivial) (.inl rfl) (fun b' u hb hu=>(Heap.get?_update_other s.heap (Obj.mapSeq f) (Ne.symm hb)).trans hu) ⟨_,q⟩ ?_
 exact ⟨hz,its',_,hv,q⟩
theorem Inv.lstM (I:Inv X pins σ H s) (hH:H l=some (.lst xs)):xs.length≤sizeLine∧∃ (its:List Value) (n:Nat),Vals xs its∧xs.length=its.length∧s.heap.get? l=some {cls:=.type "list",data:=.seq its.toArray n}:=by
 obtain ⟨z,its,n,r,e⟩:=I.hok l _ hH
 exact ⟨z,its,n,r,r.length,e⟩
end
section
variable {X:Cx}
noncomputable def rAppend:V→List V→Hp→VK→Prop:=fun x vs H Q=>∃ l xs y,x=.ref l∧vs=[y]∧H l=some (.lst xs)∧xs.length<sizeLine∧Q .non (upd H l (.lst (xs++[y])))
theorem mt_append:MtM X "list.append" rAppend:=by
 intro pins s σ H x vs v us Q I rx rv h
 obtain ⟨l,xs,y,rfl,rfl,hH,hz,q⟩:=h
 cases rx
 obtain ⟨u,rfl,ru⟩:=rv.one
 obtain ⟨z,its,n,r,hl,e⟩:=I.lstM hH
 refine call_meets F.slot_list_append ⟨_,e,rfl⟩ F.entry_list_append (F.args_list_append_2 _ _) (PySem.list_append l its.toArray n u (by rw [List.size_toArray];lia)) ⟨e,?_⟩
 refine ⟨.non,_,I.lset (its':=its++[u]) hH e (by simp) (r.append (.cons ru .nil)) ?_,rfl,q⟩
 rw [List.length_append,List.length_singleton]
 lia
end
section
variable {prog:Program} {w:World} {A:Around} {E:Value→Shared→Prop} {s:Shared}
end
section
variable {X:Cx}
end
end L2
namespace Att
open PySem PySem.W PySem.Calls PyProof.Rows
theorem ints_of_wellAll {P:Params} {h:Heap}:∀ (ns:List Int) (vs:List Value),WellAll P h vs (ns.map WData.int)→IntsAre vs ns:=by
 intro ns
 induction ns with
 | nil=>
  intro vs w
  rw [List.map_nil] at w
  cases w
  exact .nil
 | cons n ns ih=>
  intro vs w
  rw [List.map_cons] at w
  cases w with
  | cons a b=>
   cases a
   exact .cons _ _ (ih _ b)
theorem script_of {l : OpenLaw} {n : Nat} (hn : l.most = some n) {P : Params} {h : Heap} {args : List WData} {vals : List Value}
    (hpre : l.row.toRowW.claim.pre args = true) (hwl : WellAll P h vals args) :
    ∃ a vs ns, vals = [Value.ref a] ∧ args = [WData.list (ns.map WData.int)] ∧ h.get? a = some { cls := .type "list", data := .seq vs.toArray } ∧ IntsAre vs ns ∧ ns.length ≤ n := by
  have hsh : WShape.hasAll [] args [.list .int] = true := (pre_splitW hpre).1
  have hc : l.pre.holds [] { args := args } = true := (pre_splitW hpre).2
  obtain ⟨d, r, rfl, h1, h2⟩ := hasAllW_cons hsh
  obtain rfl := hasAllW_nil h2
  obtain ⟨xs, rfl, h3⟩ := hasW_list h1
  obtain ⟨ns, rfl⟩ := items_int h3
  have hlen : ns.length ≤ n := by
    unfold OpenLaw.pre at hc
    have h4 : (WTm.not (.lt (.lit (.int (n : Int))) (.len (.arg 0)))).holds [] { args := [.list (ns.map .int)] } = true := by
      have h4 := (holds_andW hc).1
      rw [hn] at h4
      exact h4
    have h5 := condW_of h4 (w_not (w_lt w_lit (w_len_list (w_arg rfl))))
    rw [List.length_map] at h5
    refine Nat.le_of_not_lt fun q => ?_
    have q' : (n : Int) < ((ns.length : Nat) : Int) := by lia
    first
      | (rw [decide_eq_true q'] at h5; exact absurd h5 (by decide))
      | (simp at h5; lia)
  cases hwl with
  | cons w1 w2 =>
    cases w2
    cases w1 with
    | list ho hall => exact ⟨_, _, ns, rfl, rfl, ho, ints_of_wellAll ns _ hall, hlen⟩
theorem post_true (l : OpenLaw) (args : List WData) : l.row.toRowW.claim.post args (.bool true) args = true :=
  postW_of (r := l.row.toRowW) (X := (true == true))
    (show WShape.has [] (.bool true) .bool = true by first | rfl | decide | simp [WShape.has, WShape.arms, WShape.armsAll])
    (show (WTm.eq .res (.lit (.bool true))).value [] { args := args, res := some (.bool true), after := args } = some (.bool (true == true)) from w_eq_bool (w_res rfl) w_lit) rfl
theorem attach_call {l:OpenLaw} {n:Nat} {q:Program} {loose:List Str} {XP:(Str→Option Value)→Heap→Prop} {YP:World→Heap→Prop} {d:DefRec}
  (hn:l.most=some n) (hdf:d.params.defaults=[])
  (call:∀ (w:World) (s₀ s₁:Shared) (mg mb:Str→Option Value) (fa:Addr) (o:Obj) (pm cd doc:Value) (a:Addr) (vs:List Value) (ns:List Int),
   Ground q loose [] XP w s₀ mg mb s₁.heap→YP w s₁.heap→
   s₁.heap.get? fa=some o→o.data=.func (docDef d.name d.params d.body d.scope pm cd doc)→s₁.heap.CodeRec cd d.name→mg d.name=some (.ref fa)→
   s₁.heap.get? a=some {cls:=.type "list",data:=.seq vs.toArray}→IntsAre vs ns→ns.length≤n→s₁.gens=#[]→
   codeAny (model l.prog w) callerA (.call (.ref fa) ⟨[.ref a],[]⟩) (fun r s'=>r=.ok (.ret (.bool true))∧OldK s₁.heap s'.heap∧s'.os=s₁.os∧AllBare s'.gens) s₁):
  WalkO q loose XP YP l.row.toRowW d [] (fun f vs=>PySem.call f vs):=by
 intro w s₀ s₁ mg mb G Y fa o pm cd doc dV kV ho hd hcd hD hmg hg args vals as hpre hlay hrd hwl hlo
 obtain rfl:dV=.none:=Dflts.none hD hdf
 obtain rfl:kV=.none:=Dflts.noKw hD
 obtain ⟨a,vs,ns,rfl,rfl,hobj,hints,hlen⟩:=script_of hn hpre hwl
 refine enter_call (codeAny_mono (call w s₀ s₁ mg mb fa o pm cd doc a vs ns G Y ho (fd_plain hd) hcd hmg hobj hints hlen hg) fun r s' hq=>?_)
 obtain ⟨rfl,h2,h3,h4⟩:=hq
 exact ⟨.inl ⟨.bool true,.bool true,[],rfl,fun _=>rfl,.bool true,post_true l _,fun _=>⟨List.Pairwise.nil,fun _ hm=>(nomatch hm)⟩⟩,h2,h3,h4⟩
section
variable {prog:Program} {w:World} {A:Around} {E:Value→Shared→Prop} {s:Shared} {K:Frag}
end
end Att
namespace L2
open PySem PySem.Spec PyProof.Rows
theorem vals_ints:∀ {vs:List Value} {ns:List Int},IntsAre vs ns→Vals (ns.map V.int) vs
 | _,_,.nil=>.nil
 | _,_,.cons n t h=>.cons ⟨t,rfl⟩ (vals_ints h)
noncomputable def Only (H:Hp):Prop:=∀ b,H b=none∨∃ o xs,H b=some (.frz o (.lst xs))
theorem law_call {P:Program} {w:World} {K:PySem.W.Frag} {mg mb:Str→Option Value} {CX:CXT} {k:Nat} {fa a:Addr} {fd:FuncData} {x:Str} {sp:Sp} {s₁:Shared} {vs:List Value} {ns:List Int}
  (KX:K.In s₁.heap) (hns:s₁.heap.Ns mainGlobals mg) (hb:s₁.heap.Ns builtinsNs mb) (hbb:∀ x:Str,x≠"__name__"→mb x=bootBuiltins x) (hlim:s₁.heap.NoLimit) (hg:s₁.gens=#[])
  (ha:s₁.heap.get? a=some {cls:=.type "list",data:=.seq vs.toArray}) (hi:IntsAre vs ns) (hl:ns.length≤sizeLine) (hr:Room k callerA)
  (F:∀ base:Heap,K.In base→base.Ns mainGlobals mg→FnOk P w K mg base CX k fa fd [x] sp) (hbind:∀ (s:Shared) (u:Value),BindsTo s fd ⟨[u],[]⟩ [(x,u)])
  (hsp:∀ H:Hp,Only H→SqL K H a (ns.map V.int)→sp [.ref a] H (fun v _=>v=.bl true) fun _ _ _=>False)
  (hCX:∀ H e s',CX [] H s₁ (fun _ _ _=>False) e s'→False):
  codeAny (model P w) callerA (.call (.ref fa) ⟨[.ref a],[]⟩) (fun r s'=>r=.ok (.ret (.bool true))∧OldK s₁.heap s'.heap∧s'.os=s₁.os∧AllBare s'.gens) s₁:=by
 have rv:=vals_ints hi
 have lenV:=hi.length
 
 have core:∀ H:Hp,Only H→SqL K H a (ns.map V.int)→HOk P w H s₁.heap→(∀ b,H b≠none→b=a)→(H a≠none→K.lookup a=none)→
   codeAny (model P w) callerA (.call (.ref fa) ⟨[.ref a],[]⟩) (fun r s'=>r=.ok (.ret (.bool true))∧OldK s₁.heap s'.heap∧s'.os=s₁.os∧AllBare s'.gens) s₁:=by
  intro H hO hS hok hA hK
  have base_of:∀ {b:Addr} {o:Obj},s₁.heap.get? b=some o→H b=none→(hidT s₁.heap H).get? b=some o:=fun e n=>hidT_get e n
  have noA:∀ {b:Addr} {o:Obj} {es:Array DictEntry} {ep:Nat},s₁.heap.get? b=some o→o.data=.dict es ep→H b=none:=fun {b o es ep} e d=>by
   cases q:H b with
   | none=>rfl
   | some u=>
    have e':b=a:=hA b (by rw [q];simp)
    subst e'
    rw [ha] at e;cases e
    have d':Data.seq vs.toArray _=Data.dict es ep:=d
    cases d'
  have nsK:∀ {b:Addr} {m:Str→Option Value},s₁.heap.Ns b m→(hidT s₁.heap H).Ns b m:=fun {b m} ⟨o,es,ep,e,d,r⟩=>⟨o,es,ep,base_of e (noA e d),d,r⟩
  have hKb:K.In (hidT s₁.heap H):=fun b o e=>base_of (KX b o e) (by
   cases q:H b with
   | none=>rfl
   | some u=>
    have e':b=a:=hA b (by rw [q];simp)
    subst e'
    rw [hK (by rw [q];simp)] at e;cases e)
  have hM:Mod K mg (hidT s₁.heap H):=⟨hKb,nsK hns,⟨mb,nsK hb,hbb⟩,let ⟨mc,h1,h2⟩:=hlim;⟨mc,nsK h1,h2⟩⟩
  have e0:Env0 P w K mg (hidT s₁.heap H) callerA [] s₁ H:=⟨rfl,hM,fun b o e=>of_hidT e,Nat.le_of_eq (hidT_size _ _),trivial,fun b hb=>absurd (show b∈([]:List Addr) from hb) (by simp),hok,.of_eq hg⟩
  refine codeAny_mono ((F _ hKb (nsK hns)).run callerA [] s₁ H ⟨[.ref a],[]⟩ [.ref a] [.ref a] _ _ hr e0 (hbind s₁ (.ref a)) (.cons rfl .nil) (hsp H hO hS)) fun r s' h=>?_
  cases r with
  | error e=>exact (hCX H e s' h).elim
  | ok fl=>
   cases fl with
   | next=>exact False.elim h
   | brk=>exact False.elim h
   | cont=>exact False.elim h
   | ret u=>
    obtain ⟨v,H',os,bare,un,hok',r',q⟩:=h
    have q':v=.bl true:=q
    subst q'
    obtain rfl:u=Value.bool true:=r'
    refine ⟨rfl,OldK.of_keep fun b o e=>?_,os,bare⟩
    cases q:H b with
    | none=>exact un.keep b o e q (by intro z;exact absurd (show b∈([]:List Addr) from z) (by simp)) (by simp)
    | some u=>
     rcases hO b with z | ⟨ob,xs,z⟩
     ·rw [q] at z;cases z
     ·have z2:=un.frzs b ob _ z
      obtain ⟨e1,_⟩:=hok b _ z
      obtain ⟨e2,_⟩:=hok' b _ z2
      rw [e] at e1;cases e1
      exact e2
 cases hk:K.lookup a with
 | some o=>
  
  have e:=KX a o hk
  rw [ha] at e
  cases e
  refine core (fun _=>none) (fun _=>.inl rfl) (.inr ⟨_,vs.toArray,_,hk,rfl,rfl,rfl,by rw [List.size_toArray,lenV];exact hl,by simpa using rv⟩) (fun b u z=>by have z':(none:Option HO)=some u:=z;cases z') (fun b z=>absurd rfl z) fun z=>absurd rfl z
 | none=>
  refine core (fun b=>if b=a then some (.frz {cls:=.type "list",data:=.seq vs.toArray} (.lst (ns.map V.int))) else none) (fun b=>?_) (.inl (.inr ⟨{cls:=.type "list",data:=.seq vs.toArray},if_pos rfl⟩)) (fun b u z=>?_) (fun b z=>?_) fun _=>hk
  ·by_cases hb:b=a
   ·exact .inr ⟨_,_,if_pos hb⟩
   ·exact .inl (if_neg hb)
  ·by_cases hb:b=a
   ·have z':=(if_pos hb).symm.trans z
    cases z'
    subst hb
    exact ⟨ha,by rw [List.length_map];exact hl,vs,_,rv,ha⟩
   ·have z':=(if_neg hb).symm.trans z
    cases z'
  ·by_cases hb:b=a
   ·exact hb
   ·exact absurd (if_neg hb) z
end L2
namespace L2
open PySem PySem.Spec PyProof.Rows
theorem walk_of {l:PySem.W.OpenLaw} {n k:Nat} {q:Program} {loose:List Str} {XP:(Str→Option Value)→Heap→Prop} {YP:World→Heap→Prop} {d:DefRec} {K:Params→PySem.W.Frag} {CX:World→CXT} {sp:World→Sp} {x:Str}
  (hn:l.most=some n) (hn2:n≤sizeLine) (hdf:d.params.defaults=[]) (hr:Room k callerA)
  (hY:∀ (w:World) (h:Heap),YP w h→(K w.params).In h)
  (F:∀ (w:World) (mg:Str→Option Value) (fa:Addr) (h:Heap),(K w.params).In h→h.Ns mainGlobals mg→mg d.name=some (.ref fa)→
   ∃ fd:FuncData,(∀ (s:Shared) (u:Value),BindsTo s fd ⟨[u],[]⟩ [(x,u)])∧
    ∀ base:Heap,(K w.params).In base→base.Ns mainGlobals mg→FnOk l.prog w (K w.params) mg base (CX w) k fa fd [x] (sp w))
  (hsp:∀ (w:World) (H:Hp) (a:Addr) (ns:List Int),ns.length≤n→Only H→SqL (K w.params) H a (ns.map V.int)→sp w [.ref a] H (fun v _=>v=.bl true) fun _ _ _=>False)
  (hCX:∀ (w:World) (H:Hp) (s:Shared) (e:Value) (s':Shared),CX w [] H s (fun _ _ _=>False) e s'→False):
  PySem.W.WalkO q loose XP YP l.row.toRowW d [] (fun f vs=>PySem.call f vs):=by
 refine Att.attach_call hn hdf fun w s₀ s₁ mg mb fa o pm cd doc a vs ns G Y ho hd hcd hmg hobj hints hlen hg=>?_
 have KX:=hY w _ Y
 obtain ⟨fd,hb,hF⟩:=F w mg fa _ KX G.T.g hmg
 exact law_call KX G.T.g G.T.b G.T.builtins G.T.nolimit hg hobj hints (Nat.le_trans hlen hn2) hr hF hb (fun H hO hS=>hsp w H a ns hlen hO hS) fun H e s'=>hCX w H s₁ e s'
end L2
namespace L2
open PySem PySem.Spec PyProof.Rows
noncomputable def defArgs (s:Stmt):Arguments:=match s with
 | .FunctionDef _ a _ _ _ _ _ _ _ _=>a
 | _=>{posonlyargs:=[],args:=[],vararg:=none,kwonlyargs:=[],kw_defaults:=[],kwarg:=none,defaults:=[]}
noncomputable def defBody (s:Stmt):List Stmt:=match s with
 | .FunctionDef _ _ b _ _ _ _ _ _ _=>b
 | _=>[]
noncomputable def defScope (s:Stmt):Scope:=match s with
 | .FunctionDef _ _ _ _ _ _ sc _ _ _=>sc
 | _=>{kind:=.function,names:=[],isGenerator:=false,isCoroutine:=false}
noncomputable abbrev CX0:CXT:=fun _ _ _ _ _ _=>False
noncomputable abbrev E0:XK:=fun _ _ _=>False
theorem pass0 {X:Cx}:Passes CX0 X E0:=fun _ _ _ _ _ _ _ h=>h.elim
structure Fun (K:PySem.W.Frag) (x qual:Str) (st:Stmt) (f:Addr) (fd:FuncData):Prop where
 ex:∃ (oc:Value) (od:Option Addr) (kV doc pm:Value) (an:Option Addr) (cdv ct:Value) (osl:Array (Option Value)),
  fd=PySem.W.fnOf x qual (defArgs st) (defBody st) (defScope st) .none kV doc pm an cdv ct∧K.lookup f=some ⟨oc,od,.func fd,osl⟩∧PySem.W.codeIn K cdv qual=true
 kp:PySem.W.keepIn K (.ref f)=true
section
variable {P:Program} {w:World} {K:PySem.W.Frag} {mg:Str→Option Value} {base:Heap}
theorem Fun.ok {x qual:Str} {st:Stmt} {f:Addr} {fd:FuncData} {N ps:List Str} {k:Nat} {sp:Sp} (F:Fun K x qual st f fd) (S:FnScope N ps (defScope st)) (len:∀ vs H Q E,sp vs H Q E→vs.length=ps.length)
  (hbody:∀ (cdv:Value) (A:Around) (outer:List Env) (s:Shared) (H:Hp) (vs:List V) (Q:VK) (E:XK),Room k (A.deeper (envOfC qual (defScope st) s.heap.objs.size f cdv))→sp vs H Q E→
   ∃ t,PSs (cxOf CX0 P w K mg base N qual (defScope st) f cdv A outer s H E).nox (defBody st) t∧t {nx:=fun _ H'=>Q .non H',rt:=Q} (start N vs) H):FnOk P w K mg base CX0 (k+1) f fd ps sp:=by
 obtain ⟨oc,od,kV,doc,pm,an,cdv,ct,osl,rfl,lk,hcd⟩:=F.ex
 refine fn_of lk hcd S len fun A outer s H vs Q E hr hsp=>?_
 obtain ⟨t,h,q⟩:=hbody cdv A outer s H vs Q E hr hsp
 exact ⟨t,h.nox,q⟩
theorem Fun.binds {x qual:Str} {st:Stmt} {f:Addr} {fd:FuncData} {ps:List Str} (F:Fun K x qual st f fd)
  (h:∀ (kV doc pm:Value) (an:Option Addr) (cdv ct:Value) (us:List Value),us.length=ps.length→bindArgs (PySem.W.fnOf x qual (defArgs st) (defBody st) (defScope st) .none kV doc pm an cdv ct) ⟨us,[]⟩=pure (ps.zip us)):Binds K fd ps []:=by
 obtain ⟨oc,od,kV,doc,pm,an,cdv,ct,osl,rfl,lk,hcd⟩:=F.ex
 exact .all (h kV doc pm an cdv ct)
theorem fun_mk {x qual:Str} {st:Stmt} {f:Addr} {oc:Value} {od an:Option Addr} {osl:Array (Option Value)} {kV doc pm cdv ct:Value} (l:K.lookup f=some ⟨oc,od,.func (PySem.W.fnOf x qual (defArgs st) (defBody st) (defScope st) .none kV doc pm an cdv ct),osl⟩)
  (c:PySem.W.codeIn K cdv qual=true) (k:PySem.W.keepIn K (.ref f)=true):Fun K x qual st f (PySem.W.fnOf x qual (defArgs st) (defBody st) (defScope st) .none kV doc pm an cdv ct):=⟨⟨oc,od,kV,doc,pm,an,cdv,ct,osl,rfl,l,c⟩,k⟩
end
section
variable {X:Cx}
theorem pv (i:Nat) {x:Str} {pos:Pos} (hN:X.N[i]?=some x:=by rfl) (hv:Vis X.env.scope x:=by first | exact Or.inl rfl | exact Or.inr (Or.inl rfl) | exact Or.inr (Or.inr rfl)) (hd:(x==("__debug__":Str))=false:=by decide)
  (hcd:(x==("__classdict__":Str))=false:=by decide):PE X (.Name x pos) (tVar i):=pe_var hN hv hd hcd
end
theorem iteF {A B:Prop} (h:B):if false=true then A else B:=by
 rw [if_neg Bool.false_ne_true]
 exact h
theorem iteT {A B:Prop} (h:A):if true=true then A else B:=by
 rw [if_pos rfl]
 exact h
end L2
namespace L2
open PySem PySem.Spec PyProof.Rows
section
variable {κ:Type} [DecidableEq κ]
noncomputable def valV (kvs:List (κ×V)) (k:κ):Option V:=(kvs.find? fun kv=>decide (kv.1=k)).map (·.2)
noncomputable def putK (kvs:List (κ×V)) (k:κ) (v:V):List (κ×V):=
 if (kvs.any fun kv=>decide (kv.1=k))=true then kvs.map (fun kv=>if kv.1=k then (kv.1,v) else kv) else kvs++[(k,v)]
theorem valV_pos {p:κ×V} {r:List (κ×V)} {k:κ} (e:p.1=k):valV (p::r) k=some p.2:=by simp [valV,List.find?_cons,e]
theorem valV_neg {p:κ×V} {r:List (κ×V)} {k:κ} (e:¬ p.1=k):valV (p::r) k=valV r k:=by simp [valV,List.find?_cons,e]
theorem RelO.isSome_eq {o:Option V} {u:Option Value} (r:RelO o u):o.isSome=u.isSome:=by
 cases o with
 | none=>cases u with
  | none=>rfl
  | some _=>exact (show False from r).elim
 | some _=>cases u with
  | none=>exact (show False from r).elim
  | some _=>rfl
theorem RelO.getD {o:Option V} {u:Option Value} {d:V} {d':Value} (r:RelO o u) (rd:RelV d d'):RelV (o.getD d) (u.getD d'):=by
 cases o with
 | none=>cases u with
  | none=>exact rd
  | some _=>exact (show False from r).elim
 | some _=>cases u with
  | none=>exact (show False from r).elim
  | some _=>exact r
theorem KV.val {kvs:List (κ×V)} {vs:List (κ×Value)} (r:KV kvs vs) (k:κ):RelO (valV kvs k) (valueAt vs k):=by
 unfold KV at r
 induction r with
 | nil=>exact True.intro
 | @cons p q ps qs h t ih=>
  obtain ⟨h1,h2⟩:=h
  by_cases e:p.1=k
  ·have e':q.1=k:=h1.symm.trans e
   have b:valueAt (q::qs) k=some q.2:=by simp [valueAt,List.find?_cons,e']
   rw [valV_pos e,b];exact h2
  ·have e':¬ q.1=k:=fun z=>e (h1.trans z)
   have b:valueAt (q::qs) k=valueAt qs k:=by simp [valueAt,List.find?_cons,e']
   rw [valV_neg e,b];exact ih
theorem KV.any {kvs:List (κ×V)} {vs:List (κ×Value)} (r:KV kvs vs) (k:κ):(kvs.any fun kv=>decide (kv.1=k))=vs.any fun kv=>decide (kv.1=k):=by
 unfold KV at r
 induction r with
 | nil=>rfl
 | cons h t ih=>rw [List.any_cons,List.any_cons,ih,h.1]
theorem KV.length {kvs:List (κ×V)} {vs:List (κ×Value)} (r:KV kvs vs):kvs.length=vs.length:=Paired.length r
end
theorem kV_is {P:Program} {w:World} {k:Key} {u:Value} (r:RelV (kV k) u):(mixKind P w).is k u=true:=by
 cases k with
 | inl i=>obtain ⟨t,e⟩:=(show ∃ t,u=Value.int i t from r);subst e;exact mixKind_int P w i t
 | inr x=>obtain ⟨t,e⟩:=(show ∃ t,u=Value.str x t from r);subst e;exact mixKind_str P w x t
theorem items_are {P:Program} {w:World}:∀ {ks:List Key} {us:List Value},Vals (ks.map kV) us→ItemsAre (mixKind P w) ks us
 | [],_,r=>by rw [List.map_nil] at r;cases r;exact .nil
 | k::ks,_,r=>by
  rw [List.map_cons] at r
  cases r with
  | cons h t=>exact .cons (kV_is h) (items_are t)
noncomputable abbrev KT (H:Hp):List (List Key×V)→List (List Key×Addr×Value)→Prop:=Paired fun p q=>p.1=q.1∧H q.2.1=some (.tup (p.1.map kV))∧RelV p.2 q.2.2
theorem KT.val {H:Hp} {kvs:List (List Key×V)} {xs:List (List Key×Addr×Value)} (r:KT H kvs xs) (k:List Key):RelO (valV kvs k) ((atKey xs k).map (·.2)):=by
 induction r with
 | nil=>exact True.intro
 | @cons p q ps qs h t ih=>
  obtain ⟨h1,_,h2⟩:=h
  by_cases e:p.1=k
  ·have e':q.1=k:=h1.symm.trans e
   have b:atKey (q::qs) k=some q.2:=by simp [atKey,List.find?_cons,e']
   rw [valV_pos e,b];exact h2
  ·have e':¬ q.1=k:=fun z=>e (h1.trans z)
   have b:atKey (q::qs) k=atKey qs k:=by simp [atKey,List.find?_cons,e']
   rw [valV_neg e,b];exact ih
section
variable {P:Program} {w:World} {H:Hp} {h:Heap} {a:Addr}
theorem rd_of {u:HO} (ok:HOk P w H h) (e:Rd H a u):ObjOk P w H h a u:=e.ok ok
theorem dk_rd {kvs:List (Key×V)} (ok:HOk P w H h) (e:Rd H a (.dK kvs)):kvs.length≤sizeLine∧(a==sysModules)=false∧∃ vs,KV kvs vs∧h.DictOf (mixKind P w) a vs:=
 show ObjOk P w H h a (.dK kvs) from rd_of ok e
theorem key_of {ks:List Key} (ok:HOk P w H h) (e:H a=some (.tup (ks.map kV))):(tupleKind (mixKind P w)).is h ks a:=by
 obtain ⟨_,its,r,o,h1,h2,n,h3⟩:=(show ObjOk P w H h a (.tup (ks.map kV)) from ok a _ e)
 exact ⟨o,its.toArray,n,h1,h2,h3,by simpa using items_are r⟩
theorem dt_rd {kvs:List (List Key×V)} (ok:HOk P w H h) (e:Rd H a (.dT kvs)):kvs.length≤sizeLine∧(a==sysModules)=false∧
  ∃ xs,KT H kvs xs∧h.DictOfH (tupleKind (mixKind P w)) a xs:=by
 obtain ⟨z,y,xs,r,o,es,ep,h1,h2,h3,h4,h5⟩:=(show ObjOk P w H h a (.dT kvs) from rd_of ok e)
 refine ⟨z,y,xs,r,o,es,ep,h1,h2,h3,h4,fun x hx=>?_,h5⟩
 have all:∀ {l:List (List Key×V)} {m:List (List Key×Addr×Value)},KT H l m→∀ x∈m,(tupleKind (mixKind P w)).is h x.1 x.2.1:=by
  intro l m q
  induction q with
  | nil=>intro x hx;exact nomatch hx
  | @cons p q ps qs hq t ih=>
   intro x hx
   rcases List.mem_cons.mp hx with e | hx
   ·subst e
    exact key_of ok (by rw [← hq.1];exact hq.2.1)
   ·exact ih x hx
 exact all r x hx
end
noncomputable def DGet (H:Hp) (a:Addr) (y:V) (r:Option V):Prop:=
 (∃ kvs k,Rd H a (.dK kvs)∧y=kV k∧r=valV kvs k)∨∃ kvs k b,Rd H a (.dT kvs)∧y=.ref b∧H b=some (.tup (k.map kV))∧r=valV kvs k
noncomputable def DPut (H:Hp) (a:Addr) (y v:V) (H':Hp):Prop:=
 (∃ kvs k,H a=some (.dK kvs)∧y=kV k∧kvs.length<sizeLine∧H'=upd H a (.dK (putK kvs k v)))∨
 ∃ kvs k b,H a=some (.dT kvs)∧y=.ref b∧H b=some (.tup (k.map kV))∧kvs.length<sizeLine∧H'=upd H a (.dT (putK kvs k v))
theorem DGet.k {H:Hp} {a:Addr} {kvs:List (Key×V)} {k:Key} (e:H a=some (.dK kvs)):DGet H a (kV k) (valV kvs k):=.inl ⟨kvs,k,.inl e,rfl,rfl⟩
theorem DGet.t {H:Hp} {a b:Addr} {kvs:List (List Key×V)} {k:List Key} (e:H a=some (.dT kvs)) (eb:H b=some (.tup (k.map kV))):DGet H a (.ref b) (valV kvs k):=.inr ⟨kvs,k,b,.inl e,rfl,eb,rfl⟩
theorem DPut.k {H:Hp} {a:Addr} {kvs:List (Key×V)} {k:Key} {v:V} (e:H a=some (.dK kvs)) (hl:kvs.length<sizeLine):DPut H a (kV k) v (upd H a (.dK (putK kvs k v))):=.inl ⟨kvs,k,e,rfl,hl,rfl⟩
theorem DPut.t {H:Hp} {a b:Addr} {kvs:List (List Key×V)} {k:List Key} {v:V} (e:H a=some (.dT kvs)) (eb:H b=some (.tup (k.map kV))) (hl:kvs.length<sizeLine):
  DPut H a (.ref b) v (upd H a (.dT (putK kvs k v))):=.inr ⟨kvs,k,b,e,rfl,eb,hl,rfl⟩
section
variable {X:Cx} {pins:List (Addr×Obj)} {σ:St} {H:Hp} {s:Shared} {a:Addr} {y v:V} {u r:Value} {o:Option V} {A:Around} {E:Value→Shared→Prop}
theorem d_getItem {Q:Value→Shared→Prop} (hu:A.units+1<cLine) (I:Inv X pins σ H s) (g:DGet H a y (some v)) (ry:RelV y u) (h:∀ w' s',Inv X pins σ H s'→RelV v w'→Q w' s'):
  wpAny (model X.prog X.w) A (getItem (.ref a) u) Q E s:=by
 rcases g with ⟨kvs,k,e,ey,l⟩ | ⟨kvs,k,b,e,ey,eb,l⟩
 ·subst ey
  obtain ⟨z,hd,vs,rel,dd⟩:=dk_rd I.hok e
  obtain ⟨w',hw,rw'⟩:=RelO.some_of (v:=v) (o:=valueAt vs k) (by rw [l];exact rel.val k)
  exact wpAny_getItem_of (kV_is ry) dd.mapOf hw (h w' _ (I.tok _) rw')
 ·subst ey
  cases (show u=Value.ref b from ry)
  obtain ⟨z,hd,xs,rel,dd⟩:=dt_rd I.hok e
  obtain ⟨w',hw,rw'⟩:=RelO.some_of (v:=v) (o:=(atKey xs k).map (·.2)) (by rw [l];exact rel.val k)
  obtain ⟨p,hp,hp2⟩:=Option.map_eq_some_iff.mp hw
  refine wpAny_getItem_heap (tupleKind_room_in1 hu) (key_of I.hok eb) dd hp ?_
  rw [hp2]
  exact h w' _ (I.tok _) rw'
end
section
variable {X:Cx} {pins:List (Addr×Obj)} {σ:St} {H:Hp} {s:Shared} {a:Addr} {kvs:List (Key×V)} {k:Key} {u:Value} {A:Around} {E:Value→Shared→Prop}
end
theorem dict_typeIs {X:Cx} {pins:List (Addr×Obj)} {σ:St} {H:Hp} {s:Shared} {a:Addr} {y:V} {o:Option V} (I:Inv X pins σ H s) (g:DGet H a y o):s.TypeIs (.ref a) "dict":=by
 rcases g with ⟨kvs,k,e,_,_⟩ | ⟨kvs,k,b,e,_,_,_⟩
 ·obtain ⟨_,_,vs,_,dd⟩:=dk_rd I.hok e
  exact dd.typeIs
 ·obtain ⟨_,_,xs,_,dd⟩:=dt_rd I.hok e
  exact dd.typeIs
section
variable {X:Cx} {o i e value:Expr} {pos pos' tpos:Pos} {td ty tv:TE}
end
section
variable {X:Cx} {pos:Pos}
end
section
variable {X:Cx} {pins:List (Addr×Obj)} {σ:St} {H:Hp} {s:Shared} {a:Addr} {y d:V} {u r:Value} {o:Option V} {A:Around} {E:Value→Shared→Prop}
end
section
variable {X:Cx} {o e f:Expr} {apos cpos:Pos} {td ty tx:TE}
end
section
variable {X:Cx} {pins:List (Addr×Obj)} {σ:St} {H:Hp} {s:Shared} {a:Addr} {kvs:List (Key×V)} {A:Around} {E:Value→Shared→Prop}
end
section
variable {X:Cx} {pins:List (Addr×Obj)} {σ:St} {H:Hp} {s:Shared} {a:Addr} {y:V} {u:Value} {A:Around} {E:Value→Shared→Prop}
end
end L2
namespace DD
open PySem
noncomputable abbrev PV:=PyData
inductive Sl where
 | un
 | val (p:PV)
 | own (ps:List PV)
noncomputable abbrev Env:=List Sl
inductive Op1 where
 | neg | len | isTup | isList | isInt | isBool | isStr | toList | toTuple | toInt | toStr | rev | all | any | isN | notN | notT | srt | sset | enum | srtw
 deriving DecidableEq
inductive Op2 where
 | add | sub | mul | fdiv | mod | pow | eq | ne | lt | le | gt | ge | inn | nin | ix | join | idx | split | din | dni
 deriving DecidableEq
inductive E where
 | var (i:Nat)
 | peek (i:Nat)
 | con (p:PV)
 | nil
 | cons (h t:E)
 | tup (a:E)
 | lst (a:E)
 | op1 (o:Op1) (a:E)
 | op2 (o:Op2) (a b:E)
 | sl (a lo hi:E)
 | call (f:Nat) (a:E)
 | and (a b:E)
 | or (a b:E)
 | not (a:E)
 | ite (c a b:E)
 | chain (o o':Op2) (a b c:E)
 | comp (tg:Option Nat) (caps:List Nat) (it cond elt:E)
 | rng (a:E)
 | rng2 (a b:E)
 | dct (ks:List PV) (vs:E)
 | dgt (a k d:E)
 | lrep (a n:E)
 | skey (caps:List Nat) (it key:E)
 | prm (a:E)
inductive Tg where
 | one (i:Nat)
 | many (is:List Nat)
inductive S where
 | nx
 | seq (a b:S)
 | set (i:Nat) (e:E)
 | own (i:Nat) (e:E)
 | asg (t:Tg) (e:E)
 | ret (e:E)
 | ife (c:E) (a b:S)
 | loop (t:Tg) (it:E) (body:S)
 | app (i:Nat) (e:E)
 | put (i:Nat) (k e:E)
 | ext (i:Nat) (e:E)
 | frz (i:Nat)
 | brk
 | cnt
inductive Out where
 | nx (ρ:Env)
 | rt (p:PV)
 | bk (ρ:Env)
 | ct (ρ:Env)
inductive Tag {A:Type} (f:A):Type where
 | mk
noncomputable def bnd {α β:Type} (x:Option α) (f:α→Option β) (_t:Tag f:=Tag.mk):Option β:=match x with
 | none=>none
 | some a=>f a
@[simp] theorem bnd_none {α β:Type} (f:α→Option β) (t:Tag f):bnd none f t=none:=rfl
@[simp] theorem bnd_some {α β:Type} (a:α) (f:α→Option β) (t:Tag f):bnd (some a) f t=f a:=rfl
theorem bnd_eq {α β:Type} {x:Option α} {f:α→Option β} {b:β}:bnd x f=some b↔∃ a,x=some a∧f a=some b:=by
 cases x with
 | none=>simp
 | some a=>simp
noncomputable def tst {α:Type} (t:Bool) (x y:α) (_a:Tag x:=Tag.mk) (_b:Tag y:=Tag.mk):α:=match t with
 | true=>x
 | false=>y
@[simp] theorem tst_true {α:Type} (x y:α) (a:Tag x) (b:Tag y):tst true x y a b=x:=rfl
@[simp] theorem tst_false {α:Type} (x y:α) (a:Tag x) (b:Tag y):tst false x y a b=y:=rfl
noncomputable def truthF:PV→Option Bool
 | .none=>some false
 | .bool b=>some b
 | .int i=>some (i != 0)
 | .str x=>some (x.length != 0)
 | .list xs=>some (!xs.isEmpty)
 | .tuple xs=>some (!xs.isEmpty)
 | .dict _=>none
section
set_option autoImplicit true
@[simp] theorem truthF_e1:truthF (.none)=some false:=rfl
@[simp] theorem truthF_e2:truthF (.bool b)=some b:=rfl
@[simp] theorem truthF_e3:truthF (.int i)=some (i != 0):=rfl
@[simp] theorem truthF_e4:truthF (.str x)=some (x.length != 0):=rfl
@[simp] theorem truthF_e5:truthF (.list xs)=some (!xs.isEmpty):=rfl
@[simp] theorem truthF_e6:truthF (.tuple xs)=some (!xs.isEmpty):=rfl
@[simp] theorem truthF_e7:truthF (.dict zu)=none:=rfl
end
noncomputable def addF:PV→PV→Option PV
 | .int i,.int j=>some (.int (i+j))
 | .str x,.str y=>if x.length+y.length≤16777216 then some (.str (x++y)) else none
 | .tuple xs,.tuple ys=>if xs.length+ys.length≤16777216 then some (.tuple (xs++ys)) else none
 | .list xs,.list ys=>if xs.length+ys.length≤16777216 then some (.list (xs++ys)) else none
 | _,_=>none
section
set_option autoImplicit true
@[simp] theorem addF_e1:addF (.int i) (.int j)=some (.int (i+j)):=rfl
@[simp] theorem addF_e2:addF (.str x) (.str y)=if x.length+y.length≤16777216 then some (.str (x++y)) else none:=rfl
@[simp] theorem addF_e3:addF (.tuple xs) (.tuple ys)=if xs.length+ys.length≤16777216 then some (.tuple (xs++ys)) else none:=rfl
@[simp] theorem addF_e4:addF (.list xs) (.list ys)=if xs.length+ys.length≤16777216 then some (.list (xs++ys)) else none:=rfl
end
noncomputable def subF:PV→PV→Option PV
 | .int i,.int j=>some (.int (i - j))
 | _,_=>none
section
set_option autoImplicit true
@[simp] theorem subF_e1:subF (.int i) (.int j)=some (.int (i - j)):=rfl
end
noncomputable def small (i:Int):Bool:=decide (-(2 ^ 64)<i)&&decide (i<2 ^ 64)
noncomputable def repL {α:Type} (xs:List α) (n:Int):List α:=(List.replicate n.toNat xs).flatten
noncomputable def mulF:PV→PV→Option PV
 | .int i,.int j=>if small i||small j then some (.int (i * j)) else none
 | .str x,.int j=>if x.length * j.toNat≤16777216∧0≤j∧j<1000000 then some (.str (Txt.mul x j)) else none
 | _,_=>none
section
set_option autoImplicit true
@[simp] theorem mulF_e1:mulF (.int i) (.int j)=if small i||small j then some (.int (i * j)) else none:=rfl
@[simp] theorem mulF_e2:mulF (.str x) (.int j)=if x.length * j.toNat≤16777216∧0≤j∧j<1000000 then some (.str (Txt.mul x j)) else none:=rfl
end
noncomputable def fdivF:PV→PV→Option PV
 | .int i,.int j=>if 0<j∧j<1073741824 then some (.int (i / j)) else none
 | _,_=>none
section
set_option autoImplicit true
@[simp] theorem fdivF_e1:fdivF (.int i) (.int j)=if 0<j∧j<1073741824 then some (.int (i / j)) else none:=rfl
end
noncomputable def modF:PV→PV→Option PV
 | .int i,.int j=>if 0<j then some (.int (i % j)) else none
 | _,_=>none
section
set_option autoImplicit true
@[simp] theorem modF_e1:modF (.int i) (.int j)=if 0<j then some (.int (i % j)) else none:=rfl
end
noncomputable def powF:PV→PV→Option PV
 | .int i,.int j=>if i=10∧0≤j∧j≤64 then some (.int (10 ^ j.toNat)) else none
 | _,_=>none
section
set_option autoImplicit true
@[simp] theorem powF_e1:powF (.int i) (.int j)=if i=10∧0≤j∧j≤64 then some (.int (10 ^ j.toNat)) else none:=rfl
end
noncomputable def isDict:PV→Bool
 | .dict _=>true
 | _=>false
@[simp] theorem isDict_none:isDict .none=false:=by first | exact (eq_of_beq (Eq.refl true)) | rfl
@[simp] theorem isDict_bool (b:Bool):isDict (.bool b)=false:=by first | exact (eq_of_beq (Eq.refl true)) | rfl
@[simp] theorem isDict_int (i:Int):isDict (.int i)=false:=by first | exact (eq_of_beq (Eq.refl true)) | rfl
@[simp] theorem isDict_str (x:Str):isDict (.str x)=false:=by first | exact (eq_of_beq (Eq.refl true)) | rfl
@[simp] theorem isDict_list (xs:List PV):isDict (.list xs)=false:=by first | exact (eq_of_beq (Eq.refl true)) | rfl
@[simp] theorem isDict_tuple (xs:List PV):isDict (.tuple xs)=false:=by first | exact (eq_of_beq (Eq.refl true)) | rfl
@[simp] theorem isDict_dict (kvs:List (PV×PV)):isDict (.dict kvs)=true:=by first | exact (eq_of_beq (Eq.refl true)) | rfl
noncomputable def eqF (p q:PV):Option Bool:=if isDict p||isDict q then none else if min p.depth q.depth≤180 then some (PyData.eqv p q) else none
@[simp] noncomputable def intsOf:List PV→Option (List Int)
 | []=>some []
 | .int i::r=>bnd (intsOf r) fun q=>some (i::q)
 | _=>none
noncomputable def lexLt:List Int→List Int→Bool
 | [],[]=>false
 | [],_::_=>true
 | _::_,[]=>false
 | x::xs,y::ys=>if x=y then lexLt xs ys else decide (x<y)
noncomputable def ltF:PV→PV→Option PV
 | .int i,.int j=>some (.bool (decide (i<j)))
 | _,_=>none
section
set_option autoImplicit true
@[simp] theorem ltF_e1:ltF (.int i) (.int j)=some (.bool (decide (i<j))):=rfl
end
noncomputable def cmpI (f:Int→Int→Bool):PV→PV→Option PV
 | .int i,.int j=>some (.bool (f i j))
 | _,_=>none
section
set_option autoImplicit true
@[simp] theorem cmpI_e1 (f:Int→Int→Bool):cmpI f (.int i) (.int j)=some (.bool (f i j)):=rfl
end
noncomputable def inF (x:PV):PV→Option Bool
 | .list ys=>if isDict x then none else if min (PyData.depthAll ys) x.depth≤180 then some (ys.any fun y=>PyData.eqv y x) else none
 | .tuple ys=>if isDict x then none else if min (PyData.depthAll ys) x.depth≤180 then some (ys.any fun y=>PyData.eqv y x) else none
 | _=>none
noncomputable def ixN (n:Nat) (i:Int):Option Nat:=if 0≤i then (if i<n then some i.toNat else none) else if -(n:Int)≤i then some (i+n).toNat else none
noncomputable def atI {α:Type} (xs:List α) (i:Int):Option α:=(ixN xs.length i).bind fun j=>xs[j]?
noncomputable def keyEq:PV→PV→Bool
 | .str a,.str b=>a==b
 | .int a,.int b=>a==b
 | _,_=>false
noncomputable def isKey:PV→Bool
 | .str _=>true
 | .int _=>true
 | _=>false
section
set_option autoImplicit true
@[simp] theorem isKey_e1:isKey (.str zu)=true:=rfl
@[simp] theorem isKey_e2:isKey (.int zu)=true:=rfl
end
noncomputable def dlook (x:PV):List (PV×PV)→Option PV
 | []=>none
 | (k,v)::r=>if keyEq k x then some v else dlook x r
noncomputable def ixF:PV→PV→Option PV
 | .dict kvs,x=>tst (isKey x) (dlook x kvs) none
 | .tuple xs,.int i=>atI xs i
 | .list xs,.int i=>atI xs i
 | .str x,.int i=>bnd (atI x.cps.toList i) fun c=>some (.str ⟨#[c]⟩)
 | _,_=>none
section
set_option autoImplicit true
@[simp] theorem ixF_e1:ixF (.dict kvs) (x)=tst (isKey x) (dlook x kvs) none:=rfl
@[simp] theorem ixF_e2:ixF (.tuple xs) (.int i)=atI xs i:=rfl
@[simp] theorem ixF_e3:ixF (.list xs) (.int i)=atI xs i:=rfl
@[simp] theorem ixF_e4:ixF (.str x) (.int i)=bnd (atI x.cps.toList i) fun c=>some (.str ⟨#[c]⟩):=rfl
end
@[simp] noncomputable def strsOf:List PV→Option (List Str)
 | []=>some []
 | .str x::r=>bnd (strsOf r) fun q=>some (x::q)
 | _=>none
noncomputable def joinS (sep:Str):List Str→Str
 | []=>⟨#[]⟩
 | [x]=>x
 | x::y::r=>x++sep++joinS sep (y::r)
noncomputable def joinF:PV→PV→Option PV
 | .str sep,.list ys=>bnd (strsOf ys) fun xs=>if (xs.map Str.length).sum+xs.length * sep.length≤16777216 then some (.str (joinS sep xs)) else none
 | _,_=>none
section
set_option autoImplicit true
@[simp] theorem joinF_e1:joinF (.str sep) (.list ys)=bnd (strsOf ys) fun xs=>if (xs.map Str.length).sum+xs.length * sep.length≤16777216 then some (.str (joinS sep xs)) else none:=rfl
end
noncomputable def dinB (x:PV):PV→Option Bool
 | .dict kvs=>tst (isKey x) (some (dlook x kvs).isSome) none
 | _=>none
noncomputable def splitF:PV→PV→Option PV
 | .str x,.str y=>if y.length≠0∧x.length+2≤16777216 then some (.list ((Txt.split x y).map .str)) else none
 | _,_=>none
@[simp] theorem splitF_e (x y:Str):splitF (.str x) (.str y)=if y.length≠0∧x.length+2≤16777216 then some (.list ((Txt.split x y).map .str)) else none:=rfl
@[simp] noncomputable def tupsOf:List PV→Option (List (List Int))
 | []=>some []
 | .tuple xs::r=>bnd (intsOf xs) fun x=>bnd (tupsOf r) fun q=>some (x::q)
 | _=>none
noncomputable def insL {α:Type} (lt:α→α→Bool) (x:α):List α→List α
 | []=>[x]
 | y::r=>if lt y x then y::insL lt x r else x::y::r
noncomputable def srtL {α:Type} (lt:α→α→Bool):List α→List α
 | []=>[]
 | x::r=>insL lt x (srtL lt r)
noncomputable def ltI (i j:Int):Bool:=decide (i<j)
noncomputable def intsPv (ns:List Int):List PV:=ns.map .int
noncomputable def tupsPv (ns:List (List Int)):List PV:=ns.map fun t=>.tuple (intsPv t)
noncomputable def dup {α:Type} [BEq α]:List α→List α
 | []=>[]
 | x::r=>if r.contains x then dup r else x::dup r
noncomputable def full64:List (List Int):=(List.range 16).flatMap fun k=>[[(k / 4:Nat),(k % 4:Nat)],[(k / 4:Nat),(k % 4+4:Nat)],[(k / 4+4:Nat),(k % 4:Nat)],[(k / 4+4:Nat),(k % 4+4:Nat)]]
noncomputable def srtF:List PV→Option PV
 | []=>some (.list [])
 | .int i::r=>bnd (intsOf (.int i::r)) fun ns=>tst (decide (ns.length<64)) (some (.list (intsPv (srtL ltI ns)))) none
 | .tuple t::r=>bnd (tupsOf (.tuple t::r)) fun ns=>tst ((decide (ns.length<64)||decide (ns=full64))&&ns.all fun n=>!n.isEmpty) (some (.list (tupsPv (srtL lexLt ns)))) none
 | _=>none
noncomputable def lexG {α:Type} [DecidableEq α] (lt:α→α→Bool):List α→List α→Bool
 | [],[]=>false
 | [],_::_=>true
 | _::_,[]=>false
 | x::xs,y::ys=>if x=y then lexG lt xs ys else lt x y
noncomputable abbrev WK:=List (List (List Int))
noncomputable def ltW:WK→WK→Bool:=lexG (lexG lexLt)
noncomputable def pvW:WK→PV
 | [[[m]],[as],[bs],es]=>.tuple [.int m,.tuple (intsPv as),.tuple (intsPv bs),.tuple (tupsPv es)]
 | _=>.tuple []
noncomputable def wldOf:PV→Option WK
 | .tuple [.int m,.tuple as,.tuple bs,.tuple es]=>bnd (intsOf as) fun a=>bnd (intsOf bs) fun b=>bnd (tupsOf es) fun e=>some [[[m]],[a],[b],e]
 | _=>none
noncomputable def wldsOf:List PV→Option (List WK)
 | []=>some []
 | x::r=>bnd (wldOf x) fun k=>bnd (wldsOf r) fun q=>some (k::q)
noncomputable def srtwF (xs:List PV):Option PV:=bnd (wldsOf xs) fun ks=>tst (decide (ks.length≤1000)) (some (.list ((srtL ltW ks).map pvW))) none
noncomputable def enumF:List PV→Nat→List PV
 | [],_=>[]
 | x::xs,k=>.tuple [.int (k:Nat),x]::enumF xs (k+1)
noncomputable def srtK (ns:List Int) (xs:List PV):List PV:=(srtL (fun (a b:Int×PV)=>ltI a.1 b.1) (ns.zip xs)).map (·.2)
noncomputable def idxL (x:PV):List PV→Nat→Option Nat
 | [],_=>none
 | y::r,k=>if PyData.eqv y x then some k else idxL x r (k+1)
noncomputable def idxF:PV→PV→Option PV
 | .list ys,x=>if isDict x then none else if min (PyData.depthAll ys) x.depth≤180 then bnd (idxL x ys 0) fun k=>some (.int (k:Nat)) else none
 | _,_=>none
@[simp] theorem idxF_e1 (ys:List PV) (x:PV):idxF (.list ys) x=if isDict x then none else if min (PyData.depthAll ys) x.depth≤180 then bnd (idxL x ys 0) fun k=>some (.int (k:Nat)) else none:=rfl
noncomputable def ssF:List PV→Option PV
 | []=>some (.list [])
 | .int i::r=>bnd (intsOf (.int i::r)) fun ns=>tst (decide ((dup ns).length<64)) (some (.list (intsPv (srtL ltI (dup ns))))) none
 | .tuple t::r=>bnd (tupsOf (.tuple t::r)) fun ns=>tst (decide ((dup ns).length<64)&&ns.all fun n=>!n.isEmpty) (some (.list (tupsPv (srtL lexLt (dup ns))))) none
 | _=>none
noncomputable def seqOf:PV→Option (List PV)
 | .list xs=>some xs
 | .tuple xs=>some xs
 | _=>none
section
set_option autoImplicit true
@[simp] theorem seqOf_e1:seqOf (.list xs)=some xs:=rfl
@[simp] theorem seqOf_e2:seqOf (.tuple xs)=some xs:=rfl
end
@[simp] noncomputable def truths:List PV→Option (List Bool)
 | []=>some []
 | .bool b::r=>bnd (truths r) fun q=>some (b::q)
 | _=>none
noncomputable def tupB:PV→Bool
 | .tuple _=>true
 | _=>false
@[simp] theorem tupB_none :tupB .none=false:=by first | exact (eq_of_beq (Eq.refl true)) | rfl
@[simp] theorem tupB_bool (b:Bool):tupB (.bool b)=false:=by first | exact (eq_of_beq (Eq.refl true)) | rfl
@[simp] theorem tupB_int (i:Int):tupB (.int i)=false:=by first | exact (eq_of_beq (Eq.refl true)) | rfl
@[simp] theorem tupB_str (x:Str):tupB (.str x)=false:=by first | exact (eq_of_beq (Eq.refl true)) | rfl
@[simp] theorem tupB_list (xs:List PV):tupB (.list xs)=false:=by first | exact (eq_of_beq (Eq.refl true)) | rfl
@[simp] theorem tupB_tuple (xs:List PV):tupB (.tuple xs)=true:=by first | exact (eq_of_beq (Eq.refl true)) | rfl
noncomputable def lstB:PV→Bool
 | .list _=>true
 | _=>false
@[simp] theorem lstB_none :lstB .none=false:=by first | exact (eq_of_beq (Eq.refl true)) | rfl
@[simp] theorem lstB_bool (b:Bool):lstB (.bool b)=false:=by first | exact (eq_of_beq (Eq.refl true)) | rfl
@[simp] theorem lstB_int (i:Int):lstB (.int i)=false:=by first | exact (eq_of_beq (Eq.refl true)) | rfl
@[simp] theorem lstB_str (x:Str):lstB (.str x)=false:=by first | exact (eq_of_beq (Eq.refl true)) | rfl
@[simp] theorem lstB_list (xs:List PV):lstB (.list xs)=true:=by first | exact (eq_of_beq (Eq.refl true)) | rfl
@[simp] theorem lstB_tuple (xs:List PV):lstB (.tuple xs)=false:=by first | exact (eq_of_beq (Eq.refl true)) | rfl
noncomputable def intB:PV→Bool
 | .int _=>true
 | .bool _=>true
 | _=>false
@[simp] theorem intB_none :intB .none=false:=by first | exact (eq_of_beq (Eq.refl true)) | rfl
@[simp] theorem intB_bool (b:Bool):intB (.bool b)=true:=by first | exact (eq_of_beq (Eq.refl true)) | rfl
@[simp] theorem intB_int (i:Int):intB (.int i)=true:=by first | exact (eq_of_beq (Eq.refl true)) | rfl
@[simp] theorem intB_str (x:Str):intB (.str x)=false:=by first | exact (eq_of_beq (Eq.refl true)) | rfl
@[simp] theorem intB_list (xs:List PV):intB (.list xs)=false:=by first | exact (eq_of_beq (Eq.refl true)) | rfl
@[simp] theorem intB_tuple (xs:List PV):intB (.tuple xs)=false:=by first | exact (eq_of_beq (Eq.refl true)) | rfl
noncomputable def boolB:PV→Bool
 | .bool _=>true
 | _=>false
@[simp] theorem boolB_none :boolB .none=false:=by first | exact (eq_of_beq (Eq.refl true)) | rfl
@[simp] theorem boolB_bool (b:Bool):boolB (.bool b)=true:=by first | exact (eq_of_beq (Eq.refl true)) | rfl
@[simp] theorem boolB_int (i:Int):boolB (.int i)=false:=by first | exact (eq_of_beq (Eq.refl true)) | rfl
@[simp] theorem boolB_str (x:Str):boolB (.str x)=false:=by first | exact (eq_of_beq (Eq.refl true)) | rfl
@[simp] theorem boolB_list (xs:List PV):boolB (.list xs)=false:=by first | exact (eq_of_beq (Eq.refl true)) | rfl
@[simp] theorem boolB_tuple (xs:List PV):boolB (.tuple xs)=false:=by first | exact (eq_of_beq (Eq.refl true)) | rfl
noncomputable def strB:PV→Bool
 | .str _=>true
 | _=>false
@[simp] theorem strB_none :strB .none=false:=by first | exact (eq_of_beq (Eq.refl true)) | rfl
@[simp] theorem strB_bool (b:Bool):strB (.bool b)=false:=by first | exact (eq_of_beq (Eq.refl true)) | rfl
@[simp] theorem strB_int (i:Int):strB (.int i)=false:=by first | exact (eq_of_beq (Eq.refl true)) | rfl
@[simp] theorem strB_str (x:Str):strB (.str x)=true:=by first | exact (eq_of_beq (Eq.refl true)) | rfl
@[simp] theorem strB_list (xs:List PV):strB (.list xs)=false:=by first | exact (eq_of_beq (Eq.refl true)) | rfl
@[simp] theorem strB_tuple (xs:List PV):strB (.tuple xs)=false:=by first | exact (eq_of_beq (Eq.refl true)) | rfl
noncomputable def nonB:PV→Bool
 | .none=>true
 | _=>false
@[simp] theorem nonB_none :nonB .none=true:=by first | exact (eq_of_beq (Eq.refl true)) | rfl
@[simp] theorem nonB_bool (b:Bool):nonB (.bool b)=false:=by first | exact (eq_of_beq (Eq.refl true)) | rfl
@[simp] theorem nonB_int (i:Int):nonB (.int i)=false:=by first | exact (eq_of_beq (Eq.refl true)) | rfl
@[simp] theorem nonB_str (x:Str):nonB (.str x)=false:=by first | exact (eq_of_beq (Eq.refl true)) | rfl
@[simp] theorem nonB_list (xs:List PV):nonB (.list xs)=false:=by first | exact (eq_of_beq (Eq.refl true)) | rfl
@[simp] theorem nonB_tuple (xs:List PV):nonB (.tuple xs)=false:=by first | exact (eq_of_beq (Eq.refl true)) | rfl
noncomputable def intStr (i:Int):Str:=(toString i:String)
noncomputable def opF1:Op1→PV→Option PV
 | .neg,.int i=>some (.int (-i))
 | .len,.tuple xs=>some (.int xs.length)
 | .len,.list xs=>some (.int xs.length)
 | .len,.str x=>some (.int x.length)
 | .isTup,p=>tst (isDict p) none (some (.bool (tupB p)))
 | .isList,p=>tst (isDict p) none (some (.bool (lstB p)))
 | .isInt,p=>tst (isDict p) none (some (.bool (intB p)))
 | .isBool,p=>tst (isDict p) none (some (.bool (boolB p)))
 | .isStr,p=>tst (isDict p) none (some (.bool (strB p)))
 | .toList,.tuple xs=>some (.list xs)
 | .toList,.list xs=>some (.list xs)
 | .toTuple,.tuple xs=>some (.tuple xs)
 | .toTuple,.list xs=>some (.tuple xs)
 | .toInt,.bool b=>some (.int (if b then 1 else 0))
 | .toInt,.int i=>some (.int i)
 | .toStr,.int i=>if i.natAbs<2 ^ 64 then some (.str (intStr i)) else none
 | .rev,.tuple xs=>some (.tuple xs.reverse)
 | .rev,.list xs=>some (.list xs.reverse)
 | .notT,.bool b=>some (.bool (!b))
 | .all,.list xs=>bnd (truths xs) fun bs=>some (.bool (bs.all id))
 | .any,.list xs=>bnd (truths xs) fun bs=>some (.bool (bs.any id))
 | .srt,.list xs=>srtF xs
 | .srt,.tuple xs=>srtF xs
 | .srtw,.list xs=>srtwF xs
 | .sset,.tuple xs=>ssF xs
 | .enum,.tuple xs=>some (.list (enumF xs 0))
 | .isN,p=>some (.bool (nonB p))
 | .notN,p=>some (.bool (!nonB p))
 | _,_=>none
section
set_option autoImplicit true
@[simp] theorem opF1_e1:opF1 (.neg) (.int i)=some (.int (-i)):=rfl
@[simp] theorem opF1_e2:opF1 (.len) (.tuple xs)=some (.int xs.length):=rfl
@[simp] theorem opF1_e3:opF1 (.len) (.list xs)=some (.int xs.length):=rfl
@[simp] theorem opF1_e4:opF1 (.len) (.str x)=some (.int x.length):=rfl
@[simp] theorem opF1_e5:opF1 (.isTup) (p)=tst (isDict p) none (some (.bool (tupB p))):=rfl
@[simp] theorem opF1_e6:opF1 (.isList) (p)=tst (isDict p) none (some (.bool (lstB p))):=rfl
@[simp] theorem opF1_e7:opF1 (.isInt) (p)=tst (isDict p) none (some (.bool (intB p))):=rfl
@[simp] theorem opF1_e8:opF1 (.isBool) (p)=tst (isDict p) none (some (.bool (boolB p))):=rfl
@[simp] theorem opF1_e9:opF1 (.isStr) (p)=tst (isDict p) none (some (.bool (strB p))):=rfl
@[simp] theorem opF1_e10:opF1 (.toList) (.tuple xs)=some (.list xs):=rfl
@[simp] theorem opF1_e11:opF1 (.toList) (.list xs)=some (.list xs):=rfl
@[simp] theorem opF1_e12:opF1 (.toTuple) (.tuple xs)=some (.tuple xs):=rfl
@[simp] theorem opF1_e13:opF1 (.toTuple) (.list xs)=some (.tuple xs):=rfl
@[simp] theorem opF1_e14:opF1 (.toInt) (.bool b)=some (.int (if b then 1 else 0)):=rfl
@[simp] theorem opF1_e15:opF1 (.toInt) (.int i)=some (.int i):=rfl
@[simp] theorem opF1_e16:opF1 (.toStr) (.int i)=if i.natAbs<2 ^ 64 then some (.str (intStr i)) else none:=rfl
@[simp] theorem opF1_e17:opF1 (.rev) (.tuple xs)=some (.tuple xs.reverse):=rfl
@[simp] theorem opF1_e17l:opF1 (.rev) (.list xs)=some (.list xs.reverse):=rfl
@[simp] theorem opF1_e18:opF1 (.notT) (.bool b)=some (.bool (!b)):=rfl
@[simp] theorem opF1_e19:opF1 (.all) (.list xs)=bnd (truths xs) fun bs=>some (.bool (bs.all id)):=rfl
@[simp] theorem opF1_e20:opF1 (.any) (.list xs)=bnd (truths xs) fun bs=>some (.bool (bs.any id)):=rfl
@[simp] theorem opF1_e21:opF1 (.srt) (.list xs)=srtF xs:=rfl
@[simp] theorem opF1_e22:opF1 (.srt) (.tuple xs)=srtF xs:=rfl
@[simp] theorem opF1_w:opF1 (.srtw) (.list xs)=srtwF xs:=rfl
@[simp] theorem opF1_e24:opF1 (.sset) (.tuple xs)=ssF xs:=rfl
@[simp] theorem opF1_e27:opF1 (.enum) (.tuple xs)=some (.list (enumF xs 0)):=rfl
@[simp] theorem opF1_e25:opF1 (.isN) (p)=some (.bool (nonB p)):=rfl
@[simp] theorem opF1_e26:opF1 (.notN) (p)=some (.bool (!nonB p)):=rfl
end
@[simp] noncomputable def opF2:Op2→PV→PV→Option PV
 | .add=>addF
 | .sub=>subF
 | .mul=>mulF
 | .fdiv=>fdivF
 | .mod=>modF
 | .pow=>powF
 | .eq=>fun p q=>bnd (eqF p q) fun b=>some (.bool b)
 | .ne=>fun p q=>bnd (eqF p q) fun b=>some (.bool (!b))
 | .lt=>ltF
 | .le=>cmpI fun i j=>decide (i≤j)
 | .gt=>cmpI fun i j=>decide (j<i)
 | .ge=>cmpI fun i j=>decide (j≤i)
 | .inn=>fun p q=>bnd (inF p q) fun b=>some (.bool b)
 | .nin=>fun p q=>bnd (inF p q) fun b=>some (.bool (!b))
 | .ix=>ixF
 | .join=>joinF
 | .idx=>idxF
 | .split=>splitF
 | .din=>fun p q=>bnd (dinB p q) fun b=>some (.bool b)
 | .dni=>fun p q=>bnd (dinB p q) fun b=>some (.bool (!b))
noncomputable def sIx (n d:Nat):Option Int→Nat
 | none=>d
 | some v=>if v<0 then (v+(n:Int)).toNat else min v.toNat n
noncomputable def cut {α:Type} (xs:List α) (lo hi:Option Int):List α:=(xs.drop (sIx xs.length 0 lo)).take (sIx xs.length xs.length hi - sIx xs.length 0 lo)
noncomputable def partF:PV→Option (Option Int)
 | .none=>some none
 | .int i=>some (some i)
 | _=>none
section
set_option autoImplicit true
@[simp] theorem partF_e1:partF (.none)=some none:=rfl
@[simp] theorem partF_e2:partF (.int i)=some (some i):=rfl
end
noncomputable def cutF (l h:Option Int):PV→Option PV
 | .tuple xs=>some (.tuple (cut xs l h))
 | .list xs=>some (.list (cut xs l h))
 | .str x=>some (.str (Txt.slice x l h))
 | _=>none
section
set_option autoImplicit true
@[simp] theorem cutF_e1 (l h:Option Int):cutF l h (.tuple xs)=some (.tuple (cut xs l h)):=rfl
@[simp] theorem cutF_e3 (l h:Option Int):cutF l h (.str x)=some (.str (Txt.slice x l h)):=rfl
@[simp] theorem cutF_e2 (l h:Option Int):cutF l h (.list xs)=some (.list (cut xs l h)):=rfl
end
@[simp] noncomputable def slF (x lo hi:PV):Option PV:=bnd (partF lo) fun l=>bnd (partF hi) fun h=>cutF l h x
@[simp] noncomputable def rngF (lo hi:Int):Option PV:=if -1000000≤lo∧lo≤1000000∧-1000000≤hi∧hi≤1000000 then some (.list ((List.range (hi - lo).toNat).map fun k=>.int (lo+(k:Nat)))) else none
noncomputable def Sl.get:Sl→Option PV
 | .val p=>some p
 | _=>none
section
set_option autoImplicit true
@[simp] theorem Sl_get_e1:Sl.get (.val p)=some p:=rfl
end
noncomputable def Sl.look:Sl→Option PV
 | .val p=>some p
 | .own ps=>some (.list ps)
 | .un=>none
section
set_option autoImplicit true
@[simp] theorem Sl_look_e1:Sl.look (.val p)=some p:=rfl
@[simp] theorem Sl_look_e2:Sl.look (.own ps)=some (.list ps):=rfl
@[simp] theorem Sl_look_e3:Sl.look (.un)=none:=rfl
end
noncomputable def bindT:Option Nat→PV→Option (List Sl)
 | none,p=>some [.val p]
 | some n,.tuple xs=>if xs.length=n then some (xs.map .val) else none
 | _,_=>none
section
set_option autoImplicit true
@[simp] theorem bindT_e1:bindT (none) (p)=some [.val p]:=rfl
@[simp] theorem bindT_e2:bindT (some n) (.tuple xs)=if xs.length=n then some (xs.map .val) else none:=rfl
end
@[simp] noncomputable def addO:Option PV→List PV→List PV
 | some y,r=>y::r
 | none,r=>r
noncomputable def compF (g:PV→Option (Option PV)):List PV→Option (List PV)
 | []=>some []
 | x::xs=>bnd (g x) fun o=>bnd (compF g xs) fun r=>some (addO o r)
noncomputable def consF (x:PV):PV→Option PV
 | .tuple xs=>some (.tuple (x::xs))
 | _=>none
section
set_option autoImplicit true
@[simp] theorem consF_e1 (x:PV):consF x (.tuple xs)=some (.tuple (x::xs)):=rfl
end
noncomputable def lrepF:PV→PV→Option PV
 | .list xs,.int j=>if xs.length * j.toNat≤16777216∧-1000000<j∧j<16777216 then some (.list (repL xs j)) else none
 | _,_=>none
@[simp] theorem lrepF_e (xs:List PV) (j:Int):lrepF (.list xs) (.int j)=if xs.length * j.toNat≤16777216∧-1000000<j∧j<16777216 then some (.list (repL xs j)) else none:=rfl
@[simp] noncomputable def anyD:List PV→Bool
 | []=>false
 | x::r=>isDict x||anyD r
noncomputable def lstF:PV→Option PV
 | .tuple xs=>tst (anyD xs) none (some (.list xs))
 | _=>none
section
set_option autoImplicit true
@[simp] theorem lstF_e1:lstF (.tuple xs)=tst (anyD xs) none (some (.list xs)):=rfl
end
noncomputable def tupF:PV→Option PV
 | .tuple xs=>tst (anyD xs) none (some (.tuple xs))
 | _=>none
section
set_option autoImplicit true
@[simp] theorem tupF_e1:tupF (.tuple xs)=tst (anyD xs) none (some (.tuple xs)):=rfl
end
noncomputable def dctF (ks:List PV):PV→Option PV
 | .tuple xs=>tst (anyD xs||ks.length != xs.length) none (some (.dict (ks.zip xs)))
 | _=>none
section
set_option autoImplicit true
@[simp] theorem dctF_e1 (ks:List PV):dctF ks (.tuple xs)=tst (anyD xs||ks.length != xs.length) none (some (.dict (ks.zip xs))):=rfl
end
noncomputable def dgtF (x d:PV):PV→Option PV
 | .dict kvs=>tst (isKey x) (some ((dlook x kvs).getD d)) none
 | _=>none
section
set_option autoImplicit true
@[simp] theorem dgtF_e1 (x d:PV):dgtF x d (.dict kvs)=tst (isKey x) (some ((dlook x kvs).getD d)) none:=rfl
end
noncomputable def eltF (y:PV):Option (Option PV):=tst (isDict y) none (some (some y))
@[simp] theorem eltF_e1 (y:PV):eltF y=tst (isDict y) none (some (some y)):=rfl
noncomputable def callF (cf:Nat→List PV→Option PV) (f:Nat):PV→Option PV
 | .tuple xs=>cf f xs
 | _=>none
section
set_option autoImplicit true
@[simp] theorem callF_e1 (cf:Nat→List PV→Option PV) (f:Nat):callF cf f (.tuple xs)=cf f xs:=rfl
end
noncomputable def chainF (k:Unit→Option PV):PV→Option PV
 | .bool true=>k ()
 | .bool false=>some (.bool false)
 | _=>none
section
set_option autoImplicit true
@[simp] theorem chainF_e1 (k:Unit→Option PV):chainF k (.bool true)=k ():=rfl
@[simp] theorem chainF_e2 (k:Unit→Option PV):chainF k (.bool false)=some (.bool false):=rfl
end
noncomputable def rngI:PV→PV→Option PV
 | .int m,.int n=>rngF m n
 | _,_=>none
section
set_option autoImplicit true
@[simp] theorem rngI_e1:rngI (.int m) (.int n)=rngF m n:=rfl
end
noncomputable def flatTab:List (PV×PV):=[(.str "yes",.str "yes"),(.str "no",.str "no"),(.str "ax",.tuple [.str "a",.str "x"]),(.str "ay",.tuple [.str "a",.str "y"]),(.str "bx",.tuple [.str "b",.str "x"]),(.str "by",.tuple [.str "b",.str "y"]),
 (.str "xx",.tuple [.str "to",.str "x",.str "x"]),(.str "xy",.tuple [.str "to",.str "x",.str "y"]),(.str "yx",.tuple [.str "to",.str "y",.str "x"]),(.str "yy",.tuple [.str "to",.str "y",.str "y"])]
noncomputable def behTab:List (PV×PV):=[(.str "not",.int 1),(.str "both",.int 2),(.str "either",.int 2)]
noncomputable def formsF (f:Nat→Option (PV×Nat)):Nat→Nat→Option (List PV×Nat)
 | 0,p=>some ([],p)
 | n+1,p=>match f p with
  | none=>none
  | some (x,q)=>match formsF f n q with
   | none=>none
   | some (xs,r)=>some (x::xs,r)
noncomputable def formF (ws:List Str):Nat→Nat→Option (PV×Nat)
 | d,p=>match ws[p]? with
  | none=>none
  | some w=>match dlook (.str w) flatTab with
   | some f=>some (f,p+1)
   | none=>match d with
    | 0=>none
    | d+1=>match dlook (.str w) behTab with
     | some (.int n)=>match formsF (formF ws d) n.toNat (p+1) with
      | none=>none
      | some (xs,r)=>some (.tuple (.str w::xs),r)
     | _=>none
noncomputable def demF (x:Str):Option PV:=match formF (Txt.split x " ") 5 2 with
 | none=>none
 | some (f,p)=>if p<(Txt.split x " ").length then none else some (.tuple [.str ((Txt.split x " ").getD 0 ""),.str ((Txt.split x " ").getD 1 ""),f])
noncomputable def demsF:List Str→Option (List PV)
 | []=>some []
 | x::r=>match demF x with
  | none=>none
  | some d=>match demsF r with
   | none=>none
   | some ds=>some (d::ds)
noncomputable def isRowId:Nat:=9
noncomputable def rowA (ds:List PV):PV→Option PV
 | .bool true=>some (.tuple ds)
 | .bool false=>some .none
 | _=>none
noncomputable def toldR (cf:Nat→List PV→Option PV):Option (List PV)→Option PV
 | none=>some .none
 | some ds=>bnd (cf isRowId [.tuple ds]) (rowA ds)
noncomputable def toldS (cf:Nat→List PV→Option PV) (x:Str):Option PV:=tst (decide (x.length≤1000000)) (tst (x=="-") (some (.tuple [])) (toldR cf (demsF (Txt.split x " ; ")))) none
noncomputable def toldF (cf:Nat→List PV→Option PV):PV→Option PV
 | .str x=>toldS cf x
 | _=>none
@[simp] noncomputable def evE (cf:Nat→List PV→Option PV):E→Env→Option PV
 | .var i,ρ=>bnd ρ[i]? Sl.get
 | .peek i,ρ=>bnd ρ[i]? Sl.look
 | .con p,_=>some p
 | .nil,_=>some (.tuple [])
 | .cons h t,ρ=>bnd (evE cf h ρ) fun x=>bnd (evE cf t ρ) (consF x)
 | .tup a,ρ=>bnd (evE cf a ρ) tupF
 | .lst a,ρ=>bnd (evE cf a ρ) lstF
 | .op1 o a,ρ=>bnd (evE cf a ρ) (opF1 o)
 | .op2 o a b,ρ=>bnd (evE cf a ρ) fun x=>bnd (evE cf b ρ) fun y=>opF2 o x y
 | .sl a lo hi,ρ=>bnd (evE cf a ρ) fun x=>bnd (evE cf lo ρ) fun l=>bnd (evE cf hi ρ) fun h=>slF x l h
 | .call f a,ρ=>bnd (evE cf a ρ) (callF cf f)
 | .and a b,ρ=>bnd (evE cf a ρ) fun x=>bnd (truthF x) fun t=>tst t (evE cf b ρ) (some x)
 | .or a b,ρ=>bnd (evE cf a ρ) fun x=>bnd (truthF x) fun t=>tst t (some x) (evE cf b ρ)
 | .not a,ρ=>bnd (evE cf a ρ) fun x=>bnd (truthF x) fun t=>some (.bool (!t))
 | .ite c a b,ρ=>bnd (evE cf c ρ) fun x=>bnd (truthF x) fun t=>tst t (evE cf a ρ) (evE cf b ρ)
 | .chain o o' a b c,ρ=>bnd (evE cf a ρ) fun x=>bnd (evE cf b ρ) fun y=>bnd (opF2 o x y) (chainF fun _=>bnd (evE cf c ρ) fun z=>opF2 o' y z)
 | .comp tg caps it cond elt,ρ=>bnd (evE cf it ρ) fun s=>bnd (seqOf s) fun xs=>
  bnd (compF (fun x=>bnd (bindT tg x) fun bs=>bnd (evE cf cond (bs++caps.map (ρ.getD · .un))) fun c=>bnd (truthF c) fun t=>
   tst t (bnd (evE cf elt (bs++caps.map (ρ.getD · .un))) eltF) (some none)) xs) fun r=>some (.list r)
 | .rng a,ρ=>bnd (evE cf a ρ) fun x=>rngI (.int 0) x
 | .prm a,ρ=>bnd (evE cf a ρ) (toldF cf)
 | .rng2 a b,ρ=>bnd (evE cf a ρ) fun x=>bnd (evE cf b ρ) fun y=>rngI x y
 | .dct ks vs,ρ=>bnd (evE cf vs ρ) (dctF ks)
 | .dgt a k d,ρ=>bnd (evE cf a ρ) fun x=>bnd (evE cf k ρ) fun y=>bnd (evE cf d ρ) fun z=>dgtF y z x
 | .lrep a n,ρ=>bnd (bnd (evE cf a ρ) lstF) fun x=>bnd (evE cf n ρ) fun y=>lrepF x y
 | .skey caps it key,ρ=>bnd (evE cf it ρ) fun s=>bnd (seqOf s) fun xs=>
  bnd (compF (fun x=>bnd (evE cf key (.val x::caps.map (ρ.getD · .un))) eltF) xs) fun ks=>bnd (intsOf ks) fun ns=>tst (decide (xs.length<64)) (some (.list (srtK ns xs))) none
@[simp] noncomputable def setMany:List Nat→List PV→Env→Option Env
 | [],[],ρ=>some ρ
 | i::is,x::xs,ρ=>setMany is xs (ρ.set i (.val x))
 | _,_,_=>none
noncomputable def bindS:Tg→PV→Env→Option Env
 | .one i,p,ρ=>some (ρ.set i (.val p))
 | .many is,.tuple xs,ρ=>setMany is xs ρ
 | .many _,_,_=>none
section
set_option autoImplicit true
@[simp] theorem bindS_e1:bindS (.one i) (p) (ρ)=some (ρ.set i (.val p)):=rfl
@[simp] theorem bindS_e2:bindS (.many is) (.tuple xs) (ρ)=setMany is xs ρ:=rfl
end
noncomputable def seqO (x:Option Out) (f:Env→Option Out) (_t:Tag f:=Tag.mk):Option Out:=match x with
 | none=>none
 | some (.nx ρ)=>f ρ
 | some o=>some o
@[simp] theorem seqO_none (f:Env→Option Out) (t:Tag f):seqO none f t=none:=rfl
@[simp] theorem seqO_nx (ρ:Env) (f:Env→Option Out) (t:Tag f):seqO (some (.nx ρ)) f t=f ρ:=rfl
@[simp] theorem seqO_rt (p:PV) (f:Env→Option Out) (t:Tag f):seqO (some (.rt p)) f t=some (.rt p):=rfl
@[simp] theorem seqO_bk (ρ:Env) (f:Env→Option Out) (t:Tag f):seqO (some (.bk ρ)) f t=some (.bk ρ):=rfl
@[simp] theorem seqO_ct (ρ:Env) (f:Env→Option Out) (t:Tag f):seqO (some (.ct ρ)) f t=some (.ct ρ):=rfl
noncomputable def turnO (x:Option Out) (f:Env→Option Out) (_t:Tag f:=Tag.mk):Option Out:=match x with
 | none=>none
 | some (.nx ρ)=>f ρ
 | some (.ct ρ)=>f ρ
 | some (.bk ρ)=>some (.nx ρ)
 | some (.rt p)=>some (.rt p)
@[simp] theorem turnO_none (f:Env→Option Out) (t:Tag f):turnO none f t=none:=rfl
@[simp] theorem turnO_nx (ρ:Env) (f:Env→Option Out) (t:Tag f):turnO (some (.nx ρ)) f t=f ρ:=rfl
@[simp] theorem turnO_rt (p:PV) (f:Env→Option Out) (t:Tag f):turnO (some (.rt p)) f t=some (.rt p):=rfl
@[simp] theorem turnO_bk (ρ:Env) (f:Env→Option Out) (t:Tag f):turnO (some (.bk ρ)) f t=some (.nx ρ):=rfl
@[simp] theorem turnO_ct (ρ:Env) (f:Env→Option Out) (t:Tag f):turnO (some (.ct ρ)) f t=f ρ:=rfl
noncomputable def loopF (tg:Tg) (g:Env→Option Out):List PV→Env→Option Out
 | [],ρ=>some (.nx ρ)
 | x::xs,ρ=>bnd (bindS tg x ρ) fun ρ1=>turnO (g ρ1) fun ρ2=>loopF tg g xs ρ2
noncomputable def ownF (i:Nat) (ρ:Env):PV→Option Out
 | .list ps=>some (.nx (ρ.set i (.own ps)))
 | _=>none
section
set_option autoImplicit true
@[simp] theorem ownF_e1 (i:Nat) (ρ:Env):ownF i ρ (.list ps)=some (.nx (ρ.set i (.own ps))):=rfl
end
noncomputable def appF (i:Nat) (ρ:Env) (p:PV):Sl→Option Out
 | .own ps=>if ps.length<1000000∧isDict p=false then some (.nx (ρ.set i (.own (ps++[p])))) else none
 | _=>none
section
set_option autoImplicit true
@[simp] theorem appF_e1 (i:Nat) (ρ:Env) (p:PV):appF i ρ p (.own ps)=if ps.length<1000000∧isDict p=false then some (.nx (ρ.set i (.own (ps++[p])))) else none:=rfl
end
noncomputable def putF' (i:Nat) (ρ:Env) (k p:PV):Sl→Option Out
 | .own ps=>match k with
  | .int j=>match ixN ps.length j with
   | some m=>tst (isDict p) none (some (.nx (ρ.set i (.own (ps.set m p)))))
   | none=>none
  | _=>none
 | _=>none
noncomputable def extF (i:Nat) (ρ:Env) (xs:List PV):Sl→Option Out
 | .own ps=>if ps.length+xs.length<1000000 then some (.nx (ρ.set i (.own (ps++xs)))) else none
 | _=>none
@[simp] theorem extF_e1 (i:Nat) (ρ:Env) (xs ps:List PV):extF i ρ xs (.own ps)=if ps.length+xs.length<1000000 then some (.nx (ρ.set i (.own (ps++xs)))) else none:=rfl
noncomputable def frzF (i:Nat) (ρ:Env):Sl→Option Out
 | .own ps=>some (.nx (ρ.set i (.val (.list ps))))
 | _=>some (.nx ρ)
section
set_option autoImplicit true
@[simp] theorem frzF_e1 (i:Nat) (ρ:Env):frzF i ρ (.own ps)=some (.nx (ρ.set i (.val (.list ps)))):=rfl
end
@[simp] noncomputable def evS (cf:Nat→List PV→Option PV):S→Env→Option Out
 | .nx,ρ=>some (.nx ρ)
 | .seq a b,ρ=>seqO (evS cf a ρ) fun ρ1=>evS cf b ρ1
 | .set i e,ρ=>bnd (evE cf e ρ) fun p=>some (.nx (ρ.set i (.val p)))
 | .own i e,ρ=>bnd (evE cf e ρ) (ownF i ρ)
 | .asg t e,ρ=>bnd (evE cf e ρ) fun p=>bnd (bindS t p ρ) fun ρ1=>some (.nx ρ1)
 | .ret e,ρ=>bnd (evE cf e ρ) fun p=>some (.rt p)
 | .ife c a b,ρ=>bnd (evE cf c ρ) fun x=>bnd (truthF x) fun t=>tst t (evS cf a ρ) (evS cf b ρ)
 | .loop t it body,ρ=>bnd (evE cf it ρ) fun s=>bnd (seqOf s) fun xs=>loopF t (evS cf body) xs ρ
 | .app i e,ρ=>bnd (evE cf e ρ) fun p=>bnd ρ[i]? (appF i ρ p)
 | .put i k e,ρ=>bnd (evE cf e ρ) fun p=>bnd (evE cf k ρ) fun q=>bnd ρ[i]? (putF' i ρ q p)
 | .ext i e,ρ=>bnd (evE cf e ρ) fun p=>bnd (seqOf p) fun xs=>bnd ρ[i]? (extF i ρ xs)
 | .frz i,ρ=>bnd ρ[i]? (frzF i ρ)
 | .brk,ρ=>some (.bk ρ)
 | .cnt,ρ=>some (.ct ρ)
structure Fn where
 np:Nat
 ns:Nat
 body:S
noncomputable def outV:Option Out→Option PV
 | some (.rt p)=>some p
 | some (.nx _)=>some .none
 | _=>none
section
set_option autoImplicit true
@[simp] theorem outV_e1:outV (some (.rt p))=some p:=rfl
@[simp] theorem outV_e2:outV (some (.nx zu))=some .none:=rfl
end
@[simp] noncomputable def start (F:Fn) (args:List PV):Env:=args.map .val++List.replicate (F.ns - F.np) .un
noncomputable abbrev Tab:=Nat→Option Fn
noncomputable def run (T:Tab):Nat→Nat→List PV→Option PV
 | 0,_,_=>none
 | k+1,f,args=>match T f with
  | none=>none
  | some F=>if args.length=F.np then outV (evS (run T k) F.body (start F args)) else none
noncomputable def isOwn:Sl→Bool
 | .own _=>true
 | _=>false
theorem run_succ {T:Tab} {k f:Nat} {args:List PV} {F:Fn} (h:T f=some F) (hl:args.length=F.np):
  run T (k+1) f args=outV (evS (run T k) F.body (start F args)):=by
 simp only [run,h,hl,if_true]
noncomputable def Le (cf cf':Nat→List PV→Option PV):Prop:=∀ f xs p,cf f xs=some p→cf' f xs=some p
theorem bind_le {α β:Type} {x x':Option α} {g g':α→Option β} {q:β} (hx:∀ a,x=some a→x'=some a) (hg:∀ a,g a=some q→g' a=some q)
  (h:bnd x g=some q):bnd x' g'=some q:=by
 cases hxa:x with
 | none=>rw [hxa] at h;cases h
 | some a=>rw [hxa] at h;rw [hx a hxa];exact hg a h
theorem compF_le {g g':PV→Option (Option PV)} (hg:∀ x o,g x=some o→g' x=some o):∀ (xs r:List PV),compF g xs=some r→compF g' xs=some r
 | [],r,h=>h
 | x::xs,r,h=>by
  unfold compF at h ⊢
  refine bind_le (hg x) (fun o h=>?_) h
  exact bind_le (compF_le hg xs) (fun _ h=>h) h
theorem toldF_le {cf cf':Nat→List PV→Option PV} (hc:Le cf cf'):∀ (x p:PV),toldF cf x=some p→toldF cf' x=some p:=by
 intro x p h
 cases x with
 | str x=>
  replace h:toldS cf x=some p:=h
  show toldS cf' x=some p
  unfold toldS at h ⊢
  cases hd:decide (x.length≤1000000) with
  | false=>rw [hd] at h;exact h
  | true=>
   rw [hd] at h
   cases hx:x=="-" with
   | true=>rw [hx] at h;exact h
   | false=>
    rw [hx] at h
    cases hq:demsF (Txt.split x " ; ") with
    | none=>rw [hq] at h;exact h
    | some ds=>rw [hq] at h;exact bind_le (hc _ _) (fun _ h=>h) h
 | _=>exact h
theorem evE_le {cf cf':Nat→List PV→Option PV} (hc:Le cf cf'):∀ (e:E) (ρ:Env) (p:PV),evE cf e ρ=some p→evE cf' e ρ=some p:=by
 intro e
 induction e with
 | var i=>intro ρ p h;exact h
 | peek i=>intro ρ p h;exact h
 | con q=>intro ρ p h;exact h
 | nil=>intro ρ p h;exact h
 | cons a t iha iht=>intro ρ p h;exact bind_le (iha ρ) (fun x h=>bind_le (iht ρ) (fun r h=>h) h) h
 | tup a iha=>intro ρ p h;exact bind_le (iha ρ) (fun r h=>h) h
 | lst a iha=>intro ρ p h;exact bind_le (iha ρ) (fun r h=>h) h
 | op1 o a iha=>intro ρ p h;exact bind_le (iha ρ) (fun r h=>h) h
 | op2 o a b iha ihb=>intro ρ p h;exact bind_le (iha ρ) (fun x h=>bind_le (ihb ρ) (fun r h=>h) h) h
 | sl a lo hi iha ihl ihh=>intro ρ p h;exact bind_le (iha ρ) (fun x h=>bind_le (ihl ρ) (fun r h=>bind_le (ihh ρ) (fun r h=>h) h) h) h
 | call f a iha=>
  intro ρ p h
  refine bind_le (iha ρ) (fun r h=>?_) h
  cases r with
  | tuple xs=>exact hc f xs p h
  | _=>exact h
 | and a b iha ihb=>
  intro ρ p h
  refine bind_le (iha ρ) (fun x h=>bind_le (fun _ h=>h) (fun t h=>?_) h) h
  cases t with
  | true=>exact ihb ρ p h
  | false=>exact h
 | or a b iha ihb=>
  intro ρ p h
  refine bind_le (iha ρ) (fun x h=>bind_le (fun _ h=>h) (fun t h=>?_) h) h
  cases t with
  | true=>exact h
  | false=>exact ihb ρ p h
 | not a iha=>intro ρ p h;exact bind_le (iha ρ) (fun x h=>h) h
 | ite c a b ihc iha ihb=>
  intro ρ p h
  refine bind_le (ihc ρ) (fun x h=>bind_le (fun _ h=>h) (fun t h=>?_) h) h
  cases t with
  | true=>exact iha ρ p h
  | false=>exact ihb ρ p h
 | chain o o' a b c iha ihb ihc=>
  intro ρ p h
  refine bind_le (iha ρ) (fun x h=>bind_le (ihb ρ) (fun y h=>bind_le (fun _ h=>h) (fun r h=>?_) h) h) h
  cases r with
  | bool t=>
   cases t with
   | true=>exact bind_le (ihc ρ) (fun z h=>h) h
   | false=>exact h
  | _=>exact h
 | comp tg caps it cond elt ihi ihc ihe=>
  intro ρ p h
  refine bind_le (ihi ρ) (fun s h=>bind_le (fun _ h=>h) (fun xs h=>?_) h) h
  refine bind_le (compF_le (fun x o h=>?_) xs) (fun _ h=>h) h
  refine bind_le (fun _ h=>h) (fun bs h=>?_) h
  refine bind_le (ihc _) (fun c h=>bind_le (fun _ h=>h) (fun t h=>?_) h) h
  cases t with
  | true=>exact bind_le (ihe _) (fun _ h=>h) h
  | false=>exact h
 | prm a iha=>intro ρ p h;exact bind_le (iha ρ) (toldF_le hc · p) h
 | rng a iha=>intro ρ p h;exact bind_le (iha ρ) (fun x h=>h) h
 | rng2 a b iha ihb=>intro ρ p h;exact bind_le (iha ρ) (fun x h=>bind_le (ihb ρ) (fun r h=>h) h) h
 | dct ks vs ih=>intro ρ p h;exact bind_le (ih ρ) (fun r h=>h) h
 | lrep a n iha ihn=>intro ρ p h;exact bind_le (fun _ h=>bind_le (iha ρ) (fun r h=>h) h) (fun x h=>bind_le (ihn ρ) (fun r h=>h) h) h
 | skey caps it key ihi ihk=>
  intro ρ p h
  refine bind_le (ihi ρ) (fun s h=>bind_le (fun _ h=>h) (fun xs h=>?_) h) h
  exact bind_le (compF_le (fun x o h=>bind_le (ihk _) (fun _ h=>h) h) xs) (fun _ h=>h) h
 | dgt a k d iha ihk ihd=>intro ρ p h;exact bind_le (iha ρ) (fun x h=>bind_le (ihk ρ) (fun r h=>bind_le (ihd ρ) (fun r h=>h) h) h) h
theorem seqO_le {x x':Option Out} {g g':Env→Option Out} {q:Out} (hx:∀ a,x=some a→x'=some a) (hg:∀ a o,g a=some o→g' a=some o)
  (h:seqO x g=some q):seqO x' g'=some q:=by
 cases hxa:x with
 | none=>rw [hxa] at h;cases h
 | some a=>
  rw [hxa] at h;rw [hx a hxa]
  cases a with
  | nx ρ=>exact hg ρ q h
  | _=>exact h
theorem turnO_le {x x':Option Out} {g g':Env→Option Out} {q:Out} (hx:∀ a,x=some a→x'=some a) (hg:∀ a o,g a=some o→g' a=some o)
  (h:turnO x g=some q):turnO x' g'=some q:=by
 cases hxa:x with
 | none=>rw [hxa] at h;cases h
 | some a=>
  rw [hxa] at h;rw [hx a hxa]
  cases a with
  | nx ρ=>exact hg ρ q h
  | ct ρ=>exact hg ρ q h
  | _=>exact h
theorem loopF_le {tg:Tg} {g g':Env→Option Out} (hg:∀ ρ o,g ρ=some o→g' ρ=some o):∀ (xs:List PV) (ρ:Env) (o:Out),loopF tg g xs ρ=some o→loopF tg g' xs ρ=some o
 | [],ρ,o,h=>h
 | x::xs,ρ,o,h=>by
  unfold loopF at h ⊢
  exact bind_le (fun _ h=>h) (fun ρ1 h=>turnO_le (hg ρ1) (fun ρ2 o h=>loopF_le hg xs ρ2 o h) h) h
theorem evS_le {cf cf':Nat→List PV→Option PV} (hc:Le cf cf'):∀ (s:S) (ρ:Env) (o:Out),evS cf s ρ=some o→evS cf' s ρ=some o:=by
 intro s
 induction s with
 | nx=>intro ρ o h;exact h
 | seq a b iha ihb=>intro ρ o h;exact seqO_le (iha ρ) ihb h
 | set i e=>intro ρ o h;exact bind_le (evE_le hc e ρ) (fun _ h=>h) h
 | own i e=>intro ρ o h;exact bind_le (evE_le hc e ρ) (fun _ h=>h) h
 | asg t e=>intro ρ o h;exact bind_le (evE_le hc e ρ) (fun _ h=>h) h
 | ret e=>intro ρ o h;exact bind_le (evE_le hc e ρ) (fun _ h=>h) h
 | ife c a b iha ihb=>
  intro ρ o h
  refine bind_le (evE_le hc c ρ) (fun x h=>bind_le (fun _ h=>h) (fun t h=>?_) h) h
  cases t with
  | true=>exact iha ρ o h
  | false=>exact ihb ρ o h
 | loop t it body ih=>
  intro ρ o h
  exact bind_le (evE_le hc it ρ) (fun x h=>bind_le (fun _ h=>h) (fun xs h=>loopF_le ih xs ρ o h) h) h
 | app i e=>intro ρ o h;exact bind_le (evE_le hc e ρ) (fun _ h=>h) h
 | put i k e=>intro ρ o h;exact bind_le (evE_le hc e ρ) (fun _ h=>bind_le (evE_le hc k ρ) (fun _ h=>h) h) h
 | ext i e=>intro ρ o h;exact bind_le (evE_le hc e ρ) (fun _ h=>h) h
 | frz i=>intro ρ o h;exact h
 | brk=>intro ρ o h;exact h
 | cnt=>intro ρ o h;exact h
theorem outV_le {x x':Option Out} {p:PV} (h:∀ o,x=some o→x'=some o) (hx:outV x=some p):outV x'=some p:=by
 cases e:x with
 | none=>rw [e] at hx;cases hx
 | some o=>rw [e] at hx;rw [h o e];exact hx
theorem run_le1 {T:Tab}:∀ k,Le (run T k) (run T (k+1))
 | 0=>fun f xs p h=>by cases h
 | k+1=>fun f xs p h=>by
  unfold run at h ⊢
  cases e:T f with
  | none=>rw [e] at h;cases h
  | some F=>
   rw [e] at h
   dsimp only at h ⊢
   by_cases hl:xs.length=F.np
   ·rw [if_pos hl] at h ⊢
    exact outV_le (fun o=>evS_le (run_le1 k) F.body _ o) h
   ·rw [if_neg hl] at h;cases h
theorem run_le {T:Tab} {k j f:Nat} {xs:List PV} {p:PV} (hk:k≤j) (h:run T k f xs=some p):run T j f xs=some p:=by
 induction hk with
 | refl=>exact h
 | step _ ih=>exact run_le1 _ f xs p ih
end DD
namespace DD
open PySem PySem.Spec PyProof.Rows L2
noncomputable abbrev St:=L2.St
noncomputable def keyOf:PV→Option Key
 | .int i=>some (.inl i)
 | .str x=>some (.inr x)
 | _=>none
mutual
noncomputable def Rp (K:PySem.W.Frag) (G:Hp):PV→V→Prop
 | .none,v=>v=.non
 | .bool b,v=>v=.bl b
 | .int i,v=>v=.int i
 | .str x,v=>v=.str x∧PyData.strOk x=true∧x.length≤16777216
 | .list ps,v=>∃ a vs,v=.ref a∧SqL K G a vs∧RpL K G ps vs
 | .tuple ps,v=>∃ a vs,v=.ref a∧SqT K G a vs∧RpL K G ps vs
 | .dict kvs,v=>∃ a l,v=.ref a∧Rd G a (.dK l)∧RpD K G kvs l
noncomputable def RpL (K:PySem.W.Frag) (G:Hp):List PV→List V→Prop
 | [],vs=>vs=[]
 | p::ps,vs=>∃ v r,vs=v::r∧(isDict p=false∧Rp K G p v)∧RpL K G ps r
noncomputable def RpD (K:PySem.W.Frag) (G:Hp):List (PV×PV)→List (Key×V)→Prop
 | [],l=>l=[]
 | (k,p)::kvs,l=>∃ key v r,l=(key,v)::r∧keyOf k=some key∧(isDict p=false∧Rp K G p v)∧RpD K G kvs r
end
noncomputable def RpA (K:PySem.W.Frag) (G:Hp):List PV→List V→Prop
 | [],vs=>vs=[]
 | p::ps,vs=>∃ v r,vs=v::r∧Rp K G p v∧RpA K G ps r
noncomputable def Sub (G H:Hp):Prop:=∀ a o,G a=some o→H a=some o
theorem Sub.refl (G:Hp):Sub G G:=fun _ _ h=>h
theorem Sub.trans {G H I:Hp} (a:Sub G H) (b:Sub H I):Sub G I:=fun x o h=>b x o (a x o h)
theorem Sub.rd {G H:Hp} (s:Sub G H) {a:Addr} {u:HO} (h:Rd G a u):Rd H a u:=by
 rcases h with h | ⟨o,h⟩
 ·exact .inl (s _ _ h)
 ·exact .inr ⟨o,s _ _ h⟩
theorem Sub.sqL {K:PySem.W.Frag} {G H:Hp} (s:Sub G H) {a:Addr} {xs:List V} (h:SqL K G a xs):SqL K H a xs:=h.elim (fun h=>.inl (s.rd h)) .inr
theorem Sub.sqT {K:PySem.W.Frag} {G H:Hp} (s:Sub G H) {a:Addr} {xs:List V} (h:SqT K G a xs):SqT K H a xs:=h.elim (fun h=>.inl (s.rd h)) .inr
mutual
theorem Rp.mono {K:PySem.W.Frag} {G H:Hp} (s:Sub G H):∀ {p:PV} {v:V},Rp K G p v→Rp K H p v
 | .none,_,h=>h
 | .bool _,_,h=>h
 | .int _,_,h=>h
 | .str _,_,h=>h
 | .list ps,_,h=>by
  obtain ⟨a,vs,e,q,r⟩:=(show ∃ a vs,_=V.ref a∧SqL K G a vs∧RpL K G ps vs from h)
  exact ⟨a,vs,e,s.sqL q,RpL.mono s r⟩
 | .tuple ps,_,h=>by
  obtain ⟨a,vs,e,q,r⟩:=(show ∃ a vs,_=V.ref a∧SqT K G a vs∧RpL K G ps vs from h)
  exact ⟨a,vs,e,s.sqT q,RpL.mono s r⟩
 | .dict kvs,_,h=>by
  obtain ⟨a,l,e,q,r⟩:=(show ∃ a l,_=V.ref a∧Rd G a (.dK l)∧RpD K G kvs l from h)
  exact ⟨a,l,e,s.rd q,RpD.mono s r⟩
theorem RpL.mono {K:PySem.W.Frag} {G H:Hp} (s:Sub G H):∀ {ps:List PV} {vs:List V},RpL K G ps vs→RpL K H ps vs
 | [],_,h=>h
 | p::ps,_,h=>by
  obtain ⟨v,r,e,⟨h0,h1⟩,h2⟩:=(show ∃ v r,_=v::r∧(isDict p=false∧Rp K G p v)∧RpL K G ps r from h)
  exact ⟨v,r,e,⟨h0,Rp.mono s h1⟩,RpL.mono s h2⟩
theorem RpD.mono {K:PySem.W.Frag} {G H:Hp} (s:Sub G H):∀ {kvs:List (PV×PV)} {l:List (Key×V)},RpD K G kvs l→RpD K H kvs l
 | [],_,h=>h
 | (k,p)::kvs,_,h=>by
  obtain ⟨key,v,r,e,h0,⟨hd,h1⟩,h2⟩:=(show ∃ key v r,_=(key,v)::r∧keyOf k=some key∧(isDict p=false∧Rp K G p v)∧RpD K G kvs r from h)
  exact ⟨key,v,r,e,h0,⟨hd,Rp.mono s h1⟩,RpD.mono s h2⟩
end
theorem RpA.mono {K:PySem.W.Frag} {G H:Hp} (s:Sub G H):∀ {ps:List PV} {vs:List V},RpA K G ps vs→RpA K H ps vs
 | [],_,h=>h
 | p::ps,_,h=>by
  obtain ⟨v,r,e,h1,h2⟩:=(show ∃ v r,_=v::r∧Rp K G p v∧RpA K G ps r from h)
  exact ⟨v,r,e,h1.mono s,RpA.mono s h2⟩
theorem RpL.args {K:PySem.W.Frag} {G:Hp}:∀ {ps:List PV} {vs:List V},RpL K G ps vs→RpA K G ps vs
 | [],_,h=>h
 | p::ps,_,h=>by
  obtain ⟨v,r,e,⟨_,h1⟩,h2⟩:=(show ∃ v r,_=v::r∧(isDict p=false∧Rp K G p v)∧RpL K G ps r from h)
  exact ⟨v,r,e,h1,RpL.args h2⟩
theorem RpA.list {K:PySem.W.Frag} {G:Hp}:∀ {ps:List PV} {vs:List V},RpA K G ps vs→anyD ps=false→RpL K G ps vs
 | [],_,h,_=>h
 | p::ps,_,h,hd=>by
  obtain ⟨v,r,e,h1,h2⟩:=(show ∃ v r,_=v::r∧Rp K G p v∧RpA K G ps r from h)
  rw [anyD,Bool.or_eq_false_iff] at hd
  exact ⟨v,r,e,⟨hd.1,h1⟩,RpA.list h2 hd.2⟩
theorem RpA.length {K:PySem.W.Frag} {G:Hp}:∀ {ps:List PV} {vs:List V},RpA K G ps vs→ps.length=vs.length
 | [],_,h=>by cases (show _=[] from h);rfl
 | p::ps,_,h=>by
  obtain ⟨v,r,rfl,_,h2⟩:=(show ∃ v r,_=v::r∧Rp K G p v∧RpA K G ps r from h)
  simp [RpA.length h2]
theorem RpA.get {K:PySem.W.Frag} {G:Hp}:∀ {ps:List PV} {vs:List V} {i:Nat} {p:PV},RpA K G ps vs→ps[i]?=some p→∃ v,vs[i]?=some v∧Rp K G p v
 | [],_,_,_,_,e=>by simp at e
 | q::ps,_,0,p,h,e=>by
  obtain ⟨v,r,rfl,h1,_⟩:=(show ∃ v r,_=v::r∧Rp K G q v∧RpA K G ps r from h)
  have e':q=p:=by simpa using e
  subst e'
  exact ⟨v,rfl,h1⟩
 | q::ps,_,i+1,p,h,e=>by
  obtain ⟨v,r,rfl,_,h2⟩:=(show ∃ v r,_=v::r∧Rp K G q v∧RpA K G ps r from h)
  obtain ⟨w,e1,e2⟩:=RpA.get (i:=i) h2 (by simpa using e)
  exact ⟨w,by simpa using e1,e2⟩
theorem RpA.nil {K:PySem.W.Frag} {G:Hp}:RpA K G [] []:=rfl
theorem RpA.cons {K:PySem.W.Frag} {G:Hp} {p:PV} {ps:List PV} {v:V} {vs:List V} (h:Rp K G p v) (r:RpA K G ps vs):RpA K G (p::ps) (v::vs):=⟨v,vs,rfl,h,r⟩
theorem RpL.length {K:PySem.W.Frag} {G:Hp}:∀ {ps:List PV} {vs:List V},RpL K G ps vs→ps.length=vs.length
 | [],_,h=>by cases (show _=[] from h);rfl
 | p::ps,_,h=>by
  obtain ⟨v,r,rfl,_,h2⟩:=(show ∃ v r,_=v::r∧(isDict p=false∧Rp K G p v)∧RpL K G ps r from h)
  simp [RpL.length h2]
theorem RpL.get {K:PySem.W.Frag} {G:Hp}:∀ {ps:List PV} {vs:List V} {i:Nat} {p:PV},RpL K G ps vs→ps[i]?=some p→∃ v,vs[i]?=some v∧isDict p=false∧Rp K G p v
 | [],_,_,_,_,e=>by simp at e
 | q::ps,_,0,p,h,e=>by
  obtain ⟨v,r,rfl,h1,_⟩:=(show ∃ v r,_=v::r∧(isDict q=false∧Rp K G q v)∧RpL K G ps r from h)
  have e':q=p:=by simpa using e
  subst e'
  exact ⟨v,rfl,h1⟩
 | q::ps,_,i+1,p,h,e=>by
  obtain ⟨v,r,rfl,_,h2⟩:=(show ∃ v r,_=v::r∧(isDict q=false∧Rp K G q v)∧RpL K G ps r from h)
  obtain ⟨w,e1,e2⟩:=RpL.get (i:=i) h2 (by simpa using e)
  exact ⟨w,by simpa using e1,e2⟩
theorem RpL.getV {K:PySem.W.Frag} {G:Hp} {ps:List PV} {vs:List V} {i:Nat} {v:V} (h:RpL K G ps vs) (e:vs[i]?=some v):∃ p,ps[i]?=some p∧isDict p=false∧Rp K G p v:=by
 have hl:=h.length
 have hi:i<vs.length:=(List.getElem?_eq_some_iff.mp e).1
 have e1:ps[i]?=some ps[i]:=List.getElem?_eq_getElem (by lia)
 obtain ⟨w,e2,r⟩:=h.get e1
 rw [e] at e2
 cases e2
 exact ⟨_,e1,r⟩
theorem RpL.append {K:PySem.W.Frag} {G:Hp}:∀ {ps qs:List PV} {vs ws:List V},RpL K G ps vs→RpL K G qs ws→RpL K G (ps++qs) (vs++ws)
 | [],_,_,_,h,h'=>by cases (show _=[] from h);exact h'
 | p::ps,_,_,_,h,h'=>by
  obtain ⟨v,r,rfl,h1,h2⟩:=(show ∃ v r,_=v::r∧(isDict p=false∧Rp K G p v)∧RpL K G ps r from h)
  exact ⟨v,_,rfl,h1,RpL.append h2 h'⟩
theorem RpL.nil {K:PySem.W.Frag} {G:Hp}:RpL K G [] []:=rfl
theorem RpL.cons {K:PySem.W.Frag} {G:Hp} {p:PV} {ps:List PV} {v:V} {vs:List V} (hd:isDict p=false) (h:Rp K G p v) (r:RpL K G ps vs):RpL K G (p::ps) (v::vs):=⟨v,vs,rfl,⟨hd,h⟩,r⟩
theorem RpL.one {K:PySem.W.Frag} {G:Hp} {p:PV} {v:V} (hd:isDict p=false) (h:Rp K G p v):RpL K G [p] [v]:=.cons hd h .nil
theorem RpL.take {K:PySem.W.Frag} {G:Hp}:∀ {ps:List PV} {vs:List V} (n:Nat),RpL K G ps vs→RpL K G (ps.take n) (vs.take n)
 | _,_,0,_=>rfl
 | [],_,_+1,h=>by cases (show _=[] from h);rfl
 | p::ps,_,n+1,h=>by
  obtain ⟨v,r,rfl,h1,h2⟩:=(show ∃ v r,_=v::r∧(isDict p=false∧Rp K G p v)∧RpL K G ps r from h)
  exact ⟨v,_,rfl,h1,RpL.take n h2⟩
theorem RpL.drop {K:PySem.W.Frag} {G:Hp}:∀ {ps:List PV} {vs:List V} (n:Nat),RpL K G ps vs→RpL K G (ps.drop n) (vs.drop n)
 | _,_,0,h=>h
 | [],_,_+1,h=>by cases (show _=[] from h);rfl
 | p::ps,_,n+1,h=>by
  obtain ⟨v,r,rfl,h1,h2⟩:=(show ∃ v r,_=v::r∧(isDict p=false∧Rp K G p v)∧RpL K G ps r from h)
  exact RpL.drop n h2
theorem RpL.reverse {K:PySem.W.Frag} {G:Hp}:∀ {ps:List PV} {vs:List V},RpL K G ps vs→RpL K G ps.reverse vs.reverse
 | [],_,h=>by cases (show _=[] from h);rfl
 | p::ps,_,h=>by
  obtain ⟨v,r,rfl,h1,h2⟩:=(show ∃ v r,_=v::r∧(isDict p=false∧Rp K G p v)∧RpL K G ps r from h)
  rw [List.reverse_cons,List.reverse_cons]
  exact RpL.append (RpL.reverse h2) (.one h1.1 h1.2)
structure Ext (G H G' H':Hp):Prop where
 hh:Sub H H'
 gg:Sub G G'
 gh:Sub G' H'
 old:∀ a o,H a=some o→G' a=G a
theorem Ext.refl {G H:Hp} (s:Sub G H):Ext G H G H:=⟨.refl _,.refl _,s,fun _ _ _=>rfl⟩
theorem Ext.trans {G H G1 H1 G2 H2:Hp} (a:Ext G H G1 H1) (b:Ext G1 H1 G2 H2):Ext G H G2 H2:=
 ⟨a.hh.trans b.hh,a.gg.trans b.gg,b.gh,fun x o h=>(b.old x o (a.hh x o h)).trans (a.old x o h)⟩
theorem Sub.upd {G H:Hp} (s:Sub G H) (a:Addr) (o:HO):Sub (L2.upd G a o) (L2.upd H a o):=fun b u h=>by
 by_cases e:b=a
 ·subst e;rw [upd_same] at h ⊢;exact h
 ·rw [upd_ne e] at h ⊢;exact s b u h
theorem Sub.fresh {G H:Hp} (s:Sub G H) {a:Addr} (h:H a=none):G a=none:=by
 cases e:G a with
 | none=>rfl
 | some o=>rw [s a o e] at h;cases h
theorem Sub.new {H:Hp} {a:Addr} (h:H a=none) (o:HO):Sub H (L2.upd H a o):=fun b u q=>by rw [upd_ne (ne_of_none q h)];exact q
theorem Ext.new {G H:Hp} (s:Sub G H) {a:Addr} (h:H a=none) (o:HO):Ext G H (L2.upd G a o) (L2.upd H a o):=
 ⟨.new h o,.new (s.fresh h) o,s.upd a o,fun b u q=>by rw [upd_ne (ne_of_none q h)]⟩
theorem Ext.own {G H:Hp} (s:Sub G H) {a:Addr} (h:H a=none) (o:HO):Ext G H G (L2.upd H a o):=
 ⟨.new h o,.refl _,s.trans (.new h o),fun _ _ _=>rfl⟩
noncomputable def Rk (K:PySem.W.Frag) (G H:Hp):PV→V→Prop
 | .list ps,v=>∃ a vs,v=.ref a∧SqL K H a vs∧RpL K G ps vs
 | p,v=>Rp K G p v
theorem Rp.rk {K:PySem.W.Frag} {G H:Hp} (s:Sub G H) {p:PV} {v:V} (h:Rp K G p v):Rk K G H p v:=by
 cases p with
 | list ps=>
  obtain ⟨a,vs,e,q,r⟩:=(show ∃ a vs,_=V.ref a∧SqL K G a vs∧RpL K G ps vs from h)
  exact ⟨a,vs,e,s.sqL q,r⟩
 | _=>exact h
theorem Rk.ext {K:PySem.W.Frag} {G H G' H':Hp} (x:Ext G H G' H') {p:PV} {v:V} (h:Rk K G H p v):Rk K G' H' p v:=by
 cases p with
 | list ps=>
  obtain ⟨a,vs,e,q,r⟩:=(show ∃ a vs,_=V.ref a∧SqL K H a vs∧RpL K G ps vs from h)
  exact ⟨a,vs,e,x.hh.sqL q,r.mono x.gg⟩
 | none=>exact Rp.mono (K:=K) (p:=.none) x.gg h
 | bool b=>exact Rp.mono (K:=K) (p:=.bool b) x.gg h
 | int i=>exact Rp.mono (K:=K) (p:=.int i) x.gg h
 | str y=>exact Rp.mono (K:=K) (p:=.str y) x.gg h
 | tuple ps=>exact Rp.mono (K:=K) (p:=.tuple ps) x.gg h
 | dict kvs=>exact Rp.mono (K:=K) (p:=.dict kvs) x.gg h
section
variable {X:Cx} {pins:List (Addr×Obj)} {σ:St} {G H:Hp} {s:Shared}
mutual
theorem Rp.reads (I:Inv X pins σ H s) (sb:Sub G H):∀ {p:PV} {v:V} {u:Value},isDict p=false→Rp X.K G p v→RelV v u→∃ as,Reads s.heap u p as
 | .none,_,_,_,h,r=>by cases (show _=V.non from h);cases (show _=Value.none from r);exact ⟨_,.none⟩
 | .bool b,_,_,_,h,r=>by cases (show _=V.bl b from h);cases (show _=Value.bool b from r);exact ⟨_,.bool b⟩
 | .int i,_,_,_,h,r=>by cases (show _=V.int i from h);obtain ⟨t,rfl⟩:=r;exact ⟨_,.int i t⟩
 | .str x,_,_,_,h,r=>by
  obtain ⟨e,_⟩:=(show _=V.str x∧_ from h)
  cases e;obtain ⟨t,rfl⟩:=r;exact ⟨_,.str x t⟩
 | .list ps,_,_,_,h,r=>by
  obtain ⟨a,vs,e,q,hr⟩:=(show ∃ a vs,_=V.ref a∧SqL X.K G a vs∧RpL X.K G ps vs from h)
  cases e;cases (show _=Value.ref a from r)
  obtain ⟨its,rv,⟨o,n,e,hc,_,hd⟩,_⟩:=I.list (sb.sqL q)
  obtain ⟨as,ra⟩:=RpL.reads I sb hr rv
  exact ⟨_,.list e hc hd (by simpa using ra)⟩
 | .tuple ps,_,_,_,h,r=>by
  obtain ⟨a,vs,e,q,hr⟩:=(show ∃ a vs,_=V.ref a∧SqT X.K G a vs∧RpL X.K G ps vs from h)
  cases e;cases (show _=Value.ref a from r)
  obtain ⟨its,rv,⟨o,e,hc,n,hd⟩,_⟩:=I.tuple (sb.sqT q)
  obtain ⟨as,ra⟩:=RpL.reads I sb hr rv
  exact ⟨_,.tuple e hc hd (by simpa using ra)⟩
 | .dict _,_,_,hd,_,_=>by cases hd
theorem RpL.reads (I:Inv X pins σ H s) (sb:Sub G H):∀ {ps:List PV} {vs:List V} {us:List Value},RpL X.K G ps vs→Vals vs us→∃ as,ReadsAll s.heap us ps as
 | [],_,_,h,r=>by cases (show _=[] from h);cases r;exact ⟨_,.nil⟩
 | p::ps,_,_,h,r=>by
  obtain ⟨v,w,e,h1,h2⟩:=(show ∃ v r,_=v::r∧(isDict p=false∧Rp X.K G p v)∧RpL X.K G ps r from h)
  subst e
  cases r with
  | cons r1 r2=>
   obtain ⟨as,a1⟩:=Rp.reads I sb h1.1 h1.2 r1
   obtain ⟨bs,a2⟩:=RpL.reads I sb h2 r2
   exact ⟨_,.cons a1 a2⟩
end
mutual
theorem Rp.lays {K:PySem.W.Frag}:∀ {p:PV} {v:V},isDict p=false→Rp K G p v→p.canLay0=true
 | .none,_,_,_=>by simp [PyData.canLay0]
 | .bool _,_,_,_=>by simp [PyData.canLay0]
 | .int _,_,_,_=>by simp [PyData.canLay0]
 | .str x,_,_,h=>by
  obtain ⟨_,e,_⟩:=(show _=V.str x∧PyData.strOk x=true∧_ from h)
  simpa [PyData.canLay0] using e
 | .list ps,_,_,h=>by
  obtain ⟨a,vs,e,q,hr⟩:=(show ∃ a vs,_=V.ref a∧SqL K G a vs∧RpL K G ps vs from h)
  simpa [PyData.canLay0] using RpL.lays hr
 | .tuple ps,_,_,h=>by
  obtain ⟨a,vs,e,q,hr⟩:=(show ∃ a vs,_=V.ref a∧SqT K G a vs∧RpL K G ps vs from h)
  simpa [PyData.canLay0] using RpL.lays hr
 | .dict _,_,hd,_=>by cases hd
theorem RpL.lays {K:PySem.W.Frag}:∀ {ps:List PV} {vs:List V},RpL K G ps vs→PyData.canLayAll0 ps=true
 | [],_,_=>by simp [PyData.canLayAll0]
 | p::ps,_,h=>by
  obtain ⟨v,w,e,h1,h2⟩:=(show ∃ v r,_=v::r∧(isDict p=false∧Rp K G p v)∧RpL K G ps r from h)
  simp [PyData.canLayAll0,Rp.lays h1.1 h1.2,RpL.lays h2]
end
theorem Rk.reads (I:Inv X pins σ H s) (sb:Sub G H) {p:PV} {v:V} {u:Value} (hd:isDict p=false) (h:Rk X.K G H p v) (r:RelV v u):∃ as,Reads s.heap u p as:=by
 cases p with
 | list ps=>
  obtain ⟨a,vs,e,q,hr⟩:=(show ∃ a vs,_=V.ref a∧SqL X.K H a vs∧RpL X.K G ps vs from h)
  cases e;cases (show _=Value.ref a from r)
  obtain ⟨its,rv,⟨o,n,e,hc,_,hd⟩,_⟩:=I.list q
  obtain ⟨as,ra⟩:=RpL.reads I sb hr rv
  exact ⟨_,.list e hc hd (by simpa using ra)⟩
 | none=>exact Rp.reads (p:=.none) I sb hd h r
 | bool b=>exact Rp.reads (p:=.bool b) I sb hd h r
 | int i=>exact Rp.reads (p:=.int i) I sb hd h r
 | str y=>exact Rp.reads (p:=.str y) I sb hd h r
 | tuple ps=>exact Rp.reads (p:=.tuple ps) I sb hd h r
 | dict kvs=>exact Rp.reads (p:=.dict kvs) I sb hd h r
theorem Rk.lays {K:PySem.W.Frag} {p:PV} {v:V} (hd:isDict p=false) (h:Rk K G H p v):p.canLay0=true:=by
 cases p with
 | list ps=>
  obtain ⟨a,vs,e,q,hr⟩:=(show ∃ a vs,_=V.ref a∧SqL K H a vs∧RpL K G ps vs from h)
  simpa [PyData.canLay0] using RpL.lays hr
 | none=>exact Rp.lays (K:=K) (G:=G) (p:=.none) hd h
 | bool b=>exact Rp.lays (K:=K) (G:=G) (p:=.bool b) hd h
 | int i=>exact Rp.lays (K:=K) (G:=G) (p:=.int i) hd h
 | str y=>exact Rp.lays (K:=K) (G:=G) (p:=.str y) hd h
 | tuple ps=>exact Rp.lays (K:=K) (G:=G) (p:=.tuple ps) hd h
 | dict kvs=>cases hd
end
noncomputable def Slot1 (K:PySem.W.Frag) (G H:Hp):Sl→Option V→Prop
 | .un,_=>True
 | .val p,o=>∃ v,o=some v∧Rp K G p v
 | .own ps,o=>∃ a vs,o=some (.ref a)∧H a=some (.lst vs)∧G a=none∧RpL K G ps vs
structure SR (K:PySem.W.Frag) (G H:Hp) (σ:St) (ρ:Env):Prop where
 len:σ.length=ρ.length
 sub:Sub G H
 get:∀ (i:Nat) (sl:Sl) (o:Option V),ρ[i]?=some sl→σ[i]?=some o→Slot1 K G H sl o
 apart:∀ (i j:Nat) (si sj:Sl) (a:Addr),i≠j→ρ[i]?=some si→ρ[j]?=some sj→isOwn si=true→isOwn sj=true→σ[i]?=some (some (.ref a))→σ[j]?≠some (some (.ref a))
theorem Slot1.ext {K:PySem.W.Frag} {G H G' H':Hp} (x:Ext G H G' H') {sl:Sl} {o:Option V} (h:Slot1 K G H sl o):Slot1 K G' H' sl o:=by
 cases sl with
 | un=>exact h
 | val p=>obtain ⟨v,e,r⟩:=h;exact ⟨v,e,r.mono x.gg⟩
 | own ps=>
  obtain ⟨a,vs,e,h1,h2,r⟩:=h
  exact ⟨a,vs,e,x.hh _ _ h1,(x.old _ _ h1).trans h2,r.mono x.gg⟩
theorem SR.ext {K:PySem.W.Frag} {G H G' H':Hp} {σ:St} {ρ:Env} (S:SR K G H σ ρ) (x:Ext G H G' H'):SR K G' H' σ ρ:=
 ⟨S.len,x.gh,fun i sl o e1 e2=>(S.get i sl o e1 e2).ext x,S.apart⟩
theorem SR.at {K:PySem.W.Frag} {G H:Hp} {σ:St} {ρ:Env} (S:SR K G H σ ρ) {i:Nat} {sl:Sl} (e:ρ[i]?=some sl):∃ o,σ[i]?=some o∧Slot1 K G H sl o:=by
 have hi:i<ρ.length:=(List.getElem?_eq_some_iff.mp e).1
 have hi':i<σ.length:=by rw [S.len];exact hi
 have e1:σ[i]?=some σ[i]:=List.getElem?_eq_getElem hi'
 exact ⟨_,e1,S.get i sl _ e e1⟩
theorem SR.setVal {K:PySem.W.Frag} {G H:Hp} {σ:St} {ρ:Env} (S:SR K G H σ ρ) {i:Nat} {p:PV} {v:V} (r:Rp K G p v):SR K G H (σ.set i (some v)) (ρ.set i (.val p)):=by
 refine ⟨by simpa using S.len,S.sub,fun j sl o e1 e2=>?_,fun j k sj sk a hjk e1 e2 o1 o2 e3=>?_⟩
 ·rw [List.getElem?_set] at e1 e2
  by_cases hij:i=j
  ·rw [if_pos hij] at e1 e2
   split at e1
   ·rename_i hl
    rw [if_pos (by rw [S.len];exact hl)] at e2
    cases e1;cases e2
    exact ⟨v,rfl,r⟩
   ·cases e1
  ·rw [if_neg hij] at e1 e2
   exact S.get j sl o e1 e2
 ·have own_ne:∀ (m:Nat) (sl:Sl),(ρ.set i (.val p))[m]?=some sl→isOwn sl=true→i≠m∧ρ[m]?=some sl:=fun m sl e h=>by
   rw [List.getElem?_set] at e
   by_cases hij:i=m
   ·rw [if_pos hij] at e
    split at e
    ·cases e;cases h
    ·cases e
   ·rw [if_neg hij] at e;exact ⟨hij,e⟩
  obtain ⟨n1,f1⟩:=own_ne j sj e1 o1
  obtain ⟨n2,f2⟩:=own_ne k sk e2 o2
  rw [List.getElem?_set_ne n1] at e3
  rw [List.getElem?_set_ne n2]
  exact S.apart j k sj sk a hjk f1 f2 o1 o2 e3
theorem line_eq:sizeLine=16777216:=sizeLine_eq
theorem strOk_append {x y:Str} (hx:PyData.strOk x=true) (hy:PyData.strOk y=true):PyData.strOk (x++y)=true:=by
 show (x.cps++y.cps).all _=true
 rw [Array.all_append]
 simp only [PyData.strOk] at hx hy
 rw [hx,hy];rfl
theorem length_append (x y:Str):(x++y).length=x.length+y.length:=by
 show (x.cps++y.cps).size=_
 rw [Array.size_append];rfl
noncomputable def rOp2 (K:PySem.W.Frag) (o:Op2):R2:=fun x y H Q=>∃ G p q r,Sub G H∧Rk K G H p x∧Rk K G H q y∧opF2 o p q=some r∧∀ v G' H',Ext G H G' H'→Rp K G' r v→Q v H'
noncomputable def rOp1 (K:PySem.W.Frag) (o:Op1):V→Hp→VK→Prop:=fun x H Q=>∃ G p r,Sub G H∧Rk K G H p x∧opF1 o p=some r∧∀ v G' H',Ext G H G' H'→Rp K G' r v→Q v H'
section
variable {X:Cx}
theorem op_catT0:OpR X (binaryOp .Add) (fun x y H Q=>∃ a b xs ys,x=.ref a∧y=.ref b∧SqT X.K H a xs∧SqT X.K H b ys∧xs.length+ys.length≤sizeLine∧
  (xs=[]→Q (.ref b) H)∧(xs≠[]→ys=[]→Q (.ref a) H)∧(xs≠[]→ys≠[]→∀ p,H p=none→Q (.ref p) (upd H p (.tup (xs++ys))))):=by
 intro pins s σ H x y v u Q I rx ry h
 obtain ⟨a,b,xs,ys,rfl,rfl,ha,hb,hz,q0,q1,q2⟩:=h
 cases rx
 cases ry
 obtain ⟨its,r1,p1,_⟩:=I.tuple ha
 obtain ⟨its2,r2,p2,_⟩:=I.tuple hb
 obtain ⟨⟨cls,dd,data,sl⟩,ho,hc,n,hd⟩:=id p1
 obtain ⟨⟨cls2,dd2,data2,sl2⟩,ho2,hc2,n2,hd2⟩:=id p2
 simp only at hc hd hc2 hd2
 subst hc hd hc2 hd2
 have e:its.toArray++its2.toArray=(its++its2).toArray:=by simp
 by_cases hv:its=[]
 ·exact concat_meets ⟨_,ho,rfl⟩ ⟨_,ho2,rfl⟩ noFill_tuple_add seq_tuple_add PySem.F.slot_tuple_add PySem.F.entry_tuple_add (PySem.F.args_tuple_add_2 _ _)
   (tuple_addW0 a b its.toArray its2.toArray n n2 dd dd2 sl sl2 (by simp [hv])) ⟨ho,ho2,.ref b,H,I,rfl,q0 (r1.nil_iff.mp hv)⟩
 ·have hx:xs≠[]:=fun z=>hv (r1.nil_iff.mpr z)
  by_cases hw:its2=[]
  ·exact concat_meets ⟨_,ho,rfl⟩ ⟨_,ho2,rfl⟩ noFill_tuple_add seq_tuple_add PySem.F.slot_tuple_add PySem.F.entry_tuple_add (PySem.F.args_tuple_add_2 _ _)
    (tuple_addW1 a b its.toArray its2.toArray n n2 dd dd2 sl sl2 (by simpa using hv) (by simp [hw])) ⟨ho,ho2,.ref a,H,I,rfl,q1 hx (r2.nil_iff.mp hw)⟩
  ·refine concat_meets ⟨_,ho,rfl⟩ ⟨_,ho2,rfl⟩ noFill_tuple_add seq_tuple_add PySem.F.slot_tuple_add PySem.F.entry_tuple_add (PySem.F.args_tuple_add_2 _ _)
    (tuple_addW2 a b its.toArray its2.toArray n n2 dd dd2 sl sl2 (by simpa using hv) (by simpa using hw) (by rw [List.size_toArray,List.size_toArray,← r1.length,← r2.length];exact hz)) ⟨ho,ho2,?_⟩
   rw [e]
   refine ⟨.ref s.heap.objs.size,_,I.laid (t':=s.toks) (o:=.tup (xs++ys)) (fun b ob q=>Heap.get?_push_of_some _ q) (Nat.le_refl _) ?_,rfl,q2 hx (fun w=>hw (r2.nil_iff.mpr w)) _ (I.hok.fresh (Nat.le_refl _))⟩
   exact ⟨by rw [List.length_append];exact hz,_,r1.append r2,IsTup.new _ _⟩
theorem op_catL0:OpR X (binaryOp .Add) (fun x y H Q=>∃ a b xs ys,x=.ref a∧y=.ref b∧SqL X.K H a xs∧SqL X.K H b ys∧xs.length+ys.length≤sizeLine∧∀ p,H p=none→Q (.ref p) (upd H p (.lst (xs++ys)))):=by
 intro pins s σ H x y v u Q I rx ry h
 obtain ⟨a,b,xs,ys,rfl,rfl,ha,hb,hz,q⟩:=h
 cases rx
 cases ry
 obtain ⟨its,r1,p1,_⟩:=I.list ha
 obtain ⟨its2,r2,p2,_⟩:=I.list hb
 obtain ⟨⟨cls,dd,data,sl⟩,ho,hc,n,hd⟩:=id p1.isList
 obtain ⟨⟨cls2,dd2,data2,sl2⟩,ho2,hc2,n2,hd2⟩:=id p2.isList
 simp only at hc hd hc2 hd2
 subst hc hd hc2 hd2
 have e:its.toArray++its2.toArray=(its++its2).toArray:=by simp
 refine concat_meets ⟨_,ho,rfl⟩ ⟨_,ho2,rfl⟩ noFill_list_add seq_list_add PySem.F.slot_list_add PySem.F.entry_list_add (PySem.F.args_list_add_2 _ _)
  (list_addW a b its.toArray its2.toArray n n2 dd dd2 sl sl2 (by rw [List.size_toArray,List.size_toArray,← r1.length,← r2.length];exact hz)) ⟨ho,ho2,?_⟩
 rw [e]
 refine ⟨.ref s.heap.objs.size,_,I.laid (t':=s.toks) (o:=.lst (xs++ys)) (fun b ob q=>Heap.get?_push_of_some _ q) (Nat.le_refl _) ?_,rfl,q _ (I.hok.fresh (Nat.le_refl _))⟩
 exact ⟨by rw [List.length_append];exact hz,_,0,r1.append r2,Heap.get?_push_size _ rfl⟩
theorem s_add:OpR X (binaryOp .Add) (rOp2 X.K .add):=by
 intro pins s σ H x y v u Q I rx ry h
 obtain ⟨G,p,q,r,sb,hp,hq,e,k⟩:=h
 cases p with
 | int i=>
  cases q with
  | int j=>
   cases (show some (PyData.int (i+j))=some r from e)
   cases (show x=.int i from hp);cases (show y=.int j from hq)
   exact op_add pins s σ H _ _ v u Q I rx ry ⟨i,j,rfl,rfl,k _ G H (.refl sb) rfl⟩
  | _=>exact nomatch (show none=some _ from e)
 | str a=>
  cases q with
  | str b=>
   have e':(if a.length+b.length≤16777216 then some (PyData.str (a++b)) else none)=some r:=e
   by_cases hl:a.length+b.length≤16777216
   ·rw [if_pos hl] at e'
    cases e'
    obtain ⟨e1,s1,l1⟩:=(show x=.str a∧PyData.strOk a=true∧a.length≤16777216 from hp)
    obtain ⟨e2,s2,l2⟩:=(show y=.str b∧PyData.strOk b=true∧b.length≤16777216 from hq)
    subst e1 e2
    exact op_add_str pins s σ H _ _ v u Q I rx ry ⟨a,b,rfl,rfl,by rw [line_eq];exact hl,k _ G H (.refl sb) ⟨rfl,strOk_append s1 s2,by rw [length_append];exact hl⟩⟩
   ·rw [if_neg hl] at e';cases e'
  | _=>exact nomatch (show none=some _ from e)
 | tuple xs=>
  cases q with
  | tuple ys=>
   have e':(if xs.length+ys.length≤16777216 then some (PyData.tuple (xs++ys)) else none)=some r:=e
   by_cases hl:xs.length+ys.length≤16777216
   ·rw [if_pos hl] at e'
    cases e'
    obtain ⟨a,vs,rfl,q1,r1⟩:=(show ∃ a vs,x=V.ref a∧SqT X.K G a vs∧RpL X.K G xs vs from hp)
    obtain ⟨b,ws,rfl,q2,r2⟩:=(show ∃ a vs,y=V.ref a∧SqT X.K G a vs∧RpL X.K G ys vs from hq)
    refine op_catT0 pins s σ H _ _ v u Q I rx ry ⟨a,b,vs,ws,rfl,rfl,sb.sqT q1,sb.sqT q2,by rw [line_eq,← r1.length,← r2.length];exact hl,fun z=>?_,fun z1 z2=>?_,fun _ _ l hn=>?_⟩
    ·have z':xs=[]:=List.length_eq_zero_iff.mp (by rw [r1.length,z];rfl)
     exact k _ G H (.refl sb) ⟨b,ws,rfl,q2,by rw [z'];exact r2⟩
    ·have z':ys=[]:=List.length_eq_zero_iff.mp (by rw [r2.length,z2];rfl)
     exact k _ G H (.refl sb) ⟨a,vs,rfl,q1,by rw [z',List.append_nil];exact r1⟩
    ·have x1:=Ext.new sb hn (.tup (vs++ws))
     exact k _ _ _ x1 ⟨l,_,rfl,SqT.of upd_same,(r1.append r2).mono x1.gg⟩
   ·rw [if_neg hl] at e';cases e'
  | _=>exact nomatch (show none=some _ from e)
 | list xs=>
  cases q with
  | list ys=>
   have e':(if xs.length+ys.length≤16777216 then some (PyData.list (xs++ys)) else none)=some r:=e
   by_cases hl:xs.length+ys.length≤16777216
   ·rw [if_pos hl] at e'
    cases e'
    obtain ⟨a,vs,rfl,q1,r1⟩:=(show ∃ a vs,x=V.ref a∧SqL X.K H a vs∧RpL X.K G xs vs from hp)
    obtain ⟨b,ws,rfl,q2,r2⟩:=(show ∃ a vs,y=V.ref a∧SqL X.K H a vs∧RpL X.K G ys vs from hq)
    refine op_catL0 pins s σ H _ _ v u Q I rx ry ⟨a,b,vs,ws,rfl,rfl,q1,q2,by rw [line_eq,← r1.length,← r2.length];exact hl,fun l hn=>?_⟩
    have x1:=Ext.new sb hn (.lst (vs++ws))
    exact k _ _ _ x1 ⟨l,_,rfl,SqL.of upd_same,(r1.append r2).mono x1.gg⟩
   ·rw [if_neg hl] at e';cases e'
  | _=>exact nomatch (show none=some _ from e)
 | _=>cases q <;> exact nomatch (show none=some _ from e)
theorem s_sub:OpR X (binaryOp .Sub) (rOp2 X.K .sub):=by
 intro pins s σ H x y v u Q I rx ry h
 obtain ⟨G,p,q,r,sb,hp,hq,e,k⟩:=h
 cases p with
 | int i=>
  cases q with
  | int j=>
   cases (show some (PyData.int (i - j))=some r from e)
   cases (show x=.int i from hp);cases (show y=.int j from hq)
   exact op_sub pins s σ H _ _ v u Q I rx ry ⟨i,j,rfl,rfl,k _ G H (.refl sb) rfl⟩
  | _=>exact nomatch (show none=some _ from e)
 | _=>cases q <;> exact nomatch (show none=some _ from e)
theorem small_of {i:Int} (h:small i=true):-(2 ^ 64)<i∧i<2 ^ 64:=by
 unfold small at h
 rw [Bool.and_eq_true] at h
 exact ⟨of_decide_eq_true h.1,of_decide_eq_true h.2⟩
theorem s_fdiv:OpR X (binaryOp .FloorDiv) (rOp2 X.K .fdiv):=by
 intro pins s σ H x y v u Q I rx ry h
 obtain ⟨G,p,q,r,sb,hp,hq,e,k⟩:=h
 cases p with
 | int i=>
  cases q with
  | int j=>
   have e':(if 0<j∧j<1073741824 then some (PyData.int (i / j)) else none)=some r:=e
   by_cases hl:0<j∧j<1073741824
   ·rw [if_pos hl] at e'
    cases e'
    cases (show x=.int i from hp);cases (show y=.int j from hq)
    exact op_fdiv pins s σ H _ _ v u Q I rx ry ⟨i,j,rfl,rfl,hl,k _ G H (.refl sb) rfl⟩
   ·rw [if_neg hl] at e';cases e'
  | _=>exact nomatch (show none=some _ from e)
 | _=>cases q <;> exact nomatch (show none=some _ from e)
theorem s_mod:OpR X (binaryOp .Mod) (rOp2 X.K .mod):=by
 intro pins s σ H x y v u Q I rx ry h
 obtain ⟨G,p,q,r,sb,hp,hq,e,k⟩:=h
 cases p with
 | int i=>
  cases q with
  | int j=>
   have e':(if 0<j then some (PyData.int (i % j)) else none)=some r:=e
   by_cases hl:0<j
   ·rw [if_pos hl] at e'
    cases e'
    cases (show x=.int i from hp);cases (show y=.int j from hq)
    exact op_mod pins s σ H _ _ v u Q I rx ry ⟨i,j,rfl,rfl,hl,k _ G H (.refl sb) rfl⟩
   ·rw [if_neg hl] at e';cases e'
  | _=>exact nomatch (show none=some _ from e)
 | _=>cases q <;> exact nomatch (show none=some _ from e)
theorem s_cmpI {op:CmpOp} {f:Int→Int→Bool} {o:Op2} (ho:OpR X (compareOp op) (rI0 fun i j=>.bl (f i j))) (hf:opF2 o=cmpI f):OpR X (compareOp op) (rOp2 X.K o):=by
 intro pins s σ H x y v u Q I rx ry h
 obtain ⟨G,p,q,r,sb,hp,hq,e,k⟩:=h
 rw [hf] at e
 cases p with
 | int i=>
  cases q with
  | int j=>
   cases (show some (PyData.bool (f i j))=some r from e)
   cases (show x=.int i from hp);cases (show y=.int j from hq)
   exact ho pins s σ H _ _ v u Q I rx ry ⟨i,j,rfl,rfl,k _ G H (.refl sb) rfl⟩
  | _=>exact nomatch (show none=some _ from e)
 | _=>cases q <;> exact nomatch (show none=some _ from e)
theorem s_le:OpR X (compareOp .LtE) (rOp2 X.K .le):=s_cmpI op_le rfl
theorem s_gt:OpR X (compareOp .Gt) (rOp2 X.K .gt):=s_cmpI op_gt rfl
theorem s_ge:OpR X (compareOp .GtE) (rOp2 X.K .ge):=s_cmpI op_ge rfl
theorem eqF_inv {p q:PV} {b:Bool} (h:eqF p q=some b):(isDict p=false∧isDict q=false)∧min p.depth q.depth≤180∧b=PyData.eqv p q:=by
 unfold eqF at h
 split at h
 ·cases h
 ·rename_i hn
  split at h
  ·rename_i hd
   cases h
   refine ⟨?_,hd,rfl⟩
   cases e1:isDict p <;> cases e2:isDict q <;> simp [e1,e2] at hn ⊢
  ·cases h
theorem s_eq (hu:X.A.units+190<cLine):OpR X (compareOp .Eq) (rOp2 X.K .eq):=by
 intro pins s σ H x y v u Q I rx ry h
 obtain ⟨G,p,q,r,sb,hp,hq,e,k⟩:=h
 obtain ⟨b,e1,e2⟩:=bnd_eq.mp (show bnd (eqF p q) (fun b=>some (PyData.bool b))=some r from e)
 cases e2
 obtain ⟨⟨dp,dq⟩,hd,rfl⟩:=eqF_inv e1
 obtain ⟨as,ra⟩:=hp.reads I sb dp rx
 obtain ⟨bs,rb⟩:=hq.reads I sb dq ry
 exact SeqAt.compareEq_reads ra rb (hp.lays dp) (hq.lays dq) (by lia) ⟨.bl _,H,I,rfl,k _ G H (.refl sb) rfl⟩
theorem s_ne (hu:X.A.units+190<cLine):OpR X (compareOp .NotEq) (rOp2 X.K .ne):=by
 intro pins s σ H x y v u Q I rx ry h
 obtain ⟨G,p,q,r,sb,hp,hq,e,k⟩:=h
 obtain ⟨b,e1,e2⟩:=bnd_eq.mp (show bnd (eqF p q) (fun b=>some (PyData.bool (!b)))=some r from e)
 cases e2
 obtain ⟨⟨dp,dq⟩,hd,rfl⟩:=eqF_inv e1
 obtain ⟨as,ra⟩:=hp.reads I sb dp rx
 obtain ⟨bs,rb⟩:=hq.reads I sb dq ry
 exact SeqAt.compareNe_reads ra rb (hp.lays dp) (hq.lays dq) (by lia) ⟨.bl _,H,I,rfl,k _ G H (.refl sb) rfl⟩
theorem inF_inv {p q:PV} {b:Bool} (h:inF p q=some b):isDict p=false∧∃ ys,(q=.list ys∨q=.tuple ys)∧min (PyData.depthAll ys) p.depth≤180∧b=ys.any fun y=>PyData.eqv y p:=by
 cases q with
 | list ys=>
  simp only [inF] at h
  split at h
  ·cases h
  ·rename_i hn
   split at h
   ·rename_i hd
    cases h
    exact ⟨by simpa using hn,ys,.inl rfl,hd,rfl⟩
   ·cases h
 | tuple ys=>
  simp only [inF] at h
  split at h
  ·cases h
  ·rename_i hn
   split at h
   ·rename_i hd
    cases h
    exact ⟨by simpa using hn,ys,.inr rfl,hd,rfl⟩
   ·cases h
 | _=>cases h
theorem canAll_of {p:PV} {ys:List PV} (h:p=.list ys∨p=.tuple ys) (hc:p.canLay0=true):PyData.canLayAll0 ys=true:=by
 rcases h with rfl | rfl <;> simpa [PyData.canLay0] using hc
theorem s_in (hu:X.A.units+190<cLine):OpR X (compareOp .In) (rOp2 X.K .inn):=by
 intro pins s σ H x y v u Q I rx ry h
 obtain ⟨G,p,q,r,sb,hp,hq,e,k⟩:=h
 obtain ⟨b,e1,e2⟩:=bnd_eq.mp (show bnd (inF p q) (fun b=>some (PyData.bool b))=some r from e)
 cases e2
 obtain ⟨dp,ys,hy,hd,rfl⟩:=inF_inv e1
 have dq:isDict q=false:=by rcases hy with rfl | rfl <;> rfl
 obtain ⟨as,ra⟩:=hp.reads I sb dp rx
 obtain ⟨bs,rb⟩:=hq.reads I sb dq ry
 have hc:=canAll_of hy (hq.lays dq)
 have fin:EP X pins σ Q (.bool (ys.any fun y=>PyData.eqv y p)) s:=⟨.bl _,H,I,rfl,k _ G H (.refl sb) rfl⟩
 rcases hy with rfl | rfl
 ·exact SeqAt.in_list_reads rb ra hc (hp.lays dp) (by lia) fin
 ·exact SeqAt.in_tuple_reads rb ra hc (hp.lays dp) (by lia) fin
theorem s_nin (hu:X.A.units+190<cLine):OpR X (compareOp .NotIn) (rOp2 X.K .nin):=by
 intro pins s σ H x y v u Q I rx ry h
 obtain ⟨G,p,q,r,sb,hp,hq,e,k⟩:=h
 obtain ⟨b,e1,e2⟩:=bnd_eq.mp (show bnd (inF p q) (fun b=>some (PyData.bool (!b)))=some r from e)
 cases e2
 obtain ⟨dp,ys,hy,hd,rfl⟩:=inF_inv e1
 have dq:isDict q=false:=by rcases hy with rfl | rfl <;> rfl
 obtain ⟨as,ra⟩:=hp.reads I sb dp rx
 obtain ⟨bs,rb⟩:=hq.reads I sb dq ry
 have hc:=canAll_of hy (hq.lays dq)
 have fin:EP X pins σ Q (.bool (!ys.any fun y=>PyData.eqv y p)) s:=⟨.bl _,H,I,rfl,k _ G H (.refl sb) rfl⟩
 rcases hy with rfl | rfl
 ·exact SeqAt.notIn_list_reads rb ra hc (hp.lays dp) (by lia) fin
 ·exact SeqAt.notIn_tuple_reads rb ra hc (hp.lays dp) (by lia) fin
end
section
variable {X:Cx}
theorem at_rel {K:PySem.W.Frag} {G:Hp} {ps:List PV} {vs:List V} {i:Int} {p:PV} (r:RpL K G ps vs) (e:DD.atI ps i=some p):∃ v,L2.atI vs i=some v∧isDict p=false∧Rp K G p v:=by
 unfold DD.atI at e
 cases q:DD.ixN ps.length i with
 | none=>rw [q] at e;cases e
 | some j=>
  rw [q] at e
  obtain ⟨v,ev,rv⟩:=r.get (i:=j) e
  refine ⟨v,?_,rv⟩
  unfold L2.atI
  have q':L2.ixN vs.length i=some j:=by rw [← r.length];exact q
  rw [q'];exact ev
theorem strOk_char {x:Str} {c:Nat} (h:PyData.strOk x=true) (hc:c∈x.cps.toList):PyData.strOk ⟨#[c]⟩=true:=by
 unfold PyData.strOk at h ⊢
 rw [Array.all_eq_true_iff_forall_mem] at h ⊢
 intro y hy
 have:y=c:=by simpa using hy
 subst this
 exact h y (by simpa using hc)
theorem subTail_of {prog:Program} {w:World} {A:Around} {E:Value→Shared→Prop} {s:Shared} {value slice:Expr} {o i:Value} {T id:String} {Q:Value→Shared→Prop}
  (hl:typeLookup (.type T) "__getitem__"=pure (some (.builtin id))) (hs:subscripted slice false o i=operate [o,i] (getItem o i)) (hT:s.TypeIs o T) (h:wpAny (model prog w) A (getItem o i) Q E s):
  wpAny (model prog w) A (subscriptTail value slice o i) Q E s:=by
 unfold subscriptTail
 refine wpAny_bind ?_
 rw [getitemInPython_of_ne hT.not_modules]
 refine wpAny_bind (wpAny_specialOf hT hl ?_)
 have fin:wpAny (model prog w) A (subscripted slice false o i) (fun r s₃=>wpAny (model prog w) A (letTemporaryGo value o r >>= fun _=>pure r) Q E s₃) E s:=by
  rw [hs]
  exact wpAny_operating (wpAny_mono h (fun r s₃ h₃=>wpAny_bind (wpAny_letTemporaryGo (wpAny_pure h₃))) fun _ _ x=>x)
 first
  | exact wpAny_pure (wpAny_bind fin)
  | exact wpAny_pure fin
  | exact wpAny_bind (wpAny_pure (wpAny_bind fin))
theorem keyEq_of {k q:PV} {a b:Key} (ha:keyOf k=some a) (hb:keyOf q=some b):keyEq k q=decide (a=b):=by
 cases k with
 | int i=>
  cases (show some (Sum.inl i:Key)=some a from ha)
  cases q with
  | int j=>cases (show some (Sum.inl j:Key)=some b from hb);rw [key_ll];rfl
  | str y=>cases (show some (Sum.inr y:Key)=some b from hb);rw [key_lr];rfl
  | _=>cases hb
 | str x=>
  cases (show some (Sum.inr x:Key)=some a from ha)
  cases q with
  | int j=>cases (show some (Sum.inl j:Key)=some b from hb);rw [key_rl];rfl
  | str y=>
   cases (show some (Sum.inr y:Key)=some b from hb)
   rw [key_rr]
   show (x==y)=_
   by_cases e:x=y
   ·subst e;simp
   ·rw [beq_eq_false_iff_ne.mpr e,decide_eq_false e]
  | _=>cases hb
 | _=>cases ha
theorem dlook_rel {K:PySem.W.Frag} {G:Hp} {q:PV} {key:Key} (hk:keyOf q=some key):∀ {kvs:List (PV×PV)} {l:List (Key×V)},RpD K G kvs l→
  (∀ r,dlook q kvs=some r→∃ w,valV l key=some w∧isDict r=false∧Rp K G r w)∧(dlook q kvs=none→valV l key=none)
 | [],_,h=>by
  cases (show _=[] from h)
  exact ⟨fun r e=>(by cases e),fun _=>rfl⟩
 | (k,p)::kvs,_,h=>by
  obtain ⟨key',v,r,rfl,h0,⟨hd,h1⟩,h2⟩:=(show ∃ key v r,_=(key,v)::r∧keyOf k=some key∧(isDict p=false∧Rp K G p v)∧RpD K G kvs r from h)
  obtain ⟨i1,i2⟩:=dlook_rel hk h2
  have ek:=keyEq_of h0 hk
  by_cases e:key'=key
  ·rw [decide_eq_true e] at ek
   refine ⟨fun r' e'=>?_,fun e'=>?_⟩
   ·rw [dlook,if_pos ek] at e'
    cases e'
    exact ⟨v,valV_pos (p:=(key',v)) e,hd,h1⟩
   ·rw [dlook,if_pos ek] at e';cases e'
  ·rw [decide_eq_false e] at ek
   refine ⟨fun r' e'=>?_,fun e'=>?_⟩
   ·rw [dlook,if_neg (by rw [ek];decide)] at e'
    rw [valV_neg (p:=(key',v)) e];exact i1 r' e'
   ·rw [dlook,if_neg (by rw [ek];decide)] at e'
    rw [valV_neg (p:=(key',v)) e];exact i2 e'
theorem key_V {K:PySem.W.Frag} {G H:Hp} {q:PV} {y:V} {key:Key} (hk:keyOf q=some key) (h:Rk K G H q y):y=kV key:=by
 cases q with
 | int i=>cases (show some (Sum.inl i:Key)=some key from hk);exact h
 | str x=>cases (show some (Sum.inr x:Key)=some key from hk);exact h.1
 | _=>cases hk
theorem isKey_of {q:PV} (h:isKey q=true):∃ key,keyOf q=some key:=by
 cases q with
 | int i=>exact ⟨_,rfl⟩
 | str x=>exact ⟨_,rfl⟩
 | _=>cases h
theorem tst_some {α:Type} {t:Bool} {x:Option α} {r:α} (h:tst t x none=some r):t=true∧x=some r:=by
 cases t with
 | true=>exact ⟨rfl,h⟩
 | false=>cases h
theorem s_ixD (hu:X.A.units+190<cLine) {kvs:List (PV×PV)} {q r:PV} {G:Hp} {value slice:Expr} {pins:List (Addr×Obj)} {s:Shared} {σ:St} {H:Hp} {x y:V} {v u:Value} {Q:VK} (I:Inv X pins σ H s) (rx:RelV x v) (ry:RelV y u) (sb:Sub G H)
  (hp:Rk X.K G H (.dict kvs) x) (hq:Rk X.K G H q y) (e:tst (isKey q) (dlook q kvs) none=some r) (k:∀ w,Rp X.K G r w→Q w H) (hs:subscripted slice false v u=operate [v,u] (getItem v u)):
  wpAny (model X.prog X.w) X.A (subscriptTail value slice v u) (EP X pins σ Q) X.xe s:=by
 obtain ⟨e1,e2⟩:=tst_some e
 obtain ⟨key,hk⟩:=isKey_of e1
 obtain ⟨a,l,rfl,hl,rd⟩:=(show ∃ a l,x=V.ref a∧Rd G a (.dK l)∧RpD X.K G kvs l from hp)
 obtain ⟨w,ew,_,rw'⟩:=(dlook_rel hk rd).1 r e2
 have ey:=key_V hk hq
 subst ey
 cases (show v=Value.ref a from rx)
 have g:DGet H a (kV key) (some w):=.inl ⟨l,key,sb.rd hl,rfl,ew.symm⟩
 exact subTail_of PySem.F.slot_dict_getitem.lookup hs (dict_typeIs I g) (d_getItem (by lia) I g ry fun w' s3 I3 r3=>⟨w,H,I3,r3,k w rw'⟩)
theorem s_ix (hu:X.A.units+190<cLine):IxR X (rOp2 X.K .ix):=by
 intro value slice pins s σ H x y v u Q I rx ry h hs
 obtain ⟨G,p,q,r,sb,hp,hq,e,k⟩:=h
 by_cases hd:isDict p=true
 ·cases p with
  | dict kvs=>exact s_ixD hu I rx ry sb hp hq e (fun w rw'=>k w G H (.refl sb) rw') hs
  | _=>cases hd
 cases q with
 | int i=>
  cases (show y=.int i from hq)
  cases p with
  | tuple xs=>
   obtain ⟨a,vs,rfl,q1,r1⟩:=(show ∃ a vs,x=V.ref a∧SqT X.K G a vs∧RpL X.K G xs vs from hp)
   obtain ⟨w,ew,_,rw'⟩:=at_rel r1 (show DD.atI xs i=some r from e)
   exact ix_tup value slice pins s σ H _ _ v u Q I rx ry ⟨a,vs,i,w,rfl,rfl,sb.sqT q1,ew,k _ G H (.refl sb) rw'⟩ hs
  | list xs=>
   obtain ⟨a,vs,rfl,q1,r1⟩:=(show ∃ a vs,x=V.ref a∧SqL X.K H a vs∧RpL X.K G xs vs from hp)
   obtain ⟨w,ew,_,rw'⟩:=at_rel r1 (show DD.atI xs i=some r from e)
   exact ix_list value slice pins s σ H _ _ v u Q I rx ry ⟨a,vs,i,w,rfl,rfl,q1,ew,k _ G H (.refl sb) rw'⟩ hs
  | str z=>
   obtain ⟨rfl,so,sl⟩:=(show x=.str z∧PyData.strOk z=true∧z.length≤16777216 from hp)
   obtain ⟨c,ec,er⟩:=bnd_eq.mp (show bnd (DD.atI z.cps.toList i) (fun c=>some (PyData.str ⟨#[c]⟩))=some r from e)
   cases er
   have hm:c∈z.cps.toList:=by
    obtain ⟨j,_,ej,_⟩:=atI_get (show L2.atI z.cps.toList i=some c from ec)
    exact List.mem_of_getElem? ej
   exact ix_str value slice pins s σ H _ _ v u Q I rx ry ⟨z,i,c,rfl,rfl,by rw [line_eq];exact sl,ec,k _ G H (.refl sb) ⟨rfl,strOk_char so hm,by show 1≤16777216;lia⟩⟩ hs
  | dict kvs=>exact absurd rfl hd
  | _=>exact nomatch (show none=some _ from e)
 | _=>cases p <;> first | exact absurd rfl hd | exact nomatch (show none=some _ from e)
theorem sIx_eq (n d:Nat) (o:Option Int):DD.sIx n d o=HT.sIx n d o:=by cases o <;> rfl
theorem cut_rel {K:PySem.W.Frag} {G:Hp} {ps:List PV} {vs:List V} (lo hi:Option Int) (r:RpL K G ps vs):RpL K G (cut ps lo hi) (cutV vs lo hi):=by
 unfold cut cutV
 rw [sIx_eq,sIx_eq,r.length]
 exact (r.drop _).take _
theorem getItem_tuple_whole {prog:Program} {w:World} {A:Around} {E:Value→Shared→Prop} {s:Shared} {t sl:Addr} {items:Array Value} {vl vu:Value} {lo hi:Option Int} {Q:Value→Shared→Prop} (ht:IsTup s.heap t items) (hs:s.heap.IsSliceOf sl vl vu .none)
  (pl:IsPart vl lo) (pu:IsPart vu hi) (h0:HT.sIx items.size 0 lo=0) (h1:HT.sIx items.size items.size hi=items.size) (h:Q (.ref t) s):wpAny (model prog w) A (getItem (.ref t) (.ref sl)) Q E s:=by
 obtain ⟨os,hos,hcs,hds⟩:=id hs
 have hTs:s.TypeIs (.ref sl) "slice":=⟨os,hos,hcs⟩
 unfold getItem
 try with_reducible refine wpAny_holding ?_
 first | refine wpAny_bind (wpAny_pure ?_) | skip
 refine wpAny_bind (wpAny_sequenceKey ht.typeIs (by decide) ?_)
 refine wpAny_bind (wpAny_callSpecial?_slot (name:=Str.ofString "__getitem__") ht.typeIs PyProof.Rows.slot_tuple_getitem
  (wpAny_call_entry PyProof.Rows.slot_tuple_getitem ht.typeIs entry_tuple_getitem ?_ (args_tuple_getitem _ _)))
 show wpAny _ _ (Builtin.Tuple.tupleItemsOf (.ref t) >>= _) _ _ s
 refine wpAny_bind (tupleItemsOf_ ht ?_)
 refine wpAny_bind (wpAny_typeOf hTs ?_)
 rw [if_pos (by decide)]
 refine wpAny_bind (HT.sliceApplied_gen hs pl pu ?_)
 rw [h0,h1]
 show wpAny _ _ (if (((0:Nat):Int)==0&&(1:Int)==1&&(items.size - 0)==items.size)=true then _ else _) _ _ s
 rw [if_pos (by simp)]
 refine wpAny_bind (m:=Builtin.Tuple.tupleIsExact (.ref t)) (wpAny_bind (wpAny_typeOf ht.typeIs (wpAny_pure ?_)))
 rw [if_pos (by decide)]
 first
  | exact wpAny_bind (wpAny_rule (wpAny_pure ⟨_,rfl,wpAny_pure h⟩))
  | exact wpAny_bind (wpAny_rule (wpAny_bind (wpAny_pure (wpAny_pure ⟨_,rfl,wpAny_pure h⟩))))
  | exact wpAny_bind (wpAny_bind (wpAny_rule (wpAny_pure ⟨_,rfl,wpAny_pure h⟩)))
noncomputable def rSl (K:PySem.W.Frag):V→Option Int→Option Int→Hp→VK→Prop:=fun x lo hi H Q=>∃ G p r,Sub G H∧Rk K G H p x∧cutF lo hi p=some r∧∀ v G' H',Ext G H G' H'→Rp K G' r v→Q v H'
theorem slice_ok {z:Str} {lo hi:Option Int} (h:PyData.strOk z=true):PyData.strOk (Txt.slice z lo hi)=true:=by
 unfold Txt.slice
 split
 ·exact h
 ·unfold PyData.strOk at h ⊢
  rw [Array.all_eq_true_iff_forall_mem] at h ⊢
  intro y hy
  obtain ⟨i,_,hi⟩:=List.mem_filterMap.mp (by simpa using hy)
  exact h y (Array.mem_of_getElem? hi)
theorem part_val {v:Value} {o:Option Int} (h:IsPart v o):∃ l:Option (Int×Tok),v=partValue l∧l.map (·.1)=o:=by
 cases h with
 | none=>exact ⟨none,rfl,rfl⟩
 | int i t=>exact ⟨some (i,t),rfl,rfl⟩
theorem sl_str:SlR X (fun x lo hi H Q=>∃ z,x=.str z∧z.length≤sizeLine∧Q (.str (Txt.slice z lo hi)) H):=by
 intro pins s σ H x v vl vu lo hi sl Q I rx hs pl pu h
 obtain ⟨z,rfl,hz,q⟩:=h
 obtain ⟨t,rfl⟩:=rx
 obtain ⟨l,rfl,rfl⟩:=part_val pl
 obtain ⟨u,rfl,rfl⟩:=part_val pu
 refine ⟨"str",_,PySem.F.slot_str_getitem.lookup,typeIs_str _ _ _,wpAny_getItem_str_slice (l:=l) (u:=u) (st:=none) hs rfl ?_⟩
 exact post_val_or_str ⟨Nat.le_trans (Txt.slice_le z _ _) hz,fun t' k=>⟨.str (Txt.slice z (l.map (·.1)) (u.map (·.1))),H,I.tok k,⟨_,rfl⟩,q⟩⟩
theorem s_sl:SlR X (rSl X.K):=by
 intro pins s σ H x v vl vu lo hi sl Q I rx hs pl pu h
 obtain ⟨G,p,r,sb,hp,e,k⟩:=h
 cases p with
 | tuple xs=>
  cases (show some (PyData.tuple (cut xs lo hi))=some r from e)
  obtain ⟨a,vs,rfl,q1,r1⟩:=(show ∃ a vs,x=V.ref a∧SqT X.K G a vs∧RpL X.K G xs vs from hp)
  by_cases hw:HT.sIx vs.length 0 lo=0∧HT.sIx vs.length vs.length hi=vs.length
  ·cases rx
   obtain ⟨its,rv,ht,hz⟩:=I.tuple (sb.sqT q1)
   have hlen:its.toArray.size=vs.length:=by rw [List.size_toArray];exact rv.length.symm
   refine ⟨"tuple",_,PyProof.Rows.slot_tuple_getitem.lookup,ht.typeIs,getItem_tuple_whole ht hs pl pu (by rw [hlen];exact hw.1) (by rw [hlen];exact hw.2) ⟨.ref a,H,I,rfl,k _ G H (.refl sb) ⟨a,vs,rfl,q1,?_⟩⟩⟩
   have hc:cut xs lo hi=xs:=by
    unfold cut
    rw [sIx_eq,sIx_eq,r1.length,hw.1,hw.2,List.drop_zero,Nat.sub_zero,← r1.length,List.take_length]
   rw [hc];exact r1
  ·refine sl_tup pins s σ H _ v vl vu lo hi sl Q I rx hs pl pu ⟨a,vs,rfl,sb.sqT q1,hw,fun l hf=>?_⟩
   have x1:=Ext.new sb hf (.tup (cutV vs lo hi))
   exact k _ _ _ x1 ⟨l,_,rfl,SqT.of upd_same,(cut_rel lo hi r1).mono x1.gg⟩
 | list xs=>
  cases (show some (PyData.list (cut xs lo hi))=some r from e)
  obtain ⟨a,vs,rfl,q1,r1⟩:=(show ∃ a vs,x=V.ref a∧SqL X.K H a vs∧RpL X.K G xs vs from hp)
  refine sl_list pins s σ H _ v vl vu lo hi sl Q I rx hs pl pu ⟨a,vs,rfl,q1,fun l hf=>?_⟩
  have x1:=Ext.new sb hf (.lst (cutV vs lo hi))
  exact k _ _ _ x1 ⟨l,_,rfl,SqL.of upd_same,(cut_rel lo hi r1).mono x1.gg⟩
 | str z=>
  cases (show some (PyData.str (Txt.slice z lo hi))=some r from e)
  obtain ⟨rfl,so,sz⟩:=(show x=.str z∧PyData.strOk z=true∧z.length≤16777216 from hp)
  exact sl_str pins s σ H _ v vl vu lo hi sl Q I rx hs pl pu ⟨z,rfl,by rw [line_eq];exact sz,k _ G H (.refl sb) ⟨rfl,slice_ok so,Nat.le_trans (Txt.slice_le z lo hi) sz⟩⟩
 | _=>exact nomatch (show none=some _ from e)
noncomputable def rC1 (K:PySem.W.Frag) (o:Op1):List V→Hp→VK→Prop:=fun xs H Q=>∃ x,xs=[x]∧rOp1 K o x H Q
theorem s_len:CallR X (.builtin "len") (rC1 X.K .len):=by
 intro pins s σ H xs us Q I r h
 obtain ⟨x,rfl,G,p,q,sb,hp,e,k⟩:=h
 cases p with
 | tuple ps=>
  cases (show some (PyData.int ps.length)=some q from e)
  obtain ⟨a,vs,rfl,q1,r1⟩:=(show ∃ a vs,x=V.ref a∧SqT X.K G a vs∧RpL X.K G ps vs from hp)
  exact call_len_seq pins s σ H _ us Q I r ⟨a,vs,rfl,.inr (sb.sqT q1),k _ G H (.refl sb) (by rw [r1.length];rfl)⟩
 | list ps=>
  cases (show some (PyData.int ps.length)=some q from e)
  obtain ⟨a,vs,rfl,q1,r1⟩:=(show ∃ a vs,x=V.ref a∧SqL X.K H a vs∧RpL X.K G ps vs from hp)
  exact call_len_seq pins s σ H _ us Q I r ⟨a,vs,rfl,.inl q1,k _ G H (.refl sb) (by rw [r1.length];rfl)⟩
 | str z=>
  cases (show some (PyData.int z.length)=some q from e)
  obtain ⟨rfl,so,sl⟩:=(show x=.str z∧PyData.strOk z=true∧z.length≤16777216 from hp)
  exact call_len_str pins s σ H _ us Q I r ⟨z,rfl,by rw [line_eq];exact sl,k _ G H (.refl sb) rfl⟩
 | _=>exact nomatch (show none=some _ from e)
theorem s_toTuple:CallR X (.type "tuple") (rC1 X.K .toTuple):=by
 intro pins s σ H xs us Q I r h
 obtain ⟨x,rfl,G,p,q,sb,hp,e,k⟩:=h
 cases p with
 | tuple ps=>
  cases (show some (PyData.tuple ps)=some q from e)
  obtain ⟨a,vs,rfl,q1,r1⟩:=(show ∃ a vs,x=V.ref a∧SqT X.K G a vs∧RpL X.K G ps vs from hp)
  exact call_tuple_of pins s σ H _ us Q I r ⟨a,vs,rfl,.inr ⟨sb.sqT q1,k _ G H (.refl sb) ⟨a,vs,rfl,q1,r1⟩⟩⟩
 | list ps=>
  cases (show some (PyData.tuple ps)=some q from e)
  obtain ⟨a,vs,rfl,q1,r1⟩:=(show ∃ a vs,x=V.ref a∧SqL X.K H a vs∧RpL X.K G ps vs from hp)
  refine call_tuple_of pins s σ H _ us Q I r ⟨a,vs,rfl,.inl ⟨q1,fun l hf=>?_⟩⟩
  have x1:=Ext.new sb hf (.tup vs)
  exact k _ _ _ x1 ⟨l,vs,rfl,SqT.of upd_same,r1.mono x1.gg⟩
 | _=>exact nomatch (show none=some _ from e)
theorem s_toInt:CallR X (.type "int") (rC1 X.K .toInt):=by
 intro pins s σ H xs us Q I r h
 obtain ⟨x,rfl,G,p,q,sb,hp,e,k⟩:=h
 cases p with
 | int i=>
  cases (show some (PyData.int i)=some q from e)
  cases (show x=.int i from hp)
  exact call_int1 pins s σ H _ us Q I r (.inl ⟨i,rfl,k _ G H (.refl sb) rfl⟩)
 | bool b=>
  cases (show some (PyData.int (if b then 1 else 0))=some q from e)
  cases (show x=.bl b from hp)
  exact call_int1 pins s σ H _ us Q I r (.inr ⟨b,rfl,k _ G H (.refl sb) rfl⟩)
 | _=>exact nomatch (show none=some _ from e)
noncomputable def rIsi (K:PySem.W.Frag) (o:Op1) (T:String):List V→Hp→VK→Prop:=fun xs H Q=>∃ x,xs=[x,.ty T]∧rOp1 K o x H Q
theorem isi_ok {o:Op1} {T:String} (hn:∀ b,opF1 o .none=some (.bool b)→PySem.W.kitOne X.K (.type "NoneType") (.type T)=some b) (hb:∀ c b,opF1 o (.bool c)=some (.bool b)→PySem.W.kitOne X.K (.type "bool") (.type T)=some b)
  (hi:∀ c b,opF1 o (.int c)=some (.bool b)→PySem.W.kitOne X.K (.type "int") (.type T)=some b) (hs:∀ c b,opF1 o (.str c)=some (.bool b)→PySem.W.kitOne X.K (.type "str") (.type T)=some b)
  (hl:∀ c b,opF1 o (.list c)=some (.bool b)→PySem.W.kitOne X.K (.type "list") (.type T)=some b) (ht:∀ c b,opF1 o (.tuple c)=some (.bool b)→PySem.W.kitOne X.K (.type "tuple") (.type T)=some b)
  (hbool:∀ p r,opF1 o p=some r→∃ b,r=.bool b) (hdct:∀ kvs r,opF1 o (.dict kvs)=some r→False):CallR X (.builtin "isinstance") (rIsi X.K o T):=by
 intro pins s σ H xs us Q I r h
 obtain ⟨x,rfl,G,p,q,sb,hp,e,k⟩:=h
 obtain ⟨u,w',rfl,rx,ry⟩:=vals2 r
 cases (show w'=Value.type T from ry)
 obtain ⟨b,rfl⟩:=hbool p q e
 have fin:∀ tk,EP X pins σ Q (.bool b) {s with toks:=tk}:=fun tk=>⟨.bl b,H,I.tok tk,rfl,k _ G H (.refl sb) rfl⟩
 cases p with
 | none=>cases (show x=.non from hp);cases (show u=Value.none from rx);exact PySem.W.kia_one PySem.W.kitx_none I.kIn True.intro (hn b e) (fun z=>nomatch z) fin
 | bool c=>cases (show x=.bl c from hp);cases (show u=Value.bool c from rx);exact PySem.W.kia_one PySem.W.kitx_bool I.kIn True.intro (hb c b e) (fun z=>nomatch z) fin
 | int c=>cases (show x=.int c from hp);obtain ⟨t,rfl⟩:=(show ∃ t,u=Value.int c t from rx);exact PySem.W.kia_one PySem.W.kitx_int I.kIn True.intro (hi c b e) (fun z=>nomatch z) fin
 | str c=>
  obtain ⟨rfl,_⟩:=(show x=.str c∧_ from hp)
  obtain ⟨t,rfl⟩:=(show ∃ t,u=Value.str c t from rx);exact PySem.W.kia_one PySem.W.kitx_str I.kIn True.intro (hs c b e) (fun z=>nomatch z) fin
 | list c=>
  obtain ⟨a,vs,rfl,q1,r1⟩:=(show ∃ a vs,x=V.ref a∧SqL X.K H a vs∧RpL X.K G c vs from hp)
  cases (show u=Value.ref a from rx)
  obtain ⟨its,_,⟨o',n,h1,h2,_⟩,_⟩:=I.list q1
  exact PySem.W.kia_one PySem.W.kitx_list I.kIn ⟨o',h1,h2⟩ (hl c b e) (fun z=>nomatch z) fin
 | tuple c=>
  obtain ⟨a,vs,rfl,q1,r1⟩:=(show ∃ a vs,x=V.ref a∧SqT X.K G a vs∧RpL X.K G c vs from hp)
  cases (show u=Value.ref a from rx)
  obtain ⟨its,_,⟨o',h1,h2,_⟩,_⟩:=I.tuple (sb.sqT q1)
  exact PySem.W.kia_one PySem.W.kitx_tuple I.kIn ⟨o',h1,h2⟩ (ht c b e) (fun z=>nomatch z) fin
 | dict kvs=>exact (hdct kvs _ e).elim
end
noncomputable abbrev CF:=Nat→List PV→Option PV
noncomputable def isPeek:E→Bool
 | .peek _=>true
 | _=>false
noncomputable def RS (K:PySem.W.Frag) (ie:E) (G H:Hp) (p:PV) (v:V):Prop:=if isPeek ie=true then Rk K G H p v else Rp K G p v
theorem RS.rk {K:PySem.W.Frag} {ie:E} {G H:Hp} {p:PV} {v:V} (s:Sub G H) (h:RS K ie G H p v):Rk K G H p v:=by
 unfold RS at h
 split at h
 ·exact h
 ·exact h.rk s
theorem RS.rp {K:PySem.W.Frag} {ie:E} {G H:Hp} {p:PV} {v:V} (hp:isPeek ie=false) (h:RS K ie G H p v):Rp K G p v:=by
 unfold RS at h
 rw [hp] at h
 exact h
theorem RS.of {K:PySem.W.Frag} {ie:E} {G H:Hp} {p:PV} {v:V} (hp:isPeek ie=false) (h:Rp K G p v):RS K ie G H p v:=by
 unfold RS
 rw [hp]
 exact h
noncomputable def tE (cf:CF) (K:PySem.W.Frag) (ie:E):TE:=fun σ H Q=>∃ G ρ p,SR K G H σ ρ∧evE cf ie ρ=some p∧∀ v G' H',Ext G H G' H'→RS K ie G' H' p v→Q v H'
noncomputable def tT (cf:CF) (K:PySem.W.Frag) (ie:E):TT:=fun σ H Q=>∃ G ρ p b,SR K G H σ ρ∧evE cf ie ρ=some p∧truthF p=some b∧∀ G' H',Ext G H G' H'→Q b H'
noncomputable def tA (cf:CF) (K:PySem.W.Frag) (ie:E):TA:=fun σ H Q=>∃ G ρ ps,SR K G H σ ρ∧evE cf ie ρ=some (.tuple ps)∧∀ vs G' H',Ext G H G' H'→RpA K G' ps vs→Q vs H'
structure Snd (X:Cx) (cf:CF) (ie:E) (e:Expr):Prop where
 pe:PE X e (tE cf X.K ie)
 pt:PT X e (tT cf X.K ie)
section
variable {X:Cx} {cf:CF}
theorem _root_.L2.PE.weak {e:Expr} {t t':TE} (h:PE X e t) (w:∀ σ H Q,t' σ H Q→t σ H Q):PE X e t':=fun pins s σ H Q I q=>h pins s σ H Q I (w σ H Q q)
theorem _root_.L2.PT.weak {e:Expr} {t t':TT} (h:PT X e t) (w:∀ σ H Q,t' σ H Q→t σ H Q):PT X e t':=fun pins s σ H Q I q=>h pins s σ H Q I (w σ H Q q)
theorem _root_.L2.PW.weak {e:Expr} {t t':TT} (h:PW X e t) (w:∀ σ H Q,t' σ H Q→t σ H Q):PW X e t':=fun wh pins s σ H Q I q=>h wh pins s σ H Q I (w σ H Q q)
theorem _root_.L2.PA.weak {es:List Expr} {t t':TA} (h:PA X es t) (w:∀ σ H Q,t' σ H Q→t σ H Q):PA X es t':=fun pos pins s σ H Q I q=>h pos pins s σ H Q I (w σ H Q q)
theorem truV {K:PySem.W.Frag} {G H:Hp} {p:PV} {v:V} {b:Bool} (sb:Sub G H) (h:Rk K G H p v) (e:truthF p=some b):TruV K v H b:=by
 cases p with
 | none=>cases (show v=.non from h);cases (show some false=some b from e);exact (rfl:false=false)
 | bool c=>cases (show v=.bl c from h);have e':c=b:=Option.some.inj e;subst e';exact (rfl:c=c)
 | int i=>cases (show v=.int i from h);cases (show some (i != 0)=some b from e);exact (rfl:(i != 0)=(i != 0))
 | str x=>
  obtain ⟨rfl,_,hl⟩:=(show v=.str x∧PyData.strOk x=true∧x.length≤16777216 from h)
  cases (show some (x.length != 0)=some b from e)
  refine (⟨by rw [line_eq];exact hl,?_⟩:x.length≤sizeLine∧(x.length != 0)=((x.length:Int) != 0))
  cases hx:x.length with
  | zero=>rfl
  | succ n=>simp;lia
 | list ps=>
  obtain ⟨a,vs,rfl,q,r⟩:=(show ∃ a vs,v=V.ref a∧SqL K H a vs∧RpL K G ps vs from h)
  cases (show some (!ps.isEmpty)=some b from e)
  have hl:=r.length
  refine Or.inl ⟨vs,q,?_⟩
  cases ps <;> cases vs <;> simp_all
 | tuple ps=>
  obtain ⟨a,vs,rfl,q,r⟩:=(show ∃ a vs,v=V.ref a∧SqT K G a vs∧RpL K G ps vs from h)
  cases (show some (!ps.isEmpty)=some b from e)
  have hl:=r.length
  refine Or.inr (Or.inl ⟨vs,sb.sqT q,?_⟩)
  cases ps <;> cases vs <;> simp_all
 | dict _=>cases (show none=some b from e)
theorem Snd.plain {ie:E} {e:Expr} (h:PE X e (tE cf X.K ie)) (he:∀ whole,isTrue e X.env whole=(do let v ← whole;standAt e.pos;holding [v] (truthy v))):Snd X cf ie e:=by
 refine ⟨h,(pt_truth h he).weak fun σ H Q ⟨G,ρ,p,b,S,e1,e2,k⟩=>?_⟩
 exact ⟨G,ρ,p,S,e1,fun v G' H' x r=>⟨b,truV x.gh (r.rk x.gh) e2,k G' H' x⟩⟩
theorem snd_var {i:Nat} {x:Str} {pos:Pos} (hN:X.N[i]?=some x) (hv:Vis X.env.scope x) (hd:(x==("__debug__":Str))=false) (hcd:(x==("__classdict__":Str))=false):Snd X cf (.var i) (.Name x pos):=by
 refine .plain ((pe_var hN hv hd hcd).weak fun σ H Q ⟨G,ρ,p,S,e,k⟩=>?_) (fun _=>rfl)
 obtain ⟨sl,e1,e2⟩:=bnd_eq.mp (show bnd ρ[i]? Sl.get=some p from e)
 cases sl with
 | val q=>
  cases (show some q=some p from e2)
  obtain ⟨o,eo,v,rfl,r⟩:=S.at e1
  exact ⟨v,eo,k v G H (.refl S.sub) (.of rfl r)⟩
 | un=>cases (show none=some p from e2)
 | own ps=>cases (show none=some p from e2)
theorem snd_peek {i:Nat} {x:Str} {pos:Pos} (hN:X.N[i]?=some x) (hv:Vis X.env.scope x) (hd:(x==("__debug__":Str))=false) (hcd:(x==("__classdict__":Str))=false):Snd X cf (.peek i) (.Name x pos):=by
 refine .plain ((pe_var hN hv hd hcd).weak fun σ H Q ⟨G,ρ,p,S,e,k⟩=>?_) (fun _=>rfl)
 obtain ⟨sl,e1,e2⟩:=bnd_eq.mp (show bnd ρ[i]? Sl.look=some p from e)
 cases sl with
 | val q=>
  have e3:q=p:=Option.some.inj e2
  subst e3
  obtain ⟨o,eo,v,rfl,r⟩:=S.at e1
  exact ⟨v,eo,k v G H (.refl S.sub) (show Rk X.K G H q v from r.rk S.sub)⟩
 | own ps=>
  cases (show some (PyData.list ps)=some p from e2)
  obtain ⟨o,eo,a,vs,rfl,h1,h2,r⟩:=S.at e1
  exact ⟨_,eo,k _ G H (.refl S.sub) (show Rk X.K G H (.list ps) (.ref a) from ⟨a,vs,rfl,SqL.of h1,r⟩)⟩
 | un=>cases (show none=some p from e2)
theorem pe_con {e:Expr} {p:PV} {v:V} (h:PE X e (tC v)) (r:∀ G,Rp X.K G p v):PE X e (tE cf X.K (.con p)):=
 h.weak fun σ H Q ⟨G,ρ,q,S,e,k⟩=>by
  cases (show some p=some q from e)
  exact k v G H (.refl S.sub) (.of rfl (r G))
theorem tst_none {α:Type} {t:Bool} {x:Option α} {r:α} (h:tst t none x=some r):t=false∧x=some r:=by
 cases t with
 | true=>cases h
 | false=>exact ⟨rfl,h⟩
noncomputable def plainE:Expr→Bool
 | .Starred ..=>false
 | _=>true
theorem star_of {e:Expr} (h:plainE e=true) (es:List Expr) (env:PySem.Env):starEach (e::es) env=(false,eval e env)::starEach es env:=by
 cases e <;> first | rfl | (exact absurd (show false=true from h) Bool.false_ne_true)
theorem snd_nil:PA X [] (tA cf X.K .nil):=pa_nil.weak fun σ H Q ⟨G,ρ,ps,S,e,k⟩=>by
 cases (show some (PyData.tuple [])=some (.tuple ps) from e)
 exact k [] G H (.refl S.sub) .nil
theorem snd_cons {ih it:E} {e:Expr} {es:List Expr} (h:PE X e (tE cf X.K ih)) (hr:PA X es (tA cf X.K it)) (hk:isPeek ih=false) (hs:plainE e=true):PA X (e::es) (tA cf X.K (.cons ih it)):=
 (pa_cons h hr (star_of hs _ _)).weak fun σ H Q ⟨G,ρ,ps,S,e,k⟩=>by
  obtain ⟨x,e1,e2⟩:=bnd_eq.mp (show bnd (evE cf ih ρ) (fun x=>bnd (evE cf it ρ) (consF x))=some (.tuple ps) from e)
  obtain ⟨r,e3,e4⟩:=bnd_eq.mp e2
  cases r with
  | tuple xs=>
   cases (show some (PyData.tuple (x::xs))=some (.tuple ps) from e4)
   exact ⟨G,ρ,x,S,e1,fun v G1 H1 x1 r1=>⟨G1,ρ,xs,S.ext x1,e3,fun vs G2 H2 x2 r2=>k (v::vs) G2 H2 (x1.trans x2) (.cons ((r1.rp hk).mono x2.gg) r2)⟩⟩
  | _=>cases (show none=some (PyData.tuple ps) from e4)
noncomputable def argN:E→Option Nat
 | .nil=>some 0
 | .cons _ t=>(argN t).map (·+1)
 | _=>none
theorem args_len:∀ (a:E) (n:Nat) (ρ:Env) (p:PV),argN a=some n→evE cf a ρ=some p→∃ ps,p=.tuple ps∧ps.length=n
 | .nil,n,ρ,p,hn,e=>by
  cases (show some 0=some n from hn)
  cases (show some (PyData.tuple [])=some p from e)
  exact ⟨[],rfl,rfl⟩
 | .cons h t,n,ρ,p,hn,e=>by
  obtain ⟨x,e1,e2⟩:=bnd_eq.mp (show bnd (evE cf h ρ) (fun x=>bnd (evE cf t ρ) (consF x))=some p from e)
  obtain ⟨r,e3,e4⟩:=bnd_eq.mp e2
  cases hm:argN t with
  | none=>rw [argN,hm] at hn;cases hn
  | some m=>
   rw [argN,hm] at hn
   cases hn
   obtain ⟨xs,rfl,hl⟩:=args_len t m ρ r hm e3
   cases (show some (PyData.tuple (x::xs))=some p from e4)
   exact ⟨_,rfl,by simp [hl]⟩
 | .var _,_,_,_,hn,_=>by cases hn
 | .peek _,_,_,_,hn,_=>by cases hn
 | .con _,_,_,_,hn,_=>by cases hn
 | .tup _,_,_,_,hn,_=>by cases hn
 | .lst _,_,_,_,hn,_=>by cases hn
 | .op1 _ _,_,_,_,hn,_=>by cases hn
 | .op2 _ _ _,_,_,_,hn,_=>by cases hn
 | .sl _ _ _,_,_,_,hn,_=>by cases hn
 | .call _ _,_,_,_,hn,_=>by cases hn
 | .and _ _,_,_,_,hn,_=>by cases hn
 | .or _ _,_,_,_,hn,_=>by cases hn
 | .not _,_,_,_,hn,_=>by cases hn
 | .ite _ _ _,_,_,_,hn,_=>by cases hn
 | .chain _ _ _ _ _,_,_,_,hn,_=>by cases hn
 | .comp _ _ _ _ _,_,_,_,hn,_=>by cases hn
 | .rng _,_,_,_,hn,_=>by cases hn
 | .rng2 _ _,_,_,_,hn,_=>by cases hn
 | .dct _ _,_,_,_,hn,_=>by cases hn
 | .dgt _ _ _,_,_,_,hn,_=>by cases hn
 | .lrep _ _,_,_,_,hn,_=>by cases hn
theorem snd_tup {a:E} {es:List Expr} {k:Nat} {pos:Pos} {n:Nat} (h:PA X es (tA cf X.K a)) (hn:argN a=some n) (hs:n≤1000):Snd X cf (.tup a) (.Tuple es k pos):=by
 refine .plain ((pe_tup h).weak fun σ H Q ⟨G,ρ,p,S,e,k⟩=>?_) (fun _=>rfl)
 obtain ⟨r,e1,e2⟩:=bnd_eq.mp (show bnd (evE cf a ρ) tupF=some p from e)
 obtain ⟨ps,rfl,hl⟩:=args_len a n ρ r hn e1
 obtain ⟨hd,e3⟩:=tst_none (show tst (anyD ps) none (some (PyData.tuple ps))=some p from e2)
 cases e3
 refine ⟨G,ρ,ps,S,e1,fun vs G1 H1 x1 r1=>⟨?_,fun l hf=>?_⟩⟩
 ·have:=r1.length;rw [line_eq];lia
 ·have x2:=Ext.new x1.gh hf (.tup vs)
  exact k _ _ _ (x1.trans x2) (.of rfl ⟨l,vs,rfl,SqT.of upd_same,(r1.list hd).mono x2.gg⟩)
theorem snd_lst {a:E} {es:List Expr} {pos:Pos} {n:Nat} (h:PA X es (tA cf X.K a)) (hn:argN a=some n) (hs:n≤1000):Snd X cf (.lst a) (.List es pos):=by
 refine .plain ((pe_lst h).weak fun σ H Q ⟨G,ρ,p,S,e,k⟩=>?_) (fun _=>rfl)
 obtain ⟨r,e1,e2⟩:=bnd_eq.mp (show bnd (evE cf a ρ) lstF=some p from e)
 obtain ⟨ps,rfl,hl⟩:=args_len a n ρ r hn e1
 obtain ⟨hd,e3⟩:=tst_none (show tst (anyD ps) none (some (PyData.list ps))=some p from e2)
 cases e3
 refine ⟨G,ρ,ps,S,e1,fun vs G1 H1 x1 r1=>⟨?_,fun l hf=>?_⟩⟩
 ·have:=r1.length;rw [line_eq];lia
 ·have x2:=Ext.new x1.gh hf (.lst vs)
  exact k _ _ _ (x1.trans x2) (.of rfl ⟨l,vs,rfl,SqL.of upd_same,(r1.list hd).mono x2.gg⟩)
theorem op2_w {o:Op2} {a b:E}:∀ σ H Q,tE cf X.K (.op2 o a b) σ H Q→tOp (rOp2 X.K o) (tE cf X.K a) (tE cf X.K b) σ H Q:=fun σ H Q ⟨G,ρ,p,S,e,k⟩=>by
 obtain ⟨x,e1,e2⟩:=bnd_eq.mp (show bnd (evE cf a ρ) (fun x=>bnd (evE cf b ρ) fun y=>opF2 o x y)=some p from e)
 obtain ⟨y,e3,e4⟩:=bnd_eq.mp e2
 exact ⟨G,ρ,x,S,e1,fun v G1 H1 x1 r1=>⟨G1,ρ,y,S.ext x1,e3,fun w G2 H2 x2 r2=>
  ⟨G2,x,y,p,x2.gh,(r1.rk x1.gh).ext x2,r2.rk x2.gh,e4,fun u G3 H3 x3 r3=>k u G3 H3 (x1.trans (x2.trans x3)) (.of rfl r3)⟩⟩⟩
theorem snd_bin {op:Operator} {o:Op2} {ia ib:E} {a b:Expr} {pos:Pos} (ho:OpR X (binaryOp op) (rOp2 X.K o)) (ha:PE X a (tE cf X.K ia)) (hb:PE X b (tE cf X.K ib)):Snd X cf (.op2 o ia ib) (.BinOp a op b pos):=
 .plain ((pe_op ho ha hb).weak op2_w) (fun _=>rfl)
theorem snd_cmp {op:CmpOp} {o:Op2} {ia ib:E} {a b:Expr} {pos:Pos} (ho:OpR X (compareOp op) (rOp2 X.K o)) (hb2:∀ p q r,opF2 o p q=some r→∃ b,r=.bool b) (ha:PE X a (tE cf X.K ia)) (hb:PE X b (tE cf X.K ib))
  (hm:behindInMarks op b=false):Snd X cf (.op2 o ia ib) (.Compare a [op] [b] pos):=by
 refine ⟨(pe_cmpR ho ha hb hm).weak op2_w,(pt_cmpR ho ha hb hm).weak fun σ H Q ⟨G,ρ,p,t,S,e,et,k⟩=>?_⟩
 refine op2_w σ H (fun x H'=>∃ c,x=.bl c∧Q c H') ⟨G,ρ,p,S,e,fun v G' H' x r=>?_⟩
 obtain ⟨x',e1,e2⟩:=bnd_eq.mp (show bnd (evE cf ia ρ) (fun x=>bnd (evE cf ib ρ) fun y=>opF2 o x y)=some p from e)
 obtain ⟨y',e3,e4⟩:=bnd_eq.mp e2
 obtain ⟨b',rfl⟩:=hb2 _ _ _ e4
 have et':b'=t:=Option.some.inj et
 subst et'
 have rv:Rp X.K G' (.bool b') v:=r.rp rfl
 cases (show v=.bl b' from rv)
 exact ⟨b',rfl,k G' H' x⟩
end
noncomputable def clOf (cells:List (Str×Addr)):List (Str×NameKind)→List (Str×Addr)→List (Str×Addr)
 | [],acc=>acc
 | (n,k)::r,acc=>if k==NameKind.free then clOf cells r ((n,(cells.lookup n).getD 0)::acc) else clOf cells r acc
theorem closure_of {scope:Scope} {env:PySem.Env} (h:∀ x∈scope.names,x.2=.free→∃ c,env.cells.lookup x.1=some c):closureFor scope env=pure (clOf env.cells scope.names []):=by
 unfold closureFor
 have go:∀ (names:List (Str×NameKind)) (acc:List (Str×Addr)),(∀ x∈names,x.2=.free→∃ c,env.cells.lookup x.1=some c)→
   (forIn names acc fun x cs=>do
    if (x.2==NameKind.free)=true then do
     let a ← cellOf env x.1
     pure (ForInStep.yield ((x.1,a)::cs))
    else pure (ForInStep.yield cs):Sem (List (Str×Addr)))=pure (clOf env.cells names acc):=by
  intro names
  induction names with
  | nil=>intro acc _;rfl
  | cons x r ih=>
   intro acc hn
   obtain ⟨n,k⟩:=x
   rw [List.forIn_cons]
   by_cases hk:k=.free
   ·subst hk
    obtain ⟨c,ec⟩:=hn (n,.free) List.mem_cons_self rfl
    have e1:cellOf env n=pure c:=by unfold cellOf;rw [ec]
    simp only [beq_self_eq_true,if_true,e1,pure_bind]
    rw [clOf,if_pos (by simp),ec]
    exact ih _ fun y hy=>hn y (List.mem_cons_of_mem _ hy)
   ·have hb:(k==NameKind.free)=false:=by simpa using hk
    simp only [hb,Bool.false_eq_true,if_false,pure_bind]
    rw [clOf,if_neg (by simp [hk])]
    exact ih _ fun y hy=>hn y (List.mem_cons_of_mem _ hy)
 have:=go scope.names [] h
 simpa using this
theorem clOf_sub (cells:List (Str×Addr)):∀ (names:List (Str×NameKind)) (acc:List (Str×Addr)),(∀ x∈names,x.2=.free→∃ c,cells.lookup x.1=some c)→(∀ x c,(x,c)∈acc→cells.lookup x=some c)→
  ∀ x c,(x,c)∈clOf cells names acc→cells.lookup x=some c
 | [],acc,_,ha=>ha
 | (n,k)::r,acc,hn,ha=>by
  intro x c h
  rw [clOf] at h
  split at h
  ·rename_i hk
   obtain ⟨d,ed⟩:=hn (n,k) List.mem_cons_self (by simpa using hk)
   refine clOf_sub cells r _ (fun y hy=>hn y (List.mem_cons_of_mem _ hy)) (fun y e hm=>?_) x c h
   rcases List.mem_cons.mp hm with z | z
   ·cases z
    rw [ed];rfl
   ·exact ha y e z
  ·exact clOf_sub cells r acc (fun y hy=>hn y (List.mem_cons_of_mem _ hy)) ha x c h
theorem clOf_mem (cells:List (Str×Addr)):∀ (names:List (Str×NameKind)) (acc:List (Str×Addr)) (x:Str),((∃ c,(x,c)∈acc)∨(x,NameKind.free)∈names)→∃ c,(x,c)∈clOf cells names acc
 | [],acc,x,h=>by
  rcases h with h | h
  ·exact h
  ·cases h
 | (n,k)::r,acc,x,h=>by
  rw [clOf]
  split
  ·rename_i hk
   have hk':k=.free:=by simpa using hk
   subst hk'
   refine clOf_mem cells r _ x ?_
   rcases h with ⟨c,h⟩ | h
   ·exact .inl ⟨c,List.mem_cons_of_mem _ h⟩
   ·rcases List.mem_cons.mp h with z | z
    ·cases z
     exact .inl ⟨_,List.mem_cons_self⟩
    ·exact .inr z
  ·rename_i hk
   refine clOf_mem cells r acc x ?_
   rcases h with h | h
   ·exact .inl h
   ·rcases List.mem_cons.mp h with z | z
    ·cases z
     exact absurd (by simp) hk
    ·exact .inr z
theorem lookup_of_mem {α:Type} {l:List (Str×α)} {x:Str} {c:α} (h:(x,c)∈l):∃ d,l.lookup x=some d:=by
 induction l with
 | nil=>cases h
 | cons y r ih=>
  obtain ⟨n,d⟩:=y
  rw [List.lookup_cons]
  cases e:x==n with
  | true=>exact ⟨d,rfl⟩
  | false=>
   rcases List.mem_cons.mp h with z | z
   ·cases z;simp at e
   ·exact ih z
theorem compLoop_gen {prog:Program} {w:World} {A:Around} {R:Result→Shared→Prop} {s:Shared} {elt target iter:Expr} {ifs:List Expr} {scope:Scope} {pos:Pos} {it acc:Value} {env:PySem.Env} (I:Nat→Shared→Prop)
  (turn:∀ n s,I n s→wpAny (model prog w) A (pyNext it) (fun r s₁=>match r with
   | none=>R (.ok .next) s₁
   | some v=>wpAny (model prog w) A (letOwnedTupleGo target it v) (fun _ s₁'=>wpAny (model prog w) A (assign target env v) (fun _ s₂=>
     wpAny (model prog w) A (forIn ifs true fun c r=>if r=true then do let ok ← isTrue c env (eval c env);pure (ForInStep.yield ok) else pure (ForInStep.yield r)) (fun ok s₃=>
      if ok=true then wpAny (model prog w) A (eval elt env) (fun x s₄=>
       wpAny (model prog w) A (call (.builtin "list.append") [acc,x]) (fun _ s₅=>∃ m,m<n∧I m s₅) (fun _ _=>False) s₄) (fun _ _=>False) s₃
      else ∃ m,m<n∧I m s₃) (fun _ _=>False) s₂) (fun _ _=>False) s₁') (fun _ _=>False) s₁) (fun _ _=>False) s)
  (n:Nat) (h:I n s):codeAny (model prog w) A (.compLoop (.ListComp elt [⟨target,iter,ifs,0⟩] scope pos) 0 it acc env) R s:=by
 refine codeAny_loop rfl I (fun n s hI=>?_) n h
 show wpAny _ A ((compTurn (.ListComp elt [⟨target,iter,ifs,0⟩] scope pos) 0 it acc env).onRaise (fun x=>do noteFrame x env;theTreesLotGoes x)) _ _ s
 refine wpAny_noted ?_
 rw [compTurn_list]
 refine wpAny_bind (wpAny_standAt (wpAny_bind (wpAny_mono (turn n s hI) (fun r s₁ h₁=>?_) fun _ _ h'=>h'.elim)))
 cases r with
 | none=>exact wpAny_pure h₁
 | some v=>
  refine wpAny_bind (wpAny_mono h₁ (fun _ s₁' h₁'=>?_) fun _ _ h'=>h'.elim)
  refine wpAny_bind (wpAny_mono h₁' (fun _ s₂ h₂=>wpAny_bind (wpAny_mono h₂ (fun ok s₃ h₃=>?_) fun _ _ h'=>h'.elim)) fun _ _ h'=>h'.elim)
  cases ok with
  | false=>exact wpAny_pure ⟨rfl,h₃⟩
  | true=>
   exact wpAny_bind (wpAny_bind (wpAny_mono h₃ (fun x s₄ h₄=>wpAny_bind (wpAny_mono h₄ (fun _ s₅ h₅=>wpAny_pure (wpAny_pure ⟨rfl,h₅⟩)) fun _ _ h'=>h'.elim)) fun _ _ h'=>h'.elim))
theorem cellsFrom_app:∀ (names:List (Str×NameKind)) (n:Nat) (acc:List (Str×Addr)),cellsFrom n names acc=cellsFrom n names []++acc
 | [],_,_=>rfl
 | (x,k)::r,n,acc=>by
  unfold cellsFrom
  split
  ·rw [cellsFrom_app r (n+1) ((x,n)::acc),cellsFrom_app r (n+1) [(x,n)],List.append_assoc];rfl
  ·exact cellsFrom_app r n acc
theorem cellsFrom_name:∀ (names:List (Str×NameKind)) (n:Nat) (x:Str) (c:Addr),(x,c)∈cellsFrom n names []→(x,NameKind.cell)∈names
 | [],_,_,_,h=>by cases h
 | (y,k)::r,n,x,c,h=>by
  unfold cellsFrom at h
  split at h
  ·rename_i hk
   rw [cellsFrom_app] at h
   rcases List.mem_append.mp h with z | z
   ·exact List.mem_cons_of_mem _ (cellsFrom_name r _ x c z)
   ·have:(x,c)=(y,n):=by simpa using z
    cases this
    have:k=.cell:=by simpa using hk
    rw [this]
    exact List.mem_cons_self
  ·exact List.mem_cons_of_mem _ (cellsFrom_name r _ x c h)
theorem cellsFrom_there:∀ (names:List (Str×NameKind)) (n:Nat) (x:Str),(x,NameKind.cell)∈names→∃ c,(x,c)∈cellsFrom n names []
 | [],_,_,h=>by cases h
 | (y,k)::r,n,x,h=>by
  unfold cellsFrom
  rcases List.mem_cons.mp h with z | z
  ·cases z
   rw [if_pos (by simp),cellsFrom_app]
   exact ⟨n,List.mem_append_right _ List.mem_cons_self⟩
  ·split
   ·obtain ⟨c,hc⟩:=cellsFrom_there r (n+1) x z
    rw [cellsFrom_app]
    exact ⟨c,List.mem_append_left _ hc⟩
   ·exact cellsFrom_there r n x z
theorem lookup_app {α:Type}:∀ (l m:List (Str×α)) (x:Str),(l++m).lookup x=(l.lookup x).or (m.lookup x)
 | [],_,_=>rfl
 | (y,a)::l,m,x=>by
  rw [List.cons_append,List.lookup_cons,List.lookup_cons]
  cases x==y with
  | true=>rfl
  | false=>exact lookup_app l m x
structure OwnC (names:List (Str×NameKind)) (lo:Nat) (h1:Heap) (new:List (Str×Addr)):Prop where
 ok:∀ x c,new.lookup x=some c→h1.IsCell c none∧lo≤c∧(x,NameKind.cell)∈names
 inj:∀ x y c,new.lookup x=some c→new.lookup y=some c→x=y
 has:∀ x,(x,NameKind.cell)∈names→∃ c,new.lookup x=some c
theorem ownC_of (names:List (Str×NameKind)) (h:Heap):OwnC names h.objs.size (pushCells h names) (cellsFrom h.objs.size names []):=by
 have ok:=cellsFrom_ok names h h.objs.size [] ⟨fun _ _ hm=>(nomatch hm),List.Pairwise.nil⟩ (Nat.le_refl _)
 refine ⟨fun x c e=>?_,fun x y c e1 e2=>PySem.name_of_addr ok.apart (PySem.mem_of_lookup e1) (PySem.mem_of_lookup e2),fun x hx=>?_⟩
 ·have hm:=PySem.mem_of_lookup e
  exact ⟨(ok.empty x c hm).1,(ok.empty x c hm).2,cellsFrom_name names _ x c hm⟩
 ·obtain ⟨c,hc⟩:=cellsFrom_there names h.objs.size x hx
  exact lookup_of_mem hc
theorem nfe_comp {M:Model} {A:Around} {E:Value→Shared→Prop} {s:Shared} {scope:Scope} {globals:Addr} {cl:List (Str×Addr)} {qual:Str} {outer:PySem.Env} {Q:PySem.Env→Shared→Prop}
  (hQ:Q {scope,locals:=s.heap.objs.size,globals,cells:=cellsFrom (s.heap.objs.size+1) scope.names cl,qual,func:=none,code:=outer.code,frame:=outer.frame,builtins:=outer.builtins}
   {s with heap:=pushCells (s.heap.push {cls:=.type "dict",data:=.dict #[]}) scope.names}):
  wpAny M A (newFunctionEnv scope globals cl [] qual none .none (some outer)) Q E s:=by
 simp only [newFunctionEnv,Option.isSome_some,if_true]
 refine wpAny_bind (wpAny_alloc ?_)
 refine wpAny_bind (wpAny_layCells _ (fun name kind cells=>by cases hkc:kind==NameKind.cell <;> simp [hkc]) _ _ _ _ ?_)
 rw [show ({s with heap:=s.heap.push {cls:=.type "dict",data:=.dict #[]}}:Shared).heap.objs.size=s.heap.objs.size+1 from Heap.size_push ..]
 simp only [List.forIn_nil]
 exact wpAny_bind (wpAny_pure (wpAny_pure hQ))
noncomputable def cxC (X:Cx) (N':List Str) (scope:Scope) (cl:List (Str×Addr)) (C:Addr) (s:Shared) (H:Hp) (fp:List Addr):Cx where
 prog:=X.prog
 w:=X.w
 K:=X.K
 mg:=X.mg
 base:=X.base
 A:=X.A
 N:=N'
 s₀:=s
 H₀:=H
 env:=compEnvC scope cl C X.env
 outer:=X.stack
 stack:=X.stack
 ex:=fp
 fn:=fun x=>scope.names.lookup x==some NameKind.cell
 calm:=true
 pn:=[]
 xe:=fun _ _=>False
structure Blk (X:Cx) (N':List Str) (scope:Scope) (X':Cx):Prop where
 prog:X'.prog=X.prog
 w:X'.w=X.w
 K:X'.K=X.K
 mg:X'.mg=X.mg
 base:X'.base=X.base
 A:X'.A=X.A
 N:X'.N=N'
 sc:X'.env.scope=relabel scope X.env
 calm:X'.calm=true
 xe:X'.xe=fun _ _=>False
 fn:X'.fn=fun x=>scope.names.lookup x==some NameKind.cell
structure CScope (X:Cx) (own:List Str) (caps:List Nat) (scope:Scope):Prop where
 kind:scope.kind=.function
 cells:∀ x∈scope.names,x.2=.cell→scope.names.lookup x.1=some .cell
 locals:∀ x∈scope.names,x.2=.local→scope.names.lookup x.1=some .local
 frees:∀ x∈scope.names,x.2=.free→X.env.kindOf x.1=some .cell∨X.env.kindOf x.1=some .free
 caps:∀ j∈caps,∃ y,X.N[j]?=some y∧Vis X.env.scope y∧scope.names.lookup y=some .free
noncomputable def namesC (X:Cx) (own:List Str) (caps:List Nat):List Str:=own++caps.map fun j=>X.N.getD j ""
noncomputable def slotsC (own:List Str) (caps:List Nat) (σ:St):St:=List.replicate own.length none++caps.map fun j=>σ.getD j none
theorem lookup_map {α β:Type} (f:Str×α→Str×β) (hf:∀ n k,(f (n,k)).1=n):∀ (l:List (Str×α)) (y:Str),(l.map f).lookup y=(l.lookup y).map fun k=>(f (y,k)).2
 | [],_=>rfl
 | (n,k)::r,y=>by
  rw [List.map_cons]
  have e:f (n,k)=(n,(f (n,k)).2):=Prod.ext (hf n k) rfl
  rw [e,List.lookup_cons,List.lookup_cons]
  cases h:y==n with
  | true=>
   have:y=n:=by simpa using h
   subst this
   rfl
  | false=>exact lookup_map f hf r y
theorem relabel_lookup (scope:Scope) (env:PySem.Env) (y:Str):(relabel scope env).names.lookup y=(scope.names.lookup y).map fun k=>if (k==.free&&env.scope.kind==.function&&env.kindOf y==some .cell)=true then NameKind.cell else k:=by
 have:=lookup_map (fun (x:Str×NameKind)=>match x with | (n,k)=>if (k==.free&&env.scope.kind==.function&&env.kindOf n==some .cell) then (n,NameKind.cell) else (n,k)) (fun n k=>by dsimp only;split <;> rfl) scope.names y
 refine this.trans ?_
 congr 1
 funext k
 dsimp only
 split <;> rfl
theorem relabel_free {scope:Scope} {env:PySem.Env} {y:Str} (h:scope.names.lookup y=some .free):(relabel scope env).names.lookup y=some .cell∨(relabel scope env).names.lookup y=some .free:=by
 rw [relabel_lookup,h]
 simp only [Option.map_some]
 split
 ·exact .inl rfl
 ·exact .inr rfl
theorem relabel_of {scope:Scope} {env:PySem.Env} {y:Str} (h:(relabel scope env).names.lookup y=some .cell∨(relabel scope env).names.lookup y=some .free):scope.names.lookup y=some .free∨scope.names.lookup y=some .cell:=by
 rw [relabel_lookup] at h
 cases e:scope.names.lookup y with
 | none=>rw [e] at h;simp at h
 | some k=>
  rw [e] at h
  simp only [Option.map_some,Option.some.injEq] at h
  by_cases hk:k=.free
  ·exact .inl (by rw [hk])
  ·have hb:(k==NameKind.free)=false:=by simpa using hk
   simp only [hb,Bool.false_and,Bool.false_eq_true,if_false] at h
   rcases h with h | h
   ·exact .inr (by rw [h])
   ·exact absurd h hk
theorem inv_comp {X:Cx} {pins:List (Addr×Obj)} {σ:St} {H:Hp} {s:Shared} {own:List Str} {caps:List Nat} {scope:Scope} {fp:List Addr} {new:List (Str×Addr)} (I:Inv X pins σ H s) (S:CScope X own caps scope) (hcalm:X.calm=true)
  (hfp:∀ b∈fp,FpOk X pins H b) (hfo:∀ b∈fp,∃ o,s.heap.get? b=some o) {h1:Heap} {t:Nat} {m:Str→Option Value} (hns:h1.Ns s.heap.objs.size m) (hk:∀ b o,s.heap.get? b=some o→h1.get? b=some o) (O:OwnC scope.names (s.heap.objs.size+1) h1 new):
  Inv (cxC X (namesC X own caps) scope (new++clOf X.env.cells scope.names []) s.heap.objs.size s H fp) [] (slotsC own caps σ) H {s with heap:=h1,toks:=t}:=by
 have hfr:∀ x∈scope.names,x.2=.free→∃ c,X.env.cells.lookup x.1=some c:=fun x hx e=>I.ok.has x.1 (S.frees x hx e)
 have cls0:∀ x c,(clOf X.env.cells scope.names []).lookup x=some c→X.env.cells.lookup x=some c:=fun x c e=>clOf_sub X.env.cells scope.names [] hfr (fun _ _ h=>by cases h) x c (PySem.mem_of_lookup e)
 have clh0:∀ x,scope.names.lookup x=some .free→∃ c,(clOf X.env.cells scope.names []).lookup x=some c:=fun x e=>by
  obtain ⟨c,hc⟩:=clOf_mem X.env.cells scope.names [] x (.inr (PySem.mem_of_lookup e))
  exact lookup_of_mem hc
 have cls:∀ x c,(new++clOf X.env.cells scope.names []).lookup x=some c→new.lookup x=some c∨(new.lookup x=none∧X.env.cells.lookup x=some c):=fun x c e=>by
  rw [lookup_app] at e
  cases q:new.lookup x with
  | none=>rw [q] at e;exact .inr ⟨rfl,cls0 x c e⟩
  | some d=>rw [q] at e;exact .inl e
 have clh:∀ x,scope.names.lookup x=some .free→new.lookup x=none∧∃ c,(new++clOf X.env.cells scope.names []).lookup x=some c:=fun x e=>by
  have hn:new.lookup x=none:=by
   cases q:new.lookup x with
   | none=>rfl
   | some d=>
    have:=S.cells _ (O.ok x d q).2.2 rfl
    rw [e] at this;cases this
  obtain ⟨c,hc⟩:=clh0 x e
  refine ⟨hn,c,?_⟩
  rw [lookup_app,hn];exact hc
 have old:∀ x c,X.env.cells.lookup x=some c→c<s.heap.objs.size:=fun x c e=>by
  obtain ⟨v,hv⟩:=I.cell x c e
  exact hv.lt
 have inj:∀ x y c,(new++clOf X.env.cells scope.names []).lookup x=some c→(new++clOf X.env.cells scope.names []).lookup y=some c→x=y:=fun x y c e1 e2=>by
  rcases cls x c e1 with a | ⟨_,a⟩ <;> rcases cls y c e2 with b | ⟨_,b⟩
  ·exact O.inj x y c a b
  ·have h1:=(O.ok x c a).2.1
   have h2:=old y c b
   lia
  ·have h1:=(O.ok y c b).2.1
   have h2:=old x c a
   lia
  ·exact I.ok.inj x y c a b
 refine ⟨⟨I.ok.mod,S.kind,I.ok.glob,I.ok.blt,Nat.le_refl _,inj,fun x hx=>?_,fun x c hf ec=>?_,fun _=>I.ok.hd hcalm,I.ok.frames,.inl rfl,fun b hb=>⟨?_,fun x c e=>?_⟩,I.bs,
  Nat.le_trans I.ok.bsz I.sz,fun b o e hb=>?_,fun b hb hs=>?_,I.stack,I.stkFree⟩,rfl,I.bare,Un.kept hk,⟨m,hns,fun i x v e1 e2 e3=>?_⟩,fun x c e=>?_,I.hok.fresh (Nat.le_refl _),fun x c e=>?_,fun p hp=>?_,I.hok.kept hk,?_⟩
 ·show ∃ c,(new++clOf X.env.cells scope.names []).lookup x=some c
  rcases relabel_of hx with z | z
  ·exact (clh x z).2
  ·obtain ⟨c,hc⟩:=O.has x (PySem.mem_of_lookup z)
   exact ⟨c,by rw [lookup_app,hc];rfl⟩
 ·have hf':scope.names.lookup x=some .cell:=eq_of_beq hf
  obtain ⟨d,hd⟩:=O.has x (PySem.mem_of_lookup hf')
  rcases cls x c ec with z | ⟨z,_⟩
  ·exact Nat.le_of_succ_le (O.ok x c z).2.1
  ·rw [hd] at z;cases z
 ·obtain ⟨o,eo⟩:=hfo b hb
  exact Nat.ne_of_lt (Heap.lt_size eo)
 ·rcases cls x c e with z | ⟨_,z⟩
  ·obtain ⟨o,eo⟩:=hfo b hb
   have:=Heap.lt_size eo
   have:=(O.ok x c z).2.1
   lia
  ·obtain ⟨_,_,_,_,f5,_⟩:=hfp b hb
   exact f5 x c z
 ·obtain ⟨_,_,_,f4,_,_⟩:=hfp b hb
  rcases f4 with z | z
  ·exact I.ok.noex b o e z
  ·have:=Heap.lt_size e
   have:=I.ok.bsz
   exact absurd (Nat.lt_of_lt_of_le (Heap.lt_size e) (Nat.le_trans I.ok.bsz z)) (Nat.lt_irrefl _)
 ·obtain ⟨_,f2,f3,_,_,_⟩:=hfp b hb
  rcases List.mem_cons.mp (I.stkSub b hs) with z | z
  ·exact f2 z
  ·exact f3 z
 ·have hlen:(List.replicate own.length (none:Option V)).length=own.length:=List.length_replicate
  unfold cxC namesC at e1
  dsimp only at e1
  unfold slotsC at e2
  by_cases hi:i<own.length
  ·rw [List.getElem?_append_left (by rw [hlen];exact hi),List.getElem?_replicate,if_pos hi] at e2
   cases e2
  ·rw [List.getElem?_append_right (by rw [hlen];lia),hlen,List.getElem?_map] at e2
   rw [List.getElem?_append_right (by lia),List.getElem?_map] at e1
   cases ec:caps[i - own.length]? with
   | none=>rw [ec] at e2;cases e2
   | some j=>
    rw [ec] at e1 e2
    simp only [Option.map_some,Option.some.injEq] at e1 e2
    obtain ⟨y,ey,vy,fy⟩:=S.caps j (List.mem_of_getElem? ec)
    have eyx:y=x:=by rw [← e1,List.getD_eq_getElem?_getD,ey];rfl
    subst eyx
    have eσ:σ[j]?=some (some v):=by
     rw [List.getD_eq_getElem?_getD] at e2
     cases q:σ[j]? with
     | none=>rw [q] at e2;cases e2
     | some o=>rw [q] at e2;exact congrArg some e2
    obtain ⟨m0,hn0,hl0⟩:=I.loc
    obtain ⟨u,ru,lk⟩:=hl0 j y v ey eσ vy
    refine ⟨u,ru,.inr ⟨?_,?_⟩⟩
    ·exact relabel_free fy
    ·have hfk:=S.frees (y,.free) (PySem.mem_of_lookup fy) rfl
     obtain ⟨hn,c,hc⟩:=clh y fy
     rcases lk with ⟨k1,_⟩ | ⟨_,d,hd,hcell⟩
     ·dsimp only at hfk
      rcases hfk with z | z <;> (rw [k1] at z;cases z)
     ·have:c=d:=by
       rcases cls y c hc with z | ⟨_,z⟩
       ·rw [hn] at z;cases z
       ·exact Option.some.inj (z.symm.trans hd)
      subst this
      exact ⟨c,hc,hcell.keeps hk⟩
 ·rcases cls x c e with z | ⟨_,z⟩
  ·exact ⟨_,(O.ok x c z).1⟩
  ·obtain ⟨v,hv⟩:=I.cell x c z
   exact ⟨v,hv.keeps hk⟩
 ·rcases cls x c e with z | ⟨_,z⟩
  ·exact I.hok.fresh (Nat.le_of_succ_le (O.ok x c z).2.1)
  ·exact I.freeC x c z
 ·exact absurd (show p∈([]:List (Addr×Obj)) from hp) (by simp)
 ·unfold slotsC
  show _=(namesC X own caps).length
  unfold namesC
  simp
structure Walk (K:PySem.W.Frag) (J:It) (G:Hp) (xs:List PV):Prop where
 len:xs.length≤16777216
 go:∀ i H,Sub G H→i<xs.length→J.go i H
 yld:∀ i H x H',Sub G H→i<xs.length→J.yld i H x H'→∃ p,xs[i]?=some p∧((H'=H∧Rp K G p x)∨∃ a vs ps,x=V.ref a∧H a=none∧H'=L2.upd H a (.tup vs)∧p=.tuple ps∧RpL K G ps vs)
 stop:∀ i H,Sub G H→xs.length≤i→J.stop i H
theorem Walk.step {K:PySem.W.Frag} {J:It} {G G1 H H':Hp} {xs:List PV} {i:Nat} {x:V} (wk:Walk K J G xs) (s:Sub G G1) (sh:Sub G1 H) (hi:i<xs.length) (y:J.yld i H x H'):∃ G2 p,Ext G1 H G2 H'∧xs[i]?=some p∧Rp K G2 p x:=by
 obtain ⟨p,ep,⟨rfl,r⟩ | ⟨a,vs,ps,rfl,ha,rfl,rfl,r⟩⟩:=wk.yld i H x H' (s.trans sh) hi y
 ·exact ⟨G1,p,.refl sh,ep,r.mono s⟩
 ·exact ⟨_,_,Ext.new sh ha _,ep,a,vs,rfl,SqT.of upd_same,r.mono (s.trans (.new (sh.fresh ha) _))⟩
theorem walk_list {K:PySem.W.Frag} {G:Hp} {a:Addr} {ps:List PV} {vs:List V} (q:SqL K G a vs) (r:RpL K G ps vs) (hz:vs.length≤sizeLine):Walk K (Itl K a) G ps where
 len:=by rw [r.length,← line_eq];exact hz
 go:=fun i H s hi=>⟨vs,vs[i]'(by rw [← r.length];exact hi),s.sqL q,List.getElem?_eq_getElem _⟩
 yld:=fun i H x H' s hi y=>by
  obtain ⟨e,y⟩:=y
  obtain ⟨p,e1,_,e2⟩:=r.getV (y vs (s.sqL q))
  exact ⟨p,e1,.inl ⟨e,e2⟩⟩
 stop:=fun i H s hi=>⟨vs,s.sqL q,by rw [← r.length];exact hi⟩
theorem walk_tup {K:PySem.W.Frag} {G:Hp} {a:Addr} {ps:List PV} {vs:List V} (q:SqT K G a vs) (r:RpL K G ps vs) (hz:vs.length≤sizeLine):Walk K (Itt K a) G ps where
 len:=by rw [r.length,← line_eq];exact hz
 go:=fun i H s hi=>⟨vs,vs[i]'(by rw [← r.length];exact hi),s.sqT q,List.getElem?_eq_getElem _⟩
 yld:=fun i H x H' s hi y=>by
  obtain ⟨e,y⟩:=y
  obtain ⟨p,e1,_,e2⟩:=r.getV (y vs (s.sqT q))
  exact ⟨p,e1,.inl ⟨e,e2⟩⟩
 stop:=fun i H s hi=>⟨vs,s.sqT q,by rw [← r.length];exact hi⟩
theorem walk_rng {K:PySem.W.Frag} {G:Hp} (lo:Int) (n:Nat) (hn:n≤16777216):Walk K (Itr lo n) G ((List.range n).map fun k=>.int (lo+(k:Nat))) where
 len:=by simpa using hn
 go:=fun i H s hi=>by
  have:i<n:=by simpa using hi
  exact this
 yld:=fun i H x H' s hi y=>by
  obtain ⟨e,y⟩:=y
  have hi':i<n:=by simpa using hi
  exact ⟨.int (lo+(i:Nat)),by simp [hi'],.inl ⟨e,y⟩⟩
 stop:=fun i H s hi=>by
  have:n≤i:=by simpa using hi
  exact this
noncomputable def tI (cf:CF) (K:PySem.W.Frag) (ie:E):TI:=fun σ H R=>∃ G ρ p xs,SR K G H σ ρ∧evE cf ie ρ=some p∧seqOf p=some xs∧∀ J G' H',Ext G H G' H'→Walk K J G' xs→R J H'
section
variable {X:Cx} {cf:CF} {tg:Expr}
theorem _root_.L2.PI.weak {e:Expr} {t t':TI} (h:PI X tg e t) (w:∀ σ H Q,t' σ H Q→t σ H Q):PI X tg e t':=fun pins s σ H Q I q=>h pins s σ H Q I (w σ H Q q)
theorem pi_seq {l:Expr} {tl:TE} (hl:PE X l tl):PI X tg l (fun σ H R=>tl σ H fun x H1=>∃ a,x=.ref a∧((∃ xs,SqL X.K H1 a xs∧(xs.length≤sizeLine→R (Itl X.K a) H1))∨∃ xs,SqT X.K H1 a xs∧(xs.length≤sizeLine→R (Itt X.K a) H1))):=by
 intro pins s σ H R I h
 refine thn (hl pins s σ H _ I h) fun v s1 ⟨x,H1,I1,r1,q1⟩=>?_
 obtain ⟨a,e,q⟩:=q1
 subst e
 cases r1
 rcases q with ⟨xs,hq,q⟩ | ⟨xs,hq,q⟩
 ·obtain ⟨its,rv,p,hz⟩:=I1.list hq
  refine wpAny_pyIter_list p.isList ?_
  refine ⟨s1.heap.objs.size,[s1.heap.objs.size],_,_,H1,rfl,I1.kept (t':=s1.toks) fun b o e=>Heap.get?_push_of_some _ e,turn_list a _,⟨_,Heap.get?_push_size _ rfl,rfl,rfl⟩,fun b hb=>?_,q hz⟩
  have e:b=s1.heap.objs.size:=by simpa using hb
  subst e
  exact I1.fpOk (Nat.le_refl _) (I1.hok.fresh (Nat.le_refl _))
 ·obtain ⟨its,rv,p,hz⟩:=I1.tuple hq
  refine wpAny_pyIter_tuple (show s1.heap.IsTuple a its.toArray from p) ?_
  refine ⟨s1.heap.objs.size,[s1.heap.objs.size],_,_,H1,rfl,I1.kept (t':=s1.toks) fun b o e=>Heap.get?_push_of_some _ e,turn_tuple a _,⟨_,Heap.get?_push_size _ rfl,rfl,rfl⟩,fun b hb=>?_,q hz⟩
  have e:b=s1.heap.objs.size:=by simpa using hb
  subst e
  exact I1.fpOk (Nat.le_refl _) (I1.hok.fresh (Nat.le_refl _))
theorem it_seq {ie:E} {e:Expr} (h:PE X e (tE cf X.K ie)) (hk:isPeek ie=false):PI X tg e (tI cf X.K ie):=
 (pi_seq h).weak fun σ H R ⟨G,ρ,p,xs,S,e1,e2,k⟩=>by
  refine ⟨G,ρ,p,S,e1,fun v G' H' x r=>?_⟩
  have r':=r.rp hk
  cases p with
  | list ps=>
   have e3:ps=xs:=Option.some.inj e2
   subst e3
   obtain ⟨a,vs,rfl,q,rr⟩:=(show ∃ a vs,v=V.ref a∧SqL X.K G' a vs∧RpL X.K G' ps vs from r')
   exact ⟨a,rfl,.inl ⟨vs,x.gh.sqL q,fun hz=>k _ G' H' x (walk_list q rr hz)⟩⟩
  | tuple ps=>
   have e3:ps=xs:=Option.some.inj e2
   subst e3
   obtain ⟨a,vs,rfl,q,rr⟩:=(show ∃ a vs,v=V.ref a∧SqT X.K G' a vs∧RpL X.K G' ps vs from r')
   exact ⟨a,rfl,.inr ⟨vs,x.gh.sqT q,fun hz=>k _ G' H' x (walk_tup q rr hz)⟩⟩
  | _=>cases e2
theorem it_rng {ia:E} {a:Expr} {p pos:Pos} (ha:PE X a (tE cf X.K ia)) (hk:isPeek ia=false) (hs:plainE a=true) (hg:Gl X "range") (hm:X.mg "range"=none):PI X tg (.Call (.Name "range" p) [a] [] pos) (tI cf X.K (.rng ia)):=
 (pi_range1 hg hm (pa_cons ha pa_nil (star_of hs _ _)) (star_of hs _ _)).weak fun σ H R ⟨G,ρ,q,xs,S,e1,e2,k⟩=>by
  obtain ⟨x,ex,er⟩:=bnd_eq.mp (show bnd (evE cf ia ρ) (fun x=>rngI (.int 0) x)=some q from e1)
  refine ⟨G,ρ,x,S,ex,fun v G1 H1 x1 r1=>?_⟩
  have r':=r1.rp hk
  cases x with
  | int n=>
   cases (show v=.int n from r')
   have er':(if -1000000≤(0:Int)∧(0:Int)≤1000000∧-1000000≤n∧n≤1000000 then some (PyData.list ((List.range (n - 0).toNat).map fun k=>.int (0+(k:Nat)))) else none)=some q:=er
   by_cases hc:-1000000≤(0:Int)∧(0:Int)≤1000000∧-1000000≤n∧n≤1000000
   ·rw [if_pos hc] at er'
    cases er'
    cases (show some ((List.range (n - 0).toNat).map fun k=>PyData.int (0+(k:Nat)))=some xs from e2)
    refine ⟨n,rfl,by lia,by lia,k _ G1 H1 x1 ?_⟩
    have:=walk_rng (K:=X.K) (G:=G1) 0 n.toNat (by lia)
    rw [Int.sub_zero]
    exact this
   ·rw [if_neg hc] at er';cases er'
  | _=>simp [rngI] at er
end
noncomputable def bindV (K:PySem.W.Frag):Option Nat→V→Hp→(List V→Prop)→Prop
 | none,v,_,P=>P [v]
 | some n,v,H,P=>∃ a xs,v=.ref a∧SqT K H a xs∧xs.length=n∧P xs
structure BlkOk (X:Cx) (cf:CF) (own:List Str) (caps:List Nat) (scope:Scope) (tg:Option Nat) (target:Expr) (ifs:List Expr) (elt:Expr) (icond ielt:E):Prop where
 tgt:∀ X',Blk X (namesC X own caps) scope X'→PG X' target fun v σ H Q=>own.length≤σ.length∧bindV X.K tg v H fun vs=>vs.length=own.length∧Q (vs.map some++σ.drop own.length) H
 tst:∀ X',Blk X (namesC X own caps) scope X'→∀ (pins:List (Addr×Obj)) (s:Shared) (σ:St) (H:Hp) (Q:Bool→Hp→Prop),Inv X' pins σ H s→tT cf X.K icond σ H Q→
  wpAny (model X.prog X.w) X.A (forIn ifs true fun c r=>if r=true then do let ok ← isTrue c X'.env (eval c X'.env);pure (ForInStep.yield ok) else pure (ForInStep.yield r)) (TP X' pins σ Q) (fun _ _=>False) s
 elt:∀ X',Blk X (namesC X own caps) scope X'→PE X' elt (tE cf X.K ielt)
theorem nodup_at {α:Type} {N:List α} (hN:N.Nodup) {i j:Nat} {x:α} (a:N[i]?=some x) (b:N[j]?=some x):i=j:=by
 obtain ⟨h1,e1⟩:=List.getElem?_eq_some_iff.mp a
 obtain ⟨h2,e2⟩:=List.getElem?_eq_some_iff.mp b
 exact (List.getElem_inj hN).mp (e1.trans e2.symm)
theorem SR.block {K:PySem.W.Frag} {G H:Hp} {σ:St} {ρ:Env} {caps:List Nat} {ps:List PV} {vs:List V} (S:SR K G H σ ρ) (hd:caps.Nodup) (r:RpA K G ps vs):
  SR K G H (vs.map some++caps.map fun j=>σ.getD j none) (ps.map Sl.val++caps.map fun j=>ρ.getD j .un):=by
 have hl:=r.length
 refine ⟨by simp [hl],S.sub,fun i sl o e1 e2=>?_,fun i j si sj a hij e1 e2 o1 o2 e3 e4=>?_⟩
 ·by_cases hi:i<ps.length
  ·rw [List.getElem?_append_left (by simpa using hi),List.getElem?_map] at e1
   rw [List.getElem?_append_left (by simp;lia),List.getElem?_map] at e2
   cases q:ps[i]? with
   | none=>rw [q] at e1;cases e1
   | some p=>
    rw [q] at e1
    cases e1
    obtain ⟨v,ev,rv⟩:=r.get q
    rw [ev] at e2
    cases e2
    exact ⟨v,rfl,rv⟩
  ·rw [List.getElem?_append_right (by simpa using hi),List.getElem?_map] at e1
   rw [List.getElem?_append_right (by simp;lia),List.getElem?_map] at e2
   rw [List.length_map] at e1 e2
   rw [← hl] at e2
   cases q:caps[i - ps.length]? with
   | none=>rw [q] at e1;cases e1
   | some j=>
    rw [q] at e1 e2
    simp only [Option.map_some,Option.some.injEq] at e1 e2
    rw [List.getD_eq_getElem?_getD] at e1 e2
    cases qr:ρ[j]? with
    | none=>rw [qr] at e1;cases e1;trivial
    | some sl'=>
     rw [qr] at e1
     obtain ⟨o',eo,so⟩:=S.at qr
     rw [eo] at e2
     cases e1;cases e2
     exact so
 ·have pick:∀ (m:Nat) (sl:Sl),(ps.map Sl.val++caps.map fun j=>ρ.getD j .un)[m]?=some sl→isOwn sl=true→ps.length≤m∧∃ c,caps[m - ps.length]?=some c∧ρ[c]?=some sl:=fun m sl e h=>by
   by_cases hm:m<ps.length
   ·rw [List.getElem?_append_left (by simpa using hm),List.getElem?_map] at e
    cases q:ps[m]? with
    | none=>rw [q] at e;cases e
    | some p=>rw [q] at e;cases e;cases h
   ·rw [List.getElem?_append_right (by simpa using hm),List.getElem?_map,List.length_map] at e
    cases q:caps[m - ps.length]? with
    | none=>rw [q] at e;cases e
    | some c=>
     rw [q] at e
     simp only [Option.map_some,Option.some.injEq] at e
     rw [List.getD_eq_getElem?_getD] at e
     cases qr:ρ[c]? with
     | none=>rw [qr] at e;cases e;cases h
     | some sl'=>rw [qr] at e;cases e;exact ⟨by lia,c,rfl,qr⟩
  obtain ⟨l1,c1,q1,r1⟩:=pick i si e1 o1
  obtain ⟨l2,c2,q2,r2⟩:=pick j sj e2 o2
  have hne:c1≠c2:=fun z=>by
   subst z
   have:=nodup_at hd q1 q2
   lia
  have rd:∀ (m c:Nat),ps.length≤m→caps[m - ps.length]?=some c→(vs.map some++caps.map fun j=>σ.getD j none)[m]?=some (some (.ref a))→σ[c]?=some (some (.ref a)):=fun m c lm qc e=>by
   rw [List.getElem?_append_right (by simp;lia),List.getElem?_map,List.length_map,← hl,qc] at e
   simp only [Option.map_some,Option.some.injEq] at e
   rw [List.getD_eq_getElem?_getD] at e
   cases q:σ[c]? with
   | none=>rw [q] at e;cases e
   | some o=>rw [q] at e;exact congrArg some e
  exact S.apart c1 c2 si sj a hne r1 r2 o1 o2 (rd i c1 l1 q1 e3) (rd j c2 l2 q2 e4)
section
variable {prog:Program} {w:World} {A:Around} {E:Value→Shared→Prop} {s:Shared}
end
section
variable {X:Cx} {pins:List (Addr×Obj)} {σ:St} {H:Hp} {s:Shared} {h':Heap}
end
section
variable {X:Cx} {cf:CF}
end
theorem compF_cons {g:PV→Option (Option PV)} {x:PV} {xs rs:List PV} (h:compF g (x::xs)=some rs):∃ o t,g x=some o∧compF g xs=some t∧rs=addO o t:=by
 unfold compF at h
 obtain ⟨o,e1,e2⟩:=bnd_eq.mp h
 obtain ⟨t,e3,e4⟩:=bnd_eq.mp e2
 cases e4
 exact ⟨o,t,e1,e3,rfl⟩
theorem Ext.mut {G0 H0 G H:Hp} (x:Ext G0 H0 G H) {a:Addr} (h0:H0 a=none) (hg:G a=none) (o:HO):Ext G0 H0 G (L2.upd H a o):=by
 refine ⟨fun b u q=>?_,x.gg,fun b u q=>?_,x.old⟩
 ·rw [upd_ne (ne_of_none q h0)];exact x.hh b u q
 ·rw [upd_ne (ne_of_none q hg)];exact x.gh b u q
theorem foldedSet_of {iter:Expr} {env:PySem.Env} (h:(match iter with | .Set ..=>false | _=>true)=true):∀ x,foldedSetIterable iter env x=pure x:=by
 intro x
 cases iter <;> first | rfl | exact absurd h Bool.false_ne_true
noncomputable def turnC (cf:CF) (tg:Option Nat) (capρ:Env) (icond ielt:E):PV→Option (Option PV):=fun x=>
 bnd (bindT tg x) fun bs=>bnd (evE cf icond (bs++capρ)) fun c=>bnd (truthF c) fun t=>DD.tst t (bnd (evE cf ielt (bs++capρ)) eltF) (some none)
theorem turnC_inv {cf:CF} {tg:Option Nat} {capρ:Env} {icond ielt:E} {x:PV} {o:Option PV} (h:turnC cf tg capρ icond ielt x=some o):
  ∃ ps c t,bindT tg x=some (ps.map Sl.val)∧((tg=none∧ps=[x])∨(∃ n,tg=some n∧x=.tuple ps∧ps.length=n))∧evE cf icond (ps.map Sl.val++capρ)=some c∧truthF c=some t∧
   (t=true→∃ y,evE cf ielt (ps.map Sl.val++capρ)=some y∧o=some y∧isDict y=false)∧(t=false→o=none):=by
 unfold turnC at h
 obtain ⟨bs,e1,h⟩:=bnd_eq.mp h
 obtain ⟨c,e2,h⟩:=bnd_eq.mp h
 obtain ⟨t,e3,h⟩:=bnd_eq.mp h
 have hb:∃ ps,bs=ps.map Sl.val∧((tg=none∧ps=[x])∨(∃ n,tg=some n∧x=.tuple ps∧ps.length=n)):=by
  cases tg with
  | none=>
   cases (show some [Sl.val x]=some bs from e1)
   exact ⟨[x],rfl,.inl ⟨rfl,rfl⟩⟩
  | some n=>
   cases x with
   | tuple xs=>
    have e1':(if xs.length=n then some (xs.map Sl.val) else none)=some bs:=e1
    by_cases hl:xs.length=n
    ·rw [if_pos hl] at e1'
     cases e1'
     exact ⟨xs,rfl,.inr ⟨n,rfl,rfl,hl⟩⟩
    ·rw [if_neg hl] at e1';cases e1'
   | _=>cases (show none=some bs from e1)
 obtain ⟨ps,rfl,hp⟩:=hb
 refine ⟨ps,c,t,e1,hp,e2,e3,fun ht=>?_,fun ht=>?_⟩
 ·subst ht
  obtain ⟨y,e4,e5⟩:=bnd_eq.mp (show bnd (evE cf ielt (ps.map Sl.val++capρ)) eltF=some o from h)
  obtain ⟨hd,e6⟩:=tst_none (show DD.tst (isDict y) none (some (some y))=some o from e5)
  cases e6
  exact ⟨y,e4,rfl,hd⟩
 ·subst ht
  cases (show some none=some o from h)
  rfl
section
variable {X:Cx} {cf:CF}
theorem comp_block {own:List Str} {caps:List Nat} {scope:Scope} {tg:Option Nat} {target iter elt:Expr} {ifs:List Expr} {icond ielt:E} {pos:Pos} {cl:List (Str×Addr)} {C D it:Addr} {s3 s4:Shared} {fp:List Addr} {tn:Nat→Heap→Prop} {J:It}
  {G2 H2:Hp} {σ:St} {ρ:Env} {xs rs:List PV} {R:Result→Shared→Prop} (hcd:caps.Nodup) (hown:own.length=tg.getD 1) (hpk:isPeek ielt=false) (T:Turn X.prog X.w X.K target J fp it tn) (wk:Walk X.K J G2 xs)
  (B:BlkOk X cf own caps scope tg target ifs elt icond ielt) (S:SR X.K G2 H2 σ ρ) (hDn:H2 D=none) (fpD:∀ b∈fp,b≠D) (f2:∀ b∈fp,H2 b=none)
  (fpk:∀ (H:Hp) (b:Addr),b∈fp→H b=none→FpOk (cxC X (namesC X own caps) scope cl C s3 (upd H2 D (.lst [])) fp) [] H b)
  (I4:Inv (cxC X (namesC X own caps) scope cl C s3 (upd H2 D (.lst [])) fp) [] (slotsC own caps σ) (upd H2 D (.lst [])) s4) (st4:tn 0 s4.heap)
  (e3:compF (turnC cf tg (caps.map fun j=>ρ.getD j .un) icond ielt) xs=some rs)
  (fin:∀ s' σ' H' G' ys,Inv (cxC X (namesC X own caps) scope cl C s3 (upd H2 D (.lst [])) fp) [] σ' H' s'→Ext G2 H2 G' H'→H' D=some (.lst ys)→G' D=none→RpL X.K G' rs ys→R (.ok .next) s'):
  codeAny (model X.prog X.w) X.A (.compStart (.ListComp elt [⟨target,iter,ifs,0⟩] scope pos) 0 (.ref it) (.ref D) (compEnvC scope cl C X.env)) R s4:=by
 generalize hX:cxC X (namesC X own caps) scope cl C s3 (upd H2 D (.lst [])) fp=X' at I4 fin fpk
 have hprog:X'.prog=X.prog:=by rw [← hX];rfl
 have hw:X'.w=X.w:=by rw [← hX];rfl
 have hK:X'.K=X.K:=by rw [← hX];rfl
 have hA:X'.A=X.A:=by rw [← hX];rfl
 have henv:X'.env=compEnvC scope cl C X.env:=by rw [← hX];rfl
 have hcalm:X'.calm=true:=by rw [← hX];rfl
 have hxe:X'.xe=fun _ _=>False:=by rw [← hX];rfl
 have blk:Blk X (namesC X own caps) scope X':=⟨hprog,hw,hK,by rw [← hX];rfl,by rw [← hX];rfl,hA,by rw [← hX];rfl,by rw [← hX];rfl,hcalm,hxe,by rw [← hX];rfl⟩
 have hDO:∀ (i:Nat) (ps:List PV),ρ[i]?=some (Sl.own ps)→σ[i]?≠some (some (V.ref D)):=fun i ps e z=>by
  obtain ⟨o,eo,a,vs,rfl,h1,_⟩:=S.at e
  rw [eo] at z
  cases z
  rw [hDn] at h1;cases h1
 have loop:codeAny (model X.prog X.w) X.A (.compLoop (.ListComp elt [⟨target,iter,ifs,0⟩] scope pos) 0 (.ref it) (.ref D) (compEnvC scope cl C X.env)) R s4:=by
  refine compLoop_gen (fun n s'=>∃ i σ' H' G' ys rs' tl,n=xs.length - i∧i≤xs.length∧Inv X' [] σ' H' s'∧tn i s'.heap∧(∀ b∈fp,H' b=none)∧Ext G2 H2 G' H'∧H' D=some (.lst ys)∧G' D=none∧RpL X.K G' rs' ys∧ys.length≤i∧
   compF (turnC cf tg (caps.map fun j=>ρ.getD j .un) icond ielt) (xs.drop i)=some tl∧rs=rs'++tl∧own.length≤σ'.length∧σ'.drop own.length=caps.map fun j=>σ.getD j none) ?_ xs.length ?_
  ·rintro n s' ⟨i,σ',H',G',ys,rs',tl,rfl,hi,I',st',fr',x',hD',gD',r',hly,et,er,hol,hσ⟩
   by_cases hlt:i<xs.length
   ·have hx:xs.drop i=xs[i]::xs.drop (i+1):=List.drop_eq_getElem_cons hlt
    rw [hx] at et
    obtain ⟨o,t',eo,et',rfl⟩:=compF_cons et
    have step:=T.item X' hprog hw hK hcalm i [] s' σ' H' (fun _ _=>False) I' (fun b hb=>fpk H' b hb (fr' b hb)) st' (wk.go i H' (x'.gg.trans x'.gh) hlt)
    rw [hA] at step
    refine thn step fun r s5 ⟨u,hr,h5⟩=>?_
    subst hr
    refine thn h5 fun _ s6 ⟨x,H6,I6,rx,y6,st6,fr6⟩=>?_
    obtain ⟨G6,px,x6,epx,rpx⟩:=wk.step x'.gg x'.gh hlt y6
    replace x':=x'.trans x6
    replace gD':=(x6.old _ _ hD').trans gD'
    replace hD':=x6.hh _ _ hD'
    replace r':=r'.mono x6.gg
    have epx':xs[i]=px:=by rw [List.getElem?_eq_getElem hlt] at epx;exact Option.some.inj epx
    subst epx'
    obtain ⟨ps,c,t,eb,hp,ec,ett,hyes,hno⟩:=turnC_inv eo
    have I6':=I6.pinned (fun b hb=>fpk H6 b hb (fr6 b hb)) (T.obj _ _ st6)
    
    have keepT:∀ {σa:St} {Ha:Hp} {sa:Shared},Inv X' ([]++pinsAt fp s6.heap) σa Ha sa→tn (i+1) sa.heap∧∀ b∈fp,Ha b=none:=fun {σa Ha sa} Ia=>by
     refine ⟨T.keep _ _ _ st6 fun b hb o e=>(Ia.pin (b,o) (List.mem_append_right _ (List.mem_append_right _ (mem_pinsAt hb e)))).1,fun b hb=>?_⟩
     obtain ⟨o,e,d⟩:=T.obj _ _ st6 b hb
     exact (Ia.pin (b,o) (List.mem_append_right _ (List.mem_append_right _ (mem_pinsAt hb e)))).2.1
    have hbind:∃ vs,RpA X.K G6 ps vs∧vs.length=own.length∧∀ P:List V→Prop,P vs→bindV X.K tg x H6 P:=by
     rcases hp with ⟨rfl,rfl⟩ | ⟨m,rfl,hpx,hm⟩
     ·exact ⟨[x],.cons rpx .nil,by rw [hown];rfl,fun P h=>h⟩
     ·rw [hpx] at rpx
      obtain ⟨a,vs,rfl,qa,ra⟩:=(show ∃ a vs,x=V.ref a∧SqT X.K G6 a vs∧RpL X.K G6 ps vs from rpx)
      refine ⟨vs,ra.args,by rw [hown,← ra.length];exact hm,fun P h=>⟨a,vs,rfl,x6.gh.sqT qa,by rw [← ra.length];exact hm,h⟩⟩
    obtain ⟨vs,rvs,lvs,hb⟩:=hbind
    have asg:=B.tgt X' blk _ s6 σ' H6 x u (fun σ7 H7=>σ7=vs.map some++caps.map (fun j=>σ.getD j none)∧H7=H6) I6' rx ⟨hol,hb _ ⟨lvs,by rw [hσ],rfl⟩⟩
    rw [hprog,hw,hA,henv,hxe] at asg
    refine thn asg fun _ s7 ⟨σ7,H7,I7,hσ7,hH7⟩=>?_
    subst hσ7 hH7
    have Sb:SR X.K G6 H7 (vs.map some++caps.map fun j=>σ.getD j none) (ps.map Sl.val++caps.map fun j=>ρ.getD j .un):=(S.ext x').block hcd rvs
    have tst:=B.tst X' blk _ s7 _ H7 (fun b H8=>b=t∧∃ G8,Ext G6 H7 G8 H8) I7 ⟨G6,_,c,t,Sb,ec,ett,fun G8 H8 x8=>⟨rfl,G8,x8⟩⟩
    rw [henv] at tst
    refine thn tst fun b s8 ⟨H8,I8,hbt,G8,x8⟩=>?_
    subst hbt
    have hD8:H8 D=some (.lst ys):=x8.hh _ _ hD'
    have gD8:G8 D=none:=(x8.old _ _ hD').trans gD'
    have hdrop:(vs.map some++caps.map fun j=>σ.getD j none).drop own.length=caps.map fun j=>σ.getD j none:=by
     have:(vs.map some:St).length=own.length:=by rw [List.length_map];exact lvs
     rw [← this,List.drop_left]
    have hlen7:own.length≤(vs.map some++caps.map fun j=>σ.getD j none:St).length:=by
     rw [List.length_append,List.length_map,lvs];exact Nat.le_add_right _ _
    cases b with
    | false=>
     rw [if_neg Bool.false_ne_true]
     obtain ⟨k1,k2⟩:=keepT I8
     refine ⟨xs.length - (i+1),by lia,i+1,_,H8,G8,ys,rs',t',rfl,hlt,I8.unpinned,k1,k2,x'.trans x8,hD8,gD8,r'.mono x8.gg,by lia,et',?_,hlen7,hdrop⟩
     rw [er,hno rfl];rfl
    | true=>
     rw [if_pos rfl]
     obtain ⟨y,ey,hoy,hyd⟩:=hyes rfl
     have el:=B.elt X' blk _ s8 _ H8 (fun v H9=>∃ G9,Ext G8 H8 G9 H9∧Rp X.K G9 y v) I8 ⟨G8,_,y,Sb.ext x8,ey,fun v G9 H9 x9 r9=>⟨G9,x9,r9.rp hpk⟩⟩
     rw [hprog,hw,hA,henv,hxe] at el
     refine thn el fun w9 s9 ⟨v,H9,I9,rv,G9,x9,ry⟩=>?_
     have hD9:H9 D=some (.lst ys):=x9.hh _ _ hD8
     have gD9:G9 D=none:=(x9.old _ _ hD8).trans gD8
     have ap:=mt_append (X:=X') _ s9 _ H9 (.ref D) [v] (.ref D) [w9] (fun _ H10=>H10=upd H9 D (.lst (ys++[v]))) I9 rfl (.cons rv .nil) ⟨D,ys,v,rfl,rfl,hD9,by have:=wk.len;rw [line_eq];lia,rfl⟩
     rw [hprog,hw,hA,hxe] at ap
     refine thn ap fun _ s10 ⟨_,H10,I10,_,h10⟩=>?_
     subst h10
     obtain ⟨k1,k2⟩:=keepT I10
     refine ⟨xs.length - (i+1),by lia,i+1,_,_,G9,ys++[v],rs'++[y],t',rfl,hlt,I10.unpinned,k1,k2,(x'.trans (x8.trans x9)).mut hDn gD9 _,upd_same,gD9,((r'.mono x8.gg).mono x9.gg).append (.one hyd ry),by simp;lia,et',?_,hlen7,hdrop⟩
     rw [er,hoy,List.append_assoc];rfl
   ·have hie:i=xs.length:=by lia
    subst hie
    have done:=T.done X' hprog hw hK hcalm xs.length [] s' σ' H' (fun _ _=>False) I' (fun b hb=>fpk H' b hb (fr' b hb)) st' (wk.stop _ H' (x'.gg.trans x'.gh) (Nat.le_refl _))
    rw [hA] at done
    refine thn done fun r s5 ⟨hr,I5⟩=>?_
    subst hr
    rw [List.drop_length] at et
    cases (show some []=some tl from et)
    rw [List.append_nil] at er
    subst er
    exact fin s5 σ' H' G' ys I5 x' hD' gD' r'
  ·refine ⟨0,_,_,G2,[],[],rs,by simp,Nat.zero_le _,I4,st4,fun b hb=>?_,?_,upd_same,S.sub.fresh hDn,.nil,Nat.le_refl _,by simpa using e3,rfl,?_,?_⟩
   ·rw [upd_ne (fpD b hb)];exact f2 b hb
   ·exact (Ext.refl S.sub).mut hDn (S.sub.fresh hDn) _
   ·unfold slotsC;simp
   ·unfold slotsC
    exact List.drop_left' List.length_replicate
 refine codeAny_compStart_list loop (T.self X.A 0 s4 _ _ st4 loop)
theorem Ext.frz {G0 H0 G H:Hp} (x:Ext G0 H0 G H) {a:Addr} {o:HO} (h0:H0 a=none) (hg:G a=none) (hh:H a=some o):Ext G0 H0 (L2.upd G a o) H:=by
 refine ⟨x.hh,fun b u q=>?_,fun b u q=>?_,fun b u q=>?_⟩
 ·have:=x.gg b u q
  rw [upd_ne (ne_of_none this hg)];exact this
 ·by_cases e:b=a
  ·subst e;rw [upd_same] at q;cases q;exact hh
  ·rw [upd_ne e] at q;exact x.gh b u q
 ·rw [upd_ne (ne_of_none q h0)];exact x.old b u q
theorem inv_back {pins:List (Addr×Obj)} {σ σ':St} {H3 H':Hp} {s3 s':Shared} {N':List Str} {scope:Scope} {cl:List (Str×Addr)} {fp:List Addr} {h'':Heap} (I3:Inv X pins σ H3 s3)
  (I':Inv (cxC X N' scope cl s3.heap.objs.size s3 H3 fp) [] σ' H' s') (hs:Heap.SameBut s3.heap.objs.size s'.heap h'') (hfp:∀ b∈fp,FpOk X pins H3 b):Inv X pins σ H' {s' with heap:=h''}:=by
 have ne:∀ b o,s3.heap.get? b=some o→b≠s3.heap.objs.size:=fun b o e=>Nat.ne_of_lt (Heap.lt_size e)
 have B:Un (frs X.stack) fp H3 H' s3.heap s'.heap:=I'.base
 refine I3.call' (s':={s' with heap:=h''}) (ch:=fp) I'.os ⟨fun b o e n hb hx=>?_,fun b o e n hb hx=>?_,B.free,fun b o e hx=>?_,B.tups,B.frzs,B.tbls⟩ (fun b ob e=>?_) I'.bare (fun b hb=>?_)
 ·exact (hs.2 b (ne b o e)).trans (B.keep b o e n hb hx)
 ·obtain ⟨sl,e1⟩:=B.slot b o e n hb hx
  exact ⟨sl,(hs.2 b (ne b o e)).trans e1⟩
 ·obtain ⟨o',e1⟩:=B.there b o e hx
  exact ⟨o',(hs.2 b (ne b o e)).trans e1⟩
 ·refine (I'.hok b ob e).stay (fun c w' hc q=>(hs.2 c ?_).trans q) (fun _ q=>q) fun _ _ q=>q
  rintro rfl
  have hfree:H' s3.heap.objs.size=none:=I'.free
  rcases hc with rfl | hc
  ·rw [hfree] at e;cases e
  ·rw [hfree] at hc;cases hc
 ·obtain ⟨_,a2,_,a4,a5,a6⟩:=hfp b hb
  exact ⟨a4,a2,a5,a6⟩
theorem comp_core {own:List Str} {caps:List Nat} {scope:Scope} {tg:Option Nat} {target iter elt:Expr} {ifs:List Expr} {iit icond ielt:E} {pos:Pos} {pins:List (Addr×Obj)} {s:Shared} {σ:St} {G H:Hp} {ρ:Env} {sq:PV} {xs rs:List PV} {RR:Value→Addr→Result→Shared→Prop}
  (hcalm:X.calm=true) (CS:CScope X own caps scope) (hd:caps.Nodup) (hown:own.length=tg.getD 1) (hpk:isPeek ielt=false)
  (hit:PI X target iter (tI cf X.K iit)) (B:BlkOk X cf own caps scope tg target ifs elt icond ielt) (I:Inv X pins σ H s) (S:SR X.K G H σ ρ) (e1:evE cf iit ρ=some sq) (e2:seqOf sq=some xs)
  (e3:compF (turnC cf tg (caps.map fun j=>ρ.getD j .un) icond ielt) xs=some rs)
  (fin:∀ (D:Addr) (s3 s':Shared) (σ':St) (H3 H' G':Hp) (ys:List V) (fp:List Addr) (cl:List (Str×Addr)),Inv X pins σ H3 s3→Inv (cxC X (namesC X own caps) scope cl s3.heap.objs.size s3 H3 fp) [] σ' H' s'→(∀ b∈fp,FpOk X pins H3 b)→
   H D=none→Ext G H G' H'→H' D=some (.lst ys)→G' D=none→RpL X.K G' rs ys→RR (.ref D) s3.heap.objs.size (.ok .next) s'):
  wpAny (model X.prog X.w) X.A (eval iter X.env) (fun x s₁=>wpAny (model X.prog X.w) X.A (pyIter x) (fun it s₂=>wpAny (model X.prog X.w) X.A (newList []) (fun acc s₃=>
   wpAny (model X.prog X.w) X.A (newFunctionEnv scope X.env.globals (clOf X.env.cells scope.names []) [] X.env.qual none .none (some X.env)) (fun cenv s₄=>
    codeAny (model X.prog X.w) X.A (.compStart (.ListComp elt [⟨target,iter,ifs,0⟩] scope pos) 0 it acc {cenv with scope:=relabel scope X.env}) (RR acc cenv.locals) s₄) X.xe s₃) X.xe s₂) X.xe s₁) X.xe s:=by
 have w0:=hit pins s σ H (fun J H2=>∃ G2,Ext G H G2 H2∧Walk X.K J G2 xs) I ⟨G,ρ,sq,xs,S,e1,e2,fun J G' H' x w=>⟨G',x,w⟩⟩
 refine wpAny_mono w0 (fun v s1 h1=>wpAny_mono h1 (fun itv s2 h2=>?_) fun _ _ z=>z) fun _ _ z=>z
 obtain ⟨it,fp,tn,J,H2,rfl,I2,T,st2,f2,G2,x2,wk⟩:=h2
 refine wpAny_newObj_type (nfe_comp ?_)
 have O:=ownC_of scope.names ((s2.heap.push {cls:=.type "list",dict:=none,data:=.seq ([]:List Value).toArray}).push {cls:=.type "dict",data:=.dict #[]})
 rw [Heap.size_push (s2.heap.push _)] at O
 have hns₁:=(Heap.Ns.new (s2.heap.push {cls:=.type "list",dict:=none,data:=.seq ([]:List Value).toArray}) (.type "dict")).keeps (pushCells_keeps scope.names _)
 have hkp:∀ b o,(s2.heap.push {cls:=.type "list",dict:=none,data:=.seq ([]:List Value).toArray}).get? b=some o→(pushCells ((s2.heap.push {cls:=.type "list",dict:=none,data:=.seq ([]:List Value).toArray}).push {cls:=.type "dict",data:=.dict #[]}) scope.names).get? b=some o:=fun b o e=>pushCells_keeps _ _ b o (Heap.get?_push_of_some _ e)
 rw [cellsFrom_app]
 dsimp only at hns₁ ⊢
 generalize (pushCells ((s2.heap.push {cls:=.type "list",dict:=none,data:=.seq ([]:List Value).toArray}).push {cls:=.type "dict",data:=.dict #[]}) scope.names)=h₁ at hns₁ hkp O ⊢
 generalize cellsFrom ((s2.heap.push {cls:=.type "list",dict:=none,data:=.seq ([]:List Value).toArray}).objs.size+1) scope.names []=new at O ⊢
 generalize hD:s2.heap.objs.size=D at hns₁ ⊢
 have fo2:=T.obj 0 _ st2
 have hDn:H2 D=none:=by rw [← hD];exact I2.hok.fresh (Nat.le_refl _)
 have fpD:∀ b∈fp,b≠D:=fun b hb=>by
  obtain ⟨o,eo,_⟩:=fo2 b hb
  rw [← hD];exact Nat.ne_of_lt (Heap.lt_size eo)
 have I3:Inv X pins σ (upd H2 D (.lst [])) {s2 with heap:=s2.heap.push {cls:=.type "list",dict:=none,data:=.seq ([]:List Value).toArray}}:=by
  refine I2.laid (t':=s2.toks) (fun b o e=>Heap.get?_push_of_some _ e) (by rw [hD];exact Nat.le_refl _) ?_
  exact ⟨Nat.zero_le _,[],0,.nil,by rw [← hD];exact Heap.get?_push_size _ rfl⟩
 have kept:∀ b o,s2.heap.get? b=some o→h₁.get? b=some o:=fun b o e=>hkp b o (Heap.get?_push_of_some _ e)
 have fp3:∀ b∈fp,FpOk X pins (upd H2 D (.lst [])) b:=fun b hb=>by
  obtain ⟨a1,a2,a3,a4,a5,a6⟩:=f2 b hb
  exact ⟨by rw [upd_ne (fpD b hb)];exact a1,a2,a3,a4,a5,a6⟩
 have fo3:∀ b∈fp,∃ o,(s2.heap.push {cls:=.type "list",dict:=none,data:=.seq ([]:List Value).toArray}).get? b=some o:=fun b hb=>by
  obtain ⟨o,eo,_⟩:=fo2 b hb
  exact ⟨o,Heap.get?_push_of_some _ eo⟩
 have I4:=inv_comp (h1:=h₁) (t:=s2.toks) I3 CS hcalm fp3 fo3 hns₁ hkp O
 have S2:=S.ext x2
 have st4:tn 0 h₁:=T.keep 0 _ _ st2 fun b _ o e=>kept b o e
 refine comp_block (H2:=H2) (σ:=σ) (ρ:=ρ) hd hown hpk T wk B S2 hDn fpD (fun b hb=>(f2 b hb).1) (fun Hx b hb hn=>?_) I4 st4 e3 (fun s' σ' H' G' ys I' x' hD' gD' r'=>?_)
 ·obtain ⟨a1,a2,a3,a4,a5,a6⟩:=f2 b hb
  obtain ⟨o,eo⟩:=fo3 b hb
  exact ⟨hn,Nat.ne_of_lt (Heap.lt_size eo),(I4.ok.exfs b hb),.inl hb,(I4.ok.exf b hb).2,fun p hp=>absurd (show p∈([]:List (Addr×Obj)) from hp) (by simp)⟩
 ·have hDH:H D=none:=by
   cases q:H D with
   | none=>rfl
   | some o=>have:=x2.hh D o q;rw [hDn] at this;cases this
  exact fin D _ s' σ' _ H' G' ys fp _ I3 I' fp3 hDH (x2.trans x') hD' gD' r'
theorem pe_comp {own:List Str} {caps:List Nat} {scope:Scope} {tg:Option Nat} {target iter elt:Expr} {ifs:List Expr} {iit icond ielt:E} {pos:Pos} (hcalm:X.calm=true) (CS:CScope X own caps scope) (hd:caps.Nodup) (hown:own.length=tg.getD 1) (hpk:isPeek ielt=false)
  (hit:PI X target iter (tI cf X.K iit)) (hfs:∀ x,foldedSetIterable iter X.env x=pure x) (B:BlkOk X cf own caps scope tg target ifs elt icond ielt):
  PE X (.ListComp elt [⟨target,iter,ifs,0⟩] scope pos) (tE cf X.K (.comp tg caps iit icond ielt)):=by
 intro pins s σ H Q I h
 obtain ⟨G,ρ,p,S,e,k⟩:=h
 obtain ⟨sq,e1,e⟩:=bnd_eq.mp (show bnd (evE cf iit ρ) _=some p from e)
 obtain ⟨xs,e2,e⟩:=bnd_eq.mp e
 obtain ⟨rs,e3,e⟩:=bnd_eq.mp e
 cases (show some (PyData.list rs)=some p from e)
 have hfr:∀ x∈scope.names,x.2=.free→∃ c,X.env.cells.lookup x.1=some c:=fun x hx e=>I.ok.has x.1 (CS.frees x hx e)
 rw [eval_ListComp]
 refine wpAny_comprehension_free (use:=none) rfl hfs (closure_of hfr) CS.kind CS.locals ?_
 refine comp_core (RR:=fun acc C=>compPost (model X.prog X.w) X.A X.xe none (EP X pins σ Q) acc C) hcalm CS hd hown hpk hit B I S e1 e2 e3 fun D s3 s' σ' H3 H' G' ys fp cl I3 I' fp3 hDH x hD' gD' r'=>?_
 obtain ⟨m',hn',_⟩:=I'.loc
 refine ⟨m',hn',fun h'' hs''=>?_⟩
 refine ⟨.ref D,H',inv_back I3 I' hs'' fp3,rfl,k _ _ _ (x.frz hDH gD' hD') (.of rfl ⟨D,ys,rfl,SqL.of upd_same,r'.mono ?_⟩)⟩
 exact .new gD' _
theorem ps_comp {own:List Str} {caps:List Nat} {scope:Scope} {tg:Option Nat} {target iter elt:Expr} {ifs:List Expr} {iit icond ielt:E} {pos spos py:Pos} {i:Nat} {y:Str} (hcalm:X.calm=true) (CS:CScope X own caps scope) (hd:caps.Nodup) (hown:own.length=tg.getD 1) (hpk:isPeek ielt=false)
  (hit:PI X target iter (tI cf X.K iit)) (hfs:∀ x,foldedSetIterable iter X.env x=pure x) (B:BlkOk X cf own caps scope tg target ifs elt icond ielt)
  (hN:X.N.Nodup) (hi:X.N[i]?=some y) (hy:X.env.scope.names.lookup y=some .local) (hsw:swapsWith (.ListComp elt [⟨target,iter,ifs,0⟩] scope pos) (some (.Name y py)) spos.line X.env=pure true):
  PS X (.Assign [.Name y py] (.ListComp elt [⟨target,iter,ifs,0⟩] scope pos) spos) (tAsg (tE cf X.K (.comp tg caps iit icond ielt)) (gName i)):=by
 intro pins s σ H D0 I h
 obtain ⟨G,ρ,p,S,e,k⟩:=h
 obtain ⟨sq,e1,e⟩:=bnd_eq.mp (show bnd (evE cf iit ρ) _=some p from e)
 obtain ⟨xs,e2,e⟩:=bnd_eq.mp e
 obtain ⟨rs,e3,e⟩:=bnd_eq.mp e
 cases (show some (PyData.list rs)=some p from e)
 have hfr:∀ x∈scope.names,x.2=.free→∃ c,X.env.cells.lookup x.1=some c:=fun x hx e=>I.ok.has x.1 (CS.frees x hx e)
 rw [exec_Assign_Name_used _ _ _ _ hsw]
 refine wpAny_bind (wpAny_standAt (wpAny_bind ?_))
 show wpAny _ X.A (do let _ ← comprehension (.ListComp elt [⟨target,iter,ifs,0⟩] scope pos) scope X.env _ (newList []) false (eval iter X.env) (some (assign (.Name y py) X.env))) _ _ s
 refine wpAny_bind (wpAny_mono (wpAny_comprehension_free (use:=some (assign (.Name y py) X.env)) (Q:=fun _ s'=>SP X pins D0 .next s') rfl hfs (closure_of hfr) CS.kind CS.locals ?_) (fun _ s' hq=>wpAny_pure (wpAny_pure hq)) fun _ _ e=>e)
 refine comp_core (RR:=fun acc C=>compPost (model X.prog X.w) X.A X.xe (some (assign (.Name y py) X.env)) (fun _ s'=>SP X pins D0 .next s') acc C) hcalm CS hd hown hpk hit B I S e1 e2 e3 fun D s3 s' σ' H3 H' G' ys fp cl I3 I' fp3 hDH x hD' gD' r'=>?_
 have Ib:Inv X pins σ H' s':=inv_back (h'':=s'.heap) I3 I' (.refl ..) fp3
 have hnx:D0.nx (σ.set i (some (.ref D))) H':=k _ _ _ (x.frz hDH gD' hD') (.of rfl ⟨D,ys,rfl,SqL.of upd_same,r'.mono (.new gD' _)⟩)
 show wpAny _ X.A (assign (.Name y py) X.env (.ref D)) _ _ _
 have hCC:s3.heap.objs.size≠X.env.locals:=fun z=>absurd I3.lt (by rw [← z];exact Nat.lt_irrefl _)
 refine wpAny_assign_Name (store_ok2 Ib hN hi (.inl hy) (v:=.ref D) rfl (fun s'' I'' hch=>?_) (.inr hy))
 obtain ⟨m',hn',_⟩:=I'.loc
 obtain ⟨a,hsa,ha⟩:=hch
 have hCa:s3.heap.objs.size≠a:=by
  rcases ha with z | z
  ·rw [z];exact hCC
  ·intro w
   obtain ⟨cv,hcv⟩:=I3.cell y a z
   exact absurd hcv.lt (by rw [← w];exact Nat.lt_irrefl _)
 refine ⟨m',hn'.sameBut hsa hCa,fun h'' hs''=>⟨σ.set i (some (.ref D)),H',?_,hnx⟩⟩
 
 refine I''.call' (s':={s'' with heap:=h''}) (ch:=[s3.heap.objs.size]) rfl ⟨fun b o e n hb hx=>?_,fun b o e n hb hx=>?_,fun b o e n hx=>n,fun b o e hx=>?_,fun _ _ e=>e,fun _ _ _ e=>e,fun b ps e=>⟨#[],by rw [e];simp⟩⟩ (fun b ob e=>?_) I''.bare (fun b hb=>?_)
 ·exact (hs''.2 b fun z=>hx (by simp [z])).trans e
 ·exact ⟨o.slots,(hs''.2 b fun z=>hx (by simp [z])).trans e⟩
 ·exact ⟨o,(hs''.2 b fun z=>hx (by simp [z])).trans e⟩
 ·refine (I''.hok b ob e).stay (fun c w' hc q=>(hs''.2 c ?_).trans q) (fun _ q=>q) fun _ _ q=>q
  rintro rfl
  have hfree:H' s3.heap.objs.size=none:=I'.free
  rcases hc with rfl | hc
  ·rw [hfree] at e;cases e
  ·rw [hfree] at hc;cases hc
 ·have eb:b=s3.heap.objs.size:=by simpa using hb
  subst eb
  refine ⟨.inr (I3.sz),hCC,fun z c ec w=>?_,fun q hq w=>?_⟩
  ·obtain ⟨cv,hcv⟩:=I3.cell z c ec
   exact absurd hcv.lt (by rw [w];exact Nat.lt_irrefl _)
  ·exact absurd (Heap.lt_size (I3.pin q hq).1) (by rw [w];exact Nat.lt_irrefl _)
end
structure ST (K:PySem.W.Frag) (G0 H0 G H:Hp) (σ:St) (ρ:Env):Prop where
 sr:SR K G H σ ρ
 ex:Ext G0 H0 G H
 new:∀ (i:Nat) (ps:List PV) (a:Addr),ρ[i]?=some (Sl.own ps)→σ[i]?=some (some (V.ref a))→H0 a=none
theorem ST.ext {K:PySem.W.Frag} {G0 H0 G H G' H':Hp} {σ:St} {ρ:Env} (T:ST K G0 H0 G H σ ρ) (x:Ext G H G' H'):ST K G0 H0 G' H' σ ρ:=⟨T.sr.ext x,T.ex.trans x,T.new⟩
theorem ST.setVal {K:PySem.W.Frag} {G0 H0 G H:Hp} {σ:St} {ρ:Env} (T:ST K G0 H0 G H σ ρ) {i:Nat} {p:PV} {v:V} (r:Rp K G p v):ST K G0 H0 G H (σ.set i (some v)) (ρ.set i (.val p)):=by
 refine ⟨T.sr.setVal r,T.ex,fun j ps a e1 e2=>?_⟩
 rw [List.getElem?_set] at e1
 by_cases hij:i=j
 ·rw [if_pos hij] at e1
  split at e1 <;> cases e1
 ·rw [if_neg hij] at e1
  rw [List.getElem?_set_ne hij] at e2
  exact T.new j ps a e1 e2
theorem ST.setOwn {K:PySem.W.Frag} {G0 H0 G H:Hp} {σ:St} {ρ:Env} (T:ST K G0 H0 G H σ ρ) {i:Nat} {ps:List PV} {vs:List V} {l:Addr} (hl:H l=none) (r:RpL K G ps vs):
  ST K G0 H0 G (L2.upd H l (.lst vs)) (σ.set i (some (.ref l))) (ρ.set i (.own ps)):=by
 have gl:=T.sr.sub.fresh hl
 have h0l:H0 l=none:=by
  cases q:H0 l with
  | none=>rfl
  | some o=>have:=T.ex.hh l o q;rw [hl] at this;cases this
 have x1:Ext G H G (L2.upd H l (.lst vs)):=Ext.own T.sr.sub hl _
 have T1:=T.ext x1
 have lt:∀ (j:Nat) (qs:List PV),ρ[j]?=some (Sl.own qs)→σ[j]?≠some (some (V.ref l)):=fun j qs e z=>by
  obtain ⟨o,eo,a,ws,rfl,h1,_⟩:=T.sr.at e
  rw [eo] at z;cases z
  rw [hl] at h1;cases h1
 refine ⟨⟨by simpa using T.sr.len,x1.gh,fun j sl o e1 e2=>?_,fun j k sj sk a hjk e1 e2 o1 o2 e3 e4=>?_⟩,T1.ex,fun j qs a e1 e2=>?_⟩
 ·rw [List.getElem?_set] at e1 e2
  by_cases hij:i=j
  ·rw [if_pos hij] at e1 e2
   split at e1
   ·rename_i hlt
    rw [if_pos (by rw [T.sr.len];exact hlt)] at e2
    cases e1;cases e2
    exact ⟨l,vs,rfl,upd_same,gl,r⟩
   ·cases e1
  ·rw [if_neg hij] at e1 e2
   exact T1.sr.get j sl o e1 e2
 ·rw [List.getElem?_set] at e1 e2 e3 e4
  by_cases hij:i=j
  ·have hik:i≠k:=fun z=>hjk (hij.symm.trans z)
   rw [if_neg hik] at e2 e4
   rw [if_pos hij] at e3
   split at e3
   ·cases e3
    cases sk with
    | own qs=>exact lt k qs e2 e4
    | un=>cases o2
    | val p=>cases o2
   ·cases e3
  ·rw [if_neg hij] at e1 e3
   by_cases hik:i=k
   ·rw [if_pos hik] at e4
    split at e4
    ·cases e4
     cases sj with
     | own qs=>exact lt j qs e1 e3
     | un=>cases o1
     | val p=>cases o1
    ·cases e4
   ·rw [if_neg hik] at e2 e4
    exact T.sr.apart j k sj sk a hjk e1 e2 o1 o2 e3 e4
 ·rw [List.getElem?_set] at e1 e2
  by_cases hij:i=j
  ·rw [if_pos hij] at e2
   split at e2
   ·cases e2;exact h0l
   ·cases e2
  ·rw [if_neg hij] at e1 e2
   exact T.new j qs a e1 e2
theorem ST.grow {K:PySem.W.Frag} {G0 H0 G H:Hp} {σ:St} {ρ:Env} (T:ST K G0 H0 G H σ ρ) {i:Nat} {ps qs:List PV} {vs ws:List V} {l:Addr} (ei:ρ[i]?=some (Sl.own ps)) (es:σ[i]?=some (some (V.ref l))) (hl:H l=some (.lst vs))
  (gl:G l=none) (r:RpL K G qs ws):ST K G0 H0 G (L2.upd H l (.lst ws)) σ (ρ.set i (.own qs)):=by
 have hi:i<ρ.length:=(List.getElem?_eq_some_iff.mp ei).1
 have old:∀ (j:Nat) (sl:Sl),(ρ.set i (.own qs))[j]?=some sl→(i=j∧sl=.own qs)∨(i≠j∧ρ[j]?=some sl):=fun j sl e=>by
  rw [List.getElem?_set] at e
  by_cases hij:i=j
  ·rw [if_pos hij,if_pos hi] at e
   cases e
   exact .inl ⟨hij,rfl⟩
  ·rw [if_neg hij] at e;exact .inr ⟨hij,e⟩
 refine ⟨⟨by simpa using T.sr.len,fun b u q=>by rw [upd_ne (ne_of_none q gl)];exact T.sr.sub b u q,fun j sl o e1 e2=>?_,fun j k sj sk a hjk e1 e2 o1 o2 e3 e4=>?_⟩,T.ex.mut (T.new i ps l ei es) gl _,fun j qs' a e1 e2=>?_⟩
 ·rcases old j sl e1 with ⟨rfl,rfl⟩ | ⟨hij,e1'⟩
  ·rw [es] at e2
   cases e2
   exact ⟨l,ws,rfl,upd_same,gl,r⟩
  ·have h:=T.sr.get j sl o e1' e2
   cases sl with
   | un=>exact h
   | val p=>exact h
   | own ts=>
    obtain ⟨b,us,rfl,h1,h2,rr⟩:=h
    refine ⟨b,us,rfl,?_,h2,rr⟩
    rw [upd_ne]
    ·exact h1
    ·rintro rfl
     exact T.sr.apart i j (.own ps) (.own ts) b hij ei e1' rfl rfl es e2
 ·have back:∀ (m:Nat) (sl:Sl),(ρ.set i (.own qs))[m]?=some sl→isOwn sl=true→∃ sl',ρ[m]?=some sl'∧isOwn sl'=true:=fun m sl e h=>by
   rcases old m sl e with ⟨rfl,rfl⟩ | ⟨_,e'⟩
   ·exact ⟨_,ei,rfl⟩
   ·exact ⟨sl,e',h⟩
  obtain ⟨s1,f1,g1⟩:=back j sj e1 o1
  obtain ⟨s2,f2,g2⟩:=back k sk e2 o2
  exact T.sr.apart j k s1 s2 a hjk f1 f2 g1 g2 e3 e4
 ·rcases old j _ e1 with ⟨rfl,_⟩ | ⟨_,e1'⟩
  ·exact T.new i ps a ei e2
  ·exact T.new j qs' a e1' e2
theorem ST.frz {K:PySem.W.Frag} {G0 H0 G H:Hp} {σ:St} {ρ:Env} (T:ST K G0 H0 G H σ ρ) {i:Nat} {ps:List PV} (ei:ρ[i]?=some (Sl.own ps)):∃ G',ST K G0 H0 G' H σ (ρ.set i (.val (.list ps))):=by
 obtain ⟨o,es,l,vs,rfl,hl,gl,r⟩:=T.sr.at ei
 have hi:i<ρ.length:=(List.getElem?_eq_some_iff.mp ei).1
 have sg:Sub G (L2.upd G l (.lst vs)):=.new gl _
 have old:∀ (j:Nat) (sl:Sl),(ρ.set i (.val (.list ps)))[j]?=some sl→(i=j∧sl=.val (.list ps))∨(i≠j∧ρ[j]?=some sl):=fun j sl e=>by
  rw [List.getElem?_set] at e
  by_cases hij:i=j
  ·rw [if_pos hij,if_pos hi] at e
   cases e
   exact .inl ⟨hij,rfl⟩
  ·rw [if_neg hij] at e;exact .inr ⟨hij,e⟩
 have x1:=T.ex.frz (T.new i ps l ei es) gl hl
 refine ⟨L2.upd G l (.lst vs),⟨by simpa using T.sr.len,x1.gh,fun j sl o e1 e2=>?_,fun j k sj sk a hjk e1 e2 o1 o2 e3 e4=>?_⟩,x1,fun j qs' a e1 e2=>?_⟩
 ·rcases old j sl e1 with ⟨rfl,rfl⟩ | ⟨hij,e1'⟩
  ·rw [es] at e2
   cases e2
   exact ⟨_,rfl,l,vs,rfl,SqL.of upd_same,r.mono sg⟩
  ·have h:=T.sr.get j sl o e1' e2
   cases sl with
   | un=>exact h
   | val p=>obtain ⟨v,e,rr⟩:=h;exact ⟨v,e,rr.mono sg⟩
   | own ts=>
    obtain ⟨b,us,rfl,h1,h2,rr⟩:=h
    refine ⟨b,us,rfl,h1,?_,rr.mono sg⟩
    rw [upd_ne]
    ·exact h2
    ·rintro rfl
     exact T.sr.apart i j (.own ps) (.own ts) b hij ei e1' rfl rfl es e2
 ·have back:∀ (m:Nat) (sl:Sl),(ρ.set i (.val (.list ps)))[m]?=some sl→isOwn sl=true→ρ[m]?=some sl:=fun m sl e h=>by
   rcases old m sl e with ⟨rfl,rfl⟩ | ⟨_,e'⟩
   ·cases h
   ·exact e'
  exact T.sr.apart j k sj sk a hjk (back j sj e1 o1) (back k sk e2 o2) o1 o2 e3 e4
 ·rcases old j _ e1 with ⟨rfl,z⟩ | ⟨_,e1'⟩
  ·cases z
  ·exact T.new j qs' a e1' e2
noncomputable def Post (K:PySem.W.Frag) (D:Ends) (G0 H0:Hp):Out→Prop
 | .nx ρ=>∀ σ G H,ST K G0 H0 G H σ ρ→D.nx σ H
 | .bk ρ=>∀ σ G H,ST K G0 H0 G H σ ρ→D.bk σ H
 | .ct ρ=>∀ σ G H,ST K G0 H0 G H σ ρ→D.ct σ H
 | .rt p=>∀ v G H,Ext G0 H0 G H→Rp K G p v→D.rt v H
noncomputable def tS (cf:CF) (K:PySem.W.Frag) (is:DD.S):TS:=fun D σ H=>∃ G0 H0 G ρ o,ST K G0 H0 G H σ ρ∧evS cf is ρ=some o∧Post K D G0 H0 o
section
variable {X:Cx} {cf:CF}
theorem _root_.L2.PS.weak {st:Stmt} {t t':TS} (h:PS X st t) (w:∀ D σ H,t' D σ H→t D σ H):PS X st t':=fun pins s σ H D I q=>h pins s σ H D I (w D σ H q)
theorem _root_.L2.PSs.weak {st:List Stmt} {t t':TS} (h:PSs X st t) (w:∀ D σ H,t' D σ H→t D σ H):PSs X st t':=fun pins s σ H D I q=>h pins s σ H D I (w D σ H q)
theorem ss_nil:PSs X [] (tS cf X.K .nx):=pss_nil.weak fun D σ H ⟨G0,H0,G,ρ,o,T,e,k⟩=>by
 cases (show some (Out.nx ρ)=some o from e)
 exact k σ G H T
theorem seqO_inv {x:Option Out} {f:Env→Option Out} {o:Out} (h:seqO x f=some o):(∃ ρ,x=some (.nx ρ)∧f ρ=some o)∨(x=some o∧∀ ρ,o≠.nx ρ):=by
 cases x with
 | none=>cases h
 | some a=>
  cases a with
  | nx ρ=>exact .inl ⟨ρ,rfl,h⟩
  | rt p=>cases h;exact .inr ⟨rfl,fun _ z=>nomatch z⟩
  | bk p=>cases h;exact .inr ⟨rfl,fun _ z=>nomatch z⟩
  | ct p=>cases h;exact .inr ⟨rfl,fun _ z=>nomatch z⟩
theorem ss_cons {a b:DD.S} {st:Stmt} {rest:List Stmt} (ha:PS X st (tS cf X.K a)) (hb:PSs X rest (tS cf X.K b)):PSs X (st::rest) (tS cf X.K (.seq a b)):=
 (pss_cons ha hb).weak fun D σ H ⟨G0,H0,G,ρ,o,T,e,k⟩=>by
  rcases seqO_inv (show seqO (evS cf a ρ) (fun ρ1=>evS cf b ρ1)=some o from e) with ⟨ρ1,e1,e2⟩ | ⟨e1,hne⟩
  ·exact ⟨G0,H0,G,ρ,.nx ρ1,T,e1,fun σ' G' H' T'=>⟨G0,H0,G',ρ1,o,T',e2,k⟩⟩
  ·refine ⟨G0,H0,G,ρ,o,T,e1,?_⟩
   cases o with
   | nx ρ'=>exact absurd rfl (hne ρ')
   | rt p=>exact k
   | bk ρ'=>exact k
   | ct ρ'=>exact k
theorem ss_one {a:DD.S} {st:Stmt} (ha:PS X st (tS cf X.K a)):PSs X [st] (tS cf X.K a):=pss_one ha
theorem ss_frz {i:Nat} {b:DD.S} {sts:List Stmt} (hb:PSs X sts (tS cf X.K b)):PSs X sts (tS cf X.K (.seq (.frz i) b)):=
 hb.weak fun D σ H ⟨G0,H0,G,ρ,o,T,e,k⟩=>by
  rcases seqO_inv (show seqO (bnd ρ[i]? (frzF i ρ)) (fun ρ1=>evS cf b ρ1)=some o from e) with ⟨ρ1,e1,e2⟩ | ⟨e1,hne⟩
  ·obtain ⟨sl,e3,e4⟩:=bnd_eq.mp e1
   cases sl with
   | own ps=>
    cases (show some (Out.nx (ρ.set i (.val (.list ps))))=some (.nx ρ1) from e4)
    obtain ⟨G',T'⟩:=T.frz e3
    exact ⟨G0,H0,G',_,o,T',e2,k⟩
   | un=>cases (show some (Out.nx ρ)=some (.nx ρ1) from e4);exact ⟨G0,H0,G,ρ,o,T,e2,k⟩
   | val p=>cases (show some (Out.nx ρ)=some (.nx ρ1) from e4);exact ⟨G0,H0,G,ρ,o,T,e2,k⟩
  ·obtain ⟨sl,e3,e4⟩:=bnd_eq.mp e1
   cases sl with
   | own ps=>cases (show some (Out.nx (ρ.set i (.val (.list ps))))=some o from e4);exact absurd rfl (hne _)
   | un=>cases (show some (Out.nx ρ)=some o from e4);exact absurd rfl (hne _)
   | val p=>cases (show some (Out.nx ρ)=some o from e4);exact absurd rfl (hne _)
theorem asg_w {i:Nat} {ie:E} (hk:isPeek ie=false):∀ D σ H,tS cf X.K (.set i ie) D σ H→tAsg (tE cf X.K ie) (gName i) D σ H:=fun D σ H ⟨G0,H0,G,ρ,o,T,e,k⟩=>by
 obtain ⟨p,e1,e2⟩:=bnd_eq.mp (show bnd (evE cf ie ρ) (fun p=>some (Out.nx (ρ.set i (.val p))))=some o from e)
 cases e2
 exact ⟨G,ρ,p,T.sr,e1,fun v G' H' x r=>k _ G' H' ((T.ext x).setVal (r.rp hk))⟩
theorem st_set {i:Nat} {x:Str} {e:Expr} {ie:E} {pos pos':Pos} (hN:X.N.Nodup) (hi:X.N[i]?=some x) (hx:Loc X.env.scope x) (hf:X.fn x=true∨X.env.scope.names.lookup x=some .local) (he:PE X e (tE cf X.K ie)) (hk:isPeek ie=false)
  (hs:swapsWith e (some (.Name x pos')) pos.line X.env=pure false):PS X (.Assign [.Name x pos'] e pos) (tS cf X.K (.set i ie)):=(ps_set hN hi hx he hs hf).weak (asg_w hk)
theorem st_own {i:Nat} {x:Str} {es:List Expr} {a:E} {n:Nat} {pos pos' lpos:Pos} (hN:X.N.Nodup) (hi:X.N[i]?=some x) (hx:Loc X.env.scope x) (hf:X.fn x=true∨X.env.scope.names.lookup x=some .local) (h:PA X es (tA cf X.K a)) (hn:argN a=some n) (hs:n≤1000):
  PS X (.Assign [.Name x pos'] (.List es lpos) pos) (tS cf X.K (.own i (.lst a))):=by
 refine (ps_set hN hi hx (pe_lst h) rfl hf).weak fun D σ H ⟨G0,H0,G,ρ,o,T,e,k⟩=>?_
 obtain ⟨p,e1,e2⟩:=bnd_eq.mp (show bnd (evE cf (.lst a) ρ) (ownF i ρ)=some o from e)
 obtain ⟨r,e3,e4⟩:=bnd_eq.mp (show bnd (evE cf a ρ) lstF=some p from e1)
 obtain ⟨ps,rfl,hl⟩:=args_len a n ρ r hn e3
 obtain ⟨hd,e5⟩:=tst_none (show DD.tst (anyD ps) none (some (PyData.list ps))=some p from e4)
 cases e5
 cases (show some (Out.nx (ρ.set i (.own ps)))=some o from e2)
 refine ⟨G,ρ,ps,T.sr,e3,fun vs G1 H1 x1 r1=>⟨?_,fun l hf=>?_⟩⟩
 ·have:=r1.length;rw [line_eq];lia
 ·exact k _ G1 _ ((T.ext x1).setOwn hf (r1.list hd))
theorem st_ret {e:Expr} {ie:E} {pos:Pos} (he:PE X e (tE cf X.K ie)) (hk:isPeek ie=false):PS X (.Return (some e) pos) (tS cf X.K (.ret ie)):=
 (ps_ret he).weak fun D σ H ⟨G0,H0,G,ρ,o,T,e,k⟩=>by
  obtain ⟨p,e1,e2⟩:=bnd_eq.mp (show bnd (evE cf ie ρ) (fun p=>some (Out.rt p))=some o from e)
  cases e2
  exact ⟨G,ρ,p,T.sr,e1,fun v G' H' x r=>k v G' H' (T.ex.trans x) (r.rp hk)⟩
theorem st_ife {c:Expr} {a b:List Stmt} {ic:E} {ia ib:DD.S} {pos:Pos} (hc:PT X c (tT cf X.K ic)) (ha:PSs X a (tS cf X.K ia)) (hb:PSs X b (tS cf X.K ib)):PS X (.If c a b pos) (tS cf X.K (.ife ic ia ib)):=
 (ps_if hc ha hb).weak fun D σ H ⟨G0,H0,G,ρ,o,T,e,k⟩=>by
  obtain ⟨x,e1,e2⟩:=bnd_eq.mp (show bnd (evE cf ic ρ) (fun x=>bnd (truthF x) fun t=>DD.tst t (evS cf ia ρ) (evS cf ib ρ))=some o from e)
  obtain ⟨t,e3,e4⟩:=bnd_eq.mp e2
  refine ⟨G,ρ,x,t,T.sr,e1,e3,fun G' H' xx=>?_⟩
  cases t with
  | true=>exact iteT ⟨G0,H0,G',ρ,o,T.ext xx,e4,k⟩
  | false=>exact iteF ⟨G0,H0,G',ρ,o,T.ext xx,e4,k⟩
theorem st_pass {pos:Pos}:PS X (.Pass pos) (tS cf X.K .nx):=ps_pass.weak fun D σ H ⟨G0,H0,G,ρ,o,T,e,k⟩=>by
 cases (show some (Out.nx ρ)=some o from e)
 exact k σ G H T
end
noncomputable def gMany:List Nat→TGs
 | []=>gNil
 | i::is=>gCons (gName i) (gMany is)
noncomputable def gS (K:PySem.W.Frag):Tg→TG
 | .one i=>gName i
 | .many is=>gTup K is.length (gMany is)
theorem many_ok {K:PySem.W.Frag} {G0 H0 G H:Hp} {Q:St→Hp→Prop}:∀ (is:List Nat) (ps:List PV) (vs:List V) (σ:St) (ρ ρ':Env),ST K G0 H0 G H σ ρ→RpL K G ps vs→setMany is ps ρ=some ρ'→(∀ σ',ST K G0 H0 G H σ' ρ'→Q σ' H)→gMany is vs σ H Q
 | [],[],_,σ,ρ,ρ',T,r,e,k=>by
  cases (show _=[] from r)
  cases (show some ρ=some ρ' from e)
  exact ⟨rfl,k σ T⟩
 | i::is,p::ps,_,σ,ρ,ρ',T,r,e,k=>by
  obtain ⟨v,w,rfl,⟨_,r1⟩,r2⟩:=(show ∃ v r,_=v::r∧(isDict p=false∧Rp K G p v)∧RpL K G ps r from r)
  exact ⟨v,w,rfl,many_ok is ps w _ _ ρ' (T.setVal r1) r2 e k⟩
 | [],_::_,_,_,_,_,_,_,e,_=>by cases e
 | _::_,[],_,_,_,_,_,_,e,_=>by cases e
theorem setMany_len:∀ (is:List Nat) (ps:List PV) (ρ ρ':Env),setMany is ps ρ=some ρ'→is.length=ps.length
 | [],[],_,_,_=>rfl
 | _::is,_::ps,_,ρ',e=>by simp [setMany_len is ps _ ρ' e]
 | [],_::_,_,_,e=>by cases e
 | _::_,[],_,_,e=>by cases e
theorem bindS_ok {K:PySem.W.Frag} {G0 H0 G H:Hp} {Q:St→Hp→Prop} {t:Tg} {p:PV} {v:V} {σ:St} {ρ ρ':Env} (T:ST K G0 H0 G H σ ρ) (r:Rp K G p v) (e:bindS t p ρ=some ρ') (k:∀ σ',ST K G0 H0 G H σ' ρ'→Q σ' H):gS K t v σ H Q:=by
 cases t with
 | one i=>
  cases (show some (ρ.set i (.val p))=some ρ' from e)
  exact k _ (T.setVal r)
 | many is=>
  cases p with
  | tuple xs=>
   obtain ⟨a,vs,rfl,q,rr⟩:=(show ∃ a vs,v=V.ref a∧SqT K G a vs∧RpL K G xs vs from r)
   have hl:=setMany_len is xs ρ ρ' e
   exact ⟨a,vs,rfl,T.sr.sub.sqT q,by rw [← rr.length];exact hl.symm,many_ok is xs vs σ ρ ρ' T rr e k⟩
  | _=>cases (show none=some ρ' from e)
noncomputable def midH (G H0 H:Hp):Hp:=fun a=>if (G a).isSome||(H0 a).isSome then H a else none
theorem midH_some {G H0 H:Hp} {a:Addr} {o:HO} (h:midH G H0 H a=some o):H a=some o∧((G a).isSome=true∨(H0 a).isSome=true):=by
 unfold midH at h
 split at h
 ·rename_i q
  exact ⟨h,by simpa using q⟩
 ·cases h
theorem midH_of {G H0 H:Hp} {a:Addr} (h:(G a).isSome=true∨(H0 a).isSome=true):midH G H0 H a=H a:=by
 unfold midH
 rw [if_pos (by simpa using h)]
theorem ST.mid {K:PySem.W.Frag} {G0 H0 G H:Hp} {σ:St} {ρ:Env} (T:ST K G0 H0 G H σ ρ):ST K G (midH G H0 H) G H σ ρ:=by
 refine ⟨T.sr,⟨fun a o h=>(midH_some h).1,.refl _,T.sr.sub,fun _ _ _=>rfl⟩,fun i ps a e1 e2=>?_⟩
 obtain ⟨o,eo,b,vs,rfl,h1,h2,_⟩:=T.sr.at e1
 rw [eo] at e2
 have eb:b=a:=by injection e2 with e2;injection e2 with e2;injection e2
 subst eb
 have h3:=T.new i ps b e1 eo
 unfold midH
 rw [h2,h3];rfl
theorem ST.back {K:PySem.W.Frag} {G0 H0 G H G2 H2:Hp} {σ σ2:St} {ρ ρ2:Env} (T:ST K G0 H0 G H σ ρ) (T2:ST K G (midH G H0 H) G2 H2 σ2 ρ2):ST K G0 H0 G2 H2 σ2 ρ2∧Sub G G2:=by
 have inM:∀ a o,H0 a=some o→midH G H0 H a=some o:=fun a o h=>by rw [midH_of (.inr (by rw [h];rfl))];exact T.ex.hh a o h
 refine ⟨⟨T2.sr,⟨fun a o h=>T2.ex.hh a o (inM a o h),T.ex.gg.trans T2.ex.gg,T2.ex.gh,fun a o h=>(T2.ex.old a o (inM a o h)).trans (T.ex.old a o h)⟩,fun i ps a e1 e2=>?_⟩,T2.ex.gg⟩
 have:=T2.new i ps a e1 e2
 cases q:H0 a with
 | none=>rfl
 | some o=>rw [inM a o q] at this;cases this
theorem Ext.back {K:PySem.W.Frag} {G0 H0 G H G2 H2:Hp} {σ:St} {ρ:Env} (T:ST K G0 H0 G H σ ρ) (x:Ext G (midH G H0 H) G2 H2):Ext G0 H0 G2 H2:=by
 have inM:∀ a o,H0 a=some o→midH G H0 H a=some o:=fun a o h=>by rw [midH_of (.inr (by rw [h];rfl))];exact T.ex.hh a o h
 exact ⟨fun a o h=>x.hh a o (inM a o h),T.ex.gg.trans x.gg,x.gh,fun a o h=>(x.old a o (inM a o h)).trans (T.ex.old a o h)⟩
section
variable {X:Cx} {cf:CF}
theorem turnO_inv {x:Option Out} {f:Env→Option Out} {o:Out} (h:turnO x f=some o):
  (∃ ρ,(x=some (.nx ρ)∨x=some (.ct ρ))∧f ρ=some o)∨(∃ ρ,x=some (.bk ρ)∧o=.nx ρ)∨(∃ p,x=some (.rt p)∧o=.rt p):=by
 cases x with
 | none=>cases h
 | some a=>
  cases a with
  | nx ρ=>exact .inl ⟨ρ,.inl rfl,h⟩
  | ct ρ=>exact .inl ⟨ρ,.inr rfl,h⟩
  | bk ρ=>cases h;exact .inr (.inl ⟨ρ,rfl,rfl⟩)
  | rt p=>cases h;exact .inr (.inr ⟨p,rfl,rfl⟩)
theorem st_loop {t:Tg} {iit:E} {ib:DD.S} {tg iter:Expr} {body:List Stmt} {pos:Pos} (hxe:X.xe=fun _ _=>False) (hc:X.calm=true) (hit:PI X tg iter (tI cf X.K iit)) (hg:PG X tg (gS X.K t)) (hb:PSs X body (tS cf X.K ib))
  (hfs:∀ x,foldedSetIterable iter X.env x=pure x):PS X (.For tg iter body [] pos) (tS cf X.K (.loop t iit ib)):=by
 have hp:PassesOwn (model X.prog X.w) X.A X.env X.xe:=by rw [hxe];exact PassesOwn.never
 refine (ps_for hp hc hit hg hb hfs).weak fun D σ H ⟨G0,H0,G,ρ,o,T,e,k⟩=>?_
 obtain ⟨sq,e1,e⟩:=bnd_eq.mp (show bnd (evE cf iit ρ) (fun s=>bnd (seqOf s) fun xs=>loopF t (evS cf ib) xs ρ)=some o from e)
 obtain ⟨xs,e2,e3⟩:=bnd_eq.mp e
 refine ⟨G,ρ,sq,xs,T.sr,e1,e2,fun J G1 H1 x1 wk=>?_⟩
 refine ⟨fun i m σ' H'=>m=xs.length - i∧i≤xs.length∧∃ G' ρ',ST X.K G0 H0 G' H' σ' ρ'∧Sub G1 G'∧loopF t (evS cf ib) (xs.drop i) ρ'=some o,⟨xs.length,by simp,Nat.zero_le _,G1,ρ,T.ext x1,.refl _,by simpa using e3⟩,?_⟩
 rintro i m σ' H' ⟨rfl,hi,G',ρ',T',sg,el⟩
 by_cases hlt:i<xs.length
 ·have hx:xs.drop i=xs[i]::xs.drop (i+1):=List.drop_eq_getElem_cons hlt
  rw [hx] at el
  unfold loopF at el
  obtain ⟨ρ1,eb,et⟩:=bnd_eq.mp el
  refine .inr ⟨wk.go i H' (sg.trans T'.sr.sub) hlt,fun σ2 H2=>i+1≤xs.length∧∃ G2 ρ2,ST X.K G0 H0 G2 H2 σ2 ρ2∧Sub G1 G2∧loopF t (evS cf ib) (xs.drop (i+1)) ρ2=some o,?_,fun x H2 y=>?_⟩
  ·rintro σ2 H2 ⟨h1,h2⟩
   exact ⟨xs.length - (i+1),by lia,rfl,h1,h2⟩
  ·obtain ⟨G3,p,x3,ep,rp⟩:=wk.step sg T'.sr.sub hlt y
   have ep':xs[i]=p:=by rw [List.getElem?_eq_getElem hlt] at ep;exact Option.some.inj ep
   subst ep'
   
   replace T':=T'.ext x3
   replace sg:=sg.trans x3.gg
   refine bindS_ok T' rp eb fun σ3 T3=>?_
   have go:∀ {ρ2:Env},loopF t (evS cf ib) (xs.drop (i+1)) ρ2=some o→∀ σ4 G4 H4,ST X.K G3 (midH G3 H0 H2) G4 H4 σ4 ρ2→i+1≤xs.length∧∃ G2 ρ2,ST X.K G0 H0 G2 H4 σ4 ρ2∧Sub G1 G2∧loopF t (evS cf ib) (xs.drop (i+1)) ρ2=some o:=fun {ρ2} e σ4 G4 H4 T4=>by
    obtain ⟨T5,s5⟩:=T3.back T4
    exact ⟨hlt,G4,ρ2,T5,sg.trans s5,e⟩
   rcases turnO_inv et with ⟨ρ2,e4 | e4,e5⟩ | ⟨ρ2,e4,rfl⟩ | ⟨p,e4,rfl⟩
   ·exact ⟨G3,midH G3 H0 H2,G3,ρ1,_,T3.mid,e4,go e5⟩
   ·exact ⟨G3,midH G3 H0 H2,G3,ρ1,_,T3.mid,e4,go e5⟩
   ·exact ⟨G3,midH G3 H0 H2,G3,ρ1,_,T3.mid,e4,fun σ4 G4 H4 T4=>k σ4 G4 H4 (T3.back T4).1⟩
   ·exact ⟨G3,midH G3 H0 H2,G3,ρ1,_,T3.mid,e4,fun v G4 H4 x4 r4=>k v G4 H4 (Ext.back T3 x4) r4⟩
 ·have hie:i=xs.length:=by lia
  subst hie
  rw [List.drop_length] at el
  cases (show some (Out.nx ρ')=some o from el)
  exact .inl ⟨wk.stop _ H' (sg.trans T'.sr.sub) (Nat.le_refl _),k σ' G' H' T'⟩
theorem st_app {i:Nat} {x:Str} {e:Expr} {ie:E} {pos apos cpos npos:Pos} (hi:X.N[i]?=some x) (hv:Vis X.env.scope x) (hd:(x==("__debug__":Str))=false) (hcd:(x==("__classdict__":Str))=false)
  (he:PE X e (tE cf X.K ie)) (hk:isPeek ie=false) (hs:plainE e=true) (hline:(apos.endLine==cpos.line)=true):
  PS X (.Expr (.Call (.Attribute (.Name x npos) "append" apos) [e] [] cpos) pos) (tS cf X.K (.app i ie)):=by
 have hst:=star_of hs [] X.env
 have hfew:((backTo cpos (starEach [e] X.env)).all (fun x=>!x.1)&&(backToKw cpos (keywordEach [] X.env)).all (fun x=>x.1.isSome)
   && decide ([e].length+([]:List Keyword).length+(if ([]:List Keyword).isEmpty then 0 else 1)<30))=true:=by
  rw [hst];rfl
 refine (ps_expr (pe_bm (X:=X) (o:=.Name x npos) PySem.F.plainAttrs_list PySem.F.slot_list_append PySem.F.type_list_append mt_append (pe_var hi hv hd hcd) (pa_cons he pa_nil hst) rfl hfew hline hst rfl) rfl).weak fun D σ H ⟨G0,H0,G,ρ,o,T,e,k⟩=>?_
 obtain ⟨p,e1,e2⟩:=bnd_eq.mp (show bnd (evE cf ie ρ) (fun p=>bnd ρ[i]? (appF i ρ p))=some o from e)
 obtain ⟨sl,e3,e4⟩:=bnd_eq.mp e2
 cases sl with
 | own ps=>
  have e4':(if ps.length<1000000∧isDict p=false then some (Out.nx (ρ.set i (.own (ps++[p])))) else none)=some o:=e4
  by_cases hl:ps.length<1000000∧isDict p=false
  ·rw [if_pos hl] at e4'
   cases e4'
   obtain ⟨o',eo,l,vs,rfl,h1,h2,r⟩:=T.sr.at e3
   refine ⟨.ref l,eo,.inl ⟨rfl,vs,SqL.of h1⟩,G,ρ,p,T.sr,e1,fun v G1 H1 x1 r1=>?_⟩
   have h1':=x1.hh _ _ h1
   have g1':G1 l=none:=(x1.old _ _ h1).trans h2
   refine ⟨l,vs,v,rfl,rfl,h1',by have:=r.length;rw [line_eq];lia,?_⟩
   exact k _ G1 _ ((T.ext x1).grow e3 eo h1' g1' ((r.mono x1.gg).append (.one hl.2 (r1.rp hk))))
  ·rw [if_neg hl] at e4';cases e4'
 | un=>cases (show none=some o from e4)
 | val q=>cases (show none=some o from e4)
end
theorem glued_eq (sep:Str):∀ (x:Str) (xs:List Str),(⟨xs.foldl (fun acc p=>acc++sep.cps++p.cps) x.cps⟩:Str)=joinS sep (x::xs)
 | x,[]=>rfl
 | x,y::r=>by
  rw [joinS]
  have h:=glued_eq sep y r
  have go:∀ (l:List Str) (a b:Array Nat),l.foldl (fun acc p=>acc++sep.cps++p.cps) (a++b)=a++l.foldl (fun acc p=>acc++sep.cps++p.cps) b:=by
   intro l
   induction l with
   | nil=>intro a b;rfl
   | cons z l ih=>intro a b;rw [List.foldl_cons,List.foldl_cons,Array.append_assoc,Array.append_assoc,ih,Array.append_assoc]
  rw [← h]
  show (⟨(y::r).foldl (fun acc p=>acc++sep.cps++p.cps) x.cps⟩:Str)=⟨x.cps++sep.cps++r.foldl (fun acc p=>acc++sep.cps++p.cps) y.cps⟩
  rw [List.foldl_cons,go]
theorem join_eq (sep:Str) (xs:List Str):Txt.join sep xs=joinS sep xs:=by
 cases xs with
 | nil=>rfl
 | cons x xs=>exact glued_eq sep x xs
theorem joinS_ok {sep:Str} (hs:PyData.strOk sep=true):∀ (xs:List Str),(∀ x∈xs,PyData.strOk x=true)→PyData.strOk (joinS sep xs)=true
 | [],_=>by simp [joinS,PyData.strOk]
 | [x],h=>h x List.mem_cons_self
 | x::y::r,h=>by
  rw [joinS]
  exact strOk_append (strOk_append (h x List.mem_cons_self) hs) (joinS_ok hs (y::r) fun z hz=>h z (List.mem_cons_of_mem _ hz))
theorem joinS_len (sep:Str):∀ (xs:List Str),(joinS sep xs).length≤(xs.map Str.length).sum+xs.length * sep.length
 | []=>Nat.zero_le _
 | [x]=>by simp [joinS]
 | x::y::r=>by
  have h:=joinS_len sep (y::r)
  rw [joinS,length_append,length_append]
  simp only [List.map_cons,List.sum_cons,List.length_cons,Nat.succ_mul] at h ⊢
  lia
theorem strs_rel {K:PySem.W.Frag} {G:Hp}:∀ {ps:List PV} {vs:List V} {us:List Value} {ys:List Str},RpL K G ps vs→Vals vs us→strsOf ps=some ys→StrsAre us ys∧∀ y∈ys,PyData.strOk y=true
 | [],_,_,_,h,r,e=>by
  cases (show _=[] from h)
  cases r
  cases (show some []=some _ from e)
  exact ⟨.nil,fun _ h=>by cases h⟩
 | p::ps,_,_,ys,h,r,e=>by
  obtain ⟨v,w,rfl,⟨_,h1⟩,h2⟩:=(show ∃ v r,_=v::r∧(isDict p=false∧Rp K G p v)∧RpL K G ps r from h)
  cases r with
  | cons r1 r2=>
   cases p with
   | str x=>
    obtain ⟨q,e1,e2⟩:=bnd_eq.mp (show bnd (strsOf ps) (fun q=>some (x::q))=some ys from e)
    cases e2
    obtain ⟨i1,i2⟩:=strs_rel h2 r2 e1
    obtain ⟨rfl,so,_⟩:=(show v=.str x∧PyData.strOk x=true∧x.length≤16777216 from h1)
    obtain ⟨t,rfl⟩:=r1
    refine ⟨.cons x t i1,fun y hy=>?_⟩
    rcases List.mem_cons.mp hy with z | z
    ·rw [z];exact so
    ·exact i2 y z
   | _=>exact nomatch (show none=some _ from e)
noncomputable def ixE:Expr→Bool
 | .Slice ..=>false
 | _=>true
theorem plainIx {b:Expr} (h:ixE b=true):PlainIx b:=by
 intro o i
 cases b <;> first | rfl | exact absurd (show false=true from h) Bool.false_ne_true
section
variable {X:Cx} {cf:CF}
theorem s_join:MtR X "str.join" (fun x xs H Q=>∃ y,xs=[y]∧rOp2 X.K .join x y H Q):=by
 intro pins s σ H x xs v us Q I rx r h
 obtain ⟨y,rfl,G,p,q,r',sb,hp,hq,e,k⟩:=h
 obtain ⟨u,rfl,ry⟩:=vals1 r
 cases p with
 | str sep=>
  cases q with
  | list ps=>
   obtain ⟨ys,e1,e2⟩:=bnd_eq.mp (show bnd (strsOf ps) (fun xs=>if (xs.map Str.length).sum+xs.length * sep.length≤16777216 then some (PyData.str (joinS sep xs)) else none)=some r' from e)
   by_cases hl:(ys.map Str.length).sum+ys.length * sep.length≤16777216
   ·rw [if_pos hl] at e2
    cases e2
    obtain ⟨rfl,so,_⟩:=(show x=.str sep∧PyData.strOk sep=true∧sep.length≤16777216 from hp)
    obtain ⟨a,vs,rfl,q1,r1⟩:=(show ∃ a vs,y=V.ref a∧SqL X.K H a vs∧RpL X.K G ps vs from hq)
    obtain ⟨t,rfl⟩:=rx
    cases (show u=Value.ref a from ry)
    obtain ⟨its,rv,pl,_⟩:=I.list q1
    obtain ⟨sa,sk⟩:=strs_rel r1 rv e1
    refine join_list pl.isList (by simpa using sa) hl fun t' tk=>⟨.str (Txt.join sep ys),H,I.tok tk,⟨_,rfl⟩,k _ G H (.refl sb) ?_⟩
    rw [join_eq]
    exact ⟨rfl,joinS_ok so ys sk,Nat.le_trans (joinS_len sep ys) hl⟩
   ·rw [if_neg hl] at e2;cases e2
  | _=>exact nomatch (show none=some _ from e)
 | _=>cases q <;> exact nomatch (show none=some _ from e)
theorem snd_ix {ia ib:E} {a b:Expr} {pos:Pos} (hu:X.A.units+190<cLine) (ha:PE X a (tE cf X.K ia)) (hb:PE X b (tE cf X.K ib)) (hs:ixE b=true):Snd X cf (.op2 .ix ia ib) (.Subscript a b pos):=
 .plain ((pe_ix (s_ix hu) ha hb (plainIx hs)).weak op2_w) (fun _=>rfl)
noncomputable def tP (cf:CF) (K:PySem.W.Frag) (ie:E):TO:=fun σ H Q=>∃ G ρ p o,SR K G H σ ρ∧evE cf ie ρ=some p∧partF p=some o∧∀ G' H',Ext G H G' H'→Q o H'
theorem part_none:PO X none (tP cf X.K (.con .none)):=fun pins s σ H Q I ⟨G,ρ,p,o,S,e1,e2,k⟩=>by
 cases (show some PyData.none=some p from e1)
 cases (show some none=some o from e2)
 exact po_none pins s σ H Q I (k G H (.refl S.sub))
theorem part_some {e:Expr} {ie:E} (h:PE X e (tE cf X.K ie)) (hk:isPeek ie=false):PO X (some e) (tP cf X.K ie):=fun pins s σ H Q I ⟨G,ρ,p,o,S,e1,e2,k⟩=>by
 have w:=h pins s σ H (fun v H1=>∃ G1,Ext G H G1 H1∧Rp X.K G1 p v) I ⟨G,ρ,p,S,e1,fun v G' H' x r=>⟨G',x,r.rp hk⟩⟩
 refine thn w fun u s1 ⟨v,H1,I1,rv,G1,x1,r1⟩=>?_
 cases p with
 | int i=>
  cases (show some (some i)=some o from e2)
  cases (show v=.int i from r1)
  obtain ⟨t,rfl⟩:=rv
  exact ⟨some i,H1,I1,.int i t,k G1 H1 x1⟩
 | none=>
  cases (show some none=some o from e2)
  cases (show v=.non from r1)
  cases (show u=Value.none from rv)
  exact ⟨none,H1,I1,.none,k G1 H1 x1⟩
 | _=>cases (show none=some o from e2)
theorem snd_sl {ia il ih:E} {a:Expr} {lo hi:Option Expr} {pos p2:Pos} (ha:PE X a (tE cf X.K ia)) (hl:PO X lo (tP cf X.K il)) (hh:PO X hi (tP cf X.K ih)):Snd X cf (.sl ia il ih) (.Subscript a (.Slice lo hi none p2) pos):=by
 refine .plain ((pe_slice s_sl ha hl hh).weak fun σ H Q ⟨G,ρ,p,S,e,k⟩=>?_) (fun _=>rfl)
 obtain ⟨x,e1,e⟩:=bnd_eq.mp (show bnd (evE cf ia ρ) (fun x=>bnd (evE cf il ρ) fun l=>bnd (evE cf ih ρ) fun h=>slF x l h)=some p from e)
 obtain ⟨l,e2,e⟩:=bnd_eq.mp e
 obtain ⟨h,e3,e⟩:=bnd_eq.mp e
 obtain ⟨ol,e4,e⟩:=bnd_eq.mp (show bnd (partF l) (fun l=>bnd (partF h) fun h=>cutF l h x)=some p from e)
 obtain ⟨oh,e5,e6⟩:=bnd_eq.mp e
 exact ⟨G,ρ,x,S,e1,fun v G1 H1 x1 r1=>⟨G1,ρ,l,ol,S.ext x1,e2,e4,fun G2 H2 x2=>⟨G2,ρ,h,oh,(S.ext x1).ext x2,e3,e5,fun G3 H3 x3=>
  ⟨G3,x,p,x3.gh,((r1.rk x1.gh).ext x2).ext x3,e6,fun u G4 H4 x4 r4=>k u G4 H4 (x1.trans (x2.trans (x3.trans x4))) (.of rfl r4)⟩⟩⟩⟩
theorem op1_w {o:Op1} {a:E}:∀ σ H Q,tE cf X.K (.op1 o a) σ H Q→(tE cf X.K a) σ H fun v H1=>rOp1 X.K o v H1 Q:=fun σ H Q ⟨G,ρ,p,S,e,k⟩=>by
 obtain ⟨x,e1,e2⟩:=bnd_eq.mp (show bnd (evE cf a ρ) (opF1 o)=some p from e)
 exact ⟨G,ρ,x,S,e1,fun v G1 H1 x1 r1=>⟨G1,x,p,x1.gh,r1.rk x1.gh,e2,fun u G2 H2 x2 r2=>k u G2 H2 (x1.trans x2) (.of rfl r2)⟩⟩
theorem tE_mono {ie:E} {σ:St} {H:Hp} {Q Q':VK} (h:tE cf X.K ie σ H Q) (w:∀ v H',Q v H'→Q' v H'):tE cf X.K ie σ H Q':=by
 obtain ⟨G,ρ,p,S,e,k⟩:=h
 exact ⟨G,ρ,p,S,e,fun v G' H' x r=>w v H' (k v G' H' x r)⟩
theorem snd_callB {o:Op1} {ia:E} {a:Expr} {x:Str} {id:String} {p pos:Pos} (hc:CallR X (.builtin id) (rC1 X.K o)) (hg:Gl X x) (hm:X.mg x=none) (hv:bootBuiltins x=some (.builtin id)) (hn:x≠"__name__") (hdb:(x==("__debug__":Str))=false)
  (ha:PE X a (tE cf X.K ia)) (hs:plainE a=true):Snd X cf (.op1 o ia) (.Call (.Name x p) [a] [] pos):=by
 refine .plain ((pe_callB hc hg hm hv (pa_cons ha pa_nil (star_of hs _ _)) hn hdb (star_of hs _ _)).weak fun σ H Q h=>?_) (fun _=>rfl)
 exact tE_mono (op1_w σ H Q h) fun v H' q=>⟨v,rfl,q⟩
theorem snd_callT {o:Op1} {ia:E} {a:Expr} {x:Str} {T:String} {p pos:Pos} (hc:CallR X (.type T) (rC1 X.K o)) (hg:Gl X x) (hm:X.mg x=none) (hv:bootBuiltins x=some (.type T)) (hn:x≠"__name__") (hdb:(x==("__debug__":Str))=false)
  (ha:PE X a (tE cf X.K ia)) (hs:plainE a=true):Snd X cf (.op1 o ia) (.Call (.Name x p) [a] [] pos):=by
 refine .plain ((pe_callTy hc hg hm hv (pa_cons ha pa_nil (star_of hs _ _)) hn hdb (star_of hs _ _)).weak fun σ H Q h=>?_) (fun _=>rfl)
 exact tE_mono (op1_w σ H Q h) fun v H' q=>⟨v,rfl,q⟩
theorem snd_isi {o:Op1} {ia:E} {a:Expr} {x:Str} {T:String} {p p2 pos:Pos} (hc:CallR X (.builtin "isinstance") (rIsi X.K o T)) (hg:Gl X "isinstance") (hm:X.mg "isinstance"=none) (hgT:Gl X x) (hmT:X.mg x=none) (hvT:bootBuiltins x=some (.type T))
  (hn:x≠"__name__") (hdb:(x==("__debug__":Str))=false) (ha:PE X a (tE cf X.K ia)) (hs:plainE a=true):Snd X cf (.op1 o ia) (.Call (.Name "isinstance" p) [a,.Name x p2] [] pos):=by
 refine .plain ((pe_callB hc hg hm boot_isinstance (pa_cons ha (pa_cons (pe_bltn (v:=.ty T) hgT hmT hvT rfl hn hdb) pa_nil rfl) (star_of hs _ _)) (by decide) (by decide) (star_of hs _ _)).weak fun σ H Q h=>?_) (fun _=>rfl)
 exact tE_mono (op1_w σ H Q h) fun v H' q=>⟨v,rfl,q⟩
theorem snd_join {ib:E} {sep:Str} {b:Expr} {j:Nat} {p0 apos pos:Pos} (hs0:PyData.strOk sep=true) (hl0:sep.length≤16777216) (hb:PE X b (tE cf X.K ib)) (hs:plainE b=true) (hline:(apos.endLine==pos.line)=true):
  Snd X cf (.op2 .join (.con (.str sep)) ib) (.Call (.Attribute (.Constant (.str sep) j p0) "join" apos) [b] [] pos):=by
 have hst:=star_of hs [] X.env
 have hfew:((backTo pos (starEach [b] X.env)).all (fun x=>!x.1)&&(backToKw pos (keywordEach [] X.env)).all (fun x=>x.1.isSome)
   && decide ([b].length+([]:List Keyword).length+(if ([]:List Keyword).isEmpty then 0 else 1)<30))=true:=by
  rw [hst];rfl
 refine .plain ((pe_bm (X:=X) (o:=.Constant (.str sep) j p0) PySem.F.plainAttrs_str PySem.F.slot_str_join PySem.F.type_str_join s_join pe_str (pa_cons hb pa_nil hst) rfl hfew hline hst rfl).weak fun σ H Q h=>?_) (fun _=>rfl)
 refine ⟨rfl,?_⟩
 obtain ⟨G,ρ,p,S,e,k⟩:=h
 obtain ⟨y,e3,e4⟩:=bnd_eq.mp (show bnd (evE cf ib ρ) (fun y=>opF2 .join (.str sep) y)=some p from e)
 exact ⟨G,ρ,y,S,e3,fun v G1 H1 x1 r1=>⟨v,rfl,G1,.str sep,y,p,x1.gh,⟨rfl,hs0,hl0⟩,r1.rk x1.gh,e4,fun u G3 H3 x3 r3=>k u G3 H3 (x1.trans x3) (.of rfl r3)⟩⟩
theorem snd_not {ia:E} {a:Expr} {pos:Pos} (ha:Snd X cf ia a):Snd X cf (.not ia) (.UnaryOp .Not a pos):=by
 refine ⟨fun pins s σ H Q I h=>?_,(pt_not ha.pt).weak fun σ H Q ⟨G,ρ,p,b,S,e,et,k⟩=>?_⟩
 ·obtain ⟨G,ρ,p,S,e,k⟩:=h
  obtain ⟨x,e1,e2⟩:=bnd_eq.mp (show bnd (evE cf ia ρ) (fun x=>bnd (truthF x) fun t=>some (PyData.bool (!t)))=some p from e)
  obtain ⟨t,e3,e4⟩:=bnd_eq.mp e2
  cases e4
  refine UnaryOp_ (thn (ha.pe pins s σ H (fun v H1=>∃ G1,Ext G H G1 H1∧Rk X.K G1 H1 x v) I ⟨G,ρ,x,S,e1,fun v G1 H1 x1 r1=>⟨G1,x1,r1.rk x1.gh⟩⟩) fun u s1 ⟨v,H1,I1,rv,G1,x1,r1⟩=>?_)
  refine not_of (thn (tru_ok pins s1 σ H1 v u (fun b H'=>b=t∧H'=H1) I1 rv ⟨t,truV x1.gh r1 e3,rfl,rfl⟩) fun b s2 ⟨H2,I2,hb,hH⟩=>?_)
  subst hb hH
  exact ⟨.bl (!b),H2,I2,rfl,k _ G1 H2 x1 (.of rfl rfl)⟩
 ·obtain ⟨x,e1,e2⟩:=bnd_eq.mp (show bnd (evE cf ia ρ) (fun x=>bnd (truthF x) fun t=>some (PyData.bool (!t)))=some p from e)
  obtain ⟨t,e3,e4⟩:=bnd_eq.mp e2
  cases e4
  have et':(!t)=b:=Option.some.inj et
  subst et'
  exact ⟨G,ρ,x,t,S,e1,e3,k⟩
structure SndB (X:Cx) (cf:CF) (op:BoolOp) (ie:E) (es:List Expr) (pos:Pos):Prop where
 pe:PE X (.BoolOp op es pos) (tE cf X.K ie)
 pw:PW X (.BoolOp op es pos) (tT cf X.K ie)
theorem sndb_one {op:BoolOp} {ia:E} {a:Expr} {pos:Pos} (ha:Snd X cf ia a):SndB X cf op ia [a] pos:=by
 refine ⟨pe_one ha.pe,?_⟩
 cases op with
 | And=>exact pw_and1 ha.pt
 | Or=>exact pw_or1 ha.pt
theorem sndb_and {ia ib:E} {a b:Expr} {rest:List Expr} {pos:Pos} (ha:Snd X cf ia a) (hka:isPeek ia=false) (hb:SndB X cf .And ib (b::rest) pos) (hkb:isPeek ib=false):SndB X cf .And (.and ia ib) (a::b::rest) pos:=by
 refine ⟨fun pins s σ H Q I h=>?_,(pw_and ha.pt hb.pw).weak fun σ H Q ⟨G,ρ,p,c,S,e,et,k⟩=>?_⟩
 ·obtain ⟨G,ρ,p,S,e,k⟩:=h
  obtain ⟨x,e1,e2⟩:=bnd_eq.mp (show bnd (evE cf ia ρ) (fun x=>bnd (truthF x) fun t=>DD.tst t (evE cf ib ρ) (some x))=some p from e)
  obtain ⟨t,e3,e4⟩:=bnd_eq.mp e2
  refine BoolOp_and (thn (ha.pe pins s σ H (fun v H1=>∃ G1,Ext G H G1 H1∧Rp X.K G1 x v) I ⟨G,ρ,x,S,e1,fun v G1 H1 x1 r1=>⟨G1,x1,r1.rp hka⟩⟩) fun u s1 ⟨v,H1,I1,rv,G1,x1,r1⟩=>?_)
  refine thn (tru_ok pins s1 σ H1 v u (fun b H'=>b=t∧H'=H1) I1 rv ⟨t,truV x1.gh (r1.rk x1.gh) e3,rfl,rfl⟩) fun b s2 ⟨H2,I2,hb',hH⟩=>?_
  subst hb' hH
  cases b with
  | true=>exact hb.pe pins s2 σ H2 Q I2 ⟨G1,ρ,p,S.ext x1,e4,fun w G2 H3 x2 r2=>k w G2 H3 (x1.trans x2) (.of rfl (r2.rp hkb))⟩
  | false=>
   have e5:x=p:=Option.some.inj e4
   subst e5
   exact ⟨v,H2,I2,rv,k v G1 H2 x1 (.of rfl r1)⟩
 ·obtain ⟨x,e1,e2⟩:=bnd_eq.mp (show bnd (evE cf ia ρ) (fun x=>bnd (truthF x) fun t=>DD.tst t (evE cf ib ρ) (some x))=some p from e)
  obtain ⟨t,e3,e4⟩:=bnd_eq.mp e2
  refine ⟨G,ρ,x,t,S,e1,e3,fun G1 H1 x1=>?_⟩
  cases t with
  | true=>exact iteT ⟨G1,ρ,p,c,S.ext x1,e4,et,fun G2 H2 x2=>k G2 H2 (x1.trans x2)⟩
  | false=>
   have e5:x=p:=Option.some.inj e4
   subst e5
   rw [e3] at et
   have e6:false=c:=Option.some.inj et
   subst e6
   exact iteF (k G1 H1 x1)
theorem sndb_or {ia ib:E} {a b:Expr} {rest:List Expr} {pos:Pos} (ha:Snd X cf ia a) (hka:isPeek ia=false) (hb:SndB X cf .Or ib (b::rest) pos) (hkb:isPeek ib=false):SndB X cf .Or (.or ia ib) (a::b::rest) pos:=by
 refine ⟨fun pins s σ H Q I h=>?_,(pw_or ha.pt hb.pw).weak fun σ H Q ⟨G,ρ,p,c,S,e,et,k⟩=>?_⟩
 ·obtain ⟨G,ρ,p,S,e,k⟩:=h
  obtain ⟨x,e1,e2⟩:=bnd_eq.mp (show bnd (evE cf ia ρ) (fun x=>bnd (truthF x) fun t=>DD.tst t (some x) (evE cf ib ρ))=some p from e)
  obtain ⟨t,e3,e4⟩:=bnd_eq.mp e2
  refine BoolOp_or (thn (ha.pe pins s σ H (fun v H1=>∃ G1,Ext G H G1 H1∧Rp X.K G1 x v) I ⟨G,ρ,x,S,e1,fun v G1 H1 x1 r1=>⟨G1,x1,r1.rp hka⟩⟩) fun u s1 ⟨v,H1,I1,rv,G1,x1,r1⟩=>?_)
  refine thn (tru_ok pins s1 σ H1 v u (fun b H'=>b=t∧H'=H1) I1 rv ⟨t,truV x1.gh (r1.rk x1.gh) e3,rfl,rfl⟩) fun b s2 ⟨H2,I2,hb',hH⟩=>?_
  subst hb' hH
  cases b with
  | false=>exact hb.pe pins s2 σ H2 Q I2 ⟨G1,ρ,p,S.ext x1,e4,fun w G2 H3 x2 r2=>k w G2 H3 (x1.trans x2) (.of rfl (r2.rp hkb))⟩
  | true=>
   have e5:x=p:=Option.some.inj e4
   subst e5
   exact ⟨v,H2,I2,rv,k v G1 H2 x1 (.of rfl r1)⟩
 ·obtain ⟨x,e1,e2⟩:=bnd_eq.mp (show bnd (evE cf ia ρ) (fun x=>bnd (truthF x) fun t=>DD.tst t (some x) (evE cf ib ρ))=some p from e)
  obtain ⟨t,e3,e4⟩:=bnd_eq.mp e2
  refine ⟨G,ρ,x,t,S,e1,e3,fun G1 H1 x1=>?_⟩
  cases t with
  | false=>exact iteF ⟨G1,ρ,p,c,S.ext x1,e4,et,fun G2 H2 x2=>k G2 H2 (x1.trans x2)⟩
  | true=>
   have e5:x=p:=Option.some.inj e4
   subst e5
   rw [e3] at et
   have e6:true=c:=Option.some.inj et
   subst e6
   exact iteT (k G1 H1 x1)
theorem SndB.snd {op:BoolOp} {ie:E} {es:List Expr} {pos:Pos} (h:SndB X cf op ie es pos):Snd X cf ie (.BoolOp op es pos):=⟨h.pe,h.pw.pt⟩
noncomputable def spD (K:PySem.W.Frag) (np:Nat) (r:List PV→Option PV):Sp:=fun vs H Q _=>vs.length=np∧∃ G ps p,Sub G H∧RpA K G ps vs∧r ps=some p∧∀ v G' H',Ext G H G' H'→Rp K G' p v→Q v H'
theorem snd_call {f:Nat} {ia:E} {es:List Expr} {x:Str} {p pos:Pos} {k:Nat} {fa:Addr} {fd:FuncData} {ps:List Str} {e:Expr} (F:FnOk X.prog X.w X.K X.mg X.base CX0 k fa fd ps (spD X.K ps.length (cf f))) (hr:Room k X.A) (hg:Gl X x) (hm:X.mg x=some (.ref fa))
  (hk:PySem.W.keepIn X.K (.ref fa)=true) (hb:Binds X.K fd ps []) (ha:PA X (e::es) (tA cf X.K ia)) (hn:argN ia=some ps.length) (hdb:(x==("__debug__":Str))=false) (hs:plainE e=true) (hpl:es.all plainE=true):
  Snd X cf (.call f ia) (.Call (.Name x p) (e::es) [] pos):=by
 have hany:(backTo pos (starEach es X.env)).any (·.1)=false:=by
  have:∀ l:List Expr,l.all plainE=true→(starEach l X.env).any (·.1)=false:=by
   intro l
   induction l with
   | nil=>intro _;rfl
   | cons y l ih=>
    intro h
    rw [List.all_cons,Bool.and_eq_true] at h
    rw [star_of h.1,List.any_cons,ih h.2];rfl
  have h2:=this es hpl
  have h3:∀ l:List (Bool×Sem Value),(backTo pos l).any (·.1)=l.any (·.1):=by
   intro l
   unfold backTo
   rw [List.any_map]
   rfl
  rw [h3];exact h2
 refine .plain ((pe_call F hr hg hm hk hb .nil pass0 ha hdb (star_of hs _ _) hany).weak fun σ H Q ⟨G,ρ,q,S,e,k⟩=>?_) (fun _=>rfl)
 obtain ⟨r,e1,e2⟩:=bnd_eq.mp (show bnd (evE cf ia ρ) (callF cf f)=some q from e)
 obtain ⟨xs,rfl,hl⟩:=args_len ia _ ρ r hn e1
 refine ⟨G,ρ,xs,S,e1,fun vs G1 H1 x1 r1=>?_⟩
 show spD X.K ps.length (cf f) (vs++[]) H1 Q E0
 rw [List.append_nil]
 exact ⟨by rw [← r1.length];exact hl,G1,xs,q,x1.gh,r1,e2,fun v G2 H2 x2 r2=>k v G2 H2 (x1.trans x2) (.of rfl r2)⟩
end
section
variable {X:Cx}
theorem truths_rel {K:PySem.W.Frag} {G:Hp}:∀ {ps:List PV} {vs:List V} {us:List Value} {bs:List Bool},RpL K G ps vs→Vals vs us→truths ps=some bs→us=bs.map Value.bool
 | [],_,_,_,h,r,e=>by
  cases (show _=[] from h)
  cases r
  cases (show some []=some _ from e)
  rfl
 | p::ps,_,_,bs,h,r,e=>by
  obtain ⟨v,w,rfl,⟨_,h1⟩,h2⟩:=(show ∃ v r,_=v::r∧(isDict p=false∧Rp K G p v)∧RpL K G ps r from h)
  cases r with
  | cons r1 r2=>
   cases p with
   | bool b=>
    obtain ⟨q,e1,e2⟩:=bnd_eq.mp (show bnd (truths ps) (fun q=>some (b::q))=some bs from e)
    cases e2
    cases (show v=.bl b from h1)
    cases (show _=Value.bool b from r1)
    rw [truths_rel h2 r2 e1];rfl
   | _=>simp [truths] at e
theorem range_all (bs:List Bool):(List.range bs.length).all (fun i=>bs.getD i true)=bs.all id:=by
 induction bs with
 | nil=>rfl
 | cons b bs ih=>
  rw [List.length_cons,List.range_succ_eq_map,List.all_cons,List.all_map,List.all_cons,← ih]
  rfl
theorem truth_bools {prog:Program} {w:World} {A:Around} (bs:List Bool):TruthOf prog w A (fun i v=>(bs.map Value.bool).toArray[i]?=some v) (fun i=>bs.getD i true):=by
 intro i v s Q E hP hQ
 rw [List.getElem?_toArray,List.getElem?_map] at hP
 cases e:bs[i]? with
 | none=>rw [e] at hP;cases hP
 | some b=>
  rw [e] at hP
  cases hP
  have:bs.getD i true=b:=by rw [List.getD_eq_getElem?_getD,e];rfl
  have hQ':Q (bs.getD i true) s:=hQ
  rw [this] at hQ'
  exact wpAny_truthy_bool hQ'
theorem s_all (hcm:X.calm=true):CallR X (.builtin "all") (rC1 X.K .all):=by
 intro pins s σ H xs us Q I r h
 have hh:X.A.handled=none:=I.ok.hd hcm
 obtain ⟨x,rfl,G,p,q,sb,hp,e,k⟩:=h
 cases p with
 | list ps=>
  obtain ⟨bs,e1,e2⟩:=bnd_eq.mp (show bnd (truths ps) (fun bs=>some (PyData.bool (bs.all id)))=some q from e)
  cases e2
  obtain ⟨a,vs,rfl,q1,r1⟩:=(show ∃ a vs,x=V.ref a∧SqL X.K H a vs∧RpL X.K G ps vs from hp)
  obtain ⟨u,rfl,ru⟩:=vals1 r
  cases (show u=Value.ref a from ru)
  obtain ⟨its,rv,pl,hz⟩:=I.list q1
  have hb:=truths_rel r1 rv e1
  subst hb
  refine call_all_walk ?_
  refine wpAny_pyIter_list pl.isList ?_
  have hne:a≠s.heap.objs.size:=by
   obtain ⟨o,n,e,_⟩:=pl
   exact Nat.ne_of_lt (Heap.lt_size e)
  refine ⟨s.heap.objs.size,_,_,_,_,_,fun i=>bs.getD i true,rfl,Walks.list (show X.A.in1.handled=none from hh) _ a hne (bs.map Value.bool).toArray,⟨⟨_,Heap.get?_push_size _ rfl,rfl,rfl⟩,?_⟩,truth_bools bs,fun h' tk hk=>?_⟩
  ·exact pl.isList.at fun o e=>Heap.get?_push_of_some _ e
  ·have hsz:(bs.map Value.bool).toArray.size=bs.length:=by simp
   rw [hsz,range_all]
   refine ⟨.bl _,H,I.kept (t':=tk) fun b o e=>?_,rfl,k _ G H (.refl sb) rfl⟩
   exact hk b o (by simpa using Nat.ne_of_lt (Heap.lt_size e)) (Heap.get?_push_of_some _ e)
 | _=>exact nomatch (show none=some _ from e)
end
theorem fm_map {α β:Type} {f:α→Option β} {g:α→β}:∀ l:List α,(∀ x∈l,f x=some (g x))→l.filterMap f=l.map g
 | [],_=>rfl
 | x::l,h=>by
  rw [List.filterMap_cons,h x List.mem_cons_self,fm_map l fun y hy=>h y (List.mem_cons_of_mem _ hy)]
  rfl
theorem rev_pick {α:Type} (xs:List α):(List.range xs.length).filterMap (fun (k:Nat)=>xs.toArray[(((xs.length:Nat):Int) - 1+(k:Int) * (-1)).toNat]?)=xs.reverse:=by
 cases xs with
 | nil=>rfl
 | cons d r=>
  rw [fm_map (g:=fun k=>(d::r).getD ((d::r).length - 1 - k) d)]
  ·apply List.ext_getElem?
   intro i
   by_cases hi:i<(d::r).length
   ·rw [List.getElem?_map,List.getElem?_range hi,List.getElem?_reverse hi,Option.map_some,List.getD_eq_getElem?_getD,List.getElem?_eq_getElem (by lia)]
    rfl
   ·rw [List.getElem?_eq_none (by simpa using hi),List.getElem?_eq_none (by simpa using hi)]
  ·intro k hk
   have hk':=List.mem_range.mp hk
   have e:((((d::r).length:Nat):Int) - 1+(k:Int) * (-1)).toNat=(d::r).length - 1 - k:=by lia
   rw [e,List.getElem?_toArray,List.getD_eq_getElem?_getD,List.getElem?_eq_getElem (by lia)]
   rfl
theorem adjust_rev (n:Nat):Builtin.Slice.sliceAdjust none none (-1) (n:Int)=((n:Int) - 1,-1):=by
 unfold Builtin.Slice.sliceAdjust
 simp
theorem places_rev (n:Nat):Builtin.Slice.slicePlaces ((n:Int) - 1) (-1) (-1)=n:=by
 unfold Builtin.Slice.slicePlaces
 simp
 split <;> lia
section
variable {prog:Program} {w:World} {A:Around} {E:Value→Shared→Prop} {s:Shared}
theorem sliceApplied_rev {sl:Addr} {t:Tok} {n:Nat} {Q:Int×Int×Nat→Shared→Prop} (hs:s.heap.IsSliceOf sl .none .none (.int (-1) t)) (h:Q ((n:Int) - 1,-1,n) s):
  wpAny (model prog w) A (Builtin.Slice.sliceApplied (.ref sl) (pure (n:Int))) Q E s:=by
 obtain ⟨os,hos,hcs,hds⟩:=id hs
 unfold Builtin.Slice.sliceApplied Builtin.Slice.sliceFields
 refine wpAny_bind (wpAny_bind (wpAny_field hos hds (x:=.none) rfl (wpAny_bind (wpAny_field hos hds (x:=.none) rfl (wpAny_bind (wpAny_field hos hds (x:=.int (-1) t) rfl (wpAny_pure ?_)))))))
 refine wpAny_bind (slicePart_int ?_)
 show wpAny _ _ (if ((-1:Int)==0)=true then _ else _) _ _ s
 rw [if_neg (by decide)]
 refine wpAny_bind (slicePart_none (wpAny_bind (slicePart_none (wpAny_bind (wpAny_pure ?_)))))
 simp only [Option.getD_some]
 rw [adjust_rev]
 refine wpAny_pure ?_
 rw [places_rev]
 exact h
theorem getItem_tuple_rev {t sl:Addr} {tk:Tok} {items:Array Value} {Q:Value→Shared→Prop} (ht:IsTup s.heap t items) (hs:s.heap.IsSliceOf sl .none .none (.int (-1) tk)) (hsz:items.size≤sizeLine)
  (h:Q (.ref s.heap.objs.size) {s with heap:=s.heap.push {cls:=.type "tuple",data:=.seq items.toList.reverse.toArray}}):wpAny (model prog w) A (getItem (.ref t) (.ref sl)) Q E s:=by
 have htake:sizeOk (.seq items.toList.reverse.toArray):=by
  show items.toList.reverse.toArray.size≤sizeLine
  simpa using hsz
 obtain ⟨os,hos,hcs,hds⟩:=id hs
 have hTs:s.TypeIs (.ref sl) "slice":=⟨os,hos,hcs⟩
 unfold getItem
 try with_reducible refine wpAny_holding ?_
 first | refine wpAny_bind (wpAny_pure ?_) | skip
 refine wpAny_bind (wpAny_sequenceKey ht.typeIs (by decide) ?_)
 refine wpAny_bind (wpAny_callSpecial?_slot (name:=Str.ofString "__getitem__") ht.typeIs PyProof.Rows.slot_tuple_getitem
  (wpAny_call_entry PyProof.Rows.slot_tuple_getitem ht.typeIs entry_tuple_getitem ?_ (args_tuple_getitem _ _)))
 show wpAny _ _ (Builtin.Tuple.tupleItemsOf (.ref t) >>= _) _ _ s
 refine wpAny_bind (tupleItemsOf_ ht ?_)
 refine wpAny_bind (wpAny_typeOf hTs ?_)
 rw [if_pos (by decide)]
 refine wpAny_bind (sliceApplied_rev hs ?_)
 show wpAny _ _ (if ((((items.size:Nat):Int) - 1)==0&&(-1:Int)==1&&items.size==items.size)=true then _ else _) _ _ s
 rw [if_neg (by simp)]
 have hp:=rev_pick items.toList
 rw [Array.length_toList,Array.toArray_toList] at hp
 rw [hp]
 first
  | exact wpAny_bind (m:=Builtin.Tuple.tupleExact _) (wpAny_newObj_type (wpAny_pure ⟨_,rfl,wpAny_pure h⟩) htake)
  | exact wpAny_bind (m:=Builtin.Tuple.tupleExact _) (wpAny_newObj_type (wpAny_bind (wpAny_pure (wpAny_pure ⟨_,rfl,wpAny_pure h⟩))) htake)
  | exact wpAny_bind (wpAny_bind (m:=Builtin.Tuple.tupleExact _) (wpAny_newObj_type (wpAny_pure (wpAny_pure ⟨_,rfl,wpAny_pure h⟩)) htake))
  | exact wpAny_bind (wpAny_bind (m:=Builtin.Tuple.tupleExact _) (wpAny_newObj_type (wpAny_pure ⟨_,rfl,wpAny_pure h⟩) htake))
end
section
variable {X:Cx} {cf:CF}
noncomputable def keyC:PV→Expr→Bool
 | .str x,.Constant (.str y) _ _=>x==y&&PyData.strOk x&&decide (x.length≤16777216)
 | .int i,.Constant (.int j) _ _=>i==j
 | _,_=>false
section
variable (f:E→Expr→Bool)
noncomputable def chkD:List PV→E→List (Option Expr)→List Expr→Bool
 | [],.nil,[],[]=>true
 | k::ks,.cons h t,some e::es,v::vs=>keyC k e&&!isPeek h&&f h v&&chkD ks t es vs
 | _,_,_,_=>false
end
end
section
variable {X:Cx}
theorem fold_app:∀ (l:List (Array Nat)) (a:Array Nat),(l.foldl (·++·) a).toList=a.toList++(l.map Array.toList).flatten
 | [],a=>by simp
 | x::l,a=>by rw [List.foldl_cons,fold_app l];simp
theorem mul_cps (z:Str) {j:Int} (hj:0≤j):(Txt.mul z j).cps.toList=(List.replicate j.toNat z.cps.toList).flatten:=by
 unfold Txt.mul
 by_cases h1:j<1
 ·rw [if_pos h1,show j.toNat=0 from by lia];rfl
 rw [if_neg h1]
 by_cases h2:(j==1||z.length==0)=true
 ·rw [if_pos h2]
  rcases Bool.or_eq_true_iff.mp h2 with h | h
  ·rw [eq_of_beq h];simp
  ·have:z.cps.toList=[]:=by
    have:=eq_of_beq h
    exact List.length_eq_zero_iff.mp this
   rw [this];simp
 ·rw [if_neg h2,fold_app,List.map_replicate];rfl
theorem mul_len (z:Str) (j:Int):(Txt.mul z j).length≤z.length * j.toNat:=by
 by_cases hj:0≤j
 ·have:=congrArg List.length (mul_cps z hj)
  rw [List.length_flatten,List.map_replicate,List.sum_replicate_nat] at this
  show (Txt.mul z j).cps.toList.length≤z.cps.toList.length * j.toNat
  rw [this,Nat.mul_comm];exact Nat.le_refl _
 ·unfold Txt.mul
  rw [if_pos (by lia)]
  exact Nat.zero_le _
theorem mul_ok {z:Str} {j:Int} (h:PyData.strOk z=true):PyData.strOk (Txt.mul z j)=true:=by
 unfold PyData.strOk at h ⊢
 rw [Array.all_eq_true_iff_forall_mem] at h ⊢
 intro y hy
 by_cases hj:0≤j
 ·have hy':y∈(Txt.mul z j).cps.toList:=by simpa using hy
  rw [mul_cps z hj,List.mem_flatten] at hy'
  obtain ⟨l,hl,hm⟩:=hy'
  rw [(List.mem_replicate.mp hl).2] at hm
  exact h y (by simpa using hm)
 ·have:Txt.mul z j=Str.empty:=by unfold Txt.mul;rw [if_pos (by lia)]
  rw [this] at hy
  exact absurd hy (by simp [Str.empty])
theorem mul_fits {z:Str} {j:Int} (h1:z.length * j.toNat≤16777216) (h2:0≤j) (h3:j<1000000) (hz:z.length≤16777216):MulOk z j:=by
 refine ⟨by simp;lia,fun h4 h5=>?_,fun _ _=>?_⟩
 ·have:(16777216:Int)≤(2 ^ 63 - 1) / j:=by
   rw [Int.le_ediv_iff_mul_le (by lia)]
   lia
  lia
 ·unfold Builtin.Str.tooLong
  have:=line_eq
  simp;lia
theorem s_mul:OpR X (binaryOp .Mult) (rOp2 X.K .mul):=by
 intro pins s σ H x y v u Q I rx ry h
 obtain ⟨G,p,q,r,sb,hp,hq,e,k⟩:=h
 cases p with
 | int i=>
  cases q with
  | int j=>
   have e':(if small i||small j then some (PyData.int (i * j)) else none)=some r:=e
   by_cases hl:(small i||small j)=true
   ·rw [if_pos hl] at e'
    cases e'
    cases (show x=.int i from hp);cases (show y=.int j from hq)
    refine op_mul pins s σ H _ _ v u Q I rx ry ⟨i,j,rfl,rfl,?_,k _ G H (.refl sb) rfl⟩
    rw [Bool.or_eq_true] at hl
    exact hl.elim (fun h=>.inl (small_of h)) fun h=>.inr (small_of h)
   ·rw [if_neg hl] at e';cases e'
  | _=>exact nomatch (show (none:Option PV)=some r from e)
 | str z=>
  cases q with
  | int j=>
   have e':(if z.length * j.toNat≤16777216∧0≤j∧j<1000000 then some (PyData.str (Txt.mul z j)) else none)=some r:=e
   by_cases hl:z.length * j.toNat≤16777216∧0≤j∧j<1000000
   ·rw [if_pos hl] at e'
    cases e'
    obtain ⟨rfl,so,sz⟩:=(show x=.str z∧PyData.strOk z=true∧z.length≤16777216 from hp)
    cases (show y=.int j from hq)
    obtain ⟨t,rfl⟩:=rx
    obtain ⟨u',rfl⟩:=ry
    refine SB.mul (mul_fits hl.1 hl.2.1 hl.2.2 sz) fun t' tk=>⟨.str (Txt.mul z j),H,I.tok tk,⟨_,rfl⟩,k _ G H (.refl sb) ⟨rfl,mul_ok so,?_⟩⟩
    exact Nat.le_trans (mul_len z j) hl.1
   ·rw [if_neg hl] at e';cases e'
  | _=>exact nomatch (show (none:Option PV)=some r from e)
 | _=>exact nomatch (show (none:Option PV)=some r from e)
end
section
variable {X:Cx} {cf:CF}
noncomputable def rRev (K:PySem.W.Frag):V→Hp→VK→Prop:=rOp1 K .rev
theorem pick_rev (its:List Value):slicePick its.toArray none none (some (-1))=its.reverse.toArray:=by
 have e:slicePick its.toArray none none (some (-1))=((sliceRange ((its.length:Int) - 1) (-1) (-1)).filterMap (its.toArray[·]?)).toArray:=by
  unfold slicePick sliceBounds
  simp only [List.size_toArray]
  rfl
 have e2:sliceRange ((its.length:Int) - 1) (-1) (-1)=(List.range its.length).map fun (k:Nat)=>((its.length:Int) - 1+(k:Int) * (-1)).toNat:=by
  unfold sliceRange
  have c:(if (-1:Int)>0 then (if (its.length:Int) - 1 < -1 then (-1 - ((its.length:Int) - 1)+-1 - 1) / -1 else 0) else if (its.length:Int) - 1 > -1 then ((its.length:Int) - 1 - -1 - -1 - 1) / - -1 else 0).toNat=its.length:=by
   rw [if_neg (by decide)]
   split <;> simp <;> lia
  simp only []
  rw [c]
  refine List.map_congr_left fun k _=>?_
  lia
 rw [e,e2,List.filterMap_map]
 exact congrArg List.toArray (rev_pick its)
theorem tail_rev {e:Expr} {o1 o2 p1 p2:Pos} {j:Nat} {pins:List (Addr×Obj)} {s:Shared} {σ:St} {H:Hp} {x:V} {v:Value} {t:Tok} {sl:Addr} {Q:VK} (I:Inv X pins σ H s) (rx:RelV x v) (hs:s.heap.IsSliceOf sl .none .none (.int (-1) t)) (h:rRev X.K x H Q):
  ∃ T id,typeLookup (.type T) "__getitem__"=pure (some (.builtin id))∧s.TypeIs v T∧wpAny (model X.prog X.w) X.A (getItem v (.ref sl)) (EP X pins σ Q) X.xe s:=by
 obtain ⟨G,p,r,sb,hp,e,k⟩:=h
 cases p with
 | tuple xs=>
  cases (show some (PyData.tuple xs.reverse)=some r from e)
  obtain ⟨a,vs,rfl,q1,r1⟩:=(show ∃ a vs,x=V.ref a∧SqT X.K G a vs∧RpL X.K G xs vs from hp)
  cases rx
  obtain ⟨its,rv,ht,hz⟩:=I.tuple (sb.sqT q1)
  refine ⟨"tuple",_,PyProof.Rows.slot_tuple_getitem.lookup,ht.typeIs,getItem_tuple_rev ht hs (by rw [List.size_toArray,← rv.length];exact hz) ?_⟩
  have x1:=Ext.new sb (I.hok.fresh (Nat.le_refl s.heap.objs.size)) (.tup vs.reverse)
  refine ⟨.ref s.heap.objs.size,_,I.laid (t':=s.toks) (o:=.tup vs.reverse) (fun b ob q=>Heap.get?_push_of_some _ q) (Nat.le_refl _) ⟨by rw [List.length_reverse];exact hz,_,rv.reverse,IsTup.new _ _⟩,rfl,k _ _ _ x1 ⟨_,_,rfl,SqT.of upd_same,r1.reverse.mono x1.gg⟩⟩
 | list xs=>
  cases (show some (PyData.list xs.reverse)=some r from e)
  obtain ⟨a,vs,rfl,q1,r1⟩:=(show ∃ a vs,x=V.ref a∧SqL X.K H a vs∧RpL X.K G xs vs from hp)
  cases rx
  obtain ⟨its,rv,ht,hz⟩:=I.list q1
  refine ⟨"list",_,slot_list_getitem.lookup,ht.isList.typeIs,wpAny_getItem_list_slice ht.isList hs .none .none (.int (-1) t) (by simp) ?_ (by rw [List.size_toArray,← rv.length];exact hz)⟩
  rw [pick_rev]
  have x1:=Ext.new sb (I.hok.fresh (Nat.le_refl s.heap.objs.size)) (.lst vs.reverse)
  exact ⟨.ref s.heap.objs.size,_,I.laid (t':=s.toks) (o:=.lst vs.reverse) (fun b ob q=>Heap.get?_push_of_some _ q) (Nat.le_refl _) ⟨by rw [List.length_reverse];exact hz,_,0,rv.reverse,Heap.get?_push_size _ rfl⟩,rfl,k _ _ _ x1 ⟨_,_,rfl,SqL.of upd_same,r1.reverse.mono x1.gg⟩⟩
 | _=>exact nomatch (show none=some _ from e)
theorem snd_rev {ia:E} {a:Expr} {j:Nat} {pos p0 p1 p2:Pos} (ha:PE X a (tE cf X.K ia)):Snd X cf (.op1 .rev ia) (.Subscript a (.Slice none none (some (.UnaryOp .USub (.Constant (.int 1) j p0) p1)) p2) pos):=by
 refine .plain ?_ (fun _=>rfl)
 intro pins s σ H Q I h
 have h1:=op1_w σ H Q h
 refine Subscript_ (thn (ha pins s σ H _ I h1) fun v s1 ⟨x,H1,I1,r1,q1⟩=>?_)
 refine wpAny_Slice ?_
 rw [evalPart_none]
 refine wpAny_pure (wpAny_pure ?_)
 rw [evalPart_some]
 have st:=(show PE X (.UnaryOp .USub (.Constant (.int 1) j p0) p1) (tUn (rU fun i=>.int (-i)) (tC (.int 1))) from pe_un un_neg pe_int) pins s1 σ H1 (fun y H2=>y=.int (-1)∧H2=H1) I1 ⟨1,rfl,rfl,rfl⟩
 refine thn st fun w s2 ⟨y,H2,I2,ry,hy,hH⟩=>?_
 subst hy hH
 obtain ⟨t,rfl⟩:=ry
 have I4:Inv X pins σ H2 {s2 with heap:=s2.heap.push {cls:=.type "slice",data:=.fields #[.none,.none,.int (-1) t]}}:=I2.kept (t':=s2.toks) fun b ob q=>Heap.get?_push_of_some _ q
 obtain ⟨T,id,hT,ht,hg⟩:=tail_rev (e:=a) (o1:=p0) (o2:=p0) (p1:=p0) (p2:=p0) (j:=0) I4 r1 (Heap.IsSliceOf.new ..) q1
 exact tail_any (ops:=[v,.ref s2.heap.objs.size]) ht hT hg (by with_unfolding_all rfl)
end
section
variable {X:Cx} {cf:CF}
theorem parts_ok {x y z:Str} (h:PyData.strOk x=true) (hz:z∈Txt.split x y):PyData.strOk z=true∧z.length≤x.length:=by
 refine ⟨?_,part_short hz⟩
 have sub:∀ i j,PyData.strOk (Builtin.Str.strSub x i j)=true:=fun i j=>by
  unfold PyData.strOk at h ⊢
  rw [Array.all_eq_true_iff_forall_mem] at h ⊢
  intro c hc
  refine h c ?_
  unfold Builtin.Str.strSub at hc
  obtain ⟨k,_,_,rfl⟩:=Array.mem_extract_iff_getElem.mp hc
  exact Array.getElem_mem _
 unfold Txt.split at hz
 split at hz
 ·rw [List.mem_singleton.mp hz];exact h
 ·split at hz
  ·rw [List.mem_singleton.mp hz];exact h
  ·simp only [Builtin.Str.partsBetween,List.mem_map] at hz
   obtain ⟨⟨i,j⟩,_,rfl⟩:=hz
   exact sub _ _
theorem rpL_strs {K:PySem.W.Frag} {G:Hp}:∀ {zs:List Str},(∀ z∈zs,PyData.strOk z=true∧z.length≤16777216)→RpL K G (zs.map .str) (zs.map V.str)
 | [],_=>rfl
 | z::zs,h=>⟨_,_,rfl,⟨rfl,rfl,h z List.mem_cons_self⟩,rpL_strs fun y hy=>h y (List.mem_cons_of_mem _ hy)⟩
theorem vals_strs:∀ (l:List (Str×Tok)),Vals ((l.map (·.1)).map V.str) (strValues l)
 | []=>.nil
 | (x,t)::l=>.cons ⟨t,rfl⟩ (vals_strs l)
noncomputable def rSplit:V→List V→Hp→VK→Prop:=fun x xs H Q=>∃ z sep,x=.str z∧xs=[.str sep]∧PyData.strOk z=true∧sep.length≠0∧z.length+2≤16777216∧∀ l,H l=none→Q (.ref l) (L2.upd H l (.lst ((Txt.split z sep).map V.str)))
theorem s_splitN:MtR X "str.split" rSplit:=by
 intro pins s σ H x xs v us Q I rx r h
 obtain ⟨z,sep,rfl,rfl,so,hl1,hl2,k⟩:=h
 obtain ⟨u,rfl,ry⟩:=vals1 r
 obtain ⟨t,rfl⟩:=rx
 obtain ⟨t',rfl⟩:=ry
 have hn:(Builtin.Str.partsBetween z (Builtin.Str.occurrences z sep 0 z.length (z.length+1)) sep.length).length≤sizeLine:=by
  have e1:=StrLaws.occ_length_le z sep 0 z.length (z.length+1)
  have:=line_eq
  rw [length_partsBetween];lia
 have fin:∀ (l:List (Str×Tok)) (tk:Nat),l.map (·.1)=Txt.split z sep→EP X pins σ Q (.ref s.heap.objs.size) {s with toks:=tk,heap:=s.heap.push {cls:=.type "list",data:=.seq (strValues l).toArray}}:=fun l tk el=>by
  have hlen:(l.map (·.1)).length≤sizeLine:=by
   rw [el]
   unfold Txt.split
   have:=line_eq
   split
   ·simp;lia
   ·split
    ·simp;lia
    ·exact hn
  refine ⟨.ref s.heap.objs.size,_,I.laid (t':=tk) (o:=.lst ((l.map (·.1)).map V.str)) (fun b ob q=>Heap.get?_push_of_some _ q) (Nat.le_refl _) ⟨by rw [List.length_map];exact hlen,_,0,vals_strs l,Heap.get?_push_size _ rfl⟩,rfl,?_⟩
  rw [el]
  exact k _ (I.hok.fresh (Nat.le_refl _))
 by_cases h1:(decide (z.length<sep.length)||decide (Builtin.Str.strKind z<Builtin.Str.strKind sep))=true
 ·refine call_meets PySem.F.slot_str_split (typeIs_str _ _ _) PySem.F.entry_str_split (PySem.F.args_str_split_2 _ _) (meets_str_split_cannot_occur z sep t t' h1) ?_
  exact fin [(z,t)] s.toks (by unfold Txt.split;rw [if_pos h1];rfl)
 have h1':(decide (z.length<sep.length)||decide (Builtin.Str.strKind z<Builtin.Str.strKind sep))=false:=by simpa using h1
 have hy:(sep.length==0)=false:=by simpa using hl1
 by_cases h2:(Builtin.Str.occurrences z sep 0 z.length (z.length+1)).isEmpty=true
 ·refine call_meets PySem.F.slot_str_split (typeIs_str _ _ _) PySem.F.entry_str_split (PySem.F.args_str_split_2 _ _) (meets_str_split_not_found z sep t t' h1' hy h2) ?_
  exact fin [(z,t)] s.toks (by unfold Txt.split;rw [if_neg h1,if_pos h2];rfl)
 ·refine call_meets PySem.F.slot_str_split (typeIs_str _ _ _) PySem.F.entry_str_split (PySem.F.args_str_split_2 _ _) (meets_str_split_sep z sep t t' h1' hy (by simpa using h2) (by have:=line_eq;lia) hn) ?_
  rw [strsFrom_eq]
  exact fin (numbered s.toks _) _ ((numbered_texts _ _).trans (by unfold Txt.split;rw [if_neg h1,if_neg h2]))
theorem split_inv {K:PySem.W.Frag} {G H:Hp} {p q r:PV} {x y:V} (hp:Rk K G H p x) (hq:Rk K G H q y) (e:splitF p q=some r):
  ∃ z sep,x=.str z∧y=.str sep∧PyData.strOk z=true∧sep.length≠0∧z.length+2≤16777216∧r=.list ((Txt.split z sep).map .str)∧∀ G',RpL K G' ((Txt.split z sep).map .str) ((Txt.split z sep).map V.str):=by
 cases p with
 | str z=>
  cases q with
  | str sep=>
   rw [splitF_e] at e
   by_cases hl:sep.length≠0∧z.length+2≤16777216
   ·rw [if_pos hl] at e
    cases e
    obtain ⟨rfl,so,_⟩:=(show x=.str z∧PyData.strOk z=true∧z.length≤16777216 from hp)
    obtain ⟨rfl,_,_⟩:=(show y=.str sep∧PyData.strOk sep=true∧sep.length≤16777216 from hq)
    refine ⟨z,sep,rfl,rfl,so,hl.1,hl.2,rfl,fun G'=>rpL_strs fun a ha=>?_⟩
    have:=parts_ok so ha
    exact ⟨this.1,by lia⟩
   ·rw [if_neg hl] at e;cases e
  | _=>exact nomatch (show none=some _ from e)
 | _=>cases q <;> exact nomatch (show none=some _ from e)
theorem s_split:MtR X "str.split" (fun x xs H Q=>∃ y,xs=[y]∧rOp2 X.K .split x y H Q):=by
 intro pins s σ H x xs v us Q I rx r h
 obtain ⟨y,rfl,G,p,q,r',sb,hp,hq,e,k⟩:=h
 obtain ⟨z,sep,rfl,rfl,so,h1,h2,rfl,hr⟩:=split_inv hp hq (show splitF p q=some r' from e)
 refine s_splitN pins s σ H _ _ v us Q I rx r ⟨z,sep,rfl,rfl,so,h1,h2,fun l hf=>?_⟩
 have x1:=Ext.new sb hf (.lst ((Txt.split z sep).map V.str))
 exact k _ _ _ x1 ⟨_,_,rfl,SqL.of upd_same,hr _⟩
theorem snd_split {ia ib:E} {a b:Expr} {apos pos:Pos} (ha:PE X a (tE cf X.K ia)) (hb:PE X b (tE cf X.K ib)) (hs:plainE b=true) (hbase:attributeBase a "split" X.env (eval a X.env)=eval a X.env) (hline:(apos.endLine==pos.line)=true):
  Snd X cf (.op2 .split ia ib) (.Call (.Attribute a "split" apos) [b] [] pos):=by
 have hst:=star_of hs [] X.env
 have hfew:((backTo pos (starEach [b] X.env)).all (fun x=>!x.1)&&(backToKw pos (keywordEach [] X.env)).all (fun x=>x.1.isSome)
   && decide ([b].length+([]:List Keyword).length+(if ([]:List Keyword).isEmpty then 0 else 1)<30))=true:=by
  rw [hst];rfl
 refine .plain ((pe_bm (X:=X) (o:=a) PySem.F.plainAttrs_str PySem.F.slot_str_split PySem.F.type_str_split s_split ha (pa_cons hb pa_nil hst) hbase hfew hline hst rfl).weak fun σ H Q h=>?_) (fun _=>rfl)
 obtain ⟨G,ρ,p,S,e,k⟩:=h
 obtain ⟨x,e1,e2⟩:=bnd_eq.mp (show bnd (evE cf ia ρ) (fun x=>bnd (evE cf ib ρ) fun y=>opF2 .split x y)=some p from e)
 obtain ⟨y,e3,e4⟩:=bnd_eq.mp e2
 refine ⟨G,ρ,x,S,e1,fun v G1 H1 x1 r1=>⟨?_,G1,ρ,y,S.ext x1,e3,fun w G2 H2 x2 r2=>⟨w,rfl,G2,x,y,p,x2.gh,(r1.rk x1.gh).ext x2,r2.rk x2.gh,e4,fun u G3 H3 x3 r3=>k u G3 H3 (x1.trans (x2.trans x3)) (.of rfl r3)⟩⟩⟩
 cases x with
 | str z=>
  obtain ⟨rfl,_⟩:=(show v=.str z∧PyData.strOk z=true∧z.length≤16777216 from r1.rk x1.gh)
  exact rfl
 | _=>exact nomatch (show none=some p from e4)
theorem s_notT:OpR X (compareOp .IsNot) (fun x y H Q=>y=.bl true∧rOp1 X.K .notT x H Q):=by
 intro pins s σ H x y v u Q I rx ry h
 obtain ⟨rfl,G,p,r,sb,hp,e,k⟩:=h
 cases p with
 | bool b=>
  cases (show some (PyData.bool (!b))=some r from e)
  cases (show x=.bl b from hp)
  cases rx;cases ry
  refine isnot_bool ⟨.bl (!b),H,I,?_,k _ G H (.refl sb) rfl⟩
  cases b <;> rfl
 | _=>exact nomatch (show none=some _ from e)
end
section
variable {X:Cx} {cf:CF}
end
end DD
set_option genInjectivity false
namespace DD
open PySem
noncomputable def onName (e:Expr) (k:Str→Pos→Bool):Bool:=match e with
 | .Name x p=>k x p
 | _=>false
@[elab_as_elim] theorem onName_el {e:Expr} {k:Str→Pos→Bool} {P:Expr→Prop} (h:onName e k=true) (H:∀ x p,k x p=true→P (.Name x p)):P e:=by
 cases e with
 | Name x p=>exact H x p h
 | _=>exact nomatch (show false=true from h)
noncomputable def onConst (e:Expr) (k:Const→Nat→Pos→Bool):Bool:=match e with
 | .Constant c j p=>k c j p
 | _=>false
@[elab_as_elim] theorem onConst_el {e:Expr} {k:Const→Nat→Pos→Bool} {P:Expr→Prop} (h:onConst e k=true) (H:∀ c j p,k c j p=true→P (.Constant c j p)):P e:=by
 cases e with
 | Constant c j p=>exact H c j p h
 | _=>exact nomatch (show false=true from h)
noncomputable def onCall (e:Expr) (k:Expr→List Expr→Pos→Bool):Bool:=match e with
 | .Call g as ks p=>ks.isEmpty&&k g as p
 | _=>false
@[elab_as_elim] theorem onCall_el {e:Expr} {k:Expr→List Expr→Pos→Bool} {P:Expr→Prop} (h:onCall e k=true) (H:∀ g as p,k g as p=true→P (.Call g as [] p)):P e:=by
 cases e with
 | Call g as ks p=>
  have h':(ks.isEmpty&&k g as p)=true:=h
  cases ks with
  | nil=>exact H g as p h'
  | cons _ _=>exact nomatch (show false=true from h')
 | _=>exact nomatch (show false=true from h)
noncomputable def onAttr (e:Expr) (k:Expr→Str→Pos→Bool):Bool:=match e with
 | .Attribute v m p=>k v m p
 | _=>false
@[elab_as_elim] theorem onAttr_el {e:Expr} {k:Expr→Str→Pos→Bool} {P:Expr→Prop} (h:onAttr e k=true) (H:∀ v m p,k v m p=true→P (.Attribute v m p)):P e:=by
 cases e with
 | Attribute v m p=>exact H v m p h
 | _=>exact nomatch (show false=true from h)
noncomputable def onUn (e:Expr) (k:UnaryOp→Expr→Pos→Bool):Bool:=match e with
 | .UnaryOp u x p=>k u x p
 | _=>false
@[elab_as_elim] theorem onUn_el {e:Expr} {k:UnaryOp→Expr→Pos→Bool} {P:Expr→Prop} (h:onUn e k=true) (H:∀ u x p,k u x p=true→P (.UnaryOp u x p)):P e:=by
 cases e with
 | UnaryOp u x p=>exact H u x p h
 | _=>exact nomatch (show false=true from h)
noncomputable def isUSub:UnaryOp→Bool
 | .USub=>true
 | _=>false
theorem isUSub_of {u:UnaryOp} (h:isUSub u=true):u=.USub:=by cases u <;> first | rfl | exact nomatch (show false=true from h)
noncomputable def isNotU:UnaryOp→Bool
 | .Not=>true
 | _=>false
theorem isNotU_of {u:UnaryOp} (h:isNotU u=true):u=.Not:=by cases u <;> first | rfl | exact nomatch (show false=true from h)
noncomputable def onBin (e:Expr) (k:Expr→Operator→Expr→Pos→Bool):Bool:=match e with
 | .BinOp x o y p=>k x o y p
 | _=>false
@[elab_as_elim] theorem onBin_el {e:Expr} {k:Expr→Operator→Expr→Pos→Bool} {P:Expr→Prop} (h:onBin e k=true) (H:∀ x o y p,k x o y p=true→P (.BinOp x o y p)):P e:=by
 cases e with
 | BinOp x o y p=>exact H x o y p h
 | _=>exact nomatch (show false=true from h)
noncomputable def onBool (e:Expr) (k:BoolOp→List Expr→Pos→Bool):Bool:=match e with
 | .BoolOp o xs p=>k o xs p
 | _=>false
@[elab_as_elim] theorem onBool_el {e:Expr} {k:BoolOp→List Expr→Pos→Bool} {P:Expr→Prop} (h:onBool e k=true) (H:∀ o xs p,k o xs p=true→P (.BoolOp o xs p)):P e:=by
 cases e with
 | BoolOp o xs p=>exact H o xs p h
 | _=>exact nomatch (show false=true from h)
noncomputable def onCmp (e:Expr) (k:Expr→List CmpOp→List Expr→Pos→Bool):Bool:=match e with
 | .Compare x os ys p=>k x os ys p
 | _=>false
@[elab_as_elim] theorem onCmp_el {e:Expr} {k:Expr→List CmpOp→List Expr→Pos→Bool} {P:Expr→Prop} (h:onCmp e k=true) (H:∀ x os ys p,k x os ys p=true→P (.Compare x os ys p)):P e:=by
 cases e with
 | Compare x os ys p=>exact H x os ys p h
 | _=>exact nomatch (show false=true from h)
noncomputable def onSub (e:Expr) (k:Expr→Expr→Pos→Bool):Bool:=match e with
 | .Subscript x y p=>k x y p
 | _=>false
@[elab_as_elim] theorem onSub_el {e:Expr} {k:Expr→Expr→Pos→Bool} {P:Expr→Prop} (h:onSub e k=true) (H:∀ x y p,k x y p=true→P (.Subscript x y p)):P e:=by
 cases e with
 | Subscript x y p=>exact H x y p h
 | _=>exact nomatch (show false=true from h)
noncomputable def onSlice (e:Expr) (k:Option Expr→Option Expr→Option Expr→Pos→Bool):Bool:=match e with
 | .Slice a b c p=>k a b c p
 | _=>false
@[elab_as_elim] theorem onSlice_el {e:Expr} {k:Option Expr→Option Expr→Option Expr→Pos→Bool} {P:Expr→Prop} (h:onSlice e k=true) (H:∀ a b c p,k a b c p=true→P (.Slice a b c p)):P e:=by
 cases e with
 | Slice a b c p=>exact H a b c p h
 | _=>exact nomatch (show false=true from h)
noncomputable def onTup (e:Expr) (k:List Expr→Nat→Pos→Bool):Bool:=match e with
 | .Tuple xs j p=>k xs j p
 | _=>false
@[elab_as_elim] theorem onTup_el {e:Expr} {k:List Expr→Nat→Pos→Bool} {P:Expr→Prop} (h:onTup e k=true) (H:∀ xs j p,k xs j p=true→P (.Tuple xs j p)):P e:=by
 cases e with
 | Tuple xs j p=>exact H xs j p h
 | _=>exact nomatch (show false=true from h)
noncomputable def onList (e:Expr) (k:List Expr→Pos→Bool):Bool:=match e with
 | .List xs p=>k xs p
 | _=>false
@[elab_as_elim] theorem onList_el {e:Expr} {k:List Expr→Pos→Bool} {P:Expr→Prop} (h:onList e k=true) (H:∀ xs p,k xs p=true→P (.List xs p)):P e:=by
 cases e with
 | List xs p=>exact H xs p h
 | _=>exact nomatch (show false=true from h)
noncomputable def onDict (e:Expr) (k:List (Option Expr)→List Expr→Pos→Bool):Bool:=match e with
 | .Dict es vs p=>k es vs p
 | _=>false
noncomputable def onIfE (e:Expr) (k:Expr→Expr→Expr→Pos→Bool):Bool:=match e with
 | .IfExp t x y p=>k t x y p
 | _=>false
noncomputable def onLC (e:Expr) (k:Expr→List Comprehension→Scope→Pos→Bool):Bool:=match e with
 | .ListComp y gs sc p=>k y gs sc p
 | _=>false
@[elab_as_elim] theorem onLC_el {e:Expr} {k:Expr→List Comprehension→Scope→Pos→Bool} {P:Expr→Prop} (h:onLC e k=true) (H:∀ y gs sc p,k y gs sc p=true→P (.ListComp y gs sc p)):P e:=by
 cases e with
 | ListComp y gs sc p=>exact H y gs sc p h
 | _=>exact nomatch (show false=true from h)
noncomputable def on1 {α:Type} (l:List α) (k:α→Bool):Bool:=match l with
 | [x]=>k x
 | _=>false
@[elab_as_elim] theorem on1_el {α:Type} {l:List α} {k:α→Bool} {P:List α→Prop} (h:on1 l k=true) (H:∀ x,k x=true→P ([x])):P l:=by
 cases l with
 | nil=>exact nomatch (show false=true from h)
 | cons x l=>
  cases l with
  | nil=>exact H x h
  | cons _ _=>exact nomatch (show false=true from h)
noncomputable def on2 {α:Type} (l:List α) (k:α→α→Bool):Bool:=match l with
 | x::r=>on1 r (k x)
 | _=>false
@[elab_as_elim] theorem on2_el {α:Type} {l:List α} {k:α→α→Bool} {P:List α→Prop} (h:on2 l k=true) (H:∀ x y,k x y=true→P ([x,y])):P l:=by
 cases l with
 | nil=>exact nomatch (show false=true from h)
 | cons x l=>
  exact on1_el (P:=fun r=>P (x::r)) (show on1 l (k x)=true from h) fun y h=>H x y h
noncomputable def onCons {α:Type} (l:List α) (k:α→List α→Bool):Bool:=match l with
 | x::r=>k x r
 | _=>false
@[elab_as_elim] theorem onCons_el {α:Type} {l:List α} {k:α→List α→Bool} {P:List α→Prop} (h:onCons l k=true) (H:∀ x r,k x r=true→P (x::r)):P l:=by
 cases l with
 | nil=>exact nomatch (show false=true from h)
 | cons x l=>exact H x l h
noncomputable def onSo {α:Type} (o:Option α) (k:α→Bool):Bool:=match o with
 | some x=>k x
 | none=>false
@[elab_as_elim] theorem onSo_el {α:Type} {o:Option α} {k:α→Bool} {P:Option α→Prop} (h:onSo o k=true) (H:∀ x,k x=true→P (some x)):P o:=by
 cases o with
 | none=>exact nomatch (show false=true from h)
 | some x=>exact H x h
theorem onSo_of {α:Type} {o:Option α} {k:α→Bool} (h:onSo o k=true):∃ x,o=some x∧k x=true:=onSo_el (P:=fun o=>∃ x,o=some x∧k x=true) h fun x h=>⟨x,rfl,h⟩
theorem isN_of {α:Type} {o:Option α} (h:o.isNone=true):o=none:=by
 cases o with
 | none=>rfl
 | some _=>exact nomatch (show false=true from h)
noncomputable def onInt (c:Const) (k:Int→Bool):Bool:=match c with
 | .int i=>k i
 | _=>false
@[elab_as_elim] theorem onInt_el {c:Const} {k:Int→Bool} {P:Const→Prop} (h:onInt c k=true) (H:∀ i,k i=true→P (.int i)):P c:=by
 cases c with
 | int i=>exact H i h
 | _=>exact nomatch (show false=true from h)
noncomputable def onStr (c:Const) (k:Str→Bool):Bool:=match c with
 | .str i=>k i
 | _=>false
@[elab_as_elim] theorem onStr_el {c:Const} {k:Str→Bool} {P:Const→Prop} (h:onStr c k=true) (H:∀ i,k i=true→P (.str i)):P c:=by
 cases c with
 | str i=>exact H i h
 | _=>exact nomatch (show false=true from h)
noncomputable def isNonC:Const→Bool
 | .none=>true
 | _=>false
theorem isNonC_of {c:Const} (h:isNonC c=true):c=.none:=by cases c <;> first | rfl | exact nomatch (show false=true from h)
noncomputable def onAsg (st:Stmt) (k:Expr→Expr→Pos→Bool):Bool:=match st with
 | .Assign ts v p=>on1 ts fun t=>k t v p
 | _=>false
@[elab_as_elim] theorem onAsg_el {st:Stmt} {k:Expr→Expr→Pos→Bool} {P:Stmt→Prop} (h:onAsg st k=true) (H:∀ t v p,k t v p=true→P (.Assign [t] v p)):P st:=by
 cases st with
 | Assign ts v p=>
  exact on1_el (P:=fun r=>P (.Assign r v p)) (show on1 ts (fun t=>k t v p)=true from h) fun t h=>H t v p h
 | _=>exact nomatch (show false=true from h)
noncomputable def onRet (st:Stmt) (k:Expr→Bool):Bool:=match st with
 | .Return v _=>onSo v k
 | _=>false
@[elab_as_elim] theorem onRet_el {st:Stmt} {k:Expr→Bool} {P:Stmt→Prop} (h:onRet st k=true) (H:∀ v p,k v=true→P (.Return (some v) p)):P st:=by
 cases st with
 | Return v p=>
  exact onSo_el (P:=fun r=>P (.Return r p)) (show onSo v k=true from h) fun v h=>H v p h
 | _=>exact nomatch (show false=true from h)
noncomputable def onIfS (st:Stmt) (k:Expr→List Stmt→List Stmt→Bool):Bool:=match st with
 | .If t x y _=>k t x y
 | _=>false
@[elab_as_elim] theorem onIfS_el {st:Stmt} {k:Expr→List Stmt→List Stmt→Bool} {P:Stmt→Prop} (h:onIfS st k=true) (H:∀ t x y p,k t x y=true→P (.If t x y p)):P st:=by
 cases st with
 | If t x y p=>exact H t x y p h
 | _=>exact nomatch (show false=true from h)
noncomputable def onFor (st:Stmt) (k:Expr→Expr→List Stmt→Bool):Bool:=match st with
 | .For t i b o _=>o.isEmpty&&k t i b
 | _=>false
@[elab_as_elim] theorem onFor_el {st:Stmt} {k:Expr→Expr→List Stmt→Bool} {P:Stmt→Prop} (h:onFor st k=true) (H:∀ t i b p,k t i b=true→P (.For t i b [] p)):P st:=by
 cases st with
 | For t i b o p=>
  have h':(o.isEmpty&&k t i b)=true:=h
  cases o with
  | nil=>exact H t i b p h'
  | cons _ _=>exact nomatch (show false=true from h')
 | _=>exact nomatch (show false=true from h)
noncomputable def onExS (st:Stmt) (k:Expr→Bool):Bool:=match st with
 | .Expr e _=>k e
 | _=>false
@[elab_as_elim] theorem onExS_el {st:Stmt} {k:Expr→Bool} {P:Stmt→Prop} (h:onExS st k=true) (H:∀ e p,k e=true→P (.Expr e p)):P st:=by
 cases st with
 | Expr e p=>exact H e p h
 | _=>exact nomatch (show false=true from h)
noncomputable def isPass:Stmt→Bool
 | .Pass _=>true
 | _=>false
theorem isPass_of {st:Stmt} (h:isPass st=true):∃ p,st=.Pass p:=by cases st <;> first | exact ⟨_,rfl⟩ | exact nomatch (show false=true from h)
end DD
namespace DD
open PySem PySem.Spec PyProof.Rows L2
mutual
noncomputable def pvB:PV→PV→Bool
 | .none,.none=>true
 | .bool a,.bool b=>a==b
 | .int a,.int b=>a==b
 | .str a,.str b=>a==b
 | .list a,.list b=>pvsB a b
 | .tuple a,.tuple b=>pvsB a b
 | _,_=>false
noncomputable def pvsB:List PV→List PV→Bool
 | [],[]=>true
 | x::xs,y::ys=>pvB x y&&pvsB xs ys
 | _,_=>false
end
mutual
theorem pvB_eq:∀ {p q:PV},pvB p q=true→p=q
 | .none,q,h=>by
  cases q with
  | none=>rfl
  | _=>exact nomatch (show false=true from h)
 | .bool a,q,h=>by
  cases q with
  | bool b=>rw [eq_of_beq (show (a==b)=true from h)]
  | _=>exact nomatch (show false=true from h)
 | .int a,q,h=>by
  cases q with
  | int b=>rw [eq_of_beq (show (a==b)=true from h)]
  | _=>exact nomatch (show false=true from h)
 | .str a,q,h=>by
  cases q with
  | str b=>rw [eq_of_beq (show (a==b)=true from h)]
  | _=>exact nomatch (show false=true from h)
 | .list a,q,h=>by
  cases q with
  | list b=>rw [pvsB_eq (show pvsB a b=true from h)]
  | _=>exact nomatch (show false=true from h)
 | .tuple a,q,h=>by
  cases q with
  | tuple b=>rw [pvsB_eq (show pvsB a b=true from h)]
  | _=>exact nomatch (show false=true from h)
 | .dict a,q,h=>by cases q <;> exact nomatch (show false=true from h)
theorem pvsB_eq:∀ {p q:List PV},pvsB p q=true→p=q
 | [],q,h=>by
  cases q with
  | nil=>rfl
  | cons _ _=>exact nomatch (show false=true from h)
 | x::xs,q,h=>by
  cases q with
  | nil=>exact nomatch (show false=true from h)
  | cons y ys=>
   obtain ⟨h1,h2⟩:=(Bool.and_eq_true _ _).mp (show (pvB x y&&pvsB xs ys)=true from h)
   rw [pvB_eq h1,pvsB_eq h2]
end
structure Info where
 fns:List (Str×Nat×Nat)
 consts:List (Str×PV)
 blts:List Str
 dcts:List (Str×List (PV×PV)):=[]
noncomputable def TopD (X:Cx) (x:Str) (kvs:List (PV×PV)):Prop:=∃ a l vs,X.mg x=some (.ref a)∧(a==sysModules)=false∧(∀ G,RpD X.K G kvs l)∧KV l vs∧∀ h:Heap,X.K.In h→h.DictOf (mixKind X.prog X.w) a vs
structure Good (X:Cx) (k:Nat) (cf:CF) (Gam:Info):Prop where
 calm:X.calm=true
 xe:X.xe=fun _ _=>False
 room:Room k X.A
 fns:∀ x id n,(x,id,n)∈Gam.fns→∃ fa fd ps,ps.length=n∧X.mg x=some (.ref fa)∧PySem.W.keepIn X.K (.ref fa)=true∧L2.Binds X.K fd ps []∧FnOk X.prog X.w X.K X.mg X.base CX0 k fa fd ps (spD X.K ps.length (cf id))
 consts:∀ x p,(x,p)∈Gam.consts→∃ u v,X.mg x=some u∧RelV v u∧∀ G,Rp X.K G p v
 blts:∀ x∈Gam.blts,X.mg x=none
 dcts:∀ x kvs,(x,kvs)∈Gam.dcts→TopD X x kvs
noncomputable abbrev Nms:=List (Str×NameKind)
noncomputable def okN (x:Str):Bool:=!(x==("__debug__":Str))&&!(x==("__classdict__":Str))&&!(x==("__name__":Str))
noncomputable def visB (nm:Nms) (x:Str):Bool:=nm.lookup x==some .local||nm.lookup x==some .cell||nm.lookup x==some .free
noncomputable def glB (nm:Nms) (x:Str):Bool:=nm.lookup x==some .globalImplicit&&okN x
noncomputable def bltB (Gam:Info) (nm:Nms) (x y:Str):Bool:=x==y&&glB nm x&&Gam.blts.contains x
theorem okN_of {x:Str} (h:okN x=true):(x==("__debug__":Str))=false∧(x==("__classdict__":Str))=false∧x≠"__name__":=by
 unfold okN at h
 simp only [Bool.and_eq_true,Bool.not_eq_true'] at h
 exact ⟨h.1.1,h.1.2,by simpa using h.2⟩
theorem visB_of {sc:Scope} {x:Str} (h:visB sc.names x=true):Vis sc x:=by
 unfold visB at h
 simp only [Bool.or_eq_true,beq_iff_eq] at h
 rcases h with (h | h) | h
 ·exact .inl h
 ·exact .inr (.inl h)
 ·exact .inr (.inr h)
noncomputable def conB (p:PV):Const→Bool
 | .none=>pvB p .none
 | .bool b=>pvB p (.bool b)
 | .int i=>pvB p (.int i)
 | .str x=>pvB p (.str x)&&PyData.strOk x&&decide (x.length≤16777216)
 | _=>false
noncomputable def binO:Op2→Option Operator
 | .add=>some .Add
 | .sub=>some .Sub
 | .fdiv=>some .FloorDiv
 | .mod=>some .Mod
 | .mul=>some .Mult
 | _=>none
noncomputable def binB (o:Op2) (op:Operator):Bool:=decide (binO o=some op)
noncomputable def cmpO:Op2→Option CmpOp
 | .eq=>some .Eq
 | .ne=>some .NotEq
 | .lt=>some .Lt
 | .le=>some .LtE
 | .gt=>some .Gt
 | .ge=>some .GtE
 | .inn=>some .In
 | .nin=>some .NotIn
 | _=>none
noncomputable def cmpB (o:Op2) (op:CmpOp):Bool:=decide (cmpO o=some op)
noncomputable def kindT:Op1→Option String
 | .isTup=>some "tuple"
 | .isStr=>some "str"
 | _=>none
noncomputable def bltFn:Op1→Option Str
 | .len=>some "len"
 | .toTuple=>some "tuple"
 | .toInt=>some "int"
 | .all=>some "all"
 | _=>none
section
variable {X:Cx}
theorem s_lt (hu:X.A.units+190<cLine):OpR X (compareOp .Lt) (rOp2 X.K .lt):=by
 intro pins s σ H x y v u Q I rx ry h
 obtain ⟨G,p,q,r,sb,hp,hq,e,k⟩:=h
 cases p with
 | int i=>
  cases q with
  | int j=>
   cases (show some (PyData.bool (decide (i<j)))=some r from e)
   cases (show x=.int i from hp);cases (show y=.int j from hq)
   exact op_lt pins s σ H _ _ v u Q I rx ry ⟨i,j,rfl,rfl,k _ G H (.refl sb) rfl⟩
  | _=>exact nomatch (show none=some _ from e)
 | _=>cases q <;> exact nomatch (show none=some _ from e)
theorem s_isN:OpR X (compareOp .Is) (fun x y H Q=>y=.non∧rOp1 X.K .isN x H Q):=by
 intro pins s σ H x y v u Q I rx ry h
 obtain ⟨rfl,G,p,r,sb,hp,e,k⟩:=h
 refine op_isN pins s σ H x .non v u Q I rx ry ⟨rfl,?_⟩
 have key:Rp X.K G r (.bl (decide (x=.non))):=by
  cases p with
  | none=>cases (show x=.non from hp);cases (show some (PyData.bool true)=some r from e);exact (rfl:V.bl (decide (V.non=V.non))=.bl true)
  | bool b=>cases (show x=.bl b from hp);cases (show some (PyData.bool false)=some r from e);exact (rfl:V.bl (decide (V.bl b=V.non))=.bl false)
  | int b=>cases (show x=.int b from hp);cases (show some (PyData.bool false)=some r from e);exact (rfl:V.bl (decide (V.int b=V.non))=.bl false)
  | str b=>
   obtain ⟨rfl,_⟩:=(show x=.str b∧_ from hp)
   cases (show some (PyData.bool false)=some r from e);exact (rfl:V.bl (decide (V.str b=V.non))=.bl false)
  | list ps=>
   obtain ⟨a,vs,rfl,_⟩:=(show ∃ a vs,x=V.ref a∧SqL X.K H a vs∧RpL X.K G ps vs from hp)
   cases (show some (PyData.bool false)=some r from e);exact (rfl:V.bl (decide (V.ref a=V.non))=.bl false)
  | tuple ps=>
   obtain ⟨a,vs,rfl,_⟩:=(show ∃ a vs,x=V.ref a∧SqT X.K G a vs∧RpL X.K G ps vs from hp)
   cases (show some (PyData.bool false)=some r from e);exact (rfl:V.bl (decide (V.ref a=V.non))=.bl false)
  | dict kvs=>
   obtain ⟨a,l,rfl,_⟩:=(show ∃ a l,x=V.ref a∧Rd G a (.dK l)∧RpD X.K G kvs l from hp)
   cases (show some (PyData.bool false)=some r from e);exact (rfl:V.bl (decide (V.ref a=V.non))=.bl false)
 exact k _ G H (.refl sb) key
theorem s_notN:OpR X (compareOp .IsNot) (fun x y H Q=>y=.non∧rOp1 X.K .notN x H Q):=by
 intro pins s σ H x y v u Q I rx ry h
 obtain ⟨rfl,G,p,r,sb,hp,e,k⟩:=h
 refine op_notN pins s σ H x .non v u Q I rx ry ⟨rfl,?_⟩
 have key:Rp X.K G r (.bl (!decide (x=.non))):=by
  cases p with
  | none=>cases (show x=.non from hp);cases (show some (PyData.bool false)=some r from e);exact (rfl:V.bl (!decide (V.non=V.non))=.bl false)
  | bool b=>cases (show x=.bl b from hp);cases (show some (PyData.bool true)=some r from e);exact (rfl:V.bl (!decide (V.bl b=V.non))=.bl true)
  | int b=>cases (show x=.int b from hp);cases (show some (PyData.bool true)=some r from e);exact (rfl:V.bl (!decide (V.int b=V.non))=.bl true)
  | str b=>
   obtain ⟨rfl,_⟩:=(show x=.str b∧_ from hp)
   cases (show some (PyData.bool true)=some r from e);exact (rfl:V.bl (!decide (V.str b=V.non))=.bl true)
  | list ps=>
   obtain ⟨a,vs,rfl,_⟩:=(show ∃ a vs,x=V.ref a∧SqL X.K H a vs∧RpL X.K G ps vs from hp)
   cases (show some (PyData.bool true)=some r from e);exact (rfl:V.bl (!decide (V.ref a=V.non))=.bl true)
  | tuple ps=>
   obtain ⟨a,vs,rfl,_⟩:=(show ∃ a vs,x=V.ref a∧SqT X.K G a vs∧RpL X.K G ps vs from hp)
   cases (show some (PyData.bool true)=some r from e);exact (rfl:V.bl (!decide (V.ref a=V.non))=.bl true)
  | dict kvs=>
   obtain ⟨a,l,rfl,_⟩:=(show ∃ a l,x=V.ref a∧Rd G a (.dK l)∧RpD X.K G kvs l from hp)
   cases (show some (PyData.bool true)=some r from e);exact (rfl:V.bl (!decide (V.ref a=V.non))=.bl true)
 exact k _ G H (.refl sb) key
end
section
variable {X:Cx} {cf:CF}
theorem is_bool {o:Op1} (ho:o=.isN∨o=.notN) {p r:PV} (e:opF1 o p=some r):∃ b,r=.bool b:=by
 rcases ho with rfl | rfl <;> (cases p <;> (cases e;exact ⟨_,rfl⟩))
theorem snd_is {op:CmpOp} {o:Op1} {ia:E} {a:Expr} {j:Nat} {p2 pos:Pos} (ho:OpR X (compareOp op) (fun x y H Q=>y=.non∧rOp1 X.K o x H Q)) (ho1:o=.isN∨o=.notN) (ha:PE X a (tE cf X.K ia)) (hm:behindInMarks op (.Constant .none j p2)=false):
  Snd X cf (.op1 o ia) (.Compare a [op] [.Constant .none j p2] pos):=by
 have w:∀ σ H Q,tE cf X.K (.op1 o ia) σ H Q→tOp (fun x y H Q=>y=.non∧rOp1 X.K o x H Q) (tE cf X.K ia) (tC .non) σ H Q:=fun σ H Q h=>tE_mono (op1_w σ H Q h) fun v H' q=>⟨rfl,q⟩
 refine ⟨(pe_cmpR ho ha pe_non hm).weak w,(pt_cmpR ho ha pe_non hm).weak fun σ H Q ⟨G,ρ,p,t,S,e,et,k⟩=>?_⟩
 refine w σ H (fun x H'=>∃ c,x=.bl c∧Q c H') ⟨G,ρ,p,S,e,fun v G' H' x r=>?_⟩
 obtain ⟨x',e1,e2⟩:=bnd_eq.mp (show bnd (evE cf ia ρ) (opF1 o)=some p from e)
 obtain ⟨b',rfl⟩:=is_bool ho1 e2
 have et':b'=t:=Option.some.inj et
 subst et'
 have rv:Rp X.K G' (.bool b') v:=r.rp rfl
 cases (show v=.bl b' from rv)
 exact ⟨b',rfl,k G' H' x⟩
theorem snd_isT {ia:E} {a:Expr} {j:Nat} {p2 pos:Pos} (ha:PE X a (tE cf X.K ia)) (hm:behindInMarks .IsNot (.Constant (.bool true) j p2)=false):Snd X cf (.op1 .notT ia) (.Compare a [.IsNot] [.Constant (.bool true) j p2] pos):=by
 have w:∀ σ H Q,tE cf X.K (.op1 .notT ia) σ H Q→tOp (fun x y H Q=>y=.bl true∧rOp1 X.K .notT x H Q) (tE cf X.K ia) (tC (.bl true)) σ H Q:=fun σ H Q h=>tE_mono (op1_w σ H Q h) fun v H' q=>⟨rfl,q⟩
 refine ⟨(pe_cmpR s_notT ha pe_bl hm).weak w,(pt_cmpR s_notT ha pe_bl hm).weak fun σ H Q ⟨G,ρ,p,t,S,e,et,k⟩=>?_⟩
 refine w σ H (fun x H'=>∃ c,x=.bl c∧Q c H') ⟨G,ρ,p,S,e,fun v G' H' x r=>?_⟩
 obtain ⟨x',e1,e2⟩:=bnd_eq.mp (show bnd (evE cf ia ρ) (opF1 .notT)=some p from e)
 cases x' with
 | bool b'=>
  cases (show some (PyData.bool (!b'))=some p from e2)
  have et':(!b')=t:=Option.some.inj et
  subst et'
  have rv:Rp X.K G' (.bool (!b')) v:=r.rp rfl
  cases (show v=.bl (!b') from rv)
  exact ⟨_,rfl,k G' H' x⟩
 | _=>exact nomatch (show none=some p from e2)
end
section
variable (Gam:Info) (N:List Str) (nm:Nms) (f:E→Expr→Bool)
noncomputable def chkA:E→List Expr→Bool
 | .nil,[]=>true
 | .cons h t,e::es=>!isPeek h&&plainE e&&f h e&&chkA t es
 | _,_=>false
noncomputable def chkB (op:BoolOp):E→List Expr→Bool
 | ie,[e]=>f ie e
 | .and a b,e::e2::r=>op==.And&&!isPeek a&&!isPeek b&&f a e&&chkB op b (e2::r)
 | .or a b,e::e2::r=>op==.Or&&!isPeek a&&!isPeek b&&f a e&&chkB op b (e2::r)
 | _,_=>false
noncomputable def chkVar (i:Nat) (e:Expr):Bool:=onName e fun x _=>N[i]?==some x&&visB nm x&&okN x
noncomputable def chkCon (p:PV) (e:Expr):Bool:=onConst e (fun c _ _=>conB p c)||onName e (fun x _=>glB nm x&&Gam.consts.any fun c=>c.1==x&&pvB c.2 p)
noncomputable def chkTup (a:E) (e:Expr):Bool:=onTup e fun es _ _=>chkA f a es&&(argN a).any (·≤1000)
noncomputable def chkLst (a:E) (e:Expr):Bool:=onList e fun es _=>chkA f a es&&(argN a).any (·≤1000)
noncomputable def chkSset (x:Str) (a:E) (e:Expr):Bool:=false&&(onCall e fun g as _=>onName g fun y _=>on1 as fun z=>bltB Gam nm x "sorted"&&bltB Gam nm y "set"&&plainE z&&f a z)
noncomputable def chkOnea (o:Op1) (a:E) (e:Expr):Bool:=onCall e fun g as _=>onName g fun x _=>on1 as fun y=>if o==.sset then chkSset Gam nm f x a y else (bltFn o).any (fun z=>bltB Gam nm x z)&&plainE y&&f a y
noncomputable def chkOneb (o:Op1) (a:E) (e:Expr):Bool:=onCall e fun g as _=>onName g fun x _=>on2 as fun y u=>onName u fun t _=>bltB Gam nm x "isinstance"&&(kindT o).any (fun z=>bltB Gam nm t z)&&plainE y&&f a y
noncomputable def chkOnec (o:Op1) (a:E) (e:Expr):Bool:=false&&(onUn e fun u y _=>isUSub u&&o==.neg&&f a y)
noncomputable def chkOned (o:Op1) (a:E) (e:Expr):Bool:=onSub e fun y sl _=>onSlice sl fun l h st _=>l.isNone&&h.isNone&&onSo st fun z=>onUn z fun u c _=>isUSub u&&onConst c fun cc _ _=>onInt cc fun i=>o==.rev&&i==1&&f a y
noncomputable def chkOnee (o:Op1) (a:E) (e:Expr):Bool:=onCmp e fun y os cs _=>on1 os fun op=>on1 cs fun c=>onConst c fun cc _ _=>isNonC cc&&decide (op=.Is)&&o==.isN&&f a y
noncomputable def chkOnef (o:Op1) (a:E) (e:Expr):Bool:=onCmp e fun y os cs _=>on1 os fun op=>on1 cs fun c=>onConst c fun cc _ _=>isNonC cc&&decide (op=.IsNot)&&o==.notN&&f a y
noncomputable def rngE:E→Option E
 | .rng a=>some a
 | _=>none
noncomputable def isTruC:Const→Bool
 | .bool true=>true
 | _=>false
theorem isTruC_of {c:Const} (h:isTruC c=true):c=.bool true:=by
 cases c with
 | bool b=>cases b with
  | true=>rfl
  | false=>exact nomatch (show false=true from h)
 | _=>exact nomatch (show false=true from h)
noncomputable def chkOneg (o:Op1) (a:E) (e:Expr):Bool:=onCmp e fun y os cs _=>on1 os fun op=>on1 cs fun c=>onConst c fun cc _ _=>isTruC cc&&decide (op=.IsNot)&&o==.notT&&f a y
noncomputable def chkOp1 (o:Op1) (a:E) (e:Expr):Bool:=chkOnea Gam nm f o a e||chkOneb Gam nm f o a e||chkOnec f o a e||chkOned f o a e||chkOnee f o a e||chkOnef f o a e||chkOneg f o a e
noncomputable def chkTwoa (o:Op2) (a b:E) (e:Expr):Bool:=onBin e fun x op y _=>binB o op&&f a x&&f b y
noncomputable def chkTwob (o:Op2) (a b:E) (e:Expr):Bool:=onCmp e fun x os ys _=>on1 os fun op=>on1 ys fun y=>cmpB o op&&!behindInMarks op y&&f a x&&f b y
noncomputable def chkTwoc (o:Op2) (a b:E) (e:Expr):Bool:=onSub e fun x y _=>o==.ix&&ixE y&&f a x&&f b y
noncomputable def conE:E→Option PV
 | .con p=>some p
 | _=>none
noncomputable def chkTwod (o:Op2) (a b:E) (e:Expr):Bool:=onCall e fun g as pos=>onAttr g fun v m apos=>on1 as fun y=>onConst v fun c _ _=>onStr c fun s=>o==.join&&m=="join"&&(conE a).any (fun p=>pvB p (.str s))&&PyData.strOk s&&decide (s.length≤16777216)&&plainE y&&apos.endLine==pos.line&&f b y
noncomputable def kvsB:List PV→E→List (PV×PV)→Bool
 | [],.nil,[]=>true
 | k::ks,.cons (.con p) r,kv::kvs=>pvB k kv.1&&pvB p kv.2&&kvsB ks r kvs
 | _,_,_=>false
noncomputable def dctE:E→Option (List PV×E)
 | .dct ks vs=>some (ks,vs)
 | _=>none
noncomputable def chkTwoe (o:Op2) (a b:E) (e:Expr):Bool:=onSub e fun v y _=>onName v fun x _=>o==.ix&&ixE y&&glB nm x&&(dctE a).any (fun kv=>Gam.dcts.any fun d=>d.1==x&&kvsB kv.1 kv.2 d.2)&&f b y
noncomputable def chkTwof (o:Op2) (a b:E) (e:Expr):Bool:=onCall e fun g as pos=>onAttr g fun v m apos=>on1 as fun y=>onName v fun x p=>o==.split&&m=="split"&&plainE y&&apos.endLine==pos.line&&f a (.Name x p)&&f b y
noncomputable def chkTwog (o:Op2) (a b:E) (e:Expr):Bool:=onCmp e fun x os ys _=>on1 os fun op=>on1 ys fun y=>onName y fun z _=>((o==.din&&decide (op=.In))||(o==.dni&&decide (op=.NotIn)))&&glB nm z&&(dctE b).any (fun kv=>Gam.dcts.any fun d=>d.1==z&&kvsB kv.1 kv.2 d.2)&&f a x
noncomputable def chkOp2 (o:Op2) (a b:E) (e:Expr):Bool:=chkTwoa f o a b e||chkTwob f o a b e||chkTwoc f o a b e||chkTwod f o a b e||chkTwoe Gam nm f o a b e||chkTwof f o a b e||chkTwog Gam nm f o a b e
noncomputable def chkP:E→Option Expr→Bool
 | ie,some e=>!isPeek ie&&f ie e
 | .con .none,none=>true
 | _,none=>false
noncomputable def chkSl (a lo hi:E) (e:Expr):Bool:=onSub e fun x sl _=>onSlice sl fun l h st _=>st.isNone&&f a x&&chkP f lo l&&chkP f hi h
noncomputable def chkCall (id:Nat) (a:E) (e:Expr):Bool:=onCall e fun g as _=>onName g fun x _=>onCons as fun y ys=>glB nm x&&plainE y&&ys.all plainE&&chkA f a (y::ys)&&Gam.fns.any fun r=>r.1==x&&r.2.1==id&&argN a==some r.2.2
noncomputable def chkAnd (a b:E) (e:Expr):Bool:=onBool e fun o xs _=>o==.And&&chkB f .And (.and a b) xs
noncomputable def chkOr (a b:E) (e:Expr):Bool:=onBool e fun o xs _=>o==.Or&&chkB f .Or (.or a b) xs
noncomputable def chkNot (a:E) (e:Expr):Bool:=onUn e fun u x _=>isNotU u&&f a x
noncomputable def chkIte (c a b:E) (e:Expr):Bool:=false&&(onIfE e fun t x y _=>f c t&&f a x&&f b y&&!isPeek a&&!isPeek b)
noncomputable def chkChain (o o':Op2) (a b c:E) (e:Expr):Bool:=false&&(onCmp e fun x os ys _=>on2 os fun op op'=>on2 ys fun y z=>cmpB o op&&cmpB o' op'&&!lastMarks [op,op'] [y,z]&&f a x&&f b y&&f c z)
noncomputable def chkDct (ks:List PV) (a:E) (e:Expr):Bool:=false&&(onDict e fun es vs _=>chkD f ks a es vs&&decide (ks.map keyOf).Nodup&&!ks.isEmpty&&decide (ks.length≤15))
noncomputable def plainObj:Expr→Bool
 | .Dict ..=>true
 | .Name ..=>true
 | _=>false
noncomputable def chkDgt (a k d:E) (e:Expr):Bool:=false&&(onCall e fun g as pos=>onAttr g fun o m apos=>on2 as fun e1 e2=>m=="get"&&plainObj o&&plainE e1&&plainE e2&&apos.endLine==pos.line&&!isPeek d&&f a o&&f k e1&&f d e2)
noncomputable def chkLrep (a n:E) (e:Expr):Bool:=false&&(onBin e fun l op e2 _=>onList l fun es _=>decide (op=.Mult)&&chkA f a es&&(argN a).any (·≤1000)&&!isPeek n&&f n e2)
noncomputable def notSet:Expr→Bool
 | .Set ..=>false
 | _=>true
noncomputable def enmE:E→Option E
 | .op1 o a=>if o==.enum then some a else none
 | _=>none
noncomputable def chkIa (ie:E) (e:Expr):Bool:=onSo (rngE ie) fun a=>onCall e fun g as _=>onName g fun x _=>on1 as fun y=>bltB Gam nm x "range"&&!isPeek a&&plainE y&&f a y
noncomputable def chkIb (tgt:Expr) (ie:E) (e:Expr):Bool:=false&&(onSo (enmE ie) fun a=>onCall e fun g as _=>onName g fun x _=>on1 as fun y=>onTup tgt (fun _ _ _=>true)&&bltB Gam nm x "enumerate"&&!isPeek a&&plainE y&&f a y)
noncomputable def chkI (tgt:Expr) (ie:E) (e:Expr):Bool:=chkIa Gam nm f ie e||chkIb Gam nm f tgt ie e||(!isPeek ie&&notSet e&&f ie e)
noncomputable def relB (nm:Nms) (names:Nms):Nms:=names.map fun (n,k)=>if (k==.free&&nm.lookup n==some .cell) then (n,NameKind.cell) else (n,k)
noncomputable def tgNames:Option Nat→Expr→Option (List Str)
 | none,.Name x _=>some [x]
 | some n,.Tuple es _ _=>if es.length=n then (es.mapM fun e=>match e with | .Name x _=>some x | _=>none) else none
 | _,_=>none
noncomputable def scopeB (own:List Str) (caps:List Nat) (scope:Scope):Bool:=
 scope.kind==.function&&scope.names.all (fun x=>x.2 != .cell||scope.names.lookup x.1==some .cell)&&scope.names.all (fun x=>x.2 != .local||scope.names.lookup x.1==some .local) &&
 scope.names.all (fun x=>x.2 != .free||nm.lookup x.1==some .cell||nm.lookup x.1==some .free) &&
 caps.all (fun j=>match N[j]? with | some y=>visB nm y&&scope.names.lookup y==some .free | none=>false)&&decide caps.Nodup &&
 own.all (fun x=>(scope.names.lookup x==some .local||scope.names.lookup x==some .cell)&&okN x)&&decide (own++caps.map fun j=>N.getD j "").Nodup
noncomputable def isTrueC:E→Bool
 | .con (.bool true)=>true
 | _=>false
noncomputable def chkComp (g:List Str→Nms→E→Expr→Bool) (tg:Option Nat) (caps:List Nat) (it cond elt:E) (e:Expr):Bool:=onLC e fun y gs scope _=>on1 gs fun q=>onSo (tgNames tg q.target) fun own=>
  q.is_async==0&&scopeB N nm own caps scope&&notSet q.iter&&chkI Gam nm f q.target it q.iter&&!isPeek elt &&
   g (own++caps.map fun j=>N.getD j "") (relB nm scope.names) elt y &&
   ((q.ifs.isEmpty&&isTrueC cond)||on1 q.ifs fun c=>g (own++caps.map fun j=>N.getD j "") (relB nm scope.names) cond c)
end
noncomputable def chkE (Gam:Info):Nat→List Str→Nms→E→Expr→Bool
 | 0,_,_,_,_=>false
 | n+1,N,nm,ie,e=>match ie with
  | .var i=>chkVar N nm i e
  | .peek i=>chkVar N nm i e
  | .con p=>chkCon Gam nm p e
  | .nil=>false
  | .cons _ _=>false
  | .tup a=>chkTup (chkE Gam n N nm) a e
  | .lst a=>chkLst (chkE Gam n N nm) a e
  | .op1 o a=>chkOp1 Gam nm (chkE Gam n N nm) o a e
  | .op2 o a b=>chkOp2 Gam nm (chkE Gam n N nm) o a b e
  | .sl a lo hi=>chkSl (chkE Gam n N nm) a lo hi e
  | .call f a=>chkCall Gam nm (chkE Gam n N nm) f a e
  | .and a b=>chkAnd (chkE Gam n N nm) a b e
  | .or a b=>chkOr (chkE Gam n N nm) a b e
  | .not a=>chkNot (chkE Gam n N nm) a e
  | .ite c a b=>chkIte (chkE Gam n N nm) c a b e
  | .chain o o' a b c=>chkChain (chkE Gam n N nm) o o' a b c e
  | .comp tg caps it cond elt=>chkComp Gam N nm (chkE Gam n N nm) (chkE Gam n) tg caps it cond elt e
  | .rng _=>false
  | .rng2 _ _=>false
  | .dct ks a=>chkDct (chkE Gam n N nm) ks a e
  | .dgt a k d=>chkDgt (chkE Gam n N nm) a k d e
  | .lrep a k=>chkLrep (chkE Gam n N nm) a k e
  | .skey _ _ _=>false
  | .prm _=>false
theorem conE_of {a:E} {p:PV} (h:conE a=some p):a=.con p:=by
 cases a with
 | con q=>cases (show some q=some p from h);rfl
 | _=>exact nomatch (show none=some p from h)
theorem dctE_of {a:E} {p:List PV×E} (h:dctE a=some p):a=.dct p.1 p.2:=by
 cases a with
 | dct ks vs=>cases (show some (ks,vs)=some p from h);rfl
 | _=>exact nomatch (show none=some p from h)
theorem rngE_of {ie a:E} (h:rngE ie=some a):ie=.rng a:=by
 cases ie with
 | rng b=>cases (show some b=some a from h);rfl
 | _=>exact nomatch (show none=some a from h)
theorem isTrueC_of {e:E} (h:isTrueC e=true):e=.con (.bool true):=by
 cases e with
 | con p=>
  cases p with
  | bool b=>
   cases b with
   | true=>rfl
   | false=>exact nomatch (show false=true from h)
  | _=>exact nomatch (show false=true from h)
 | _=>exact nomatch (show false=true from h)
section
variable {X:Cx} {cf:CF} {k:Nat} {Gam:Info} {f:E→Expr→Bool}
theorem Good.units (g:Good X k cf Gam):X.A.units+190<cLine:=by have:=g.room.un;lia
theorem ok_var {i:Nat} {e:Expr} (h:chkVar X.N X.env.scope.names i e=true):Snd X cf (.var i) e∧Snd X cf (.peek i) e:=by
 refine onName_el h fun x pos h=>?_
 simp only [Bool.and_eq_true,beq_iff_eq] at h
 obtain ⟨⟨h1,h2⟩,h3⟩:=h
 obtain ⟨o1,o2,o3⟩:=okN_of h3
 exact ⟨snd_var h1 (visB_of h2) o1 o2,snd_peek h1 (visB_of h2) o1 o2⟩
theorem glB_of {x:Str} (h:glB X.env.scope.names x=true):Gl X x∧(x==("__debug__":Str))=false∧x≠"__name__":=by
 simp only [glB,Bool.and_eq_true,beq_iff_eq] at h
 obtain ⟨o1,o2,o3⟩:=okN_of h.2
 exact ⟨h.1,o1,o3⟩
theorem bltB_of (g:Good X k cf Gam) {x y:Str} (h:bltB Gam X.env.scope.names x y=true):x=y∧Gl X x∧(x==("__debug__":Str))=false∧x≠"__name__"∧X.mg x=none:=by
 simp only [bltB,Bool.and_eq_true,beq_iff_eq] at h
 obtain ⟨⟨h1,h2⟩,h3⟩:=h
 obtain ⟨a,b,c⟩:=glB_of h2
 exact ⟨h1,a,b,c,g.blts x (by simpa using h3)⟩
theorem ok_con (g:Good X k cf Gam) {p:PV} {e:Expr} (h:chkCon Gam X.env.scope.names p e=true):Snd X cf (.con p) e:=by
 rcases (Bool.or_eq_true _ _).mp h with h | h
 ·refine onConst_el h fun c j pos h'=>?_
  refine .plain ?_ (fun _=>rfl)
  cases c with
  | none=>cases pvB_eq (show pvB p .none=true from h');exact pe_con pe_non fun G=>rfl
  | bool b=>cases pvB_eq (show pvB p (.bool b)=true from h');exact pe_con pe_bl fun G=>rfl
  | int i=>cases pvB_eq (show pvB p (.int i)=true from h');exact pe_con pe_int fun G=>rfl
  | str x=>
   have h':(pvB p (.str x)&&PyData.strOk x&&decide (x.length≤16777216))=true:=h'
   simp only [Bool.and_eq_true,decide_eq_true_eq] at h'
   cases pvB_eq h'.1.1
   exact pe_con pe_str fun G=>⟨rfl,h'.1.2,h'.2⟩
  | float b=>cases h'
  | complex a b=>cases h'
  | bytes b=>cases h'
  | ellipsis=>cases h'
 ·refine onName_el h fun x pos h=>?_
  simp only [Bool.and_eq_true,List.any_eq_true,beq_iff_eq] at h
  obtain ⟨h1,c,hc,rfl,h3⟩:=h
  obtain ⟨gl,o1,o3⟩:=glB_of h1
  obtain ⟨u,v,hm,r,rp⟩:=g.consts c.1 c.2 hc
  rw [pvB_eq h3] at rp
  exact .plain (pe_con (pe_glob gl hm r o1) rp) (fun _=>rfl)
theorem kvs_run {cf:CF} {ρ:Env}:∀ (ks:List PV) (vs:E) (kvs:List (PV×PV)) (r:PV),kvsB ks vs kvs=true→evE cf vs ρ=some r→∃ xs,r=.tuple xs∧ks.zip xs=kvs:=by
 intro ks
 induction ks with
 | nil=>
  intro vs kvs r h e
  cases vs with
  | nil=>
   cases kvs with
   | nil=>exact ⟨[],(Option.some.inj e).symm,rfl⟩
   | cons _ _=>exact nomatch (show false=true from h)
  | _=>exact nomatch (show false=true from h)
 | cons k ks ih=>
  intro vs kvs r h e
  cases vs with
  | cons a t=>
   cases a with
   | con p=>
    cases kvs with
    | nil=>exact nomatch (show false=true from h)
    | cons kv kvs=>
     have h:(pvB k kv.1&&pvB p kv.2&&kvsB ks t kvs)=true:=h
     rw [Bool.and_eq_true,Bool.and_eq_true] at h
     obtain ⟨y,e3,e4⟩:=bnd_eq.mp (show bnd (evE cf t ρ) (consF p)=some r from e)
     obtain ⟨xs,rfl,e5⟩:=ih t kvs y h.2 e3
     cases (show some (PyData.tuple (p::xs))=some r from e4)
     refine ⟨_,rfl,?_⟩
     rw [List.zip_cons_cons,e5,pvB_eq h.1.1,pvB_eq h.1.2]
   | _=>exact nomatch (show false=true from h)
  | _=>exact nomatch (show false=true from h)
theorem snd_dix (hu:X.A.units+190<cLine) {x:Str} {ks:List PV} {vs ib:E} {kvs:List (PV×PV)} {b:Expr} {p pos:Pos} (hg:Gl X x) (hd:(x==("__debug__":Str))=false) (hT:TopD X x kvs) (hk:kvsB ks vs kvs=true) (hb:PE X b (tE cf X.K ib)) (hs:ixE b=true):
  Snd X cf (.op2 .ix (.dct ks vs) ib) (.Subscript (.Name x p) b pos):=by
 obtain ⟨a,l,us,hm,_,rd,kv,dd⟩:=hT
 have hr:IxR X (fun x y H Q=>x=.ref a∧∃ key w,y=kV key∧valV l key=some w∧Q w H):=by
  intro value slice pins s σ H x y v u Q I rx ry h hs
  obtain ⟨rfl,key,w,rfl,hw,q⟩:=h
  cases (show v=Value.ref a from rx)
  have D:=dd s.heap I.kIn
  obtain ⟨w',hw',rw'⟩:=RelO.some_of (v:=w) (o:=valueAt us key) (by rw [← hw];exact kv.val key)
  exact subTail_of PySem.F.slot_dict_getitem.lookup hs D.typeIs (wpAny_getItem_of (kV_is ry) D.mapOf hw' ⟨w,H,I.tok _,rw',q⟩)
 refine .plain ((pe_ix hr (pe_glob (v:=.ref a) hg hm rfl hd) hb (plainIx hs)).weak fun σ H Q ⟨G,ρ,r,S,e,k⟩=>?_) (fun _=>rfl)
 obtain ⟨x1,e1,e2⟩:=bnd_eq.mp (show bnd (bnd (evE cf vs ρ) (dctF ks)) (fun x=>bnd (evE cf ib ρ) fun y=>opF2 .ix x y)=some r from e)
 obtain ⟨x2,e3,e4⟩:=bnd_eq.mp e1
 obtain ⟨xs,rfl,ez⟩:=kvs_run _ _ _ _ hk e3
 obtain ⟨_,e5⟩:=tst_none (show DD.tst (anyD xs||ks.length != xs.length) none (some (PyData.dict (ks.zip xs)))=some x1 from e4)
 cases e5
 rw [ez] at e2
 obtain ⟨y,e6,e7⟩:=bnd_eq.mp e2
 refine ⟨G,ρ,y,S,e6,fun v G1 H1 x1 r1=>?_⟩
 obtain ⟨e8,e9⟩:=tst_some (show tst (isKey y) (dlook y kvs) none=some r from e7)
 obtain ⟨key,hkey⟩:=isKey_of e8
 obtain ⟨w,ew,_,rw'⟩:=(dlook_rel hkey (rd G1)).1 r e9
 exact ⟨rfl,key,w,key_V hkey (r1.rk x1.gh),ew,k w G1 H1 x1 (.of rfl rw')⟩
theorem snd_din {x:Str} {ks:List PV} {vs ia:E} {kvs:List (PV×PV)} {a:Expr} {o:Op2} {op:CmpOp} {p pos:Pos} (hg:Gl X x) (hd:(x==("__debug__":Str))=false) (hT:TopD X x kvs) (hk:kvsB ks vs kvs=true) (ha:PE X a (tE cf X.K ia))
  (ho:(o=.din∧op=.In)∨(o=.dni∧op=.NotIn)):Snd X cf (.op2 o ia (.dct ks vs)) (.Compare a [op] [.Name x p] pos):=by
 obtain ⟨ad,l,us,hm,hsys,rd,kv,dd⟩:=hT
 have hb:PE X (.Name x p) (tC (.ref ad)):=pe_glob (v:=.ref ad) hg hm rfl hd
 have hr:OpR X (compareOp op) (fun x y H Q=>y=.ref ad∧∃ key,x=kV key∧Q (.bl (if o=.din then (valV l key).isSome else !(valV l key).isSome)) H):=by
  intro pins s σ H x y v u Q I rx ry h
  obtain ⟨rfl,key,rfl,q⟩:=h
  cases (show u=Value.ref ad from ry)
  have D:=dd s.heap I.kIn
  rcases ho with ⟨rfl,rfl⟩ | ⟨rfl,rfl⟩
  ·refine wpAny_in_of (kV_is rx) hsys D.mapOf ?_
   rw [← (kv.val key).isSome_eq]
   exact ⟨.bl _,H,I.tok _,rfl,q⟩
  ·refine wpAny_notIn_of (kV_is rx) hsys D.mapOf ?_
   rw [← (kv.val key).isSome_eq]
   exact ⟨.bl _,H,I.tok _,rfl,q⟩
 have hmk:behindInMarks op (.Name x p)=false:=by rcases ho with ⟨_,rfl⟩ | ⟨_,rfl⟩ <;> rfl
 have w:∀ σ H Q,(∃ G ρ r,SR X.K G H σ ρ∧evE cf (.op2 o ia (.dct ks vs)) ρ=some r∧∀ v G' H',Ext G H G' H'→Rp X.K G' r v→Q v H')→
   tOp (fun x y H Q=>y=.ref ad∧∃ key,x=kV key∧Q (.bl (if o=.din then (valV l key).isSome else !(valV l key).isSome)) H) (tE cf X.K ia) (tC (.ref ad)) σ H Q:=fun σ H Q ⟨G,ρ,r,S,e,k⟩=>by
  obtain ⟨y,e6,e2⟩:=bnd_eq.mp (show bnd (evE cf ia ρ) (fun x=>bnd (bnd (evE cf vs ρ) (dctF ks)) fun y=>opF2 o x y)=some r from e)
  obtain ⟨x1,e1,e7⟩:=bnd_eq.mp e2
  obtain ⟨x2,e3,e4⟩:=bnd_eq.mp e1
  obtain ⟨xs,rfl,ez⟩:=kvs_run _ _ _ _ hk e3
  obtain ⟨_,e5⟩:=tst_none (show DD.tst (anyD xs||ks.length != xs.length) none (some (PyData.dict (ks.zip xs)))=some x1 from e4)
  cases e5
  rw [ez] at e7
  refine ⟨G,ρ,y,S,e6,fun v G1 H1 x1 r1=>⟨rfl,?_⟩⟩
  have fin:∀ b,dinB y (.dict kvs)=some b→∃ key,v=kV key∧(valV l key).isSome=b:=fun b hb=>by
   obtain ⟨e8,e9⟩:=tst_some (show tst (isKey y) (some (dlook y kvs).isSome) none=some b from hb)
   cases e9
   obtain ⟨key,hkey⟩:=isKey_of e8
   refine ⟨key,key_V hkey (r1.rk x1.gh),?_⟩
   cases hl:dlook y kvs with
   | some q=>
    obtain ⟨w',ew,_⟩:=(dlook_rel hkey (rd G1)).1 q hl
    rw [ew];rfl
   | none=>
    rw [(dlook_rel hkey (rd G1)).2 hl];rfl
  rcases ho with ⟨rfl,rfl⟩ | ⟨rfl,rfl⟩
  ·obtain ⟨b,e8,e9⟩:=bnd_eq.mp (show bnd (dinB y (.dict kvs)) (fun b=>some (PyData.bool b))=some r from e7)
   cases e9
   obtain ⟨key,ev,eb⟩:=fin b e8
   refine ⟨key,ev,?_⟩
   rw [if_pos rfl,eb]
   exact k _ G1 H1 x1 rfl
  ·obtain ⟨b,e8,e9⟩:=bnd_eq.mp (show bnd (dinB y (.dict kvs)) (fun b=>some (PyData.bool (!b)))=some r from e7)
   cases e9
   obtain ⟨key,ev,eb⟩:=fin b e8
   refine ⟨key,ev,?_⟩
   rw [if_neg (by decide),eb]
   exact k _ G1 H1 x1 rfl
 refine ⟨(pe_cmpR hr ha hb hmk).weak fun σ H Q ⟨G,ρ,r,S,e,k⟩=>w σ H Q ⟨G,ρ,r,S,e,fun v G' H' x rv=>k v G' H' x (.of rfl rv)⟩,(pt_cmpR hr ha hb hmk).weak fun σ H Q ⟨G,ρ,r,t,S,e,et,k⟩=>?_⟩
 refine w σ H (fun x H'=>∃ c,x=.bl c∧Q c H') ⟨G,ρ,r,S,e,fun v G' H' x rv=>?_⟩
 obtain ⟨y,e6,e2⟩:=bnd_eq.mp (show bnd (evE cf ia ρ) (fun x=>bnd (bnd (evE cf vs ρ) (dctF ks)) fun y=>opF2 o x y)=some r from e)
 obtain ⟨x1,e1,e7⟩:=bnd_eq.mp e2
 have hbool:∃ b,r=.bool b:=by
  rcases ho with ⟨rfl,rfl⟩ | ⟨rfl,rfl⟩
  ·obtain ⟨b,_,e9⟩:=bnd_eq.mp (show bnd (dinB y x1) (fun b=>some (PyData.bool b))=some r from e7)
   cases e9;exact ⟨_,rfl⟩
  ·obtain ⟨b,_,e9⟩:=bnd_eq.mp (show bnd (dinB y x1) (fun b=>some (PyData.bool (!b)))=some r from e7)
   cases e9;exact ⟨_,rfl⟩
 obtain ⟨b,rfl⟩:=hbool
 have et':b=t:=Option.some.inj et
 subst et'
 cases (show v=.bl b from rv)
 exact ⟨b,rfl,k G' H' x⟩
theorem isi_tuple:CallR X (.builtin "isinstance") (rIsi X.K .isTup "tuple"):=
 isi_ok (fun b e=>by cases e;rfl) (fun c b e=>by cases e;rfl) (fun c b e=>by cases e;rfl) (fun c b e=>by cases e;rfl) (fun c b e=>by cases e;rfl) (fun c b e=>by cases e;rfl) (fun p r e=>by cases p <;> first | (cases e;exact ⟨_,rfl⟩) | cases e) fun kvs r e=>by cases e
theorem isi_str:CallR X (.builtin "isinstance") (rIsi X.K .isStr "str"):=
 isi_ok (fun b e=>by cases e;rfl) (fun c b e=>by cases e;rfl) (fun c b e=>by cases e;rfl) (fun c b e=>by cases e;rfl) (fun c b e=>by cases e;rfl) (fun c b e=>by cases e;rfl) (fun p r e=>by cases p <;> first | (cases e;exact ⟨_,rfl⟩) | cases e) fun kvs r e=>by cases e
variable (IH:∀ ie e,f ie e=true→Snd X cf ie e)
include IH
theorem ok_args:∀ {a:E} {es:List Expr},chkA f a es=true→PA X es (tA cf X.K a)∧∃ n,argN a=some n∧n=es.length:=by
 intro a
 induction a with
 | nil=>
  intro es hc
  cases es with
  | nil=>exact ⟨snd_nil,0,rfl,rfl⟩
  | cons _ _=>exact nomatch (show false=true from hc)
 | cons h t _ iht=>
  intro es hc
  cases es with
  | nil=>exact nomatch (show false=true from hc)
  | cons e es=>
   have hc':(!isPeek h&&plainE e&&f h e&&chkA f t es)=true:=hc
   simp only [Bool.and_eq_true,Bool.not_eq_true'] at hc'
   obtain ⟨⟨⟨h1,h2⟩,h3⟩,h4⟩:=hc'
   obtain ⟨p,n,hn,hl⟩:=iht h4
   exact ⟨snd_cons (IH h e h3).pe p h1 h2,n+1,by rw [argN,hn];rfl,congrArg (·+1) hl⟩
 | _=>exact fun hc=>nomatch (show false=true from hc)
theorem ok_tup {a:E} {e:Expr} (h:chkTup f a e=true):Snd X cf (.tup a) e:=by
 refine onTup_el h fun es j pos h=>?_
 rw [Bool.and_eq_true] at h
 obtain ⟨p,n,hn,_⟩:=ok_args IH h.1
 rw [hn] at h
 exact snd_tup p hn (by simpa using h.2)
theorem ok_lst {a:E} {e:Expr} (h:chkLst f a e=true):Snd X cf (.lst a) e:=by
 refine onList_el h fun es pos h=>?_
 rw [Bool.and_eq_true] at h
 obtain ⟨p,n,hn,_⟩:=ok_args IH h.1
 rw [hn] at h
 exact snd_lst p hn (by simpa using h.2)
theorem cmp_ok (g:Good X k cf Gam) {o:Op2} {op:CmpOp} (h:cmpB o op=true):OpR X (compareOp op) (rOp2 X.K o)∧∀ p q r,opF2 o p q=some r→∃ b,r=.bool b:=by
 have hu:=g.units
 have bl:∀ (x:Option Bool) (f:Bool→Bool) (r:PV),bnd x (fun b=>some (PyData.bool (f b)))=some r→∃ b,r=.bool b:=fun x f r e=>by
  obtain ⟨b,_,e2⟩:=bnd_eq.mp e
  cases e2
  exact ⟨_,rfl⟩
 have ci:∀ (f:Int→Int→Bool) (p q r:PV),cmpI f p q=some r→∃ b,r=.bool b:=fun f p q r e=>by
  cases p with
  | int i=>cases q with
   | int j=>exact ⟨_,(Option.some.inj e).symm⟩
   | _=>exact nomatch (show none=some r from e)
  | _=>exact nomatch (show none=some r from e)
 have h':cmpO o=some op:=of_decide_eq_true h
 cases o with
 | eq=>cases (show some CmpOp.Eq=some op from h');exact ⟨s_eq hu,fun p q r e=>bl _ id r e⟩
 | ne=>cases (show some CmpOp.NotEq=some op from h');exact ⟨s_ne hu,fun p q r e=>bl _ not r e⟩
 | inn=>cases (show some CmpOp.In=some op from h');exact ⟨s_in hu,fun p q r e=>bl _ id r e⟩
 | nin=>cases (show some CmpOp.NotIn=some op from h');exact ⟨s_nin hu,fun p q r e=>bl _ not r e⟩
 | le=>cases (show some CmpOp.LtE=some op from h');exact ⟨s_le,fun p q r e=>ci _ p q r e⟩
 | gt=>cases (show some CmpOp.Gt=some op from h');exact ⟨s_gt,fun p q r e=>ci _ p q r e⟩
 | ge=>cases (show some CmpOp.GtE=some op from h');exact ⟨s_ge,fun p q r e=>ci _ p q r e⟩
 | lt=>
  cases (show some CmpOp.Lt=some op from h')
  refine ⟨s_lt hu,fun p q r e=>?_⟩
  cases p with
  | int i=>cases q with
   | int j=>exact ⟨_,(Option.some.inj e).symm⟩
   | _=>exact nomatch (show none=some r from e)
  | _=>exact nomatch (show none=some r from e)
 | _=>cases h'
theorem ok_twoa {o:Op2} {a b:E} {e:Expr} (h:chkTwoa f o a b e=true):Snd X cf (.op2 o a b) e:=by
 refine onBin_el h fun x op y pos h=>?_
 simp only [Bool.and_eq_true] at h
 obtain ⟨⟨h1,h2⟩,h3⟩:=h
 have A:=(IH a x h2).pe
 have B:=(IH b y h3).pe
 have h':binO o=some op:=of_decide_eq_true h1
 cases o with
 | add=>cases (show some Operator.Add=some op from h');exact snd_bin s_add A B
 | sub=>cases (show some Operator.Sub=some op from h');exact snd_bin s_sub A B
 | fdiv=>cases (show some Operator.FloorDiv=some op from h');exact snd_bin s_fdiv A B
 | mod=>cases (show some Operator.Mod=some op from h');exact snd_bin s_mod A B
 | mul=>cases (show some Operator.Mult=some op from h');exact snd_bin s_mul A B
 | _=>exact nomatch (show none=some op from h')
theorem ok_twob (g:Good X k cf Gam) {o:Op2} {a b:E} {e:Expr} (h:chkTwob f o a b e=true):Snd X cf (.op2 o a b) e:=by
 refine onCmp_el h fun x os ys pos h=>?_
 refine on1_el h fun op h=>?_
 refine on1_el h fun y h=>?_
 simp only [Bool.and_eq_true,Bool.not_eq_true'] at h
 obtain ⟨⟨⟨h1,h2⟩,h3⟩,h4⟩:=h
 obtain ⟨c1,c2⟩:=cmp_ok IH g h1
 exact snd_cmp c1 c2 (IH a x h3).pe (IH b y h4).pe h2
theorem ok_twoc (g:Good X k cf Gam) {o:Op2} {a b:E} {e:Expr} (h:chkTwoc f o a b e=true):Snd X cf (.op2 o a b) e:=by
 refine onSub_el h fun x y pos h=>?_
 simp only [Bool.and_eq_true,beq_iff_eq] at h
 obtain ⟨⟨⟨h1,h2⟩,h3⟩,h4⟩:=h
 subst h1
 exact snd_ix g.units (IH a x h3).pe (IH b y h4).pe h2
theorem ok_twod {o:Op2} {a b:E} {e:Expr} (h:chkTwod f o a b e=true):Snd X cf (.op2 o a b) e:=by
 refine onCall_el h fun g as pos h=>?_
 refine onAttr_el h fun v m apos h=>?_
 refine on1_el h fun y h=>?_
 refine onConst_el h fun c j p0 h=>?_
 refine onStr_el h fun s h=>?_
 simp only [Bool.and_eq_true,beq_iff_eq,decide_eq_true_eq] at h
 obtain ⟨⟨⟨⟨⟨⟨⟨h1,h2⟩,h3⟩,h4⟩,h5⟩,h6⟩,h7⟩,h8⟩:=h
 subst h1 h2
 cases hc:conE a with
 | none=>rw [hc] at h3;exact nomatch (show false=true from h3)
 | some p=>
  rw [hc] at h3
  cases conE_of hc
  cases pvB_eq (show pvB p (.str s)=true from h3)
  exact snd_join h4 h5 (IH b y h8).pe h6 (by rw [h7];simp)
theorem ok_twoe (g:Good X k cf Gam) {o:Op2} {a b:E} {e:Expr} (h:chkTwoe Gam X.env.scope.names f o a b e=true):Snd X cf (.op2 o a b) e:=by
 refine onSub_el h fun v y pos h=>?_
 refine onName_el h fun x p h=>?_
 simp only [Bool.and_eq_true,beq_iff_eq] at h
 obtain ⟨⟨⟨⟨h1,h2⟩,h5⟩,h3⟩,h4⟩:=h
 subst h1
 cases hc:dctE a with
 | none=>rw [hc] at h3;exact nomatch (show false=true from h3)
 | some kv=>
  rw [hc] at h3
  cases dctE_of hc
  obtain ⟨d,hd,h6⟩:=List.any_eq_true.mp (show (Gam.dcts.any fun d=>d.1==x&&kvsB kv.1 kv.2 d.2)=true from h3)
  simp only [Bool.and_eq_true,beq_iff_eq] at h6
  obtain ⟨rfl,h7⟩:=h6
  obtain ⟨gl,o1,o3⟩:=glB_of h5
  exact snd_dix g.units gl o1 (g.dcts d.1 d.2 hd) h7 (IH b y h4).pe h2
theorem ok_twof (g:Good X k cf Gam) {o:Op2} {a b:E} {e:Expr} (h:chkTwof f o a b e=true):Snd X cf (.op2 o a b) e:=by
 refine onCall_el h fun g1 as pos h=>?_
 refine onAttr_el h fun v m apos h=>?_
 refine on1_el h fun y h=>?_
 refine onName_el h fun x p h=>?_
 simp only [Bool.and_eq_true,beq_iff_eq] at h
 obtain ⟨⟨⟨⟨⟨rfl,rfl⟩,h3⟩,h4⟩,h5⟩,h6⟩:=h
 exact snd_split (IH _ _ h5).pe (IH _ _ h6).pe h3 rfl (by rw [h4];simp)
theorem ok_twog (g:Good X k cf Gam) {o:Op2} {a b:E} {e:Expr} (h:chkTwog Gam X.env.scope.names f o a b e=true):Snd X cf (.op2 o a b) e:=by
 refine onCmp_el h fun y os cs pos h=>?_
 refine on1_el h fun op h=>?_
 refine on1_el h fun c h=>?_
 refine onName_el h fun x p h=>?_
 simp only [Bool.and_eq_true,Bool.or_eq_true,beq_iff_eq,decide_eq_true_eq] at h
 obtain ⟨⟨⟨h1,h2⟩,h3⟩,h4⟩:=h
 cases hc:dctE b with
 | none=>rw [hc] at h3;exact nomatch (show false=true from h3)
 | some kv=>
  rw [hc] at h3
  cases dctE_of hc
  obtain ⟨d,hd,h6⟩:=List.any_eq_true.mp (show (Gam.dcts.any fun d=>d.1==x&&kvsB kv.1 kv.2 d.2)=true from h3)
  simp only [Bool.and_eq_true,beq_iff_eq] at h6
  obtain ⟨rfl,h7⟩:=h6
  obtain ⟨gl,o1,o3⟩:=glB_of h2
  rcases h1 with ⟨rfl,rfl⟩ | ⟨rfl,rfl⟩
  ·exact snd_din gl o1 (g.dcts d.1 d.2 hd) h7 (IH a y h4).pe (.inl ⟨rfl,rfl⟩)
  ·exact snd_din gl o1 (g.dcts d.1 d.2 hd) h7 (IH a y h4).pe (.inr ⟨rfl,rfl⟩)
theorem ok_op2 (g:Good X k cf Gam) {o:Op2} {a b:E} {e:Expr} (h:chkOp2 Gam X.env.scope.names f o a b e=true):Snd X cf (.op2 o a b) e:=by
 have h':(chkTwoa f o a b e||chkTwob f o a b e||chkTwoc f o a b e||chkTwod f o a b e||chkTwoe Gam X.env.scope.names f o a b e||chkTwof f o a b e||chkTwog Gam X.env.scope.names f o a b e)=true:=h
 simp only [Bool.or_eq_true] at h'
 rcases h' with (((((h | h) | h) | h) | h) | h) | h
 ·exact ok_twoa IH h
 ·exact ok_twob IH g h
 ·exact ok_twoc IH g h
 ·exact ok_twod IH h
 ·exact ok_twoe IH g h
 ·exact ok_twof IH g h
 ·exact ok_twog IH g h
theorem ok_sset (g:Good X k cf Gam) {x:Str} {a:E} {y:Expr} {p pos:Pos} (h:chkSset Gam X.env.scope.names f x a y=true):Snd X cf (.op1 .sset a) (.Call (.Name x p) [y] [] pos):=nomatch (show false=true from h)
theorem ok_onea (g:Good X k cf Gam) {o:Op1} {a:E} {e:Expr} (h:chkOnea Gam X.env.scope.names f o a e=true):Snd X cf (.op1 o a) e:=by
 refine onCall_el h fun g1 as pos h=>?_
 refine onName_el h fun x p h=>?_
 refine on1_el h fun y hq=>?_
 clear h
 by_cases ho:(o==.sset)=true
 ·rw [if_pos ho] at hq
  cases eq_of_beq ho
  exact ok_sset IH g hq
 rw [if_neg ho] at hq
 simp only [Bool.and_eq_true] at hq
 obtain ⟨⟨h1,h2⟩,h3⟩:=hq
 have A:=(IH a y h3).pe
 cases hb:bltFn o with
 | none=>rw [hb] at h1;cases h1
 | some z=>
  rw [hb] at h1
  obtain ⟨rfl,gl,o1,o3,hm⟩:=bltB_of g (show bltB Gam X.env.scope.names x z=true from h1)
  cases o with
  | len=>cases (show some ("len":Str)=some x from hb);exact snd_callB s_len gl hm boot_len o3 o1 A h2
  | toTuple=>cases (show some ("tuple":Str)=some x from hb);exact snd_callT s_toTuple gl hm PyProof.Rows.boot_tuple o3 o1 A h2
  | toInt=>cases (show some ("int":Str)=some x from hb);exact snd_callT s_toInt gl hm PyProof.Rows.boot_int o3 o1 A h2
  | all=>cases (show some ("all":Str)=some x from hb);exact snd_callB (s_all g.calm) gl hm boot_all o3 o1 A h2
  | _=>exact nomatch (show none=some x from hb)
theorem ok_oneb (g:Good X k cf Gam) {o:Op1} {a:E} {e:Expr} (h:chkOneb Gam X.env.scope.names f o a e=true):Snd X cf (.op1 o a) e:=by
 refine onCall_el h fun g1 as pos h=>?_
 refine onName_el h fun x p h=>?_
 refine on2_el h fun y u h=>?_
 refine onName_el h fun t p2 h=>?_
 simp only [Bool.and_eq_true] at h
 obtain ⟨⟨⟨h0,h1⟩,h2⟩,h3⟩:=h
 have A:=(IH a y h3).pe
 obtain ⟨rfl,gl0,_,_,hm0⟩:=bltB_of g h0
 cases hb:kindT o with
 | none=>rw [hb] at h1;cases h1
 | some z=>
  rw [hb] at h1
  obtain ⟨et,gl,o1,o3,hm⟩:=bltB_of g (show bltB Gam X.env.scope.names t z=true from h1)
  have fin:∀ {T:String},CallR X (.builtin "isinstance") (rIsi X.K o T)→bootBuiltins (T:Str)=some (.type T)→z=T→Snd X cf (.op1 o a) (.Call (.Name "isinstance" p) [y,.Name t p2] [] pos):=fun {T} hc hv ez=>by
   subst ez
   rw [et] at gl hm o3 o1 ⊢
   exact snd_isi hc gl0 hm0 gl hm hv o3 o1 A h2
  cases o with
  | isTup=>exact fin isi_tuple PyProof.Rows.boot_tuple (Option.some.inj hb).symm
  | isStr=>exact fin isi_str PyProof.Rows.boot_str (Option.some.inj hb).symm
  | _=>exact nomatch (show none=some z from hb)
theorem ok_onec {o:Op1} {a:E} {e:Expr} (h:chkOnec f o a e=true):Snd X cf (.op1 o a) e:=nomatch (show false=true from h)
theorem ok_oned {o:Op1} {a:E} {e:Expr} (h:chkOned f o a e=true):Snd X cf (.op1 o a) e:=by
 refine onSub_el h fun y sl pos h=>?_
 refine onSlice_el h fun l hh st p1 h=>?_
 simp only [Bool.and_eq_true] at h
 obtain ⟨⟨hl,hm⟩,h⟩:=h
 cases isN_of hl
 cases isN_of hm
 refine onSo_el h fun z h=>?_
 refine onUn_el h fun u c p2 h=>?_
 rw [Bool.and_eq_true] at h
 cases isUSub_of h.1
 refine onConst_el h.2 fun cc j p3 h=>?_
 refine onInt_el h fun i h=>?_
 simp only [Bool.and_eq_true,beq_iff_eq] at h
 obtain ⟨⟨rfl,rfl⟩,h2⟩:=h
 exact snd_rev (IH _ _ h2).pe
theorem ok_onee {o:Op1} {a:E} {e:Expr} (h:chkOnee f o a e=true):Snd X cf (.op1 o a) e:=by
 refine onCmp_el h fun y os cs pos h=>?_
 refine on1_el h fun op h=>?_
 refine on1_el h fun c h=>?_
 refine onConst_el h fun cc j p2 h=>?_
 simp only [Bool.and_eq_true,beq_iff_eq,decide_eq_true_eq] at h
 obtain ⟨⟨⟨hc,rfl⟩,rfl⟩,h2⟩:=h
 cases isNonC_of hc
 exact snd_is s_isN (.inl rfl) (IH a y h2).pe rfl
theorem ok_onef {o:Op1} {a:E} {e:Expr} (h:chkOnef f o a e=true):Snd X cf (.op1 o a) e:=by
 refine onCmp_el h fun y os cs pos h=>?_
 refine on1_el h fun op h=>?_
 refine on1_el h fun c h=>?_
 refine onConst_el h fun cc j p2 h=>?_
 simp only [Bool.and_eq_true,beq_iff_eq,decide_eq_true_eq] at h
 obtain ⟨⟨⟨hc,rfl⟩,rfl⟩,h2⟩:=h
 cases isNonC_of hc
 exact snd_is s_notN (.inr rfl) (IH a y h2).pe rfl
theorem ok_oneg {o:Op1} {a:E} {e:Expr} (h:chkOneg f o a e=true):Snd X cf (.op1 o a) e:=by
 refine onCmp_el h fun y os cs pos h=>?_
 refine on1_el h fun op h=>?_
 refine on1_el h fun c h=>?_
 refine onConst_el h fun cc j p2 h=>?_
 simp only [Bool.and_eq_true,beq_iff_eq,decide_eq_true_eq] at h
 obtain ⟨⟨⟨hc,rfl⟩,rfl⟩,h2⟩:=h
 cases isTruC_of hc
 exact snd_isT (IH a y h2).pe rfl
theorem ok_op1 (g:Good X k cf Gam) {o:Op1} {a:E} {e:Expr} (h:chkOp1 Gam X.env.scope.names f o a e=true):Snd X cf (.op1 o a) e:=by
 have h':(chkOnea Gam X.env.scope.names f o a e||chkOneb Gam X.env.scope.names f o a e||chkOnec f o a e||chkOned f o a e||chkOnee f o a e||chkOnef f o a e||chkOneg f o a e)=true:=h
 simp only [Bool.or_eq_true] at h'
 rcases h' with (((((h | h) | h) | h) | h) | h) | h
 ·exact ok_onea IH g h
 ·exact ok_oneb IH g h
 ·exact ok_onec IH h
 ·exact ok_oned IH h
 ·exact ok_onee IH h
 ·exact ok_onef IH h
 ·exact ok_oneg IH h
theorem ok_part {ie:E} {e:Option Expr} (h:chkP f ie e=true):PO X e (tP cf X.K ie):=by
 cases e with
 | some e=>
  have h:(!isPeek ie&&f ie e)=true:=h
  rw [Bool.and_eq_true,Bool.not_eq_true'] at h
  exact part_some (IH ie e h.2).pe h.1
 | none=>
  cases ie with
  | con p=>
   cases p with
   | none=>exact part_none
   | _=>exact nomatch (show false=true from h)
  | _=>exact nomatch (show false=true from h)
theorem ok_sl {a lo hi:E} {e:Expr} (h:chkSl f a lo hi e=true):Snd X cf (.sl a lo hi) e:=by
 refine onSub_el h fun x sl pos h=>?_
 refine onSlice_el h fun l hh st p1 h=>?_
 simp only [Bool.and_eq_true] at h
 cases isN_of h.1.1.1
 exact snd_sl (IH _ _ h.1.1.2).pe (ok_part IH h.1.2) (ok_part IH h.2)
theorem ok_call (g:Good X k cf Gam) {id:Nat} {a:E} {e:Expr} (h:chkCall Gam X.env.scope.names f id a e=true):Snd X cf (.call id a) e:=by
 refine onCall_el h fun g1 as pos h=>?_
 refine onName_el h fun x p h=>?_
 refine onCons_el h fun y ys h=>?_
 simp only [Bool.and_eq_true,List.any_eq_true,beq_iff_eq] at h
 obtain ⟨⟨⟨⟨h1,h2⟩,h3⟩,h4⟩,r,hr,⟨h5,h6⟩,h7⟩:=h
 obtain ⟨gl,o1,o3⟩:=glB_of h1
 obtain ⟨x',id',n'⟩:=r
 dsimp only at h5 h6 h7
 subst h5 h6
 obtain ⟨fa,fd,ps,hl,hm,hk,hb,F⟩:=g.fns x' id' n' hr
 obtain ⟨pa,_⟩:=ok_args IH h4
 exact snd_call F g.room gl hm hk hb pa (by rw [h7,hl]) o1 h2 h3
theorem ok_bool:∀ {op:BoolOp} {ie:E} {es:List Expr} {pos:Pos},chkB f op ie es=true→SndB X cf op ie es pos
 | op,ie,[e],pos,h=>by
  have h':f ie e=true:=by
   unfold chkB at h
   exact h
  exact sndb_one (IH ie e h')
 | op,ie,e::e2::r,pos,h=>by
  cases ie with
  | and a b=>
   simp only [chkB,Bool.and_eq_true,Bool.not_eq_true',beq_iff_eq] at h
   obtain ⟨⟨⟨⟨rfl,h1⟩,h2⟩,h3⟩,h4⟩:=h
   exact sndb_and (IH a e h3) h1 (ok_bool h4) h2
  | or a b=>
   simp only [chkB,Bool.and_eq_true,Bool.not_eq_true',beq_iff_eq] at h
   obtain ⟨⟨⟨⟨rfl,h1⟩,h2⟩,h3⟩,h4⟩:=h
   exact sndb_or (IH a e h3) h1 (ok_bool h4) h2
  | _=>simp [chkB] at h
 | op,ie,[],pos,h=>by cases ie <;> simp [chkB] at h
theorem ok_and {a b:E} {e:Expr} (h:chkAnd f a b e=true):Snd X cf (.and a b) e:=by
 refine onBool_el h fun o xs pos h=>?_
 rw [Bool.and_eq_true] at h
 cases eq_of_beq h.1
 exact (ok_bool IH h.2).snd
theorem ok_or {a b:E} {e:Expr} (h:chkOr f a b e=true):Snd X cf (.or a b) e:=by
 refine onBool_el h fun o xs pos h=>?_
 rw [Bool.and_eq_true] at h
 cases eq_of_beq h.1
 exact (ok_bool IH h.2).snd
theorem ok_not {a:E} {e:Expr} (h:chkNot f a e=true):Snd X cf (.not a) e:=by
 refine onUn_el h fun u x pos h=>?_
 rw [Bool.and_eq_true] at h
 cases isNotU_of h.1
 exact snd_not (IH _ _ h.2)
theorem ok_ite {c a b:E} {e:Expr} (h:chkIte f c a b e=true):Snd X cf (.ite c a b) e:=nomatch (show false=true from h)
theorem ok_dct {ks:List PV} {a:E} {e:Expr} (h:chkDct f ks a e=true):Snd X cf (.dct ks a) e:=nomatch (show false=true from h)
theorem ok_dgt (g:Good X k cf Gam) {a b d:E} {e:Expr} (h:chkDgt f a b d e=true):Snd X cf (.dgt a b d) e:=nomatch (show false=true from h)
theorem ok_lrep {a n:E} {e:Expr} (h:chkLrep f a n e=true):Snd X cf (.lrep a n) e:=nomatch (show false=true from h)
theorem ok_chain (g:Good X k cf Gam) {o o':Op2} {a b c:E} {e:Expr} (h:chkChain f o o' a b c e=true):Snd X cf (.chain o o' a b c) e:=nomatch (show false=true from h)
theorem ok_itera (g:Good X k cf Gam) {tg:Expr} {ie:E} {e:Expr} (h:chkIa Gam X.env.scope.names f ie e=true):PI X tg e (tI cf X.K ie):=by
 obtain ⟨a,ha,h⟩:=onSo_of h
 cases rngE_of ha
 refine onCall_el h fun g1 as pos h=>?_
 refine onName_el h fun x p h=>?_
 refine on1_el h fun y h=>?_
 simp only [Bool.and_eq_true,Bool.not_eq_true'] at h
 obtain ⟨⟨⟨h1,h2⟩,h3⟩,h4⟩:=h
 obtain ⟨rfl,gl,_,_,hm⟩:=bltB_of g h1
 exact it_rng (IH _ _ h4).pe h2 h3 gl hm
theorem ok_iterb (g:Good X k cf Gam) {tg:Expr} {ie:E} {e:Expr} (h:chkIb Gam X.env.scope.names f tg ie e=true):PI X tg e (tI cf X.K ie):=nomatch (show false=true from h)
theorem ok_iter (g:Good X k cf Gam) {tg:Expr} {ie:E} {e:Expr} (h:chkI Gam X.env.scope.names f tg ie e=true):PI X tg e (tI cf X.K ie):=by
 have h':(chkIa Gam X.env.scope.names f ie e||chkIb Gam X.env.scope.names f tg ie e||(!isPeek ie&&notSet e&&f ie e))=true:=h
 simp only [Bool.or_eq_true] at h'
 rcases h' with (h | h) | h
 ·exact ok_itera IH g h
 ·exact ok_iterb IH g h
 ·simp only [Bool.and_eq_true,Bool.not_eq_true'] at h
  exact it_seq (IH _ _ h.2).pe h.1.1
theorem folded_of {e:Expr} {env:PySem.Env} (h:notSet e=true):∀ x,foldedSetIterable e env x=pure x:=foldedSet_of (by cases e <;> first | rfl | exact absurd (show false=true from h) Bool.false_ne_true)
end
theorem Good.blk {X X':Cx} {k:Nat} {cf:CF} {Gam:Info} {N':List Str} {scope:Scope} (g:Good X k cf Gam) (b:Blk X N' scope X'):Good X' k cf Gam:=by
 refine ⟨b.calm,b.xe,by rw [b.A];exact g.room,fun x id n h=>?_,fun x p h=>?_,fun x h=>by rw [b.mg];exact g.blts x h,fun x kvs h=>?_⟩
 ·obtain ⟨fa,fd,ps,h1,h2,h3,h4,h5⟩:=g.fns x id n h
  exact ⟨fa,fd,ps,h1,by rw [b.mg];exact h2,by rw [b.K];exact h3,by rw [b.K];exact h4,by rw [b.prog,b.w,b.K,b.mg,b.base];exact h5⟩
 ·obtain ⟨u,v,h1,h2,h3⟩:=g.consts x p h
  exact ⟨u,v,by rw [b.mg];exact h1,h2,by rw [b.K];exact h3⟩
 ·obtain ⟨a,l,vs,h1,h0,h2,h3,h4⟩:=g.dcts x kvs h
  exact ⟨a,l,vs,by rw [b.mg];exact h1,h0,by rw [b.K];exact h2,h3,by rw [b.K,b.prog,b.w];exact h4⟩
theorem relB_eq {scope:Scope} {env:PySem.Env} (hk:env.scope.kind=.function):(relabel scope env).names=relB env.scope.names scope.names:=by
 unfold relabel relB
 dsimp only
 congr 1
 funext x
 obtain ⟨n,k⟩:=x
 dsimp only
 have e:(env.scope.kind==.function)=true:=by rw [hk];rfl
 rw [e,Bool.and_true]
 rfl
theorem relB_cell {nm names:Nms} {x:Str} (h:names.lookup x=some .cell):(relB nm names).lookup x=some .cell:=by
 unfold relB
 have:=lookup_map (fun (y:Str×NameKind)=>match y with | (n,k)=>if (k==.free&&nm.lookup n==some .cell) then (n,NameKind.cell) else (n,k)) (fun n k=>by dsimp only;split <;> rfl) names x
 refine this.trans ?_
 rw [h]
 rfl
theorem relB_local {nm names:Nms} {x:Str} (h:names.lookup x=some .local):(relB nm names).lookup x=some .local:=by
 unfold relB
 have:=lookup_map (fun (y:Str×NameKind)=>match y with | (n,k)=>if (k==.free&&nm.lookup n==some .cell) then (n,NameKind.cell) else (n,k)) (fun n k=>by dsimp only;split <;> rfl) names x
 refine this.trans ?_
 rw [h]
 rfl
theorem names_of:∀ {es:List Expr} {own:List Str},(es.mapM fun e=>match e with | .Name x _=>some x | _=>none)=some own→∃ ps:List Pos,ps.length=own.length∧es=(own.zip ps).map fun q=>Expr.Name q.1 q.2
 | [],own,h=>by
  cases (show some []=some own from h)
  exact ⟨[],rfl,rfl⟩
 | e::es,own,h=>by
  rw [List.mapM_cons] at h
  cases e with
  | Name x pos=>
   cases hm:(es.mapM fun e=>match e with | .Name x _=>some x | _=>none) with
   | none=>rw [hm] at h;cases h
   | some r=>
    rw [hm] at h
    cases (show some (x::r)=some own from h)
    obtain ⟨ps,h1,h2⟩:=names_of hm
    exact ⟨pos::ps,by simp [h1],by rw [h2];rfl⟩
  | _=>cases h
section
variable {X':Cx}
noncomputable def gNames:Nat→Nat→TGs
 | _,0=>gNil
 | i,n+1=>gCons (gName i) (gNames (i+1) n)
theorem pg_names {N:List Str} (hN:X'.N.Nodup):∀ (own:List Str) (ps:List Pos) (i:Nat),ps.length=own.length→(∀ (j:Nat) (x:Str),own[j]?=some x→X'.N[i+j]?=some x∧Loc X'.env.scope x∧(X'.fn x=true∨X'.env.scope.names.lookup x=some .local))→
  PGs X' ((own.zip ps).map fun q=>Expr.Name q.1 q.2) (gNames i own.length)
 | [],ps,i,hl,h=>by
  have:ps=[]:=List.length_eq_zero_iff.mp hl
  subst this
  exact pgs_nil
 | x::own,[],i,hl,h=>by cases hl
 | x::own,p::ps,i,hl,h=>by
  obtain ⟨h1,h2,h3⟩:=h 0 x rfl
  refine pgs_cons (pg_name hN h1 h2 h3) (pg_names (N:=N) hN own ps (i+1) (by simpa using hl) fun j y e=>?_) rfl
  have:=h (j+1) y (by simpa using e)
  rw [show i+(j+1)=i+1+j from by lia] at this
  exact this
theorem gNames_ok {Q:St→Hp→Prop} {H:Hp}:∀ (vs:List V) (σ:St) (i:Nat),i+vs.length≤σ.length→Q (σ.take i++(vs.map some++σ.drop (i+vs.length))) H→gNames i vs.length vs σ H Q
 | [],σ,i,hl,h=>by
  refine ⟨rfl,?_⟩
  have e:σ.take i++(([]:List V).map some++σ.drop (i+([]:List V).length))=σ:=by simp
  rw [e] at h
  exact h
 | v::vs,σ,i,hl,h=>by
  refine ⟨v,vs,rfl,gNames_ok vs (σ.set i (some v)) (i+1) (by simp at hl ⊢;lia) ?_⟩
  have hi:i<σ.length:=by simp at hl;lia
  have e:(σ.set i (some v)).take (i+1)++(vs.map some++(σ.set i (some v)).drop (i+1+vs.length))=σ.take i++((v::vs).map some++σ.drop (i+(v::vs).length)):=by
   rw [List.take_succ_eq_append_getElem (by simpa using hi),List.take_set_of_le (Nat.le_refl _),List.getElem_set_self,List.drop_set_of_lt (by lia),List.append_assoc]
   simp [show i+1+vs.length=i+(vs.length+1) from by lia]
  rw [e]
  exact h
end
structure CompOk (X:Cx) (cf:CF) (tg:Option Nat) (caps:List Nat) (it cond elt:E) (y tgt iter:Expr) (ifs:List Expr) (scope:Scope) (own:List Str):Prop where
 cs:CScope X own caps scope
 hd:caps.Nodup
 hown:own.length=tg.getD 1
 hpk:isPeek elt=false
 hit:PI X tgt iter (tI cf X.K it)
 hfs:∀ x,foldedSetIterable iter X.env x=pure x
 B:BlkOk X cf own caps scope tg tgt ifs y cond elt
section
variable {X:Cx} {cf:CF} {k:Nat} {Gam:Info} {f:E→Expr→Bool} {gB:List Str→Nms→E→Expr→Bool}
theorem comp_data (g:Good X k cf Gam) (hkind:X.env.scope.kind=.function) (IH:∀ ie e,f ie e=true→Snd X cf ie e)
  (IHB:∀ X',Good X' k cf Gam→X'.env.scope.kind=.function→∀ ie e,gB X'.N X'.env.scope.names ie e=true→Snd X' cf ie e) {tg:Option Nat} {caps:List Nat} {it cond elt:E} {y tgt iter:Expr} {ifs:List Expr} {z:Int} {scope:Scope} {pos:Pos}
  (h:chkComp Gam X.N X.env.scope.names f gB tg caps it cond elt (.ListComp y [⟨tgt,iter,ifs,z⟩] scope pos)=true):z=0∧∃ own,CompOk X cf tg caps it cond elt y tgt iter ifs scope own:=by
 obtain ⟨own,hn,hq⟩:=onSo_of (show onSo (tgNames tg tgt) _=true from h)
 ·simp only [Bool.and_eq_true,beq_iff_eq,Bool.not_eq_true'] at hq
  obtain ⟨⟨⟨⟨⟨⟨h1,h2⟩,h3⟩,h4⟩,h5⟩,h6⟩,h7⟩:=hq
  refine ⟨h1,own,?_⟩
  simp only [scopeB,Bool.and_eq_true,beq_iff_eq,List.all_eq_true,Bool.or_eq_true,bne_iff_ne,decide_eq_true_eq] at h2
  obtain ⟨⟨⟨⟨⟨⟨⟨s1,s2⟩,s3⟩,s4⟩,s5⟩,s6⟩,s7⟩,s8⟩:=h2
  have cs:CScope X own caps scope:=by
   refine ⟨s1,fun x hx e=>?_,fun x hx e=>?_,fun x hx e=>?_,fun j hj=>?_⟩
   ·rcases s2 x hx with q | q
    ·exact absurd e q
    ·exact q
   ·rcases s3 x hx with q | q
    ·exact absurd e q
    ·exact q
   ·rcases s4 x hx with (q | q) | q
    ·exact absurd e q
    ·exact .inl q
    ·exact .inr q
   ·have:=s5 j hj
    cases q:X.N[j]? with
    | none=>rw [q] at this;cases this
    | some y=>
     rw [q] at this
     simp only [Bool.and_eq_true,beq_iff_eq] at this
     exact ⟨y,rfl,visB_of this.1,this.2⟩
  have hown:own.length=tg.getD 1:=by
   cases tg with
   | none=>
    cases tgt with
    | Name x p=>cases (show some [x]=some own from hn);rfl
    | _=>cases hn
   | some n=>
    cases tgt with
    | Tuple es j p=>
     change (if es.length=n then _ else none)=some own at hn
     split at hn
     ·rename_i hl
      obtain ⟨ps,h1,h2⟩:=names_of hn
      have:es.length=own.length:=by rw [h2];simp [h1]
      rw [← this];exact hl
     ·cases hn
    | _=>cases hn
  have kx:∀ X',Blk X (namesC X own caps) scope X'→X'.N=own++caps.map (fun j=>X.N.getD j "")∧X'.env.scope.names=relB X.env.scope.names scope.names∧X'.env.scope.kind=.function:=fun X' b=>
   ⟨b.N,by rw [b.sc];exact relB_eq hkind,by rw [b.sc];exact s1⟩
  refine ⟨cs,s6,hown,h5,ok_iter IH g h4,folded_of IH h3,⟨fun X' b=>?_,fun X' b=>?_,fun X' b=>?_⟩⟩
  ·obtain ⟨kN,kS,kK⟩:=kx X' b
   have nd:X'.N.Nodup:=by rw [kN];exact s8
   have pl:∀ (j:Nat) (x:Str),own[j]?=some x→X'.N[0+j]?=some x∧Loc X'.env.scope x∧(X'.fn x=true∨X'.env.scope.names.lookup x=some .local):=fun j x e=>by
    refine ⟨?_,?_⟩
    ·rw [kN,Nat.zero_add,List.getElem?_append_left (List.getElem?_eq_some_iff.mp e).1];exact e
    ·rcases (s7 x (List.mem_of_getElem? e)).1 with z | z
     ·have z':X'.env.scope.names.lookup x=some .local:=by rw [kS];exact relB_local z
      exact ⟨.inl z',.inr z'⟩
     ·exact ⟨.inr (by rw [kS];exact relB_cell z),.inl (by rw [b.fn];exact beq_iff_eq.mpr z)⟩
   cases tg with
   | none=>
    cases tgt with
    | Name x p=>
     cases (show some [x]=some own from hn)
     obtain ⟨p1,p2,p3⟩:=pl 0 x rfl
     have pg:=pg_name (pos:=p) nd p1 p2 p3
     intro pins s σ H v u Q I r hq
     obtain ⟨hl,_,hq⟩:=hq
     refine pg pins s σ H v u Q I r ?_
     show Q (σ.set 0 (some v)) H
     cases σ with
     | nil=>cases hl
     | cons o σ=>exact hq
    | _=>cases hn
   | some n=>
    cases tgt with
    | Tuple es j p=>
     change (if es.length=n then _ else none)=some own at hn
     split at hn
     ·rename_i hl
      obtain ⟨ps,l1,l2⟩:=names_of hn
      have hes:es.length=own.length:=by rw [l2];simp [l1]
      have pgs:=pg_names (N:=X'.N) nd own ps 0 l1 pl
      rw [← l2] at pgs
      have as1:∀ (l:List Expr) (qs:List Pos) (ow:List Str),qs.length=ow.length→l=(ow.zip qs).map (fun q=>Expr.Name q.1 q.2)→(assignEach l X'.env).length=l.length∧(assignEach l X'.env).findIdx? (·.1)=none:=by
       intro l
       induction l with
       | nil=>intro _ _ _ _;exact ⟨rfl,rfl⟩
       | cons e l ih=>
        intro qs ow hq he
        cases ow with
        | nil=>cases he
        | cons w ow=>
         cases qs with
         | nil=>cases hq
         | cons q qs=>
          cases he
          obtain ⟨i1,i2⟩:=ih qs ow (by simpa using hq) rfl
          refine ⟨?_,?_⟩
          ·show ((assignEach _ X'.env).length+1)=_
           rw [i1];rfl
          ·show List.findIdx? _ ((false,_)::assignEach _ X'.env)=none
           rw [List.findIdx?_cons,i2]
           rfl
      obtain ⟨a1,a2⟩:=as1 es ps own l1 l2
      have pg:=pg_tup (X:=X') (pos:=p) (k:=j) b.calm pgs (a1.trans hl) a2
      intro pins s σ H v u Q I r hq
      obtain ⟨hlen,a,xs,rfl,q,lx,_,hq⟩:=hq
      refine pg pins s σ H _ u Q I r ⟨a,xs,rfl,by rw [b.K];exact q,lx,?_⟩
      have eo:own.length=xs.length:=by lia
      rw [eo] at hlen hq ⊢
      exact gNames_ok xs σ 0 (by lia) (by simpa using hq)
     ·cases hn
    | _=>cases hn
  ·obtain ⟨kN,kS,kK⟩:=kx X' b
   intro pins s σ H Q I hq
   have e1:=b.prog
   have e2:=b.w
   have e3:=b.A
   cases ifs with
   | nil=>
    obtain ⟨G,ρ,p,t,S,e,et,kq⟩:=hq
    have h8:isTrueC cond=true:=by
     rcases (Bool.or_eq_true _ _).mp h7 with z | z
     ·exact z
     ·exact nomatch (show false=true from z)
    cases isTrueC_of h8
    cases (show some (PyData.bool true)=some p from e)
    have et':true=t:=Option.some.inj et
    subst et'
    exact wpAny_tests_nil ⟨H,I,kq G H (.refl S.sub)⟩
   | cons c cs'=>
    have h8:on1 (c::cs') (fun c=>gB (own++caps.map fun j=>X.N.getD j "") (relB X.env.scope.names scope.names) cond c)=true:=by
     rcases (Bool.or_eq_true _ _).mp h7 with z | z
     ·exact nomatch (show false=true from z)
     ·exact z
    cases cs' with
    | nil=>
     have sn:=IHB X' (g.blk b) kK cond c (by rw [kN,kS];exact h8)
     have:=sn.pt pins s σ H Q I (by rw [b.K];exact hq)
     rw [e1,e2,e3,b.xe] at this
     exact wpAny_tests_one this
    | cons _ _=>exact nomatch (show false=true from h8)
  ·obtain ⟨kN,kS,kK⟩:=kx X' b
   have:=(IHB X' (g.blk b) kK elt y (by rw [kN,kS];exact h6)).pe
   rw [b.K] at this
   exact this
theorem comp_form {tg:Option Nat} {caps:List Nat} {it cond elt:E} {N:List Str} {nm:Nms} {P:Expr→Prop} {e:Expr} (H:∀ y q scope pos,chkComp Gam N nm f gB tg caps it cond elt (.ListComp y [q] scope pos)=true→P (.ListComp y [q] scope pos)) (h:chkComp Gam N nm f gB tg caps it cond elt e=true):P e:=by
 have h0:=h
 revert h0
 refine onLC_el h fun y gs scope pos h=>?_
 refine on1_el h fun q _ h0=>?_
 exact H y q scope pos h0
theorem ok_comp (g:Good X k cf Gam) (hkind:X.env.scope.kind=.function) (IH:∀ ie e,f ie e=true→Snd X cf ie e)
  (IHB:∀ X',Good X' k cf Gam→X'.env.scope.kind=.function→∀ ie e,gB X'.N X'.env.scope.names ie e=true→Snd X' cf ie e) {tg:Option Nat} {caps:List Nat} {it cond elt:E} {e:Expr}
  (h:chkComp Gam X.N X.env.scope.names f gB tg caps it cond elt e=true):Snd X cf (.comp tg caps it cond elt) e:=by
 refine comp_form (P:=fun e=>Snd X cf (.comp tg caps it cond elt) e) (fun y q scope pos h=>?_) h
 obtain ⟨tgt,iter,ifs,z⟩:=q
 obtain ⟨rfl,own,c⟩:=comp_data g hkind IH IHB h
 exact .plain (pe_comp g.calm c.cs c.hd c.hown c.hpk c.hit c.hfs c.B) (fun _=>rfl)
end
theorem chk_ok {cf:CF} {k:Nat} {Gam:Info}:∀ (n:Nat) (X:Cx),Good X k cf Gam→X.env.scope.kind=.function→∀ ie e,chkE Gam n X.N X.env.scope.names ie e=true→Snd X cf ie e
 | 0,X,g,hk,ie,e,h=>by cases h
 | n+1,X,g,hk,ie,e,h=>by
  have IH:=chk_ok n X g hk
  have IHB:=fun X' g' hk'=>chk_ok (cf:=cf) (k:=k) (Gam:=Gam) n X' g' hk'
  cases ie with
  | var i=>exact (ok_var h).1
  | peek i=>exact (ok_var h).2
  | con p=>exact ok_con g h
  | nil=>cases h
  | cons _ _=>cases h
  | tup a=>exact ok_tup IH h
  | lst a=>exact ok_lst IH h
  | op1 o a=>exact ok_op1 IH g h
  | op2 o a b=>exact ok_op2 IH g h
  | sl a lo hi=>exact ok_sl IH h
  | call f a=>exact ok_call IH g h
  | and a b=>exact ok_and IH h
  | or a b=>exact ok_or IH h
  | not a=>exact ok_not IH h
  | ite c a b=>exact ok_ite IH h
  | chain o o' a b c=>exact ok_chain IH g h
  | comp tg caps it cond elt=>exact ok_comp g hk IH IHB h
  | rng _=>cases h
  | rng2 _ _=>cases h
  | dct ks a=>exact ok_dct IH h
  | dgt a b d=>exact ok_dgt IH g h
  | lrep a n=>exact ok_lrep IH h
  | skey _ _ _=>cases h
  | prm _=>cases h
section
variable {X:Cx} {cf:CF}
noncomputable def tN (cf:CF) (K:PySem.W.Frag) (ie:E):TE:=fun σ H Q=>∃ G ρ ps,SR K G H σ ρ∧evE cf ie ρ=some (.list ps)∧∀ l vs G1 H1,Ext G H G1 H1→H1 l=none→RpL K G1 ps vs→Q (.ref l) (L2.upd H1 l (.lst vs))
theorem pn_split {ia ib:E} {a b:Expr} {apos pos:Pos} (ha:PE X a (tE cf X.K ia)) (hb:PE X b (tE cf X.K ib)) (hs:plainE b=true) (hbase:attributeBase a "split" X.env (eval a X.env)=eval a X.env) (hline:(apos.endLine==pos.line)=true):
  PE X (.Call (.Attribute a "split" apos) [b] [] pos) (tN cf X.K (.op2 .split ia ib)):=by
 have hst:=star_of hs [] X.env
 have hfew:((backTo pos (starEach [b] X.env)).all (fun x=>!x.1)&&(backToKw pos (keywordEach [] X.env)).all (fun x=>x.1.isSome)
   && decide ([b].length+([]:List Keyword).length+(if ([]:List Keyword).isEmpty then 0 else 1)<30))=true:=by
  rw [hst];rfl
 refine (pe_bm (X:=X) (o:=a) PySem.F.plainAttrs_str PySem.F.slot_str_split PySem.F.type_str_split s_splitN ha (pa_cons hb pa_nil hst) hbase hfew hline hst rfl).weak fun σ H Q h=>?_
 obtain ⟨G,ρ,ps,S,e,k⟩:=h
 obtain ⟨x,e1,e2⟩:=bnd_eq.mp (show bnd (evE cf ia ρ) (fun x=>bnd (evE cf ib ρ) fun y=>opF2 .split x y)=some (.list ps) from e)
 obtain ⟨y,e3,e4⟩:=bnd_eq.mp e2
 refine ⟨G,ρ,x,S,e1,fun v G1 H1 x1 r1=>⟨?_,G1,ρ,y,S.ext x1,e3,fun w G2 H2 x2 r2=>?_⟩⟩
 ·cases x with
  | str z=>
   obtain ⟨rfl,_⟩:=(show v=.str z∧PyData.strOk z=true∧z.length≤16777216 from r1.rk x1.gh)
   exact rfl
  | _=>exact nomatch (show none=some (PyData.list ps) from e4)
 ·obtain ⟨z,sep,rfl,rfl,so,h1,h2,er,hr⟩:=split_inv ((r1.rk x1.gh).ext x2) (r2.rk x2.gh) (show splitF x y=some (.list ps) from e4)
  cases er
  exact ⟨z,sep,rfl,rfl,so,h1,h2,fun l hf=>k l _ G2 H2 (x1.trans x2) hf (hr _)⟩
theorem pn_add {ia ib:E} {a b:Expr} {pos:Pos} (ha:PE X a (tE cf X.K ia)) (hb:PE X b (tE cf X.K ib)):PE X (.BinOp a .Add b pos) (tN cf X.K (.op2 .add ia ib)):=by
 refine (pe_op op_catL0 ha hb).weak fun σ H Q ⟨G,ρ,ps,S,e,k⟩=>?_
 obtain ⟨x,e1,e2⟩:=bnd_eq.mp (show bnd (evE cf ia ρ) (fun x=>bnd (evE cf ib ρ) fun y=>opF2 .add x y)=some (.list ps) from e)
 obtain ⟨y,e3,e4⟩:=bnd_eq.mp e2
 refine ⟨G,ρ,x,S,e1,fun v G1 H1 x1 r1=>⟨G1,ρ,y,S.ext x1,e3,fun w G2 H2 x2 r2=>?_⟩⟩
 have rx:=(r1.rk x1.gh).ext x2
 have ry:=r2.rk x2.gh
 cases x with
 | list xs=>
  cases y with
  | list ys=>
   have e':(if xs.length+ys.length≤16777216 then some (PyData.list (xs++ys)) else none)=some (.list ps):=e4
   by_cases hl:xs.length+ys.length≤16777216
   ·rw [if_pos hl] at e'
    cases e'
    obtain ⟨a,vs,rfl,q1,r1⟩:=(show ∃ a vs,v=V.ref a∧SqL X.K H2 a vs∧RpL X.K G2 xs vs from rx)
    obtain ⟨b,ws,rfl,q2,r2⟩:=(show ∃ a vs,w=V.ref a∧SqL X.K H2 a vs∧RpL X.K G2 ys vs from ry)
    exact ⟨a,b,vs,ws,rfl,rfl,q1,q2,by rw [line_eq,← r1.length,← r2.length];exact hl,fun l hn=>k l _ G2 H2 (x1.trans x2) hn (r1.append r2)⟩
   ·rw [if_neg hl] at e';cases e'
  | _=>exact nomatch (show none=some (PyData.list ps) from e4)
 | int i=>
  cases y with
  | int j=>exact nomatch (show some (PyData.int (i+j))=some (.list ps) from e4)
  | _=>exact nomatch (show none=some (PyData.list ps) from e4)
 | str i=>
  cases y with
  | str j=>
   have e':(if i.length+j.length≤16777216 then some (PyData.str (i++j)) else none)=some (.list ps):=e4
   split at e' <;> cases e'
  | _=>exact nomatch (show none=some (PyData.list ps) from e4)
 | tuple i=>
  cases y with
  | tuple j=>
   have e':(if i.length+j.length≤16777216 then some (PyData.tuple (i++j)) else none)=some (.list ps):=e4
   split at e' <;> cases e'
  | _=>exact nomatch (show none=some (PyData.list ps) from e4)
 | _=>exact nomatch (show none=some (PyData.list ps) from e4)
theorem st_ownN {i:Nat} {x:Str} {v:Expr} {ie:E} {pos pos':Pos} (hN:X.N.Nodup) (hi:X.N[i]?=some x) (hx:Loc X.env.scope x) (hf:X.fn x=true∨X.env.scope.names.lookup x=some .local) (h:PE X v (tN cf X.K ie))
  (hs:swapsWith v (some (.Name x pos')) pos.line X.env=pure false):PS X (.Assign [.Name x pos'] v pos) (tS cf X.K (.own i ie)):=by
 refine (ps_set hN hi hx h hs hf).weak fun D σ H ⟨G0,H0,G,ρ,o,T,e,k⟩=>?_
 obtain ⟨p,e1,e2⟩:=bnd_eq.mp (show bnd (evE cf ie ρ) (ownF i ρ)=some o from e)
 cases p with
 | list ps=>
  cases (show some (Out.nx (ρ.set i (.own ps)))=some o from e2)
  exact ⟨G,ρ,ps,T.sr,e1,fun l vs G1 H1 x1 hn r1=>k _ G1 _ ((T.ext x1).setOwn hn r1)⟩
 | _=>exact nomatch (show none=some o from e2)
theorem rpL_set {K:PySem.W.Frag} {G:Hp} {p:PV} {v:V} (hd:isDict p=false) (hp:Rp K G p v):∀ {ps:List PV} {vs:List V} (m:Nat),RpL K G ps vs→RpL K G (ps.set m p) (vs.set m v)
 | [],_,_,h=>by cases (show _=[] from h);exact rfl
 | q::ps,_,0,h=>by
  obtain ⟨u,w,rfl,h1,h2⟩:=(show ∃ v r,_=v::r∧(isDict q=false∧Rp K G q v)∧RpL K G ps r from h)
  exact ⟨v,w,rfl,⟨hd,hp⟩,h2⟩
 | q::ps,_,m+1,h=>by
  obtain ⟨u,w,rfl,h1,h2⟩:=(show ∃ v r,_=v::r∧(isDict q=false∧Rp K G q v)∧RpL K G ps r from h)
  exact ⟨u,w.set m v,rfl,h1,rpL_set hd hp m h2⟩
noncomputable def subE:Expr→Bool
 | .Subscript ..=>true
 | _=>false
theorem st_put {i:Nat} {x:Str} {e kx:Expr} {ie ik:E} {pos npos spos:Pos} (hi:X.N[i]?=some x) (hv:Vis X.env.scope x) (hd:(x==("__debug__":Str))=false) (hcd:(x==("__classdict__":Str))=false)
  (he:PE X e (tE cf X.K ie)) (hk:isPeek ie=false) (hkx:PE X kx (tE cf X.K ik)) (hkk:isPeek ik=false) (hix:ixE kx=true) (hsub:subE e=true):PS X (.Assign [.Subscript (.Name x npos) kx spos] e pos) (tS cf X.K (.put i ik ie)):=by
 have pg:PG X (.Subscript (.Name x npos) kx spos) (gSub (tVar i) (tE cf X.K ik) rSetL):=pg_sub (pe_var hi hv hd hcd) hkx set_list (by
  intro v
  cases kx <;> first | rfl | exact absurd (show false=true from hix) Bool.false_ne_true)
 have st:PS X (.Assign [.Subscript (.Name x npos) kx spos] e pos) (tAsg (tE cf X.K ie) (gSub (tVar i) (tE cf X.K ik) rSetL)):=by
  cases e with
  | Subscript a b c=>exact ps_asg he pg
  | _=>exact absurd (show false=true from hsub) Bool.false_ne_true
 refine st.weak fun D σ H ⟨G0,H0,G,ρ,o,T,e,k⟩=>?_
 obtain ⟨p,e1,e2⟩:=bnd_eq.mp (show bnd (evE cf ie ρ) (fun p=>bnd (evE cf ik ρ) fun q=>bnd ρ[i]? (putF' i ρ q p))=some o from e)
 obtain ⟨q,e3,e4⟩:=bnd_eq.mp e2
 obtain ⟨sl,e5,e6⟩:=bnd_eq.mp e4
 cases sl with
 | own ps=>
  cases q with
  | int j=>
   cases hm:ixN ps.length j with
   | none=>exact nomatch (show none=some o from by rw [← e6];show none=(match ixN ps.length j with | some m=>_ | none=>none);rw [hm])
   | some m=>
    have e7:DD.tst (isDict p) none (some (Out.nx (ρ.set i (.own (ps.set m p)))))=some o:=by
     rw [← e6];show _=(match ixN ps.length j with | some m=>_ | none=>none);rw [hm]
    obtain ⟨hdp,e8⟩:=tst_none e7
    cases e8
    refine ⟨G,ρ,p,T.sr,e1,fun v G1 H1 x1 r1=>?_⟩
    obtain ⟨o',eo,l,vs,rfl,h1,h2,r⟩:=T.sr.at e5
    refine ⟨.ref l,eo,G1,ρ,.int j,T.sr.ext x1,e3,fun w G2 H2 x2 r2=>?_⟩
    have x3:=x1.trans x2
    cases (show w=.int j from r2.rp hkk)
    refine ⟨l,vs,j,m,rfl,rfl,x3.hh _ _ h1,?_,?_⟩
    ·rw [← r.length];exact hm
    ·refine k _ G2 _ ((T.ext x3).grow e5 eo (x3.hh _ _ h1) ((x3.old _ _ h1).trans h2) ?_)
     exact rpL_set hdp ((r1.rp hk).mono x2.gg) m (r.mono x3.gg)
  | _=>exact nomatch (show none=some o from e6)
 | un=>cases (show none=some o from e6)
 | val q=>cases (show none=some o from e6)
end
noncomputable def locB (nm:Nms) (x:Str):Bool:=nm.lookup x==some .local||nm.lookup x==some .cell
noncomputable def notComp:Expr→Bool
 | .ListComp ..=>false
 | .SetComp ..=>false
 | .DictComp ..=>false
 | _=>true
theorem swaps_no {e:Expr} (h:notComp e=true) (t:Option Expr) (l:Nat) (env:PySem.Env):swapsWith e t l env=pure false:=by
 cases e <;> first | rfl | exact absurd (show false=true from h) Bool.false_ne_true
theorem swaps_comp (y:Expr) (gs:List Comprehension) (scope:Scope) (pos p:Pos) (x:Str) (l:Nat) (env:PySem.Env):∃ b:Bool,swapsWith (.ListComp y gs scope pos) (some (.Name x p)) l env=pure b∧(b=true→env.kindOf x=some .local):=by
 refine ⟨env.blockKind==.function&&env.kindOf x==some .local&&p.line==(Expr.ListComp y gs scope pos).pos.line&&!(scope.names.any fun (n,k)=>n==x&&(k==.local||k==.cell)),rfl,fun h=>?_⟩
 simp only [Bool.and_eq_true,beq_iff_eq] at h
 exact h.1.1.2
section
variable (Gam:Info) (N:List Str) (nm:Nms) (f:E→Expr→Bool) (gB:List Str→Nms→E→Expr→Bool)
noncomputable def isLC:Expr→Bool
 | .ListComp ..=>true
 | _=>false
noncomputable def isCompE:E→Bool
 | .comp ..=>true
 | _=>false
noncomputable def lstE:E→Option E
 | .lst a=>some a
 | _=>none
noncomputable def setB (i:Nat) (ie:E) (x:Str) (v:Expr):Bool:=N[i]?==some x&&locB nm x&&!isPeek ie&&(notComp v||(isLC v&&isCompE ie))&&f ie v
noncomputable def tgN:List Nat→List Expr→Bool
 | [],[]=>true
 | i::is,e::es=>(onName e fun x _=>N[i]?==some x&&locB nm x)&&tgN is es
 | _,_=>false
noncomputable def tgB (t:Tg) (e:Expr):Bool:=match t with
 | .one i=>onName e fun x _=>N[i]?==some x&&locB nm x
 | .many is=>onTup e fun es _ _=>tgN N nm is es
noncomputable def asgV:Expr→Bool
 | .Name ..=>true
 | .Call ..=>true
 | .Subscript ..=>true
 | _=>false
noncomputable def isManyT:Tg→Bool
 | .many _=>true
 | _=>false
noncomputable def op2E:E→Option (Op2×E×E)
 | .op2 o a b=>some (o,a,b)
 | _=>none
noncomputable def newS (q:Op2×E×E) (v:Expr):Bool:=onCall v fun g as pos=>onAttr g fun o m apos=>on1 as fun y=>onName o fun x p=>q.1==.split&&m=="split"&&plainE y&&apos.endLine==pos.line&&f q.2.1 (.Name x p)&&f q.2.2 y
noncomputable def newA (q:Op2×E×E) (v:Expr):Bool:=onBin v fun x op y _=>q.1==.add&&decide (op=.Add)&&f q.2.1 x&&f q.2.2 y
noncomputable def chkS (fB:S→List Stmt→Bool) (is:S) (st:Stmt):Bool:=match is with
 | .set i ie=>onAsg st fun t v _=>onName t fun x _=>setB N nm f i ie x v
 | .own i ie=>onAsg st fun t v _=>onName t fun x _=>N[i]?==some x&&locB nm x&&((onList v fun es _=>(lstE ie).any fun a=>chkA f a es&&(argN a).any (·≤1000))||(op2E ie).any fun q=>newS f q v||newA f q v)
 | .put i ik ie=>onAsg st fun t v _=>onSub t fun o kx _=>onName o fun x _=>N[i]?==some x&&visB nm x&&okN x&&!isPeek ie&&!isPeek ik&&ixE kx&&subE v&&f ie v&&f ik kx
 | .ret ie=>onRet st fun v=>!isPeek ie&&f ie v
 | .ife c a b=>onIfS st fun t x y=>f c t&&fB a x&&fB b y
 | .loop t it b=>onFor st fun tgt iter body=>tgB N nm t tgt&&notSet iter&&chkI Gam nm f tgt it iter&&fB b body
 | .app i ie=>onExS st fun e=>onCall e fun g as cpos=>onAttr g fun o m apos=>onName o fun x _=>on1 as fun v=>m=="append"&&N[i]?==some x&&visB nm x&&okN x&&!isPeek ie&&plainE v&&apos.endLine==cpos.line&&f ie v
 | .nx=>isPass st
 | .asg t ie=>onAsg st fun g v _=>isManyT t&&tgB N nm t g&&asgV v&&!isPeek ie&&f ie v
 | _=>false
end
noncomputable def chkSs (fS:S→Stmt→Bool):S→List Stmt→Bool
 | .nx,[]=>true
 | .seq (.frz _) b,sts=>chkSs fS b sts
 | .seq a b,st::rest=>fS a st&&chkSs fS b rest
 | a,[st]=>fS a st
 | _,_=>false
noncomputable def chkBody (Gam:Info) (m:Nat):Nat→List Str→Nms→S→List Stmt→Bool
 | 0,_,_,_,_=>false
 | n+1,N,nm,is,sts=>chkSs (chkS Gam N nm (chkE Gam m N nm) (chkBody Gam m n N nm)) is sts
section
variable {X:Cx} {cf:CF} {k:Nat} {Gam:Info} {m:Nat}
theorem locB_of {x:Str} (h:locB X.env.scope.names x=true):Loc X.env.scope x:=by
 simp only [locB,Bool.or_eq_true,beq_iff_eq] at h
 exact h
theorem ok_tgN (hN:X.N.Nodup) (hfn:∀ x,X.fn x=true):∀ {is:List Nat} {es:List Expr},tgN X.N X.env.scope.names is es=true→PGs X es (gMany is)∧(assignEach es X.env).length=is.length∧(assignEach es X.env).findIdx? (·.1)=none
 | [],[],_=>⟨pgs_nil,rfl,rfl⟩
 | i::is,[],h=>nomatch (show false=true from h)
 | [],_::_,h=>nomatch (show false=true from h)
 | i::is,e::es,h=>by
  obtain ⟨h1,h2⟩:=(Bool.and_eq_true _ _).mp (show ((onName e fun x _=>X.N[i]?==some x&&locB X.env.scope.names x)&&tgN X.N X.env.scope.names is es)=true from h)
  obtain ⟨q1,q2,q3⟩:=ok_tgN hN hfn h2
  clear h
  refine onName_el h1 fun x p h=>?_
  simp only [Bool.and_eq_true,beq_iff_eq] at h
  refine ⟨pgs_cons (pg_name hN h.1 (locB_of h.2) (.inl (hfn x))) q1 rfl,?_,?_⟩
  ·show (assignEach es X.env).length+1=is.length+1
   rw [q2]
  ·show List.findIdx? _ ((false,_)::assignEach es X.env)=none
   rw [List.findIdx?_cons,q3]
   rfl
theorem ok_tgB (hc:X.calm=true) (hN:X.N.Nodup) (hfn:∀ x,X.fn x=true) {t:Tg} {e:Expr} (h:tgB X.N X.env.scope.names t e=true):PG X e (gS X.K t):=by
 cases t with
 | one i=>
  refine onName_el (show onName e _=true from h) fun x p h=>?_
  simp only [Bool.and_eq_true,beq_iff_eq] at h
  exact pg_name hN h.1 (locB_of h.2) (.inl (hfn _))
 | many is=>
  refine onTup_el (show onTup e _=true from h) fun es j p h=>?_
  obtain ⟨q1,q2,q3⟩:=ok_tgN hN hfn h
  exact pg_tup hc q1 q2 q3
theorem st_asg {is:List Nat} {es:List Expr} {e:Expr} {ie:E} {j:Nat} {p pos:Pos} (hg:PG X (.Tuple es j p) (gS X.K (.many is))) (he:PE X e (tE cf X.K ie)) (hk:isPeek ie=false) (hv:asgV e=true):PS X (.Assign [.Tuple es j p] e pos) (tS cf X.K (.asg (.many is) ie)):=by
 refine (ps_asg he hg (by cases e <;> first | rfl | exact absurd (show false=true from hv) Bool.false_ne_true) (by cases e <;> first | rfl | exact absurd (show false=true from hv) Bool.false_ne_true) rfl).weak fun D σ H ⟨G0,H0,G,ρ,o,T,e,k⟩=>?_
 obtain ⟨p,e1,e2⟩:=bnd_eq.mp (show bnd (evE cf ie ρ) (fun p=>bnd (bindS (.many is) p ρ) fun ρ1=>some (Out.nx ρ1))=some o from e)
 obtain ⟨ρ1,e3,e4⟩:=bnd_eq.mp e2
 cases e4
 exact ⟨G,ρ,p,T.sr,e1,fun v G' H' x r=>bindS_ok (T.ext x) (r.rp hk) e3 fun σ' T'=>k σ' G' H' T'⟩
theorem isLC_el {v:Expr} {P:Expr→Prop} (h:isLC v=true) (H:∀ y gs scope pos,P (.ListComp y gs scope pos)):P v:=by
 cases v with
 | ListComp y gs scope pos=>exact H y gs scope pos
 | _=>exact nomatch (show false=true from h)
theorem isCompE_el {ie:E} {P:E→Prop} (h:isCompE ie=true) (H:∀ tg caps it cond elt,P (.comp tg caps it cond elt)):P ie:=by
 cases ie with
 | comp tg caps it cond elt=>exact H tg caps it cond elt
 | _=>exact nomatch (show false=true from h)
theorem lstE_of {ie a:E} (h:lstE ie=some a):ie=.lst a:=by
 cases ie with
 | lst b=>cases (show some b=some a from h);rfl
 | _=>exact nomatch (show none=some a from h)
theorem op2E_of {ie:E} {q:Op2×E×E} (h:op2E ie=some q):ie=.op2 q.1 q.2.1 q.2.2:=by
 cases ie with
 | op2 o a b=>cases (show some (o,a,b)=some q from h);rfl
 | _=>exact nomatch (show none=some q from h)
theorem ok_setS (g:Good X k cf Gam) (hk:X.env.scope.kind=.function) (hN:X.N.Nodup) (hfn:∀ x,X.fn x=true) {i:Nat} {ie:E} {x:Str} {v:Expr} {p pos:Pos} (h:setB X.N X.env.scope.names (chkE Gam (m+1) X.N X.env.scope.names) i ie x v=true):
  PS X (.Assign [.Name x p] v pos) (tS cf X.K (.set i ie)):=by
 simp only [setB,Bool.and_eq_true,beq_iff_eq,Bool.not_eq_true',Bool.or_eq_true] at h
 obtain ⟨⟨⟨⟨h1,h2⟩,h3⟩,h4⟩,h5⟩:=h
 rcases h4 with hc | ⟨hl,hi⟩
 ·exact st_set hN h1 (locB_of h2) (.inl (hfn x)) (chk_ok (cf:=cf) (k:=k) (Gam:=Gam) (m+1) X g hk ie v h5).pe h3 (swaps_no hc _ _ _)
 ·revert h5;revert h3
  refine isLC_el (P:=fun v=>isPeek ie=false→chkE Gam (m+1) X.N X.env.scope.names ie v=true→PS X (.Assign [.Name x p] v pos) (tS cf X.K (.set i ie))) hl fun y gs scope cpos=>?_
  refine isCompE_el (P:=fun ie=>isPeek ie=false→chkE Gam (m+1) X.N X.env.scope.names ie (.ListComp y gs scope cpos)=true→PS X (.Assign [.Name x p] (.ListComp y gs scope cpos) pos) (tS cf X.K (.set i ie))) hi fun tg caps it cond elt=>?_
  intro h3 h5
  refine comp_form (P:=fun v=>PS X (.Assign [.Name x p] v pos) (tS cf X.K (.set i (.comp tg caps it cond elt)))) (fun y q scope cpos h=>?_) (show chkComp Gam X.N X.env.scope.names (chkE Gam m X.N X.env.scope.names) (chkE Gam m) tg caps it cond elt (.ListComp y gs scope cpos)=true from h5)
  obtain ⟨tgt,iter,ifs,z⟩:=q
  obtain ⟨rfl,own,c⟩:=comp_data g hk (chk_ok (cf:=cf) (k:=k) (Gam:=Gam) m X g hk) (fun X' g' hk'=>chk_ok (cf:=cf) (k:=k) (Gam:=Gam) m X' g' hk') h
  obtain ⟨b,sw,sl⟩:=swaps_comp _ [⟨tgt,iter,ifs,0⟩] _ _ p x pos.line X.env
  cases b with
  | false=>exact st_set hN h1 (locB_of h2) (.inl (hfn x)) (pe_comp g.calm c.cs c.hd c.hown c.hpk c.hit c.hfs c.B) h3 sw
  | true=>exact (ps_comp g.calm c.cs c.hd c.hown c.hpk c.hit c.hfs c.B hN h1 (sl rfl) sw).weak (asg_w rfl)
theorem ok_stmt (g:Good X k cf Gam) (hk:X.env.scope.kind=.function) (hN:X.N.Nodup) (hfn:∀ x,X.fn x=true) {fB:S→List Stmt→Bool} (IHB:∀ is sts,fB is sts=true→PSs X sts (tS cf X.K is)) {is:S} {st:Stmt}
  (h:chkS Gam X.N X.env.scope.names (chkE Gam (m+1) X.N X.env.scope.names) fB is st=true):PS X st (tS cf X.K is):=by
 have IH:=chk_ok (cf:=cf) (k:=k) (Gam:=Gam) (m+1) X g hk
 cases is with
 | set i ie=>
  refine onAsg_el (show onAsg st _=true from h) fun t v pos h=>?_
  refine onName_el h fun x p h=>?_
  exact ok_setS g hk hN hfn h
 | own i ie=>
  refine onAsg_el (show onAsg st _=true from h) fun t v pos h=>?_
  refine onName_el h fun x p h=>?_
  simp only [Bool.and_eq_true,beq_iff_eq] at h
  obtain ⟨⟨h1,h2⟩,h3⟩:=h
  rcases Bool.or_eq_true_iff.mp h3 with ha | hb
  ·refine onList_el ha fun es lp hc=>?_
   cases hl:lstE ie with
   | none=>rw [hl] at hc;exact nomatch (show false=true from hc)
   | some a=>
    rw [hl] at hc
    cases lstE_of hl
    obtain ⟨h4,h5⟩:=(Bool.and_eq_true _ _).mp (show (chkA (chkE Gam (m+1) X.N X.env.scope.names) a es&&(argN a).any (·≤1000))=true from hc)
    obtain ⟨pa,n,hn,_⟩:=ok_args IH h4
    rw [hn] at h5
    exact st_own hN h1 (locB_of h2) (.inl (hfn x)) pa hn (by simpa using h5)
  ·cases hl:op2E ie with
   | none=>rw [hl] at hb;exact nomatch (show false=true from hb)
   | some q=>
    rw [hl] at hb
    obtain ⟨o,a,b⟩:=q
    cases op2E_of hl
    rcases Bool.or_eq_true_iff.mp (show (newS (chkE Gam (m+1) X.N X.env.scope.names) (o,a,b) v||newA (chkE Gam (m+1) X.N X.env.scope.names) (o,a,b) v)=true from hb) with h4 | h4
    ·refine onCall_el h4 fun g1 as cpos h=>?_
     refine onAttr_el h fun ov mm apos h=>?_
     refine on1_el h fun y h=>?_
     refine onName_el h fun x2 p2 h=>?_
     simp only [Bool.and_eq_true,beq_iff_eq] at h
     obtain ⟨⟨⟨⟨⟨rfl,rfl⟩,h5⟩,h6⟩,h7⟩,h8⟩:=h
     exact st_ownN hN h1 (locB_of h2) (.inl (hfn x)) (pn_split (IH _ _ h7).pe (IH _ _ h8).pe h5 rfl (by rw [h6];simp)) rfl
    ·refine onBin_el h4 fun x1 op y cpos h=>?_
     simp only [Bool.and_eq_true,beq_iff_eq,decide_eq_true_eq] at h
     obtain ⟨⟨⟨rfl,rfl⟩,h7⟩,h8⟩:=h
     exact st_ownN hN h1 (locB_of h2) (.inl (hfn x)) (pn_add (IH _ _ h7).pe (IH _ _ h8).pe) rfl
 | put i ik ie=>
  refine onAsg_el (show onAsg st _=true from h) fun t v pos h=>?_
  refine onSub_el h fun o kx spos h=>?_
  refine onName_el h fun x p h=>?_
  simp only [Bool.and_eq_true,beq_iff_eq,Bool.not_eq_true'] at h
  obtain ⟨⟨⟨⟨⟨⟨⟨⟨h1,h2⟩,h3⟩,h4⟩,h5⟩,h6⟩,h7⟩,h8⟩,h9⟩:=h
  obtain ⟨o1,o2,o3⟩:=okN_of h3
  exact st_put h1 (visB_of h2) o1 o2 (IH _ _ h8).pe h4 (IH _ _ h9).pe h5 h6 h7
 | ret ie=>
  refine onRet_el (show onRet st _=true from h) fun v pos h=>?_
  simp only [Bool.and_eq_true,Bool.not_eq_true'] at h
  exact st_ret (IH _ _ h.2).pe h.1
 | ife c a b=>
  refine onIfS_el (show onIfS st _=true from h) fun t x y pos h=>?_
  simp only [Bool.and_eq_true] at h
  exact st_ife (IH _ _ h.1.1).pt (IHB _ _ h.1.2) (IHB _ _ h.2)
 | loop t it b=>
  refine onFor_el (show onFor st _=true from h) fun tgt iter body pos h=>?_
  simp only [Bool.and_eq_true] at h
  obtain ⟨⟨⟨h1,h2⟩,h3⟩,h4⟩:=h
  exact st_loop g.xe g.calm (ok_iter IH g h3) (ok_tgB g.calm hN hfn h1) (IHB _ _ h4) (folded_of IH h2)
 | app i ie=>
  refine onExS_el (show onExS st _=true from h) fun e pos h=>?_
  refine onCall_el h fun g1 as cpos h=>?_
  refine onAttr_el h fun o mm apos h=>?_
  refine onName_el h fun x p h=>?_
  refine on1_el h fun v h=>?_
  simp only [Bool.and_eq_true,beq_iff_eq,Bool.not_eq_true'] at h
  obtain ⟨⟨⟨⟨⟨⟨⟨h1,h2⟩,h3⟩,h4⟩,h5⟩,h6⟩,h7⟩,h8⟩:=h
  subst h1
  obtain ⟨o1,o2,o3⟩:=okN_of h4
  exact st_app h2 (visB_of h3) o1 o2 (IH _ _ h8).pe h5 h6 (by rw [h7];simp)
 | nx=>obtain ⟨p,rfl⟩:=isPass_of h;exact st_pass
 | asg t ie=>
  refine onAsg_el (show onAsg st _=true from h) fun q v pos h=>?_
  simp only [Bool.and_eq_true,Bool.not_eq_true'] at h
  obtain ⟨⟨⟨⟨h0,h1⟩,h2⟩,h3⟩,h4⟩:=h
  cases t with
  | one i=>exact nomatch (show false=true from h0)
  | many js=>
   have hg:=ok_tgB g.calm hN hfn h1
   revert hg
   refine onTup_el (show onTup q _=true from h1) fun es j p _ hg=>?_
   exact st_asg hg (IH _ _ h4).pe h3 h2
 | _=>exact nomatch (show false=true from h)
theorem ok_stmts {fS:S→Stmt→Bool} (IH:∀ is st,fS is st=true→PS X st (tS cf X.K is)):∀ (is:S) (sts:List Stmt),chkSs fS is sts=true→PSs X sts (tS cf X.K is):=by
 intro is
 induction is with
 | seq a b iha ihb=>
  intro sts h
  unfold chkSs at h
  split at h
  ·rename_i heq;cases heq
  ·rename_i i b' sts' heq
   injection heq with q1 q2
   subst q1 q2
   exact ss_frz (ihb _ h)
  ·rename_i a' b' st rest _ heq
   injection heq with q1 q2
   subst q1 q2
   simp only [Bool.and_eq_true] at h
   exact ss_cons (IH _ _ h.1) (ihb _ h.2)
  ·rename_i a' st hna _ _
   exact ss_one (IH _ _ h)
  ·cases h
 | nx=>
  intro sts h
  cases sts with
  | nil=>exact ss_nil
  | cons st rest=>
   cases rest with
   | nil=>exact ss_one (IH _ _ (by simpa [chkSs] using h))
   | cons _ _=>simp [chkSs] at h
 | _=>
  intro sts h
  cases sts with
  | nil=>simp [chkSs] at h
  | cons st rest=>
   cases rest with
   | nil=>exact ss_one (IH _ _ (by simpa [chkSs] using h))
   | cons _ _=>simp [chkSs] at h
theorem ok_body (g:Good X k cf Gam) (hk:X.env.scope.kind=.function) (hN:X.N.Nodup) (hfn:∀ x,X.fn x=true):∀ (n:Nat) (is:S) (sts:List Stmt),chkBody Gam (m+1) n X.N X.env.scope.names is sts=true→PSs X sts (tS cf X.K is)
 | 0,is,sts,h=>by cases h
 | n+1,is,sts,h=>ok_stmts (fun is st h=>ok_stmt (m:=m) g hk hN hfn (ok_body g hk hN hfn n) h) is sts h
end
theorem sr_start {K:PySem.W.Frag} {G H:Hp} {N:List Str} {F:Fn} {vs:List V} {ps:List PV} (s:Sub G H) (r:RpA K G ps vs) (h1:ps.length=F.np) (h2:N.length=F.ns) (h3:F.np≤F.ns):
  SR K G H (L2.start N vs) (DD.start F ps):=by
 have hl:=r.length
 have noown:∀ (i:Nat) (sl:Sl),(DD.start F ps)[i]?=some sl→isOwn sl=false:=fun i sl e=>by
  have hm:=List.mem_of_getElem? e
  simp only [DD.start,List.mem_append,List.mem_map,List.mem_replicate] at hm
  rcases hm with ⟨p,_,rfl⟩ | ⟨_,rfl⟩ <;> rfl
 refine ⟨?_,s,fun i sl o e1 e2=>?_,fun i j si sj a _ e1 _ o1 _ _=>?_⟩
 ·simp only [L2.start,DD.start,List.length_append,List.length_map,List.length_replicate]
  lia
 ·simp only [DD.start] at e1
  simp only [L2.start] at e2
  by_cases hi:i<ps.length
  ·rw [List.getElem?_append_left (by simpa using hi)] at e1
   rw [List.getElem?_append_left (by simpa using (by lia:i<vs.length))] at e2
   rw [List.getElem?_map] at e1 e2
   obtain ⟨p,ep⟩:∃ p,ps[i]?=some p:=⟨_,List.getElem?_eq_getElem hi⟩
   obtain ⟨v,ev,rv⟩:=r.get ep
   rw [ep] at e1;rw [ev] at e2
   cases e1;cases e2
   exact ⟨v,rfl,rv⟩
  ·have hm:sl∈List.replicate (F.ns - F.np) Sl.un:=by
    rw [List.getElem?_append_right (by simpa using hi)] at e1
    exact List.mem_of_getElem? e1
   rw [(List.mem_replicate.mp hm).2]
   trivial
 ·have:=noown i si e1
  rw [this] at o1;cases o1
structure DI where
 x:Str
 id:Nat
 st:Stmt
 N:List Str
 ps:List Str
structure Def1 (K:PySem.W.Frag) (mg:Str→Option Value) (T:Tab) (Gam:Info) (d:DI) (f:Addr) (fd:FuncData):Prop where
 F:Fun K d.x d.x d.st f fd
 b:Binds K fd d.ps []
 m:mg d.x=some (.ref f)
 S:FnScope d.N d.ps (defScope d.st)
 c:∃ B,T d.id=some B∧d.ps.length=B.np∧d.N.length=B.ns∧B.np≤B.ns∧chkBody Gam 200 200 d.N (defScope d.st).names B.body (defBody d.st)=true
theorem spD_len {K:PySem.W.Frag} {n:Nat} {r:List PV→Option PV}:∀ vs H Q E,spD K n r vs H Q E→vs.length=n:=fun _ _ _ _ h=>h.1
noncomputable def flatArgs:List PV→List Value→Bool
 | [],[]=>true
 | .str s::ps,.str s' _::us=>s==s'&&PyData.strOk s&&decide (s.length≤16777216)&&flatArgs ps us
 | .int i::ps,.int j _::us=>i==j&&flatArgs ps us
 | _,_=>false
theorem flat_of {K:PySem.W.Frag}:∀ (ps:List PV) {us:List Value},flatArgs ps us=true→∃ vs,Vals vs us∧∀ G,RpL K G ps vs:=by
 intro ps
 induction ps with
 | nil=>
  intro us h
  cases us with
  | nil=>exact ⟨[],.nil,fun _=>rfl⟩
  | cons _ _=>cases h
 | cons p ps ih=>
  intro us h
  cases us with
  | nil=>cases p <;> exact nomatch (show false=true from h)
  | cons u us=>
   cases p with
   | str s=>
    cases u with
    | str s' t=>
     have h':(s==s'&&PyData.strOk s&&decide (s.length≤16777216)&&flatArgs ps us)=true:=h
     simp only [Bool.and_eq_true,beq_iff_eq,decide_eq_true_eq] at h'
     obtain ⟨⟨⟨rfl,h1⟩,h2⟩,h3⟩:=h'
     obtain ⟨vs,a,b⟩:=ih h3
     exact ⟨.str _::vs,.cons ⟨t,rfl⟩ a,fun G=>⟨.str _,vs,rfl,⟨rfl,rfl,h1,h2⟩,b G⟩⟩
    | _=>exact nomatch (show false=true from h)
   | int i=>
    cases u with
    | int j t=>
     obtain ⟨h1,h3⟩:=(Bool.and_eq_true _ _).mp (show (i==j&&flatArgs ps us)=true from h)
     cases eq_of_beq h1
     obtain ⟨vs,a,b⟩:=ih h3
     exact ⟨.int _::vs,.cons ⟨t,rfl⟩ a,fun G=>⟨.int _,vs,rfl,⟨rfl,rfl⟩,b G⟩⟩
    | _=>exact nomatch (show false=true from h)
   | _=>exact nomatch (show false=true from h)
theorem con_tup {K:PySem.W.Frag} {mg:Str→Option Value} {x:Str} {a:Addr} {od:Option Addr} {its:Array Value} {n:Nat} {sl:Array (Option Value)} {ps:List PV} (hm:mg x=some (.ref a))
  (hl:K.lookup a=some ⟨.type "tuple",od,.seq its n,sl⟩) (h:flatArgs ps its.toList=true) (hs:its.size≤sizeLine):∃ u v,mg x=some u∧RelV v u∧∀ G,Rp K G (.tuple ps) v:=by
 obtain ⟨vs,r,b⟩:=flat_of (K:=K) _ h
 exact ⟨.ref a,.ref a,hm,rfl,fun G=>⟨a,vs,rfl,.inr ⟨_,its,n,hl,rfl,rfl,hs,r⟩,b G⟩⟩
theorem con_str {K:PySem.W.Frag} {mg:Str→Option Value} {x s:Str} {t:Tok} (hm:mg x=some (.str s t)) (h1:PyData.strOk s=true) (h2:s.length≤16777216):∃ u v,mg x=some u∧RelV v u∧∀ G,Rp K G (.str s) v:=
 ⟨_,.str s,hm,⟨t,rfl⟩,fun G=>⟨rfl,h1,h2⟩⟩
theorem con_int {K:PySem.W.Frag} {mg:Str→Option Value} {x:Str} {i:Int} {t:Tok} (hm:mg x=some (.int i t)):∃ u v,mg x=some u∧RelV v u∧∀ G,Rp K G (.int i) v:=
 ⟨_,.int i,hm,⟨t,rfl⟩,fun G=>rfl⟩
noncomputable def ValOk (K:PySem.W.Frag) (p:PV) (v:Value):Prop:=flatArgs [p] [v]=true∨∃ a od its n sl qs,v=.ref a∧p=.tuple qs∧K.lookup a=some ⟨.type "tuple",od,.seq its n,sl⟩∧flatArgs qs its.toList=true∧its.size≤sizeLine
theorem val_of {K:PySem.W.Frag} {p:PV} {u:Value} (h:ValOk K p u):∃ v,RelV v u∧isDict p=false∧∀ G,Rp K G p v:=by
 rcases h with h | ⟨a,od,its,n,sl,qs,rfl,rfl,hl,h,hs⟩
 ·obtain ⟨ws,r1,r2⟩:=flat_of (K:=K) [p] h
  cases r1 with
  | cons r rr=>
   cases rr
   rename_i v
   refine ⟨v,r,?_,fun G=>?_⟩
   ·obtain ⟨v',r',ev,hv,_⟩:=(show ∃ v' r',[v]=v'::r'∧(isDict p=false∧Rp K (fun _=>none) p v')∧RpL K (fun _=>none) [] r' from r2 _)
    exact hv.1
   ·obtain ⟨v',r',ev,hv,_⟩:=(show ∃ v' r',[v]=v'::r'∧(isDict p=false∧Rp K G p v')∧RpL K G [] r' from r2 G)
    cases ev
    exact hv.2
 ·obtain ⟨vs,r,b⟩:=flat_of (K:=K) _ h
  exact ⟨.ref a,rfl,rfl,fun G=>⟨a,vs,rfl,.inr ⟨_,its,n,hl,rfl,rfl,hs,r⟩,b G⟩⟩
noncomputable def EntsOk (K:PySem.W.Frag) (P:Params):List (PV×PV)→List DictEntry→Prop
 | [],[]=>True
 | (k,p)::kvs,e::es=>(∃ x t,k=PyData.str x∧e.key=.str x t∧e.hash=PyData.keyHash P x)∧(∃ v,e.val=v∧ValOk K p v)∧EntsOk K P kvs es
 | _,_=>False
theorem ents_of {K:PySem.W.Frag} {P:Program} {w:World}:∀ {kvs:List (PV×PV)} {es:List DictEntry},EntsOk K w.params kvs es→∃ (l:List (Key×V)) (vs:List (Key×Value)),(∀ G,RpD K G kvs l)∧KV l vs∧Pairs (mixKind P w) es vs∧(∀ e∈es,∃ k,(mixKind P w).is k e.key=true∧e.hash=(mixKind P w).hash k)∧kvs.map (fun kv=>keyOf kv.1)=vs.map fun x=>some x.1
 | [],[],_=>⟨[],[],fun _=>rfl,.nil,.nil,fun e he=>absurd he (by simp),rfl⟩
 | [],_::_,h=>absurd h id
 | _::_,[],h=>absurd h id
 | (k,p)::kvs,e::es,h=>by
  obtain ⟨⟨x,t,rfl,e1,e2⟩,⟨_,rfl,h1⟩,h2⟩:=(show (∃ x t,k=PyData.str x∧e.key=.str x t∧e.hash=PyData.keyHash w.params x)∧(∃ v,e.val=v∧ValOk K p v)∧EntsOk K w.params kvs es from h)
  obtain ⟨l,vs,q1,q2,q3,q4,q5⟩:=ents_of (K:=K) (P:=P) (w:=w) h2
  obtain ⟨v,r,hd,b⟩:=val_of h1
  have his:(mixKind P w).is (.inr x) e.key=true:=by rw [e1];exact keyIs_str x t
  refine ⟨(.inr x,v)::l,(.inr x,e.val)::vs,fun G=>⟨.inr x,v,l,rfl,rfl,⟨hd,b G⟩,q1 G⟩,.cons ⟨rfl,r⟩ q2,.cons his rfl q3,fun e' he=>?_,?_⟩
  ·rcases List.mem_cons.mp he with rfl | he
   ·exact ⟨.inr x,his,e2⟩
   ·exact q4 e' he
  ·rw [List.map_cons,List.map_cons,q5];rfl
theorem con_dct {K:PySem.W.Frag} {mg:Str→Option Value} {x:Str} {a:Addr} {es:List DictEntry} {ep:Nat} {P:Program} {w:World} {kvs:List (PV×PV)} (hm:mg x=some (.ref a)) (hsys:(a==sysModules)=false) (hl:K.lookup a=some ⟨.type "dict",none,.dict es.toArray ep,#[]⟩) (hE:EntsOk K w.params kvs es) (hn:decide (kvs.map fun kv=>keyOf kv.1).Nodup=true):
  ∃ a l vs,mg x=some (.ref a)∧(a==sysModules)=false∧(∀ G,RpD K G kvs l)∧KV l vs∧∀ h:Heap,K.In h→h.DictOf (mixKind P w) a vs:=by
 obtain ⟨l,vs,q1,q2,q3,q4,q5⟩:=ents_of (K:=K) (P:=P) (w:=w) hE
 refine ⟨a,l,vs,hm,hsys,q1,q2,fun h hK=>⟨_,es.toArray,ep,hK a _ hl,⟨rfl,rfl,rfl⟩,rfl,fun e he=>q4 e (by simpa using he),by simpa using q3,?_⟩⟩
 have:=of_decide_eq_true hn
 rw [q5,show (vs.map fun x=>some x.1)=(vs.map (·.1)).map some from by rw [List.map_map];rfl] at this
 exact List.Pairwise.of_map some (fun a b h e=>h (congrArg some e)) this
@[elab_as_elim] theorem lens1 {P:List Value→Prop} (h:∀ a,P [a]) (us:List Value) (hl:us.length=1):P us:=by
 cases us with
 | nil=>cases hl
 | cons a us=>
  cases List.length_eq_zero_iff.mp (Nat.succ.inj hl)
  exact h a
@[elab_as_elim] theorem lens2 {P:List Value→Prop} (h:∀ a b,P [a,b]) (us:List Value) (hl:us.length=2):P us:=by
 cases us with
 | nil=>cases hl
 | cons a us=>exact lens1 (P:=fun r=>P (a::r)) (h a) us (Nat.succ.inj hl)
@[elab_as_elim] theorem lens3 {P:List Value→Prop} (h:∀ a b c,P [a,b,c]) (us:List Value) (hl:us.length=3):P us:=by
 cases us with
 | nil=>cases hl
 | cons a us=>exact lens2 (P:=fun r=>P (a::r)) (h a) us (Nat.succ.inj hl)
theorem rpL_ints {K:PySem.W.Frag} {G:Hp}:∀ ns:List Int,RpL K G (ns.map .int) (ns.map V.int)
 | []=>rfl
 | n::ns=>⟨_,_,rfl,⟨rfl,rfl⟩,rpL_ints ns⟩
theorem sp_law {K:PySem.W.Frag} {r:List PV→Option PV} {H:Hp} {a:Addr} {ns:List Int} (h:r [.list (ns.map .int)]=some (.bool true)) (hS:SqL K H a (ns.map V.int)):
  spD K 1 r [.ref a] H (fun v _=>v=.bl true) fun _ _ _=>False:=
 ⟨rfl,H,[.list (ns.map .int)],_,.refl _,⟨.ref a,[],rfl,⟨a,_,rfl,hS,rpL_ints ns⟩,rfl⟩,h,fun v G' H' x r=>r⟩
structure Lying (P:Program) (w:World) (l:List PySem.Env) (H:Hp) (s:Shared) (B:Heap) (H':Hp) (s':Shared):Prop where
 os:s'.os=s.os
 bare:AllBare s'.gens
 un:Un (frs l) [] H H' s.heap s'.heap
 kb:∀ b o,s.heap.get? b=some o→H b=none→b∉frs l→B.get? b=some o
 th:∀ b o,s.heap.get? b=some o→b∉frs l→∃ o',B.get? b=some o'
 hok:HOk P w H' B
section
variable {P:Program} {w:World} {l:List PySem.Env} {H H':Hp} {s s':Shared} {B h':Heap}
theorem Lying.step (y:Lying P w l H s B H' s') (f:s'.heap.FunFrames B l) (f':h'.FunFrames B l) (k:B.StaysIn h') (u:s'.heap.UpToSlots h'):Lying P w l H s B H' {s' with heap:=h'}:=by
 refine ⟨y.os,y.bare,⟨fun b o q n hb _=>k b o (y.kb b o q n hb),fun b o q n hb hx=>?_,y.un.free,fun b o q hx=>?_,y.un.tups,y.un.frzs,y.un.tbls⟩,y.kb,y.th,y.hok⟩
 ·obtain ⟨sl,e⟩:=y.un.slot b o q n hb hx
  obtain ⟨_,o',e',nf⟩:=f.mem hb
  rw [e] at e';cases e'
  obtain ⟨sl',e2⟩:=u b _ e nf
  exact ⟨sl',e2⟩
 ·by_cases hb:b∈frs l
  ·obtain ⟨_,o',e',_⟩:=f'.mem hb
   exact ⟨o',e'⟩
  ·obtain ⟨o',e'⟩:=y.th b o q hb
   exact ⟨o',k b o' e'⟩
end
noncomputable def CXN (P:Program) (w:World) (C:Addr):CXT:=fun l H s E e s'=>∃ a t B H',e=.ref a∧Heap.FlyingW B l a (.ref C) (.ref t) s'.heap∧Lying P w l H s B H' s'∧E e none H'
structure Own (X:Cx):Prop where
 stk:X.stack=X.env::X.outer
 frame:X.env.frame=some X.env.locals
 ex:X.ex=[]
section
variable {X:Cx} {pins:List (Addr×Obj)} {σ:St} {H H':Hp} {s s':Shared} {B:Heap}
theorem Own.frs (O:Own X):L2.frs X.stack=X.env.locals::L2.frs X.outer:=by
 rw [O.stk];unfold L2.frs;rw [List.filterMap_cons,O.frame]
theorem Own.out (O:Own X) (I:Inv X pins σ H s) {b:Addr} {o:Obj} (e:X.s₀.heap.get? b=some o):b≠X.env.locals:=fun z=>by
 have:=Heap.lt_size e
 have:=I.ok.above
 rw [z] at *
 lia
theorem Own.notin (O:Own X) (I:Inv X pins σ H s) {b:Addr} {o:Obj} (e:X.s₀.heap.get? b=some o) (hb:b∉L2.frs X.outer):b∉L2.frs X.stack:=fun z=>by
 rw [O.frs] at z
 rcases List.mem_cons.mp z with z | z
 ·exact O.out I e z
 ·exact hb z
theorem Own.base (O:Own X) (I:Inv X pins σ H s):Un (L2.frs X.outer) [] X.H₀ H X.s₀.heap s.heap:=by
 have:=I.base
 rw [O.ex] at this
 exact this
theorem Own.lying (O:Own X) (I:Inv X pins σ H s) (y:Lying X.prog X.w X.stack H s B H' s'):Lying X.prog X.w X.outer X.H₀ X.s₀ B H' s':=by
 have U:=O.base I
 have nx:∀ b:Addr,b∉([]:List Addr):=fun b z=>by cases z
 refine ⟨y.os.trans I.os,y.bare,⟨fun b o e n hb hx=>?_,fun b o e n hb hx=>?_,fun b o e n hx=>?_,fun b o e hx=>?_,fun b xs q=>y.un.tups b xs (U.tups b xs q),fun b o xs q=>y.un.frzs b o xs (U.frzs b o xs q),fun b ps q=>?_⟩,
  fun b o e n hb=>y.kb b o (U.keep b o e n hb (nx b)) (U.free b o e n (nx b)) (O.notin I e hb),fun b o e hb=>?_,y.hok⟩
 ·exact y.un.keep b o (U.keep b o e n hb hx) (U.free b o e n hx) (O.notin I e hb) hx
 ·obtain ⟨sl,e1⟩:=U.slot b o e n hb hx
  obtain ⟨sl',e2⟩:=y.un.slot b _ e1 (U.free b o e n hx) (by rw [O.frs];exact List.mem_cons_of_mem _ hb) hx
  exact ⟨sl',e2⟩
 ·obtain ⟨o',e1⟩:=U.there b o e hx
  exact y.un.free b o' e1 (U.free b o e n hx) hx
 ·obtain ⟨o',e1⟩:=U.there b o e hx
  exact y.un.there b o' e1 hx
 ·obtain ⟨m1,e1⟩:=U.tbls b ps q
  obtain ⟨m2,e2⟩:=y.un.tbls b _ e1
  exact ⟨m1++m2,by rw [e2,Array.append_assoc]⟩
 ·obtain ⟨o',e1⟩:=U.there b o e (nx b)
  exact y.th b o' e1 (O.notin I e hb)
theorem lying_made (I:Inv X pins σ H s) {h':Heap} (k:∀ b o,s.heap.get? b=some o→h'.get? b=some o):
  Lying X.prog X.w X.stack H s (PySem.W.hideAll s.heap (L2.frs X.stack)) H {s with heap:=h'}:=by
 refine ⟨rfl,I.bare,Un.kept k,fun b o e _ hb=>PySem.W.hideAll_get _ e hb,fun b o e hb=>⟨o,PySem.W.hideAll_get _ e hb⟩,fun a x hx=>?_⟩
 refine (I.hok a x hx).stay (fun b u hb e=>PySem.W.hideAll_get _ e fun z=>?_) (fun _ q=>q) fun _ _ q=>q
 have hn:=I.stkFree b z
 rcases hb with rfl | hb
 ·rw [hx] at hn;cases hn
 ·rw [hb] at hn;cases hn
end
section
variable {P:Program} {w:World} {K:PySem.W.Frag} {mg:Str→Option Value} {base:Heap} {N:List Str} {qual:Str} {scope:Scope} {f:Addr} {cd:Value} {A:Around} {outer:List PySem.Env} {s₀:Shared} {H₀:Hp} {E₀:XK} {C:Addr}
theorem own_cxOf {CX:CXT}:Own (cxOf CX P w K mg base N qual scope f cd A outer s₀ H₀ E₀):=⟨rfl,rfl,rfl⟩
theorem passes {E:XK} (hE:∀ e H',E e none H'→E₀ e none H'):Passes (CXN P w C) (cxOf (CXN P w C) P w K mg base N qual scope f cd A outer s₀ H₀ E₀) E:=by
 intro pins σ H s e s' I hx
 obtain ⟨a,t,B,H',rfl,fl,y,q⟩:=hx
 have hfr:(cxOf (CXN P w C) P w K mg base N qual scope f cd A outer s₀ H₀ E₀).A.frames=some (envOfC qual scope s₀.heap.objs.size f cd::outer):=I.ok.frames
 refine wpAny_leaves_onW hfr rfl fl fun h' fl' up=>⟨a,t,B,H',rfl,fl',?_,hE _ _ q⟩
 obtain ⟨_,_,⟨_,_,f3⟩,_⟩:=fl
 exact (own_cxOf.lying I y).step f3 fl'.2.2.1 fl'.1 up
theorem xe_made {pins:List (Addr×Obj)} {σ:St} {H:Hp} {s:Shared} {h':Heap} {a:Addr} {args:List Value} (I:Inv (cxOf (CXN P w C) P w K mg base N qual scope f cd A outer s₀ H₀ E₀) pins σ H s)
  (hx:Heap.MadeExcOf s.heap h' a (.ref C) args) (q:E₀ (.ref a) none H):(cxOf (CXN P w C) P w K mg base N qual scope f cd A outer s₀ H₀ E₀).xe (.ref a) {s with heap:=h'}:=by
 have hfr:(cxOf (CXN P w C) P w K mg base N qual scope f cd A outer s₀ H₀ E₀).A.frames=some (envOfC qual scope s₀.heap.objs.size f cd::outer):=I.ok.frames
 have y:=lying_made I hx.keeps
 have hl:s.heap.FunFrames (PySem.W.hideAll s.heap (L2.frs (envOfC qual scope s₀.heap.objs.size f cd::outer))) (envOfC qual scope s₀.heap.objs.size f cd::outer):=
  PySem.W.funFrames_hide I.stack fun env he a ha=>List.mem_filterMap.mpr ⟨env,he,ha⟩
 refine wpAny_leaves_madeW (s:={s with heap:=h'}) hfr rfl (fun b o e=>PySem.W.of_hideAll _ e) hl hx fun h'' t fl _ _ up=>⟨a,t,_,H,rfl,fl,?_,q⟩
 have hl':h'.FunFrames (PySem.W.hideAll s.heap (L2.frs (envOfC qual scope s₀.heap.objs.size f cd::outer))) (envOfC qual scope s₀.heap.objs.size f cd::outer):=hl.of_keeps fun b o e _=>⟨o,hx.keeps b o e,rfl⟩
 exact (own_cxOf.lying I y).step hl'.2.2 fl.2.2.1 fl.1 up
end
section
variable {X:Cx}
theorem strOk_lt {x:Str} (h:PyData.strOk x=true):∀ c∈x.cps.toList,c<16 ^ 8:=by
 intro c hc
 unfold PyData.strOk at h
 rw [Array.all_eq_true_iff_forall_mem] at h
 have:=h c (by simpa using hc)
 simp at this
 lia
noncomputable def tFst (te:TE):TE:=fun σ H Q=>te σ H fun x H1=>∃ z,x=.str z∧PyData.strOk z=true∧z.length≤1000000∧∀ out,Q (.str out) H1
theorem pe_fstr {e:Expr} {te:TE} {c1 c2:Str} {j1 j2:Nat} {p1 p2 p3 pos:Pos} (he:PE X e te) (h1:c1.length≤1000) (h2:c2.length≤1000):
  PE X (.JoinedStr [.Constant (.str c1) j1 p1,.FormattedValue e 114 none p2,.Constant (.str c2) j2 p3] pos) (tFst te):=by
 intro pins s σ H Q I h
 refine JoinedStr_many ?_
 refine joinParts_cons (thn (pe_str pins s σ H (fun x H1=>x=.str c1∧H1=H) I ⟨rfl,rfl⟩) fun v s1 ⟨x,H1,I1,r1,ex,eH⟩=>?_)
 subst ex eH
 obtain ⟨t1,rfl⟩:=r1
 have line:=line_eq
 have e1:(Str.empty++c1).length=c1.length:=by rw [length_append];exact Nat.zero_add _
 refine ⟨by rw [e1];lia,joinParts_cons (wpAny_FormattedValue_repr (thn (he pins s1 σ H1 _ I1 h) fun v s2 ⟨x,H2,I2,r2,z,ez,so,sl,q⟩=>?_))⟩
 subst ez
 obtain ⟨t2,rfl⟩:=r2
 have hr:=StrLaws.reprText_len z (strOk_lt so)
 refine wpAny_pyReprObj_str (formatField_str (fun t' tk=>?_) (by lia)) (by lia)
 have e2:(Str.empty++c1++reprText z).length=c1.length+(reprText z).length:=by rw [length_append,e1]
 refine ⟨by rw [e2];lia,joinParts_cons (thn (pe_str pins _ σ H2 (fun x H3=>x=.str c2∧H3=H2) ((I2.tok _).tok tk) ⟨rfl,rfl⟩) fun v s3 ⟨x,H3,I3,r3,ex3,eH3⟩=>?_)⟩
 subst ex3 eH3
 obtain ⟨t3,rfl⟩:=r3
 have e3:(Str.empty++c1++reprText z++c2).length=c1.length+(reprText z).length+c2.length:=by rw [length_append,e2]
 exact ⟨by rw [e3];lia,joinParts_nil ⟨.str _,H3,I3.tok _,⟨_,rfl⟩,q _⟩ (by rw [e3];lia)⟩
end
section
variable {P:Program} {w:World} {K:PySem.W.Frag} {mg:Str→Option Value} {base:Heap} {N:List Str} {qual:Str} {scope:Scope} {f:Addr} {cd:Value} {A:Around} {outer:List PySem.Env} {s₀:Shared} {H₀:Hp} {E₀:XK} {C:Addr}
def bmV:List Value:=[.type "ValueError",.type "Exception",.type "BaseException",.type "object"]
theorem exc_of {h₀:Heap} {bmB:List Value} {newId:String} (X:K.In h₀) (q:PySem.W.excIn K C bmB newId=true):
  ∃ bm N nm q bs hdct sn sub ab col dd k0 k1 k2 k3 k5 mN,h₀.get? C=some (excClassObj nm q C N bs bm hdct sn sub ab col dd k0 k1 k2 k3 k5 newId)∧h₀.Ns N mN∧mN "__init__"=none∧OwnTail h₀ bmB bm:=by
 unfold PySem.W.excIn at q
 split at q
 ·rename_i dd cd sl ho
  split at q
  ·rename_i C' bm k0 k1 k2 k3 n k5 hm hs
   simp only [Bool.and_eq_true,beq_iff_eq,Bool.not_eq_true'] at q
   obtain ⟨⟨⟨⟨⟨e1,e2⟩,hdel⟩,ht⟩,hok⟩,hni⟩:=q
   subst e1 e2
   obtain ⟨nm,bs,mro,ns,qn,hd,sn,sub,ab,col,del⟩:=cd
   dsimp only at hm hdel hok hni
   subst hm hdel
   obtain ⟨l⟩:=sl
   have hl:l=[k0,k1,k2,k3,some (.builtin n),k5]:=hs
   subst hl
   exact ⟨bm,ns,nm,qn,bs,hd,sn,sub,ab,col,dd,k0,k1,k2,k3,k5,_,X _ _ ho,.of_isNs (PySem.W.isNs_of_in X hok),PySem.W.nsMap_none_of_in X hok hni,PySem.W.tail_of_in X ht⟩
  ·cases q
 ·cases q
noncomputable def tRaise (te:TE) (E:XK):TS:=fun _ σ H=>te σ H fun x H1=>[x].length≤1∧∀ a,E (.ref a) none H1
theorem ps_raise {x:Str} {e:Expr} {te:TE} {np cpos pos:Pos} (hX:PySem.W.excIn K C bmV "ValueError.__new__"=true) (hm:mg x=some (.ref C))
  (hg:Gl (cxOf (CXN P w C) P w K mg base N qual scope f cd A outer s₀ H₀ E₀) x) (hd:(x==("__debug__":Str))=false) (he:PE (cxOf (CXN P w C) P w K mg base N qual scope f cd A outer s₀ H₀ E₀) e te) (hs:plainE e=true):
  PS (cxOf (CXN P w C) P w K mg base N qual scope f cd A outer s₀ H₀ E₀) (.Raise (some (.Call (.Name x np) [e] [] cpos)) none pos) (tRaise te E₀):=by
 intro pins s σ H D I h
 obtain ⟨tl,Nn,nm,q,bs,hdct,sn,sub,ab,col,dd,k0,k1,k2,k3,k5,mN,hC,hN,hni,T⟩:=exc_of (h₀:=base) I.ok.mod.kin hX
 have hst:=star_of hs [] (cxOf (CXN P w C) P w K mg base N qual scope f cd A outer s₀ H₀ E₀).env
 refine wpAny_Raise_call_subU (C:=C) (nm:=nm) (q:=q) (N:=Nn) (bs:=bs) (bm:=tl) (hdct:=hdct) (sn:=sn) (sub:=sub) (ab:=ab) (col:=col) (dd:=dd) (k0:=k0) (k1:=k1) (k2:=k2) (k3:=k3) (k5:=k5)
  PySem.F.excBase_ValueError (by decide +kernel) PySem.F.excBase_ValueError (mN:=mN) (T.hasType PySem.F.excBase_ValueError.hasBase) (I.ok.hd rfl) (by rw [hst];rfl) hni (ld_glob I hg hm ⟨rfl,?_⟩ hd)
 have pa:=(pa_cons he pa_nil hst:PA _ [e] _) cpos pins s σ H (fun vs H1=>vs.length≤1∧∀ a,E₀ (.ref a) none H1) I h
 rw [hst] at pa ⊢
 refine Calls.evalArgs_plain (thn pa fun vs s2 ⟨xs,H2,I2,r2,q2⟩=>?_)
 have hk:∀ b o,base.get? b=some o→s2.heap.get? b=some o:=I2.bk
 refine ⟨rfl,?_,hk _ _ hC,hN.keeps hk,T.keeps hk,fun h' a hx=>xe_made I2 hx (q2.2 a)⟩
 have:=r2.length
 have:=q2.1
 have:=line_eq
 show vs.length≤sizeLine
 lia
end
section
variable {M:Model} {A:Around} {E:Value→Shared→Prop} {s:Shared}
theorem again_held {base:Heap} {env:PySem.Env} {l:List PySem.Env} {L e:Addr} {cls a0:Value} (hf:env.frame=some L) (hh:Heap.HeldW base l e cls a0 L s.heap)
  (hQ:∀ h',Heap.HeldW base l e cls a0 L h'→s.heap.UpToSlots h'→E (.ref e) {s with heap:=h'}):cameBackBy M A env E (.ref e) s:=by
 obtain ⟨f1,f2,f3,oe,vs,T,oT,ts,he,hc,hd,h1,nT,Te,hT,dT,h3⟩:=hh
 have h3':3<ts.size:=(Array.getElem?_eq_some_iff.mp h3).1
 have other:∀ b,b≠T→(s.heap.update T (Obj.mapFields (·.setIfInBounds 3 (rawInt L)))).get? b=s.heap.get? b:=fun b hb=>Heap.get?_update_other _ _ (Ne.symm hb)
 have nrec:∀ b o,s.heap.get? b=some o→(∀ ws,o.data≠.fields ws)→b≠T:=fun b o q nf z=>by
  rw [z,hT] at q;cases q;exact nf _ dT
 show wpAny M A (do
  if (← field (.ref e) 1)==.none then unsupported "frame.own-activation:exception-without-traceback"
  setFlight (.ref e) env.frame) _ _ s
 refine wpAny_bind (wpAny_field he hd h1 ?_)
 rw [if_neg (by simp)]
 rw [hf]
 unfold setFlight
 refine wpAny_bind (wpAny_field he hd h1 ?_)
 rw [if_pos (show (Value.ref T != Value.none)=true from by simp)]
 refine wpAny_setField hT dT h3' (hQ _ ⟨fun b o q=>(other b fun z=>by rw [z,nT] at q;cases q).trans (f1 b o q),f2,f3.of_keeps fun b o q nf=>⟨o,(other b (nrec b o q nf)).trans q,rfl⟩,?_⟩ fun b o q nf=>⟨o.slots,(other b (nrec b o q nf)).trans q⟩)
 exact ⟨oe,vs,T,_,_,(other e (Ne.symm Te)).trans he,hc,hd,h1,nT,Te,Heap.get?_update_self _ hT (Obj.isFreed_of_fields (Obj.data_mapFields dT _)),Obj.data_mapFields dT _,by simp [h3']⟩
end
section
variable {P:Program} {w:World} {K:PySem.W.Frag} {mg:Str→Option Value} {base:Heap} {N:List Str} {qual:Str} {scope:Scope} {f:Addr} {cd:Value} {A:Around} {outer:List PySem.Env} {s₀:Shared} {H₀:Hp} {E₀:XK} {C:Addr}
noncomputable def Zx (C:Addr) (E₀:XK) (X:Cx):Value→Shared→Prop:=fun e s'=>∃ a t B H',e=.ref a∧(Heap.FlyingW B X.stack a (.ref C) (.ref t) s'.heap∨Heap.HeldW B X.stack a (.ref C) (.ref t) X.env.locals s'.heap)∧Lying X.prog X.w X.outer X.H₀ X.s₀ B H' s'∧E₀ (.ref a) none H'
noncomputable abbrev cxN (P:Program) (w:World) (C:Addr) (K:PySem.W.Frag) (mg:Str→Option Value) (base:Heap) (N:List Str) (qual:Str) (scope:Scope) (f:Addr) (cd:Value) (A:Around) (outer:List PySem.Env) (s₀:Shared) (H₀:Hp) (E₀:XK):Cx:=cxOf (CXN P w C) P w K mg base N qual scope f cd A outer s₀ H₀ E₀
theorem zx_xe (hfr:(cxN P w C K mg base N qual scope f cd A outer s₀ H₀ E₀).A.frames=some (cxN P w C K mg base N qual scope f cd A outer s₀ H₀ E₀).stack) {e:Value} {s':Shared} (h:Zx C E₀ (cxN P w C K mg base N qual scope f cd A outer s₀ H₀ E₀) e s'):(cxN P w C K mg base N qual scope f cd A outer s₀ H₀ E₀).xe e s':=by
 obtain ⟨a,t,B,H',rfl,st,y,q⟩:=h
 rcases st with fl | hh
 ·refine wpAny_leaves_onW hfr rfl fl fun h' fl' up=>⟨a,t,B,H',rfl,fl',?_,q⟩
  exact y.step fl.2.2.1.2.2 fl'.2.2.1 fl'.1 up
 ·show wpAny _ _ (leaving _ _) _ _ _
  unfold leaving
  refine wpAny_bind (wpAny_noteFrame_againW rfl hh.2.2.2 (wpAny_landsW hh fun h' fl' up=>⟨a,t,B,H',rfl,⟨fl'.1,fl'.2.1,fl'.2.2.1.2.2,fl'.2.2.2⟩,?_,q⟩))
  exact y.step hh.2.2.1.2.2 fl'.2.2.1.2.2 fl'.1 up
theorem zx_own (hfr:(cxN P w C K mg base N qual scope f cd A outer s₀ H₀ E₀).A.frames=some (cxN P w C K mg base N qual scope f cd A outer s₀ H₀ E₀).stack):PassesOwn (model P w) (cxN P w C K mg base N qual scope f cd A outer s₀ H₀ E₀).A (cxN P w C K mg base N qual scope f cd A outer s₀ H₀ E₀).env (Zx C E₀ (cxN P w C K mg base N qual scope f cd A outer s₀ H₀ E₀)):=by
 intro e s' h
 obtain ⟨a,t,B,H',rfl,st,y,q⟩:=h
 have fin:∀ s'':Shared,Heap.HeldW B (cxN P w C K mg base N qual scope f cd A outer s₀ H₀ E₀).stack a (.ref C) (.ref t) (cxN P w C K mg base N qual scope f cd A outer s₀ H₀ E₀).env.locals s''.heap→Lying P w outer H₀ s₀ B H' s''→
   cameBackBy (model P w) (cxN P w C K mg base N qual scope f cd A outer s₀ H₀ E₀).A (cxN P w C K mg base N qual scope f cd A outer s₀ H₀ E₀).env (Zx C E₀ (cxN P w C K mg base N qual scope f cd A outer s₀ H₀ E₀)) (.ref a) s'':=fun s'' hh y'=>
  again_held rfl hh fun h' hh' up=>⟨a,t,B,H',rfl,.inr hh',y'.step hh.2.2.1.2.2 hh'.2.2.1.2.2 hh'.1 up,q⟩
 rcases st with fl | hh
 ·refine wpAny_looks_onW hfr rfl fl fun h' hh' up=>fin _ hh' ?_
  exact y.step fl.2.2.1.2.2 hh'.2.2.1.2.2 hh'.1 up
 ·exact wpAny_noteFrame_againW rfl hh.2.2.2 (fin s' hh y)
theorem zx_passes {E:XK} (hE:∀ e H',E e none H'→E₀ e none H'):Passes (CXN P w C) ((cxN P w C K mg base N qual scope f cd A outer s₀ H₀ E₀).wish (Zx C E₀ (cxN P w C K mg base N qual scope f cd A outer s₀ H₀ E₀))) E:=by
 intro pins σ H s e s' I hx
 obtain ⟨a,t,B,H',rfl,fl,y,q⟩:=hx
 exact ⟨a,t,B,H',rfl,.inl fl,own_cxOf.lying I.unwish y,hE _ _ q⟩
end
section
variable {X:Cx} {st:Stmt} {t:TS}
theorem ps_wish {Z:Value→Shared→Prop} (h:PS (X.wish Z) st t) (hz:∀ e s,Z e s→X.xe e s):PS X st t:=fun pins s σ H D I hw=>
 wpAny_mono (h pins s σ H D (I.wish _) hw) (fun _ _ q=>q.unwish) hz
theorem ps_nox (h:PS X.nox st t):PS X st t:=fun pins s σ H D I hw=>
 wpAny_mono (h pins s σ H D (I.wish _) hw) (fun _ _ q=>q.unwish) fun _ _ z=>False.elim z
end
inductive Ox where
 | ok (o:Out)
 | ex
inductive SX where
 | nil
 | pu (s:S) (r:SX)
 | rz (c m:E) (r:SX)
 | call (i f:Nat) (a:E) (r:SX)
 | whl (c:E) (b r:SX)
 | cmp (i f:Nat) (a:E) (r:SX)
noncomputable abbrev GF:=Nat→List PV→Option (Option PV)
noncomputable def puX (f:Env→Option Out) (g:Env→Option Ox) (ρ:Env):Option Ox:=match f ρ with
 | none=>none
 | some (.nx ρ1)=>g ρ1
 | some o=>some (.ok o)
noncomputable def shortS:PV→Bool
 | .str z=>decide (z.length≤1000000)
 | _=>false
noncomputable def argsX (gx:GF) (f:Nat):PV→Option (Option PV)
 | .tuple xs=>gx f xs
 | _=>none
noncomputable def callX (i:Nat) (g:Env→Option Ox) (ρ:Env):Option PV→Option Ox
 | some p=>g (ρ.set i (.val p))
 | none=>some .ex
noncomputable def turnX (f:Env→Option Ox):Ox→Option Ox
 | .ok (.nx ρ)=>f ρ
 | .ok (.rt p)=>some (.ok (.rt p))
 | .ex=>some .ex
 | _=>none
noncomputable def whlX (c:Env→Option Bool) (b:Env→Option Ox):Nat→Env→Option Ox
 | 0,_=>none
 | n+1,ρ=>bnd (c ρ) fun t=>tst t (bnd (b ρ) (turnX (whlX c b n))) (some (.ok (.nx ρ)))
noncomputable def cmpX (g:PV→Option (Option PV)):List PV→Option (Option (List PV))
 | []=>some (some [])
 | x::xs=>bnd (g x) fun r=>match r with
  | none=>some none
  | some p=>tst (isDict p) none (bnd (cmpX g xs) fun o=>some (o.map (p::·)))
noncomputable def cmpK (i:Nat) (g:Env→Option Ox) (ρ:Env):Option (List PV)→Option Ox
 | some rs=>g (ρ.set i (.val (.tuple rs)))
 | none=>some .ex
noncomputable def evX (cf:CF) (gx:GF):SX→Env→Option Ox
 | .nil,ρ=>some (.ok (.nx ρ))
 | .pu s r,ρ=>puX (evS cf s) (evX cf gx r) ρ
 | .rz c m r,ρ=>bnd (evE cf c ρ) fun x=>bnd (truthF x) fun t=>tst t (bnd (evE cf m ρ) fun p=>tst (shortS p) (some .ex) none) (evX cf gx r ρ)
 | .call i f a r,ρ=>bnd (evE cf a ρ) fun q=>bnd (argsX gx f q) (callX i (evX cf gx r) ρ)
 | .whl c b r,ρ=>bnd (whlX (fun ρ=>bnd (evE cf c ρ) truthF) (evX cf gx b) 10 ρ) (turnX (evX cf gx r))
 | .cmp i f a r,ρ=>bnd (evE cf a ρ) fun s=>bnd (seqOf s) fun xs=>bnd (cmpX (fun x=>gx f [x]) xs) (cmpK i (evX cf gx r) ρ)
noncomputable def PostX (K:PySem.W.Frag) (E:XK) (D:Ends) (G0 H0:Hp):Ox→Prop
 | .ok o=>Post K D G0 H0 o
 | .ex=>∀ a G' H',Ext G0 H0 G' H'→E (.ref a) none H'
noncomputable def tO (K:PySem.W.Frag) (E:XK) (ev:Env→Option Ox):TS:=fun D σ H=>∃ G0 H0 G ρ o,ST K G0 H0 G H σ ρ∧ev ρ=some o∧PostX K E D G0 H0 o
noncomputable def spX (K:PySem.W.Frag) (n:Nat) (g:List PV→Option (Option PV)):Sp:=fun vs H Q E=>vs.length=n∧∃ G ps r,Sub G H∧RpA K G ps vs∧g ps=some r∧(∀ p,r=some p→∀ v G' H',Ext G H G' H'→Rp K G' p v→Q v H')∧(r=none→∀ a G' H',Ext G H G' H'→E (.ref a) none H')
section
variable {Y:Cx} {cf:CF} {Z:XK}
theorem x_nil:PSs Y [] (tO Y.K Z fun ρ=>some (.ok (.nx ρ))):=pss_nil.weak fun D σ H ⟨G0,H0,G,ρ,o,T,e,k⟩=>by
 cases (show some (Ox.ok (.nx ρ))=some o from e)
 exact k σ G H T
theorem x_pu {st:Stmt} {sts:List Stmt} {is:S} {ev:Env→Option Ox} (h:PS Y st (tS cf Y.K is)) (hr:PSs Y sts (tO Y.K Z ev)):PSs Y (st::sts) (tO Y.K Z (puX (evS cf is) ev)):=
 (pss_cons h hr).weak fun D σ H ⟨G0,H0,G,ρ,o,T,e,k⟩=>by
  unfold puX at e
  cases hs:evS cf is ρ with
  | none=>rw [hs] at e;cases e
  | some q=>
   rw [hs] at e
   refine ⟨G0,H0,G,ρ,q,T,hs,?_⟩
   cases q with
   | nx ρ1=>exact fun σ' G' H' T'=>⟨G0,H0,G',ρ1,o,T',e,k⟩
   | rt p=>cases (show some (Ox.ok (.rt p))=some o from e);exact k
   | bk p=>cases (show some (Ox.ok (.bk p))=some o from e);exact k
   | ct p=>cases (show some (Ox.ok (.ct p))=some o from e);exact k
theorem x_rz {c:Expr} {rs:Stmt} {sts:List Stmt} {ic im:E} {ev:Env→Option Ox} {pos:Pos} (hc:PT Y c (tT cf Y.K ic)) (hz:PS Y rs (fun _ σ H=>∃ G ρ p,SR Y.K G H σ ρ∧evE cf im ρ=some p∧shortS p=true∧∀ a G' H',Ext G H G' H'→Z (.ref a) none H')) (hr:PSs Y sts (tO Y.K Z ev)):
  PSs Y (.If c [rs] [] pos::sts) (tO Y.K Z fun ρ=>bnd (evE cf ic ρ) fun x=>bnd (truthF x) fun t=>tst t (bnd (evE cf im ρ) fun p=>tst (shortS p) (some .ex) none) (ev ρ)):=by
 refine (pss_cons (ps_if hc (pss_cons hz pss_nil) pss_nil) hr).weak fun D σ H ⟨G0,H0,G,ρ,o,T,e,k⟩=>?_
 obtain ⟨x,e1,e2⟩:=bnd_eq.mp e
 obtain ⟨t,e3,e4⟩:=bnd_eq.mp e2
 refine ⟨G,ρ,x,t,T.sr,e1,e3,fun G' H' xx=>?_⟩
 cases t with
 | true=>
  refine iteT ?_
  obtain ⟨p,e5,e6⟩:=bnd_eq.mp (show bnd (evE cf im ρ) (fun p=>tst (shortS p) (some Ox.ex) none)=some o from e4)
  obtain ⟨e7,e8⟩:=tst_some e6
  cases e8
  exact ⟨G',ρ,p,T.sr.ext xx,e5,e7,fun a G2 H2 x2=>k a G2 H2 ((T.ex.trans xx).trans x2)⟩
 | false=>exact iteF ⟨G0,H0,G',ρ,o,T.ext xx,e4,k⟩
theorem x_call {i f:Nat} {x fn:Str} {e:Expr} {es:List Expr} {sts:List Stmt} {ia:E} {ev:Env→Option Ox} {gx:GF} {k:Nat} {fa:Addr} {fd:FuncData} {ps:List Str} {CX:CXT} {p p' pos pos':Pos} (F:FnOk Y.prog Y.w Y.K Y.mg Y.base CX k fa fd ps (spX Y.K ps.length (gx f)))
  (hr:Room k Y.A) (hg:Gl Y fn) (hm:Y.mg fn=some (.ref fa)) (hk:PySem.W.keepIn Y.K (.ref fa)=true) (hb:Binds Y.K fd ps []) (hp:Passes CX Y Z) (ha:PA Y (e::es) (tA cf Y.K ia)) (hn:argN ia=some ps.length) (hdb:(fn==("__debug__":Str))=false)
  (hs:plainE e=true) (hpl:es.all plainE=true) (hN:Y.N.Nodup) (hi:Y.N[i]?=some x) (hx:Loc Y.env.scope x) (hf:Y.fn x=true∨Y.env.scope.names.lookup x=some .local) (hs2:PSs Y sts (tO Y.K Z ev)):
  PSs Y (.Assign [.Name x p'] (.Call (.Name fn p) (e::es) [] pos) pos'::sts) (tO Y.K Z fun ρ=>bnd (evE cf ia ρ) fun q=>bnd (argsX gx f q) (callX i ev ρ)):=by
 have hany:(backTo pos (starEach es Y.env)).any (·.1)=false:=by
  have h1:∀ l:List Expr,l.all plainE=true→(starEach l Y.env).any (·.1)=false:=by
   intro l
   induction l with
   | nil=>intro _;rfl
   | cons y l ih=>
    intro h
    rw [List.all_cons,Bool.and_eq_true] at h
    rw [star_of h.1,List.any_cons,ih h.2];rfl
  have h3:∀ l:List (Bool×Sem Value),(backTo pos l).any (·.1)=l.any (·.1):=by
   intro l
   unfold backTo
   rw [List.any_map]
   rfl
  rw [h3];exact h1 es hpl
 refine (pss_cons (ps_set hN hi hx (pe_call F hr hg hm hk hb .nil hp ha hdb (star_of hs _ _) hany) rfl hf) hs2).weak fun D σ H ⟨G0,H0,G,ρ,o,T,e,k⟩=>?_
 obtain ⟨q,e1,e2⟩:=bnd_eq.mp e
 obtain ⟨r,e3,e4⟩:=bnd_eq.mp e2
 obtain ⟨xs,rfl,hl⟩:=args_len ia _ ρ q hn e1
 refine ⟨G,ρ,xs,T.sr,e1,fun vs G1 H1 x1 r1=>?_⟩
 show spX Y.K ps.length (gx f) (vs++[]) H1 _ Z
 rw [List.append_nil]
 refine ⟨by rw [← r1.length];exact hl,G1,xs,r,x1.gh,r1,e3,fun p hp v G2 H2 x2 r2=>?_,fun hn a G2 H2 x2=>?_⟩
 ·subst hp
  exact ⟨G0,H0,G2,ρ.set i (.val p),o,(T.ext (x1.trans x2)).setVal r2,e4,k⟩
 ·subst hn
  cases (show some Ox.ex=some o from e4)
  exact k a G2 H2 ((T.ex.trans x1).trans x2)
theorem x_whl {c:Expr} {b:List Stmt} {sts:List Stmt} {ic:E} {eb ev:Env→Option Ox} {pos:Pos} {Y':Cx} (hK:Y'.K=Y.K) (hw:∀ tc tb,PT Y' c tc→PSs Y' b tb→PS Y (.While c b [] pos) (tWhile tc tb)) (hc:PT Y' c (tT cf Y.K ic)) (hb:PSs Y' b (tO Y.K Z eb)) (hr:PSs Y sts (tO Y.K Z ev)):
  PSs Y (.While c b [] pos::sts) (tO Y.K Z fun ρ=>bnd (whlX (fun ρ=>bnd (evE cf ic ρ) truthF) eb 10 ρ) (turnX ev)):=by
 refine (pss_cons (hw _ _ hc hb) hr).weak fun D σ H ⟨G0,H0,G,ρ,o,T,e,k⟩=>?_
 obtain ⟨q,e1,e2⟩:=bnd_eq.mp e
 refine ⟨fun m σ' H'=>∃ G' ρ' ,ST Y.K G0 H0 G' H' σ' ρ'∧whlX (fun ρ=>bnd (evE cf ic ρ) truthF) eb m ρ'=some q,⟨10,G,ρ,T,e1⟩,fun m σ' H' ⟨G',ρ',T',ew⟩=>?_⟩
 cases m with
 | zero=>cases (show none=some q from ew)
 | succ m=>
  obtain ⟨t,e3,e4⟩:=bnd_eq.mp (show bnd (bnd (evE cf ic ρ') truthF) (fun t=>tst t (bnd (eb ρ') (turnX (whlX (fun ρ=>bnd (evE cf ic ρ) truthF) eb m))) (some (.ok (.nx ρ'))))=some q from ew)
  obtain ⟨x,e5,e6⟩:=bnd_eq.mp e3
  refine ⟨G',ρ',x,t,T'.sr,e5,e6,fun G2 H2 x2=>?_⟩
  cases t with
  | false=>
   refine iteF ?_
   cases (show some (Ox.ok (.nx ρ'))=some q from e4)
   exact ⟨G0,H0,G2,ρ',o,T'.ext x2,e2,k⟩
  | true=>
   refine iteT ⟨fun σ3 H3=>∃ G3 ρ3,ST Y.K G0 H0 G3 H3 σ3 ρ3∧whlX (fun ρ=>bnd (evE cf ic ρ) truthF) eb m ρ3=some q,fun σ3 H3 hN=>⟨m,Nat.lt_succ_self _,hN⟩,?_⟩
   obtain ⟨y,e7,e8⟩:=bnd_eq.mp (show bnd (eb ρ') (turnX (whlX (fun ρ=>bnd (evE cf ic ρ) truthF) eb m))=some q from e4)
   refine ⟨G0,H0,G2,ρ',y,T'.ext x2,e7,?_⟩
   cases y with
   | ex=>
    cases (show some Ox.ex=some q from e8)
    cases (show some Ox.ex=some o from e2)
    exact k
   | ok y=>
    cases y with
    | nx ρ3=>exact fun σ3 G3 H3 T3=>⟨G3,ρ3,T3,e8⟩
    | rt p=>
     cases (show some (Ox.ok (.rt p))=some q from e8)
     cases (show some (Ox.ok (.rt p))=some o from e2)
     exact k
    | bk p=>cases (show none=some q from e8)
    | ct p=>cases (show none=some q from e8)
end
section
variable {M:Model} {A:Around} {E:Value→Shared→Prop} {s:Shared}
theorem leave_any {base:Heap} {env:PySem.Env} {outer:List PySem.Env} {L e:Addr} {cls a0 fl:Value} {Q:Unit→Shared→Prop} (hfr:A.frames=some (env::outer)) (hf:env.frame=some L) (f1:base.StaysIn s.heap) (f2:base.get? e=none)
  (f3:s.heap.FunFrames base (env::outer)) (f4:s.heap.TracedAtW base e cls a0 fl) (hQ:∀ h',Heap.FlyingW base outer e cls a0 h'→s.heap.UpToSlots h'→Q () {s with heap:=h'}):wpAny M A (leaving env (.ref e)) Q E s:=by
 by_cases hfl:fl=rawInt L
 ·subst hfl
  unfold leaving
  refine wpAny_bind (wpAny_noteFrame_againW hf f4 (wpAny_landsW ⟨f1,f2,f3,f4⟩ fun h' fl' up=>hQ h' ⟨fl'.1,fl'.2.1,fl'.2.2.1.2.2,fl'.2.2.2⟩ up))
 obtain ⟨oe,vs,T,oT,ts,he,⟨hc,h0⟩,hd,h1,nT,Te,hT,dT,h3⟩:=f4
 subst hc
 have other:∀ b,b≠T→(s.heap.update T (Obj.mapFields (·.setIfInBounds 3 Value.none))).get? b=s.heap.get? b:=fun b hb=>Heap.get?_update_other _ _ (Ne.symm hb)
 have nrec:∀ b o,s.heap.get? b=some o→(∀ ws,o.data≠.fields ws)→b≠T:=fun b o q nf z=>by
  rw [z,hT] at q;cases q;exact nf _ dT
 unfold leaving noteFrame
 simp only [hf]
 refine wpAny_bind (wpAny_bind (wpAny_field he hd h1 ?_))
 rw [if_pos (show (Value.ref T != Value.none)=true from by simp)]
 refine wpAny_bind (wpAny_field hT dT h3 ?_)
 rw [if_neg (show ¬ ((fl==rawInt L)=true) from fun z=>hfl (by simpa using z))]
 refine wpAny_bind (wpAny_setField hT dT (Array.getElem?_eq_some_iff.mp h3).1 ?_)
 refine wpAny_newEntryW (outer:=outer) hfr (f3.of_keeps fun b o q nf=>⟨o,(other b (nrec b o q nf)).trans q,rfl⟩) hf ((other e (Ne.symm Te)).trans he)
  (fun b o q=>(other b fun z=>by rw [z,nT] at q;cases q).trans (f1 b o q)) f2 hd (Array.getElem?_eq_some_iff.mp h1).1 h0 fun h' lw=>?_
 obtain ⟨k1,k2,k3,k4⟩:=lw
 exact hQ h' ⟨k1,f2,k2.2.2,k3⟩ fun b o q nf=>k4 b o ((other b (nrec b o q nf)).trans q) nf
end
section
variable {prog:Program} {w:World} {A:Around} {R:Result→Shared→Prop} {s:Shared} {elt target iter:Expr} {scope:Scope} {pos:Pos} {it acc:Value} {env:PySem.Env}
theorem compLoop_x (I:Nat→Shared→Prop)
  (turn:∀ n s,I n s→wpAny (model prog w) A (pyNext it) (fun r s₁=>match r with
   | none=>R (.ok .next) s₁
   | some v=>wpAny (model prog w) A (letOwnedTupleGo target it v) (fun _ s₁'=>wpAny (model prog w) A (assign target env v) (fun _ s₂=>
     wpAny (model prog w) A (eval elt env) (fun x s₄=>
       wpAny (model prog w) A (call (.builtin "list.append") [acc,x]) (fun _ s₅=>∃ m,m<n∧I m s₅) (notedBy (model prog w) A env fun x s'=>R (.error x) s') s₄) (notedBy (model prog w) A env fun x s'=>R (.error x) s') s₂)
     (notedBy (model prog w) A env fun x s'=>R (.error x) s') s₁') (notedBy (model prog w) A env fun x s'=>R (.error x) s') s₁) (notedBy (model prog w) A env fun x s'=>R (.error x) s') s)
  (n:Nat) (h:I n s):codeAny (model prog w) A (.compLoop (.ListComp elt [⟨target,iter,[],0⟩] scope pos) 0 it acc env) R s:=by
 refine codeAny_loop rfl I (fun n s hI=>?_) n h
 show wpAny _ A ((compTurn (.ListComp elt [⟨target,iter,[],0⟩] scope pos) 0 it acc env).onRaise (fun x=>do noteFrame x env;theTreesLotGoes x)) _ _ s
 refine wpAny_noted ?_
 rw [compTurn_list]
 refine wpAny_bind (wpAny_standAt (wpAny_bind (wpAny_mono (turn n s hI) (fun r s₁ h₁=>?_) fun _ _ h'=>h')))
 cases r with
 | none=>exact wpAny_pure h₁
 | some v=>
  refine wpAny_bind (wpAny_mono h₁ (fun _ s₁' h₁'=>?_) fun _ _ h'=>h')
  refine wpAny_bind (wpAny_mono h₁' (fun _ s₂ h₂=>wpAny_bind (wpAny_pure ?_)) fun _ _ h'=>h')
  exact wpAny_bind (wpAny_bind (wpAny_mono h₂ (fun x s₄ h₄=>wpAny_bind (wpAny_mono h₄ (fun _ s₅ h₅=>wpAny_pure (wpAny_pure ⟨rfl,h₅⟩)) fun _ _ h'=>h')) fun _ _ h'=>h'))
end
theorem cmpX_cons {g:PV→Option (Option PV)} {x:PV} {xs:List PV} {o:Option (List PV)} (h:cmpX g (x::xs)=some o):∃ r,g x=some r∧((r=none∧o=none)∨∃ p t,r=some p∧isDict p=false∧cmpX g xs=some t∧o=t.map (p::·)):=by
 obtain ⟨r,e1,e2⟩:=bnd_eq.mp (show bnd (g x) _=some o from h)
 refine ⟨r,e1,?_⟩
 cases r with
 | none=>cases (show some none=some o from e2);exact .inl ⟨rfl,rfl⟩
 | some p=>
  obtain ⟨hd,e3⟩:=tst_none (show tst (isDict p) none (bnd (cmpX g xs) fun o=>some (o.map (p::·)))=some o from e2)
  obtain ⟨t,e4,e5⟩:=bnd_eq.mp e3
  cases e5
  exact .inr ⟨p,t,rfl,hd,e4,rfl⟩
section
variable {X:Cx} {cf:CF}
theorem comp_blockX {own:List Str} {scope:Scope} {target iter elt arg:Expr} {pos:Pos} {cl:List (Str×Addr)} {C D it:Addr} {s3 s4:Shared} {fp:List Addr} {tn:Nat→Heap→Prop} {J:It} {icond:E} {g:List PV→Option (Option PV)} {CX:CXT} {Zc:Value→Shared→Prop}
  {G2 H2:Hp} {σ:St} {ρ:Env} {xs:List PV} {o:Option (List PV)} {R:Result→Shared→Prop} (hown:own.length=1) (T:Turn X.prog X.w X.K target J fp it tn) (wk:Walk X.K J G2 xs)
  (B:BlkOk X.nox cf own [] scope none target [] arg icond (.var 0)) (S:SR X.K G2 H2 σ ρ) (hDn:H2 D=none) (fpD:∀ b∈fp,b≠D) (f2:∀ b∈fp,H2 b=none)
  (fpk:∀ (H:Hp) (b:Addr),b∈fp→H b=none→FpOk (cxC X (namesC X own []) scope cl C s3 (upd H2 D (.lst [])) fp) [] H b)
  (I4:Inv (cxC X (namesC X own []) scope cl C s3 (upd H2 D (.lst [])) fp) [] (slotsC own [] σ) (upd H2 D (.lst [])) s4) (st4:tn 0 s4.heap)
  (hel:∀ X',Blk X.nox (namesC X own []) scope X'→Passes CX (X'.wish Zc) (fun _ _ H'=>o=none∧∃ G',Ext G2 H2 G' H')→PE (X'.wish Zc) elt (tCall (spX X.K 1 g) [] (fun _ _ H'=>o=none∧∃ G',Ext G2 H2 G' H') (tA cf X.K (.cons (.var 0) .nil))))
  (hpass:Passes CX ((cxC X (namesC X own []) scope cl C s3 (upd H2 D (.lst [])) fp).wish Zc) (fun _ _ H'=>o=none∧∃ G',Ext G2 H2 G' H'))
  (exn:∀ e s',Zc e s'→notedBy (model X.prog X.w) X.A (compEnvC scope cl C X.env) (fun x s''=>R (.error x) s'') e s')
  (e3:cmpX (fun x=>g [x]) xs=some o)
  (fin:∀ rs,o=some rs→∀ s' σ' H' G' ys,Inv (cxC X (namesC X own []) scope cl C s3 (upd H2 D (.lst [])) fp) [] σ' H' s'→Ext G2 H2 G' H'→H' D=some (.lst ys)→G' D=none→RpL X.K G' rs ys→R (.ok .next) s'):
  codeAny (model X.prog X.w) X.A (.compStart (.ListComp elt [⟨target,iter,[],0⟩] scope pos) 0 (.ref it) (.ref D) (compEnvC scope cl C X.env)) R s4:=by
 generalize hX:cxC X (namesC X own []) scope cl C s3 (upd H2 D (.lst [])) fp=X' at I4 fin fpk hpass
 have hprog:X'.prog=X.prog:=by rw [← hX];rfl
 have hw:X'.w=X.w:=by rw [← hX];rfl
 have hK:X'.K=X.K:=by rw [← hX];rfl
 have hA:X'.A=X.A:=by rw [← hX];rfl
 have henv:X'.env=compEnvC scope cl C X.env:=by rw [← hX];rfl
 have hcalm:X'.calm=true:=by rw [← hX];rfl
 have hxe:X'.xe=fun _ _=>False:=by rw [← hX];rfl
 have blk:Blk X.nox (namesC X own []) scope X':=⟨hprog,hw,hK,by rw [← hX];rfl,by rw [← hX];rfl,hA,by rw [← hX];rfl,by rw [← hX];rfl,hcalm,hxe,by rw [← hX];rfl⟩
 have loop:codeAny (model X.prog X.w) X.A (.compLoop (.ListComp elt [⟨target,iter,[],0⟩] scope pos) 0 (.ref it) (.ref D) (compEnvC scope cl C X.env)) R s4:=by
  refine compLoop_x (fun n s'=>∃ i σ' H' G' ys rs' tl,n=xs.length - i∧i≤xs.length∧Inv X' [] σ' H' s'∧tn i s'.heap∧(∀ b∈fp,H' b=none)∧Ext G2 H2 G' H'∧H' D=some (.lst ys)∧G' D=none∧RpL X.K G' rs' ys∧ys.length≤i∧
   cmpX (fun x=>g [x]) (xs.drop i)=some tl∧o=tl.map (rs'++·)∧own.length≤σ'.length∧σ'.drop own.length=[]) ?_ xs.length ?_
  ·rintro n s' ⟨i,σ',H',G',ys,rs',tl,rfl,hi,I',st',fr',x',hD',gD',r',hly,et,er,hol,hσ⟩
   by_cases hlt:i<xs.length
   ·have hx:xs.drop i=xs[i]::xs.drop (i+1):=List.drop_eq_getElem_cons hlt
    rw [hx] at et
    obtain ⟨r,eg,hr⟩:=cmpX_cons et
    have step:=T.item X' hprog hw hK hcalm i [] s' σ' H' (notedBy (model X.prog X.w) X.A (compEnvC scope cl C X.env) fun x s'=>R (.error x) s') I' (fun b hb=>fpk H' b hb (fr' b hb)) st' (wk.go i H' (x'.gg.trans x'.gh) hlt)
    rw [hA] at step
    refine thn step fun r0 s5 ⟨u,hr0,h5⟩=>?_
    subst hr0
    refine thn h5 fun _ s6 ⟨x,H6,I6,rx,y6,st6,fr6⟩=>?_
    obtain ⟨G6,px,x6,epx,rpx⟩:=wk.step x'.gg x'.gh hlt y6
    replace x':=x'.trans x6
    replace gD':=(x6.old _ _ hD').trans gD'
    replace hD':=x6.hh _ _ hD'
    replace r':=r'.mono x6.gg
    have epx':xs[i]=px:=by rw [List.getElem?_eq_getElem hlt] at epx;exact Option.some.inj epx
    subst epx'
    have I6':=I6.pinned (fun b hb=>fpk H6 b hb (fr6 b hb)) (T.obj _ _ st6)
    have keepT:∀ {σa:St} {Ha:Hp} {sa:Shared},Inv X' ([]++pinsAt fp s6.heap) σa Ha sa→tn (i+1) sa.heap∧∀ b∈fp,Ha b=none:=fun {σa Ha sa} Ia=>by
     refine ⟨T.keep _ _ _ st6 fun b hb o e=>(Ia.pin (b,o) (List.mem_append_right _ (List.mem_append_right _ (mem_pinsAt hb e)))).1,fun b hb=>?_⟩
     obtain ⟨o,e,d⟩:=T.obj _ _ st6 b hb
     exact (Ia.pin (b,o) (List.mem_append_right _ (List.mem_append_right _ (mem_pinsAt hb e)))).2.1
    have asg:=B.tgt X' blk _ s6 σ' H6 x u (fun σ7 H7=>σ7=[some x]∧H7=H6) I6' rx ⟨hol,show _∧_ from ⟨hown.symm,by rw [hσ];rfl,rfl⟩⟩
    rw [hprog,hw,hA,henv,hxe] at asg
    refine wpAny_mono asg (fun _ s7 ⟨σ7,H7,I7,hσ7,hH7⟩=>?_) fun _ _ z=>z.elim
    subst hσ7 hH7
    have Sb:SR X.K G6 H7 [some x] [Sl.val xs[i]]:=(S.ext x').block (caps:=[]) (by simp) (.cons rpx .nil)
    have el:=hel X' blk hpass _ s7 _ H7 (fun v H9=>∃ p,r=some p∧∃ G9,Ext G6 H7 G9 H9∧Rp X.K G9 p v) (I7.wish _) ⟨G6,_,[xs[i]],Sb,rfl,fun vs G8 H8 x8 r8=>by
     show spX X.K 1 g (vs++[]) H8 _ _
     rw [List.append_nil]
     refine ⟨by rw [← r8.length];rfl,G8,[xs[i]],r,x8.gh,r8,eg,fun p hp v G9 H9 x9 r9=>⟨p,hp,G9,x8.trans x9,r9⟩,fun hn a G9 H9 x9=>⟨?_,G9,x'.trans (x8.trans x9)⟩⟩
     rcases hr with ⟨_,rfl⟩ | ⟨p,t,hp,_⟩
     ·exact er
     ·rw [hn] at hp;cases hp⟩
    have hpr':(X'.wish Zc).prog=X.prog:=hprog
    have hw':(X'.wish Zc).w=X.w:=hw
    have hA':(X'.wish Zc).A=X.A:=hA
    have henv':(X'.wish Zc).env=compEnvC scope cl C X.env:=henv
    rw [hpr',hw',hA',henv'] at el
    refine wpAny_mono el (fun w9 s9 ⟨v,H9,I9,rv,p,hp,G9,x9,ry⟩=>?_) fun e s' z=>exn e s' z
    subst hp
    rcases hr with ⟨hr,_⟩ | ⟨p',t,hp',hyd,et',htl⟩
    ·cases hr
    cases hp'
    replace I9:Inv X' _ _ H9 s9:=I9.unwish
    have hD9:H9 D=some (.lst ys):=x9.hh _ _ hD'
    have gD9:G9 D=none:=(x9.old _ _ hD').trans gD'
    have ap:=mt_append (X:=X') _ s9 _ H9 (.ref D) [v] (.ref D) [w9] (fun _ H10=>H10=upd H9 D (.lst (ys++[v]))) I9 rfl (.cons rv .nil) ⟨D,ys,v,rfl,rfl,hD9,by have:=wk.len;rw [line_eq];lia,rfl⟩
    rw [hprog,hw,hA,hxe] at ap
    refine wpAny_mono ap (fun _ s10 ⟨_,H10,I10,_,h10⟩=>?_) fun _ _ z=>z.elim
    subst h10
    obtain ⟨k1,k2⟩:=keepT I10
    refine ⟨xs.length - (i+1),by lia,i+1,_,_,G9,ys++[v],rs'++[p],t,rfl,hlt,I10.unpinned,k1,k2,(x'.trans x9).mut hDn gD9 _,upd_same,gD9,(r'.mono x9.gg).append (.one hyd ry),by simp;lia,et',?_,by rw [hown];exact Nat.le_refl 1,by rw [hown];rfl⟩
    rw [er,htl]
    cases t with
    | none=>rfl
    | some t=>simp
   ·have hie:i=xs.length:=by lia
    subst hie
    have done:=T.done X' hprog hw hK hcalm xs.length [] s' σ' H' (notedBy (model X.prog X.w) X.A (compEnvC scope cl C X.env) fun x s'=>R (.error x) s') I' (fun b hb=>fpk H' b hb (fr' b hb)) st' (wk.stop _ H' (x'.gg.trans x'.gh) (Nat.le_refl _))
    rw [hA] at done
    refine thn done fun r s5 ⟨hr,I5⟩=>?_
    subst hr
    rw [List.drop_length] at et
    cases (show some (some [])=some tl from et)
    exact fin rs' (by rw [er];simp) s5 σ' H' G' ys I5 x' hD' gD' r'
  ·refine ⟨0,_,_,G2,[],[],o,by simp,Nat.zero_le _,I4,st4,fun b hb=>?_,?_,upd_same,S.sub.fresh hDn,.nil,Nat.le_refl _,by simpa using e3,?_,?_,?_⟩
   ·rw [upd_ne (fpD b hb)];exact f2 b hb
   ·exact (Ext.refl S.sub).mut hDn (S.sub.fresh hDn) _
   ·cases o <;> simp
   ·unfold slotsC;simp
   ·unfold slotsC
    exact List.drop_left' List.length_replicate
 refine codeAny_compStart_list loop (T.self X.A 0 s4 _ _ st4 loop)
end
section
variable {M:Model} {A:Around} {E:Value→Shared→Prop} {s:Shared}
theorem passOn_any {base:Heap} {l:List PySem.Env} {e:Addr} {cls a0 fl:Value} {what:String} {cenv:PySem.Env} {Q:Value→Shared→Prop} (f1:base.StaysIn s.heap) (f3:s.heap.FunFrames base l) (f4:s.heap.TracedAtW base e cls a0 fl)
  (hE:∀ h' fl',base.StaysIn h'→h'.FunFrames base l→h'.TracedAtW base e cls a0 fl'→s.heap.UpToSlots h'→E (.ref e) {s with heap:=h'}):wpAny M A (PySem.passOn what (.ref e) cenv:Sem Value) Q E s:=by
 obtain ⟨oe,vs,T,oT,ts,he,hc,hd,h1,nT,Te,hT,dT,h3⟩:=f4
 have h3':3<ts.size:=(Array.getElem?_eq_some_iff.mp h3).1
 have other:∀ (x:Value) b,b≠T→(s.heap.update T (Obj.mapFields (·.setIfInBounds 3 x))).get? b=s.heap.get? b:=fun x b hb=>Heap.get?_update_other _ _ (Ne.symm hb)
 have nrec:∀ b o,s.heap.get? b=some o→(∀ ws,o.data≠.fields ws)→b≠T:=fun b o q nf z=>by
  rw [z,hT] at q;cases q;exact nf _ dT
 unfold PySem.passOn
 refine wpAny_bind (wpAny_field he hd h1 ?_)
 rw [if_neg (by simp)]
 refine wpAny_bind ?_
 unfold setFlight
 refine wpAny_bind (wpAny_field he hd h1 ?_)
 rw [if_pos (show (Value.ref T != Value.none)=true from by simp)]
 refine wpAny_setField hT dT h3' (wpAny_throw (hE _ (cenv.frame.elim Value.none fun f=>rawInt f) (fun b o q=>(other _ b fun z=>by rw [z,nT] at q;cases q).trans (f1 b o q)) (f3.of_keeps fun b o q nf=>⟨o,(other _ b (nrec b o q nf)).trans q,rfl⟩) ?_ fun b o q nf=>⟨o.slots,(other _ b (nrec b o q nf)).trans q⟩))
 exact ⟨oe,vs,T,_,_,(other _ e (Ne.symm Te)).trans he,hc,hd,h1,nT,Te,Heap.get?_update_self _ hT (Obj.isFreed_of_fields (Obj.data_mapFields dT _)),Obj.data_mapFields dT _,by simp [h3']⟩
end
section
variable {P:Program} {w:World} {l:List PySem.Env} {H H':Hp} {s s':Shared} {B h':Heap} {Cb:Addr}
theorem Lying.hide (y:Lying P w l H s B H' s') (hC:s.heap.get? Cb=none) (hH:H' Cb=none) (same:Heap.SameBut Cb s'.heap h') (hl:Cb∉frs l):Lying P w l H s (PySem.W.hideAll B [Cb]) H' {s' with heap:=h'}:=by
 have ne:∀ b o,s.heap.get? b=some o→b≠Cb:=fun b o e z=>by rw [z,hC] at e;cases e
 have hid:∀ b o,b≠Cb→B.get? b=some o→(PySem.W.hideAll B [Cb]).get? b=some o:=fun b o n e=>PySem.W.hideAll_get _ e (by simpa using n)
 refine ⟨y.os,y.bare,⟨fun b o q n hb hx=>(same.2 b (ne b o q)).trans (y.un.keep b o q n hb hx),fun b o q n hb hx=>?_,y.un.free,fun b o q hx=>?_,y.un.tups,y.un.frzs,y.un.tbls⟩,fun b o q n hb=>hid b o (ne b o q) (y.kb b o q n hb),fun b o q hb=>?_,fun a x hx=>?_⟩
 ·obtain ⟨sl,e⟩:=y.un.slot b o q n hb hx
  exact ⟨sl,(same.2 b (ne b o q)).trans e⟩
 ·obtain ⟨o',e⟩:=y.un.there b o q hx
  exact ⟨o',(same.2 b (ne b o q)).trans e⟩
 ·obtain ⟨o',e⟩:=y.th b o q hb
  exact ⟨o',hid b o' (ne b o q) e⟩
 ·refine (y.hok a x hx).stay (fun b u hb e=>hid b u (fun z=>?_) e) (fun _ q=>q) fun _ _ q=>q
  subst z
  rcases hb with rfl | hb
  ·rw [hx] at hH;cases hH
  ·rw [hb] at hH;cases hH
theorem funs_hide {h h' base:Heap} {Cb:Addr} (same:Heap.SameBut Cb h h'):∀ {l:List PySem.Env},h.FunFrames base l→Cb∉frs l→h'.FunFrames (PySem.W.hideAll base [Cb]) l
 | [],_,_=>trivial
 | env::r,⟨hk,⟨L,o,hf,hn,ho,hd⟩,hr⟩,hc=>by
  have hL:L≠Cb:=fun z=>hc (List.mem_filterMap.mpr ⟨env,List.mem_cons_self,by rw [hf,z]⟩)
  have hr':Cb∉frs r:=fun z=>hc (by
   obtain ⟨x,hx,hy⟩:=List.mem_filterMap.mp z
   exact List.mem_filterMap.mpr ⟨x,List.mem_cons_of_mem _ hx,hy⟩)
  refine ⟨hk,⟨L,o,hf,?_,(same.2 L hL).trans ho,hd⟩,funs_hide same hr hr'⟩
  cases q:(PySem.W.hideAll base [Cb]).get? L with
  | none=>rfl
  | some u=>rw [PySem.W.of_hideAll _ q] at hn;cases hn
theorem traced_hide {h h' base:Heap} {Cb e:Addr} {cls a0 fl:Value} {o:Obj} (same:Heap.SameBut Cb h h') (hb:base.get? Cb=some o) (he:base.get? e=none) (t:h.TracedAtW base e cls a0 fl):h'.TracedAtW (PySem.W.hideAll base [Cb]) e cls a0 fl:=by
 obtain ⟨oe,vs,T,oT,ts,h1,hc,hd,h2,nT,Te,hT,dT,h3⟩:=t
 have e1:e≠Cb:=fun z=>by rw [z,hb] at he;cases he
 have e2:T≠Cb:=fun z=>by rw [z,hb] at nT;cases nT
 refine ⟨oe,vs,T,oT,ts,(same.2 e e1).trans h1,hc,hd,h2,?_,Te,(same.2 T e2).trans hT,dT,h3⟩
 cases q:(PySem.W.hideAll base [Cb]).get? T with
 | none=>rfl
 | some u=>rw [PySem.W.of_hideAll _ q] at nT;cases nT
end
theorem pi_nox {X:Cx} {tg iter:Expr} {wi:TI} (h:PI X.nox tg iter wi):PI X tg iter wi:=fun pins s σ H R I hw=>
 wpAny_mono (h pins s σ H R (I.wish _) hw) (fun _ _ h1=>wpAny_mono h1 (fun _ _ ⟨it,fp,tn,J,H',e,I',T,st,f,r⟩=>⟨it,fp,tn,J,H',e,I'.unwish,T,st,f,r⟩) fun _ _ z=>z.elim) fun _ _ z=>z.elim
noncomputable def tCmp (cf:CF) (K:PySem.W.Frag) (Z:XK) (g:List PV→Option (Option PV)) (iit:E):TE:=fun σ H Q=>∃ G ρ sq xs o,SR K G H σ ρ∧evE cf iit ρ=some sq∧seqOf sq=some xs∧cmpX (fun x=>g [x]) xs=some o∧
 (∀ rs,o=some rs→∀ v G' H',Ext G H G' H'→Rp K G' (.list rs) v→Q v H')∧(o=none→∀ a G' H',Ext G H G' H'→Z (.ref a) none H')
section
variable {P:Program} {w:World} {K:PySem.W.Frag} {mg:Str→Option Value} {base:Heap} {N:List Str} {qual:Str} {fscope:Scope} {f:Addr} {cd:Value} {A:Around} {outer:List PySem.Env} {s₀:Shared} {H₀:Hp} {E₀:XK} {C:Addr} {cf:CF}
theorem pe_compX {own:List Str} {scope:Scope} {target iter elt arg:Expr} {pos:Pos} {icond iit:E} {g:List PV→Option (Option PV)} (CS:CScope (cxN P w C K mg base N qual fscope f cd A outer s₀ H₀ E₀) own [] scope) (hown:own.length=1)
  (hit:PI (cxN P w C K mg base N qual fscope f cd A outer s₀ H₀ E₀) target iter (tI cf K iit)) (hfs:∀ x,foldedSetIterable iter (cxN P w C K mg base N qual fscope f cd A outer s₀ H₀ E₀).env x=pure x) (B:BlkOk (cxN P w C K mg base N qual fscope f cd A outer s₀ H₀ E₀).nox cf own [] scope none target [] arg icond (.var 0))
  (hel:∀ (X':Cx) (Zc:Value→Shared→Prop) (Z:XK),Blk (cxN P w C K mg base N qual fscope f cd A outer s₀ H₀ E₀).nox (namesC (cxN P w C K mg base N qual fscope f cd A outer s₀ H₀ E₀) own []) scope X'→Passes (CXN P w C) (X'.wish Zc) Z→PE (X'.wish Zc) elt (tCall (spX K 1 g) [] Z (tA cf K (.cons (.var 0) .nil)))):
  PE (cxN P w C K mg base N qual fscope f cd A outer s₀ H₀ E₀) (.ListComp elt [⟨target,iter,[],0⟩] scope pos) (tCmp cf K E₀ g iit):=by
 intro pins s σ H Q I h
 obtain ⟨G,ρ,sq,xs,o,S,e1,e2,e3,hok,hex⟩:=h
 have hfr:∀ x∈scope.names,x.2=.free→∃ c,(cxN P w C K mg base N qual fscope f cd A outer s₀ H₀ E₀).env.cells.lookup x.1=some c:=fun x hx e=>I.ok.has x.1 (CS.frees x hx e)
 rw [eval_ListComp]
 refine wpAny_comprehension_free (use:=none) rfl hfs (closure_of hfr) CS.kind CS.locals ?_
 have w0:=hit pins s σ H (fun J H2=>∃ G2,Ext G H G2 H2∧Walk K J G2 xs) I ⟨G,ρ,sq,xs,S,e1,e2,fun J G' H' x w=>⟨G',x,w⟩⟩
 refine wpAny_mono w0 (fun v s1 h1=>wpAny_mono h1 (fun itv s2 h2=>?_) fun _ _ z=>z) fun _ _ z=>z
 obtain ⟨it,fp,tn,J,H2,rfl,I2,T,st2,f2,G2,x2,wk⟩:=h2
 refine wpAny_newObj_type (nfe_comp ?_)
 have O:=ownC_of scope.names ((s2.heap.push {cls:=.type "list",dict:=none,data:=.seq ([]:List Value).toArray}).push {cls:=.type "dict",data:=.dict #[]})
 rw [Heap.size_push (s2.heap.push _)] at O
 have hns₁:=(Heap.Ns.new (s2.heap.push {cls:=.type "list",dict:=none,data:=.seq ([]:List Value).toArray}) (.type "dict")).keeps (pushCells_keeps scope.names _)
 have hkp:∀ b ob,(s2.heap.push {cls:=.type "list",dict:=none,data:=.seq ([]:List Value).toArray}).get? b=some ob→(pushCells ((s2.heap.push {cls:=.type "list",dict:=none,data:=.seq ([]:List Value).toArray}).push {cls:=.type "dict",data:=.dict #[]}) scope.names).get? b=some ob:=fun b ob e=>pushCells_keeps scope.names _ _ _ (Heap.get?_push_of_some _ e)
 rw [cellsFrom_app]
 dsimp only at hns₁ ⊢
 generalize (pushCells ((s2.heap.push {cls:=.type "list",dict:=none,data:=.seq ([]:List Value).toArray}).push {cls:=.type "dict",data:=.dict #[]}) scope.names)=h₁ at hns₁ hkp O ⊢
 generalize cellsFrom ((s2.heap.push {cls:=.type "list",dict:=none,data:=.seq ([]:List Value).toArray}).objs.size+1) scope.names []=new at O ⊢
 generalize hD:s2.heap.objs.size=D at hns₁ ⊢
 have fo2:=T.obj 0 _ st2
 have hDn:H2 D=none:=by rw [← hD];exact I2.hok.fresh (Nat.le_refl _)
 have fpD:∀ b∈fp,b≠D:=fun b hb=>by
  obtain ⟨ob,eo,_⟩:=fo2 b hb
  rw [← hD];exact Nat.ne_of_lt (Heap.lt_size eo)
 have I3:Inv (cxN P w C K mg base N qual fscope f cd A outer s₀ H₀ E₀) pins σ (upd H2 D (.lst [])) {s2 with heap:=s2.heap.push {cls:=.type "list",dict:=none,data:=.seq ([]:List Value).toArray}}:=by
  refine I2.laid (t':=s2.toks) (fun b ob e=>Heap.get?_push_of_some _ e) (by rw [hD];exact Nat.le_refl _) ?_
  exact ⟨Nat.zero_le _,[],0,.nil,by rw [← hD];exact Heap.get?_push_size _ rfl⟩
 have kept:∀ b ob,s2.heap.get? b=some ob→h₁.get? b=some ob:=fun b ob e=>hkp b ob (Heap.get?_push_of_some _ e)
 have fp3:∀ b∈fp,FpOk (cxN P w C K mg base N qual fscope f cd A outer s₀ H₀ E₀) pins (upd H2 D (.lst [])) b:=fun b hb=>by
  obtain ⟨a1,a2,a3,a4,a5,a6⟩:=f2 b hb
  exact ⟨by rw [upd_ne (fpD b hb)];exact a1,a2,a3,a4,a5,a6⟩
 have fo3:∀ b∈fp,∃ ob,(s2.heap.push {cls:=.type "list",dict:=none,data:=.seq ([]:List Value).toArray}).get? b=some ob:=fun b hb=>by
  obtain ⟨ob,eo,_⟩:=fo2 b hb
  exact ⟨ob,Heap.get?_push_of_some _ eo⟩
 have I4:=inv_comp (h1:=h₁) (t:=s2.toks) I3 CS rfl fp3 fo3 hns₁ hkp O
 have S2:=S.ext x2
 have st4:tn 0 h₁:=T.keep 0 _ _ st2 fun b _ ob e=>kept b ob e
 generalize hCb:(s2.heap.push {cls:=.type "list",dict:=none,data:=.seq ([]:List Value).toArray}).objs.size=Cb at I4 ⊢
 have CbF:Cb∉L2.frs (cxN P w C K mg base N qual fscope f cd A outer s₀ H₀ E₀).stack:=fun z=>by
  obtain ⟨_,ob,eo,_⟩:=I3.stack.mem z
  have:=Heap.lt_size eo
  rw [← hCb] at this
  exact absurd this (Nat.lt_irrefl _)
 have Cb0:s₀.heap.get? Cb=none:=Heap.get?_none_of_le (by rw [← hCb];exact I3.sz)
 have CbO:Cb∉L2.frs outer:=fun z=>CbF (by
  obtain ⟨x,hx,hy⟩:=List.mem_filterMap.mp z
  exact List.mem_filterMap.mpr ⟨x,List.mem_cons_of_mem _ hx,hy⟩)
 refine comp_blockX (X:=cxN P w C K mg base N qual fscope f cd A outer s₀ H₀ E₀) (CX:=CXN P w C) (H2:=H2) (σ:=σ) (ρ:=ρ)
  (Zc:=fun e s'=>∃ a t Bh H',e=.ref a∧Heap.FlyingW Bh (cxN P w C K mg base N qual fscope f cd A outer s₀ H₀ E₀).stack a (.ref C) (.ref t) s'.heap∧Lying P w outer H₀ s₀ Bh H' s'∧(o=none∧∃ G',Ext G2 H2 G' H')∧(∃ m ob,Bh.get? Cb=some ob∧s'.heap.Ns Cb m)∧H' Cb=none)
  hown T wk B S2 hDn fpD (fun b hb=>(f2 b hb).1) (fun Hx b hb hn=>?_) I4 st4 (fun X' blk hp=>hel X' _ _ blk hp) ?_ (fun e s' hz=>?_) e3 (fun rs hrs s' σ' H' G' ys I' x' hD' gD' r'=>?_)
 ·obtain ⟨a1,a2,a3,a4,a5,a6⟩:=f2 b hb
  obtain ⟨ob,eo⟩:=fo3 b hb
  refine ⟨hn,?_,(I4.ok.exfs b hb),.inl hb,(I4.ok.exf b hb).2,fun p hp=>absurd (show p∈([]:List (Addr×Obj)) from hp) (by simp)⟩
  have:=Heap.lt_size eo
  rw [hCb] at this
  exact Nat.ne_of_lt this
 ·intro pins' σ' Hc sc e s' I' hx
  obtain ⟨a,t,Bh,H',rfl,fl,y,q⟩:=hx
  subst hCb
  have I0:=Inv.unpinned (pins:=[]) (pl:=pins') (Inv.unwish I')
  have Ib:=inv_back (h'':=sc.heap) I3 I0 (.refl ..) fp3
  obtain ⟨m,⟨ob,es,ep,eo,hm⟩,_⟩:=I0.loc
  have hfree:Hc _=none:=I0.free
  have eB:=y.kb _ ob eo hfree CbF
  exact ⟨a,t,Bh,H',rfl,fl,own_cxOf.lying Ib y,q,⟨m,ob,eB,ob,es,ep,fl.1 _ _ eB,hm⟩,y.un.free _ ob eo hfree (by simp)⟩
 ·obtain ⟨a,t,Bh,H',rfl,fl,y,q,⟨m,ob,eB,hn⟩,hH⟩:=hz
  show wpAny (model P w) _ (noteFrame (.ref a) (cxN P w C K mg base N qual fscope f cd A outer s₀ H₀ E₀).env) _ _ s'
  refine wpAny_looks_onW I.ok.frames rfl fl fun h' hh' up=>?_
  have y':=y.step fl.2.2.1.2.2 hh'.2.2.1.2.2 hh'.1 up
  refine ⟨m,?_,fun h'' same cenv hcl=>?_⟩
  ·obtain ⟨o1,es,ep,e1,hm⟩:=hn
   rw [fl.1 _ _ eB] at e1
   cases e1
   exact ⟨ob,es,ep,hh'.1 _ _ eB,hm⟩
  have y'':=y'.hide Cb0 hH same CbO
  have fO:h''.FunFrames (PySem.W.hideAll Bh [Cb]) outer:=funs_hide same hh'.2.2.1.2.2 CbO
  refine passOn_any (base:=PySem.W.hideAll Bh [Cb]) (l:=(cxN P w C K mg base N qual fscope f cd A outer s₀ H₀ E₀).stack) (fun b u e=>?_) (funs_hide same hh'.2.2.1 CbF) (traced_hide same eB hh'.2.1 hh'.2.2.2) fun h3 fl' k1 k2 k3 up3=>?_
  ·have hb:b≠Cb:=fun z=>by rw [z,PySem.W.hideAll_none _ (by simp)] at e;cases e
   exact (same.2 b hb).trans (hh'.1 b u (PySem.W.of_hideAll _ e))
  have ha:(PySem.W.hideAll Bh [Cb]).get? a=none:=by
   cases z:(PySem.W.hideAll Bh [Cb]).get? a with
   | none=>rfl
   | some u=>have:=PySem.W.of_hideAll _ z;rw [hh'.2.1] at this;cases this
  obtain ⟨q1,G',q2⟩:=q
  refine leave_any I.ok.frames rfl k1 ha k2 k3 fun h4 fl4 up4=>⟨a,t,_,H',rfl,fl4,?_,hex q1 a G' H' (x2.trans q2)⟩
  exact (y''.step fO k2.2.2 k1 up3).step k2.2.2 fl4.2.2.1 fl4.1 up4
 ·subst hCb
  have hDH:H D=none:=by
   cases q:H D with
   | none=>rfl
   | some u=>have:=x2.hh D u q;rw [hDn] at this;cases this
  obtain ⟨m',hn',_⟩:=I'.loc
  refine ⟨m',hn',fun h'' hs''=>⟨.ref D,H',inv_back I3 I' hs'' fp3,rfl,?_⟩⟩
  exact hok rs hrs _ _ _ ((x2.trans x').frz hDH gD' hD') ⟨D,ys,rfl,SqL.of upd_same,r'.mono (.new gD' _)⟩
end
noncomputable def onRaise (st:Stmt) (k:Expr→Bool):Bool:=match st with
 | .Raise x c _=>c.isNone&&onSo x k
 | _=>false
@[elab_as_elim] theorem onRaise_el {st:Stmt} {k:Expr→Bool} {P:Stmt→Prop} (h:onRaise st k=true) (H:∀ e p,k e=true→P (.Raise (some e) none p)):P st:=by
 cases st with
 | Raise x c p=>
  obtain ⟨h1,h2⟩:=(Bool.and_eq_true _ _).mp (show (c.isNone&&onSo x k)=true from h)
  cases c with
  | none=>exact onSo_el h2 fun e he=>H e p he
  | some _=>cases h1
 | _=>exact nomatch (show false=true from h)
noncomputable def onWhl (st:Stmt) (k:Expr→List Stmt→Bool):Bool:=match st with
 | .While c b o _=>o.isEmpty&&k c b
 | _=>false
@[elab_as_elim] theorem onWhl_el {st:Stmt} {k:Expr→List Stmt→Bool} {P:Stmt→Prop} (h:onWhl st k=true) (H:∀ c b p,k c b=true→P (.While c b [] p)):P st:=by
 cases st with
 | While c b o p=>
  obtain ⟨h1,h2⟩:=(Bool.and_eq_true _ _).mp (show (o.isEmpty&&k c b)=true from h)
  cases o with
  | nil=>exact H c b p h2
  | cons _ _=>cases h1
 | _=>exact nomatch (show false=true from h)
noncomputable def onJoin (e:Expr) (k:List Expr→Bool):Bool:=match e with
 | .JoinedStr vs _=>k vs
 | _=>false
@[elab_as_elim] theorem onJoin_el {e:Expr} {k:List Expr→Bool} {P:Expr→Prop} (h:onJoin e k=true) (H:∀ vs p,k vs=true→P (.JoinedStr vs p)):P e:=by
 cases e with
 | JoinedStr vs p=>exact H vs p h
 | _=>exact nomatch (show false=true from h)
noncomputable def onFmt (e:Expr) (k:Expr→Bool):Bool:=match e with
 | .FormattedValue v c s _=>s.isNone&&c==114&&k v
 | _=>false
@[elab_as_elim] theorem onFmt_el {e:Expr} {k:Expr→Bool} {P:Expr→Prop} (h:onFmt e k=true) (H:∀ v p,k v=true→P (.FormattedValue v 114 none p)):P e:=by
 cases e with
 | FormattedValue v c s p=>
  obtain ⟨h1,h2⟩:=(Bool.and_eq_true _ _).mp (show (s.isNone&&c==114&&k v)=true from h)
  obtain ⟨h3,h4⟩:=(Bool.and_eq_true _ _).mp h1
  cases eq_of_beq h4
  cases s with
  | none=>exact H v p h2
  | some _=>cases h3
 | _=>exact nomatch (show false=true from h)
section
variable (Gam:Info) (Δ:List (Str×Nat×Nat)) (N:List Str) (nm:Nms)
noncomputable def chkRz (m:E) (st:Stmt):Bool:=onRaise st fun e=>onCall e fun g as _=>onName g fun x _=>on1 as fun v=>x=="NoText"&&glB nm x&&plainE v&&!isPeek m &&
 (chkE Gam 200 N nm m v||onJoin v fun vs=>onCons vs fun a r=>onCons r fun b r=>on1 r fun c=>onConst a fun ca _ _=>onStr ca fun s1=>onFmt b fun y=>onConst c fun cc _ _=>onStr cc fun s2=>decide (s1.length≤1000)&&decide (s2.length≤1000)&&chkE Gam 200 N nm m y)
noncomputable def chkCx (i f:Nat) (a:E) (st:Stmt):Bool:=onAsg st fun t v _=>onName t fun x _=>onCall v fun g as _=>onName g fun y _=>onCons as fun e es=>N[i]?==some x&&locB nm x&&glB nm y&&plainE e&&es.all plainE&&chkA (chkE Gam 200 N nm) a (e::es)&&Δ.any fun d=>d.1==y&&d.2.1==f&&argN a==some d.2.2
noncomputable def chkCmp (i f:Nat) (a:E) (st:Stmt):Bool:=onAsg st fun t v _=>onName t fun x _=>onCall v fun g as _=>onName g fun tn _=>on1 as fun lc=>onLC lc fun elt gs scope pos=>on1 gs fun q=>onCall elt fun g2 as2 _=>onName g2 fun fn _=>on1 as2 fun arg=>
 N[i]?==some x&&locB nm x&&bltB Gam nm tn "tuple"&&q.ifs.isEmpty&&chkComp Gam N nm (chkE Gam 199 N nm) (chkE Gam 199) none [] a (.con (.bool true)) (.var 0) (.ListComp arg [q] scope pos)&&glB (relB nm scope.names) fn&&plainE arg&&Δ.any fun d=>d.1==fn&&d.2.1==f&&d.2.2==1
noncomputable def noZ:SX→Bool
 | .nil=>true
 | .pu _ r=>noZ r
 | .call _ _ _ r=>noZ r
 | _=>false
noncomputable def chkX:SX→List Stmt→Bool
 | .nil,sts=>sts.isEmpty
 | .pu s r,sts=>onCons sts fun st l=>chkS Gam N nm (chkE Gam 200 N nm) (chkBody Gam 200 200 N nm) s st&&chkX r l
 | .rz c m r,sts=>onCons sts fun st l=>(onIfS st fun t x y=>y.isEmpty&&chkE Gam 200 N nm c t&&on1 x fun z=>chkRz Gam N nm m z)&&chkX r l
 | .call i f a r,sts=>onCons sts fun st l=>chkCx Gam Δ N nm i f a st&&chkX r l
 | .cmp i f a r,sts=>onCons sts fun st l=>chkCmp Gam Δ N nm i f a st&&chkX r l
 | .whl c b r,sts=>onCons sts fun st l=>(onWhl st fun t x=>chkE Gam 200 N nm c t&&noZ b&&chkX b x)&&chkX r l
end
structure GX (Y:Cx) (C:Addr) (k:Nat) (gx:GF) (Δ:List (Str×Nat×Nat)):Prop where
 fns:∀ x id n,(x,id,n)∈Δ→∃ fa fd ps,ps.length=n∧Y.mg x=some (.ref fa)∧PySem.W.keepIn Y.K (.ref fa)=true∧L2.Binds Y.K fd ps []∧FnOk Y.prog Y.w Y.K Y.mg Y.base (CXN Y.prog Y.w C) k fa fd ps (spX Y.K ps.length (gx id))
section
variable {Y:Cx} {cf:CF} {k:Nat} {Gam:Info} {Δ:List (Str×Nat×Nat)} {C:Addr} {gx:GF} {Z:XK}
theorem ok_pu (g:Good Y.nox k cf Gam) (hk:Y.env.scope.kind=.function) (hN:Y.N.Nodup) (hfn:∀ x,Y.fn x=true) {is:S} {st:Stmt} (h:chkS Gam Y.N Y.env.scope.names (chkE Gam 200 Y.N Y.env.scope.names) (chkBody Gam 200 200 Y.N Y.env.scope.names) is st=true):PS Y st (tS cf Y.K is):=
 ps_nox (ok_stmt (X:=Y.nox) (m:=199) g hk hN hfn (ok_body (X:=Y.nox) (m:=199) g hk hN hfn 200) h)
theorem pa_nox {X:Cx} {es:List Expr} {t:TA} (h:PA X.nox es t):PA X es t:=fun pos pins s σ H Q I hw=>
 wpAny_mono (h pos pins s σ H Q (I.wish _) hw) (fun _ _ ⟨v,H',I',r,q⟩=>⟨v,H',I'.unwish,r,q⟩) fun _ _ z=>False.elim z
theorem ok_callX (g:Good Y.nox k cf Gam) (G:GX Y C k gx Δ) (hk:Y.env.scope.kind=.function) (hN:Y.N.Nodup) (hfn:∀ x,Y.fn x=true) (hp:Passes (CXN Y.prog Y.w C) Y Z) {i f:Nat} {a:E} {st:Stmt} {sts:List Stmt} {ev:Env→Option Ox} (h:chkCx Gam Δ Y.N Y.env.scope.names i f a st=true) (hr:PSs Y sts (tO Y.K Z ev)):
  PSs Y (st::sts) (tO Y.K Z fun ρ=>bnd (evE cf a ρ) fun q=>bnd (argsX gx f q) (callX i ev ρ)):=by
 refine onAsg_el h fun t v pos h=>?_
 refine onName_el h fun x p h=>?_
 refine onCall_el h fun g1 as cpos h=>?_
 refine onName_el h fun y p2 h=>?_
 refine onCons_el h fun e es h=>?_
 simp only [Bool.and_eq_true,beq_iff_eq] at h
 obtain ⟨⟨⟨⟨⟨⟨h1,h2⟩,h3⟩,h4⟩,h5⟩,h6⟩,h7⟩:=h
 obtain ⟨d,hd,h8⟩:=List.any_eq_true.mp h7
 simp only [Bool.and_eq_true,beq_iff_eq] at h8
 obtain ⟨⟨rfl,rfl⟩,h9⟩:=h8
 obtain ⟨gl,o1,o3⟩:=glB_of h3
 obtain ⟨fa,fd,ps,e1,e2,e3,e4,e5⟩:=G.fns d.1 d.2.1 d.2.2 hd
 obtain ⟨pa,_⟩:=ok_args (chk_ok (cf:=cf) (k:=k) (Gam:=Gam) 200 Y.nox g hk) h6
 exact x_call (gx:=gx) e5 g.room gl e2 e3 e4 hp (pa_nox pa) (by rw [h9,e1]) o1 h4 h5 hN h1 (locB_of h2) (.inl (hfn x)) hr
theorem ok_b (g:Good Y.nox k cf Gam) (G:GX Y C k gx Δ) (hk:Y.env.scope.kind=.function) (hN:Y.N.Nodup) (hfn:∀ x,Y.fn x=true) (hp:Passes (CXN Y.prog Y.w C) Y Z):∀ (sx:SX) (sts:List Stmt),chkX Gam Δ Y.N Y.env.scope.names sx sts=true→noZ sx=true→PSs Y sts (tO Y.K Z (evX cf gx sx)):=by
 intro sx
 induction sx with
 | nil=>
  intro sts h _
  cases sts with
  | nil=>exact x_nil
  | cons _ _=>exact nomatch (show false=true from h)
 | pu s r ih=>
  intro sts h hz
  refine onCons_el (show onCons sts _=true from h) fun st l h=>?_
  obtain ⟨h1,h2⟩:=(Bool.and_eq_true _ _).mp h
  exact x_pu (ok_pu g hk hN hfn h1) (ih l h2 hz)
 | call i f a r ih=>
  intro sts h hz
  refine onCons_el (show onCons sts _=true from h) fun st l h=>?_
  obtain ⟨h1,h2⟩:=(Bool.and_eq_true _ _).mp h
  exact ok_callX g G hk hN hfn hp h1 (ih l h2 hz)
 | rz c m r _=>intro sts h hz;cases hz
 | cmp i f a r _=>intro sts h hz;cases hz
 | whl c b r _ _=>intro sts h hz;cases hz
end
section
variable {P:Program} {w:World} {K:PySem.W.Frag} {mg:Str→Option Value} {base:Heap} {N:List Str} {qual:Str} {scope:Scope} {f:Addr} {cd:Value} {A:Around} {outer:List PySem.Env} {s₀:Shared} {H₀:Hp} {E₀:XK} {C:Addr}
variable {cf:CF} {k:Nat} {Gam:Info} {Δ:List (Str×Nat×Nat)} {gx:GF}
theorem ok_rz (g:Good (cxN P w C K mg base N qual scope f cd A outer s₀ H₀ E₀).nox k cf Gam) (hk:scope.kind=.function) (hX:PySem.W.excIn K C bmV "ValueError.__new__"=true) (hm:mg "NoText"=some (.ref C)) {m:E} {st:Stmt} (h:chkRz Gam N scope.names m st=true):
  PS (cxN P w C K mg base N qual scope f cd A outer s₀ H₀ E₀) st (fun _ σ H=>∃ G ρ p,SR K G H σ ρ∧evE cf m ρ=some p∧shortS p=true∧∀ a G' H',Ext G H G' H'→E₀ (.ref a) none H'):=by
 refine onRaise_el h fun e pos h=>?_
 refine onCall_el h fun g1 as cpos h=>?_
 refine onName_el h fun x p h=>?_
 refine on1_el h fun v h=>?_
 simp only [Bool.and_eq_true,beq_iff_eq,Bool.not_eq_true'] at h
 obtain ⟨⟨⟨⟨rfl,h2⟩,h3⟩,h4⟩,h5⟩:=h
 obtain ⟨gl,o1,o3⟩:=glB_of (X:=cxN P w C K mg base N qual scope f cd A outer s₀ H₀ E₀) h2
 have IH:=chk_ok (cf:=cf) (k:=k) (Gam:=Gam) 200 (cxN P w C K mg base N qual scope f cd A outer s₀ H₀ E₀).nox g hk
 rcases Bool.or_eq_true_iff.mp h5 with h6 | h6
 ·refine (ps_raise hX hm gl o1 (IH m v h6).pe.nox h3).weak fun D σ H ⟨G,ρ,p,S,e,_,k⟩=>?_
  exact ⟨G,ρ,p,S,e,fun v' G' H' x _=>⟨Nat.le_refl _,fun a=>k a G' H' x⟩⟩
 ·clear h5
  revert h3
  refine onJoin_el (P:=fun v=>plainE v=true→PS (cxN P w C K mg base N qual scope f cd A outer s₀ H₀ E₀) (.Raise (some (.Call (.Name "NoText" p) [v] [] cpos)) none pos) _) h6 fun vs jp h7=>?_
  refine onCons_el h7 fun ca r h8=>?_
  refine onCons_el h8 fun fb r2 h9=>?_
  refine on1_el h9 fun cc h10=>?_
  refine onConst_el h10 fun c1 j1 p1 h11=>?_
  refine onStr_el h11 fun s1 h12=>?_
  refine onFmt_el h12 fun y p2 h13=>?_
  refine onConst_el h13 fun c2 j2 p3 h14=>?_
  refine onStr_el h14 fun s2 h15=>?_
  simp only [Bool.and_eq_true,decide_eq_true_eq] at h15
  obtain ⟨⟨l1,l2⟩,h16⟩:=h15
  intro h3
  refine (ps_raise hX hm gl o1 (pe_fstr (IH m y h16).pe.nox l1 l2) h3).weak fun D σ H ⟨G,ρ,p,S,e,sh,k⟩=>?_
  refine ⟨G,ρ,p,S,e,fun v' G' H' x rv=>?_⟩
  cases p with
  | str z=>
   obtain ⟨rfl,so,_⟩:=(show v'=.str z∧PyData.strOk z=true∧z.length≤16777216 from rv.rp h4)
   exact ⟨z,rfl,so,of_decide_eq_true sh,fun out=>⟨Nat.le_refl _,fun a=>k a G' H' x⟩⟩
  | _=>exact nomatch (show false=true from sh)
theorem ok_cmp (g:Good (cxN P w C K mg base N qual scope f cd A outer s₀ H₀ E₀).nox k cf Gam) (G:GX (cxN P w C K mg base N qual scope f cd A outer s₀ H₀ E₀) C k gx Δ) (hk:scope.kind=.function) (hN:N.Nodup) {i id:Nat} {a:E} {st:Stmt} {sts:List Stmt} {ev:Env→Option Ox}
  (h:chkCmp Gam Δ N scope.names i id a st=true) (hr:PSs (cxN P w C K mg base N qual scope f cd A outer s₀ H₀ E₀) sts (tO K E₀ ev)):
  PSs (cxN P w C K mg base N qual scope f cd A outer s₀ H₀ E₀) (st::sts) (tO K E₀ fun ρ=>bnd (evE cf a ρ) fun s=>bnd (seqOf s) fun xs=>bnd (cmpX (fun x=>gx id [x]) xs) (cmpK i ev ρ)):=by
 refine onAsg_el h fun t v apos h=>?_
 refine onName_el h fun x px h=>?_
 refine onCall_el h fun g1 as cpos h=>?_
 refine onName_el h fun tn pt h=>?_
 refine on1_el h fun lc h=>?_
 refine onLC_el h fun elt gs sc lpos h=>?_
 refine on1_el h fun q h=>?_
 refine onCall_el h fun g2 as2 epos h=>?_
 refine onName_el h fun fn pf h=>?_
 refine on1_el h fun arg h=>?_
 simp only [Bool.and_eq_true,beq_iff_eq] at h
 obtain ⟨⟨⟨⟨⟨⟨⟨h1,h2⟩,h3⟩,h4⟩,h5⟩,h6⟩,h7⟩,h8⟩:=h
 obtain ⟨d,hd,h9⟩:=List.any_eq_true.mp h8
 simp only [Bool.and_eq_true,beq_iff_eq] at h9
 obtain ⟨⟨rfl,rfl⟩,h10⟩:=h9
 obtain ⟨fa,fd,ps,e1,e2,e3,e4,e5⟩:=G.fns d.1 d.2.1 d.2.2 hd
 obtain ⟨tgt,iter,ifs,z⟩:=q
 have hi0:ifs=[]:=List.isEmpty_iff.mp h4
 subst hi0
 obtain ⟨rfl,own,c⟩:=comp_data g hk (chk_ok (cf:=cf) (k:=k) (Gam:=Gam) 199 _ g hk) (fun X' g' hk'=>chk_ok (cf:=cf) (k:=k) (Gam:=Gam) 199 X' g' hk') h5
 obtain ⟨rfl,gl,o1,o3,hmT⟩:=bltB_of g h3
 have lcp:PE (cxN P w C K mg base N qual scope f cd A outer s₀ H₀ E₀) (.ListComp (.Call (.Name d.1 pf) [arg] [] epos) [⟨tgt,iter,[],0⟩] sc lpos) (tCmp cf K E₀ (gx d.2.1) a):=by
  refine pe_compX (arg:=arg) ⟨c.cs.kind,c.cs.cells,c.cs.locals,c.cs.frees,c.cs.caps⟩ c.hown (pi_nox c.hit) c.hfs c.B fun X' Zc Z b hp=>?_
  have hnox:(X'.wish Zc).nox=X':=by
   have hx:=b.xe
   cases X'
   dsimp only at hx
   subst hx
   rfl
  have pa:PA (X'.wish Zc) [arg] (tA cf K (.cons (.var 0) .nil)):=by
   refine pa_nox ?_
   rw [hnox]
   have:=snd_cons (X:=X') (cf:=cf) (it:=.nil) (es:=[]) (by rw [b.K];exact c.B.elt X' b) (by have:=snd_nil (X:=X') (cf:=cf);exact this) rfl h7
   rw [b.K] at this
   exact this
  have gl':Gl (X'.wish Zc) d.1∧(d.1==("__debug__":Str))=false∧d.1≠"__name__":=by
   refine glB_of (X:=X'.wish Zc) ?_
   have:X'.env.scope.names=relB scope.names sc.names:=by rw [b.sc];exact relB_eq hk
   show glB X'.env.scope.names d.1=true
   rw [this];exact h6
  have hps:ps.length=1:=by rw [e1,h10]
  have F:FnOk (X'.wish Zc).prog (X'.wish Zc).w (X'.wish Zc).K (X'.wish Zc).mg (X'.wish Zc).base (CXN P w C) k fa fd ps (spX K 1 (gx d.2.1)):=by
   show FnOk X'.prog X'.w X'.K X'.mg X'.base _ _ _ _ _ _
   rw [b.prog,b.w,b.K,b.mg,b.base,← hps]
   exact e5
  exact pe_call F (by show Room k X'.A;rw [b.A];exact g.room) gl'.1 (by show X'.mg _=_;rw [b.mg];exact e2) (by show PySem.W.keepIn X'.K _=_;rw [b.K];exact e3) (by show L2.Binds X'.K _ _ _;rw [b.K];exact e4) .nil hp pa gl'.2.1 (star_of h7 _ _) rfl
 refine (pss_cons (ps_set hN h1 (locB_of (X:=cxN P w C K mg base N qual scope f cd A outer s₀ H₀ E₀) h2) (pe_callTy s_toTuple gl hmT PyProof.Rows.boot_tuple (pa_cons lcp pa_nil (star_of rfl _ _)) o3 o1 (star_of rfl _ _)) rfl (.inl rfl)) hr).weak fun D σ H ⟨G0,H0,G,ρ,o,T,e,k⟩=>?_
 obtain ⟨s,e6,e7⟩:=bnd_eq.mp e
 obtain ⟨xs,e8,e9⟩:=bnd_eq.mp e7
 obtain ⟨r,e10,e11⟩:=bnd_eq.mp e9
 refine ⟨G,ρ,s,xs,r,T.sr,e6,e8,e10,fun rs hrs v G1 H1 x1 r1=>?_,fun hn a' G1 H1 x1=>?_⟩
 ·subst hrs
  refine ⟨v,rfl,G1,.list rs,.tuple rs,x1.gh,r1.rk x1.gh,rfl,fun u G2 H2 x2 r2=>?_⟩
  exact ⟨G0,H0,G2,ρ.set i (.val (.tuple rs)),o,(T.ext (x1.trans x2)).setVal r2,e11,k⟩
 ·subst hn
  cases (show some Ox.ex=some o from e11)
  exact k a' G1 H1 (T.ex.trans x1)
theorem ok_x (g:Good (cxN P w C K mg base N qual scope f cd A outer s₀ H₀ E₀).nox k cf Gam) (G:GX (cxN P w C K mg base N qual scope f cd A outer s₀ H₀ E₀) C k gx Δ) (hk:scope.kind=.function) (hN:N.Nodup)
  (hX:PySem.W.excIn K C bmV "ValueError.__new__"=true) (hm:mg "NoText"=some (.ref C)):∀ (sx:SX) (sts:List Stmt),chkX Gam Δ N scope.names sx sts=true→PSs (cxN P w C K mg base N qual scope f cd A outer s₀ H₀ E₀) sts (tO K E₀ (evX cf gx sx)):=by
 intro sx
 induction sx with
 | nil=>
  intro sts h
  cases sts with
  | nil=>exact x_nil
  | cons _ _=>exact nomatch (show false=true from h)
 | pu s r ih=>
  intro sts h
  refine onCons_el (show onCons sts _=true from h) fun st l h=>?_
  obtain ⟨h1,h2⟩:=(Bool.and_eq_true _ _).mp h
  exact x_pu (ok_pu g hk hN (fun _=>rfl) h1) (ih l h2)
 | call i f a r ih=>
  intro sts h
  refine onCons_el (show onCons sts _=true from h) fun st l h=>?_
  obtain ⟨h1,h2⟩:=(Bool.and_eq_true _ _).mp h
  exact ok_callX g G hk hN (fun _=>rfl) (passes fun _ _ z=>z) h1 (ih l h2)
 | rz c m r ih=>
  intro sts h
  refine onCons_el (show onCons sts _=true from h) fun st l h=>?_
  obtain ⟨h1,h2⟩:=(Bool.and_eq_true _ _).mp h
  refine onIfS_el h1 fun t x y pos h3=>?_
  simp only [Bool.and_eq_true] at h3
  obtain ⟨⟨h4,h5⟩,h6⟩:=h3
  have hy:y=[]:=List.isEmpty_iff.mp h4
  subst hy
  refine on1_el h6 fun z h7=>?_
  exact x_rz ((chk_ok (cf:=cf) (k:=k) (Gam:=Gam) 200 _ g hk c t h5).pt.nox) (ok_rz g hk hX hm h7) (ih l h2)
 | cmp i f a r ih=>
  intro sts h
  refine onCons_el (show onCons sts _=true from h) fun st l h=>?_
  obtain ⟨h1,h2⟩:=(Bool.and_eq_true _ _).mp h
  exact ok_cmp g G hk hN h1 (ih l h2)
 | whl c b r _ ih=>
  intro sts h
  refine onCons_el (show onCons sts _=true from h) fun st l h=>?_
  obtain ⟨h1,h2⟩:=(Bool.and_eq_true _ _).mp h
  refine onWhl_el h1 fun t x pos h3=>?_
  simp only [Bool.and_eq_true] at h3
  obtain ⟨⟨h4,h5⟩,h6⟩:=h3
  have gY:Good ((cxN P w C K mg base N qual scope f cd A outer s₀ H₀ E₀).wish (Zx C E₀ (cxN P w C K mg base N qual scope f cd A outer s₀ H₀ E₀))).nox k cf Gam:=g
  have GY:GX ((cxN P w C K mg base N qual scope f cd A outer s₀ H₀ E₀).wish (Zx C E₀ (cxN P w C K mg base N qual scope f cd A outer s₀ H₀ E₀))) C k gx Δ:=⟨G.fns⟩
  refine x_whl (Y':=(cxN P w C K mg base N qual scope f cd A outer s₀ H₀ E₀).wish (Zx C E₀ (cxN P w C K mg base N qual scope f cd A outer s₀ H₀ E₀))) rfl (fun tc tb hc hb pins s σ H D I h=>ps_wish (ps_while (zx_own I.ok.frames) hc hb) (fun e s z=>zx_xe I.ok.frames z) pins s σ H D I h) ?_ ?_ (ih l h2)
  ·exact (chk_ok (cf:=cf) (k:=k) (Gam:=Gam) 200 _ gY hk c t h4).pt.nox
  ·exact ok_b gY GY hk hN (fun _=>rfl) (zx_passes fun _ _ z=>z) b x h6 h5
noncomputable def toOx:Option PV→Ox
 | some p=>.ok (.rt p)
 | none=>.ex
theorem fn_x {d:DI} {fa:Addr} {fd:FuncData} {F:Fn} {sx:SX} {g:List PV→Option (Option PV)} (Fu:Fun K d.x d.x d.st fa fd) (S:FnScope d.N d.ps (defScope d.st)) (hX:PySem.W.excIn K C bmV "ValueError.__new__"=true) (hm:mg "NoText"=some (.ref C))
  (hg:∀ (X:Cx),X.K=K→X.mg=mg→X.prog=P→X.w=w→X.base=base→X.calm=true→(X.xe=fun _ _=>False)→Room k X.A→Good X k cf Gam)
  (hG:∀ (X:Cx),X.K=K→X.mg=mg→X.prog=P→X.w=w→X.base=base→GX X C k gx Δ)
  (hc:chkX Gam Δ d.N (defScope d.st).names sx (defBody d.st)=true) (n1:d.ps.length=F.np) (n2:d.N.length=F.ns) (n3:F.np≤F.ns) (he:∀ ps r,g ps=some r→ps.length=F.np→evX cf gx sx (DD.start F ps)=some (toOx r)):
  FnOk P w K mg base (CXN P w C) (k+1) fa fd d.ps (spX K d.ps.length g):=by
 obtain ⟨oc,od,kV,doc,pm,an,cdv,ct,osl,rfl,lk,hcdv⟩:=Fu.ex
 refine fn_of lk hcdv S (fun vs H Q E h=>h.1) fun A outer s H vs Q E hr hsp=>?_
 obtain ⟨hl,G,ps,r,sub,ra,eg,hQ,hE⟩:=hsp
 have body:=ok_x (P:=P) (w:=w) (K:=K) (mg:=mg) (base:=base) (N:=d.N) (qual:=d.x) (scope:=defScope d.st) (f:=fa) (cd:=cdv) (A:=A) (outer:=outer) (s₀:=s) (H₀:=H) (E₀:=E) (C:=C) (cf:=cf) (k:=k) (Gam:=Gam) (Δ:=Δ) (gx:=gx)
  (hg _ rfl rfl rfl rfl rfl rfl rfl hr) (hG _ rfl rfl rfl rfl rfl) S.kind S.nd hX hm sx (defBody d.st) hc
 refine ⟨_,body,?_⟩
 have hpl:ps.length=F.np:=by rw [ra.length,hl,n1]
 have sr:=sr_start (N:=d.N) (F:=F) sub ra hpl n2 n3
 refine ⟨G,H,G,DD.start F ps,_,⟨sr,.refl sub,fun i qs a e1 e2=>?_⟩,he ps r eg hpl,?_⟩
 ·exfalso
  have hm':=List.mem_of_getElem? e1
  simp only [DD.start,List.mem_append,List.mem_map,List.mem_replicate] at hm'
  rcases hm' with ⟨p,_,z⟩ | ⟨_,z⟩ <;> cases z
 ·cases r with
  | some p=>exact fun v G' H' x rv=>hQ p rfl v G' H' x rv
  | none=>exact fun a G' H' x=>hE rfl a G' H' x
end
end DD
namespace DD
open PySem
noncomputable def flatE:E:=(.dct [.str "yes",.str "no",.str "ax",.str "ay",.str "bx",.str "by",.str "xx",.str "xy",.str "yx",.str "yy"] (.cons (.con (.str "yes")) (.cons (.con (.str "no")) (.cons (.con (.tuple [.str "a",.str "x"])) (.cons (.con (.tuple [.str "a",.str "y"])) (.cons (.con (.tuple [.str "b",.str "x"])) (.cons (.con (.tuple [.str "b",.str "y"])) (.cons (.con (.tuple [.str "to",.str "x",.str "x"])) (.cons (.con (.tuple [.str "to",.str "x",.str "y"])) (.cons (.con (.tuple [.str "to",.str "y",.str "x"])) (.cons (.con (.tuple [.str "to",.str "y",.str "y"])) .nil)))))))))))
noncomputable def behE:E:=(.dct [.str "not",.str "both",.str "either"] (.cons (.con (.int (1))) (.cons (.con (.int (2))) (.cons (.con (.int (2))) .nil))))
noncomputable def turn68:SX:=.call 6 68 (.cons (.var 0) (.cons (.var 5) (.cons (.op2 .sub (.var 2) (.con (.int 1))) .nil))) (.pu (.app 4 (.op2 .ix (.var 6) (.con (.int 0)))) (.pu (.set 5 (.op2 .ix (.var 6) (.con (.int 1)))) .nil))
noncomputable def cond68:E:=.op2 .le (.op1 .len (.peek 4)) (.op2 .ix behE (.var 3))
noncomputable def last68:SX:=.pu (.ret (.tup (.cons (.op1 .toTuple (.peek 4)) (.cons (.var 5) .nil)))) .nil
noncomputable def x68:SX:=.rz (.op2 .ge (.var 1) (.op1 .len (.var 0))) (.con (.str "a form is missing")) (.pu (.set 3 (.op2 .ix (.var 0) (.var 1))) (.pu (.ife (.op2 .din (.var 3) flatE) (.ret (.tup (.cons (.op2 .ix flatE (.var 3)) (.cons (.op2 .add (.var 1) (.con (.int 1))) .nil)))) .nx)
 (.rz (.or (.op2 .eq (.var 2) (.con (.int 0))) (.op2 .dni (.var 3) behE)) (.var 3) (.pu (.own 4 (.lst (.cons (.var 3) .nil))) (.pu (.set 5 (.op2 .add (.var 1) (.con (.int 1)))) (.whl cond68 turn68 last68))))))
noncomputable def x69:SX:=.pu (.set 1 (.op2 .split (.var 0) (.con (.str " ")))) (.call 2 68 (.cons (.var 1) (.cons (.con (.int 2)) (.cons (.con (.int 5)) .nil))) (.rz (.op2 .lt (.op2 .ix (.var 2) (.con (.int 1))) (.op1 .len (.var 1))) (.con (.str "a word too many stands behind a form"))
 (.pu (.ret (.tup (.cons (.op2 .ix (.var 1) (.con (.int 0))) (.cons (.op2 .ix (.var 1) (.con (.int 1))) (.cons (.op2 .ix (.var 2) (.con (.int 0))) .nil))))) .nil)))
noncomputable def x70:SX:=.pu (.ife (.op2 .eq (.var 0) (.con (.str "-"))) (.ret (.tup .nil)) .nx) (.cmp 1 69 (.op2 .split (.var 0) (.con (.str " ; "))) (.rz (.not (.call 9 (.cons (.var 1) .nil))) (.con (.str "the demands begin with wrong words, or are too many")) (.pu (.ret (.var 1)) .nil)))
noncomputable def fv:Option (PV×Nat)→Option PV
 | some (x,r)=>some (.tuple [x,.int r])
 | none=>none
noncomputable def rfG (d:Nat):List PV→Option (Option PV)
 | [.list ws,.int p,.int e]=>tst (decide (e=d∧0≤p)) (bnd (strsOf ws) fun ss=>tst (ss.all fun w=>decide (w.length≤1000000)) (some (fv (formF ss d p.toNat))) none) none
 | _=>none
theorem strsOf_map:∀ (ss:List Str),strsOf (ss.map .str)=some ss
 | []=>rfl
 | s::ss=>by rw [List.map_cons,strsOf,strsOf_map ss];rfl
theorem strsOf_inv:∀ {ws:List PV} {ss:List Str},strsOf ws=some ss→ws=ss.map .str
 | [],ss,h=>by cases (show some []=some ss from h);rfl
 | .str x::r,ss,h=>by
  obtain ⟨q,e1,e2⟩:=bnd_eq.mp (show bnd (strsOf r) (fun q=>some (x::q))=some ss from h)
  cases e2
  rw [strsOf_inv e1];rfl
 | .none::_,_,h=>nomatch h
 | .bool _::_,_,h=>nomatch h
 | .int _::_,_,h=>nomatch h
 | .list _::_,_,h=>nomatch h
 | .tuple _::_,_,h=>nomatch h
 | .dict _::_,_,h=>nomatch h
section
variable {cf:CF} {gx:GF}
theorem flat_run (ρ:Env):evE cf flatE ρ=some (.dict flatTab):=by
 simp [flatE,flatTab]
theorem beh_run (ρ:Env):evE cf behE ρ=some (.dict behTab):=by
 simp [behE,behTab]
theorem beh_cases (w:Str):dlook (.str w) behTab=none∨∃ n:Nat,dlook (.str w) behTab=some (.int n)∧1≤n∧n≤2:=by
 unfold behTab
 simp only [dlook]
 by_cases h1:keyEq (.str "not") (.str w)=true
 ·rw [if_pos h1];exact .inr ⟨1,rfl,by decide,by decide⟩
 rw [if_neg h1]
 by_cases h2:keyEq (.str "both") (.str w)=true
 ·rw [if_pos h2];exact .inr ⟨2,rfl,by decide,by decide⟩
 rw [if_neg h2]
 by_cases h3:keyEq (.str "either") (.str w)=true
 ·rw [if_pos h3];exact .inr ⟨2,rfl,by decide,by decide⟩
 rw [if_neg h3]
 exact .inl rfl
end
theorem dlook_mem {x f:PV}:∀ {kvs:List (PV×PV)},dlook x kvs=some f→∃ k,(k,f)∈kvs
 | [],h=>by cases h
 | (k,v)::r,h=>by
  rw [dlook] at h
  by_cases hk:keyEq k x=true
  ·rw [if_pos hk] at h
   cases h
   exact ⟨k,List.mem_cons_self⟩
  ·rw [if_neg hk] at h
   obtain ⟨k',hm⟩:=dlook_mem h
   exact ⟨k',List.mem_cons_of_mem _ hm⟩
theorem flat_noD:(flatTab.all fun kv=>!isDict kv.2)=true:=rfl
theorem dlook_flat {w:Str} {f:PV} (h:dlook (.str w) flatTab=some f):isDict f=false:=by
 obtain ⟨k,hm⟩:=dlook_mem h
 have:=List.all_eq_true.mp flat_noD _ hm
 simpa using this
theorem formF_noD:∀ (d:Nat) {ss:List Str} {p r:Nat} {x:PV},formF ss d p=some (x,r)→isDict x=false:=by
 intro d ss p r x h
 unfold formF at h
 split at h
 ·cases h
 ·rename_i w hw
  split at h
  ·rename_i f hf
   cases h
   exact dlook_flat hf
  ·split at h
   ·cases h
   ·split at h
    ·split at h
     ·cases h
     ·cases h;rfl
    ·cases h
section
variable {cf:CF} {gx:GF}
noncomputable def ρw (ss:List Str) (p d:Nat) (w:Str) (xs:List PV) (q:Nat) (f:Sl):Env:=[.val (.list (ss.map .str)),.val (.int p),.val (.int d),.val (.str w),.own (.str w::xs),.val (.int q),f]
theorem cond68_run {ss:List Str} {p d q n:Nat} {w:Str} {xs:List PV} {f:Sl} (hn:dlook (.str w) behTab=some (.int n)):bnd (evE cf cond68 (ρw ss p d w xs q f)) truthF=some (decide (xs.length+1≤n)):=by
 have e:evE cf cond68 (ρw ss p d w xs q f)=some (.bool (decide (((xs.length+1:Nat):Int)≤(n:Int)))):=by
  have e1:evE cf (.op1 .len (.peek 4)) (ρw ss p d w xs q f)=some (.int ((xs.length+1:Nat):Int)):=rfl
  have e2:evE cf (.op2 .ix behE (.var 3)) (ρw ss p d w xs q f)=some (.int n):=by
   rw [evE,beh_run];exact hn
  unfold cond68
  rw [evE,e1,bnd_some,e2];rfl
 rw [e]
 simp [truthF]
 lia
noncomputable def tr68 (ss:List Str) (p d:Nat) (w:Str) (xs:List PV):Option (PV×Nat)→Ox
 | none=>.ex
 | some (x,t)=>.ok (.nx (ρw ss p d w (xs++[x]) t (.val (.tuple [x,.int (t:Nat)]))))
theorem turn68_run {ss:List Str} {p d q:Nat} {w:Str} {xs:List PV} {f:Sl} {r:Option (PV×Nat)} (hg:gx 68 [.list (ss.map .str),.int (q:Nat),.int ((d:Int) - 1)]=some (fv r)) (hd:∀ x t,r=some (x,t)→isDict x=false) (hl:xs.length<1000):
  evX cf gx turn68 (ρw ss p d w xs q f)=some (tr68 ss p d w xs r):=by
 have ea:evE cf (.cons (.var 0) (.cons (.var 5) (.cons (.op2 .sub (.var 2) (.con (.int 1))) .nil))) (ρw ss p d w xs q f)=some (.tuple [.list (ss.map .str),.int (q:Nat),.int ((d:Int) - 1)]):=by
  simp [ρw]
 show bnd (evE cf (.cons (.var 0) (.cons (.var 5) (.cons (.op2 .sub (.var 2) (.con (.int 1))) .nil))) (ρw ss p d w xs q f)) (fun q'=>bnd (argsX gx 68 q') (callX 6 (evX cf gx (.pu (.app 4 (.op2 .ix (.var 6) (.con (.int 0)))) (.pu (.set 5 (.op2 .ix (.var 6) (.con (.int 1)))) .nil))) (ρw ss p d w xs q f)))=_
 rw [ea]
 show bnd (gx 68 [.list (ss.map .str),.int (q:Nat),.int ((d:Int) - 1)]) _=_
 rw [hg]
 cases r with
 | none=>rfl
 | some y=>
  obtain ⟨x,t⟩:=y
  have hx:=hd x t rfl
  show puX (evS cf (.app 4 (.op2 .ix (.var 6) (.con (.int 0))))) (evX cf gx (.pu (.set 5 (.op2 .ix (.var 6) (.con (.int 1)))) .nil)) ((ρw ss p d w xs q f).set 6 (.val (.tuple [x,.int (t:Nat)])))=_
  have e1:evS cf (.app 4 (.op2 .ix (.var 6) (.con (.int 0)))) ((ρw ss p d w xs q f).set 6 (.val (.tuple [x,.int (t:Nat)])))=some (.nx [.val (.list (ss.map .str)),.val (.int p),.val (.int d),.val (.str w),.own (.str w::(xs++[x])),.val (.int q),.val (.tuple [x,.int (t:Nat)])]):=by
   simp [ρw,atI,ixN,hx]
   lia
  unfold puX
  rw [e1]
  show puX (evS cf (.set 5 (.op2 .ix (.var 6) (.con (.int 1))))) (evX cf gx .nil) _=_
  unfold puX
  simp [atI,ixN,evX,tr68,ρw]
theorem whl68_run {ss:List Str} {p d n:Nat} {w:Str} (hn:dlook (.str w) behTab=some (.int n)) (hg:∀ q:Nat,gx 68 [.list (ss.map .str),.int (q:Nat),.int ((d:Int) - 1)]=some (fv (formF ss (d - 1) q))):∀ (j m q:Nat) (xs:List PV) (f:Sl),xs.length+j=n→n≤100→j<m→
  (formsF (formF ss (d - 1)) j q=none→whlX (fun ρ=>bnd (evE cf cond68 ρ) truthF) (evX cf gx turn68) m (ρw ss p d w xs q f)=some .ex)∧
  (∀ ys r,formsF (formF ss (d - 1)) j q=some (ys,r)→∃ f',whlX (fun ρ=>bnd (evE cf cond68 ρ) truthF) (evX cf gx turn68) m (ρw ss p d w xs q f)=some (.ok (.nx (ρw ss p d w (xs++ys) r f'))))
 | 0,m,q,xs,f,hx,hn2,hm=>by
  obtain ⟨m,rfl⟩:∃ m',m=m'+1:=⟨m - 1,by lia⟩
  refine ⟨(fun h=>nomatch (show some ([],q)=none from h)),fun ys r h=>?_⟩
  cases (show some ([],q)=some (ys,r) from h)
  refine ⟨f,?_⟩
  rw [whlX,cond68_run hn,show decide (xs.length+1≤n)=false from decide_eq_false (by lia)]
  simp
 | j+1,m,q,xs,f,hx,hn2,hm=>by
  obtain ⟨m,rfl⟩:∃ m',m=m'+1:=⟨m - 1,by lia⟩
  have step:whlX (fun ρ=>bnd (evE cf cond68 ρ) truthF) (evX cf gx turn68) (m+1) (ρw ss p d w xs q f)=bnd (evX cf gx turn68 (ρw ss p d w xs q f)) (turnX (whlX (fun ρ=>bnd (evE cf cond68 ρ) truthF) (evX cf gx turn68) m)):=by
   rw [whlX,cond68_run hn,show decide (xs.length+1≤n)=true from decide_eq_true (by lia)]
   rfl
  rw [step,turn68_run (hg q) (fun x t e=>formF_noD _ e) (by lia)]
  cases hq:formF ss (d - 1) q with
  | none=>
   refine ⟨fun _=>rfl,fun ys r h=>?_⟩
   rw [formsF,hq] at h;cases h
  | some y=>
   obtain ⟨x,t⟩:=y
   have ih:=whl68_run (p:=p) hn hg j m t (xs++[x]) (.val (.tuple [x,.int (t:Nat)])) (by simp;lia) hn2 (by lia)
   refine ⟨fun h=>?_,fun ys r h=>?_⟩
   ·rw [formsF,hq] at h
    refine ih.1 ?_
    dsimp only at h
    split at h
    ·assumption
    ·cases h
   ·rw [formsF,hq] at h
    dsimp only at h
    split at h
    ·cases h
    ·rename_i zs r' hz
     cases h
     obtain ⟨f',e⟩:=ih.2 zs r hz
     refine ⟨f',?_⟩
     rw [List.append_assoc] at e
     exact e
end
section
variable {cf:CF} {gx:GF}
theorem formF_eq (ss:List Str) (d p:Nat):formF ss d p=match ss[p]? with
  | none=>none
  | some w=>match dlook (.str w) flatTab with
   | some f=>some (f,p+1)
   | none=>match d with
    | 0=>none
    | d+1=>match dlook (.str w) behTab with
     | some (.int n)=>match formsF (formF ss d) n.toNat (p+1) with
      | none=>none
      | some (xs,r)=>some (.tuple (.str w::xs),r)
     | _=>none:=by cases d <;> (rw [formF]) <;> rfl
noncomputable def ρ1 (ss:List Str) (p d:Nat) (w:Str):Env:=[.val (.list (ss.map .str)),.val (.int p),.val (.int d),.val (.str w),.un,.un,.un]
theorem short1:shortS (.str "a form is missing")=true:=by decide +kernel
theorem run68 {ss:List Str} {d p:Nat} (hs:∀ w∈ss,w.length≤1000000) (hg:0<d→∀ q:Nat,gx 68 [.list (ss.map .str),.int (q:Nat),.int ((d:Int) - 1)]=some (fv (formF ss (d - 1) q))):
  evX cf gx x68 [.val (.list (ss.map .str)),.val (.int p),.val (.int d),.un,.un,.un,.un]=some (toOx (fv (formF ss d p))):=by
 have hlen:evE cf (.op2 .ge (.var 1) (.op1 .len (.var 0))) [.val (.list (ss.map .str)),.val (.int p),.val (.int d),.un,.un,.un,.un]=some (.bool (decide (ss.length≤p))):=by
  simp [cmpI]
 unfold x68
 cases hw:ss[p]? with
 | none=>
  have hl:ss.length≤p:=List.getElem?_eq_none_iff.mp hw
  have e1:formF ss d p=none:=by rw [formF_eq,hw]
  rw [e1,evX,hlen]
  simp [truthF,hl,short1,toOx,fv]
 | some w=>
  have hl:p<ss.length:=(List.getElem?_eq_some_iff.mp hw).1
  have hwm:w∈ss:=List.mem_of_getElem? hw
  have hw2:ss[p]=w:=(List.getElem?_eq_some_iff.mp hw).2
  rw [evX,hlen,show decide (ss.length≤p)=false from decide_eq_false (by lia)]
  show evX cf gx (.pu (.set 3 (.op2 .ix (.var 0) (.var 1))) _) _=_
  have e2:evS cf (.set 3 (.op2 .ix (.var 0) (.var 1))) [.val (.list (ss.map .str)),.val (.int p),.val (.int d),.un,.un,.un,.un]=some (.nx (ρ1 ss p d w)):=by
   simp [atI,ixN,hl,hw2,ρ1]
  rw [evX,puX,e2]
  show evX cf gx (.pu (.ife (.op2 .din (.var 3) flatE) _ .nx) _) _=_
  have e3:evE cf (.op2 .din (.var 3) flatE) (ρ1 ss p d w)=some (.bool (dlook (.str w) flatTab).isSome):=by
   show bnd (evE cf (.var 3) _) (fun x=>bnd (evE cf flatE _) fun y=>opF2 .din x y)=_
   rw [flat_run]
   simp [dinB,isKey,ρ1]
  cases hf:dlook (.str w) flatTab with
  | some f=>
   have e1:formF ss d p=some (f,p+1):=by rw [formF_eq,hw];simp only [hf]
   have hfd:=dlook_flat hf
   have e4:evE cf (.tup (.cons (.op2 .ix flatE (.var 3)) (.cons (.op2 .add (.var 1) (.con (.int 1))) .nil))) (ρ1 ss p d w)=some (.tuple [f,.int ((p+1:Nat):Int)]):=by
    show bnd (bnd (bnd (evE cf flatE _) fun x=>bnd (evE cf (.var 3) _) fun y=>opF2 .ix x y) fun x=>bnd (evE cf (.cons (.op2 .add (.var 1) (.con (.int 1))) .nil) _) (consF x)) tupF=_
    rw [flat_run]
    simp [hf,hfd,ρ1]
   rw [e1,evX,puX]
   have e5:evS cf (.ife (.op2 .din (.var 3) flatE) (.ret (.tup (.cons (.op2 .ix flatE (.var 3)) (.cons (.op2 .add (.var 1) (.con (.int 1))) .nil)))) .nx) (ρ1 ss p d w)=some (.rt (.tuple [f,.int ((p+1:Nat):Int)])):=by
    rw [evS,e3,hf,bnd_some]
    show tst true (evS cf (.ret (.tup (.cons (.op2 .ix flatE (.var 3)) (.cons (.op2 .add (.var 1) (.con (.int 1))) .nil)))) (ρ1 ss p d w)) (evS cf .nx (ρ1 ss p d w))=_
    rw [tst_true,evS,e4];rfl
   rw [e5]
   rfl
  | none=>
   have e5:evS cf (.ife (.op2 .din (.var 3) flatE) (.ret (.tup (.cons (.op2 .ix flatE (.var 3)) (.cons (.op2 .add (.var 1) (.con (.int 1))) .nil)))) .nx) (ρ1 ss p d w)=some (.nx (ρ1 ss p d w)):=by
    rw [evS,e3,hf,bnd_some]
    rfl
   rw [evX,puX,e5]
   show evX cf gx (.rz (.or (.op2 .eq (.var 2) (.con (.int 0))) (.op2 .dni (.var 3) behE)) (.var 3) _) _=_
   have e6:evE cf (.or (.op2 .eq (.var 2) (.con (.int 0))) (.op2 .dni (.var 3) behE)) (ρ1 ss p d w)=some (.bool (decide (d=0)||!(dlook (.str w) behTab).isSome)):=by
    have e7:evE cf (.op2 .dni (.var 3) behE) (ρ1 ss p d w)=some (.bool (!(dlook (.str w) behTab).isSome)):=by
     show bnd (evE cf (.var 3) _) (fun x=>bnd (evE cf behE _) fun y=>opF2 .dni x y)=_
     rw [beh_run]
     simp [dinB,isKey,ρ1]
    have e8:evE cf (.op2 .eq (.var 2) (.con (.int 0))) (ρ1 ss p d w)=some (.bool (decide (d=0))):=by
     simp [eqF,PyData.depth,PyData.eqv,ρ1]
     rw [Bool.eq_iff_iff];simp
    show bnd (evE cf (.op2 .eq (.var 2) (.con (.int 0))) _) (fun x=>bnd (truthF x) fun t=>tst t (some x) (evE cf (.op2 .dni (.var 3) behE) _))=_
    rw [e8,e7]
    cases hd:decide (d=0) <;> rfl
   have hsw:shortS (.str w)=true:=decide_eq_true (hs w hwm)
   rw [evX,e6]
   cases hb:(decide (d=0)||!(dlook (.str w) behTab).isSome) with
   | true=>
    have e1:formF ss d p=none:=by
     rw [formF_eq,hw]
     simp only [hf]
     cases d with
     | zero=>rfl
     | succ d=>
      have:(dlook (.str w) behTab).isSome=false:=by simpa using hb
      cases hq:dlook (.str w) behTab with
      | none=>rfl
      | some z=>rw [hq] at this;cases this
    rw [e1]
    rw [bnd_some]
    simp [truthF,hsw,toOx,fv,ρ1]
   | false=>
    obtain ⟨d,rfl⟩:∃ d',d=d'+1:=⟨d - 1,by simp at hb;lia⟩
    have hq:∃ n:Nat,dlook (.str w) behTab=some (.int n)∧1≤n∧n≤2:=by
     rcases beh_cases w with h | h
     ·rw [h] at hb;simp at hb
     ·exact h
    obtain ⟨n,hn,n1,n2⟩:=hq
    have e9:formF ss (d+1) p=match formsF (formF ss d) n (p+1) with
      | none=>none
      | some (xs,r)=>some (.tuple (.str w::xs),r):=by
     rw [formF_eq,hw]
     simp only [hf,hn]
     rfl
    rw [bnd_some]
    show tst false (bnd (evE cf (.var 3) (ρ1 ss p (d+1) w)) fun p=>tst (shortS p) (some .ex) none) (evX cf gx (.pu (.own 4 (.lst (.cons (.var 3) .nil))) (.pu (.set 5 (.op2 .add (.var 1) (.con (.int 1)))) (.whl cond68 turn68 last68))) (ρ1 ss p (d+1) w))=_
    rw [tst_false]
    have ea:evS cf (.own 4 (.lst (.cons (.var 3) .nil))) (ρ1 ss p (d+1) w)=some (.nx [.val (.list (ss.map .str)),.val (.int p),.val (.int (d+1:Nat)),.val (.str w),.own [.str w],.un,.un]):=by
     simp [ρ1]
    rw [evX,puX,ea]
    show evX cf gx (.pu (.set 5 (.op2 .add (.var 1) (.con (.int 1)))) _) _=_
    have eb:evS cf (.set 5 (.op2 .add (.var 1) (.con (.int 1)))) [.val (.list (ss.map .str)),.val (.int p),.val (.int (d+1:Nat)),.val (.str w),.own [.str w],.un,.un]=some (.nx (ρw ss p (d+1) w [] (p+1) .un)):=by
     simp [ρw]
    rw [evX,puX,eb]
    show evX cf gx (.whl cond68 turn68 last68) (ρw ss p (d+1) w [] (p+1) .un)=_
    rw [evX]
    have W:=whl68_run (cf:=cf) (gx:=gx) (ss:=ss) (p:=p) (d:=d+1) hn (hg (by lia)) n 10 (p+1) [] .un (by simp) (by lia) (by lia)
    cases hz:formsF (formF ss d) n (p+1) with
    | none=>
     rw [W.1 hz,e9,hz]
     rfl
    | some y=>
     obtain ⟨ys,r⟩:=y
     obtain ⟨f',ew⟩:=W.2 ys r hz
     rw [ew,e9,hz]
     show evX cf gx last68 (ρw ss p (d+1) w ([]++ys) r f')=_
     unfold last68
     simp [evX,puX,ρw,toOx,fv]
end
theorem part_le {x y z:Str} (h:z∈Txt.split x y):z.length≤x.length:=PyProof.Rows.part_short h
theorem formF_len {ss:List Str} {d p r:Nat} {x:PV} (h:formF ss d p=some (x,r)):p<ss.length:=by
 rw [formF_eq] at h
 cases hw:ss[p]? with
 | none=>rw [hw] at h;cases h
 | some w=>exact (List.getElem?_eq_some_iff.mp hw).1
theorem ix0 (a:PV) (r:List PV):ixF (.list (a::r)) (.int 0)=some a:=by
 have:ixN (a::r).length 0=some 0:=by
  unfold ixN
  rw [if_pos (by lia),if_pos (by simp only [List.length_cons];lia)]
  rfl
 show (ixN (a::r).length 0).bind _=_
 rw [this];rfl
theorem ix1 (a b:PV) (r:List PV):ixF (.list (a::b::r)) (.int 1)=some b:=by
 have:ixN (a::b::r).length 1=some 1:=by
  unfold ixN
  rw [if_pos (by lia),if_pos (by simp only [List.length_cons];lia)]
  rfl
 show (ixN (a::b::r).length 1).bind _=_
 rw [this];rfl
theorem atL0 (a:PV) (r:List PV):atI (a::r) 0=some a:=ix0 a r
theorem at1 (a b:PV) (r:List PV):atI (a::b::r) 1=some b:=ix1 a b r
noncomputable def rdG:List PV→Option (Option PV)
 | [.str x]=>tst (decide (x.length≤1000000)) (some (demF x)) none
 | _=>none
section
variable {cf:CF} {gx:GF}
theorem short2:shortS (.str "a word too many stands behind a form")=true:=by decide +kernel
theorem run69 {x:Str} (hx:x.length≤1000000) (hg:∀ ss:List Str,(∀ w∈ss,w.length≤1000000)→gx 68 [.list (ss.map .str),.int 2,.int 5]=some (fv (formF ss 5 2))):
  evX cf gx x69 [.val (.str x),.un,.un]=some (toOx (demF x)):=by
 have hs:∀ w∈Txt.split x " ",w.length≤1000000:=fun w hw=>Nat.le_trans (part_le hw) hx
 have hg':=hg _ hs
 unfold x69 demF
 generalize hws:Txt.split x " "=ws at hs hg' ⊢
 have e1:evS cf (.set 1 (.op2 .split (.var 0) (.con (.str " ")))) [.val (.str x),.un,.un]=some (.nx [.val (.str x),.val (.list (ws.map .str)),.un]):=by
  have hl:(Str.ofString " ").length≠0:=by decide
  simp [hl,show x.length+2≤16777216 from by lia]
  exact hws▸rfl
 rw [evX,puX,e1]
 show evX cf gx (.call 2 68 (.cons (.var 1) (.cons (.con (.int 2)) (.cons (.con (.int 5)) .nil))) (.rz (.op2 .lt (.op2 .ix (.var 2) (.con (.int 1))) (.op1 .len (.var 1))) (.con (.str "a word too many stands behind a form")) (.pu (.ret (.tup (.cons (.op2 .ix (.var 1) (.con (.int 0))) (.cons (.op2 .ix (.var 1) (.con (.int 1))) (.cons (.op2 .ix (.var 2) (.con (.int 0))) .nil))))) .nil))) _=_
 have e2:evE cf (.cons (.var 1) (.cons (.con (.int 2)) (.cons (.con (.int 5)) .nil))) [.val (.str x),.val (.list (ws.map .str)),.un]=some (.tuple [.list (ws.map .str),.int 2,.int 5]):=by simp
 rw [evX,e2,bnd_some]
 show bnd (gx 68 [.list (ws.map .str),.int 2,.int 5]) _=_
 rw [hg',bnd_some]
 cases hf:formF ws 5 2 with
 | none=>rfl
 | some y=>
  obtain ⟨f,p⟩:=y
  have hfd:=formF_noD _ hf
  have hlen:=formF_len hf
  show evX cf gx (.rz (.op2 .lt (.op2 .ix (.var 2) (.con (.int 1))) (.op1 .len (.var 1))) (.con (.str "a word too many stands behind a form")) (.pu (.ret (.tup (.cons (.op2 .ix (.var 1) (.con (.int 0))) (.cons (.op2 .ix (.var 1) (.con (.int 1))) (.cons (.op2 .ix (.var 2) (.con (.int 0))) .nil))))) .nil)) [.val (.str x),.val (.list (ws.map .str)),.val (.tuple [f,.int (p:Nat)])]=_
  have e3:evE cf (.op2 .lt (.op2 .ix (.var 2) (.con (.int 1))) (.op1 .len (.var 1))) [.val (.str x),.val (.list (ws.map .str)),.val (.tuple [f,.int (p:Nat)])]=some (.bool (decide (p<ws.length))):=by
   simp [atI,ixN]
  rw [evX,e3,bnd_some]
  by_cases hp:p<ws.length
  ·rw [decide_eq_true hp]
   simp [truthF,short2,hp,toOx]
  ·rw [decide_eq_false hp]
   obtain ⟨a,b,c,r,rfl⟩:∃ a b c r,ws=a::b::c::r:=by
    match ws,hlen with
    | a::b::c::r,_=>exact ⟨a,b,c,r,rfl⟩
   have e4:evE cf (.tup (.cons (.op2 .ix (.var 1) (.con (.int 0))) (.cons (.op2 .ix (.var 1) (.con (.int 1))) (.cons (.op2 .ix (.var 2) (.con (.int 0))) .nil)))) [.val (.str x),.val (.list ((a::b::c::r).map .str)),.val (.tuple [f,.int (p:Nat)])]=some (.tuple [.str a,.str b,f]):=by
    simp [atL0,at1,hfd]
   simp only [if_neg hp]
   show evX cf gx (.pu (.ret (.tup (.cons (.op2 .ix (.var 1) (.con (.int 0))) (.cons (.op2 .ix (.var 1) (.con (.int 1))) (.cons (.op2 .ix (.var 2) (.con (.int 0))) .nil))))) .nil) [.val (.str x),.val (.list ((a::b::c::r).map .str)),.val (.tuple [f,.int (p:Nat)])]=_
   rw [evX,puX,evS,e4]
   rfl
end
noncomputable def rdA (ds:List PV):PV→Option (Option PV)
 | .bool true=>some (some (.tuple ds))
 | .bool false=>some none
 | _=>none
noncomputable def rdR (cf:CF):Option (List PV)→Option (Option PV)
 | none=>some none
 | some ds=>bnd (cf isRowId [.tuple ds]) (rdA ds)
noncomputable def rdF (cf:CF):List PV→Option (Option PV)
 | [.str x]=>tst (decide (x.length≤1000000)) (tst (x=="-") (some (some (.tuple []))) (rdR cf (demsF (Txt.split x " ; ")))) none
 | _=>none
theorem demF_noD {x:Str} {d:PV} (h:demF x=some d):isDict d=false:=by
 unfold demF at h
 split at h
 ·cases h
 ·split at h
  ·cases h
  ·cases h;rfl
theorem cmp_dems {gx:GF}:∀ (ss:List Str),(∀ y∈ss,gx 69 [.str y]=some (demF y))→cmpX (fun y=>gx 69 [y]) (ss.map .str)=some (demsF ss)
 | [],_=>rfl
 | s::ss,h=>by
  have ih:=cmp_dems ss fun y hy=>h y (List.mem_cons_of_mem _ hy)
  rw [List.map_cons,cmpX,h s List.mem_cons_self,bnd_some,demsF]
  cases hd:demF s with
  | none=>rfl
  | some d=>
   dsimp only
   rw [demF_noD hd,tst_false,ih,bnd_some]
   cases demsF ss <;> rfl
section
variable {cf:CF} {gx:GF}
theorem short3:shortS (.str "the demands begin with wrong words, or are too many")=true:=by decide +kernel
theorem run70 {x:Str} {r:Option PV} (hr:rdF cf [.str x]=some r) (hg:∀ y:Str,y.length≤1000000→gx 69 [.str y]=some (demF y)):
  evX cf gx x70 [.val (.str x),.un]=some (toOx r):=by
 obtain ⟨hx',h1⟩:=tst_some (show tst (decide (x.length≤1000000)) (tst (x=="-") (some (some (.tuple []))) (rdR cf (demsF (Txt.split x " ; ")))) none=some r from hr)
 have hx:=of_decide_eq_true hx'
 unfold x70
 have e1:evE cf (.op2 .eq (.var 0) (.con (.str "-"))) [.val (.str x),.un]=some (.bool (x=="-")):=by
  simp [eqF,PyData.depth,PyData.eqv]
 have e0:evS cf (.ife (.op2 .eq (.var 0) (.con (.str "-"))) (.ret (.tup .nil)) .nx) [.val (.str x),.un]=tst (x=="-") (some (.rt (.tuple []))) (some (.nx [.val (.str x),.un])):=by
  rw [evS,e1,bnd_some]
  cases x=="-" <;> rfl
 rw [evX,puX,e0]
 cases hxd:x=="-" with
 | true=>
  rw [hxd,tst_true] at h1
  cases h1
  rfl
 | false=>
  rw [hxd,tst_false] at h1
  rw [tst_false]
  show evX cf gx (.cmp 1 69 (.op2 .split (.var 0) (.con (.str " ; "))) _) [.val (.str x),.un]=_
  have hl:(Str.ofString " ; ").length≠0:=by decide
  have e2:evE cf (.op2 .split (.var 0) (.con (.str " ; "))) [.val (.str x),.un]=some (.list ((Txt.split x " ; ").map .str)):=by
   simp [hl,show x.length+2≤16777216 from by lia]
  rw [evX,e2,bnd_some]
  show bnd (some ((Txt.split x " ; ").map PyData.str)) _=_
  rw [bnd_some,cmp_dems _ fun y hy=>hg y (Nat.le_trans (part_le hy) hx),bnd_some]
  cases hds:demsF (Txt.split x " ; ") with
  | none=>
   rw [hds] at h1
   cases (show some none=some r from h1)
   rfl
  | some ds=>
   rw [hds] at h1
   obtain ⟨p,e3,e4⟩:=bnd_eq.mp (show bnd (cf isRowId [.tuple ds]) (rdA ds)=some r from h1)
   show evX cf gx (.rz (.not (.call 9 (.cons (.var 1) .nil))) (.con (.str "the demands begin with wrong words, or are too many")) (.pu (.ret (.var 1)) .nil)) [.val (.str x),.val (.tuple ds)]=_
   have e5:evE cf (.call 9 (.cons (.var 1) .nil)) [.val (.str x),.val (.tuple ds)]=some p:=by
    simp
    exact e3
   cases p with
   | bool b=>
    have e6:evE cf (.not (.call 9 (.cons (.var 1) .nil))) [.val (.str x),.val (.tuple ds)]=some (.bool !b):=by
     rw [evE,e5];rfl
    rw [evX,e6,bnd_some]
    show tst (!b) _ _=_
    cases b with
    | true=>
     cases (show some (some (.tuple ds))=some r from e4)
     rfl
    | false=>
     cases (show some none=some r from e4)
     rw [Bool.not_false,tst_true,evE,bnd_some,short3]
     rfl
   | _=>exact nomatch (show none=some r from e4)
theorem told_rd {x r:PV} (h:toldF cf x=some r):∃ q,rdF cf [x]=some q∧((∃ ds,q=some (.tuple ds)∧r=.tuple ds)∨q=none∧r=.none):=by
 cases x with
 | str x=>
  obtain ⟨hx,h1⟩:=tst_some (show tst (decide (x.length≤1000000)) (tst (x=="-") (some (.tuple [])) (toldR cf (demsF (Txt.split x " ; ")))) none=some r from h)
  show ∃ q,tst (decide (x.length≤1000000)) (tst (x=="-") (some (some (.tuple []))) (rdR cf (demsF (Txt.split x " ; ")))) none=some q∧_
  rw [hx,tst_true]
  cases hxd:x=="-" with
  | true=>
   rw [hxd,tst_true] at h1
   cases h1
   exact ⟨_,rfl,.inl ⟨_,rfl,rfl⟩⟩
  | false=>
   rw [hxd,tst_false] at h1
   rw [tst_false]
   cases hds:demsF (Txt.split x " ; ") with
   | none=>
    rw [hds] at h1
    cases (show some .none=some r from h1)
    exact ⟨_,rfl,.inr ⟨rfl,rfl⟩⟩
   | some ds=>
    rw [hds] at h1
    obtain ⟨p,e3,e4⟩:=bnd_eq.mp (show bnd (cf isRowId [.tuple ds]) (rowA ds)=some r from h1)
    show ∃ q,bnd (cf isRowId [.tuple ds]) (rdA ds)=some q∧_
    rw [e3,bnd_some]
    cases p with
    | bool b=>
     cases b with
     | true=>cases (show some (.tuple ds)=some r from e4);exact ⟨_,rfl,.inl ⟨_,rfl,rfl⟩⟩
     | false=>cases (show some .none=some r from e4);exact ⟨_,rfl,.inr ⟨rfl,rfl⟩⟩
    | _=>exact nomatch (show none=some r from e4)
 | _=>exact nomatch (show none=some r from h)
end
end DD
namespace DD
open PySem PySem.Spec PyProof.Rows L2
theorem isi_yes {prog:Program} {w:World} {A:Around} {E:Value→Shared→Prop} {s:Shared} {K:PySem.W.Frag} {v t c:Value} {Q:Value→Shared→Prop} (X:K.In s.heap) (ht:∀ M,PySem.W.Looks M s.heap (typeOf v) t) (hne:(t==c)=false) (e:PySem.W.kitCls K t c=some true)
  (hx:v≠.builtin "__main__.__loader__#opaque") (h:Q (.bool true) s):wpAny (model prog w) A (call (.builtin "isinstance") [v,c]) Q E s:=by
 refine call_isinstance (S:=fun _ R s=>(K.In s.heap∧∀ M,PySem.W.Looks M s.heap (typeOf v) t)∧R (.ok (.ret (.bool true))) s) (fun prog w A R s hs=>?_) ⟨⟨X,ht⟩,h⟩
 obtain ⟨⟨X,ht⟩,hq⟩:=hs
 refine isinstance_outer ?_ hx
 obtain ⟨h0,g,d,tt,os⟩:=s
 have LT:=ht (model prog w)
 unfold Builtin.«isinstance.nested»
 refine wpAny_bind (LT.at ?_)
 rw [if_neg (by rw [hne];exact Bool.false_ne_true)]
 obtain ⟨hty,his,hsub⟩:=PySem.W.kit_cls (M:=model prog w) X e
 have LI:PySem.W.Looks (model prog w) h0 (isInstance v c) true:=LT.andThen hsub
 refine wpAny_bind (hty.at ?_)
 rw [if_pos (by decide)]
 k_delta "plainIsInstance"
 refine wpAny_bind (wpAny_bind (his.at ?_))
 simp only [Bool.not_true,Bool.false_eq_true,if_false]
 refine wpAny_bind (LI.at ?_)
 simp only [if_true]
 exact wpAny_pure (wpAny_pure hq)
noncomputable def markX (X:Cx) (a:Addr) (oe:Obj):Cx:={X with A:=X.A.mark (some (.ref a)),calm:=false,pn:=(a,oe)::X.pn,xe:=fun _ _=>False}
section
variable {X:Cx} {pins:List (Addr×Obj)} {σ:St} {H:Hp} {s:Shared} {a:Addr} {oe:Obj}
theorem inv_mark (I:Inv X pins σ H s) (h1:s.heap.get? a=some oe) (h2:H a=none) (h3:a≠X.env.locals) (h4:a∉X.fs) (h5:∀ v,oe.data≠.cell v):Inv (markX X a oe) pins σ H s:=by
 obtain ⟨o1,o2,o3,o4,o5,o6,o7,o8,o9,o10,o11,o12,o13,o14,o15,o16,o17,o18⟩:=I.ok
 refine ⟨⟨o1,o2,o3,o4,o5,o6,o7,o8,(fun z=>absurd (show false=true from z) Bool.false_ne_true),o10,o11,o12,o13,o14,o15,o16,o17,o18⟩,I.os,I.bare,I.base,I.loc,I.cell,I.free,I.freeC,fun p hp=>?_,I.hok,I.len⟩
 rcases List.mem_cons.mp (show p∈(a,oe)::(X.pn++pins) from hp) with rfl | hp
 ·exact ⟨h1,h2,h3,h4,h5⟩
 ·exact I.pin p hp
theorem inv_unmark (I:Inv (markX X a oe) pins σ H s) (hd:X.calm=true→X.A.handled=none):Inv X pins σ H s:=by
 obtain ⟨o1,o2,o3,o4,o5,o6,o7,o8,o9,o10,o11,o12,o13,o14,o15,o16,o17,o18⟩:=I.ok
 exact ⟨⟨o1,o2,o3,o4,o5,o6,o7,o8,hd,o10,o11,o12,o13,o14,o15,o16,o17,o18⟩,I.os,I.bare,I.base,I.loc,I.cell,I.free,I.freeC,fun p hp=>I.pin p (List.mem_cons_of_mem _ hp),I.hok,I.len⟩
theorem pe_isi {i:Nat} {x c:Str} {vc:V} {uc:Value} {C:Addr} {p1 p2 p3 pos:Pos} (hoe:oe.cls=.ref C) (hv:∀ X':Cx,X'.env=X.env→X'.mg=X.mg→X'.base=X.base→X'.K=X.K→PE X' (.Name c p3) (tC vc)) (hr:RelV vc uc) (hu:∀ u,RelV vc u→u=uc)
  (hne:(Value.ref C==uc)=false) (hk:PySem.W.kitCls X.K (.ref C) uc=some true) (hg:Gl X "isinstance") (hm:X.mg "isinstance"=none) (hi:X.N[i]?=some x) (hx:Vis X.env.scope x) (hd:(x==("__debug__":Str))=false) (hcd:(x==("__classdict__":Str))=false):
  PE (markX X a oe) (.Call (.Name "isinstance" p1) [.Name x p2,.Name c p3] [] pos) (fun σ H Q=>σ[i]?=some (some (.ref a))∧Q (.bl true) H):=by
 have hc:CallR (markX X a oe) (.builtin "isinstance") (fun xs H Q=>xs=[.ref a,vc]∧Q (.bl true) H):=by
  intro pins s σ H xs us Q I r h
  obtain ⟨rfl,q⟩:=h
  cases r with
  | cons r1 r2=>
   cases r2 with
   | cons r2 r3=>
    cases r3
    cases r1
    cases hu _ r2
    have ha:=(I.pin (a,oe) (List.mem_cons_self)).1
    refine isi_yes (K:=X.K) (t:=.ref C) I.kIn (fun M=>?_) hne hk (by intro z;cases z) ⟨.bl true,H,I,rfl,q⟩
    exact hoe▸(PySem.W.Looks.ld ha).andThen .now
 refine (pe_callB (X:=markX X a oe) hc hg hm boot_isinstance (pa_cons (pe_var (X:=markX X a oe) hi hx hd hcd) (pa_cons (hv (markX X a oe) rfl rfl rfl rfl) pa_nil rfl) rfl) (by decide) (by decide) rfl).weak fun σ H Q ⟨h1,h2⟩=>?_
 exact ⟨.ref a,h1,rfl,h2⟩
end
section
variable {X:Cx} {pins:List (Addr×Obj)} {σ:St} {H:Hp} {s:Shared} {a:Addr} {oe:Obj}
theorem inv_forget {h':Heap} {m':Str→Option Value} {t':Nat} (I:Inv X pins σ H s) (same:Heap.SameBut X.env.locals s.heap h') (hn:h'.Ns X.env.locals m'):Inv X pins (List.replicate X.N.length none) H {s with heap:=h',toks:=t'}:=by
 have ne:∀ b o,X.s₀.heap.get? b=some o→b≠X.env.locals:=fun b o e=>Nat.ne_of_lt (Nat.lt_of_lt_of_le (Heap.lt_size e) I.ok.above)
 refine ⟨I.ok,I.os,I.bare,⟨fun b o e n hb hx=>(same.2 b (ne b o e)).trans (I.base.keep b o e n hb hx),fun b o e n hb hx=>?_,I.base.free,fun b o e hx=>?_,I.base.tups,I.base.frzs,I.base.tbls⟩,⟨m',hn,fun i x v h1 h2=>?_⟩,fun x c e=>?_,I.free,I.freeC,fun p hp=>?_,fun b x hb=>?_,by simp⟩
 ·obtain ⟨sl,e1⟩:=I.base.slot b o e n hb hx
  exact ⟨sl,(same.2 b (ne b o e)).trans e1⟩
 ·obtain ⟨o',e1⟩:=I.base.there b o e hx
  exact ⟨o',(same.2 b (ne b o e)).trans e1⟩
 ·rw [List.getElem?_replicate] at h2
  split at h2 <;> cases h2
 ·obtain ⟨v,o,e1,hd⟩:=I.cell x c e
  exact ⟨v,o,(same.2 c (I.cne x c e)).trans e1,hd⟩
 ·obtain ⟨q1,q2,q3,q4⟩:=I.pin p hp
  exact ⟨(same.2 p.1 q3).trans q1,q2,q3,q4⟩
 ·refine (I.hok b x hb).stay (fun c u hc e=>(same.2 c fun z=>?_).trans e) (fun _ q=>q) fun _ _ q=>q
  have hf:=I.free
  rcases hc with rfl | hc
  ·rw [z,hf] at hb;cases hb
  ·rw [z,hf] at hc;cases hc
theorem pe_hand {i:Nat} {e1 e2:Expr} {j1 j2:Nat} {q1 q2 q3 q4 q5 q6 q7:Pos} (h1:PE (markX X a oe) e1 (fun σ H Q=>σ[i]?=some (some (.ref a))∧Q (.bl true) H)) (h2:PE (markX X a oe) e2 (fun σ H Q=>σ[i]?=some (some (.ref a))∧Q (.bl true) H)) (hg:Gl X "int") (hm:X.mg "int"=none):
  PE (markX X a oe) (.Subscript (.List [.Constant (.int 0) j1 q1,.Constant .none j2 q2] q3) (.Call (.Name "int" q4) [.BoolOp .And [e1,e2] q5] [] q6) q7) (fun σ H Q=>σ[i]?=some (some (.ref a))∧∃ G,Sub G H∧∀ G' H',Ext G H G' H'→Q .non H'):=by
 have hand:PE (markX X a oe) (.BoolOp .And [e1,e2] q5) (tAndV (fun σ H Q=>σ[i]?=some (some (.ref a))∧Q (.bl true) H) (fun σ H Q=>σ[i]?=some (some (.ref a))∧Q (.bl true) H)):=
  pe_and h1 fun pins s σ H Q I h=>BoolOp_one (h2 pins s σ H Q I h)
 have hint:=pe_callTy (X:=markX X a oe) (p:=q4) (pos:=q6) s_toInt hg hm PyProof.Rows.boot_int (pa_cons hand pa_nil rfl) (by decide) (by decide) rfl
 have hl:PE (markX X a oe) (.List [.Constant (.int 0) j1 q1,.Constant .none j2 q2] q3) (tLst (tCons (tC (.int 0)) (tCons (tC .non) tNil))):=pe_lst (pa_cons pe_int (pa_cons pe_non pa_nil rfl) rfl)
 refine (pe_ix ix_list hl hint (fun _ _=>rfl)).weak fun σ H Q ⟨hi,G,sb,k⟩=>?_
 refine ⟨by have:=line_eq;show 2≤sizeLine;lia,fun p hp=>⟨hi,true,rfl,?_⟩⟩
 rw [if_pos rfl]
 refine ⟨hi,.bl true,rfl,G,.bool true,.int 1,?_,rfl,rfl,fun v G' H' x r=>?_⟩
 ·exact ((Ext.refl sb).mut hp (sb.fresh hp) _).gh
 ·cases (show v=.int 1 from r)
  have x0:Ext G H G (upd H p (.lst [.int 0,.non])):=(Ext.refl sb).mut hp (sb.fresh hp) _
  exact ⟨p,[.int 0,.non],1,.non,rfl,rfl,SqL.of (x.hh p _ upd_same),rfl,k G' H' (x0.trans x)⟩
end
theorem _root_.L2.ObjOk.there {P:Program} {w:World} {H:Hp} {h:Heap} {a:Addr} {o:HO} (x:ObjOk P w H h a o):∃ u,h.get? a=some u:=by
 cases o with
 | lst xs=>obtain ⟨_,_,_,_,e⟩:=x;exact ⟨_,e⟩
 | tup xs=>obtain ⟨_,_,_,ob,e,_⟩:=x;exact ⟨_,e⟩
 | dK kvs=>obtain ⟨_,_,_,_,o,_,_,e,_⟩:=x;exact ⟨_,e⟩
 | dT kvs=>obtain ⟨_,_,_,_,o,_,_,e,_⟩:=x;exact ⟨_,e⟩
 | set S n=>obtain ⟨o,_,_,_,e,_⟩:=x;exact ⟨_,e⟩
 | ins C dx fs=>obtain ⟨_,_,_,e,_⟩:=x;exact ⟨_,e⟩
 | own y=>obtain ⟨_,e⟩:=x;exact ⟨_,e⟩
 | xd fs=>obtain ⟨_,⟨_,_,_,e,_⟩,_⟩:=x;exact ⟨_,e⟩
 | rng lo hi=>obtain ⟨_,_,_,e⟩:=x;exact ⟨_,e⟩
 | frz ob u=>obtain ⟨e,_⟩:=x;exact ⟨_,e⟩
 | tbl ps=>exact ⟨_,(show h.get? a=some _ from x)⟩
 | met f y=>exact ⟨_,(show h.get? a=some _ from x)⟩
 | ext φ=>obtain ⟨_,⟨_,e⟩,_⟩:=x;exact ⟨_,e⟩
noncomputable def tTry (cf:CF) (K:PySem.W.Frag) (g:List PV→Option (Option PV)) (i:Nat) (ia:E):TS:=fun D σ H=>∃ G0 H0 G ρ xs r,ST K G0 H0 G H σ ρ∧evE cf ia ρ=some (.tuple xs)∧g xs=some r∧
 (∀ p,r=some p→∀ σ' G' H',ST K G0 H0 G' H' σ' (ρ.set i (.val p))→D.nx σ' H')∧(r=none→∀ G' H',Ext G0 H0 G' H'→D.rt .non H')
section
variable {X:Cx} {cf:CF} {C:Addr} {k:Nat} {g:List PV→Option (Option PV)} {fa:Addr} {fd:FuncData} {ps:List Str}
theorem ps_try {i ie:Nat} {x en fn cn:Str} {ia:E} {e0 he:Expr} {p1 p2 p3 p4 p5 p6 p7 p8:Pos} (O:Own X) (hcalm:X.calm=true) (F:FnOk X.prog X.w X.K X.mg X.base (CXN X.prog X.w C) k fa fd ps (spX X.K ps.length g)) (hr:Room k X.A) (hg:Gl X fn) (hm:X.mg fn=some (.ref fa))
  (hk:PySem.W.keepIn X.K (.ref fa)=true) (hb:Binds X.K fd ps []) (pa:PA X.nox [e0] (tA cf X.K ia)) (hn:argN ia=some ps.length) (hdb:(fn==("__debug__":Str))=false) (hs:plainE e0=true) (hN:X.N.Nodup) (hi:X.N[i]?=some x) (hx:Loc X.env.scope x) (hfn:∀ x,X.fn x=true)
  (hC:PySem.W.excIn X.K C bmV "ValueError.__new__"=true) (gc:Gl X cn) (mc:X.mg cn=some (.ref C)) (cdb:(cn==("__debug__":Str))=false) (hie:X.N[ie]?=some en) (hxe:X.env.scope.names.lookup en=some .local)
  (hh:∀ (a:Addr) (oe:Obj),oe.cls=.ref C→PE (markX X a oe) he (fun σ H Q=>σ[ie]?=some (some (.ref a))∧∃ G,Sub G H∧∀ G' H',Ext G H G' H'→Q .non H')):
  PS X (.Try [.Assign [.Name x p1] (.Call (.Name fn p2) [e0] [] p3) p4] [.ExceptHandler (some (.Name cn p5)) (some en) [.Return (some he) p6] p7] [] [] p8) (tTry cf X.K g i ia):=by
 intro pins s σ H D I h
 obtain ⟨G0,H0,G,ρ,xs,r,T,e1,e2,hok,hno⟩:=h
 refine wpAny_Try_except ?_
 refine wpAny_execs_cons (wpAny_Assign_Name ?_ rfl)
 refine wpAny_Call_Name_kw (ld_glob I hg hm ?_ hdb)
 have hst:=star_of hs [] X.env
 refine PySem.W.callWith_K (h₀:=X.base) I.ok.mod.kin hk (wpAny_mono (pa p3 pins s σ H (fun vs H1=>∃ G1,Ext G H G1 H1∧RpA X.K G1 xs vs) (I.wish _) ⟨G,ρ,xs,T.sr,e1,fun vs G1 H1 x1 r1=>⟨G1,x1,r1⟩⟩) (fun us s1 ⟨vs,H1,I1w,ru,G1,x1,r1⟩=>⟨I1w.kIn,?_⟩) fun _ _ z=>z.elim) hst rfl
 have I1:Inv X pins σ H1 s1:=I1w.unwish
 have hlx:xs.length=ps.length:=by
  obtain ⟨xs',e3,hl⟩:=args_len ia _ ρ _ hn e1
  cases e3;exact hl
 have hlv:vs.length=ps.length:=by rw [← r1.length];exact hlx
 have hlu:us.length=ps.length:=by rw [← ru.length];exact hlv
 refine wpAny_call (codeAny_mono (F.run X.A X.stack s1 H1 ⟨us,[]⟩ us vs (fun v H'=>∃ p,r=some p∧∃ G',Ext G1 H1 G' H'∧Rp X.K G' p v) (fun _ _ H'=>r=none∧∃ G',Ext G1 H1 G' H') hr I1.env0 (by have:=hb s1 us I1.kIn (by rw [List.append_nil];exact hlu);rw [List.append_nil] at this;exact this) ru
  ⟨hlv,G1,xs,r,x1.gh,r1,e2,fun p hp v G2 H2 x2 r2=>⟨p,hp,G2,x2,r2⟩,fun hz a G2 H2 x2=>⟨hz,G2,x2⟩⟩) fun res s' hq=>?_)
 cases res with
 | ok fl=>
  cases fl with
  | ret u=>
   obtain ⟨v,H2,I2,rv,p,hp,G2,x2,r2⟩:=I1.after hq
   refine store_ok I2 hN hi hx rv (fun s2 I3=>?_) (.inl (hfn x))
   refine wpAny_execs_nil (wpAny_execs_nil ⟨_,H2,I3,?_⟩)
   exact hok p hp _ G2 H2 ((T.ext (x1.trans x2)).setVal r2)
  | next=>exact False.elim hq
  | brk=>exact False.elim hq
  | cont=>exact False.elim hq
 | error e=>
  obtain ⟨a,t,B,H',rfl,fl,y,hz,G2,x2⟩:=(show CXN X.prog X.w C X.stack H1 s1 (fun _ _ H'=>r=none∧∃ G',Ext G1 H1 G' H') e s' from hq)
  have hfr:X.A.frames=some (X.env::X.outer):=by rw [← O.stk];exact I1.ok.frames
  have fl':=fl
  rw [O.stk] at fl'
  refine wpAny_looks_onW hfr O.frame fl' fun h4 hh4 up4=>wpAny_landsW hh4 fun h5 fl5 up5=>?_
  rw [← O.stk] at hh4 fl5
  have y5:=(y.step fl.2.2.1 hh4.2.2.1 hh4.1 up4).step hh4.2.2.1 fl5.2.2.1 fl5.1 up5
  have I5:Inv X pins σ H' {s' with heap:=h5}:=I1.call' (ch:=[]) y5.os y5.un (y5.hok.kept fl5.1) y5.bare (fun b z=>by cases z)
  obtain ⟨bm,Nn,nm,qn,bs,hdct,sn,sub,ab,col,dd,k0,k1,k2,k3,k5,mN,hCo,hNn,hni,T'⟩:=exc_of (h₀:=X.base) I.ok.mod.kin hC
  have facts:∀ {h6:Heap},Heap.FlyingW B X.stack a (.ref C) (.ref t) h6→∃ oe,h6.get? a=some oe∧oe.cls=.ref C∧H' a=none∧a≠X.env.locals∧a∉X.fs∧∀ v,oe.data≠.cell v:=fun {h6} fl6=>by
   obtain ⟨oe,ws,ho,hc,hd,_⟩:=fl6.first
   have nfr:∀ b∈L2.frs X.stack,a≠b:=fun b hb' z=>by
    obtain ⟨_,o,e,nf⟩:=fl6.2.2.1.mem hb'
    rw [← z,ho] at e
    cases e
    exact nf _ hd
   refine ⟨oe,ho,hc,?_,nfr _ (by rw [O.frs];exact List.mem_cons_self),fun z=>nfr a (by rw [O.frs];exact List.mem_cons_of_mem _ z) rfl,fun v z=>by rw [hd] at z;cases z⟩
   cases z:H' a with
   | none=>rfl
   | some x=>
    obtain ⟨u,eu⟩:=(y.hok a x z).there
    rw [fl.2.1] at eu;cases eu
  obtain ⟨oe5,ho5,hc5,f1,f2,f3,f4⟩:=facts fl5
  refine wpAny_handleBy_cons (codeAny_handlers_test (ld_glob (X:=markX X a oe5) (inv_mark I5 ho5 f1 f2 f3 f4) gc mc ?_ cdb)) (by intro z;cases z)
  refine wpAny_excMatches_sub_self (I5.bk _ _ hCo) ho5 hc5 (T'.hasType PySem.F.excBase_ValueError.hasBase) (codeAny_handlers_suite_as ?_)
  refine lands_againW fl5 fun h6 fl6 up6=>?_
  have y6:=y5.step fl5.2.2.1 fl6.2.2.1 fl6.1 up6
  have I6:Inv X pins σ H' {s' with heap:=h6}:=I1.call' (ch:=[]) y6.os y6.un (y6.hok.kept fl6.1) y6.bare (fun b z=>by cases z)
  obtain ⟨oe6,ho6,hc6,g1,g2,g3,g4⟩:=facts fl6
  refine store_ok (X:=markX X a oe6) (inv_mark I6 ho6 g1 g2 g3 g4) hN hie (.inl hxe) (v:=.ref a) rfl (fun s7 I7=>?_) (.inr hxe)
  have hlt:ie<σ.length:=by rw [I.len];exact (List.getElem?_eq_some_iff.mp hie).1
  have run:=pss_one (ps_ret (pos:=p6) (hh a oe6 hc6)) pins s7 _ H' {nx:=fun _ _=>False,rt:=fun v H=>v=.non∧∃ G',Ext G2 H' G' H} I7 ⟨by rw [List.getElem?_set_self hlt],G2,x2.gh,fun G' H'' x=>⟨rfl,G',x⟩⟩
  refine wpAny_mono run (fun f s8 hf=>?_) fun _ _ z=>z.elim
  cases f with
  | next=>obtain ⟨_,_,_,z⟩:=hf;exact z.elim
  | brk=>obtain ⟨_,_,_,z⟩:=hf;exact z.elim
  | cont=>obtain ⟨_,_,_,z⟩:=hf;exact z.elim
  | ret u=>
   obtain ⟨v,σ8,H8,I8,rv,rfl,G8,x8⟩:=hf
   have I8u:=inv_unmark I8 fun _=>hr.hd
   obtain ⟨m8,hn8,_⟩:=I8u.loc
   refine wpAny_nameGoes hxe hn8 (by rw [I.ok.kind];rfl) fun h9 m9 hn9 same=>⟨.non,_,H8,inv_forget I8u same hn9,rv,?_⟩
   exact hno hz G8 H8 (((T.ex.trans x1).trans x2).trans x8)
end
section
variable {P:Program} {w:World} {K:PySem.W.Frag} {mg:Str→Option Value} {base:Heap} {C:Addr}
structure TopC (P:Program) (w:World) (K:PySem.W.Frag) (mg:Str→Option Value) (Gam:Info):Prop where
 hc:∀ x p,(x,p)∈Gam.consts→∃ u v,mg x=some u∧RelV v u∧∀ G,Rp K G p v
 hb:∀ x∈Gam.blts,mg x=none
 hd:∀ x kvs,(x,kvs)∈Gam.dcts→∃ a l vs,mg x=some (.ref a)∧(a==sysModules)=false∧(∀ G,RpD K G kvs l)∧KV l vs∧∀ h:Heap,K.In h→h.DictOf (mixKind P w) a vs
noncomputable def Fns (P:Program) (w:World) (K:PySem.W.Frag) (mg:Str→Option Value) (base:Heap) (k:Nat) (cf:CF) (Gam:Info):Prop:=
 ∀ x id n,(x,id,n)∈Gam.fns→∃ fa fd ps,ps.length=n∧mg x=some (.ref fa)∧PySem.W.keepIn K (.ref fa)=true∧L2.Binds K fd ps []∧FnOk P w K mg base CX0 k fa fd ps (spD K ps.length (cf id))
theorem good_of {Gam:Info} {k:Nat} {cf:CF} (T:TopC P w K mg Gam) (F:Fns P w K mg base k cf Gam) (X:Cx) (e1:X.K=K) (e2:X.mg=mg) (e3:X.prog=P) (e4:X.w=w) (e5:X.base=base) (h1:X.calm=true) (h2:X.xe=fun _ _=>False) (h3:Room k X.A):Good X k cf Gam:=by
 subst e1;subst e2;subst e3;subst e4;subst e5
 exact ⟨h1,h2,h3,F,T.hc,T.hb,T.hd⟩
structure DefX (K:PySem.W.Frag) (mg:Str→Option Value) (d:DI) (f:Addr) (fd:FuncData):Prop where
 F:Fun K d.x d.x d.st f fd
 b:Binds K fd d.ps []
 m:mg d.x=some (.ref f)
 S:FnScope d.N d.ps (defScope d.st)
theorem fn_none {CX:CXT} {k n:Nat} {f:Addr} {fd:FuncData} {ps:List Str} (h:ps.length=n):FnOk P w K mg base CX k f fd ps (spX K n fun _=>none):=by
 subst h
 exact ⟨fun vs H Q E h=>h.1,fun A outer s H args us vs Q E hr e0 hbi hv hsp=>by
  obtain ⟨_,G,ps,r,_,_,e,_⟩:=hsp
  cases e⟩
theorem gx_of {d:DI} {f:Addr} {fd:FuncData} {k:Nat} {gx:GF} (D:DefX K mg d f fd) (hk:FnOk P w K mg base (CXN P w C) k f fd d.ps (spX K d.ps.length (gx d.id))) {n:Nat} (hn:d.ps.length=n) (X:Cx) (e1:X.K=K) (e2:X.mg=mg) (e3:X.prog=P) (e4:X.w=w) (e5:X.base=base):GX X C k gx [(d.x,d.id,n)]:=by
 subst e1;subst e2;subst e3;subst e4;subst e5
 refine ⟨fun x id m hm=>?_⟩
 cases List.mem_singleton.mp hm
 exact ⟨f,fd,d.ps,hn,D.m,D.F.kp,D.b,hk⟩
noncomputable def g1 (id:Nat) (g:List PV→Option (Option PV)):GF:=fun i=>if i=id then g else fun _=>none
theorem g1_self {id:Nat} {g:List PV→Option (Option PV)}:g1 id g id=g:=if_pos rfl
theorem fns_nil {k:Nat} {cf:CF} {Gam:Info} (h:Gam.fns=[]):Fns P w K mg base k cf Gam:=fun x id n hm=>by rw [h] at hm;cases hm
theorem rfG_el {d:Nat} {ps:List PV} {r:Option PV} (h:rfG d ps=some r):∃ (ss:List Str) (p:Nat),ps=[.list (ss.map .str),.int p,.int d]∧(∀ w∈ss,w.length≤1000000)∧r=fv (formF ss d p):=by
 unfold rfG at h
 split at h
 ·rename_i ws p e
  obtain ⟨h1,h2⟩:=tst_some h
  obtain ⟨rfl,hp⟩:=of_decide_eq_true h1
  obtain ⟨ss,h3,h4⟩:=bnd_eq.mp h2
  obtain ⟨h5,h6⟩:=tst_some h4
  cases h6
  refine ⟨ss,p.toNat,?_,fun w hw=>of_decide_eq_true (List.all_eq_true.mp h5 w hw),rfl⟩
  rw [strsOf_inv h3,Int.toNat_of_nonneg hp]
 ·cases h
theorem rfG_mk {d:Nat} {ss:List Str} {p:Nat} (h:∀ w∈ss,w.length≤1000000):rfG d [.list (ss.map .str),.int p,.int d]=some (fv (formF ss d p)):=by
 show tst (decide ((d:Int)=d∧0≤(p:Int))) (bnd (strsOf (ss.map .str)) _) none=_
 rw [decide_eq_true ⟨rfl,by lia⟩,tst_true,strsOf_map,bnd_some]
 show tst (ss.all fun w=>decide (w.length≤1000000)) _ none=_
 rw [show (ss.all fun w=>decide (w.length≤1000000))=true from List.all_eq_true.mpr fun w hw=>decide_eq_true (h w hw),tst_true]
 rfl
theorem rf_ok {d:DI} {f:Addr} {fd:FuncData} {Gam:Info} (T:TopC P w K mg Gam) (hGam:Gam.fns=[]) (D:DefX K mg d f fd) (hid:d.id=68) (hX:PySem.W.excIn K C bmV "ValueError.__new__"=true) (hm:mg "NoText"=some (.ref C))
  (hc:chkX Gam [(d.x,d.id,3)] d.N (defScope d.st).names x68 (defBody d.st)=true) (n1:d.ps.length=3) (n2:d.N.length=7):∀ dep,FnOk P w K mg base (CXN P w C) (dep+1) f fd d.ps (spX K d.ps.length (rfG dep))
 | 0=>by
  refine fn_x (F:=⟨3,7,.nx⟩) (cf:=fun _ _=>none) (gx:=fun _ _=>none) (k:=0) (Gam:=Gam) (sx:=x68) D.F D.S hX hm (good_of T (fns_nil hGam)) (gx_of D (fn_none rfl) n1) hc n1 n2 (by decide) fun ps r hg _=>?_
  obtain ⟨ss,p,rfl,h1,rfl⟩:=rfG_el hg
  exact run68 h1 fun h=>absurd h (by lia)
 | dep+1=>by
  refine fn_x (F:=⟨3,7,.nx⟩) (cf:=fun _ _=>none) (gx:=g1 68 (rfG dep)) (k:=dep+1) (Gam:=Gam) (sx:=x68) D.F D.S hX hm (good_of T (fns_nil hGam)) (gx_of D (by rw [hid,g1_self];exact rf_ok T hGam D hid hX hm hc n1 n2 dep) n1) hc n1 n2 (by decide) fun ps r hg _=>?_
  obtain ⟨ss,p,rfl,h1,rfl⟩:=rfG_el hg
  refine run68 (d:=dep+1) h1 fun _ q=>?_
  rw [g1_self,show ((dep+1:Nat):Int) - 1=(dep:Nat) from by lia]
  exact rfG_mk h1
theorem rdG_el {ps:List PV} {r:Option PV} (h:rdG ps=some r):∃ x:Str,ps=[.str x]∧x.length≤1000000∧r=demF x:=by
 unfold rdG at h
 split at h
 ·obtain ⟨h1,h2⟩:=tst_some h
  cases h2
  exact ⟨_,rfl,of_decide_eq_true h1,rfl⟩
 ·cases h
theorem rdG_mk {x:Str} (h:x.length≤1000000):rdG [.str x]=some (demF x):=by
 show tst (decide (x.length≤1000000)) _ none=_
 rw [decide_eq_true h,tst_true]
theorem rd_ok {d d':DI} {f f':Addr} {fd fd':FuncData} {Gam:Info} (T:TopC P w K mg Gam) (hGam:Gam.fns=[]) (D:DefX K mg d f fd) (D':DefX K mg d' f' fd') (hid:d'.id=68) (hX:PySem.W.excIn K C bmV "ValueError.__new__"=true) (hm:mg "NoText"=some (.ref C))
  (hrf:FnOk P w K mg base (CXN P w C) 6 f' fd' d'.ps (spX K d'.ps.length (rfG 5))) (hc:chkX Gam [(d'.x,d'.id,3)] d.N (defScope d.st).names x69 (defBody d.st)=true) (m1:d'.ps.length=3) (n1:d.ps.length=1) (n2:d.N.length=3):FnOk P w K mg base (CXN P w C) 7 f fd d.ps (spX K d.ps.length rdG):=by
 refine fn_x (F:=⟨1,3,.nx⟩) (cf:=fun _ _=>none) (gx:=g1 68 (rfG 5)) (k:=6) (Gam:=Gam) (sx:=x69) D.F D.S hX hm (good_of T (fns_nil hGam)) (gx_of D' (by rw [hid,g1_self];exact hrf) m1) hc n1 n2 (by decide) fun ps r hg _=>?_
 obtain ⟨x,rfl,hx,rfl⟩:=rdG_el hg
 refine run69 hx fun ss hs=>?_
 rw [g1_self]
 exact rfG_mk (d:=5) (p:=2) hs
theorem rdF_el {cf:CF} {ps:List PV} {r:Option PV} (h:rdF cf ps=some r):∃ x:Str,ps=[.str x]:=by
 unfold rdF at h
 split at h
 ·exact ⟨_,rfl⟩
 ·cases h
theorem read_ok {d d':DI} {f f':Addr} {fd fd':FuncData} {Gam:Info} {k:Nat} {cf:CF} (T:TopC P w K mg Gam) (Fs:Fns P w K mg base k cf Gam) (hk:7≤k) (D:DefX K mg d f fd) (D':DefX K mg d' f' fd') (hid:d'.id=69) (hX:PySem.W.excIn K C bmV "ValueError.__new__"=true) (hm:mg "NoText"=some (.ref C))
  (hrd:FnOk P w K mg base (CXN P w C) 7 f' fd' d'.ps (spX K d'.ps.length rdG)) (hc:chkX Gam [(d'.x,d'.id,1)] d.N (defScope d.st).names x70 (defBody d.st)=true) (m1:d'.ps.length=1) (n1:d.ps.length=1) (n2:d.N.length=2):FnOk P w K mg base (CXN P w C) (k+1) f fd d.ps (spX K d.ps.length (rdF cf)):=by
 refine fn_x (F:=⟨1,2,.nx⟩) (cf:=cf) (gx:=g1 69 rdG) (k:=k) (Gam:=Gam) (sx:=x70) D.F D.S hX hm (good_of T Fs) (gx_of D' (by rw [hid,g1_self];exact hrd.mono hk) m1) hc n1 n2 (by decide) fun ps r hg _=>?_
 obtain ⟨x,rfl⟩:=rdF_el hg
 refine run70 hg fun y hy=>?_
 rw [g1_self]
 exact rdG_mk hy
end
noncomputable def told1 (cf:CF):List PV→Option PV
 | [x]=>toldF cf x
 | _=>none
noncomputable def lastE:S:=.ret (.op2 .ix (.lst (.cons (.var 1) (.cons (.con (.int 0)) .nil))) (.op1 .toInt (.op1 .isN (.var 1))))
structure ToldB (body:List Stmt) (last:Stmt) (e0:Expr) (x fn cn en c1 c2:Str):Prop where
 eq:∃ (p1 p2 p3 p4 p5 p6 p7 p8 q1 q2 q3 q4 q5 q6 q7 r1 r2 r3 r4 s1 s2 s3 s4:Pos) (j1 j2:Nat),body=[.Try [.Assign [.Name x p1] (.Call (.Name fn p2) [e0] [] p3) p4] [.ExceptHandler (some (.Name cn p5)) (some en) [.Return (some (.Subscript (.List [.Constant (.int 0) j1 q1,.Constant .none j2 q2] q3) (.Call (.Name "int" q4) [.BoolOp .And [.Call (.Name "isinstance" r1) [.Name en r2,.Name c1 r3] [] r4,.Call (.Name "isinstance" s1) [.Name en s2,.Name c2 s3] [] s4] q5] [] q6) q7)) p6] p7] [] [] p8,last]
section
variable {P:Program} {w:World} {K:PySem.W.Frag} {mg:Str→Option Value} {base:Heap} {C C2:Addr}
theorem told_ok {d dr:DI} {f fr:Addr} {fd fdr:FuncData} {Gam:Info} {k:Nat} {cf:CF} {last:Stmt} {e0:Expr} {x:Str} (T:TopC P w K mg Gam) (Fs:Fns P w K mg base k cf Gam) (D:DefX K mg d f fd) (Dr:DefX K mg dr fr fdr) (hX:PySem.W.excIn K C bmV "ValueError.__new__"=true) (hm:mg "NoText"=some (.ref C)) (hm2:mg "DemandError"=some (.ref C2))
  (hrd:FnOk P w K mg base (CXN P w C) k fr fdr dr.ps (spX K dr.ps.length (rdF cf))) (hB:ToldB (defBody d.st) last e0 x dr.x "NoText" "e" "DemandError" "ValueError") (hl:chkS Gam d.N (defScope d.st).names (chkE Gam 200 d.N (defScope d.st).names) (chkBody Gam 200 200 d.N (defScope d.st).names) lastE last=true)
  (ha:chkA (chkE Gam 200 d.N (defScope d.st).names) (.cons (.var 0) .nil) [e0]=true) (hpl:plainE e0=true) (m1:dr.ps.length=1) (n1:d.ps.length=1) (n2:d.N.length=3) (hN1:d.N[1]?=some x) (hN2:d.N[2]?=some ("e":Str)) (hlx:locB (defScope d.st).names x=true) (hle:(defScope d.st).names.lookup ("e":Str)=some .local)
  (gr:glB (defScope d.st).names dr.x=true) (gn:glB (defScope d.st).names "NoText"=true) (gd:glB (defScope d.st).names "DemandError"=true) (gv:glB (defScope d.st).names "ValueError"=true) (gi:glB (defScope d.st).names "isinstance"=true) (gt:glB (defScope d.st).names "int"=true)
  (bv:mg "ValueError"=none) (bi:mg "isinstance"=none) (bt:mg "int"=none) (bbv:bootBuiltins "ValueError"=some (.type "ValueError")) (k1:PySem.W.kitCls K (.ref C) (.ref C2)=some true) (k2:PySem.W.kitCls K (.ref C) (.type "ValueError")=some true) (hne:(Value.ref C==Value.ref C2)=false):
  FnOk P w K mg base CX0 (k+1) f fd d.ps (spD K d.ps.length (told1 cf)):=by
 refine D.F.ok D.S spD_len fun cdv A outer s H vs Q E hr hsp=>?_
 obtain ⟨hlv,G,ps,p,sub,ra,e,hQ⟩:=hsp
 have g:Good (cxOf CX0 P w K mg base d.N d.x (defScope d.st) f cdv A outer s H E).nox k cf Gam:=good_of T Fs _ rfl rfl rfl rfl rfl rfl rfl hr
 obtain ⟨p1,p2,p3,p4,p5,p6,p7,p8,q1,q2,q3,q4,q5,q6,q7,r1,r2,r3,r4,s1,s2,s3,s4,j1,j2,hbody⟩:=hB.eq
 rw [hbody]
 have gl:∀ {y:Str},glB (defScope d.st).names y=true→Gl (cxOf CX0 P w K mg base d.N d.x (defScope d.st) f cdv A outer s H E).nox y∧(y==("__debug__":Str))=false∧y≠"__name__":=fun h=>glB_of (X:=(cxOf CX0 P w K mg base d.N d.x (defScope d.st) f cdv A outer s H E).nox) h
 obtain ⟨pa,_⟩:=ok_args (chk_ok (cf:=cf) (k:=k) (Gam:=Gam) 200 (cxOf CX0 P w K mg base d.N d.x (defScope d.st) f cdv A outer s H E).nox g D.S.kind) ha
 have hlast:=ok_stmt (X:=(cxOf CX0 P w K mg base d.N d.x (defScope d.st) f cdv A outer s H E).nox) (m:=199) g D.S.kind D.S.nd (fun _=>rfl) (ok_body (X:=(cxOf CX0 P w K mg base d.N d.x (defScope d.st) f cdv A outer s H E).nox) (m:=199) g D.S.kind D.S.nd (fun _=>rfl) 200) hl
 have htry:=ps_try (X:=(cxOf CX0 P w K mg base d.N d.x (defScope d.st) f cdv A outer s H E).nox) (C:=C) (k:=k) (g:=rdF cf) (i:=1) (ie:=2) (p1:=p1) (p2:=p2) (p3:=p3) (p4:=p4) (p5:=p5) (p6:=p6) (p7:=p7) (p8:=p8) ⟨rfl,rfl,rfl⟩ rfl hrd hr (gl gr).1 Dr.m Dr.F.kp Dr.b pa (by rw [m1];rfl) (gl gr).2.1 hpl D.S.nd hN1 (locB_of (X:=(cxOf CX0 P w K mg base d.N d.x (defScope d.st) f cdv A outer s H E).nox) hlx) (fun _=>rfl) hX (gl gn).1 hm (gl gn).2.1 hN2 hle
  (fun a oe ho=>pe_hand (q1:=q1) (q2:=q2) (q3:=q3) (q4:=q4) (q5:=q5) (q6:=q6) (q7:=q7) (j1:=j1) (j2:=j2)
   (pe_isi (p1:=r1) (p2:=r2) (p3:=r3) (pos:=r4) (c:="DemandError") (x:="e") (vc:=.ref C2) (uc:=.ref C2) ho (fun X' a1 a2 _ _=>pe_glob (by show X'.env.kindOf _=_;rw [a1];exact (gl gd).1) (by rw [a2];exact hm2) rfl (by decide)) rfl (fun u hu=>hu) hne k1 (gl gi).1 bi hN2 (.inl hle) (by decide) (by decide))
   (pe_isi (p1:=s1) (p2:=s2) (p3:=s3) (pos:=s4) (c:="ValueError") (x:="e") (vc:=.ty "ValueError") (uc:=.type "ValueError") ho (fun X' a1 a2 _ _=>pe_bltn (by show X'.env.kindOf _=_;rw [a1];exact (gl gv).1) (by rw [a2];exact bv) bbv rfl (by decide) (by decide)) rfl (fun u hu=>hu) rfl k2 (gl gi).1 bi hN2 (.inl hle) (by decide) (by decide)) (gl gt).1 bt)
 refine ⟨_,pss_cons htry (pss_one hlast),?_⟩
 have hpl:ps.length=1:=by rw [ra.length,hlv,n1]
 have sr:=sr_start (N:=d.N) (F:=⟨1,3,.nx⟩) sub ra hpl n2 (by decide)
 match ps,hpl with
 | [y],_=>
 obtain ⟨q,hq,hcs⟩:=told_rd (show toldF cf y=some p from e)
 refine ⟨G,H,G,DD.start ⟨1,3,.nx⟩ [y],[y],q,⟨sr,.refl sub,fun i qs a e1 e2=>?_⟩,rfl,hq,fun p' hp σ' G' H' T'=>?_,fun hn G' H' x'=>?_⟩
 ·exfalso
  have hm':=List.mem_of_getElem? e1
  simp only [DD.start,List.mem_append,List.mem_map,List.mem_replicate] at hm'
  rcases hm' with ⟨p,_,z⟩ | ⟨_,z⟩ <;> cases z
 ·rcases hcs with ⟨ds,rfl,rfl⟩ | ⟨rfl,_⟩
  ·cases hp
   refine ⟨G,H,G',_,.rt (.tuple ds),T',?_,fun v G2 H2 x2 rv=>hQ v G2 H2 x2 rv⟩
   rfl
  ·cases hp
 ·rcases hcs with ⟨ds,rfl,rfl⟩ | ⟨rfl,rfl⟩
  ·cases hn
  ·exact hQ .non G' H' x' rfl
end
section
variable {P:Program} {w:World} {K:PySem.W.Frag} {mg:Str→Option Value} {base:Heap} {T:Tab} {Gam:Info} {c:Nat}
structure Dir (P:Program) (w:World) (K:PySem.W.Frag) (mg:Str→Option Value) (base:Heap) (T:Tab) (c:Nat) (d:DI) (f:Addr) (fd:FuncData):Prop where
 b:Binds K fd d.ps []
 m:mg d.x=some (.ref f)
 kp:PySem.W.keepIn K (.ref f)=true
 ok:∀ k,FnOk P w K mg base CX0 (k+c) f fd d.ps (spD K d.ps.length (run T k d.id))
theorem all_ok3 (hf:∀ x id n,(x,id,n)∈Gam.fns→∃ d f fd,d.x=x∧d.id=id∧d.ps.length=n∧(Def1 K mg T Gam d f fd∨Dir P w K mg base T c d f fd)) (C:TopC P w K mg Gam):
  ∀ (k:Nat) (d:DI) (f:Addr) (fd:FuncData),Def1 K mg T Gam d f fd→FnOk P w K mg base CX0 (k+c) f fd d.ps (spD K d.ps.length (run T k d.id))
 | 0,d,f,fd,D=>⟨spD_len,fun A outer s H args us vs Q E hr e0 hbi hv hsp=>by
   obtain ⟨_,G,ps,p,_,_,e,_⟩:=hsp
   cases (show (none:Option PV)=some p from e)⟩
 | k+1,d,f,fd,D=>by
  obtain ⟨B,eB,n1,n2,n3,hchk⟩:=D.c
  have hF:FnOk P w K mg base CX0 (k+c+1) f fd d.ps (spD K d.ps.length (run T (k+1) d.id)):=by
   refine D.F.ok D.S spD_len fun cdv A outer s H vs Q E hr hsp=>?_
   obtain ⟨hl,G,ps,p,sub,r,e,hQ⟩:=hsp
   have g:Good (cxOf CX0 P w K mg base d.N d.x (defScope d.st) f cdv A outer s H E).nox (k+c) (run T k) Gam:=by
    refine good_of C (fun x id n hm=>?_) _ rfl rfl rfl rfl rfl rfl rfl hr
    obtain ⟨d',f',fd',rfl,rfl,rfl,D' | D'⟩:=hf x id n hm
    ·exact ⟨f',fd',d'.ps,rfl,D'.m,D'.F.kp,D'.b,all_ok3 hf C k d' f' fd' D'⟩
    ·exact ⟨f',fd',d'.ps,rfl,D'.m,D'.kp,D'.b,D'.ok k⟩
   refine ⟨_,ok_body (m:=199) g D.S.kind D.S.nd (fun _=>rfl) 200 B.body (defBody d.st) hchk,?_⟩
   have hpl:ps.length=B.np:=by rw [r.length,hl,n1]
   have sr:=sr_start (N:=d.N) (F:=B) sub r hpl n2 n3
   unfold run at e
   rw [eB] at e
   simp only [hpl,if_true] at e
   cases ho:evS (run T k) B.body (DD.start B ps) with
   | none=>rw [ho] at e;cases e
   | some o=>
    rw [ho] at e
    refine ⟨G,H,G,DD.start B ps,o,⟨sr,.refl sub,fun i qs a e1 e2=>?_⟩,ho,?_⟩
    ·exfalso
     have hm:=List.mem_of_getElem? e1
     simp only [DD.start,List.mem_append,List.mem_map,List.mem_replicate] at hm
     rcases hm with ⟨p,_,z⟩ | ⟨_,z⟩ <;> cases z
    ·cases o with
     | rt q=>
      cases (show some q=some p from e)
      exact fun v G' H' x rv=>hQ v G' H' x rv
     | nx ρ=>
      cases (show some PyData.none=some p from e)
      exact fun σ G' H' T'=>hQ .non G' H' T'.ex rfl
     | bk ρ=>cases (show (none:Option PV)=some p from e)
     | ct ρ=>cases (show (none:Option PV)=some p from e)
  exact hF.mono (by lia)
theorem dir_of {d:DI} {f:Addr} {fd:FuncData} (D:Def1 K mg T Gam d f fd) (hf:∀ x id n,(x,id,n)∈Gam.fns→∃ d f fd,d.x=x∧d.id=id∧d.ps.length=n∧(Def1 K mg T Gam d f fd∨Dir P w K mg base T 0 d f fd)) (C:TopC P w K mg Gam):Dir P w K mg base T c d f fd:=
 ⟨D.b,D.m,D.F.kp,fun k=>(all_ok3 (base:=base) hf C k d f fd D).mono (by lia)⟩
theorem told_dir {d:DI} {f:Addr} {fd:FuncData} (D:DefX K mg d f fd) (hT:T d.id=some ⟨1,2,.ret (.prm (.var 0))⟩) (n1:d.ps.length=1) (h:∀ k,FnOk P w K mg base CX0 (k+9) f fd d.ps (spD K d.ps.length (told1 (run T k)))):Dir P w K mg base T 8 d f fd:=by
 refine ⟨D.b,D.m,D.F.kp,fun k=>?_⟩
 cases k with
 | zero=>exact ⟨spD_len,fun A outer s H args us vs Q E hr e0 hbi hv hsp=>by
   obtain ⟨_,G,ps,p,_,_,e,_⟩:=hsp
   cases (show (none:Option PV)=some p from e)⟩
 | succ k=>
  refine ((h k).imp fun vs H Q E ⟨hl,G,ps,p,sub,r,e,hQ⟩=>⟨hl,G,ps,p,sub,r,?_,hQ⟩).mono (by lia)
  have hpl:ps.length=1:=by rw [r.length,hl,n1]
  unfold run at e
  rw [hT] at e
  simp only [hpl,if_true] at e
  match ps,hpl with
  | [y],_=>
   show toldF (run T k) y=some p
   have e':outV (bnd (toldF (run T k) y) fun p=>some (.rt p))=some p:=e
   cases ht:toldF (run T k) y with
   | none=>rw [ht] at e';cases e'
   | some z=>rw [ht] at e';exact e'
end
end DD
namespace DD
open PySem PySem.StrLaws PySem.Builtin PySem.Builtin.Str
theorem jcps1 (sep x:Str):(joinS sep [x]).cps.toList=x.cps.toList:=rfl
theorem jcps2 (sep x y:Str) (r:List Str):(joinS sep (x::y::r)).cps.toList=x.cps.toList++(sep.cps.toList++(joinS sep (y::r)).cps.toList):=by
 show ((x.cps++sep.cps)++(joinS sep (y::r)).cps).toList=_
 rw [Array.toList_append,Array.toList_append,List.append_assoc]
structure Sep (sep:Str) (c u:Nat):Prop where
 at_:sep.cps.toList[u]?=some c
 pre:∀ j,j<u→sep.cps.toList[j]?≠some c
theorem At_of {x sep:Str} {k:Nat} {r:List Nat} (hk:k≤x.length) (h:x.cps.toList.drop k=sep.cps.toList++r):At x sep x.length k:=by
 have hl:=congrArg List.length h
 simp only [List.length_drop,List.length_append] at hl
 have e1:x.cps.toList.length=x.length:=by simp [Str.length]
 have e2:sep.cps.toList.length=sep.length:=by simp [Str.length]
 refine ⟨by lia,?_⟩
 rw [subAt_eq,h,← e2,List.take_left]
 simp
theorem At_c {x sep:Str} {c u k:Nat} (S:Sep sep c u) (h:At x sep x.length k):x.cps.toList[k+u]?=some c:=by
 have hs:=h.2
 rw [subAt_eq] at hs
 have e:=eq_of_beq hs
 have hu:u<sep.length:=by
  have:=(List.getElem?_eq_some_iff.mp S.at_).1
  simpa [Str.length] using this
 have:=S.at_
 rw [← e,List.getElem?_take_of_lt hu,List.getElem?_drop] at this
 exact this
theorem parts_join {x sep:Str} {c u:Nat} (S:Sep sep c u):∀ (ps:List Str) (a f:Nat) (cuts:List Nat),ps≠[]→(∀ p∈ps,c∉p.cps.toList)→a≤x.length→x.cps.toList.drop a=(joinS sep ps).cps.toList→ChainG x sep x.length a cuts f→(∀ k,f≤k→¬ At x sep x.length k)→partsFrom x sep.length a cuts=ps
 | [],_,_,_,h,_,_,_,_,_=>absurd rfl h
 | [p],a,f,cuts,_,hf,ha,hd,hG,hn=>by
  have hp:=hf p (by simp)
  have no:∀ k,a≤k→¬ At x sep x.length k:=fun k hk hA=>by
   have:=At_c S hA
   rw [show k+u=a+(k - a+u) from by lia,← List.getElem?_drop,hd,jcps1] at this
   exact hp (List.mem_of_getElem? this)
  cases cuts with
  | cons d r=>exact absurd hG.2.1 (no d hG.1)
  | nil=>
   show [strSub x a x.length]=[p]
   congr 1
   apply Str.ext'
   apply Array.toList_inj.mp
   rw [strSub_toList,hd,jcps1]
   refine List.take_of_length_le ?_
   have hl:=congrArg List.length hd
   simp only [List.length_drop,jcps1] at hl
   have e1:x.cps.toList.length=x.length:=by simp [Str.length]
   lia
 | p::q::r,a,f,cuts,_,hf,ha,hd,hG,hn=>by
  have hp:=hf p (by simp)
  rw [jcps2] at hd
  have e1:x.cps.toList.length=x.length:=by simp [Str.length]
  have e2:sep.cps.toList.length=sep.length:=by simp [Str.length]
  have e3:p.cps.toList.length=p.length:=by simp [Str.length]
  have hl:=congrArg List.length hd
  simp only [List.length_drop,List.length_append] at hl
  have hd2:x.cps.toList.drop (a+p.length)=sep.cps.toList++(joinS sep (q::r)).cps.toList:=by
   rw [← List.drop_drop,hd,← e3,List.drop_left]
  have hd3:x.cps.toList.drop (a+p.length+sep.length)=(joinS sep (q::r)).cps.toList:=by
   rw [← List.drop_drop,hd2,← e2,List.drop_left]
  have hA:At x sep x.length (a+p.length):=At_of (by lia) hd2
  have no:∀ k,a≤k→k<a+p.length→¬ At x sep x.length k:=fun k h1 h2 hA'=>by
   have:=At_c S hA'
   rw [show k+u=a+(k - a+u) from by lia,← List.getElem?_drop,hd] at this
   by_cases hk:k - a+u<p.length
   ·rw [List.getElem?_append_left (by lia)] at this
    exact hp (List.mem_of_getElem? this)
   ·rw [List.getElem?_append_right (by lia)] at this
    have hu:u<sep.length:=by
     have:=(List.getElem?_eq_some_iff.mp S.at_).1
     lia
    rw [List.getElem?_append_left (by lia)] at this
    exact S.pre (k - a+u - p.cps.toList.length) (by lia) this
  cases cuts with
  | nil=>
   have ef:f=a:=hG
   exact absurd hA (hn _ (by lia))
  | cons d t=>
   obtain ⟨h1,h2,h3,h4⟩:=hG
   have hde:d=a+p.length:=by
    rcases Nat.lt_trichotomy d (a+p.length) with h | h | h
    ·exact absurd h2 (no d h1 h)
    ·exact h
    ·exact absurd hA (h3 _ (by lia) h)
   subst hde
   show strSub x a (a+p.length)::partsFrom x sep.length (a+p.length+sep.length) t=_
   rw [parts_join S (q::r) (a+p.length+sep.length) f t (by simp) (fun z hz=>hf z (List.mem_cons_of_mem _ hz)) (by lia) hd3 h4 hn]
   congr 1
   apply Str.ext'
   apply Array.toList_inj.mp
   rw [strSub_toList,hd,show a+p.length - a=p.cps.toList.length from by lia,List.take_left]
theorem split_join {sep:Str} {c u:Nat} (S:Sep sep c u) (hk:PySem.Builtin.Str.strKind sep=1) (ps:List Str) (h0:ps≠[]) (hf:∀ p∈ps,c∉p.cps.toList):Txt.split (joinS sep ps) sep=ps:=by
 have hu:u<sep.length:=by
  have:=(List.getElem?_eq_some_iff.mp S.at_).1
  simpa [Str.length] using this
 generalize hx:joinS sep ps=x
 obtain ⟨f,hG,hn⟩:=occ_tight x sep (by lia)
 have main:=parts_join S ps 0 f _ h0 hf (by lia) (by rw [List.drop_zero,hx]) hG hn
 have e1:x.cps.toList.length=x.length:=by simp [Str.length]
 unfold Txt.split
 split
 ·rename_i hc
  rw [Bool.or_eq_true,decide_eq_true_eq,decide_eq_true_eq] at hc
  rcases hc with h | h
  ·match ps,h0 with
   | [p],_=>rw [← hx];rfl
   | p::q::r,_=>
    exfalso
    have hl:=congrArg List.length (jcps2 sep p q r)
    rw [hx] at hl
    simp only [List.length_append] at hl
    have e2:sep.cps.toList.length=sep.length:=by simp [Str.length]
    lia
  ·exfalso
   rw [hk] at h
   unfold PySem.Builtin.Str.strKind at h
   split at h
   ·lia
   ·split at h <;> lia
 ·split
  ·rename_i he
   have e0:occurrences x sep 0 x.length (x.length+1)=[]:=List.isEmpty_iff.mp he
   rw [e0] at main
   rw [← main]
   show [x]=[strSub x 0 x.length]
   rw [sub_whole]
  ·rw [partsBetween_eq]
   exact main
theorem sepSp:Sep " " 32 0:=⟨by decide +kernel,fun j h=>absurd h (by lia)⟩
theorem sepSc:Sep " ; " 59 1:=⟨by decide +kernel,fun j h=>by
 have:j=0:=by lia
 subst this
 decide +kernel⟩
theorem split_sp (ps:List Str) (h0:ps≠[]) (hf:∀ p∈ps,32∉p.cps.toList):Txt.split (joinS " " ps) " "=ps:=split_join sepSp (by decide +kernel) ps h0 hf
theorem split_sc (ps:List Str) (h0:ps≠[]) (hf:∀ p∈ps,59∉p.cps.toList):Txt.split (joinS " ; " ps) " ; "=ps:=split_join sepSc (by decide +kernel) ps h0 hf
end DD
namespace DD
open PySem
noncomputable def b0:S:=(.ret (.and (.op1 .isTup (.var 0)) (.op2 .eq (.op1 .len (.var 0)) (.var 1))))
noncomputable abbrev f0:Fn:=⟨2,2,b0⟩
noncomputable def b2:S:=(.ret (.and (.call 0 (.cons (.var 0) (.cons (.con (.int 2)) .nil))) (.and (.op2 .inn (.op2 .ix (.var 0) (.con (.int 0))) (.con (.tuple [(.str "a"),(.str "b")]))) (.op2 .inn (.op2 .ix (.var 0) (.con (.int 1))) (.con (.tuple [(.str "x"),(.str "y")]))))))
noncomputable abbrev f2:Fn:=⟨1,1,b2⟩
noncomputable def b3:S:=(.ret (.and (.call 0 (.cons (.var 0) (.cons (.con (.int 3)) .nil))) (.and (.op2 .eq (.op2 .ix (.var 0) (.con (.int 0))) (.con (.str "to"))) (.and (.op2 .inn (.op2 .ix (.var 0) (.con (.int 1))) (.con (.tuple [(.str "x"),(.str "y")]))) (.op2 .inn (.op2 .ix (.var 0) (.con (.int 2))) (.con (.tuple [(.str "x"),(.str "y")])))))))
noncomputable abbrev f3:Fn:=⟨1,1,b3⟩
noncomputable def b4:S:=(.ret (.or (.op2 .inn (.var 0) (.con (.tuple [(.str "yes"),(.str "no")]))) (.or (.call 2 (.cons (.var 0) .nil)) (.call 3 (.cons (.var 0) .nil)))))
noncomputable abbrev f4:Fn:=⟨1,1,b4⟩
noncomputable def b5:S:=(.seq (.ife (.call 4 (.cons (.var 0) .nil)) (.ret (.con (.bool true))) .nx) (.seq (.ife (.op2 .eq (.var 1) (.con (.int 0))) (.ret (.con (.bool false))) .nx) (.seq (.ife (.and (.call 0 (.cons (.var 0) (.cons (.con (.int 2)) .nil))) (.op2 .eq (.op2 .ix (.var 0) (.con (.int 0))) (.con (.str "not")))) (.ret (.call 5 (.cons (.op2 .ix (.var 0) (.con (.int 1))) (.cons (.op2 .sub (.var 1) (.con (.int 1))) .nil)))) .nx) (.seq (.ife (.and (.call 0 (.cons (.var 0) (.cons (.con (.int 3)) .nil))) (.op2 .inn (.op2 .ix (.var 0) (.con (.int 0))) (.con (.tuple [(.str "both"),(.str "either")])))) (.ret (.and (.call 5 (.cons (.op2 .ix (.var 0) (.con (.int 1))) (.cons (.op2 .sub (.var 1) (.con (.int 1))) .nil))) (.call 5 (.cons (.op2 .ix (.var 0) (.con (.int 2))) (.cons (.op2 .sub (.var 1) (.con (.int 1))) .nil))))) .nx) (.ret (.con (.bool false)))))))
noncomputable abbrev f5:Fn:=⟨2,2,b5⟩
noncomputable def b6:S:=(.ret (.call 5 (.cons (.var 0) (.cons (.con (.int 5)) .nil))))
noncomputable abbrev f6:Fn:=⟨1,1,b6⟩
noncomputable def b7:S:=(.seq (.ife (.not (.call 0 (.cons (.var 0) (.cons (.con (.int 3)) .nil)))) (.ret (.con (.bool false))) .nx) (.ret (.and (.op2 .inn (.op2 .ix (.var 0) (.con (.int 0))) (.con (.tuple [(.str "each"),(.str "some")]))) (.and (.op2 .inn (.op2 .ix (.var 0) (.con (.int 1))) (.con (.tuple [(.str "each"),(.str "some")]))) (.call 6 (.cons (.op2 .ix (.var 0) (.con (.int 2))) .nil))))))
noncomputable abbrev f7:Fn:=⟨1,1,b7⟩
noncomputable def b8:S:=(.ret (.op1 .len (.comp none [] (.var 0) (.op2 .eq (.sl (.var 0) (.con .none) (.con (.int 2))) (.con (.tuple [(.str "some"),(.str "each")]))) (.var 0))))
noncomputable abbrev f8:Fn:=⟨1,1,b8⟩
noncomputable def b9:S:=(.seq (.ife (.or (.not (.op1 .isTup (.var 0))) (.op2 .gt (.op1 .len (.var 0)) (.con (.int 4)))) (.ret (.con (.bool false))) .nx) (.seq (.ife (.not (.op1 .all (.comp none [] (.var 0) (.con (.bool true)) (.call 7 (.cons (.var 0) .nil))))) (.ret (.con (.bool false))) .nx) (.ret (.op2 .le (.call 8 (.cons (.var 0) .nil)) (.con (.int 2))))))
noncomputable abbrev f9:Fn:=⟨1,1,b9⟩
noncomputable def b16:S:=(.seq (.ife (.op2 .lt (.var 1) (.op1 .len (.var 0))) (.ret (.op2 .ix (.var 0) (.var 1))) .nx) (.ret (.con (.int 0))))
noncomputable abbrev f16:Fn:=⟨2,2,b16⟩
noncomputable def b17:S:=(.seq (.set 2 (.op2 .mod (.op2 .mul (.op2 .add (.op2 .add (.call 16 (.cons (.var 0) (.cons (.var 1) .nil))) (.op2 .mul (.con (.int 7919)) (.var 1))) (.con (.int 1))) (.con (.int 48271))) (.con (.int 2147483647)))) (.ret (.op2 .mod (.op2 .add (.op2 .add (.op2 .mul (.var 2) (.var 2)) (.op2 .mul (.con (.int 7)) (.var 2))) (.var 1)) (.con (.int 2147483629)))))
noncomputable abbrev f17:Fn:=⟨2,3,b17⟩
noncomputable def b18:S:=(.seq (.set 2 (.op2 .mod (.op2 .mul (.op2 .add (.op2 .add (.var 0) (.op2 .mul (.con (.int 104729)) (.var 1))) (.con (.int 17))) (.con (.int 69621))) (.con (.int 2147483647)))) (.ret (.op2 .mod (.op2 .add (.op2 .add (.op2 .mul (.var 2) (.var 2)) (.op2 .mul (.con (.int 3)) (.var 2))) (.var 1)) (.con (.int 2147483629)))))
noncomputable abbrev f18:Fn:=⟨2,3,b18⟩
noncomputable def b19:S:=(.seq (.set 2 (.op2 .mod (.var 0) (.con (.int 10)))) (.seq (.ife (.or (.op2 .eq (.var 1) (.con (.int 0))) (.op2 .lt (.var 2) (.con (.int 3)))) (.seq (.set 3 (.lst (.cons (.tup (.cons (.con (.str "a")) (.cons (.con (.str "x")) .nil))) (.cons (.tup (.cons (.con (.str "a")) (.cons (.con (.str "y")) .nil))) (.cons (.tup (.cons (.con (.str "b")) (.cons (.con (.str "x")) .nil))) (.cons (.tup (.cons (.con (.str "b")) (.cons (.con (.str "y")) .nil))) (.cons (.tup (.cons (.con (.str "to")) (.cons (.con (.str "x")) (.cons (.con (.str "y")) .nil)))) (.cons (.tup (.cons (.con (.str "to")) (.cons (.con (.str "y")) (.cons (.con (.str "x")) .nil)))) (.cons (.tup (.cons (.con (.str "to")) (.cons (.con (.str "x")) (.cons (.con (.str "y")) .nil)))) .nil))))))))) (.ret (.op2 .ix (.op2 .add (.var 3) (.lst (.cons (.tup (.cons (.con (.str "to")) (.cons (.con (.str "x")) (.cons (.con (.str "x")) .nil)))) (.cons (.tup (.cons (.con (.str "to")) (.cons (.con (.str "y")) (.cons (.con (.str "y")) .nil)))) (.cons (.tup (.cons (.con (.str "to")) (.cons (.con (.str "y")) (.cons (.con (.str "x")) .nil)))) (.cons (.con (.str "yes")) (.cons (.con (.str "no")) .nil))))))) (.op2 .mod (.op2 .fdiv (.var 0) (.con (.int 10))) (.con (.int 12)))))) .nx) (.seq (.set 4 (.call 19 (.cons (.call 18 (.cons (.var 0) (.cons (.con (.int 1)) .nil))) (.cons (.op2 .sub (.var 1) (.con (.int 1))) .nil)))) (.seq (.ife (.op2 .eq (.var 2) (.con (.int 3))) (.ret (.tup (.cons (.con (.str "not")) (.cons (.var 4) .nil)))) .nx) (.seq (.set 5 (.call 19 (.cons (.call 18 (.cons (.var 0) (.cons (.con (.int 2)) .nil))) (.cons (.op2 .sub (.var 1) (.con (.int 1))) .nil)))) (.seq (.ife (.and (.op2 .lt (.var 2) (.con (.int 6))) (.op2 .gt (.var 1) (.con (.int 1)))) (.ret (.tup (.cons (.con (.str "either")) (.cons (.tup (.cons (.con (.str "not")) (.cons (.call 19 (.cons (.call 18 (.cons (.var 0) (.cons (.con (.int 1)) .nil))) (.cons (.op2 .sub (.var 1) (.con (.int 2))) .nil))) .nil))) (.cons (.var 5) .nil))))) .nx) (.ret (.tup (.cons (.op2 .ix (.tup (.cons (.con (.str "both")) (.cons (.con (.str "either")) .nil))) (.op2 .mod (.var 2) (.con (.int 2)))) (.cons (.var 4) (.cons (.var 5) .nil)))))))))))
noncomputable abbrev f19:Fn:=⟨2,6,b19⟩
noncomputable def b20:S:=(.seq (.set 2 (.op2 .ix (.tup (.cons (.con (.str "each")) (.cons (.con (.str "each")) (.cons (.con (.str "each")) (.cons (.con (.str "some")) .nil))))) (.op2 .mod (.var 0) (.con (.int 4))))) (.seq (.set 3 (.op2 .ix (.tup (.cons (.con (.str "some")) (.cons (.con (.str "each")) (.cons (.con (.str "some")) .nil)))) (.op2 .mod (.op2 .fdiv (.var 0) (.con (.int 4))) (.con (.int 3))))) (.ret (.tup (.cons (.var 2) (.cons (.var 3) (.cons (.call 19 (.cons (.op2 .fdiv (.var 0) (.con (.int 12))) (.cons (.var 1) .nil))) .nil)))))))
noncomputable abbrev f20:Fn:=⟨2,4,b20⟩
noncomputable def b21l0:S:=(.seq (.set 4 (.call 20 (.cons (.call 18 (.cons (.var 0) (.cons (.var 3) .nil))) (.cons (.con (.int 3)) .nil)))) (.seq (.set 5 (.comp none [] (.var 2) (.op2 .eq (.sl (.var 0) (.con .none) (.con (.int 2))) (.tup (.cons (.con (.str "some")) (.cons (.con (.str "each")) .nil)))) (.var 0))) (.seq (.ife (.and (.op2 .eq (.sl (.var 4) (.con .none) (.con (.int 2))) (.tup (.cons (.con (.str "some")) (.cons (.con (.str "each")) .nil)))) (.op2 .eq (.op1 .len (.var 5)) (.con (.int 2)))) (.set 4 (.tup (.cons (.con (.str "each")) (.cons (.con (.str "some")) (.cons (.op2 .ix (.var 4) (.con (.int 2))) .nil))))) .nx) (.set 2 (.op2 .add (.var 2) (.tup (.cons (.var 4) .nil)))))))
noncomputable def b21:S:=(.seq (.set 2 (.tup .nil)) (.seq (.loop (.one 3) (.rng (.op2 .mod (.var 0) (.op2 .add (.var 1) (.con (.int 1))))) b21l0) (.ret (.var 2))))
noncomputable abbrev f21:Fn:=⟨2,6,b21⟩
noncomputable def b34:S:=(.seq (.ife (.op1 .isStr (.var 0)) (.ret (.var 0)) .nx) (.seq (.ife (.op2 .eq (.op2 .ix (.var 0) (.con (.int 0))) (.con (.str "to"))) (.ret (.op2 .add (.op2 .ix (.var 0) (.con (.int 1))) (.op2 .ix (.var 0) (.con (.int 2))))) .nx) (.seq (.ife (.op2 .inn (.op2 .ix (.var 0) (.con (.int 0))) (.tup (.cons (.con (.str "a")) (.cons (.con (.str "b")) .nil)))) (.ret (.op2 .add (.op2 .ix (.var 0) (.con (.int 0))) (.op2 .ix (.var 0) (.con (.int 1))))) .nx) (.ret (.op2 .join (.con (.str " ")) (.op2 .add (.lst (.cons (.op2 .ix (.var 0) (.con (.int 0))) .nil)) (.comp none [] (.sl (.var 0) (.con (.int 1)) (.con .none)) (.con (.bool true)) (.call 34 (.cons (.var 0) .nil)))))))))
noncomputable abbrev f34:Fn:=⟨1,1,b34⟩
noncomputable def b35:S:=(.seq (.ife (.op2 .eq (.var 0) (.tup .nil)) (.ret (.con (.str "-"))) .nx) (.ret (.op2 .join (.con (.str " ; ")) (.comp (some 3) [] (.var 0) (.con (.bool true)) (.op2 .add (.op2 .add (.op2 .add (.op2 .add (.var 0) (.con (.str " "))) (.var 1)) (.con (.str " "))) (.call 34 (.cons (.var 2) .nil)))))))
noncomputable abbrev f35:Fn:=⟨1,1,b35⟩
noncomputable def b71:S:=(.seq (.set 2 (.op2 .mod (.op2 .fdiv (.var 1) (.con (.int 16))) (.op2 .add (.op1 .len (.var 0)) (.con (.int 1))))) (.seq (.set 3 (.op2 .ix (.con (.str " abxy;-eno0~")) (.op2 .mod (.op2 .fdiv (.var 1) (.con (.int 400))) (.con (.int 12))))) (.seq (.ife (.op2 .eq (.op2 .mod (.var 1) (.con (.int 8))) (.con (.int 0))) (.ret (.op2 .add (.op2 .add (.sl (.var 0) (.con .none) (.var 2)) (.var 3)) (.sl (.var 0) (.var 2) (.con .none)))) .nx) (.seq (.ife (.op2 .eq (.op2 .mod (.var 1) (.con (.int 8))) (.con (.int 3))) (.ret (.op2 .add (.sl (.var 0) (.con .none) (.var 2)) (.sl (.var 0) (.op2 .add (.var 2) (.con (.int 1))) (.con .none)))) .nx) (.seq (.ife (.op2 .lt (.op2 .mod (.var 1) (.con (.int 8))) (.con (.int 3))) (.ret (.op2 .add (.op2 .add (.sl (.var 0) (.con .none) (.var 2)) (.var 3)) (.sl (.var 0) (.op2 .add (.var 2) (.con (.int 1))) (.con .none)))) .nx) (.seq (.own 4 (.op2 .split (.var 0) (.con (.str " ")))) (.seq (.set 2 (.op2 .mod (.op2 .fdiv (.var 1) (.con (.int 16))) (.op1 .len (.peek 4)))) (.seq (.ife (.op2 .eq (.op2 .mod (.var 1) (.con (.int 8))) (.con (.int 4))) (.own 4 (.op2 .add (.sl (.peek 4) (.con .none) (.var 2)) (.sl (.peek 4) (.op2 .add (.var 2) (.con (.int 1))) (.con .none)))) .nx) (.seq (.ife (.op2 .eq (.op2 .mod (.var 1) (.con (.int 8))) (.con (.int 5))) (.own 4 (.op2 .add (.op2 .add (.sl (.peek 4) (.con .none) (.var 2)) (.sl (.peek 4) (.var 2) (.op2 .add (.var 2) (.con (.int 1))))) (.sl (.peek 4) (.var 2) (.con .none)))) .nx) (.seq (.ife (.op2 .eq (.op2 .mod (.var 1) (.con (.int 8))) (.con (.int 6))) (.own 4 (.op2 .add (.op2 .add (.sl (.peek 4) (.con .none) (.var 2)) (.op1 .rev (.sl (.peek 4) (.var 2) (.op2 .add (.var 2) (.con (.int 2)))))) (.sl (.peek 4) (.op2 .add (.var 2) (.con (.int 2))) (.con .none)))) .nx) (.seq (.ife (.op2 .eq (.op2 .mod (.var 1) (.con (.int 8))) (.con (.int 7))) (.seq (.set 5 (.lst (.cons (.con (.str "each")) (.cons (.con (.str "some")) (.cons (.con (.str ";")) (.cons (.con (.str "-")) (.cons (.con (.str "yes")) (.cons (.con (.str "no")) (.cons (.con (.str "not")) (.cons (.con (.str "both")) (.cons (.con (.str "either")) (.cons (.con (.str "ax")) (.cons (.con (.str "by")) (.cons (.con (.str "xy")) (.cons (.con (.str "yy")) (.cons (.con (.str "za")) (.cons (.con (.str "a")) (.cons (.con (.str "")) .nil)))))))))))))))))) (.put 4 (.var 2) (.op2 .ix (.var 5) (.op2 .mod (.op2 .fdiv (.var 1) (.con (.int 400))) (.con (.int 16)))))) .nx) (.ret (.op2 .join (.con (.str " ")) (.peek 4))))))))))))))
noncomputable abbrev f71:Fn:=⟨2,6,b71⟩
noncomputable def b72l0:S:=(.seq (.asg (.many [6,1]) (.call 72 (.cons (.var 0) (.cons (.var 1) (.cons (.op2 .sub (.var 2) (.con (.int 1))) .nil))))) (.seq (.ife (.op1 .isN (.var 6)) (.ret (.tup (.cons (.con .none) (.cons (.var 1) .nil)))) .nx) (.set 4 (.op2 .add (.var 4) (.tup (.cons (.var 6) .nil))))))
noncomputable def b72:S:=(.seq (.ife (.or (.op2 .ge (.var 1) (.op1 .len (.var 0))) (.op2 .lt (.var 2) (.con (.int 0)))) (.ret (.tup (.cons (.con .none) (.cons (.var 1) .nil)))) .nx) (.seq (.set 3 (.op2 .ix (.var 0) (.var 1))) (.seq (.ife (.op2 .inn (.var 3) (.tup (.cons (.con (.str "yes")) (.cons (.con (.str "no")) .nil)))) (.ret (.tup (.cons (.var 3) (.cons (.op2 .add (.var 1) (.con (.int 1))) .nil)))) .nx) (.seq (.ife (.op2 .inn (.var 3) (.tup (.cons (.con (.str "xx")) (.cons (.con (.str "xy")) (.cons (.con (.str "yx")) (.cons (.con (.str "yy")) .nil)))))) (.ret (.tup (.cons (.tup (.cons (.con (.str "to")) (.cons (.op2 .ix (.var 3) (.con (.int 0))) (.cons (.op2 .ix (.var 3) (.con (.int 1))) .nil)))) (.cons (.op2 .add (.var 1) (.con (.int 1))) .nil)))) .nx) (.seq (.ife (.op2 .inn (.var 3) (.tup (.cons (.con (.str "ax")) (.cons (.con (.str "ay")) (.cons (.con (.str "bx")) (.cons (.con (.str "by")) .nil)))))) (.ret (.tup (.cons (.tup (.cons (.op2 .ix (.var 3) (.con (.int 0))) (.cons (.op2 .ix (.var 3) (.con (.int 1))) .nil))) (.cons (.op2 .add (.var 1) (.con (.int 1))) .nil)))) .nx) (.seq (.ife (.op2 .nin (.var 3) (.tup (.cons (.con (.str "not")) (.cons (.con (.str "both")) (.cons (.con (.str "either")) .nil))))) (.ret (.tup (.cons (.con .none) (.cons (.var 1) .nil)))) .nx) (.seq (.set 4 (.tup (.cons (.var 3) .nil))) (.seq (.set 1 (.op2 .add (.var 1) (.con (.int 1)))) (.seq (.loop (.one 5) (.rng (.op2 .add (.con (.int 1)) (.op1 .toInt (.op2 .ne (.var 3) (.con (.str "not")))))) b72l0) (.ret (.tup (.cons (.var 4) (.cons (.var 1) .nil)))))))))))))
noncomputable abbrev f72:Fn:=⟨3,7,b72⟩
noncomputable def b73l0:S:=(.seq (.set 4 (.op2 .split (.var 3) (.con (.str " ")))) (.seq (.asg (.many [5,6]) (.call 72 (.cons (.var 4) (.cons (.con (.int 2)) (.cons (.con (.int 5)) .nil))))) (.seq (.ife (.or (.op1 .isN (.var 5)) (.or (.op2 .ne (.var 6) (.op1 .len (.var 4))) (.or (.op2 .nin (.op2 .ix (.var 4) (.con (.int 0))) (.tup (.cons (.con (.str "each")) (.cons (.con (.str "some")) .nil)))) (.op2 .nin (.op2 .ix (.var 4) (.con (.int 1))) (.tup (.cons (.con (.str "each")) (.cons (.con (.str "some")) .nil))))))) (.ret (.con .none)) .nx) (.seq (.set 1 (.op2 .add (.var 1) (.tup (.cons (.tup (.cons (.op2 .ix (.var 4) (.con (.int 0))) (.cons (.op2 .ix (.var 4) (.con (.int 1))) (.cons (.var 5) .nil)))) .nil)))) (.set 2 (.op2 .add (.var 2) (.op1 .toInt (.and (.op2 .eq (.op2 .ix (.var 4) (.con (.int 0))) (.con (.str "some"))) (.op2 .eq (.op2 .ix (.var 4) (.con (.int 1))) (.con (.str "each")))))))))))
noncomputable def b73:S:=(.seq (.ife (.op2 .eq (.var 0) (.con (.str "-"))) (.ret (.tup .nil)) .nx) (.seq (.set 1 (.tup .nil)) (.seq (.set 2 (.con (.int 0))) (.seq (.loop (.one 3) (.op2 .split (.var 0) (.con (.str " ; "))) b73l0) (.seq (.ife (.or (.op2 .gt (.op1 .len (.var 1)) (.con (.int 4))) (.op2 .gt (.var 2) (.con (.int 2)))) (.ret (.con .none)) .nx) (.ret (.var 1)))))))
noncomputable abbrev f73:Fn:=⟨1,7,b73⟩
noncomputable def b74:S:=(.ret (.prm (.var 0)))
noncomputable abbrev f74:Fn:=⟨1,2,b74⟩
noncomputable def b75l0:S:=(.set 5 (.tup (.cons (.con (.str "not")) (.cons (.var 5) .nil))))
noncomputable def b75l1:S:=(.set 3 (.call 71 (.cons (.var 3) (.cons (.call 18 (.cons (.var 2) (.cons (.var 6) .nil))) .nil))))
noncomputable def b75:S:=(.seq (.set 1 (.call 21 (.cons (.call 17 (.cons (.var 0) (.cons (.con (.int 0)) .nil))) (.cons (.con (.int 4)) .nil)))) (.seq (.set 2 (.call 17 (.cons (.var 0) (.cons (.con (.int 1)) .nil)))) (.seq (.set 3 (.call 35 (.cons (.var 1) .nil))) (.seq (.ife (.op2 .ne (.call 74 (.cons (.var 3) .nil)) (.var 1)) (.ret (.con (.bool false))) .nx) (.seq (.ife (.op2 .eq (.op2 .mod (.var 2) (.con (.int 9))) (.con (.int 1))) (.seq (.set 4 (.op2 .mod (.op2 .fdiv (.var 2) (.con (.int 9))) (.con (.int 151)))) (.seq (.set 3 (.op2 .add (.op2 .add (.con (.str "each some ")) (.op2 .mul (.con (.str "not ")) (.var 4))) (.con (.str "xy")))) (.seq (.set 5 (.tup (.cons (.con (.str "to")) (.cons (.con (.str "x")) (.cons (.con (.str "y")) .nil))))) (.seq (.loop (.one 6) (.rng (.var 4)) b75l0) (.ife (.op2 .ne (.call 74 (.cons (.var 3) .nil)) (.op2 .ix (.lst (.cons (.con .none) (.cons (.tup (.cons (.tup (.cons (.con (.str "each")) (.cons (.con (.str "some")) (.cons (.var 5) .nil)))) .nil)) .nil))) (.op1 .toInt (.op2 .le (.var 4) (.con (.int 5)))))) (.ret (.con (.bool false))) .nx))))) .nx) (.seq (.loop (.one 6) (.rng (.op2 .ix (.tup (.cons (.con (.int 0)) (.cons (.con (.int 1)) (.cons (.con (.int 2)) (.cons (.con (.int 4)) (.cons (.con (.int 0)) (.cons (.con (.int 1)) .nil))))))) (.op2 .mod (.op2 .fdiv (.var 2) (.con (.int 9))) (.con (.int 6))))) b75l1) (.seq (.set 7 (.call 74 (.cons (.var 3) .nil))) (.seq (.ife (.or (.op2 .ne (.var 7) (.call 73 (.cons (.var 3) .nil))) (.and (.op1 .notN (.var 7)) (.op1 .notT (.call 9 (.cons (.var 7) .nil))))) (.ret (.con (.bool false))) .nx) (.seq (.set 2 (.call 17 (.cons (.var 0) (.cons (.con (.int 2)) .nil)))) (.seq (.set 3 (.call 35 (.cons (.op1 .toTuple (.comp none [2] (.rng (.op2 .mod (.var 2) (.con (.int 7)))) (.con (.bool true)) (.call 20 (.cons (.call 18 (.cons (.var 1) (.cons (.var 0) .nil))) (.cons (.con (.int 2)) .nil))))) .nil))) (.ret (.op2 .eq (.call 74 (.cons (.var 3) .nil)) (.call 73 (.cons (.var 3) .nil))))))))))))))
noncomputable abbrev f75:Fn:=⟨1,8,b75⟩
inductive Nm where
 | x | y
noncomputable def Nm.s:Nm→Str
 | .x=>"x"
 | .y=>"y"
inductive Fm where
 | yes | no | a (n:Nm) | b (n:Nm) | to (m n:Nm) | not (f:Fm) | both (f g:Fm) | either (f g:Fm)
noncomputable def Fm.pv:Fm→PV
 | .yes=>.str "yes"
 | .no=>.str "no"
 | .a n=>.tuple [.str "a",.str n.s]
 | .b n=>.tuple [.str "b",.str n.s]
 | .to m n=>.tuple [.str "to",.str m.s,.str n.s]
 | .not f=>.tuple [.str "not",f.pv]
 | .both f g=>.tuple [.str "both",f.pv,g.pv]
 | .either f g=>.tuple [.str "either",f.pv,g.pv]
@[simp] theorem isDict_fm (f:Fm):isDict f.pv=false:=by cases f <;> simp [Fm.pv]
noncomputable def Fm.dep:Fm→Nat
 | .yes | .no | .a _ | .b _ | .to _ _=>0
 | .not f=>f.dep+1
 | .both f g=>max f.dep g.dep+1
 | .either f g=>max f.dep g.dep+1
theorem run_at {T:Tab} {k f:Nat} {args:List PV} {F:Fn} (h:T f=some F) (hl:args.length=F.np):
  run T (k+1) f args=outV (evS (run T k) F.body (start F args)):=run_succ h hl
noncomputable def drawnD (n k:Int):Int:=(n+104729 * k+17) * 69621 % 2147483647
noncomputable def drawnI (n k:Int):Int:=(drawnD n k * drawnD n k+3 * drawnD n k+k) % 2147483629
theorem small_mod {n m:Int} (h0:0<m) (h1:m<2 ^ 64):small (n % m)=true:=by
 unfold small
 have a:=Int.emod_nonneg n (Int.ne_of_gt h0)
 have b:=Int.emod_lt_of_pos n h0
 simp only [Bool.and_eq_true,decide_eq_true_eq]
 lia
theorem drawn_run {T:Tab} (h:T 18=some f18) (k:Nat) (n j:Int):run T (k+1) 18 [.int n,.int j]=some (.int (drawnI n j)):=by
 rw [run_at h rfl]
 have e:small (drawnD n j)=true:=small_mod (by decide) (by decide)
 unfold drawnD at e
 simp [eqF,inF,b18,drawnI,drawnD,e,show small 104729=true from by decide,show small 69621=true from by decide,show small 3=true from by decide]
theorem leaf_at (i:Int) (h0:0≤i) (h1:i<12):∃ f:Fm,f.dep=0∧atI [PyData.tuple [.str "a",.str "x"],.tuple [.str "a",.str "y"],.tuple [.str "b",.str "x"],.tuple [.str "b",.str "y"],
  .tuple [.str "to",.str "x",.str "y"],.tuple [.str "to",.str "y",.str "x"],.tuple [.str "to",.str "x",.str "y"],.tuple [.str "to",.str "x",.str "x"],.tuple [.str "to",.str "y",.str "y"],.tuple [.str "to",.str "y",.str "x"],
  .str "yes",.str "no"] i=some f.pv:=by
 cases i with
 | negSucc n=>exact absurd h0 (Int.negSucc_not_nonneg n).mp
 | ofNat n=>
  have h:n<12:=Int.ofNat_lt.mp h1
  clear h0 h1
  match n,h with
  | 0,_=>exact ⟨.a .x,rfl,rfl⟩
  | 1,_=>exact ⟨.a .y,rfl,rfl⟩
  | 2,_=>exact ⟨.b .x,rfl,rfl⟩
  | 3,_=>exact ⟨.b .y,rfl,rfl⟩
  | 4,_=>exact ⟨.to .x .y,rfl,rfl⟩
  | 5,_=>exact ⟨.to .y .x,rfl,rfl⟩
  | 6,_=>exact ⟨.to .x .y,rfl,rfl⟩
  | 7,_=>exact ⟨.to .x .x,rfl,rfl⟩
  | 8,_=>exact ⟨.to .y .y,rfl,rfl⟩
  | 9,_=>exact ⟨.to .y .x,rfl,rfl⟩
  | 10,_=>exact ⟨.yes,rfl,rfl⟩
  | 11,_=>exact ⟨.no,rfl,rfl⟩
  | n+12,h=>lia
theorem eqv_int (i j:Int):PyData.eqv (.int i) (.int j)=decide (i=j):=by simp only [PyData.eqv];rfl
theorem eqv_str (i j:Str):PyData.eqv (.str i) (.str j)=(i==j):=by first | rfl | simp [eqF,inF,PyData.eqv]
theorem seq_nx {cf:Nat→List PV→Option PV} {a b:S} {ρ ρ1:Env} {o:Option Out} (h1:evS cf a ρ=some (.nx ρ1)) (h2:evS cf b ρ1=o):evS cf (.seq a b) ρ=o:=by
 rw [evS,h1];exact h2
theorem seq_rt {cf:Nat→List PV→Option PV} {a b:S} {ρ:Env} {p:PV} (h1:evS cf a ρ=some (.rt p)):evS cf (.seq a b) ρ=some (.rt p):=by
 rw [evS,h1];rfl
theorem set_nx {cf:Nat→List PV→Option PV} {i:Nat} {e:E} {ρ:Env} {p:PV} (h:evE cf e ρ=some p):evS cf (.set i e) ρ=some (.nx (ρ.set i (.val p))):=by
 rw [evS,h];rfl
theorem ret_rt {cf:Nat→List PV→Option PV} {e:E} {ρ:Env} {p:PV} (h:evE cf e ρ=some p):evS cf (.ret e) ρ=some (.rt p):=by
 rw [evS,h];rfl
theorem ife_t {cf:Nat→List PV→Option PV} {c:E} {a b:S} {ρ:Env} {p:PV} {o:Option Out} (h:evE cf c ρ=some p) (t:truthF p=some true) (h2:evS cf a ρ=o):evS cf (.ife c a b) ρ=o:=by
 rw [evS,h,bnd_some,t];exact h2
theorem ife_f {cf:Nat→List PV→Option PV} {c:E} {a b:S} {ρ:Env} {p:PV} {o:Option Out} (h:evE cf c ρ=some p) (t:truthF p=some false) (h2:evS cf b ρ=o):evS cf (.ife c a b) ρ=o:=by
 rw [evS,h,bnd_some,t];exact h2
theorem op2_go {cf:Nat→List PV→Option PV} {o:Op2} {a b:E} {ρ:Env} {x y:PV} {r:Option PV} (ha:evE cf a ρ=some x) (hb:evE cf b ρ=some y) (h:opF2 o x y=r):evE cf (.op2 o a b) ρ=r:=by
 rw [evE,ha,bnd_some,hb,bnd_some];exact h
theorem op1_go {cf:Nat→List PV→Option PV} {o:Op1} {a:E} {ρ:Env} {x:PV} {r:Option PV} (ha:evE cf a ρ=some x) (h:opF1 o x=r):evE cf (.op1 o a) ρ=r:=by
 rw [evE,ha,bnd_some];exact h
theorem or_go {cf:Nat→List PV→Option PV} {a b:E} {ρ:Env} {s t:Bool} (ha:evE cf a ρ=some (.bool s)) (hb:s=false→evE cf b ρ=some (.bool t)):evE cf (.or a b) ρ=some (.bool (s||t)):=by
 rw [evE,ha]
 cases s with
 | true=>rfl
 | false=>exact hb rfl
theorem and_go {cf:Nat→List PV→Option PV} {a b:E} {ρ:Env} {s t:Bool} (ha:evE cf a ρ=some (.bool s)) (hb:s=true→evE cf b ρ=some (.bool t)):evE cf (.and a b) ρ=some (.bool (s&&t)):=by
 rw [evE,ha]
 cases s with
 | false=>rfl
 | true=>exact hb rfl
theorem tupR2 {cf:Nat→List PV→Option PV} {a b:E} {ρ:Env} {x y:PV} (ha:evE cf a ρ=some x) (hb:evE cf b ρ=some y) (dx:isDict x=false) (dy:isDict y=false):evE cf (.tup (.cons a (.cons b .nil))) ρ=some (.tuple [x,y]):=by
 simp only [evE,ha,hb,bnd_some,consF_e1,tupF_e1]
 simp [dx,dy]
theorem tupR3 {cf:Nat→List PV→Option PV} {a b c:E} {ρ:Env} {x y z:PV} (ha:evE cf a ρ=some x) (hb:evE cf b ρ=some y) (hc:evE cf c ρ=some z) (dx:isDict x=false) (dy:isDict y=false) (dz:isDict z=false):evE cf (.tup (.cons a (.cons b (.cons c .nil)))) ρ=some (.tuple [x,y,z]):=by
 simp only [evE,ha,hb,hc,bnd_some,consF_e1,tupF_e1]
 simp [dx,dy,dz]
theorem mod_go {cf:Nat→List PV→Option PV} {a:E} {ρ:Env} {i j:Int} {b:E} (ha:evE cf a ρ=some (.int i)) (hb:evE cf b ρ=some (.int j)) (h:0<j):evE cf (.op2 .mod a b) ρ=some (.int (i % j)):=by
 refine op2_go ha hb ?_
 simp only [opF2]
 rw [modF_e1,if_pos h]
theorem fdiv_go {cf:Nat→List PV→Option PV} {a:E} {ρ:Env} {i j:Int} (ha:evE cf a ρ=some (.int i)) (h:0<j∧j<1073741824):evE cf (.op2 .fdiv a (.con (.int j))) ρ=some (.int (i / j)):=by
 refine op2_go ha rfl ?_
 simp only [opF2]
 rw [fdivF_e1,if_pos h]
theorem call2 {cf:Nat→List PV→Option PV} {f:Nat} {a b:E} {ρ:Env} {x y:PV} {o:Option PV} (ha:evE cf a ρ=some x) (hb:evE cf b ρ=some y) (h:cf f [x,y]=o):evE cf (.call f (.cons a (.cons b .nil))) ρ=o:=by
 rw [evE,evE,ha,bnd_some,evE,hb];exact h
theorem eqI_go {cf:Nat→List PV→Option PV} {a b:E} {ρ:Env} {i j:Int} (ha:evE cf a ρ=some (.int i)) (hb:evE cf b ρ=some (.int j)):evE cf (.op2 .eq a b) ρ=some (.bool (decide (i=j))):=by
 refine op2_go ha hb ?_
 simp [eqF,PyData.depth,eqv_int]
noncomputable def ρF (n:Int) (d:Nat) (s3 s4 s5:Sl):Env:=[.val (.int n),.val (.int d),.val (.int (n % 10)),s3,s4,s5]
theorem form_ex {T:Tab} (h18:T 18=some f18) (h19:T 19=some f19):∀ (d:Nat) (n:Int) (k:Nat),∃ f:Fm,f.dep≤d∧run T (k+d+2) 19 [.int n,.int d]=some f.pv:=by
 intro d
 induction d using Nat.strongRecOn with
 | _ d ih=>
  intro n k
  rw [run_at h19 rfl]
  obtain ⟨fl,dl,el⟩:=leaf_at (n / 10 % 12) (by lia) (by lia)
  have s2:evS (run T (k+d+1)) (.set 2 (.op2 .mod (.var 0) (.con (.int 10)))) [.val (.int n),.val (.int d),.un,.un,.un,.un]=some (.nx (ρF n d .un .un .un)):=set_nx (mod_go rfl rfl (by decide))
  have c1:evE (run T (k+d+1)) (.or (.op2 .eq (.var 1) (.con (.int 0))) (.op2 .lt (.var 2) (.con (.int 3)))) (ρF n d .un .un .un)=some (.bool (decide ((d:Int)=0)||decide (n % 10<3))):=or_go (eqI_go rfl rfl) fun _=>op2_go (x:=.int (n % 10)) rfl rfl rfl
  suffices key:∃ f:Fm,f.dep≤d∧evS (run T (k+d+1)) b19 [.val (.int n),.val (.int d),.un,.un,.un,.un]=some (.rt f.pv) by
   obtain ⟨f,h1,h2⟩:=key
   exact ⟨f,h1,congrArg outV h2⟩
  unfold b19
  by_cases hk:n % 10<3∨d=0
  ·refine ⟨fl,by lia,seq_nx s2 (seq_rt (ife_t c1 ?_ (seq_nx (set_nx rfl) (ret_rt (op2_go (op2_go rfl rfl rfl) (mod_go (fdiv_go rfl ⟨by decide,by decide⟩) rfl (by decide)) el)))))⟩
   rw [truthF_e2]
   congr 1
   rw [Bool.or_eq_true,decide_eq_true_eq,decide_eq_true_eq]
   lia
  ·obtain ⟨d',rfl⟩:∃ d',d=d'+1:=⟨d - 1,by lia⟩
   obtain ⟨g1,q1,r1⟩:=ih d' (by lia) (drawnI n 1) k
   obtain ⟨g2,q2,r2⟩:=ih d' (by lia) (drawnI n 2) k
   have a1:=drawn_run h18 (k+d'+1) n 1
   have a2:=drawn_run h18 (k+d'+1) n 2
   have sb:∀ s3 s4 s5,evE (run T (k+(d'+1)+1)) (.op2 .sub (.var 1) (.con (.int 1))) (ρF n (d'+1) s3 s4 s5)=some (.int d'):=fun _ _ _=>op2_go (x:=.int ((d'+1:Nat):Int)) rfl rfl (by show some (PyData.int (((d'+1:Nat):Int) - 1))=_;rw [show ((d'+1:Nat):Int) - 1=(d':Int) from by lia])
   have f1:truthF (.bool (decide (((d'+1:Nat):Int)=0)||decide (n % 10<3)))=some false:=by
    rw [truthF_e2,decide_eq_false (by lia),decide_eq_false (by lia)];rfl
   have s4:evS (run T (k+(d'+1)+1)) (.set 4 (.call 19 (.cons (.call 18 (.cons (.var 0) (.cons (.con (.int 1)) .nil))) (.cons (.op2 .sub (.var 1) (.con (.int 1))) .nil)))) (ρF n (d'+1) .un .un .un)=some (.nx (ρF n (d'+1) .un (.val g1.pv) .un)):=set_nx (call2 (call2 rfl rfl a1) (sb _ _ _) r1)
   have c3:evE (run T (k+(d'+1)+1)) (.op2 .eq (.var 2) (.con (.int 3))) (ρF n (d'+1) .un (.val g1.pv) .un)=some (.bool (decide (n % 10=3))):=eqI_go rfl rfl
   by_cases h3:n % 10=3
   ·exact ⟨.not g1,by simp only [Fm.dep];lia,seq_nx s2 (seq_nx (ife_f c1 f1 rfl) (seq_nx s4 (seq_rt (ife_t c3 (by rw [decide_eq_true h3];rfl) (ret_rt (tupR2 rfl rfl rfl (isDict_fm g1)))))))⟩
   ·have s5:evS (run T (k+(d'+1)+1)) (.set 5 (.call 19 (.cons (.call 18 (.cons (.var 0) (.cons (.con (.int 2)) .nil))) (.cons (.op2 .sub (.var 1) (.con (.int 1))) .nil)))) (ρF n (d'+1) .un (.val g1.pv) .un)=some (.nx (ρF n (d'+1) .un (.val g1.pv) (.val g2.pv))):=set_nx (call2 (call2 rfl rfl a2) (sb _ _ _) r2)
    have c6:evE (run T (k+(d'+1)+1)) (.and (.op2 .lt (.var 2) (.con (.int 6))) (.op2 .gt (.var 1) (.con (.int 1)))) (ρF n (d'+1) .un (.val g1.pv) (.val g2.pv))=some (.bool (decide (n % 10<6)&&decide ((1:Int)<((d'+1:Nat):Int)))):=and_go (op2_go (x:=.int (n % 10)) rfl rfl rfl) fun _=>op2_go (x:=.int ((d'+1:Nat):Int)) rfl rfl rfl
    have e3:truthF (.bool (decide (n % 10=3)))=some false:=by rw [decide_eq_false h3];rfl
    by_cases h6:n % 10<6∧0<d'
    ·obtain ⟨d2,rfl⟩:∃ d2,d'=d2+1:=⟨d' - 1,by lia⟩
     obtain ⟨g3,q3,r3⟩:=ih d2 (by lia) (drawnI n 1) (k+1)
     rw [show k+1+d2+2=k+(d2+1+1)+1 from by lia] at r3
     have sb2:evE (run T (k+(d2+1+1)+1)) (.op2 .sub (.var 1) (.con (.int 2))) (ρF n (d2+1+1) .un (.val g1.pv) (.val g2.pv))=some (.int d2):=op2_go (x:=.int ((d2+1+1:Nat):Int)) rfl rfl (by show some (PyData.int (((d2+1+1:Nat):Int) - 2))=_;rw [show ((d2+1+1:Nat):Int) - 2=(d2:Int) from by lia])
     refine ⟨.either (.not g3) g2,by simp only [Fm.dep];lia,seq_nx s2 (seq_nx (ife_f c1 f1 rfl) (seq_nx s4 (seq_nx (ife_f c3 e3 rfl) (seq_nx s5 (seq_rt (ife_t c6 ?_ (ret_rt (tupR3 rfl (tupR2 rfl (call2 (call2 rfl rfl a1) sb2 r3) rfl (isDict_fm g3)) rfl rfl rfl (isDict_fm g2)))))))))⟩
     rw [truthF_e2,decide_eq_true h6.1,decide_eq_true (by lia)];rfl
    ·have e6:truthF (.bool (decide (n % 10<6)&&decide ((1:Int)<((d'+1:Nat):Int))))=some false:=by
      rw [truthF_e2]
      congr 1
      rw [Bool.and_eq_false_iff,decide_eq_false_iff_not,decide_eq_false_iff_not]
      lia
     have fin:∀ (w:Str),ixF (.tuple [.str "both",.str "either"]) (.int (n % 10 % 2))=some (.str w)→evS (run T (k+(d'+1)+1)) (.ret (.tup (.cons (.op2 .ix (.tup (.cons (.con (.str "both")) (.cons (.con (.str "either")) .nil))) (.op2 .mod (.var 2) (.con (.int 2)))) (.cons (.var 4) (.cons (.var 5) .nil))))) (ρF n (d'+1) .un (.val g1.pv) (.val g2.pv))=some (.rt (.tuple [.str w,g1.pv,g2.pv])):=fun w hw=>
      ret_rt (tupR3 (op2_go rfl (mod_go rfl rfl (by decide)) hw) rfl rfl rfl (isDict_fm g1) (isDict_fm g2))
     rcases (by lia:n % 10 % 2=0∨n % 10 % 2=1) with hp | hp
     ·exact ⟨.both g1 g2,by simp only [Fm.dep];lia,seq_nx s2 (seq_nx (ife_f c1 f1 rfl) (seq_nx s4 (seq_nx (ife_f c3 e3 rfl) (seq_nx s5 (seq_nx (ife_f c6 e6 rfl) (fin "both" (by rw [hp];rfl)))))))⟩
     ·exact ⟨.either g1 g2,by simp only [Fm.dep];lia,seq_nx s2 (seq_nx (ife_f c1 f1 rfl) (seq_nx s4 (seq_nx (ife_f c3 e3 rfl) (seq_nx s5 (seq_nx (ife_f c6 e6 rfl) (fin "either" (by rw [hp];rfl)))))))⟩
theorem loop_by {tg:Tg} {g:Env→Option Out} (I:Nat→Env→Prop):∀ (xs:List PV) (k:Nat),(∀ i x ρ,xs[i]?=some x→I (k+i) ρ→∃ ρ1 ρ2,bindS tg x ρ=some ρ1∧g ρ1=some (.nx ρ2)∧I (k+i+1) ρ2)→
  ∀ ρ,I k ρ→∃ ρ',loopF tg g xs ρ=some (.nx ρ')∧I (k+xs.length) ρ'
 | [],k,_,ρ,h=>⟨ρ,rfl,h⟩
 | x::xs,k,hs,ρ,h=>by
  obtain ⟨ρ1,ρ2,e1,e2,h2⟩:=hs 0 x ρ rfl h
  obtain ⟨ρ',e3,h3⟩:=loop_by (tg:=tg) (g:=g) I xs (k+1) (fun i y ρ e h=>by
   have:=hs (i+1) y ρ (by simpa using e) (by rw [show k+(i+1)=k+1+i from by lia];exact h)
   rw [show k+(i+1)+1=k+1+i+1 from by lia] at this
   exact this) ρ2 h2
  refine ⟨ρ',?_,?_⟩
  ·unfold loopF
   rw [e1,bnd_some,e2,turnO_nx]
   exact e3
  ·rw [List.length_cons,show k+(xs.length+1)=k+1+xs.length from by lia]
   exact h3
theorem comp_by {α:Type} {g:PV→Option (Option PV)} (c:α→PV) (p:α→Bool) (f:α→PV):∀ (xs:List α),(∀ x∈xs,g (c x)=some (if p x then some (f x) else none))→compF g (xs.map c)=some ((xs.filter p).map f)
 | [],_=>rfl
 | x::xs,h=>by
  have h1:=h x List.mem_cons_self
  have h2:=comp_by c p f xs fun y hy=>h y (List.mem_cons_of_mem _ hy)
  rw [List.map_cons]
  unfold compF
  rw [h1,h2]
  cases hp:p x <;> simp [eqF,inF,hp]
theorem comp_all {α:Type} {g:PV→Option (Option PV)} (c f:α→PV) (xs:List α) (h:∀ x∈xs,g (c x)=some (some (f x))):compF g (xs.map c)=some (xs.map f):=by
 have:=comp_by (g:=g) c (fun _=>true) f xs fun x hx=>by simpa using h x hx
 rw [this];congr 2;exact List.filter_eq_self.mpr fun _ _=>rfl
inductive Qt where
 | each | some
 deriving DecidableEq
noncomputable def Qt.s:Qt→Str
 | .each=>"each"
 | .some=>"some"
structure Dm where
 one:Qt
 other:Qt
 f:Fm
noncomputable def Dm.pv (d:Dm):PV:=.tuple [.str d.one.s,.str d.other.s,d.f.pv]
@[simp] theorem isDict_dm (d:Dm):isDict d.pv=false:=by first | rfl | simp [eqF,inF,Dm.pv]
noncomputable def Dm.mark (d:Dm):Bool:=decide (d.one=.some)&&decide (d.other=.each)
noncomputable def rowPv (r:List Dm):PV:=.tuple (r.map Dm.pv)
@[simp] theorem isDict_row (r:List Dm):isDict (rowPv r)=false:=by first | rfl | simp [eqF,inF,rowPv]
theorem mark_eqv (a b:Qt):PyData.eqv (.tuple [.str a.s,.str b.s]) (.tuple [.str "some",.str "each"])=(decide (a=.some)&&decide (b=.each)):=by
 cases a <;> cases b <;> decide +kernel
theorem depth_two (a b:Str):(PyData.tuple [.str a,.str b]).depth=1:=by first | rfl | simp [eqF,inF,PyData.depth,PyData.depthAll]
theorem demand_ex {T:Tab} (h18:T 18=some f18) (h19:T 19=some f19) (h20:T 20=some f20) (e:Nat) (n:Int) (k:Nat):∃ d:Dm,d.f.dep≤e∧run T (k+e+3) 20 [.int n,.int e]=some d.pv:=by
 rw [run_at h20 rfl]
 obtain ⟨f,hf,rf⟩:=form_ex h18 h19 e (n / 12) k
 have one:∃ a:Qt,atI [PyData.str "each",.str "each",.str "each",.str "some"] (n % 4)=some (.str a.s):=by
  rcases (by lia:n % 4=0∨n % 4=1∨n % 4=2∨n % 4=3) with h | h | h | h <;> rw [h]
  ·exact ⟨.each,rfl⟩
  ·exact ⟨.each,rfl⟩
  ·exact ⟨.each,rfl⟩
  ·exact ⟨.some,rfl⟩
 have two:∃ a:Qt,atI [PyData.str "some",.str "each",.str "some"] (n / 4 % 3)=some (.str a.s):=by
  rcases (by lia:n / 4 % 3=0∨n / 4 % 3=1∨n / 4 % 3=2) with h | h | h <;> rw [h]
  ·exact ⟨.some,rfl⟩
  ·exact ⟨.each,rfl⟩
  ·exact ⟨.some,rfl⟩
 obtain ⟨a,ea⟩:=one
 obtain ⟨b,eb⟩:=two
 refine ⟨⟨a,b,f⟩,hf,?_⟩
 simp [eqF,inF,b20,ea,eb,rf,Dm.pv]
noncomputable def marks (r:List Dm):Nat:=(r.filter Dm.mark).length
structure RowOk (m e:Nat) (r:List Dm):Prop where
 len:r.length≤m
 dep:∀ d∈r,d.f.dep≤e
 two:marks r≤2
theorem cut2 (a b c:PV):cut [a,b,c] none (some 2)=[a,b]:=by
 simp [eqF,inF,cut,sIx]
theorem depth_int (i:Int):(PyData.int i).depth=0:=by first | rfl | simp [eqF,inF,PyData.depth]
theorem depth_str (i:Str):(PyData.str i).depth=0:=by first | rfl | simp [eqF,inF,PyData.depth]
theorem rng_run {cf:Nat→List PV→Option PV} {a:E} {ρ:Env} {j:Nat} (h:evE cf a ρ=some (.int j)) (hj:j≤1000000):evE cf (.rng a) ρ=some (.list ((List.range j).map fun k=>.int (k:Nat))):=by
 rw [evE,h,bnd_some]
 have c:-1000000≤(0:Int)∧(0:Int)≤1000000∧-1000000≤(j:Int)∧(j:Int)≤1000000:=⟨by decide,by decide,by lia,by lia⟩
 simp only [rngI,rngF]
 rw [if_pos c]
 simp
theorem loop_run {cf:Nat→List PV→Option PV} {t:Tg} {it:E} {body:S} {ρ:Env} {p:PV} {xs:List PV} {o:Option Out} (h:evE cf it ρ=some p) (hx:seqOf p=some xs) (hl:loopF t (evS cf body) xs ρ=o):evS cf (.loop t it body) ρ=o:=by
 rw [evS,h,bnd_some,hx];exact hl
theorem marks_snoc (r:List Dm) (d:Dm):marks (r++[d])=marks r+(if d.mark then 1 else 0):=by
 unfold marks
 rw [List.filter_append,List.length_append]
 cases h:d.mark <;> simp [eqF,inF,h]
theorem mark_is (d:Dm):PyData.eqv (.tuple [.str d.one.s,.str d.other.s]) (.tuple [.str "some",.str "each"])=d.mark:=mark_eqv d.one d.other
theorem ife_b {cf:Nat→List PV→Option PV} {c:E} {a b:S} {ρ:Env} {t:Bool} {o:Option Out} (h:evE cf c ρ=some (.bool t)) (h1:t=true→evS cf a ρ=o) (h2:t=false→evS cf b ρ=o):evS cf (.ife c a b) ρ=o:=by
 cases t with
 | true=>exact ife_t h rfl (h1 rfl)
 | false=>exact ife_f h rfl (h2 rfl)
theorem row_marks (cf:Nat→List PV→Option PV) (r:List Dm) (ρ:Env) (e:evE cf (.var 2) ρ=some (rowPv r)):
  evE cf (.comp none [] (.var 2) (.op2 .eq (.sl (.var 0) (.con .none) (.con (.int 2))) (.tup (.cons (.con (.str "some")) (.cons (.con (.str "each")) .nil)))) (.var 0)) ρ=some (.list ((r.filter Dm.mark).map Dm.pv)):=by
 rw [evE,e]
 simp only [rowPv,bnd_some,seqOf]
 rw [comp_by Dm.pv Dm.mark Dm.pv r]
 ·rfl
 ·intro d _
  simp [eqF,inF,Dm.pv,cut2,depth_two,mark_is]
  cases h:d.mark <;> simp
theorem row_turn {T : Tab} (h18 : T 18 = some f18) (h19 : T 19 = some f19) (h20 : T 20 = some f20) (k : Nat) (n j : Int) (m : PV) (r : List Dm) (hr : marks r ≤ 2) (hl : r.length ≤ 100) (s4 s5 : Sl) :
    ∃ (d : Dm) (t4 t5 : Sl), d.f.dep ≤ 3 ∧ marks (r ++ [d]) ≤ 2 ∧
      evS (run T (k + 6)) b21l0 [.val (.int n), .val m, .val (rowPv r), .val (.int j), s4, s5] = some (.nx [.val (.int n), .val m, .val (rowPv (r ++ [d])), .val (.int j), t4, t5]) := by
  obtain ⟨d, hd, ed⟩ := demand_ex h18 h19 h20 3 (drawnI n j) k
  have ed' : run T (k + 6) 20 [.int (drawnI n j), .int 3] = some d.pv := ed
  have em := row_marks (run T (k + 6)) r [.val (.int n), .val m, .val (rowPv r), .val (.int j), .val d.pv, s5] (by first | rfl | simp)
  have dr := drawn_run h18 (k + 5) n j
  have hll : r.length + 1 ≤ 16777216 := by lia
  have hml : ((r.filter Dm.mark).length : Int) = (marks r : Int) := rfl
  refine ⟨if d.mark = true ∧ marks r = 2 then ⟨.each, .some, d.f⟩ else d, .val (if d.mark = true ∧ marks r = 2 then (⟨.each, .some, d.f⟩ : Dm) else d).pv, .val (.list ((r.filter Dm.mark).map Dm.pv)), ?_, ?_, ?_⟩
  · split <;> exact hd
  · rw [marks_snoc]
    split
    · have : (⟨.each, .some, d.f⟩ : Dm).mark = false := rfl
      rw [this]; simpa using hr
    · rename_i hc
      cases hm : d.mark with
      | false => simpa using hr
      | true => have : marks r ≠ 2 := fun z => hc ⟨hm, z⟩
                simp; lia
  · unfold b21l0
    refine seq_nx (set_nx (p := d.pv) (by first | rfl | simp [eqF, inF, dr, ed'])) ?_
    refine seq_nx (set_nx em) ?_
    have ec : evE (run T (k + 6)) (.and (.op2 .eq (.sl (.var 4) (.con .none) (.con (.int 2))) (.tup (.cons (.con (.str "some")) (.cons (.con (.str "each")) .nil)))) (.op2 .eq (.op1 .len (.var 5)) (.con (.int 2))))
        [.val (.int n), .val m, .val (rowPv r), .val (.int j), .val d.pv, .val (.list ((r.filter Dm.mark).map Dm.pv))] = some (.bool (decide (d.mark = true ∧ marks r = 2))) := by
      cases hm : d.mark with
      | false => simp [eqF, inF, Dm.pv, cut2, depth_two, mark_is, hm]
      | true =>
        have hq : decide (((r.filter Dm.mark).length : Int) = 2) = decide (marks r = 2) := by
          rw [hml]
          by_cases h2 : marks r = 2
          · simp [eqF, inF, h2]
          · have h3 : ¬ ((marks r : Nat) : Int) = 2 := by lia
            simp [eqF, inF, h2, h3]
        simp [eqF, inF, Dm.pv, cut2, depth_two, mark_is, hm, depth_int, eqv_int]; lia
    refine seq_nx (ρ1 := [.val (.int n), .val m, .val (rowPv r), .val (.int j), .val (if d.mark = true ∧ marks r = 2 then (⟨.each, .some, d.f⟩ : Dm) else d).pv, .val (.list ((r.filter Dm.mark).map Dm.pv))]) (ife_b ec (fun ht => ?_) (fun hf => ?_)) ?_
    · have ht' := of_decide_eq_true ht
      rw [if_pos ht']
      refine set_nx (by first | rfl | simp [eqF, inF, Dm.pv, atI, ixN, Qt.s])
    · have hf' := of_decide_eq_false hf
      rw [if_neg hf']
      rfl
    · refine set_nx (p := rowPv (r ++ [if d.mark = true ∧ marks r = 2 then ⟨.each, .some, d.f⟩ else d])) ?_
      simp [eqF, inF, rowPv, hll]
theorem row_ex {T:Tab} (h18:T 18=some f18) (h19:T 19=some f19) (h20:T 20=some f20) (h21:T 21=some f21) (m:Nat) (hm:m≤10) (n:Int) (k:Nat):
  ∃ r:List Dm,RowOk m 3 r∧run T (k+7) 21 [.int n,.int m]=some (rowPv r):=by
 rw [run_at h21 rfl]
 have hm0:(0:Int)<(m:Int)+1:=by lia
 have hn0:0≤n % ((m:Int)+1):=Int.emod_nonneg _ (by lia)
 have hn1:n % ((m:Int)+1)<(m:Int)+1:=Int.emod_lt_of_pos _ hm0
 obtain ⟨j,ej⟩:∃ j:Nat,n % ((m:Int)+1)=(j:Int):=⟨(n % ((m:Int)+1)).toNat,by lia⟩
 have hj:j≤m:=by lia
 obtain ⟨ρ',e1,hI⟩:=loop_by (tg:=.one 3) (g:=evS (run T (k+6)) b21l0)
  (fun i ρ=>i≤m→∃ r:List Dm,r.length=i∧(∀ d∈r,d.f.dep≤3)∧marks r≤2∧∃ s3 s4 s5,ρ=[.val (.int n),.val (.int m),.val (rowPv r),s3,s4,s5])
  ((List.range j).map fun k=>.int (k:Nat)) 0 (fun i x ρ ex hI=>by
   have hi:i<j:=by simpa using (List.getElem?_eq_some_iff.mp ex).1
   have ex':PyData.int (i:Nat)=x:=by simpa [hi] using ex
   subst ex'
   by_cases him:0+i≤m
   ·obtain ⟨r,hl,hd,h2,s3,s4,s5,rfl⟩:=hI him
    obtain ⟨d,t4,t5,dd,d2,ee⟩:=row_turn h18 h19 h20 k n (i:Nat) (.int m) r h2 (by lia) s4 s5
    refine ⟨_,_,rfl,ee,fun _=>⟨r++[d],by first | rfl | simp [eqF,inF,hl],fun c hc=>?_,d2,_,_,_,rfl⟩⟩
    rcases List.mem_append.mp hc with hc | hc
    ·exact hd c hc
    ·rw [List.mem_singleton.mp hc];exact dd
   ·lia) [.val (.int n),.val (.int m),.val (.tuple []),.un,.un,.un] (fun _=>⟨[],rfl,by simp,by first | rfl | simp [eqF,inF,marks],_,_,_,rfl⟩)
 obtain ⟨r,hl,hd,h2,s3,s4,s5,rfl⟩:=hI (by simp;lia)
 have hl':r.length≤m:=by rw [hl];simp;lia
 refine ⟨r,⟨hl',hd,h2⟩,?_⟩
 have body:evS (run T (k+6)) b21 (start f21 [.int n,.int m])=some (.rt (rowPv r)):=by
  unfold b21
  refine seq_nx (set_nx (p:=.tuple []) (by first | rfl | simp)) ?_
  refine seq_nx (loop_run (rng_run (j:=j) ?_ (by lia)) rfl e1) (ret_rt (by first | rfl | simp))
  simp [eqF,inF,hm0,ej]
 exact congrArg outV body
theorem cell_ex {T:Tab} (h16:T 16=some f16) (k:Nat) (ns:List Int) (j:Nat):∃ c:Int,run T (k+1) 16 [.list (ns.map .int),.int j]=some (.int c):=by
 rw [run_at h16 rfl]
 by_cases h:(j:Int)<(ns.length:Int)
 ·refine ⟨ns.getD j 0,?_⟩
  have hj:j<ns.length:=by lia
  simp [eqF,inF,b16,h,atI,ixN,hj]
 ·have hj:¬ j<ns.length:=by lia
  refine ⟨0,?_⟩
  simp [eqF,inF,b16,h,hj]
theorem mixed_ex {T:Tab} (h16:T 16=some f16) (h17:T 17=some f17) (k:Nat) (ns:List Int) (j:Nat):∃ c:Int,0≤c∧c<2147483629∧run T (k+2) 17 [.list (ns.map .int),.int j]=some (.int c):=by
 obtain ⟨c,hc⟩:=cell_ex h16 k ns j
 rw [run_at h17 rfl]
 have e:small ((c+7919 * (j:Int)+1) * 48271 % 2147483647)=true:=small_mod (by decide) (by decide)
 refine ⟨((c+7919 * (j:Int)+1) * 48271 % 2147483647 * ((c+7919 * (j:Int)+1) * 48271 % 2147483647)+7 * ((c+7919 * (j:Int)+1) * 48271 % 2147483647)+j) % 2147483629,Int.emod_nonneg _ (by decide),Int.emod_lt_of_pos _ (by decide),?_⟩
 simp [eqF,inF,b17,hc,e,show small 7919=true from by decide,show small 48271=true from by decide,show small 7=true from by decide]
noncomputable def Fm.txt:Fm→Str
 | .yes=>"yes"
 | .no=>"no"
 | .a n=>"a"++n.s
 | .b n=>"b"++n.s
 | .to m n=>m.s++n.s
 | .not f=>joinS " " ["not",f.txt]
 | .both f g=>joinS " " ["both",f.txt,g.txt]
 | .either f g=>joinS " " ["either",f.txt,g.txt]
theorem len_app (x y:Str):(x++y).length=x.length+y.length:=by
 show (x.cps++y.cps).size=_
 rw [Array.size_append];rfl
theorem len_nm (n:Nm):n.s.length=1:=by cases n <;> decide +kernel
theorem len_join2 (s x y:Str):(joinS s [x,y]).length=x.length+s.length+y.length:=by first | rfl | simp [eqF,inF,joinS,len_app]
theorem len_join3 (s x y z:Str):(joinS s [x,y,z]).length=x.length+s.length+(y.length+s.length+z.length):=by first | rfl | simp [eqF,inF,joinS,len_app]
theorem lits:("yes":Str).length=3∧("no":Str).length=2∧("a":Str).length=1∧("b":Str).length=1∧("not":Str).length=3∧("both":Str).length=4∧("either":Str).length=6∧(" ":Str).length=1∧(" ; ":Str).length=3∧("each":Str).length=4∧("some":Str).length=4:=by decide +kernel
theorem pow_max (a b:Nat):2 ^ a≤2 ^ (max a b)∧2 ^ b≤2 ^ (max a b):=⟨Nat.pow_le_pow_right (by decide) (Nat.le_max_left _ _),Nat.pow_le_pow_right (by decide) (Nat.le_max_right _ _)⟩
theorem txt_len:∀ f:Fm,f.txt.length+10≤14 * 2 ^ f.dep
 | .yes=>by simp only [Fm.txt,Fm.dep];have:=lits;lia
 | .no=>by simp only [Fm.txt,Fm.dep];have:=lits;lia
 | .a n=>by simp only [Fm.txt,Fm.dep,len_app,len_nm];have:=lits;lia
 | .b n=>by simp only [Fm.txt,Fm.dep,len_app,len_nm];have:=lits;lia
 | .to m n=>by simp only [Fm.txt,Fm.dep,len_app,len_nm];have:=lits;lia
 | .not f=>by
  have h:=txt_len f
  have l:=lits
  simp only [Fm.txt,Fm.dep,len_join2,Nat.pow_succ]
  lia
 | .both f g=>by
  have h:=txt_len f
  have h':=txt_len g
  have l:=lits
  have p:=pow_max f.dep g.dep
  simp only [Fm.txt,Fm.dep,len_join3,Nat.pow_succ]
  lia
 | .either f g=>by
  have h:=txt_len f
  have h':=txt_len g
  have l:=lits
  have p:=pow_max f.dep g.dep
  simp only [Fm.txt,Fm.dep,len_join3,Nat.pow_succ]
  lia
theorem txt_le {f:Fm} (h:f.dep≤12):f.txt.length≤57344:=by
 have h1:=txt_len f
 have h2:2 ^ f.dep≤2 ^ 12:=Nat.pow_le_pow_right (by decide) h
 lia
theorem eqs:(("not":Str)=="to")=false∧(("both":Str)=="to")=false∧(("either":Str)=="to")=false∧(("a":Str)=="to")=false∧(("b":Str)=="to")=false∧
  (("a":Str)=="not")=false∧(("b":Str)=="not")=false∧(("a":Str)=="both")=false∧(("b":Str)=="both")=false∧(("a":Str)=="either")=false∧(("b":Str)=="either")=false∧(("b":Str)=="a")=false∧(("a":Str)=="b")=false:=by decide +kernel
theorem cut1_2 (a b:PV):cut [a,b] (some 1) none=[b]:=by first | rfl | simp [eqF,inF,cut,sIx]
theorem cut1_3 (a b c:PV):cut [a,b,c] (some 1) none=[b,c]:=by first | rfl | simp [eqF,inF,cut,sIx]
theorem words34 {T:Tab} (h34:T 34=some f34):∀ (f:Fm) (k:Nat),f.dep≤12→run T (k+f.dep+1) 34 [f.pv]=some (.str f.txt)
 | .yes,k,_=>by rw [run_at h34 rfl];simp [eqF,inF,b34,Fm.pv,Fm.txt]
 | .no,k,_=>by rw [run_at h34 rfl];simp [eqF,inF,b34,Fm.pv,Fm.txt]
 | .a n,k,_=>by
  rw [run_at h34 rfl]
  have l:=lits
  have ln:=len_nm n
  simp [eqF,inF,b34,Fm.pv,Fm.txt,atI,ixN,eqv_str,eqs,depth_str,l,ln,PyData.depthAll]
 | .b n,k,_=>by
  rw [run_at h34 rfl]
  have l:=lits
  have ln:=len_nm n
  simp [eqF,inF,b34,Fm.pv,Fm.txt,atI,ixN,eqv_str,eqs,depth_str,l,ln,PyData.depthAll]
 | .to m n,k,_=>by
  rw [run_at h34 rfl]
  have lm:=len_nm m
  have ln:=len_nm n
  simp [eqF,inF,b34,Fm.pv,Fm.txt,atI,ixN,eqv_str,eqs,depth_str,lm,ln]
 | .not f,k,hd=>by
  have hd':f.dep≤12:=by simp only [Fm.dep] at hd;lia
  have ih:=words34 h34 f k hd'
  rw [run_at h34 rfl]
  have l:=lits
  have lt:=txt_le hd'
  have e:k+(Fm.not f).dep=k+f.dep+1:=by simp only [Fm.dep];lia
  rw [e]
  have hl:3+f.txt.length+2≤16777216:=by lia
  simp [eqF,inF,b34,Fm.pv,Fm.txt,atI,ixN,eqv_str,eqs,depth_str,PyData.depthAll,cut1_2,compF,ih,l,hl]
 | .both f g,k,hd=>by
  have hf:f.dep≤12:=by simp only [Fm.dep] at hd;lia
  have hg:g.dep≤12:=by simp only [Fm.dep] at hd;lia
  have i1:=run_le (j:=k+max f.dep g.dep+1) (by lia) (words34 h34 f k hf)
  have i2:=run_le (j:=k+max f.dep g.dep+1) (by lia) (words34 h34 g k hg)
  rw [run_at h34 rfl]
  have l:=lits
  have l1:=txt_le hf
  have l2:=txt_le hg
  have e:k+(Fm.both f g).dep=k+max f.dep g.dep+1:=by simp only [Fm.dep];lia
  rw [e]
  have hl:4+(f.txt.length+g.txt.length)+3≤16777216:=by lia
  simp [eqF,inF,b34,Fm.pv,Fm.txt,atI,ixN,eqv_str,eqs,depth_str,PyData.depthAll,cut1_3,compF,i1,i2,l,hl]
 | .either f g,k,hd=>by
  have hf:f.dep≤12:=by simp only [Fm.dep] at hd;lia
  have hg:g.dep≤12:=by simp only [Fm.dep] at hd;lia
  have i1:=run_le (j:=k+max f.dep g.dep+1) (by lia) (words34 h34 f k hf)
  have i2:=run_le (j:=k+max f.dep g.dep+1) (by lia) (words34 h34 g k hg)
  rw [run_at h34 rfl]
  have l:=lits
  have l1:=txt_le hf
  have l2:=txt_le hg
  have e:k+(Fm.either f g).dep=k+max f.dep g.dep+1:=by simp only [Fm.dep];lia
  rw [e]
  have hl:6+(f.txt.length+g.txt.length)+3≤16777216:=by lia
  simp [eqF,inF,b34,Fm.pv,Fm.txt,atI,ixN,eqv_str,eqs,depth_str,PyData.depthAll,cut1_3,compF,i1,i2,l,hl]
noncomputable def Dm.txt (d:Dm):Str:=joinS " " [d.one.s,d.other.s,d.f.txt]
theorem len_qt (q:Qt):q.s.length=4:=by cases q <;> decide +kernel
theorem dtxt_le {d:Dm} (h:d.f.dep≤12):d.txt.length≤57354:=by
 have l:=txt_le h
 have:=lits
 unfold Dm.txt
 rw [len_join3,len_qt,len_qt]
 lia
theorem app_assoc (x y z:Str):x++y++z=x++(y++z):=by
 show (⟨x.cps++y.cps++z.cps⟩:Str)=⟨x.cps++(y.cps++z.cps)⟩
 rw [Array.append_assoc]
theorem dtxt_eq (d:Dm):d.one.s++" "++d.other.s++" "++d.f.txt=d.txt:=by
 unfold Dm.txt joinS joinS joinS
 simp only [app_assoc]
theorem strs_map {α:Type} (c:α→Str) (xs:List α):strsOf (xs.map fun x=>PyData.str (c x))=some (xs.map c):=by
 induction xs with
 | nil=>rfl
 | cons x xs ih=>simp [eqF,inF,ih]
theorem sum_le {α:Type} (c:α→Str) (b:Nat):∀ (xs:List α),(∀ x∈xs,(c x).length≤b)→((xs.map c).map Str.length).sum≤xs.length * b
 | [],_=>by simp
 | x::xs,h=>by
  have h1:=h x List.mem_cons_self
  have h2:=sum_le c b xs fun y hy=>h y (List.mem_cons_of_mem _ hy)
  simp only [List.map_cons,List.sum_cons,List.length_cons,Nat.succ_mul]
  lia
noncomputable def rowTxt (r:List Dm):Str:=if r.length=0 then "-" else joinS " ; " (r.map Dm.txt)
theorem row_fits {r:List Dm} (hl:r.length≤100) (hd:∀ d∈r,d.f.dep≤12):((r.map Dm.txt).map Str.length).sum+(r.map Dm.txt).length * (" ; ":Str).length≤16777216:=by
 have h:=sum_le Dm.txt 57354 r fun d h=>dtxt_le (hd d h)
 have l:=lits
 rw [List.length_map]
 have h2:r.length * 57354≤100 * 57354:=Nat.mul_le_mul_right _ hl
 have h3:r.length * (" ; ":Str).length≤100 * 3:=by rw [l.2.2.2.2.2.2.2.2.1];exact Nat.mul_le_mul_right _ hl
 lia
theorem eqv_nil (xs:List PV):PyData.eqv (.tuple xs) (.tuple [])=decide (xs.length=0):=by
 cases xs <;> simp [eqF,inF,PyData.eqv,PyData.eqvAll]
theorem join_run {cf:Nat→List PV→Option PV} {e:E} {ρ:Env} {sep:Str} {α:Type} {c:α→Str} {xs:List α} (h:evE cf e ρ=some (.list (xs.map fun x=>.str (c x)))) (hl:((xs.map c).map Str.length).sum+(xs.map c).length * sep.length≤16777216):
  evE cf (.op2 .join (.con (.str sep)) e) ρ=some (.str (joinS sep (xs.map c))):=by
 rw [evE,evE,bnd_some,h,bnd_some]
 simp only [opF2,joinF,strs_map,bnd_some]
 rw [if_pos hl]
theorem text35 {T:Tab} (h34:T 34=some f34) (h35:T 35=some f35) (r:List Dm) (hl:r.length≤100) (hd:∀ d∈r,d.f.dep≤12) (k:Nat) (hk:15≤k):run T k 35 [rowPv r]=some (.str (rowTxt r)):=by
 obtain ⟨j,rfl⟩:∃ j,k=j+1:=⟨k - 1,by lia⟩
 rw [run_at h35 rfl]
 unfold rowTxt
 have key:evS (run T j) b35 [.val (rowPv r)]=some (.rt (.str (if r.length=0 then "-" else joinS " ; " (r.map Dm.txt)))):=by
  unfold b35
  by_cases h0:r.length=0
  ·have:r=[]:=List.length_eq_zero_iff.mp h0
   subst this
   simp [eqF,inF,rowPv,PyData.depth,PyData.depthAll,eqv_nil]
  ·have dz:PyData.depth (.tuple [])=1:=by first | rfl | simp [eqF,inF,PyData.depth,PyData.depthAll]
   have mz:min (PyData.depth (rowPv r)) (PyData.depth (.tuple []))≤180:=by rw [dz];lia
   refine seq_nx (ife_f (p:=.bool false) ?_ rfl rfl) (ret_rt ?_)
   ·have:PyData.eqv (rowPv r) (.tuple [])=false:=by unfold rowPv;rw [eqv_nil];simpa using h0
    simp [eqF,inF,mz,this]
   rw [if_neg h0]
   refine join_run (c:=Dm.txt) ?_ (row_fits hl hd)
   rw [evE]
   simp only [evE,List.getElem?_cons_zero,bnd_some,Sl.get,rowPv,seqOf]
   rw [comp_all Dm.pv (fun d=>.str d.txt) r]
   ·rfl
   ·intro d hm
    have l:=lits
    have l1:=txt_le (hd d hm)
    have hq:=hd d hm
    have w:=run_le (j:=j) (by lia) (words34 h34 d.f 0 (hd d hm))
    have h1:10+d.f.txt.length≤16777216:=by lia
    simp [eqF,inF,Dm.pv,len_qt,len_app,l,w,h1,dtxt_eq]
 exact congrArg outV key
inductive Pl:PV→Prop where
 | none:Pl .none
 | bool (b:Bool):Pl (.bool b)
 | int (i:Int):Pl (.int i)
 | str (x:Str):Pl (.str x)
 | list {ps:List PV} (h:∀ p∈ps,Pl p):Pl (.list ps)
 | tuple {ps:List PV} (h:∀ p∈ps,Pl p):Pl (.tuple ps)
theorem Pl.nd {p:PV} (h:Pl p):isDict p=false:=by cases h <;> rfl
theorem Pl.mem {ps:List PV} (h:Pl (.tuple ps)):∀ p∈ps,Pl p:=by cases h;assumption
@[simp] theorem ite_and (x y:Bool):(if x=true then some (PyData.bool y) else some (PyData.bool x))=some (.bool (x&&y)):=by cases x <;> rfl
@[simp] theorem ite_and' (x y:Bool):(if x=true then some (PyData.bool y) else some (PyData.bool false))=some (.bool (x&&y)):=by cases x <;> rfl
@[simp] theorem ite_or (x y:Bool):(if x=true then some (PyData.bool x) else some (PyData.bool y))=some (.bool (x||y)):=by cases x <;> rfl
@[simp] theorem ite_or' (x y:Bool):(if x=true then some (PyData.bool true) else some (PyData.bool y))=some (.bool (x||y)):=by cases x <;> rfl
noncomputable def isS (s:Str):PV→Bool
 | .str t=>decide (t=s)
 | _=>false
@[simp] theorem isS_e (s t:Str):isS s (.str t)=decide (t=s):=rfl
theorem beq_dec (s t:Str):(s==t)=decide (s=t):=by
 by_cases h:s=t
 ·simp [h]
 ·rw [beq_eq_false_iff_ne.mpr h,decide_eq_false h]
theorem eqv_l (p:PV) (s:Str):PyData.eqv p (.str s)=isS s p:=by cases p <;> simp [PyData.eqv,isS,beq_dec]
theorem eqv_r (p:PV) (s:Str):PyData.eqv (.str s) p=isS s p:=by
 cases p <;> simp [PyData.eqv,isS,beq_dec,eq_comm]
theorem eq_s (p:PV) (s:Str) (h:isDict p=false):eqF p (.str s)=some (isS s p):=by
 simp [eqF,h,eqv_l,depth_str]
noncomputable def in2 (s t:Str) (p:PV):Bool:=isS s p||isS t p
theorem in_2 (p:PV) (s t:Str) (h:isDict p=false):inF p (.tuple [.str s,.str t])=some (in2 s t p):=by
 have e:min (PyData.depthAll [.str s,.str t]) p.depth≤180:=by first | rfl | simp [PyData.depthAll,depth_str]
 simp only [inF,h,e]
 simp [eqv_r,in2]
theorem eq_ii (i j:Int):eqF (.int i) (.int j)=some (decide (i=j)):=by first | rfl | simp [eqF,eqv_int,depth_int]
noncomputable abbrev nmB (p:PV):Bool:=in2 "x" "y" p
noncomputable def markFm:PV→Bool
 | .tuple [w,q]=>in2 "a" "b" w&&nmB q
 | _=>false
noncomputable def arrowFm:PV→Bool
 | .tuple [w,q,r]=>isS "to" w&&(nmB q&&nmB r)
 | _=>false
noncomputable def flatB (p:PV):Bool:=in2 "yes" "no" p||(markFm p||arrowFm p)
noncomputable def deepB (g:PV→Bool):PV→Bool
 | .tuple [w,q]=>isS "not" w&&g q
 | .tuple [w,q,r]=>in2 "both" "either" w&&(g q&&g r)
 | _=>false
noncomputable def formB:Nat→PV→Bool
 | 0,p=>flatB p
 | d+1,p=>flatB p||deepB (formB d) p
noncomputable def tupN (n:Nat):PV→Bool
 | .tuple xs=>decide (xs.length=n)
 | _=>false
theorem tup0 {T:Tab} (h:T 0=some f0) (k:Nat) (p:PV) (n:Nat) (hp:isDict p=false):run T (k+1) 0 [p,.int n]=some (.bool (tupN n p)):=by
 rw [run_at h rfl]
 cases p with
 | tuple xs=>
  have e:((xs.length:Int)=(n:Int))↔(xs.length=n):=by lia
  simp [b0,tupN,eq_ii,e]
 | dict kvs=>cases hp
 | _=>simp [b0,tupN]
theorem len2 {xs:List PV} (h:xs.length=2):∃ a b,xs=[a,b]:=by
 match xs,h with
 | [a,b],_=>exact ⟨a,b,rfl⟩
theorem len3 {xs:List PV} (h:xs.length=3):∃ a b c,xs=[a,b,c]:=by
 match xs,h with
 | [a,b,c],_=>exact ⟨a,b,c,rfl⟩
theorem deepB_f {g:PV→Bool} {p:PV} (h2:tupN 2 p=false) (h3:tupN 3 p=false):deepB g p=false:=by
 unfold deepB
 split
 ·simp [tupN] at h2
 ·simp [tupN] at h3
 ·rfl
theorem markFm_f {p:PV} (h:tupN 2 p=false):markFm p=false:=by
 unfold markFm
 split
 ·simp [tupN] at h
 ·rfl
theorem arrowFm_f {p:PV} (h:tupN 3 p=false):arrowFm p=false:=by
 unfold arrowFm
 split
 ·simp [tupN] at h
 ·rfl
theorem mark2 {T:Tab} (h0:T 0=some f0) (h:T 2=some f2) (k:Nat) (p:PV) (hp:Pl p):run T (k+2) 2 [p]=some (.bool (markFm p)):=by
 rw [run_at h rfl]
 have t:=tup0 h0 k p 2 hp.nd
 simp only [Int.cast_ofNat_Int] at t
 cases e:tupN 2 p with
 | false=>simp [b2,t,e,markFm_f e]
 | true=>
  cases p with
  | tuple xs=>
   obtain ⟨a,b,rfl⟩:=len2 (by simpa [tupN] using e)
   have ha:=(hp.mem a (by first | rfl | simp)).nd
   have hb:=(hp.mem b (by first | rfl | simp)).nd
   rw [e] at t
   cases e1:in2 "a" "b" a <;> simp [b2,t,in_2,atI,ixN,ha,hb,markFm,e1]
  | _=>simp [tupN] at e
theorem arrow3 {T:Tab} (h0:T 0=some f0) (h:T 3=some f3) (k:Nat) (p:PV) (hp:Pl p):run T (k+2) 3 [p]=some (.bool (arrowFm p)):=by
 rw [run_at h rfl]
 have t:=tup0 h0 k p 3 hp.nd
 simp only [Int.cast_ofNat_Int] at t
 cases e:tupN 3 p with
 | false=>simp [b3,t,e,arrowFm_f e]
 | true=>
  cases p with
  | tuple xs=>
   obtain ⟨a,b,c,rfl⟩:=len3 (by simpa [tupN] using e)
   have ha:=(hp.mem a (by first | rfl | simp)).nd
   have hb:=(hp.mem b (by first | rfl | simp)).nd
   have hc:=(hp.mem c (by first | rfl | simp)).nd
   rw [e] at t
   cases e1:isS "to" a <;> cases e2:in2 "x" "y" b <;> simp [b3,t,in_2,eq_s,atI,ixN,ha,hb,hc,arrowFm,e1,e2]
  | _=>simp [tupN] at e
theorem flat4 {T:Tab} (h0:T 0=some f0) (h2:T 2=some f2) (h3:T 3=some f3) (h:T 4=some f4) (k:Nat) (p:PV) (hp:Pl p):run T (k+3) 4 [p]=some (.bool (flatB p)):=by
 rw [run_at h rfl]
 have t2:=mark2 h0 h2 k p hp
 have t3:=arrow3 h0 h3 k p hp
 unfold flatB
 cases e1:in2 "yes" "no" p <;> cases e2:markFm p <;> simp [b4,t2,t3,in_2,hp.nd,e1,e2]
theorem form5 {T:Tab} (h0:T 0=some f0) (h2:T 2=some f2) (h3:T 3=some f3) (h4:T 4=some f4) (h:T 5=some f5):∀ (d k:Nat) (p:PV),Pl p→run T (k+d+4) 5 [p,.int d]=some (.bool (formB d p)):=by
 intro d
 induction d with
 | zero=>
  intro k p hp
  rw [run_at h rfl]
  have t4:=flat4 h0 h2 h3 h4 k p hp
  unfold formB
  cases e1:flatB p <;> simp [b5,t4,e1,eq_ii]
 | succ d ih=>
  intro k p hp
  rw [show k+(d+1)+4=(k+d+4)+1 from by lia,run_at h rfl]
  have t4:=flat4 h0 h2 h3 h4 (k+d+1) p hp
  have t02:=tup0 h0 (k+d+3) p 2 hp.nd
  have t03:=tup0 h0 (k+d+3) p 3 hp.nd
  simp only [Int.cast_ofNat_Int] at t02 t03
  have hd0:¬ ((d:Int)+1=0):=by lia
  have hd1:(d:Int)+1 - 1=d:=by lia
  unfold formB
  cases e1:flatB p with
  | true=>simp [b5,t4,e1]
  | false=>
   cases e2:tupN 2 p with
   | true=>
    cases p with
    | tuple xs=>
     obtain ⟨a,b,rfl⟩:=len2 (by simpa [tupN] using e2)
     have ha:=(hp.mem a (by first | rfl | simp)).nd
     have ih':=ih k b (hp.mem b (by first | rfl | simp))
     rw [e2] at t02
     have e3:tupN 3 (.tuple [a,b])=false:=rfl
     rw [e3] at t03
     cases e4:isS "not" a <;> simp [b5,t4,e1,eq_ii,t02,t03,atI,ixN,eq_s,ha,e4,ih',hd0,hd1,deepB]
    | _=>simp [tupN] at e2
   | false=>
    cases e3:tupN 3 p with
    | true=>
     cases p with
     | tuple xs=>
      obtain ⟨a,b,c,rfl⟩:=len3 (by simpa [tupN] using e3)
      have ha:=(hp.mem a (by first | rfl | simp)).nd
      have ihb:=ih k b (hp.mem b (by first | rfl | simp))
      have ihc:=ih k c (hp.mem c (by first | rfl | simp))
      rw [e2] at t02
      rw [e3] at t03
      cases e4:in2 "both" "either" a <;> cases e5:formB d b <;> simp [b5,t4,e1,eq_ii,t02,t03,atI,ixN,in_2,ha,e4,e5,ihb,ihc,hd0,hd1,deepB]
     | _=>simp [tupN] at e3
    | false=>
     rw [e2] at t02
     rw [e3] at t03
     have e6:=deepB_f (g:=formB d) e2 e3
     simp [b5,t4,e1,eq_ii,t02,t03,hd0,e6]
theorem form6 {T:Tab} (h0:T 0=some f0) (h2:T 2=some f2) (h3:T 3=some f3) (h4:T 4=some f4) (h5:T 5=some f5) (h:T 6=some f6) (k:Nat) (p:PV) (hp:Pl p):run T (k+10) 6 [p]=some (.bool (formB 5 p)):=by
 rw [run_at h rfl]
 have t:=form5 h0 h2 h3 h4 h5 5 k p hp
 simp only [Int.cast_ofNat_Int] at t
 simp [b6,t]
theorem comp_self {cf:Nat→List PV→Option PV} {caps:List Nat} {it cond:E} {ρ:Env} {s:PV} {xs:List PV} (P:PV→Bool) (h:evE cf it ρ=some s) (hx:seqOf s=some xs) (hd:∀ x∈xs,isDict x=false)
  (hc:∀ x∈xs,evE cf cond (.val x::caps.map (ρ.getD · .un))=some (.bool (P x))):evE cf (.comp none caps it cond (.var 0)) ρ=some (.list (xs.filter P)):=by
 rw [evE,h,bnd_some,hx,bnd_some]
 have key:=comp_by (g:=fun x=>bnd (bindT none x) fun bs=>bnd (evE cf cond (bs++caps.map (ρ.getD · .un))) fun c=>bnd (truthF c) fun t=>tst t (bnd (evE cf (.var 0) (bs++caps.map (ρ.getD · .un))) eltF) (some none)) id P id xs fun x hxm=>by
  have c:=hc x hxm
  simp only [id,bindT_e1,bnd_some,List.cons_append,List.nil_append,c,truthF_e2]
  cases e:P x <;> simp [hd x hxm]
 rw [List.map_id] at key
 rw [key,bnd_some,List.map_id]
noncomputable def dmB:PV→Bool
 | .tuple [a,b,f]=>in2 "each" "some" a&&(in2 "each" "some" b&&formB 5 f)
 | _=>false
noncomputable def markB:PV→Bool
 | .tuple (a::b::_)=>isS "some" a&&isS "each" b
 | _=>false
noncomputable def rowB:PV→Bool
 | .tuple xs=>decide (xs.length≤4)&&(xs.all dmB&&decide ((xs.filter markB).length≤2))
 | _=>false
theorem dmB_f {p:PV} (h:tupN 3 p=false):dmB p=false:=by
 unfold dmB
 split
 ·simp [tupN] at h
 ·rfl
theorem eq_two (a b:PV) (ha:isDict a=false) (hb:isDict b=false) (s t:Str):eqF (.tuple [a,b]) (.tuple [.str s,.str t])=some (isS s a&&isS t b):=by
 have d:min (PyData.depth (.tuple [a,b])) (PyData.depth (.tuple [.str s,.str t]))≤180:=by rw [depth_two];lia
 unfold eqF
 rw [if_neg (by first | rfl | simp),if_pos d]
 simp [PyData.eqv,PyData.eqvAll,eqv_l]
structure ThK (T:Tab):Prop where
 h0:T 0=some f0
 h2:T 2=some f2
 h3:T 3=some f3
 h4:T 4=some f4
 h5:T 5=some f5
 h6:T 6=some f6
 h7:T 7=some f7
 h8:T 8=some f8
 h9:T 9=some f9
theorem demand7 {T:Tab} (H:ThK T) (k:Nat) (p:PV) (hp:Pl p):run T (k+11) 7 [p]=some (.bool (dmB p)):=by
 rw [run_at H.h7 rfl]
 have t:=tup0 H.h0 (k+9) p 3 hp.nd
 simp only [Int.cast_ofNat_Int] at t
 cases e:tupN 3 p with
 | false=>rw [e] at t;simp [b7,t,dmB_f e]
 | true=>
  cases p with
  | tuple xs=>
   obtain ⟨a,b,f,rfl⟩:=len3 (by simpa [tupN] using e)
   have ha:=(hp.mem a (by first | rfl | simp)).nd
   have hb:=(hp.mem b (by first | rfl | simp)).nd
   have t6:=form6 H.h0 H.h2 H.h3 H.h4 H.h5 H.h6 k f (hp.mem f (by first | rfl | simp))
   rw [e] at t
   cases e1:in2 "each" "some" a <;> cases e2:in2 "each" "some" b <;> simp [b7,t,dmB,atI,ixN,in_2,ha,hb,e1,e2,t6]
  | _=>simp [tupN] at e
theorem dmB_tup {p:PV} (h:dmB p=true):∃ a b f,p=.tuple [a,b,f]:=by
 unfold dmB at h
 split at h
 ·exact ⟨_,_,_,rfl⟩
 ·cases h
theorem count8 {T:Tab} (H:ThK T) (k:Nat) (xs:List PV) (hp:Pl (.tuple xs)) (hd:∀ x∈xs,dmB x=true):run T (k+1) 8 [.tuple xs]=some (.int (xs.filter markB).length):=by
 rw [run_at H.h8 rfl]
 have c:evE (run T k) (.comp none [] (.var 0) (.op2 .eq (.sl (.var 0) (.con .none) (.con (.int 2))) (.con (.tuple [(.str "some"),(.str "each")]))) (.var 0)) [.val (.tuple xs)]=some (.list (xs.filter markB)):=by
  refine comp_self (s:=.tuple xs) markB (by first | rfl | simp) (by first | rfl | simp) (fun x hx=>(hp.mem x hx).nd) fun x hx=>?_
  obtain ⟨a,b,f,rfl⟩:=dmB_tup (hd x hx)
  have hx':=hp.mem _ hx
  have ha:=(hx'.mem a (by first | rfl | simp)).nd
  have hb:=(hx'.mem b (by first | rfl | simp)).nd
  simp [slF,cut2,eq_two,ha,hb,markB]
 have:evS (run T k) b8 [.val (.tuple xs)]=some (.rt (.int (xs.filter markB).length)):=by
  unfold b8
  refine ret_rt ?_
  rw [evE,c];simp
 exact congrArg outV this
theorem truths_map {α:Type} (f:α→Bool) (xs:List α):truths (xs.map fun x=>PyData.bool (f x))=some (xs.map f):=by
 induction xs with
 | nil=>rfl
 | cons x xs ih=>simp [ih]
theorem all_map {α:Type} (f:α→Bool) (xs:List α):(xs.map f).all id=xs.all f:=by simp
theorem comp_map {cf:Nat→List PV→Option PV} {caps:List Nat} {it elt:E} {ρ:Env} {s:PV} {xs:List PV} (F:PV→PV) (h:evE cf it ρ=some s) (hx:seqOf s=some xs)
  (hc:∀ x∈xs,evE cf elt (.val x::caps.map (ρ.getD · .un))=some (F x)) (hd:∀ x∈xs,isDict (F x)=false):evE cf (.comp none caps it (.con (.bool true)) elt) ρ=some (.list (xs.map F)):=by
 rw [evE,h,bnd_some,hx,bnd_some]
 have key:=comp_all (g:=fun x=>bnd (bindT none x) fun bs=>bnd (evE cf (.con (.bool true)) (bs++caps.map (ρ.getD · .un))) fun c=>bnd (truthF c) fun t=>tst t (bnd (evE cf elt (bs++caps.map (ρ.getD · .un))) eltF) (some none)) id F xs fun x hxm=>by
  have c:=hc x hxm
  simp only [id,bindT_e1,bnd_some,List.cons_append,List.nil_append,evE,c,truthF_e2,tst_true,eltF_e1,hd x hxm,tst_false]
 rw [List.map_id] at key
 rw [key,bnd_some]
theorem allof {cf:Nat→List PV→Option PV} {caps:List Nat} {it elt:E} {ρ:Env} {s:PV} {xs:List PV} (F:PV→Bool) (h:evE cf it ρ=some s) (hx:seqOf s=some xs)
  (hc:∀ x∈xs,evE cf elt (.val x::caps.map (ρ.getD · .un))=some (.bool (F x))):evE cf (.op1 .all (.comp none caps it (.con (.bool true)) elt)) ρ=some (.bool (xs.all F)):=by
 rw [evE,comp_map (fun x=>.bool (F x)) h hx hc fun _ _=>isDict_bool _,bnd_some]
 simp [truths_map]
theorem row9 {T:Tab} (H:ThK T) (k:Nat) (p:PV) (hp:Pl p):run T (k+12) 9 [p]=some (.bool (rowB p)):=by
 rw [run_at H.h9 rfl]
 cases e:tupB p with
 | false=>
  have:rowB p=false:=by cases p <;> first | rfl | cases e
  simp [b9,hp.nd,e,this]
 | true=>
  cases p with
  | tuple xs=>
   by_cases hl:xs.length≤4
   ·have hl':¬ ((4:Int)<(xs.length:Int)):=by lia
    have ha:evE (run T (k+11)) (.op1 .all (.comp none [] (.var 0) (.con (.bool true)) (.call 7 (.cons (.var 0) .nil)))) [.val (.tuple xs)]=some (.bool (xs.all dmB)):=
     allof (s:=.tuple xs) dmB (by first | rfl | simp) (by first | rfl | simp) fun x hx=>by first | rfl | simp [demand7 H k x (hp.mem x hx)]
    have key:evS (run T (k+11)) b9 [.val (.tuple xs)]=some (.rt (.bool (rowB (.tuple xs)))):=by
     unfold b9
     refine seq_nx (ife_f (p:=.bool false) (by first | rfl | simp [hl']) rfl rfl) ?_
     cases ea:xs.all dmB with
     | false=>
      have:rowB (.tuple xs)=false:=by first | rfl | simp [rowB,ea]
      rw [this]
      rw [ea] at ha
      exact seq_rt (ife_t (p:=.bool true) (by rw [evE,ha];simp) rfl (ret_rt (by first | rfl | simp)))
     | true=>
      rw [ea] at ha
      refine seq_nx (ife_f (p:=.bool false) (by rw [evE,ha];simp) rfl rfl) (ret_rt ?_)
      have c8:=count8 H (k+10) xs hp (by simpa using ea)
      have:rowB (.tuple xs)=decide ((xs.filter markB).length≤2):=by first | rfl | simp [rowB,ea,hl]
      rw [this]
      have c9:(((xs.filter markB).length:Int)≤2)↔(xs.filter markB).length≤2:=by lia
      simp [c8,c9]
    exact congrArg outV key
   ·have hl':((4:Int)<(xs.length:Int)):=by lia
    simp [b9,hl',rowB,hl]
  | _=>cases e
noncomputable def Fm.ws:Fm→List Str
 | .yes=>["yes"]
 | .no=>["no"]
 | .a n=>["a"++n.s]
 | .b n=>["b"++n.s]
 | .to m n=>[m.s++n.s]
 | .not f=>"not"::f.ws
 | .both f g=>"both"::(f.ws++g.ws)
 | .either f g=>"either"::(f.ws++g.ws)
noncomputable def words13:List Str:=["yes","no","ax","ay","bx","by","xx","xy","yx","yy","not","both","either"]
theorem w13_free:∀ w∈words13,32∉w.cps.toList∧59∉w.cps.toList:=by decide +kernel
theorem Fm.ws_ne:∀ f:Fm,f.ws≠[]
 | .yes=>by simp [Fm.ws]
 | .no=>by simp [Fm.ws]
 | .a _=>by simp [Fm.ws]
 | .b _=>by simp [Fm.ws]
 | .to _ _=>by simp [Fm.ws]
 | .not _=>by simp [Fm.ws]
 | .both _ _=>by simp [Fm.ws]
 | .either _ _=>by simp [Fm.ws]
theorem nm_a (n:Nm):("a":Str)++n.s∈words13:=by cases n <;> decide +kernel
theorem nm_b (n:Nm):("b":Str)++n.s∈words13:=by cases n <;> decide +kernel
theorem nm_to (m n:Nm):m.s++n.s∈words13:=by cases m <;> cases n <;> decide +kernel
theorem Fm.ws_in:∀ (f:Fm) (w:Str),w∈f.ws→w∈words13
 | .yes,w,h=>by rw [List.mem_singleton.mp h];decide +kernel
 | .no,w,h=>by rw [List.mem_singleton.mp h];decide +kernel
 | .a n,w,h=>by rw [List.mem_singleton.mp h];exact nm_a n
 | .b n,w,h=>by rw [List.mem_singleton.mp h];exact nm_b n
 | .to m n,w,h=>by rw [List.mem_singleton.mp h];exact nm_to m n
 | .not f,w,h=>by
  rcases List.mem_cons.mp h with rfl | h
  ·decide +kernel
  ·exact f.ws_in w h
 | .both f g,w,h=>by
  rcases List.mem_cons.mp h with rfl | h
  ·decide +kernel
  ·rcases List.mem_append.mp h with h | h
   ·exact f.ws_in w h
   ·exact g.ws_in w h
 | .either f g,w,h=>by
  rcases List.mem_cons.mp h with rfl | h
  ·decide +kernel
  ·rcases List.mem_append.mp h with h | h
   ·exact f.ws_in w h
   ·exact g.ws_in w h
theorem joinS_cons (sep x:Str) {r:List Str} (h:r≠[]):joinS sep (x::r)=x++sep++joinS sep r:=by
 cases r with
 | nil=>exact absurd rfl h
 | cons y r=>rfl
theorem joinS_app (sep:Str) {b:List Str} (hb:b≠[]):∀ {a:List Str},a≠[]→joinS sep (a++b)=joinS sep a++sep++joinS sep b
 | [],h=>absurd rfl h
 | [x],_=>joinS_cons sep x hb
 | x::y::r,_=>by
  show x++sep++joinS sep (y::r++b)=x++sep++joinS sep (y::r)++sep++joinS sep b
  rw [joinS_app sep hb (by simp)]
  simp only [app_assoc]
theorem Fm.txt_ws:∀ f:Fm,f.txt=joinS " " f.ws
 | .yes=>rfl
 | .no=>rfl
 | .a _=>rfl
 | .b _=>rfl
 | .to _ _=>rfl
 | .not f=>by
  show joinS " " ["not",f.txt]=_
  rw [Fm.ws,joinS_cons _ _ f.ws_ne,← f.txt_ws];rfl
 | .both f g=>by
  show joinS " " ["both",f.txt,g.txt]=_
  have e:joinS " " (Fm.ws (.both f g))="both"++" "++(f.txt++" "++g.txt):=by
   rw [Fm.ws,joinS_cons (r:=f.ws++g.ws) _ _ (by simp [f.ws_ne]),joinS_app _ g.ws_ne f.ws_ne,← f.txt_ws,← g.txt_ws]
  rw [e]
  show "both"++" "++(f.txt++" "++g.txt)=_
  rfl
 | .either f g=>by
  show joinS " " ["either",f.txt,g.txt]=_
  have e:joinS " " (Fm.ws (.either f g))="either"++" "++(f.txt++" "++g.txt):=by
   rw [Fm.ws,joinS_cons (r:=f.ws++g.ws) _ _ (by simp [f.ws_ne]),joinS_app _ g.ws_ne f.ws_ne,← f.txt_ws,← g.txt_ws]
  rw [e]
  show "either"++" "++(f.txt++" "++g.txt)=_
  rfl
theorem joinS_free {sep:Str} {c:Nat} (hs:c∉sep.cps.toList):∀ (ps:List Str),(∀ p∈ps,c∉p.cps.toList)→c∉(joinS sep ps).cps.toList
 | [],_=>by simp [joinS]
 | [x],h=>h x (by simp)
 | x::y::r,h=>by
  rw [jcps2]
  simp only [List.mem_append,not_or]
  exact ⟨h x (by simp),hs,joinS_free hs (y::r) fun p hp=>h p (List.mem_cons_of_mem _ hp)⟩
theorem leaf_read {ss:List Str} {d p:Nat} {w:Str} {r:PV} (h:ss[p]?=some w) (h2:dlook (.str w) flatTab=some r):formF ss d p=some (r,p+1):=by
 rw [formF_eq,h];simp only [h2]
theorem at_drop {ss:List Str} {p:Nat} {w:Str} {r:List Str} (h:ss.drop p=w::r):ss[p]?=some w∧ss.drop (p+1)=r:=by
 refine ⟨?_,?_⟩
 ·have:=congrArg (·[0]?) h
  simpa [List.getElem?_drop] using this
 ·rw [← List.drop_drop,h];rfl
theorem form_ws:∀ (f:Fm) (d p:Nat) (ss r:List Str),f.dep≤d→ss.drop p=f.ws++r→formF ss d p=some (f.pv,p+f.ws.length)
 | .yes,d,p,ss,r,_,h=>leaf_read (at_drop h).1 rfl
 | .no,d,p,ss,r,_,h=>leaf_read (at_drop h).1 rfl
 | .a n,d,p,ss,r,_,h=>leaf_read (at_drop h).1 (by cases n <;> rfl)
 | .b n,d,p,ss,r,_,h=>leaf_read (at_drop h).1 (by cases n <;> rfl)
 | .to m n,d,p,ss,r,_,h=>leaf_read (at_drop h).1 (by cases m <;> cases n <;> rfl)
 | .not f,d,p,ss,r,hd,h=>by
  obtain ⟨d,rfl⟩:∃ e,d=e+1:=⟨d - 1,by have:=hd;simp only [Fm.dep] at this;lia⟩
  have h1:=at_drop (w:="not") (r:=f.ws++r) h
  rw [formF_eq,h1.1]
  simp only [show dlook (.str "not") flatTab=none from rfl,show dlook (.str "not") behTab=some (.int 1) from rfl]
  have ih:=form_ws f d (p+1) ss r (by simp only [Fm.dep] at hd;lia) h1.2
  simp only [show (1:Int).toNat=1 from rfl,formsF,ih]
  simp only [Fm.pv,Fm.ws,List.length_cons]
  rw [show p+1+f.ws.length=p+(f.ws.length+1) from by lia]
 | .both f g,d,p,ss,r,hd,h=>by
  obtain ⟨d,rfl⟩:∃ e,d=e+1:=⟨d - 1,by have:=hd;simp only [Fm.dep] at this;lia⟩
  have h1:=at_drop (w:="both") (r:=f.ws++g.ws++r) h
  rw [formF_eq,h1.1]
  simp only [show dlook (.str "both") flatTab=none from rfl,show dlook (.str "both") behTab=some (.int 2) from rfl]
  have ih:=form_ws f d (p+1) ss (g.ws++r) (by simp only [Fm.dep] at hd;lia) (by rw [h1.2,List.append_assoc])
  have ih2:=form_ws g d (p+1+f.ws.length) ss r (by simp only [Fm.dep] at hd;lia) (by rw [← List.drop_drop,h1.2,List.append_assoc,List.drop_left])
  simp only [show (2:Int).toNat=2 from rfl,formsF,ih,ih2]
  simp only [Fm.pv,Fm.ws,List.length_cons,List.length_append]
  rw [show p+1+f.ws.length+g.ws.length=p+(f.ws.length+g.ws.length+1) from by lia]
 | .either f g,d,p,ss,r,hd,h=>by
  obtain ⟨d,rfl⟩:∃ e,d=e+1:=⟨d - 1,by have:=hd;simp only [Fm.dep] at this;lia⟩
  have h1:=at_drop (w:="either") (r:=f.ws++g.ws++r) h
  rw [formF_eq,h1.1]
  simp only [show dlook (.str "either") flatTab=none from rfl,show dlook (.str "either") behTab=some (.int 2) from rfl]
  have ih:=form_ws f d (p+1) ss (g.ws++r) (by simp only [Fm.dep] at hd;lia) (by rw [h1.2,List.append_assoc])
  have ih2:=form_ws g d (p+1+f.ws.length) ss r (by simp only [Fm.dep] at hd;lia) (by rw [← List.drop_drop,h1.2,List.append_assoc,List.drop_left])
  simp only [show (2:Int).toNat=2 from rfl,formsF,ih,ih2]
  simp only [Fm.pv,Fm.ws,List.length_cons,List.length_append]
  rw [show p+1+f.ws.length+g.ws.length=p+(f.ws.length+g.ws.length+1) from by lia]
noncomputable def Dm.ws (d:Dm):List Str:=d.one.s::d.other.s::d.f.ws
theorem Dm.txt_ws (d:Dm):d.txt=joinS " " d.ws:=by
 unfold Dm.txt Dm.ws
 rw [joinS_cons (r:=d.other.s::d.f.ws) _ _ (by simp),joinS_cons (r:=d.f.ws) _ _ d.f.ws_ne,← d.f.txt_ws]
 rfl
theorem qt_free (q:Qt):32∉q.s.cps.toList∧59∉q.s.cps.toList:=by cases q <;> decide +kernel
theorem Dm.split (d:Dm):Txt.split d.txt " "=d.ws:=by
 rw [d.txt_ws]
 refine split_sp _ (by simp [Dm.ws]) fun p hp=>?_
 rcases List.mem_cons.mp hp with rfl | hp
 ·exact (qt_free _).1
 rcases List.mem_cons.mp hp with rfl | hp
 ·exact (qt_free _).1
 ·exact (w13_free p (d.f.ws_in p hp)).1
theorem Dm.txt_free (d:Dm):59∉d.txt.cps.toList:=by
 rw [d.txt_ws]
 refine joinS_free (by decide +kernel) _ fun p hp=>?_
 rcases List.mem_cons.mp hp with rfl | hp
 ·exact (qt_free _).2
 rcases List.mem_cons.mp hp with rfl | hp
 ·exact (qt_free _).2
 ·exact (w13_free p (d.f.ws_in p hp)).2
theorem Dm.read (d:Dm) (h:d.f.dep≤5):demF d.txt=some d.pv:=by
 unfold demF
 rw [d.split,form_ws d.f 5 2 d.ws [] h (by simp [Dm.ws])]
 have hn:¬ (2+d.f.ws.length<d.ws.length):=by simp only [Dm.ws,List.length_cons];lia
 exact if_neg hn
theorem dems_read:∀ r:List Dm,(∀ d∈r,d.f.dep≤5)→demsF (r.map Dm.txt)=some (r.map Dm.pv)
 | [],_=>rfl
 | d::r,h=>by
  rw [List.map_cons,demsF,d.read (h d (by simp)),dems_read r fun e he=>h e (List.mem_cons_of_mem _ he)]
  rfl
theorem row_split (r:List Dm) (h:r.length≠0):Txt.split (rowTxt r) " ; "=r.map Dm.txt:=by
 unfold rowTxt
 rw [if_neg h]
 refine split_sc _ (by simpa using fun e=>h (by rw [e];rfl)) fun p hp=>?_
 obtain ⟨d,_,rfl⟩:=List.mem_map.mp hp
 exact d.txt_free
mutual
theorem eqv_self:∀ {p:PV},Pl p→PyData.eqv p p=true
 | .none,_=>by simp [PyData.eqv]
 | .bool _,_=>by simp [PyData.eqv]
 | .int _,_=>by simp [PyData.eqv]
 | .str _,_=>by simp [PyData.eqv]
 | .list ps,h=>by rw [PyData.eqv];exact eqvAll_self fun p hp=>by cases h;rename_i h;exact h p hp
 | .tuple ps,h=>by rw [PyData.eqv];exact eqvAll_self fun p hp=>by cases h;rename_i h;exact h p hp
 | .dict _,h=>nomatch h
theorem eqvAll_self:∀ {ps:List PV},(∀ p∈ps,Pl p)→PyData.eqvAll ps ps=true
 | [],_=>by simp [PyData.eqvAll]
 | p::ps,h=>by
  rw [PyData.eqvAll,eqv_self (h p (by simp)),eqvAll_self fun q hq=>h q (List.mem_cons_of_mem _ hq)];rfl
end
theorem depthAll_le {n:Nat}:∀ {ps:List PV},(∀ p∈ps,p.depth≤n)→PyData.depthAll ps≤n
 | [],_=>by simp [PyData.depthAll]
 | p::ps,h=>by
  have h1:=h p (by simp)
  have h2:=depthAll_le (ps:=ps) fun q hq=>h q (List.mem_cons_of_mem _ hq)
  rw [PyData.depthAll]
  lia
theorem depth_tup {n:Nat} {ps:List PV} (h:∀ p∈ps,p.depth≤n):(PyData.tuple ps).depth≤n+1:=by
 have:=depthAll_le h
 rw [PyData.depth]
 lia
theorem eq_self {p:PV} (h:Pl p) (hd:p.depth≤180):eqF p p=some true:=by
 unfold eqF
 rw [h.nd,if_neg (by simp),if_pos (by lia),eqv_self h]
structure FmOk (d:Nat) (f:PV):Prop where
 pl:Pl f
 b:formB d f=true
 dp:f.depth≤d+1
theorem Pl.strs:∀ {ps:List PV},(ps.all fun p=>match p with | .str _=>true | _=>false)=true→Pl (.tuple ps):=by
 intro ps h
 refine .tuple fun p hp=>?_
 have:=List.all_eq_true.mp h p hp
 cases p with
 | str x=>exact .str x
 | _=>cases this
theorem flat_all:∀ kv∈flatTab,FmOk 0 kv.2:=by
 intro kv h
 simp only [flatTab,List.mem_cons,List.not_mem_nil,or_false] at h
 rcases h with rfl | rfl | rfl | rfl | rfl | rfl | rfl | rfl | rfl | rfl
 ·exact ⟨.str _,rfl,by simp [PyData.depth]⟩
 ·exact ⟨.str _,rfl,by simp [PyData.depth]⟩
 all_goals exact ⟨Pl.strs rfl,rfl,by simp [PyData.depth,PyData.depthAll]⟩
theorem formB_up {d:Nat} {f:PV} (h:formB 0 f=true):formB d f=true:=by
 cases d with
 | zero=>exact h
 | succ d=>show (flatB f||_)=true;rw [show flatB f=true from h];rfl
theorem flat_ok {w:Str} {f:PV} (d:Nat) (h:dlook (.str w) flatTab=some f):FmOk d f:=by
 obtain ⟨k,hm⟩:=dlook_mem h
 have:=flat_all _ hm
 exact ⟨this.pl,formB_up this.b,by have:=this.dp;lia⟩
theorem beh_words {w:Str} {n:Int} (h:dlook (.str w) behTab=some (.int n)):(w="not"∧n=1)∨((w="both"∨w="either")∧n=2):=by
 unfold behTab at h
 simp only [dlook] at h
 by_cases h1:keyEq (.str "not") (.str w)=true
 ·rw [if_pos h1] at h;cases h;exact .inl ⟨(eq_of_beq h1).symm,rfl⟩
 rw [if_neg h1] at h
 by_cases h2:keyEq (.str "both") (.str w)=true
 ·rw [if_pos h2] at h;cases h;exact .inr ⟨.inl (eq_of_beq h2).symm,rfl⟩
 rw [if_neg h2] at h
 by_cases h3:keyEq (.str "either") (.str w)=true
 ·rw [if_pos h3] at h;cases h;exact .inr ⟨.inr (eq_of_beq h3).symm,rfl⟩
 rw [if_neg h3] at h
 cases h
theorem form_ok {ss:List Str}:∀ (d p:Nat) {f:PV} {r:Nat},formF ss d p=some (f,r)→FmOk d f∧r≤ss.length:=by
 intro d
 induction d with
 | zero=>
  intro p f r h
  rw [formF_eq] at h
  cases hw:ss[p]? with
  | none=>rw [hw] at h;cases h
  | some w=>
   rw [hw] at h
   have hl:=(List.getElem?_eq_some_iff.mp hw).1
   cases hf:dlook (.str w) flatTab with
   | none=>simp only [hf] at h;cases h
   | some x=>simp only [hf] at h;cases h;exact ⟨flat_ok _ hf,hl⟩
 | succ d ih=>
  intro p f r h
  rw [formF_eq] at h
  cases hw:ss[p]? with
  | none=>rw [hw] at h;cases h
  | some w=>
   rw [hw] at h
   have hl:=(List.getElem?_eq_some_iff.mp hw).1
   cases hf:dlook (.str w) flatTab with
   | some x=>simp only [hf] at h;cases h;exact ⟨flat_ok _ hf,hl⟩
   | none=>
    simp only [hf] at h
    rcases beh_cases w with hb | ⟨n,hb,_,_⟩
    ·simp only [hb] at h;cases h
    ·simp only [hb] at h
     rcases beh_words hb with ⟨rfl,hn⟩ | ⟨hw2,hn⟩
     ·have hn':(n:Int).toNat=1:=by lia
      rw [hn'] at h
      simp only [formsF] at h
      cases h1:formF ss d (p+1) with
      | none=>rw [h1] at h;cases h
      | some y=>
       obtain ⟨x,q⟩:=y
       rw [h1] at h
       cases h
       obtain ⟨a1,a2⟩:=ih _ h1
       refine ⟨⟨.tuple fun z hz=>?_,?_,depth_tup fun z hz=>?_⟩,a2⟩
       ·simp only [List.mem_cons,List.not_mem_nil,or_false] at hz
        rcases hz with rfl | rfl
        ·exact .str _
        ·exact a1.pl
       ·show (flatB _||deepB (formB d) (.tuple [.str "not",x]))=true
        have:deepB (formB d) (.tuple [.str "not",x])=true:=by simp [deepB,a1.b]
        rw [this];simp
       ·simp only [List.mem_cons,List.not_mem_nil,or_false] at hz
        rcases hz with rfl | rfl
        ·rw [depth_str];lia
        ·exact a1.dp
     ·have hn':(n:Int).toNat=2:=by lia
      rw [hn'] at h
      simp only [formsF] at h
      cases h1:formF ss d (p+1) with
      | none=>rw [h1] at h;cases h
      | some y=>
       obtain ⟨x,q⟩:=y
       rw [h1] at h
       dsimp only at h
       cases h2:formF ss d q with
       | none=>rw [h2] at h;cases h
       | some y2=>
        obtain ⟨x2,q2⟩:=y2
        rw [h2] at h
        cases h
        obtain ⟨a1,a2⟩:=ih _ h1
        obtain ⟨b1,b2⟩:=ih _ h2
        refine ⟨⟨.tuple fun z hz=>?_,?_,depth_tup fun z hz=>?_⟩,b2⟩
        ·simp only [List.mem_cons,List.not_mem_nil,or_false] at hz
         rcases hz with rfl | rfl | rfl
         ·exact .str _
         ·exact a1.pl
         ·exact b1.pl
        ·show (flatB _||deepB (formB d) (.tuple [.str w,x,x2]))=true
         have:deepB (formB d) (.tuple [.str w,x,x2])=true:=by
          rcases hw2 with rfl | rfl <;> simp [deepB,in2,a1.b,b1.b]
         rw [this];simp
        ·simp only [List.mem_cons,List.not_mem_nil,or_false] at hz
         rcases hz with rfl | rfl | rfl
         ·rw [depth_str];lia
         ·exact a1.dp
         ·exact b1.dp
theorem dem_ok {x:Str} {d:PV} (h:demF x=some d):∃ a b c r f,Txt.split x " "=a::b::c::r∧formF (a::b::c::r) 5 2=some (f,(a::b::c::r).length)∧d=.tuple [.str a,.str b,f]∧FmOk 5 f:=by
 unfold demF at h
 generalize Txt.split x " "=ws at h
 cases hf:formF ws 5 2 with
 | none=>rw [hf] at h;cases h
 | some y=>
  obtain ⟨f,p⟩:=y
  rw [hf] at h
  dsimp only at h
  have hlen:=formF_len hf
  obtain ⟨ok,hle⟩:=form_ok _ _ hf
  by_cases hp:p<ws.length
  ·rw [if_pos hp] at h;cases h
  ·rw [if_neg hp] at h
   cases h
   match ws,hlen with
   | a::b::c::r,_=>
    refine ⟨a,b,c,r,f,rfl,?_,rfl,ok⟩
    rw [hf,show p=(a::b::c::r).length from by lia]
theorem dem_pl {x:Str} {d:PV} (h:demF x=some d):Pl d∧d.depth≤7:=by
 obtain ⟨a,b,c,r,f,_,_,rfl,ok⟩:=dem_ok h
 refine ⟨.tuple fun z hz=>?_,depth_tup fun z hz=>?_⟩
 ·simp only [List.mem_cons,List.not_mem_nil,or_false] at hz
  rcases hz with rfl | rfl | rfl
  ·exact .str _
  ·exact .str _
  ·exact ok.pl
 ·simp only [List.mem_cons,List.not_mem_nil,or_false] at hz
  rcases hz with rfl | rfl | rfl
  ·rw [depth_str];lia
  ·rw [depth_str];lia
  ·exact ok.dp
theorem dems_pl:∀ {ss:List Str} {ds:List PV},demsF ss=some ds→∀ d∈ds,Pl d∧d.depth≤7
 | [],ds,h,d,hd=>by cases h;cases hd
 | x::r,ds,h,d,hd=>by
  rw [demsF] at h
  cases h1:demF x with
  | none=>rw [h1] at h;cases h
  | some e=>
   rw [h1] at h
   dsimp only at h
   cases h2:demsF r with
   | none=>rw [h2] at h;cases h
   | some es=>
    rw [h2] at h
    cases h
    rcases List.mem_cons.mp hd with rfl | hd
    ·exact dem_pl h1
    ·exact dems_pl h2 d hd
noncomputable def readB (x:Str):Option (List PV):=if x=="-" then some [] else match demsF (Txt.split x " ; ") with
 | none=>none
 | some ds=>if rowB (.tuple ds) then some ds else none
noncomputable def ans:Option (List PV)→PV
 | some ds=>.tuple ds
 | none=>.none
theorem read_pl {x:Str} {ds:List PV} (h:readB x=some ds):Pl (.tuple ds)∧(PyData.tuple ds).depth≤8∧rowB (.tuple ds)=true:=by
 unfold readB at h
 split at h
 ·cases h
  exact ⟨.tuple (fun _ h=>by cases h),by simp [PyData.depth,PyData.depthAll],rfl⟩
 ·split at h
  ·cases h
  ·rename_i es he
   split at h
   ·rename_i hr
    cases h
    have:=dems_pl he
    exact ⟨.tuple fun d hd=>(this d hd).1,depth_tup fun d hd=>(this d hd).2,hr⟩
   ·cases h
theorem ans_pl (x:Str):Pl (ans (readB x))∧(ans (readB x)).depth≤180:=by
 cases h:readB x with
 | none=>exact ⟨.none,by simp [ans,PyData.depth]⟩
 | some ds=>
  obtain ⟨a,b,_⟩:=read_pl h
  exact ⟨a,by show (PyData.tuple ds).depth≤180;lia⟩
theorem told74 {T:Tab} (H:ThK T) (h:T 74=some f74) (k:Nat) {x:Str} (hx:x.length≤1000000):run T (k+13) 74 [.str x]=some (ans (readB x)):=by
 rw [run_at h rfl]
 have key:toldS (run T (k+12)) x=some (ans (readB x)):=by
  unfold toldS readB
  rw [decide_eq_true hx,tst_true]
  cases hd:x=="-" with
  | true=>rfl
  | false=>
   rw [tst_false]
   simp only [Bool.false_eq_true,if_false]
   cases hs:demsF (Txt.split x " ; ") with
   | none=>rfl
   | some ds=>
    show bnd (run T (k+12) 9 [.tuple ds]) (rowA ds)=_
    rw [row9 H k (.tuple ds) (.tuple fun d hd=>(dems_pl hs d hd).1),bnd_some]
    dsimp only
    cases rowB (.tuple ds) <;> rfl
 show outV (bnd (toldS (run T (k+12)) x) fun p=>some (.rt p))=_
 rw [key];rfl
theorem depthAll_strs:∀ l:List Str,PyData.depthAll (l.map .str)=0
 | []=>by simp [PyData.depthAll]
 | s::l=>by rw [List.map_cons,PyData.depthAll,depthAll_strs l,depth_str];rfl
theorem in_strs (w:Str) (l:List Str):inF (.str w) (.tuple (l.map .str))=some (decide (w∈l)):=by
 show (if isDict (PyData.str w) then none else if min (PyData.depthAll (l.map .str)) (PyData.str w).depth≤180 then some ((l.map PyData.str).any fun y=>PyData.eqv y (.str w)) else none)=_
 rw [depthAll_strs,if_neg (by simp),if_pos (by lia),List.any_map]
 congr 1
 induction l with
 | nil=>rfl
 | cons a l ih=>
  rw [List.any_cons,ih]
  simp only [Function.comp,eqv_str,List.mem_cons]
  by_cases h:a=w
  ·subst h;simp
  ·rw [beq_eq_false_iff_ne.mpr h]
   have:¬ w=a:=fun e=>h e.symm
   simp [this]
theorem dlook_no {w:Str}:∀ {kvs:List (PV×PV)},(∀ kv∈kvs,keyEq kv.1 (.str w)=false)→dlook (.str w) kvs=none
 | [],_=>rfl
 | (k,v)::r,h=>by
  rw [dlook,if_neg (by rw [h (k,v) (by simp)];simp)]
  exact dlook_no fun kv hkv=>h kv (List.mem_cons_of_mem _ hkv)
noncomputable def flat1:List Str:=["yes","no"]
noncomputable def flat2:List Str:=["xx","xy","yx","yy"]
noncomputable def flat3:List Str:=["ax","ay","bx","by"]
noncomputable def node3:List Str:=["not","both","either"]
theorem keyEq_f {a w:Str} (h:w≠a):keyEq (.str a) (.str w)=false:=beq_eq_false_iff_ne.mpr fun e=>h e.symm
theorem flat_no {w:Str} (h1:w∉flat1) (h2:w∉flat2) (h3:w∉flat3):dlook (.str w) flatTab=none:=by
 simp only [flat1,flat2,flat3,List.mem_cons,List.not_mem_nil,or_false,not_or] at h1 h2 h3
 refine dlook_no fun kv hkv=>?_
 simp only [flatTab,List.mem_cons,List.not_mem_nil,or_false] at hkv
 rcases hkv with rfl | rfl | rfl | rfl | rfl | rfl | rfl | rfl | rfl | rfl
 ·exact keyEq_f h1.1
 ·exact keyEq_f h1.2
 ·exact keyEq_f h3.1
 ·exact keyEq_f h3.2.1
 ·exact keyEq_f h3.2.2.1
 ·exact keyEq_f h3.2.2.2
 ·exact keyEq_f h2.1
 ·exact keyEq_f h2.2.1
 ·exact keyEq_f h2.2.2.1
 ·exact keyEq_f h2.2.2.2
theorem beh_no {w:Str} (h:w∉node3):dlook (.str w) behTab=none:=by
 simp only [node3,List.mem_cons,List.not_mem_nil,or_false,not_or] at h
 refine dlook_no fun kv hkv=>?_
 simp only [behTab,List.mem_cons,List.not_mem_nil,or_false] at hkv
 rcases hkv with rfl | rfl | rfl
 ·exact keyEq_f h.1
 ·exact keyEq_f h.2.1
 ·exact keyEq_f h.2.2
noncomputable def lowF (ss:List Str):Nat→Nat→Option (PV×Nat)
 | 0=>fun _=>none
 | d+1=>formF ss d
noncomputable def nodeR (w:Str):Option (List PV×Nat)→Option (PV×Nat)
 | none=>none
 | some (xs,r)=>some (.tuple (.str w::xs),r)
noncomputable def nodeN (w:Str):Nat:=if w="not" then 1 else 2
theorem node_form {ss:List Str} {w:Str} (d:Nat) {p:Nat} (hw:ss[p]?=some w) (h:w∈node3):formF ss d p=nodeR w (formsF (lowF ss d) (nodeN w) (p+1)):=by
 have hf:dlook (.str w) flatTab=none:=by
  refine flat_no ?_ ?_ ?_ <;> (simp only [node3,List.mem_cons,List.not_mem_nil,or_false] at h;rcases h with rfl | rfl | rfl <;> decide +kernel)
 have hb:dlook (.str w) behTab=some (.int (nodeN w)):=by
  simp only [node3,List.mem_cons,List.not_mem_nil,or_false] at h
  rcases h with rfl | rfl | rfl <;> rfl
 have hn:∃ m,nodeN w=m+1:=by unfold nodeN;split;exact ⟨0,rfl⟩;exact ⟨1,rfl⟩
 rw [formF_eq,hw]
 simp only [hf]
 cases d with
 | zero=>
  obtain ⟨m,hm⟩:=hn
  rw [hm];rfl
 | succ d=>
  simp only [hb,Int.toNat_natCast]
  show _=nodeR w (formsF (formF ss d) (nodeN w) (p+1))
  cases formsF (formF ss d) (nodeN w) (p+1) <;> rfl
section
variable {cf:Nat→List PV→Option PV}
noncomputable def ρ72 (ss:List Str) (q:Nat) (d:Int) (w:Str) (xs:List PV) (s5 s6:Sl):Env:=[.val (.list (ss.map .str)),.val (.int q),.val (.int d),.val (.str w),.val (.tuple (.str w::xs)),s5,s6]
structure In72 (cf:Nat→List PV→Option PV) (ss:List Str) (d:Int) (g:Nat→Option (PV×Nat)):Prop where
 yes:∀ q x r,g q=some (x,r)→cf 72 [.list (ss.map .str),.int (q:Nat),.int d]=some (.tuple [x,.int (r:Nat)])
 no:∀ q,g q=none→∃ r:Nat,cf 72 [.list (ss.map .str),.int (q:Nat),.int d]=some (.tuple [.none,.int (r:Nat)])
 nn:∀ q x r,g q=some (x,r)→nonB x=false∧isDict x=false
theorem call72 {ss:List Str} {q:Nat} {d:Int} {w:Str} {xs:List PV} {s5 s6:Sl} {x:PV} {r:Nat} (h:cf 72 [.list (ss.map .str),.int (q:Nat),.int (d - 1)]=some (.tuple [x,.int (r:Nat)])):
  evS cf (.asg (.many [6,1]) (.call 72 (.cons (.var 0) (.cons (.var 1) (.cons (.op2 .sub (.var 2) (.con (.int 1))) .nil))))) (ρ72 ss q d w xs s5 s6)=some (.nx (ρ72 ss r d w xs s5 (.val x))):=by
 have e:evE cf (.call 72 (.cons (.var 0) (.cons (.var 1) (.cons (.op2 .sub (.var 2) (.con (.int 1))) .nil)))) (ρ72 ss q d w xs s5 s6)=some (.tuple [x,.int (r:Nat)]):=by
  simp [ρ72,h]
 rw [evS,e]
 rfl
theorem turn72 {ss:List Str} {g:Nat→Option (PV×Nat)} {d:Int} (I:In72 cf ss (d - 1) g) {q:Nat} {w:Str} {xs:List PV} (hx:xs.length≤10) {s5 s6:Sl}:
  (g q=none→∃ r:Nat,evS cf b72l0 (ρ72 ss q d w xs s5 s6)=some (.rt (.tuple [.none,.int (r:Nat)])))∧(∀ x r,g q=some (x,r)→evS cf b72l0 (ρ72 ss q d w xs s5 s6)=some (.nx (ρ72 ss r d w (xs++[x]) s5 (.val x)))):=by
 refine ⟨fun h=>?_,fun x r h=>?_⟩
 ·obtain ⟨r,e⟩:=I.no q h
  refine ⟨r,?_⟩
  unfold b72l0
  refine seq_nx (call72 e) (seq_rt (ife_t (p:=.bool true) rfl rfl (ret_rt ?_)))
  simp [ρ72]
 ·have e:=I.yes q x r h
  obtain ⟨n1,n2⟩:=I.nn q x r h
  unfold b72l0
  refine seq_nx (call72 e) (seq_nx (ife_f (p:=.bool false) ?_ rfl rfl) (set_nx (p:=.tuple (.str w::(xs++[x]))) ?_))
  ·simp [ρ72,n1]
  ·simp [ρ72,n2]
   lia
theorem loop72 {ss:List Str} {g:Nat→Option (PV×Nat)} {d:Int} (I:In72 cf ss (d - 1) g) {w:Str}:∀ (ys:List PV) (q:Nat) (xs:List PV) (s5 s6:Sl),xs.length+ys.length≤10→
  (formsF g ys.length q=none→∃ r:Nat,loopF (.one 5) (evS cf b72l0) ys (ρ72 ss q d w xs s5 s6)=some (.rt (.tuple [.none,.int (r:Nat)])))∧
  (∀ zs r,formsF g ys.length q=some (zs,r)→∃ t5 t6,loopF (.one 5) (evS cf b72l0) ys (ρ72 ss q d w xs s5 s6)=some (.nx (ρ72 ss r d w (xs++zs) t5 t6)))
 | [],q,xs,s5,s6,_=>by
  refine ⟨(fun h=>nomatch (show some ([],q)=none from h)),fun zs r h=>?_⟩
  cases (show some ([],q)=some (zs,r) from h)
  exact ⟨s5,s6,by rw [List.append_nil];rfl⟩
 | y::ys,q,xs,s5,s6,hl=>by
  have hl':xs.length+ys.length+1≤10:=by simp only [List.length_cons] at hl;lia
  have tn:=turn72 (s5:=.val y) (s6:=s6) (q:=q) (w:=w) (xs:=xs) I (by lia)
  have step:loopF (.one 5) (evS cf b72l0) (y::ys) (ρ72 ss q d w xs s5 s6)=turnO (evS cf b72l0 (ρ72 ss q d w xs (.val y) s6)) fun ρ2=>loopF (.one 5) (evS cf b72l0) ys ρ2:=rfl
  rw [step]
  cases hg:g q with
  | none=>
   obtain ⟨r,e⟩:=tn.1 hg
   rw [e]
   refine ⟨fun _=>⟨r,rfl⟩,fun zs r' h=>?_⟩
   simp only [List.length_cons,formsF,hg] at h
   cases h
  | some z=>
   obtain ⟨x,t⟩:=z
   rw [tn.2 x t hg]
   have ih:=loop72 I (w:=w) ys t (xs++[x]) (.val y) (.val x) (by simp;lia)
   show (_→∃ r:Nat,loopF (.one 5) (evS cf b72l0) ys (ρ72 ss t d w (xs++[x]) (.val y) (.val x))=_)∧∀ zs r,_→∃ t5 t6,loopF (.one 5) (evS cf b72l0) ys (ρ72 ss t d w (xs++[x]) (.val y) (.val x))=_
   refine ⟨fun h=>?_,fun zs r h=>?_⟩
   ·simp only [List.length_cons,formsF,hg] at h
    refine ih.1 ?_
    split at h
    ·assumption
    ·cases h
   ·simp only [List.length_cons,formsF,hg] at h
    split at h
    ·cases h
    ·rename_i us r' hu
     cases h
     obtain ⟨t5,t6,e⟩:=ih.2 us r hu
     refine ⟨t5,t6,?_⟩
     rw [List.append_assoc] at e
     exact e
end
theorem in_f1 (w:Str):inF (.str w) (.tuple [.str "yes",.str "no"])=some (decide (w∈flat1)):=in_strs w flat1
theorem in_f2 (w:Str):inF (.str w) (.tuple [.str "xx",.str "xy",.str "yx",.str "yy"])=some (decide (w∈flat2)):=in_strs w flat2
theorem in_f3 (w:Str):inF (.str w) (.tuple [.str "ax",.str "ay",.str "bx",.str "by"])=some (decide (w∈flat3)):=in_strs w flat3
theorem in_n3 (w:Str):inF (.str w) (.tuple [.str "not",.str "both",.str "either"])=some (decide (w∈node3)):=in_strs w node3
theorem lt0 (d:Nat):decide ((d:Int)<0)=false:=decide_eq_false (by lia)
section
variable {cf:Nat→List PV→Option PV}
noncomputable def ρ73 (ss:List Str) (p d:Nat) (w:Str):Env:=[.val (.list (ss.map .str)),.val (.int p),.val (.int d),.val (.str w),.un,.un,.un]
theorem cF1 (ss:List Str) (p d:Nat) (w:Str):evE cf (.op2 .inn (.var 3) (.tup (.cons (.con (.str "yes")) (.cons (.con (.str "no")) .nil)))) (ρ73 ss p d w)=some (.bool (decide (w∈flat1))):=by
 simp [ρ73,in_f1]
theorem cF2 (ss:List Str) (p d:Nat) (w:Str):evE cf (.op2 .inn (.var 3) (.tup (.cons (.con (.str "xx")) (.cons (.con (.str "xy")) (.cons (.con (.str "yx")) (.cons (.con (.str "yy")) .nil)))))) (ρ73 ss p d w)=some (.bool (decide (w∈flat2))):=by
 simp [ρ73,in_f2]
theorem cF3 (ss:List Str) (p d:Nat) (w:Str):evE cf (.op2 .inn (.var 3) (.tup (.cons (.con (.str "ax")) (.cons (.con (.str "ay")) (.cons (.con (.str "bx")) (.cons (.con (.str "by")) .nil)))))) (ρ73 ss p d w)=some (.bool (decide (w∈flat3))):=by
 simp [ρ73,in_f3]
theorem cN3 (ss:List Str) (p d:Nat) (w:Str):evE cf (.op2 .nin (.var 3) (.tup (.cons (.con (.str "not")) (.cons (.con (.str "both")) (.cons (.con (.str "either")) .nil))))) (ρ73 ss p d w)=some (.bool (!decide (w∈node3))):=by
 simp [ρ73,in_n3]
theorem rF1 (ss:List Str) (p d:Nat) (w:Str):evE cf (.tup (.cons (.var 3) (.cons (.op2 .add (.var 1) (.con (.int 1))) .nil))) (ρ73 ss p d w)=some (.tuple [.str w,.int ((p+1:Nat):Int)]):=by
 simp [ρ73]
theorem two_of {w:Str} {a b:PV} (h0:ixF (.str w) (.int 0)=some a) (h1:ixF (.str w) (.int 1)=some b) (ha:isDict a=false) (hb:isDict b=false) (ss:List Str) (p d:Nat):
  evE cf (.tup (.cons (.tup (.cons (.con (.str "to")) (.cons (.op2 .ix (.var 3) (.con (.int 0))) (.cons (.op2 .ix (.var 3) (.con (.int 1))) .nil)))) (.cons (.op2 .add (.var 1) (.con (.int 1))) .nil))) (ρ73 ss p d w)=some (.tuple [.tuple [.str "to",a,b],.int ((p+1:Nat):Int)])∧
  evE cf (.tup (.cons (.tup (.cons (.op2 .ix (.var 3) (.con (.int 0))) (.cons (.op2 .ix (.var 3) (.con (.int 1))) .nil))) (.cons (.op2 .add (.var 1) (.con (.int 1))) .nil))) (ρ73 ss p d w)=some (.tuple [.tuple [a,b],.int ((p+1:Nat):Int)]):=by
 have e0:evE cf (.op2 .ix (.var 3) (.con (.int 0))) (ρ73 ss p d w)=some a:=h0
 have e1:evE cf (.op2 .ix (.var 3) (.con (.int 1))) (ρ73 ss p d w)=some b:=h1
 have e2:evE cf (.op2 .add (.var 1) (.con (.int 1))) (ρ73 ss p d w)=some (.int ((p+1:Nat):Int)):=rfl
 exact ⟨tupR2 (tupR3 rfl e0 e1 rfl ha hb) e2 rfl rfl,tupR2 (tupR2 e0 e1 ha hb) e2 rfl rfl⟩
theorem flat_case {w:Str} (h:w∈flat1∨w∈flat2∨w∈flat3):∃ f,dlook (.str w) flatTab=some f∧((w∈flat1∧f=.str w)∨(w∉flat1∧w∈flat2∧∃ a b,ixF (.str w) (.int 0)=some a∧ixF (.str w) (.int 1)=some b∧isDict a=false∧isDict b=false∧f=.tuple [.str "to",a,b])∨
  (w∉flat1∧w∉flat2∧w∈flat3∧∃ a b,ixF (.str w) (.int 0)=some a∧ixF (.str w) (.int 1)=some b∧isDict a=false∧isDict b=false∧f=.tuple [a,b])):=by
 rcases h with h | h | h
 ·simp only [flat1,List.mem_cons,List.not_mem_nil,or_false] at h
  rcases h with rfl | rfl <;> exact ⟨_,rfl,.inl ⟨by decide +kernel,rfl⟩⟩
 ·simp only [flat2,List.mem_cons,List.not_mem_nil,or_false] at h
  rcases h with rfl | rfl | rfl | rfl <;> exact ⟨_,rfl,.inr (.inl ⟨by decide +kernel,by decide +kernel,_,_,rfl,rfl,rfl,rfl,rfl⟩)⟩
 ·simp only [flat3,List.mem_cons,List.not_mem_nil,or_false] at h
  rcases h with rfl | rfl | rfl | rfl <;> exact ⟨_,rfl,.inr (.inr ⟨by decide +kernel,by decide +kernel,by decide +kernel,_,_,rfl,rfl,rfl,rfl,rfl⟩)⟩
theorem b72_run {ss:List Str} {d p:Nat} (I:In72 cf ss ((d:Int) - 1) (lowF ss d)):
  (formF ss d p=none→∃ r:Nat,evS cf b72 [.val (.list (ss.map .str)),.val (.int p),.val (.int d),.un,.un,.un,.un]=some (.rt (.tuple [.none,.int (r:Nat)])))∧
  (∀ f r,formF ss d p=some (f,r)→evS cf b72 [.val (.list (ss.map .str)),.val (.int p),.val (.int d),.un,.un,.un,.un]=some (.rt (.tuple [f,.int (r:Nat)]))):=by
 have c1:evE cf (.or (.op2 .ge (.var 1) (.op1 .len (.var 0))) (.op2 .lt (.var 2) (.con (.int 0)))) [.val (.list (ss.map .str)),.val (.int p),.val (.int d),.un,.un,.un,.un]=some (.bool (decide (ss.length≤p))):=by
  have e1:evE cf (.op2 .ge (.var 1) (.op1 .len (.var 0))) [.val (.list (ss.map .str)),.val (.int p),.val (.int d),.un,.un,.un,.un]=some (.bool (decide (ss.length≤p))):=by simp [cmpI]
  have e2:evE cf (.op2 .lt (.var 2) (.con (.int 0))) [.val (.list (ss.map .str)),.val (.int p),.val (.int d),.un,.un,.un,.un]=some (.bool false):=by
   rw [← lt0 d];rfl
  rw [evE,e1,e2]
  cases decide (ss.length≤p) <;> rfl
 unfold b72
 cases hw:ss[p]? with
 | none=>
  have hl:ss.length≤p:=List.getElem?_eq_none_iff.mp hw
  have hf:formF ss d p=none:=by rw [formF_eq,hw]
  rw [decide_eq_true hl] at c1
  refine ⟨fun _=>⟨p,seq_rt (ife_t c1 rfl (ret_rt (by simp)))⟩,fun f r h=>?_⟩
  rw [hf] at h;cases h
 | some w=>
  have hl:p<ss.length:=(List.getElem?_eq_some_iff.mp hw).1
  have hw2:ss[p]=w:=(List.getElem?_eq_some_iff.mp hw).2
  rw [decide_eq_false (by lia:¬ ss.length≤p)] at c1
  have s3:evS cf (.set 3 (.op2 .ix (.var 0) (.var 1))) [.val (.list (ss.map .str)),.val (.int p),.val (.int d),.un,.un,.un,.un]=some (.nx (ρ73 ss p d w)):=by
   simp [atI,ixN,hl,hw2,ρ73]
  by_cases hfl:w∈flat1∨w∈flat2∨w∈flat3
  ·obtain ⟨f,hf,hc⟩:=flat_case hfl
   have hF:formF ss d p=some (f,p+1):=by rw [formF_eq,hw];simp only [hf]
   refine ⟨fun h=>(by rw [hF] at h;cases h),fun f' r h=>?_⟩
   rw [hF] at h
   cases h
   refine seq_nx (ife_f c1 rfl rfl) (seq_nx s3 ?_)
   rcases hc with ⟨m1,rfl⟩ | ⟨m1,m2,a,b,i0,i1,da,db,rfl⟩ | ⟨m1,m2,m3,a,b,i0,i1,da,db,rfl⟩
   ·exact seq_rt (ife_t (by rw [cF1,decide_eq_true m1]) rfl (ret_rt (rF1 ss p d w)))
   ·exact seq_nx (ife_f (by rw [cF1,decide_eq_false m1]) rfl rfl) (seq_rt (ife_t (by rw [cF2,decide_eq_true m2]) rfl (ret_rt (two_of i0 i1 da db ss p d).1)))
   ·exact seq_nx (ife_f (by rw [cF1,decide_eq_false m1]) rfl rfl) (seq_nx (ife_f (by rw [cF2,decide_eq_false m2]) rfl rfl) (seq_rt (ife_t (by rw [cF3,decide_eq_true m3]) rfl (ret_rt (two_of i0 i1 da db ss p d).2))))
  ·have m1:w∉flat1:=fun h=>hfl (.inl h)
   have m2:w∉flat2:=fun h=>hfl (.inr (.inl h))
   have m3:w∉flat3:=fun h=>hfl (.inr (.inr h))
   have hf:=flat_no m1 m2 m3
   have pre:∀ {S:S} {o:Option Out},evS cf S (ρ73 ss p d w)=o→evS cf (.seq (.ife (.or (.op2 .ge (.var 1) (.op1 .len (.var 0))) (.op2 .lt (.var 2) (.con (.int 0)))) (.ret (.tup (.cons (.con .none) (.cons (.var 1) .nil)))) .nx) (.seq (.set 3 (.op2 .ix (.var 0) (.var 1))) (.seq (.ife (.op2 .inn (.var 3) (.tup (.cons (.con (.str "yes")) (.cons (.con (.str "no")) .nil)))) (.ret (.tup (.cons (.var 3) (.cons (.op2 .add (.var 1) (.con (.int 1))) .nil)))) .nx) (.seq (.ife (.op2 .inn (.var 3) (.tup (.cons (.con (.str "xx")) (.cons (.con (.str "xy")) (.cons (.con (.str "yx")) (.cons (.con (.str "yy")) .nil)))))) (.ret (.tup (.cons (.tup (.cons (.con (.str "to")) (.cons (.op2 .ix (.var 3) (.con (.int 0))) (.cons (.op2 .ix (.var 3) (.con (.int 1))) .nil)))) (.cons (.op2 .add (.var 1) (.con (.int 1))) .nil)))) .nx) (.seq (.ife (.op2 .inn (.var 3) (.tup (.cons (.con (.str "ax")) (.cons (.con (.str "ay")) (.cons (.con (.str "bx")) (.cons (.con (.str "by")) .nil)))))) (.ret (.tup (.cons (.tup (.cons (.op2 .ix (.var 3) (.con (.int 0))) (.cons (.op2 .ix (.var 3) (.con (.int 1))) .nil))) (.cons (.op2 .add (.var 1) (.con (.int 1))) .nil)))) .nx) S))))) [.val (.list (ss.map .str)),.val (.int p),.val (.int d),.un,.un,.un,.un]=o:=fun h=>
    seq_nx (ife_f c1 rfl rfl) (seq_nx s3 (seq_nx (ife_f (by rw [cF1,decide_eq_false m1]) rfl rfl) (seq_nx (ife_f (by rw [cF2,decide_eq_false m2]) rfl rfl) (seq_nx (ife_f (by rw [cF3,decide_eq_false m3]) rfl rfl) h))))
   by_cases hn:w∈node3
   ·rw [node_form d hw hn]
    have r0:evE cf (.rng (.op2 .add (.con (.int 1)) (.op1 .toInt (.op2 .ne (.var 3) (.con (.str "not")))))) (ρ72 ss (p+1) d w [] .un .un)=some (.list ((List.range (nodeN w)).map fun k=>.int (k:Nat))):=by
     refine rng_run ?_ (by unfold nodeN;split <;> decide)
     simp only [node3,List.mem_cons,List.not_mem_nil,or_false] at hn
     rcases hn with rfl | rfl | rfl <;> rfl
    have L:=loop72 I (w:=w) ((List.range (nodeN w)).map fun k=>.int (k:Nat)) (p+1) [] .un .un (by simp;unfold nodeN;split <;> decide)
    simp only [List.length_map,List.length_range,List.nil_append] at L
    have n6:evS cf (.ife (.op2 .nin (.var 3) (.tup (.cons (.con (.str "not")) (.cons (.con (.str "both")) (.cons (.con (.str "either")) .nil))))) (.ret (.tup (.cons (.con .none) (.cons (.var 1) .nil)))) .nx) (ρ73 ss p d w)=some (.nx (ρ73 ss p d w)):=ife_f (p:=.bool false) (by rw [cN3,decide_eq_true hn,Bool.not_true]) rfl rfl
    have s4:evS cf (.set 4 (.tup (.cons (.var 3) .nil))) (ρ73 ss p d w)=some (.nx [.val (.list (ss.map .str)),.val (.int p),.val (.int d),.val (.str w),.val (.tuple [.str w]),.un,.un]):=by simp [ρ73]
    have s5:evS cf (.set 1 (.op2 .add (.var 1) (.con (.int 1)))) [.val (.list (ss.map .str)),.val (.int p),.val (.int d),.val (.str w),.val (.tuple [.str w]),.un,.un]=some (.nx (ρ72 ss (p+1) d w [] .un .un)):=by simp [ρ72]
    cases hz:formsF (lowF ss d) (nodeN w) (p+1) with
    | none=>
     obtain ⟨r,e⟩:=L.1 hz
     refine ⟨fun _=>⟨r,pre (seq_nx n6 (seq_nx s4 (seq_nx s5 (seq_rt (loop_run r0 rfl e)))))⟩,fun f r h=>nomatch (show none=some (f,r) from h)⟩
    | some y=>
     obtain ⟨zs,r⟩:=y
     obtain ⟨t5,t6,e⟩:=L.2 zs r hz
     refine ⟨(fun h=>nomatch (show some (PyData.tuple (.str w::zs),r)=none from h)),fun f r' h=>?_⟩
     cases (show some (PyData.tuple (.str w::zs),r)=some (f,r') from h)
     refine pre (seq_nx n6 (seq_nx s4 (seq_nx s5 (seq_nx (loop_run r0 rfl e) (ret_rt ?_)))))
     simp [ρ72]
   ·have hF:formF ss d p=none:=by
     rw [formF_eq,hw]
     simp only [hf,beh_no hn]
     cases d <;> rfl
    refine ⟨fun _=>⟨p,pre (seq_rt (ife_t (p:=.bool true) (by rw [cN3,decide_eq_false hn,Bool.not_false]) rfl (ret_rt (by simp [ρ73]))))⟩,fun f r h=>?_⟩
    rw [hF] at h;cases h
end
theorem in72m {T:Tab} (h:T 72=some f72) (ss:List Str) (k:Nat):In72 (run T (k+1)) ss (-1) (fun _=>none):=by
 refine ⟨(fun q x r e=>nomatch (show none=some (x,r) from e)),fun q _=>⟨q,?_⟩,(fun q x r e=>nomatch (show none=some (x,r) from e))⟩
 rw [run_at h rfl]
 have c1:evE (run T k) (.or (.op2 .ge (.var 1) (.op1 .len (.var 0))) (.op2 .lt (.var 2) (.con (.int 0)))) [.val (.list (ss.map .str)),.val (.int q),.val (.int (-1)),.un,.un,.un,.un]=some (.bool true):=by
  have e1:evE (run T k) (.op2 .ge (.var 1) (.op1 .len (.var 0))) [.val (.list (ss.map .str)),.val (.int q),.val (.int (-1)),.un,.un,.un,.un]=some (.bool (decide (ss.length≤q))):=by simp [cmpI]
  have e2:evE (run T k) (.op2 .lt (.var 2) (.con (.int 0))) [.val (.list (ss.map .str)),.val (.int q),.val (.int (-1)),.un,.un,.un,.un]=some (.bool true):=rfl
  rw [evE,e1,e2]
  cases decide (ss.length≤q) <;> rfl
 have:evS (run T k) b72 [.val (.list (ss.map .str)),.val (.int q),.val (.int (-1)),.un,.un,.un,.un]=some (.rt (.tuple [.none,.int (q:Nat)])):=by
  unfold b72
  exact seq_rt (ife_t c1 rfl (ret_rt (by simp)))
 exact congrArg outV this
theorem in72 {T:Tab} (h:T 72=some f72) (ss:List Str):∀ (d k:Nat),In72 (run T (k+d+2)) ss d (formF ss d)
 | 0,k=>by
  have R:=fun p=>b72_run (cf:=run T (k+1)) (ss:=ss) (d:=0) (p:=p) (in72m h ss k)
  refine ⟨fun q x r e=>?_,fun q e=>?_,fun q x r e=>?_⟩
  ·rw [run_at h rfl]
   exact congrArg outV ((R q).2 x r e)
  ·obtain ⟨r,e1⟩:=(R q).1 e
   refine ⟨r,?_⟩
   rw [run_at h rfl]
   exact congrArg outV e1
  ·obtain ⟨ok,_⟩:=form_ok _ _ e
   exact ⟨(by have:=ok.b;cases x <;> first | rfl | cases this),ok.pl.nd⟩
 | d+1,k=>by
  have I0:=in72 h ss d k
  have R:=fun p=>b72_run (cf:=run T (k+d+2)) (ss:=ss) (d:=d+1) (p:=p) (by rw [show ((d+1:Nat):Int) - 1=(d:Nat) from by lia];exact I0)
  refine ⟨fun q x r e=>?_,fun q e=>?_,fun q x r e=>?_⟩
  ·rw [show k+(d+1)+2=k+d+2+1 from by lia,run_at h rfl]
   exact congrArg outV ((R q).2 x r e)
  ·obtain ⟨r,e1⟩:=(R q).1 e
   refine ⟨r,?_⟩
   rw [show k+(d+1)+2=k+d+2+1 from by lia,run_at h rfl]
   exact congrArg outV e1
  ·obtain ⟨ok,_⟩:=form_ok _ _ e
   exact ⟨(by have:=ok.b;cases x <;> first | rfl | cases this),ok.pl.nd⟩
theorem split_len (x y:Str) (hy:1≤y.length):(Txt.split x y).length≤x.length+1:=by
 have:=PyProof.Rows.split_weight x y hy
 lia
theorem sp1:1≤(" ":Str).length:=by decide +kernel
theorem sc1:1≤(" ; ":Str).length:=by decide +kernel
section
variable {cf:Nat→List PV→Option PV}
theorem split_go {a:E} {ρ:Env} {x:Str} (sep:Str) (hs:1≤sep.length) (h:evE cf a ρ=some (.str x)) (hx:x.length≤1000000):evE cf (.op2 .split a (.con (.str sep))) ρ=some (.list ((Txt.split x sep).map .str)):=by
 refine op2_go h rfl ?_
 simp only [opF2]
 rw [splitF_e,if_pos ⟨by lia,by lia⟩]
noncomputable def dY (y:Str):Option PV:=match demF y with
 | none=>none
 | some d=>if dmB d then some d else none
noncomputable def duesF:List Str→Option (List PV)
 | []=>some []
 | y::r=>match dY y with
  | none=>none
  | some d=>match duesF r with
   | none=>none
   | some ds=>some (d::ds)
theorem dues_eq:∀ ys:List Str,duesF ys=match demsF ys with
  | none=>none
  | some ds=>if ds.all dmB then some ds else none
 | []=>rfl
 | y::r=>by
  rw [duesF,demsF,dues_eq r]
  unfold dY
  cases h:demF y with
  | none=>rfl
  | some d=>
   dsimp only
   cases h2:demsF r with
   | none=>cases dmB d <;> rfl
   | some ds=>
    dsimp only
    rw [List.all_cons]
    cases h3:dmB d <;> cases h4:ds.all dmB <;> rfl
noncomputable def ρD (x:Str) (fs:List PV) (m:Int) (s3 s4 s5 s6:Sl):Env:=[.val (.str x),.val (.tuple fs),.val (.int m),s3,s4,s5,s6]
theorem nin_q {a:E} {ρ:Env} {w:Str} (h:evE cf a ρ=some (.str w)):evE cf (.op2 .nin a (.tup (.cons (.con (.str "each")) (.cons (.con (.str "some")) .nil)))) ρ=some (.bool (!in2 "each" "some" (.str w))):=by
 refine op2_go h (tupR2 rfl rfl rfl rfl) ?_
 simp only [opF2]
 rw [in_2 _ _ _ rfl];rfl
theorem eq_q {a:E} {ρ:Env} {w:Str} (s:Str) (h:evE cf a ρ=some (.str w)):evE cf (.op2 .eq a (.con (.str s))) ρ=some (.bool (isS s (.str w))):=by
 refine op2_go h rfl ?_
 simp only [opF2]
 rw [eq_s _ _ rfl];rfl
theorem call73 {x:Str} {fs:List PV} {m:Int} {s3 s5 s6:Sl} {ws:List Str} {f:PV} {p:Nat} (h:cf 72 [.list (ws.map .str),.int 2,.int 5]=some (.tuple [f,.int (p:Nat)])):
  evS cf (.asg (.many [5,6]) (.call 72 (.cons (.var 4) (.cons (.con (.int 2)) (.cons (.con (.int 5)) .nil))))) (ρD x fs m s3 (.val (.list (ws.map .str))) s5 s6)=some (.nx (ρD x fs m s3 (.val (.list (ws.map .str))) (.val f) (.val (.int (p:Nat))))):=by
 have e:evE cf (.call 72 (.cons (.var 4) (.cons (.con (.int 2)) (.cons (.con (.int 5)) .nil)))) (ρD x fs m s3 (.val (.list (ws.map .str))) s5 s6)=some (.tuple [f,.int (p:Nat)]):=by
  simp [ρD,h]
 rw [evS,e]
 rfl
theorem turn73 {x y:Str} {fs:List PV} {m:Int} (I:In72 cf (Txt.split y " ") 5 (formF (Txt.split y " ") 5)) (hy:y.length≤1000000) (hf:fs.length≤2000000) (s4 s5 s6:Sl):
  (dY y=none→evS cf b73l0 (ρD x fs m (.val (.str y)) s4 s5 s6)=some (.rt .none))∧
  (∀ d,dY y=some d→∃ t4 t5 t6,evS cf b73l0 (ρD x fs m (.val (.str y)) s4 s5 s6)=some (.nx (ρD x (fs++[d]) (m+if markB d then 1 else 0) (.val (.str y)) t4 t5 t6))):=by
 have e4:evS cf (.set 4 (.op2 .split (.var 3) (.con (.str " ")))) (ρD x fs m (.val (.str y)) s4 s5 s6)=some (.nx (ρD x fs m (.val (.str y)) (.val (.list ((Txt.split y " ").map .str))) s5 s6)):=
  set_nx (split_go " " sp1 rfl hy)
 unfold dY demF b73l0
 generalize Txt.split y " "=ws at I e4 ⊢
 cases hF:formF ws 5 2 with
 | none=>
  obtain ⟨r,e⟩:=I.no 2 hF
  refine ⟨fun _=>?_,fun d h=>nomatch h⟩
  refine seq_nx e4 (seq_nx (call73 e) (seq_rt (ife_t (p:=.bool true) ?_ rfl (ret_rt rfl))))
  exact or_go (s:=true) (t:=true) (op1_go (x:=.none) rfl rfl) (fun h=>nomatch h)
 | some z=>
  obtain ⟨f,p⟩:=z
  have e:=I.yes 2 f p hF
  obtain ⟨n1,n2⟩:=I.nn 2 f p hF
  obtain ⟨ok,hle⟩:=form_ok _ _ hF
  have c1:evE cf (.op1 .isN (.var 5)) (ρD x fs m (.val (.str y)) (.val (.list (ws.map .str))) (.val f) (.val (.int (p:Nat))))=some (.bool false):=op1_go (x:=f) rfl (by rw [opF1_e25,n1])
  have c2:evE cf (.op2 .ne (.var 6) (.op1 .len (.var 4))) (ρD x fs m (.val (.str y)) (.val (.list (ws.map .str))) (.val f) (.val (.int (p:Nat))))=some (.bool (!decide ((p:Int)=(ws.length:Nat)))):=by
   refine op2_go (x:=.int (p:Nat)) (y:=.int (ws.length:Nat)) rfl (op1_go (x:=.list (ws.map .str)) rfl (by rw [opF1_e3,List.length_map])) ?_
   simp only [opF2]
   rw [eq_ii];rfl
  dsimp only
  by_cases hp:p<ws.length
  ·rw [if_pos hp]
   refine ⟨fun _=>?_,fun d h=>nomatch h⟩
   rw [decide_eq_false (by lia:¬ (p:Int)=(ws.length:Nat))] at c2
   refine seq_nx e4 (seq_nx (call73 e) (seq_rt (ife_t (p:=.bool true) ?_ rfl (ret_rt rfl))))
   exact or_go (s:=false) (t:=true) c1 fun _=>or_go (s:=true) (t:=true) c2 (fun h=>nomatch h)
  ·rw [if_neg hp]
   have hl:=formF_len hF
   rw [decide_eq_true (by lia:(p:Int)=(ws.length:Nat))] at c2
   obtain ⟨a,b,r,rfl⟩:∃ a b r,ws=a::b::r:=by
    match ws,hl with
    | a::b::r,_=>exact ⟨a,b,r,rfl⟩
   have i0:evE cf (.op2 .ix (.var 4) (.con (.int 0))) (ρD x fs m (.val (.str y)) (.val (.list ((a::b::r).map .str))) (.val f) (.val (.int (p:Nat))))=some (.str a):=op2_go (x:=.list ((a::b::r).map .str)) (y:=.int 0) rfl rfl (ix0 _ _)
   have i1:evE cf (.op2 .ix (.var 4) (.con (.int 1))) (ρD x fs m (.val (.str y)) (.val (.list ((a::b::r).map .str))) (.val f) (.val (.int (p:Nat))))=some (.str b):=op2_go (x:=.list ((a::b::r).map .str)) (y:=.int 1) rfl rfl (ix1 _ _ _)
   have C:=or_go (s:=false) (t:=(!in2 "each" "some" (.str a))||(!in2 "each" "some" (.str b))) c1 fun _=>or_go (s:=false) c2 fun _=>or_go (nin_q i0) fun _=>nin_q i1
   have hD:dmB (.tuple [.str ((a::b::r).getD 0 ""),.str ((a::b::r).getD 1 ""),f])=(in2 "each" "some" (.str a)&&in2 "each" "some" (.str b)):=by
    show (in2 "each" "some" (.str a)&&(in2 "each" "some" (.str b)&&formB 5 f))=_
    rw [ok.b,Bool.and_true]
   dsimp only
   rw [hD]
   cases hq:(in2 "each" "some" (.str a)&&in2 "each" "some" (.str b)) with
   | false=>
    refine ⟨fun _=>?_,fun d h=>nomatch (show none=some d from h)⟩
    refine seq_nx e4 (seq_nx (call73 e) (seq_rt (ife_t C ?_ (ret_rt rfl))))
    rw [truthF_e2,← Bool.not_and,hq];rfl
   | true=>
    refine ⟨(fun h=>nomatch (show some _=none from h)),fun d h=>?_⟩
    cases (show some (PyData.tuple [.str a,.str b,f])=some d from h)
    have C':truthF (.bool (false||((!in2 "each" "some" (.str a))||(!in2 "each" "some" (.str b)))))=some false:=by
     rw [truthF_e2,← Bool.not_and,hq];rfl
    have tt:evE cf (.tup (.cons (.op2 .ix (.var 4) (.con (.int 0))) (.cons (.op2 .ix (.var 4) (.con (.int 1))) (.cons (.var 5) .nil)))) (ρD x fs m (.val (.str y)) (.val (.list ((a::b::r).map .str))) (.val f) (.val (.int (p:Nat))))=some (.tuple [.str a,.str b,f]):=tupR3 i0 i1 rfl rfl rfl n2
    have s1:evS cf (.set 1 (.op2 .add (.var 1) (.tup (.cons (.tup (.cons (.op2 .ix (.var 4) (.con (.int 0))) (.cons (.op2 .ix (.var 4) (.con (.int 1))) (.cons (.var 5) .nil)))) .nil)))) (ρD x fs m (.val (.str y)) (.val (.list ((a::b::r).map .str))) (.val f) (.val (.int (p:Nat))))=some (.nx (ρD x (fs++[.tuple [.str a,.str b,f]]) m (.val (.str y)) (.val (.list ((a::b::r).map .str))) (.val f) (.val (.int (p:Nat))))):=by
     refine set_nx (op2_go (x:=.tuple fs) (y:=.tuple [.tuple [.str a,.str b,f]]) rfl ?_ ?_)
     ·rw [evE,evE,tt];rfl
     ·simp only [opF2]
      rw [addF_e3,if_pos (by simp only [List.length_cons,List.length_nil];lia)]
    refine ⟨_,_,_,seq_nx e4 (seq_nx (call73 e) (seq_nx (ife_f C C' rfl) (seq_nx s1 (set_nx (p:=.int (m+if markB (.tuple [.str a,.str b,f]) then 1 else 0)) ?_))))⟩
    have j0:evE cf (.op2 .ix (.var 4) (.con (.int 0))) (ρD x (fs++[.tuple [.str a,.str b,f]]) m (.val (.str y)) (.val (.list ((a::b::r).map .str))) (.val f) (.val (.int (p:Nat))))=some (.str a):=op2_go (x:=.list ((a::b::r).map .str)) (y:=.int 0) rfl rfl (ix0 _ _)
    have j1:evE cf (.op2 .ix (.var 4) (.con (.int 1))) (ρD x (fs++[.tuple [.str a,.str b,f]]) m (.val (.str y)) (.val (.list ((a::b::r).map .str))) (.val f) (.val (.int (p:Nat))))=some (.str b):=op2_go (x:=.list ((a::b::r).map .str)) (y:=.int 1) rfl rfl (ix1 _ _ _)
    refine op2_go (x:=.int m) rfl (op1_go (and_go (eq_q "some" j0) fun _=>eq_q "each" j1) rfl) rfl
theorem loop73 {x:Str} (I:∀ y:Str,In72 cf (Txt.split y " ") 5 (formF (Txt.split y " ") 5)):∀ (ys:List Str) (fs:List PV) (m:Int) (s3 s4 s5 s6:Sl),(∀ y∈ys,y.length≤1000000)→fs.length+ys.length≤1000001→
  (duesF ys=none→loopF (.one 3) (evS cf b73l0) (ys.map .str) (ρD x fs m s3 s4 s5 s6)=some (.rt .none))∧
  (∀ ds,duesF ys=some ds→∃ t3 t4 t5 t6,loopF (.one 3) (evS cf b73l0) (ys.map .str) (ρD x fs m s3 s4 s5 s6)=some (.nx (ρD x (fs++ds) (m+((ds.filter markB).length:Nat)) t3 t4 t5 t6)))
 | [],fs,m,s3,s4,s5,s6,_,_=>by
  refine ⟨(fun h=>nomatch (show some []=none from h)),fun ds h=>?_⟩
  cases (show some []=some ds from h)
  exact ⟨s3,s4,s5,s6,by rw [List.append_nil];simp [loopF]⟩
 | y::ys,fs,m,s3,s4,s5,s6,hy,hl=>by
  have hl':fs.length+ys.length+1≤1000001:=by simp only [List.length_cons] at hl;lia
  have tn:=turn73 (x:=x) (fs:=fs) (m:=m) (I y) (hy y (by simp)) (by lia) s4 s5 s6
  have step:loopF (.one 3) (evS cf b73l0) ((y::ys).map .str) (ρD x fs m s3 s4 s5 s6)=turnO (evS cf b73l0 (ρD x fs m (.val (.str y)) s4 s5 s6)) fun ρ2=>loopF (.one 3) (evS cf b73l0) (ys.map .str) ρ2:=rfl
  rw [step,duesF]
  cases hd:dY y with
  | none=>
   rw [tn.1 hd]
   exact ⟨fun _=>rfl,fun ds h=>nomatch (show none=some ds from h)⟩
  | some d=>
   obtain ⟨t4,t5,t6,e⟩:=tn.2 d hd
   rw [e,turnO_nx]
   have ih:=loop73 (x:=x) I ys (fs++[d]) (m+if markB d then 1 else 0) (.val (.str y)) t4 t5 t6 (fun z hz=>hy z (List.mem_cons_of_mem _ hz)) (by simp only [List.length_append,List.length_cons,List.length_nil];lia)
   dsimp only
   cases hr:duesF ys with
   | none=>exact ⟨fun _=>ih.1 hr,fun ds h=>nomatch (show none=some ds from h)⟩
   | some ds=>
    refine ⟨(fun h=>nomatch (show some (d::ds)=none from h)),fun ds' h=>?_⟩
    cases (show some (d::ds)=some ds' from h)
    obtain ⟨u3,u4,u5,u6,e2⟩:=ih.2 ds hr
    refine ⟨u3,u4,u5,u6,?_⟩
    rw [e2,List.append_assoc]
    congr 3
    rw [List.filter_cons]
    cases markB d
    ·simp
    ·simp
     lia
end
theorem due73 {T:Tab} (h72:T 72=some f72) (h73:T 73=some f73) (k:Nat) {x:Str} (hx:x.length≤1000000):run T (k+8) 73 [.str x]=some (ans (readB x)):=by
 rw [run_at (k:=k+7) h73 rfl]
 have I:∀ y:Str,In72 (run T (k+7)) (Txt.split y " ") 5 (formF (Txt.split y " ") 5):=fun y=>in72 h72 _ 5 k
 have key:evS (run T (k+7)) b73 [.val (.str x),.un,.un,.un,.un,.un,.un]=some (.rt (ans (readB x))):=by
  unfold b73
  have c0:evE (run T (k+7)) (.op2 .eq (.var 0) (.con (.str "-"))) [.val (.str x),.un,.un,.un,.un,.un,.un]=some (.bool (x=="-")):=by
   rw [eq_q (w:=x) "-" rfl,beq_dec];rfl
  unfold readB
  cases hd:x=="-" with
  | true=>exact seq_rt (ife_t c0 (by rw [hd];rfl) (ret_rt rfl))
  | false=>
   refine seq_nx (ife_f c0 (by rw [hd];rfl) rfl) (seq_nx (set_nx (p:=.tuple []) rfl) (seq_nx (set_nx (p:=.int 0) rfl) ?_))
   simp only [Bool.false_eq_true,if_false]
   have sp:evE (run T (k+7)) (.op2 .split (.var 0) (.con (.str " ; "))) (ρD x [] 0 .un .un .un .un)=some (.list ((Txt.split x " ; ").map .str)):=split_go " ; " sc1 rfl hx
   have L:=loop73 (x:=x) I (Txt.split x " ; ") [] 0 .un .un .un .un (fun y hy=>Nat.le_trans (part_le hy) hx) (by have:=split_len x " ; " sc1;simp only [List.length_nil];lia)
   have D:=dues_eq (Txt.split x " ; ")
   cases hq:duesF (Txt.split x " ; ") with
   | none=>
    refine seq_rt (ρ:=ρD x [] 0 .un .un .un .un) ?_
    refine (loop_run sp rfl (L.1 hq)).trans ?_
    rw [hq] at D
    cases hs:demsF (Txt.split x " ; ") with
    | none=>rfl
    | some ds=>
     rw [hs] at D
     dsimp only at D ⊢
     have:ds.all dmB=false:=by
      cases ha:ds.all dmB with
      | false=>rfl
      | true=>rw [ha] at D;cases D
     have:rowB (.tuple ds)=false:=by show (_&&(ds.all dmB&&_))=false;rw [this];simp
     rw [this];rfl
   | some ds=>
    obtain ⟨t3,t4,t5,t6,e⟩:=L.2 ds hq
    rw [List.nil_append,Int.zero_add] at e
    refine seq_nx (ρ:=ρD x [] 0 .un .un .un .un) (loop_run sp rfl e) ?_
    rw [hq] at D
    have hs:demsF (Txt.split x " ; ")=some ds∧ds.all dmB=true:=by
     cases hs:demsF (Txt.split x " ; ") with
     | none=>rw [hs] at D;cases D
     | some es=>
      rw [hs] at D
      dsimp only at D
      cases ha:es.all dmB with
      | false=>rw [ha] at D;cases D
      | true=>rw [ha] at D;cases D;exact ⟨rfl,ha⟩
    rw [hs.1]
    dsimp only
    have c1:evE (run T (k+7)) (.or (.op2 .gt (.op1 .len (.var 1)) (.con (.int 4))) (.op2 .gt (.var 2) (.con (.int 2)))) (ρD x ds ((ds.filter markB).length:Nat) t3 t4 t5 t6)=some (.bool (decide ((4:Int)<(ds.length:Nat))||decide ((2:Int)<((ds.filter markB).length:Nat)))):=or_go rfl fun _=>rfl
    have hr:rowB (.tuple ds)=!(decide ((4:Int)<(ds.length:Nat))||decide ((2:Int)<((ds.filter markB).length:Nat))):=by
     show (decide (ds.length≤4)&&(ds.all dmB&&decide ((ds.filter markB).length≤2)))=_
     rw [hs.2,Bool.true_and,Bool.not_or,← decide_not,← decide_not]
     congr 1 <;> (apply decide_eq_decide.mpr;lia)
    rw [hr]
    cases hb:(decide ((4:Int)<(ds.length:Nat))||decide ((2:Int)<((ds.filter markB).length:Nat))) with
    | true=>exact seq_rt (ife_t c1 (by rw [hb];rfl) (ret_rt rfl))
    | false=>exact seq_nx (ife_f c1 (by rw [hb];rfl) rfl) (ret_rt rfl)
 exact congrArg outV key
theorem fm_formB {f:Fm} {d:Nat} (h:f.dep≤d):formB d f.pv=true:=
 (form_ok d 0 (form_ws f d 0 f.ws [] h (by simp))).1.b
theorem fm_pl (f:Fm):Pl f.pv:=(form_ok f.dep 0 (form_ws f f.dep 0 f.ws [] (Nat.le_refl _) (by simp))).1.pl
theorem dm_B {d:Dm} (h:d.f.dep≤5):dmB d.pv=true:=by
 show (in2 "each" "some" (.str d.one.s)&&(in2 "each" "some" (.str d.other.s)&&formB 5 d.f.pv))=true
 rw [fm_formB h]
 cases d.one <;> cases d.other <;> decide +kernel
theorem dm_mark (d:Dm):markB d.pv=d.mark:=by
 obtain ⟨a,b,f⟩:=d
 show (isS "some" (.str a.s)&&isS "each" (.str b.s))=(decide (a=.some)&&decide (b=.each))
 cases a <;> cases b <;> decide +kernel
theorem joinS_ge (sep x:Str) (r:List Str):x.length≤(joinS sep (x::r)).length:=by
 cases r with
 | nil=>exact Nat.le_refl _
 | cons y r=>
  show _≤(x++sep++joinS sep (y::r)).length
  rw [len_app,len_app];lia
theorem dtxt_ge (d:Dm):10≤d.txt.length:=by
 have:=lits
 unfold Dm.txt
 rw [len_join3,len_qt,len_qt]
 lia
theorem not_dash {r:List Dm} (h:r.length≠0):(rowTxt r=="-")=false:=by
 refine beq_eq_false_iff_ne.mpr fun e=>?_
 have hl:(rowTxt r).length=1:=by rw [e];decide +kernel
 unfold rowTxt at hl
 rw [if_neg h] at hl
 cases r with
 | nil=>exact h rfl
 | cons d r=>
  have h1:=joinS_ge " ; " d.txt (r.map Dm.txt)
  have h2:=dtxt_ge d
  rw [List.map_cons] at hl
  lia
theorem read_back {r:List Dm} (hl:r.length≤4) (hd:∀ d∈r,d.f.dep≤5) (hm:marks r≤2):readB (rowTxt r)=some (r.map Dm.pv):=by
 unfold readB
 by_cases h0:r.length=0
 ·have:r=[]:=List.length_eq_zero_iff.mp h0
  subst this
  rfl
 ·rw [not_dash h0,row_split r h0,dems_read r hd]
  simp only [Bool.false_eq_true,if_false]
  have hr:rowB (.tuple (r.map Dm.pv))=true:=by
   show (decide ((r.map Dm.pv).length≤4)&&((r.map Dm.pv).all dmB&&decide (((r.map Dm.pv).filter markB).length≤2)))=true
   have e1:(r.map Dm.pv).all dmB=true:=List.all_eq_true.mpr fun p hp=>by
    obtain ⟨d,hd',rfl⟩:=List.mem_map.mp hp
    exact dm_B (hd d hd')
   have e2:((r.map Dm.pv).filter markB).length=marks r:=by
    rw [List.filter_map,List.length_map]
    show (r.filter (markB∘Dm.pv)).length=(r.filter Dm.mark).length
    rw [show markB∘Dm.pv=Dm.mark from funext dm_mark]
   rw [e1,e2,List.length_map,decide_eq_true hl,decide_eq_true hm];rfl
  rw [hr];rfl
noncomputable def nots:Nat→Fm
 | 0=>.to .x .y
 | n+1=>.not (nots n)
theorem nots_dep:∀ n,(nots n).dep=n
 | 0=>rfl
 | n+1=>by show (nots n).dep+1=_;rw [nots_dep n]
noncomputable def notD (n:Nat):Dm:=⟨.each,.some,nots n⟩
theorem str_inj {x y:Str} (h:x.cps.toList=y.cps.toList):x=y:=Str.ext' (Array.toList_inj.mp h)
theorem app_cps (x y:Str):(x++y).cps.toList=x.cps.toList++y.cps.toList:=by
 show (x.cps++y.cps).toList=_
 rw [Array.toList_append]
theorem nots_cps:∀ n:Nat,(nots n).txt.cps.toList=(List.replicate n ("not ":Str).cps.toList).flatten++("xy":Str).cps.toList
 | 0=>by decide +kernel
 | n+1=>by
  show (("not":Str)++" "++(nots n).txt).cps.toList=_
  rw [app_cps,nots_cps n,List.replicate_succ,List.flatten_cons,List.append_assoc]
  congr 1
theorem notD_txt (n:Nat):("each some ":Str)++Txt.mul "not " (n:Nat)++"xy"=(notD n).txt:=by
 refine str_inj ?_
 show _=(("each":Str)++" "++(("some":Str)++" "++(nots n).txt)).cps.toList
 simp only [app_cps,nots_cps,mul_cps "not " (Int.natCast_nonneg n),Int.toNat_natCast]
 rw [List.append_assoc,← List.append_assoc (("each":Str).cps.toList++(" ":Str).cps.toList) (("some":Str).cps.toList++(" ":Str).cps.toList)]
 congr 1
theorem notD_row (n:Nat):rowTxt [notD n]=(notD n).txt:=rfl
theorem nots_ws:∀ (n i:Nat),i<n→(nots n).ws[i]?=some ("not":Str)
 | n+1,0,_=>rfl
 | n+1,i+1,h=>by
  show (("not":Str)::(nots n).ws)[i+1]?=_
  rw [List.getElem?_cons_succ]
  exact nots_ws n i (by lia)
theorem nots_none {ss:List Str}:∀ (d p:Nat),(∀ i,i≤d→ss[p+i]?=some ("not":Str))→formF ss d p=none
 | 0,p,h=>by
  rw [node_form 0 (p:=p) (h 0 (Nat.le_refl _)) (by decide +kernel)]
  rfl
 | d+1,p,h=>by
  rw [node_form (d+1) (p:=p) (h 0 (by lia)) (by decide +kernel)]
  have ih:=nots_none d (p+1) fun i hi=>by rw [show p+1+i=p+(i+1) from by lia];exact h (i+1) (by lia)
  show nodeR "not" (formsF (formF ss d) 1 (p+1))=none
  simp only [formsF,ih]
  rfl
theorem nots_read (n:Nat):readB (notD n).txt=if n≤5 then some [(notD n).pv] else none:=by
 by_cases h:n≤5
 ·rw [if_pos h,← notD_row]
  exact read_back (r:=[notD n]) (by simp) (fun d hd=>by rw [List.mem_singleton.mp hd];show (nots n).dep≤5;rw [nots_dep];exact h) (by show marks [notD n]≤2;unfold marks;exact Nat.le_trans (List.length_filter_le _ _) (by simp))
 ·rw [if_neg h]
  unfold readB
  rw [← notD_row,not_dash (by simp),row_split [notD n] (by simp)]
  simp only [Bool.false_eq_true,if_false]
  have hd:demF (notD n).txt=none:=by
   unfold demF
   rw [(notD n).split,nots_none 5 2 fun i hi=>?_]
   show (("each":Str)::("some":Str)::(nots n).ws)[2+i]?=_
   rw [show 2+i=i+1+1 from by lia,List.getElem?_cons_succ,List.getElem?_cons_succ]
   exact nots_ws n i (by lia)
  show (match demsF [(notD n).txt] with | none=>none | some ds=>_)=_
  rw [demsF,hd]
theorem nots_len:∀ n:Nat,(nots n).txt.length=4 * n+2
 | 0=>by decide +kernel
 | n+1=>by
  show (("not":Str)++" "++(nots n).txt).length=_
  rw [len_app,len_app,nots_len n]
  have:=lits
  lia
theorem notD_len (n:Nat):(notD n).txt.length=4 * n+12:=by
 unfold Dm.txt
 rw [len_join3,len_qt,len_qt]
 show 4+_+(4+_+(nots n).txt.length)=_
 rw [nots_len]
 have:=lits
 lia
theorem row_len {r:List Dm} (hl:r.length≤6) (hd:∀ d∈r,d.f.dep≤3):(rowTxt r).length≤1000:=by
 unfold rowTxt
 split
 ·have:("-":Str).length=1:=by decide +kernel
  lia
 ·have key:∀ ss:List Str,(joinS " ; " ss).length≤(ss.map Str.length).sum+ss.length * 3:=by
   intro ss
   induction ss with
   | nil=>exact Nat.zero_le _
   | cons a ss ih=>
    cases ss with
    | nil=>simp [joinS]
    | cons b ss=>
     show (a++" ; "++joinS " ; " (b::ss)).length≤_
     rw [len_app,len_app]
     have:=lits
     rw [List.map_cons,List.sum_cons,List.length_cons]
     lia
  have h1:=key (r.map Dm.txt)
  have h2:=sum_le Dm.txt 112 r fun d h=>by
   have h3:=txt_len d.f
   have h4:2 ^ d.f.dep≤2 ^ 3:=Nat.pow_le_pow_right (by decide) (hd d h)
   have:=lits
   unfold Dm.txt
   rw [len_join3,len_qt,len_qt]
   lia
  rw [List.length_map] at h1
  have h5:r.length * 112≤6 * 112:=Nat.mul_le_mul_right _ hl
  lia
noncomputable def W (ws:List Str):Nat:=(ws.map Str.length).sum+ws.length
theorem W_nil:W []=0:=rfl
theorem W_cons (a:Str) (ws:List Str):W (a::ws)=a.length+1+W ws:=by
 unfold W
 rw [List.map_cons,List.sum_cons,List.length_cons];lia
theorem W_app:∀ us vs:List Str,W (us++vs)=W us+W vs
 | [],vs=>by rw [List.nil_append,W_nil,Nat.zero_add]
 | a::us,vs=>by rw [List.cons_append,W_cons,W_cons,W_app us vs];lia
theorem W_sub {us vs:List Str} (h:us.Sublist vs):W us≤W vs:=by
 induction h with
 | slnil=>exact Nat.le_refl _
 | cons a _ ih=>rw [W_cons];lia
 | cons_cons a _ ih=>rw [W_cons,W_cons];lia
theorem W_len (us:List Str):us.length≤W us:=by unfold W;lia
theorem W_rev (us:List Str):W us.reverse=W us:=by
 induction us with
 | nil=>rfl
 | cons a us ih=>rw [List.reverse_cons,W_app,ih,W_cons,W_cons,W_nil];lia
theorem W_cut (ws:List Str) (l h:Option Int):W (cut ws l h)≤W ws:=W_sub ((List.take_sublist _ _).trans (List.drop_sublist _ _))
theorem W_set:∀ (ws:List Str) (i:Nat) (a:Str),W (ws.set i a)≤W ws+a.length
 | [],i,a=>by simp [W]
 | b::ws,0,a=>by rw [List.set_cons_zero,W_cons,W_cons];lia
 | b::ws,i+1,a=>by
  have:=W_set ws i a
  rw [List.set_cons_succ,W_cons,W_cons];lia
theorem W_split (x:Str):W (Txt.split x " ")≤x.length+1:=PyProof.Rows.split_weight x " " sp1
theorem joinW:∀ ws:List Str,(joinS " " ws).length≤W ws
 | []=>Nat.zero_le _
 | [a]=>by rw [W_cons,W_nil];show a.length≤_;lia
 | a::b::ws=>by
  have ih:=joinW (b::ws)
  have:=lits
  show (a++" "++joinS " " (b::ws)).length≤_
  rw [len_app,len_app,W_cons];lia
theorem cut_map (ws:List Str) (l h:Option Int):cut (ws.map PyData.str) l h=(cut ws l h).map .str:=by
 unfold cut
 rw [List.length_map,List.map_take,List.map_drop]
section
variable {cf:Nat→List PV→Option PV}
theorem slL_go {a b c:E} {ρ:Env} {ws:List Str} {lo hi:PV} {l h:Option Int} (hc:evE cf c ρ=some (.list (ws.map .str))) (ha:evE cf a ρ=some lo) (hb:evE cf b ρ=some hi) (pl:partF lo=some l) (ph:partF hi=some h):
  evE cf (.sl c a b) ρ=some (.list ((cut ws l h).map .str)):=by
 rw [evE,hc,bnd_some,ha,bnd_some,hb,bnd_some,slF,pl,bnd_some,ph,bnd_some,cutF_e2,cut_map]
theorem slS_go {a b c:E} {ρ:Env} {x:Str} {lo hi:PV} {l h:Option Int} (hc:evE cf c ρ=some (.str x)) (ha:evE cf a ρ=some lo) (hb:evE cf b ρ=some hi) (pl:partF lo=some l) (ph:partF hi=some h):
  evE cf (.sl c a b) ρ=some (.str (Txt.slice x l h)):=by
 rw [evE,hc,bnd_some,ha,bnd_some,hb,bnd_some,slF,pl,bnd_some,ph,bnd_some,cutF_e3]
theorem addL_go {a b:E} {ρ:Env} {us vs:List Str} (ha:evE cf a ρ=some (.list (us.map .str))) (hb:evE cf b ρ=some (.list (vs.map .str))) (hl:W us+W vs≤16777216):
  evE cf (.op2 .add a b) ρ=some (.list ((us++vs).map .str)):=by
 have h1:=W_len us
 have h2:=W_len vs
 refine op2_go ha hb ?_
 simp only [opF2]
 rw [addF_e4,List.length_map,List.length_map,if_pos (by lia),List.map_append]
theorem addS_go {a b:E} {ρ:Env} {x y:Str} (ha:evE cf a ρ=some (.str x)) (hb:evE cf b ρ=some (.str y)) (hl:x.length+y.length≤16777216):
  evE cf (.op2 .add a b) ρ=some (.str (x++y)):=by
 refine op2_go ha hb ?_
 simp only [opF2]
 rw [addF_e2,if_pos hl]
theorem join_go {a:E} {ρ:Env} {ws:List Str} (h:evE cf a ρ=some (.list (ws.map .str))) (hl:W ws≤16777216):evE cf (.op2 .join (.con (.str " ")) a) ρ=some (.str (joinS " " ws)):=by
 refine op2_go rfl h ?_
 simp only [opF2]
 have l:=lits
 rw [joinF_e1,strsOf_map,bnd_some,if_pos]
 rw [l.2.2.2.2.2.2.2.1,Nat.mul_one]
 exact hl
theorem letter (i:Int) (h0:0≤i) (h1:i<12):∃ c:Str,c.length=1∧ixF (.str " abxy;-eno0~") (.int i)=some (.str c):=by
 obtain ⟨n,rfl⟩:∃ n:Nat,i=n:=⟨i.toNat,by lia⟩
 have h:n<12:=by lia
 match n,h with
 | 0,_=>exact ⟨_,rfl,rfl⟩
 | 1,_=>exact ⟨_,rfl,rfl⟩
 | 2,_=>exact ⟨_,rfl,rfl⟩
 | 3,_=>exact ⟨_,rfl,rfl⟩
 | 4,_=>exact ⟨_,rfl,rfl⟩
 | 5,_=>exact ⟨_,rfl,rfl⟩
 | 6,_=>exact ⟨_,rfl,rfl⟩
 | 7,_=>exact ⟨_,rfl,rfl⟩
 | 8,_=>exact ⟨_,rfl,rfl⟩
 | 9,_=>exact ⟨_,rfl,rfl⟩
 | 10,_=>exact ⟨_,rfl,rfl⟩
 | 11,_=>exact ⟨_,rfl,rfl⟩
 | n+12,h=>lia
noncomputable def sixteen:List Str:=["each","some",";","-","yes","no","not","both","either","ax","by","xy","yy","za","a",""]
theorem sixteen_le:∀ w∈sixteen,w.length≤6:=by decide +kernel
theorem word16 (i:Int) (h0:0≤i) (h1:i<16):∃ c:Str,c.length≤6∧ixF (.list (sixteen.map .str)) (.int i)=some (.str c):=by
 obtain ⟨n,rfl⟩:∃ n:Nat,i=n:=⟨i.toNat,by lia⟩
 have h:n<sixteen.length:=by show n<16;lia
 refine ⟨sixteen[n],sixteen_le _ (List.getElem_mem h),?_⟩
 have hn:ixN (sixteen.map PyData.str).length (n:Int)=some n:=by
  unfold ixN
  rw [if_pos (by lia),if_pos (by rw [List.length_map];lia),Int.toNat_natCast]
 show atI (sixteen.map PyData.str) (n:Int)=_
 unfold atI
 rw [hn]
 show (sixteen.map PyData.str)[n]?=_
 rw [List.getElem?_map,List.getElem?_eq_getElem h];rfl
theorem sixteen_lst (ρ:Env):evE cf (.lst (.cons (.con (.str "each")) (.cons (.con (.str "some")) (.cons (.con (.str ";")) (.cons (.con (.str "-")) (.cons (.con (.str "yes")) (.cons (.con (.str "no")) (.cons (.con (.str "not")) (.cons (.con (.str "both")) (.cons (.con (.str "either")) (.cons (.con (.str "ax")) (.cons (.con (.str "by")) (.cons (.con (.str "xy")) (.cons (.con (.str "yy")) (.cons (.con (.str "za")) (.cons (.con (.str "a")) (.cons (.con (.str "")) .nil))))))))))))))))) ρ=some (.list (sixteen.map .str)):=rfl
theorem m8 {ρ:Env} {n:Int} (h:evE cf (.var 1) ρ=some (.int n)) (i:Int):evE cf (.op2 .eq (.op2 .mod (.var 1) (.con (.int 8))) (.con (.int i))) ρ=some (.bool (decide (n % 8=i))):=by
 refine op2_go (mod_go h rfl (by decide)) rfl ?_
 simp only [opF2]
 rw [eq_ii];rfl
theorem own_nx {i:Nat} {e:E} {ρ:Env} {ws:List Str} (h:evE cf e ρ=some (.list (ws.map .str))):evS cf (.own i e) ρ=some (.nx (ρ.set i (.own (ws.map .str)))):=by
 rw [evS,h];rfl
theorem skip8 {ρ:Env} {n i:Int} {a:S} (h:evE cf (.var 1) ρ=some (.int n)) (hn:n % 8≠i):evS cf (.ife (.op2 .eq (.op2 .mod (.var 1) (.con (.int 8))) (.con (.int i))) a .nx) ρ=some (.nx ρ):=
 ife_f (m8 h i) (by rw [decide_eq_false hn];rfl) rfl
theorem take8 {ρ:Env} {n i:Int} {a:S} {o:Option Out} (h:evE cf (.var 1) ρ=some (.int n)) (hn:n % 8=i) (ha:evS cf a ρ=o):evS cf (.ife (.op2 .eq (.op2 .mod (.var 1) (.con (.int 8))) (.con (.int i))) a .nx) ρ=o:=
 ife_t (m8 h i) (by rw [decide_eq_true hn];rfl) ha
noncomputable def ρC (x:Str) (n a:Int) (c:Str) (s4 s5:Sl):Env:=[.val (.str x),.val (.int n),.val (.int a),.val (.str c),s4,s5]
theorem b71_run {x:Str} {n:Int} (hx:x.length≤300000):∃ y:Str,y.length≤3 * x.length+10∧evS cf b71 [.val (.str x),.val (.int n),.un,.un,.un,.un]=some (.rt (.str y)):=by
 obtain ⟨c,hc,ec⟩:=letter (n / 400 % 12) (by lia) (by lia)
 have sl:=Txt.slice_le x
 have a1:evS cf (.set 2 (.op2 .mod (.op2 .fdiv (.var 1) (.con (.int 16))) (.op2 .add (.op1 .len (.var 0)) (.con (.int 1))))) [.val (.str x),.val (.int n),.un,.un,.un,.un]=some (.nx [.val (.str x),.val (.int n),.val (.int (n / 16 % ((x.length:Nat)+1))),.un,.un,.un]):=
  set_nx (mod_go (fdiv_go rfl ⟨by decide,by decide⟩) (op2_go (op1_go rfl (opF1_e4 ..)) rfl rfl) (by lia))
 generalize n / 16 % ((x.length:Nat)+1)=a at a1
 have a2:evS cf (.set 3 (.op2 .ix (.con (.str " abxy;-eno0~")) (.op2 .mod (.op2 .fdiv (.var 1) (.con (.int 400))) (.con (.int 12))))) [.val (.str x),.val (.int n),.val (.int a),.un,.un,.un]=some (.nx (ρC x n a c .un .un)):=
  set_nx (op2_go rfl (mod_go (fdiv_go rfl ⟨by decide,by decide⟩) rfl (by decide)) ec)
 have v1:evE cf (.var 1) (ρC x n a c .un .un)=some (.int n):=rfl
 have p1:evE cf (.op2 .add (.var 2) (.con (.int 1))) (ρC x n a c .un .un)=some (.int (a+1)):=rfl
 have d1:evE cf (.sl (.var 0) (.con .none) (.var 2)) (ρC x n a c .un .un)=some (.str (Txt.slice x none (some a))):=slS_go rfl rfl rfl rfl rfl
 have d2:evE cf (.sl (.var 0) (.var 2) (.con .none)) (ρC x n a c .un .un)=some (.str (Txt.slice x (some a) none)):=slS_go rfl rfl rfl rfl rfl
 have d3:evE cf (.sl (.var 0) (.op2 .add (.var 2) (.con (.int 1))) (.con .none)) (ρC x n a c .un .un)=some (.str (Txt.slice x (some (a+1)) none)):=slS_go rfl p1 rfl rfl rfl
 have l1:=sl none (some a)
 have l2:=sl (some a) none
 have l3:=sl (some (a+1)) none
 have d1c:evE cf (.op2 .add (.sl (.var 0) (.con .none) (.var 2)) (.var 3)) (ρC x n a c .un .un)=some (.str (Txt.slice x none (some a)++c)):=addS_go d1 rfl (by lia)
 unfold b71
 by_cases h0:n % 8=0
 ·refine ⟨_,?_,seq_nx a1 (seq_nx a2 (seq_rt (take8 v1 h0 (ret_rt (addS_go d1c d2 (by rw [len_app];lia))))))⟩
  rw [len_app,len_app];lia
 have b0:=skip8 (cf:=cf) (ρ:=ρC x n a c .un .un) (a:=.ret (.op2 .add (.op2 .add (.sl (.var 0) (.con .none) (.var 2)) (.var 3)) (.sl (.var 0) (.var 2) (.con .none)))) v1 h0
 by_cases h3:n % 8=3
 ·refine ⟨_,?_,seq_nx a1 (seq_nx a2 (seq_nx b0 (seq_rt (take8 v1 h3 (ret_rt (addS_go d1 d3 (by lia)))))))⟩
  rw [len_app];lia
 have b3:=skip8 (cf:=cf) (ρ:=ρC x n a c .un .un) (a:=.ret (.op2 .add (.sl (.var 0) (.con .none) (.var 2)) (.sl (.var 0) (.op2 .add (.var 2) (.con (.int 1))) (.con .none)))) v1 h3
 have lt3:evE cf (.op2 .lt (.op2 .mod (.var 1) (.con (.int 8))) (.con (.int 3))) (ρC x n a c .un .un)=some (.bool (decide (n % 8<3))):=op2_go (mod_go v1 rfl (by decide)) rfl rfl
 by_cases h12:n % 8<3
 ·refine ⟨_,?_,seq_nx a1 (seq_nx a2 (seq_nx b0 (seq_nx b3 (seq_rt (ife_t lt3 (by rw [decide_eq_true h12];rfl) (ret_rt (addS_go d1c d3 (by rw [len_app];lia))))))))⟩
  rw [len_app,len_app];lia
 have ws1:=W_split x
 have wp:=PyProof.Rows.split_pos x " "
 have o4:evS cf (.own 4 (.op2 .split (.var 0) (.con (.str " ")))) (ρC x n a c .un .un)=some (.nx (ρC x n a c (.own ((Txt.split x " ").map .str)) .un)):=own_nx (split_go " " sp1 rfl (by lia))
 generalize Txt.split x " "=ws at ws1 wp o4
 have a3:evS cf (.set 2 (.op2 .mod (.op2 .fdiv (.var 1) (.con (.int 16))) (.op1 .len (.peek 4)))) (ρC x n a c (.own (ws.map .str)) .un)=some (.nx (ρC x n (n / 16 % (ws.length:Nat)) c (.own (ws.map .str)) .un)):=
  set_nx (mod_go (fdiv_go rfl ⟨by decide,by decide⟩) (op1_go (x:=.list (ws.map .str)) rfl (by rw [opF1_e3,List.length_map])) (by lia))
 have hb0:0≤n / 16 % (ws.length:Nat):=Int.emod_nonneg _ (by lia)
 have hb1:n / 16 % (ws.length:Nat)<(ws.length:Nat):=Int.emod_lt_of_pos _ (by lia)
 generalize n / 16 % (ws.length:Nat)=b at a3 hb0 hb1
 have pre:∀ {s:S} {o:Option Out},evS cf s (ρC x n b c (.own (ws.map .str)) .un)=o→evS cf (.seq (.set 2 (.op2 .mod (.op2 .fdiv (.var 1) (.con (.int 16))) (.op2 .add (.op1 .len (.var 0)) (.con (.int 1))))) (.seq (.set 3 (.op2 .ix (.con (.str " abxy;-eno0~")) (.op2 .mod (.op2 .fdiv (.var 1) (.con (.int 400))) (.con (.int 12))))) (.seq (.ife (.op2 .eq (.op2 .mod (.var 1) (.con (.int 8))) (.con (.int 0))) (.ret (.op2 .add (.op2 .add (.sl (.var 0) (.con .none) (.var 2)) (.var 3)) (.sl (.var 0) (.var 2) (.con .none)))) .nx) (.seq (.ife (.op2 .eq (.op2 .mod (.var 1) (.con (.int 8))) (.con (.int 3))) (.ret (.op2 .add (.sl (.var 0) (.con .none) (.var 2)) (.sl (.var 0) (.op2 .add (.var 2) (.con (.int 1))) (.con .none)))) .nx) (.seq (.ife (.op2 .lt (.op2 .mod (.var 1) (.con (.int 8))) (.con (.int 3))) (.ret (.op2 .add (.op2 .add (.sl (.var 0) (.con .none) (.var 2)) (.var 3)) (.sl (.var 0) (.op2 .add (.var 2) (.con (.int 1))) (.con .none)))) .nx) (.seq (.own 4 (.op2 .split (.var 0) (.con (.str " ")))) (.seq (.set 2 (.op2 .mod (.op2 .fdiv (.var 1) (.con (.int 16))) (.op1 .len (.peek 4)))) s))))))) [.val (.str x),.val (.int n),.un,.un,.un,.un]=o:=fun h=>
  seq_nx a1 (seq_nx a2 (seq_nx b0 (seq_nx b3 (seq_nx (ife_f lt3 (by rw [decide_eq_false h12];rfl) rfl) (seq_nx o4 (seq_nx a3 h))))))
 have v1':∀ us s5,evE cf (.var 1) (ρC x n b c (.own us) s5)=some (.int n):=fun _ _=>rfl
 have q1:evE cf (.op2 .add (.var 2) (.con (.int 1))) (ρC x n b c (.own (ws.map .str)) .un)=some (.int (b+1)):=rfl
 have q2:evE cf (.op2 .add (.var 2) (.con (.int 2))) (ρC x n b c (.own (ws.map .str)) .un)=some (.int (b+2)):=rfl
 have g1:evE cf (.sl (.peek 4) (.con .none) (.var 2)) (ρC x n b c (.own (ws.map .str)) .un)=some (.list ((cut ws none (some b)).map .str)):=slL_go rfl rfl rfl rfl rfl
 have w1:=W_cut ws none (some b)
 have fin:∀ {us:List Str} {s5:Sl},W us≤3 * W ws+6→evS cf (.ret (.op2 .join (.con (.str " ")) (.peek 4))) (ρC x n b c (.own (us.map .str)) s5)=some (.rt (.str (joinS " " us)))∧(joinS " " us).length≤3 * x.length+10:=fun {us s5} h=>by
  refine ⟨ret_rt (join_go rfl (by lia)),?_⟩
  have:=joinW us
  lia
 rcases (by lia:n % 8=4∨n % 8=5∨n % 8=6∨n % 8=7) with h | h | h | h
 ·have g2:evE cf (.sl (.peek 4) (.op2 .add (.var 2) (.con (.int 1))) (.con .none)) (ρC x n b c (.own (ws.map .str)) .un)=some (.list ((cut ws (some (b+1)) none).map .str)):=slL_go rfl q1 rfl rfl rfl
  have w2:=W_cut ws (some (b+1)) none
  have F:=@fin (cut ws none (some b)++cut ws (some (b+1)) none) .un (by rw [W_app];lia)
  exact ⟨_,F.2,pre (seq_nx (take8 (v1' _ _) h (own_nx (addL_go g1 g2 (by lia)))) (seq_nx (skip8 (v1' _ _) (by lia)) (seq_nx (skip8 (v1' _ _) (by lia)) (seq_nx (skip8 (v1' _ _) (by lia)) F.1))))⟩
 ·have g2:evE cf (.sl (.peek 4) (.var 2) (.op2 .add (.var 2) (.con (.int 1)))) (ρC x n b c (.own (ws.map .str)) .un)=some (.list ((cut ws (some b) (some (b+1))).map .str)):=slL_go rfl rfl q1 rfl rfl
  have g3:evE cf (.sl (.peek 4) (.var 2) (.con .none)) (ρC x n b c (.own (ws.map .str)) .un)=some (.list ((cut ws (some b) none).map .str)):=slL_go rfl rfl rfl rfl rfl
  have w2:=W_cut ws (some b) (some (b+1))
  have w3:=W_cut ws (some b) none
  have F:=@fin ((cut ws none (some b)++cut ws (some b) (some (b+1)))++cut ws (some b) none) .un (by rw [W_app,W_app];lia)
  exact ⟨_,F.2,pre (seq_nx (skip8 (v1' _ _) (by lia)) (seq_nx (take8 (v1' _ _) h (own_nx (addL_go (addL_go g1 g2 (by lia)) g3 (by rw [W_app];lia)))) (seq_nx (skip8 (v1' _ _) (by lia)) (seq_nx (skip8 (v1' _ _) (by lia)) F.1))))⟩
 ·have g2:evE cf (.op1 .rev (.sl (.peek 4) (.var 2) (.op2 .add (.var 2) (.con (.int 2))))) (ρC x n b c (.own (ws.map .str)) .un)=some (.list ((cut ws (some b) (some (b+2))).reverse.map .str)):=
   op1_go (slL_go rfl rfl q2 rfl rfl) (by rw [opF1_e17l,List.map_reverse])
  have g3:evE cf (.sl (.peek 4) (.op2 .add (.var 2) (.con (.int 2))) (.con .none)) (ρC x n b c (.own (ws.map .str)) .un)=some (.list ((cut ws (some (b+2)) none).map .str)):=slL_go rfl q2 rfl rfl rfl
  have w2:=W_cut ws (some b) (some (b+2))
  have w3:=W_cut ws (some (b+2)) none
  have F:=@fin ((cut ws none (some b)++(cut ws (some b) (some (b+2))).reverse)++cut ws (some (b+2)) none) .un (by rw [W_app,W_app,W_rev];lia)
  exact ⟨_,F.2,pre (seq_nx (skip8 (v1' _ _) (by lia)) (seq_nx (skip8 (v1' _ _) (by lia)) (seq_nx (take8 (v1' _ _) h (own_nx (addL_go (addL_go g1 g2 (by rw [W_rev];lia)) g3 (by rw [W_app,W_rev];lia)))) (seq_nx (skip8 (v1' _ _) (by lia)) F.1))))⟩
 ·obtain ⟨w,hw,ew⟩:=word16 (n / 400 % 16) (by lia) (by lia)
  have F:=@fin (ws.set b.toNat w) (.val (.list (sixteen.map .str))) (by have:=W_set ws b.toNat w;lia)
  have s5:evS cf (.set 5 (.lst (.cons (.con (.str "each")) (.cons (.con (.str "some")) (.cons (.con (.str ";")) (.cons (.con (.str "-")) (.cons (.con (.str "yes")) (.cons (.con (.str "no")) (.cons (.con (.str "not")) (.cons (.con (.str "both")) (.cons (.con (.str "either")) (.cons (.con (.str "ax")) (.cons (.con (.str "by")) (.cons (.con (.str "xy")) (.cons (.con (.str "yy")) (.cons (.con (.str "za")) (.cons (.con (.str "a")) (.cons (.con (.str "")) .nil)))))))))))))))))) (ρC x n b c (.own (ws.map .str)) .un)=some (.nx (ρC x n b c (.own (ws.map .str)) (.val (.list (sixteen.map .str))))):=set_nx (sixteen_lst _)
  have e6:evE cf (.op2 .ix (.var 5) (.op2 .mod (.op2 .fdiv (.var 1) (.con (.int 400))) (.con (.int 16)))) (ρC x n b c (.own (ws.map .str)) (.val (.list (sixteen.map .str))))=some (.str w):=
   op2_go rfl (mod_go (fdiv_go rfl ⟨by decide,by decide⟩) rfl (by decide)) ew
  have s6:evS cf (.put 4 (.var 2) (.op2 .ix (.var 5) (.op2 .mod (.op2 .fdiv (.var 1) (.con (.int 400))) (.con (.int 16))))) (ρC x n b c (.own (ws.map .str)) (.val (.list (sixteen.map .str))))=some (.nx (ρC x n b c (.own ((ws.set b.toNat w).map .str)) (.val (.list (sixteen.map .str))))):=by
   have hn:ixN (ws.map PyData.str).length b=some b.toNat:=by
    unfold ixN
    rw [if_pos hb0,if_pos (by rw [List.length_map];exact hb1)]
   rw [evS,e6,bnd_some]
   show putF' 4 (ρC x n b c (.own (ws.map .str)) (.val (.list (sixteen.map .str)))) (.int b) (.str w) (.own (ws.map .str))=_
   show (match ixN (ws.map PyData.str).length b with | some m=>_ | none=>none)=_
   rw [hn]
   show some (Out.nx (ρC x n b c (.own ((ws.map PyData.str).set b.toNat (.str w))) (.val (.list (sixteen.map .str)))))=_
   rw [List.map_set]
  exact ⟨_,F.2,pre (seq_nx (skip8 (v1' _ _) (by lia)) (seq_nx (skip8 (v1' _ _) (by lia)) (seq_nx (skip8 (v1' _ _) (by lia)) (seq_nx (take8 (v1' _ _) h (seq_nx s5 s6)) F.1))))⟩
end
theorem changed71 {T:Tab} (h:T 71=some f71) (k:Nat) {x:Str} (n:Int) (hx:x.length≤300000):∃ y:Str,y.length≤3 * x.length+10∧run T (k+1) 71 [.str x,.int n]=some (.str y):=by
 obtain ⟨y,hy,e⟩:=b71_run (cf:=run T k) (n:=n) hx
 refine ⟨y,hy,?_⟩
 rw [run_at h rfl]
 exact congrArg outV e
end DD
namespace K03
open PySem DD
noncomputable def tab:Tab:=fun i=>List.lookup i [(0,f0),(2,f2),(3,f3),(4,f4),(5,f5),(6,f6),(7,f7),(8,f8),(9,f9),(16,f16),(17,f17),(18,f18),(19,f19),(20,f20),(21,f21),(34,f34),(35,f35),(71,f71),(72,f72),(73,f73),(74,f74),(75,f75)]
end K03
namespace DD
open PySem
noncomputable def ρL (sc:PV) (r:PV) (n:Int) (x:Str) (s4 s5 s6 s7:Sl):Env:=[.val sc,.val r,.val (.int n),.val (.str x),s4,s5,s6,s7]
section
variable {cf:Nat→List PV→Option PV}
theorem call1 {f:Nat} {a:E} {ρ:Env} {x:PV} {o:Option PV} (ha:evE cf a ρ=some x) (h:cf f [x]=o):evE cf (.call f (.cons a .nil)) ρ=o:=by
 rw [evE,evE,ha];exact h
theorem ne_self {a b:E} {ρ:Env} {p:PV} (ha:evE cf a ρ=some p) (hb:evE cf b ρ=some p) (hp:Pl p) (hd:p.depth≤180):evE cf (.op2 .ne a b) ρ=some (.bool false):=by
 refine op2_go ha hb ?_
 simp only [opF2]
 rw [eq_self hp hd];rfl
theorem eq_self' {a b:E} {ρ:Env} {p:PV} (ha:evE cf a ρ=some p) (hb:evE cf b ρ=some p) (hp:Pl p) (hd:p.depth≤180):evE cf (.op2 .eq a b) ρ=some (.bool true):=by
 refine op2_go ha hb ?_
 simp only [opF2]
 rw [eq_self hp hd];rfl
theorem tup1_go {a:E} {ρ:Env} {x:PV} (ha:evE cf a ρ=some x) (dx:isDict x=false):evE cf (.tup (.cons a .nil)) ρ=some (.tuple [x]):=by
 simp only [evE,ha,bnd_some,consF_e1,tupF_e1]
 simp [dx]
theorem lst2_go {a b:E} {ρ:Env} {x y:PV} (ha:evE cf a ρ=some x) (hb:evE cf b ρ=some y) (dx:isDict x=false) (dy:isDict y=false):evE cf (.lst (.cons a (.cons b .nil))) ρ=some (.list [x,y]):=by
 simp only [evE,ha,hb,bnd_some,consF_e1,lstF_e1]
 simp [dx,dy]
theorem loop_nots (sc r:PV) (n:Int) (x:Str) (s4 s7:Sl):∀ (m i:Nat) (s6:Sl) (ys:List PV),ys.length=m→∃ t6,loopF (.one 6) (evS cf b75l0) ys (ρL sc r n x s4 (.val (nots i).pv) s6 s7)=some (.nx (ρL sc r n x s4 (.val (nots (i+m)).pv) t6 s7))
 | 0,i,s6,[],_=>⟨s6,rfl⟩
 | m+1,i,s6,y::ys,h=>by
  obtain ⟨t6,e⟩:=loop_nots sc r n x s4 s7 m (i+1) (.val y) ys (by simpa using h)
  refine ⟨t6,?_⟩
  rw [show i+(m+1)=i+1+m from by lia,← e]
  have:evS cf b75l0 (ρL sc r n x s4 (.val (nots i).pv) (.val y) s7)=some (.nx (ρL sc r n x s4 (.val (nots (i+1)).pv) (.val y) s7)):=
   set_nx (p:=(nots (i+1)).pv) (tupR2 rfl rfl rfl (fm_pl (nots i)).nd)
  show turnO (evS cf b75l0 (ρL sc r n x s4 (.val (nots i).pv) (.val y) s7)) _=_
  rw [this];rfl
end
noncomputable def lenB:Nat→Nat
 | 0=>1000
 | i+1=>3 * lenB i+10
theorem lenB_le:∀ i,i≤4→lenB i≤300000:=by decide
theorem many_go {T:Tab} (H:ThK T) (h74:T 74=some f74) (k:Nat) (sc r:PV) (n:Int) (x:Str) (hx:x.length≤1000):∃ (y:Str) (s4 s5 s6:Sl),y.length≤1000∧
  evS (run T (k+13)) (.ife (.op2 .eq (.op2 .mod (.var 2) (.con (.int 9))) (.con (.int 1))) (.seq (.set 4 (.op2 .mod (.op2 .fdiv (.var 2) (.con (.int 9))) (.con (.int 151)))) (.seq (.set 3 (.op2 .add (.op2 .add (.con (.str "each some ")) (.op2 .mul (.con (.str "not ")) (.var 4))) (.con (.str "xy")))) (.seq (.set 5 (.tup (.cons (.con (.str "to")) (.cons (.con (.str "x")) (.cons (.con (.str "y")) .nil))))) (.seq (.loop (.one 6) (.rng (.var 4)) b75l0) (.ife (.op2 .ne (.call 74 (.cons (.var 3) .nil)) (.op2 .ix (.lst (.cons (.con .none) (.cons (.tup (.cons (.tup (.cons (.con (.str "each")) (.cons (.con (.str "some")) (.cons (.var 5) .nil)))) .nil)) .nil))) (.op1 .toInt (.op2 .le (.var 4) (.con (.int 5)))))) (.ret (.con (.bool false))) .nx))))) .nx) (ρL sc r n x .un .un .un .un)=some (.nx (ρL sc r n y s4 s5 s6 .un)):=by
 have c:evE (run T (k+13)) (.op2 .eq (.op2 .mod (.var 2) (.con (.int 9))) (.con (.int 1))) (ρL sc r n x .un .un .un .un)=some (.bool (decide (n % 9=1))):=by
  refine op2_go (mod_go (i:=n) rfl rfl (by decide)) rfl ?_
  simp only [opF2]
  rw [eq_ii];rfl
 by_cases h9:¬ n % 9=1
 ·exact ⟨x,.un,.un,.un,hx,ife_f c (by rw [decide_eq_false h9];rfl) rfl⟩
 have h9:n % 9=1:=Decidable.not_not.mp h9
 obtain ⟨m,em⟩:∃ m:Nat,n / 9 % 151=(m:Int):=⟨(n / 9 % 151).toNat,by lia⟩
 have hm:m≤150:=by lia
 have e4:evS (run T (k+13)) (.set 4 (.op2 .mod (.op2 .fdiv (.var 2) (.con (.int 9))) (.con (.int 151)))) (ρL sc r n x .un .un .un .un)=some (.nx (ρL sc r n x (.val (.int m)) .un .un .un)):=by
  rw [← em]
  exact set_nx (mod_go (fdiv_go rfl ⟨by decide,by decide⟩) rfl (by decide))
 have ln:("not ":Str).length=4∧("each some ":Str).length=10∧("xy":Str).length=2:=by decide +kernel
 have lm:(Txt.mul "not " (m:Nat)).length≤600:=by
  have h1:=congrArg Str.length (notD_txt m)
  rw [notD_len,len_app,len_app] at h1
  lia
 have e3:evS (run T (k+13)) (.set 3 (.op2 .add (.op2 .add (.con (.str "each some ")) (.op2 .mul (.con (.str "not ")) (.var 4))) (.con (.str "xy")))) (ρL sc r n x (.val (.int m)) .un .un .un)=some (.nx (ρL sc r n (notD m).txt (.val (.int m)) .un .un .un)):=by
  rw [← notD_txt]
  refine set_nx (addS_go (addS_go rfl (op2_go (x:=.str "not ") (y:=.int m) rfl rfl ?_) (by lia)) rfl (by rw [len_app];lia))
  simp only [opF2]
  rw [mulF_e2,if_pos ⟨by rw [Int.toNat_natCast];lia,by lia,by lia⟩]
 have e5:evS (run T (k+13)) (.set 5 (.tup (.cons (.con (.str "to")) (.cons (.con (.str "x")) (.cons (.con (.str "y")) .nil))))) (ρL sc r n (notD m).txt (.val (.int m)) .un .un .un)=some (.nx (ρL sc r n (notD m).txt (.val (.int m)) (.val (nots 0).pv) .un .un)):=rfl
 obtain ⟨t6,e6⟩:=loop_nots (cf:=run T (k+13)) sc r n (notD m).txt (.val (.int m)) .un m 0 .un ((List.range m).map fun k=>.int (k:Nat)) (by simp)
 rw [Nat.zero_add] at e6
 have lp:evS (run T (k+13)) (.loop (.one 6) (.rng (.var 4)) b75l0) (ρL sc r n (notD m).txt (.val (.int m)) (.val (nots 0).pv) .un .un)=some (.nx (ρL sc r n (notD m).txt (.val (.int m)) (.val (nots m).pv) t6 .un)):=loop_run (rng_run (j:=m) rfl (by lia)) rfl e6
 refine ⟨(notD m).txt,.val (.int m),.val (nots m).pv,t6,by rw [notD_len];lia,?_⟩
 refine ife_t c (by rw [decide_eq_true h9];rfl) (seq_nx e4 (seq_nx e3 (seq_nx e5 (seq_nx lp (ife_f (p:=.bool false) ?_ rfl rfl)))))
 have P:=ans_pl (notD m).txt
 refine ne_self (call1 (x:=.str (notD m).txt) rfl (told74 H h74 k (by rw [notD_len];lia))) ?_ P.1 P.2
 have lst:evE (run T (k+13)) (.lst (.cons (.con .none) (.cons (.tup (.cons (.tup (.cons (.con (.str "each")) (.cons (.con (.str "some")) (.cons (.var 5) .nil)))) .nil)) .nil))) (ρL sc r n (notD m).txt (.val (.int m)) (.val (nots m).pv) t6 .un)=some (.list [.none,.tuple [(notD m).pv]]):=by
  have t3:evE (run T (k+13)) (.tup (.cons (.con (.str "each")) (.cons (.con (.str "some")) (.cons (.var 5) .nil)))) (ρL sc r n (notD m).txt (.val (.int m)) (.val (nots m).pv) t6 .un)=some (notD m).pv:=tupR3 rfl rfl rfl rfl rfl (fm_pl (nots m)).nd
  exact lst2_go rfl (tup1_go t3 rfl) rfl rfl
 have le5:evE (run T (k+13)) (.op1 .toInt (.op2 .le (.var 4) (.con (.int 5)))) (ρL sc r n (notD m).txt (.val (.int m)) (.val (nots m).pv) t6 .un)=some (.int (if decide ((m:Int)≤5) then 1 else 0)):=op1_go (op2_go (x:=.int m) rfl rfl rfl) rfl
 rw [nots_read]
 by_cases h5:m≤5
 ·rw [decide_eq_true (by lia:(m:Int)≤5)] at le5
  rw [if_pos h5]
  exact op2_go lst le5 rfl
 ·rw [decide_eq_false (by lia:¬ (m:Int)≤5)] at le5
  rw [if_neg h5]
  exact op2_go lst le5 rfl
theorem six (i:Int) (h0:0≤i) (h1:i<6):∃ j:Nat,j≤4∧ixF (.tuple [.int 0,.int 1,.int 2,.int 4,.int 0,.int 1]) (.int i)=some (.int j):=by
 obtain ⟨n,rfl⟩:∃ n:Nat,i=n:=⟨i.toNat,by lia⟩
 have h:n<6:=by lia
 match n,h with
 | 0,_=>exact ⟨0,by decide,rfl⟩
 | 1,_=>exact ⟨1,by decide,rfl⟩
 | 2,_=>exact ⟨2,by decide,rfl⟩
 | 3,_=>exact ⟨4,by decide,rfl⟩
 | 4,_=>exact ⟨0,by decide,rfl⟩
 | 5,_=>exact ⟨1,by decide,rfl⟩
 | n+6,h=>lia
theorem changes_go {T:Tab} (h18:T 18=some f18) (h71:T 71=some f71) (k:Nat) (sc r:PV) (n:Int) (x:Str) (hx:x.length≤1000) (s4 s5 s6 s7:Sl):∃ (y:Str) (t6:Sl),y.length≤300000∧
  evS (run T (k+1)) (.loop (.one 6) (.rng (.op2 .ix (.tup (.cons (.con (.int 0)) (.cons (.con (.int 1)) (.cons (.con (.int 2)) (.cons (.con (.int 4)) (.cons (.con (.int 0)) (.cons (.con (.int 1)) .nil))))))) (.op2 .mod (.op2 .fdiv (.var 2) (.con (.int 9))) (.con (.int 6))))) b75l1) (ρL sc r n x s4 s5 s6 s7)=some (.nx (ρL sc r n y s4 s5 t6 s7)):=by
 obtain ⟨j,hj,ej⟩:=six (n / 9 % 6) (by lia) (by lia)
 obtain ⟨ρ',e1,hI⟩:=loop_by (tg:=.one 6) (g:=evS (run T (k+1)) b75l1)
  (fun i ρ=>i≤4→∃ (y:Str) (t6:Sl),y.length≤lenB i∧ρ=ρL sc r n y s4 s5 t6 s7)
  ((List.range j).map fun k=>.int (k:Nat)) 0 (fun i z ρ ez hI=>by
   have hi:i<j:=by simpa using (List.getElem?_eq_some_iff.mp ez).1
   have ez':PyData.int (i:Nat)=z:=by simpa [hi] using ez
   subst ez'
   obtain ⟨y,t6,hy,rfl⟩:=hI (by lia)
   obtain ⟨y',hy',ey⟩:=changed71 h71 k (x:=y) (drawnI n (i:Nat)) (Nat.le_trans hy (lenB_le _ (by lia)))
   refine ⟨_,ρL sc r n y' s4 s5 (.val (.int (i:Nat))) s7,rfl,?_,fun _=>⟨y',_,?_,rfl⟩⟩
   ·exact set_nx (call2 (x:=.str y) rfl (call2 (x:=.int n) (y:=.int (i:Nat)) rfl rfl (drawn_run h18 k n (i:Nat))) ey)
   ·show y'.length≤3 * lenB (0+i)+10
    lia) (ρL sc r n x s4 s5 s6 s7) (fun _=>⟨x,s6,hx,rfl⟩)
 obtain ⟨y,t6,hy,rfl⟩:=hI (by simp;lia)
 refine ⟨y,t6,Nat.le_trans hy (lenB_le _ (by simp;lia)),loop_run (rng_run (j:=j) ?_ (by lia)) rfl e1⟩
 exact op2_go (x:=.tuple [.int 0,.int 1,.int 2,.int 4,.int 0,.int 1]) rfl (mod_go (fdiv_go rfl ⟨by decide,by decide⟩) rfl (by decide)) ej
theorem law03 (ns:List Int):run K03.tab 60 75 [.list (ns.map .int)]=some (.bool true):=by
 have H:ThK K03.tab:=⟨rfl,rfl,rfl,rfl,rfl,rfl,rfl,rfl,rfl⟩
 have h16:K03.tab 16=some f16:=rfl
 have h17:K03.tab 17=some f17:=rfl
 have h18:K03.tab 18=some f18:=rfl
 have h19:K03.tab 19=some f19:=rfl
 have h20:K03.tab 20=some f20:=rfl
 have h21:K03.tab 21=some f21:=rfl
 have h34:K03.tab 34=some f34:=rfl
 have h35:K03.tab 35=some f35:=rfl
 have h71:K03.tab 71=some f71:=rfl
 have h72:K03.tab 72=some f72:=rfl
 have h73:K03.tab 73=some f73:=rfl
 have h74:K03.tab 74=some f74:=rfl
 have h75:K03.tab 75=some f75:=rfl
 generalize K03.tab=T at *
 rw [run_at (k:=59) h75 rfl]
 obtain ⟨c0,_,_,ec0⟩:=mixed_ex h16 h17 57 ns 0
 obtain ⟨c1,_,_,ec1⟩:=mixed_ex h16 h17 57 ns 1
 obtain ⟨c2,_,_,ec2⟩:=mixed_ex h16 h17 57 ns 2
 obtain ⟨r,hr,er⟩:=row_ex h18 h19 h20 h21 4 (by lia) c0 52
 have er':run T 59 21 [.int c0,.int 4]=some (rowPv r):=er
 have et:=text35 h34 h35 r (by have:=hr.len;lia) (fun d h=>by have:=hr.dep d h;lia) 59 (by lia)
 have rl:(rowTxt r).length≤1000:=row_len (by have:=hr.len;lia) hr.dep
 have rb:ans (readB (rowTxt r))=rowPv r:=by
  rw [read_back hr.len (fun d h=>by have:=hr.dep d h;lia) hr.two];rfl
 generalize hsc:PyData.list (ns.map .int)=sc at ec0 ec1 ec2
 have t1:evS (run T 59) (.set 1 (.call 21 (.cons (.call 17 (.cons (.var 0) (.cons (.con (.int 0)) .nil))) (.cons (.con (.int 4)) .nil)))) [.val sc,.un,.un,.un,.un,.un,.un,.un]=some (.nx [.val sc,.val (rowPv r),.un,.un,.un,.un,.un,.un]):=
  set_nx (call2 (call2 rfl rfl ec0) rfl er')
 have t2:evS (run T 59) (.set 2 (.call 17 (.cons (.var 0) (.cons (.con (.int 1)) .nil)))) [.val sc,.val (rowPv r),.un,.un,.un,.un,.un,.un]=some (.nx [.val sc,.val (rowPv r),.val (.int c1),.un,.un,.un,.un,.un]):=set_nx (call2 rfl rfl ec1)
 have t3:evS (run T 59) (.set 3 (.call 35 (.cons (.var 1) .nil))) [.val sc,.val (rowPv r),.val (.int c1),.un,.un,.un,.un,.un]=some (.nx (ρL sc (rowPv r) c1 (rowTxt r) .un .un .un .un)):=set_nx (call1 rfl et)
 have P0:=ans_pl (rowTxt r)
 have t4:evE (run T 59) (.op2 .ne (.call 74 (.cons (.var 3) .nil)) (.var 1)) (ρL sc (rowPv r) c1 (rowTxt r) .un .un .un .un)=some (.bool false):=by
  refine ne_self (call1 (x:=.str (rowTxt r)) rfl (told74 H h74 46 (by lia))) ?_ P0.1 P0.2
  rw [rb];rfl
 obtain ⟨x1,s4,s5,s6,hx1,t5⟩:=many_go H h74 46 sc (rowPv r) c1 (rowTxt r) rl
 obtain ⟨x2,u6,hx2,t6⟩:=changes_go h18 h71 58 sc (rowPv r) c1 x1 hx1 s4 s5 s6 .un
 have P2:=ans_pl x2
 have t7:evS (run T 59) (.set 7 (.call 74 (.cons (.var 3) .nil))) (ρL sc (rowPv r) c1 x2 s4 s5 u6 .un)=some (.nx (ρL sc (rowPv r) c1 x2 s4 s5 u6 (.val (ans (readB x2))))):=set_nx (call1 (x:=.str x2) rfl (told74 H h74 46 (by lia)))
 have t8:evE (run T 59) (.or (.op2 .ne (.var 7) (.call 73 (.cons (.var 3) .nil))) (.and (.op1 .notN (.var 7)) (.op1 .notT (.call 9 (.cons (.var 7) .nil))))) (ρL sc (rowPv r) c1 x2 s4 s5 u6 (.val (ans (readB x2))))=some (.bool false):=by
  have c1':=ne_self (cf:=run T 59) (a:=.var 7) (b:=.call 73 (.cons (.var 3) .nil)) (ρ:=ρL sc (rowPv r) c1 x2 s4 s5 u6 (.val (ans (readB x2)))) rfl (call1 (x:=.str x2) rfl (due73 h72 h73 51 (by lia))) P2.1 P2.2
  refine or_go (s:=false) (t:=false) c1' fun _=>?_
  cases hq:readB x2 with
  | none=>rfl
  | some ds=>
   obtain ⟨pl,_,rb2⟩:=read_pl hq
   have e9:evE (run T 59) (.call 9 (.cons (.var 7) .nil)) (ρL sc (rowPv r) c1 x2 s4 s5 u6 (.val (ans (some ds))))=some (.bool true):=by
    refine call1 (x:=.tuple ds) rfl ?_
    rw [row9 H 47 _ pl,rb2]
   exact and_go (s:=true) (t:=false) rfl fun _=>op1_go e9 rfl
 have t9:evS (run T 59) (.set 2 (.call 17 (.cons (.var 0) (.cons (.con (.int 2)) .nil)))) (ρL sc (rowPv r) c1 x2 s4 s5 u6 (.val (ans (readB x2))))=some (.nx (ρL sc (rowPv r) c2 x2 s4 s5 u6 (.val (ans (readB x2))))):=set_nx (call2 rfl rfl ec2)
 obtain ⟨m,em⟩:∃ m:Nat,c2 % 7=(m:Int):=⟨(c2 % 7).toNat,by lia⟩
 have hm:m≤6:=by lia
 have dx:∀ j:Nat,∃ d:Dm,d.f.dep≤2∧run T 59 20 [.int (drawnI c2 (j:Nat)),.int 2]=some d.pv:=fun j=>demand_ex h18 h19 h20 2 (drawnI c2 (j:Nat)) 54
 have dr:=fun j:Nat=>drawn_run h18 58 c2 (j:Nat)
 have cmp:∀ ρ:Env,ρ=ρL sc (rowPv r) c2 x2 s4 s5 u6 (.val (ans (readB x2)))→evE (run T 59) (.op1 .toTuple (.comp none [2] (.rng (.op2 .mod (.var 2) (.con (.int 7)))) (.con (.bool true)) (.call 20 (.cons (.call 18 (.cons (.var 1) (.cons (.var 0) .nil))) (.cons (.con (.int 2)) .nil))))) ρ=some (rowPv ((List.range m).map fun j=>Classical.choose (dx j))):=by
  rintro ρ rfl
  have rg:evE (run T 59) (.rng (.op2 .mod (.var 2) (.con (.int 7)))) (ρL sc (rowPv r) c2 x2 s4 s5 u6 (.val (ans (readB x2))))=some (.list ((List.range m).map fun k=>.int (k:Nat))):=by
   refine rng_run ?_ (by lia)
   rw [← em]
   exact mod_go rfl rfl (by decide)
  refine op1_go (x:=.list ((List.range m).map fun j=>(Classical.choose (dx j)).pv)) ?_ ?_
  ·rw [evE,rg,bnd_some]
   show bnd (compF _ ((List.range m).map fun k=>PyData.int (k:Nat))) _=_
   rw [comp_all (fun k:Nat=>PyData.int (k:Nat)) (fun j=>(Classical.choose (dx j)).pv) (List.range m)]
   ·rfl
   ·intro j _
    have e20:evE (run T 59) (.call 20 (.cons (.call 18 (.cons (.var 1) (.cons (.var 0) .nil))) (.cons (.con (.int 2)) .nil))) [.val (.int (j:Nat)),.val (.int c2)]=some (Classical.choose (dx j)).pv:=
     call2 (call2 (x:=.int c2) (y:=.int (j:Nat)) rfl rfl (dr j)) rfl (Classical.choose_spec (dx j)).2
    show bnd (evE (run T 59) (.call 20 (.cons (.call 18 (.cons (.var 1) (.cons (.var 0) .nil))) (.cons (.con (.int 2)) .nil))) [.val (.int (j:Nat)),.val (.int c2)]) eltF=_
    rw [e20,bnd_some,eltF_e1,isDict_dm];rfl
  ·show some (PyData.tuple _)=_
   unfold rowPv
   rw [List.map_map];rfl
 have rd2:∀ d∈(List.range m).map fun j=>Classical.choose (dx j),d.f.dep≤2:=fun d hd=>by
  obtain ⟨j,_,rfl⟩:=List.mem_map.mp hd
  exact (Classical.choose_spec (dx j)).1
 have rl2:((List.range m).map fun j=>Classical.choose (dx j)).length=m:=by rw [List.length_map,List.length_range]
 generalize (List.range m).map (fun j=>Classical.choose (dx j))=q at cmp rd2 rl2
 have et2:=text35 h34 h35 q (by lia) (fun d h=>by have:=rd2 d h;lia) 59 (by lia)
 have ql:(rowTxt q).length≤1000:=row_len (by lia) fun d h=>by have:=rd2 d h;lia
 have t10:evS (run T 59) (.set 3 (.call 35 (.cons (.op1 .toTuple (.comp none [2] (.rng (.op2 .mod (.var 2) (.con (.int 7)))) (.con (.bool true)) (.call 20 (.cons (.call 18 (.cons (.var 1) (.cons (.var 0) .nil))) (.cons (.con (.int 2)) .nil))))) .nil))) (ρL sc (rowPv r) c2 x2 s4 s5 u6 (.val (ans (readB x2))))=some (.nx (ρL sc (rowPv r) c2 (rowTxt q) s4 s5 u6 (.val (ans (readB x2))))):=set_nx (call1 (cmp _ rfl) et2)
 have P3:=ans_pl (rowTxt q)
 have t11:evE (run T 59) (.op2 .eq (.call 74 (.cons (.var 3) .nil)) (.call 73 (.cons (.var 3) .nil))) (ρL sc (rowPv r) c2 (rowTxt q) s4 s5 u6 (.val (ans (readB x2))))=some (.bool true):=
  eq_self' (call1 (x:=.str (rowTxt q)) rfl (told74 H h74 46 (by lia))) (call1 (x:=.str (rowTxt q)) rfl (due73 h72 h73 51 (by lia))) P3.1 P3.2
 have key:evS (run T 59) b75 [.val sc,.un,.un,.un,.un,.un,.un,.un]=some (.rt (.bool true)):=by
  unfold b75
  exact seq_nx t1 (seq_nx t2 (seq_nx t3 (seq_nx (ife_f t4 rfl rfl) (seq_nx t5 (seq_nx t6 (seq_nx t7 (seq_nx (ife_f t8 rfl rfl) (seq_nx t9 (seq_nx t10 (ret_rt t11))))))))))
 exact congrArg outV key
end DD
namespace K03
open PySem PySem.Spec PyProof.Rows L2 DD
noncomputable def top (i:Nat):Stmt:=PySem.Challenge.pw_twonamed_k03_whole_read.main.body.getD i (.Pass ⟨0,0,0,0⟩)
noncomputable def Gam0:Info:={
 fns:=[]
 consts:=[("PLAIN_FORMS",.tuple [.str "yes",.str "no"]),("MARK_WORDS",.tuple [.str "a",.str "b"]),("ARROW_WORD",.str "to"),("NOT_WORD",.str "not"),("PAIRING_WORDS",.tuple [.str "both",.str "either"]),("NAMES",.tuple [.str "x",.str "y"]),("DEEPEST_FORM",.int (5)),("DEMAND_WORDS",.tuple [.str "each",.str "some"]),("MARK_START",.tuple [.str "some",.str "each"]),("MOST_DEMANDS",.int (4)),("MOST_MARKS",.int (2))]
 blts:=["ValueError","all","int","isinstance","len","range","str","tuple"]
 dcts:=[("FLAT_FORMS",[(.str "yes",.str "yes"),(.str "no",.str "no"),(.str "ax",.tuple [.str "a",.str "x"]),(.str "ay",.tuple [.str "a",.str "y"]),(.str "bx",.tuple [.str "b",.str "x"]),(.str "by",.tuple [.str "b",.str "y"]),(.str "xx",.tuple [.str "to",.str "x",.str "x"]),(.str "xy",.tuple [.str "to",.str "x",.str "y"]),(.str "yx",.tuple [.str "to",.str "y",.str "x"]),(.str "yy",.tuple [.str "to",.str "y",.str "y"])]),("FORMS_BEHIND",[(.str "not",.int (1)),(.str "both",.int (2)),(.str "either",.int (2))])]}
noncomputable def Gam:Info:={Gam0 with fns:=[("is_tuple_of",0,2),("is_mark_form",2,1),("is_arrow_form",3,1),("is_flat_form",4,1),("is_form_within",5,2),("is_form",6,1),("is_demand",7,1),("count_marks",8,1),("is_row",9,1),("_law_cell_at",16,2),("_law_mixed",17,2),("_law_drawn",18,2),("_law_form",19,2),("_law_demand",20,2),("_law_row",21,2),("_law_words",34,1),("_law_text",35,1),("_law_changed",71,2),("_law_form_in",72,3),("_law_due",73,1),("_law_told",74,1),("law",75,1)]}
noncomputable def Gams:Info:={Gam0 with fns:=[("is_tuple_of",0,2),("is_mark_form",2,1),("is_arrow_form",3,1),("is_flat_form",4,1),("is_form_within",5,2),("is_form",6,1),("is_demand",7,1),("count_marks",8,1),("is_row",9,1)]}
noncomputable def Gamr:Info:={Gam0 with fns:=[("is_row",9,1)]}
noncomputable abbrev d0:DI:=⟨"is_tuple_of",0,top 15,["thing","length"],["thing","length"]⟩
theorem s0:FnScope d0.N d0.ps (defScope d0.st):=⟨rfl,rfl,rfl,by decide +kernel,rfl,by decide +kernel,by decide +kernel⟩
theorem c0:∃ B,tab d0.id=some B∧d0.ps.length=B.np∧d0.N.length=B.ns∧B.np≤B.ns∧chkBody Gams 200 200 d0.N (defScope d0.st).names B.body (defBody d0.st)=true:=⟨f0,rfl,rfl,rfl,by decide,by decide +kernel⟩
noncomputable abbrev d2:DI:=⟨"is_mark_form",2,top 16,["thing"],["thing"]⟩
theorem s2:FnScope d2.N d2.ps (defScope d2.st):=⟨rfl,rfl,rfl,by decide +kernel,rfl,by decide +kernel,by decide +kernel⟩
theorem c2:∃ B,tab d2.id=some B∧d2.ps.length=B.np∧d2.N.length=B.ns∧B.np≤B.ns∧chkBody Gams 200 200 d2.N (defScope d2.st).names B.body (defBody d2.st)=true:=⟨f2,rfl,rfl,rfl,by decide,by decide +kernel⟩
noncomputable abbrev d3:DI:=⟨"is_arrow_form",3,top 17,["thing"],["thing"]⟩
theorem s3:FnScope d3.N d3.ps (defScope d3.st):=⟨rfl,rfl,rfl,by decide +kernel,rfl,by decide +kernel,by decide +kernel⟩
theorem c3:∃ B,tab d3.id=some B∧d3.ps.length=B.np∧d3.N.length=B.ns∧B.np≤B.ns∧chkBody Gams 200 200 d3.N (defScope d3.st).names B.body (defBody d3.st)=true:=⟨f3,rfl,rfl,rfl,by decide,by decide +kernel⟩
noncomputable abbrev d4:DI:=⟨"is_flat_form",4,top 18,["thing"],["thing"]⟩
theorem s4:FnScope d4.N d4.ps (defScope d4.st):=⟨rfl,rfl,rfl,by decide +kernel,rfl,by decide +kernel,by decide +kernel⟩
theorem c4:∃ B,tab d4.id=some B∧d4.ps.length=B.np∧d4.N.length=B.ns∧B.np≤B.ns∧chkBody Gams 200 200 d4.N (defScope d4.st).names B.body (defBody d4.st)=true:=⟨f4,rfl,rfl,rfl,by decide,by decide +kernel⟩
noncomputable abbrev d5:DI:=⟨"is_form_within",5,top 19,["thing","depth"],["thing","depth"]⟩
theorem s5:FnScope d5.N d5.ps (defScope d5.st):=⟨rfl,rfl,rfl,by decide +kernel,rfl,by decide +kernel,by decide +kernel⟩
theorem c5:∃ B,tab d5.id=some B∧d5.ps.length=B.np∧d5.N.length=B.ns∧B.np≤B.ns∧chkBody Gams 200 200 d5.N (defScope d5.st).names B.body (defBody d5.st)=true:=⟨f5,rfl,rfl,rfl,by decide,by decide +kernel⟩
noncomputable abbrev d6:DI:=⟨"is_form",6,top 20,["thing"],["thing"]⟩
theorem s6:FnScope d6.N d6.ps (defScope d6.st):=⟨rfl,rfl,rfl,by decide +kernel,rfl,by decide +kernel,by decide +kernel⟩
theorem c6:∃ B,tab d6.id=some B∧d6.ps.length=B.np∧d6.N.length=B.ns∧B.np≤B.ns∧chkBody Gams 200 200 d6.N (defScope d6.st).names B.body (defBody d6.st)=true:=⟨f6,rfl,rfl,rfl,by decide,by decide +kernel⟩
noncomputable abbrev d7:DI:=⟨"is_demand",7,top 21,["thing"],["thing"]⟩
theorem s7:FnScope d7.N d7.ps (defScope d7.st):=⟨rfl,rfl,rfl,by decide +kernel,rfl,by decide +kernel,by decide +kernel⟩
theorem c7:∃ B,tab d7.id=some B∧d7.ps.length=B.np∧d7.N.length=B.ns∧B.np≤B.ns∧chkBody Gams 200 200 d7.N (defScope d7.st).names B.body (defBody d7.st)=true:=⟨f7,rfl,rfl,rfl,by decide,by decide +kernel⟩
noncomputable abbrev d8:DI:=⟨"count_marks",8,top 22,["demands"],["demands"]⟩
theorem s8:FnScope d8.N d8.ps (defScope d8.st):=⟨rfl,rfl,rfl,by decide +kernel,rfl,by decide +kernel,by decide +kernel⟩
theorem c8:∃ B,tab d8.id=some B∧d8.ps.length=B.np∧d8.N.length=B.ns∧B.np≤B.ns∧chkBody Gams 200 200 d8.N (defScope d8.st).names B.body (defBody d8.st)=true:=⟨f8,rfl,rfl,rfl,by decide,by decide +kernel⟩
noncomputable abbrev d9:DI:=⟨"is_row",9,top 23,["thing"],["thing"]⟩
theorem s9:FnScope d9.N d9.ps (defScope d9.st):=⟨rfl,rfl,rfl,by decide +kernel,rfl,by decide +kernel,by decide +kernel⟩
theorem c9:∃ B,tab d9.id=some B∧d9.ps.length=B.np∧d9.N.length=B.ns∧B.np≤B.ns∧chkBody Gams 200 200 d9.N (defScope d9.st).names B.body (defBody d9.st)=true:=⟨f9,rfl,rfl,rfl,by decide,by decide +kernel⟩
noncomputable abbrev d68:DI:=⟨"read_form",68,top 27,["words","place","depth","word","parts","behind","found"],["words","place","depth"]⟩
theorem s68:FnScope d68.N d68.ps (defScope d68.st):=⟨rfl,rfl,rfl,by decide +kernel,rfl,by decide +kernel,by decide +kernel⟩
theorem c68:chkX Gam0 [(d68.x,d68.id,3)] d68.N (defScope d68.st).names x68 (defBody d68.st)=true:=by decide +kernel
noncomputable abbrev d69:DI:=⟨"read_demand",69,top 28,["text","words","found"],["text"]⟩
theorem s69:FnScope d69.N d69.ps (defScope d69.st):=⟨rfl,rfl,rfl,by decide +kernel,rfl,by decide +kernel,by decide +kernel⟩
theorem c69:chkX Gam0 [(d68.x,d68.id,3)] d69.N (defScope d69.st).names x69 (defBody d69.st)=true:=by decide +kernel
noncomputable abbrev d70:DI:=⟨"read",70,top 29,["text","row"],["text"]⟩
theorem s70:FnScope d70.N d70.ps (defScope d70.st):=⟨rfl,rfl,rfl,by decide +kernel,rfl,by decide +kernel,by decide +kernel⟩
theorem c70:chkX Gamr [(d69.x,d69.id,1)] d70.N (defScope d70.st).names x70 (defBody d70.st)=true:=by decide +kernel
noncomputable abbrev d16:DI:=⟨"_law_cell_at",16,top 31,["_law_script","_law_k"],["_law_script","_law_k"]⟩
theorem s16:FnScope d16.N d16.ps (defScope d16.st):=⟨rfl,rfl,rfl,by decide +kernel,rfl,by decide +kernel,by decide +kernel⟩
theorem c16:∃ B,tab d16.id=some B∧d16.ps.length=B.np∧d16.N.length=B.ns∧B.np≤B.ns∧chkBody Gam 200 200 d16.N (defScope d16.st).names B.body (defBody d16.st)=true:=⟨f16,rfl,rfl,rfl,by decide,by decide +kernel⟩
noncomputable abbrev d17:DI:=⟨"_law_mixed",17,top 32,["_law_script","_law_k","_law_drawn_here"],["_law_script","_law_k"]⟩
theorem s17:FnScope d17.N d17.ps (defScope d17.st):=⟨rfl,rfl,rfl,by decide +kernel,rfl,by decide +kernel,by decide +kernel⟩
theorem c17:∃ B,tab d17.id=some B∧d17.ps.length=B.np∧d17.N.length=B.ns∧B.np≤B.ns∧chkBody Gam 200 200 d17.N (defScope d17.st).names B.body (defBody d17.st)=true:=⟨f17,rfl,rfl,rfl,by decide,by decide +kernel⟩
noncomputable abbrev d18:DI:=⟨"_law_drawn",18,top 33,["_law_number","_law_k","_law_drawn_here"],["_law_number","_law_k"]⟩
theorem s18:FnScope d18.N d18.ps (defScope d18.st):=⟨rfl,rfl,rfl,by decide +kernel,rfl,by decide +kernel,by decide +kernel⟩
theorem c18:∃ B,tab d18.id=some B∧d18.ps.length=B.np∧d18.N.length=B.ns∧B.np≤B.ns∧chkBody Gam 200 200 d18.N (defScope d18.st).names B.body (defBody d18.st)=true:=⟨f18,rfl,rfl,rfl,by decide,by decide +kernel⟩
noncomputable abbrev d19:DI:=⟨"_law_form",19,top 34,["_law_number","_law_deep","_law_kind","_law_some","_law_one","_law_other"],["_law_number","_law_deep"]⟩
theorem s19:FnScope d19.N d19.ps (defScope d19.st):=⟨rfl,rfl,rfl,by decide +kernel,rfl,by decide +kernel,by decide +kernel⟩
theorem c19:∃ B,tab d19.id=some B∧d19.ps.length=B.np∧d19.N.length=B.ns∧B.np≤B.ns∧chkBody Gam 200 200 d19.N (defScope d19.st).names B.body (defBody d19.st)=true:=⟨f19,rfl,rfl,rfl,by decide,by decide +kernel⟩
noncomputable abbrev d20:DI:=⟨"_law_demand",20,top 35,["_law_number","_law_deep","_law_one","_law_other"],["_law_number","_law_deep"]⟩
theorem s20:FnScope d20.N d20.ps (defScope d20.st):=⟨rfl,rfl,rfl,by decide +kernel,rfl,by decide +kernel,by decide +kernel⟩
theorem c20:∃ B,tab d20.id=some B∧d20.ps.length=B.np∧d20.N.length=B.ns∧B.np≤B.ns∧chkBody Gam 200 200 d20.N (defScope d20.st).names B.body (defBody d20.st)=true:=⟨f20,rfl,rfl,rfl,by decide,by decide +kernel⟩
noncomputable abbrev d21:DI:=⟨"_law_row",21,top 36,["_law_number","_law_most","_law_found","_law_k","_law_demand_here","_law_marks"],["_law_number","_law_most"]⟩
theorem s21:FnScope d21.N d21.ps (defScope d21.st):=⟨rfl,rfl,rfl,by decide +kernel,rfl,by decide +kernel,by decide +kernel⟩
theorem c21:∃ B,tab d21.id=some B∧d21.ps.length=B.np∧d21.N.length=B.ns∧B.np≤B.ns∧chkBody Gam 200 200 d21.N (defScope d21.st).names B.body (defBody d21.st)=true:=⟨f21,rfl,rfl,rfl,by decide,by decide +kernel⟩
noncomputable abbrev d34:DI:=⟨"_law_words",34,top 37,["_law_form_here"],["_law_form_here"]⟩
theorem s34:FnScope d34.N d34.ps (defScope d34.st):=⟨rfl,rfl,rfl,by decide +kernel,rfl,by decide +kernel,by decide +kernel⟩
theorem c34:∃ B,tab d34.id=some B∧d34.ps.length=B.np∧d34.N.length=B.ns∧B.np≤B.ns∧chkBody Gam 200 200 d34.N (defScope d34.st).names B.body (defBody d34.st)=true:=⟨f34,rfl,rfl,rfl,by decide,by decide +kernel⟩
noncomputable abbrev d35:DI:=⟨"_law_text",35,top 38,["_law_row_here"],["_law_row_here"]⟩
theorem s35:FnScope d35.N d35.ps (defScope d35.st):=⟨rfl,rfl,rfl,by decide +kernel,rfl,by decide +kernel,by decide +kernel⟩
theorem c35:∃ B,tab d35.id=some B∧d35.ps.length=B.np∧d35.N.length=B.ns∧B.np≤B.ns∧chkBody Gam 200 200 d35.N (defScope d35.st).names B.body (defBody d35.st)=true:=⟨f35,rfl,rfl,rfl,by decide,by decide +kernel⟩
noncomputable abbrev d71:DI:=⟨"_law_changed",71,top 39,["_law_text_here","_law_number","_law_at","_law_letter","_law_pieces","_law_some"],["_law_text_here","_law_number"]⟩
theorem s71:FnScope d71.N d71.ps (defScope d71.st):=⟨rfl,rfl,rfl,by decide +kernel,rfl,by decide +kernel,by decide +kernel⟩
theorem c71:∃ B,tab d71.id=some B∧d71.ps.length=B.np∧d71.N.length=B.ns∧B.np≤B.ns∧chkBody Gam 200 200 d71.N (defScope d71.st).names B.body (defBody d71.st)=true:=⟨f71,rfl,rfl,rfl,by decide,by decide +kernel⟩
noncomputable abbrev d72:DI:=⟨"_law_form_in",72,top 40,["_law_words_here","_law_at","_law_deep","_law_word","_law_found","_law_k","_law_part"],["_law_words_here","_law_at","_law_deep"]⟩
theorem s72:FnScope d72.N d72.ps (defScope d72.st):=⟨rfl,rfl,rfl,by decide +kernel,rfl,by decide +kernel,by decide +kernel⟩
theorem c72:∃ B,tab d72.id=some B∧d72.ps.length=B.np∧d72.N.length=B.ns∧B.np≤B.ns∧chkBody Gam 200 200 d72.N (defScope d72.st).names B.body (defBody d72.st)=true:=⟨f72,rfl,rfl,rfl,by decide,by decide +kernel⟩
noncomputable abbrev d73:DI:=⟨"_law_due",73,top 41,["_law_text_here","_law_found","_law_marks","_law_part","_law_words_here","_law_form_here","_law_at"],["_law_text_here"]⟩
theorem s73:FnScope d73.N d73.ps (defScope d73.st):=⟨rfl,rfl,rfl,by decide +kernel,rfl,by decide +kernel,by decide +kernel⟩
theorem c73:∃ B,tab d73.id=some B∧d73.ps.length=B.np∧d73.N.length=B.ns∧B.np≤B.ns∧chkBody Gam 200 200 d73.N (defScope d73.st).names B.body (defBody d73.st)=true:=⟨f73,rfl,rfl,rfl,by decide,by decide +kernel⟩
noncomputable abbrev d74:DI:=⟨"_law_told",74,top 42,["_law_text_here","_law_found","e"],["_law_text_here"]⟩
theorem s74:FnScope d74.N d74.ps (defScope d74.st):=⟨rfl,rfl,rfl,by decide +kernel,rfl,by decide +kernel,by decide +kernel⟩
theorem b74:∃ last e0,ToldB (defBody d74.st) last e0 "_law_found" d70.x "NoText" "e" "DemandError" "ValueError"∧chkS Gam0 d74.N (defScope d74.st).names (chkE Gam0 200 d74.N (defScope d74.st).names) (chkBody Gam0 200 200 d74.N (defScope d74.st).names) lastE last=true∧chkA (chkE Gam0 200 d74.N (defScope d74.st).names) (.cons (.var 0) .nil) [e0]=true∧plainE e0=true:=⟨_,_,⟨⟨_,_,_,_,_,_,_,_,_,_,_,_,_,_,_,_,_,_,_,_,_,_,_,_,_,rfl⟩⟩,by decide +kernel,by decide +kernel,by decide +kernel⟩
noncomputable abbrev d75:DI:=⟨"law",75,top 43,["_law_script","_law_row_here","_law_number","_law_text_here","_law_many","_law_due_here","_law_k","_law_found"],["_law_script"]⟩
theorem s75:FnScope d75.N d75.ps (defScope d75.st):=⟨rfl,rfl,rfl,by decide +kernel,rfl,by decide +kernel,by decide +kernel⟩
theorem c75:∃ B,tab d75.id=some B∧d75.ps.length=B.np∧d75.N.length=B.ns∧B.np≤B.ns∧chkBody Gam 200 200 d75.N (defScope d75.st).names B.body (defBody d75.st)=true:=⟨f75,rfl,rfl,rfl,by decide,by decide +kernel⟩
theorem all_mk {l:PySem.W.OpenLaw} {w:World} {K:PySem.W.Frag} {h:Heap} {mg:Str→Option Value} {fa:Addr} (X:K.In h) (G:h.Ns mainGlobals mg) (hfa:mg "law"=some (.ref fa))
  {f0:Addr} {od0 an0:Option Addr} {sl0:Array (Option Value)} {oc0 kV0 dc0 pm0 cd0 ct0:Value}
  (a0:PySem.W.nsIn K mainGlobals "is_tuple_of"=some (some (.ref f0))) (l0:K.lookup f0=some ⟨oc0,od0,.func (PySem.W.fnOf "is_tuple_of" "is_tuple_of" (defArgs (top 15)) (defBody (top 15)) (defScope (top 15)) .none kV0 dc0 pm0 an0 cd0 ct0),sl0⟩) (c0:PySem.W.codeIn K cd0 "is_tuple_of"=true) (k0:PySem.W.keepIn K (.ref f0)=true)
  {f2:Addr} {od2 an2:Option Addr} {sl2:Array (Option Value)} {oc2 kV2 dc2 pm2 cd2 ct2:Value}
  (a2:PySem.W.nsIn K mainGlobals "is_mark_form"=some (some (.ref f2))) (l2:K.lookup f2=some ⟨oc2,od2,.func (PySem.W.fnOf "is_mark_form" "is_mark_form" (defArgs (top 16)) (defBody (top 16)) (defScope (top 16)) .none kV2 dc2 pm2 an2 cd2 ct2),sl2⟩) (c2:PySem.W.codeIn K cd2 "is_mark_form"=true) (k2:PySem.W.keepIn K (.ref f2)=true)
  {f3:Addr} {od3 an3:Option Addr} {sl3:Array (Option Value)} {oc3 kV3 dc3 pm3 cd3 ct3:Value}
  (a3:PySem.W.nsIn K mainGlobals "is_arrow_form"=some (some (.ref f3))) (l3:K.lookup f3=some ⟨oc3,od3,.func (PySem.W.fnOf "is_arrow_form" "is_arrow_form" (defArgs (top 17)) (defBody (top 17)) (defScope (top 17)) .none kV3 dc3 pm3 an3 cd3 ct3),sl3⟩) (c3:PySem.W.codeIn K cd3 "is_arrow_form"=true) (k3:PySem.W.keepIn K (.ref f3)=true)
  {f4:Addr} {od4 an4:Option Addr} {sl4:Array (Option Value)} {oc4 kV4 dc4 pm4 cd4 ct4:Value}
  (a4:PySem.W.nsIn K mainGlobals "is_flat_form"=some (some (.ref f4))) (l4:K.lookup f4=some ⟨oc4,od4,.func (PySem.W.fnOf "is_flat_form" "is_flat_form" (defArgs (top 18)) (defBody (top 18)) (defScope (top 18)) .none kV4 dc4 pm4 an4 cd4 ct4),sl4⟩) (c4:PySem.W.codeIn K cd4 "is_flat_form"=true) (k4:PySem.W.keepIn K (.ref f4)=true)
  {f5:Addr} {od5 an5:Option Addr} {sl5:Array (Option Value)} {oc5 kV5 dc5 pm5 cd5 ct5:Value}
  (a5:PySem.W.nsIn K mainGlobals "is_form_within"=some (some (.ref f5))) (l5:K.lookup f5=some ⟨oc5,od5,.func (PySem.W.fnOf "is_form_within" "is_form_within" (defArgs (top 19)) (defBody (top 19)) (defScope (top 19)) .none kV5 dc5 pm5 an5 cd5 ct5),sl5⟩) (c5:PySem.W.codeIn K cd5 "is_form_within"=true) (k5:PySem.W.keepIn K (.ref f5)=true)
  {f6:Addr} {od6 an6:Option Addr} {sl6:Array (Option Value)} {oc6 kV6 dc6 pm6 cd6 ct6:Value}
  (a6:PySem.W.nsIn K mainGlobals "is_form"=some (some (.ref f6))) (l6:K.lookup f6=some ⟨oc6,od6,.func (PySem.W.fnOf "is_form" "is_form" (defArgs (top 20)) (defBody (top 20)) (defScope (top 20)) .none kV6 dc6 pm6 an6 cd6 ct6),sl6⟩) (c6:PySem.W.codeIn K cd6 "is_form"=true) (k6:PySem.W.keepIn K (.ref f6)=true)
  {f7:Addr} {od7 an7:Option Addr} {sl7:Array (Option Value)} {oc7 kV7 dc7 pm7 cd7 ct7:Value}
  (a7:PySem.W.nsIn K mainGlobals "is_demand"=some (some (.ref f7))) (l7:K.lookup f7=some ⟨oc7,od7,.func (PySem.W.fnOf "is_demand" "is_demand" (defArgs (top 21)) (defBody (top 21)) (defScope (top 21)) .none kV7 dc7 pm7 an7 cd7 ct7),sl7⟩) (c7:PySem.W.codeIn K cd7 "is_demand"=true) (k7:PySem.W.keepIn K (.ref f7)=true)
  {f8:Addr} {od8 an8:Option Addr} {sl8:Array (Option Value)} {oc8 kV8 dc8 pm8 cd8 ct8:Value}
  (a8:PySem.W.nsIn K mainGlobals "count_marks"=some (some (.ref f8))) (l8:K.lookup f8=some ⟨oc8,od8,.func (PySem.W.fnOf "count_marks" "count_marks" (defArgs (top 22)) (defBody (top 22)) (defScope (top 22)) .none kV8 dc8 pm8 an8 cd8 ct8),sl8⟩) (c8:PySem.W.codeIn K cd8 "count_marks"=true) (k8:PySem.W.keepIn K (.ref f8)=true)
  {f9:Addr} {od9 an9:Option Addr} {sl9:Array (Option Value)} {oc9 kV9 dc9 pm9 cd9 ct9:Value}
  (a9:PySem.W.nsIn K mainGlobals "is_row"=some (some (.ref f9))) (l9:K.lookup f9=some ⟨oc9,od9,.func (PySem.W.fnOf "is_row" "is_row" (defArgs (top 23)) (defBody (top 23)) (defScope (top 23)) .none kV9 dc9 pm9 an9 cd9 ct9),sl9⟩) (c9:PySem.W.codeIn K cd9 "is_row"=true) (k9:PySem.W.keepIn K (.ref f9)=true)
  {f68:Addr} {od68 an68:Option Addr} {sl68:Array (Option Value)} {oc68 kV68 dc68 pm68 cd68 ct68:Value}
  (a68:PySem.W.nsIn K mainGlobals "read_form"=some (some (.ref f68))) (l68:K.lookup f68=some ⟨oc68,od68,.func (PySem.W.fnOf "read_form" "read_form" (defArgs (top 27)) (defBody (top 27)) (defScope (top 27)) .none kV68 dc68 pm68 an68 cd68 ct68),sl68⟩) (c68:PySem.W.codeIn K cd68 "read_form"=true) (k68:PySem.W.keepIn K (.ref f68)=true)
  {f69:Addr} {od69 an69:Option Addr} {sl69:Array (Option Value)} {oc69 kV69 dc69 pm69 cd69 ct69:Value}
  (a69:PySem.W.nsIn K mainGlobals "read_demand"=some (some (.ref f69))) (l69:K.lookup f69=some ⟨oc69,od69,.func (PySem.W.fnOf "read_demand" "read_demand" (defArgs (top 28)) (defBody (top 28)) (defScope (top 28)) .none kV69 dc69 pm69 an69 cd69 ct69),sl69⟩) (c69:PySem.W.codeIn K cd69 "read_demand"=true) (k69:PySem.W.keepIn K (.ref f69)=true)
  {f70:Addr} {od70 an70:Option Addr} {sl70:Array (Option Value)} {oc70 kV70 dc70 pm70 cd70 ct70:Value}
  (a70:PySem.W.nsIn K mainGlobals "read"=some (some (.ref f70))) (l70:K.lookup f70=some ⟨oc70,od70,.func (PySem.W.fnOf "read" "read" (defArgs (top 29)) (defBody (top 29)) (defScope (top 29)) .none kV70 dc70 pm70 an70 cd70 ct70),sl70⟩) (c70:PySem.W.codeIn K cd70 "read"=true) (k70:PySem.W.keepIn K (.ref f70)=true)
  {f16:Addr} {od16 an16:Option Addr} {sl16:Array (Option Value)} {oc16 kV16 dc16 pm16 cd16 ct16:Value}
  (a16:PySem.W.nsIn K mainGlobals "_law_cell_at"=some (some (.ref f16))) (l16:K.lookup f16=some ⟨oc16,od16,.func (PySem.W.fnOf "_law_cell_at" "_law_cell_at" (defArgs (top 31)) (defBody (top 31)) (defScope (top 31)) .none kV16 dc16 pm16 an16 cd16 ct16),sl16⟩) (c16:PySem.W.codeIn K cd16 "_law_cell_at"=true) (k16:PySem.W.keepIn K (.ref f16)=true)
  {f17:Addr} {od17 an17:Option Addr} {sl17:Array (Option Value)} {oc17 kV17 dc17 pm17 cd17 ct17:Value}
  (a17:PySem.W.nsIn K mainGlobals "_law_mixed"=some (some (.ref f17))) (l17:K.lookup f17=some ⟨oc17,od17,.func (PySem.W.fnOf "_law_mixed" "_law_mixed" (defArgs (top 32)) (defBody (top 32)) (defScope (top 32)) .none kV17 dc17 pm17 an17 cd17 ct17),sl17⟩) (c17:PySem.W.codeIn K cd17 "_law_mixed"=true) (k17:PySem.W.keepIn K (.ref f17)=true)
  {f18:Addr} {od18 an18:Option Addr} {sl18:Array (Option Value)} {oc18 kV18 dc18 pm18 cd18 ct18:Value}
  (a18:PySem.W.nsIn K mainGlobals "_law_drawn"=some (some (.ref f18))) (l18:K.lookup f18=some ⟨oc18,od18,.func (PySem.W.fnOf "_law_drawn" "_law_drawn" (defArgs (top 33)) (defBody (top 33)) (defScope (top 33)) .none kV18 dc18 pm18 an18 cd18 ct18),sl18⟩) (c18:PySem.W.codeIn K cd18 "_law_drawn"=true) (k18:PySem.W.keepIn K (.ref f18)=true)
  {f19:Addr} {od19 an19:Option Addr} {sl19:Array (Option Value)} {oc19 kV19 dc19 pm19 cd19 ct19:Value}
  (a19:PySem.W.nsIn K mainGlobals "_law_form"=some (some (.ref f19))) (l19:K.lookup f19=some ⟨oc19,od19,.func (PySem.W.fnOf "_law_form" "_law_form" (defArgs (top 34)) (defBody (top 34)) (defScope (top 34)) .none kV19 dc19 pm19 an19 cd19 ct19),sl19⟩) (c19:PySem.W.codeIn K cd19 "_law_form"=true) (k19:PySem.W.keepIn K (.ref f19)=true)
  {f20:Addr} {od20 an20:Option Addr} {sl20:Array (Option Value)} {oc20 kV20 dc20 pm20 cd20 ct20:Value}
  (a20:PySem.W.nsIn K mainGlobals "_law_demand"=some (some (.ref f20))) (l20:K.lookup f20=some ⟨oc20,od20,.func (PySem.W.fnOf "_law_demand" "_law_demand" (defArgs (top 35)) (defBody (top 35)) (defScope (top 35)) .none kV20 dc20 pm20 an20 cd20 ct20),sl20⟩) (c20:PySem.W.codeIn K cd20 "_law_demand"=true) (k20:PySem.W.keepIn K (.ref f20)=true)
  {f21:Addr} {od21 an21:Option Addr} {sl21:Array (Option Value)} {oc21 kV21 dc21 pm21 cd21 ct21:Value}
  (a21:PySem.W.nsIn K mainGlobals "_law_row"=some (some (.ref f21))) (l21:K.lookup f21=some ⟨oc21,od21,.func (PySem.W.fnOf "_law_row" "_law_row" (defArgs (top 36)) (defBody (top 36)) (defScope (top 36)) .none kV21 dc21 pm21 an21 cd21 ct21),sl21⟩) (c21:PySem.W.codeIn K cd21 "_law_row"=true) (k21:PySem.W.keepIn K (.ref f21)=true)
  {f34:Addr} {od34 an34:Option Addr} {sl34:Array (Option Value)} {oc34 kV34 dc34 pm34 cd34 ct34:Value}
  (a34:PySem.W.nsIn K mainGlobals "_law_words"=some (some (.ref f34))) (l34:K.lookup f34=some ⟨oc34,od34,.func (PySem.W.fnOf "_law_words" "_law_words" (defArgs (top 37)) (defBody (top 37)) (defScope (top 37)) .none kV34 dc34 pm34 an34 cd34 ct34),sl34⟩) (c34:PySem.W.codeIn K cd34 "_law_words"=true) (k34:PySem.W.keepIn K (.ref f34)=true)
  {f35:Addr} {od35 an35:Option Addr} {sl35:Array (Option Value)} {oc35 kV35 dc35 pm35 cd35 ct35:Value}
  (a35:PySem.W.nsIn K mainGlobals "_law_text"=some (some (.ref f35))) (l35:K.lookup f35=some ⟨oc35,od35,.func (PySem.W.fnOf "_law_text" "_law_text" (defArgs (top 38)) (defBody (top 38)) (defScope (top 38)) .none kV35 dc35 pm35 an35 cd35 ct35),sl35⟩) (c35:PySem.W.codeIn K cd35 "_law_text"=true) (k35:PySem.W.keepIn K (.ref f35)=true)
  {f71:Addr} {od71 an71:Option Addr} {sl71:Array (Option Value)} {oc71 kV71 dc71 pm71 cd71 ct71:Value}
  (a71:PySem.W.nsIn K mainGlobals "_law_changed"=some (some (.ref f71))) (l71:K.lookup f71=some ⟨oc71,od71,.func (PySem.W.fnOf "_law_changed" "_law_changed" (defArgs (top 39)) (defBody (top 39)) (defScope (top 39)) .none kV71 dc71 pm71 an71 cd71 ct71),sl71⟩) (c71:PySem.W.codeIn K cd71 "_law_changed"=true) (k71:PySem.W.keepIn K (.ref f71)=true)
  {f72:Addr} {od72 an72:Option Addr} {sl72:Array (Option Value)} {oc72 kV72 dc72 pm72 cd72 ct72:Value}
  (a72:PySem.W.nsIn K mainGlobals "_law_form_in"=some (some (.ref f72))) (l72:K.lookup f72=some ⟨oc72,od72,.func (PySem.W.fnOf "_law_form_in" "_law_form_in" (defArgs (top 40)) (defBody (top 40)) (defScope (top 40)) .none kV72 dc72 pm72 an72 cd72 ct72),sl72⟩) (c72:PySem.W.codeIn K cd72 "_law_form_in"=true) (k72:PySem.W.keepIn K (.ref f72)=true)
  {f73:Addr} {od73 an73:Option Addr} {sl73:Array (Option Value)} {oc73 kV73 dc73 pm73 cd73 ct73:Value}
  (a73:PySem.W.nsIn K mainGlobals "_law_due"=some (some (.ref f73))) (l73:K.lookup f73=some ⟨oc73,od73,.func (PySem.W.fnOf "_law_due" "_law_due" (defArgs (top 41)) (defBody (top 41)) (defScope (top 41)) .none kV73 dc73 pm73 an73 cd73 ct73),sl73⟩) (c73:PySem.W.codeIn K cd73 "_law_due"=true) (k73:PySem.W.keepIn K (.ref f73)=true)
  {f74:Addr} {od74 an74:Option Addr} {sl74:Array (Option Value)} {oc74 kV74 dc74 pm74 cd74 ct74:Value}
  (a74:PySem.W.nsIn K mainGlobals "_law_told"=some (some (.ref f74))) (l74:K.lookup f74=some ⟨oc74,od74,.func (PySem.W.fnOf "_law_told" "_law_told" (defArgs (top 42)) (defBody (top 42)) (defScope (top 42)) .none kV74 dc74 pm74 an74 cd74 ct74),sl74⟩) (c74:PySem.W.codeIn K cd74 "_law_told"=true) (k74:PySem.W.keepIn K (.ref f74)=true)
  {f75:Addr} {od75 an75:Option Addr} {sl75:Array (Option Value)} {oc75 kV75 dc75 pm75 cd75 ct75:Value}
  (a75:PySem.W.nsIn K mainGlobals "law"=some (some (.ref f75))) (l75:K.lookup f75=some ⟨oc75,od75,.func (PySem.W.fnOf "law" "law" (defArgs (top 43)) (defBody (top 43)) (defScope (top 43)) .none kV75 dc75 pm75 an75 cd75 ct75),sl75⟩) (c75:PySem.W.codeIn K cd75 "law"=true) (k75:PySem.W.keepIn K (.ref f75)=true)
  {ca0:Addr} {co0:Option Addr} {ci0:Array Value} {cn0:Nat} {cs0:Array (Option Value)} (u0:PySem.W.nsIn K mainGlobals "PLAIN_FORMS"=some (some (.ref ca0))) (v0:K.lookup ca0=some ⟨.type "tuple",co0,.seq ci0 cn0,cs0⟩) (w0:flatArgs [.str "yes",.str "no"] ci0.toList=true) (x0:ci0.size≤sizeLine)
  {ca1:Addr} {co1:Option Addr} {ci1:Array Value} {cn1:Nat} {cs1:Array (Option Value)} (u1:PySem.W.nsIn K mainGlobals "MARK_WORDS"=some (some (.ref ca1))) (v1:K.lookup ca1=some ⟨.type "tuple",co1,.seq ci1 cn1,cs1⟩) (w1:flatArgs [.str "a",.str "b"] ci1.toList=true) (x1:ci1.size≤sizeLine)
  {ct2:Tok} (u2:PySem.W.nsIn K mainGlobals "ARROW_WORD"=some (some (.str "to" ct2)))
  {ct3:Tok} (u3:PySem.W.nsIn K mainGlobals "NOT_WORD"=some (some (.str "not" ct3)))
  {ca4:Addr} {co4:Option Addr} {ci4:Array Value} {cn4:Nat} {cs4:Array (Option Value)} (u4:PySem.W.nsIn K mainGlobals "PAIRING_WORDS"=some (some (.ref ca4))) (v4:K.lookup ca4=some ⟨.type "tuple",co4,.seq ci4 cn4,cs4⟩) (w4:flatArgs [.str "both",.str "either"] ci4.toList=true) (x4:ci4.size≤sizeLine)
  {ca5:Addr} {co5:Option Addr} {ci5:Array Value} {cn5:Nat} {cs5:Array (Option Value)} (u5:PySem.W.nsIn K mainGlobals "NAMES"=some (some (.ref ca5))) (v5:K.lookup ca5=some ⟨.type "tuple",co5,.seq ci5 cn5,cs5⟩) (w5:flatArgs [.str "x",.str "y"] ci5.toList=true) (x5:ci5.size≤sizeLine)
  {ct6:Tok} (u6:PySem.W.nsIn K mainGlobals "DEEPEST_FORM"=some (some (.int (5) ct6)))
  {ca7:Addr} {co7:Option Addr} {ci7:Array Value} {cn7:Nat} {cs7:Array (Option Value)} (u7:PySem.W.nsIn K mainGlobals "DEMAND_WORDS"=some (some (.ref ca7))) (v7:K.lookup ca7=some ⟨.type "tuple",co7,.seq ci7 cn7,cs7⟩) (w7:flatArgs [.str "each",.str "some"] ci7.toList=true) (x7:ci7.size≤sizeLine)
  {ca8:Addr} {co8:Option Addr} {ci8:Array Value} {cn8:Nat} {cs8:Array (Option Value)} (u8:PySem.W.nsIn K mainGlobals "MARK_START"=some (some (.ref ca8))) (v8:K.lookup ca8=some ⟨.type "tuple",co8,.seq ci8 cn8,cs8⟩) (w8:flatArgs [.str "some",.str "each"] ci8.toList=true) (x8:ci8.size≤sizeLine)
  {ct9:Tok} (u9:PySem.W.nsIn K mainGlobals "MOST_DEMANDS"=some (some (.int (4) ct9)))
  {ct10:Tok} (u10:PySem.W.nsIn K mainGlobals "MOST_MARKS"=some (some (.int (2) ct10)))
  {da0:Addr} {de0:List DictEntry} {dn0:Nat} (dg0:PySem.W.nsIn K mainGlobals "FLAT_FORMS"=some (some (.ref da0))) (dh0:K.lookup da0=some ⟨.type "dict",none,.dict de0.toArray dn0,#[]⟩) (ds0:(da0==sysModules)=false) (di0:EntsOk K w.params [(.str "yes",.str "yes"),(.str "no",.str "no"),(.str "ax",.tuple [.str "a",.str "x"]),(.str "ay",.tuple [.str "a",.str "y"]),(.str "bx",.tuple [.str "b",.str "x"]),(.str "by",.tuple [.str "b",.str "y"]),(.str "xx",.tuple [.str "to",.str "x",.str "x"]),(.str "xy",.tuple [.str "to",.str "x",.str "y"]),(.str "yx",.tuple [.str "to",.str "y",.str "x"]),(.str "yy",.tuple [.str "to",.str "y",.str "y"])] de0)
  {da1:Addr} {de1:List DictEntry} {dn1:Nat} (dg1:PySem.W.nsIn K mainGlobals "FORMS_BEHIND"=some (some (.ref da1))) (dh1:K.lookup da1=some ⟨.type "dict",none,.dict de1.toArray dn1,#[]⟩) (ds1:(da1==sysModules)=false) (di1:EntsOk K w.params [(.str "not",.int (1)),(.str "both",.int (2)),(.str "either",.int (2))] de1)
  (z0:PySem.W.nsIn K mainGlobals "ValueError"=some none)
  (z1:PySem.W.nsIn K mainGlobals "all"=some none)
  (z2:PySem.W.nsIn K mainGlobals "int"=some none)
  (z3:PySem.W.nsIn K mainGlobals "isinstance"=some none)
  (z4:PySem.W.nsIn K mainGlobals "len"=some none)
  (z5:PySem.W.nsIn K mainGlobals "range"=some none)
  (z6:PySem.W.nsIn K mainGlobals "str"=some none)
  (z7:PySem.W.nsIn K mainGlobals "tuple"=some none)
  {C C2:Addr} (n0:PySem.W.nsIn K mainGlobals "NoText"=some (some (.ref C))) (n1:PySem.W.excIn K C bmV "ValueError.__new__"=true) (n2:PySem.W.nsIn K mainGlobals "DemandError"=some (some (.ref C2))) (n3:PySem.W.kitCls K (.ref C) (.ref C2)=some true) (n4:PySem.W.kitCls K (.ref C) (.type "ValueError")=some true) (n5:(Value.ref C==Value.ref C2)=false)
  : ∃ fd:FuncData,(∀ (s:Shared) (v:Value),BindsTo s fd ⟨[v],[]⟩ [("_law_script",v)])∧∀ base:Heap,K.In base→base.Ns mainGlobals mg→FnOk l.prog w K mg base CX0 68 fa fd ["_law_script"] (spD K 1 (run tab 60 75)):=by
 have e:=hfa.symm.trans (PySem.W.mg_of X G a75)
 cases e
 have F0:=fun_mk (st:=top 15) l0 c0 k0
 have D0:Def1 K mg tab Gams d0 _ _:=⟨F0,F0.binds (ps:=["thing","length"]) fun _ _ _ _ _ _ us hl=>lens2 (fun _ _=>rfl) us hl,PySem.W.mg_of X G a0,s0,K03.c0⟩
 have F2:=fun_mk (st:=top 16) l2 c2 k2
 have D2:Def1 K mg tab Gams d2 _ _:=⟨F2,F2.binds (ps:=["thing"]) fun _ _ _ _ _ _ us hl=>lens1 (fun _=>rfl) us hl,PySem.W.mg_of X G a2,s2,K03.c2⟩
 have F3:=fun_mk (st:=top 17) l3 c3 k3
 have D3:Def1 K mg tab Gams d3 _ _:=⟨F3,F3.binds (ps:=["thing"]) fun _ _ _ _ _ _ us hl=>lens1 (fun _=>rfl) us hl,PySem.W.mg_of X G a3,s3,K03.c3⟩
 have F4:=fun_mk (st:=top 18) l4 c4 k4
 have D4:Def1 K mg tab Gams d4 _ _:=⟨F4,F4.binds (ps:=["thing"]) fun _ _ _ _ _ _ us hl=>lens1 (fun _=>rfl) us hl,PySem.W.mg_of X G a4,s4,K03.c4⟩
 have F5:=fun_mk (st:=top 19) l5 c5 k5
 have D5:Def1 K mg tab Gams d5 _ _:=⟨F5,F5.binds (ps:=["thing","depth"]) fun _ _ _ _ _ _ us hl=>lens2 (fun _ _=>rfl) us hl,PySem.W.mg_of X G a5,s5,K03.c5⟩
 have F6:=fun_mk (st:=top 20) l6 c6 k6
 have D6:Def1 K mg tab Gams d6 _ _:=⟨F6,F6.binds (ps:=["thing"]) fun _ _ _ _ _ _ us hl=>lens1 (fun _=>rfl) us hl,PySem.W.mg_of X G a6,s6,K03.c6⟩
 have F7:=fun_mk (st:=top 21) l7 c7 k7
 have D7:Def1 K mg tab Gams d7 _ _:=⟨F7,F7.binds (ps:=["thing"]) fun _ _ _ _ _ _ us hl=>lens1 (fun _=>rfl) us hl,PySem.W.mg_of X G a7,s7,K03.c7⟩
 have F8:=fun_mk (st:=top 22) l8 c8 k8
 have D8:Def1 K mg tab Gams d8 _ _:=⟨F8,F8.binds (ps:=["demands"]) fun _ _ _ _ _ _ us hl=>lens1 (fun _=>rfl) us hl,PySem.W.mg_of X G a8,s8,K03.c8⟩
 have F9:=fun_mk (st:=top 23) l9 c9 k9
 have D9:Def1 K mg tab Gams d9 _ _:=⟨F9,F9.binds (ps:=["thing"]) fun _ _ _ _ _ _ us hl=>lens1 (fun _=>rfl) us hl,PySem.W.mg_of X G a9,s9,K03.c9⟩
 have F68:=fun_mk (st:=top 27) l68 c68 k68
 have D68:DefX K mg d68 _ _:=⟨F68,F68.binds (ps:=["words","place","depth"]) fun _ _ _ _ _ _ us hl=>lens3 (fun _ _ _=>rfl) us hl,PySem.W.mg_of X G a68,s68⟩
 have F69:=fun_mk (st:=top 28) l69 c69 k69
 have D69:DefX K mg d69 _ _:=⟨F69,F69.binds (ps:=["text"]) fun _ _ _ _ _ _ us hl=>lens1 (fun _=>rfl) us hl,PySem.W.mg_of X G a69,s69⟩
 have F70:=fun_mk (st:=top 29) l70 c70 k70
 have D70:DefX K mg d70 _ _:=⟨F70,F70.binds (ps:=["text"]) fun _ _ _ _ _ _ us hl=>lens1 (fun _=>rfl) us hl,PySem.W.mg_of X G a70,s70⟩
 have F16:=fun_mk (st:=top 31) l16 c16 k16
 have D16:Def1 K mg tab Gam d16 _ _:=⟨F16,F16.binds (ps:=["_law_script","_law_k"]) fun _ _ _ _ _ _ us hl=>lens2 (fun _ _=>rfl) us hl,PySem.W.mg_of X G a16,s16,K03.c16⟩
 have F17:=fun_mk (st:=top 32) l17 c17 k17
 have D17:Def1 K mg tab Gam d17 _ _:=⟨F17,F17.binds (ps:=["_law_script","_law_k"]) fun _ _ _ _ _ _ us hl=>lens2 (fun _ _=>rfl) us hl,PySem.W.mg_of X G a17,s17,K03.c17⟩
 have F18:=fun_mk (st:=top 33) l18 c18 k18
 have D18:Def1 K mg tab Gam d18 _ _:=⟨F18,F18.binds (ps:=["_law_number","_law_k"]) fun _ _ _ _ _ _ us hl=>lens2 (fun _ _=>rfl) us hl,PySem.W.mg_of X G a18,s18,K03.c18⟩
 have F19:=fun_mk (st:=top 34) l19 c19 k19
 have D19:Def1 K mg tab Gam d19 _ _:=⟨F19,F19.binds (ps:=["_law_number","_law_deep"]) fun _ _ _ _ _ _ us hl=>lens2 (fun _ _=>rfl) us hl,PySem.W.mg_of X G a19,s19,K03.c19⟩
 have F20:=fun_mk (st:=top 35) l20 c20 k20
 have D20:Def1 K mg tab Gam d20 _ _:=⟨F20,F20.binds (ps:=["_law_number","_law_deep"]) fun _ _ _ _ _ _ us hl=>lens2 (fun _ _=>rfl) us hl,PySem.W.mg_of X G a20,s20,K03.c20⟩
 have F21:=fun_mk (st:=top 36) l21 c21 k21
 have D21:Def1 K mg tab Gam d21 _ _:=⟨F21,F21.binds (ps:=["_law_number","_law_most"]) fun _ _ _ _ _ _ us hl=>lens2 (fun _ _=>rfl) us hl,PySem.W.mg_of X G a21,s21,K03.c21⟩
 have F34:=fun_mk (st:=top 37) l34 c34 k34
 have D34:Def1 K mg tab Gam d34 _ _:=⟨F34,F34.binds (ps:=["_law_form_here"]) fun _ _ _ _ _ _ us hl=>lens1 (fun _=>rfl) us hl,PySem.W.mg_of X G a34,s34,K03.c34⟩
 have F35:=fun_mk (st:=top 38) l35 c35 k35
 have D35:Def1 K mg tab Gam d35 _ _:=⟨F35,F35.binds (ps:=["_law_row_here"]) fun _ _ _ _ _ _ us hl=>lens1 (fun _=>rfl) us hl,PySem.W.mg_of X G a35,s35,K03.c35⟩
 have F71:=fun_mk (st:=top 39) l71 c71 k71
 have D71:Def1 K mg tab Gam d71 _ _:=⟨F71,F71.binds (ps:=["_law_text_here","_law_number"]) fun _ _ _ _ _ _ us hl=>lens2 (fun _ _=>rfl) us hl,PySem.W.mg_of X G a71,s71,K03.c71⟩
 have F72:=fun_mk (st:=top 40) l72 c72 k72
 have D72:Def1 K mg tab Gam d72 _ _:=⟨F72,F72.binds (ps:=["_law_words_here","_law_at","_law_deep"]) fun _ _ _ _ _ _ us hl=>lens3 (fun _ _ _=>rfl) us hl,PySem.W.mg_of X G a72,s72,K03.c72⟩
 have F73:=fun_mk (st:=top 41) l73 c73 k73
 have D73:Def1 K mg tab Gam d73 _ _:=⟨F73,F73.binds (ps:=["_law_text_here"]) fun _ _ _ _ _ _ us hl=>lens1 (fun _=>rfl) us hl,PySem.W.mg_of X G a73,s73,K03.c73⟩
 have F74:=fun_mk (st:=top 42) l74 c74 k74
 have D74:DefX K mg d74 _ _:=⟨F74,F74.binds (ps:=["_law_text_here"]) fun _ _ _ _ _ _ us hl=>lens1 (fun _=>rfl) us hl,PySem.W.mg_of X G a74,s74⟩
 have F75:=fun_mk (st:=top 43) l75 c75 k75
 have D75:Def1 K mg tab Gam d75 _ _:=⟨F75,F75.binds (ps:=["_law_script"]) fun _ _ _ _ _ _ us hl=>lens1 (fun _=>rfl) us hl,PySem.W.mg_of X G a75,s75,K03.c75⟩
 refine ⟨PySem.W.fnOf "law" "law" (defArgs (top 43)) (defBody (top 43)) (defScope (top 43)) .none kV75 dc75 pm75 an75 cd75 ct75,fun s v=>.of_eq rfl,fun base _ _=>?_⟩
 have T0:TopC l.prog w K mg Gam0:=by
  refine ⟨fun x p hm=>?_,fun x hm=>?_,fun x kvs hm=>?_⟩
  ·simp only [Gam0,List.mem_cons,List.mem_nil_iff,List.not_mem_nil,or_false,Prod.mk.injEq] at hm
   rcases hm with ⟨rfl,rfl⟩ | ⟨rfl,rfl⟩ | ⟨rfl,rfl⟩ | ⟨rfl,rfl⟩ | ⟨rfl,rfl⟩ | ⟨rfl,rfl⟩ | ⟨rfl,rfl⟩ | ⟨rfl,rfl⟩ | ⟨rfl,rfl⟩ | ⟨rfl,rfl⟩ | ⟨rfl,rfl⟩
   ·exact con_tup (PySem.W.mg_of X G u0) v0 w0 x0
   ·exact con_tup (PySem.W.mg_of X G u1) v1 w1 x1
   ·exact con_str (PySem.W.mg_of X G u2) (by decide +kernel) (by decide +kernel)
   ·exact con_str (PySem.W.mg_of X G u3) (by decide +kernel) (by decide +kernel)
   ·exact con_tup (PySem.W.mg_of X G u4) v4 w4 x4
   ·exact con_tup (PySem.W.mg_of X G u5) v5 w5 x5
   ·exact con_int (PySem.W.mg_of X G u6)
   ·exact con_tup (PySem.W.mg_of X G u7) v7 w7 x7
   ·exact con_tup (PySem.W.mg_of X G u8) v8 w8 x8
   ·exact con_int (PySem.W.mg_of X G u9)
   ·exact con_int (PySem.W.mg_of X G u10)
  ·simp only [Gam0,List.mem_cons,List.mem_nil_iff,List.not_mem_nil,or_false] at hm
   rcases hm with rfl | rfl | rfl | rfl | rfl | rfl | rfl | rfl
   ·exact PySem.W.mg_none_of X G z0
   ·exact PySem.W.mg_none_of X G z1
   ·exact PySem.W.mg_none_of X G z2
   ·exact PySem.W.mg_none_of X G z3
   ·exact PySem.W.mg_none_of X G z4
   ·exact PySem.W.mg_none_of X G z5
   ·exact PySem.W.mg_none_of X G z6
   ·exact PySem.W.mg_none_of X G z7
  ·simp only [Gam0,List.mem_cons,List.mem_nil_iff,List.not_mem_nil,or_false,Prod.mk.injEq] at hm
   rcases hm with ⟨rfl,rfl⟩ | ⟨rfl,rfl⟩
   ·exact con_dct (PySem.W.mg_of X G dg0) ds0 dh0 di0 (by decide +kernel)
   ·exact con_dct (PySem.W.mg_of X G dg1) ds1 dh1 di1 (by decide +kernel)
 have T:TopC l.prog w K mg Gam:=⟨T0.hc,T0.hb,T0.hd⟩
 have Ts:TopC l.prog w K mg Gams:=⟨T0.hc,T0.hb,T0.hd⟩
 have Tr:TopC l.prog w K mg Gamr:=⟨T0.hc,T0.hb,T0.hd⟩
 have hs:∀ x id n,(x,id,n)∈Gams.fns→∃ d f fd,d.x=x∧d.id=id∧d.ps.length=n∧(Def1 K mg tab Gams d f fd∨Dir l.prog w K mg base tab 0 d f fd):=fun x id n hm=>by
  simp only [Gams,Gam0,List.mem_cons,List.mem_nil_iff,List.not_mem_nil,or_false,Prod.mk.injEq] at hm
  rcases hm with ⟨rfl,rfl,rfl⟩ | ⟨rfl,rfl,rfl⟩ | ⟨rfl,rfl,rfl⟩ | ⟨rfl,rfl,rfl⟩ | ⟨rfl,rfl,rfl⟩ | ⟨rfl,rfl,rfl⟩ | ⟨rfl,rfl,rfl⟩ | ⟨rfl,rfl,rfl⟩ | ⟨rfl,rfl,rfl⟩
  ·exact ⟨d0,_,_,rfl,rfl,rfl,.inl D0⟩
  ·exact ⟨d2,_,_,rfl,rfl,rfl,.inl D2⟩
  ·exact ⟨d3,_,_,rfl,rfl,rfl,.inl D3⟩
  ·exact ⟨d4,_,_,rfl,rfl,rfl,.inl D4⟩
  ·exact ⟨d5,_,_,rfl,rfl,rfl,.inl D5⟩
  ·exact ⟨d6,_,_,rfl,rfl,rfl,.inl D6⟩
  ·exact ⟨d7,_,_,rfl,rfl,rfl,.inl D7⟩
  ·exact ⟨d8,_,_,rfl,rfl,rfl,.inl D8⟩
  ·exact ⟨d9,_,_,rfl,rfl,rfl,.inl D9⟩
 have R9:∀ k,FnOk l.prog w K mg base CX0 k _ _ d9.ps (spD K d9.ps.length (run tab k d9.id)):=fun k=>all_ok3 (c:=0) hs Ts k d9 _ _ D9
 have m0:=PySem.W.mg_of X G n0
 have m2:=PySem.W.mg_of X G n2
 have R68:=rf_ok (P:=l.prog) (w:=w) (base:=base) T0 rfl D68 rfl n1 m0 K03.c68 rfl rfl 5
 have R69:=rd_ok T0 rfl D69 D68 rfl n1 m0 R68 K03.c69 rfl rfl rfl
 have R70:∀ k,FnOk l.prog w K mg base (CXN l.prog w C) (k+7+1) _ _ d70.ps (spX K d70.ps.length (rdF (run tab k))):=fun k=>read_ok (k:=k+7) (cf:=run tab k) Tr (fun x id n hm=>by
  cases List.mem_singleton.mp hm
  exact ⟨_,_,d9.ps,rfl,D9.m,D9.F.kp,D9.b,(R9 k).mono (by lia)⟩) (by lia) D70 D69 rfl n1 m0 R69 K03.c70 rfl rfl rfl
 obtain ⟨last,e0,b1,b2,b3,b4⟩:=K03.b74
 have R74:Dir l.prog w K mg base tab 8 d74 _ _:=told_dir D74 rfl rfl fun k=>told_ok (k:=k+8) (cf:=run tab k) T0 (fns_nil rfl) D74 D70 n1 m0 m2 (R70 k) b1 b2 b3 b4 rfl rfl rfl rfl rfl (by decide +kernel) (by decide +kernel) (by decide +kernel) (by decide +kernel) (by decide +kernel) (by decide +kernel) (by decide +kernel) (by decide +kernel) (PySem.W.mg_none_of X G z0) (PySem.W.mg_none_of X G z3) (PySem.W.mg_none_of X G z2) (by decide +kernel) n3 n4 n5
 refine all_ok3 (c:=8) (P:=l.prog) (w:=w) (base:=base) (Gam:=Gam) (fun x id n hm=>?_) T 60 d75 _ _ D75
 simp only [Gam,Gam0,List.mem_cons,List.mem_nil_iff,List.not_mem_nil,or_false,Prod.mk.injEq] at hm
 rcases hm with ⟨rfl,rfl,rfl⟩ | ⟨rfl,rfl,rfl⟩ | ⟨rfl,rfl,rfl⟩ | ⟨rfl,rfl,rfl⟩ | ⟨rfl,rfl,rfl⟩ | ⟨rfl,rfl,rfl⟩ | ⟨rfl,rfl,rfl⟩ | ⟨rfl,rfl,rfl⟩ | ⟨rfl,rfl,rfl⟩ | ⟨rfl,rfl,rfl⟩ | ⟨rfl,rfl,rfl⟩ | ⟨rfl,rfl,rfl⟩ | ⟨rfl,rfl,rfl⟩ | ⟨rfl,rfl,rfl⟩ | ⟨rfl,rfl,rfl⟩ | ⟨rfl,rfl,rfl⟩ | ⟨rfl,rfl,rfl⟩ | ⟨rfl,rfl,rfl⟩ | ⟨rfl,rfl,rfl⟩ | ⟨rfl,rfl,rfl⟩ | ⟨rfl,rfl,rfl⟩ | ⟨rfl,rfl,rfl⟩
 ·exact ⟨d0,_,_,rfl,rfl,rfl,.inr (dir_of D0 hs Ts)⟩
 ·exact ⟨d2,_,_,rfl,rfl,rfl,.inr (dir_of D2 hs Ts)⟩
 ·exact ⟨d3,_,_,rfl,rfl,rfl,.inr (dir_of D3 hs Ts)⟩
 ·exact ⟨d4,_,_,rfl,rfl,rfl,.inr (dir_of D4 hs Ts)⟩
 ·exact ⟨d5,_,_,rfl,rfl,rfl,.inr (dir_of D5 hs Ts)⟩
 ·exact ⟨d6,_,_,rfl,rfl,rfl,.inr (dir_of D6 hs Ts)⟩
 ·exact ⟨d7,_,_,rfl,rfl,rfl,.inr (dir_of D7 hs Ts)⟩
 ·exact ⟨d8,_,_,rfl,rfl,rfl,.inr (dir_of D8 hs Ts)⟩
 ·exact ⟨d9,_,_,rfl,rfl,rfl,.inr (dir_of D9 hs Ts)⟩
 ·exact ⟨d16,_,_,rfl,rfl,rfl,.inl D16⟩
 ·exact ⟨d17,_,_,rfl,rfl,rfl,.inl D17⟩
 ·exact ⟨d18,_,_,rfl,rfl,rfl,.inl D18⟩
 ·exact ⟨d19,_,_,rfl,rfl,rfl,.inl D19⟩
 ·exact ⟨d20,_,_,rfl,rfl,rfl,.inl D20⟩
 ·exact ⟨d21,_,_,rfl,rfl,rfl,.inl D21⟩
 ·exact ⟨d34,_,_,rfl,rfl,rfl,.inl D34⟩
 ·exact ⟨d35,_,_,rfl,rfl,rfl,.inl D35⟩
 ·exact ⟨d71,_,_,rfl,rfl,rfl,.inl D71⟩
 ·exact ⟨d72,_,_,rfl,rfl,rfl,.inl D72⟩
 ·exact ⟨d73,_,_,rfl,rfl,rfl,.inl D73⟩
 ·exact ⟨d74,_,_,rfl,rfl,rfl,.inr R74⟩
 ·exact ⟨d75,_,_,rfl,rfl,rfl,.inl D75⟩
theorem walk {l:PySem.W.OpenLaw} {n:Nat} {q:Program} {loose:List Str} {XP:(Str→Option Value)→Heap→Prop} {YP:World→Heap→Prop} {d:DefRec} {K:Params→PySem.W.Frag} (hn:l.most=some n) (hn2:n≤sizeLine) (hdf:d.params.defaults=[])
  (hY:∀ (w:World) (h:Heap),YP w h→(K w.params).In h)
  (F:∀ (w:World) (mg:Str→Option Value) (fa:Addr) (h:Heap),(K w.params).In h→h.Ns mainGlobals mg→mg d.name=some (.ref fa)→
   ∃ fd:FuncData,(∀ (s:Shared) (u:Value),BindsTo s fd ⟨[u],[]⟩ [("_law_script",u)])∧∀ base:Heap,(K w.params).In base→base.Ns mainGlobals mg→FnOk l.prog w (K w.params) mg base CX0 68 fa fd ["_law_script"] (spD (K w.params) 1 (run tab 60 75))):
  PySem.W.WalkO q loose XP YP l.row.toRowW d [] (fun f vs=>PySem.call f vs):=
 L2.walk_of (n:=n) (k:=68) (x:="_law_script") (CX:=fun _=>CX0) (sp:=fun w=>spD (K w.params) 1 (run tab 60 75)) hn hn2 hdf ⟨rfl,by decide,by decide⟩ hY F (fun _ _ a ns hl _ hS=>sp_law (DD.law03 ns) hS) fun _ _ _ _ _ z=>z
end K03
open PySem PySem.W PyProof.Rows
set_option maxRecDepth 100000 in
set_option maxHeartbeats 0 in
theorem PySem.Challenge.cw_twonamed_k03_whole_read_holds : PySem.Challenge.rw_twonamed_k03_whole_read.Holds := by
 w_on;o_law;k_head;(case hw=>w_witness2)
 k_fill
 refine K03.walk (l:=PySem.Challenge.rw_twonamed_k03_whole_read) rfl (by decide) rfl (fun w h Y=>PySem.W.kIn_of Y) ?F
 case F=>
  intro w mg fa h KX G hmg
  refine' K03.all_mk KX G hmg ?a0 ?l0 ?c0 ?k0 ?a2 ?l2 ?c2 ?k2 ?a3 ?l3 ?c3 ?k3 ?a4 ?l4 ?c4 ?k4 ?a5 ?l5 ?c5 ?k5 ?a6 ?l6 ?c6 ?k6 ?a7 ?l7 ?c7 ?k7 ?a8 ?l8 ?c8 ?k8 ?a9 ?l9 ?c9 ?k9 ?a68 ?l68 ?c68 ?k68 ?a69 ?l69 ?c69 ?k69 ?a70 ?l70 ?c70 ?k70 ?a16 ?l16 ?c16 ?k16 ?a17 ?l17 ?c17 ?k17 ?a18 ?l18 ?c18 ?k18 ?a19 ?l19 ?c19 ?k19 ?a20 ?l20 ?c20 ?k20 ?a21 ?l21 ?c21 ?k21 ?a34 ?l34 ?c34 ?k34 ?a35 ?l35 ?c35 ?k35 ?a71 ?l71 ?c71 ?k71 ?a72 ?l72 ?c72 ?k72 ?a73 ?l73 ?c73 ?k73 ?a74 ?l74 ?c74 ?k74 ?a75 ?l75 ?c75 ?k75 ?u0 ?v0 ?w0 ?x0 ?u1 ?v1 ?w1 ?x1 ?u2 ?u3 ?u4 ?v4 ?w4 ?x4 ?u5 ?v5 ?w5 ?x5 ?u6 ?u7 ?v7 ?w7 ?x7 ?u8 ?v8 ?w8 ?x8 ?u9 ?u10 ?dg0 ?dh0 ?ds0 ?di0 ?dg1 ?dh1 ?ds1 ?di1 ?z0 ?z1 ?z2 ?z3 ?z4 ?z5 ?z6 ?z7 ?n0 ?n1 ?n2 ?n3 ?n4 ?n5
  (case a0=>k_is)
  (case l0=>k_is)
  (case c0=>k_is)
  (case k0=>k_is)
  (case a2=>k_is)
  (case l2=>k_is)
  (case c2=>k_is)
  (case k2=>k_is)
  (case a3=>k_is)
  (case l3=>k_is)
  (case c3=>k_is)
  (case k3=>k_is)
  (case a4=>k_is)
  (case l4=>k_is)
  (case c4=>k_is)
  (case k4=>k_is)
  (case a5=>k_is)
  (case l5=>k_is)
  (case c5=>k_is)
  (case k5=>k_is)
  (case a6=>k_is)
  (case l6=>k_is)
  (case c6=>k_is)
  (case k6=>k_is)
  (case a7=>k_is)
  (case l7=>k_is)
  (case c7=>k_is)
  (case k7=>k_is)
  (case a8=>k_is)
  (case l8=>k_is)
  (case c8=>k_is)
  (case k8=>k_is)
  (case a9=>k_is)
  (case l9=>k_is)
  (case c9=>k_is)
  (case k9=>k_is)
  (case a68=>k_is)
  (case l68=>k_is)
  (case c68=>k_is)
  (case k68=>k_is)
  (case a69=>k_is)
  (case l69=>k_is)
  (case c69=>k_is)
  (case k69=>k_is)
  (case a70=>k_is)
  (case l70=>k_is)
  (case c70=>k_is)
  (case k70=>k_is)
  (case a16=>k_is)
  (case l16=>k_is)
  (case c16=>k_is)
  (case k16=>k_is)
  (case a17=>k_is)
  (case l17=>k_is)
  (case c17=>k_is)
  (case k17=>k_is)
  (case a18=>k_is)
  (case l18=>k_is)
  (case c18=>k_is)
  (case k18=>k_is)
  (case a19=>k_is)
  (case l19=>k_is)
  (case c19=>k_is)
  (case k19=>k_is)
  (case a20=>k_is)
  (case l20=>k_is)
  (case c20=>k_is)
  (case k20=>k_is)
  (case a21=>k_is)
  (case l21=>k_is)
  (case c21=>k_is)
  (case k21=>k_is)
  (case a34=>k_is)
  (case l34=>k_is)
  (case c34=>k_is)
  (case k34=>k_is)
  (case a35=>k_is)
  (case l35=>k_is)
  (case c35=>k_is)
  (case k35=>k_is)
  (case a71=>k_is)
  (case l71=>k_is)
  (case c71=>k_is)
  (case k71=>k_is)
  (case a72=>k_is)
  (case l72=>k_is)
  (case c72=>k_is)
  (case k72=>k_is)
  (case a73=>k_is)
  (case l73=>k_is)
  (case c73=>k_is)
  (case k73=>k_is)
  (case a74=>k_is)
  (case l74=>k_is)
  (case c74=>k_is)
  (case k74=>k_is)
  (case a75=>k_is)
  (case l75=>k_is)
  (case c75=>k_is)
  (case k75=>k_is)
  (case u0=>k_is)
  (case v0=>k_is)
  (case w0=>decide +kernel)
  (case x0=>decide +kernel)
  (case u1=>k_is)
  (case v1=>k_is)
  (case w1=>decide +kernel)
  (case x1=>decide +kernel)
  (case u2=>k_is)
  (case u3=>k_is)
  (case u4=>k_is)
  (case v4=>k_is)
  (case w4=>decide +kernel)
  (case x4=>decide +kernel)
  (case u5=>k_is)
  (case v5=>k_is)
  (case w5=>decide +kernel)
  (case x5=>decide +kernel)
  (case u6=>k_is)
  (case u7=>k_is)
  (case v7=>k_is)
  (case w7=>decide +kernel)
  (case x7=>decide +kernel)
  (case u8=>k_is)
  (case v8=>k_is)
  (case w8=>decide +kernel)
  (case x8=>decide +kernel)
  (case u9=>k_is)
  (case u10=>k_is)
  (case dg0=>k_is)
  (case dh0=>k_is)
  (case ds0=>decide +kernel)
  (case di0=>exact ⟨⟨_,_,rfl,rfl,rfl⟩,⟨.str "yes" _,rfl,.inl (by decide +kernel)⟩,⟨⟨_,_,rfl,rfl,rfl⟩,⟨.str "no" _,rfl,.inl (by decide +kernel)⟩,⟨⟨_,_,rfl,rfl,rfl⟩,⟨_,rfl,.inr ⟨_,_,_,_,_,_,rfl,rfl,by k_is,by decide +kernel,by decide +kernel⟩⟩,⟨⟨_,_,rfl,rfl,rfl⟩,⟨_,rfl,.inr ⟨_,_,_,_,_,_,rfl,rfl,by k_is,by decide +kernel,by decide +kernel⟩⟩,⟨⟨_,_,rfl,rfl,rfl⟩,⟨_,rfl,.inr ⟨_,_,_,_,_,_,rfl,rfl,by k_is,by decide +kernel,by decide +kernel⟩⟩,⟨⟨_,_,rfl,rfl,rfl⟩,⟨_,rfl,.inr ⟨_,_,_,_,_,_,rfl,rfl,by k_is,by decide +kernel,by decide +kernel⟩⟩,⟨⟨_,_,rfl,rfl,rfl⟩,⟨_,rfl,.inr ⟨_,_,_,_,_,_,rfl,rfl,by k_is,by decide +kernel,by decide +kernel⟩⟩,⟨⟨_,_,rfl,rfl,rfl⟩,⟨_,rfl,.inr ⟨_,_,_,_,_,_,rfl,rfl,by k_is,by decide +kernel,by decide +kernel⟩⟩,⟨⟨_,_,rfl,rfl,rfl⟩,⟨_,rfl,.inr ⟨_,_,_,_,_,_,rfl,rfl,by k_is,by decide +kernel,by decide +kernel⟩⟩,⟨⟨_,_,rfl,rfl,rfl⟩,⟨_,rfl,.inr ⟨_,_,_,_,_,_,rfl,rfl,by k_is,by decide +kernel,by decide +kernel⟩⟩,trivial⟩⟩⟩⟩⟩⟩⟩⟩⟩⟩)
  (case dg1=>k_is)
  (case dh1=>k_is)
  (case ds1=>decide +kernel)
  (case di1=>exact ⟨⟨_,_,rfl,rfl,rfl⟩,⟨.int (1) _,rfl,.inl (by decide +kernel)⟩,⟨⟨_,_,rfl,rfl,rfl⟩,⟨.int (2) _,rfl,.inl (by decide +kernel)⟩,⟨⟨_,_,rfl,rfl,rfl⟩,⟨.int (2) _,rfl,.inl (by decide +kernel)⟩,trivial⟩⟩⟩)
  (case z0=>k_is)
  (case z1=>k_is)
  (case z2=>k_is)
  (case z3=>k_is)
  (case z4=>k_is)
  (case z5=>k_is)
  (case z6=>k_is)
  (case z7=>k_is)
  (case n0=>k_is)
  (case n1=>k_exc)
  (case n2=>k_is)
  (case n3=>kernel_rfl)
  (case n4=>kernel_rfl)
  (case n5=>decide +kernel)
