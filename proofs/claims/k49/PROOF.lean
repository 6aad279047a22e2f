import PyProof.Rows.All
import Wide.All
import OpenK.AllK
import Wide.FinOn
import Lean
import PyProof.EqAt
import PyProof.EqKinds
import PyProof.TupleCall
import PySem.Challenge.RW_ferry_k49_whole_what_is_carried
set_option Elab.async false
set_option linter.all false
set_option maxRecDepth 100000
namespace L2
open PySem PySem.Spec PyProof.Rows
noncomputable abbrev Key:=Sum Int Str
noncomputable def keyIs:Key→Value→Bool
 | .inl k,v=>Value.isInt k v
 | .inr x,v=>Value.isStrOf x v
noncomputable def keyH (w:World):Key→Int
 | .inl k=>hashInt k
 | .inr x=>hashStr w x
theorem qAP:∀ {k:Key} {v:Value},keyIs k v=true→(∃ i t,k=Sum.inl i∧v=Value.int i t)∨(∃ x t,k=Sum.inr x∧v=Value.str x t)
 | .inl i,v,h=>by
  obtain ⟨t,e⟩:=Value.isInt_shape (k:=i) (v:=v) h
  exact .inl ⟨i,t,rfl,e⟩
 | .inr x,v,h=>by
  obtain ⟨t,e⟩:=Value.isStrOf_shape (x:=x) (v:=v) h
  exact .inr ⟨x,t,rfl,e⟩
theorem qHa (i:Int) (t:Tok):keyIs (.inl i) (.int i t)=true:=by simp [keyIs,Value.isInt]
theorem qHZ (x:Str) (t:Tok):keyIs (.inr x) (.str x t)=true:=by simp [keyIs,Value.isStrOf]
theorem qNV (a b:Int):decide ((Sum.inl a:Key)=Sum.inl b)=(a == b):=by
 by_cases e:a=b
 ·subst e;simp
 ·have h:¬ (Sum.inl a:Key)=Sum.inl b:=fun q=>e (Sum.inl.inj q)
  rw [decide_eq_false h]
  exact (beq_eq_false_iff_ne.mpr e).symm
theorem qNR (a b:Str):decide ((Sum.inr a:Key)=Sum.inr b)=decide (a=b):=by
 by_cases e:a=b
 ·subst e;simp
 ·have h:¬ (Sum.inr a:Key)=Sum.inr b:=fun q=>e (Sum.inr.inj q)
  rw [decide_eq_false h,decide_eq_false e]
theorem qNU (a:Int) (b:Str):decide ((Sum.inl a:Key)=Sum.inr b)=false:=decide_eq_false (fun q=>nomatch q)
theorem qNS (a:Str) (b:Int):decide ((Sum.inr a:Key)=Sum.inl b)=false:=decide_eq_false (fun q=>nomatch q)
noncomputable def mixKind (prog:Program) (w:World):PySem.KeyKind prog w Key where
 is:=keyIs
 hash:=keyH w
 inj:=fun v a b ha hb=>by
  rcases qAP ha with ⟨i,t,rfl,rfl⟩ | ⟨x,t,rfl,rfl⟩
  ·rcases qAP hb with ⟨j,u,rfl,e⟩ | ⟨y,u,rfl,e⟩
   ·injection e with e1 _;rw [e1]
   ·exact nomatch e
  ·rcases qAP hb with ⟨j,u,rfl,e⟩ | ⟨y,u,rfl,e⟩
   ·exact nomatch e
   ·injection e with e1 _;rw [e1]
 byValue:=fun k v h=>by
  rcases qAP h with ⟨i,t,rfl,rfl⟩ | ⟨x,t,rfl,rfl⟩ <;> rfl
 pyHash:=fun hv h=>by
  rcases qAP hv with ⟨i,t,rfl,rfl⟩ | ⟨x,t,rfl,rfl⟩
  ·exact wpAny_pyHash_int h
  ·exact wpAny_pyHash_str h
 eqBool:=fun hu hv h=>by
  rcases qAP hu with ⟨i,t,rfl,rfl⟩ | ⟨x,t,rfl,rfl⟩
  ·rcases qAP hv with ⟨j,u,rfl,rfl⟩ | ⟨y,u,rfl,rfl⟩
   ·rw [qNV] at h;exact wpAny_eqBool_int h
   ·rw [qNU] at h;exact SeqAt.EqAt.int_str i t y u _ _ _ _ h
  ·rcases qAP hv with ⟨j,u,rfl,rfl⟩ | ⟨y,u,rfl,rfl⟩
   ·rw [qNS] at h;exact SeqAt.EqAt.str_int x t j u _ _ _ _ h
   ·rw [qNR] at h;exact wpAny_eqBool_str h
 «strs»:=fun k x t v h=>by
  rcases qAP h with ⟨i,u,rfl,e⟩ | ⟨y,u,rfl,e⟩
  ·exact nomatch e
  ·injection e with e1 _
   subst e1
   cases v <;> rfl
theorem qE9 (prog:Program) (w:World) (i:Int) (t:Tok):(mixKind prog w).is (.inl i) (.int i t)=true:=qHa i t
theorem qE8 (prog:Program) (w:World) (x:Str) (t:Tok):(mixKind prog w).is (.inr x) (.str x t)=true:=qHZ x t
end L2
namespace L2
open PySem PySem.Spec PyProof.Rows
inductive V where
 | non | bl (b:Bool) | int (i:Int) | str (x:Str) | byt (b:Array UInt8) | flt (b:UInt64) | ref (a:Addr) | ty (n:String)
 deriving DecidableEq
noncomputable def RelV:V→Value→Prop
 | .non,u=>u=Value.none
 | .bl b,u=>u=Value.bool b
 | .int i,u=>∃ t,u=Value.int i t
 | .str x,u=>∃ t,u=Value.str x t
 | .byt b,u=>∃ t,u=Value.bytes b t
 | .flt b,u=>∃ t,u=Value.float b t
 | .ref a,u=>u=Value.ref a
 | .ty n,u=>u=Value.type n
noncomputable abbrev Vals:List V→List Value→Prop:=Paired RelV
theorem Vals.length {xs:List V} {us:List Value} (r:Vals xs us):xs.length=us.length:=Paired.length r
theorem Vals.get:∀ {xs:List V} {us:List Value} {i:Nat} {x:V},Vals xs us→xs[i]?=some x→∃ u,us[i]?=some u∧RelV x u
 | _,_,_,_,.nil,e=>by simp at e
 | _,_,0,_,.cons r _,e=>by simp at e;subst e;exact ⟨_,rfl,r⟩
 | _,_,i+1,x,.cons _ t,e=>by
  obtain ⟨u,h1,h2⟩:=Vals.get (i:=i) (x:=x) t (by simpa using e)
  exact ⟨u,by simpa using h1,h2⟩
theorem Vals.set {x:V} {u:Value} (r:RelV x u):∀ {xs:List V} {us:List Value} (i:Nat),Vals xs us→Vals (xs.set i x) (us.set i u)
 | _,_,_,.nil=>.nil
 | _,_,0,.cons _ t=>.cons r t
 | _,_,i+1,.cons q t=>.cons q (Vals.set r i t)
theorem Vals.append:∀ {xs ys:List V} {us ws:List Value},Vals xs us→Vals ys ws→Vals (xs++ys) (us++ws)
 | _,_,_,_,.nil,s=>s
 | _,_,_,_,.cons r t,s=>.cons r (Vals.append t s)
theorem Vals.take:∀ {xs:List V} {us:List Value} (n:Nat),Vals xs us→Vals (xs.take n) (us.take n)
 | _,_,0,_=>.nil
 | _,_,_+1,.nil=>.nil
 | _,_,n+1,.cons r t=>.cons r (Vals.take n t)
theorem Vals.drop:∀ {xs:List V} {us:List Value} (n:Nat),Vals xs us→Vals (xs.drop n) (us.drop n)
 | _,_,0,r=>r
 | _,_,_+1,.nil=>.nil
 | _,_,n+1,.cons _ t=>Vals.drop n t
theorem Vals.none_of:∀ {xs:List V} {us:List Value} {i:Nat},Vals xs us→xs[i]?=none→us[i]?=none:=fun {xs us i} r e=>by
 have h1:=r.length
 have h2:xs.length≤i:=List.getElem?_eq_none_iff.mp e
 exact List.getElem?_eq_none_iff.mpr (by omega)
noncomputable def RelO:Option V→Option Value→Prop
 | some v,some u=>RelV v u
 | none,none=>True
 | _,_=>False
noncomputable def KV {κ:Type}:List (κ × V)→List (κ × Value)→Prop:=Paired fun (p:κ × V) (q:κ × Value)=>p.1=q.1∧RelV p.2 q.2
noncomputable def kV:Key→V
 | .inl i=>.int i
 | .inr x=>.str x
inductive HO where
 | lst (xs:List V)
 | tup (xs:List V)
 | dK (kvs:List (Key × V)) | dT (kvs:List (List Key × V))
 | set (S:Int→Bool) (n:Nat)
 | ins (C dx:Addr) (fs:List (Str × V))
 | own (x:Addr)
 | xd (fs:List (Str × V))
 | met (f x:Addr)
 | rng (lo hi:Int)
 | frz (o:Obj) (u:HO)
 | tbl (ps:Array Value)
 | ext (φ:Heap→Prop)
noncomputable abbrev Hp:=Addr→Option HO
noncomputable def upd (H:Hp) (a:Addr) (o:HO):Hp:=fun b=>if b=a then some o else H b
theorem qAA {H:Hp} {a:Addr} {o:HO}:upd H a o a=some o:=by unfold upd;rw [if_pos rfl]
theorem qAB {H:Hp} {a b:Addr} {o:HO} (h:b≠a):upd H a o b=H b:=by unfold upd;rw [if_neg h]
theorem upd_upd {H:Hp} {a:Addr} {o u:HO}:upd (upd H a o) a u=upd H a u:=by
 funext b;unfold upd;split <;> rfl
theorem ne_of_none {H:Hp} {a b:Addr} {o:HO} (h:H a=some o) (h':H b=none):a≠b:=by
 intro e;subst e;rw [h] at h';cases h'
section
variable (P:Program) (w:World)
noncomputable def ObjOk (H:Hp) (h:Heap) (a:Addr):HO→Prop
  | .lst xs=>xs.length≤sizeLine∧∃ (its:List Value) (n:Nat),Vals xs its∧h.get? a=some { cls:=.type "list",data:=.seq its.toArray n }
  | .tup xs=>xs.length≤sizeLine∧∃ its:List Value,Vals xs its∧IsTup h a its.toArray
  | .dK kvs=>kvs.length≤sizeLine∧(a == sysModules)=false∧∃ vs,KV kvs vs∧h.DictOf (mixKind P w) a vs
  | .dT kvs=>kvs.length≤sizeLine∧(a == sysModules)=false∧∃ xs:List (List Key × Addr × Value),
      Paired (fun (p:List Key × V) (q:List Key × Addr × Value)=>p.1=q.1∧H q.2.1=some (.tup (p.1.map kV))∧RelV p.2 q.2.2) kvs xs ∧
      ∃ o es ep,h.get? a=some o∧o.ExactDict∧o.data=.dict es ep∧es.toList=xs.map (entryOfKey (tupleKind (mixKind P w)))∧(xs.map (·.1)).Nodup
  | .set S n=>h.SetOf (intKind P w) a S n
  | .ins C dx fs=>H dx=some (.own a)∧fs.length≤1000∧dx≠a∧h.get? a=some (PySem.W.instObj C dx) ∧
      ∃ mA,h.Ns1 dx mA∧(∀ f,RelO (fs.lookup f) (mA f))∧PySem.Within mA (fs.map (·.1))
  | .own _=>∃ o,h.get? a=some o
  | .xd fs=>∃ mA,h.Ns1 a mA∧∀ f,RelO (fs.lookup f) (mA f)
  | .rng lo hi=>∃ t u v,h.get? a=some { cls:=.type "range",data:=.fields #[.int lo t,.int hi u,.int 1 v] }
  | .frz o u=>h.get? a=some o∧ObjOk H h a u
  | .tbl ps=>h.get? a=some { cls:=.none,data:=.fields ps }
  | .met f x=>h.get? a=some (PySem.W.methodObj (.ref f) (.ref x))
  | .ext φ=>φ h∧(∃ o,h.get? a=some o)∧∀ h1 h2:Heap,φ h1→(∀ o,h1.get? a=some o→h2.get? a=some o)→φ h2
noncomputable def HOk (H:Hp) (h:Heap):Prop:=∀ a o,H a=some o→ObjOk P w H h a o
end
section
variable {P:Program} {w:World} {H H':Hp} {h h':Heap} {a:Addr} {o:HO}
theorem ObjOk.lt (x:ObjOk P w H h a o):a<h.objs.size:=by
 cases o with
 | lst xs=>obtain ⟨_,_,_,_,e⟩:=x;exact Heap.lt_size e
 | tup xs=>obtain ⟨_,_,_,p⟩:=x;exact p.lt
 | dK kvs=>obtain ⟨_,_,_,_,o,_,_,e,_⟩:=x;exact Heap.lt_size e
 | dT kvs=>obtain ⟨_,_,_,_,o,_,_,e,_⟩:=x;exact Heap.lt_size e
 | set S n=>obtain ⟨o,_,_,_,e,_⟩:=x;exact Heap.lt_size e
 | ins C dx fs=>obtain ⟨_,_,_,e,_⟩:=x;exact Heap.lt_size e
 | own y=>obtain ⟨_,e⟩:=x;exact Heap.lt_size e
 | xd fs=>obtain ⟨_,⟨_,_,_,e,_⟩,_⟩:=x;exact Heap.lt_size e
 | rng lo hi=>obtain ⟨_,_,_,e⟩:=x;exact Heap.lt_size e
 | frz ob u=>obtain ⟨e,_⟩:=x;exact Heap.lt_size e
 | tbl ps=>exact Heap.lt_size (show h.get? a=some _ from x)
 | met f y=>exact Heap.lt_size (show h.get? a=some _ from x)
 | ext φ=>obtain ⟨_,⟨_,e⟩,_⟩:=x;exact Heap.lt_size e
theorem Paired.mapP {α β:Type} {F G:α→β→Prop}:∀ {l₁:List α} {l₂:List β},Paired F l₁ l₂→(∀ a b,F a b→G a b)→Paired G l₁ l₂
 | _,_,.nil,_=>.nil
 | _,_,.cons r t,f=>.cons (f _ _ r) (Paired.mapP t f)
theorem ObjOk.stay (x:ObjOk P w H h a o) (k:∀ b u,(b=a∨H b=some (.own a))→h.get? b=some u→h'.get? b=some u)
    (ho:∀ b,H b=some (.own a)→H' b=some (.own a)) (ht:∀ b xs,H b=some (.tup xs)→H' b=some (.tup xs)):ObjOk P w H' h' a o:=by
  induction o with
  | lst xs=>obtain ⟨z,its,n,r,e⟩:=x;exact ⟨z,its,n,r,k _ _ (.inl rfl) e⟩
  | tup xs=>obtain ⟨z,its,r,ob,e,c⟩:=x;exact ⟨z,its,r,ob,k _ _ (.inl rfl) e,c⟩
  | dK kvs=>obtain ⟨z,y,vs,r,ob,es,ep,e,c⟩:=x;exact ⟨z,y,vs,r,ob,es,ep,k _ _ (.inl rfl) e,c⟩
  | dT kvs =>
    obtain ⟨z,y,xs,r,ob,es,ep,e,c⟩:=x
    exact ⟨z,y,xs,Paired.mapP r fun p q z=>⟨z.1,ht _ _ z.2.1,z.2.2⟩,ob,es,ep,k _ _ (.inl rfl) e,c⟩
  | set S n=>obtain ⟨ob,es,ep,t,e,c⟩:=x;exact ⟨ob,es,ep,t,k _ _ (.inl rfl) e,c⟩
  | ins C dx fs =>
    obtain ⟨d,z,ne,e,mA,⟨od,es,ep,e2,c⟩,r⟩:=x
    exact ⟨ho _ d,z,ne,k _ _ (.inl rfl) e,mA,⟨od,es,ep,k _ _ (.inr d) e2,c⟩,r⟩
  | own y=>obtain ⟨ob,e⟩:=x;exact ⟨ob,k _ _ (.inl rfl) e⟩
  | xd fs=>obtain ⟨mA,⟨od,es,ep,e,c⟩,r⟩:=x;exact ⟨mA,⟨od,es,ep,k _ _ (.inl rfl) e,c⟩,r⟩
  | rng lo hi=>obtain ⟨t,u,v,e⟩:=x;exact ⟨t,u,v,k _ _ (.inl rfl) e⟩
  | frz ob u ih=>obtain ⟨e,q⟩:=x;exact ⟨k _ _ (.inl rfl) e,ih q⟩
  | tbl ps =>
    have e:h.get? a=some { cls:=.none,data:=.fields ps }:=x
    show h'.get? a=some { cls:=.none,data:=.fields ps }
    exact k a _ (.inl rfl) e
  | met f y =>
    have e:h.get? a=some (PySem.W.methodObj (.ref f) (.ref y)):=x
    show h'.get? a=some (PySem.W.methodObj (.ref f) (.ref y))
    exact k a _ (.inl rfl) e
  | ext φ=>obtain ⟨p,⟨o,e⟩,st⟩:=x;exact ⟨st _ _ p fun o q=>k _ _ (.inl rfl) q,⟨o,k _ _ (.inl rfl) e⟩,st⟩
theorem HOk.lt (x:HOk P w H h) (e:H a=some o):a<h.objs.size:=(x a o e).lt
theorem HOk.fresh (x:HOk P w H h) (e:h.objs.size≤a):H a=none:=by
 cases q:H a with
 | none=>rfl
 | some u=>exact absurd (Nat.lt_of_lt_of_le (x.lt q) e) (Nat.lt_irrefl _)
theorem HOk.kept (x:HOk P w H h) (k:∀ b u,h.get? b=some u→h'.get? b=some u):HOk P w H h':=fun a o e =>
 (x a o e).stay (fun b u _ q=>k b u q) (fun _ q=>q) fun _ _ q=>q
theorem HOk.laid (x:HOk P w H h) (k:∀ b u,h.get? b=some u→h'.get? b=some u) (hp:h.objs.size≤a) (new:ObjOk P w (upd H a o) h' a o):HOk P w (upd H a o) h':=fun b u e=>by
 have hn:=x.fresh hp
 by_cases hb:b=a
 ·subst hb;rw [qAA] at e;cases e;exact new
 ·rw [qAB hb] at e
  exact (x b u e).stay (fun c v _ q=>k c v q) (fun c q=>by rw [qAB (ne_of_none q hn)];exact q) fun c xs q=>by rw [qAB (ne_of_none q hn)];exact q
end
noncomputable def Rd (H:Hp) (a:Addr) (u:HO):Prop:=H a=some u∨∃ o,H a=some (.frz o u)
theorem Rd.of {H:Hp} {a:Addr} {u:HO} (h:H a=some u):Rd H a u:=.inl h
theorem Rd.ok {P:Program} {w:World} {H:Hp} {h:Heap} {a:Addr} {u:HO} (r:Rd H a u) (x:HOk P w H h):ObjOk P w H h a u:=by
 rcases r with r | ⟨o,r⟩
 ·exact x a u r
 ·obtain ⟨_,q⟩:=x a _ r
  exact q
noncomputable def Mut:Option HO→Prop
 | some (.lst _)=>True
 | some (.dK _)=>True
 | some (.dT _)=>True
 | some (.set _ _)=>True
 | some (.ins _ _ _)=>True
 | some (.ext _)=>True
 | _=>False
section
variable {P:Program} {w:World} {H:Hp} {h h':Heap} {x e:Addr} {o':HO}
theorem HOk.write (ok:HOk P w H h) (mu:Mut (H x)) (he:e=x∨H e=some (.own x)) (k:∀ b u,b≠e→h.get? b=some u→h'.get? b=some u) (heo:∃ u,h'.get? e=some u)
    (new:ObjOk P w (upd H x o') h' x o'):HOk P w (upd H x o') h':=fun b u q=>by
  have nown:∀ c y,H c=some (.own y)→c≠x:=fun c y r z=>by subst z;rw [r] at mu;exact mu
  have ntup:∀ c xs,H c=some (.tup xs)→c≠x:=fun c xs r z=>by subst z;rw [r] at mu;exact mu
  by_cases hb:b=x
  · subst hb;rw [qAA] at q;cases q;exact new
  · rw [qAB hb] at q
    by_cases hbe:b=e
    · have q':H b=some (.own x):=by
        rcases he with z | z
        · exact absurd (hbe.trans z) hb
        · rw [hbe];exact z
      rw [q] at q';cases q'
      obtain ⟨v,hv⟩:=heo
      exact ⟨v,by rw [hbe];exact hv⟩
    · refine (ok b u q).stay (fun c v hc r=>k c v ?_ r) (fun c r=>by rw [qAB (nown c b r)];exact r) fun c xs r=>by rw [qAB (ntup c xs r)];exact r
      rcases hc with rfl | hc
      · exact hbe
      · rintro rfl
        rcases he with z | z
        · exact nown c b hc z
        · rw [hc] at z;cases z;exact hb rfl
end
structure Un (fs ex:List Addr) (H H':Hp) (h h':Heap):Prop where
 keep:∀ b o,h.get? b=some o→H b=none→b∉fs→b∉ex→h'.get? b=some o
 slot:∀ b o,h.get? b=some o→H b=none→b∈fs→b∉ex→∃ sl,h'.get? b=some { o with slots:=sl }
 free:∀ b o,h.get? b=some o→H b=none→b∉ex→H' b=none
 there:∀ b o,h.get? b=some o→b∉ex→∃ o',h'.get? b=some o'
 tups:∀ b xs,H b=some (.tup xs)→H' b=some (.tup xs)
 frzs:∀ b o u,H b=some (.frz o u)→H' b=some (.frz o u)
 tbls:∀ b ps,H b=some (.tbl ps)→∃ more,H' b=some (.tbl (ps++more))
section
variable {fs fs' ex ex':List Addr} {H H1 H2:Hp} {h h1 h2 h':Heap} {a x e:Addr} {o:HO}
theorem Un.any (u:Un fs ex H H1 h h1) {b:Addr} {ob:Obj} (q:h.get? b=some ob) (n:H b=none) (hx:b∉ex):∃ sl,h1.get? b=some { ob with slots:=sl }:=by
 by_cases hb:b∈fs
 ·exact u.slot b ob q n hb hx
 ·exact ⟨ob.slots,u.keep b ob q n hb hx⟩
theorem Un.trans (a:Un fs ex H H1 h h1) (b:Un fs ex H1 H2 h1 h2):Un fs ex H H2 h h2 where
 keep:=fun c ob q n hc hx=>b.keep c ob (a.keep c ob q n hc hx) (a.free c ob q n hx) hc hx
 slot:=fun c ob q n hc hx=>by
  obtain ⟨sl,e1⟩:=a.slot c ob q n hc hx
  obtain ⟨sl',e2⟩:=b.slot c _ e1 (a.free c ob q n hx) hc hx
  exact ⟨sl',e2⟩
 free:=fun c ob q n hx=>by
  obtain ⟨o',e1⟩:=a.there c ob q hx
  exact b.free c o' e1 (a.free c ob q n hx) hx
 there:=fun c ob q hx=>by
  obtain ⟨o',e1⟩:=a.there c ob q hx
  exact b.there c o' e1 hx
 tups:=fun c xs q=>b.tups c xs (a.tups c xs q)
 frzs:=fun c ob xs q=>b.frzs c ob xs (a.frzs c ob xs q)
 tbls:=fun c ps q=>by
  obtain ⟨m1,e1⟩:=a.tbls c ps q
  obtain ⟨m2,e2⟩:=b.tbls c _ e1
  exact ⟨m1++m2,by rw [e2,Array.append_assoc]⟩
theorem Un.kept (k:∀ b u,h.get? b=some u→h'.get? b=some u):Un fs ex H H h h' :=
 ⟨fun b ob q _ _ _=>k b ob q,fun b ob q _ _ _=>⟨ob.slots,k b ob q⟩,fun _ _ _ n _=>n,fun b ob q _=>⟨ob,k b ob q⟩,fun _ _ q=>q,fun _ _ _ q=>q,fun _ ps q=>⟨#[],by rw [q];simp⟩⟩
theorem Un.refl:Un fs ex H H h h:=Un.kept fun _ _ q=>q
theorem Un.laid (k:∀ b u,h.get? b=some u→h'.get? b=some u) (hp:h.objs.size≤a) (hn:H a=none):Un fs ex H (upd H a o) h h' where
 keep:=fun b u q _ _ _=>k b u q
 slot:=fun b u q _ _ _=>⟨u.slots,k b u q⟩
 free:=fun b u q n _=>by rw [qAB (Nat.ne_of_lt (Nat.lt_of_lt_of_le (Heap.lt_size q) hp))];exact n
 there:=fun b u q _=>⟨u,k b u q⟩
 tups:=fun b xs q=>by rw [qAB (ne_of_none q hn)];exact q
 frzs:=fun b u xs q=>by rw [qAB (ne_of_none q hn)];exact q
 tbls:=fun b ps q=>⟨#[],by rw [qAB (ne_of_none q hn),q];simp⟩
theorem Un.write (mu:Mut (H x)) (he:e=x∨H e=some (.own x)) (k:∀ b u,b≠e→h.get? b=some u→h'.get? b=some u) (heo:∃ u,h'.get? e=some u):Un fs ex H (upd H x o) h h':=by
 have hx:∀ b,H b=none→b≠x:=fun b n z=>by subst z;rw [n] at mu;exact mu
 have hb:∀ b,H b=none→b≠e:=fun b n z=>by
  subst z
  rcases he with r | r
  ·exact hx b n r
  ·rw [n] at r;cases r
 have hm:∀ b u,H b=some u→¬ Mut (some u)→b≠x:=fun b u q nm z=>by subst z;rw [q] at mu;exact nm mu
 refine ⟨fun b u q n _ _=>k b u (hb b n) q,fun b u q n _ _=>⟨u.slots,k b u (hb b n) q⟩,fun b u q n _=>by rw [qAB (hx b n)];exact n,fun b u q _=>?_,
  fun b xs q=>by rw [qAB (hm b _ q fun z=>z)];exact q,fun b u xs q=>by rw [qAB (hm b _ q fun z=>z)];exact q,fun b ps q=>⟨#[],by rw [qAB (hm b _ q fun z=>z),q];simp⟩⟩
 by_cases hbe:b=e
 ·subst hbe;exact heo
 ·exact ⟨u,k b u hbe q⟩
theorem Un.mono (u:Un fs ex H H1 h h1) (hs:∀ b∈fs,b∈fs') (hx:∀ b∈ex,b∈ex'):Un fs' ex' H H1 h h1 :=
 ⟨fun b ob q n hb he=>u.keep b ob q n (fun z=>hb (hs b z)) fun z=>he (hx b z),fun _ _ q n _ he=>u.any q n fun z=>he (hx _ z),fun b ob q n he=>u.free b ob q n fun z=>he (hx b z),fun b ob q he=>u.there b ob q fun z=>he (hx b z),u.tups,u.frzs,u.tbls⟩
end
noncomputable def trk (h:Heap) (H:Hp):List Addr:=(List.range h.objs.size).filter fun a=>(H a).isSome
noncomputable def hidT (h:Heap) (H:Hp):Heap:=PySem.W.hideAll h (trk h H)
theorem qHm (h:Heap) (H:Hp):(hidT h H).objs.size=h.objs.size:=PySem.W.hideAll_size _ _
theorem qJJ {h:Heap} {H:Hp} {b:Addr} {o:Obj} (e:h.get? b=some o) (n:H b=none):(hidT h H).get? b=some o :=
 PySem.W.hideAll_get _ e fun hm=>by
  have q:(H b).isSome=true:=(List.mem_filter.mp hm).2
  rw [n] at q;simp at q
theorem qKs {h:Heap} {H:Hp} {b:Addr} {o:Obj} (e:(hidT h H).get? b=some o):h.get? b=some o∧H b=none:=by
 have e':h.get? b=some o:=PySem.W.of_hideAll (trk h H) e
 refine ⟨e',?_⟩
 cases q:H b with
 | none=>rfl
 | some x =>
  have hm:b∈trk h H:=List.mem_filter.mpr ⟨List.mem_range.mpr (Heap.lt_size e'),by simp [q]⟩
  have z:(hidT h H).get? b=none:=PySem.W.hideAll_none (trk h H) hm
  rw [z] at e;cases e
noncomputable def qLu (g h:Heap) (L:Addr):List (Addr × Obj):=(List.range h.objs.size).filterMap fun a=>if a=L∨(g.get? a).isSome=true then none else (h.get? a).map fun o=>(a,o)
noncomputable def rest (g h:Heap) (L d:Addr):List (Addr × Obj):=(qLu g h L).filter fun p=>decide (p.1≠d)
end L2
namespace L2
open PySem PySem.Spec PyProof.Rows
structure Mod (K:PySem.W.Frag) (mg:Str→Option Value) (base:Heap):Prop where
 kin:K.In base
 glob:base.Ns mainGlobals mg
 blt:∃ mb,base.Ns builtinsNs mb∧∀ x:Str,x≠"__name__"→mb x=bootBuiltins x
 nolimit:base.NoLimit
structure Cx where
 prog:Program
 w:World
 K:PySem.W.Frag
 mg:Str→Option Value
 base:Heap
 A:Around
 N:List Str
 s₀:Shared
 H₀:Hp
 env:Env
 outer:List Env
 stack:List Env
 ex:List Addr
 fn:Str→Bool
 calm:Bool
 pn:List (Addr × Obj)
 xe:Value→Shared→Prop
noncomputable def frs (l:List Env):List Addr:=l.filterMap (·.frame)
noncomputable abbrev Cx.fs (X:Cx):List Addr:=frs X.outer
noncomputable def Vis (sc:Scope) (x:Str):Prop:=sc.names.lookup x=some .local∨sc.names.lookup x=some .cell∨sc.names.lookup x=some .free
noncomputable def Loc (sc:Scope) (x:Str):Prop:=sc.names.lookup x=some .local∨sc.names.lookup x=some .cell
noncomputable def Look (env:Env) (h:Heap) (m:Str→Option Value) (x:Str) (u:Value):Prop :=
 (env.kindOf x=some .local∧m x=some u)∨((env.kindOf x=some .cell∨env.kindOf x=some .free)∧∃ c,env.cells.lookup x=some c∧h.IsCell c (some u))
structure Cx.Ok (X:Cx):Prop where
 mod:Mod X.K X.mg X.base
 kind:X.env.scope.kind=.function
 glob:X.env.globals=mainGlobals
 blt:X.env.builtins=builtinsNs
 above:X.s₀.heap.objs.size≤X.env.locals
 inj:∀ x y c,X.env.cells.lookup x=some c→X.env.cells.lookup y=some c→x=y
 has:∀ x,(X.env.kindOf x=some .cell∨X.env.kindOf x=some .free)→∃ c,X.env.cells.lookup x=some c
 cab:∀ x c,X.fn x=true→X.env.cells.lookup x=some c→X.s₀.heap.objs.size≤c
 hd:X.calm=true→X.A.handled=none
 frames:X.A.frames=some X.stack
 stk:X.stack=X.outer∨(X.stack=X.env::X.outer∧X.env.frame=some X.env.locals)
 exf:∀ b∈X.ex,b≠X.env.locals∧∀ x c,X.env.cells.lookup x=some c→c≠b
 bs:∀ b o,X.base.get? b=some o→X.s₀.heap.get? b=some o∧X.H₀ b=none
 bsz:X.base.objs.size≤X.s₀.heap.objs.size
 noex:∀ b o,X.base.get? b=some o→b∉X.ex
 exfs:∀ b∈X.ex,b∉X.fs
 funs:X.s₀.heap.FunFrames X.base X.outer
 frf:∀ b∈X.fs,X.H₀ b=none
structure Inv (X:Cx) (pins:List (Addr × Obj)) (σ:List (Option V)) (H:Hp) (s:Shared):Prop where
 ok:X.Ok
 os:s.os=X.s₀.os
 bare:AllBare s.gens
 base:Un X.fs X.ex X.H₀ H X.s₀.heap s.heap
 loc:∃ m,s.heap.Ns X.env.locals m∧∀ (i:Nat) (x:Str) (v:V),X.N[i]?=some x→σ[i]?=some (some v)→Vis X.env.scope x→∃ u,RelV v u∧Look X.env s.heap m x u
 cell:∀ x c,X.env.cells.lookup x=some c→∃ v,s.heap.IsCell c v
 free:H X.env.locals=none
 freeC:∀ x c,X.env.cells.lookup x=some c→H c=none
 pin:∀ p∈X.pn++pins,s.heap.get? p.1=some p.2∧H p.1=none∧p.1≠X.env.locals∧p.1∉X.fs∧∀ v,p.2.data≠.cell v
 hok:HOk X.prog X.w H s.heap
 len:σ.length=X.N.length
section
variable {X:Cx} {pins:List (Addr × Obj)} {σ:List (Option V)} {H H':Hp} {s:Shared} {h':Heap}
theorem Cx.Ok.nofr (ok:X.Ok) {b:Addr} {o:Obj} (e:X.base.get? b=some o):b∉X.fs:=fun hb=>by
 have:=(ok.funs.mem hb).1
 rw [e] at this;cases this
theorem Inv.bs (I:Inv X pins σ H s):∀ b o,X.base.get? b=some o→s.heap.get? b=some o∧H b=none:=fun b o e =>
 ⟨I.base.keep b o (I.ok.bs b o e).1 (I.ok.bs b o e).2 (I.ok.nofr e) (I.ok.noex b o e),I.base.free b o (I.ok.bs b o e).1 (I.ok.bs b o e).2 (I.ok.noex b o e)⟩
theorem Inv.bk (I:Inv X pins σ H s):∀ b o,X.base.get? b=some o→s.heap.get? b=some o:=fun b o e=>(I.bs b o e).1
theorem Inv.mod (I:Inv X pins σ H s):Mod X.K X.mg X.base:=I.ok.mod
theorem Inv.kIn (I:Inv X pins σ H s):X.K.In s.heap:=I.ok.mod.kin.keeps I.bk
theorem Inv.nolimit (I:Inv X pins σ H s):s.heap.NoLimit:=I.ok.mod.nolimit.keeps I.bk
theorem Inv.lt (I:Inv X pins σ H s):X.env.locals<s.heap.objs.size:=let ⟨_,hn,_⟩:=I.loc;hn.lt
theorem Inv.sz (I:Inv X pins σ H s):X.s₀.heap.objs.size≤s.heap.objs.size:=Nat.le_trans I.ok.above (Nat.le_of_lt I.lt)
theorem Inv.nofs (I:Inv X pins σ H s) {a:Addr} (h:s.heap.objs.size≤a):a∉X.fs:=fun hb=>by
 obtain ⟨_,o,ho,_⟩:=I.ok.funs.mem hb
 exact absurd (Nat.lt_of_lt_of_le (Heap.lt_size ho) (Nat.le_trans I.sz h)) (Nat.lt_irrefl _)
theorem Inv.cne (I:Inv X pins σ H s):∀ x c,X.env.cells.lookup x=some c→c≠X.env.locals:=fun x c e z=>by
 obtain ⟨v,o,ho,hd⟩:=I.cell x c e
 obtain ⟨m,⟨o',es,ep,ho',hd',_⟩,_⟩:=I.loc
 rw [z,ho'] at ho;cases ho;rw [hd'] at hd;cases hd
theorem Inv.funs (I:Inv X pins σ H s):s.heap.FunFrames X.base X.outer:=by
 have all:∀ (l:List Env),(∀ b∈frs l,b∈X.fs)→X.s₀.heap.FunFrames X.base l→s.heap.FunFrames X.base l:=by
  intro l
  induction l with
  | nil=>intro _ _;trivial
  | cons env r ih =>
   intro hs hl
   obtain ⟨hk,⟨L,o,hf,hn,ho,hd⟩,hr⟩:=hl
   have hL:L∈X.fs:=hs L (by unfold frs;rw [List.filterMap_cons,hf];exact List.mem_cons_self)
   obtain ⟨sl,e⟩:=I.base.slot L o ho (I.ok.frf L hL) hL fun z=>I.ok.exfs L z hL
   exact ⟨hk,⟨L,_,hf,hn,e,hd⟩,ih (fun b hb=>hs b (by unfold frs;rw [List.filterMap_cons,hf];exact List.mem_cons_of_mem _ hb)) hr⟩
 exact all X.outer (fun _ hb=>hb) I.ok.funs
theorem Inv.stack (I:Inv X pins σ H s):s.heap.FunFrames X.base X.stack:=by
 rcases I.ok.stk with e | ⟨e,hf⟩
 ·rw [e];exact I.funs
 ·rw [e]
  obtain ⟨m,hn,_⟩:=I.loc
  refine .cons (by rw [I.ok.kind];decide) hf hn ?_ I.funs
  exact Heap.get?_none_of_le (Nat.le_trans I.ok.bsz I.ok.above)
theorem Inv.stkSub (I:Inv X pins σ H s):∀ b∈frs X.stack,b∈X.env.locals::X.fs:=fun b hb=>by
 rcases I.ok.stk with e | ⟨e,hf⟩
 ·rw [e] at hb;exact List.mem_cons_of_mem _ hb
 ·rw [e] at hb
  unfold frs at hb
  rw [List.filterMap_cons,hf] at hb
  exact hb
theorem Inv.stkFree (I:Inv X pins σ H s):∀ b∈frs X.stack,H b=none:=fun b hb=>by
 rcases List.mem_cons.mp (I.stkSub b hb) with e | hb
 ·rw [e];exact I.free
 ·obtain ⟨_,o,ho,_⟩:=I.ok.funs.mem hb
  exact I.base.free b o ho (I.ok.frf b hb) fun z=>I.ok.exfs b z hb
theorem Inv.step {g':Array GenState} {t':Nat} {d':Drawn} {ch:List Addr} (I:Inv X pins σ H s)
    (hch:∀ b∈ch,(b∈X.ex∨X.s₀.heap.objs.size≤b)∧b≠X.env.locals∧(∀ x c,X.env.cells.lookup x=some c→c≠b)∧∀ p∈X.pn++pins,p.1≠b)
    (keep:∀ b o,b≠X.env.locals→b∉X.fs→b∉ch→s.heap.get? b=some o→H b=none→h'.get? b=some o)
    (slot:∀ b o,b≠X.env.locals→b∈X.fs→b∉ch→s.heap.get? b=some o→H b=none→∃ sl,h'.get? b=some { o with slots:=sl }) (free:∀ b o,b∉ch→s.heap.get? b=some o→H b=none→H' b=none)
    (there:∀ b o,b∉ch→s.heap.get? b=some o→∃ o',h'.get? b=some o')
    (tups:∀ b xs,H b=some (.tup xs)→H' b=some (.tup xs)) (frzs:∀ b o u,H b=some (.frz o u)→H' b=some (.frz o u)) (tbls:∀ b ps,H b=some (.tbl ps)→∃ more,H' b=some (.tbl (ps++more)))
    (ns:∀ m,s.heap.Ns X.env.locals m→h'.Ns X.env.locals m) (hok:HOk X.prog X.w H' h') (hg:AllBare g') :
    Inv X pins σ H' { s with heap:=h',gens:=g',drawn:=d',toks:=t' }:=by
  have neL:∀ b o,X.s₀.heap.get? b=some o→b≠X.env.locals:=fun b o e=>Nat.ne_of_lt (Nat.lt_of_lt_of_le (Heap.lt_size e) I.ok.above)
  have neC:∀ b o,X.s₀.heap.get? b=some o→b∉X.ex→b∉ch:=fun b o e hx hb=>by
    rcases (hch b hb).1 with z | z
    · exact hx z
    · exact absurd (Nat.lt_of_lt_of_le (Heap.lt_size e) z) (Nat.lt_irrefl _)
  have cellK:∀ x c,X.env.cells.lookup x=some c→∀ v,s.heap.IsCell c v→h'.IsCell c v:=fun x c e v ⟨o,ho,hd⟩=>by
    have nch:c∉ch:=fun z=>(hch c z).2.2.1 x c e rfl
    by_cases hc:c∈X.fs
    · obtain ⟨sl,q⟩:=slot c o (I.cne x c e) hc nch ho (I.freeC x c e)
      exact ⟨_,q,hd⟩
    · exact ⟨o,keep c o (I.cne x c e) hc nch ho (I.freeC x c e),hd⟩
  refine ⟨I.ok,I.os,hg,⟨fun b o e n hb hx=>?_,fun b o e n hb hx=>?_,fun b o e n hx=>?_,fun b o e hx=>?_,fun b xs e=>tups b xs (I.base.tups b xs e),fun b o xs e=>frzs b o xs (I.base.frzs b o xs e),fun b ps e=>?_⟩,?_,fun x c e=>?_,?_,fun x c e=>?_,fun p hp=>?_,hok,I.len⟩
  · exact keep b o (neL b o e) hb (neC b o e hx) (I.base.keep b o e n hb hx) (I.base.free b o e n hx)
  · obtain ⟨sl,e1⟩:=I.base.slot b o e n hb hx
    obtain ⟨sl',e2⟩:=slot b _ (neL b o e) hb (neC b o e hx) e1 (I.base.free b o e n hx)
    exact ⟨sl',e2⟩
  · obtain ⟨o',e1⟩:=I.base.there b o e hx
    exact free b o' (neC b o e hx) e1 (I.base.free b o e n hx)
  · obtain ⟨o',e1⟩:=I.base.there b o e hx
    exact there b o' (neC b o e hx) e1
  · obtain ⟨m1,e1⟩:=I.base.tbls b ps e
    obtain ⟨m2,e2⟩:=tbls b _ e1
    exact ⟨m1++m2,by rw [e2,Array.append_assoc]⟩
  · obtain ⟨m,hn,hl⟩:=I.loc
    refine ⟨m,ns m hn,fun i x v e1 e2 e3=>?_⟩
    obtain ⟨u,r,l⟩:=hl i x v e1 e2 e3
    refine ⟨u,r,?_⟩
    rcases l with l | ⟨k,c,e,z⟩
    · exact .inl l
    · exact .inr ⟨k,c,e,cellK x c e _ z⟩
  · obtain ⟨v,z⟩:=I.cell x c e
    exact ⟨v,cellK x c e v z⟩
  · obtain ⟨m,⟨o,_,_,ho,_⟩,_⟩:=I.loc
    exact free _ o (fun z=>(hch _ z).2.1 rfl) ho I.free
  · obtain ⟨v,o,ho,hd⟩:=I.cell x c e
    exact free c o (fun z=>(hch c z).2.2.1 x c e rfl) ho (I.freeC x c e)
  · obtain ⟨e,n,ne,nf,d⟩:=I.pin p hp
    have nch:p.1∉ch:=fun z=>(hch p.1 z).2.2.2 p hp rfl
    exact ⟨keep p.1 p.2 ne nf nch e n,free p.1 p.2 nch e n,ne,nf,d⟩
theorem Inv.un {t':Nat} (I:Inv X pins σ H s) (u:Un X.fs [] H H' s.heap h') (hok:HOk X.prog X.w H' h'):Inv X pins σ H' { s with heap:=h',toks:=t' }:=by
 obtain ⟨m,⟨o,es,ep,ho,r⟩,_⟩:=id I.loc
 obtain ⟨sl,hL⟩:=u.any ho I.free (by simp)
 exact I.step (g':=s.gens) (d':=s.drawn) (ch:=[]) (fun _ z=>nomatch z) (fun b o _ hb _ e n=>u.keep b o e n hb (by simp)) (fun b o _ hb _ e n=>u.slot b o e n hb (by simp)) (fun b o _ e n=>u.free b o e n (by simp)) (fun b o _ e=>u.there b o e (by simp)) u.tups u.frzs u.tbls (fun m' hm=>by
  obtain ⟨o',es',ep',ho',r'⟩:=hm
  rw [ho] at ho';cases ho'
  exact ⟨_,es',ep',hL,r'⟩) hok I.bare
theorem Inv.call {g':Array GenState} {t':Nat} {d':Drawn} {ch:List Addr} (I:Inv X pins σ H s) (u:Un (frs X.stack) ch H H' s.heap h') (hok:HOk X.prog X.w H' h') (hg:AllBare g')
    (hch:∀ b∈ch,(b∈X.ex∨X.s₀.heap.objs.size≤b)∧b≠X.env.locals∧(∀ x c,X.env.cells.lookup x=some c→c≠b)∧∀ p∈X.pn++pins,p.1≠b) :
    Inv X pins σ H' { s with heap:=h',gens:=g',drawn:=d',toks:=t' }:=by
  obtain ⟨m,⟨o,es,ep,ho,r⟩,_⟩:=id I.loc
  obtain ⟨sl,hL⟩:=u.any ho I.free fun z=>(hch _ z).2.1 rfl
  exact I.step (ch:=ch) hch (fun b o hL hb hc e n=>u.keep b o e n (fun z=>(List.mem_cons.mp (I.stkSub b z)).elim hL hb) hc) (fun b o _ _ hc e n=>u.any e n hc) (fun b o hc e n=>u.free b o e n hc) (fun b o hc e=>u.there b o e hc) u.tups u.frzs u.tbls (fun m' hm=>by
    obtain ⟨o',es',ep',ho',r'⟩:=hm
    rw [ho] at ho';cases ho'
    exact ⟨_,es',ep',hL,r'⟩) hok hg
theorem Inv.turned {t':Nat} {it:Addr} (I:Inv X pins σ H s) (k:∀ b o,b≠it→s.heap.get? b=some o→h'.get? b=some o) (hn:H it=none) (hL:it≠X.env.locals)
    (h1:it∈X.ex∨X.s₀.heap.objs.size≤it) (h2:∀ x c,X.env.cells.lookup x=some c→c≠it) (h3:∀ p∈X.pn++pins,p.1≠it):Inv X pins σ H { s with heap:=h',toks:=t' }:=by
  have nit:∀ b u,H b=some u→b≠it:=fun b u e z=>by rw [z,hn] at e;cases e
  refine I.step (g':=s.gens) (d':=s.drawn) (ch:=[it]) (fun b hb=>?_) (fun b o _ _ hc e _=>k b o (fun z=>hc (by simp [z])) e) (fun b o _ _ hc e _=>⟨o.slots,k b o (fun z=>hc (by simp [z])) e⟩) (fun _ _ _ _ n=>n)
    (fun b o hc e=>⟨o,k b o (fun z=>hc (by simp [z])) e⟩) (fun _ _ e=>e) (fun _ _ _ e=>e) (fun b ps e=>⟨#[],by rw [e];simp⟩) (fun m hm=>?_) (fun b u e=>?_) I.bare
  · have e:b=it:=by simpa using hb
    subst e
    exact ⟨h1,hL,h2,h3⟩
  · obtain ⟨o,es,ep,ho,r⟩:=hm
    exact ⟨o,es,ep,k _ o (Ne.symm hL) ho,r⟩
  · refine (I.hok b u e).stay (fun c v hc q=>k c v ?_ q) (fun _ q=>q) fun _ _ q=>q
    rcases hc with z | z
    · rw [z];exact nit b u e
    · exact nit c _ z
theorem Inv.tok (I:Inv X pins σ H s) (t:Nat):Inv X pins σ H { s with toks:=t }:=I.un (h':=s.heap) (t':=t) Un.refl I.hok
theorem Inv.kept {t':Nat} (I:Inv X pins σ H s) (k:∀ b u,s.heap.get? b=some u→h'.get? b=some u):Inv X pins σ H { s with heap:=h',toks:=t' }:=I.un (Un.kept k) (I.hok.kept k)
theorem Inv.laid {a:Addr} {o:HO} {t':Nat} (I:Inv X pins σ H s) (k:∀ b u,s.heap.get? b=some u→h'.get? b=some u) (hp:s.heap.objs.size≤a) (new:ObjOk X.prog X.w (upd H a o) h' a o) :
    Inv X pins σ (upd H a o) { s with heap:=h',toks:=t' }:=I.un (Un.laid k hp (I.hok.fresh hp)) (I.hok.laid k hp new)
theorem Inv.write {x e:Addr} {o:HO} {t':Nat} (I:Inv X pins σ H s) (mu:Mut (H x)) (he:e=x∨H e=some (.own x)) (k:∀ b u,b≠e→s.heap.get? b=some u→h'.get? b=some u) (heo:∃ u,h'.get? e=some u)
    (new:ObjOk X.prog X.w (upd H x o) h' x o):Inv X pins σ (upd H x o) { s with heap:=h',toks:=t' }:=I.un (Un.write mu he k heo) (I.hok.write mu he k heo new)
theorem Inv.pins_of {pins':List (Addr × Obj)} (I:Inv X pins σ H s) (h:∀ p∈pins',s.heap.get? p.1=some p.2∧H p.1=none∧p.1≠X.env.locals∧p.1∉X.fs∧∀ v,p.2.data≠.cell v):Inv X pins' σ H s :=
 ⟨I.ok,I.os,I.bare,I.base,I.loc,I.cell,I.free,I.freeC,fun p hp=>(List.mem_append.mp hp).elim (fun z=>I.pin p (List.mem_append_left _ z)) (h p),I.hok,I.len⟩
theorem qFn {N:List Str} (hN:N.Nodup) {i j:Nat} {x:Str} (a:N[i]?=some x) (b:N[j]?=some x):i=j:=by
 obtain ⟨h1,e1⟩:=List.getElem?_eq_some_iff.mp a
 obtain ⟨h2,e2⟩:=List.getElem?_eq_some_iff.mp b
 exact (List.getElem_inj hN).mp (e1.trans e2.symm)
theorem qGo {M:Model} {A:Around} {E:Value→Shared→Prop} {i:Nat} {x:Str} {v:V} {u:Value} {Q:Unit→Shared→Prop} (I:Inv X pins σ H s) (hN:X.N.Nodup) (hi:X.N[i]?=some x) (hx:Loc X.env.scope x) (r:RelV v u)
    (h:∀ s',Inv X pins (σ.set i (some v)) H s'→(∃ a,Heap.SameBut a s.heap s'.heap∧(a=X.env.locals∨X.env.cells.lookup x=some a))→Q () s') (hf:X.fn x=true∨X.env.scope.names.lookup x=some .local:=by first | exact .inl rfl | exact .inr rfl | assumption):wpAny M A (storeName X.env x u) Q E s:=by
  obtain ⟨m,hn,hl⟩:=id I.loc
  have hcls:(X.env.scope.kind == .class || (X.env.scope.kind == .module&&X.env.locals != X.env.globals))=false:=by rw [I.ok.kind];rfl
  have hiσ:i<σ.length:=by rw [I.len];exact (List.getElem?_eq_some_iff.mp hi).1
  have cne:=I.cne
  have tracked:∀ {a:Addr} {h':Heap},(∃ o,s.heap.get? a=some o∧H a=none)→Heap.SameBut a s.heap h'→HOk X.prog X.w H h':=fun {a h'} ha hs b ob e=>by
    obtain ⟨_,_,hfree⟩:=ha
    refine (I.hok b ob e).stay (fun c w' hc q=>(hs.2 c ?_).trans q) (fun _ q=>q) fun _ _ q=>q
    rintro rfl
    rcases hc with rfl | hc
    · rw [hfree] at e;cases e
    · rw [hfree] at hc;cases hc
  rcases hx with hk | hk
  · refine wpAny_storeName_local hk hn (fun h' hn' hs=>?_) hcls
    obtain ⟨oL,_,_,hoL,_⟩:=id hn
    refine h _ ⟨I.ok,I.os,I.bare,⟨fun b o e n hb hx=>?_,fun b o e n hb hx=>?_,I.base.free,fun b o e hx=>?_,I.base.tups,I.base.frzs,I.base.tbls⟩,⟨_,hn',fun j y v' e1 e2 e3=>?_⟩,fun y c e=>?_,I.free,I.freeC,fun p hp=>?_,tracked ⟨oL,hoL,I.free⟩ hs,by simpa using I.len⟩ ⟨_,hs,.inl rfl⟩
    · exact (hs.2 b (Nat.ne_of_lt (Nat.lt_of_lt_of_le (Heap.lt_size e) I.ok.above))).trans (I.base.keep b o e n hb hx)
    · obtain ⟨sl,e1⟩:=I.base.slot b o e n hb hx
      exact ⟨sl,(hs.2 b (Nat.ne_of_lt (Nat.lt_of_lt_of_le (Heap.lt_size e) I.ok.above))).trans e1⟩
    · obtain ⟨o',e1⟩:=I.base.there b o e hx
      exact ⟨o',(hs.2 b (Nat.ne_of_lt (Nat.lt_of_lt_of_le (Heap.lt_size e) I.ok.above))).trans e1⟩
    · by_cases hj:j=i
      · subst hj
        rw [hi] at e1;cases e1
        rw [List.getElem?_set_self hiσ] at e2
        cases e2
        exact ⟨u,r,.inl ⟨hk,by simp⟩⟩
      · rw [List.getElem?_set_ne (Ne.symm hj)] at e2
        obtain ⟨u',r',q⟩:=hl j y v' e1 e2 e3
        refine ⟨u',r',?_⟩
        rcases q with ⟨k,e⟩ | ⟨k,c,e,z⟩
        · refine .inl ⟨k,?_⟩
          have:y≠x:=fun e=>hj (qFn hN e1 (e ▸ hi))
          simp [this,e]
        · exact .inr ⟨k,c,e,z.sameBut hs (cne y c e)⟩
    · obtain ⟨w',z⟩:=I.cell y c e
      exact ⟨w',z.sameBut hs (cne y c e)⟩
    · obtain ⟨e,n,ne,nf,d⟩:=I.pin p hp
      exact ⟨(hs.2 p.1 ne).trans e,n,ne,nf,d⟩
  · have hfn:X.fn x=true:=by
      rcases hf with z | z
      · exact z
      · rw [z] at hk;cases hk
    obtain ⟨c,hc⟩:=I.ok.has x (.inl hk)
    obtain ⟨w',z⟩:=I.cell x c hc
    refine wpAny_storeName_cell I.ok.kind hk hc z (fun h' hc' hs=>?_)
    obtain ⟨oc,hoc,hocd⟩:=id z
    refine h { s with heap:=h' } ⟨I.ok,I.os,I.bare,⟨fun b o e n hb hx=>?_,fun b o e n hb hx=>?_,I.base.free,fun b o e hx=>?_,I.base.tups,I.base.frzs,I.base.tbls⟩,⟨m,hn.sameBut hs (Ne.symm (cne x c hc)),fun j y v' e1 e2 e3=>?_⟩,fun y c' e=>?_,I.free,I.freeC,fun p hp=>?_,tracked ⟨oc,hoc,I.freeC x c hc⟩ hs,by simpa using I.len⟩ ⟨c,hs,.inr hc⟩
    · exact (hs.2 b (Nat.ne_of_lt (Nat.lt_of_lt_of_le (Heap.lt_size e) (I.ok.cab x c hfn hc)))).trans (I.base.keep b o e n hb hx)
    · obtain ⟨sl,e1⟩:=I.base.slot b o e n hb hx
      exact ⟨sl,(hs.2 b (Nat.ne_of_lt (Nat.lt_of_lt_of_le (Heap.lt_size e) (I.ok.cab x c hfn hc)))).trans e1⟩
    · obtain ⟨o',e1⟩:=I.base.there b o e hx
      exact ⟨o',(hs.2 b (Nat.ne_of_lt (Nat.lt_of_lt_of_le (Heap.lt_size e) (I.ok.cab x c hfn hc)))).trans e1⟩
    · by_cases hj:j=i
      · subst hj
        rw [hi] at e1;cases e1
        rw [List.getElem?_set_self hiσ] at e2
        cases e2
        exact ⟨u,r,.inr ⟨.inl hk,c,hc,hc'⟩⟩
      · rw [List.getElem?_set_ne (Ne.symm hj)] at e2
        obtain ⟨u',r',q⟩:=hl j y v' e1 e2 e3
        refine ⟨u',r',?_⟩
        rcases q with q | ⟨k,c',e,z'⟩
        · exact .inl q
        · refine .inr ⟨k,c',e,z'.sameBut hs ?_⟩
          rintro rfl
          exact hj (qFn hN e1 (I.ok.inj _ _ _ e hc ▸ hi))
    · by_cases hcc:c'=c
      · subst hcc;exact ⟨_,hc'⟩
      · obtain ⟨w2,z2⟩:=I.cell y c' e
        exact ⟨w2,z2.sameBut hs hcc⟩
    · obtain ⟨e,n,ne,nf,d⟩:=I.pin p hp
      refine ⟨(hs.2 p.1 ?_).trans e,n,ne,nf,d⟩
      intro q
      rw [q,hoc] at e
      have q':oc=p.2:=Option.some.inj e
      exact d w' (by rw [← q'];exact hocd)
theorem store_ok {M:Model} {A:Around} {E:Value→Shared→Prop} {i:Nat} {x:Str} {v:V} {u:Value} {Q:Unit→Shared→Prop} (I:Inv X pins σ H s) (hN:X.N.Nodup) (hi:X.N[i]?=some x) (hx:Loc X.env.scope x) (r:RelV v u)
    (h:∀ s',Inv X pins (σ.set i (some v)) H s'→Q () s') (hf:X.fn x=true∨X.env.scope.names.lookup x=some .local:=by first | exact .inl rfl | exact .inr rfl | assumption):wpAny M A (storeName X.env x u) Q E s :=
  qGo I hN hi hx r (fun s' I' _=>h s' I') hf
theorem Inv.call' {s':Shared} {ch:List Addr} (I:Inv X pins σ H s) (ho:s'.os=s.os) (u:Un (frs X.stack) ch H H' s.heap s'.heap) (hok:HOk X.prog X.w H' s'.heap) (hg:AllBare s'.gens)
    (hch:∀ b∈ch,(b∈X.ex∨X.s₀.heap.objs.size≤b)∧b≠X.env.locals∧(∀ x c,X.env.cells.lookup x=some c→c≠b)∧∀ p∈X.pn++pins,p.1≠b):Inv X pins σ H' s':=by
  obtain ⟨h',g',d',t',o'⟩:=s'
  have e:o'=s.os:=ho
  subst e
  exact I.call (g':=g') (t':=t') (d':=d') u hok hg hch
end
noncomputable abbrev XK:=Value→Option Addr→Hp→Prop
noncomputable abbrev St:=List (Option V)
noncomputable abbrev VK:=V→Hp→Prop
noncomputable abbrev TE:=St→Hp→VK→Prop
noncomputable abbrev TT:=St→Hp→(Bool→Hp→Prop)→Prop
noncomputable abbrev TA:=St→Hp→(List V→Hp→Prop)→Prop
structure Ends where
 nx:St→Hp→Prop
 rt:VK
 bk:St→Hp→Prop:=fun _ _=>False
 ct:St→Hp→Prop:=fun _ _=>False
noncomputable abbrev TS:=Ends→St→Hp→Prop
noncomputable def EP (X:Cx) (pins:List (Addr × Obj)) (σ:St) (Q:VK) (u:Value) (s':Shared):Prop:=∃ v H',Inv X pins σ H' s'∧RelV v u∧Q v H'
noncomputable def TP (X:Cx) (pins:List (Addr × Obj)) (σ:St) (Q:Bool→Hp→Prop) (b:Bool) (s':Shared):Prop:=∃ H',Inv X pins σ H' s'∧Q b H'
noncomputable def AP (X:Cx) (pins:List (Addr × Obj)) (σ:St) (Q:List V→Hp→Prop) (us:List Value) (s':Shared):Prop:=∃ vs H',Inv X pins σ H' s'∧Vals vs us∧Q vs H'
noncomputable def SP (X:Cx) (pins:List (Addr × Obj)) (D:Ends) (f:Flow) (s':Shared):Prop :=
 match f with
 | .next=>∃ σ' H',Inv X pins σ' H' s'∧D.nx σ' H'
 | .brk=>∃ σ' H',Inv X pins σ' H' s'∧D.bk σ' H'
 | .cont=>∃ σ' H',Inv X pins σ' H' s'∧D.ct σ' H'
 | .ret u=>∃ v σ' H',Inv X pins σ' H' s'∧RelV v u∧D.rt v H'
noncomputable def PE (X:Cx) (e:Expr) (t:TE):Prop :=
 ∀ (pins:List (Addr × Obj)) (s:Shared) (σ:St) (H:Hp) (Q:VK),Inv X pins σ H s→t σ H Q→wpAny (model X.prog X.w) X.A (eval e X.env) (EP X pins σ Q) X.xe s
noncomputable def PT (X:Cx) (e:Expr) (t:TT):Prop :=
 ∀ (pins:List (Addr × Obj)) (s:Shared) (σ:St) (H:Hp) (Q:Bool→Hp→Prop),Inv X pins σ H s→t σ H Q→wpAny (model X.prog X.w) X.A (isTrue e X.env (eval e X.env)) (TP X pins σ Q) X.xe s
noncomputable def PW (X:Cx) (e:Expr) (t:TT):Prop :=
 ∀ (whole:Sem Value) (pins:List (Addr × Obj)) (s:Shared) (σ:St) (H:Hp) (Q:Bool→Hp→Prop),Inv X pins σ H s→t σ H Q→wpAny (model X.prog X.w) X.A (isTrue e X.env whole) (TP X pins σ Q) X.xe s
theorem PW.pt {X:Cx} {e:Expr} {t:TT} (h:PW X e t):PT X e t:=h _
noncomputable def PA (X:Cx) (es:List Expr) (t:TA):Prop :=
 ∀ (pos:Pos) (pins:List (Addr × Obj)) (s:Shared) (σ:St) (H:Hp) (Q:List V→Hp→Prop),Inv X pins σ H s→t σ H Q→wpAny (model X.prog X.w) X.A (spliced (backTo pos (starEach es X.env))) (AP X pins σ Q) X.xe s
noncomputable def PS (X:Cx) (st:Stmt) (t:TS):Prop :=
 ∀ (pins:List (Addr × Obj)) (s:Shared) (σ:St) (H:Hp) (D:Ends),Inv X pins σ H s→t D σ H→wpAny (model X.prog X.w) X.A (exec st X.env) (SP X pins D) X.xe s
noncomputable def PSs (X:Cx) (st:List Stmt) (t:TS):Prop :=
 ∀ (pins:List (Addr × Obj)) (s:Shared) (σ:St) (H:Hp) (D:Ends),Inv X pins σ H s→t D σ H→wpAny (model X.prog X.w) X.A (execs st X.env) (SP X pins D) X.xe s
theorem thn {α:Type} {t:Sem α} {Q Q':α→Shared→Prop} {M:Model} {A:Around} {E:Value→Shared→Prop} {s:Shared} (h:wpAny M A t Q E s) (hQ:∀ a s,Q a s→Q' a s):wpAny M A t Q' E s:=wpAny_mono h hQ fun _ _ x=>x
end L2
namespace L2
open PySem PySem.Spec PyProof.Rows
section
variable {X:Cx}
noncomputable def tVar (i:Nat):TE:=fun σ H Q=>∃ v,σ[i]?=some (some v)∧Q v H
noncomputable def tC (v:V):TE:=fun _ H Q=>Q v H
theorem pe_var {i:Nat} {x:Str} {pos:Pos} (hN:X.N[i]?=some x) (hv:Vis X.env.scope x) (hd:(x == ("__debug__":Str))=false:=by decide) (hcd:(x == ("__classdict__":Str))=false:=by decide):PE X (.Name x pos) (tVar i):=by
 intro pins s σ H Q I h
 obtain ⟨v,e,h⟩:=h
 obtain ⟨m,hn,hl⟩:=I.loc
 obtain ⟨u,r,l⟩:=hl i x v hN e hv
 have fin:EP X pins σ Q u s:=⟨v,H,I,r,h⟩
 rcases l with ⟨hk,hm⟩ | ⟨hk,c,hc,hcell⟩
 ·exact wpAny_Name (wpAny_loadName_local I.ok.kind hk hn hm fin) hd
 ·rcases hk with hk | hk
  ·exact wpAny_Name (wpAny_loadName_cell I.ok.kind hk hc hcell fin) hd
  ·exact wpAny_Name (wpAny_loadName_free I.ok.kind hk hc hcell fin hcd) hd
theorem pe_int {i j pos}:PE X (.Constant (.int i) j pos) (tC (.int i)):=fun _ _ _ H _ I h=>wpAny_Constant_int ⟨.int i,H,I.tok _,⟨_,rfl⟩,h⟩
theorem pe_bl {b j pos}:PE X (.Constant (.bool b) j pos) (tC (.bl b)):=fun _ _ _ H _ I h=>Constant_bool ⟨.bl b,H,I,rfl,h⟩
theorem pe_non {j pos}:PE X (.Constant .none j pos) (tC .non):=fun _ _ _ H _ I h=>Constant_none ⟨.non,H,I,rfl,h⟩
theorem pe_str {x j pos}:PE X (.Constant (.str x) j pos) (tC (.str x)):=fun _ _ _ H _ I h=>Calls.Constant_str ⟨.str x,H,I.tok _,⟨_,rfl⟩,h⟩
noncomputable def Gl (X:Cx) (x:Str):Prop:=X.env.kindOf x=some .globalImplicit
theorem ld_glob {E:Value→Shared→Prop} {pins:List (Addr × Obj)} {s:Shared} {σ:St} {H:Hp} {x:Str} {u:Value} {pos:Pos} {Q:Value→Shared→Prop} (I:Inv X pins σ H s) (hg:Gl X x) (hm:X.mg x=some u) (h:Q u s)
    (hd:(x == ("__debug__":Str))=false:=by decide):wpAny (model X.prog X.w) X.A (eval (.Name x pos) X.env) Q E s :=
  Calls.Name_function_global I.ok.kind hg (Calls.loadGlobal_global (by rw [I.ok.glob];exact I.mod.glob.keeps I.bk) hm h) hd
theorem ld_blt {E:Value→Shared→Prop} {pins:List (Addr × Obj)} {s:Shared} {σ:St} {H:Hp} {x:Str} {u:Value} {pos:Pos} {Q:Value→Shared→Prop} (I:Inv X pins σ H s) (hg:Gl X x) (hm:X.mg x=none) (hv:bootBuiltins x=some u) (h:Q u s)
    (hn:x≠"__name__":=by decide) (hd:(x == ("__debug__":Str))=false:=by decide):wpAny (model X.prog X.w) X.A (eval (.Name x pos) X.env) Q E s:=by
  obtain ⟨mb,h1,h2⟩:=I.mod.blt
  exact Calls.Name_function_global I.ok.kind hg (Calls.loadGlobal_builtin (by rw [I.ok.glob];exact I.mod.glob.keeps I.bk) hm (by rw [I.ok.blt];exact h1.keeps I.bk) ((h2 x hn).trans hv) h) hd
theorem pe_glob {x:Str} {v:V} {u:Value} {pos:Pos} (hg:Gl X x) (hm:X.mg x=some u) (r:RelV v u) (hd:(x == ("__debug__":Str))=false:=by decide):PE X (.Name x pos) (tC v) :=
 fun _ _ _ H _ I h=>ld_glob I hg hm ⟨v,H,I,r,h⟩ hd
theorem pe_bltn {x:Str} {v:V} {u:Value} {pos:Pos} (hg:Gl X x) (hm:X.mg x=none) (hv:bootBuiltins x=some u) (r:RelV v u) (hn:x≠"__name__":=by decide) (hd:(x == ("__debug__":Str))=false:=by decide):PE X (.Name x pos) (tC v) :=
 fun _ _ _ H _ I h=>ld_blt I hg hm hv ⟨v,H,I,r,h⟩ hn hd
variable {a b:Expr} {ta tb:TE} {pos:Pos}
variable {tA tB':TT} {rest:List Expr}
noncomputable def tAnd (t u:TT):TT:=fun σ H Q=>t σ H fun c H1=>if c=true then u σ H1 Q else Q false H1
noncomputable def tOr (t u:TT):TT:=fun σ H Q=>t σ H fun c H1=>if c=true then Q true H1 else u σ H1 Q
noncomputable def tNot (t:TT):TT:=fun σ H Q=>t σ H fun c H1=>Q (!c) H1
theorem pw_and1 (ha:PT X a tA):PW X (.BoolOp .And [a] pos) tA:=by
 intro wh pins s σ H Q I h
 refine isTrue_and (thn (ha pins s σ H Q I h) fun c s1 e=>?_)
 cases c with
 | true=>exact isTrue_and_nil e
 | false=>exact e
theorem pw_or1 (ha:PT X a tA):PW X (.BoolOp .Or [a] pos) tA:=by
 intro wh pins s σ H Q I h
 refine isTrue_or (thn (ha pins s σ H Q I h) fun c s1 e=>?_)
 cases c with
 | false=>exact isTrue_or_nil e
 | true=>exact e
theorem pw_and (ha:PT X a tA) (hb:PW X (.BoolOp .And (b::rest) pos) tB'):PW X (.BoolOp .And (a::b::rest) pos) (tAnd tA tB'):=by
 intro wh pins s σ H Q I h
 refine isTrue_and (thn (ha pins s σ H _ I h) fun c s1 ⟨H1,I1,q1⟩=>?_)
 cases c with
 | true=>exact hb wh pins s1 σ H1 Q I1 q1
 | false=>exact ⟨H1,I1,q1⟩
theorem pw_or (ha:PT X a tA) (hb:PW X (.BoolOp .Or (b::rest) pos) tB'):PW X (.BoolOp .Or (a::b::rest) pos) (tOr tA tB'):=by
 intro wh pins s σ H Q I h
 refine isTrue_or (thn (ha pins s σ H _ I h) fun c s1 ⟨H1,I1,q1⟩=>?_)
 cases c with
 | true=>exact ⟨H1,I1,q1⟩
 | false=>exact hb wh pins s1 σ H1 Q I1 q1
theorem pt_not (ha:PT X a tA):PT X (.UnaryOp .Not a pos) (tNot tA):=by
 intro pins s σ H Q I h
 exact isTrue_not (ha pins s σ H (fun c H1=>Q (!c) H1) I h)
noncomputable def tAndV (ta tb:TE):TE:=fun σ H Q=>ta σ H fun x H1=>∃ c,x=.bl c∧if c=true then tb σ H1 Q else Q (.bl false) H1
noncomputable def tOrV (ta tb:TE):TE:=fun σ H Q=>ta σ H fun x H1=>∃ c,x=.bl c∧if c=true then Q (.bl true) H1 else tb σ H1 Q
theorem pe_one {op} {t:TE} (h:PE X a t):PE X (.BoolOp op [a] pos) t:=fun pins s σ H Q I hw=>BoolOp_one (h pins s σ H Q I hw)
theorem pe_and (ha:PE X a ta) (hb:PE X (.BoolOp .And (b::rest) pos) tb):PE X (.BoolOp .And (a::b::rest) pos) (tAndV ta tb):=by
 intro pins s σ H Q I h
 refine BoolOp_and (thn (ha pins s σ H _ I h) fun v s1 ⟨x,H1,I1,r1,q1⟩=>?_)
 obtain ⟨c,rfl,q1⟩:=q1
 cases r1
 refine wpAny_truthy_bool ?_
 cases c with
 | true=>exact hb pins s1 σ H1 Q I1 q1
 | false=>exact ⟨.bl false,H1,I1,rfl,q1⟩
theorem pe_or (ha:PE X a ta) (hb:PE X (.BoolOp .Or (b::rest) pos) tb):PE X (.BoolOp .Or (a::b::rest) pos) (tOrV ta tb):=by
 intro pins s σ H Q I h
 refine BoolOp_or (thn (ha pins s σ H _ I h) fun v s1 ⟨x,H1,I1,r1,q1⟩=>?_)
 obtain ⟨c,rfl,q1⟩:=q1
 cases r1
 refine wpAny_truthy_bool ?_
 cases c with
 | false=>exact hb pins s1 σ H1 Q I1 q1
 | true=>exact ⟨.bl true,H1,I1,rfl,q1⟩
end
end L2
namespace L2
open PySem PySem.Spec PyProof.Rows
noncomputable def SqL (K:PySem.W.Frag) (H:Hp) (a:Addr) (xs:List V):Prop :=
 Rd H a (.lst xs) ∨
  ∃ (o:Obj) (its:Array Value) (n:Nat),K.lookup a=some o∧o.cls=.type "list"∧o.dict=none∧o.data=.seq its n∧its.size≤sizeLine∧Vals xs its.toList
noncomputable def SqT (K:PySem.W.Frag) (H:Hp) (a:Addr) (xs:List V):Prop :=
 Rd H a (.tup xs) ∨
  ∃ (o:Obj) (its:Array Value) (n:Nat),K.lookup a=some o∧o.cls=.type "tuple"∧o.data=.seq its n∧its.size≤sizeLine∧Vals xs its.toList
noncomputable def absV:Value→Option V
 | .none=>some .non
 | .bool b=>some (.bl b)
 | .int i _=>some (.int i)
 | .str x _=>some (.str x)
 | .bytes b _=>some (.byt b)
 | .float b _=>some (.flt b)
 | .ref a=>some (.ref a)
 | .type n=>some (.ty n)
 | _=>none
theorem RelV.abs {x:V} {u:Value} (r:RelV x u):absV u=some x:=by
 cases x with
 | non=>cases r;rfl
 | bl _=>cases r;rfl
 | int _=>obtain ⟨t,rfl⟩:=r;rfl
 | str _=>obtain ⟨t,rfl⟩:=r;rfl
 | byt _=>obtain ⟨t,rfl⟩:=r;rfl
 | flt _=>obtain ⟨t,rfl⟩:=r;rfl
 | ref _=>cases r;rfl
 | ty _=>cases r;rfl
theorem RelV.inj {x y:V} {u:Value} (r:RelV x u) (q:RelV y u):x=y:=Option.some.inj (r.abs.symm.trans q.abs)
theorem Vals.inj:∀ {xs ys:List V} {us:List Value},Vals xs us→Vals ys us→xs=ys
 | _,_,_,.nil,.nil=>rfl
 | _,_,_,.cons r t,.cons r' t'=>by rw [r.inj r',Vals.inj t t']
section
variable {X:Cx} {pins:List (Addr × Obj)} {σ:St} {H:Hp} {s:Shared} {a:Addr} {xs ys:List V}
theorem SqL.of {K:PySem.W.Frag} (h:H a=some (.lst xs)):SqL K H a xs:=.inl (.inl h)
theorem SqT.of {K:PySem.W.Frag} (h:H a=some (.tup xs)):SqT K H a xs:=.inl (.inl h)
theorem Inv.list (I:Inv X pins σ H s) (h:SqL X.K H a xs):∃ its:List Value,Vals xs its∧PlainL s.heap a its.toArray∧xs.length≤sizeLine:=by
 rcases h with h | ⟨o,its,n,hk,hc,hd,hs,hz,r⟩
 ·obtain ⟨z,its,n,r,e⟩:=h.ok I.hok
  exact ⟨its,r,⟨_,n,e,rfl,rfl,rfl⟩,z⟩
 ·refine ⟨its.toList,r,⟨o,n,I.kIn a o hk,hc,hd,by simpa using hs⟩,?_⟩
  have e:=r.length
  simp only [Array.length_toList] at e
  omega
theorem Inv.tuple (I:Inv X pins σ H s) (h:SqT X.K H a xs):∃ its:List Value,Vals xs its∧IsTup s.heap a its.toArray∧xs.length≤sizeLine:=by
 rcases h with h | ⟨o,its,n,hk,hc,hs,hz,r⟩
 ·obtain ⟨z,its,r,p⟩:=h.ok I.hok
  exact ⟨its,r,p,z⟩
 ·refine ⟨its.toList,r,⟨o,I.kIn a o hk,hc,n,by simpa using hs⟩,?_⟩
  have e:=r.length
  simp only [Array.length_toList] at e
  omega
theorem Inv.list_inj (I:Inv X pins σ H s) (h:SqL X.K H a xs) (h':SqL X.K H a ys):xs=ys:=by
 obtain ⟨its,r,⟨o,n,e,_,_,d⟩,_⟩:=I.list h
 obtain ⟨its',r',⟨o',n',e',_,_,d'⟩,_⟩:=I.list h'
 rw [e] at e';cases e'
 rw [d] at d'
 injection d' with d1 _
 have:its=its':=by simpa using congrArg Array.toList d1
 subst this
 exact r.inj r'
theorem Inv.tuple_inj (I:Inv X pins σ H s) (h:SqT X.K H a xs) (h':SqT X.K H a ys):xs=ys:=by
 obtain ⟨its,r,⟨o,e,_,n,d⟩,_⟩:=I.tuple h
 obtain ⟨its',r',⟨o',e',_,n',d'⟩,_⟩:=I.tuple h'
 rw [e] at e';cases e'
 rw [d] at d'
 injection d' with d1 _
 have:its=its':=by simpa using congrArg Array.toList d1
 subst this
 exact r.inj r'
end
noncomputable abbrev Cx.wish (X:Cx) (E:Value→Shared→Prop):Cx:={ X with xe:=E }
noncomputable abbrev Cx.nox (X:Cx):Cx:=X.wish fun _ _=>False
theorem Cx.Ok.wish {X:Cx} (ok:X.Ok) (E:Value→Shared→Prop):(X.wish E).Ok :=
 ⟨ok.mod,ok.kind,ok.glob,ok.blt,ok.above,ok.inj,ok.has,ok.cab,ok.hd,ok.frames,ok.stk,ok.exf,ok.bs,ok.bsz,ok.noex,ok.exfs,ok.funs,ok.frf⟩
theorem Cx.Ok.unwish {X:Cx} {E:Value→Shared→Prop} (ok:(X.wish E).Ok):X.Ok :=
 ⟨ok.mod,ok.kind,ok.glob,ok.blt,ok.above,ok.inj,ok.has,ok.cab,ok.hd,ok.frames,ok.stk,ok.exf,ok.bs,ok.bsz,ok.noex,ok.exfs,ok.funs,ok.frf⟩
section
variable {X:Cx} {pins:List (Addr × Obj)} {σ:St} {H:Hp} {s:Shared} {E:Value→Shared→Prop}
theorem Inv.wish (I:Inv X pins σ H s) (E:Value→Shared→Prop):Inv (X.wish E) pins σ H s:=⟨I.ok.wish E,I.os,I.bare,I.base,I.loc,I.cell,I.free,I.freeC,I.pin,I.hok,I.len⟩
theorem Inv.unwish (I:Inv (X.wish E) pins σ H s):Inv X pins σ H s:=⟨I.ok.unwish,I.os,I.bare,I.base,I.loc,I.cell,I.free,I.freeC,I.pin,I.hok,I.len⟩
theorem SP.unwish {D:Ends} {f:Flow} {s':Shared} (h:SP (X.wish E) pins D f s'):SP X pins D f s':=by
 cases f with
 | next=>obtain ⟨σ',H',I,q⟩:=h;exact ⟨σ',H',I.unwish,q⟩
 | brk=>obtain ⟨σ',H',I,q⟩:=h;exact ⟨σ',H',I.unwish,q⟩
 | cont=>obtain ⟨σ',H',I,q⟩:=h;exact ⟨σ',H',I.unwish,q⟩
 | ret u=>obtain ⟨v,σ',H',I,r,q⟩:=h;exact ⟨v,σ',H',I.unwish,r,q⟩
theorem PE.nox {e:Expr} {t:TE} (h:PE X.nox e t):PE X e t:=fun pins s σ H Q I hw =>
 wpAny_mono (h pins s σ H Q (I.wish _) hw) (fun _ _ ⟨v,H',I',r,q⟩=>⟨v,H',I'.unwish,r,q⟩) fun _ _ z=>False.elim z
theorem PT.nox {e:Expr} {t:TT} (h:PT X.nox e t):PT X e t:=fun pins s σ H Q I hw =>
 wpAny_mono (h pins s σ H Q (I.wish _) hw) (fun _ _ ⟨H',I',q⟩=>⟨H',I'.unwish,q⟩) fun _ _ z=>False.elim z
theorem PSs.nox {st:List Stmt} {t:TS} (h:PSs X.nox st t):PSs X st t:=fun pins s σ H D I hw =>
 wpAny_mono (h pins s σ H D (I.wish _) hw) (fun _ _ q=>q.unwish) fun _ _ z=>False.elim z
end
section
variable {X:Cx} {st:Stmt} {rest:List Stmt} {t u:TS} {e:Expr} {te:TE} {pos:Pos}
noncomputable def tNext:TS:=fun D σ H=>D.nx σ H
noncomputable def tSeq (t u:TS):TS:=fun D σ H=>t { D with nx:=u D } σ H
theorem pss_nil:PSs X [] tNext:=fun _ _ σ H _ I h=>wpAny_execs_nil ⟨σ,H,I,h⟩
theorem pss_cons (h1:PS X st t) (h2:PSs X rest u):PSs X (st::rest) (tSeq t u):=by
 intro pins s σ H D I h
 refine wpAny_execs_cons (thn (h1 pins s σ H { D with nx:=u D } I h) fun f s1 q=>?_)
 cases f with
 | next =>
  obtain ⟨σ',H',I',q⟩:=q
  exact h2 pins s1 σ' H' D I' q
 | ret v=>exact q
 | brk=>exact q
 | cont=>exact q
theorem pss_one (h1:PS X st t):PSs X [st] t:=by
 intro pins s σ H D I h
 refine wpAny_execs_cons (thn (h1 pins s σ H D I h) fun f s1 q=>?_)
 cases f with
 | next=>exact wpAny_execs_nil q
 | ret v=>exact q
 | brk=>exact q
 | cont=>exact q
noncomputable def qMX:TS:=fun D σ H=>D.bk σ H
noncomputable def tCont:TS:=fun D σ H=>D.ct σ H
theorem ps_pass:PS X (.Pass pos) tNext:=fun _ _ σ H _ I h=>wpAny_Pass ⟨σ,H,I,h⟩
theorem ps_break:PS X (.Break pos) qMX:=fun _ _ σ H _ I h=>wpAny_Break ⟨σ,H,I,h⟩
theorem ps_continue:PS X (.Continue pos) tCont:=fun _ _ σ H _ I h=>wpAny_Continue ⟨σ,H,I,h⟩
theorem Inv.quiet {pins:List (Addr × Obj)} {σ:St} {H:Hp} {s:Shared} (I:Inv X pins σ H s):interactive X.env=false:=by simp [interactive,I.ok.kind]
noncomputable def tDrop (te:TE):TS:=fun D σ H=>te σ H fun _ H1=>D.nx σ H1
theorem ps_expr (he:PE X e te) (hs:swapsWith e none pos.line X.env=pure false:=by rfl):PS X (.Expr e pos) (tDrop te):=by
 intro pins s σ H D I h
 exact wpAny_Expr_any (thn (he pins s σ H _ I h) fun v s1 ⟨x,H1,I1,r1,q1⟩=>⟨σ,H1,I1,q1⟩) I.quiet hs
noncomputable def tRet (te:TE):TS:=fun D σ H=>te σ H D.rt
theorem ps_ret (he:PE X e te):PS X (.Return (some e) pos) (tRet te):=by
 intro pins s σ H D I h
 exact wpAny_Return_some (thn (he pins s σ H _ I h) fun v s1 ⟨x,H1,I1,r1,q1⟩=>⟨x,σ,H1,I1,r1,q1⟩)
noncomputable def tRetN:TS:=fun D _ H=>D.rt .non H
theorem ps_retN:PS X (.Return none pos) tRetN:=fun _ _ σ H _ I h=>wpAny_Return_none ⟨.non,σ,H,I,rfl,h⟩
noncomputable def tIfS (c:TT) (t u:TS):TS:=fun D σ H=>c σ H fun b H1=>if b=true then t D σ H1 else u D σ H1
theorem ps_if {c:Expr} {a b:List Stmt} {tc:TT} (hc:PT X c tc) (ha:PSs X a t) (hb:PSs X b u):PS X (.If c a b pos) (tIfS tc t u):=by
 intro pins s σ H D I h
 refine wpAny_If (thn (hc pins s σ H _ I h) fun d s1 ⟨H1,I1,q1⟩=>?_)
 cases d with
 | true=>exact ha pins s1 σ H1 D I1 q1
 | false=>exact hb pins s1 σ H1 D I1 q1
end
noncomputable abbrev TG:=V→St→Hp→(St→Hp→Prop)→Prop
noncomputable abbrev TGs:=List V→St→Hp→(St→Hp→Prop)→Prop
noncomputable def PG (X:Cx) (target:Expr) (t:TG):Prop :=
 ∀ (pins:List (Addr × Obj)) (s:Shared) (σ:St) (H:Hp) (v:V) (u:Value) (Q:St→Hp→Prop),Inv X pins σ H s→RelV v u→t v σ H Q →
  wpAny (model X.prog X.w) X.A (assign target X.env u) (fun _ s'=>∃ σ' H',Inv X pins σ' H' s'∧Q σ' H') X.xe s
noncomputable def PGs (X:Cx) (ts:List Expr) (t:TGs):Prop :=
 ∀ (pins:List (Addr × Obj)) (s:Shared) (σ:St) (H:Hp) (vs:List V) (us:List Value) (Q:St→Hp→Prop),Inv X pins σ H s→Vals vs us→t vs σ H Q →
  wpAny (model X.prog X.w) X.A (assignInOrder ((assignEach ts X.env).map (·.2)) us) (fun _ s'=>∃ σ' H',Inv X pins σ' H' s'∧Q σ' H') X.xe s
noncomputable abbrev TSet:=V→V→V→Hp→(Hp→Prop)→Prop
noncomputable def PSet (X:Cx) (t:TSet):Prop :=
 ∀ (pins:List (Addr × Obj)) (s:Shared) (σ:St) (H:Hp) (o i v:V) (ov iv u:Value) (Q:Hp→Prop),Inv X pins σ H s→RelV o ov→RelV i iv→RelV v u→t o i v H Q →
  wpAny (model X.prog X.w) X.A (setItem ov iv u) (fun _ s'=>∃ H',Inv X pins σ H' s'∧Q H') X.xe s
section
variable {X:Cx} {pos:Pos}
noncomputable def gName (i:Nat):TG:=fun v σ H Q=>Q (σ.set i (some v)) H
theorem pg_name {i:Nat} {x:Str} (hN:X.N.Nodup) (hi:X.N[i]?=some x) (hx:Loc X.env.scope x) (hf:X.fn x=true∨X.env.scope.names.lookup x=some .local:=by first | exact .inl rfl | exact .inr rfl | assumption):PG X (.Name x pos) (gName i):=by
 intro pins s σ H v u Q I r h
 exact wpAny_assign_Name (store_ok I hN hi hx r (fun s' I'=>⟨_,H,I',h⟩) hf)
noncomputable def gNil:TGs:=fun vs σ H Q=>vs=[]∧Q σ H
noncomputable def gCons (t:TG) (u:TGs):TGs:=fun vs σ H Q=>∃ v r,vs=v::r∧t v σ H fun σ' H'=>u r σ' H' Q
theorem pgs_nil:PGs X [] gNil:=by
 intro pins s σ H vs us Q I r h
 obtain ⟨e,h⟩:=h
 subst e
 cases r
 exact assignInOrder_nil ⟨σ,H,I,h⟩
theorem pgs_cons {e:Expr} {es:List Expr} {t:TG} {u:TGs} (h1:PG X e t) (h2:PGs X es u)
    (hs:(assignEach (e::es) X.env).map (·.2)=assign e X.env::(assignEach es X.env).map (·.2):=by rfl):PGs X (e::es) (gCons t u):=by
  intro pins s σ H vs us Q I r h
  obtain ⟨v,vr,e1,h⟩:=h
  subst e1
  cases r with
  | cons r rr =>
    rw [hs]
    refine assignInOrder_cons (thn (h1 pins s σ H _ _ _ I r h) fun _ s1 ⟨σ1,H1,I1,q1⟩=>?_)
    exact h2 pins s1 σ1 H1 _ _ Q I1 rr q1
noncomputable def gTup (K:PySem.W.Frag) (n:Nat) (t:TGs):TG:=fun v σ H Q=>∃ a xs,v=.ref a∧SqT K H a xs∧xs.length=n∧t xs σ H Q
theorem pg_tup {es:List Expr} {k:Nat} {t:TGs} {n:Nat} (hc:X.calm=true) (h:PGs X es t)
    (hn:(assignEach es X.env).length=n:=by rfl) (hst:(assignEach es X.env).findIdx? (·.1)=none:=by rfl):PG X (.Tuple es k pos) (gTup X.K n t):=by
  intro pins s σ H v u Q I r hw
  obtain ⟨a,xs,e1,hq,hl,hw⟩:=hw
  subst e1
  cases r
  obtain ⟨its,rv,ht,hz⟩:=I.tuple hq
  refine assign_Tuple_tuple (I.ok.hd hc) ht (by simp [hn,← hl,rv.length]) hst fun h' hx=>?_
  have I1:Inv X pins σ H { s with heap:=h' }:=I.kept (t':=s.toks) fun b o e=>hx b o (Nat.ne_of_lt (Heap.lt_size e)) e
  exact h pins _ σ H xs _ Q I1 (by simpa using rv) hw
noncomputable def gSub (to ti:TE) (t:TSet):TG:=fun v σ H Q=>to σ H fun o H1=>ti σ H1 fun i H2=>t o i v H2 fun H3=>Q σ H3
theorem pg_sub {o i:Expr} {to ti:TE} {t:TSet} (ho:PE X o to) (hi:PE X i ti) (hs:PSet X t)
    (ha:∀ v,assign (.Subscript o i pos) X.env v=(do
      let ov ← holding [v] (eval o X.env)
      let iv ← holding [v,ov] (eval i X.env)
      standAt pos
      holding [v,ov,iv] (setItem ov iv v)
      release [v,ov,iv] []):=by intro _;rfl):PG X (.Subscript o i pos) (gSub to ti t):=by
  intro pins s σ H v u Q I r h
  rw [ha]
  refine wpAny_bind (wpAny_holding (thn (ho pins s σ H _ I h) fun ov s1 ⟨x,H1,I1,r1,q1⟩=>?_))
  refine wpAny_bind (wpAny_holding (thn (hi pins s1 σ H1 _ I1 q1) fun iv s2 ⟨y,H2,I2,r2,q2⟩=>?_))
  refine wpAny_bind (wpAny_standAt (wpAny_bind (wpAny_holding (thn (hs pins s2 σ H2 x y v ov iv u _ I2 r1 r2 r q2) fun _ s3 ⟨H3,I3,q3⟩=>?_))))
  exact wpAny_release ⟨σ,H3,I3,q3⟩
noncomputable def tAsg (te:TE) (g:TG):TS:=fun D σ H=>te σ H fun x H1=>g x σ H1 D.nx
theorem ps_asg {tg e:Expr} {te:TE} {g:TG} (he:PE X e te) (hg:PG X tg g) (hs:swapsWithSole [tg] e pos.line X.env=pure false:=by rfl) (hw:swappedStores [tg] e X.env=pure none:=by rfl)
    (h1:(assignEach [tg] X.env).map (·.2)=[assign tg X.env]:=by rfl):PS X (.Assign [tg] e pos) (tAsg te g):=by
  intro pins s σ H D I h
  refine wpAny_Assign_stores (thn (he pins s σ H _ I h) fun v s1 ⟨x,H1,I1,r1,q1⟩=>?_) hs hw
  rw [h1]
  exact thn (hg pins s1 σ H1 x v _ I1 r1 q1) fun _ s2 q=>q
theorem ps_set {i:Nat} {x:Str} {e:Expr} {te:TE} {pos':Pos} (hN:X.N.Nodup) (hi:X.N[i]?=some x) (hx:Loc X.env.scope x) (he:PE X e te) (hs:swapsWith e (some (.Name x pos')) pos.line X.env=pure false:=by rfl) (hf:X.fn x=true∨X.env.scope.names.lookup x=some .local:=by first | exact .inl rfl | exact .inr rfl | assumption) :
    PS X (.Assign [.Name x pos'] e pos) (tAsg te (gName i)):=by
  intro pins s σ H D I h
  refine wpAny_Assign_Name (thn (he pins s σ H _ I h) fun v s1 ⟨y,H1,I1,r1,q1⟩=>?_) hs
  exact store_ok I1 hN hi hx r1 (fun s2 I2=>⟨_,H1,I2,q1⟩) hf
end
section
variable {X:Cx} {pos:Pos}
noncomputable def qMV (c:TT) (tb:TS):TS:=fun D σ H=>∃ W:Nat→St→Hp→Prop,(∃ m,W m σ H)∧∀ m σ H,W m σ H →
 c σ H fun b H1=>if b=true then ∃ N:St→Hp→Prop,(∀ σ' H',N σ' H'→∃ m',m'<m∧W m' σ' H')∧tb { D with nx:=N,ct:=N,bk:=D.nx } σ H1 else D.nx σ H1
theorem ps_while {c:Expr} {body:List Stmt} {tc:TT} {tb:TS} (hp:PassesOwn (model X.prog X.w) X.A X.env X.xe) (hc:PT X c tc) (hb:PSs X body tb):PS X (.While c body [] pos) (qMV tc tb):=by
 intro pins s σ H D I h
 obtain ⟨W,⟨m0,w0⟩,turn⟩:=h
 refine wpAny_While (codeAny_whileLoop (fun n s'=>∃ σ' H',Inv X pins σ' H' s'∧W n σ' H') ?_ m0 ⟨σ,H,I,w0⟩)
 rintro n s1 ⟨σ1,H1,I1,w1⟩
 refine wpAny_passesOwn hp (thn (hc pins s1 σ1 H1 _ I1 (turn n σ1 H1 w1)) fun b s2 ⟨H2,I2,q2⟩=>?_)
 cases b with
 | true =>
  obtain ⟨N,hN,q2⟩:=q2
  rw [if_pos rfl]
  refine wpAny_passesOwn hp (thn (hb pins s2 σ1 H2 _ I2 q2) fun f s3 q3=>?_)
  cases f with
  | next =>
   obtain ⟨σ3,H3,I3,n3⟩:=q3
   obtain ⟨m',hm,w3⟩:=hN σ3 H3 n3
   exact ⟨m',hm,σ3,H3,I3,w3⟩
  | cont =>
   obtain ⟨σ3,H3,I3,n3⟩:=q3
   obtain ⟨m',hm,w3⟩:=hN σ3 H3 n3
   exact ⟨m',hm,σ3,H3,I3,w3⟩
  | brk=>exact q3
  | ret v=>exact q3
 | false =>
  rw [if_neg Bool.false_ne_true]
  exact wpAny_execs_nil ⟨σ1,H2,I2,q2⟩
end
structure It where
 go:Nat→Hp→Prop
 yld:Nat→Hp→V→Hp→Prop
 stop:Nat→Hp→Prop
noncomputable def FpOk (X:Cx) (pins:List (Addr × Obj)) (H:Hp) (b:Addr):Prop :=
 H b=none∧b≠X.env.locals∧b∉X.fs∧(b∈X.ex∨X.s₀.heap.objs.size≤b)∧(∀ x c,X.env.cells.lookup x=some c→c≠b)∧∀ p∈X.pn++pins,p.1≠b
theorem Inv.fpOk {X:Cx} {pins:List (Addr × Obj)} {σ:St} {H H':Hp} {s:Shared} {b:Addr} (I:Inv X pins σ H s) (hb:s.heap.objs.size≤b) (hn:H' b=none):FpOk X pins H' b:=by
 refine ⟨hn,Nat.ne_of_gt (Nat.lt_of_lt_of_le I.lt hb),I.nofs hb,.inr (Nat.le_trans I.sz hb),fun x c e z=>?_,fun p hp z=>?_⟩
 ·obtain ⟨v,q⟩:=I.cell x c e
  exact absurd (Nat.lt_of_lt_of_le q.lt (by rw [z];exact hb)) (Nat.lt_irrefl _)
 ·exact absurd (Nat.lt_of_lt_of_le (Heap.lt_size (I.pin p hp).1) (by rw [z];exact hb)) (Nat.lt_irrefl _)
structure Turn (P:Program) (w:World) (K:PySem.W.Frag) (tg:Expr) (J:It) (fp:List Addr) (it:Addr) (tn:Nat→Heap→Prop):Prop where
 mem:it∈fp
 obj:∀ i h,tn i h→∀ b∈fp,∃ o,h.get? b=some o∧∀ v,o.data≠.cell v
 keep:∀ i h h',tn i h→(∀ b∈fp,∀ o,h.get? b=some o→h'.get? b=some o)→tn i h'
 item:∀ (X:Cx),X.prog=P→X.w=w→X.K=K→X.calm=true→∀ (i:Nat) (pins:List (Addr × Obj)) (s:Shared) (σ:St) (H:Hp) (E:Value→Shared→Prop),Inv X pins σ H s→(∀ b∈fp,FpOk X pins H b)→tn i s.heap→J.go i H →
  wpAny (model P w) X.A (pyNext (.ref it)) (fun r s1=>∃ u,r=some u ∧
   wpAny (model P w) X.A (letOwnedTupleGo tg (.ref it) u) (fun _ s2=>∃ x H',Inv X pins σ H' s2∧RelV x u∧J.yld i H x H'∧tn (i+1) s2.heap∧∀ b∈fp,H' b=none) E s1) E s
 done:∀ (X:Cx),X.prog=P→X.w=w→X.K=K→X.calm=true→∀ (i:Nat) (pins:List (Addr × Obj)) (s:Shared) (σ:St) (H:Hp) (E:Value→Shared→Prop),Inv X pins σ H s→(∀ b∈fp,FpOk X pins H b)→tn i s.heap→J.stop i H →
  wpAny (model P w) X.A (pyNext (.ref it)) (fun r s1=>r=none∧Inv X pins σ H s1) E s
 self:∀ (A:Around) (i:Nat) (s:Shared) (Q:Value→Shared→Prop) (E:Value→Shared→Prop),tn i s.heap→Q (.ref it) s→wpAny (model P w) A (pyIter (.ref it)) Q E s
noncomputable abbrev TI:=St→Hp→(It→Hp→Prop)→Prop
noncomputable def PIE (X:Cx) (pins:List (Addr × Obj)) (σ:St) (tg:Expr) (R:It→Hp→Prop) (itv:Value) (s2:Shared):Prop :=
 ∃ (it:Addr) (fp:List Addr) (tn:Nat→Heap→Prop) (J:It) (H':Hp),itv=.ref it∧Inv X pins σ H' s2∧Turn X.prog X.w X.K tg J fp it tn∧tn 0 s2.heap∧(∀ b∈fp,FpOk X pins H' b)∧R J H'
noncomputable def PI (X:Cx) (tg iter:Expr) (wi:TI):Prop :=
 ∀ (pins:List (Addr × Obj)) (s:Shared) (σ:St) (H:Hp) (R:It→Hp→Prop),Inv X pins σ H s→wi σ H R →
  wpAny (model X.prog X.w) X.A (eval iter X.env) (fun v s1=>wpAny (model X.prog X.w) X.A (pyIter v) (PIE X pins σ tg R) X.xe s1) X.xe s
theorem go_of {M:Model} {A:Around} {E:Value→Shared→Prop} {s:Shared} {tg:Expr} {it:Addr} {u:Value} {o:Obj} {n:String} {vs:Array Value} {Q:Unit→Shared→Prop} (ho:s.heap.get? it=some o) (hc:o.cls=.type n) (hd:o.data=.fields vs)
    (hn:["enumerate","zip","dict_itemiterator","dict_reverseitemiterator","odict_iterator","itertools.zip_longest","itertools.pairwise"].contains n=false) (hQ:Q () s):wpAny M A (letOwnedTupleGo tg (.ref it) u) Q E s:=by
  unfold letOwnedTupleGo
  cases tg <;> first
    | exact wpAny_pure hQ
    | (cases u <;> first
        | exact wpAny_pure hQ
        | (refine wpAny_bind (wpAny_load ho ?_)
           rw [hc,hd]
           show wpAny M A (if (["enumerate","zip","dict_itemiterator","dict_reverseitemiterator","odict_iterator","itertools.zip_longest","itertools.pairwise"].contains n&&vs[0]? == some (rawInt _))=true then _ else _) Q E s
           rw [if_neg (by intro h;rw [hn,Bool.false_and] at h;cases h)]
           exact wpAny_pure hQ))
noncomputable def Itl (K:PySem.W.Frag) (a:Addr):It :=
 ⟨fun i H=>∃ xs x,SqL K H a xs∧xs[i]?=some x,fun i H x H'=>H'=H∧∀ xs,SqL K H a xs→xs[i]?=some x,fun i H=>∃ xs,SqL K H a xs∧xs.length≤i⟩
noncomputable def Itt (K:PySem.W.Frag) (a:Addr):It :=
 ⟨fun i H=>∃ xs x,SqT K H a xs∧xs[i]?=some x,fun i H x H'=>H'=H∧∀ xs,SqT K H a xs→xs[i]?=some x,fun i H=>∃ xs,SqT K H a xs∧xs.length≤i⟩
noncomputable def Itr (lo:Int) (n:Nat):It:=⟨fun i _=>i<n,fun i H x H'=>H'=H∧x=.int (lo+i),fun i _=>n≤i⟩
theorem turn_list {P:Program} {w:World} {K:PySem.W.Frag} {tg:Expr} (a it:Addr):Turn P w K tg (Itl K a) [it] it (fun i h=>h.IsListIter it a i) where
 mem:=by simp
 obj:=fun i h st b hb=>by
  have e:b=it:=by simpa using hb
  subst e
  obtain ⟨o,e,c,d⟩:=st
  exact ⟨o,e,fun v z=>by rw [d] at z;cases z⟩
 keep:=fun i h h' st k=>st.at fun o e=>k it (by simp) o e
 item:=by
  intro X hP hw hK hc i pins s σ H E I hf st hg
  subst hP hw hK
  obtain ⟨xs,x,hq,hx⟩:=hg
  obtain ⟨its,rv,p,hz⟩:=I.list hq
  obtain ⟨u,hu,ru⟩:=rv.get hx
  obtain ⟨f0,f1,f2,f3,f4,f5⟩:=hf it (by simp)
  refine wpAny_pyNext_list_item st p.isList (x:=u) (by simpa using hu) fun h' st' sb=>?_
  have I1:Inv X pins σ H { s with heap:=h' }:=I.turned (t':=s.toks) (fun b o hb e=>(sb.2 b hb).trans e) f0 f1 f3 f4 f5
  obtain ⟨o,e,c,d⟩:=id st'
  exact ⟨u,rfl,go_of (s:={ s with heap:=h' }) e c d (by decide) ⟨x,H,I1,ru,⟨rfl,fun ys hy=>by rw [I.list_inj hy hq];exact hx⟩,st',fun b hb=>(hf b hb).1⟩⟩
 done:=by
  intro X hP hw hK hc i pins s σ H E I hf st hg
  subst hP hw hK
  obtain ⟨xs,hq,hx⟩:=hg
  obtain ⟨its,rv,p,hz⟩:=I.list hq
  obtain ⟨f0,f1,f2,f3,f4,f5⟩:=hf it (by simp)
  have hl:=rv.length
  exact wpAny_pyNext_list_end (I.ok.hd hc) st p.isList (by simp;omega) fun h' eb=>⟨rfl,I.turned (t':=s.toks) (fun b o hb e=>eb b o hb e) f0 f1 f3 f4 f5⟩
 self:=fun _ _ _ _ _ st h=>wpAny_pyIter_listiter st h
theorem turn_tuple {P:Program} {w:World} {K:PySem.W.Frag} {tg:Expr} (a it:Addr):Turn P w K tg (Itt K a) [it] it (fun i h=>h.IsTupleIter it a i) where
 mem:=by simp
 obj:=fun i h st b hb=>by
  have e:b=it:=by simpa using hb
  subst e
  obtain ⟨o,e,c,d⟩:=st
  exact ⟨o,e,fun v z=>by rw [d] at z;cases z⟩
 keep:=fun i h h' st k=>st.at fun o e=>k it (by simp) o e
 item:=by
  intro X hP hw hK hc i pins s σ H E I hf st hg
  subst hP hw hK
  obtain ⟨xs,x,hq,hx⟩:=hg
  obtain ⟨its,rv,p,hz⟩:=I.tuple hq
  obtain ⟨u,hu,ru⟩:=rv.get hx
  obtain ⟨f0,f1,f2,f3,f4,f5⟩:=hf it (by simp)
  refine wpAny_pyNext_tuple_item st (show s.heap.IsTuple a its.toArray from p) (x:=u) (by simpa using hu) fun h' st' sb=>?_
  have I1:Inv X pins σ H { s with heap:=h' }:=I.turned (t':=s.toks) (fun b o hb e=>(sb.2 b hb).trans e) f0 f1 f3 f4 f5
  obtain ⟨o,e,c,d⟩:=id st'
  exact ⟨u,rfl,go_of (s:={ s with heap:=h' }) e c d (by decide) ⟨x,H,I1,ru,⟨rfl,fun ys hy=>by rw [I.tuple_inj hy hq];exact hx⟩,st',fun b hb=>(hf b hb).1⟩⟩
 done:=by
  intro X hP hw hK hc i pins s σ H E I hf st hg
  subst hP hw hK
  obtain ⟨xs,hq,hx⟩:=hg
  obtain ⟨its,rv,p,hz⟩:=I.tuple hq
  obtain ⟨f0,f1,f2,f3,f4,f5⟩:=hf it (by simp)
  have hl:=rv.length
  exact wpAny_pyNext_tuple_end (I.ok.hd hc) st (show s.heap.IsTuple a its.toArray from p) (by simp;omega) fun h' eb=>⟨rfl,I.turned (t':=s.toks) (fun b o hb e=>eb b o hb e) f0 f1 f3 f4 f5⟩
 self:=fun _ _ _ _ _ st h=>wpAny_pyIter_tupleiter st h
theorem qF4 {P:Program} {w:World} {K:PySem.W.Frag} {tg:Expr} (it:Addr) (lo:Int) (n:Nat):Turn P w K tg (Itr lo n) [it] it (fun i h=>IsRangeIter h it (lo+(i:Nat)*1) ((n:Int)-(i:Nat)) 1) where
 mem:=by simp
 obj:=fun i h st b hb=>by
  have e:b=it:=by simpa using hb
  subst e
  exact ⟨_,st,fun v z=>by
   have z':Data.fields _=Data.cell v:=z
   cases z'⟩
 keep:=fun i h h' st k=>k it (by simp) _ st
 item:=by
  intro X hP hw hK hc i pins s σ H E I hf st hg
  subst hP hw hK
  obtain ⟨f0,f1,f2,f3,f4,f5⟩:=hf it (by simp)
  have W:=Walks.range (prog:=X.prog) (w:=X.w) (I.ok.hd hc) it lo 1 n
  refine W.item i s _ _ hg st fun v h' tk hv st' kk=>?_
  obtain ⟨t,rfl⟩:=hv
  have I1:Inv X pins σ H { s with heap:=h',toks:=tk }:=I.turned (fun b o hb e=>kk b o (by simpa using hb) e) f0 f1 f3 f4 f5
  refine ⟨_,rfl,go_of (s:={ s with heap:=h',toks:=tk }) (n:="range_iterator") st' rfl rfl (by decide) ⟨.int (lo+i),H,I1,⟨t,?_⟩,⟨rfl,rfl⟩,st',fun b hb=>(hf b hb).1⟩⟩
  rw [Int.mul_one]
 done:=by
  intro X hP hw hK hc i pins s σ H E I hf st hg
  subst hP hw hK
  obtain ⟨f0,f1,f2,f3,f4,f5⟩:=hf it (by simp)
  exact wpAny_pyNext_range_end (I.ok.hd hc) st (by have:n≤i:=hg;omega) fun h' eb=>⟨rfl,I.turned (t':=s.toks) (fun b o hb e=>eb b o hb e) f0 f1 f3 f4 f5⟩
 self:=fun _ _ _ _ _ st h=>wpAny_pyIter_rangeiter st h
end L2
namespace L2
open PySem PySem.Spec PyProof.Rows
section
variable {X:Cx} {tg:Expr}
theorem qFj {pins:List (Addr × Obj)} {σ:St} {H:Hp} {s:Shared} {R:It→Hp→Prop} {E:Value→Shared→Prop} {lo hi:Int} {t u v:Tok} {tk:Nat} (I:Inv X pins σ H s) (h1:-(2 ^ 62)≤lo) (h2:lo<2 ^ 62) (h3:-(2 ^ 62)≤hi) (h4:hi<2 ^ 62)
    (q:R (Itr lo (hi-lo).toNat) H):wpAny (model X.prog X.w) X.A (pyIter (.ref s.heap.objs.size)) (PIE X pins σ tg R) E { s with heap:=s.heap.push { cls:=.type "range",data:=.fields #[.int lo t,.int hi u,.int 1 v] },toks:=tk }:=by
  refine wpAny_pyIter_range (IsRange.new ..) (small_one h1 h2 h3 h4) ?_
  have I1:Inv X pins σ H { s with heap:=s.heap.push { cls:=.type "range",data:=.fields #[.int lo t,.int hi u,.int 1 v] },toks:=tk }:=I.kept fun b o e=>Heap.get?_push_of_some _ e
  refine ⟨(s.heap.push { cls:=.type "range",data:=.fields #[.int lo t,.int hi u,.int 1 v] }).objs.size,[(s.heap.push { cls:=.type "range",data:=.fields #[.int lo t,.int hi u,.int 1 v] }).objs.size],_,_,H,rfl,
    I1.kept (t':=tk) fun b o e=>Heap.get?_push_of_some _ e,qF4 _ lo (hi-lo).toNat,?_,fun b hb=>?_,q⟩
  · have e1:lo+((0:Nat):Int)*1=lo:=by simp
    have e2:(((hi-lo).toNat:Nat):Int)-((0:Nat):Int)=Builtin.Range.rangeSize lo hi 1:=by rw [rangeSize_one];split <;> omega
    show IsRangeIter _ _ (lo+((0:Nat):Int)*1) ((((hi-lo).toNat:Nat):Int)-((0:Nat):Int)) 1
    rw [e1,e2]
    exact Heap.get?_push_size _ rfl
  · have e:b=(s.heap.push { cls:=.type "range",data:=.fields #[.int lo t,.int hi u,.int 1 v] }).objs.size:=by simpa using hb
    subst e
    exact I1.fpOk (Nat.le_refl _) (I1.hok.fresh (Nat.le_refl _))
noncomputable def iRng1 (ta:TA):TI:=fun σ H R=>ta σ H fun vs H1=>∃ j:Int,vs=[.int j]∧-(2 ^ 62)≤j∧j<2 ^ 62∧R (Itr 0 j.toNat) H1
noncomputable def iRng2 (ta:TA):TI:=fun σ H R=>ta σ H fun vs H1=>∃ i j:Int,vs=[.int i,.int j]∧(-(2 ^ 62)≤i∧i<2 ^ 62∧-(2 ^ 62)≤j∧j<2 ^ 62)∧R (Itr i (j-i).toNat) H1
theorem pi_range1 {a:Expr} {ta:TA} {p pos:Pos} (hg:Gl X "range") (hm:X.mg "range"=none) (ha:PA X [a] ta) (hs:starEach [a] X.env=[(false,eval a X.env)]:=by rfl):PI X tg (.Call (.Name "range" p) [a] [] pos) (iRng1 ta):=by
 intro pins s σ H R I h
 refine Call_ (ld_blt I hg hm boot_range (PyProof.Rows.callWith_type1 (thn (ha pos pins s σ H _ I h) fun us s1 ⟨vs,H1,I1,r1,q1⟩=>?_) hs rfl))
 obtain ⟨j,e,q1,q2,q⟩:=q1
 subst e
 cases r1 with
 | cons r rr =>
  cases rr
  obtain ⟨t,rfl⟩:=r
  exact call_range_1 (qFj I1 (by omega) (by omega) q1 q2 (by simpa using q))
theorem pi_range2 {a b:Expr} {ta:TA} {p pos:Pos} (hg:Gl X "range") (hm:X.mg "range"=none) (ha:PA X [a,b] ta) (hs:starEach [a,b] X.env=[(false,eval a X.env),(false,eval b X.env)]:=by rfl) (hs2:starEach [b] X.env=[(false,eval b X.env)]:=by rfl) :
    PI X tg (.Call (.Name "range" p) [a,b] [] pos) (iRng2 ta):=by
  intro pins s σ H R I h
  refine Call_ (ld_blt I hg hm boot_range (PyProof.Rows.callWith_type1 (thn (ha pos pins s σ H _ I h) fun us s1 ⟨vs,H1,I1,r1,q1⟩=>?_) (by rw [hs,hs2]) (by rw [hs2];rfl)))
  obtain ⟨i,j,e,⟨q1,q2,q3,q4⟩,q⟩:=q1
  subst e
  cases r1 with
  | cons r rr =>
    cases rr with
    | cons r' rr =>
      cases rr
      obtain ⟨t,rfl⟩:=r
      obtain ⟨t',rfl⟩:=r'
      exact call_range_2 (qFj I1 q1 q2 q3 q4 q)
noncomputable def tFor (wi:TI) (g:TG) (tb:TS):TS:=fun D σ H=>wi σ H fun J H1=>∃ W:Nat→Nat→St→Hp→Prop,(∃ m,W 0 m σ H1)∧∀ i m σ H,W i m σ H →
 (J.stop i H∧D.nx σ H)∨(J.go i H∧∃ N:St→Hp→Prop,(∀ σ' H',N σ' H'→∃ m',m'<m∧W (i+1) m' σ' H')∧∀ x H',J.yld i H x H'→g x σ H' fun σ2 H2=>tb { D with nx:=N,ct:=N,bk:=D.nx } σ2 H2)
noncomputable def pinsAt (fp:List Addr) (h:Heap):List (Addr × Obj):=fp.filterMap fun b=>(h.get? b).map fun o=>(b,o)
theorem mem_pinsAt {fp:List Addr} {h:Heap} {b:Addr} {o:Obj} (hb:b∈fp) (e:h.get? b=some o):(b,o)∈pinsAt fp h:=List.mem_filterMap.mpr ⟨b,hb,by rw [e];rfl⟩
theorem qG8 {fp:List Addr} {h:Heap} {p:Addr × Obj} (hp:p∈pinsAt fp h):p.1∈fp∧h.get? p.1=some p.2:=by
 obtain ⟨b,hb,e⟩:=List.mem_filterMap.mp hp
 cases q:h.get? b with
 | none=>rw [q] at e;cases e
 | some o =>
  rw [q] at e
  have e':(b,o)=p:=Option.some.inj e
  subst e'
  exact ⟨hb,q⟩
theorem Inv.pinned {pins:List (Addr × Obj)} {σ:St} {H:Hp} {s:Shared} {fp:List Addr} (I:Inv X pins σ H s) (hf:∀ b∈fp,FpOk X pins H b) (ho:∀ b∈fp,∃ o,s.heap.get? b=some o∧∀ v,o.data≠.cell v):Inv X (pins++pinsAt fp s.heap) σ H s :=
 I.pins_of fun p hp=>(List.mem_append.mp hp).elim (fun z=>I.pin p (List.mem_append_right _ z)) fun z=>by
  obtain ⟨hb,e⟩:=qG8 z
  obtain ⟨f0,f1,f2,_⟩:=hf p.1 hb
  obtain ⟨o,e',d⟩:=ho p.1 hb
  rw [e] at e';cases e'
  exact ⟨e,f0,f1,f2,d⟩
theorem Inv.unpinned {pins pl:List (Addr × Obj)} {σ:St} {H:Hp} {s:Shared} (I:Inv X (pins++pl) σ H s):Inv X pins σ H s:=I.pins_of fun p hp=>I.pin p (List.mem_append_right _ (List.mem_append_left _ hp))
theorem ps_for {iter:Expr} {body:List Stmt} {wi:TI} {g:TG} {tb:TS} {pos:Pos} (hp:PassesOwn (model X.prog X.w) X.A X.env X.xe) (hc:X.calm=true) (hi:PI X tg iter wi) (hg:PG X tg g) (hb:PSs X body tb)
    (hs:∀ x,foldedSetIterable iter X.env x=pure x:=by intro _;rfl):PS X (.For tg iter body [] pos) (tFor wi g tb):=by
  intro pins s σ H D I h
  refine wpAny_For (thn (hi pins s σ H _ I h) fun v s1 h1=>thn h1 fun itv s2 h2=>?_) hs
  obtain ⟨it,fp,tn,J,H2,e,I2,T,st2,f2,W,⟨m0,w0⟩,turn⟩:=h2
  subst e
  have stat:∀ {H':Hp},(∀ b∈fp,H' b=none)→∀ b∈fp,FpOk X pins H' b:=fun hn b hb=>⟨hn b hb,(f2 b hb).2⟩
  refine codeAny_forLoop_any (fun n s'=>∃ i σ' H',Inv X pins σ' H' s'∧tn i s'.heap∧(∀ b∈fp,H' b=none)∧W i n σ' H') ?_ m0 ⟨0,σ,H2,I2,st2,fun b hb=>(f2 b hb).1,w0⟩
  rintro n s3 ⟨i,σ3,H3,I3,st3,fr3,w3⟩
  rcases turn i n σ3 H3 w3 with ⟨stop,qn⟩ | ⟨go,N,hN,step⟩
  · refine wpAny_passesOwn hp (thn (T.done X rfl rfl rfl hc i pins s3 σ3 H3 X.xe I3 (stat fr3) st3 stop) fun r s4 ⟨hr,I4⟩=>?_)
    subst hr
    exact wpAny_execs_nil ⟨σ3,H3,I4,qn⟩
  · refine wpAny_passesOwn hp (thn (T.item X rfl rfl rfl hc i pins s3 σ3 H3 X.xe I3 (stat fr3) st3 go) fun r s4 ⟨u,hr,h4⟩=>?_)
    subst hr
    refine wpAny_passesOwn hp (thn h4 fun _ s5 ⟨x,H5,I5,r5,y5,st5,fr5⟩=>?_)
    have I5':=I5.pinned (stat fr5) (T.obj _ _ st5)
    refine wpAny_passesOwn hp (thn (hg _ s5 σ3 H5 x u _ I5' r5 (step x H5 y5)) fun _ s6 ⟨σ6,H6,I6,q6⟩=>?_)
    refine wpAny_passesOwn hp (thn (hb _ s6 σ6 H6 _ I6 q6) fun f s7 q7=>?_)
    have again:∀ {σ7:St} {H7:Hp},Inv X (pins++pinsAt fp s5.heap) σ7 H7 s7→N σ7 H7→∃ m,m<n∧∃ i σ' H',Inv X pins σ' H' s7∧tn i s7.heap∧(∀ b∈fp,H' b=none)∧W i m σ' H':=fun {σ7 H7} I7 n7=>by
      obtain ⟨m',hm,w7⟩:=hN σ7 H7 n7
      refine ⟨m',hm,i+1,σ7,H7,I7.unpinned,T.keep _ _ _ st5 fun b hb o e=>(I7.pin (b,o) (List.mem_append_right _ (List.mem_append_right _ (mem_pinsAt hb e)))).1,fun b hb=>?_,w7⟩
      obtain ⟨o,e,d⟩:=T.obj _ _ st5 b hb
      exact (I7.pin (b,o) (List.mem_append_right _ (List.mem_append_right _ (mem_pinsAt hb e)))).2.1
    cases f with
    | next=>obtain ⟨σ7,H7,I7,n7⟩:=q7;exact again I7 n7
    | cont=>obtain ⟨σ7,H7,I7,n7⟩:=q7;exact again I7 n7
    | brk=>obtain ⟨σ7,H7,I7,q7⟩:=q7;exact ⟨σ7,H7,I7.unpinned,q7⟩
    | ret v=>obtain ⟨x7,σ7,H7,I7,r7,q7⟩:=q7;exact ⟨x7,σ7,H7,I7.unpinned,r7,q7⟩
end
end L2
namespace L2
open PySem PySem.Spec PyProof.Rows
noncomputable abbrev R2:=V→V→Hp→VK→Prop
noncomputable def OpR (X:Cx) (f:Value→Value→Sem Value) (r:R2):Prop :=
 ∀ (pins:List (Addr × Obj)) (s:Shared) (σ:St) (H:Hp) (x y:V) (v u:Value) (Q:VK),Inv X pins σ H s→RelV x v→RelV y u→r x y H Q →
  wpAny (model X.prog X.w) X.A (f v u) (EP X pins σ Q) X.xe s
noncomputable def UnR (X:Cx) (f:Value→Sem Value) (r:V→Hp→VK→Prop):Prop :=
 ∀ (pins:List (Addr × Obj)) (s:Shared) (σ:St) (H:Hp) (x:V) (v:Value) (Q:VK),Inv X pins σ H s→RelV x v→r x H Q →
  wpAny (model X.prog X.w) X.A (f v) (EP X pins σ Q) X.xe s
noncomputable def CallR (X:Cx) (f:Value) (r:List V→Hp→VK→Prop):Prop :=
 ∀ (pins:List (Addr × Obj)) (s:Shared) (σ:St) (H:Hp) (xs:List V) (us:List Value) (Q:VK),Inv X pins σ H s→Vals xs us→r xs H Q →
  wpAny (model X.prog X.w) X.A (call f us) (EP X pins σ Q) X.xe s
noncomputable def TruR (X:Cx) (r:V→Hp→(Bool→Hp→Prop)→Prop):Prop :=
 ∀ (pins:List (Addr × Obj)) (s:Shared) (σ:St) (H:Hp) (x:V) (v:Value) (Q:Bool→Hp→Prop),Inv X pins σ H s→RelV x v→r x H Q →
  wpAny (model X.prog X.w) X.A (truthy v) (TP X pins σ Q) X.xe s
noncomputable def tOp (r:R2) (ta tb:TE):TE:=fun σ H Q=>ta σ H fun x H1=>tb σ H1 fun y H2=>r x y H2 Q
noncomputable def tUn (r:V→Hp→VK→Prop) (ta:TE):TE:=fun σ H Q=>ta σ H fun x H1=>r x H1 Q
noncomputable def rI (C:Int→Int→Prop) (g:Int→Int→V):R2:=fun x y H Q=>∃ i j,x=.int i∧y=.int j∧C i j∧Q (g i j) H
noncomputable def rI0 (g:Int→Int→V):R2:=fun x y H Q=>∃ i j,x=.int i∧y=.int j∧Q (g i j) H
noncomputable def rU (g:Int→V):V→Hp→VK→Prop:=fun x H Q=>∃ i,x=.int i∧Q (g i) H
section
variable {X:Cx} {a b c:Expr} {ta tb tc:TE} {pos:Pos}
theorem binT (ha:PE X a ta) (hb:PE X b tb) {pins:List (Addr × Obj)} {s:Shared} {σ:St} {H:Hp} {R:V→V→Hp→Prop} (I:Inv X pins σ H s)
    (h:ta σ H fun x H1=>tb σ H1 fun y H2=>R x y H2) {Q:Value→Shared→Prop} {f:Value→Value→Sem Value}
    (hf:∀ v u s2 x y H2,Inv X pins σ H2 s2→RelV x v→RelV y u→R x y H2→wpAny (model X.prog X.w) X.A (f v u) Q X.xe s2) :
    wpAny (model X.prog X.w) X.A (eval a X.env) (fun v s₁=>wpAny (model X.prog X.w) X.A (eval b X.env) (fun u s₂=>wpAny (model X.prog X.w) X.A (f v u) Q X.xe s₂) X.xe s₁) X.xe s:=by
  refine thn (ha pins s σ H _ I h) fun v s1 ⟨x,H1,I1,r1,q1⟩=>?_
  refine thn (hb pins s1 σ H1 _ I1 q1) fun u s2 ⟨y,H2,I2,r2,q2⟩=>?_
  exact hf v u s2 x y H2 I2 r1 r2 q2
theorem pe_op {op:Operator} {r:R2} (ho:OpR X (binaryOp op) r) (ha:PE X a ta) (hb:PE X b tb):PE X (.BinOp a op b pos) (tOp r ta tb):=by
 intro pins s σ H Q I h
 exact wpAny_BinOp (binT ha hb I h fun v u s2 x y H2 I2 rx ry q=>ho pins s2 σ H2 x y v u Q I2 rx ry q)
theorem pe_un {op:UnaryOp} {r:V→Hp→VK→Prop} (ho:UnR X (unaryOp op) r) (ha:PE X a ta):PE X (.UnaryOp op a pos) (tUn r ta):=by
 intro pins s σ H Q I h
 exact UnaryOp_ (thn (ha pins s σ H _ I h) fun v s1 ⟨x,H1,I1,r1,q1⟩=>ho pins s1 σ H1 x v Q I1 r1 q1)
theorem opI {f:Value→Value→Sem Value} {C:Int→Int→Prop} {g:Int→Int→Int}
    (rule:∀ (i j:Int) (t u:Tok) (s:Shared) (Q:Value→Shared→Prop) (E:Value→Shared→Prop),C i j→Q (.int (g i j) s.toks) { s with toks:=s.toks+1 }→wpAny (model X.prog X.w) X.A (f (.int i t) (.int j u)) Q E s) :
    OpR X f (rI C fun i j=>.int (g i j)):=by
  intro pins s σ H x y v u Q I rx ry h
  obtain ⟨i,j,rfl,rfl,hc,q⟩:=h
  obtain ⟨t,rfl⟩:=rx
  obtain ⟨t',rfl⟩:=ry
  exact rule i j t t' s _ _ hc ⟨.int (g i j),H,I.tok _,⟨_,rfl⟩,q⟩
theorem opI0 {f:Value→Value→Sem Value} {g:Int→Int→Int}
    (rule:∀ (i j:Int) (t u:Tok) (s:Shared) (Q:Value→Shared→Prop) (E:Value→Shared→Prop),Q (.int (g i j) s.toks) { s with toks:=s.toks+1 }→wpAny (model X.prog X.w) X.A (f (.int i t) (.int j u)) Q E s) :
    OpR X f (rI0 fun i j=>.int (g i j)):=by
  intro pins s σ H x y v u Q I rx ry h
  obtain ⟨i,j,rfl,rfl,q⟩:=h
  obtain ⟨t,rfl⟩:=rx
  obtain ⟨t',rfl⟩:=ry
  exact rule i j t t' s _ _ ⟨.int (g i j),H,I.tok _,⟨_,rfl⟩,q⟩
theorem opB0 {f:Value→Value→Sem Value} {g:Int→Int→Bool}
    (rule:∀ (i j:Int) (t u:Tok) (s:Shared) (Q:Value→Shared→Prop) (E:Value→Shared→Prop),Q (.bool (g i j)) s→wpAny (model X.prog X.w) X.A (f (.int i t) (.int j u)) Q E s) :
    OpR X f (rI0 fun i j=>.bl (g i j)):=by
  intro pins s σ H x y v u Q I rx ry h
  obtain ⟨i,j,rfl,rfl,q⟩:=h
  obtain ⟨t,rfl⟩:=rx
  obtain ⟨t',rfl⟩:=ry
  exact rule i j t t' s _ _ ⟨.bl (g i j),H,I,rfl,q⟩
noncomputable def CDiv (i j:Int):Prop:=0<j∧j<1073741824
noncomputable def CPow (i j:Int):Prop:=0≤j∧j≤1000000∧i.natAbs<2 ^ 64
noncomputable def CMul (i j:Int):Prop:=(-(2 ^ 64)<i∧i<2 ^ 64)∨(-(2 ^ 64)<j∧j<2 ^ 64)
theorem CMul.ok {i j:Int} (h:CMul i j):IntMulOk i j:=by
 rcases h with ⟨h1,h2⟩ | ⟨h1,h2⟩
 ·exact .of_left (intBits_le_64 h1 h2)
 ·exact .of_right (intBits_le_64 h1 h2)
theorem op_add:OpR X (binaryOp .Add) (rI0 fun i j=>.int (i+j)):=opI0 fun _ _ _ _ _ _ _ q=>add_int q
theorem op_sub:OpR X (binaryOp .Sub) (rI0 fun i j=>.int (i-j)):=opI0 fun _ _ _ _ _ _ _ q=>sub_int q
theorem op_mul:OpR X (binaryOp .Mult) (rI CMul fun i j=>.int (i*j)):=opI fun _ _ _ _ _ _ _ hc q=>mul_int q hc.ok
theorem op_fdiv:OpR X (binaryOp .FloorDiv) (rI CDiv fun i j=>.int (i / j)):=opI fun i j _ _ _ _ _ hc q=>by
 have h1:(0:Int)<j:=hc.1
 have h2:j<1073741824:=hc.2
 exact floordiv_int (by omega) (by rw [Int.fdiv_eq_ediv_of_nonneg i (by omega)];exact q) (.inl (PyProof.noPylong_small (by omega)))
theorem op_mod:OpR X (binaryOp .Mod) (rI (fun _ j=>0<j) fun i j=>.int (i % j)):=opI fun i j _ _ _ _ _ hc q=>by
 have h1:(0:Int)<j:=hc
 exact mod_int' (by omega) (by rw [Int.fmod_eq_emod_of_nonneg i (by omega)];exact q)
theorem op_pow:OpR X (binaryOp .Pow) (rI CPow fun i j=>.int (i ^ j.toNat)):=opI fun _ _ _ _ _ _ _ hc q=>pow_int_small hc.1 hc.2.1 hc.2.2 q
theorem unI {f:Value→Sem Value} {g:Int→Int}
    (rule:∀ (i:Int) (t:Tok) (s:Shared) (Q:Value→Shared→Prop) (E:Value→Shared→Prop),Q (.int (g i) s.toks) { s with toks:=s.toks+1 }→wpAny (model X.prog X.w) X.A (f (.int i t)) Q E s) :
    UnR X f (rU fun i=>.int (g i)):=by
  intro pins s σ H x v Q I rx h
  obtain ⟨i,rfl,q⟩:=h
  obtain ⟨t,rfl⟩:=rx
  exact rule i t s _ _ ⟨.int (g i),H,I.tok _,⟨_,rfl⟩,q⟩
theorem un_neg:UnR X (unaryOp .USub) (rU fun i=>.int (-i)):=unI fun _ _ _ _ _ q=>neg_int q
end
section
variable {X:Cx} {a b c:Expr} {ta tb tc:TE} {pos:Pos}
theorem op_lt:OpR X (compareOp .Lt) (rI0 fun i j=>.bl (decide (i<j))):=opB0 fun _ _ _ _ _ _ _ q=>lt_int q
theorem op_le:OpR X (compareOp .LtE) (rI0 fun i j=>.bl (decide (i≤j))):=opB0 fun _ _ _ _ _ _ _ q=>le_int q
theorem op_gt:OpR X (compareOp .Gt) (rI0 fun i j=>.bl (decide (j<i))):=opB0 fun _ _ _ _ _ _ _ q=>gt_int q
theorem op_ge:OpR X (compareOp .GtE) (rI0 fun i j=>.bl (decide (j≤i))):=opB0 fun _ _ _ _ _ _ _ q=>ge_int q
theorem OpR.or {f:Value→Value→Sem Value} {r r':R2} (h:OpR X f r) (h':OpR X f r'):OpR X f (fun x y H Q=>r x y H Q∨r' x y H Q):=by
 intro pins s σ H x y v u Q I rx ry q
 rcases q with q | q
 ·exact h pins s σ H x y v u Q I rx ry q
 ·exact h' pins s σ H x y v u Q I rx ry q
theorem qOA (b:Expr) {op:CmpOp} (h:op≠.In:=by decide) (h2:op≠.NotIn:=by decide):behindInMarks op b=false:=by
 have e1:(op == CmpOp.In)=false:=by cases op <;> first | rfl | exact absurd rfl h
 have e2:(op == CmpOp.NotIn)=false:=by cases op <;> first | rfl | exact absurd rfl h2
 cases b <;> simp [behindInMarks,e1,e2]
theorem pe_cmpR {op:CmpOp} {r:R2} (ho:OpR X (compareOp op) r) (ha:PE X a ta) (hb:PE X b tb) (hm:behindInMarks op b=false):PE X (.Compare a [op] [b] pos) (tOp r ta tb):=by
 intro pins s σ H Q I h
 exact wpAny_Compare1 (binT ha hb I h fun v u s2 x y H2 I2 rx ry q=>ho pins s2 σ H2 x y v u Q I2 rx ry q) hm
noncomputable def tTest (t:TE):TT:=fun σ H Q=>t σ H fun x H'=>∃ k,x=.bl k∧Q k H'
theorem pt_cmpR {op:CmpOp} {r:R2} (ho:OpR X (compareOp op) r) (ha:PE X a ta) (hb:PE X b tb) (hm:behindInMarks op b=false):PT X (.Compare a [op] [b] pos) (tTest (tOp r ta tb)):=by
 intro pins s σ H Q I h
 refine wpAny_isTrue_Compare1 (thn (ha pins s σ H _ I h) fun v s1 ⟨x,H1,I1,r1,q1⟩=>thn (hb pins s1 σ H1 _ I1 q1) fun u s2 ⟨y,H2,I2,r2,q2⟩ =>
  thn (ho pins s2 σ H2 x y v u _ I2 r1 r2 q2) fun c s3 ⟨z,H3,I3,r3,k,e,q3⟩=>?_) hm
 subst e
 cases r3
 exact wpAny_truthy_bool ⟨H3,I3,q3⟩
noncomputable def tChain (r r':R2) (ta tb tc:TE):TE:=fun σ H Q=>ta σ H fun x H1=>tb σ H1 fun y H2=>r x y H2 fun z H3=>∃ k,z=.bl k ∧
 (if k=true then tc σ H3 fun w' H4=>r' y w' H4 Q else Q (.bl false) H3)
theorem pe_chain {op op':CmpOp} {r r':R2} (ho:OpR X (compareOp op) r) (ho':OpR X (compareOp op') r') (ha:PE X a ta) (hb:PE X b tb) (hc:PE X c tc)
    (hm:lastMarks [op,op'] [b,c]=false:=by with_unfolding_all rfl):PE X (.Compare a [op,op'] [b,c] pos) (tChain r r' ta tb tc):=by
  intro pins s σ H Q I h
  refine Compare_chain (thn (ha pins s σ H _ I h) fun v s1 ⟨x,H1,I1,r1,q1⟩=>chain_link (thn (hb pins s1 σ H1 _ I1 q1) fun u s2 ⟨y,H2,I2,r2,q2⟩ =>
    thn (ho pins s2 σ H2 x y v u _ I2 r1 r2 q2) fun d s3 ⟨z,H3,I3,r3,k,e,q3⟩=>?_)) hm
  subst e
  cases r3
  refine wpAny_truthy_bool ?_
  cases k with
  | false=>exact ite_ff ⟨.bl false,H3,I3,rfl,q3⟩
  | true=>exact ite_tt (chain_last (thn (hc pins s3 σ H3 _ I3 q3) fun w' s4 ⟨z',H4,I4,r4,q4⟩=>ho' pins s4 σ H4 y z' u w' Q I4 r2 r4 q4))
theorem pt_chain {op op':CmpOp} {r r':R2} (ho:OpR X (compareOp op) r) (ho':OpR X (compareOp op') r') (ha:PE X a ta) (hb:PE X b tb) (hc:PE X c tc)
    (hm:lastMarks [op,op'] [b,c]=false:=by with_unfolding_all rfl):PT X (.Compare a [op,op'] [b,c] pos) (tTest (tChain r r' ta tb tc)):=by
  intro pins s σ H Q I h
  refine isTrue_chain (thn (ha pins s σ H _ I h) fun v s1 ⟨x,H1,I1,r1,q1⟩=>test_link (thn (hb pins s1 σ H1 _ I1 q1) fun u s2 ⟨y,H2,I2,r2,q2⟩ =>
    thn (ho pins s2 σ H2 x y v u _ I2 r1 r2 q2) fun d s3 ⟨z,H3,I3,r3,k,e,q3⟩=>?_)) hm
  subst e
  cases r3
  refine wpAny_truthy_bool ?_
  cases k with
  | false =>
    obtain ⟨k',e',q'⟩:=q3
    cases e'
    exact ite_ff ⟨H3,I3,q'⟩
  | true =>
    refine ite_tt (test_last (thn (hc pins s3 σ H3 _ I3 q3) fun w' s4 ⟨z',H4,I4,r4,q4⟩=>thn (ho' pins s4 σ H4 y z' u w' _ I4 r2 r4 q4) fun d' s5 ⟨z2,H5,I5,r5,k2,e2,q5⟩=>?_))
    subst e2
    cases r5
    exact wpAny_truthy_bool ⟨H5,I5,q5⟩
noncomputable def TruV (K:PySem.W.Frag) (x:V) (H:Hp) (k:Bool):Prop :=
 match x with
 | .non=>k=false
 | .bl b=>k=b
 | .int i=>k=(i != 0)
 | .str y=>y.length≤sizeLine∧k=((y.length:Int) != 0)
 | .byt y=>y.size≤sizeLine∧k=((y.size:Int) != 0)
 | .ref p=>(∃ xs,SqL K H p xs∧k=!xs.isEmpty)∨(∃ xs,SqT K H p xs∧k=!xs.isEmpty)∨∃ kvs,H p=some (.dK kvs)∧k=!kvs.isEmpty
 | _=>False
theorem qGP {κ:Type} {kvs:List (κ × V)} {vs:List (κ × Value)} (r:KV kvs vs):(!vs.isEmpty)=!kvs.isEmpty:=by
 cases r <;> rfl
theorem qDP {xs:List V} {its:List Value} (r:Vals xs its):(!its.toArray.isEmpty)=!xs.isEmpty:=by
 cases r <;> simp
theorem qDO:(sizeLine:Nat)<2 ^ 63:=by rw [sizeLine_eq];decide
theorem tru_ok:TruR X (fun x H Q=>∃ k,TruV X.K x H k∧Q k H):=by
 intro pins s σ H x v Q I rx h
 obtain ⟨k,e,q⟩:=h
 have hl:=qDO
 have hs:sizeLine=16777216:=sizeLine_eq
 cases x with
 | non =>
  cases rx
  have e':k=false:=e
  subst e'
  exact truthy_none ⟨H,I,q⟩
 | bl b =>
  cases rx
  have e':k=b:=e
  subst e'
  exact wpAny_truthy_bool ⟨H,I,q⟩
 | int i =>
  obtain ⟨t,rfl⟩:=rx
  have e':k=(i != 0):=e
  subst e'
  exact PySem.P.truthy_int ⟨H,I,q⟩
 | str y =>
  obtain ⟨t,rfl⟩:=rx
  obtain ⟨hy,e'⟩:y.length≤sizeLine∧k=((y.length:Int) != 0):=e
  subst e'
  exact PySem.P.truthy_str (by omega) ⟨H,I.tok _,q⟩
 | byt y =>
  obtain ⟨t,rfl⟩:=rx
  obtain ⟨hy,e'⟩:y.size≤sizeLine∧k=((y.size:Int) != 0):=e
  subst e'
  exact PySem.W.truthy_bytes (by omega) ⟨H,I.tok _,q⟩
 | ref p =>
  cases rx
  have e':(∃ xs,SqL X.K H p xs∧k=!xs.isEmpty)∨(∃ xs,SqT X.K H p xs∧k=!xs.isEmpty)∨∃ kvs,H p=some (.dK kvs)∧k=!kvs.isEmpty:=e
  rcases e' with ⟨xs,hx,e'⟩ | ⟨xs,hx,e'⟩ | ⟨kvs,hx,e'⟩
  ·subst e'
   obtain ⟨its,r,pl,hz⟩:=I.list hx
   have hlen:=r.length
   exact wpAny_truthy_list pl.isList (by simp only [List.size_toArray];omega) ⟨H,I.tok _,by rw [qDP r];exact q⟩
  ·subst e'
   obtain ⟨its,r,pl,hz⟩:=I.tuple hx
   have hlen:=r.length
   exact truthy_tuple pl (by simp only [List.size_toArray];omega) ⟨H,I.tok _,by rw [qDP r];exact q⟩
  ·subst e'
   obtain ⟨hz,hS,vs,r,m⟩:kvs.length≤sizeLine∧(p == sysModules)=false∧∃ vs,KV kvs vs∧s.heap.DictOf (mixKind X.prog X.w) p vs:=I.hok p _ hx
   have hlen:kvs.length=vs.length:=Paired.length r
   exact wpAny_truthy_dict hS m (by omega) ⟨H,I.tok _,by rw [qGP r];exact q⟩
 | _=>exact (show False from e).elim
theorem pt_truth (ha:PE X a ta) (he:∀ whole,isTrue a X.env whole=(do let v ← whole;standAt a.pos;holding [v] (truthy v))) :
    PT X a (fun σ H Q=>ta σ H fun x H'=>∃ k,TruV X.K x H' k∧Q k H'):=by
  intro pins s σ H Q I h
  exact isTrue_plain (thn (ha pins s σ H _ I h) fun v s1 ⟨x,H1,I1,r1,q1⟩=>tru_ok pins s1 σ H1 x v Q I1 r1 q1) (he _)
theorem op_add_str:OpR X (binaryOp .Add) (fun x y H Q=>∃ i j,x=.str i∧y=.str j∧i.length+j.length≤sizeLine∧Q (.str (i++j)) H):=by
 intro pins s σ H x y v u Q I rx ry h
 obtain ⟨i,j,rfl,rfl,hz,q⟩:=h
 obtain ⟨t,rfl⟩:=rx
 obtain ⟨t',rfl⟩:=ry
 exact add_str (fun t' tk=>⟨.str (i++j),H,I.tok _,⟨_,rfl⟩,q⟩) hz
theorem vals1 {x:V} {us:List Value} (r:Vals [x] us):∃ u,us=[u]∧RelV x u:=by
 cases r with
 | cons r1 r2=>cases r2;exact ⟨_,rfl,r1⟩
theorem vals2 {x y:V} {us:List Value} (r:Vals [x,y] us):∃ u w',us=[u,w']∧RelV x u∧RelV y w':=by
 cases r with
 | cons r1 r2 =>
  cases r2 with
  | cons r3 r4=>cases r4;exact ⟨_,_,rfl,r1,r3⟩
theorem call_max2 (hc:X.calm=true):CallR X (.builtin "max") (fun xs H Q=>∃ i j,xs=[.int i,.int j]∧Q (.int (if j > i then j else i)) H):=by
 intro pins s σ H xs us Q I r h
 obtain ⟨i,j,rfl,q⟩:=h
 obtain ⟨u,w',rfl,⟨t,rfl⟩,⟨t',rfl⟩⟩:=vals2 r
 refine max_two_ints (I.ok.hd hc) fun h' tk k=>⟨_,H,I.kept k,?_,q⟩
 by_cases hj:j > i
 ·rw [if_pos hj,if_pos hj];exact ⟨_,rfl⟩
 ·rw [if_neg hj,if_neg hj];exact ⟨_,rfl⟩
theorem call_min2 (hc:X.calm=true):CallR X (.builtin "min") (fun xs H Q=>∃ i j,xs=[.int i,.int j]∧Q (.int (if j<i then j else i)) H):=by
 intro pins s σ H xs us Q I r h
 obtain ⟨i,j,rfl,q⟩:=h
 obtain ⟨u,w',rfl,⟨t,rfl⟩,⟨t',rfl⟩⟩:=vals2 r
 refine min_two_ints (I.ok.hd hc) fun h' tk k=>⟨_,H,I.kept k,?_,q⟩
 by_cases hj:j<i
 ·rw [if_pos hj,if_pos hj];exact ⟨_,rfl⟩
 ·rw [if_neg hj,if_neg hj];exact ⟨_,rfl⟩
theorem call_int1:CallR X (.type "int") (fun xs H Q=>(∃ i,xs=[.int i]∧Q (.int i) H)∨∃ k,xs=[.bl k]∧Q (.int (if k then 1 else 0)) H):=by
 intro pins s σ H xs us Q I r h
 rcases h with ⟨i,rfl,q⟩ | ⟨k,rfl,q⟩
 ·obtain ⟨u,rfl,t,rfl⟩:=vals1 r
  exact call_int_int ⟨.int i,H,I,⟨_,rfl⟩,q⟩
 ·obtain ⟨u,rfl,r1⟩:=vals1 r
  cases r1
  exact call_int_bool ⟨.int (if k then 1 else 0),H,I.tok _,⟨_,rfl⟩,q⟩
theorem call_ord:CallR X (.builtin "ord") (fun xs H Q=>∃ x,xs=[.str x]∧x.length=1∧Q (.int (x.cps.getD 0 0:Nat)) H):=by
 intro pins s σ H xs us Q I r h
 obtain ⟨x,rfl,hz,q⟩:=h
 obtain ⟨u,rfl,t,rfl⟩:=vals1 r
 exact ord_of_one hz ⟨.int _,H,I.tok _,⟨_,rfl⟩,q⟩
noncomputable def LenV (K:PySem.W.Frag) (x:V) (H:Hp) (n:Nat):Prop :=
 match x with
 | .str y=>y.length≤sizeLine∧n=y.length
 | .byt y=>y.size≤sizeLine∧n=y.size
 | .ref p=>(∃ xs,SqL K H p xs∧n=xs.length)∨∃ xs,SqT K H p xs∧n=xs.length
 | _=>False
theorem call_len:CallR X (.builtin "len") (fun xs H Q=>∃ x n,xs=[x]∧LenV X.K x H n∧Q (.int n) H):=by
 intro pins s σ H xs us Q I r h
 obtain ⟨x,n,rfl,e,q⟩:=h
 obtain ⟨u,rfl,rx⟩:=vals1 r
 have hl:=qDO
 have hs:sizeLine=16777216:=sizeLine_eq
 cases x with
 | str y =>
  obtain ⟨t,rfl⟩:=rx
  obtain ⟨hy,e'⟩:y.length≤sizeLine∧n=y.length:=e
  subst e'
  exact len_str (by omega) ⟨.int _,H,I.tok _,⟨_,rfl⟩,q⟩
 | byt y =>
  obtain ⟨t,rfl⟩:=rx
  obtain ⟨hy,e'⟩:y.size≤sizeLine∧n=y.size:=e
  subst e'
  exact PySem.W.len_bytes (by omega) ⟨.int _,H,I.tok _,⟨_,rfl⟩,q⟩
 | ref p =>
  cases rx
  have e':(∃ xs,SqL X.K H p xs∧n=xs.length)∨∃ xs,SqT X.K H p xs∧n=xs.length:=e
  rcases e' with ⟨xs,hx,e'⟩ | ⟨xs,hx,e'⟩
  ·subst e'
   obtain ⟨its,r',pl,hz⟩:=I.list hx
   have hlen:=r'.length
   exact Calls.call_len_list pl.isList (by simp only [List.size_toArray];omega) ⟨.int xs.length,H,I.tok _,⟨_,by simp only [List.size_toArray];rw [hlen]⟩,q⟩
  ·subst e'
   obtain ⟨its,r',pl,hz⟩:=I.tuple hx
   have hlen:=r'.length
   exact len_tuple pl (by simp only [List.size_toArray];omega) ⟨.int xs.length,H,I.tok _,⟨_,by simp only [List.size_toArray];rw [hlen]⟩,q⟩
 | _=>exact (show False from e).elim
end
end L2
namespace L2
open PySem PySem.Spec PyProof.Rows
structure ObjM (h:Heap) (x dx C:Addr) (mA:Str→Option Value):Prop where
 obj:h.get? x=some (PySem.W.instObj C dx)
 ns:h.Ns1 dx mA
 ne:dx≠x
theorem qHW {h:Heap} {dx:Addr} {mA:Str→Option Value} (n:h.Ns1 dx mA):∃ od,h.get? dx=some od∧∀ name,PySem.W.lookIn name od=some (mA name):=by
 obtain ⟨o,es,ep,ho,hd,hk,_,hm⟩:=n
 refine ⟨o,ho,fun name=>?_⟩
 have e:=hm name
 unfold nsFind findBy at e
 rw [← Array.find?_toList] at e
 unfold PySem.W.lookIn
 rw [hd]
 dsimp only
 split
 ·rename_i y q
  rw [q] at e
  exact congrArg some e
 ·rename_i q
  rw [q] at e
  have a:es.toList.any (·.refKey)=false:=by
   rw [List.any_eq_false]
   intro y hy
   obtain ⟨z,t,hkey⟩:=hk y (Array.mem_toList_iff.mp hy)
   simp [DictEntry.refKey,hkey]
  have a':¬ es.toList.any (·.refKey)=true:=by rw [a];exact Bool.false_ne_true
  rw [if_neg a']
  exact congrArg some e
theorem ObjM.look {h:Heap} {x dx C:Addr} {mA:Str→Option Value} (I:ObjM h x dx C mA):∃ od,PySem.W.InstAt h x (PySem.W.instObj C dx) C (some od)∧∀ name,PySem.W.lookIn name od=some (mA name) :=
 let ⟨od,ho,hl⟩:=qHW I.ns
 ⟨od,⟨I.obj,rfl,rfl,ho⟩,hl⟩
section
variable {prog:Program} {w:World} {A:Around} {E:Value→Shared→Prop} {s:Shared} {K:PySem.W.Frag} {x dx C f:Addr} {mA:Str→Option Value} {name:Str} {v:Value}
theorem qLU {expr:Bool} {Q:Value→Shared→Prop} (X:K.In s.heap) (I:ObjM s.heap x dx C mA) (hg:PySem.W.plainGet K C name=true) (hh:PySem.W.hasDictIn K C=true)
    (ha:PySem.W.findIn K (.ref C) name=some none) (hv:mA name=some v) (hv':PySem.W.handedIn v=true) (h:Q v { s with toks:=s.toks+1 }) :
    wpAny (model prog w) A (getAttr (.ref x) name expr) Q E s:=by
  obtain ⟨od,J,hl⟩:=I.look
  exact PySem.W.get_value X J (PySem.W.plainGet_of hg).1 (PySem.W.findObj_own hh ha rfl (by rw [hl,hv])) hv' h
theorem qJK {pl:Sem Bool} {Q:Value × List Value→Shared→Prop} (X:K.In s.heap) (I:ObjM s.heap x dx C mA) (hg:PySem.W.plainGet K C name=true)
    (hf:PySem.W.findIn K (.ref C) name=some (some (.ref f))) (ht:PySem.W.isFn K (.ref f)=true) (hv:mA name=none) (h:Q (.ref f,[.ref x]) s) :
    wpAny (model prog w) A (getMethod (.ref x) name pl) Q E s:=by
  obtain ⟨od,J,hl⟩:=I.look
  exact PySem.W.method_fn X J (PySem.W.plainGet_of hg).1 (PySem.W.plainGet_of hg).2 hf (beq_iff_eq.mp ht) (by show (PySem.W.lookIn name od).map (·.isSome)=some false;rw [hl,hv];rfl) h
theorem qKZ {ns:List Str} {Q:Unit→Shared→Prop} (X:K.In s.heap) (I:ObjM s.heap x dx C mA)
    (hs:PySem.W.findIn K (.ref C) "__setattr__"=some (some (.builtin "object.__setattr__"))) (hp:PySem.W.plainOver K C=true) (ht:PySem.W.takerIn K C name=some none) (hh:PySem.W.hasDictIn K C=true)
    (hw:PySem.Within mA ns) (hsz:ns.length≤sizeLine)
    (h:∀ h',ObjM h' x dx C (fun y=>if y=name then some v else mA y)→Heap.SameBut dx s.heap h'→Q () { s with heap:=h',toks:=s.toks+2 }) :
    wpAny (model prog w) A (setAttr (.ref x) name v) Q E s:=by
  obtain ⟨od,J,hl⟩:=I.look
  refine PySem.W.set_plain X J hs (PySem.W.osa_open (s:={ s with toks:=s.toks+1 }) (r:=none) X J hp ht fun b=>?_)
  obtain ⟨cd,hc,hd'⟩:=PySem.W.any_some hh
  have hx:s.heap.get? x=some ⟨.ref C,some dx,.plain,#[]⟩:=I.obj
  refine wpAny_bind (wpAny_pure (wpAny_bind (wpAny_bind (wpAny_loadPart hx (wpAny_bind (PySem.W.Looks.here (s:={ s with toks:=s.toks+1 }) (PySem.W.looks_clsIn X hc) ?_))))))
  rw [hd']
  refine wpAny_pure (a:=some dx) (wpAny_bind (wpAny_pure (wpAny_bind ?_)))
  refine wpAny_nsSet1 (s:={ s with toks:=s.toks+1 }) I.ns fun h' hn2 hs2=>?_
  obtain ⟨oD,esD,epD,hoD,hdD,hcD⟩:=hn2.count (PySem.Within.cons name v hw)
  refine wpAny_bind (wpAny_lookBehind hoD (by rw [hdD];exact pastItsLine_dict (Nat.le_trans hcD (by rw [List.length_cons];omega))) ?_)
  exact wpAny_pure (h _ ⟨(hs2.2 _ (Ne.symm I.ne)).trans I.obj,hn2,I.ne⟩ hs2)
theorem make_map {R:Result→Shared→Prop} {vs:List Value} {kw:List (Str × Value)} (X:K.In s.heap) (hm:PySem.W.makesIn K C=true)
    (hi:PySem.W.findIn K (.ref C) "__init__"=some (some (.ref f))) (hf:PySem.W.typeIn K (.ref f)=some (.type "function"))
    (h:codeAny (model prog w) (A.under (.builtin "type.__call__" ⟨.ref C::vs,kw⟩)) (.call (.ref f) ⟨.ref (s.heap.objs.size+1)::vs,kw⟩) (PySem.W.InitBack (s.heap.objs.size+1) R)
      { s with heap:=(s.heap.push PySem.W.emptyDict).push (PySem.W.instObj C s.heap.objs.size) }) :
    codeAny (model prog w) A (.call (.ref C) ⟨vs,kw⟩) R s:=by
  obtain ⟨hh,g,d,t,os⟩:=s
  exact PySem.W.make_core (PySem.W.makes_of X hm) (PySem.W.looks_findIn X hi) (fun self=>PySem.W.bind_fn X self hf) (.inl rfl) h
end
noncomputable def putF (f:Str) (v:V):List (Str × V)→List (Str × V)
 | []=>[(f,v)]
 | (g,x)::r=>if g=f then (g,v)::r else (g,x)::putF f v r
theorem qCh (f g:Str) (v:V):∀ fs:List (Str × V),(putF f v fs).lookup g=if g=f then some v else fs.lookup g
 | []=>by
  show List.lookup g [(f,v)]=_
  by_cases h:g=f
  ·have hb:(g == f)=true:=beq_iff_eq.mpr h
   simp only [List.lookup,hb,if_pos h]
  ·have hb:(g == f)=false:=beq_eq_false_iff_ne.mpr h
   simp only [List.lookup,hb,if_neg h]
 | (k,x)::r=>by
  have ih:=qCh f g v r
  rw [show putF f v ((k,x)::r)=(if k=f then (k,v)::r else (k,x)::putF f v r) from rfl]
  by_cases hk:k=f
  ·rw [if_pos hk]
   by_cases h:g=k
   ·have hb:(g == k)=true:=beq_iff_eq.mpr h
    simp only [List.lookup,hb,if_pos (h.trans hk)]
   ·have hb:(g == k)=false:=beq_eq_false_iff_ne.mpr h
    simp only [List.lookup,hb,if_neg (fun e:g=f=>h (e.trans hk.symm))]
  ·rw [if_neg hk]
   by_cases h:g=k
   ·have hb:(g == k)=true:=beq_iff_eq.mpr h
    simp only [List.lookup,hb,if_neg (fun e:g=f=>hk (h.symm.trans e))]
   ·have hb:(g == k)=false:=beq_eq_false_iff_ne.mpr h
    simp only [List.lookup,hb]
    exact ih
theorem qCj (f:Str) (v:V):∀ fs:List (Str × V),f∈(putF f v fs).map (·.1)∧∀ g,g∈fs.map (·.1)→g∈(putF f v fs).map (·.1)
 | []=>⟨by simp [putF],fun g h=>by simp at h⟩
 | (k,x)::r=>by
  obtain ⟨i1,i2⟩:=qCj f v r
  rw [show putF f v ((k,x)::r)=(if k=f then (k,v)::r else (k,x)::putF f v r) from rfl]
  by_cases hk:k=f
  ·rw [if_pos hk]
   subst hk
   exact ⟨by simp,fun g h=>by simpa using h⟩
  ·rw [if_neg hk]
   refine ⟨?_,fun g h=>?_⟩
   ·rw [List.map_cons]
    exact List.mem_cons_of_mem _ i1
   ·rw [List.map_cons] at h ⊢
    rcases List.mem_cons.mp h with e | e
    ·exact List.mem_cons.mpr (.inl e)
    ·exact List.mem_cons_of_mem _ (i2 g e)
theorem qCi (f:Str) (v:V):∀ fs:List (Str × V),(putF f v fs).length≤fs.length+1
 | []=>by simp [putF]
 | (k,x)::r=>by
  have ih:=qCi f v r
  rw [show putF f v ((k,x)::r)=(if k=f then (k,v)::r else (k,x)::putF f v r) from rfl]
  by_cases hk:k=f
  ·rw [if_pos hk,List.length_cons,List.length_cons];omega
  ·rw [if_neg hk,List.length_cons,List.length_cons];omega
theorem RelO.some_of {v:V} {o:Option Value} (r:RelO (some v) o):∃ u,o=some u∧RelV v u:=by
 cases o with
 | none=>exact (show False from r).elim
 | some u=>exact ⟨u,rfl,r⟩
theorem RelO.none_of {o:Option Value} (r:RelO none o):o=none:=by
 cases o with
 | none=>rfl
 | some u=>exact (show False from r).elim
theorem qHn {v:V} {u:Value} (r:RelV v u):PySem.W.handedIn u=true:=by
 cases v with
 | non=>cases (show u=Value.none from r);rfl
 | bl b=>cases (show u=Value.bool b from r);rfl
 | int i=>obtain ⟨t,e⟩:=(show ∃ t,u=Value.int i t from r);cases e;rfl
 | str x=>obtain ⟨t,e⟩:=(show ∃ t,u=Value.str x t from r);cases e;rfl
 | byt b=>obtain ⟨t,e⟩:=(show ∃ t,u=Value.bytes b t from r);cases e;rfl
 | flt b=>obtain ⟨t,e⟩:=(show ∃ t,u=Value.float b t from r);cases e;rfl
 | ref a=>cases (show u=Value.ref a from r);rfl
 | ty n=>cases (show u=Value.type n from r);rfl
section
variable {P:Program} {w:World} {H H':Hp} {h h':Heap} {a C dx:Addr} {fs fs':List (Str × V)}
theorem qFC (hok:HOk P w H h) (e:H a=some (.ins C dx fs)):∃ mA,ObjM h a dx C mA∧(∀ f,RelO (fs.lookup f) (mA f))∧PySem.Within mA (fs.map (·.1))∧fs.length≤1000∧H dx=some (.own a):=by
 obtain ⟨d,z,ne,ob,mA,n,r,q⟩:=(show ObjOk P w H h a (.ins C dx fs) from hok a _ e)
 exact ⟨mA,⟨ob,n,ne⟩,r,q,z,d⟩
end
structure Cls (K:PySem.W.Frag) (C:Addr):Prop where
 pg:PySem.W.plainGet K C Str.empty=true
 hd:PySem.W.hasDictIn K C=true
 po:PySem.W.plainOver K C=true
 sa:PySem.W.findIn K (.ref C) "__setattr__"=some (some (.builtin "object.__setattr__"))
theorem Cls.get {K:PySem.W.Frag} {C:Addr} (c:Cls K C) (f:Str):PySem.W.plainGet K C f=true:=c.pg
noncomputable def NoAttr (K:PySem.W.Frag) (C:Addr) (f:Str):Prop:=PySem.W.findIn K (.ref C) f=some none
theorem NoAttr.taker {K:PySem.W.Frag} {C:Addr} {f:Str} (n:NoAttr K C f):PySem.W.takerIn K C f=some none:=by
 unfold PySem.W.takerIn
 rw [show PySem.W.findIn K (.ref C) f=some none from n]
 rfl
structure Meth (K:PySem.W.Frag) (C:Addr) (m:Str) (f:Addr):Prop where
 at_:PySem.W.findIn K (.ref C) m=some (some (.ref f))
 fn:PySem.W.isFn K (.ref f)=true
 kp:PySem.W.keepIn K (.ref f)=true
section
variable {X:Cx} {pins:List (Addr × Obj)} {σ:St} {H:Hp} {s:Shared} {a C dx:Addr} {fs:List (Str × V)} {f:Str} {v:V} {A:Around} {E:Value→Shared→Prop}
theorem qGS {b:Bool} {Q:Value→Shared→Prop} (I:Inv X pins σ H s) (e:H a=some (.ins C dx fs)) (c:Cls X.K C) (n:NoAttr X.K C f) (l:fs.lookup f=some v)
    (h:∀ u s',Inv X pins σ H s'→RelV v u→Q u s'):wpAny (model X.prog X.w) A (getAttr (.ref a) f b) Q E s:=by
  obtain ⟨mA,O,r,_,_,_⟩:=qFC I.hok e
  obtain ⟨u,hu,ru⟩:=RelO.some_of (v:=v) (o:=mA f) (by rw [← l];exact r f)
  exact qLU I.kIn O (c.get f) c.hd n hu (qHn ru) (h u _ (I.tok _) ru)
theorem getmeth_ok {m:Str} {g:Addr} {pl:Sem Bool} {Q:Value × List Value→Shared→Prop} (I:Inv X pins σ H s) (e:H a=some (.ins C dx fs)) (c:Cls X.K C) (k:Meth X.K C m g) (l:fs.lookup m=none)
    (h:Q (.ref g,[.ref a]) s):wpAny (model X.prog X.w) A (getMethod (.ref a) m pl) Q E s:=by
  obtain ⟨mA,O,r,_,_,_⟩:=qFC I.hok e
  have hn:mA m=none:=RelO.none_of (by rw [← l];exact r m)
  exact qJK I.kIn O (c.get m) k.at_ k.fn hn h
theorem qF6 {y:V} {u:Value} {Q:Unit→Shared→Prop} (I:Inv X pins σ H s) (e:H a=some (.ins C dx fs)) (c:Cls X.K C) (n:NoAttr X.K C f) (hl:fs.length<1000) (ry:RelV y u)
    (h:∀ s',Inv X pins σ (upd H a (.ins C dx (putF f y fs))) s'→Q () s'):wpAny (model X.prog X.w) A (setAttr (.ref a) f u) Q E s:=by
  obtain ⟨mA,O,r,wi,_,ho⟩:=qFC I.hok e
  have hz:(fs.map (·.1)).length≤sizeLine:=by rw [List.length_map,sizeLine_eq];omega
  refine qKZ I.kIn O c.sa c.po n.taker c.hd wi hz fun h' O' sb=>h _ ?_
  have hd:∃ o,h'.get? dx=some o:=let ⟨o,_,_,e',_⟩:=O'.ns;⟨o,e'⟩
  refine I.write (x:=a) (e:=dx) (by rw [e];exact True.intro) (.inr ho) (fun b q hb z=>(sb.2 b hb).trans z) hd ?_
  refine ⟨by rw [qAB O.ne];exact ho,?_,O.ne,O'.obj,_,O'.ns,fun g=>?_,fun g hg=>?_⟩
  · have:=qCi f y fs;omega
  · show RelO ((putF f y fs).lookup g) (if g=f then some u else mA g)
    rw [qCh]
    by_cases q:g=f
    · rw [if_pos q,if_pos q];exact ry
    · rw [if_neg q,if_neg q];exact r g
  · by_cases q:g=f
    · rw [q];exact (qCj f y fs).1
    · refine (qCj f y fs).2 g (wi g fun z=>hg ?_)
      show (if g=f then some u else mA g)=none
      rw [if_neg q];exact z
theorem Inv.made (I:Inv X pins σ H s):Inv X pins σ (upd (upd H s.heap.objs.size (.own (s.heap.objs.size+1))) (s.heap.objs.size+1) (.ins C s.heap.objs.size []))
    { s with heap:=(s.heap.push PySem.W.emptyDict).push (PySem.W.instObj C s.heap.objs.size) }:=by
  have e1:(s.heap.push PySem.W.emptyDict).get? s.heap.objs.size=some PySem.W.emptyDict:=Heap.get?_push_size s.heap rfl
  have e2:((s.heap.push PySem.W.emptyDict).push (PySem.W.instObj C s.heap.objs.size)).get? (s.heap.objs.size+1)=some (PySem.W.instObj C s.heap.objs.size):=by
    have:=Heap.get?_push_size (s.heap.push PySem.W.emptyDict) (o:=PySem.W.instObj C s.heap.objs.size) rfl
    rwa [Heap.size_push] at this
  have e3:(s.heap.push PySem.W.emptyDict).Ns s.heap.objs.size (fun _=>none):=⟨PySem.W.emptyDict,#[],_,e1,rfl,(fun e he=>absurd he (by simp)),fun _=>rfl⟩
  have I1:=I.laid (a:=s.heap.objs.size) (o:=.own (s.heap.objs.size+1)) (h':=s.heap.push PySem.W.emptyDict) (t':=s.toks) (fun b u q=>Heap.get?_push_of_some _ q) (Nat.le_refl _) ⟨_,e1⟩
  refine I1.laid (a:=s.heap.objs.size+1) (o:=.ins C s.heap.objs.size []) (t':=s.toks) (fun b u q=>Heap.get?_push_of_some _ q) (Nat.le_of_eq (Heap.size_push _ _)) ?_
  have ne:s.heap.objs.size≠s.heap.objs.size+1:=Nat.ne_of_lt (Nat.lt_succ_self _)
  refine ⟨by rw [qAB ne,qAA],Nat.zero_le _,ne,e2,fun _=>none,(Heap.Ns1.of_empty e3).at fun o q=>Heap.get?_push_of_some _ q,fun _=>True.intro,fun y hy=>absurd rfl hy⟩
theorem qLt {prog:Program} {w:World} {env:Env} {e:Expr} {f:Str} {pos:Pos} {s:Shared} {Q:Value→Shared→Prop} (hb:attributeBase e f env (eval e env)=eval e env)
    (h:wpAny (model prog w) A (eval e env) (fun o s₁=>wpAny (model prog w) A (getAttr o f true) Q E s₁) E s):wpAny (model prog w) A (eval (.Attribute e f pos) env) Q E s :=
  Attribute_any_ h (by rw [arm_eval_Attribute,hb])
end
noncomputable def tFld (K:PySem.W.Frag) (ta:TE) (f:Str):TE:=fun σ H Q=>ta σ H fun x H1=>∃ a C dx fs v,x=.ref a∧H1 a=some (.ins C dx fs)∧Cls K C∧NoAttr K C f∧fs.lookup f=some v∧Q v H1
noncomputable def sFld (K:PySem.W.Frag) (ta tv:TE) (f:Str):TS:=fun D σ H=>tv σ H fun y H1=>ta σ H1 fun x H2=>∃ a C dx fs,x=.ref a∧H2 a=some (.ins C dx fs)∧Cls K C∧NoAttr K C f∧fs.length<1000 ∧
 D.nx σ (upd H2 a (.ins C dx (putF f y fs)))
section
variable {X:Cx} {o e value:Expr} {f:Str} {pos pos' tpos:Pos} {ta tv:TE}
theorem pe_fld (he:PE X e ta) (hb:attributeBase e f X.env (eval e X.env)=eval e X.env):PE X (.Attribute e f pos) (tFld X.K ta f):=by
 intro pins s σ H Q I h
 refine qLt hb (thn (he pins s σ H _ I h) fun u s1 ⟨x,H1,I1,rx,a,C,dx,fs,v,ex,ea,c,n,l,q⟩=>?_)
 subst ex
 obtain rfl:u=Value.ref a:=rx
 exact qGS I1 ea c n l fun u' s2 I2 ru=>⟨v,H1,I2,ru,q⟩
theorem ps_fld (ha:PE X o ta) (hv:PE X value tv) (hs:swapsWith value (some (.Attribute o f pos')) pos.line X.env=pure false):PS X (.Assign [.Attribute o f pos'] value pos) (sFld X.K ta tv f):=by
 intro pins s σ H D I h
 refine plainObj_wpAny_Assign_Attribute (thn (hv pins s σ H _ I h) fun u s1 ⟨y,H1,I1,ry,q⟩=>thn (ha pins s1 σ H1 _ I1 q) fun ov s2 ⟨x,H2,I2,rx,a,C,dx,fs,ex,ea,c,n,l,q2⟩=>?_) hs
 subst ex
 obtain rfl:ov=Value.ref a:=rx
 exact qF6 I2 ea c n l ry fun s3 I3=>⟨σ,_,I3,q2⟩
end
section
variable {X:Cx} {pins:List (Addr × Obj)} {σ:St} {H:Hp} {s:Shared} {A:Around} {E:Value→Shared→Prop} {Q:Value→Shared→Prop} {c:Value} {b:Bool}
end
end L2
namespace L2
open PySem PySem.Spec PyProof.Rows
structure Room (k:Nat) (A:Around):Prop where
 hd:A.handled=none
 dp:A.depth+3*k+5<recursionLimit
 un:A.units+16*k+200<cLine
theorem Room.mono {j k:Nat} {A:Around} (r:Room k A) (h:j≤k):Room j A:=⟨r.hd,by have:=r.dp;omega,by have:=r.un;omega⟩
theorem Room.deeper {k:Nat} {A:Around} (r:Room (k+1) A) (env:Env):Room k (A.deeper env) :=
 ⟨r.hd,by have:=r.dp;show A.depth+1+3*k+5<_;omega,by have:=r.un;show A.units+3+16*k+200<_;omega⟩
theorem Room.in1 {k:Nat} {A:Around} (r:Room (k+1) A):Room k A.in1 :=
 ⟨r.hd,by have:=r.dp;show A.depth+3*k+5<_;omega,by have:=r.un;show A.units+1+16*k+200<_;omega⟩
theorem qGJ {A:Around} {C:Addr} {us:List Value} {kw:List (Str × Value)}:(A.under (.builtin "type.__call__" ⟨.ref C::us,kw⟩)).depth=A.depth+1:=by
 first | rfl | simp [Around.under,Code.weight,Code.isCreation,Code.isGuard,Code.isCaller,Code.frames,Code.isFrame,guardIds]
theorem qGI {A:Around} {C:Addr} {us:List Value} {kw:List (Str × Value)}:(A.under (.builtin "type.__call__" ⟨.ref C::us,kw⟩)).units=A.units+1:=by
 first | rfl | simp [Around.under,Code.cUnits,Code.frames,Code.isFrame]
theorem Room.make {k:Nat} {A:Around} (r:Room (k+1) A) (C:Addr) (us:List Value) (kw:List (Str × Value)):Room k (A.under (.builtin "type.__call__" ⟨.ref C::us,kw⟩)) :=
 ⟨r.hd,by have:=r.dp;rw [qGJ];omega,by have:=r.un;rw [qGI];omega⟩
theorem Room.depth {k:Nat} {A:Around} (r:Room k A):A.depth<recursionLimit:=by have:=r.dp;omega
theorem Room.units {k:Nat} {A:Around} (r:Room k A):A.units+64<cLine:=by have:=r.un;omega
noncomputable def tNil:TA:=fun _ H Q=>Q [] H
noncomputable def tCons (ta:TE) (tr:TA):TA:=fun σ H Q=>ta σ H fun x H1=>tr σ H1 fun xs H2=>Q (x::xs) H2
section
variable {X:Cx} {e:Expr} {es:List Expr} {te:TE} {t:TA} {pos:Pos}
theorem pa_nil:PA X [] tNil:=fun _ _ _ _ H Q I h=>Calls.spliced_nil ⟨[],H,I,.nil,h⟩
theorem pa_cons (ha:PE X e te) (hr:PA X es t) (hs:starEach (e::es) X.env=(false,eval e X.env)::starEach es X.env:=by rfl):PA X (e::es) (tCons te t):=by
 intro pos pins s σ H Q I h
 rw [hs]
 show wpAny _ _ (spliced ((false,eval e X.env)::backTo pos (starEach es X.env))) _ _ s
 refine Calls.spliced_cons (thn (ha pins s σ H _ I h) fun u s1 ⟨x,H1,I1,r1,q1⟩=>?_)
 exact thn (hr pos pins s1 σ H1 _ I1 q1) fun us s2 ⟨xs,H2,I2,r2,q2⟩=>⟨x::xs,H2,I2,.cons r1 r2,q2⟩
noncomputable def tTup (t:TA):TE:=fun σ H Q=>t σ H fun xs H1=>xs.length≤sizeLine∧∀ p,H1 p=none→Q (.ref p) (upd H1 p (.tup xs))
noncomputable def tLst (t:TA):TE:=fun σ H Q=>t σ H fun xs H1=>xs.length≤sizeLine∧∀ p,H1 p=none→Q (.ref p) (upd H1 p (.lst xs))
theorem pe_tup {x1} (h:PA X es t):PE X (.Tuple es x1 pos) (tTup t):=by
 intro pins s σ H Q I hq
 refine wpAny_Tuple_spliced (thn (h pos pins s σ H _ I hq) fun us s1 ⟨xs,H1,I1,r,z,q⟩=>⟨by rw [← r.length];exact z,?_⟩)
 have hf:H1 s1.heap.objs.size=none:=I1.hok.fresh (Nat.le_refl _)
 refine ⟨.ref s1.heap.objs.size,upd H1 s1.heap.objs.size (.tup xs),I1.laid (t':=s1.toks) (fun b u e=>Heap.get?_push_of_some _ e) (Nat.le_refl _) ?_,rfl,q _ hf⟩
 exact ⟨z,us,r,⟨_,Heap.get?_push_size _ rfl,rfl,_,rfl⟩⟩
theorem pe_lst (h:PA X es t):PE X (.List es pos) (tLst t):=by
 intro pins s σ H Q I hq
 refine wpAny_List_spliced (thn (h pos pins s σ H _ I hq) fun us s1 ⟨xs,H1,I1,r,z,q⟩=>⟨by rw [← r.length];exact z,?_⟩)
 have hf:H1 s1.heap.objs.size=none:=I1.hok.fresh (Nat.le_refl _)
 refine ⟨.ref s1.heap.objs.size,upd H1 s1.heap.objs.size (.lst xs),I1.laid (t':=s1.toks) (fun b u e=>Heap.get?_push_of_some _ e) (Nat.le_refl _) ?_,rfl,q _ hf⟩
 exact ⟨z,us,0,r,Heap.get?_push_size _ rfl⟩
end
noncomputable abbrev Sp:=List V→Hp→VK→XK→Prop
noncomputable abbrev CXT:=List Env→Hp→Shared→XK→Value→Shared→Prop
structure Env0 (P:Program) (w:World) (K:PySem.W.Frag) (mg:Str→Option Value) (base:Heap) (A:Around) (outer:List Env) (s:Shared) (H:Hp):Prop where
 frames:A.frames=some outer
 mod:Mod K mg base
 bs:∀ b o,base.get? b=some o→s.heap.get? b=some o∧H b=none
 bsz:base.objs.size≤s.heap.objs.size
 funs:s.heap.FunFrames base outer
 frf:∀ b∈frs outer,H b=none
 hok:HOk P w H s.heap
 bare:AllBare s.gens
noncomputable def CE (outer:List Env) (P:Program) (w:World) (H:Hp) (s:Shared) (Q:VK) (u:Value) (s':Shared):Prop :=
 ∃ v H',s'.os=s.os∧AllBare s'.gens∧Un (frs outer) [] H H' s.heap s'.heap∧HOk P w H' s'.heap∧RelV v u∧Q v H'
noncomputable def CR (CX:CXT) (outer:List Env) (P:Program) (w:World) (H:Hp) (s:Shared) (Q:VK) (E:XK) (r:Result) (s':Shared):Prop :=
 match r with
 | .ok (.ret u)=>CE outer P w H s Q u s'
 | .ok _=>False
 | .error e=>CX outer H s E e s'
structure FnOk (P:Program) (w:World) (K:PySem.W.Frag) (mg:Str→Option Value) (base:Heap) (CX:CXT) (k:Nat) (f:Addr) (fd:FuncData) (ps:List Str) (sp:Sp):Prop where
 len:∀ vs H Q E,sp vs H Q E→vs.length=ps.length
 run:∀ (A:Around) (outer:List Env) (s:Shared) (H:Hp) (args:Args) (us:List Value) (vs:List V) (Q:VK) (E:XK),Room k A→Env0 P w K mg base A outer s H→BindsTo s fd args (ps.zip us)→Vals vs us→sp vs H Q E →
  codeAny (model P w) A (.call (.ref f) args) (CR CX outer P w H s Q E) s
theorem FnOk.mono {P:Program} {w:World} {K:PySem.W.Frag} {mg:Str→Option Value} {base:Heap} {CX:CXT} {j k:Nat} {f:Addr} {fd:FuncData} {ps:List Str} {sp:Sp} (F:FnOk P w K mg base CX j f fd ps sp) (h:j≤k) :
    FnOk P w K mg base CX k f fd ps sp:=⟨F.len,fun A outer s H args us vs Q E hr=>F.run A outer s H args us vs Q E (hr.mono h)⟩
theorem FnOk.imp {P:Program} {w:World} {K:PySem.W.Frag} {mg:Str→Option Value} {base:Heap} {CX:CXT} {k:Nat} {f:Addr} {fd:FuncData} {ps:List Str} {sp sp':Sp} (F:FnOk P w K mg base CX k f fd ps sp)
    (h:∀ vs H Q E,sp' vs H Q E→sp vs H Q E):FnOk P w K mg base CX k f fd ps sp' :=
  ⟨fun vs H Q E q=>F.len vs H Q E (h _ _ _ _ q),fun A outer s H args us vs Q E hr he hb hv hs=>F.run A outer s H args us vs Q E hr he hb hv (h _ _ _ _ hs)⟩
theorem Env0.make {P:Program} {w:World} {K:PySem.W.Frag} {mg:Str→Option Value} {base:Heap} {A:Around} {outer:List Env} {s:Shared} {H:Hp} (e:Env0 P w K mg base A outer s H) (C:Addr) (us:List Value) (kw:List (Str × Value)) :
    Env0 P w K mg base (A.under (.builtin "type.__call__" ⟨.ref C::us,kw⟩)) outer s H:=⟨by first | exact e.frames | (simpa [Around.under,Code.envs,Code.isFrame,pushEnvs] using e.frames),e.mod,e.bs,e.bsz,e.funs,e.frf,e.hok,e.bare⟩
theorem Env0.in1 {P:Program} {w:World} {K:PySem.W.Frag} {mg:Str→Option Value} {base:Heap} {A:Around} {outer:List Env} {s:Shared} {H:Hp} (e:Env0 P w K mg base A outer s H) :
    Env0 P w K mg base A.in1 outer s H:=⟨e.frames,e.mod,e.bs,e.bsz,e.funs,e.frf,e.hok,e.bare⟩
section
variable {X:Cx} {pins:List (Addr × Obj)} {σ:St} {H:Hp} {s s':Shared}
theorem Inv.env0 (I:Inv X pins σ H s):Env0 X.prog X.w X.K X.mg X.base X.A X.stack s H :=
 ⟨I.ok.frames,I.ok.mod,I.bs,Nat.le_trans I.ok.bsz I.sz,I.stack,I.stkFree,I.hok,I.bare⟩
theorem Inv.after {Q:VK} {u:Value} (I:Inv X pins σ H s) (h:CE X.stack X.prog X.w H s Q u s'):EP X pins σ Q u s':=by
 obtain ⟨v,H',os,bare,un,hok,r,q⟩:=h
 obtain ⟨hh,g,d,t,os'⟩:=s'
 obtain rfl:os'=s.os:=os
 exact ⟨v,H',I.call (h':=hh) (g':=g) (d':=d) (t':=t) (ch:=[]) un hok bare (fun b z=>absurd z (by simp)),r,q⟩
end
noncomputable def Binds (K:PySem.W.Frag) (fd:FuncData) (ps:List Str) (ds:List Value):Prop :=
 ∀ (s:Shared) (us:List Value),K.In s.heap→(us++ds).length=ps.length→BindsTo s fd ⟨us,[]⟩ (ps.zip (us++ds))
theorem Binds.all {K:PySem.W.Frag} {fd:FuncData} {ps:List Str} (h:∀ us:List Value,us.length=ps.length→bindArgs fd ⟨us,[]⟩=pure (ps.zip us)):Binds K fd ps []:=fun s us _ hl=>by
 rw [List.append_nil] at hl ⊢
 exact .of_eq (h us hl)
section
variable {X:Cx} {CX:CXT} {k:Nat} {f C:Addr} {fd:FuncData} {ps:List Str} {sp:Sp} {dvs:List V} {ds:List Value} {E:XK} {x m:Str} {p pos apos:Pos} {e o:Expr} {es:List Expr} {ta:TE} {t:TA}
structure Mk (K:PySem.W.Frag) (C f:Addr):Prop where
 makes:PySem.W.makesIn K C=true
 init:PySem.W.findIn K (.ref C) "__init__"=some (some (.ref f))
 fn:PySem.W.isFn K (.ref f)=true
 kp:PySem.W.keepIn K (.ref C)=true
end
noncomputable def PK (X:Cx) (kws:List Keyword) (t:TA):Prop :=
 ∀ (pos:Pos) (pins:List (Addr × Obj)) (s:Shared) (σ:St) (H:Hp) (Q:List V→Hp→Prop),Inv X pins σ H s→t σ H Q→wpAny (model X.prog X.w) X.A (evalAll ((backToKw pos (keywordEach kws X.env)).map (·.2))) (AP X pins σ Q) X.xe s
section
variable {X:Cx} {CX:CXT} {k:Nat} {f C:Addr} {fd:FuncData} {ps ks:List Str} {sp:Sp} {E:XK} {x m:Str} {p pos apos kpos:Pos} {e o:Expr} {es:List Expr} {kws:List Keyword} {te ta:TE} {t tk:TA} {nm:Option Str}
variable {g:List Value→List Value→List Value} {gV:List V→List V→List V}
end
structure FnScope (N P:List Str) (sc:Scope):Prop where
 kind:sc.kind=.function
 co:sc.isCoroutine=false
 gen:sc.isGenerator=false
 nd:N.Nodup
 pre:N.take P.length=P
 par:∀ x∈P,sc.names.lookup x=some .local∨sc.names.lookup x=some .cell
 nofree:∀ y∈sc.names,y.2≠.free
theorem qEl {kindOf:Str→Option NameKind} {x:Str}:∀ {binds:List (Str × Value)} {m:Str→Option Value},(∀ v,(x,v)∉binds)→bindL kindOf binds m x=m x
 | [],_,_=>rfl
 | (n,v)::r,m,h=>by
  unfold bindL
  rw [qEl fun w hw=>h w (List.mem_cons_of_mem _ hw)]
  split
  ·have:x≠n:=by rintro rfl;exact h v List.mem_cons_self
   simp [this]
  ·rfl
theorem qEn {kindOf:Str→Option NameKind} {x:Str}:∀ {binds:List (Str × Value)} {m:Str→Option Value},(∀ v,(x,v)∉binds)→bindC kindOf binds m x=m x
 | [],_,_=>rfl
 | (n,v)::r,m,h=>by
  unfold bindC
  rw [qEn fun w hw=>h w (List.mem_cons_of_mem _ hw)]
  split
  ·rfl
  ·have:x≠n:=by rintro rfl;exact h v List.mem_cons_self
   simp [this]
theorem qEm {kindOf:Str→Option NameKind} {x:Str} {v:Value}:∀ {P:List Str} {vs:List Value} {i:Nat} {m:Str→Option Value},P.Nodup→P[i]?=some x→vs[i]?=some v→kindOf x=some .local →
    bindL kindOf (P.zip vs) m x=some v
  | [],_,_,_,_,h,_,_=>by simp at h
  | _::_,[],_,_,_,_,h,_=>by simp at h
  | p::P,w::vs,0,m,nd,h1,h2,hk=>by
    simp at h1 h2;subst h1;subst h2
    show bindL kindOf ((p,w)::P.zip vs) m p=_
    unfold bindL
    rw [qEl fun v hv=>(List.nodup_cons.mp nd).1 (List.of_mem_zip hv).1,if_pos hk]
    simp
  | p::P,w::vs,i+1,m,nd,h1,h2,hk=>by
    show bindL kindOf ((p,w)::P.zip vs) m x=_
    unfold bindL
    exact qEm (i:=i) (List.nodup_cons.mp nd).2 (by simpa using h1) (by simpa using h2) hk
theorem qEo {kindOf:Str→Option NameKind} {x:Str} {v:Value}:∀ {P:List Str} {vs:List Value} {i:Nat} {m:Str→Option Value},P.Nodup→P[i]?=some x→vs[i]?=some v→kindOf x≠some .local →
    bindC kindOf (P.zip vs) m x=some v
  | [],_,_,_,_,h,_,_=>by simp at h
  | _::_,[],_,_,_,_,h,_=>by simp at h
  | p::P,w::vs,0,m,nd,h1,h2,hk=>by
    simp at h1 h2;subst h1;subst h2
    show bindC kindOf ((p,w)::P.zip vs) m p=_
    unfold bindC
    rw [qEn fun v hv=>(List.nodup_cons.mp nd).1 (List.of_mem_zip hv).1,if_neg hk]
    simp
  | p::P,w::vs,i+1,m,nd,h1,h2,hk=>by
    show bindC kindOf ((p,w)::P.zip vs) m x=_
    unfold bindC
    exact qEo (i:=i) (List.nodup_cons.mp nd).2 (by simpa using h1) (by simpa using h2) hk
noncomputable def start (N:List Str) (vs:List V):St:=vs.map some++List.replicate (N.length-vs.length) none
noncomputable def cxOf (CX:CXT) (P:Program) (w:World) (K:PySem.W.Frag) (mg:Str→Option Value) (base:Heap) (N:List Str) (qual:Str) (scope:Scope) (f:Addr) (cd:Value) (A:Around) (outer:List Env) (s:Shared) (H:Hp) (E:XK):Cx where
 prog:=P
 w:=w
 K:=K
 mg:=mg
 base:=base
 A:=A.deeper (envOfC qual scope s.heap.objs.size f cd)
 N:=N
 s₀:=s
 H₀:=H
 env:=envOfC qual scope s.heap.objs.size f cd
 outer:=outer
 stack:=envOfC qual scope s.heap.objs.size f cd::outer
 ex:=[]
 calm:=true
 fn:=fun _=>true
 pn:=[]
 xe:=fun e s'=>wpAny (model P w) (A.deeper (envOfC qual scope s.heap.objs.size f cd)) (leaving (envOfC qual scope s.heap.objs.size f cd) e) (fun _ s''=>CX outer H s E e s'') (fun e' s''=>CX outer H s E e' s'') s'
theorem qFz {sc:Scope} {n:Nat} {x:Str} (h:sc.names.lookup x=some .cell):∃ c,(cellsFrom n sc.names []).lookup x=some c:=by
 have q:=PySem.W.cellsFrom_some sc.names n [] (.inl h)
 exact Option.isSome_iff_exists.mp q
theorem qHf {CX:CXT} {P:Program} {w:World} {K:PySem.W.Frag} {mg:Str→Option Value} {base:Heap} {N ps:List Str} {qual:Str} {scope:Scope} {f:Addr} {cd:Value} {A:Around} {outer:List Env} {s s1:Shared} {H:Hp} {E:XK} {us:List Value} {vs:List V}
    (S:FnScope N ps scope) (hd:A.handled=none) (e0:Env0 P w K mg base A outer s H) (hl:vs.length=ps.length) (r:Vals vs us)
    (x:InCallC s s.heap.objs.size (bindL (envOfC qual scope s.heap.objs.size f cd).kindOf (ps.zip us) fun _=>none) (cellsFrom (s.heap.objs.size+1) scope.names []) (bindC (envOfC qual scope s.heap.objs.size f cd).kindOf (ps.zip us) fun _=>none) s1) :
    Inv (cxOf CX P w K mg base N qual scope f cd A outer s H E) [] (start N vs) H s1:=by
  have hpl:ps.length≤N.length:=by have:=congrArg List.length S.pre;rw [List.length_take] at this;omega
  obtain ⟨h1,tk,rfl,hk⟩:=x.done
  have noA:∀ b:Addr,b∉(cxOf CX P w K mg base N qual scope f cd A outer s H E).ex:=fun b z=>absurd (show b∈([]:List Addr) from z) (by simp)
  refine ⟨⟨e0.mod,S.kind,rfl,rfl,Nat.le_refl _,fun y z c h1 h2=>?_,fun y hy=>?_,fun y c _ h=>?_,fun _=>hd,Around.frames_deeper e0.frames,.inr ⟨rfl,rfl⟩,fun b z=>absurd z (noA b),e0.bs,e0.bsz,fun b _ _=>noA b,fun b z=>absurd z (noA b),e0.funs,e0.frf⟩,
    rfl,e0.bare,Un.kept hk,⟨_,x.toInCall.ns,fun i y v h1 h2 h3=>?_⟩,fun y c h=>⟨_,x.cell y c h⟩,e0.hok.fresh (Nat.le_refl _),fun y c h=>?_,fun p hp=>absurd (show p∈([]:List (Addr × Obj)) from hp) (by simp),e0.hok.kept hk,?_⟩
  · exact name_of_addr x.apart (PySem.mem_of_lookup h1) (PySem.mem_of_lookup h2)
  · have hy:scope.names.lookup y=some .cell∨scope.names.lookup y=some .free:=hy
    rcases hy with hy | hy
    · exact qFz hy
    · exact absurd rfl (S.nofree _ (PySem.mem_of_lookup hy))
  · exact Nat.le_of_lt (x.above y c (PySem.mem_of_lookup h))
  · have hi:i<vs.length:=by
      unfold start at h2
      by_cases hi:i<vs.length
      · exact hi
      · rw [List.getElem?_append_right (by simpa using hi)] at h2
        rw [List.getElem?_replicate] at h2
        split at h2 <;> cases h2
    have ha:vs[i]?=some v:=by
      unfold start at h2
      rw [List.getElem?_append_left (by simpa using hi),List.getElem?_map] at h2
      cases e:vs[i]? with
      | none=>rw [e] at h2;cases h2
      | some a=>rw [e] at h2;cases h2;rfl
    obtain ⟨u,hu,rv⟩:=r.get ha
    have hp:ps[i]?=some y:=by
      rw [← S.pre,List.getElem?_take_of_lt (by omega)];exact h1
    have ndP:ps.Nodup:=by rw [← S.pre];exact S.nd.sublist (List.take_sublist _ _)
    refine ⟨u,rv,?_⟩
    rcases S.par y (List.mem_of_getElem? hp) with k | k
    · exact .inl ⟨k,qEm ndP hp hu k⟩
    · obtain ⟨c,e⟩:=qFz (n:=s.heap.objs.size+1) k
      refine .inr ⟨.inl k,c,e,?_⟩
      have q:=x.cell y c e
      rw [qEo ndP hp hu (by show scope.names.lookup y≠_;rw [k];decide)] at q
      exact q
  · exact e0.hok.fresh (Nat.le_of_lt (x.above y c (PySem.mem_of_lookup h)))
  · unfold start
    show _=N.length
    rw [List.length_append,List.length_map,List.length_replicate]
    omega
theorem fn_of {CX:CXT} {P:Program} {w:World} {K:PySem.W.Frag} {mg:Str→Option Value} {base:Heap} {k:Nat} {f:Addr} {name qual:Str} {params:Arguments} {body:List Stmt} {scope:Scope} {dV kV doc pm cdv ct oc:Value} {an od:Option Addr}
    {osl:Array (Option Value)} {N ps:List Str} {sp:Sp} (lk:K.lookup f=some ⟨oc,od,.func (PySem.W.fnOf name qual params body scope dV kV doc pm an cdv ct),osl⟩) (hcd:PySem.W.codeIn K cdv qual=true) (S:FnScope N ps scope)
    (len:∀ vs H Q E,sp vs H Q E→vs.length=ps.length)
    (hbody:∀ (A:Around) (outer:List Env) (s:Shared) (H:Hp) (vs:List V) (Q:VK) (E:XK),Room k (A.deeper (envOfC qual scope s.heap.objs.size f cdv))→sp vs H Q E →
      ∃ t,PSs (cxOf CX P w K mg base N qual scope f cdv A outer s H E) body t∧t { nx:=fun _ H'=>Q .non H',rt:=Q } (start N vs) H) :
    FnOk P w K mg base CX (k+1) f (PySem.W.fnOf name qual params body scope dV kV doc pm an cdv ct) ps sp:=by
  refine ⟨len,fun A outer s H args us vs Q E hr e0 hb r hsp=>?_⟩
  have hl:=len _ _ _ _ hsp
  have KX:K.In s.heap:=e0.mod.kin.keeps fun b o e=>(e0.bs b o e).1
  have lim:s.heap.NoLimit:=e0.mod.nolimit.keeps fun b o e=>(e0.bs b o e).1
  have hkind:∀ y∈ps.zip us,scope.names.lookup y.1=some .local∨(scope.names.lookup y.1=some .cell∧((cellsFrom (s.heap.objs.size+1) scope.names []).lookup y.1).isSome=true):=fun ⟨n,v⟩ hy=>by
    rcases S.par n (List.of_mem_zip hy).1 with q | q
    · exact .inl q
    · exact .inr ⟨q,PySem.W.cellsFrom_some _ _ _ (.inl q)⟩
  refine codeAny_call_function hr.depth (KX _ _ lk) rfl S.co S.gen rfl (PySem.W.codeRec_of KX hcd) (hb _ _ _ _ ?_)
  refine wpAny_newFunctionEnv_cells S.kind hkind fun env he s1 x=>?_
  subst he
  refine ⟨lim.keeps x.toInCall.keep,codeAny_func ?_⟩
  obtain ⟨t,ht,hq⟩:=hbody A outer s H vs Q E (hr.deeper _) hsp
  have I:Inv (cxOf CX P w K mg base N qual scope f cdv A outer s H E) [] (start N vs) H s1:=qHf S hr.hd e0 hl r x
  refine wpAny_mono (ht [] s1 (start N vs) H _ I hq) (fun fl s' hs=>?_) fun e s' hs=>hs
  have fin:∀ {σ':St} {H':Hp} {v:V} {u:Value},Inv (cxOf CX P w K mg base N qual scope f cdv A outer s H E) [] σ' H' s'→RelV v u→Q v H'→CE outer P w H s Q u s' :=
    fun {σ' H' v u} J rv q=>⟨v,H',J.os,J.bare,J.base,J.hok,rv,q⟩
  cases fl with
  | ret u =>
    obtain ⟨v,σ',H',J,rv,q⟩:=hs
    exact fin J rv q
  | next =>
    obtain ⟨σ',H',J,q⟩:=hs
    exact fin (v:=V.non) (u:=Value.none) J rfl q
  | brk =>
    obtain ⟨_,_,_,q⟩:=hs
    exact False.elim q
  | cont =>
    obtain ⟨_,_,_,q⟩:=hs
    exact False.elim q
end L2
namespace L2
open PySem PySem.Spec PyProof.Rows
section
variable {X:Cx} {x:Str} {p pos:Pos} {e:Expr} {es:List Expr} {t:TA} {id T:String} {r:List V→Hp→VK→Prop}
noncomputable def tCB (r:List V→Hp→VK→Prop) (t:TA):TE:=fun σ H Q=>t σ H fun vs H1=>r vs H1 Q
theorem pe_callB (hc:CallR X (.builtin id) r) (hg:Gl X x) (hm:X.mg x=none) (hv:bootBuiltins x=some (.builtin id)) (ha:PA X (e::es) t) (hn:x≠"__name__":=by decide) (hdb:(x == ("__debug__":Str))=false:=by decide)
    (he:starEach (e::es) X.env=(false,eval e X.env)::starEach es X.env:=by rfl) (hpl:(backTo pos (starEach es X.env)).any (·.1)=false:=by rfl):PE X (.Call (.Name x p) (e::es) [] pos) (tCB r t):=by
  intro pins s σ H Q I h
  refine wpAny_Call_Name_kw (ld_blt I hg hm hv ?_ hn hdb)
  exact PyProof.Rows.callWith_builtin1 (thn (ha pos pins s σ H _ I h) fun us s1 ⟨vs,H1,I1,r1,q1⟩=>hc pins s1 σ H1 vs us Q I1 r1 q1) he hpl
theorem pe_callTy (hc:CallR X (.type T) r) (hg:Gl X x) (hm:X.mg x=none) (hv:bootBuiltins x=some (.type T)) (ha:PA X (e::es) t) (hn:x≠"__name__":=by decide) (hdb:(x == ("__debug__":Str))=false:=by decide)
    (he:starEach (e::es) X.env=(false,eval e X.env)::starEach es X.env:=by rfl) (hpl:(backTo pos (starEach es X.env)).any (·.1)=false:=by rfl):PE X (.Call (.Name x p) (e::es) [] pos) (tCB r t):=by
  intro pins s σ H Q I h
  refine wpAny_Call_Name_kw (ld_blt I hg hm hv ?_ hn hdb)
  exact PyProof.Rows.callWith_type1 (thn (ha pos pins s σ H _ I h) fun us s1 ⟨vs,H1,I1,r1,q1⟩=>hc pins s1 σ H1 vs us Q I1 r1 q1) he hpl
end
end L2
namespace HT
open PySem PyProof.Rows
section
open PySem.SeqAt
open PySem.AutoSeq1 (wpAny_loadPart')
open PySem.MeetsSeq PySem.MeetsSeq2 PySem.MeetsSeq3
end
section
variable {prog:Program} {w:World} {A:Around} {E:Value→Shared→Prop} {s:Shared}
theorem cat_tup {t b:Addr} {vs ws:List Value} {Q:Value→Shared→Prop} (ht:IsTup s.heap t vs.toArray) (hb:IsTup s.heap b ws.toArray) (hv:vs≠[])
    (h1:ws=[]→Q (.ref t) s) (h2:ws≠[]→Q (.ref s.heap.objs.size) { s with heap:=s.heap.push { cls:=.type "tuple",data:=.seq (vs++ws).toArray } })
    (hsz:vs.length+ws.length≤sizeLine):wpAny (model prog w) A (binaryOp .Add (.ref t) (.ref b)) Q E s:=by
  obtain ⟨⟨cls,dd,data,sl⟩,ho,hc,n,hd⟩:=id ht
  obtain ⟨⟨cls2,dd2,data2,sl2⟩,ho2,hc2,n2,hd2⟩:=id hb
  simp only at hc hd hc2 hd2
  subst hc hd hc2 hd2
  have e:vs.toArray++ws.toArray=(vs++ws).toArray:=by simp
  by_cases hw:ws=[]
  · exact concat_meets ⟨_,ho,rfl⟩ ⟨_,ho2,rfl⟩ noFill_tuple_add seq_tuple_add PySem.F.slot_tuple_add PySem.F.entry_tuple_add (PySem.F.args_tuple_add_2 _ _)
      (tuple_addW1 t b vs.toArray ws.toArray n n2 dd dd2 sl sl2 (by simpa using hv) (by simp [hw])) ⟨ho,ho2,h1 hw⟩
  · refine concat_meets ⟨_,ho,rfl⟩ ⟨_,ho2,rfl⟩ noFill_tuple_add seq_tuple_add PySem.F.slot_tuple_add PySem.F.entry_tuple_add (PySem.F.args_tuple_add_2 _ _)
      (tuple_addW2 t b vs.toArray ws.toArray n n2 dd dd2 sl sl2 (by simpa using hv) (by simpa using hw) (by rw [List.size_toArray,List.size_toArray];exact hsz)) ⟨ho,ho2,?_⟩
    rw [e]
    exact h2 hw
noncomputable def sIx (n d:Nat):Option Int→Nat
 | none=>d
 | some v=>if v<0 then (v+(n:Int)).toNat else min v.toNat n
theorem sIx_le (n d:Nat) (hd:d≤n) (o:Option Int):sIx n d o≤n:=by
 cases o with
 | none=>exact hd
 | some v =>
  show (if v<0 then (v+(n:Int)).toNat else min v.toNat n)≤n
  by_cases hv:v<0
  ·rw [if_pos hv];omega
  ·rw [if_neg hv];exact Nat.min_le_right _ _
theorem qIC (v:Int) (n d:Nat):(if v<0 then max (v+(n:Int)) 0 else min v (n:Int))=((sIx n d (some v):Nat):Int):=by
 show (if v<0 then max (v+(n:Int)) 0 else min v (n:Int))=(((if v<0 then (v+(n:Int)).toNat else min v.toNat n):Nat):Int)
 by_cases hv:v<0
 ·simp only [if_pos hv];omega
 ·simp only [if_neg hv];omega
theorem qGc (lo hi:Option Int) (n:Nat):Builtin.Slice.sliceAdjust lo hi 1 (n:Int)=(((sIx n 0 lo:Nat):Int),((sIx n n hi:Nat):Int)):=by
 have h1:¬ ((1:Int)<0):=by omega
 unfold Builtin.Slice.sliceAdjust
 simp only [h1,if_false]
 refine Prod.ext ?_ ?_
 ·cases lo with
  | none=>rfl
  | some v=>exact qIC v n 0
 ·cases hi with
  | none=>rfl
  | some v=>exact qIC v n n
theorem qF9 (i j:Nat):Builtin.Slice.slicePlaces (i:Int) (j:Int) 1=j-i:=by
 unfold Builtin.Slice.slicePlaces
 have h1:(1:Int) > 0:=by omega
 simp only [h1,if_true,Int.ediv_one]
 split <;> omega
theorem qDJ {v:Value} {o:Option Int} {Q:Option Int→Shared→Prop} (p:IsPart v o) (h:Q o s):wpAny (model prog w) A (Builtin.Slice.slicePartIndex v) Q E s:=by
 cases p with
 | none=>exact slicePart_none h
 | int i t=>exact slicePart_int h
theorem qBQ {sl:Addr} {vl vu:Value} {lo hi:Option Int} {n:Nat} {Q:Int × Int × Nat→Shared→Prop} (hs:s.heap.IsSliceOf sl vl vu .none) (pl:IsPart vl lo) (pu:IsPart vu hi)
    (h:Q (((sIx n 0 lo:Nat):Int),1,sIx n n hi-sIx n 0 lo) s):wpAny (model prog w) A (Builtin.Slice.sliceApplied (.ref sl) (pure (n:Int))) Q E s:=by
  obtain ⟨os,hos,hcs,hds⟩:=id hs
  unfold Builtin.Slice.sliceApplied Builtin.Slice.sliceFields
  refine wpAny_bind (wpAny_bind (wpAny_field hos hds (x:=vl) rfl (wpAny_bind (wpAny_field hos hds (x:=vu) rfl (wpAny_bind (wpAny_field hos hds (x:=.none) rfl (wpAny_pure ?_)))))))
  refine wpAny_bind (slicePart_none ?_)
  show wpAny _ _ (if ((1:Int) == 0)=true then _ else _) _ _ s
  rw [if_neg (by decide)]
  refine wpAny_bind (qDJ pl (wpAny_bind (qDJ pu (wpAny_bind (wpAny_pure ?_)))))
  show wpAny _ _ (match Builtin.Slice.sliceAdjust lo hi 1 (n:Int) with | (lo,hi)=>pure (lo,(1:Int),Builtin.Slice.slicePlaces lo hi 1)) _ _ s
  rw [qGc lo hi n]
  show wpAny _ _ (pure (((sIx n 0 lo:Nat):Int),(1:Int),Builtin.Slice.slicePlaces ((sIx n 0 lo:Nat):Int) ((sIx n n hi:Nat):Int) 1)) _ _ s
  rw [qF9]
  exact wpAny_pure h
theorem qIp (xs:Array Value) (i k:Nat):((List.range k).filterMap fun (m:Nat)=>xs[((i:Int)+(m:Int)*1).toNat]?).toArray=((xs.toList.drop i).take k).toArray:=by
 have e:(fun (m:Nat)=>xs[((i:Int)+(m:Int)*1).toNat]?)=fun m=>xs[i+m]?:=by
  funext m
  have:((i:Int)+(m:Int)*1).toNat=i+m:=by omega
  rw [this]
 rw [e]
 have:=pick_run xs i k
 rw [List.filterMap_map] at this
 have e2:((fun x=>xs[x]?) ∘ fun x=>i+x)=fun m=>xs[i+m]?:=rfl
 rw [e2] at this
 rw [this]
theorem getItem_tuple_cut {t sl:Addr} {items:Array Value} {vl vu:Value} {lo hi:Option Int} {Q:Value→Shared→Prop} (ht:IsTup s.heap t items) (hs:s.heap.IsSliceOf sl vl vu .none) (pl:IsPart vl lo) (pu:IsPart vu hi)
    (hw:¬ (sIx items.size 0 lo=0∧sIx items.size items.size hi=items.size))
    (h:Q (.ref s.heap.objs.size) { s with heap:=s.heap.push { cls:=.type "tuple",data:=.seq ((items.toList.drop (sIx items.size 0 lo)).take (sIx items.size items.size hi-sIx items.size 0 lo)).toArray } })
    (hsz:items.size≤sizeLine):wpAny (model prog w) A (getItem (.ref t) (.ref sl)) Q E s:=by
  have htake:sizeOk (.seq ((items.toList.drop (sIx items.size 0 lo)).take (sIx items.size items.size hi-sIx items.size 0 lo)).toArray):=by
    show ((items.toList.drop (sIx items.size 0 lo)).take (sIx items.size items.size hi-sIx items.size 0 lo)).toArray.size≤sizeLine
    rw [List.size_toArray,List.length_take,List.length_drop,Array.length_toList]
    omega
  have hj:sIx items.size items.size hi≤items.size:=sIx_le _ _ (Nat.le_refl _) hi
  obtain ⟨os,hos,hcs,hds⟩:=id hs
  have hTs:s.TypeIs (.ref sl) "slice":=⟨os,hos,hcs⟩
  unfold getItem
  try with_reducible refine wpAny_holding ?_
  first | refine wpAny_bind (wpAny_pure ?_) | skip
  refine wpAny_bind (wpAny_sequenceKey ht.typeIs (by decide) ?_)
  refine wpAny_bind (wpAny_callSpecial?_slot (name:=Str.ofString "__getitem__") ht.typeIs PyProof.Rows.slot_tuple_getitem
    (wpAny_call_entry PyProof.Rows.slot_tuple_getitem ht.typeIs entry_tuple_getitem ?_ (args_tuple_getitem _ _)))
  show wpAny _ _ (Builtin.Tuple.tupleItemsOf (.ref t) >>= _) _ _ s
  refine wpAny_bind (tupleItemsOf_ ht ?_)
  refine wpAny_bind (wpAny_typeOf hTs ?_)
  rw [if_pos (by decide)]
  refine wpAny_bind (qBQ hs pl pu ?_)
  have hno:¬ ((((sIx items.size 0 lo:Nat):Int) == 0&&(1:Int) == 1&&(sIx items.size items.size hi-sIx items.size 0 lo) == items.size)=true):=by
    intro q
    rw [Bool.and_eq_true,Bool.and_eq_true] at q
    have q1:((sIx items.size 0 lo:Nat):Int)=0:=eq_of_beq q.1.1
    have q2:sIx items.size items.size hi-sIx items.size 0 lo=items.size:=eq_of_beq q.2
    exact hw ⟨by omega,by omega⟩
  show wpAny _ _ (if (((sIx items.size 0 lo:Nat):Int) == 0&&(1:Int) == 1&&(sIx items.size items.size hi-sIx items.size 0 lo) == items.size)=true then _ else _) _ _ s
  rw [if_neg hno,qIp]
  first
    | exact wpAny_bind (m:=Builtin.Tuple.tupleExact _) (wpAny_newObj_type (wpAny_pure ⟨_,rfl,wpAny_pure h⟩) htake)
    | exact wpAny_bind (m:=Builtin.Tuple.tupleExact _) (wpAny_newObj_type (wpAny_bind (wpAny_pure (wpAny_pure ⟨_,rfl,wpAny_pure h⟩))) htake)
    | exact wpAny_bind (wpAny_bind (m:=Builtin.Tuple.tupleExact _) (wpAny_newObj_type (wpAny_pure (wpAny_pure ⟨_,rfl,wpAny_pure h⟩)) htake))
    | exact wpAny_bind (wpAny_bind (m:=Builtin.Tuple.tupleExact _) (wpAny_newObj_type (wpAny_pure ⟨_,rfl,wpAny_pure h⟩) htake))
end
end HT
namespace L2
open PySem PySem.Spec PyProof.Rows
noncomputable abbrev TO:=St→Hp→(Option Int→Hp→Prop)→Prop
noncomputable def PO (X:Cx) (e:Option Expr) (t:TO):Prop :=
 ∀ (pins:List (Addr × Obj)) (s:Shared) (σ:St) (H:Hp) (Q:Option Int→Hp→Prop),Inv X pins σ H s→t σ H Q →
  wpAny (model X.prog X.w) X.A (evalPart e X.env) (fun u s'=>∃ o H',Inv X pins σ H' s'∧IsPart u o∧Q o H') X.xe s
noncomputable def qKT:TO:=fun _ H Q=>Q none H
noncomputable def tPart (t:TE):TO:=fun σ H Q=>t σ H fun x H1=>∃ i,x=.int i∧Q (some i) H1
theorem intsAre_of {ns:List Int}:∀ {us:List Value},Vals (ns.map V.int) us→IntsAre us ns:=by
 induction ns with
 | nil=>intro us r;rw [List.map_nil] at r;cases r;exact .nil
 | cons n ns ih =>
  intro us r
  rw [List.map_cons] at r
  cases r with
  | cons r1 r2 =>
   obtain ⟨t,e⟩:=r1
   subst e
   exact .cons n t (ih r2)
section
variable {X:Cx} {e:Expr} {te:TE} {lo hi:Option Expr} {tl th:TO} {pos p2:Pos}
theorem po_none:PO X none qKT:=by
 intro pins s σ H Q I h
 rw [evalPart_none]
 exact wpAny_pure ⟨none,H,I,.none,h⟩
theorem po_some (h:PE X e te):PO X (some e) (tPart te):=by
 intro pins s σ H Q I hw
 rw [evalPart_some]
 refine thn (h pins s σ H _ I hw) fun u s1 ⟨x,H1,I1,r1,q1⟩=>?_
 obtain ⟨i,rfl,q⟩:=q1
 obtain ⟨t,rfl⟩:=r1
 exact ⟨some i,H1,I1,.int i t,q⟩
noncomputable def SlR (X:Cx) (r:V→Option Int→Option Int→Hp→VK→Prop):Prop :=
 ∀ (pins:List (Addr × Obj)) (s:Shared) (σ:St) (H:Hp) (x:V) (v vl vu:Value) (lo hi:Option Int) (sl:Addr) (Q:VK),Inv X pins σ H s→RelV x v→s.heap.IsSliceOf sl vl vu .none→IsPart vl lo→IsPart vu hi→r x lo hi H Q →
  ∃ T id,typeLookup (.type T) "__getitem__"=pure (some (.builtin id))∧s.TypeIs v T∧wpAny (model X.prog X.w) X.A (getItem v (.ref sl)) (EP X pins σ Q) X.xe s
theorem SlR.or {r r':V→Option Int→Option Int→Hp→VK→Prop} (h:SlR X r) (h':SlR X r'):SlR X (fun x lo hi H Q=>r x lo hi H Q∨r' x lo hi H Q):=by
 intro pins s σ H x v vl vu lo hi sl Q I rx hs pl pu q
 rcases q with q | q
 ·exact h pins s σ H x v vl vu lo hi sl Q I rx hs pl pu q
 ·exact h' pins s σ H x v vl vu lo hi sl Q I rx hs pl pu q
noncomputable def tSl (r:V→Option Int→Option Int→Hp→VK→Prop) (te:TE) (tl th:TO):TE:=fun σ H Q=>te σ H fun x H1=>tl σ H1 fun l H2=>th σ H2 fun u H3=>r x l u H3 Q
theorem pe_slice {r:V→Option Int→Option Int→Hp→VK→Prop} (hr:SlR X r) (he:PE X e te) (hl:PO X lo tl) (hu:PO X hi th):PE X (.Subscript e (.Slice lo hi none p2) pos) (tSl r te tl th):=by
 intro pins s σ H Q I h
 refine Subscript_ (thn (he pins s σ H _ I h) fun v s1 ⟨x,H1,I1,r1,q1⟩=>?_)
 refine wpAny_Slice (thn (hl pins s1 σ H1 _ I1 q1) fun vl s2 ⟨l,H2,I2,pl,q2⟩=>thn (hu pins s2 σ H2 _ I2 q2) fun vu s3 ⟨u,H3,I3,pu,q3⟩=>?_)
 rw [evalPart_none]
 refine wpAny_pure ?_
 have I4:Inv X pins σ H3 { s3 with heap:=s3.heap.push { cls:=.type "slice",data:=.fields #[vl,vu,.none] } }:=I3.kept (t':=s3.toks) fun b ob q=>Heap.get?_push_of_some _ q
 obtain ⟨T,id,hT,ht,hg⟩:=hr pins { s3 with heap:=s3.heap.push { cls:=.type "slice",data:=.fields #[vl,vu,.none] } } σ H3 x v vl vu l u s3.heap.objs.size Q I4 r1 (Heap.IsSliceOf.new ..) pl pu q3
 show wpAny (model X.prog X.w) X.A (subscriptTail e (.Slice lo hi none p2) v (.ref s3.heap.objs.size)) (EP X pins σ Q) X.xe { s3 with heap:=s3.heap.push { cls:=.type "slice",data:=.fields #[vl,vu,.none] } }
 exact tail_any (ops:=[.ref s3.heap.objs.size,v]) ht hT hg (by with_unfolding_all rfl)
noncomputable def cutV (xs:List V) (lo hi:Option Int):List V:=(xs.drop (HT.sIx xs.length 0 lo)).take (HT.sIx xs.length xs.length hi-HT.sIx xs.length 0 lo)
theorem qCr (xs:List V) (lo hi:Option Int):(cutV xs lo hi).length≤xs.length:=by
 unfold cutV
 rw [List.length_take,List.length_drop]
 omega
noncomputable def rSlT (K:PySem.W.Frag):V→Option Int→Option Int→Hp→VK→Prop:=fun x lo hi H Q=>∃ a xs,x=.ref a∧SqT K H a xs ∧
 ¬ (HT.sIx xs.length 0 lo=0∧HT.sIx xs.length xs.length hi=xs.length)∧∀ p,H p=none→Q (.ref p) (upd H p (.tup (cutV xs lo hi)))
theorem sl_tup:SlR X (rSlT X.K):=by
 intro pins s σ H x v vl vu lo hi sl Q I rx hs pl pu h
 obtain ⟨a,xs,rfl,hx,hw,q⟩:=h
 cases rx
 obtain ⟨its,r,ht,hz⟩:=I.tuple hx
 have hlen:its.toArray.size=xs.length:=by rw [List.size_toArray];exact r.length.symm
 refine ⟨"tuple",_,PyProof.Rows.slot_tuple_getitem.lookup,ht.typeIs,?_⟩
 refine HT.getItem_tuple_cut ht hs pl pu (by rw [hlen];exact hw) ?_ (by rw [hlen];exact hz)
 rw [hlen]
 refine ⟨.ref s.heap.objs.size,_,I.laid (t':=s.toks) (o:=.tup (cutV xs lo hi)) (fun b ob q=>Heap.get?_push_of_some _ q) (Nat.le_refl _) ?_,rfl,q _ (I.hok.fresh (Nat.le_refl _))⟩
 exact ⟨Nat.le_trans (qCr xs lo hi) hz,_,(r.drop (HT.sIx xs.length 0 lo)).take (HT.sIx xs.length xs.length hi-HT.sIx xs.length 0 lo),IsTup.new _ _⟩
noncomputable def rCatT (K:PySem.W.Frag):R2:=fun x y H Q=>∃ a b xs ys,x=.ref a∧y=.ref b∧SqT K H a xs∧SqT K H b ys∧xs≠[]∧xs.length+ys.length≤sizeLine ∧
 (ys=[]→Q (.ref a) H)∧(ys≠[]→∀ p,H p=none→Q (.ref p) (upd H p (.tup (xs++ys))))
theorem Vals.nil_iff {xs:List V} {us:List Value} (r:Vals xs us):us=[]↔xs=[]:=by
 cases r with
 | nil=>simp
 | cons _ _=>simp
theorem op_catT:OpR X (binaryOp .Add) (rCatT X.K):=by
 intro pins s σ H x y v u Q I rx ry h
 obtain ⟨a,b,xs,ys,rfl,rfl,ha,hb,hx,hz,q1,q2⟩:=h
 cases rx
 cases ry
 obtain ⟨its,r1,p1,_⟩:=I.tuple ha
 obtain ⟨its2,r2,p2,_⟩:=I.tuple hb
 refine HT.cat_tup p1 p2 (fun z=>hx (r1.nil_iff.mp z)) (fun z=>⟨.ref a,H,I,rfl,q1 (r2.nil_iff.mp z)⟩) (fun z=>?_) (by rw [← r1.length,← r2.length];exact hz)
 refine ⟨.ref s.heap.objs.size,_,I.laid (t':=s.toks) (o:=.tup (xs++ys)) (fun b ob q=>Heap.get?_push_of_some _ q) (Nat.le_refl _) ?_,rfl,q2 (fun w=>z (r2.nil_iff.mpr w)) _ (I.hok.fresh (Nat.le_refl _))⟩
 exact ⟨by rw [List.length_append];exact hz,_,r1.append r2,IsTup.new _ _⟩
end
end L2
namespace L2
open PySem PySem.Spec PyProof.Rows
noncomputable def ixN (n:Nat) (i:Int):Option Nat:=if 0≤i then (if i<n then some i.toNat else none) else if -(n:Int)≤i then some (i+n).toNat else none
noncomputable def atI {α:Type} (xs:List α) (i:Int):Option α:=(ixN xs.length i).bind fun j=>xs[j]?
theorem ixN_seq {n:Nat} {i:Int} {j:Nat} (h:ixN n i=some j):seqIndex? i n=some j∧j<n∧-(n:Int)≤i∧i<n:=by
 unfold ixN at h
 by_cases h0:0≤i
 ·rw [if_pos h0] at h
  by_cases h1:i<n
  ·rw [if_pos h1] at h
   have e:i.toNat=j:=Option.some.inj h
   exact ⟨by rw [seqIndex_of h0 h1,e],by omega,by omega,h1⟩
  ·rw [if_neg h1] at h;cases h
 ·rw [if_neg h0] at h
  by_cases h1:-(n:Int)≤i
  ·rw [if_pos h1] at h
   have e:(i+n).toNat=j:=Option.some.inj h
   exact ⟨by rw [seqIndex_neg (by omega) h1,e],by omega,h1,by omega⟩
  ·rw [if_neg h1] at h;cases h
theorem qFX {α:Type} {xs:List α} {i:Int} {v:α} (h:atI xs i=some v):∃ j,seqIndex? i xs.length=some j∧xs[j]?=some v∧j<xs.length∧-(xs.length:Int)≤i∧i<xs.length:=by
 unfold atI at h
 cases e:ixN xs.length i with
 | none=>rw [e] at h;cases h
 | some j =>
  rw [e] at h
  obtain ⟨h1,h2,h3,h4⟩:=ixN_seq e
  exact ⟨j,h1,h,h2,h3,h4⟩
noncomputable def PlainIx (b:Expr):Prop:=∀ o i,subscripted b false o i=operate [o,i] (getItem o i)
noncomputable def IxR (X:Cx) (r:R2):Prop :=
 ∀ (value slice:Expr) (pins:List (Addr × Obj)) (s:Shared) (σ:St) (H:Hp) (x y:V) (v u:Value) (Q:VK),Inv X pins σ H s→RelV x v→RelV y u→r x y H Q →
  subscripted slice false v u=operate [v,u] (getItem v u)→wpAny (model X.prog X.w) X.A (subscriptTail value slice v u) (EP X pins σ Q) X.xe s
noncomputable def MtR (X:Cx) (id:String) (r:V→List V→Hp→VK→Prop):Prop :=
 ∀ (pins:List (Addr × Obj)) (s:Shared) (σ:St) (H:Hp) (x:V) (xs:List V) (v:Value) (us:List Value) (Q:VK),Inv X pins σ H s→RelV x v→Vals xs us→r x xs H Q →
  wpAny (model X.prog X.w) X.A (call (.builtin id) (v::us)) (EP X pins σ Q) X.xe s
section
variable {X:Cx} {a b:Expr} {ta tb:TE} {pos:Pos}
theorem IxR.or {r r':R2} (h:IxR X r) (h':IxR X r'):IxR X (fun x y H Q=>r x y H Q∨r' x y H Q):=by
 intro value slice pins s σ H x y v u Q I rx ry q hs
 rcases q with q | q
 ·exact h value slice pins s σ H x y v u Q I rx ry q hs
 ·exact h' value slice pins s σ H x y v u Q I rx ry q hs
theorem MtR.or {id:String} {r r':V→List V→Hp→VK→Prop} (h:MtR X id r) (h':MtR X id r'):MtR X id (fun x xs H Q=>r x xs H Q∨r' x xs H Q):=by
 intro pins s σ H x xs v us Q I rx rs q
 rcases q with q | q
 ·exact h pins s σ H x xs v us Q I rx rs q
 ·exact h' pins s σ H x xs v us Q I rx rs q
theorem pe_ix {r:R2} (hr:IxR X r) (ha:PE X a ta) (hb:PE X b tb) (hs:PlainIx b):PE X (.Subscript a b pos) (tOp r ta tb):=by
 intro pins s σ H Q I h
 exact Subscript_ (binT ha hb I h fun v u s2 x y H2 I2 rx ry q=>hr a b pins s2 σ H2 x y v u Q I2 rx ry q (hs _ _))
noncomputable def rIxL (K:PySem.W.Frag):R2:=fun x y H Q=>∃ p xs i v,x=.ref p∧y=.int i∧SqL K H p xs∧atI xs i=some v∧Q v H
noncomputable def rIxT (K:PySem.W.Frag):R2:=fun x y H Q=>∃ p xs i v,x=.ref p∧y=.int i∧SqT K H p xs∧atI xs i=some v∧Q v H
noncomputable def rIxS:R2:=fun x y H Q=>∃ z i c,x=.str z∧y=.int i∧z.length≤sizeLine∧atI z.cps.toList i=some c∧Q (.str ⟨#[c]⟩) H
theorem ix_list:IxR X (rIxL X.K):=by
 intro value slice pins s σ H x y v u Q I rx ry h hs
 obtain ⟨p,xs,i,z,rfl,rfl,hq,he,q⟩:=h
 cases rx
 obtain ⟨t,rfl⟩:=ry
 obtain ⟨its,r,pl,hz⟩:=I.list hq
 obtain ⟨j,h1,h2,h3,h4,h5⟩:=qFX he
 obtain ⟨w,ew,rw'⟩:=r.get h2
 have hl:=r.length
 have hn:=qDO
 have fin:EP X pins σ Q w s:=⟨z,H,I,rw',q⟩
 by_cases h0:0≤i
 ·have hj:i.toNat=j:=by
   rw [seqIndex_of h0 h5] at h1
   exact Option.some.inj h1
  exact item_listR pl.isList h0 (by omega) (by rw [hj];simpa using ew) fin hs
 ·have hj:(i+(its.toArray.size:Int)).toNat=j:=by
   rw [seqIndex_neg (by omega) h4] at h1
   rw [List.size_toArray,← hl]
   exact Option.some.inj h1
  exact subscriptTail_builtinR (x:=w) pl.isList.typeIs slot_list_getitem.lookup
   (wpAny_getItem_list_neg (Q:=fun r s'=>r=w∧EP X pins σ Q r s') pl.isList (by omega) (by rw [List.size_toArray] <;> omega) (by omega) (by rw [hj];simpa using ew) ⟨rfl,fin⟩) hs
theorem ix_tup:IxR X (rIxT X.K):=by
 intro value slice pins s σ H x y v u Q I rx ry h hs
 obtain ⟨p,xs,i,z,rfl,rfl,hq,he,q⟩:=h
 cases rx
 obtain ⟨t,rfl⟩:=ry
 obtain ⟨its,r,pl,hz⟩:=I.tuple hq
 obtain ⟨j,h1,h2,h3,h4,h5⟩:=qFX he
 obtain ⟨w,ew,rw'⟩:=r.get h2
 have hl:=r.length
 have hn:=qDO
 have fin:EP X pins σ Q w s:=⟨z,H,I,rw',q⟩
 exact subscriptTail_builtinR (x:=w) pl.typeIs slot_tuple_getitem.lookup
  (getItem_tuple (j:=j) (Q:=fun r s'=>r=w∧EP X pins σ Q r s') pl (by omega) (by omega) (by rw [List.size_toArray,← hl];exact h1) (by simpa using ew) ⟨rfl,fin⟩) hs
theorem ix_str:IxR X rIxS:=by
 intro value slice pins s σ H x y v u Q I rx ry h hs
 obtain ⟨z,i,c,rfl,rfl,hz,he,q⟩:=h
 obtain ⟨t,rfl⟩:=rx
 obtain ⟨t',rfl⟩:=ry
 obtain ⟨j,h1,h2,h3,h4,h5⟩:=qFX he
 have hl:z.cps.toList.length=z.length:=by simp [Str.length]
 rw [hl] at h1 h4 h5
 have hn:=qDO
 exact tail_any (typeIs_str s z t) slot_str_getitem.lookup (getItem_str (c:=c) (by
  have e1:decide (i < -(2 ^ 63:Int))=false:=decide_eq_false (by omega)
  have e2:decide (i ≥ 2 ^ 63)=false:=decide_eq_false (by omega)
  rw [e1,e2,Bool.or_false]) (by rw [h1];simpa using h2) ⟨.str ⟨#[c]⟩,H,I.tok _,⟨_,rfl⟩,q⟩) hs
theorem qGF (its:List Value) (n j:Nat) (u:Value):Obj.mapSeq (·.setIfInBounds j u) { cls:=.type "list",data:=.seq its.toArray n }={ cls:=.type "list",data:=.seq (its.set j u).toArray n }:=by
 simp [Obj.mapSeq]
theorem Inv.lst {pins:List (Addr × Obj)} {σ:St} {H:Hp} {s:Shared} {p:Addr} {xs:List V} (I:Inv X pins σ H s) (h:H p=some (.lst xs)) :
    ∃ (its:List Value) (n:Nat),Vals xs its∧s.heap.get? p=some { cls:=.type "list",data:=.seq its.toArray n }∧xs.length≤sizeLine:=by
  obtain ⟨z,its,n,r,e⟩:=I.hok p _ h
  exact ⟨its,n,r,e,z⟩
theorem Inv.lstUpd {pins:List (Addr × Obj)} {σ:St} {H:Hp} {s:Shared} {p:Addr} {xs ys:List V} {its its':List Value} {n n':Nat} {f:Obj→Obj} (I:Inv X pins σ H s) (h:H p=some (.lst xs))
    (ho:s.heap.get? p=some { cls:=.type "list",data:=.seq its.toArray n }) (hf:f { cls:=.type "list",data:=.seq its.toArray n }={ cls:=.type "list",data:=.seq its'.toArray n' }) (r:Vals ys its') (hz:ys.length≤sizeLine) (t:Nat) :
    Inv X pins σ (upd H p (.lst ys)) { s with heap:=s.heap.update p f,toks:=t }:=by
  have e:(s.heap.update p f).get? p=some { cls:=.type "list",data:=.seq its'.toArray n' }:=by
    rw [Heap.get?_update_self f ho (by rw [hf] <;> rfl),hf]
  refine I.write (x:=p) (e:=p) (by rw [h];trivial) (.inl rfl) (fun b u hb q=>(Heap.get?_update_other _ _ (Ne.symm hb)).trans q) ⟨_,e⟩ ?_
  exact ⟨hz,its',n',r,e⟩
noncomputable def rSetL:V→V→V→Hp→(Hp→Prop)→Prop:=fun o i v H Q=>∃ p xs k j,o=.ref p∧i=.int k∧H p=some (.lst xs)∧ixN xs.length k=some j∧Q (upd H p (.lst (xs.set j v)))
theorem set_list:PSet X rSetL:=by
 intro pins s σ H o i v ov iv u Q I ro ri rv h
 obtain ⟨p,xs,k,j,rfl,rfl,hp,hj,q⟩:=h
 cases ro
 obtain ⟨t,rfl⟩:=ri
 obtain ⟨its,n,r,ho,hz⟩:=I.lst hp
 obtain ⟨h1,h2,h3,h4⟩:=ixN_seq hj
 have hl:=r.length
 have hn:=qDO
 have I':Inv X pins σ (upd H p (.lst (xs.set j v))) { s with heap:=s.heap.update p (Obj.mapSeq (·.setIfInBounds j u)) } :=
  I.lstUpd hp ho (qGF its n j u) (r.set rv j) (by rw [List.length_set];exact hz) s.toks
 by_cases h0:0≤k
 ·have hk:k.toNat=j:=by
   rw [seqIndex_of h0 h4] at h1
   exact Option.some.inj h1
  exact PySem.W.ki_setAt ho h0 (by omega) (by rw [List.size_toArray,← hl];exact h4) (by rw [hk];exact ⟨_,I',q⟩)
 ·have hk:(k+(its.toArray.size:Int)).toNat=j:=by
   rw [seqIndex_neg (by omega) h3] at h1
   rw [List.size_toArray,← hl]
   exact Option.some.inj h1
  exact PySem.W.ki_setBack ho (by omega) (by rw [List.size_toArray,← hl];exact h3) (by omega) (by rw [hk];exact ⟨_,I',q⟩)
theorem qED (lo hi:Option Int) (n:Nat):(sliceBounds lo hi none n).1=((HT.sIx n 0 lo:Nat):Int)∧(sliceBounds lo hi none n).2.1=((HT.sIx n n hi:Nat):Int)∧(sliceBounds lo hi none n).2.2=1:=by
 refine ⟨?_,?_,rfl⟩
 ·cases lo with
  | none=>simp [sliceBounds,HT.sIx]
  | some i =>
   simp only [sliceBounds,HT.sIx,Option.getD_none,show (1:Int) > 0 by decide,if_true]
   by_cases h:i<0
   ·simp only [h,if_true] <;> omega
   ·simp only [h,if_false] <;> omega
 ·cases hi with
  | none=>simp [sliceBounds,HT.sIx]
  | some i =>
   simp only [sliceBounds,HT.sIx,Option.getD_none,show (1:Int) > 0 by decide,if_true]
   by_cases h:i<0
   ·simp only [h,if_true] <;> omega
   ·simp only [h,if_false] <;> omega
theorem qDY (its:List Value) (lo hi:Option Int):slicePick its.toArray lo hi none=((its.drop (HT.sIx its.length 0 lo)).take (HT.sIx its.length its.length hi-HT.sIx its.length 0 lo)).toArray:=by
 obtain ⟨h1,h2,h3⟩:=qED lo hi its.toArray.size
 unfold slicePick
 rw [h1,h2,h3]
 simp only [sliceRange_one,pick_run,List.size_toArray] <;> rfl
noncomputable def rSlL (K:PySem.W.Frag):V→Option Int→Option Int→Hp→VK→Prop:=fun x lo hi H Q=>∃ a xs,x=.ref a∧SqL K H a xs∧∀ p,H p=none→Q (.ref p) (upd H p (.lst (cutV xs lo hi)))
theorem sl_list:SlR X (rSlL X.K):=by
 intro pins s σ H x v vl vu lo hi sl Q I rx hs pl pu h
 obtain ⟨a,xs,rfl,hx,q⟩:=h
 cases rx
 obtain ⟨its,r,ht,hz⟩:=I.list hx
 have hlen:=r.length
 refine ⟨"list",_,slot_list_getitem.lookup,ht.isList.typeIs,?_⟩
 refine wpAny_getItem_list_slice ht.isList hs pl pu .none (by simp) ?_ (by rw [List.size_toArray] <;> omega)
 rw [qDY,← hlen]
 refine ⟨.ref s.heap.objs.size,_,I.laid (t':=s.toks) (o:=.lst (cutV xs lo hi)) (fun b ob q=>Heap.get?_push_of_some _ q) (Nat.le_refl _) ?_,rfl,q _ (I.hok.fresh (Nat.le_refl _))⟩
 exact ⟨Nat.le_trans (qCr xs lo hi) hz,_,0,(r.drop (HT.sIx xs.length 0 lo)).take (HT.sIx xs.length xs.length hi-HT.sIx xs.length 0 lo),Heap.get?_push_size _ rfl⟩
noncomputable def flatV:V→Bool
 | .non=>true
 | .bl _=>true
 | .int _=>true
 | .str _=>true
 | _=>false
noncomputable def eqV:V→V→Bool
 | .non,.non=>true
 | .bl a,.bl b=>a == b
 | .bl a,.int b=>(if a then 1 else 0) == b
 | .int a,.bl b=>a == (if b then 1 else 0)
 | .int a,.int b=>a == b
 | .str a,.str b=>a == b
 | _,_=>false
theorem qNj {A:Around} {s:Shared} {y x:V} {u v:Value} (ry:RelV y u) (rx:RelV x v) (fy:flatV y=true) (fx:flatV x=true):SeqAt.EqAt A s u v (eqV y x):=by
 cases y with
 | non =>
  cases ry
  cases x with
  | non=>cases rx;exact SeqAt.EqAt.same _
  | bl b=>cases rx;exact SeqAt.EqAt.none_bool b
  | int b=>obtain ⟨t,rfl⟩:=rx;exact SeqAt.EqAt.none_int b t
  | str b=>obtain ⟨t,rfl⟩:=rx;exact SeqAt.EqAt.none_str b t
  | _=>exact absurd (show false=true from fx) Bool.false_ne_true
 | bl a =>
  cases ry
  cases x with
  | non=>cases rx;exact SeqAt.EqAt.bool_none a
  | bl b=>cases rx;exact SeqAt.EqAt.bool_bool a b
  | int b=>obtain ⟨t,rfl⟩:=rx;exact SeqAt.EqAt.bool_int a b t
  | str b=>obtain ⟨t,rfl⟩:=rx;exact SeqAt.EqAt.bool_str a b t
  | _=>exact absurd (show false=true from fx) Bool.false_ne_true
 | int a =>
  obtain ⟨t',rfl⟩:=ry
  cases x with
  | non=>cases rx;exact SeqAt.EqAt.int_none a t'
  | bl b=>cases rx;exact SeqAt.EqAt.int_bool a t' b
  | int b=>obtain ⟨t,rfl⟩:=rx;exact SeqAt.EqAt.int_int a t' b t
  | str b=>obtain ⟨t,rfl⟩:=rx;exact SeqAt.EqAt.int_str a t' b t
  | _=>exact absurd (show false=true from fx) Bool.false_ne_true
 | str a =>
  obtain ⟨t',rfl⟩:=ry
  cases x with
  | non=>cases rx;exact SeqAt.EqAt.str_none a t'
  | bl b=>cases rx;exact SeqAt.EqAt.str_bool a t' b
  | int b=>obtain ⟨t,rfl⟩:=rx;exact SeqAt.EqAt.str_int a t' b t
  | str b=>obtain ⟨t,rfl⟩:=rx;exact SeqAt.EqAt.str_str a t' b t
  | _=>exact absurd (show false=true from fx) Bool.false_ne_true
 | _=>exact absurd (show false=true from fy) Bool.false_ne_true
noncomputable def eqU (x:V) (u:Value):Bool:=match u with
 | .none=>eqV .non x
 | .bool b=>eqV (.bl b) x
 | .int i _=>eqV (.int i) x
 | .str z _=>eqV (.str z) x
 | _=>false
theorem qJ6 {x y:V} {u:Value} (r:RelV y u) (f:flatV y=true):eqU x u=eqV y x:=by
 cases y with
 | non=>cases r;rfl
 | bl b=>cases r;rfl
 | int i=>obtain ⟨t,rfl⟩:=r;rfl
 | str z=>obtain ⟨t,rfl⟩:=r;rfl
 | _=>exact absurd (show false=true from f) Bool.false_ne_true
theorem qC2 {x:V}:∀ {xs:List V} {us:List Value},Vals xs us→xs.all flatV=true→us.any (eqU x)=xs.any fun y=>eqV y x
 | _,_,.nil,_=>rfl
 | y::xs,u::us,.cons r t,f=>by
  rw [List.all_cons,Bool.and_eq_true] at f
  rw [List.any_cons,List.any_cons,qJ6 r f.1,qC2 t f.2]
theorem qBs {A:Around} {s:Shared} {x:V} {v:Value} (rx:RelV x v) (fx:flatV x=true):∀ {xs:List V} {us:List Value},Vals xs us→xs.all flatV=true→∀ u∈us,SeqAt.EqAt A s u v (eqU x u)
 | _,_,.nil,_=>fun u hu=>by cases hu
 | y::xs,u::us,.cons r t,f=>fun u' hu=>by
  rw [List.all_cons,Bool.and_eq_true] at f
  rcases List.mem_cons.mp hu with rfl | hu
  ·rw [qJ6 r f.1];exact qNj r rx f.1 fx
  ·exact qBs rx fx t f.2 u' hu
noncomputable def inV (x:V) (xs:List V):Bool:=xs.any fun y=>eqV y x
noncomputable def rIn (K:PySem.W.Frag) (neg:Bool):R2:=fun x y H Q=>∃ p xs,y=.ref p∧(SqL K H p xs∨SqT K H p xs)∧flatV x=true∧xs.all flatV=true∧Q (.bl (if neg then !inV x xs else inV x xs)) H
theorem op_in_seq:OpR X (compareOp .In) (rIn X.K false):=by
 intro pins s σ H x y v u Q I rx ry h
 obtain ⟨p,xs,rfl,hq,fx,fs,q⟩:=h
 cases ry
 rcases hq with hq | hq
 ·obtain ⟨its,r,pl,hz⟩:=I.list hq
  refine SeqAt.in_listAt (eqU x) pl.isList (fun w hw=>qBs rx fx r fs w (by simpa using hw)) ⟨.bl _,H,I,rfl,?_⟩
  rw [show its.toArray.any (eqU x)=its.any (eqU x) by simp,qC2 r fs]
  exact q
 ·obtain ⟨its,r,pl,hz⟩:=I.tuple hq
  refine SeqAt.in_tupleAt (eqU x) pl (fun w hw=>qBs rx fx r fs w (by simpa using hw)) ⟨.bl _,H,I,rfl,?_⟩
  rw [show its.toArray.any (eqU x)=its.any (eqU x) by simp,qC2 r fs]
  exact q
theorem op_notIn_seq:OpR X (compareOp .NotIn) (rIn X.K true):=by
 intro pins s σ H x y v u Q I rx ry h
 obtain ⟨p,xs,rfl,hq,fx,fs,q⟩:=h
 cases ry
 rcases hq with hq | hq
 ·obtain ⟨its,r,pl,hz⟩:=I.list hq
  refine SeqAt.notIn_listAt (eqU x) pl.isList (fun w hw=>qBs rx fx r fs w (by simpa using hw)) ⟨.bl _,H,I,rfl,?_⟩
  rw [show its.toArray.any (eqU x)=its.any (eqU x) by simp,qC2 r fs]
  exact q
 ·obtain ⟨its,r,pl,hz⟩:=I.tuple hq
  refine SeqAt.notIn_tupleAt (eqU x) pl (fun w hw=>qBs rx fx r fs w (by simpa using hw)) ⟨.bl _,H,I,rfl,?_⟩
  rw [show its.toArray.any (eqU x)=its.any (eqU x) by simp,qC2 r fs]
  exact q
theorem CallR.or {f:Value} {r r':List V→Hp→VK→Prop} (h:CallR X f r) (h':CallR X f r'):CallR X f (fun xs H Q=>r xs H Q∨r' xs H Q):=by
 intro pins s σ H xs us Q I rs q
 rcases q with q | q
 ·exact h pins s σ H xs us Q I rs q
 ·exact h' pins s σ H xs us Q I rs q
noncomputable def tyV (K:PySem.W.Frag) (T:String) (x:V) (H:Hp):Prop:=match x with
  | .str _=>T="str"
  | .int _=>T="int"
  | .ref p=>(T="list"∧∃ xs,SqL K H p xs)∨(T="tuple"∧∃ o,K.lookup p=some o∧o.cls=.type "tuple"∧o.dict=none) ∨
      (T="dict"∧((∃ kvs,H p=some (.dK kvs))∨∃ kvs,H p=some (.dT kvs)))∨(T="set"∧∃ S n,H p=some (.set S n))
  | _=>False
theorem qMP {pins:List (Addr × Obj)} {σ:St} {H:Hp} {s:Shared} {T:String} {x:V} {v:Value} (I:Inv X pins σ H s) (r:RelV x v) (ty:tyV X.K T x H) :
    s.TypeIs v T∧∀ a,v=.ref a→∃ ob,s.heap.get? a=some ob∧ob.dict=none:=by
  cases x with
  | str z =>
    obtain ⟨t,rfl⟩:=r
    cases (show T="str" from ty)
    exact ⟨typeIs_str s z t,fun _ e=>nomatch e⟩
  | int i =>
    obtain ⟨t,rfl⟩:=r
    cases (show T="int" from ty)
    exact ⟨typeIs_int s i t,fun _ e=>nomatch e⟩
  | ref p =>
    cases r
    rcases ty with ⟨rfl,xs,hq⟩ | ⟨rfl,o,hk,hc,hd⟩ | ⟨rfl,hk⟩ | ⟨rfl,S,n,hk⟩
    · obtain ⟨its,_,pl,_⟩:=I.list hq
      refine ⟨pl.isList.typeIs,fun a e=>?_⟩
      cases e
      obtain ⟨o,n,e,c,hd,_⟩:=pl
      exact ⟨o,e,hd⟩
    · refine ⟨⟨o,I.kIn p o hk,hc⟩,fun a e=>?_⟩
      cases e
      exact ⟨o,I.kIn _ o hk,hd⟩
    · have z:∃ o,s.heap.get? p=some o∧o.ExactDict:=by
        rcases hk with ⟨kvs,hk⟩ | ⟨kvs,hk⟩
        · obtain ⟨_,_,_,_,o,_,_,e,ex,_⟩:=I.hok p _ hk
          exact ⟨o,e,ex⟩
        · obtain ⟨_,_,_,_,o,_,_,e,ex,_⟩:=I.hok p _ hk
          exact ⟨o,e,ex⟩
      obtain ⟨o,e,ex⟩:=z
      refine ⟨⟨o,e,ex.1⟩,fun a e2=>?_⟩
      cases e2
      exact ⟨o,e,ex.2.1⟩
    · obtain ⟨o,_,_,_,e,ex,_⟩:=I.hok p _ hk
      refine ⟨⟨o,e,ex.1⟩,fun a e2=>?_⟩
      cases e2
      exact ⟨o,e,ex.2.1⟩
  | _=>exact False.elim ty
noncomputable def tBM (K:PySem.W.Frag) (T:String) (r:V→List V→Hp→VK→Prop) (to:TE) (t:TA):TE:=fun σ H Q=>to σ H fun x H1=>tyV K T x H1∧t σ H1 fun xs H2=>r x xs H2 Q
variable {o e:Expr} {es:List Expr} {to:TE} {t:TA} {name:Str} {apos cpos:Pos} {T id:String} {r:V→List V→Hp→VK→Prop}
theorem pe_bm (pa:PlainAttrs T) (slot:Slot T name id) (hty:typeOf (.builtin id)=pure (.type "method_descriptor")) (hm:MtR X id r) (ho:PE X o to) (ha:PA X (e::es) t)
    (hbase:attributeBase o name X.env (eval o X.env)=eval o X.env:=by rfl)
    (hfew:((backTo cpos (starEach (e::es) X.env)).all (fun x=>!x.1)&&(backToKw cpos (keywordEach [] X.env)).all (fun x=>x.1.isSome)
     &&decide ((e::es).length+([]:List Keyword).length+(if ([]:List Keyword).isEmpty then 0 else 1)<30))=true:=by rfl)
    (hline:(apos.endLine == cpos.line)=true:=by rfl) (hs:starEach (e::es) X.env=(false,eval e X.env)::starEach es X.env:=by rfl) (hplain:(backTo cpos (starEach es X.env)).any (·.1)=false:=by rfl) :
    PE X (.Call (.Attribute o name apos) (e::es) [] cpos) (tBM X.K T r to t):=by
  intro pins s σ H Q I h
  refine wpAny_Call_method_late hbase hfew hline rfl (thn (ho pins s σ H _ I h) fun v s1 ⟨x,H1,I1,r1,ty,q1⟩=>?_)
  obtain ⟨h1,h2⟩:=qMP I1 r1 ty
  refine ⟨T,id,pa,slot,hty,h1,h2,?_⟩
  have hA:=ha cpos pins s1 σ H1 _ I1 q1
  rw [hs] at hA ⊢
  refine Calls.callWith_builtin (by show (false || (backTo cpos (starEach es X.env)).any (·.1))=false;rw [hplain] <;> rfl) (Calls.evalArgs_plain ?_)
  exact thn hA fun us s2 ⟨vs,H2,I2,r2,q2⟩=>hm pins s2 σ H2 x vs v us Q I2 r1 r2 q2
end
end L2
namespace L2
open PySem PySem.Spec PyProof.Rows
noncomputable def MtM (X:Cx) (id:String) (r:V→List V→Hp→VK→Prop):Prop :=
 ∀ (pins:List (Addr × Obj)) (s:Shared) (σ:St) (H:Hp) (x:V) (xs:List V) (v:Value) (us:List Value) (Q:VK),Inv X pins σ H s→RelV x v→Vals xs us→r x xs H Q →
  wpAny (model X.prog X.w) X.A (call (.builtin id) (v::us)) (EP X pins σ Q) X.xe s
theorem Vals.one:∀ {x:V} {us:List Value},Vals [x] us→∃ u,us=[u]∧RelV x u
 | _,_,.cons r .nil=>⟨_,rfl,r⟩
theorem Vals.two:∀ {x y:V} {us:List Value},Vals [x,y] us→∃ u v,us=[u,v]∧RelV x u∧RelV y v
 | _,_,_,.cons r (.cons q .nil)=>⟨_,_,rfl,r,q⟩
theorem Vals.eraseIdx:∀ {xs:List V} {us:List Value} (i:Nat),Vals xs us→Vals (xs.eraseIdx i) (us.eraseIdx i)
 | _,_,_,.nil=>.nil
 | _,_,0,.cons _ t=>t
 | _,_,i+1,.cons r t=>.cons r (Vals.eraseIdx i t)
theorem Vals.reverse {xs:List V} {us:List Value} (h:Vals xs us):Vals xs.reverse us.reverse:=by
 induction h with
 | nil=>exact .nil
 | cons r t ih=>rw [List.reverse_cons,List.reverse_cons];exact Vals.append ih (.cons r .nil)
theorem qEX {α:Type}:∀ (l:List α) (i:Nat),(l.eraseIdx i).length≤l.length
 | [],_=>Nat.le_refl _
 | _::_,0=>Nat.le_succ _
 | _::r,i+1=>Nat.succ_le_succ (qEX r i)
section
variable {X:Cx} {pins:List (Addr × Obj)} {σ:St} {H:Hp} {s:Shared} {l b:Addr} {xs ys zs:List V}
theorem Inv.lset {its its':List Value} {n:Nat} {f:Array Value→Array Value} {t':Nat} (I:Inv X pins σ H s) (hH:H l=some (.lst xs))
    (e:s.heap.get? l=some { cls:=.type "list",data:=.seq its.toArray n }) (hf:f its.toArray=its'.toArray) (hv:Vals ys its') (hz:ys.length≤sizeLine) :
    Inv X pins σ (upd H l (.lst ys)) { s with heap:=s.heap.update l (Obj.mapSeq f),toks:=t' }:=by
  have q:=PySem.IsL.update e f
  rw [hf] at q
  refine I.write (x:=l) (e:=l) (by rw [hH];exact trivial) (.inl rfl) (fun b' u hb hu=>(Heap.get?_update_other s.heap (Obj.mapSeq f) (Ne.symm hb)).trans hu) ⟨_,q⟩ ?_
  exact ⟨hz,its',_,hv,q⟩
theorem Inv.lnew {its:List Value} {t':Nat} (I:Inv X pins σ H s) (hv:Vals ys its) (hz:ys.length≤sizeLine) :
    Inv X pins σ (upd H s.heap.objs.size (.lst ys)) { s with heap:=s.heap.push { cls:=.type "list",data:=.seq its.toArray },toks:=t' } :=
  I.laid (fun _ _ q=>Heap.get?_push_of_some _ q) (Nat.le_refl _) ⟨hz,its,0,hv,Heap.get?_push_size _ rfl⟩
theorem Inv.fresh (I:Inv X pins σ H s):H s.heap.objs.size=none:=I.hok.fresh (Nat.le_refl _)
theorem Inv.lstM (I:Inv X pins σ H s) (hH:H l=some (.lst xs)):xs.length≤sizeLine∧∃ (its:List Value) (n:Nat),Vals xs its∧xs.length=its.length∧s.heap.get? l=some { cls:=.type "list",data:=.seq its.toArray n }:=by
 obtain ⟨z,its,n,r,e⟩:=I.hok l _ hH
 exact ⟨z,its,n,r,r.length,e⟩
end
section
variable {X:Cx}
noncomputable def qKj:V→List V→Hp→VK→Prop:=fun x vs H Q=>∃ l xs y,x=.ref l∧vs=[y]∧H l=some (.lst xs)∧xs.length<sizeLine∧Q .non (upd H l (.lst (xs++[y])))
theorem mt_append:MtM X "list.append" qKj:=by
 intro pins s σ H x vs v us Q I rx rv h
 obtain ⟨l,xs,y,rfl,rfl,hH,hz,q⟩:=h
 cases rx
 obtain ⟨u,rfl,ru⟩:=rv.one
 obtain ⟨z,its,n,r,hl,e⟩:=I.lstM hH
 refine call_meets F.slot_list_append ⟨_,e,rfl⟩ F.entry_list_append (F.args_list_append_2 _ _) (PySem.list_append l its.toArray n u (by rw [List.size_toArray];omega)) ⟨e,?_⟩
 refine ⟨.non,_,I.lset (its':=its++[u]) hH e (by simp) (r.append (.cons ru .nil)) ?_,rfl,q⟩
 rw [List.length_append,List.length_singleton]
 omega
noncomputable def qMq:V→List V→Hp→VK→Prop:=fun x vs H Q=>∃ l xs i k y,x=.ref l∧vs=[.int i]∧H l=some (.lst xs)∧-(2 ^ 63)≤i∧i<2 ^ 63∧seqIndex? i xs.length=some k∧xs[k]?=some y∧Q y (upd H l (.lst (xs.eraseIdx k)))
theorem mt_popAt:MtM X "list.pop" qMq:=by
 intro pins s σ H x vs v us Q I rx rv h
 obtain ⟨l,xs,i,k,y,rfl,rfl,hH,h1,h2,hk,hy,q⟩:=h
 cases rx
 obtain ⟨u,rfl,ru⟩:=rv.one
 obtain ⟨t,rfl⟩:=ru
 obtain ⟨z,its,n,r,hl,e⟩:=I.lstM hH
 obtain ⟨w,hw,rw'⟩:=r.get hy
 refine call_meets F.slot_list_pop ⟨_,e,rfl⟩ F.entry_list_pop (F.args_list_pop_2 _ _)
  (MeetsSeq.list_pop_at l its.toArray n i t k w (fitsIndex_both h1 h2) (by rw [List.size_toArray,← hl];exact hk) (by rw [← Array.getElem?_toList];exact hw) (by rw [List.size_toArray];omega)) ⟨e,?_⟩
 refine ⟨y,_,I.lset (its':=its.eraseIdx k) hH e ?_ (r.eraseIdx k) ?_,rw',q⟩
 ·show its.toArray.eraseIdxIfInBounds k=(its.eraseIdx k).toArray
  rw [List.eraseIdxIfInBounds_toArray]
 ·have:=qEX xs k
  omega
noncomputable def rCat:R2:=fun x y H Q=>∃ l b xs zs,x=.ref l∧y=.ref b∧H l=some (.lst xs)∧H b=some (.lst zs)∧xs.length+zs.length≤sizeLine∧∀ p,H p=none→Q (.ref p) (upd H p (.lst (xs++zs)))
theorem op_cat:OpR X (binaryOp .Add) rCat:=by
 intro pins s σ H x y v u Q I rx ry h
 obtain ⟨l,b,xs,zs,rfl,rfl,hH,hB,hz,q⟩:=h
 cases rx
 cases ry
 obtain ⟨z,its,n,r,hl,e⟩:=I.lstM hH
 obtain ⟨z2,its2,n2,r2,hl2,e2⟩:=I.lstM hB
 refine PySem.P.add_list e e2 ?_ (by rw [List.size_toArray,List.size_toArray];omega)
 have ea:its.toArray++its2.toArray=(its++its2).toArray:=by simp
 rw [ea]
 exact ⟨.ref _,_,I.lnew (t':=s.toks) (r.append r2) (by rw [List.length_append];omega),rfl,q _ I.fresh⟩
end
section
variable {prog:Program} {w:World} {A:Around} {E:Value→Shared→Prop} {s:Shared}
end
section
variable {X:Cx}
end
end L2
namespace Att
open PySem PySem.W PySem.Calls PyProof.Rows
theorem qCl {P:Params} {h:Heap}:∀ (ns:List Int) (vs:List Value),WellAll P h vs (ns.map WData.int)→IntsAre vs ns:=by
 intro ns
 induction ns with
 | nil =>
  intro vs w
  rw [List.map_nil] at w
  cases w
  exact .nil
 | cons n ns ih =>
  intro vs w
  rw [List.map_cons] at w
  cases w with
  | cons a b =>
   cases a
   exact .cons _ _ (ih _ b)
theorem qGu {l:OpenLaw} {n:Nat} (hn:l.most=some n) {P:Params} {h:Heap} {args:List WData} {vals:List Value}
    (hpre:l.row.toRowW.claim.pre args=true) (hwl:WellAll P h vals args) :
    ∃ a vs ns,vals=[Value.ref a]∧args=[WData.list (ns.map WData.int)]∧h.get? a=some { cls:=.type "list",data:=.seq vs.toArray }∧IntsAre vs ns∧ns.length≤n:=by
  have hsh:WShape.hasAll [] args [.list .int]=true:=(pre_splitW hpre).1
  have hc:l.pre.holds [] { args:=args }=true:=(pre_splitW hpre).2
  obtain ⟨d,r,rfl,h1,h2⟩:=hasAllW_cons hsh
  obtain rfl:=hasAllW_nil h2
  obtain ⟨xs,rfl,h3⟩:=hasW_list h1
  obtain ⟨ns,rfl⟩:=items_int h3
  have hlen:ns.length≤n:=by
    unfold OpenLaw.pre at hc
    have h4:(WTm.not (.lt (.lit (.int (n:Int))) (.len (.arg 0)))).holds [] { args:=[.list (ns.map .int)] }=true:=by
      have h4:=(holds_andW hc).1
      rw [hn] at h4
      exact h4
    have h5:=condW_of h4 (w_not (w_lt w_lit (w_len_list (w_arg rfl))))
    rw [List.length_map] at h5
    refine Nat.le_of_not_lt fun q=>?_
    have q':(n:Int)<((ns.length:Nat):Int):=by omega
    first
      | (rw [decide_eq_true q'] at h5;exact absurd h5 (by decide))
      | (simp at h5;omega)
  cases hwl with
  | cons w1 w2 =>
    cases w2
    cases w1 with
    | list ho hall=>exact ⟨_,_,ns,rfl,rfl,ho,qCl ns _ hall,hlen⟩
theorem qG1 (l:OpenLaw) (args:List WData):l.row.toRowW.claim.post args (.bool true) args=true :=
 postW_of (r:=l.row.toRowW) (X:=(true == true))
  (show WShape.has [] (.bool true) .bool=true by first | rfl | decide | simp [WShape.has,WShape.arms,WShape.armsAll])
  (show (WTm.eq .res (.lit (.bool true))).value [] { args:=args,res:=some (.bool true),after:=args }=some (.bool (true == true)) from w_eq_bool (w_res rfl) w_lit) rfl
theorem attach_call {l:OpenLaw} {n:Nat} {q:Program} {loose:List Str} {XP:(Str→Option Value)→Heap→Prop} {YP:World→Heap→Prop} {d:DefRec}
    (hn:l.most=some n) (hdf:d.params.defaults=[])
    (call:∀ (w:World) (s₀ s₁:Shared) (mg mb:Str→Option Value) (fa:Addr) (o:Obj) (pm cd doc:Value) (a:Addr) (vs:List Value) (ns:List Int),
      Ground q loose [] XP w s₀ mg mb s₁.heap→YP w s₁.heap →
      s₁.heap.get? fa=some o→o.data=.func (docDef d.name d.params d.body d.scope pm cd doc)→s₁.heap.CodeRec cd d.name→mg d.name=some (.ref fa) →
      s₁.heap.get? a=some { cls:=.type "list",data:=.seq vs.toArray }→IntsAre vs ns→ns.length≤n→s₁.gens=#[] →
      codeAny (model l.prog w) callerA (.call (.ref fa) ⟨[.ref a],[]⟩) (fun r s'=>r=.ok (.ret (.bool true))∧OldK s₁.heap s'.heap∧s'.os=s₁.os∧AllBare s'.gens) s₁) :
    WalkO q loose XP YP l.row.toRowW d [] (fun f vs=>PySem.call f vs):=by
  intro w s₀ s₁ mg mb G Y fa o pm cd doc dV kV ho hd hcd hD hmg hg args vals as hpre hlay hrd hwl hlo
  obtain rfl:dV=.none:=Dflts.none hD hdf
  obtain rfl:kV=.none:=Dflts.noKw hD
  obtain ⟨a,vs,ns,rfl,rfl,hobj,hints,hlen⟩:=qGu hn hpre hwl
  refine enter_call (codeAny_mono (call w s₀ s₁ mg mb fa o pm cd doc a vs ns G Y ho (fd_plain hd) hcd hmg hobj hints hlen hg) fun r s' hq=>?_)
  obtain ⟨rfl,h2,h3,h4⟩:=hq
  exact ⟨.inl ⟨.bool true,.bool true,[],rfl,fun _=>rfl,.bool true,qG1 l _,fun _=>⟨List.Pairwise.nil,fun _ hm=>(nomatch hm)⟩⟩,h2,h3,h4⟩
section
variable {prog:Program} {w:World} {A:Around} {E:Value→Shared→Prop} {s:Shared} {K:Frag}
noncomputable def qOC (h:Heap) (L d:Addr):List (Addr × Obj):=(List.range h.objs.size).filterMap fun a=>if a=L∨a=d then none else (h.get? a).map fun o=>(a,o)
end
end Att
namespace L2
open PySem PySem.Spec PyProof.Rows
theorem vals_ints:∀ {vs:List Value} {ns:List Int},IntsAre vs ns→Vals (ns.map V.int) vs
 | _,_,.nil=>.nil
 | _,_,.cons n t h=>.cons ⟨t,rfl⟩ (vals_ints h)
noncomputable def Only (H:Hp):Prop:=∀ b,H b=none∨∃ o xs,H b=some (.frz o (.lst xs))
theorem qJG {P:Program} {w:World} {K:PySem.W.Frag} {mg mb:Str→Option Value} {CX:CXT} {k:Nat} {fa a:Addr} {fd:FuncData} {x:Str} {sp:Sp} {s₁:Shared} {vs:List Value} {ns:List Int}
    (KX:K.In s₁.heap) (hns:s₁.heap.Ns mainGlobals mg) (hb:s₁.heap.Ns builtinsNs mb) (hbb:∀ x:Str,x≠"__name__"→mb x=bootBuiltins x) (hlim:s₁.heap.NoLimit) (hg:s₁.gens=#[])
    (ha:s₁.heap.get? a=some { cls:=.type "list",data:=.seq vs.toArray }) (hi:IntsAre vs ns) (hl:ns.length≤sizeLine) (hr:Room k callerA)
    (F:∀ base:Heap,K.In base→base.Ns mainGlobals mg→FnOk P w K mg base CX k fa fd [x] sp) (hbind:∀ (s:Shared) (u:Value),BindsTo s fd ⟨[u],[]⟩ [(x,u)])
    (hsp:∀ H:Hp,Only H→SqL K H a (ns.map V.int)→sp [.ref a] H (fun v _=>v=.bl true) fun _ _ _=>False)
    (hCX:∀ H e s',CX [] H s₁ (fun _ _ _=>False) e s'→False) :
    codeAny (model P w) callerA (.call (.ref fa) ⟨[.ref a],[]⟩) (fun r s'=>r=.ok (.ret (.bool true))∧OldK s₁.heap s'.heap∧s'.os=s₁.os∧AllBare s'.gens) s₁:=by
  have rv:=vals_ints hi
  have lenV:=hi.length
  have core:∀ H:Hp,Only H→SqL K H a (ns.map V.int)→HOk P w H s₁.heap→(∀ b,H b≠none→b=a)→(H a≠none→K.lookup a=none) →
      codeAny (model P w) callerA (.call (.ref fa) ⟨[.ref a],[]⟩) (fun r s'=>r=.ok (.ret (.bool true))∧OldK s₁.heap s'.heap∧s'.os=s₁.os∧AllBare s'.gens) s₁:=by
    intro H hO hS hok hA hK
    have base_of:∀ {b:Addr} {o:Obj},s₁.heap.get? b=some o→H b=none→(hidT s₁.heap H).get? b=some o:=fun e n=>qJJ e n
    have noA:∀ {b:Addr} {o:Obj} {es:Array DictEntry} {ep:Nat},s₁.heap.get? b=some o→o.data=.dict es ep→H b=none:=fun {b o es ep} e d=>by
      cases q:H b with
      | none=>rfl
      | some u =>
        have e':b=a:=hA b (by rw [q];simp)
        subst e'
        rw [ha] at e;cases e
        have d':Data.seq vs.toArray _=Data.dict es ep:=d
        cases d'
    have nsK:∀ {b:Addr} {m:Str→Option Value},s₁.heap.Ns b m→(hidT s₁.heap H).Ns b m:=fun {b m} ⟨o,es,ep,e,d,r⟩=>⟨o,es,ep,base_of e (noA e d),d,r⟩
    have hKb:K.In (hidT s₁.heap H):=fun b o e=>base_of (KX b o e) (by
      cases q:H b with
      | none=>rfl
      | some u =>
        have e':b=a:=hA b (by rw [q];simp)
        subst e'
        rw [hK (by rw [q];simp)] at e;cases e)
    have hM:Mod K mg (hidT s₁.heap H):=⟨hKb,nsK hns,⟨mb,nsK hb,hbb⟩,let ⟨mc,h1,h2⟩:=hlim;⟨mc,nsK h1,h2⟩⟩
    have e0:Env0 P w K mg (hidT s₁.heap H) callerA [] s₁ H:=⟨rfl,hM,fun b o e=>qKs e,Nat.le_of_eq (qHm _ _),trivial,fun b hb=>absurd (show b∈([]:List Addr) from hb) (by simp),hok,.of_eq hg⟩
    refine codeAny_mono ((F _ hKb (nsK hns)).run callerA [] s₁ H ⟨[.ref a],[]⟩ [.ref a] [.ref a] _ _ hr e0 (hbind s₁ (.ref a)) (.cons rfl .nil) (hsp H hO hS)) fun r s' h=>?_
    cases r with
    | error e=>exact (hCX H e s' h).elim
    | ok fl =>
      cases fl with
      | next=>exact False.elim h
      | brk=>exact False.elim h
      | cont=>exact False.elim h
      | ret u =>
        obtain ⟨v,H',os,bare,un,hok',r',q⟩:=h
        have q':v=.bl true:=q
        subst q'
        obtain rfl:u=Value.bool true:=r'
        refine ⟨rfl,OldK.of_keep fun b o e=>?_,os,bare⟩
        cases q:H b with
        | none=>exact un.keep b o e q (by intro z;exact absurd (show b∈([]:List Addr) from z) (by simp)) (by simp)
        | some u =>
          rcases hO b with z | ⟨ob,xs,z⟩
          · rw [q] at z;cases z
          · have z2:=un.frzs b ob _ z
            obtain ⟨e1,_⟩:=hok b _ z
            obtain ⟨e2,_⟩:=hok' b _ z2
            rw [e] at e1;cases e1
            exact e2
  cases hk:K.lookup a with
  | some o =>
    have e:=KX a o hk
    rw [ha] at e
    cases e
    refine core (fun _=>none) (fun _=>.inl rfl) (.inr ⟨_,vs.toArray,_,hk,rfl,rfl,rfl,by rw [List.size_toArray,lenV];exact hl,by simpa using rv⟩) (fun b u z=>by have z':(none:Option HO)=some u:=z;cases z') (fun b z=>absurd rfl z) fun z=>absurd rfl z
  | none =>
    refine core (fun b=>if b=a then some (.frz { cls:=.type "list",data:=.seq vs.toArray } (.lst (ns.map V.int))) else none) (fun b=>?_) (.inl (.inr ⟨{ cls:=.type "list",data:=.seq vs.toArray },if_pos rfl⟩)) (fun b u z=>?_) (fun b z=>?_) fun _=>hk
    · by_cases hb:b=a
      · exact .inr ⟨_,_,if_pos hb⟩
      · exact .inl (if_neg hb)
    · by_cases hb:b=a
      · have z':=(if_pos hb).symm.trans z
        cases z'
        subst hb
        exact ⟨ha,by rw [List.length_map];exact hl,vs,_,rv,ha⟩
      · have z':=(if_neg hb).symm.trans z
        cases z'
    · by_cases hb:b=a
      · exact hb
      · exact absurd (if_neg hb) z
end L2
namespace L2
open PySem PySem.Spec PyProof.Rows
noncomputable abbrev KOf {K:PySem.W.Frag} {h:Heap} (_:K.In h):PySem.W.Frag:=K
theorem walk_of {l:PySem.W.OpenLaw} {n k:Nat} {q:Program} {loose:List Str} {XP:(Str→Option Value)→Heap→Prop} {YP:World→Heap→Prop} {d:DefRec} {K:Params→PySem.W.Frag} {CX:World→CXT} {sp:World→Sp} {x:Str}
    (hn:l.most=some n) (hn2:n≤sizeLine) (hdf:d.params.defaults=[]) (hr:Room k callerA)
    (hY:∀ (w:World) (h:Heap),YP w h→(K w.params).In h)
    (F:∀ (w:World) (mg:Str→Option Value) (fa:Addr) (h:Heap),(K w.params).In h→h.Ns mainGlobals mg→mg d.name=some (.ref fa) →
      ∃ fd:FuncData,(∀ (s:Shared) (u:Value),BindsTo s fd ⟨[u],[]⟩ [(x,u)]) ∧
        ∀ base:Heap,(K w.params).In base→base.Ns mainGlobals mg→FnOk l.prog w (K w.params) mg base (CX w) k fa fd [x] (sp w))
    (hsp:∀ (w:World) (H:Hp) (a:Addr) (ns:List Int),ns.length≤n→Only H→SqL (K w.params) H a (ns.map V.int)→sp w [.ref a] H (fun v _=>v=.bl true) fun _ _ _=>False)
    (hCX:∀ (w:World) (H:Hp) (s:Shared) (e:Value) (s':Shared),CX w [] H s (fun _ _ _=>False) e s'→False) :
    PySem.W.WalkO q loose XP YP l.row.toRowW d [] (fun f vs=>PySem.call f vs):=by
  refine Att.attach_call hn hdf fun w s₀ s₁ mg mb fa o pm cd doc a vs ns G Y ho hd hcd hmg hobj hints hlen hg=>?_
  have KX:=hY w _ Y
  obtain ⟨fd,hb,hF⟩:=F w mg fa _ KX G.T.g hmg
  exact qJG KX G.T.g G.T.b G.T.builtins G.T.nolimit hg hobj hints (Nat.le_trans hlen hn2) hr hF hb (fun H hO hS=>hsp w H a ns hlen hO hS) fun H e s'=>hCX w H s₁ e s'
end L2
namespace L2
open PySem PySem.Spec PyProof.Rows
noncomputable def defArgs (s:Stmt):Arguments:=match s with
 | .FunctionDef _ a _ _ _ _ _ _ _ _=>a
 | _=>{ posonlyargs:=[],args:=[],vararg:=none,kwonlyargs:=[],kw_defaults:=[],kwarg:=none,defaults:=[] }
noncomputable def defBody (s:Stmt):List Stmt:=match s with
 | .FunctionDef _ _ b _ _ _ _ _ _ _=>b
 | _=>[]
noncomputable def defScope (s:Stmt):Scope:=match s with
 | .FunctionDef _ _ _ _ _ _ sc _ _ _=>sc
 | _=>{ kind:=.function,names:=[],isGenerator:=false,isCoroutine:=false }
noncomputable abbrev CX0:CXT:=fun _ _ _ _ _ _=>False
structure Fun (K:PySem.W.Frag) (x qual:Str) (st:Stmt) (f:Addr) (fd:FuncData):Prop where
 ex:∃ (oc:Value) (od:Option Addr) (kV doc pm:Value) (an:Option Addr) (cdv ct:Value) (osl:Array (Option Value)),
  fd=PySem.W.fnOf x qual (defArgs st) (defBody st) (defScope st) .none kV doc pm an cdv ct∧K.lookup f=some ⟨oc,od,.func fd,osl⟩∧PySem.W.codeIn K cdv qual=true
 kp:PySem.W.keepIn K (.ref f)=true
section
variable {P:Program} {w:World} {K:PySem.W.Frag} {mg:Str→Option Value} {base:Heap}
theorem Fun.ok {x qual:Str} {st:Stmt} {f:Addr} {fd:FuncData} {N ps:List Str} {k:Nat} {sp:Sp} (F:Fun K x qual st f fd) (S:FnScope N ps (defScope st)) (len:∀ vs H Q E,sp vs H Q E→vs.length=ps.length)
    (hbody:∀ (cdv:Value) (A:Around) (outer:List Env) (s:Shared) (H:Hp) (vs:List V) (Q:VK) (E:XK),Room k (A.deeper (envOfC qual (defScope st) s.heap.objs.size f cdv))→sp vs H Q E →
      ∃ t,PSs (cxOf CX0 P w K mg base N qual (defScope st) f cdv A outer s H E).nox (defBody st) t∧t { nx:=fun _ H'=>Q .non H',rt:=Q } (start N vs) H):FnOk P w K mg base CX0 (k+1) f fd ps sp:=by
  obtain ⟨oc,od,kV,doc,pm,an,cdv,ct,osl,rfl,lk,hcd⟩:=F.ex
  refine fn_of lk hcd S len fun A outer s H vs Q E hr hsp=>?_
  obtain ⟨t,h,q⟩:=hbody cdv A outer s H vs Q E hr hsp
  exact ⟨t,h.nox,q⟩
theorem Fun.binds {x qual:Str} {st:Stmt} {f:Addr} {fd:FuncData} {ps:List Str} (F:Fun K x qual st f fd)
    (h:∀ (kV doc pm:Value) (an:Option Addr) (cdv ct:Value) (us:List Value),us.length=ps.length→bindArgs (PySem.W.fnOf x qual (defArgs st) (defBody st) (defScope st) .none kV doc pm an cdv ct) ⟨us,[]⟩=pure (ps.zip us)):Binds K fd ps []:=by
  obtain ⟨oc,od,kV,doc,pm,an,cdv,ct,osl,rfl,lk,hcd⟩:=F.ex
  exact .all (h kV doc pm an cdv ct)
theorem fun_mk {x qual:Str} {st:Stmt} {f:Addr} {oc:Value} {od an:Option Addr} {osl:Array (Option Value)} {kV doc pm cdv ct:Value} (l:K.lookup f=some ⟨oc,od,.func (PySem.W.fnOf x qual (defArgs st) (defBody st) (defScope st) .none kV doc pm an cdv ct),osl⟩)
    (c:PySem.W.codeIn K cdv qual=true) (k:PySem.W.keepIn K (.ref f)=true):Fun K x qual st f (PySem.W.fnOf x qual (defArgs st) (defBody st) (defScope st) .none kV doc pm an cdv ct):=⟨⟨oc,od,kV,doc,pm,an,cdv,ct,osl,rfl,l,c⟩,k⟩
end
section
variable {X:Cx}
theorem pv (i:Nat) {x:Str} {pos:Pos} (hN:X.N[i]?=some x:=by rfl) (hv:Vis X.env.scope x:=by first | exact Or.inl rfl | exact Or.inr (Or.inl rfl) | exact Or.inr (Or.inr rfl)) (hd:(x == ("__debug__":Str))=false:=by decide)
    (hcd:(x == ("__classdict__":Str))=false:=by decide):PE X (.Name x pos) (tVar i):=pe_var hN hv hd hcd
end
theorem iteF {A B:Prop} (h:B):if false=true then A else B:=by
 rw [if_neg Bool.false_ne_true]
 exact h
theorem iteT {A B:Prop} (h:A):if true=true then A else B:=by
 rw [if_pos rfl]
 exact h
noncomputable def Same (H H':Hp):Prop:=∀ b o,H b=some o→H' b=some o
theorem Same.refl (H:Hp):Same H H:=fun _ _ h=>h
theorem Same.trans {H H1 H2:Hp} (a:Same H H1) (b:Same H1 H2):Same H H2:=fun c o h=>b c o (a c o h)
theorem Same.free {H H':Hp} (e:Same H H') {l:Addr} (h:H' l=Option.none):H l=Option.none:=by
 cases q:H l with
 | none=>rfl
 | some o =>
  rw [e l o q] at h
  cases h
theorem Same.seq {K:PySem.W.Frag} {H H':Hp} {a:Addr} {xs:List V} (e:Same H H') (h:SqL K H a xs):SqL K H' a xs:=by
 rcases h with (h | ⟨o,h⟩) | h
 ·exact .inl (.inl (e _ _ h))
 ·exact .inl (.inr ⟨o,e _ _ h⟩)
 ·exact .inr h
end L2
namespace L2
open PySem PySem.Spec PyProof.Rows
section
variable {κ:Type} [DecidableEq κ]
noncomputable def valV (kvs:List (κ × V)) (k:κ):Option V:=(kvs.find? fun kv=>decide (kv.1=k)).map (·.2)
noncomputable def putK (kvs:List (κ × V)) (k:κ) (v:V):List (κ × V) :=
 if (kvs.any fun kv=>decide (kv.1=k))=true then kvs.map (fun kv=>if kv.1=k then (kv.1,v) else kv) else kvs++[(k,v)]
noncomputable def dropK (kvs:List (κ × V)) (k:κ):List (κ × V):=kvs.filter fun kv=>decide (kv.1≠k)
theorem valV_pos {p:κ × V} {r:List (κ × V)} {k:κ} (e:p.1=k):valV (p::r) k=some p.2:=by simp [valV,List.find?_cons,e]
theorem valV_neg {p:κ × V} {r:List (κ × V)} {k:κ} (e:¬ p.1=k):valV (p::r) k=valV r k:=by simp [valV,List.find?_cons,e]
theorem qFb (k:κ):∀ kvs:List (κ × V),(kvs.any fun kv=>decide (kv.1=k))=(valV kvs k).isSome
 | []=>rfl
 | p::r=>by
  rw [List.any_cons]
  by_cases e:p.1=k
  ·simp only [valV_pos e,decide_eq_true e,Bool.true_or,Option.isSome_some]
  ·rw [valV_neg e,decide_eq_false e,Bool.false_or];exact qFb k r
theorem length_putK (kvs:List (κ × V)) (k:κ) (v:V):(putK kvs k v).length≤kvs.length+1:=by
 unfold putK
 split
 ·rw [List.length_map];omega
 ·rw [List.length_append,List.length_cons,List.length_nil];omega
theorem RelO.isSome_eq {o:Option V} {u:Option Value} (r:RelO o u):o.isSome=u.isSome:=by
 cases o with
 | none=>cases u with
  | none=>rfl
  | some _=>exact (show False from r).elim
 | some _=>cases u with
  | none=>exact (show False from r).elim
  | some _=>rfl
theorem RelO.getD {o:Option V} {u:Option Value} {d:V} {d':Value} (r:RelO o u) (rd:RelV d d'):RelV (o.getD d) (u.getD d'):=by
 cases o with
 | none=>cases u with
  | none=>exact rd
  | some _=>exact (show False from r).elim
 | some _=>cases u with
  | none=>exact (show False from r).elim
  | some _=>exact r
theorem KV.val {kvs:List (κ × V)} {vs:List (κ × Value)} (r:KV kvs vs) (k:κ):RelO (valV kvs k) (valueAt vs k):=by
 unfold KV at r
 induction r with
 | nil=>exact True.intro
 | @cons p q ps qs h t ih =>
  obtain ⟨h1,h2⟩:=h
  by_cases e:p.1=k
  ·have e':q.1=k:=h1.symm.trans e
   have b:valueAt (q::qs) k=some q.2:=by simp [valueAt,List.find?_cons,e']
   rw [valV_pos e,b];exact h2
  ·have e':¬ q.1=k:=fun z=>e (h1.trans z)
   have b:valueAt (q::qs) k=valueAt qs k:=by simp [valueAt,List.find?_cons,e']
   rw [valV_neg e,b];exact ih
theorem KV.any {kvs:List (κ × V)} {vs:List (κ × Value)} (r:KV kvs vs) (k:κ):(kvs.any fun kv=>decide (kv.1=k))=vs.any fun kv=>decide (kv.1=k):=by
 unfold KV at r
 induction r with
 | nil=>rfl
 | cons h t ih=>rw [List.any_cons,List.any_cons,ih,h.1]
theorem KV.repl {kvs:List (κ × V)} {vs:List (κ × Value)} (r:KV kvs vs) (k:κ) {y:V} {u:Value} (ry:RelV y u) :
    KV (kvs.map fun kv=>if kv.1=k then (kv.1,y) else kv) (vs.map fun kv=>if kv.1=k then (kv.1,u) else kv):=by
  unfold KV at r ⊢
  induction r with
  | nil=>exact .nil
  | @cons p q ps qs h t ih =>
    rw [List.map_cons,List.map_cons]
    refine .cons ?_ ih
    obtain ⟨h1,h2⟩:=h
    by_cases e:p.1=k
    · rw [if_pos e,if_pos (h1.symm.trans e)];exact ⟨h1,ry⟩
    · rw [if_neg e,if_neg (fun z=>e (h1.trans z))];exact ⟨h1,h2⟩
theorem KV.put {kvs:List (κ × V)} {vs:List (κ × Value)} (r:KV kvs vs) (k:κ) {y:V} {u:Value} (ry:RelV y u):KV (putK kvs k y) (stored vs k u):=by
 unfold putK stored
 rw [r.any k]
 by_cases e:(vs.any fun kv=>decide (kv.1=k))=true
 ·rw [if_pos e,if_pos e];exact r.repl k ry
 ·rw [if_neg e,if_neg e];exact Paired.snoc r ⟨rfl,ry⟩
theorem KV.drop {kvs:List (κ × V)} {vs:List (κ × Value)} (r:KV kvs vs) (k:κ):KV (dropK kvs k) (without vs k):=by
 unfold KV at r ⊢
 unfold dropK without
 induction r with
 | nil=>exact .nil
 | @cons p q ps qs h t ih =>
  obtain ⟨h1,h2⟩:=h
  rw [List.filter_cons,List.filter_cons]
  by_cases e:p.1=k
  ·have a:¬ decide (p.1≠k)=true:=by simp [e]
   have b:¬ decide (q.1≠k)=true:=by simp [h1.symm.trans e]
   rw [if_neg a,if_neg b];exact ih
  ·have e':¬ q.1=k:=fun z=>e (h1.trans z)
   have a:decide (p.1≠k)=true:=by simp [e]
   have b:decide (q.1≠k)=true:=by simp [e']
   rw [if_pos a,if_pos b];exact .cons ⟨h1,h2⟩ ih
theorem KV.length {kvs:List (κ × V)} {vs:List (κ × Value)} (r:KV kvs vs):kvs.length=vs.length:=Paired.length r
end
theorem kV_is {P:Program} {w:World} {k:Key} {u:Value} (r:RelV (kV k) u):(mixKind P w).is k u=true:=by
 cases k with
 | inl i=>obtain ⟨t,e⟩:=(show ∃ t,u=Value.int i t from r);subst e;exact qE9 P w i t
 | inr x=>obtain ⟨t,e⟩:=(show ∃ t,u=Value.str x t from r);subst e;exact qE8 P w x t
noncomputable abbrev KT (H:Hp):List (List Key × V)→List (List Key × Addr × Value)→Prop:=Paired fun p q=>p.1=q.1∧H q.2.1=some (.tup (p.1.map kV))∧RelV p.2 q.2.2
theorem KT.val {H:Hp} {kvs:List (List Key × V)} {xs:List (List Key × Addr × Value)} (r:KT H kvs xs) (k:List Key):RelO (valV kvs k) ((atKey xs k).map (·.2)):=by
 induction r with
 | nil=>exact True.intro
 | @cons p q ps qs h t ih =>
  obtain ⟨h1,_,h2⟩:=h
  by_cases e:p.1=k
  ·have e':q.1=k:=h1.symm.trans e
   have b:atKey (q::qs) k=some q.2:=by simp [atKey,List.find?_cons,e']
   rw [valV_pos e,b];exact h2
  ·have e':¬ q.1=k:=fun z=>e (h1.trans z)
   have b:atKey (q::qs) k=atKey qs k:=by simp [atKey,List.find?_cons,e']
   rw [valV_neg e,b];exact ih
theorem KT.repl {H:Hp} {kvs:List (List Key × V)} {xs:List (List Key × Addr × Value)} (r:KT H kvs xs) (k:List Key) {y:V} {u:Value} (ry:RelV y u) :
    KT H (kvs.map fun kv=>if kv.1=k then (kv.1,y) else kv) (xs.map (putAt k u)):=by
  induction r with
  | nil=>exact .nil
  | @cons p q ps qs h t ih =>
    rw [List.map_cons,List.map_cons]
    refine .cons ?_ ih
    obtain ⟨h1,h2,h3⟩:=h
    unfold putAt
    by_cases e:p.1=k
    · rw [if_pos e,if_pos (h1.symm.trans e)];exact ⟨h1,h2,ry⟩
    · rw [if_neg e,if_neg (fun z=>e (h1.trans z))];exact ⟨h1,h2,h3⟩
theorem KT.put {H:Hp} {kvs:List (List Key × V)} {xs:List (List Key × Addr × Value)} (r:KT H kvs xs) (k:List Key) {b:Addr} {y:V} {u:Value} (hb:H b=some (.tup (k.map kV))) (ry:RelV y u) :
    KT H (putK kvs k y) (storedH xs k b u):=by
  have e:(kvs.any fun kv=>decide (kv.1=k))=(atKey xs k).isSome:=by
    rw [qFb,(r.val k).isSome_eq,Option.isSome_map]
  unfold putK storedH
  rw [e]
  by_cases q:(atKey xs k).isSome=true
  · rw [if_pos q,if_pos q];exact r.repl k ry
  · rw [if_neg q,if_neg q];exact Paired.snoc r ⟨rfl,hb,ry⟩
theorem KT.keeps {H H':Hp} {kvs:List (List Key × V)} {xs:List (List Key × Addr × Value)} (r:KT H kvs xs) (ht:∀ b ys,H b=some (.tup ys)→H' b=some (.tup ys)):KT H' kvs xs :=
 Paired.mapP r fun _ _ z=>⟨z.1,ht _ _ z.2.1,z.2.2⟩
section
variable {P:Program} {w:World} {H:Hp} {h:Heap} {a:Addr}
theorem rd_of {u:HO} (ok:HOk P w H h) (e:Rd H a u):ObjOk P w H h a u:=e.ok ok
theorem dk_rd {kvs:List (Key × V)} (ok:HOk P w H h) (e:Rd H a (.dK kvs)):kvs.length≤sizeLine∧(a == sysModules)=false∧∃ vs,KV kvs vs∧h.DictOf (mixKind P w) a vs :=
 show ObjOk P w H h a (.dK kvs) from rd_of ok e
theorem dk_of {kvs:List (Key × V)} (ok:HOk P w H h) (e:H a=some (.dK kvs)):kvs.length≤sizeLine∧(a == sysModules)=false∧∃ vs,KV kvs vs∧h.DictOf (mixKind P w) a vs:=dk_rd ok (.inl e)
end
section
variable {X:Cx} {pins:List (Addr × Obj)} {σ:St} {H:Hp} {s:Shared} {a:Addr} {y v:V} {u r:Value} {o:Option V} {A:Around} {E:Value→Shared→Prop}
theorem Inv.big (I:Inv X pins σ H s):sysModules<s.heap.objs.size:=by
 have h:mainGlobals<s.heap.objs.size:=(I.mod.glob.keeps I.bk).lt
 exact Nat.lt_trans (by decide) h
theorem d_write {h':Heap} {t':Nat} {ob:HO} (I:Inv X pins σ H s) (mu:Mut (H a)) (hs:Heap.SameBut a s.heap h') (he:∃ q,h'.get? a=some q) (new:ObjOk X.prog X.w (upd H a ob) h' a ob) :
    Inv X pins σ (upd H a ob) { s with heap:=h',toks:=t' } :=
  I.write (x:=a) (e:=a) mu (.inl rfl) (fun b q hb z=>(hs.2 b hb).trans z) he new
theorem dk_new {P:Program} {w:World} {H':Hp} {h':Heap} {kvs:List (Key × V)} {vs:List (Key × Value)} (z:kvs.length≤sizeLine) (hd:(a == sysModules)=false) (rel:KV kvs vs) (dd:h'.DictOf (mixKind P w) a vs) :
    ObjOk P w H' h' a (.dK kvs):=⟨z,hd,vs,rel,dd⟩
end
section
variable {X:Cx} {pins:List (Addr × Obj)} {σ:St} {H:Hp} {s:Shared} {a:Addr} {kvs:List (Key × V)} {k:Key} {u:Value} {A:Around} {E:Value→Shared→Prop}
end
theorem qFw {P:Program} {w:World} {H:Hp} (h:Heap) (hb:sysModules<h.objs.size):ObjOk P w H (h.push { cls:=.type "dict",data:=.dict #[] }) h.objs.size (.dK []) :=
 ⟨Nat.zero_le _,beq_eq_false_iff_ne.mpr (Ne.symm (Nat.ne_of_lt hb)),[],.nil,Heap.DictOf.new h⟩
noncomputable def qMW:TE:=fun _ H Q=>∀ p,H p=none→Q (.ref p) (upd H p (.dK []))
section
variable {X:Cx} {pos:Pos}
theorem pe_dnewK:PE X (.Dict [] [] pos) qMW:=fun pins s σ H Q I h =>
 wpAny_Dict_empty ⟨.ref s.heap.objs.size,_,I.laid (a:=s.heap.objs.size) (o:=.dK []) (t':=s.toks) (fun _ _ q=>Heap.get?_push_of_some _ q) (Nat.le_refl _) (qFw s.heap I.big),rfl,h _ (I.hok.fresh (Nat.le_refl _))⟩
end
noncomputable def tPairs:List (TE × TE)→St→Hp→(List (V × V)→Hp→Prop)→Prop
 | [],_,H,Q=>Q [] H
 | (tk,tv)::r,σ,H,Q=>tk σ H fun x H1=>tv σ H1 fun y H2=>tPairs r σ H2 fun ps H3=>Q ((x,y)::ps) H3
noncomputable abbrev VV:List (V × V)→List (Value × Value)→Prop:=Paired fun p q=>RelV p.1 q.1∧RelV p.2 q.2
noncomputable def PPs (X:Cx) (pos:Pos) (keys:List (Option Expr)) (values:List Expr) (trs:List (TE × TE)):Prop :=
 ∀ (pins:List (Addr × Obj)) (s:Shared) (σ:St) (H:Hp) (Q:List (V × V)→Hp→Prop),Inv X pins σ H s→tPairs trs σ H Q →
  wpAny (model X.prog X.w) X.A (evalPairs (pairTrees keys values X.env pos)) (fun vs s'=>∃ ps H',Inv X pins σ H' s'∧VV ps vs∧Q ps H') X.xe s
theorem pps_nil {X:Cx} {pos:Pos}:PPs X pos [] [] []:=fun pins s σ H Q I h=>pairTrees_nil_walk ⟨[],H,I,.nil,h⟩
theorem pps_cons {X:Cx} {pos:Pos} {k v:Expr} {ks:List (Option Expr)} {vs:List Expr} {tk tv:TE} {trs:List (TE × TE)} (hk:PE X k tk) (hv:PE X v tv) (hr:PPs X pos ks vs trs) :
    PPs X pos (some k::ks) (v::vs) ((tk,tv)::trs):=fun pins s σ H Q I h =>
  pairTrees_cons_walk (thn (hk pins s σ H _ I h) fun u s1 ⟨x,H1,I1,rx,q1⟩=>thn (hv pins s1 σ H1 _ I1 q1) fun w2 s2 ⟨y,H2,I2,ry,q2⟩ =>
    thn (hr pins s2 σ H2 _ I2 q2) fun ws s3 ⟨ps,H3,I3,rel,q3⟩=>⟨(x,y)::ps,H3,I3,.cons ⟨rx,ry⟩ rel,q3⟩)
noncomputable def mergeK (kvs more:List (Key × V)):List (Key × V):=more.foldl (fun acc kv=>putK acc kv.1 kv.2) kvs
theorem KV.merge:∀ {more:List (Key × V)} {rs:List (Key × Value)} {kvs:List (Key × V)} {vs:List (Key × Value)},KV more rs→KV kvs vs→KV (mergeK kvs more) (merged vs rs):=by
 intro more rs kvs vs r
 unfold KV at r
 induction r generalizing kvs vs with
 | nil=>intro q;exact q
 | @cons p q ps qs h t ih =>
  intro r0
  have e:KV (putK kvs p.1 p.2) (stored vs q.1 q.2):=by
   have:=r0.put p.1 h.2
   rw [← h.1];exact this
  exact ih e
theorem qBt:∀ (more kvs:List (Key × V)),(mergeK kvs more).length≤kvs.length+more.length
 | [],kvs=>by show kvs.length≤kvs.length+0;omega
 | p::r,kvs=>by
  have h1:=qBt r (putK kvs p.1 p.2)
  have h2:=length_putK kvs p.1 p.2
  show (mergeK (putK kvs p.1 p.2) r).length≤_
  rw [List.length_cons];omega
theorem qDT {P:Program} {w:World}:∀ {kvs:List (Key × V)} {ws:List (Value × Value)},VV (kvs.map fun kv=>(kV kv.1,kv.2)) ws→∃ rs,Carries (mixKind P w) ws rs∧KV kvs rs
 | [],_,r=>by rw [List.map_nil] at r;cases r;exact ⟨[],True.intro,.nil⟩
 | p::kvs,_,r=>by
  rw [List.map_cons] at r
  cases r with
  | @cons a b as bs h t =>
   obtain ⟨rs,c,q⟩:=qDT (P:=P) (w:=w) t
   obtain ⟨b1,b2⟩:=b
   exact ⟨(p.1,b2)::rs,⟨kV_is h.1,rfl,c⟩,.cons ⟨rfl,h.2⟩ q⟩
noncomputable def tDisp (trs:List (TE × TE)):TE:=fun σ H Q=>∀ p,H p=none→tPairs trs σ (upd H p (.dK [])) fun ps H2=>H2 p=some (.dK [])∧∃ kvs:List (Key × V),ps=kvs.map (fun kv=>(kV kv.1,kv.2))∧kvs.length≤15∧Q (.ref p) (upd H2 p (.dK (mergeK [] kvs)))
theorem pe_disp {X:Cx} {pos:Pos} {keys:List (Option Expr)} {values:List Expr} {trs:List (TE × TE)} (h:PPs X pos keys values trs) (hall:keys.all (·.isSome)=true) (hl:keys.length=values.length) (h0:keys≠[])
    (h15:keys.length≤15):PE X (.Dict keys values pos) (tDisp trs):=by
  intro pins s σ H Q I q
  have hn:=I.hok.fresh (Nat.le_refl s.heap.objs.size)
  have I1:=I.laid (a:=s.heap.objs.size) (o:=.dK []) (h':=s.heap.push { cls:=.type "dict",data:=.dict #[] }) (t':=s.toks) (fun _ _ q=>Heap.get?_push_of_some _ q) (Nat.le_refl _) (qFw s.heap I.big)
  refine wpAny_Dict_walk (knd:=mixKind X.prog X.w) hall hl h0 h15 (thn (h pins _ σ _ _ I1 (q _ hn)) fun ws s2 ⟨ps,H2,I2,rel,e,kvs,ep,lk,q2⟩=>?_)
  subst ep
  obtain ⟨rs,c,rk⟩:=qDT (P:=X.prog) (w:=X.w) rel
  obtain ⟨z,hd,vs0,r0,dd⟩:=dk_of I2.hok e
  cases r0
  refine ⟨rs,c,dd,fun h' dd' hs=>⟨.ref s.heap.objs.size,_,?_,rfl,q2⟩⟩
  have hz:(mergeK [] kvs).length≤sizeLine:=by
    have h1:=qBt kvs []
    rw [List.length_nil] at h1
    rw [sizeLine_eq];omega
  have he:∃ q,h'.get? s.heap.objs.size=some q:=let ⟨q,_,_,hq,_⟩:=dd';⟨q,hq⟩
  exact d_write I2 (by rw [e];exact True.intro) hs he (dk_new hz hd (rk.merge .nil) dd')
end L2
set_option Elab.async false
set_option linter.all false
set_option genSizeOf false
set_option genSizeOfSpec false
set_option genInjectivity false
namespace Fy
open PySem
noncomputable abbrev Tx:=List Nat
inductive D where
 | non | bl (b:Bool) | int (i:Int) | str (x:Tx) | tup (xs:List D) | ref (i:Nat)
 deriving Inhabited
inductive Ky where
 | int (i:Int) | str (x:Tx)
 deriving DecidableEq
inductive O where
 | lst (xs:List D) | rol (xs:List D) | ins (c:Nat) (fs:List (Nat × D)) | dct (kvs:List (Ky × D)) | xc (c:Nat)
 deriving Inhabited
noncomputable def nmGo:Nat→Nat→List Nat→List Nat
 | 0,_,acc=>acc
 | f+1,n,acc=>if n=0 then acc else nmGo f (n / 256) (n % 256::acc)
noncomputable def nmOf (n:Nat):Str:=⟨(nmGo 60 n []).toArray⟩
noncomputable abbrev AH:=List O
noncomputable abbrev Env:=List (Option D)
inductive R (α:Type) where
 | ok (a:α) (h:AH) | exc (c:Nat) (h:AH) | bad
noncomputable abbrev M (α:Type):=AH→R α
noncomputable def R.bind {α β:Type}:R α→(α→AH→R β)→R β
 | .ok a h,f=>f a h
 | .exc c h,_=>.exc c h
 | .bad,_=>.bad
noncomputable def M.bind {α β:Type} (m:M α) (f:α→M β):M β:=fun h=>(m h).bind f
noncomputable def R.calm {α:Type}:R α→R α
 | .exc _ _=>.bad
 | r=>r
noncomputable def M.calm {α:Type} (m:M α):M α:=fun h=>(m h).calm
noncomputable def M.ret {α:Type} (a:α):M α:=fun h=>.ok a h
noncomputable def M.bad {α:Type}:M α:=fun _=>.bad
noncomputable def M.when {α:Type} (c:Prop) [Decidable c] (m:M α):M α:=fun h=>if c then m h else .bad
noncomputable def qKB (o:O):M D:=fun h=>.ok (.ref h.length) (h++[o])
noncomputable def getL (h:AH) (i:Nat):Option (List D):=match h[i]? with
 | some (.lst xs)=>some xs
 | some (.rol xs)=>some xs
 | _=>none
noncomputable def liveN (h:AH) (i:Nat):Nat:=((getL h i).getD []).length+1
noncomputable def newL (xs:List D):M D:=M.when (xs.length≤16777216) (qKB (.lst xs))
inductive Ty where
 | int | str | bool | list | tuple
 deriving DecidableEq
inductive Un where
 | neg | len | str | int | ord | tuple | list | all | any | isN | notN | isB (b:Bool) | isi (t:Ty) | fmt | upper | sum | clear | isx (cs xl:List Nat) | fld (k:Nat) | nsB (b:Bool) | rev | sorted | lrng
 deriving DecidableEq
inductive Bi where
 | add | sub | mul | fdiv | mod | pow | eq | ne | lt | le | gt | ge | isin | notin | ix | min2 | max2 | find | split | join | append | zfill | remove | get | pop | starts | index | part | rpart | lpop | lrng
 deriving DecidableEq
noncomputable def b2i (b:Bool):Int:=if b then 1 else 0
noncomputable def isiD (h:AH) (t:Ty) (d:D):Option Bool:=match d with
 | .non=>some false
 | .bl _=>some (t == .bool || t == .int)
 | .int _=>some (t == .int)
 | .str _=>some (t == .str)
 | .tup _=>some (t == .tuple)
 | .ref i=>(getL h i).map fun _=>t == .list
noncomputable def txI (i:Int):Tx:=(toString i).toList.map Char.toNat
noncomputable def truth (d:D):M Bool:=fun h=>match d with
 | .non=>.ok false h
 | .bl b=>.ok b h
 | .int i=>.ok (i != 0) h
 | .str x=>if x.length≤16777216 then .ok (!x.isEmpty) h else .bad
 | .tup xs=>.ok (!xs.isEmpty) h
 | .ref i=>match getL h i with
  | some xs=>.ok (!xs.isEmpty) h
  | none=>.bad
noncomputable def qAj:List D→Option (List Bool)
 | []=>some []
 | .bl b::r=>(qAj r).map (b::·)
 | _::_=>none
noncomputable def allB (xs:List D):Option Bool:=(qAj xs).map (·.all id)
noncomputable def anyB (xs:List D):Option Bool:=(qAj xs).map (·.any id)
noncomputable def eqW (f:D→D→Option Bool):List D→List D→Option Bool
 | [],[]=>some true
 | [],_::_=>some false
 | _::_,[]=>some false
 | x::xs,y::ys=>match f x y,eqW f xs ys with
  | some a,some b=>some (a&&b)
  | _,_=>none
noncomputable def eqD (h:AH):Nat→D→D→Option Bool
 | _,.non,.non=>some true
 | _,.bl a,.bl b=>some (a == b)
 | _,.int a,.int b=>some (a == b)
 | _,.str a,.str b=>some (a == b)
 | _,.bl a,.int b=>some (b2i a == b)
 | _,.int a,.bl b=>some (a == b2i b)
 | n+1,.tup xs,.tup ys=>eqW (eqD h n) xs ys
 | n+1,.ref i,.ref j=>match getL h i,getL h j with
  | some xs,some ys=>eqW (eqD h n) xs ys
  | _,_=>none
 | _,.non,.bl _=>some false
 | _,.non,.int _=>some false
 | _,.non,.str _=>some false
 | _,.bl _,.non=>some false
 | _,.int _,.non=>some false
 | _,.str _,.non=>some false
 | _,.int _,.str _=>some false
 | _,.str _,.int _=>some false
 | _,.bl _,.str _=>some false
 | _,.str _,.bl _=>some false
 | _,.tup _,.non=>some false
 | _,.tup _,.bl _=>some false
 | _,.tup _,.int _=>some false
 | _,.tup _,.str _=>some false
 | _,.non,.tup _=>some false
 | _,.bl _,.tup _=>some false
 | _,.int _,.tup _=>some false
 | _,.str _,.tup _=>some false
 | _,.ref i,.tup _=>(getL h i).map fun _=>false
 | _,.tup _,.ref i=>(getL h i).map fun _=>false
 | _,.ref i,.non=>(getL h i).map fun _=>false
 | _,.ref i,.bl _=>(getL h i).map fun _=>false
 | _,.ref i,.int _=>(getL h i).map fun _=>false
 | _,.ref i,.str _=>(getL h i).map fun _=>false
 | _,.non,.ref i=>(getL h i).map fun _=>false
 | _,.bl _,.ref i=>(getL h i).map fun _=>false
 | _,.int _,.ref i=>(getL h i).map fun _=>false
 | _,.str _,.ref i=>(getL h i).map fun _=>false
 | _,_,_=>none
noncomputable def ixN (n:Nat) (i:Int):Option Nat:=if 0≤i then (if i<n then some i.toNat else none) else if -(n:Int)≤i then some (i+n).toNat else none
noncomputable def cutN (n d:Nat):Option Int→Nat
 | none=>d
 | some v=>if v<0 then (v+n).toNat else min v.toNat n
noncomputable def cutX {α:Type} (xs:List α) (lo hi:Option Int):List α:=(xs.drop (cutN xs.length 0 lo)).take (cutN xs.length xs.length hi-cutN xs.length 0 lo)
noncomputable def isDig (x:Tx):Bool:=x.all fun c=>decide (48≤c∧c≤57)
noncomputable def digV (x:Tx):Nat:=x.foldl (fun acc c=>acc*10+(c-48)) 0
noncomputable def upC (c:Nat):Nat:=if 97≤c∧c≤122 then c-32 else c
noncomputable def getN (k:Nat):List (Nat × D)→Option D
 | []=>none
 | (g,x)::r=>if g == k then some x else getN k r
noncomputable def putN (k:Nat) (d:D):List (Nat × D)→List (Nat × D)
 | []=>[(k,d)]
 | (g,x)::r=>if g == k then (g,d)::r else (g,x)::putN k d r
noncomputable def tbN:List (Nat × Nat)→Nat→Option Nat
 | [],_=>none
 | (g,x)::r,k=>if g == k then some x else tbN r k
noncomputable def qAO:List D→Option (List Int)
 | []=>some []
 | .int x::r=>(qAO r).map (x::·)
 | _::_=>none
noncomputable def insZ (x:Int):List Int→List Int
 | []=>[x]
 | y::r=>if x≤y then x::y::r else y::insZ x r
noncomputable def sortZ:List Int→List Int
 | []=>[]
 | x::r=>insZ x (sortZ r)
noncomputable def qAH (i:Int):Prop:=-4611686018427387904≤i∧i<4611686018427387904
instance (i:Int):Decidable (qAH i):=by unfold qAH;exact inferInstance
noncomputable def qAR (lo:Int) (n:Nat):List D:=(List.range n).map fun (k:Nat)=>D.int (lo+k)
noncomputable def unD (o:Un) (d:D):M D:=fun h=>match o,d with
 | .neg,.int i=>.ok (.int (-i)) h
 | .len,.str x=>if x.length≤16777216 then .ok (.int x.length) h else .bad
 | .len,.tup xs=>.ok (.int xs.length) h
 | .len,.ref i=>match getL h i with
  | some xs=>.ok (.int xs.length) h
  | none=>.bad
 | .str,.int i=>if i.natAbs.log2<1920 then .ok (.str (txI i)) h else .bad
 | .int,.int i=>.ok (.int i) h
 | .int,.bl b=>.ok (.int (b2i b)) h
 | .int,.str x=>if x≠[]∧x.length≤640∧isDig x=true then .ok (.int (digV x)) h else .bad
 | .ord,.str x=>match x with
  | [c]=>.ok (.int c) h
  | _=>.bad
 | .tuple,.tup xs=>.ok (.tup xs) h
 | .tuple,.ref i=>match getL h i with
  | some xs=>.ok (.tup xs) h
  | none=>.bad
 | .list,.tup xs=>newL xs h
 | .list,.ref i=>match getL h i with
  | some xs=>newL xs h
  | none=>.bad
 | .all,.ref i=>match (getL h i).bind allB with
  | some b=>.ok (.bl b) h
  | none=>.bad
 | .any,.ref i=>match (getL h i).bind anyB with
  | some b=>.ok (.bl b) h
  | none=>.bad
 | .sum,.ref i=>match (getL h i).bind qAO with
  | some xs=>.ok (.int xs.sum) h
  | none=>.bad
 | .sorted,.ref i=>match (getL h i).bind qAO with
  | some xs=>if xs.length<64 then newL ((sortZ xs).map .int) h else .bad
  | none=>.bad
 | .lrng,.int j=>if qAH j then newL (qAR 0 j.toNat) h else .bad
 | .rev,.ref i=>match getL h i with
  | some xs=>newL xs.reverse h
  | none=>.bad
 | .clear,.ref i=>match h[i]? with
  | some (.lst _)=>.ok .non (h.set i (.lst []))
  | _=>.bad
 | .fld k,.ref i=>match h[i]? with
  | some (.ins _ fs)=>match getN k fs with
   | some d=>.ok d h
   | none=>.bad
  | _=>.bad
 | .isx cs xl,.ref i=>match h[i]? with
  | some (.xc c)=>if xl.contains c then .ok (.bl (cs.contains c)) h else .bad
  | _=>.bad
 | .upper,.str x=>if x.length≤1000000∧x.all (fun c=>decide (c<128))=true then .ok (.str (x.map upC)) h else .bad
 | .isN,d=>.ok (.bl (match d with | .non=>true | _=>false)) h
 | .notN,d=>.ok (.bl (match d with | .non=>false | _=>true)) h
 | .isB b,.bl c=>.ok (.bl (b == c)) h
 | .isB _,.non=>.ok (.bl false) h
 | .isB _,.int _=>.ok (.bl false) h
 | .isB _,.str _=>.ok (.bl false) h
 | .nsB b,.bl c=>.ok (.bl (!(b == c))) h
 | .nsB _,.non=>.ok (.bl true) h
 | .nsB _,.int _=>.ok (.bl true) h
 | .nsB _,.str _=>.ok (.bl true) h
 | .isi t,d=>match isiD h t d with
  | some b=>.ok (.bl b) h
  | none=>.bad
 | _,_=>.bad
noncomputable def mulOk (i j:Int):Prop:=(-18446744073709551616<i∧i<18446744073709551616)∨(-18446744073709551616<j∧j<18446744073709551616)
instance (i j:Int):Decidable (mulOk i j):=by unfold mulOk;exact inferInstance
noncomputable def eqTop (h:AH) (x y:D):Option Bool:=eqD h 40 x y
noncomputable def inTx (x y:Tx):Option Bool:=match x with
 | [c]=>some (y.contains c)
 | _=>none
noncomputable def findC (a:Tx) (c:Nat):Int:=match a.findIdx? (· == c) with
  | some i=>i
  | none=>-1
noncomputable def posC (c:Nat):Nat→Tx→List Nat
 | _,[]=>[]
 | k,x::r=>if x=c then k::posC c (k+1) r else posC c (k+1) r
noncomputable def lastC (c:Nat):Nat→Tx→Option Nat
 | _,[]=>none
 | k,x::r=>match lastC c (k+1) r with
  | some i=>some i
  | none=>if x=c then some k else none
noncomputable def qFk (a:Tx) (cuts:List Nat):List Tx:=((0::cuts.map (·+1)).zip (cuts++[a.length])).map fun p=>(a.drop p.1).take (p.2-p.1)
noncomputable def partT (a:Tx) (c:Nat):List Tx:=match posC c 0 a with
 | i::_=>[a.take i,[c],a.drop (i+1)]
 | []=>[a,[],[]]
noncomputable def qJs (a:Tx) (c:Nat):List Tx:=match lastC c 0 a with
 | some i=>[a.take i,[c],a.drop (i+1)]
 | none=>[[],[],a]
noncomputable def qAW:List D→Option (List Tx)
 | []=>some []
 | .str x::r=>(qAW r).map (x::·)
 | _::_=>none
noncomputable def joinT (sep:Tx):List Tx→Tx
 | []=>[]
 | [x]=>x
 | x::y::r=>x++sep++joinT sep (y::r)
noncomputable def joinN (sep:Tx) (xs:List Tx):Nat:=(xs.map List.length).sum+xs.length*sep.length
noncomputable def remD (f:D→Option Bool):List D→Option (List D)
 | []=>none
 | x::xs=>match f x with
  | some true=>some xs
  | some false=>(remD f xs).map (x::·)
  | none=>none
noncomputable def anyD (f:D→Option Bool):List D→Option Bool
 | []=>some false
 | x::xs=>match f x,anyD f xs with
  | some a,some b=>some (a || b)
  | _,_=>none
noncomputable def valY (kvs:List (Ky × D)) (k:Ky):Option D:=(kvs.find? fun kv=>decide (kv.1=k)).map (·.2)
noncomputable def putY (kvs:List (Ky × D)) (k:Ky) (d:D):List (Ky × D):=if (kvs.any fun kv=>decide (kv.1=k))=true then kvs.map (fun kv=>if kv.1=k then (kv.1,d) else kv) else kvs++[(k,d)]
noncomputable def qFo (kvs more:List (Ky × D)):List (Ky × D):=more.foldl (fun acc kv=>putY acc kv.1 kv.2) kvs
noncomputable def ixK (k:Nat) (y:Ky):M D:=fun h=>match h[k]? with
 | some (.dct kvs)=>match valY kvs y with
  | some d=>.ok d h
  | none=>.bad
 | _=>.bad
noncomputable def hasK (k:Nat) (y:Ky):M D:=fun h=>match h[k]? with
 | some (.dct kvs)=>.ok (.bl (valY kvs y).isSome) h
 | _=>.bad
noncomputable def putKD (d:D) (k:Nat) (y:Ky):M Unit:=fun h=>match h[k]? with
 | some (.dct kvs)=>if kvs.length<16777216 then .ok () (h.set k (.dct (putY kvs y d))) else .bad
 | _=>.bad
noncomputable def getK (k:Nat) (y:Ky):M D:=fun h=>match h[k]? with
 | some (.dct kvs)=>.ok ((valY kvs y).getD .non) h
 | _=>.bad
noncomputable def dropY (kvs:List (Ky × D)) (k:Ky):List (Ky × D):=kvs.filter fun kv=>decide (kv.1≠k)
noncomputable def popK (k:Nat) (y:Ky):M D:=fun h=>match h[k]? with
 | some (.dct kvs)=>match valY kvs y with
  | some d=>.ok d (h.set k (.dct (dropY kvs y)))
  | none=>.bad
 | _=>.bad
noncomputable def lpopK (k:Nat) (i:Int):M D:=fun h=>match h[k]? with
 | some (.lst xs)=>if xs.length≤16777216 then (match ixN xs.length i with
  | some j=>(match xs[j]? with
   | some d=>.ok d (h.set k (.lst (xs.eraseIdx j)))
   | none=>.bad)
  | none=>.bad) else .bad
 | _=>.bad
noncomputable def setdK (k:Nat) (y:Ky) (d:D):M D:=fun h=>match h[k]? with
 | some (.dct kvs)=>match valY kvs y with
  | some x=>.ok x h
  | none=>if kvs.length<16777216 then .ok d (h.set k (.dct (putY kvs y d))) else .bad
 | _=>.bad
noncomputable def getdD (x y z:D):M D:=fun h=>match x,y with
 | .ref k,.int i=>match h[k]? with
  | some (.dct kvs)=>.ok ((valY kvs (.int i)).getD z) h
  | _=>.bad
 | _,_=>.bad
noncomputable def setdD (x y z:D):M D:=match x,y with
 | .ref k,.int i=>setdK k (.int i) z
 | _,_=>M.bad
noncomputable def splmD (x y z:D):M D:=fun h=>match x,y,z with
 | .str a,.str b,.int k=>match b with
  | [c]=>if (c<256∧a.length≤1000000)∧0≤k∧k≤1000000 then newL ((qFk a ((posC c 0 a).take k.toNat)).map .str) h else .bad
  | _=>.bad
 | _,_,_=>.bad
noncomputable def dispD (ks:List Ky) (ds:List D) (p:Nat):M D:=fun h=>match h[p]? with
 | some (.dct [])=>if ks.length=ds.length∧ks.length≤15 then .ok (.ref p) (h.set p (.dct (qFo [] (ks.zip ds)))) else .bad
 | _=>.bad
noncomputable def biD (o:Bi) (x y:D):M D:=fun h=>match o,x,y with
  | .add,.int i,.int j=>.ok (.int (i+j)) h
  | .add,.str a,.str b=>if a.length+b.length≤16777216 then .ok (.str (a++b)) h else .bad
  | .add,.tup a,.tup b=>if a.length+b.length≤16777216 then .ok (.tup (a++b)) h else .bad
  | .add,.ref i,.ref j=>match h[i]?,h[j]? with
    | some (.lst xs),some (.lst ys)=>newL (xs++ys) h
    | _,_=>.bad
  | .sub,.int i,.int j=>.ok (.int (i-j)) h
  | .mul,.int i,.int j=>if mulOk i j then .ok (.int (i*j)) h else .bad
  | .fdiv,.int i,.int j=>if 0<j∧j<1073741824 then .ok (.int (i / j)) h else .bad
  | .mod,.int i,.int j=>if 0<j then .ok (.int (i % j)) h else .bad
  | .pow,.int i,.int j=>if 0≤j∧j≤1000000∧i.natAbs<18446744073709551616 then .ok (.int (i ^ j.toNat)) h else .bad
  | .eq,x,y=>match eqTop h x y with
    | some b=>.ok (.bl b) h
    | none=>.bad
  | .ne,x,y=>match eqTop h x y with
    | some b=>.ok (.bl (!b)) h
    | none=>.bad
  | .lt,.int i,.int j=>.ok (.bl (decide (i<j))) h
  | .le,.int i,.int j=>.ok (.bl (decide (i≤j))) h
  | .gt,.int i,.int j=>.ok (.bl (decide (j<i))) h
  | .ge,.int i,.int j=>.ok (.bl (decide (j≤i))) h
  | .isin,.str a,.str b=>match inTx a b with
    | some r=>.ok (.bl r) h
    | none=>.bad
  | .isin,.int a,.ref i=>match (getL h i).bind qAO with
    | some xs=>.ok (.bl (xs.contains a)) h
    | none=>hasK i (.int a) h
  | .isin,.str a,.tup xs=>match qAW xs with
    | some ys=>.ok (.bl (ys.contains a)) h
    | none=>.bad
  | .isin,.tup a,.ref i=>match (getL h i).bind (anyD fun x=>eqTop h x (.tup a)) with
    | some b=>.ok (.bl b) h
    | none=>.bad
  | .notin,.int a,.ref i=>match (getL h i).bind qAO with
    | some xs=>.ok (.bl (!xs.contains a)) h
    | none=>.bad
  | .notin,.str a,.str b=>match inTx a b with
    | some r=>.ok (.bl (!r)) h
    | none=>.bad
  | .ix,.tup xs,.int i=>match (ixN xs.length i).bind (xs[·]?) with
    | some d=>.ok d h
    | none=>.bad
  | .ix,.str x,.int i=>if x.length≤16777216 then match (ixN x.length i).bind (x[·]?) with
    | some c=>.ok (.str [c]) h
    | none=>.bad
    else .bad
  | .ix,.ref k,.int i=>match (getL h k).bind fun xs=>(ixN xs.length i).bind (xs[·]?) with
    | some d=>.ok d h
    | none=>ixK k (.int i) h
  | .ix,.ref k,.str x=>ixK k (.str x) h
  | .min2,.int i,.int j=>.ok (.int (if j<i then j else i)) h
  | .max2,.int i,.int j=>.ok (.int (if j > i then j else i)) h
  | .find,.str a,.str b=>match b with
    | [c]=>.ok (.int (findC a c)) h
    | _=>.bad
  | .zfill,.str x,.int n=>if 0≤n∧n≤1000∧isDig x=true∧x.length≤1000 then .ok (.str (List.replicate (n.toNat-x.length) 48++x)) h else .bad
  | .join,.str x,.ref i=>match (getL h i).bind qAW with
    | some xs=>if joinN x xs≤16777216 then .ok (.str (joinT x xs)) h else .bad
    | none=>.bad
  | .append,.ref k,d=>match h[k]? with
    | some (.lst xs)=>if xs.length<16777216 then .ok .non (h.set k (.lst (xs++[d]))) else .bad
    | _=>.bad
  | .remove,.ref k,d=>match h[k]? with
    | some (.lst xs)=>match remD (fun x=>eqTop h x d) xs with
      | some ys=>.ok .non (h.set k (.lst ys))
      | none=>.bad
    | _=>.bad
  | .split,.str a,.str b=>match b with
    | [c]=>if c<256∧a.length≤1000000 then newL ((qFk a (posC c 0 a)).map .str) h else .bad
    | _=>.bad
  | .part,.str a,.str b=>match b with
    | [c]=>if a.length≤1000000 then .ok (.tup ((partT a c).map .str)) h else .bad
    | _=>.bad
  | .rpart,.str a,.str b=>match b with
    | [c]=>if a.length≤1000000 then .ok (.tup ((qJs a c).map .str)) h else .bad
    | _=>.bad
  | .get,.ref k,.int i=>getK k (.int i) h
  | .pop,.ref k,.int i=>popK k (.int i) h
  | .lpop,.ref k,.int i=>lpopK k i h
  | .lrng,.int i,.int j=>if qAH i∧qAH j then newL (qAR i (j-i).toNat) h else .bad
  | .starts,.str a,.str b=>.ok (.bl (b.isPrefixOf a)) h
  | .index,.ref k,.bl b=>match (getL h k).bind qAj with
    | some bs=>if bs.findIdx (· == b)<bs.length then .ok (.int (bs.findIdx (· == b))) h else .bad
    | none=>.bad
  | _,_,_=>.bad
noncomputable def slD (x:D) (l u:Option Int):M D:=fun h=>match x with
 | .str x=>if x.length≤16777216 then .ok (.str (cutX x l u)) h else .bad
 | .tup xs=>.ok (.tup (cutX xs l u)) h
 | .ref i=>match getL h i with
  | some xs=>newL (cutX xs l u) h
  | none=>.bad
 | _=>.bad
noncomputable def meOk (o:Bi) (x:D):M Unit:=fun h=>match o,x with
 | .append,.ref i=>match getL h i with
  | some _=>.ok () h
  | none=>.bad
 | .remove,.ref i=>match getL h i with
  | some _=>.ok () h
  | none=>.bad
 | .lpop,.ref i=>match getL h i with
  | some _=>.ok () h
  | none=>.bad
 | .find,.str _=>.ok () h
 | .split,.str _=>.ok () h
 | .part,.str _=>.ok () h
 | .rpart,.str _=>.ok () h
 | .join,.str _=>.ok () h
 | .zfill,.str _=>.ok () h
 | .starts,.str _=>.ok () h
 | .get,.ref i=>match h[i]? with
  | some (.dct _)=>.ok () h
  | _=>.bad
 | .pop,.ref i=>match h[i]? with
  | some (.dct _)=>.ok () h
  | _=>.bad
 | .index,.ref i=>match getL h i with
  | some _=>.ok () h
  | none=>.bad
 | _,_=>.bad
noncomputable def mclsD (m:Nat) (x:D):M Nat:=fun h=>match x with
 | .ref i=>match h[i]? with
  | some (.ins c fs)=>if (getN m fs).isNone then .ok c h else .bad
  | _=>.bad
 | _=>.bad
noncomputable def setFD (k:Nat) (cs:List Nat) (d x:D):M Unit:=fun h=>match x with
 | .ref i=>match h[i]? with
  | some (.ins c fs)=>if cs.contains c=true∧fs.length<1000 then .ok () (h.set i (.ins c (putN k d fs))) else .bad
  | _=>.bad
 | _=>.bad
noncomputable def qDK (d x y:D):M Unit:=fun h=>match x,y with
 | .ref k,.int j=>match h[k]? with
  | some (.lst xs)=>match ixN xs.length j with
   | some p=>.ok () (h.set k (.lst (xs.set p d)))
   | none=>.bad
  | _=>putKD d k (.int j) h
 | .ref k,.str x=>putKD d k (.str x) h
 | _,_=>.bad
noncomputable def makeD (F:Nat→List D→M D) (c f:Nat) (xs:List D):M D:=fun h=>(F f (.ref h.length::xs) (h++[.ins c []])).bind fun d h'=>match d with
 | .non=>.ok (.ref h.length) h'
 | _=>.bad
noncomputable def intD (d:D):M (Option Int):=fun h=>match d with
 | .int i=>.ok (some i) h
 | _=>.bad
mutual
inductive CE where
 | lit (d:D) | var (i:Nat) | un (o:Un) (a:CE) | bi (o:Bi) (a b:CE) | sl (a:CE) (lo hi:CP)
 | and (a b:CE) | or (a b:CE) | not (a:CE) | ite (c:CT) (a b:CE) | chain (o p:Bi) (a b c:CE) | me (o:Bi) (a b:CE) | setd (a b c:CE) | getd (a b c:CE) | splm (a b c:CE)
 | tup (es:CL) | lst (es:CL) | disp (ks:List Ky) (es:CL) | call (f:Nat) (es:CL) | meth (m:Nat) (tb:List (Nat × Nat)) (a:CE) (es:CL) | make (c f:Nat) (es:CL) | comp (elt:CE) (it:CI) | compIf (elt:CE) (c:CT) (it:CI) | comp2 (elt:CE) (it:CI) | compIf2 (elt:CE) (c:CT) (it:CI)
inductive CT where
 | val (e:CE) | and (a b:CT) | or (a b:CT) | not (a:CT)
inductive CL where
 | nil | cons (e:CE) (r:CL)
inductive CI where
 | of (e:CE) | rng1 (e:CE) | rng2 (a b:CE) | rng3 (a b c:CE) | zip (a b:CE)
inductive CP where
 | no | at (e:CE)
end
inductive TG where
 | nm (i:Nat) | two (i j:Nat)
mutual
inductive CS where
 | skip | opq | seq (a b:CS) | set (t:TG) (e:CE) | exp (e:CE) | ret (e:CE) | retN | ite (c:CT) (a b:CS)
 | fori (t:TG) (it:CI) (b:CS) | forE (i j:Nat) (e:CE) (b:CS) | whil (c:CT) (b:CS) | brk | cnt | raise (c:Nat) | setF (a:CE) (k:Nat) (cs:List Nat) (e:CE) | setIx (a i e:CE) | tryx (b:CS) (hs:CH)
inductive CH where
 | nil | cons (cs:List Nat) (k:CS) (r:CH) | as (cs:List Nat) (i:Nat) (k:CS) (r:CH)
end
inductive It where
 | row (xs:List D) | live (i:Nat) | pairs (xs:List D)
noncomputable def nS (i j k:Int):Nat:=if i<j then ((j-i-1) / k+1).toNat else 0
noncomputable def qMp (lo st:Int) (n:Nat):List D:=(List.range n).map fun (k:Nat)=>D.int (lo+k*st)
noncomputable def zipT (x y:Tx):List D:=(x.zip y).map fun p=>.tup [.str [p.1],.str [p.2]]
noncomputable def itOf (d:D):M It:=fun h=>match d with
 | .str x=>.ok (.row (x.map fun c=>.str [c])) h
 | .tup xs=>.ok (.row xs) h
 | .ref i=>match getL h i with
  | some _=>.ok (.live i) h
  | none=>.bad
 | _=>.bad
noncomputable def compF (m:Env→M D) (σ:Env) (x:D):M (Option D):=(m (σ++[some x])).calm.bind fun y=>M.ret (some y)
noncomputable def qAw (m:Env→M D) (c:Env→M Bool) (σ:Env) (x:D):M (Option D):=(c (σ++[some x])).calm.bind fun k=>if k then (m (σ++[some x])).calm.bind fun y=>M.ret (some y) else M.ret none
noncomputable def twoF (f:Env→D→M (Option D)) (env:Env) (x:D):M (Option D):=match x with
 | .tup [a,b]=>f (env++[some a]) b
 | _=>fun _=>.bad
noncomputable def qAI (f:D→M (Option D)):List D→M (List D)
 | []=>M.ret []
 | x::xs=>(f x).bind fun y=>(qAI f xs).bind fun ys=>M.ret (match y with | some y=>y::ys | none=>ys)
noncomputable def qAE (f:D→M (Option D)) (i:Nat):Nat→Nat→M (List D)
 | 0,_=>M.bad
 | n+1,k=>fun h=>match getL h i with
  | none=>.bad
  | some xs=>match xs[k]? with
   | none=>.ok [] h
   | some x=>((f x).bind fun y=>(qAE f i n (k+1)).bind fun ys=>M.ret (match y with | some y=>y::ys | none=>ys)) h
noncomputable def mapIt (f:D→M (Option D)):It→M (List D)
 | .row xs=>M.when (xs.length<16777216) (qAI f xs)
 | .live i=>fun h=>M.when (liveN h i<16777216) (qAE f i (liveN h i) 0) h
 | .pairs _=>M.bad
noncomputable def qCf (f:D→M (Option D)):It→M (List D)
 | .pairs xs=>M.when (xs.length<16777216) (qAI f xs)
 | .row xs=>mapIt f (.row xs)
 | .live i=>mapIt f (.live i)
section
variable (F:Nat→List D→M D)
mutual
noncomputable def den:CE→Env→M D
 | .lit d,_=>M.ret d
 | .var i,σ=>fun h=>match σ[i]? with
  | some (some d)=>.ok d h
  | _=>.bad
 | .un o a,σ=>(den a σ).bind (unD o)
 | .bi o a b,σ=>(den a σ).bind fun x=>(den b σ).bind fun y=>biD o x y
 | .sl a lo hi,σ=>(den a σ).bind fun x=>(denP lo σ).bind fun l=>(denP hi σ).bind fun u=>slD x l u
 | .and a b,σ=>(den a σ).bind fun x=>match x with
  | .bl true=>den b σ
  | .bl false=>M.ret (.bl false)
  | _=>M.bad
 | .or a b,σ=>(den a σ).bind fun x=>match x with
  | .bl true=>M.ret (.bl true)
  | .bl false=>den b σ
  | _=>M.bad
 | .not a,σ=>((den a σ).bind truth).bind fun b=>M.ret (.bl (!b))
 | .ite c a b,σ=>(denT c σ).bind fun k=>if k then den a σ else den b σ
 | .chain o p a b c,σ=>(den a σ).bind fun x=>(den b σ).bind fun y=>(biD o x y).bind fun z=>match z with
  | .bl true=>(den c σ).bind fun w=>biD p y w
  | .bl false=>M.ret (.bl false)
  | _=>M.bad
 | .me o a b,σ=>(den a σ).bind fun x=>(meOk o x).bind fun _=>(den b σ).bind fun y=>biD o x y
 | .setd a b c,σ=>(den a σ).bind fun x=>(meOk .get x).bind fun _=>(den b σ).bind fun y=>(den c σ).bind fun z=>setdD x y z
 | .getd a b c,σ=>(den a σ).bind fun x=>(meOk .get x).bind fun _=>(den b σ).bind fun y=>(den c σ).bind fun z=>getdD x y z
 | .splm a b c,σ=>(den a σ).bind fun x=>(meOk .split x).bind fun _=>(den b σ).bind fun y=>(den c σ).bind fun z=>splmD x y z
 | .tup es,σ=>(denL es σ).bind fun xs=>M.when (xs.length≤16777216) (M.ret (.tup xs))
 | .lst es,σ=>(denL es σ).bind newL
 | .disp ks es,σ=>fun h=>(denL es σ (h++[.dct []])).bind fun ds=>dispD ks ds h.length
 | .call f es,σ=>(denL es σ).bind (F f)
 | .meth m tb a es,σ=>(den a σ).bind fun x=>(mclsD m x).bind fun c=>match tbN tb c with
  | some f=>(denL es σ).bind fun xs=>F f (x::xs)
  | none=>M.bad
 | .make c f es,σ=>(denL es σ).bind (makeD F c f)
 | .comp e it,σ=>(denI it σ).bind fun r=>(mapIt (compF (den e) σ) r).bind newL
 | .compIf e c it,σ=>(denI it σ).bind fun r=>(mapIt (qAw (den e) (denT c) σ) r).bind newL
 | .comp2 e it,σ=>(denI it σ).bind fun r=>(qCf (twoF (compF (den e)) σ) r).bind newL
 | .compIf2 e c it,σ=>(denI it σ).bind fun r=>(qCf (twoF (qAw (den e) (denT c)) σ) r).bind newL
noncomputable def denL:CL→Env→M (List D)
 | .nil,_=>M.ret []
 | .cons e r,σ=>(den e σ).bind fun x=>(denL r σ).bind fun xs=>M.ret (x::xs)
noncomputable def denI:CI→Env→M It
 | .of e,σ=>(den e σ).bind itOf
 | .rng1 e,σ=>(den e σ).bind fun x=>match x with
  | .int j=>M.when (qAH j) (M.ret (.row (qAR 0 j.toNat)))
  | _=>M.bad
 | .rng2 a b,σ=>(den a σ).bind fun x=>(den b σ).bind fun y=>match x,y with
  | .int i,.int j=>M.when (qAH i∧qAH j) (M.ret (.row (qAR i (j-i).toNat)))
  | _,_=>M.bad
 | .rng3 a b c,σ=>(den a σ).bind fun x=>(den b σ).bind fun y=>(den c σ).bind fun z=>match x,y,z with
  | .int i,.int j,.int k=>M.when ((qAH i∧qAH j)∧0<k∧k<1073741824) (M.ret (.row (qMp i k (nS i j k))))
  | _,_,_=>M.bad
 | .zip a b,σ=>(den a σ).bind fun x=>(den b σ).bind fun y=>match x,y with
  | .str x,.str y=>M.ret (.pairs (zipT x y))
  | _,_=>M.bad
noncomputable def denP:CP→Env→M (Option Int)
 | .no,_=>M.ret none
 | .at e,σ=>(den e σ).bind intD
noncomputable def denT:CT→Env→M Bool
 | .val e,σ=>(den e σ).bind truth
 | .and a b,σ=>(denT a σ).bind fun x=>if x then denT b σ else M.ret false
 | .or a b,σ=>(denT a σ).bind fun x=>if x then M.ret true else denT b σ
 | .not a,σ=>(denT a σ).bind fun b=>M.ret (!b)
end
end
inductive SR where
 | nx (σ:Env) (h:AH) | rt (d:D) (h:AH) | bk (σ:Env) (h:AH) | ct (σ:Env) (h:AH) | exc (c:Nat) (σ:Env) (h:AH) | bad
noncomputable def SR.ofR {α:Type} (σ:Env):R α→(α→AH→SR)→SR
 | .ok a h,f=>f a h
 | .exc c h,_=>.exc c σ h
 | .bad,_=>.bad
noncomputable def SR.andThen:SR→(Env→AH→SR)→SR
 | .nx σ h,f=>f σ h
 | r,_=>r
noncomputable def tgSet (t:TG) (d:D) (σ:Env):Option Env:=match t with
 | .nm i=>some (σ.set i (some d))
 | .two i j=>match d with
  | .tup [a,b]=>some ((σ.set i (some a)).set j (some b))
  | _=>none
noncomputable def SR.calm:SR→SR
 | .exc _ _ _=>.bad
 | r=>r
noncomputable def SR.rtO:SR→SR
 | .rt d h=>.rt d h
 | _=>.bad
noncomputable def SR.catch:SR→(Nat→Env→AH→SR)→SR
 | .exc c σ h,f=>f c σ h
 | r,_=>r
noncomputable def SR.turn:SR→(Env→AH→SR)→SR
 | .nx σ h,f=>f σ h
 | .ct σ h,f=>f σ h
 | .bk σ h,_=>.nx σ h
 | .exc _ _ _,_=>.bad
 | r,_=>r
noncomputable def qAv (t:TG) (b:Env→AH→SR) (x:D) (σ:Env) (h:AH):SR:=match tgSet t x σ with
 | some σ'=>b σ' h
 | none=>.bad
noncomputable def qCK (step:D→Env→AH→SR):List D→Env→AH→SR
 | [],σ,h=>.nx σ h
 | x::xs,σ,h=>(step x σ h).turn (qCK step xs)
noncomputable def qCD (step:D→Env→AH→SR) (i:Nat):Nat→Nat→Env→AH→SR
 | 0,_,_,_=>.bad
 | n+1,k,σ,h=>match getL h i with
  | none=>.bad
  | some xs=>match xs[k]? with
   | none=>.nx σ h
   | some x=>(step x σ h).turn (qCD step i n (k+1))
noncomputable def forIt (step:D→Env→AH→SR):It→Env→AH→SR
 | .row xs,σ,h=>qCK step xs σ h
 | .live i,σ,h=>qCD step i (liveN h i) 0 σ h
 | .pairs _,_,_=>.bad
noncomputable def forEn (step:D→Env→AH→SR) (i:Nat):Nat→Nat→Env→AH→SR
 | 0,_,_,_=>.bad
 | n+1,k,σ,h=>match getL h i with
  | none=>.bad
  | some xs=>match xs[k]? with
   | none=>.nx σ h
   | some x=>(step (.tup [.int k,x]) σ h).turn (forEn step i n (k+1))
noncomputable def qCY (c:Env→M Bool) (step:Env→AH→SR):Nat→Env→AH→SR
 | 0,_,_=>.bad
 | n+1,σ,h=>match c σ h with
  | .ok b h1=>if b then (step σ h1).turn (qCY c step n) else .nx σ h1
  | _=>.bad
section
variable (F:Nat→List D→M D) (B:Nat)
mutual
noncomputable def denS:CS→Env→AH→SR
 | .skip,σ,h=>.nx σ h
 | .opq,_,_=>.bad
 | .seq a b,σ,h=>(denS a σ h).andThen (denS b)
 | .set t e,σ,h=>SR.ofR σ (den F e σ h) fun d h1=>match tgSet t d σ with
  | some σ'=>.nx σ' h1
  | none=>.bad
 | .exp e,σ,h=>SR.ofR σ (den F e σ h) fun _ h1=>.nx σ h1
 | .ret e,σ,h=>SR.ofR σ (den F e σ h) fun d h1=>.rt d h1
 | .retN,_,h=>.rt .non h
 | .ite c a b,σ,h=>SR.ofR σ (denT F c σ h) fun k h1=>if k then denS a σ h1 else denS b σ h1
 | .fori t it b,σ,h=>SR.ofR σ (denI F it σ h).calm fun r h1=>forIt (qAv t (denS b)) r σ h1
 | .forE i j e b,σ,h=>SR.ofR σ (den F e σ h).calm fun d h1=>match d with
  | .ref k=>forEn (qAv (.two i j) (denS b)) k (liveN h1 k) 0 σ h1
  | _=>.bad
 | .whil c b,σ,h=>qCY (denT F c) (denS b) B σ h
 | .brk,σ,h=>.bk σ h
 | .cnt,σ,h=>.ct σ h
 | .raise c,σ,h=>.exc c σ h
 | .setF a k cs e,σ,h=>SR.ofR σ (den F e σ h) fun d h1=>SR.ofR σ ((den F a σ).bind (setFD k cs d) h1) fun _ h2=>.nx σ h2
 | .setIx a i e,σ,h=>SR.ofR σ (den F e σ h) fun d h1=>SR.ofR σ ((den F a σ).bind (fun x=>(den F i σ).bind fun y=>qDK d x y) h1) fun _ h2=>.nx σ h2
 | .tryx b hs,σ,h=>(denS b σ h).catch fun c σ' h'=>denH hs c σ' h'
noncomputable def denH:CH→Nat→Env→AH→SR
 | .nil,_,_,_=>.bad
 | .cons cs k r,c,σ,h=>if cs.contains c then (denS k σ h).calm else denH r c σ h
 | .as cs i k r,c,σ,h=>if cs.contains c then (denS k (σ.set i (some (.ref h.length))) (h++[.xc c])).rtO else denH r c σ h
end
end
structure Fn where
 ar:Nat
 sl:Nat
 body:CS
noncomputable def fin:SR→R D
 | .nx _ h'=>.ok .non h'
 | .rt d h'=>.ok d h'
 | .exc c _ h'=>.exc c h'
 | _=>.bad
noncomputable def runFn (F:Nat→List D→M D) (B:Nat) (f:Fn) (as:List D):M D:=fun h =>
 if as.length=f.ar then fin (denS F B f.body (as.map some++List.replicate (f.sl-f.ar) none) h) else .bad
noncomputable def callN (fs:List Fn) (B:Nat):Nat→Nat→List D→M D
 | 0,_,_=>M.bad
 | n+1,f,as=>match fs[f]? with
  | some fn=>runFn (callN fs B n) B fn as
  | none=>M.bad
end Fy
set_option Elab.async false
set_option linter.all false
namespace Fy
theorem M.bind_eq {α β:Type} (m:M α) (f:α→M β) (h:AH):M.bind m f h=(m h).bind f:=(rfl)
theorem R.bind_ok {α β:Type} (a:α) (h:AH) (f:α→AH→R β):R.bind (.ok a h) f=f a h:=(rfl)
theorem R.bind_exc {α β:Type} (c:Nat) (h:AH) (f:α→AH→R β):R.bind (.exc c h) f=.exc c h:=(rfl)
theorem R.bind_bad {α β:Type} (f:α→AH→R β):R.bind .bad f=.bad:=(rfl)
theorem M.ret_eq {α:Type} (a:α) (h:AH):M.ret a h=.ok a h:=(rfl)
theorem M.bad_eq {α:Type} (h:AH):(M.bad:M α) h=.bad:=(rfl)
theorem qG9 {α:Type} (σ:Env) (a:α) (h:AH) (f:α→AH→SR):SR.ofR σ (.ok a h) f=f a h:=(rfl)
theorem qKt {α:Type} (σ:Env) (c:Nat) (h:AH) (f:α→AH→SR):SR.ofR σ (.exc c h) f=.exc c σ h:=(rfl)
theorem qKu {α:Type} (σ:Env) (f:α→AH→SR):SR.ofR σ .bad f=.bad:=(rfl)
theorem qKD {α:Type} (c:Prop) [Decidable c] (m:M α) (h:AH):M.when c m h=if c then m h else .bad:=(rfl)
end Fy
namespace Fy
end Fy
namespace Fy
theorem qFZ (f:Env→AH→SR):SR.andThen .bad f=.bad:=(rfl)
theorem qCH (σ:Env) (h:AH) (f:Env→AH→SR):SR.andThen (.nx σ h) f=f σ h:=(rfl)
theorem qGZ (d:D) (h:AH) (f:Env→AH→SR):SR.andThen (.rt d h) f=.rt d h:=(rfl)
theorem qGb (σ:Env) (h:AH) (f:Env→AH→SR):SR.andThen (.bk σ h) f=.bk σ h:=(rfl)
theorem qGa (σ:Env) (h:AH) (f:Env→AH→SR):SR.andThen (.ct σ h) f=.ct σ h:=(rfl)
theorem qFY (c:Nat) (σ:Env) (h:AH) (f:Env→AH→SR):SR.andThen (.exc c σ h) f=.exc c σ h:=(rfl)
theorem qKL (σ:Env) (h:AH) (f:Env→AH→SR):SR.turn (.nx σ h) f=f σ h:=(rfl)
theorem qKM (σ:Env) (h:AH) (f:Env→AH→SR):SR.turn (.ct σ h) f=f σ h:=(rfl)
theorem qKN (σ:Env) (h:AH) (f:Env→AH→SR):SR.turn (.bk σ h) f=.nx σ h:=(rfl)
theorem qKK (d:D) (h:AH) (f:Env→AH→SR):SR.turn (.rt d h) f=.rt d h:=(rfl)
theorem qIf (c:Nat) (σ:Env) (h:AH) (f:Env→AH→SR):SR.turn (.exc c σ h) f=.bad:=(rfl)
theorem qEB (i:Nat) (b:Env→AH→SR) (x:D) (σ:Env) (h:AH):qAv (.nm i) b x σ h=b (σ.set i (some x)) h:=(rfl)
theorem qF5 (i j:Nat) (b:Env→AH→SR) (x y:D) (σ:Env) (h:AH):qAv (.two i j) b (.tup [x,y]) σ h=b ((σ.set i (some x)).set j (some y)) h:=(rfl)
theorem qHG {i j:Int} (h:-18446744073709551616<j∧j<18446744073709551616):mulOk i j:=.inr h
theorem qE7 {i j:Int} (h:-18446744073709551616<i∧i<18446744073709551616):mulOk i j:=.inl h
theorem qBw {h:AH} {i:Nat} {xs:List D} (g:AH) (e:getL h i=some xs):getL (h++g) i=some xs:=by
 unfold getL at e ⊢
 cases q:h[i]? with
 | none=>rw [q] at e;cases e
 | some o =>
  have hl:=(List.getElem?_eq_some_iff.mp q).1
  rw [List.getElem?_append_left hl,q]
  rw [q] at e
  exact e
end Fy
namespace Fy
theorem qIn (σ:Env) (h:AH):SR.calm (.nx σ h)=.nx σ h:=(rfl)
theorem qIm (d:D) (h:AH):SR.calm (.rt d h)=.rt d h:=(rfl)
theorem qHK (m i:Nat) (h:AH):mclsD m (.ref i) h=(match h[i]? with | some (.ins c fs)=>if (getN m fs).isNone then .ok c h else .bad | _=>.bad):=(rfl)
theorem qGt (k:Nat) (cs:List Nat) (d:D) (i:Nat) (h:AH):setFD k cs d (.ref i) h=(match h[i]? with | some (.ins c fs)=>if cs.contains c=true∧fs.length<1000 then .ok () (h.set i (.ins c (putN k d fs))) else .bad | _=>.bad):=(rfl)
theorem qF8 (d:D) (k:Nat) (j:Int) (h:AH):qDK d (.ref k) (.int j) h=(match h[k]? with | some (.lst xs)=>(match ixN xs.length j with | some p=>.ok () (h.set k (.lst (xs.set p d))) | none=>.bad) | _=>putKD d k (.int j) h):=(rfl)
theorem qF7 (d:D) (k:Nat) (x:Tx) (h:AH):qDK d (.ref k) (.str x) h=putKD d k (.str x) h:=(rfl)
theorem qMo (d:D) (h:AH):SR.rtO (.rt d h)=.rt d h:=(rfl)
theorem qJg (σ:Env) (h:AH) (f:Nat→Env→AH→SR):SR.catch (.nx σ h) f=.nx σ h:=(rfl)
theorem qJf (d:D) (h:AH) (f:Nat→Env→AH→SR):SR.catch (.rt d h) f=.rt d h:=(rfl)
theorem qID (c:Nat) (σ:Env) (h:AH) (f:Nat→Env→AH→SR):SR.catch (.exc c σ h) f=f c σ h:=(rfl)
theorem qLX:fin .bad=.bad:=(rfl)
theorem qNh (σ:Env) (h:AH):fin (.nx σ h)=.ok .non h:=(rfl)
theorem qEc (d:D) (h:AH):fin (.rt d h)=.ok d h:=(rfl)
theorem qLW (c:Nat) (σ:Env) (h:AH):fin (.exc c σ h)=.exc c h:=(rfl)
end Fy
namespace Fy
theorem qCq (I:Nat→Env→AH→Prop) (step:D→Env→AH→SR):∀ (xs:List D) (k:Nat) (σ:Env) (h:AH),I k σ h →
    (∀ j x σ h,xs[j]?=some x→I (k+j) σ h→∃ σ' h',step x σ h=.nx σ' h'∧I (k+j+1) σ' h')→∃ σ' h',qCK step xs σ h=.nx σ' h'∧I (k+xs.length) σ' h'
  | [],k,σ,h,i0,_=>⟨σ,h,rfl,i0⟩
  | x::xs,k,σ,h,i0,H=>by
    obtain ⟨σ1,h1,e1,i1⟩:=H 0 x σ h rfl i0
    obtain ⟨σ2,h2,e2,i2⟩:=qCq I step xs (k+1) σ1 h1 i1 fun j y σ h hy i=>by
      have:=H (j+1) y σ h (by simpa using hy) (by rw [show k+(j+1)=k+1+j by omega];exact i)
      rwa [show k+(j+1)=k+1+j by omega] at this
    refine ⟨σ2,h2,?_,by rw [List.length_cons,show k+(xs.length+1)=k+1+xs.length by omega];exact i2⟩
    rw [qCK,e1]
    exact e2
theorem qEI {lo:Int} {n j:Nat} {x:D} (h:(qAR lo n)[j]?=some x):j<n∧x=.int (lo+j):=by
 unfold qAR at h
 rw [List.getElem?_map] at h
 by_cases hj:j<n
 ·rw [List.getElem?_range hj] at h
  exact ⟨hj,(Option.some.inj h).symm⟩
 ·rw [List.getElem?_eq_none (by simp;omega)] at h
  cases h
theorem qBS (lo:Int) (n:Nat):(qAR lo n).length=n:=by
 unfold qAR
 simp
end Fy
namespace Fy
theorem qCd (f:D→M (Option D)) (g:D→D) (h:AH):∀ xs:List D,(∀ x∈xs,f x h=.ok (some (g x)) h)→qAI f xs h=.ok (xs.map g) h
 | [],_=>rfl
 | x::xs,H=>by
  have h1:=H x (List.mem_cons_self ..)
  have h2:=qCd f g h xs fun y hy=>H y (List.mem_cons_of_mem _ hy)
  unfold qAI
  simp only [M.bind_eq,h1,R.bind_ok,h2,M.ret_eq,List.map_cons]
theorem qJL (h:AH) (xs:List D):getL (h++[.lst xs]) h.length=some xs:=by
 unfold getL
 simp
theorem qFR {α:Type} (f:α→Bool) (xs:List α):qAj (xs.map fun c=>.bl (f c))=some (xs.map f):=by
 induction xs with
 | nil=>rfl
 | cons x xs ih=>simp only [List.map_cons,qAj,ih,Option.map_some]
theorem qJk {α:Type} (f:α→Bool) (xs:List α):allB (xs.map fun c=>.bl (f c))=some (xs.all f):=by
 unfold allB
 rw [qFR,Option.map_some,List.all_map]
 rfl
end Fy
namespace Fy
theorem qHM (f:D→M (Option D)) (xs:List D) (h:AH):mapIt f (.row xs) h=if xs.length<16777216 then qAI f xs h else .bad:=(rfl)
theorem qGG (f:D→M (Option D)) (i:Nat) (h:AH):mapIt f (.live i) h=if liveN h i<16777216 then qAE f i (liveN h i) 0 h else .bad:=(rfl)
theorem qGH (f:D→M (Option D)) (xs:List D) (h:AH):qCf f (.row xs) h=if xs.length<16777216 then qAI f xs h else .bad:=(rfl)
theorem qFA (f:D→M (Option D)) (i:Nat) (h:AH):qCf f (.live i) h=if liveN h i<16777216 then qAE f i (liveN h i) 0 h else .bad:=(rfl)
theorem qET (f:D→M (Option D)) (xs:List D) (h:AH):qCf f (.pairs xs) h=if xs.length<16777216 then qAI f xs h else .bad:=(rfl)
theorem qJZ (m:Env→M D) (σ:Env) (x:D) (h:AH):compF m σ x h=R.bind (m (σ++[some x]) h).calm fun y h'=>.ok (some y) h':=(rfl)
theorem qLm {α:Type} (a:α) (h:AH):(R.ok a h).calm=.ok a h:=(rfl)
theorem qLn {α:Type} (m:M α) (h:AH):M.calm m h=(m h).calm:=(rfl)
theorem qBf (a c:Nat):decide ((a:Int)≤(c:Int))=decide (a≤c):=by
 rw [Bool.eq_iff_iff]
 simp
theorem qGQ (a c:Nat):decide ((a:Int)<(c:Int))=decide (a<c):=by
 rw [Bool.eq_iff_iff]
 simp
theorem qCC (a c:Nat):((a:Int) == (c:Int))=decide (a=c):=by
 rw [Bool.eq_iff_iff]
 simp
 omega
end Fy
namespace Fy
theorem qAi {n k:Nat} (h:k<n):ixN n (k:Int)=some k:=by
 unfold ixN
 rw [if_pos (by omega),if_pos (by omega),Int.toNat_natCast]
end Fy
set_option Elab.async false
set_option linter.all false
namespace Fy
theorem qL8 (i:Int) (h:AH):unD .neg (.int i) h=(.ok (.int (-i)) h):=(rfl)
theorem qMB (x:Tx) (h:AH):unD .len (.str x) h=(if x.length≤16777216 then .ok (.int x.length) h else .bad):=(rfl)
theorem qMA (xs:List D) (h:AH):unD .len (.tup xs) h=(.ok (.int xs.length) h):=(rfl)
theorem qL9 (i:Nat) (h:AH):unD .len (.ref i) h=(match getL h i with | some xs=>.ok (.int xs.length) h | none=>.bad):=(rfl)
theorem qL1 (i:Int) (h:AH):unD .str (.int i) h=(if i.natAbs.log2<1920 then .ok (.str (txI i)) h else .bad):=(rfl)
theorem qML (i:Int) (h:AH):unD .int (.int i) h=(.ok (.int i) h):=(rfl)
theorem qMK (b:Bool) (h:AH):unD .int (.bl b) h=(.ok (.int (b2i b)) h):=(rfl)
theorem qMJ (x:Tx) (h:AH):unD .int (.str x) h=(if x≠[]∧x.length≤640∧isDig x=true then .ok (.int (digV x)) h else .bad):=(rfl)
theorem qL3 (c:Nat) (h:AH):unD .ord (.str [c]) h=(.ok (.int c) h):=(rfl)
theorem qIb (xs:List D) (h:AH):unD .tuple (.tup xs) h=(.ok (.tup xs) h):=(rfl)
theorem qIa (i:Nat) (h:AH):unD .tuple (.ref i) h=(match getL h i with | some xs=>.ok (.tup xs) h | none=>.bad):=(rfl)
theorem qKJ (xs:List D) (h:AH):unD .list (.tup xs) h=(newL xs h):=(rfl)
theorem qKI (i:Nat) (h:AH):unD .list (.ref i) h=(match getL h i with | some xs=>newL xs h | none=>.bad):=(rfl)
theorem qMO (i:Nat) (h:AH):unD .all (.ref i) h=(match (getL h i).bind allB with | some b=>.ok (.bl b) h | none=>.bad):=(rfl)
theorem qMN (i:Nat) (h:AH):unD .any (.ref i) h=(match (getL h i).bind anyB with | some b=>.ok (.bl b) h | none=>.bad):=(rfl)
theorem qIZ (x:Tx) (h:AH):unD .upper (.str x) h=(if x.length≤1000000∧x.all (fun c=>decide (c<128))=true then .ok (.str (x.map upC)) h else .bad):=(rfl)
theorem qL0 (i:Nat) (h:AH):unD .sum (.ref i) h=(match (getL h i).bind qAO with | some xs=>.ok (.int xs.sum) h | none=>.bad):=(rfl)
theorem qGk (i:Nat) (h:AH):unD .sorted (.ref i) h=(match (getL h i).bind qAO with | some xs=>if xs.length<64 then newL ((sortZ xs).map .int) h else .bad | none=>.bad):=(rfl)
theorem qKH (j:Int) (h:AH):unD .lrng (.int j) h=(if qAH j then newL (qAR 0 j.toNat) h else .bad):=(rfl)
theorem qL2 (i:Nat) (h:AH):unD .rev (.ref i) h=(match getL h i with | some xs=>newL xs.reverse h | none=>.bad):=(rfl)
theorem qIc (i:Nat) (h:AH):unD .clear (.ref i) h=(match h[i]? with | some (.lst _)=>.ok .non (h.set i (.lst [])) | _=>.bad):=(rfl)
theorem qMC (cs xl:List Nat) (i:Nat) (h:AH):unD (.isx cs xl) (.ref i) h=(match h[i]? with | some (.xc c)=>if xl.contains c then .ok (.bl (cs.contains c)) h else .bad | _=>.bad):=(rfl)
theorem qMM (k i:Nat) (h:AH):unD (.fld k) (.ref i) h=(match h[i]? with | some (.ins _ fs)=>(match getN k fs with | some d=>.ok d h | none=>.bad) | _=>.bad):=(rfl)
theorem qME (d:D) (h:AH):unD .isN d h=(.ok (.bl (match d with | .non=>true | _=>false)) h):=(rfl)
theorem qKG (d:D) (h:AH):unD .notN d h=(.ok (.bl (match d with | .non=>false | _=>true)) h):=(rfl)
theorem qMI (b c:Bool) (h:AH):unD (.isB b) (.bl c) h=(.ok (.bl (b == c)) h):=(rfl)
theorem qMH (b:Bool) (h:AH):unD (.isB b) (.non) h=(.ok (.bl false) h):=(rfl)
theorem qMG (b:Bool) (i:Int) (h:AH):unD (.isB b) (.int i) h=(.ok (.bl false) h):=(rfl)
theorem qMF (b:Bool) (x:Tx) (h:AH):unD (.isB b) (.str x) h=(.ok (.bl false) h):=(rfl)
theorem qL7 (b c:Bool) (h:AH):unD (.nsB b) (.bl c) h=(.ok (.bl (!(b == c))) h):=(rfl)
theorem qL6 (b:Bool) (h:AH):unD (.nsB b) (.non) h=(.ok (.bl true) h):=(rfl)
theorem qL5 (b:Bool) (i:Int) (h:AH):unD (.nsB b) (.int i) h=(.ok (.bl true) h):=(rfl)
theorem qL4 (b:Bool) (x:Tx) (h:AH):unD (.nsB b) (.str x) h=(.ok (.bl true) h):=(rfl)
theorem qMD (t:Ty) (d:D) (h:AH):unD (.isi t) d h=(match isiD h t d with | some b=>.ok (.bl b) h | none=>.bad):=(rfl)
theorem qNE (i j:Int) (h:AH):biD .add (.int i) (.int j) h=(.ok (.int (i+j)) h):=(rfl)
theorem qND (a b:Tx) (h:AH):biD .add (.str a) (.str b) h=(if a.length+b.length≤16777216 then .ok (.str (a++b)) h else .bad):=(rfl)
theorem qNC (a b:List D) (h:AH):biD .add (.tup a) (.tup b) h=(if a.length+b.length≤16777216 then .ok (.tup (a++b)) h else .bad):=(rfl)
theorem qNB (i j:Nat) (h:AH):biD .add (.ref i) (.ref j) h=(match h[i]?,h[j]? with | some (.lst xs),some (.lst ys)=>newL (xs++ys) h | _,_=>.bad):=(rfl)
theorem qM5 (i j:Int) (h:AH):biD .sub (.int i) (.int j) h=(.ok (.int (i-j)) h):=(rfl)
theorem qM8 (i j:Int) (h:AH):biD .mul (.int i) (.int j) h=(if mulOk i j then .ok (.int (i*j)) h else .bad):=(rfl)
theorem qIu (a:Tx) (c:Nat) (h:AH):biD .split (.str a) (.str [c]) h=(if c<256∧a.length≤1000000 then newL ((qFk a (posC c 0 a)).map .str) h else .bad):=(rfl)
theorem qKv (a:Tx) (c:Nat) (h:AH):biD .part (.str a) (.str [c]) h=(if a.length≤1000000 then .ok (.tup ((partT a c).map .str)) h else .bad):=(rfl)
theorem qIv (a:Tx) (c:Nat) (h:AH):biD .rpart (.str a) (.str [c]) h=(if a.length≤1000000 then .ok (.tup ((qJs a c).map .str)) h else .bad):=(rfl)
theorem qNA (k:Nat) (i:Int) (h:AH):biD .get (.ref k) (.int i) h=(getK k (.int i) h):=(rfl)
theorem qM7 (k:Nat) (i:Int) (h:AH):biD .pop (.ref k) (.int i) h=(popK k (.int i) h):=(rfl)
theorem qKy (i j:Int) (h:AH):biD .lrng (.int i) (.int j) h=(if qAH i∧qAH j then newL (qAR i (j-i).toNat) h else .bad):=(rfl)
theorem qKz (k:Nat) (i:Int) (h:AH):biD .lpop (.ref k) (.int i) h=(lpopK k i h):=(rfl)
theorem qHA (a b:Tx) (h:AH):biD .starts (.str a) (.str b) h=(.ok (.bl (b.isPrefixOf a)) h):=(rfl)
theorem qIy (k:Nat) (b:Bool) (h:AH):biD .index (.ref k) (.bl b) h=(match (getL h k).bind qAj with | some bs=>if bs.findIdx (· == b)<bs.length then .ok (.int (bs.findIdx (· == b))) h else .bad | none=>.bad):=(rfl)
theorem qK6 (i j:Int) (h:AH):biD .fdiv (.int i) (.int j) h=(if 0<j∧j<1073741824 then .ok (.int (i / j)) h else .bad):=(rfl)
theorem qM9 (i j:Int) (h:AH):biD .mod (.int i) (.int j) h=(if 0<j then .ok (.int (i % j)) h else .bad):=(rfl)
theorem qM6 (i j:Int) (h:AH):biD .pow (.int i) (.int j) h=(if 0≤j∧j≤1000000∧i.natAbs<18446744073709551616 then .ok (.int (i ^ j.toNat)) h else .bad):=(rfl)
theorem o_eq1 (x y:D) (h:AH):biD .eq x y h=(match eqTop h x y with | some b=>.ok (.bl b) h | none=>.bad):=(rfl)
theorem o_ne1 (x y:D) (h:AH):biD .ne x y h=(match eqTop h x y with | some b=>.ok (.bl (!b)) h | none=>.bad):=(rfl)
theorem o_lt1 (i j:Int) (h:AH):biD .lt (.int i) (.int j) h=(.ok (.bl (decide (i<j))) h):=(rfl)
theorem o_le1 (i j:Int) (h:AH):biD .le (.int i) (.int j) h=(.ok (.bl (decide (i≤j))) h):=(rfl)
theorem o_gt1 (i j:Int) (h:AH):biD .gt (.int i) (.int j) h=(.ok (.bl (decide (j<i))) h):=(rfl)
theorem o_ge1 (i j:Int) (h:AH):biD .ge (.int i) (.int j) h=(.ok (.bl (decide (j≤i))) h):=(rfl)
theorem qK4 (c:Nat) (b:Tx) (h:AH):biD .isin (.str [c]) (.str b) h=(.ok (.bl (b.contains c)) h):=(rfl)
theorem qK3 (a:Int) (i:Nat) (h:AH):biD .isin (.int a) (.ref i) h=(match (getL h i).bind qAO with | some xs=>.ok (.bl (xs.contains a)) h | none=>hasK i (.int a) h):=(rfl)
theorem qK2 (a:Tx) (xs:List D) (h:AH):biD .isin (.str a) (.tup xs) h=(match qAW xs with | some ys=>.ok (.bl (ys.contains a)) h | none=>.bad):=(rfl)
theorem qK1 (a:List D) (i:Nat) (h:AH):biD .isin (.tup a) (.ref i) h=(match (getL h i).bind (anyD fun x=>eqTop h x (.tup a)) with | some b=>.ok (.bl b) h | none=>.bad):=(rfl)
theorem qIx (a:Int) (i:Nat) (h:AH):biD .notin (.int a) (.ref i) h=(match (getL h i).bind qAO with | some xs=>.ok (.bl (!xs.contains a)) h | none=>.bad):=(rfl)
theorem qIw (c:Nat) (b:Tx) (h:AH):biD .notin (.str [c]) (.str b) h=(.ok (.bl (!b.contains c)) h):=(rfl)
theorem o_ix1 (xs:List D) (i:Int) (h:AH):biD .ix (.tup xs) (.int i) h=(match (ixN xs.length i).bind (xs[·]?) with | some d=>.ok d h | none=>.bad):=(rfl)
theorem o_ix2 (x:Tx) (i:Int) (h:AH):biD .ix (.str x) (.int i) h=(if x.length≤16777216 then (match (ixN x.length i).bind (x[·]?) with | some c=>.ok (.str [c]) h | none=>.bad) else .bad):=(rfl)
theorem o_ix3 (k:Nat) (i:Int) (h:AH):biD .ix (.ref k) (.int i) h=(match (getL h k).bind fun xs=>(ixN xs.length i).bind (xs[·]?) with | some d=>.ok d h | none=>ixK k (.int i) h):=(rfl)
theorem o_ix4 (k:Nat) (x:Tx) (h:AH):biD .ix (.ref k) (.str x) h=(ixK k (.str x) h):=(rfl)
theorem qKw (i j:Int) (h:AH):biD .min2 (.int i) (.int j) h=(.ok (.int (if j<i then j else i)) h):=(rfl)
theorem qKx (i j:Int) (h:AH):biD .max2 (.int i) (.int j) h=(.ok (.int (if j > i then j else i)) h):=(rfl)
theorem qK5 (a:Tx) (c:Nat) (h:AH):biD .find (.str a) (.str [c]) h=(.ok (.int (findC a c)) h):=(rfl)
theorem qIt (x:Tx) (n:Int) (h:AH):biD .zfill (.str x) (.int n) h=(if 0≤n∧n≤1000∧isDig x=true∧x.length≤1000 then .ok (.str (List.replicate (n.toNat-x.length) 48++x)) h else .bad):=(rfl)
theorem qK0 (x:Tx) (i:Nat) (h:AH):biD .join (.str x) (.ref i) h=(match (getL h i).bind qAW with | some xs=>if joinN x xs≤16777216 then .ok (.str (joinT x xs)) h else .bad | none=>.bad):=(rfl)
theorem qHC (k:Nat) (d:D) (h:AH):biD .append (.ref k) d h=(match h[k]? with | some (.lst xs)=>if xs.length<16777216 then .ok .non (h.set k (.lst (xs++[d]))) else .bad | _=>.bad):=(rfl)
theorem qHB (k:Nat) (d:D) (h:AH):biD .remove (.ref k) d h=(match h[k]? with | some (.lst xs)=>(match remD (fun x=>eqTop h x d) xs with | some ys=>.ok .non (h.set k (.lst ys)) | none=>.bad) | _=>.bad):=(rfl)
theorem t_non  (h:AH):truth .non h=(.ok false h):=(rfl)
theorem t_bl (b:Bool) (h:AH):truth (.bl b) h=(.ok b h):=(rfl)
theorem t_int (i:Int) (h:AH):truth (.int i) h=(.ok (i != 0) h):=(rfl)
theorem t_str (x:Tx) (h:AH):truth (.str x) h=(if x.length≤16777216 then .ok (!x.isEmpty) h else .bad):=(rfl)
theorem t_tup (xs:List D) (h:AH):truth (.tup xs) h=(.ok (!xs.isEmpty) h):=(rfl)
theorem t_ref (i:Nat) (h:AH):truth (.ref i) h=(match getL h i with | some xs=>.ok (!xs.isEmpty) h | none=>.bad):=(rfl)
theorem qNY (x:Tx) (h:AH):itOf (.str x) h=(.ok (.row (x.map fun c=>.str [c])) h):=(rfl)
theorem qNX (xs:List D) (h:AH):itOf (.tup xs) h=(.ok (.row xs) h):=(rfl)
theorem qNZ (i:Nat) (h:AH):itOf (.ref i) h=(match getL h i with | some _=>.ok (.live i) h | none=>.bad):=(rfl)
theorem qKd (x:Tx) (l u:Option Int) (h:AH):slD (.str x) l u h=(if x.length≤16777216 then .ok (.str (cutX x l u)) h else .bad):=(rfl)
theorem qKc (x:List D) (l u:Option Int) (h:AH):slD (.tup x) l u h=(.ok (.tup (cutX x l u)) h):=(rfl)
theorem qKf (i:Nat) (l u:Option Int) (h:AH):slD (.ref i) l u h=(match getL h i with | some xs=>newL (cutX xs l u) h | none=>.bad):=(rfl)
theorem qHJ (i:Nat) (h:AH):meOk .append (.ref i) h=(match getL h i with | some _=>.ok () h | none=>.bad):=(rfl)
theorem qHI (i:Nat) (h:AH):meOk .remove (.ref i) h=(match getL h i with | some _=>.ok () h | none=>.bad):=(rfl)
theorem qI6 (x:Tx) (h:AH):meOk .zfill (.str x) h=.ok () h:=(rfl)
theorem qLE (x:Tx) (h:AH):meOk .join (.str x) h=.ok () h:=(rfl)
theorem qLF (x:Tx) (h:AH):meOk .find (.str x) h=.ok () h:=(rfl)
theorem qNJ (i:Nat) (h:AH):meOk .get (.ref i) h=(match h[i]? with | some (.dct _)=>.ok () h | _=>.bad):=(rfl)
theorem qNI (i:Nat) (h:AH):meOk .pop (.ref i) h=(match h[i]? with | some (.dct _)=>.ok () h | _=>.bad):=(rfl)
theorem qLD (i:Nat) (h:AH):meOk .lpop (.ref i) h=(match getL h i with | some _=>.ok () h | none=>.bad):=(rfl)
theorem qHH (x:Tx) (h:AH):meOk .starts (.str x) h=.ok () h:=(rfl)
theorem qI9 (i:Nat) (h:AH):meOk .index (.ref i) h=(match getL h i with | some _=>.ok () h | none=>.bad):=(rfl)
theorem qI7 (x:Tx) (h:AH):meOk .split (.str x) h=.ok () h:=(rfl)
theorem qLC (x:Tx) (h:AH):meOk .part (.str x) h=.ok () h:=(rfl)
theorem qI8 (x:Tx) (h:AH):meOk .rpart (.str x) h=.ok () h:=(rfl)
theorem qIl (a:Tx) (c:Nat) (k:Int) (h:AH):splmD (.str a) (.str [c]) (.int k) h=(if (c<256∧a.length≤1000000)∧0≤k∧k≤1000000 then newL ((qFk a ((posC c 0 a).take k.toNat)).map .str) h else .bad):=(rfl)
theorem qGr (k:Nat) (i:Int) (d:D) (h:AH):setdD (.ref k) (.int i) d h=setdK k (.int i) d h:=(rfl)
theorem qHo (k:Nat) (i:Int) (d:D) (h:AH):getdD (.ref k) (.int i) d h=(match h[k]? with | some (.dct kvs)=>.ok ((valY kvs (.int i)).getD d) h | _=>.bad):=(rfl)
theorem qJI (i:Int) (h:AH):intD (.int i) h=.ok (some i) h:=(rfl)
theorem qLN (t:Ty)  (h:AH):isiD h t .non=(some false):=(rfl)
theorem qNc (t:Ty) (b:Bool) (h:AH):isiD h t (.bl b)=(some (t == .bool || t == .int)):=(rfl)
theorem qLO (t:Ty) (i:Int) (h:AH):isiD h t (.int i)=(some (t == .int)):=(rfl)
theorem qLL (t:Ty) (x:Tx) (h:AH):isiD h t (.str x)=(some (t == .str)):=(rfl)
theorem qLK (t:Ty) (xs:List D) (h:AH):isiD h t (.tup xs)=(some (t == .tuple)):=(rfl)
theorem qLM (t:Ty) (i:Nat) (h:AH):isiD h t (.ref i)=((getL h i).map fun _=>t == .list):=(rfl)
theorem qH2  (h:AH):eqTop h .non .non=(some true):=(rfl)
theorem qJO (b2:Bool) (h:AH):eqTop h .non (.bl b2)=(some false):=(rfl)
theorem qH3 (i2:Int) (h:AH):eqTop h .non (.int i2)=(some false):=(rfl)
theorem qH1 (x2:Tx) (h:AH):eqTop h .non (.str x2)=(some false):=(rfl)
theorem qH0 (t2:List D) (h:AH):eqTop h .non (.tup t2)=(some false):=(rfl)
theorem qJS (b1:Bool) (h:AH):eqTop h (.bl b1) .non=(some false):=(rfl)
theorem qLY (b1:Bool) (b2:Bool) (h:AH):eqTop h (.bl b1) (.bl b2)=(some (b1 == b2)):=(rfl)
theorem qJT (b1:Bool) (i2:Int) (h:AH):eqTop h (.bl b1) (.int i2)=(some (b2i b1 == i2)):=(rfl)
theorem qJR (b1:Bool) (x2:Tx) (h:AH):eqTop h (.bl b1) (.str x2)=(some false):=(rfl)
theorem qJQ (b1:Bool) (t2:List D) (h:AH):eqTop h (.bl b1) (.tup t2)=(some false):=(rfl)
theorem qH6 (i1:Int) (h:AH):eqTop h (.int i1) .non=(some false):=(rfl)
theorem qJP (i1:Int) (b2:Bool) (h:AH):eqTop h (.int i1) (.bl b2)=(some (i1 == b2i b2)):=(rfl)
theorem qH7 (i1:Int) (i2:Int) (h:AH):eqTop h (.int i1) (.int i2)=(some (i1 == i2)):=(rfl)
theorem qH5 (i1:Int) (x2:Tx) (h:AH):eqTop h (.int i1) (.str x2)=(some false):=(rfl)
theorem qH4 (i1:Int) (t2:List D) (h:AH):eqTop h (.int i1) (.tup t2)=(some false):=(rfl)
theorem qHy (x1:Tx) (h:AH):eqTop h (.str x1) .non=(some false):=(rfl)
theorem qJN (x1:Tx) (b2:Bool) (h:AH):eqTop h (.str x1) (.bl b2)=(some false):=(rfl)
theorem qHz (x1:Tx) (i2:Int) (h:AH):eqTop h (.str x1) (.int i2)=(some false):=(rfl)
theorem qHx (x1:Tx) (x2:Tx) (h:AH):eqTop h (.str x1) (.str x2)=(some (x1 == x2)):=(rfl)
theorem qHw (x1:Tx) (t2:List D) (h:AH):eqTop h (.str x1) (.tup t2)=(some false):=(rfl)
theorem qHu (t1:List D) (h:AH):eqTop h (.tup t1) .non=(some false):=(rfl)
theorem qJM (t1:List D) (b2:Bool) (h:AH):eqTop h (.tup t1) (.bl b2)=(some false):=(rfl)
theorem qHv (t1:List D) (i2:Int) (h:AH):eqTop h (.tup t1) (.int i2)=(some false):=(rfl)
theorem qHt (t1:List D) (x2:Tx) (h:AH):eqTop h (.tup t1) (.str x2)=(some false):=(rfl)
theorem qHs (t1:List D) (t2:List D) (h:AH):eqTop h (.tup t1) (.tup t2)=(eqW (eqD h 39) t1 t2):=(rfl)
end Fy
set_option Elab.async false
set_option linter.all false
set_option maxRecDepth 100000
set_option maxHeartbeats 4000000
namespace Fy
open PySem PySem.Spec PyProof.Rows
open L2 (V Hp HO VK TE TT TA TS TI Cx Inv RelV Vals SqL SqT Rd upd qAA qAB PE PT PA PS PSs EP)
mutual
noncomputable def RepV (K:PySem.W.Frag) (ρ:List Addr) (H:Hp):D→V→Prop
 | .non,v=>v=.non
 | .bl b,v=>v=.bl b
 | .int i,v=>v=.int i
 | .str x,v=>v=.str ⟨x.toArray⟩
 | .tup xs,v=>∃ a vs,v=.ref a∧SqT K H a vs∧RepL K ρ H xs vs
 | .ref i,v=>∃ a,ρ[i]?=some a∧v=.ref a
noncomputable def RepL (K:PySem.W.Frag) (ρ:List Addr) (H:Hp):List D→List V→Prop
 | [],vs=>vs=[]
 | x::xs,vs=>∃ v r,vs=v::r∧RepV K ρ H x v∧RepL K ρ H xs r
end
noncomputable def KL (K:PySem.W.Frag) (a:Addr) (xs:List V):Prop :=
 ∃ (o:Obj) (its:Array Value) (n:Nat),K.lookup a=some o∧o.cls=.type "list"∧o.dict=none∧o.data=.seq its n∧its.size≤sizeLine∧Vals xs its.toList
noncomputable def ClsAt (K:PySem.W.Frag) (c:Nat) (C:Addr):Prop:=PySem.W.nsIn K mainGlobals (nmOf c)=some (some (.ref C))
noncomputable def xcO (a C:Addr):HO:=.ext fun h=>∃ o,h.get? a=some o∧o.cls=.ref C
noncomputable def RepF (K:PySem.W.Frag) (ρ:List Addr) (H:Hp) (C:Addr):List (Nat × D)→List (Str × V)→Prop
 | [],vs=>vs=[]
 | x::xs,vs=>∃ v r,vs=(nmOf x.1,v)::r∧x.1<256 ^ 60∧L2.NoAttr K C (nmOf x.1)∧RepV K ρ H x.2 v∧RepF K ρ H C xs r
noncomputable def kyV:Ky→L2.Key
 | .int i=>.inl i
 | .str x=>.inr ⟨x.toArray⟩
noncomputable def RepK (K:PySem.W.Frag) (ρ:List Addr) (H:Hp):List (Ky × D)→List (L2.Key × V)→Prop
 | [],vs=>vs=[]
 | x::xs,vs=>∃ v r,vs=(kyV x.1,v)::r∧RepV K ρ H x.2 v∧RepK K ρ H xs r
noncomputable def RepO (K:PySem.W.Frag) (ρ:List Addr) (H:Hp):O→Addr→Prop
 | .lst xs,a=>∃ vs,H a=some (.lst vs)∧RepL K ρ H xs vs
 | .rol xs,a=>∃ vs,((∃ o,H a=some (.frz o (.lst vs)))∨KL K a vs)∧RepL K ρ H xs vs
 | .ins c fs,a=>∃ C dx vs,ClsAt K c C∧L2.Cls K C∧H a=some (.ins C dx vs)∧RepF K ρ H C fs vs
 | .dct kvs,a=>∃ vs,H a=some (.dK vs)∧RepK K ρ H kvs vs
 | .xc c,a=>∃ C,ClsAt K c C∧H a=some (xcO a C)
noncomputable def mutO:O→Bool
 | .rol _=>false
 | .xc _=>false
 | _=>true
structure RepH (K:PySem.W.Frag) (ρ:List Addr) (h:AH) (H:Hp):Prop where
 len:ρ.length=h.length
 obj:∀ (i:Nat) (o:O),h[i]?=some o→∃ a,ρ[i]?=some a∧RepO K ρ H o a
 inj:∀ (i j:Nat) (a:Addr) (o o':O),h[i]?=some o→h[j]?=some o'→mutO o=true→mutO o'=true→ρ[i]?=some a→ρ[j]?=some a→i=j
noncomputable def Imm:HO→Bool
 | .tup _=>true
 | .frz _ _=>true
 | .ext _=>true
 | _=>false
structure Step (ρ:List Addr) (H:Hp) (ρ':List Addr) (H':Hp):Prop where
 pre:ρ <+: ρ'
 new:∀ a∈ρ',a∈ρ∨H a=none
 keep:∀ a o,H a=some o→(Imm o=true∨a∉ρ)→H' a=some o
theorem Step.refl (ρ:List Addr) (H:Hp):Step ρ H ρ H:=⟨List.prefix_refl _,fun _ h=>.inl h,fun _ _ h _=>h⟩
theorem Step.trans {ρ ρ1 ρ2:List Addr} {H H1 H2:Hp} (a:Step ρ H ρ1 H1) (b:Step ρ1 H1 ρ2 H2):Step ρ H ρ2 H2:=by
 refine ⟨a.pre.trans b.pre,fun x hx=>?_,fun x o h c=>b.keep x o (a.keep x o h c) (c.imp id fun n m=>?_)⟩
 ·rcases b.new x hx with h | h
  ·exact a.new x h
  ·by_cases m:x∈ρ
   ·exact .inl m
   ·cases q:H x with
    | none=>exact .inr rfl
    | some o =>
     rw [a.keep x o q (.inr m)] at h
     cases h
 ·rcases a.new x m with z | z
  ·exact n z
  ·rw [h] at z
   cases z
theorem Step.tup {ρ ρ':List Addr} {H H':Hp} (e:Step ρ H ρ' H') {a:Addr} {vs:List V} (h:Rd H a (.tup vs)):Rd H' a (.tup vs):=by
 rcases h with h | ⟨o,h⟩
 ·exact .inl (e.keep _ _ h (.inl rfl))
 ·exact .inr ⟨o,e.keep _ _ h (.inl rfl)⟩
theorem Step.sqt {K:PySem.W.Frag} {ρ ρ':List Addr} {H H':Hp} {a:Addr} {vs:List V} (e:Step ρ H ρ' H') (h:SqT K H a vs):SqT K H' a vs:=h.imp e.tup id
theorem qBp {ρ ρ':List Addr} (p:ρ <+: ρ') {i:Nat} {a:Addr} (h:ρ[i]?=some a):ρ'[i]?=some a:=by
 obtain ⟨t,rfl⟩:=p
 rw [List.getElem?_append_left (List.getElem?_eq_some_iff.mp h).1]
 exact h
section
variable {K:PySem.W.Frag} {ρ ρ':List Addr} {H H':Hp} {a:Addr}
mutual
theorem RepV.mono (e:Step ρ H ρ' H'):∀ (d:D) (v:V),RepV K ρ H d v→RepV K ρ' H' d v
 | .non,_,h=>h
 | .bl _,_,h=>h
 | .int _,_,h=>h
 | .str _,_,h=>h
 | .tup xs,v,⟨a,vs,h1,h2,h3⟩=>⟨a,vs,h1,e.sqt h2,RepL.mono e xs vs h3⟩
 | .ref _,_,⟨a,h1,h2⟩=>⟨a,qBp e.pre h1,h2⟩
theorem RepL.mono (e:Step ρ H ρ' H'):∀ (ds:List D) (vs:List V),RepL K ρ H ds vs→RepL K ρ' H' ds vs
 | [],_,h=>h
 | d::ds,_,⟨v,r,h1,h2,h3⟩=>⟨v,r,h1,RepV.mono e d v h2,RepL.mono e ds r h3⟩
end
theorem RepL.length:∀ {ds:List D} {vs:List V},RepL K ρ H ds vs→vs.length=ds.length
 | [],_,h=>by cases h;rfl
 | d::ds,_,⟨v,r,h1,_,h3⟩=>by subst h1;simp [RepL.length h3]
theorem RepL.get:∀ {ds:List D} {vs:List V} {i:Nat} {d:D},RepL K ρ H ds vs→ds[i]?=some d→∃ v,vs[i]?=some v∧RepV K ρ H d v
 | [],_,_,_,_,e=>by simp at e
 | x::ds,_,0,d,⟨v,r,h1,h2,_⟩,e=>by
  subst h1
  simp at e
  subst e
  exact ⟨v,rfl,h2⟩
 | x::ds,_,i+1,d,⟨v,r,h1,_,h3⟩,e=>by
  subst h1
  simpa using RepL.get (i:=i) h3 (by simpa using e)
theorem RepL.append:∀ {ds es:List D} {vs ws:List V},RepL K ρ H ds vs→RepL K ρ H es ws→RepL K ρ H (ds++es) (vs++ws)
 | [],_,_,_,h,k=>by cases h;exact k
 | x::ds,es,_,ws,⟨v,r,h1,h2,h3⟩,k=>by subst h1;exact ⟨v,r++ws,rfl,h2,RepL.append h3 k⟩
theorem RepL.drop:∀ {ds:List D} {vs:List V} (n:Nat),RepL K ρ H ds vs→RepL K ρ H (ds.drop n) (vs.drop n)
 | _,_,0,h=>h
 | [],_,n+1,h=>by cases h;exact rfl
 | x::ds,_,n+1,⟨v,r,h1,_,h3⟩=>by subst h1;exact RepL.drop n h3
theorem RepL.take:∀ {ds:List D} {vs:List V} (n:Nat),RepL K ρ H ds vs→RepL K ρ H (ds.take n) (vs.take n)
 | _,_,0,h=>by simp [RepL]
 | [],_,n+1,h=>by cases h;simp [RepL]
 | x::ds,_,n+1,⟨v,r,h1,h2,h3⟩=>by subst h1;exact ⟨v,r.take n,rfl,h2,RepL.take n h3⟩
theorem Step.fresh {p:Addr} {o:HO} (hp:H p=none):Step ρ H ρ (upd H p o) :=
 ⟨List.prefix_refl _,fun _ h=>.inl h,fun a ob h _=>by rw [qAB (L2.ne_of_none h hp)];exact h⟩
theorem Step.new1 {p:Addr} {o:HO} (hp:H p=none):Step ρ H (ρ++[p]) (upd H p o) :=
 ⟨List.prefix_append _ _,fun a h=>(List.mem_append.mp h).imp id fun z=>by rw [List.mem_singleton.mp z];exact hp,fun a ob h _=>by rw [qAB (L2.ne_of_none h hp)];exact h⟩
theorem Step.turn {p:Addr} {o o':HO} (hp:H p=some o) (hi:Imm o=false) (hm:p∈ρ):Step ρ H ρ (upd H p o'):=by
 refine ⟨List.prefix_refl _,fun _ h=>.inl h,fun a ob h c=>?_⟩
 rw [qAB]
 ·exact h
 ·intro z
  subst z
  rcases c with c | c
  ·rw [hp] at h
   cases h
   rw [hi] at c
   cases c
  ·exact c hm
theorem RepF.mono {C:Addr} (e:Step ρ H ρ' H'):∀ (ds:List (Nat × D)) (vs:List (Str × V)),RepF K ρ H C ds vs→RepF K ρ' H' C ds vs
 | [],_,h=>h
 | d::ds,_,⟨v,r,h1,hb,hn,h2,h3⟩=>⟨v,r,h1,hb,hn,RepV.mono e _ v h2,RepF.mono e ds r h3⟩
theorem RepK.mono (e:Step ρ H ρ' H'):∀ (ds:List (Ky × D)) (vs:List (L2.Key × V)),RepK K ρ H ds vs→RepK K ρ' H' ds vs
 | [],_,h=>h
 | d::ds,_,⟨v,r,h1,h2,h3⟩=>⟨v,r,h1,RepV.mono e _ v h2,RepK.mono e ds r h3⟩
theorem RepO.mono (e:Step ρ H ρ' H') {o:O} (l:mutO o=true→∀ u,H a=some u→H' a=some u) (h:RepO K ρ H o a):RepO K ρ' H' o a:=by
 cases o with
 | lst xs =>
  obtain ⟨vs,h1,h2⟩:=h
  exact ⟨vs,l rfl _ h1,RepL.mono e _ _ h2⟩
 | rol xs =>
  obtain ⟨vs,h1,h2⟩:=h
  refine ⟨vs,?_,RepL.mono e _ _ h2⟩
  rcases h1 with ⟨ob,h1⟩ | h1
  ·exact .inl ⟨ob,e.keep _ _ h1 (.inl rfl)⟩
  ·exact .inr h1
 | ins c fs =>
  obtain ⟨C,dx,vs,h1,hc,h2,h3⟩:=h
  exact ⟨C,dx,vs,h1,hc,l rfl _ h2,RepF.mono e _ _ h3⟩
 | dct kvs =>
  obtain ⟨vs,h1,h2⟩:=h
  exact ⟨vs,l rfl _ h1,RepK.mono e _ _ h2⟩
 | xc c =>
  obtain ⟨C,h1,h2⟩:=h
  exact ⟨C,h1,e.keep _ _ h2 (.inl rfl)⟩
theorem RepO.there {o:O} (h:RepO K ρ H o a) (m:mutO o=true):∃ u,H a=some u:=by
 cases o with
 | lst xs=>obtain ⟨vs,h1,_⟩:=h;exact ⟨_,h1⟩
 | rol xs=>cases m
 | ins c fs=>obtain ⟨C,dx,vs,_,_,h1,_⟩:=h;exact ⟨_,h1⟩
 | dct kvs=>obtain ⟨vs,h1,_⟩:=h;exact ⟨_,h1⟩
 | xc c=>cases m
theorem RepH.fresh {h:AH} {p:Addr} {o:HO} (r:RepH K ρ h H) (hp:H p=none):RepH K ρ h (upd H p o) :=
 ⟨r.len,fun i ob hi=>let ⟨a,h1,h2⟩:=r.obj i ob hi;⟨a,h1,h2.mono (Step.fresh hp) (fun _ u z=>by rw [qAB (L2.ne_of_none z hp)];exact z)⟩,r.inj⟩
theorem RepH.newO {h:AH} (r:RepH K ρ h H) {p:Addr} {o:O} {u:HO} (hp:H p=none) (ho:RepO K (ρ++[p]) (upd H p u) o p) :
    RepH K (ρ++[p]) (h++[o]) (upd H p u):=by
  have e:Step ρ H (ρ++[p]) (upd H p u):=Step.new1 hp
  refine ⟨by simp [r.len],fun i ob hi=>?_,fun i j a o1 o2 hi hj m1 m2 hai haj=>?_⟩
  · by_cases hlt:i<h.length
    · rw [List.getElem?_append_left hlt] at hi
      obtain ⟨a,h1,h2⟩:=r.obj i ob hi
      exact ⟨a,qBp e.pre h1,h2.mono e (fun _ u z=>by rw [qAB (L2.ne_of_none z hp)];exact z)⟩
    · have hi':=(List.getElem?_eq_some_iff.mp hi).1
      simp at hi'
      have e':i=h.length:=by omega
      subst e'
      rw [List.getElem?_append_right (Nat.le_refl _)] at hi
      simp at hi
      subst hi
      refine ⟨p,?_,ho⟩
      rw [← r.len,List.getElem?_append_right (Nat.le_refl _)]
      simp
  · have key:∀ (i:Nat) (z:O),mutO z=true→(h++[o])[i]?=some z→(ρ++[p])[i]?=some a→(i<h.length∧h[i]?=some z∧ρ[i]?=some a∧a≠p)∨(i=h.length∧a=p):=fun i z mz hi hai=>by
      by_cases hlt:i<h.length
      · rw [List.getElem?_append_left hlt] at hi
        rw [List.getElem?_append_left (by rw [r.len];exact hlt)] at hai
        refine .inl ⟨hlt,hi,hai,fun q=>?_⟩
        obtain ⟨b,h1,h2⟩:=r.obj i _ hi
        rw [hai] at h1
        cases h1
        obtain ⟨w,h3⟩:=h2.there mz
        rw [q,hp] at h3
        cases h3
      · have hi':=(List.getElem?_eq_some_iff.mp hi).1
        simp at hi'
        have e':i=h.length:=by omega
        subst e'
        rw [← r.len,List.getElem?_append_right (Nat.le_refl _)] at hai
        simp at hai
        exact .inr ⟨rfl,hai.symm⟩
    rcases key i _ m1 hi hai with ⟨h1,h2,h3,h4⟩ | ⟨h1,h2⟩ <;> rcases key j _ m2 hj haj with ⟨k1,k2,k3,k4⟩ | ⟨k1,k2⟩
    · exact r.inj i j a _ _ h2 k2 m1 m2 h3 k3
    · exact absurd k2 h4
    · exact absurd h2 k4
    · omega
theorem RepH.setO {h:AH} (r:RepH K ρ h H) {k:Nat} {p:Addr} {o o':O} {u u':HO} (hk:h[k]?=some o) (m:mutO o=true) (m':mutO o'=true) (hr:ρ[k]?=some p) (hp:H p=some u) (hi':Imm u=false) (hx:RepO K ρ (upd H p u') o' p) :
    RepH K ρ (h.set k o') (upd H p u'):=by
  have e:Step ρ H ρ (upd H p u'):=Step.turn hp hi' (List.mem_of_getElem? hr)
  have hkl:=(List.getElem?_eq_some_iff.mp hk).1
  refine ⟨by simp [r.len],fun i ob hi=>?_,fun i j a o1 o2 hi hj m1 m2 hai haj=>?_⟩
  · rw [List.getElem?_set] at hi
    by_cases hik:k=i
    · rw [if_pos hik,if_pos (by omega)] at hi
      cases hi
      subst hik
      exact ⟨p,hr,hx⟩
    · rw [if_neg hik] at hi
      obtain ⟨a,h1,h2⟩:=r.obj i ob hi
      refine ⟨a,h1,h2.mono e fun mo w hw=>?_⟩
      rw [qAB fun z=>hik (r.inj k i p _ _ hk hi m mo hr (by rw [← z];exact h1))]
      exact hw
  · have key:∀ (i:Nat) (z:O),mutO z=true→(h.set k o')[i]?=some z→∃ z',h[i]?=some z'∧mutO z'=true:=fun i z mz hi=>by
      rw [List.getElem?_set] at hi
      by_cases hik:k=i
      · subst hik
        exact ⟨_,hk,m⟩
      · rw [if_neg hik] at hi
        exact ⟨_,hi,mz⟩
    obtain ⟨_,hi',n1⟩:=key i _ m1 hi
    obtain ⟨_,hj',n2⟩:=key j _ m2 hj
    exact r.inj i j a _ _ hi' hj' n1 n2 hai haj
theorem RepH.newList {h:AH} (r:RepH K ρ h H) {p:Addr} {xs:List D} {vs:List V} (hp:H p=none) (hx:RepL K ρ H xs vs) :
    RepH K (ρ++[p]) (h++[.lst xs]) (upd H p (.lst vs)):=r.newO hp ⟨vs,qAA,RepL.mono (Step.new1 hp) _ _ hx⟩
theorem RepH.setList {h:AH} (r:RepH K ρ h H) {k:Nat} {p:Addr} {xs ys:List D} {us vs:List V} (hk:h[k]?=some (.lst xs)) (hr:ρ[k]?=some p) (hp:H p=some (.lst us)) (hx:RepL K ρ H ys vs) :
    RepH K ρ (h.set k (.lst ys)) (upd H p (.lst vs)):=r.setO hk rfl rfl hr hp rfl ⟨vs,qAA,RepL.mono (Step.turn hp rfl (List.mem_of_getElem? hr)) _ _ hx⟩
theorem RepH.list {h:AH} (r:RepH K ρ h H) {i:Nat} {xs:List D} (hi:getL h i=some xs):∃ a vs,ρ[i]?=some a∧SqL K H a vs∧RepL K ρ H xs vs:=by
 unfold getL at hi
 cases e:h[i]? with
 | none=>rw [e] at hi;cases hi
 | some o =>
  rw [e] at hi
  obtain ⟨a,h1,h2⟩:=r.obj i o e
  cases o with
  | lst ys =>
   cases hi
   obtain ⟨vs,h3,h4⟩:=h2
   exact ⟨a,vs,h1,L2.SqL.of h3,h4⟩
  | rol ys =>
   cases hi
   obtain ⟨vs,h3,h4⟩:=h2
   refine ⟨a,vs,h1,?_,h4⟩
   rcases h3 with ⟨ob,h3⟩ | h3
   ·exact .inl (.inr ⟨ob,h3⟩)
   ·exact .inr h3
  | _=>cases hi
end
noncomputable def RepS (K:PySem.W.Frag) (ρ:List Addr) (H:Hp) (env:Env) (σ:L2.St):Prop:=env.length=σ.length∧∀ (i:Nat) (d:D),env[i]?=some (some d)→∃ v,σ[i]?=some (some v)∧RepV K ρ H d v
theorem RepS.mono {K:PySem.W.Frag} {ρ ρ':List Addr} {H H':Hp} {env:Env} {σ:L2.St} (s:RepS K ρ H env σ) (e:Step ρ H ρ' H'):RepS K ρ' H' env σ :=
 ⟨s.1,fun i d h=>let ⟨v,h1,h2⟩:=s.2 i d h;⟨v,h1,h2.mono e _ _⟩⟩
theorem RepS.set {K:PySem.W.Frag} {ρ:List Addr} {H:Hp} {env:Env} {σ:L2.St} (s:RepS K ρ H env σ) (k:Nat) {d:D} {v:V} (r:RepV K ρ H d v):RepS K ρ H (env.set k (some d)) (σ.set k (some v)):=by
 refine ⟨by simp [s.1],fun i d' h=>?_⟩
 rw [List.getElem?_set] at h ⊢
 by_cases hk:k=i
 ·subst hk
  rw [if_pos rfl] at h ⊢
  by_cases hl:k<env.length
  ·rw [if_pos hl] at h
   cases h
   rw [if_pos (by rw [← s.1];exact hl)]
   exact ⟨v,rfl,r⟩
  ·rw [if_neg hl] at h
   cases h
 ·rw [if_neg hk] at h ⊢
  exact s.2 i d' h
noncomputable abbrev WX:=Nat→L2.St→Hp→Prop
noncomputable abbrev W1:=Nat→Hp→Prop
noncomputable abbrev WX.at (W:WX) (σ:L2.St):W1:=fun c H=>W c σ H
noncomputable def Post {α:Type} (K:PySem.W.Frag) (w:W1) (rep:List Addr→Hp→α→Prop) (ρ:List Addr) (H:Hp):R α→Prop
 | .ok a h=>∀ (ρ':List Addr) (H':Hp),Step ρ H ρ' H'→RepH K ρ' h H'→rep ρ' H' a
 | .exc c h=>∀ (ρ':List Addr) (H':Hp),Step ρ H ρ' H'→RepH K ρ' h H'→w c H'
 | .bad=>False
noncomputable abbrev PostV (K:PySem.W.Frag) (w:W1) (Q:VK) (ρ:List Addr) (H:Hp) (r:R D):Prop:=Post K w (fun ρ' H' d=>∀ v,RepV K ρ' H' d v→Q v H') ρ H r
theorem Post.mono {α:Type} {K:PySem.W.Frag} {w:W1} {rep:List Addr→Hp→α→Prop} {ρ ρ1:List Addr} {H H1:Hp} {r:R α} (p:Post K w rep ρ H r) (e:Step ρ H ρ1 H1):Post K w rep ρ1 H1 r:=by
 cases r with
 | ok a h=>exact fun ρ' H' e' rh=>p ρ' H' (e.trans e') rh
 | exc _ _=>exact fun ρ' H' e' rh=>p ρ' H' (e.trans e') rh
 | bad=>exact p
noncomputable def tD (K:PySem.W.Frag) (W:WX) (m:Env→M D):TE:=fun σ H Q=>∃ ρ env h,RepS K ρ H env σ∧RepH K ρ h H∧PostV K (W.at σ) Q ρ H (m env h)
noncomputable def tDT (K:PySem.W.Frag) (W:WX) (m:Env→M Bool):TT:=fun σ H Q=>∃ ρ env h,RepS K ρ H env σ∧RepH K ρ h H∧Post K (W.at σ) (fun _ H' b=>Q b H') ρ H (m env h)
noncomputable def tDL (K:PySem.W.Frag) (W:WX) (m:Env→M (List D)):TA:=fun σ H Q=>∃ ρ env h,RepS K ρ H env σ∧RepH K ρ h H∧Post K (W.at σ) (fun ρ' H' ds=>∀ vs,RepL K ρ' H' ds vs→Q vs H') ρ H (m env h)
theorem PE.imp {X:Cx} {e:Expr} {t t':TE} (h:PE X e t) (i:∀ σ H Q,t' σ H Q→t σ H Q):PE X e t':=fun pins s σ H Q I q=>h pins s σ H Q I (i σ H Q q)
theorem PT.imp {X:Cx} {e:Expr} {t t':TT} (h:PT X e t) (i:∀ σ H Q,t' σ H Q→t σ H Q):PT X e t':=fun pins s σ H Q I q=>h pins s σ H Q I (i σ H Q q)
theorem PA.imp {X:Cx} {e:List Expr} {t t':TA} (h:PA X e t) (i:∀ σ H Q,t' σ H Q→t σ H Q):PA X e t':=fun pos pins s σ H Q I q=>h pos pins s σ H Q I (i σ H Q q)
theorem PS.imp {X:Cx} {e:Stmt} {t t':TS} (h:PS X e t) (i:∀ D σ H,t' D σ H→t D σ H):PS X e t':=fun pins s σ H D I q=>h pins s σ H D I (i D σ H q)
theorem PSs.imp {X:Cx} {e:List Stmt} {t t':TS} (h:PSs X e t) (i:∀ D σ H,t' D σ H→t D σ H):PSs X e t':=fun pins s σ H D I q=>h pins s σ H D I (i D σ H q)
end Fy
set_option Elab.async false
set_option linter.all false
set_option maxRecDepth 100000
set_option maxHeartbeats 4000000
namespace Fy
open PySem PySem.Spec PyProof.Rows
open L2 (V Hp HO VK TE TT TA TS TI Cx Inv RelV Vals SqL SqT Rd upd qAA qAB PE PT PA PS PSs EP OpR CallR IxR MtR SlR PO TO)
theorem szEq:sizeLine=16777216:=sizeLine_eq
theorem qEy (a b:Tx):((⟨a.toArray⟩:Str)++(⟨b.toArray⟩:Str))=⟨(a++b).toArray⟩:=by
 show Str.append _ _=_
 unfold Str.append
 simp
theorem qAb (a:Tx):(⟨a.toArray⟩:Str).length=a.length:=by
 unfold Str.length
 simp
section
variable {X:Cx} {K:PySem.W.Frag} {ρ:List Addr} {H:Hp} {Q:VK} {h:AH} {w:W1}
theorem PostV.ite {c:Prop} [Decidable c] {r:R D} (p:PostV K w Q ρ H (if c then r else .bad)):c∧PostV K w Q ρ H r:=by
 by_cases hc:c
 ·rw [if_pos hc] at p
  exact ⟨hc,p⟩
 ·rw [if_neg hc] at p
  exact False.elim p
theorem PostV.now {d:D} {v:V} (p:PostV K w Q ρ H (.ok d h)) (r:RepH K ρ h H) (hv:RepV K ρ H d v):Q v H:=p ρ H (Step.refl ρ H) r v hv
theorem PostV.newL {xs:List D} {vs:List V} (p:PostV K w Q ρ H (newL xs h)) (r:RepH K ρ h H) (hv:RepL K ρ H xs vs):vs.length≤sizeLine∧∀ l,H l=none→Q (.ref l) (upd H l (.lst vs)):=by
 obtain ⟨hc,p⟩:=PostV.ite (c:=xs.length≤16777216) p
 refine ⟨by rw [hv.length,szEq];exact hc,fun l hl=>?_⟩
 refine p (ρ++[l]) _ (Step.new1 hl) (r.newList hl hv) _ ⟨l,?_,rfl⟩
 rw [← r.len,List.getElem?_append_right (Nat.le_refl _)]
 simp
theorem PostV.newT {xs:List D} {vs:List V} (p:PostV K w Q ρ H (.ok (.tup xs) h)) (r:RepH K ρ h H) (hv:RepL K ρ H xs vs):∀ l,H l=none→Q (.ref l) (upd H l (.tup vs)):=fun l hl=>by
 have e:Step ρ H ρ (upd H l (.tup vs)):=Step.fresh hl
 exact p ρ _ e (r.fresh hl) _ ⟨l,vs,rfl,L2.SqT.of qAA,hv.mono e _ _⟩
noncomputable def rB (K:PySem.W.Frag) (o:Bi):L2.R2:=fun x y H Q=>∃ (w:W1),∃ ρ h d e,RepH K ρ h H∧RepV K ρ H d x∧RepV K ρ H e y∧PostV K w Q ρ H (biD o d e h)
theorem qKl:OpR X (binaryOp .Sub) (rB X.K .sub):=by
 rintro pins s σ H x y v u Q I rx ry ⟨w,ρ,h,d,e,r,hd,he,p⟩
 cases d with
 | int i =>
  cases e with
  | int j=>cases hd;cases he;exact L2.op_sub pins s σ H _ _ v u Q I rx ry ⟨i,j,rfl,rfl,p.now r rfl⟩
  | _=>exact (show False from p).elim
 | _=>exact (show False from p).elim
theorem qKn:OpR X (binaryOp .Mult) (rB X.K .mul):=by
 rintro pins s σ H x y v u Q I rx ry ⟨w,ρ,h,d,e,r,hd,he,p⟩
 cases d with
 | int i =>
  cases e with
  | int j =>
   cases hd;cases he
   obtain ⟨hc,p⟩:=PostV.ite (c:=mulOk i j) p
   exact L2.op_mul pins s σ H _ _ v u Q I rx ry ⟨i,j,rfl,rfl,hc,p.now r rfl⟩
  | _=>exact (show False from p).elim
 | _=>exact (show False from p).elim
theorem qIs:OpR X (binaryOp .FloorDiv) (rB X.K .fdiv):=by
 rintro pins s σ H x y v u Q I rx ry ⟨w,ρ,h,d,e,r,hd,he,p⟩
 cases d with
 | int i =>
  cases e with
  | int j =>
   cases hd;cases he
   obtain ⟨hc,p⟩:=PostV.ite (c:=0<j∧j<1073741824) p
   exact L2.op_fdiv pins s σ H _ _ v u Q I rx ry ⟨i,j,rfl,rfl,hc,p.now r rfl⟩
  | _=>exact (show False from p).elim
 | _=>exact (show False from p).elim
theorem qKo:OpR X (binaryOp .Mod) (rB X.K .mod):=by
 rintro pins s σ H x y v u Q I rx ry ⟨w,ρ,h,d,e,r,hd,he,p⟩
 cases d with
 | int i =>
  cases e with
  | int j =>
   cases hd;cases he
   obtain ⟨hc,p⟩:=PostV.ite (c:=0<j) p
   exact L2.op_mod pins s σ H _ _ v u Q I rx ry ⟨i,j,rfl,rfl,hc,p.now r rfl⟩
  | _=>exact (show False from p).elim
 | _=>exact (show False from p).elim
theorem qKm:OpR X (binaryOp .Pow) (rB X.K .pow):=by
 rintro pins s σ H x y v u Q I rx ry ⟨w,ρ,h,d,e,r,hd,he,p⟩
 cases d with
 | int i =>
  cases e with
  | int j =>
   cases hd;cases he
   obtain ⟨hc,p⟩:=PostV.ite (c:=0≤j∧j≤1000000∧i.natAbs<2 ^ 64) p
   exact L2.op_pow pins s σ H _ _ v u Q I rx ry ⟨i,j,rfl,rfl,hc,p.now r rfl⟩
  | _=>exact (show False from p).elim
 | _=>exact (show False from p).elim
theorem qMy:OpR X (compareOp .Lt) (rB X.K .lt):=by
 rintro pins s σ H x y v u Q I rx ry ⟨w,ρ,h,d,e,r,hd,he,p⟩
 cases d with
 | int i =>
  cases e with
  | int j=>cases hd;cases he;exact L2.op_lt pins s σ H _ _ v u Q I rx ry ⟨i,j,rfl,rfl,p.now r rfl⟩
  | _=>exact (show False from p).elim
 | _=>exact (show False from p).elim
theorem qMz:OpR X (compareOp .LtE) (rB X.K .le):=by
 rintro pins s σ H x y v u Q I rx ry ⟨w,ρ,h,d,e,r,hd,he,p⟩
 cases d with
 | int i =>
  cases e with
  | int j=>cases hd;cases he;exact L2.op_le pins s σ H _ _ v u Q I rx ry ⟨i,j,rfl,rfl,p.now r rfl⟩
  | _=>exact (show False from p).elim
 | _=>exact (show False from p).elim
theorem qM1:OpR X (compareOp .Gt) (rB X.K .gt):=by
 rintro pins s σ H x y v u Q I rx ry ⟨w,ρ,h,d,e,r,hd,he,p⟩
 cases d with
 | int i =>
  cases e with
  | int j=>cases hd;cases he;exact L2.op_gt pins s σ H _ _ v u Q I rx ry ⟨i,j,rfl,rfl,p.now r rfl⟩
  | _=>exact (show False from p).elim
 | _=>exact (show False from p).elim
theorem qM2:OpR X (compareOp .GtE) (rB X.K .ge):=by
 rintro pins s σ H x y v u Q I rx ry ⟨w,ρ,h,d,e,r,hd,he,p⟩
 cases d with
 | int i =>
  cases e with
  | int j=>cases hd;cases he;exact L2.op_ge pins s σ H _ _ v u Q I rx ry ⟨i,j,rfl,rfl,p.now r rfl⟩
  | _=>exact (show False from p).elim
 | _=>exact (show False from p).elim
theorem RepH.own {i:Nat} {xs:List D} (r:RepH K ρ h H) (e:h[i]?=some (.lst xs)) {v:V} (hv:RepV K ρ H (.ref i) v):∃ a vs,v=.ref a∧ρ[i]?=some a∧H a=some (.lst vs)∧RepL K ρ H xs vs:=by
 obtain ⟨a,h1,h2⟩:=hv
 obtain ⟨b,h3,vs,h4,h5⟩:=r.obj i _ e
 rw [h1] at h3
 cases h3
 exact ⟨a,vs,h2,h1,h4,h5⟩
theorem RepH.seen {i:Nat} {xs:List D} (r:RepH K ρ h H) (e:getL h i=some xs) {v:V} (hv:RepV K ρ H (.ref i) v):∃ a vs,v=.ref a∧SqL K H a vs∧RepL K ρ H xs vs:=by
 obtain ⟨a,h1,h2⟩:=hv
 obtain ⟨b,vs,h3,h4,h5⟩:=r.list e
 rw [h1] at h3
 cases h3
 exact ⟨a,vs,h2,h4,h5⟩
theorem qKp:OpR X (binaryOp .Add) (rB X.K .add):=by
 rintro pins s σ H x y v u Q I rx ry ⟨w,ρ,h,d,e,r,hd,he,p⟩
 cases d with
 | int i =>
  cases e with
  | int j=>cases hd;cases he;exact L2.op_add pins s σ H _ _ v u Q I rx ry ⟨i,j,rfl,rfl,p.now r rfl⟩
  | _=>exact (show False from p).elim
 | str a =>
  cases e with
  | str b =>
   cases hd;cases he
   obtain ⟨hc,p⟩:=PostV.ite (c:=a.length+b.length≤16777216) p
   exact L2.op_add_str pins s σ H _ _ v u Q I rx ry ⟨_,_,rfl,rfl,by rw [qAb,qAb,szEq];exact hc,by rw [qEy];exact p.now r rfl⟩
  | _=>exact (show False from p).elim
 | tup a =>
  cases e with
  | tup b =>
   obtain ⟨pa,va,rfl,ta,la⟩:=hd
   obtain ⟨pb,vb,rfl,tb,lb⟩:=he
   obtain ⟨hz,p⟩:=PostV.ite (c:=a.length+b.length≤16777216) p
   by_cases hc:a=[]
   ·subst hc
    have ev:va=[]:=List.eq_nil_of_length_eq_zero la.length
    subst ev
    cases rx
    cases ry
    obtain ⟨its,r1,p1,_⟩:=I.tuple ta
    obtain ⟨its2,r2,p2,_⟩:=I.tuple tb
    have ei:its=[]:=r1.nil_iff.mpr rfl
    subst ei
    obtain ⟨⟨cls,dd,data,sl⟩,ho,hc,n,hd⟩:=id p1
    obtain ⟨⟨cls2,dd2,data2,sl2⟩,ho2,hc2,n2,hd2⟩:=id p2
    simp only at hc hd hc2 hd2
    subst hc hd hc2 hd2
    exact concat_meets ⟨_,ho,rfl⟩ ⟨_,ho2,rfl⟩ noFill_tuple_add seq_tuple_add PySem.F.slot_tuple_add PySem.F.entry_tuple_add (PySem.F.args_tuple_add_2 _ _)
     (tuple_addW0 pa pb _ _ n n2 dd dd2 sl sl2 rfl) ⟨ho,ho2,⟨.ref pb,H,I,rfl,p.now r ⟨pb,vb,rfl,tb,lb⟩⟩⟩
   refine L2.op_catT pins s σ H _ _ v u Q I rx ry ⟨pa,pb,va,vb,rfl,rfl,ta,tb,fun z=>hc ?_,by rw [la.length,lb.length,szEq];exact hz,fun z=>?_,fun _=>p.newT r (la.append lb)⟩
   ·have:=la.length
    rw [z] at this
    exact List.eq_nil_of_length_eq_zero this.symm
   ·subst z
    have e:b=[]:=List.eq_nil_of_length_eq_zero lb.length.symm
    subst e
    rw [List.append_nil] at p
    exact p.now r ⟨pa,va,rfl,ta,la⟩
  | _=>exact (show False from p).elim
 | ref i =>
  cases e with
  | ref j =>
   have p:PostV X.K w Q ρ H (match h[i]?,h[j]? with | some (.lst xs),some (.lst ys)=>newL (xs++ys) h | _,_=>.bad):=p
   split at p
   ·rename_i xs ys e1 e2
    obtain ⟨a,va,rfl,_,ha,la⟩:=r.own e1 hd
    obtain ⟨b,vb,rfl,_,hb,lb⟩:=r.own e2 he
    obtain ⟨hz,q⟩:=p.newL r (la.append lb)
    exact L2.op_cat pins s σ H _ _ v u Q I rx ry ⟨a,b,va,vb,rfl,rfl,ha,hb,by rw [← List.length_append];exact hz,q⟩
   ·exact (show False from p).elim
  | _=>exact (show False from p).elim
 | _=>exact (show False from p).elim
end
end Fy
set_option Elab.async false
set_option linter.all false
set_option maxRecDepth 100000
set_option maxHeartbeats 4000000
namespace Fy
open PySem PySem.Spec PyProof.Rows
open L2 (V Hp HO VK TE TT TA TS TI Cx Inv RelV Vals SqL SqT Rd upd qAA qAB PE PT PA PS PSs EP OpR CallR IxR MtR SlR PO TO)
theorem Post.bind {α β:Type} {K:PySem.W.Frag} {w:W1} {rep:List Addr→Hp→β→Prop} {rep':List Addr→Hp→α→Prop} {ρ:List Addr} {H:Hp} {m:M α} {f:α→M β} {h:AH} (p:Post K w rep ρ H (M.bind m f h))
    (k:∀ ρ' h' a H',Step ρ H ρ' H'→RepH K ρ' h' H'→Post K w rep ρ' H' (f a h')→rep' ρ' H' a):Post K w rep' ρ H (m h):=by
  unfold M.bind at p
  cases e:m h with
  | ok a h1 =>
    rw [e] at p
    exact fun ρ1 H1 e1 r1=>k ρ1 h1 a H1 e1 r1 (Post.mono p e1)
  | exc c h1=>rw [e] at p;exact p
  | bad=>rw [e] at p;exact p
theorem Post.when {α:Type} {K:PySem.W.Frag} {w:W1} {rep:List Addr→Hp→α→Prop} {ρ:List Addr} {H:Hp} {c:Prop} [Decidable c] {m:M α} {h:AH} (p:Post K w rep ρ H (M.when c m h)):c∧Post K w rep ρ H (m h):=by
 unfold M.when at p
 by_cases hc:c
 ·rw [if_pos hc] at p
  exact ⟨hc,p⟩
 ·rw [if_neg hc] at p
  exact False.elim p
theorem Post.imp {α:Type} {K:PySem.W.Frag} {w:W1} {rep rep':List Addr→Hp→α→Prop} {ρ:List Addr} {H:Hp} {r:R α} (p:Post K w rep ρ H r) (k:∀ ρ' H' a,rep ρ' H' a→rep' ρ' H' a):Post K w rep' ρ H r:=by
 cases r with
 | ok a h=>exact fun ρ' H' e rh=>k ρ' H' a (p ρ' H' e rh)
 | exc _ _=>exact p
 | bad=>exact p
theorem Post.ret {α:Type} {K:PySem.W.Frag} {w:W1} {rep:List Addr→Hp→α→Prop} {ρ:List Addr} {H:Hp} {a:α} {h:AH} (p:Post K w rep ρ H (M.ret a h)) (r:RepH K ρ h H):rep ρ H a:=p ρ H (Step.refl ρ H) r
section
variable {X:Cx} {F:Nat→List D→M D} {W:WX} {w:W1}
theorem two {o:Bi} {ca cb:CE} {σ:L2.St} {H:Hp} {Q:VK} (t:tD X.K W (den F (.bi o ca cb)) σ H Q):L2.tOp (rB X.K o) (tD X.K W (den F ca)) (tD X.K W (den F cb)) σ H Q:=by
 obtain ⟨ρ,env,h,s,r,p⟩:=t
 rw [den] at p
 exact ⟨ρ,env,h,s,r,Post.bind p fun ρ1 h1 d H1 e1 r1 q v hv=>⟨ρ1,env,h1,s.mono e1,r1,Post.bind q fun ρ2 h2 d2 H2 e2 r2 q2 w hw=>⟨_,ρ2,h2,d,d2,r2,hv.mono e2 _ _,hw,q2⟩⟩⟩
noncomputable def rU (K:PySem.W.Frag) (o:Un):V→Hp→VK→Prop:=fun x H Q=>∃ (w:W1),∃ ρ h d,RepH K ρ h H∧RepV K ρ H d x∧PostV K w Q ρ H (unD o d h)
noncomputable def rC (K:PySem.W.Frag) (o:Un):List V→Hp→VK→Prop:=fun xs H Q=>∃ x,xs=[x]∧rU K o x H Q
noncomputable def rC2 (K:PySem.W.Frag) (o:Bi):List V→Hp→VK→Prop:=fun xs H Q=>∃ x y,xs=[x,y]∧rB K o x y H Q
theorem one {o:Un} {ca:CE} {σ:L2.St} {H:Hp} {Q:VK} (t:tD X.K W (den F (.un o ca)) σ H Q):tD X.K W (den F ca) σ H fun x H1=>rU X.K o x H1 Q:=by
 obtain ⟨ρ,env,h,s,r,p⟩:=t
 rw [den] at p
 exact ⟨ρ,env,h,s,r,Post.bind p fun ρ1 h1 d H1 e1 r1 q v hv=>⟨_,ρ1,h1,d,r1,hv,q⟩⟩
theorem d_lit {v:V} {e:Expr} {d:D} (he:PE X e (L2.tC v)) (hv:∀ ρ H,RepV X.K ρ H d v):PE X e (tD X.K W (den F (.lit d))):=PE.imp he fun σ H Q t=>by
 obtain ⟨ρ,env,h,s,r,p⟩:=t
 rw [den] at p
 exact Post.ret p r v (hv ρ H)
theorem d_var {i:Nat} {e:Expr} (he:PE X e (L2.tVar i)):PE X e (tD X.K W (den F (.var i))):=PE.imp he fun σ H Q t=>by
 obtain ⟨ρ,env,h,s,r,p⟩:=t
 rw [den] at p
 cases q:env[i]? with
 | none=>rw [q] at p;exact False.elim p
 | some o =>
  cases o with
  | none=>rw [q] at p;exact False.elim p
  | some d =>
   rw [q] at p
   obtain ⟨v,h1,h2⟩:=s.2 i d q
   exact ⟨v,h1,p ρ H (Step.refl ρ H) r v h2⟩
theorem qNq {es:List Expr}:PA X [] (tDL X.K W (denL F .nil)):=PA.imp L2.pa_nil fun σ H Q t=>by
 obtain ⟨ρ,env,h,s,r,p⟩:=t
 rw [denL] at p
 exact Post.ret p r [] rfl
theorem qLe {e:Expr} {es:List Expr} {c:CE} {cl:CL} (he:PE X e (tD X.K W (den F c))) (hr:PA X es (tDL X.K W (denL F cl))) (hs:starEach (e::es) X.env=(false,eval e X.env)::starEach es X.env) :
    PA X (e::es) (tDL X.K W (denL F (.cons c cl))):=PA.imp (L2.pa_cons he hr hs) fun σ H Q t=>by
  obtain ⟨ρ,env,h,s,r,p⟩:=t
  rw [denL] at p
  refine ⟨ρ,env,h,s,r,Post.bind p fun ρ1 h1 d H1 e1 r1 q v hv=>⟨ρ1,env,h1,s.mono e1,r1,Post.bind q fun ρ2 h2 ds H2 e2 r2 q2 vs hvs=>?_⟩⟩
  exact Post.ret q2 r2 (v::vs) ⟨v,vs,rfl,hv.mono e2 _ _,hvs⟩
theorem d_and {a b:Expr} {rest:List Expr} {pos:Pos} {ca cb:CE} (ha:PE X a (tD X.K W (den F ca))) (hb:PE X (.BoolOp .And (b::rest) pos) (tD X.K W (den F cb))) :
    PE X (.BoolOp .And (a::b::rest) pos) (tD X.K W (den F (.and ca cb))):=PE.imp (L2.pe_and ha hb) fun σ H Q t=>by
  obtain ⟨ρ,env,h,s,r,p⟩:=t
  rw [den] at p
  refine ⟨ρ,env,h,s,r,Post.bind p fun ρ1 h1 d H1 e1 r1 q v hv=>?_⟩
  cases d with
  | bl c =>
    cases hv
    cases c with
    | true=>exact ⟨true,rfl,⟨ρ1,env,h1,s.mono e1,r1,q⟩⟩
    | false=>exact ⟨false,rfl,Post.ret q r1 _ rfl⟩
  | _=>exact False.elim q
theorem d_or {a b:Expr} {rest:List Expr} {pos:Pos} {ca cb:CE} (ha:PE X a (tD X.K W (den F ca))) (hb:PE X (.BoolOp .Or (b::rest) pos) (tD X.K W (den F cb))) :
    PE X (.BoolOp .Or (a::b::rest) pos) (tD X.K W (den F (.or ca cb))):=PE.imp (L2.pe_or ha hb) fun σ H Q t=>by
  obtain ⟨ρ,env,h,s,r,p⟩:=t
  rw [den] at p
  refine ⟨ρ,env,h,s,r,Post.bind p fun ρ1 h1 d H1 e1 r1 q v hv=>?_⟩
  cases d with
  | bl c =>
    cases hv
    cases c with
    | true=>exact ⟨true,rfl,Post.ret q r1 _ rfl⟩
    | false=>exact ⟨false,rfl,⟨ρ1,env,h1,s.mono e1,r1,q⟩⟩
  | _=>exact False.elim q
theorem TruV.of {ρ:List Addr} {H:Hp} {h:AH} {d:D} {v:V} {rep:List Addr→Hp→Bool→Prop} (r:RepH X.K ρ h H) (hv:RepV X.K ρ H d v) (p:Post X.K w rep ρ H (truth d h)):∃ k,L2.TruV X.K v H k∧rep ρ H k:=by
 cases d with
 | non=>cases hv;exact ⟨false,rfl,Post.ret (a:=false) p r⟩
 | bl b=>cases hv;exact ⟨b,rfl,Post.ret (a:=b) p r⟩
 | int i=>cases hv;exact ⟨i != 0,rfl,Post.ret (a:=i != 0) p r⟩
 | str x =>
  cases hv
  have p:Post X.K w rep ρ H (if x.length≤16777216 then .ok (!x.isEmpty) h else .bad):=p
  by_cases hc:x.length≤16777216
  ·rw [if_pos hc] at p
   refine ⟨!x.isEmpty,⟨by rw [qAb,szEq];exact hc,?_⟩,Post.ret (a:=!x.isEmpty) p r⟩
   rw [qAb]
   cases x with
   | nil=>rfl
   | cons c x=>simp;omega
  ·rw [if_neg hc] at p
   exact False.elim p
 | tup xs =>
  obtain ⟨a,vs,rfl,h1,h2⟩:=hv
  refine ⟨!xs.isEmpty,.inr (.inl ⟨vs,h1,?_⟩),Post.ret (a:=!xs.isEmpty) p r⟩
  have:=h2.length
  cases xs <;> cases vs <;> simp_all
 | ref i =>
  have p:Post X.K w rep ρ H (match getL h i with | some xs=>.ok (!xs.isEmpty) h | none=>.bad):=p
  cases e:getL h i with
  | none=>rw [e] at p;exact False.elim p
  | some xs =>
   rw [e] at p
   obtain ⟨a,vs,rfl,h1,h2⟩:=r.seen e hv
   refine ⟨!xs.isEmpty,.inl ⟨vs,h1,?_⟩,Post.ret (a:=!xs.isEmpty) p r⟩
   have:=h2.length
   cases xs <;> cases vs <;> simp_all
theorem qJU {e:Expr} {c:CE} (he:PE X e (tD X.K W (den F c))) (hi:∀ whole,isTrue e X.env whole=(do let v ← whole;standAt e.pos;holding [v] (truthy v))) :
    PT X e (tDT X.K W (denT F (.val c))):=PT.imp (L2.pt_truth he hi) fun σ H Q t=>by
  obtain ⟨ρ,env,h,s,r,p⟩:=t
  rw [denT] at p
  exact ⟨ρ,env,h,s,r,Post.bind p fun ρ1 h1 d H1 e1 r1 q v hv=>TruV.of r1 hv q⟩
noncomputable def isCmp:Bi→Bool
 | .eq | .ne | .lt | .le | .gt | .ge | .isin | .notin=>true
 | _=>false
theorem qNe {k:Nat} {y:Ky} {h h':AH} {r:D} (q:hasK k y h=.ok r h'):∃ b,r=.bl b:=by
 unfold hasK at q
 split at q
 ·cases q;exact ⟨_,rfl⟩
 ·cases q
theorem qJ8 {o:Bi} {d e r:D} {h h':AH} (hc:isCmp o=true) (q:biD o d e h=.ok r h'):∃ k,r=.bl k:=by
  cases o with
  | eq =>
    have q:(match eqTop h d e with | some b=>R.ok (D.bl b) h | none=>.bad)=.ok r h':=q
    split at q <;> cases q
    exact ⟨_,rfl⟩
  | ne =>
    have q:(match eqTop h d e with | some b=>R.ok (D.bl (!b)) h | none=>.bad)=.ok r h':=q
    split at q <;> cases q
    exact ⟨_,rfl⟩
  | lt=>cases d <;> first | cases q | (cases e <;> first | (cases q;exact ⟨_,rfl⟩) | cases q)
  | le=>cases d <;> first | cases q | (cases e <;> first | (cases q;exact ⟨_,rfl⟩) | cases q)
  | gt=>cases d <;> first | cases q | (cases e <;> first | (cases q;exact ⟨_,rfl⟩) | cases q)
  | ge=>cases d <;> first | cases q | (cases e <;> first | (cases q;exact ⟨_,rfl⟩) | cases q)
  | isin =>
    cases d <;> first | cases q | cases e <;> first
      | (rename_i x y
         have q:(match inTx x y with | some b=>R.ok (D.bl b) h | none=>.bad)=.ok r h':=q
         split at q <;> cases q
         exact ⟨_,rfl⟩)
      | (rename_i x y
         have q:(match (getL h y).bind qAO with | some xs=>R.ok (D.bl (xs.contains x)) h | none=>hasK y (.int x) h)=.ok r h':=q
         split at q
         · cases q;exact ⟨_,rfl⟩
         · exact qNe q)
      | (rename_i x y
         have q:(match qAW y with | some ys=>R.ok (D.bl (ys.contains x)) h | none=>.bad)=.ok r h':=q
         split at q <;> cases q
         exact ⟨_,rfl⟩)
      | (rename_i x y
         have q:(match (getL h y).bind (anyD fun z=>eqTop h z (.tup x)) with | some b=>R.ok (D.bl b) h | none=>.bad)=.ok r h':=q
         split at q <;> cases q
         exact ⟨_,rfl⟩)
      | cases q
  | notin =>
    cases d <;> first | cases q | cases e <;> first
      | (rename_i x y
         have q:(match inTx x y with | some b=>R.ok (D.bl (!b)) h | none=>.bad)=.ok r h':=q
         split at q <;> cases q
         exact ⟨_,rfl⟩)
      | (rename_i x y
         have q:(match (getL h y).bind qAO with | some xs=>R.ok (D.bl (!xs.contains x)) h | none=>.bad)=.ok r h':=q
         split at q <;> cases q
         exact ⟨_,rfl⟩)
      | cases q
  | _=>cases hc
theorem Post.cmp {o:Bi} {d e:D} {K:PySem.W.Frag} {w:W1} {ρ:List Addr} {H:Hp} {h:AH} {Q:Bool→Hp→Prop} (hc:isCmp o=true) (p:Post K w (fun _ H' b=>Q b H') ρ H (M.bind (biD o d e) truth h)) :
    PostV K w (fun x H'=>∃ k,x=.bl k∧Q k H') ρ H (biD o d e h):=by
  unfold M.bind at p
  cases q:biD o d e h with
  | ok r h' =>
    rw [q] at p
    obtain ⟨k,rfl⟩:=qJ8 hc q
    exact fun ρ' H' e' r' v hv=>⟨k,hv,p ρ' H' e' r'⟩
  | exc c h'=>rw [q] at p;exact p
  | bad=>rw [q] at p;exact p
theorem d_cmp {a b:Expr} {op:CmpOp} {o:Bi} {ca cb:CE} {pos:Pos} (ho:OpR X (compareOp op) (rB X.K o)) (ha:PE X a (tD X.K W (den F ca))) (hb:PE X b (tD X.K W (den F cb))) (hm:behindInMarks op b=false) :
    PE X (.Compare a [op] [b] pos) (tD X.K W (den F (.bi o ca cb))):=PE.imp (L2.pe_cmpR ho ha hb hm) fun _ _ _ t=>two t
theorem qAL {α β γ:Type} (m:M α) (f:α→M β) (g:β→M γ):M.bind (M.bind m f) g=M.bind m fun x=>M.bind (f x) g:=by
 funext h
 unfold M.bind
 cases m h <;> rfl
theorem qNm {a b:Expr} {op:CmpOp} {o:Bi} {ca cb:CE} {pos:Pos} (hc:isCmp o=true) (ho:OpR X (compareOp op) (rB X.K o)) (ha:PE X a (tD X.K W (den F ca))) (hb:PE X b (tD X.K W (den F cb))) (hm:behindInMarks op b=false) :
    PT X (.Compare a [op] [b] pos) (tDT X.K W (denT F (.val (.bi o ca cb)))):=PT.imp (L2.pt_cmpR ho ha hb hm) fun σ H Q t=>by
  obtain ⟨ρ,env,h,s,r,p⟩:=t
  rw [denT,den,qAL] at p
  refine ⟨ρ,env,h,s,r,Post.bind p fun ρ1 h1 d H1 e1 r1 q v hv=>⟨ρ1,env,h1,s.mono e1,r1,?_⟩⟩
  have q:Post X.K (W.at σ) (fun _ H' b=>Q b H') ρ1 H1 (M.bind (M.bind (den F cb env) fun y=>biD o d y) truth h1):=q
  rw [qAL] at q
  exact Post.bind q fun ρ2 h2 d2 H2 e2 r2 q2 w hw=>⟨_,ρ2,h2,d,d2,r2,hv.mono e2 _ _,hw,Post.cmp hc q2⟩
theorem qJ9 {o o':Bi} {ca cb cc:CE} {σ:L2.St} {H:Hp} {Q:VK} (t:tD X.K W (den F (.chain o o' ca cb cc)) σ H Q):L2.tChain (rB X.K o) (rB X.K o') (tD X.K W (den F ca)) (tD X.K W (den F cb)) (tD X.K W (den F cc)) σ H Q:=by
 obtain ⟨ρ,env,h,s,r,p⟩:=t
 rw [den] at p
 refine ⟨ρ,env,h,s,r,Post.bind p fun ρ1 h1 d H1 e1 r1 q v hv=>⟨ρ1,env,h1,s.mono e1,r1,Post.bind q fun ρ2 h2 d2 H2 e2 r2 q2 w hw=>⟨_,ρ2,h2,d,d2,r2,hv.mono e2 _ _,hw,Post.bind q2 fun ρ3 h3 z H3 e3 r3 q3 zv hz=>?_⟩⟩⟩
 cases z with
 | bl k =>
  cases hz
  cases k with
  | true=>exact ⟨true,rfl,L2.iteT ⟨ρ3,env,h3,((s.mono e1).mono e2).mono e3,r3,Post.bind q3 fun ρ4 h4 d4 H4 e4 r4 q4 x hx=>⟨_,ρ4,h4,d2,d4,r4,(hw.mono e3 _ _).mono e4 _ _,hx,q4⟩⟩⟩
  | false=>exact ⟨false,rfl,L2.iteF (Post.ret q3 r3 _ rfl)⟩
 | _=>exact False.elim q3
theorem qLh {a b c:Expr} {op op':CmpOp} {o o':Bi} {ca cb cc:CE} {pos:Pos} (ho:OpR X (compareOp op) (rB X.K o)) (ho':OpR X (compareOp op') (rB X.K o')) (ha:PE X a (tD X.K W (den F ca))) (hb:PE X b (tD X.K W (den F cb))) (hc:PE X c (tD X.K W (den F cc)))
    (hm:lastMarks [op,op'] [b,c]=false):PE X (.Compare a [op,op'] [b,c] pos) (tD X.K W (den F (.chain o o' ca cb cc))):=PE.imp (L2.pe_chain ho ho' ha hb hc hm) fun σ H Q t=>qJ9 t
theorem valI {ce:CE} (hb:∀ env h d h',den F ce env h=.ok d h'→∃ k,d=.bl k) {σ:L2.St} {H:Hp} {Q:Bool→Hp→Prop} (t:tDT X.K W (denT F (.val ce)) σ H Q):tD X.K W (den F ce) σ H (fun x H'=>∃ k,x=.bl k∧Q k H'):=by
 obtain ⟨ρ,env,h,s,r,p⟩:=t
 rw [denT] at p
 refine ⟨ρ,env,h,s,r,?_⟩
 unfold M.bind at p
 cases q:den F ce env h with
 | ok d h' =>
  rw [q] at p
  obtain ⟨k,rfl⟩:=hb _ _ _ _ q
  exact fun ρ' H' e' r' v hv=>⟨k,hv,p ρ' H' e' r'⟩
 | exc c h'=>rw [q] at p;exact p
 | bad=>rw [q] at p;exact p
theorem bind_ok {α β:Type} {m:M α} {f:α→M β} {h h':AH} {b:β} (e:M.bind m f h=.ok b h'):∃ a h1,m h=.ok a h1∧f a h1=.ok b h':=by
 unfold M.bind at e
 cases q:m h with
 | ok a h1=>rw [q] at e;exact ⟨a,h1,rfl,e⟩
 | exc _ _=>rw [q] at e;cases e
 | bad=>rw [q] at e;cases e
theorem qJe {o o':Bi} {ca cb cc:CE} (h2:isCmp o'=true) (env:Env) (h:AH) (d:D) (h':AH) (e:den F (.chain o o' ca cb cc) env h=.ok d h'):∃ k,d=.bl k:=by
 rw [den] at e
 obtain ⟨x,g1,_,e⟩:=bind_ok e
 obtain ⟨y,g2,_,e⟩:=bind_ok e
 obtain ⟨z,g3,_,e⟩:=bind_ok e
 cases z with
 | bl k =>
  cases k with
  | true =>
   obtain ⟨w,g4,_,e⟩:=bind_ok e
   exact qJ8 h2 e
  | false=>cases e;exact ⟨_,rfl⟩
 | _=>cases e
theorem qJV {a b c:Expr} {op op':CmpOp} {o o':Bi} {ca cb cc:CE} {pos:Pos} (h2:isCmp o'=true) (ho:OpR X (compareOp op) (rB X.K o)) (ho':OpR X (compareOp op') (rB X.K o')) (ha:PE X a (tD X.K W (den F ca))) (hb:PE X b (tD X.K W (den F cb))) (hc:PE X c (tD X.K W (den F cc)))
    (hm:lastMarks [op,op'] [b,c]=false):PT X (.Compare a [op,op'] [b,c] pos) (tDT X.K W (denT F (.val (.chain o o' ca cb cc)))):=PT.imp (L2.pt_chain ho ho' ha hb hc hm) fun σ H Q t=>qJ9 (valI (qJe h2) t)
theorem d_not {a:Expr} {ca:CE} {pos:Pos} (ha:PE X a (tD X.K W (den F ca))):PE X (.UnaryOp .Not a pos) (tD X.K W (den F (.not ca))):=by
 intro pins s σ H Q I t
 refine UnaryOp_ (L2.thn (ha pins s σ H (fun x H1=>∃ k,L2.TruV X.K x H1 k∧Q (.bl (!k)) H1) I ?_) fun v s1 ⟨x,H1,I1,r1,k,hk,q1⟩=>?_)
 ·obtain ⟨ρ,env,h,s',r,p⟩:=t
  rw [den] at p
  refine ⟨ρ,env,h,s',r,Post.bind (rep':=fun ρ' H' d=>∀ v,RepV X.K ρ' H' d v→∃ k,L2.TruV X.K v H' k∧Q (.bl (!k)) H') (by rw [qAL] at p;exact p) fun ρ1 h1 d H1 e1 r1 q v hv=>?_⟩
  exact TruV.of (rep:=fun ρ' H' k=>Q (.bl (!k)) H') r1 hv (Post.bind q fun ρ2 h2 k H2 e2 r2 q2=>Post.ret q2 r2 _ rfl)
 ·exact not_of (L2.thn (L2.tru_ok pins s1 σ H1 x v (fun k H'=>Q (.bl (!k)) H') I1 r1 ⟨k,hk,q1⟩) fun c s2 ⟨H2,I2,q2⟩=>⟨.bl (!c),H2,I2,rfl,q2⟩)
theorem d_tup {es:List Expr} {cl:CL} {k:Nat} {pos:Pos} (h:PA X es (tDL X.K W (denL F cl))):PE X (.Tuple es k pos) (tD X.K W (den F (.tup cl))):=PE.imp (L2.pe_tup h) fun σ H Q t=>by
 obtain ⟨ρ,env,h,s,r,p⟩:=t
 rw [den] at p
 refine ⟨ρ,env,h,s,r,Post.bind p fun ρ1 h1 ds H1 e1 r1 q vs hvs=>?_⟩
 obtain ⟨hc,q⟩:=Post.when q
 exact ⟨by rw [hvs.length,szEq];exact hc,PostV.newT q r1 hvs⟩
theorem d_lst {es:List Expr} {cl:CL} {pos:Pos} (h:PA X es (tDL X.K W (denL F cl))):PE X (.List es pos) (tD X.K W (den F (.lst cl))):=PE.imp (L2.pe_lst h) fun σ H Q t=>by
 obtain ⟨ρ,env,h,s,r,p⟩:=t
 rw [den] at p
 exact ⟨ρ,env,h,s,r,Post.bind p fun ρ1 h1 ds H1 e1 r1 q vs hvs=>PostV.newL q r1 hvs⟩
noncomputable def spD (K:PySem.W.Frag) (m:List D→M D):L2.Sp:=fun vs H Q E=>∃ ρ h ds,RepH K ρ h H∧RepL K ρ H ds vs∧PostV K (fun c H'=>∀ e,E e (some c) H') Q ρ H (m ds h)
theorem qDx {a:Expr} {ca:CE} {o:Un} {e:Expr} {r:List V→Hp→VK→Prop} (he:PE X e (L2.tCB r (L2.tCons (tD X.K W (den F ca)) L2.tNil))) (hr:∀ x H Q,rU X.K o x H Q→r [x] H Q):PE X e (tD X.K W (den F (.un o ca))):=PE.imp he fun σ H Q t=>by
 obtain ⟨ρ,env,h,s,r',p⟩:=one t
 exact ⟨ρ,env,h,s,r',Post.imp p fun ρ' H' d q v hv=>hr v H' Q (q v hv)⟩
theorem qH9 {ca cb:CE} {o:Bi} {e:Expr} {r:List V→Hp→VK→Prop} (he:PE X e (L2.tCB r (L2.tCons (tD X.K W (den F ca)) (L2.tCons (tD X.K W (den F cb)) L2.tNil)))) (hr:∀ x y H Q,rB X.K o x y H Q→r [x,y] H Q):PE X e (tD X.K W (den F (.bi o ca cb))):=PE.imp he fun σ H Q t=>by
 obtain ⟨ρ,env,h,s,r',p⟩:=two t
 refine ⟨ρ,env,h,s,r',Post.imp p fun ρ' H' d q v hv=>?_⟩
 obtain ⟨ρ1,env1,h1,s1,r1,p1⟩:=q v hv
 exact ⟨ρ1,env1,h1,s1,r1,Post.imp p1 fun ρ2 H2 d2 q2 w hw=>hr v w H2 Q (q2 w hw)⟩
end
end Fy
set_option Elab.async false
set_option linter.all false
set_option maxRecDepth 100000
set_option maxHeartbeats 4000000
namespace Fy
open PySem PySem.Spec PyProof.Rows
open L2 (V Hp HO VK TE TT TA TS TI Cx Inv RelV Vals SqL SqT Rd upd qAA qAB PE PT PA PS PSs EP OpR CallR IxR MtR SlR PO TO)
theorem kyV_inj {a b:Ky}:kyV a=kyV b↔a=b:=by
 constructor
 ·intro h
  cases a with
  | int i=>cases b with
   | int j=>cases h;rfl
   | str y=>cases h
  | str x=>cases b with
   | int j=>cases h
   | str y =>
    have h:(Sum.inr (⟨x.toArray⟩:Str):L2.Key)=Sum.inr ⟨y.toArray⟩:=h
    have h2:=congrArg Str.cps (Sum.inr.inj h)
    have h3:x=y:=by simpa using congrArg Array.toList h2
    rw [h3]
 ·rintro rfl;rfl
section
variable {K:PySem.W.Frag} {ρ:List Addr} {H:Hp}
theorem RepK.val (k:Ky):∀ {kvs:List (Ky × D)} {vs:List (L2.Key × V)},RepK K ρ H kvs vs→(∃ d v,valY kvs k=some d∧L2.valV vs (kyV k)=some v∧RepV K ρ H d v)∨(valY kvs k=none∧L2.valV vs (kyV k)=none)
 | [],_,h=>by cases h;exact .inr ⟨rfl,rfl⟩
 | x::kvs,_,⟨v,r,rfl,h1,h2⟩=>by
  by_cases e:x.1=k
  ·refine .inl ⟨x.2,v,?_,L2.valV_pos (kyV_inj.mpr e),h1⟩
   unfold valY
   rw [List.find?_cons_of_pos (by simpa using e)]
   rfl
  ·have e2:valY (x::kvs) k=valY kvs k:=by unfold valY;rw [List.find?_cons_of_neg (by simpa using e)]
   rw [e2,L2.valV_neg (fun z=>e (kyV_inj.mp z))]
   exact RepK.val k h2
theorem RepK.any (k:Ky):∀ {kvs:List (Ky × D)} {vs:List (L2.Key × V)},RepK K ρ H kvs vs→(kvs.any fun kv=>decide (kv.1=k))=(vs.any fun kv=>decide (kv.1=kyV k))
 | [],_,h=>by cases h;rfl
 | x::kvs,_,⟨v,r,rfl,h1,h2⟩=>by
  rw [List.any_cons,List.any_cons,RepK.any k h2]
  congr 1
  exact decide_eq_decide.mpr kyV_inj.symm
theorem RepK.length:∀ {kvs:List (Ky × D)} {vs:List (L2.Key × V)},RepK K ρ H kvs vs→kvs.length=vs.length
 | [],_,h=>by cases h;rfl
 | x::kvs,_,⟨v,r,rfl,h1,h2⟩=>by rw [List.length_cons,List.length_cons,RepK.length h2]
theorem RepK.repl (k:Ky) {d:D} {v:V} (hv:RepV K ρ H d v):∀ {kvs:List (Ky × D)} {vs:List (L2.Key × V)},RepK K ρ H kvs vs→RepK K ρ H (kvs.map fun kv=>if kv.1=k then (kv.1,d) else kv) (vs.map fun kv=>if kv.1=kyV k then (kv.1,v) else kv)
 | [],_,h=>by cases h;rfl
 | x::kvs,_,⟨u,r,rfl,h1,h2⟩=>by
  rw [List.map_cons,List.map_cons]
  by_cases e:x.1=k
  ·rw [if_pos e,if_pos (kyV_inj.mpr e)]
   exact ⟨v,_,rfl,hv,RepK.repl k hv h2⟩
  ·rw [if_neg e,if_neg (fun z=>e (kyV_inj.mp z))]
   exact ⟨u,_,rfl,h1,RepK.repl k hv h2⟩
theorem RepK.snoc (k:Ky) {d:D} {v:V} (hv:RepV K ρ H d v):∀ {kvs:List (Ky × D)} {vs:List (L2.Key × V)},RepK K ρ H kvs vs→RepK K ρ H (kvs++[(k,d)]) (vs++[(kyV k,v)])
 | [],_,h=>by cases h;exact ⟨v,[],rfl,hv,rfl⟩
 | x::kvs,_,⟨u,r,rfl,h1,h2⟩=>⟨u,r++[(kyV k,v)],rfl,h1,RepK.snoc k hv h2⟩
theorem RepK.put (k:Ky) {d:D} {v:V} (hv:RepV K ρ H d v) {kvs:List (Ky × D)} {vs:List (L2.Key × V)} (h:RepK K ρ H kvs vs):RepK K ρ H (putY kvs k d) (L2.putK vs (kyV k) v):=by
 unfold putY L2.putK
 rw [h.any k]
 split
 ·exact h.repl k hv
 ·exact h.snoc k hv
theorem RepK.merge:∀ {more:List (Ky × D)} {ms:List (L2.Key × V)} {kvs:List (Ky × D)} {vs:List (L2.Key × V)},RepK K ρ H more ms→RepK K ρ H kvs vs→RepK K ρ H (qFo kvs more) (L2.mergeK vs ms)
 | [],_,_,_,h,h0=>by cases h;exact h0
 | x::more,_,kvs,vs,⟨v,r,rfl,h1,h2⟩,h0=>RepK.merge (more:=more) (ms:=r) h2 (h0.put x.1 h1)
theorem RepH.dict {h:AH} {i:Nat} {kvs:List (Ky × D)} (r:RepH K ρ h H) (e:h[i]?=some (.dct kvs)) {v:V} (hv:RepV K ρ H (.ref i) v):∃ a vs,v=.ref a∧ρ[i]?=some a∧H a=some (.dK vs)∧RepK K ρ H kvs vs:=by
 obtain ⟨a,h1,h2⟩:=hv
 obtain ⟨b,h3,vs,h4,h5⟩:=r.obj i _ e
 rw [h1] at h3
 cases h3
 exact ⟨a,vs,h2,h1,h4,h5⟩
theorem RepH.setDict {h:AH} (r:RepH K ρ h H) {k:Nat} {p:Addr} {xs ys:List (Ky × D)} {us vs:List (L2.Key × V)} (hk:h[k]?=some (.dct xs)) (hr:ρ[k]?=some p) (hp:H p=some (.dK us)) (hx:RepK K ρ H ys vs) :
    RepH K ρ (h.set k (.dct ys)) (upd H p (.dK vs)):=r.setO hk rfl rfl hr hp rfl ⟨vs,qAA,RepK.mono (Step.turn hp rfl (List.mem_of_getElem? hr)) _ _ hx⟩
end
section
variable {X:Cx} {pins:List (Addr × Obj)} {σ:L2.St} {H:Hp} {s:Shared} {a:Addr} {vs:List (L2.Key × V)} {k:L2.Key} {v:V} {u:Value} {A:Around} {E:Value→Shared→Prop}
theorem qNo {Q:Value→Shared→Prop} (I:Inv X pins σ H s) (e:H a=some (.dK vs)) (l:L2.valV vs k=some v) (ry:RelV (L2.kV k) u) (h:∀ w' s',Inv X pins σ H s'→RelV v w'→Q w' s'):wpAny (model X.prog X.w) A (getItem (.ref a) u) Q E s:=by
 obtain ⟨z,hd,ws,rel,dd⟩:=L2.dk_rd I.hok (.inl e)
 obtain ⟨w',hw,rw'⟩:=L2.RelO.some_of (v:=v) (o:=valueAt ws k) (by rw [← l];exact rel.val k)
 exact wpAny_getItem_of (L2.kV_is ry) dd.mapOf hw (h w' _ (I.tok _) rw')
theorem dk_in {Q:Value→Shared→Prop} (I:Inv X pins σ H s) (e:H a=some (.dK vs)) (ry:RelV (L2.kV k) u) (h:∀ s',Inv X pins σ H s'→Q (.bool (L2.valV vs k).isSome) s'):wpAny (model X.prog X.w) A (compareOp .In u (.ref a)) Q E s:=by
 obtain ⟨z,hd,ws,rel,dd⟩:=L2.dk_rd I.hok (.inl e)
 refine wpAny_in_of (L2.kV_is ry) hd dd.mapOf ?_
 rw [← (rel.val k).isSome_eq]
 exact h _ (I.tok _)
theorem qNn {r:Value} {Q:Unit→Shared→Prop} (I:Inv X pins σ H s) (e:H a=some (.dK vs)) (hl0:vs.length<sizeLine) (ry:RelV (L2.kV k) u) (rv:RelV v r) (h:∀ s',Inv X pins σ (upd H a (.dK (L2.putK vs k v))) s'→Q () s'):wpAny (model X.prog X.w) A (setItem (.ref a) u r) Q E s:=by
 obtain ⟨z,hd,ws,rel,dd⟩:=L2.dk_of I.hok e
 have hz:ws.length≤sizeLine:=by rw [← rel.length];exact z
 have hl:(L2.putK vs k v).length≤sizeLine:=by have:=L2.length_putK vs k v;omega
 refine wpAny_setItem_pairs (hsz:=hz) (L2.kV_is ry) dd fun h' dd' hs=>h _ ?_
 have he:∃ q,h'.get? a=some q:=let ⟨q,_,_,hq,_⟩:=dd';⟨q,hq⟩
 exact L2.d_write I (by rw [e];exact True.intro) hs he (L2.dk_new hl hd (rel.put k rv) dd')
theorem dk_ty (I:Inv X pins σ H s) (e:H a=some (.dK vs)):s.TypeIs (.ref a) "dict":=by
 obtain ⟨_,_,_,_,dd⟩:=L2.dk_rd I.hok (.inl e)
 exact dd.typeIs
theorem qLZ {value slice:Expr} {Q:Value→Shared→Prop} (hT:s.TypeIs (.ref a) "dict") (hs:subscripted slice false (.ref a) u=operate [.ref a,u] (getItem (.ref a) u)) (h₂:wpAny (model X.prog X.w) A (getItem (.ref a) u) Q E s):wpAny (model X.prog X.w) A (subscriptTail value slice (.ref a) u) Q E s:=by
 unfold subscriptTail
 refine wpAny_bind ?_
 rw [getitemInPython_of_ne hT.not_modules]
 refine wpAny_bind (wpAny_specialOf hT PySem.F.slot_dict_getitem.lookup ?_)
 have fin:wpAny (model X.prog X.w) A (subscripted slice false (.ref a) u) (fun r s₃=>wpAny (model X.prog X.w) A (letTemporaryGo value (.ref a) r >>= fun _=>pure r) Q E s₃) E s:=by
  rw [hs]
  exact wpAny_operating (wpAny_mono h₂ (fun r s₃ h₃=>wpAny_bind (wpAny_letTemporaryGo (wpAny_pure h₃))) fun _ _ x=>x)
 first
  | exact wpAny_pure (wpAny_bind fin)
  | exact wpAny_bind (wpAny_pure (wpAny_bind fin))
  | exact wpAny_bind fin
end
section
variable {X:Cx} {F:Nat→List D→M D} {W:WX}
noncomputable def kyD:Ky→D
 | .int i=>.int i
 | .str x=>.str x
theorem ky_of {K:PySem.W.Frag} {ρ:List Addr} {H:Hp} {k:Ky} {x:V} (h:RepV K ρ H (kyD k) x):x=L2.kV (kyV k):=by
 cases k with
 | int i=>cases h;rfl
 | str y=>cases h;rfl
theorem ix_K {value slice:Expr} {pins:List (Addr × Obj)} {s:Shared} {σ:L2.St} {H:Hp} {x y:V} {v u:Value} {Q:VK} {w:W1} {ρ:List Addr} {h:AH} {k:Nat} {ky:Ky} (I:Inv X pins σ H s) (r:RepH X.K ρ h H) (hd:RepV X.K ρ H (.ref k) x) (he:RepV X.K ρ H (kyD ky) y) (rx:RelV x v) (ry:RelV y u)
    (p:PostV X.K w Q ρ H (ixK k ky h)) (hs:subscripted slice false v u=operate [v,u] (getItem v u)):wpAny (model X.prog X.w) X.A (subscriptTail value slice v u) (EP X pins σ Q) X.xe s:=by
  have p:PostV X.K w Q ρ H (match h[k]? with | some (.dct kvs)=>(match valY kvs ky with | some d=>.ok d h | none=>.bad) | _=>.bad):=p
  split at p
  · rename_i kvs q
    obtain ⟨a,vs,rfl,ha,hH,hk⟩:=r.dict q hd
    cases rx
    have hy:=ky_of he
    subst hy
    rcases hk.val ky with ⟨d,v',e1,e2,hv⟩ | ⟨e1,_⟩
    · rw [e1] at p
      exact qLZ (dk_ty I hH) hs (qNo I hH e2 ry fun w' s' I' rw'=>⟨v',H,I',rw',PostV.now p r hv⟩)
    · rw [e1] at p
      exact False.elim p
  · exact False.elim p
theorem in_K {pins:List (Addr × Obj)} {s:Shared} {σ:L2.St} {H:Hp} {x y:V} {v u:Value} {Q:VK} {w:W1} {ρ:List Addr} {h:AH} {k:Nat} {ky:Ky} (I:Inv X pins σ H s) (r:RepH X.K ρ h H) (hd:RepV X.K ρ H (kyD ky) x) (he:RepV X.K ρ H (.ref k) y) (rx:RelV x v) (ry:RelV y u)
    (p:PostV X.K w Q ρ H (hasK k ky h)):wpAny (model X.prog X.w) X.A (compareOp .In v u) (EP X pins σ Q) X.xe s:=by
  have p:PostV X.K w Q ρ H (match h[k]? with | some (.dct kvs)=>.ok (.bl (valY kvs ky).isSome) h | _=>.bad):=p
  split at p
  · rename_i kvs q
    obtain ⟨a,vs,rfl,ha,hH,hk⟩:=r.dict q he
    cases ry
    have hy:=ky_of hd
    subst hy
    refine dk_in I hH rx fun s' I'=>⟨.bl (L2.valV vs (kyV ky)).isSome,H,I',rfl,?_⟩
    have e:(L2.valV vs (kyV ky)).isSome=(valY kvs ky).isSome:=by
      rcases hk.val ky with ⟨d,v',e1,e2,hv⟩ | ⟨e1,e2⟩
      · rw [e1,e2];rfl
      · rw [e1,e2];rfl
    rw [e]
    exact PostV.now p r rfl
  · exact False.elim p
end
end Fy
set_option Elab.async false
set_option linter.all false
set_option maxRecDepth 100000
set_option maxHeartbeats 4000000
namespace Fy
open PySem PySem.Spec PyProof.Rows
open L2 (V Hp HO VK TE TT TA TS TI Cx Inv RelV Vals SqL SqT Rd upd qAA qAB PE PT PA PS PSs EP OpR CallR IxR MtR SlR PO TO)
noncomputable def clLen:CL→Nat
 | .nil=>0
 | .cons _ l=>clLen l+1
section
variable {X:Cx} {F:Nat→List D→M D} {W:WX}
noncomputable def trs (X:Cx) (F:Nat→List D→M D) (W:WX):List Ky→CL→List (TE × TE)
 | k::ks,.cons e l=>(L2.tC (L2.kV (kyV k)),tD X.K W (den F e))::trs X F W ks l
 | _,_=>[]
theorem qFl:∀ {ks:List Ky} {es:CL} {σ:L2.St} {H:Hp} {env:Env} {ρ:List Addr} {h:AH} {Q:List (V × V)→Hp→Prop},clLen es=ks.length→RepS X.K ρ H env σ→RepH X.K ρ h H →
    Post X.K (W.at σ) (fun ρ' H' ds=>∀ vs,RepL X.K ρ' H' ds vs→Q (((ks.map kyV).zip vs).map fun kv=>(L2.kV kv.1,kv.2)) H') ρ H (denL F es env h)→L2.tPairs (trs X F W ks es) σ H Q
  | [],.nil,σ,H,env,ρ,h,Q,_,s,r,p=>by
    rw [denL] at p
    exact Post.ret p r [] rfl
  | [],.cons _ _,_,_,_,_,_,_,hl,_,_,_=>by cases hl
  | _::_,.nil,_,_,_,_,_,_,hl,_,_,_=>by cases hl
  | k::ks,.cons e l,σ,H,env,ρ,h,Q,hl,s,r,p=>by
    rw [denL] at p
    refine ⟨ρ,env,h,s,r,Post.bind p fun ρ1 h1 d H1 e1 r1 q v hv=>?_⟩
    refine qFl (ks:=ks) (es:=l) (Nat.succ.inj hl) (s.mono e1) r1 (Post.bind q fun ρ2 h2 ds H2 e2 r2 q2=>?_)
    intro vs hvs
    exact Post.ret q2 r2 (v::vs) ⟨v,vs,rfl,hv.mono e2 _ _,hvs⟩
theorem RepK.zip {K:PySem.W.Frag} {ρ:List Addr} {H:Hp}:∀ {ks:List Ky} {ds:List D} {vs:List V},RepL K ρ H ds vs→RepK K ρ H (ks.zip ds) ((ks.map kyV).zip vs)
 | [],_,_,_=>by simp [RepK]
 | k::ks,[],_,h=>by cases h;simp [RepK]
 | k::ks,d::ds,_,⟨v,r,rfl,h1,h2⟩=>⟨v,_,rfl,h1,RepK.zip h2⟩
theorem qNw {keys:List (Option Expr)} {values:List Expr} {ks:List Ky} {es:CL} {pos:Pos} (h:L2.PPs X pos keys values (trs X F W ks es)) (hall:keys.all (·.isSome)=true) (hl:keys.length=values.length) (h15:keys.length≤15) (hk:clLen es=ks.length) (h0:keys=[]→ks=[]∧es=.nil∧values=[]) :
    PE X (.Dict keys values pos) (tD X.K W (den F (.disp ks es))):=by
  have main:∀ (σ:L2.St) (H:Hp) (Q:VK),tD X.K W (den F (.disp ks es)) σ H Q→∀ p,H p=none→L2.tPairs (trs X F W ks es) σ (upd H p (.dK [])) fun ps H2=>H2 p=some (.dK [])∧∃ kvs:List (L2.Key × V),ps=kvs.map (fun kv=>(L2.kV kv.1,kv.2))∧kvs.length≤15∧Q (.ref p) (upd H2 p (.dK (L2.mergeK [] kvs))):=by
    intro σ H Q t p hp
    obtain ⟨ρ,env,h,s,r,q⟩:=t
    rw [den] at q
    have st:Step ρ H (ρ++[p]) (upd H p (.dK [])):=Step.new1 hp
    have r1:RepH X.K (ρ++[p]) (h++[.dct []]) (upd H p (.dK [])):=r.newO hp ⟨[],qAA,rfl⟩
    have q1:PostV X.K (W.at σ) Q (ρ++[p]) (upd H p (.dK [])) (M.bind (denL F es env) (fun ds=>dispD ks ds h.length) (h++[.dct []])):=Post.mono q st
    refine qFl hk (s.mono st) r1 (Post.bind q1 fun ρ2 h2 ds H2 e2 r2 q2=>?_)
    intro vs hvs
    have q2:PostV X.K (W.at σ) Q ρ2 H2 (match h2[h.length]? with | some (.dct [])=>(if ks.length=ds.length∧ks.length≤15 then .ok (.ref h.length) (h2.set h.length (.dct (qFo [] (ks.zip ds)))) else .bad) | _=>.bad):=q2
    have hpl:(ρ++[p])[h.length]?=some p:=by rw [← r.len,List.getElem?_append_right (Nat.le_refl _)];simp
    have hpl2:ρ2[h.length]?=some p:=qBp e2.pre hpl
    split at q2
    · rename_i z
      obtain ⟨⟨c1,c2⟩,q2⟩:=PostV.ite q2
      obtain ⟨a,us,ea,ha,hH,hu⟩:=r2.dict z (v:=.ref p) ⟨p,hpl2,rfl⟩
      cases ea
      cases hu
      refine ⟨hH,(ks.map kyV).zip vs,rfl,?_,?_⟩
      · rw [List.length_zip,List.length_map];omega
      · have stp:Step ρ2 H2 ρ2 (upd H2 p (.dK (L2.mergeK [] ((ks.map kyV).zip vs)))):=Step.turn hH rfl (List.mem_of_getElem? ha)
        exact q2 ρ2 _ stp (r2.setDict z ha hH (RepK.merge (RepK.zip hvs) rfl)) (.ref p) ⟨p,hpl2,rfl⟩
    · exact False.elim q2
  by_cases z:keys=[]
  · obtain ⟨rfl,rfl,rfl⟩:=h0 z
    subst z
    refine PE.imp L2.pe_dnewK fun σ H Q t p hp=>?_
    obtain ⟨hH,kvs,e1,_,q⟩:=main σ H Q t p hp
    cases kvs with
    | cons a b=>cases e1
    | nil =>
      have:upd (upd H p (.dK [])) p (.dK (L2.mergeK [] []))=upd H p (.dK []):=L2.upd_upd
      rw [this] at q
      exact q
  · exact PE.imp (L2.pe_disp h hall hl z h15) fun σ H Q t=>main σ H Q t
end
end Fy
set_option Elab.async false
set_option linter.all false
set_option maxRecDepth 100000
set_option maxHeartbeats 4000000
namespace Fy
open PySem PySem.Spec PyProof.Rows
open L2 (V Hp HO VK TE TT TA TS TI Cx Inv RelV Vals SqL SqT Rd upd qAA qAB PE PT PA PS PSs EP OpR CallR IxR MtR SlR PO TO PI PG PIE Turn FpOk Ends)
noncomputable def Its (z:Str):L2.It:=⟨fun i _=>i<z.cps.size,fun i H x H'=>H'=H∧∃ c,z.cps[i]?=some c∧x=.str ⟨#[c]⟩,fun i _=>i=z.cps.size⟩
theorem qFc {P:Program} {w:World} {K:PySem.W.Frag} {tg:Expr} {z:Str} {t:Tok} {ty:String} (it:Addr)
    (hty:["enumerate","zip","dict_itemiterator","dict_reverseitemiterator","odict_iterator","itertools.zip_longest","itertools.pairwise"].contains ty=false)
    (W:∀ A':Around,A'.handled=none→Walks P w A' it [it] [it] z.cps.size (SignAt z) (fun i h=>h.IsStrIter it ty z t i))
    (W':∀ (A:Around) (i:Nat) (s:Shared) (Q:Value→Shared→Prop) (E:Value→Shared→Prop),s.heap.IsStrIter it ty z t i→Q (.ref it) s→wpAny (model P w) A (pyIter (.ref it)) Q E s) :
    Turn P w K tg (Its z) [it] it (fun i h=>h.IsStrIter it ty z t i) where
  mem:=by simp
  obj:=fun i h st b hb=>by
    have e:b=it:=by simpa using hb
    subst e
    obtain ⟨o,e,c,d⟩:=st
    exact ⟨o,e,fun v z=>by rw [d] at z;cases z⟩
  keep:=fun i h h' st k=>by
    obtain ⟨o,e,c,d⟩:=st
    exact ⟨o,k it (by simp) o e,c,d⟩
  item:=by
    intro X hP hw hK hc i pins s σ H E I hf st hg
    subst hP hw hK
    obtain ⟨f0,f1,f2,f3,f4,f5⟩:=hf it (by simp)
    refine (W X.A (I.ok.hd hc)).item i s _ E hg st fun v h' tk hv st' kp=>?_
    obtain ⟨c,u,hcz,rfl⟩:=hv
    have I1:Inv X pins σ H { s with heap:=h',toks:=tk }:=I.turned (t':=tk) (fun b o hb e=>kp b o (by simpa using hb) e) f0 f1 f3 f4 f5
    obtain ⟨o,e,cc,d⟩:=id st'
    exact ⟨_,rfl,L2.go_of (s:={ s with heap:=h',toks:=tk }) e cc d hty ⟨.str ⟨#[c]⟩,H,I1,⟨u,rfl⟩,⟨rfl,c,hcz,rfl⟩,st',fun b hb=>(hf b hb).1⟩⟩
  done:=by
    intro X hP hw hK hc i pins s σ H E I hf st hg
    subst hP hw hK
    obtain ⟨f0,f1,f2,f3,f4,f5⟩:=hf it (by simp)
    have hg:i=z.cps.size:=hg
    subst hg
    exact (W X.A (I.ok.hd hc)).done s _ E st fun h' tk kp=>⟨rfl,I.turned (t':=tk) (fun b o hb e=>kp b o (by simpa using hb) e) f0 f1 f3 f4 f5⟩
  self:=fun A i s Q E st h=>W' A i s Q E st h
section
variable {X:Cx} {tg:Expr}
noncomputable def iAny (K:PySem.W.Frag) (tl:TE):TI:=fun σ H R=>tl σ H fun x H1 =>
 (∃ a,x=.ref a∧(∃ xs,SqL K H1 a xs)∧R (L2.Itl K a) H1)∨(∃ a,x=.ref a∧(∃ xs,SqT K H1 a xs)∧R (L2.Itt K a) H1)∨∃ z,x=.str z∧R (Its z) H1
theorem qMs {l:Expr} {tl:TE} (hl:PE X l tl):PI X tg l (iAny X.K tl):=by
  intro pins s σ H R I h
  refine L2.thn (hl pins s σ H _ I h) fun v s1 ⟨x,H1,I1,r1,q1⟩=>?_
  have one:∀ {h':Heap} {t':Nat} {b:Addr},b∈[s1.heap.objs.size]→FpOk X pins H1 b:=fun hb=>by
    have e:=List.mem_singleton.mp hb
    subst e
    exact I1.fpOk (Nat.le_refl _) (I1.hok.fresh (Nat.le_refl _))
  rcases q1 with ⟨a,e,⟨xs,hq⟩,q⟩ | ⟨a,e,⟨xs,hq⟩,q⟩ | ⟨z,e,q⟩
  · subst e
    cases r1
    obtain ⟨its,rv,p,hz⟩:=I1.list hq
    refine wpAny_pyIter_list p.isList ?_
    exact ⟨s1.heap.objs.size,[s1.heap.objs.size],_,_,H1,rfl,I1.kept (t':=s1.toks) fun b o e=>Heap.get?_push_of_some _ e,L2.turn_list a _,⟨_,Heap.get?_push_size _ rfl,rfl,rfl⟩,fun b hb=>one (h':=s1.heap) (t':=0) hb,q⟩
  · subst e
    cases r1
    obtain ⟨its,rv,p,hz⟩:=I1.tuple hq
    refine wpAny_pyIter_tuple (show s1.heap.IsTuple a its.toArray from p) ?_
    exact ⟨s1.heap.objs.size,[s1.heap.objs.size],_,_,H1,rfl,I1.kept (t':=s1.toks) fun b o e=>Heap.get?_push_of_some _ e,L2.turn_tuple a _,⟨_,Heap.get?_push_size _ rfl,rfl,rfl⟩,fun b hb=>one (h':=s1.heap) (t':=0) hb,q⟩
  · subst e
    obtain ⟨t,rfl⟩:=r1
    cases ha:z.cps.all (·<128)
    · refine wpAny_pyIter_wide ha ?_
      exact ⟨s1.heap.objs.size,[s1.heap.objs.size],_,_,H1,rfl,I1.kept (t':=s1.toks) fun b o e=>Heap.get?_push_of_some _ e,qFc (t:=t) _ (by decide) (fun A' hA=>Walks.strWide hA _ z t) (fun A i s Q E st h=>wpAny_pyIter_striter_wide st h),⟨_,Heap.get?_push_size _ rfl,rfl,rfl⟩,fun b hb=>one (h':=s1.heap) (t':=0) hb,q⟩
    · refine wpAny_pyIter_ascii ha ?_
      exact ⟨s1.heap.objs.size,[s1.heap.objs.size],_,_,H1,rfl,I1.kept (t':=s1.toks) fun b o e=>Heap.get?_push_of_some _ e,qFc (t:=t) _ (by decide) (fun A' hA=>Walks.strAscii hA _ z t) (fun A i s Q E st h=>wpAny_pyIter_striter_ascii st h),⟨_,Heap.get?_push_size _ rfl,rfl,rfl⟩,fun b hb=>one (h':=s1.heap) (t':=0) hb,q⟩
end
noncomputable def PostS (K:PySem.W.Frag) (W:WX) (D:Ends) (ρ:List Addr) (H:Hp):SR→Prop
 | .nx e h=>∀ ρ' H' st,Step ρ H ρ' H'→RepH K ρ' h H'→RepS K ρ' H' e st→D.nx st H'
 | .rt d h=>∀ ρ' H' v,Step ρ H ρ' H'→RepH K ρ' h H'→RepV K ρ' H' d v→D.rt v H'
 | .bk e h=>∀ ρ' H' st,Step ρ H ρ' H'→RepH K ρ' h H'→RepS K ρ' H' e st→D.bk st H'
 | .ct e h=>∀ ρ' H' st,Step ρ H ρ' H'→RepH K ρ' h H'→RepS K ρ' H' e st→D.ct st H'
 | .exc c e h=>∀ ρ' H' st,Step ρ H ρ' H'→RepH K ρ' h H'→RepS K ρ' H' e st→W c st H'
 | .bad=>False
theorem PostS.mono {K:PySem.W.Frag} {W:WX} {D:Ends} {ρ ρ1:List Addr} {H H1:Hp} {r:SR} (p:PostS K W D ρ H r) (e:Step ρ H ρ1 H1):PostS K W D ρ1 H1 r:=by
 cases r with
 | nx _ _=>exact fun ρ' H' st e'=>p ρ' H' st (e.trans e')
 | rt _ _=>exact fun ρ' H' st e'=>p ρ' H' st (e.trans e')
 | bk _ _=>exact fun ρ' H' st e'=>p ρ' H' st (e.trans e')
 | ct _ _=>exact fun ρ' H' st e'=>p ρ' H' st (e.trans e')
 | exc _ _ _=>exact fun ρ' H' st e'=>p ρ' H' st (e.trans e')
 | bad=>exact p
noncomputable abbrev WF:WX:=fun _ _ _=>False
noncomputable def tDS (K:PySem.W.Frag) (W:WX) (m:Env→AH→SR):TS:=fun D σ H=>∃ ρ env h,RepS K ρ H env σ∧RepH K ρ h H∧PostS K W D ρ H (m env h)
theorem PostS.ofR {α:Type} {K:PySem.W.Frag} {W:WX} {D:Ends} {rep:List Addr→Hp→α→Prop} {ρ:List Addr} {H:Hp} {env:Env} {σ:L2.St} {r:R α} {f:α→AH→SR} (s:RepS K ρ H env σ) (p:PostS K W D ρ H (SR.ofR env r f))
    (k:∀ ρ' h' a H',Step ρ H ρ' H'→RepH K ρ' h' H'→PostS K W D ρ' H' (f a h')→rep ρ' H' a):Post K (W.at σ) rep ρ H r:=by
  cases r with
  | ok a h=>exact fun ρ' H' e r'=>k ρ' h a H' e r' (PostS.mono p e)
  | exc c h=>exact fun ρ' H' e r'=>p ρ' H' σ e r' (s.mono e)
  | bad=>exact p
section
variable {X:Cx} {F:Nat→List D→M D} {B:Nat} {W:WX}
theorem s_nil:PSs X [] (tDS X.K W (denS F B .skip)):=PSs.imp L2.pss_nil fun D σ H t=>by
 obtain ⟨ρ,env,h,s,r,p⟩:=t
 exact p ρ H σ (Step.refl ρ H) r s
theorem qMn {st:Stmt} {rest:List Stmt} {a b:CS} (h1:PS X st (tDS X.K W (denS F B a))) (h2:PSs X rest (tDS X.K W (denS F B b))):PSs X (st::rest) (tDS X.K W (denS F B (.seq a b))):=PSs.imp (L2.pss_cons h1 h2) fun D σ H t=>by
 obtain ⟨ρ,env,h,s,r,p⟩:=t
 refine ⟨ρ,env,h,s,r,?_⟩
 rw [denS] at p
 cases e:denS F B a env h with
 | nx e1 g1 =>
  rw [e] at p
  exact fun ρ' H' st' e' r' s'=>⟨ρ',e1,g1,s',r',PostS.mono p e'⟩
 | rt _ _=>rw [e] at p;exact p
 | bk _ _=>rw [e] at p;exact p
 | ct _ _=>rw [e] at p;exact p
 | exc _ _ _=>rw [e] at p;exact p
 | bad=>rw [e] at p;exact p
theorem s_set {i:Nat} {x:Str} {e:Expr} {c:CE} {pos pos':Pos} (hN:X.N.Nodup) (hi:X.N[i]?=some x) (hx:L2.Loc X.env.scope x) (he:PE X e (tD X.K W (den F c)))
    (hs:swapsWith e (some (.Name x pos')) pos.line X.env=pure false) (hf:X.fn x=true∨X.env.scope.names.lookup x=some .local):PS X (.Assign [.Name x pos'] e pos) (tDS X.K W (denS F B (.set (.nm i) c))):=PS.imp (L2.ps_set hN hi hx he hs hf) fun D σ H t=>by
  obtain ⟨ρ,env,h,s,r,p⟩:=t
  rw [denS] at p
  exact ⟨ρ,env,h,s,r,PostS.ofR s p fun ρ' h' d H' e' r' q v hv=>q ρ' H' _ (Step.refl _ _) r' ((s.mono e').set i hv)⟩
theorem s_exp {e:Expr} {c:CE} {pos:Pos} (he:PE X e (tD X.K W (den F c))) (hs:swapsWith e none pos.line X.env=pure false):PS X (.Expr e pos) (tDS X.K W (denS F B (.exp c))):=PS.imp (L2.ps_expr he hs) fun D σ H t=>by
 obtain ⟨ρ,env,h,s,r,p⟩:=t
 rw [denS] at p
 exact ⟨ρ,env,h,s,r,PostS.ofR s p fun ρ' h' d H' e' r' q v hv=>q ρ' H' _ (Step.refl _ _) r' (s.mono e')⟩
theorem s_ret {e:Expr} {c:CE} {pos:Pos} (he:PE X e (tD X.K W (den F c))):PS X (.Return (some e) pos) (tDS X.K W (denS F B (.ret c))):=PS.imp (L2.ps_ret he) fun D σ H t=>by
 obtain ⟨ρ,env,h,s,r,p⟩:=t
 rw [denS] at p
 exact ⟨ρ,env,h,s,r,PostS.ofR s p fun ρ' h' d H' e' r' q v hv=>q ρ' H' v (Step.refl _ _) r' hv⟩
theorem qMk {pos:Pos}:PS X (.Return none pos) (tDS X.K W (denS F B .retN)):=PS.imp L2.ps_retN fun D σ H t=>by
 obtain ⟨ρ,env,h,s,r,p⟩:=t
 rw [denS] at p
 exact p ρ H .non (Step.refl _ _) r rfl
theorem qMl {pos:Pos}:PS X (.Pass pos) (tDS X.K W (denS F B .skip)):=PS.imp L2.ps_pass fun D σ H t=>by
 obtain ⟨ρ,env,h,s,r,p⟩:=t
 exact p ρ H σ (Step.refl ρ H) r s
theorem s_brk {pos:Pos}:PS X (.Break pos) (tDS X.K W (denS F B .brk)):=PS.imp L2.ps_break fun D σ H t=>by
 obtain ⟨ρ,env,h,s,r,p⟩:=t
 exact p ρ H σ (Step.refl ρ H) r s
theorem s_cnt {pos:Pos}:PS X (.Continue pos) (tDS X.K W (denS F B .cnt)):=PS.imp L2.ps_continue fun D σ H t=>by
 obtain ⟨ρ,env,h,s,r,p⟩:=t
 exact p ρ H σ (Step.refl ρ H) r s
theorem s_if {c:Expr} {a b:List Stmt} {pos:Pos} {cc:CT} {ca cb:CS} (hc:PT X c (tDT X.K W (denT F cc))) (ha:PSs X a (tDS X.K W (denS F B ca))) (hb:PSs X b (tDS X.K W (denS F B cb))) :
    PS X (.If c a b pos) (tDS X.K W (denS F B (.ite cc ca cb))):=PS.imp (L2.ps_if hc ha hb) fun D σ H t=>by
  obtain ⟨ρ,env,h,s,r,p⟩:=t
  rw [denS] at p
  refine ⟨ρ,env,h,s,r,PostS.ofR s p fun ρ' h' k H' e' r' q=>?_⟩
  cases k with
  | true=>exact L2.iteT ⟨ρ',env,h',s.mono e',r',q⟩
  | false=>exact L2.iteF ⟨ρ',env,h',s.mono e',r',q⟩
noncomputable def tgOk (K:PySem.W.Frag) (t:TG) (g:L2.TG):Prop:=∀ (ρ:List Addr) (H:Hp) (env env':Env) (σ:L2.St) (d:D) (v:V) (Q:L2.St→Hp→Prop),RepS K ρ H env σ→RepV K ρ H d v→tgSet t d env=some env'→(∀ st,RepS K ρ H env' st→Q st H)→g v σ H Q
theorem tg_nm {K:PySem.W.Frag} (i:Nat):tgOk K (.nm i) (L2.gName i):=by
 intro ρ H env env' σ d v Q s hv e q
 cases e
 exact q _ (s.set i hv)
theorem PostS.turn {K:PySem.W.Frag} {D:Ends} {ρ:List Addr} {H:Hp} {r:SR} {f:Env→AH→SR} {N:L2.St→Hp→Prop} (p:PostS K W D ρ H (r.turn f))
    (hN:∀ ρ' H' env h st,Step ρ H ρ' H'→RepH K ρ' h H'→RepS K ρ' H' env st→PostS K W D ρ' H' (f env h)→N st H'):PostS K WF { D with nx:=N,ct:=N,bk:=D.nx } ρ H r:=by
  cases r with
  | nx e g=>exact fun ρ' H' st e' r' s'=>hN ρ' H' e g st e' r' s' (PostS.mono p e')
  | ct e g=>exact fun ρ' H' st e' r' s'=>hN ρ' H' e g st e' r' s' (PostS.mono p e')
  | bk e g=>exact p
  | rt _ _=>exact p
  | exc _ _ _=>exact False.elim p
  | bad=>exact p
theorem qFm {K:PySem.W.Frag} {E:Ends} {ρ:List Addr} {H:Hp} {env:Env} {h:AH} {σ:L2.St} {t:TG} {g:L2.TG} {cb:CS} {d:D} {v:V} {f:Env→AH→SR} {N:L2.St→Hp→Prop} (ht:tgOk K t g) (s:RepS K ρ H env σ) (r:RepH K ρ h H) (hv:RepV K ρ H d v)
    (p:PostS K W E ρ H ((qAv t (denS F B cb) d env h).turn f)) (hN:∀ ρ' H' env h st,Step ρ H ρ' H'→RepH K ρ' h H'→RepS K ρ' H' env st→PostS K W E ρ' H' (f env h)→N st H') :
    g v σ H fun σ2 H2=>tDS K WF (denS F B cb) { E with nx:=N,ct:=N,bk:=E.nx } σ2 H2:=by
  unfold qAv at p
  cases e:tgSet t d env with
  | none=>rw [e] at p;exact False.elim p
  | some env' =>
    rw [e] at p
    exact ht ρ H env env' σ d v _ s hv e fun st s'=>⟨ρ,env',h,s',r,PostS.turn p hN⟩
theorem qJF {K:PySem.W.Frag} {E:Ends} {ρ:List Addr} {H:Hp} {env:Env} {h:AH} {σ:L2.St} {t:TG} {g:L2.TG} {cb:CS} {J:L2.It} {xs:List D} (ht:tgOk K t g) (s:RepS K ρ H env σ) (r:RepH K ρ h H)
    (go:∀ (i:Nat) ρ' H',Step ρ H ρ' H'→i<xs.length→J.go i H') (yl:∀ (i:Nat) ρ' H' x H'',Step ρ H ρ' H'→i<xs.length→J.yld i H' x H''→H''=H'∧∃ d,xs[i]?=some d∧RepV K ρ' H' d x) (sp:∀ (i:Nat) ρ' H',Step ρ H ρ' H'→i=xs.length→J.stop i H')
    (p:PostS K W E ρ H (qCK (qAv t (denS F B cb)) xs env h)) :
    ∃ Wi:Nat→Nat→L2.St→Hp→Prop,(∃ m,Wi 0 m σ H)∧∀ i m σ H,Wi i m σ H →
      (J.stop i H∧E.nx σ H)∨(J.go i H∧∃ N:L2.St→Hp→Prop,(∀ σ' H',N σ' H'→∃ m',m'<m∧Wi (i+1) m' σ' H')∧∀ x H',J.yld i H x H'→g x σ H' fun σ2 H2=>tDS K WF (denS F B cb) { E with nx:=N,ct:=N,bk:=E.nx } σ2 H2):=by
  refine ⟨fun i m σ' H'=>m=xs.length-i∧i≤xs.length∧∃ ρ' env' h',Step ρ H ρ' H'∧RepS K ρ' H' env' σ'∧RepH K ρ' h' H'∧PostS K W E ρ' H' (qCK (qAv t (denS F B cb)) (xs.drop i) env' h'),⟨_,rfl,Nat.zero_le _,ρ,env,h,Step.refl _ _,s,r,p⟩,?_⟩
  rintro i m σ' H' ⟨rfl,hi,ρ',env',h',e',s',r',p'⟩
  by_cases hlt:i<xs.length
  · refine .inr ⟨go i ρ' H' e' hlt,fun σ2 H2=>∃ ρ2 env2 h2,Step ρ H ρ2 H2∧RepS K ρ2 H2 env2 σ2∧RepH K ρ2 h2 H2∧PostS K W E ρ2 H2 (qCK (qAv t (denS F B cb)) (xs.drop (i+1)) env2 h2),fun σ2 H2 q=>⟨xs.length-(i+1),by omega,rfl,hlt,q⟩,fun x H'' y=>?_⟩
    obtain ⟨rfl,d,hd,hv⟩:=yl i ρ' H' x H'' e' hlt y
    rw [List.drop_eq_getElem_cons hlt] at p'
    have ed:xs[i]=d:=by
      rw [List.getElem?_eq_getElem hlt] at hd
      exact Option.some.inj hd
    rw [ed,qCK] at p'
    exact qFm ht s' r' hv p' fun ρ2 H2 env2 h2 st e2 r2 s2 p2=>⟨ρ2,env2,h2,e'.trans e2,s2,r2,p2⟩
  · have e:i=xs.length:=by omega
    subst e
    rw [List.drop_length] at p'
    exact .inl ⟨sp _ ρ' H' e' rfl,p' ρ' H' σ' (Step.refl _ _) r' s'⟩
theorem qHV {K:PySem.W.Frag} {E:Ends} {ρ:List Addr} {H:Hp} {env:Env} {h:AH} {σ:L2.St} {t:TG} {g:L2.TG} {cb:CS} {k:Nat} {a:Addr} {n:Nat} (ht:tgOk K t g) (s:RepS K ρ H env σ) (r:RepH K ρ h H) (ha:ρ[k]?=some a)
    (p:PostS K W E ρ H (qCD (qAv t (denS F B cb)) k n 0 env h)) :
    ∃ Wi:Nat→Nat→L2.St→Hp→Prop,(∃ m,Wi 0 m σ H)∧∀ i m σ H,Wi i m σ H →
      ((L2.Itl K a).stop i H∧E.nx σ H)∨((L2.Itl K a).go i H∧∃ N:L2.St→Hp→Prop,(∀ σ' H',N σ' H'→∃ m',m'<m∧Wi (i+1) m' σ' H')∧∀ x H',(L2.Itl K a).yld i H x H'→g x σ H' fun σ2 H2=>tDS K WF (denS F B cb) { E with nx:=N,ct:=N,bk:=E.nx } σ2 H2):=by
  refine ⟨fun i m σ' H'=>∃ ρ' env' h',Step ρ H ρ' H'∧RepS K ρ' H' env' σ'∧RepH K ρ' h' H'∧PostS K W E ρ' H' (qCD (qAv t (denS F B cb)) k m i env' h'),⟨n,ρ,env,h,Step.refl _ _,s,r,p⟩,?_⟩
  rintro i m σ' H' ⟨ρ',env',h',e',s',r',p'⟩
  cases m with
  | zero=>exact False.elim p'
  | succ m =>
    rw [qCD] at p'
    cases q:getL h' k with
    | none=>rw [q] at p';exact False.elim p'
    | some xs =>
      rw [q] at p'
      obtain ⟨b,vs,h1,h2,h3⟩:=r'.list q
      rw [qBp e'.pre ha] at h1
      cases h1
      cases qx:xs[i]? with
      | none =>
        simp only [qx] at p'
        refine .inl ⟨⟨vs,h2,?_⟩,p' ρ' H' σ' (Step.refl _ _) r' s'⟩
        rw [h3.length]
        exact List.getElem?_eq_none_iff.mp qx
      | some d =>
        simp only [qx] at p'
        obtain ⟨w,hw,hv⟩:=h3.get qx
        refine .inr ⟨⟨vs,w,h2,hw⟩,fun σ2 H2=>∃ ρ2 env2 h2,Step ρ H ρ2 H2∧RepS K ρ2 H2 env2 σ2∧RepH K ρ2 h2 H2∧PostS K W E ρ2 H2 (qCD (qAv t (denS F B cb)) k m (i+1) env2 h2),fun σ2 H2 z=>⟨m,by omega,z⟩,fun x H'' y=>?_⟩
        obtain ⟨rfl,y⟩:=y
        have ew:=y vs h2
        rw [hw] at ew
        cases ew
        exact qFm ht s' r' hv p' fun ρ2 H2 env2 h2 st e2 r2 s2 p2=>⟨ρ2,env2,h2,e'.trans e2,s2,r2,p2⟩
end
end Fy
set_option Elab.async false
set_option linter.all false
set_option maxRecDepth 100000
set_option maxHeartbeats 4000000
namespace Fy
open PySem PySem.Spec PyProof.Rows
open L2 (V Hp HO VK TE TT TA TS TI Cx Inv RelV Vals SqL SqT Rd upd qAA qAB PE PT PA PS PSs EP OpR CallR IxR MtR SlR PO TO)
section
variable {X:Cx} {F:Nat→List D→M D} {W:WX}
theorem at_of {K:PySem.W.Frag} {ρ:List Addr} {H:Hp} {xs:List D} {vs:List V} {i:Int} {d:D} (l:RepL K ρ H xs vs) (e:(ixN xs.length i).bind (xs[·]?)=some d):∃ w,L2.atI vs i=some w∧RepV K ρ H d w:=by
 cases q:ixN xs.length i with
 | none=>rw [q] at e;cases e
 | some j =>
  rw [q] at e
  have e:xs[j]?=some d:=e
  obtain ⟨w,h1,h2⟩:=l.get e
  refine ⟨w,?_,h2⟩
  show (L2.ixN vs.length i).bind (fun j=>vs[j]?)=some w
  rw [l.length]
  have q':L2.ixN xs.length i=some j:=q
  rw [q']
  exact h1
theorem ix_D:IxR X (rB X.K .ix):=by
 rintro value slice pins s σ H x y v u Q I rx ry ⟨w,ρ,h,d,e,r,hd,he,p⟩ hs
 cases d with
 | tup xs =>
  cases e with
  | int i =>
   cases he
   obtain ⟨a,vs,rfl,h1,h2⟩:=hd
   have p:PostV X.K w Q ρ H (match (ixN xs.length i).bind (xs[·]?) with | some d=>.ok d h | none=>.bad):=p
   cases q:(ixN xs.length i).bind (xs[·]?) with
   | none=>rw [q] at p;exact False.elim p
   | some d =>
    rw [q] at p
    obtain ⟨w,h3,h4⟩:=at_of h2 q
    exact L2.ix_tup value slice pins s σ H _ _ v u Q I rx ry ⟨a,vs,i,w,rfl,rfl,h1,h3,PostV.now p r h4⟩ hs
  | _=>exact (show False from p).elim
 | str x =>
  cases e with
  | int i =>
   cases he
   cases hd
   have p:PostV X.K w Q ρ H (if x.length≤16777216 then (match (ixN x.length i).bind (x[·]?) with | some c=>.ok (.str [c]) h | none=>.bad) else .bad):=p
   obtain ⟨hz,p⟩:=PostV.ite p
   cases q:(ixN x.length i).bind (x[·]?) with
   | none=>rw [q] at p;exact False.elim p
   | some c =>
    rw [q] at p
    exact L2.ix_str value slice pins s σ H _ _ v u Q I rx ry ⟨⟨x.toArray⟩,i,c,rfl,rfl,by rw [qAb,szEq];exact hz,q,PostV.now p r rfl⟩ hs
  | _=>exact (show False from p).elim
 | ref k =>
  cases e with
  | int i =>
   have p:PostV X.K w Q ρ H (match (getL h k).bind fun xs=>(ixN xs.length i).bind (xs[·]?) with | some d=>.ok d h | none=>ixK k (.int i) h):=p
   cases q:((getL h k).bind fun xs=>(ixN xs.length i).bind (xs[·]?)) with
   | none=>rw [q] at p;exact ix_K (ky:=.int i) I r hd he rx ry p hs
   | some d =>
    rw [q] at p
    cases he
    cases q0:getL h k with
    | none=>rw [q0] at q;cases q
    | some xs =>
     rw [q0] at q
     obtain ⟨a,vs,rfl,h1,h2⟩:=r.seen q0 hd
     obtain ⟨w,h3,h4⟩:=at_of h2 q
     exact L2.ix_list value slice pins s σ H _ _ v u Q I rx ry ⟨a,vs,i,w,rfl,rfl,h1,h3,PostV.now p r h4⟩ hs
  | str x=>exact ix_K (ky:=.str x) I r hd he rx ry p hs
  | _=>exact (show False from p).elim
 | _=>exact (show False from p).elim
theorem d_ix {a b:Expr} {ca cb:CE} {pos:Pos} (ha:PE X a (tD X.K W (den F ca))) (hb:PE X b (tD X.K W (den F cb))) (hs:L2.PlainIx b):PE X (.Subscript a b pos) (tD X.K W (den F (.bi .ix ca cb))):=PE.imp (L2.pe_ix ix_D ha hb hs) fun _ _ _ t=>two t
theorem qKF:L2.UnR X (unaryOp .USub) (rU X.K .neg):=by
 rintro pins s σ H x v Q I rx ⟨w,ρ,h,d,r,hd,p⟩
 cases d with
 | int i=>cases hd;exact L2.un_neg pins s σ H _ v Q I rx ⟨i,rfl,PostV.now p r rfl⟩
 | _=>exact (show False from p).elim
theorem d_neg {a:Expr} {ca:CE} {pos:Pos} (ha:PE X a (tD X.K W (den F ca))):PE X (.UnaryOp .USub a pos) (tD X.K W (den F (.un .neg ca))):=PE.imp (L2.pe_un qKF ha) fun _ _ _ t=>one t
theorem qIG:CallR X (.builtin "len") (rC X.K .len):=by
 rintro pins s σ H xs us Q I rv ⟨x,rfl,w,ρ,h,d,r,hd,p⟩
 cases d with
 | str x =>
  cases hd
  obtain ⟨hz,p⟩:=PostV.ite (c:=x.length≤16777216) p
  exact L2.call_len pins s σ H _ us Q I rv ⟨_,x.length,rfl,⟨by rw [qAb,szEq];exact hz,by rw [qAb]⟩,PostV.now p r rfl⟩
 | tup ys =>
  obtain ⟨a,vs,rfl,h1,h2⟩:=hd
  exact L2.call_len pins s σ H _ us Q I rv ⟨_,ys.length,rfl,.inr ⟨vs,h1,h2.length.symm⟩,PostV.now (h:=h) p r rfl⟩
 | ref i =>
  have p:PostV X.K w Q ρ H (match getL h i with | some xs=>.ok (.int xs.length) h | none=>.bad):=p
  cases q:getL h i with
  | none=>rw [q] at p;exact False.elim p
  | some ys =>
   rw [q] at p
   obtain ⟨a,vs,rfl,h1,h2⟩:=r.seen q hd
   exact L2.call_len pins s σ H _ us Q I rv ⟨_,ys.length,rfl,.inl ⟨vs,h1,h2.length.symm⟩,PostV.now p r rfl⟩
 | _=>exact (show False from p).elim
theorem qIF:CallR X (.builtin "ord") (rC X.K .ord):=by
 rintro pins s σ H xs us Q I rv ⟨x,rfl,w,ρ,h,d,r,hd,p⟩
 cases d with
 | str x =>
  cases hd
  match x,p with
  | [c],p=>exact L2.call_ord pins s σ H _ us Q I rv ⟨_,rfl,rfl,PostV.now (h:=h) p r rfl⟩
  | [],p=>exact (show False from p).elim
  | _::_::_,p=>exact (show False from p).elim
 | _=>exact (show False from p).elim
theorem qII:CallR X (.type "int") (rC X.K .int):=by
 rintro pins s σ H xs us Q I rv ⟨x,rfl,w,ρ,h,d,r,hd,p⟩
 cases d with
 | int i=>cases hd;exact L2.call_int1 pins s σ H _ us Q I rv (.inl ⟨i,rfl,PostV.now (h:=h) p r rfl⟩)
 | bl b=>cases hd;exact L2.call_int1 pins s σ H _ us Q I rv (.inr ⟨b,rfl,PostV.now (h:=h) p r rfl⟩)
 | str x =>
  cases hd
  obtain ⟨hc,p⟩:=PostV.ite (c:=x≠[]∧x.length≤640∧isDig x=true) p
  obtain ⟨h1,h2,h3⟩:=hc
  obtain ⟨u,rfl,t,rfl⟩:=L2.vals1 rv
  have hd:PySem.NumText.AllDigits x:=fun c hc=>by
   have:=List.all_eq_true.mp h3 c hc
   exact of_decide_eq_true this
  exact PySem.W.KIN.call_text (PySem.intText_digits (x:=⟨x.toArray⟩) hd h1 (by rw [qAb];omega)) (by rw [qAb];exact h2) ⟨.int _,H,I.tok _,⟨_,rfl⟩,PostV.now p r rfl⟩
 | _=>exact (show False from p).elim
theorem qGV (hc:X.calm=true):CallR X (.builtin "min") (rC2 X.K .min2):=by
 rintro pins s σ H xs us Q I rv ⟨x,y,rfl,w,ρ,h,d,e,r,hd,he,p⟩
 cases d with
 | int i =>
  cases e with
  | int j=>cases hd;cases he;exact L2.call_min2 hc pins s σ H _ us Q I rv ⟨i,j,rfl,PostV.now (h:=h) p r rfl⟩
  | _=>exact (show False from p).elim
 | _=>exact (show False from p).elim
theorem qGW (hc:X.calm=true):CallR X (.builtin "max") (rC2 X.K .max2):=by
 rintro pins s σ H xs us Q I rv ⟨x,y,rfl,w,ρ,h,d,e,r,hd,he,p⟩
 cases d with
 | int i =>
  cases e with
  | int j=>cases hd;cases he;exact L2.call_max2 hc pins s σ H _ us Q I rv ⟨i,j,rfl,PostV.now (h:=h) p r rfl⟩
  | _=>exact (show False from p).elim
 | _=>exact (show False from p).elim
end
end Fy
set_option Elab.async false
set_option linter.all false
set_option maxRecDepth 100000
set_option maxHeartbeats 4000000
namespace Fy
open PySem PySem.Spec PyProof.Rows
open L2 (V Hp HO VK TE TT TA TS TI Cx Inv RelV Vals SqL SqT Rd upd qAA qAB PE PT PA PS PSs EP OpR CallR IxR MtR SlR PO TO PI PG PIE Turn FpOk Ends)
section
variable {X:Cx} {F:Nat→List D→M D} {B:Nat} {W:WX}
theorem PS.nox {st:Stmt} {t:TS} (h:PS X.nox st t):PS X st t:=fun pins s σ H D I hw =>
 wpAny_mono (h pins s σ H D (I.wish _) hw) (fun _ _ q=>q.unwish) fun _ _ z=>False.elim z
theorem qKb {c:Expr} {body:List Stmt} {pos:Pos} {cc:CT} {cb:CS} (hc:PT X.nox c (tDT X.K WF (denT F cc))) (hb:PSs X.nox body (tDS X.K WF (denS F B cb))) :
    PS X (.While c body [] pos) (tDS X.K W (denS F B (.whil cc cb))):=PS.imp (PS.nox (L2.ps_while PassesOwn.never hc hb)) fun E σ H q=>by
  obtain ⟨ρ,env,h,s,r,p⟩:=q
  rw [denS] at p
  refine ⟨fun m σ' H'=>∃ ρ' env' h',RepS X.K ρ' H' env' σ'∧RepH X.K ρ' h' H'∧PostS X.K W E ρ' H' (qCY (denT F cc) (denS F B cb) m env' h'),⟨B,ρ,env,h,s,r,p⟩,?_⟩
  rintro m σ' H' ⟨ρ',env',h',s',r',p'⟩
  cases m with
  | zero=>exact False.elim p'
  | succ m =>
    rw [qCY] at p'
    refine ⟨ρ',env',h',s',r',?_⟩
    cases q:denT F cc env' h' with
    | ok k g =>
      rw [q] at p'
      intro ρ1 H1 e1 r1
      have q1:=PostS.mono p' e1
      cases k with
      | true =>
        refine L2.iteT ⟨fun σ2 H2=>∃ ρ2 env2 h2,RepS X.K ρ2 H2 env2 σ2∧RepH X.K ρ2 h2 H2∧PostS X.K W E ρ2 H2 (qCY (denT F cc) (denS F B cb) m env2 h2),fun σ2 H2 z=>⟨m,Nat.lt_succ_self _,z⟩,?_⟩
        exact ⟨ρ1,env',g,s'.mono e1,r1,PostS.turn q1 fun ρ2 H2 env2 h2 st e2 r2 s2 p2=>⟨ρ2,env2,h2,s2,r2,p2⟩⟩
      | false=>exact L2.iteF (q1 ρ1 H1 σ' (Step.refl _ _) r1 (s'.mono e1))
    | exc _ _=>rw [q] at p';exact False.elim p'
    | bad=>rw [q] at p';exact False.elim p'
theorem qNl {a:Expr} {ca:CT} {pos:Pos} (ha:PT X a (tDT X.K W (denT F ca))):PT X (.UnaryOp .Not a pos) (tDT X.K W (denT F (.not ca))):=PT.imp (L2.pt_not ha) fun σ H Q t=>by
 obtain ⟨ρ,env,h,s,r,p⟩:=t
 rw [denT] at p
 exact ⟨ρ,env,h,s,r,Post.bind p fun ρ1 h1 k H1 e1 r1 q=>Post.ret q r1⟩
theorem qNk {a b:Expr} {rest:List Expr} {ca cb:CT} {pos:Pos} (ha:PT X a (tDT X.K W (denT F ca))) (hb:L2.PW X (.BoolOp .And (b::rest) pos) (tDT X.K W (denT F cb))):L2.PW X (.BoolOp .And (a::b::rest) pos) (tDT X.K W (denT F (.and ca cb))):=fun wh pins s σ H Q I t =>
 L2.pw_and ha hb wh pins s σ H Q I (by
  obtain ⟨ρ,env,h,s,r,p⟩:=t
  rw [denT] at p
  refine ⟨ρ,env,h,s,r,Post.bind p fun ρ1 h1 k H1 e1 r1 q=>?_⟩
  cases k with
  | true=>exact L2.iteT ⟨ρ1,env,h1,s.mono e1,r1,q⟩
  | false=>exact L2.iteF (Post.ret q r1))
theorem dw_or {a b:Expr} {rest:List Expr} {ca cb:CT} {pos:Pos} (ha:PT X a (tDT X.K W (denT F ca))) (hb:L2.PW X (.BoolOp .Or (b::rest) pos) (tDT X.K W (denT F cb))):L2.PW X (.BoolOp .Or (a::b::rest) pos) (tDT X.K W (denT F (.or ca cb))):=fun wh pins s σ H Q I t =>
 L2.pw_or ha hb wh pins s σ H Q I (by
  obtain ⟨ρ,env,h,s,r,p⟩:=t
  rw [denT] at p
  refine ⟨ρ,env,h,s,r,Post.bind p fun ρ1 h1 k H1 e1 r1 q=>?_⟩
  cases k with
  | true=>exact L2.iteT (Post.ret q r1)
  | false=>exact L2.iteF ⟨ρ1,env,h1,s.mono e1,r1,q⟩)
end
end Fy
set_option Elab.async false
set_option linter.all false
set_option maxRecDepth 100000
set_option maxHeartbeats 4000000
namespace Fy
open PySem PySem.Spec PyProof.Rows PySem.SeqAt
open L2 (V Hp HO VK TE TT TA TS TI Cx Inv RelV Vals SqL SqT Rd upd qAA qAB PE PT PA PS PSs EP OpR CallR IxR MtR SlR PO TO PI PG PIE Turn FpOk Ends)
noncomputable def pairB (f:D→D→Option Bool) (xs ys:List D) (j:Nat):Bool:=match xs[j]?,ys[j]? with
 | some x,some y=>(f x y).getD false
 | _,_=>false
theorem qDR {f:D→D→Option Bool}:∀ {xs ys:List D} {b:Bool},eqW f xs ys=some b →
    (∀ j x y,xs[j]?=some x→ys[j]?=some y→f x y=some (pairB f xs ys j))∧b=((List.range (min xs.length ys.length)).all (pairB f xs ys)&&(xs.length == ys.length))
  | [],[],b,e=>by
    cases e
    exact ⟨fun j x y h=>by simp at h,rfl⟩
  | [],y::ys,b,e=>by
    cases e
    exact ⟨fun j x y h=>by simp at h,by simp⟩
  | x::xs,[],b,e=>by
    cases e
    exact ⟨fun j x y _ h=>by simp at h,by simp⟩
  | x::xs,y::ys,b,e=>by
    unfold eqW at e
    cases e1:f x y with
    | none=>rw [e1] at e;cases e
    | some c =>
      cases e2:eqW f xs ys with
      | none=>rw [e1,e2] at e;cases e
      | some d =>
        rw [e1,e2] at e
        cases e
        obtain ⟨h1,h2⟩:=qDR e2
        refine ⟨fun j x' y' hx hy=>?_,?_⟩
        · cases j with
          | zero =>
            cases hx
            cases hy
            show f x y=some ((f x y).getD false)
            rw [e1]
            rfl
          | succ j=>exact h1 j x' y' (by simpa using hx) (by simpa using hy)
        · rw [h2]
          have e3:pairB f (x::xs) (y::ys) 0=c:=by
            show (f x y).getD false=c
            rw [e1]
            rfl
          have e4:∀ j,pairB f (x::xs) (y::ys) (j+1)=pairB f xs ys j:=fun j=>by
            unfold pairB
            simp
          have e5:min (x::xs).length (y::ys).length=min xs.length ys.length+1:=by simp
          rw [e5,List.range_succ_eq_map,List.all_cons,e3,List.all_map]
          have e6:(pairB f (x::xs) (y::ys) ∘ Nat.succ)=pairB f xs ys:=funext e4
          rw [e6]
          simp [Bool.and_assoc]
section
variable {X:Cx} {pins:List (Addr × Obj)} {σ:L2.St} {H:Hp} {s:Shared} {ρ:List Addr} {h:AH}
theorem qHg {y:D} (h:RepV X.K ρ H y .non):y=.non:=by
 cases y with
 | non=>rfl
 | tup xs=>obtain ⟨_,_,z,_⟩:=h;cases z
 | ref i=>obtain ⟨_,_,z⟩:=h;cases z
 | _=>cases h
theorem qJ2 {y:D} {c:Bool} (h:RepV X.K ρ H y (.bl c)):y=.bl c:=by
 cases y with
 | bl d=>cases h;rfl
 | tup xs=>obtain ⟨_,_,z,_⟩:=h;cases z
 | ref i=>obtain ⟨_,_,z⟩:=h;cases z
 | _=>cases h
theorem qHh {y:D} {c:Int} (h:RepV X.K ρ H y (.int c)):y=.int c:=by
 cases y with
 | int d=>cases h;rfl
 | tup xs=>obtain ⟨_,_,z,_⟩:=h;cases z
 | ref i=>obtain ⟨_,_,z⟩:=h;cases z
 | _=>cases h
theorem qHe {y:D} {c:Tx} (h:RepV X.K ρ H y (.str ⟨c.toArray⟩)):y=.str c:=by
 cases y with
 | str d =>
  have z:V.str ⟨c.toArray⟩=V.str ⟨d.toArray⟩:=h
  have z:c.toArray=d.toArray:=by injection z with z;injection z
  have z:c=d:=by simpa using congrArg Array.toList z
  rw [z]
 | tup xs=>obtain ⟨_,_,z,_⟩:=h;cases z
 | ref i=>obtain ⟨_,_,z⟩:=h;cases z
 | _=>cases h
theorem qDo {y:D} {a:Addr} (h:RepV X.K ρ H y (.ref a)):(∃ ys vs,y=.tup ys∧SqT X.K H a vs∧RepL X.K ρ H ys vs)∨∃ j,y=.ref j∧ρ[j]?=some a:=by
 cases y with
 | tup xs=>obtain ⟨_,vs,z,h1,h2⟩:=h;cases z;exact .inl ⟨xs,vs,rfl,h1,h2⟩
 | ref i=>obtain ⟨_,h1,z⟩:=h;cases z;exact .inr ⟨i,rfl,h1⟩
 | _=>cases h
theorem qIo {x:D} {v:V} {vv:Value} (h:RepV X.K ρ H x v) (r:RelV v vv):vv=.none∨(∃ c,vv=.bool c)∨(∃ c t,vv=.int c t)∨(∃ c t,vv=.str c t)∨∃ c,vv=.ref c:=by
 cases x with
 | non=>cases h;exact .inl r
 | bl c=>cases h;exact .inr (.inl ⟨c,r⟩)
 | int c=>cases h;obtain ⟨t,r⟩:=r;exact .inr (.inr (.inl ⟨c,t,r⟩))
 | str c=>cases h;obtain ⟨t,r⟩:=r;exact .inr (.inr (.inr (.inl ⟨_,t,r⟩)))
 | tup xs=>obtain ⟨a,_,rfl,_⟩:=h;exact .inr (.inr (.inr (.inr ⟨a,r⟩)))
 | ref i=>obtain ⟨a,_,rfl⟩:=h;exact .inr (.inr (.inr (.inr ⟨a,r⟩)))
theorem qA0 {a:Addr} {vs ws:List V} (I:Inv X pins σ H s) (ht:SqT X.K H a vs) (hl:SqL X.K H a ws):False:=by
 obtain ⟨its,_,⟨o,h1,h2,_⟩,_⟩:=I.tuple ht
 obtain ⟨its2,_,⟨o2,n,k1,k2,_⟩,_⟩:=I.list hl
 rw [h1] at k1
 cases k1
 rw [h2] at k2
 exact absurd k2 (by decide)
theorem qGv (I:Inv X pins σ H s) (r:RepH X.K ρ h H):∀ (n:Nat) (x y:D) (b:Bool) (v:V),eqD h n x y=some b→RepV X.K ρ H x v→RepV X.K ρ H y v→b=true:=by
 intro n
 have rows:∀ m,(∀ (x y:D) (b:Bool) (v:V),eqD h m x y=some b→RepV X.K ρ H x v→RepV X.K ρ H y v→b=true)→∀ (xs ys:List D) (b:Bool) (vs:List V),eqW (eqD h m) xs ys=some b→RepL X.K ρ H xs vs→RepL X.K ρ H ys vs→b=true:=by
  intro m ih xs
  induction xs with
  | nil =>
   intro ys b vs e hx hy
   cases hx
   cases ys with
   | nil=>cases e;rfl
   | cons y ys=>obtain ⟨_,_,z,_⟩:=hy;cases z
  | cons x xs ihx =>
   intro ys b vs e hx hy
   obtain ⟨v,rest,rfl,h1,h2⟩:=hx
   cases ys with
   | nil=>cases hy
   | cons y ys =>
    obtain ⟨v',rest',z,k1,k2⟩:=hy
    cases z
    unfold eqW at e
    cases e1:eqD h m x y with
    | none=>rw [e1] at e;cases e
    | some c =>
     cases e2:eqW (eqD h m) xs ys with
     | none=>rw [e1,e2] at e;cases e
     | some d =>
      rw [e1,e2] at e
      cases e
      rw [ih x y c v e1 h1 k1,ihx ys d rest e2 h2 k2]
      rfl
 induction n with
 | zero =>
  intro x y b v e hx hy
  cases x with
  | non=>cases hx;cases qHg hy;cases e;rfl
  | bl c=>cases hx;cases qJ2 hy;cases e;simp
  | int c=>cases hx;cases qHh hy;cases e;simp
  | str c=>cases hx;cases qHe hy;cases e;simp
  | tup xs =>
   obtain ⟨a,vs,rfl,k1,k2⟩:=hx
   rcases qDo hy with ⟨ys,ws,rfl,k3,k4⟩ | ⟨j,rfl,k3⟩
   ·cases e
   ·have e:(getL h j).map (fun _=>false)=some b:=e
    cases q:getL h j with
    | none=>rw [q] at e;cases e
    | some zs =>
     obtain ⟨a',ws,k5,k6,_⟩:=r.list q
     rw [k3] at k5
     cases k5
     exact (qA0 I k1 k6).elim
  | ref i =>
   obtain ⟨a,k1,rfl⟩:=hx
   rcases qDo hy with ⟨ys,ws,rfl,k3,k4⟩ | ⟨j,rfl,k3⟩
   ·have e:(getL h i).map (fun _=>false)=some b:=e
    cases q:getL h i with
    | none=>rw [q] at e;cases e
    | some zs =>
     obtain ⟨a',ws',k5,k6,_⟩:=r.list q
     rw [k1] at k5
     cases k5
     exact (qA0 I k3 k6).elim
   ·cases e
 | succ n ih =>
  intro x y b v e hx hy
  cases x with
  | non=>cases hx;cases qHg hy;cases e;rfl
  | bl c=>cases hx;cases qJ2 hy;cases e;simp
  | int c=>cases hx;cases qHh hy;cases e;simp
  | str c=>cases hx;cases qHe hy;cases e;simp
  | tup xs =>
   obtain ⟨a,vs,rfl,k1,k2⟩:=hx
   rcases qDo hy with ⟨ys,ws,rfl,k3,k4⟩ | ⟨j,rfl,k3⟩
   ·have:=I.tuple_inj k1 k3
    subst this
    exact rows n ih xs ys b vs e k2 k4
   ·have e:(getL h j).map (fun _=>false)=some b:=e
    cases q:getL h j with
    | none=>rw [q] at e;cases e
    | some zs =>
     obtain ⟨a',ws,k5,k6,_⟩:=r.list q
     rw [k3] at k5
     cases k5
     exact (qA0 I k1 k6).elim
  | ref i =>
   obtain ⟨a,k1,rfl⟩:=hx
   rcases qDo hy with ⟨ys,ws,rfl,k3,k4⟩ | ⟨j,rfl,k3⟩
   ·have e:(getL h i).map (fun _=>false)=some b:=e
    cases q:getL h i with
    | none=>rw [q] at e;cases e
    | some zs =>
     obtain ⟨a',ws',k5,k6,_⟩:=r.list q
     rw [k1] at k5
     cases k5
     exact (qA0 I k3 k6).elim
   ·have e:(match getL h i,getL h j with | some xs,some ys=>eqW (eqD h n) xs ys | _,_=>none)=some b:=e
    cases q:getL h i with
    | none=>rw [q] at e;cases e
    | some xs =>
     cases q2:getL h j with
     | none=>rw [q,q2] at e;cases e
     | some ys =>
      rw [q,q2] at e
      obtain ⟨a1,vs,m1,m2,m3⟩:=r.list q
      obtain ⟨a2,ws,n1,n2,n3⟩:=r.list q2
      rw [k1] at m1
      rw [k3] at n1
      cases m1
      cases n1
      have:=I.list_inj m2 n2
      subst this
      exact rows n ih xs ys b vs e m3 n3
theorem eqOf (I:Inv X pins σ H s) (r:RepH X.K ρ h H):∀ (m:Nat),(∀ (x y:D) (b:Bool) (v u:V) (vv uu:Value) (A:Around),eqD h m x y=some b→RepV X.K ρ H x v→RepV X.K ρ H y u→RelV v vv→RelV u uu→A.units+m<cLine→RcAt A s vv uu b) →
    ∀ (x y:D) (b:Bool) (v u:V) (vv uu:Value) (A:Around),eqD h m x y=some b→RepV X.K ρ H x v→RepV X.K ρ H y u→RelV v vv→RelV u uu→A.units+m<cLine→EqAt A s vv uu b:=by
  intro m ih x y b v u vv uu A e hx hy rv ru hu prog w E Q hq
  unfold eqBool
  refine wpAny_holding ?_
  refine wpAny_ite_split (fun hab=>?_) (fun _=>?_)
  · have hab:=eq_of_beq hab
    subst hab
    have:=rv.inj ru
    subst this
    have:=qGv I r m x y b v e hx hy
    subst this
    exact wpAny_bind (wpAny_rule (wpAny_pure hq))
  · have go:=ih x y b v u vv uu A e hx hy rv ru hu prog w E (fun c s'=>wpAny (model prog w) A (truthOfDropped c) Q E s') (wpAny_truthy_bool hq)
    rcases qIo hx rv with rfl | ⟨c,rfl⟩ | ⟨c,t,rfl⟩ | ⟨c,t,rfl⟩ | ⟨c,rfl⟩ <;> exact wpAny_bind go
theorem seqs (I:Inv X pins σ H s) (r:RepH X.K ρ h H):∀ (m:Nat) (A:Around),(∀ (x y:D) (b:Bool) (v u:V) (vv uu:Value) (A:Around),eqD h m x y=some b→RepV X.K ρ H x v→RepV X.K ρ H y u→RelV v vv→RelV u uu→A.units+m<cLine→RcAt A s vv uu b)→A.units+(m+1)<cLine →
    ∀ (xs ys:List D) (b:Bool) (vs us:List V) (its its2:List Value),eqW (eqD h m) xs ys=some b→RepL X.K ρ H xs vs→RepL X.K ρ H ys us→Vals vs its→Vals us its2 →
      (∀ j (h1:j<its.toArray.size) (h2:j<its2.toArray.size),EqAt A.in1 s its.toArray[j] its2.toArray[j] (pairB (eqD h m) xs ys j)):=by
  intro m A ih hu xs ys b vs us its its2 e hx hy rv ru j h1 h2
  obtain ⟨k1,_⟩:=qDR e
  have l1:=rv.length
  have l2:=ru.length
  have l3:=hx.length
  have l4:=hy.length
  rw [List.size_toArray] at h1 h2
  have q1:xs[j]?=some (xs[j]'(by omega)):=by simp
  have q2:ys[j]?=some (ys[j]'(by omega)):=by simp
  obtain ⟨w1,p1,p2⟩:=hx.get q1
  obtain ⟨w2,p3,p4⟩:=hy.get q2
  obtain ⟨u1,p5,p6⟩:=rv.get p1
  obtain ⟨u2,p7,p8⟩:=ru.get p3
  have f1:its.toArray[j]'(by simpa using h1)=u1:=by
    have:its[j]?=some (its[j]'h1):=by simp
    rw [this] at p5
    simpa using p5
  have f2:its2.toArray[j]'(by simpa using h2)=u2:=by
    have:its2[j]?=some (its2[j]'h2):=by simp
    rw [this] at p7
    simpa using p7
  rw [f1,f2]
  exact eqOf I r m ih _ _ _ w1 w2 u1 u2 A.in1 (k1 j _ _ q1 q2) p2 p4 p6 p8 (by show A.units+1+m<cLine;omega)
theorem eqAtD (I:Inv X pins σ H s) (r:RepH X.K ρ h H):∀ (n:Nat) (x y:D) (b:Bool) (v u:V) (vv uu:Value) (A:Around),eqD h n x y=some b→RepV X.K ρ H x v→RepV X.K ρ H y u→RelV v vv→RelV u uu→A.units+n<cLine→RcAt A s vv uu b:=by
 intro n
 have tups:∀ {l b:Addr} {vs us:List V},SqT X.K H l vs→SqT X.K H b us→∃ its its2:List Value,Vals vs its∧Vals us its2∧s.heap.IsTuple l its.toArray∧s.heap.IsTuple b its2.toArray:=fun h1 h2=>by
  obtain ⟨its,k1,k2,_⟩:=I.tuple h1
  obtain ⟨its2,k3,k4,_⟩:=I.tuple h2
  exact ⟨its,its2,k1,k3,k2,k4⟩
 have isT:∀ {l:Addr} {vs:List V},SqT X.K H l vs→∃ its:Array Value,s.heap.IsTuple l its:=fun h1=>by
  obtain ⟨its,k1,k2,_⟩:=I.tuple h1
  exact ⟨_,k2⟩
 have isL:∀ {i:Nat} {l:Addr},ρ[i]?=some l→∀ {b:Bool},(getL h i).map (fun _=>false)=some b→b=false∧∃ its:Array Value,s.heap.IsList l its:=fun {i l} k1 {b} e=>by
  cases q:getL h i with
  | none=>rw [q] at e;cases e
  | some zs =>
   rw [q] at e
   cases e
   obtain ⟨a',ws',k5,k6,_⟩:=r.list q
   rw [k1] at k5
   cases k5
   obtain ⟨its,_,p,_⟩:=I.list k6
   exact ⟨rfl,_,p.isList⟩
 have strEq:∀ {A:Around} (x y:Tx) (t t':Tok),RcAt A s (.str ⟨x.toArray⟩ t) (.str ⟨y.toArray⟩ t') (x == y):=fun x y t t'=>by
  have e:(x == y)=((⟨x.toArray⟩:Str) == (⟨y.toArray⟩:Str)):=by
   rw [Bool.eq_iff_iff]
   simp
  rw [e]
  exact RcAt.str_str _ _ _ _
 induction n with
 | zero =>
  intro x y b v u vv uu A e hx hy rv ru hu
  have hu0:A.units<cLine:=by omega
  cases x with
  | non =>
   cases y with
   | non=>cases hx;cases rv;cases hy;cases ru;cases e;exact RcAt.none_none
   | bl y=>cases hx;cases rv;cases hy;cases ru;cases e;exact RcAt.none_bool _
   | int y=>cases hx;cases rv;cases hy;obtain ⟨t',rfl⟩:=ru;cases e;exact RcAt.none_int _ _
   | str y=>cases hx;cases rv;cases hy;obtain ⟨t',rfl⟩:=ru;cases e;exact RcAt.none_str _ _
   | tup y=>cases hx;cases rv;obtain ⟨a2,us,rfl,m1,m2⟩:=hy;cases ru;cases e;obtain ⟨_,T⟩:=isT m1;exact RcAt.none_tuple T hu0
   | ref y=>cases hx;cases rv;obtain ⟨a2,m1,rfl⟩:=hy;cases ru;obtain ⟨rfl,_,T⟩:=isL m1 e;exact RcAt.none_list T hu0
  | bl x =>
   cases y with
   | non=>cases hx;cases rv;cases hy;cases ru;cases e;exact RcAt.bool_none _
   | bl y=>cases hx;cases rv;cases hy;cases ru;cases e;exact RcAt.bool_bool _ _
   | int y=>cases hx;cases rv;cases hy;obtain ⟨t',rfl⟩:=ru;cases e;exact RcAt.bool_int _ _ _
   | str y=>cases hx;cases rv;cases hy;obtain ⟨t',rfl⟩:=ru;cases e;exact RcAt.bool_str _ _ _
   | tup y=>cases hx;cases rv;obtain ⟨a2,us,rfl,m1,m2⟩:=hy;cases ru;cases e;obtain ⟨_,T⟩:=isT m1;exact RcAt.bool_tuple _ T hu0
   | ref y=>cases hx;cases rv;obtain ⟨a2,m1,rfl⟩:=hy;cases ru;obtain ⟨rfl,_,T⟩:=isL m1 e;exact RcAt.bool_list _ T hu0
  | int x =>
   cases y with
   | non=>cases hx;obtain ⟨t,rfl⟩:=rv;cases hy;cases ru;cases e;exact RcAt.int_none _ _
   | bl y=>cases hx;obtain ⟨t,rfl⟩:=rv;cases hy;cases ru;cases e;exact RcAt.int_bool _ _ _
   | int y=>cases hx;obtain ⟨t,rfl⟩:=rv;cases hy;obtain ⟨t',rfl⟩:=ru;cases e;exact RcAt.int_int _ _ _ _
   | str y=>cases hx;obtain ⟨t,rfl⟩:=rv;cases hy;obtain ⟨t',rfl⟩:=ru;cases e;exact RcAt.int_str _ _ _ _
   | tup y=>cases hx;obtain ⟨t,rfl⟩:=rv;obtain ⟨a2,us,rfl,m1,m2⟩:=hy;cases ru;cases e;obtain ⟨_,T⟩:=isT m1;exact RcAt.int_tuple _ _ T hu0
   | ref y=>cases hx;obtain ⟨t,rfl⟩:=rv;obtain ⟨a2,m1,rfl⟩:=hy;cases ru;obtain ⟨rfl,_,T⟩:=isL m1 e;exact RcAt.int_list _ _ T hu0
  | str x =>
   cases y with
   | non=>cases hx;obtain ⟨t,rfl⟩:=rv;cases hy;cases ru;cases e;exact RcAt.str_none _ _
   | bl y=>cases hx;obtain ⟨t,rfl⟩:=rv;cases hy;cases ru;cases e;exact RcAt.str_bool _ _ _
   | int y=>cases hx;obtain ⟨t,rfl⟩:=rv;cases hy;obtain ⟨t',rfl⟩:=ru;cases e;exact RcAt.str_int _ _ _ _
   | str y=>cases hx;obtain ⟨t,rfl⟩:=rv;cases hy;obtain ⟨t',rfl⟩:=ru;cases e;exact strEq _ _ _ _
   | tup y=>cases hx;obtain ⟨t,rfl⟩:=rv;obtain ⟨a2,us,rfl,m1,m2⟩:=hy;cases ru;cases e;obtain ⟨_,T⟩:=isT m1;exact RcAt.str_tuple _ _ T hu0
   | ref y=>cases hx;obtain ⟨t,rfl⟩:=rv;obtain ⟨a2,m1,rfl⟩:=hy;cases ru;obtain ⟨rfl,_,T⟩:=isL m1 e;exact RcAt.str_list _ _ T hu0
  | tup x =>
   cases y with
   | non=>obtain ⟨a,vs,rfl,k1,k2⟩:=hx;cases rv;cases hy;cases ru;cases e;obtain ⟨_,T⟩:=isT k1;exact RcAt.tuple_none T hu0
   | bl y=>obtain ⟨a,vs,rfl,k1,k2⟩:=hx;cases rv;cases hy;cases ru;cases e;obtain ⟨_,T⟩:=isT k1;exact RcAt.tuple_bool _ T hu0
   | int y=>obtain ⟨a,vs,rfl,k1,k2⟩:=hx;cases rv;cases hy;obtain ⟨t',rfl⟩:=ru;cases e;obtain ⟨_,T⟩:=isT k1;exact RcAt.tuple_int _ _ T hu0
   | str y=>obtain ⟨a,vs,rfl,k1,k2⟩:=hx;cases rv;cases hy;obtain ⟨t',rfl⟩:=ru;cases e;obtain ⟨_,T⟩:=isT k1;exact RcAt.tuple_str _ _ T hu0
   | tup y=>cases e
   | ref y=>obtain ⟨a,vs,rfl,k1,k2⟩:=hx;cases rv;obtain ⟨a2,m1,rfl⟩:=hy;cases ru;obtain ⟨rfl,_,T⟩:=isL m1 e;obtain ⟨_,U⟩:=isT k1;exact RcAt.tuple_list U T hu0
  | ref x =>
   cases y with
   | non=>obtain ⟨a,k1,rfl⟩:=hx;cases rv;cases hy;cases ru;obtain ⟨rfl,_,T⟩:=isL k1 e;exact RcAt.list_none T hu0
   | bl y=>obtain ⟨a,k1,rfl⟩:=hx;cases rv;cases hy;cases ru;obtain ⟨rfl,_,T⟩:=isL k1 e;exact RcAt.list_bool _ T hu0
   | int y=>obtain ⟨a,k1,rfl⟩:=hx;cases rv;cases hy;obtain ⟨t',rfl⟩:=ru;obtain ⟨rfl,_,T⟩:=isL k1 e;exact RcAt.list_int _ _ T hu0
   | str y=>obtain ⟨a,k1,rfl⟩:=hx;cases rv;cases hy;obtain ⟨t',rfl⟩:=ru;obtain ⟨rfl,_,T⟩:=isL k1 e;exact RcAt.list_str _ _ T hu0
   | tup y=>obtain ⟨a,k1,rfl⟩:=hx;cases rv;obtain ⟨a2,us,rfl,m1,m2⟩:=hy;cases ru;obtain ⟨rfl,_,T⟩:=isL k1 e;obtain ⟨_,U⟩:=isT m1;exact RcAt.list_tuple T U hu0
   | ref y=>cases e
 | succ n ih =>
  intro x y b v u vv uu A e hx hy rv ru hu
  have hu0:A.units<cLine:=by omega
  have tt:∀ {a a2:Addr} {vs us:List V} {xs ys:List D},SqT X.K H a vs→SqT X.K H a2 us→RepL X.K ρ H xs vs→RepL X.K ρ H ys us→eqW (eqD h n) xs ys=some b→RcAt A s (.ref a) (.ref a2) b:=fun k1 m1 k2 m2 e=>by
   obtain ⟨its,its2,q1,q2,q3,q4⟩:=tups k1 m1
   have:=RcAt.tuples (e:=pairB (eqD h n) _ _) q3 q4 hu0 (seqs I r n A ih (by omega) _ _ b _ _ its its2 e k2 m2 q1 q2)
   obtain ⟨_,eb⟩:=qDR e
   rw [eb]
   have l1:=q1.length
   have l2:=q2.length
   have l3:=k2.length
   have l4:=m2.length
   rw [List.size_toArray,List.size_toArray,← l1,← l2,l3,l4] at this
   exact this
  have ll:∀ {i j:Nat} {a a2:Addr},ρ[i]?=some a→ρ[j]?=some a2→(match getL h i,getL h j with | some xs,some ys=>eqW (eqD h n) xs ys | _,_=>none)=some b→RcAt A s (.ref a) (.ref a2) b:=fun {i j a a2} k1 m1 e=>by
   cases q:getL h i with
   | none=>rw [q] at e;cases e
   | some xs =>
    cases q2:getL h j with
    | none=>rw [q,q2] at e;cases e
    | some ys =>
     rw [q,q2] at e
     obtain ⟨a1,vs,p1,p2,p3⟩:=r.list q
     obtain ⟨a2',us,o1,o2,o3⟩:=r.list q2
     rw [k1] at p1
     rw [m1] at o1
     cases p1
     cases o1
     obtain ⟨its,r1,pl1,_⟩:=I.list p2
     obtain ⟨its2,r2,pl2,_⟩:=I.list o2
     have l1:=r1.length
     have l2:=r2.length
     have l3:=p3.length
     have l4:=o3.length
     obtain ⟨_,eb⟩:=qDR e
     rw [eb]
     by_cases hsz:xs.length=ys.length
     ·have:=RcAt.lists (e:=pairB (eqD h n) xs ys) pl1.isList pl2.isList (by rw [List.size_toArray,List.size_toArray];omega) hu0 (seqs I r n A ih (by omega) _ _ b _ _ its its2 e p3 o3 r1 r2)
      rw [List.size_toArray,← l1,l3] at this
      rw [← hsz,Nat.min_self,beq_self_eq_true,Bool.and_true]
      exact this
     ·have e2:(xs.length == ys.length)=false:=by simpa using hsz
      rw [e2,Bool.and_false]
      exact RcAt.lists_lengths pl1.isList pl2.isList (by rw [List.size_toArray,List.size_toArray,← l1,← l2,l3,l4];simpa using hsz) hu0
  cases x with
  | non =>
   cases y with
   | non=>cases hx;cases rv;cases hy;cases ru;cases e;exact RcAt.none_none
   | bl y=>cases hx;cases rv;cases hy;cases ru;cases e;exact RcAt.none_bool _
   | int y=>cases hx;cases rv;cases hy;obtain ⟨t',rfl⟩:=ru;cases e;exact RcAt.none_int _ _
   | str y=>cases hx;cases rv;cases hy;obtain ⟨t',rfl⟩:=ru;cases e;exact RcAt.none_str _ _
   | tup y=>cases hx;cases rv;obtain ⟨a2,us,rfl,m1,m2⟩:=hy;cases ru;cases e;obtain ⟨_,T⟩:=isT m1;exact RcAt.none_tuple T hu0
   | ref y=>cases hx;cases rv;obtain ⟨a2,m1,rfl⟩:=hy;cases ru;obtain ⟨rfl,_,T⟩:=isL m1 e;exact RcAt.none_list T hu0
  | bl x =>
   cases y with
   | non=>cases hx;cases rv;cases hy;cases ru;cases e;exact RcAt.bool_none _
   | bl y=>cases hx;cases rv;cases hy;cases ru;cases e;exact RcAt.bool_bool _ _
   | int y=>cases hx;cases rv;cases hy;obtain ⟨t',rfl⟩:=ru;cases e;exact RcAt.bool_int _ _ _
   | str y=>cases hx;cases rv;cases hy;obtain ⟨t',rfl⟩:=ru;cases e;exact RcAt.bool_str _ _ _
   | tup y=>cases hx;cases rv;obtain ⟨a2,us,rfl,m1,m2⟩:=hy;cases ru;cases e;obtain ⟨_,T⟩:=isT m1;exact RcAt.bool_tuple _ T hu0
   | ref y=>cases hx;cases rv;obtain ⟨a2,m1,rfl⟩:=hy;cases ru;obtain ⟨rfl,_,T⟩:=isL m1 e;exact RcAt.bool_list _ T hu0
  | int x =>
   cases y with
   | non=>cases hx;obtain ⟨t,rfl⟩:=rv;cases hy;cases ru;cases e;exact RcAt.int_none _ _
   | bl y=>cases hx;obtain ⟨t,rfl⟩:=rv;cases hy;cases ru;cases e;exact RcAt.int_bool _ _ _
   | int y=>cases hx;obtain ⟨t,rfl⟩:=rv;cases hy;obtain ⟨t',rfl⟩:=ru;cases e;exact RcAt.int_int _ _ _ _
   | str y=>cases hx;obtain ⟨t,rfl⟩:=rv;cases hy;obtain ⟨t',rfl⟩:=ru;cases e;exact RcAt.int_str _ _ _ _
   | tup y=>cases hx;obtain ⟨t,rfl⟩:=rv;obtain ⟨a2,us,rfl,m1,m2⟩:=hy;cases ru;cases e;obtain ⟨_,T⟩:=isT m1;exact RcAt.int_tuple _ _ T hu0
   | ref y=>cases hx;obtain ⟨t,rfl⟩:=rv;obtain ⟨a2,m1,rfl⟩:=hy;cases ru;obtain ⟨rfl,_,T⟩:=isL m1 e;exact RcAt.int_list _ _ T hu0
  | str x =>
   cases y with
   | non=>cases hx;obtain ⟨t,rfl⟩:=rv;cases hy;cases ru;cases e;exact RcAt.str_none _ _
   | bl y=>cases hx;obtain ⟨t,rfl⟩:=rv;cases hy;cases ru;cases e;exact RcAt.str_bool _ _ _
   | int y=>cases hx;obtain ⟨t,rfl⟩:=rv;cases hy;obtain ⟨t',rfl⟩:=ru;cases e;exact RcAt.str_int _ _ _ _
   | str y=>cases hx;obtain ⟨t,rfl⟩:=rv;cases hy;obtain ⟨t',rfl⟩:=ru;cases e;exact strEq _ _ _ _
   | tup y=>cases hx;obtain ⟨t,rfl⟩:=rv;obtain ⟨a2,us,rfl,m1,m2⟩:=hy;cases ru;cases e;obtain ⟨_,T⟩:=isT m1;exact RcAt.str_tuple _ _ T hu0
   | ref y=>cases hx;obtain ⟨t,rfl⟩:=rv;obtain ⟨a2,m1,rfl⟩:=hy;cases ru;obtain ⟨rfl,_,T⟩:=isL m1 e;exact RcAt.str_list _ _ T hu0
  | tup x =>
   cases y with
   | non=>obtain ⟨a,vs,rfl,k1,k2⟩:=hx;cases rv;cases hy;cases ru;cases e;obtain ⟨_,T⟩:=isT k1;exact RcAt.tuple_none T hu0
   | bl y=>obtain ⟨a,vs,rfl,k1,k2⟩:=hx;cases rv;cases hy;cases ru;cases e;obtain ⟨_,T⟩:=isT k1;exact RcAt.tuple_bool _ T hu0
   | int y=>obtain ⟨a,vs,rfl,k1,k2⟩:=hx;cases rv;cases hy;obtain ⟨t',rfl⟩:=ru;cases e;obtain ⟨_,T⟩:=isT k1;exact RcAt.tuple_int _ _ T hu0
   | str y=>obtain ⟨a,vs,rfl,k1,k2⟩:=hx;cases rv;cases hy;obtain ⟨t',rfl⟩:=ru;cases e;obtain ⟨_,T⟩:=isT k1;exact RcAt.tuple_str _ _ T hu0
   | tup y=>obtain ⟨a,vs,rfl,k1,k2⟩:=hx;cases rv;obtain ⟨a2,us,rfl,m1,m2⟩:=hy;cases ru;exact tt k1 m1 k2 m2 e
   | ref y=>obtain ⟨a,vs,rfl,k1,k2⟩:=hx;cases rv;obtain ⟨a2,m1,rfl⟩:=hy;cases ru;obtain ⟨rfl,_,T⟩:=isL m1 e;obtain ⟨_,U⟩:=isT k1;exact RcAt.tuple_list U T hu0
  | ref x =>
   cases y with
   | non=>obtain ⟨a,k1,rfl⟩:=hx;cases rv;cases hy;cases ru;obtain ⟨rfl,_,T⟩:=isL k1 e;exact RcAt.list_none T hu0
   | bl y=>obtain ⟨a,k1,rfl⟩:=hx;cases rv;cases hy;cases ru;obtain ⟨rfl,_,T⟩:=isL k1 e;exact RcAt.list_bool _ T hu0
   | int y=>obtain ⟨a,k1,rfl⟩:=hx;cases rv;cases hy;obtain ⟨t',rfl⟩:=ru;obtain ⟨rfl,_,T⟩:=isL k1 e;exact RcAt.list_int _ _ T hu0
   | str y=>obtain ⟨a,k1,rfl⟩:=hx;cases rv;cases hy;obtain ⟨t',rfl⟩:=ru;obtain ⟨rfl,_,T⟩:=isL k1 e;exact RcAt.list_str _ _ T hu0
   | tup y=>obtain ⟨a,k1,rfl⟩:=hx;cases rv;obtain ⟨a2,us,rfl,m1,m2⟩:=hy;cases ru;obtain ⟨rfl,_,T⟩:=isL k1 e;obtain ⟨_,U⟩:=isT m1;exact RcAt.list_tuple T U hu0
   | ref y=>obtain ⟨a,k1,rfl⟩:=hx;cases rv;obtain ⟨a2,m1,rfl⟩:=hy;cases ru;exact ll k1 m1 e
theorem neAtD (I:Inv X pins σ H s) (r:RepH X.K ρ h H):∀ (n:Nat) (x y:D) (b:Bool) (v u:V) (vv uu:Value) (A:Around),eqD h (n+1) x y=some b→RepV X.K ρ H x v→RepV X.K ρ H y u→RelV v vv→RelV u uu→A.units+(n+1)<cLine→RcNeAt A s vv uu (!b):=by
 intro n
 have tups:∀ {l b:Addr} {vs us:List V},SqT X.K H l vs→SqT X.K H b us→∃ its its2:List Value,Vals vs its∧Vals us its2∧s.heap.IsTuple l its.toArray∧s.heap.IsTuple b its2.toArray:=fun h1 h2=>by
  obtain ⟨its,k1,k2,_⟩:=I.tuple h1
  obtain ⟨its2,k3,k4,_⟩:=I.tuple h2
  exact ⟨its,its2,k1,k3,k2,k4⟩
 have isT:∀ {l:Addr} {vs:List V},SqT X.K H l vs→∃ its:Array Value,s.heap.IsTuple l its:=fun h1=>by
  obtain ⟨its,k1,k2,_⟩:=I.tuple h1
  exact ⟨_,k2⟩
 have isL:∀ {i:Nat} {l:Addr},ρ[i]?=some l→∀ {b:Bool},(getL h i).map (fun _=>false)=some b→b=false∧∃ its:Array Value,s.heap.IsList l its:=fun {i l} k1 {b} e=>by
  cases q:getL h i with
  | none=>rw [q] at e;cases e
  | some zs =>
   rw [q] at e
   cases e
   obtain ⟨a',ws',k5,k6,_⟩:=r.list q
   rw [k1] at k5
   cases k5
   obtain ⟨its,_,p,_⟩:=I.list k6
   exact ⟨rfl,_,p.isList⟩
 have strEq:∀ {A:Around} (x y:Tx) (t t':Tok),RcNeAt A s (.str ⟨x.toArray⟩ t) (.str ⟨y.toArray⟩ t') (!(x == y)):=fun x y t t'=>by
  have e:(x == y)=((⟨x.toArray⟩:Str) == (⟨y.toArray⟩:Str)):=by
   rw [Bool.eq_iff_iff]
   simp
  rw [e]
  exact RcNeAt.str_str _ _ _ _
 intro x y b v u vv uu A e hx hy rv ru hu
 have hu0:A.units<cLine:=by omega
 have tt:∀ {a a2:Addr} {vs us:List V} {xs ys:List D},SqT X.K H a vs→SqT X.K H a2 us→RepL X.K ρ H xs vs→RepL X.K ρ H ys us→eqW (eqD h n) xs ys=some b→RcNeAt A s (.ref a) (.ref a2) (!b):=fun k1 m1 k2 m2 e=>by
  obtain ⟨its,its2,q1,q2,q3,q4⟩:=tups k1 m1
  have:=RcNeAt.tuples (e:=pairB (eqD h n) _ _) q3 q4 hu0 (seqs I r n A (eqAtD I r n) (by omega) _ _ b _ _ its its2 e k2 m2 q1 q2)
  obtain ⟨_,eb⟩:=qDR e
  rw [eb]
  have l1:=q1.length
  have l2:=q2.length
  have l3:=k2.length
  have l4:=m2.length
  rw [List.size_toArray,List.size_toArray,← l1,← l2,l3,l4] at this
  exact this
 have ll:∀ {i j:Nat} {a a2:Addr},ρ[i]?=some a→ρ[j]?=some a2→(match getL h i,getL h j with | some xs,some ys=>eqW (eqD h n) xs ys | _,_=>none)=some b→RcNeAt A s (.ref a) (.ref a2) (!b):=fun {i j a a2} k1 m1 e=>by
  cases q:getL h i with
  | none=>rw [q] at e;cases e
  | some xs =>
   cases q2:getL h j with
   | none=>rw [q,q2] at e;cases e
   | some ys =>
    rw [q,q2] at e
    obtain ⟨a1,vs,p1,p2,p3⟩:=r.list q
    obtain ⟨a2',us,o1,o2,o3⟩:=r.list q2
    rw [k1] at p1
    rw [m1] at o1
    cases p1
    cases o1
    obtain ⟨its,r1,pl1,_⟩:=I.list p2
    obtain ⟨its2,r2,pl2,_⟩:=I.list o2
    have l1:=r1.length
    have l2:=r2.length
    have l3:=p3.length
    have l4:=o3.length
    obtain ⟨_,eb⟩:=qDR e
    rw [eb]
    by_cases hsz:xs.length=ys.length
    ·have:=RcNeAt.lists (e:=pairB (eqD h n) xs ys) pl1.isList pl2.isList (by rw [List.size_toArray,List.size_toArray];omega) hu0 (seqs I r n A (eqAtD I r n) (by omega) _ _ b _ _ its its2 e p3 o3 r1 r2)
     rw [List.size_toArray,← l1,l3] at this
     rw [← hsz,Nat.min_self,beq_self_eq_true,Bool.and_true]
     exact this
    ·have e2:(xs.length == ys.length)=false:=by simpa using hsz
     rw [e2,Bool.and_false]
     exact RcNeAt.lists_lengths pl1.isList pl2.isList (by rw [List.size_toArray,List.size_toArray,← l1,← l2,l3,l4];simpa using hsz) hu0
 cases x with
 | non =>
  cases y with
  | non=>cases hx;cases rv;cases hy;cases ru;cases e;exact RcNeAt.none_none
  | bl y=>cases hx;cases rv;cases hy;cases ru;cases e;exact RcNeAt.none_bool _
  | int y=>cases hx;cases rv;cases hy;obtain ⟨t',rfl⟩:=ru;cases e;exact RcNeAt.none_int _ _
  | str y=>cases hx;cases rv;cases hy;obtain ⟨t',rfl⟩:=ru;cases e;exact RcNeAt.none_str _ _
  | tup y=>cases hx;cases rv;obtain ⟨a2,us,rfl,m1,m2⟩:=hy;cases ru;cases e;obtain ⟨_,T⟩:=isT m1;exact RcNeAt.none_tuple T hu0
  | ref y=>cases hx;cases rv;obtain ⟨a2,m1,rfl⟩:=hy;cases ru;obtain ⟨rfl,_,T⟩:=isL m1 e;exact RcNeAt.none_list T hu0
 | bl x =>
  cases y with
  | non=>cases hx;cases rv;cases hy;cases ru;cases e;exact RcNeAt.bool_none _
  | bl y=>cases hx;cases rv;cases hy;cases ru;cases e;exact RcNeAt.bool_bool _ _
  | int y=>cases hx;cases rv;cases hy;obtain ⟨t',rfl⟩:=ru;cases e;exact RcNeAt.bool_int _ _ _
  | str y=>cases hx;cases rv;cases hy;obtain ⟨t',rfl⟩:=ru;cases e;exact RcNeAt.bool_str _ _ _
  | tup y=>cases hx;cases rv;obtain ⟨a2,us,rfl,m1,m2⟩:=hy;cases ru;cases e;obtain ⟨_,T⟩:=isT m1;exact RcNeAt.bool_tuple _ T hu0
  | ref y=>cases hx;cases rv;obtain ⟨a2,m1,rfl⟩:=hy;cases ru;obtain ⟨rfl,_,T⟩:=isL m1 e;exact RcNeAt.bool_list _ T hu0
 | int x =>
  cases y with
  | non=>cases hx;obtain ⟨t,rfl⟩:=rv;cases hy;cases ru;cases e;exact RcNeAt.int_none _ _
  | bl y=>cases hx;obtain ⟨t,rfl⟩:=rv;cases hy;cases ru;cases e;exact RcNeAt.int_bool _ _ _
  | int y=>cases hx;obtain ⟨t,rfl⟩:=rv;cases hy;obtain ⟨t',rfl⟩:=ru;cases e;exact RcNeAt.int_int _ _ _ _
  | str y=>cases hx;obtain ⟨t,rfl⟩:=rv;cases hy;obtain ⟨t',rfl⟩:=ru;cases e;exact RcNeAt.int_str _ _ _ _
  | tup y=>cases hx;obtain ⟨t,rfl⟩:=rv;obtain ⟨a2,us,rfl,m1,m2⟩:=hy;cases ru;cases e;obtain ⟨_,T⟩:=isT m1;exact RcNeAt.int_tuple _ _ T hu0
  | ref y=>cases hx;obtain ⟨t,rfl⟩:=rv;obtain ⟨a2,m1,rfl⟩:=hy;cases ru;obtain ⟨rfl,_,T⟩:=isL m1 e;exact RcNeAt.int_list _ _ T hu0
 | str x =>
  cases y with
  | non=>cases hx;obtain ⟨t,rfl⟩:=rv;cases hy;cases ru;cases e;exact RcNeAt.str_none _ _
  | bl y=>cases hx;obtain ⟨t,rfl⟩:=rv;cases hy;cases ru;cases e;exact RcNeAt.str_bool _ _ _
  | int y=>cases hx;obtain ⟨t,rfl⟩:=rv;cases hy;obtain ⟨t',rfl⟩:=ru;cases e;exact RcNeAt.str_int _ _ _ _
  | str y=>cases hx;obtain ⟨t,rfl⟩:=rv;cases hy;obtain ⟨t',rfl⟩:=ru;cases e;exact strEq _ _ _ _
  | tup y=>cases hx;obtain ⟨t,rfl⟩:=rv;obtain ⟨a2,us,rfl,m1,m2⟩:=hy;cases ru;cases e;obtain ⟨_,T⟩:=isT m1;exact RcNeAt.str_tuple _ _ T hu0
  | ref y=>cases hx;obtain ⟨t,rfl⟩:=rv;obtain ⟨a2,m1,rfl⟩:=hy;cases ru;obtain ⟨rfl,_,T⟩:=isL m1 e;exact RcNeAt.str_list _ _ T hu0
 | tup x =>
  cases y with
  | non=>obtain ⟨a,vs,rfl,k1,k2⟩:=hx;cases rv;cases hy;cases ru;cases e;obtain ⟨_,T⟩:=isT k1;exact RcNeAt.tuple_none T hu0
  | bl y=>obtain ⟨a,vs,rfl,k1,k2⟩:=hx;cases rv;cases hy;cases ru;cases e;obtain ⟨_,T⟩:=isT k1;exact RcNeAt.tuple_bool _ T hu0
  | int y=>obtain ⟨a,vs,rfl,k1,k2⟩:=hx;cases rv;cases hy;obtain ⟨t',rfl⟩:=ru;cases e;obtain ⟨_,T⟩:=isT k1;exact RcNeAt.tuple_int _ _ T hu0
  | str y=>obtain ⟨a,vs,rfl,k1,k2⟩:=hx;cases rv;cases hy;obtain ⟨t',rfl⟩:=ru;cases e;obtain ⟨_,T⟩:=isT k1;exact RcNeAt.tuple_str _ _ T hu0
  | tup y=>obtain ⟨a,vs,rfl,k1,k2⟩:=hx;cases rv;obtain ⟨a2,us,rfl,m1,m2⟩:=hy;cases ru;exact tt k1 m1 k2 m2 e
  | ref y=>obtain ⟨a,vs,rfl,k1,k2⟩:=hx;cases rv;obtain ⟨a2,m1,rfl⟩:=hy;cases ru;obtain ⟨rfl,_,T⟩:=isL m1 e;obtain ⟨_,U⟩:=isT k1;exact RcNeAt.tuple_list U T hu0
 | ref x =>
  cases y with
  | non=>obtain ⟨a,k1,rfl⟩:=hx;cases rv;cases hy;cases ru;obtain ⟨rfl,_,T⟩:=isL k1 e;exact RcNeAt.list_none T hu0
  | bl y=>obtain ⟨a,k1,rfl⟩:=hx;cases rv;cases hy;cases ru;obtain ⟨rfl,_,T⟩:=isL k1 e;exact RcNeAt.list_bool _ T hu0
  | int y=>obtain ⟨a,k1,rfl⟩:=hx;cases rv;cases hy;obtain ⟨t',rfl⟩:=ru;obtain ⟨rfl,_,T⟩:=isL k1 e;exact RcNeAt.list_int _ _ T hu0
  | str y=>obtain ⟨a,k1,rfl⟩:=hx;cases rv;cases hy;obtain ⟨t',rfl⟩:=ru;obtain ⟨rfl,_,T⟩:=isL k1 e;exact RcNeAt.list_str _ _ T hu0
  | tup y=>obtain ⟨a,k1,rfl⟩:=hx;cases rv;obtain ⟨a2,us,rfl,m1,m2⟩:=hy;cases ru;obtain ⟨rfl,_,T⟩:=isL k1 e;obtain ⟨_,U⟩:=isT m1;exact RcNeAt.list_tuple T U hu0
  | ref y=>obtain ⟨a,k1,rfl⟩:=hx;cases rv;obtain ⟨a2,m1,rfl⟩:=hy;cases ru;exact ll k1 m1 e
end
section
variable {X:Cx}
theorem qM3 (hu:X.A.units+64<cLine):OpR X (compareOp .Eq) (rB X.K .eq):=by
 rintro pins s σ H x y v u Q I rx ry ⟨w,ρ,h,d,e,r,hd,he,p⟩
 have p:PostV X.K w Q ρ H (match eqD h 40 d e with | some b=>.ok (.bl b) h | none=>.bad):=p
 cases q:eqD h 40 d e with
 | none=>rw [q] at p;exact False.elim p
 | some b =>
  rw [q] at p
  exact eqAtD I r 40 d e b x y v u X.A q hd he rx ry (by omega) X.prog X.w X.xe _ ⟨.bl b,H,I,rfl,PostV.now p r rfl⟩
theorem qMx (hu:X.A.units+64<cLine):OpR X (compareOp .NotEq) (rB X.K .ne):=by
 rintro pins s σ H x y v u Q I rx ry ⟨w,ρ,h,d,e,r,hd,he,p⟩
 have p:PostV X.K w Q ρ H (match eqD h 40 d e with | some b=>.ok (.bl (!b)) h | none=>.bad):=p
 cases q:eqD h 40 d e with
 | none=>rw [q] at p;exact False.elim p
 | some b =>
  rw [q] at p
  exact neAtD I r 39 d e b x y v u X.A q hd he rx ry (by omega) X.prog X.w X.xe _ ⟨.bl (!b),H,I,rfl,PostV.now p r rfl⟩
end
end Fy
set_option Elab.async false
set_option linter.all false
set_option maxRecDepth 100000
set_option maxHeartbeats 4000000
namespace Fy
open PySem PySem.Spec PyProof.Rows PySem.StrLaws Builtin.Str
open L2 (V Hp HO VK TE TT TA TS TI Cx Inv RelV Vals SqL SqT Rd upd qAA qAB PE PT PA PS PSs EP OpR CallR IxR MtR SlR PO TO PI PG PIE Turn FpOk Ends)
theorem qCs (n d:Nat) (o:Option Int):cutN n d o=HT.sIx n d o:=by cases o <;> rfl
theorem qIA (xs:List V) (lo hi:Option Int):L2.cutV xs lo hi=cutX xs lo hi:=by
 unfold L2.cutV cutX
 rw [qCs,qCs]
theorem qIB (n d:Nat) (hd:d≤n) (o:Option Int):cutN n d o≤n:=by rw [qCs];exact HT.sIx_le n d hd o
theorem RepL.cut {K:PySem.W.Frag} {ρ:List Addr} {H:Hp} {xs:List D} {vs:List V} (l:RepL K ρ H xs vs) (lo hi:Option Int):RepL K ρ H (cutX xs lo hi) (cutX vs lo hi):=by
 unfold cutX
 rw [l.length]
 exact (l.drop _).take _
theorem qJz (lo hi:Option Int) (n:Nat):strSliceIndices lo hi 1 n=(List.range (cutN n n hi-cutN n 0 lo)).map fun k=>cutN n 0 lo+k:=by
 have c1:(match lo with | none=>(0:Int) | some i=>max 0 (min (if i<0 then i+(n:Int) else i) (n:Int)))=(cutN n 0 lo:Int):=by
  cases lo with
  | none=>rfl
  | some v=>unfold cutN;simp only;split <;> omega
 have c2:(match hi with | none=>(n:Int) | some i=>max 0 (min (if i<0 then i+(n:Int) else i) (n:Int)))=(cutN n n hi:Int):=by
  cases hi with
  | none=>rfl
  | some v=>unfold cutN;simp only;split <;> omega
 have e:strSliceIndices lo hi 1 n=sliceRange (cutN n 0 lo:Int) (cutN n n hi:Int) 1:=by
  rw [← c1,← c2]
  unfold strSliceIndices
  cases lo <;> cases hi <;> simp
 rw [e]
 unfold sliceRange
 simp only [show (1:Int) > 0 from by decide,if_true]
 by_cases hlt:(cutN n 0 lo:Int)<(cutN n n hi:Int)
 ·rw [if_pos hlt]
  have e3:(((cutN n n hi:Int)-(cutN n 0 lo:Int)+1-1) / 1).toNat=cutN n n hi-cutN n 0 lo:=by
   rw [Int.ediv_one]
   omega
  rw [e3]
  refine List.map_congr_left fun k _=>?_
  omega
 ·rw [if_neg hlt]
  have:cutN n n hi-cutN n 0 lo=0:=by omega
  rw [this]
  rfl
theorem qGq (x:Tx) (lo hi:Option Int):Txt.slice ⟨x.toArray⟩ lo hi=⟨(cutX x lo hi).toArray⟩:=by
 have hl:(⟨x.toArray⟩:Str).length=x.length:=qAb x
 have a1:=qIB x.length 0 (Nat.zero_le _) lo
 have a2:=qIB x.length x.length (Nat.le_refl _) hi
 have pk:((strSliceIndices lo hi 1 (⟨x.toArray⟩:Str).length).filterMap ((⟨x.toArray⟩:Str).cps[·]?))=cutX x lo hi:=by
  rw [hl,qJz]
  unfold cutX
  by_cases hc:cutN x.length 0 lo≤cutN x.length x.length hi
  ·have:=picks x (cutN x.length x.length hi-cutN x.length 0 lo) (cutN x.length 0 lo) (by omega)
   simpa using this
  ·have:cutN x.length x.length hi-cutN x.length 0 lo=0:=by omega
   rw [this]
   simp
 unfold Txt.slice
 split
 ·rename_i hc
  have hc':(strSliceIndices lo hi 1 (⟨x.toArray⟩:Str).length).length=x.length:=by simpa [hl] using hc
  rw [hl,qJz,List.length_map,List.length_range] at hc'
  have e:cutX x lo hi=x:=by
   unfold cutX
   have z:cutN x.length 0 lo=0:=by omega
   rw [z,List.drop_zero]
   exact List.take_of_length_le (by omega)
  rw [e]
 ·rw [pk]
section
open HT
variable {prog:Program} {w:World} {A:Around} {E:Value→Shared→Prop} {s:Shared}
theorem qEw {t sl:Addr} {items:Array Value} {vl vu:Value} {lo hi:Option Int} {Q:Value→Shared→Prop} (ht:IsTup s.heap t items) (hs:s.heap.IsSliceOf sl vl vu .none) (pl:IsPart vl lo) (pu:IsPart vu hi)
    (hw:sIx items.size 0 lo=0∧sIx items.size items.size hi=items.size) (h:Q (.ref t) s):wpAny (model prog w) A (getItem (.ref t) (.ref sl)) Q E s:=by
  obtain ⟨os,hos,hcs,hds⟩:=id hs
  have hTs:s.TypeIs (.ref sl) "slice":=⟨os,hos,hcs⟩
  unfold getItem
  try with_reducible refine wpAny_holding ?_
  first | refine wpAny_bind (wpAny_pure ?_) | skip
  refine wpAny_bind (wpAny_sequenceKey ht.typeIs (by decide) ?_)
  refine wpAny_bind (wpAny_callSpecial?_slot (name:=Str.ofString "__getitem__") ht.typeIs PyProof.Rows.slot_tuple_getitem
    (wpAny_call_entry PyProof.Rows.slot_tuple_getitem ht.typeIs entry_tuple_getitem ?_ (args_tuple_getitem _ _)))
  show wpAny _ _ (Builtin.Tuple.tupleItemsOf (.ref t) >>= _) _ _ s
  refine wpAny_bind (tupleItemsOf_ ht ?_)
  refine wpAny_bind (wpAny_typeOf hTs ?_)
  rw [if_pos (by decide)]
  refine wpAny_bind (qBQ hs pl pu ?_)
  have hno:((((sIx items.size 0 lo:Nat):Int) == 0&&(1:Int) == 1&&(sIx items.size items.size hi-sIx items.size 0 lo) == items.size)=true):=by
    rw [hw.1,hw.2]
    simp
  show wpAny _ _ (if (((sIx items.size 0 lo:Nat):Int) == 0&&(1:Int) == 1&&(sIx items.size items.size hi-sIx items.size 0 lo) == items.size)=true then _ else _) _ _ s
  rw [if_pos hno]
  refine wpAny_bind ?_
  unfold Builtin.Tuple.tupleIsExact
  refine wpAny_bind (wpAny_typeOf ht.typeIs (wpAny_pure ?_))
  rw [if_pos (by decide)]
  exact wpAny_bind (wpAny_rule (wpAny_pure ⟨_,rfl,wpAny_pure h⟩))
end
section
variable {X:Cx} {F:Nat→List D→M D} {W:WX}
theorem qG5 {v:Value} {o:Option Int} (p:IsPart v o):∃ q:Option (Int × Tok),v=partValue q∧q.map (·.1)=o:=by
 cases p with
 | none=>exact ⟨none,rfl,rfl⟩
 | int i t=>exact ⟨some (i,t),rfl,rfl⟩
noncomputable def rSl (K:PySem.W.Frag):V→Option Int→Option Int→Hp→VK→Prop:=fun x lo hi H Q=>∃ (w:W1),∃ ρ h d,RepH K ρ h H∧RepV K ρ H d x∧PostV K w Q ρ H (slD d lo hi h)
theorem sl_D:SlR X (rSl X.K):=by
 rintro pins s σ H x v vl vu lo hi sl Q I rx hs pl pu ⟨w,ρ,h,d,r,hd,p⟩
 unfold slD at p
 cases d with
 | str x =>
  cases hd
  obtain ⟨t,rfl⟩:=rx
  obtain ⟨hz,p⟩:=PostV.ite (c:=x.length≤16777216) p
  obtain ⟨ql,rfl,rfl⟩:=qG5 pl
  obtain ⟨qu,rfl,rfl⟩:=qG5 pu
  refine ⟨"str",_,F.slot_str_getitem.lookup,typeIs_str _ _ _,wpAny_getItem_str_slice (l:=ql) (u:=qu) (st:=none) hs rfl ?_⟩
  refine post_val_or_str ?_
  show (Txt.slice ⟨x.toArray⟩ (ql.map (·.1)) (qu.map (·.1))).length≤sizeLine∧∀ t' k,EP X pins σ Q (.str (Txt.slice ⟨x.toArray⟩ (ql.map (·.1)) (qu.map (·.1))) t') { s with toks:=k }
  refine ⟨Nat.le_trans (Txt.slice_le _ _ _) (by rw [qAb,szEq];exact hz),fun t' k=>?_⟩
  rw [qGq]
  exact ⟨.str ⟨(cutX x (ql.map fun z:Int × Tok=>z.1) (qu.map fun z:Int × Tok=>z.1)).toArray⟩,H,I.tok k,⟨t',rfl⟩,PostV.now p r rfl⟩
 | tup xs =>
  obtain ⟨a,vs,rfl,h1,h2⟩:=hd
  by_cases hw:HT.sIx vs.length 0 lo=0∧HT.sIx vs.length vs.length hi=vs.length
  ·cases rx
   obtain ⟨its,rv,ht,hz⟩:=I.tuple h1
   refine ⟨"tuple",_,PyProof.Rows.slot_tuple_getitem.lookup,ht.typeIs,qEw ht hs pl pu (by rw [List.size_toArray,← rv.length];exact hw) ?_⟩
   refine ⟨.ref a,H,I,rfl,PostV.now p r ⟨a,vs,rfl,h1,?_⟩⟩
   have e:cutX xs lo hi=xs:=by
    unfold cutX
    rw [qCs,qCs,← h2.length,hw.1,hw.2,List.drop_zero,Nat.sub_zero,h2.length]
    exact List.take_length
   rw [e]
   exact h2
  ·exact L2.sl_tup pins s σ H _ v vl vu lo hi sl Q I rx hs pl pu ⟨a,vs,rfl,h1,hw,by rw [qIA];exact PostV.newT p r (h2.cut lo hi)⟩
 | ref i =>
  simp only at p
  cases q:getL h i with
  | none=>rw [q] at p;exact False.elim p
  | some xs =>
   rw [q] at p
   obtain ⟨a,vs,rfl,h1,h2⟩:=r.seen q hd
   exact L2.sl_list pins s σ H _ v vl vu lo hi sl Q I rx hs pl pu ⟨a,vs,rfl,h1,by rw [qIA];exact (PostV.newL p r (h2.cut lo hi)).2⟩
 | _=>exact (show False from p).elim
noncomputable def tDP (K:PySem.W.Frag) (W:WX) (m:Env→M (Option Int)):TO:=fun σ H Q=>∃ ρ env h,RepS K ρ H env σ∧RepH K ρ h H∧Post K (W.at σ) (fun _ H' o=>Q o H') ρ H (m env h)
theorem PO.imp {o:Option Expr} {t t':TO} (h:PO X o t) (i:∀ σ H Q,t' σ H Q→t σ H Q):PO X o t':=fun pins s σ H Q I q=>h pins s σ H Q I (i σ H Q q)
theorem dp_no:PO X none (tDP X.K W (denP F .no)):=PO.imp L2.po_none fun σ H Q t=>by
 obtain ⟨ρ,env,h,s,r,p⟩:=t
 rw [denP] at p
 exact Post.ret p r
theorem dp_at {e:Expr} {c:CE} (he:PE X e (tD X.K W (den F c))):PO X (some e) (tDP X.K W (denP F (.at c))):=PO.imp (L2.po_some he) fun σ H Q t=>by
 obtain ⟨ρ,env,h,s,r,p⟩:=t
 rw [denP] at p
 refine ⟨ρ,env,h,s,r,Post.bind p fun ρ1 h1 d H1 e1 r1 q v hv=>?_⟩
 cases d with
 | int i=>cases hv;exact ⟨i,rfl,Post.ret (a:=some i) q r1⟩
 | _=>exact False.elim q
theorem d_sl {a:Expr} {lo hi:Option Expr} {ca:CE} {cl ch:CP} {p2 pos:Pos} (ha:PE X a (tD X.K W (den F ca))) (hl:PO X lo (tDP X.K W (denP F cl))) (hh:PO X hi (tDP X.K W (denP F ch))) :
    PE X (.Subscript a (.Slice lo hi none p2) pos) (tD X.K W (den F (.sl ca cl ch))):=PE.imp (L2.pe_slice sl_D ha hl hh) fun σ H Q t=>by
  obtain ⟨ρ,env,h,s,r,p⟩:=t
  rw [den] at p
  exact ⟨ρ,env,h,s,r,Post.bind p fun ρ1 h1 d H1 e1 r1 q v hv=>⟨ρ1,env,h1,s.mono e1,r1,Post.bind q fun ρ2 h2 l H2 e2 r2 q2=>⟨ρ2,env,h2,(s.mono e1).mono e2,r2,Post.bind q2 fun ρ3 h3 u H3 e3 r3 q3=>⟨_,ρ3,h3,d,r3,(hv.mono e2 _ _).mono e3 _ _,q3⟩⟩⟩⟩
end
end Fy
set_option Elab.async false
set_option linter.all false
set_option maxRecDepth 100000
set_option maxHeartbeats 4000000
namespace Fy
open PySem PySem.Spec PyProof.Rows
open L2 (V Hp HO VK TE TT TA TS TI Cx Inv RelV Vals SqL SqT Rd upd qAA qAB PE PT PA PS PSs EP OpR CallR IxR MtR SlR PO TO PI PG PIE Turn FpOk Ends)
noncomputable def tyS:Ty→String
 | .int=>"int" | .str=>"str" | .bool=>"bool" | .list=>"list" | .tuple=>"tuple"
section
variable (K:PySem.W.Frag)
theorem qNO (t:Ty):PySem.W.kitOne K (.type "NoneType") (.type (tyS t))=some false:=by cases t <;> first | rfl | kernel_rfl
theorem kt_bl (t:Ty):PySem.W.kitOne K (.type "bool") (.type (tyS t))=some (t == .bool || t == .int):=by cases t <;> first | rfl | kernel_rfl
theorem qNQ (t:Ty):PySem.W.kitOne K (.type "int") (.type (tyS t))=some (t == .int):=by cases t <;> first | rfl | kernel_rfl
theorem qNN (t:Ty):PySem.W.kitOne K (.type "str") (.type (tyS t))=some (t == .str):=by cases t <;> first | rfl | kernel_rfl
theorem qNM (t:Ty):PySem.W.kitOne K (.type "tuple") (.type (tyS t))=some (t == .tuple):=by cases t <;> first | rfl | kernel_rfl
theorem qNP (t:Ty):PySem.W.kitOne K (.type "list") (.type (tyS t))=some (t == .list):=by cases t <;> first | rfl | kernel_rfl
end
section
variable {X:Cx} {F:Nat→List D→M D} {W:WX}
theorem qNa {pins:List (Addr × Obj)} {σ:L2.St} {H:Hp} {s:Shared} {ρ:List Addr} {h:AH} {t:Ty} {d:D} {x:V} {u:Value} {b:Bool} {A:Around} {E:Value→Shared→Prop} {Q:Value→Shared→Prop}
    (I:Inv X pins σ H s) (r:RepH X.K ρ h H) (hd:RepV X.K ρ H d x) (rx:RelV x u) (e:isiD h t d=some b) (q:∀ tk,Q (.bool b) { s with toks:=tk }) :
    wpAny (model X.prog X.w) A (call (.builtin "isinstance") [u,.type (tyS t)]) Q E s:=by
  cases d with
  | non=>cases hd;cases e;cases (show u=Value.none from rx);exact PySem.W.kia_one PySem.W.kitx_none I.kIn True.intro (qNO _ t) (fun z=>nomatch z) q
  | bl c=>cases hd;cases e;cases (show u=Value.bool c from rx);exact PySem.W.kia_one PySem.W.kitx_bool I.kIn True.intro (kt_bl _ t) (fun z=>nomatch z) q
  | int i=>cases hd;cases e;obtain ⟨tk,z⟩:=rx;cases z;exact PySem.W.kia_one PySem.W.kitx_int I.kIn True.intro (qNQ _ t) (fun z=>nomatch z) q
  | str y=>cases hd;cases e;obtain ⟨tk,z⟩:=rx;cases z;exact PySem.W.kia_one PySem.W.kitx_str I.kIn True.intro (qNN _ t) (fun z=>nomatch z) q
  | tup ys =>
    obtain ⟨a,vs,rfl,h1,h2⟩:=hd
    cases e
    cases rx
    obtain ⟨its,_,⟨o,k1,k2,_⟩,_⟩:=I.tuple h1
    exact PySem.W.kia_one PySem.W.kitx_tuple I.kIn ⟨o,k1,k2⟩ (qNM _ t) (fun z=>nomatch z) q
  | ref i =>
    have e:(getL h i).map (fun _=>t == .list)=some b:=e
    cases z:getL h i with
    | none=>rw [z] at e;cases e
    | some ys =>
      rw [z] at e
      cases e
      obtain ⟨a,vs,rfl,h1,h2⟩:=r.seen z hd
      cases rx
      obtain ⟨its,_,pl,_⟩:=I.list h1
      obtain ⟨o,n,k1,k2,_⟩:=pl
      exact PySem.W.kia_one PySem.W.kitx_list I.kIn ⟨o,k1,k2⟩ (qNP _ t) (fun z=>nomatch z) q
noncomputable def rIsi (K:PySem.W.Frag) (t:Ty):List V→Hp→VK→Prop:=fun xs H Q=>∃ x,xs=[x,.ty (tyS t)]∧rU K (.isi t) x H Q
theorem qIH (t:Ty):CallR X (.builtin "isinstance") (rIsi X.K t):=by
 rintro pins s σ H xs us Q I rv ⟨x,rfl,w,ρ,h,d,r,hd,p⟩
 obtain ⟨u,w,rfl,ru,rw'⟩:=L2.Vals.two rv
 cases rw'
 have p:PostV X.K w Q ρ H (match isiD h t d with | some b=>.ok (.bl b) h | none=>.bad):=p
 cases e:isiD h t d with
 | none=>rw [e] at p;exact False.elim p
 | some b =>
  rw [e] at p
  exact qNa I r hd ru e fun tk=>⟨.bl b,H,I.tok tk,rfl,PostV.now p r rfl⟩
theorem d_isi {a:Expr} {ca:CE} {t:Ty} {x y:Str} {p1 p2 pos:Pos} (hx:x="isinstance") (hg:L2.Gl X x) (hm:X.mg x=none) (hgT:L2.Gl X y) (hmT:X.mg y=none) (hv:bootBuiltins y=some (.type (tyS t))) (hn:y≠"__name__") (hdb:(y == ("__debug__":Str))=false)
    (ha:PE X a (tD X.K W (den F ca))) (hst:starEach [a,.Name y p2] X.env=[(false,eval a X.env),(false,eval (.Name y p2) X.env)]):PE X (.Call (.Name x p1) [a,.Name y p2] [] pos) (tD X.K W (den F (.un (.isi t) ca))):=by
  subst hx
  refine PE.imp (L2.pe_callB (qIH t) hg hm boot_isinstance (L2.pa_cons ha (L2.pa_cons (L2.pe_bltn (v:=.ty (tyS t)) hgT hmT hv rfl hn hdb) L2.pa_nil (by rfl)) (by rw [hst];rfl)) (he:=by rw [hst];rfl)) fun σ H Q q=>?_
  obtain ⟨ρ,env,h,s,r',p⟩:=one q
  exact ⟨ρ,env,h,s,r',Post.imp p fun ρ' H' d q v hv=>⟨v,rfl,q v hv⟩⟩
theorem d_me {o:Bi} {ca cb:CE} {e:Expr} {T:String} {r:V→List V→Hp→VK→Prop} (he:PE X e (L2.tBM X.K T r (tD X.K W (den F ca)) (L2.tCons (tD X.K W (den F cb)) L2.tNil)))
    (hty:∀ ρ h d v H,RepH X.K ρ h H→RepV X.K ρ H d v→∀ h',meOk o d h=.ok () h'→h'=h∧L2.tyV X.K T v H) (hexc:∀ d h c h',meOk o d h≠.exc c h') (hr:∀ x y H Q,rB X.K o x y H Q→r x [y] H Q):PE X e (tD X.K W (den F (.me o ca cb))):=PE.imp he fun σ H Q t=>by
  obtain ⟨ρ,env,h,s,r',p⟩:=t
  rw [den] at p
  refine ⟨ρ,env,h,s,r',Post.bind p fun ρ1 h1 d H1 e1 r1 q v hv=>?_⟩
  unfold M.bind at q
  cases z:meOk o d h1 with
  | ok u h2 =>
    rw [z] at q
    obtain ⟨rfl,ty⟩:=hty ρ1 h1 d v H1 r1 hv _ z
    refine ⟨ty,ρ1,env,_,s.mono e1,r1,?_⟩
    exact Post.bind q fun ρ2 h2 d2 H2 e2 r2 q2 w hw=>hr v w H2 Q ⟨_,ρ2,h2,d,d2,r2,hv.mono e2 _ _,hw,q2⟩
  | exc c h2=>exact absurd z (hexc _ _ _ _)
  | bad=>rw [z] at q;exact False.elim q
theorem qCV (o:Bi) (d:D) (h:AH) (c:Nat) (h':AH):meOk o d h≠.exc c h':=by
 unfold meOk
 intro z
 split at z
 all_goals first | cases z | (split at z <;> cases z)
theorem qJW {a b:Expr} {ca cb:CE} {x:Str} {apos cpos:Pos} (hx:x="append") (ha:PE X a (tD X.K W (den F ca))) (hb:PE X b (tD X.K W (den F cb))) (hbase:attributeBase a x X.env (eval a X.env)=eval a X.env) (hline:(apos.endLine == cpos.line)=true)
    (hst:starEach [b] X.env=[(false,eval b X.env)]):PE X (.Call (.Attribute a x apos) [b] [] cpos) (tD X.K W (den F (.me .append ca cb))):=by
  subst hx
  refine d_me (L2.pe_bm PySem.F.plainAttrs_list PySem.F.slot_list_append PySem.F.type_list_append L2.mt_append ha (L2.pa_cons hb L2.pa_nil (by rw [hst];rfl)) hbase (by rw [hst];rfl) hline (by rw [hst];rfl)) (fun ρ h d v H r hv h' z=>?_) (qCV _) (fun x y H Q z=>?_)
  · cases d with
    | ref i =>
      have z:(match getL h i with | some _=>R.ok () h | none=>.bad)=.ok () h':=z
      cases e:getL h i with
      | none=>rw [e] at z;cases z
      | some xs =>
        rw [e] at z
        cases z
        obtain ⟨a,vs,rfl,h1,_⟩:=r.seen e hv
        exact ⟨rfl,.inl ⟨rfl,vs,h1⟩⟩
    | _=>cases z
  · obtain ⟨w,ρ,h,d,e,r,hd,he,p⟩:=z
    cases d with
    | ref k =>
      have p:PostV X.K w Q ρ H (match h[k]? with | some (.lst xs)=>if xs.length<16777216 then .ok .non (h.set k (.lst (xs++[e]))) else .bad | _=>.bad):=p
      split at p
      · rename_i xs q
        obtain ⟨hz,p⟩:=PostV.ite p
        obtain ⟨a,vs,rfl,ha,hH,hl⟩:=r.own q hd
        refine ⟨a,vs,y,rfl,rfl,hH,by rw [hl.length,szEq];exact hz,?_⟩
        have hl':RepL X.K ρ H (xs++[e]) (vs++[y]):=hl.append ⟨y,[],rfl,he,rfl⟩
        exact p ρ _ (Step.turn hH rfl (List.mem_of_getElem? ha)) (r.setList q ha hH hl') _ rfl
      · exact False.elim p
    | _=>exact (show False from p).elim
theorem qDp {K:PySem.W.Frag} {ρ:List Addr} {H:Hp}:∀ {ds:List D} {vs:List V} {ns:List Int},qAO ds=some ns→RepL K ρ H ds vs→vs=ns.map V.int
 | [],_,_,e,h=>by cases e;cases h;rfl
 | d::ds,_,ns,e,⟨v,vs,hv,h1,h2⟩=>by
  subst hv
  cases d with
  | int b =>
   unfold qAO at e
   cases q:qAO ds with
   | none=>rw [q] at e;cases e
   | some cs =>
    rw [q] at e
    cases e
    cases h1
    rw [List.map_cons,qDp q h2]
  | _=>cases e
theorem qHk (a:Int) (ns:List Int):L2.inV (.int a) (ns.map V.int)=ns.contains a:=by
 unfold L2.inV
 rw [List.any_map,List.contains_eq_any_beq]
 congr 1
 funext i
 show L2.eqV (.int i) (.int a)=(a == i)
 rw [Bool.eq_iff_iff]
 simp [L2.eqV]
 exact eq_comm
theorem qEb (ns:List Int):(ns.map V.int).all L2.flatV=true:=by
 rw [List.all_map,List.all_eq_true]
 intro _ _
 rfl
theorem qEu {f:D→Option Bool}:∀ {xs:List D} {b:Bool},anyD f xs=some b→∃ g:Nat→Bool,(∀ k (hk:k<xs.length),f xs[k]=some (g k))∧(b=true↔∃ k,k<xs.length∧g k=true)
 | [],b,h=>by cases h;exact ⟨fun _=>false,fun k hk=>absurd hk (Nat.not_lt_zero k),by simp⟩
 | x::xs,b,h=>by
  unfold anyD at h
  cases q:f x with
  | none=>rw [q] at h;cases h
  | some a =>
   cases z:anyD f xs with
   | none=>rw [q,z] at h;cases h
   | some c =>
    rw [q,z] at h
    cases h
    obtain ⟨g,h1,h2⟩:=qEu z
    refine ⟨fun k=>match k with | 0=>a | k+1=>g k,fun k hk=>?_,?_⟩
    ·cases k with
     | zero=>exact q
     | succ k=>exact h1 k (by simpa using hk)
    ·rw [Bool.or_eq_true,h2]
     constructor
     ·rintro (z | ⟨k,k1,k2⟩)
      ·exact ⟨0,by simp,z⟩
      ·exact ⟨k+1,by simpa using k1,k2⟩
     ·rintro ⟨k,k1,k2⟩
      cases k with
      | zero=>exact .inl k2
      | succ k=>exact .inr ⟨k,by simpa using k1,k2⟩
open Classical in
theorem qNd {pins:List (Addr × Obj)} {s:Shared} {σ:L2.St} {H:Hp} {ρ:List Addr} {h:AH} (I:Inv X pins σ H s) (r:RepH X.K ρ h H) (hu:X.A.units+64<cLine) {a:Addr} {vs:List V} {ds:List D} {d:D} {x:V} {v u:Value} {b:Bool} {Q:VK} (h1:SqL X.K H a vs) (h2:RepL X.K ρ H ds vs) (hd:RepV X.K ρ H d x) (rx:RelV x v) (ry:RelV (.ref a) u)
    (qb:anyD (fun x=>eqTop h x d) ds=some b) (p:Q (.bl b) H):wpAny (model X.prog X.w) X.A (compareOp .In v u) (L2.EP X pins σ Q) X.xe s:=by
  cases ry
  obtain ⟨its,rr,pl,hz⟩:=I.list h1
  obtain ⟨g,g1,g2⟩:=qEu qb
  have l1:=rr.length
  have l2:=h2.length
  have at':∀ k (hk:k<its.length),SeqAt.EqAt X.A.in1 s its[k] v (g k):=fun k hk=>by
    have q1:ds[k]?=some (ds[k]'(by omega)):=by simp
    obtain ⟨w1,p1,p2⟩:=h2.get q1
    obtain ⟨u1,p5,p6⟩:=rr.get p1
    have f1:its[k]'hk=u1:=by
      have:its[k]?=some (its[k]'hk):=by simp
      rw [this] at p5
      simpa using p5
    rw [f1]
    exact eqOf I r 40 (eqAtD I r 40) _ d _ w1 x u1 v X.A.in1 (g1 k (by omega)) p2 hd p6 rx (by show X.A.units+1+40<cLine;omega)
  refine SeqAt.in_listAt (fun w=>decide (∃ k,∃ hk:k<its.length,its[k]=w∧g k=true)) pl.isList (fun w hw=>?_) ⟨.bl b,H,I,?_,p⟩
  · by_cases z:∃ k,∃ hk:k<its.length,its[k]=w∧g k=true
    · rw [decide_eq_true z]
      obtain ⟨k,hk,rfl,e⟩:=z
      have:=at' k hk
      rw [e] at this
      exact this
    · rw [decide_eq_false z]
      obtain ⟨k,hk,rfl⟩:=List.mem_iff_getElem.mp (show w∈its by simpa using hw)
      have:=at' k hk
      rw [show g k=false from Bool.eq_false_iff.mpr fun e=>z ⟨k,hk,rfl,e⟩] at this
      exact this
  · show Value.bool _=Value.bool _
    congr 1
    rw [Bool.eq_iff_iff,g2]
    simp only [List.any_toArray,List.any_eq_true,decide_eq_true_eq]
    constructor
    · rintro ⟨w,hw,k,hk,_,e⟩
      exact ⟨k,by omega,e⟩
    · rintro ⟨k,hk,e⟩
      exact ⟨its[k]'(by omega),List.getElem_mem _,k,by omega,rfl,e⟩
theorem qGn {K:PySem.W.Frag} {ρ:List Addr} {H:Hp}:∀ {ds:List D} {vs:List V} {ns:List Tx},qAW ds=some ns→RepL K ρ H ds vs→vs=ns.map fun y=>V.str ⟨y.toArray⟩
 | [],_,_,e,h=>by cases e;cases h;rfl
 | d::ds,_,ns,e,⟨v,vs,hv,h1,h2⟩=>by
  subst hv
  cases d with
  | str b =>
   unfold qAW at e
   cases q:qAW ds with
   | none=>rw [q] at e;cases e
   | some cs =>
    rw [q] at e
    cases e
    cases h1
    rw [List.map_cons,qGn q h2]
  | _=>cases e
theorem qLT (a:Tx) (ns:List Tx):L2.inV (.str ⟨a.toArray⟩) (ns.map fun y=>V.str ⟨y.toArray⟩)=ns.contains a:=by
 unfold L2.inV
 rw [List.any_map,List.contains_eq_any_beq]
 congr 1
 funext i
 show L2.eqV (.str ⟨i.toArray⟩) (.str ⟨a.toArray⟩)=(a == i)
 rw [Bool.eq_iff_iff]
 simp [L2.eqV]
 exact eq_comm
theorem qHq (ns:List Tx):(ns.map fun y=>V.str ⟨y.toArray⟩).all L2.flatV=true:=by
 rw [List.all_map,List.all_eq_true]
 intro _ _
 rfl
theorem qM0 (hu:X.A.units+64<cLine):OpR X (compareOp .In) (rB X.K .isin):=by
 rintro pins s σ H x y v u Q I rx ry ⟨w,ρ,h,d,e,r,hd,he,p⟩
 cases d with
 | str a =>
  cases e with
  | str b =>
   cases hd;cases he
   match a,p,rx with
   | [c],p,rx =>
    obtain ⟨t,rfl⟩:=rx
    obtain ⟨t',rfl⟩:=ry
    refine PyProof.Rows.in_str ?_
    refine ⟨.bl (b.contains c),H,I,?_,PostV.now (h:=h) p r rfl⟩
    show Value.bool _=Value.bool _
    have e1:(⟨[c].toArray⟩:Str)=⟨#[c]⟩:=rfl
    rw [e1,PySem.StrLaws.found_one]
    congr 1
    rw [Bool.eq_iff_iff]
    simp
   | [],p,_=>exact (show False from p).elim
   | _::_::_,p,_=>exact (show False from p).elim
  | tup ds =>
   have p:PostV X.K w Q ρ H (match qAW ds with | some ys=>.ok (.bl (ys.contains a)) h | none=>.bad):=p
   cases q:qAW ds with
   | none=>rw [q] at p;exact False.elim p
   | some ys =>
    rw [q] at p
    obtain ⟨l,vs,rfl,h1,h2⟩:=he
    have hv:=qGn q h2
    subst hv
    cases hd
    refine L2.op_in_seq pins s σ H _ _ v u Q I rx ry ⟨l,_,rfl,.inr h1,rfl,qHq ys,?_⟩
    show Q (.bl (L2.inV (.str ⟨a.toArray⟩) (ys.map fun y=>V.str ⟨y.toArray⟩))) H
    rw [qLT]
    exact PostV.now (h:=h) p r rfl
  | _=>exact (show False from p).elim
 | int c =>
  cases e with
  | ref i =>
   have p:PostV X.K w Q ρ H (match (getL h i).bind qAO with | some xs=>.ok (.bl (xs.contains c)) h | none=>hasK i (.int c) h):=p
   cases q1:(getL h i).bind qAO with
   | none=>rw [q1] at p;exact in_K (ky:=.int c) I r hd he rx ry p
   | some ns =>
    rw [q1] at p
    cases q:getL h i with
    | none=>rw [q] at q1;cases q1
    | some ds =>
     rw [q] at q1
     obtain ⟨a,vs,rfl,h1,h2⟩:=r.seen q he
     have hv:=qDp q1 h2
     subst hv
     cases hd
     refine L2.op_in_seq pins s σ H _ _ v u Q I rx ry ⟨a,_,rfl,.inl h1,rfl,qEb ns,?_⟩
     show Q (.bl (L2.inV (.int c) (ns.map V.int))) H
     rw [qHk]
     exact PostV.now (h:=h) p r rfl
  | _=>exact (show False from p).elim
 | tup as =>
  cases e with
  | ref i =>
   have p:PostV X.K w Q ρ H (match (getL h i).bind (anyD fun x=>eqTop h x (.tup as)) with | some b=>.ok (.bl b) h | none=>.bad):=p
   cases q:getL h i with
   | none=>rw [q] at p;exact False.elim p
   | some ds =>
    rw [q] at p
    have p:PostV X.K w Q ρ H (match anyD (fun x=>eqTop h x (.tup as)) ds with | some b=>.ok (.bl b) h | none=>.bad):=p
    cases qb:anyD (fun x=>eqTop h x (.tup as)) ds with
    | none=>rw [qb] at p;exact False.elim p
    | some b =>
     rw [qb] at p
     obtain ⟨a,vs,rfl,h1,h2⟩:=r.seen q he
     exact qNd I r hu h1 h2 hd rx ry qb (PostV.now (h:=h) p r rfl)
  | _=>exact (show False from p).elim
 | _=>exact (show False from p).elim
theorem qG7:OpR X (compareOp .NotIn) (rB X.K .notin):=by
 rintro pins s σ H x y v u Q I rx ry ⟨w,ρ,h,d,e,r,hd,he,p⟩
 cases d with
 | str a =>
  cases e with
  | str b =>
   cases hd;cases he
   match a,p,rx with
   | [c],p,rx =>
    obtain ⟨t,rfl⟩:=rx
    obtain ⟨t',rfl⟩:=ry
    refine PyProof.Rows.notIn_str ?_
    refine ⟨.bl (!b.contains c),H,I,?_,PostV.now (h:=h) p r rfl⟩
    show Value.bool _=Value.bool _
    have e1:(⟨[c].toArray⟩:Str)=⟨#[c]⟩:=rfl
    rw [e1,PySem.StrLaws.found_one]
    congr 2
    rw [Bool.eq_iff_iff]
    simp
   | [],p,_=>exact (show False from p).elim
   | _::_::_,p,_=>exact (show False from p).elim
  | _=>exact (show False from p).elim
 | int c =>
  cases e with
  | ref i =>
   have p:PostV X.K w Q ρ H (match (getL h i).bind qAO with | some xs=>.ok (.bl (!xs.contains c)) h | none=>.bad):=p
   cases q:getL h i with
   | none=>rw [q] at p;exact False.elim p
   | some ds =>
    rw [q] at p
    have p:PostV X.K w Q ρ H (match qAO ds with | some xs=>.ok (.bl (!xs.contains c)) h | none=>.bad):=p
    cases qb:qAO ds with
    | none=>rw [qb] at p;exact False.elim p
    | some ns =>
     rw [qb] at p
     obtain ⟨a,vs,rfl,h1,h2⟩:=r.seen q he
     have hv:=qDp qb h2
     subst hv
     cases hd
     refine L2.op_notIn_seq pins s σ H _ _ v u Q I rx ry ⟨a,_,rfl,.inl h1,rfl,qEb ns,?_⟩
     show Q (.bl (!L2.inV (.int c) (ns.map V.int))) H
     rw [qHk]
     exact PostV.now (h:=h) p r rfl
  | _=>exact (show False from p).elim
 | _=>exact (show False from p).elim
theorem qEk {K:PySem.W.Frag} {ρ:List Addr} {H:Hp}:∀ {ds:List D} {vs:List V} {us:List Value} {bs:List Bool},qAj ds=some bs→RepL K ρ H ds vs→Vals vs us→LSm.BoolsAre us bs
 | [],_,_,_,e,h,r=>by
  cases e
  cases h
  cases r
  exact .nil
 | d::ds,_,us,bs,e,⟨v,vs,hv,h1,h2⟩,r=>by
  subst hv
  cases d with
  | bl b =>
   unfold qAj at e
   cases q:qAj ds with
   | none=>rw [q] at e;cases e
   | some cs =>
    rw [q] at e
    cases e
    cases h1
    cases r with
    | cons r1 r2 =>
     cases r1
     exact .cons b (qEk q h2 r2)
  | _=>cases e
theorem qIK (hc:X.calm=true):CallR X (.builtin "all") (rC X.K .all):=by
 rintro pins s σ H xs us Q I rv ⟨x,rfl,w,ρ,h,d,r,hd,p⟩
 cases d with
 | ref i =>
  have p:PostV X.K w Q ρ H (match (getL h i).bind allB with | some b=>.ok (.bl b) h | none=>.bad):=p
  cases q:getL h i with
  | none=>rw [q] at p;exact False.elim p
  | some ds =>
   rw [q] at p
   have p:PostV X.K w Q ρ H (match (qAj ds).map (·.all id) with | some b=>.ok (.bl b) h | none=>.bad):=p
   cases qb:qAj ds with
   | none=>rw [qb] at p;exact False.elim p
   | some bs =>
    rw [qb] at p
    obtain ⟨a,vs,rfl,h1,h2⟩:=r.seen q hd
    obtain ⟨u,rfl,ru⟩:=L2.Vals.one rv
    cases ru
    obtain ⟨its,rv',pl,hz⟩:=I.list h1
    have hb:=qEk qb h2 rv'
    have hl:=pl.isList
    have hlt:a<s.heap.objs.size:=by obtain ⟨_,e,_⟩:=hl;exact Heap.lt_size e
    refine PySem.call_all_walk (wpAny_pyIter_list hl ?_)
    refine ⟨s.heap.objs.size,[s.heap.objs.size,a],[s.heap.objs.size],its.toArray.size,_,_,fun i=>(bs[i]?).getD true,rfl,Walks.list (A:=X.A.in1) (I.ok.hd hc) _ a (Nat.ne_of_lt hlt) its.toArray,
     ⟨⟨_,Heap.get?_push_size _ rfl,rfl,rfl⟩,hl.push _⟩,fun i v s' Q' E' hP hQ=>?_,fun h' tk hk=>?_⟩
    ·obtain ⟨b,e,rfl⟩:=hb.get i v (by simpa using hP)
     simp only [e,Option.getD_some] at hQ
     exact wpAny_truthy_bool hQ
    ·have e:((List.range its.toArray.size).all fun i=>(bs[i]?).getD true)=bs.all id:=by
      rw [show its.toArray.size=bs.length by simpa using hb.length]
      exact LSm.range_all bs
     rw [e]
     exact ⟨.bl (bs.all id),H,I.kept (t':=tk) (LSm.kept_iter hk),rfl,PostV.now p r rfl⟩
 | _=>exact (show False from p).elim
end
end Fy
set_option Elab.async false
set_option linter.all false
set_option maxRecDepth 100000
set_option maxHeartbeats 4000000
namespace Fy
open PySem PySem.Spec PyProof.Rows
open L2 (V Hp HO VK TE TT TA TS TI Cx Inv RelV Vals SqL SqT Rd upd qAA qAB PE PT PA PS PSs EP OpR CallR IxR MtR SlR PO TO)
section
variable {K:PySem.W.Frag} {ρ:List Addr} {H:Hp}
theorem RepK.drop (k:Ky):∀ {kvs:List (Ky × D)} {vs:List (L2.Key × V)},RepK K ρ H kvs vs→RepK K ρ H (dropY kvs k) (L2.dropK vs (kyV k))
 | [],_,h=>by cases h;rfl
 | x::kvs,_,⟨v,r,rfl,h1,h2⟩=>by
  unfold dropY L2.dropK
  by_cases e:x.1=k
  ·rw [List.filter_cons_of_neg (by simpa using e),List.filter_cons_of_neg (by simpa using kyV_inj.mpr e)]
   exact RepK.drop k h2
  ·rw [List.filter_cons_of_pos (by simpa using e),List.filter_cons_of_pos (by simpa using fun z=>e (kyV_inj.mp z))]
   exact ⟨v,_,rfl,h1,RepK.drop k h2⟩
end
section
variable {prog:Program} {w:World} {K:Type} [DecidableEq K] {knd:KeyKind prog w K} {A:Around} {E:Value→Shared→Prop} {s:Shared}
end
section
variable {prog:Program} {w:World} {K:Type} [DecidableEq K]
end
section
variable {X:Cx} {F:Nat→List D→M D} {W:WX}
theorem qLb {ρ:List Addr} {h h':AH} {d:D} {v:V} {H:Hp} (r:RepH X.K ρ h H) (hv:RepV X.K ρ H d v) (z:meOk .get d h=.ok () h'):h'=h∧L2.tyV X.K "dict" v H:=by
 cases d with
 | ref i =>
  have z:(match h[i]? with | some (.dct _)=>R.ok () h | _=>.bad)=.ok () h':=z
  split at z
  ·rename_i kvs q
   cases z
   obtain ⟨a,vs,rfl,_,h1,_⟩:=r.dict q hv
   exact ⟨rfl,.inr (.inr (.inl ⟨rfl,.inl ⟨vs,h1⟩⟩))⟩
  ·cases z
 | _=>cases z
theorem qNv {a b c:Expr} {ca cb cc:CE} {x:Str} {apos cpos:Pos} (hx:x="get") (ha:PE X a (tD X.K W (den F ca))) (hb:PE X b (tD X.K W (den F cb))) (hc:PE X c (tD X.K W (den F cc))) (hbase:attributeBase a x X.env (eval a X.env)=eval a X.env) (hline:(apos.endLine == cpos.line)=true)
    (hst:starEach [b,c] X.env=[(false,eval b X.env),(false,eval c X.env)]) (hst2:starEach [c] X.env=[(false,eval c X.env)]):PE X (.Call (.Attribute a x apos) [b,c] [] cpos) (tD X.K W (den F (.getd ca cb cc))):=by
  subst hx
  have mt:L2.MtR X "dict.get" fun x ys H Q=>∃ (y z:V) (w:W1) (ρ:List Addr) (h:AH) (d e f:D),ys=[y,z]∧RepH X.K ρ h H∧RepV X.K ρ H d x∧RepV X.K ρ H e y∧RepV X.K ρ H f z∧PostV X.K w Q ρ H (getdD d e f h):=by
    rintro pins s σ H x vs v us Q I rx rv ⟨y,z,w,ρ,h,d,e,f,rfl,r,hd,he,hf,p⟩
    obtain ⟨u,u2,rfl,ru,ru2⟩:=L2.Vals.two rv
    cases d with
    | ref k =>
      cases e with
      | int i =>
        have p:PostV X.K w Q ρ H (match h[k]? with | some (.dct kvs)=>.ok ((valY kvs (.int i)).getD f) h | _=>.bad):=p
        split at p
        · rename_i kvs q
          obtain ⟨a,ws,rfl,ha',hH,hk⟩:=r.dict q hd
          cases rx
          cases he
          obtain ⟨z0,hd',os,rel,dd⟩:=L2.dk_rd I.hok (.inl hH)
          have ry:RelV (L2.kV (.inl i)) u:=ru
          refine call_meetsIn PySem.F.slot_dict_get dd.typeIs PySem.F.entry_dict_get (PySem.F.args_dict_get_3 _ _ _) (meets_dict_get_default (L2.mixKind X.prog X.w) a (L2.kV_is ry) hd' u2) ⟨_,dd.mapOf,?_⟩
          have gv:=(rel.val (.inl i)).getD (d:=z) (d':=u2) ru2
          rcases hk.val (.int i) with ⟨d,v',e1,e2,hv⟩ | ⟨e1,e2⟩
          · rw [e1] at p
            have e2:L2.valV ws (Sum.inl i)=some v':=e2
            rw [e2] at gv
            exact ⟨v',H,I.tok _,gv,PostV.now p r hv⟩
          · rw [e1] at p
            have e2:L2.valV ws (Sum.inl i)=none:=e2
            rw [e2] at gv
            exact ⟨z,H,I.tok _,gv,PostV.now p r hf⟩
        · exact False.elim p
      | _=>exact (show False from p).elim
    | _=>exact (show False from p).elim
  refine PE.imp (L2.pe_bm PySem.F.plainAttrs_dict PySem.F.slot_dict_get PySem.F.type_dict_get mt ha (L2.pa_cons hb (L2.pa_cons hc L2.pa_nil (by rw [hst2];rfl)) (by rw [hst,hst2])) hbase (by rw [hst];rfl) hline (by rw [hst,hst2]) (by rw [hst2];rfl)) fun σ H Q t=>?_
  obtain ⟨ρ,env,h,s,r',p⟩:=t
  rw [den] at p
  refine ⟨ρ,env,h,s,r',Post.bind p fun ρ1 h1 d H1 e1 r1 q v hv=>?_⟩
  unfold M.bind at q
  cases z:meOk .get d h1 with
  | ok u h2 =>
    rw [z] at q
    obtain ⟨rfl,ty⟩:=qLb r1 hv z
    refine ⟨ty,ρ1,env,_,s.mono e1,r1,?_⟩
    exact Post.bind q fun ρ2 h2 d2 H2 e2 r2 q2 w hw=>⟨ρ2,env,h2,(s.mono e1).mono e2,r2,Post.bind q2 fun ρ3 h3 d3 H3 e3 r3 q3 w3 hw3=>⟨w,w3,_,ρ3,h3,d,d2,d3,rfl,r3,(hv.mono e2 _ _).mono e3 _ _,hw.mono e3 _ _,hw3,q3⟩⟩
  | exc c h2=>exact absurd z (qCV _ _ _ _ _)
  | bad=>rw [z] at q;exact False.elim q
theorem RepL.rev {K:PySem.W.Frag} {ρ:List Addr} {H:Hp}:∀ {xs:List D} {vs:List V},RepL K ρ H xs vs→RepL K ρ H xs.reverse vs.reverse
 | [],_,h=>by cases h;rfl
 | x::xs,_,⟨v,r,rfl,h1,h2⟩=>by
  rw [List.reverse_cons,List.reverse_cons]
  exact (RepL.rev h2).append ⟨v,[],rfl,h1,rfl⟩
end
end Fy
set_option Elab.async false
set_option linter.all false
set_option maxRecDepth 100000
set_option maxHeartbeats 4000000
namespace Fy
open PySem PySem.Spec PyProof.Rows
open L2 (V Hp HO VK TE TT TA TS TI Cx Inv RelV Vals SqL SqT Rd upd qAA qAB PE PT PA PS PSs EP OpR CallR IxR MtR SlR PO TO)
section
open PySem.Builtin PySem.Builtin.Str
end
section
variable {K:PySem.W.Frag} {ρ:List Addr} {H:Hp}
end
section
variable {X:Cx} {F:Nat→List D→M D} {W:WX}
end
end Fy
set_option Elab.async false
set_option linter.all false
set_option maxRecDepth 100000
set_option maxHeartbeats 4000000
namespace Fy
open PySem PySem.Spec PyProof.Rows
open L2 (V Hp HO VK TE TT TA TS TI Cx Inv RelV Vals SqL SqT Rd upd qAA qAB PE PT PA PS PSs EP OpR CallR IxR MtR SlR PO TO)
section
variable {X:Cx} {F:Nat→List D→M D} {W:WX}
theorem qNt {a b:Expr} {ca cb:CE} {x:Str} {apos cpos:Pos} (hx:x="pop") (ha:PE X a (tD X.K W (den F ca))) (hb:PE X b (tD X.K W (den F cb))) (hbase:attributeBase a x X.env (eval a X.env)=eval a X.env) (hline:(apos.endLine == cpos.line)=true)
    (hst:starEach [b] X.env=[(false,eval b X.env)]):PE X (.Call (.Attribute a x apos) [b] [] cpos) (tD X.K W (den F (.me .lpop ca cb))):=by
  subst hx
  refine d_me (L2.pe_bm PySem.F.plainAttrs_list PySem.F.slot_list_pop PySem.F.type_list_pop L2.mt_popAt ha (L2.pa_cons hb L2.pa_nil (by rw [hst];rfl)) hbase (by rw [hst];rfl) hline (by rw [hst];rfl)) (fun ρ h d v H r hv h' z=>?_) (qCV _) (fun x y H Q z=>?_)
  · cases d with
    | ref i =>
      have z:(match getL h i with | some _=>R.ok () h | none=>.bad)=.ok () h':=z
      cases e:getL h i with
      | none=>rw [e] at z;cases z
      | some xs =>
        rw [e] at z
        cases z
        obtain ⟨a,vs,rfl,h1,_⟩:=r.seen e hv
        exact ⟨rfl,.inl ⟨rfl,vs,h1⟩⟩
    | _=>cases z
  · obtain ⟨w,ρ,h,d,e,r,hd,he,p⟩:=z
    cases d with
    | ref k =>
      cases e with
      | int i =>
        have p:PostV X.K w Q ρ H (match h[k]? with | some (.lst xs)=>(if xs.length≤16777216 then (match ixN xs.length i with | some j=>(match xs[j]? with | some d=>.ok d (h.set k (.lst (xs.eraseIdx j))) | none=>.bad) | none=>.bad) else .bad) | _=>.bad):=p
        split at p
        · rename_i xs q
          obtain ⟨hz,p⟩:=PostV.ite p
          cases e1:ixN xs.length i with
          | none=>rw [e1] at p;exact False.elim p
          | some j =>
            rw [e1] at p
            have p:PostV X.K w Q ρ H (match xs[j]? with | some d=>.ok d (h.set k (.lst (xs.eraseIdx j))) | none=>.bad):=p
            cases e2:xs[j]? with
            | none=>rw [e2] at p;exact False.elim p
            | some dd =>
              rw [e2] at p
              obtain ⟨a,vs,rfl,ha,hH,hl⟩:=r.own q hd
              obtain ⟨u,hu,hv⟩:=hl.get e2
              have e1:L2.ixN vs.length i=some j:=by rw [hl.length];exact e1
              obtain ⟨s1,s2,s3,s4⟩:=L2.ixN_seq e1
              have len:=hl.length
              cases he
              have hl':RepL X.K ρ H (xs.eraseIdx j) (vs.eraseIdx j):=by
                rw [List.eraseIdx_eq_take_drop_succ,List.eraseIdx_eq_take_drop_succ]
                exact (hl.take _).append (hl.drop _)
              have stp:Step ρ H ρ (upd H a (.lst (vs.eraseIdx j))):=Step.turn hH rfl (List.mem_of_getElem? ha)
              exact ⟨a,vs,i,j,u,rfl,rfl,hH,by omega,by omega,s1,hu,p ρ _ stp (r.setList q ha hH hl') u (hv.mono stp _ _)⟩
        · exact False.elim p
      | _=>exact (show False from p).elim
    | _=>exact (show False from p).elim
end
end Fy
set_option Elab.async false
set_option linter.all false
set_option maxRecDepth 100000
set_option maxHeartbeats 4000000
namespace Fy
open PySem PySem.Spec PyProof.Rows
open L2 (V Hp HO VK TE TT TA TS TI Cx Inv RelV Vals SqL SqT Rd upd qAA qAB PE PT PA PS PSs EP OpR CallR IxR MtR SlR PO TO PI PG PIE Turn FpOk Ends)
section
variable {X:Cx} {F:Nat→List D→M D} {W:WX}
theorem qFe {K:PySem.W.Frag} {ρ:List Addr} {H:Hp}:∀ {ds:List D} {vs:List V} {us:List Value} {xs:List Tx},qAW ds=some xs→RepL K ρ H ds vs→Vals vs us→∃ l:List (Str × Tok),us=strValues l∧l.map (·.1)=xs.map fun x=>⟨x.toArray⟩
 | [],_,_,_,e,h,r=>by
  cases e
  cases h
  cases r
  exact ⟨[],rfl,rfl⟩
 | d::ds,_,us,bs,e,⟨v,vs,hv,h1,h2⟩,r=>by
  subst hv
  cases d with
  | str b =>
   unfold qAW at e
   cases q:qAW ds with
   | none=>rw [q] at e;cases e
   | some cs =>
    rw [q] at e
    cases e
    cases h1
    cases r with
    | cons r1 r2 =>
     obtain ⟨t,rfl⟩:=r1
     obtain ⟨l,rfl,e2⟩:=qFe q h2 r2
     exact ⟨(⟨b.toArray⟩,t)::l,rfl,by rw [List.map_cons,List.map_cons,e2]⟩
  | _=>cases e
theorem qHb (z:Tx):∀ xs:List Tx,Str.join ⟨z.toArray⟩ (xs.map fun x=>⟨x.toArray⟩)=⟨(joinT z xs).toArray⟩
 | []=>rfl
 | [x]=>rfl
 | x::y::r=>by
  have ih:=qHb z (y::r)
  show (⟨x.toArray⟩:Str)++⟨z.toArray⟩++Str.join ⟨z.toArray⟩ ((y::r).map fun x=>⟨x.toArray⟩)=_
  rw [ih,qEy,qEy]
  rfl
theorem qNu {a b:Expr} {ca cb:CE} {x:Str} {apos cpos:Pos} (hx:x="join") (ha:PE X a (tD X.K W (den F ca))) (hb:PE X b (tD X.K W (den F cb))) (hbase:attributeBase a x X.env (eval a X.env)=eval a X.env) (hline:(apos.endLine == cpos.line)=true)
    (hst:starEach [b] X.env=[(false,eval b X.env)]):PE X (.Call (.Attribute a x apos) [b] [] cpos) (tD X.K W (den F (.me .join ca cb))):=by
  subst hx
  have mt:L2.MtR X "str.join" fun x ys H Q=>∃ y,ys=[y]∧rB X.K .join x y H Q:=by
    rintro pins s σ H x ys v us Q I rx rv ⟨y,rfl,w,ρ,h,d,e,r,hd,he,p⟩
    obtain ⟨u,rfl,ru⟩:=L2.Vals.one rv
    cases d with
    | str z =>
      cases e with
      | ref i =>
        cases hd
        have p:PostV X.K w Q ρ H (match (getL h i).bind qAW with | some xs=>if joinN z xs≤16777216 then .ok (.str (joinT z xs)) h else .bad | none=>.bad):=p
        cases q:getL h i with
        | none=>rw [q] at p;exact False.elim p
        | some ds =>
          rw [q] at p
          cases qs:qAW ds with
          | none =>
            have p:PostV X.K w Q ρ H (match qAW ds with | some xs=>if joinN z xs≤16777216 then .ok (.str (joinT z xs)) h else .bad | none=>.bad):=p
            rw [qs] at p;exact False.elim p
          | some xs =>
            have p:PostV X.K w Q ρ H (match qAW ds with | some xs=>if joinN z xs≤16777216 then .ok (.str (joinT z xs)) h else .bad | none=>.bad):=p
            rw [qs] at p
            obtain ⟨hz,p⟩:=PostV.ite (c:=joinN z xs≤16777216) p
            obtain ⟨a',vs,rfl,h1,h2⟩:=r.seen q he
            cases ru
            obtain ⟨t,rfl⟩:=rx
            obtain ⟨its,rv',pl,_⟩:=I.list h1
            obtain ⟨l,rfl,el⟩:=qFe qs h2 rv'
            refine PySem.SC.join (l:=l) (texts:=xs.map fun x=>⟨x.toArray⟩) pl.isList el ?_ fun t2 k=>?_
            · unfold JoinOk
              rw [PySem.StrLaws.joinTotal,Bool.not_eq_true']
              refine decide_eq_false ?_
              rw [szEq,List.map_map,List.length_map,qAb]
              unfold joinN at hz
              have:(xs.map ((fun p:Str=>p.length) ∘ fun x=>(⟨x.toArray⟩:Str)))=xs.map List.length:=List.map_congr_left fun x _=>qAb x
              rw [this]
              omega
            · have e:Txt.join ⟨z.toArray⟩ (xs.map fun x=>⟨x.toArray⟩)=⟨(joinT z xs).toArray⟩:=by
                unfold Txt.join
                rw [PySem.StrLaws.glued_eq_join,qHb]
              rw [e]
              exact ⟨.str ⟨(joinT z xs).toArray⟩,H,I.tok _,⟨_,rfl⟩,PostV.now p r rfl⟩
      | _=>exact (show False from p).elim
    | _=>exact (show False from p).elim
  refine d_me (L2.pe_bm PySem.F.plainAttrs_str PySem.F.slot_str_join PySem.F.type_str_join mt ha (L2.pa_cons hb L2.pa_nil (by rw [hst];rfl)) hbase (by rw [hst];rfl) hline (by rw [hst];rfl)) (fun ρ h d v H r hv h' z=>?_) (qCV _) (fun x y H Q z=>⟨y,rfl,z⟩)
  cases d with
  | str y=>cases z;cases hv;exact ⟨rfl,rfl⟩
  | _=>cases z
end
end Fy
set_option Elab.async false
set_option linter.all false
set_option maxRecDepth 100000
set_option maxHeartbeats 4000000
namespace Fy
open PySem PySem.Spec PyProof.Rows
open L2 (V Hp HO VK TE TT TA TS TI Cx Inv RelV Vals SqL SqT Rd upd qAA qAB PE PT PA PS PSs EP OpR CallR IxR MtR SlR PO TO PI PG PIE Turn FpOk Ends thn)
section
variable {X:Cx} {F:Nat→List D→M D} {W:WX}
end
end Fy
set_option Elab.async false
set_option linter.all false
set_option maxRecDepth 100000
set_option maxHeartbeats 4000000
namespace Fy
open PySem PySem.Spec PyProof.Rows
open L2 (V Hp HO VK TE TT TA TS TI Cx Inv RelV Vals SqL SqT Rd upd qAA qAB PE PT PA PS PSs EP OpR CallR IxR MtR SlR PO TO)
section
variable {X:Cx} {F:Nat→List D→M D} {W:WX}
end
end Fy
set_option Elab.async false
set_option linter.all false
set_option maxRecDepth 100000
set_option maxHeartbeats 4000000
namespace Fy
open PySem PySem.Spec PyProof.Rows
open L2 (V Hp HO VK TE TT TA TS TI Cx Inv RelV Vals SqL SqT Rd upd qAA qAB PE PT PA PS PSs EP OpR CallR IxR MtR SlR PO TO thn)
theorem qCm (x:Int):∀ l:List Int,(insZ x l).Perm (x::l)
 | []=>.refl _
 | y::r=>by
  unfold insZ
  split
  ·exact .refl _
  ·exact ((qCm x r).cons y).trans (.swap x y r)
theorem qDI:∀ l:List Int,(sortZ l).Perm l
 | []=>.refl _
 | x::r=>(qCm x (sortZ r)).trans ((qDI r).cons x)
theorem qHi (x:Int):∀ {l:List Int},l.Pairwise (·≤·)→(insZ x l).Pairwise (·≤·)
  | [],_=>List.pairwise_singleton ..
  | y::r,h=>by
    unfold insZ
    obtain ⟨h1,h2⟩:=List.pairwise_cons.mp h
    split
    · rename_i c
      refine List.pairwise_cons.mpr ⟨fun z hz=>?_,h⟩
      rcases List.mem_cons.mp hz with e | e
      · omega
      · have:=h1 z e;omega
    · rename_i c
      refine List.pairwise_cons.mpr ⟨fun z hz=>?_,qHi x h2⟩
      rcases List.mem_cons.mp ((qCm x r).mem_iff.mp hz) with e | e
      · omega
      · exact h1 z e
theorem qFh:∀ l:List Int,(sortZ l).Pairwise (·≤·)
  | []=>.nil
  | x::r=>qHi x (qFh r)
theorem qGh:∀ {a b:List Int},a.Perm b→a.Pairwise (·≤·)→b.Pairwise (·≤·)→a=b
  | [],b,p,_,_=>(List.nil_perm.mp p).symm
  | x::a,[],p,_,_=>absurd p.length_eq (by simp)
  | x::a,y::b,p,ha,hb=>by
    obtain ⟨a1,a2⟩:=List.pairwise_cons.mp ha
    obtain ⟨b1,b2⟩:=List.pairwise_cons.mp hb
    have hx:x∈y::b:=p.mem_iff.mp (List.mem_cons_self ..)
    have hy:y∈x::a:=p.mem_iff.mpr (List.mem_cons_self ..)
    have e:x=y:=by
      rcases List.mem_cons.mp hx with e | e
      · exact e
      · rcases List.mem_cons.mp hy with z | z
        · exact z.symm
        · have:=b1 x e
          have:=a1 y z
          omega
    subst e
    rw [qGh ((List.perm_cons x).mp p) a2 b2]
theorem qDc {K:PySem.W.Frag} {ρ:List Addr} {H:Hp}:∀ ns:List Int,RepL K ρ H (ns.map .int) (ns.map V.int)
 | []=>rfl
 | n::r=>⟨.int n,_,rfl,rfl,qDc r⟩
theorem vals_ints:∀ {us:List Value} {ns:List Int},IntsAre us ns→Vals (ns.map V.int) us
 | [],[],_=>.nil
 | u::us,n::ns,h=>by
  cases h with
  | cons _ t h2=>exact .cons ⟨_,rfl⟩ (vals_ints h2)
section
variable {X:Cx} {F:Nat→List D→M D} {W:WX}
theorem qGU:CallR X (.builtin "sorted") (rC X.K .sorted):=by
 rintro pins s σ H xs us Q I rv ⟨x,rfl,w,ρ,h,d,r,hd,p⟩
 cases d with
 | ref i =>
  have p:PostV X.K w Q ρ H (match (getL h i).bind qAO with | some xs=>(if xs.length<64 then newL ((sortZ xs).map .int) h else .bad) | none=>.bad):=p
  cases q:getL h i with
  | none=>rw [q] at p;exact False.elim p
  | some ds =>
   rw [q] at p
   have p:PostV X.K w Q ρ H (match qAO ds with | some xs=>(if xs.length<64 then newL ((sortZ xs).map .int) h else .bad) | none=>.bad):=p
   cases qb:qAO ds with
   | none=>rw [qb] at p;exact False.elim p
   | some ns =>
    rw [qb] at p
    obtain ⟨h64,p⟩:=PostV.ite (c:=ns.length<64) p
    obtain ⟨a,vs,rfl,h1,h2⟩:=r.seen q hd
    obtain ⟨u,rfl,ru⟩:=L2.Vals.one rv
    cases ru
    obtain ⟨its,rv',pl,hz⟩:=I.list h1
    have hv:=qDp qb h2
    subst hv
    have hb:=L2.intsAre_of rv'
    have hl:=pl.isList
    have len:=rv'.length
    rw [List.length_map] at len
    refine sorted_ints hl hb (by omega) fun out ns' o1 o2 o3=>?_
    have e:ns'=sortZ ns:=qGh (o2.trans (qDI ns).symm) o3 (qFh ns)
    subst e
    obtain ⟨e,he⟩:=sortedAll_at s.heap its out
    have pv:=PostV.newL p r (qDc (K:=X.K) (ρ:=ρ) (H:=H) (sortZ ns))
    exact ⟨.ref (s.heap.objs.size+1),_,I.laid (t':=s.toks) (fun _ _=>sortedAll_old) (Nat.le_succ _) (show L2.ObjOk X.prog X.w _ _ _ (.lst ((sortZ ns).map V.int)) from ⟨pv.1,out.toList,e,vals_ints o1,he⟩),rfl,pv.2 _ (I.hok.fresh (Nat.le_succ _))⟩
 | _=>exact (show False from p).elim
noncomputable def rLr1:List V→Hp→VK→Prop:=fun xs H Q=>∃ j:Int,xs=[.int j]∧(-(2 ^ 62)≤j∧j<2 ^ 62)∧j.toNat≤sizeLine∧∀ l,H l=none→Q (.ref l) (upd H l (.lst ((List.range j.toNat).map fun k:Nat=>V.int (0+(k:Int)))))
noncomputable def rLr2:List V→Hp→VK→Prop:=fun xs H Q=>∃ i j:Int,xs=[.int i,.int j]∧(-(2 ^ 62)≤i∧i<2 ^ 62∧-(2 ^ 62)≤j∧j<2 ^ 62)∧(j-i).toNat≤sizeLine∧∀ l,H l=none→Q (.ref l) (upd H l (.lst ((List.range (j-i).toNat).map fun k:Nat=>V.int (i+(k:Int)))))
theorem qF3 {lo:Int} {acc:Array Value} {n:Nat} (h:ItemsOf (fun i v=>∃ t,v=Value.int (lo+i*1) t) acc n):Vals ((List.range n).map fun k:Nat=>V.int (lo+(k:Int))) acc.toList:=by
 have key:∀ (l:List Value) (k:Nat),(∀ j v,l[j]?=some v→∃ t,v=Value.int (lo+((k+j:Nat):Int)) t)→Vals ((List.range l.length).map fun m:Nat=>V.int (lo+((k+m:Nat):Int))) l:=fun l=>by
  induction l with
  | nil=>intro k _;exact .nil
  | cons u l ih =>
   intro k hl
   have h0:=hl 0 u rfl
   have h1:=ih (k+1) fun j v hj=>by
    have:=hl (j+1) v (by simpa using hj)
    rwa [show k+(j+1)=k+1+j by omega] at this
   rw [List.length_cons,List.range_succ_eq_map,List.map_cons,List.map_map]
   refine .cons h0 ?_
   have e:(fun m:Nat=>V.int (lo+((k+1+m:Nat):Int)))=((fun m:Nat=>V.int (lo+((k+m:Nat):Int))) ∘ Nat.succ):=by
    funext m
    show V.int _=V.int _
    rw [show k+1+m=k+m.succ by omega]
   rw [← e]
   exact h1
 obtain ⟨h1,h2⟩:=h
 have:=key acc.toList 0 fun j v hj=>by
  rw [Nat.zero_add]
  obtain ⟨t,e⟩:=h2 j v (by rw [← Array.getElem?_toList];exact hj)
  exact ⟨t,by rw [e,Int.mul_one]⟩
 rw [show acc.toList.length=n from h1] at this
 simpa using this
theorem qHT {pins:List (Addr × Obj)} {σ:L2.St} {H:Hp} {s:Shared} {Q:VK} {lo hi:Int} {t u v:Tok} {tk:Nat} (hc:X.calm=true) (I:Inv X pins σ H s) (h1:-(2 ^ 62)≤lo) (h2:lo<2 ^ 62) (h3:-(2 ^ 62)≤hi) (h4:hi<2 ^ 62) (hz:(hi-lo).toNat≤sizeLine)
    (q:∀ l,H l=none→Q (.ref l) (upd H l (.lst ((List.range (hi-lo).toNat).map fun k:Nat=>V.int (lo+(k:Int)))))):wpAny (model X.prog X.w) X.A (call (.type "list") [.ref s.heap.objs.size]) (EP X pins σ Q) X.xe { s with heap:=s.heap.push { cls:=.type "range",data:=.fields #[.int lo t,.int hi u,.int 1 v] },toks:=tk }:=by
  have I1:Inv X pins σ H { s with heap:=s.heap.push { cls:=.type "range",data:=.fields #[.int lo t,.int hi u,.int 1 v] },toks:=tk }:=I.kept fun b o e=>Heap.get?_push_of_some _ e
  refine call_list_range (n:=(hi-lo).toNat) (I1.ok.hd hc) (IsRange.new ..) (small_one h1 h2 h3 h4) (by rw [rangeSize_one];split <;> omega) (by rw [szEq] at hz;omega) fun h' tk' acc' c' kp hS hacc=>?_
  exact ⟨.ref _,_,I1.laid (t':=tk') kp (Nat.le_refl _) (show L2.ObjOk X.prog X.w _ _ _ (.lst ((List.range (hi-lo).toNat).map fun k:Nat=>V.int (lo+(k:Int)))) from ⟨by simpa using hz,acc'.toList,c',qF3 hacc,by simpa using hS⟩),rfl,q _ (I1.hok.fresh (Nat.le_refl _))⟩
theorem qMu {a:Expr} {ta:TA} {p q pos ppos:Pos} (hc:X.calm=true) (hgl:L2.Gl X "list") (hml:X.mg "list"=none) (hgr:L2.Gl X "range") (hmr:X.mg "range"=none) (ha:PA X [a] ta) (hs:starEach [a] X.env=[(false,eval a X.env)])
    (ho:starEach [.Call (.Name "range" q) [a] [] ppos] X.env=[(false,eval (.Call (.Name "range" q) [a] [] ppos) X.env)]):PE X (.Call (.Name "list" p) [.Call (.Name "range" q) [a] [] ppos] [] pos) (L2.tCB rLr1 ta):=by
  intro pins s σ H Q I h
  refine Call_ (L2.ld_blt I hgl hml (by decide +kernel:bootBuiltins "list"=some (.type "list")) (PyProof.Rows.callWith_type1 ?_ (by rw [ho];rfl) rfl))
  rw [ho]
  show wpAny _ _ (spliced [(false,eval (.Call (.Name "range" q) [a] [] ppos) X.env)]) _ _ s
  refine Calls.spliced_cons ?_
  refine Call_ (L2.ld_blt I hgr hmr (by decide +kernel:bootBuiltins "range"=some (.type "range")) (PyProof.Rows.callWith_type1 (thn (ha ppos pins s σ H _ I h) fun us s1 ⟨vs,H1,I1,r1,q1⟩=>?_) (by rw [hs];rfl) rfl))
  obtain ⟨j,e,⟨q1,q2⟩,q3,q4⟩:=q1
  subst e
  cases r1 with
  | cons r rr =>
    cases rr
    obtain ⟨t,rfl⟩:=r
    exact call_range_1 (Calls.spliced_nil (qHT hc I1 (by omega) (by omega) q1 q2 (by simpa using q3) (by simpa using q4)))
theorem qMt {a b:Expr} {ta:TA} {p q pos ppos:Pos} (hc:X.calm=true) (hgl:L2.Gl X "list") (hml:X.mg "list"=none) (hgr:L2.Gl X "range") (hmr:X.mg "range"=none) (ha:PA X [a,b] ta) (hs:starEach [a,b] X.env=[(false,eval a X.env),(false,eval b X.env)]) (hs2:starEach [b] X.env=[(false,eval b X.env)])
    (ho:starEach [.Call (.Name "range" q) [a,b] [] ppos] X.env=[(false,eval (.Call (.Name "range" q) [a,b] [] ppos) X.env)]):PE X (.Call (.Name "list" p) [.Call (.Name "range" q) [a,b] [] ppos] [] pos) (L2.tCB rLr2 ta):=by
  intro pins s σ H Q I h
  refine Call_ (L2.ld_blt I hgl hml (by decide +kernel:bootBuiltins "list"=some (.type "list")) (PyProof.Rows.callWith_type1 ?_ (by rw [ho];rfl) rfl))
  rw [ho]
  show wpAny _ _ (spliced [(false,eval (.Call (.Name "range" q) [a,b] [] ppos) X.env)]) _ _ s
  refine Calls.spliced_cons ?_
  refine Call_ (L2.ld_blt I hgr hmr (by decide +kernel:bootBuiltins "range"=some (.type "range")) (PyProof.Rows.callWith_type1 (thn (ha ppos pins s σ H _ I h) fun us s1 ⟨vs,H1,I1,r1,q1⟩=>?_) (by rw [hs,hs2]) (by rw [hs2];rfl)))
  obtain ⟨i,j,e,⟨q1,q2,q3,q4⟩,q5,q6⟩:=q1
  subst e
  cases r1 with
  | cons r rr =>
    cases rr with
    | cons r' rr =>
      cases rr
      obtain ⟨t,rfl⟩:=r
      obtain ⟨t',rfl⟩:=r'
      exact call_range_2 (Calls.spliced_nil (qHT hc I1 q1 q2 q3 q4 q5 q6))
theorem qGw {K:PySem.W.Frag} {ρ:List Addr} {H:Hp} (lo:Int) (n:Nat):RepL K ρ H (qAR lo n) ((List.range n).map fun k:Nat=>V.int (lo+(k:Int))):=by
 have:=qDc (K:=K) (ρ:=ρ) (H:=H) ((List.range n).map fun k:Nat=>lo+(k:Int))
 rw [List.map_map,List.map_map] at this
 exact this
theorem d_lr1 {a:Expr} {ca:CE} {p q pos ppos:Pos} (hc:X.calm=true) (hgl:L2.Gl X "list") (hml:X.mg "list"=none) (hgr:L2.Gl X "range") (hmr:X.mg "range"=none) (ha:PE X a (tD X.K W (den F ca))) (hs:starEach [a] X.env=[(false,eval a X.env)])
    (ho:starEach [.Call (.Name "range" q) [a] [] ppos] X.env=[(false,eval (.Call (.Name "range" q) [a] [] ppos) X.env)]):PE X (.Call (.Name "list" p) [.Call (.Name "range" q) [a] [] ppos] [] pos) (tD X.K W (den F (.un .lrng ca))):=by
  refine qDx (a:=a) (qMu hc hgl hml hgr hmr (L2.pa_cons ha L2.pa_nil (by rw [hs];rfl)) hs ho) fun x H Q z=>?_
  obtain ⟨w,ρ,h,d,r,hd,p⟩:=z
  cases d with
  | int j =>
    cases hd
    have p:PostV X.K w Q ρ H (if qAH j then newL (qAR 0 j.toNat) h else .bad):=p
    obtain ⟨hz,p⟩:=PostV.ite p
    have pv:=PostV.newL p r (qGw 0 j.toNat)
    unfold qAH at hz
    exact ⟨j,rfl,by omega,by simpa using pv.1,pv.2⟩
  | _=>exact (show False from p).elim
theorem d_lr2 {a b:Expr} {ca cb:CE} {p q pos ppos:Pos} (hc:X.calm=true) (hgl:L2.Gl X "list") (hml:X.mg "list"=none) (hgr:L2.Gl X "range") (hmr:X.mg "range"=none) (ha:PE X a (tD X.K W (den F ca))) (hb:PE X b (tD X.K W (den F cb))) (hs:starEach [a,b] X.env=[(false,eval a X.env),(false,eval b X.env)]) (hs2:starEach [b] X.env=[(false,eval b X.env)])
    (ho:starEach [.Call (.Name "range" q) [a,b] [] ppos] X.env=[(false,eval (.Call (.Name "range" q) [a,b] [] ppos) X.env)]):PE X (.Call (.Name "list" p) [.Call (.Name "range" q) [a,b] [] ppos] [] pos) (tD X.K W (den F (.bi .lrng ca cb))):=by
  refine qH9 (qMt hc hgl hml hgr hmr (L2.pa_cons ha (L2.pa_cons hb L2.pa_nil (by rw [hs2];rfl)) (by rw [hs,hs2])) hs hs2 ho) fun x y H Q z=>?_
  obtain ⟨w,ρ,h,d,e,r,hd,he,p⟩:=z
  cases d with
  | int i =>
    cases e with
    | int j =>
      cases hd
      cases he
      have p:PostV X.K w Q ρ H (if qAH i∧qAH j then newL (qAR i (j-i).toNat) h else .bad):=p
      obtain ⟨hz,p⟩:=PostV.ite p
      have pv:=PostV.newL p r (qGw i (j-i).toNat)
      unfold qAH at hz
      exact ⟨i,j,rfl,by omega,by simpa using pv.1,pv.2⟩
    | _=>exact (show False from p).elim
  | _=>exact (show False from p).elim
end
end Fy
set_option Elab.async false
set_option linter.all false
set_option maxRecDepth 100000
set_option maxHeartbeats 4000000
namespace Fy
open PySem PySem.Spec PyProof.Rows
open L2 (V Hp HO VK TE TT TA TS TI Cx Inv RelV Vals SqL SqT Rd upd qAA qAB PE PT PA PS PSs EP PI PG PIE Turn FpOk Ends Un HOk frs)
section
variable {prog:Program} {w:World} {A:Around} {R:Result→Shared→Prop} {s:Shared}
theorem qCt {elt target iter:Expr} {ifs:List Expr} {scope:Scope} {pos:Pos} {it acc:Value} {env:PySem.Env} (I:Nat→Shared→Prop)
    (turn:∀ n s,I n s→wpAny (model prog w) A (pyNext it) (fun r s₁=>match r with
      | none=>R (.ok .next) s₁
      | some v=>wpAny (model prog w) A (letOwnedTupleGo target it v) (fun _ s₁'=>wpAny (model prog w) A (assign target env v) (fun _ s₂ =>
          wpAny (model prog w) A (forIn ifs true fun c r=>if r=true then do let ok ← isTrue c env (eval c env);pure (ForInStep.yield ok) else pure (ForInStep.yield r)) (fun ok s₃ =>
            if ok=true then wpAny (model prog w) A (eval elt env) (fun x s₄ =>
              wpAny (model prog w) A (call (.builtin "list.append") [acc,x]) (fun _ s₅=>∃ m,m<n∧I m s₅) (notedBy (model prog w) A env fun e s'=>R (.error e) s') s₄) (notedBy (model prog w) A env fun e s'=>R (.error e) s') s₃
            else ∃ m,m<n∧I m s₃) (notedBy (model prog w) A env fun e s'=>R (.error e) s') s₂) (notedBy (model prog w) A env fun e s'=>R (.error e) s') s₁') (notedBy (model prog w) A env fun e s'=>R (.error e) s') s₁) (notedBy (model prog w) A env fun e s'=>R (.error e) s') s)
    (n:Nat) (h:I n s):codeAny (model prog w) A (.compLoop (.ListComp elt [⟨target,iter,ifs,0⟩] scope pos) 0 it acc env) R s:=by
  refine codeAny_loop rfl I (fun n s hI=>?_) n h
  show wpAny _ A ((compTurn (.ListComp elt [⟨target,iter,ifs,0⟩] scope pos) 0 it acc env).onRaise (fun x=>do noteFrame x env;theTreesLotGoes x)) _ _ s
  refine wpAny_noted ?_
  rw [compTurn_list]
  refine wpAny_bind (wpAny_standAt (wpAny_bind (wpAny_mono (turn n s hI) (fun r s₁ h₁=>?_) fun _ _ h'=>h')))
  cases r with
  | none=>exact wpAny_pure h₁
  | some v =>
    refine wpAny_bind (wpAny_mono h₁ (fun _ s₁' h₁'=>?_) fun _ _ h'=>h')
    refine wpAny_bind (wpAny_mono h₁' (fun _ s₂ h₂=>wpAny_bind (wpAny_mono h₂ (fun ok s₃ h₃=>?_) fun _ _ h'=>h')) fun _ _ h'=>h')
    cases ok with
    | false=>exact wpAny_pure ⟨rfl,h₃⟩
    | true =>
      exact wpAny_bind (wpAny_bind (wpAny_mono h₃ (fun x s₄ h₄=>wpAny_bind (wpAny_mono h₄ (fun _ s₅ h₅=>wpAny_pure (wpAny_pure ⟨rfl,h₅⟩)) fun _ _ h'=>h')) fun _ _ h'=>h'))
end
theorem qCF {env:PySem.Env}:∀ (names:List (Str × NameKind)) (acc:List (Str × Addr)),(∀ y∈names,y.2=.free→∃ c,env.cells.lookup y.1=some c)→(∀ y c,acc.lookup y=some c→env.cells.lookup y=some c) →
    ∃ cl,(forIn names acc fun (p:Str × NameKind) (r:List (Str × Addr))=>(do if (p.2 == NameKind.free)=true then (do let a ← cellOf env p.1;pure (ForInStep.yield ((p.1,a)::r))) else pure (ForInStep.yield r):Sem (ForInStep (List (Str × Addr)))))=(pure cl:Sem (List (Str × Addr))) ∧
      (∀ y c,cl.lookup y=some c→env.cells.lookup y=some c)∧(∀ y∈names,y.2=.free→∃ c,cl.lookup y.1=some c)∧∀ y c,acc.lookup y=some c→∃ c,cl.lookup y=some c
  | [],acc,_,ha=>⟨acc,rfl,ha,fun _ h=>absurd h (by simp),fun y c h=>⟨c,h⟩⟩
  | (n,k)::r,acc,hn,ha=>by
    by_cases hk:k=.free
    · subst hk
      obtain ⟨c,hc⟩:=hn (n,.free) (List.mem_cons_self ..) rfl
      have ha':∀ y d,((n,c)::acc).lookup y=some d→env.cells.lookup y=some d:=fun y d h=>by
        rw [List.lookup_cons] at h
        cases q:(y == n) with
        | true =>
          rw [q] at h
          cases h
          have:y=n:=by simpa using q
          rw [this]
          exact hc
        | false=>rw [q] at h;exact ha y d h
      obtain ⟨cl,h1,h2,h3,h4⟩:=qCF r ((n,c)::acc) (fun y hy=>hn y (List.mem_cons_of_mem _ hy)) ha'
      have hl:((n,c)::acc).lookup n=some c:=by rw [List.lookup_cons];simp
      refine ⟨cl,?_,h2,fun y hy hf=>?_,fun y d hd=>?_⟩
      · rw [List.forIn_cons]
        have e:cellOf env n=pure c:=by unfold cellOf;rw [hc]
        simp only [beq_self_eq_true,if_true,e]
        exact h1
      · rcases List.mem_cons.mp hy with rfl | hy
        · exact h4 n c hl
        · exact h3 y hy hf
      · by_cases q:y=n
        · subst q
          exact h4 y c hl
        · refine h4 y d ?_
          rw [List.lookup_cons]
          have:(y == n)=false:=by simpa using q
          rw [this]
          exact hd
    · obtain ⟨cl,h1,h2,h3,h4⟩:=qCF r acc (fun y hy=>hn y (List.mem_cons_of_mem _ hy)) ha
      refine ⟨cl,?_,h2,fun y hy hf=>?_,h4⟩
      · rw [List.forIn_cons]
        have e:(k == NameKind.free)=false:=by simpa using hk
        simp only [e,Bool.false_eq_true,if_false]
        exact h1
      · rcases List.mem_cons.mp hy with rfl | hy
        · exact absurd hf hk
        · exact h3 y hy hf
theorem qBy {env:PySem.Env} {scope:Scope} (hn:∀ y∈scope.names,y.2=.free→∃ c,env.cells.lookup y.1=some c) :
    ∃ cl,closureFor scope env=pure cl∧(∀ y c,cl.lookup y=some c→env.cells.lookup y=some c)∧∀ y∈scope.names,y.2=.free→∃ c,cl.lookup y.1=some c:=by
  obtain ⟨cl,h1,h2,h3,_⟩:=qCF (env:=env) scope.names [] hn (fun _ _ h=>nomatch h)
  refine ⟨cl,?_,h2,h3⟩
  exact (congrArg (fun t:Sem (List (Str × Addr))=>t >>= fun z=>pure z) h1).trans rfl
end Fy
set_option Elab.async false
set_option linter.all false
set_option maxRecDepth 100000
set_option maxHeartbeats 4000000
namespace Fy
open PySem PySem.Spec PyProof.Rows
open L2 (V Hp HO VK TE TT TA TS TI Cx Inv RelV Vals SqL SqT Rd upd qAA qAB PE PT PA PS PSs EP PI PG PIE Turn FpOk Ends Un HOk frs)
noncomputable abbrev noN:Str:=""
noncomputable def maskN (N:List Str) (x:Str):List Str:=N.map fun y=>if y=x then noN else y
theorem qBe (N:List Str) (x:Str):(maskN N x).length=N.length:=by unfold maskN;simp
theorem qDm {N:List Str} {x y:Str} {i:Nat} (h:(maskN N x)[i]?=some y):(N[i]?=some y∧y≠x)∨(N[i]?=some x∧y=noN):=by
 unfold maskN at h
 rw [List.getElem?_map] at h
 cases q:N[i]? with
 | none=>rw [q] at h;cases h
 | some z =>
  rw [q] at h
  have h:(if z=x then noN else z)=y:=Option.some.inj h
  by_cases e:z=x
  ·rw [if_pos e] at h
   exact .inr ⟨by rw [e],h.symm⟩
  ·rw [if_neg e] at h
   exact .inl ⟨by rw [h],h ▸ e⟩
theorem qDl {N:List Str} {x:Str} (nd:N.Nodup) (h1:x≠noN) (h2:x∈N→noN∉N):(maskN N x++[x]).Nodup:=by
 have inj:∀ a∈N,∀ b∈N,(if a=x then noN else a)=(if b=x then noN else b)→a=b:=fun a ha b hb e=>by
  by_cases ea:a=x
  ·by_cases eb:b=x
   ·rw [ea,eb]
   ·rw [if_pos ea,if_neg eb] at e
    exact absurd (e ▸ hb) (h2 (ea ▸ ha))
  ·by_cases eb:b=x
   ·rw [if_neg ea,if_pos eb] at e
    exact absurd (e ▸ ha) (h2 (eb ▸ hb))
   ·rw [if_neg ea,if_neg eb] at e
    exact e
 rw [List.nodup_append]
 refine ⟨?_,by simp,fun a ha b hb z=>?_⟩
 ·unfold maskN
  clear h1 h2
  induction N with
  | nil=>simp
  | cons c r ih =>
   rw [List.nodup_cons] at nd
   rw [List.map_cons,List.nodup_cons]
   refine ⟨fun hm=>?_,ih nd.2 fun a ha b hb=>inj a (List.mem_cons_of_mem _ ha) b (List.mem_cons_of_mem _ hb)⟩
   obtain ⟨d,hd,e⟩:=List.mem_map.mp hm
   have:=inj d (List.mem_cons_of_mem _ hd) c (List.mem_cons_self ..) e
   exact nd.1 (this ▸ hd)
 ·rw [List.mem_singleton.mp hb] at z
  subst z
  unfold maskN at ha
  obtain ⟨d,hd,e⟩:=List.mem_map.mp ha
  have e:(if d=a then noN else d)=a:=e
  by_cases q:d=a
  ·rw [if_pos q] at e;exact h1 e.symm
  ·rw [if_neg q] at e;exact q e
noncomputable def cxC (X:Cx) (x:Str) (scope:Scope) (cl:List (Str × Addr)) (C:Addr) (s3:Shared) (H3:Hp) (fp:List Addr) (E:Value→Shared→Prop):Cx :=
 { X with N:=maskN X.N x++[x],s₀:=s3,H₀:=H3,env:=compEnvC scope cl C X.env,outer:=X.stack,ex:=fp,fn:=fun _=>false,pn:=[],xe:=E }
structure CompOk (X:Cx) (x:Str) (scope:Scope):Prop where
 kind:scope.kind=.function
 nocell:∀ y∈scope.names,y.2≠.cell
 loc:∀ y∈scope.names,y.2=.local→scope.names.lookup y.1=some .local
 own:scope.names.lookup x=some .local
 free:∀ y∈scope.names,y.2=.free→X.env.kindOf y.1=some .cell∨X.env.kindOf y.1=some .free
 new:x≠noN
 hole:x∈X.N→noN∉X.N∧scope.names.lookup noN=none
 others:∀ y,y≠x→scope.names.lookup y=some .local→y∈X.N→False
section
variable {X:Cx} {x:Str} {scope:Scope} {cl:List (Str × Addr)} {pins:List (Addr × Obj)} {σ:L2.St} {H:Hp} {s:Shared} {fp:List Addr}
theorem qAD {env:PySem.Env} {y:Str} {k:NameKind}:∀ {names:List (Str × NameKind)},(names.map fun (n,k)=>if (k == NameKind.free&&env.scope.kind == .function&&env.kindOf n == some .cell) then (n,NameKind.cell) else (n,k)).lookup y=some k →
    names.lookup y=some k∨(names.lookup y=some .free∧k=.cell)
  | [],h=>by simp at h
  | (n,k')::r,h=>by
    have ih:=@qAD env y k r
    have h:List.lookup y ((if (k' == NameKind.free&&env.scope.kind == .function&&env.kindOf n == some .cell)=true then (n,NameKind.cell) else (n,k'))::(r.map fun (n,k)=>if (k == NameKind.free&&env.scope.kind == .function&&env.kindOf n == some .cell) then (n,NameKind.cell) else (n,k)))=some k:=h
    by_cases hc:(k' == NameKind.free&&env.scope.kind == .function&&env.kindOf n == some .cell)=true
    · rw [if_pos hc,List.lookup_cons] at h
      rw [List.lookup_cons]
      cases q:(y == n) with
      | true =>
        rw [q] at h
        cases h
        have:k'=.free:=by
          simp only [Bool.and_eq_true] at hc
          simpa using hc.1.1
        subst this
        exact .inr ⟨rfl,rfl⟩
      | false=>rw [q] at h;exact ih h
    · rw [if_neg hc,List.lookup_cons] at h
      rw [List.lookup_cons]
      cases q:(y == n) with
      | true=>rw [q] at h;exact .inl h
      | false=>rw [q] at h;exact ih h
theorem qAK {names:List (Str × NameKind)} {y:Str} {k:NameKind} (h:names.lookup y=some k):(y,k)∈names:=PySem.mem_of_lookup h
theorem CompOk.vis (C:CompOk X x scope) {y:Str} (hy:y∈X.N) (hne:y≠x) (hv:L2.Vis (relabel scope X.env) y):(scope.names.lookup y=some .free)∧((relabel scope X.env).names.lookup y=some .cell∨(relabel scope X.env).names.lookup y=some .free):=by
 rcases hv with h | h | h
 ·rcases qAD h with z | ⟨_,z⟩
  ·exact (C.others y hne z hy).elim
  ·cases z
 ·rcases qAD h with z | ⟨z,_⟩
  ·exact absurd rfl (C.nocell _ (qAK z))
  ·exact ⟨z,.inl h⟩
 ·rcases qAD h with z | ⟨z,w⟩
  ·exact ⟨z,.inr h⟩
  ·cases w
theorem qNy {C:Addr} {E:Value→Shared→Prop} (K:CompOk X x scope) (I:Inv X pins σ H s) (hC:C=s.heap.objs.size) (hcl:∀ y c,cl.lookup y=some c→X.env.cells.lookup y=some c) (hfr:∀ y∈scope.names,y.2=.free→∃ c,cl.lookup y.1=some c)
    (hfp:∀ b∈fp,FpOk X pins H b) (hlt:∀ b∈fp,b<s.heap.objs.size):(cxC X x scope cl C s H fp E).Ok where
  mod:=I.mod
  kind:=K.kind
  glob:=I.ok.glob
  blt:=I.ok.blt
  above:=by rw [hC];exact Nat.le_refl _
  inj:=fun y z c h1 h2=>I.ok.inj y z c (hcl y c h1) (hcl z c h2)
  has:=fun y hy=>by
    have hy:(relabel scope X.env).names.lookup y=some .cell∨(relabel scope X.env).names.lookup y=some .free:=hy
    have:scope.names.lookup y=some .free:=by
      rcases hy with h | h
      · rcases qAD h with z | ⟨z,_⟩
        · exact absurd rfl (K.nocell _ (qAK z))
        · exact z
      · rcases qAD h with z | ⟨_,w⟩
        · exact z
        · cases w
    exact hfr _ (qAK this) rfl
  cab:=fun y c h=>by cases h
  hd:=I.ok.hd
  frames:=I.ok.frames
  stk:=.inl rfl
  exf:=fun b hb=>⟨fun z=>by have:=hlt b hb;rw [show b=C from z,hC] at this;exact absurd this (Nat.lt_irrefl _),fun y c h=>(hfp b hb).2.2.2.2.1 y c (hcl y c h)⟩
  bs:=I.bs
  bsz:=Nat.le_trans I.ok.bsz I.sz
  noex:=fun b o e hb=>by
    obtain ⟨_,_,_,f3,_⟩:=hfp b hb
    rcases f3 with z | z
    · exact I.ok.noex b o e z
    · exact absurd (Nat.lt_of_lt_of_le (Heap.lt_size e) (Nat.le_trans I.ok.bsz z)) (Nat.lt_irrefl _)
  exfs:=fun b hb z=>by
    obtain ⟨_,f1,f2,_⟩:=hfp b hb
    rcases List.mem_cons.mp (I.stkSub b z) with q | q
    · exact f1 q
    · exact f2 q
  funs:=I.stack
  frf:=I.stkFree
theorem qLj {C:Addr} {E:Value→Shared→Prop} {h1:Heap} {tk:Nat} (K:CompOk X x scope) (I:Inv X pins σ H s) (hC:C=s.heap.objs.size) (hcl:∀ y c,cl.lookup y=some c→X.env.cells.lookup y=some c) (hfr:∀ y∈scope.names,y.2=.free→∃ c,cl.lookup y.1=some c)
    (hfp:∀ b∈fp,FpOk X pins H b) (hlt:∀ b∈fp,b<s.heap.objs.size) (hns:h1.Ns C fun _=>none) (old:∀ b o,s.heap.get? b=some o→h1.get? b=some o) :
    Inv (cxC X x scope cl C s H fp E) [] (σ++[none]) H { s with heap:=h1,toks:=tk }:=by
  have ok:(cxC X x scope cl C s H fp E).Ok:=qNy K I hC hcl hfr hfp hlt
  have fC:H C=none:=I.hok.fresh (by rw [hC];exact Nat.le_refl _)
  refine ⟨ok,rfl,I.bare,Un.kept old,⟨_,hns,fun i y v e1 e2 e3=>?_⟩,fun y c h=>?_,fC,fun y c h=>I.freeC y c (hcl y c h),fun p hp=>absurd hp (by show p∉([]:List (Addr × Obj))++[];simp),I.hok.kept old,?_⟩
  · have e1:(maskN X.N x++[x])[i]?=some y:=e1
    by_cases hi:i<σ.length
    · rw [List.getElem?_append_left hi] at e2
      rw [List.getElem?_append_left (by rw [qBe,← I.len];exact hi)] at e1
      rcases qDm e1 with ⟨e1,hne⟩ | ⟨e9,rfl⟩
      rotate_left
      · exfalso
        have hz:=(K.hole (List.mem_of_getElem? e9)).2
        rcases e3 with z | z | z
        · rcases qAD z with w | ⟨w,_⟩ <;> (rw [hz] at w;cases w)
        · rcases qAD z with w | ⟨w,_⟩ <;> (rw [hz] at w;cases w)
        · rcases qAD z with w | ⟨w,_⟩ <;> (rw [hz] at w;cases w)
      obtain ⟨hf,hk⟩:=K.vis (List.mem_of_getElem? e1) hne e3
      have ho:=K.free _ (qAK hf) rfl
      obtain ⟨m,hn,hl⟩:=I.loc
      have vo:L2.Vis X.env.scope y:=by
        rcases ho with z | z
        · exact .inr (.inl z)
        · exact .inr (.inr z)
      obtain ⟨u,r,l⟩:=hl i y v e1 e2 vo
      refine ⟨u,r,.inr ⟨hk,?_⟩⟩
      rcases l with ⟨hk',_⟩ | ⟨_,c,hc,o,hoc,hd⟩
      · rcases ho with z | z
        · have z:X.env.kindOf y=some .cell:=z
          rw [hk'] at z;cases z
        · have z:X.env.kindOf y=some .free:=z
          rw [hk'] at z;cases z
      · obtain ⟨c',hc'⟩:=hfr _ (qAK hf) rfl
        have e:=hcl _ _ hc'
        rw [hc] at e
        cases e
        exact ⟨c,hc',o,old _ _ hoc,hd⟩
    · rw [List.getElem?_append_right (Nat.le_of_not_lt hi)] at e2
      cases q:i-σ.length with
      | zero=>rw [q] at e2;cases e2
      | succ n=>rw [q] at e2;simp at e2
  · obtain ⟨v,o,ho,hd⟩:=I.cell y c (hcl y c h)
    exact ⟨v,o,old _ _ ho,hd⟩
  · show (σ++[none]).length=(maskN X.N x++[x]).length
    rw [List.length_append,List.length_append,qBe,I.len]
    rfl
end
end Fy
set_option Elab.async false
set_option linter.all false
set_option maxRecDepth 100000
set_option maxHeartbeats 4000000
namespace Fy
open PySem PySem.Spec PyProof.Rows
open L2 (store_ok V Hp HO VK TE TT TA TS TI Cx Inv RelV Vals SqL SqT Rd upd qAA qAB PE PT PA PS PSs EP TP PI PG PIE Turn FpOk Ends Un HOk frs thn)
noncomputable def optT:Option TT→TT
 | none=>fun _ H Q=>Q true H
 | some t=>t
noncomputable def tComp (K:PySem.W.Frag) (wi:TI) (tt:Option TT) (te:TE):TE:=fun σ H Q=>wi σ H fun J H1=>∀ d,H1 d=none→K.lookup d=none→∃ W:Nat→Nat→Hp→Prop,(∃ m,W 0 m (upd H1 d (.lst [])))∧∀ i m H,W i m H →
 (J.stop i H∧Q (.ref d) H)∨(J.go i H∧∀ x H',J.yld i H x H'→optT tt (σ++[some x]) H' fun b H2=>if b=true then te (σ++[some x]) H2 fun y H3=>∃ ys,H3 d=some (.lst ys)∧ys.length<sizeLine∧∃ m',m'<m∧W (i+1) m' (upd H3 d (.lst (ys++[y]))) else ∃ m',m'<m∧W (i+1) m' H2)
noncomputable def PTs (X:Cx) (ifs:List Expr):Option TT→Prop
 | none=>ifs=[]
 | some t=>∃ c,ifs=[c]∧PT X c t
section
variable {X:Cx} {x:Str} {scope:Scope} {pins:List (Addr × Obj)} {σ:L2.St} {H:Hp} {s:Shared} {elt iter:Expr} {ifs:List Expr} {px pos p:Pos} {wi:TI} {tt:Option TT} {te:TE} {Q:VK}
theorem qFd {t:Option TT} {Q':Bool→Hp→Prop} (h:PTs X ifs t) (I:Inv X pins σ H s) (q:optT t σ H Q') :
    wpAny (model X.prog X.w) X.A (forIn ifs true fun c r=>if r=true then do let ok ← isTrue c X.env (eval c X.env);pure (ForInStep.yield ok) else pure (ForInStep.yield r)) (TP X pins σ Q') X.xe s:=by
  cases t with
  | none =>
    have h:ifs=[]:=h
    subst h
    exact wpAny_tests_nil ⟨H,I,q⟩
  | some t =>
    obtain ⟨c,rfl,hc⟩:=h
    exact wpAny_tests_one (hc pins s σ H Q' I q)
theorem qEe {use:Option (Value→Sem Unit)} {Qf:Value→Shared→Prop} (K:CompOk X x scope) (nd:X.N.Nodup) (hc:X.calm=true) (hi:PI X (.Name x px) iter wi) (hfs:∀ x,foldedSetIterable iter X.env x=pure x)
    (hin:∀ cl C s3 H3 fp E,PE (cxC X x scope cl C s3 H3 fp E) elt te∧PTs (cxC X x scope cl C s3 H3 fp E) ifs tt) (I:Inv X pins σ H s) (h:tComp X.K wi tt te σ H Q)
    (fin:∀ (d C:Addr) (H':Hp) (s':Shared) (m:Str→Option Value),Inv X pins σ H' s'→s'.heap.Ns C m→FpOk X pins H' C→Q (.ref d) H'→compPost (model X.prog X.w) X.A X.xe use Qf (.ref d) C (.ok .next) s') :
    wpAny (model X.prog X.w) X.A (comprehension (.ListComp elt [⟨.Name x px,iter,ifs,0⟩] scope pos) scope X.env p (newList []) false (eval iter X.env) use) Qf X.xe s:=by
  obtain ⟨cl,hclos,hcl,hfr⟩:=qBy (env:=X.env) (scope:=scope) fun y hy hf=>I.ok.has _ (K.free y hy hf)
  refine wpAny_comprehension_free (use:=use) rfl hfs hclos K.kind K.loc (thn (hi pins s σ H _ I h) fun v s1 h1=>thn h1 fun itv s2 h2=>?_)
  obtain ⟨it,fp,tn,J,H2,e,I2,T,st2,f2,hR⟩:=h2
  subst e
  refine wpAny_newObj_type ?_
  obtain ⟨W,⟨m0,w0⟩,turn⟩:=hR s2.heap.objs.size I2.fresh (by
    cases q:X.K.lookup s2.heap.objs.size with
    | none=>rfl
    | some o=>exact absurd (Heap.lt_size (I2.kIn _ o q)) (Nat.lt_irrefl _))
  have I3:=I2.lnew (its:=[]) (ys:=[]) (t':=s2.toks) .nil (Nat.zero_le _)
  have fd:∀ b∈fp,b<s2.heap.objs.size:=fun b hb=>let ⟨o,e,_⟩:=T.obj _ _ st2 b hb;Heap.lt_size e
  have f3:∀ b∈fp,FpOk X pins (upd H2 s2.heap.objs.size (.lst [])) b:=fun b hb=>⟨by rw [qAB (Nat.ne_of_lt (fd b hb))];exact (f2 b hb).1,(f2 b hb).2⟩
  have st3:tn 0 (s2.heap.push { cls:=.type "list",data:=.seq ([]:List Value).toArray }):=T.keep _ _ _ st2 fun b _ o e=>Heap.get?_push_of_some _ e
  generalize hd:s2.heap.objs.size=d at *
  generalize hH3:upd H2 d (.lst [])=H3 at *
  generalize hs3:({ s2 with heap:=s2.heap.push { cls:=.type "list",data:=.seq ([]:List Value).toArray },toks:=s2.toks }:Shared)=s3 at *
  have st3:tn 0 s3.heap:=by rw [← hs3];exact st3
  have lt3:∀ b∈fp,b<s3.heap.objs.size:=fun b hb=>let ⟨o,e,_⟩:=T.obj _ _ st3 b hb;Heap.lt_size e
  refine wpAny_newFunctionEnv K.nocell (by intro y hy;simp at hy) (fun h1 hns hsb=>?_) K.kind
  have old:∀ b o,s3.heap.get? b=some o→h1.get? b=some o:=fun b o e=>hsb.extBut b o (Nat.ne_of_lt (Heap.lt_size e)) (Heap.get?_push_of_some _ e)
  show codeAny _ _ (.compStart (.ListComp elt [⟨.Name x px,iter,ifs,0⟩] scope pos) 0 (.ref it) (.ref d) (compEnvC scope cl s3.heap.objs.size X.env)) (compPost (model X.prog X.w) X.A X.xe use Qf (.ref d) s3.heap.objs.size) _
  generalize hC:s3.heap.objs.size=C at *
  have I4:=qLj (E:=notedBy (model X.prog X.w) X.A (compEnvC scope cl C X.env) fun e s'=>compPost (model X.prog X.w) X.A X.xe use Qf (.ref d) C (.error e) s') (tk:=s3.toks+([]:List (Str × Value)).length) K I3 hC.symm hcl hfr f3 (by rw [hC];exact lt3) hns old
  obtain ⟨hE,hT⟩:=hin cl C s3 H3 fp (notedBy (model X.prog X.w) X.A (compEnvC scope cl C X.env) fun e s'=>compPost (model X.prog X.w) X.A X.xe use Qf (.ref d) C (.error e) s')
  generalize hX:cxC X x scope cl C s3 H3 fp (notedBy (model X.prog X.w) X.A (compEnvC scope cl C X.env) fun e s'=>compPost (model X.prog X.w) X.A X.xe use Qf (.ref d) C (.error e) s')=X' at I4 hE hT
  have pX:X'.prog=X.prog:=by rw [← hX];rfl
  have wX:X'.w=X.w:=by rw [← hX];rfl
  have kX:X'.K=X.K:=by rw [← hX];rfl
  have aX:X'.A=X.A:=by rw [← hX];rfl
  have cX:X'.calm=true:=by rw [← hX];exact hc
  have eX:X'.env=compEnvC scope cl C X.env:=by rw [← hX];rfl
  have xX:X'.xe=notedBy (model X.prog X.w) X.A (compEnvC scope cl C X.env) fun e s'=>compPost (model X.prog X.w) X.A X.xe use Qf (.ref d) C (.error e) s':=by rw [← hX];rfl
  have nX:X'.N=maskN X.N x++[x]:=by rw [← hX];rfl
  have sX:X'.s₀=s3:=by rw [← hX];rfl
  have hX0:X'.H₀=H3:=by rw [← hX];rfl
  have oX:X'.fs=frs X.stack:=by rw [← hX];rfl
  have exX:X'.ex=fp:=by rw [← hX];rfl
  have pnX:X'.pn=[]:=by rw [← hX];rfl
  have lX:X'.env.locals=C:=by rw [eX];rfl
  have slot:X'.N[σ.length]?=some x:=by
    rw [nX,List.getElem?_append_right (by rw [qBe,I3.len];exact Nat.le_refl _),qBe,I3.len]
    simp
  have ndX:X'.N.Nodup:=by
    rw [nX]
    exact qDl nd K.new fun z=>(K.hole z).1
  have locX:L2.Loc X'.env.scope x:=by
    rw [eX]
    exact .inl (lookup_relabel_local K.own)
  have stat:∀ {H':Hp},(∀ b∈fp,H' b=none)→∀ b∈fp,FpOk X' [] H' b:=fun hn b hb=>by
    refine ⟨hn b hb,?_,?_,.inl (by rw [exX];exact hb),fun y c h=>?_,fun p hp=>?_⟩
    · rw [lX]
      exact Nat.ne_of_lt (lt3 b hb)
    · rw [oX]
      intro z
      rcases List.mem_cons.mp (I3.stkSub b z) with q | q
      · exact (f3 b hb).2.1 q
      · exact (f3 b hb).2.2.1 q
    · rw [eX] at h
      exact (f3 b hb).2.2.2.2.1 y c (hcl y c h)
    · rw [pnX] at hp
      simp at hp
  have loop:∀ s':Shared,s'={ s3 with heap:=h1,toks:=s3.toks+([]:List (Str × Value)).length } →
      codeAny (model X.prog X.w) X.A (.compLoop (.ListComp elt [⟨.Name x px,iter,ifs,0⟩] scope pos) 0 (.ref it) (.ref d) (compEnvC scope cl C X.env)) (compPost (model X.prog X.w) X.A X.xe use Qf (.ref d) C) s':=by
    rintro s' rfl
    refine qCt (fun n s'=>∃ i v H',Inv X' [] (σ++[v]) H' s'∧tn i s'.heap∧(∀ b∈fp,H' b=none)∧W i n H') ?_ m0 ⟨0,none,H3,I4,T.keep _ _ _ st3 fun b _ o e=>old b o e,fun b hb=>(f3 b hb).1,w0⟩
    rintro n s4 ⟨i,v4,H4,I4,st4,fr4,w4⟩
    rcases turn i n H4 w4 with ⟨stop,qn⟩ | ⟨go,step⟩
    · have td:=T.done X' pX wX kX cX i [] s4 _ H4 (notedBy (model X.prog X.w) X.A (compEnvC scope cl C X.env) fun e s'=>compPost (model X.prog X.w) X.A X.xe use Qf (.ref d) C (.error e) s') I4 (stat fr4) st4 stop
      rw [aX] at td
      refine thn td fun r s5 ⟨hr,I5⟩=>?_
      subst hr
      obtain ⟨m,hn,_⟩:=I5.loc
      rw [lX] at hn
      have fC:H4 C=none:=by rw [← lX];exact I5.free
      have un:L2.Un (frs X.stack) fp H3 H4 s3.heap s5.heap:=by
        have:=I5.base
        rw [sX,hX0,oX,exX] at this
        exact this
      have IX:Inv X pins σ H4 s5:=I3.call' (by have:=I5.os;rw [sX] at this;exact this) un (by have:=I5.hok;rw [pX,wX] at this;exact this) I5.bare fun b hb=>⟨(f3 b hb).2.2.2.1,(f3 b hb).2.1,(f3 b hb).2.2.2.2.1,(f3 b hb).2.2.2.2.2⟩
      exact fin d C H4 s5 m IX hn (I3.fpOk (by rw [hC];exact Nat.le_refl _) fC) qn
    · have ti:=T.item X' pX wX kX cX i [] s4 _ H4 (notedBy (model X.prog X.w) X.A (compEnvC scope cl C X.env) fun e s'=>compPost (model X.prog X.w) X.A X.xe use Qf (.ref d) C (.error e) s') I4 (stat fr4) st4 go
      rw [aX] at ti
      refine thn ti fun r s5 ⟨u,hr,h5⟩=>?_
      subst hr
      refine thn h5 fun _ s6 ⟨xv,H6,I6,r6,y6,st6,fr6⟩=>?_
      have I6':=I6.pinned (stat fr6) (T.obj _ _ st6)
      have as:=wpAny_assign_Name (pos:=px) (store_ok (M:=model X.prog X.w) (A:=X.A) (E:=notedBy (model X.prog X.w) X.A (compEnvC scope cl C X.env) fun e s'=>compPost (model X.prog X.w) X.A X.xe use Qf (.ref d) C (.error e) s') (Q:=fun _ s7=>Inv X' ([]++L2.pinsAt fp s6.heap) (σ++[some xv]) H6 s7) I6' ndX slot locX r6 (fun s7 I7=>by
        have e:(σ++[v4]).set σ.length (some xv)=σ++[some xv]:=by simp
        rw [e] at I7
        exact I7) (.inr (by rw [eX];exact lookup_relabel_local K.own)))
      rw [eX] at as
      refine thn as fun _ s7 I7=>?_
      have te:=qFd hT I7 (step xv H6 y6)
      rw [pX,wX,aX,xX,eX] at te
      refine thn te fun ok s8 ⟨H8,I8,q8⟩=>?_
      have again:∀ {H9:Hp} {s9:Shared} {k:Nat},Inv X' ([]++L2.pinsAt fp s6.heap) (σ++[some xv]) H9 s9→W (i+1) k H9→∃ i v H',Inv X' [] (σ++[v]) H' s9∧tn i s9.heap∧(∀ b∈fp,H' b=none)∧W i k H':=fun {H9 s9 k} I9 w9=>by
        refine ⟨i+1,some xv,H9,I9.unpinned,T.keep _ _ _ st6 fun b hb o e=>(I9.pin (b,o) (List.mem_append_right _ (List.mem_append_right _ (L2.mem_pinsAt hb e)))).1,fun b hb=>?_,w9⟩
        obtain ⟨o,e,_⟩:=T.obj _ _ st6 b hb
        exact (I9.pin (b,o) (List.mem_append_right _ (List.mem_append_right _ (L2.mem_pinsAt hb e)))).2.1
      cases ok with
      | false =>
        obtain ⟨m',hm,w9⟩:=q8
        exact ⟨m',hm,again I8 w9⟩
      | true =>
        have ev:=hE _ s8 _ H8 _ I8 q8
        rw [pX,wX,aX,xX,eX] at ev
        refine thn ev fun y s9 ⟨yv,H9,I9,r9,ys,hd9,hz,m',hm,w9⟩=>?_
        have ap:=L2.mt_append (X:=X') _ s9 _ H9 (.ref d) [yv] (.ref d) [y] (fun _ H'=>H'=upd H9 d (.lst (ys++[yv]))) I9 rfl (.cons r9 .nil) ⟨d,ys,yv,rfl,rfl,hd9,hz,rfl⟩
        rw [pX,wX,aX,xX] at ap
        refine thn ap fun z s10 ⟨_,H10,I10,_,e10⟩=>?_
        subst e10
        exact ⟨m',hm,again I10 w9⟩
  exact codeAny_compStart_list (loop _ rfl) (T.self _ 0 _ _ _ (T.keep _ _ _ st3 fun b _ o e=>old b o e) (loop _ rfl))
theorem qA9 {C:Addr} {h':Heap} {H':Hp} {s':Shared} (I:Inv X pins σ H' s') (f:FpOk X pins H' C) (hs:Heap.SameBut C s'.heap h'):Inv X pins σ H' { s' with heap:=h' } :=
 I.turned (t':=s'.toks) (fun b o hb e=>hs.extBut b o hb e) f.1 f.2.1 f.2.2.2.1 f.2.2.2.2.1 f.2.2.2.2.2
theorem qG4 (K:CompOk X x scope) (nd:X.N.Nodup) (hc:X.calm=true) (hi:PI X (.Name x px) iter wi) (hfs:∀ x,foldedSetIterable iter X.env x=pure x)
    (hin:∀ cl C s3 H3 fp E,PE (cxC X x scope cl C s3 H3 fp E) elt te∧PTs (cxC X x scope cl C s3 H3 fp E) ifs tt):PE X (.ListComp elt [⟨.Name x px,iter,ifs,0⟩] scope pos) (tComp X.K wi tt te):=by
  intro pins s σ H Q I h
  rw [eval_ListComp]
  refine qEe (use:=none) K nd hc hi hfs hin I h fun d C H' s' m IX hn f q=>?_
  exact ⟨m,hn,fun h' hs'=>⟨.ref d,H',qA9 IX f hs',rfl,q⟩⟩
theorem qG0 {y:Str} {i:Nat} {py spos:Pos} (K:CompOk X x scope) (nd:X.N.Nodup) (hc:X.calm=true) (hi:PI X (.Name x px) iter wi) (hfs:∀ x,foldedSetIterable iter X.env x=pure x)
    (hin:∀ cl C s3 H3 fp E,PE (cxC X x scope cl C s3 H3 fp E) elt te∧PTs (cxC X x scope cl C s3 H3 fp E) ifs tt) (hy:X.N[i]?=some y) (hk:X.env.scope.names.lookup y=some .local)
    (hsw:swapsWith (.ListComp elt [⟨.Name x px,iter,ifs,0⟩] scope pos) (some (.Name y py)) spos.line X.env=pure true) :
    PS X (.Assign [.Name y py] (.ListComp elt [⟨.Name x px,iter,ifs,0⟩] scope pos) spos) (fun D σ H=>tComp X.K wi tt te σ H fun v H'=>D.nx (σ.set i (some v)) H'):=by
  intro pins s σ H D I h
  rw [exec_Assign_Name_used _ _ _ _ hsw]
  refine wpAny_bind (wpAny_standAt (wpAny_bind ?_))
  show wpAny _ X.A (do let _ ← comprehension (.ListComp elt [⟨.Name x px,iter,ifs,0⟩] scope pos) scope X.env _ (newList []) false (eval iter X.env) (some (assign (.Name y py) X.env))) _ _ s
  refine wpAny_bind (wpAny_mono (qEe (use:=some (assign (.Name y py) X.env)) (Qf:=fun _ s'=>L2.SP X pins D .next s') K nd hc hi hfs hin I h fun d C H' s' m IX hn f q=>?_) (fun _ s' hq=>wpAny_pure (wpAny_pure hq)) fun _ _ e=>e)
  obtain ⟨oC,es,ep,hC,hr⟩:=id hn
  have dC:∀ v,oC.data≠.cell v:=fun v z=>by rw [hr.1] at z;cases z
  have IP:Inv X (pins++[(C,oC)]) σ H' s':=IX.pins_of fun p hp=>by
    rcases List.mem_append.mp hp with z | z
    · exact IX.pin p (List.mem_append_right _ z)
    · have e:p=(C,oC):=List.mem_singleton.mp z
      subst e
      exact ⟨hC,f.1,f.2.1,f.2.2.1,dC⟩
  show wpAny _ X.A (assign (.Name y py) X.env (.ref d)) _ _ _
  refine wpAny_assign_Name (store_ok IP nd hy (.inl hk) (v:=.ref d) rfl (fun s7 I7=>?_) (.inr hk))
  have k7:=(I7.pin (C,oC) (List.mem_append_right _ (List.mem_append_right _ (List.mem_singleton.mpr rfl)))).1
  exact ⟨m,⟨oC,es,ep,k7,hr⟩,fun h' hs'=>⟨_,H',qA9 I7.unpinned f hs',q⟩⟩
end
end Fy
set_option Elab.async false
set_option linter.all false
set_option maxRecDepth 100000
set_option maxHeartbeats 4000000
namespace Fy
open PySem PySem.Spec PyProof.Rows
open L2 (V Hp HO VK TE TT TA TS TI Cx Inv RelV Vals SqL SqT Rd upd qAA qAB PE PT PA PS PSs EP PI PG PIE Turn FpOk Ends Un HOk frs)
noncomputable def cxM (X:Cx) (N' xs:List Str) (scope:Scope) (cl:List (Str × Addr)) (C:Addr) (s3:Shared) (H3:Hp) (fp:List Addr) (E:Value→Shared→Prop):Cx :=
 { X with N:=N'++xs,s₀:=s3,H₀:=H3,env:=compEnvC scope cl C X.env,outer:=X.stack,ex:=fp,fn:=fun _=>false,pn:=[],xe:=E }
structure CompM (X:Cx) (N' xs:List Str) (scope:Scope):Prop where
 kind:scope.kind=.function
 nocell:∀ y∈scope.names,y.2≠.cell
 loc:∀ y∈scope.names,y.2=.local→scope.names.lookup y.1=some .local
 own:∀ x∈xs,scope.names.lookup x=some .local
 free:∀ y∈scope.names,y.2=.free→X.env.kindOf y.1=some .cell∨X.env.kindOf y.1=some .free
 len:N'.length=X.N.length
 nd:(N'++xs).Nodup
 get:∀ (i:Nat) (y:Str),N'[i]?=some y→(X.N[i]?=some y∧y∉xs)∨scope.names.lookup y=none
 others:∀ y,y∉xs→scope.names.lookup y=some .local→y∈X.N→False
section
variable {X:Cx} {N' xs:List Str} {scope:Scope} {cl:List (Str × Addr)} {pins:List (Addr × Obj)} {σ:L2.St} {H:Hp} {s:Shared} {fp:List Addr}
theorem CompM.vis (C:CompM X N' xs scope) {y:Str} (hy:y∈X.N) (hne:y∉xs) (hv:L2.Vis (relabel scope X.env) y):(scope.names.lookup y=some .free)∧((relabel scope X.env).names.lookup y=some .cell∨(relabel scope X.env).names.lookup y=some .free):=by
 rcases hv with h | h | h
 ·rcases qAD h with z | ⟨_,z⟩
  ·exact (C.others y hne z hy).elim
  ·cases z
 ·rcases qAD h with z | ⟨z,_⟩
  ·exact absurd rfl (C.nocell _ (qAK z))
  ·exact ⟨z,.inl h⟩
 ·rcases qAD h with z | ⟨z,w⟩
  ·exact ⟨z,.inr h⟩
  ·cases w
theorem qNx {C:Addr} {E:Value→Shared→Prop} (K:CompM X N' xs scope) (I:Inv X pins σ H s) (hC:C=s.heap.objs.size) (hcl:∀ y c,cl.lookup y=some c→X.env.cells.lookup y=some c) (hfr:∀ y∈scope.names,y.2=.free→∃ c,cl.lookup y.1=some c)
    (hfp:∀ b∈fp,FpOk X pins H b) (hlt:∀ b∈fp,b<s.heap.objs.size):(cxM X N' xs scope cl C s H fp E).Ok where
  mod:=I.mod
  kind:=K.kind
  glob:=I.ok.glob
  blt:=I.ok.blt
  above:=by rw [hC];exact Nat.le_refl _
  inj:=fun y z c h1 h2=>I.ok.inj y z c (hcl y c h1) (hcl z c h2)
  has:=fun y hy=>by
    have hy:(relabel scope X.env).names.lookup y=some .cell∨(relabel scope X.env).names.lookup y=some .free:=hy
    have:scope.names.lookup y=some .free:=by
      rcases hy with h | h
      · rcases qAD h with z | ⟨z,_⟩
        · exact absurd rfl (K.nocell _ (qAK z))
        · exact z
      · rcases qAD h with z | ⟨_,w⟩
        · exact z
        · cases w
    exact hfr _ (qAK this) rfl
  cab:=fun y c h=>by cases h
  hd:=I.ok.hd
  frames:=I.ok.frames
  stk:=.inl rfl
  exf:=fun b hb=>⟨fun z=>by have:=hlt b hb;rw [show b=C from z,hC] at this;exact absurd this (Nat.lt_irrefl _),fun y c h=>(hfp b hb).2.2.2.2.1 y c (hcl y c h)⟩
  bs:=I.bs
  bsz:=Nat.le_trans I.ok.bsz I.sz
  noex:=fun b o e hb=>by
    obtain ⟨_,_,_,f3,_⟩:=hfp b hb
    rcases f3 with z | z
    · exact I.ok.noex b o e z
    · exact absurd (Nat.lt_of_lt_of_le (Heap.lt_size e) (Nat.le_trans I.ok.bsz z)) (Nat.lt_irrefl _)
  exfs:=fun b hb z=>by
    obtain ⟨_,f1,f2,_⟩:=hfp b hb
    rcases List.mem_cons.mp (I.stkSub b z) with q | q
    · exact f1 q
    · exact f2 q
  funs:=I.stack
  frf:=I.stkFree
theorem qLi {C:Addr} {E:Value→Shared→Prop} {h1:Heap} {tk:Nat} (K:CompM X N' xs scope) (I:Inv X pins σ H s) (hC:C=s.heap.objs.size) (hcl:∀ y c,cl.lookup y=some c→X.env.cells.lookup y=some c) (hfr:∀ y∈scope.names,y.2=.free→∃ c,cl.lookup y.1=some c)
    (hfp:∀ b∈fp,FpOk X pins H b) (hlt:∀ b∈fp,b<s.heap.objs.size) (hns:h1.Ns C fun _=>none) (old:∀ b o,s.heap.get? b=some o→h1.get? b=some o) :
    Inv (cxM X N' xs scope cl C s H fp E) [] (σ++xs.map fun _=>none) H { s with heap:=h1,toks:=tk }:=by
  have ok:(cxM X N' xs scope cl C s H fp E).Ok:=qNx K I hC hcl hfr hfp hlt
  have fC:H C=none:=I.hok.fresh (by rw [hC];exact Nat.le_refl _)
  refine ⟨ok,rfl,I.bare,Un.kept old,⟨_,hns,fun i y v e1 e2 e3=>?_⟩,fun y c h=>?_,fC,fun y c h=>I.freeC y c (hcl y c h),fun p hp=>absurd hp (by show p∉([]:List (Addr × Obj))++[];simp),I.hok.kept old,?_⟩
  · have e1:(N'++xs)[i]?=some y:=e1
    by_cases hi:i<σ.length
    · rw [List.getElem?_append_left hi] at e2
      rw [List.getElem?_append_left (by rw [K.len,← I.len];exact hi)] at e1
      rcases K.get _ _ e1 with ⟨e1,hne⟩ | hz
      rotate_left
      · exfalso
        rcases e3 with z | z | z
        · rcases qAD z with w | ⟨w,_⟩ <;> (rw [hz] at w;cases w)
        · rcases qAD z with w | ⟨w,_⟩ <;> (rw [hz] at w;cases w)
        · rcases qAD z with w | ⟨w,_⟩ <;> (rw [hz] at w;cases w)
      obtain ⟨hf,hk⟩:=K.vis (List.mem_of_getElem? e1) hne e3
      have ho:=K.free _ (qAK hf) rfl
      obtain ⟨m,hn,hl⟩:=I.loc
      have vo:L2.Vis X.env.scope y:=by
        rcases ho with z | z
        · exact .inr (.inl z)
        · exact .inr (.inr z)
      obtain ⟨u,r,l⟩:=hl i y v e1 e2 vo
      refine ⟨u,r,.inr ⟨hk,?_⟩⟩
      rcases l with ⟨hk',_⟩ | ⟨_,c,hc,o,hoc,hd⟩
      · rcases ho with z | z
        · have z:X.env.kindOf y=some .cell:=z
          rw [hk'] at z;cases z
        · have z:X.env.kindOf y=some .free:=z
          rw [hk'] at z;cases z
      · obtain ⟨c',hc'⟩:=hfr _ (qAK hf) rfl
        have e:=hcl _ _ hc'
        rw [hc] at e
        cases e
        exact ⟨c,hc',o,old _ _ hoc,hd⟩
    · rw [List.getElem?_append_right (Nat.le_of_not_lt hi)] at e2
      rw [List.getElem?_map] at e2
      cases q:xs[i-σ.length]? with
      | none=>rw [q] at e2;cases e2
      | some n=>rw [q] at e2;cases e2
  · obtain ⟨v,o,ho,hd⟩:=I.cell y c (hcl y c h)
    exact ⟨v,o,old _ _ ho,hd⟩
  · show (σ++xs.map fun _=>none).length=(N'++xs).length
    rw [List.length_append,List.length_append,K.len,I.len,List.length_map]
end
end Fy
set_option Elab.async false
set_option linter.all false
set_option maxRecDepth 100000
set_option maxHeartbeats 4000000
namespace Fy
open PySem PySem.Spec PyProof.Rows
open L2 (store_ok V Hp HO VK TE TT TA TS TI Cx Inv RelV Vals SqL SqT Rd upd qAA qAB PE PT PA PS PSs EP TP PI PG PIE Turn FpOk Ends Un HOk frs thn)
noncomputable def qGm (K:PySem.W.Frag) (n:Nat) (g:L2.TG) (wi:TI) (tt:Option TT) (te:TE):TE:=fun σ H Q=>wi σ H fun J H1=>∀ d,H1 d=none→K.lookup d=none→∃ W:Nat→Nat→Hp→Prop,(∃ m,W 0 m (upd H1 d (.lst [])))∧∀ i m H,W i m H →
 (J.stop i H∧Q (.ref d) H)∨(J.go i H∧∀ x H',J.yld i H x H'→∀ vs:L2.St,vs.length=n→g x (σ++vs) H' fun σ' H''=>(∃ ws:L2.St,ws.length=n∧σ'=σ++ws)∧optT tt σ' H'' fun b H2=>if b=true then te σ' H2 fun y H3=>∃ ys,H3 d=some (.lst ys)∧ys.length<sizeLine∧∃ m',m'<m∧W (i+1) m' (upd H3 d (.lst (ys++[y]))) else ∃ m',m'<m∧W (i+1) m' H2)
section
variable {X:Cx} {N' xs:List Str} {scope:Scope} {pins:List (Addr × Obj)} {σ:L2.St} {H:Hp} {s:Shared} {tg elt iter:Expr} {g:L2.TG} {ifs:List Expr} {pos p:Pos} {wi:TI} {tt:Option TT} {te:TE} {Q:VK}
theorem qGT {use:Option (Value→Sem Unit)} {Qf:Value→Shared→Prop} (K:CompM X N' xs scope) (hc:X.calm=true) (hi:PI X tg iter wi) (hfs:∀ x,foldedSetIterable iter X.env x=pure x)
    (hin:∀ cl C s3 H3 fp E,PE (cxM X N' xs scope cl C s3 H3 fp E) elt te∧PTs (cxM X N' xs scope cl C s3 H3 fp E) ifs tt∧PG (cxM X N' xs scope cl C s3 H3 fp E) tg g) (I:Inv X pins σ H s) (h:qGm X.K xs.length g wi tt te σ H Q)
    (fin:∀ (d C:Addr) (H':Hp) (s':Shared) (m:Str→Option Value),Inv X pins σ H' s'→s'.heap.Ns C m→FpOk X pins H' C→Q (.ref d) H'→compPost (model X.prog X.w) X.A X.xe use Qf (.ref d) C (.ok .next) s') :
    wpAny (model X.prog X.w) X.A (comprehension (.ListComp elt [⟨tg,iter,ifs,0⟩] scope pos) scope X.env p (newList []) false (eval iter X.env) use) Qf X.xe s:=by
  obtain ⟨cl,hclos,hcl,hfr⟩:=qBy (env:=X.env) (scope:=scope) fun y hy hf=>I.ok.has _ (K.free y hy hf)
  refine wpAny_comprehension_free (use:=use) rfl hfs hclos K.kind K.loc (thn (hi pins s σ H _ I h) fun v s1 h1=>thn h1 fun itv s2 h2=>?_)
  obtain ⟨it,fp,tn,J,H2,e,I2,T,st2,f2,hR⟩:=h2
  subst e
  refine wpAny_newObj_type ?_
  obtain ⟨W,⟨m0,w0⟩,turn⟩:=hR s2.heap.objs.size I2.fresh (by
    cases q:X.K.lookup s2.heap.objs.size with
    | none=>rfl
    | some o=>exact absurd (Heap.lt_size (I2.kIn _ o q)) (Nat.lt_irrefl _))
  have I3:=I2.lnew (its:=[]) (ys:=[]) (t':=s2.toks) .nil (Nat.zero_le _)
  have fd:∀ b∈fp,b<s2.heap.objs.size:=fun b hb=>let ⟨o,e,_⟩:=T.obj _ _ st2 b hb;Heap.lt_size e
  have f3:∀ b∈fp,FpOk X pins (upd H2 s2.heap.objs.size (.lst [])) b:=fun b hb=>⟨by rw [qAB (Nat.ne_of_lt (fd b hb))];exact (f2 b hb).1,(f2 b hb).2⟩
  have st3:tn 0 (s2.heap.push { cls:=.type "list",data:=.seq ([]:List Value).toArray }):=T.keep _ _ _ st2 fun b _ o e=>Heap.get?_push_of_some _ e
  generalize hd:s2.heap.objs.size=d at *
  generalize hH3:upd H2 d (.lst [])=H3 at *
  generalize hs3:({ s2 with heap:=s2.heap.push { cls:=.type "list",data:=.seq ([]:List Value).toArray },toks:=s2.toks }:Shared)=s3 at *
  have st3:tn 0 s3.heap:=by rw [← hs3];exact st3
  have lt3:∀ b∈fp,b<s3.heap.objs.size:=fun b hb=>let ⟨o,e,_⟩:=T.obj _ _ st3 b hb;Heap.lt_size e
  refine wpAny_newFunctionEnv K.nocell (by intro y hy;simp at hy) (fun h1 hns hsb=>?_) K.kind
  have old:∀ b o,s3.heap.get? b=some o→h1.get? b=some o:=fun b o e=>hsb.extBut b o (Nat.ne_of_lt (Heap.lt_size e)) (Heap.get?_push_of_some _ e)
  show codeAny _ _ (.compStart (.ListComp elt [⟨tg,iter,ifs,0⟩] scope pos) 0 (.ref it) (.ref d) (compEnvC scope cl s3.heap.objs.size X.env)) (compPost (model X.prog X.w) X.A X.xe use Qf (.ref d) s3.heap.objs.size) _
  generalize hC:s3.heap.objs.size=C at *
  have I4:=qLi (E:=notedBy (model X.prog X.w) X.A (compEnvC scope cl C X.env) fun e s'=>compPost (model X.prog X.w) X.A X.xe use Qf (.ref d) C (.error e) s') (tk:=s3.toks+([]:List (Str × Value)).length) K I3 hC.symm hcl hfr f3 (by rw [hC];exact lt3) hns old
  obtain ⟨hE,hT,hG⟩:=hin cl C s3 H3 fp (notedBy (model X.prog X.w) X.A (compEnvC scope cl C X.env) fun e s'=>compPost (model X.prog X.w) X.A X.xe use Qf (.ref d) C (.error e) s')
  generalize hX:cxM X N' xs scope cl C s3 H3 fp (notedBy (model X.prog X.w) X.A (compEnvC scope cl C X.env) fun e s'=>compPost (model X.prog X.w) X.A X.xe use Qf (.ref d) C (.error e) s')=X' at I4 hE hT hG
  have pX:X'.prog=X.prog:=by rw [← hX];rfl
  have wX:X'.w=X.w:=by rw [← hX];rfl
  have kX:X'.K=X.K:=by rw [← hX];rfl
  have aX:X'.A=X.A:=by rw [← hX];rfl
  have cX:X'.calm=true:=by rw [← hX];exact hc
  have eX:X'.env=compEnvC scope cl C X.env:=by rw [← hX];rfl
  have xX:X'.xe=notedBy (model X.prog X.w) X.A (compEnvC scope cl C X.env) fun e s'=>compPost (model X.prog X.w) X.A X.xe use Qf (.ref d) C (.error e) s':=by rw [← hX];rfl
  have sX:X'.s₀=s3:=by rw [← hX];rfl
  have hX0:X'.H₀=H3:=by rw [← hX];rfl
  have oX:X'.fs=frs X.stack:=by rw [← hX];rfl
  have exX:X'.ex=fp:=by rw [← hX];rfl
  have pnX:X'.pn=[]:=by rw [← hX];rfl
  have lX:X'.env.locals=C:=by rw [eX];rfl
  have stat:∀ {H':Hp},(∀ b∈fp,H' b=none)→∀ b∈fp,FpOk X' [] H' b:=fun hn b hb=>by
    refine ⟨hn b hb,?_,?_,.inl (by rw [exX];exact hb),fun y c h=>?_,fun p hp=>?_⟩
    · rw [lX]
      exact Nat.ne_of_lt (lt3 b hb)
    · rw [oX]
      intro z
      rcases List.mem_cons.mp (I3.stkSub b z) with q | q
      · exact (f3 b hb).2.1 q
      · exact (f3 b hb).2.2.1 q
    · rw [eX] at h
      exact (f3 b hb).2.2.2.2.1 y c (hcl y c h)
    · rw [pnX] at hp
      simp at hp
  have loop:∀ s':Shared,s'={ s3 with heap:=h1,toks:=s3.toks+([]:List (Str × Value)).length } →
      codeAny (model X.prog X.w) X.A (.compLoop (.ListComp elt [⟨tg,iter,ifs,0⟩] scope pos) 0 (.ref it) (.ref d) (compEnvC scope cl C X.env)) (compPost (model X.prog X.w) X.A X.xe use Qf (.ref d) C) s':=by
    rintro s' rfl
    refine qCt (fun n s'=>∃ (i:Nat) (v:L2.St) (H':Hp),v.length=xs.length∧Inv X' [] (σ++v) H' s'∧tn i s'.heap∧(∀ b∈fp,H' b=none)∧W i n H') ?_ m0 ⟨0,_,H3,List.length_map ..,I4,T.keep _ _ _ st3 fun b _ o e=>old b o e,fun b hb=>(f3 b hb).1,w0⟩
    rintro n s4 ⟨i,v4,H4,l4,I4,st4,fr4,w4⟩
    rcases turn i n H4 w4 with ⟨stop,qn⟩ | ⟨go,step⟩
    · have td:=T.done X' pX wX kX cX i [] s4 _ H4 (notedBy (model X.prog X.w) X.A (compEnvC scope cl C X.env) fun e s'=>compPost (model X.prog X.w) X.A X.xe use Qf (.ref d) C (.error e) s') I4 (stat fr4) st4 stop
      rw [aX] at td
      refine thn td fun r s5 ⟨hr,I5⟩=>?_
      subst hr
      obtain ⟨m,hn,_⟩:=I5.loc
      rw [lX] at hn
      have fC:H4 C=none:=by rw [← lX];exact I5.free
      have un:L2.Un (frs X.stack) fp H3 H4 s3.heap s5.heap:=by
        have:=I5.base
        rw [sX,hX0,oX,exX] at this
        exact this
      have IX:Inv X pins σ H4 s5:=I3.call' (by have:=I5.os;rw [sX] at this;exact this) un (by have:=I5.hok;rw [pX,wX] at this;exact this) I5.bare fun b hb=>⟨(f3 b hb).2.2.2.1,(f3 b hb).2.1,(f3 b hb).2.2.2.2.1,(f3 b hb).2.2.2.2.2⟩
      exact fin d C H4 s5 m IX hn (I3.fpOk (by rw [hC];exact Nat.le_refl _) fC) qn
    · have ti:=T.item X' pX wX kX cX i [] s4 _ H4 (notedBy (model X.prog X.w) X.A (compEnvC scope cl C X.env) fun e s'=>compPost (model X.prog X.w) X.A X.xe use Qf (.ref d) C (.error e) s') I4 (stat fr4) st4 go
      rw [aX] at ti
      refine thn ti fun r s5 ⟨u,hr,h5⟩=>?_
      subst hr
      refine thn h5 fun _ s6 ⟨xv,H6,I6,r6,y6,st6,fr6⟩=>?_
      have I6':=I6.pinned (stat fr6) (T.obj _ _ st6)
      have as:=hG _ s6 _ H6 xv _ _ I6' r6 (step xv H6 y6 v4 l4)
      rw [pX,wX,aX,xX,eX] at as
      refine thn as fun _ s7 ⟨σ7,H7,I7,⟨ws,lw,e7⟩,q7⟩=>?_
      subst e7
      have te:=qFd hT I7 q7
      rw [pX,wX,aX,xX,eX] at te
      refine thn te fun ok s8 ⟨H8,I8,q8⟩=>?_
      have again:∀ {H9:Hp} {s9:Shared} {k:Nat},Inv X' ([]++L2.pinsAt fp s6.heap) (σ++ws) H9 s9→W (i+1) k H9→∃ (i:Nat) (v:L2.St) (H':Hp),v.length=xs.length∧Inv X' [] (σ++v) H' s9∧tn i s9.heap∧(∀ b∈fp,H' b=none)∧W i k H':=fun {H9 s9 k} I9 w9=>by
        refine ⟨i+1,ws,H9,lw,I9.unpinned,T.keep _ _ _ st6 fun b hb o e=>(I9.pin (b,o) (List.mem_append_right _ (List.mem_append_right _ (L2.mem_pinsAt hb e)))).1,fun b hb=>?_,w9⟩
        obtain ⟨o,e,_⟩:=T.obj _ _ st6 b hb
        exact (I9.pin (b,o) (List.mem_append_right _ (List.mem_append_right _ (L2.mem_pinsAt hb e)))).2.1
      cases ok with
      | false =>
        obtain ⟨m',hm,w9⟩:=q8
        exact ⟨m',hm,again I8 w9⟩
      | true =>
        have ev:=hE _ s8 _ H8 _ I8 q8
        rw [pX,wX,aX,xX,eX] at ev
        refine thn ev fun y s9 ⟨yv,H9,I9,r9,ys,hd9,hz,m',hm,w9⟩=>?_
        have ap:=L2.mt_append (X:=X') _ s9 _ H9 (.ref d) [yv] (.ref d) [y] (fun _ H'=>H'=upd H9 d (.lst (ys++[yv]))) I9 rfl (.cons r9 .nil) ⟨d,ys,yv,rfl,rfl,hd9,hz,rfl⟩
        rw [pX,wX,aX,xX] at ap
        refine thn ap fun z s10 ⟨_,H10,I10,_,e10⟩=>?_
        subst e10
        exact ⟨m',hm,again I10 w9⟩
  exact codeAny_compStart_list (loop _ rfl) (T.self _ 0 _ _ _ (T.keep _ _ _ st3 fun b _ o e=>old b o e) (loop _ rfl))
theorem qIq (K:CompM X N' xs scope) (hc:X.calm=true) (hi:PI X tg iter wi) (hfs:∀ x,foldedSetIterable iter X.env x=pure x)
    (hin:∀ cl C s3 H3 fp E,PE (cxM X N' xs scope cl C s3 H3 fp E) elt te∧PTs (cxM X N' xs scope cl C s3 H3 fp E) ifs tt∧PG (cxM X N' xs scope cl C s3 H3 fp E) tg g):PE X (.ListComp elt [⟨tg,iter,ifs,0⟩] scope pos) (qGm X.K xs.length g wi tt te):=by
  intro pins s σ H Q I h
  rw [eval_ListComp]
  refine qGT (use:=none) K hc hi hfs hin I h fun d C H' s' m IX hn f q=>?_
  exact ⟨m,hn,fun h' hs'=>⟨.ref d,H',qA9 IX f hs',rfl,q⟩⟩
end
end Fy
set_option Elab.async false
set_option linter.all false
set_option maxRecDepth 100000
set_option maxHeartbeats 4000000
namespace Fy
open PySem PySem.Spec PyProof.Rows
open L2 (V Hp HO VK TE TT TA TS TI Cx Inv RelV Vals SqL SqT Rd upd qAA qAB PE PT PA PS PSs EP TP PI PG PIE Turn FpOk Ends HOk frs thn)
noncomputable def ItRep (K:PySem.W.Frag) (ρ:List Addr) (H:Hp):It→L2.It→Prop
 | .row xs,J=>(∀ (i:Nat) ρ' H',Step ρ H ρ' H'→i<xs.length→J.go i H')∧(∀ (i:Nat) ρ' H' x H'',Step ρ H ρ' H'→i<xs.length→J.yld i H' x H''→H''=H'∧∃ d,xs[i]?=some d∧RepV K ρ' H' d x)∧∀ (i:Nat) ρ' H',Step ρ H ρ' H'→i=xs.length→J.stop i H'
 | .live k,J=>∃ a,ρ[k]?=some a∧J=L2.Itl K a
 | .pairs xs,J=>(∀ (i:Nat) ρ' H',Step ρ H ρ' H'→i<xs.length→J.go i H')∧(∀ (i:Nat) ρ' H' x H'',Step ρ H ρ' H'→i<xs.length→J.yld i H' x H''→∃ p u,H' p=none∧H''=upd H' p u∧∃ d,xs[i]?=some d∧RepV K ρ' H'' d x)∧∀ (i:Nat) ρ' H',Step ρ H ρ' H'→i=xs.length→J.stop i H'
noncomputable def tDI (K:PySem.W.Frag) (W:WX) (m:Env→M It):TI:=fun σ H R=>∃ ρ env h,RepS K ρ H env σ∧RepH K ρ h H∧Post K (W.at σ) (fun ρ' H' r=>∀ J,ItRep K ρ' H' r J→R J H') ρ H (m env h)
theorem PI.imp {X:Cx} {tg e:Expr} {t t':TI} (h:PI X tg e t) (i:∀ σ H R,t' σ H R→t σ H R):PI X tg e t':=fun pins s σ H R I q=>h pins s σ H R I (i σ H R q)
theorem qEH {K:PySem.W.Frag} {ρ:List Addr} {H:Hp} (lo:Int) (n:Nat):ItRep K ρ H (.row (qAR lo n)) (L2.Itr lo n):=by
 have hl:(qAR lo n).length=n:=by unfold qAR;simp
 refine ⟨fun i ρ' H' _ hi=>by rw [hl] at hi;exact hi,fun i ρ' H' x H'' _ hi y=>?_,fun i ρ' H' _ hi=>by rw [hl] at hi;exact Nat.le_of_eq hi.symm⟩
 obtain ⟨rfl,rfl⟩:=y
 rw [hl] at hi
 refine ⟨rfl,.int (lo+i),?_,rfl⟩
 unfold qAR
 rw [List.getElem?_map,List.getElem?_range hi]
 rfl
theorem qKi {K:PySem.W.Frag} {ρ:List Addr} {H:Hp} (x:Tx):ItRep K ρ H (.row (x.map fun c=>D.str [c])) (Its ⟨x.toArray⟩):=by
 have hl:(x.map fun c=>D.str [c]).length=x.toArray.size:=by simp
 refine ⟨fun i ρ' H' _ hi=>by rw [hl] at hi;exact hi,fun i ρ' H' z H'' _ hi y=>?_,fun i ρ' H' _ hi=>by rw [hl] at hi;exact hi⟩
 obtain ⟨rfl,c,hc,rfl⟩:=y
 refine ⟨rfl,.str [c],?_,rfl⟩
 have hc:x.toArray[i]?=some c:=hc
 rw [List.getElem?_map]
 rw [List.getElem?_toArray] at hc
 rw [hc]
 rfl
theorem qKh {K:PySem.W.Frag} {ρ:List Addr} {H:Hp} {xs:List D} {vs:List V} {a:Addr} (ha:SqT K H a vs) (hx:RepL K ρ H xs vs):ItRep K ρ H (.row xs) (L2.Itt K a):=by
 have hl:=hx.length
 refine ⟨fun i ρ' H' e hi=>?_,fun i ρ' H' z H'' e hi y=>?_,fun i ρ' H' e hi=>⟨vs,e.sqt ha,by omega⟩⟩
 ·exact ⟨vs,vs[i]'(by omega),e.sqt ha,by simp [show i<vs.length by omega]⟩
 ·obtain ⟨rfl,y⟩:=y
  have q:xs[i]?=some xs[i]:=by simp [hi]
  obtain ⟨w,h1,h2⟩:=hx.get q
  have y':=y vs (e.sqt ha)
  rw [h1] at y'
  cases y'
  exact ⟨rfl,_,q,h2.mono e _ _⟩
section
variable {X:Cx} {F:Nat→List D→M D} {tg:Expr} {W:WX}
theorem di_of {e:Expr} {c:CE} (he:PE X e (tD X.K W (den F c))):PI X tg e (tDI X.K W (denI F (.of c))):=PI.imp (qMs he) fun σ H Rr t=>by
 obtain ⟨ρ,env,h,s,r,p⟩:=t
 rw [denI] at p
 refine ⟨ρ,env,h,s,r,Post.bind p fun ρ1 h1 d H1 e1 r1 q v hv=>?_⟩
 cases d with
 | str x=>cases hv;exact .inr (.inr ⟨_,rfl,Post.ret (a:=It.row (x.map fun c=>D.str [c])) q r1 _ (qKi x)⟩)
 | tup xs =>
  obtain ⟨a,vs,rfl,k1,k2⟩:=hv
  exact .inr (.inl ⟨a,rfl,⟨vs,k1⟩,Post.ret (a:=It.row xs) q r1 _ (qKh k1 k2)⟩)
 | ref i =>
  have q:Post X.K (W.at σ) _ ρ1 H1 (match getL h1 i with | some _=>R.ok (It.live i) h1 | none=>.bad):=q
  cases z:getL h1 i with
  | none=>rw [z] at q;exact False.elim q
  | some xs =>
   rw [z] at q
   obtain ⟨a,k1,rfl⟩:=hv
   obtain ⟨b,vs,k2,k3,_⟩:=r1.list z
   rw [k1] at k2
   cases k2
   exact .inl ⟨a,rfl,⟨vs,k3⟩,Post.ret (a:=It.live i) q r1 _ ⟨a,k1,rfl⟩⟩
 | _=>exact False.elim q
theorem qLd {a:Expr} {p1 p2:Pos} {c:CE} (hgl:L2.Gl X "range") (hm:X.mg "range"=none) (he:PE X a (tD X.K W (den F c))) (hst:starEach [a] X.env=[(false,eval a X.env)]) :
    PI X tg (.Call (.Name "range" p1) [a] [] p2) (tDI X.K W (denI F (.rng1 c))):=PI.imp (L2.pi_range1 hgl hm (L2.pa_cons he L2.pa_nil hst) hst) fun σ H R t=>by
  obtain ⟨ρ,env,h,s,r,p⟩:=t
  rw [denI] at p
  refine ⟨ρ,env,h,s,r,Post.bind p fun ρ1 h1 d H1 e1 r1 q v hv=>?_⟩
  cases d with
  | int j =>
    cases hv
    obtain ⟨z,q⟩:=Post.when q
    exact ⟨j,rfl,by have:=z.1;omega,by have:=z.2;omega,Post.ret q r1 _ (qEH 0 j.toNat)⟩
  | _=>exact False.elim q
theorem qLc {a b:Expr} {p1 p2:Pos} {c c':CE} (hgl:L2.Gl X "range") (hm:X.mg "range"=none) (he:PE X a (tD X.K W (den F c))) (he':PE X b (tD X.K W (den F c'))) (hst:starEach [a,b] X.env=[(false,eval a X.env),(false,eval b X.env)]) (hst2:starEach [b] X.env=[(false,eval b X.env)]) :
    PI X tg (.Call (.Name "range" p1) [a,b] [] p2) (tDI X.K W (denI F (.rng2 c c'))):=PI.imp (L2.pi_range2 hgl hm (L2.pa_cons he (L2.pa_cons he' L2.pa_nil hst2) (by rw [hst,hst2])) hst hst2) fun σ H R t=>by
  obtain ⟨ρ,env,h,s,r,p⟩:=t
  rw [denI] at p
  refine ⟨ρ,env,h,s,r,Post.bind p fun ρ1 h1 d H1 e1 r1 q v hv=>?_⟩
  refine ⟨ρ1,env,h1,s.mono e1,r1,Post.bind q fun ρ2 h2 d2 H2 e2 r2 q2 w hw=>?_⟩
  have hv:=hv.mono e2 _ _
  cases d with
  | int i =>
    cases d2 with
    | int j =>
      cases hv
      cases hw
      obtain ⟨z,q⟩:=Post.when q2
      exact ⟨i,j,rfl,⟨by have:=z.1.1;omega,by have:=z.1.2;omega,by have:=z.2.1;omega,by have:=z.2.2;omega⟩,Post.ret q r2 _ (qEH i _)⟩
    | _=>exact False.elim q2
  | _=>exact False.elim q2
end
noncomputable def del (H:Hp) (d:Addr):Hp:=fun b=>if b=d then none else H b
theorem qAn {H:Hp} {d:Addr}:del H d d=none:=if_pos rfl
theorem qBC {H:Hp} {d b:Addr} (h:b≠d):del H d b=H b:=if_neg h
theorem qAc {H:Hp} {d:Addr} {o:HO}:del (upd H d o) d=del H d:=by
 funext b
 by_cases h:b=d
 ·rw [h,qAn,qAn]
 ·rw [qBC h,qBC h,qAB h]
theorem qDX {H:Hp} {d:Addr} {o:HO} (h:H d=some o):upd (del H d) d o=H:=by
 funext b
 by_cases hb:b=d
 ·rw [hb,qAA,h]
 ·rw [qAB hb,qBC hb]
theorem qAo {H:Hp} {d:Addr} (h:H d=none):del H d=H:=by
 funext b
 by_cases hb:b=d
 ·rw [hb,qAn,h]
 ·rw [qBC hb]
section
variable {K:PySem.W.Frag} {ρ:List Addr} {H:Hp} {d:Addr} {ys:List V}
theorem qKX (hd:H d=some (.lst ys)) {a:Addr} {vs:List V} (h:SqT K H a vs):SqT K (del H d) a vs:=by
 rcases h with (h | ⟨o,h⟩) | h
 ·exact .inl (.inl (by rw [qBC (by rintro rfl;rw [hd] at h;cases h)];exact h))
 ·exact .inl (.inr ⟨o,by rw [qBC (by rintro rfl;rw [hd] at h;cases h)];exact h⟩)
 ·exact .inr h
mutual
theorem RepV.del (hd:H d=some (.lst ys)):∀ (x:D) (v:V),RepV K ρ H x v→RepV K ρ (del H d) x v
 | .non,_,h=>h
 | .bl _,_,h=>h
 | .int _,_,h=>h
 | .str _,_,h=>h
 | .tup xs,v,⟨a,vs,h1,h2,h3⟩=>⟨a,vs,h1,qKX hd h2,RepL.del hd xs vs h3⟩
 | .ref _,_,h=>h
theorem RepL.del (hd:H d=some (.lst ys)):∀ (xs:List D) (vs:List V),RepL K ρ H xs vs→RepL K ρ (del H d) xs vs
 | [],_,h=>h
 | x::xs,_,⟨v,r,h1,h2,h3⟩=>⟨v,r,h1,RepV.del hd x v h2,RepL.del hd xs r h3⟩
end
theorem RepF.del {C:Addr} (hd:H d=some (.lst ys)):∀ (xs:List (Nat × D)) (vs:List (Str × V)),RepF K ρ H C xs vs→RepF K ρ (del H d) C xs vs
 | [],_,h=>h
 | x::xs,_,⟨v,r,h1,hb,hn,h2,h3⟩=>⟨v,r,h1,hb,hn,RepV.del hd _ v h2,RepF.del hd xs r h3⟩
theorem RepK.del (hd:H d=some (.lst ys)):∀ (xs:List (Ky × D)) (vs:List (L2.Key × V)),RepK K ρ H xs vs→RepK K ρ (del H d) xs vs
 | [],_,h=>h
 | x::xs,_,⟨v,r,h1,h2,h3⟩=>⟨v,r,h1,RepV.del hd _ v h2,RepK.del hd xs r h3⟩
theorem RepH.del {h:AH} (r:RepH K ρ h H) (hd:H d=some (.lst ys)) (hn:d∉ρ):RepH K ρ h (del H d):=by
 refine ⟨r.len,fun i o hi=>?_,r.inj⟩
 obtain ⟨a,h1,h2⟩:=r.obj i o hi
 have na:a≠d:=by
  rintro rfl
  exact hn (List.mem_of_getElem? h1)
 refine ⟨a,h1,?_⟩
 cases o with
 | lst xs =>
  obtain ⟨vs,k1,k2⟩:=h2
  exact ⟨vs,by rw [qBC na];exact k1,k2.del hd _ _⟩
 | rol xs =>
  obtain ⟨vs,k1,k2⟩:=h2
  refine ⟨vs,?_,k2.del hd _ _⟩
  rcases k1 with ⟨ob,k1⟩ | k1
  ·exact .inl ⟨ob,by rw [qBC na];exact k1⟩
  ·exact .inr k1
 | ins c fs =>
  obtain ⟨C,dx,vs,k1,kc,k2,k3⟩:=h2
  exact ⟨C,dx,vs,k1,kc,by rw [qBC na];exact k2,k3.del hd _ _⟩
 | dct kvs =>
  obtain ⟨vs,k1,k2⟩:=h2
  exact ⟨vs,by rw [qBC na];exact k1,k2.del hd _ _⟩
 | xc c =>
  obtain ⟨C,k1,k2⟩:=h2
  exact ⟨C,k1,by rw [qBC na];exact k2⟩
theorem Step.del {ρ':List Addr} {H':Hp} (e:Step ρ H ρ' H') (hn:d∉ρ) (hd:H d=some (.lst ys)):Step ρ (del H d) ρ' (del H' d)∧d∉ρ'∧H' d=some (.lst ys):=by
 refine ⟨⟨e.pre,fun a ha=>?_,fun a o h c=>?_⟩,fun z=>?_,e.keep _ _ hd (.inr hn)⟩
 ·rcases e.new a ha with z | z
  ·exact .inl z
  ·refine .inr ?_
   by_cases q:a=d
   ·rw [q];exact qAn
   ·rw [qBC q];exact z
 ·have na:a≠d:=by
   rintro rfl
   rw [qAn] at h
   cases h
  rw [qBC na] at h ⊢
  exact e.keep a o h c
 ·rcases e.new d z with q | q
  ·exact hn q
  ·rw [hd] at q;cases q
end
theorem qDb {α β:Type} (a:α) (f:α→M β):M.bind (M.ret a) f=f a:=rfl
theorem qBq (f:D→M (Option D)) (x:D) (r acc:List D):(M.bind (qAI f (x::r)) fun rest=>newL (acc++rest))=M.bind (f x) fun y=>M.bind (qAI f r) fun rest=>newL ((acc++y.toList)++rest):=by
 rw [qAI,qAL]
 congr 1
 funext y
 rw [qAL]
 congr 1
 funext ys
 rw [qDb]
 cases y <;> simp
section
variable {K:PySem.W.Frag} {F:Nat→List D→M D} {Q:VK} {w:W1} {W:WX}
structure Mid (K:PySem.W.Frag) (ρ1:List Addr) (H1:Hp) (d:Addr) (ρ:List Addr) (h:AH) (acc:List D) (ys:List V) (H:Hp):Prop where
 st:Step ρ1 H1 ρ (del H d)
 nd:d∉ρ
 at':H d=some (.lst ys)
 rh:RepH K ρ h (del H d)
 rl:RepL K ρ (del H d) acc ys
theorem Mid.up {ρ1 ρ:List Addr} {H1 H:Hp} {d:Addr} {h:AH} {acc:List D} {ys:List V} (G0:Mid K ρ1 H1 d ρ h acc ys H):Step ρ (del H d) ρ H:=by
 have:=Step.fresh (ρ:=ρ) (H:=del H d) (p:=d) (o:=.lst ys) qAn
 rw [qDX G0.at'] at this
 exact this
theorem Mid.rh' {ρ1 ρ:List Addr} {H1 H:Hp} {d:Addr} {h:AH} {acc:List D} {ys:List V} (G0:Mid K ρ1 H1 d ρ h acc ys H):RepH K ρ h H:=by
 have:=G0.rh.fresh (p:=d) (o:=.lst ys) qAn
 rw [qDX G0.at'] at this
 exact this
theorem Mid.go {ρ1 ρ ρ2:List Addr} {H1 H H2:Hp} {d:Addr} {h h2:AH} {acc:List D} {ys:List V} (G0:Mid K ρ1 H1 d ρ h acc ys H) (e:Step ρ H ρ2 H2) (r:RepH K ρ2 h2 H2):Step ρ (del H d) ρ2 (del H2 d)∧Mid K ρ1 H1 d ρ2 h2 acc ys H2:=by
 obtain ⟨e1,e2,e3⟩:=e.del G0.nd G0.at'
 exact ⟨e1,G0.st.trans e1,e2,e3,r.del e3 e2,G0.rl.mono e1 _ _⟩
theorem Mid.add {ρ1 ρ:List Addr} {H1 H:Hp} {d:Addr} {h:AH} {acc:List D} {ys:List V} {y:D} {v:V} (G0:Mid K ρ1 H1 d ρ h acc ys H) (hv:RepV K ρ H y v):Mid K ρ1 H1 d ρ h (acc++[y]) (ys++[v]) (upd H d (.lst (ys++[v]))):=by
 refine ⟨by rw [qAc];exact G0.st,G0.nd,qAA,by rw [qAc];exact G0.rh,?_⟩
 rw [qAc]
 exact G0.rl.append ⟨v,[],rfl,hv.del G0.at' _ _,rfl⟩
theorem emit {ρ1 ρ:List Addr} {H1 H:Hp} {d:Addr} {h:AH} {acc:List D} {ys:List V} {m:Env→M D} {rest:List D→M D} {env:Env} {σ:L2.St} {W:Hp→Prop} (G0:Mid K ρ1 H1 d ρ h acc ys H) (s:RepS K ρ H env σ) (hz:acc.length<16777216)
    (p:PostV K w Q ρ (del H d) (M.bind (m env).calm (fun y=>rest (acc++[y])) h))
    (hW:∀ ρ' h' acc' ys' H',Mid K ρ1 H1 d ρ' h' acc' ys' H'→acc'.length=acc.length+1→PostV K w Q ρ' (del H' d) (rest acc' h')→W H') :
    tD K WF m σ H fun v H3=>∃ ys,H3 d=some (.lst ys)∧ys.length<sizeLine∧W (upd H3 d (.lst (ys++[v]))):=by
  refine ⟨ρ,env,h,s,G0.rh',?_⟩
  unfold M.bind M.calm at p
  cases q:m env h with
  | ok y h2 =>
    rw [q] at p
    intro ρ2 H2 e2 r2 v hv
    obtain ⟨e3,M2⟩:=G0.go e2 r2
    refine ⟨ys,M2.at',by rw [G0.rl.length,szEq];exact hz,hW ρ2 h2 _ _ _ (M2.add hv) (by simp) ?_⟩
    rw [qAc]
    exact Post.mono p e3
  | exc c h2=>rw [q] at p;exact False.elim p
  | bad=>rw [q] at p;exact p
noncomputable def qEv (K:PySem.W.Frag) (f:Env→D→M (Option D)) (tt:Option TT) (te:TE):Prop :=
 ∀ (w:W1) (Q:VK) (ρ1 ρ:List Addr) (H1 H:Hp) (d:Addr) (h:AH) (acc:List D) (ys:List V) (rest:List D→M D) (env:Env) (σ:L2.St) (W:Hp→Prop) (x:D) (xv:V),Mid K ρ1 H1 d ρ h acc ys H→RepS K ρ H env σ→RepV K ρ H x xv→acc.length<16777216 →
  PostV K w Q ρ (del H d) (M.bind (f env x) (fun y=>rest (acc++y.toList)) h) →
  (∀ ρ' h' acc' ys' H',Mid K ρ1 H1 d ρ' h' acc' ys' H'→acc'.length≤acc.length+1→PostV K w Q ρ' (del H' d) (rest acc' h')→W H') →
  optT tt (σ++[some xv]) H fun b H2=>if b=true then te (σ++[some xv]) H2 fun v H3=>∃ ys,H3 d=some (.lst ys)∧ys.length<sizeLine∧W (upd H3 d (.lst (ys++[v]))) else W H2
theorem RepS.snoc {ρ:List Addr} {H:Hp} {env:Env} {σ:L2.St} {x:D} {xv:V} (s:RepS K ρ H env σ) (hx:RepV K ρ H x xv):RepS K ρ H (env++[some x]) (σ++[some xv]):=by
 refine ⟨by simp [s.1],fun i e hi=>?_⟩
 by_cases hlt:i<env.length
 ·rw [List.getElem?_append_left hlt] at hi
  rw [List.getElem?_append_left (by rw [← s.1];exact hlt)]
  exact s.2 i e hi
 ·rw [List.getElem?_append_right (Nat.le_of_not_lt hlt)] at hi
  rw [List.getElem?_append_right (by rw [← s.1];exact Nat.le_of_not_lt hlt),← s.1]
  cases q:i-env.length with
  | zero =>
   rw [q] at hi
   cases hi
   exact ⟨xv,rfl,hx⟩
  | succ n=>rw [q] at hi;simp at hi
theorem qB8 (m:Env→M D):qEv K (fun env x=>compF m env x) none (tD K WF m):=by
 intro w Q ρ1 ρ H1 H d h acc ys rest env σ W x xv G0 s hx hz p hW
 refine L2.iteT (B:=W H) (emit (rest:=rest) G0 (s.snoc hx) hz ?_ fun ρ' h' acc' ys' H' M' hl p'=>hW ρ' h' acc' ys' H' M' (Nat.le_of_eq hl) p')
 have e:(M.bind (compF m env x) fun y=>rest (acc++y.toList))=M.bind (m (env++[some x])).calm fun y=>rest (acc++[y]):=by
  unfold compF
  rw [qAL]
  rfl
 rw [e] at p
 exact p
theorem qCZ (m:Env→M D) (c:Env→M Bool):qEv K (fun env x=>qAw m c env x) (some (tDT K WF c)) (tD K WF m):=by
 intro w Q ρ1 ρ H1 H d h acc ys rest env σ W x xv G0 s hx hz p hW
 have p:PostV K w Q ρ (del H d) (M.bind (M.bind (c (env++[some x])).calm fun k=>if k then M.bind (m (env++[some x])).calm (fun y=>M.ret (some y)) else M.ret none) (fun y=>rest (acc++y.toList)) h):=p
 rw [qAL] at p
 refine ⟨ρ,env++[some x],h,s.snoc hx,G0.rh',?_⟩
 unfold M.bind M.calm at p
 cases q:c (env++[some x]) h with
 | ok k h2 =>
  rw [q] at p
  intro ρ2 H2 e2 r2
  obtain ⟨e3,M2⟩:=G0.go e2 r2
  have p:=Post.mono p e3
  cases k with
  | true =>
   refine L2.iteT (emit (rest:=rest) M2 ((s.snoc hx).mono e2) hz ?_ fun ρ' h' acc' ys' H' M' hl p'=>hW ρ' h' acc' ys' H' M' (Nat.le_of_eq hl) p')
   have e:(M.bind (M.bind (m (env++[some x])).calm fun y=>M.ret (some y)) fun y=>rest (acc++y.toList))=M.bind (m (env++[some x])).calm fun y=>rest (acc++[y]):=by
    rw [qAL]
    rfl
   have p':PostV K w Q ρ2 (del H2 d) (M.bind (M.bind (m (env++[some x])).calm fun y=>M.ret (some y)) (fun y=>rest (acc++y.toList)) h2):=p
   rw [e] at p'
   exact p'
  | false =>
   refine L2.iteF (hW ρ2 h2 acc ys H2 M2 (Nat.le_succ _) ?_)
   have p':PostV K w Q ρ2 (del H2 d) (rest (acc++[]) h2):=p
   rw [List.append_nil] at p'
   exact p'
 | exc _ h2=>rw [q] at p;exact False.elim p
 | bad=>rw [q] at p;exact p
theorem compI {f:Env→D→M (Option D)} {tt:Option TT} {te:TE} {mi:Env→M It} (ht:qEv K f tt te) {σ:L2.St} {H:Hp} (t:tD K W (fun env=>M.bind (mi env) fun r=>M.bind (mapIt (f env) r) newL) σ H Q):tComp K (tDI K W mi) tt te σ H Q:=by
 obtain ⟨ρ,env,h,s,r,p⟩:=t
 refine ⟨ρ,env,h,s,r,Post.bind p fun ρ1 h1 it H1 e1 r1 q J hJ d hd hK=>?_⟩
 have s1:=s.mono e1
 have nd:d∉ρ1:=fun z=>by
  obtain ⟨k,hk⟩:=List.getElem?_of_mem z
  have hlt:=(List.getElem?_eq_some_iff.mp hk).1
  obtain ⟨a,h2,h3⟩:=r1.obj k _ (List.getElem?_eq_getElem (by rw [← r1.len];exact hlt))
  rw [hk] at h2
  cases h2
  generalize h1[k]'(by rw [← r1.len];exact hlt)=o at h3
  cases o with
  | lst xs=>obtain ⟨vs,z1,_⟩:=h3;rw [hd] at z1;cases z1
  | rol xs =>
   obtain ⟨vs,z1,_⟩:=h3
   rcases z1 with ⟨ob,z1⟩ | ⟨ob,its,n,z1,_⟩
   ·rw [hd] at z1;cases z1
   ·rw [hK] at z1;cases z1
  | ins c fs=>obtain ⟨C,dx,vs,_,_,z1,_⟩:=h3;rw [hd] at z1;cases z1
  | dct kvs=>obtain ⟨vs,z1,_⟩:=h3;rw [hd] at z1;cases z1
  | xc c=>obtain ⟨C,_,z1⟩:=h3;rw [hd] at z1;cases z1
 have M0:Mid K ρ1 H1 d ρ1 h1 [] [] (upd H1 d (.lst [])):=⟨by rw [qAc,qAo hd];exact Step.refl _ _,nd,qAA,by rw [qAc,qAo hd];exact r1,rfl⟩
 have fin:∀ {w:W1} {ρ' h' acc ys H'},Mid K ρ1 H1 d ρ' h' acc ys H'→PostV K w Q ρ' (del H' d) (newL (acc++[]) h')→Q (.ref d) H':=fun {w ρ' h' acc ys H'} G0 p=>by
  rw [List.append_nil] at p
  have q:=(PostV.newL p G0.rh G0.rl).2 d qAn
  rw [qDX G0.at'] at q
  exact q
 cases it with
 | row xs =>
  obtain ⟨go,yl,sp⟩:=hJ
  have q:PostV K (W.at σ) Q ρ1 H1 (M.bind (M.when (xs.length<16777216) (qAI (f env) xs)) newL h1):=q
  have hz:xs.length<16777216:=by
   unfold M.bind M.when at q
   by_cases z:xs.length<16777216
   ·exact z
   ·rw [if_neg z] at q;exact False.elim q
  have q:PostV K (W.at σ) Q ρ1 H1 (M.bind (qAI (f env) xs) (fun rest=>newL ([]++rest)) h1):=by
   unfold M.bind M.when at q
   rw [if_pos hz] at q
   exact q
  refine ⟨fun i m H'=>m=xs.length-i∧i≤xs.length∧∃ ρ' h' acc ys,Mid K ρ1 H1 d ρ' h' acc ys H'∧acc.length≤i∧PostV K (W.at σ) Q ρ' (del H' d) (M.bind (qAI (f env) (xs.drop i)) (fun rest=>newL (acc++rest)) h'),⟨_,rfl,Nat.zero_le _,ρ1,h1,[],[],M0,Nat.le_refl _,by rw [qAc,qAo hd];exact q⟩,?_⟩
  rintro i m H' ⟨rfl,hi,ρ',h',acc,ys,G0,ha,p'⟩
  have up:Step ρ1 H1 ρ' H':=G0.st.trans G0.up
  by_cases hlt:i<xs.length
  ·refine .inr ⟨go i ρ' H' up hlt,fun x H'' y=>?_⟩
   obtain ⟨rfl,dx,hdx,hv⟩:=yl i ρ' H' x H'' up hlt y
   rw [List.drop_eq_getElem_cons hlt] at p'
   have ed:xs[i]=dx:=by
    rw [List.getElem?_eq_getElem hlt] at hdx
    exact Option.some.inj hdx
   rw [ed,qBq] at p'
   exact ht _ Q ρ1 ρ' H1 H'' d h' acc ys (fun a=>M.bind (qAI (f env) (xs.drop (i+1))) fun rest=>newL (a++rest)) env σ (fun H3=>∃ m',m'<xs.length-i∧m'=xs.length-(i+1)∧i+1≤xs.length∧∃ ρ' h' acc ys,Mid K ρ1 H1 d ρ' h' acc ys H3∧acc.length≤i+1∧PostV K (W.at σ) Q ρ' (del H3 d) (M.bind (qAI (f env) (xs.drop (i+1))) (fun rest=>newL (acc++rest)) h')) dx x G0 (s1.mono up) hv (by omega) p'
    fun ρ2 h2 acc2 ys2 H2 M2 hl2 p2=>⟨xs.length-(i+1),by omega,rfl,hlt,ρ2,h2,acc2,ys2,M2,by omega,p2⟩
  ·have e:i=xs.length:=by omega
   subst e
   rw [List.drop_length] at p'
   exact .inl ⟨sp _ ρ' H' up rfl,fin G0 p'⟩
 | pairs xs=>exact (show False from q).elim
 | live k =>
  obtain ⟨a,ha,rfl⟩:=hJ
  have q:PostV K (W.at σ) Q ρ1 H1 (M.bind (M.when (liveN h1 k<16777216) (qAE (f env) k (liveN h1 k) 0)) newL h1):=q
  have hz:liveN h1 k<16777216:=by
   unfold M.bind M.when at q
   by_cases z:liveN h1 k<16777216
   ·exact z
   ·rw [if_neg z] at q;exact False.elim q
  have q:PostV K (W.at σ) Q ρ1 H1 (M.bind (qAE (f env) k (liveN h1 k) 0) (fun rest=>newL ([]++rest)) h1):=by
   unfold M.bind M.when at q
   rw [if_pos hz] at q
   exact q
  generalize liveN h1 k=n at hz q
  refine ⟨fun i m H'=>m+i=n∧∃ ρ' h' acc ys,Mid K ρ1 H1 d ρ' h' acc ys H'∧acc.length≤i∧PostV K (W.at σ) Q ρ' (del H' d) (M.bind (qAE (f env) k m i) (fun rest=>newL (acc++rest)) h'),⟨n,rfl,ρ1,h1,[],[],M0,Nat.le_refl _,by rw [qAc,qAo hd];exact q⟩,?_⟩
  rintro i m H' ⟨hm,ρ',h',acc,ys,G0,hl,p'⟩
  have up:Step ρ1 H1 ρ' H':=G0.st.trans G0.up
  cases m with
  | zero=>exact False.elim p'
  | succ m =>
   have r':=G0.rh'
   cases qg:getL h' k with
   | none =>
    unfold M.bind qAE at p'
    rw [qg] at p'
    exact False.elim p'
   | some xs =>
    obtain ⟨b,vs,h2,h3,h4⟩:=r'.list qg
    rw [qBp up.pre ha] at h2
    cases h2
    cases qx:xs[i]? with
    | none =>
     refine .inl ⟨⟨vs,h3,?_⟩,fin (w:=W.at σ) G0 ?_⟩
     ·rw [h4.length]
      exact List.getElem?_eq_none_iff.mp qx
     ·unfold M.bind qAE at p'
      simp only [qg,qx] at p'
      exact p'
    | some dx =>
     obtain ⟨w,hw,hv⟩:=h4.get qx
     refine .inr ⟨⟨vs,w,h3,hw⟩,fun x H'' y=>?_⟩
     obtain ⟨rfl,y⟩:=y
     have ew:=y vs h3
     rw [hw] at ew
     cases ew
     have e:M.bind (qAE (f env) k (m+1) i) (fun rest=>newL (acc++rest)) h'=M.bind (f env dx) (fun y=>M.bind (qAE (f env) k m (i+1)) fun rest=>newL ((acc++y.toList)++rest)) h':=by
      have e1:qAE (f env) k (m+1) i h'=M.bind (f env dx) (fun y=>M.bind (qAE (f env) k m (i+1)) fun ys=>M.ret (match y with | some y=>y::ys | none=>ys)) h':=by
       rw [qAE]
       simp only [qg,qx] <;> rfl
      show R.bind (qAE (f env) k (m+1) i h') _=_
      rw [e1]
      show M.bind (M.bind (f env dx) _) (fun rest=>newL (acc++rest)) h'=_
      rw [qAL]
      congr 1
      funext y
      rw [qAL]
      congr 1
      funext ys
      rw [qDb]
      cases y <;> simp
     rw [e] at p'
     exact ht _ Q ρ1 ρ' H1 _ d h' acc ys (fun a=>M.bind (qAE (f env) k m (i+1)) fun rest=>newL (a++rest)) env σ (fun H3=>∃ m',m'<m+1∧m'+(i+1)=n∧∃ ρ' h' acc ys,Mid K ρ1 H1 d ρ' h' acc ys H3∧acc.length≤i+1∧PostV K (W.at σ) Q ρ' (del H3 d) (M.bind (qAE (f env) k m' (i+1)) (fun rest=>newL (acc++rest)) h')) dx _ G0 (s1.mono up) hv (by omega) p'
      fun ρ2 h2 acc2 ys2 H2 M2 hl2 p2=>⟨m,Nat.lt_succ_self _,by omega,ρ2,h2,acc2,ys2,M2,by omega,p2⟩
end
end Fy
set_option Elab.async false
set_option linter.all false
set_option maxRecDepth 100000
set_option maxHeartbeats 4000000
namespace Fy
open PySem PySem.Spec PyProof.Rows
open L2 (V Hp HO VK TE TT TA TS TI Cx Inv RelV Vals SqL SqT Rd upd qAA qAB PE PT PA PS PSs EP TP PI PG PIE Turn FpOk Ends HOk frs thn)
section
variable {K:PySem.W.Frag} {W:WX} {Q:VK}
noncomputable def g2 (K:PySem.W.Frag) (n:Nat):L2.TG:=L2.gTup K 2 (L2.gCons (L2.gName n) (L2.gCons (L2.gName (n+1)) L2.gNil))
noncomputable def TurnM (K:PySem.W.Frag) (f:Env→D→M (Option D)) (tt:Option TT) (te:TE):Prop :=
 ∀ (w:W1) (Q:VK) (ρ1 ρ:List Addr) (H1 H:Hp) (d:Addr) (h:AH) (acc:List D) (ys:List V) (rest:List D→M D) (env:Env) (σ:L2.St) (W:Hp→Prop) (x:D) (xv:V),Mid K ρ1 H1 d ρ h acc ys H→RepS K ρ H env σ→RepV K ρ H x xv→acc.length<16777216 →
  PostV K w Q ρ (del H d) (M.bind (f env x) (fun y=>rest (acc++y.toList)) h) →
  (∀ ρ' h' acc' ys' H',Mid K ρ1 H1 d ρ' h' acc' ys' H'→acc'.length≤acc.length+1→PostV K w Q ρ' (del H' d) (rest acc' h')→W H') →
  ∀ vs:L2.St,vs.length=2→g2 K σ.length xv (σ++vs) H fun σ' H''=>(∃ ws:L2.St,ws.length=2∧σ'=σ++ws)∧optT tt σ' H'' fun b H2=>if b=true then te σ' H2 fun v H3=>∃ ys,H3 d=some (.lst ys)∧ys.length<sizeLine∧W (upd H3 d (.lst (ys++[v]))) else W H2
theorem qIe {f:Env→D→M (Option D)} {tt:Option TT} {te:TE} (ht:qEv K f tt te):TurnM K (twoF f) tt te:=by
 intro w Q ρ1 ρ H1 H d h acc ys rest env σ W x xv G0 s hx hz p hW vs hv
 have bad:PostV K w Q ρ (del H d) (M.bind (fun _=>.bad:M (Option D)) (fun y=>rest (acc++y.toList)) h)→False:=fun p=>p
 cases x with
 | tup es =>
  match es,hx,p with
  | [a,b],hx,p =>
   obtain ⟨ad,us,rfl,sq,rl⟩:=hx
   obtain ⟨ua,r1,rfl,ra,ub,r2,rfl,rb,e2⟩:=rl
   have e2:r2=[]:=e2
   subst e2
   ·match vs,hv with
    | [v1,v2],_ =>
     refine ⟨ad,[ua,ub],rfl,sq,rfl,ua,[ub],rfl,ub,[],rfl,rfl,⟨[some ua,some ub],rfl,?_⟩,?_⟩
     ·simp
     ·have:=ht w Q ρ1 ρ H1 H d h acc ys rest (env++[some a]) (σ++[some ua]) W b ub G0 (s.snoc ra) rb hz p hW
      have e:((σ++[v1,v2]).set σ.length (some ua)).set (σ.length+1) (some ub)=σ++[some ua]++[some ub]:=by simp
      rw [e]
      exact this
  | [],_,p=>exact (bad p).elim
  | [_],_,p=>exact (bad p).elim
  | _::_::_::_,_,p=>exact (bad p).elim
 | _=>exact (bad p).elim
theorem qNz {f:Env→D→M (Option D)} {tt:Option TT} {te:TE} {mi:Env→M It} (ht:TurnM K f tt te) {σ:L2.St} {H:Hp} (t:tD K W (fun env=>M.bind (mi env) fun r=>M.bind (qCf (f env) r) newL) σ H Q):qGm K 2 (g2 K σ.length) (tDI K W mi) tt te σ H Q:=by
 obtain ⟨ρ,env,h,s,r,p⟩:=t
 refine ⟨ρ,env,h,s,r,Post.bind p fun ρ1 h1 it H1 e1 r1 q J hJ d hd hK=>?_⟩
 have s1:=s.mono e1
 have nd:d∉ρ1:=fun z=>by
  obtain ⟨k,hk⟩:=List.getElem?_of_mem z
  have hlt:=(List.getElem?_eq_some_iff.mp hk).1
  obtain ⟨a,h2,h3⟩:=r1.obj k _ (List.getElem?_eq_getElem (by rw [← r1.len];exact hlt))
  rw [hk] at h2
  cases h2
  generalize h1[k]'(by rw [← r1.len];exact hlt)=o at h3
  cases o with
  | lst xs=>obtain ⟨vs,z1,_⟩:=h3;rw [hd] at z1;cases z1
  | rol xs =>
   obtain ⟨vs,z1,_⟩:=h3
   rcases z1 with ⟨ob,z1⟩ | ⟨ob,its,n,z1,_⟩
   ·rw [hd] at z1;cases z1
   ·rw [hK] at z1;cases z1
  | ins c fs=>obtain ⟨C,dx,vs,_,_,z1,_⟩:=h3;rw [hd] at z1;cases z1
  | dct kvs=>obtain ⟨vs,z1,_⟩:=h3;rw [hd] at z1;cases z1
  | xc c=>obtain ⟨C,_,z1⟩:=h3;rw [hd] at z1;cases z1
 have M0:Mid K ρ1 H1 d ρ1 h1 [] [] (upd H1 d (.lst [])):=⟨by rw [qAc,qAo hd];exact Step.refl _ _,nd,qAA,by rw [qAc,qAo hd];exact r1,rfl⟩
 have fin:∀ {w:W1} {ρ' h' acc ys H'},Mid K ρ1 H1 d ρ' h' acc ys H'→PostV K w Q ρ' (del H' d) (newL (acc++[]) h')→Q (.ref d) H':=fun {w ρ' h' acc ys H'} G0 p=>by
  rw [List.append_nil] at p
  have q:=(PostV.newL p G0.rh G0.rl).2 d qAn
  rw [qDX G0.at'] at q
  exact q
 cases it with
 | row xs =>
  obtain ⟨go,yl,sp⟩:=hJ
  have q:PostV K (W.at σ) Q ρ1 H1 (M.bind (M.when (xs.length<16777216) (qAI (f env) xs)) newL h1):=q
  have hz:xs.length<16777216:=by
   unfold M.bind M.when at q
   by_cases z:xs.length<16777216
   ·exact z
   ·rw [if_neg z] at q;exact False.elim q
  have q:PostV K (W.at σ) Q ρ1 H1 (M.bind (qAI (f env) xs) (fun rest=>newL ([]++rest)) h1):=by
   unfold M.bind M.when at q
   rw [if_pos hz] at q
   exact q
  refine ⟨fun i m H'=>m=xs.length-i∧i≤xs.length∧∃ ρ' h' acc ys,Mid K ρ1 H1 d ρ' h' acc ys H'∧acc.length≤i∧PostV K (W.at σ) Q ρ' (del H' d) (M.bind (qAI (f env) (xs.drop i)) (fun rest=>newL (acc++rest)) h'),⟨_,rfl,Nat.zero_le _,ρ1,h1,[],[],M0,Nat.le_refl _,by rw [qAc,qAo hd];exact q⟩,?_⟩
  rintro i m H' ⟨rfl,hi,ρ',h',acc,ys,G0,ha,p'⟩
  have up:Step ρ1 H1 ρ' H':=G0.st.trans G0.up
  by_cases hlt:i<xs.length
  ·refine .inr ⟨go i ρ' H' up hlt,fun x H'' y vz hvs=>?_⟩
   obtain ⟨rfl,dx,hdx,hv⟩:=yl i ρ' H' x H'' up hlt y
   rw [List.drop_eq_getElem_cons hlt] at p'
   have ed:xs[i]=dx:=by
    rw [List.getElem?_eq_getElem hlt] at hdx
    exact Option.some.inj hdx
   rw [ed,qBq] at p'
   exact ht _ Q ρ1 ρ' H1 H'' d h' acc ys (fun a=>M.bind (qAI (f env) (xs.drop (i+1))) fun rest=>newL (a++rest)) env σ (fun H3=>∃ m',m'<xs.length-i∧m'=xs.length-(i+1)∧i+1≤xs.length∧∃ ρ' h' acc ys,Mid K ρ1 H1 d ρ' h' acc ys H3∧acc.length≤i+1∧PostV K (W.at σ) Q ρ' (del H3 d) (M.bind (qAI (f env) (xs.drop (i+1))) (fun rest=>newL (acc++rest)) h')) dx x G0 (s1.mono up) hv (by omega) p'
    (fun ρ2 h2 acc2 ys2 H2 M2 hl2 p2=>⟨xs.length-(i+1),by omega,rfl,hlt,ρ2,h2,acc2,ys2,M2,by omega,p2⟩) vz hvs
  ·have e:i=xs.length:=by omega
   subst e
   rw [List.drop_length] at p'
   exact .inl ⟨sp _ ρ' H' up rfl,fin G0 p'⟩
 | pairs xs =>
  obtain ⟨go,yl,sp⟩:=hJ
  have q:PostV K (W.at σ) Q ρ1 H1 (M.bind (M.when (xs.length<16777216) (qAI (f env) xs)) newL h1):=q
  have hz:xs.length<16777216:=by
   unfold M.bind M.when at q
   by_cases z:xs.length<16777216
   ·exact z
   ·rw [if_neg z] at q;exact False.elim q
  have q:PostV K (W.at σ) Q ρ1 H1 (M.bind (qAI (f env) xs) (fun rest=>newL ([]++rest)) h1):=by
   unfold M.bind M.when at q
   rw [if_pos hz] at q
   exact q
  refine ⟨fun i m H'=>m=xs.length-i∧i≤xs.length∧∃ ρ' h' acc ys,Mid K ρ1 H1 d ρ' h' acc ys H'∧acc.length≤i∧PostV K (W.at σ) Q ρ' (del H' d) (M.bind (qAI (f env) (xs.drop i)) (fun rest=>newL (acc++rest)) h'),⟨_,rfl,Nat.zero_le _,ρ1,h1,[],[],M0,Nat.le_refl _,by rw [qAc,qAo hd];exact q⟩,?_⟩
  rintro i m H' ⟨rfl,hi,ρ',h',acc,ys,G0,ha,p'⟩
  have up:Step ρ1 H1 ρ' H':=G0.st.trans G0.up
  by_cases hlt:i<xs.length
  ·refine .inr ⟨go i ρ' H' up hlt,fun x H'' y vz hvs=>?_⟩
   obtain ⟨pp,uu,hpn,rfl,dx,hdx,hv⟩:=yl i ρ' H' x H'' up hlt y
   have stp:Step ρ' H' ρ' (upd H' pp uu):=Step.fresh hpn
   obtain ⟨sd,G1⟩:=G0.go stp (G0.rh'.fresh hpn)
   rw [List.drop_eq_getElem_cons hlt] at p'
   have ed:xs[i]=dx:=by
    rw [List.getElem?_eq_getElem hlt] at hdx
    exact Option.some.inj hdx
   rw [ed,qBq] at p'
   exact ht _ Q ρ1 ρ' H1 (upd H' pp uu) d h' acc ys (fun a=>M.bind (qAI (f env) (xs.drop (i+1))) fun rest=>newL (a++rest)) env σ (fun H3=>∃ m',m'<xs.length-i∧m'=xs.length-(i+1)∧i+1≤xs.length∧∃ ρ' h' acc ys,Mid K ρ1 H1 d ρ' h' acc ys H3∧acc.length≤i+1∧PostV K (W.at σ) Q ρ' (del H3 d) (M.bind (qAI (f env) (xs.drop (i+1))) (fun rest=>newL (acc++rest)) h')) dx x G1 ((s1.mono up).mono stp) hv (by omega) (Post.mono p' sd)
    (fun ρ2 h2 acc2 ys2 H2 M2 hl2 p2=>⟨xs.length-(i+1),by omega,rfl,hlt,ρ2,h2,acc2,ys2,M2,by omega,p2⟩) vz hvs
  ·have e:i=xs.length:=by omega
   subst e
   rw [List.drop_length] at p'
   exact .inl ⟨sp _ ρ' H' up rfl,fin G0 p'⟩
 | live k =>
  obtain ⟨a,ha,rfl⟩:=hJ
  have q:PostV K (W.at σ) Q ρ1 H1 (M.bind (M.when (liveN h1 k<16777216) (qAE (f env) k (liveN h1 k) 0)) newL h1):=q
  have hz:liveN h1 k<16777216:=by
   unfold M.bind M.when at q
   by_cases z:liveN h1 k<16777216
   ·exact z
   ·rw [if_neg z] at q;exact False.elim q
  have q:PostV K (W.at σ) Q ρ1 H1 (M.bind (qAE (f env) k (liveN h1 k) 0) (fun rest=>newL ([]++rest)) h1):=by
   unfold M.bind M.when at q
   rw [if_pos hz] at q
   exact q
  generalize liveN h1 k=n at hz q
  refine ⟨fun i m H'=>m+i=n∧∃ ρ' h' acc ys,Mid K ρ1 H1 d ρ' h' acc ys H'∧acc.length≤i∧PostV K (W.at σ) Q ρ' (del H' d) (M.bind (qAE (f env) k m i) (fun rest=>newL (acc++rest)) h'),⟨n,rfl,ρ1,h1,[],[],M0,Nat.le_refl _,by rw [qAc,qAo hd];exact q⟩,?_⟩
  rintro i m H' ⟨hm,ρ',h',acc,ys,G0,hl,p'⟩
  have up:Step ρ1 H1 ρ' H':=G0.st.trans G0.up
  cases m with
  | zero=>exact False.elim p'
  | succ m =>
   have r':=G0.rh'
   cases qg:getL h' k with
   | none =>
    unfold M.bind qAE at p'
    rw [qg] at p'
    exact False.elim p'
   | some xs =>
    obtain ⟨b,vs,h2,h3,h4⟩:=r'.list qg
    rw [qBp up.pre ha] at h2
    cases h2
    cases qx:xs[i]? with
    | none =>
     refine .inl ⟨⟨vs,h3,?_⟩,fin (w:=W.at σ) G0 ?_⟩
     ·rw [h4.length]
      exact List.getElem?_eq_none_iff.mp qx
     ·unfold M.bind qAE at p'
      simp only [qg,qx] at p'
      exact p'
    | some dx =>
     obtain ⟨w,hw,hv⟩:=h4.get qx
     refine .inr ⟨⟨vs,w,h3,hw⟩,fun x H'' y vz hvs=>?_⟩
     obtain ⟨rfl,y⟩:=y
     have ew:=y vs h3
     rw [hw] at ew
     cases ew
     have e:M.bind (qAE (f env) k (m+1) i) (fun rest=>newL (acc++rest)) h'=M.bind (f env dx) (fun y=>M.bind (qAE (f env) k m (i+1)) fun rest=>newL ((acc++y.toList)++rest)) h':=by
      have e1:qAE (f env) k (m+1) i h'=M.bind (f env dx) (fun y=>M.bind (qAE (f env) k m (i+1)) fun ys=>M.ret (match y with | some y=>y::ys | none=>ys)) h':=by
       rw [qAE]
       simp only [qg,qx] <;> rfl
      show R.bind (qAE (f env) k (m+1) i h') _=_
      rw [e1]
      show M.bind (M.bind (f env dx) _) (fun rest=>newL (acc++rest)) h'=_
      rw [qAL]
      congr 1
      funext y
      rw [qAL]
      congr 1
      funext ys
      rw [qDb]
      cases y <;> simp
     rw [e] at p'
     exact ht _ Q ρ1 ρ' H1 _ d h' acc ys (fun a=>M.bind (qAE (f env) k m (i+1)) fun rest=>newL (a++rest)) env σ (fun H3=>∃ m',m'<m+1∧m'+(i+1)=n∧∃ ρ' h' acc ys,Mid K ρ1 H1 d ρ' h' acc ys H3∧acc.length≤i+1∧PostV K (W.at σ) Q ρ' (del H3 d) (M.bind (qAE (f env) k m' (i+1)) (fun rest=>newL (acc++rest)) h')) dx _ G0 (s1.mono up) hv (by omega) p'
      (fun ρ2 h2 acc2 ys2 H2 M2 hl2 p2=>⟨m,Nat.lt_succ_self _,by omega,ρ2,h2,acc2,ys2,M2,by omega,p2⟩) vz hvs
end
end Fy
set_option Elab.async false
set_option linter.all false
set_option maxRecDepth 100000
set_option maxHeartbeats 4000000
namespace L2
open PySem PySem.Spec PyProof.Rows
section
variable {X:Cx} {pins:List (Addr × Obj)} {σ:St} {H:Hp} {s:Shared} {h':Heap}
end
section
variable {X:Cx}
end
end L2
namespace Fy
open PySem PySem.Spec PySem.Calls PyProof.Rows
open L2 (V Hp HO VK XK TE TT TA TS TI Cx Inv RelV Vals SqL SqT Rd upd qAA qAB PE PT PA PS PSs EP TP SP PI PG PIE Turn FpOk Ends HOk frs thn OpR CallR)
section
variable {F:Nat→List D→M D} {B:Nat} {W:WX}
end
end Fy
set_option Elab.async false
set_option linter.all false
set_option maxRecDepth 100000
set_option maxHeartbeats 4000000
namespace L2
open PySem PySem.Spec PyProof.Rows
section
variable {X:Cx} {pins:List (Addr × Obj)} {σ:St} {H:Hp} {s:Shared} {h':Heap}
theorem Inv.turnedF {t':Nat} {fp:List Addr} (I:Inv X pins σ H s) (k:∀ b o,b∉fp→s.heap.get? b=some o→h'.get? b=some o) (hf:∀ b∈fp,FpOk X pins H b):Inv X pins σ H { s with heap:=h',toks:=t' }:=by
 have nf:∀ b u,H b=some u→b∉fp:=fun b u q z=>by rw [(hf b z).1] at q;cases q
 refine I.step (g':=s.gens) (d':=s.drawn) (ch:=fp) (fun b hb=>⟨(hf b hb).2.2.2.1,(hf b hb).2.1,(hf b hb).2.2.2.2.1,(hf b hb).2.2.2.2.2⟩) (fun b o _ _ hc q _=>k b o hc q) (fun b o _ _ hc q _=>⟨o.slots,k b o hc q⟩) (fun _ _ _ _ n=>n)
  (fun b o hc q=>⟨o,k b o hc q⟩) (fun _ _ q=>q) (fun _ _ _ q=>q) (fun b ps q=>⟨#[],by rw [q];simp⟩) (fun m hm=>?_) (fun b u q=>?_) I.bare
 ·obtain ⟨o,es,ep,ho,r⟩:=hm
  exact ⟨o,es,ep,k _ o (fun z=>(hf _ z).2.1 rfl) ho,r⟩
 ·refine (I.hok b u q).stay (fun c v hc z=>?_) (fun _ z=>z) fun _ _ z=>z
  rcases hc with y | y
  ·rw [y] at z ⊢;exact k b v (nf b u q) z
  ·exact k c v (nf c _ y) z
theorem Inv.turnedG {t':Nat} {fp:List Addr} {t:Addr} {vs:List V} (I:Inv X pins σ H s) (k:∀ b o,b∉fp→s.heap.get? b=some o→h'.get? b=some o) (hf:∀ b∈fp,FpOk X pins H b) (ht:s.heap.objs.size≤t)
    (new:ObjOk X.prog X.w (upd H t (.tup vs)) h' t (.tup vs)):Inv X pins σ (upd H t (.tup vs)) { s with heap:=h',toks:=t' }:=by
  have hn:H t=none:=I.hok.fresh ht
  have nt:∀ b u,H b=some u→b≠t:=fun b u q z=>by rw [z,hn] at q;cases q
  have lt:∀ b o,s.heap.get? b=some o→b≠t:=fun b o q z=>by rw [z] at q;exact absurd (Nat.lt_of_lt_of_le (Heap.lt_size q) ht) (Nat.lt_irrefl _)
  have nf:∀ b u,H b=some u→b∉fp:=fun b u q z=>by rw [(hf b z).1] at q;cases q
  refine I.step (g':=s.gens) (d':=s.drawn) (ch:=fp) (fun b hb=>⟨(hf b hb).2.2.2.1,(hf b hb).2.1,(hf b hb).2.2.2.2.1,(hf b hb).2.2.2.2.2⟩) (fun b o _ _ hc q _=>k b o hc q) (fun b o _ _ hc q _=>⟨o.slots,k b o hc q⟩) (fun b o _ q n=>by rw [qAB (lt b o q)];exact n)
    (fun b o hc q=>⟨o,k b o hc q⟩) (fun b xs q=>by rw [qAB (nt b _ q)];exact q) (fun b o u q=>by rw [qAB (nt b _ q)];exact q) (fun b ps q=>⟨#[],by rw [qAB (nt b _ q),q];simp⟩) (fun m hm=>?_) (fun b u q=>?_) I.bare
  · obtain ⟨o,es,ep,ho,r⟩:=hm
    exact ⟨o,es,ep,k _ o (fun z=>(hf _ z).2.1 rfl) ho,r⟩
  · by_cases hb:b=t
    · subst hb;rw [qAA] at q;cases q;exact new
    · rw [qAB hb] at q
      refine (I.hok b u q).stay (fun c v hc z=>?_) (fun c z=>by rw [qAB (nt c _ z)];exact z) fun c xs z=>by rw [qAB (nt c _ z)];exact z
      rcases hc with y | y
      · rw [y] at z ⊢;exact k b v (nf b u q) z
      · exact k c v (nf c _ y) z
end
structure ZA (z TI TO i1 i2:Addr):Prop where
 a1:TI≠z
 a2:TO≠z
 a3:i1≠z
 a4:i2≠z
 a5:TI≠TO
 a6:TI≠i1
 a7:TI≠i2
 a8:TO≠i1
 a9:TO≠i2
 aa:i1≠i2
section
variable {prog:Program} {w:World} {A:Around} {E:Value→Shared→Prop} {s:Shared} {z TI TO i1 i2:Addr} {n1 n2 k:Nat} {P1 P2:Nat→Value→Prop} {S1 S2:Nat→Heap→Prop} {va vb:Value}
theorem qGf {Q:Value→Shared→Prop} (D1:Draws prog w A i1 [i1] n1 P1 S1) (D2:Draws prog w A i2 [i2] n2 P2 S2) (ap:ZA z TI TO i1 i2) (gz:IsZip s.heap z TI TO .none) (gi:IsPair s.heap TI (.ref i1) (.ref i2)) (go:IsPair s.heap TO va vb) (t1:S1 k s.heap) (t2:S2 k s.heap) (l1:k<n1) (l2:k<n2)
    (hQ:∀ x y hh tk,P1 k x→P2 k y→IsZip hh z TI TO (rawInt s.heap.objs.size)→IsPair hh TO x y→S1 (k+1) hh→S2 (k+1) hh→IsPair hh s.heap.objs.size x y→(∀ c o,c∉[z,TO,i1,i2]→s.heap.get? c=some o→hh.get? c=some o)→Q (.ref s.heap.objs.size) { s with heap:=hh,toks:=tk }) :
    wpAny (model prog w) A (Builtin.«zip.__next__» ⟨[.ref z],[]⟩) (fun f s'=>∃ v,f=.done (.ret v)∧Q v s') E s:=by
  show wpAny _ _ (field (.ref z) 2 >>= _) _ _ _
  refine wpAny_bind (wpAny_field gz rfl (x:=Value.bool false) rfl ?_)
  show wpAny _ _ (field (.ref z) 3 >>= _) _ _ _
  refine wpAny_bind (wpAny_field gz rfl (x:=Value.ref TI) rfl ?_)
  refine wpAny_bind (wpAny_seqItems gi rfl ?_)
  show wpAny _ _ (Builtin.SmallTypes.ownedTupleIsFree (.ref z) >>= _) _ _ _
  refine wpAny_bind ?_
  unfold Builtin.SmallTypes.ownedTupleIsFree
  refine wpAny_bind (wpAny_field gz rfl (x:=Value.none) rfl (wpAny_pure ?_))
  simp only [if_true]
  refine wpAny_bind (wpAny_rule ?_)
  refine wpAny_bind (wpAny_field gz rfl (x:=Value.ref TO) rfl ?_)
  refine wpAny_bind (wpAny_setField_rec gz (by simp) fun g1 z1 b1=>?_)
  have z1:IsZip g1 z TI TO .ellipsis:=z1
  refine wpAny_bind ?_
  simp only [List.zipIdx_cons,List.zipIdx_nil,List.forIn_cons,List.forIn_nil]
  refine wpAny_bind (wpAny_bind (wpAny_onRaise ?_))
  show wpAny _ _ (Builtin.SmallTypes.nextOf (.ref i1) >>= _) _ _ _
  refine wpAny_bind (D1.item k _ _ _ l1 (D1.frame _ _ _ t1 fun b hb o q=>b1.extBut _ _ (by rw [List.mem_singleton.mp hb];exact ap.a3) q) fun x g2 k2 px t12 b2=>wpAny_pure ?_)
  have b2:Heap.SameBut i1 g1 g2:=b2
  have o2:IsPair g2 TO va vb:=b2.extBut _ _ ap.a8 (b1.extBut _ _ ap.a2 go)
  refine wpAny_bind (wpAny_seqItems o2 rfl ?_)
  refine wpAny_bind (wpAny_updateSeq_pair o2 fun g3 o3 b3=>?_)
  have o3:IsPair g3 TO x vb:=o3
  have b3:Heap.SameBut TO g2 g3:=b3
  refine wpAny_bind (wpAny_letGo (wpAny_pure ?_))
  refine wpAny_bind (wpAny_bind (wpAny_onRaise ?_))
  show wpAny _ _ (Builtin.SmallTypes.nextOf (.ref i2) >>= _) _ _ _
  refine wpAny_bind (D2.item k _ _ _ l2 (D2.frame _ _ _ t2 fun b hb o q=>by
    rw [List.mem_singleton.mp hb] at q ⊢
    exact b3.extBut _ _ ap.a9.symm (b2.extBut _ _ ap.aa.symm (b1.extBut _ _ ap.a4 q))) fun y g4 k4 py t24 b4=>wpAny_pure ?_)
  have b4:Heap.SameBut i2 g3 g4:=b4
  have o4:IsPair g4 TO x vb:=b4.extBut _ _ ap.a9 o3
  refine wpAny_bind (wpAny_seqItems o4 rfl ?_)
  refine wpAny_bind (wpAny_updateSeq_pair o4 fun g5 o5 b5=>?_)
  have o5:IsPair g5 TO x y:=o5
  have b5:Heap.SameBut TO g4 g5:=b5
  refine wpAny_bind (wpAny_letGo (wpAny_pure (wpAny_pure ?_)))
  refine wpAny_bind (wpAny_seqItems o5 rfl ?_)
  refine wpAny_bind (wpAny_newTuple ?_)
  have sz:g5.objs.size=s.heap.objs.size:=by rw [b5.1,b4.1,b3.1,b2.1,b1.1]
  have z5:IsZip g5 z TI TO .ellipsis:=b5.extBut _ _ ap.a2.symm (b4.extBut _ _ ap.a4.symm (b3.extBut _ _ ap.a2.symm (b2.extBut _ _ ap.a3.symm z1)))
  have zl:z<g5.objs.size:=Heap.lt_size z5
  show wpAny _ _ (Builtin.SmallTypes.ownedTupleHandOut (.ref z) (.ref g5.objs.size) >>= _) _ _ _
  refine wpAny_bind ?_
  unfold Builtin.SmallTypes.ownedTupleHandOut
  have z6:IsZip (g5.push { cls:=.type "tuple",data:=.seq #[x,y] }) z TI TO .ellipsis:=Heap.get?_push_of_some _ z5
  refine wpAny_bind (wpAny_setField_rec z6 (by simp) fun g7 z7 b7=>?_)
  have z7:IsZip g7 z TI TO (rawInt g5.objs.size):=z7
  refine wpAny_setField_rec z7 (by simp) fun g8 z8 b8=>?_
  have z8:IsZip g8 z TI TO (rawInt g5.objs.size):=z8
  have up:∀ c o,c≠z→g5.get? c=some o→g8.get? c=some o:=fun c o n q=>b8.extBut _ _ n (b7.extBut _ _ n (Heap.get?_push_of_some _ q))
  have p8:IsPair g8 g5.objs.size x y:=b8.extBut _ _ (Nat.ne_of_gt zl) (b7.extBut _ _ (Nat.ne_of_gt zl) (Heap.get?_push_size _ rfl))
  rw [sz] at z8 p8
  refine wpAny_pure ⟨_,rfl,?_⟩
  show Q (.ref g5.objs.size) _
  rw [sz]
  refine hQ x y g8 _ px py z8 (up _ _ ap.a2 o5) (D1.frame _ _ _ t12 fun b hb o q=>?_) (D2.frame _ _ _ t24 fun b hb o q=>?_) p8 fun c o hc q=>?_
  · rw [List.mem_singleton.mp hb] at q ⊢
    exact up _ _ ap.a3 (b5.extBut _ _ ap.a8.symm (b4.extBut _ _ ap.aa (b3.extBut _ _ ap.a8.symm q)))
  · rw [List.mem_singleton.mp hb] at q ⊢
    exact up _ _ ap.a4 (b5.extBut _ _ ap.a9.symm q)
  · have n1:c≠z:=fun e=>hc (by simp [e])
    have n2:c≠TO:=fun e=>hc (by simp [e])
    have n3:c≠i1:=fun e=>hc (by simp [e])
    have n4:c≠i2:=fun e=>hc (by simp [e])
    exact up _ _ n1 (b5.extBut _ _ n2 (b4.extBut _ _ n4 (b3.extBut _ _ n2 (b2.extBut _ _ n3 (b1.extBut _ _ n1 q)))))
theorem qIY {Q:Fin→Shared→Prop} (D1:Draws prog w A i1 [i1] n1 P1 S1) (D2:Draws prog w A i2 [i2] n2 P2 S2) (ap:ZA z TI TO i1 i2) (gz:IsZip s.heap z TI TO .none) (gi:IsPair s.heap TI (.ref i1) (.ref i2)) (go:IsPair s.heap TO va vb) (t1:S1 k s.heap) (t2:S2 k s.heap) (hk:k=n1∨(k<n1∧k=n2))
    (hE:∀ hh e,(∀ c o,c∉[z,TO,i1,i2]→s.heap.get? c=some o→hh.get? c=some o)→(∃ o,hh.get? e=some o∧o.cls=.type "StopIteration")→∀ tk,E (.ref e) { s with heap:=hh,toks:=tk }) :
    wpAny (model prog w) A (Builtin.«zip.__next__» ⟨[.ref z],[]⟩) Q E s:=by
  have nn:∀ {c:Addr},c∉[z,TO,i1,i2]→c≠z∧c≠TO∧c≠i1∧c≠i2:=fun hc=>⟨fun e=>hc (by simp [e]),fun e=>hc (by simp [e]),fun e=>hc (by simp [e]),fun e=>hc (by simp [e])⟩
  show wpAny _ _ (field (.ref z) 2 >>= _) _ _ _
  refine wpAny_bind (wpAny_field gz rfl (x:=Value.bool false) rfl ?_)
  show wpAny _ _ (field (.ref z) 3 >>= _) _ _ _
  refine wpAny_bind (wpAny_field gz rfl (x:=Value.ref TI) rfl ?_)
  refine wpAny_bind (wpAny_seqItems gi rfl ?_)
  show wpAny _ _ (Builtin.SmallTypes.ownedTupleIsFree (.ref z) >>= _) _ _ _
  refine wpAny_bind ?_
  unfold Builtin.SmallTypes.ownedTupleIsFree
  refine wpAny_bind (wpAny_field gz rfl (x:=Value.none) rfl (wpAny_pure ?_))
  simp only [if_true]
  refine wpAny_bind (wpAny_rule ?_)
  refine wpAny_bind (wpAny_field gz rfl (x:=Value.ref TO) rfl ?_)
  refine wpAny_bind (wpAny_setField_rec gz (by simp) fun g1 z1 b1=>?_)
  have z1:IsZip g1 z TI TO .ellipsis:=z1
  refine wpAny_bind ?_
  simp only [List.zipIdx_cons,List.zipIdx_nil,List.forIn_cons,List.forIn_nil]
  refine wpAny_bind (wpAny_bind (wpAny_onRaise ?_))
  show wpAny _ _ (Builtin.SmallTypes.nextOf (.ref i1) >>= _) _ _ _
  have t11:S1 k g1:=D1.frame _ _ _ t1 fun b hb o q=>b1.extBut _ _ (by rw [List.mem_singleton.mp hb];exact ap.a3) q
  rcases hk with hk | ⟨hk,hk2⟩
  · subst hk
    refine wpAny_bind (D1.done _ _ _ t11 fun g2 e b2 he=>?_)
    obtain ⟨oe,h1,h2⟩:=he
    have z2:IsZip g2 z TI TO .ellipsis:=b2 _ _ ap.a3.symm z1
    have ez:e≠z:=fun y=>by subst y;rw [z2] at h1;cases h1;simp at h2
    refine wpAny_setField_rec z2 (by simp) fun g3 _ b3=>hE g3 e (fun c o hc q=>b3.extBut _ _ (nn hc).1 (b2 _ _ (nn hc).2.2.1 (b1.extBut _ _ (nn hc).1 q))) ⟨oe,b3.extBut _ _ ez h1,h2⟩ _
  · refine wpAny_bind (D1.item k _ _ _ hk t11 fun x g2 k2 px t12 b2=>wpAny_pure ?_)
    have b2:Heap.SameBut i1 g1 g2:=b2
    have o2:IsPair g2 TO va vb:=b2.extBut _ _ ap.a8 (b1.extBut _ _ ap.a2 go)
    refine wpAny_bind (wpAny_seqItems o2 rfl ?_)
    refine wpAny_bind (wpAny_updateSeq_pair o2 fun g3 o3 b3=>?_)
    have b3:Heap.SameBut TO g2 g3:=b3
    refine wpAny_bind (wpAny_letGo (wpAny_pure ?_))
    refine wpAny_bind (wpAny_bind (wpAny_onRaise ?_))
    show wpAny _ _ (Builtin.SmallTypes.nextOf (.ref i2) >>= _) _ _ _
    subst hk2
    refine wpAny_bind (D2.done _ _ _ (D2.frame _ _ _ t2 fun b hb o q=>by
      rw [List.mem_singleton.mp hb] at q ⊢
      exact b3.extBut _ _ ap.a9.symm (b2.extBut _ _ ap.aa.symm (b1.extBut _ _ ap.a4 q))) fun g4 e b4 he=>?_)
    obtain ⟨oe,h1,h2⟩:=he
    have b4:Heap.ExtBut i2 g3 g4:=b4
    have z4:IsZip g4 z TI TO .ellipsis:=b4 _ _ ap.a4.symm (b3.extBut _ _ ap.a2.symm (b2.extBut _ _ ap.a3.symm z1))
    have ez:e≠z:=fun y=>by subst y;rw [z4] at h1;cases h1;simp at h2
    refine wpAny_setField_rec z4 (by simp) fun g5 _ b5=>hE g5 e (fun c o hc q=>b5.extBut _ _ (nn hc).1 (b4 _ _ (nn hc).2.2.2 (b3.extBut _ _ (nn hc).2.1 (b2.extBut _ _ (nn hc).2.2.1 (b1.extBut _ _ (nn hc).1 q))))) ⟨oe,b5.extBut _ _ ez h1,h2⟩ _
theorem qGe {Q:Option Value→Shared→Prop} (D1:Draws prog w A.in1 i1 [i1] n1 P1 S1) (D2:Draws prog w A.in1 i2 [i2] n2 P2 S2) (ap:ZA z TI TO i1 i2) (gz:IsZip s.heap z TI TO .none) (gi:IsPair s.heap TI (.ref i1) (.ref i2)) (go:IsPair s.heap TO va vb) (t1:S1 k s.heap) (t2:S2 k s.heap) (l1:k<n1) (l2:k<n2)
    (hQ:∀ x y hh tk,P1 k x→P2 k y→IsZip hh z TI TO (rawInt s.heap.objs.size)→IsPair hh TO x y→S1 (k+1) hh→S2 (k+1) hh→IsPair hh s.heap.objs.size x y→(∀ c o,c∉[z,TO,i1,i2]→s.heap.get? c=some o→hh.get? c=some o)→Q (some (.ref s.heap.objs.size)) { s with heap:=hh,toks:=tk }) :
    wpAny (model prog w) A (pyNext (.ref z)) Q E s:=by
  have ty:s.TypeIs (.ref z) "zip":=⟨_,gz,rfl⟩
  unfold pyNext
  refine wpAny_bind (wpAny_attempt (wpAny_callSpecial?_slot (name:=Str.ofString "__next__") ty F.slot_zip_next (wpAny_call_entry F.slot_zip_next ty F.entry_zip_next ?_ (F.args_zip_next_1 _))))
  exact qGf D1 D2 ap gz gi go t1 t2 l1 l2 fun x y hh tk a1 a2 a3 a4 a5 a6 a7 a8=>wpAny_pure (hQ x y hh tk a1 a2 a3 a4 a5 a6 a7 a8)
theorem qGd {Q:Option Value→Shared→Prop} (D1:Draws prog w A.in1 i1 [i1] n1 P1 S1) (D2:Draws prog w A.in1 i2 [i2] n2 P2 S2) (ap:ZA z TI TO i1 i2) (gz:IsZip s.heap z TI TO .none) (gi:IsPair s.heap TI (.ref i1) (.ref i2)) (go:IsPair s.heap TO va vb) (t1:S1 k s.heap) (t2:S2 k s.heap) (hk:k=n1∨(k<n1∧k=n2))
    (hQ:∀ hh tk,(∀ c o,c∉[z,TO,i1,i2]→s.heap.get? c=some o→hh.get? c=some o)→Q none { s with heap:=hh,toks:=tk }):wpAny (model prog w) A (pyNext (.ref z)) Q E s:=by
  have ty:s.TypeIs (.ref z) "zip":=⟨_,gz,rfl⟩
  unfold pyNext
  refine wpAny_bind (wpAny_attempt (wpAny_callSpecial?_slot (name:=Str.ofString "__next__") ty F.slot_zip_next (wpAny_call_entry F.slot_zip_next ty F.entry_zip_next (qIY D1 D2 ap gz gi go t1 t2 hk fun hh e hc he tk=>?_) (F.args_zip_next_1 _))))
  obtain ⟨o,h1,h2⟩:=he
  refine wpAny_bind (wpAny_isInstance (T:="StopIteration") (b:=true) ⟨o,h1,h2⟩ isSubtype_stop ?_)
  exact wpAny_pure (hQ _ _ hc)
theorem qBx (hh:A.handled=none) (it:Addr) (x:Str) (t:Tok):Draws prog w A it [it] x.cps.size (fun i v=>∃ c u,x.cps[i]?=some c∧v=.str ⟨#[c]⟩ u) (fun i h=>h.IsStrIter it (strIterType x) x t i):=by
  cases q:x.cps.all (·<128)
  · have e:strIterType x="str_iterator":=by simp [strIterType,q]
    rw [e];exact Draws.strWide hh it x t
  · have e:strIterType x="str_ascii_iterator":=by simp [strIterType,q]
    rw [e];exact Draws.strAscii hh it x t
end
end L2
set_option Elab.async false
set_option linter.all false
set_option maxRecDepth 100000
set_option maxHeartbeats 4000000
namespace L2
open PySem PySem.Spec PyProof.Rows
noncomputable abbrev zs1 (h:Heap) (x:Str) (t:Tok):Heap:=h.push { cls:=.type (strIterType x),data:=.fields #[.str x t,.int 0 0] }
noncomputable abbrev zs2 (h:Heap) (x y:Str) (t u:Tok):Heap:=(zs1 h x t).push { cls:=.type (strIterType y),data:=.fields #[.str y u,.int 0 0] }
noncomputable abbrev zs3 (h:Heap) (x y:Str) (t u:Tok):Heap:=(zs2 h x y t u).push { cls:=.type "tuple",data:=.seq #[.ref h.objs.size,.ref (zs1 h x t).objs.size] }
noncomputable abbrev zs4 (h:Heap) (x y:Str) (t u:Tok):Heap:=(zs3 h x y t u).push { cls:=.type "tuple",data:=.seq #[Value.none,Value.none] }
noncomputable abbrev zs5 (h:Heap) (x y:Str) (t u:Tok):Heap:=(zs4 h x y t u).push { cls:=.type "zip",data:=.fields #[Value.none,.bool false,.bool false,.ref (zs2 h x y t u).objs.size,.ref (zs3 h x y t u).objs.size] }
theorem qF2 (x y:Str) (t u:Tok) :
    Meets (Builtin.«zip.__new__» ⟨[.type "zip",.str x t,.str y u],[]⟩) (fun _ R s=>R (.ok (.ret (.ref (zs4 s.heap x y t u).objs.size))) { s with heap:=zs5 s.heap x y t u }) :=
  .of_wp fun prog w A R s h=>by
    obtain ⟨hp,g,d,tk,os⟩:=s
    have hsub:=sub_zip
    wp_walk using wpAny_pyIter_strU
    exact ⟨_,rfl,h⟩
section
variable {prog:Program} {w:World} {A:Around} {E:Value→Shared→Prop} {s:Shared}
theorem qGg {x y:Str} {t u:Tok} {Q:Value→Shared→Prop}
    (h:∀ hh,IsZip hh (s.heap.objs.size+4) (s.heap.objs.size+2) (s.heap.objs.size+3) .none→IsPair hh (s.heap.objs.size+2) (.ref s.heap.objs.size) (.ref (s.heap.objs.size+1))→IsPair hh (s.heap.objs.size+3) .none .none →
      hh.IsStrIter s.heap.objs.size (strIterType x) x t 0→hh.IsStrIter (s.heap.objs.size+1) (strIterType y) y u 0→(∀ c o,s.heap.get? c=some o→hh.get? c=some o)→Q (.ref (s.heap.objs.size+4)) { s with heap:=hh }) :
    wpAny (model prog w) A (call (.type "zip") [.str x t,.str y u]) Q E s:=by
  refine callType_new F.called_zip (by decide) (F.typeCall_zip_2 _ _) (F.newCall_zip_2 _ _) (fun o=>F.args_object_init_3 o _ _) F.entry_zip_new (qF2 x y t u) ?_
  have e1:(zs1 s.heap x t).objs.size=s.heap.objs.size+1:=Heap.size_push ..
  have e2:(zs2 s.heap x y t u).objs.size=s.heap.objs.size+2:=by rw [Heap.size_push,e1]
  have e3:(zs3 s.heap x y t u).objs.size=s.heap.objs.size+3:=by rw [Heap.size_push,e2]
  have e4:(zs4 s.heap x y t u).objs.size=s.heap.objs.size+4:=by rw [Heap.size_push,e3]
  have p5:(zs5 s.heap x y t u).get? (zs4 s.heap x y t u).objs.size=some _:=Heap.get?_push_size _ rfl
  have p4:(zs5 s.heap x y t u).get? (zs3 s.heap x y t u).objs.size=some _:=Heap.get?_push_of_some _ (Heap.get?_push_size _ rfl)
  have p3:(zs5 s.heap x y t u).get? (zs2 s.heap x y t u).objs.size=some _:=Heap.get?_push_of_some _ (Heap.get?_push_of_some _ (Heap.get?_push_size _ rfl))
  have p2:(zs5 s.heap x y t u).get? (zs1 s.heap x t).objs.size=some _:=Heap.get?_push_of_some _ (Heap.get?_push_of_some _ (Heap.get?_push_of_some _ (Heap.get?_push_size _ rfl)))
  have p1:(zs5 s.heap x y t u).get? s.heap.objs.size=some _:=Heap.get?_push_of_some _ (Heap.get?_push_of_some _ (Heap.get?_push_of_some _ (Heap.get?_push_of_some _ (Heap.get?_push_size _ rfl))))
  show _∧_
  rw [e2,e3,e4] at p5
  rw [e1,e2] at p3
  rw [e3] at p4
  rw [e1] at p2
  rw [e4]
  exact ⟨⟨_,p5,rfl⟩,h _ p5 p3 p4 ⟨_,p1,rfl,rfl⟩ ⟨_,p2,rfl,rfl⟩ fun c o q=>Heap.get?_push_of_some _ (Heap.get?_push_of_some _ (Heap.get?_push_of_some _ (Heap.get?_push_of_some _ (Heap.get?_push_of_some _ q))))⟩
end
noncomputable def Itz (x y:Str):It:=⟨fun i _=>i<x.cps.size∧i<y.cps.size,fun i H v H'=>∃ t c d,v=.ref t∧H t=none∧H'=upd H t (.tup [.str ⟨#[c]⟩,.str ⟨#[d]⟩])∧x.cps[i]?=some c∧y.cps[i]?=some d,fun i _=>i=x.cps.size∨(i<x.cps.size∧i=y.cps.size)⟩
theorem qId {P:Program} {w:World} {K:PySem.W.Frag} {elts:List Expr} {j:Nat} {p:Pos} {x y:Str} {t u:Tok} {z TI TO i1 i2:Addr} (ap:ZA z TI TO i1 i2) :
    Turn P w K (.Tuple elts j p) (Itz x y) [z,TI,TO,i1,i2] z (fun i h=>IsZip h z TI TO .none∧IsPair h TI (.ref i1) (.ref i2)∧(∃ a b,IsPair h TO a b)∧h.IsStrIter i1 (strIterType x) x t i∧h.IsStrIter i2 (strIterType y) y u i) where
  mem:=by simp
  obj:=fun i h ⟨h1,h2,⟨a,b,h3⟩,h4,h5⟩ c hc=>by
    simp only [List.mem_cons,List.not_mem_nil,or_false] at hc
    rcases hc with rfl | rfl | rfl | rfl | rfl
    · exact ⟨_,h1,fun v q=>by have q':Data.fields _=Data.cell v:=q;cases q'⟩
    · exact ⟨_,h2,fun v q=>by have q':Data.seq _ _=Data.cell v:=q;cases q'⟩
    · exact ⟨_,h3,fun v q=>by have q':Data.seq _ _=Data.cell v:=q;cases q'⟩
    · obtain ⟨o,e,c,d⟩:=h4
      exact ⟨o,e,fun v q=>by rw [d] at q;cases q⟩
    · obtain ⟨o,e,c,d⟩:=h5
      exact ⟨o,e,fun v q=>by rw [d] at q;cases q⟩
  keep:=fun i h h' ⟨h1,h2,⟨a,b,h3⟩,h4,h5⟩ k=>by
    obtain ⟨o4,e4,r4⟩:=h4
    obtain ⟨o5,e5,r5⟩:=h5
    exact ⟨k z (by simp) _ h1,k TI (by simp) _ h2,⟨a,b,k TO (by simp) _ h3⟩,⟨o4,k i1 (by simp) _ e4,r4⟩,⟨o5,k i2 (by simp) _ e5,r5⟩⟩
  item:=by
    intro X hP hw hK hc i pins s σ H E I hf st hg
    subst hP hw hK
    obtain ⟨h1,h2,⟨a,b,h3⟩,h4,h5⟩:=st
    have hd:=I.ok.hd hc
    refine qGe (qBx (A:=X.A.in1) hd i1 x t) (qBx (A:=X.A.in1) hd i2 y u) ap h1 h2 h3 h4 h5 hg.1 hg.2 fun v1 v2 hh tk p1 p2 q1 q2 q3 q4 q5 q6=>?_
    obtain ⟨c,t1,e1,rfl⟩:=p1
    obtain ⟨d,t2,e2,rfl⟩:=p2
    refine ⟨_,rfl,wpAny_letOwnedTupleGo_zip q1 fun h8 z8 sb=>?_⟩
    have sb:Heap.SameBut z hh h8:=sb
    have zl:z<s.heap.objs.size:=Heap.lt_size h1
    have k2:∀ b o,b∉[z,TI,TO,i1,i2]→s.heap.get? b=some o→h8.get? b=some o:=fun b o hb q=>(sb.2 b (fun e=>hb (by simp [e]))).trans (q6 b o (fun w=>hb (by
      simp only [List.mem_cons,List.not_mem_nil,or_false] at w ⊢
      rcases w with w | w | w | w <;> simp [w])) q)
    have TI8:IsPair h8 TI (.ref i1) (.ref i2):=(sb.2 _ ap.a1).trans (q6 TI _ (by
      simp only [List.mem_cons,List.not_mem_nil,or_false]
      rintro (w | w | w | w)
      · exact ap.a1 w
      · exact ap.a5 w
      · exact ap.a6 w
      · exact ap.a7 w) h2)
    have t8:h8.get? s.heap.objs.size=some { cls:=.type "tuple",data:=.seq #[.str ⟨#[c]⟩ t1,.str ⟨#[d]⟩ t2] }:=(sb.2 _ (Nat.ne_of_gt zl)).trans q5
    have I1:Inv X pins σ (upd H s.heap.objs.size (.tup [.str ⟨#[c]⟩,.str ⟨#[d]⟩])) { s with heap:=h8,toks:=tk }:=I.turnedG k2 hf (Nat.le_refl _) ⟨by show (2:Nat)≤sizeLine;decide,[.str ⟨#[c]⟩ t1,.str ⟨#[d]⟩ t2],.cons ⟨_,rfl⟩ (.cons ⟨_,rfl⟩ .nil),⟨_,t8,rfl,_,rfl⟩⟩
    refine ⟨.ref s.heap.objs.size,_,I1,rfl,⟨_,c,d,rfl,I.hok.fresh (Nat.le_refl _),rfl,e1,e2⟩,⟨z8,TI8,⟨_,_,(sb.2 _ ap.a2).trans q2⟩,?_,?_⟩,fun b hb=>?_⟩
    · obtain ⟨o,e,r⟩:=q3
      exact ⟨o,(sb.2 _ ap.a3).trans e,r⟩
    · obtain ⟨o,e,r⟩:=q4
      exact ⟨o,(sb.2 _ ap.a4).trans e,r⟩
    · have hlt:b<s.heap.objs.size:=by
        simp only [List.mem_cons,List.not_mem_nil,or_false] at hb
        rcases hb with rfl | rfl | rfl | rfl | rfl
        · exact zl
        · exact Heap.lt_size h2
        · exact Heap.lt_size h3
        · obtain ⟨o,e,_⟩:=h4;exact Heap.lt_size e
        · obtain ⟨o,e,_⟩:=h5;exact Heap.lt_size e
      rw [qAB (Nat.ne_of_lt hlt)]
      exact (hf b hb).1
  done:=by
    intro X hP hw hK hc i pins s σ H E I hf st hg
    subst hP hw hK
    obtain ⟨h1,h2,⟨a,b,h3⟩,h4,h5⟩:=st
    have hd:=I.ok.hd hc
    refine qGd (qBx (A:=X.A.in1) hd i1 x t) (qBx (A:=X.A.in1) hd i2 y u) ap h1 h2 h3 h4 h5 hg fun hh tk k=>⟨rfl,?_⟩
    exact I.turnedF (fun b o hb q=>k b o (fun w=>hb (by
      simp only [List.mem_cons,List.not_mem_nil,or_false] at w ⊢
      rcases w with w | w | w | w <;> simp [w])) q) hf
  self:=fun _ _ _ _ _ ⟨h1,_⟩ h=>wpAny_pyIter_zip h1 h
theorem za_of (n:Nat):ZA (n+4) (n+2) (n+3) n (n+1) :=
 ⟨(show n+2≠n+4 by omega),(show n+3≠n+4 by omega),(show n≠n+4 by omega),(show n+1≠n+4 by omega),(show n+2≠n+3 by omega),(show n+2≠n by omega),(show n+2≠n+1 by omega),(show n+3≠n by omega),(show n+3≠n+1 by omega),(show n≠n+1 by omega)⟩
section
variable {X:Cx}
theorem qIM:bootBuiltins "zip"=some (.type "zip"):=by decide +kernel
noncomputable def iZip (ta:TA):TI:=fun σ H R=>ta σ H fun vs H1=>∃ x y,vs=[.str x,.str y]∧R (Itz x y) H1
theorem pi_zip {a b:Expr} {ta:TA} {p pos p3:Pos} {elts:List Expr} {j:Nat} (hg:Gl X "zip") (hm:X.mg "zip"=none) (ha:PA X [a,b] ta) (hs:starEach [a,b] X.env=[(false,eval a X.env),(false,eval b X.env)]) (hs2:starEach [b] X.env=[(false,eval b X.env)]):PI X (.Tuple elts j p3) (.Call (.Name "zip" p) [a,b] [] pos) (iZip ta):=by
 intro pins s σ H R I h
 refine Call_ (ld_blt I hg hm qIM (PyProof.Rows.callWith_type1 (thn (ha pos pins s σ H _ I h) fun us s1 ⟨vs,H1,I1,r1,q1⟩=>?_) (by rw [hs,hs2]) (by rw [hs2];rfl)))
 obtain ⟨x,y,e,q⟩:=q1
 subst e
 cases r1 with
 | cons r rr =>
  cases rr with
  | cons r' rr =>
   cases rr
   obtain ⟨t,rfl⟩:=r
   obtain ⟨u,rfl⟩:=r'
   refine qGg fun hh gz gi go g1 g2 kk=>wpAny_pyIter_zip gz ?_
   have I2:Inv X pins σ H1 { s1 with heap:=hh }:=I1.kept (t':=s1.toks) kk
   have ap:ZA (s1.heap.objs.size+4) (s1.heap.objs.size+2) (s1.heap.objs.size+3) s1.heap.objs.size (s1.heap.objs.size+1):=za_of _
   refine ⟨_,[s1.heap.objs.size+4,s1.heap.objs.size+2,s1.heap.objs.size+3,s1.heap.objs.size,s1.heap.objs.size+1],_,_,H1,rfl,I2,qId ap,⟨gz,gi,⟨_,_,go⟩,g1,g2⟩,fun c hc=>?_,q⟩
   have hle:s1.heap.objs.size≤c:=by
    simp only [List.mem_cons,List.not_mem_nil,or_false] at hc
    rcases hc with rfl | rfl | rfl | rfl | rfl
    ·exact Nat.le_add_right _ _
    ·exact Nat.le_add_right _ _
    ·exact Nat.le_add_right _ _
    ·exact Nat.le_refl _
    ·exact Nat.le_add_right _ _
   exact I1.fpOk hle (I1.hok.fresh hle)
end
end L2
set_option Elab.async false
set_option linter.all false
set_option maxRecDepth 100000
set_option maxHeartbeats 4000000
namespace Fy
open PySem PySem.Spec PyProof.Rows
open L2 (V Hp HO VK TE TT TA TS TI Cx Inv RelV Vals SqL SqT Rd upd qAA qAB PE PT PA PS PSs EP TP PI PG PIE Turn FpOk Ends HOk frs thn)
theorem qKg {K:PySem.W.Frag} {ρ:List Addr} {H:Hp} (x y:Tx):ItRep K ρ H (.pairs (zipT x y)) (L2.Itz ⟨x.toArray⟩ ⟨y.toArray⟩):=by
 have hl:(zipT x y).length=min x.length y.length:=by unfold zipT;rw [List.length_map,List.length_zip]
 refine ⟨fun i ρ' H' _ hi=>?_,fun i ρ' H' v H'' _ hi q=>?_,fun i ρ' H' _ hi=>?_⟩
 ·rw [hl] at hi
  show i<x.toArray.size∧i<y.toArray.size
  rw [List.size_toArray,List.size_toArray]
  omega
 ·obtain ⟨t,c,d,rfl,h1,rfl,h2,h3⟩:=q
  have h2:x.toArray[i]?=some c:=h2
  have h3:y.toArray[i]?=some d:=h3
  rw [List.getElem?_toArray] at h2 h3
  refine ⟨t,_,h1,rfl,.tup [.str [c],.str [d]],?_,?_⟩
  ·unfold zipT
   have hz:(x.zip y)[i]?=some (c,d):=List.getElem?_zip_eq_some.mpr ⟨h2,h3⟩
   rw [List.getElem?_map,hz]
   rfl
  ·exact ⟨t,[.str ⟨#[c]⟩,.str ⟨#[d]⟩],rfl,.inl (.inl qAA),.str ⟨#[c]⟩,[.str ⟨#[d]⟩],rfl,rfl,.str ⟨#[d]⟩,[],rfl,rfl,rfl⟩
 ·rw [hl] at hi
  show i=x.toArray.size∨(i<x.toArray.size∧i=y.toArray.size)
  rw [List.size_toArray,List.size_toArray]
  omega
section
variable {X:Cx} {F:Nat→List D→M D} {W:WX}
theorem qNp {a b:Expr} {p1 p2 p3:Pos} {elts:List Expr} {j:Nat} {c c':CE} (hgl:L2.Gl X "zip") (hm:X.mg "zip"=none) (he:PE X a (tD X.K W (den F c))) (he':PE X b (tD X.K W (den F c'))) (hst:starEach [a,b] X.env=[(false,eval a X.env),(false,eval b X.env)]) (hst2:starEach [b] X.env=[(false,eval b X.env)]) :
    PI X (.Tuple elts j p3) (.Call (.Name "zip" p1) [a,b] [] p2) (tDI X.K W (denI F (.zip c c'))):=PI.imp (L2.pi_zip hgl hm (L2.pa_cons he (L2.pa_cons he' L2.pa_nil hst2) (by rw [hst,hst2])) hst hst2) fun σ H R t=>by
  obtain ⟨ρ,env,h,s,r,p⟩:=t
  rw [denI] at p
  refine ⟨ρ,env,h,s,r,Post.bind p fun ρ1 h1 d H1 e1 r1 q v hv=>?_⟩
  refine ⟨ρ1,env,h1,s.mono e1,r1,Post.bind q fun ρ2 h2 d2 H2 e2 r2 q2 w hw=>?_⟩
  have hv:=hv.mono e2 _ _
  cases d with
  | str x =>
    cases d2 with
    | str y =>
      cases hv
      cases hw
      exact ⟨_,_,rfl,Post.ret q2 r2 _ (qKg x y)⟩
    | _=>exact False.elim q2
  | _=>exact False.elim q2
end
end Fy
set_option Elab.async false
set_option linter.all false
set_option maxRecDepth 100000
set_option maxHeartbeats 4000000
namespace Fy
open PySem PySem.Spec PyProof.Rows
open L2 (V Hp HO VK XK TE TT TA TS TI Cx Inv RelV Vals SqL SqT Rd upd qAA qAB PE PT PA PS PSs EP TP PI PG PIE Turn FpOk Ends HOk frs thn)
noncomputable def CXD (P:Program) (w:World) (ex:Nat→Option Addr):L2.CXT:=fun outer H s E e s' =>
 ∃ (a C:Addr) (c:Nat) (B:Heap) (a0:Value) (H':Hp),e=.ref a∧ex c=some C∧Heap.FlyingW B outer a (.ref C) a0 s'.heap∧HOk P w H' B ∧
  (∀ b o,s.heap.get? b=some o→b∉frs outer→∃ o',B.get? b=some o')∧L2.Un (frs outer) [] H H' s.heap s'.heap∧s'.os=s.os∧AllBare s'.gens∧E e (some c) H'
theorem CXD.imp {P:Program} {w:World} {ex:Nat→Option Addr} {outer:List PySem.Env} {H:Hp} {s s':Shared} {E E':XK} {e:Value} (x:CXD P w ex outer H s E e s') (h:∀ e c H',E e c H'→E' e c H'):CXD P w ex outer H s E' e s':=by
 obtain ⟨a,C,c,B,a0,H',h1,h2,h3,h4,h5,h6,h7,h8,h9⟩:=x
 exact ⟨a,C,c,B,a0,H',h1,h2,h3,h4,h5,h6,h7,h8,h _ _ _ h9⟩
section
variable {fs:List Addr} {H H':Hp} {h0 h1 h' B:Heap} {l:List PySem.Env}
theorem qGi (u:L2.Un (frs l) [] H H' h0 h1) (hB:B.StaysIn h1) (cov:∀ b o,h0.get? b=some o→b∉frs l→∃ o',B.get? b=some o') (fr:h1.FunFrames B l) (hB':B.StaysIn h') (up:h1.UpToSlots h'):L2.Un (frs l) [] H H' h0 h' where
 keep:=fun b o e n hb hx=>by
  obtain ⟨o',e'⟩:=cov b o e hb
  have k1:=u.keep b o e n hb hx
  have k2:=hB b o' e'
  rw [k1] at k2
  cases k2
  exact hB' b o e'
 slot:=fun b o e n hb hx=>by
  obtain ⟨sl,k1⟩:=u.slot b o e n hb hx
  obtain ⟨_,o2,k2,k3⟩:=fr.mem hb
  rw [k1] at k2
  cases k2
  obtain ⟨sl',k4⟩:=up b _ k1 k3
  exact ⟨sl',k4⟩
 free:=u.free
 there:=fun b o e hx=>by
  by_cases hb:b∈frs l
  ·obtain ⟨_,o2,k2,k3⟩:=fr.mem hb
   obtain ⟨sl',k4⟩:=up b _ k2 k3
   exact ⟨_,k4⟩
  ·obtain ⟨o',e'⟩:=cov b o e hb
   exact ⟨o',hB' b o' e'⟩
 tups:=u.tups
 frzs:=u.frzs
 tbls:=u.tbls
theorem qGj {fs':List Addr} (u:L2.Un fs' [] H H' h0 h') (hs:∀ b∈fs',b∉fs→h0.get? b=none):L2.Un fs [] H H' h0 h' where
 keep:=fun b o e n hb hx=>u.keep b o e n (fun z=>by rw [hs b z hb] at e;cases e) hx
 slot:=fun b o e n hb hx=>u.any e n hx
 free:=u.free
 there:=u.there
 tups:=u.tups
 frzs:=u.frzs
 tbls:=u.tbls
end
theorem funFrames_hide' {base h:Heap} {as:List Addr} {l:List PySem.Env} (x:h.FunFrames base l) (ha:∀ b∈frs l,b∈as):h.FunFrames (PySem.W.hideAll h as) l :=
 PySem.W.funFrames_hide x fun env he a ha'=>ha a (List.mem_filterMap.mpr ⟨env,he,ha'⟩)
section
variable {X:Cx} {pins:List (Addr × Obj)} {σ:L2.St} {H:Hp} {s s':Shared} {ex:Nat→Option Addr}
theorem qDa {k:Nat} {f:Addr} {fd:FuncData} {ps:List Str} {sp:L2.Sp} {E:XK} {Q:VK} {us:List Value} {vs:List V} (F:L2.FnOk X.prog X.w X.K X.mg X.base (CXD X.prog X.w ex) k f fd ps sp) (hr:L2.Room k X.A) (hb:L2.Binds X.K fd ps [])
    (hx:∀ e s',CXD X.prog X.w ex X.stack H s E e s'→X.xe e s') (I:Inv X pins σ H s) (r:Vals vs us) (h:sp vs H Q E):wpAny (model X.prog X.w) X.A (call (.ref f) us) (EP X pins σ Q) X.xe s:=by
  have hl:us.length=ps.length:=by rw [← r.length];exact F.len _ _ _ _ h
  have hb':=hb s us I.kIn (by rw [List.append_nil];exact hl)
  rw [List.append_nil] at hb'
  refine wpAny_call (codeAny_mono (F.run X.A X.stack s H ⟨us,[]⟩ us vs Q E hr I.env0 hb' r h) fun r s' hq=>?_)
  cases r with
  | error e=>exact hx e s' hq
  | ok fl =>
    cases fl with
    | ret u=>exact I.after hq
    | next=>exact False.elim hq
    | brk=>exact False.elim hq
    | cont=>exact False.elim hq
end
section
variable {P:Program} {w:World} {K:PySem.W.Frag} {mg:Str→Option Value} {base:Heap} {N:List Str} {qual:Str} {scope:Scope} {f:Addr} {cd:Value} {A:Around} {outer:List PySem.Env} {s0:Shared} {H0:Hp} {E:XK} {ex:Nat→Option Addr}
variable {pins:List (Addr × Obj)} {σ:L2.St} {H:Hp} {s s':Shared}
noncomputable abbrev cxX (ex:Nat→Option Addr) (P:Program) (w:World) (K:PySem.W.Frag) (mg:Str→Option Value) (base:Heap) (N:List Str) (qual:Str) (scope:Scope) (f:Addr) (cd:Value) (A:Around) (outer:List PySem.Env) (s0:Shared) (H0:Hp) (E:XK):Cx:=L2.cxOf (CXD P w ex) P w K mg base N qual scope f cd A outer s0 H0 E
theorem qJw {h':Heap} {H':Hp} (I:Inv (cxX ex P w K mg base N qual scope f cd A outer s0 H0 E) pins σ H s) (u:L2.Un (frs (cxX ex P w K mg base N qual scope f cd A outer s0 H0 E).stack) [] H H' s.heap h'):L2.Un (frs outer) [] H0 H' s0.heap h':=by
 have b1:L2.Un (frs outer) [] H0 H s0.heap s.heap:=I.base
 have b2:=b1.mono (fs':=frs (cxX ex P w K mg base N qual scope f cd A outer s0 H0 E).stack) (ex':=[]) (fun b hb=>by
  show b∈frs (envOfC qual scope s0.heap.objs.size f cd::outer)
  exact List.mem_cons_of_mem _ hb) fun _ z=>z
 refine qGj (b2.trans u) fun b hb hn=>?_
 rcases List.mem_cons.mp (show b∈s0.heap.objs.size::frs outer from hb) with rfl | z
 ·cases q:s0.heap.get? s0.heap.objs.size with
  | none=>rfl
  | some o=>exact absurd (Heap.lt_size q) (Nat.lt_irrefl _)
 ·exact absurd z hn
theorem qG6 {B:Heap} (I:Inv (cxX ex P w K mg base N qual scope f cd A outer s0 H0 E) pins σ H s) (cov:∀ b o,s.heap.get? b=some o→b∉frs (cxX ex P w K mg base N qual scope f cd A outer s0 H0 E).stack→∃ o',B.get? b=some o') :
    ∀ b o,s0.heap.get? b=some o→b∉frs outer→∃ o',B.get? b=some o':=fun b o e hb=>by
  have b1:L2.Un (frs outer) [] H0 H s0.heap s.heap:=I.base
  obtain ⟨o1,e1⟩:=b1.there b o e (by simp)
  refine cov b o1 e1 fun z=>?_
  rcases List.mem_cons.mp (show b∈s0.heap.objs.size::frs outer from z) with rfl | z
  · exact absurd (Heap.lt_size e) (Nat.lt_irrefl _)
  · exact hb z
theorem qHY {W:WX} {e:Value} (hW:∀ c σ H,W c σ H→∀ e,E e (some c) H) (I:Inv (cxX ex P w K mg base N qual scope f cd A outer s0 H0 E) pins σ H s)
    (x:CXD P w ex (cxX ex P w K mg base N qual scope f cd A outer s0 H0 E).stack H s (fun _ co H'=>∃ c,co=some c∧W c σ H') e s'):(cxX ex P w K mg base N qual scope f cd A outer s0 H0 E).xe e s':=by
  obtain ⟨a,C,c,B,a0,H',rfl,h2,h3,h4,h5,h6,h7,h8,c',e',h9⟩:=x
  cases e'
  have fr:=I.ok.frames
  refine wpAny_leaves_onW (env:=envOfC qual scope s0.heap.objs.size f cd) (outer:=outer) fr rfl h3 fun h' hfl up=>?_
  have un:=qGi h6 h3.1 h5 h3.2.2.1 hfl.1 up
  refine ⟨a,C,c,B,a0,H',rfl,h2,hfl,h4,qG6 I h5,qJw I un,?_,h8,hW c σ H' h9 _⟩
  rw [show ({ s' with heap:=h' }:Shared).os=s'.os from rfl,h7]
  exact I.os
theorem qGO {W:WX} {a C:Addr} {c:Nat} {args:List Value} {h1:Heap} (hW:∀ c σ H,W c σ H→∀ e,E e (some c) H) (I:Inv (cxX ex P w K mg base N qual scope f cd A outer s0 H0 E) pins σ H s) (hc:ex c=some C)
    (m:Heap.MadeExcOf s.heap h1 a (.ref C) args) (hw:W c σ H):(cxX ex P w K mg base N qual scope f cd A outer s0 H0 E).xe (.ref a) { s with heap:=h1 }:=by
  have fr:=I.ok.frames
  have ff:=I.stack
  have hB:(PySem.W.hideAll s.heap (frs (cxX ex P w K mg base N qual scope f cd A outer s0 H0 E).stack)).StaysIn s.heap:=fun b o e=>PySem.W.of_hideAll _ e
  have hcov:∀ b o,s.heap.get? b=some o→b∉frs (cxX ex P w K mg base N qual scope f cd A outer s0 H0 E).stack→∃ o',(PySem.W.hideAll s.heap (frs (cxX ex P w K mg base N qual scope f cd A outer s0 H0 E).stack)).get? b=some o':=fun b o e hb=>⟨o,PySem.W.hideAll_get _ e hb⟩
  have hok:HOk P w H (PySem.W.hideAll s.heap (frs (cxX ex P w K mg base N qual scope f cd A outer s0 H0 E).stack)):=fun b u e=>by
    refine (show L2.ObjOk P w H s.heap b u from I.hok b u e).stay (fun c v hc q=>PySem.W.hideAll_get _ q fun z=>?_) (fun _ q=>q) fun _ _ q=>q
    have n:=I.stkFree c z
    rcases hc with rfl | hc
    · rw [e] at n;cases n
    · rw [hc] at n;cases n
  refine wpAny_leaves_madeW (env:=envOfC qual scope s0.heap.objs.size f cd) (outer:=outer) fr rfl hB (funFrames_hide' ff fun _ z=>z) m fun h' t hfl _ _ up=>?_
  have up':s.heap.UpToSlots h':=(Heap.UpToSlots.of_keeps m.keeps).trans up
  have un:=qGi (L2.Un.refl (fs:=frs (cxX ex P w K mg base N qual scope f cd A outer s0 H0 E).stack) (ex:=[]) (H:=H) (h:=s.heap)) hB hcov (funFrames_hide' ff fun _ z=>z) hfl.1 up'
  exact ⟨a,C,c,_,_,H,rfl,hc,hfl,hok,qG6 I hcov,qJw I un,I.os,I.bare,hW c σ H hw _⟩
end
end Fy
set_option Elab.async false
set_option linter.all false
set_option maxRecDepth 100000
set_option maxHeartbeats 4000000
namespace Fy
open PySem PySem.Spec PyProof.Rows
open L2 (V Hp HO VK XK TE TT TA TS TI Cx Inv RelV Vals SqL SqT Rd upd qAA qAB PE PT PA PS PSs EP TP PI PG PIE Turn FpOk Ends HOk frs thn)
noncomputable def isXC (K:PySem.W.Frag) (C:Addr):Bool:=PySem.W.excIn K C [.type "ValueError",.type "Exception",.type "BaseException",.type "object"] "ValueError.__new__"
section
variable {X:Cx} {F:Nat→List D→M D} {B:Nat} {W:WX} {ex:Nat→Option Addr}
end
end Fy
set_option Elab.async false
set_option linter.all false
set_option maxRecDepth 100000
set_option maxHeartbeats 4000000
namespace Fy
open PySem PySem.Spec PyProof.Rows
open L2 (V Hp HO VK XK TE TT TA TS TI Cx Inv RelV Vals SqL SqT Rd upd qAA qAB PE PT PA PS PSs EP TP SP PI PG PIE Turn FpOk Ends HOk frs thn)
noncomputable abbrev hold (X:Cx) (pins:List (Addr × Obj)) (E:Value→Shared→Prop):Cx:={ X with pn:=X.pn++pins,xe:=E }
noncomputable abbrev mark (X:Cx) (e:Value):Cx:={ X with A:=X.A.mark (some e),calm:=false,xe:=fun _ _=>False }
section
variable {X:Cx} {pins pins':List (Addr × Obj)} {σ:L2.St} {H:Hp} {s:Shared} {E:Value→Shared→Prop}
theorem qKr {e:Value} (ok:X.Ok):(mark X e).Ok:=⟨ok.mod,ok.kind,ok.glob,ok.blt,ok.above,ok.inj,ok.has,ok.cab,(fun z=>by cases z),ok.frames,ok.stk,ok.exf,ok.bs,ok.bsz,ok.noex,ok.exfs,ok.funs,ok.frf⟩
theorem Inv.mark {e:Value} (I:Inv X pins σ H s):Inv (mark X e) pins σ H s:=⟨qKr I.ok,I.os,I.bare,I.base,I.loc,I.cell,I.free,I.freeC,I.pin,I.hok,I.len⟩
theorem Inv.unmark {e:Value} (I:Inv (Fy.mark X e) pins σ H s) (ok:X.Ok):Inv X pins σ H s:=⟨ok,I.os,I.bare,I.base,I.loc,I.cell,I.free,I.freeC,I.pin,I.hok,I.len⟩
theorem SP.unmark {e:Value} {D:Ends} {f:Flow} {s':Shared} (h:SP (Fy.mark X e) pins D f s') (ok:X.Ok):SP X pins D f s':=by
 cases f with
 | next=>obtain ⟨σ',H',I,q⟩:=h;exact ⟨σ',H',Inv.unmark I ok,q⟩
 | brk=>obtain ⟨σ',H',I,q⟩:=h;exact ⟨σ',H',Inv.unmark I ok,q⟩
 | cont=>obtain ⟨σ',H',I,q⟩:=h;exact ⟨σ',H',Inv.unmark I ok,q⟩
 | ret u=>obtain ⟨v,σ',H',I,r,q⟩:=h;exact ⟨v,σ',H',Inv.unmark I ok,r,q⟩
end
theorem qE3 {P:Program} {w:World} {H:Hp} {h:Heap} {a:Addr} {o:HO} (x:L2.ObjOk P w H h a o):∃ ob,h.get? a=some ob:=by
 cases o with
 | lst xs=>obtain ⟨_,_,_,_,e⟩:=x;exact ⟨_,e⟩
 | tup xs=>obtain ⟨_,_,_,ob,e,_⟩:=x;exact ⟨_,e⟩
 | dK kvs=>obtain ⟨_,_,_,_,o,_,_,e,_⟩:=x;exact ⟨_,e⟩
 | dT kvs=>obtain ⟨_,_,_,_,o,_,_,e,_⟩:=x;exact ⟨_,e⟩
 | set S n=>obtain ⟨o,_,_,_,e,_⟩:=x;exact ⟨_,e⟩
 | ins C dx fs=>obtain ⟨_,_,_,e,_⟩:=x;exact ⟨_,e⟩
 | own y=>exact x
 | xd fs=>obtain ⟨_,⟨_,_,_,e,_⟩,_⟩:=x;exact ⟨_,e⟩
 | rng lo hi=>obtain ⟨_,_,_,e⟩:=x;exact ⟨_,e⟩
 | frz ob u=>obtain ⟨e,_⟩:=x;exact ⟨_,e⟩
 | tbl ps=>exact ⟨_,(show h.get? a=some _ from x)⟩
 | met f y=>exact ⟨_,(show h.get? a=some _ from x)⟩
 | ext φ=>obtain ⟨_,⟨_,e⟩,_⟩:=x;exact ⟨_,e⟩
section
variable {X:Cx} {pins:List (Addr × Obj)} {σ:L2.St} {H:Hp} {s:Shared}
theorem Inv.track {a:Addr} {o:HO} (I:Inv X pins σ H s) (hn:H a=none) (h0:X.s₀.heap.get? a=none) (hl:a≠X.env.locals) (hc:∀ x c,X.env.cells.lookup x=some c→c≠a) (hp:∀ p∈X.pn++pins,p.1≠a)
    (new:L2.ObjOk X.prog X.w (upd H a o) s.heap a o):Inv X pins σ (upd H a o) s:=by
  refine ⟨I.ok,I.os,I.bare,⟨I.base.keep,I.base.slot,fun b ob q n hx=>?_,I.base.there,fun b xs q=>?_,fun b ob u q=>?_,fun b ps q=>?_⟩,I.loc,I.cell,?_,fun x c e=>?_,fun p hpp=>?_,fun b u e=>?_,I.len⟩
  · rw [qAB (fun z=>by rw [z,h0] at q;cases q)]
    exact I.base.free b ob q n hx
  · have:=I.base.tups b xs q
    rw [qAB (L2.ne_of_none this hn)]
    exact this
  · have:=I.base.frzs b ob u q
    rw [qAB (L2.ne_of_none this hn)]
    exact this
  · obtain ⟨more,e⟩:=I.base.tbls b ps q
    exact ⟨more,by rw [qAB (L2.ne_of_none e hn)];exact e⟩
  · rw [qAB (Ne.symm hl)]
    exact I.free
  · rw [qAB (hc x c e)]
    exact I.freeC x c e
  · obtain ⟨e,n,ne,nf,d⟩:=I.pin p hpp
    exact ⟨e,by rw [qAB (hp p hpp)];exact n,ne,nf,d⟩
  · by_cases hb:b=a
    · subst hb
      rw [qAA] at e
      cases e
      exact new
    · rw [qAB hb] at e
      exact (I.hok b u e).stay (fun c v _ q=>q) (fun c q=>by rw [qAB (L2.ne_of_none q hn)];exact q) fun c xs q=>by rw [qAB (L2.ne_of_none q hn)];exact q
theorem Inv.blank {h':Heap} {m':Str→Option Value} {tk:Nat} (I:Inv X pins σ H s) (hn':h'.Ns X.env.locals m') (hs:Heap.SameBut X.env.locals s.heap h'):Inv X pins (σ.map fun _=>none) H { s with heap:=h',toks:=tk }:=by
 have cne:=I.cne
 refine ⟨I.ok,I.os,I.bare,⟨fun b o e n hb hx=>?_,fun b o e n hb hx=>?_,I.base.free,fun b o e hx=>?_,I.base.tups,I.base.frzs,I.base.tbls⟩,⟨_,hn',fun j y v' e1 e2 e3=>?_⟩,fun y c e=>?_,I.free,I.freeC,fun p hp=>?_,fun b ob e=>?_,by simpa using I.len⟩
 ·exact (hs.2 b (Nat.ne_of_lt (Nat.lt_of_lt_of_le (Heap.lt_size e) I.ok.above))).trans (I.base.keep b o e n hb hx)
 ·obtain ⟨sl,e1⟩:=I.base.slot b o e n hb hx
  exact ⟨sl,(hs.2 b (Nat.ne_of_lt (Nat.lt_of_lt_of_le (Heap.lt_size e) I.ok.above))).trans e1⟩
 ·obtain ⟨o',e1⟩:=I.base.there b o e hx
  exact ⟨o',(hs.2 b (Nat.ne_of_lt (Nat.lt_of_lt_of_le (Heap.lt_size e) I.ok.above))).trans e1⟩
 ·rw [List.getElem?_map] at e2
  cases q:σ[j]? with
  | none=>rw [q] at e2;cases e2
  | some z=>rw [q] at e2;cases e2
 ·obtain ⟨w',z⟩:=I.cell y c e
  exact ⟨w',z.sameBut hs (cne y c e)⟩
 ·obtain ⟨e,n,ne,nf,d⟩:=I.pin p hp
  exact ⟨(hs.2 p.1 ne).trans e,n,ne,nf,d⟩
 ·have hfree:=I.free
  refine (I.hok b ob e).stay (fun c w' hc q=>(hs.2 c ?_).trans q) (fun _ q=>q) fun _ _ q=>q
  rintro rfl
  rcases hc with rfl | hc
  ·rw [hfree] at e;cases e
  ·rw [hfree] at hc;cases hc
end
section
variable {X:Cx} {F:Nat→List D→M D} {B:Nat} {W:WX} {ex:Nat→Option Addr}
noncomputable def HOf (X:Cx) (F:Nat→List D→M D) (B:Nat) (ex:Nat→Option Addr):List ExceptHandler→CH→Prop
  | [],.nil=>True
  | .ExceptHandler (some (.Name x np)) none body pos::r,.cons cs k r'=>(∃ C,L2.Gl X x∧(x == ("__debug__":Str))=false∧X.mg x=some (.ref C)∧∀ c D,ex c=some D→PySem.W.exmOne X.K (.ref D) (.ref C)=some (cs.contains c)) ∧
      (∃ b0 rest,body=b0::rest)∧(∀ e,PSs (mark X e) body (tDS X.K WF (denS F B k)))∧HOf X F B ex r r'
  | .ExceptHandler (some (.Name x np)) (some n) body pos::r,.as cs i k r'=>(∃ C,L2.Gl X x∧(x == ("__debug__":Str))=false∧X.mg x=some (.ref C)∧∀ c D,ex c=some D→PySem.W.exmOne X.K (.ref D) (.ref C)=some (cs.contains c)) ∧
      (∃ b0 rest,body=b0::rest)∧(X.ex=[]∧X.N.Nodup∧X.N[i]?=some n∧X.env.scope.names.lookup n=some .local∧∀ c C,ex c=some C→ClsAt X.K c C)∧(∀ e,PSs (mark X e) body (tDS X.K WF (denS F B k)))∧HOf X F B ex r r'
  | _,_=>False
structure Look (X:Cx) (ex:Nat→Option Addr) (pins:List (Addr × Obj)) (σ:L2.St) (Hc H:Hp) (s0 s:Shared) (Bs:Heap) (a C:Addr) (a0:Value):Prop where
 inv:Inv X pins σ Hc s0
 fl:Heap.FlyingW Bs X.stack a (.ref C) a0 s.heap
 hok:HOk X.prog X.w H Bs
 cov:∀ b o,s0.heap.get? b=some o→b∉frs X.stack→∃ o',Bs.get? b=some o'
 un:L2.Un (frs X.stack) [] Hc H s0.heap s.heap
 os:s.os=s0.os
 bare:AllBare s.gens
theorem Look.go {pins:List (Addr × Obj)} {σ:L2.St} {Hc H:Hp} {s0 s:Shared} {Bs h':Heap} {a C:Addr} {a0:Value} (L:Look X ex pins σ Hc H s0 s Bs a C a0) (fl:Heap.FlyingW Bs X.stack a (.ref C) a0 h') (up:s.heap.UpToSlots h'):Look X ex pins σ Hc H s0 { s with heap:=h' } Bs a C a0 :=
 ⟨L.inv,fl,L.hok,L.cov,qGi L.un L.fl.1 L.cov L.fl.2.2.1 fl.1 up,L.os,L.bare⟩
theorem Look.now {pins:List (Addr × Obj)} {σ:L2.St} {Hc H:Hp} {s0 s:Shared} {Bs:Heap} {a C:Addr} {a0:Value} (L:Look X ex pins σ Hc H s0 s Bs a C a0):Inv X pins σ H s :=
 L.inv.call' L.os L.un (L.hok.kept L.fl.1) L.bare fun b hb=>absurd hb (by simp)
theorem Look.ty {pins:List (Addr × Obj)} {σ:L2.St} {Hc H:Hp} {s0 s:Shared} {Bs:Heap} {a C:Addr} {a0:Value} {M:Model} (L:Look X ex pins σ Hc H s0 s Bs a C a0):PySem.W.Looks M s.heap (typeOf (.ref a)) (.ref C):=by
 obtain ⟨ob,h1,h2⟩:=L.fl.there
 exact h2 ▸ (PySem.W.Looks.ld h1).andThen .now
theorem Look.new {pins:List (Addr × Obj)} {σ:L2.St} {Hc H:Hp} {s0 s:Shared} {Bs:Heap} {a C:Addr} {a0:Value} (L:Look X ex pins σ Hc H s0 s Bs a C a0):s0.heap.get? a=none:=by
 cases q:s0.heap.get? a with
 | none=>rfl
 | some o =>
  exfalso
  by_cases hf:a∈frs X.stack
  ·obtain ⟨_,o2,k2,k3⟩:=L.fl.2.2.1.mem hf
   obtain ⟨oe,vs,T,oT,ts,t1,t2,t3,_⟩:=L.fl.2.2.2
   rw [t1] at k2
   cases k2
   exact k3 vs t3
  ·obtain ⟨o',e⟩:=L.cov a o q hf
   rw [L.fl.2.1] at e
   cases e
theorem Look.free {pins:List (Addr × Obj)} {σ:L2.St} {Hc H:Hp} {s0 s:Shared} {Bs:Heap} {a C:Addr} {a0:Value} (L:Look X ex pins σ Hc H s0 s Bs a C a0):H a=none:=by
 cases q:H a with
 | none=>rfl
 | some o =>
  obtain ⟨ob,e⟩:=qE3 (L.hok a o q)
  rw [L.fl.2.1] at e
  cases e
noncomputable def Clz (X:Cx) (F:Nat→List D→M D) (B:Nat) (ex:Nat→Option Addr) (W:WX) (pins:List (Addr × Obj)) (σ:L2.St) (E:Ends) (hs:List ExceptHandler) (ch:CH):Prop :=
 ∀ (Hc H:Hp) (s0 s:Shared) (Bs:Heap) (a C:Addr) (a0:Value) (c:Nat),ex c=some C→Look X ex pins σ Hc H s0 s Bs a C a0 →
  (∃ ρ env h,RepS X.K ρ H env σ∧RepH X.K ρ h H∧PostS X.K W E ρ H (denH F B ch c env h))→wpAny (model X.prog X.w) X.A (handleBy (.ref a) X.env hs) (SP X pins E) X.xe s
theorem qJb {pins:List (Addr × Obj)} {σ:L2.St} {E:Ends} {x:Str} {np pos:Pos} {body:List Stmt} {r:List ExceptHandler} {cs:List Nat} {k:CS} {r':CH} (hh:HOf X F B ex (.ExceptHandler (some (.Name x np)) none body pos::r) (.cons cs k r')) (ih:Clz X F B ex W pins σ E r r'):Clz X F B ex W pins σ E (.ExceptHandler (some (.Name x np)) none body pos::r) (.cons cs k r'):=by
 rintro Hc H s0 s Bs a C a0 c hc L ⟨ρ,env,h,st,rh,p⟩
 obtain ⟨⟨C',g1,g2,g3,g4⟩,⟨b0,rest,hb⟩,hsu,hr⟩:=hh
 have I:=L.now
 rw [denH] at p
 refine wpAny_handleBy_cons (codeAny_handlers_test (L2.ld_glob (X:=mark X (.ref a)) (Inv.mark I) g1 g3 ?_ g2)) (by intro q;cases q)
 refine (PySem.W.exm_one I.kIn L.ty (g4 c C hc)).here ?_
 cases q:cs.contains c with
 | false =>
  rw [q] at p
  exact ih _ _ _ _ _ _ _ _ _ hc L ⟨ρ,env,h,st,rh,p⟩
 | true =>
  rw [q] at p
  subst hb
  refine codeAny_handlers_suite (lands_againW L.fl fun h6 fl6 up6=>?_)
  have L6:=L.go fl6 up6
  have p:PostS X.K W E ρ H (SR.calm (denS F B k env h)):=p
  have p':PostS X.K WF E ρ H (denS F B k env h):=by
   cases z:denS F B k env h with
   | nx _ _=>rw [z] at p;exact p
   | rt _ _=>rw [z] at p;exact p
   | bk _ _=>rw [z] at p;exact p
   | ct _ _=>rw [z] at p;exact p
   | exc _ _ _=>rw [z] at p;exact False.elim p
   | bad=>rw [z] at p;exact p
  exact wpAny_mono (hsu (.ref a) pins _ σ H E (Inv.mark L6.now) ⟨ρ,env,h,st,rh,p'⟩) (fun f s7 q7=>SP.unmark q7 I.ok) fun _ _ z=>False.elim z
theorem qJc {pins:List (Addr × Obj)} {σ:L2.St} {E:Ends} {x n:Str} {np pos:Pos} {body:List Stmt} {r:List ExceptHandler} {cs:List Nat} {i:Nat} {k:CS} {r':CH} (hh:HOf X F B ex (.ExceptHandler (some (.Name x np)) (some n) body pos::r) (.as cs i k r')) (ih:Clz X F B ex W pins σ E r r'):Clz X F B ex W pins σ E (.ExceptHandler (some (.Name x np)) (some n) body pos::r) (.as cs i k r'):=by
  rintro Hc H s0 s Bs a C a0 c hc L ⟨ρ,env,h,st,rh,p⟩
  obtain ⟨⟨C',g1,g2,g3,g4⟩,⟨b0,rest,hb⟩,⟨n0,n1,n2,n3,n4⟩,hsu,hr⟩:=hh
  have I:=L.now
  rw [denH] at p
  refine wpAny_handleBy_cons (codeAny_handlers_test (L2.ld_glob (X:=mark X (.ref a)) (Inv.mark I) g1 g3 ?_ g2)) (by intro q;cases q)
  refine (PySem.W.exm_one I.kIn L.ty (g4 c C hc)).here ?_
  cases q:cs.contains c with
  | false =>
    rw [q] at p
    exact ih _ _ _ _ _ _ _ _ _ hc L ⟨ρ,env,h,st,rh,p⟩
  | true =>
    rw [q] at p
    subst hb
    refine codeAny_handlers_suite_as (lands_againW L.fl fun h6 fl6 up6=>?_)
    have L6:=L.go fl6 up6
    have new:=L.new
    have hfree:=L6.free
    have hs0:X.s₀.heap.get? a=none:=by
      cases z:X.s₀.heap.get? a with
      | none=>rfl
      | some o =>
        obtain ⟨o',e⟩:=L.inv.base.there a o z (by rw [n0];exact List.not_mem_nil)
        rw [new] at e
        cases e
    obtain ⟨ob,hob,hcl⟩:=L6.fl.there
    have It:Inv X pins σ (upd H a (xcO a C)) { s with heap:=h6 }:=Inv.track L6.now hfree hs0 (fun z=>by
        obtain ⟨m,hn,_⟩:=L.inv.loc
        obtain ⟨oL,_,_,hoL,_⟩:=id hn
        rw [← z,new] at hoL
        cases hoL) (fun y c' e z=>by
        obtain ⟨w',oc,hoc,_⟩:=L.inv.cell y c' e
        rw [z,new] at hoc
        cases hoc) (fun pp hpp z=>by
        have:=(L.inv.pin pp hpp).1
        rw [z,new] at this
        cases this) ⟨⟨ob,hob,hcl⟩,⟨ob,hob⟩,fun h1 h2 ⟨o1,e1,e2⟩ k=>⟨o1,k o1 e1,e2⟩⟩
    have step:Step ρ H (ρ++[a]) (upd H a (xcO a C)):=Step.new1 hfree
    have rh':RepH X.K (ρ++[a]) (h++[.xc c]) (upd H a (xcO a C)):=rh.newO hfree ⟨C,n4 c C hc,qAA⟩
    have hlen:(ρ++[a])[h.length]?=some a:=by rw [← rh.len,List.getElem?_append_right (Nat.le_refl _)];simp
    have st':RepS X.K (ρ++[a]) (upd H a (xcO a C)) (env.set i (some (.ref h.length))) (σ.set i (some (.ref a))):=(st.mono step).set i ⟨a,hlen,rfl⟩
    have p:PostS X.K W E ρ H (SR.rtO (denS F B k (env.set i (some (.ref h.length))) (h++[.xc c]))):=p
    have p':PostS X.K WF { E with nx:=fun _ _=>False,bk:=fun _ _=>False,ct:=fun _ _=>False } (ρ++[a]) (upd H a (xcO a C)) (denS F B k (env.set i (some (.ref h.length))) (h++[.xc c])):=by
      cases z:denS F B k (env.set i (some (.ref h.length))) (h++[.xc c]) with
      | rt d g=>rw [z] at p;exact fun ρ' H' v e' r' hv=>p ρ' H' v (step.trans e') r' hv
      | nx _ _=>rw [z] at p;exact False.elim p
      | bk _ _=>rw [z] at p;exact False.elim p
      | ct _ _=>rw [z] at p;exact False.elim p
      | exc _ _ _=>rw [z] at p;exact False.elim p
      | bad=>rw [z] at p;exact p
    refine L2.store_ok (X:=mark X (.ref a)) (v:=.ref a) (Inv.mark It) n1 n2 (.inl n3) rfl (fun s7 I7=>?_) (.inr n3)
    refine wpAny_mono (hsu (.ref a) pins s7 _ _ _ I7 ⟨_,_,_,st',rh',p'⟩) (fun f s8 q8=>?_) fun _ _ z=>False.elim z
    cases f with
    | next=>obtain ⟨_,_,_,z⟩:=q8;exact False.elim z
    | brk=>obtain ⟨_,_,_,z⟩:=q8;exact False.elim z
    | cont=>obtain ⟨_,_,_,z⟩:=q8;exact False.elim z
    | ret u =>
      obtain ⟨v,σ',H',I8,rv,qv⟩:=q8
      have I9:=Inv.unmark I8 I.ok
      obtain ⟨m,hn,_⟩:=I9.loc
      refine wpAny_nameGoes n3 hn (by rw [I9.ok.kind];rfl) fun h' m' hn' hs'=>?_
      exact ⟨v,_,H',Inv.blank I9 hn' hs',rv,qv⟩
theorem qN7 {pins:List (Addr × Obj)} {σ:L2.St} {E:Ends}:∀ (hs:List ExceptHandler) (ch:CH),HOf X F B ex hs ch→Clz X F B ex W pins σ E hs ch:=by
 intro hs
 induction hs with
 | nil =>
  intro ch hh
  cases ch with
  | nil=>rintro Hc H s0 s Bs a C a0 c hc L ⟨ρ,env,h,st,rh,p⟩;exact False.elim p
  | _=>exact False.elim hh
 | cons hd r ih =>
  intro ch hh
  obtain ⟨ty,nm,body,pos⟩:=hd
  cases ty with
  | none=>exact False.elim hh
  | some t =>
   cases t with
   | Name x np =>
    cases nm with
    | none =>
     cases ch with
     | cons cs k r'=>exact qJb hh (ih r' hh.2.2.2)
     | _=>exact False.elim hh
    | some n =>
     cases ch with
     | «as» cs i k r'=>exact qJc hh (ih r' hh.2.2.2.2)
     | _=>exact False.elim hh
   | _=>exact False.elim hh
end
end Fy
set_option Elab.async false
set_option linter.all false
set_option maxRecDepth 100000
set_option maxHeartbeats 4000000
namespace Fy
open PySem PySem.Spec PySem.Calls PyProof.Rows PySem.W
structure XGet (K:Frag) (C:Addr):Prop where
 ga:findIn K (.ref C) "__getattribute__"=some (some (.builtin "BaseException.__getattribute__"))
 gt:findIn K (.ref C) "__getattr__"=some none
 cl:findIn K (.ref C) "__class__"=some (some (.builtin "object.__class__"))
 ob:subIn K (.ref C) (.type "object")=some true
 be:subIn K (.ref C) (.type "BaseException")=some true
 is:isClsIn K C=true
section
variable {prog:Program} {w:World} {A:Around} {E:Value→Shared→Prop} {h:Heap} {g:Array GenState} {d:Drawn} {t:Nat} {os:OsState} {a C:Addr} {o:Obj} {K:Frag}
end
end Fy
set_option Elab.async false
set_option linter.all false
set_option maxRecDepth 100000
set_option maxHeartbeats 4000000
namespace Fy
open PySem PySem.Spec PySem.Calls PyProof.Rows
open L2 (V Hp HO VK XK TE TT TA TS TI Cx Inv RelV Vals SqL SqT Rd upd qAA qAB PE PT PA PS PSs EP TP SP PI PG PIE Turn FpOk Ends HOk frs thn OpR CallR)
theorem qJx {K:PySem.W.Frag} {t c:Value} {b:Bool} (h:PySem.W.exmOne K t c=some b) (hb:(t == c)=true→b=true):PySem.W.kitOne K t c=some b:=by
 unfold PySem.W.exmOne at h
 unfold PySem.W.kitOne
 split
 ·rename_i q;rw [hb q]
 ·split at h
  ·exact h
  ·cases h
section
variable {X:Cx} {F:Nat→List D→M D} {W:WX}
end
end Fy
set_option Elab.async false
set_option linter.all false
set_option maxRecDepth 100000
set_option maxHeartbeats 4000000
namespace Fy
open PySem PySem.Spec PySem.Calls PyProof.Rows
open L2 (V Hp HO VK XK TE TT TA TS TI Cx Inv RelV Vals SqL SqT Rd upd qAA qAB PE PT PA PS PSs EP TP SP PI PG PIE Turn FpOk Ends HOk frs thn OpR CallR)
noncomputable def vl (l:List Nat) (a:Nat):Nat:=l.foldl (fun a d=>a*256+d) a
theorem qE6:∀ (f n:Nat) (acc:List Nat),n<256 ^ f→vl (nmGo f n acc) 0=vl acc n
 | 0,n,acc,h=>by
  have:n=0:=by rw [Nat.pow_zero] at h;omega
  subst this
  rfl
 | f+1,n,acc,h=>by
  unfold nmGo
  by_cases q:n=0
  ·rw [if_pos q,q]
  ·rw [if_neg q,qE6 f (n / 256) (n % 256::acc) (by rw [Nat.pow_succ] at h;exact Nat.div_lt_of_lt_mul (by rw [Nat.mul_comm];exact h))]
   show vl acc (n / 256*256+n % 256)=_
   rw [Nat.div_add_mod' n 256]
theorem qDk {a b:Nat} (ha:a<256 ^ 60) (hb:b<256 ^ 60) (h:nmOf a=nmOf b):a=b:=by
 unfold nmOf at h
 have h1:(nmGo 60 a []).toArray=(nmGo 60 b []).toArray:=congrArg Str.cps h
 have h2:nmGo 60 a []=nmGo 60 b []:=by simpa using h1
 have e1:=qE6 60 a [] ha
 have e2:=qE6 60 b [] hb
 rw [h2,e2] at e1
 exact e1.symm
section
variable {K:PySem.W.Frag} {ρ:List Addr} {H:Hp} {C:Addr}
theorem RepF.len:∀ {fs:List (Nat × D)} {vs:List (Str × V)},RepF K ρ H C fs vs→vs.length=fs.length
 | [],_,h=>by cases h;rfl
 | x::xs,_,⟨v,r,h1,_,_,_,h3⟩=>by subst h1;simp [RepF.len h3]
theorem RepF.get {k:Nat} {d:D}:∀ {fs:List (Nat × D)} {vs:List (Str × V)},RepF K ρ H C fs vs→getN k fs=some d→∃ v,vs.lookup (nmOf k)=some v∧RepV K ρ H d v∧L2.NoAttr K C (nmOf k)∧k<256 ^ 60
 | [],_,_,e=>by cases e
 | (g,x)::xs,_,⟨v,r,h1,hb,hn,h2,h3⟩,e=>by
  subst h1
  unfold getN at e
  by_cases q:(g == k)=true
  ·rw [if_pos q] at e
   cases e
   have:g=k:=by simpa using q
   subst this
   exact ⟨v,by simp [List.lookup],h2,hn,hb⟩
  ·rw [if_neg q] at e
   obtain ⟨w,k1,k2,k3,k4⟩:=RepF.get h3 e
   refine ⟨w,?_,k2,k3,k4⟩
   have ne:(nmOf k == nmOf g)=false:=beq_eq_false_iff_ne.mpr fun z=>q (by rw [qDk k4 hb z];simp)
   show List.lookup (nmOf k) ((nmOf g,v)::r)=_
   rw [List.lookup_cons,ne]
   exact k1
theorem RepF.none {k:Nat} (hk:k<256 ^ 60):∀ {fs:List (Nat × D)} {vs:List (Str × V)},RepF K ρ H C fs vs→getN k fs=none→vs.lookup (nmOf k)=none
 | [],_,h,_=>by cases h;rfl
 | (g,x)::xs,_,⟨v,r,h1,hb,hn,h2,h3⟩,e=>by
  subst h1
  unfold getN at e
  by_cases q:(g == k)=true
  ·rw [if_pos q] at e;cases e
  ·rw [if_neg q] at e
   have ne:(nmOf k == nmOf g)=false:=beq_eq_false_iff_ne.mpr fun z=>q (by rw [qDk hk hb z];simp)
   show List.lookup (nmOf k) ((nmOf g,v)::r)=_
   rw [List.lookup_cons,ne]
   exact RepF.none hk h3 e
theorem RepF.put {k:Nat} {d:D} {v:V} (hk:k<256 ^ 60) (hn:L2.NoAttr K C (nmOf k)) (hv:RepV K ρ H d v):∀ {fs:List (Nat × D)} {vs:List (Str × V)},RepF K ρ H C fs vs→RepF K ρ H C (putN k d fs) (L2.putF (nmOf k) v vs)
 | [],_,h=>by cases h;exact ⟨v,[],rfl,hk,hn,hv,rfl⟩
 | (g,x)::xs,_,⟨w,r,h1,hb,hn',h2,h3⟩=>by
  subst h1
  unfold putN
  show RepF K ρ H C _ (if nmOf g=nmOf k then (nmOf g,v)::r else (nmOf g,w)::L2.putF (nmOf k) v r)
  by_cases q:(g == k)=true
  ·have:g=k:=by simpa using q
   subst this
   rw [if_pos q,if_pos rfl]
   exact ⟨v,r,rfl,hk,hn,hv,h3⟩
  ·have hb':g<256 ^ 60:=hb
   rw [if_neg q,if_neg fun z=>q (by rw [qDk hb' hk z];simp)]
   exact ⟨w,_,rfl,hb,hn',h2,RepF.put hk hn hv h3⟩
end
section
variable {X:Cx} {F:Nat→List D→M D} {B:Nat} {W:WX}
theorem d_fld {e:Expr} {ca:CE} {k:Nat} {f:Str} {pos:Pos} (hf:f=nmOf k) (he:PE X e (tD X.K W (den F ca))) (hb:attributeBase e f X.env (eval e X.env)=eval e X.env):PE X (.Attribute e f pos) (tD X.K W (den F (.un (.fld k) ca))):=by
 subst hf
 refine PE.imp (L2.pe_fld he hb) fun σ H Q t=>?_
 obtain ⟨ρ,env,h,s,r,p⟩:=one t
 refine ⟨ρ,env,h,s,r,Post.imp p fun ρ' H' d q v hv=>?_⟩
 obtain ⟨w,ρ2,h2,d2,r2,hd,p2⟩:=q v hv
 cases d2 with
 | ref i =>
  have p2:PostV X.K w Q ρ2 H' (match h2[i]? with | some (.ins _ fs)=>(match getN k fs with | some d=>.ok d h2 | none=>.bad) | _=>.bad):=p2
  split at p2
  ·rename_i c fs hi
   cases g:getN k fs with
   | none=>rw [g] at p2;exact False.elim p2
   | some d =>
    rw [g] at p2
    obtain ⟨a,ha,C,dx,vs,k1,k2,k3,k4⟩:=r2.obj i _ hi
    obtain ⟨a',ha',rfl⟩:=hd
    rw [ha] at ha'
    cases ha'
    obtain ⟨u,l1,l2,l3,_⟩:=k4.get g
    exact ⟨a,C,dx,vs,u,rfl,k3,k2,l3,l1,PostV.now p2 r2 l2⟩
  ·exact False.elim p2
 | _=>exact (show False from p2).elim
theorem qMi {o e:Expr} {ca ce:CE} {k:Nat} {cs:List Nat} {f:Str} {pos pos':Pos} (hf:f=nmOf k) (hk:k<256 ^ 60) (hna:∀ c C,cs.contains c=true→ClsAt X.K c C→L2.NoAttr X.K C (nmOf k))
    (ho:PE X o (tD X.K W (den F ca))) (he:PE X e (tD X.K W (den F ce))) (hs:swapsWith e (some (.Attribute o f pos')) pos.line X.env=pure false):PS X (.Assign [.Attribute o f pos'] e pos) (tDS X.K W (denS F B (.setF ca k cs ce))):=by
  subst hf
  refine PS.imp (L2.ps_fld ho he hs) fun E σ H t=>?_
  obtain ⟨ρ,env,h,s,r,p⟩:=t
  rw [denS] at p
  refine ⟨ρ,env,h,s,r,PostS.ofR s p fun ρ1 h1 d H1 e1 r1 q v hv=>⟨ρ1,env,h1,s.mono e1,r1,?_⟩⟩
  have q:PostS X.K W E ρ1 H1 (SR.ofR env ((den F ca env h1).bind fun x g=>setFD k cs d x g) fun _ h2=>.nx env h2):=q
  cases z:den F ca env h1 with
  | ok x h2 =>
    rw [z] at q
    have q:PostS X.K W E ρ1 H1 (SR.ofR env (setFD k cs d x h2) fun _ h2=>.nx env h2):=q
    intro ρ2 H2 e2 r2 vx hvx
    cases x with
    | ref i =>
      have q:PostS X.K W E ρ1 H1 (SR.ofR env (match h2[i]? with | some (.ins c fs)=>if cs.contains c=true∧fs.length<1000 then .ok () (h2.set i (.ins c (putN k d fs))) else .bad | _=>.bad) fun _ h2=>.nx env h2):=q
      cases hi:h2[i]? with
      | none=>rw [hi] at q;exact False.elim q
      | some ob =>
        rw [hi] at q
        cases ob with
        | ins c fs =>
          have q:PostS X.K W E ρ1 H1 (SR.ofR env (if cs.contains c=true∧fs.length<1000 then .ok () (h2.set i (.ins c (putN k d fs))) else .bad) fun _ h2=>.nx env h2):=q
          by_cases hc:cs.contains c=true∧fs.length<1000
          · rw [if_pos hc] at q
            obtain ⟨a,ha,C,dx,vs,k1,k2,k3,k4⟩:=r2.obj i _ hi
            obtain ⟨a',ha',rfl⟩:=hvx
            rw [ha] at ha'
            cases ha'
            have na:=hna c C hc.1 k1
            have stp:Step ρ2 H2 ρ2 (upd H2 a (.ins C dx (L2.putF (nmOf k) v vs))):=Step.turn k3 rfl (List.mem_of_getElem? ha)
            refine ⟨a,C,dx,vs,rfl,k3,k2,na,by rw [k4.len];exact hc.2,?_⟩
            have rf:=k4.put hk na (hv.mono e2 _ _)
            exact q ρ2 _ σ (e2.trans stp) (r2.setO hi rfl rfl ha k3 rfl ⟨C,dx,_,k1,k2,qAA,rf.mono stp _ _⟩) ((s.mono e1).mono (e2.trans stp))
          · rw [if_neg hc] at q;exact False.elim q
        | _=>exact (show False from q).elim
    | _=>exact (show False from q).elim
  | exc c h2 =>
    rw [z] at q
    exact fun ρ' H' e' r'=>q ρ' H' σ e' r' ((s.mono e1).mono e')
  | bad=>rw [z] at q;exact q
end
end Fy
set_option Elab.async false
set_option linter.all false
set_option maxRecDepth 100000
set_option maxHeartbeats 4000000
namespace Fy
open PySem PySem.Spec PySem.Calls PyProof.Rows
open L2 (V Hp HO VK XK TE TT TA TS TI Cx Inv RelV Vals SqL SqT Rd upd qAA qAB PE PT PA PS PSs EP TP SP PI PG PIE Turn FpOk Ends HOk frs thn OpR CallR)
section
variable {X:Cx} {F:Nat→List D→M D} {B:Nat} {W:WX} {ex:Nat→Option Addr} {k:Nat}
noncomputable def MtOk (X:Cx) (F:Nat→List D→M D) (k:Nat) (ex:Nat→Option Addr) (m:Str) (tb:List (Nat × Nat)):Prop :=
 ∀ cc fi C,tbN tb cc=some fi→ClsAt X.K cc C→L2.Cls X.K C∧∃ f fd ps,L2.Meth X.K C m f∧L2.Binds X.K fd ps []∧L2.FnOk X.prog X.w X.K X.mg X.base (CXD X.prog X.w ex) k f fd ps (spD X.K (F fi))
noncomputable def mQ (X:Cx) (F:Nat→List D→M D) (W:WX) (σ:L2.St) (env:Env) (mk:Nat) (tb:List (Nat × Nat)) (cl:CL) (Q:VK):VK:=fun x H1 =>
 ∃ ρ h d,RepS X.K ρ H1 env σ∧RepH X.K ρ h H1∧RepV X.K ρ H1 d x∧PostV X.K (W.at σ) Q ρ H1 (((mclsD mk d).bind fun c=>match tbN tb c with | some f=>(denL F cl env).bind fun xs=>F f (d::xs) | none=>M.bad) h)
theorem mQ_of {mk:Nat} {tb:List (Nat × Nat)} {cl:CL} {ca:CE} {ρ:List Addr} {env:Env} {h:AH} {σ:L2.St} {H:Hp} {Q:VK} (st:RepS X.K ρ H env σ) (p:PostV X.K (W.at σ) Q ρ H (den F (.meth mk tb ca cl) env h)) :
    PostV X.K (W.at σ) (mQ X F W σ env mk tb cl Q) ρ H (den F ca env h):=by
  rw [den] at p
  exact Post.bind p fun ρ1 h1 d H1 e1 r1 q v hv=>⟨ρ1,h1,d,st.mono e1,r1,hv,q⟩
theorem mQ_go {mk:Nat} {tb:List (Nat × Nat)} {cl:CL} {env:Env} {σ:L2.St} {H1:Hp} {Q:VK} {x:V} {m:Str} (hm:MtOk X F k ex m tb) (hn:m=nmOf mk) (hb:mk<256 ^ 60) (q:mQ X F W σ env mk tb cl Q x H1) :
    ∃ a C dx vs f fd ps ρ h d,x=.ref a∧H1 a=some (.ins C dx vs)∧vs.lookup m=none∧L2.Cls X.K C∧L2.Meth X.K C m f∧L2.Binds X.K fd ps []∧RepS X.K ρ H1 env σ∧RepH X.K ρ h H1∧RepV X.K ρ H1 d x ∧
      ∃ fi,L2.FnOk X.prog X.w X.K X.mg X.base (CXD X.prog X.w ex) k f fd ps (spD X.K (F fi))∧PostV X.K (W.at σ) Q ρ H1 ((denL F cl env).bind (fun xs=>F fi (d::xs)) h):=by
  obtain ⟨ρ,h,d,st,r,hd,p⟩:=q
  cases d with
  | ref i =>
    have p:PostV X.K (W.at σ) Q ρ H1 ((match h[i]? with | some (.ins c fs)=>if (getN mk fs).isNone then R.ok c h else .bad | _=>.bad).bind fun c g=>(match tbN tb c with | some f=>(denL F cl env).bind fun xs=>F f (.ref i::xs) | none=>M.bad) g):=p
    cases hi:h[i]? with
    | none=>rw [hi] at p;exact False.elim p
    | some ob =>
      rw [hi] at p
      cases ob with
      | ins c fs =>
        cases g:getN mk fs with
        | some _=>rw [show (match some (O.ins c fs) with | some (.ins c fs)=>if (getN mk fs).isNone then R.ok c h else .bad | _=>.bad)=(if (getN mk fs).isNone then R.ok c h else .bad) from rfl,g] at p;exact False.elim p
        | none =>
          rw [show (match some (O.ins c fs) with | some (.ins c fs)=>if (getN mk fs).isNone then R.ok c h else .bad | _=>.bad)=(if (getN mk fs).isNone then R.ok c h else .bad) from rfl,g] at p
          have p:PostV X.K (W.at σ) Q ρ H1 ((match tbN tb c with | some f=>(denL F cl env).bind fun xs=>F f (.ref i::xs) | none=>M.bad) h):=p
          obtain ⟨a,ha,C,dx,vs,k1,k2,k3,k4⟩:=r.obj i _ hi
          obtain ⟨a',ha',rfl⟩:=id hd
          rw [ha] at ha'
          cases ha'
          cases ht:tbN tb c with
          | none=>rw [ht] at p;exact False.elim p
          | some fi =>
            rw [ht] at p
            obtain ⟨_,f,fd,ps,m1,m2,m3⟩:=hm c fi C ht k1
            refine ⟨a,C,dx,vs,f,fd,ps,ρ,h,.ref i,rfl,k3,?_,k2,m1,m2,st,r,hd,fi,m3,p⟩
            rw [hn]
            exact k4.none hb g
      | _=>exact (show False from p).elim
  | _=>exact (show False from p).elim
theorem qJo {fi:Nat} {d:D} {ρ1:List Addr} {h1:AH} {H1:Hp} {env:Env} {σ:L2.St} {Q:VK} {cl:CL} {x:V} (hd:RepV X.K ρ1 H1 d x) (p:PostV X.K (W.at σ) Q ρ1 H1 ((denL F cl env).bind (fun xs=>F fi (d::xs)) h1)) :
    Post X.K (W.at σ) (fun ρ' H' ds=>∀ vs,RepL X.K ρ' H' ds vs→spD X.K (F fi) (x::vs) H' Q fun _ co H'=>∃ c,co=some c∧W c σ H') ρ1 H1 (denL F cl env h1) :=
  Post.bind p fun ρ2 h2 ds H2 e2 r2 q vs hvs=>⟨ρ2,h2,d::ds,r2,⟨x,vs,rfl,hd.mono e2 _ _,hvs⟩,by
    cases z:F fi (d::ds) h2 with
    | ok a g=>rw [z] at q;exact q
    | exc c g=>rw [z] at q;exact fun ρ' H' e' r' _=>⟨c,rfl,q ρ' H' e' r'⟩
    | bad=>rw [z] at q;exact q⟩
theorem qIJ {o:Expr} {m:Str} {apos pos:Pos} {args:List Expr} {env:PySem.Env} (hbase:attributeBase o m env (eval o env)=eval o env) (hline:(apos.endLine == pos.line)=true)
    (hfew:methodCallForm (args.length+([]:List Keyword).length) (backTo pos (starEach args env)) (backToKw pos (keywordEach [] env))=true) :
    eval (.Call (.Attribute o m apos) args [] pos) env=(do
      let ov ← eval o env
      standAt apos.atName
      let (f,first) ← holding [ov] (getMethod ov m (do return (← importBound o env).getD true))
      callWith pos f first (backTo pos (starEach args env)) (backToKw pos (keywordEach [] env))):=by
  rw [arm_eval_Call,hbase]
  unfold methodCall
  rw [hfew]
  unfold calleeOf methodCallPos
  simp only [hline,Bool.not_true,Bool.false_or,if_true]
  rfl
theorem qNr {o e:Expr} {es:List Expr} {ca:CE} {cl:CL} {mk:Nat} {tb:List (Nat × Nat)} {m:Str} {apos pos:Pos} (hm:MtOk X F k ex m tb) (hn:m=nmOf mk) (hb:mk<256 ^ 60) (hr:L2.Room k X.A)
    (hxc:∀ pins σ H s0 e s',Inv X pins σ H s0→CXD X.prog X.w ex X.stack H s0 (fun _ co H'=>∃ c,co=some c∧W c σ H') e s'→X.xe e s')
    (ho:PE X o (tD X.K W (den F ca))) (ha:PA X (e::es) (tDL X.K W (denL F cl))) (hbase:attributeBase o m X.env (eval o X.env)=eval o X.env) (hline:(apos.endLine == pos.line)=true)
    (hfew:methodCallForm ((e::es).length+([]:List Keyword).length) (backTo pos (starEach (e::es) X.env)) (backToKw pos (keywordEach [] X.env))=true)
    (hst:starEach (e::es) X.env=(false,eval e X.env)::starEach es X.env) (hpl:(backTo pos (starEach es X.env)).any (·.1)=false) :
    PE X (.Call (.Attribute o m apos) (e::es) [] pos) (tD X.K W (den F (.meth mk tb ca cl))):=by
  intro pins s σ H Q I t
  obtain ⟨ρ,env,h,st,r,p⟩:=t
  refine PySem.W.methodCall_KW (thn (ho pins s σ H (mQ X F W σ env mk tb cl Q) I ⟨ρ,env,h,st,r,mQ_of st p⟩) fun u s1 z=>?_) (qIJ hbase hline hfew)
  obtain ⟨x,H1,I1,rx,q⟩:=z
  obtain ⟨a,C,dx,vs,f,fd,ps,ρ1,h1,d,rfl,hH,hl,hc,hmt,hbi,st1,r1,hd,fi,FO,p1⟩:=mQ_go hm hn hb q
  obtain rfl:u=Value.ref a:=rx
  refine L2.getmeth_ok I1 hH hc hmt hl ?_
  refine PySem.W.callWith_K (first:=[.ref a]) (h₀:=X.base) I.ok.mod.kin hmt.kp (thn (ha pos pins s1 σ H1 _ I1 ⟨ρ1,env,h1,st1,r1,qJo hd p1⟩) fun us s2 ⟨vs2,H2,I2,r2,q2⟩=>⟨I2.kIn,?_⟩) hst hpl
  exact qDa (us:=.ref a::us) (vs:=.ref a::vs2) FO hr hbi (fun e s' z=>hxc pins σ H2 s2 e s' I2 z) I2 (.cons rfl r2) q2
theorem qLf {o:Expr} {ca:CE} {mk:Nat} {tb:List (Nat × Nat)} {m:Str} {apos pos:Pos} (hm:MtOk X F k ex m tb) (hn:m=nmOf mk) (hb:mk<256 ^ 60) (hr:L2.Room k X.A)
    (hxc:∀ pins σ H s0 e s',Inv X pins σ H s0→CXD X.prog X.w ex X.stack H s0 (fun _ co H'=>∃ c,co=some c∧W c σ H') e s'→X.xe e s')
    (ho:PE X o (tD X.K W (den F ca))) (hbase:attributeBase o m X.env (eval o X.env)=eval o X.env) (hline:(apos.endLine == pos.line)=true):PE X (.Call (.Attribute o m apos) [] [] pos) (tD X.K W (den F (.meth mk tb ca .nil))):=by
  intro pins s σ H Q I t
  obtain ⟨ρ,env,h,st,r,p⟩:=t
  refine PySem.W.methodCall_KW (thn (ho pins s σ H (mQ X F W σ env mk tb .nil Q) I ⟨ρ,env,h,st,r,mQ_of st p⟩) fun u s1 z=>?_) (qIJ hbase hline rfl)
  obtain ⟨x,H1,I1,rx,q⟩:=z
  obtain ⟨a,C,dx,vs,f,fd,ps,ρ1,h1,d,rfl,hH,hl,hc,hmt,hbi,st1,r1,hd,fi,FO,p1⟩:=mQ_go hm hn hb q
  obtain rfl:u=Value.ref a:=rx
  refine L2.getmeth_ok I1 hH hc hmt hl ?_
  have q2:=Post.ret (a:=([]:List D)) (h:=h1) (qJo (cl:=.nil) hd p1) r1 [] rfl
  exact PySem.W.callWith_K0 (first:=[.ref a]) I1.kIn hmt.kp (qDa (us:=[.ref a]) (vs:=[.ref a]) FO hr hbi (fun e s' z=>hxc pins σ H1 s1 e s' I1 z) I1 (.cons rfl .nil) q2)
theorem qEF {pins:List (Addr × Obj)} {σ:L2.St} {H:Hp} {s:Shared} {Q:VK} {us:List Value} {vs:List V} {C f:Addr} {fd:FuncData} {ps:List Str} {sp:L2.Sp} {E:XK} (M:L2.Mk X.K C f) (F:L2.FnOk X.prog X.w X.K X.mg X.base (CXD X.prog X.w ex) k f fd ps sp) (hr:L2.Room (k+1) X.A) {ds:List Value} {dvs:List V} (hb:L2.Binds X.K fd ps ds) (hd:Vals dvs ds)
    (hx:∀ pins H s e s',Inv X pins σ H s→CXD X.prog X.w ex X.stack H s E e s'→X.xe e s') (I:Inv X pins σ H s) (r:Vals vs us)
    (h:∀ x dx,H x=none→H dx=none→dx≠x→sp (.ref x::(vs++dvs)) (upd (upd H dx (.own x)) x (.ins C dx [])) (fun v H2=>v=.non∧Q (.ref x) H2) E) :
    wpAny (model X.prog X.w) X.A (call (.ref C) us) (EP X pins σ Q) X.xe s:=by
  have hq:=h (s.heap.objs.size+1) s.heap.objs.size (I.hok.fresh (Nat.le_succ _)) (I.hok.fresh (Nat.le_refl _)) (Nat.ne_of_lt (Nat.lt_succ_self _))
  have I2:=L2.Inv.made (C:=C) I
  have r2:Vals (V.ref (s.heap.objs.size+1)::(vs++dvs)) (Value.ref (s.heap.objs.size+1)::(us++ds)):=.cons rfl (r.append hd)
  have hl:(Value.ref (s.heap.objs.size+1)::us++ds).length=ps.length:=by
    have e:=r2.length
    rw [F.len _ _ _ _ hq] at e
    exact e.symm
  refine wpAny_call (L2.make_map (f:=f) I.kIn M.makes M.init (beq_iff_eq.mp M.fn) (codeAny_mono (F.run _ X.stack _ _ ⟨Value.ref (s.heap.objs.size+1)::us,[]⟩ (Value.ref (s.heap.objs.size+1)::(us++ds)) _ _ E (hr.make C us [])
    (I2.env0.make C us []) (hb _ (Value.ref (s.heap.objs.size+1)::us) I2.kIn hl) r2 hq) fun r s' hq'=>?_))
  cases r with
  | error e=>exact hx pins _ _ e s' I2 hq'
  | ok fl =>
    cases fl with
    | ret u =>
      obtain ⟨v,H',I3,rv,ev,q3⟩:=I2.after hq'
      subst ev
      exact ⟨rv,⟨V.ref (s.heap.objs.size+1),H',I3,rfl,q3⟩⟩
    | next=>exact False.elim hq'
    | brk=>exact False.elim hq'
    | cont=>exact False.elim hq'
theorem qEU {c fi:Nat} {C:Addr} {ρ1:List Addr} {h1:AH} {H1:Hp} {Q:VK} {ds:List D} {vs:List V} {w:W1} (hc:ClsAt X.K c C) (hcl:L2.Cls X.K C) (r:RepH X.K ρ1 h1 H1) (hl:RepL X.K ρ1 H1 ds vs)
    (p:PostV X.K w Q ρ1 H1 (makeD F c fi ds h1)):∀ x dx,H1 x=none→H1 dx=none→dx≠x →
    spD X.K (F fi) (.ref x::(vs++[])) (upd (upd H1 dx (.own x)) x (.ins C dx [])) (fun v H2=>v=.non∧Q (.ref x) H2) fun _ co H'=>∃ c,co=some c∧w c H':=by
  intro x dx hx hdx ne
  rw [List.append_nil]
  have hx':upd H1 dx (.own x) x=none:=by rw [qAB (Ne.symm ne)];exact hx
  have s1:Step ρ1 H1 ρ1 (upd H1 dx (.own x)):=Step.fresh hdx
  have s2:Step ρ1 (upd H1 dx (.own x)) (ρ1++[x]) (upd (upd H1 dx (.own x)) x (.ins C dx [])):=Step.new1 hx'
  have r2:RepH X.K (ρ1++[x]) (h1++[.ins c []]) (upd (upd H1 dx (.own x)) x (.ins C dx [])):=(r.fresh hdx).newO hx' ⟨C,dx,[],hc,hcl,qAA,rfl⟩
  have hi:(ρ1++[x])[h1.length]?=some x:=by rw [← r.len,List.getElem?_append_right (Nat.le_refl _)];simp
  refine ⟨ρ1++[x],h1++[.ins c []],.ref h1.length::ds,r2,⟨.ref x,vs,rfl,⟨x,hi,rfl⟩,hl.mono (s1.trans s2) _ _⟩,?_⟩
  have p:PostV X.K w Q ρ1 H1 ((F fi (.ref h1.length::ds) (h1++[.ins c []])).bind fun d h'=>match d with | .non=>.ok (.ref h1.length) h' | _=>.bad):=p
  cases z:F fi (.ref h1.length::ds) (h1++[.ins c []]) with
  | ok d g =>
    rw [z] at p
    cases d with
    | non =>
      intro ρ' H' e' r' v hv
      refine ⟨hv,?_⟩
      have e2:=(s1.trans s2).trans e'
      exact p ρ' H' e2 r' (.ref x) ⟨x,qBp e'.pre hi,rfl⟩
    | _=>exact (show False from p).elim
  | exc cc g =>
    rw [z] at p
    exact fun ρ' H' e' r' _=>⟨cc,rfl,p ρ' H' ((s1.trans s2).trans e') r'⟩
  | bad=>rw [z] at p;exact p
theorem qNs {y:Str} {e:Expr} {es:List Expr} {cl:CL} {c fi:Nat} {C f:Addr} {fd:FuncData} {ps:List Str} {p1 pos:Pos} (hg:L2.Gl X y) (hdb:(y == ("__debug__":Str))=false) (hmg:X.mg y=some (.ref C)) (hc:ClsAt X.K c C) (hcl:L2.Cls X.K C) (M:L2.Mk X.K C f)
    (hb:L2.Binds X.K fd ps []) (FO:L2.FnOk X.prog X.w X.K X.mg X.base (CXD X.prog X.w ex) k f fd ps (spD X.K (F fi))) (hr:L2.Room (k+1) X.A)
    (hxc:∀ pins σ H s0 e s',Inv X pins σ H s0→CXD X.prog X.w ex X.stack H s0 (fun _ co H'=>∃ c,co=some c∧W c σ H') e s'→X.xe e s')
    (ha:PA X (e::es) (tDL X.K W (denL F cl))) (hst:starEach (e::es) X.env=(false,eval e X.env)::starEach es X.env) (hpl:(backTo pos (starEach es X.env)).any (·.1)=false) :
    PE X (.Call (.Name y p1) (e::es) [] pos) (tD X.K W (den F (.make c fi cl))):=by
  intro pins s σ H Q I t
  obtain ⟨ρ,env,h,st,r,p⟩:=t
  rw [den] at p
  refine wpAny_Call_Name_kw (L2.ld_glob I hg hmg ?_ hdb)
  refine PySem.W.callWith_K (h₀:=X.base) I.ok.mod.kin M.kp (thn (ha pos pins s σ H (fun vs H1=>∀ x dx,H1 x=none→H1 dx=none→dx≠x→spD X.K (F fi) (.ref x::(vs++[])) (upd (upd H1 dx (.own x)) x (.ins C dx [])) (fun v H2=>v=.non∧Q (.ref x) H2) fun _ co H'=>∃ c,co=some c∧W c σ H') I
    ⟨ρ,env,h,st,r,Post.bind p fun ρ1 h1 ds H1 e1 r1 q vs hvs=>qEU hc hcl r1 hvs q⟩) fun us s1 ⟨vs,H1,I1,rv,q⟩=>⟨I1.kIn,?_⟩) hst hpl
  exact qEF M FO hr hb .nil (fun pins H s e s' I z=>hxc pins σ H s e s' I z) I1 rv q
theorem qLg {y:Str} {c fi:Nat} {C f:Addr} {fd:FuncData} {ps:List Str} {p1 pos:Pos} (hg:L2.Gl X y) (hdb:(y == ("__debug__":Str))=false) (hmg:X.mg y=some (.ref C)) (hc:ClsAt X.K c C) (hcl:L2.Cls X.K C) (M:L2.Mk X.K C f)
    (hb:L2.Binds X.K fd ps []) (FO:L2.FnOk X.prog X.w X.K X.mg X.base (CXD X.prog X.w ex) k f fd ps (spD X.K (F fi))) (hr:L2.Room (k+1) X.A)
    (hxc:∀ pins σ H s0 e s',Inv X pins σ H s0→CXD X.prog X.w ex X.stack H s0 (fun _ co H'=>∃ c,co=some c∧W c σ H') e s'→X.xe e s') :
    PE X (.Call (.Name y p1) [] [] pos) (tD X.K W (den F (.make c fi .nil))):=by
  intro pins s σ H Q I t
  obtain ⟨ρ,env,h,st,r,p⟩:=t
  rw [den,denL] at p
  refine wpAny_Call_Name_kw (L2.ld_glob I hg hmg ?_ hdb)
  exact PySem.W.callWith_K0 I.kIn M.kp (qEF (us:=[]) (vs:=[]) M FO hr hb .nil (fun pins H s e s' I z=>hxc pins σ H s e s' I z) I .nil (qEU (ds:=[]) hc hcl r rfl p))
end
end Fy
set_option Elab.async false
set_option linter.all false
set_option maxRecDepth 100000
set_option maxHeartbeats 4000000
namespace Fy
open PySem PySem.Spec PySem.Calls PyProof.Rows
open L2 (V Hp HO VK XK TE TT TA TS TI Cx Inv RelV Vals SqL SqT Rd upd qAA qAB PE PT PA PS PSs EP TP SP PI PG PIE Turn FpOk Ends HOk frs thn OpR CallR)
section
variable {X:Cx} {F:Nat→List D→M D} {B:Nat} {W:WX}
theorem qNW (n:Nat) (i:Int):L2.ixN n i=ixN n i:=rfl
theorem RepL.set {K:PySem.W.Frag} {ρ:List Addr} {H:Hp} {d:D} {v:V} (hv:RepV K ρ H d v):∀ {ds:List D} {vs:List V} (n:Nat),RepL K ρ H ds vs→RepL K ρ H (ds.set n d) (vs.set n v)
 | [],_,n,h=>by cases h;simp [RepL]
 | x::ds,_,0,⟨u,r,h1,h2,h3⟩=>by subst h1;exact ⟨v,r,rfl,hv,h3⟩
 | x::ds,_,n+1,⟨u,r,h1,h2,h3⟩=>by subst h1;exact ⟨u,r.set n v,rfl,h2,RepL.set hv n h3⟩
noncomputable def rSetD:V→V→V→Hp→(Hp→Prop)→Prop:=fun o i v H Q=>L2.rSetL o i v H Q∨∃ a vs k,o=.ref a∧i=L2.kV k∧H a=some (.dK vs)∧vs.length<sizeLine∧Q (upd H a (.dK (L2.putK vs k v)))
theorem set_D:L2.PSet X rSetD:=by
 intro pins s σ H o i v ov iv u Q I ro ri rv h
 rcases h with h | ⟨a,vs,k,rfl,rfl,hH,hl,q⟩
 ·exact L2.set_list pins s σ H o i v ov iv u Q I ro ri rv h
 ·cases ro
  exact qNn I hH hl ri rv fun s' I'=>⟨_,I',q⟩
theorem put_K {W:WX} {E:Ends} {ρ ρ3:List Addr} {H H3:Hp} {env:Env} {h3:AH} {σ:L2.St} {k:Nat} {ky:Ky} {d:D} {v vx vy:V} (s:RepS X.K ρ H env σ) (e:Step ρ H ρ3 H3) (r3:RepH X.K ρ3 h3 H3) (hvx:RepV X.K ρ3 H3 (.ref k) vx) (hvy:RepV X.K ρ3 H3 (kyD ky) vy) (hv:RepV X.K ρ3 H3 d v)
    (q:PostS X.K W E ρ H (SR.ofR env (putKD d k ky h3) fun _ h2=>.nx env h2)):rSetD vx vy v H3 fun H'=>E.nx σ H':=by
  have q:PostS X.K W E ρ H (SR.ofR env (match h3[k]? with | some (.dct kvs)=>(if kvs.length<16777216 then .ok () (h3.set k (.dct (putY kvs ky d))) else .bad) | _=>.bad) fun _ h2=>.nx env h2):=q
  cases hk:h3[k]? with
  | none=>rw [hk] at q;exact False.elim q
  | some ob =>
    rw [hk] at q
    cases ob with
    | dct kvs =>
      by_cases z:kvs.length<16777216
      · have q:PostS X.K W E ρ H (SR.ofR env (if kvs.length<16777216 then .ok () (h3.set k (.dct (putY kvs ky d))) else .bad) fun _ h2=>.nx env h2):=q
        rw [if_pos z] at q
        obtain ⟨a,vs,rfl,ha,hH,hl⟩:=r3.dict hk hvx
        have hy:=ky_of hvy
        subst hy
        have stp:Step ρ3 H3 ρ3 (upd H3 a (.dK (L2.putK vs (kyV ky) v))):=Step.turn hH rfl (List.mem_of_getElem? ha)
        refine .inr ⟨a,vs,kyV ky,rfl,rfl,hH,by rw [← hl.length,szEq];exact z,?_⟩
        exact q ρ3 _ σ (e.trans stp) (r3.setDict hk ha hH (hl.put ky hv)) (s.mono (e.trans stp))
      · have q:PostS X.K W E ρ H (SR.ofR env (if kvs.length<16777216 then .ok () (h3.set k (.dct (putY kvs ky d))) else .bad) fun _ h2=>.nx env h2):=q
        rw [if_neg z] at q
        exact False.elim q
    | _=>exact (show False from q).elim
theorem qKe {o i e:Expr} {ca ci ce:CE} {pos pos':Pos} (ho:PE X o (tD X.K W (den F ca))) (hi:PE X i (tD X.K W (den F ci))) (he:PE X e (tD X.K W (den F ce))) (ha:∀ v,assign (.Subscript o i pos') X.env v=(do
      let ov ← holding [v] (eval o X.env)
      let iv ← holding [v,ov] (eval i X.env)
      standAt pos'
      holding [v,ov,iv] (setItem ov iv v)
      release [v,ov,iv] [])) (hs:swapsWithSole [.Subscript o i pos'] e pos.line X.env=pure false) (hw:swappedStores [.Subscript o i pos'] e X.env=pure none):PS X (.Assign [.Subscript o i pos'] e pos) (tDS X.K W (denS F B (.setIx ca ci ce))):=by
  refine PS.imp (L2.ps_asg he (L2.pg_sub ho hi set_D ha) hs hw) fun E σ H t=>?_
  obtain ⟨ρ,env,h,s,r,p⟩:=t
  rw [denS] at p
  refine ⟨ρ,env,h,s,r,PostS.ofR s p fun ρ1 h1 d H1 e1 r1 q v hv=>⟨ρ1,env,h1,s.mono e1,r1,?_⟩⟩
  have q:PostS X.K W E ρ1 H1 (SR.ofR env ((den F ca env h1).bind fun x g=>((den F ci env).bind fun y=>qDK d x y) g) fun _ h2=>.nx env h2):=q
  cases z:den F ca env h1 with
  | ok x h2 =>
    rw [z] at q
    have q:PostS X.K W E ρ1 H1 (SR.ofR env ((den F ci env h2).bind fun y g=>qDK d x y g) fun _ h2=>.nx env h2):=q
    intro ρ2 H2 e2 r2 vx hvx
    refine ⟨ρ2,env,h2,(s.mono e1).mono e2,r2,?_⟩
    cases z2:den F ci env h2 with
    | ok y h3 =>
      rw [z2] at q
      have q:PostS X.K W E ρ1 H1 (SR.ofR env (qDK d x y h3) fun _ h2=>.nx env h2):=q
      intro ρ3 H3 e3 r3 vy hvy
      cases x with
      | ref k =>
        cases y with
        | int j =>
          have q:PostS X.K W E ρ1 H1 (SR.ofR env (match h3[k]? with | some (.lst xs)=>(match ixN xs.length j with | some p=>.ok () (h3.set k (.lst (xs.set p d))) | none=>.bad) | _=>putKD d k (.int j) h3) fun _ h2=>.nx env h2):=q
          have e13:=e2.trans e3
          cases hk:h3[k]? with
          | none =>
            rw [hk] at q
            exact put_K (ky:=.int j) (s.mono e1) e13 r3 (hvx.mono e3 _ _) hvy (hv.mono e13 _ _) q
          | some ob =>
            rw [hk] at q
            cases ob with
            | lst xs =>
              have q:PostS X.K W E ρ1 H1 (SR.ofR env (match ixN xs.length j with | some p=>.ok () (h3.set k (.lst (xs.set p d))) | none=>.bad) fun _ h2=>.nx env h2):=q
              cases hx:ixN xs.length j with
              | none=>rw [hx] at q;exact False.elim q
              | some n =>
                rw [hx] at q
                cases hvy
                obtain ⟨a,vs,rfl,ha',hH,hl⟩:=r3.own hk (hvx.mono e3 _ _)
                have stp:Step ρ3 H3 ρ3 (upd H3 a (.lst (vs.set n v))):=Step.turn hH rfl (List.mem_of_getElem? ha')
                refine .inl ⟨a,vs,j,n,rfl,rfl,hH,by rw [qNW,hl.length];exact hx,?_⟩
                exact q ρ3 _ σ (e13.trans stp) (r3.setList hk ha' hH (RepL.set ((hv.mono e13 _ _)) n hl)) ((s.mono e1).mono (e13.trans stp))
            | _=>exact put_K (ky:=.int j) (s.mono e1) e13 r3 (hvx.mono e3 _ _) hvy (hv.mono e13 _ _) q
        | str j=>exact put_K (ky:=.str j) (s.mono e1) (e2.trans e3) r3 (hvx.mono e3 _ _) hvy (hv.mono (e2.trans e3) _ _) q
        | _=>exact (show False from q).elim
      | _=>exact (show False from q).elim
    | exc c h3 =>
      rw [z2] at q
      exact fun ρ' H' e' r'=>q ρ' H' σ (e2.trans e') r' ((s.mono e1).mono (e2.trans e'))
    | bad=>rw [z2] at q;exact q
  | exc c h2 =>
    rw [z] at q
    exact fun ρ' H' e' r'=>q ρ' H' σ e' r' ((s.mono e1).mono e')
  | bad=>rw [z] at q;exact q
end
end Fy
set_option Elab.async false
set_option linter.all false
set_option maxRecDepth 100000
set_option maxHeartbeats 4000000
namespace Fy
open PySem PySem.Spec PyProof.Rows
open L2 (V Hp HO VK TE TT TA TS TI Cx Inv RelV Vals SqL SqT Rd upd qAA qAB PE PT PA PS PSs EP OpR CallR IxR MtR SlR PO TO PI PG PIE Turn FpOk Ends)
inductive GK where
 | fn (i:Nat) | con (d:D) | blt | exc (c:Nat) | cls (c f:Nat)
structure Cc where
 N:List Str
 sc:Scope
 G:List (Str × GK)
 xs:List (Nat × List Nat)
 calm:Bool
 rs:Bool
 M:List (Str × Nat × List (Nat × Nat))
 A:List (Str × Nat × List Nat)
noncomputable def Cc.slot (c:Cc) (x:Str):Option Nat:=match c.sc.names.lookup x with
 | some .local=>if x == "__debug__" || x == "__classdict__" then none else c.N.idxOf? x
 | some .cell=>if x == "__debug__" || x == "__classdict__" then none else c.N.idxOf? x
 | some .free=>if x == "__debug__" || x == "__classdict__" then none else c.N.idxOf? x
 | _=>none
noncomputable def Cc.own (c:Cc) (x:Str):Option Nat:=match c.sc.names.lookup x with
 | some .local=>c.N.idxOf? x
 | some .cell=>c.N.idxOf? x
 | _=>none
noncomputable def Cc.glob (c:Cc) (x:Str):Option GK:=match c.sc.names.lookup x with
 | some .globalImplicit=>if x == "__debug__" || x == "__name__" then none else c.G.lookup x
 | _=>none
noncomputable def Cc.isB (c:Cc) (x:Str):Bool:=match c.glob x with
 | some .blt=>true
 | _=>false
noncomputable def Cc.loc (c:Cc) (x:Str):Option Nat:=match c.sc.names.lookup x with
 | some .local=>c.N.idxOf? x
 | _=>none
noncomputable def qKA:Const→Option CE
 | .none=>some (.lit .non)
 | .bool b=>some (.lit (.bl b))
 | .int i=>some (.lit (.int i))
 | .str s=>some (.lit (.str s.cps.toList))
 | _=>none
noncomputable def binO:Operator→Option Bi
 | .Add=>some .add | .Sub=>some .sub | .Mult=>some .mul | .FloorDiv=>some .fdiv | .Mod=>some .mod | .Pow=>some .pow
 | _=>none
noncomputable def cmpO:CmpOp→Option Bi
 | .Eq=>some .eq | .NotEq=>some .ne | .Lt=>some .lt | .LtE=>some .le | .Gt=>some .gt | .GtE=>some .ge | .In=>some .isin | .NotIn=>some .notin
 | _=>none
noncomputable def bi1 (x:Str):Option Un:=if x="len" then some .len else if x="ord" then some .ord else if x="int" then some .int else none
noncomputable def bi1c (x:Str):Option Un:=if x="all" then some .all else if x="sorted" then some .sorted else none
noncomputable def bi2 (x:Str):Option Bi:=if x="min" then some .min2 else if x="max" then some .max2 else none
noncomputable def tyN (x:Str):Option Ty:=if x="int" then some .int else if x="str" then some .str else if x="bool" then some .bool else if x="list" then some .list else if x="tuple" then some .tuple else none
noncomputable def onWay:CE→Bool
 | .un (.fld k) _=>k == 122519838744953
 | _=>false
noncomputable def me1 (x:Str):Option Bi:=if x="append" then some .append else if x="join" then some .join else none
noncomputable def me1p (a:CE) (x:Str):Option Bi:=match onWay a&&decide (x="pop") with
 | true=>some .lpop
 | false=>me1 x
noncomputable def qAJ:Expr→Bool
 | .Starred _ _=>false
 | _=>true
noncomputable def qDi:Expr→Bool
 | .Slice _ _ _ _=>false
 | _=>true
noncomputable def qBH:Expr→Bool
 | .Call (.Name _ _) [] [] _=>false
 | _=>true
noncomputable def qJu:Expr→Bool
 | .UnaryOp _ _ _=>false
 | .BoolOp _ _ _=>false
 | .IfExp _ _ _ _=>false
 | .Compare _ _ _ _=>false
 | _=>true
noncomputable def noSet:Expr→Bool
 | .Set _ _ _=>false
 | _=>true
noncomputable def isNone:Expr→Bool
 | .Constant .none _ _=>true
 | _=>false
noncomputable def qFi (scope sc:Scope):Scope:={ scope with names:=scope.names.map fun (n,k)=>if (k == .free&&sc.kind == .function&&sc.names.lookup n == some .cell) then (n,.cell) else (n,k) }
noncomputable def Cc.inner (c:Cc) (x:Str) (scope:Scope):Cc:=⟨maskN c.N x++[x],qFi scope c.sc,c.G,c.xs,c.calm,false,c.M,c.A⟩
noncomputable def Cc.compOk (c:Cc) (x:Str) (scope:Scope):Bool :=
 decide (scope.kind=.function)&&scope.names.all (fun y=>decide (y.2≠.cell))&&scope.names.all (fun y=>decide (y.2=.local→scope.names.lookup y.1=some .local))&&decide (scope.names.lookup x=some .local)
 &&scope.names.all (fun y=>decide (y.2=.free→c.sc.names.lookup y.1=some .cell∨c.sc.names.lookup y.1=some .free))&&(decide (x≠noN)&&(decide (x∉c.N) || (decide (noN∉c.N)&&decide (scope.names.lookup noN=none))))&&scope.names.all (fun y=>decide (y.1≠x→y.2=.local→y.1∉c.N))
noncomputable def mask2 (N:List Str) (x y:Str):List Str:=maskN (maskN N x) y
noncomputable def Cc.inner2 (c:Cc) (x y:Str) (scope:Scope):Cc:=⟨mask2 c.N x y++[x,y],qFi scope c.sc,c.G,c.xs,c.calm,false,c.M,c.A⟩
noncomputable def Cc.compOk2 (c:Cc) (x y:Str) (scope:Scope):Bool :=
 decide (scope.kind=.function)&&scope.names.all (fun y=>decide (y.2≠.cell))&&scope.names.all (fun y=>decide (y.2=.local→scope.names.lookup y.1=some .local))&&(decide (scope.names.lookup x=some .local)&&decide (scope.names.lookup y=some .local))
 &&scope.names.all (fun y=>decide (y.2=.free→c.sc.names.lookup y.1=some .cell∨c.sc.names.lookup y.1=some .free))&&(decide (x≠noN)&&decide (y≠noN)&&decide (x≠y)&&decide (scope.names.lookup noN=none)&&(decide (x∉c.N) || decide (noN∉c.N))&&(decide (y∉maskN c.N x++[x]) || decide (noN∉maskN c.N x++[x])))&&scope.names.all (fun z=>decide (z.1≠x→z.1≠y→z.2=.local→z.1∉c.N))
noncomputable def need {α:Type} (b:Bool) (x:α):Option α:=match b with
 | true=>some x
 | false=>none
theorem qAC {α:Type} {b:Bool} {x r:α} (h:need b x=some r):b=true∧x=r:=by
 cases b with
 | true=>exact ⟨rfl,Option.some.inj h⟩
 | false=>cases h
theorem bd_ok {α β:Type} {o:Option α} {f:α→Option β} {r:β} (h:o.bind f=some r):∃ a,o=some a∧f a=some r:=by
 cases o with
 | none=>cases h
 | some a=>exact ⟨a,rfl,h⟩
structure Rc where
 e:Cc→Expr→Option CE
 cmp:Cc→Expr→CmpOp→Expr→Option CE
 b:Cc→Str→List Expr→Option CE
 l:Cc→List Expr→Option CL
 o:Cc→Option Expr→Option CP
 t:Cc→Expr→Option CT
 tb:Cc→BoolOp→List Expr→Option CT
 i:Cc→Expr→Option CI
noncomputable def isSl:Expr→Option (Option Expr × Option Expr)
 | .Slice lo hi st _=>match st with
  | none=>some (lo,hi)
  | some _=>none
 | _=>none
theorem qLR {b:Expr} {q:Option Expr × Option Expr} (h:isSl b=some q):∃ p,b=.Slice q.1 q.2 none p:=by
 cases b with
 | Slice l u s p =>
  cases s with
  | none=>cases h;exact ⟨p,rfl⟩
  | some _=>cases h
 | _=>cases h
noncomputable def isOne:Expr→Bool
 | .Constant (.int i) _ _=>decide (i=1)
 | _=>false
noncomputable def isM1:Expr→Bool
 | .UnaryOp .USub a _=>isOne a
 | _=>false
noncomputable def isRev:Expr→Bool
 | .Slice none none (some e) _=>isM1 e
 | _=>false
noncomputable def isNm:Expr→Option Str
 | .Name x _=>some x
 | _=>none
theorem qLS {b:Expr} {s:Str} (h:isNm b=some s):∃ p,b=.Name s p:=by
 cases b with
 | Name x p=>cases h;exact ⟨p,rfl⟩
 | _=>cases h
structure Gn2 where
 x:Str
 p:Pos
 y:Str
 u:Pos
 j:Nat
 pt:Pos
 iter:Expr
 ifs:List Expr
noncomputable def pair2:Expr→Option (Str × Pos × Str × Pos × Nat × Pos)
 | .Tuple [.Name x p,.Name y u] j pt=>some (x,p,y,u,j,pt)
 | _=>none
theorem qIr {e:Expr} {r:Str × Pos × Str × Pos × Nat × Pos} (h:pair2 e=some r):e=.Tuple [.Name r.1 r.2.1,.Name r.2.2.1 r.2.2.2.1] r.2.2.2.2.1 r.2.2.2.2.2:=by
 unfold pair2 at h
 split at h
 ·cases h;rfl
 ·cases h
noncomputable def qJ0:List Comprehension→Option Gn2
 | []=>none
 | g::r=>match r with
  | []=>(pair2 g.target).bind fun t=>need (decide (g.is_async=0)) ⟨t.1,t.2.1,t.2.2.1,t.2.2.2.1,t.2.2.2.2.1,t.2.2.2.2.2,g.iter,g.ifs⟩
  | _::_=>none
theorem qHd {gs:List Comprehension} {q:Gn2} (h:qJ0 gs=some q):gs=[⟨.Tuple [.Name q.x q.p,.Name q.y q.u] q.j q.pt,q.iter,q.ifs,0⟩]:=by
 cases gs with
 | nil=>cases h
 | cons g r =>
  cases r with
  | cons _ _=>cases h
  | nil =>
   obtain ⟨t,it,f,a⟩:=g
   obtain ⟨u,hu,h⟩:=bd_ok h
   obtain ⟨ha,rfl⟩:=qAC h
   have ha:a=0:=of_decide_eq_true ha
   have hu:=qIr (e:=t) hu
   rw [ha,hu]
structure Gn where
 x:Str
 p:Pos
 iter:Expr
 ifs:List Expr
noncomputable def isGen:List Comprehension→Option Gn
 | []=>none
 | g::r=>match r with
  | []=>match g.target with
   | .Name x p=>need (decide (g.is_async=0)) ⟨x,p,g.iter,g.ifs⟩
   | _=>none
  | _::_=>none
theorem qFs {gs:List Comprehension} {q:Gn} (h:isGen gs=some q):gs=[⟨.Name q.x q.p,q.iter,q.ifs,0⟩]:=by
 cases gs with
 | nil=>cases h
 | cons g r =>
  cases r with
  | cons _ _=>cases h
  | nil =>
   obtain ⟨t,it,f,a⟩:=g
   cases t with
   | Name x p =>
    obtain ⟨h1,rfl⟩:=qAC h
    have h2:a=0:=of_decide_eq_true h1
    subst h2
    rfl
   | _=>cases h
noncomputable def sName (c:Cc) (x:Str):Option CE:=match c.slot x with
 | some i=>some (.var i)
 | none=>match c.glob x with
  | some (.con d)=>some (.lit d)
  | _=>none
noncomputable def sUn (r:Rc) (c:Cc) (a:Expr):UnaryOp→Option CE
 | .Not=>(r.e c a).bind fun x=>some (.not x)
 | .USub=>(r.e c a).bind fun x=>some (.un .neg x)
 | _=>none
noncomputable def sBool (r:Rc) (c:Cc) (op:BoolOp) (pos:Pos):List Expr→Option CE
 | []=>none
 | a::es=>match es with
  | []=>r.e c a
  | b::es=>(r.e c a).bind fun x=>(r.e c (.BoolOp op (b::es) pos)).bind fun y=>some (match op with | .And=>.and x y | .Or=>.or x y)
noncomputable def qJq (r:Rc) (c:Cc) (a:Expr) (op op':CmpOp) (b d:Expr):Option CE :=
 (cmpO op).bind fun o=>(cmpO op').bind fun p=>(r.e c a).bind fun x=>(r.e c b).bind fun y=>(r.e c d).bind fun z=>need (!lastMarks [op,op'] [b,d]) (.chain o p x y z)
noncomputable def qDZ (r:Rc) (c:Cc) (a:Expr) (ops:List CmpOp) (cs:List Expr):Option CE:=match ops with
 | []=>none
 | op::ops=>match cs with
  | []=>none
  | b::cs=>match ops with
   | []=>match cs with
    | []=>r.cmp c a op b
    | _::_=>none
   | op'::ops=>match ops with
    | _::_=>none
    | []=>match cs with
     | []=>none
     | d::cs=>match cs with
      | []=>qJq r c a op op' b d
      | _::_=>none
noncomputable def sSub (r:Rc) (c:Cc) (a b:Expr):Option CE:=match isRev b with
 | true=>none
 | false=>match isSl b with
  | some q=>(r.e c a).bind fun x=>(r.o c q.1).bind fun l=>(r.o c q.2).bind fun u=>some (.sl x l u)
  | none=>(r.e c a).bind fun x=>(r.e c b).bind fun y=>need (qDi b) (.bi .ix x y)
noncomputable def qJr (r:Rc) (c:Cc) (x:Str) (es:List Expr):Option GK→Option CE
 | some (.fn i)=>match es with
  | []=>need c.calm (.call i .nil)
  | e::es=>(r.l c (e::es)).bind fun l=>need c.calm (.call i l)
 | some .blt=>r.b c x es
 | some (.cls k f)=>match es with
  | []=>need c.calm (.make k f .nil)
  | e::es=>(r.l c (e::es)).bind fun l=>need c.calm (.make k f l)
 | _=>none
noncomputable def sMeth (r:Rc) (c:Cc) (m:Str) (ok:Bool) (x:CE) (es:List Expr):Option (Nat × List (Nat × Nat))→Option CE
 | some q=>match es with
  | []=>need (c.calm&&ok) (.meth q.1 q.2 x .nil)
  | e::es=>(r.l c (e::es)).bind fun l=>need (c.calm&&ok&&decide (es.length<20)) (.meth q.1 q.2 x l)
 | none=>match es with
  | []=>none
  | b::es=>match es with
   | []=>(me1p x m).bind fun o=>(r.e c b).bind fun y=>need (ok&&qAJ b) (.me o x y)
   | d::es=>match es with
    | []=>match decide (m="setdefault") with
     | true=>none
     | false=>match decide (m="get") with
      | true=>(r.e c b).bind fun y=>(r.e c d).bind fun z=>need (ok&&qAJ b&&qAJ d) (.getd x y z)
      | false=>none
    | _::_=>none
noncomputable def sCall (r:Rc) (c:Cc) (f:Expr) (es:List Expr) (ks:List Keyword) (p:Pos):Option CE:=match ks with
 | _::_=>none
 | []=>match f with
  | .Name x _=>qJr r c x es (c.glob x)
  | .Attribute a m ap=>(r.e c a).bind fun x=>sMeth r c m (qBH a&&(ap.endLine == p.line)) x es (c.M.lookup m)
  | _=>none
noncomputable def sComp (r:Rc) (c:Cc) (elt:Expr) (scope:Scope) (q:Gn):Option CE:=match q.ifs with
 | []=>(r.i c q.iter).bind fun it=>(r.e (c.inner q.x scope) elt).bind fun y=>need (c.calm&&c.compOk q.x scope) (.comp y it)
 | t::ts=>match ts with
  | []=>(r.i c q.iter).bind fun it=>(r.t (c.inner q.x scope) t).bind fun z=>(r.e (c.inner q.x scope) elt).bind fun y=>need (c.calm&&c.compOk q.x scope) (.compIf y z it)
  | _::_=>none
noncomputable def isZp:Expr→Option (Expr × Expr)
 | .Call f es ks _=>match ks with
  | []=>match f with
   | .Name x _=>match es with
    | [a,b]=>need (decide (x="zip")) (a,b)
    | _=>none
   | _=>none
  | _::_=>none
 | _=>none
noncomputable def sIt2 (r:Rc) (c:Cc) (e:Expr):Option CI:=match isZp e with
 | some q=>(r.e c q.1).bind fun x=>(r.e c q.2).bind fun y=>need (qAJ q.1&&qAJ q.2&&c.isB "zip") (.zip x y)
 | none=>r.i c e
noncomputable def qJp (r:Rc) (c:Cc) (elt:Expr) (scope:Scope) (q:Gn2):Option CE:=match q.ifs with
 | []=>(sIt2 r c q.iter).bind fun it=>(r.e (c.inner2 q.x q.y scope) elt).bind fun y=>need (c.calm&&c.compOk2 q.x q.y scope) (.comp2 y it)
 | t::ts=>match ts with
  | []=>(sIt2 r c q.iter).bind fun it=>(r.t (c.inner2 q.x q.y scope) t).bind fun z=>(r.e (c.inner2 q.x q.y scope) elt).bind fun y=>need (c.calm&&c.compOk2 q.x q.y scope) (.compIf2 y z it)
  | _::_=>none
noncomputable def qEE (r:Rc) (c:Cc) (elt:Expr) (scope:Scope) (gens:List Comprehension):Option CE:=match isGen gens with
 | some q=>sComp r c elt scope q
 | none=>(qJ0 gens).bind fun q=>qJp r c elt scope q
noncomputable def rdKey:Option Expr→Option Ky
 | none=>none
 | some e=>match e with
  | .Constant k _ _=>match k with
   | .str s=>some (.str s.cps.toList)
   | .int i=>some (.int i)
   | _=>none
  | _=>none
noncomputable def qGy:List (Option Expr)→Option (List Ky)
 | []=>some []
 | k::ks=>(rdKey k).bind fun x=>(qGy ks).bind fun xs=>some (x::xs)
noncomputable def qGx (r:Rc) (c:Cc):List Expr→Option CL
 | []=>some .nil
 | e::es=>(r.e c e).bind fun x=>(qGx r c es).bind fun l=>some (.cons x l)
noncomputable def sDisp (r:Rc) (c:Cc) (keys:List (Option Expr)) (values:List Expr):Option CE :=
 (qGy keys).bind fun ks=>(qGx r c values).bind fun l=>need (decide (keys.length=values.length)&&decide (keys.length≤15)) (.disp ks l)
noncomputable def eS (r:Rc) (c:Cc):Expr→Option CE
 | .Constant k _ _=>qKA k
 | .Name x _=>sName c x
 | .BinOp a op b _=>(binO op).bind fun o=>(r.e c a).bind fun x=>(r.e c b).bind fun y=>some (.bi o x y)
 | .UnaryOp op a _=>sUn r c a op
 | .BoolOp op es pos=>sBool r c op pos es
 | .Compare a ops cs _=>qDZ r c a ops cs
 | .Tuple es _ _=>(r.l c es).bind fun l=>some (.tup l)
 | .List es _=>(r.l c es).bind fun l=>some (.lst l)
 | .Subscript a b _=>sSub r c a b
 | .Dict keys values _=>sDisp r c keys values
 | .Call f es ks p=>sCall r c f es ks p
 | .Attribute a f _=>(c.A.lookup f).bind fun k=>(r.e c a).bind fun x=>need (qBH a) (.un (.fld k.1) x)
 | .ListComp elt gens scope _=>qEE r c elt scope gens
 | _=>none
noncomputable def sCmp (r:Rc) (c:Cc) (a:Expr) (op:CmpOp) (b:Expr):Option CE:=(cmpO op).bind fun o=>(r.e c a).bind fun x=>(r.e c b).bind fun y=>need (!behindInMarks op b) (.bi o x y)
noncomputable def cmpS (r:Rc) (c:Cc) (a:Expr) (op:CmpOp) (b:Expr):Option CE:=match op with
 | op=>sCmp r c a op b
noncomputable def sIsi (r:Rc) (c:Cc) (a:Expr) (y:Str):Option CE:=(r.e c a).bind fun z=>match tyN y with
 | some t=>need (qAJ a&&c.isB y) (.un (.isi t) z)
 | none=>none
noncomputable def sB1 (c:Cc) (x:Str) (a:Expr) (y:CE):Option CE:=match bi1 x with
 | some o=>need (qAJ a) (.un o y)
 | none=>(bi1c x).bind fun o=>need (qAJ a&&c.calm) (.un o y)
noncomputable def sB2 (r:Rc) (c:Cc) (x:Str) (a b:Expr):Option CE:=(bi2 x).bind fun o=>(r.e c a).bind fun u=>(r.e c b).bind fun v=>need (qAJ a&&qAJ b&&c.calm) (.bi o u v)
noncomputable def isRg:Expr→Option (List Expr)
 | .Call f es ks _=>match ks with
  | []=>match f with
   | .Name x _=>need (decide (x="range")) es
   | _=>none
  | _::_=>none
 | _=>none
theorem qHc {e:Expr} {es:List Expr} (h:isRg e=some es):∃ p q,e=.Call (.Name "range" p) es [] q:=by
 cases e with
 | Call f es ks q =>
  cases ks with
  | cons _ _=>cases h
  | nil =>
   cases f with
   | Name x p =>
    obtain ⟨h1,rfl⟩:=qAC h
    rw [of_decide_eq_true h1]
    exact ⟨p,q,rfl⟩
   | _=>cases h
 | _=>cases h
noncomputable def sLr (r:Rc) (c:Cc) (x:Str):List Expr→Option CE
 | []=>none
 | a::es=>match es with
  | []=>(r.e c a).bind fun y=>need (decide (x="list")&&(c.calm&&(c.isB "range"&&qAJ a))) (.un .lrng y)
  | b::es=>match es with
   | []=>(r.e c a).bind fun y=>(r.e c b).bind fun z=>need (decide (x="list")&&(c.calm&&(c.isB "range"&&(qAJ a&&qAJ b)))) (.bi .lrng y z)
   | _::_=>none
noncomputable def bS (r:Rc) (c:Cc) (x:Str):List Expr→Option CE
 | []=>none
 | a::es=>match es with
  | []=>match isRg a with
   | some es=>sLr r c x es
   | none=>(r.e c a).bind fun y=>sB1 c x a y
  | b::es=>match es with
   | []=>match decide (x="isinstance") with
    | true=>(isNm b).bind fun y=>sIsi r c a y
    | false=>sB2 r c x a b
   | _::_=>none
noncomputable def lS (r:Rc) (c:Cc):List Expr→Option CL
 | []=>some .nil
 | e::es=>(r.e c e).bind fun x=>(r.l c es).bind fun l=>need (qAJ e) (.cons x l)
noncomputable def oS (r:Rc) (c:Cc):Option Expr→Option CP
 | none=>some .no
 | some e=>(r.e c e).bind fun x=>some (.at x)
noncomputable def sT (r:Rc) (c:Cc) (e:Expr):Option CT:=(r.e c e).bind fun x=>need (qJu e) (.val x)
noncomputable def tS (r:Rc) (c:Cc) (e:Expr):Option CT:=match e with
 | .UnaryOp op a _=>match op with
  | .Not=>(r.t c a).bind fun x=>some (.not x)
  | _=>none
 | .BoolOp op es _=>r.tb c op es
 | .Compare a ops cs _=>(qDZ r c a ops cs).bind fun x=>some (.val x)
 | e=>sT r c e
noncomputable def tbS (r:Rc) (c:Cc) (op:BoolOp):List Expr→Option CT
 | []=>none
 | a::es=>match es with
  | []=>r.t c a
  | b::es=>(r.t c a).bind fun x=>(r.tb c op (b::es)).bind fun y=>some (match op with | .And=>.and x y | .Or=>.or x y)
noncomputable def sRg (r:Rc) (c:Cc):List Expr→Option CI
 | []=>none
 | a::es=>match es with
  | []=>(r.e c a).bind fun y=>need (qAJ a&&c.isB "range") (.rng1 y)
  | b::es=>match es with
   | []=>(r.e c a).bind fun y=>(r.e c b).bind fun z=>need (qAJ a&&qAJ b&&c.isB "range") (.rng2 y z)
   | _::_=>none
noncomputable def iS (r:Rc) (c:Cc) (e:Expr):Option CI:=match isRg e with
 | some es=>sRg r c es
 | none=>(r.e c e).bind fun y=>need (noSet e) (.of y)
noncomputable def nextR (r:Rc):Rc:=⟨eS r,cmpS r,bS r,lS r,oS r,tS r,tbS r,iS r⟩
noncomputable def rcN:Nat→Rc
 | 0=>⟨fun _ _=>none,fun _ _ _ _=>none,fun _ _ _=>none,fun _ _=>none,fun _ _=>none,fun _ _=>none,fun _ _ _=>none,fun _ _=>none⟩
 | n+1=>nextR (rcN n)
noncomputable def qJ1:Expr→Bool
 | .ListComp _ gs _ _=>match isGen gs with
  | some q=>decide (q.ifs.length≤1)
  | none=>false
 | _=>false
noncomputable def qEP:Expr→Bool
 | .ListComp _ _ _ _=>false
 | .SetComp _ _ _ _=>false
 | .DictComp _ _ _ _ _=>false
 | _=>true
noncomputable def Cc.still (c:Cc):Cc:={ c with rs:=false }
structure Rs where
 s:Cc→Stmt→Option CS
 ss:Cc→List Stmt→Option CS
 h:Cc→List ExceptHandler→Option CH
noncomputable def sSet (r:Rc) (c:Cc) (e:Expr):Expr→Option CS
 | .Name x _=>(c.own x).bind fun i=>(r.e c e).bind fun y=>need (qEP e || qJ1 e) (.set (.nm i) y)
 | .Attribute o f _=>(c.A.lookup f).bind fun k=>(r.e c o).bind fun x=>(r.e c e).bind fun y=>need (qEP e) (.setF x k.1 k.2 y)
 | .Subscript o i _=>(r.e c o).bind fun x=>(r.e c i).bind fun z=>(r.e c e).bind fun y=>need (qEP e&&qDi i) (.setIx x z y)
 | _=>none
noncomputable def isTg (c:Cc):Expr→Option TG
 | .Name x _=>(c.own x).bind fun i=>some (.nm i)
 | _=>none
noncomputable def stS (r:Rc) (q:Rs) (c:Cc):Stmt→Option CS
 | .Assign ts e _=>match ts with
  | [t]=>sSet r c e t
  | _=>none
 | .Expr e _=>(r.e c e).bind fun y=>need (qEP e) (.exp y)
 | .Return v _=>match v with
  | some e=>(r.e c e).bind fun y=>some (.ret y)
  | none=>some .retN
 | .Pass _=>some .skip
 | .Break _=>some .brk
 | .Continue _=>some .cnt
 | .If t a b _=>(r.t c t).bind fun z=>(q.ss c a).bind fun x=>(q.ss c b).bind fun y=>some (.ite z x y)
 | .While t a els _=>match els with
  | []=>(r.t c.still t).bind fun z=>(q.ss c.still a).bind fun x=>some (.whil z x)
  | _::_=>none
 | .For tg it a els _=>match els with
  | []=>(isTg c tg).bind fun t=>(r.i c it).bind fun z=>(q.ss c.still a).bind fun y=>need c.calm (.fori t z y)
  | _::_=>none
 | _=>none
noncomputable def ssS (q:Rs) (c:Cc):List Stmt→Option CS
 | []=>some .skip
 | s::r=>match r with
  | []=>some ((q.s c s).getD .opq)
  | t::r=>(q.ss c (t::r)).bind fun y=>some (.seq ((q.s c s).getD .opq) y)
noncomputable def hS (q:Rs) (c:Cc):List ExceptHandler→Option CH
 | _=>none
noncomputable def nextS (r:Rc) (q:Rs):Rs:=⟨stS r q,ssS q,hS q⟩
noncomputable def rsN:Nat→Rs
 | 0=>⟨fun _ _=>none,fun _ _=>none,fun _ _=>none⟩
 | n+1=>nextS (rcN n) (rsN n)
noncomputable def cSs (c:Cc) (n:Nat) (b:List Stmt):Option CS:=(rsN n).ss c b
end Fy
set_option Elab.async false
set_option linter.all false
set_option maxRecDepth 100000
set_option maxHeartbeats 4000000
namespace Fy
open PySem PySem.Spec PyProof.Rows
open L2 (V Hp HO VK TE TT TA TS TI Cx Inv RelV Vals SqL SqT Rd upd qAA qAB PE PT PA PS PSs EP OpR CallR IxR MtR SlR PO TO PI PG PIE Turn FpOk Ends)
noncomputable def GOk (X:Cx) (F:Nat→List D→M D) (k:Nat) (ex:Nat→Option Addr) (x:Str):GK→Prop
 | .fn i=>∃ f fd ps,X.mg x=some (.ref f)∧PySem.W.keepIn X.K (.ref f)=true∧L2.Binds X.K fd ps []∧L2.FnOk X.prog X.w X.K X.mg X.base (CXD X.prog X.w ex) k f fd ps (spD X.K (F i))
 | .con d=>∃ v u,X.mg x=some u∧RelV v u∧∀ ρ H,RepV X.K ρ H d v
 | .blt=>X.mg x=none
 | .exc c=>∃ C,X.mg x=some (.ref C)∧ex c=some C∧isXC X.K C=true
 | .cls c i=>∃ C f fd ps,X.mg x=some (.ref C)∧ClsAt X.K c C∧L2.Cls X.K C∧L2.Mk X.K C f∧L2.Binds X.K fd ps []∧L2.FnOk X.prog X.w X.K X.mg X.base (CXD X.prog X.w ex) k f fd ps (spD X.K (F i))
structure Body (X:Cx) (c:Cc) (F:Nat→List D→M D) (k:Nat) (ex:Nat→Option Addr) (W:WX):Prop where
 N:X.N=c.N
 nd:c.N.Nodup
 sc:X.env.scope=c.sc
 calm:c.calm=true→X.calm=true
 room:c.calm=true→L2.Room (k+1) X.A
 hu:X.A.units+64<cLine
 glob:∀ x g,c.G.lookup x=some g→GOk X F k ex x g
 xq:∀ i cs xl C j D,c.xs.lookup i=some cs→c.xs.lookup 1=some xl→ex i=some C→ClsAt X.K j D→xl.contains j=true→PySem.W.kitOne X.K (.ref D) (.ref C)=some (cs.contains j)
 xv:∀ cs xl j D,c.xs.lookup 0=some cs→c.xs.lookup 1=some xl→ClsAt X.K j D→xl.contains j=true→PySem.W.kitOne X.K (.ref D) (.type "ValueError")=some (cs.contains j)
 mt:∀ m mk tb,c.M.lookup m=some (mk,tb)→m=nmOf mk∧mk<256 ^ 60∧MtOk X F k ex m tb
 at':∀ f kk cs,c.A.lookup f=some (kk,cs)→f=nmOf kk∧kk<256 ^ 60∧∀ cc C,cs.contains cc=true→ClsAt X.K cc C→L2.NoAttr X.K C (nmOf kk)
 xg:∀ xl j D,c.xs.lookup 1=some xl→ClsAt X.K j D→xl.contains j=true→XGet X.K D
 xc:∀ pins σ H s0 e s',Inv X pins σ H s0→CXD X.prog X.w ex X.stack H s0 (fun _ co H'=>∃ c,co=some c∧W c σ H') e s'→X.xe e s'
structure BodyS (X:Cx) (c:Cc) (F:Nat→List D→M D) (k:Nat) (ex:Nat→Option Addr) (W:WX):Prop extends Body X c F k ex W where
 fn:∀ x,X.fn x=true
 stk:X.stack=X.env::X.outer∧X.env.frame=some X.env.locals
 noex:X.ex=[]
 xcl:∀ i C,ex i=some C→ClsAt X.K i C
 xr:c.rs=true→∀ pins σ H s a args h' i C,ex i=some C→Inv X pins σ H s→Heap.MadeExcOf s.heap h' a (.ref C) args→W i σ H→X.xe (.ref a) { s with heap:=h' }
 xm:∀ i cs C j D,c.xs.lookup i=some cs→ex i=some C→ex j=some D→PySem.W.exmOne X.K (.ref D) (.ref C)=some (cs.contains j)
theorem qFD {l:List Str} {x:Str} {i:Nat} (h:l.idxOf? x=some i):l[i]?=some x:=by
 unfold List.idxOf? at h
 rw [List.findIdx?_eq_some_iff_getElem] at h
 obtain ⟨h1,h2,_⟩:=h
 rw [List.getElem?_eq_getElem h1]
 simpa using h2
theorem qAf {e:Expr} {es:List Expr} {env:PySem.Env} (h:qAJ e=true):starEach (e::es) env=(false,eval e env)::starEach es env:=by
 cases e <;> first | rfl | cases h
theorem qIk {env:PySem.Env}:starEach [] env=[]:=rfl
theorem star1 {e:Expr} {env:PySem.Env} (h:qAJ e=true):starEach [e] env=[(false,eval e env)]:=by rw [qAf h,qIk]
theorem star2 {e e':Expr} {env:PySem.Env} (h:qAJ e=true) (h':qAJ e'=true):starEach [e,e'] env=[(false,eval e env),(false,eval e' env)]:=by rw [qAf h,star1 h']
noncomputable def stars:List Expr→Bool
 | []=>true
 | e::es=>qAJ e&&stars es
theorem qCU {env:PySem.Env} {pos:Pos}:∀ {es:List Expr},stars es=true→(backTo pos (starEach es env)).any (·.1)=false
 | [],_=>rfl
 | e::es,h=>by
  have h:=Bool.and_eq_true_iff.mp h
  rw [qAf h.1]
  show (false || (backTo pos (starEach es env)).any (·.1))=false
  rw [qCU h.2]
  rfl
theorem qBr {o:Expr} {m:Str} {env:PySem.Env} {w:Sem Value} (h:qBH o=true):attributeBase o m env w=w:=by
 cases o with
 | Call f es ks pos =>
  cases f with
  | Name id p =>
   cases es with
   | nil =>
    cases ks with
    | nil=>cases h
    | cons _ _=>rfl
   | cons _ _=>rfl
  | _=>rfl
 | _=>rfl
theorem qJH {b:Expr} (h:qDi b=true):L2.PlainIx b:=by
 intro o i
 cases b <;> first | rfl | cases h
section
variable {X:Cx} {c:Cc} {F:Nat→List D→M D} {k B:Nat} {ex:Nat→Option Addr} {W:WX}
theorem Body.vis (T:Body X c F k ex W) {x:Str} {i:Nat} (h:c.slot x=some i):X.N[i]?=some x∧L2.Vis X.env.scope x∧(x == ("__debug__":Str))=false∧(x == ("__classdict__":Str))=false:=by
 unfold Cc.slot at h
 rw [T.N]
 have key:∀ {kd:NameKind},c.sc.names.lookup x=some kd→(kd=.local∨kd=.cell∨kd=.free)→(if (x == ("__debug__":Str) || x == ("__classdict__":Str))=true then none else c.N.idxOf? x)=some i→c.N[i]?=some x∧L2.Vis X.env.scope x∧(x == ("__debug__":Str))=false∧(x == ("__classdict__":Str))=false:=by
  intro kd hk hd hi
  split at hi
  ·cases hi
  ·rename_i hn
   refine ⟨qFD hi,?_,?_⟩
   ·unfold L2.Vis
    rw [T.sc,hk]
    rcases hd with rfl | rfl | rfl <;> simp
   ·simpa using hn
 split at h
 ·rename_i hk;exact key hk (.inl rfl) h
 ·rename_i hk;exact key hk (.inr (.inl rfl)) h
 ·rename_i hk;exact key hk (.inr (.inr rfl)) h
 ·cases h
theorem Body.loc (T:Body X c F k ex W) {x:Str} {i:Nat} (h:c.own x=some i):X.N[i]?=some x∧L2.Loc X.env.scope x:=by
 unfold Cc.own at h
 rw [T.N]
 split at h
 ·rename_i hk
  refine ⟨qFD h,.inl ?_⟩
  rw [T.sc]
  exact hk
 ·rename_i hk
  refine ⟨qFD h,.inr ?_⟩
  rw [T.sc]
  exact hk
 ·cases h
theorem Body.gl (T:Body X c F k ex W) {x:Str} {g:GK} (h:c.glob x=some g):L2.Gl X x∧(x == ("__debug__":Str))=false∧x≠"__name__"∧GOk X F k ex x g:=by
 unfold Cc.glob at h
 split at h
 ·rename_i hk
  split at h
  ·cases h
  ·rename_i hn
   refine ⟨?_,by revert hn;cases (x == ("__debug__":Str)) <;> simp,fun z=>hn (by simp [z]),T.glob x g h⟩
   show X.env.scope.names.lookup x=_
   rw [T.sc]
   exact hk
 ·cases h
theorem Body.nd' (T:Body X c F k ex W):X.N.Nodup:=by rw [T.N];exact T.nd
theorem qLq {op:Operator} {o:Bi} (h:binO op=some o):OpR X (binaryOp op) (rB X.K o):=by
 cases op <;> first | (cases h;first | exact qKp | exact qKl | exact qKn | exact qIs | exact qKo | exact qKm) | cases h
theorem qBX (T:Body X c F k ex W) {op:CmpOp} {o:Bi} (h:cmpO op=some o):isCmp o=true∧OpR X (compareOp op) (rB X.K o):=by
 cases op <;> first
  | (cases h;exact ⟨rfl,by first | exact qM3 T.hu | exact qMx T.hu | exact qMy | exact qMz | exact qM1 | exact qM2 | exact qM0 T.hu | exact qG7⟩)
  | cases h
theorem qN2 (T:Body X c F k ex W) {x:Str} {o:Un} {a:Expr} {ca:CE} {p pos:Pos} (h:bi1 x=some o) (hg:c.glob x=some .blt) (ha:PE X a (tD X.K W (den F ca))) (hs:qAJ a=true):PE X (.Call (.Name x p) [a] [] pos) (tD X.K W (den F (.un o ca))):=by
 obtain ⟨g1,g2,g3,g4⟩:=T.gl hg
 have st:=star1 (env:=X.env) hs
 have go:∀ {id:String},CallR X (.builtin id) (rC X.K o)→bootBuiltins x=some (.builtin id)→PE X (.Call (.Name x p) [a] [] pos) (tD X.K W (den F (.un o ca))):=fun hc hv =>
  qDx (a:=a) (L2.pe_callB hc g1 g4 hv (L2.pa_cons ha L2.pa_nil (by rw [st];rfl)) g3 g2 (by rw [st];rfl)) fun x H Q z=>⟨x,rfl,z⟩
 have goT:∀ {id:String},CallR X (.type id) (rC X.K o)→bootBuiltins x=some (.type id)→PE X (.Call (.Name x p) [a] [] pos) (tD X.K W (den F (.un o ca))):=fun hc hv =>
  qDx (a:=a) (L2.pe_callTy hc g1 g4 hv (L2.pa_cons ha L2.pa_nil (by rw [st];rfl)) g3 g2 (by rw [st];rfl)) fun x H Q z=>⟨x,rfl,z⟩
 unfold bi1 at h
 split at h
 ·rename_i e;subst e;cases h;exact go qIG (by decide +kernel)
 split at h
 ·rename_i e;subst e;cases h;exact go qIF (by decide +kernel)
 split at h
 ·rename_i e;subst e;cases h;exact goT qII (by decide +kernel)
 ·cases h
theorem qLr (T:Body X c F k ex W) (hc:c.calm=true) {x:Str} {o:Un} {a:Expr} {ca:CE} {p pos:Pos} (h:bi1c x=some o) (hg:c.glob x=some .blt) (ha:PE X a (tD X.K W (den F ca))) (hs:qAJ a=true):PE X (.Call (.Name x p) [a] [] pos) (tD X.K W (den F (.un o ca))):=by
 obtain ⟨g1,g2,g3,g4⟩:=T.gl hg
 have st:=star1 (env:=X.env) hs
 have go:∀ {id:String},CallR X (.builtin id) (rC X.K o)→bootBuiltins x=some (.builtin id)→PE X (.Call (.Name x p) [a] [] pos) (tD X.K W (den F (.un o ca))):=fun hc hv =>
  qDx (a:=a) (L2.pe_callB hc g1 g4 hv (L2.pa_cons ha L2.pa_nil (by rw [st];rfl)) g3 g2 (by rw [st];rfl)) fun x H Q z=>⟨x,rfl,z⟩
 unfold bi1c at h
 split at h
 ·rename_i e;subst e;cases h;exact go (qIK (T.calm hc)) (by decide +kernel)
 split at h
 ·rename_i e;subst e;cases h;exact go qGU (by decide +kernel)
 ·cases h
theorem qN1 (T:Body X c F k ex W) (hc:c.calm=true) {x:Str} {o:Bi} {a b:Expr} {ca cb:CE} {p pos:Pos} (h:bi2 x=some o) (hg:c.glob x=some .blt) (ha:PE X a (tD X.K W (den F ca))) (hb:PE X b (tD X.K W (den F cb))) (hs:qAJ a=true) (hs':qAJ b=true):PE X (.Call (.Name x p) [a,b] [] pos) (tD X.K W (den F (.bi o ca cb))):=by
 obtain ⟨g1,g2,g3,g4⟩:=T.gl hg
 have st:=star2 (env:=X.env) hs hs'
 have st1:=star1 (env:=X.env) hs'
 have go:∀ {id:String},CallR X (.builtin id) (rC2 X.K o)→bootBuiltins x=some (.builtin id)→PE X (.Call (.Name x p) [a,b] [] pos) (tD X.K W (den F (.bi o ca cb))):=fun hc hv =>
  qH9 (L2.pe_callB hc g1 g4 hv (L2.pa_cons ha (L2.pa_cons hb L2.pa_nil (by rw [st1];rfl)) (by rw [st,st1])) g3 g2 (by rw [st,st1]) (by rw [st1];rfl)) fun x y H Q z=>⟨x,y,rfl,z⟩
 unfold bi2 at h
 split at h
 ·rename_i e;subst e;cases h;exact go (qGV (T.calm hc)) (by decide +kernel)
 split at h
 ·rename_i e;subst e;cases h;exact go (qGW (T.calm hc)) (by decide +kernel)
 ·cases h
theorem qNb (T:Body X c F k ex W) {x y:Str} {t:Ty} {a:Expr} {ca:CE} {p p2 pos:Pos} (hx:x="isinstance") (ht:tyN y=some t) (hg:c.glob x=some .blt) (hy:c.isB y=true) (ha:PE X a (tD X.K W (den F ca))) (hs:qAJ a=true):PE X (.Call (.Name x p) [a,.Name y p2] [] pos) (tD X.K W (den F (.un (.isi t) ca))):=by
 obtain ⟨g1,g2,g3,g4⟩:=T.gl hg
 have hy':c.glob y=some .blt:=by
  unfold Cc.isB at hy
  split at hy
  ·assumption
  ·cases hy
 obtain ⟨k1,k2,k3,k4⟩:=T.gl hy'
 refine d_isi hx g1 g4 k1 k4 ?_ k3 k2 ha (star2 hs rfl)
 unfold tyN at ht
 split at ht
 ·rename_i e;subst e;cases ht;decide +kernel
 split at ht
 ·rename_i e;subst e;cases ht;decide +kernel
 split at ht
 ·rename_i e;subst e;cases ht;decide +kernel
 split at ht
 ·rename_i e;subst e;cases ht;decide +kernel
 split at ht
 ·rename_i e;subst e;cases ht;decide +kernel
 ·cases ht
theorem qNK (T:Body X c F k ex W) {m:Str} {o:Bi} {a b:Expr} {ca cb:CE} {ap p:Pos} (h:me1 m=some o) (ha:PE X a (tD X.K W (den F ca))) (hb:PE X b (tD X.K W (den F cb))) (hs:qAJ b=true) (hsu:qBH a=true) (hl:(ap.endLine == p.line)=true):PE X (.Call (.Attribute a m ap) [b] [] p) (tD X.K W (den F (.me o ca cb))):=by
 unfold me1 at h
 split at h
 ·rename_i e;cases h;exact qJW e ha hb (qBr hsu) hl (star1 hs)
 split at h
 ·rename_i e;cases h;exact qNu e ha hb (qBr hsu) hl (star1 hs)
 ·cases h
theorem qLG (T:Body X c F k ex W) {m:Str} {o:Bi} {a b:Expr} {ca cb:CE} {ap p:Pos} (h:me1p ca m=some o) (ha:PE X a (tD X.K W (den F ca))) (hb:PE X b (tD X.K W (den F cb))) (hs:qAJ b=true) (hsu:qBH a=true) (hl:(ap.endLine == p.line)=true):PE X (.Call (.Attribute a m ap) [b] [] p) (tD X.K W (den F (.me o ca cb))):=by
 unfold me1p at h
 cases q:onWay ca&&decide (m="pop") with
 | true =>
  rw [q] at h
  cases h
  exact qNt (of_decide_eq_true (Bool.and_eq_true_iff.mp q).2) ha hb (qBr hsu) hl (star1 hs)
 | false =>
  rw [q] at h
  exact qNK T h ha hb hs hsu hl
theorem qJX {kc:Const} {ce:CE} {j:Nat} {pos:Pos} (h:qKA kc=some ce):PE X (.Constant kc j pos) (tD X.K W (den F ce)):=by
 cases kc with
 | none=>cases h;exact d_lit L2.pe_non fun _ _=>rfl
 | bool b=>cases h;exact d_lit L2.pe_bl fun _ _=>rfl
 | int i=>cases h;exact d_lit L2.pe_int fun _ _=>rfl
 | str s=>cases h;exact d_lit L2.pe_str fun _ _=>(show V.str s=V.str ⟨s.cps.toList.toArray⟩ by simp)
 | _=>cases h
theorem qLo (T:Body X c F k ex W) (hc:c.calm=true) {x:Str} {i:Nat} {e:Expr} {es:List Expr} {cl:CL} {p pos:Pos} (h:c.glob x=some (.fn i)) (ha:PA X (e::es) (tDL X.K W (denL F cl))) (hs:stars (e::es)=true):PE X (.Call (.Name x p) (e::es) [] pos) (tD X.K W (den F (.call i cl))):=by
 obtain ⟨g1,g2,g3,f,fd,ps,hm,hk,hb,FO⟩:=T.gl h
 have hs':=Bool.and_eq_true_iff.mp hs
 intro pins s σ H Q I t
 obtain ⟨ρ,env,hh,st,r,pp⟩:=t
 rw [den] at pp
 refine wpAny_Call_Name_kw (L2.ld_glob I g1 hm ?_ g2)
 refine PySem.W.callWith_K (h₀:=X.base) I.ok.mod.kin hk (L2.thn (ha pos pins s σ H (fun vs H1=>spD X.K (F i) vs H1 Q fun _ co H'=>∃ c,co=some c∧W c σ H') I ⟨ρ,env,hh,st,r,Post.bind pp fun ρ1 h1 ds H1 e1 r1 q vs hvs=>?_⟩) fun us s1 z=>?_) (qAf hs'.1) (qCU hs'.2)
 ·exact ⟨ρ1,h1,ds,r1,hvs,by
   cases z:F i ds h1 with
   | ok a g=>rw [z] at q;exact q
   | exc c g=>rw [z] at q;exact fun ρ' H' e' r' _=>⟨c,rfl,q ρ' H' e' r'⟩
   | bad=>rw [z] at q;exact q⟩
 ·obtain ⟨vs,H1,I1,rv,q1⟩:=z
  exact ⟨I1.kIn,qDa FO ((T.room hc).mono (Nat.le_succ _)) hb (fun e s' x=>T.xc pins σ H1 s1 e s' I1 x) I1 rv q1⟩
theorem qJj (T:Body X c F k ex W) (hc:c.calm=true) {x:Str} {i:Nat} {p pos:Pos} (h:c.glob x=some (.fn i)):PE X (.Call (.Name x p) [] [] pos) (tD X.K W (den F (.call i .nil))):=by
 obtain ⟨g1,g2,g3,f,fd,ps,hm,hk,hb,FO⟩:=T.gl h
 intro pins s σ H Q I t
 obtain ⟨ρ,env,hh,st,r,pp⟩:=t
 rw [den,denL] at pp
 refine wpAny_Call_Name_kw (L2.ld_glob I g1 hm ?_ g2)
 refine PySem.W.callWith_K0 I.kIn hk (qDa (us:=[]) (vs:=[]) (E:=fun _ co H'=>∃ c,co=some c∧W c σ H') FO ((T.room hc).mono (Nat.le_succ _)) hb (fun e s' x=>T.xc pins σ H s e s' I x) I .nil ⟨ρ,hh,[],r,rfl,?_⟩)
 have q:PostV X.K (W.at σ) Q ρ H (F i [] hh):=pp
 cases z:F i [] hh with
 | ok a g=>rw [z] at q;exact q
 | exc c g=>rw [z] at q;exact fun ρ' H' e' r' _=>⟨c,rfl,q ρ' H' e' r'⟩
 | bad=>rw [z] at q;exact q
theorem qLH (T:Body X c F k ex W) (hc:c.calm=true) {x:Str} {cc i:Nat} {e:Expr} {es:List Expr} {cl:CL} {p pos:Pos} (h:c.glob x=some (.cls cc i)) (ha:PA X (e::es) (tDL X.K W (denL F cl))) (hs:stars (e::es)=true):PE X (.Call (.Name x p) (e::es) [] pos) (tD X.K W (den F (.make cc i cl))):=by
 obtain ⟨g1,g2,g3,C,f,fd,ps,hm,h1,h2,h3,h4,h5⟩:=T.gl h
 have hs':=Bool.and_eq_true_iff.mp hs
 exact qNs g1 g2 hm h1 h2 h3 h4 h5 (T.room hc) T.xc ha (qAf hs'.1) (qCU hs'.2)
theorem qJA (T:Body X c F k ex W) (hc:c.calm=true) {x:Str} {cc i:Nat} {p pos:Pos} (h:c.glob x=some (.cls cc i)):PE X (.Call (.Name x p) [] [] pos) (tD X.K W (den F (.make cc i .nil))):=by
 obtain ⟨g1,g2,g3,C,f,fd,ps,hm,h1,h2,h3,h4,h5⟩:=T.gl h
 exact qLg g1 g2 hm h1 h2 h3 h4 h5 (T.room hc) T.xc
theorem qFg {env:PySem.Env} {pos:Pos}:∀ {es:List Expr},stars es=true→(backTo pos (starEach es env)).all (fun x=>!x.1)=true
 | [],_=>rfl
 | e::es,h=>by
  have h:=Bool.and_eq_true_iff.mp h
  rw [qAf h.1]
  show (!false&&(backTo pos (starEach es env)).all (fun x=>!x.1))=true
  rw [qFg h.2]
  rfl
theorem qLB (T:Body X c F k ex W) (hc:c.calm=true) {a e:Expr} {es:List Expr} {ca:CE} {cl:CL} {mk:Nat} {tb:List (Nat × Nat)} {m:Str} {ap pos:Pos} (h:c.M.lookup m=some (mk,tb)) (ho:PE X a (tD X.K W (den F ca))) (ha:PA X (e::es) (tDL X.K W (denL F cl))) (hs:stars (e::es)=true) (hsu:qBH a=true) (hl:(ap.endLine == pos.line)=true) (hn:es.length<20) :
    PE X (.Call (.Attribute a m ap) (e::es) [] pos) (tD X.K W (den F (.meth mk tb ca cl))):=by
  obtain ⟨m1,m2,m3⟩:=T.mt m mk tb h
  have hs':=Bool.and_eq_true_iff.mp hs
  refine qNr m3 m1 m2 ((T.room hc).mono (Nat.le_succ _)) T.xc ho ha (qBr hsu) hl ?_ (qAf hs'.1) (qCU hs'.2)
  unfold methodCallForm
  rw [qFg hs]
  show (true&&true&&decide ((e::es).length+0+0<30))=true
  simp only [List.length_cons,Bool.and_self,Bool.true_and,decide_eq_true_eq]
  omega
theorem qI5 (T:Body X c F k ex W) (hc:c.calm=true) {a:Expr} {ca:CE} {mk:Nat} {tb:List (Nat × Nat)} {m:Str} {ap pos:Pos} (h:c.M.lookup m=some (mk,tb)) (ho:PE X a (tD X.K W (den F ca))) (hsu:qBH a=true) (hl:(ap.endLine == pos.line)=true) :
    PE X (.Call (.Attribute a m ap) [] [] pos) (tD X.K W (den F (.meth mk tb ca .nil))):=by
  obtain ⟨m1,m2,m3⟩:=T.mt m mk tb h
  exact qLf m3 m1 m2 ((T.room hc).mono (Nat.le_succ _)) T.xc ho (qBr hsu) hl
theorem qG3 {e:Expr} {env:PySem.Env} (h:qJu e=true) (whole:Sem Value):isTrue e env whole=(do let v ← whole;standAt e.pos;holding [v] (truthy v)):=by
 cases e <;> first | rfl | cases h
theorem qBB {e:Expr} {env:PySem.Env} (h:noSet e=true) (x:Value):foldedSetIterable e env x=pure x:=by
 cases e <;> first | rfl | cases h
theorem qBW (T:Body X c F k ex W) {x:Str} {scope:Scope} (h:c.compOk x scope=true):CompOk X x scope:=by
 unfold Cc.compOk at h
 simp only [Bool.and_eq_true,Bool.or_eq_true,decide_eq_true_eq,List.all_eq_true] at h
 obtain ⟨⟨⟨⟨⟨⟨h1,h2⟩,h3⟩,h4⟩,h5⟩,h6⟩,h7⟩:=h
 refine ⟨h1,h2,h3,h4,fun y hy hf=>?_,h6.1,fun z=>?_,fun y hne hy hm=>h7 _ (qAK hy) hne rfl (by rw [← T.N];exact hm)⟩
 rotate_left
 ·rw [T.N] at z ⊢
  rcases h6.2 with w | w
  ·exact absurd z w
  ·exact w
 show X.env.scope.names.lookup y.1=_∨X.env.scope.names.lookup y.1=_
 rw [T.sc]
 exact h5 y hy hf
theorem qBg (T:Body X c F k ex W) {x:Str} {scope:Scope} (h:c.compOk x scope=true) (cl:List (Str × Addr)) (C:Addr) (s3:Shared) (H3:Hp) (fp:List Addr) (E:Value→Shared→Prop):Body (cxC X x scope cl C s3 H3 fp E) (c.inner x scope) F k ex WF:=by
 have K:=qBW T h
 refine ⟨?_,?_,?_,T.calm,T.room,T.hu,fun y g hg=>?_,T.xq,T.xv,T.mt,T.at',T.xg,fun pins σ H s0 e s' I x=>?_⟩
 ·show maskN X.N x++[x]=maskN c.N x++[x]
  rw [T.N]
 ·show (maskN c.N x++[x]).Nodup
  exact qDl T.nd K.new fun z=>by have:=(K.hole (by rw [T.N];exact z)).1;rw [T.N] at this;exact this
 ·show relabel scope X.env=qFi scope c.sc
  rw [← T.sc]
  rfl
 ·have:=T.glob y g hg
  cases g <;> exact this
 ·obtain ⟨_,_,_,_,_,_,_,_,_,_,_,_,_,_,_,_,z⟩:=x
  exact False.elim z
structure AllOk (X:Cx) (c:Cc) (F:Nat→List D→M D) (W:WX) (r:Rc):Prop where
 e:∀ e ce,r.e c e=some ce→PE X e (tD X.K W (den F ce))
 cmp:∀ a op b ce pos,r.cmp c a op b=some ce→PE X (.Compare a [op] [b] pos) (tD X.K W (den F ce))∧PT X (.Compare a [op] [b] pos) (tDT X.K W (denT F (.val ce)))
 b:∀ x es ce p pos,c.glob x=some .blt→r.b c x es=some ce→PE X (.Call (.Name x p) es [] pos) (tD X.K W (den F ce))
 l:∀ es cl,r.l c es=some cl→PA X es (tDL X.K W (denL F cl))∧stars es=true
 o:∀ o cp,r.o c o=some cp→PO X o (tDP X.K W (denP F cp))
 t:∀ e ct,r.t c e=some ct→PT X e (tDT X.K W (denT F ct))
 tb:∀ op es ct pos,r.tb c op es=some ct→L2.PW X (.BoolOp op es pos) (tDT X.K W (denT F ct))
 i:∀ tg e ci,r.i c e=some ci→PI X tg e (tDI X.K W (denI F ci))∧noSet e=true
end
end Fy
set_option Elab.async false
set_option linter.all false
set_option maxRecDepth 100000
set_option maxHeartbeats 4000000
namespace Fy
open PySem PySem.Spec PyProof.Rows
open L2 (V Hp HO VK TE TT TA TS TI Cx Inv RelV Vals SqL SqT Rd upd qAA qAB PE PT PA PS PSs EP TP PI PG PIE Turn FpOk Ends HOk frs thn)
theorem qHL {N:List Str} {x y:Str} (h:x≠y):maskN (maskN N x++[x]) y++[y]=mask2 N x y++[x,y]:=by
 unfold mask2
 rw [show maskN (maskN N x++[x]) y=maskN (maskN N x) y++[x] by rw [maskN,List.map_append];simp [maskN,h]]
 simp
section
variable {X:Cx} {c:Cc} {F:Nat→List D→M D} {k:Nat} {W:WX}
theorem qFy {ex} (T:Body X c F k ex W) {x y:Str} {scope:Scope} (h:c.compOk2 x y scope=true):CompM X (mask2 X.N x y) [x,y] scope:=by
 unfold Cc.compOk2 at h
 simp only [Bool.and_eq_true,Bool.or_eq_true,decide_eq_true_eq,List.all_eq_true] at h
 obtain ⟨⟨⟨⟨⟨⟨h1,h2⟩,h3⟩,h4⟩,h5⟩,⟨⟨⟨⟨⟨g1,g2⟩,g3⟩,g4⟩,g5⟩,g6⟩⟩,h7⟩:=h
 refine ⟨h1,h2,h3,fun z hz=>?_,fun y hy hf=>?_,?_,?_,fun i z hz=>?_,fun z hne hz hm=>?_⟩
 ·rcases List.mem_cons.mp hz with e | e
  ·rw [e];exact h4.1
  ·rw [List.mem_singleton.mp e];exact h4.2
 ·show X.env.scope.names.lookup y.1=_∨X.env.scope.names.lookup y.1=_
  rw [T.sc]
  exact h5 y hy hf
 ·unfold mask2
  rw [qBe,qBe]
 ·rw [T.N,← qHL g3]
  refine qDl (qDl T.nd g1 fun z=>g5.resolve_left fun w=>w z) g2 fun z=>g6.resolve_left fun w=>w z
 ·rcases qDm hz with ⟨q,e⟩ | ⟨_,e⟩
  ·rcases qDm q with ⟨q,e'⟩ | ⟨_,e'⟩
   ·refine .inl ⟨q,fun w=>?_⟩
    rcases List.mem_cons.mp w with w | w
    ·exact e' w
    ·exact e (List.mem_singleton.mp w)
   ·exact .inr (by rw [e'];exact g4)
  ·exact .inr (by rw [e];exact g4)
 ·refine h7 _ (qAK hz) (fun w=>hne (by rw [show z=x from w];exact List.mem_cons_self ..)) (fun w=>hne (by rw [show z=y from w];simp)) rfl (by rw [← T.N];exact hm)
theorem qHj {ex} (T:Body X c F k ex W) {x y:Str} {scope:Scope} (h:c.compOk2 x y scope=true) (cl:List (Str × Addr)) (C:Addr) (s3:Shared) (H3:Hp) (fp:List Addr) (E:Value→Shared→Prop):Body (cxM X (mask2 X.N x y) [x,y] scope cl C s3 H3 fp E) (c.inner2 x y scope) F k ex WF:=by
 have K:=qFy T h
 refine ⟨?_,?_,?_,T.calm,T.room,T.hu,fun y g hg=>?_,T.xq,T.xv,T.mt,T.at',T.xg,fun pins σ H s0 e s' I x=>?_⟩
 ·show mask2 X.N x y++[x,y]=mask2 c.N x y++[x,y]
  rw [T.N]
 ·show (mask2 c.N x y++[x,y]).Nodup
  rw [← T.N]
  exact K.nd
 ·show relabel scope X.env=qFi scope c.sc
  rw [← T.sc]
  rfl
 ·have:=T.glob y g hg
  cases g <;> exact this
 ·obtain ⟨_,_,_,_,_,_,_,_,_,_,_,_,_,_,_,_,z⟩:=x
  exact False.elim z
theorem qKk {N':List Str} {x y:Str} {scope:Scope} {px py pt:Pos} {j} (K:CompM X N' [x,y] scope) (hc:X.calm=true) (cl:List (Str × Addr)) (C:Addr) (s3:Shared) (H3:Hp) (fp:List Addr) (E:Value→Shared→Prop) :
    PG (cxM X N' [x,y] scope cl C s3 H3 fp E) (.Tuple [.Name x px,.Name y py] j pt) (g2 X.K X.N.length):=by
  have lx:(cxM X N' [x,y] scope cl C s3 H3 fp E).env.scope.names.lookup x=some .local:=lookup_relabel_local (K.own x (by simp))
  have ly:(cxM X N' [x,y] scope cl C s3 H3 fp E).env.scope.names.lookup y=some .local:=lookup_relabel_local (K.own y (by simp))
  have ix:(cxM X N' [x,y] scope cl C s3 H3 fp E).N[X.N.length]?=some x:=by
    show (N'++[x,y])[X.N.length]?=some x
    rw [← K.len];simp
  have iy:(cxM X N' [x,y] scope cl C s3 H3 fp E).N[X.N.length+1]?=some y:=by
    show (N'++[x,y])[X.N.length+1]?=some y
    rw [← K.len];simp
  exact L2.pg_tup (X:=cxM X N' [x,y] scope cl C s3 H3 fp E) hc (L2.pgs_cons (L2.pg_name K.nd ix (.inl lx) (.inr lx)) (L2.pgs_cons (L2.pg_name K.nd iy (.inl ly) (.inr ly)) L2.pgs_nil))
theorem qJv {ex} (T:Body X c F k ex W) {x y:Str} {scope:Scope} {px py pt pos:Pos} {j} {elt iter:Expr} {ifs:List Expr} {f:Env→D→M (Option D)} {tt:Option TT} {te:TE} {mi:Env→M It} (h:c.compOk2 x y scope=true) (hc:X.calm=true)
    (hi:PI X (.Tuple [.Name x px,.Name y py] j pt) iter (tDI X.K W mi)) (hs:noSet iter=true) (ht:qEv X.K f tt te)
    (hin:∀ X',Body X' (c.inner2 x y scope) F k ex WF→X'.K=X.K→PE X' elt te∧PTs X' ifs tt) :
    PE X (.ListComp elt [⟨.Tuple [.Name x px,.Name y py] j pt,iter,ifs,0⟩] scope pos) (tD X.K W fun env=>M.bind (mi env) fun r=>M.bind (qCf (twoF f env) r) newL):=by
  intro pins s σ H Q I t
  have K:=qFy T h
  refine qIq (g:=g2 X.K X.N.length) (tt:=tt) (te:=te) K hc hi (qBB hs) (fun cl C s3 H3 fp E=>?_) pins s σ H Q I ?_
  · have q:=hin _ (qHj T h cl C s3 H3 fp E) rfl
    exact ⟨q.1,q.2,qKk K hc cl C s3 H3 fp E⟩
  · rw [← I.len]
    exact qNz (qIe ht) t
end
end Fy
set_option Elab.async false
set_option linter.all false
set_option maxRecDepth 100000
set_option maxHeartbeats 4000000
namespace Fy
open PySem PySem.Spec PyProof.Rows
open L2 (V Hp HO VK TE TT TA TS TI Cx Inv RelV Vals SqL SqT Rd upd qAA qAB PE PT PA PS PSs EP OpR CallR IxR MtR SlR PO TO PI PG PIE Turn FpOk Ends)
section
variable {X:Cx} {c:Cc} {F:Nat→List D→M D} {k B:Nat} {ex:Nat→Option Addr} {W:WX}
theorem qK8 (T:Body X c F k ex W) {x:Str} {pos:Pos} {ce:CE} (h:sName c x=some ce):PE X (.Name x pos) (tD X.K W (den F ce)):=by
 unfold sName at h
 cases q:c.slot x with
 | some i =>
  rw [q] at h
  cases h
  obtain ⟨h1,h2,h3,h4⟩:=T.vis q
  exact d_var (L2.pe_var h1 h2 h3 h4)
 | none =>
  rw [q] at h
  cases w:c.glob x with
  | none=>rw [w] at h;cases h
  | some g =>
   rw [w] at h
   cases g with
   | con d =>
    cases h
    obtain ⟨g1,g2,g3,v,u,hm,hr,hv⟩:=T.gl w
    exact d_lit (L2.pe_glob g1 hm hr g2) hv
   | _=>cases h
theorem un_ok {r:Rc} (A:AllOk X c F W r) {op:UnaryOp} {a:Expr} {pos:Pos} {ce:CE} (h:sUn r c a op=some ce):PE X (.UnaryOp op a pos) (tD X.K W (den F ce)):=by
 cases op with
 | Not=>obtain ⟨x,hx,h⟩:=bd_ok h;cases h;exact d_not (A.e a x hx)
 | USub=>obtain ⟨x,hx,h⟩:=bd_ok h;cases h;exact d_neg (A.e a x hx)
 | _=>cases h
theorem qLp {r:Rc} (A:AllOk X c F W r) {op:BoolOp} {es:List Expr} {pos:Pos} {ce:CE} (h:sBool r c op pos es=some ce):PE X (.BoolOp op es pos) (tD X.K W (den F ce)):=by
 cases es with
 | nil=>cases h
 | cons a es =>
  cases es with
  | nil=>exact L2.pe_one (A.e a ce h)
  | cons b es =>
   obtain ⟨x,hx,h⟩:=bd_ok h
   obtain ⟨y,hy,h⟩:=bd_ok h
   cases op with
   | And=>cases h;exact d_and (A.e a x hx) (A.e _ y hy)
   | Or=>cases h;exact d_or (A.e a x hx) (A.e _ y hy)
theorem qJd (T:Body X c F k ex W) {r:Rc} (A:AllOk X c F W r) {a b d:Expr} {op op':CmpOp} {ce:CE} {pos:Pos} (h:qJq r c a op op' b d=some ce) :
    PE X (.Compare a [op,op'] [b,d] pos) (tD X.K W (den F ce))∧PT X (.Compare a [op,op'] [b,d] pos) (tDT X.K W (denT F (.val ce))):=by
  obtain ⟨o,ho,h⟩:=bd_ok h
  obtain ⟨p,hp,h⟩:=bd_ok h
  obtain ⟨x,hx,h⟩:=bd_ok h
  obtain ⟨y,hy,h⟩:=bd_ok h
  obtain ⟨z,hz,h⟩:=bd_ok h
  obtain ⟨hl,rfl⟩:=qAC h
  have hl:lastMarks [op,op'] [b,d]=false:=by simpa using hl
  exact ⟨qLh (qBX T ho).2 (qBX T hp).2 (A.e a x hx) (A.e b y hy) (A.e d z hz) hl,qJV (qBX T hp).1 (qBX T ho).2 (qBX T hp).2 (A.e _ x hx) (A.e _ y hy) (A.e _ z hz) hl⟩
theorem qDS (T:Body X c F k ex W) {r:Rc} (A:AllOk X c F W r) {a:Expr} {ops:List CmpOp} {cs:List Expr} {ce:CE} {pos:Pos} (h:qDZ r c a ops cs=some ce) :
    PE X (.Compare a ops cs pos) (tD X.K W (den F ce))∧PT X (.Compare a ops cs pos) (tDT X.K W (denT F (.val ce))):=by
  cases ops with
  | nil=>cases h
  | cons op ops =>
    cases cs with
    | nil=>cases h
    | cons b cs =>
      cases ops with
      | nil =>
        cases cs with
        | nil=>exact A.cmp a op b ce pos h
        | cons _ _=>cases h
      | cons op' ops =>
        cases ops with
        | cons _ _=>cases h
        | nil =>
          cases cs with
          | nil=>cases h
          | cons d cs =>
            cases cs with
            | nil=>exact qJd T A h
            | cons _ _=>cases h
theorem qMY {r:Rc} (A:AllOk X c F W r) {a b:Expr} {pos:Pos} {ce:CE} (h:sSub r c a b=some ce):PE X (.Subscript a b pos) (tD X.K W (den F ce)):=by
 unfold sSub at h
 cases qr:isRev b with
 | true =>
  rw [qr] at h
  cases h
 | false =>
 rw [qr] at h
 cases q:isSl b with
 | some w =>
  rw [q] at h
  obtain ⟨p,rfl⟩:=qLR q
  obtain ⟨x,hx,h⟩:=bd_ok h
  obtain ⟨l,hl,h⟩:=bd_ok h
  obtain ⟨u,hu,h⟩:=bd_ok h
  cases h
  exact d_sl (A.e a x hx) (A.o w.1 l hl) (A.o w.2 u hu)
 | none =>
  rw [q] at h
  obtain ⟨x,hx,h⟩:=bd_ok h
  obtain ⟨y,hy,h⟩:=bd_ok h
  obtain ⟨hs,rfl⟩:=qAC h
  exact d_ix (A.e a x hx) (A.e b y hy) (qJH hs)
theorem qJi (T:Body X c F k ex W) {r:Rc} (A:AllOk X c F W r) {x:Str} {es:List Expr} {p pos:Pos} {ce:CE} (h:qJr r c x es (c.glob x)=some ce):PE X (.Call (.Name x p) es [] pos) (tD X.K W (den F ce)):=by
 cases w:c.glob x with
 | none=>rw [w] at h;cases h
 | some g =>
  rw [w] at h
  cases g with
  | fn i =>
   cases es with
   | nil=>obtain ⟨hs,rfl⟩:=qAC h;exact qJj T hs w
   | cons e es =>
    obtain ⟨l,hl,h⟩:=bd_ok h
    obtain ⟨hs,rfl⟩:=qAC h
    exact qLo T hs w (A.l _ l hl).1 (A.l _ l hl).2
  | blt=>exact A.b x es ce p pos w h
  | cls kc fi =>
   cases es with
   | nil=>obtain ⟨hs,rfl⟩:=qAC h;exact qJA T hs w
   | cons e es =>
    obtain ⟨l,hl,h⟩:=bd_ok h
    obtain ⟨hs,rfl⟩:=qAC h
    exact qLH T hs w (A.l _ l hl).1 (A.l _ l hl).2
  | _=>cases h
theorem qI4 (T:Body X c F k ex W) {r:Rc} (A:AllOk X c F W r) {a:Expr} {m:Str} {ap p:Pos} {es:List Expr} {x ce:CE} (hx:r.e c a=some x) (h:sMeth r c m (qBH a&&(ap.endLine == p.line)) x es (c.M.lookup m)=some ce):PE X (.Call (.Attribute a m ap) es [] p) (tD X.K W (den F ce)):=by
 cases w:c.M.lookup m with
 | some q =>
  rw [w] at h
  obtain ⟨mk,tb⟩:=q
  cases es with
  | nil =>
   obtain ⟨hs,rfl⟩:=qAC h
   obtain ⟨h1,h2⟩:=Bool.and_eq_true_iff.mp hs
   obtain ⟨h2,h3⟩:=Bool.and_eq_true_iff.mp h2
   exact qI5 T h1 w (A.e a x hx) h2 h3
  | cons e es =>
   obtain ⟨l,hl,h⟩:=bd_ok h
   obtain ⟨hs,rfl⟩:=qAC h
   obtain ⟨hs,h4⟩:=Bool.and_eq_true_iff.mp hs
   obtain ⟨h1,h2⟩:=Bool.and_eq_true_iff.mp hs
   obtain ⟨h2,h3⟩:=Bool.and_eq_true_iff.mp h2
   exact qLB T h1 w (A.e a x hx) (A.l _ l hl).1 (A.l _ l hl).2 h2 h3 (of_decide_eq_true h4)
 | none =>
  rw [w] at h
  cases es with
  | nil =>
   cases h
  | cons b es =>
   cases es with
   | cons d es =>
    cases es with
    | cons _ _=>cases h
    | nil =>
     have h:(match decide (m="setdefault") with | true=>none | false=>match decide (m="get") with | true=>(r.e c b).bind fun y=>(r.e c d).bind fun z=>need (qBH a&&(ap.endLine == p.line)&&qAJ b&&qAJ d) (.getd x y z) | false=>none)=some ce:=h
     split at h
     ·cases h
     ·split at h
      ·rename_i e
       obtain ⟨y,hy,h⟩:=bd_ok h
       obtain ⟨z,hz,h⟩:=bd_ok h
       obtain ⟨hs,rfl⟩:=qAC h
       obtain ⟨hs,h5⟩:=Bool.and_eq_true_iff.mp hs
       obtain ⟨hs,h4⟩:=Bool.and_eq_true_iff.mp hs
       obtain ⟨h2,h3⟩:=Bool.and_eq_true_iff.mp hs
       exact qNv (of_decide_eq_true e) (A.e a x hx) (A.e b y hy) (A.e d z hz) (qBr h2) h3 (star2 h4 h5) (star1 h5)
      ·cases h
   | nil =>
    obtain ⟨o,ho,h⟩:=bd_ok h
    obtain ⟨y,hy,h⟩:=bd_ok h
    obtain ⟨hs,rfl⟩:=qAC h
    obtain ⟨hs,h4⟩:=Bool.and_eq_true_iff.mp hs
    obtain ⟨h2,h3⟩:=Bool.and_eq_true_iff.mp hs
    exact qLG T ho (A.e a x hx) (A.e b y hy) h4 h2 h3
theorem qJh (T:Body X c F k ex W) {r:Rc} (A:AllOk X c F W r) {f:Expr} {es:List Expr} {ks:List Keyword} {p:Pos} {ce:CE} (h:sCall r c f es ks p=some ce):PE X (.Call f es ks p) (tD X.K W (den F ce)):=by
 cases ks with
 | cons _ _=>cases h
 | nil =>
  cases f with
  | Name x q=>exact qJi T A h
  | Attribute a m ap=>obtain ⟨x,hx,h⟩:=bd_ok h;exact qI4 T A hx h
  | _=>cases h
theorem qNT {k:Option Expr} {y:Ky} (h:rdKey k=some y):∃ e,k=some e∧PE X e (L2.tC (L2.kV (kyV y))):=by
 cases k with
 | none=>cases h
 | some e =>
  cases e with
  | Constant kc j pos =>
   cases kc with
   | str s =>
    cases h
    refine ⟨_,rfl,?_⟩
    have e1:(⟨s.cps.toList.toArray⟩:Str)=s:=by simp
    show PE X _ (L2.tC (.str ⟨s.cps.toList.toArray⟩))
    rw [e1]
    exact L2.pe_str
   | int i=>cases h;exact ⟨_,rfl,L2.pe_int⟩
   | _=>cases h
  | _=>cases h
theorem qH8 {r:Rc} (A:AllOk X c F W r) {pos:Pos}:∀ {keys:List (Option Expr)} {values:List Expr} {ks:List Ky} {l:CL},qGy keys=some ks→qGx r c values=some l→keys.length=values.length →
    L2.PPs X pos keys values (trs X F W ks l)∧keys.all (·.isSome)=true∧clLen l=ks.length
  | [],[],_,_,h1,h2,_=>by cases h1;cases h2;exact ⟨L2.pps_nil,rfl,rfl⟩
  | [],_::_,_,_,_,_,h=>by cases h
  | _::_,[],_,_,_,_,h=>by cases h
  | k::keys,e::values,ks,l,h1,h2,h3=>by
    obtain ⟨y,hy,h1⟩:=bd_ok h1
    obtain ⟨ys,hys,h1⟩:=bd_ok h1
    cases h1
    obtain ⟨x,hx,h2⟩:=bd_ok h2
    obtain ⟨l',hl,h2⟩:=bd_ok h2
    cases h2
    obtain ⟨ek,rfl,pk⟩:=qNT (X:=X) hy
    obtain ⟨g1,g2,g3⟩:=qH8 A (pos:=pos) hys hl (Nat.succ.inj h3)
    exact ⟨L2.pps_cons pk (A.e e x hx) g1,by rw [List.all_cons,g2];rfl,congrArg Nat.succ g3⟩
theorem qLa {r:Rc} (A:AllOk X c F W r) {keys:List (Option Expr)} {values:List Expr} {pos:Pos} {ce:CE} (h:sDisp r c keys values=some ce):PE X (.Dict keys values pos) (tD X.K W (den F ce)):=by
 obtain ⟨ks,hk,h⟩:=bd_ok h
 obtain ⟨l,hl,h⟩:=bd_ok h
 obtain ⟨hs,rfl⟩:=qAC h
 obtain ⟨h1,h2⟩:=Bool.and_eq_true_iff.mp hs
 have h1:=of_decide_eq_true h1
 obtain ⟨g1,g2,g3⟩:=qH8 A (pos:=pos) hk hl h1
 refine qNw g1 g2 h1 (of_decide_eq_true h2) g3 fun z=>?_
 subst z
 cases hk
 cases values with
 | nil=>cases hl;exact ⟨rfl,rfl,rfl⟩
 | cons _ _=>cases h1
theorem qLl (T:Body X c F k ex W) {r:Rc} (AA:∀ (X:Cx) (c:Cc) (W:WX),Body X c F k ex W→AllOk X c F W r) {elt:Expr} {q:Gn} {scope:Scope} {pos:Pos} {ce:CE} (h:sComp r c elt scope q=some ce):PE X (.ListComp elt [⟨.Name q.x q.p,q.iter,q.ifs,0⟩] scope pos) (tD X.K W (den F ce)):=by
 have A:=AA X c W T
 obtain ⟨x,px,iter,ifs⟩:=q
 cases ifs with
 | nil =>
  obtain ⟨it,hi,h⟩:=bd_ok h
  obtain ⟨y,hy,h⟩:=bd_ok h
  obtain ⟨hk',rfl⟩:=qAC h
  obtain ⟨hcm,hk⟩:=Bool.and_eq_true_iff.mp hk'
  have K:=qBW T hk
  exact PE.imp (qG4 K (by rw [T.N];exact T.nd) (T.calm hcm) (A.i _ iter it hi).1 (qBB (A.i (.Name x px) iter it hi).2) (tt:=none) fun cl C s3 H3 fp E=>⟨(AA _ _ _ (qBg T hk cl C s3 H3 fp E)).e elt y hy,rfl⟩) fun σ H Q t=>compI (f:=fun env x=>compF (den F y) env x) (mi:=denI F it) (qB8 _) (by
   obtain ⟨ρ,env,h,s,r,p⟩:=t
   rw [den] at p
   exact ⟨ρ,env,h,s,r,p⟩)
 | cons tst ts =>
  cases ts with
  | cons _ _=>cases h
  | nil =>
   obtain ⟨it,hi,h⟩:=bd_ok h
   obtain ⟨z,hz,h⟩:=bd_ok h
   obtain ⟨y,hy,h⟩:=bd_ok h
   obtain ⟨hk',rfl⟩:=qAC h
   obtain ⟨hcm,hk⟩:=Bool.and_eq_true_iff.mp hk'
   have K:=qBW T hk
   exact PE.imp (qG4 K (by rw [T.N];exact T.nd) (T.calm hcm) (A.i _ iter it hi).1 (qBB (A.i (.Name x px) iter it hi).2) (tt:=some (tDT X.K WF (denT F z))) fun cl C s3 H3 fp E=>⟨(AA _ _ _ (qBg T hk cl C s3 H3 fp E)).e elt y hy,tst,rfl,(AA _ _ _ (qBg T hk cl C s3 H3 fp E)).t tst z hz⟩) fun σ H Q t=>compI (f:=fun env x=>qAw (den F y) (denT F z) env x) (mi:=denI F it) (qCZ _ _) (by
    obtain ⟨ρ,env,h,s,r,p⟩:=t
    rw [den] at p
    exact ⟨ρ,env,h,s,r,p⟩)
theorem qBu {x:Str} (h:c.isB x=true):c.glob x=some .blt:=by
 unfold Cc.isB at h
 split at h
 ·assumption
 ·cases h
theorem qLQ {e:Expr} {q:Expr × Expr} (h:isZp e=some q):∃ p u,e=.Call (.Name "zip" p) [q.1,q.2] [] u:=by
 unfold isZp at h
 split at h
 ·split at h
  ·split at h
   ·split at h
    ·obtain ⟨hx,rfl⟩:=qAC h
     rw [decide_eq_true_eq] at hx
     subst hx
     exact ⟨_,_,rfl⟩
    ·cases h
   ·cases h
  ·cases h
 ·cases h
theorem qFr (T:Body X c F k ex W) {r:Rc} (A:AllOk X c F W r) {elts:List Expr} {j:Nat} {p3:Pos} {e:Expr} {ci:CI} (h:sIt2 r c e=some ci):PI X (.Tuple elts j p3) e (tDI X.K W (denI F ci))∧noSet e=true:=by
 unfold sIt2 at h
 cases q:isZp e with
 | none =>
  rw [q] at h
  exact A.i _ _ _ h
 | some z =>
  rw [q] at h
  obtain ⟨x,hx,h⟩:=bd_ok h
  obtain ⟨y,hy,h⟩:=bd_ok h
  obtain ⟨hs,rfl⟩:=qAC h
  obtain ⟨hs,h3⟩:=Bool.and_eq_true_iff.mp hs
  obtain ⟨h1,h2⟩:=Bool.and_eq_true_iff.mp hs
  obtain ⟨_,_,rfl⟩:=qLQ q
  obtain ⟨g1,g2,g3,g4⟩:=T.gl (qBu h3)
  exact ⟨qNp g1 g4 (A.e _ x hx) (A.e _ y hy) (star2 h1 h2) (star1 h2),rfl⟩
theorem qJa (T:Body X c F k ex W) {r:Rc} (AA:∀ (X:Cx) (c:Cc) (W:WX),Body X c F k ex W→AllOk X c F W r) {elt:Expr} {q:Gn2} {scope:Scope} {pos:Pos} {ce:CE} (h:qJp r c elt scope q=some ce):PE X (.ListComp elt [⟨.Tuple [.Name q.x q.p,.Name q.y q.u] q.j q.pt,q.iter,q.ifs,0⟩] scope pos) (tD X.K W (den F ce)):=by
 have A:=AA X c W T
 obtain ⟨x,px,y,py,j,pt,iter,ifs⟩:=q
 cases ifs with
 | nil =>
  obtain ⟨it,hi,h⟩:=bd_ok h
  obtain ⟨z,hz,h⟩:=bd_ok h
  obtain ⟨hk',rfl⟩:=qAC h
  obtain ⟨hcm,hk⟩:=Bool.and_eq_true_iff.mp hk'
  exact PE.imp (qJv T (f:=fun env x=>compF (den F z) env x) (mi:=denI F it) hk (T.calm hcm) (qFr T A hi).1 (qFr (elts:=[.Name x px,.Name y py]) (j:=j) (p3:=pt) T A hi).2 (qB8 _) fun X' B e=>⟨by have:=(AA _ _ _ B).e elt z hz;rw [e] at this;exact this,rfl⟩) fun σ H Q t=>(by
   obtain ⟨ρ,env,h,s,r,p⟩:=t
   rw [den] at p
   exact ⟨ρ,env,h,s,r,p⟩)
 | cons tst ts =>
  cases ts with
  | cons _ _=>cases h
  | nil =>
   obtain ⟨it,hi,h⟩:=bd_ok h
   obtain ⟨w,hw,h⟩:=bd_ok h
   obtain ⟨z,hz,h⟩:=bd_ok h
   obtain ⟨hk',rfl⟩:=qAC h
   obtain ⟨hcm,hk⟩:=Bool.and_eq_true_iff.mp hk'
   exact PE.imp (qJv T (f:=fun env x=>qAw (den F z) (denT F w) env x) (mi:=denI F it) hk (T.calm hcm) (qFr T A hi).1 (qFr (elts:=[.Name x px,.Name y py]) (j:=j) (p3:=pt) T A hi).2 (qCZ _ _) fun X' B e=>⟨by have:=(AA _ _ _ B).e elt z hz;rw [e] at this;exact this,tst,rfl,by have:=(AA _ _ _ B).t tst w hw;rw [e] at this;exact this⟩) fun σ H Q t=>(by
    obtain ⟨ρ,env,h,s,r,p⟩:=t
    rw [den] at p
    exact ⟨ρ,env,h,s,r,p⟩)
theorem qJY (T:Body X c F k ex W) {r:Rc} (AA:∀ (X:Cx) (c:Cc) (W:WX),Body X c F k ex W→AllOk X c F W r) {elt:Expr} {gs:List Comprehension} {scope:Scope} {pos:Pos} {ce:CE} (h:qEE r c elt scope gs=some ce):PE X (.ListComp elt gs scope pos) (tD X.K W (den F ce)):=by
 unfold qEE at h
 split at h
 ·rename_i q hq
  obtain rfl:=qFs hq
  exact qLl T AA h
 ·obtain ⟨q,hq,h⟩:=bd_ok h
  obtain rfl:=qHd hq
  exact qJa T AA h
theorem qJn (T:Body X c F k ex W) {r:Rc} (AA:∀ (X:Cx) (c:Cc) (W:WX),Body X c F k ex W→AllOk X c F W r) (e:Expr) (ce:CE) (h:eS r c e=some ce):PE X e (tD X.K W (den F ce)):=by
 have A:=AA X c W T
 cases e with
 | Constant kc j pos=>exact qJX h
 | Name x pos=>exact qK8 T h
 | BinOp a op b pos =>
  obtain ⟨o,ho,h⟩:=bd_ok h
  obtain ⟨x,hx,h⟩:=bd_ok h
  obtain ⟨y,hy,h⟩:=bd_ok h
  cases h
  exact PE.imp (L2.pe_op (qLq ho) (A.e a x hx) (A.e b y hy)) fun _ _ _ t=>two t
 | UnaryOp op a pos=>exact un_ok A h
 | BoolOp op es pos=>exact qLp A h
 | Compare a ops cs pos=>exact (qDS T A h).1
 | Tuple es j pos=>obtain ⟨l,hl,h⟩:=bd_ok h;cases h;exact d_tup (A.l es l hl).1
 | List es pos=>obtain ⟨l,hl,h⟩:=bd_ok h;cases h;exact d_lst (A.l es l hl).1
 | Subscript a b pos=>exact qMY A h
 | Call f es ks p=>exact qJh T A h
 | Attribute a f pos =>
  obtain ⟨kk,hk,h⟩:=bd_ok h
  obtain ⟨x,hx,h⟩:=bd_ok h
  obtain ⟨hs,rfl⟩:=qAC h
  exact d_fld (T.at' f kk.1 kk.2 hk).1 (A.e a x hx) (qBr hs)
 | Dict keys values pos=>exact qLa A h
 | ListComp elt gs scope pos=>exact qJY T AA h
 | _=>cases h
theorem qN0 (T:Body X c F k ex W) {r:Rc} (A:AllOk X c F W r) {a:Expr} {op:CmpOp} {b:Expr} {ce:CE} {pos:Pos} (h:sCmp r c a op b=some ce) :
    PE X (.Compare a [op] [b] pos) (tD X.K W (den F ce))∧PT X (.Compare a [op] [b] pos) (tDT X.K W (denT F (.val ce))):=by
  obtain ⟨o,ho,h⟩:=bd_ok h
  obtain ⟨x,hx,h⟩:=bd_ok h
  obtain ⟨y,hy,h⟩:=bd_ok h
  obtain ⟨hb,rfl⟩:=qAC h
  have hb:behindInMarks op b=false:=by simpa using hb
  exact ⟨d_cmp (qBX T ho).2 (A.e _ x hx) (A.e _ y hy) hb,qNm (qBX T ho).1 (qBX T ho).2 (A.e _ x hx) (A.e _ y hy) hb⟩
theorem qIj (T:Body X c F k ex W) {r:Rc} (A:AllOk X c F W r) (a:Expr) (op:CmpOp) (b:Expr) (ce:CE) (pos:Pos) (h:cmpS r c a op b=some ce) :
    PE X (.Compare a [op] [b] pos) (tD X.K W (den F ce))∧PT X (.Compare a [op] [b] pos) (tDT X.K W (denT F (.val ce))):=by
  cases op with
  | _=>exact qN0 T A h
theorem b1_ok (T:Body X c F k ex W) {x:Str} {a:Expr} {y ce:CE} {p pos:Pos} (hg:c.glob x=some .blt) (ha:PE X a (tD X.K W (den F y))) (h:sB1 c x a y=some ce):PE X (.Call (.Name x p) [a] [] pos) (tD X.K W (den F ce)):=by
 unfold sB1 at h
 cases q:bi1 x with
 | some o =>
  rw [q] at h
  obtain ⟨hs,rfl⟩:=qAC h
  exact qN2 T q hg ha hs
 | none =>
  rw [q] at h
  obtain ⟨o,ho,h⟩:=bd_ok h
  obtain ⟨hs,rfl⟩:=qAC h
  obtain ⟨h1,h2⟩:=Bool.and_eq_true_iff.mp hs
  exact qLr T h2 ho hg ha h1
theorem qLP (T:Body X c F k ex W) {r:Rc} (A:AllOk X c F W r) {x y:Str} {a:Expr} {ce:CE} {p p2 pos:Pos} (hx:x="isinstance") (hg:c.glob x=some .blt) (h:sIsi r c a y=some ce):PE X (.Call (.Name x p) [a,.Name y p2] [] pos) (tD X.K W (den F ce)):=by
 obtain ⟨z,hz,h⟩:=bd_ok h
 cases q:tyN y with
 | some t =>
  rw [q] at h
  obtain ⟨hs,rfl⟩:=qAC h
  obtain ⟨h1,h2⟩:=Bool.and_eq_true_iff.mp hs
  exact qNb T hx q hg h2 (A.e _ z hz) h1
 | none =>
  rw [q] at h
  cases h
theorem lr_ok (T:Body X c F k ex W) {r:Rc} (A:AllOk X c F W r) {x:Str} {es:List Expr} {ce:CE} {p q pos ppos:Pos} (hg:c.glob x=some .blt) (h:sLr r c x es=some ce):PE X (.Call (.Name x p) [.Call (.Name "range" q) es [] ppos] [] pos) (tD X.K W (den F ce)):=by
 rcases es with _ | ⟨a,_ | ⟨b,_ | ⟨_,_⟩⟩⟩
 ·cases h
 ·obtain ⟨y,hy,h⟩:=bd_ok h
  obtain ⟨hs,rfl⟩:=qAC h
  obtain ⟨h1,hs⟩:=Bool.and_eq_true_iff.mp hs
  obtain ⟨h2,hs⟩:=Bool.and_eq_true_iff.mp hs
  obtain ⟨h3,h4⟩:=Bool.and_eq_true_iff.mp hs
  have e:=of_decide_eq_true h1
  subst e
  obtain ⟨g1,g2,g3,g4⟩:=T.gl hg
  obtain ⟨r1,r2,r3,r4⟩:=T.gl (qBu h3)
  exact d_lr1 (T.calm h2) g1 g4 r1 r4 (A.e a y hy) (star1 h4) (star1 rfl)
 ·obtain ⟨y,hy,h⟩:=bd_ok h
  obtain ⟨z,hz,h⟩:=bd_ok h
  obtain ⟨hs,rfl⟩:=qAC h
  obtain ⟨h1,hs⟩:=Bool.and_eq_true_iff.mp hs
  obtain ⟨h2,hs⟩:=Bool.and_eq_true_iff.mp hs
  obtain ⟨h3,hs⟩:=Bool.and_eq_true_iff.mp hs
  obtain ⟨h4,h5⟩:=Bool.and_eq_true_iff.mp hs
  have e:=of_decide_eq_true h1
  subst e
  obtain ⟨g1,g2,g3,g4⟩:=T.gl hg
  obtain ⟨r1,r2,r3,r4⟩:=T.gl (qBu h3)
  exact d_lr2 (T.calm h2) g1 g4 r1 r4 (A.e a y hy) (A.e b z hz) (star2 h4 h5) (star1 h5) (star1 rfl)
 ·cases h
theorem qMf (T:Body X c F k ex W) {r:Rc} (A:AllOk X c F W r) (x:Str) (es:List Expr) (ce:CE) (p pos:Pos) (hg:c.glob x=some .blt) (h:bS r c x es=some ce):PE X (.Call (.Name x p) es [] pos) (tD X.K W (den F ce)):=by
 rcases es with _ | ⟨a,_ | ⟨b,_ | ⟨d,_ | ⟨_,_⟩⟩⟩⟩
 ·cases h
 ·unfold bS at h
  cases q:isRg a with
  | some es2 =>
   simp only [q] at h
   obtain ⟨p2,q2,rfl⟩:=qHc q
   exact lr_ok T A hg h
  | none =>
   simp only [q] at h
   obtain ⟨y,hy,h⟩:=bd_ok h
   exact b1_ok T hg (A.e _ y hy) h
 ·unfold bS at h
  cases q:decide (x="isinstance") with
  | true =>
   simp only [q] at h
   obtain ⟨y,hy,h⟩:=bd_ok h
   obtain ⟨p2,rfl⟩:=qLS hy
   exact qLP T A (of_decide_eq_true q) hg h
  | false =>
   simp only [q] at h
   obtain ⟨o,ho,h⟩:=bd_ok h
   obtain ⟨u,hu,h⟩:=bd_ok h
   obtain ⟨v,hv,h⟩:=bd_ok h
   obtain ⟨hs,rfl⟩:=qAC h
   obtain ⟨hs,h3⟩:=Bool.and_eq_true_iff.mp hs
   obtain ⟨h1,h2⟩:=Bool.and_eq_true_iff.mp hs
   exact qN1 T h3 ho hg (A.e _ u hu) (A.e _ v hv) h1 h2
 ·cases h
 ·cases h
theorem qMc {r:Rc} (A:AllOk X c F W r) (es:List Expr) (cl:CL) (h:lS r c es=some cl):PA X es (tDL X.K W (denL F cl))∧stars es=true:=by
 cases es with
 | nil=>cases h;exact ⟨qNq (es:=[]),rfl⟩
 | cons e es =>
  obtain ⟨x,hx,h⟩:=bd_ok h
  obtain ⟨l,hl,h⟩:=bd_ok h
  obtain ⟨hs,rfl⟩:=qAC h
  exact ⟨qLe (A.e _ x hx) (A.l _ l hl).1 (qAf hs),by unfold stars;rw [hs,(A.l _ l hl).2];rfl⟩
theorem qMb {r:Rc} (A:AllOk X c F W r) (o:Option Expr) (cp:CP) (h:oS r c o=some cp):PO X o (tDP X.K W (denP F cp)):=by
 cases o with
 | none=>cases h;exact dp_no
 | some e=>obtain ⟨x,hx,h⟩:=bd_ok h;cases h;exact dp_at (A.e _ x hx)
theorem sT_ok {r:Rc} (A:AllOk X c F W r) {e:Expr} {ct:CT} (h:sT r c e=some ct):PT X e (tDT X.K W (denT F ct)):=by
 obtain ⟨x,hx,h⟩:=bd_ok h
 obtain ⟨hs,rfl⟩:=qAC h
 exact qJU (A.e _ x hx) (qG3 hs)
theorem qMZ (T:Body X c F k ex W) {r:Rc} (A:AllOk X c F W r) (e:Expr) (ct:CT) (h:tS r c e=some ct):PT X e (tDT X.K W (denT F ct)):=by
 cases e with
 | UnaryOp op a pos =>
  cases op with
  | Not=>obtain ⟨x,hx,h⟩:=bd_ok h;cases h;exact qNl (A.t _ x hx)
  | _=>cases h
 | BoolOp op es pos=>exact (A.tb _ _ ct pos h).pt
 | Compare a ops cs pos=>obtain ⟨x,hx,h⟩:=bd_ok h;cases h;exact (qDS T A hx).2
 | _=>exact sT_ok A h
theorem qKV {r:Rc} (A:AllOk X c F W r) (op:BoolOp) (es:List Expr) (ct:CT) (pos:Pos) (h:tbS r c op es=some ct):L2.PW X (.BoolOp op es pos) (tDT X.K W (denT F ct)):=by
 cases es with
 | nil=>cases h
 | cons a es =>
  cases es with
  | nil =>
   cases op with
   | And=>exact L2.pw_and1 (A.t _ ct h)
   | Or=>exact L2.pw_or1 (A.t _ ct h)
  | cons b es =>
   obtain ⟨x,hx,h⟩:=bd_ok h
   obtain ⟨y,hy,h⟩:=bd_ok h
   cases op with
   | And=>cases h;exact qNk (A.t _ x hx) (A.tb _ _ y pos hy)
   | Or=>cases h;exact dw_or (A.t _ x hx) (A.tb _ _ y pos hy)
theorem qMd (T:Body X c F k ex W) {r:Rc} (A:AllOk X c F W r) (tg e:Expr) (ci:CI) (h:iS r c e=some ci):PI X tg e (tDI X.K W (denI F ci))∧noSet e=true:=by
 unfold iS at h
 cases q:isRg e with
 | none =>
  rw [q] at h
  obtain ⟨z,hz,h⟩:=bd_ok h
  obtain ⟨hs,rfl⟩:=qAC h
  exact ⟨di_of (A.e _ z hz),hs⟩
 | some es =>
  rw [q] at h
  obtain ⟨p,p2,rfl⟩:=qHc q
  rcases es with _ | ⟨a,_ | ⟨b,_ | ⟨_,_⟩⟩⟩
  ·cases h
  ·obtain ⟨z,hz,h⟩:=bd_ok h
   obtain ⟨hs,rfl⟩:=qAC h
   obtain ⟨h1,h2⟩:=Bool.and_eq_true_iff.mp hs
   obtain ⟨g1,g2,g3,g4⟩:=T.gl (qBu h2)
   exact ⟨qLd g1 g4 (A.e _ z hz) (star1 h1),rfl⟩
  ·obtain ⟨z,hz,h⟩:=bd_ok h
   obtain ⟨z',hz',h⟩:=bd_ok h
   obtain ⟨hs,rfl⟩:=qAC h
   obtain ⟨hs,h2⟩:=Bool.and_eq_true_iff.mp hs
   obtain ⟨h1,h3⟩:=Bool.and_eq_true_iff.mp hs
   obtain ⟨g1,g2,g3,g4⟩:=T.gl (qBu h2)
   exact ⟨qLc g1 g4 (A.e _ z hz) (A.e _ z' hz') (star2 h1 h3) (star1 h3),rfl⟩
  ·cases h
theorem all_e:∀ (n:Nat) (X:Cx) (c:Cc) (W:WX),Body X c F k ex W→AllOk X c F W (rcN n)
  | 0,_,_,_,_=>{
      e:=fun _ _ h=>nomatch h
      cmp:=fun _ _ _ _ _ h=>nomatch h
      b:=fun _ _ _ _ _ _ h=>nomatch h
      l:=fun _ _ h=>nomatch h
      o:=fun _ _ h=>nomatch h
      t:=fun _ _ h=>nomatch h
      tb:=fun _ _ _ _ h=>nomatch h
      i:=fun _ _ _ h=>nomatch h }
  | n+1,X,c,W,T =>
    have A:=all_e n X c W T
    ⟨qJn T (all_e n),qIj T A,qMf T A,qMc A,qMb A,qMZ T A,qKV A,qMd T A⟩
theorem qCT {e:Expr} {t:Option Expr} {n:Nat} {env:PySem.Env} (h:qEP e=true):swapsWith e t n env=pure false:=by
 cases e <;> first | rfl | cases h
theorem qIU {o i:Expr} {pos:Pos} {env:PySem.Env} (h:qDi i=true) (v:Value):assign (.Subscript o i pos) env v=(do
      let ov ← holding [v] (eval o env)
      let iv ← holding [v,ov] (eval i env)
      standAt pos
      holding [v,ov,iv] (setItem ov iv v)
      release [v,ov,iv] []):=by
  cases i <;> first | rfl | cases h
theorem qIE {α:Type} {K:PySem.W.Frag} {w:W1} {rep:List Addr→Hp→α→Prop} {ρ:List Addr} {H:Hp} {r:R α} (p:Post K w rep ρ H r.calm) (w':W1):Post K w' rep ρ H r:=by
 cases r with
 | ok a h=>exact p
 | exc _ _=>exact False.elim p
 | bad=>exact p
theorem qMm {t:TG} {g:L2.TG} {tg iter:Expr} {ci:CI} {body:List Stmt} {cb:CS} {pos:Pos} (ht:tgOk X.K t g) (hc:X.calm=true) (hi:PI X.nox tg iter (tDI X.K WF (denI F ci))) (hg:PG X.nox tg g) (hb:PSs X.nox body (tDS X.K WF (denS F B cb)))
    (hs:∀ x,foldedSetIterable iter X.env x=pure x):PS X (.For tg iter body [] pos) (tDS X.K W (denS F B (.fori t ci cb))):=PS.imp (PS.nox (L2.ps_for PassesOwn.never hc hi hg hb hs)) fun E σ H q=>by
  obtain ⟨ρ,env,h,s,r,p⟩:=q
  rw [denS] at p
  refine ⟨ρ,env,h,s,r,qIE (PostS.ofR s p fun ρ1 h1 it H1 e1 r1 q J hJ=>?_) _⟩
  cases it with
  | row xs =>
    obtain ⟨go,yl,sp⟩:=hJ
    exact qJF ht (s.mono e1) r1 go yl sp q
  | pairs xs=>exact (show False from q).elim
  | live k =>
    obtain ⟨a,ha,rfl⟩:=hJ
    exact qHV ht (s.mono e1) r1 ha q
theorem qMj {i:Nat} {y:Str} {py spos:Pos} {e:Expr} {ce:CE} (T:BodyS X c F k ex W) (hi:c.own y=some i) (hc:qJ1 e=true) {n:Nat} (he:eS (rcN n) c e=some ce):PS X (.Assign [.Name y py] e spos) (tDS X.K W (denS F B (.set (.nm i) ce))):=by
 have AA:=all_e (F:=F) (k:=k) (ex:=ex) n
 have A:=AA X c W T.toBody
 obtain ⟨h1,h2⟩:=T.loc hi
 have pe:=qJn T.toBody (all_e n) e ce he
 have key:∀ {σ:L2.St} {H:Hp} {E:Ends},tDS X.K W (denS F B (.set (.nm i) ce)) E σ H→tD X.K W (den F ce) σ H fun v H'=>E.nx (σ.set i (some v)) H':=fun {σ H E} t=>by
  obtain ⟨ρ,env,h,s,r,p⟩:=t
  rw [denS] at p
  exact ⟨ρ,env,h,s,r,PostS.ofR s p fun ρ' h' d H' e' r' q v hv=>q ρ' H' _ (Step.refl _ _) r' ((s.mono e').set i hv)⟩
 cases e with
 | ListComp elt gs scope pos =>
  have he:qEE (rcN n) c elt scope gs=some ce:=he
  have hc':(match isGen gs with | some q=>decide (q.ifs.length≤1) | none=>false)=true:=hc
  obtain ⟨g,hg⟩:∃ g,isGen gs=some g:=by
   cases z:isGen gs with
   | none=>rw [z] at hc';cases hc'
   | some g=>exact ⟨g,rfl⟩
  unfold qEE at he
  rw [hg] at he
  have he:sComp (rcN n) c elt scope g=some ce:=he
  clear hc'
  obtain rfl:=qFs hg
  obtain ⟨x,px,iter,ifs⟩:=g
  have hsw:swapsWith (.ListComp elt [⟨.Name x px,iter,ifs,0⟩] scope pos) (some (.Name y py)) spos.line X.env=pure (X.env.blockKind == .function&&X.env.kindOf y == some .local&&py.line == (Expr.ListComp elt [⟨.Name x px,iter,ifs,0⟩] scope pos).pos.line&&!(scope.names.any fun (n,k)=>n == y&&(k == .local || k == .cell))):=rfl
  cases q:(X.env.blockKind == .function&&X.env.kindOf y == some .local&&py.line == (Expr.ListComp elt [⟨.Name x px,iter,ifs,0⟩] scope pos).pos.line&&!(scope.names.any fun (n,k)=>n == y&&(k == .local || k == .cell))) with
  | false =>
   rw [q] at hsw
   exact s_set T.nd' h1 h2 pe hsw (.inl (T.fn _))
  | true =>
   rw [q] at hsw
   simp only [Bool.and_eq_true] at q
   have hk:X.env.scope.names.lookup y=some .local:=(show X.env.kindOf y=some .local by simpa using q.1.1.2)
   cases ifs with
   | nil =>
    obtain ⟨it,hit,he⟩:=bd_ok he
    obtain ⟨z,hz,he⟩:=bd_ok he
    obtain ⟨hko',rfl⟩:=qAC he
    obtain ⟨hcm,hko⟩:=Bool.and_eq_true_iff.mp hko'
    have K:=qBW T.toBody hko
    refine PS.imp (qG0 K T.nd' (T.calm hcm) (A.i _ iter it hit).1 (qBB (A.i (.Name x px) iter it hit).2) (tt:=none) (fun cl C s3 H3 fp E=>⟨(AA _ _ _ (qBg T.toBody hko cl C s3 H3 fp E)).e elt z hz,rfl⟩) h1 hk hsw) fun E σ H t=>compI (f:=fun env x=>compF (den F z) env x) (mi:=denI F it) (qB8 _) ?_
    obtain ⟨ρ,env,h,s,r,p⟩:=key t
    rw [den] at p
    exact ⟨ρ,env,h,s,r,p⟩
   | cons tst ts =>
    cases ts with
    | cons _ _=>cases he
    | nil =>
     obtain ⟨it,hit,he⟩:=bd_ok he
     obtain ⟨zt,hzt,he⟩:=bd_ok he
     obtain ⟨z,hz,he⟩:=bd_ok he
     obtain ⟨hko',rfl⟩:=qAC he
     obtain ⟨hcm,hko⟩:=Bool.and_eq_true_iff.mp hko'
     have K:=qBW T.toBody hko
     refine PS.imp (qG0 K T.nd' (T.calm hcm) (A.i _ iter it hit).1 (qBB (A.i (.Name x px) iter it hit).2) (tt:=some (tDT X.K WF (denT F zt))) (fun cl C s3 H3 fp E=>⟨(AA _ _ _ (qBg T.toBody hko cl C s3 H3 fp E)).e elt z hz,tst,rfl,(AA _ _ _ (qBg T.toBody hko cl C s3 H3 fp E)).t tst zt hzt⟩) h1 hk hsw) fun E σ H t=>compI (f:=fun env x=>qAw (den F z) (denT F zt) env x) (mi:=denI F it) (qCZ _ _) ?_
     obtain ⟨ρ,env,h,s,r,p⟩:=key t
     rw [den] at p
     exact ⟨ρ,env,h,s,r,p⟩
 | _=>cases hc
theorem qFf (T:BodyS X c F k ex W):BodyS X.nox c.still F k ex WF where
 N:=T.N
 nd:=T.nd
 sc:=T.sc
 calm:=T.calm
 room:=T.room
 hu:=T.hu
 glob:=fun x g h=>by
  have:=T.glob x g h
  cases g <;> exact this
 xc:=fun pins σ H s0 e s' I x=>by
  obtain ⟨_,_,_,_,_,_,_,_,_,_,_,_,_,_,_,_,z⟩:=x
  exact False.elim z
 fn:=T.fn
 stk:=T.stk
 xr:=fun z=>by cases z
 xm:=T.xm
 xq:=T.xq
 xv:=T.xv
 xg:=T.xg
 mt:=T.mt
 at':=T.at'
 noex:=T.noex
 xcl:=T.xcl
structure AllS (F:Nat→List D→M D) (k B:Nat) (ex:Nat→Option Addr) (r:Rs):Prop where
 s:∀ (X:Cx) (c:Cc) (W:WX),BodyS X c F k ex W→∀ st cs,r.s c st=some cs→PS X st (tDS X.K W (denS F B cs))
 ss:∀ (X:Cx) (c:Cc) (W:WX),BodyS X c F k ex W→∀ st cs,r.ss c st=some cs→PSs X st (tDS X.K W (denS F B cs))
 h:∀ (X:Cx) (c:Cc) (W:WX),BodyS X c F k ex W→∀ hs ch,r.h c hs=some ch→HOf X F B ex hs ch
theorem qMg (T:BodyS X c F k ex W) {n:Nat} {t e:Expr} {spos:Pos} {cs:CS} (h:sSet (rcN n) c e t=some cs):PS X (.Assign [t] e spos) (tDS X.K W (denS F B cs)):=by
 have A:=all_e (F:=F) (k:=k) (ex:=ex) n X c W T.toBody
 cases t with
 | Name x py =>
  obtain ⟨i,hi,h⟩:=bd_ok h
  obtain ⟨y,hy,h⟩:=bd_ok h
  obtain ⟨hn,rfl⟩:=qAC h
  obtain ⟨h1,h2⟩:=T.loc hi
  rcases Bool.or_eq_true_iff.mp hn with hn | hn
  ·exact s_set T.nd' h1 h2 (A.e _ y hy) (qCT hn) (.inl (T.fn _))
  ·cases n with
   | zero=>cases hy
   | succ n=>exact qMj T hi hn hy
 | Attribute o f p =>
  obtain ⟨kk,hk,h⟩:=bd_ok h
  obtain ⟨x,hx,h⟩:=bd_ok h
  obtain ⟨y,hy,h⟩:=bd_ok h
  obtain ⟨hn,rfl⟩:=qAC h
  obtain ⟨k1,k2,k3⟩:=T.at' _ kk.1 kk.2 hk
  exact qMi k1 k2 (fun c C h1 h2=>k3 c C h1 h2) (A.e _ x hx) (A.e _ y hy) (qCT hn)
 | Subscript o i p =>
  obtain ⟨x,hx,h⟩:=bd_ok h
  obtain ⟨z,hz,h⟩:=bd_ok h
  obtain ⟨y,hy,h⟩:=bd_ok h
  obtain ⟨hn,rfl⟩:=qAC h
  obtain ⟨h1,h2⟩:=Bool.and_eq_true_iff.mp hn
  exact qKe (A.e _ x hx) (A.e _ z hz) (A.e _ y hy) (qIU h2) (by unfold swapsWithSole;exact qCT h1) rfl
 | _=>cases h
theorem tg_of (T:BodyS X c F k ex W) (hc:X.calm=true) {tg:Expr} {t:TG} (h:isTg c tg=some t):∃ g,tgOk X.K t g∧PG X.nox tg g:=by
 cases tg with
 | Name x p =>
  obtain ⟨i,hi,h⟩:=bd_ok h
  cases h
  obtain ⟨h1,h2⟩:=T.loc hi
  exact ⟨_,tg_nm i,L2.pg_name (X:=X.nox) T.nd' h1 h2 (.inl (T.fn _))⟩
 | _=>cases h
theorem qNg {n:Nat} (S:AllS F k B ex (rsN n)) (X:Cx) (c:Cc) (W:WX) (T:BodyS X c F k ex W) {tg it:Expr} {a:List Stmt} {pos:Pos} {t:TG} {z:CI} {y:CS} (ht:isTg c tg=some t) (hz:(rcN n).i c it=some z) (hy:(rsN n).ss c.still a=some y) (hcm:c.calm=true):PS X (.For tg it a [] pos) (tDS X.K W (denS F B (.fori t z y))):=by
 have T':=qFf T
 have A':=all_e (k:=k) (ex:=ex) n X.nox c WF { T'.toBody with }
 obtain ⟨g,g1,g2⟩:=tg_of T (T.calm hcm) ht
 exact qMm g1 (T.calm hcm) (A'.i _ _ z hz).1 g2 (S.ss _ _ _ T' _ y hy) (qBB (A'.i (.Name "" ⟨0,0,0,0⟩) _ z hz).2)
theorem qMa {n:Nat} (S:AllS F k B ex (rsN n)) (X:Cx) (c:Cc) (W:WX) (T:BodyS X c F k ex W) (st:Stmt) (cs:CS) (h:stS (rcN n) (rsN n) c st=some cs):PS X st (tDS X.K W (denS F B cs)):=by
 have A:=all_e (k:=k) (ex:=ex) n X c W T.toBody
 cases st with
 | Assign ts e spos =>
  rcases ts with _ | ⟨t,_ | ⟨_,_⟩⟩
  ·cases h
  ·exact qMg T h
  ·cases h
 | Expr e pos =>
  obtain ⟨y,hy,h⟩:=bd_ok h
  obtain ⟨hn,rfl⟩:=qAC h
  exact s_exp (A.e _ y hy) (qCT hn)
 | Return v pos =>
  cases v with
  | none=>cases h;exact qMk
  | some e=>obtain ⟨y,hy,h⟩:=bd_ok h;cases h;exact s_ret (A.e _ y hy)
 | Pass pos=>cases h;exact qMl
 | Break pos=>cases h;exact s_brk
 | Continue pos=>cases h;exact s_cnt
 | If t a b pos =>
  obtain ⟨z,hz,h⟩:=bd_ok h
  obtain ⟨x,hx,h⟩:=bd_ok h
  obtain ⟨y,hy,h⟩:=bd_ok h
  cases h
  exact s_if (A.t _ z hz) (S.ss X c W T _ x hx) (S.ss X c W T _ y hy)
 | While t a els pos =>
  cases els with
  | cons _ _=>cases h
  | nil =>
   obtain ⟨z,hz,h⟩:=bd_ok h
   obtain ⟨x,hx,h⟩:=bd_ok h
   cases h
   have T':=qFf T
   exact qKb ((all_e (k:=k) (ex:=ex) n _ _ _ T'.toBody).t _ z hz) (S.ss _ _ _ T' _ x hx)
 | For tg it a els pos =>
  cases els with
  | cons _ _=>cases h
  | nil =>
   obtain ⟨t,ht,h⟩:=bd_ok h
   obtain ⟨z,hz,h⟩:=bd_ok h
   obtain ⟨y,hy,h⟩:=bd_ok h
   obtain ⟨hcm,rfl⟩:=qAC h
   exact qNg S X c W T ht hz hy hcm
 | _=>cases h
theorem s_opq {st:Stmt}:PS X st (tDS X.K W (denS F B .opq)):=fun pins s σ H D I t=>by
 obtain ⟨ρ,env,h,st,r,p⟩:=t
 rw [denS] at p
 exact False.elim p
theorem s_get {n:Nat} (S:AllS F k B ex (rsN n)) {X:Cx} {c:Cc} {W:WX} (T:BodyS X c F k ex W) (st:Stmt):PS X st (tDS X.K W (denS F B (((rsN n).s c st).getD .opq))):=by
 cases q:(rsN n).s c st with
 | none=>exact s_opq
 | some x=>exact S.s X c W T st x q
theorem s_one {st:Stmt} {a:CS} (h1:PS X st (tDS X.K W (denS F B a))):PSs X [st] (tDS X.K W (denS F B a)):=L2.pss_one h1
theorem qKW {n:Nat} (S:AllS F k B ex (rsN n)) (X:Cx) (c:Cc) (W:WX) (T:BodyS X c F k ex W) (st:List Stmt) (cs:CS) (h:ssS (rsN n) c st=some cs):PSs X st (tDS X.K W (denS F B cs)):=by
 cases st with
 | nil=>cases h;exact s_nil
 | cons s r =>
  cases r with
  | nil=>cases h;exact s_one (s_get S T _)
  | cons t r=>obtain ⟨y,hy,h⟩:=bd_ok h;cases h;exact qMn (s_get S T _) (S.ss X c W T _ y hy)
theorem qMe {n:Nat} (S:AllS F k B ex (rsN n)) (X:Cx) (c:Cc) (W:WX) (T:BodyS X c F k ex W) (hs:List ExceptHandler) (ch:CH) (h:hS (rsN n) c hs=some ch):HOf X F B ex hs ch:=by
 cases h
theorem all_s:∀ n,AllS F k B ex (rsN n)
 | 0=>{ s:=fun _ _ _ _ _ _ h=>(nomatch h),ss:=fun _ _ _ _ _ _ h=>(nomatch h),h:=fun _ _ _ _ _ _ h=>(nomatch h) }
 | n+1 =>
  have S:=all_s n
  ⟨qMa S,qKW S,qMe S⟩
end
end Fy
set_option Elab.async false
set_option linter.all false
set_option maxRecDepth 100000
set_option maxHeartbeats 4000000
namespace Fy
open PySem PySem.Spec PyProof.Rows
open L2 (XK frs V Hp HO VK TE TT TA TS TI Cx Inv RelV Vals SqL SqT Rd upd qAA qAB PE PT PA PS PSs EP OpR CallR IxR MtR SlR PO TO PI PG PIE Turn FpOk Ends)
structure Df where
 name:Str
 qual:Str
 st:Stmt
 N:List Str
 ps:List Str
structure DfOk (G:List (Str × GK)) (xs:List (Nat × List Nat)) (Mt:List (Str × Nat × List (Nat × Nat))) (At:List (Str × Nat × List Nat)) (d:Df) (f:Fn):Prop where
 sc:L2.FnScope d.N d.ps (L2.defScope d.st)
 cp:cSs ⟨d.N,L2.defScope d.st,G,xs,true,true,Mt,At⟩ 100 (L2.defBody d.st)=some f.body
 ar:f.ar=d.ps.length
 sl:f.sl=d.N.length
noncomputable def DfIn (K:PySem.W.Frag) (d:Df) (f:Addr) (fd:FuncData):Prop:=L2.Fun K d.name d.qual d.st f fd∧L2.Binds K fd d.ps []
noncomputable def ConIn (mg:Str→Option Value) (x:Str) (d:D):Prop:=∃ v u,mg x=some u∧RelV v u∧∀ K ρ H,RepV K ρ H d v
noncomputable def exOf (K:PySem.W.Frag) (xl:List Nat) (c:Nat):Option Addr:=if xl.contains c then (match PySem.W.nsIn K mainGlobals (nmOf c) with | some (some (.ref C))=>some C | _=>none) else none
theorem qBV {K:PySem.W.Frag} {xl:List Nat} {c:Nat} {C:Addr} (h:exOf K xl c=some C):c∈xl∧ClsAt K c C:=by
 unfold exOf at h
 split at h
 ·rename_i q
  refine ⟨by simpa using q,?_⟩
  split at h
  ·rename_i C' z
   cases h
   exact z
  ·cases h
 ·cases h
theorem qDw {K:PySem.W.Frag} {xl:List Nat} {c:Nat} {C:Addr} {x:Str} (hc:xl.contains c=true) (hx:nmOf c=x) (h:PySem.W.nsIn K mainGlobals x=some (some (.ref C))):exOf K xl c=some C:=by
 unfold exOf
 rw [if_pos hc,hx,h]
theorem qEf {K:PySem.W.Frag} {c:Nat} {C D:Addr} {x:Str} (h:ClsAt K c D) (hx:nmOf c=x) (ha:PySem.W.nsIn K mainGlobals x=some (some (.ref C))):D=C:=by
 unfold ClsAt at h
 rw [hx,ha] at h
 cases h
 rfl
noncomputable def GlP (K:PySem.W.Frag) (mg:Str→Option Value) (xl:List Nat) (ds:List Df) (x:Str) (g:GK):Prop:=match g with
 | .fn i=>∃ d f fd,ds[i]?=some d∧mg x=some (.ref f)∧DfIn K d f fd
 | .con d=>ConIn mg x d
 | .blt=>mg x=none
 | .exc c=>∃ C,mg x=some (.ref C)∧exOf K xl c=some C∧isXC K C=true
 | .cls c i=>∃ C d f fd,mg x=some (.ref C)∧ClsAt K c C∧L2.Cls K C∧L2.Mk K C f∧ds[i]?=some d∧DfIn K d f fd
noncomputable def MtP (K:PySem.W.Frag) (ds:List Df) (m:Str) (mk:Nat) (tb:List (Nat × Nat)):Prop:=m=nmOf mk∧mk<256 ^ 60∧∀ cc fi C,tbN tb cc=some fi→ClsAt K cc C→L2.Cls K C∧∃ d f fd,L2.Meth K C m f∧ds[fi]?=some d∧DfIn K d f fd
noncomputable def AtP (K:PySem.W.Frag) (f:Str) (kk:Nat) (cs:List Nat):Prop:=f=nmOf kk∧kk<256 ^ 60∧∀ cc C,cs.contains cc=true→ClsAt K cc C→L2.NoAttr K C (nmOf kk)
noncomputable def AllP {α:Type} (P:α→Prop):List α→Prop
 | []=>True
 | a::r=>P a∧AllP P r
theorem AllP.of {α:Type} {P:α→Prop} {l:List α} (h:AllP P l) {a:α} (ha:a∈l):P a:=by
 induction l with
 | nil=>cases ha
 | cons b r ih =>
  rcases List.mem_cons.mp ha with e | e
  ·rw [e];exact h.1
  ·exact ih h.2 e
noncomputable def AllZ {α β:Type} (P:α→β→Prop):List α→List β→Prop
 | a::r,b::q=>P a b∧AllZ P r q
 | _,_=>True
theorem AllZ.of {α β:Type} {P:α→β→Prop} {l:List α} {m:List β} (h:AllZ P l m) {i:Nat} {a:α} {b:β} (ha:l[i]?=some a) (hb:m[i]?=some b):P a b:=by
 induction l generalizing m i with
 | nil=>cases ha
 | cons x r ih =>
  cases m with
  | nil=>cases hb
  | cons y q =>
   cases i with
   | zero=>cases ha;cases hb;exact h.1
   | succ i=>exact ih h.2 (by simpa using ha) (by simpa using hb)
noncomputable def qAM (d:Df):Prop:=∀ (kV doc pm:Value) (an:Option Addr) (cdv ct:Value) (us:List Value),us.length=d.ps.length→bindArgs (PySem.W.fnOf d.name d.qual (L2.defArgs d.st) (L2.defBody d.st) (L2.defScope d.st) .none kV doc pm an cdv ct) ⟨us,[]⟩=pure (d.ps.zip us)
section
variable {P:List Value→Prop}
theorem ar1 (h:∀ a,P [a]):∀ us:List Value,us.length=1→P us
 | [a],_=>h a
theorem ar2 (h:∀ a b,P [a,b]):∀ us:List Value,us.length=2→P us
 | [a,b],_=>h a b
theorem ar3 (h:∀ a b c,P [a,b,c]):∀ us:List Value,us.length=3→P us
 | [a,b,c],_=>h a b c
theorem ar4 (h:∀ a b c d,P [a,b,c,d]):∀ us:List Value,us.length=4→P us
 | [a,b,c,d],_=>h a b c d
theorem ar5 (h:∀ a b c d e,P [a,b,c,d,e]):∀ us:List Value,us.length=5→P us
 | [a,b,c,d,e],_=>h a b c d e
end
theorem df_mk {K:PySem.W.Frag} {d:Df} {f:Addr} {oc:Value} {od an:Option Addr} {osl:Array (Option Value)} {kV doc pm cdv ct:Value} (p:qAM d)
    (l:K.lookup f=some ⟨oc,od,.func (PySem.W.fnOf d.name d.qual (L2.defArgs d.st) (L2.defBody d.st) (L2.defScope d.st) .none kV doc pm an cdv ct),osl⟩) (c:PySem.W.codeIn K cdv d.qual=true) (k:PySem.W.keepIn K (.ref f)=true) :
    ∃ fd,DfIn K d f fd:=⟨_,L2.fun_mk l c k,(L2.fun_mk l c k).binds p⟩
section
variable {K:PySem.W.Frag} {mg:Str→Option Value} {xl:List Nat} {ds:List Df} {h:Heap} {x:Str}
theorem gl_fn {i:Nat} {d:Df} {f:Addr} (X:K.In h) (Gm:h.Ns mainGlobals mg) (hd:ds[i]?=some d) (a:PySem.W.nsIn K mainGlobals x=some (some (.ref f))) (D:∃ fd,DfIn K d f fd):GlP K mg xl ds x (.fn i):=by
 obtain ⟨fd,D⟩:=D
 exact ⟨d,f,fd,hd,PySem.W.mg_of X Gm a,D⟩
theorem qNf {i c:Nat} {C f:Addr} {d:Df} (X:K.In h) (Gm:h.Ns mainGlobals mg) (hd:ds[i]?=some d) (hx:nmOf c=x) (a:PySem.W.nsIn K mainGlobals x=some (some (.ref C))) (q:L2.Cls K C) (m:L2.Mk K C f) (D:∃ fd,DfIn K d f fd):GlP K mg xl ds x (.cls c i):=by
 obtain ⟨fd,D⟩:=D
 exact ⟨C,d,f,fd,PySem.W.mg_of X Gm a,(by unfold ClsAt;rw [hx];exact a),q,m,hd,D⟩
theorem qJ4 {c:Nat} {C:Addr} (X:K.In h) (Gm:h.Ns mainGlobals mg) (hc:xl.contains c=true) (hx:nmOf c=x) (a:PySem.W.nsIn K mainGlobals x=some (some (.ref C))) (e:isXC K C=true):GlP K mg xl ds x (.exc c) :=
 ⟨C,PySem.W.mg_of X Gm a,qDw hc hx a,e⟩
theorem qBh {n:Int} {t:Tok} (X:K.In h) (Gm:h.Ns mainGlobals mg) (a:PySem.W.nsIn K mainGlobals x=some (some (.int n t))):GlP K mg xl ds x (.con (.int n)):=⟨.int _,_,PySem.W.mg_of X Gm a,⟨_,rfl⟩,fun _ _ _=>rfl⟩
theorem qAk (X:K.In h) (Gm:h.Ns mainGlobals mg) (a:PySem.W.nsIn K mainGlobals x=some none):GlP K mg xl ds x .blt:=PySem.W.mg_none_of X Gm a
end
theorem qBA {K:PySem.W.Frag} {ds:List Df} {m x:Str} {mk c i:Nat} {C f:Addr} {d:Df} (h1:nmOf mk=m) (h2:mk<256 ^ 60) (hx:nmOf c=x) (hn:PySem.W.nsIn K mainGlobals x=some (some (.ref C))) (h3:L2.Cls K C) (hm:L2.Meth K C m f) (hd:ds[i]?=some d) (D:∃ fd,DfIn K d f fd):MtP K ds m mk [(c,i)] :=
 ⟨h1.symm,h2,fun cc fi D ht hD=>by
  unfold tbN at ht
  split at ht
  ·rename_i q
   have q:c=cc:=by simpa using q
   subst q
   cases ht
   cases qEf hD hx hn
   obtain ⟨fd,D⟩:=D
   exact ⟨h3,d,f,fd,hm,hd,D⟩
  ·cases ht⟩
theorem qIT {K:PySem.W.Frag} {f x:Str} {kk c:Nat} {C:Addr} (h1:nmOf kk=f) (h2:kk<256 ^ 60) (hx:nmOf c=x) (hn:PySem.W.nsIn K mainGlobals x=some (some (.ref C))) (h3:PySem.W.findIn K (.ref C) f=some none):AtP K f kk [c] :=
 ⟨h1.symm,h2,fun cc D hc hD=>by
  simp only [List.contains_cons,List.contains_nil,Bool.or_false,beq_iff_eq] at hc
  subst hc
  cases qEf hD hx hn
  unfold L2.NoAttr
  rw [h1]
  exact h3⟩
structure Top (K:PySem.W.Frag) (mg:Str→Option Value) (G:List (Str × GK)) (xs:List (Nat × List Nat)) (xl:List Nat) (Mt:List (Str × Nat × List (Nat × Nat))) (At:List (Str × Nat × List Nat)) (ds:List Df) (fns:List Fn):Prop where
 ok:∀ (i:Nat) (d:Df) (f:Fn),ds[i]?=some d→fns[i]?=some f→DfOk G xs Mt At d f
 len:ds.length=fns.length
 gl:∀ x g,(x,g)∈G→GlP K mg xl ds x g
 mt:∀ m mk tb,(m,mk,tb)∈Mt→MtP K ds m mk tb
 at':∀ f kk cs,(f,kk,cs)∈At→AtP K f kk cs
 xm:∀ (i:Nat) (cs:List Nat) (C:Addr) (j:Nat) (D:Addr),(i,cs)∈xs→exOf K xl i=some C→exOf K xl j=some D→PySem.W.exmOne K (.ref D) (.ref C)=some (cs.contains j)
 xk:∀ (i:Nat) (cs:List Nat),(i,cs)∈xs→xl.contains i=true→cs.contains i=true
 xl1:∀ (cs:List Nat),(1,cs)∈xs→cs=xl
 xv:∀ (cs:List Nat) (j:Nat) (D:Addr),(0,cs)∈xs→exOf K xl j=some D→PySem.W.exmOne K (.ref D) (.type "ValueError")=some (cs.contains j)
 xg:∀ (j:Nat) (D:Addr),exOf K xl j=some D→XGet K D
theorem lookup_mem' {α β:Type} [BEq α] [LawfulBEq α] {l:List (α × β)} {x:α} {g:β} (h:l.lookup x=some g):(x,g)∈l:=by
 induction l with
 | nil=>cases h
 | cons p l ih =>
  obtain ⟨a,b⟩:=p
  rw [List.lookup_cons] at h
  cases q:(x == a) with
  | true =>
   rw [q] at h
   cases h
   have:x=a:=by simpa using q
   subst this
   exact List.mem_cons_self ..
  | false =>
   rw [q] at h
   exact List.mem_cons_of_mem _ (ih h)
theorem PostS.fin {K:PySem.W.Frag} {Q:VK} {w:W1} {ρ:List Addr} {H:Hp} {r:SR} (p:PostV K w Q ρ H (fin r)):PostS K (fun c _ H'=>w c H') { nx:=fun _ H'=>Q .non H',rt:=Q } ρ H r:=by
 cases r with
 | nx e h=>exact fun ρ' H' st e' r' s'=>p ρ' H' e' r' .non rfl
 | rt d h=>exact fun ρ' H' v e' r' hv=>p ρ' H' e' r' v hv
 | bk e h=>exact False.elim p
 | ct e h=>exact False.elim p
 | exc c e h=>exact fun ρ' H' st e' r' s'=>p ρ' H' e' r'
 | bad=>exact False.elim p
theorem PSs.wish {X:Cx} {E:Value→Shared→Prop} {st:List Stmt} {t:TS} (h:PSs (X.wish E) st t) (hE:∀ e s,E e s→X.xe e s):PSs X st t:=fun pins s σ H D I hw =>
 wpAny_mono (h pins s σ H D (I.wish _) hw) (fun _ _ q=>q.unwish) hE
theorem RepS.start {K:PySem.W.Frag} {ρ:List Addr} {H:Hp} {N:List Str} {ds:List D} {vs:List V} {n:Nat} (l:RepL K ρ H ds vs) (hn:n=N.length-vs.length):RepS K ρ H (ds.map some++List.replicate n none) (L2.start N vs):=by
 subst hn
 unfold L2.start
 refine ⟨by simp [l.length],fun i d hi=>?_⟩
 by_cases hlt:i<ds.length
 ·rw [List.getElem?_append_left (by simpa using hlt),List.getElem?_map] at hi
  cases q:ds[i]? with
  | none=>rw [q] at hi;cases hi
  | some d' =>
   rw [q] at hi
   cases hi
   obtain ⟨v,h1,h2⟩:=l.get q
   refine ⟨v,?_,h2⟩
   rw [List.getElem?_append_left (by simpa [l.length] using hlt),List.getElem?_map,h1]
   rfl
 ·rw [List.getElem?_append_right (by simpa using hlt),List.getElem?_replicate] at hi
  split at hi <;> cases hi
noncomputable def bodyE (X0:Cx) (ex:Nat→Option Addr) (E:XK):Value→Shared→Prop:=fun e s' =>
 (∃ pins σ H1 s1,Inv X0 pins σ H1 s1∧CXD X0.prog X0.w ex X0.stack H1 s1 (fun _ co H'=>∃ c,co=some c∧∀ e,E e (some c) H') e s') ∨
 (∃ pins σ H1 s1 a args h' c C,ex c=some C∧Inv X0 pins σ H1 s1∧Heap.MadeExcOf s1.heap h' a (.ref C) args∧(∀ e,E e (some c) H1)∧e=.ref a∧s'={ s1 with heap:=h' })
theorem qFv {P:Program} {w:World} {K:PySem.W.Frag} {mg:Str→Option Value} {base:Heap} {G:List (Str × GK)} {xs:List (Nat × List Nat)} {xl:List Nat} {Mt:List (Str × Nat × List (Nat × Nat))} {At:List (Str × Nat × List Nat)} {ds:List Df} {fns:List Fn} {B:Nat} (T:Top K mg G xs xl Mt At ds fns) :
    ∀ (n i:Nat) (d:Df) (f:Addr) (fd:FuncData),ds[i]?=some d→L2.Fun K d.name d.qual d.st f fd→L2.FnOk P w K mg base (CXD P w (exOf K xl)) (2*n) f fd d.ps (spD K (callN fns B n i))
  | 0,i,d,f,fd,hi,hf=>by
    refine ⟨fun vs H Q E h=>?_,fun A outer s H args us vs Q E hr he hb hv h=>?_⟩
    · obtain ⟨ρ,h0,ds,_,_,p⟩:=h
      exact False.elim p
    · obtain ⟨ρ,h0,ds,_,_,p⟩:=h
      exact False.elim p
  | n+1,i,d,f,fd,hi,hf=>by
    have hil:=(List.getElem?_eq_some_iff.mp hi).1
    have hfi:fns[i]?=some (fns[i]'(by rw [← T.len];exact hil)):=List.getElem?_eq_getElem _
    generalize fns[i]'(by rw [← T.len];exact hil)=fn at hfi
    have O:=T.ok i d fn hi hfi
    have key:∀ {ds:List D} {h:AH},callN fns B (n+1) i ds h=runFn (callN fns B n) B fn ds h:=by
      intro ds h
      rw [callN,hfi]
    have arity:∀ {w:W1} {Q:VK} {ρ:List Addr} {H:Hp} {ds:List D} {h:AH},PostV K w Q ρ H (callN fns B (n+1) i ds h)→ds.length=fn.ar∧PostV K w Q ρ H (fin (denS (callN fns B n) B fn.body (ds.map some++List.replicate (fn.sl-fn.ar) none) h)):=by
      intro w Q ρ H ds h p
      rw [key,runFn] at p
      exact PostV.ite p
    obtain ⟨oc,od,kV,doc,pm,an,cdv,ct,osl,rfl,lk,hcd⟩:=hf.ex
    refine L2.fn_of lk hcd O.sc (fun vs H Q E h=>?_) fun A outer s H vs Q E hr h=>?_
    · obtain ⟨ρ,h0,ds,_,l,p⟩:=h
      rw [l.length,(arity p).1,O.ar]
    · obtain ⟨ρ,h0,ds',r,l,p⟩:=h
      obtain ⟨ha,p⟩:=arity p
      refine ⟨tDS K (fun c _ H'=>∀ e,E e (some c) H') (denS (callN fns B n) B fn.body),?_,ρ,ds'.map some++List.replicate (fn.sl-fn.ar) none,h0,RepS.start l (by rw [O.sl,l.length,ha]),r,PostS.fin p⟩
      refine PSs.wish (E:=bodyE (cxX (exOf K xl) P w K mg base d.N d.qual (L2.defScope d.st) f cdv A outer s H E) (exOf K xl) E) ?_ fun e s' z=>?_
      · have T':BodyS ((cxX (exOf K xl) P w K mg base d.N d.qual (L2.defScope d.st) f cdv A outer s H E).wish (bodyE (cxX (exOf K xl) P w K mg base d.N d.qual (L2.defScope d.st) f cdv A outer s H E) (exOf K xl) E)) ⟨d.N,L2.defScope d.st,G,xs,true,true,Mt,At⟩ (callN fns B n) (2*n) (exOf K xl) (fun c _ H'=>∀ e,E e (some c) H'):=by
          refine ⟨⟨rfl,O.sc.nd,rfl,fun _=>rfl,fun _=>hr,hr.units,fun x g hg=>?_,fun i cs xl' C j D h h1 hC hD hj=>?_,fun cs xl' j D h h1 hD hj=>?_,fun m mk tb hm=>?_,fun f kk cs hf=>T.at' f kk cs (lookup_mem' hf),fun xl' j D h1 hD hj=>?_,fun pins σ H1 s1 e s' I x=>.inl ⟨pins,σ,H1,s1,I.unwish,x⟩⟩,fun _=>rfl,⟨rfl,rfl⟩,rfl,fun i C h=>(qBV h).2,fun _ pins σ H1 s1 a args h' c C hc I m hw=>.inr ⟨pins,σ,H1,s1,a,args,h',c,C,hc,I.unwish,m,hw,rfl,rfl⟩,fun i cs C j D h=>T.xm i cs C j D (lookup_mem' h)⟩
          · have gm:=T.gl x g (lookup_mem' hg)
            cases g with
            | fn j =>
              obtain ⟨d',f',fd',hd',hm,hF,hB⟩:=gm
              exact ⟨f',fd',d'.ps,hm,hF.kp,hB,qFv T n j d' f' fd' hd' hF⟩
            | con e =>
              obtain ⟨v,u,h1,h2,h3⟩:=gm
              exact ⟨v,u,h1,h2,fun ρ H=>h3 _ ρ H⟩
            | blt=>exact gm
            | exc c=>exact gm
            | cls c j =>
              obtain ⟨C,d',f',fd',hm,h1,h2,h3,hd',hF,hB⟩:=gm
              exact ⟨C,f',fd',d'.ps,hm,h1,h2,h3,hB,qFv T n j d' f' fd' hd' hF⟩
          · have e:=T.xl1 _ (lookup_mem' h1)
            subst e
            have hD':=qDw hj rfl hD
            have q1:=T.xm i cs C j D (lookup_mem' h) hC hD'
            refine qJx q1 fun z=>?_
            have e:D=C:=Value.ref.inj (beq_iff_eq.mp z)
            subst e
            have q2:=T.xm i cs D i D (lookup_mem' h) hC hC
            rw [T.xk i cs (lookup_mem' h) (by simpa using (qBV hC).1)] at q2
            exact Option.some.inj (q1.symm.trans q2)
          · have e:=T.xl1 _ (lookup_mem' h1)
            subst e
            exact qJx (T.xv cs j D (lookup_mem' h) (qDw hj rfl hD)) fun z=>by cases beq_iff_eq.mp z
          · obtain ⟨m1,m2,m3⟩:=T.mt m mk tb (lookup_mem' hm)
            refine ⟨m1,m2,fun cc fi C ht hC=>?_⟩
            obtain ⟨k1,d',f',fd',k2,k3,k4,k5⟩:=m3 cc fi C ht hC
            exact ⟨k1,f',fd',d'.ps,k2,k5,qFv T n fi d' f' fd' k3 k4⟩
          · have e:=T.xl1 _ (lookup_mem' h1)
            subst e
            exact T.xg j D (qDw hj rfl hD)
        exact (all_s 100).ss _ _ _ T' _ _ O.cp
      · rcases z with ⟨pins,σ,H1,s1,I,x⟩ | ⟨pins,σ,H1,s1,a,args,h',c,C,hc,I,m,hw,rfl,rfl⟩
        · exact qHY (W:=fun c _ H'=>∀ e,E e (some c) H') (fun _ _ _ z=>z) I x
        · exact qGO (W:=fun c _ H'=>∀ e,E e (some c) H') (fun _ _ _ z=>z) I hc m hw
theorem qNL {K:PySem.W.Frag} {m:List D→M D} (hm:∀ ns:List Int,ns.length≤63→∃ h',m [.ref 0] [.rol (ns.map .int)]=.ok (.bl true) h') (H:Hp) (a:Addr) (ns:List Int) (hl:ns.length≤63) (hO:L2.Only H) (hS:SqL K H a (ns.map V.int)) {E:L2.XK} :
    spD K m [.ref a] H (fun v _=>v=.bl true) E:=by
  have hr:∀ ns:List Int,RepL K [a] H (ns.map .int) (ns.map V.int):=fun ns=>by
    induction ns with
    | nil=>rfl
    | cons x ns ih=>exact ⟨_,_,rfl,rfl,ih⟩
  refine ⟨[a],[.rol (ns.map .int)],[.ref 0],⟨rfl,fun i o hi=>?_,fun i j b o1 o2 hi hj m1 m2 _ _=>?_⟩,⟨.ref a,[],rfl,⟨a,rfl,rfl⟩,rfl⟩,?_⟩
  · cases i with
    | succ i=>simp at hi
    | zero =>
      cases hi
      refine ⟨a,rfl,ns.map V.int,?_,hr ns⟩
      rcases hS with (h | ⟨o,h⟩) | h
      · rcases hO a with z | ⟨o,xs,z⟩
        · rw [h] at z;cases z
        · rw [h] at z;cases z
      · exact .inl ⟨o,h⟩
      · exact .inr h
  · cases i with
    | succ i=>simp at hi
    | zero=>cases hi;cases m1
  · obtain ⟨h',e⟩:=hm ns hl
    rw [e]
    exact fun ρ' H' _ _ v hv=>hv
theorem walk {l:PySem.W.OpenLaw} {q:Program} {loose:List Str} {XP:(Str→Option Value)→Heap→Prop} {YP:World→Heap→Prop} {dr:DefRec} {K:Params→PySem.W.Frag} {G:List (Str × GK)} {xs:List (Nat × List Nat)} {xl:List Nat} {Mt:List (Str × Nat × List (Nat × Nat))} {At:List (Str × Nat × List Nat)} {ds:List Df} {fns:List Fn} {B i:Nat} {d:Df} {x:Str}
    (hn:l.most=some 63) (hdf:dr.params.defaults=[]) (hi:ds[i]?=some d) (hG:(dr.name,GK.fn i)∈G) (hq:d.qual=d.name) (hps:d.ps=[x])
    (hY:∀ (w:World) (h:Heap),YP w h→(K w.params).In h)
    (T:∀ (w:World) (mg:Str→Option Value) (h:Heap),(K w.params).In h→h.Ns mainGlobals mg→Top (K w.params) mg G xs xl Mt At ds fns)
    (hm:∀ ns:List Int,ns.length≤63→∃ h',callN fns B 40 i [.ref 0] [.rol (ns.map .int)]=.ok (.bl true) h')
    (hbnd:∀ (fd:FuncData) (f:Addr) (K:PySem.W.Frag),L2.Fun K d.name d.name d.st f fd→∀ (s:Shared) (u:Value),BindsTo s fd ⟨[u],[]⟩ [(x,u)]) :
    PySem.W.WalkO q loose XP YP l.row.toRowW dr [] (fun f vs=>PySem.call f vs):=by
  refine L2.walk_of (n:=63) (k:=80) (x:=x) (K:=K) (CX:=fun w=>CXD l.prog w (exOf (K w.params) xl)) (sp:=fun w=>spD (K w.params) (callN fns B 40 i)) hn (by decide) hdf ⟨rfl,by decide,by decide⟩ hY (fun w mg fa h KX Gm hmg=>?_) (fun w H a ns hl hO hS=>qNL hm H a ns hl hO hS) fun w H s e s' z=>?_
  · have T':=T w mg h KX Gm
    obtain ⟨d',f,fd,h0,h1,h2,h3⟩:=T'.gl _ _ hG
    rw [hi] at h0
    cases h0
    rw [h1] at hmg
    cases hmg
    refine ⟨fd,hbnd fd _ _ (hq ▸ h2),fun base kb nb=>?_⟩
    have:=qFv (P:=l.prog) (w:=w) (base:=base) (B:=B) T' 40 i d _ fd hi h2
    rw [hps] at this
    exact this
  · obtain ⟨_,_,_,_,_,_,_,_,_,_,_,_,_,_,q⟩:=z
    exact q
end Fy
set_option Elab.async false
set_option linter.all false
set_option maxRecDepth 100000
namespace Lk49
open Fy PySem
noncomputable abbrev qJl:Nat:=332437021739526678278002
noncomputable abbrev qLx:Nat:=22077439339750245
noncomputable abbrev qN5:Nat:=86239795832164
noncomputable abbrev qAT:Nat:=1383031140
noncomputable abbrev qFq:Nat:=122519838744953
noncomputable abbrev qJy:Nat:=1685024357
noncomputable abbrev qBU:Nat:=521332035982369564550514
noncomputable def qIN:CT:=(.val (.lit (.bl true)))
noncomputable def qIO:CS:=(.whil qIN .skip)
noncomputable def qB3:CS:=(.seq (.set (.nm 1) (.un .ord (.var 0))) (.ret (.and (.chain .le .le (.lit (.int 32)) (.var 1) (.lit (.int 126))) (.bi .ne (.var 1) (.lit (.int 37))))))
noncomputable def qBc:CE:=(.call 1 (.cons (.var 1) .nil))
noncomputable def qBF:CS:=(.ret (.and (.un (.isi .str) (.var 0)) (.un .all (.comp qBc (.of (.var 0))))))
noncomputable def qB4:CS:=(.ret (.chain .le .le (.var 1) (.var 0) (.var 2)))
noncomputable def qBL:CS:=(.seq (.ite (.or (.val (.un (.isi .bool) (.var 0))) (.not (.val (.un (.isi .int) (.var 0))))) (.ret (.lit (.bl false))) .skip) qB4)
noncomputable def qAS:CS:=(.ret (.and (.call 2 (.cons (.var 0) .nil)) (.chain .le .le (.lit (.int 1)) (.un .len (.var 0)) (.lit (.int 400)))))
noncomputable def qAN:CS:=(.ret (.and (.call 2 (.cons (.var 0) .nil)) (.and (.bi .eq (.un .len (.var 0)) (.lit (.int 1))) (.bi .ne (.var 0) (.var 1)))))
noncomputable def qBP:CS:=(.seq (.setF (.var 0) 122519838744953 [1383031140] (.lst .nil)) (.seq (.setF (.var 0) 1685024357 [1383031140] (.lst .nil)) (.setF (.var 0) 521332035982369564550514 [1383031140] (.lit (.int 0)))))
noncomputable def qAz:CE:=(.tup (.cons (.bi .ix (.var 1) (.lit (.int 0))) (.cons (.bi .ix (.var 1) (.lit (.int 1))) .nil)))
noncomputable def qAt:CS:=(.ret (.comp qAz (.of (.un (.fld 122519838744953) (.var 0)))))
noncomputable def qCG:CS:=(.exp (.call 0 (.cons (.lit (.int 0)) .nil)))
noncomputable def qA8:CS:=(.exp (.call 0 (.cons (.lit (.int 1)) .nil)))
noncomputable def qB7:CS:=(.exp (.me .append (.un (.fld 1685024357) (.var 0)) (.tup (.cons (.lit (.str [115,101,110,100])) (.cons (.var 3) (.cons (.var 1) (.cons (.var 2) .nil)))))))
noncomputable def qB6:CS:=(.seq (.exp (.meth 123649765896046 [(1383031140,12)] (.var 0) (.cons (.var 1) (.cons (.var 2) (.cons (.lit (.bl false)) .nil))))) (.ret (.var 3)))
noncomputable def qB5:CS:=(.seq (.set (.nm 3) (.un (.fld 521332035982369564550514) (.var 0))) (.seq (.ite (.not (.val (.meth 29681726132677740 [(1383031140,11)] (.var 0) .nil))) qB7 .skip) qB6))
noncomputable def qBN:CS:=(.seq (.ite (.or (.not (.val (.call 3 (.cons (.var 1) (.cons (.lit (.int 0)) (.cons (.lit (.int 1)) .nil)))))) (.not (.val (.call 4 (.cons (.var 2) .nil))))) .opq .skip) qB5)
noncomputable def qAe:CS:=(.ret (.bi .ge (.un .len (.un (.fld 122519838744953) (.var 0))) (.lit (.int 200))))
noncomputable def qC1:CS:=(.exp (.me .append (.un (.fld 1685024357) (.var 0)) (.tup (.cons (.lit (.str [102,117,108,108])) (.cons (.var 4) (.cons (.var 1) (.cons (.var 2) .nil)))))))
noncomputable def qAy:CS:=(.exp (.me .append (.un (.fld 122519838744953) (.var 0)) (.tup (.cons (.var 4) (.cons (.var 1) (.cons (.var 2) (.cons (.var 3) .nil)))))))
noncomputable def qAZ:CS:=(.seq (.set (.nm 4) (.un (.fld 521332035982369564550514) (.var 0))) (.seq (.setF (.var 0) 521332035982369564550514 [1383031140] (.bi .add (.var 4) (.lit (.int 1)))) (.ite (.val (.meth 29681726132677740 [(1383031140,11)] (.var 0) .nil)) qC1 qAy)))
noncomputable def qBG:CS:=(.ret (.bi .ix (.un (.fld 122519838744953) (.var 0)) (.var 1)))
noncomputable def qAa:CS:=(.seq (.ite (.not (.val (.call 3 (.cons (.var 1) (.cons (.lit (.int 0)) (.cons (.bi .sub (.un .len (.un (.fld 122519838744953) (.var 0))) (.lit (.int 1))) .nil)))))) .opq .skip) qBG)
noncomputable def qA4:CS:=(.seq (.set (.nm 2) (.meth 8100116882379465076 [(1383031140,13)] (.var 0) (.cons (.var 1) .nil))) (.seq (.exp (.me .lpop (.un (.fld 122519838744953) (.var 0)) (.var 1))) (.seq (.exp (.me .append (.un (.fld 1685024357) (.var 0)) (.tup (.cons (.lit (.str [99,97,114,114,121])) (.cons (.bi .ix (.var 2) (.lit (.int 0))) (.cons (.bi .ix (.var 2) (.lit (.int 1))) (.cons (.bi .ix (.var 2) (.lit (.int 2))) .nil))))))) (.ret (.tup (.cons (.bi .ix (.var 2) (.lit (.int 1))) (.cons (.bi .ix (.var 2) (.lit (.int 2))) .nil)))))))
noncomputable def qBO:CS:=(.seq (.set (.nm 2) (.meth 8100116882379465076 [(1383031140,13)] (.var 0) (.cons (.var 1) .nil))) (.seq (.exp (.me .lpop (.un (.fld 122519838744953) (.var 0)) (.var 1))) (.exp (.me .append (.un (.fld 1685024357) (.var 0)) (.tup (.cons (.lit (.str [108,111,115,101])) (.cons (.bi .ix (.var 2) (.lit (.int 0))) .nil)))))))
noncomputable def qAu:CS:=(.seq (.set (.nm 2) (.meth 8100116882379465076 [(1383031140,13)] (.var 0) (.cons (.var 1) .nil))) (.seq (.set (.nm 3) (.un (.fld 521332035982369564550514) (.var 0))) (.seq (.exp (.me .append (.un (.fld 1685024357) (.var 0)) (.tup (.cons (.lit (.str [100,111,117,98,108,101])) (.cons (.bi .ix (.var 2) (.lit (.int 0))) (.cons (.var 3) .nil)))))) (.seq (.exp (.meth 123649765896046 [(1383031140,12)] (.var 0) (.cons (.bi .ix (.var 2) (.lit (.int 1))) (.cons (.bi .ix (.var 2) (.lit (.int 2))) (.cons (.bi .ix (.var 2) (.lit (.int 3))) .nil))))) (.ret (.var 3))))))
noncomputable def qBM:CS:=(.seq (.set (.nm 3) (.meth 8100116882379465076 [(1383031140,13)] (.var 0) (.cons (.var 1) .nil))) (.seq (.set (.nm 4) (.meth 8100116882379465076 [(1383031140,13)] (.var 0) (.cons (.var 2) .nil))) (.seq (.setIx (.un (.fld 122519838744953) (.var 0)) (.var 1) (.var 4)) (.seq (.setIx (.un (.fld 122519838744953) (.var 0)) (.var 2) (.var 3)) (.exp (.me .append (.un (.fld 1685024357) (.var 0)) (.tup (.cons (.lit (.str [116,117,114,110])) (.cons (.bi .ix (.var 3) (.lit (.int 0))) (.cons (.bi .ix (.var 4) (.lit (.int 0))) .nil))))))))))
noncomputable def qBo:CS:=(.seq (.set (.nm 6) (.bi .add (.bi .add (.sl (.var 5) .no (.at (.var 2))) (.var 3)) (.sl (.var 5) (.at (.bi .add (.var 2) (.lit (.int 1)))) .no))) (.seq (.setIx (.un (.fld 122519838744953) (.var 0)) (.var 1) (.tup (.cons (.bi .ix (.var 4) (.lit (.int 0))) (.cons (.bi .ix (.var 4) (.lit (.int 1))) (.cons (.var 6) (.cons (.lit (.bl true)) .nil)))))) (.exp (.me .append (.un (.fld 1685024357) (.var 0)) (.tup (.cons (.lit (.str [115,112,111,105,108])) (.cons (.bi .ix (.var 4) (.lit (.int 0))) (.cons (.var 6) .nil))))))))
noncomputable def qBn:CS:=(.seq (.ite (.not (.val (.call 5 (.cons (.var 3) (.cons (.bi .ix (.var 5) (.var 2)) .nil))))) .opq .skip) qBo)
noncomputable def qBm:CS:=(.seq (.ite (.not (.val (.call 3 (.cons (.var 2) (.cons (.lit (.int 0)) (.cons (.bi .sub (.un .len (.var 5)) (.lit (.int 1))) .nil)))))) .opq .skip) qBn)
noncomputable def qA3:CS:=(.seq (.set (.nm 4) (.meth 8100116882379465076 [(1383031140,13)] (.var 0) (.cons (.var 1) .nil))) (.seq (.set (.nm 5) (.bi .ix (.var 4) (.lit (.int 2)))) (.seq (.ite (.val (.bi .ix (.var 4) (.lit (.int 3)))) .opq .skip) qBm)))
noncomputable def qBa:CS:=(.ret (.lit (.int 0)))
noncomputable def qAp:CS:=(.seq (.ite (.val (.bi .lt (.var 1) (.un .len (.var 0)))) (.ret (.bi .ix (.var 0) (.var 1))) .skip) qBa)
noncomputable def qA6:CS:=(.seq (.set (.nm 3) (.bi .mod (.bi .add (.bi .add (.bi .mul (.var 3) (.var 3)) (.bi .mul (.lit (.int 48271)) (.var 3))) (.var 4)) (.lit (.int 2147483647)))) (.exp (.me .append (.var 2) (.var 3))))
noncomputable def qBj:CS:=(.ret (.sl (.var 2) (.at (.lit (.int 1))) .no))
noncomputable def qA2:CS:=(.seq (.set (.nm 2) (.lst .nil)) (.seq (.set (.nm 3) (.bi .add (.bi .mod (.var 0) (.lit (.int 2147483647))) (.lit (.int 48271)))) (.seq (.fori (.nm 4) (.rng1 (.bi .add (.var 1) (.lit (.int 1)))) qA6) qBj)))
noncomputable def qBK:CE:=(.bi .ix (.var 2) (.bi .mod (.bi .fdiv (.var 0) (.lit (.int 3))) (.lit (.int 94))))
noncomputable def qBJ:CE:=(.bi .ix (.var 2) (.bi .mod (.bi .add (.bi .fdiv (.var 0) (.lit (.int 3))) (.bi .mul (.var 3) (.bi .add (.lit (.int 1)) (.bi .mod (.bi .fdiv (.var 0) (.lit (.int 282))) (.lit (.int 93)))))) (.lit (.int 94))))
noncomputable def qB1:CS:=(.ret (.me .join (.lit (.str [])) (.comp qBJ (.rng1 (.var 1)))))
noncomputable def qAx:CS:=(.seq (.set (.nm 2) (.lit (.str [32,33,34,35,36,38,39,40,41,42,43,44,45,46,47,48,49,50,51,52,53,54,55,56,57,58,59,60,61,62,63,64,65,66,67,68,69,70,71,72,73,74,75,76,77,78,79,80,81,82,83,84,85,86,87,88,89,90,91,92,93,94,95,96,97,98,99,100,101,102,103,104,105,106,107,108,109,110,111,112,113,114,115,116,117,118,119,120,121,122,123,124,125,126]))) (.seq (.ite (.val (.bi .eq (.bi .mod (.var 0) (.lit (.int 3))) (.lit (.int 0)))) (.ret (.me .join (.lit (.str [])) (.comp qBK (.rng1 (.var 1))))) .skip) qB1))
noncomputable def qBZ:CS:=(.seq (.set (.nm 6) (.bi .ix (.lst (.cons (.bi .add (.lit (.int 1)) (.bi .mod (.bi .ix (.var 2) (.lit (.int 4))) (.lit (.int 12)))) (.cons (.bi .add (.lit (.int 1)) (.bi .mod (.bi .ix (.var 2) (.lit (.int 4))) (.lit (.int 120)))) (.cons (.bi .sub (.lit (.int 400)) (.bi .mod (.bi .ix (.var 2) (.lit (.int 4))) (.lit (.int 3)))) .nil)))) (.bi .add (.un .int (.bi .eq (.bi .mod (.bi .ix (.var 2) (.lit (.int 5))) (.lit (.int 4))) (.lit (.int 0)))) (.un .int (.bi .eq (.bi .mod (.bi .ix (.var 2) (.lit (.int 5))) (.lit (.int 24))) (.lit (.int 0))))))) (.ret (.tup (.cons (.lit (.str [115,101,110,100])) (.cons (.bi .mod (.bi .ix (.var 2) (.lit (.int 1))) (.lit (.int 2))) (.cons (.call 21 (.cons (.bi .ix (.var 2) (.lit (.int 3))) (.cons (.var 6) .nil))) .nil))))))
noncomputable def qCO:CS:=(.seq (.set (.nm 7) (.bi .ix (.lst (.cons (.bi .sub (.bi .mod (.bi .ix (.var 2) (.lit (.int 4))) (.lit (.int 14))) (.un .int (.bi .eq (.bi .mod (.bi .ix (.var 2) (.lit (.int 4))) (.lit (.int 9))) (.lit (.int 0))))) (.cons (.bi .mod (.bi .ix (.var 2) (.lit (.int 4))) (.lit (.int 120))) (.cons (.bi .mod (.bi .ix (.var 2) (.lit (.int 4))) (.lit (.int 401))) .nil)))) (.bi .add (.un .int (.bi .eq (.bi .mod (.bi .ix (.var 2) (.lit (.int 3))) (.lit (.int 3))) (.lit (.int 0)))) (.un .int (.bi .eq (.bi .mod (.bi .ix (.var 2) (.lit (.int 3))) (.lit (.int 12))) (.lit (.int 0))))))) (.ret (.tup (.cons (.lit (.str [115,112,111,105,108])) (.cons (.var 4) (.cons (.var 7) (.cons (.call 21 (.cons (.bi .mul (.lit (.int 3)) (.bi .ix (.var 2) (.lit (.int 5)))) (.cons (.lit (.int 1)) .nil))) .nil)))))))
noncomputable def qCN:CS:=(.ret (.bi .ix (.lst (.cons (.tup (.cons (.lit (.str [99,97,114,114,121])) (.cons (.var 4) .nil))) (.cons (.tup (.cons (.lit (.str [108,111,115,101])) (.cons (.var 4) .nil))) (.cons (.tup (.cons (.lit (.str [100,111,117,98,108,101])) (.cons (.var 4) .nil))) (.cons (.tup (.cons (.lit (.str [100,111,117,98,108,101])) (.cons (.var 4) .nil))) .nil))))) (.bi .sub (.var 3) (.lit (.int 4)))))
noncomputable def qBY:CS:=(.seq (.ite (.val (.bi .gt (.var 3) (.lit (.int 7)))) qCO .skip) qCN)
noncomputable def qAh:CS:=(.seq (.ite (.val (.bi .eq (.var 3) (.lit (.int 10)))) (.ret (.tup (.cons (.lit (.str [116,117,114,110])) (.cons (.var 4) (.cons (.var 5) .nil))))) .skip) qBY)
noncomputable def qBE:CS:=(.seq (.set (.nm 2) (.call 20 (.cons (.var 0) (.cons (.lit (.int 6)) .nil)))) (.seq (.set (.nm 3) (.bi .mod (.bi .ix (.var 2) (.lit (.int 0))) (.lit (.int 12)))) (.seq (.set (.nm 4) (.bi .ix (.lst (.cons (.bi .mod (.bi .ix (.var 2) (.lit (.int 1))) (.bi .max2 (.lit (.int 1)) (.var 1))) (.cons (.bi .sub (.bi .mod (.bi .ix (.var 2) (.lit (.int 1))) (.bi .add (.var 1) (.lit (.int 2)))) (.lit (.int 1))) .nil))) (.un .int (.bi .eq (.bi .mod (.bi .ix (.var 2) (.lit (.int 2))) (.lit (.int 8))) (.lit (.int 0)))))) (.seq (.set (.nm 5) (.bi .ix (.lst (.cons (.bi .mod (.bi .ix (.var 2) (.lit (.int 3))) (.bi .max2 (.lit (.int 1)) (.var 1))) (.cons (.bi .sub (.bi .mod (.bi .ix (.var 2) (.lit (.int 3))) (.bi .add (.var 1) (.lit (.int 2)))) (.lit (.int 1))) .nil))) (.un .int (.bi .eq (.bi .mod (.bi .fdiv (.bi .ix (.var 2) (.lit (.int 2))) (.lit (.int 8))) (.lit (.int 8))) (.lit (.int 0)))))) (.seq (.ite (.val (.bi .lt (.var 3) (.lit (.int 4)))) qBZ .skip) qAh)))))
noncomputable def qA5:CE:=(.lit (.int 1))
noncomputable def qAd:CT:=(.val (.bi .ne (.var 2) (.var 3)))
noncomputable def qBi:CS:=(.ret (.un .len (.compIf2 qA5 qAd (.zip (.var 0) (.var 1)))))
noncomputable def qA1:CS:=(.seq (.ite (.val (.bi .ne (.un .len (.var 0)) (.un .len (.var 1)))) (.ret (.lit (.int 99))) .skip) qBi)
noncomputable def qBb:CS:=(.seq (.exp (.me .append (.var 4) (.var 5))) (.ret (.and (.bi .eq (.bi .ix (.var 6) (.lit (.int 0))) (.bi .ix (.var 3) (.var 5))) (.bi .le (.call 23 (.cons (.bi .ix (.var 6) (.lit (.int 1))) (.cons (.bi .ix (.var 2) (.var 5)) .nil))) (.lit (.int 1))))))
noncomputable def qAq:CS:=(.seq (.set (.nm 5) (.bi .ix (.bi .ix (.meth 112616079453799 [(1383031140,7)] (.var 0) .nil) (.var 1)) (.lit (.int 0)))) (.seq (.set (.nm 6) (.meth 426836652665 [(1383031140,14)] (.var 0) (.cons (.var 1) .nil))) (.seq (.ite (.or (.not (.val (.un (.isi .tuple) (.var 6)))) (.or (.val (.bi .ne (.un .len (.var 6)) (.lit (.int 2)))) (.or (.val (.bi .isin (.var 5) (.var 4))) (.not (.val (.un (.isi .str) (.bi .ix (.var 6) (.lit (.int 1))))))))) (.ret (.lit (.bl false))) .skip) qBb)))
noncomputable def qBl:CS:=(.seq (.set (.nm 4) (.meth 1936027236 [(1383031140,10)] (.var 0) (.cons (.bi .ix (.var 1) (.lit (.int 1))) (.cons (.bi .ix (.var 1) (.lit (.int 2))) .nil)))) (.seq (.exp (.me .append (.var 2) (.bi .ix (.var 1) (.lit (.int 2))))) (.exp (.me .append (.var 3) (.bi .ix (.var 1) (.lit (.int 1)))))))
noncomputable def qBk:CS:=(.seq (.set (.nm 5) (.bi .ix (.bi .ix (.meth 112616079453799 [(1383031140,7)] (.var 0) .nil) (.bi .ix (.var 1) (.lit (.int 1)))) (.lit (.int 0)))) (.seq (.set (.nm 4) (.meth 110429873532005 [(1383031140,16)] (.var 0) (.cons (.bi .ix (.var 1) (.lit (.int 1))) .nil))) (.seq (.exp (.me .append (.var 2) (.bi .ix (.var 2) (.var 5)))) (.exp (.me .append (.var 3) (.bi .ix (.var 3) (.var 5)))))))
noncomputable def qA7:CS:=(.ret (.bi .eq (.var 4) (.bi .sub (.un .len (.var 2)) (.lit (.int 1)))))
noncomputable def qAg:CS:=(.seq (.ite (.val (.bi .eq (.bi .ix (.var 1) (.lit (.int 0))) (.lit (.str [115,101,110,100])))) qBl qBk) qA7)
noncomputable def qIS:CS:=(.setIx (.var 5) (.bi .sub (.un .len (.var 2)) (.lit (.int 1))) (.getd (.var 5) (.bi .ix (.bi .ix (.meth 112616079453799 [(1383031140,7)] (.var 1) .nil) (.bi .ix (.var 8) (.lit (.int 1)))) (.lit (.int 0))) (.lit (.bl false))))
noncomputable def qFW:CS:=(.ite (.val (.bi .eq (.bi .ix (.var 8) (.lit (.int 0))) (.lit (.str [100,111,117,98,108,101])))) qIS .skip)
noncomputable def qD7:CS:=(.seq (.ite (.not (.val (.call 25 (.cons (.var 1) (.cons (.var 8) (.cons (.var 2) (.cons (.var 3) .nil))))))) (.ret (.lit (.bl false))) .skip) qFW)
noncomputable def qC0:CE:=(.var 11)
noncomputable def qCz:CT:=(.val (.chain .le .lt (.lit (.int 0)) (.var 11) (.var 7)))
noncomputable def qIR:CS:=(.seq (.exp (.meth 1819243365 [(1383031140,15)] (.var 1) (.cons (.bi .ix (.var 8) (.lit (.int 1))) .nil))) (.exp (.me .append (.var 4) (.var 10))))
noncomputable def qIQ:CS:=(.exp (.meth 1953854062 [(1383031140,17)] (.var 1) (.cons (.bi .ix (.var 8) (.lit (.int 1))) (.cons (.bi .ix (.var 8) (.lit (.int 2))) .nil))))
noncomputable def qIP:CS:=(.seq (.exp (.meth 495807588716 [(1383031140,18)] (.var 1) (.cons (.bi .ix (.var 8) (.lit (.int 1))) (.cons (.bi .ix (.var 8) (.lit (.int 2))) (.cons (.bi .ix (.var 8) (.lit (.int 3))) .nil))))) (.setIx (.var 5) (.var 10) (.lit (.bl true))))
noncomputable def qFV:CS:=(.ite (.val (.bi .ne (.bi .ix (.bi .ix (.var 2) (.var 10)) (.bi .ix (.var 8) (.lit (.int 2)))) (.bi .ix (.var 8) (.lit (.int 3))))) qIP .skip)
noncomputable def qAs:CS:=(.ite (.and (.val (.bi .eq (.bi .ix (.var 8) (.lit (.int 0))) (.lit (.str [115,112,111,105,108])))) (.and (.not (.val (.getd (.var 5) (.var 10) (.lit (.bl false))))) (.val (.chain .le .lt (.lit (.int 0)) (.bi .ix (.var 8) (.lit (.int 2))) (.un .len (.bi .ix (.var 2) (.var 10))))))) qFV .skip)
noncomputable def qAr:CS:=(.seq (.ite (.val (.bi .eq (.bi .ix (.var 8) (.lit (.int 0))) (.lit (.str [116,117,114,110])))) qIQ .skip) qAs)
noncomputable def qAY:CS:=(.seq (.ite (.val (.bi .eq (.bi .ix (.var 8) (.lit (.int 0))) (.lit (.str [108,111,115,101])))) qIR .skip) qAr)
noncomputable def qD9:CS:=(.seq (.set (.nm 10) (.bi .ix (.bi .ix (.meth 112616079453799 [(1383031140,7)] (.var 1) .nil) (.bi .ix (.var 8) (.lit (.int 1)))) (.lit (.int 0)))) (.seq (.ite (.and (.val (.bi .eq (.bi .ix (.var 8) (.lit (.int 0))) (.lit (.str [99,97,114,114,121])))) (.not (.val (.call 24 (.cons (.var 1) (.cons (.bi .ix (.var 8) (.lit (.int 1))) (.cons (.var 2) (.cons (.var 3) (.cons (.var 4) .nil))))))))) (.ret (.lit (.bl false))) .skip) qAY))
noncomputable def qB2:CS:=(.ite (.val (.bi .eq (.un .len (.compIf qC0 qCz (.of (.var 9)))) (.un .len (.var 9)))) qD9 .skip)
noncomputable def qCX:CS:=(.seq (.set (.nm 7) (.un .len (.meth 112616079453799 [(1383031140,7)] (.var 1) .nil))) (.seq (.set (.nm 8) (.call 22 (.cons (.bi .add (.bi .ix (.var 0) (.var 6)) (.bi .mul (.lit (.int 31)) (.var 6))) (.cons (.var 7) .nil)))) (.seq (.set (.nm 9) (.sl (.var 8) (.at (.lit (.int 1))) (.at (.bi .add (.lit (.int 2)) (.un .int (.bi .eq (.bi .ix (.var 8) (.lit (.int 0))) (.lit (.str [116,117,114,110])))))))) (.ite (.or (.val (.bi .eq (.bi .ix (.var 8) (.lit (.int 0))) (.lit (.str [115,101,110,100])))) (.and (.val (.bi .eq (.bi .ix (.var 8) (.lit (.int 0))) (.lit (.str [100,111,117,98,108,101])))) (.val (.chain .le .lt (.lit (.int 0)) (.bi .ix (.var 8) (.lit (.int 1))) (.var 7))))) qD7 qB2))))
noncomputable def qD8:CS:=(.ite (.not (.val (.call 24 (.cons (.var 1) (.cons (.bi .ix (.lst (.cons (.lit (.int 0)) (.cons (.bi .sub (.un .len (.meth 112616079453799 [(1383031140,7)] (.var 1) .nil)) (.lit (.int 1))) .nil))) (.bi .mod (.call 19 (.cons (.var 0) (.cons (.lit (.int 60)) .nil))) (.lit (.int 2)))) (.cons (.var 2) (.cons (.var 3) (.cons (.var 4) .nil)))))))) (.ret (.lit (.bl false))) .skip)
noncomputable def qB0:CT:=(.val (.bi .gt (.un .len (.meth 112616079453799 [(1383031140,7)] (.var 1) .nil)) (.lit (.int 0))))
noncomputable def qF1:CS:=(.ret (.bi .eq (.un .sorted (.var 4)) (.un .lrng (.un .len (.var 2)))))
noncomputable def qF0:CS:=(.seq (.whil qB0 qD8) qF1)
noncomputable def b_law:CS:=(.seq (.set (.nm 1) (.make 1383031140 6 .nil)) (.seq (.set (.nm 2) (.lst .nil)) (.seq (.set (.nm 3) (.lst .nil)) (.seq (.set (.nm 4) (.lst .nil)) (.seq (.set (.nm 5) (.disp [] .nil)) (.seq (.fori (.nm 6) (.rng1 (.bi .min2 (.lit (.int 60)) (.un .len (.var 0)))) qCX) qF0))))))
noncomputable def fns:List Fn:=[⟨1,1,qIO⟩,
 ⟨1,2,qB3⟩,
 ⟨1,1,qBF⟩,
 ⟨3,3,qBL⟩,
 ⟨1,1,qAS⟩,
 ⟨2,2,qAN⟩,
 ⟨1,1,qBP⟩,
 ⟨1,1,qAt⟩,
 ⟨1,1,qCG⟩,
 ⟨2,2,qA8⟩,
 ⟨3,4,qBN⟩,
 ⟨1,1,qAe⟩,
 ⟨4,5,qAZ⟩,
 ⟨2,2,qAa⟩,
 ⟨2,3,qA4⟩,
 ⟨2,3,qBO⟩,
 ⟨2,4,qAu⟩,
 ⟨3,5,qBM⟩,
 ⟨4,7,qA3⟩,
 ⟨2,2,qAp⟩,
 ⟨2,5,qA2⟩,
 ⟨2,3,qAx⟩,
 ⟨2,8,qBE⟩,
 ⟨2,2,qA1⟩,
 ⟨5,7,qAq⟩,
 ⟨4,6,qAg⟩,
 ⟨1,11,b_law⟩]
noncomputable abbrev qOE:Nat:=0
theorem qOI (B n:Nat) (a0:D) (h:AH):callN fns B (n+1) 0 [a0] h=fin (denS (callN fns B n) B qIO [some a0] h):=rfl
noncomputable abbrev qHl:Nat:=1
theorem qIL (B n:Nat) (a0:D) (h:AH):callN fns B (n+1) 1 [a0] h=fin (denS (callN fns B n) B qB3 [some a0,none] h):=rfl
noncomputable abbrev qDQ:Nat:=2
theorem qDU (B n:Nat) (a0:D) (h:AH):callN fns B (n+1) 2 [a0] h=fin (denS (callN fns B n) B qBF [some a0] h):=rfl
noncomputable abbrev qFE:Nat:=3
theorem qFM (B n:Nat) (a0 a1 a2:D) (h:AH):callN fns B (n+1) 3 [a0,a1,a2] h=fin (denS (callN fns B n) B qBL [some a0,some a1,some a2] h):=rfl
noncomputable abbrev qC9:Nat:=4
theorem qDB (B n:Nat) (a0:D) (h:AH):callN fns B (n+1) 4 [a0] h=fin (denS (callN fns B n) B qAS [some a0] h):=rfl
noncomputable abbrev qCo:Nat:=5
theorem qCu (B n:Nat) (a0 a1:D) (h:AH):callN fns B (n+1) 5 [a0,a1] h=fin (denS (callN fns B n) B qAN [some a0,some a1] h):=rfl
noncomputable abbrev qFI:Nat:=6
theorem qFQ (B n:Nat) (a0:D) (h:AH):callN fns B (n+1) 6 [a0] h=fin (denS (callN fns B n) B qBP [some a0] h):=rfl
noncomputable abbrev qDt:Nat:=7
theorem qD0 (B n:Nat) (a0:D) (h:AH):callN fns B (n+1) 7 [a0] h=fin (denS (callN fns B n) B qAt [some a0] h):=rfl
noncomputable abbrev qLv:Nat:=8
theorem qLw (B n:Nat) (a0:D) (h:AH):callN fns B (n+1) 8 [a0] h=fin (denS (callN fns B n) B qCG [some a0] h):=rfl
noncomputable abbrev qIW:Nat:=9
theorem qIX (B n:Nat) (a0 a1:D) (h:AH):callN fns B (n+1) 9 [a0,a1] h=fin (denS (callN fns B n) B qA8 [some a0,some a1] h):=rfl
noncomputable abbrev qFG:Nat:=10
theorem qFO (B n:Nat) (a0 a1 a2:D) (h:AH):callN fns B (n+1) 10 [a0,a1,a2] h=fin (denS (callN fns B n) B qBN [some a0,some a1,some a2,none] h):=rfl
noncomputable abbrev qDA:Nat:=11
theorem qDC (B n:Nat) (a0:D) (h:AH):callN fns B (n+1) 11 [a0] h=fin (denS (callN fns B n) B qAe [some a0] h):=rfl
noncomputable abbrev qBv:Nat:=12
theorem qBz (B n:Nat) (a0 a1 a2 a3:D) (h:AH):callN fns B (n+1) 12 [a0,a1,a2,a3] h=fin (denS (callN fns B n) B qAZ [some a0,some a1,some a2,some a3,none] h):=rfl
noncomputable abbrev qCp:Nat:=13
theorem qCv (B n:Nat) (a0 a1:D) (h:AH):callN fns B (n+1) 13 [a0,a1] h=fin (denS (callN fns B n) B qAa [some a0,some a1] h):=rfl
noncomputable abbrev qEa:Nat:=14
theorem qEj (B n:Nat) (a0 a1:D) (h:AH):callN fns B (n+1) 14 [a0,a1] h=fin (denS (callN fns B n) B qA4 [some a0,some a1,none] h):=rfl
noncomputable abbrev qFH:Nat:=15
theorem qFP (B n:Nat) (a0 a1:D) (h:AH):callN fns B (n+1) 15 [a0,a1] h=fin (denS (callN fns B n) B qBO [some a0,some a1,none] h):=rfl
noncomputable abbrev qDu:Nat:=16
theorem qD1 (B n:Nat) (a0 a1:D) (h:AH):callN fns B (n+1) 16 [a0,a1] h=fin (denS (callN fns B n) B qAu [some a0,some a1,none,none] h):=rfl
noncomputable abbrev qFF:Nat:=17
theorem qFN (B n:Nat) (a0 a1 a2:D) (h:AH):callN fns B (n+1) 17 [a0,a1,a2] h=fin (denS (callN fns B n) B qBM [some a0,some a1,some a2,none,none] h):=rfl
noncomputable abbrev qEZ:Nat:=18
theorem qEi (B n:Nat) (a0 a1 a2 a3:D) (h:AH):callN fns B (n+1) 18 [a0,a1,a2,a3] h=fin (denS (callN fns B n) B qA3 [some a0,some a1,some a2,some a3,none,none,none] h):=rfl
noncomputable abbrev qDr:Nat:=19
theorem qDy (B n:Nat) (a0 a1:D) (h:AH):callN fns B (n+1) 19 [a0,a1] h=fin (denS (callN fns B n) B qAp [some a0,some a1] h):=rfl
noncomputable abbrev qCI:Nat:=20
theorem qEh (B n:Nat) (a0 a1:D) (h:AH):callN fns B (n+1) 20 [a0,a1] h=fin (denS (callN fns B n) B qA2 [some a0,some a1,none,none,none] h):=rfl
noncomputable abbrev qCn:Nat:=21
theorem qFL (B n:Nat) (a0 a1:D) (h:AH):callN fns B (n+1) 21 [a0,a1] h=fin (denS (callN fns B n) B qAx [some a0,some a1,none] h):=rfl
noncomputable abbrev qGR:Nat:=22
theorem qGX (B n:Nat) (a0 a1:D) (h:AH):callN fns B (n+1) 22 [a0,a1] h=fin (denS (callN fns B n) B qBE [some a0,some a1,none,none,none,none,none,none] h):=rfl
noncomputable abbrev qEY:Nat:=23
theorem qEg (B n:Nat) (a0 a1:D) (h:AH):callN fns B (n+1) 23 [a0,a1] h=fin (denS (callN fns B n) B qA1 [some a0,some a1] h):=rfl
noncomputable abbrev qDs:Nat:=24
theorem qDz (B n:Nat) (a0 a1 a2 a3 a4:D) (h:AH):callN fns B (n+1) 24 [a0,a1,a2,a3,a4] h=fin (denS (callN fns B n) B qAq [some a0,some a1,some a2,some a3,some a4,none,none] h):=rfl
noncomputable abbrev qCJ:Nat:=25
theorem qCL (B n:Nat) (a0 a1 a2 a3:D) (h:AH):callN fns B (n+1) 25 [a0,a1,a2,a3] h=fin (denS (callN fns B n) B qAg [some a0,some a1,some a2,some a3,none,none] h):=rfl
noncomputable abbrev i_law:Nat:=26
theorem c_law (B n:Nat) (a0:D) (h:AH):callN fns B (n+1) 26 [a0] h=fin (denS (callN fns B n) B b_law [some a0,none,none,none,none,none,none,none,none,none,none] h):=rfl
local macro_rules | `(tactic| simp! only [$ts,*] $[$l]?) => `(tactic| simp only [Int.reduceLT, Int.reduceLE, Int.reduceNeg, Int.reduceAdd, Int.reduceSub, Int.reduceEq, Int.reduceBEq, Nat.reduceLeDiff, Nat.reduceLT, Nat.reduceBEq, and_self, and_true, true_and, qLX, qNh, qEc, qLW, denS, den, denT, denL, denI, denP, qJI, qFZ, qCH, qGZ, qGb, qGa, qFY, qG9, qKt, qKu, qKL, qKM, qKN, qKK, qIf, qIn, qIm, qJg, qJf, qID, qMo, denH, qLm, qLn, M.ret_eq, M.bind_eq, M.bad_eq, R.bind_ok, R.bind_exc, R.bind_bad, qKD, newL, qKB, makeD, qHK, qGt, qF8, qF7, getN, putN, tbN, Option.isNone_none, Option.isNone_some, qHM, qGG, qGH, qFA, qET, tgSet, forIt, qEB, qF5, b2i, List.getElem?_cons_zero, List.getElem?_cons_succ, List.length_cons, List.length_nil, List.map_cons, List.map_nil, List.cons_append, List.nil_append, List.set_cons_zero, List.set_cons_succ, if_true, reduceIte, Nat.zero_add, Nat.reduceAdd, Bool.false_eq_true, if_false, Bool.not_true, Bool.not_false, Bool.or_true, Bool.or_false, Bool.true_or, Bool.false_or, decide_true, decide_false, reduceCtorEq, beq_self_eq_true, qL8, qMB, qMA, qL9, qL1, qML, qMK, qMJ, qL3, qIb, qIa, qKJ, qKI, qMO, qMN, qIZ, qL0, qGk, qKH, qL2, qIc, qMC, qMM, qME, qKG, qMI, qMH, qMG, qMF, qL7, qL6, qL5, qL4, qMD, qNE, qND, qNC, qNB, qM5, qM8, qIu, qKv, qIv, qNA, qM7, qKy, qKz, qHA, qIy, qK6, qM9, qM6, o_eq1, o_ne1, o_lt1, o_le1, o_gt1, o_ge1, qK4, qK3, qK2, qK1, qIx, qIw, o_ix1, o_ix2, o_ix3, o_ix4, qKw, qKx, qK5, qIt, qK0, qHC, qHB, t_non, t_bl, t_int, t_str, t_tup, t_ref, qNY, qNX, qNZ, qKd, qKc, qKf, qHJ, qHI, qI6, qLE, qLF, qNJ, qNI, qLD, qHH, qI9, qI7, qLC, qI8, qIl, qGr, qHo, qLN, qNc, qLO, qLL, qLK, qLM, qH2, qJO, qH3, qH1, qH0, qJS, qLY, qJT, qJR, qJQ, qH6, qJP, qH7, qH5, qH4, qHy, qJN, qHz, qHx, qHw, qHu, qJM, qHv, qHt, qHs, $ts,*] $[$l]?)
theorem qFu (h l:AH) (k:Nat):getL (h++l) (h.length+k)=getL l k:=by
 unfold getL
 rw [List.getElem?_append_right (by omega),Nat.add_sub_cancel_left]
theorem qAG (h l:AH):getL (h++l) h.length=getL l 0:=qFu h l 0
theorem qLV (h l:AH) (k:Nat):(h++l)[h.length+k]?=l[k]?:=by
 rw [List.getElem?_append_right (by omega),Nat.add_sub_cancel_left]
theorem qHp (h l:AH):(h++l)[h.length]?=l[0]?:=qLV h l 0
theorem qKa (h l:AH) (k:Nat) (o:O):(h++l).set (h.length+k) o=h++l.set k o:=by
 rw [List.set_append_right _ _ (by omega),Nat.add_sub_cancel_left]
theorem qGs (h l:AH) (o:O):(h++l).set h.length o=h++l.set 0 o:=qKa h l 0 o
theorem qFt (xs:List D) (l:AH):getL (.lst xs::l) 0=some xs:=rfl
theorem qOF (o:O) (l:AH) (k:Nat):getL (o::l) (k+1)=getL l k:=rfl
theorem qOH (o:O) (l:AH):getL (o::l) 1=getL l 0:=rfl
theorem qOG (o p:O) (l:AH):getL (o::p::l) 2=getL l 0:=rfl
theorem qN6 {xs:List Int} {k:Nat} {c:Int} (h:xs[k]?=some c):((ixN (xs.map D.int).length (k:Int)).bind fun j=>(xs.map D.int)[j]?)=some (.int c):=by
 have hk:=(List.getElem?_eq_some_iff.mp h).1
 rw [List.length_map,qAi hk,Option.bind_some,List.getElem?_map,h]
 rfl
theorem qOD {ds:List D} {k:Nat} {d:D} (h:ds[k]?=some d):((ixN ds.length (k:Int)).bind fun j=>ds[j]?)=some d:=by
 rw [qAi (List.getElem?_eq_some_iff.mp h).1,Option.bind_some,h]
theorem qLk {α:Type} (x:List α) (k:Nat):cutX x none (some (k:Int))=x.take k:=by
 unfold cutX cutN
 simp only [if_neg (show ¬ (k:Int)<0 by omega),Int.toNat_natCast,List.drop_zero,Nat.sub_zero]
 rw [Nat.min_comm,← List.take_take]
 exact List.take_of_length_le (by rw [List.length_take];omega)
theorem qEd {α:Type} (x:List α) (k:Nat):cutX x (some (k:Int)) none=x.drop k:=by
 unfold cutX cutN
 simp only [if_neg (show ¬ (k:Int)<0 by omega),Int.toNat_natCast]
 by_cases hk:k≤x.length
 ·rw [Nat.min_eq_left hk]
  exact List.take_of_length_le (by simp)
 ·rw [Nat.min_eq_right (by omega),List.drop_length,List.drop_eq_nil_of_le (by omega),List.take_nil]
theorem qHS (B n:Nat) (h:AH) (i:Nat) (xs:List Int) (k:Nat) (hx:getL h i=some (xs.map .int)):callN fns B (n+1) qDr [.ref i,.int k] h=.ok (.int (xs.getD k 0)) h:=by
 rw [qDy]
 simp! only [qAp,hx,List.length_map]
 by_cases hk:k<xs.length
 ·have e:decide ((k:Int)<(xs.length:Int))=true:=by simpa using hk
  have e2:xs[k]?=some xs[k]:=by simp [hk]
  simp! only [e,Option.bind_some,ixN,List.length_map,if_pos (show (0:Int)≤k by omega),if_pos (show (k:Int)<xs.length by omega),Int.toNat_natCast,e2,List.getElem?_map,Option.map_some,List.getD_eq_getElem?_getD,Option.getD_some]
 ·have e:decide ((k:Int)<(xs.length:Int))=false:=by simpa using hk
  have e2:xs[k]?=none:=by simp;omega
  simp! only [e,qBa,List.getD_eq_getElem?_getD,e2,Option.getD_none]
noncomputable def okC (c:Nat):Bool:=decide (32≤c)&&decide (c≤126)&&!decide (c=37)
theorem qHQ (B n:Nat) (c:Nat) (h:AH):callN fns B (n+1) qHl [.str [c]] h=.ok (.bl (okC c)) h:=by
 rw [qIL]
 have e1:decide ((32:Int)≤(c:Int))=decide (32≤c):=qBf 32 c
 have e2:decide ((c:Int)≤(126:Int))=decide (c≤126):=qBf c 126
 have e3:((c:Int) == 37)=decide (c=37):=qCC c 37
 simp! only [qB3,e1]
 unfold okC
 by_cases h1:32≤c
 ·by_cases h2:c≤126
  ·simp! only [e2,e3,h1,h2,Bool.true_and]
  ·simp! only [e2,h1,h2,Bool.and_false,Bool.false_and]
 ·simp! only [h1,Bool.false_and]
theorem qDN (B n:Nat) (x:Tx) (h:AH) (hz:x.length≤1000):callN fns B (n+2) qDQ [.str x] h=.ok (.bl (x.all okC)) (h++[.lst (x.map fun c=>.bl (okC c))]):=by
 rw [qDU]
 have e:qAI (compF (den (callN fns B (n+1)) qBc) [some (D.str x)]) (x.map fun c=>D.str [c]) h=.ok (x.map fun c=>.bl (okC c)) h:=by
  rw [qCd _ (fun d=>match d with | .str [c]=>.bl (okC c) | _=>.non)]
  ·rw [List.map_map]
   rfl
  ·intro y hy
   obtain ⟨c,_,rfl⟩:=List.mem_map.mp hy
   simp! only [qJZ,qBc,qHQ]
 have hz':x.length≤16777216:=by omega
 have hz2:x.length<16777216:=by omega
 simp! only [qBF,e,List.length_map,hz',hz2,qJL,Option.bind_some,qJk]
theorem qJD (B n:Nat) (d:D) (h:AH) (hd:isiD h .str d=some false):callN fns B (n+1) qDQ [d] h=.ok (.bl false) h:=by
 rw [qDU]
 simp! only [qBF,hd]
theorem qJC (B n:Nat) (h:AH) (c:Int) (m:Nat) (hm:m≤100):∃ (g:AH) (xs:List Int),callN fns B (n+1) qCI [.int c,.int m] h=.ok (.ref (h.length+1)) (h++g)∧getL (h++g) (h.length+1)=some (xs.map .int)∧xs.length=m∧∀ x∈xs,0≤x∧x<2147483647:=by
 rw [qEh]
 simp! only [qA2,if_pos (show 0≤16777216 by omega),show (0:Int)<2147483647 by omega]
 have hs:qAH ((m:Int)+1):=by unfold qAH;omega
 have ht:((m:Int)+1).toNat=m+1:=by omega
 simp! only [if_pos hs,ht]
 obtain ⟨σ',h',e,xs,v,l,hl,hx,hv,e1,e2⟩:=qCq (fun k σ g=>∃ (xs:List Int) (v:Int) (l:Option D),xs.length=k∧(∀ x∈xs,0≤x∧x<2147483647)∧(0≤v∧v<4294967296)∧σ=[some (.int c),some (.int m),some (.ref h.length),some (.int v),l]∧g=h++[.lst (xs.map .int)])
  (qAv (TG.nm 4) (denS (callN fns B n) B qA6)) (qAR 0 (m+1)) 0 [some (.int c),some (.int m),some (.ref h.length),some (.int (c % 2147483647+48271)),none] (h++[.lst []])
  ⟨[],c % 2147483647+48271,none,rfl,(fun x hx=>by cases hx),⟨by omega,by omega⟩,rfl,rfl⟩
  (fun j x σ g hj ⟨xs,v,l,hl,hx,hv,e1,e2⟩=>by
   obtain ⟨hjl,rfl⟩:=qEI hj
   subst e1
   subst e2
   have hb:=Int.emod_lt_of_pos (v*v+48271*v+(0+(j:Int))) (show (0:Int)<2147483647 by omega)
   have hb':=Int.emod_nonneg (v*v+48271*v+(0+(j:Int))) (show (2147483647:Int)≠0 by omega)
   refine ⟨_,_,?_,xs++[(v*v+48271*v+(0+(j:Int))) % 2147483647],(v*v+48271*v+(0+(j:Int))) % 2147483647,some (.int (0+j)),by rw [List.length_append,hl];rfl,?_,?_,rfl,rfl⟩
   ·simp! only [qA6,if_pos (qHG (i:=v) (j:=v) (by omega)),if_pos (qHG (i:=48271) (j:=v) (by omega)),qAG,qFt,qHp,qGs,List.length_map,hl,if_pos (show 0+j<16777216 by omega),List.map_append,show j<16777216 by omega]
   ·intro x hm'
    rcases List.mem_append.mp hm' with h1 | h1
    ·exact hx x h1
    ·rw [List.mem_singleton.mp h1];exact ⟨hb',hb⟩
   ·omega)
 rw [e]
 subst e1
 subst e2
 rw [qBS,Nat.zero_add] at hl
 have hc:cutX (xs.map D.int) (some 1) none=(xs.drop 1).map .int:=by
  rw [show (1:Int)=((1:Nat):Int) from rfl,qEd,List.map_drop]
 simp! only [qBj,qAG,qFt,hc,List.length_map,List.length_drop,hl,if_pos (show m+1-1≤16777216 by omega),List.length_append]
 refine ⟨[.lst (xs.map .int),.lst ((xs.drop 1).map .int)],xs.drop 1,?_,?_,by rw [List.length_drop,hl];rfl,fun x hm'=>hx x (List.mem_of_mem_drop hm')⟩
 ·rw [List.append_assoc];rfl
 ·rw [qFu];rfl
noncomputable abbrev Pc:=Int × Int × Tx × Bool
noncomputable def pcD (p:Pc):D:=.tup [.int p.1,.int p.2.1,.str p.2.2.1,.bl p.2.2.2]
noncomputable def rd (A L:Nat) (N:Int):List (Nat × D):=[(qFq,.ref A),(qJy,.ref L),(qBU,.int N)]
section
variable (A L:Nat) (N:Int)
theorem g_way:getN qFq (rd A L N)=some (.ref A):=rfl
theorem g_dn:getN qJy (rd A L N)=some (.ref L):=rfl
theorem g_nn:getN qBU (rd A L N)=some (.int N):=rfl
theorem p_nn (M:Int):putN qBU (.int M) (rd A L N)=rd A L M:=rfl
theorem g_len:(rd A L N).length=3:=rfl
theorem qNG:getN 1936027236 (rd A L N)=none:=rfl
theorem qHF:getN 29681726132677740 (rd A L N)=none:=rfl
theorem n_put:getN 123649765896046 (rd A L N)=none:=rfl
theorem n_at:getN 8100116882379465076 (rd A L N)=none:=rfl
theorem qLA:getN 426836652665 (rd A L N)=none:=rfl
theorem qNH:getN 1819243365 (rd A L N)=none:=rfl
theorem qI3:getN 110429873532005 (rd A L N)=none:=rfl
theorem qNF:getN 1953854062 (rd A L N)=none:=rfl
theorem qK9:getN 495807588716 (rd A L N)=none:=rfl
theorem qAV:getN 112616079453799 (rd A L N)=none:=rfl
theorem n_log:getN 7106407 (rd A L N)=none:=rfl
theorem qOB:getN 32762665321328486 (rd A L N)=none:=rfl
end
theorem qEx:tbN [(1383031140,11)] qAT=some 11:=rfl
theorem qJm:tbN [(1383031140,12)] qAT=some 12:=rfl
theorem tb_at:tbN [(1383031140,13)] qAT=some 13:=rfl
theorem qKP:tbN [(1383031140,10)] qAT=some 10:=rfl
theorem qIh:tbN [(1383031140,14)] qAT=some 14:=rfl
theorem qKQ:tbN [(1383031140,15)] qAT=some 15:=rfl
theorem qGl:tbN [(1383031140,16)] qAT=some 16:=rfl
theorem qKO:tbN [(1383031140,17)] qAT=some 17:=rfl
theorem qIg:tbN [(1383031140,18)] qAT=some 18:=rfl
theorem qAQ:tbN [(1383031140,7)] qAT=some 7:=rfl
theorem qFK:([qAT]:List Nat).contains qAT=true:=rfl
theorem qAF {G:AH} {i:Nat} {xs:List D} (h:G[i]?=some (.lst xs)):getL G i=some xs:=by unfold getL;rw [h]
theorem qAX {G:AH} {k:Nat} {o:O} (g:AH) (h:G[k]?=some o):(G++g)[k]?=some o:=by
 rw [List.getElem?_append_left (List.getElem?_eq_some_iff.mp h).1];exact h
structure Rd (G:AH) (R A L:Nat) (ws:List Pc) (lg:List D) (N:Nat):Prop where
 r:G[R]?=some (.ins qAT (rd A L N))
 a:G[A]?=some (.lst (ws.map pcD))
 l:G[L]?=some (.lst lg)
 al:A≠L
 bw:ws.length≤100
 bl:lg.length≤1000
theorem Rd.app {G:AH} {R A L N:Nat} {ws:List Pc} {lg:List D} (I:Rd G R A L ws lg N) (g:AH):Rd (G++g) R A L ws lg N:=⟨qAX g I.r,qAX g I.a,qAX g I.l,I.al,I.bw,I.bl⟩
theorem qDn (B n w:Nat) (i:Nat) (h:AH) (hi:i<w):callN fns B (n+1) qFE [.int i,.int 0,.int ((w:Int)-1)] h=.ok (.bl true) h:=by
 rw [qFM]
 have t2:(Ty.int == Ty.bool)=false:=rfl
 have t3:(Ty.int == Ty.int)=true:=rfl
 have t4:(Ty.bool == Ty.int)=false:=rfl
 simp! only [qBL,t2,t3,t4,qB4,show (0:Int)≤(i:Int) by omega,show (i:Int)≤(w:Int)-1 by omega]
section
variable {B n:Nat} {G:AH} {R A L N:Nat} {ws:List Pc} {lg:List D}
theorem qCA (I:Rd G R A L ws lg N) (i:Nat) (p:Pc) (hi:ws[i]?=some p):callN fns B (n+2) qCp [.ref R,.int i] G=.ok (pcD p) G:=by
 rw [qCv]
 have hl:=(List.getElem?_eq_some_iff.mp hi).1
 have t:=qDn B n ws.length i G hl
 have hx:((ixN (ws.map pcD).length (i:Int)).bind fun j=>(ws.map pcD)[j]?)=some (pcD p):=by
  rw [List.length_map,qAi hl,Option.bind_some,List.getElem?_map,hi]
  rfl
 rw [List.length_map] at hx
 simp! only [qAa,I.r,g_way,qAF I.a,List.length_map,t,qBG,Option.bind_some,hx]
end
noncomputable def oth (y:Tx) (c:Nat):Bool:=y.all okC&&(decide (y.length=1)&&!(y == [c]))
theorem qLJ (B n:Nat) (y:Tx) (c:Nat) (h:AH) (hy:y.length≤1000):callN fns B (n+3) qCo [.str y,.str [c]] h=.ok (.bl (oth y c)) (h++[.lst (y.map fun c=>.bl (okC c))]):=by
 rw [qCu]
 have t:=qDN B n y h hy
 have d:((y.length:Int) == 1)=decide (y.length=1):=qCC _ 1
 unfold oth
 cases q1:y.all okC with
 | false=>simp! only [qAN,t,q1,Bool.false_and]
 | true =>
  by_cases q2:y.length=1
  ·simp! only [qAN,t,q1,if_pos (show y.length≤16777216 by omega),d,q2,show (((1:Nat):Int) == 1)=true from rfl,Bool.true_and]
  ·simp! only [qAN,t,q1,if_pos (show y.length≤16777216 by omega),d,q2,Bool.true_and,Bool.false_and]
section
variable {B n:Nat} {G:AH} {R A L N:Nat} {ws:List Pc} {lg:List D}
theorem qN9 (p:Pc):((ixN 4 2).bind fun j=>[D.int p.1,.int p.2.1,.str p.2.2.1,.bl p.2.2.2][j]?)=some (.str p.2.2.1):=rfl
theorem qN8 (p:Pc):((ixN 4 3).bind fun j=>[D.int p.1,.int p.2.1,.str p.2.2.1,.bl p.2.2.2][j]?)=some (.bl p.2.2.2):=rfl
theorem qMw (p:Pc):((ixN 4 0).bind fun j=>[D.int p.1,.int p.2.1,.str p.2.2.1,.bl p.2.2.2][j]?)=some (.int p.1):=rfl
theorem qMv (p:Pc):((ixN 4 1).bind fun j=>[D.int p.1,.int p.2.1,.str p.2.2.1,.bl p.2.2.2][j]?)=some (.int p.2.1):=rfl
theorem tx_at {x:Tx} {j c:Nat} (h:x[j]?=some c):((ixN x.length (j:Int)).bind fun k=>x[k]?)=some c:=by
 rw [qAi (List.getElem?_eq_some_iff.mp h).1,Option.bind_some,h]
theorem qGK (I:Rd G R A L ws lg N) (i:Nat) (p:Pc) (hi:ws[i]?=some p) (hs:p.2.2.2=false) (hz:p.2.2.1.length≤1000) (j c:Nat) (hj:p.2.2.1[j]?=some c) (y:Tx) (hy1:y.length≤10) (hy:oth y c=true) :
    ∃ g,callN fns B (n+5) qEZ [.ref R,.int i,.int j,.str y] G=.ok .non g∧Rd g R A L (ws.set i (p.1,p.2.1,p.2.2.1.take j++y++p.2.2.1.drop (j+1),true)) (lg++[.tup [.str [115,112,111,105,108],.int p.1,.str (p.2.2.1.take j++y++p.2.2.1.drop (j+1))]]) N∧G.length≤g.length∧(∀ k,k≠A→k≠L→k<G.length→g[k]?=G[k]?)∨lg.length=1000:=by
  by_cases hlg:lg.length=1000
  · exact ⟨[],.inr hlg⟩
  have hbl:=I.bl
  rw [qEi]
  have t:=qCA (B:=B) (n:=n+2) I i p hi
  unfold pcD at t
  rw [hs] at t
  have e0:((ixN 4 0).bind fun j=>[D.int p.1,.int p.2.1,.str p.2.2.1,.bl false][j]?)=some (.int p.1):=rfl
  have e1:((ixN 4 1).bind fun j=>[D.int p.1,.int p.2.1,.str p.2.2.1,.bl false][j]?)=some (.int p.2.1):=rfl
  have e2:((ixN 4 2).bind fun j=>[D.int p.1,.int p.2.1,.str p.2.2.1,.bl false][j]?)=some (.str p.2.2.1):=rfl
  have e3:((ixN 4 3).bind fun j=>[D.int p.1,.int p.2.1,.str p.2.2.1,.bl false][j]?)=some (.bl false):=rfl
  have hjl:=(List.getElem?_eq_some_iff.mp hj).1
  have hil:=(List.getElem?_eq_some_iff.mp hi).1
  have tn:=qDn B (n+3) p.2.2.1.length j G hjl
  have hx:=tx_at hj
  have to:=qLJ B (n+1) y c G (by omega)
  rw [hy] at to
  have I1:=I.app [.lst (y.map fun c=>.bl (okC c))]
  generalize hG1:G++[O.lst (y.map fun c=>.bl (okC c))]=G1 at to I1
  have ej:(j:Int)+1=((j+1:Nat):Int):=by omega
  have l1:(p.2.2.1.take j).length=j:=by rw [List.length_take];omega
  have l2:(p.2.2.1.drop (j+1)).length≤1000:=by rw [List.length_drop];omega
  generalize hT:p.2.2.1.take j++y++p.2.2.1.drop (j+1)=T
  have hx2:=qAi hil
  have hA:=(List.getElem?_eq_some_iff.mp I1.a).1
  have hL:=(List.getElem?_eq_some_iff.mp I1.l).1
  have em:(ws.map pcD).set i (.tup [.int p.1,.int p.2.1,.str T,.bl true])=(ws.set i (p.1,p.2.1,T,true)).map pcD:=by rw [List.map_set];rfl
  have nAR:A≠R:=fun z=>by have:=I1.r;rw [← z,I1.a] at this;cases this
  have r2:(G1.set A (.lst ((ws.set i (p.1,p.2.1,T,true)).map pcD)))[R]?=some (.ins qAT (rd A L N)):=by rw [List.getElem?_set_ne nAR];exact I1.r
  have l3:(G1.set A (.lst ((ws.set i (p.1,p.2.1,T,true)).map pcD)))[L]?=some (.lst lg):=by rw [List.getElem?_set_ne I.al];exact I1.l
  have c1:j+y.length≤16777216:=by omega
  have c2:(p.2.2.1.take j++y).length+(p.2.2.1.drop (j+1)).length≤16777216:=by rw [List.length_append,l1];omega
  refine ⟨(G1.set A (.lst ((ws.set i (p.1,p.2.1,T,true)).map pcD))).set L (.lst (lg++[.tup [.str [115,112,111,105,108],.int p.1,.str T]])),.inl ⟨?_,⟨?_,?_,?_,I.al,by rw [List.length_set];exact I.bw,by rw [List.length_append,List.length_singleton];omega⟩,?_,?_⟩⟩
  · simp! only [qA3,I.r,n_at,tb_at,t,e2,e3,qBm,if_pos (show p.2.2.1.length≤16777216 by omega),tn,qBn,hx,to,qBo,qLk,ej,qEd,l1,if_pos c1,if_pos c2,hT,e0,e1,I1.r,g_way,I1.a,List.length_map,hx2,em,r2,g_dn,qAF l3,l3,if_pos (show lg.length<16777216 by omega)]
  · have nLR:L≠R:=fun z=>by have:=I1.r;rw [← z,I1.l] at this;cases this
    rw [List.getElem?_set_ne nLR];exact r2
  · rw [List.getElem?_set_ne (Ne.symm I.al),List.getElem?_set,if_pos rfl,if_pos hA]
  · rw [List.getElem?_set,if_pos rfl,if_pos (by rw [List.length_set];exact hL)]
  · rw [List.length_set,List.length_set,← hG1,List.length_append];omega
  · intro k h1 h2 h3
    rw [List.getElem?_set_ne (Ne.symm h2),List.getElem?_set_ne (Ne.symm h1),← hG1,List.getElem?_append_left h3]
noncomputable def txOk (y:Tx):Bool:=y.all okC&&(decide (1≤y.length)&&decide (y.length≤400))
theorem qLI (h:AH) (y:Tx) (hy:y.length≤1000):callN fns B (n+3) qC9 [.str y] h=.ok (.bl (txOk y)) (h++[.lst (y.map fun c=>.bl (okC c))]):=by
 rw [qDB]
 have t:=qDN B n y h hy
 have d1:decide ((1:Int)≤(y.length:Int))=decide (1≤y.length):=qBf 1 _
 have d2:decide ((y.length:Int)≤400)=decide (y.length≤400):=qBf _ 400
 have hz:y.length≤16777216:=by omega
 unfold txOk
 cases q1:y.all okC with
 | false=>simp! only [qAS,t,q1,Bool.false_and]
 | true =>
  by_cases q2:1≤y.length
  ·simp! only [qAS,t,q1,if_pos hz,d1,q2,d2,Bool.true_and]
  ·simp! only [qAS,t,q1,if_pos hz,d1,q2,d2,Bool.true_and,Bool.false_and]
end
section
variable {B n:Nat} {G:AH} {R A L N:Nat} {ws:List Pc} {lg:List D}
theorem qHR (I:Rd G R A L ws lg N):callN fns B (n+1) qDA [.ref R] G=.ok (.bl false) G:=by
 rw [qDC]
 have:=I.bw
 simp! only [qAe,I.r,g_way,qAF I.a,List.length_map,show ¬ (200:Int)≤(ws.length:Int) by omega]
theorem qHO (I:Rd G R A L ws lg N) (i:Nat) (hi:i<2) (y:Tx) (hy:y.length≤1000) (ht:txOk y=true) (hw:ws.length<100) (hl:lg.length<1000) :
    ∃ g,callN fns B (n+5) qFG [.ref R,.int i,.str y] G=.ok (.int N) g∧Rd g R A L (ws++[((N:Int),(i:Int),y,false)]) (lg++[.tup [.str [115,101,110,100],.int N,.int i,.str y]]) (N+1)∧G.length≤g.length∧(∀ k,k≠A→k≠L→k≠R→k<G.length→g[k]?=G[k]?):=by
  rw [qFO]
  have t:=qDn B (n+3) 2 i G hi
  have e:((2:Nat):Int)-1=1:=rfl
  rw [e] at t
  have t2:=qLI (B:=B) (n:=n+1) G y hy
  rw [ht] at t2
  have I1:=I.app [.lst (y.map fun c=>.bl (okC c))]
  generalize hG1:G++[O.lst (y.map fun c=>.bl (okC c))]=G1 at t2 I1
  have hA:=(List.getElem?_eq_some_iff.mp I1.a).1
  have hL:=(List.getElem?_eq_some_iff.mp I1.l).1
  have hR:=(List.getElem?_eq_some_iff.mp I1.r).1
  have nAR:A≠R:=fun z=>by have:=I1.r;rw [← z,I1.a] at this;cases this
  have nLR:L≠R:=fun z=>by have:=I1.r;rw [← z,I1.l] at this;cases this
  have f1:=qHR (B:=B) (n:=n+3) I1
  generalize hp:D.tup [.str [115,101,110,100],.int N,.int i,.str y]=q
  have I2:Rd (G1.set L (.lst (lg++[q]))) R A L ws (lg++[q]) N:=⟨by rw [List.getElem?_set_ne nLR];exact I1.r,by rw [List.getElem?_set_ne (Ne.symm I.al)];exact I1.a,by rw [List.getElem?_set,if_pos rfl,if_pos hL],I.al,I.bw,by rw [List.length_append,List.length_singleton];omega⟩
  generalize hG2:G1.set L (O.lst (lg++[q]))=G2 at I2
  have hR2:R<G2.length:=by rw [← hG2,List.length_set];exact hR
  have I3:Rd (G2.set R (.ins qAT (rd A L ((N+1:Nat):Int)))) R A L ws (lg++[q]) (N+1):=⟨by rw [List.getElem?_set,if_pos rfl,if_pos hR2],by rw [List.getElem?_set_ne (Ne.symm nAR)];exact I2.a,by rw [List.getElem?_set_ne (Ne.symm nLR)];exact I2.l,I.al,I.bw,I2.bl⟩
  have en:(N:Int)+1=((N+1:Nat):Int):=by omega
  generalize hG3:G2.set R (O.ins qAT (rd A L ((N+1:Nat):Int)))=G3 at I3
  have f3:=qHR (B:=B) (n:=n+2) I3
  have em:ws.map pcD++[.tup [.int N,.int i,.str y,.bl false]]=(ws++[((N:Int),(i:Int),y,false)]).map pcD:=by rw [List.map_append];rfl
  have hA3:A<G3.length:=by rw [← hG3,List.length_set,← hG2,List.length_set];exact hA
  have tp:callN fns B (n+4) qBv [.ref R,.int i,.str y,.bl false] G2=.ok .non (G3.set A (.lst ((ws++[((N:Int),(i:Int),y,false)]).map pcD))):=by
    rw [qBz]
    simp! only [qAZ,I2.r,g_nn,qFK,g_len,show 3<1000 by omega,p_nn,en,hG3,I3.r,qHF,qEx,f3,qAy,g_way,qAF I3.a,I3.a,List.length_map,if_pos (show ws.length<16777216 by omega),em]
  refine ⟨G3.set A (.lst ((ws++[((N:Int),(i:Int),y,false)]).map pcD)),?_,⟨by rw [List.getElem?_set_ne nAR];exact I3.r,by rw [List.getElem?_set,if_pos rfl,if_pos hA3],by rw [List.getElem?_set_ne I.al];exact I3.l,I.al,by rw [List.length_append,List.length_singleton];omega,I3.bl⟩,?_,?_⟩
  · simp! only [qBN,t,t2,qB5,I1.r,g_nn,qHF,qEx,f1,qB7,g_dn,qAF I1.l,I1.l,hp,if_pos (show lg.length<16777216 by omega),hG2,qB6,I2.r,n_put,qJm,tp]
  · rw [List.length_set,← hG3,List.length_set,← hG2,List.length_set,← hG1,List.length_append];omega
  · intro k h1 h2 h4 h3
    rw [List.getElem?_set_ne (Ne.symm h1),← hG3,List.getElem?_set_ne (Ne.symm h4),← hG2,List.getElem?_set_ne (Ne.symm h2),← hG1,List.getElem?_append_left h3]
theorem t4_0 (a b c d:D):((ixN 4 0).bind fun j=>[a,b,c,d][j]?)=some a:=rfl
theorem t4_1 (a b c d:D):((ixN 4 1).bind fun j=>[a,b,c,d][j]?)=some b:=rfl
theorem t4_2 (a b c d:D):((ixN 4 2).bind fun j=>[a,b,c,d][j]?)=some c:=rfl
noncomputable def flD (ws:List Pc):List D:=ws.map fun p=>.tup [.int p.1,.int p.2.1]
theorem qHX (f:D→M (Option D)) (g:D→D) (h:AH) (i:Nat) (xs:List D) (hi:getL h i=some xs) (hx:∀ x∈xs,f x h=.ok (some (g x)) h):∀ (m k:Nat),xs.length-k<m→k≤xs.length→qAE f i m k h=.ok ((xs.drop k).map g) h:=by
 intro m
 induction m with
 | zero=>intro k h1;omega
 | succ m ih =>
  intro k h1 h2
  unfold qAE
  simp only [hi]
  by_cases hk:k<xs.length
  ·rw [List.getElem?_eq_getElem hk]
   have e:=hx _ (List.getElem_mem hk)
   have r:=ih (k+1) (by omega) (by omega)
   rw [List.drop_eq_getElem_cons hk,List.map_cons]
   simp only [M.bind_eq,e,R.bind_ok,r,M.ret_eq]
  ·rw [List.getElem?_eq_none (by omega),List.drop_eq_nil_of_le (by omega)]
   rfl
theorem qBI (I:Rd G R A L ws lg N):callN fns B (n+1) qDt [.ref R] G=.ok (.ref G.length) (G++[.lst (flD ws)]):=by
 rw [qD0]
 have ga:=qAF I.a
 have hb:=I.bw
 have t:=qHX (compF (den (callN fns B n) qAz) [some (.ref R)]) (fun d=>match d with | .tup [.int a,.int b,_,_]=>.tup [.int a,.int b] | _=>.non) G A (ws.map pcD) ga (fun x hx=>by
  obtain ⟨p,hp,rfl⟩:=List.mem_map.mp hx
  unfold compF pcD
  simp! only [List.cons_append,List.nil_append,qAz,qMw,qMv]) (liveN G A) 0 (by unfold liveN;rw [ga];simp) (Nat.zero_le _)
 have em:(ws.map pcD).map (fun d=>match d with | .tup [.int a,.int b,_,_]=>.tup [.int a,.int b] | _=>.non)=flD ws:=by
  rw [List.map_map];rfl
 rw [List.drop_zero,em] at t
 have hl:(flD ws).length=ws.length:=by unfold flD;simp
 have hlv:liveN G A<16777216:=by unfold liveN;rw [ga];simp;omega
 simp! only [qAt,I.r,g_way,ga,if_pos hlv,t,hl,if_pos (show ws.length≤16777216 by omega)]
end
noncomputable def Fr (M:List Nat) (G G':AH):Prop:=G.length≤G'.length∧∀ (i:Nat) (o:O),i∉M→G[i]?=some o→G'[i]?=some o
theorem Fr.refl (M:List Nat) (G:AH):Fr M G G:=⟨Nat.le_refl _,fun _ _ _ e=>e⟩
theorem Fr.trans {M:List Nat} {a b c:AH} (x:Fr M a b) (y:Fr M b c):Fr M a c:=⟨Nat.le_trans x.1 y.1,fun i o n e=>y.2 i o n (x.2 i o n e)⟩
theorem Fr.app (M:List Nat) (G g:AH):Fr M G (G++g):=⟨by rw [List.length_append];omega,fun _ _ _ e=>qAX g e⟩
theorem Fr.set {M:List Nat} {i:Nat} (h:i∈M) (G:AH) (o:O):Fr M G (G.set i o):=⟨by rw [List.length_set];exact Nat.le_refl _,fun j _ n e=>by
 rw [List.getElem?_set_ne (fun z=>n (by rw [← z];exact h)),e]⟩
theorem Fr.of {A L R:Nat} {G g:AH} (hl:G.length≤g.length) (h:∀ k,k≠A→k≠L→k≠R→k<G.length→g[k]?=G[k]?):Fr [R,A,L] G g:=⟨hl,fun i o n e=>by
 simp only [List.mem_cons,List.not_mem_nil,or_false,not_or] at n
 rw [h i n.2.1 n.2.2 n.1 (List.getElem?_eq_some_iff.mp e).1,e]⟩
theorem Fr.mono {M M':List Nat} {G g:AH} (x:Fr M G g) (h:∀ i∈M,i∈M'):Fr M' G g:=⟨x.1,fun i o n e=>x.2 i o (fun z=>n (h i z)) e⟩
theorem pcx0 (p:Pc) (h:AH):biD .ix (pcD p) (.int 0) h=.ok (.int p.1) h:=rfl
theorem pcx1 (p:Pc) (h:AH):biD .ix (pcD p) (.int 1) h=.ok (.int p.2.1) h:=rfl
theorem pcx2 (p:Pc) (h:AH):biD .ix (pcD p) (.int 2) h=.ok (.str p.2.2.1) h:=rfl
theorem pcx3 (p:Pc) (h:AH):biD .ix (pcD p) (.int 3) h=.ok (.bl p.2.2.2) h:=rfl
section
variable {B n:Nat} {G:AH} {R A L N:Nat} {ws:List Pc} {lg:List D}
theorem Rd.nAR (I:Rd G R A L ws lg N):A≠R:=fun z=>by have:=I.r;rw [← z,I.a] at this;cases this
theorem Rd.nLR (I:Rd G R A L ws lg N):L≠R:=fun z=>by have:=I.r;rw [← z,I.l] at this;cases this
theorem Rd.two (I:Rd G R A L ws lg N) (ws':List Pc) (lg':List D) (h1:ws'.length≤100) (h2:lg'.length≤1000):Rd ((G.set A (.lst (ws'.map pcD))).set L (.lst lg')) R A L ws' lg' N∧Fr [R,A,L] G ((G.set A (.lst (ws'.map pcD))).set L (.lst lg')):=by
 have hA:=(List.getElem?_eq_some_iff.mp I.a).1
 have hL:=(List.getElem?_eq_some_iff.mp I.l).1
 refine ⟨⟨?_,?_,?_,I.al,h1,h2⟩,(Fr.set (by simp) _ _).trans (Fr.set (by simp) _ _)⟩
 ·rw [List.getElem?_set_ne I.nLR,List.getElem?_set_ne I.nAR];exact I.r
 ·rw [List.getElem?_set_ne I.al.symm,List.getElem?_set_self hA]
 ·rw [List.getElem?_set_self (by rw [List.length_set];exact hL)]
theorem Rd.one (I:Rd G R A L ws lg N) (ws':List Pc):(G.set A (.lst (ws'.map pcD)))[R]?=some (.ins qAT (rd A L N))∧(G.set A (.lst (ws'.map pcD)))[L]?=some (.lst lg)∧(G.set A (.lst (ws'.map pcD)))[A]?=some (.lst (ws'.map pcD)) :=
 ⟨by rw [List.getElem?_set_ne I.nAR];exact I.r,by rw [List.getElem?_set_ne I.al];exact I.l,List.getElem?_set_self (List.getElem?_eq_some_iff.mp I.a).1⟩
theorem qNi (ws:List Pc) (i:Nat):(ws.map pcD).eraseIdx i=(ws.eraseIdx i).map pcD:=by
 rw [List.eraseIdx_eq_take_drop_succ,List.eraseIdx_eq_take_drop_succ,List.map_append,List.map_take,List.map_drop]
theorem qJ5 (ws:List Pc) (i:Nat):(ws.eraseIdx i).length≤ws.length:=by
 rw [List.eraseIdx_eq_take_drop_succ,List.length_append,List.length_take,List.length_drop];omega
theorem qHU (I:Rd G R A L ws lg N) {i:Nat} {p:Pc} (hi:ws[i]?=some p):lpopK A (i:Int) G=.ok (pcD p) (G.set A (.lst ((ws.eraseIdx i).map pcD))):=by
 have hl:=(List.getElem?_eq_some_iff.mp hi).1
 have e:(ws.map pcD)[i]?=some (pcD p):=by rw [List.getElem?_map,hi];rfl
 have hb:=I.bw
 unfold lpopK
 rw [I.a]
 simp only [List.length_map,if_pos (show ws.length≤16777216 by omega),qAi hl,e,qNi]
theorem qGN (I:Rd G R A L ws lg N) (i:Nat) (p:Pc) (hi:ws[i]?=some p) (hl:lg.length<1000) :
    ∃ g,callN fns B (n+3) qEa [.ref R,.int i] G=.ok (.tup [.int p.2.1,.str p.2.2.1]) g∧Rd g R A L (ws.eraseIdx i) (lg++[.tup [.str [99,97,114,114,121],.int p.1,.int p.2.1,.str p.2.2.1]]) N∧Fr [R,A,L] G g:=by
  rw [qEj]
  have t:=qCA (B:=B) (n:=n) I i p hi
  have lp:=qHU I hi
  obtain ⟨r1,r2,_⟩:=I.one (ws.eraseIdx i)
  obtain ⟨J,F⟩:=I.two (ws.eraseIdx i) (lg++[.tup [.str [99,97,114,114,121],.int p.1,.int p.2.1,.str p.2.2.1]]) (Nat.le_trans (qJ5 ws i) I.bw) (by simp;omega)
  refine ⟨_,?_,J,F⟩
  simp! only [qA4,I.r,n_at,tb_at,t,g_way,qAF I.a,lp,pcx0,pcx1,pcx2,r1,g_dn,qAF r2,r2,if_pos (show lg.length<16777216 by omega),if_pos (show 4≤16777216 by omega),if_pos (show 2≤16777216 by omega)]
theorem qHP (I:Rd G R A L ws lg N) (i:Nat) (p:Pc) (hi:ws[i]?=some p) (hl:lg.length<1000) :
    ∃ g,callN fns B (n+3) qFH [.ref R,.int i] G=.ok .non g∧Rd g R A L (ws.eraseIdx i) (lg++[.tup [.str [108,111,115,101],.int p.1]]) N∧Fr [R,A,L] G g:=by
  rw [qFP]
  have t:=qCA (B:=B) (n:=n) I i p hi
  have lp:=qHU I hi
  obtain ⟨r1,r2,_⟩:=I.one (ws.eraseIdx i)
  obtain ⟨J,F⟩:=I.two (ws.eraseIdx i) (lg++[.tup [.str [108,111,115,101],.int p.1]]) (Nat.le_trans (qJ5 ws i) I.bw) (by simp;omega)
  refine ⟨_,?_,J,F⟩
  simp! only [qBO,I.r,n_at,tb_at,t,g_way,qAF I.a,lp,pcx0,r1,g_dn,qAF r2,r2,if_pos (show lg.length<16777216 by omega),if_pos (show 2≤16777216 by omega)]
theorem qHN (I:Rd G R A L ws lg N) (i j:Nat) (p q:Pc) (hi:ws[i]?=some p) (hj:ws[j]?=some q) (hl:lg.length<1000) :
    ∃ g,callN fns B (n+3) qFF [.ref R,.int i,.int j] G=.ok .non g∧Rd g R A L ((ws.set i q).set j p) (lg++[.tup [.str [116,117,114,110],.int p.1,.int q.1]]) N∧Fr [R,A,L] G g:=by
  rw [qFN]
  have t1:=qCA (B:=B) (n:=n) I i p hi
  have t2:=qCA (B:=B) (n:=n) I j q hj
  have il:=(List.getElem?_eq_some_iff.mp hi).1
  have jl:=(List.getElem?_eq_some_iff.mp hj).1
  obtain ⟨r1,r2,r3⟩:=I.one (ws.set i q)
  obtain ⟨r4,r5,r6⟩:=I.one ((ws.set i q).set j p)
  obtain ⟨J,F⟩:=I.two ((ws.set i q).set j p) (lg++[.tup [.str [116,117,114,110],.int p.1,.int q.1]]) (by simp;exact I.bw) (by simp;omega)
  have s1:(ws.map pcD).set i (pcD q)=(ws.set i q).map pcD:=by rw [List.map_set]
  have s2:((ws.set i q).map pcD).set j (pcD p)=((ws.set i q).set j p).map pcD:=by simp only [List.map_set]
  have i1:ixN ws.length (i:Int)=some i:=qAi il
  have i2:ixN (ws.set i q).length (j:Int)=some j:=qAi (by rw [List.length_set];exact jl)
  refine ⟨_,?_,J,F⟩
  simp! only [qBM,I.r,n_at,tb_at,t1,t2,g_way,I.a,List.length_map,i1,s1,r1,r3,i2,s2,List.set_set,r4,g_dn,qAF r5,r5,pcx0,if_pos (show 3≤16777216 by omega),if_pos (show lg.length<16777216 by omega)]
theorem qFB (I:Rd G R A L ws lg N) (i:Nat) (p:Pc) (hi:ws[i]?=some p) (hw:ws.length<100) (hl:lg.length<1000) :
    ∃ g,callN fns B (n+4) qDu [.ref R,.int i] G=.ok (.int N) g∧Rd g R A L (ws++[((N:Int),p.2.1,p.2.2.1,p.2.2.2)]) (lg++[.tup [.str [100,111,117,98,108,101],.int p.1,.int N]]) (N+1)∧Fr [R,A,L] G g:=by
  rw [qD1]
  have t:=qCA (B:=B) (n:=n+1) I i p hi
  have hA:=(List.getElem?_eq_some_iff.mp I.a).1
  have hL:=(List.getElem?_eq_some_iff.mp I.l).1
  have hR:=(List.getElem?_eq_some_iff.mp I.r).1
  obtain ⟨q,hp⟩:∃ q,q=D.tup [.str [100,111,117,98,108,101],.int p.1,.int N]:=⟨_,rfl⟩
  have I2:Rd (G.set L (.lst (lg++[q]))) R A L ws (lg++[q]) N:=⟨by rw [List.getElem?_set_ne I.nLR];exact I.r,by rw [List.getElem?_set_ne I.al.symm];exact I.a,List.getElem?_set_self hL,I.al,I.bw,by simp;omega⟩
  have F2:Fr [R,A,L] G (G.set L (.lst (lg++[q]))):=Fr.set (by simp) _ _
  generalize hG2:G.set L (O.lst (lg++[q]))=G2 at I2 F2
  have hR2:R<G2.length:=by rw [← hG2,List.length_set];exact hR
  have I3:Rd (G2.set R (.ins qAT (rd A L ((N+1:Nat):Int)))) R A L ws (lg++[q]) (N+1):=⟨List.getElem?_set_self hR2,by rw [List.getElem?_set_ne I.nAR.symm];exact I2.a,by rw [List.getElem?_set_ne I.nLR.symm];exact I2.l,I.al,I.bw,I2.bl⟩
  have F3:Fr [R,A,L] G2 (G2.set R (.ins qAT (rd A L ((N+1:Nat):Int)))):=Fr.set (by simp) _ _
  have en:(N:Int)+1=((N+1:Nat):Int):=by omega
  generalize hG3:G2.set R (O.ins qAT (rd A L ((N+1:Nat):Int)))=G3 at I3 F3
  have f3:=qHR (B:=B) (n:=n+1) I3
  have em:ws.map pcD++[.tup [.int N,.int p.2.1,.str p.2.2.1,.bl p.2.2.2]]=(ws++[((N:Int),p.2.1,p.2.2.1,p.2.2.2)]).map pcD:=by rw [List.map_append];rfl
  have tp:callN fns B (n+3) qBv [.ref R,.int p.2.1,.str p.2.2.1,.bl p.2.2.2] G2=.ok .non (G3.set A (.lst ((ws++[((N:Int),p.2.1,p.2.2.1,p.2.2.2)]).map pcD))):=by
    rw [qBz]
    simp! only [qAZ,I2.r,g_nn,qFK,g_len,show 3<1000 by omega,p_nn,en,hG3,I3.r,qHF,qEx,f3,qAy,g_way,qAF I3.a,I3.a,List.length_map,if_pos (show ws.length<16777216 by omega),em,if_pos (show 4≤16777216 by omega)]
  have hA3:=(List.getElem?_eq_some_iff.mp I3.a).1
  refine ⟨G3.set A (.lst ((ws++[((N:Int),p.2.1,p.2.2.1,p.2.2.2)]).map pcD)),?_,⟨by rw [List.getElem?_set_ne I.nAR];exact I3.r,List.getElem?_set_self hA3,by rw [List.getElem?_set_ne I.al,hp.symm];exact I3.l,I.al,by simp;omega,by simp;omega⟩,(F2.trans F3).trans (Fr.set (by simp) _ _)⟩
  simp! only [qAu,I.r,n_at,tb_at,t,g_nn,g_dn,qAF I.l,pcx0,if_pos (show 3≤16777216 by omega),I.l,← hp,if_pos (show lg.length<16777216 by omega),hG2,I2.r,n_put,qJm,pcx1,pcx2,pcx3,tp]
end
noncomputable def okT (y:Tx):Prop:=y.all okC=true∧1≤y.length∧y.length≤400
noncomputable def SGN:Tx:=[32,33,34,35,36,38,39,40,41,42,43,44,45,46,47,48,49,50,51,52,53,54,55,56,57,58,59,60,61,62,63,64,65,66,67,68,69,70,71,72,73,74,75,76,77,78,79,80,81,82,83,84,85,86,87,88,89,90,91,92,93,94,95,96,97,98,99,100,101,102,103,104,105,106,107,108,109,110,111,112,113,114,115,116,117,118,119,120,121,122,123,124,125,126]
theorem qIV:SGN.length=94:=rfl
theorem qN4:∀ c∈SGN,okC c=true:=by decide
theorem qKC (i:Int):∃ c,okC c=true∧((ixN 94 (i % 94)).bind fun j=>SGN[j]?)=some c:=by
 have h1:=Int.emod_nonneg i (show (94:Int)≠0 by omega)
 have h2:=Int.emod_lt_of_pos i (show (0:Int)<94 by omega)
 obtain ⟨k,hk,hk2⟩:∃ k:Nat,i % 94=(k:Int)∧k<94:=⟨(i % 94).toNat,by omega,by omega⟩
 have hk3:k<SGN.length:=hk2
 refine ⟨SGN[k],qN4 _ (List.getElem_mem hk3),?_⟩
 rw [hk,qAi hk2,Option.bind_some,List.getElem?_eq_getElem hk3]
theorem qBT (f:D→M (Option D)) (h:AH):∀ xs:List D,(∀ x∈xs,∃ c,okC c=true∧f x h=.ok (some (.str [c])) h)→∃ y:Tx,qAI f xs h=.ok (y.map fun c=>.str [c]) h∧y.length=xs.length∧y.all okC=true
 | [],_=>⟨[],rfl,rfl,rfl⟩
 | x::xs,H=>by
  obtain ⟨c,h1,h2⟩:=H x (List.mem_cons_self ..)
  obtain ⟨y,e1,e2,e3⟩:=qBT f h xs fun z hz=>H z (List.mem_cons_of_mem _ hz)
  refine ⟨c::y,?_,by simp [e2],by rw [List.all_cons,h1,e3];rfl⟩
  show ((f x).bind fun y=>(qAI f xs).bind fun ys=>M.ret (match y with | some y=>y::ys | none=>ys)) h=_
  simp only [M.bind_eq,h2,R.bind_ok,e1,M.ret_eq]
  rfl
theorem qB9:∀ y:Tx,qAW (y.map fun c=>.str [c])=some (y.map fun c=>[c])
 | []=>rfl
 | c::y=>by
  show (qAW (y.map fun c=>.str [c])).map ([c]::·)=_
  rw [qB9 y]
  rfl
theorem qCB:∀ y:Tx,joinT [] (y.map fun c=>[c])=y
 | []=>rfl
 | [c]=>rfl
 | c::d::y=>by
  have:=qCB (d::y)
  show [c]++[]++joinT [] ((d::y).map fun c=>[c])=_
  rw [this]
  rfl
theorem qCk (y:Tx) (hy:y.length≤1000):joinN [] (y.map fun c=>[c])≤16777216:=by
 unfold joinN
 rw [List.map_map,List.length_map,show (List.length ∘ fun (c:Nat)=>[c])=fun _=>1 from rfl,List.map_const',List.sum_replicate_nat]
 simp only [List.length_nil,Nat.mul_zero]
 omega
theorem qCg (B n:Nat) (h:AH) (x:Int) (k:Nat) (hk:1≤k∧k≤400):∃ y g,callN fns B (n+1) qCn [.int x,.int k] h=.ok (.str y) (h++g)∧okT y∧y.length=k:=by
 rw [qFL]
 have hs:qAH (k:Int):=by unfold qAH;omega
 have f3:(0:Int)<3∧(3:Int)<1073741824:=⟨by omega,by omega⟩
 have f282:(0:Int)<282∧(282:Int)<1073741824:=⟨by omega,by omega⟩
 have hSG:D.str [32,33,34,35,36,38,39,40,41,42,43,44,45,46,47,48,49,50,51,52,53,54,55,56,57,58,59,60,61,62,63,64,65,66,67,68,69,70,71,72,73,74,75,76,77,78,79,80,81,82,83,84,85,86,87,88,89,90,91,92,93,94,95,96,97,98,99,100,101,102,103,104,105,106,107,108,109,110,111,112,113,114,115,116,117,118,119,120,121,122,123,124,125,126]=D.str SGN:=rfl
 obtain ⟨y1,e1,e2,e3⟩:=qBT (compF (den (callN fns B n) qBK) [some (.int x),some (.int k),some (.str SGN)]) h (qAR 0 k) (fun z hz=>by
  unfold qAR at hz
  obtain ⟨j,_,rfl⟩:=List.mem_map.mp hz
  obtain ⟨c,hc1,hc2⟩:=qKC (x / 3)
  refine ⟨c,hc1,?_⟩
  unfold compF
  simp! only [List.cons_append,List.nil_append,qBK,if_pos f3,qIV,if_pos (show 94≤16777216 by omega),hc2])
 obtain ⟨y2,u1,u2,u3⟩:=qBT (compF (den (callN fns B n) qBJ) [some (.int x),some (.int k),some (.str SGN)]) h (qAR 0 k) (fun z hz=>by
  unfold qAR at hz
  obtain ⟨j,hj,rfl⟩:=List.mem_map.mp hz
  have hj:=List.mem_range.mp hj
  obtain ⟨c,hc1,hc2⟩:=qKC (x / 3+(0+(j:Int))*(1+x / 282 % 93))
  refine ⟨c,hc1,?_⟩
  unfold compF
  simp! only [List.cons_append,List.nil_append,qBJ,if_pos f3,if_pos f282,if_pos (qE7 (i:=0+(j:Int)) (j:=1+x / 282 % 93) (by omega)),qIV,if_pos (show 94≤16777216 by omega),hc2])
 rw [qBS] at e2 u2
 cases q:(x % 3 == 0) with
 | true =>
  refine ⟨y1,[.lst (y1.map fun c=>.str [c])],?_,⟨e3,by omega,by omega⟩,e2⟩
  simp only [qAx,denS,den,denT,denI,denL,M.bind_eq,M.ret_eq,R.bind_ok,qG9,tgSet,qCH,List.getElem?_cons_zero,List.getElem?_cons_succ,List.set_cons_zero,List.set_cons_succ,hSG]
  simp! only [q,if_pos hs,Int.toNat_natCast,qBS,if_pos (show k<16777216 by omega),e1,List.length_map,e2,if_pos (show k≤16777216 by omega),qAG,qFt,Option.bind_some,qB9,if_pos (qCk y1 (by omega)),qCB]
 | false =>
  refine ⟨y2,[.lst (y2.map fun c=>.str [c])],?_,⟨u3,by omega,by omega⟩,u2⟩
  simp only [qAx,denS,den,denT,denI,denL,M.bind_eq,M.ret_eq,R.bind_ok,qG9,tgSet,qCH,List.getElem?_cons_zero,List.getElem?_cons_succ,List.set_cons_zero,List.set_cons_succ,hSG]
  simp! only [q,qB1,if_pos hs,Int.toNat_natCast,qBS,if_pos (show k<16777216 by omega),u1,List.length_map,u2,if_pos (show k≤16777216 by omega),qAG,qFt,Option.bind_some,qB9,if_pos (qCk y2 (by omega)),qCB]
theorem qJE (B n:Nat) (h:AH):callN fns B (n+1) qFI [.ref h.length] (h++[.ins qAT []])=.ok .non (h++[.ins qAT (rd (h.length+1) (h.length+2) 0),.lst [],.lst []]):=by
 rw [qFQ]
 simp! only [qBP,qHp,qFK,qGs,List.length_nil,List.length_cons,show 0<1000 by omega,if_pos (show 0≤16777216 by omega),List.append_assoc,List.length_append]
 rfl
theorem ne_s1:(([99,97,114,114,121]:Tx) == [115,101,110,100])=false:=rfl
theorem ne_s2:(([108,111,115,101]:Tx) == [115,101,110,100])=false:=rfl
theorem ne_s3:(([100,111,117,98,108,101]:Tx) == [115,101,110,100])=false:=rfl
theorem ne_s4:(([116,117,114,110]:Tx) == [115,101,110,100])=false:=rfl
theorem ne_s5:(([115,112,111,105,108]:Tx) == [115,101,110,100])=false:=rfl
theorem ne_c2:(([108,111,115,101]:Tx) == [99,97,114,114,121])=false:=rfl
theorem ne_c3:(([100,111,117,98,108,101]:Tx) == [99,97,114,114,121])=false:=rfl
theorem ne_c4:(([116,117,114,110]:Tx) == [99,97,114,114,121])=false:=rfl
theorem ne_c5:(([115,112,111,105,108]:Tx) == [99,97,114,114,121])=false:=rfl
theorem ne_l3:(([100,111,117,98,108,101]:Tx) == [108,111,115,101])=false:=rfl
theorem ne_l4:(([116,117,114,110]:Tx) == [108,111,115,101])=false:=rfl
theorem ne_l5:(([115,112,111,105,108]:Tx) == [108,111,115,101])=false:=rfl
theorem ne_d4:(([116,117,114,110]:Tx) == [100,111,117,98,108,101])=false:=rfl
theorem ne_d5:(([115,112,111,105,108]:Tx) == [100,111,117,98,108,101])=false:=rfl
theorem ne_t5:(([115,112,111,105,108]:Tx) == [116,117,114,110])=false:=rfl
theorem t2_0 (a b:D):((ixN 2 0).bind fun j=>[a,b][j]?)=some a:=rfl
theorem t2_1 (a b:D):((ixN 2 1).bind fun j=>[a,b][j]?)=some b:=rfl
theorem t3_0 (a b c:D):((ixN 3 0).bind fun j=>[a,b,c][j]?)=some a:=rfl
theorem t3_1 (a b c:D):((ixN 3 1).bind fun j=>[a,b,c][j]?)=some b:=rfl
theorem t3_2 (a b c:D):((ixN 3 2).bind fun j=>[a,b,c][j]?)=some c:=rfl
theorem t4_3 (a b c d:D):((ixN 4 3).bind fun j=>[a,b,c,d][j]?)=some d:=rfl
theorem qAl {x:Ky × D} {r:List (Ky × D)} {k:Ky} (e:x.1=k):valY (x::r) k=some x.2:=by
 unfold valY
 rw [List.find?_cons_of_pos (by simpa using e)]
 rfl
theorem qAm {x:Ky × D} {r:List (Ky × D)} {k:Ky} (e:¬ x.1=k):valY (x::r) k=valY r k:=by
 unfold valY
 rw [List.find?_cons_of_neg (by simpa using e)]
theorem qDW (k:Ky):∀ kvs:List (Ky × D),(kvs.any fun kv=>decide (kv.1=k))=(valY kvs k).isSome
 | []=>rfl
 | x::r=>by
  rw [List.any_cons]
  by_cases e:x.1=k
  ·rw [qAl e,decide_eq_true e];rfl
  ·rw [qAm e,decide_eq_false e,Bool.false_or];exact qDW k r
theorem qFa (k j:Ky) (y:D):∀ kvs:List (Ky × D),valY (kvs.map fun kv=>if kv.1=k then (kv.1,y) else kv) j=(valY kvs j).map fun x=>if j=k then y else x
 | []=>rfl
 | p::r=>by
  have ih:=qFa k j y r
  rw [List.map_cons]
  by_cases h:p.1=k
  ·rw [if_pos h]
   by_cases e:p.1=j
   ·rw [qAl (x:=(p.1,y)) e,qAl e,Option.map_some,if_pos (e.symm.trans h)]
   ·rw [qAm (x:=(p.1,y)) e,qAm e,ih]
  ·rw [if_neg h]
   by_cases e:p.1=j
   ·rw [qAl (x:=p) e,qAl e,Option.map_some,if_neg (fun z=>h (e.trans z))]
   ·rw [qAm (x:=p) e,qAm e,ih]
theorem qEA (k j:Ky) (y:D):∀ kvs:List (Ky × D),valY kvs k=none→valY (kvs++[(k,y)]) j=if j=k then some y else valY kvs j
 | [],_=>by
  by_cases e:k=j
  ·rw [if_pos e.symm];exact qAl (x:=(k,y)) e
  ·rw [if_neg (fun z=>e z.symm)];exact qAm (x:=(k,y)) e
 | p::r,hn=>by
  have hk:¬ p.1=k:=fun z=>by rw [qAl z] at hn;cases hn
  rw [qAm hk] at hn
  have ih:=qEA k j y r hn
  rw [List.cons_append]
  by_cases e:p.1=j
  ·rw [qAl e,qAl e,if_neg (fun z=>hk (e.trans z))]
  ·rw [qAm e,qAm e,ih]
theorem qBd (kvs:List (Ky × D)) (k j:Ky) (y:D):valY (putY kvs k y) j=if j=k then some y else valY kvs j:=by
 unfold putY
 cases a:(kvs.any fun kv=>decide (kv.1=k)) with
 | true =>
  rw [if_pos rfl,qFa]
  rw [qDW] at a
  by_cases e:j=k
  ·subst e
   obtain ⟨x,hx⟩:=Option.isSome_iff_exists.mp a
   rw [hx,if_pos rfl,Option.map_some,if_pos rfl]
  ·rw [if_neg e]
   cases valY kvs j with
   | none=>rfl
   | some x=>rw [Option.map_some,if_neg e]
 | false =>
  rw [if_neg (by decide)]
  refine qEA k j y kvs ?_
  rw [qDW] at a
  cases q:valY kvs k with
  | none=>rfl
  | some x=>rw [q] at a;cases a
theorem qFp (kvs:List (Ky × D)) (k:Ky) (y:D):(putY kvs k y).length≤kvs.length+1:=by
 unfold putY
 split
 ·rw [List.length_map];omega
 ·simp
inductive Dd where
 | send (i:Nat) (y:Tx) | carry (p:Int) | lose (p:Int) | double (p:Int) | turn (p o:Int) | spoil (p a:Int) (c:Nat)
noncomputable def dD:Dd→D
 | .send i y=>.tup [.str [115,101,110,100],.int i,.str y]
 | .carry p=>.tup [.str [99,97,114,114,121],.int p]
 | .lose p=>.tup [.str [108,111,115,101],.int p]
 | .double p=>.tup [.str [100,111,117,98,108,101],.int p]
 | .turn p o=>.tup [.str [116,117,114,110],.int p,.int o]
 | .spoil p a c=>.tup [.str [115,112,111,105,108],.int p,.int a,.str [c]]
noncomputable def okD:Dd→Prop
 | .send i y=>i<2∧okT y
 | .spoil _ _ c=>okC c=true
 | _=>True
theorem pick2 (b:Bool) (u v:D):((ixN 2 (if b=true then 1 else 0)).bind fun j=>[u,v][j]?)=some (if b=true then v else u):=by cases b <;> rfl
theorem pick3 (b c:Bool) (u v w:D):((ixN 3 ((if b=true then 1 else 0)+(if c=true then 1 else 0))).bind fun j=>[u,v,w][j]?)=some (if b=true then (if c=true then w else v) else if c=true then v else u):=by cases b <;> cases c <;> rfl
theorem six {X:List Int} (h:X.length=6):∃ a b c d e f,X=[a,b,c,d,e,f]:=by
 match X,h with
 | [a,b,c,d,e,f],_=>exact ⟨a,b,c,d,e,f,rfl⟩
theorem s0 (a b c d e f:D):((ixN 6 0).bind fun j=>[a,b,c,d,e,f][j]?)=some a:=rfl
theorem s1 (a b c d e f:D):((ixN 6 1).bind fun j=>[a,b,c,d,e,f][j]?)=some b:=rfl
theorem s2 (a b c d e f:D):((ixN 6 2).bind fun j=>[a,b,c,d,e,f][j]?)=some c:=rfl
theorem s3 (a b c d e f:D):((ixN 6 3).bind fun j=>[a,b,c,d,e,f][j]?)=some d:=rfl
theorem s4 (a b c d e f:D):((ixN 6 4).bind fun j=>[a,b,c,d,e,f][j]?)=some e:=rfl
theorem s5 (a b c d e f:D):((ixN 6 5).bind fun j=>[a,b,c,d,e,f][j]?)=some f:=rfl
theorem qGM (B n:Nat) (h:AH) (cell:Int) (cnt:Nat) (hc:cnt≤1000):∃ dd g,callN fns B (n+2) qGR [.int cell,.int cnt] h=.ok (dD dd) (h++g)∧okD dd:=by
 rw [qGX]
 obtain ⟨g0,X,sx,gX,lX,bX⟩:=qJC B n h cell 6 (by omega)
 have sx:callN fns B (n+1) qCI [.int cell,.int 6] h=.ok (.ref (h.length+1)) (h++g0):=sx
 obtain ⟨x0,x1,x2,x3,x4,x5,rfl⟩:=six lX
 have gX:getL (h++g0) (h.length+1)=some [.int x0,.int x1,.int x2,.int x3,.int x4,.int x5]:=gX
 obtain ⟨K,hK⟩:∃ K,K=h++g0:=⟨_,rfl⟩
 obtain ⟨ix,hix⟩:∃ ix,ix=h.length+1:=⟨_,rfl⟩
 rw [← hK,← hix] at sx gX
 have b5:=bX x5 (by simp)
 obtain ⟨w,hw,hw2⟩:∃ w:Nat,x0 % 12=(w:Int)∧w<12:=⟨(x0 % 12).toNat,by omega,by omega⟩
 obtain ⟨mx,hmx,mx0⟩:∃ mx:Int,(if (cnt:Int) > 1 then (cnt:Int) else 1)=mx∧0<mx:=by
  refine ⟨_,rfl,?_⟩
  split <;> omega
 have m2:(0:Int)<(cnt:Int)+2:=by omega
 have f8:(0:Int)<8∧(8:Int)<1073741824:=⟨by omega,by omega⟩
 obtain ⟨p,hp⟩:∃ p:Int,(if (x2 % 8 == 0)=true then D.int (x1 % ((cnt:Int)+2)-1) else .int (x1 % mx))=.int p:=by
  cases (x2 % 8 == 0) <;> exact ⟨_,rfl⟩
 obtain ⟨o,ho⟩:∃ o:Int,(if (x2 / 8 % 8 == 0)=true then D.int (x3 % ((cnt:Int)+2)-1) else .int (x3 % mx))=.int o:=by
  cases (x2 / 8 % 8 == 0) <;> exact ⟨_,rfl⟩
 obtain ⟨K1,hK1⟩:∃ K1,K1=K++[.lst [.int (x1 % mx),.int (x1 % ((cnt:Int)+2)-1)]]:=⟨_,rfl⟩
 have gX1:getL K1 ix=some [.int x0,.int x1,.int x2,.int x3,.int x4,.int x5]:=by rw [hK1];exact qBw _ gX
 have gl1:getL K1 K.length=some [.int (x1 % mx),.int (x1 % ((cnt:Int)+2)-1)]:=by rw [hK1,qAG];rfl
 obtain ⟨K2,hK2⟩:∃ K2,K2=K1++[.lst [.int (x3 % mx),.int (x3 % ((cnt:Int)+2)-1)]]:=⟨_,rfl⟩
 have gX2:getL K2 ix=some [.int x0,.int x1,.int x2,.int x3,.int x4,.int x5]:=by rw [hK2];exact qBw _ gX1
 have gl2:getL K2 K1.length=some [.int (x3 % mx),.int (x3 % ((cnt:Int)+2)-1)]:=by rw [hK2,qAG];rfl
 have eK2:∃ g,K2=h++g:=⟨g0++([.lst [.int (x1 % mx),.int (x1 % ((cnt:Int)+2)-1)]]++[.lst [.int (x3 % mx),.int (x3 % ((cnt:Int)+2)-1)]]),by rw [hK2,hK1,hK];simp only [List.append_assoc]⟩
 obtain ⟨gg,hgg⟩:=eK2
 have pre:∀ rest,(∀ x6 x7,denS (callN fns B (n+1)) B (.seq (.ite (.val (.bi .lt (.var 3) (.lit (.int 4)))) qBZ .skip) qAh) [some (.int cell),some (.int cnt),some (.ref ix),some (.int w),some (.int p),some (.int o),x6,x7] K2=rest)→denS (callN fns B (n+1)) B qBE [some (.int cell),some (.int cnt),none,none,none,none,none,none] h=rest:=fun rest hr=>by
  rw [← hr none none]
  simp only [qBE,denS]
  simp! only [sx,gX,Option.bind_some,s0,hw,s1,s2,hmx,if_pos mx0,if_pos m2,if_pos (show 2≤16777216 by omega)]
  rw [← hK1]
  simp! only [gX1,gl1,Option.bind_some,s2,pick2,hp,s3,hmx,if_pos mx0,if_pos m2,if_pos (show 2≤16777216 by omega)]
  rw [← hK2]
  simp! only [gX2,gl2,Option.bind_some,s2,pick2,if_pos f8,ho]
 by_cases w4:w<4
 ·-- send
  obtain ⟨k,hk,hk2⟩:∃ k:Nat,(if (x5 % 4 == 0)=true then (if (x5 % 24 == 0)=true then D.int (400-x4 % 3) else .int (1+x4 % 120)) else if (x5 % 24 == 0)=true then .int (1+x4 % 120) else .int (1+x4 % 12))=.int k∧(1≤k∧k≤400):=by
   cases (x5 % 4 == 0) <;> cases (x5 % 24 == 0)
   ·exact ⟨(1+x4 % 12).toNat,by show D.int _=D.int _;congr 1;omega,by omega,by omega⟩
   ·exact ⟨(1+x4 % 120).toNat,by show D.int _=D.int _;congr 1;omega,by omega,by omega⟩
   ·exact ⟨(1+x4 % 120).toNat,by show D.int _=D.int _;congr 1;omega,by omega,by omega⟩
   ·exact ⟨(400-x4 % 3).toNat,by show D.int _=D.int _;congr 1;omega,by omega,by omega⟩
  obtain ⟨K3,hK3⟩:∃ K3,K3=K2++[.lst [.int (1+x4 % 12),.int (1+x4 % 120),.int (400-x4 % 3)]]:=⟨_,rfl⟩
  have gX3:getL K3 ix=some [.int x0,.int x1,.int x2,.int x3,.int x4,.int x5]:=by rw [hK3];exact qBw _ gX2
  have gl3:getL K3 K2.length=some [.int (1+x4 % 12),.int (1+x4 % 120),.int (400-x4 % 3)]:=by rw [hK3,qAG];rfl
  obtain ⟨y,g2,sg,oky,_⟩:=qCg B n K3 x3 k hk2
  obtain ⟨i,hi,hi2⟩:∃ i:Nat,x1 % 2=(i:Int)∧i<2:=⟨(x1 % 2).toNat,by omega,by omega⟩
  have d4:decide ((w:Int)<4)=true:=decide_eq_true (by omega)
  refine ⟨.send i y,gg++([.lst [.int (1+x4 % 12),.int (1+x4 % 120),.int (400-x4 % 3)]]++g2),?_,hi2,oky⟩
  rw [pre (.rt (dD (.send i y)) (K3++g2)) (fun x6 x7=>?_)]
  ·rw [qEc,hK3,hgg];simp only [List.append_assoc]
  ·simp only [denS]
   simp! only [d4,qBZ,gX2,Option.bind_some,s4,if_pos (show 3≤16777216 by omega)]
   rw [← hK3]
   simp! only [gX3,gl3,Option.bind_some,s5,pick3,hk,s1,hi,s3,sg,if_pos (show 3≤16777216 by omega),dD]
 ·have d4:decide ((w:Int)<4)=false:=decide_eq_false (by omega)
  by_cases w10:w=10
  ·subst w10
   refine ⟨.turn p o,gg,?_,trivial⟩
   rw [pre (.rt (dD (.turn p o)) K2) (fun x6 x7=>?_)]
   ·rw [qEc,hgg]
   ·have e10:(((10:Nat):Int) == 10)=true:=rfl
    have d4:decide (((10:Nat):Int)<4)=false:=d4
    simp only [denS]
    simp! only [d4,qAh,e10,if_pos (show 3≤16777216 by omega),dD]
  ·have e10:((w:Int) == 10)=false:=by simp;omega
   by_cases w7:7<w
   ·-- spoil
    have d7:decide ((7:Int)<(w:Int))=true:=decide_eq_true (by omega)
    obtain ⟨a,ha⟩:∃ a:Int,(if (x3 % 3 == 0)=true then (if (x3 % 12 == 0)=true then D.int (x4 % 401) else .int (x4 % 120)) else if (x3 % 12 == 0)=true then .int (x4 % 120) else .int (x4 % 14-if (x4 % 9 == 0)=true then 1 else 0))=.int a:=by
     cases (x3 % 3 == 0) <;> cases (x3 % 12 == 0) <;> exact ⟨_,rfl⟩
    obtain ⟨K3,hK3⟩:∃ K3,K3=K2++[.lst [.int (x4 % 14-if (x4 % 9 == 0)=true then 1 else 0),.int (x4 % 120),.int (x4 % 401)]]:=⟨_,rfl⟩
    have gX3:getL K3 ix=some [.int x0,.int x1,.int x2,.int x3,.int x4,.int x5]:=by rw [hK3];exact qBw _ gX2
    have gl3:getL K3 K2.length=some [.int (x4 % 14-if (x4 % 9 == 0)=true then 1 else 0),.int (x4 % 120),.int (x4 % 401)]:=by rw [hK3,qAG];rfl
    obtain ⟨y,g2,sg,oky,yl⟩:=qCg B n K3 (3*x5) 1 (by omega)
    have sg:callN fns B (n+1) qCn [.int (3*x5),.int 1] K3=.ok (.str y) (K3++g2):=sg
    obtain ⟨c,rfl⟩:∃ c,y=[c]:=by
     match y,yl with
     | [c],_=>exact ⟨c,rfl⟩
    have okc:okC c=true:=by
     have:=oky.1
     rw [List.all_cons,Bool.and_eq_true] at this
     exact this.1
    have mo:mulOk (3:Int) x5:=qE7 (by omega)
    refine ⟨.spoil p a c,gg++([.lst [.int (x4 % 14-if (x4 % 9 == 0)=true then 1 else 0),.int (x4 % 120),.int (x4 % 401)]]++g2),?_,okc⟩
    rw [pre (.rt (dD (.spoil p a c)) (K3++g2)) (fun x6 x7=>?_)]
    ·rw [qEc,hK3,hgg];simp only [List.append_assoc]
    ·simp only [denS]
     simp! only [d4,qAh,e10,qBY,d7,qCO,gX2,Option.bind_some,s4,if_pos (show 3≤16777216 by omega)]
     rw [← hK3]
     simp! only [gX3,gl3,Option.bind_some,s3,pick3,ha,s5,if_pos mo,sg,if_pos (show 4≤16777216 by omega),dD]
   ·have d7:decide ((7:Int)<(w:Int))=false:=decide_eq_false (by omega)
    obtain ⟨v,hv,hv2⟩:∃ v:Nat,(w:Int)-4=(v:Int)∧v<4:=⟨w-4,by omega,by omega⟩
    obtain ⟨dd,hdd,okd⟩:∃ dd,[D.tup [.str [99,97,114,114,121],.int p],.tup [.str [108,111,115,101],.int p],.tup [.str [100,111,117,98,108,101],.int p],.tup [.str [100,111,117,98,108,101],.int p]][v]?=some (dD dd)∧okD dd:=by
     match v,hv2 with
     | 0,_=>exact ⟨.carry p,rfl,trivial⟩
     | 1,_=>exact ⟨.lose p,rfl,trivial⟩
     | 2,_=>exact ⟨.double p,rfl,trivial⟩
     | 3,_=>exact ⟨.double p,rfl,trivial⟩
    obtain ⟨l4,hl4⟩:∃ l4,l4=[D.tup [.str [99,97,114,114,121],.int p],.tup [.str [108,111,115,101],.int p],.tup [.str [100,111,117,98,108,101],.int p],.tup [.str [100,111,117,98,108,101],.int p]]:=⟨_,rfl⟩
    rw [← hl4] at hdd
    have l4l:l4.length=4:=by rw [hl4];rfl
    have i4:((ixN l4.length (v:Int)).bind fun j=>l4[j]?)=some (dD dd):=by rw [l4l,qAi hv2,Option.bind_some,hdd]
    obtain ⟨K3,hK3⟩:∃ K3,K3=K2++[.lst l4]:=⟨_,rfl⟩
    have gl3:getL K3 K2.length=some l4:=by rw [hK3,qAG];rfl
    refine ⟨dd,gg++[.lst l4],?_,okd⟩
    rw [pre (.rt (dD dd) K3) (fun x6 x7=>?_)]
    ·rw [qEc,hK3,hgg];simp only [List.append_assoc]
    ·simp only [denS]
     simp! only [d4,qAh,e10,qBY,d7,qCN,if_pos (show 2≤16777216 by omega),if_pos (show 4≤16777216 by omega)]
     rw [← hl4,← hK3]
     simp! only [gl3,Option.bind_some,hv,i4]
noncomputable def df (x t:Tx):Nat:=((x.zip t).filter fun q=>q.1 != q.2).length
noncomputable def un (x t:Tx):Prop:=x.length=t.length∧df x t≤1
theorem qFJ:∀ t:Tx,df t t=0
 | []=>rfl
 | c::t=>by
  have:=qFJ t
  unfold df at this ⊢
  rw [List.zip_cons_cons,List.filter_cons_of_neg (by simp)]
  exact this
theorem qKE (t:Tx):un t t:=⟨rfl,by rw [qFJ];omega⟩
theorem qJ7:∀ (t:Tx) (j c:Nat),df (t.set j c) t≤1
 | [],j,c=>Nat.zero_le _
 | a::t,0,c=>by
  have:=qFJ t
  unfold df at this ⊢
  rw [List.set_cons_zero,List.zip_cons_cons,List.filter_cons]
  split
  ·rw [List.length_cons,this];omega
  ·rw [this];omega
 | a::t,j+1,c=>by
  have:=qJ7 t j c
  unfold df at this ⊢
  rw [List.set_cons_succ,List.zip_cons_cons,List.filter_cons_of_neg (by simp)]
  exact this
theorem qLy {t:Tx} {j:Nat} (c:Nat) (h:j<t.length):un (t.take j++[c]++t.drop (j+1)) t:=by
 have e:t.take j++[c]++t.drop (j+1)=t.set j c:=by
  rw [List.set_eq_take_append_cons_drop,if_pos h,List.append_assoc]
  rfl
 rw [e]
 exact ⟨List.length_set,qJ7 t j c⟩
theorem qDq (x:Int):∀ l:List Int,(insZ x l).Perm (x::l)
 | []=>List.Perm.refl _
 | y::r=>by
  unfold insZ
  split
  ·exact List.Perm.refl _
  ·exact ((qDq x r).cons y).trans (List.Perm.swap x y r)
theorem qEC:∀ l:List Int,(sortZ l).Perm l
 | []=>List.Perm.refl _
 | x::r=>(qDq x (sortZ r)).trans ((qEC r).cons x)
theorem qJ3 {x:Int}:∀ {l:List Int},l.Pairwise (·≤·)→(insZ x l).Pairwise (·≤·)
  | [],_=>List.pairwise_singleton _ _
  | y::r,h=>by
    unfold insZ
    obtain ⟨h1,h2⟩:=List.pairwise_cons.mp h
    split
    · rename_i q
      refine List.pairwise_cons.mpr ⟨fun z hz=>?_,h⟩
      rcases List.mem_cons.mp hz with rfl | hz
      · exact q
      · have:=h1 z hz;omega
    · rename_i q
      refine List.pairwise_cons.mpr ⟨fun z hz=>?_,qJ3 h2⟩
      rcases List.mem_cons.mp ((qDq x r).mem_iff.mp hz) with rfl | hz
      · omega
      · exact h1 z hz
theorem qGp:∀ l:List Int,(sortZ l).Pairwise (·≤·)
  | []=>List.Pairwise.nil
  | x::r=>qJ3 (qGp r)
noncomputable def rg (N:Nat):List Int:=(List.range N).map fun k:Nat=>(k:Int)
theorem qEz (N:Nat):rg (N+1)=rg N++[(N:Int)]:=by unfold rg;rw [List.range_succ,List.map_append];rfl
theorem rg_mem {N:Nat} {x:Int}:x∈rg N↔0≤x∧x<N:=by
 unfold rg
 rw [List.mem_map]
 constructor
 ·rintro ⟨k,hk,rfl⟩
  have:=List.mem_range.mp hk
  omega
 ·rintro ⟨h1,h2⟩
  exact ⟨x.toNat,List.mem_range.mpr (by omega),by omega⟩
theorem rg_pw:∀ N:Nat,(rg N).Pairwise (·≤·)
  | 0=>List.Pairwise.nil
  | N+1=>by
    rw [qEz]
    refine List.pairwise_append.mpr ⟨rg_pw N,List.pairwise_singleton _ _,fun a ha b hb=>?_⟩
    rw [List.mem_singleton.mp hb]
    have:=rg_mem.mp ha
    omega
theorem rg_nd:∀ N:Nat,(rg N).Nodup
 | 0=>List.nodup_nil
 | N+1=>by
  rw [qEz]
  refine List.nodup_append.mpr ⟨rg_nd N,List.pairwise_singleton _ _,fun a ha b hb=>?_⟩
  rw [List.mem_singleton.mp hb]
  have:=rg_mem.mp ha
  omega
theorem qJt (N:Nat):(rg N).length=N:=by unfold rg;simp
theorem qKY {l:List Int} {N:Nat} (h:l.Perm (rg N)):sortZ l=rg N :=
  List.Perm.eq_of_pairwise (le:=(·≤·)) (fun a b _ _ h1 h2=>by omega) (qGp l) (rg_pw N) ((qEC l).trans h)
theorem qGz (N:Nat):qAR 0 N=(rg N).map .int:=by
 unfold qAR rg
 rw [List.map_map]
 exact List.map_congr_left fun k _=>by show D.int (0+(k:Int))=.int (k:Int);rw [Int.zero_add]
theorem qCE {α:Type} {l:List α} {i:Nat} {a:α} (h:l[i]?=some a):l.Perm (a::l.eraseIdx i):=by
 obtain ⟨hl,rfl⟩:=List.getElem?_eq_some_iff.mp h
 rw [List.eraseIdx_eq_take_drop_succ]
 have e:l=l.take i++l[i]::l.drop (i+1):=by rw [List.getElem_cons_drop,List.take_append_drop]
 conv=>lhs;rw [e]
 exact List.perm_middle
theorem qKU {ws:List Pc} {i j:Nat} {p q:Pc} (hi:ws[i]?=some p) (hj:ws[j]?=some q):(((ws.set i q).set j p).map (·.1)).Perm (ws.map (·.1)):=by
 by_cases c:i=j
 ·subst c
  rw [hi] at hj
  cases hj
  obtain ⟨hl,e⟩:=List.getElem?_eq_some_iff.mp hi
  have e2:(ws.set i p).set i p=ws:=by rw [List.set_set,← e,List.set_getElem_self]
  rw [e2]
 ·have hl:=(List.getElem?_eq_some_iff.mp hi).1
  have hk:=(List.getElem?_eq_some_iff.mp hj).1
  refine List.Perm.map _ ?_
  refine (qCE (l:=(ws.set i q).set j p) (i:=j) (a:=p) (List.getElem?_set_self (by rw [List.length_set];exact hk))).trans ?_
  refine List.Perm.trans ?_ (qCE hj).symm
  have e1:((ws.set i q).set j p).eraseIdx j=(ws.set i q).eraseIdx j:=by
   rw [List.eraseIdx_set_eq]
  rw [e1]
  have e2:∃ m,(ws.eraseIdx j)[m]?=some p∧(ws.set i q).eraseIdx j=(ws.eraseIdx j).set m q:=by
   by_cases z:i<j
   ·refine ⟨i,by rw [List.getElem?_eraseIdx,if_pos z];exact hi,?_⟩
    rw [List.eraseIdx_set_gt z]
   ·refine ⟨i-1,by rw [List.getElem?_eraseIdx,if_neg (by omega),show i-1+1=i by omega];exact hi,?_⟩
    rw [List.eraseIdx_set_lt (by omega)]
  obtain ⟨m,m1,m2⟩:=e2
  rw [m2]
  have ml:=(List.getElem?_eq_some_iff.mp m1).1
  refine ((qCE (l:=(ws.eraseIdx j).set m q) (i:=m) (a:=q) (List.getElem?_set_self ml)).cons p).trans ?_
  rw [List.eraseIdx_set_eq]
  exact (List.Perm.swap q p _).trans ((qCE m1).symm.cons q)
theorem qCe (f:D→M (Option D)) (r:D→Option D) (h:AH):∀ xs:List D,(∀ x∈xs,f x h=.ok (r x) h)→qAI f xs h=.ok (xs.filterMap r) h
 | [],_=>rfl
 | x::xs,H=>by
  have h1:=H x (List.mem_cons_self ..)
  have h2:=qCe f r h xs fun y hy=>H y (List.mem_cons_of_mem _ hy)
  unfold qAI
  simp only [M.bind_eq,h1,R.bind_ok,h2,M.ret_eq]
  cases q:r x with
  | none=>rw [List.filterMap_cons_none q]
  | some y=>rw [List.filterMap_cons_some q]
theorem qCW (xs:List Int):qAO (xs.map .int)=some xs:=by
 induction xs with
 | nil=>rfl
 | cons x l ih=>show (qAO (l.map .int)).map (x::·)=_;rw [ih];rfl
noncomputable def unR:D→Option D
 | .tup [.str [a],.str [b]]=>if (a != b)=true then some (.int 1) else none
 | _=>none
theorem qLz (x t:Tx):((zipT x t).filterMap unR).length=df x t:=by
 unfold zipT df
 induction x.zip t with
 | nil=>rfl
 | cons q r ih =>
  rw [List.map_cons]
  have e:unR (.tup [.str [q.1],.str [q.2]])=if (q.1 != q.2)=true then some (.int 1) else none:=rfl
  by_cases c:(q.1 != q.2)=true
  ·rw [List.filterMap_cons_some (e.trans (if_pos c)),List.filter_cons_of_pos (p:=fun q:Nat × Nat=>q.1 != q.2) c,List.length_cons,List.length_cons,ih]
  ·rw [List.filterMap_cons_none (e.trans (if_neg c)),List.filter_cons_of_neg (p:=fun q:Nat × Nat=>q.1 != q.2) c,ih]
theorem df_le (x t:Tx):df x t≤x.length:=by
 unfold df
 have:=List.length_filter_le (fun q:Nat × Nat=>q.1 != q.2) (x.zip t)
 rw [List.length_zip] at this
 omega
theorem qJB (B n:Nat) (G:AH) (x t:Tx) (hx:x.length≤1000) (hu:un x t):∃ g,callN fns B (n+1) qEY [.str x,.str t] G=.ok (.int (df x t)) (G++g):=by
 rw [qEg]
 have ll:((x.length:Int) == (t.length:Int))=true:=by rw [hu.1];exact beq_self_eq_true _
 have zl:(zipT x t).length≤1000:=by unfold zipT;rw [List.length_map,List.length_zip];omega
 have hm:qAI (twoF (qAw (den (callN fns B n) qA5) (denT (callN fns B n) qAd)) [some (.str x),some (.str t)]) (zipT x t) G=.ok ((zipT x t).filterMap unR) G:=by
  refine qCe _ _ _ _ fun d hd=>?_
  unfold zipT at hd
  obtain ⟨q,_,rfl⟩:=List.mem_map.mp hd
  have e:unR (.tup [.str [q.1],.str [q.2]])=if (q.1 != q.2)=true then some (.int 1) else none:=rfl
  rw [e]
  show qAw _ _ ([some (.str x),some (.str t)]++[some (.str [q.1])]) (.str [q.2]) G=_
  unfold qAw
  have e2:(([q.1]:Tx) == [q.2])=(q.1 == q.2):=by
   show (q.1 == q.2&&true)=_
   rw [Bool.and_true]
  rcases Bool.eq_false_or_eq_true (q.1 == q.2) with c | c
  ·have c2:(q.1 != q.2)=false:=by unfold bne;rw [c];rfl
   simp! only [qAd,e2,c,c2]
  ·have c2:(q.1 != q.2)=true:=by unfold bne;rw [c];rfl
   simp! only [qAd,qA5,e2,c,c2]
 have fl:df x t≤16777216:=by have:=df_le x t;omega
 have gn:getL (G++[.lst ((zipT x t).filterMap unR)]) G.length=some ((zipT x t).filterMap unR):=by rw [qAG];rfl
 refine ⟨[.lst ((zipT x t).filterMap unR)],?_⟩
 simp! only [qA1,if_pos (show x.length≤16777216 by omega),if_pos (show t.length≤16777216 by have:=hu.1;omega),ll,qBi,if_pos (show (zipT x t).length<16777216 by omega),hm,if_pos fl,gn,qLz]
noncomputable def PK (ts:List Tx) (gs:List Int) (sp:List (Ky × D)) (p:Pc):Prop:=∃ (k:Nat) (t:Tx),p.1=(k:Int)∧ts[k]?=some t∧gs[k]?=some p.2.1∧(valY sp (.int k)).getD (.bl false)=.bl p.2.2.2∧(p.2.2.2=false→p.2.2.1=t)∧un p.2.2.1 t
structure V (ns:List Int) (G:AH) (ws:List Pc) (lg:List D) (N:Nat) (ts:List Tx) (gs:List Int) (ov:List Int) (sp:List (Ky × D)):Prop where
 sc:G[0]?=some (.rol (ns.map .int))
 rd:Rd G 1 2 3 ws lg N
 tx:G[4]?=some (.lst (ts.map .str))
 gl:G[5]?=some (.lst (gs.map .int))
 oh:G[6]?=some (.lst (ov.map .int))
 sd:G[7]?=some (.dct sp)
 nt:ts.length=N
 ng:gs.length=N
 pm:(ov++ws.map (·.1)).Perm (rg N)
 pc:∀ p∈ws,PK ts gs sp p
 tl:∀ t∈ts,t.length≤400
 sk:∀ k:Int,(N:Int)≤k→valY sp (.int k)=none
section
variable {B n:Nat} {ns:List Int} {G:AH} {ws:List Pc} {lg:List D} {N:Nat} {ts:List Tx} {gs:List Int} {ov:List Int} {sp:List (Ky × D)}
theorem V.app (v:V ns G ws lg N ts gs ov sp) (g:AH):V ns (G++g) ws lg N ts gs ov sp:=⟨qAX g v.sc,v.rd.app g,qAX g v.tx,qAX g v.gl,qAX g v.oh,qAX g v.sd,v.nt,v.ng,v.pm,v.pc,v.tl,v.sk⟩
theorem V.of (v:V ns G ws lg N ts gs ov sp) {g:AH} {ws':List Pc} {lg':List D} {N':Nat} (F:Fr [1,2,3] G g) (R:Rd g 1 2 3 ws' lg' N'):g[0]?=some (.rol (ns.map .int))∧g[4]?=some (.lst (ts.map .str))∧g[5]?=some (.lst (gs.map .int))∧g[6]?=some (.lst (ov.map .int))∧g[7]?=some (.dct sp)∧7<g.length:=by
 have h7:=F.2 7 _ (by decide) v.sd
 exact ⟨F.2 0 _ (by decide) v.sc,F.2 4 _ (by decide) v.tx,F.2 5 _ (by decide) v.gl,F.2 6 _ (by decide) v.oh,h7,(List.getElem?_eq_some_iff.mp h7).1⟩
theorem V.wl (v:V ns G ws lg N ts gs ov sp):ov.length+ws.length=N:=by
 have:=v.pm.length_eq
 rw [List.length_append,List.length_map,qJt] at this
 exact this
theorem Rd.setx {R A L:Nat} (I:Rd G R A L ws lg N) {k:Nat} (h1:k≠R) (h2:k≠A) (h3:k≠L) (o:O):Rd (G.set k o) R A L ws lg N :=
 ⟨by rw [List.getElem?_set_ne h1];exact I.r,by rw [List.getElem?_set_ne h2];exact I.a,by rw [List.getElem?_set_ne h3];exact I.l,I.al,I.bw,I.bl⟩
theorem qBR (ws:List Pc):(flD ws).length=ws.length:=by unfold flD;simp
theorem fl_ix {ws:List Pc} {i:Nat} {p:Pc} (h:ws[i]?=some p):((ixN ws.length (i:Int)).bind fun j=>(flD ws)[j]?)=some (.tup [.int p.1,.int p.2.1]):=by
 rw [qAi (List.getElem?_eq_some_iff.mp h).1,Option.bind_some]
 unfold flD
 rw [List.getElem?_map,h]
 rfl
theorem qDM {α:Type} {xs:List α} {f:α→D} {k:Nat} {a:α} (h:xs[k]?=some a):((ixN xs.length (k:Int)).bind fun j=>(xs.map f)[j]?)=some (f a):=by
 rw [qAi (List.getElem?_eq_some_iff.mp h).1,Option.bind_some,List.getElem?_map,h]
 rfl
theorem V.pk (v:V ns G ws lg N ts gs ov sp) {i:Nat} {p:Pc} (hi:ws[i]?=some p):PK ts gs sp p:=v.pc p (List.mem_of_getElem? hi)
theorem qEW (v:V ns G ws lg N ts gs ov sp) (hN:N≤100) (hl:lg.length<900) (i:Nat) (p:Pc) (hi:ws[i]?=some p) :
    ∃ G' lg',callN fns B (n+4) qDs [.ref 1,.int i,.ref 4,.ref 5,.ref 6] G=.ok (.bl true) G'∧V ns G' (ws.eraseIdx i) lg' N ts gs (ov++[p.1]) sp∧lg'.length=lg.length+1:=by
  rw [qDz]
  have wl:=v.wl
  have fm:=qBI (B:=B) (n:=n+2) v.rd
  have v1:=v.app [.lst (flD ws)]
  have gf:getL (G++[.lst (flD ws)]) G.length=some (flD ws):=by rw [qAG];rfl
  have fx:=fl_ix hi
  obtain ⟨g,cr,R2,F2⟩:=qGN (B:=B) (n:=n) v1.rd i p hi (by omega)
  obtain ⟨g0,g4,g5,g6,g7,gl⟩:=v1.of F2 R2
  obtain ⟨k,t,k1,k2,k3,k4,k5,k6⟩:=v.pk hi
  have tl:=v.tl t (List.mem_of_getElem? k2)
  have nin:ov.contains p.1=false:=by
    have nd:=v.pm.nodup_iff.mpr (rg_nd N)
    have:=(List.nodup_append.mp nd).2.2
    cases q:ov.contains p.1 with
    | false=>rfl
    | true =>
      have hm:p.1∈ov:=by simpa using q
      exact absurd rfl (this p.1 hm p.1 (List.mem_map.mpr ⟨p,List.mem_of_getElem? hi,rfl⟩))
  have in6:(getL g 6).bind qAO=some ov:=by rw [qAF g6,Option.bind_some,qCW]
  have R3:=R2.setx (k:=6) (by decide) (by decide) (by decide) (.lst ((ov++[p.1]).map .int))
  have h4:(g.set 6 (.lst ((ov++[p.1]).map .int)))[4]?=some (.lst (ts.map .str)):=by rw [List.getElem?_set_ne (by decide)];exact g4
  have h5:(g.set 6 (.lst ((ov++[p.1]).map .int)))[5]?=some (.lst (gs.map .int)):=by rw [List.getElem?_set_ne (by decide)];exact g5
  have em:ov.map D.int++[.int p.1]=(ov++[p.1]).map .int:=by rw [List.map_append];rfl
  have ol:ov.length<16777216:=by omega
  have V3:V ns (g.set 6 (.lst ((ov++[p.1]).map .int))) (ws.eraseIdx i) (lg++[.tup [.str [99,97,114,114,121],.int p.1,.int p.2.1,.str p.2.2.1]]) N ts gs (ov++[p.1]) sp:=by
    refine ⟨by rw [List.getElem?_set_ne (by decide)];exact g0,R3,h4,h5,List.getElem?_set_self (by omega),by rw [List.getElem?_set_ne (by decide)];exact g7,v.nt,v.ng,?_,fun q hq=>v.pc q (List.mem_of_mem_eraseIdx hq),v.tl,v.sk⟩
    refine List.Perm.trans ?_ v.pm
    rw [List.append_assoc]
    refine List.Perm.append_left ov ?_
    have:=(qCE hi).map (·.1)
    exact this.symm
  obtain ⟨gu,mu⟩:=qJB B (n+2) (g.set 6 (.lst ((ov++[p.1]).map .int))) p.2.2.1 t (by rw [k6.1];omega) k6
  have t1:(Ty.tuple == Ty.tuple)=true:=rfl
  have t2:(Ty.str == Ty.str)=true:=rfl
  have l2:(((2:Nat):Int) == 2)=true:=rfl
  have i0:((ixN 2 0).bind fun j=>[D.int p.1,.int p.2.1][j]?)=some (.int p.1):=rfl
  have j0:((ixN 2 0).bind fun j=>[D.int p.2.1,.str p.2.2.1][j]?)=some (.int p.2.1):=rfl
  have j1:((ixN 2 1).bind fun j=>[D.int p.2.1,.str p.2.2.1][j]?)=some (.str p.2.2.1):=rfl
  have x5:((ixN gs.length p.1).bind fun j=>(gs.map D.int)[j]?)=some (.int p.2.1):=by rw [k1];exact qDM k3
  have x4:((ixN ts.length p.1).bind fun j=>(ts.map D.str)[j]?)=some (.str t):=by rw [k1];exact qDM k2
  have d1:decide (((df p.2.2.1 t:Nat):Int)≤1)=true:=decide_eq_true (by have:=k6.2;omega)
  have b1:(p.2.1 == p.2.1)=true:=beq_self_eq_true _
  refine ⟨_,_,?_,V3.app gu,by rw [List.length_append,List.length_singleton]⟩
  simp! only [qAq,v.rd.r,qAV,qAQ,fm,gf,qBR,Option.bind_some,fx,i0,v1.rd.r,qLA,qIh,cr,t1,l2,qCW,nin,j1,t2,qBb,qAF g6,g6,List.length_map,if_pos ol,em,j0,qAF h5,x5,b1,qAF h4,x4,mu,d1]
end
section
variable {B n:Nat} {ns:List Int} {G:AH} {ws:List Pc} {lg:List D} {N:Nat} {ts:List Tx} {gs:List Int} {ov:List Int} {sp:List (Ky × D)}
theorem PK.more {p:Pc} (h:PK ts gs sp p) (y:Tx) (i:Int):PK (ts++[y]) (gs++[i]) sp p:=by
 obtain ⟨k,t,k1,k2,k3,k4⟩:=h
 exact ⟨k,t,k1,by rw [List.getElem?_append_left (List.getElem?_eq_some_iff.mp k2).1];exact k2,by rw [List.getElem?_append_left (List.getElem?_eq_some_iff.mp k3).1];exact k3,k4⟩
theorem Fr.of3 {g:AH} (hl:G.length≤g.length) (h:∀ k,k≠2→k≠3→k≠1→k<G.length→g[k]?=G[k]?):Fr [1,2,3] G g:=⟨hl,fun i o n e=>by
 rw [h i (fun z=>n (by simp [z])) (fun z=>n (by simp [z])) (fun z=>n (by simp [z])) (List.getElem?_eq_some_iff.mp e).1];exact e⟩
theorem qG2 (h:(ov++ws.map (·.1)).Perm (rg N)) (x:Int × Tx × Bool):(ov++(ws++[((N:Int),x)]).map (·.1)).Perm (rg (N+1)):=by
 rw [qEz,List.map_append,← List.append_assoc]
 exact h.append_right _
theorem qGL (v:V ns G ws lg N ts gs ov sp) (hN:N<90) (hl:lg.length<900) (i:Nat) (hi:i<2) (y:Tx) (hy:okT y) :
    ∃ G' lg',callN fns B (n+6) qCJ [.ref 1,dD (.send i y),.ref 4,.ref 5] G=.ok (.bl true) G'∧V ns G' (ws++[((N:Int),(i:Int),y,false)]) lg' (N+1) (ts++[y]) (gs++[(i:Int)]) ov sp∧lg'.length=lg.length+1:=by
  rw [qCL]
  have wl:=v.wl
  have ht:txOk y=true:=by
    unfold txOk
    rw [hy.1,decide_eq_true hy.2.1,decide_eq_true hy.2.2]
    rfl
  obtain ⟨g,e1,R2,gl,gk⟩:=qHO (B:=B) (n:=n) v.rd i hi y (by have:=hy.2.2;omega) ht (by omega) (by omega)
  have F2:Fr [1,2,3] G g:=Fr.of3 gl gk
  obtain ⟨g0,g4,g5,g6,g7,gl7⟩:=v.of F2 R2
  have h5:(g.set 4 (.lst ((ts++[y]).map .str)))[5]?=some (.lst (gs.map .int)):=by rw [List.getElem?_set_ne (by decide)];exact g5
  have R3:=(R2.setx (k:=4) (by decide) (by decide) (by decide) (.lst ((ts++[y]).map .str))).setx (k:=5) (by decide) (by decide) (by decide) (.lst ((gs++[(i:Int)]).map .int))
  have em:ts.map D.str++[.str y]=(ts++[y]).map .str:=by rw [List.map_append];rfl
  have en:gs.map D.int++[.int (i:Int)]=(gs++[(i:Int)]).map .int:=by rw [List.map_append];rfl
  have h4:((g.set 4 (.lst ((ts++[y]).map .str))).set 5 (.lst ((gs++[(i:Int)]).map .int)))[4]?=some (.lst ((ts++[y]).map .str)):=by rw [List.getElem?_set_ne (by decide),List.getElem?_set_self (by omega)]
  have nt:=v.nt
  have ng:=v.ng
  refine ⟨_,_,?_,⟨by rw [List.getElem?_set_ne (by decide),List.getElem?_set_ne (by decide)];exact g0,R3,h4,List.getElem?_set_self (by rw [List.length_set];omega),by rw [List.getElem?_set_ne (by decide),List.getElem?_set_ne (by decide)];exact g6,by rw [List.getElem?_set_ne (by decide),List.getElem?_set_ne (by decide)];exact g7,by rw [List.length_append,List.length_singleton,nt],by rw [List.length_append,List.length_singleton,ng],qG2 v.pm _,fun p hp=>?_,fun t ht=>?_,fun k hk=>v.sk k (by omega)⟩,by rw [List.length_append,List.length_singleton]⟩
  · have l1:((N:Int) == ((ts.length+1:Nat):Int)-1)=true:=by rw [nt];simp
    have c1:ts.length<16777216:=by omega
    have c2:gs.length<16777216:=by omega
    have em2:(ts++[y]).length=ts.length+1:=by rw [List.length_append];rfl
    unfold dD
    have i0:((ixN 3 0).bind fun j=>[D.str [115,101,110,100],.int i,.str y][j]?)=some (.str [115,101,110,100]):=rfl
    have i1:((ixN 3 1).bind fun j=>[D.str [115,101,110,100],.int i,.str y][j]?)=some (.int i):=rfl
    have i2:((ixN 3 2).bind fun j=>[D.str [115,101,110,100],.int i,.str y][j]?)=some (.str y):=rfl
    simp! only [qAg,i0,i1,i2,qBl,v.rd.r,qNG,qKP,e1,qAF g4,g4,List.length_map,if_pos c1,em,qAF h5,h5,if_pos c2,en,qA7,qAF h4,em2,l1]
  · rcases List.mem_append.mp hp with hp | hp
    · exact (v.pc p hp).more y i
    · rw [List.mem_singleton.mp hp]
      refine ⟨N,y,rfl,?_,?_,by rw [v.sk N (Int.le_refl _)];rfl,fun _=>rfl,qKE y⟩
      · rw [← nt,List.getElem?_append_right (Nat.le_refl _),Nat.sub_self];rfl
      · rw [← ng,List.getElem?_append_right (Nat.le_refl _),Nat.sub_self];rfl
  · rcases List.mem_append.mp ht with ht | ht
    · exact v.tl t ht
    · rw [List.mem_singleton.mp ht];exact hy.2.2
theorem qEV (v:V ns G ws lg N ts gs ov sp) (hN:N<90) (hl:lg.length<900) (hs:sp.length<10000) (i:Nat) (p:Pc) (hi:ws[i]?=some p) :
    ∃ G' lg',callN fns B (n+6) qCJ [.ref 1,dD (.double i),.ref 4,.ref 5] G=.ok (.bl true) G'∧(∀ x:AH,V ns ((G'++x).set 7 (.dct (putY sp (.int N) (.bl p.2.2.2)))) (ws++[((N:Int),p.2.1,p.2.2.1,p.2.2.2)]) lg' (N+1) (ts++[(ts[p.1.toNat]?).getD []]) (gs++[p.2.1]) ov (putY sp (.int N) (.bl p.2.2.2)))∧lg'.length=lg.length+1 ∧
      Rd G' 1 2 3 (ws++[((N:Int),p.2.1,p.2.2.1,p.2.2.2)]) lg' (N+1)∧G'[7]?=some (.dct sp)∧getL G' 4=some ((ts++[(ts[p.1.toNat]?).getD []]).map .str):=by
  rw [qCL]
  have wl:=v.wl
  obtain ⟨k,t,k1,k2,k3,k4,k5,k6⟩:=v.pk hi
  have et:(ts[p.1.toNat]?).getD []=t:=by rw [k1,Int.toNat_natCast,k2];rfl
  rw [et]
  have fm:=qBI (B:=B) (n:=n+4) v.rd
  have v1:=v.app [.lst (flD ws)]
  have gf:getL (G++[.lst (flD ws)]) G.length=some (flD ws):=by rw [qAG];rfl
  have fx:=fl_ix hi
  obtain ⟨g,e1,R2,F2⟩:=qFB (B:=B) (n:=n+1) v1.rd i p hi (by omega) (by omega)
  obtain ⟨g0,g4,g5,g6,g7,gl7⟩:=v1.of F2 R2
  have h5:(g.set 4 (.lst ((ts++[t]).map .str)))[5]?=some (.lst (gs.map .int)):=by rw [List.getElem?_set_ne (by decide)];exact g5
  have R3:=(R2.setx (k:=4) (by decide) (by decide) (by decide) (.lst ((ts++[t]).map .str))).setx (k:=5) (by decide) (by decide) (by decide) (.lst ((gs++[p.2.1]).map .int))
  have em:ts.map D.str++[.str t]=(ts++[t]).map .str:=by rw [List.map_append];rfl
  have en:gs.map D.int++[.int p.2.1]=(gs++[p.2.1]).map .int:=by rw [List.map_append];rfl
  have h4:((g.set 4 (.lst ((ts++[t]).map .str))).set 5 (.lst ((gs++[p.2.1]).map .int)))[4]?=some (.lst ((ts++[t]).map .str)):=by rw [List.getElem?_set_ne (by decide),List.getElem?_set_self (by omega)]
  have h5':((g.set 4 (.lst ((ts++[t]).map .str))).set 5 (.lst ((gs++[p.2.1]).map .int)))[5]?=some (.lst ((gs++[p.2.1]).map .int)):=List.getElem?_set_self (by rw [List.length_set];omega)
  have h0:((g.set 4 (.lst ((ts++[t]).map .str))).set 5 (.lst ((gs++[p.2.1]).map .int)))[0]?=some (.rol (ns.map .int)):=by rw [List.getElem?_set_ne (by decide),List.getElem?_set_ne (by decide)];exact g0
  have h6:((g.set 4 (.lst ((ts++[t]).map .str))).set 5 (.lst ((gs++[p.2.1]).map .int)))[6]?=some (.lst (ov.map .int)):=by rw [List.getElem?_set_ne (by decide),List.getElem?_set_ne (by decide)];exact g6
  have h7:((g.set 4 (.lst ((ts++[t]).map .str))).set 5 (.lst ((gs++[p.2.1]).map .int)))[7]?=some (.dct sp):=by rw [List.getElem?_set_ne (by decide),List.getElem?_set_ne (by decide)];exact g7
  have nt:=v.nt
  have ng:=v.ng
  have kN:k<N:=by rw [← nt];exact (List.getElem?_eq_some_iff.mp k2).1
  refine ⟨(g.set 4 (.lst ((ts++[t]).map .str))).set 5 (.lst ((gs++[p.2.1]).map .int)),_,?_,fun x=>?_,by rw [List.length_append,List.length_singleton],R3,h7,qAF h4⟩
  · have l1:((N:Int) == ((ts.length+1:Nat):Int)-1)=true:=by rw [nt];simp
    have c1:ts.length<16777216:=by omega
    have c2:gs.length<16777216:=by omega
    have em2:(ts++[t]).length=ts.length+1:=by rw [List.length_append];rfl
    have x5:((ixN gs.length p.1).bind fun j=>(gs.map D.int)[j]?)=some (.int p.2.1):=by rw [k1];exact qDM k3
    have x4:((ixN ts.length p.1).bind fun j=>(ts.map D.str)[j]?)=some (.str t):=by rw [k1];exact qDM k2
    unfold dD
    have i0:((ixN 2 0).bind fun j=>[D.str [100,111,117,98,108,101],.int i][j]?)=some (.str [100,111,117,98,108,101]):=rfl
    have i1:((ixN 2 1).bind fun j=>[D.str [100,111,117,98,108,101],.int i][j]?)=some (.int i):=rfl
    have q0:((ixN 2 0).bind fun j=>[D.int p.1,.int p.2.1][j]?)=some (.int p.1):=rfl
    simp! only [qAg,i0,ne_s3,qBk,v.rd.r,qAV,qAQ,fm,i1,gf,qBR,Option.bind_some,fx,q0,v1.rd.r,qI3,qGl,e1,qAF g4,List.length_map,x4,g4,if_pos c1,em,qAF h5,x5,h5,if_pos c2,en,qA7,qAF h4,em2,l1]
  · have le7:7<((g.set 4 (.lst ((ts++[t]).map .str))).set 5 (.lst ((gs++[p.2.1]).map .int))++x).length:=by rw [List.length_append,List.length_set,List.length_set];omega
    have ky:∀ (a b:Nat),(Ky.int (a:Int)=Ky.int (b:Int))↔a=b:=fun a b=>by
      constructor
      · intro z;injection z with z;omega
      · intro z;rw [z]
    refine ⟨?_,(R3.app x).setx (k:=7) (by decide) (by decide) (by decide) _,?_,?_,?_,List.getElem?_set_self le7,by rw [List.length_append,List.length_singleton,nt],by rw [List.length_append,List.length_singleton,ng],qG2 v.pm _,fun q hq=>?_,fun u hu=>?_,fun j hj=>?_⟩
    · rw [List.getElem?_set_ne (by decide)];exact qAX x h0
    · rw [List.getElem?_set_ne (by decide)];exact qAX x h4
    · rw [List.getElem?_set_ne (by decide)];exact qAX x h5'
    · rw [List.getElem?_set_ne (by decide)];exact qAX x h6
    · rcases List.mem_append.mp hq with hq | hq
      · obtain ⟨k',t',a1,a2,a3,a4,a5⟩:=(v.pc q hq).more t p.2.1
        refine ⟨k',t',a1,a2,a3,?_,a5⟩
        have:k'≠N:=fun z=>by
          obtain ⟨k'',t'',b1,b2,_⟩:=v.pc q hq
          have:=(List.getElem?_eq_some_iff.mp b2).1
          omega
        rw [qBd,if_neg (fun z=>this ((ky _ _).mp z))]
        exact a4
      · rw [List.mem_singleton.mp hq]
        refine ⟨N,t,rfl,?_,?_,by rw [qBd,if_pos rfl];rfl,k5,k6⟩
        · rw [← nt,List.getElem?_append_right (Nat.le_refl _),Nat.sub_self];rfl
        · rw [← ng,List.getElem?_append_right (Nat.le_refl _),Nat.sub_self];rfl
    · rcases List.mem_append.mp hu with hu | hu
      · exact v.tl u hu
      · rw [List.mem_singleton.mp hu];exact v.tl t (List.mem_of_getElem? k2)
    · rw [qBd,if_neg (fun z=>by injection z with z;omega)]
      exact v.sk j (by omega)
end
noncomputable def b15:CS:=(.ite (.or (.val (.bi .eq (.bi .ix (.var 8) (.lit (.int 0))) (.lit (.str [115,101,110,100])))) (.and (.val (.bi .eq (.bi .ix (.var 8) (.lit (.int 0))) (.lit (.str [100,111,117,98,108,101])))) (.val (.chain .le .lt (.lit (.int 0)) (.bi .ix (.var 8) (.lit (.int 1))) (.var 7))))) qD7 qB2)
noncomputable def ev9 (x6:Option D) (c:Nat) (d:D) (ps:List Int) (x10:Option D):Fy.Env:=[some (.ref 0),some (.ref 1),some (.ref 4),some (.ref 5),some (.ref 6),some (.ref 7),x6,some (.int c),some d,some (.tup (ps.map .int)),x10]
noncomputable def inR (c:Nat) (v:Int):Bool:=decide (0≤v)&&decide (v<c)
noncomputable def plR (c:Nat):D→Option D
 | .int v=>if inR c v=true then some (.int v) else none
 | _=>none
theorem pl_fm (c:Nat):∀ ps:List Int,(ps.map D.int).filterMap (plR c)=(ps.filter (inR c)).map .int
 | []=>rfl
 | v::r=>by
  have ih:=pl_fm c r
  have e:plR c (.int v)=if inR c v=true then some (.int v) else none:=rfl
  by_cases q:inR c v=true
  ·rw [List.map_cons,List.filterMap_cons_some (e.trans (if_pos q)),List.filter_cons_of_pos q,ih];rfl
  ·rw [List.map_cons,List.filterMap_cons_none (e.trans (if_neg q)),List.filter_cons_of_neg q,ih]
theorem qMr (F:Nat→List D→M D) (h:AH) (x6:Option D) (c:Nat) (d:D) (ps ps':List Int) (x10:Option D):qAI (qAw (den F qC0) (denT F qCz) (ev9 x6 c d ps x10)) (ps'.map .int) h=.ok ((ps'.filter (inR c)).map .int) h:=by
 rw [qCe _ (plR c),pl_fm]
 intro x hx
 obtain ⟨v,_,rfl⟩:=List.mem_map.mp hx
 have e:plR c (.int v)=if inR c v=true then some (.int v) else none:=rfl
 rw [e]
 unfold qAw ev9 inR
 by_cases q1:0≤v
 ·by_cases q2:v<c
  ·simp! only [qCz,qC0,q1,q2]
   rfl
  ·simp! only [qCz,qC0,q1,q2]
   rfl
 ·simp! only [qCz,qC0,q1]
  rfl
section
variable {B n:Nat} {ns:List Int} {G:AH} {ws:List Pc} {lg:List D} {N:Nat} {ts:List Tx} {gs:List Int} {ov:List Int} {sp:List (Ky × D)} {x6 x10:Option D}
theorem qFx (c:Nat) (d:D) (ps:List Int) (hp:ps.length≤1000) (h:AH):denS (callN fns B (n+7)) B qB2 (ev9 x6 c d ps x10) h=if (ps.filter (inR c)).length=ps.length then denS (callN fns B (n+7)) B qD9 (ev9 x6 c d ps x10) (h++[.lst ((ps.filter (inR c)).map .int)]) else .nx (ev9 x6 c d ps x10) (h++[.lst ((ps.filter (inR c)).map .int)]):=by
 have pm:=qMr (callN fns B (n+7)) h x6 c d ps ps x10
 have fl:=List.length_filter_le (inR c) ps
 have gn:getL (h++[.lst ((ps.filter (inR c)).map .int)]) h.length=some ((ps.filter (inR c)).map .int):=by rw [qAG];rfl
 have e:(((ps.filter (inR c)).length:Int) == (ps.length:Int))=decide ((ps.filter (inR c)).length=ps.length):=qCC _ _
 unfold ev9 at pm ⊢
 generalize ps.filter (inR c)=qs at *
 simp! only [qB2,List.length_map,if_pos (show ps.length<16777216 by omega),pm,if_pos (show qs.length≤16777216 by omega),gn,e]
 by_cases z:qs.length=ps.length
 ·simp! only [z]
 ·simp! only [z]
theorem qMS (c:Nat) (w:Tx) (u:List D) (ps:List Int) (hp:ps.length≤1000) (h:AH) (h1:(w == [115,101,110,100])=false) (h2:(w == [100,111,117,98,108,101])=false∨∃ v,((ixN (u.length+1) 1).bind fun j=>(.str w::u)[j]?)=some (.int v)∧inR c v=false) (h3:(ps.filter (inR c)).length≠ps.length) :
    ∃ g,denS (callN fns B (n+7)) B b15 (ev9 x6 c (.tup (.str w::u)) ps x10) h=.nx (ev9 x6 c (.tup (.str w::u)) ps x10) (h++g):=by
  have dp:=qFx (B:=B) (n:=n) (x6:=x6) (x10:=x10) c (.tup (.str w::u)) ps hp h
  rw [if_neg h3] at dp
  refine ⟨[.lst ((ps.filter (inR c)).map .int)],?_⟩
  rw [← dp]
  have i0:((ixN (u.length+1) 0).bind fun j=>(.str w::u)[j]?)=some (.str w):=by
    unfold ixN
    rw [if_pos (by omega),if_pos (by omega)]
    rfl
  unfold ev9
  rcases h2 with h2 | ⟨v,hv,h2⟩
  · simp! only [b15,i0,h1,h2]
  · unfold inR at h2
    rcases Bool.eq_false_or_eq_true (w == [100,111,117,98,108,101]) with h4 | h4
    · by_cases q1:0≤v
      · rw [decide_eq_true q1,Bool.true_and] at h2
        simp! only [b15,i0,h1,h4,hv,q1,h2]
      · simp! only [b15,i0,h1,h4,hv,q1]
    · simp! only [b15,i0,h1,h4]
theorem t_in (v:V ns G ws lg N ts gs ov sp) (c:Nat) (w:Tx) (u:List D) (i:Nat) (p:Pc) (hi:ws[i]?=some p) (ps:List Int) (hp:ps.length≤1000) (h1:(w == [115,101,110,100])=false) (h2:(w == [100,111,117,98,108,101])=false) (h3:(ps.filter (inR c)).length=ps.length) (h4:((ixN (u.length+1) 1).bind fun j=>(.str w::u)[j]?)=some (.int i)) :
    ∃ g:AH,denS (callN fns B (n+7)) B b15 (ev9 x6 c (.tup (.str w::u)) ps x10) G=denS (callN fns B (n+7)) B (.seq (.ite (.and (.val (.bi .eq (.bi .ix (.var 8) (.lit (.int 0))) (.lit (.str [99,97,114,114,121])))) (.not (.val (.call 24 (.cons (.var 1) (.cons (.bi .ix (.var 8) (.lit (.int 1))) (.cons (.var 2) (.cons (.var 3) (.cons (.var 4) .nil))))))))) (.ret (.lit (.bl false))) .skip) qAY) (ev9 x6 c (.tup (.str w::u)) ps (some (.int p.1))) (G++g):=by
  have dp:=qFx (B:=B) (n:=n) (x6:=x6) (x10:=x10) c (.tup (.str w::u)) ps hp G
  rw [if_pos h3] at dp
  have v1:=v.app [.lst ((ps.filter (inR c)).map .int)]
  have fm:=qBI (B:=B) (n:=n+6) v1.rd
  have gf:getL (G++[.lst ((ps.filter (inR c)).map .int)]++[.lst (flD ws)]) (G++[O.lst ((ps.filter (inR c)).map .int)]).length=some (flD ws):=by rw [qAG];rfl
  have fx:=fl_ix hi
  have i0:((ixN (u.length+1) 0).bind fun j=>(.str w::u)[j]?)=some (.str w):=by
    unfold ixN
    rw [if_pos (by omega),if_pos (by omega)]
    rfl
  have q0:((ixN 2 0).bind fun j=>[D.int p.1,.int p.2.1][j]?)=some (.int p.1):=rfl
  refine ⟨[.lst ((ps.filter (inR c)).map .int)]++[.lst (flD ws)],?_⟩
  have st:denS (callN fns B (n+7)) B b15 (ev9 x6 c (.tup (.str w::u)) ps x10) G=denS (callN fns B (n+7)) B qB2 (ev9 x6 c (.tup (.str w::u)) ps x10) G:=by
    unfold ev9
    simp! only [b15,i0,h1,h2]
  rw [st,dp,← List.append_assoc]
  rw [show qD9=.seq (.set (.nm 10) (.bi .ix (.bi .ix (.meth 112616079453799 [(1383031140,7)] (.var 1) .nil) (.bi .ix (.var 8) (.lit (.int 1)))) (.lit (.int 0)))) (.seq (.ite (.and (.val (.bi .eq (.bi .ix (.var 8) (.lit (.int 0))) (.lit (.str [99,97,114,114,121])))) (.not (.val (.call 24 (.cons (.var 1) (.cons (.bi .ix (.var 8) (.lit (.int 1))) (.cons (.var 2) (.cons (.var 3) (.cons (.var 4) .nil))))))))) (.ret (.lit (.bl false))) .skip) qAY) from rfl]
  rw [denS]
  have st2:denS (callN fns B (n+7)) B (.set (.nm 10) (.bi .ix (.bi .ix (.meth 112616079453799 [(1383031140,7)] (.var 1) .nil) (.bi .ix (.var 8) (.lit (.int 1)))) (.lit (.int 0)))) (ev9 x6 c (.tup (.str w::u)) ps x10) (G++[.lst ((ps.filter (inR c)).map .int)])=.nx (ev9 x6 c (.tup (.str w::u)) ps (some (.int p.1))) (G++[.lst ((ps.filter (inR c)).map .int)]++[.lst (flD ws)]):=by
    unfold ev9
    simp! only [v1.rd.r,qAV,qAQ,fm,gf,h4,qBR,Option.bind_some,fx,q0]
  rw [st2]
  rfl
end
theorem ne_d2:(([108,111,115,101]:Tx) == [100,111,117,98,108,101])=false:=rfl
theorem ne_d1:(([99,97,114,114,121]:Tx) == [100,111,117,98,108,101])=false:=rfl
theorem ne_t1:(([99,97,114,114,121]:Tx) == [116,117,114,110])=false:=rfl
theorem ne_t2:(([108,111,115,101]:Tx) == [116,117,114,110])=false:=rfl
theorem ne_t3:(([100,111,117,98,108,101]:Tx) == [116,117,114,110])=false:=rfl
theorem ne_t0:(([115,101,110,100]:Tx) == [116,117,114,110])=false:=rfl
theorem ne_p0:(([115,101,110,100]:Tx) == [115,112,111,105,108])=false:=rfl
theorem ne_p1:(([99,97,114,114,121]:Tx) == [115,112,111,105,108])=false:=rfl
theorem ne_p2:(([108,111,115,101]:Tx) == [115,112,111,105,108])=false:=rfl
theorem ne_p3:(([100,111,117,98,108,101]:Tx) == [115,112,111,105,108])=false:=rfl
theorem ne_p4:(([116,117,114,110]:Tx) == [115,112,111,105,108])=false:=rfl
theorem ne_l1:(([99,97,114,114,121]:Tx) == [108,111,115,101])=false:=rfl
noncomputable def SV (ns:List Int) (j:Nat) (σ:Fy.Env) (g:AH):Prop:=∃ (ws:List Pc) (lg:List D) (N:Nat) (ts:List Tx) (gs ov:List Int) (sp:List (Ky × D)) (x6 x7 x8 x9 x10:Option D),
 σ=[some (.ref 0),some (.ref 1),some (.ref 4),some (.ref 5),some (.ref 6),some (.ref 7),x6,x7,x8,x9,x10]∧V ns g ws lg N ts gs ov sp∧N≤j∧lg.length≤j∧sp.length≤2*j
section
variable {B n:Nat} {ns:List Int} {G:AH} {ws:List Pc} {lg:List D} {N:Nat} {ts:List Tx} {gs:List Int} {ov:List Int} {sp:List (Ky × D)} {x6 x10:Option D} {j:Nat}
theorem V.sv (v:V ns G ws lg N ts gs ov sp) (hN:N≤j) (hl:lg.length≤j) (hs:sp.length≤2*j) (c:Nat) (d:D) (ps:List Int):SV ns j (ev9 x6 c d ps x10) G :=
 ⟨ws,lg,N,ts,gs,ov,sp,x6,_,_,_,x10,rfl,v,hN,hl,hs⟩
theorem lt_in {i c:Nat} (h:i<c):inR c (i:Int)=true:=by
 unfold inR
 rw [decide_eq_true (by omega),decide_eq_true (by omega)]
 rfl
theorem qMT (v:V ns G ws lg N ts gs ov sp) (hN:N≤j) (hl:lg.length≤j) (hs:sp.length≤2*j) (hj:j≤60) (c:Nat) (i:Nat) (hi:i<2) (y:Tx) (hy:okT y) (ps:List Int) :
    ∃ σ' g',denS (callN fns B (n+7)) B b15 (ev9 x6 c (dD (.send i y)) ps x10) G=.nx σ' g'∧SV ns (j+1) σ' g':=by
  obtain ⟨G',lg',e1,v',l'⟩:=qGL (B:=B) (n:=n+1) v (by omega) (by omega) i hi y hy
  refine ⟨ev9 x6 c (dD (.send i y)) ps x10,G',?_,v'.sv (by omega) (by omega) (by omega) _ _ _⟩
  unfold dD at e1 ⊢
  have i0:((ixN 3 0).bind fun j=>[D.str [115,101,110,100],.int i,.str y][j]?)=some (.str [115,101,110,100]):=rfl
  have ne:(([115,101,110,100]:Tx) == [100,111,117,98,108,101])=false:=rfl
  unfold ev9
  simp! only [b15,i0,qD7,e1,qFW,ne]
theorem qIi (v:V ns G ws lg N ts gs ov sp) (hN:N≤j) (hl:lg.length≤j) (hs:sp.length≤2*j) (hj:j≤60) (c:Nat) (hc:c=ws.length) (i:Nat) (p:Pc) (hi:ws[i]?=some p) (ps:List Int) :
    ∃ σ' g',denS (callN fns B (n+7)) B b15 (ev9 x6 c (dD (.double i)) ps x10) G=.nx σ' g'∧SV ns (j+1) σ' g':=by
  obtain ⟨G',lg',e1,v',l',R',d7,g4⟩:=qEV (B:=B) (n:=n+1) v (by omega) (by omega) (by omega) i p hi
  obtain ⟨k,t,k1,k2,k3,k4,k5,k6⟩:=v.pk hi
  have il:=(List.getElem?_eq_some_iff.mp hi).1
  have nt:=v.nt
  have fm:=qBI (B:=B) (n:=n+6) R'
  have hi':(ws++[((N:Int),p.2.1,p.2.2.1,p.2.2.2)])[i]?=some p:=by rw [List.getElem?_append_left il];exact hi
  have fx:=fl_ix hi'
  have gf:getL (G'++[.lst (flD (ws++[((N:Int),p.2.1,p.2.2.1,p.2.2.2)]))]) G'.length=some (flD (ws++[((N:Int),p.2.1,p.2.2.1,p.2.2.2)])):=by rw [qAG];rfl
  have v2:=v' [.lst (flD (ws++[((N:Int),p.2.1,p.2.2.1,p.2.2.2)]))]
  have d7':(G'++[O.lst (flD (ws++[((N:Int),p.2.1,p.2.2.1,p.2.2.2)]))])[7]?=some (.dct sp):=qAX _ d7
  have g4':=qBw [O.lst (flD (ws++[((N:Int),p.2.1,p.2.2.1,p.2.2.2)]))] g4
  have le:=qFp sp (.int N) (.bl p.2.2.2)
  refine ⟨ev9 x6 c (dD (.double i)) ps x10,_,?_,v2.sv (by omega) (by omega) (by omega) _ _ _⟩
  unfold dD at e1 ⊢
  have i0:((ixN 2 0).bind fun j=>[D.str [100,111,117,98,108,101],.int i][j]?)=some (.str [100,111,117,98,108,101]):=rfl
  have i1:((ixN 2 1).bind fun j=>[D.str [100,111,117,98,108,101],.int i][j]?)=some (.int i):=rfl
  have q0:((ixN 2 0).bind fun j=>[D.int p.1,.int p.2.1][j]?)=some (.int p.1):=rfl
  have a1:(0:Int)≤(i:Int):=by omega
  have a2:(i:Int)<(c:Int):=by omega
  have tl:(((ts++[(ts[p.1.toNat]?).getD []]).map D.str).length:Int)-1=(N:Int):=by rw [List.length_map,List.length_append,List.length_singleton,nt];omega
  have gd:(valY sp (.int p.1)).getD (.bl false)=.bl p.2.2.2:=by rw [k1];exact k4
  have pk:putKD (.bl p.2.2.2) 7 (.int N) (G'++[O.lst (flD (ws++[((N:Int),p.2.1,p.2.2.1,p.2.2.2)]))])=.ok () ((G'++[O.lst (flD (ws++[((N:Int),p.2.1,p.2.2.1,p.2.2.2)]))]).set 7 (.dct (putY sp (.int N) (.bl p.2.2.2)))):=by
    unfold putKD
    rw [d7']
    simp only [if_pos (show sp.length<16777216 by omega)]
  unfold ev9
  generalize (ts++[(ts[p.1.toNat]?).getD []]).map D.str=TT at *
  simp! only [b15,i0,ne_s3,i1,a1,a2,qD7,e1,qFW,qIS,d7,R'.r,qAV,qAQ,fm,gf,qBR,Option.bind_some,fx,q0,d7',gd,g4',tl,pk]
theorem qKS (v:V ns G ws lg N ts gs ov sp) (hN:N≤j) (hl:lg.length≤j) (hs:sp.length≤2*j) (hj:j≤60) (c:Nat) (hc:c=ws.length) (i:Nat) (p:Pc) (hi:ws[i]?=some p) :
    ∃ σ' g',denS (callN fns B (n+7)) B b15 (ev9 x6 c (dD (.carry i)) [(i:Int)] x10) G=.nx σ' g'∧SV ns (j+1) σ' g':=by
  have il:=(List.getElem?_eq_some_iff.mp hi).1
  have ir:=lt_in (show i<c by omega)
  unfold dD
  obtain ⟨g,st⟩:=t_in (B:=B) (n:=n) (x6:=x6) (x10:=x10) v c [99,97,114,114,121] [.int i] i p hi [(i:Int)] (by simp) ne_s1 ne_d1 (by rw [List.filter_cons_of_pos ir];rfl) rfl
  obtain ⟨G',lg',e1,v',l'⟩:=qEW (B:=B) (n:=n+3) (v.app g) (by omega) (by omega) i p hi
  refine ⟨ev9 x6 c (.tup [.str [99,97,114,114,121],.int i]) [(i:Int)] (some (.int p.1)),G',?_,v'.sv (by omega) (by omega) (by omega) _ _ _⟩
  rw [st]
  have i0:((ixN 2 0).bind fun j=>[D.str [99,97,114,114,121],.int i][j]?)=some (.str [99,97,114,114,121]):=rfl
  have i1:((ixN 2 1).bind fun j=>[D.str [99,97,114,114,121],.int i][j]?)=some (.int i):=rfl
  unfold ev9
  simp! only [i0,i1,e1,qAY,ne_l1,qAr,ne_t1,qAs,ne_p1]
theorem qMU (v:V ns G ws lg N ts gs ov sp) (hN:N≤j) (hl:lg.length≤j) (hs:sp.length≤2*j) (hj:j≤60) (c:Nat) (hc:c=ws.length) (i:Nat) (p:Pc) (hi:ws[i]?=some p) :
    ∃ σ' g',denS (callN fns B (n+7)) B b15 (ev9 x6 c (dD (.lose i)) [(i:Int)] x10) G=.nx σ' g'∧SV ns (j+1) σ' g':=by
  have il:=(List.getElem?_eq_some_iff.mp hi).1
  have ir:=lt_in (show i<c by omega)
  have wl:=v.wl
  unfold dD
  obtain ⟨g,st⟩:=t_in (B:=B) (n:=n) (x6:=x6) (x10:=x10) v c [108,111,115,101] [.int i] i p hi [(i:Int)] (by simp) ne_s2 ne_d2 (by rw [List.filter_cons_of_pos ir];rfl) rfl
  have v1:=v.app g
  obtain ⟨g2,e1,R2,F2⟩:=qHP (B:=B) (n:=n+4) v1.rd i p hi (by omega)
  obtain ⟨g0,g4,g5,g6,g7,gl⟩:=v1.of F2 R2
  have em:ov.map D.int++[.int p.1]=(ov++[p.1]).map .int:=by rw [List.map_append];rfl
  have R3:=R2.setx (k:=6) (by decide) (by decide) (by decide) (.lst ((ov++[p.1]).map .int))
  have v3:V ns (g2.set 6 (.lst ((ov++[p.1]).map .int))) (ws.eraseIdx i) (lg++[.tup [.str [108,111,115,101],.int p.1]]) N ts gs (ov++[p.1]) sp:=by
    refine ⟨by rw [List.getElem?_set_ne (by decide)];exact g0,R3,by rw [List.getElem?_set_ne (by decide)];exact g4,by rw [List.getElem?_set_ne (by decide)];exact g5,List.getElem?_set_self (by omega),by rw [List.getElem?_set_ne (by decide)];exact g7,v.nt,v.ng,?_,fun q hq=>v.pc q (List.mem_of_mem_eraseIdx hq),v.tl,v.sk⟩
    refine List.Perm.trans ?_ v.pm
    rw [List.append_assoc]
    refine List.Perm.append_left ov ?_
    have:=(qCE hi).map (·.1)
    exact this.symm
  refine ⟨ev9 x6 c (.tup [.str [108,111,115,101],.int i]) [(i:Int)] (some (.int p.1)),_,?_,v3.sv (by omega) (by rw [List.length_append,List.length_singleton];omega) (by omega) _ _ _⟩
  rw [st]
  have i0:((ixN 2 0).bind fun j=>[D.str [108,111,115,101],.int i][j]?)=some (.str [108,111,115,101]):=rfl
  have i1:((ixN 2 1).bind fun j=>[D.str [108,111,115,101],.int i][j]?)=some (.int i):=rfl
  unfold ev9
  simp! only [i0,ne_c2,qAY,qIR,v1.rd.r,qNH,qKQ,i1,e1,qAF g6,g6,List.length_map,if_pos (show ov.length<16777216 by omega),em,qAr,ne_t2,qAs,ne_p2]
theorem qMR (v:V ns G ws lg N ts gs ov sp) (hN:N≤j) (hl:lg.length≤j) (hs:sp.length≤2*j) (hj:j≤60) (c:Nat) (hc:c=ws.length) (i o:Nat) (p q:Pc) (hi:ws[i]?=some p) (ho:ws[o]?=some q) :
    ∃ σ' g',denS (callN fns B (n+7)) B b15 (ev9 x6 c (dD (.turn i o)) [(i:Int),(o:Int)] x10) G=.nx σ' g'∧SV ns (j+1) σ' g':=by
  have il:=(List.getElem?_eq_some_iff.mp hi).1
  have ol:=(List.getElem?_eq_some_iff.mp ho).1
  have ir:=lt_in (show i<c by omega)
  have or':=lt_in (show o<c by omega)
  unfold dD
  obtain ⟨g,st⟩:=t_in (B:=B) (n:=n) (x6:=x6) (x10:=x10) v c [116,117,114,110] [.int i,.int o] i p hi [(i:Int),(o:Int)] (by simp) ne_s4 ne_d4 (by rw [List.filter_cons_of_pos ir,List.filter_cons_of_pos or'];rfl) rfl
  have v1:=v.app g
  obtain ⟨g2,e1,R2,F2⟩:=qHN (B:=B) (n:=n+4) v1.rd i o p q hi ho (by omega)
  obtain ⟨g0,g4,g5,g6,g7,gl⟩:=v1.of F2 R2
  have v3:V ns g2 ((ws.set i q).set o p) (lg++[.tup [.str [116,117,114,110],.int p.1,.int q.1]]) N ts gs ov sp:=by
    refine ⟨g0,R2,g4,g5,g6,g7,v.nt,v.ng,(List.Perm.append_left ov (qKU hi ho)).trans v.pm,fun r hr=>?_,v.tl,v.sk⟩
    rcases List.mem_or_eq_of_mem_set hr with hr | rfl
    · rcases List.mem_or_eq_of_mem_set hr with hr | rfl
      · exact v.pc r hr
      · exact v.pk ho
    · exact v.pk hi
  refine ⟨ev9 x6 c (.tup [.str [116,117,114,110],.int i,.int o]) [(i:Int),(o:Int)] (some (.int p.1)),g2,?_,v3.sv (by omega) (by rw [List.length_append,List.length_singleton];omega) (by omega) _ _ _⟩
  rw [st]
  have i0:((ixN 3 0).bind fun j=>[D.str [116,117,114,110],.int i,.int o][j]?)=some (.str [116,117,114,110]):=rfl
  have i1:((ixN 3 1).bind fun j=>[D.str [116,117,114,110],.int i,.int o][j]?)=some (.int i):=rfl
  have i2:((ixN 3 2).bind fun j=>[D.str [116,117,114,110],.int i,.int o][j]?)=some (.int o):=rfl
  unfold ev9
  simp! only [i0,ne_c4,qAY,ne_l4,qAr,qIQ,v1.rd.r,qNF,qKO,i1,i2,e1,qAs,ne_p4]
end
theorem qMh {α:Type} {l:List α} {i:Nat} {a:α} (h:l[i]?=some a):l.set i a=l:=by
 obtain ⟨hl,rfl⟩:=List.getElem?_eq_some_iff.mp h
 exact List.set_getElem_self hl
section
variable {B n:Nat} {ns:List Int} {G:AH} {ws:List Pc} {lg:List D} {N:Nat} {ts:List Tx} {gs:List Int} {ov:List Int} {sp:List (Ky × D)} {x6 x10:Option D} {j:Nat}
theorem V.nd (v:V ns G ws lg N ts gs ov sp) {i m:Nat} {p r:Pc} (hi:ws[i]?=some p) (hm:ws[m]?=some r) (e:r.1=p.1):m=i:=by
 have nd:=(List.nodup_append.mp (v.pm.nodup_iff.mpr (rg_nd N))).2.1
 have ml:=(List.getElem?_eq_some_iff.mp hm).1
 refine (List.getElem?_inj (l:=ws.map (·.1)) (by rw [List.length_map];exact ml) nd).mp ?_
 rw [List.getElem?_map,List.getElem?_map,hm,hi]
 show some r.1=some p.1
 rw [e]
theorem qKR (v:V ns G ws lg N ts gs ov sp) (hN:N≤j) (hl:lg.length≤j) (hs:sp.length≤2*j) (hj:j≤60) (c:Nat) (hc:c=ws.length) (i:Nat) (p:Pc) (hi:ws[i]?=some p) (a:Int) (cc:Nat) (ok:okC cc=true) :
    ∃ σ' g',denS (callN fns B (n+7)) B b15 (ev9 x6 c (dD (.spoil i a cc)) [(i:Int)] x10) G=.nx σ' g'∧SV ns (j+1) σ' g':=by
  have il:=(List.getElem?_eq_some_iff.mp hi).1
  have ir:=lt_in (show i<c by omega)
  unfold dD
  obtain ⟨g,st⟩:=t_in (B:=B) (n:=n) (x6:=x6) (x10:=x10) v c [115,112,111,105,108] [.int i,.int a,.str [cc]] i p hi [(i:Int)] (by simp) ne_s5 ne_d5 (by rw [List.filter_cons_of_pos ir];rfl) rfl
  have v1:=v.app g
  obtain ⟨k,t,k1,k2,k3,k4,k5,k6⟩:=v.pk hi
  have tl:=v.tl t (List.mem_of_getElem? k2)
  have i0:((ixN 4 0).bind fun j=>[D.str [115,112,111,105,108],.int i,.int a,.str [cc]][j]?)=some (.str [115,112,111,105,108]):=rfl
  have i1:((ixN 4 1).bind fun j=>[D.str [115,112,111,105,108],.int i,.int a,.str [cc]][j]?)=some (.int i):=rfl
  have i2:((ixN 4 2).bind fun j=>[D.str [115,112,111,105,108],.int i,.int a,.str [cc]][j]?)=some (.int a):=rfl
  have i3:((ixN 4 3).bind fun j=>[D.str [115,112,111,105,108],.int i,.int a,.str [cc]][j]?)=some (.str [cc]):=rfl
  have gd:(valY sp (.int p.1)).getD (.bl false)=.bl p.2.2.2:=by rw [k1];exact k4
  have x4:((ixN ts.length p.1).bind fun j=>(ts.map D.str)[j]?)=some (.str t):=by rw [k1];exact qDM k2
  have skip:∃ σ' g',SR.nx (ev9 x6 c (.tup [.str [115,112,111,105,108],.int i,.int a,.str [cc]]) [(i:Int)] (some (.int p.1))) (G++g)=.nx σ' g'∧SV ns (j+1) σ' g':=⟨_,_,rfl,v1.sv (by omega) (by omega) (by omega) _ _ _⟩
  rw [st]
  rcases Bool.eq_false_or_eq_true p.2.2.2 with fg | fg
  · rw [fg] at gd
    obtain ⟨σ',g',e1,s1⟩:=skip
    refine ⟨σ',g',?_,s1⟩
    rw [← e1]
    unfold ev9
    simp! only [i0,ne_c5,qAY,ne_l5,qAr,ne_t5,qAs,v1.sd,gd]
  · rw [fg] at gd
    by_cases a1:0≤a
    · by_cases a2:a<(t.length:Int)
      · obtain ⟨jj,rfl⟩:∃ jj:Nat,a=(jj:Int):=⟨a.toNat,by omega⟩
        have jl:jj<t.length:=by omega
        have ej:t[jj]?=some t[jj]:=List.getElem?_eq_getElem jl
        have xj:=tx_at ej
        have sq:(([t[jj]]:Tx) == [cc])=(t[jj] == cc):=by
          show (t[jj] == cc&&true)=_
          rw [Bool.and_true]
        rcases Bool.eq_false_or_eq_true (t[jj] == cc) with q | q
        · obtain ⟨σ',g',e1,s1⟩:=skip
          refine ⟨σ',g',?_,s1⟩
          rw [← e1]
          unfold ev9
          simp! only [i0,ne_c5,qAY,ne_l5,qAr,ne_t5,qAs,v1.sd,gd,i2,a1,qAF v1.tx,List.length_map,Option.bind_some,x4,if_pos (show t.length≤16777216 by omega),a2,qFV,xj,i3,sq,q]
        · have pt:=k5 fg
          have hoth:oth [cc] t[jj]=true:=by
            unfold oth
            have q2:(([cc]:Tx) == [t[jj]])=false:=by
              show (cc == t[jj]&&true)=false
              rw [Bool.and_true]
              have:t[jj]≠cc:=fun z=>by rw [z,beq_self_eq_true] at q;cases q
              simpa using fun z=>this z.symm
            rw [q2]
            simp [ok]
          have sx:=qGK (B:=B) (n:=n+2) v1.rd i p hi fg (by rw [pt];omega) jj t[jj] (by rw [pt];exact ej) [cc] (by simp) hoth
          obtain ⟨g2,sx⟩:=sx
          rcases sx with ⟨e1,R2,gl,gk⟩ | z
          · have F2:Fr [1,2,3] (G++g) g2:=Fr.of3 gl fun m h1 h2 h3 h4=>gk m h1 h2 h4
            obtain ⟨g0,g4,g5,g6,g7,gl7⟩:=v1.of F2 R2
            have R3:=R2.setx (k:=7) (by decide) (by decide) (by decide) (.dct (putY sp (.int p.1) (.bl true)))
            have le:=qFp sp (.int p.1) (.bl true)
            have pk:putKD (.bl true) 7 (.int p.1) g2=.ok () (g2.set 7 (.dct (putY sp (.int p.1) (.bl true)))):=by
              unfold putKD
              rw [g7]
              simp only [if_pos (show sp.length<16777216 by omega)]
            have v3:V ns (g2.set 7 (.dct (putY sp (.int p.1) (.bl true)))) (ws.set i (p.1,p.2.1,p.2.2.1.take jj++[cc]++p.2.2.1.drop (jj+1),true)) (lg++[.tup [.str [115,112,111,105,108],.int p.1,.str (p.2.2.1.take jj++[cc]++p.2.2.1.drop (jj+1))]]) N ts gs ov (putY sp (.int p.1) (.bl true)):=by
              refine ⟨by rw [List.getElem?_set_ne (by decide)];exact g0,R3,by rw [List.getElem?_set_ne (by decide)];exact g4,by rw [List.getElem?_set_ne (by decide)];exact g5,by rw [List.getElem?_set_ne (by decide)];exact g6,List.getElem?_set_self gl7,v.nt,v.ng,?_,fun r hr=>?_,v.tl,fun m hm=>?_⟩
              · have e:(ws.set i (p.1,p.2.1,p.2.2.1.take jj++[cc]++p.2.2.1.drop (jj+1),true)).map (·.1)=ws.map (·.1):=by
                  rw [List.map_set]
                  exact qMh (by rw [List.getElem?_map,hi];rfl)
                rw [e]
                exact v.pm
              · obtain ⟨m,hm⟩:=List.mem_iff_getElem?.mp hr
                by_cases c1:i=m
                · subst c1
                  rw [List.getElem?_set_self il] at hm
                  cases hm
                  refine ⟨k,t,k1,k2,k3,by rw [qBd,if_pos (by rw [← k1])];rfl,(fun z=>nomatch z),?_⟩
                  show un (p.2.2.1.take jj++[cc]++p.2.2.1.drop (jj+1)) t
                  rw [pt]
                  exact qLy cc jl
                · rw [List.getElem?_set_ne c1] at hm
                  obtain ⟨k',t',b1,b2,b3,b4,b5⟩:=v.pk hm
                  refine ⟨k',t',b1,b2,b3,?_,b5⟩
                  rw [qBd,if_neg (fun z=>c1 (v.nd hi hm (by rw [b1];injection z)).symm)]
                  exact b4
              · rw [qBd,if_neg (fun z=>by
                  injection z with z
                  have:=(List.getElem?_eq_some_iff.mp k2).1
                  have:=v.nt
                  omega)]
                exact v.sk m hm
            refine ⟨ev9 x6 c (.tup [.str [115,112,111,105,108],.int i,.int (jj:Int),.str [cc]]) [(i:Int)] (some (.int p.1)),_,?_,v3.sv (by omega) (by rw [List.length_append,List.length_singleton];omega) (by omega) _ _ _⟩
            unfold ev9
            simp! only [i0,ne_c5,qAY,ne_l5,qAr,ne_t5,qAs,v1.sd,gd,i2,a1,qAF v1.tx,List.length_map,Option.bind_some,x4,if_pos (show t.length≤16777216 by omega),a2,qFV,xj,i3,sq,q,qIP,v1.rd.r,qK9,qIg,i1,e1,g7,pk]
          · omega
      · obtain ⟨σ',g',e1,s1⟩:=skip
        refine ⟨σ',g',?_,s1⟩
        rw [← e1]
        unfold ev9
        simp! only [i0,ne_c5,qAY,ne_l5,qAr,ne_t5,qAs,v1.sd,gd,i2,a1,qAF v1.tx,List.length_map,Option.bind_some,x4,if_pos (show t.length≤16777216 by omega),a2]
    · obtain ⟨σ',g',e1,s1⟩:=skip
      refine ⟨σ',g',?_,s1⟩
      rw [← e1]
      unfold ev9
      simp! only [i0,ne_c5,qAY,ne_l5,qAr,ne_t5,qAs,v1.sd,gd,i2,a1]
end
theorem qDV (p:Int) (k:Nat):inR k p=false∨∃ i:Nat,p=(i:Int)∧i<k:=by
 by_cases h:0≤p∧p<k
 ·exact .inr ⟨p.toNat,by omega,by omega⟩
 ·left
  unfold inR
  by_cases h1:0≤p
  ·rw [decide_eq_false (show ¬ p<k from fun z=>h ⟨h1,z⟩),Bool.and_false]
  ·rw [decide_eq_false h1];rfl
theorem qDv {c:Nat} {p:Int} (h:inR c p=false):([p].filter (inR c)).length≠[p].length:=by
 rw [List.filter_cons_of_neg (by rw [h];decide)]
 show (0:Nat)≠1
 decide
noncomputable def psD:Dd→List Int
 | .send i _=>[(i:Int)]
 | .carry p=>[p]
 | .lose p=>[p]
 | .double p=>[p]
 | .turn p o=>[p,o]
 | .spoil p _ _=>[p]
section
variable {B n:Nat} {ns:List Int} {G:AH} {ws:List Pc} {lg:List D} {N:Nat} {ts:List Tx} {gs:List Int} {ov:List Int} {sp:List (Ky × D)} {x6 x10:Option D} {j:Nat}
theorem t_any (v:V ns G ws lg N ts gs ov sp) (hN:N≤j) (hl:lg.length≤j) (hs:sp.length≤2*j) (hj:j≤60) (c:Nat) (hc:c=ws.length) (dd:Dd) (ok:okD dd) :
    ∃ σ' g',denS (callN fns B (n+7)) B b15 (ev9 x6 c (dD dd) (psD dd) x10) G=.nx σ' g'∧SV ns (j+1) σ' g':=by
  have at_:∀ i,i<c→∃ p,ws[i]?=some p:=fun i h=>⟨ws[i]'(by omega),List.getElem?_eq_getElem (by omega)⟩
  have skip:∀ (w:Tx) (u:List D) (ps:List Int),ps.length≤1000→(w == [115,101,110,100])=false→((w == [100,111,117,98,108,101])=false∨∃ z,((ixN (u.length+1) 1).bind fun j=>(.str w::u)[j]?)=some (.int z)∧inR c z=false)→(ps.filter (inR c)).length≠ps.length →
      ∃ σ' g',denS (callN fns B (n+7)) B b15 (ev9 x6 c (.tup (.str w::u)) ps x10) G=.nx σ' g'∧SV ns (j+1) σ' g':=fun w u ps h0 h1 h2 h3=>by
    obtain ⟨g,e⟩:=qMS (B:=B) (n:=n) (x6:=x6) (x10:=x10) c w u ps h0 G h1 h2 h3
    exact ⟨_,_,e,(v.app g).sv (by omega) (by omega) (by omega) _ _ _⟩
  cases dd with
  | send i y=>exact qMT v hN hl hs hj c i ok.1 y ok.2 _
  | carry p =>
    rcases qDV p c with z | ⟨i,rfl,hi⟩
    · exact skip _ _ _ (by simp [psD]) ne_s1 (.inl ne_d1) (qDv z)
    · obtain ⟨q,hq⟩:=at_ i hi
      exact qKS v hN hl hs hj c hc i q hq
  | lose p =>
    rcases qDV p c with z | ⟨i,rfl,hi⟩
    · exact skip _ _ _ (by simp [psD]) ne_s2 (.inl ne_d2) (qDv z)
    · obtain ⟨q,hq⟩:=at_ i hi
      exact qMU v hN hl hs hj c hc i q hq
  | double p =>
    rcases qDV p c with z | ⟨i,rfl,hi⟩
    · exact skip _ _ _ (by simp [psD]) ne_s3 (.inr ⟨p,rfl,z⟩) (qDv z)
    · obtain ⟨q,hq⟩:=at_ i hi
      exact qIi v hN hl hs hj c hc i q hq _
  | turn p o =>
    rcases qDV p c with z | ⟨i,rfl,hi⟩
    · refine skip _ _ _ (by simp [psD]) ne_s4 (.inl ne_d4) ?_
      show ([p,o].filter (inR c)).length≠2
      rw [List.filter_cons_of_neg (by rw [z];decide)]
      have:=List.length_filter_le (inR c) [o]
      simp only [List.length_cons,List.length_nil] at this
      omega
    · rcases qDV o c with z | ⟨m,rfl,hm⟩
      · refine skip _ _ _ (by simp [psD]) ne_s4 (.inl ne_d4) ?_
        show ([(i:Int),o].filter (inR c)).length≠2
        rw [List.filter_cons_of_pos (lt_in hi),List.filter_cons_of_neg (by rw [z];decide)]
        show (1:Nat)≠2
        decide
      · obtain ⟨q,hq⟩:=at_ i hi
        obtain ⟨r,hr⟩:=at_ m hm
        exact qMR v hN hl hs hj c hc i m q r hq hr
  | spoil p a cc =>
    rcases qDV p c with z | ⟨i,rfl,hi⟩
    · exact skip _ _ _ (by simp [psD]) ne_s5 (.inl ne_d5) (qDv z)
    · obtain ⟨q,hq⟩:=at_ i hi
      exact qKR v hN hl hs hj c hc i q hq a cc ok
theorem qMQ (hj:j<60) (hjn:j<ns.length) (σ:Fy.Env) (g:AH) (X:SV ns j σ g) :
    ∃ σ' g',qAv (TG.nm 6) (denS (callN fns B (n+7)) B qCX) (.int (0+(j:Int))) σ g=.nx σ' g'∧SV ns (j+1) σ' g':=by
  obtain ⟨ws,lg,N,ts,gs,ov,sp,x6,x7,x8,x9,x10,rfl,v,hN,hl,hs⟩:=X
  have wl:=v.wl
  have fm:=qBI (B:=B) (n:=n+6) v.rd
  have v1:=v.app [.lst (flD ws)]
  have gf:getL (g++[.lst (flD ws)]) g.length=some (flD ws):=by rw [qAG];rfl
  have gs0:getL (g++[.lst (flD ws)]) 0=some (ns.map .int):=by unfold getL;rw [v1.sc]
  have ix0:=qDM (f:=D.int) (List.getElem?_eq_getElem hjn)
  obtain ⟨dd,g2,dm,ok⟩:=qGM B (n+5) (g++[.lst (flD ws)]) (ns[j]+31*(j:Int)) ws.length (by omega)
  have v2:=v1.app g2
  obtain ⟨σ',g',e1,S1⟩:=t_any (B:=B) (n:=n) (x6:=some (.int j)) (x10:=x10) v2 hN hl hs (by omega) ws.length rfl dd ok
  refine ⟨σ',g',?_,S1⟩
  rw [← e1,qEB,Int.zero_add]
  rw [show qCX=.seq (.set (.nm 7) (.un .len (.meth 112616079453799 [(1383031140,7)] (.var 1) .nil))) (.seq (.set (.nm 8) (.call 22 (.cons (.bi .add (.bi .ix (.var 0) (.var 6)) (.bi .mul (.lit (.int 31)) (.var 6))) (.cons (.var 7) .nil)))) (.seq (.set (.nm 9) (.sl (.var 8) (.at (.lit (.int 1))) (.at (.bi .add (.lit (.int 2)) (.un .int (.bi .eq (.bi .ix (.var 8) (.lit (.int 0))) (.lit (.str [116,117,114,110])))))))) b15)) from rfl]
  have mo:mulOk (31:Int) (j:Int):=qE7 (by omega)
  unfold ev9
  cases dd with
  | send i y =>
    unfold dD at dm ⊢
    have i0:((ixN 3 0).bind fun j=>[D.str [115,101,110,100],.int i,.str y][j]?)=some (.str [115,101,110,100]):=rfl
    have cx:cutX [D.str [115,101,110,100],.int i,.str y] (some 1) (some 2)=(psD (.send i y)).map .int:=rfl
    generalize (psD (.send i y)).map D.int=P at *
    simp! only [v.rd.r,qAV,qAQ,fm,gf,qBR,gs0,List.length_map,Option.bind_some,ix0,if_pos mo,dm,i0,ne_t0,Int.add_zero,cx]
  | carry p =>
    unfold dD at dm ⊢
    have i0:((ixN 2 0).bind fun j=>[D.str [99,97,114,114,121],.int p][j]?)=some (.str [99,97,114,114,121]):=rfl
    have cx:cutX [D.str [99,97,114,114,121],.int p] (some 1) (some 2)=(psD (.carry p)).map .int:=rfl
    generalize (psD (.carry p)).map D.int=P at *
    simp! only [v.rd.r,qAV,qAQ,fm,gf,qBR,gs0,List.length_map,Option.bind_some,ix0,if_pos mo,dm,i0,ne_t1,Int.add_zero,cx]
  | lose p =>
    unfold dD at dm ⊢
    have i0:((ixN 2 0).bind fun j=>[D.str [108,111,115,101],.int p][j]?)=some (.str [108,111,115,101]):=rfl
    have cx:cutX [D.str [108,111,115,101],.int p] (some 1) (some 2)=(psD (.lose p)).map .int:=rfl
    generalize (psD (.lose p)).map D.int=P at *
    simp! only [v.rd.r,qAV,qAQ,fm,gf,qBR,gs0,List.length_map,Option.bind_some,ix0,if_pos mo,dm,i0,ne_t2,Int.add_zero,cx]
  | double p =>
    unfold dD at dm ⊢
    have i0:((ixN 2 0).bind fun j=>[D.str [100,111,117,98,108,101],.int p][j]?)=some (.str [100,111,117,98,108,101]):=rfl
    have cx:cutX [D.str [100,111,117,98,108,101],.int p] (some 1) (some 2)=(psD (.double p)).map .int:=rfl
    generalize (psD (.double p)).map D.int=P at *
    simp! only [v.rd.r,qAV,qAQ,fm,gf,qBR,gs0,List.length_map,Option.bind_some,ix0,if_pos mo,dm,i0,ne_t3,Int.add_zero,cx]
  | turn p o =>
    unfold dD at dm ⊢
    have i0:((ixN 3 0).bind fun j=>[D.str [116,117,114,110],.int p,.int o][j]?)=some (.str [116,117,114,110]):=rfl
    have cx:cutX [D.str [116,117,114,110],.int p,.int o] (some 1) (some 3)=(psD (.turn p o)).map .int:=rfl
    generalize (psD (.turn p o)).map D.int=P at *
    simp! only [v.rd.r,qAV,qAQ,fm,gf,qBR,gs0,List.length_map,Option.bind_some,ix0,if_pos mo,dm,i0,cx]
  | spoil p a cc =>
    unfold dD at dm ⊢
    have i0:((ixN 4 0).bind fun j=>[D.str [115,112,111,105,108],.int p,.int a,.str [cc]][j]?)=some (.str [115,112,111,105,108]):=rfl
    have cx:cutX [D.str [115,112,111,105,108],.int p,.int a,.str [cc]] (some 1) (some 2)=(psD (.spoil p a cc)).map .int:=rfl
    generalize (psD (.spoil p a cc)).map D.int=P at *
    simp! only [v.rd.r,qAV,qAQ,fm,gf,qBR,gs0,List.length_map,Option.bind_some,ix0,if_pos mo,dm,i0,ne_t5,Int.add_zero,cx]
end
theorem er (H:AH) (i j:Nat):eqTop H (.ref i) (.ref j)=(match getL H i,getL H j with | some xs,some ys=>eqW (eqD H 39) xs ys | _,_=>none):=rfl
theorem qHr (h:AH):∀ xs:List Int,eqW (eqD h 39) (xs.map .int) (xs.map .int)=some true
 | []=>rfl
 | x::r=>by
  show (match eqD h 39 (.int x) (.int x),eqW (eqD h 39) (r.map .int) (r.map .int) with | some a,some b=>some (a&&b) | _,_=>none)=some true
  rw [qHr h r]
  show some ((x == x)&&true)=some true
  rw [beq_self_eq_true]
  rfl
section
variable {B n:Nat} {ns:List Int} {N:Nat} {ts:List Tx} {gs:List Int} {sp:List (Ky × D)} (x6 x7 x8 x9 x10:Option D)
theorem qEG (hN:N≤100) (hb:0<B):∀ (f:Nat) (G:AH) (ws:List Pc) (lg:List D) (ov:List Int),ws.length<f→V ns G ws lg N ts gs ov sp→lg.length+ws.length≤800 →
    ∃ G' lg' ov',qCY (denT (callN fns B (n+7)) qB0) (denS (callN fns B (n+7)) B qD8) f [some (.ref 0),some (.ref 1),some (.ref 4),some (.ref 5),some (.ref 6),some (.ref 7),x6,x7,x8,x9,x10] G=.nx [some (.ref 0),some (.ref 1),some (.ref 4),some (.ref 5),some (.ref 6),some (.ref 7),x6,x7,x8,x9,x10] G'∧V ns G' [] lg' N ts gs ov' sp
  | 0,G,ws,lg,ov,hf,_,_=>by omega
  | f+1,G,ws,lg,ov,hf,v,hl=>by
    have fm:=qBI (B:=B) (n:=n+6) v.rd
    have gf:getL (G++[.lst (flD ws)]) G.length=some (flD ws):=by rw [qAG];rfl
    have d0:decide ((0:Int)<(ws.length:Int))=decide (0<ws.length):=qGQ 0 _
    unfold qCY
    by_cases q:0<ws.length
    · have v1:=v.app [.lst (flD ws)]
      have fm1:=qBI (B:=B) (n:=n+6) v1.rd
      have gf1:getL (G++[.lst (flD ws)]++[.lst (flD ws)]) (G++[O.lst (flD ws)]).length=some (flD ws):=by rw [qAG];rfl
      have v2:=(v1.app [.lst (flD ws)]).app [.lst [.int 0,.int ((ws.length:Int)-1)]]
      have gs0:getL (G++[.lst (flD ws)]++[.lst (flD ws)]++[.lst [.int 0,.int ((ws.length:Int)-1)]]) 0=some (ns.map .int):=by unfold getL;rw [v2.sc]
      have ce:=qHS B (n+6) _ 0 ns 60 gs0
      have g3:getL (G++[.lst (flD ws)]++[.lst (flD ws)]++[.lst [.int 0,.int ((ws.length:Int)-1)]]) (G++[O.lst (flD ws)]++[O.lst (flD ws)]).length=some [.int 0,.int ((ws.length:Int)-1)]:=by rw [qAG];rfl
      rw [show D.int ((60:Nat):Int)=D.int 60 from rfl] at ce
      generalize ns.getD 60 0=cell at ce
      obtain ⟨i,hi,hil⟩:∃ i:Nat,((ixN 2 (cell % 2)).bind fun j=>[D.int 0,.int ((ws.length:Int)-1)][j]?)=some (.int i)∧i<ws.length:=by
        have:cell % 2=0∨cell % 2=1:=by omega
        rcases this with z | z
        · rw [z];exact ⟨0,rfl,q⟩
        · rw [z]
          refine ⟨ws.length-1,?_,by omega⟩
          show some (D.int ((ws.length:Int)-1))=some (D.int ((ws.length-1:Nat):Int))
          rw [show (ws.length:Int)-1=((ws.length-1:Nat):Int) by omega]
      have hp:ws[i]?=some ws[i]:=List.getElem?_eq_getElem hil
      obtain ⟨G',lg',ea,v',l'⟩:=qEW (B:=B) (n:=n+3) v2 (by omega) (by omega) i ws[i] hp
      have el:(ws.eraseIdx i).length=ws.length-1:=by rw [List.length_eraseIdx,if_pos hil]
      obtain ⟨G2,lg2,ov2,er2,v3⟩:=qEG hN hb f G' (ws.eraseIdx i) lg' _ (by omega) v' (by omega)
      refine ⟨G2,lg2,ov2,?_,v3⟩
      rw [← er2]
      simp! only [qB0,v.rd.r,qAV,qAQ,fm,gf,qBR,d0,q,qD8,v1.rd.r,fm1,gf1,if_pos (show 2≤16777216 by omega),ce,g3,Option.bind_some,hi,ea]
    · have w0:ws=[]:=List.eq_nil_of_length_eq_zero (by omega)
      refine ⟨G++[.lst (flD ws)],lg,ov,?_,by rw [← w0];exact v.app _⟩
      simp! only [qB0,v.rd.r,qAV,qAQ,fm,gf,qBR,d0,q]
end
theorem law_true (_B n:Nat) (ns:List Int) (hz:ns.length≤63):∃ h',callN fns 1000 (n+8) i_law [.ref 0] [.rol (ns.map .int)]=.ok (.bl true) h':=by
 rw [c_law]
 have g0:∀ x:AH,getL (.rol (ns.map .int)::x) 0=some (ns.map .int):=fun _=>rfl
 have k1:=qJE 1000 (n+6) [.rol (ns.map .int)]
 simp only [List.length_cons,List.length_nil,List.cons_append,List.nil_append,Nat.reduceAdd,Nat.zero_add] at k1
 obtain ⟨t,ht,ht2,ht3⟩:∃ t:Nat,(if (ns.length:Int)<60 then (ns.length:Int) else 60)=(t:Int)∧t≤60∧t≤ns.length:=by
  by_cases q:(ns.length:Int)<60
  ·rw [if_pos q];exact ⟨ns.length,rfl,by omega,Nat.le_refl _⟩
  ·rw [if_neg q];exact ⟨60,rfl,Nat.le_refl _,by omega⟩
 have sm:qAH (t:Int):=by unfold qAH;omega
 have start:SV ns 0 [some (.ref 0),some (.ref 1),some (.ref 4),some (.ref 5),some (.ref 6),some (.ref 7),none,none,none,none,none] [.rol (ns.map .int),.ins qAT (rd 2 3 0),.lst [],.lst [],.lst [],.lst [],.lst [],.dct []]:=by
  refine ⟨[],[],0,[],[],[],[],none,none,none,none,none,rfl,⟨rfl,⟨rfl,rfl,rfl,by decide,by simp,by simp⟩,rfl,rfl,rfl,rfl,rfl,rfl,List.Perm.refl _,(fun p hp=>nomatch hp),(fun t ht=>nomatch ht),fun k _=>rfl⟩,Nat.le_refl _,Nat.le_refl _,Nat.le_refl _⟩
 obtain ⟨σ',g',LL,X⟩:=qCq (fun k σ g=>SV ns k σ g) (qAv (TG.nm 6) (denS (callN fns 1000 (n+7)) 1000 qCX)) (qAR 0 t) 0 _ _ start (fun j x σ g hj X=>by
  obtain ⟨hjm,rfl⟩:=qEI hj
  rw [Nat.zero_add] at *
  exact qMQ (by omega) (by omega) σ g X)
 rw [qBS,Nat.zero_add] at X
 obtain ⟨ws,lg,N,ts,gs,ov,sp,x6,x7,x8,x9,x10,rfl,v,hN,hl,hs⟩:=X
 have wl:=v.wl
 obtain ⟨G2,lg2,ov2,L2,v2⟩:=qEG (B:=1000) (n:=n) x6 x7 x8 x9 x10 (show N≤100 by omega) (by omega) 1000 g' ws lg ov (by omega) v (by omega)
 have wl2:=v2.wl
 simp only [List.length_nil,Nat.add_zero] at wl2
 have pm:=v2.pm
 simp only [List.map_nil,List.append_nil] at pm
 have so:=qKY pm
 have o6:(getL G2 6).bind qAO=some ov2:=by rw [qAF v2.oh,Option.bind_some,qCW]
 have rl:=qJt N
 have gx:=v2.app [.lst ((rg N).map .int)]
 have z0:(([]:List Ky).length=([]:List D).length∧([]:List Ky).length≤15):=⟨rfl,by decide⟩
 have sN:qAH (N:Int):=by unfold qAH;omega
 have gA:getL (G2++[.lst ((rg N).map .int)]++[.lst ((rg N).map .int)]) G2.length=some ((rg N).map .int):=by rw [List.append_assoc,qAG];rfl
 have gB:getL (G2++[.lst ((rg N).map .int)]++[.lst ((rg N).map .int)]) (G2++[O.lst ((rg N).map .int)]).length=some ((rg N).map .int):=by rw [qAG];rfl
 have he:eqTop (G2++[.lst ((rg N).map .int)]++[.lst ((rg N).map .int)]) (.ref G2.length) (.ref (G2++[O.lst ((rg N).map .int)]).length)=some true:=by
  rw [er,gA,gB]
  exact qHr _ _
 have nt:=v2.nt
 have t4:=qAF gx.tx
 refine ⟨G2++[.lst ((rg N).map .int)]++[.lst ((rg N).map .int)],?_⟩
 simp! only [b_law,k1,if_pos (show 0≤16777216 by omega),dispD,if_pos z0,qFo,List.zip_nil_left,List.foldl_nil,g0,List.length_map,ht,if_pos sm,Int.toNat_natCast,LL,qF0,L2,qF1,qAF v2.oh,Option.bind_some,qCW,if_pos (show ov2.length<64 by omega),so,rl,if_pos (show N≤16777216 by omega),t4,nt,if_pos sN,qGz N,he]
noncomputable def top (i:Nat):Stmt:=PySem.Challenge.pw_ferry_k49_whole_what_is_carried.main.body.getD i (.Pass ⟨0,0,0,0⟩)
noncomputable def qBD (i j:Nat):Stmt:=match top i with
 | .ClassDef _ _ _ b _ _ _ _ _ _ _=>b.getD j (.Pass ⟨0,0,0,0⟩)
 | s=>s
noncomputable def G:List (Str × GK):=[(("law":Str),GK.fn 26),(("FIRST_SIGN":Str),GK.con (.int 32)),(("HOST":Str),GK.con (.int 1)),(("IS_SPOILT":Str),GK.con (.int 3)),(("LAST_HOST":Str),GK.con (.int 1)),(("LAST_SIGN":Str),GK.con (.int 126)),(("LEFT_OUT_SIGN":Str),GK.con (.int 37)),(("MOST_IN_FLIGHT":Str),GK.con (.int 200)),(("MOST_TEXT":Str),GK.con (.int 400)),(("NUMBER":Str),GK.con (.int 0)),(("NoDeed":Str),GK.exc 86239795832164),(("NoPiece":Str),GK.exc 22077439339750245),(("Road":Str),GK.cls 1383031140 6),(("TEXT":Str),GK.con (.int 2)),(("_law_arrived":Str),GK.fn 24),(("_law_cell_at":Str),GK.fn 19),(("_law_deed":Str),GK.fn 22),(("_law_put_on":Str),GK.fn 25),(("_law_signs":Str),GK.fn 21),(("_law_stream":Str),GK.fn 20),(("_law_unlike":Str),GK.fn 23),(("_law_x":Str),GK.blt),(("_law_y":Str),GK.blt),(("_wall":Str),GK.fn 0),(("all":Str),GK.blt),(("bool":Str),GK.blt),(("int":Str),GK.blt),(("is_number":Str),GK.fn 3),(("is_other_sign":Str),GK.fn 5),(("is_road_text":Str),GK.fn 4),(("is_sign":Str),GK.fn 1),(("is_signs":Str),GK.fn 2),(("isinstance":Str),GK.blt),(("len":Str),GK.blt),(("list":Str),GK.blt),(("max":Str),GK.blt),(("min":Str),GK.blt),(("ord":Str),GK.blt),(("range":Str),GK.blt),(("sorted":Str),GK.blt),(("str":Str),GK.blt),(("tuple":Str),GK.blt),(("zip":Str),GK.blt)]
noncomputable def xs:List (Nat × List Nat):=[]
noncomputable def xl:List Nat:=[332437021739526678278002,22077439339750245,86239795832164]
theorem qDj:nmOf 332437021739526678278002=("FerryError":Str):=by kernel_rfl
theorem qDL:nmOf 22077439339750245=("NoPiece":Str):=by kernel_rfl
theorem qES:nmOf 86239795832164=("NoDeed":Str):=by kernel_rfl
noncomputable def Mt:List (Str × Nat × List (Nat × Nat)):=[("__init__",6872327479327219551,[(1383031140,6)]),("flying",112616079453799,[(1383031140,7)]),("log",7106407,[(1383031140,8)]),("text_of",32762665321328486,[(1383031140,9)]),("send",1936027236,[(1383031140,10)]),("is_full",29681726132677740,[(1383031140,11)]),("put_on",123649765896046,[(1383031140,12)]),("piece_at",8100116882379465076,[(1383031140,13)]),("carry",426836652665,[(1383031140,14)]),("lose",1819243365,[(1383031140,15)]),("double",110429873532005,[(1383031140,16)]),("turn",1953854062,[(1383031140,17)]),("spoil",495807588716,[(1383031140,18)])]
noncomputable def At:List (Str × Nat × List Nat):=[("on_way",122519838744953,[1383031140]),("done",1685024357,[1383031140]),("new_number",521332035982369564550514,[1383031140])]
theorem qAU:nmOf 1383031140=("Road":Str):=by kernel_rfl
theorem qGC:nmOf 122519838744953=("on_way":Str):=by kernel_rfl
theorem qI2:nmOf 1685024357=("done":Str):=by kernel_rfl
theorem qC8:nmOf 521332035982369564550514=("new_number":Str):=by kernel_rfl
theorem qER:nmOf 6872327479327219551=("__init__":Str):=by kernel_rfl
theorem qGD:nmOf 112616079453799=("flying":Str):=by kernel_rfl
theorem qK7:nmOf 7106407=("log":Str):=by kernel_rfl
theorem qE4:nmOf 32762665321328486=("text_of":Str):=by kernel_rfl
theorem qI0:nmOf 1936027236=("send":Str):=by kernel_rfl
theorem qE5:nmOf 29681726132677740=("is_full":Str):=by kernel_rfl
theorem qGB:nmOf 123649765896046=("put_on":Str):=by kernel_rfl
theorem qEQ:nmOf 8100116882379465076=("piece_at":Str):=by kernel_rfl
theorem qHE:nmOf 426836652665=("carry":Str):=by kernel_rfl
theorem qI1:nmOf 1819243365=("lose":Str):=by kernel_rfl
theorem qGE:nmOf 110429873532005=("double":Str):=by kernel_rfl
theorem qIz:nmOf 1953854062=("turn":Str):=by kernel_rfl
theorem qHD:nmOf 495807588716=("spoil":Str):=by kernel_rfl
noncomputable def d_wall:Df:=⟨"_wall","_wall",top 0,["k"],["k"]⟩
theorem qKq:DfOk G xs Mt At d_wall ⟨1,1,qIO⟩:=⟨⟨rfl,rfl,rfl,by decide +kernel,rfl,by decide +kernel,by decide +kernel⟩,by kernel_rfl,rfl,rfl⟩
noncomputable def d_is_sign:Df:=⟨"is_sign","is_sign",top 9,["sign","place"],["sign"]⟩
theorem qGA:DfOk G xs Mt At d_is_sign ⟨1,2,qB3⟩:=⟨⟨rfl,rfl,rfl,by decide +kernel,rfl,by decide +kernel,by decide +kernel⟩,by kernel_rfl,rfl,rfl⟩
noncomputable def d_is_signs:Df:=⟨"is_signs","is_signs",top 10,["thing"],["thing"]⟩
theorem qE1:DfOk G xs Mt At d_is_signs ⟨1,1,qBF⟩:=⟨⟨rfl,rfl,rfl,by decide +kernel,rfl,by decide +kernel,by decide +kernel⟩,by kernel_rfl,rfl,rfl⟩
noncomputable def d_is_number:Df:=⟨"is_number","is_number",top 11,["thing","least","most"],["thing","least","most"]⟩
theorem qEK:DfOk G xs Mt At d_is_number ⟨3,3,qBL⟩:=⟨⟨rfl,rfl,rfl,by decide +kernel,rfl,by decide +kernel,by decide +kernel⟩,by kernel_rfl,rfl,rfl⟩
noncomputable def d_is_road_text:Df:=⟨"is_road_text","is_road_text",top 20,["thing"],["thing"]⟩
theorem qCa:DfOk G xs Mt At d_is_road_text ⟨1,1,qAS⟩:=⟨⟨rfl,rfl,rfl,by decide +kernel,rfl,by decide +kernel,by decide +kernel⟩,by kernel_rfl,rfl,rfl⟩
noncomputable def d_is_other_sign:Df:=⟨"is_other_sign","is_other_sign",top 21,["thing","sign"],["thing","sign"]⟩
theorem qCP:DfOk G xs Mt At d_is_other_sign ⟨2,2,qAN⟩:=⟨⟨rfl,rfl,rfl,by decide +kernel,rfl,by decide +kernel,by decide +kernel⟩,by kernel_rfl,rfl,rfl⟩
noncomputable def d_Road_init:Df:=⟨"__init__","Road.__init__",qBD 22 0,["self"],["self"]⟩
theorem qEO:DfOk G xs Mt At d_Road_init ⟨1,1,qBP⟩:=⟨⟨rfl,rfl,rfl,by decide +kernel,rfl,by decide +kernel,by decide +kernel⟩,by kernel_rfl,rfl,rfl⟩
noncomputable def d_Road_flying:Df:=⟨"flying","Road.flying",qBD 22 1,["self"],["self"]⟩
theorem qC6:DfOk G xs Mt At d_Road_flying ⟨1,1,qAt⟩:=⟨⟨rfl,rfl,rfl,by decide +kernel,rfl,by decide +kernel,by decide +kernel⟩,by kernel_rfl,rfl,rfl⟩
noncomputable def d_Road_log:Df:=⟨"log","Road.log",qBD 22 2,["self"],["self"]⟩
theorem qE2:DfOk G xs Mt At d_Road_log ⟨1,1,qCG⟩:=⟨⟨rfl,rfl,rfl,by decide +kernel,rfl,by decide +kernel,by decide +kernel⟩,by kernel_rfl,rfl,rfl⟩
noncomputable def d_Road_text_of:Df:=⟨"text_of","Road.text_of",qBD 22 3,["self","number"],["self","number"]⟩
theorem qCb:DfOk G xs Mt At d_Road_text_of ⟨2,2,qA8⟩:=⟨⟨rfl,rfl,rfl,by decide +kernel,rfl,by decide +kernel,by decide +kernel⟩,by kernel_rfl,rfl,rfl⟩
noncomputable def d_Road_send:Df:=⟨"send","Road.send",qBD 22 4,["self","host","text","number"],["self","host","text"]⟩
theorem qEM:DfOk G xs Mt At d_Road_send ⟨3,4,qBN⟩:=⟨⟨rfl,rfl,rfl,by decide +kernel,rfl,by decide +kernel,by decide +kernel⟩,by kernel_rfl,rfl,rfl⟩
noncomputable def d_Road_is_full:Df:=⟨"is_full","Road.is_full",qBD 22 5,["self"],["self"]⟩
theorem qCc:DfOk G xs Mt At d_Road_is_full ⟨1,1,qAe⟩:=⟨⟨rfl,rfl,rfl,by decide +kernel,rfl,by decide +kernel,by decide +kernel⟩,by kernel_rfl,rfl,rfl⟩
noncomputable def d_Road_put_on:Df:=⟨"put_on","Road.put_on",qBD 22 6,["self","host","text","is_spoilt","number"],["self","host","text","is_spoilt"]⟩
theorem qC5:DfOk G xs Mt At d_Road_put_on ⟨4,5,qAZ⟩:=⟨⟨rfl,rfl,rfl,by decide +kernel,rfl,by decide +kernel,by decide +kernel⟩,by kernel_rfl,rfl,rfl⟩
noncomputable def d_Road_piece_at:Df:=⟨"piece_at","Road.piece_at",qBD 22 7,["self","place"],["self","place"]⟩
theorem qCQ:DfOk G xs Mt At d_Road_piece_at ⟨2,2,qAa⟩:=⟨⟨rfl,rfl,rfl,by decide +kernel,rfl,by decide +kernel,by decide +kernel⟩,by kernel_rfl,rfl,rfl⟩
noncomputable def d_Road_carry:Df:=⟨"carry","Road.carry",qBD 22 8,["self","place","piece"],["self","place"]⟩
theorem qDh:DfOk G xs Mt At d_Road_carry ⟨2,3,qA4⟩:=⟨⟨rfl,rfl,rfl,by decide +kernel,rfl,by decide +kernel,by decide +kernel⟩,by kernel_rfl,rfl,rfl⟩
noncomputable def d_Road_lose:Df:=⟨"lose","Road.lose",qBD 22 9,["self","place","piece"],["self","place"]⟩
theorem qEN:DfOk G xs Mt At d_Road_lose ⟨2,3,qBO⟩:=⟨⟨rfl,rfl,rfl,by decide +kernel,rfl,by decide +kernel,by decide +kernel⟩,by kernel_rfl,rfl,rfl⟩
noncomputable def d_Road_double:Df:=⟨"double","Road.double",qBD 22 10,["self","place","piece","number"],["self","place"]⟩
theorem qC7:DfOk G xs Mt At d_Road_double ⟨2,4,qAu⟩:=⟨⟨rfl,rfl,rfl,by decide +kernel,rfl,by decide +kernel,by decide +kernel⟩,by kernel_rfl,rfl,rfl⟩
noncomputable def d_Road_turn:Df:=⟨"turn","Road.turn",qBD 22 11,["self","place","other","piece","other_piece"],["self","place","other"]⟩
theorem qEL:DfOk G xs Mt At d_Road_turn ⟨3,5,qBM⟩:=⟨⟨rfl,rfl,rfl,by decide +kernel,rfl,by decide +kernel,by decide +kernel⟩,by kernel_rfl,rfl,rfl⟩
noncomputable def d_Road_spoil:Df:=⟨"spoil","Road.spoil",qBD 22 12,["self","place","at","sign","piece","text","spoilt"],["self","place","at","sign"]⟩
theorem qDg:DfOk G xs Mt At d_Road_spoil ⟨4,7,qA3⟩:=⟨⟨rfl,rfl,rfl,by decide +kernel,rfl,by decide +kernel,by decide +kernel⟩,by kernel_rfl,rfl,rfl⟩
noncomputable def d_law_cell_at:Df:=⟨"_law_cell_at","_law_cell_at",top 24,["_law_script","_law_k"],["_law_script","_law_k"]⟩
theorem qC3:DfOk G xs Mt At d_law_cell_at ⟨2,2,qAp⟩:=⟨⟨rfl,rfl,rfl,by decide +kernel,rfl,by decide +kernel,by decide +kernel⟩,by kernel_rfl,rfl,rfl⟩
noncomputable def d_law_stream:Df:=⟨"_law_stream","_law_stream",top 25,["_law_cell","_law_many","_law_found","_law_number","_law_k"],["_law_cell","_law_many"]⟩
theorem qDe:DfOk G xs Mt At d_law_stream ⟨2,5,qA2⟩:=⟨⟨rfl,rfl,rfl,by decide +kernel,rfl,by decide +kernel,by decide +kernel⟩,by kernel_rfl,rfl,rfl⟩
noncomputable def d_law_signs:Df:=⟨"_law_signs","_law_signs",top 26,["_law_x","_law_many","_law_some"],["_law_x","_law_many"]⟩
theorem qEJ:DfOk G xs Mt At d_law_signs ⟨2,3,qAx⟩:=⟨⟨rfl,rfl,rfl,by decide +kernel,rfl,by decide +kernel,by decide +kernel⟩,by kernel_rfl,rfl,rfl⟩
noncomputable def d_law_deed:Df:=⟨"_law_deed","_law_deed",top 27,["_law_cell","_law_count","_law_xs","_law_way","_law_place","_law_other","_law_size","_law_at"],["_law_cell","_law_count"]⟩
theorem qE0:DfOk G xs Mt At d_law_deed ⟨2,8,qBE⟩:=⟨⟨rfl,rfl,rfl,by decide +kernel,rfl,by decide +kernel,by decide +kernel⟩,by kernel_rfl,rfl,rfl⟩
noncomputable def d_law_unlike:Df:=⟨"_law_unlike","_law_unlike",top 28,["_law_one","_law_other"],["_law_one","_law_other"]⟩
theorem qDd:DfOk G xs Mt At d_law_unlike ⟨2,2,qA1⟩:=⟨⟨rfl,rfl,rfl,by decide +kernel,rfl,by decide +kernel,by decide +kernel⟩,by kernel_rfl,rfl,rfl⟩
noncomputable def d_law_arrived:Df:=⟨"_law_arrived","_law_arrived",top 29,["_law_road","_law_place","_law_texts","_law_goals","_law_over","_law_number","_law_came"],["_law_road","_law_place","_law_texts","_law_goals","_law_over"]⟩
theorem qC4:DfOk G xs Mt At d_law_arrived ⟨5,7,qAq⟩:=⟨⟨rfl,rfl,rfl,by decide +kernel,rfl,by decide +kernel,by decide +kernel⟩,by kernel_rfl,rfl,rfl⟩
noncomputable def d_law_put_on:Df:=⟨"_law_put_on","_law_put_on",top 30,["_law_road","_law_deed_here","_law_texts","_law_goals","_law_number","_law_old"],["_law_road","_law_deed_here","_law_texts","_law_goals"]⟩
theorem qDf:DfOk G xs Mt At d_law_put_on ⟨4,6,qAg⟩:=⟨⟨rfl,rfl,rfl,by decide +kernel,rfl,by decide +kernel,by decide +kernel⟩,by kernel_rfl,rfl,rfl⟩
noncomputable def d_law:Df:=⟨"law","law",top 31,["_law_script","_law_road","_law_texts","_law_goals","_law_over","_law_spoilt","_law_k","_law_count","_law_deed_here","_law_places","_law_number"],["_law_script"]⟩
theorem qM4:DfOk G xs Mt At d_law ⟨1,11,b_law⟩:=⟨⟨rfl,rfl,rfl,by decide +kernel,rfl,by decide +kernel,by decide +kernel⟩,by kernel_rfl,rfl,rfl⟩
noncomputable def ds:List Df:=[d_wall,d_is_sign,d_is_signs,d_is_number,d_is_road_text,d_is_other_sign,d_Road_init,d_Road_flying,d_Road_log,d_Road_text_of,d_Road_send,d_Road_is_full,d_Road_put_on,d_Road_piece_at,d_Road_carry,d_Road_lose,d_Road_double,d_Road_turn,d_Road_spoil,d_law_cell_at,d_law_stream,d_law_signs,d_law_deed,d_law_unlike,d_law_arrived,d_law_put_on,d_law]
theorem qLs:qAM d_wall:=fun _ _ _ _ _ _=>ar1 fun _=>rfl
theorem qGY:qAM d_is_sign:=fun _ _ _ _ _ _=>ar1 fun _=>rfl
theorem qFT:qAM d_is_signs:=fun _ _ _ _ _ _=>ar1 fun _=>rfl
theorem qEq:qAM d_is_number:=fun _ _ _ _ _ _=>ar3 fun _ _ _=>rfl
theorem qCw:qAM d_is_road_text:=fun _ _ _ _ _ _=>ar1 fun _=>rfl
theorem qCR:qAM d_is_other_sign:=fun _ _ _ _ _ _=>ar2 fun _ _=>rfl
theorem qCM:qAM d_Road_init:=fun _ _ _ _ _ _=>ar1 fun _=>rfl
theorem qDG:qAM d_Road_flying:=fun _ _ _ _ _ _=>ar1 fun _=>rfl
theorem qFU:qAM d_Road_log:=fun _ _ _ _ _ _=>ar1 fun _=>rfl
theorem qCx:qAM d_Road_text_of:=fun _ _ _ _ _ _=>ar2 fun _ _=>rfl
theorem qEs:qAM d_Road_send:=fun _ _ _ _ _ _=>ar3 fun _ _ _=>rfl
theorem qCy:qAM d_Road_is_full:=fun _ _ _ _ _ _=>ar1 fun _=>rfl
theorem qDF:qAM d_Road_put_on:=fun _ _ _ _ _ _=>ar4 fun _ _ _ _=>rfl
theorem qCS:qAM d_Road_piece_at:=fun _ _ _ _ _ _=>ar2 fun _ _=>rfl
theorem qD6:qAM d_Road_carry:=fun _ _ _ _ _ _=>ar2 fun _ _=>rfl
theorem qEt:qAM d_Road_lose:=fun _ _ _ _ _ _=>ar2 fun _ _=>rfl
theorem qDH:qAM d_Road_double:=fun _ _ _ _ _ _=>ar2 fun _ _=>rfl
theorem qEr:qAM d_Road_turn:=fun _ _ _ _ _ _=>ar3 fun _ _ _=>rfl
theorem qD5:qAM d_Road_spoil:=fun _ _ _ _ _ _=>ar4 fun _ _ _ _=>rfl
theorem qDD:qAM d_law_cell_at:=fun _ _ _ _ _ _=>ar2 fun _ _=>rfl
theorem qD3:qAM d_law_stream:=fun _ _ _ _ _ _=>ar2 fun _ _=>rfl
theorem qEp:qAM d_law_signs:=fun _ _ _ _ _ _=>ar2 fun _ _=>rfl
theorem qFS:qAM d_law_deed:=fun _ _ _ _ _ _=>ar2 fun _ _=>rfl
theorem qD2:qAM d_law_unlike:=fun _ _ _ _ _ _=>ar2 fun _ _=>rfl
theorem qDE:qAM d_law_arrived:=fun _ _ _ _ _ _=>ar5 fun _ _ _ _ _=>rfl
theorem qD4:qAM d_law_put_on:=fun _ _ _ _ _ _=>ar4 fun _ _ _ _=>rfl
theorem qN3:qAM d_law:=fun _ _ _ _ _ _=>ar1 fun _=>rfl
set_option maxHeartbeats 0 in
theorem top_mk {K:PySem.W.Frag} {h:Heap} {mg:Str→Option Value} (X:K.In h) (Gm:h.Ns mainGlobals mg)
    {Q0:Addr} {f0:Addr} {od0 an0:Option Addr} {sl0:Array (Option Value)} {oc0 kV0 dc0 pm0 cd0 ct0:Value} {f1:Addr} {od1 an1:Option Addr} {sl1:Array (Option Value)} {oc1 kV1 dc1 pm1 cd1 ct1:Value} {f2:Addr} {od2 an2:Option Addr} {sl2:Array (Option Value)} {oc2 kV2 dc2 pm2 cd2 ct2:Value} {f3:Addr} {od3 an3:Option Addr} {sl3:Array (Option Value)} {oc3 kV3 dc3 pm3 cd3 ct3:Value} {f4:Addr} {od4 an4:Option Addr} {sl4:Array (Option Value)} {oc4 kV4 dc4 pm4 cd4 ct4:Value} {f5:Addr} {od5 an5:Option Addr} {sl5:Array (Option Value)} {oc5 kV5 dc5 pm5 cd5 ct5:Value} {f6:Addr} {od6 an6:Option Addr} {sl6:Array (Option Value)} {oc6 kV6 dc6 pm6 cd6 ct6:Value} {f7:Addr} {od7 an7:Option Addr} {sl7:Array (Option Value)} {oc7 kV7 dc7 pm7 cd7 ct7:Value} {f8:Addr} {od8 an8:Option Addr} {sl8:Array (Option Value)} {oc8 kV8 dc8 pm8 cd8 ct8:Value} {f9:Addr} {od9 an9:Option Addr} {sl9:Array (Option Value)} {oc9 kV9 dc9 pm9 cd9 ct9:Value} {f10:Addr} {od10 an10:Option Addr} {sl10:Array (Option Value)} {oc10 kV10 dc10 pm10 cd10 ct10:Value} {f11:Addr} {od11 an11:Option Addr} {sl11:Array (Option Value)} {oc11 kV11 dc11 pm11 cd11 ct11:Value} {f12:Addr} {od12 an12:Option Addr} {sl12:Array (Option Value)} {oc12 kV12 dc12 pm12 cd12 ct12:Value} {f13:Addr} {od13 an13:Option Addr} {sl13:Array (Option Value)} {oc13 kV13 dc13 pm13 cd13 ct13:Value} {f14:Addr} {od14 an14:Option Addr} {sl14:Array (Option Value)} {oc14 kV14 dc14 pm14 cd14 ct14:Value} {f15:Addr} {od15 an15:Option Addr} {sl15:Array (Option Value)} {oc15 kV15 dc15 pm15 cd15 ct15:Value} {f16:Addr} {od16 an16:Option Addr} {sl16:Array (Option Value)} {oc16 kV16 dc16 pm16 cd16 ct16:Value} {f17:Addr} {od17 an17:Option Addr} {sl17:Array (Option Value)} {oc17 kV17 dc17 pm17 cd17 ct17:Value} {f18:Addr} {od18 an18:Option Addr} {sl18:Array (Option Value)} {oc18 kV18 dc18 pm18 cd18 ct18:Value} {f19:Addr} {od19 an19:Option Addr} {sl19:Array (Option Value)} {oc19 kV19 dc19 pm19 cd19 ct19:Value} {f20:Addr} {od20 an20:Option Addr} {sl20:Array (Option Value)} {oc20 kV20 dc20 pm20 cd20 ct20:Value} {f21:Addr} {od21 an21:Option Addr} {sl21:Array (Option Value)} {oc21 kV21 dc21 pm21 cd21 ct21:Value} {f22:Addr} {od22 an22:Option Addr} {sl22:Array (Option Value)} {oc22 kV22 dc22 pm22 cd22 ct22:Value} {f23:Addr} {od23 an23:Option Addr} {sl23:Array (Option Value)} {oc23 kV23 dc23 pm23 cd23 ct23:Value} {f24:Addr} {od24 an24:Option Addr} {sl24:Array (Option Value)} {oc24 kV24 dc24 pm24 cd24 ct24:Value} {f25:Addr} {od25 an25:Option Addr} {sl25:Array (Option Value)} {oc25 kV25 dc25 pm25 cd25 ct25:Value} {f26:Addr} {od26 an26:Option Addr} {sl26:Array (Option Value)} {oc26 kV26 dc26 pm26 cd26 ct26:Value} {C0:Addr} {C1:Addr} {C2:Addr} {t_FIRST_SIGN:Tok} {t_HOST:Tok} {t_IS_SPOILT:Tok} {t_LAST_HOST:Tok} {t_LAST_SIGN:Tok} {t_LEFT_OUT_SIGN:Tok} {t_MOST_IN_FLIGHT:Tok} {t_MOST_TEXT:Tok} {t_NUMBER:Tok} {t_TEXT:Tok}
    (qa0:PySem.W.nsIn K mainGlobals "Road"=some (some (.ref Q0))) (qpg0:PySem.W.plainGet K Q0 Str.empty=true) (qhd0:PySem.W.hasDictIn K Q0=true) (qpo0:PySem.W.plainOver K Q0=true) (qsa0:PySem.W.findIn K (.ref Q0) "__setattr__"=some (some (.builtin "object.__setattr__"))) (qmk0:PySem.W.makesIn K Q0=true) (qkp0:PySem.W.keepIn K (.ref Q0)=true)
    (qn0_on_way:PySem.W.findIn K (.ref Q0) "on_way"=some none)
    (qn0_done:PySem.W.findIn K (.ref Q0) "done"=some none)
    (qn0_new_number:PySem.W.findIn K (.ref Q0) "new_number"=some none)
    (a0:PySem.W.nsIn K mainGlobals "_wall"=some (some (.ref f0)))
    (l0:K.lookup f0=some ⟨oc0,od0,.func (PySem.W.fnOf "_wall" "_wall" (L2.defArgs d_wall.st) (L2.defBody d_wall.st) (L2.defScope d_wall.st) .none kV0 dc0 pm0 an0 cd0 ct0),sl0⟩) (c0:PySem.W.codeIn K cd0 "_wall"=true) (k0:PySem.W.keepIn K (.ref f0)=true)
    (a1:PySem.W.nsIn K mainGlobals "is_sign"=some (some (.ref f1)))
    (l1:K.lookup f1=some ⟨oc1,od1,.func (PySem.W.fnOf "is_sign" "is_sign" (L2.defArgs d_is_sign.st) (L2.defBody d_is_sign.st) (L2.defScope d_is_sign.st) .none kV1 dc1 pm1 an1 cd1 ct1),sl1⟩) (c1:PySem.W.codeIn K cd1 "is_sign"=true) (k1:PySem.W.keepIn K (.ref f1)=true)
    (a2:PySem.W.nsIn K mainGlobals "is_signs"=some (some (.ref f2)))
    (l2:K.lookup f2=some ⟨oc2,od2,.func (PySem.W.fnOf "is_signs" "is_signs" (L2.defArgs d_is_signs.st) (L2.defBody d_is_signs.st) (L2.defScope d_is_signs.st) .none kV2 dc2 pm2 an2 cd2 ct2),sl2⟩) (c2:PySem.W.codeIn K cd2 "is_signs"=true) (k2:PySem.W.keepIn K (.ref f2)=true)
    (a3:PySem.W.nsIn K mainGlobals "is_number"=some (some (.ref f3)))
    (l3:K.lookup f3=some ⟨oc3,od3,.func (PySem.W.fnOf "is_number" "is_number" (L2.defArgs d_is_number.st) (L2.defBody d_is_number.st) (L2.defScope d_is_number.st) .none kV3 dc3 pm3 an3 cd3 ct3),sl3⟩) (c3:PySem.W.codeIn K cd3 "is_number"=true) (k3:PySem.W.keepIn K (.ref f3)=true)
    (a4:PySem.W.nsIn K mainGlobals "is_road_text"=some (some (.ref f4)))
    (l4:K.lookup f4=some ⟨oc4,od4,.func (PySem.W.fnOf "is_road_text" "is_road_text" (L2.defArgs d_is_road_text.st) (L2.defBody d_is_road_text.st) (L2.defScope d_is_road_text.st) .none kV4 dc4 pm4 an4 cd4 ct4),sl4⟩) (c4:PySem.W.codeIn K cd4 "is_road_text"=true) (k4:PySem.W.keepIn K (.ref f4)=true)
    (a5:PySem.W.nsIn K mainGlobals "is_other_sign"=some (some (.ref f5)))
    (l5:K.lookup f5=some ⟨oc5,od5,.func (PySem.W.fnOf "is_other_sign" "is_other_sign" (L2.defArgs d_is_other_sign.st) (L2.defBody d_is_other_sign.st) (L2.defScope d_is_other_sign.st) .none kV5 dc5 pm5 an5 cd5 ct5),sl5⟩) (c5:PySem.W.codeIn K cd5 "is_other_sign"=true) (k5:PySem.W.keepIn K (.ref f5)=true)
    (a6:PySem.W.findIn K (.ref Q0) "__init__"=some (some (.ref f6))) (m6:PySem.W.isFn K (.ref f6)=true)
    (l6:K.lookup f6=some ⟨oc6,od6,.func (PySem.W.fnOf "__init__" "Road.__init__" (L2.defArgs d_Road_init.st) (L2.defBody d_Road_init.st) (L2.defScope d_Road_init.st) .none kV6 dc6 pm6 an6 cd6 ct6),sl6⟩) (c6:PySem.W.codeIn K cd6 "Road.__init__"=true) (k6:PySem.W.keepIn K (.ref f6)=true)
    (a7:PySem.W.findIn K (.ref Q0) "flying"=some (some (.ref f7))) (m7:PySem.W.isFn K (.ref f7)=true)
    (l7:K.lookup f7=some ⟨oc7,od7,.func (PySem.W.fnOf "flying" "Road.flying" (L2.defArgs d_Road_flying.st) (L2.defBody d_Road_flying.st) (L2.defScope d_Road_flying.st) .none kV7 dc7 pm7 an7 cd7 ct7),sl7⟩) (c7:PySem.W.codeIn K cd7 "Road.flying"=true) (k7:PySem.W.keepIn K (.ref f7)=true)
    (a8:PySem.W.findIn K (.ref Q0) "log"=some (some (.ref f8))) (m8:PySem.W.isFn K (.ref f8)=true)
    (l8:K.lookup f8=some ⟨oc8,od8,.func (PySem.W.fnOf "log" "Road.log" (L2.defArgs d_Road_log.st) (L2.defBody d_Road_log.st) (L2.defScope d_Road_log.st) .none kV8 dc8 pm8 an8 cd8 ct8),sl8⟩) (c8:PySem.W.codeIn K cd8 "Road.log"=true) (k8:PySem.W.keepIn K (.ref f8)=true)
    (a9:PySem.W.findIn K (.ref Q0) "text_of"=some (some (.ref f9))) (m9:PySem.W.isFn K (.ref f9)=true)
    (l9:K.lookup f9=some ⟨oc9,od9,.func (PySem.W.fnOf "text_of" "Road.text_of" (L2.defArgs d_Road_text_of.st) (L2.defBody d_Road_text_of.st) (L2.defScope d_Road_text_of.st) .none kV9 dc9 pm9 an9 cd9 ct9),sl9⟩) (c9:PySem.W.codeIn K cd9 "Road.text_of"=true) (k9:PySem.W.keepIn K (.ref f9)=true)
    (a10:PySem.W.findIn K (.ref Q0) "send"=some (some (.ref f10))) (m10:PySem.W.isFn K (.ref f10)=true)
    (l10:K.lookup f10=some ⟨oc10,od10,.func (PySem.W.fnOf "send" "Road.send" (L2.defArgs d_Road_send.st) (L2.defBody d_Road_send.st) (L2.defScope d_Road_send.st) .none kV10 dc10 pm10 an10 cd10 ct10),sl10⟩) (c10:PySem.W.codeIn K cd10 "Road.send"=true) (k10:PySem.W.keepIn K (.ref f10)=true)
    (a11:PySem.W.findIn K (.ref Q0) "is_full"=some (some (.ref f11))) (m11:PySem.W.isFn K (.ref f11)=true)
    (l11:K.lookup f11=some ⟨oc11,od11,.func (PySem.W.fnOf "is_full" "Road.is_full" (L2.defArgs d_Road_is_full.st) (L2.defBody d_Road_is_full.st) (L2.defScope d_Road_is_full.st) .none kV11 dc11 pm11 an11 cd11 ct11),sl11⟩) (c11:PySem.W.codeIn K cd11 "Road.is_full"=true) (k11:PySem.W.keepIn K (.ref f11)=true)
    (a12:PySem.W.findIn K (.ref Q0) "put_on"=some (some (.ref f12))) (m12:PySem.W.isFn K (.ref f12)=true)
    (l12:K.lookup f12=some ⟨oc12,od12,.func (PySem.W.fnOf "put_on" "Road.put_on" (L2.defArgs d_Road_put_on.st) (L2.defBody d_Road_put_on.st) (L2.defScope d_Road_put_on.st) .none kV12 dc12 pm12 an12 cd12 ct12),sl12⟩) (c12:PySem.W.codeIn K cd12 "Road.put_on"=true) (k12:PySem.W.keepIn K (.ref f12)=true)
    (a13:PySem.W.findIn K (.ref Q0) "piece_at"=some (some (.ref f13))) (m13:PySem.W.isFn K (.ref f13)=true)
    (l13:K.lookup f13=some ⟨oc13,od13,.func (PySem.W.fnOf "piece_at" "Road.piece_at" (L2.defArgs d_Road_piece_at.st) (L2.defBody d_Road_piece_at.st) (L2.defScope d_Road_piece_at.st) .none kV13 dc13 pm13 an13 cd13 ct13),sl13⟩) (c13:PySem.W.codeIn K cd13 "Road.piece_at"=true) (k13:PySem.W.keepIn K (.ref f13)=true)
    (a14:PySem.W.findIn K (.ref Q0) "carry"=some (some (.ref f14))) (m14:PySem.W.isFn K (.ref f14)=true)
    (l14:K.lookup f14=some ⟨oc14,od14,.func (PySem.W.fnOf "carry" "Road.carry" (L2.defArgs d_Road_carry.st) (L2.defBody d_Road_carry.st) (L2.defScope d_Road_carry.st) .none kV14 dc14 pm14 an14 cd14 ct14),sl14⟩) (c14:PySem.W.codeIn K cd14 "Road.carry"=true) (k14:PySem.W.keepIn K (.ref f14)=true)
    (a15:PySem.W.findIn K (.ref Q0) "lose"=some (some (.ref f15))) (m15:PySem.W.isFn K (.ref f15)=true)
    (l15:K.lookup f15=some ⟨oc15,od15,.func (PySem.W.fnOf "lose" "Road.lose" (L2.defArgs d_Road_lose.st) (L2.defBody d_Road_lose.st) (L2.defScope d_Road_lose.st) .none kV15 dc15 pm15 an15 cd15 ct15),sl15⟩) (c15:PySem.W.codeIn K cd15 "Road.lose"=true) (k15:PySem.W.keepIn K (.ref f15)=true)
    (a16:PySem.W.findIn K (.ref Q0) "double"=some (some (.ref f16))) (m16:PySem.W.isFn K (.ref f16)=true)
    (l16:K.lookup f16=some ⟨oc16,od16,.func (PySem.W.fnOf "double" "Road.double" (L2.defArgs d_Road_double.st) (L2.defBody d_Road_double.st) (L2.defScope d_Road_double.st) .none kV16 dc16 pm16 an16 cd16 ct16),sl16⟩) (c16:PySem.W.codeIn K cd16 "Road.double"=true) (k16:PySem.W.keepIn K (.ref f16)=true)
    (a17:PySem.W.findIn K (.ref Q0) "turn"=some (some (.ref f17))) (m17:PySem.W.isFn K (.ref f17)=true)
    (l17:K.lookup f17=some ⟨oc17,od17,.func (PySem.W.fnOf "turn" "Road.turn" (L2.defArgs d_Road_turn.st) (L2.defBody d_Road_turn.st) (L2.defScope d_Road_turn.st) .none kV17 dc17 pm17 an17 cd17 ct17),sl17⟩) (c17:PySem.W.codeIn K cd17 "Road.turn"=true) (k17:PySem.W.keepIn K (.ref f17)=true)
    (a18:PySem.W.findIn K (.ref Q0) "spoil"=some (some (.ref f18))) (m18:PySem.W.isFn K (.ref f18)=true)
    (l18:K.lookup f18=some ⟨oc18,od18,.func (PySem.W.fnOf "spoil" "Road.spoil" (L2.defArgs d_Road_spoil.st) (L2.defBody d_Road_spoil.st) (L2.defScope d_Road_spoil.st) .none kV18 dc18 pm18 an18 cd18 ct18),sl18⟩) (c18:PySem.W.codeIn K cd18 "Road.spoil"=true) (k18:PySem.W.keepIn K (.ref f18)=true)
    (a19:PySem.W.nsIn K mainGlobals "_law_cell_at"=some (some (.ref f19)))
    (l19:K.lookup f19=some ⟨oc19,od19,.func (PySem.W.fnOf "_law_cell_at" "_law_cell_at" (L2.defArgs d_law_cell_at.st) (L2.defBody d_law_cell_at.st) (L2.defScope d_law_cell_at.st) .none kV19 dc19 pm19 an19 cd19 ct19),sl19⟩) (c19:PySem.W.codeIn K cd19 "_law_cell_at"=true) (k19:PySem.W.keepIn K (.ref f19)=true)
    (a20:PySem.W.nsIn K mainGlobals "_law_stream"=some (some (.ref f20)))
    (l20:K.lookup f20=some ⟨oc20,od20,.func (PySem.W.fnOf "_law_stream" "_law_stream" (L2.defArgs d_law_stream.st) (L2.defBody d_law_stream.st) (L2.defScope d_law_stream.st) .none kV20 dc20 pm20 an20 cd20 ct20),sl20⟩) (c20:PySem.W.codeIn K cd20 "_law_stream"=true) (k20:PySem.W.keepIn K (.ref f20)=true)
    (a21:PySem.W.nsIn K mainGlobals "_law_signs"=some (some (.ref f21)))
    (l21:K.lookup f21=some ⟨oc21,od21,.func (PySem.W.fnOf "_law_signs" "_law_signs" (L2.defArgs d_law_signs.st) (L2.defBody d_law_signs.st) (L2.defScope d_law_signs.st) .none kV21 dc21 pm21 an21 cd21 ct21),sl21⟩) (c21:PySem.W.codeIn K cd21 "_law_signs"=true) (k21:PySem.W.keepIn K (.ref f21)=true)
    (a22:PySem.W.nsIn K mainGlobals "_law_deed"=some (some (.ref f22)))
    (l22:K.lookup f22=some ⟨oc22,od22,.func (PySem.W.fnOf "_law_deed" "_law_deed" (L2.defArgs d_law_deed.st) (L2.defBody d_law_deed.st) (L2.defScope d_law_deed.st) .none kV22 dc22 pm22 an22 cd22 ct22),sl22⟩) (c22:PySem.W.codeIn K cd22 "_law_deed"=true) (k22:PySem.W.keepIn K (.ref f22)=true)
    (a23:PySem.W.nsIn K mainGlobals "_law_unlike"=some (some (.ref f23)))
    (l23:K.lookup f23=some ⟨oc23,od23,.func (PySem.W.fnOf "_law_unlike" "_law_unlike" (L2.defArgs d_law_unlike.st) (L2.defBody d_law_unlike.st) (L2.defScope d_law_unlike.st) .none kV23 dc23 pm23 an23 cd23 ct23),sl23⟩) (c23:PySem.W.codeIn K cd23 "_law_unlike"=true) (k23:PySem.W.keepIn K (.ref f23)=true)
    (a24:PySem.W.nsIn K mainGlobals "_law_arrived"=some (some (.ref f24)))
    (l24:K.lookup f24=some ⟨oc24,od24,.func (PySem.W.fnOf "_law_arrived" "_law_arrived" (L2.defArgs d_law_arrived.st) (L2.defBody d_law_arrived.st) (L2.defScope d_law_arrived.st) .none kV24 dc24 pm24 an24 cd24 ct24),sl24⟩) (c24:PySem.W.codeIn K cd24 "_law_arrived"=true) (k24:PySem.W.keepIn K (.ref f24)=true)
    (a25:PySem.W.nsIn K mainGlobals "_law_put_on"=some (some (.ref f25)))
    (l25:K.lookup f25=some ⟨oc25,od25,.func (PySem.W.fnOf "_law_put_on" "_law_put_on" (L2.defArgs d_law_put_on.st) (L2.defBody d_law_put_on.st) (L2.defScope d_law_put_on.st) .none kV25 dc25 pm25 an25 cd25 ct25),sl25⟩) (c25:PySem.W.codeIn K cd25 "_law_put_on"=true) (k25:PySem.W.keepIn K (.ref f25)=true)
    (a26:PySem.W.nsIn K mainGlobals "law"=some (some (.ref f26)))
    (l26:K.lookup f26=some ⟨oc26,od26,.func (PySem.W.fnOf "law" "law" (L2.defArgs d_law.st) (L2.defBody d_law.st) (L2.defScope d_law.st) .none kV26 dc26 pm26 an26 cd26 ct26),sl26⟩) (c26:PySem.W.codeIn K cd26 "law"=true) (k26:PySem.W.keepIn K (.ref f26)=true)
    (xa0:PySem.W.nsIn K mainGlobals "FerryError"=some (some (.ref C0))) (xi0:PySem.W.excIn K C0 [.type "ValueError",.type "Exception",.type "BaseException",.type "object"] "ValueError.__new__"=true)
    (xa1:PySem.W.nsIn K mainGlobals "NoPiece"=some (some (.ref C1))) (xi1:PySem.W.excIn K C1 [.type "ValueError",.type "Exception",.type "BaseException",.type "object"] "ValueError.__new__"=true)
    (xa2:PySem.W.nsIn K mainGlobals "NoDeed"=some (some (.ref C2))) (xi2:PySem.W.excIn K C2 [.type "ValueError",.type "Exception",.type "BaseException",.type "object"] "ValueError.__new__"=true)
    (gga0:PySem.W.findIn K (.ref C0) "__getattribute__"=some (some (.builtin "BaseException.__getattribute__"))) (ggt0:PySem.W.findIn K (.ref C0) "__getattr__"=some none) (gcl0:PySem.W.findIn K (.ref C0) "__class__"=some (some (.builtin "object.__class__"))) (gob0:PySem.W.subIn K (.ref C0) (.type "object")=some true) (gbe0:PySem.W.subIn K (.ref C0) (.type "BaseException")=some true) (gis0:PySem.W.isClsIn K C0=true)
    (gga1:PySem.W.findIn K (.ref C1) "__getattribute__"=some (some (.builtin "BaseException.__getattribute__"))) (ggt1:PySem.W.findIn K (.ref C1) "__getattr__"=some none) (gcl1:PySem.W.findIn K (.ref C1) "__class__"=some (some (.builtin "object.__class__"))) (gob1:PySem.W.subIn K (.ref C1) (.type "object")=some true) (gbe1:PySem.W.subIn K (.ref C1) (.type "BaseException")=some true) (gis1:PySem.W.isClsIn K C1=true)
    (gga2:PySem.W.findIn K (.ref C2) "__getattribute__"=some (some (.builtin "BaseException.__getattribute__"))) (ggt2:PySem.W.findIn K (.ref C2) "__getattr__"=some none) (gcl2:PySem.W.findIn K (.ref C2) "__class__"=some (some (.builtin "object.__class__"))) (gob2:PySem.W.subIn K (.ref C2) (.type "object")=some true) (gbe2:PySem.W.subIn K (.ref C2) (.type "BaseException")=some true) (gis2:PySem.W.isClsIn K C2=true)
    (z_FIRST_SIGN:PySem.W.nsIn K mainGlobals "FIRST_SIGN"=some (some (.int 32 t_FIRST_SIGN)))
    (z_HOST:PySem.W.nsIn K mainGlobals "HOST"=some (some (.int 1 t_HOST)))
    (z_IS_SPOILT:PySem.W.nsIn K mainGlobals "IS_SPOILT"=some (some (.int 3 t_IS_SPOILT)))
    (z_LAST_HOST:PySem.W.nsIn K mainGlobals "LAST_HOST"=some (some (.int 1 t_LAST_HOST)))
    (z_LAST_SIGN:PySem.W.nsIn K mainGlobals "LAST_SIGN"=some (some (.int 126 t_LAST_SIGN)))
    (z_LEFT_OUT_SIGN:PySem.W.nsIn K mainGlobals "LEFT_OUT_SIGN"=some (some (.int 37 t_LEFT_OUT_SIGN)))
    (z_MOST_IN_FLIGHT:PySem.W.nsIn K mainGlobals "MOST_IN_FLIGHT"=some (some (.int 200 t_MOST_IN_FLIGHT)))
    (z_MOST_TEXT:PySem.W.nsIn K mainGlobals "MOST_TEXT"=some (some (.int 400 t_MOST_TEXT)))
    (z_NUMBER:PySem.W.nsIn K mainGlobals "NUMBER"=some (some (.int 0 t_NUMBER)))
    (z_TEXT:PySem.W.nsIn K mainGlobals "TEXT"=some (some (.int 2 t_TEXT)))
    (z__law_x:PySem.W.nsIn K mainGlobals "_law_x"=some none)
    (z__law_y:PySem.W.nsIn K mainGlobals "_law_y"=some none)
    (z_all:PySem.W.nsIn K mainGlobals "all"=some none)
    (z_bool:PySem.W.nsIn K mainGlobals "bool"=some none)
    (z_int:PySem.W.nsIn K mainGlobals "int"=some none)
    (z_isinstance:PySem.W.nsIn K mainGlobals "isinstance"=some none)
    (z_len:PySem.W.nsIn K mainGlobals "len"=some none)
    (z_list:PySem.W.nsIn K mainGlobals "list"=some none)
    (z_max:PySem.W.nsIn K mainGlobals "max"=some none)
    (z_min:PySem.W.nsIn K mainGlobals "min"=some none)
    (z_ord:PySem.W.nsIn K mainGlobals "ord"=some none)
    (z_range:PySem.W.nsIn K mainGlobals "range"=some none)
    (z_sorted:PySem.W.nsIn K mainGlobals "sorted"=some none)
    (z_str:PySem.W.nsIn K mainGlobals "str"=some none)
    (z_tuple:PySem.W.nsIn K mainGlobals "tuple"=some none)
    (z_zip:PySem.W.nsIn K mainGlobals "zip"=some none) :
    Top K mg G xs xl Mt At ds fns:=by
  refine ⟨?ok,rfl,?gl,?mt,?att,?xm,?xk,?xl1,?xv,?xg⟩
  case ok =>
    intro i d f hd hf
    have all:AllZ (fun (d:Df) (f:Fn)=>DfOk G xs Mt At d f) ds fns:=⟨qKq,qGA,qE1,qEK,qCa,qCP,qEO,qC6,qE2,qCb,qEM,qCc,qC5,qCQ,qDh,qEN,qC7,qEL,qDg,qC3,qDe,qEJ,qE0,qDd,qC4,qDf,qM4,trivial⟩
    exact all.of hd hf
  case gl =>
    intro x g hg
    have all:AllP (fun p:Str × GK=>GlP K mg xl ds p.1 p.2) G:=⟨gl_fn X Gm (d:=d_law) rfl a26 (df_mk qN3 l26 c26 k26),
      qBh X Gm z_FIRST_SIGN,
      qBh X Gm z_HOST,
      qBh X Gm z_IS_SPOILT,
      qBh X Gm z_LAST_HOST,
      qBh X Gm z_LAST_SIGN,
      qBh X Gm z_LEFT_OUT_SIGN,
      qBh X Gm z_MOST_IN_FLIGHT,
      qBh X Gm z_MOST_TEXT,
      qBh X Gm z_NUMBER,
      qJ4 X Gm rfl qES xa2 xi2,
      qJ4 X Gm rfl qDL xa1 xi1,
      qNf X Gm (d:=d_Road_init) rfl qAU qa0 ⟨qpg0,qhd0,qpo0,qsa0⟩ ⟨qmk0,a6,m6,qkp0⟩ (df_mk qCM l6 c6 k6),
      qBh X Gm z_TEXT,
      gl_fn X Gm (d:=d_law_arrived) rfl a24 (df_mk qDE l24 c24 k24),
      gl_fn X Gm (d:=d_law_cell_at) rfl a19 (df_mk qDD l19 c19 k19),
      gl_fn X Gm (d:=d_law_deed) rfl a22 (df_mk qFS l22 c22 k22),
      gl_fn X Gm (d:=d_law_put_on) rfl a25 (df_mk qD4 l25 c25 k25),
      gl_fn X Gm (d:=d_law_signs) rfl a21 (df_mk qEp l21 c21 k21),
      gl_fn X Gm (d:=d_law_stream) rfl a20 (df_mk qD3 l20 c20 k20),
      gl_fn X Gm (d:=d_law_unlike) rfl a23 (df_mk qD2 l23 c23 k23),
      qAk X Gm z__law_x,
      qAk X Gm z__law_y,
      gl_fn X Gm (d:=d_wall) rfl a0 (df_mk qLs l0 c0 k0),
      qAk X Gm z_all,
      qAk X Gm z_bool,
      qAk X Gm z_int,
      gl_fn X Gm (d:=d_is_number) rfl a3 (df_mk qEq l3 c3 k3),
      gl_fn X Gm (d:=d_is_other_sign) rfl a5 (df_mk qCR l5 c5 k5),
      gl_fn X Gm (d:=d_is_road_text) rfl a4 (df_mk qCw l4 c4 k4),
      gl_fn X Gm (d:=d_is_sign) rfl a1 (df_mk qGY l1 c1 k1),
      gl_fn X Gm (d:=d_is_signs) rfl a2 (df_mk qFT l2 c2 k2),
      qAk X Gm z_isinstance,
      qAk X Gm z_len,
      qAk X Gm z_list,
      qAk X Gm z_max,
      qAk X Gm z_min,
      qAk X Gm z_ord,
      qAk X Gm z_range,
      qAk X Gm z_sorted,
      qAk X Gm z_str,
      qAk X Gm z_tuple,
      qAk X Gm z_zip,trivial⟩
    exact all.of hg
  case mt =>
    intro m mk tb hm
    have all:AllP (fun p:Str × Nat × List (Nat × Nat)=>MtP K ds p.1 p.2.1 p.2.2) Mt:=⟨qBA qER (by decide) qAU qa0 ⟨qpg0,qhd0,qpo0,qsa0⟩ (d:=d_Road_init) ⟨a6,m6,k6⟩ rfl (df_mk qCM l6 c6 k6),
      qBA qGD (by decide) qAU qa0 ⟨qpg0,qhd0,qpo0,qsa0⟩ (d:=d_Road_flying) ⟨a7,m7,k7⟩ rfl (df_mk qDG l7 c7 k7),
      qBA qK7 (by decide) qAU qa0 ⟨qpg0,qhd0,qpo0,qsa0⟩ (d:=d_Road_log) ⟨a8,m8,k8⟩ rfl (df_mk qFU l8 c8 k8),
      qBA qE4 (by decide) qAU qa0 ⟨qpg0,qhd0,qpo0,qsa0⟩ (d:=d_Road_text_of) ⟨a9,m9,k9⟩ rfl (df_mk qCx l9 c9 k9),
      qBA qI0 (by decide) qAU qa0 ⟨qpg0,qhd0,qpo0,qsa0⟩ (d:=d_Road_send) ⟨a10,m10,k10⟩ rfl (df_mk qEs l10 c10 k10),
      qBA qE5 (by decide) qAU qa0 ⟨qpg0,qhd0,qpo0,qsa0⟩ (d:=d_Road_is_full) ⟨a11,m11,k11⟩ rfl (df_mk qCy l11 c11 k11),
      qBA qGB (by decide) qAU qa0 ⟨qpg0,qhd0,qpo0,qsa0⟩ (d:=d_Road_put_on) ⟨a12,m12,k12⟩ rfl (df_mk qDF l12 c12 k12),
      qBA qEQ (by decide) qAU qa0 ⟨qpg0,qhd0,qpo0,qsa0⟩ (d:=d_Road_piece_at) ⟨a13,m13,k13⟩ rfl (df_mk qCS l13 c13 k13),
      qBA qHE (by decide) qAU qa0 ⟨qpg0,qhd0,qpo0,qsa0⟩ (d:=d_Road_carry) ⟨a14,m14,k14⟩ rfl (df_mk qD6 l14 c14 k14),
      qBA qI1 (by decide) qAU qa0 ⟨qpg0,qhd0,qpo0,qsa0⟩ (d:=d_Road_lose) ⟨a15,m15,k15⟩ rfl (df_mk qEt l15 c15 k15),
      qBA qGE (by decide) qAU qa0 ⟨qpg0,qhd0,qpo0,qsa0⟩ (d:=d_Road_double) ⟨a16,m16,k16⟩ rfl (df_mk qDH l16 c16 k16),
      qBA qIz (by decide) qAU qa0 ⟨qpg0,qhd0,qpo0,qsa0⟩ (d:=d_Road_turn) ⟨a17,m17,k17⟩ rfl (df_mk qEr l17 c17 k17),
      qBA qHD (by decide) qAU qa0 ⟨qpg0,qhd0,qpo0,qsa0⟩ (d:=d_Road_spoil) ⟨a18,m18,k18⟩ rfl (df_mk qD5 l18 c18 k18),trivial⟩
    exact all.of hm
  case att =>
    intro f kk cs hf
    have all:AllP (fun p:Str × Nat × List Nat=>AtP K p.1 p.2.1 p.2.2) At:=⟨qIT qGC (by decide) qAU qa0 qn0_on_way,
      qIT qI2 (by decide) qAU qa0 qn0_done,
      qIT qC8 (by decide) qAU qa0 qn0_new_number,trivial⟩
    exact all.of hf
  case xm =>
    intro i cs C j D hi hC hD
    obtain ⟨hi0,hC⟩:=qBV hC
    obtain ⟨hj,hD⟩:=qBV hD
    unfold xs at hi
    cases hi
  case xk =>
    intro i cs hi hx
    unfold xs at hi
    cases hi
  case xl1 =>
    intro cs hi
    unfold xs at hi
    cases hi
  case xv =>
    intro cs j D hi hD
    unfold xs at hi
    cases hi
  case xg =>
    intro j D hD
    obtain ⟨hj,hD⟩:=qBV hD
    unfold xl at hj
    simp only [List.mem_cons,List.not_mem_nil,or_false] at hj
    rcases hj with rfl | rfl | rfl
    · cases qEf hD qDj xa0;exact ⟨gga0,ggt0,gcl0,gob0,gbe0,gis0⟩
    · cases qEf hD qDL xa1;exact ⟨gga1,ggt1,gcl1,gob1,gbe1,gis1⟩
    · cases qEf hD qES xa2;exact ⟨gga2,ggt2,gcl2,gob2,gbe2,gis2⟩
theorem w_hi:ds[26]?=some d_law:=by kernel_rfl
theorem w_hq:d_law.qual=d_law.name:=by kernel_rfl
theorem w_hps:d_law.ps=(["_law_script"]:List Str):=by kernel_rfl
theorem w_hG:(("law":Str),GK.fn 26)∈G:=List.mem_cons_self ..
end Lk49
noncomputable def PySem.W.Fast.tw1681937707125064489:Unit:=()
noncomputable def PySem.W.Fast.tw5444488584142857928:Unit:=()
noncomputable def PySem.W.Fast.tw15827672386562842628:Unit:=()
noncomputable def PySem.W.Fast.tw371755438679408653:Unit:=()
noncomputable def PySem.W.Fast.tw12705199185631263231:Unit:=()
noncomputable def PySem.W.Fast.tw8259221987643938013:Unit:=()
noncomputable def PySem.W.Fast.tw10829234904491600496:Unit:=()
noncomputable def PySem.W.Fast.tw7850665725661658682:Unit:=()
noncomputable def PySem.W.Fast.tw17674695633728853196:Unit:=()
noncomputable def PySem.W.Fast.tw15587252114299294993:Unit:=()
noncomputable def PySem.W.Fast.tw10476676006542503714:Unit:=()
noncomputable def PySem.W.Fast.tw4924322017422761593:Unit:=()
noncomputable def PySem.W.Fast.tw3862191052273496614:Unit:=()
noncomputable def PySem.W.Fast.tw12982576597370683031:Unit:=()
noncomputable def PySem.W.Fast.tw13973570101447135482:Unit:=()
noncomputable def PySem.W.Fast.tw12261369859773668838:Unit:=()
noncomputable def PySem.W.Fast.tw9604100116775620063:Unit:=()
noncomputable def PySem.W.Fast.tw1736432759732236684:Unit:=()
noncomputable def PySem.W.Fast.tw9061703116894479998:Unit:=()
noncomputable def PySem.W.Fast.tw733670062998388733:Unit:=()
noncomputable def PySem.W.Fast.tw4773932371532336948:Unit:=()
noncomputable def PySem.W.Fast.tw11039261471513181660:Unit:=()
noncomputable def PySem.W.Fast.tw4209945212973099416:Unit:=()
noncomputable def PySem.W.Fast.tw11952514443597000155:Unit:=()
noncomputable def PySem.W.Fast.tw3148457057627129152:Unit:=()
noncomputable def PySem.W.Fast.tw6158355184922520817:Unit:=()
noncomputable def PySem.W.Fast.tw2085008475216353355:Unit:=()
noncomputable def PySem.W.Fast.tw14333533802076517748:Unit:=()
noncomputable def PySem.W.Fast.tw71034557662621491:Unit:=()
noncomputable def PySem.W.Fast.tw11264269973651524949:Unit:=()
noncomputable def PySem.W.Fast.tw7225943454099331404:Unit:=()
open PySem PySem.W PyProof.Rows
set_option maxRecDepth 100000 in
set_option maxHeartbeats 0 in
theorem PySem.Challenge.cw_ferry_k49_whole_what_is_carried_holds : PySem.Challenge.rw_ferry_k49_whole_what_is_carried.Holds := by
 w_on;o_law;k_head;(case hw=>w_witness2)
 k_fill
 refine Fy.walk (l:=PySem.Challenge.rw_ferry_k49_whole_what_is_carried) (G:=Lk49.G) (xs:=Lk49.xs) (xl:=Lk49.xl) (Mt:=Lk49.Mt) (At:=Lk49.At) (ds:=Lk49.ds) (fns:=Lk49.fns) (B:=1000) (i:=26) (d:=Lk49.d_law) (x:="_law_script") rfl rfl Lk49.w_hi Lk49.w_hG Lk49.w_hq Lk49.w_hps (fun w h Y=>PySem.W.kIn_of Y) ?T (fun ns hl=>Lk49.law_true 1000 32 ns hl) ?B
 case B =>
  intro fd f K F s u
  obtain ⟨oc,od,kV,doc,pm,an,cdv,ct,osl,rfl,lk,hcd⟩:=F.ex
  exact .of_eq rfl
 case T =>
  intro w mg h KX G
  refine' Lk49.top_mk KX G ?qa0 ?qpg0 ?qhd0 ?qpo0 ?qsa0 ?qmk0 ?qkp0 ?qn0_on_way ?qn0_done ?qn0_new_number ?a0 ?l0 ?c0 ?k0 ?a1 ?l1 ?c1 ?k1 ?a2 ?l2 ?c2 ?k2 ?a3 ?l3 ?c3 ?k3 ?a4 ?l4 ?c4 ?k4 ?a5 ?l5 ?c5 ?k5 ?a6 ?m6 ?l6 ?c6 ?k6 ?a7 ?m7 ?l7 ?c7 ?k7 ?a8 ?m8 ?l8 ?c8 ?k8 ?a9 ?m9 ?l9 ?c9 ?k9 ?a10 ?m10 ?l10 ?c10 ?k10 ?a11 ?m11 ?l11 ?c11 ?k11 ?a12 ?m12 ?l12 ?c12 ?k12 ?a13 ?m13 ?l13 ?c13 ?k13 ?a14 ?m14 ?l14 ?c14 ?k14 ?a15 ?m15 ?l15 ?c15 ?k15 ?a16 ?m16 ?l16 ?c16 ?k16 ?a17 ?m17 ?l17 ?c17 ?k17 ?a18 ?m18 ?l18 ?c18 ?k18 ?a19 ?l19 ?c19 ?k19 ?a20 ?l20 ?c20 ?k20 ?a21 ?l21 ?c21 ?k21 ?a22 ?l22 ?c22 ?k22 ?a23 ?l23 ?c23 ?k23 ?a24 ?l24 ?c24 ?k24 ?a25 ?l25 ?c25 ?k25 ?a26 ?l26 ?c26 ?k26 ?xa0 ?xi0 ?xa1 ?xi1 ?xa2 ?xi2 ?gga0 ?ggt0 ?gcl0 ?gob0 ?gbe0 ?gis0 ?gga1 ?ggt1 ?gcl1 ?gob1 ?gbe1 ?gis1 ?gga2 ?ggt2 ?gcl2 ?gob2 ?gbe2 ?gis2 ?z_FIRST_SIGN ?z_HOST ?z_IS_SPOILT ?z_LAST_HOST ?z_LAST_SIGN ?z_LEFT_OUT_SIGN ?z_MOST_IN_FLIGHT ?z_MOST_TEXT ?z_NUMBER ?z_TEXT ?z__law_x ?z__law_y ?z_all ?z_bool ?z_int ?z_isinstance ?z_len ?z_list ?z_max ?z_min ?z_ord ?z_range ?z_sorted ?z_str ?z_tuple ?z_zip
  (case qa0=>k_is)
  (case qpg0=>k_is)
  (case qhd0=>k_is)
  (case qpo0=>k_is)
  (case qsa0=>k_is)
  (case qmk0=>k_is)
  (case qkp0=>k_is)
  (case qn0_on_way=>k_is)
  (case qn0_done=>k_is)
  (case qn0_new_number=>k_is)
  (case a0=>k_is)
  (case l0=>k_is)
  (case c0=>k_is)
  (case k0=>k_is)
  (case a1=>k_is)
  (case l1=>k_is)
  (case c1=>k_is)
  (case k1=>k_is)
  (case a2=>k_is)
  (case l2=>k_is)
  (case c2=>k_is)
  (case k2=>k_is)
  (case a3=>k_is)
  (case l3=>k_is)
  (case c3=>k_is)
  (case k3=>k_is)
  (case a4=>k_is)
  (case l4=>k_is)
  (case c4=>k_is)
  (case k4=>k_is)
  (case a5=>k_is)
  (case l5=>k_is)
  (case c5=>k_is)
  (case k5=>k_is)
  (case a6=>k_is)
  (case m6=>k_is)
  (case l6=>k_is)
  (case c6=>k_is)
  (case k6=>k_is)
  (case a7=>k_is)
  (case m7=>k_is)
  (case l7=>k_is)
  (case c7=>k_is)
  (case k7=>k_is)
  (case a8=>k_is)
  (case m8=>k_is)
  (case l8=>k_is)
  (case c8=>k_is)
  (case k8=>k_is)
  (case a9=>k_is)
  (case m9=>k_is)
  (case l9=>k_is)
  (case c9=>k_is)
  (case k9=>k_is)
  (case a10=>k_is)
  (case m10=>k_is)
  (case l10=>k_is)
  (case c10=>k_is)
  (case k10=>k_is)
  (case a11=>k_is)
  (case m11=>k_is)
  (case l11=>k_is)
  (case c11=>k_is)
  (case k11=>k_is)
  (case a12=>k_is)
  (case m12=>k_is)
  (case l12=>k_is)
  (case c12=>k_is)
  (case k12=>k_is)
  (case a13=>k_is)
  (case m13=>k_is)
  (case l13=>k_is)
  (case c13=>k_is)
  (case k13=>k_is)
  (case a14=>k_is)
  (case m14=>k_is)
  (case l14=>k_is)
  (case c14=>k_is)
  (case k14=>k_is)
  (case a15=>k_is)
  (case m15=>k_is)
  (case l15=>k_is)
  (case c15=>k_is)
  (case k15=>k_is)
  (case a16=>k_is)
  (case m16=>k_is)
  (case l16=>k_is)
  (case c16=>k_is)
  (case k16=>k_is)
  (case a17=>k_is)
  (case m17=>k_is)
  (case l17=>k_is)
  (case c17=>k_is)
  (case k17=>k_is)
  (case a18=>k_is)
  (case m18=>k_is)
  (case l18=>k_is)
  (case c18=>k_is)
  (case k18=>k_is)
  (case a19=>k_is)
  (case l19=>k_is)
  (case c19=>k_is)
  (case k19=>k_is)
  (case a20=>k_is)
  (case l20=>k_is)
  (case c20=>k_is)
  (case k20=>k_is)
  (case a21=>k_is)
  (case l21=>k_is)
  (case c21=>k_is)
  (case k21=>k_is)
  (case a22=>k_is)
  (case l22=>k_is)
  (case c22=>k_is)
  (case k22=>k_is)
  (case a23=>k_is)
  (case l23=>k_is)
  (case c23=>k_is)
  (case k23=>k_is)
  (case a24=>k_is)
  (case l24=>k_is)
  (case c24=>k_is)
  (case k24=>k_is)
  (case a25=>k_is)
  (case l25=>k_is)
  (case c25=>k_is)
  (case k25=>k_is)
  (case a26=>k_is)
  (case l26=>k_is)
  (case c26=>k_is)
  (case k26=>k_is)
  (case xa0=>k_is)
  (case xi0=>k_exc)
  (case xa1=>k_is)
  (case xi1=>k_exc)
  (case xa2=>k_is)
  (case xi2=>k_exc)
  (case gga0=>k_is)
  (case ggt0=>k_is)
  (case gcl0=>k_is)
  (case gob0=>k_is)
  (case gbe0=>k_is)
  (case gis0=>k_is)
  (case gga1=>k_is)
  (case ggt1=>k_is)
  (case gcl1=>k_is)
  (case gob1=>k_is)
  (case gbe1=>k_is)
  (case gis1=>k_is)
  (case gga2=>k_is)
  (case ggt2=>k_is)
  (case gcl2=>k_is)
  (case gob2=>k_is)
  (case gbe2=>k_is)
  (case gis2=>k_is)
  (case z_FIRST_SIGN=>k_is)
  (case z_HOST=>k_is)
  (case z_IS_SPOILT=>k_is)
  (case z_LAST_HOST=>k_is)
  (case z_LAST_SIGN=>k_is)
  (case z_LEFT_OUT_SIGN=>k_is)
  (case z_MOST_IN_FLIGHT=>k_is)
  (case z_MOST_TEXT=>k_is)
  (case z_NUMBER=>k_is)
  (case z_TEXT=>k_is)
  (case z__law_x=>k_is)
  (case z__law_y=>k_is)
  (case z_all=>k_is)
  (case z_bool=>k_is)
  (case z_int=>k_is)
  (case z_isinstance=>k_is)
  (case z_len=>k_is)
  (case z_list=>k_is)
  (case z_max=>k_is)
  (case z_min=>k_is)
  (case z_ord=>k_is)
  (case z_range=>k_is)
  (case z_sorted=>k_is)
  (case z_str=>k_is)
  (case z_tuple=>k_is)
  (case z_zip=>k_is)
