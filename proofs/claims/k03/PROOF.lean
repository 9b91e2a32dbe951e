import PyProof.Rows.All
import Wide.All
import OpenK.AllK
import Wide.FinOn
import PyProof.EqAt
import PyProof.EqKinds
import PyProof.TupleCall
import Lean
import PyProof.Rows.SetFrom
import PyProof.Rows.SortWalk
import KE.KDictList
import KE.KSortedM
import PySem.Challenge.RW_quickchange_k03_put_on_and_taken_off
set_option Elab.async false
set_option linter.all false
set_option maxRecDepth 100000
set_option compiler.extract_closed false
def bD:=@List.mem_cons_of_mem
def bM:=@List.mem_cons_self
def bS:=@List.mem_append_right
def dL:=@List.mem_append_left
def bI:=@PySem.Heap.get?_push_of_some
def da:=@PySem.Heap.get?_push_size
def bw:=@PySem.Heap.lt_size
def bb:=@Nat.le_refl
def bK:=@Nat.le_trans
def dW:=@Nat.lt_of_lt_of_le
def cQ:=@Nat.ne_of_lt
def bV:=@Option.some.inj
def ai:=@PySem.wpAny_bind
def aG:=@PySem.wpAny_pure
theorem cz{α:Type}{a b:α}{l:List α}:a∈b::l->a=b\/a∈l:=List.mem_cons.mp
theorem dI{α:Type}{a:α}{s t:List α}:a∈s++t->a∈s\/a∈t:=List.mem_append.mp
theorem cK{α β:Type}{b:β}{x:Option α}{f:α->Option β}:x.bind f=some b->∃a,x=some a/\f a=some b:=Option.bind_eq_some_iff.mp
theorem cW{α β:Type}{b:β}{x:Option α}{f:α->β}:x.map f=some b->∃a,x=some a/\f a=b:=Option.map_eq_some_iff.mp
theorem dN{α:Type}{i:Nat}{a:α}{l:List α}:l[i]?=some a->∃h:i<l.length,l[i]=a:=List.getElem?_eq_some_iff.mp
theorem dF{α:Type}{p:α->Bool}{l:List α}:l.all p=true->∀x∈l,p x=true:=List.all_eq_true.mp
theorem c9{α β:Type}{b:β}{l:List α}{f:α->β}:b∈l.map f->∃a,a∈l/\f a=b:=List.mem_map.mp
abbrev aL:=PySem.W.Frag
section
namespace L2
open PySem PySem.Spec PyProof.Rows
noncomputable abbrev d6:=Sum Int Str
noncomputable def jq:d6->Value->Bool
 | .inl k,v=>Value.isInt k v
 | .inr x,v=>Value.isStrOf x v
noncomputable def sy (w:World):d6->Int
 | .inl k=>hashInt k
 | .inr x=>hashStr w x
theorem h9:∀{k:d6} {v:Value},jq k v=true->(∃i t,k=Sum.inl i/\v=Value.int i t)\/(∃x t,k=Sum.inr x/\v=Value.str x t)
 | .inl i,v,h=>by
  obtain⟨t,e⟩:=Value.isInt_shape (k:=i) (v:=v) h;exact .inl ⟨i,t,rfl,e⟩
 | .inr x,v,h=>by
  obtain⟨t,e⟩:=Value.isStrOf_shape (x:=x) (v:=v) h;exact .inr ⟨x,t,rfl,e⟩
theorem Af (a b:Int):decide ((Sum.inl a:d6)=Sum.inl b)=(a == b):=by
 by_cases e:a=b
 ·subst e; simp
 ·have h:¬(Sum.inl a:d6)=Sum.inl b:=fun q=>e (Sum.inl.inj q);rw[decide_eq_false h];exact (beq_eq_false_iff_ne.mpr e).symm
theorem Gh (a b:Str):decide ((Sum.inr a:d6)=Sum.inr b)=decide (a=b):=by
 by_cases e:a=b
 ·subst e; simp
 ·have h:¬(Sum.inr a:d6)=Sum.inr b:=fun q=>e (Sum.inr.inj q);rw[decide_eq_false h,decide_eq_false e]
theorem DC (a:Int)(b:Str):decide ((Sum.inl a:d6)=Sum.inr b)=false:=decide_eq_false (fun q=>nomatch q)
theorem zr (a:Str)(b:Int):decide ((Sum.inr a:d6)=Sum.inl b)=false:=decide_eq_false (fun q=>nomatch q)
noncomputable def fZ (prog:Program)(w:World):PySem.KeyKind prog w d6 where
 is:=jq
 hash:=sy w
 inj:=fun v a b ha hb=>by
  rcases h9 ha with ⟨i,t,rfl,rfl⟩ | ⟨x,t,rfl,rfl⟩
  ·rcases h9 hb with ⟨j,u,rfl,e⟩ | ⟨y,u,rfl,e⟩
   ·injection e with e1 _; rw[e1]
   ·exact nomatch e
  ·rcases h9 hb with ⟨j,u,rfl,e⟩ | ⟨y,u,rfl,e⟩
   ·exact nomatch e
   ·injection e with e1 _; rw[e1]
 byValue:=fun k v h=>by
  rcases h9 h with ⟨i,t,rfl,rfl⟩ | ⟨x,t,rfl,rfl⟩ <;> rfl
 pyHash:=fun hv h=>by
  rcases h9 hv with ⟨i,t,rfl,rfl⟩ | ⟨x,t,rfl,rfl⟩
  ·exact wpAny_pyHash_int h
  ·exact wpAny_pyHash_str h
 eqBool:=fun hu hv h=>by
  rcases h9 hu with ⟨i,t,rfl,rfl⟩ | ⟨x,t,rfl,rfl⟩
  ·rcases h9 hv with ⟨j,u,rfl,rfl⟩ | ⟨y,u,rfl,rfl⟩
   ·rw[Af] at h; exact wpAny_eqBool_int h
   ·rw[DC] at h; exact SeqAt.EqAt.int_str i t y u _ _ _ _ h
  ·rcases h9 hv with ⟨j,u,rfl,rfl⟩ | ⟨y,u,rfl,rfl⟩
   ·rw[zr] at h; exact SeqAt.EqAt.str_int x t j u _ _ _ _ h
   ·rw[Gh] at h; exact wpAny_eqBool_str h
 «strs»:=fun k x t v h=>by
  rcases h9 h with ⟨i,u,rfl,e⟩ | ⟨y,u,rfl,e⟩
  ·exact nomatch e
  ·injection e with e1 _;subst e1;cases v <;> rfl
end L2
namespace L2
open PySem PySem.Spec PyProof.Rows
inductive V where
 | non | bl (b:Bool) | int (i:Int) | str (x:Str) | byt (b:Array UInt8) | flt (b:UInt64) | ref (a:Addr) | ty (n:String)
 deriving DecidableEq
noncomputable def RelV:V->Value->Prop
 | .non,u=>u=Value.none
 | .bl b,u=>u=Value.bool b
 | .int i,u=>∃t,u=Value.int i t
 | .str x,u=>∃t,u=Value.str x t
 | .byt b,u=>∃t,u=Value.bytes b t
 | .flt b,u=>∃t,u=Value.float b t
 | .ref a,u=>u=Value.ref a
 | .ty n,u=>u=Value.type n
abbrev Vals:List V->List Value->Prop:=Paired RelV
theorem Vals.length (r:Vals xs us):xs.length=us.length:=Paired.length r
theorem Vals.get:∀{xs:List V} {us:List Value} {i:Nat} {x:V},Vals xs us->xs[i]? = some x->∃u,us[i]? = some u/\RelV x u
 | _,_,_,_,.nil,e=>by simp at e
 | _,_,0,_,.cons r _,e=>by simp at e; subst e; exact⟨_,rfl,r⟩
 | _,_,i+1,x,.cons _ t,e=>by
  obtain⟨u,h1,h2⟩:=Vals.get (i:=i) (x:=x) t (by simpa using e);exact⟨u,by simpa using h1,h2⟩
theorem Vals.set (r:RelV x u):∀{xs:List V} {us:List Value} (i:Nat),Vals xs us->Vals (xs.set i x) (us.set i u)
 | _,_,_,.nil=>.nil
 | _,_,0,.cons _ t=>.cons r t
 | _,_,i+1,.cons q t=>.cons q (Vals.set r i t)
theorem Vals.append:∀{xs ys:List V} {us ws:List Value},Vals xs us->Vals ys ws->Vals (xs++ys) (us++ws)
 | _,_,_,_,.nil,s=>s
 | _,_,_,_,.cons r t,s=>.cons r (Vals.append t s)
theorem Vals.take:∀{xs:List V} {us:List Value} (n:Nat),Vals xs us->Vals (xs.take n) (us.take n)
 | _,_,0,_=>.nil
 | _,_,_+1,.nil=>.nil
 | _,_,n+1,.cons r t=>.cons r (Vals.take n t)
theorem Vals.drop:∀{xs:List V} {us:List Value} (n:Nat),Vals xs us->Vals (xs.drop n) (us.drop n)
 | _,_,0,r=>r
 | _,_,_+1,.nil=>.nil
 | _,_,n+1,.cons _ t=>Vals.drop n t
noncomputable def RelO:Option V->Option Value->Prop
 | some v,some u=>RelV v u
 | none,none=>True
 | _,_=>False
def KV {κ:Type}:List (κ×V)->List (κ×Value)->Prop:=Paired fun (p:κ×V) (q:κ×Value)=>p.1=q.1/\RelV p.2 q.2
noncomputable def kV:d6->V
 | .inl i=>.int i
 | .inr x=>.str x
inductive HO where
 | lst (xs:List V)
 | tup (xs:List V)
 | dK (kvs:List (d6×V)) | dT (kvs:List (List d6×V))
 | set (S:Int->Bool) (n:Nat)
 | ins (C dx:Addr) (fs:List (Str×V))
 | own (x:Addr)
 | exc (C:Addr) (nw:Bool) (fs:List (Str×V))
 | xd (fs:List (Str×V))
 | met (f x:Addr)
 | rng (lo hi:Int)
 | frz (o:Obj) (u:HO)
 | tbl (ps:Array Value)
 | ext (φ:Heap->Prop)
noncomputable abbrev Hp:=Addr->Option HO
noncomputable def upd (H:Hp)(a:Addr)(o:HO):Hp:=fun b=>if b=a then some o else H b
theorem bA:upd H a o a=some o:=by unfold upd; rw[if_pos rfl]
theorem bc (h:b≠a):upd H a o b=H b:=by unfold upd; rw[if_neg h]
theorem zC:upd (upd H a o) a u=upd H a u:=by
 funext b; unfold upd; split <;> rfl
theorem mO {H:Hp}{a b:Addr}{o:HO}(h:H a=some o)(h':H b=none):a≠b:=by
 intro e; subst e; rw[h] at h'; cases h'
section
variable (P:Program)(w:World)
def TupN (h:Heap)(a:Addr)(items:Array Value):Prop:=∃o,h.get? a=some o/\o.cls=.type "tuple" /\ (∃n,o.data=.seq items n)/\o.dict=none
theorem TupN.tup (x:TupN h a items):IsTup h a items:=let ⟨o,e,c,d,_⟩:=x; ⟨o,e,c,d⟩
theorem TupN.new (h:Heap)(items:Array Value):TupN (h.push { cls:=.type "tuple",data:=.seq items }) h.objs.size items:=⟨_,da _ rfl,rfl,⟨_,rfl⟩,rfl⟩
noncomputable def ObjOk (H:Hp)(h:Heap)(a:Addr):HO->Prop
 | .lst xs=>xs.length<=sizeLine/\∃(its:List Value) (n:Nat),Vals xs its/\h.get? a=some { cls:=.type "list",data:=.seq its.toArray n }
 | .tup xs=>xs.length<=sizeLine/\∃its:List Value,Vals xs its/\TupN h a its.toArray
 | .dK kvs=>kvs.length<=sizeLine/\(a == sysModules)=false/\∃vs,KV kvs vs/\h.DictOf (fZ P w) a vs
 | .dT kvs=>kvs.length<=sizeLine/\(a == sysModules)=false/\∃xs:List (List d6×Addr×Value),
   Paired (fun (p:List d6×V) (q:List d6×Addr×Value)=>p.1=q.1/\H q.2.1=some (.tup (p.1.map kV))/\RelV p.2 q.2.2) kvs xs /\
   ∃o es ep,h.get? a=some o/\o.ExactDict/\o.data=.dict es ep/\es.toList=xs.map (entryOfKey (tupleKind (fZ P w)))/\(xs.map (·.1)).Nodup
 | .set S n=>h.SetOf (intKind P w) a S n
 | .ins C dx fs=>H dx=some (.own a)/\fs.length<=1000/\dx≠a/\h.get? a=some (PySem.W.instObj C dx) /\
   ∃mA,h.Ns1 dx mA/\(∀f,RelO (fs.lookup f) (mA f))/\PySem.Within mA (fs.map (·.1))
 | .own _=>∃o,h.get? a=some o
 | .exc C nw fs=>fs.length<=1000/\∃(o:Obj) (vs:Array Value),h.get? a=some o/\o.cls=.ref C/\o.data=.fields vs/\vs.size=6/\(nw=true->vs[1]? = some Value.none) /\
   ((o.dict=none/\fs=[])\/∃dx,o.dict=some dx/\H dx=some (.own a)/\dx≠a/\∃mA,h.Ns1 dx mA/\(∀f,RelO (fs.lookup f) (mA f))/\PySem.Within mA (fs.map (·.1)))
 | .xd fs=>∃mA,h.Ns1 a mA/\∀f,RelO (fs.lookup f) (mA f)
 | .rng lo hi=>∃t u v,h.get? a=some { cls:=.type "range",data:=.fields #[.int lo t,.int hi u,.int 1 v] }
 | .frz o u=>h.get? a=some o/\ObjOk H h a u
 | .tbl ps=>h.get? a=some { cls:=.none,data:=.fields ps }
 | .met f x=>h.get? a=some (PySem.W.methodObj (.ref f) (.ref x))
 | .ext φ=>φ h/\(∃o,h.get? a=some o)/\∀h1 h2:Heap,φ h1->(∀o,h1.get? a=some o->h2.get? a=some o)->φ h2
def HOk (H:Hp)(h:Heap):Prop:=∀a o,H a=some o->ObjOk P w H h a o
end
section
variable {P:Program}{w:World}{H H':Hp}{h h':Heap}{a:Addr}{o:HO}
theorem ObjOk.lt (x:ObjOk P w H h a o):a<h.objs.size:=by
 cases o with
 | lst xs=>obtain⟨_,_,_,_,e⟩:=x; exact bw e
 | tup xs=>obtain⟨_,_,_,p⟩:=x; exact p.tup.lt
 | dK kvs=>obtain⟨_,_,_,_,o,_,_,e,_⟩:=x; exact bw e
 | dT kvs=>obtain⟨_,_,_,_,o,_,_,e,_⟩:=x; exact bw e
 | set S n=>obtain⟨o,_,_,_,e,_⟩:=x; exact bw e
 | ins C dx fs=>obtain⟨_,_,_,e,_⟩:=x; exact bw e
 | own y=>obtain⟨_,e⟩:=x; exact bw e
 | exc C nw fs=>obtain⟨_,_,_,e,_⟩:=x; exact bw e
 | xd fs=>obtain⟨_,⟨_,_,_,e,_⟩,_⟩:=x; exact bw e
 | rng lo hi=>obtain⟨_,_,_,e⟩:=x; exact bw e
 | frz ob u=>obtain⟨e,_⟩:=x; exact bw e
 | tbl ps=>exact bw (show h.get? a=some _ from x)
 | met f y=>exact bw (show h.get? a=some _ from x)
 | ext φ=>obtain⟨_,⟨_,e⟩,_⟩:=x; exact bw e
theorem Paired.mapP:∀{l₁:List α} {l₂:List β},Paired F l₁ l₂->(∀a b,F a b->G a b)->Paired G l₁ l₂
 | _,_,.nil,_=>.nil
 | _,_,.cons r t,f=>.cons (f _ _ r) (Paired.mapP t f)
theorem ObjOk.stay (x:ObjOk P w H h a o)(k:∀b u,(b=a\/H b=some (.own a))->h.get? b=some u->h'.get? b=some u)
  (ho:∀b,H b=some (.own a)->H' b=some (.own a))(ht:∀b xs,H b=some (.tup xs)->H' b=some (.tup xs)):ObjOk P w H' h' a o:=by
 induction o with
 | lst xs=>obtain⟨z,its,n,r,e⟩:=x; exact⟨z,its,n,r,k _ _ (.inl rfl) e⟩
 | tup xs=>obtain⟨z,its,r,ob,e,c⟩:=x; exact⟨z,its,r,ob,k _ _ (.inl rfl) e,c⟩
 | dK kvs=>obtain⟨z,y,vs,r,ob,es,ep,e,c⟩:=x; exact⟨z,y,vs,r,ob,es,ep,k _ _ (.inl rfl) e,c⟩
 | dT kvs=>
  obtain⟨z,y,xs,r,ob,es,ep,e,c⟩:=x;exact⟨z,y,xs,Paired.mapP r fun p q z=>⟨z.1,ht _ _ z.2.1,z.2.2⟩,ob,es,ep,k _ _ (.inl rfl) e,c⟩
 | set S n=>obtain⟨ob,es,ep,t,e,c⟩:=x; exact⟨ob,es,ep,t,k _ _ (.inl rfl) e,c⟩
 | ins C dx fs=>
  obtain⟨d,z,ne,e,mA,⟨od,es,ep,e2,c⟩,r⟩:=x;exact⟨ho _ d,z,ne,k _ _ (.inl rfl) e,mA,⟨od,es,ep,k _ _ (.inr d) e2,c⟩,r⟩
 | own y=>obtain⟨ob,e⟩:=x; exact⟨ob,k _ _ (.inl rfl) e⟩
 | exc C nw fs=>
  obtain⟨z,o,vs,e,c1,c2,c3,c4,q⟩:=x;refine⟨z,o,vs,k _ _ (.inl rfl) e,c1,c2,c3,c4,?_⟩;rcases q with q | ⟨dx,d1,d2,d3,mA,⟨od,es,ep,e2,c⟩,r⟩
  ·exact .inl q
  ·exact .inr ⟨dx,d1,ho _ d2,d3,mA,⟨od,es,ep,k _ _ (.inr d2) e2,c⟩,r⟩
 | xd fs=>obtain⟨mA,⟨od,es,ep,e,c⟩,r⟩:=x; exact⟨mA,⟨od,es,ep,k _ _ (.inl rfl) e,c⟩,r⟩
 | rng lo hi=>obtain⟨t,u,v,e⟩:=x; exact⟨t,u,v,k _ _ (.inl rfl) e⟩
 | frz ob u ih=>obtain⟨e,q⟩:=x; exact⟨k _ _ (.inl rfl) e,ih q⟩
 | tbl ps=>
  have e:h.get? a=some { cls:=.none,data:=.fields ps }:=x;show h'.get? a=some { cls:=.none,data:=.fields ps };exact k a _ (.inl rfl) e
 | met f y=>
  have e:h.get? a=some (PySem.W.methodObj (.ref f) (.ref y)):=x;show h'.get? a=some (PySem.W.methodObj (.ref f) (.ref y));exact k a _ (.inl rfl) e
 | ext φ=>obtain⟨p,⟨o,e⟩,st⟩:=x; exact⟨st _ _ p fun o q=>k _ _ (.inl rfl) q,⟨o,k _ _ (.inl rfl) e⟩,st⟩
theorem HOk.lt (x:HOk P w H h)(e:H a=some o):a<h.objs.size:=(x a o e).lt
theorem HOk.fresh (x:HOk P w H h)(e:h.objs.size<=a):H a=none:=by
 cases q:H a with
 | none=>rfl
 | some u=>exact absurd (dW (x.lt q) e) (Nat.lt_irrefl _)
theorem HOk.kept (x:HOk P w H h)(k:∀b u,h.get? b=some u->h'.get? b=some u):HOk P w H h':=fun a o e=>
 (x a o e).stay (fun b u _ q=>k b u q) (fun _ q=>q) fun _ _ q=>q
theorem HOk.laid (x:HOk P w H h)(k:∀b u,h.get? b=some u->h'.get? b=some u)(hp:h.objs.size<=a)(new:ObjOk P w (upd H a o) h' a o):HOk P w (upd H a o) h':=fun b u e=>by
 have hn:=x.fresh hp;by_cases hb:b=a
 ·subst hb; rw[bA] at e; cases e; exact new
 ·rw[bc hb] at e;exact (x b u e).stay (fun c v _ q=>k c v q) (fun c q=>by rw[bc (mO q hn)]; exact q) fun c xs q=>by rw[bc (mO q hn)]; exact q
end
def Rd (H:Hp)(a:Addr)(u:HO):Prop:=H a=some u\/∃o,H a=some (.frz o u)
theorem Rd.ok (r:Rd H a u)(x:HOk P w H h):ObjOk P w H h a u:=by
 rcases r with r | ⟨o,r⟩
 ·exact x a u r
 ·obtain⟨_,q⟩:=x a _ r;exact q
noncomputable def oP:Option HO->Prop
 | some (.lst _)=>True
 | some (.dK _)=>True
 | some (.dT _)=>True
 | some (.set _ _)=>True
 | some (.ins _ _ _)=>True
 | some (.exc _ _ _)=>True
 | some (.ext _)=>True
 | _=>False
section
variable {P:Program}{w:World}{H:Hp}{h h':Heap}{x e:Addr}{o':HO}
theorem HOk.write (ok:HOk P w H h)(mu:oP (H x))(he:e=x\/H e=some (.own x))(k:∀b u,b≠e->h.get? b=some u->h'.get? b=some u)(heo:∃u,h'.get? e=some u)
  (new:ObjOk P w (upd H x o') h' x o'):HOk P w (upd H x o') h':=fun b u q=>by
 have nown:∀c y,H c=some (.own y)->c≠x:=fun c y r z=>by subst z; rw[r] at mu; exact mu
 have ntup:∀c xs,H c=some (.tup xs)->c≠x:=fun c xs r z=>by subst z; rw[r] at mu; exact mu
 by_cases hb:b=x
 ·subst hb; rw[bA] at q; cases q; exact new
 ·rw[bc hb] at q;by_cases hbe:b=e
  ·have q':H b=some (.own x):=by
    rcases he with z | z
    ·exact absurd (hbe.trans z) hb
    ·rw[hbe]; exact z
   rw[q] at q'; cases q';obtain⟨v,hv⟩:=heo;exact⟨v,by rw[hbe]; exact hv⟩
  ·refine (ok b u q).stay (fun c v hc r=>k c v ?_ r) (fun c r=>by rw[bc (nown c b r)]; exact r) fun c xs r=>by rw[bc (ntup c xs r)]; exact r
   rcases hc with rfl | hc
   ·exact hbe
   ·rintro rfl;rcases he with z | z
    ·exact nown c b hc z
    ·rw[hc] at z; cases z; exact hb rfl
end
structure Un (fs ex:List Addr)(H H':Hp)(h h':Heap):Prop where
 keep:∀b o,h.get? b=some o->H b=none->b∉fs->b∉ex->h'.get? b=some o
 slot:∀b o,h.get? b=some o->H b=none->b∈fs->b∉ex->∃sl,h'.get? b=some { o with slots:=sl }
 free:∀b o,h.get? b=some o->H b=none->b∉ex->H' b=none
 there:∀b o,h.get? b=some o->b∉ex->∃o',h'.get? b=some o'
 tups:∀b xs,H b=some (.tup xs)->H' b=some (.tup xs)
 frzs:∀b o u,H b=some (.frz o u)->H' b=some (.frz o u)
 tbls:∀b ps,H b=some (.tbl ps)->∃more,H' b=some (.tbl (ps++more))
section
variable {fs fs' ex ex':List Addr}{H H1 H2:Hp}{h h1 h2 h':Heap}{a x e:Addr}{o:HO}
theorem Un.any (u:Un fs ex H H1 h h1)(q:h.get? b=some ob)(n:H b=none)(hx:b∉ex):∃sl,h1.get? b=some { ob with slots:=sl }:=by
 by_cases hb:b∈fs
 ·exact u.slot b ob q n hb hx
 ·exact⟨ob.slots,u.keep b ob q n hb hx⟩
theorem Un.trans (a:Un fs ex H H1 h h1)(b:Un fs ex H1 H2 h1 h2):Un fs ex H H2 h h2 where
 keep:=fun c ob q n hc hx=>b.keep c ob (a.keep c ob q n hc hx) (a.free c ob q n hx) hc hx
 slot:=fun c ob q n hc hx=>by
  obtain⟨sl,e1⟩:=a.slot c ob q n hc hx;obtain⟨sl',e2⟩:=b.slot c _ e1 (a.free c ob q n hx) hc hx;exact⟨sl',e2⟩
 free:=fun c ob q n hx=>by
  obtain⟨o',e1⟩:=a.there c ob q hx;exact b.free c o' e1 (a.free c ob q n hx) hx
 there:=fun c ob q hx=>by
  obtain⟨o',e1⟩:=a.there c ob q hx;exact b.there c o' e1 hx
 tups:=fun c xs q=>b.tups c xs (a.tups c xs q)
 frzs:=fun c ob xs q=>b.frzs c ob xs (a.frzs c ob xs q)
 tbls:=fun c ps q=>by
  obtain⟨m1,e1⟩:=a.tbls c ps q;obtain⟨m2,e2⟩:=b.tbls c _ e1;exact⟨m1++m2,by rw[e2,Array.append_assoc]⟩
theorem Un.kept (k:∀b u,h.get? b=some u->h'.get? b=some u):Un fs ex H H h h':=
 ⟨fun b ob q _ _ _=>k b ob q,fun b ob q _ _ _=>⟨ob.slots,k b ob q⟩,fun _ _ _ n _=>n,fun b ob q _=>⟨ob,k b ob q⟩,fun _ _ q=>q,fun _ _ _ q=>q,fun _ ps q=>⟨#[],by rw[q]; simp⟩⟩
theorem Un.refl:Un fs ex H H h h:=Un.kept fun _ _ q=>q
theorem Un.laid (k:∀b u,h.get? b=some u->h'.get? b=some u)(hp:h.objs.size<=a)(hn:H a=none):Un fs ex H (upd H a o) h h' where
 keep:=fun b u q _ _ _=>k b u q
 slot:=fun b u q _ _ _=>⟨u.slots,k b u q⟩
 free:=fun b u q n _=>by rw[bc (Nat.ne_of_lt (Nat.lt_of_lt_of_le (Heap.lt_size q) hp))]; exact n
 there:=fun b u q _=>⟨u,k b u q⟩
 tups:=fun b xs q=>by rw[bc (mO q hn)]; exact q
 frzs:=fun b u xs q=>by rw[bc (mO q hn)]; exact q
 tbls:=fun b ps q=>⟨#[],by rw[bc (mO q hn),q]; simp⟩
theorem Un.write (mu:oP (H x))(he:e=x\/H e=some (.own x))(k:∀b u,b≠e->h.get? b=some u->h'.get? b=some u)(heo:∃u,h'.get? e=some u):Un fs ex H (upd H x o) h h':=by
 have hx:∀b,H b=none->b≠x:=fun b n z=>by subst z; rw[n] at mu; exact mu
 have hb:∀b,H b=none->b≠e:=fun b n z=>by
  subst z;rcases he with r | r
  ·exact hx b n r
  ·rw[n] at r; cases r
 have hm:∀b u,H b=some u->¬oP (some u)->b≠x:=fun b u q nm z=>by subst z; rw[q] at mu; exact nm mu
 refine⟨fun b u q n _ _=>k b u (hb b n) q,fun b u q n _ _=>⟨u.slots,k b u (hb b n) q⟩,fun b u q n _=>by rw[bc (hx b n)]; exact n,fun b u q _=>?_,
  fun b xs q=>by rw[bc (hm b _ q fun z=>z)]; exact q,fun b u xs q=>by rw[bc (hm b _ q fun z=>z)]; exact q,fun b ps q=>⟨#[],by rw[bc (hm b _ q fun z=>z),q]; simp⟩⟩
 by_cases hbe:b=e
 ·subst hbe; exact heo
 ·exact⟨u,k b u hbe q⟩
end
noncomputable def oJ (h:Heap)(H:Hp):List Addr:=(List.range h.objs.size).filter fun a=>(H a).isSome
noncomputable def dR (h:Heap)(H:Hp):Heap:=PySem.W.hideAll h (oJ h H)
theorem y8 (h:Heap)(H:Hp):(dR h H).objs.size=h.objs.size:=PySem.W.hideAll_size _ _
theorem yb (e:h.get? b=some o)(n:H b=none):(dR h H).get? b=some o:=
 PySem.W.hideAll_get _ e fun hm=>by
  have q:(H b).isSome=true:=(List.mem_filter.mp hm).2;rw[n] at q; simp at q
theorem EQ (e:(dR h H).get? b=some o):h.get? b=some o/\H b=none:=by
 have e':h.get? b=some o:=PySem.W.of_hideAll (oJ h H) e;refine⟨e',?_⟩;cases q:H b with
 | none=>rfl
 | some x=>
  have hm:b∈oJ h H:=List.mem_filter.mpr ⟨List.mem_range.mpr (bw e'),by simp[q]⟩;have z:(dR h H).get? b=none:=PySem.W.hideAll_none (oJ h H) hm;rw[z] at e; cases e
noncomputable def iH (g h:Heap)(L:Addr):List (Addr×Obj):=(List.range h.objs.size).filterMap fun a=>if a=L\/(g.get? a).isSome=true then none else (h.get? a).map fun o=>(a,o)
noncomputable def rest (g h:Heap)(L d:Addr):List (Addr×Obj):=(iH g h L).filter fun p=>decide (p.1≠d)
end L2
namespace L2
open PySem PySem.Spec PyProof.Rows
structure Mod (K:aL)(mg:Str->Option Value)(base:Heap):Prop where
 kin:K.In base
 glob:base.Ns mainGlobals mg
 blt:∃mb,base.Ns builtinsNs mb/\∀x:Str,x ≠ "__name__" -> mb x=bootBuiltins x
 nolimit:base.NoLimit
structure Cx where
 prog:Program
 w:World
 K:aL
 mg:Str->Option Value
 base:Heap
 A:Around
 N:List Str
 s₀:Shared
 H₀:Hp
 env:Env
 outer:List Env
 stack:List Env
 ex:List Addr
 fn:Str->Bool
 calm:Bool
 pn:List (Addr×Obj)
 xe:Value->Shared->Prop
noncomputable def fF (l:List Env):List Addr:=l.filterMap (·.frame)
noncomputable abbrev Cx.fs (X:Cx):List Addr:=fF X.outer
def nX (sc:Scope)(x:Str):Prop:=sc.names.lookup x=some .local\/sc.names.lookup x=some .cell\/sc.names.lookup x=some .free
def Loc (sc:Scope)(x:Str):Prop:=sc.names.lookup x=some .local\/sc.names.lookup x=some .cell
def Look (env:Env)(h:Heap)(m:Str->Option Value)(x:Str)(u:Value):Prop:=
 (env.kindOf x=some .local/\m x=some u)\/((env.kindOf x=some .cell\/env.kindOf x=some .free)/\∃c,env.cells.lookup x=some c/\h.IsCell c (some u))
structure Cx.Ok (X:Cx):Prop where
 mod:Mod X.K X.mg X.base
 kind:X.env.scope.kind=.function
 glob:X.env.globals=mainGlobals
 blt:X.env.builtins=builtinsNs
 above:X.s₀.heap.objs.size<=X.env.locals
 inj:∀x y c,X.env.cells.lookup x=some c->X.env.cells.lookup y=some c->x=y
 has:∀x,(X.env.kindOf x=some .cell\/X.env.kindOf x=some .free)->∃c,X.env.cells.lookup x=some c
 cab:∀x c,X.fn x=true->X.env.cells.lookup x=some c->X.s₀.heap.objs.size<=c
 hd:X.calm=true->X.A.handled=none
 frames:X.A.frames=some X.stack
 stk:X.stack=X.outer\/(X.stack=X.env::X.outer/\X.env.frame=some X.env.locals)
 exf:∀b∈X.ex,b≠X.env.locals/\∀x c,X.env.cells.lookup x=some c->c≠b
 bs:∀b o,X.base.get? b=some o->X.s₀.heap.get? b=some o/\X.H₀ b=none
 bsz:X.base.objs.size<=X.s₀.heap.objs.size
 noex:∀b o,X.base.get? b=some o->b∉X.ex
 exfs:∀b∈X.ex,b∉X.fs
 funs:X.s₀.heap.FunFrames X.base X.outer
 frf:∀b∈X.fs,X.H₀ b=none
structure Inv (X:Cx)(pins:List (Addr×Obj))(σ:List (Option V))(H:Hp)(s:Shared):Prop where
 ok:X.Ok
 os:s.os=X.s₀.os
 bare:AllBare s.gens
 base:Un X.fs X.ex X.H₀ H X.s₀.heap s.heap
 loc:∃m,s.heap.Ns X.env.locals m/\∀(i:Nat) (x:Str) (v:V),X.N[i]? = some x->σ[i]? = some (some v)->nX X.env.scope x->∃u,RelV v u/\Look X.env s.heap m x u
 cell:∀x c,X.env.cells.lookup x=some c->∃v,s.heap.IsCell c v
 free:H X.env.locals=none
 freeC:∀x c,X.env.cells.lookup x=some c->H c=none
 pin:∀p∈X.pn++pins,s.heap.get? p.1=some p.2/\H p.1=none/\p.1≠X.env.locals/\p.1∉X.fs/\∀v,p.2.data≠.cell v
 hok:HOk X.prog X.w H s.heap
 len:σ.length=X.N.length
section
variable {X:Cx}{pins:List (Addr×Obj)}{σ:List (Option V)}{H H':Hp}{s:Shared}{h':Heap}
theorem Cx.Ok.nofr (ok:X.Ok)(e:X.base.get? b=some o):b∉X.fs:=fun hb=>by
 have:=(ok.funs.mem hb).1;rw[e] at this; cases this
theorem Inv.bs (I:Inv X pins σ H s):∀b o,X.base.get? b=some o->s.heap.get? b=some o/\H b=none:=fun b o e=>
 ⟨I.base.keep b o (I.ok.bs b o e).1 (I.ok.bs b o e).2 (I.ok.nofr e) (I.ok.noex b o e),I.base.free b o (I.ok.bs b o e).1 (I.ok.bs b o e).2 (I.ok.noex b o e)⟩
theorem Inv.bk (I:Inv X pins σ H s):∀b o,X.base.get? b=some o->s.heap.get? b=some o:=fun b o e=>(I.bs b o e).1
theorem Inv.mod (I:Inv X pins σ H s):Mod X.K X.mg X.base:=I.ok.mod
theorem Inv.kIn (I:Inv X pins σ H s):X.K.In s.heap:=I.ok.mod.kin.keeps I.bk
theorem Inv.lt (I:Inv X pins σ H s):X.env.locals<s.heap.objs.size:=let ⟨_,hn,_⟩:=I.loc; hn.lt
theorem Inv.sz (I:Inv X pins σ H s):X.s₀.heap.objs.size<=s.heap.objs.size:=bK I.ok.above (Nat.le_of_lt I.lt)
theorem Inv.nofs (I:Inv X pins σ H s)(h:s.heap.objs.size<=a):a∉X.fs:=fun hb=>by
 obtain⟨_,o,ho,_⟩:=I.ok.funs.mem hb;exact absurd (dW (bw ho) (bK I.sz h)) (Nat.lt_irrefl _)
theorem Inv.cne (I:Inv X pins σ H s):∀x c,X.env.cells.lookup x=some c->c≠X.env.locals:=fun x c e z=>by
 obtain⟨v,o,ho,hd⟩:=I.cell x c e;obtain⟨m,⟨o',es,ep,ho',hd',_⟩,_⟩:=I.loc;rw[z,ho'] at ho; cases ho; rw[hd'] at hd; cases hd
theorem Inv.funs (I:Inv X pins σ H s):s.heap.FunFrames X.base X.outer:=by
 have all:∀(l:List Env),(∀b∈fF l,b∈X.fs)->X.s₀.heap.FunFrames X.base l->s.heap.FunFrames X.base l:=by
  intro l;induction l with
  | nil=>intro _ _; trivial
  | cons env r ih=>
   intro hs hl;obtain⟨hk,⟨L,o,hf,hn,ho,hd⟩,hr⟩:=hl;have hL:L∈X.fs:=hs L (by unfold fF; rw[List.filterMap_cons,hf]; exact bM);obtain⟨sl,e⟩:=I.base.slot L o ho (I.ok.frf L hL) hL fun z=>I.ok.exfs L z hL;exact⟨hk,⟨L,_,hf,hn,e,hd⟩,ih (fun b hb=>hs b (by unfold fF; rw[List.filterMap_cons,hf]; exact bD _ hb)) hr⟩
 exact all X.outer (fun _ hb=>hb) I.ok.funs
theorem Inv.stack (I:Inv X pins σ H s):s.heap.FunFrames X.base X.stack:=by
 rcases I.ok.stk with e | ⟨e,hf⟩
 ·rw[e]; exact I.funs
 ·rw[e];obtain⟨m,hn,_⟩:=I.loc;refine .cons (by rw[I.ok.kind]; decide) hf hn ?_ I.funs;exact Heap.get?_none_of_le (bK I.ok.bsz I.ok.above)
theorem Inv.stkSub (I:Inv X pins σ H s):∀b∈fF X.stack,b∈X.env.locals::X.fs:=fun b hb=>by
 rcases I.ok.stk with e | ⟨e,hf⟩
 ·rw[e] at hb; exact bD _ hb
 ·rw[e] at hb;unfold fF at hb;rw[List.filterMap_cons,hf] at hb;exact hb
theorem Inv.stkFree (I:Inv X pins σ H s):∀b∈fF X.stack,H b=none:=fun b hb=>by
 rcases cz (I.stkSub b hb) with e | hb
 ·rw[e]; exact I.free
 ·obtain⟨_,o,ho,_⟩:=I.ok.funs.mem hb;exact I.base.free b o ho (I.ok.frf b hb) fun z=>I.ok.exfs b z hb
theorem Inv.step {g':Array GenState}{t':Nat}{d':Drawn}{ch:List Addr}(I:Inv X pins σ H s)
  (hch:∀b∈ch,(b∈X.ex\/X.s₀.heap.objs.size<=b)/\b≠X.env.locals/\(∀x c,X.env.cells.lookup x=some c->c≠b)/\∀p∈X.pn++pins,p.1≠b)
  (keep:∀b o,b≠X.env.locals->b∉X.fs->b∉ch->s.heap.get? b=some o->H b=none->h'.get? b=some o)
  (slot:∀b o,b≠X.env.locals->b∈X.fs->b∉ch->s.heap.get? b=some o->H b=none->∃sl,h'.get? b=some { o with slots:=sl })(free:∀b o,b∉ch->s.heap.get? b=some o->H b=none->H' b=none)
  (there:∀b o,b∉ch->s.heap.get? b=some o->∃o',h'.get? b=some o')
  (tups:∀b xs,H b=some (.tup xs)->H' b=some (.tup xs))(frzs:∀b o u,H b=some (.frz o u)->H' b=some (.frz o u))(tbls:∀b ps,H b=some (.tbl ps)->∃more,H' b=some (.tbl (ps++more)))
  (ns:∀m,s.heap.Ns X.env.locals m->h'.Ns X.env.locals m)(hok:HOk X.prog X.w H' h')(hg:AllBare g') :
  Inv X pins σ H' { s with heap:=h',gens:=g',drawn:=d',toks:=t' }:=by
 have neL:∀b o,X.s₀.heap.get? b=some o->b≠X.env.locals:=fun b o e=>cQ (dW (bw e) I.ok.above);have neC:∀b o,X.s₀.heap.get? b=some o->b∉X.ex->b∉ch:=fun b o e hx hb=>by
  rcases (hch b hb).1 with z | z
  ·exact hx z
  ·exact absurd (dW (bw e) z) (Nat.lt_irrefl _)
 have cellK:∀x c,X.env.cells.lookup x=some c->∀v,s.heap.IsCell c v->h'.IsCell c v:=fun x c e v ⟨o,ho,hd⟩=>by
  have nch:c∉ch:=fun z=>(hch c z).2.2.1 x c e rfl;by_cases hc:c∈X.fs
  ·obtain⟨sl,q⟩:=slot c o (I.cne x c e) hc nch ho (I.freeC x c e);exact⟨_,q,hd⟩
  ·exact⟨o,keep c o (I.cne x c e) hc nch ho (I.freeC x c e),hd⟩
 refine⟨I.ok,I.os,hg,⟨fun b o e n hb hx=>?_,fun b o e n hb hx=>?_,fun b o e n hx=>?_,fun b o e hx=>?_,fun b xs e=>tups b xs (I.base.tups b xs e),fun b o xs e=>frzs b o xs (I.base.frzs b o xs e),fun b ps e=>?_⟩,?_,fun x c e=>?_,?_,fun x c e=>?_,fun p hp=>?_,hok,I.len⟩
 ·exact keep b o (neL b o e) hb (neC b o e hx) (I.base.keep b o e n hb hx) (I.base.free b o e n hx)
 ·obtain⟨sl,e1⟩:=I.base.slot b o e n hb hx;obtain⟨sl',e2⟩:=slot b _ (neL b o e) hb (neC b o e hx) e1 (I.base.free b o e n hx);exact⟨sl',e2⟩
 ·obtain⟨o',e1⟩:=I.base.there b o e hx;exact free b o' (neC b o e hx) e1 (I.base.free b o e n hx)
 ·obtain⟨o',e1⟩:=I.base.there b o e hx;exact there b o' (neC b o e hx) e1
 ·obtain⟨m1,e1⟩:=I.base.tbls b ps e;obtain⟨m2,e2⟩:=tbls b _ e1;exact⟨m1++m2,by rw[e2,Array.append_assoc]⟩
 ·obtain⟨m,hn,hl⟩:=I.loc;refine⟨m,ns m hn,fun i x v e1 e2 e3=>?_⟩;obtain⟨u,r,l⟩:=hl i x v e1 e2 e3;refine⟨u,r,?_⟩;rcases l with l | ⟨k,c,e,z⟩
  ·exact .inl l
  ·exact .inr ⟨k,c,e,cellK x c e _ z⟩
 ·obtain⟨v,z⟩:=I.cell x c e;exact⟨v,cellK x c e v z⟩
 ·obtain⟨m,⟨o,_,_,ho,_⟩,_⟩:=I.loc;exact free _ o (fun z=>(hch _ z).2.1 rfl) ho I.free
 ·obtain⟨v,o,ho,hd⟩:=I.cell x c e;exact free c o (fun z=>(hch c z).2.2.1 x c e rfl) ho (I.freeC x c e)
 ·obtain⟨e,n,ne,nf,d⟩:=I.pin p hp;have nch:p.1∉ch:=fun z=>(hch p.1 z).2.2.2 p hp rfl;exact⟨keep p.1 p.2 ne nf nch e n,free p.1 p.2 nch e n,ne,nf,d⟩
theorem Inv.un {t':Nat}(I:Inv X pins σ H s)(u:Un X.fs [] H H' s.heap h')(hok:HOk X.prog X.w H' h'):Inv X pins σ H' { s with heap:=h',toks:=t' }:=by
 obtain⟨m,⟨o,es,ep,ho,r⟩,_⟩:=id I.loc;obtain⟨sl,hL⟩:=u.any ho I.free (by simp);exact I.step (g':=s.gens) (d':=s.drawn) (ch:=[]) (fun _ z=>nomatch z) (fun b o _ hb _ e n=>u.keep b o e n hb (by simp)) (fun b o _ hb _ e n=>u.slot b o e n hb (by simp)) (fun b o _ e n=>u.free b o e n (by simp)) (fun b o _ e=>u.there b o e (by simp)) u.tups u.frzs u.tbls (fun m' hm=>by
  obtain⟨o',es',ep',ho',r'⟩:=hm;rw[ho] at ho'; cases ho';exact⟨_,es',ep',hL,r'⟩) hok I.bare
theorem Inv.call {g':Array GenState}{t':Nat}{d':Drawn}{ch:List Addr}(I:Inv X pins σ H s)(u:Un (fF X.stack) ch H H' s.heap h')(hok:HOk X.prog X.w H' h')(hg:AllBare g')
  (hch:∀b∈ch,(b∈X.ex\/X.s₀.heap.objs.size<=b)/\b≠X.env.locals/\(∀x c,X.env.cells.lookup x=some c->c≠b)/\∀p∈X.pn++pins,p.1≠b) :
  Inv X pins σ H' { s with heap:=h',gens:=g',drawn:=d',toks:=t' }:=by
 obtain⟨m,⟨o,es,ep,ho,r⟩,_⟩:=id I.loc;obtain⟨sl,hL⟩:=u.any ho I.free fun z=>(hch _ z).2.1 rfl;exact I.step (ch:=ch) hch (fun b o hL hb hc e n=>u.keep b o e n (fun z=>(cz (I.stkSub b z)).elim hL hb) hc) (fun b o _ _ hc e n=>u.any e n hc) (fun b o hc e n=>u.free b o e n hc) (fun b o hc e=>u.there b o e hc) u.tups u.frzs u.tbls (fun m' hm=>by
  obtain⟨o',es',ep',ho',r'⟩:=hm;rw[ho] at ho'; cases ho';exact⟨_,es',ep',hL,r'⟩) hok hg
theorem Inv.turned {t':Nat}{it:Addr}(I:Inv X pins σ H s)(k:∀b o,b≠it->s.heap.get? b=some o->h'.get? b=some o)(hn:H it=none)(hL:it≠X.env.locals)
  (h1:it∈X.ex\/X.s₀.heap.objs.size<=it)(h2:∀x c,X.env.cells.lookup x=some c->c≠it)(h3:∀p∈X.pn++pins,p.1≠it):Inv X pins σ H { s with heap:=h',toks:=t' }:=by
 have nit:∀b u,H b=some u->b≠it:=fun b u e z=>by rw[z,hn] at e; cases e
 refine I.step (g':=s.gens) (d':=s.drawn) (ch:=[it]) (fun b hb=>?_) (fun b o _ _ hc e _=>k b o (fun z=>hc (by simp[z])) e) (fun b o _ _ hc e _=>⟨o.slots,k b o (fun z=>hc (by simp[z])) e⟩) (fun _ _ _ _ n=>n)
  (fun b o hc e=>⟨o,k b o (fun z=>hc (by simp[z])) e⟩) (fun _ _ e=>e) (fun _ _ _ e=>e) (fun b ps e=>⟨#[],by rw[e]; simp⟩) (fun m hm=>?_) (fun b u e=>?_) I.bare
 ·have e:b=it:=by simpa using hb
  subst e;exact⟨h1,hL,h2,h3⟩
 ·obtain⟨o,es,ep,ho,r⟩:=hm;exact⟨o,es,ep,k _ o (Ne.symm hL) ho,r⟩
 ·refine (I.hok b u e).stay (fun c v hc q=>k c v ?_ q) (fun _ q=>q) fun _ _ q=>q;rcases hc with z | z
  ·rw[z]; exact nit b u e
  ·exact nit c _ z
theorem Inv.tok (I:Inv X pins σ H s)(t:Nat):Inv X pins σ H { s with toks:=t }:=I.un (h':=s.heap) (t':=t) Un.refl I.hok
theorem Inv.kept (I:Inv X pins σ H s)(k:∀b u,s.heap.get? b=some u->h'.get? b=some u):Inv X pins σ H { s with heap:=h',toks:=t' }:=I.un (Un.kept k) (I.hok.kept k)
theorem Inv.laid (I:Inv X pins σ H s)(k:∀b u,s.heap.get? b=some u->h'.get? b=some u)(hp:s.heap.objs.size<=a)(new:ObjOk X.prog X.w (upd H a o) h' a o) :
  Inv X pins σ (upd H a o) { s with heap:=h',toks:=t' }:=I.un (Un.laid k hp (I.hok.fresh hp)) (I.hok.laid k hp new)
theorem Inv.write (I:Inv X pins σ H s)(mu:oP (H x))(he:e=x\/H e=some (.own x))(k:∀b u,b≠e->s.heap.get? b=some u->h'.get? b=some u)(heo:∃u,h'.get? e=some u)
  (new:ObjOk X.prog X.w (upd H x o) h' x o):Inv X pins σ (upd H x o) { s with heap:=h',toks:=t' }:=I.un (Un.write mu he k heo) (I.hok.write mu he k heo new)
theorem Inv.pins_of (I:Inv X pins σ H s)(h:∀p∈pins',s.heap.get? p.1=some p.2/\H p.1=none/\p.1≠X.env.locals/\p.1∉X.fs/\∀v,p.2.data≠.cell v):Inv X pins' σ H s:=
 ⟨I.ok,I.os,I.bare,I.base,I.loc,I.cell,I.free,I.freeC,fun p hp=>(dI hp).elim (fun z=>I.pin p (dL _ z)) (h p),I.hok,I.len⟩
theorem oh {N:List Str}(hN:N.Nodup){i j:Nat}{x:Str}(a:N[i]? = some x)(b:N[j]? = some x):i=j:=by
 obtain⟨h1,e1⟩:=dN a;obtain⟨h2,e2⟩:=dN b;exact (List.getElem_inj hN).mp (e1.trans e2.symm)
theorem Dq {M:Model}{A:Around}{E:Value->Shared->Prop}{i:Nat}{x:Str}{v:V}{u:Value}{Q:Unit->Shared->Prop}(I:Inv X pins σ H s)(hN:X.N.Nodup)(hi:X.N[i]? = some x)(hx:Loc X.env.scope x)(r:RelV v u)
  (h:∀s',Inv X pins (σ.set i (some v)) H s'->(∃a,Heap.SameBut a s.heap s'.heap/\(a=X.env.locals\/X.env.cells.lookup x=some a))->Q () s')(hf:X.fn x=true\/X.env.scope.names.lookup x=some .local:=by first | exact .inl rfl | exact .inr rfl | assumption):wpAny M A (storeName X.env x u) Q E s:=by
 obtain⟨m,hn,hl⟩:=id I.loc;have hcls:(X.env.scope.kind == .class||(X.env.scope.kind == .module&&X.env.locals != X.env.globals))=false:=by rw[I.ok.kind]; rfl
 have hiσ:i < σ.length:=by rw[I.len]; exact (dN hi).1
 have cne:=I.cne;have tracked:∀{a:Addr} {h':Heap},(∃o,s.heap.get? a=some o/\H a=none)->Heap.SameBut a s.heap h'->HOk X.prog X.w H h':=fun {a h'} ha hs b ob e=>by
  obtain⟨_,_,hfree⟩:=ha;refine (I.hok b ob e).stay (fun c w' hc q=>(hs.2 c ?_).trans q) (fun _ q=>q) fun _ _ q=>q;rintro rfl;rcases hc with rfl | hc
  ·rw[hfree] at e; cases e
  ·rw[hfree] at hc; cases hc
 rcases hx with hk | hk
 ·refine wpAny_storeName_local hk hn (fun h' hn' hs=>?_) hcls;obtain⟨oL,_,_,hoL,_⟩:=id hn;refine h _ ⟨I.ok,I.os,I.bare,⟨fun b o e n hb hx=>?_,fun b o e n hb hx=>?_,I.base.free,fun b o e hx=>?_,I.base.tups,I.base.frzs,I.base.tbls⟩,⟨_,hn',fun j y v' e1 e2 e3=>?_⟩,fun y c e=>?_,I.free,I.freeC,fun p hp=>?_,tracked ⟨oL,hoL,I.free⟩ hs,by simpa using I.len⟩ ⟨_,hs,.inl rfl⟩
  ·exact (hs.2 b (cQ (dW (bw e) I.ok.above))).trans (I.base.keep b o e n hb hx)
  ·obtain⟨sl,e1⟩:=I.base.slot b o e n hb hx;exact⟨sl,(hs.2 b (cQ (dW (bw e) I.ok.above))).trans e1⟩
  ·obtain⟨o',e1⟩:=I.base.there b o e hx;exact⟨o',(hs.2 b (cQ (dW (bw e) I.ok.above))).trans e1⟩
  ·by_cases hj:j=i
   ·subst hj;rw[hi] at e1; cases e1;rw[List.getElem?_set_self hiσ] at e2;cases e2;exact⟨u,r,.inl ⟨hk,by simp⟩⟩
   ·rw[List.getElem?_set_ne (Ne.symm hj)] at e2;obtain⟨u',r',q⟩:=hl j y v' e1 e2 e3;refine⟨u',r',?_⟩;rcases q with ⟨k,e⟩ | ⟨k,c,e,z⟩
    ·refine .inl ⟨k,?_⟩;have:y≠x:=fun e=>hj (oh hN e1 (e ▸ hi));simp[this,e]
    ·exact .inr ⟨k,c,e,z.sameBut hs (cne y c e)⟩
  ·obtain⟨w',z⟩:=I.cell y c e;exact⟨w',z.sameBut hs (cne y c e)⟩
  ·obtain⟨e,n,ne,nf,d⟩:=I.pin p hp;exact⟨(hs.2 p.1 ne).trans e,n,ne,nf,d⟩
 ·have hfn:X.fn x=true:=by
   rcases hf with z | z
   ·exact z
   ·rw[z] at hk; cases hk
  obtain⟨c,hc⟩:=I.ok.has x (.inl hk);obtain⟨w',z⟩:=I.cell x c hc;refine wpAny_storeName_cell I.ok.kind hk hc z (fun h' hc' hs=>?_);obtain⟨oc,hoc,hocd⟩:=id z;refine h { s with heap:=h' } ⟨I.ok,I.os,I.bare,⟨fun b o e n hb hx=>?_,fun b o e n hb hx=>?_,I.base.free,fun b o e hx=>?_,I.base.tups,I.base.frzs,I.base.tbls⟩,⟨m,hn.sameBut hs (Ne.symm (cne x c hc)),fun j y v' e1 e2 e3=>?_⟩,fun y c' e=>?_,I.free,I.freeC,fun p hp=>?_,tracked ⟨oc,hoc,I.freeC x c hc⟩ hs,by simpa using I.len⟩ ⟨c,hs,.inr hc⟩
  ·exact (hs.2 b (cQ (dW (bw e) (I.ok.cab x c hfn hc)))).trans (I.base.keep b o e n hb hx)
  ·obtain⟨sl,e1⟩:=I.base.slot b o e n hb hx;exact⟨sl,(hs.2 b (cQ (dW (bw e) (I.ok.cab x c hfn hc)))).trans e1⟩
  ·obtain⟨o',e1⟩:=I.base.there b o e hx;exact⟨o',(hs.2 b (cQ (dW (bw e) (I.ok.cab x c hfn hc)))).trans e1⟩
  ·by_cases hj:j=i
   ·subst hj;rw[hi] at e1; cases e1;rw[List.getElem?_set_self hiσ] at e2;cases e2;exact⟨u,r,.inr ⟨.inl hk,c,hc,hc'⟩⟩
   ·rw[List.getElem?_set_ne (Ne.symm hj)] at e2;obtain⟨u',r',q⟩:=hl j y v' e1 e2 e3;refine⟨u',r',?_⟩;rcases q with q | ⟨k,c',e,z'⟩
    ·exact .inl q
    ·refine .inr ⟨k,c',e,z'.sameBut hs ?_⟩;rintro rfl;exact hj (oh hN e1 (I.ok.inj _ _ _ e hc ▸ hi))
  ·by_cases hcc:c'=c
   ·subst hcc; exact⟨_,hc'⟩
   ·obtain⟨w2,z2⟩:=I.cell y c' e;exact⟨w2,z2.sameBut hs hcc⟩
  ·obtain⟨e,n,ne,nf,d⟩:=I.pin p hp;refine⟨(hs.2 p.1 ?_).trans e,n,ne,nf,d⟩;intro q;rw[q,hoc] at e;have q':oc=p.2:=bV e;exact d w' (by rw[<-q']; exact hocd)
theorem qW (I:Inv X pins σ H s)(hN:X.N.Nodup)(hi:X.N[i]? = some x)(hx:Loc X.env.scope x)(r:RelV v u)
  (h:∀s',Inv X pins (σ.set i (some v)) H s'->Q () s')(hf:X.fn x=true\/X.env.scope.names.lookup x=some .local:=by first | exact .inl rfl | exact .inr rfl | assumption):wpAny M A (storeName X.env x u) Q E s:=
 Dq I hN hi hx r (fun s' I' _=>h s' I') hf
theorem Inv.call' (I:Inv X pins σ H s)(ho:s'.os=s.os)(u:Un (fF X.stack) ch H H' s.heap s'.heap)(hok:HOk X.prog X.w H' s'.heap)(hg:AllBare s'.gens)
  (hch:∀b∈ch,(b∈X.ex\/X.s₀.heap.objs.size<=b)/\b≠X.env.locals/\(∀x c,X.env.cells.lookup x=some c->c≠b)/\∀p∈X.pn++pins,p.1≠b):Inv X pins σ H' s':=by
 obtain⟨h',g',d',t',o'⟩:=s';have e:o'=s.os:=ho;subst e;exact I.call (g':=g') (t':=t') (d':=d') u hok hg hch
end
abbrev XK:=Value->Option Addr->Hp->Prop
noncomputable abbrev St:=List (Option V)
abbrev VK:=V->Hp->Prop
abbrev TE:=St->Hp->VK->Prop
abbrev TT:=St->Hp->(Bool->Hp->Prop)->Prop
abbrev TA:=St->Hp->(List V->Hp->Prop)->Prop
structure Ends where
 nx:St->Hp->Prop
 rt:VK
 bk:St->Hp->Prop:=fun _ _=>False
 ct:St->Hp->Prop:=fun _ _=>False
abbrev TS:=Ends->St->Hp->Prop
def EP (X:Cx)(pins:List (Addr×Obj))(σ:St)(Q:VK)(u:Value)(s':Shared):Prop:=∃v H',Inv X pins σ H' s'/\RelV v u/\Q v H'
def TP (X:Cx)(pins:List (Addr×Obj))(σ:St)(Q:Bool->Hp->Prop)(b:Bool)(s':Shared):Prop:=∃H',Inv X pins σ H' s'/\Q b H'
def AP (X:Cx)(pins:List (Addr×Obj))(σ:St)(Q:List V->Hp->Prop)(us:List Value)(s':Shared):Prop:=∃vs H',Inv X pins σ H' s'/\Vals vs us/\Q vs H'
def SP (X:Cx)(pins:List (Addr×Obj))(D:Ends)(f:Flow)(s':Shared):Prop:=
 match f with
 | .next=>∃σ' H',Inv X pins σ' H' s'/\D.nx σ' H'
 | .brk=>∃σ' H',Inv X pins σ' H' s'/\D.bk σ' H'
 | .cont=>∃σ' H',Inv X pins σ' H' s'/\D.ct σ' H'
 | .ret u=>∃v σ' H',Inv X pins σ' H' s'/\RelV v u/\D.rt v H'
def PE (X:Cx)(e:Expr)(t:TE):Prop:=
 ∀(pins:List (Addr×Obj)) (s:Shared) (σ:St) (H:Hp) (Q:VK),Inv X pins σ H s->t σ H Q->wpAny (model X.prog X.w) X.A (eval e X.env) (EP X pins σ Q) X.xe s
def PT (X:Cx)(e:Expr)(t:TT):Prop:=
 ∀(pins:List (Addr×Obj)) (s:Shared) (σ:St) (H:Hp) (Q:Bool->Hp->Prop),Inv X pins σ H s->t σ H Q->wpAny (model X.prog X.w) X.A (isTrue e X.env (eval e X.env)) (TP X pins σ Q) X.xe s
def PW (X:Cx)(e:Expr)(t:TT):Prop:=
 ∀(whole:Sem Value) (pins:List (Addr×Obj)) (s:Shared) (σ:St) (H:Hp) (Q:Bool->Hp->Prop),Inv X pins σ H s->t σ H Q->wpAny (model X.prog X.w) X.A (isTrue e X.env whole) (TP X pins σ Q) X.xe s
theorem PW.pt (h:PW X e t):PT X e t:=h _
def PA (X:Cx)(es:List Expr)(t:TA):Prop:=
 ∀(pos:Pos) (pins:List (Addr×Obj)) (s:Shared) (σ:St) (H:Hp) (Q:List V->Hp->Prop),Inv X pins σ H s->t σ H Q->wpAny (model X.prog X.w) X.A (spliced (backTo pos (starEach es X.env))) (AP X pins σ Q) X.xe s
def PS (X:Cx)(st:Stmt)(t:TS):Prop:=
 ∀(pins:List (Addr×Obj)) (s:Shared) (σ:St) (H:Hp) (D:Ends),Inv X pins σ H s->t D σ H->wpAny (model X.prog X.w) X.A (exec st X.env) (SP X pins D) X.xe s
def PSs (X:Cx)(st:List Stmt)(t:TS):Prop:=
 ∀(pins:List (Addr×Obj)) (s:Shared) (σ:St) (H:Hp) (D:Ends),Inv X pins σ H s->t D σ H->wpAny (model X.prog X.w) X.A (execs st X.env) (SP X pins D) X.xe s
theorem aH (h:wpAny M A t Q E s)(hQ:∀a s,Q a s->Q' a s):wpAny M A t Q' E s:=wpAny_mono h hQ fun _ _ x=>x
end L2
namespace L2
open PySem PySem.Spec PyProof.Rows
section
variable {X:Cx}
def bR (i:Nat):TE:=fun σ H Q=>∃v,σ[i]? = some (some v)/\Q v H
def tC (v:V):TE:=fun _ H Q=>Q v H
theorem pz (hN:X.N[i]? = some x)(hv:nX X.env.scope x)(hd:(x == ("__debug__" : Str))=false:=by decide)(hcd:(x == ("__classdict__" : Str))=false:=by decide):PE X (.Name x pos) (bR i):=by
 intro pins s σ H Q I h;obtain⟨v,e,h⟩:=h;obtain⟨m,hn,hl⟩:=I.loc;obtain⟨u,r,l⟩:=hl i x v hN e hv;have fin:EP X pins σ Q u s:=⟨v,H,I,r,h⟩
 rcases l with ⟨hk,hm⟩ | ⟨hk,c,hc,hcell⟩
 ·exact wpAny_Name (wpAny_loadName_local I.ok.kind hk hn hm fin) hd
 ·rcases hk with hk | hk
  ·exact wpAny_Name (wpAny_loadName_cell I.ok.kind hk hc hcell fin) hd
  ·exact wpAny_Name (wpAny_loadName_free I.ok.kind hk hc hcell fin hcd) hd
theorem AX {i j pos}:PE X (.Constant (.int i) j pos) (tC (.int i)):=fun _ _ _ H _ I h=>wpAny_Constant_int ⟨.int i,H,I.tok _,⟨_,rfl⟩,h⟩
theorem yX {b j pos}:PE X (.Constant (.bool b) j pos) (tC (.bl b)):=fun _ _ _ H _ I h=>Constant_bool ⟨.bl b,H,I,rfl,h⟩
theorem AD {j pos}:PE X (.Constant .none j pos) (tC .non):=fun _ _ _ H _ I h=>Constant_none ⟨.non,H,I,rfl,h⟩
theorem BB {x j pos}:PE X (.Constant (.str x) j pos) (tC (.str x)):=fun _ _ _ H _ I h=>Calls.Constant_str ⟨.str x,H,I.tok _,⟨_,rfl⟩,h⟩
def Gl (X:Cx)(x:Str):Prop:=X.env.kindOf x=some .globalImplicit
theorem iN (I:Inv X pins σ H s)(hg:Gl X x)(hm:X.mg x=some u)(h:Q u s)
  (hd:(x == ("__debug__" : Str))=false:=by decide):wpAny (model X.prog X.w) X.A (eval (.Name x pos) X.env) Q E s:=
 Calls.Name_function_global I.ok.kind hg (Calls.loadGlobal_global (by rw[I.ok.glob]; exact I.mod.glob.keeps I.bk) hm h) hd
theorem i7 (I:Inv X pins σ H s)(hg:Gl X x)(hm:X.mg x=none)(hv:bootBuiltins x=some u)(h:Q u s)
  (hn:x ≠ "__name__":=by decide)(hd:(x == ("__debug__" : Str))=false:=by decide):wpAny (model X.prog X.w) X.A (eval (.Name x pos) X.env) Q E s:=by
 obtain⟨mb,h1,h2⟩:=I.mod.blt;exact Calls.Name_function_global I.ok.kind hg (Calls.loadGlobal_builtin (by rw[I.ok.glob]; exact I.mod.glob.keeps I.bk) hm (by rw[I.ok.blt]; exact h1.keeps I.bk) ((h2 x hn).trans hv) h) hd
theorem ui (hg:Gl X x)(hm:X.mg x=some u)(r:RelV v u)(hd:(x == ("__debug__" : Str))=false:=by decide):PE X (.Name x pos) (tC v):=
 fun _ _ _ H _ I h=>iN I hg hm ⟨v,H,I,r,h⟩ hd
theorem Az (hg:Gl X x)(hm:X.mg x=none)(hv:bootBuiltins x=some u)(r:RelV v u)(hn:x ≠ "__name__":=by decide)(hd:(x == ("__debug__" : Str))=false:=by decide):PE X (.Name x pos) (tC v):=
 fun _ _ _ H _ I h=>i7 I hg hm hv ⟨v,H,I,r,h⟩ hn hd
variable {a b:Expr}{ta tb:TE}{pos:Pos}
def PC (X:Cx)(op:CmpOp)(a b:Expr)(t:TE):Prop:=
 ∀(pins:List (Addr×Obj)) (s:Shared) (σ:St) (H:Hp) (Q:VK),Inv X pins σ H s->t σ H Q ->
  wpAny (model X.prog X.w) X.A (eval a X.env) (fun v s₁=>wpAny (model X.prog X.w) X.A (eval b X.env) (fun u s₂=>wpAny (model X.prog X.w) X.A (compareOp op v u) (EP X pins σ Q) X.xe s₂) X.xe s₁) X.xe s
theorem wT (b:Expr)(h:op≠.In)(h2:op≠.NotIn):behindInMarks op b=false:=by
 have e1:(op == CmpOp.In)=false:=by cases op <;> first | rfl | exact absurd rfl h
 have e2:(op == CmpOp.NotIn)=false:=by cases op <;> first | rfl | exact absurd rfl h2
 cases b <;> simp[behindInMarks,e1,e2]
def sS (ta:TE):TE:=fun σ H Q=>ta σ H fun x H1=>Q (.bl (decide (x=.non))) H1
def lN (ta:TE):TE:=fun σ H Q=>ta σ H fun x H1=>Q (.bl (!decide (x=.non))) H1
theorem RelV.none_iff (r:RelV x v):(v == Value.none)=decide (x=.non):=by
 cases x with
 | non=>cases r; rfl
 | bl _=>cases r; rfl
 | int _=>obtain⟨t,rfl⟩:=r; rfl
 | str _=>obtain⟨t,rfl⟩:=r; rfl
 | byt _=>obtain⟨t,rfl⟩:=r; rfl
 | flt _=>obtain⟨t,rfl⟩:=r; rfl
 | ref _=>cases r; rfl
 | ty _=>cases r; rfl
theorem uc {j pos'}(ha:PE X a ta):PC X .Is a (.Constant .none j pos') (sS ta):=by
 intro pins s σ H Q I h;refine aH (ha pins s σ H _ I h) fun v s1 hZz=>?_;obtain⟨x,H1,I1,r1,q1⟩:=hZz;exact Constant_none (is_none_gen ⟨.bl _,H1,I1,by rw[r1.none_iff]; rfl,q1⟩)
theorem uk {j pos'}(ha:PE X a ta):PC X .IsNot a (.Constant .none j pos') (lN ta):=by
 intro pins s σ H Q I h;refine aH (ha pins s σ H _ I h) fun v s1 hZz=>?_;obtain⟨x,H1,I1,r1,q1⟩:=hZz;exact Constant_none (isnot_none_gen ⟨.bl _,H1,I1,by rw[r1.none_iff]; rfl,q1⟩)
def tB (t:TE):TT:=fun σ H Q=>t σ H fun x H1=>∃c,x=.bl c/\Q c H1
theorem uV (h:PC X op a b t)(h1:behindInMarks op b=false:=by first | exact wT _ (by decide) (by decide) | rfl):PE X (.Compare a [op] [b] pos) t:=fun pins s σ H Q I hw=>wpAny_Compare1 (h pins s σ H Q I hw) h1
theorem vW (h:PC X op a b t)(h1:behindInMarks op b=false:=by first | exact wT _ (by decide) (by decide) | rfl):PT X (.Compare a [op] [b] pos) (tB t):=by
 intro pins s σ H Q I hw;refine wpAny_isTrue_Compare1 (aH (h pins s σ H _ I hw) fun v s1 h1=>aH h1 fun u s2 h2=>aH h2 fun c s3 hZz=>?_) h1;obtain⟨x,H1,I1,r1,q1⟩:=hZz;obtain⟨d,rfl,q⟩:=q1;cases r1;exact wpAny_truthy_bool ⟨H1,I1,q⟩
theorem zY (h:PE X e t)(he:∀whole,isTrue e X.env whole=(do let v <-whole; standAt e.pos; holding [v] (truthy v)):=by intro _; rfl):PT X e (tB t):=by
 intro pins s σ H Q I hw;refine isTrue_plain (aH (h pins s σ H _ I hw) fun v s1 hZz=>?_) (he _);obtain⟨x,H1,I1,r1,q1⟩:=hZz;obtain⟨d,rfl,q⟩:=q1;cases r1;exact wpAny_truthy_bool ⟨H1,I1,q⟩
variable {tA tB':TT}{rest:List Expr}
def kE (t u:TT):TT:=fun σ H Q=>t σ H fun c H1=>if c=true then u σ H1 Q else Q false H1
def qL (t u:TT):TT:=fun σ H Q=>t σ H fun c H1=>if c=true then Q true H1 else u σ H1 Q
def kB (t:TT):TT:=fun σ H Q=>t σ H fun c H1=>Q (!c) H1
theorem EI (ha:PT X a tA):PW X (.BoolOp .And [a] pos) tA:=by
 intro wh pins s σ H Q I h;refine isTrue_and (aH (ha pins s σ H Q I h) fun c s1 e=>?_);cases c with
 | true=>exact isTrue_and_nil e
 | false=>exact e
theorem C7 (ha:PT X a tA):PW X (.BoolOp .Or [a] pos) tA:=by
 intro wh pins s σ H Q I h;refine isTrue_or (aH (ha pins s σ H Q I h) fun c s1 e=>?_);cases c with
 | false=>exact isTrue_or_nil e
 | true=>exact e
theorem C0 (ha:PT X a tA)(hb:PW X (.BoolOp .And (b::rest) pos) tB'):PW X (.BoolOp .And (a::b::rest) pos) (kE tA tB'):=by
 intro wh pins s σ H Q I h;refine isTrue_and (aH (ha pins s σ H _ I h) fun c s1 hZz=>?_);obtain⟨H1,I1,q1⟩:=hZz;cases c with
 | true=>exact hb wh pins s1 σ H1 Q I1 q1
 | false=>exact⟨H1,I1,q1⟩
theorem ED (ha:PT X a tA)(hb:PW X (.BoolOp .Or (b::rest) pos) tB'):PW X (.BoolOp .Or (a::b::rest) pos) (qL tA tB'):=by
 intro wh pins s σ H Q I h;refine isTrue_or (aH (ha pins s σ H _ I h) fun c s1 hZz=>?_);obtain⟨H1,I1,q1⟩:=hZz;cases c with
 | true=>exact⟨H1,I1,q1⟩
 | false=>exact hb wh pins s1 σ H1 Q I1 q1
theorem Ao (ha:PT X a tA):PT X (.UnaryOp .Not a pos) (kB tA):=by
 intro pins s σ H Q I h;exact isTrue_not (ha pins s σ H (fun c H1=>Q (!c) H1) I h)
def gX (ta tb:TE):TE:=fun σ H Q=>ta σ H fun x H1=>∃c,x=.bl c/\if c=true then tb σ H1 Q else Q (.bl false) H1
def kN (ta tb:TE):TE:=fun σ H Q=>ta σ H fun x H1=>∃c,x=.bl c/\if c=true then Q (.bl true) H1 else tb σ H1 Q
def mI (ta:TE):TE:=fun σ H Q=>ta σ H fun x H1=>∃c,x=.bl c/\Q (.bl (!c)) H1
theorem Ai {op}(h:PE X a t):PE X (.BoolOp op [a] pos) t:=fun pins s σ H Q I hw=>BoolOp_one (h pins s σ H Q I hw)
theorem Ds (ha:PE X a ta)(hb:PE X (.BoolOp .And (b::rest) pos) tb):PE X (.BoolOp .And (a::b::rest) pos) (gX ta tb):=by
 intro pins s σ H Q I h;refine BoolOp_and (aH (ha pins s σ H _ I h) fun v s1 hZz=>?_);obtain⟨x,H1,I1,r1,q1⟩:=hZz;obtain⟨c,rfl,q1⟩:=q1;cases r1;refine wpAny_truthy_bool ?_;cases c with
 | true=>exact hb pins s1 σ H1 Q I1 q1
 | false=>exact⟨.bl false,H1,I1,rfl,q1⟩
theorem Al (ha:PE X a ta)(hb:PE X (.BoolOp .Or (b::rest) pos) tb):PE X (.BoolOp .Or (a::b::rest) pos) (kN ta tb):=by
 intro pins s σ H Q I h;refine BoolOp_or (aH (ha pins s σ H _ I h) fun v s1 hZz=>?_);obtain⟨x,H1,I1,r1,q1⟩:=hZz;obtain⟨c,rfl,q1⟩:=q1;cases r1;refine wpAny_truthy_bool ?_;cases c with
 | false=>exact hb pins s1 σ H1 Q I1 q1
 | true=>exact⟨.bl true,H1,I1,rfl,q1⟩
theorem El (ha:PE X a ta):PE X (.UnaryOp .Not a pos) (mI ta):=by
 intro pins s σ H Q I h;refine UnaryOp_ (aH (ha pins s σ H _ I h) fun v s1 hZz=>?_);obtain⟨x,H1,I1,r1,q1⟩:=hZz;obtain⟨c,rfl,q1⟩:=q1;cases r1;exact not_of (wpAny_truthy_bool ⟨.bl (!c),H1,I1,rfl,q1⟩)
def sh (t:TT)(ta tb:TE):TE:=fun σ H Q=>t σ H fun c H1=>if c=true then ta σ H1 Q else tb σ H1 Q
theorem AU (hc:PT X c tA)(ha:PE X a ta)(hb:PE X b tb):PE X (.IfExp c a b pos) (sh tA ta tb):=by
 intro pins s σ H Q I h;refine wpAny_IfExp (aH (hc pins s σ H _ I h) fun d s1 hZz=>?_);obtain⟨H1,I1,q1⟩:=hZz;cases d with
 | true=>exact ha pins s1 σ H1 Q I1 q1
 | false=>exact hb pins s1 σ H1 Q I1 q1
end
end L2
namespace L2
open PySem PySem.Spec PyProof.Rows
def SqL (K:aL)(H:Hp)(a:Addr)(xs:List V):Prop:=
 Rd H a (.lst xs) \/
  ∃(o:Obj) (its:Array Value) (n:Nat),K.lookup a=some o/\o.cls=.type "list" /\ o.dict=none/\o.data=.seq its n/\its.size<=sizeLine/\Vals xs its.toList
def SqT (K:aL)(H:Hp)(a:Addr)(xs:List V):Prop:=
 Rd H a (.tup xs) \/
  ∃(o:Obj) (its:Array Value) (n:Nat),K.lookup a=some o/\o.cls=.type "tuple" /\ o.dict=none/\o.data=.seq its n/\its.size<=sizeLine/\Vals xs its.toList
noncomputable def rb:Value->Option V
 | .none=>some .non
 | .bool b=>some (.bl b)
 | .int i _=>some (.int i)
 | .str x _=>some (.str x)
 | .bytes b _=>some (.byt b)
 | .float b _=>some (.flt b)
 | .ref a=>some (.ref a)
 | .type n=>some (.ty n)
 | _=>none
theorem RelV.abs (r:RelV x u):rb u=some x:=by
 cases x with
 | non=>cases r; rfl
 | bl _=>cases r; rfl
 | int _=>obtain⟨t,rfl⟩:=r; rfl
 | str _=>obtain⟨t,rfl⟩:=r; rfl
 | byt _=>obtain⟨t,rfl⟩:=r; rfl
 | flt _=>obtain⟨t,rfl⟩:=r; rfl
 | ref _=>cases r; rfl
 | ty _=>cases r; rfl
theorem RelV.inj (r:RelV x u)(q:RelV y u):x=y:=bV (r.abs.symm.trans q.abs)
theorem Vals.inj:∀{xs ys:List V} {us:List Value},Vals xs us->Vals ys us->xs=ys
 | _,_,_,.nil,.nil=>rfl
 | _,_,_,.cons r t,.cons r' t'=>by rw[r.inj r',Vals.inj t t']
section
variable {X:Cx}{pins:List (Addr×Obj)}{σ:St}{H:Hp}{s:Shared}{a:Addr}{xs ys:List V}
theorem SqT.of {K:aL}(h:H a=some (.tup xs)):SqT K H a xs:=.inl (.inl h)
theorem Inv.list (I:Inv X pins σ H s)(h:SqL X.K H a xs):∃its:List Value,Vals xs its/\PlainL s.heap a its.toArray/\xs.length<=sizeLine:=by
 rcases h with h | ⟨o,its,n,hk,hc,hd,hs,hz,r⟩
 ·obtain⟨z,its,n,r,e⟩:=h.ok I.hok;exact⟨its,r,⟨_,n,e,rfl,rfl,rfl⟩,z⟩
 ·refine⟨its.toList,r,⟨o,n,I.kIn a o hk,hc,hd,by simpa using hs⟩,?_⟩;have e:=r.length;simp only[Array.length_toList] at e;omega
theorem Inv.tupN (I:Inv X pins σ H s)(h:SqT X.K H a xs):∃its:List Value,Vals xs its/\TupN s.heap a its.toArray/\xs.length<=sizeLine:=by
 rcases h with h | ⟨o,its,n,hk,hc,hn,hs,hz,r⟩
 ·obtain⟨z,its,r,p⟩:=h.ok I.hok;exact⟨its,r,p,z⟩
 ·refine⟨its.toList,r,⟨o,I.kIn a o hk,hc,⟨n,by simpa using hs⟩,hn⟩,?_⟩;have e:=r.length;simp only[Array.length_toList] at e;omega
theorem Inv.tuple (I:Inv X pins σ H s)(h:SqT X.K H a xs):∃its:List Value,Vals xs its/\IsTup s.heap a its.toArray/\xs.length<=sizeLine:=
 let ⟨its,r,p,z⟩:=I.tupN h
 ⟨its,r,p.tup,z⟩
theorem Inv.list_inj (I:Inv X pins σ H s)(h:SqL X.K H a xs)(h':SqL X.K H a ys):xs=ys:=by
 obtain⟨its,r,⟨o,n,e,_,_,d⟩,_⟩:=I.list h;obtain⟨its',r',⟨o',n',e',_,_,d'⟩,_⟩:=I.list h';rw[e] at e'; cases e';rw[d] at d';injection d' with d1 _;have:its=its':=by simpa using congrArg Array.toList d1
 subst this;exact r.inj r'
theorem Inv.tuple_inj (I:Inv X pins σ H s)(h:SqT X.K H a xs)(h':SqT X.K H a ys):xs=ys:=by
 obtain⟨its,r,⟨o,e,_,n,d⟩,_⟩:=I.tuple h;obtain⟨its',r',⟨o',e',_,n',d'⟩,_⟩:=I.tuple h';rw[e] at e'; cases e';rw[d] at d';injection d' with d1 _;have:its=its':=by simpa using congrArg Array.toList d1
 subst this;exact r.inj r'
end
noncomputable abbrev Cx.wish (X:Cx)(E:Value->Shared->Prop):Cx:={ X with xe:=E }
noncomputable abbrev Cx.nox (X:Cx):Cx:=X.wish fun _ _=>False
theorem Cx.Ok.wish {X:Cx}(ok:X.Ok)(E:Value->Shared->Prop):(X.wish E).Ok:=
 ⟨ok.mod,ok.kind,ok.glob,ok.blt,ok.above,ok.inj,ok.has,ok.cab,ok.hd,ok.frames,ok.stk,ok.exf,ok.bs,ok.bsz,ok.noex,ok.exfs,ok.funs,ok.frf⟩
theorem Cx.Ok.unwish {X:Cx}{E:Value->Shared->Prop}(ok:(X.wish E).Ok):X.Ok:=
 ⟨ok.mod,ok.kind,ok.glob,ok.blt,ok.above,ok.inj,ok.has,ok.cab,ok.hd,ok.frames,ok.stk,ok.exf,ok.bs,ok.bsz,ok.noex,ok.exfs,ok.funs,ok.frf⟩
section
variable {X:Cx}{pins:List (Addr×Obj)}{σ:St}{H:Hp}{s:Shared}{E:Value->Shared->Prop}
theorem Inv.wish (I:Inv X pins σ H s)(E:Value->Shared->Prop):Inv (X.wish E) pins σ H s:=⟨I.ok.wish E,I.os,I.bare,I.base,I.loc,I.cell,I.free,I.freeC,I.pin,I.hok,I.len⟩
theorem Inv.unwish (I:Inv (X.wish E) pins σ H s):Inv X pins σ H s:=⟨I.ok.unwish,I.os,I.bare,I.base,I.loc,I.cell,I.free,I.freeC,I.pin,I.hok,I.len⟩
theorem PE.nox (h:PE X.nox e t):PE X e t:=fun pins s σ H Q I hw=>
 wpAny_mono (h pins s σ H Q (I.wish _) hw) (fun _ _ ⟨v,H',I',r,q⟩=>⟨v,H',I'.unwish,r,q⟩) fun _ _ z=>False.elim z
end
section
variable {X:Cx}{st:Stmt}{rest:List Stmt}{t u:TS}{e:Expr}{te:TE}{pos:Pos}
def jx:TS:=fun D σ H=>D.nx σ H
def pN (t u:TS):TS:=fun D σ H=>t { D with nx:=u D } σ H
theorem Ft:PSs X [] jx:=fun _ _ σ H _ I h=>wpAny_execs_nil ⟨σ,H,I,h⟩
theorem BN (h1:PS X st t)(h2:PSs X rest u):PSs X (st::rest) (pN t u):=by
 intro pins s σ H D I h;refine wpAny_execs_cons (aH (h1 pins s σ H { D with nx:=u D } I h) fun f s1 q=>?_);cases f with
 | next=>
  obtain⟨σ',H',I',q⟩:=q;exact h2 pins s1 σ' H' D I' q
 | ret v=>exact q
 | brk=>exact q
 | cont=>exact q
theorem xF (h1:PS X st t):PSs X [st] t:=by
 intro pins s σ H D I h;refine wpAny_execs_cons (aH (h1 pins s σ H D I h) fun f s1 q=>?_);cases f with
 | next=>exact wpAny_execs_nil q
 | ret v=>exact q
 | brk=>exact q
 | cont=>exact q
def kJ:TS:=fun D σ H=>D.bk σ H
def ma:TS:=fun D σ H=>D.ct σ H
theorem DP:PS X (.Pass pos) jx:=fun _ _ σ H _ I h=>wpAny_Pass ⟨σ,H,I,h⟩
theorem GV:PS X (.Break pos) kJ:=fun _ _ σ H _ I h=>wpAny_Break ⟨σ,H,I,h⟩
theorem zB:PS X (.Continue pos) ma:=fun _ _ σ H _ I h=>wpAny_Continue ⟨σ,H,I,h⟩
theorem Inv.quiet (I:Inv X pins σ H s):interactive X.env=false:=by simp[interactive,I.ok.kind]
def cD (te:TE):TS:=fun D σ H=>te σ H fun _ H1=>D.nx σ H1
theorem kX (he:PE X e te)(hs:swapsWith e none pos.line X.env=pure false:=by rfl):PS X (.Expr e pos) (cD te):=by
 intro pins s σ H D I h;exact wpAny_Expr_any (aH (he pins s σ H _ I h) fun v s1 ⟨x,H1,I1,r1,q1⟩=>⟨σ,H1,I1,q1⟩) I.quiet hs
def pU (te:TE):TS:=fun D σ H=>te σ H D.rt
theorem wQ (he:PE X e te):PS X (.Return (some e) pos) (pU te):=by
 intro pins s σ H D I h;exact wpAny_Return_some (aH (he pins s σ H _ I h) fun v s1 ⟨x,H1,I1,r1,q1⟩=>⟨x,σ,H1,I1,r1,q1⟩)
def m9:TS:=fun D _ H=>D.rt .non H
theorem Ac:PS X (.Return none pos) m9:=fun _ _ σ H _ I h=>wpAny_Return_none ⟨.non,σ,H,I,rfl,h⟩
def j6 (c:TT)(t u:TS):TS:=fun D σ H=>c σ H fun b H1=>if b=true then t D σ H1 else u D σ H1
theorem BD (hc:PT X c tc)(ha:PSs X a t)(hb:PSs X b u):PS X (.If c a b pos) (j6 tc t u):=by
 intro pins s σ H D I h;refine wpAny_If (aH (hc pins s σ H _ I h) fun d s1 hZz=>?_);obtain⟨H1,I1,q1⟩:=hZz;cases d with
 | true=>exact ha pins s1 σ H1 D I1 q1
 | false=>exact hb pins s1 σ H1 D I1 q1
end
abbrev TG:=V->St->Hp->(St->Hp->Prop)->Prop
abbrev lC:=List V->St->Hp->(St->Hp->Prop)->Prop
def PG (X:Cx)(target:Expr)(t:TG):Prop:=
 ∀(pins:List (Addr×Obj)) (s:Shared) (σ:St) (H:Hp) (v:V) (u:Value) (Q:St->Hp->Prop),Inv X pins σ H s->RelV v u->t v σ H Q ->
  wpAny (model X.prog X.w) X.A (assign target X.env u) (fun _ s'=>∃σ' H',Inv X pins σ' H' s'/\Q σ' H') X.xe s
def mf (X:Cx)(ts:List Expr)(t:lC):Prop:=
 ∀(pins:List (Addr×Obj)) (s:Shared) (σ:St) (H:Hp) (vs:List V) (us:List Value) (Q:St->Hp->Prop),Inv X pins σ H s->Vals vs us->t vs σ H Q ->
  wpAny (model X.prog X.w) X.A (assignInOrder ((assignEach ts X.env).map (·.2)) us) (fun _ s'=>∃σ' H',Inv X pins σ' H' s'/\Q σ' H') X.xe s
noncomputable abbrev sr:=V->V->V->Hp->(Hp->Prop)->Prop
def sP (X:Cx)(t:sr):Prop:=
 ∀(pins:List (Addr×Obj)) (s:Shared) (σ:St) (H:Hp) (o i v:V) (ov iv u:Value) (Q:Hp->Prop),Inv X pins σ H s->RelV o ov->RelV i iv->RelV v u->t o i v H Q ->
  wpAny (model X.prog X.w) X.A (setItem ov iv u) (fun _ s'=>∃H',Inv X pins σ H' s'/\Q H') X.xe s
section
variable {X:Cx}{pos:Pos}
def dA (i:Nat):TG:=fun v σ H Q=>Q (σ.set i (some v)) H
theorem rQ (hN:X.N.Nodup)(hi:X.N[i]? = some x)(hx:Loc X.env.scope x)(hf:X.fn x=true\/X.env.scope.names.lookup x=some .local:=by first | exact .inl rfl | exact .inr rfl | assumption):PG X (.Name x pos) (dA i):=by
 intro pins s σ H v u Q I r h;exact wpAny_assign_Name (qW I hN hi hx r (fun s' I'=>⟨_,H,I',h⟩) hf)
def lK:lC:=fun vs σ H Q=>vs=[]/\Q σ H
def i4 (t:TG)(u:lC):lC:=fun vs σ H Q=>∃v r,vs=v::r/\t v σ H fun σ' H'=>u r σ' H' Q
theorem EA:mf X [] lK:=by
 intro pins s σ H vs us Q I r h;obtain⟨e,h⟩:=h;subst e;cases r;exact assignInOrder_nil ⟨σ,H,I,h⟩
theorem AO (h1:PG X e t)(h2:mf X es u)
  (hs:(assignEach (e::es) X.env).map (·.2)=assign e X.env::(assignEach es X.env).map (·.2):=by rfl):mf X (e::es) (i4 t u):=by
 intro pins s σ H vs us Q I r h;obtain⟨v,vr,e1,h⟩:=h;subst e1;cases r with
 | cons r rr=>
  rw[hs];refine assignInOrder_cons (aH (h1 pins s σ H _ _ _ I r h) fun _ s1 hZz=>?_);obtain⟨σ1,H1,I1,q1⟩:=hZz;exact h2 pins s1 σ1 H1 _ _ Q I1 rr q1
def lD (K:aL)(n:Nat)(t:lC):TG:=fun v σ H Q=>∃a xs,v=.ref a/\SqT K H a xs/\xs.length=n/\t xs σ H Q
theorem ye (hc:X.calm=true)(h:mf X es t)
  (hn:(assignEach es X.env).length=n:=by rfl)(hst:(assignEach es X.env).findIdx? (·.1)=none:=by rfl):PG X (.Tuple es k pos) (lD X.K n t):=by
 intro pins s σ H v u Q I r hw;obtain⟨a,xs,e1,hq,hl,hw⟩:=hw;subst e1;cases r;obtain⟨its,rv,ht,hz⟩:=I.tuple hq;refine assign_Tuple_tuple (I.ok.hd hc) ht (by simp[hn,<-hl,rv.length]) hst fun h' hx=>?_;have I1:Inv X pins σ H { s with heap:=h' }:=I.kept (t':=s.toks) fun b o e=>hx b o (cQ (bw e)) e;exact h pins _ σ H xs _ Q I1 (by simpa using rv) hw
def gW (te:TE)(g:TG):TS:=fun D σ H=>te σ H fun x H1=>g x σ H1 D.nx
theorem uQ (he:PE X e te)(hg:PG X tg g)(hs:swapsWithSole [tg] e pos.line X.env=pure false:=by rfl)(hw:swappedStores [tg] e X.env=pure none:=by rfl)
  (h1:(assignEach [tg] X.env).map (·.2)=[assign tg X.env]:=by rfl):PS X (.Assign [tg] e pos) (gW te g):=by
 intro pins s σ H D I h;refine wpAny_Assign_stores (aH (he pins s σ H _ I h) fun v s1 hZz=>?_) hs hw;obtain⟨x,H1,I1,r1,q1⟩:=hZz;rw[h1];exact aH (hg pins s1 σ H1 x v _ I1 r1 q1) fun _ s2 q=>q
theorem sd (hN:X.N.Nodup)(hi:X.N[i]? = some x)(hx:Loc X.env.scope x)(he:PE X e te)(hs:swapsWith e (some (.Name x pos')) pos.line X.env=pure false:=by rfl)(hf:X.fn x=true\/X.env.scope.names.lookup x=some .local:=by first | exact .inl rfl | exact .inr rfl | assumption) :
  PS X (.Assign [.Name x pos'] e pos) (gW te (dA i)):=by
 intro pins s σ H D I h;refine wpAny_Assign_Name (aH (he pins s σ H _ I h) fun v s1 hZz=>?_) hs;obtain⟨y,H1,I1,r1,q1⟩:=hZz;exact qW I1 hN hi hx r1 (fun s2 I2=>⟨_,H1,I2,q1⟩) hf
end
section
variable {X:Cx}{pos:Pos}
end
structure It where
 go:Nat->Hp->Prop
 yld:Nat->Hp->V->Hp->Prop
 stop:Nat->Hp->Prop
def cJ (X:Cx)(pins:List (Addr×Obj))(H:Hp)(b:Addr):Prop:=
 H b=none/\b≠X.env.locals/\b∉X.fs/\(b∈X.ex\/X.s₀.heap.objs.size<=b)/\(∀x c,X.env.cells.lookup x=some c->c≠b)/\∀p∈X.pn++pins,p.1≠b
theorem Inv.fpOk (I:Inv X pins σ H s)(hb:s.heap.objs.size<=b)(hn:H' b=none):cJ X pins H' b:=by
 refine⟨hn,Nat.ne_of_gt (dW I.lt hb),I.nofs hb,.inr (bK I.sz hb),fun x c e z=>?_,fun p hp z=>?_⟩
 ·obtain⟨v,q⟩:=I.cell x c e;exact absurd (dW q.lt (by rw[z]; exact hb)) (Nat.lt_irrefl _)
 ·exact absurd (dW (bw (I.pin p hp).1) (by rw[z]; exact hb)) (Nat.lt_irrefl _)
structure Turn (P:Program)(w:World)(K:aL)(tg:Expr)(J:It)(fp:List Addr)(it:Addr)(tn:Nat->Heap->Prop):Prop where
 mem:it∈fp
 obj:∀i h,tn i h->∀b∈fp,∃o,h.get? b=some o/\∀v,o.data≠.cell v
 keep:∀i h h',tn i h->(∀b∈fp,∀o,h.get? b=some o->h'.get? b=some o)->tn i h'
 item:∀(X:Cx),X.prog=P->X.w=w->X.K=K->X.calm=true->∀(i:Nat) (pins:List (Addr×Obj)) (s:Shared) (σ:St) (H:Hp) (E:Value->Shared->Prop),Inv X pins σ H s->(∀b∈fp,cJ X pins H b)->tn i s.heap->J.go i H ->
  wpAny (model P w) X.A (pyNext (.ref it)) (fun r s1=>∃u,r=some u /\
   wpAny (model P w) X.A (letOwnedTupleGo tg (.ref it) u) (fun _ s2=>∃x H',Inv X pins σ H' s2/\RelV x u/\J.yld i H x H'/\tn (i+1) s2.heap/\∀b∈fp,H' b=none) E s1) E s
 done:∀(X:Cx),X.prog=P->X.w=w->X.K=K->X.calm=true->∀(i:Nat) (pins:List (Addr×Obj)) (s:Shared) (σ:St) (H:Hp) (E:Value->Shared->Prop),Inv X pins σ H s->(∀b∈fp,cJ X pins H b)->tn i s.heap->J.stop i H ->
  wpAny (model P w) X.A (pyNext (.ref it)) (fun r s1=>r=none/\Inv X pins σ H s1) E s
 self:∀(A:Around) (i:Nat) (s:Shared) (Q:Value->Shared->Prop) (E:Value->Shared->Prop),tn i s.heap->Q (.ref it) s->wpAny (model P w) A (pyIter (.ref it)) Q E s
abbrev TI:=St->Hp->(It->Hp->Prop)->Prop
def uP (X:Cx)(pins:List (Addr×Obj))(σ:St)(tg:Expr)(R:It->Hp->Prop)(itv:Value)(s2:Shared):Prop:=
 ∃(it:Addr) (fp:List Addr) (tn:Nat->Heap->Prop) (J:It) (H':Hp),itv=.ref it/\Inv X pins σ H' s2/\Turn X.prog X.w X.K tg J fp it tn/\tn 0 s2.heap/\(∀b∈fp,cJ X pins H' b)/\R J H'
def PI (X:Cx)(tg iter:Expr)(wi:TI):Prop:=
 ∀(pins:List (Addr×Obj)) (s:Shared) (σ:St) (H:Hp) (R:It->Hp->Prop),Inv X pins σ H s->wi σ H R ->
  wpAny (model X.prog X.w) X.A (eval iter X.env) (fun v s1=>wpAny (model X.prog X.w) X.A (pyIter v) (uP X pins σ tg R) X.xe s1) X.xe s
theorem rH (ho:s.heap.get? it=some o)(hc:o.cls=.type n)(hd:o.data=.fields vs)
    (hn:["enumerate", "zip", "dict_itemiterator", "dict_reverseitemiterator", "odict_iterator", "itertools.zip_longest", "itertools.pairwise"].contains n=false)(hQ:Q () s):wpAny M A (letOwnedTupleGo tg (.ref it) u) Q E s:=by
  unfold letOwnedTupleGo;cases tg <;> first
    | exact aG hQ
    | (cases u <;> first
        | exact aG hQ
        | (refine ai (wpAny_load ho ?_)
           rw[hc,hd];show wpAny M A (if (["enumerate", "zip", "dict_itemiterator", "dict_reverseitemiterator", "odict_iterator", "itertools.zip_longest", "itertools.pairwise"].contains n&&vs[0]? == some (rawInt _))=true then _ else _) Q E s;rw[if_neg (by intro h; rw[hn,Bool.false_and] at h; cases h)];exact aG hQ))
noncomputable def qv (K:aL)(a:Addr):It:=
 ⟨fun i H=>∃xs x,SqL K H a xs/\xs[i]? = some x,fun i H x H'=>H'=H/\∀xs,SqL K H a xs->xs[i]? = some x,fun i H=>∃xs,SqL K H a xs/\xs.length<=i⟩
noncomputable def td (K:aL)(a:Addr):It:=
 ⟨fun i H=>∃xs x,SqT K H a xs/\xs[i]? = some x,fun i H x H'=>H'=H/\∀xs,SqT K H a xs->xs[i]? = some x,fun i H=>∃xs,SqT K H a xs/\xs.length<=i⟩
noncomputable def oK (lo:Int)(n:Nat):It:=⟨fun i _=>i<n,fun i H x H'=>H'=H/\x=.int (lo+i),fun i _=>n<=i⟩
theorem EM {P:Program}{w:World}{K:aL}{tg:Expr}(a it:Addr):Turn P w K tg (qv K a) [it] it (fun i h=>h.IsListIter it a i) where
 mem:=by simp
 obj:=fun i h st b hb=>by
  have e:b=it:=by simpa using hb
  subst e;obtain⟨o,e,c,d⟩:=st;exact⟨o,e,fun v z=>by rw[d] at z; cases z⟩
 keep:=fun i h h' st k=>st.at fun o e=>k it (by simp) o e
 item:=by
  intro X hP hw hK hc i pins s σ H E I hf st hg;subst hP hw hK;obtain⟨xs,x,hq,hx⟩:=hg;obtain⟨its,rv,p,hz⟩:=I.list hq;obtain⟨u,hu,ru⟩:=rv.get hx;obtain⟨f0,f1,f2,f3,f4,f5⟩:=hf it (by simp);refine wpAny_pyNext_list_item st p.isList (x:=u) (by simpa using hu) fun h' st' sb=>?_;have I1:Inv X pins σ H { s with heap:=h' }:=I.turned (t':=s.toks) (fun b o hb e=>(sb.2 b hb).trans e) f0 f1 f3 f4 f5;obtain⟨o,e,c,d⟩:=id st';exact⟨u,rfl,rH (s:={ s with heap:=h' }) e c d (by decide) ⟨x,H,I1,ru,⟨rfl,fun ys hy=>by rw[I.list_inj hy hq]; exact hx⟩,st',fun b hb=>(hf b hb).1⟩⟩
 done:=by
  intro X hP hw hK hc i pins s σ H E I hf st hg;subst hP hw hK;obtain⟨xs,hq,hx⟩:=hg;obtain⟨its,rv,p,hz⟩:=I.list hq;obtain⟨f0,f1,f2,f3,f4,f5⟩:=hf it (by simp);have hl:=rv.length;exact wpAny_pyNext_list_end (I.ok.hd hc) st p.isList (by simp; omega) fun h' eb=>⟨rfl,I.turned (t':=s.toks) (fun b o hb e=>eb b o hb e) f0 f1 f3 f4 f5⟩
 self:=fun _ _ _ _ _ st h=>wpAny_pyIter_listiter st h
theorem CN {P:Program}{w:World}{K:aL}{tg:Expr}(a it:Addr):Turn P w K tg (td K a) [it] it (fun i h=>h.IsTupleIter it a i) where
 mem:=by simp
 obj:=fun i h st b hb=>by
  have e:b=it:=by simpa using hb
  subst e;obtain⟨o,e,c,d⟩:=st;exact⟨o,e,fun v z=>by rw[d] at z; cases z⟩
 keep:=fun i h h' st k=>st.at fun o e=>k it (by simp) o e
 item:=by
  intro X hP hw hK hc i pins s σ H E I hf st hg;subst hP hw hK;obtain⟨xs,x,hq,hx⟩:=hg;obtain⟨its,rv,p,hz⟩:=I.tuple hq;obtain⟨u,hu,ru⟩:=rv.get hx;obtain⟨f0,f1,f2,f3,f4,f5⟩:=hf it (by simp);refine wpAny_pyNext_tuple_item st (show s.heap.IsTuple a its.toArray from p) (x:=u) (by simpa using hu) fun h' st' sb=>?_;have I1:Inv X pins σ H { s with heap:=h' }:=I.turned (t':=s.toks) (fun b o hb e=>(sb.2 b hb).trans e) f0 f1 f3 f4 f5;obtain⟨o,e,c,d⟩:=id st';exact⟨u,rfl,rH (s:={ s with heap:=h' }) e c d (by decide) ⟨x,H,I1,ru,⟨rfl,fun ys hy=>by rw[I.tuple_inj hy hq]; exact hx⟩,st',fun b hb=>(hf b hb).1⟩⟩
 done:=by
  intro X hP hw hK hc i pins s σ H E I hf st hg;subst hP hw hK;obtain⟨xs,hq,hx⟩:=hg;obtain⟨its,rv,p,hz⟩:=I.tuple hq;obtain⟨f0,f1,f2,f3,f4,f5⟩:=hf it (by simp);have hl:=rv.length;exact wpAny_pyNext_tuple_end (I.ok.hd hc) st (show s.heap.IsTuple a its.toArray from p) (by simp; omega) fun h' eb=>⟨rfl,I.turned (t':=s.toks) (fun b o hb e=>eb b o hb e) f0 f1 f3 f4 f5⟩
 self:=fun _ _ _ _ _ st h=>wpAny_pyIter_tupleiter st h
theorem Bj {P:Program}{w:World}{K:aL}{tg:Expr}(it:Addr)(lo:Int)(n:Nat):Turn P w K tg (oK lo n) [it] it (fun i h=>IsRangeIter h it (lo+(i:Nat) * 1) ((n:Int) - (i:Nat)) 1) where
 mem:=by simp
 obj:=fun i h st b hb=>by
  have e:b=it:=by simpa using hb
  subst e;exact⟨_,st,fun v z=>by
   have z':Data.fields _=Data.cell v:=z;cases z'⟩
 keep:=fun i h h' st k=>k it (by simp) _ st
 item:=by
  intro X hP hw hK hc i pins s σ H E I hf st hg;subst hP hw hK;obtain⟨f0,f1,f2,f3,f4,f5⟩:=hf it (by simp);have W:=Walks.range (prog:=X.prog) (w:=X.w) (I.ok.hd hc) it lo 1 n;refine W.item i s _ _ hg st fun v h' tk hv st' kk=>?_;obtain⟨t,rfl⟩:=hv;have I1:Inv X pins σ H { s with heap:=h',toks:=tk }:=I.turned (fun b o hb e=>kk b o (by simpa using hb) e) f0 f1 f3 f4 f5;refine⟨_,rfl,rH (s:={ s with heap:=h',toks:=tk }) (n := "range_iterator") st' rfl rfl (by decide) ⟨.int (lo+i),H,I1,⟨t,?_⟩,⟨rfl,rfl⟩,st',fun b hb=>(hf b hb).1⟩⟩;rw[Int.mul_one]
 done:=by
  intro X hP hw hK hc i pins s σ H E I hf st hg;subst hP hw hK;obtain⟨f0,f1,f2,f3,f4,f5⟩:=hf it (by simp);exact wpAny_pyNext_range_end (I.ok.hd hc) st (by have:n<=i:=hg; omega) fun h' eb=>⟨rfl,I.turned (t':=s.toks) (fun b o hb e=>eb b o hb e) f0 f1 f3 f4 f5⟩
 self:=fun _ _ _ _ _ st h=>wpAny_pyIter_rangeiter st h
end L2
namespace L2
open PySem PySem.Spec PyProof.Rows
section
variable {X:Cx}{tg:Expr}
def mh (K:aL)(tl:TE):TI:=fun σ H R=>tl σ H fun x H1=>∃a,x=.ref a/\(∃xs,SqL K H1 a xs)/\R (qv K a) H1
def rB (K:aL)(tl:TE):TI:=fun σ H R=>tl σ H fun x H1=>∃a,x=.ref a/\(∃xs,SqT K H1 a xs)/\R (td K a) H1
theorem vf {l:Expr}{tl:TE}(hl:PE X l tl):PI X tg l (mh X.K tl):=by
 intro pins s σ H R I h;refine aH (hl pins s σ H _ I h) fun v s1 hZz=>?_;obtain⟨x,H1,I1,r1,q1⟩:=hZz;obtain⟨a,e,⟨xs,hq⟩,q⟩:=q1;subst e;cases r1;obtain⟨its,rv,p,hz⟩:=I1.list hq;refine wpAny_pyIter_list p.isList ?_;refine⟨s1.heap.objs.size,[s1.heap.objs.size],_,_,H1,rfl,I1.kept (t':=s1.toks) fun b o e=>bI _ e,EM a _,⟨_,da _ rfl,rfl,rfl⟩,fun b hb=>?_,q⟩;have e:b=s1.heap.objs.size:=by simpa using hb
 subst e;exact I1.fpOk (bb _) (I1.hok.fresh (bb _))
theorem Fz {l:Expr}{tl:TE}(hl:PE X l tl):PI X tg l (rB X.K tl):=by
 intro pins s σ H R I h;refine aH (hl pins s σ H _ I h) fun v s1 hZz=>?_;obtain⟨x,H1,I1,r1,q1⟩:=hZz;obtain⟨a,e,⟨xs,hq⟩,q⟩:=q1;subst e;cases r1;obtain⟨its,rv,p,hz⟩:=I1.tuple hq;refine wpAny_pyIter_tuple (show s1.heap.IsTuple a its.toArray from p) ?_;refine⟨s1.heap.objs.size,[s1.heap.objs.size],_,_,H1,rfl,I1.kept (t':=s1.toks) fun b o e=>bI _ e,CN a _,⟨_,da _ rfl,rfl,rfl⟩,fun b hb=>?_,q⟩;have e:b=s1.heap.objs.size:=by simpa using hb
 subst e;exact I1.fpOk (bb _) (I1.hok.fresh (bb _))
theorem FF {pins:List (Addr×Obj)}{σ:St}{H:Hp}{s:Shared}{R:It->Hp->Prop}{E:Value->Shared->Prop}{lo hi:Int}{t u v:Tok}{tk:Nat}(I:Inv X pins σ H s)(h1 : -(2 ^ 62)<=lo)(h2:lo<2 ^ 62)(h3 : -(2 ^ 62)<=hi)(h4:hi<2 ^ 62)
  (q:R (oK lo (hi - lo).toNat) H):wpAny (model X.prog X.w) X.A (pyIter (.ref s.heap.objs.size)) (uP X pins σ tg R) E { s with heap:=s.heap.push { cls:=.type "range",data:=.fields #[.int lo t,.int hi u,.int 1 v] },toks:=tk }:=by
 refine wpAny_pyIter_range (IsRange.new ..) (small_one h1 h2 h3 h4) ?_;have I1:Inv X pins σ H { s with heap:=s.heap.push { cls:=.type "range",data:=.fields #[.int lo t,.int hi u,.int 1 v] },toks:=tk }:=I.kept fun b o e=>bI _ e;refine⟨(s.heap.push { cls:=.type "range",data:=.fields #[.int lo t,.int hi u,.int 1 v] }).objs.size,[(s.heap.push { cls:=.type "range",data:=.fields #[.int lo t,.int hi u,.int 1 v] }).objs.size],_,_,H,rfl,
  I1.kept (t':=tk) fun b o e=>bI _ e,Bj _ lo (hi - lo).toNat,?_,fun b hb=>?_,q⟩
 ·have e1:lo+((0:Nat):Int) * 1=lo:=by simp
  have e2:(((hi - lo).toNat:Nat):Int) - ((0:Nat):Int)=Builtin.Range.rangeSize lo hi 1:=by rw[rangeSize_one]; split <;> omega
  show IsRangeIter _ _ (lo+((0:Nat):Int) * 1) ((((hi - lo).toNat:Nat):Int) - ((0:Nat):Int)) 1;rw[e1,e2];exact da _ rfl
 ·have e:b=(s.heap.push { cls:=.type "range",data:=.fields #[.int lo t,.int hi u,.int 1 v] }).objs.size:=by simpa using hb
  subst e;exact I1.fpOk (bb _) (I1.hok.fresh (bb _))
def lR (ta:TA):TI:=fun σ H R=>ta σ H fun vs H1=>∃j:Int,vs=[.int j] /\ -(2 ^ 62)<=j/\j<2 ^ 62/\R (oK 0 j.toNat) H1
theorem G4 {a:Expr}{ta:TA}{p pos:Pos}(hg:Gl X "range")(hm:X.mg "range" = none)(ha:PA X [a] ta)(hs:starEach [a] X.env=[(false,eval a X.env)]:=by rfl):PI X tg (.Call (.Name "range" p) [a] [] pos) (lR ta):=by
 intro pins s σ H R I h;refine Call_ (i7 I hg hm boot_range (PyProof.Rows.callWith_type1 (aH (ha pos pins s σ H _ I h) fun us s1 hZz=>?_) hs rfl));obtain⟨vs,H1,I1,r1,q1⟩:=hZz;obtain⟨j,e,q1,q2,q⟩:=q1;subst e;cases r1 with
 | cons r rr=>
  cases rr;obtain⟨t,rfl⟩:=r;exact call_range_1 (FF I1 (by omega) (by omega) q1 q2 (by simpa using q))
def ku (wi:TI)(g:TG)(tb:TS):TS:=fun D σ H=>wi σ H fun J H1=>∃W:Nat->Nat->St->Hp->Prop,(∃m,W 0 m σ H1)/\∀i m σ H,W i m σ H ->
 (J.stop i H/\D.nx σ H)\/(J.go i H/\∃N:St->Hp->Prop,(∀σ' H',N σ' H'->∃m',m'<m/\W (i+1) m' σ' H')/\∀x H',J.yld i H x H'->g x σ H' fun σ2 H2=>tb { D with nx:=N,ct:=N,bk:=D.nx } σ2 H2)
noncomputable def cO (fp:List Addr)(h:Heap):List (Addr×Obj):=fp.filterMap fun b=>(h.get? b).map fun o=>(b,o)
theorem lA (hb:b∈fp)(e:h.get? b=some o):(b,o)∈cO fp h:=List.mem_filterMap.mpr ⟨b,hb,by rw[e]; rfl⟩
theorem Gc (hp:p∈cO fp h):p.1∈fp/\h.get? p.1=some p.2:=by
 obtain⟨b,hb,e⟩:=List.mem_filterMap.mp hp;cases q:h.get? b with
 | none=>rw[q] at e; cases e
 | some o=>
  rw[q] at e;have e':(b,o)=p:=bV e;subst e';exact⟨hb,q⟩
theorem Inv.pinned (I:Inv X pins σ H s)(hf:∀b∈fp,cJ X pins H b)(ho:∀b∈fp,∃o,s.heap.get? b=some o/\∀v,o.data≠.cell v):Inv X (pins++cO fp s.heap) σ H s:=
 I.pins_of fun p hp=>(dI hp).elim (fun z=>I.pin p (bS _ z)) fun z=>by
  obtain⟨hb,e⟩:=Gc z;obtain⟨f0,f1,f2,_⟩:=hf p.1 hb;obtain⟨o,e',d⟩:=ho p.1 hb;rw[e] at e'; cases e';exact⟨e,f0,f1,f2,d⟩
theorem Inv.unpinned (I:Inv X (pins++pl) σ H s):Inv X pins σ H s:=I.pins_of fun p hp=>I.pin p (bS _ (dL _ hp))
theorem FS (hp:PassesOwn (model X.prog X.w) X.A X.env X.xe)(hc:X.calm=true)(hi:PI X tg iter wi)(hg:PG X tg g)(hb:PSs X body tb)
  (hs:∀x,foldedSetIterable iter X.env x=pure x:=by intro _; rfl):PS X (.For tg iter body [] pos) (ku wi g tb):=by
 intro pins s σ H D I h;refine wpAny_For (aH (hi pins s σ H _ I h) fun v s1 h1=>aH h1 fun itv s2 h2=>?_) hs;obtain⟨it,fp,tn,J,H2,e,I2,T,st2,f2,W,⟨m0,w0⟩,turn⟩:=h2;subst e;have stat:∀{H':Hp},(∀b∈fp,H' b=none)->∀b∈fp,cJ X pins H' b:=fun hn b hb=>⟨hn b hb,(f2 b hb).2⟩
 refine codeAny_forLoop_any (fun n s'=>∃i σ' H',Inv X pins σ' H' s'/\tn i s'.heap/\(∀b∈fp,H' b=none)/\W i n σ' H') ?_ m0 ⟨0,σ,H2,I2,st2,fun b hb=>(f2 b hb).1,w0⟩;rintro n s3 ⟨i,σ3,H3,I3,st3,fr3,w3⟩;rcases turn i n σ3 H3 w3 with ⟨stop,qn⟩ | ⟨go,N,hN,step⟩
 ·refine wpAny_passesOwn hp (aH (T.done X rfl rfl rfl hc i pins s3 σ3 H3 X.xe I3 (stat fr3) st3 stop) fun r s4 hZz=>?_);obtain⟨hr,I4⟩:=hZz;subst hr;exact wpAny_execs_nil ⟨σ3,H3,I4,qn⟩
 ·refine wpAny_passesOwn hp (aH (T.item X rfl rfl rfl hc i pins s3 σ3 H3 X.xe I3 (stat fr3) st3 go) fun r s4 hZz=>?_);obtain⟨u,hr,h4⟩:=hZz;subst hr;refine wpAny_passesOwn hp (aH h4 fun _ s5 hZz=>?_);obtain⟨x,H5,I5,r5,y5,st5,fr5⟩:=hZz;have I5':=I5.pinned (stat fr5) (T.obj _ _ st5);refine wpAny_passesOwn hp (aH (hg _ s5 σ3 H5 x u _ I5' r5 (step x H5 y5)) fun _ s6 hZz=>?_);obtain⟨σ6,H6,I6,q6⟩:=hZz;refine wpAny_passesOwn hp (aH (hb _ s6 σ6 H6 _ I6 q6) fun f s7 q7=>?_);have again:∀{σ7:St} {H7:Hp},Inv X (pins++cO fp s5.heap) σ7 H7 s7->N σ7 H7->∃m,m<n/\∃i σ' H',Inv X pins σ' H' s7/\tn i s7.heap/\(∀b∈fp,H' b=none)/\W i m σ' H':=fun {σ7 H7} I7 n7=>by
   obtain⟨m',hm,w7⟩:=hN σ7 H7 n7;refine⟨m',hm,i+1,σ7,H7,I7.unpinned,T.keep _ _ _ st5 fun b hb o e=>(I7.pin (b,o) (bS _ (bS _ (lA hb e)))).1,fun b hb=>?_,w7⟩;obtain⟨o,e,d⟩:=T.obj _ _ st5 b hb;exact (I7.pin (b,o) (bS _ (bS _ (lA hb e)))).2.1
  cases f with
  | next=>obtain⟨σ7,H7,I7,n7⟩:=q7; exact again I7 n7
  | cont=>obtain⟨σ7,H7,I7,n7⟩:=q7; exact again I7 n7
  | brk=>obtain⟨σ7,H7,I7,q7⟩:=q7; exact⟨σ7,H7,I7.unpinned,q7⟩
  | ret v=>obtain⟨x7,σ7,H7,I7,r7,q7⟩:=q7; exact⟨x7,σ7,H7,I7.unpinned,r7,q7⟩
end
end L2
namespace L2
open PySem PySem.Spec PyProof.Rows
abbrev R2:=V->V->Hp->VK->Prop
def OpR (X:Cx)(f:Value->Value->Sem Value)(r:R2):Prop:=
 ∀(pins:List (Addr×Obj)) (s:Shared) (σ:St) (H:Hp) (x y:V) (v u:Value) (Q:VK),Inv X pins σ H s->RelV x v->RelV y u->r x y H Q ->
  wpAny (model X.prog X.w) X.A (f v u) (EP X pins σ Q) X.xe s
def qu (X:Cx)(f:Value->Sem Value)(r:V->Hp->VK->Prop):Prop:=
 ∀(pins:List (Addr×Obj)) (s:Shared) (σ:St) (H:Hp) (x:V) (v:Value) (Q:VK),Inv X pins σ H s->RelV x v->r x H Q ->
  wpAny (model X.prog X.w) X.A (f v) (EP X pins σ Q) X.xe s
def CallR (X:Cx)(f:Value)(r:List V->Hp->VK->Prop):Prop:=
 ∀(pins:List (Addr×Obj)) (s:Shared) (σ:St) (H:Hp) (xs:List V) (us:List Value) (Q:VK),Inv X pins σ H s->Vals xs us->r xs H Q ->
  wpAny (model X.prog X.w) X.A (call f us) (EP X pins σ Q) X.xe s
def iR (r:R2)(ta tb:TE):TE:=fun σ H Q=>ta σ H fun x H1=>tb σ H1 fun y H2=>r x y H2 Q
def qY (r:V->Hp->VK->Prop)(ta:TE):TE:=fun σ H Q=>ta σ H fun x H1=>r x H1 Q
def rI (C:Int->Int->Prop)(g:Int->Int->V):R2:=fun x y H Q=>∃i j,x=.int i/\y=.int j/\C i j/\Q (g i j) H
def i9 (g:Int->Int->V):R2:=fun x y H Q=>∃i j,x=.int i/\y=.int j/\Q (g i j) H
def rU (g:Int->V):V->Hp->VK->Prop:=fun x H Q=>∃i,x=.int i/\Q (g i) H
section
variable {X:Cx}{a b c:Expr}{ta tb tc:TE}{pos:Pos}
theorem jL (ha:PE X a ta)(hb:PE X b tb){pins:List (Addr×Obj)}{s:Shared}{σ:St}{H:Hp}{R:V->V->Hp->Prop}(I:Inv X pins σ H s)
  (h:ta σ H fun x H1=>tb σ H1 fun y H2=>R x y H2){Q:Value->Shared->Prop}{f:Value->Value->Sem Value}
  (hf:∀v u s2 x y H2,Inv X pins σ H2 s2->RelV x v->RelV y u->R x y H2->wpAny (model X.prog X.w) X.A (f v u) Q X.xe s2) :
  wpAny (model X.prog X.w) X.A (eval a X.env) (fun v s₁=>wpAny (model X.prog X.w) X.A (eval b X.env) (fun u s₂=>wpAny (model X.prog X.w) X.A (f v u) Q X.xe s₂) X.xe s₁) X.xe s:=by
 refine aH (ha pins s σ H _ I h) fun v s1 hZz=>?_;obtain⟨x,H1,I1,r1,q1⟩:=hZz;refine aH (hb pins s1 σ H1 _ I1 q1) fun u s2 hZz=>?_;obtain⟨y,H2,I2,r2,q2⟩:=hZz;exact hf v u s2 x y H2 I2 r1 r2 q2
theorem kr {op:Operator}{r:R2}(ho:OpR X (binaryOp op) r)(ha:PE X a ta)(hb:PE X b tb):PE X (.BinOp a op b pos) (iR r ta tb):=by
 intro pins s σ H Q I h;exact wpAny_BinOp (jL ha hb I h fun v u s2 x y H2 I2 rx ry q=>ho pins s2 σ H2 x y v u Q I2 rx ry q)
theorem Em (ho:qu X (unaryOp op) r)(ha:PE X a ta):PE X (.UnaryOp op a pos) (qY r ta):=by
 intro pins s σ H Q I h;exact UnaryOp_ (aH (ha pins s σ H _ I h) fun v s1 ⟨x,H1,I1,r1,q1⟩=>ho pins s1 σ H1 x v Q I1 r1 q1)
theorem nq {f:Value->Value->Sem Value}{C:Int->Int->Prop}{g:Int->Int->Int}
  (rule:∀(i j:Int) (t u:Tok) (s:Shared) (Q:Value->Shared->Prop) (E:Value->Shared->Prop),C i j->Q (.int (g i j) s.toks) { s with toks:=s.toks+1 }->wpAny (model X.prog X.w) X.A (f (.int i t) (.int j u)) Q E s) :
  OpR X f (rI C fun i j=>.int (g i j)):=by
 intro pins s σ H x y v u Q I rx ry h;obtain⟨i,j,rfl,rfl,hc,q⟩:=h;obtain⟨t,rfl⟩:=rx;obtain⟨t',rfl⟩:=ry;exact rule i j t t' s _ _ hc ⟨.int (g i j),H,I.tok _,⟨_,rfl⟩,q⟩
theorem ng {f:Value->Value->Sem Value}{g:Int->Int->Int}
  (rule:∀(i j:Int) (t u:Tok) (s:Shared) (Q:Value->Shared->Prop) (E:Value->Shared->Prop),Q (.int (g i j) s.toks) { s with toks:=s.toks+1 }->wpAny (model X.prog X.w) X.A (f (.int i t) (.int j u)) Q E s) :
  OpR X f (i9 fun i j=>.int (g i j)):=by
 intro pins s σ H x y v u Q I rx ry h;obtain⟨i,j,rfl,rfl,q⟩:=h;obtain⟨t,rfl⟩:=rx;obtain⟨t',rfl⟩:=ry;exact rule i j t t' s _ _ ⟨.int (g i j),H,I.tok _,⟨_,rfl⟩,q⟩
theorem iw {f:Value->Value->Sem Value}{g:Int->Int->Bool}
  (rule:∀(i j:Int) (t u:Tok) (s:Shared) (Q:Value->Shared->Prop) (E:Value->Shared->Prop),Q (.bool (g i j)) s->wpAny (model X.prog X.w) X.A (f (.int i t) (.int j u)) Q E s) :
  OpR X f (i9 fun i j=>.bl (g i j)):=by
 intro pins s σ H x y v u Q I rx ry h;obtain⟨i,j,rfl,rfl,q⟩:=h;obtain⟨t,rfl⟩:=rx;obtain⟨t',rfl⟩:=ry;exact rule i j t t' s _ _ ⟨.bl (g i j),H,I,rfl,q⟩
def sg (i j:Int):Prop:=0<j/\j<1073741824
def rq (i j:Int):Prop:=0<=j/\j<=1000000/\i.natAbs<2 ^ 64
def CMul (i j:Int):Prop:=(-(2 ^ 64)<i/\i<2 ^ 64)\/(-(2 ^ 64)<j/\j<2 ^ 64)
theorem CMul.ok (h:CMul i j):IntMulOk i j:=by
 rcases h with ⟨h1,h2⟩ | ⟨h1,h2⟩
 ·exact .of_left (intBits_le_64 h1 h2)
 ·exact .of_right (intBits_le_64 h1 h2)
theorem fE (k:Nat):(0:Int)<=2 ^ k:=by
 rw[two_pow_cast];exact Int.natCast_nonneg _
theorem AH:OpR X (binaryOp .Add) (i9 fun i j=>.int (i+j)):=ng fun _ _ _ _ _ _ _ q=>add_int q
theorem y9:OpR X (binaryOp .Sub) (i9 fun i j=>.int (i - j)):=ng fun _ _ _ _ _ _ _ q=>sub_int q
theorem Dx:OpR X (binaryOp .Mult) (rI CMul fun i j=>.int (i * j)):=nq fun _ _ _ _ _ _ _ hc q=>mul_int q hc.ok
theorem B1:OpR X (binaryOp .FloorDiv) (rI sg fun i j=>.int (i / j)):=nq fun i j _ _ _ _ _ hc q=>by
 have h1:(0:Int)<j:=hc.1;have h2:j<1073741824:=hc.2;exact floordiv_int (by omega) (by rw[Int.fdiv_eq_ediv_of_nonneg i (by omega)]; exact q) (.inl (PyProof.noPylong_small (by omega)))
theorem BY:OpR X (binaryOp .Mod) (rI (fun _ j=>0<j) fun i j=>.int (i % j)):=nq fun i j _ _ _ _ _ hc q=>by
 have h1:(0:Int)<j:=hc;exact mod_int' (by omega) (by rw[Int.fmod_eq_emod_of_nonneg i (by omega)]; exact q)
theorem GX:OpR X (binaryOp .Pow) (rI rq fun i j=>.int (i ^ j.toNat)):=nq fun _ _ _ _ _ _ _ hc q=>pow_int_small hc.1 hc.2.1 hc.2.2 q
theorem FT:OpR X (binaryOp .RShift) (rI (fun _ j=>0<=j) fun i j=>.int (i / 2 ^ j.toNat)):=nq fun i j _ _ _ _ _ hc q=>
 rshift_int hc (by rw[Int.fdiv_eq_ediv_of_nonneg i (fE _)]; exact q)
theorem zm {f:Value->Sem Value}{g:Int->Int}
  (rule:∀(i:Int) (t:Tok) (s:Shared) (Q:Value->Shared->Prop) (E:Value->Shared->Prop),Q (.int (g i) s.toks) { s with toks:=s.toks+1 }->wpAny (model X.prog X.w) X.A (f (.int i t)) Q E s) :
  qu X f (rU fun i=>.int (g i)):=by
 intro pins s σ H x v Q I rx h;obtain⟨i,rfl,q⟩:=h;obtain⟨t,rfl⟩:=rx;exact rule i t s _ _ ⟨.int (g i),H,I.tok _,⟨_,rfl⟩,q⟩
theorem Ck:qu X (unaryOp .USub) (rU fun i=>.int (-i)):=zm fun _ _ _ _ _ q=>neg_int q
end
noncomputable def scal:V->V->Bool
 | .non,.non=>true | .non,.int _=>true | .int _,.non=>true | .non,.bl _=>true | .bl _,.non=>true | .non,.str _=>true | .str _,.non=>true
 | .int _,.int _=>true | .bl _,.bl _=>true | .str _,.str _=>true | .byt _,.byt _=>true
 | .int _,.str _=>true | .str _,.int _=>true | .bl _,.str _=>true | .str _,.bl _=>true
 | _,_=>false
section
variable {X:Cx}{a b c:Expr}{ta tb tc:TE}{pos:Pos}
theorem Fe:OpR X (compareOp .Lt) (i9 fun i j=>.bl (decide (i<j))):=iw fun _ _ _ _ _ _ _ q=>lt_int q
theorem zH:OpR X (compareOp .LtE) (i9 fun i j=>.bl (decide (i<=j))):=iw fun _ _ _ _ _ _ _ q=>le_int q
theorem Dv:OpR X (compareOp .Gt) (i9 fun i j=>.bl (decide (j<i))):=iw fun _ _ _ _ _ _ _ q=>gt_int q
theorem GM:OpR X (compareOp .GtE) (i9 fun i j=>.bl (decide (j<=i))):=iw fun _ _ _ _ _ _ _ q=>ge_int q
theorem OpR.or (h:OpR X f r)(h':OpR X f r'):OpR X f (fun x y H Q=>r x y H Q\/r' x y H Q):=by
 intro pins s σ H x y v u Q I rx ry q;rcases q with q | q
 ·exact h pins s σ H x y v u Q I rx ry q
 ·exact h' pins s σ H x y v u Q I rx ry q
theorem kC (b:Expr)(h:op≠.In:=by decide)(h2:op≠.NotIn:=by decide):behindInMarks op b=false:=by
 have e1:(op == CmpOp.In)=false:=by cases op <;> first | rfl | exact absurd rfl h
 have e2:(op == CmpOp.NotIn)=false:=by cases op <;> first | rfl | exact absurd rfl h2
 cases b <;> simp[behindInMarks,e1,e2]
theorem yJ {op:CmpOp}{r:R2}(ho:OpR X (compareOp op) r)(ha:PE X a ta)(hb:PE X b tb)(hm:behindInMarks op b=false):PE X (.Compare a [op] [b] pos) (iR r ta tb):=by
 intro pins s σ H Q I h;exact wpAny_Compare1 (jL ha hb I h fun v u s2 x y H2 I2 rx ry q=>ho pins s2 σ H2 x y v u Q I2 rx ry q) hm
def jz (t:TE):TT:=fun σ H Q=>t σ H fun x H'=>∃k,x=.bl k/\Q k H'
theorem yj (ho:OpR X (compareOp op) r)(ha:PE X a ta)(hb:PE X b tb)(hm:behindInMarks op b=false):PT X (.Compare a [op] [b] pos) (jz (iR r ta tb)):=by
 intro pins s σ H Q I h;refine wpAny_isTrue_Compare1 (aH (ha pins s σ H _ I h) fun v s1 ⟨x,H1,I1,r1,q1⟩=>aH (hb pins s1 σ H1 _ I1 q1) fun u s2 ⟨y,H2,I2,r2,q2⟩=>
  aH (ho pins s2 σ H2 x y v u _ I2 r1 r2 q2) fun c s3 ⟨z,H3,I3,r3,k,e,q3⟩=>?_) hm
 subst e;cases r3;exact wpAny_truthy_bool ⟨H3,I3,q3⟩
def dO (r r':R2)(ta tb tc:TE):TE:=fun σ H Q=>ta σ H fun x H1=>tb σ H1 fun y H2=>r x y H2 fun z H3=>∃k,z=.bl k /\
 (if k=true then tc σ H3 fun w' H4=>r' y w' H4 Q else Q (.bl false) H3)
theorem zO (ho:OpR X (compareOp op) r)(ho':OpR X (compareOp op') r')(ha:PE X a ta)(hb:PE X b tb)(hc:PE X c tc)
  (hm:lastMarks [op,op'] [b,c]=false:=by with_unfolding_all rfl):PE X (.Compare a [op,op'] [b,c] pos) (dO r r' ta tb tc):=by
 intro pins s σ H Q I h;refine Compare_chain (aH (ha pins s σ H _ I h) fun v s1 ⟨x,H1,I1,r1,q1⟩=>chain_link (aH (hb pins s1 σ H1 _ I1 q1) fun u s2 ⟨y,H2,I2,r2,q2⟩=>
  aH (ho pins s2 σ H2 x y v u _ I2 r1 r2 q2) fun d s3 ⟨z,H3,I3,r3,k,e,q3⟩=>?_)) hm
 subst e;cases r3;refine wpAny_truthy_bool ?_;cases k with
 | false=>exact ite_ff ⟨.bl false,H3,I3,rfl,q3⟩
 | true=>exact ite_tt (chain_last (aH (hc pins s3 σ H3 _ I3 q3) fun w' s4 ⟨z',H4,I4,r4,q4⟩=>ho' pins s4 σ H4 y z' u w' Q I4 r2 r4 q4))
theorem ya (ho:OpR X (compareOp op) r)(ho':OpR X (compareOp op') r')(ha:PE X a ta)(hb:PE X b tb)(hc:PE X c tc)
  (hm:lastMarks [op,op'] [b,c]=false:=by with_unfolding_all rfl):PT X (.Compare a [op,op'] [b,c] pos) (jz (dO r r' ta tb tc)):=by
 intro pins s σ H Q I h;refine isTrue_chain (aH (ha pins s σ H _ I h) fun v s1 ⟨x,H1,I1,r1,q1⟩=>test_link (aH (hb pins s1 σ H1 _ I1 q1) fun u s2 ⟨y,H2,I2,r2,q2⟩=>
  aH (ho pins s2 σ H2 x y v u _ I2 r1 r2 q2) fun d s3 ⟨z,H3,I3,r3,k,e,q3⟩=>?_)) hm
 subst e;cases r3;refine wpAny_truthy_bool ?_;cases k with
 | false=>
  obtain⟨k',e',q'⟩:=q3;cases e';exact ite_ff ⟨H3,I3,q'⟩
 | true=>
  refine ite_tt (test_last (aH (hc pins s3 σ H3 _ I3 q3) fun w' s4 ⟨z',H4,I4,r4,q4⟩=>aH (ho' pins s4 σ H4 y z' u w' _ I4 r2 r4 q4) fun d' s5 hZz=>?_));obtain⟨z2,H5,I5,r5,k2,e2,q5⟩:=hZz;subst e2;cases r5;exact wpAny_truthy_bool ⟨H5,I5,q5⟩
theorem dQ:(sizeLine:Nat)<2 ^ 63:=by rw[sizeLine_eq]; decide
theorem vals1 (r:Vals [x] us):∃u,us=[u]/\RelV x u:=by
 cases r with
 | cons r1 r2=>cases r2; exact⟨_,rfl,r1⟩
theorem vals2 (r:Vals [x,y] us):∃u w',us=[u,w']/\RelV x u/\RelV y w':=by
 cases r with
 | cons r1 r2=>
  cases r2 with
  | cons r3 r4=>cases r4; exact⟨_,_,rfl,r1,r3⟩
theorem Fm:CallR X (.type "int") (fun xs H Q=>(∃i,xs=[.int i]/\Q (.int i) H)\/∃k,xs=[.bl k]/\Q (.int (if k then 1 else 0)) H):=by
 intro pins s σ H xs us Q I r h;rcases h with ⟨i,rfl,q⟩ | ⟨k,rfl,q⟩
 ·obtain⟨u,rfl,t,rfl⟩:=vals1 r;exact call_int_int ⟨.int i,H,I,⟨_,rfl⟩,q⟩
 ·obtain⟨u,rfl,r1⟩:=vals1 r;cases r1;exact call_int_bool ⟨.int (if k then 1 else 0),H,I.tok _,⟨_,rfl⟩,q⟩
end
end L2
namespace L2
open PySem PySem.Spec PyProof.Rows
structure ObjM (h:Heap)(x dx C:Addr)(mA:Str->Option Value):Prop where
 obj:h.get? x=some (PySem.W.instObj C dx)
 ns:h.Ns1 dx mA
 ne:dx≠x
theorem BP {h:Heap}{dx:Addr}{mA:Str->Option Value}(n:h.Ns1 dx mA):∃od,h.get? dx=some od/\∀name,PySem.W.lookIn name od=some (mA name):=by
 obtain⟨o,es,ep,ho,hd,hk,_,hm⟩:=n;refine⟨o,ho,fun name=>?_⟩;have e:=hm name;unfold nsFind findBy at e;rw[<-Array.find?_toList] at e;unfold PySem.W.lookIn;rw[hd];dsimp only;split
 ·rename_i y q;rw[q] at e;exact congrArg some e
 ·rename_i q;rw[q] at e;have a:es.toList.any (·.refKey)=false:=by
   rw[List.any_eq_false];intro y hy;obtain⟨z,t,hkey⟩:=hk y (Array.mem_toList_iff.mp hy);simp[DictEntry.refKey,hkey]
  have a':¬es.toList.any (·.refKey)=true:=by rw[a]; exact Bool.false_ne_true
  rw[if_neg a'];exact congrArg some e
theorem ObjM.look (I:ObjM h x dx C mA):∃od,PySem.W.InstAt h x (PySem.W.instObj C dx) C (some od)/\∀name,PySem.W.lookIn name od=some (mA name):=
 let ⟨od,ho,hl⟩:=BP I.ns
 ⟨od,⟨I.obj,rfl,rfl,ho⟩,hl⟩
section
variable {prog:Program}{w:World}{A:Around}{E:Value->Shared->Prop}{s:Shared}{K:aL}{x dx C f:Addr}{mA:Str->Option Value}{name:Str}{v:Value}
theorem Da (X:K.In s.heap)(I:ObjM s.heap x dx C mA)(hg:PySem.W.plainGet K C name=true)(hh:PySem.W.hasDictIn K C=true)
  (ha:PySem.W.findIn K (.ref C) name=some none)(hv:mA name=some v)(hv':PySem.W.handedIn v=true)(h:Q v { s with toks:=s.toks+1 }) :
  wpAny (model prog w) A (getAttr (.ref x) name expr) Q E s:=by
 obtain⟨od,J,hl⟩:=I.look;exact PySem.W.get_value X J (PySem.W.plainGet_of hg).1 (PySem.W.findObj_own hh ha rfl (by rw[hl,hv])) hv' h
theorem yL (X:K.In s.heap)(I:ObjM s.heap x dx C mA)(hg:PySem.W.plainGet K C name=true)
  (hf:PySem.W.findIn K (.ref C) name=some (some (.ref f)))(ht:PySem.W.isFn K (.ref f)=true)(hv:mA name=none)(h:Q (.ref f,[.ref x]) s) :
  wpAny (model prog w) A (getMethod (.ref x) name pl) Q E s:=by
 obtain⟨od,J,hl⟩:=I.look;exact PySem.W.method_fn X J (PySem.W.plainGet_of hg).1 (PySem.W.plainGet_of hg).2 hf (beq_iff_eq.mp ht) (by show (PySem.W.lookIn name od).map (·.isSome)=some false; rw[hl,hv]; rfl) h
theorem EC (X:K.In s.heap)(I:ObjM s.heap x dx C mA)
  (hs:PySem.W.findIn K (.ref C) "__setattr__" = some (some (.builtin "object.__setattr__")))(hp:PySem.W.plainOver K C=true)(ht:PySem.W.takerIn K C name=some none)(hh:PySem.W.hasDictIn K C=true)
  (hw:PySem.Within mA ns)(hsz:ns.length<=sizeLine)
  (h:∀h',ObjM h' x dx C (fun y=>if y=name then some v else mA y)->Heap.SameBut dx s.heap h'->Q () { s with heap:=h',toks:=s.toks+2 }) :
  wpAny (model prog w) A (setAttr (.ref x) name v) Q E s:=by
 obtain⟨od,J,hl⟩:=I.look;refine PySem.W.set_plain X J hs (PySem.W.osa_open (s:={ s with toks:=s.toks+1 }) (r:=none) X J hp ht fun b=>?_);obtain⟨cd,hc,hd'⟩:=PySem.W.any_some hh;have hx:s.heap.get? x=some ⟨.ref C,some dx,.plain,#[]⟩:=I.obj;refine ai (aG (ai (ai (wpAny_loadPart hx (ai (PySem.W.Looks.here (s:={ s with toks:=s.toks+1 }) (PySem.W.looks_clsIn X hc) ?_))))));rw[hd'];refine aG (a:=some dx) (ai (aG (ai ?_)));refine wpAny_nsSet1 (s:={ s with toks:=s.toks+1 }) I.ns fun h' hn2 hs2=>?_;obtain⟨oD,esD,epD,hoD,hdD,hcD⟩:=hn2.count (PySem.Within.cons name v hw);refine ai (wpAny_lookBehind hoD (by rw[hdD]; exact pastItsLine_dict (bK hcD (by rw[List.length_cons]; omega))) ?_);exact aG (h _ ⟨(hs2.2 _ (Ne.symm I.ne)).trans I.obj,hn2,I.ne⟩ hs2)
theorem DQ (X:K.In s.heap)(hm:PySem.W.makesIn K C=true)
  (hi:PySem.W.findIn K (.ref C) "__init__" = some (some (.ref f)))(hf:PySem.W.typeIn K (.ref f)=some (.type "function"))
  (h:codeAny (model prog w) (A.under (.builtin "type.__call__" ⟨.ref C::vs,kw⟩)) (.call (.ref f) ⟨.ref (s.heap.objs.size+1)::vs,kw⟩) (PySem.W.InitBack (s.heap.objs.size+1) R)
   { s with heap:=(s.heap.push PySem.W.emptyDict).push (PySem.W.instObj C s.heap.objs.size) }) :
  codeAny (model prog w) A (.call (.ref C) ⟨vs,kw⟩) R s:=by
 obtain⟨hh,g,d,t,os⟩:=s;exact PySem.W.make_core (PySem.W.makes_of X hm) (PySem.W.looks_findIn X hi) (fun self=>PySem.W.bind_fn X self hf) (.inl rfl) h
end
noncomputable def putF (f:Str)(v:V):List (Str×V)->List (Str×V)
 | []=>[(f,v)]
 | (g,x)::r=>if g=f then (g,v)::r else (g,x)::putF f v r
theorem rW (f g:Str)(v:V):∀fs:List (Str×V),(putF f v fs).lookup g=if g=f then some v else fs.lookup g
 | []=>by
  show List.lookup g [(f,v)]=_;by_cases h:g=f
  ·have hb:(g == f)=true:=beq_iff_eq.mpr h;simp only[List.lookup,hb,if_pos h]
  ·have hb:(g == f)=false:=beq_eq_false_iff_ne.mpr h;simp only[List.lookup,hb,if_neg h]
 | (k,x)::r=>by
  have ih:=rW f g v r;rw[show putF f v ((k,x)::r)=(if k=f then (k,v)::r else (k,x)::putF f v r) from rfl];by_cases hk:k=f
  ·rw[if_pos hk];by_cases h:g=k
   ·have hb:(g == k)=true:=beq_iff_eq.mpr h;simp only[List.lookup,hb,if_pos (h.trans hk)]
   ·have hb:(g == k)=false:=beq_eq_false_iff_ne.mpr h;simp only[List.lookup,hb,if_neg (fun e:g=f=>h (e.trans hk.symm))]
  ·rw[if_neg hk];by_cases h:g=k
   ·have hb:(g == k)=true:=beq_iff_eq.mpr h;simp only[List.lookup,hb,if_neg (fun e:g=f=>hk (h.symm.trans e))]
   ·have hb:(g == k)=false:=beq_eq_false_iff_ne.mpr h;simp only[List.lookup,hb];exact ih
theorem lW (f:Str)(v:V):∀fs:List (Str×V),f∈(putF f v fs).map (·.1)/\∀g,g∈fs.map (·.1)->g∈(putF f v fs).map (·.1)
 | []=>⟨by simp[putF],fun g h=>by simp at h⟩
 | (k,x)::r=>by
  obtain⟨i1,i2⟩:=lW f v r;rw[show putF f v ((k,x)::r)=(if k=f then (k,v)::r else (k,x)::putF f v r) from rfl];by_cases hk:k=f
  ·rw[if_pos hk];subst hk;exact⟨by simp,fun g h=>by simpa using h⟩
  ·rw[if_neg hk];refine⟨?_,fun g h=>?_⟩
   ·rw[List.map_cons];exact bD _ i1
   ·rw[List.map_cons] at h ⊢;rcases cz h with e | e
    ·exact List.mem_cons.mpr (.inl e)
    ·exact bD _ (i2 g e)
theorem rY (f:Str)(v:V):∀fs:List (Str×V),(putF f v fs).length<=fs.length+1
 | []=>by simp[putF]
 | (k,x)::r=>by
  have ih:=rY f v r;rw[show putF f v ((k,x)::r)=(if k=f then (k,v)::r else (k,x)::putF f v r) from rfl];by_cases hk:k=f
  ·rw[if_pos hk,List.length_cons,List.length_cons]; omega
  ·rw[if_neg hk,List.length_cons,List.length_cons]; omega
theorem RelO.some_of (r:RelO (some v) o):∃u,o=some u/\RelV v u:=by
 cases o with
 | none=>exact (show False from r).elim
 | some u=>exact⟨u,rfl,r⟩
theorem RelO.none_of (r:RelO none o):o=none:=by
 cases o with
 | none=>rfl
 | some u=>exact (show False from r).elim
theorem wl (r:RelV v u):PySem.W.handedIn u=true:=by
 cases v with
 | non=>cases (show u=Value.none from r); rfl
 | bl b=>cases (show u=Value.bool b from r); rfl
 | int i=>obtain⟨t,e⟩:=(show ∃t,u=Value.int i t from r); cases e; rfl
 | str x=>obtain⟨t,e⟩:=(show ∃t,u=Value.str x t from r); cases e; rfl
 | byt b=>obtain⟨t,e⟩:=(show ∃t,u=Value.bytes b t from r); cases e; rfl
 | flt b=>obtain⟨t,e⟩:=(show ∃t,u=Value.float b t from r); cases e; rfl
 | ref a=>cases (show u=Value.ref a from r); rfl
 | ty n=>cases (show u=Value.type n from r); rfl
section
variable {P:Program}{w:World}{H H':Hp}{h h':Heap}{a C dx:Addr}{fs fs':List (Str×V)}
theorem mB (hok:HOk P w H h)(e:H a=some (.ins C dx fs)):∃mA,ObjM h a dx C mA/\(∀f,RelO (fs.lookup f) (mA f))/\PySem.Within mA (fs.map (·.1))/\fs.length<=1000/\H dx=some (.own a):=by
 obtain⟨d,z,ne,ob,mA,n,r,q⟩:=(show ObjOk P w H h a (.ins C dx fs) from hok a _ e)
 exact⟨mA,⟨ob,n,ne⟩,r,q,z,d⟩
end
structure Cls (K:aL)(C:Addr):Prop where
 pg:PySem.W.plainGet K C Str.empty=true
 hd:PySem.W.hasDictIn K C=true
 po:PySem.W.plainOver K C=true
 sa:PySem.W.findIn K (.ref C) "__setattr__" = some (some (.builtin "object.__setattr__"))
theorem Cls.get {K:aL}{C:Addr}(c:Cls K C)(f:Str):PySem.W.plainGet K C f=true:=c.pg
def NoAttr (K:aL)(C:Addr)(f:Str):Prop:=PySem.W.findIn K (.ref C) f=some none
theorem NoAttr.taker {K:aL}{C:Addr}{f:Str}(n:NoAttr K C f):PySem.W.takerIn K C f=some none:=by
 unfold PySem.W.takerIn;rw[show PySem.W.findIn K (.ref C) f=some none from n];rfl
structure Meth (K:aL)(C:Addr)(m:Str)(f:Addr):Prop where
 at_:PySem.W.findIn K (.ref C) m=some (some (.ref f))
 fn:PySem.W.isFn K (.ref f)=true
 kp:PySem.W.keepIn K (.ref f)=true
section
variable {X:Cx}{pins:List (Addr×Obj)}{σ:St}{H:Hp}{s:Shared}{a C dx:Addr}{fs:List (Str×V)}{f:Str}{v:V}{A:Around}{E:Value->Shared->Prop}
theorem B0 (I:Inv X pins σ H s)(e:H a=some (.ins C dx fs))(c:Cls X.K C)(n:NoAttr X.K C f)(l:fs.lookup f=some v)
  (h:∀u s',Inv X pins σ H s'->RelV v u->Q u s'):wpAny (model X.prog X.w) A (getAttr (.ref a) f b) Q E s:=by
 obtain⟨mA,O,r,_,_,_⟩:=mB I.hok e;obtain⟨u,hu,ru⟩:=RelO.some_of (v:=v) (o:=mA f) (by rw[<-l]; exact r f);exact Da I.kIn O (c.get f) c.hd n hu (wl ru) (h u _ (I.tok _) ru)
theorem vz (I:Inv X pins σ H s)(e:H a=some (.ins C dx fs))(c:Cls X.K C)(k:Meth X.K C m g)(l:fs.lookup m=none)
  (h:Q (.ref g,[.ref a]) s):wpAny (model X.prog X.w) A (getMethod (.ref a) m pl) Q E s:=by
 obtain⟨mA,O,r,_,_,_⟩:=mB I.hok e;have hn:mA m=none:=RelO.none_of (by rw[<-l]; exact r m);exact yL I.kIn O (c.get m) k.at_ k.fn hn h
theorem FK (I:Inv X pins σ H s)(e:H a=some (.ins C dx fs))(c:Cls X.K C)(n:NoAttr X.K C f)(hl:fs.length<1000)(ry:RelV y u)
  (h:∀s',Inv X pins σ (upd H a (.ins C dx (putF f y fs))) s'->Q () s'):wpAny (model X.prog X.w) A (setAttr (.ref a) f u) Q E s:=by
 obtain⟨mA,O,r,wi,_,ho⟩:=mB I.hok e;have hz:(fs.map (·.1)).length<=sizeLine:=by rw[List.length_map,sizeLine_eq]; omega
 refine EC I.kIn O c.sa c.po n.taker c.hd wi hz fun h' O' sb=>h _ ?_;have hd:∃o,h'.get? dx=some o:=let ⟨o,_,_,e',_⟩:=O'.ns; ⟨o,e'⟩
 refine I.write (x:=a) (e:=dx) (by rw[e]; exact True.intro) (.inr ho) (fun b q hb z=>(sb.2 b hb).trans z) hd ?_;refine⟨by rw[bc O.ne]; exact ho,?_,O.ne,O'.obj,_,O'.ns,fun g=>?_,fun g hg=>?_⟩
 ·have:=rY f y fs; omega
 ·show RelO ((putF f y fs).lookup g) (if g=f then some u else mA g);rw[rW];by_cases q:g=f
  ·rw[if_pos q,if_pos q]; exact ry
  ·rw[if_neg q,if_neg q]; exact r g
 ·by_cases q:g=f
  ·rw[q]; exact (lW f y fs).1
  ·refine (lW f y fs).2 g (wi g fun z=>hg ?_);show (if g=f then some u else mA g)=none;rw[if_neg q]; exact z
theorem Inv.made (I:Inv X pins σ H s):Inv X pins σ (upd (upd H s.heap.objs.size (.own (s.heap.objs.size+1))) (s.heap.objs.size+1) (.ins C s.heap.objs.size []))
  { s with heap:=(s.heap.push PySem.W.emptyDict).push (PySem.W.instObj C s.heap.objs.size) }:=by
 have e1:(s.heap.push PySem.W.emptyDict).get? s.heap.objs.size=some PySem.W.emptyDict:=da s.heap rfl;have e2:((s.heap.push PySem.W.emptyDict).push (PySem.W.instObj C s.heap.objs.size)).get? (s.heap.objs.size+1)=some (PySem.W.instObj C s.heap.objs.size):=by
  have:=da (s.heap.push PySem.W.emptyDict) (o:=PySem.W.instObj C s.heap.objs.size) rfl
  rwa [Heap.size_push] at this
 have e3:(s.heap.push PySem.W.emptyDict).Ns s.heap.objs.size (fun _=>none):=⟨PySem.W.emptyDict,#[],_,e1,rfl,(fun e he=>absurd he (by simp)),fun _=>rfl⟩
 have I1:=I.laid (a:=s.heap.objs.size) (o:=.own (s.heap.objs.size+1)) (h':=s.heap.push PySem.W.emptyDict) (t':=s.toks) (fun b u q=>bI _ q) (bb _) ⟨_,e1⟩;refine I1.laid (a:=s.heap.objs.size+1) (o:=.ins C s.heap.objs.size []) (t':=s.toks) (fun b u q=>bI _ q) (Nat.le_of_eq (Heap.size_push _ _)) ?_;have ne:s.heap.objs.size≠s.heap.objs.size+1:=cQ (Nat.lt_succ_self _);refine⟨by rw[bc ne,bA],Nat.zero_le _,ne,e2,fun _=>none,(Heap.Ns1.of_empty e3).at fun o q=>bI _ q,fun _=>True.intro,fun y hy=>absurd rfl hy⟩
theorem vk (hb:attributeBase e f env (eval e env)=eval e env)
  (h:wpAny (model prog w) A (eval e env) (fun o s₁=>wpAny (model prog w) A (getAttr o f true) Q E s₁) E s):wpAny (model prog w) A (eval (.Attribute e f pos) env) Q E s:=
 Attribute_any_ h (by rw[arm_eval_Attribute,hb])
end
def sU (K:aL)(ta:TE)(f:Str):TE:=fun σ H Q=>ta σ H fun x H1=>∃a C dx fs v,x=.ref a/\H1 a=some (.ins C dx fs)/\Cls K C/\NoAttr K C f/\fs.lookup f=some v/\Q v H1
def iS (K:aL)(ta tv:TE)(f:Str):TS:=fun D σ H=>tv σ H fun y H1=>ta σ H1 fun x H2=>∃a C dx fs,x=.ref a/\H2 a=some (.ins C dx fs)/\Cls K C/\NoAttr K C f/\fs.length<1000 /\
 D.nx σ (upd H2 a (.ins C dx (putF f y fs)))
section
variable {X:Cx}{o e value:Expr}{f:Str}{pos pos' tpos:Pos}{ta tv:TE}
theorem Au (he:PE X e ta)(hb:attributeBase e f X.env (eval e X.env)=eval e X.env):PE X (.Attribute e f pos) (sU X.K ta f):=by
 intro pins s σ H Q I h;refine vk hb (aH (he pins s σ H _ I h) fun u s1 hZz=>?_);obtain⟨x,H1,I1,rx,a,C,dx,fs,v,ex,ea,c,n,l,q⟩:=hZz;subst ex;obtain rfl:u=Value.ref a:=rx;exact B0 I1 ea c n l fun u' s2 I2 ru=>⟨v,H1,I2,ru,q⟩
theorem xM (ha:PE X o ta)(hv:PE X value tv)(hs:swapsWith value (some (.Attribute o f pos')) pos.line X.env=pure false):PS X (.Assign [.Attribute o f pos'] value pos) (iS X.K ta tv f):=by
 intro pins s σ H D I h;refine plainObj_wpAny_Assign_Attribute (aH (hv pins s σ H _ I h) fun u s1 ⟨y,H1,I1,ry,q⟩=>aH (ha pins s1 σ H1 _ I1 q) fun ov s2 hZz=>?_) hs;obtain⟨x,H2,I2,rx,a,C,dx,fs,ex,ea,c,n,l,q2⟩:=hZz;subst ex;obtain rfl:ov=Value.ref a:=rx;exact FK I2 ea c n l ry fun s3 I3=>⟨σ,_,I3,q2⟩
end
section
variable {X:Cx}{pins:List (Addr×Obj)}{σ:St}{H:Hp}{s:Shared}{A:Around}{E:Value->Shared->Prop}{Q:Value->Shared->Prop}{c:Value}{b:Bool}
inductive TyOf (K:aL) (H:Hp):V->Value->Prop where
 | non:TyOf K H .non (.type "NoneType")
 | bl (x:Bool):TyOf K H (.bl x) (.type "bool")
 | int (i:Int):TyOf K H (.int i) (.type "int")
 | str (x:Str):TyOf K H (.str x) (.type "str")
 | flt (x:UInt64):TyOf K H (.flt x) (.type "float")
 | lst {a:Addr} {xs:List V} (e:H a=some (.lst xs)):TyOf K H (.ref a) (.type "list")
 | frz {a:Addr} {o:Obj} {xs:List V} (e:H a=some (.frz o (.lst xs))):TyOf K H (.ref a) (.type "list")
 | tup {a:Addr} {xs:List V} (e:H a=some (.tup xs)):TyOf K H (.ref a) (.type "tuple")
 | dK {a:Addr} {kvs:List (d6×V)} (e:H a=some (.dK kvs)):TyOf K H (.ref a) (.type "dict")
 | dT {a:Addr} {kvs:List (List d6×V)} (e:H a=some (.dT kvs)):TyOf K H (.ref a) (.type "dict")
 | ins {a C dx:Addr} {fs:List (Str×V)} (e:H a=some (.ins C dx fs)) (cl:Cls K C) (ha:PySem.W.findIn K (.ref C) "__class__" = some (some (.builtin "object.__class__")))
   (hn:PySem.W.specialIn K (.builtin "object.__class__") "__get__" = some (some (.builtin "getset_descriptor.__get__"))) (htk:PySem.W.takesIn K (.builtin "object.__class__")=some true)
   (hm:PySem.W.mroIn K C (.type "object")=some true):TyOf K H (.ref a) (.ref C)
theorem jt (I:Inv X pins σ H s)(rx:RelV x u)(ty:TyOf X.K H x t)(e:PySem.W.kitOne X.K t c=some b)(h:∀tk,Q (.bool b) { s with toks:=tk }) :
  wpAny (model X.prog X.w) A (call (.builtin "isinstance") [u,c]) Q E s:=by
 cases ty with
 | non=>cases (show u=Value.none from rx); exact PySem.W.kia_one PySem.W.kitx_none I.kIn True.intro e (fun z=>nomatch z) h
 | bl y=>cases (show u=Value.bool y from rx); exact PySem.W.kia_one PySem.W.kitx_bool I.kIn True.intro e (fun z=>nomatch z) h
 | int i=>obtain⟨t,q⟩:=(show ∃t,u=Value.int i t from rx); cases q; exact PySem.W.kia_one PySem.W.kitx_int I.kIn True.intro e (fun z=>nomatch z) h
 | str y=>obtain⟨t,q⟩:=(show ∃t,u=Value.str y t from rx); cases q; exact PySem.W.kia_one PySem.W.kitx_str I.kIn True.intro e (fun z=>nomatch z) h
 | flt y=>obtain⟨t,q⟩:=(show ∃t,u=Value.float y t from rx); cases q; exact PySem.W.kia_one PySem.W.kitx_float I.kIn True.intro e (fun z=>nomatch z) h
 | @lst a xs ea=>
  cases (show u=Value.ref a from rx);obtain⟨_,_,n,_,h1⟩:=(show ObjOk X.prog X.w H s.heap a (.lst xs) from I.hok a _ ea)
  exact PySem.W.kia_one PySem.W.kitx_list I.kIn ⟨_,h1,rfl⟩ e (fun z=>nomatch z) h
 | @frz a ob xs ea=>
  cases (show u=Value.ref a from rx);obtain⟨_,_,_,n,_,h1⟩:=(show ObjOk X.prog X.w H s.heap a (.frz ob (.lst xs)) from I.hok a _ ea)
  exact PySem.W.kia_one PySem.W.kitx_list I.kIn ⟨_,h1,rfl⟩ e (fun z=>nomatch z) h
 | @tup a xs ea=>
  cases (show u=Value.ref a from rx);obtain⟨_,_,_,p⟩:=(show ObjOk X.prog X.w H s.heap a (.tup xs) from I.hok a _ ea)
  obtain⟨o,h1,h2,_⟩:=p;exact PySem.W.kia_one PySem.W.kitx_tuple I.kIn ⟨o,h1,h2⟩ e (fun z=>nomatch z) h
 | @dK a kvs ea=>
  cases (show u=Value.ref a from rx);obtain⟨_,_,vs,_,p⟩:=(show ObjOk X.prog X.w H s.heap a (.dK kvs) from I.hok a _ ea)
  obtain⟨o,es,ep,h1,h2,_⟩:=p;exact PySem.W.kia_one PySem.W.kitx_dict I.kIn ⟨o,h1,h2.1⟩ e (fun z=>nomatch z) h
 | @dT a kvs ea=>
  cases (show u=Value.ref a from rx);obtain⟨_,_,xs,_,o,es,ep,h1,h2,_⟩:=(show ObjOk X.prog X.w H s.heap a (.dT kvs) from I.hok a _ ea)
  exact PySem.W.kia_one PySem.W.kitx_dict I.kIn ⟨o,h1,h2.1⟩ e (fun z=>nomatch z) h
 | @ins a C dx fs ea cl ha hn htk hm=>
  cases (show u=Value.ref a from rx);obtain⟨mA,O,_⟩:=mB I.hok ea;obtain⟨od,J,_⟩:=O.look;exact PySem.W.kia_one (PySem.W.kitx_own (cl.get _) cl.hd ha hn htk hm) I.kIn J e (fun z=>nomatch z) h
end
end L2
namespace L2
open PySem PySem.Spec PyProof.Rows
structure Room (k:Nat)(A:Around):Prop where
 hd:A.handled=none
 dp:A.depth+3 * k+5<recursionLimit
 un:A.units+16 * k+200<cLine
theorem Room.mono (r:Room k A)(h:j<=k):Room j A:=⟨r.hd,by have:=r.dp; omega,by have:=r.un; omega⟩
theorem Room.deeper (r:Room (k+1) A)(env:Env):Room k (A.deeper env):=
 ⟨r.hd,by have:=r.dp; show A.depth+1+3 * k+5<_; omega,by have:=r.un; show A.units+3+16 * k+200<_; omega⟩
theorem Fu {A:Around}{C:Addr}{us:List Value}{kw:List (Str×Value)}:(A.under (.builtin "type.__call__" ⟨.ref C::us,kw⟩)).depth=A.depth+1:=by
 first | rfl | simp[Around.under,Code.weight,Code.isCreation,Code.isGuard,Code.isCaller,Code.frames,Code.isFrame,guardIds]
theorem zt {A:Around}{C:Addr}{us:List Value}{kw:List (Str×Value)}:(A.under (.builtin "type.__call__" ⟨.ref C::us,kw⟩)).units=A.units+1:=by
 first | rfl | simp[Around.under,Code.cUnits,Code.frames,Code.isFrame]
theorem Room.make (r:Room (k+1) A)(C:Addr)(us:List Value)(kw:List (Str×Value)):Room k (A.under (.builtin "type.__call__" ⟨.ref C::us,kw⟩)):=
 ⟨r.hd,by have:=r.dp; rw[Fu]; omega,by have:=r.un; rw[zt]; omega⟩
theorem Room.depth (r:Room k A):A.depth<recursionLimit:=by have:=r.dp; omega
theorem Room.units (r:Room k A):A.units+64<cLine:=by have:=r.un; omega
def d5:TA:=fun _ H Q=>Q [] H
def cX (ta:TE)(tr:TA):TA:=fun σ H Q=>ta σ H fun x H1=>tr σ H1 fun xs H2=>Q (x::xs) H2
section
variable {X:Cx}{e:Expr}{es:List Expr}{te:TE}{t:TA}{pos:Pos}
theorem ke:PA X [] d5:=fun _ _ _ _ H Q I h=>Calls.spliced_nil ⟨[],H,I,.nil,h⟩
theorem im (ha:PE X e te)(hr:PA X es t)(hs:starEach (e::es) X.env=(false,eval e X.env)::starEach es X.env:=by rfl):PA X (e::es) (cX te t):=by
 intro pos pins s σ H Q I h;rw[hs];show wpAny _ _ (spliced ((false,eval e X.env)::backTo pos (starEach es X.env))) _ _ s;refine Calls.spliced_cons (aH (ha pins s σ H _ I h) fun u s1 hZz=>?_);obtain⟨x,H1,I1,r1,q1⟩:=hZz;exact aH (hr pos pins s1 σ H1 _ I1 q1) fun us s2 ⟨xs,H2,I2,r2,q2⟩=>⟨x::xs,H2,I2,.cons r1 r2,q2⟩
def r9 (t:TA):TE:=fun σ H Q=>t σ H fun xs H1=>xs.length<=sizeLine/\∀p,H1 p=none->Q (.ref p) (upd H1 p (.tup xs))
def rf (t:TA):TE:=fun σ H Q=>t σ H fun xs H1=>xs.length<=sizeLine/\∀p,H1 p=none->Q (.ref p) (upd H1 p (.lst xs))
theorem u9 {x1}(h:PA X es t):PE X (.Tuple es x1 pos) (r9 t):=by
 intro pins s σ H Q I hq;refine wpAny_Tuple_spliced (aH (h pos pins s σ H _ I hq) fun us s1 ⟨xs,H1,I1,r,z,q⟩=>⟨by rw[<-r.length]; exact z,?_⟩);have hf:H1 s1.heap.objs.size=none:=I1.hok.fresh (bb _);refine⟨.ref s1.heap.objs.size,upd H1 s1.heap.objs.size (.tup xs),I1.laid (t':=s1.toks) (fun b u e=>bI _ e) (bb _) ?_,rfl,q _ hf⟩;exact⟨z,us,r,⟨_,da _ rfl,rfl,⟨_,rfl⟩,rfl⟩⟩
theorem yg (h:PA X es t):PE X (.List es pos) (rf t):=by
 intro pins s σ H Q I hq;refine wpAny_List_spliced (aH (h pos pins s σ H _ I hq) fun us s1 ⟨xs,H1,I1,r,z,q⟩=>⟨by rw[<-r.length]; exact z,?_⟩);have hf:H1 s1.heap.objs.size=none:=I1.hok.fresh (bb _);refine⟨.ref s1.heap.objs.size,upd H1 s1.heap.objs.size (.lst xs),I1.laid (t':=s1.toks) (fun b u e=>bI _ e) (bb _) ?_,rfl,q _ hf⟩;exact⟨z,us,0,r,da _ rfl⟩
end
abbrev Sp:=List V->Hp->VK->XK->Prop
noncomputable abbrev gG:=List Env->Hp->Shared->XK->Value->Shared->Prop
structure Env0 (P:Program)(w:World)(K:aL)(mg:Str->Option Value)(base:Heap)(A:Around)(outer:List Env)(s:Shared)(H:Hp):Prop where
 frames:A.frames=some outer
 mod:Mod K mg base
 bs:∀b o,base.get? b=some o->s.heap.get? b=some o/\H b=none
 bsz:base.objs.size<=s.heap.objs.size
 funs:s.heap.FunFrames base outer
 frf:∀b∈fF outer,H b=none
 hok:HOk P w H s.heap
 bare:AllBare s.gens
def CE (outer:List Env)(P:Program)(w:World)(H:Hp)(s:Shared)(Q:VK)(u:Value)(s':Shared):Prop:=
 ∃v H',s'.os=s.os/\AllBare s'.gens/\Un (fF outer) [] H H' s.heap s'.heap/\HOk P w H' s'.heap/\RelV v u/\Q v H'
def CR (CX:gG)(outer:List Env)(P:Program)(w:World)(H:Hp)(s:Shared)(Q:VK)(E:XK)(r:Result)(s':Shared):Prop:=
 match r with
 | .ok (.ret u)=>CE outer P w H s Q u s'
 | .ok _=>False
 | .error e=>CX outer H s E e s'
structure FnOk (P:Program)(w:World)(K:aL)(mg:Str->Option Value)(base:Heap)(CX:gG)(k:Nat)(f:Addr)(fd:FuncData)(ps:List Str)(sp:Sp):Prop where
 len:∀vs H Q E,sp vs H Q E->vs.length=ps.length
 run:∀(A:Around) (outer:List Env) (s:Shared) (H:Hp) (args:Args) (us:List Value) (vs:List V) (Q:VK) (E:XK),Room k A->Env0 P w K mg base A outer s H->BindsTo s fd args (ps.zip us)->Vals vs us->sp vs H Q E ->
  codeAny (model P w) A (.call (.ref f) args) (CR CX outer P w H s Q E) s
theorem FnOk.imp {P:Program}{w:World}{K:aL}{mg:Str->Option Value}{base:Heap}{CX:gG}{k:Nat}{f:Addr}{fd:FuncData}{ps:List Str}{sp sp':Sp}(F:FnOk P w K mg base CX k f fd ps sp)
  (h:∀vs H Q E,sp' vs H Q E->sp vs H Q E):FnOk P w K mg base CX k f fd ps sp':=
 ⟨fun vs H Q E q=>F.len vs H Q E (h _ _ _ _ q),fun A outer s H args us vs Q E hr he hb hv hs=>F.run A outer s H args us vs Q E hr he hb hv (h _ _ _ _ hs)⟩
theorem Env0.make {P:Program}{w:World}{K:aL}{mg:Str->Option Value}{base:Heap}{A:Around}{outer:List Env}{s:Shared}{H:Hp}(e:Env0 P w K mg base A outer s H)(C:Addr)(us:List Value)(kw:List (Str×Value)) :
  Env0 P w K mg base (A.under (.builtin "type.__call__" ⟨.ref C::us,kw⟩)) outer s H:=⟨by first | exact e.frames | (simpa[Around.under,Code.envs,Code.isFrame,pushEnvs] using e.frames),e.mod,e.bs,e.bsz,e.funs,e.frf,e.hok,e.bare⟩
section
variable {X:Cx}{pins:List (Addr×Obj)}{σ:St}{H:Hp}{s s':Shared}
theorem Inv.env0 (I:Inv X pins σ H s):Env0 X.prog X.w X.K X.mg X.base X.A X.stack s H:=
 ⟨I.ok.frames,I.ok.mod,I.bs,bK I.ok.bsz I.sz,I.stack,I.stkFree,I.hok,I.bare⟩
theorem Inv.after (I:Inv X pins σ H s)(h:CE X.stack X.prog X.w H s Q u s'):EP X pins σ Q u s':=by
 obtain⟨v,H',os,bare,un,hok,r,q⟩:=h;obtain⟨hh,g,d,t,os'⟩:=s';obtain rfl:os'=s.os:=os;exact⟨v,H',I.call (h':=hh) (g':=g) (d':=d) (t':=t) (ch:=[]) un hok bare (fun b z=>absurd z (by simp)),r,q⟩
end
def fV (sp:Sp)(dvs:List V)(E:St->XK)(t:TA):TE:=fun σ H Q=>t σ H fun vs H1=>sp (vs++dvs) H1 Q (E σ)
def eD (C:Addr)(m:Str)(sp:Sp)(dvs:List V)(E:St->XK)(ta:TE)(t:TA):TE:=fun σ H Q=>ta σ H fun x H1=>∃a dx fs,x=.ref a/\H1 a=some (.ins C dx fs)/\fs.lookup m=none /\
 t σ H1 fun vs H2=>sp (x::(vs++dvs)) H2 Q (E σ)
def fN (C:Addr)(sp:Sp)(dvs:List V)(E:St->XK)(t:TA):TE:=fun σ H Q=>t σ H fun vs H1=>∀x dx,H1 x=none->H1 dx=none->dx≠x ->
 sp (.ref x::(vs++dvs)) (upd (upd H1 dx (.own x)) x (.ins C dx [])) (fun v H2=>v=.non/\Q (.ref x) H2) (E σ)
def Binds (K:aL)(fd:FuncData)(ps:List Str)(ds:List Value):Prop:=
 ∀(s:Shared) (us:List Value),K.In s.heap->(us++ds).length=ps.length->BindsTo s fd ⟨us,[]⟩ (ps.zip (us++ds))
theorem Binds.all {K:aL}{fd:FuncData}{ps:List Str}(h:∀us:List Value,us.length=ps.length->bindArgs fd ⟨us,[]⟩=pure (ps.zip us)):Binds K fd ps []:=fun s us _ hl=>by
 rw[List.append_nil] at hl ⊢;exact .of_eq (h us hl)
def aS (CX:gG)(X:Cx)(E:St->XK):Prop:=∀(pins:List (Addr×Obj)) (σ:St) (H:Hp) (s:Shared) (e:Value) (s':Shared),Inv X pins σ H s->CX X.stack H s (E σ) e s'->X.xe e s'
section
variable {X:Cx}{CX:gG}{k:Nat}{f C:Addr}{fd:FuncData}{ps:List Str}{sp:Sp}{dvs:List V}{ds:List Value}{E:St->XK}{x m:Str}{p pos apos:Pos}{e o:Expr}{es:List Expr}{ta:TE}{t:TA}
theorem o3 (F:FnOk X.prog X.w X.K X.mg X.base CX k f fd ps sp)(hr:Room k X.A)(hb:Binds X.K fd ps ds)(hd:Vals dvs ds)(hx:aS CX X E)
  (I:Inv X pins σ H s)(r:Vals vs us)(h:sp (vs++dvs) H Q (E σ)):wpAny (model X.prog X.w) X.A (call (.ref f) us) (EP X pins σ Q) X.xe s:=by
 have r2:Vals (vs++dvs) (us++ds):=r.append hd;have hl:(us++ds).length=ps.length:=by rw[<-r2.length]; exact F.len _ _ _ _ h
 refine wpAny_call (codeAny_mono (F.run X.A X.stack s H ⟨us,[]⟩ (us++ds) (vs++dvs) Q (E σ) hr I.env0 (hb s us I.kIn hl) r2 h) fun r s' hq=>?_);cases r with
 | error e=>exact hx pins σ H s e s' I hq
 | ok fl=>
  cases fl with
  | ret u=>exact I.after hq
  | next=>exact False.elim hq
  | brk=>exact False.elim hq
  | cont=>exact False.elim hq
theorem EE (F:FnOk X.prog X.w X.K X.mg X.base CX k f fd ps sp)(hr:Room k X.A)(hg:Gl X x)(hm:X.mg x=some (.ref f))(hk:PySem.W.keepIn X.K (.ref f)=true)(hb:Binds X.K fd ps ds)(hd:Vals dvs ds)(hx:aS CX X E)
  (ha:PA X (e::es) t)(hdb:(x == ("__debug__" : Str))=false:=by decide)(he:starEach (e::es) X.env=(false,eval e X.env)::starEach es X.env:=by rfl)(hpl:(backTo pos (starEach es X.env)).any (·.1)=false:=by rfl) :
  PE X (.Call (.Name x p) (e::es) [] pos) (fV sp dvs E t):=by
 intro pins s σ H Q I h;refine wpAny_Call_Name_kw (iN I hg hm ?_ hdb);refine PySem.W.callWith_K (h₀:=X.base) I.ok.mod.kin hk (aH (ha pos pins s σ H _ I h) fun us s1 ⟨vs,H1,I1,r,q⟩=>⟨I1.kIn,?_⟩) he hpl;exact o3 F hr hb hd hx I1 r q
theorem y6 (F:FnOk X.prog X.w X.K X.mg X.base CX k f fd ps sp)(hr:Room k X.A)(hg:Gl X x)(hm:X.mg x=some (.ref f))(hk:PySem.W.keepIn X.K (.ref f)=true)(hb:Binds X.K fd ps ds)(hd:Vals dvs ds)(hx:aS CX X E)
  (hdb:(x == ("__debug__" : Str))=false:=by decide):PE X (.Call (.Name x p) [] [] pos) (fV sp dvs E d5):=by
 intro pins s σ H Q I h;refine wpAny_Call_Name_kw (iN I hg hm ?_ hdb);exact PySem.W.callWith_K0 I.kIn hk (o3 (us:=[]) F hr hb hd hx I .nil h)
theorem xw (he:PE X o ta)(c:Cls X.K C)(hm:Meth X.K C m f)(F:FnOk X.prog X.w X.K X.mg X.base CX k f fd ps sp)(hr:Room k X.A)(hb:Binds X.K fd ps ds)(hd:Vals dvs ds)(hx:aS CX X E)(ha:PA X (e::es) t)
  (hst:starEach (e::es) X.env=(false,eval e X.env)::starEach es X.env:=by rfl)(hpl:(backTo pos (starEach es X.env)).any (·.1)=false:=by rfl)
  (ht:eval (.Call (.Attribute o m apos) (e::es) [] pos) X.env=(do
   let ov <-eval o X.env
   standAt apos.atName
   let (f,first) <-holding [ov] (getMethod ov m pl)
   callWith pos f first (backTo pos (starEach (e::es) X.env)) (backToKw pos (keywordEach [] X.env))):=by rfl) :
  PE X (.Call (.Attribute o m apos) (e::es) [] pos) (eD C m sp dvs E ta t):=by
 intro pins s σ H Q I h;refine PySem.W.methodCall_KW (pl:=pl) (aH (he pins s σ H _ I h) fun u s1 hZz=>?_) ht;obtain⟨x,H1,I1,rx,a,dx,fs,ex,ea,l,q⟩:=hZz;subst ex;obtain rfl:u=Value.ref a:=rx;refine vz I1 ea c hm l ?_;refine PySem.W.callWith_K (first:=[.ref a]) (h₀:=X.base) I.ok.mod.kin hm.kp (aH (ha pos pins s1 σ H1 _ I1 q) fun us s2 ⟨vs,H2,I2,r,q2⟩=>⟨I2.kIn,?_⟩) hst hpl;exact o3 (us:=.ref a::us) (vs:=.ref a::vs) F hr hb hd hx I2 (.cons rfl r) q2
theorem Dl (he:PE X o ta)(c:Cls X.K C)(hm:Meth X.K C m f)(F:FnOk X.prog X.w X.K X.mg X.base CX k f fd ps sp)(hr:Room k X.A)(hb:Binds X.K fd ps ds)(hd:Vals dvs ds)(hx:aS CX X E)
  (ht:eval (.Call (.Attribute o m apos) [] [] pos) X.env=(do
   let ov <-eval o X.env
   standAt apos.atName
   let (f,first) <-holding [ov] (getMethod ov m pl)
   callWith pos f first (backTo pos (starEach [] X.env)) (backToKw pos (keywordEach [] X.env))):=by rfl) :
  PE X (.Call (.Attribute o m apos) [] [] pos) (eD C m sp dvs E ta d5):=by
 intro pins s σ H Q I h;refine PySem.W.methodCall_KW (pl:=pl) (aH (he pins s σ H _ I h) fun u s1 hZz=>?_) ht;obtain⟨x,H1,I1,rx,a,dx,fs,ex,ea,l,q⟩:=hZz;subst ex;obtain rfl:u=Value.ref a:=rx;refine vz I1 ea c hm l ?_;exact PySem.W.callWith_K0 (first:=[.ref a]) I1.kIn hm.kp (o3 (us:=[.ref a]) (vs:=[.ref a]) F hr hb hd hx I1 (.cons rfl .nil) q)
structure Mk (K:aL)(C f:Addr):Prop where
 makes:PySem.W.makesIn K C=true
 init:PySem.W.findIn K (.ref C) "__init__" = some (some (.ref f))
 fn:PySem.W.isFn K (.ref f)=true
 kp:PySem.W.keepIn K (.ref C)=true
theorem wX (M:Mk X.K C f)(F:FnOk X.prog X.w X.K X.mg X.base CX k f fd ps sp)(hr:Room (k+1) X.A)(hb:Binds X.K fd ps ds)(hd:Vals dvs ds)
  (hx:aS CX X E)(I:Inv X pins σ H s)(r:Vals vs us)
  (h:∀x dx,H x=none->H dx=none->dx≠x->sp (.ref x::(vs++dvs)) (upd (upd H dx (.own x)) x (.ins C dx [])) (fun v H2=>v=.non/\Q (.ref x) H2) (E σ)) :
  wpAny (model X.prog X.w) X.A (call (.ref C) us) (EP X pins σ Q) X.xe s:=by
 have hq:=h (s.heap.objs.size+1) s.heap.objs.size (I.hok.fresh (Nat.le_succ _)) (I.hok.fresh (bb _)) (cQ (Nat.lt_succ_self _));have I2:=Inv.made (C:=C) I;have r2:Vals (V.ref (s.heap.objs.size+1)::(vs++dvs)) (Value.ref (s.heap.objs.size+1)::(us++ds)):=.cons rfl (r.append hd);have hl:(Value.ref (s.heap.objs.size+1)::us++ds).length=ps.length:=by
  have e:=r2.length;rw[F.len _ _ _ _ hq] at e;exact e.symm
 refine wpAny_call (DQ (f:=f) I.kIn M.makes M.init (beq_iff_eq.mp M.fn) (codeAny_mono (F.run _ X.stack _ _ ⟨Value.ref (s.heap.objs.size+1)::us,[]⟩ (Value.ref (s.heap.objs.size+1)::(us++ds)) _ _ (E σ) (hr.make C us [])
  (I2.env0.make C us []) (hb _ (Value.ref (s.heap.objs.size+1)::us) I2.kIn hl) r2 hq) fun r s' hq'=>?_))
 cases r with
 | error e=>exact hx pins σ _ _ e s' I2 hq'
 | ok fl=>
  cases fl with
  | ret u=>
   obtain⟨v,H',I3,rv,ev,q3⟩:=I2.after hq';subst ev;exact⟨rv,⟨V.ref (s.heap.objs.size+1),H',I3,rfl,q3⟩⟩
  | next=>exact False.elim hq'
  | brk=>exact False.elim hq'
  | cont=>exact False.elim hq'
theorem BA (M:Mk X.K C f)(F:FnOk X.prog X.w X.K X.mg X.base CX k f fd ps sp)(hr:Room (k+1) X.A)(hg:Gl X x)(hm:X.mg x=some (.ref C))(hb:Binds X.K fd ps ds)(hd:Vals dvs ds)(hx:aS CX X E)
  (ha:PA X (e::es) t)(hdb:(x == ("__debug__" : Str))=false:=by decide)(he:starEach (e::es) X.env=(false,eval e X.env)::starEach es X.env:=by rfl)(hpl:(backTo pos (starEach es X.env)).any (·.1)=false:=by rfl) :
  PE X (.Call (.Name x p) (e::es) [] pos) (fN C sp dvs E t):=by
 intro pins s σ H Q I h;refine wpAny_Call_Name_kw (iN I hg hm ?_ hdb);refine PySem.W.callWith_K (h₀:=X.base) I.ok.mod.kin M.kp (aH (ha pos pins s σ H _ I h) fun us s1 ⟨vs,H1,I1,r,q⟩=>⟨I1.kIn,?_⟩) he hpl;exact wX M F hr hb hd hx I1 r q
theorem Dr (M:Mk X.K C f)(F:FnOk X.prog X.w X.K X.mg X.base CX k f fd ps sp)(hr:Room (k+1) X.A)(hg:Gl X x)(hm:X.mg x=some (.ref C))(hb:Binds X.K fd ps ds)(hd:Vals dvs ds)(hx:aS CX X E)
  (hdb:(x == ("__debug__" : Str))=false:=by decide):PE X (.Call (.Name x p) [] [] pos) (fN C sp dvs E d5):=by
 intro pins s σ H Q I h;refine wpAny_Call_Name_kw (iN I hg hm ?_ hdb);exact PySem.W.callWith_K0 I.kIn M.kp (wX (us:=[]) M F hr hb hd hx I .nil h)
end
section
variable {X:Cx}{CX:gG}{k:Nat}{f C:Addr}{fd:FuncData}{ps ks:List Str}{sp:Sp}{E:St->XK}{x m:Str}{p pos apos kpos:Pos}{e o:Expr}{es:List Expr}{kws:List Keyword}{te ta:TE}{t tk:TA}{nm:Option Str}
variable {g:List Value->List Value->List Value}{gV:List V->List V->List V}
end
structure FnScope (N P:List Str)(sc:Scope):Prop where
 kind:sc.kind=.function
 co:sc.isCoroutine=false
 gen:sc.isGenerator=false
 nd:N.Nodup
 pre:N.take P.length=P
 par:∀x∈P,sc.names.lookup x=some .local\/sc.names.lookup x=some .cell
 nofree:∀y∈sc.names,y.2≠.free
theorem uS {kindOf:Str->Option NameKind}{x:Str}:∀{binds:List (Str×Value)} {m:Str->Option Value},(∀v,(x,v)∉binds)->bindL kindOf binds m x=m x
 | [],_,_=>rfl
 | (n,v)::r,m,h=>by
  unfold bindL;rw[uS fun w hw=>h w (List.mem_cons_of_mem _ hw)];split
  ·have:x≠n:=by rintro rfl; exact h v bM
   simp[this]
  ·rfl
theorem xa {kindOf:Str->Option NameKind}{x:Str}:∀{binds:List (Str×Value)} {m:Str->Option Value},(∀v,(x,v)∉binds)->bindC kindOf binds m x=m x
 | [],_,_=>rfl
 | (n,v)::r,m,h=>by
  unfold bindC;rw[xa fun w hw=>h w (List.mem_cons_of_mem _ hw)];split
  ·rfl
  ·have:x≠n:=by rintro rfl; exact h v bM
   simp[this]
theorem wI {kindOf:Str->Option NameKind}{x:Str}{v:Value}:∀{P:List Str} {vs:List Value} {i:Nat} {m:Str->Option Value},P.Nodup->P[i]? = some x->vs[i]? = some v->kindOf x=some .local ->
  bindL kindOf (P.zip vs) m x=some v
 | [],_,_,_,_,h,_,_=>by simp at h
 | _::_,[],_,_,_,_,h,_=>by simp at h
 | p::P,w::vs,0,m,nd,h1,h2,hk=>by
  simp at h1 h2; subst h1; subst h2;show bindL kindOf ((p,w)::P.zip vs) m p=_;unfold bindL;rw[uS fun v hv=>(List.nodup_cons.mp nd).1 (List.of_mem_zip hv).1,if_pos hk];simp
 | p::P,w::vs,i+1,m,nd,h1,h2,hk=>by
  show bindL kindOf ((p,w)::P.zip vs) m x=_;unfold bindL;exact wI (i:=i) (List.nodup_cons.mp nd).2 (by simpa using h1) (by simpa using h2) hk
theorem vo {kindOf:Str->Option NameKind}{x:Str}{v:Value}:∀{P:List Str} {vs:List Value} {i:Nat} {m:Str->Option Value},P.Nodup->P[i]? = some x->vs[i]? = some v->kindOf x≠some .local ->
  bindC kindOf (P.zip vs) m x=some v
 | [],_,_,_,_,h,_,_=>by simp at h
 | _::_,[],_,_,_,_,h,_=>by simp at h
 | p::P,w::vs,0,m,nd,h1,h2,hk=>by
  simp at h1 h2; subst h1; subst h2;show bindC kindOf ((p,w)::P.zip vs) m p=_;unfold bindC;rw[xa fun v hv=>(List.nodup_cons.mp nd).1 (List.of_mem_zip hv).1,if_neg hk];simp
 | p::P,w::vs,i+1,m,nd,h1,h2,hk=>by
  show bindC kindOf ((p,w)::P.zip vs) m x=_;unfold bindC;exact vo (i:=i) (List.nodup_cons.mp nd).2 (by simpa using h1) (by simpa using h2) hk
noncomputable def start (N:List Str)(vs:List V):St:=vs.map some++List.replicate (N.length - vs.length) none
noncomputable def d9 (CX:gG)(P:Program)(w:World)(K:aL)(mg:Str->Option Value)(base:Heap)(N:List Str)(qual:Str)(scope:Scope)(f:Addr)(cd:Value)(A:Around)(outer:List Env)(s:Shared)(H:Hp)(E:XK):Cx where
 prog:=P
 w:=w
 K:=K
 mg:=mg
 base:=base
 A:=A.deeper (envOfC qual scope s.heap.objs.size f cd)
 N:=N
 s₀:=s
 H₀:=H
 env:=envOfC qual scope s.heap.objs.size f cd
 outer:=outer
 stack:=envOfC qual scope s.heap.objs.size f cd::outer
 ex:=[]
 calm:=true
 fn:=fun _=>true
 pn:=[]
 xe:=fun e s'=>wpAny (model P w) (A.deeper (envOfC qual scope s.heap.objs.size f cd)) (leaving (envOfC qual scope s.heap.objs.size f cd) e) (fun _ s''=>CX outer H s E e s'') (fun e' s''=>CX outer H s E e' s'') s'
theorem xb {sc:Scope}{n:Nat}{x:Str}(h:sc.names.lookup x=some .cell):∃c,(cellsFrom n sc.names []).lookup x=some c:=by
 have q:=PySem.W.cellsFrom_some sc.names n [] (.inl h);exact Option.isSome_iff_exists.mp q
theorem BC {CX:gG}{P:Program}{w:World}{K:aL}{mg:Str->Option Value}{base:Heap}{N ps:List Str}{qual:Str}{scope:Scope}{f:Addr}{cd:Value}{A:Around}{outer:List Env}{s s1:Shared}{H:Hp}{E:XK}{us:List Value}{vs:List V}
  (S:FnScope N ps scope)(hd:A.handled=none)(e0:Env0 P w K mg base A outer s H)(hl:vs.length=ps.length)(r:Vals vs us)
  (x:InCallC s s.heap.objs.size (bindL (envOfC qual scope s.heap.objs.size f cd).kindOf (ps.zip us) fun _=>none) (cellsFrom (s.heap.objs.size+1) scope.names []) (bindC (envOfC qual scope s.heap.objs.size f cd).kindOf (ps.zip us) fun _=>none) s1) :
  Inv (d9 CX P w K mg base N qual scope f cd A outer s H E) [] (start N vs) H s1:=by
 have hpl:ps.length<=N.length:=by have:=congrArg List.length S.pre; rw[List.length_take] at this; omega
 obtain⟨h1,tk,rfl,hk⟩:=x.done;have noA:∀b:Addr,b∉(d9 CX P w K mg base N qual scope f cd A outer s H E).ex:=fun b z=>absurd (show b∈([]:List Addr) from z) (by simp);refine⟨⟨e0.mod,S.kind,rfl,rfl,bb _,fun y z c h1 h2=>?_,fun y hy=>?_,fun y c _ h=>?_,fun _=>hd,Around.frames_deeper e0.frames,.inr ⟨rfl,rfl⟩,fun b z=>absurd z (noA b),e0.bs,e0.bsz,fun b _ _=>noA b,fun b z=>absurd z (noA b),e0.funs,e0.frf⟩,
  rfl,e0.bare,Un.kept hk,⟨_,x.toInCall.ns,fun i y v h1 h2 h3=>?_⟩,fun y c h=>⟨_,x.cell y c h⟩,e0.hok.fresh (bb _),fun y c h=>?_,fun p hp=>absurd (show p∈([]:List (Addr×Obj)) from hp) (by simp),e0.hok.kept hk,?_⟩
 ·exact name_of_addr x.apart (PySem.mem_of_lookup h1) (PySem.mem_of_lookup h2)
 ·have hy:scope.names.lookup y=some .cell\/scope.names.lookup y=some .free:=hy;rcases hy with hy | hy
  ·exact xb hy
  ·exact absurd rfl (S.nofree _ (PySem.mem_of_lookup hy))
 ·exact Nat.le_of_lt (x.above y c (PySem.mem_of_lookup h))
 ·have hi:i<vs.length:=by
   unfold start at h2;by_cases hi:i<vs.length
   ·exact hi
   ·rw[List.getElem?_append_right (by simpa using hi)] at h2;rw[List.getElem?_replicate] at h2;split at h2 <;> cases h2
  have ha:vs[i]? = some v:=by
   unfold start at h2;rw[List.getElem?_append_left (by simpa using hi),List.getElem?_map] at h2;cases e:vs[i]? with
   | none=>rw[e] at h2; cases h2
   | some a=>rw[e] at h2; cases h2; rfl
  obtain⟨u,hu,rv⟩:=r.get ha;have hp:ps[i]? = some y:=by
   rw[<-S.pre,List.getElem?_take_of_lt (by omega)]; exact h1
  have ndP:ps.Nodup:=by rw[<-S.pre]; exact S.nd.sublist (List.take_sublist _ _)
  refine⟨u,rv,?_⟩;rcases S.par y (List.mem_of_getElem? hp) with k | k
  ·exact .inl ⟨k,wI ndP hp hu k⟩
  ·obtain⟨c,e⟩:=xb (n:=s.heap.objs.size+1) k;refine .inr ⟨.inl k,c,e,?_⟩;have q:=x.cell y c e;rw[vo ndP hp hu (by show scope.names.lookup y≠_; rw[k]; decide)] at q;exact q
 ·exact e0.hok.fresh (Nat.le_of_lt (x.above y c (PySem.mem_of_lookup h)))
 ·unfold start;show _=N.length;rw[List.length_append,List.length_map,List.length_replicate];omega
theorem GB {CX:gG}{P:Program}{w:World}{K:aL}{mg:Str->Option Value}{base:Heap}{k:Nat}{f:Addr}{name qual:Str}{params:Arguments}{body:List Stmt}{scope:Scope}{dV kV doc pm cdv ct oc:Value}{an od:Option Addr}
  {osl:Array (Option Value)}{N ps:List Str}{sp:Sp}(lk:K.lookup f=some ⟨oc,od,.func (PySem.W.fnOf name qual params body scope dV kV doc pm an cdv ct),osl⟩)(hcd:PySem.W.codeIn K cdv qual=true)(S:FnScope N ps scope)
  (len:∀vs H Q E,sp vs H Q E->vs.length=ps.length)
  (hbody:∀(A:Around) (outer:List Env) (s:Shared) (H:Hp) (vs:List V) (Q:VK) (E:XK),Room k (A.deeper (envOfC qual scope s.heap.objs.size f cdv))->sp vs H Q E ->
   ∃t,PSs (d9 CX P w K mg base N qual scope f cdv A outer s H E) body t/\t { nx:=fun _ H'=>Q .non H',rt:=Q } (start N vs) H) :
  FnOk P w K mg base CX (k+1) f (PySem.W.fnOf name qual params body scope dV kV doc pm an cdv ct) ps sp:=by
 refine⟨len,fun A outer s H args us vs Q E hr e0 hb r hsp=>?_⟩;have hl:=len _ _ _ _ hsp;have KX:K.In s.heap:=e0.mod.kin.keeps fun b o e=>(e0.bs b o e).1;have lim:s.heap.NoLimit:=e0.mod.nolimit.keeps fun b o e=>(e0.bs b o e).1;have hkind:∀y∈ps.zip us,scope.names.lookup y.1=some .local\/(scope.names.lookup y.1=some .cell/\((cellsFrom (s.heap.objs.size+1) scope.names []).lookup y.1).isSome=true):=fun⟨n,v⟩ hy=>by
  rcases S.par n (List.of_mem_zip hy).1 with q | q
  ·exact .inl q
  ·exact .inr ⟨q,PySem.W.cellsFrom_some _ _ _ (.inl q)⟩
 refine codeAny_call_function hr.depth (KX _ _ lk) rfl S.co S.gen rfl (PySem.W.codeRec_of KX hcd) (hb _ _ _ _ ?_);refine wpAny_newFunctionEnv_cells S.kind hkind fun env he s1 x=>?_;subst he;refine⟨lim.keeps x.toInCall.keep,codeAny_func ?_⟩;obtain⟨t,ht,hq⟩:=hbody A outer s H vs Q E (hr.deeper _) hsp;have I:Inv (d9 CX P w K mg base N qual scope f cdv A outer s H E) [] (start N vs) H s1:=BC S hr.hd e0 hl r x;refine wpAny_mono (ht [] s1 (start N vs) H _ I hq) (fun fl s' hs=>?_) fun e s' hs=>hs;have fin:∀{σ':St} {H':Hp} {v:V} {u:Value},Inv (d9 CX P w K mg base N qual scope f cdv A outer s H E) [] σ' H' s'->RelV v u->Q v H'->CE outer P w H s Q u s':=
  fun {σ' H' v u} J rv q=>⟨v,H',J.os,J.bare,J.base,J.hok,rv,q⟩
 cases fl with
 | ret u=>
  obtain⟨v,σ',H',J,rv,q⟩:=hs;exact fin J rv q
 | next=>
  obtain⟨σ',H',J,q⟩:=hs;exact fin (v:=V.non) (u:=Value.none) J rfl q
 | brk=>
  obtain⟨_,_,_,q⟩:=hs;exact False.elim q
 | cont=>
  obtain⟨_,_,_,q⟩:=hs;exact False.elim q
end L2
namespace L2
open PySem PySem.Spec PyProof.Rows
section
variable {X:Cx}{x:Str}{p pos:Pos}{e:Expr}{es:List Expr}{t:TA}{id T:String}{r:List V->Hp->VK->Prop}
def og (r:List V->Hp->VK->Prop)(t:TA):TE:=fun σ H Q=>t σ H fun vs H1=>r vs H1 Q
theorem lZ (hc:CallR X (.builtin id) r)(hg:Gl X x)(hm:X.mg x=none)(hv:bootBuiltins x=some (.builtin id))(ha:PA X (e::es) t)(hn:x ≠ "__name__":=by decide)(hdb:(x == ("__debug__" : Str))=false:=by decide)
  (he:starEach (e::es) X.env=(false,eval e X.env)::starEach es X.env:=by rfl)(hpl:(backTo pos (starEach es X.env)).any (·.1)=false:=by rfl):PE X (.Call (.Name x p) (e::es) [] pos) (og r t):=by
 intro pins s σ H Q I h;refine wpAny_Call_Name_kw (i7 I hg hm hv ?_ hn hdb);exact PyProof.Rows.callWith_builtin1 (aH (ha pos pins s σ H _ I h) fun us s1 ⟨vs,H1,I1,r1,q1⟩=>hc pins s1 σ H1 vs us Q I1 r1 q1) he hpl
theorem rz (hc:CallR X (.type T) r)(hg:Gl X x)(hm:X.mg x=none)(hv:bootBuiltins x=some (.type T))(ha:PA X (e::es) t)(hn:x ≠ "__name__":=by decide)(hdb:(x == ("__debug__" : Str))=false:=by decide)
  (he:starEach (e::es) X.env=(false,eval e X.env)::starEach es X.env:=by rfl)(hpl:(backTo pos (starEach es X.env)).any (·.1)=false:=by rfl):PE X (.Call (.Name x p) (e::es) [] pos) (og r t):=by
 intro pins s σ H Q I h;refine wpAny_Call_Name_kw (i7 I hg hm hv ?_ hn hdb);exact PyProof.Rows.callWith_type1 (aH (ha pos pins s σ H _ I h) fun us s1 ⟨vs,H1,I1,r1,q1⟩=>hc pins s1 σ H1 vs us Q I1 r1 q1) he hpl
end
end L2
namespace HT
open PySem PyProof.Rows
section
open PySem.SeqAt
open PySem.AutoSeq1 (wpAny_loadPart')
open PySem.MeetsSeq PySem.MeetsSeq2 PySem.MeetsSeq3
end
section
variable {prog:Program}{w:World}{A:Around}{E:Value->Shared->Prop}{s:Shared}
theorem cat_tup (ht:IsTup s.heap t vs.toArray)(hb:IsTup s.heap b ws.toArray)(hv:vs≠[])
  (h1:ws=[]->Q (.ref t) s)(h2:ws≠[]->Q (.ref s.heap.objs.size) { s with heap:=s.heap.push { cls:=.type "tuple",data:=.seq (vs++ws).toArray } })
  (hsz:vs.length+ws.length<=sizeLine):wpAny (model prog w) A (binaryOp .Add (.ref t) (.ref b)) Q E s:=by
 obtain⟨⟨cls,dd,data,sl⟩,ho,hc,n,hd⟩:=id ht;obtain⟨⟨cls2,dd2,data2,sl2⟩,ho2,hc2,n2,hd2⟩:=id hb;simp only at hc hd hc2 hd2;subst hc hd hc2 hd2;have e:vs.toArray++ws.toArray=(vs++ws).toArray:=by simp
 by_cases hw:ws=[]
 ·exact concat_meets ⟨_,ho,rfl⟩ ⟨_,ho2,rfl⟩ noFill_tuple_add seq_tuple_add PySem.F.slot_tuple_add PySem.F.entry_tuple_add (PySem.F.args_tuple_add_2 _ _)
   (tuple_addW1 t b vs.toArray ws.toArray n n2 dd dd2 sl sl2 (by simpa using hv) (by simp[hw])) ⟨ho,ho2,h1 hw⟩
 ·refine concat_meets ⟨_,ho,rfl⟩ ⟨_,ho2,rfl⟩ noFill_tuple_add seq_tuple_add PySem.F.slot_tuple_add PySem.F.entry_tuple_add (PySem.F.args_tuple_add_2 _ _)
   (tuple_addW2 t b vs.toArray ws.toArray n n2 dd dd2 sl sl2 (by simpa using hv) (by simpa using hw) (by rw[List.size_toArray,List.size_toArray]; exact hsz)) ⟨ho,ho2,?_⟩
  rw[e];exact h2 hw
noncomputable def sIx (n d:Nat):Option Int->Nat
 | none=>d
 | some v=>if v<0 then (v+(n:Int)).toNat else min v.toNat n
theorem DJ (n d:Nat)(hd:d<=n)(o:Option Int):sIx n d o<=n:=by
 cases o with
 | none=>exact hd
 | some v=>
  show (if v<0 then (v+(n:Int)).toNat else min v.toNat n)<=n;by_cases hv:v<0
  ·rw[if_pos hv]; omega
  ·rw[if_neg hv]; exact Nat.min_le_right _ _
theorem tJ (v:Int)(n d:Nat):(if v<0 then max (v+(n:Int)) 0 else min v (n:Int))=((sIx n d (some v):Nat):Int):=by
 show (if v<0 then max (v+(n:Int)) 0 else min v (n:Int))=(((if v<0 then (v+(n:Int)).toNat else min v.toNat n):Nat):Int);by_cases hv:v<0
 ·simp only[if_pos hv]; omega
 ·simp only[if_neg hv]; omega
theorem GL (lo hi:Option Int)(n:Nat):Builtin.Slice.sliceAdjust lo hi 1 (n:Int)=(((sIx n 0 lo:Nat):Int),((sIx n n hi:Nat):Int)):=by
 have h1:¬((1:Int)<0):=by omega
 unfold Builtin.Slice.sliceAdjust;simp only[h1,if_false];refine Prod.ext ?_ ?_
 ·cases lo with
  | none=>rfl
  | some v=>exact tJ v n 0
 ·cases hi with
  | none=>rfl
  | some v=>exact tJ v n n
theorem D0 (i j:Nat):Builtin.Slice.slicePlaces (i:Int) (j:Int) 1=j - i:=by
 unfold Builtin.Slice.slicePlaces;have h1:(1:Int) > 0:=by omega
 simp only[h1,if_true,Int.ediv_one];split <;> omega
theorem vI (p:IsPart v o)(h:Q o s):wpAny (model prog w) A (Builtin.Slice.slicePartIndex v) Q E s:=by
 cases p with
 | none=>exact slicePart_none h
 | int i t=>exact slicePart_int h
theorem sliceApplied_gen {sl:Addr}{vl vu:Value}{lo hi:Option Int}{n:Nat}{Q:Int×Int×Nat->Shared->Prop}(hs:s.heap.IsSliceOf sl vl vu .none)(pl:IsPart vl lo)(pu:IsPart vu hi)
  (h:Q (((sIx n 0 lo:Nat):Int),1,sIx n n hi - sIx n 0 lo) s):wpAny (model prog w) A (Builtin.Slice.sliceApplied (.ref sl) (pure (n:Int))) Q E s:=by
 obtain⟨os,hos,hcs,hds⟩:=id hs;unfold Builtin.Slice.sliceApplied Builtin.Slice.sliceFields;refine ai (ai (wpAny_field hos hds (x:=vl) rfl (ai (wpAny_field hos hds (x:=vu) rfl (ai (wpAny_field hos hds (x:=.none) rfl (aG ?_)))))));refine ai (slicePart_none ?_);show wpAny _ _ (if ((1:Int) == 0)=true then _ else _) _ _ s;rw[if_neg (by decide)];refine ai (vI pl (ai (vI pu (ai (aG ?_)))));show wpAny _ _ (match Builtin.Slice.sliceAdjust lo hi 1 (n:Int) with | (lo,hi)=>pure (lo,(1:Int),Builtin.Slice.slicePlaces lo hi 1)) _ _ s;rw[GL lo hi n];show wpAny _ _ (pure (((sIx n 0 lo:Nat):Int),(1:Int),Builtin.Slice.slicePlaces ((sIx n 0 lo:Nat):Int) ((sIx n n hi:Nat):Int) 1)) _ _ s;rw[D0];exact aG h
theorem BR (xs:Array Value)(i k:Nat):((List.range k).filterMap fun (m:Nat)=>xs[((i:Int)+(m:Int) * 1).toNat]?).toArray=((xs.toList.drop i).take k).toArray:=by
 have e:(fun (m:Nat)=>xs[((i:Int)+(m:Int) * 1).toNat]?)=fun m=>xs[i+m]?:=by
  funext m
  have:((i:Int)+(m:Int) * 1).toNat=i+m:=by omega
  rw[this]
 rw[e];have:=pick_run xs i k;rw[List.filterMap_map] at this;have e2:((fun x=>xs[x]?) ∘ fun x=>i+x)=fun m=>xs[i+m]?:=rfl;rw[e2] at this;rw[this]
theorem getItem_tuple_cut {t sl:Addr}{items:Array Value}{vl vu:Value}{lo hi:Option Int}{Q:Value->Shared->Prop}(ht:IsTup s.heap t items)(hs:s.heap.IsSliceOf sl vl vu .none)(pl:IsPart vl lo)(pu:IsPart vu hi)
  (hw:¬(sIx items.size 0 lo=0/\sIx items.size items.size hi=items.size))
  (h:Q (.ref s.heap.objs.size) { s with heap:=s.heap.push { cls:=.type "tuple",data:=.seq ((items.toList.drop (sIx items.size 0 lo)).take (sIx items.size items.size hi - sIx items.size 0 lo)).toArray } })
  (hsz:items.size<=sizeLine):wpAny (model prog w) A (getItem (.ref t) (.ref sl)) Q E s:=by
 have htake:sizeOk (.seq ((items.toList.drop (sIx items.size 0 lo)).take (sIx items.size items.size hi - sIx items.size 0 lo)).toArray):=by
  show ((items.toList.drop (sIx items.size 0 lo)).take (sIx items.size items.size hi - sIx items.size 0 lo)).toArray.size<=sizeLine;rw[List.size_toArray,List.length_take,List.length_drop,Array.length_toList];omega
 have hj:sIx items.size items.size hi<=items.size:=DJ _ _ (bb _) hi;obtain⟨os,hos,hcs,hds⟩:=id hs;have hTs:s.TypeIs (.ref sl) "slice":=⟨os,hos,hcs⟩
 unfold getItem;try with_reducible refine wpAny_holding ?_
 first | refine ai (aG ?_) | skip
 refine ai (wpAny_sequenceKey ht.typeIs (by decide) ?_);refine ai (wpAny_callSpecial?_slot (name:=Str.ofString "__getitem__") ht.typeIs PyProof.Rows.slot_tuple_getitem
  (wpAny_call_entry PyProof.Rows.slot_tuple_getitem ht.typeIs entry_tuple_getitem ?_ (args_tuple_getitem _ _)))
 show wpAny _ _ (Builtin.Tuple.tupleItemsOf (.ref t) >>= _) _ _ s;refine ai (tupleItemsOf_ ht ?_);refine ai (wpAny_typeOf hTs ?_);rw[if_pos (by decide)];refine ai (sliceApplied_gen hs pl pu ?_);have hno:¬((((sIx items.size 0 lo:Nat):Int) == 0&&(1:Int) == 1&&(sIx items.size items.size hi - sIx items.size 0 lo) == items.size)=true):=by
  intro q;rw[Bool.and_eq_true,Bool.and_eq_true] at q;have q1:((sIx items.size 0 lo:Nat):Int)=0:=eq_of_beq q.1.1;have q2:sIx items.size items.size hi - sIx items.size 0 lo=items.size:=eq_of_beq q.2;exact hw ⟨by omega,by omega⟩
 show wpAny _ _ (if (((sIx items.size 0 lo:Nat):Int) == 0&&(1:Int) == 1&&(sIx items.size items.size hi - sIx items.size 0 lo) == items.size)=true then _ else _) _ _ s;rw[if_neg hno,BR];first
  | exact ai (m:=Builtin.Tuple.tupleExact _) (wpAny_newObj_type (aG ⟨_,rfl,aG h⟩) htake)
  | exact ai (m:=Builtin.Tuple.tupleExact _) (wpAny_newObj_type (ai (aG (aG ⟨_,rfl,aG h⟩))) htake)
  | exact ai (ai (m:=Builtin.Tuple.tupleExact _) (wpAny_newObj_type (aG (aG ⟨_,rfl,aG h⟩)) htake))
  | exact ai (ai (m:=Builtin.Tuple.tupleExact _) (wpAny_newObj_type (aG ⟨_,rfl,aG h⟩) htake))
end
end HT
namespace L2
open PySem PySem.Spec PyProof.Rows
abbrev TO:=St->Hp->(Option Int->Hp->Prop)->Prop
def PO (X:Cx)(e:Option Expr)(t:TO):Prop:=
 ∀(pins:List (Addr×Obj)) (s:Shared) (σ:St) (H:Hp) (Q:Option Int->Hp->Prop),Inv X pins σ H s->t σ H Q ->
  wpAny (model X.prog X.w) X.A (evalPart e X.env) (fun u s'=>∃o H',Inv X pins σ H' s'/\IsPart u o/\Q o H') X.xe s
def ik:TO:=fun _ H Q=>Q none H
def mG (t:TE):TO:=fun σ H Q=>t σ H fun x H1=>∃i,x=.int i/\Q (some i) H1
section
variable {X:Cx}{e:Expr}{te:TE}{lo hi:Option Expr}{tl th:TO}{pos p2:Pos}
theorem wG:PO X none ik:=by
 intro pins s σ H Q I h;rw[evalPart_none];exact aG ⟨none,H,I,.none,h⟩
theorem oN (h:PE X e te):PO X (some e) (mG te):=by
 intro pins s σ H Q I hw;rw[evalPart_some];refine aH (h pins s σ H _ I hw) fun u s1 hZz=>?_;obtain⟨x,H1,I1,r1,q1⟩:=hZz;obtain⟨i,rfl,q⟩:=q1;obtain⟨t,rfl⟩:=r1;exact⟨some i,H1,I1,.int i t,q⟩
def SlR (X:Cx)(r:V->Option Int->Option Int->Hp->VK->Prop):Prop:=
 ∀(pins:List (Addr×Obj)) (s:Shared) (σ:St) (H:Hp) (x:V) (v vl vu:Value) (lo hi:Option Int) (sl:Addr) (Q:VK),Inv X pins σ H s->RelV x v->s.heap.IsSliceOf sl vl vu .none->IsPart vl lo->IsPart vu hi->r x lo hi H Q ->
  ∃T id,typeLookup (.type T) "__getitem__" = pure (some (.builtin id))/\s.TypeIs v T/\wpAny (model X.prog X.w) X.A (getItem v (.ref sl)) (EP X pins σ Q) X.xe s
theorem SlR.or (h:SlR X r)(h':SlR X r'):SlR X (fun x lo hi H Q=>r x lo hi H Q\/r' x lo hi H Q):=by
 intro pins s σ H x v vl vu lo hi sl Q I rx hs pl pu q;rcases q with q | q
 ·exact h pins s σ H x v vl vu lo hi sl Q I rx hs pl pu q
 ·exact h' pins s σ H x v vl vu lo hi sl Q I rx hs pl pu q
def Gp (r:V->Option Int->Option Int->Hp->VK->Prop)(te:TE)(tl th:TO):TE:=fun σ H Q=>te σ H fun x H1=>tl σ H1 fun l H2=>th σ H2 fun u H3=>r x l u H3 Q
theorem pW (hr:SlR X r)(he:PE X e te)(hl:PO X lo tl)(hu:PO X hi th):PE X (.Subscript e (.Slice lo hi none p2) pos) (Gp r te tl th):=by
 intro pins s σ H Q I h;refine Subscript_ (aH (he pins s σ H _ I h) fun v s1 hZz=>?_);obtain⟨x,H1,I1,r1,q1⟩:=hZz;refine wpAny_Slice (aH (hl pins s1 σ H1 _ I1 q1) fun vl s2 ⟨l,H2,I2,pl,q2⟩=>aH (hu pins s2 σ H2 _ I2 q2) fun vu s3 hZz=>?_);obtain⟨u,H3,I3,pu,q3⟩:=hZz;rw[evalPart_none];refine aG ?_;have I4:Inv X pins σ H3 { s3 with heap:=s3.heap.push { cls:=.type "slice",data:=.fields #[vl,vu,.none] } }:=I3.kept (t':=s3.toks) fun b ob q=>bI _ q;obtain⟨T,id,hT,ht,hg⟩:=hr pins { s3 with heap:=s3.heap.push { cls:=.type "slice",data:=.fields #[vl,vu,.none] } } σ H3 x v vl vu l u s3.heap.objs.size Q I4 r1 (Heap.IsSliceOf.new ..) pl pu q3;show wpAny (model X.prog X.w) X.A (subscriptTail e (.Slice lo hi none p2) v (.ref s3.heap.objs.size)) (EP X pins σ Q) X.xe { s3 with heap:=s3.heap.push { cls:=.type "slice",data:=.fields #[vl,vu,.none] } };exact tail_any (ops:=[.ref s3.heap.objs.size,v]) ht hT hg (by with_unfolding_all rfl)
noncomputable def dh (xs:List V)(lo hi:Option Int):List V:=(xs.drop (HT.sIx xs.length 0 lo)).take (HT.sIx xs.length xs.length hi - HT.sIx xs.length 0 lo)
theorem vy (xs:List V)(lo hi:Option Int):(dh xs lo hi).length<=xs.length:=by
 unfold dh;rw[List.length_take,List.length_drop];omega
def rR (K:aL):V->Option Int->Option Int->Hp->VK->Prop:=fun x lo hi H Q=>∃a xs,x=.ref a/\SqT K H a xs /\
 ¬(HT.sIx xs.length 0 lo=0/\HT.sIx xs.length xs.length hi=xs.length)/\∀p,H p=none->Q (.ref p) (upd H p (.tup (dh xs lo hi)))
theorem Dj:SlR X (rR X.K):=by
 intro pins s σ H x v vl vu lo hi sl Q I rx hs pl pu h;obtain⟨a,xs,rfl,hx,hw,q⟩:=h;cases rx;obtain⟨its,r,ht,hz⟩:=I.tuple hx;have hlen:its.toArray.size=xs.length:=by rw[List.size_toArray]; exact r.length.symm
 refine⟨"tuple",_,PyProof.Rows.slot_tuple_getitem.lookup,ht.typeIs,?_⟩;refine HT.getItem_tuple_cut ht hs pl pu (by rw[hlen]; exact hw) ?_ (by rw[hlen]; exact hz);rw[hlen];refine⟨.ref s.heap.objs.size,_,I.laid (t':=s.toks) (o:=.tup (dh xs lo hi)) (fun b ob q=>bI _ q) (bb _) ?_,rfl,q _ (I.hok.fresh (bb _))⟩;exact⟨bK (vy xs lo hi) hz,_,(r.drop (HT.sIx xs.length 0 lo)).take (HT.sIx xs.length xs.length hi - HT.sIx xs.length 0 lo),TupN.new _ _⟩
def mX (K:aL):R2:=fun x y H Q=>∃a b xs ys,x=.ref a/\y=.ref b/\SqT K H a xs/\SqT K H b ys/\xs≠[]/\xs.length+ys.length<=sizeLine /\
 (ys=[]->Q (.ref a) H)/\(ys≠[]->∀p,H p=none->Q (.ref p) (upd H p (.tup (xs++ys))))
theorem Vals.nil_iff (r:Vals xs us):us=[]↔xs=[]:=by
 cases r with
 | nil=>simp
 | cons _ _=>simp
theorem EK:OpR X (binaryOp .Add) (mX X.K):=by
 intro pins s σ H x y v u Q I rx ry h;obtain⟨a,b,xs,ys,rfl,rfl,ha,hb,hx,hz,q1,q2⟩:=h;cases rx;cases ry;obtain⟨its,r1,p1,_⟩:=I.tuple ha;obtain⟨its2,r2,p2,_⟩:=I.tuple hb;refine HT.cat_tup p1 p2 (fun z=>hx (r1.nil_iff.mp z)) (fun z=>⟨.ref a,H,I,rfl,q1 (r2.nil_iff.mp z)⟩) (fun z=>?_) (by rw[<-r1.length,<-r2.length]; exact hz);refine⟨.ref s.heap.objs.size,_,I.laid (t':=s.toks) (o:=.tup (xs++ys)) (fun b ob q=>bI _ q) (bb _) ?_,rfl,q2 (fun w=>z (r2.nil_iff.mpr w)) _ (I.hok.fresh (bb _))⟩;exact⟨by rw[List.length_append]; exact hz,_,r1.append r2,TupN.new _ _⟩
end
end L2
namespace L2
open PySem PySem.Spec PyProof.Rows
noncomputable def km (n:Nat)(i:Int):Option Nat:=if 0<=i then (if i<n then some i.toNat else none) else if -(n:Int)<=i then some (i+n).toNat else none
noncomputable def iQ {α:Type}(xs:List α)(i:Int):Option α:=(km xs.length i).bind fun j=>xs[j]?
theorem ul (h:km n i=some j):seqIndex? i n=some j/\j<n /\ -(n:Int)<=i/\i<n:=by
 unfold km at h;by_cases h0:0<=i
 ·rw[if_pos h0] at h;by_cases h1:i<n
  ·rw[if_pos h1] at h;have e:i.toNat=j:=bV h;exact⟨by rw[seqIndex_of h0 h1,e],by omega,by omega,h1⟩
  ·rw[if_neg h1] at h; cases h
 ·rw[if_neg h0] at h;by_cases h1 : -(n:Int)<=i
  ·rw[if_pos h1] at h;have e:(i+n).toNat=j:=bV h;exact⟨by rw[seqIndex_neg (by omega) h1,e],by omega,h1,by omega⟩
  ·rw[if_neg h1] at h; cases h
theorem vF (h:iQ xs i=some v):∃j,seqIndex? i xs.length=some j/\xs[j]? = some v/\j<xs.length /\ -(xs.length:Int)<=i/\i<xs.length:=by
 unfold iQ at h;cases e:km xs.length i with
 | none=>rw[e] at h; cases h
 | some j=>
  rw[e] at h;obtain⟨h1,h2,h3,h4⟩:=ul e;exact⟨j,h1,h,h2,h3,h4⟩
def f9 (b:Expr):Prop:=∀o i,subscripted b false o i=operate [o,i] (getItem o i)
def IxR (X:Cx)(r:R2):Prop:=
 ∀(value slice:Expr) (pins:List (Addr×Obj)) (s:Shared) (σ:St) (H:Hp) (x y:V) (v u:Value) (Q:VK),Inv X pins σ H s->RelV x v->RelV y u->r x y H Q ->
  subscripted slice false v u=operate [v,u] (getItem v u)->wpAny (model X.prog X.w) X.A (subscriptTail value slice v u) (EP X pins σ Q) X.xe s
def MtR (X:Cx)(id:String)(r:V->List V->Hp->VK->Prop):Prop:=
 ∀(pins:List (Addr×Obj)) (s:Shared) (σ:St) (H:Hp) (x:V) (xs:List V) (v:Value) (us:List Value) (Q:VK),Inv X pins σ H s->RelV x v->Vals xs us->r x xs H Q ->
  wpAny (model X.prog X.w) X.A (call (.builtin id) (v::us)) (EP X pins σ Q) X.xe s
section
variable {X:Cx}{a b:Expr}{ta tb:TE}{pos:Pos}
theorem IxR.or (h:IxR X r)(h':IxR X r'):IxR X (fun x y H Q=>r x y H Q\/r' x y H Q):=by
 intro value slice pins s σ H x y v u Q I rx ry q hs;rcases q with q | q
 ·exact h value slice pins s σ H x y v u Q I rx ry q hs
 ·exact h' value slice pins s σ H x y v u Q I rx ry q hs
theorem MtR.or {id:String}{r r':V->List V->Hp->VK->Prop}(h:MtR X id r)(h':MtR X id r'):MtR X id (fun x xs H Q=>r x xs H Q\/r' x xs H Q):=by
 intro pins s σ H x xs v us Q I rx rs q;rcases q with q | q
 ·exact h pins s σ H x xs v us Q I rx rs q
 ·exact h' pins s σ H x xs v us Q I rx rs q
theorem ux (hr:IxR X r)(ha:PE X a ta)(hb:PE X b tb)(hs:f9 b):PE X (.Subscript a b pos) (iR r ta tb):=by
 intro pins s σ H Q I h;exact Subscript_ (jL ha hb I h fun v u s2 x y H2 I2 rx ry q=>hr a b pins s2 σ H2 x y v u Q I2 rx ry q (hs _ _))
def iu (K:aL):R2:=fun x y H Q=>∃p xs i v,x=.ref p/\y=.int i/\SqL K H p xs/\iQ xs i=some v/\Q v H
def qe (K:aL):R2:=fun x y H Q=>∃p xs i v,x=.ref p/\y=.int i/\SqT K H p xs/\iQ xs i=some v/\Q v H
theorem wF:IxR X (iu X.K):=by
 intro value slice pins s σ H x y v u Q I rx ry h hs;obtain⟨p,xs,i,z,rfl,rfl,hq,he,q⟩:=h;cases rx;obtain⟨t,rfl⟩:=ry;obtain⟨its,r,pl,hz⟩:=I.list hq;obtain⟨j,h1,h2,h3,h4,h5⟩:=vF he;obtain⟨w,ew,rw'⟩:=r.get h2;have hl:=r.length;have hn:=dQ;have fin:EP X pins σ Q w s:=⟨z,H,I,rw',q⟩
 by_cases h0:0<=i
 ·have hj:i.toNat=j:=by
   rw[seqIndex_of h0 h5] at h1;exact bV h1
  exact item_listR pl.isList h0 (by omega) (by rw[hj]; simpa using ew) fin hs
 ·have hj:(i+(its.toArray.size:Int)).toNat=j:=by
   rw[seqIndex_neg (by omega) h4] at h1;rw[List.size_toArray,<-hl];exact bV h1
  exact subscriptTail_builtinR (x:=w) pl.isList.typeIs slot_list_getitem.lookup
   (wpAny_getItem_list_neg (Q:=fun r s'=>r=w/\EP X pins σ Q r s') pl.isList (by omega) (by rw[List.size_toArray] <;> omega) (by omega) (by rw[hj]; simpa using ew) ⟨rfl,fin⟩) hs
theorem Ed:IxR X (qe X.K):=by
 intro value slice pins s σ H x y v u Q I rx ry h hs;obtain⟨p,xs,i,z,rfl,rfl,hq,he,q⟩:=h;cases rx;obtain⟨t,rfl⟩:=ry;obtain⟨its,r,pl,hz⟩:=I.tuple hq;obtain⟨j,h1,h2,h3,h4,h5⟩:=vF he;obtain⟨w,ew,rw'⟩:=r.get h2;have hl:=r.length;have hn:=dQ;have fin:EP X pins σ Q w s:=⟨z,H,I,rw',q⟩
 exact subscriptTail_builtinR (x:=w) pl.typeIs slot_tuple_getitem.lookup
  (getItem_tuple (j:=j) (Q:=fun r s'=>r=w/\EP X pins σ Q r s') pl (by omega) (by omega) (by rw[List.size_toArray,<-hl]; exact h1) (by simpa using ew) ⟨rfl,fin⟩) hs
theorem C5 (its:List Value)(n j:Nat)(u:Value):Obj.mapSeq (·.setIfInBounds j u) { cls:=.type "list",data:=.seq its.toArray n }={ cls:=.type "list",data:=.seq (its.set j u).toArray n }:=by
 simp[Obj.mapSeq]
theorem Inv.lst (I:Inv X pins σ H s)(h:H p=some (.lst xs)) :
  ∃(its:List Value) (n:Nat),Vals xs its/\s.heap.get? p=some { cls:=.type "list",data:=.seq its.toArray n }/\xs.length<=sizeLine:=by
 obtain⟨z,its,n,r,e⟩:=I.hok p _ h;exact⟨its,n,r,e,z⟩
theorem Inv.lstUpd {pins:List (Addr×Obj)}{σ:St}{H:Hp}{s:Shared}{p:Addr}{xs ys:List V}{its its':List Value}{n n':Nat}{f:Obj->Obj}(I:Inv X pins σ H s)(h:H p=some (.lst xs))
  (ho:s.heap.get? p=some { cls:=.type "list",data:=.seq its.toArray n })(hf:f { cls:=.type "list",data:=.seq its.toArray n }={ cls:=.type "list",data:=.seq its'.toArray n' })(r:Vals ys its')(hz:ys.length<=sizeLine)(t:Nat) :
  Inv X pins σ (upd H p (.lst ys)) { s with heap:=s.heap.update p f,toks:=t }:=by
 have e:(s.heap.update p f).get? p=some { cls:=.type "list",data:=.seq its'.toArray n' }:=by
  rw[Heap.get?_update_self f ho (by rw[hf] <;> rfl),hf]
 refine I.write (x:=p) (e:=p) (by rw[h]; trivial) (.inl rfl) (fun b u hb q=>(Heap.get?_update_other _ _ (Ne.symm hb)).trans q) ⟨_,e⟩ ?_;exact⟨hz,its',n',r,e⟩
def lF:V->V->V->Hp->(Hp->Prop)->Prop:=fun o i v H Q=>∃p xs k j,o=.ref p/\i=.int k/\H p=some (.lst xs)/\km xs.length k=some j/\Q (upd H p (.lst (xs.set j v)))
theorem set_list:sP X lF:=by
 intro pins s σ H o i v ov iv u Q I ro ri rv h;obtain⟨p,xs,k,j,rfl,rfl,hp,hj,q⟩:=h;cases ro;obtain⟨t,rfl⟩:=ri;obtain⟨its,n,r,ho,hz⟩:=I.lst hp;obtain⟨h1,h2,h3,h4⟩:=ul hj;have hl:=r.length;have hn:=dQ;have I':Inv X pins σ (upd H p (.lst (xs.set j v))) { s with heap:=s.heap.update p (Obj.mapSeq (·.setIfInBounds j u)) }:=
  I.lstUpd hp ho (C5 its n j u) (r.set rv j) (by rw[List.length_set]; exact hz) s.toks
 by_cases h0:0<=k
 ·have hk:k.toNat=j:=by
   rw[seqIndex_of h0 h4] at h1;exact bV h1
  exact PySem.W.ki_setAt ho h0 (by omega) (by rw[List.size_toArray,<-hl]; exact h4) (by rw[hk]; exact⟨_,I',q⟩)
 ·have hk:(k+(its.toArray.size:Int)).toNat=j:=by
   rw[seqIndex_neg (by omega) h3] at h1;rw[List.size_toArray,<-hl];exact bV h1
  exact PySem.W.ki_setBack ho (by omega) (by rw[List.size_toArray,<-hl]; exact h3) (by omega) (by rw[hk]; exact⟨_,I',q⟩)
theorem C9 (lo hi:Option Int)(n:Nat):(sliceBounds lo hi none n).1=((HT.sIx n 0 lo:Nat):Int)/\(sliceBounds lo hi none n).2.1=((HT.sIx n n hi:Nat):Int)/\(sliceBounds lo hi none n).2.2=1:=by
 refine⟨?_,?_,rfl⟩
 ·cases lo with
  | none=>simp[sliceBounds,HT.sIx]
  | some i=>
   simp only[sliceBounds,HT.sIx,Option.getD_none,show (1:Int) > 0 by decide,if_true];by_cases h:i<0
   ·simp only[h,if_true] <;> omega
   ·simp only[h,if_false] <;> omega
 ·cases hi with
  | none=>simp[sliceBounds,HT.sIx]
  | some i=>
   simp only[sliceBounds,HT.sIx,Option.getD_none,show (1:Int) > 0 by decide,if_true];by_cases h:i<0
   ·simp only[h,if_true] <;> omega
   ·simp only[h,if_false] <;> omega
theorem zy (its:List Value)(lo hi:Option Int):slicePick its.toArray lo hi none=((its.drop (HT.sIx its.length 0 lo)).take (HT.sIx its.length its.length hi - HT.sIx its.length 0 lo)).toArray:=by
 obtain⟨h1,h2,h3⟩:=C9 lo hi its.toArray.size;unfold slicePick;rw[h1,h2,h3];simp only[sliceRange_one,pick_run,List.size_toArray] <;> rfl
def qP (K:aL):V->Option Int->Option Int->Hp->VK->Prop:=fun x lo hi H Q=>∃a xs,x=.ref a/\SqL K H a xs/\∀p,H p=none->Q (.ref p) (upd H p (.lst (dh xs lo hi)))
theorem xQ:SlR X (qP X.K):=by
 intro pins s σ H x v vl vu lo hi sl Q I rx hs pl pu h;obtain⟨a,xs,rfl,hx,q⟩:=h;cases rx;obtain⟨its,r,ht,hz⟩:=I.list hx;have hlen:=r.length;refine⟨"list",_,slot_list_getitem.lookup,ht.isList.typeIs,?_⟩;refine wpAny_getItem_list_slice ht.isList hs pl pu .none (by simp) ?_ (by rw[List.size_toArray] <;> omega);rw[zy,<-hlen];refine⟨.ref s.heap.objs.size,_,I.laid (t':=s.toks) (o:=.lst (dh xs lo hi)) (fun b ob q=>bI _ q) (bb _) ?_,rfl,q _ (I.hok.fresh (bb _))⟩;exact⟨bK (vy xs lo hi) hz,_,0,(r.drop (HT.sIx xs.length 0 lo)).take (HT.sIx xs.length xs.length hi - HT.sIx xs.length 0 lo),da _ rfl⟩
noncomputable def flatV:V->Bool
 | .non=>true
 | .bl _=>true
 | .int _=>true
 | .str _=>true
 | _=>false
noncomputable def eqV:V->V->Bool
 | .non,.non=>true
 | .bl a,.bl b=>a == b
 | .bl a,.int b=>(if a then 1 else 0) == b
 | .int a,.bl b=>a == (if b then 1 else 0)
 | .int a,.int b=>a == b
 | .str a,.str b=>a == b
 | _,_=>false
theorem GO (ry:RelV y u)(rx:RelV x v)(fy:flatV y=true)(fx:flatV x=true):SeqAt.EqAt A s u v (eqV y x):=by
 cases y with
 | non=>
  cases ry;cases x with
  | non=>cases rx; exact SeqAt.EqAt.same _
  | bl b=>cases rx; exact SeqAt.EqAt.none_bool b
  | int b=>obtain⟨t,rfl⟩:=rx; exact SeqAt.EqAt.none_int b t
  | str b=>obtain⟨t,rfl⟩:=rx; exact SeqAt.EqAt.none_str b t
  | _=>exact absurd (show false=true from fx) Bool.false_ne_true
 | bl a=>
  cases ry;cases x with
  | non=>cases rx; exact SeqAt.EqAt.bool_none a
  | bl b=>cases rx; exact SeqAt.EqAt.bool_bool a b
  | int b=>obtain⟨t,rfl⟩:=rx; exact SeqAt.EqAt.bool_int a b t
  | str b=>obtain⟨t,rfl⟩:=rx; exact SeqAt.EqAt.bool_str a b t
  | _=>exact absurd (show false=true from fx) Bool.false_ne_true
 | int a=>
  obtain⟨t',rfl⟩:=ry;cases x with
  | non=>cases rx; exact SeqAt.EqAt.int_none a t'
  | bl b=>cases rx; exact SeqAt.EqAt.int_bool a t' b
  | int b=>obtain⟨t,rfl⟩:=rx; exact SeqAt.EqAt.int_int a t' b t
  | str b=>obtain⟨t,rfl⟩:=rx; exact SeqAt.EqAt.int_str a t' b t
  | _=>exact absurd (show false=true from fx) Bool.false_ne_true
 | str a=>
  obtain⟨t',rfl⟩:=ry;cases x with
  | non=>cases rx; exact SeqAt.EqAt.str_none a t'
  | bl b=>cases rx; exact SeqAt.EqAt.str_bool a t' b
  | int b=>obtain⟨t,rfl⟩:=rx; exact SeqAt.EqAt.str_int a t' b t
  | str b=>obtain⟨t,rfl⟩:=rx; exact SeqAt.EqAt.str_str a t' b t
  | _=>exact absurd (show false=true from fx) Bool.false_ne_true
 | _=>exact absurd (show false=true from fy) Bool.false_ne_true
noncomputable def dC (x:V)(u:Value):Bool:=match u with
 | .none=>eqV .non x
 | .bool b=>eqV (.bl b) x
 | .int i _=>eqV (.int i) x
 | .str z _=>eqV (.str z) x
 | _=>false
theorem nu (r:RelV y u)(f:flatV y=true):dC x u=eqV y x:=by
 cases y with
 | non=>cases r; rfl
 | bl b=>cases r; rfl
 | int i=>obtain⟨t,rfl⟩:=r; rfl
 | str z=>obtain⟨t,rfl⟩:=r; rfl
 | _=>exact absurd (show false=true from f) Bool.false_ne_true
theorem lH:∀{xs:List V} {us:List Value},Vals xs us->xs.all flatV=true->us.any (dC x)=xs.any fun y=>eqV y x
 | _,_,.nil,_=>rfl
 | y::xs,u::us,.cons r t,f=>by
  rw[List.all_cons,Bool.and_eq_true] at f;rw[List.any_cons,List.any_cons,nu r f.1,lH t f.2]
theorem jy (rx:RelV x v)(fx:flatV x=true):∀{xs:List V} {us:List Value},Vals xs us->xs.all flatV=true->∀u∈us,SeqAt.EqAt A s u v (dC x u)
 | _,_,.nil,_=>fun u hu=>by cases hu
 | y::xs,u::us,.cons r t,f=>fun u' hu=>by
  rw[List.all_cons,Bool.and_eq_true] at f;rcases cz hu with rfl | hu
  ·rw[nu r f.1]; exact GO r rx f.1 fx
  ·exact jy rx fx t f.2 u' hu
noncomputable def inV (x:V)(xs:List V):Bool:=xs.any fun y=>eqV y x
def qB (K:aL)(neg:Bool):R2:=fun x y H Q=>∃p xs,y=.ref p/\(SqL K H p xs\/SqT K H p xs)/\flatV x=true/\xs.all flatV=true/\Q (.bl (if neg then !inV x xs else inV x xs)) H
theorem AI:OpR X (compareOp .In) (qB X.K false):=by
 intro pins s σ H x y v u Q I rx ry h;obtain⟨p,xs,rfl,hq,fx,fs,q⟩:=h;cases ry;rcases hq with hq | hq
 ·obtain⟨its,r,pl,hz⟩:=I.list hq;refine SeqAt.in_listAt (dC x) pl.isList (fun w hw=>jy rx fx r fs w (by simpa using hw)) ⟨.bl _,H,I,rfl,?_⟩;rw[show its.toArray.any (dC x)=its.any (dC x) by simp,lH r fs];exact q
 ·obtain⟨its,r,pl,hz⟩:=I.tuple hq;refine SeqAt.in_tupleAt (dC x) pl (fun w hw=>jy rx fx r fs w (by simpa using hw)) ⟨.bl _,H,I,rfl,?_⟩;rw[show its.toArray.any (dC x)=its.any (dC x) by simp,lH r fs];exact q
theorem AT:OpR X (compareOp .NotIn) (qB X.K true):=by
 intro pins s σ H x y v u Q I rx ry h;obtain⟨p,xs,rfl,hq,fx,fs,q⟩:=h;cases ry;rcases hq with hq | hq
 ·obtain⟨its,r,pl,hz⟩:=I.list hq;refine SeqAt.notIn_listAt (dC x) pl.isList (fun w hw=>jy rx fx r fs w (by simpa using hw)) ⟨.bl _,H,I,rfl,?_⟩;rw[show its.toArray.any (dC x)=its.any (dC x) by simp,lH r fs];exact q
 ·obtain⟨its,r,pl,hz⟩:=I.tuple hq;refine SeqAt.notIn_tupleAt (dC x) pl (fun w hw=>jy rx fx r fs w (by simpa using hw)) ⟨.bl _,H,I,rfl,?_⟩;rw[show its.toArray.any (dC x)=its.any (dC x) by simp,lH r fs];exact q
theorem Di:CallR X (.builtin "len") (fun xs H Q=>∃p ys,xs=[.ref p]/\(SqL X.K H p ys\/SqT X.K H p ys)/\Q (.int ys.length) H):=by
 intro pins s σ H xs us Q I r h;obtain⟨p,ys,rfl,hq,q⟩:=h;obtain⟨u,rfl,rx⟩:=vals1 r;cases rx;have hn:=dQ;rcases hq with hq | hq
 ·obtain⟨its,r',pl,hz⟩:=I.list hq;have hlen:=r'.length;exact Calls.call_len_list pl.isList (by simp only[List.size_toArray] <;> omega) ⟨.int ys.length,H,I.tok _,⟨s.toks+1,by rw[List.size_toArray,hlen]⟩,q⟩
 ·obtain⟨its,r',pl,hz⟩:=I.tuple hq;have hlen:=r'.length;exact len_tuple pl (by simp only[List.size_toArray] <;> omega) ⟨.int ys.length,H,I.tok _,⟨s.toks+1,by rw[List.size_toArray,hlen]⟩,q⟩
theorem CallR.or (h:CallR X f r)(h':CallR X f r'):CallR X f (fun xs H Q=>r xs H Q\/r' xs H Q):=by
 intro pins s σ H xs us Q I rs q;rcases q with q | q
 ·exact h pins s σ H xs us Q I rs q
 ·exact h' pins s σ H xs us Q I rs q
theorem DY:CallR X (.type "list") (fun xs H Q=>∃p ys,xs=[.ref p]/\(SqL X.K H p ys\/SqT X.K H p ys)/\∀l,H l=none->Q (.ref l) (upd H l (.lst ys))):=by
 intro pins s σ H xs us Q I r h;obtain⟨p,ys,rfl,hq,q⟩:=h;obtain⟨u,rfl,rx⟩:=vals1 r;cases rx;have fin:∀(its:List Value),Vals ys its->ys.length<=sizeLine->∀(h':Heap) (c':Nat),(∀b o',s.heap.get? b=some o'->h'.get? b=some o') ->
   h'.get? s.heap.objs.size=some { cls:=.type "list",dict:=none,data:=.seq its.toArray c',slots:=#[] }->EP X pins σ Q (.ref s.heap.objs.size) { s with heap:=h' }:=fun its r' hz h' c' kp e=>
  ⟨.ref s.heap.objs.size,_,I.laid (t':=s.toks) kp (bb _) (show ObjOk X.prog X.w _ h' _ (.lst ys) from ⟨hz,its,c',r',e⟩),rfl,q _ (I.hok.fresh (bb _))⟩
 rcases hq with hq | hq
 ·obtain⟨its,r',pl,hz⟩:=I.list hq;have hlen:=r'.length;obtain⟨o,ho,hc,n,hd⟩:=pl.isList;exact call_list_seq p (.inl rfl) ho hc hd (fun h' c' kp e=>fin its r' hz h' c' kp e) (by simp only[List.size_toArray] <;> omega)
 ·obtain⟨its,r',pl,hz⟩:=I.tuple hq;have hlen:=r'.length;obtain⟨o,ho,hc,n,hd⟩:=pl;exact call_list_seq p (.inr rfl) ho hc hd (fun h' c' kp e=>fin its r' hz h' c' kp e) (by simp only[List.size_toArray] <;> omega)
theorem GJ:CallR X (.type "tuple") (fun xs H Q=>∃p ys,xs=[.ref p]/\((SqL X.K H p ys/\∀l,H l=none->Q (.ref l) (upd H l (.tup ys)))\/(SqT X.K H p ys/\Q (.ref p) H))):=by
 intro pins s σ H xs us Q I r h;obtain⟨p,ys,rfl,h⟩:=h;obtain⟨u,rfl,rx⟩:=vals1 r;cases rx;rcases h with ⟨hq,q⟩ | ⟨hq,q⟩
 ·obtain⟨its,r',pl,hz⟩:=I.list hq;have hlen:=r'.length;refine call_tuple_list pl.isList (fun h' kp=>?_) (by simp only[List.size_toArray] <;> omega);have I1:Inv X pins σ H { s with heap:=h' }:=I.kept (t':=s.toks) kp;have I2:Inv X pins σ (upd H h'.objs.size (.tup ys)) { s with heap:=h'.push { cls:=.type "tuple",data:=.seq its.toArray } }:=
   I1.laid (t':=s.toks) (fun b o e=>bI _ e) (bb _) (show ObjOk X.prog X.w _ _ _ (.tup ys) from ⟨hz,its,r',TupN.new _ _⟩)
  exact⟨.ref h'.objs.size,_,I2,rfl,q _ (I1.hok.fresh (bb _))⟩
 ·obtain⟨its,r',pl,hz⟩:=I.tuple hq;exact call_tuple_same pl ⟨.ref p,H,I,rfl,q⟩
def tyV (K:aL)(T:String)(x:V)(H:Hp):Prop:=match x with
 | .str _=>T = "str"
 | .int _=>T = "int"
 | .ref p=>(T = "list" /\ ∃xs,SqL K H p xs)\/(T = "tuple" /\ ∃xs,SqT K H p xs) \/
   (T = "dict" /\ ((∃kvs,H p=some (.dK kvs))\/∃kvs,H p=some (.dT kvs)))\/(T = "set" /\ ∃S n,H p=some (.set S n))
 | _=>False
theorem vR (I:Inv X pins σ H s)(r:RelV x v)(ty:tyV X.K T x H) :
  s.TypeIs v T/\∀a,v=.ref a->∃ob,s.heap.get? a=some ob/\ob.dict=none:=by
 cases x with
 | str z=>
  obtain⟨t,rfl⟩:=r;cases (show T = "str" from ty);exact⟨typeIs_str s z t,fun _ e=>nomatch e⟩
 | int i=>
  obtain⟨t,rfl⟩:=r;cases (show T = "int" from ty);exact⟨typeIs_int s i t,fun _ e=>nomatch e⟩
 | ref p=>
  cases r;rcases ty with ⟨rfl,xs,hq⟩ | ⟨rfl,xs,hq⟩ | ⟨rfl,hk⟩ | ⟨rfl,S,n,hk⟩
  ·obtain⟨its,_,pl,_⟩:=I.list hq;refine⟨pl.isList.typeIs,fun a e=>?_⟩;cases e;obtain⟨o,n,e,c,hd,_⟩:=pl;exact⟨o,e,hd⟩
  ·obtain⟨its,_,⟨o,e,c,_,d⟩,_⟩:=I.tupN hq;refine⟨⟨o,e,c⟩,fun a e2=>?_⟩;cases e2;exact⟨o,e,d⟩
  ·have z:∃o,s.heap.get? p=some o/\o.ExactDict:=by
    rcases hk with ⟨kvs,hk⟩ | ⟨kvs,hk⟩
    ·obtain⟨_,_,_,_,o,_,_,e,ex,_⟩:=I.hok p _ hk;exact⟨o,e,ex⟩
    ·obtain⟨_,_,_,_,o,_,_,e,ex,_⟩:=I.hok p _ hk;exact⟨o,e,ex⟩
   obtain⟨o,e,ex⟩:=z;refine⟨⟨o,e,ex.1⟩,fun a e2=>?_⟩;cases e2;exact⟨o,e,ex.2.1⟩
  ·obtain⟨o,_,_,_,e,ex,_⟩:=I.hok p _ hk;refine⟨⟨o,e,ex.1⟩,fun a e2=>?_⟩;cases e2;exact⟨o,e,ex.2.1⟩
 | _=>exact False.elim ty
def mU (K:aL)(T:String)(r:V->List V->Hp->VK->Prop)(to:TE):TE:=fun σ H Q=>to σ H fun x H1=>tyV K T x H1/\r x [] H1 Q
def gu (K:aL)(T:String)(r:V->List V->Hp->VK->Prop)(to:TE)(t:TA):TE:=fun σ H Q=>to σ H fun x H1=>tyV K T x H1/\t σ H1 fun xs H2=>r x xs H2 Q
variable {o e:Expr}{es:List Expr}{to:TE}{t:TA}{name:Str}{apos cpos:Pos}{T id:String}{r:V->List V->Hp->VK->Prop}
theorem DT (pa:PlainAttrs T)(slot:Slot T name id)(hty:typeOf (.builtin id)=pure (.type "method_descriptor"))(hm:MtR X id r)(ho:PE X o to)
  (hbase:attributeBase o name X.env (eval o X.env)=eval o X.env:=by rfl)(hline:(apos.endLine == cpos.line)=true:=by rfl):PE X (.Call (.Attribute o name apos) [] [] cpos) (mU X.K T r to):=by
 intro pins s σ H Q I h;refine wpAny_Call_method0_late hbase hline (aH (ho pins s σ H _ I h) fun v s1 hZz=>?_);obtain⟨x,H1,I1,r1,ty,q1⟩:=hZz;obtain⟨h1,h2⟩:=vR I1 r1 ty;exact⟨T,id,pa,slot,hty,h1,h2,Calls.callWith_builtin rfl (PySem.evalArgs_none (hm pins s1 σ H1 x [] v [] Q I1 r1 .nil q1))⟩
theorem lw (pa:PlainAttrs T)(slot:Slot T name id)(hty:typeOf (.builtin id)=pure (.type "method_descriptor"))(hm:MtR X id r)(ho:PE X o to)(ha:PA X (e::es) t)
  (hbase:attributeBase o name X.env (eval o X.env)=eval o X.env:=by rfl)
  (hfew:((backTo cpos (starEach (e::es) X.env)).all (fun x=>!x.1)&&(backToKw cpos (keywordEach [] X.env)).all (fun x=>x.1.isSome)
   && decide ((e::es).length+([]:List Keyword).length+(if ([]:List Keyword).isEmpty then 0 else 1)<30))=true:=by rfl)
  (hline:(apos.endLine == cpos.line)=true:=by rfl)(hs:starEach (e::es) X.env=(false,eval e X.env)::starEach es X.env:=by rfl)(hplain:(backTo cpos (starEach es X.env)).any (·.1)=false:=by rfl) :
  PE X (.Call (.Attribute o name apos) (e::es) [] cpos) (gu X.K T r to t):=by
 intro pins s σ H Q I h;refine wpAny_Call_method_late hbase hfew hline rfl (aH (ho pins s σ H _ I h) fun v s1 hZz=>?_);obtain⟨x,H1,I1,r1,ty,q1⟩:=hZz;obtain⟨h1,h2⟩:=vR I1 r1 ty;refine⟨T,id,pa,slot,hty,h1,h2,?_⟩;have hA:=ha cpos pins s1 σ H1 _ I1 q1;rw[hs] at hA ⊢;refine Calls.callWith_builtin (by show (false||(backTo cpos (starEach es X.env)).any (·.1))=false; rw[hplain] <;> rfl) (Calls.evalArgs_plain ?_);exact aH hA fun us s2 ⟨vs,H2,I2,r2,q2⟩=>hm pins s2 σ H2 x vs v us Q I2 r1 r2 q2
end
end L2
namespace L2
open PySem PySem.Spec PyProof.Rows
def om (X:Cx)(id:String)(r:V->List V->Hp->VK->Prop):Prop:=
 ∀(pins:List (Addr×Obj)) (s:Shared) (σ:St) (H:Hp) (x:V) (xs:List V) (v:Value) (us:List Value) (Q:VK),Inv X pins σ H s->RelV x v->Vals xs us->r x xs H Q ->
  wpAny (model X.prog X.w) X.A (call (.builtin id) (v::us)) (EP X pins σ Q) X.xe s
theorem Vals.one:∀{x:V} {us:List Value},Vals [x] us->∃u,us=[u]/\RelV x u
 | _,_,.cons r .nil=>⟨_,rfl,r⟩
theorem Vals.zero:∀{us:List Value},Vals [] us->us=[]
 | _,.nil=>rfl
theorem Vals.dropLast (h:Vals xs us):Vals xs.dropLast us.dropLast:=by
 induction h with
 | nil=>exact .nil
 | cons r t ih=>
  cases t with
  | nil=>exact .nil
  | cons q t'=>exact .cons r ih
theorem Bk (l:List α):l.eraseIdx (l.length - 1)=l.dropLast:=by
 induction l with
 | nil=>rfl
 | cons a r ih=>
  cases r with
  | nil=>rfl
  | cons b r=>
   have e:(a::b::r).length - 1=((b::r).length - 1)+1:=by
    have h1:(a::b::r).length=r.length+2:=rfl;have h2:(b::r).length=r.length+1:=rfl;omega
   rw[e,List.eraseIdx_cons_succ,ih]
   all_goals rfl
section
variable {X:Cx}{pins:List (Addr×Obj)}{σ:St}{H:Hp}{s:Shared}{l b:Addr}{xs ys zs:List V}
theorem Inv.lset {its its':List Value}{n:Nat}{f:Array Value->Array Value}{t':Nat}(I:Inv X pins σ H s)(hH:H l=some (.lst xs))
  (e:s.heap.get? l=some { cls:=.type "list",data:=.seq its.toArray n })(hf:f its.toArray=its'.toArray)(hv:Vals ys its')(hz:ys.length<=sizeLine) :
  Inv X pins σ (upd H l (.lst ys)) { s with heap:=s.heap.update l (Obj.mapSeq f),toks:=t' }:=by
 have q:=PySem.IsL.update e f;rw[hf] at q;refine I.write (x:=l) (e:=l) (by rw[hH]; exact trivial) (.inl rfl) (fun b' u hb hu=>(Heap.get?_update_other s.heap (Obj.mapSeq f) (Ne.symm hb)).trans hu) ⟨_,q⟩ ?_;exact⟨hz,its',_,hv,q⟩
theorem Inv.lnew (I:Inv X pins σ H s)(hv:Vals ys its)(hz:ys.length<=sizeLine) :
  Inv X pins σ (upd H s.heap.objs.size (.lst ys)) { s with heap:=s.heap.push { cls:=.type "list",data:=.seq its.toArray },toks:=t' }:=
 I.laid (fun _ _ q=>bI _ q) (bb _) ⟨hz,its,0,hv,da _ rfl⟩
theorem Inv.fresh (I:Inv X pins σ H s):H s.heap.objs.size=none:=I.hok.fresh (bb _)
theorem Inv.lstM (I:Inv X pins σ H s)(hH:H l=some (.lst xs)):xs.length<=sizeLine/\∃(its:List Value) (n:Nat),Vals xs its/\xs.length=its.length/\s.heap.get? l=some { cls:=.type "list",data:=.seq its.toArray n }:=by
 obtain⟨z,its,n,r,e⟩:=I.hok l _ hH;exact⟨z,its,n,r,r.length,e⟩
theorem wj (h:n<=sizeLine):Builtin.List.listTooLong n=false:=by
 unfold Builtin.List.listTooLong;exact decide_eq_false (by omega)
end
section
variable {X:Cx}
def dY:V->List V->Hp->VK->Prop:=fun x vs H Q=>∃l xs y,x=.ref l/\vs=[y]/\H l=some (.lst xs)/\xs.length<sizeLine/\Q .non (upd H l (.lst (xs++[y])))
theorem qQ:om X "list.append" dY:=by
 intro pins s σ H x vs v us Q I rx rv h;obtain⟨l,xs,y,rfl,rfl,hH,hz,q⟩:=h;cases rx;obtain⟨u,rfl,ru⟩:=rv.one;obtain⟨z,its,n,r,hl,e⟩:=I.lstM hH;refine call_meets F.slot_list_append ⟨_,e,rfl⟩ F.entry_list_append (F.args_list_append_2 _ _) (PySem.list_append l its.toArray n u (by rw[List.size_toArray]; omega)) ⟨e,?_⟩;refine⟨.non,_,I.lset (its':=its++[u]) hH e (by simp) (r.append (.cons ru .nil)) ?_,rfl,q⟩;rw[List.length_append,List.length_singleton];omega
def fQ:V->List V->Hp->VK->Prop:=fun x vs H Q=>∃l b xs zs,x=.ref l/\vs=[.ref b]/\H l=some (.lst xs)/\H b=some (.lst zs)/\xs.length+zs.length<=sizeLine/\Q .non (upd H l (.lst (xs++zs)))
theorem zQ:om X "list.extend" fQ:=by
 intro pins s σ H x vs v us Q I rx rv h;obtain⟨l,b,xs,zs,rfl,rfl,hH,hB,hz,q⟩:=h;cases rx;obtain⟨u,rfl,ru⟩:=rv.one;cases ru;obtain⟨z,its,n,r,hl,e⟩:=I.lstM hH;obtain⟨z2,its2,n2,r2,hl2,e2⟩:=I.lstM hB;have hsz:its.toArray.size+its2.toArray.size<=sizeLine:=by rw[List.size_toArray,List.size_toArray]; omega
 have hlong:¬(!its.toArray.isEmpty&&Builtin.List.listTooLong (its.toArray.size+its2.toArray.size))=true:=by
  rw[wj hsz,Bool.and_false];exact Bool.false_ne_true
 refine call_meets F.slot_list_extend ⟨_,e,rfl⟩ F.entry_list_extend (F.args_list_extend_2 _ _)
  (AutoSeq1.list_extend_list_list_0 l its.toArray n b its2.toArray n2 hlong (by rw[List.size_toArray]; omega) (by omega)) ⟨e,e2,?_⟩
 refine⟨.non,_,I.lset (its':=its++its2) hH e (by simp) (r.append r2) ?_,rfl,q⟩;rw[List.length_append];omega
def lO:V->List V->Hp->VK->Prop:=fun x vs H Q=>∃l xs y,x=.ref l/\vs=[]/\H l=some (.lst xs)/\xs[xs.length - 1]? = some y/\Q y (upd H l (.lst xs.dropLast))
theorem CZ:om X "list.pop" lO:=by
 intro pins s σ H x vs v us Q I rx rv h;obtain⟨l,xs,y,rfl,rfl,hH,hy,q⟩:=h;cases rx;have hus:=rv.zero;subst hus;obtain⟨z,its,n,r,hl,e⟩:=I.lstM hH;obtain⟨u,hu,ru⟩:=r.get hy;have hy':its.toArray[its.toArray.size - 1]? = some u:=by
  show its.toArray[its.length - 1]? = some u;rw[<-Array.getElem?_toList,<-hl];exact hu
 refine call_meets F.slot_list_pop ⟨_,e,rfl⟩ F.entry_list_pop (F.args_list_pop_1 _) (MeetsSeq.list_pop_last l its.toArray n u hy' (by rw[List.size_toArray]; omega)) ⟨e,?_⟩;refine⟨y,_,I.lset (its':=its.dropLast) hH e ?_ r.dropLast ?_,ru,q⟩
 ·show its.toArray.eraseIdxIfInBounds (its.toArray.size - 1)=its.dropLast.toArray;rw[List.size_toArray,List.eraseIdxIfInBounds_toArray,Bk]
 ·rw[List.length_dropLast];omega
end
section
variable {prog:Program}{w:World}{A:Around}{E:Value->Shared->Prop}{s:Shared}
end
section
variable {X:Cx}
end
end L2
namespace Att
open PySem PySem.W PySem.Calls PyProof.Rows
theorem xR:∀(ns:List Int) (vs:List Value),WellAll P h vs (ns.map WData.int)->IntsAre vs ns:=by
 intro ns;induction ns with
 | nil=>
  intro vs w;rw[List.map_nil] at w;cases w;exact .nil
 | cons n ns ih=>
  intro vs w;rw[List.map_cons] at w;cases w with
  | cons a b=>
   cases a;exact .cons _ _ (ih _ b)
theorem Ee {l:OpenLaw}{n:Nat}(hn:l.most=some n){P:Params}{h:Heap}{args:List WData}{vals:List Value}
  (hpre:l.row.toRowW.claim.pre args=true)(hwl:WellAll P h vals args) :
  ∃a vs ns,vals=[Value.ref a]/\args=[WData.list (ns.map WData.int)]/\h.get? a=some { cls:=.type "list",data:=.seq vs.toArray }/\IntsAre vs ns/\ns.length<=n:=by
 have hsh:WShape.hasAll [] args [.list .int]=true:=(pre_splitW hpre).1;have hc:l.pre.holds [] { args:=args }=true:=(pre_splitW hpre).2;obtain⟨d,r,rfl,h1,h2⟩:=hasAllW_cons hsh;obtain rfl:=hasAllW_nil h2;obtain⟨xs,rfl,h3⟩:=hasW_list h1;obtain⟨ns,rfl⟩:=items_int h3;have hlen:ns.length<=n:=by
  unfold OpenLaw.pre at hc;have h4:(WTm.not (.lt (.lit (.int (n:Int))) (.len (.arg 0)))).holds [] { args:=[.list (ns.map .int)] }=true:=by
   have h4:=(holds_andW hc).1;rw[hn] at h4;exact h4
  have h5:=condW_of h4 (w_not (w_lt w_lit (w_len_list (w_arg rfl))));rw[List.length_map] at h5;refine Nat.le_of_not_lt fun q=>?_;have q':(n:Int)<((ns.length:Nat):Int):=by omega
  first
   | (rw[decide_eq_true q'] at h5; exact absurd h5 (by decide))
   | (simp at h5; omega)
 cases hwl with
 | cons w1 w2=>
  cases w2;cases w1 with
  | list ho hall=>exact⟨_,_,ns,rfl,rfl,ho,xR ns _ hall,hlen⟩
theorem Gk (l:OpenLaw)(args:List WData):l.row.toRowW.claim.post args (.bool true) args=true:=
 postW_of (r:=l.row.toRowW) (X:=(true == true))
  (show WShape.has [] (.bool true) .bool=true by first | rfl | decide | simp[WShape.has,WShape.arms,WShape.armsAll])
  (show (WTm.eq .res (.lit (.bool true))).value [] { args:=args,res:=some (.bool true),after:=args }=some (.bool (true == true)) from w_eq_bool (w_res rfl) w_lit) rfl
theorem attach_call {l:OpenLaw}{n:Nat}{q:Program}{loose:List Str}{XP:(Str->Option Value)->Heap->Prop}{YP:World->Heap->Prop}{d:DefRec}
  (hn:l.most=some n)(hdf:d.params.defaults=[])
  (call:∀(w:World) (s₀ s₁:Shared) (mg mb:Str->Option Value) (fa:Addr) (o:Obj) (pm cd doc:Value) (a:Addr) (vs:List Value) (ns:List Int),
   Ground q loose [] XP w s₀ mg mb s₁.heap->YP w s₁.heap ->
   s₁.heap.get? fa=some o->o.data=.func (docDef d.name d.params d.body d.scope pm cd doc)->s₁.heap.CodeRec cd d.name->mg d.name=some (.ref fa) ->
   s₁.heap.get? a=some { cls:=.type "list",data:=.seq vs.toArray }->IntsAre vs ns->ns.length<=n->s₁.gens = #[] ->
   codeAny (model l.prog w) callerA (.call (.ref fa) ⟨[.ref a],[]⟩) (fun r s'=>r=.ok (.ret (.bool true))/\OldK s₁.heap s'.heap/\s'.os=s₁.os/\AllBare s'.gens) s₁) :
  WalkO q loose XP YP l.row.toRowW d [] (fun f vs=>PySem.call f vs):=by
 intro w s₀ s₁ mg mb G Y fa o pm cd doc dV kV ho hd hcd hD hmg hg args vals as hpre hlay hrd hwl hlo;obtain rfl:dV=.none:=Dflts.none hD hdf;obtain rfl:kV=.none:=Dflts.noKw hD;obtain⟨a,vs,ns,rfl,rfl,hobj,hints,hlen⟩:=Ee hn hpre hwl;refine enter_call (codeAny_mono (call w s₀ s₁ mg mb fa o pm cd doc a vs ns G Y ho (fd_plain hd) hcd hmg hobj hints hlen hg) fun r s' hq=>?_);obtain⟨rfl,h2,h3,h4⟩:=hq;exact⟨.inl ⟨.bool true,.bool true,[],rfl,fun _=>rfl,.bool true,Gk l _,fun _=>⟨List.Pairwise.nil,fun _ hm=>(nomatch hm)⟩⟩,h2,h3,h4⟩
section
variable {prog:Program}{w:World}{A:Around}{E:Value->Shared->Prop}{s:Shared}{K:Frag}
end
end Att
namespace L2
open PySem PySem.Spec PyProof.Rows
theorem tY:∀{vs:List Value} {ns:List Int},IntsAre vs ns->Vals (ns.map V.int) vs
 | _,_,.nil=>.nil
 | _,_,.cons n t h=>.cons ⟨t,rfl⟩ (tY h)
def kI (H:Hp):Prop:=∀b,H b=none\/∃o xs,H b=some (.frz o (.lst xs))
theorem Eb {P:Program}{w:World}{K:aL}{mg mb:Str->Option Value}{CX:gG}{k:Nat}{fa a:Addr}{fd:FuncData}{x:Str}{sp:Sp}{s₁:Shared}{vs:List Value}{ns:List Int}
  (KX:K.In s₁.heap)(hns:s₁.heap.Ns mainGlobals mg)(hb:s₁.heap.Ns builtinsNs mb)(hbb:∀x:Str,x ≠ "__name__" -> mb x=bootBuiltins x)(hlim:s₁.heap.NoLimit)(hg:s₁.gens = #[])
  (ha:s₁.heap.get? a=some { cls:=.type "list",data:=.seq vs.toArray })(hi:IntsAre vs ns)(hl:ns.length<=sizeLine)(hr:Room k callerA)
  (F:∀base:Heap,K.In base->base.Ns mainGlobals mg->FnOk P w K mg base CX k fa fd [x] sp)(hbind:∀(s:Shared) (u:Value),BindsTo s fd ⟨[u],[]⟩ [(x,u)])
  (hsp:∀H:Hp,kI H->SqL K H a (ns.map V.int)->sp [.ref a] H (fun v _=>v=.bl true) fun _ _ _=>False)
  (hCX:∀H e s',CX [] H s₁ (fun _ _ _=>False) e s'->False) :
  codeAny (model P w) callerA (.call (.ref fa) ⟨[.ref a],[]⟩) (fun r s'=>r=.ok (.ret (.bool true))/\OldK s₁.heap s'.heap/\s'.os=s₁.os/\AllBare s'.gens) s₁:=by
 have rv:=tY hi;have lenV:=hi.length;have core:∀H:Hp,kI H->SqL K H a (ns.map V.int)->HOk P w H s₁.heap->(∀b,H b≠none->b=a)->(H a≠none->K.lookup a=none) ->
   codeAny (model P w) callerA (.call (.ref fa) ⟨[.ref a],[]⟩) (fun r s'=>r=.ok (.ret (.bool true))/\OldK s₁.heap s'.heap/\s'.os=s₁.os/\AllBare s'.gens) s₁:=by
  intro H hO hS hok hA hK;have base_of:∀{b:Addr} {o:Obj},s₁.heap.get? b=some o->H b=none->(dR s₁.heap H).get? b=some o:=fun e n=>yb e n;have noA:∀{b:Addr} {o:Obj} {es:Array DictEntry} {ep:Nat},s₁.heap.get? b=some o->o.data=.dict es ep->H b=none:=fun {b o es ep} e d=>by
   cases q:H b with
   | none=>rfl
   | some u=>
    have e':b=a:=hA b (by rw[q]; simp);subst e';rw[ha] at e; cases e;have d':Data.seq vs.toArray _=Data.dict es ep:=d;cases d'
  have nsK:∀{b:Addr} {m:Str->Option Value},s₁.heap.Ns b m->(dR s₁.heap H).Ns b m:=fun {b m} ⟨o,es,ep,e,d,r⟩=>⟨o,es,ep,base_of e (noA e d),d,r⟩
  have hKb:K.In (dR s₁.heap H):=fun b o e=>base_of (KX b o e) (by
   cases q:H b with
   | none=>rfl
   | some u=>
    have e':b=a:=hA b (by rw[q]; simp);subst e';rw[hK (by rw[q]; simp)] at e; cases e)
  have hM:Mod K mg (dR s₁.heap H):=⟨hKb,nsK hns,⟨mb,nsK hb,hbb⟩,let ⟨mc,h1,h2⟩:=hlim; ⟨mc,nsK h1,h2⟩⟩
  have e0:Env0 P w K mg (dR s₁.heap H) callerA [] s₁ H:=⟨rfl,hM,fun b o e=>EQ e,Nat.le_of_eq (y8 _ _),trivial,fun b hb=>absurd (show b∈([]:List Addr) from hb) (by simp),hok,.of_eq hg⟩
  refine codeAny_mono ((F _ hKb (nsK hns)).run callerA [] s₁ H ⟨[.ref a],[]⟩ [.ref a] [.ref a] _ _ hr e0 (hbind s₁ (.ref a)) (.cons rfl .nil) (hsp H hO hS)) fun r s' h=>?_;cases r with
  | error e=>exact (hCX H e s' h).elim
  | ok fl=>
   cases fl with
   | next=>exact False.elim h
   | brk=>exact False.elim h
   | cont=>exact False.elim h
   | ret u=>
    obtain⟨v,H',os,bare,un,hok',r',q⟩:=h;have q':v=.bl true:=q;subst q';obtain rfl:u=Value.bool true:=r';refine⟨rfl,OldK.of_keep fun b o e=>?_,os,bare⟩;cases q:H b with
    | none=>exact un.keep b o e q (by intro z; exact absurd (show b∈([]:List Addr) from z) (by simp)) (by simp)
    | some u=>
     rcases hO b with z | ⟨ob,xs,z⟩
     ·rw[q] at z; cases z
     ·have z2:=un.frzs b ob _ z;obtain⟨e1,_⟩:=hok b _ z;obtain⟨e2,_⟩:=hok' b _ z2;rw[e] at e1; cases e1;exact e2
 cases hk:K.lookup a with
 | some o=>
  have e:=KX a o hk;rw[ha] at e;cases e;refine core (fun _=>none) (fun _=>.inl rfl) (.inr ⟨_,vs.toArray,_,hk,rfl,rfl,rfl,by rw[List.size_toArray,lenV]; exact hl,by simpa using rv⟩) (fun b u z=>by have z':(none:Option HO)=some u:=z; cases z') (fun b z=>absurd rfl z) fun z=>absurd rfl z
 | none=>
  refine core (fun b=>if b=a then some (.frz { cls:=.type "list",data:=.seq vs.toArray } (.lst (ns.map V.int))) else none) (fun b=>?_) (.inl (.inr ⟨{ cls:=.type "list",data:=.seq vs.toArray },if_pos rfl⟩)) (fun b u z=>?_) (fun b z=>?_) fun _=>hk
  ·by_cases hb:b=a
   ·exact .inr ⟨_,_,if_pos hb⟩
   ·exact .inl (if_neg hb)
  ·by_cases hb:b=a
   ·have z':=(if_pos hb).symm.trans z;cases z';subst hb;exact⟨ha,by rw[List.length_map]; exact hl,vs,_,rv,ha⟩
   ·have z':=(if_neg hb).symm.trans z;cases z'
  ·by_cases hb:b=a
   ·exact hb
   ·exact absurd (if_neg hb) z
end L2
namespace L2
open PySem PySem.Spec PyProof.Rows
end L2
namespace L2
open PySem PySem.Spec PyProof.Rows
noncomputable def bv (s:Stmt)(j:Nat):Stmt:=match s with
 | .ClassDef _ _ _ body _ _ _ _ _ _ _=>body.getD j (.Pass ⟨0,0,0,0⟩)
 | _=>.Pass ⟨0,0,0,0⟩
noncomputable def ak (s:Stmt):Arguments:=match s with
 | .FunctionDef _ a _ _ _ _ _ _ _ _=>a
 | _=>{ posonlyargs:=[],args:=[],vararg:=none,kwonlyargs:=[],kw_defaults:=[],kwarg:=none,defaults:=[] }
noncomputable def ax (s:Stmt):List Stmt:=match s with
 | .FunctionDef _ _ b _ _ _ _ _ _ _=>b
 | _=>[]
noncomputable def bH (s:Stmt):Scope:=match s with
 | .FunctionDef _ _ _ _ _ _ sc _ _ _=>sc
 | _=>{ kind:=.function,names:=[],isGenerator:=false,isCoroutine:=false }
abbrev E0:St->XK:=fun _ _ _ _=>False
section
variable {P:Program}{w:World}{K:aL}{mg:Str->Option Value}{base:Heap}
end
theorem sA (h:n<=1000):n<sizeLine:=Nat.lt_of_le_of_lt h (by decide)
section
variable {X:Cx}
end
def Same (H H':Hp):Prop:=∀b o,H b=some o->H' b=some o
theorem Same.trans (a:Same H H1)(b:Same H1 H2):Same H H2:=fun c o h=>b c o (a c o h)
theorem Same.free (e:Same H H')(h:H' l=Option.none):H l=Option.none:=by
 cases q:H l with
 | none=>rfl
 | some o=>
  rw[e l o q] at h;cases h
theorem Same.seq {K:aL}{H H':Hp}{a:Addr}{xs:List V}(e:Same H H')(h:SqL K H a xs):SqL K H' a xs:=by
 rcases h with (h | ⟨o,h⟩) | h
 ·exact .inl (.inl (e _ _ h))
 ·exact .inl (.inr ⟨o,e _ _ h⟩)
 ·exact .inr h
end L2
end
section
namespace L2
open PySem PySem.W Builtin Builtin.ObjectAttr
structure Fly (h:Heap)(e T:Addr)(fl:Value):Prop where
 ex:∃oe vs oT ts,h.get? e=some oe/\oe.data=.fields vs/\vs[1]? = some (.ref T)/\h.get? T=some oT/\oT.data=.fields ts/\ts[3]? = some fl
 ne:T≠e
structure XStep (fr:List Addr)(e:Addr)(ch:List Addr)(h h':Heap):Prop where
 size:h.objs.size<=h'.objs.size
 keep:∀b o,h.get? b=some o->b≠e->b∉fr->b∉ch->h'.get? b=some o
 slot:∀b o,h.get? b=some o->b≠e->b∈fr->b∉ch->∃sl,h'.get? b=some { o with slots:=sl }
 exc:∀oe vs,h.get? e=some oe->oe.data=.fields vs->∃vs':Array Value,h'.get? e=some { oe with data:=.fields vs' }/\vs'.size=vs.size/\vs'[0]? = vs[0]?
 there:∀b o,h.get? b=some o->b≠e->∃o',h'.get? b=some o'
theorem Gb {o:Obj}{vs:Array Value}(hd:o.data=.fields vs)(f:Array Value->Array Value):o.mapFields f={ o with data:=.fields (f vs) }:=by
 obtain⟨c,d,dt,sl⟩:=o; subst hd; rfl
theorem XStep.trans (a:XStep fr e ch h1 h2)(b:XStep fr e ch h2 h3):XStep fr e ch h1 h3 where
 size:=bK a.size b.size
 keep:=fun c o z n1 n2 n3=>b.keep c o (a.keep c o z n1 n2 n3) n1 n2 n3
 slot:=fun c o z n1 n2 n3=>by
  obtain⟨sl,z1⟩:=a.slot c o z n1 n2 n3;obtain⟨sl',z2⟩:=b.slot c _ z1 n1 n2 n3;exact⟨sl',z2⟩
 exc:=fun oe vs z hd=>by
  obtain⟨v1,z1,e1,e2⟩:=a.exc oe vs z hd;obtain⟨v2,z2,e3,e4⟩:=b.exc _ v1 z1 rfl;exact⟨v2,z2,e3.trans e1,e4.trans e2⟩
 there:=fun c o z n1=>by
  obtain⟨o1,z1⟩:=a.there c o z n1;exact b.there c o1 z1 n1
theorem XStep.mono (a:XStep fr e ch h1 h2)(hf:∀b∈fr,b∈fr')(hc:∀b∈ch,b∈ch'):XStep fr' e ch' h1 h2 where
 size:=a.size
 keep:=fun c o z n1 n2 n3=>a.keep c o z n1 (fun q=>n2 (hf c q)) fun q=>n3 (hc c q)
 slot:=fun c o z n1 n2 n3=>by
  by_cases q:c∈fr
  ·exact a.slot c o z n1 q fun q=>n3 (hc c q)
  ·exact⟨o.slots,a.keep c o z n1 q fun q=>n3 (hc c q)⟩
 exc:=a.exc
 there:=a.there
section
variable {M:Model}{A:Around}{E:Value->Shared->Prop}{s:Shared}{base:Heap}{env:Env}{outer:List Env}{L e T:Addr}{Q:Unit->Shared->Prop}
theorem nJ {oe:Obj}{vs:Array Value}{i:Nat}{x:Value}(he:s.heap.get? e=some oe)(hd:oe.data=.fields vs)(hi:i<vs.size)
  (hQ:∀h',h'.objs.size=s.heap.objs.size->h'.get? e=some { oe with data:=.fields (vs.setIfInBounds i x) }->(∀b,b≠e->h'.get? b=s.heap.get? b)->Q () { s with heap:=h' }):wpAny M A (setField (.ref e) i x) Q E s:=by
 refine wpAny_setField he hd hi (hQ _ (Heap.size_after_update ..) ?_ fun b hb=>Heap.get?_update_other _ _ (Ne.symm hb));rw[<-Gb hd (fun ws=>ws.setIfInBounds i x)];exact Heap.get?_update_self _ he (Obj.isFreed_of_fields (Obj.data_mapFields hd _))
theorem tR (hfr:A.frames=some (env::outer))(hl:s.heap.FunFrames base (env::outer))(hf:env.frame=some L)
  (he:s.heap.get? e=some oe)(hd:oe.data=.fields vs)(hz:1<vs.size)
  (hQ:∀h',Fly h' e s.heap.objs.size (rawInt L)->XStep ((env::outer).filterMap (·.frame)) e [] s.heap h'->Q () { s with heap:=h' }) :
  wpAny M A (do let a <-frameOf env; let pl <-entryPlaceOf L hadNext; let b <-EntryCells.newEntry head a .none (rawInt L) .none pl; setField (.ref e) 1 b) Q E s:=by
 have nfr:e∉(env::outer).filterMap (·.frame):=fun hm=>by
  obtain⟨_,o,ho,hnf⟩:=hl.mem hm;rw[he] at ho;cases ho;exact hnf vs hd
 refine ai (wpAny_frameOf_fun hfr hl hf fun h1 so=>ai (wpAny_entryPlaceOf fun pl hpl=>?_));have z1:h1.get? e=some oe:=(so.2.1 e nfr).trans he;unfold EntryCells.newEntry newFields;refine ai (wpAny_newObj_type ?_ (hpl.sizeOk5 _ _ _ _ _));generalize hto:({ cls:=.type "traceback",dict:=none,data:=.fields ([head,.ref L,.none,rawInt L,.none]++(if pl.isEmpty then List.replicate 6 Value.none else pl)).toArray }:Obj)=to;have dto:to.data=.fields ([head,.ref L,.none,rawInt L,.none]++(if pl.isEmpty then List.replicate 6 Value.none else pl)).toArray:=by rw[<-hto]
 have nft:to.isFreed=false:=Obj.isFreed_of_fields dto;refine nJ (bI _ z1) hd hz fun h2 sz2 g2 k2=>?_;have lte:e<h1.objs.size:=bw z1;have gT:h2.get? h1.objs.size=some to:=(k2 _ (Nat.ne_of_gt lte)).trans (da _ nft);have sz1:h1.objs.size=s.heap.objs.size:=so.1;rw[<-sz1] at hQ;refine hQ h2 ⟨⟨_,_,to,_,g2,rfl,by simp[hz],gT,dto,by simp⟩,Nat.ne_of_gt lte⟩ ⟨?_,fun b o z n1 n2 _=>?_,fun b o z n1 _ _=>?_,fun o ws z hw=>?_,fun b o z n1=>?_⟩
 ·rw[sz2];show s.heap.objs.size<=(h1.push to).objs.size;rw[Heap.size_push,sz1];omega
 ·rw[k2 b n1];exact bI _ ((so.2.1 b n2).trans z)
 ·obtain⟨sl,q⟩:=so.2.2 b o z;exact⟨sl,by rw[k2 b n1]; exact bI _ q⟩
 ·rw[he] at z;cases z;rw[hd] at hw;cases hw;exact⟨_,g2,by simp,by rw[Array.getElem?_setIfInBounds_ne (by decide)]⟩
 ·obtain⟨sl,q⟩:=so.2.2 b o z;exact⟨_,by rw[k2 b n1]; exact bI _ q⟩
theorem wD (hfr:A.frames=some (env::outer))(hl:s.heap.FunFrames base (env::outer))(hf:env.frame=some L)(he:s.heap.get? e=some oe)(hd:oe.data=.fields vs)(h1:vs[1]? = some .none)
  (hQ:∀h',Fly h' e s.heap.objs.size (rawInt L)->XStep ((env::outer).filterMap (·.frame)) e [] s.heap h'->Q () { s with heap:=h' }):wpAny M A (noteFrame (.ref e) env) Q E s:=by
 unfold noteFrame;simp only[hf];refine ai (wpAny_field he hd h1 ?_);rw[if_neg (by decide)];exact tR hfr hl hf he hd (Array.getElem?_eq_some_iff.mp h1).1 hQ
theorem tm (hfr:A.frames=some (env::outer))(hl:s.heap.FunFrames base (env::outer))(hf:env.frame=some L)(F:Fly s.heap e T .none)
  (hQ:∀h',Fly h' e s.heap.objs.size (rawInt L)->XStep ((env::outer).filterMap (·.frame)) e [T] s.heap h'->Q () { s with heap:=h' }):wpAny M A (noteFrame (.ref e) env) Q E s:=by
 obtain⟨⟨oe,vs,oT,ts,he,hd,h1,hT,hdT,h3⟩,hne⟩:=F;unfold noteFrame;simp only[hf];refine ai (wpAny_field he hd h1 ?_);rw[if_pos (show (Value.ref T != Value.none)=true from by simp)];refine ai (wpAny_field hT hdT h3 ?_);rw[if_neg (show ¬((Value.none == rawInt L)=true) from by simp[rawInt])];refine ai (nJ hT hdT (Array.getElem?_eq_some_iff.mp h3).1 fun h1' sz1 g1 k1=>?_);have nT:∀b o,s.heap.get? b=some o->(∀vs,o.data≠.fields vs)->b≠T:=fun b o hb hnf z=>by
  rw[z,hT] at hb;cases hb;exact hnf ts hdT
 have st:XStep ((env::outer).filterMap (·.frame)) e [T] s.heap h1':=⟨Nat.le_of_eq sz1.symm,fun b o z _ _ n=>by rw[k1 b (by simpa using n)]; exact z,fun b o z _ _ n=>⟨o.slots,by rw[k1 b (by simpa using n)]; exact z⟩,
  fun o ws z hw=>⟨ws,by rw[k1 e (Ne.symm hne),z,<-hw],rfl,rfl⟩,fun b o z _=>by
   by_cases q:b=T
   ·rw[q]; exact⟨_,g1⟩
   ·exact⟨o,by rw[k1 b q]; exact z⟩⟩
 refine tR (base:=base) (s:={ s with heap:=h1' }) hfr (hl.of_keeps fun b o hb hnf=>⟨o,by rw[k1 b (nT b o hb hnf)]; exact hb,rfl⟩) hf (by rw[k1 e (Ne.symm hne)]; exact he) hd (Array.getElem?_eq_some_iff.mp h1).1 fun h2 F2 st2=>?_;rw[show ({ s with heap:=h1' }:Shared).heap.objs.size=s.heap.objs.size from sz1] at F2;exact hQ h2 F2 (st.trans (st2.mono (fun _ z=>z) fun _ z=>nomatch z))
theorem lV (F:Fly s.heap e T fl)(hQ:∀h',Fly h' e T .none->XStep [] e [T] s.heap h'->Q () { s with heap:=h' }):wpAny M A (setFlight (.ref e) none) Q E s:=by
 obtain⟨⟨oe,vs,oT,ts,he,hd,h1,hT,hdT,h3⟩,hne⟩:=F;unfold setFlight;refine ai (wpAny_field he hd h1 ?_);rw[if_pos (show (Value.ref T != Value.none)=true from by simp)];refine nJ hT hdT (Array.getElem?_eq_some_iff.mp h3).1 fun h' sz g k=>?_;refine hQ h' ⟨⟨oe,vs,_,_,by rw[k e (Ne.symm hne)]; exact he,hd,h1,g,rfl,by simp[(Array.getElem?_eq_some_iff.mp h3).1]⟩,hne⟩ ⟨Nat.le_of_eq sz.symm,fun b o z _ _ n=>by rw[k b (by simpa using n)]; exact z,(fun b o z _ n _=>nomatch n),
  fun o ws z hw=>⟨ws,by rw[k e (Ne.symm hne),z,<-hw],rfl,rfl⟩,fun b o z _=>?_⟩
 by_cases q:b=T
 ·rw[q]; exact⟨_,g⟩
 ·exact⟨o,by rw[k b q]; exact z⟩
theorem Aj (hfr:A.frames=some (env::outer))(hl:s.heap.FunFrames base (env::outer))(hf:env.frame=some L)(he:s.heap.get? e=some oe)(hd:oe.data=.fields vs)(h1:vs[1]? = some .none)
  (hQ:∀h',Fly h' e s.heap.objs.size .none->XStep ((env::outer).filterMap (·.frame)) e [s.heap.objs.size] s.heap h'->Q () { s with heap:=h' }):wpAny M A (leaving env (.ref e)) Q E s:=by
 unfold leaving;refine ai (wD hfr hl hf he hd h1 fun h2 F2 s2=>lV (s:={ s with heap:=h2 }) F2 fun h3 F3 s3=>?_);exact hQ h3 F3 ((s2.mono (fun _ z=>z) fun _ z=>nomatch z).trans (s3.mono (fun _ z=>nomatch z) fun _ z=>z))
theorem GR (hfr:A.frames=some (env::outer))(hl:s.heap.FunFrames base (env::outer))(hf:env.frame=some L)(F:Fly s.heap e T .none)
  (hQ:∀h',Fly h' e s.heap.objs.size .none->XStep ((env::outer).filterMap (·.frame)) e [T,s.heap.objs.size] s.heap h'->Q () { s with heap:=h' }):wpAny M A (leaving env (.ref e)) Q E s:=by
 unfold leaving;refine ai (tm hfr hl hf F fun h2 F2 s2=>lV (s:={ s with heap:=h2 }) F2 fun h3 F3 s3=>?_);exact hQ h3 F3 ((s2.mono (fun _ z=>z) fun _ z=>by simp at z; simp[z]).trans (s3.mono (fun _ z=>nomatch z) fun _ z=>by simp at z; simp[z]))
end
noncomputable abbrev bz:List Value:=[.type "ValueError",.type "Exception",.type "BaseException",.type "object"]
structure XO (K:Frag)(C:Addr)(tl:List Addr):Prop where
 obj:∃(nm q:Str) (N:Addr) (bs:List Value) (sn:List Str) (sub:List Value) (ab:Bool) (col:Option Bool) (dd:Option Addr) (k0 k1 k2 k3 k5:Option Value),
  K.lookup C=some (excClassObj nm q C N bs (tl.map Value.ref++bz) true sn sub ab col dd k0 k1 k2 k3 k5 "ValueError.__new__")
structure XC (K:Frag)(C fI:Addr)(tl:List Addr):Prop extends XO K C tl where
 init:findIn K (.ref C) "__init__" = some (some (.ref fI))
 fn:isFn K (.ref fI)=true
 sa:findIn K (.ref C) "__setattr__" = some (some (.builtin "object.__setattr__"))
 ga:findIn K (.ref C) "__getattribute__" = some (some (.builtin "BaseException.__getattribute__"))
 gh:findIn K (.ref C) "__getattr__" = some none
section
variable {prog:Program}{w:World}{A:Around}{E:Value->Shared->Prop}{s:Shared}{K:Frag}{C fI x:Addr}{tl:List Addr}{mA:Str->Option Value}{name:Str}{v:Value}
theorem t6 (self:Value)(what:Str)(l:List Value):∀tl:List Addr,refuseLoop self what (tl.map Value.ref++l)=refuseLoop self what l
 | []=>rfl
 | a::r=>by
  rw[List.map_cons,List.cons_append,refuseLoop_ref];exact t6 self what l r
theorem n0 (I:h.Inst x C mA):∃ox od,InstAt h x ox C od:=by
 obtain⟨o,hx,hc,hn,hd⟩:=I;have hn':notCls o=true:=by
  unfold notCls;cases q:o.data <;> first | rfl | (exact absurd q (hn _))
 rcases hd with ⟨e,_⟩ | ⟨d,e,_,o',es,ep,ho,_⟩
 ·exact⟨o,none,hx,hc,hn',by rw[e]; trivial⟩
 ·exact⟨o,some o',hx,hc,hn',by rw[e]; exact ho⟩
theorem yn (T:XC K C fI tl)(X:K.In s.heap)(hna:findIn K (.ref C) name=some none)(I:s.heap.Inst x C mA)(hw:Within mA ns)(hsz:ns.length<sizeLine)
  (hq:∀h' tk',h'.Inst x C (fun y=>if y=name then some v else mA y)->s.heap.objs.size<=h'.objs.size ->
   (∀b o,b≠x->(∀o₀ dx,s.heap.get? x=some o₀->o₀.dict=some dx->b≠dx)->s.heap.get? b=some o->h'.get? b=some o) ->
   (∀o₀,s.heap.get? x=some o₀->∃o₁,h'.get? x=some o₁/\o₁.data=o₀.data/\((∃dx,o₀.dict=some dx/\o₁.dict=some dx)\/(o₀.dict=none/\o₁.dict=some s.heap.objs.size)))->Q () { s with heap:=h',toks:=tk' }) :
  wpAny (model prog w) A (setAttr (.ref x) name v) Q E s:=by
 obtain⟨ox,od,J⟩:=n0 I;have SF:=PySem.F.store_ValueError;obtain⟨nm,q,N,bs,sn,sub,ab,col,dd,k0,k1,k2,k3,k5,lk⟩:=T.obj;have hC:=X _ _ lk;have hcont:(Value.ref C::(tl.map Value.ref++bz)).contains (.type "object")=true:=by
  rw[List.contains_cons,List.contains_append];rw[show bz.contains (.type "object")=true from by decide +kernel,Bool.or_true,Bool.or_true]
 have iso:Looks (model prog w) s.heap (isInstance (.ref x) (.type "object")) true:=J.type.andThen fun A' Q' E' s' k q'=>by
  obtain⟨h1,g1,d1,t1,o1⟩:=s';refine wpAny_isSubtype_exc (k _ _ hC) ?_;rw[hcont]; exact q'
 have J':=J;have X':=X;obtain⟨hp,g,d,tk,os⟩:=s;refine set_plain X J T.sa (codeAny_call_builtin SF.slot.plain SF.entry (@check_slot (model prog w) _ _ _ "object.__setattr__" "object" "__setattr__" (.ref x) [.str name tk,v] [] _ SF.kind SF.split iso (SF.args (.ref x) (.str name tk) v) ?_));have hpass:=SF.passes (.ref x);obtain⟨o,hx,hc,hnc,hd⟩:=I;unfold Builtin.«object.__setattr__»;repeat (first | rw[refuse_eq] | (rw[refuseLoop_ref,t6,hpass]) | (with_reducible refine wpAny_loadPart_at hx ?_; rw[hc]) | with_reducible refine wpAny_mroOf_exc hC ?_ | with_reducible refine (looks_findIn X hna).here ?_ | wp_step)
 change K.In hp at X;show wpAny _ _ _ _ _ ⟨hp,g,d,tk+1,os⟩;refine (looks_findIn X hna).at ?_;repeat (first | (with_reducible refine wpAny_loadPart_at hx ?_; rw[hc]) | with_reducible refine wpAny_loadPart_at hC ?_ | wp_step)
 rcases hd with ⟨hdn,hmA⟩ | ⟨dx,hdx,hne,hns⟩
 ·rw[hdn,if_neg (by simp[typeHasDict])];split
  ·rename_i z;cases z
  split
  ·rename_i c z;exact absurd z (hnc c)
  ·have lt:x<hp.objs.size:=bw hx;have hx1:(hp.push { cls:=.type "dict",data:=.dict #[] }).get? x=some o:=bI _ hx;refine ai (wpAny_alloc' (ai (wpAny_update' hx1 (aG ?_))));generalize hh2:((hp.push { cls:=.type "dict",data:=.dict #[] }).update x fun o=>{ cls:=o.cls,dict:=some hp.objs.size,data:=o.data,slots:=o.slots })=h2;have gd:h2.get? hp.objs.size=some { cls:=.type "dict",data:=.dict #[] }:=by
    rw[<-hh2];exact (Heap.get?_update_other _ _ (cQ lt)).trans (Heap.get?_push_at rfl rfl)
   have gx:h2.get? x=some { cls:=o.cls,dict:=some hp.objs.size,data:=o.data,slots:=o.slots }:=by
    rw[<-hh2];refine Heap.get?_update_self _ hx1 ?_;have fr:=(Heap.get?_some_iff.mp hx).2;obtain⟨_,_,dt,_⟩:=o;cases dt <;> first | rfl | exact fr
   have gb:∀b ob,b≠x->hp.get? b=some ob->h2.get? b=some ob:=fun b ob nb z=>by
    rw[<-hh2];exact (Heap.get?_update_other _ _ (Ne.symm nb)).trans (bI _ z)
   have sz2:h2.objs.size=hp.objs.size+1:=by rw[<-hh2,Heap.size_after_update,Heap.size_push]
   have nd:h2.Ns1 hp.objs.size (fun _=>none):=Heap.Ns1.of_empty ⟨_,#[],_,gd,rfl,fun e he=>absurd he (by simp),fun _=>rfl⟩;show wpAny _ _ (storeInDict hp.objs.size (.str name tk) name v) _ _ _;unfold storeInDict newKeyGuard;refine ai (aG (ai (wpAny_nsSet1 nd fun h3 n3 s3=>?_)));obtain⟨oD,esD,epD,hoD,hdD,hcD⟩:=n3.count (Within.cons name v Within.nil);refine ai (wpAny_lookBehind hoD (by rw[hdD]; exact pastItsLine_dict (bK hcD (by rw[List.length_cons,List.length_nil,sizeLine_eq]; omega))) ?_);wp_walk
   have gx3:=(s3.2 x (cQ lt)).trans gx;refine hq h3 _ ⟨_,gx3,hc,hnc,.inr ⟨hp.objs.size,rfl,Nat.ne_of_gt lt,?_⟩⟩ (by rw[s3.1,sz2]; exact Nat.le_succ _) (fun b ob nb _ z=>?_) fun o₀ z=>?_
   ·obtain⟨o',es,ep,e1,e2,e3,eu,e4⟩:=n3;exact⟨o',es,ep,e1,e2,e3,eu,fun y=>by rw[e4 y]; by_cases hy:y=name <;> simp[hy,hmA]⟩
   ·exact (s3.2 b (cQ (bw z))).trans (gb b ob nb z)
   ·obtain rfl:o=o₀:=bV (hx.symm.trans z);exact⟨_,gx3,rfl,.inr ⟨hdn,rfl⟩⟩
 ·rw[hdx];refine aG ?_;show wpAny _ _ (storeInDict dx (.str name tk) name v) _ _ _;unfold storeInDict newKeyGuard;refine ai (aG (ai (wpAny_nsSet1 hns fun h3 n3 s3=>?_)));obtain⟨oD,esD,epD,hoD,hdD,hcD⟩:=n3.count (Within.cons name v hw);refine ai (wpAny_lookBehind hoD (by rw[hdD]; exact pastItsLine_dict (bK hcD (by rw[List.length_cons]; omega))) ?_);wp_walk
  have gx3:=(s3.2 x (Ne.symm hne)).trans hx;refine hq h3 _ ⟨o,gx3,hc,hnc,.inr ⟨dx,hdx,hne,n3⟩⟩ (Nat.le_of_eq s3.1.symm) (fun b ob _ hbd z=>(s3.2 b (hbd o dx hx hdx)).trans z) fun o₀ z=>?_;obtain rfl:o=o₀:=bV (hx.symm.trans z);exact⟨o,gx3,rfl,.inl ⟨dx,hdx,hdx⟩⟩
end
section
variable {prog:Program}{w:World}{A:Around}{E:Value->Shared->Prop}{s:Shared}{K:Frag}{C fI x:Addr}{tl:List Addr}{mA:Str->Option Value}{name:Str}{v:Value}
theorem tW (T:XC K C fI tl)(X:K.In s.heap)(J:InstAt s.heap x ox C od)(hB:bz.contains (.type B)=true):Looks M s.heap (isInstance (.ref x) (.type B)) true:=by
 obtain⟨nm,q,N,bs,sn,sub,ab,col,dd,k0,k1,k2,k3,k5,lk⟩:=T.obj;have hC:=X _ _ lk;have hcont:(Value.ref C::(tl.map Value.ref++bz)).contains (.type B)=true:=by rw[List.contains_cons,List.contains_append,hB,Bool.or_true,Bool.or_true]
 exact J.type.andThen fun A' Q' E' s' k q'=>by
  obtain⟨h1,g1,d1,t1,o1⟩:=s';refine wpAny_isSubtype_exc (k _ _ hC) ?_;rw[hcont]; exact q'
theorem Cq (T:XC K C fI tl)(X:K.In s.heap)(hna:findIn K (.ref C) name=some none)(I:s.heap.Inst x C mA)(hv:mA name=some v)(hh:handedOut v=pure v)
  (hq:Q v { s with toks:=s.toks+1 }):wpAny (model prog w) A (getAttr (.ref x) name expr) Q E s:=by
 obtain⟨ox,od,J⟩:=n0 I;have FA:=PySem.F.excAttr_ValueError;have iso:=tW (M:=model prog w) T X J (B := "BaseException") (by decide +kernel);have f3:=FA.ga.bind (.ref x);have hx0:(expr&&onTheHeap (Value.builtin "BaseException.__getattribute__"))=false:=by cases expr <;> rfl
 have hx2:(Value.builtin "BaseException.__getattribute__" == Value.builtin "object.__getattribute__")=false:=by decide +kernel
 have hx1:(onTheHeap (Value.ref C)&&Value.builtin "BaseException.__getattribute__" == Value.builtin "object.__getattribute__")=false:=by rw[hx2]; rfl
 obtain⟨nm,q,N,bs,sn,sub,ab,col,dd,k0,k1,k2,k3,k5,lk⟩:=T.obj;have hC:=X _ _ lk;obtain⟨o,hx,hc,hnc,hd⟩:=I;obtain⟨hp,g,d,tk,os⟩:=s;change K.In hp at X;change hp.get? x=some o at hx;have ga:∀{t:Nat} {Q':Option Value->Shared->Prop} {E':Value->Shared->Prop} {A':Around},Q' (some (.builtin "BaseException.__getattribute__")) ⟨hp,g,d,t,os⟩->wpAny (model prog w) A' (typeLookup (.ref C) "__getattribute__") Q' E' ⟨hp,g,d,t,os⟩:=fun z=>(looks_findIn X T.ga).at z;have gh:∀{t:Nat} {Q':Option Value->Shared->Prop} {E':Value->Shared->Prop} {A':Around},Q' none ⟨hp,g,d,t,os⟩->wpAny (model prog w) A' (typeLookup (.ref C) "__getattr__") Q' E' ⟨hp,g,d,t,os⟩:=fun z=>(looks_findIn X T.gh).at z;have gn:∀{t:Nat} {Q':Option Value->Shared->Prop} {E':Value->Shared->Prop} {A':Around},Q' none ⟨hp,g,d,t,os⟩->wpAny (model prog w) A' (typeLookup (.ref C) name) Q' E' ⟨hp,g,d,t,os⟩:=fun z=>(looks_findIn X hna).at z;unfold getAttr getAttrBy;repeat (any_goals (first | assumption | (with_reducible refine wpAny_loadPart_at hx ?_; rw[hc]) | with_reducible refine ga ?_ | with_reducible refine gh ?_ | wp_step))
 refine codeAny_call_builtin FA.ga.plain F.entry_bexc_ga (@check_slot (model prog w) _ _ _ "BaseException.__getattribute__" "BaseException" "__getattribute__" (.ref x) [.str name tk] [] _ (by decide +kernel) (by decide +kernel) iso (F.args_bexc_ga _ _) ?_);rcases hd with ⟨_,hmA⟩ | ⟨dx,hdx,hne,hns⟩
 ·rw[hmA name] at hv; cases hv
 unfold Builtin.«object.__getattribute__»;repeat (any_goals (first | assumption | (with_reducible refine wpAny_loadPart_at hx ?_; rw[hc]) | with_reducible refine wpAny_loadPart_at hC ?_ | with_reducible refine gn ?_ | wp_step))
 split
 ·rename_i c z;exact absurd z (hnc c)
 unfold instanceDict;repeat (any_goals (first | assumption | (with_reducible refine wpAny_loadPart_at hx ?_; rw[hc]) | with_reducible refine wpAny_loadPart_at hC ?_ | wp_step))
 rw[hdx];repeat (any_goals (first | assumption | (with_reducible refine wpAny_nsGet hns.ns ?_; rw[hv]) | wp_step))
end
section
variable {prog:Program}{w:World}{A:Around}{E:Value->Shared->Prop}{s:Shared}{K:Frag}{C fI x:Addr}{tl:List Addr}{mA:Str->Option Value}{name:Str}{v:Value}
theorem Ga {rest:List Value}{o:Obj}{vs:Array Value}{Q:Value->Shared->Prop}(T:XC K C fI tl)(X:K.In s.heap)(hx:s.heap.get? x=some o)(hc:o.cls=.ref C)(hd:o.data=.fields vs)(hz:0<vs.size)(hr:rest.length<=sizeLine)
  (hq:∀h',s.heap.objs.size<=h'.objs.size->(∀b ob,b≠x->s.heap.get? b=some ob->h'.get? b=some ob)->(∃a0,h'.get? x=some { o with data:=.fields (vs.setIfInBounds 0 a0) })->Q .none { s with heap:=h' }) :
  wpAny (model prog w) A (call (.builtin "ValueError.__init__") (.ref x::rest)) Q E s:=by
 have F:=PySem.F.excBase_ValueError;obtain⟨nm,q,N,bs,sn,sub,ab,col,dd,k0,k1,k2,k3,k5,lk⟩:=T.obj;have hC:=X _ _ lk;have hcont:(Value.ref C::(tl.map Value.ref++bz)).contains (.type "ValueError")=true:=by
  rw[List.contains_cons,List.contains_append,show bz.contains (.type "ValueError")=true from by decide +kernel,Bool.or_true,Bool.or_true]
 obtain⟨hp,g,d,tk,os⟩:=s;have hshort:=F.noStar;have h0:vs[0]? = some vs[0]:=by simp[hz]
 refine wpAny_call (codeAny_call_builtin F.init.plain F.initEntry ?_);simp only[checkBuiltinCall,F.initKind,F.initSplit,F.initRow];repeat (first | (with_reducible refine wpAny_loadPart_at hx ?_; rw[hc]) | with_reducible refine wpAny_loadPart_at hC ?_ | (with_reducible refine wpAny_isSubtype_exc hC ?_; rw[hcont]) | wp_step)
 refine wpAny_onRaise ?_;rw[show ∀(a b:String) (n:Nat),Bind.check ⟨.positional, "*", "ValueError",.self,[⟨"args",.varPos,false⟩]⟩ a b n (List.map (fun x=>x.fst) ({ pos:=Value.ref x::rest }:Args).kw)=pure () from fun a b n=>check_star_args _ _ _ _ _ _];refine aG ?_;show wpAny _ _ (newTuple rest >>= fun t=>Builtin.BaseException.bexcPut (.ref x) 0 t >>= fun _=>ret .none) _ _ _;refine ai (wpAny_newTuple (ai ?_) hr);unfold Builtin.BaseException.bexcPut;refine ai (wpAny_field (bI _ hx) hd h0 (ai (nJ (bI _ hx) hd hz fun h2 sz2 g2 k2=>?_)));have fin:Q .none ⟨h2,g,d,tk,os⟩:=hq h2 (by rw[sz2]; show hp.objs.size<=(hp.push _).objs.size; rw[Heap.size_push]; exact Nat.le_succ _) (fun b ob nb z=>by rw[k2 b nb]; exact bI _ z) ⟨_,g2⟩;cases vs[0] <;> (repeat (first | exact fin | wp_step))
end
theorem lu (C:Addr)(tl:List Addr)(n:String):(Value.ref C::(tl.map Value.ref++bz)).contains (.type n)=bz.contains (.type n):=by
 rw[List.contains_cons,List.contains_append];have h1:((Value.type n) == (Value.ref C))=false:=by rfl
 have h2:(tl.map Value.ref).contains (.type n)=false:=by
  induction tl with
  | nil=>rfl
  | cons a r ih=>rw[List.map_cons,List.contains_cons,ih]; rfl
 rw[h1,h2,Bool.false_or,Bool.false_or]
section
variable {prog:Program}{w:World}{A:Around}{E:Value->Shared->Prop}{s:Shared}{K:Frag}{C fI:Addr}{tl:List Addr}
theorem Br {rest:List Value}{R:Result->Shared->Prop}(T:XC K C fI tl)(X:K.In s.heap)(hrest:rest.length<=sizeLine)
  (hq:R (.ok (.ret (.ref (s.heap.objs.size+1)))) { s with heap:=(s.heap.push { cls:=.type "tuple",data:=.seq rest.toArray }).push { cls:=.ref C,data:=.fields #[.ref s.heap.objs.size,.none,.none,.none,.bool false,.none] } }) :
  codeAny (model prog w) A (.builtin "ValueError.__new__" ⟨.ref C::rest,[]⟩) R s:=by
 have F:=PySem.F.excBase_ValueError;obtain⟨nm,q,N,bs,sn,sub,ab,col,dd,k0,k1,k2,k3,k5,lk⟩:=T.obj;have hC:=X _ _ lk;have cB:(Value.ref C::(tl.map Value.ref++bz)).contains (.type "ValueError")=true:=by rw[lu]; decide +kernel
 have cA:(Value.ref C::(tl.map Value.ref++bz)).contains (.type "AttributeError")=false:=by rw[lu]; decide +kernel
 have cN:(Value.ref C::(tl.map Value.ref++bz)).contains (.type "NameError")=false:=by rw[lu]; decide +kernel
 obtain⟨h,g,d,t,os⟩:=s;have ends:=F.ends;refine codeAny_builtinAt F.entry ?_;unfold Builtin.«BaseException.__new__»;refine wpAt_bind ?_;show wpAt _ _ _ (stack >>= _) _ _ _;refine wpAt_bind (wpAt_stack fun p below=>wpAt_of_wpAny ?_);wp_walk
 refine wpAt_of_wpAny ?_;rw[F.owner];repeat (first | with_reducible refine wpAny_madeHere_exc F.canon hC ?_ | with_reducible refine wpAny_loadPart_at hC ?_ | (with_reducible refine wpAny_isSubtype_exc hC ?_; first | rw[cB] | rw[cA] | rw[cN]) | wp_step)
 show R _ _;rw[Heap.size_push];exact hq
theorem zW {rest:List Value}{M:Model}{Q:Unit->Shared->Prop}(T:XC K C fI tl)(X:K.In s.heap)(hq:Q () s):wpAny M A (checkBuiltinCall "ValueError.__new__" ⟨.ref C::rest,[]⟩) Q E s:=by
 have F:=PySem.F.excBase_ValueError;obtain⟨nm,q,N,bs,sn,sub,ab,col,dd,k0,k1,k2,k3,k5,lk⟩:=T.obj;have hC:=X _ _ lk;have cB:(Value.ref C::(tl.map Value.ref++bz)).contains (.type "ValueError")=true:=by rw[lu]; decide +kernel
 have star:=F.noStar;obtain⟨h,g,d,t,os⟩:=s;simp only[checkBuiltinCall,F.newKind,F.newSplit,F.newRow];repeat (first | refine wpAny_loadPart_at hC ?_ | (refine wpAny_isSubtype_exc hC ?_; rw[cB]) | refine wpAny_staticBase_exc hC ?_ | refine wpAny_madeBy_exc hC ?_ | simp only[bne_self_eq_false,Bool.false_eq_true,if_false] | wp_step)
 exact hq
theorem Eg {rest:List Value}{Q:Fin->Shared->Prop}(T:XC K C fI tl)(X:K.In s.heap)(hrest:rest.length<=sizeLine)
  (hq:∀h' e,Heap.MadeExcOf s.heap h' e (.ref C) rest->s.heap.objs.size<=e->wpAny (model prog w) A (call (.ref fI) (.ref e::rest)) (fun r s'=>r=.none/\Q (.done (.ret (.ref e))) s') E { s with heap:=h' }) :
  wpAny (model prog w) A (Builtin.«type.__call__» ⟨.ref C::rest,[]⟩) Q E s:=by
 have F:=PySem.F.excBase_ValueError;have T':=T;have X':=X;obtain⟨nm,q,N,bs,sn,sub,ab,col,dd,k0,k1,k2,k3,k5,lk⟩:=T.obj;have hC:=X _ _ lk;have self:(Value.ref C::(tl.map Value.ref++bz)).contains (.ref C)=true:=by simp
 obtain⟨h,g,d,t,os⟩:=s;change K.In h at X;repeat (first | with_reducible refine wpAny_loadPart_at hC ?_ | with_reducible refine wpAny_madeBy_exc hC ?_ | wp_step)
 refine codeAny_call_builtin_code (Code.quiet_builtin _ F.quiet) (zW T' X' (Br T' X' hrest ?_));show wpAny _ _ _ _ _ ⟨(h.push { cls:=.type "tuple",data:=.seq rest.toArray }).push { cls:=.ref C,data:=.fields #[.ref h.objs.size,.none,.none,.none,.bool false,.none] },g,d,t,os⟩;generalize hto:({ cls:=.type "tuple",data:=.seq rest.toArray }:Obj)=to;generalize heo:({ cls:=.ref C,data:=.fields #[.ref h.objs.size,.none,.none,.none,.bool false,.none] }:Obj)=eo;have kp:∀b o,h.get? b=some o->((h.push to).push eo).get? b=some o:=fun b o z=>bI _ (bI _ z);have he1:((h.push to).push eo).get? (h.objs.size+1)=some eo:=by subst heo; subst hto; heap_get
 have ht1:((h.push to).push eo).get? h.objs.size=some to:=by subst hto; exact bI _ (Heap.get?_push_at rfl rfl)
 have ec:eo.cls=.ref C:=by rw[<-heo]
 have X2:K.In ((h.push to).push eo):=X.keeps kp;unfold isInstance;repeat (first | (with_reducible refine wpAny_loadPart_at he1 ?_; rw[ec]) | (with_reducible refine wpAny_isSubtype_exc (kp _ _ hC) ?_; rw[self]) | wp_step)
 show wpAny _ _ (typeLookup (.ref C) _) _ _ _;refine (looks_findIn X2 T.init).at (wpAny_holding (ai ?_));unfold bindSpecial;refine ai ((looks_typeIn X2 (beq_iff_eq.mp T.fn)).at ?_);rw[if_pos (by decide)];refine aG (ai (wpAny_mono (hq _ (h.objs.size+1) ⟨kp,Heap.get?_none_of_le (Nat.le_succ _),h.objs.size,by rw[heo]; exact he1,Heap.get?_none_of_le (bb _),by rw[hto]; exact ht1⟩ (Nat.le_succ _)) (fun r s' hr=>?_) fun _ _ x=>x));obtain⟨rfl,hQ⟩:=hr;wp_walk
 exact hQ
theorem C1 {rest:List Value}{Q:Value->Shared->Prop}(T:XC K C fI tl)(X:K.In s.heap)(hrest:rest.length<=sizeLine)
  (hq:∀h' e,Heap.MadeExcOf s.heap h' e (.ref C) rest->s.heap.objs.size<=e->wpAny (model prog w) (A.under (.builtin "type.__call__" ⟨.ref C::rest,[]⟩)) (call (.ref fI) (.ref e::rest)) (fun r s'=>r=.none/\Q (.ref e) s') E { s with heap:=h' }) :
  wpAny (model prog w) A (call (.ref C) rest) Q E s:=by
 obtain⟨nm,q,N,bs,sn,sub,ab,col,dd,k0,k1,k2,k3,k5,lk⟩:=T.obj;have hC:=X _ _ lk;have X':=X;obtain⟨h,g,d,t,os⟩:=s;have a1:=tc_lookup;have a2:=tc_bind (.ref C);have a3:(⟨h,g,d,t,os⟩:Shared).TypeIs (.ref C) "type":=⟨_,hC,rfl⟩
 refine wpAny_call (codeAny_of_tree ?_);show wpAny _ _ (callAny (.ref C) _) _ _ _;repeat (any_goals (first | assumption | with_reducible refine wpAny_loadPart_at hC ?_ | wp_step))
 exact⟨rfl,codeAny_call_builtin_at (Code.quiet_builtin _ (by decide +kernel)) entry_typeCall (wpAny_check_type_call_sub hC (Eg T X' hrest hq))⟩
end
section
variable {M:Model}{A:Around}{E:Value->Shared->Prop}{s:Shared}{env:Env}{K:Frag}{C:Addr}{tl:List Addr}
theorem D1 (hh:A.handled=none)
  (h:wpAny M A x (fun v s₁=>∃(e C:Addr) (tl:List Addr) (oe:Obj) (vs:Array Value),v=.ref e/\XO K C tl/\s₁.heap.get? e=some oe/\oe.cls=.ref C/\oe.data=.fields vs/\vs[1]? = some .none/\K.In s₁.heap/\E (.ref e) s₁) E s) :
  wpAny M A (raiseStmt env (some x) none) Q E s:=by
 unfold raiseStmt;refine ai (wpAny_mono h (fun v s₁ h₁=>?_) fun _ _ x=>x);obtain⟨e,C,tl,oe,vs,rfl,T,he,hc,hd,h1,X,hE⟩:=h₁;obtain⟨nm,q,N,bs,sn,sub,ab,col,dd,k0,k1,k2,k3,k5,lk⟩:=T.obj;have hC:=X _ _ lk;obtain⟨hp,g,d,tk,os⟩:=s₁;have hcB:(Value.ref C::(tl.map Value.ref++bz)).contains (.type "BaseException")=true:=by rw[lu]; decide +kernel
 obtain⟨oc,od,odt,osl⟩:=oe;cases hd;cases hc;repeat (any_goals (first | assumption | with_reducible refine wpAny_loadPart_at he ?_ | with_reducible refine wpAny_loadPart_at hC ?_ | (with_reducible refine wpAny_isSubtype_exc hC ?_; rw[hcB]) | with_reducible refine wpAny_field he rfl h1 ?_ | wp_step))
 exact wpAny_raiseNew_none hh hE
theorem AF (he:s.heap.get? e=some oe)(hc:oe.cls=.ref C)(X:K.In s.heap)(T:XO K C tl)(Y:XO K D tlD)
  (hQ:Q ((Value.ref C::(tl.map Value.ref++bz)).contains (.ref D)) s):wpAny M A (excMatches (.ref e) (.ref D)) Q E s:=by
 obtain⟨nm,q,N,bs,sn,sub,ab,col,dd,k0,k1,k2,k3,k5,lk⟩:=T.obj;obtain⟨nm',q',N',bs',sn',sub',ab',col',dd',k0',k1',k2',k3',k5',lk'⟩:=Y.obj;have hC:=X _ _ lk;have hD:=X _ _ lk';obtain⟨hp,g,d,tk,os⟩:=s;have hcB:(Value.ref D::(tlD.map Value.ref++bz)).contains (.type "BaseException")=true:=by rw[lu]; decide +kernel
 have nt:isSubtype (.type "type") (.type "tuple")=pure false:=by rw[isSubtype_type]; kernel_rfl
 have hT:(⟨hp,g,d,tk,os⟩:Shared).TypeIs (.ref D) "type":=⟨_,hD,rfl⟩
 unfold excMatches;repeat (any_goals (first | assumption | with_reducible refine wpAny_loadPart_at hD ?_ | (with_reducible refine wpAny_loadPart_at he ?_; rw[hc]) | (with_reducible refine wpAny_isSubtype_exc hD ?_; rw[hcB]) | with_reducible refine wpAny_isSubtype_exc hC ?_ | wp_step))
 cases hh:(Value.ref C::(tl.map Value.ref++bz)).contains (.ref D) with
 | true=>
  rw[hh] at hQ;repeat (any_goals (first | assumption | wp_step))
 | false=>
  rw[hh] at hQ;repeat (any_goals (first | assumption | wp_step))
end
end L2
end
section
namespace L2
open PySem PySem.Spec PyProof.Rows
noncomputable def ce (env:Env)(names:List (Str×NameKind))(acc:List (Str×Addr)):List (Str×Addr):=
 names.foldl (fun cs x=>if x.2 == NameKind.free then (x.1,(env.cells.lookup x.1).getD 0)::cs else cs) acc
theorem vh {α β:Type}{f:α->β->Sem (ForInStep β)}(g:β->α->β):∀(l:List α) (c:β),(∀x∈l,∀c,f x c=pure (.yield (g c x)))->forIn l c f=pure (l.foldl g c)
 | [],_,_=>rfl
 | x::r,c,h=>by
  rw[List.forIn_cons,h x List.mem_cons_self c,pure_bind];exact vh g r (g c x) fun y hy=>h y (bD _ hy)
theorem rM:∀(names:List (Str×NameKind)) (acc:List (Str×Addr)),(∀y∈names,y.2=NameKind.free->∃c,env.cells.lookup y.1=some c)->(∀x c,acc.lookup x=some c->env.cells.lookup x=some c) ->
  (∀x c,(ce env names acc).lookup x=some c->env.cells.lookup x=some c)/\(∀y∈names,y.2=NameKind.free->∃c,(ce env names acc).lookup y.1=some c)/\∀x c,acc.lookup x=some c->∃c',(ce env names acc).lookup x=some c'
 | [],acc,_,ha=>⟨ha,(fun _ h=>nomatch h),fun x c h=>⟨c,h⟩⟩
 | (n,k)::r,acc,hf,ha=>by
  by_cases hk:k=NameKind.free
  ·subst hk;obtain⟨c,hc⟩:=hf (n,.free) bM rfl;have e:ce env ((n,NameKind.free)::r) acc=ce env r ((n,c)::acc):=by
    have hc':env.cells.lookup n=some c:=hc;show ce env r (if (NameKind.free == NameKind.free)=true then (n,(env.cells.lookup n).getD 0)::acc else acc)=_;rw[if_pos (by decide),hc'];rfl
   rw[e];obtain⟨h1,h2,h3⟩:=rM r ((n,c)::acc) (fun y hy=>hf y (bD _ hy)) fun x d h=>by
    rw[List.lookup_cons] at h;split at h
    ·rename_i hx;have hx':x=n:=by simpa using hx
     cases h;rw[hx'];exact hc
    ·exact ha x d h
   refine⟨h1,fun y hy hyf=>?_,fun x d h=>?_⟩
   ·rcases cz hy with rfl | hy
    ·exact h3 n c (by rw[List.lookup_cons]; simp)
    ·exact h2 y hy hyf
   ·by_cases hx:x=n
    ·subst hx;exact h3 x c (by rw[List.lookup_cons]; simp)
    ·refine h3 x d ?_;rw[List.lookup_cons,show (x == n)=false from by simpa using hx];exact h
  ·have e:ce env ((n,k)::r) acc=ce env r acc:=by
    show ce env r (if (k == NameKind.free)=true then (n,(env.cells.lookup n).getD 0)::acc else acc)=_;rw[if_neg (by simpa using hk)]
   rw[e];obtain⟨h1,h2,h3⟩:=rM r acc (fun y hy=>hf y (bD _ hy)) ha;refine⟨h1,fun y hy hyf=>?_,h3⟩;rcases cz hy with rfl | hy
   ·exact absurd hyf hk
   ·exact h2 y hy hyf
theorem tE {scope:Scope}{env:Env}(hf:∀y∈scope.names,y.2=NameKind.free->∃c,env.cells.lookup y.1=some c) :
  ∃cl,closureFor scope env=pure cl/\(∀x c,cl.lookup x=some c->env.cells.lookup x=some c)/\∀y∈scope.names,y.2=NameKind.free->∃c,cl.lookup y.1=some c:=by
 obtain⟨h1,h2,_⟩:=rM (env:=env) scope.names [] hf (fun _ _ h=>nomatch h);refine⟨ce env scope.names [],?_,h1,h2⟩;simp only[closureFor];rw[vh (fun cs x=>if x.2 == NameKind.free then (x.1,(env.cells.lookup x.1).getD 0)::cs else cs) scope.names [] fun x hx c=>?_]
 ·rfl
 ·obtain⟨n,kind⟩:=x;by_cases hk:kind=NameKind.free
  ·subst hk;obtain⟨a,ha⟩:=hf (n,.free) hx rfl;have ha':env.cells.lookup n=some a:=ha;simp only[show (NameKind.free == NameKind.free)=true from by decide,if_true,cellOf,ha'];rfl
  ·have hb:(kind == NameKind.free)=false:=by simpa using hk
   simp only[hb,Bool.false_eq_true,if_false]
noncomputable def aR (X:Cx)(N':List Str)(scope:Scope)(cl:List (Str×Addr))(C:Addr)(s:Shared)(H:Hp)(fp:List Addr)(E:Value->Shared->Prop):Cx:=
 { X with N:=N',s₀:=s,H₀:=H,env:=compEnvC scope cl C X.env,outer:=X.stack,stack:=X.stack,ex:=fp,fn:=fun x=>scope.names.lookup x == some .cell,pn:=[],xe:=E }
noncomputable def compOk (sc:Scope)(N N':List Str)(caps:List (Option Nat))(scope:Scope):Bool:=
 scope.kind == .function&&scope.names.all (fun y=>(y.2 != .cell||scope.names.lookup y.1 == some .cell)&&(y.2 != .local||scope.names.lookup y.1 == some .local)&&(y.2 != .free||(sc.names.lookup y.1 == some .cell||sc.names.lookup y.1 == some .free))) &&
 caps.length == N'.length&&decide N'.Nodup&&(caps.zip N').all fun p=>match p.1 with
  | none=>true
  | some j=>N[j]? == some p.2&&scope.names.lookup p.2 == some .free
structure CompS (sc:Scope)(N N':List Str)(caps:List (Option Nat))(scope:Scope):Prop where
 kind:scope.kind=.function
 cells:∀y∈scope.names,y.2=.cell->scope.names.lookup y.1=some .cell
 locs:∀y∈scope.names,y.2=.local->scope.names.lookup y.1=some .local
 free:∀y∈scope.names,y.2=.free->sc.names.lookup y.1=some .cell\/sc.names.lookup y.1=some .free
 len:caps.length=N'.length
 nd:N'.Nodup
 cap:∀(i j:Nat) (x:Str),caps[i]? = some (some j)->N'[i]? = some x->N[j]? = some x/\scope.names.lookup x=some .free
theorem CompS.of (h:compOk sc N N' caps scope=true):CompS sc N N' caps scope:=by
 unfold compOk at h;simp only[Bool.and_eq_true,List.all_eq_true,beq_iff_eq,decide_eq_true_eq] at h;obtain⟨⟨⟨⟨hk,hn⟩,hl⟩,hnd⟩,hc⟩:=h;refine⟨?_,fun y hy e=>?_,fun y hy e=>?_,fun y hy e=>?_,hl,hnd,fun i j x h1 h2=>?_⟩
 ·cases hh:scope.kind <;> rw[hh] at hk <;> first | rfl | (exact absurd hk (by decide))
 ·have:=(hn y hy).1.1;rw[e] at this;simpa using this
 ·have:=(hn y hy).1.2;rw[e] at this;simpa using this
 ·have:=(hn y hy).2;rw[e] at this;simpa using this
 ·have hz:(caps.zip N')[i]? = some (some j,x):=by rw[List.getElem?_zip_eq_some]; exact⟨h1,h2⟩
  have:=hc _ (List.mem_of_getElem? hz);simpa using this
noncomputable def ii (σ:St):Option Nat->Option V
 | none=>none
 | some j=>(σ[j]?).join
section
variable {prog:Program}{w:World}{A:Around}{R:Result->Shared->Prop}{s:Shared}
theorem DN (I:Nat->Shared->Prop)
  (turn:∀n s,I n s->wpAny (model prog w) A (pyNext it) (fun r s₁=>match r with
   | none=>R (.ok .next) s₁
   | some v=>wpAny (model prog w) A (letOwnedTupleGo target it v) (fun _ s₀=>wpAny (model prog w) A (assign target env v) (fun _ s₂=>
     wpAny (model prog w) A (forIn ifs true fun c r=>if r=true then do let ok <-isTrue c env (eval c env); pure (ForInStep.yield ok) else pure (ForInStep.yield r)) (fun ok s₃=>
      if ok=true then wpAny (model prog w) A (eval elt env) (fun x s₄=>
       wpAny (model prog w) A (call (.builtin "list.append") [acc,x]) (fun _ s₅=>∃m,m<n/\I m s₅) (notedBy (model prog w) A env fun e s'=>R (.error e) s') s₄) (notedBy (model prog w) A env fun e s'=>R (.error e) s') s₃
      else ∃m,m<n/\I m s₃) (notedBy (model prog w) A env fun e s'=>R (.error e) s') s₂) (notedBy (model prog w) A env fun e s'=>R (.error e) s') s₀) (notedBy (model prog w) A env fun e s'=>R (.error e) s') s₁) (notedBy (model prog w) A env fun e s'=>R (.error e) s') s)
  (n:Nat)(h:I n s) :
  codeAny (model prog w) A (.compLoop (.ListComp elt [⟨target,iter,ifs,0⟩] scope pos) 0 it acc env) R s:=by
 refine codeAny_loop rfl I (fun n s hI=>?_) n h;show wpAny _ A ((compTurn (.ListComp elt [⟨target,iter,ifs,0⟩] scope pos) 0 it acc env).onRaise (fun x=>do noteFrame x env; theTreesLotGoes x)) _ _ s;refine wpAny_noted ?_;rw[compTurn_list];refine ai (wpAny_standAt (ai (wpAny_mono (turn n s hI) (fun r s₁ h₁=>?_) fun _ _ h'=>h')));cases r with
 | none=>exact aG h₁
 | some v=>
  refine ai (wpAny_mono h₁ (fun _ s₀ h₀=>?_) fun _ _ h'=>h');refine ai (wpAny_mono h₀ (fun _ s₂ h₂=>ai (wpAny_mono h₂ (fun ok s₃ h₃=>?_) fun _ _ h'=>h')) fun _ _ h'=>h');cases ok with
  | false=>exact aG ⟨rfl,h₃⟩
  | true=>
   exact ai (ai (wpAny_mono h₃ (fun x s₄ h₄=>ai (wpAny_mono h₄ (fun _ s₅ h₅=>aG (aG ⟨rfl,h₅⟩)) fun _ _ h'=>h')) fun _ _ h'=>h'))
end
def PTs (X:Cx)(ifs:List Expr)(t:TT):Prop:=
 ∀(pins:List (Addr×Obj)) (s:Shared) (σ:St) (H:Hp) (Q:Bool->Hp->Prop),Inv X pins σ H s->t σ H Q ->
  wpAny (model X.prog X.w) X.A (forIn ifs true fun c r=>if r=true then do let ok <-isTrue c X.env (eval c X.env); pure (ForInStep.yield ok) else pure (ForInStep.yield r)) (TP X pins σ Q) X.xe s
def gY:TT:=fun _ H Q=>Q true H
theorem Ak:PTs X [] gY:=fun _ _ _ H _ I h=>wpAny_tests_nil ⟨H,I,h⟩
theorem B8 (h:PT X c t):PTs X [c] t:=fun pins s σ H Q I hq=>wpAny_tests_one (h pins s σ H Q I hq)
theorem PTs.nox (h:PTs X.nox ifs t):PTs X ifs t:=fun pins s σ H Q I hw=>
 wpAny_mono (h pins s σ H Q (I.wish _) hw) (fun _ _ ⟨H',I',q⟩=>⟨H',I'.unwish,q⟩) fun _ _ f=>f.elim
theorem PG.nox (h:PG X.nox tg t):PG X tg t:=fun pins s σ H v u Q I r hw=>
 wpAny_mono (h pins s σ H v u Q (I.wish _) r hw) (fun _ _ ⟨σ',H',I',q⟩=>⟨σ',H',I'.unwish,q⟩) fun _ _ f=>f.elim
def je (J:It)(l:Addr)(g:TG)(tt:TT)(te:TE)(Q:VK)(σ0:St)(H:Hp):Prop:=
 ∃W:Nat->Nat->List V->St->Hp->Prop,(∃m,W 0 m [] σ0 (upd H l (.lst [])))/\∀i m ys σ H,W i m ys σ H ->
  (J.stop i H/\Q (.ref l) H)\/(J.go i H/\∃N:List V->St->Hp->Prop,(∀ys σ' H',N ys σ' H'->∃m',m'<m/\W (i+1) m' ys σ' H') /\
   ∀x H',J.yld i H x H'->g x σ H' fun σ2 H3=>tt σ2 H3 fun c H4=>if c=true then te σ2 H4 fun v H5=>∃ys',H5 l=some (.lst ys')/\ys'.length<sizeLine/\N (ys'++[v]) σ2 (upd H5 l (.lst (ys'++[v]))) else N ys σ2 H4)
def fX (wi:TI)(caps:List (Option Nat))(g:TG)(tt:TT)(te:TE):TE:=fun σ H Q=>wi σ H fun J H1=>∀l,H1 l=none->je J l g tt te Q (caps.map (ii σ)) H1
section
variable {X:Cx}{elt iter tg:Expr}{ifs:List Expr}{scope:Scope}{pos:Pos}{wi:TI}{g:TG}{tt:TT}{te:TE}{N':List Str}{caps:List (Option Nat)}
theorem qN :
  ∀k,(relabel scope env).names.lookup x=some k->scope.names.lookup x=some k\/(k=.cell/\scope.names.lookup x=some .free):=by
 have go:∀(g:Str×NameKind->Str×NameKind),(∀p,g p=p\/(p.2=.free/\g p=(p.1,.cell)))->∀(names:List (Str×NameKind)) k,(names.map g).lookup x=some k->names.lookup x=some k\/(k=.cell/\names.lookup x=some .free):=by
  intro g hg names;induction names with
  | nil=>intro k h; exact nomatch h
  | cons p r ih=>
   intro k h;rw[List.map_cons] at h;obtain⟨n,kn⟩:=p;rcases hg (n,kn) with e | ⟨e1,e2⟩
   ·rw[e,List.lookup_cons] at h;rw[List.lookup_cons];cases hx:x == n with
    | true=>rw[hx] at h; exact .inl h
    | false=>rw[hx] at h; exact ih k h
   ·rw[e2,List.lookup_cons] at h;rw[List.lookup_cons];cases hx:x == n with
    | true=>
     rw[hx] at h;have e1':kn=.free:=e1;rw[e1'];exact .inr ⟨(bV h).symm,rfl⟩
    | false=>rw[hx] at h; exact ih k h
 refine go _ (fun p=>?_) scope.names;obtain⟨n,k⟩:=p;by_cases hb:(k == NameKind.free&&env.scope.kind == .function&&env.kindOf n == some .cell)=true
 ·refine .inr ⟨?_,if_pos hb⟩;simp only[Bool.and_eq_true,beq_iff_eq] at hb;exact hb.1.1
 ·exact .inl (if_neg hb)
theorem pI:∀(names:List (Str×NameKind)) (n:Nat) (acc:List (Str×Addr)),(∀y∈names,y.2=.cell->y.1≠x)->(cellsFrom n names acc).lookup x=acc.lookup x
 | [],_,_,_=>rfl
 | (m,k)::r,n,acc,h=>by
  have hr:=fun y hy=>h y (bD _ hy);unfold cellsFrom;split
  ·rename_i hk;rw[pI r _ _ hr,List.lookup_cons,show (x == m)=false from by simpa using fun e=>h (m,k) List.mem_cons_self (by simpa using hk) (Eq.symm e)]
  ·exact pI r n acc hr
theorem rZ {x:Str}{lo:Nat}:∀(names:List (Str×NameKind)) (n:Nat) (acc:List (Str×Addr)),lo<=n->(∃c,acc.lookup x=some c/\lo<=c)->∃c,(cellsFrom n names acc).lookup x=some c/\lo<=c
 | [],_,_,_,h=>h
 | (m,k)::r,n,acc,hn,h=>by
  unfold cellsFrom;split
  ·refine rZ r (n+1) _ (by omega) ?_;rw[List.lookup_cons];cases x == m with
   | true=>exact⟨n,rfl,hn⟩
   | false=>exact h
  ·exact rZ r n acc hn h
theorem o6 {x:Str}{lo:Nat}:∀(names:List (Str×NameKind)) (n:Nat) (acc:List (Str×Addr)),lo<=n->(x,NameKind.cell)∈names->∃c,(cellsFrom n names acc).lookup x=some c/\lo<=c
 | (m,k)::r,n,acc,hn,h=>by
  unfold cellsFrom;rcases cz h with e | h
  ·cases e;rw[if_pos (by decide)];refine rZ r (n+1) _ (by omega) ⟨n,?_,hn⟩;rw[List.lookup_cons]; simp
  ·split
   ·exact o6 r _ _ (by omega) h
   ·exact o6 r _ _ hn h
structure CfOk (P:Str->Addr->Prop)(lo:Nat)(h:Heap)(cs:List (Str×Addr)):Prop where
 src:∀x c,cs.lookup x=some c->P x c\/(lo<=c/\h.IsCell c none)
 inj:∀x y c,cs.lookup x=some c->cs.lookup y=some c->x=y
 lt:∀x c,cs.lookup x=some c->c<h.objs.size
theorem sB {P:Str->Addr->Prop}{lo:Nat}:∀(names:List (Str×NameKind)) (h:Heap) (acc:List (Str×Addr)),lo<=h.objs.size->CfOk P lo h acc->CfOk P lo (pushCells h names) (cellsFrom h.objs.size names acc)
 | [],_,_,_,x=>x
 | (m,k)::r,h,acc,hlo,x=>by
  unfold pushCells cellsFrom;split
  ·have:=sB (P:=P) (lo:=lo) r (h.push { cls:=.type "cell",data:=.cell none }) ((m,h.objs.size)::acc) (by rw[Heap.size_push]; omega) ⟨fun y c e=>?_,fun y z c e e'=>?_,fun y c e=>?_⟩
   ·rwa [Heap.size_push] at this
   ·rw[List.lookup_cons] at e;cases hy:y == m with
    | true=>rw[hy] at e; cases e; exact .inr ⟨hlo,_,da _ rfl,rfl⟩
    | false=>rw[hy] at e; exact (x.src y c e).imp id fun q=>⟨q.1,q.2.keeps fun b o e=>bI _ e⟩
   ·rw[List.lookup_cons] at e e';cases hy:y == m with
    | true=>
     rw[hy] at e; cases e;cases hz:z == m with
     | true=>rw[beq_iff_eq] at hy hz; rw[hy,hz]
     | false=>rw[hz] at e'; exact absurd (x.lt z _ e') (Nat.lt_irrefl _)
    | false=>
     rw[hy] at e;cases hz:z == m with
     | true=>rw[hz] at e'; cases e'; exact absurd (x.lt y _ e) (Nat.lt_irrefl _)
     | false=>rw[hz] at e'; exact x.inj y z c e e'
   ·rw[Heap.size_push];rw[List.lookup_cons] at e;cases hy:y == m with
    | true=>rw[hy] at e; cases e; exact Nat.lt_succ_self _
    | false=>rw[hy] at e; exact Nat.lt_succ_of_lt (x.lt y c e)
  ·exact sB r h acc hlo x
structure CsOk (X:Cx)(scope:Scope)(n:Nat)(h:Heap)(cs:List (Str×Addr)):Prop where
 src:∀x c,cs.lookup x=some c->X.env.cells.lookup x=some c\/(n<=c/\h.IsCell c none)
 inj:∀x y c,cs.lookup x=some c->cs.lookup y=some c->x=y
 has:∀x,(scope.names.lookup x=some .cell\/scope.names.lookup x=some .free)->∃c,cs.lookup x=some c
 fr:∀x c,scope.names.lookup x=some .free->cs.lookup x=some c->X.env.cells.lookup x=some c
 own:∀x c,scope.names.lookup x=some .cell->cs.lookup x=some c->n<=c
theorem CsOk.mk' {X:Cx}{sc:Scope}{N N':List Str}{caps:List (Option Nat)}{scope:Scope}{pins:List (Addr×Obj)}{σ:St}{H:Hp}{s:Shared}{cl:List (Str×Addr)}{c0:Value}(S:CompS sc N N' caps scope)(I:Inv X pins σ H s)
  (h1:∀x c,cl.lookup x=some c->X.env.cells.lookup x=some c)(h2:∀y∈scope.names,y.2=NameKind.free->∃c,cl.lookup y.1=some c) :
  CsOk X scope s.heap.objs.size (pushCells (s.heap.push { cls:=c0,data:=.dict #[] }) scope.names) (cellsFrom (s.heap.objs.size+1) scope.names cl):=by
 have ok:=sB (P:=fun x c=>X.env.cells.lookup x=some c) (lo:=s.heap.objs.size) scope.names (s.heap.push { cls:=c0,data:=.dict #[] }) cl (by rw[Heap.size_push]; omega)
  ⟨fun x c e=>.inl (h1 x c e),fun x y c e e'=>I.ok.inj x y c (h1 x c e) (h1 y c e'),fun x c e=>by
   obtain⟨v,o,ho,_⟩:=I.cell x c (h1 x c e);rw[Heap.size_push];exact Nat.lt_succ_of_lt (bw ho)⟩
 rw[Heap.size_push] at ok;have nf:∀x,scope.names.lookup x=some .free->∀y∈scope.names,y.2=.cell->y.1≠x:=fun x e y hy hk z=>by
  have:=S.cells y hy hk;rw[z,e] at this; cases this
 refine⟨ok.src,ok.inj,fun x h=>?_,fun x c e h=>?_,fun x c e h=>?_⟩
 ·rcases h with e | e
  ·obtain⟨c,q,_⟩:=o6 (lo:=0) scope.names (s.heap.objs.size+1) cl (Nat.zero_le _) (PySem.mem_of_lookup e);exact⟨c,q⟩
  ·obtain⟨c,q⟩:=h2 _ (PySem.mem_of_lookup e) rfl;exact⟨c,(pI _ _ _ (nf x e)).trans q⟩
 ·rw[pI _ _ _ (nf x e)] at h;exact h1 x c h
 ·obtain⟨c',q,l⟩:=o6 (lo:=s.heap.objs.size) scope.names (s.heap.objs.size+1) cl (Nat.le_succ _) (PySem.mem_of_lookup e);rw[h] at q; cases q;exact l
theorem FM
  (h:Q (newEnv scope s.heap.objs.size globals (cellsFrom (s.heap.objs.size+1) scope.names closure) qual none .none (some around) builtinsNs) { s with heap:=pushCells (s.heap.push { cls:=.type "dict",data:=.dict #[] }) scope.names }) :
  wpAny M A (newFunctionEnv scope globals closure [] qual none .none (some around)) Q E s:=by
 simp only[newFunctionEnv,Option.isSome_some,if_true];refine ai (wpAny_alloc ?_);refine ai (wpAny_layCells _ (fun name kind cells=>by cases hkc:kind == NameKind.cell <;> simp[hkc]) _ _ _ _ ?_);rw[show ({ s with heap:=s.heap.push { cls:=.type "dict",data:=.dict #[] } }:Shared).heap.objs.size=s.heap.objs.size+1 from Heap.size_push ..];exact ai (aG (aG h))
theorem EG (E:Value->Shared->Prop)(S:CompS X.env.scope X.N N' caps scope)(I:Inv X pins σ H s)(hC:s.heap.objs.size<=C)
 (O:CsOk X scope s.heap.objs.size h1 cl)(hf:∀b∈fp,cJ X pins H b/\b<s.heap.objs.size) :
    (aR X N' scope cl C s H fp E).Ok where
  mod:=I.ok.mod
  kind:=S.kind
  glob:=I.ok.glob
  blt:=I.ok.blt
  above:=hC
  inj:=O.inj
  has:=fun x hx=>by
    have hx':(relabel scope X.env).names.lookup x=some .cell\/(relabel scope X.env).names.lookup x=some .free:=hx;refine O.has x ?_;rcases hx' with q | q
    · exact (qN _ q).imp id fun z=>z.2
    · rcases qN _ q with z | z
      · exact .inr z
      · exact absurd z.1 (by decide)
  cab:=fun x c z e=>O.own x c (by
    have z':(scope.names.lookup x == some NameKind.cell)=true:=z;simpa using z') e
  hd:=I.ok.hd
  frames:=I.ok.frames
  stk:=.inl rfl
  exf:=fun b hb=>⟨cQ (dW (hf b hb).2 hC),fun x c e=>(O.src x c e).elim (fun q=>(hf b hb).1.2.2.2.2.1 x c q) fun q z=>absurd (z ▸ (hf b hb).2) (Nat.not_lt.mpr q.1)⟩
  bs:=I.bs
  bsz:=bK I.ok.bsz I.sz
  noex:=fun b o e hb=>by
    rcases (hf b hb).1.2.2.2.1 with z | z
    · exact I.ok.noex b o e z
    · exact absurd (dW (bw e) (bK I.ok.bsz z)) (Nat.lt_irrefl _)
  exfs:=fun b hb z=>by
    rcases cz (I.stkSub b z) with e | e
    · exact (hf b hb).1.2.1 e
    · exact (hf b hb).1.2.2.1 e
  funs:=I.stack
  frf:=I.stkFree
theorem EH (E:Value->Shared->Prop)(S:CompS X.env.scope X.N N' caps scope)(I:Inv X pins σ H s)
  (O:CsOk X scope s.heap.objs.size h1 cl)(hf:∀b∈fp,cJ X pins H b/\b<s.heap.objs.size)
  (hns:h1.Ns s.heap.objs.size m)(hk:∀b o,s.heap.get? b=some o->h1.get? b=some o) :
  Inv (aR X N' scope cl s.heap.objs.size s H fp E) [] (caps.map (ii σ)) H { s with heap:=h1,toks:=tk } where
 ok:=EG E S I (bb _) O hf
 os:=rfl
 bare:=I.bare
 base:=Un.kept hk
 loc:=by
  refine⟨m,hns,fun i x v e1 e2 e3=>?_⟩;rw[List.getElem?_map] at e2;cases ec:caps[i]? with
  | none=>rw[ec] at e2; cases e2
  | some oc=>
   rw[ec] at e2;cases oc with
   | none=>cases e2
   | some j=>
    have e2':(σ[j]?).join=some v:=bV e2;have e4:σ[j]? = some (some v):=by
     cases q:σ[j]? with
     | none=>rw[q] at e2'; cases e2'
     | some o=>rw[q] at e2'; cases o with
      | none=>cases e2'
      | some v'=>cases e2'; rfl
    obtain⟨hN,hfr⟩:=S.cap i j x ec e1;have hkd:X.env.kindOf x=some .cell\/X.env.kindOf x=some .free:=S.free _ (PySem.mem_of_lookup hfr) rfl;obtain⟨m0,_,hl⟩:=I.loc;obtain⟨u,r,l⟩:=hl j x v hN e4 (hkd.elim (fun z=>.inr (.inl z)) fun z=>.inr (.inr z));refine⟨u,r,?_⟩;rcases l with ⟨z,_⟩ | ⟨_,c,hc,hcell⟩
    ·rcases hkd with q | q <;> rw[q] at z <;> cases z
    ·obtain⟨c',hc'⟩:=O.has x (.inr hfr);have:c'=c:=by
      have:=O.fr x c' hfr hc';rw[hc] at this; exact (bV this).symm
     subst this;have e3':(relabel scope X.env).names.lookup x=some .local\/(relabel scope X.env).names.lookup x=some .cell\/(relabel scope X.env).names.lookup x=some .free:=e3;refine .inr ⟨?_,c',hc',?_⟩
     ·rcases e3' with q | q | q
      ·rcases qN _ q with z | z
       ·rw[hfr] at z; cases z
       ·exact absurd z.1 (by decide)
      ·exact .inl q
      ·exact .inr q
     ·obtain⟨o,ho,hd⟩:=hcell;exact⟨o,hk _ o ho,hd⟩
 cell:=fun x c e=>by
  rcases O.src x c e with q | q
  ·obtain⟨v,o,ho,hd⟩:=I.cell x c q;exact⟨v,o,hk _ o ho,hd⟩
  ·exact⟨none,q.2⟩
 free:=I.hok.fresh (bb _)
 freeC:=fun x c e=>(O.src x c e).elim (I.freeC x c) fun q=>I.hok.fresh q.1
 pin:=fun p hp=>absurd (show p∈([]:List (Addr×Obj)) from hp) (by simp)
 hok:=I.hok.kept hk
 len:=by rw[List.length_map]; exact S.len
theorem t7 {pins:List (Addr×Obj)}{σ:St}{H:Hp}{s:Shared}{cl:List (Str×Addr)}{it:Addr}{fp:List Addr}{tn:Nat->Heap->Prop}{J:It}{Q:VK}{RR:Value->Addr->Result->Shared->Prop}
  (hc:X.calm=true)(S:CompS X.env.scope X.N N' caps scope)(I:Inv X pins σ H s)
  (c1:∀x c,cl.lookup x=some c->X.env.cells.lookup x=some c)(c2:∀y∈scope.names,y.2=NameKind.free->∃c,cl.lookup y.1=some c)
  (T:Turn X.prog X.w X.K tg J fp it tn)(t0:tn 0 s.heap)(hf:∀b∈fp,cJ X pins H b)
  (hg:∀cl C s H fp,PG (aR X N' scope cl C s H fp fun _ _=>False) tg g)(ht:∀cl C s H fp,PTs (aR X N' scope cl C s H fp fun _ _=>False) ifs tt)(he:∀cl C s H fp,PE (aR X N' scope cl C s H fp fun _ _=>False) elt te)
  (hw:∀l,H l=none->je J l g tt te Q (caps.map (ii σ)) H)
  (hR:∀l C s' H' m,Inv X pins σ H' s'->cJ X pins H' C->s'.heap.Ns C m->Q (.ref l) H'->RR (.ref l) C (.ok .next) s') :
  wpAny (model X.prog X.w) X.A (newList []) (fun acc s₃=>wpAny (model X.prog X.w) X.A (newFunctionEnv scope X.env.globals cl [] X.env.qual none .none (some X.env)) (fun cenv s₄=>
   codeAny (model X.prog X.w) X.A (.compStart (.ListComp elt [⟨tg,iter,ifs,0⟩] scope pos) 0 (.ref it) acc { cenv with scope:=relabel scope X.env }) (RR acc cenv.locals) s₄) X.xe s₃) X.xe s:=by
 refine wpAny_newObj_type (FM ?_);dsimp only;have I3:Inv X pins σ (upd H s.heap.objs.size (.lst [])) { s with heap:=s.heap.push { cls:=.type "list",dict:=none,data:=.seq ([]:List Value).toArray } }:=
  I.laid (t':=s.toks) (fun b u e=>bI _ e) (bb _) ⟨Nat.zero_le _,[],0,.nil,da _ rfl⟩
 have hl0:H s.heap.objs.size=none:=I.hok.fresh (bb _);have lt0:∀b∈fp,b<s.heap.objs.size:=fun b hb=>by
  obtain⟨o,e,_⟩:=T.obj 0 _ t0 b hb;exact bw e
 obtain⟨W,⟨m0,w0⟩,turn⟩:=hw s.heap.objs.size hl0;generalize hH2:s.heap.push { cls:=.type "list",dict:=none,data:=.seq ([]:List Value).toArray }=H2 at I3 ⊢;have hC:H2.objs.size=s.heap.objs.size+1:=by rw[<-hH2,Heap.size_push]
 have O:=CsOk.mk' (c0:=.type "dict") S I3 c1 c2;have hns₁:(pushCells (H2.push { cls:=.type "dict",data:=.dict #[] }) scope.names).Ns H2.objs.size fun _=>none:=(Heap.Ns.new H2 (.type "dict")).keeps (pushCells_keeps _ _);have old:∀b o,H2.get? b=some o->(pushCells (H2.push { cls:=.type "dict",data:=.dict #[] }) scope.names).get? b=some o:=fun b o e=>pushCells_keeps _ _ b o (bI _ e);dsimp only at O;generalize pushCells (H2.push { cls:=.type "dict",data:=.dict #[] }) scope.names=h₁ at O hns₁ old ⊢;generalize hcs:cellsFrom (H2.objs.size+1) scope.names cl=cs at O ⊢;have old0:∀b o,s.heap.get? b=some o->h₁.get? b=some o:=fun b o e=>old b o (hH2 ▸ bI _ e);have hf3:∀b∈fp,cJ X pins (upd H s.heap.objs.size (.lst [])) b/\b<H2.objs.size:=fun b hb=>
  ⟨⟨by rw[bc (Nat.ne_of_lt (lt0 b hb))]; exact (hf b hb).1,(hf b hb).2⟩,by rw[hC]; exact Nat.lt_succ_of_lt (lt0 b hb)⟩
 have Er:Value->Shared->Prop:=notedBy (model X.prog X.w) X.A (compEnvC scope cs H2.objs.size X.env) fun e s'=>RR (.ref s.heap.objs.size) H2.objs.size (.error e) s';have loop:∀s₃:Shared,s₃={ s with heap:=h₁,toks:=s.toks } ->
   codeAny (model X.prog X.w) X.A (.compLoop (.ListComp elt [⟨tg,iter,ifs,0⟩] scope pos) 0 (.ref it) (.ref s.heap.objs.size) (compEnvC scope cs H2.objs.size X.env))
    (RR (.ref s.heap.objs.size) H2.objs.size) s₃:=by
  rintro s₃ rfl;have I4:=EH (N':=N') (caps:=caps) (tk:=s.toks) (notedBy (model X.prog X.w) X.A (compEnvC scope cs H2.objs.size X.env) fun e s'=>RR (.ref s.heap.objs.size) H2.objs.size (.error e) s') S I3 O hf3 hns₁ old;generalize hX':aR X N' scope cs H2.objs.size { s with heap:=H2 } (upd H s.heap.objs.size (.lst [])) fp (notedBy (model X.prog X.w) X.A (compEnvC scope cs H2.objs.size X.env) fun e s'=>RR (.ref s.heap.objs.size) H2.objs.size (.error e) s')=X' at I4;have hg':PG X' tg g:=by rw[<-hX']; exact PG.nox (hg cs H2.objs.size { s with heap:=H2 } (upd H s.heap.objs.size (.lst [])) fp)
  have ht':PTs X' ifs tt:=by rw[<-hX']; exact PTs.nox (ht cs H2.objs.size { s with heap:=H2 } (upd H s.heap.objs.size (.lst [])) fp)
  have he':PE X' elt te:=by rw[<-hX']; exact PE.nox (he cs H2.objs.size { s with heap:=H2 } (upd H s.heap.objs.size (.lst [])) fp)
  have eP:X'.prog=X.prog:=by rw[<-hX']; rfl
  have eW:X'.w=X.w:=by rw[<-hX']; rfl
  have eK:X'.K=X.K:=by rw[<-hX']; rfl
  have eA:X'.A=X.A:=by rw[<-hX']; rfl
  have eC:X'.calm=true:=by rw[<-hX']; exact hc
  have eE:X'.env=compEnvC scope cs H2.objs.size X.env:=by rw[<-hX']; rfl
  have eX:X'.xe=notedBy (model X.prog X.w) X.A (compEnvC scope cs H2.objs.size X.env) fun e s'=>RR (.ref s.heap.objs.size) H2.objs.size (.error e) s':=by rw[<-hX']; rfl
  have stat:∀{H':Hp},(∀b∈fp,H' b=none)->∀b∈fp,cJ X' [] H' b:=fun {H'} hn b hb=>by
   obtain⟨f0,f1,f2,f3,f4,f5⟩:=hf b hb;refine⟨hn b hb,?_,?_,.inl ?_,fun x c e=>?_,fun p hp=>?_⟩
   ·rw[eE]; exact cQ (by show b<H2.objs.size; rw[hC]; exact Nat.lt_succ_of_lt (lt0 b hb))
   ·intro z;have z':b∈fF X.stack:=by rw[<-hX'] at z; exact z
    rcases cz (I.stkSub b z') with e | e
    ·exact f1 e
    ·exact f2 e
   ·rw[<-hX']; exact hb
   ·rw[eE] at e; exact (O.src x c e).elim (f4 x c) fun q z=>absurd (z ▸ lt0 b hb) (Nat.not_lt.mpr (bK (by rw[hC]; exact Nat.le_succ _) q.1))
   ·have:p∈([]:List (Addr×Obj)):=by rw[<-hX'] at hp; exact hp
    exact absurd this (by simp)
  refine DN (fun n s'=>∃i ys σ' H',Inv X' [] σ' H' s'/\tn i s'.heap/\(∀b∈fp,H' b=none)/\W i n ys σ' H') ?_ m0
   ⟨0,[],_,_,I4,T.keep 0 _ _ t0 fun b _ o e=>old0 b o e,fun b hb=>(hf3 b hb).1.1,w0⟩
  rintro n s5 ⟨i,ys,σ5,H5,I5,tn5,fr5,w5⟩;rw[<-eX];rcases turn i n ys σ5 H5 w5 with ⟨stop,q⟩ | ⟨go,N,hN,step⟩
  ·have d:=T.done X' eP eW eK eC i [] s5 σ5 H5 X'.xe I5 (stat fr5) tn5 stop;rw[eA] at d;refine aH d fun r s6 hZz=>?_;obtain⟨hr,I6⟩:=hZz;subst hr;have u:Un (fF X.stack) fp (upd H s.heap.objs.size (.lst [])) H5 H2 s6.heap:=by
    have:=I6.base;rw[<-hX'] at this; exact this
   have hok6:HOk X.prog X.w H5 s6.heap:=by have:=I6.hok; rw[eP,eW] at this; exact this
   have os6:s6.os=s.os:=by have:=I6.os; rw[<-hX'] at this; exact this
   have I7:Inv X pins σ H5 s6:=I3.call' (ch:=fp) os6 u hok6 I6.bare fun b hb=>by
    obtain⟨f0,f1,f2,f3,f4,f5⟩:=hf b hb;exact⟨f3,f1,f4,f5⟩
   obtain⟨m6,n6,_⟩:=I6.loc;have fC:H5 H2.objs.size=none:=by have:=I6.free; rw[eE] at this; exact this
   rw[eE] at n6;exact hR _ _ s6 H5 m6 I7 (I3.fpOk (bb _) fC) n6 q
  ·have d:=T.item X' eP eW eK eC i [] s5 σ5 H5 X'.xe I5 (stat fr5) tn5 go;rw[eA] at d;refine aH d fun r s6 hZz=>?_;obtain⟨u,hr,h6⟩:=hZz;subst hr;refine aH h6 fun _ s7 hZz=>?_;obtain⟨x,H7,I7,r7,y7,tn7,fr7⟩:=hZz;have I7':=I7.pinned (stat fr7) (T.obj _ _ tn7);have ag:=hg' _ s7 σ5 H7 x u _ I7' r7 (step x H7 y7);rw[eP,eW,eA,eE] at ag;refine aH ag fun _ s8 hZz=>?_;obtain⟨σ8,H8,I8,q8⟩:=hZz;have at':=ht' _ s8 σ8 H8 _ I8 q8;rw[eP,eW,eA,eE] at at';have again:∀{s9:Shared} {σ9:St} {H9:Hp} {ys9:List V},Inv X' ([]++cO fp s7.heap) σ9 H9 s9->N ys9 σ9 H9->∃m,m<n/\∃i ys σ' H',Inv X' [] σ' H' s9/\tn i s9.heap/\(∀b∈fp,H' b=none)/\W i m ys σ' H':=fun {s9 σ9 H9 ys9} I9 n9=>by
    obtain⟨m',hm,w9⟩:=hN ys9 σ9 H9 n9;refine⟨m',hm,i+1,ys9,σ9,H9,I9.unpinned,T.keep _ _ _ tn7 fun b hb o e=>(I9.pin (b,o) (bS _ (bS _ (lA hb e)))).1,fun b hb=>?_,w9⟩;obtain⟨o,e,dd⟩:=T.obj _ _ tn7 b hb;exact (I9.pin (b,o) (bS _ (bS _ (lA hb e)))).2.1
   refine aH at' fun ok s9 hZz=>?_;obtain⟨H9,I9,q9⟩:=hZz;cases ok with
   | false=>
    rw[if_neg (by decide)] at q9 ⊢;exact again I9 q9
   | true=>
    rw[if_pos rfl] at q9 ⊢;have ae:=he' _ s9 σ8 H9 _ I9 q9;rw[eP,eW,eA,eE] at ae;refine aH ae fun y s10 hZz=>?_;obtain⟨v,H10,I10,r10,q10⟩:=hZz;obtain⟨ys',hy,hz,hn⟩:=q10;have aa:=qQ (X:=X') _ s10 σ8 H10 (.ref s.heap.objs.size) [v] (.ref s.heap.objs.size) [y] (fun _ H'=>N (ys'++[v]) σ8 H') I10 rfl (.cons r10 .nil) ⟨_,ys',v,rfl,rfl,hy,hz,hn⟩;rw[eP,eW,eA] at aa;exact aH aa fun _ s11 ⟨_,H11,I11,_,q11⟩=>again I11 q11
 exact codeAny_compStart_list (loop _ rfl) (T.self _ 0 _ _ _ (T.keep 0 _ _ t0 fun b _ o e=>old0 b o e) (loop _ rfl))
theorem FO (hc:X.calm=true)(hS:compOk X.env.scope X.N N' caps scope=true)(hi:PI X tg iter wi)
  (hg:∀cl C s H fp,PG (aR X N' scope cl C s H fp fun _ _=>False) tg g)(ht:∀cl C s H fp,PTs (aR X N' scope cl C s H fp fun _ _=>False) ifs tt)(he:∀cl C s H fp,PE (aR X N' scope cl C s H fp fun _ _=>False) elt te)
  (hs:∀x,foldedSetIterable iter X.env x=pure x:=by intro _; rfl) :
  PE X (.ListComp elt [⟨tg,iter,ifs,0⟩] scope pos) (fX wi caps g tt te):=by
 intro pins s σ H Q I h;have S:=CompS.of hS;obtain⟨cl,hcl,c1,c2⟩:=tE (scope:=scope) (env:=X.env) fun y hy hyf=>I.ok.has y.1 (S.free y hy hyf);rw[eval_ListComp];refine wpAny_comprehension_free (use:=none) rfl hs hcl S.kind S.locs (aH (hi pins s σ H _ I h) fun v s1 h1=>aH h1 fun itv s2 h2=>?_);obtain⟨it,fp,tn,J,H2,rfl,I2,T,t0,f2,hw⟩:=h2;refine t7 (RR:=fun acc C=>compPost (model X.prog X.w) X.A X.xe none (EP X pins σ Q) acc C) hc S I2 c1 c2 T t0 f2 hg ht he hw ?_;intro l C s' H' m I' fC hn q;refine⟨m,hn,fun h' hs'=>?_⟩;obtain⟨f0,f1,f3,f4,f5,f6⟩:=fC;have I'':Inv X pins σ H' { s' with heap:=h' }:=I'.turned (t':=s'.toks) (it:=C) (fun b o hb e=>hs'.extBut b o hb e) f0 f1 f4 f5 f6;exact⟨.ref l,H',I'',rfl,q⟩
theorem By (hc:X.calm=true)(hS:compOk X.env.scope X.N N' caps scope=true)(hN:X.N.Nodup)(hx:X.N[i]? = some x)(hl:Loc X.env.scope x)(hi:PI X tg iter wi)
  (hg:∀cl C s H fp,PG (aR X N' scope cl C s H fp fun _ _=>False) tg g)(ht:∀cl C s H fp,PTs (aR X N' scope cl C s H fp fun _ _=>False) ifs tt)(he:∀cl C s H fp,PE (aR X N' scope cl C s H fp fun _ _=>False) elt te)
  (hsw:swapsWith (.ListComp elt [⟨tg,iter,ifs,0⟩] scope pos) (some (.Name x pos')) spos.line X.env=pure true)(hf:X.fn x=true\/X.env.scope.names.lookup x=some .local:=by first | exact .inl rfl | exact .inr rfl | assumption)
  (hs:∀x,foldedSetIterable iter X.env x=pure x:=by intro _; rfl) :
  PS X (.Assign [.Name x pos'] (.ListComp elt [⟨tg,iter,ifs,0⟩] scope pos) spos) (gW (fX wi caps g tt te) (dA i)):=by
 intro pins s σ H D I h;have S:=CompS.of hS;obtain⟨cl,hcl,c1,c2⟩:=tE (scope:=scope) (env:=X.env) fun y hy hyf=>I.ok.has y.1 (S.free y hy hyf);rw[exec_Assign_Name_used _ _ _ _ hsw];refine ai (wpAny_standAt (ai ?_));show wpAny _ X.A (do let _ <-comprehension (.ListComp elt [⟨tg,iter,ifs,0⟩] scope pos) scope X.env _ (newList []) false (eval iter X.env) (some (assign (.Name x pos') X.env))) _ _ s;refine ai (wpAny_mono (wpAny_comprehension_free (use:=some (assign (.Name x pos') X.env)) (Q:=fun _ s'=>SP X pins D .next s') rfl hs hcl S.kind S.locs
  (aH (hi pins s σ H _ I h) fun v s1 h1=>aH h1 fun itv s2 h2=>?_)) (fun _ s' hq=>aG (aG hq)) fun _ _ e=>e)
 obtain⟨it,fp,tn,J,H2,rfl,I2,T,t0,f2,hw⟩:=h2;refine t7 (RR:=fun acc C=>compPost (model X.prog X.w) X.A X.xe (some (assign (.Name x pos') X.env)) (fun _ s'=>SP X pins D .next s') acc C) hc S I2 c1 c2 T t0 f2 hg ht he hw ?_;intro l C s' H' m I' fC hn q;show wpAny _ X.A (assign (.Name x pos') X.env (.ref l)) _ _ s';have oC:=hn;obtain⟨o,es,ep,ho,hd,_⟩:=oC;have I1:Inv X (pins++cO [C] s'.heap) σ H' s':=I'.pinned (fp:=[C]) (fun b hb=>by rw[List.mem_singleton.mp hb]; exact fC) fun b hb=>by
  rw[List.mem_singleton.mp hb];exact⟨o,ho,fun v z=>by rw[hd] at z; cases z⟩
 refine aH (rQ (i:=i) hN hx hl hf _ s' σ H' (.ref l) (.ref l) D.nx I1 rfl q) fun _ s2 hZz=>?_;obtain⟨σ2,H2',I2',q2⟩:=hZz;have hC2:s2.heap.get? C=some o:=(I2'.pin (C,o) (bS _ (bS _ (lA (List.mem_singleton.mpr rfl) ho)))).1;have nC2:H2' C=none:=(I2'.pin (C,o) (bS _ (bS _ (lA (List.mem_singleton.mpr rfl) ho)))).2.1;have hn2:s2.heap.Ns C m:=by
  obtain⟨o',es',ep',ho',r'⟩:=hn;rw[ho] at ho'; cases ho';exact⟨o,es',ep',hC2,r'⟩
 refine⟨m,hn2,fun h' hs'=>?_⟩;obtain⟨f0,f1,f3,f4,f5,f6⟩:=fC;have I'':Inv X pins σ2 H2' { s2 with heap:=h' }:=(I2'.unpinned).turned (t':=s2.toks) (it:=C) (fun b o hb e=>hs'.extBut b o hb e) nC2 f1 f4 f5 f6;exact⟨σ2,H2',I'',q2⟩
end
noncomputable def dr (P:Program)(w:World):gG:=fun outer H s E e s'=>∃(a T C:Addr) (fs:List (Str×V)) (H':Hp),e=.ref a/\s'.os=s.os/\AllBare s'.gens/\Un (fF outer) [] H H' s.heap s'.heap/\HOk P w H' s'.heap /\
 H' a=some (.exc C false fs)/\Fly s'.heap a T .none/\H' T=none/\s.heap.objs.size<=T/\E (.ref a) none H'
section
variable {X:Cx}{pins:List (Addr×Obj)}{σ:St}{H:Hp}{s:Shared}
theorem Inv.fsFree (I:Inv X pins σ H s):∀b∈X.fs,H b=none:=fun b hb=>by
 obtain⟨_,o,ho,_⟩:=I.ok.funs.mem hb;exact I.base.free b o ho (I.ok.frf b hb) fun z=>I.ok.exfs b z hb
theorem Inv.xstep {a C:Addr}{nw:Bool}{fs:List (Str×V)}{fr ch:List Addr}{h':Heap}(I:Inv X pins σ H s)(ha:H a=some (.exc C nw fs))(st:XStep fr a ch s.heap h')(hfr:∀b∈fr,b=X.env.locals\/b∈X.fs)
  (hch:∀b∈ch,H b=none/\X.s₀.heap.objs.size<=b/\b≠X.env.locals/\(∀x c,X.env.cells.lookup x=some c->c≠b)/\∀p∈X.pn++pins,p.1≠b) :
  Inv X pins σ (upd H a (.exc C false fs)) { s with heap:=h' }:=by
 have aN:∀b,H b=none->b≠a:=fun b n z=>by rw[z,ha] at n; cases n
 have frN:∀b∈fr,H b=none:=fun b hb=>by
  rcases hfr b hb with z | z
  ·rw[z]; exact I.free
  ·exact I.fsFree b z
 have tr:∀b o,H b=some o->b∉fr/\b∉ch:=fun b o e=>⟨(fun z=>by rw[frN b z] at e; cases e),(fun z=>by rw[(hch b z).1] at e; cases e)⟩
 have up:∀b o,H b=some o->b≠a->(upd H a (.exc C false fs)) b=some o:=fun b o e n=>by rw[bc n]; exact e
 refine I.step (g':=s.gens) (d':=s.drawn) (t':=s.toks) (ch:=ch) (fun b hb=>⟨.inr (hch b hb).2.1,(hch b hb).2.2⟩) (fun b o n1 n2 n3 e n=>?_) (fun b o n1 n2 n3 e n=>?_) (fun b o _ _ n=>by rw[bc (aN b n)]; exact n)
  (fun b o n3 e=>?_) (fun b xs e=>up b _ e fun z=>by rw[z,ha] at e; cases e) (fun b o u e=>up b _ e fun z=>by rw[z,ha] at e; cases e) (fun b ps e=>⟨#[],?_⟩) (fun m hm=>?_) (fun b o e=>?_) I.bare
 ·exact st.keep b o e (aN b n) (fun z=>(hfr b z).elim n1 n2) n3
 ·by_cases z:b∈fr
  ·exact st.slot b o e (aN b n) z n3
  ·exact⟨o.slots,st.keep b o e (aN b n) z n3⟩
 ·by_cases z:b=a
  ·subst z;obtain⟨_,o',vs,e',_,hd,_⟩:=I.hok b _ ha;obtain⟨vs',e2,_⟩:=st.exc o' vs e' hd;exact⟨_,e2⟩
  ·exact st.there b o e z
 ·rw[up b _ e fun z=>by rw[z,ha] at e; cases e]; simp
 ·obtain⟨o,es,ep,ho,r⟩:=hm;have n:=aN _ I.free;have nc:X.env.locals∉ch:=fun z=>(hch _ z).2.2.1 rfl;by_cases z:X.env.locals∈fr
  ·obtain⟨sl,e⟩:=st.slot _ o ho n z nc;exact⟨_,es,ep,e,r⟩
  ·exact⟨o,es,ep,st.keep _ o ho n z nc,r⟩
 ·by_cases hb:b=a
  ·subst hb;rw[bA] at e;cases e;obtain⟨z,o',vs,e',c1,c2,c3,c4,q⟩:=I.hok b _ ha;obtain⟨vs',e2,sz,_⟩:=st.exc o' vs e' c2;refine⟨z,_,vs',e2,c1,rfl,sz.trans c3,(fun w=>nomatch w),?_⟩;rcases q with q | ⟨dx,d1,d2,d3,mA,⟨od,es,ep,e3,c⟩,r⟩
   ·exact .inl q
   ·exact .inr ⟨dx,d1,up dx _ d2 d3,d3,mA,⟨od,es,ep,st.keep dx od e3 d3 (tr dx _ d2).1 (tr dx _ d2).2,c⟩,r⟩
  ·rw[bc hb] at e;refine (I.hok b o e).stay (fun c u hc q=>?_) (fun c q=>up c _ q fun z=>by rw[z,ha] at q; cases q) fun c xs q=>up c _ q fun z=>by rw[z,ha] at q; cases q
   rcases hc with z | z
   ·subst z;exact st.keep c u q hb (tr c _ e).1 (tr c _ e).2
   ·exact st.keep c u q (fun y=>by rw[y,ha] at z; cases z) (tr c _ z).1 (tr c _ z).2
theorem Inv.newAt (I:Inv X pins σ H s)(hb:s.heap.objs.size<=b):H b=none/\X.s₀.heap.objs.size<=b/\b≠X.env.locals/\(∀x c,X.env.cells.lookup x=some c->c≠b)/\∀p∈X.pn++pins,p.1≠b:=by
 obtain⟨f0,f1,f2,f3,f4,f5⟩:=I.fpOk hb (I.hok.fresh hb);exact⟨f0,bK I.sz hb,f1,f4,f5⟩
theorem Inv.sinceAt (I:Inv X pins σ H s)(I':Inv X pins σ' H' s')(hb:s.heap.objs.size<=b)(hn:H' b=none):H' b=none/\X.s₀.heap.objs.size<=b/\b≠X.env.locals/\(∀x c,X.env.cells.lookup x=some c->c≠b)/\∀p∈X.pn++pins,p.1≠b:=by
 obtain⟨f0,f1,f2,f3,f4⟩:=I.newAt hb;exact⟨hn,f1,f2,f3,f4⟩
def nk (X:Cx)(E:St->XK):Prop:=∀(pins:List (Addr×Obj)) (σ:St) (H:Hp) (s:Shared) (a C:Addr) (fs:List (Str×V)),Inv X pins σ H s->H a=some (.exc C true fs)->E σ (.ref a) none (upd H a (.exc C false fs))->X.xe (.ref a) s
end
theorem passN:aS (dr P w) X (fun _ _ _ _=>False):=fun _ _ _ _ _ _ _ h=>by
 obtain⟨_,_,_,_,_,_,_,_,_,_,_,_,_,_,z⟩:=h;exact z.elim
section
variable {P:Program}{w:World}{K:aL}{mg:Str->Option Value}{base:Heap}{N:List Str}{qual:Str}{scope:Scope}{f:Addr}{cd:Value}{A:Around}{outer:List Env}{s:Shared}{H:Hp}{E:XK}
theorem passF:aS (dr P w) (d9 (dr P w) P w K mg base N qual scope f cd A outer s H E) (fun _=>E):=by
 intro pins σ H1 s1 e s' I1 hcx;obtain⟨a,T,C,fs,H2,rfl,os,bare,un,hok,ha,fly,nT,lT,q⟩:=hcx;have I2:=I1.call' (ch:=[]) os un hok bare fun b z=>absurd z (by simp);show wpAny _ _ (leaving _ (.ref a)) _ _ s';refine GR (base:=base) I2.ok.frames I2.stack rfl fly fun h' F' st=>?_;have I3:=I2.xstep ha st (fun b hb=>cz (I2.stkSub b hb)) fun b hb=>by
  rcases cz hb with z | z
  ·rw[z]; exact I1.sinceAt I2 lT nT
  ·rw[List.mem_singleton.mp z]; exact I2.newAt (bb _)
 have e:upd H2 a (.exc C false fs)=H2:=by
  funext b
  by_cases z:b=a
  ·subst z; rw[bA,ha]
  ·rw[bc z]
 rw[e] at I3;exact⟨a,_,C,fs,H2,rfl,I3.os,I3.bare,I3.base,I3.hok,ha,F',(I2.newAt (bb _)).1,bK I1.sz (bK (Nat.le_of_lt_succ (Nat.lt_succ_of_le (by
  have:=I2.sz;have h1:s1.heap.objs.size<=s'.heap.objs.size:=by
   obtain⟨m,hn,_⟩:=I1.loc;exact bK lT (Nat.le_of_lt (by obtain⟨⟨_,_,_,_,_,_,_,z,_⟩,_⟩:=fly; exact bw z))
  exact h1))) (bb _)),q⟩
theorem kq:nk (d9 (dr P w) P w K mg base N qual scope f cd A outer s H E) (fun _=>E):=by
 intro pins σ H1 s1 a C fs I1 ha q;obtain⟨_,o,vs,e,c1,c2,c3,c4,_⟩:=I1.hok a _ ha;show wpAny _ _ (leaving _ (.ref a)) _ _ s1;refine Aj (base:=base) I1.ok.frames I1.stack rfl e c2 (c4 rfl) fun h' F' st=>?_;have I3:=I1.xstep ha st (fun b hb=>cz (I1.stkSub b hb)) fun b hb=>by
  rw[List.mem_singleton.mp hb]; exact I1.newAt (bb _)
 have nT:(upd H1 a (.exc C false fs)) s1.heap.objs.size=none:=by
  rw[bc (fun z=>by have:=I1.hok.lt ha; rw[<-z] at this; exact Nat.lt_irrefl _ this)];exact (I1.newAt (bb _)).1
 exact⟨a,_,C,fs,_,rfl,I3.os,I3.bare,I3.base,I3.hok,bA,F',nT,I1.sz,q⟩
end
section
variable {X:Cx}{e:Expr}{te:TE}{pos:Pos}{E:St->XK}
def ft (K:aL)(te:TE)(E:St->XK):TS:=fun _ σ H=>te σ H fun v H1=>∃(a C:Addr) (tl:List Addr) (fs:List (Str×V)),v=.ref a/\H1 a=some (.exc C true fs)/\XO K C tl/\E σ (.ref a) none (upd H1 a (.exc C false fs))
theorem zg (hc:X.calm=true)(hx:nk X E)(he:PE X e te):PS X (.Raise (some e) none pos) (ft X.K te E):=by
 intro pins s σ H D I h;have go:wpAny (model X.prog X.w) X.A (raiseStmt X.env (some (do let v <-eval e X.env; standAt pos; pure v)) none) (SP X pins D) X.xe s:=by
  refine D1 (K:=X.K) (I.ok.hd hc) (ai (aH (he pins s σ H _ I h) fun u s1 ⟨v,H1,I1,r1,q1⟩=>ai (wpAny_standAt (aG ?_))));obtain⟨a,C,tl,fs,rfl,ha,T,q⟩:=q1;obtain rfl:u=Value.ref a:=r1;obtain⟨_,o,vs,e1,c1,c2,c3,c4,_⟩:=I1.hok a _ ha;exact⟨a,C,tl,o,vs,rfl,T,e1,c1,c2,c4 rfl,I1.kIn,hx pins σ H1 s1 a C fs I1 ha q⟩
 rw[arm_exec_Raise];exact ai (wpAny_standAt go)
end
section
variable {X:Cx}{k:Nat}{f C W:Addr}{tl:List Addr}{fd:FuncData}{ps:List Str}{sp:Sp}{dvs:List V}{ds:List Value}{E:St->XK}{x m:Str}{p pos apos:Pos}{e o:Expr}{es:List Expr}{ta tv:TE}{t:TA}
def dS (C:Addr)(sp:Sp)(dvs:List V)(E:St->XK)(t:TA):TE:=fun σ H Q=>t σ H fun vs H1=>vs.length<=100/\∀x,H1 x=none ->
 sp (.ref x::(vs++dvs)) (upd H1 x (.exc C true [])) (fun v H2=>v=.non/\Q (.ref x) H2) (E σ)
theorem uG (T:XC X.K C f tl)(F:FnOk X.prog X.w X.K X.mg X.base (dr X.prog X.w) k f fd ps sp)(hr:Room (k+1) X.A)(hb:Binds X.K fd ps ds)(hd:Vals dvs ds)
  (hx:aS (dr X.prog X.w) X E)(I:Inv X pins σ H s)(r:Vals vs us)(hl100:vs.length<=100)
  (h:∀x,H x=none->sp (.ref x::(vs++dvs)) (upd H x (.exc C true [])) (fun v H2=>v=.non/\Q (.ref x) H2) (E σ)) :
  wpAny (model X.prog X.w) X.A (call (.ref C) us) (EP X pins σ Q) X.xe s:=by
 have hlen:us.length<=sizeLine:=by rw[<-r.length]; exact Nat.le_of_lt (sA (by omega))
 refine C1 T I.kIn hlen fun h' a hm la=>?_;have hq:=h a (I.hok.fresh la);obtain⟨tt,ea,nt,et⟩:=hm.there;have I2:Inv X pins σ (upd H a (.exc C true [])) { s with heap:=h' }:=I.laid (t':=s.toks) hm.keeps la ⟨Nat.zero_le _,_,_,ea,rfl,rfl,rfl,fun _=>rfl,.inl ⟨rfl,rfl⟩⟩;have r2:Vals (V.ref a::(vs++dvs)) (Value.ref a::(us++ds)):=.cons rfl (r.append hd);have hl:(Value.ref a::us++ds).length=ps.length:=by
  have e:=r2.length;rw[F.len _ _ _ _ hq] at e;exact e.symm
 refine wpAny_call (codeAny_mono (F.run _ X.stack _ _ ⟨Value.ref a::us,[]⟩ (Value.ref a::(us++ds)) _ _ (E σ) (hr.make C us []) (I2.env0.make C us []) (hb _ (Value.ref a::us) I2.kIn hl) r2 hq) fun rr s' hq'=>?_);cases rr with
 | error e=>exact hx pins σ _ _ e s' I2 hq'
 | ok fl=>
  cases fl with
  | ret u=>
   obtain⟨v,H',I3,rv,ev,q3⟩:=I2.after hq';subst ev;exact⟨rv,⟨V.ref a,H',I3,rfl,q3⟩⟩
  | next=>exact False.elim hq'
  | brk=>exact False.elim hq'
  | cont=>exact False.elim hq'
theorem Ag (T:XC X.K C f tl)(hkp:PySem.W.keepIn X.K (.ref C)=true)(F:FnOk X.prog X.w X.K X.mg X.base (dr X.prog X.w) k f fd ps sp)(hr:Room (k+1) X.A)(hg:Gl X x)(hm:X.mg x=some (.ref C))(hb:Binds X.K fd ps ds)(hd:Vals dvs ds)(hx:aS (dr X.prog X.w) X E)
  (ha:PA X (e::es) t)(hdb:(x == ("__debug__" : Str))=false:=by decide)(he:starEach (e::es) X.env=(false,eval e X.env)::starEach es X.env:=by rfl)(hpl:(backTo pos (starEach es X.env)).any (·.1)=false:=by rfl) :
  PE X (.Call (.Name x p) (e::es) [] pos) (dS C sp dvs E t):=by
 intro pins s σ H Q I h;refine wpAny_Call_Name_kw (iN I hg hm ?_ hdb);refine PySem.W.callWith_K (h₀:=X.base) I.ok.mod.kin hkp (aH (ha pos pins s σ H _ I h) fun us s1 ⟨vs,H1,I1,r,q⟩=>⟨I1.kIn,?_⟩) he hpl;exact uG T F hr hb hd hx I1 r q.1 q.2
theorem Dg (T:XC X.K C f tl)(hkp:PySem.W.keepIn X.K (.ref C)=true)(F:FnOk X.prog X.w X.K X.mg X.base (dr X.prog X.w) k f fd ps sp)(hr:Room (k+1) X.A)(hg:Gl X x)(hm:X.mg x=some (.ref C))(hb:Binds X.K fd ps ds)(hd:Vals dvs ds)(hx:aS (dr X.prog X.w) X E)
  (hdb:(x == ("__debug__" : Str))=false:=by decide):PE X (.Call (.Name x p) [] [] pos) (dS C sp dvs E d5):=by
 intro pins s σ H Q I h;refine wpAny_Call_Name_kw (iN I hg hm ?_ hdb);exact PySem.W.callWith_K0 I.kIn hkp (uG (us:=[]) T F hr hb hd hx I .nil h.1 h.2)
theorem Inv.inst (I:Inv X pins σ H s)(ha:H a=some (.exc C nw fs)):∃mA,s.heap.Inst a C mA/\(∀f,RelO (fs.lookup f) (mA f))/\PySem.Within mA (fs.map (·.1)):=by
 obtain⟨_,o,vs,e,c1,c2,c3,c4,q⟩:=I.hok a _ ha;have nc:∀c,o.data≠.cls c:=fun c z=>by rw[c2] at z; cases z
 rcases q with ⟨d0,rfl⟩ | ⟨dx,d1,d2,d3,mA,n,r,wi⟩
 ·exact⟨fun _=>none,⟨o,e,c1,nc,.inl ⟨d0,fun _=>rfl⟩⟩,fun f=>True.intro,PySem.Within.nil⟩
 ·exact⟨mA,⟨o,e,c1,nc,.inr ⟨dx,d1,d3,n⟩⟩,r,wi⟩
def me (K:aL)(ta:TE)(f:Str):TE:=fun σ H Q=>ta σ H fun x H1=>∃(a C fI:Addr) (tl:List Addr) (nw:Bool) (fs:List (Str×V)) (v:V),x=.ref a/\H1 a=some (.exc C nw fs)/\XC K C fI tl/\NoAttr K C f/\fs.lookup f=some v/\Q v H1
theorem C6 (he:PE X e ta)(hb:attributeBase e m X.env (eval e X.env)=eval e X.env):PE X (.Attribute e m pos) (me X.K ta m):=by
 intro pins s σ H Q I h;refine vk hb (aH (he pins s σ H _ I h) fun u s1 hZz=>?_);obtain⟨x,H1,I1,r1,q1⟩:=hZz;obtain⟨a,C,fI,tl,nw,fs,v,rfl,ha,T,n,l,q⟩:=q1;obtain rfl:u=Value.ref a:=r1;obtain⟨mA,J,rel,_⟩:=I1.inst ha;have rv:=rel m;rw[l] at rv;obtain⟨w',e',rw'⟩:=RelO.some_of rv;exact Cq T I1.kIn n J e' (PySem.W.handedOut_of (wl rw')) ⟨v,H1,I1.tok _,rw',q⟩
def hU (K:aL)(ta tv:TE)(f:Str):TS:=fun D σ H=>tv σ H fun y H1=>ta σ H1 fun x H2=>∃(a C fI:Addr) (tl:List Addr) (nw:Bool) (fs:List (Str×V)),x=.ref a/\H2 a=some (.exc C nw fs)/\XC K C fI tl/\NoAttr K C f/\fs.length<100 /\
 ∀H3:Hp,H3 a=some (.exc C nw (putF f y fs))->(∀b o,b≠a->H2 b=some o->H3 b=some o)->D.nx σ H3
theorem zI (I:Inv X pins σ H s)(ha:H a=some (.exc C nw fs))(T:XC X.K C fI tl)
  (n:NoAttr X.K C m)(hl:fs.length<100)(ry:RelV y u)(h:∀s' H',Inv X pins σ H' s'->H' a=some (.exc C nw (putF m y fs))->(∀b o,b≠a->H b=some o->H' b=some o)->Q () s') :
  wpAny (model X.prog X.w) A (setAttr (.ref a) m u) Q E' s:=by
 obtain⟨_,o,vs,e,c1,c2,c3,c4,q⟩:=I.hok a _ ha;obtain⟨mA,J,rel,wi⟩:=I.inst ha;have lt:a<s.heap.objs.size:=bw e;refine yn T I.kIn n J wi (by rw[List.length_map]; exact sA (by omega)) fun h' tk J' sz kp ob=>?_;obtain⟨o1,e1,d1,dd⟩:=ob o e;obtain⟨o2,e2,cl2,_,dc⟩:=J';obtain rfl:o1=o2:=bV (e1.symm.trans e2);obtain⟨d,hd1,hd2,hd3,hold,hnew⟩:∃d,o1.dict=some d/\d≠a/\h'.Ns1 d (fun z=>if z=m then some u else mA z)/\(H d=some (.own a)\/H d=none)/\(∀b ob,b≠a->b≠d->s.heap.get? b=some ob->h'.get? b=some ob):=by
  rcases dc with ⟨z,_⟩ | ⟨d,z1,z2,z3⟩
  ·rcases dd with ⟨dx,_,w⟩ | ⟨_,w⟩ <;> rw[w] at z <;> cases z
  ·refine⟨d,z1,z2,z3,?_,fun b ob nb nd zb=>kp b ob nb (fun o0 dx g1 g2=>?_) zb⟩
   ·rcases dd with ⟨dx,w1,w2⟩ | ⟨_,w⟩
    ·rw[w2] at z1; cases z1;rcases q with ⟨q1,_⟩ | ⟨dy,q1,q2,_⟩
     ·rw[q1] at w1; cases w1
     ·rw[q1] at w1; cases w1; exact .inl q2
    ·rw[w] at z1; cases z1;exact .inr (I.hok.fresh (bb _))
   ·obtain rfl:o=o0:=bV (e.symm.trans g1);rcases dd with ⟨dy,w1,w2⟩ | ⟨w1,_⟩
    ·rw[w1] at g2; cases g2; rw[w2] at z1; cases z1; exact nd
    ·rw[w1] at g2; cases g2
 have tr:∀b ob,H b=some ob->b≠a->ob≠.own a->b≠d:=fun b ob z _ ne w=>by
  rw[w] at z;rcases hold with w1 | w1 <;> rw[w1] at z <;> cases z
  exact ne rfl
 have up:∀b ob,H b=some ob->b≠a->(upd (upd H d (.own a)) a (.exc C nw (putF m y fs))) b=some ob:=fun b ob z nb=>by
  rw[bc nb];by_cases w:b=d
  ·subst w;rcases hold with w1 | w1 <;> rw[w1] at z
   ·rw[bA]; exact z
   ·cases z
  ·rw[bc w]; exact z
 have unt:∀b,H b=none->s.heap.get? b≠none->b≠a/\b≠d:=fun b z w=>by
  refine⟨(fun v=>by rw[v,ha] at z; cases z),fun v=>?_⟩;rcases dd with ⟨dx,w1,w2⟩ | ⟨_,w2⟩
  ·rw[hd1] at w2; cases w2;rcases q with ⟨q1,_⟩ | ⟨dy,q1,q2,_⟩
   ·rw[q1] at w1; cases w1
   ·rw[q1] at w1; cases w1; rw[v,q2] at z; cases z
  ·rw[hd1] at w2; cases w2;exact w (by rw[v]; exact Heap.get?_none_of_le (bb _))
 have some_ne:∀{b:Addr} {ob:Obj},s.heap.get? b=some ob->s.heap.get? b≠none:=fun z w=>by rw[z] at w; cases w
 refine h _ _ (I.un (H':=upd (upd H d (.own a)) a (.exc C nw (putF m y fs))) (h':=h') (t':=tk) ⟨fun b ob z nb _ _=>?_,fun b ob z nb _ _=>?_,fun b ob z nb _=>?_,fun b ob z _=>?_,fun b xs z=>?_,fun b ob v z=>?_,fun b ps z=>⟨#[],?_⟩⟩ fun b ob z=>?_) bA fun b ob nb z=>up b ob z nb
 ·obtain⟨n1,n2⟩:=unt b nb (some_ne z);exact hnew b ob n1 n2 z
 ·obtain⟨n1,n2⟩:=unt b nb (some_ne z);exact⟨ob.slots,hnew b ob n1 n2 z⟩
 ·obtain⟨n1,n2⟩:=unt b nb (some_ne z);rw[bc n1,bc n2]; exact nb
 ·by_cases n1:b=a
  ·rw[n1]; exact⟨_,e1⟩
  ·by_cases n2:b=d
   ·obtain⟨od,_,_,w,_⟩:=hd3;rw[n2]; exact⟨od,w⟩
   ·exact⟨ob,hnew b ob n1 n2 z⟩
 ·exact up b _ z fun v=>by rw[v,ha] at z; cases z
 ·exact up b _ z fun v=>by rw[v,ha] at z; cases z
 ·rw[up b _ z fun v=>by rw[v,ha] at z; cases z]; simp
 ·by_cases n1:b=a
  ·subst n1;rw[bA] at z;cases z;refine⟨by have:=rY m y fs; omega,o1,vs,e1,cl2,by rw[d1]; exact c2,c3,c4,.inr ⟨d,hd1,by rw[bc hd2,bA],hd2,_,hd3,fun g=>?_,fun g hg=>?_⟩⟩
   ·show RelO ((putF m y fs).lookup g) (if g=m then some u else mA g);rw[rW];by_cases w:g=m
    ·rw[if_pos w,if_pos w]; exact ry
    ·rw[if_neg w,if_neg w]; exact rel g
   ·by_cases w:g=m
    ·rw[w]; exact (lW m y fs).1
    ·refine (lW m y fs).2 g (wi g fun v=>hg ?_);show (if g=m then some u else mA g)=none;rw[if_neg w]; exact v
  ·rw[bc n1] at z;by_cases n2:b=d
   ·subst n2;rw[bA] at z;cases z;obtain⟨od,_,_,w,_⟩:=hd3;exact⟨od,w⟩
   ·rw[bc n2] at z;have nown:ob≠.own a\/ob=.own a:=by
     by_cases w:ob=.own a
     ·exact .inr w
     ·exact .inl w
    refine (I.hok b ob z).stay (fun c v hc w=>?_) (fun c w=>up c _ w fun v=>by rw[v,ha] at w; cases w) fun c xs w=>up c _ w fun v=>by rw[v,ha] at w; cases w
    rcases hc with w1 | w1
    ·subst w1; exact hnew c v n1 n2 w
    ·refine hnew c v (fun x=>by rw[x,ha] at w1; cases w1) (fun x=>?_) w;rw[x] at w1;rcases hold with w2 | w2 <;> rw[w2] at w1 <;> cases w1
     exact n1 rfl
theorem xT (ha:PE X o ta)(hv:PE X e tv)(hs:swapsWith e (some (.Attribute o m pos')) pos.line X.env=pure false):PS X (.Assign [.Attribute o m pos'] e pos) (hU X.K ta tv m):=by
 intro pins s σ H D I h;refine plainObj_wpAny_Assign_Attribute (aH (hv pins s σ H _ I h) fun u s1 ⟨y,H1,I1,ry,q⟩=>aH (ha pins s1 σ H1 _ I1 q) fun ov s2 hZz=>?_) hs;obtain⟨x,H2,I2,rx,q2⟩:=hZz;obtain⟨a,C,fI,tl,nw,fs,rfl,ea,T,n,l,k⟩:=q2;obtain rfl:ov=Value.ref a:=rx;exact zI I2 ea T n l ry fun s3 H3 I3 g1 g2=>⟨σ,H3,I3,k H3 g1 g2⟩
structure XInit (K:aL)(W:Addr):Prop where
 sp:PySem.W.specialIn K (.ref W) "__getattribute__" = some (some (.builtin "type.__getattribute__"))
 rd:PySem.W.readsIn K W (.type "type")=true
 fd:PySem.W.findCls K (.ref W) (.type "type") "__init__" = some (.val (.builtin "ValueError.__init__"))
def fj (K:aL)(t:TA):TE:=fun σ H Q=>t σ H fun vs H1=>∃(a C fI:Addr) (tl:List Addr) (nw:Bool) (fs:List (Str×V)) (rest:List V),vs=.ref a::rest/\rest.length<=100/\H1 a=some (.exc C nw fs)/\XC K C fI tl/\Q .non H1
theorem Et (I:Inv X pins σ H s)(ha:H a=some (.exc C nw fs))(T:XC X.K C fI tl)(hl:us.length<=100)
  (h:∀s',Inv X pins σ H s'->Q .none s'):wpAny (model X.prog X.w) A (call (.builtin "ValueError.__init__") (.ref a::us)) Q E' s:=by
 obtain⟨z0,o,vs,e,c1,c2,c3,c4,q⟩:=I.hok a _ ha;refine Ga T I.kIn e c1 c2 (by omega) (Nat.le_of_lt (sA (by omega))) fun h' sz kp hZz=>?_;obtain⟨a0,e1⟩:=hZz;have aN:∀b,H b=none->b≠a:=fun b n z=>by rw[z,ha] at n; cases n
 have Hs:upd H a (.exc C nw fs)=H:=by
  funext b
  by_cases z:b=a
  ·subst z; rw[bA,ha]
  ·rw[bc z]
 have J:=I.write (x:=a) (e:=a) (o:=.exc C nw fs) (h':=h') (t':=s.toks) (by rw[ha]; exact True.intro) (.inl rfl) (fun b u nb z=>kp b u nb z) ⟨_,e1⟩ (by
  rw[Hs];refine⟨z0,_,_,e1,c1,rfl,by rw[Array.size_setIfInBounds]; exact c3,fun w=>by rw[Array.getElem?_setIfInBounds_ne (by decide)]; exact c4 w,?_⟩;rcases q with q | ⟨dx,d1,d2,d3,mA,⟨od,es,ep,e3,c⟩,r⟩
  ·exact .inl q
  ·exact .inr ⟨dx,d1,d2,d3,mA,⟨od,es,ep,kp dx od d3 e3,c⟩,r⟩)
 rw[Hs] at J;exact h _ J
theorem zh (XI:XInit X.K W)(hg:Gl X x)(hm:X.mg x=some (.ref W))(ha:PA X (e::es) t)(hdb:(x == ("__debug__" : Str))=false:=by decide)
  (hst:starEach (e::es) X.env=(false,eval e X.env)::starEach es X.env:=by rfl)(hpl:(backTo pos (starEach es X.env)).any (·.1)=false:=by rfl)
  (ht:eval (.Call (.Attribute (.Name x xp) "__init__" apos) (e::es) [] pos) X.env=(do
   let ov <-eval (.Name x xp) X.env
   standAt apos.atName
   let (f,first) <-holding [ov] (getMethod ov "__init__" pl)
   callWith pos f first (backTo pos (starEach (e::es) X.env)) (backToKw pos (keywordEach [] X.env))):=by rfl) :
  PE X (.Call (.Attribute (.Name x xp) "__init__" apos) (e::es) [] pos) (fj X.K t):=by
 intro pins s σ H Q I h;refine PySem.W.methodCall_KW (pl:=pl) (iN I hg hm ?_ hdb) ht;refine PySem.W.method_cls I.kIn XI.sp (PySem.W.cls_value I.kIn XI.rd XI.fd rfl ?_);refine PyProof.Rows.callWith_builtin1 (aH (ha pos pins _ σ H _ (I.tok _) h) fun us s1 hZz=>?_) hst hpl;obtain⟨vs,H1,I1,r1,q1⟩:=hZz;obtain⟨a,C,fI,tl,nw,fs,rest,rfl,hl,ea,T,q⟩:=q1;cases r1 with
 | @cons _ u _ us' ru rr=>
  obtain rfl:u=Value.ref a:=ru;exact Et I1 ea T (by rw[<-rr.length]; exact hl) fun s2 I2=>⟨.non,H1,I2,rfl,q⟩
end
noncomputable abbrev Cx.tryCx (X:Cx)(xe:Value->Shared->Prop)(pn:List (Addr×Obj)):Cx:={ X with xe:=xe,pn:=pn }
noncomputable abbrev Cx.markCx (X:Cx)(a:Addr):Cx:={ X with A:=X.A.mark (some (.ref a)),calm:=false,xe:=fun _ _=>False }
section
variable {X:Cx}{pins:List (Addr×Obj)}{σ:St}{H:Hp}{s:Shared}
theorem Inv.try (I:Inv X pins σ H s)(xe:Value->Shared->Prop):Inv (X.tryCx xe (X.pn++pins)) [] σ H s:=
 ⟨⟨I.ok.mod,I.ok.kind,I.ok.glob,I.ok.blt,I.ok.above,I.ok.inj,I.ok.has,I.ok.cab,I.ok.hd,I.ok.frames,I.ok.stk,I.ok.exf,I.ok.bs,I.ok.bsz,I.ok.noex,I.ok.exfs,I.ok.funs,I.ok.frf⟩,
  I.os,I.bare,I.base,I.loc,I.cell,I.free,I.freeC,fun p hp=>I.pin p (by simpa using hp),I.hok,I.len⟩
theorem Inv.untry (I:Inv (X.tryCx xe (X.pn++pins)) pins' σ H s):Inv X pins σ H s:=
 ⟨⟨I.ok.mod,I.ok.kind,I.ok.glob,I.ok.blt,I.ok.above,I.ok.inj,I.ok.has,I.ok.cab,I.ok.hd,I.ok.frames,I.ok.stk,I.ok.exf,I.ok.bs,I.ok.bsz,I.ok.noex,I.ok.exfs,I.ok.funs,I.ok.frf⟩,
  I.os,I.bare,I.base,I.loc,I.cell,I.free,I.freeC,fun p hp=>I.pin p (dL _ hp),I.hok,I.len⟩
theorem Inv.mark (I:Inv X pins σ H s)(a:Addr):Inv (X.markCx a) pins σ H s:=
 ⟨⟨I.ok.mod,I.ok.kind,I.ok.glob,I.ok.blt,I.ok.above,I.ok.inj,I.ok.has,I.ok.cab,(fun z=>nomatch z),I.ok.frames,I.ok.stk,I.ok.exf,I.ok.bs,I.ok.bsz,I.ok.noex,I.ok.exfs,I.ok.funs,I.ok.frf⟩,
  I.os,I.bare,I.base,I.loc,I.cell,I.free,I.freeC,I.pin,I.hok,I.len⟩
theorem Inv.unmark (c:X.calm=true->X.A.handled=none)(I:Inv (X.markCx a) pins σ H s):Inv X pins σ H s:=
 ⟨⟨I.ok.mod,I.ok.kind,I.ok.glob,I.ok.blt,I.ok.above,I.ok.inj,I.ok.has,I.ok.cab,c,I.ok.frames,I.ok.stk,I.ok.exf,I.ok.bs,I.ok.bsz,I.ok.noex,I.ok.exfs,I.ok.funs,I.ok.frf⟩,
  I.os,I.bare,I.base,I.loc,I.cell,I.free,I.freeC,I.pin,I.hok,I.len⟩
theorem Inv.gone (I:Inv X pins σ H s)(hN:X.N.Nodup)(hi:X.N[i]? = some n)
  (hm:∀(i:Nat) (x:Str) (v:V),X.N[i]? = some x->σ[i]? = some (some v)->nX X.env.scope x->∃u,RelV v u/\Look X.env s.heap m x u)
  (hn:h'.Ns X.env.locals (fun x=>if x=n then v else m x))(sb:Heap.SameBut X.env.locals s.heap h'):Inv X pins (σ.set i none) H { s with heap:=h',toks:=t' }:=by
 have neL:∀b o,X.s₀.heap.get? b=some o->b≠X.env.locals:=fun b o e=>cQ (dW (bw e) I.ok.above);have tr:∀b o,H b=some o->b≠X.env.locals:=fun b o e z=>by rw[z,I.free] at e; cases e
 have cellK:∀x c,X.env.cells.lookup x=some c->∀w,s.heap.IsCell c w->h'.IsCell c w:=fun x c e w ⟨o,ho,hd⟩=>⟨o,(sb.2 c (I.cne x c e)).trans ho,hd⟩
 refine⟨I.ok,I.os,I.bare,⟨fun b o e n1 n2 n3=>?_,fun b o e n1 n2 n3=>?_,fun b o e n1 n3=>I.base.free b o e n1 n3,fun b o e n3=>?_,I.base.tups,I.base.frzs,I.base.tbls⟩,⟨_,hn,fun j x w e1 e2 e3=>?_⟩,fun x c e=>?_,I.free,I.freeC,fun p hp=>?_,fun b o e=>?_,by rw[List.length_set]; exact I.len⟩
 ·exact (sb.2 b (neL b o e)).trans (I.base.keep b o e n1 n2 n3)
 ·obtain⟨sl,z⟩:=I.base.slot b o e n1 n2 n3;exact⟨sl,(sb.2 b (neL b o e)).trans z⟩
 ·obtain⟨o',z⟩:=I.base.there b o e n3;exact⟨o',(sb.2 b (neL b o e)).trans z⟩
 ·have ij:i≠j:=fun z=>by
   subst z;by_cases q:i < σ.length
   ·rw[List.getElem?_set_self q] at e2; cases e2
   ·rw[List.getElem?_eq_none (by rw[List.length_set]; omega)] at e2; cases e2
  rw[List.getElem?_set_ne ij] at e2;have xn:x≠n:=fun z=>ij (oh hN hi (by rw[<-z]; exact e1));obtain⟨u,r,l⟩:=hm j x w e1 e2 e3;refine⟨u,r,?_⟩;rcases l with ⟨k1,k2⟩ | ⟨k1,c,k2,k3⟩
  ·exact .inl ⟨k1,by show (if x=n then v else m x)=some u; rw[if_neg xn]; exact k2⟩
  ·exact .inr ⟨k1,c,k2,cellK x c k2 _ k3⟩
 ·obtain⟨w,z⟩:=I.cell x c e;exact⟨w,cellK x c e w z⟩
 ·obtain⟨z1,z2,z3,z4,z5⟩:=I.pin p hp;exact⟨(sb.2 p.1 z3).trans z1,z2,z3,z4,z5⟩
 ·refine (I.hok b o e).stay (fun c u hc q=>(sb.2 c ?_).trans q) (fun _ q=>q) fun _ _ q=>q;rcases hc with z | z
  ·rw[z]; exact tr b o e
  ·exact tr c _ z
end
def fw (K:aL)(W:Addr)(i:Nat)(ts:TS)(D:Ends):St->XK:=fun σ v _ H=>∃(a C:Addr) (tl:List Addr) (fs:List (Str×V)),v=.ref a/\H a=some (.exc C false fs)/\XO K C tl/\W∈C::tl /\
 ts { nx:=fun σ2 H2=>D.nx (σ2.set i none) H2,rt:=D.rt,bk:=fun σ2 H2=>D.bk (σ2.set i none) H2,ct:=fun σ2 H2=>D.ct (σ2.set i none) H2 } (σ.set i (some (.ref a))) H
def jJ (K:aL)(W:Addr)(i:Nat)(tb:(St->XK)->TS)(ts:TS):TS:=fun D σ H=>tb (fw K W i ts D) D σ H
section
variable {X:Cx}{W:Addr}{tlW:List Addr}{i:Nat}{n cls:Str}{np hpos pos:Pos}{body suite:List Stmt}{b₀:Stmt}{tb:(St->XK)->TS}{ts:TS}
theorem AG (h:W∈C::tl):(Value.ref C::(tl.map Value.ref++bz)).contains (.ref W)=true:=by
 rw[List.contains_iff_mem];rcases cz h with z | z
 ·rw[z]; exact bM
 ·exact bD _ (dL _ (List.mem_map.mpr ⟨W,z,rfl⟩))
theorem we (I:Inv X pins σ H s)(hN:X.N.Nodup)(hi:X.N[i]? = some n)(hn:X.env.scope.names.lookup n=some .local)
  (XW:XO X.K W tlW)(hg:Gl X cls)(hm:X.mg cls=some (.ref W))(hs:∀a,PSs (X.markCx a) (b₀::suite) ts)(ha:H a=some (.exc C false fs))(XCo:XO X.K C tl)(hW:W∈C::tl)(F:Fly s.heap a T .none)(fT:H T=none/\X.s₀.heap.objs.size<=T/\T≠X.env.locals/\(∀x c,X.env.cells.lookup x=some c->c≠T)/\∀p∈X.pn++pins,p.1≠T)
  (q:ts { nx:=fun σ2 H2=>D.nx (σ2.set i none) H2,rt:=D.rt,bk:=fun σ2 H2=>D.bk (σ2.set i none) H2,ct:=fun σ2 H2=>D.ct (σ2.set i none) H2 } (σ.set i (some (.ref a))) H)
  (hdb:(cls == ("__debug__" : Str))=false) :
  wpAny (model X.prog X.w) X.A (handleBy (.ref a) X.env [.ExceptHandler (some (.Name cls np)) (some n) (b₀::suite) hpos]) (SP X pins D) X.xe s:=by
 refine wpAny_handleBy_cons (codeAny_handlers_test ?_) (by intro z; cases z);have Im:=I.mark a;refine iN (X:=X.markCx a) Im hg hm ?_ hdb;obtain⟨_,o,vs,e,c1,_⟩:=I.hok a _ ha;refine AF e c1 I.kIn XCo XW ?_;rw[AG hW];refine codeAny_handlers_suite_as (lV F fun h1 F1 st1=>?_);have I1:=Im.xstep ha st1 (fun _ z=>nomatch z) fun b hb=>by rw[List.mem_singleton.mp hb]; exact fT
 have e1:upd H a (.exc C false fs)=H:=by
  funext b
  by_cases z:b=a
  ·subst z; rw[bA,ha]
  ·rw[bc z]
 rw[e1] at I1;refine qW (X:=X.markCx a) I1 hN hi (.inl hn) (r:=rfl) (v:=.ref a) (fun s2 I2=>?_) (.inr hn);refine wpAny_mono (hs a _ s2 _ H _ I2 q) (fun f s3 h3=>?_) fun _ _ z=>z.elim;have fin:∀{σ3:St} {H3:Hp} {Q:Shared->Prop},Inv (X.markCx a) pins σ3 H3 s3->(∀s4,Inv X pins (σ3.set i none) H3 s4->Q s4)->wpAny (model X.prog X.w) X.A (do bindName X.env n .none; unbindBehindTheSuite X.env n hpos) (fun _ s4=>Q s4) X.xe s3:=fun {σ3 H3 Q} I3 hQ=>by
  have I3':=I3.unmark I.ok.hd;obtain⟨m,hns,hl⟩:=id I3'.loc;refine wpAny_nameGoes_keeps hn hns (by rw[I.ok.kind]; rfl) fun h' v hn' sb=>hQ _ (I3'.gone hN hi hl hn' sb)
 show wpAny _ X.A (do bindName X.env n .none; unbindBehindTheSuite X.env n hpos) (fun _ s4=>SP X pins D f s4) X.xe s3;cases f with
 | next=>obtain⟨σ3,H3,I3,q3⟩:=h3; exact fin I3 fun s4 I4=>⟨_,H3,I4,q3⟩
 | brk=>obtain⟨σ3,H3,I3,q3⟩:=h3; exact fin I3 fun s4 I4=>⟨_,H3,I4,q3⟩
 | cont=>obtain⟨σ3,H3,I3,q3⟩:=h3; exact fin I3 fun s4 I4=>⟨_,H3,I4,q3⟩
 | ret u=>obtain⟨v,σ3,H3,I3,r3,q3⟩:=h3; exact fin I3 fun s4 I4=>⟨v,_,H3,I4,r3,q3⟩
theorem yl (hN:X.N.Nodup)(hi:X.N[i]? = some n)(hn:X.env.scope.names.lookup n=some .local)(hfr:∃L outer,X.stack=X.env::outer/\X.env.frame=some L)(XW:XO X.K W tlW)(hg:Gl X cls)(hm:X.mg cls=some (.ref W))
  (hb:∀(xe:Value->Shared->Prop) (pn:List (Addr×Obj)) (Ec:St->XK),aS (dr X.prog X.w) (X.tryCx xe pn) Ec->nk (X.tryCx xe pn) Ec->PassesOwn (model X.prog X.w) X.A X.env xe->PSs (X.tryCx xe pn) body (tb Ec))
  (hs:∀a,PSs (X.markCx a) (b₀::suite) ts)(hdb:(cls == ("__debug__" : Str))=false:=by decide) :
  PS X (.Try body [.ExceptHandler (some (.Name cls np)) (some n) (b₀::suite) hpos] [] [] pos) (jJ X.K W i tb ts):=by
 intro pins s σ H D I h;obtain⟨L,outer,hst,hL⟩:=hfr;refine wpAny_Try_except ?_;generalize hxe:(fun (e:Value) (s₁:Shared)=>wpAny (model X.prog X.w) X.A (noteFrame e X.env) (fun _ s₂=>wpAny (model X.prog X.w) X.A (setFlight e none) (fun _ s₃=>wpAny (model X.prog X.w) X.A (handleBy e X.env [.ExceptHandler (some (.Name cls np)) (some n) (b₀::suite) hpos]) (SP X pins D) X.xe s₃) X.xe s₂) X.xe s₁)=xe;have sub:∀b∈(X.env::outer).filterMap (·.frame),b=X.env.locals\/b∈X.fs:=fun b hb'=>by
  have:b∈fF X.stack:=by rw[hst]; exact hb'
  exact cz (I.stkSub b this)
 have pass:aS (dr X.prog X.w) (X.tryCx xe (X.pn++pins)) (fw X.K W i ts D):=by
  intro pins' σ' H1 s1 e s' I1' hcx;obtain⟨a,T,C,fs,H2,rfl,os,bare,un,hok,ha,fly,nT,lT,a',C',tl,fs',eq,ha',xo,hW,q⟩:=hcx;cases eq;rw[ha] at ha';cases ha';have I1:Inv X pins σ' H1 s1:=I1'.untry;have I2:=I1.call' (ch:=[]) os un hok bare fun b z=>absurd z (by simp);show xe (.ref a) s';rw[<-hxe];have fr2:=I2.ok.frames;have st2:=I2.stack;rw[hst] at fr2 st2;refine tm (base:=X.base) fr2 st2 hL fly fun h3 F3 st3=>?_;have n2:=I2.newAt (b:=s'.heap.objs.size) (bb _);have I3:=I2.xstep ha st3 sub fun b hb'=>by rw[List.mem_singleton.mp hb']; exact I1.sinceAt I2 lT nT
  have e1:upd H2 a (.exc C false fs)=H2:=by
   funext b
   by_cases z:b=a
   ·subst z; rw[bA,ha]
   ·rw[bc z]
  rw[e1] at I3;refine lV F3 fun h4 F4 st4=>?_;have I4:=I3.xstep ha st4 (fun _ z=>nomatch z) fun b hb'=>by rw[List.mem_singleton.mp hb']; exact n2
  rw[e1] at I4;exact we I4 hN hi hn XW hg hm hs ha xo hW F4 n2 q hdb
 have rais:nk (X.tryCx xe (X.pn++pins)) (fw X.K W i ts D):=by
  intro pins' σ' H1 s1 a C fs I1' ha hE;obtain⟨a',C',tl,fs',eq,ha',xo,hW,q⟩:=hE;cases eq;rw[bA] at ha';cases ha';have I1:Inv X pins σ' H1 s1:=I1'.untry;obtain⟨_,o,vs,e,c1,c2,c3,c4,_⟩:=I1.hok a _ ha;show xe (.ref a) s1;rw[<-hxe];have fr2:=I1.ok.frames;have st2:=I1.stack;rw[hst] at fr2 st2;refine wD (base:=X.base) fr2 st2 hL e c2 (c4 rfl) fun h3 F3 st3=>?_;have n2:=I1.newAt (b:=s1.heap.objs.size) (bb _);have I3:=I1.xstep ha st3 sub (fun _ z=>nomatch z);have nT:(upd H1 a (.exc C false fs)) s1.heap.objs.size=none:=by
   rw[bc (fun z=>by have:=I1.hok.lt ha; rw[<-z] at this; exact Nat.lt_irrefl _ this)];exact n2.1
  refine lV F3 fun h4 F4 st4=>?_;have I4:=I3.xstep bA st4 (fun _ z=>nomatch z) fun b hb'=>by rw[List.mem_singleton.mp hb']; exact⟨nT,n2.2⟩
  rw[zC] at I4;exact we I4 hN hi hn XW hg hm hs bA xo hW F4 ⟨nT,n2.2⟩ q hdb
 have own:PassesOwn (model X.prog X.w) X.A X.env xe:=by
  rw[<-hxe];exact PassesOwn.looking (K:=fun e s''=>wpAny (model X.prog X.w) X.A (setFlight e none) (fun _ s₃=>wpAny (model X.prog X.w) X.A (handleBy e X.env [.ExceptHandler (some (.Name cls np)) (some n) (b₀::suite) hpos]) (SP X pins D) X.xe s₃) X.xe s'')
 refine wpAny_mono (hb xe (X.pn++pins) _ pass rais own [] s σ H D (I.try xe) h) (fun f s1 h1=>?_) fun e s1 h1=>?_
 ·cases f with
  | next=>
   obtain⟨σ1,H1,I1,q1⟩:=h1;exact wpAny_execs_nil ⟨σ1,H1,I1.untry,q1⟩
  | brk=>obtain⟨σ1,H1,I1,q1⟩:=h1; exact⟨σ1,H1,I1.untry,q1⟩
  | cont=>obtain⟨σ1,H1,I1,q1⟩:=h1; exact⟨σ1,H1,I1.untry,q1⟩
  | ret u=>obtain⟨v,σ1,H1,I1,r1,q1⟩:=h1; exact⟨v,σ1,H1,I1.untry,r1,q1⟩
 ·exact h1
end
end L2
end
section
namespace L2
open PySem PySem.W Builtin Builtin.ObjectAttr
section
variable {prog:Program}{w:World}{A:Around}{E:Value->Shared->Prop}{s:Shared}{K:Frag}{C fI x:Addr}{tl:List Addr}{mA:Str->Option Value}
structure XI (K:Frag)(C:Addr):Prop where
 ca:findIn K (.ref C) "__class__" = some (some (.builtin "object.__class__"))
 gt:specialIn K (.builtin "object.__class__") "__get__" = some (some (.builtin "getset_descriptor.__get__"))
 tk:takesIn K (.builtin "object.__class__")=some true
 mr:mroIn K C (.type "object")=some true
theorem Bc (T:XC K C fI tl)(Y:XI K C)(X:K.In s.heap)(J:InstAt s.heap x ox C od)
  (hq:Q (some (.ref C)) { s with toks:=s.toks+1 }):wpAny (model prog w) A (getAttr? (.ref x) "__class__") Q E s:=by
 have FA:=PySem.F.excAttr_ValueError;have iso:=tW (M:=model prog w) T X J (B := "BaseException") (by decide +kernel);have f3:=FA.ga.bind (.ref x);have hx2:(Value.builtin "BaseException.__getattribute__" == Value.builtin "object.__getattribute__")=false:=by decide +kernel
 have hx1:(onTheHeap (Value.ref C)&&Value.builtin "BaseException.__getattribute__" == Value.builtin "object.__getattribute__")=false:=by rw[hx2]; rfl
 obtain⟨nm,q,N,bs,sn,sub,ab,col,dd,k0,k1,k2,k3,k5,lk⟩:=T.obj;have hf:findObj K C od "__class__" = some (.bind (.builtin "getset_descriptor.__get__") (.builtin "object.__class__")):=by
  obtain⟨cd,hcl⟩:∃cd,clsIn K C=some cd:=by unfold clsIn; rw[lk]; exact⟨_,rfl⟩
  unfold findObj;rw[hcl,Option.bind_some,Y.ca,Option.bind_some];dsimp only;rw[Y.gt,Option.bind_some];dsimp only;rw[Y.tk];rfl
 have hC:=X _ _ lk;have J0:=J;obtain⟨hx,hc,_,_⟩:=J;obtain⟨hp,g,d,tk,os⟩:=s;change K.In hp at X;change InstAt hp x ox C od at J0;change hp.get? x=some ox at hx;have ga:∀{t:Nat} {Q':Option Value->Shared->Prop} {E':Value->Shared->Prop} {A':Around},Q' (some (.builtin "BaseException.__getattribute__")) ⟨hp,g,d,t,os⟩->wpAny (model prog w) A' (typeLookup (.ref C) "__getattribute__") Q' E' ⟨hp,g,d,t,os⟩:=fun z=>(looks_findIn X T.ga).at z;have gh:∀{t:Nat} {Q':Option Value->Shared->Prop} {E':Value->Shared->Prop} {A':Around},Q' none ⟨hp,g,d,t,os⟩->wpAny (model prog w) A' (typeLookup (.ref C) "__getattr__") Q' E' ⟨hp,g,d,t,os⟩:=fun z=>(looks_findIn X T.gh).at z;have gf:∀{t:Nat} {Q':Found->Shared->Prop} {E':Value->Shared->Prop} {A':Around},Q' (.bind (.builtin "getset_descriptor.__get__") (.builtin "object.__class__")) ⟨hp,g,d,t,os⟩->wpAny (model prog w) A' (find (.ref x) (.ref C) "__class__") Q' E' ⟨hp,g,d,t,os⟩:=fun z=>(looks_find X J0 hf).at z;unfold getAttr? getAttrBy? getAttrBy;repeat (any_goals (first | assumption | (with_reducible refine wpAny_loadPart_at hx ?_; rw[hc]) | with_reducible refine ga ?_ | with_reducible refine gh ?_ | wp_step))
 refine codeAny_call_builtin FA.ga.plain F.entry_bexc_ga (@check_slot (model prog w) _ _ _ "BaseException.__getattribute__" "BaseException" "__getattribute__" (.ref x) [.str "__class__" tk] [] _ (by decide +kernel) (by decide +kernel) iso (F.args_bexc_ga _ _) ?_);unfold Builtin.«object.__getattribute__»;repeat (any_goals (first | assumption | (with_reducible refine wpAny_loadPart_at hx ?_; rw[hc]) | with_reducible refine gf ?_ | wp_step))
 refine class_get (ox:=ox) (od:=od) X J0 Y.mr ?_;repeat (any_goals (first | assumption | wp_step))
end
section
variable {K:Frag}{C fI x:Addr}{tl:List Addr}
theorem v5 (T:XC K C fI tl)(Y:XI K C):KitX K (.ref x) (.ref C) (fun h=>∃ox od,InstAt h x ox C od) where
 ty:=fun _ _ _ ⟨_,_,J⟩=>J.type
 it:=fun _ _ X _=>by
  obtain⟨nm,q,N,bs,sn,sub,ab,col,dd,k0,k1,k2,k3,k5,lk⟩:=T.obj;intro A' Q' E' s' k q;unfold isType loadHead;exact ai (wpAny_loadPart (k _ _ (X _ _ lk)) (aG q))
 ne:=fun h tp dd' its n sl X htp=>by
  obtain⟨nm,q,N,bs,sn,sub,ab,col,dd,k0,k1,k2,k3,k5,lk⟩:=T.obj;refine Bool.eq_false_iff.mpr fun z=>?_;have e:C=tp:=Value.ref.inj (beq_iff_eq.mp z);subst e;have z:=congrArg Obj.data (bV ((X _ _ lk).symm.trans htp));cases z
 ca:=fun X ⟨_,_,J⟩ k=>Bc T Y X J k
end
end L2
namespace L2
open PySem PySem.Spec PyProof.Rows
inductive TyX (K:aL) (H:Hp):V->Value->Prop where
 | old {x:V} {t:Value} (h:TyOf K H x t):TyX K H x t
 | exc {a C fI:Addr} {tl:List Addr} {nw:Bool} {fs:List (Str×V)} (e:H a=some (.exc C nw fs)) (T:XC K C fI tl) (Y:XI K C):TyX K H (.ref a) (.ref C)
section
variable {X:Cx}
theorem Ef (I:Inv X pins σ H s)(rx:RelV x u)(ty:TyX X.K H x t)(e:PySem.W.kitOne X.K t c=some b)(h:∀tk,Q (.bool b) { s with toks:=tk }) :
  wpAny (model X.prog X.w) A (call (.builtin "isinstance") [u,c]) Q E s:=by
 cases ty with
 | old ty=>exact jt I rx ty e h
 | @exc a C fI tl nw fs ea T Y=>
  cases (show u=Value.ref a from rx);obtain⟨mA,J,_,_⟩:=I.inst ea;exact PySem.W.kia_one (v5 T Y) I.kIn (n0 J) e (fun z=>nomatch z) h
noncomputable def valOf:V->Option Value
 | .ref a=>some (.ref a)
 | .ty n=>some (.type n)
 | _=>none
end
end L2
end
section
namespace L2
open PySem PySem.Spec PyProof.Rows
section
variable {X:Cx}{pins:List (Addr×Obj)}{σ:St}{H:Hp}{s:Shared}{h':Heap}
theorem Inv.turnedL {t':Nat}{fp:List Addr}(I:Inv X pins σ H s)(hf:∀b∈fp,cJ X pins H b)(k:∀b o,b∉fp->s.heap.get? b=some o->h'.get? b=some o):Inv X pins σ H { s with heap:=h',toks:=t' }:=by
 have nf:∀b u,H b=some u->b∉fp:=fun b u e z=>by rw[(hf b z).1] at e; cases e
 refine I.step (g':=s.gens) (d':=s.drawn) (ch:=fp) (fun b hb=>⟨(hf b hb).2.2.2.1,(hf b hb).2.1,(hf b hb).2.2.2.2⟩) (fun b o _ _ hc e _=>k b o hc e) (fun b o _ _ hc e _=>⟨o.slots,k b o hc e⟩) (fun _ _ _ _ n=>n)
  (fun b o hc e=>⟨o,k b o hc e⟩) (fun _ _ e=>e) (fun _ _ _ e=>e) (fun b ps e=>⟨#[],by rw[e]; simp⟩) (fun m hm=>?_) (fun b u e=>?_) I.bare
 ·obtain⟨o,es,ep,ho,r⟩:=hm;exact⟨o,es,ep,k _ o (fun z=>(hf _ z).2.1 rfl) ho,r⟩
 ·refine (I.hok b u e).stay (fun c v hc q=>k c v ?_ q) (fun _ q=>q) fun _ _ q=>q;rcases hc with z | z
  ·rw[z]; exact nf b u e
  ·exact nf c _ z
theorem Inv.turnedN {t':Nat}{fp:List Addr}{a:Addr}{o:HO}(I:Inv X pins σ H s)(hf:∀b∈fp,cJ X pins H b)(k:∀b o,b∉fp->s.heap.get? b=some o->h'.get? b=some o)(hp:s.heap.objs.size<=a)(new:ObjOk X.prog X.w (upd H a o) h' a o) :
  Inv X pins σ (upd H a o) { s with heap:=h',toks:=t' }:=by
 have ha:H a=none:=I.hok.fresh hp;have na:∀b o,s.heap.get? b=some o->b≠a:=fun b o e=>cQ (dW (bw e) hp);have nt:∀b u,H b=some u->b≠a:=fun b u e z=>by rw[z,ha] at e; cases e
 have nf:∀b u,H b=some u->b∉fp:=fun b u e z=>by rw[(hf b z).1] at e; cases e
 refine I.step (g':=s.gens) (d':=s.drawn) (ch:=fp) (fun b hb=>⟨(hf b hb).2.2.2.1,(hf b hb).2.1,(hf b hb).2.2.2.2⟩) (fun b o _ _ hc e _=>k b o hc e) (fun b o _ _ hc e _=>⟨o.slots,k b o hc e⟩) (fun b o _ e n=>by rw[bc (na b o e)]; exact n)
  (fun b o hc e=>⟨o,k b o hc e⟩) (fun b _ e=>by rw[bc (nt b _ e)]; exact e) (fun b _ _ e=>by rw[bc (nt b _ e)]; exact e) (fun b ps e=>⟨#[],by rw[bc (nt b _ e),e]; simp⟩) (fun m hm=>?_) (fun b u e=>?_) I.bare
 ·obtain⟨o,es,ep,ho,r⟩:=hm;exact⟨o,es,ep,k _ o (fun z=>(hf _ z).2.1 rfl) ho,r⟩
 ·by_cases z:b=a
  ·subst z; rw[bA] at e; cases e; exact new
  ·rw[bc z] at e;refine (I.hok b u e).stay (fun c v hc q=>k c v ?_ q) (fun c q=>by rw[bc (nt c _ q)]; exact q) fun c _ q=>by rw[bc (nt c _ q)]; exact q
   rcases hc with z | z
   ·rw[z]; exact nf b u e
   ·exact nf c _ z
end
noncomputable def pP (K:aL)(a b:Addr):It:=
 ⟨fun i H=>∃xs ys x y,SqL K H a xs/\SqL K H b ys/\xs[i]? = some x/\ys[i]? = some y,fun i H v H'=>∃x y p,v=.ref p/\H p=none/\H'=upd H p (.tup [x,y])/\(∀xs,SqL K H a xs->xs[i]? = some x)/\∀ys,SqL K H b ys->ys[i]? = some y,
  fun i H=>∃xs ys,SqL K H a xs/\SqL K H b ys/\(xs.length<=i\/ys.length<=i)⟩
theorem ll {h:Heap}{a b:Addr}{o u:Obj}(A B:String)(ha:h.get? a=some o)(hb:h.get? b=some u)(hA:o.cls=.type A)(hB:u.cls=.type B)(n:A≠B):a≠b:=fun z=>by
 subst z; rw[ha] at hb; cases hb; rw[hA] at hB; cases hB; exact n rfl
def iW (z TI TO i1 i2 l1 l2:Addr)(i:Nat)(h:Heap):Prop:=IsZip h z TI TO .none/\IsPair h TI (.ref i1) (.ref i2)/\(∃a b,IsPair h TO a b)/\h.IsListIter i1 l1 i/\h.IsListIter i2 l2 i
theorem ut {h:Heap}{z TI TO i1 i2 l1 l2:Addr}{i:Nat}{xs ys:Array Value}(t:iW z TI TO i1 i2 l1 l2 i h)(h1:h.IsList l1 xs)(h2:h.IsList l2 ys)(n1:TI≠TO)(n2:i1≠i2):ZipApart z TI TO i1 i2 l1 l2:=by
 obtain⟨tz,tI,⟨a,b,tO⟩,⟨o1,e1,c1,_⟩,⟨o2,e2,c2,_⟩⟩:=t;obtain⟨u1,f1,d1,_⟩:=h1;obtain⟨u2,f2,d2,_⟩:=h2;have d:∀{a b:Addr} {o u:Obj} (A B:String),h.get? a=some o->h.get? b=some u->o.cls=.type A->u.cls=.type B->(A == B)=false->a≠b:=fun A B x y hA hB n=>ll A B x y hA hB (by simpa using n);exact⟨d "tuple" "zip" tI tz rfl rfl rfl,d "tuple" "zip" tO tz rfl rfl rfl,d "list_iterator" "zip" e1 tz c1 rfl rfl,d "list_iterator" "zip" e2 tz c2 rfl rfl,n1,d "tuple" "list_iterator" tI e1 rfl c1 rfl,d "tuple" "list_iterator" tI e2 rfl c2 rfl,
  d "tuple" "list_iterator" tO e1 rfl c1 rfl,d "tuple" "list_iterator" tO e2 rfl c2 rfl,n2,d "list" "zip" f1 tz d1 rfl rfl,d "list" "tuple" f1 tO d1 rfl rfl,d "list" "list_iterator" f1 e1 d1 c1 rfl,d "list" "list_iterator" f1 e2 d1 c2 rfl,
  d "list" "zip" f2 tz d2 rfl rfl,d "list" "tuple" f2 tO d2 rfl rfl,d "list" "list_iterator" f2 e1 d2 c1 rfl,d "list" "list_iterator" f2 e2 d2 c2 rfl⟩
theorem D5 {P:Program}{w:World}{K:aL}{es:List Expr}{k1:Nat}{ps:Pos}(l1 l2 z TI TO i1 i2:Addr)(n1:TI≠TO)(n2:i1≠i2):Turn P w K (.Tuple es k1 ps) (pP K l1 l2) [z,TI,TO,i1,i2] z (iW z TI TO i1 i2 l1 l2) where
 mem:=by simp
 obj:=fun i h t b hb=>by
  obtain⟨tz,tI,⟨a,c,tO⟩,⟨o1,e1,_,d1⟩,⟨o2,e2,_,d2⟩⟩:=t;simp only[List.mem_cons,List.not_mem_nil,or_false] at hb;rcases hb with rfl | rfl | rfl | rfl | rfl
  ·exact⟨_,tz,(fun v q=>nomatch q)⟩
  ·exact⟨_,tI,(fun v q=>nomatch q)⟩
  ·exact⟨_,tO,(fun v q=>nomatch q)⟩
  ·exact⟨o1,e1,fun v q=>by rw[d1] at q; cases q⟩
  ·exact⟨o2,e2,fun v q=>by rw[d2] at q; cases q⟩
 keep:=fun i h h' t k=>by
  obtain⟨tz,tI,⟨a,c,tO⟩,t1,t2⟩:=t;exact⟨k z (by simp) _ tz,k TI (by simp) _ tI,⟨a,c,k TO (by simp) _ tO⟩,t1.at fun o e=>k i1 (by simp) o e,t2.at fun o e=>k i2 (by simp) o e⟩
 item:=by
  intro X hP hw hK hc i pins s σ H E I hf st hg;subst hP hw hK;obtain⟨xs,ys,x,y,hx,hy,ex,ey⟩:=hg;obtain⟨its,rv,p,hz⟩:=I.list hx;obtain⟨its2,rv2,p2,hz2⟩:=I.list hy;obtain⟨u,hu,ru⟩:=rv.get ex;obtain⟨u2,hu2,ru2⟩:=rv2.get ey;have D:=ut st p.isList p2.isList n1 n2;obtain⟨tz,tI,⟨a,c,tO⟩,t1,t2⟩:=st;refine wpAny_pyNext_zip_item D tz tI tO t1 t2 p.isList p2.isList (x:=u) (y:=u2) (by simpa using hu) (by simpa using hu2) fun h' z1 z2 z3 z4 z5 z6 z7=>⟨_,rfl,?_⟩
  refine wpAny_letOwnedTupleGo_zip (s:={ s with heap:=h' }) z1 fun h2 z1' sb=>?_;have kk:∀b o,b∉[z,TI,TO,i1,i2]->s.heap.get? b=some o->h2.get? b=some o:=fun b o nb e=>by
   simp only[List.mem_cons,List.not_mem_nil,or_false,not_or] at nb;obtain⟨m1,m2,m3,m4,m5⟩:=nb;exact (sb.2 b m1).trans (z7 b o m1 m3 m4 m5 e)
  have lz:z<s.heap.objs.size:=bw tz;have gT:h2.get? s.heap.objs.size=some { cls:=.type "tuple",data:=.seq #[u,u2] }:=(sb.2 _ (Nat.ne_of_gt lz)).trans z5;have up:∀b o,b≠z->h'.get? b=some o->h2.get? b=some o:=fun b o nb e=>(sb.2 b nb).trans e;refine⟨.ref s.heap.objs.size,upd H s.heap.objs.size (.tup [x,y]),I.turnedN (t':=s.toks) hf kk (bb _) ⟨by show 2<=sizeLine; decide,[u,u2],.cons ru (.cons ru2 .nil),_,gT,rfl,⟨_,rfl⟩,rfl⟩,rfl,
   ⟨x,y,_,rfl,I.hok.fresh (bb _),rfl,fun zs hq=>by rw[I.list_inj hq hx]; exact ex,fun zs hq=>by rw[I.list_inj hq hy]; exact ey⟩,
   ⟨z1',up _ _ D.TIz (z7 TI _ D.TIz D.TITO D.TIi1 D.TIi2 tI),⟨u,u2,up _ _ D.TOz z2⟩,z3.at fun o e=>up _ _ D.i1z e,z4.at fun o e=>up _ _ D.i2z e⟩,fun b hb=>?_⟩
  obtain⟨o,e,_⟩:∃o,s.heap.get? b=some o/\True:=by
   simp only[List.mem_cons,List.not_mem_nil,or_false] at hb;obtain⟨o1,e1,_,d1⟩:=t1;obtain⟨o2,e2,_,d2⟩:=t2;rcases hb with rfl | rfl | rfl | rfl | rfl
   ·exact⟨_,tz,trivial⟩
   ·exact⟨_,tI,trivial⟩
   ·exact⟨_,tO,trivial⟩
   ·exact⟨o1,e1,trivial⟩
   ·exact⟨o2,e2,trivial⟩
  rw[bc (Nat.ne_of_lt (Heap.lt_size e))];exact (hf b hb).1
 done:=by
  intro X hP hw hK hc i pins s σ H E I hf st hg;subst hP hw hK;obtain⟨xs,ys,hx,hy,hend⟩:=hg;obtain⟨its,rv,p,hz⟩:=I.list hx;obtain⟨its2,rv2,p2,hz2⟩:=I.list hy;have D:=ut st p.isList p2.isList n1 n2;obtain⟨tz,tI,⟨a,c,tO⟩,t1,t2⟩:=st;have l1:=rv.length;have l2:=rv2.length;refine wpAny_pyNext_zip_end (I.ok.hd hc) D tz tI tO t1 t2 p.isList p2.isList (hend.elim (fun q=>.inl (by simp; omega)) fun q=>.inr (by simp; omega)) fun h' kp=>⟨rfl,I.turnedL (t':=s.toks) hf fun b o nb e=>?_⟩
  simp only[List.mem_cons,List.not_mem_nil,or_false,not_or] at nb;obtain⟨m1,m2,m3,m4,m5⟩:=nb;exact kp b o m1 m3 m4 m5 e
 self:=fun _ _ _ _ _ st h=>wpAny_pyIter_zip st.1 h
noncomputable def sL (K:aL)(a:Addr):It:=
 ⟨fun i H=>∃xs x,SqL K H a xs/\xs[i]? = some x,fun i H v H'=>∃x p,v=.ref p/\H p=none/\H'=upd H p (.tup [.int i,x])/\∀xs,SqL K H a xs->xs[i]? = some x,fun i H=>∃xs,SqL K H a xs/\xs.length<=i⟩
def kv (e it l:Addr)(i:Nat)(h:Heap):Prop:=(∃old,IsEnum h e it i old)/\h.IsListIter it l i
theorem yh {P:Program}{w:World}{K:aL}{es:List Expr}{k1:Nat}{ps:Pos}(l e it:Addr):Turn P w K (.Tuple es k1 ps) (sL K l) [e,it] e (kv e it l) where
 mem:=by simp
 obj:=fun i h t b hb=>by
  obtain⟨⟨old,te⟩,⟨o1,e1,_,d1⟩⟩:=t;simp only[List.mem_cons,List.not_mem_nil,or_false] at hb;rcases hb with rfl | rfl
  ·exact⟨_,te,(fun v q=>nomatch q)⟩
  ·exact⟨o1,e1,fun v q=>by rw[d1] at q; cases q⟩
 keep:=fun i h h' t k=>by
  obtain⟨⟨old,te⟩,t1⟩:=t;exact⟨⟨old,k e (by simp) _ te⟩,t1.at fun o q=>k it (by simp) o q⟩
 item:=by
  intro X hP hw hK hc i pins s σ H E I hf st hg;subst hP hw hK;obtain⟨xs,x,hx,ex⟩:=hg;obtain⟨its,rv,p,hz⟩:=I.list hx;obtain⟨u,hu,ru⟩:=rv.get ex;obtain⟨⟨old,te⟩,t1⟩:=st;have ne:e≠it:=by
   obtain⟨o1,e1,c1,_⟩:=t1;exact ll "enumerate" "list_iterator" te e1 rfl c1 (by decide)
  refine wpAny_pyNext_enum_item te t1 p.isList (x:=u) (by simpa using hu) ne fun h' z1 z2 z3 z4 z5=>⟨_,rfl,?_⟩
  refine wpAny_letOwnedTupleGo_enum (s:={ s with heap:=h',toks:=s.toks+1 }) z1 fun h2 z1' sb=>?_;have kk:∀b o,b∉[e,it]->s.heap.get? b=some o->h2.get? b=some o:=fun b o nb q=>by
   simp only[List.mem_cons,List.not_mem_nil,or_false,not_or] at nb;exact (sb.2 b nb.1).trans (z5 b o nb.1 nb.2 q)
  have le:e<s.heap.objs.size:=bw te;have gT:h2.get? s.heap.objs.size=some { cls:=.type "tuple",data:=.seq #[.int i s.toks,u] }:=(sb.2 _ (Nat.ne_of_gt le)).trans z3;refine⟨.ref s.heap.objs.size,upd H s.heap.objs.size (.tup [.int i,x]),I.turnedN (t':=s.toks+1) hf kk (bb _) ⟨by show 2<=sizeLine; decide,[.int i s.toks,u],.cons ⟨_,rfl⟩ (.cons ru .nil),_,gT,rfl,⟨_,rfl⟩,rfl⟩,rfl,
   ⟨x,_,rfl,I.hok.fresh (bb _),rfl,fun zs hq=>by rw[I.list_inj hq hx]; exact ex⟩,⟨⟨u,by simpa using z1'⟩,z2.at fun o q=>(sb.2 it (Ne.symm ne)).trans q⟩,fun b hb=>?_⟩
  obtain⟨o,q,_⟩:∃o,s.heap.get? b=some o/\True:=by
   simp only[List.mem_cons,List.not_mem_nil,or_false] at hb;obtain⟨o1,e1,_,d1⟩:=t1;rcases hb with rfl | rfl
   ·exact⟨_,te,trivial⟩
   ·exact⟨o1,e1,trivial⟩
  rw[bc (Nat.ne_of_lt (Heap.lt_size q))];exact (hf b hb).1
 done:=by
  intro X hP hw hK hc i pins s σ H E I hf st hg;subst hP hw hK;obtain⟨xs,hx,hend⟩:=hg;obtain⟨its,rv,p,hz⟩:=I.list hx;obtain⟨⟨old,te⟩,t1⟩:=st;have l1:=rv.length;refine wpAny_pyNext_enum_end (I.ok.hd hc) te t1 p.isList (by simp; omega) fun h' kp=>⟨rfl,I.turnedL (t':=s.toks) hf fun b o nb q=>?_⟩
  simp only[List.mem_cons,List.not_mem_nil,or_false,not_or] at nb;exact kp b o nb.2 q
 self:=fun _ _ _ _ _ st h=>by
  obtain⟨⟨old,te⟩,_⟩:=st;exact wpAny_pyIter_enum te h
section
variable {X:Cx}{es:List Expr}{k1:Nat}{tp:Pos}
def pV (K:aL)(ta:TA):TI:=fun σ H R=>ta σ H fun vs H1=>∃a b xs ys,vs=[.ref a,.ref b]/\SqL K H1 a xs/\SqL K H1 b ys/\R (pP K a b) H1
theorem ET {a b:Expr}{ta:TA}{p pos:Pos}(hg:Gl X "zip")(hm:X.mg "zip" = none)(hv:bootBuiltins "zip" = some (.type "zip"))(ha:PA X [a,b] ta)(hs:starEach [a,b] X.env=[(false,eval a X.env),(false,eval b X.env)]:=by rfl)(hs2:starEach [b] X.env=[(false,eval b X.env)]:=by rfl) :
  PI X (.Tuple es k1 tp) (.Call (.Name "zip" p) [a,b] [] pos) (pV X.K ta):=by
 intro pins s σ H R I h;refine Call_ (i7 I hg hm hv (PyProof.Rows.callWith_type1 (aH (ha pos pins s σ H _ I h) fun us s1 hZz=>?_) (by rw[hs,hs2]) (by rw[hs2]; rfl)));obtain⟨vs,H1,I1,r1,q1⟩:=hZz;obtain⟨l1,l2,xs,ys,rfl,hx,hy,q⟩:=q1;obtain⟨u,v,rfl,ru,rv⟩:=vals2 r1;cases ru;cases rv;obtain⟨its,rx,px,hzx⟩:=I1.list hx;obtain⟨its2,ry,py,hzy⟩:=I1.list hy;refine call_zip_2 px.isList py.isList fun h' z1 z2 z3 z4 z5 z6 z7=>?_;refine wpAny_pyIter_zip (s:={ s1 with heap:=h' }) z1 ⟨_,_,_,_,H1,rfl,I1.kept (t':=s1.toks) z7,D5 l1 l2 (s1.heap.objs.size+4) (s1.heap.objs.size+2) (s1.heap.objs.size+3) s1.heap.objs.size (s1.heap.objs.size+1) (cQ (Nat.lt_succ_self _)) (cQ (Nat.lt_succ_self _)),⟨z1,z2,⟨_,_,z3⟩,z4,z5⟩,fun b hb=>?_,q⟩;have lb:s1.heap.objs.size<=b:=by
  simp only[List.mem_cons,List.not_mem_nil,or_false] at hb;rcases hb with rfl | rfl | rfl | rfl | rfl <;> omega
 exact I1.fpOk lb (I1.hok.fresh lb)
end
end L2
end
section
namespace St
open PySem PyProof.Rows
noncomputable def subs:Nat->List (List Nat)
 | 0=>[[]]
 | n+1=>subs n++(subs n).map (·++[n])
noncomputable def ins (l:List Nat)(k:Nat):List Nat:=l.filter (fun x=>Nat.blt x k)++k::l.filter (fun x=>Nat.blt k x)
noncomputable def b1 (l:List Nat)(k:Nat):Bool:=l.contains k||((!SetTable.has l.toArray k)&&(SetTable.below l.toArray k == (l.filter (fun x=>Nat.blt x k)).length)&&(l.take (l.filter (fun x=>Nat.blt x k)).length++k::l.drop (l.filter (fun x=>Nat.blt x k)).length == ins l k)&&(subs 6).contains (ins l k))
theorem Co:((subs 6).all fun l=>(List.range 6).all fun k=>b1 l k)=true:=by decide +kernel
noncomputable def hs (l:List Nat):Array Int:=(l.map Int.ofNat).toArray
noncomputable def b2 (m:Nat)(l:List Nat):Bool:=((SetTable.layClean m (hs l)).map fun owner=>(List.range (m+1)).filterMap fun j=>(owner.getD j none).map (j,·)) == some (l.zip (List.range l.length))
noncomputable def gm (l:List Nat):Nat:=SetTable.sizeAbove (SetTable.grown l.length) - 1
noncomputable def tQ (l:List Nat):Bool:=b2 (gm l) l&&(Nat.blt 4 l.length||b2 7 l)&&b2 15 l&&(gm l == 7&&Nat.ble l.length 4||gm l == 15||gm l == 31)
theorem yr:((subs 6).all tQ)=true:=by decide +kernel
noncomputable def b3 (l:List Nat):Bool:=(List.range (l.length+1)).all fun i=>SetTable.below l.toArray (if i=0 then 0 else l.getD (i - 1) 0+1) == i
theorem uh:((subs 6).all b3)=true:=by decide +kernel
noncomputable def b4 (l:List Nat):Bool:=decide (l.length<=6)&&l.all (fun x=>Nat.blt x 6)&&decide (l.Pairwise (· < ·))
theorem xW:((subs 6).all b4)=true:=by decide +kernel
noncomputable def b5 (l:List Nat):Bool:=((List.range 6).filter l.contains == l)&&(List.range 6).all fun k=>(subs 6).contains (l.filter (· != k))
theorem CS (hm:m=7\/m=15\/m=31)(hk:k<6):SetTable.bits (Int.ofNat k) % (m+1)=k:=by
 have:∀m∈[7,15,31],∀k∈List.range 6,SetTable.bits (Int.ofNat k) % (m+1)=k:=by decide +kernel
 exact this m (by simpa using hm) k (List.mem_range.mpr hk)
theorem BJ {t:SetTable}{k:Nat}(hm:t.mask=7\/t.mask=15\/t.mask=31)(hk:k<6)(h1:SetTable.has t.place k=false)(h2:SetTable.has t.dummies k=false):t.freeSlot (Int.ofNat k)=some (k,false):=by
 have hs:t.slot k=.empty:=by
  show (if SetTable.has t.place k=true then _ else if SetTable.has t.dummies k=true then _ else _)=_;rw[h1,h2];rfl
 obtain⟨n,hn⟩:∃n,10 * SetTable.turns t.mask=n+1:=⟨10 * t.mask+149,by unfold SetTable.turns; omega⟩
 have e:(t.probeStart (Int.ofNat k)).j=k:=CS hm hk;unfold SetTable.freeSlot SetTable.probe;rw[hn];unfold SetTable.probe.go;rw[e,hs];rfl
structure TG (b:Bool)(l D:List Nat)(t:SetTable):Prop where
 mem:l∈subs 6
 place:t.place=l.toArray
 dum:∃ds,ds∈subs 6/\t.dummies=ds.toArray/\∀x∈ds,x∈D
 mask:t.mask=7/\t.fill<=4\/t.mask=15\/t.mask=31
 led:t.led=b
 plain:t.plain=true
def SG (b:Bool)(h:Heap)(a:Addr)(l D:List Nat):Prop:=∃es ep t,h.get? a=some { cls:=.type "set",dict:=none,data:=.set es ep t }/\es.toList.map (·.1)=l.map Int.ofNat/\(∀e∈es.toList,∃tk,e.2=.int e.1 tk)/\TG b l D t
theorem mem_b4 (h:l∈subs 6):l.length<=6/\(∀x∈l,x<6)/\l.Pairwise (· < ·):=by
 have:=dF xW l h;simp only[b4,Bool.and_eq_true,decide_eq_true_eq,List.all_eq_true] at this;exact⟨this.1.1,fun x hx=>Nat.le_of_ble_eq_true (this.1.2 x hx),this.2⟩
theorem wO (h:k<6):hashInt (Int.ofNat k)=Int.ofNat k:=by
 have:∀j∈List.range 6,hashInt (Int.ofNat j)=Int.ofNat j:=by decide +kernel
 exact this k (List.mem_range.mpr h)
theorem TG.size (h:TG b l D t):t.place.size=l.length:=by rw[h.place]; simp
theorem TG.fill (h:TG b l D t):t.fill<=l.length+6:=by
 obtain⟨ds,d1,d2,_⟩:=h.dum;have:=(mem_b4 d1).1;rw[SetTable.fill,h.size,d2,List.size_toArray];omega
theorem TG.fits (h:TG b l D t)(hn:n=l.length):t.fits n=true:=by
 have h6:=(mem_b4 h.mem).1;have hf:=h.fill;simp only[SetTable.fits,h.size,Bool.and_eq_true,beq_iff_eq,decide_eq_true_eq];refine⟨hn.symm,?_⟩;rcases h.mask with ⟨e,q⟩ | e | e <;> omega
theorem TG.mask3 (h:TG b l D t):t.mask=7\/t.mask=15\/t.mask=31:=h.mask.imp And.left id
theorem l9 {prog:Program}{w:World}{es:Array (Int×Value)}{l:List Nat}(hm:l∈subs 6)(h1:es.toList.map (·.1)=l.map Int.ofNat)(h2:∀e∈es.toList,∃tk,e.2=.int e.1 tk):ElemsOf (intKind prog w) es.toList:=by
 intro e he;obtain⟨tk,et⟩:=h2 e he;have:e.1∈l.map Int.ofNat:=by rw[<-h1]; exact List.mem_map_of_mem he
 obtain⟨k,hk,ek⟩:=c9 this;refine⟨⟨e.1,by rw[et]; exact intKind_is _ _ _ _,?_⟩,by rw[et]; rfl⟩;show e.1=hashInt e.1;rw[<-ek,wO ((mem_b4 hm).2.1 k hk)]
theorem hY {es:Array (Int×Value)}{l:List Nat}(h1:es.toList.map (·.1)=l.map Int.ofNat):es.size=l.length:=by
 have:=congrArg List.length h1;simpa using this
theorem ins_of (hm:l∈subs 6)(hk:k<6)(hn:k∉l):SetTable.has l.toArray k=false/\SetTable.insertAt l.toArray (SetTable.below l.toArray k) k=(ins l k).toArray/\SetTable.below l.toArray k=(l.filter (fun x=>Nat.blt x k)).length/\l.take (l.filter (fun x=>Nat.blt x k)).length++k::l.drop (l.filter (fun x=>Nat.blt x k)).length=ins l k/\ins l k∈subs 6/\(ins l k).length=l.length+1:=by
 have q:b1 l k=true:=dF (dF Co l hm) k (List.mem_range.mpr hk);have hc:l.contains k=false:=by simpa using hn
 simp only[b1,hc,Bool.false_or,Bool.and_eq_true,beq_iff_eq,List.contains_iff_mem,Bool.not_eq_true'] at q;obtain⟨⟨⟨q1,q2⟩,q3⟩,q4⟩:=q;refine⟨q1,?_,q2,q3,q4,?_⟩
 ·rw[q2];apply Array.toList_inj.mp;rw[SetTable.toList_insertAt];simpa using q3
 ·rw[<-q3,List.length_append,List.length_cons,List.length_take,List.length_drop];have:(l.filter (fun x=>Nat.blt x k)).length<=l.length:=List.length_filter_le _ _;omega
theorem Dk {b:Bool}{l D:List Nat}{t:SetTable}{es:Array (Int×Value)}{k:Nat}{x:Value}(h:TG b l D t)(h1:es.toList.map (·.1)=l.map Int.ofNat)(hk:k<6)(hn:k∉l)(hD:k∉D) :
  ∃es' t',layNew t es (Int.ofNat k) x=(es',t',false,false)/\es'.toList.map (·.1)=(ins l k).map Int.ofNat/\(∀e∈es'.toList,e∈es.toList\/e=(Int.ofNat k,x))/\t'.mask=t.mask/\t'.place=(ins l k).toArray/\t'.dummies=t.dummies/\t'.led=b/\t'.plain=true/\t'.fill=t.fill+1/\ins l k∈subs 6:=by
 obtain⟨q1,hp,q2,q3,q4,hlen⟩:=ins_of h.mem hk hn;obtain⟨ds,d1,d2,d3⟩:=h.dum;have hnod:SetTable.has t.dummies k=false:=by rw[d2]; exact (ins_of d1 hk fun e=>hD (d3 k e)).1
 have hnop:SetTable.has t.place k=false:=by rw[h.place]; exact q1
 have f1:t.freeSlot (Int.ofNat k)=some (k,false):=BJ h.mask3 hk hnop hnod;rw[<-h.place] at hp q2;have hf:=h.fill;have h6:=(mem_b4 h.mem).1;have hfl:({ t with place:=(ins l k).toArray,dummies:=t.dummies }:SetTable).fill=t.fill+1:=by
  simp only[SetTable.fill,h.size,List.size_toArray,hlen];omega
 have hfit:({ t with place:=(ins l k).toArray,dummies:=t.dummies }:SetTable).fits (l.length+1)=true:=by
  simp only[SetTable.fits,hfl,Bool.and_eq_true,beq_iff_eq,decide_eq_true_eq,List.size_toArray,hlen];refine⟨trivial,?_⟩;rcases h.mask with ⟨e,q⟩ | e | e <;> omega
 have hes:(SetTable.insertAt es (SetTable.below t.place k) (Int.ofNat k,x)).size=l.length+1:=by
  rw[<-Array.length_toList,(SetTable.insertAt_perm _ _ _).length_eq,Array.toList_push,List.length_append,Array.length_toList,hY h1];rfl
 refine⟨SetTable.insertAt es (SetTable.below t.place k) (Int.ofNat k,x),{ t with place:=(ins l k).toArray },?_,?_,fun e he=>?_,rfl,rfl,rfl,h.led,h.plain,hfl,q4⟩
 ·unfold layNew;rw[f1];dsimp only[SetTable.put];rw[hnod,hp];simp only[Bool.false_eq_true,if_false];rw[hes];simp only[SetTable.orStandIn,hfit,if_true,Bool.not_true]
 ·rw[SetTable.toList_insertAt,q2,List.map_append,List.map_cons,List.map_take,List.map_drop,h1,<-List.map_take,<-List.map_drop,<-q3];simp
 ·have:=(SetTable.insertAt_perm es (SetTable.below t.place k) (Int.ofNat k,x)).mem_iff.mp he;rw[Array.toList_push,List.mem_append,List.mem_singleton] at this;exact this
theorem xJ {m f mv:Nat}{ld pl:Bool}{l:List Nat}{es:Array (Int×Value)}(q:b2 m l=true)(h1:es.toList.map (·.1)=l.map Int.ofNat):SetTable.laid m f mv ld pl (es.map (·.1))=some (⟨m,l.toArray,#[],f,ld,mv,pl⟩,(List.range l.length).toArray):=by
 simp only[b2,beq_iff_eq] at q;obtain⟨owner,o1,o2⟩:=cW q;have hh:es.map (·.1)=hs l:=by
  apply Array.toList_inj.mp;rw[Array.toList_map,h1];rfl
 have hzip:(l.zip (List.range l.length)).map (·.1)=l:=by rw[List.map_fst_zip]; simp
 have hzip2:(l.zip (List.range l.length)).map (·.2)=List.range l.length:=by rw[List.map_snd_zip]; simp
 unfold SetTable.laid;rw[hh];show (SetTable.layClean m (hs l)).bind _=_;rw[o1];show some _=some _;rw[show (List.range (m+1)).filterMap (fun j=>(owner.getD j none).map (j,·))=l.zip (List.range l.length) from o2,hzip,hzip2]
theorem FC {l:List Nat}{es:Array (Int×Value)}(hz:es.size=l.length):(List.range l.length).toArray.filterMap (es[·]?)=es:=by
 apply Array.toList_inj.mp;rw[Array.toList_filterMap];show (List.range l.length).filterMap (fun i=>es[i]?)=es.toList;rw[<-hz];exact filterMap_getElem?_range es
theorem Bu {b:Bool}{l D:List Nat}{t:SetTable}{es:Array (Int×Value)}(hm:l∈subs 6)(h1:es.toList.map (·.1)=l.map Int.ofNat)(hl:t.led=b)(hp:t.plain=true) :
  ∃t',relayAll t es (SetTable.grown es.size)=(es,t',false)/\TG b l D t':=by
 have q:=dF yr l hm;simp only[tQ,Bool.and_eq_true,Bool.or_eq_true,beq_iff_eq] at q;obtain⟨⟨⟨q1,_⟩,_⟩,q4⟩:=q;have hz:es.size=l.length:=hY h1;have h6:=(mem_b4 hm).1;have TT:TG b l D ⟨gm l,l.toArray,#[],t.finger,t.led,t.movedTo (gm l),t.plain⟩:=by
  refine⟨hm,rfl,⟨[],by decide +kernel,rfl,fun x hx=>by cases hx⟩,?_,hl,hp⟩;rcases q4 with (⟨q4,q5⟩ | q4) | q4
  ·exact .inl ⟨q4,by simpa[SetTable.fill] using Nat.le_of_ble_eq_true q5⟩
  ·exact .inr (.inl q4)
  ·exact .inr (.inr q4)
 refine⟨_,?_,TT⟩;have hr:t.relaid (es.map (·.1)) (SetTable.grown es.size)=some (⟨gm l,l.toArray,#[],t.finger,t.led,t.movedTo (gm l),t.plain⟩,(List.range l.length).toArray):=by
  unfold SetTable.relaid;rw[hz];exact xJ q1 h1
 have hcov:coversAll (List.range l.length).toArray es.size=true:=by
  unfold coversAll;rw[hz];exact List.isPerm_iff.mpr (List.Perm.refl _)
 unfold relayAll;rw[hr];dsimp only;rw[FC hz,hcov,TT.fits hz];rfl
section
variable {prog:Program}{w:World}{A:Around}{E:Value->Shared->Prop}{s:Shared}
theorem SG.store {b:Bool}{h:Heap}{a:Addr}{es es':Array (Int×Value)}{ep:Nat}{t t':SetTable}{l D:List Nat}(ho:h.get? a=some { cls:=.type "set",dict:=none,data:=.set es ep t })(h1:es'.toList.map (·.1)=l.map Int.ofNat)(h2:∀e∈es'.toList,∃tk,e.2=.int e.1 tk)(ht:TG b l D t') :
  (h.update a (Obj.putSet es' t')).get? a=some { cls:=.type "set",dict:=none,data:=.set es' (ep+1) t' }/\SG b (h.update a (Obj.putSet es' t')) a l D:=by
 have e:=Heap.get?_update_self (Obj.putSet es' t') ho rfl;exact⟨e,es',ep+1,t',e,h1,h2,ht⟩
theorem small_line (h:n<=6):n<=sizeLine:=bK h (by decide)
theorem AW {a:Addr}{l D:List Nat}{b:Bool}{k:Nat}{tk:Tok}{Q:Bool->Shared->Prop}(hS:SG b s.heap a l D)(hk:k<6)(hD:k∉D)
  (h:∀h' r,Heap.SameBut a s.heap h'->SG b h' a (if k∈l then l else ins l k) D->Q r { s with heap:=h' }) :
  wpAny (model prog w) A (setAddHashed a (.int (Int.ofNat k) tk) ((intKind prog w).hash (Int.ofNat k))) Q E s:=by
 obtain⟨es,ep,t,ho,h1,h2,ht⟩:=hS;have hel:ElemsOf (intKind prog w) es.toList:=l9 ht.mem h1 h2;have hz:=hY h1;have h6:=(mem_b4 ht.mem).1;have hf:t.fits es.size=true:=ht.fits hz;have hb:es.size<scanBound:=by unfold scanBound; omega
 have hkey:(intKind prog w).is (Int.ofNat k) (.int (Int.ofNat k) tk)=true:=intKind_is _ _ _ _;unfold setAddHashed setAddHashedIn;refine wpAny_holding (ai (wpAny_setState_of ho rfl hf ?_));dsimp only;rw[byScan_of (knd:=intKind prog w) rfl hb hel];simp only[↓reduceIte];unfold setAddByScan;refine ai ?_;refine ai (wpAny_rule ?_);refine ai (wpAny_setScan_of (knd:=intKind prog w) hkey ho rfl hf hel ?_);have hin:∀e∈es.toList,(intKind prog w).is (Int.ofNat k) e.2=true->k∈l:=by
  intro e he hi;obtain⟨tk',et⟩:=h2 e he;obtain⟨t2,e2⟩:=Value.isInt_shape (show Value.isInt (Int.ofNat k) e.2=true from hi);rw[et] at e2;injection e2 with e3 _;have:e.1∈l.map Int.ofNat:=by rw[<-h1]; exact List.mem_map_of_mem he
  obtain⟨k',hk',ek⟩:=c9 this;rw[e3] at ek;have:k'=k:=Int.ofNat.inj ek;exact this ▸ hk'
 cases hr:List.findIdx? (fun e=>(intKind prog w).is (Int.ofNat k) e.2) es.toList with
 | some j=>
  dsimp only;obtain⟨hj,hpj,_⟩:=List.findIdx?_eq_some_iff_getElem.mp hr;have hkl:k∈l:=hin _ (List.getElem_mem hj) hpj;refine aG (aG ?_);have e:s={ s with heap:=s.heap }:=by cases s; rfl
  have:=h s.heap false (Heap.SameBut.refl a s.heap) ⟨es,ep,t,ho,by rw[if_pos hkl]; exact h1,h2,by rw[if_pos hkl]; exact ht⟩;rw[e]; exact this
 | none=>
  dsimp only;have hkl:k∉l:=by
   intro hm;have:Int.ofNat k∈es.toList.map (·.1):=by rw[h1]; exact List.mem_map_of_mem hm
   obtain⟨e,he,ee⟩:=c9 this;have:=List.findIdx?_eq_none_iff.mp hr e he;obtain⟨tk',et⟩:=h2 e he;rw[et,ee] at this;have z:(intKind prog w).is (Int.ofNat k) (.int (Int.ofNat k) tk')=true:=intKind_is _ _ _ _;rw[z] at this;cases this
  rw[if_neg hkl] at h;have hh:(intKind prog w).hash (Int.ofNat k)=Int.ofNat k:=wO hk;rw[hh];obtain⟨es',t',hL,e1,e2,m1,m2,m3,m4,m5,m6,m7⟩:=Dk (x:=.int (Int.ofNat k) tk) ht h1 hk hkl hD;rw[hL];dsimp only;have e2':∀e∈es'.toList,∃tk,e.2=.int e.1 tk:=fun e he=>by
   rcases e2 e he with q | q
   ·exact h2 e q
   ·rw[q]; exact⟨tk,rfl⟩
  have hz':=hY e1;have h6':=(mem_b4 m7).1;refine ai ?_;refine aG ?_;rw[m5];simp only[if_true];refine ai ?_;rw[hashByValue_scannable 8 (x:=.int (Int.ofNat k) tk) rfl];refine aG ?_;simp only[plainKind,if_true,Bool.not_false,Bool.true_and];refine ai (wpAny_storeSet_of ho rfl ?_ (small_line (by rw[hz']; exact h6')));by_cases hfull:t'.tooFull=true
  ·rw[if_pos hfull];obtain⟨t2,r1,r2⟩:=Bu (b:=b) (D:=D) m7 e1 m4 m5;rw[r1];dsimp only;have hx:=Heap.get?_update_self (Obj.putSet es' t') ho rfl;refine ai ?_;refine aG ?_;refine ai (wpAny_storeSet_of (o:={ cls:=.type "set",dict:=none,data:=.set es' (ep+1) t' }) hx rfl ?_ (small_line (by rw[hz']; exact h6')));refine aG (aG (h _ true ((Heap.SameBut.update s.heap a _).trans (Heap.SameBut.update _ a _)) (SG.store hx e1 e2' r2).2))
  ·rw[if_neg hfull];have hm':t'.mask=7/\t'.fill<=4\/t'.mask=15\/t'.mask=31:=by
    rcases ht.mask with ⟨q,q2⟩ | q
    ·refine .inl ⟨m1.trans q,?_⟩;simp only[SetTable.tooFull,m1,q,decide_eq_true_eq,ge_iff_le] at hfull;omega
    ·exact .inr (by rw[m1]; exact q)
   refine aG (aG (h _ true (Heap.SameBut.update s.heap a _) (SG.store ho e1 e2' ⟨m7,m2,by rw[m3]; exact ht.dum,hm',m4,m5⟩).2))
end
end St
end
section
namespace St
open PySem PyProof.Rows PySem.W
theorem EZ:entryFor table "set.__iter__" = some Builtin.«frozenset.__iter__»:=
 entryFor_alias (id' := "frozenset.__iter__") (by kernel_rfl) rfl (by decide +kernel) (by kernel_rfl)
theorem lc:Slot "set_iterator" "__next__" "set_iterator.__next__" :=
 .of (owner := "set_iterator") (n := "__next__") (by rw[typeLookup_type,builtinLookup_eq_fast]; kernel_rfl) (by decide +kernel) (by decide +kernel) (by decide +kernel)
  (by first | exact .inl (by decide +kernel) | exact .inr (by decide +kernel)) (by rw[isSubtype_type]; kernel_rfl)
theorem w6:entryFor table "set_iterator.__next__" = some Builtin.«set_iterator.__next__»:=entryFor_of_tree (by kernel_rfl)
theorem uH:Manifest.owners.lookup (String.ofList ['r','o','t','a','r','e','t','i','_','t','e','s'].reverse)=some Manifest.sig_set_iterator:=by kernel_rfl
theorem t9 (a:Value):argsOk "set_iterator.__next__" ⟨[a],[]⟩:=by
 unfold argsOk; rw[signature?_of (id := "set_iterator.__next__") (n:=['_','_','t','x','e','n','_','_']) (o:=['r','o','t','a','r','e','t','i','_','t','e','s']) (by kernel_rfl) uH]; kernel_rfl
theorem uK:Slot "set_iterator" "__iter__" "set_iterator.__iter__" :=
 .of (owner := "set_iterator") (n := "__iter__") (by rw[typeLookup_type,builtinLookup_eq_fast]; kernel_rfl) (by decide +kernel) (by decide +kernel) (by decide +kernel)
  (by first | exact .inl (by decide +kernel) | exact .inr (by decide +kernel)) (by rw[isSubtype_type]; kernel_rfl)
theorem yK:typeLookup (.type "set") "__len__" = pure (some (.builtin "set.__len__")):=by rw[typeLookup_type,builtinLookup_eq_fast]; kernel_rfl
section
variable {prog:Program}{w:World}{A:Around}{E:Value->Shared->Prop}{s:Shared}{r:Addr}
theorem BM (hT:s.TypeIs (.ref r) "set")(h:Q false s):wpAny (model prog w) A (Builtin.List.listLengthHint (.ref r)) Q E s:=by
 unfold Builtin.List.listLengthHint;refine ai (wpAny_specialOf hT yK ?_);generalize hid:("set.__len__" : String)=id0;wp_delta
 rw[show splitId id0=some ("set", "__len__") from by subst hid; decide +kernel];subst hid;refine ai (wpAny_isInstance (T := "set") (b:=true) hT (by rw[isSubtype_type]; kernel_rfl) ?_);refine wpAny_ite_split (fun hab=>absurd hab (by decide)) (fun _=>?_);refine wpAny_ite_split (fun _=>?_) (fun hab=>absurd (by decide +kernel) hab);refine ai (wpAny_typeOf hT ?_);exact aG h
theorem qG (h:Q (w.params.followText "set-order") s):wpAny (model prog w) A setsByText Q E s:=by
 unfold setsByText;refine ai (wpAny_askSetting ?_);exact aG h
theorem D8 (ho:s.heap.get? a=some { cls:=.type "set",dict:=none,data:=.set es ep t })(hf:t.fits es.size=true)(hp:t.plain=true)(h:Q false s) :
  wpAny (model prog w) A (setDrawn a) Q E s:=by
 unfold setDrawn;refine ai (wpAny_setState_of ho rfl hf ?_);dsimp only;refine ai (qG ?_);refine aG ?_;show Q (!w.params.followText "set-order" && (!t.plain&&decide (es.size > 1))) s;rw[hp,Bool.not_true,Bool.false_and,Bool.and_false];exact h
end
noncomputable abbrev kP (slot i:Nat)(a:Addr)(n ep:Nat):Obj:={ cls:=.type "set_iterator",data:=.fields #[.int slot 0,.int i 0,.ref a,.int n 0,.int ep 0] }
section
variable {prog:Program}{w:World}{A:Around}{E:Value->Shared->Prop}{s:Shared}{a:Addr}{es:Array (Int×Value)}{ep:Nat}{t:SetTable}
theorem An (ho:s.heap.get? a=some { cls:=.type "set",dict:=none,data:=.set es ep t })(hf:t.fits es.size=true)(hp:t.plain=true)
  (hQ:Q (.ref s.heap.objs.size) { s with heap:=s.heap.push (kP 0 0 a es.size ep) }):wpAny (model prog w) A (pyIter (.ref a)) Q E s:=by
 have hT:s.TypeIs (.ref a) "set":=⟨_,ho,rfl⟩
 refine wpAny_pyIter_slot hT F.slot_set_iter (wpAny_call_entry F.slot_set_iter hT EZ ?_ (F.args_set_iter_1 _));unfold Builtin.«frozenset.__iter__» Builtin.Frozenset.slot0 slotArgs;simp only[List.isEmpty_nil,Bool.not_true,Bool.false_eq_true,↓reduceIte,bind_assoc,List.length_nil,bne_self_eq_false];unfold Builtin.Frozenset.addrOf Builtin.Frozenset.sizeOf;refine ai (aG ?_);try dsimp only
 refine ai (aG ?_);refine ai (ai (wpAny_setEntries_of ho rfl hf (aG ?_)));refine ai (D8 ho hf hp ?_);simp only[Bool.false_eq_true,if_false];refine ai (aG ?_);refine ai (wpAny_setEpoch_of ho rfl hf ?_);unfold newFields;refine ai (wpAny_newObj_type (aG ⟨_,rfl, "set_iterator",_,⟨_,da _ rfl,rfl⟩,lc.lookup,?_⟩));exact hQ
noncomputable def ord (w:World)(a:Addr)(ep:Nat)(es:Array (Int×Value)):Array (Int×Value):=if w.params.followText "set-order" then pickOrder (w.params.setOrder a ep) es else es
noncomputable def nextOf (w:World)(a:Addr)(ep:Nat)(es:Array (Int×Value))(t:SetTable)(slot i:Nat):Option (Value×Nat):=
 if w.params.followText "set-order" then ((ord w a ep es)[i]?).map fun e=>(e.2,slot) else match es[SetTable.below t.place slot]?,t.place[SetTable.below t.place slot]? with
  | some (_,x),some j=>some (x,j+1)
  | _,_=>none
theorem vq (ho:s.heap.get? a=some { cls:=.type "set",dict:=none,data:=.set es ep t })(hf:t.fits es.size=true)(hp:t.plain=true)(hl:t.led = !w.params.followText "set-order")(h:Q (nextOf w a ep es t slot i) s) :
  wpAny (model prog w) A (setNext a slot i ep) Q E s:=by
 unfold setNext;refine ai (wpAny_setState_of ho rfl hf ?_);dsimp only;refine ai (qG ?_);unfold nextOf ord at h;cases hb:w.params.followText "set-order" with
 | true=>
  rw[hb] at h;simp only[if_true,bne_self_eq_false,Bool.false_eq_true,if_false] at h ⊢;refine ai ?_;unfold setWalk;refine ai (wpAny_setState_of ho rfl hf ?_);dsimp only;refine ai (qG ?_);rw[hb];simp only[if_true];refine ai (wpAny_askSetting ?_);exact aG (aG h)
 | false=>
  rw[hb] at h hl;simp only[Bool.false_eq_true,if_false] at h ⊢;refine wpAny_ite_split (fun hab=>absurd (show (!t.plain&&decide (es.size > 1))=true from hab) (by rw[hp]; simp)) (fun _=>?_);refine ai ?_;refine wpAny_ite_split (fun hab=>absurd (show (!t.led&&!es.isEmpty)=true from hab) (by rw[hl]; simp)) (fun _=>?_);exact aG (aG h)
end
theorem vm:∀{l:List α} {i:Nat} (h:i<l.length),List.Perm (l[i]::l.eraseIdx i) l
 | x::l,0,_=>List.Perm.refl _
 | x::l,i+1,h=>by
  have:=vm (l:=l) (i:=i) (Nat.lt_of_succ_lt_succ h);rw[List.eraseIdx_cons_succ,List.getElem_cons_succ];exact (List.Perm.swap x _ _).trans (this.cons x)
theorem tN (next:Nat->Nat):∀(fuel k:Nat) (left:List α) (out:Array α),fuel=left.length->List.Perm (pickOrder.go next fuel k left out).toList (out.toList++left)
 | 0,k,left,out,h=>by
  have:left=[]:=List.length_eq_zero_iff.mp h.symm;subst this;simp[pickOrder.go]
 | fuel+1,k,left,out,h=>by
  unfold pickOrder.go;have hl:next k % left.length<left.length:=Nat.mod_lt _ (by omega);rw[List.getElem?_eq_getElem hl];dsimp only;refine (tN next fuel (k+1) _ _ ?_).trans ?_
  ·rw[List.length_eraseIdx,if_pos hl]; omega
  ·rw[Array.toList_push,List.append_assoc];refine List.Perm.append_left _ ?_;exact vm hl
theorem A7 (next:Nat->Nat)(xs:Array α):List.Perm (pickOrder next xs).toList xs.toList:=by
 have:=tN next xs.size 0 xs.toList #[] (by simp);simpa[pickOrder] using this
theorem qU (w:World)(a:Addr)(ep:Nat)(es:Array (Int×Value)):List.Perm (ord w a ep es).toList es.toList:=by
 unfold ord;split
 ·exact A7 _ _
 ·exact List.Perm.refl _
theorem qO (w:World)(a:Addr)(ep:Nat)(es:Array (Int×Value)):(ord w a ep es).size=es.size:=by
 rw[<-Array.length_toList,(qU w a ep es).length_eq,Array.length_toList]
noncomputable def slotAt (w:World)(l:List Nat)(i:Nat):Nat:=if w.params.followText "set-order" then 0 else if i=0 then 0 else l.getD (i - 1) 0+1
section
variable {prog:Program}{w:World}{A:Around}{E:Value->Shared->Prop}{s:Shared}{a I:Addr}{es:Array (Int×Value)}{ep:Nat}{t:SetTable}{b:Bool}{l D:List Nat}
theorem DF (ht:TG b l D t)(h1:es.toList.map (·.1)=l.map Int.ofNat)(hi:i<es.size):∃e,(ord w a ep es)[i]? = some e/\nextOf w a ep es t (slotAt w l i) i=some (e.2,slotAt w l (i+1)):=by
 have hz:=hY h1;have ho:i<(ord w a ep es).size:=by rw[qO]; exact hi
 refine⟨(ord w a ep es)[i],by simp[ho],?_⟩;unfold nextOf slotAt;by_cases hb:w.params.followText "set-order" = true
 ·simp only[hb,if_true];rw[Array.getElem?_eq_getElem ho];rfl
 ·have q:=dF uh l ht.mem;simp only[b3,List.all_eq_true,beq_iff_eq,List.mem_range] at q;have q1:=q i (by omega);have hbel:SetTable.below t.place (if i=0 then 0 else l.getD (i - 1) 0+1)=i:=by rw[ht.place]; exact q1
  have hil:i<l.length:=by omega
  have hb':w.params.followText "set-order" = false:=by simpa using hb
  simp only[hb',Bool.false_eq_true,if_false,hbel];have e1:es[i]? = some es[i]:=by simp[hi]
  have e2:t.place[i]? = some (l[i]'hil):=by rw[ht.place]; simp[hil]
  have e3:(ord w a ep es)=es:=by unfold ord; rw[if_neg hb]
  rw[e1,e2];simp only[e3,Nat.add_eq_zero_iff,Nat.succ_ne_self,and_false,if_false,Nat.add_sub_cancel,Nat.reduceAdd,Nat.one_ne_zero];simp[hil]
theorem CY (ht:TG b l D t)(h1:es.toList.map (·.1)=l.map Int.ofNat):nextOf w a ep es t (slotAt w l es.size) es.size=none:=by
 have hz:=hY h1;unfold nextOf slotAt;by_cases hb:w.params.followText "set-order" = true
 ·simp only[hb,if_true];rw[Array.getElem?_eq_none (by rw[qO]; exact bb _)];rfl
 ·have q:=dF uh l ht.mem;simp only[b3,List.all_eq_true,beq_iff_eq,List.mem_range] at q;have q1:=q es.size (by omega);have hbel:SetTable.below t.place (if es.size=0 then 0 else l.getD (es.size - 1) 0+1)=es.size:=by rw[ht.place]; exact q1
  have hb':w.params.followText "set-order" = false:=by simpa using hb
  simp only[hb',Bool.false_eq_true,if_false,hbel];have e1:es[es.size]? = none:=by simp
  rw[e1]
theorem Ch (hI:s.heap.get? I=some (kP slot i a es.size ep))(ho:s.heap.get? a=some { cls:=.type "set",dict:=none,data:=.set es ep t })(hf:t.fits es.size=true)(hp:t.plain=true)(hl:t.led = !w.params.followText "set-order")(hn:nextOf w a ep es t slot i=some (x,nx))
  (hQ:∀h',h'.get? I=some (kP nx (i+1) a es.size ep)->Heap.SameBut I s.heap h'->Q (some x) { s with heap:=h' }):wpAny (model prog w) A (pyNext (.ref I)) Q E s:=by
 have hT:s.TypeIs (.ref I) "set_iterator":=⟨_,hI,rfl⟩
 unfold pyNext;refine ai (wpAny_attempt (wpAny_callSpecial?_slot (name:=Str.ofString "__next__") hT lc (wpAny_call_entry lc hT w6 ?_ (t9 _))));unfold Builtin.«set_iterator.__next__» slotArgs;simp only[List.isEmpty_nil,Bool.not_true,Bool.false_eq_true,↓reduceIte,bind_assoc,List.length_nil,bne_self_eq_false];refine ai (aG ?_);refine ai (wpAny_fieldsOf hI rfl ?_);dsimp only;refine ai (wpAny_setEntries_of ho rfl hf ?_);refine wpAny_ite_split (fun hab=>absurd hab (by simp)) (fun _=>?_);simp only[Int.toNat_natCast];refine ai (vq ho hf hp hl ?_);rw[hn];dsimp only;refine ai (wpAny_setField_rec hI (by simp) fun h1 g1 s1=>?_);refine ai (wpAny_setField_rec (s:={ s with heap:=h1 }) g1 (by simp) fun h2 g2 s2=>?_);exact aG ⟨_,rfl,aG (hQ h2 g2 (s1.trans s2))⟩
theorem F9 (hh:A.handled=none)(hI:s.heap.get? I=some (kP slot i a es.size ep))(ho:s.heap.get? a=some { cls:=.type "set",dict:=none,data:=.set es ep t })(hf:t.fits es.size=true)(hp:t.plain=true)(hl:t.led = !w.params.followText "set-order")(hn:nextOf w a ep es t slot i=none)
  (hQ:∀h',Heap.ExtBut I s.heap h'->Q none { s with heap:=h' }):wpAny (model prog w) A (pyNext (.ref I)) Q E s:=by
 have hT:s.TypeIs (.ref I) "set_iterator":=⟨_,hI,rfl⟩
 unfold pyNext;refine ai (wpAny_attempt (wpAny_callSpecial?_slot (name:=Str.ofString "__next__") hT lc (wpAny_call_entry lc hT w6 ?_ (t9 _))));unfold Builtin.«set_iterator.__next__» slotArgs;simp only[List.isEmpty_nil,Bool.not_true,Bool.false_eq_true,↓reduceIte,bind_assoc,List.length_nil,bne_self_eq_false];refine ai (aG ?_);refine ai (wpAny_fieldsOf hI rfl ?_);dsimp only;refine ai (wpAny_setEntries_of ho rfl hf ?_);refine wpAny_ite_split (fun hab=>absurd hab (by simp)) (fun _=>?_);simp only[Int.toNat_natCast];refine ai (vq ho hf hp hl ?_);rw[hn];dsimp only;refine ai (wpAny_setField hI rfl (by simp) ?_);show wpAny _ _ (newExc (.type "StopIteration") [] >>= _) _ _ _;refine ai ?_;simp only[newExc,newTuple];refine ai (wpAny_newObj_type ?_ (by size_fits));refine ai (m:=firstArgMember _ _) (wpAny_of_eq (a:=Value.none) (by first | rfl | (simp only[firstArgMember]; rfl)) ?_);refine wpAny_newObj_type ?_ (by size_fits);simp only[raiseNew];refine ai (wpAny_handled ?_);rw[show A.in1.handled=none from hh];refine ai (aG (wpAny_throw ?_));refine ai (wpAny_isInstance (T := "StopIteration") (b:=true) ⟨_,da _ rfl,rfl⟩ isSubtype_stop ?_);exact aG (hQ _ (((Heap.SameBut.update ..).extBut.push _).push _))
end
theorem B3:entryFor table "set_iterator.__iter__" = some Builtin.«dict_keyiterator.__iter__»:=
 entryFor_alias (id' := "dict_keyiterator.__iter__") (by kernel_rfl) rfl (by decide +kernel) (by kernel_rfl)
theorem DK (a:Value):argsOk "set_iterator.__iter__" ⟨[a],[]⟩:=by
 unfold argsOk; rw[signature?_of (id := "set_iterator.__iter__") (n:=['_','_','r','e','t','i','_','_']) (o:=['r','o','t','a','r','e','t','i','_','t','e','s']) (by kernel_rfl) uH]; kernel_rfl
noncomputable abbrev mK (es:Array (Int×Value))(ep:Nat)(t:SetTable):Obj:={ cls:=.type "set",dict:=none,data:=.set es ep t }
section
variable {prog:Program}{w:World}{A:Around}{E:Value->Shared->Prop}{s:Shared}{a I:Addr}{es:Array (Int×Value)}{ep:Nat}{t:SetTable}{l D:List Nat}
theorem DG (w:World)(l:List Nat):slotAt w l 0=0:=by unfold slotAt; split <;> rfl
theorem EX (hh:A.handled=none)(hne:a≠I)(ht:TG (!w.params.followText "set-order") l D t)(h1:es.toList.map (·.1)=l.map Int.ofNat) :
  Walks prog w A I [I,a] [I] es.size (fun i v=>∃e,(ord w a ep es)[i]? = some e/\v=e.2) (fun i h=>h.get? I=some (kP (slotAt w l i) i a es.size ep)/\h.get? a=some (mK es ep t)) where
 sub:=fun b hb=>by simp at hb; simp[hb]
 frame:=fun _ _ _ st hk=>⟨hk I (by simp) _ st.1,hk a (by simp) _ st.2⟩
 item:=fun i s Q E hi st hQ=>by
  obtain⟨e,e1,e2⟩:=DF (w:=w) (a:=a) (ep:=ep) ht h1 hi;refine Ch st.1 st.2 (ht.fits (hY h1)) ht.plain ht.led e2 fun h' g sb=>?_;exact hQ _ h' s.toks ⟨e,e1,rfl⟩ ⟨g,sb.extBut _ _ hne st.2⟩ fun b o hb q=>sb.extBut b o (fun z=>hb (by simp[z])) q
 done:=fun s Q E st hQ=>F9 hh st.1 st.2 (ht.fits (hY h1)) ht.plain ht.led (CY ht h1) fun h' he=>hQ h' s.toks fun b o hb q=>he b o (fun z=>hb (by simp[z])) q
 self:=fun i s Q E st hQ=>by
  have hT:s.TypeIs (.ref I) "set_iterator":=⟨_,st.1,rfl⟩
  refine wpAny_pyIter_slot hT uK (wpAny_call_entry uK hT B3 ?_ (DK _));show wpAny _ _ (ret (.ref I)) _ _ s;exact aG ⟨_,rfl, "set_iterator",_,hT,lc.lookup,hQ⟩
theorem ER (ht:TG (!w.params.followText "set-order") l D t)(h1:es.toList.map (·.1)=l.map Int.ofNat):KdlSrc prog w "set" a a es.size (fun i v=>∃e,(ord w a ep es)[i]? = some e/\v=e.2) (fun h=>h.get? a=some (mK es ep t)) where
 type:=fun _ hm=>⟨_,hm,rfl⟩
 there:=fun _ hm=>⟨bw hm,bw hm⟩
 keep:=fun _ _ hm hk=>hk a (.inl rfl) _ hm
 notList:=by decide
 notTuple:=by decide
 hint:=fun _ _ _ _ hm hq=>BM ⟨_,hm,rfl⟩ hq
 iter:=fun A s hh hm=>⟨kP 0 0 a es.size ep,_,(fun _ _ hq=>An hm (ht.fits (hY h1)) ht.plain hq),EX hh (cQ (bw hm)) ht h1,⟨by rw[DG]; exact da _ rfl,bI _ hm⟩⟩
theorem za (K:KdlSrc prog w T r d n P OK)(hh:A.handled=none)(hok:OK s.heap)(hn:n<=sizeLine)
  (hQ:∀h' tk acc,(∀b o,s.heap.get? b=some o->h'.get? b=some o)->ItemsOf P acc n->Q acc.toList { s with heap:=h',toks:=tk }):wpAny (model prog w) A (collect (.ref r)) Q E s:=by
 unfold collect;refine ai (wpAny_runValue (codeAny_builtin F.entry_proto_collect ?_));rw[Around.under_plainId F.plain_proto_collect _];show wpAny _ A.in1 (newList [] >>= fun l=>again (.builtin "list.__iadd__" ⟨[l,.ref r],[]⟩)) _ _ s;refine ai (wpAny_newObj_type ?_);refine aG ⟨plainId_quiet F.plain_list_iadd _,codeAny_builtin F.entry_list_iadd ?_⟩;rw[Around.under_plainId F.plain_list_iadd _];show wpAny _ A.in1 (Builtin.List.listExtendWith (.ref s.heap.objs.size) (.ref r) (.ref s.heap.objs.size)) _ _ _;have hlt:=K.there _ hok;refine kdl_extend (R:=fun r s'=>match r with
   | .ok (.ret v)=>wpAny (model prog w) A (match v with
    | .ref a=>do
     match (<-load a).data with
     | .seq xs _=>pure xs.toList
     | _=>unsupported "internal:collect"
    | _=>unsupported "internal:collect") Q E s'
   | .ok _=>False
   | .error e=>E e s') (s:={ s with heap:=s.heap.push { cls:=.type "list",data:=.seq ([]:List Value).toArray } }) K hh (K.keep _ _ hok fun b _ o e=>bI _ e) s.heap.objs.size (Nat.ne_of_gt hlt.1) (Nat.ne_of_gt hlt.2) (.ref s.heap.objs.size) 0 (da _ rfl) (fun h' tk acc' c' hk hS' hacc=>?_) hn
 show wpAny _ A (load s.heap.objs.size >>= _) _ _ _;refine ai (wpAny_load hS' ?_);exact aG (hQ h' tk acc' (fun b o e=>hk b o (cQ (bw e)) (bI _ e)) hacc)
theorem sorted_set (hh:A.handled=none)(hS:SG (!w.params.followText "set-order") s.heap a l D)
  (h:∀h' tk L (vs:List Value) n,(∀b o,s.heap.get? b=some o->h'.get? b=some o)->a<L->h'.get? L=some { cls:=.type "list",data:=.seq vs.toArray n }->IntsAre vs (l.map Int.ofNat)->Q (.ref L) { s with heap:=h',toks:=tk }) :
  wpAny (model prog w) A (call (.builtin "sorted") [.ref a]) Q E s:=by
 obtain⟨es,ep,t,ho,h1,h2,ht⟩:=hS;have hz:=hY h1;have h6:=(mem_b4 ht.mem).1;refine Calls.call_function_entry kind_sorted plain_sorted entry_sorted (args_sorted1 _) ?_;unfold Builtin.«sorted»;refine ai (m:=checkCount "sorted" 1 1 _) (aG ?_);refine ai (za (ER (prog:=prog) (a:=a) (ep:=ep) ht h1) hh ho (small_line (by omega)) fun h' tk acc hk hacc=>?_);refine ai (wpAny_newList ?_ (hsz:=by rw[Array.length_toList,hacc.1]; exact small_line (by omega)));have hvs:acc.toList=(ord w a ep es).toList.map (·.2):=by
  apply List.ext_getElem?;intro j;rw[List.getElem?_map,Array.getElem?_toList,Array.getElem?_toList];by_cases hj:j<acc.size
  ·obtain⟨e,e1,e2⟩:=hacc.2 j acc[j] (by simp[hj]);rw[e1,Array.getElem?_eq_getElem hj,e2];rfl
  ·have hsz:(ord w a ep es).size<=j:=by rw[qO,<-hacc.1]; omega
   rw[Array.getElem?_eq_none (by omega),Array.getElem?_eq_none hsz];rfl
 have hints:IntsAre acc.toList ((ord w a ep es).toList.map (·.1)):=by
  rw[hvs];have:∀(m:List (Int×Value)),(∀e∈m,∃tk,e.2=.int e.1 tk)->IntsAre (m.map (·.2)) (m.map (·.1)):=by
   intro m;induction m with
   | nil=>intro _; exact IntsAre.nil
   | cons e m ih=>
    intro hm;obtain⟨tk,et⟩:=hm e bM;rw[List.map_cons,List.map_cons,et];exact IntsAre.cons _ _ (ih fun x hx=>hm x (bD _ hx))
  exact this _ fun e he=>h2 e ((qU w a ep es).mem_iff.mp he)
 have hoL:(h'.push (seqObj "list" acc.toList.toArray 0)).get? h'.objs.size=some (seqObj "list" acc.toList.toArray 0):=da _ rfl;have hlen:acc.toList.length<64:=by rw[Array.length_toList,hacc.1]; omega
 refine ai (wpAny_holding (wpAny_call_entry slot_list_sort ⟨_,hoL,rfl⟩ entry_list_sort (list_sort_tree hoL hints hlen fun out ns' a1 a2 a3=>⟨_,rfl,?_⟩) (args_list_sort _)));have hns:ns'=l.map Int.ofNat:=by
  have p:ns'.Perm (l.map Int.ofNat):=by
   rw[<-h1];exact a2.trans ((qU w a ep es).map _)
  refine ksm_same p a3 ?_;rw[List.pairwise_map];exact (mem_b4 ht.mem).2.2.imp fun h=>Int.ofNat_le.mpr (Nat.le_of_lt h)
 subst hns;obtain⟨e,ge⟩:=sortedHeap_at (out:=out) hoL;refine aG ⟨_,rfl,h _ _ h'.objs.size out.toList e (fun b o q=>?_) ?_ ?_ a1⟩
 ·have hb:b<h'.objs.size:=bw (hk b o q);rw[sortedHeap_old (Nat.ne_of_lt hb) (by rw[Heap.size_push]; exact Nat.lt_succ_of_lt hb)];exact bI _ (hk b o q)
 ·exact bw (hk a _ ho)
 ·simpa using ge
end
noncomputable def stp (l:List Nat)(k:Nat):List Nat:=if k∈l then l else ins l k
noncomputable def acc (val:Nat->Nat)(i:Nat):List Nat:=((List.range i).map val).foldl stp []
theorem DD (val:Nat->Nat)(i:Nat):acc val (i+1)=stp (acc val i) (val i):=by
 unfold acc;rw[List.range_succ,List.map_append,List.foldl_append];rfl
section
variable {prog:Program}{w:World}{A:Around}{R:Result->Shared->Prop}{I:Addr}{fp wr:List Addr}{G:Array GenState->Array GenState->Prop}{n:Nat}{P:Nat->Value->Prop}{St:Nat->Shared->Prop}
theorem SG.at (x:SG b h a l D)(e:∀o,h.get? a=some o->h'.get? a=some o):SG b h' a l D:=by
 obtain⟨es,ep,t,ho,r⟩:=x;exact⟨es,ep,t,e _ ho,r⟩
theorem Gr (b:Bool)(W:WalksS prog w A.in1 I fp wr G n P St)(S:Addr)(hSf:S∉fp)(val:Nat->Nat)(hval:∀i v,P i v->val i<6/\∃t,v=.int (Int.ofNat (val i)) t) :
  ∀(k i:Nat) (s:Shared),n - i=k->i<=n->St i s->SG b s.heap S (acc val i) [] ->
   (∀s',Moved (S::wr) G s s'->SG b s'.heap S (acc val n) []->R (.ok (.ret .none)) s') ->
   codeAny (model prog w) A (.builtin "set.update.loop" ⟨[.ref S,.ref I],[]⟩) R s:=by
 have hSw:S∉wr:=fun h=>hSf (W.sub _ h);have hsub:∀b∈wr,b∈S::wr:=fun b hb=>bD _ hb;intro k;induction k with
 | zero=>
  intro i s hk hi hst hS hR;have hin:i=n:=by omega
  subst hin;refine codeAny_builtin F.entry_set_update_loop ?_;rw[Around.under_plainId F.plain_set_update_loop _];show wpAny _ A.in1 (pyNext (.ref I) >>= _) _ _ s;refine ai (W.done s _ _ hst fun s' hm=>?_);show wpAny _ A.in1 (ret Value.none) _ _ s';exact aG (hR s' (hm.mono hsub) (hS.at fun o e=>hm.heap S _ hSw e))
 | succ k ih=>
  intro i s hk hi hst hS hR;have hlt:i<n:=by omega
  refine codeAny_builtin F.entry_set_update_loop ?_;rw[Around.under_plainId F.plain_set_update_loop _];show wpAny _ A.in1 (pyNext (.ref I) >>= _) _ _ s;refine ai (W.item i s _ _ hlt hst fun v s' hP hst' hm=>?_);obtain⟨hv6,t,rfl⟩:=hval i v hP;have hS':SG b s'.heap S (acc val i) []:=hS.at fun o e=>hm.heap S _ hSw e;show wpAny _ A.in1 (holding [Value.int (Int.ofNat (val i)) t] (setAdd S (.int (Int.ofNat (val i)) t)) >>= _) _ _ s';refine ai (wpAny_holding ?_);unfold setAdd;refine wpAny_holding ?_;refine ai ((intKind prog w).pyHash (k:=Int.ofNat (val i)) (intKind_is _ _ _ _) ?_);refine AW (s:={ s' with toks:=s'.toks+1 }) hS' hv6 (fun z=>by cases z) fun h' r hsb hS2=>?_;have hSi:SG b h' S (acc val (i+1)) []:=by rw[DD]; exact hS2
  refine aG ⟨plainId_quiet F.plain_set_update_loop _,ih (i+1) _ (by omega) hlt (W.frame _ s' _ _ hst' (Nat.le_succ _) fun b hb o e=>?_) hSi fun s'' hm'' hS''=>?_⟩
  ·rw[hsb.2 b (fun h:b=S=>hSf (by rw[<-h]; exact hb))]; exact e
  ·refine hR s'' (Moved.trans W.gtrans ((hm.mono hsub).then_heap (Nat.le_succ _) fun b o hb e=>?_) hm'') hS'';rw[hsb.2 b (fun h:b=S=>hb (by rw[h]; exact bM))]; exact e
end
section
variable {prog:Program}{w:World}{A:Around}{E:Value->Shared->Prop}{s:Shared}
theorem yC (a:Value)
  (h:Q₁ (.ref s.heap.objs.size) { s with heap:=s.heap.push { cls:=.type "set",dict:=none,data:=.set #[] 0 (.fresh 0 0 (!w.params.followText "set-order")) } }) :
  codeAny (model prog w) A (.call (.builtin "set.__new__") ⟨[.type "set",a],[]⟩) (wants Q₁ E) s:=by
 refine codeAny_of_tree ?_;show wpAny _ A.in1 (do checkBuiltinCall "set.__new__" ⟨[.type "set",a],[]⟩; again (.builtin "set.__new__" ⟨[.type "set",a],[]⟩)) _ _ s;refine ai (wpAny_of_eq (F.newCall_set_1 a) (aG ⟨plainId_quiet F.plain_set_new _,codeAny_builtin F.entry_set_new ?_⟩));rw[Around.under_plainId F.plain_set_new _];unfold Builtin.«set.__new__» Builtin.Frozenset.newClass;have hsub:=sub_set_self;obtain⟨hp,g,d,tk,os⟩:=s;dsimp only;wp_walk
 refine wpAny_askSetting (aG ?_);dsimp only;simp only[newObj];refine ai (wpAny_alloc (aG ?_));exact aG h
theorem As (b:Bool)(e:h.get? a=some { cls:=.type "set",dict:=none,data:=.set #[] 0 (.fresh 0 0 b) }):SG b h a [] []:=
 ⟨#[],0,_,e,rfl,fun e he=>by simp at he,⟨by decide +kernel,rfl,⟨[],by decide +kernel,rfl,fun x hx=>by cases hx⟩,.inl ⟨rfl,by simp[SetTable.fill,SetTable.fresh]⟩,rfl,rfl⟩⟩
set_option maxHeartbeats 3200000 in
theorem set_list {l:Addr}{items:Array Value}{ns:List Nat}{Q:Value->Shared->Prop}
  (hh:A.handled=none)(hl:s.heap.IsList l items)(hi:IntsAre items.toList (ns.map Int.ofNat))(h6:∀x∈ns,x<6)
  (h:∀(h':Heap) (tk:Nat),SG (!w.params.followText "set-order") h' s.heap.objs.size (ns.foldl stp []) [] ->
   (∀b o,b<s.heap.objs.size->s.heap.get? b=some o->h'.get? b=some o)->Q (.ref s.heap.objs.size) { s with heap:=h',toks:=tk }) :
  wpAny (model prog w) A (call (.type "set") [.ref l]) Q E s:=by
 have hlen:items.size=ns.length:=by have:=IntsAre.length hi; simpa using this
 have hacc:acc (fun i=>ns.getD i 0) items.size=ns.foldl stp []:=by
  unfold acc;have:(List.range items.size).map (fun i=>ns.getD i 0)=ns:=by
   rw[hlen];apply List.ext_getElem?;intro j;by_cases hj:j<ns.length
   ·simp[hj]
   ·simp[Nat.le_of_not_lt hj]
  rw[this]
 obtain⟨c,tl,hmro⟩:=F.called_set.mro;have hmade:=F.called_set.made;have hsub:=F.called_set.sub;refine wpAny_call (codeAny_of_tree ?_);show wpAny _ _ (callAny (.type "set") _) _ _ _;refine aG ⟨Code.quiet_builtin _ (by decide +kernel),codeAny_builtin F.entry_type_call ?_⟩;rw[Around.under_plain (weight_type_call_type "set" [.ref l] []) rfl];have h1:=F.called_set.notType;have h2:=F.called_set.canCreate;have hct:=F.typeCall_set_1 (.ref l);repeat (any_goals (first | assumption | wp_step))
 refine codeAny_mono (yC (.ref l) (E:=E) (Q₁:=fun obj s₁=>obj=.ref s.heap.objs.size/\s₁={ s with heap:=s.heap.push { cls:=.type "set",dict:=none,data:=.set #[] 0 (.fresh 0 0 (!w.params.followText "set-order")) } }) ⟨rfl,rfl⟩) fun r s₁ hr=>?_;cases r with
 | error e=>exact hr
 | ok fl=>
  cases fl with
  | ret obj=>
   obtain⟨rfl,rfl⟩:=hr;generalize hled:(!w.params.followText "set-order")=led at *;have hS:(s.heap.push { cls:=.type "set",dict:=none,data:=.set #[] 0 (.fresh 0 0 led) }).get? s.heap.objs.size=some { cls:=.type "set",dict:=none,data:=.set #[] 0 (.fresh 0 0 led) }:=da _ rfl;have hT:Shared.TypeIs { s with heap:=s.heap.push { cls:=.type "set",dict:=none,data:=.set #[] 0 (.fresh 0 0 led) } } (.ref s.heap.objs.size) "set":=⟨_,hS,rfl⟩
   have hli:=F.called_set.init.lookup;have hbi:=F.called_set.init.bind (.ref s.heap.objs.size);repeat (any_goals (first | assumption | wp_step))
   refine codeAny_mono (codeAny_call_builtin (R:=wants (fun r s₂=>r=.none/\∃h' tk,s₂={ s with heap:=h',toks:=tk }/\SG led h' s.heap.objs.size (ns.foldl stp []) [] /\
     (∀b o,b<s.heap.objs.size->s.heap.get? b=some o->h'.get? b=some o)) E) F.called_set.init.plain F.entry_set_init (check_set_init_1 hT ?_)) fun r₂ s₂ hr₂=>?_
   ·obtain⟨ol,hol,hcl,nl,hdl⟩:=hl;obtain⟨ocls,odict,odata,oslots⟩:=ol;simp only at hcl hdl;subst hcl; subst hdl;have hol':(s.heap.push { cls:=.type "set",dict:=none,data:=.set #[] 0 (.fresh 0 0 led) }).get? l=some { cls:=.type "list",dict:=odict,data:=.seq items nl,slots:=oslots }:=bI _ hol;have hsls:=F.sub_list_set;have hslf:=F.sub_list_frozenset;have hne:(Value.type "list" == Value.type "dict")=false:=by decide
    have hl1:(s.heap.push { cls:=.type "set",dict:=none,data:=.set #[] 0 (.fresh 0 0 led) }).IsList l items:=⟨_,hol',rfl,nl,rfl⟩
    unfold Builtin.«set.__init__» noKeywords Builtin.Frozenset.updateFrom;generalize hPI:pyIter=PI;wp_walk
    subst hPI;refine wpAny_pyIter_list hl1 ?_;refine ai (wpAny_runValue ?_);have hlS:l<s.heap.objs.size:=bw hol;have hh3:A.in1.in1.in1.handled=none:=by simp[hh]
    have hneI:l≠(s.heap.push { cls:=.type "set",dict:=none,data:=.set #[] 0 (.fresh 0 0 led) }).objs.size:=by
     rw[Heap.size_push]; exact cQ (Nat.lt_succ_of_lt hlS)
    have hSf:s.heap.objs.size∉[(s.heap.push { cls:=.type "set",dict:=none,data:=.set #[] 0 (.fresh 0 0 led) }).objs.size,l]:=by
     rw[Heap.size_push]; simp only[List.mem_cons,List.mem_singleton,List.not_mem_nil,or_false,not_or];exact⟨cQ (Nat.lt_succ_self _),Nat.ne_of_gt hlS⟩
    have hval:∀(i:Nat) (v:Value),items[i]? = some v->(fun i=>ns.getD i 0) i<6/\∃t,v=.int (Int.ofNat ((fun i=>ns.getD i 0) i)) t:=fun i v hv=>by
     have hil:i<ns.length:=by
      have:=(Array.getElem?_eq_some_iff.mp hv).1;omega
     obtain⟨t,et⟩:=IntsAre.int_at hi i v (by rw[Array.getElem?_toList]; exact hv);refine⟨?_,t,?_⟩
     ·simp only[List.getD_eq_getElem?_getD,List.getElem?_eq_getElem hil,Option.getD_some];exact h6 _ (List.getElem_mem hil)
     ·rw[et];simp[hil]
    refine Gr led ((Walks.list hh3 _ l hneI items).toS) s.heap.objs.size
     hSf (fun i=>ns.getD i 0) hval (items.size - 0) 0 _ (by omega) (Nat.zero_le _)
     ⟨⟨_,da _ rfl,rfl,rfl⟩,(hl1.push _)⟩ ?hS0 ?hR
    case hS0=>exact As led (bI _ hS)
    case hR=>
     intro s' hm hS';rw[hacc] at hS';obtain⟨h',g',d',tk',os'⟩:=s';have eg:g'=s.gens:=hm.gens;have ed:d'=s.drawn:=hm.drawn;have eo:os'=s.os:=hm.os;subst eg; subst ed; subst eo;show wpAny _ _ _ _ _ _;refine aG ?_;show wpAny _ _ (ret Value.none) _ _ _;refine aG ⟨rfl,h',tk',rfl,hS',fun b o hb e=>?_⟩;have hb1:b≠s.heap.objs.size:=cQ hb;have hb2:b≠(s.heap.push { cls:=.type "set",dict:=none,data:=.set #[] 0 (.fresh 0 0 led) }).objs.size:=by
      rw[Heap.size_push]; exact cQ (Nat.lt_succ_of_lt hb)
     exact hm.heap b o (by simp only[List.mem_cons,List.mem_singleton,List.not_mem_nil,or_false,not_or]; exact⟨hb1,hb2⟩) (bI _ (bI _ e))
   ·cases r₂ with
    | error e=>exact hr₂
    | ok fl₂=>
     cases fl₂ with
     | ret r=>
      obtain⟨rfl,h',tk,rfl,hS',hk'⟩:=hr₂;repeat (any_goals (first | assumption | wp_step))
      exact h _ _ hS' hk'
     | _=>exact hr₂.elim
  | _=>exact hr.elim
end
end St
end
section
namespace L2
open PySem PySem.Spec PyProof.Rows
section
variable {X:Cx}
noncomputable def dJ (ns:List Nat):List V:=ns.map fun n=>.int (Int.ofNat n)
def Gq (K:aL)(te:TE):TE:=fun σ H Q=>te σ H fun x H1=>∃a ns,x=.ref a/\SqL K H1 a (dJ ns)/\(∀n∈ns,n<6)/\∀p,H1 p=none->Q (.ref p) (upd H1 p (.lst (dJ (ns.foldl St.stp []))))
theorem wy:∀{ns:List Nat} {its:List Value},Vals (dJ ns) its->IntsAre its (ns.map Int.ofNat)
 | [],_,h=>by cases h; exact .nil
 | n::ns,_,h=>by
  cases h with
  | cons h1 h2=>
   obtain⟨t,rfl⟩:=(show ∃t,_=Value.int (Int.ofNat n) t from h1)
   exact .cons _ _ (wy h2)
theorem tU:∀{ns:List Nat} {its:List Value},IntsAre its (ns.map Int.ofNat)->Vals (dJ ns) its
 | [],_,h=>by cases h; exact .nil
 | n::ns,_,h=>by
  cases h with
  | cons _ t h=>exact .cons ⟨t,rfl⟩ (tU h)
theorem zG (hc:X.calm=true)(he:PE X e te)(g1:Gl X "sorted")(m1:X.mg "sorted" = none)(b1:bootBuiltins "sorted" = some (.builtin "sorted"))(g2:Gl X "set")(m2:X.mg "set" = none)(b2:bootBuiltins "set" = some (.type "set"))
  (hs1:starEach [.Call (.Name "set" p2) [e] [] p3] X.env=[(false,eval (.Call (.Name "set" p2) [e] [] p3) X.env)])(hs2:starEach [e] X.env=[(false,eval e X.env)]) :
  PE X (.Call (.Name "sorted" p1) [.Call (.Name "set" p2) [e] [] p3] [] p4) (Gq X.K te):=by
 intro pins s σ H Q I h;have hh:=I.ok.hd hc;refine wpAny_Call_Name_kw (i7 I g1 m1 b1 ?_);refine PyProof.Rows.callWith_builtin1 ?_ hs1 rfl;rw[hs1];show wpAny _ _ (spliced ((false,eval (.Call (.Name "set" p2) [e] [] p3) X.env)::[])) _ _ s;refine Calls.spliced_cons ?_;refine wpAny_Call_Name_kw (i7 I g2 m2 b2 ?_);refine PyProof.Rows.callWith_type1 ?_ hs2 rfl;rw[hs2];show wpAny _ _ (spliced ((false,eval e X.env)::[])) _ _ s;refine Calls.spliced_cons (aH (he pins s σ H _ I h) fun u s1 hZz=>?_);obtain⟨x,H1,I1,r1,a,ns,ex,hx,h6,q⟩:=hZz;subst ex;cases r1;refine Calls.spliced_nil ?_;obtain⟨its,rv,pl,hz⟩:=I1.list hx;refine St.set_list hh pl.isList (by simpa using wy rv) h6 fun h' tk hS hk=>?_;refine Calls.spliced_nil ?_;refine St.sorted_set hh hS fun h'' tk' L vs n hk' hlt hget hints=>?_;refine⟨.ref L,upd H1 L (.lst (dJ (ns.foldl St.stp []))),I1.laid (t':=tk') (fun b o qb=>hk' b o (hk b o (bw qb) qb)) (Nat.le_of_lt hlt) ⟨?_,vs,n,tU hints,hget⟩,rfl,q L (I1.hok.fresh (Nat.le_of_lt hlt))⟩;have:=hS;obtain⟨es,ep,t,_,h1,_,ht⟩:=this;rw[dJ,List.length_map];exact St.small_line (St.mem_b4 ht.mem).1
end
section
variable {X:Cx}
theorem xV:OpR X (binaryOp .Add) (fun x y H Q=>∃a b ys,x=.ref a/\y=.ref b/\SqT X.K H a []/\SqT X.K H b ys/\Q (.ref b) H):=by
 intro pins s σ H x y v u Q I rx ry h;obtain⟨a,b,ys,rfl,rfl,ha,hb,q⟩:=h;cases rx;cases ry;obtain⟨its,r1,⟨⟨cls,dd,data,sl⟩,ho,hc,n,hd⟩,_⟩:=I.tuple ha;obtain⟨its2,r2,⟨⟨cls2,dd2,data2,sl2⟩,ho2,hc2,n2,hd2⟩,_⟩:=I.tuple hb;simp only at hc hd hc2 hd2;subst hc hd hc2 hd2;cases r1;exact concat_meets ⟨_,ho,rfl⟩ ⟨_,ho2,rfl⟩ noFill_tuple_add seq_tuple_add PySem.F.slot_tuple_add PySem.F.entry_tuple_add (PySem.F.args_tuple_add_2 _ _)
  (tuple_addW0 a b #[] its2.toArray n n2 dd dd2 sl sl2 rfl) ⟨ho,ho2,⟨.ref b,H,I,rfl,q⟩⟩
theorem EY (l:Addr)(items:Array Value)(n:Nat)(b:Addr)(items2:Array Value)(n2:Nat)(dd2:Option Addr)(sl2:Array (Option Value))(hs0:¬(!items.isEmpty&&Builtin.List.listTooLong (items.size+items2.size))=true)(hs1:items.size<=sizeLine)(hs2:items.size+items2.size<=sizeLine+1) :
  Meets (Builtin.«list.extend» ⟨[.ref l,.ref b],[]⟩) (fun _ R s=>s.heap.get? l=some { cls:=.type "list",dict:=none,data:=.seq items n,slots:=#[] }/\s.heap.get? b=some { cls:=.type "tuple",dict:=dd2,data:=.seq items2 n2,slots:=sl2 }/\R (.ok (.ret Value.none)) { s with heap:=s.heap.update l (Obj.mapSeq fun x=>x++items2),toks:=s.toks }):=
 .of_wp fun prog w A R s h=>by
  obtain⟨hp,g,d,tk,os⟩:=s; obtain⟨hl,hb,h⟩:=h; have f1:=AutoSeq1.idx_int; have f2:=AutoSeq1.sub_tuple_tuple; have f3:=AutoSeq1.sub_list_list; have f4:=AutoSeq1.sub_tuple_list; have f5:=AutoSeq1.sub_list_tuple;have hz':(items++items2).size<=sizeLine+1:=by rw[Array.size_append]; exact hs2
  wp_walk using (wpAny_updateSeq hl rfl (hz:=hs1) (_hz':=hz')),wpAny_loadPart' hl,wpAny_loadPart' hb; exact⟨_,rfl,h⟩
def jj (K:aL):V->List V->Hp->VK->Prop:=fun x vs H Q=>∃l b xs zs,x=.ref l/\vs=[.ref b]/\H l=some (.lst xs)/\SqT K H b zs/\xs.length+zs.length<=sizeLine/\Q .non (upd H l (.lst (xs++zs)))
theorem y3:om X "list.extend" (jj X.K):=by
 intro pins s σ H x vs v us Q I rx rv h;obtain⟨l,b,xs,zs,rfl,rfl,hH,hB,hz,q⟩:=h;cases rx;obtain⟨u,rfl,ru⟩:=rv.one;cases ru;obtain⟨z,its,n,r,hl,e⟩:=I.lstM hH;obtain⟨its2,r2,⟨⟨cls2,dd2,data2,sl2⟩,ho2,hc2,n2,hd2⟩,_⟩:=I.tuple hB;simp only at hc2 hd2;subst hc2 hd2;have hl2:=r2.length;have hsz:its.toArray.size+its2.toArray.size<=sizeLine:=by rw[List.size_toArray,List.size_toArray]; omega
 have hlong:¬(!its.toArray.isEmpty&&Builtin.List.listTooLong (its.toArray.size+its2.toArray.size))=true:=by
  rw[wj hsz,Bool.and_false];exact Bool.false_ne_true
 refine call_meets F.slot_list_extend ⟨_,e,rfl⟩ F.entry_list_extend (F.args_list_extend_2 _ _)
  (EY l its.toArray n b its2.toArray n2 dd2 sl2 hlong (by rw[List.size_toArray]; omega) (by omega)) ⟨e,ho2,?_⟩
 refine⟨.non,_,I.lset (its':=its++its2) hH e (by simp) (r.append r2) ?_,rfl,q⟩;rw[List.length_append];omega
theorem yf (ho:s.heap.get? l=some { cls:=.type "list",data:=.seq items n })
  (h0:0<=k)(hfit:k<2 ^ 63)(hn:k<items.size)(hQ:Q () { s with heap:=s.heap.update l (Obj.mapSeq (·.setIfInBounds k.toNat v)) }):wpAny (model prog w) A (setItem (.ref l) (.int k t) v) Q E s:=by
 have hl:s.heap.IsList l items:=PySem.IsL.isList ho;unfold setItem;try with_reducible refine wpAny_holding ?_
 first | refine ai (aG ?_) | skip
 refine ai (wpAny_sequenceKey hl.typeIs (by decide) ?_);refine ai (wpAny_callSpecial?_slot (name:=Str.ofString "__setitem__") hl.typeIs slot_list_setitem
  (wpAny_call_entry slot_list_setitem hl.typeIs entry_list_setitem ?_ (args_list_setitem _ _ _)))
 show wpAny _ _ (Builtin.List.listSubscript? (.int k t) >>= _) _ _ s;refine ai (wpAny_listSubscript_int (fitsIndex_of h0 hfit) ?_);clear hfit;obtain⟨j,rfl⟩:=Int.eq_ofNat_of_zero_le h0;have hj:j<items.size:=by omega
 have hx':items[j]? = some items[j]:=Array.getElem?_eq_getElem hj;show wpAny _ _ ((seqItemAt l j >>= fun r=>pure (r.map (j,·))) >>= _) _ _ s;refine ai (ai (wpAny_seqItemAt ho rfl (aG ?_)));rw[hx'];show wpAny _ _ (setSeqItemAt l j v >>= _) _ _ s;refine ai (wpAny_setSeqItemAt ho rfl ?_);first
  | exact ai (aG (aG ⟨.none,rfl,aG hQ⟩))
  | exact aG ⟨.none,rfl,aG hQ⟩
def jQ (to ti tv:TE):TS:=fun D σ H=>tv σ H fun y H1=>to σ H1 fun x H2=>ti σ H2 fun k H3=>∃l xs i,x=.ref l/\k=.int i/\H3 l=some (.lst xs)/\0<=i/\i<xs.length/\D.nx σ (upd H3 l (.lst (xs.set i.toNat y)))
theorem BX (ho:PE X o to)(hi:PE X i ti)(hv:PE X value tv)(hs:swapsWith value (some (.Subscript o i pos')) pos.line X.env=pure false):PS X (.Assign [.Subscript o i pos'] value pos) (jQ to ti tv):=by
 intro pins s σ H D I h;refine wpAny_Assign_Subscript (aH (hv pins s σ H _ I h) fun u s1 ⟨y,H1,I1,ry,q⟩=>aH (ho pins s1 σ H1 _ I1 q) fun ov s2 ⟨x,H2,I2,rx,q2⟩=>aH (hi pins s2 σ H2 _ I2 q2) fun iv s3 hZz=>?_) hs;obtain⟨k,H3,I3,rk,l,xs,j,ex,ek,hH,j0,j1,qn⟩:=hZz;subst ex ek;cases rx;obtain⟨t,rfl⟩:=(show ∃t,iv=Value.int j t from rk)
 obtain⟨z,its,n,r,hl,e⟩:=I3.lstM hH;have hz:(xs.length:Int)<=16777216:=by
  have:=z;rw[sizeLine_eq] at this;omega
 refine yf e j0 (by omega) (by rw[List.size_toArray]; omega) ?_;exact⟨σ,_,I3.lset (its':=its.set j.toNat u) (t':=s3.toks) hH e (by simp) (Vals.set ry j.toNat r) (by rw[List.length_set]; exact z),qn⟩
end
section
variable {X:Cx}
theorem D4 {prog:Program}{w:World}{A:Around}{E:Value->Shared->Prop}{s:Shared}{t sl:Addr}{items:Array Value}{vl vu:Value}{lo hi:Option Int}{Q:Value->Shared->Prop}(ht:IsTup s.heap t items)(hs:s.heap.IsSliceOf sl vl vu .none)(pl:IsPart vl lo)(pu:IsPart vu hi)
  (hw:HT.sIx items.size 0 lo=0/\HT.sIx items.size items.size hi=items.size)(h:Q (.ref t) s):wpAny (model prog w) A (getItem (.ref t) (.ref sl)) Q E s:=by
 obtain⟨os,hos,hcs,hds⟩:=id hs;have hTs:s.TypeIs (.ref sl) "slice":=⟨os,hos,hcs⟩
 unfold getItem;try with_reducible refine wpAny_holding ?_
 first | refine ai (aG ?_) | skip
 refine ai (wpAny_sequenceKey ht.typeIs (by decide) ?_);refine ai (wpAny_callSpecial?_slot (name:=Str.ofString "__getitem__") ht.typeIs PyProof.Rows.slot_tuple_getitem
  (wpAny_call_entry PyProof.Rows.slot_tuple_getitem ht.typeIs entry_tuple_getitem ?_ (args_tuple_getitem _ _)))
 show wpAny _ _ (Builtin.Tuple.tupleItemsOf (.ref t) >>= _) _ _ s;refine ai (tupleItemsOf_ ht ?_);refine ai (wpAny_typeOf hTs ?_);rw[if_pos (by decide)];refine ai (HT.sliceApplied_gen hs pl pu ?_);have hyes:(((HT.sIx items.size 0 lo:Nat):Int) == 0&&(1:Int) == 1&&(HT.sIx items.size items.size hi - HT.sIx items.size 0 lo) == items.size)=true:=by
  rw[hw.1,hw.2]; simp
 show wpAny _ _ (if (((HT.sIx items.size 0 lo:Nat):Int) == 0&&(1:Int) == 1&&(HT.sIx items.size items.size hi - HT.sIx items.size 0 lo) == items.size)=true then _ else _) _ _ s;rw[if_pos hyes];unfold Builtin.Tuple.tupleIsExact;refine ai (ai (wpAny_typeOf ht.typeIs (aG ?_)));rw[if_pos (by decide)];refine ai (wpAny_rule (ai (aG (aG ⟨_,rfl,aG h⟩))))
def mF (K:aL):V->Option Int->Option Int->Hp->VK->Prop:=fun x lo hi H Q=>∃a xs,x=.ref a/\SqT K H a xs /\
 (HT.sIx xs.length 0 lo=0/\HT.sIx xs.length xs.length hi=xs.length->Q (.ref a) H) /\
 (¬(HT.sIx xs.length 0 lo=0/\HT.sIx xs.length xs.length hi=xs.length)->∀p,H p=none->Q (.ref p) (upd H p (.tup (dh xs lo hi))))
theorem Ea:SlR X (mF X.K):=by
 intro pins s σ H x v vl vu lo hi sl Q I rx hs pl pu h;obtain⟨a,xs,rfl,hx,q1,q2⟩:=h;by_cases hw:HT.sIx xs.length 0 lo=0/\HT.sIx xs.length xs.length hi=xs.length
 ·cases rx;obtain⟨its,r,ht,hz⟩:=I.tuple hx;have hlen:its.toArray.size=xs.length:=by rw[List.size_toArray]; exact r.length.symm
  refine⟨"tuple",_,PyProof.Rows.slot_tuple_getitem.lookup,ht.typeIs,?_⟩;exact D4 ht hs pl pu (by rw[hlen]; exact hw) ⟨.ref a,H,I,rfl,q1 hw⟩
 ·exact Dj pins s σ H _ v vl vu lo hi sl Q I rx hs pl pu ⟨a,xs,rfl,hx,hw,q2 hw⟩
theorem B5 (f:Nat->β->Sem (ForInStep β))(I:Nat->β->Shared->Prop)(Q:β->Shared->Prop)
  (turn:∀i b s,i<n->I i b s->wpAny M A (f i b) (fun r s'=>match r with | .yield b'=>I (i+1) b' s' | .done b'=>Q b' s') E s)
  (fin:∀b s,I n b s->Q b s)(b:β)(h:I 0 b s):wpAny M A (forIn [0:n] b f) Q E s:=by
 rw[Std.Legacy.Range.forIn_eq_forIn_range'];refine wpAny_forIn_list f (fun rest b s=>∃i,rest=List.range' i (n - i)/\i<=n/\I i b s) Q ?_ ?_ _ b ⟨0,by simp[Std.Legacy.Range.size],Nat.zero_le _,h⟩
 ·rintro x rest b s ⟨i,e,hi,hI⟩;have hlt:i<n:=by
   have:=congrArg List.length e;simp at this;omega
  have e2:n - i=(n - (i+1))+1:=by omega
  rw[e2,List.range'_succ] at e;obtain⟨rfl,rfl⟩:=List.cons.inj e;refine wpAny_mono (turn x b s hlt hI) (fun r s' hr=>?_) fun _ _ h'=>h';cases r with
  | done b'=>exact hr
  | yield b'=>exact⟨x+1,rfl,hlt,hr⟩
 ·rintro b s ⟨i,e,hi,hI⟩;have:i=n:=by
   have:=congrArg List.length e;simp at this;omega
  subst this;exact fin b s hI
theorem Ce (l:Addr)(items:Array Value)(n:Nat)(dd:Option Addr)(sl:Array (Option Value))(x:Value)(e:Value->Bool)(j:Nat)(hj:j<items.size)
  (hit:e items[j]=true)(hno:∀m (hm:m<items.size),m<j->e items[m]=false) :
  Meets (Builtin.«tuple.index» ⟨[.ref l,x],[]⟩)
   (fun A R s=>s.heap.get? l=some { cls:=.type "tuple",dict:=dd,data:=.seq items n,slots:=sl }/\(∀y,y∈items->SeqAt.EqAt A.in1 s y x (e y))/\R (.ok (.ret (.int j s.toks))) { s with toks:=s.toks+1 }):=
 .of_wp fun prog w A R s h=>by
  obtain⟨hp,g,d,tk,os⟩:=s; obtain⟨hl,he,h⟩:=h;wp_walk using AutoSeq1.wpAny_loadPart' hl,B5 _ (fun i b s'=>b.1=none/\s'=⟨hp,g,d,tk,os⟩/\i<=j) _
  case turn=>
   rintro i b s' hi ⟨hb,rfl,hij⟩;have hi':i<items.size:=by omega
   have e1:items[i]? = some items[i]:=by simp[hi']
   rw[e1];refine ai (he _ (Array.getElem_mem hi') prog w _ _ ?_);by_cases hx:i=j
   ·subst hx;rw[hit];wp_walk
    exact⟨_,rfl,h⟩
   ·rw[hno i hi' (by omega)];wp_walk
    exact⟨rfl,rfl,by omega⟩
  case fin=>
   rintro b s' ⟨hb,rfl,hij⟩;omega
  case h=>exact⟨rfl,rfl,Nat.zero_le _⟩
def gO (K:aL):V->List V->Hp->VK->Prop:=fun x vs H Q=>∃a xs y j,x=.ref a/\vs=[y]/\SqT K H a xs/\flatV y=true/\xs.all flatV=true/\(xs.findIdx? fun z=>eqV z y)=some j/\Q (.int (j:Nat)) H
theorem CM:MtR X "tuple.index" (gO X.K):=by
 intro pins s σ H x vs v us Q I rx rv h;obtain⟨a,xs,y,j,rfl,rfl,hx,fy,fs,hf,q⟩:=h;cases rx;cases rv with
 | @cons _ u _ us ry rn=>
 cases rn;obtain⟨its,r,⟨⟨cls,dd,data,sl⟩,ho,hc,n,hd⟩,_⟩:=I.tuple hx;simp only at hc hd;subst hc hd;obtain⟨hj,hp,hq⟩:=List.findIdx?_eq_some_iff_getElem.mp hf;have len:=r.length;have at':∀i (h1:i<xs.length) (h2:i<its.toArray.size),dC y its.toArray[i]=eqV xs[i] y:=fun i h1 h2=>by
  obtain⟨w,e,rw'⟩:=r.get (i:=i) (x:=xs[i]) (by simp[h1]);have e2:its.toArray[i]=w:=by
   have h2':i<its.length:=by simpa using h2
   rw[List.getElem?_eq_getElem h2'] at e;simpa using bV e
  rw[e2];exact nu rw' (dF fs _ (List.getElem_mem h1))
 have hj2:j<its.toArray.size:=by rw[List.size_toArray]; omega
 refine call_meets PySem.F.slot_tuple_index ⟨_,ho,rfl⟩ PySem.F.entry_tuple_index (PySem.F.args_tuple_index_2 _ _)
  (Ce a its.toArray n dd sl u (dC y) j hj2 (by rw[at' j hj hj2]; exact hp) fun m hm hl=>?_)
  ⟨ho,fun z hz=>jy ry fy r fs z (by simpa using hz),⟨.int (j:Nat),H,I.tok _,⟨_,rfl⟩,q⟩⟩
 have hm':m<xs.length:=by omega
 rw[at' m hm' hm];simpa using hq m hl
end
section
variable {prog:Program}{w:World}{A:Around}{E:Value->Shared->Prop}{s:Shared}{it t:Addr}{i:Nat}{items:Array Value}
theorem vE (hit:s.heap.IsTupleIter it t i)
  (h:wpAny (model prog w) A.in1 (Builtin.«tuple_iterator.__next__» ⟨[.ref it],[]⟩) (fun fin s'=>∃v,fin=.done (.ret v)/\Q v s') E s):wpAny (model prog w) A (Builtin.SmallTypes.nextOf (.ref it)) Q E s:=by
 unfold Builtin.SmallTypes.nextOf;refine ai (wpAny_callSpecial?_slot (name:=Str.ofString "__next__") hit.typeIs PySem.F.slot_tuple_iterator_next (wpAny_call_entry PySem.F.slot_tuple_iterator_next hit.typeIs PySem.F.entry_tuple_iterator_next ?_ (PySem.F.args_tuple_iterator_next_1 _)));refine wpAny_mono h (fun fin s' ⟨v,e,q⟩=>⟨v,e,aG q⟩) fun _ _ e=>e
theorem Bg (hit:s.heap.IsTupleIter it t i)(ht:s.heap.IsTuple t items)(hx:items[i]? = some x)(hQ:∀h',h'.IsTupleIter it t (i+1)->Heap.SameBut it s.heap h'->Q x { s with heap:=h' }):wpAny (model prog w) A (Builtin.SmallTypes.nextOf (.ref it)) Q E s:=by
 refine vE hit ?_;obtain⟨o,ho,hc,hd⟩:=id hit;obtain⟨ol,hol,_,nl,hdl⟩:=ht;show wpAny _ _ (field (.ref it) 0 >>= _) _ _ s;refine ai (wpAny_field ho hd (x:=.ref t) rfl ?_);show wpAny _ _ (if (Value.ref t == Value.none)=true then _ else _) _ _ s;rw[if_neg (show ¬((Value.ref t == Value.none)=true) from Bool.false_ne_true)];show wpAny _ _ (field (.ref it) 1 >>= _) _ _ s;refine ai (wpAny_field ho hd (x:=.int i 0) rfl ?_);show wpAny _ _ (seqItems? (.ref t) >>= _) _ _ s;refine ai (wpAny_seqItems hol hdl ?_);simp only[Int.toNat_natCast,hx];refine ai (wpAny_setField ho hd (by simp) (aG ⟨x,rfl,hQ _ ?_ (Heap.SameBut.update ..)⟩));exact⟨_,Heap.get?_update_self _ ho (Obj.isFreed_of_fields (Obj.data_mapFields hd _)),(Obj.cls_mapFields ..).trans hc,by rw[Obj.data_mapFields hd]; simp[rawInt]⟩
theorem uZ (hh:A.handled=none)(hit:s.heap.IsTupleIter it t i)(ht:s.heap.IsTuple t items)(hx:items[i]? = none)
  (hE:∀h' e,Heap.ExtBut it s.heap h'->(∃o,h'.get? e=some o/\o.cls=.type "StopIteration")->E (.ref e) { s with heap:=h' }):wpAny (model prog w) A (Builtin.SmallTypes.nextOf (.ref it)) Q E s:=by
 refine vE hit ?_;obtain⟨o,ho,hc,hd⟩:=id hit;obtain⟨ol,hol,_,nl,hdl⟩:=ht;show wpAny _ _ (field (.ref it) 0 >>= _) _ _ s;refine ai (wpAny_field ho hd (x:=.ref t) rfl ?_);show wpAny _ _ (if (Value.ref t == Value.none)=true then _ else _) _ _ s;rw[if_neg (show ¬((Value.ref t == Value.none)=true) from Bool.false_ne_true)];show wpAny _ _ (field (.ref it) 1 >>= _) _ _ s;refine ai (wpAny_field ho hd (x:=.int i 0) rfl ?_);show wpAny _ _ (seqItems? (.ref t) >>= _) _ _ s;refine ai (wpAny_seqItems hol hdl ?_);simp only[Int.toNat_natCast,hx];refine ai (wpAny_rule (ai (wpAny_setField ho hd (by simp) ?_)));show wpAny _ _ (newExc (.type "StopIteration") [] >>= _) _ _ _;refine ai ?_;simp only[newExc,newTuple];refine ai (wpAny_newObj_type ?_ (by size_fits));refine ai (m:=firstArgMember _ _) (wpAny_of_eq (a:=Value.none) (by first | rfl | (simp only[firstArgMember]; rfl)) ?_);refine wpAny_newObj_type ?_ (by size_fits);simp only[raiseNew];refine ai (wpAny_handled ?_);rw[show A.in1.handled=none from hh];exact ai (aG (wpAny_throw (hE _ _ (((Heap.SameBut.update ..).extBut.push _).push _) ⟨_,da _ rfl,rfl⟩)))
theorem kM (hh:A.handled=none)(it t:Addr)(hne:t≠it)(items:Array Value) :
  Draws prog w A it [it,t] items.size (fun i v=>items[i]? = some v) (fun i h=>h.IsTupleIter it t i/\h.IsTuple t items) where
 live:=fun _ _ st=>let ⟨o,ho,_⟩:=st.1; ⟨o,ho⟩
 frame:=fun _ _ _ st hk=>⟨st.1.at fun o e=>hk it (by simp) o e,let ⟨o,ho,r⟩:=st.2; ⟨o,hk t (by simp) o ho,r⟩⟩
 item:=fun i s Q E hi st hQ=>Bg st.1 st.2 (x:=items[i]) (by simp[hi]) fun h' a b=>hQ _ h' s.toks (by simp[hi]) ⟨a,let ⟨o,ho,r⟩:=st.2; ⟨o,(b.2 t hne).trans ho,r⟩⟩ b
 done:=fun s Q E st hE=>uZ hh st.1 st.2 (by simp) hE
theorem yO (hh:A.handled=none)(it t:Addr)(items:Array Value)(n:Nat)(hx:items[n]? = none) :
  Draws prog w A it [it,t] n (fun _ _=>False) (fun k h=>k=n/\h.IsTupleIter it t n/\h.IsTuple t items) where
 live:=fun _ _ st=>let ⟨o,ho,_⟩:=st.2.1; ⟨o,ho⟩
 frame:=fun _ _ _ st hk=>⟨st.1,st.2.1.at fun o e=>hk it (by simp) o e,let ⟨o,ho,r⟩:=st.2.2; ⟨o,hk t (by simp) o ho,r⟩⟩
 item:=fun i s Q E hi st hQ=>absurd hi (by rw[st.1]; exact Nat.lt_irrefl _)
 done:=fun s Q E st hE=>uZ hh st.2.1 st.2.2 hx hE
theorem GN (l:Addr)(items:Array Value)(n:Nat)(dct:Option Addr)(sl:Array (Option Value)) :
  Meets (Builtin.«enumerate.__new__» ⟨[.type "enumerate",.ref l],[]⟩) (fun _ R s=>s.heap.get? l=some { cls:=.type "tuple",dict:=dct,data:=.seq items n,slots:=sl } /\
   R (.ok (.ret (.ref (s.heap.push { cls:=.type "tuple_iterator",data:=.fields #[.ref l,.int 0 0] }).objs.size)))
    { s with heap:=(s.heap.push { cls:=.type "tuple_iterator",data:=.fields #[.ref l,.int 0 0] }).push { cls:=.type "enumerate",data:=.fields #[.none,.bool false,.ref s.heap.objs.size,rawInt 0,.none,.none] } }):=
 .of_wp fun prog w A R s h=>by
  obtain⟨hp,g,d,tk,os⟩:=s; obtain⟨hl,h⟩:=h;have hsub:=sub_enumerate;have hT:Heap.IsTuple (Shared.heap ⟨hp,g,d,tk,os⟩) l items:=⟨_,hl,rfl,n,rfl⟩
  wp_walk using AutoSeq1.wpAny_loadPart' hl
  refine wpAny_stack_any fun st=>aG ?_;split
  ·rename_i c _ _ _ _ _;cases (c == Value.type "enumerate") <;> (wp_walk using AutoSeq1.wpAny_loadPart' hl,wpAny_pyIter_tuple hT; exact⟨_,rfl,h⟩)
  ·wp_walk using AutoSeq1.wpAny_loadPart' hl,wpAny_pyIter_tuple hT
   exact⟨_,rfl,h⟩
theorem D7 (hL:s.heap.IsTuple l items)
  (h:∀h',IsEnum h' (s.heap.objs.size+1) s.heap.objs.size 0 .none->h'.IsTupleIter s.heap.objs.size l 0->(∀b o,s.heap.get? b=some o->h'.get? b=some o)->Q (.ref (s.heap.objs.size+1)) { s with heap:=h' }) :
  wpAny (model prog w) A (call (.type "enumerate") [.ref l]) Q E s:=by
 obtain⟨⟨c,dct,dt,sl⟩,hl,hc,n,hd⟩:=hL;have hc':c=.type "tuple":=hc;have hd':dt=.seq items n:=hd;subst hc' hd';refine callType_new PySem.F.called_enumerate (by decide) (PySem.F.typeCall_enumerate_1 _) (PySem.F.newCall_enumerate_1 _) (fun obj=>PySem.F.args_object_init_2 obj _) PySem.F.entry_enumerate_new (GN l items n dct sl) ⟨hl,?_⟩;have hz:(s.heap.push { cls:=.type "tuple_iterator",data:=.fields #[.ref l,.int 0 0] }).objs.size=s.heap.objs.size+1:=Heap.size_push ..;show _/\_;rw[hz];have he:=da (s.heap.push { cls:=.type "tuple_iterator",data:=.fields #[.ref l,.int 0 0] }) (o:={ cls:=.type "enumerate",data:=.fields #[.none,.bool false,.ref s.heap.objs.size,rawInt 0,.none,.none] }) rfl;rw[hz] at he;exact⟨⟨_,he,rfl⟩,h _ he ⟨_,bI _ (da _ rfl),rfl,rfl⟩ fun b o x=>bI _ (bI _ x)⟩
end
noncomputable def kg (K:aL)(a:Addr):It:=
 ⟨fun i H=>∃xs x,SqT K H a xs/\xs[i]? = some x,fun i H v H'=>∃x p,v=.ref p/\H p=none/\H'=upd H p (.tup [.int i,x])/\∀xs,SqT K H a xs->xs[i]? = some x,fun i H=>∃xs,SqT K H a xs/\xs.length<=i⟩
def ig (e it l:Addr)(i:Nat)(h:Heap):Prop:=(∃old,IsEnum h e it i old)/\h.IsTupleIter it l i
theorem Ff {P:Program}{w:World}{K:aL}{es:List Expr}{k1:Nat}{ps:Pos}(l e it:Addr):Turn P w K (.Tuple es k1 ps) (kg K l) [e,it] e (ig e it l) where
 mem:=by simp
 obj:=fun i h t b hb=>by
  obtain⟨⟨old,te⟩,⟨o1,e1,_,d1⟩⟩:=t;simp only[List.mem_cons,List.not_mem_nil,or_false] at hb;rcases hb with rfl | rfl
  ·exact⟨_,te,(fun v q=>nomatch q)⟩
  ·exact⟨o1,e1,fun v q=>by rw[d1] at q; cases q⟩
 keep:=fun i h h' t k=>by
  obtain⟨⟨old,te⟩,t1⟩:=t;exact⟨⟨old,k e (by simp) _ te⟩,t1.at fun o q=>k it (by simp) o q⟩
 item:=by
  intro X hP hw hK hc i pins s σ H E I hf st hg;subst hP hw hK;obtain⟨xs,x,hx,ex⟩:=hg;obtain⟨its,rv,p,hz⟩:=I.tuple hx;obtain⟨u,hu,ru⟩:=rv.get ex;obtain⟨⟨old,te⟩,t1⟩:=st;have hl:=rv.length;have hi:i<its.toArray.size:=by
   have:=(dN hu).1;simpa using this
  have ne:e≠it:=by
   obtain⟨o1,e1,c1,_⟩:=t1;exact ll "enumerate" "tuple_iterator" te e1 rfl c1 (by decide)
  have nl:l≠it:=by
   obtain⟨o1,e1,c1,_⟩:=t1;obtain⟨o2,e2,c2,_⟩:=p;exact ll "tuple" "tuple_iterator" e2 e1 c2 c1 (by decide)
  have nel:e≠l:=by
   obtain⟨o2,e2,c2,_⟩:=p;exact ll "enumerate" "tuple" te e2 rfl c2 (by decide)
  refine wpAny_pyNext_enum_itemD (kM (A:=X.A.in1) (by exact I.ok.hd hc) it l nl its.toArray) te (show s.heap.IsTupleIter it l i/\s.heap.IsTuple l its.toArray from ⟨t1,p⟩) hi ne (by simp; exact⟨ne,nel⟩) fun y h' tk hy z1 z2 z3 z4 z5=>?_;have ey:y=u:=by
   have hu':its.toArray[i]? = some u:=by simpa using hu
   rw[hu'] at hy;exact (bV hy).symm
  subst ey;refine⟨_,rfl,?_⟩;refine wpAny_letOwnedTupleGo_enum (s:={ s with heap:=h',toks:=tk+1 }) z1 fun h2 z1' sb=>?_;have kk:∀b o,b∉[e,it]->s.heap.get? b=some o->h2.get? b=some o:=fun b o nb q=>by
   simp only[List.mem_cons,List.not_mem_nil,or_false,not_or] at nb;exact (sb.2 b nb.1).trans (z5 b o nb.1 nb.2 q)
  have le:e<s.heap.objs.size:=bw te;have gT:h2.get? s.heap.objs.size=some { cls:=.type "tuple",data:=.seq #[.int i tk,y] }:=(sb.2 _ (Nat.ne_of_gt le)).trans z3;refine⟨.ref s.heap.objs.size,upd H s.heap.objs.size (.tup [.int i,x]),I.turnedN (t':=tk+1) hf kk (bb _) ⟨by show 2<=sizeLine; decide,[.int i tk,y],.cons ⟨_,rfl⟩ (.cons ru .nil),_,gT,rfl,⟨_,rfl⟩,rfl⟩,rfl,
   ⟨x,_,rfl,I.hok.fresh (bb _),rfl,fun zs hq=>by rw[I.tuple_inj hq hx]; exact ex⟩,⟨⟨y,by simpa using z1'⟩,z2.1.at fun o q=>(sb.2 it (Ne.symm ne)).trans q⟩,fun b hb=>?_⟩
  obtain⟨o,q,_⟩:∃o,s.heap.get? b=some o/\True:=by
   simp only[List.mem_cons,List.not_mem_nil,or_false] at hb;obtain⟨o1,e1,_,d1⟩:=t1;rcases hb with rfl | rfl
   ·exact⟨_,te,trivial⟩
   ·exact⟨o1,e1,trivial⟩
  rw[bc (Nat.ne_of_lt (Heap.lt_size q))];exact (hf b hb).1
 done:=by
  intro X hP hw hK hc i pins s σ H E I hf st hg;subst hP hw hK;obtain⟨xs,hx,hend⟩:=hg;obtain⟨its,rv,p,hz⟩:=I.tuple hx;obtain⟨⟨old,te⟩,t1⟩:=st;have hl:=rv.length;have nl:l≠it:=by
   obtain⟨o1,e1,c1,_⟩:=t1;obtain⟨o2,e2,c2,_⟩:=p;exact ll "tuple" "tuple_iterator" e2 e1 c2 c1 (by decide)
  refine wpAny_pyNext_enum_endD (yO (A:=X.A.in1) (by exact I.ok.hd hc) it l its.toArray i (by simp; omega)) te ⟨rfl,t1,p⟩ fun h' kp=>⟨rfl,I.turnedL (t':=s.toks) hf fun b o nb q=>?_⟩
  simp only[List.mem_cons,List.not_mem_nil,or_false,not_or] at nb;exact kp b o nb.2 q
 self:=fun _ _ _ _ _ st h=>by
  obtain⟨⟨old,te⟩,_⟩:=st;exact wpAny_pyIter_enum te h
section
variable {X:Cx}{es:List Expr}{k1:Nat}{tp:Pos}
theorem ze {a:Expr}{ta:TA}{p pos:Pos}(hg:Gl X "enumerate")(hm:X.mg "enumerate" = none)(hv:bootBuiltins "enumerate" = some (.type "enumerate"))(ha:PA X [a] ta)(hs:starEach [a] X.env=[(false,eval a X.env)]:=by rfl) :
  PI X (.Tuple es k1 tp) (.Call (.Name "enumerate" p) [a] [] pos) (fun σ H R=>ta σ H fun vs H1=>(∃a xs,vs=[.ref a]/\SqL X.K H1 a xs/\R (sL X.K a) H1)\/∃a xs,vs=[.ref a]/\SqT X.K H1 a xs/\R (kg X.K a) H1):=by
 intro pins s σ H R I h;refine Call_ (i7 I hg hm hv (PyProof.Rows.callWith_type1 (aH (ha pos pins s σ H _ I h) fun us s1 hZz=>?_) hs rfl));obtain⟨vs,H1,I1,r1,q1⟩:=hZz;rcases q1 with ⟨l1,xs,rfl,hx,q⟩ | ⟨l1,xs,rfl,hx,q⟩
 ·obtain⟨u,rfl,ru⟩:=vals1 r1;cases ru;obtain⟨its,rx,px,hzx⟩:=I1.list hx;refine call_enumerate_list px.isList fun h' z1 z2 z3 z4=>?_;refine wpAny_pyIter_enum (s:={ s1 with heap:=h' }) z1 ⟨_,_,_,_,H1,rfl,I1.kept (t':=s1.toks) z4,yh l1 _ _,⟨⟨_,z1⟩,z2⟩,fun b hb=>?_,q⟩;have lb:s1.heap.objs.size<=b:=by
   simp only[List.mem_cons,List.not_mem_nil,or_false] at hb;rcases hb with rfl | rfl <;> omega
  exact I1.fpOk lb (I1.hok.fresh lb)
 ·obtain⟨u,rfl,ru⟩:=vals1 r1;cases ru;obtain⟨its,rx,px,hzx⟩:=I1.tuple hx;refine D7 px fun h' z1 z2 z4=>?_;refine wpAny_pyIter_enum (s:={ s1 with heap:=h' }) z1 ⟨_,_,_,_,H1,rfl,I1.kept (t':=s1.toks) z4,Ff l1 _ _,⟨⟨_,z1⟩,z2⟩,fun b hb=>?_,q⟩;have lb:s1.heap.objs.size<=b:=by
   simp only[List.mem_cons,List.not_mem_nil,or_false] at hb;rcases hb with rfl | rfl <;> omega
  exact I1.fpOk lb (I1.hok.fresh lb)
end
section
variable {X:Cx}
def gU:V->List V->Hp->VK->Prop:=fun x vs H Q=>∃a xs y j,x=.ref a/\vs=[y]/\Rd H a (.lst xs)/\flatV y=true/\xs.all flatV=true/\(xs.findIdx? fun z=>eqV z y)=some j/\Q (.int (j:Nat)) H
theorem A3:MtR X "list.index" gU:=by
 intro pins s σ H x vs v us Q I rx rv h;obtain⟨a,xs,y,j,rfl,rfl,hx,fy,fs,hf,q⟩:=h;cases rx;cases rv with
 | @cons _ u _ us ry rn=>
 cases rn;obtain⟨hz,its,n,r,ho⟩:=hx.ok I.hok;obtain⟨hj,hp,hq⟩:=List.findIdx?_eq_some_iff_getElem.mp hf;have len:=r.length;have at':∀i (h1:i<xs.length) (h2:i<its.toArray.size),dC y its.toArray[i]=eqV xs[i] y:=fun i h1 h2=>by
  obtain⟨w,e,rw'⟩:=r.get (i:=i) (x:=xs[i]) (by simp[h1]);have e2:its.toArray[i]=w:=by
   have h2':i<its.length:=by simpa using h2
   rw[List.getElem?_eq_getElem h2'] at e;simpa using bV e
  rw[e2];exact nu rw' (dF fs _ (List.getElem_mem h1))
 have hj2:j<its.toArray.size:=by rw[List.size_toArray]; omega
 have hsm:(j:Int)<2 ^ 63 - 1:=by
  have:sizeLine<2 ^ 62:=by decide
  omega
 refine call_meets PySem.F.slot_list_index ⟨_,ho,rfl⟩ PySem.F.entry_list_index (PySem.F.args_list_index_2 _ _)
  (PySem.SeqAt.list_indexAt a its.toArray n none #[] u (dC y) j hj2 hsm (by rw[at' j hj hj2]; exact hp) fun m hm hl=>?_)
  ⟨ho,fun z hz=>jy ry fy r fs z (by simpa using hz),⟨.int (j:Nat),H,I.tok _,⟨_,rfl⟩,q⟩⟩
 have hm':m<xs.length:=by omega
 rw[at' m hm' hm];simpa using hq m hl
end
section
variable {X:Cx}{tg:Expr}
end
section
variable {X:Cx}
theorem ua:∀{xs:List V} {us:List Value},Vals xs us->xs.all flatV=true->us.countP (dC y)=xs.countP fun z=>eqV z y
 | _,_,.nil,_=>rfl
 | x::xs,u::us,.cons r q,f=>by
  rw[List.all_cons,Bool.and_eq_true] at f;rw[List.countP_cons,List.countP_cons,ua q f.2,nu r f.1]
def gP:V->List V->Hp->VK->Prop:=fun x vs H Q=>∃a xs y,x=.ref a/\vs=[y]/\Rd H a (.lst xs)/\flatV y=true/\xs.all flatV=true/\Q (.int ((xs.countP fun z=>eqV z y):Nat)) H
theorem yA:MtR X "list.count" gP:=by
 intro pins s σ H x vs v us Q I rx rv h;obtain⟨a,xs,y,rfl,rfl,hx,fy,fs,q⟩:=h;cases rx;cases rv with
 | @cons _ u _ us ry rn=>
 cases rn;obtain⟨hz,its,n,r,ho⟩:=hx.ok I.hok;have e:its.toArray.toList.countP (dC y)=xs.countP fun z=>eqV z y:=by simpa using ua r fs
 refine call_meets PySem.F.slot_list_count ⟨_,ho,rfl⟩ PySem.F.entry_list_count (PySem.F.args_list_count_2 _ _)
  (PySem.SeqAt.list_countAt a its.toArray n none #[] u (dC y)) ⟨ho,fun z hz=>jy ry fy r fs z (by simpa using hz),?_⟩
 rw[e];exact⟨.int ((xs.countP fun z=>eqV z y):Nat),H,I.tok _,⟨_,rfl⟩,q⟩
end
end L2
end
section
namespace Ip
open PySem (Str)
noncomputable section
inductive D where
 | non | bl (b:Bool) | int (i:Int) | str (s:Str)
 | lst (xs:List D) | tup (xs:List D)
 | ins (c:Nat) (fs:List (Nat×D))
 | exc (c:Nat) (fs:List (Nat×D))
 deriving Inhabited
mutual
@[simp] noncomputable def D.flat:D->Bool
 | .lst _=>false
 | .tup xs=>D.flats xs
 | .ins _ _=>false
 | .exc _ _=>false
 | _=>true
@[simp] noncomputable def D.flats:List D->Bool
 | []=>true
 | d::ds=>d.flat&&D.flats ds
end
theorem rj:∀xs:List D,D.flats xs=xs.all D.flat
 | []=>by rw[D.flats]; rfl
 | d::ds=>by rw[D.flats,rj ds]; rfl
@[simp] noncomputable def D.fb:Nat->D->Bool
 | 0,d=>d.flat
 | k+1,.lst xs=>xs.all (D.fb k)
 | k+1,.tup xs=>xs.all (D.fb k)
 | k+1,.ins _ fs=>fs.all fun p=>D.fb k p.2
 | _+1,.exc _ _=>false
 | _+1,_=>true
noncomputable def D.pur:Nat->D->Bool
 | 0,.lst _=>false
 | 0,.tup _=>false
 | n+1,.lst xs=>xs.all (D.pur n)
 | n+1,.tup xs=>xs.all (D.pur n)
 | _,.ins _ _=>false
 | _,.exc _ _=>false
 | _,.str s=>s.cps.all (·<1114112)
 | _,_=>true
@[simp] theorem wP (n:Nat):D.pur n .non=true:=by cases n <;> rfl
@[simp] theorem va (n:Nat)(b:Bool):D.pur n (.bl b)=true:=by cases n <;> rfl
@[simp] theorem j4 (n:Nat)(i:Int):D.pur n (.int i)=true:=by cases n <;> rfl
@[simp] theorem De (n:Nat)(s:Str):D.pur n (.str s)=s.cps.all (·<1114112):=by cases n <;> rfl
@[simp] theorem sK (n:Nat)(xs:List D):D.pur (n+1) (.lst xs)=xs.all (D.pur n):=rfl
@[simp] theorem xP (n:Nat)(xs:List D):D.pur (n+1) (.tup xs)=xs.all (D.pur n):=rfl
@[simp] theorem pur_ints (n:Nat)(xs:List Int):(xs.map D.int).all (D.pur n)=true:=by simp
noncomputable abbrev D.pures (xs:List D):Bool:=xs.all (D.pur 60)
@[simp] noncomputable def D.scal:D->Bool
 | .non=>true | .bl _=>true | .int _=>true | .str _=>true
 | _=>false
mutual
noncomputable def D.eq:D->D->Bool
 | .non,.non=>true
 | .int i,.int j=>decide (i=j)
 | .int i,.bl b=>decide (i=if b then 1 else 0)
 | .bl b,.int i=>decide ((if b then 1 else 0)=i)
 | .bl b,.bl c=>decide (b=c)
 | .str s,.str t=>decide (s=t)
 | .lst xs,.lst ys=>D.eqs xs ys
 | .tup xs,.tup ys=>D.eqs xs ys
 | _,_=>false
noncomputable def D.eqs:List D->List D->Bool
 | [],[]=>true
 | x::xs,y::ys=>x.eq y&&D.eqs xs ys
 | _,_=>false
end
inductive R (α:Type) where
 | ok (a:α)
 | exc (c:Nat) (fs:List (Nat×D))
 | bad
@[simp,reducible] noncomputable def R.bind {α β:Type}(r:R α)(f:α->R β):R β:=match r with
 | .ok a=>f a
 | .exc c fs=>.exc c fs
 | .bad=>.bad
noncomputable abbrev KD:=Nat×D
noncomputable def aK (j:Nat)(x:KD):Bool:=x.2.flat||(x.1 == j||(D.fb j x.2&&D.fb x.1 x.2))
noncomputable def aB (xs:List KD):Nat:=match xs.find? fun x=>!x.2.flat with
 | none=>98
 | some x=>if xs.all (aK x.1) then x.1 else 0
noncomputable def bN (k:Nat)(xs:List D)(v:KD):Nat:=if aK k v then k else if xs.all (fun d=>aK v.1 (k,d)) then v.1 else 0
noncomputable abbrev SL:Nat:=1000000
inductive Ty where
 | int | bool | str | list | tuple | dict | verr | cls (c:Nat)
inductive Op where
 | add | sub | mul | fdiv | mod | pow | shr | neg | not
 | eq | ne | lt | le | gt | ge | isN | notN | isin | nin
 | lst | tup | ix | slL | slH | slLH | rev
 | fld (f:Nat) | isi (ts:List Ty)
 | len | list | lrng | lrev | tuple | all | any | toInt | sum | srt | srtSet | symd | min1 | min2 | max2
 | index | count
inductive Wk where
 | seq | rng1 | rng2 | rngD | enum | zip | rev
inductive Tg where
 | one (i:Nat) | many (is:List Nat)
inductive Ex where
 | var (i:Nat)
 | cst (d:D)
 | op (o:Op) (es:List Ex)
 | and (a b:Ex) | or (a b:Ex)
 | ite (c a b:Ex)
 | chain (o p:Op) (a b c:Ex)
 | sl2 (a l h:Ex)
 | comp (caps:List (Option Nat)) (tg:Tg) (wk:Wk) (it:List Ex) (t:List Ex) (e:Ex)
 | call (f:Nat) (es:List Ex)
 | make (c:Nat) (es:List Ex)
 | meth (m:Nat) (o:Ex) (es:List Ex)
 | bad
 deriving Inhabited
inductive Mu where
 | append | extend | clear | insert | remove | pop0
inductive S where
 | set (i:Nat) (e:Ex)
 | setT (is:List Nat) (e:Ex)
 | ret (e:Ex)
 | ex (e:Ex)
 | iff (c:Ex) (t e:List S)
 | whl (c:Ex) (b:List S)
 | fo (tg:Tg) (wk:Wk) (it:List Ex) (b:List S)
 | brk | cnt | pass
 | rais (c:Nat) (es:List Ex)
 | mut (x:Nat) (path:List Ex) (m:Mu) (es:List Ex)
 | appPop (x y:Nat) (e:Ex)
 | put (x:Nat) (path:List Ex) (i e:Ex)
 | sfld (i:Nat) (f:Nat) (e:Ex)
 | xinit (es:List Ex)
 | tryE (b:List S) (c:Nat) (i x:Nat)
 | appAll (x xs:Nat) (e:Ex)
 | nest (x i:Nat) (j:Option Nat)
 | callS (j:Option Nat) (f:Nat) (io:List Nat) (es:List Ex)
 | bad
 deriving Inhabited
structure Fn where
 np:Nat
 io:List Nat
 ns:Nat
 dfl:List D
 body:List S
structure Cl where
 init:Option Nat
 meths:List (Nat×Nat)
 ups:List Nat
 isx:Bool
structure Pg where
 fn:Nat->Option Fn
 cl:Nat->Option Cl
inductive Run where
 | ret (k:Nat) (d:D) (outs:List KD)
 | exc (c:Nat) (fs:List (Nat×D)) (outs:List KD)
 | bad
theorem mM (n:Nat):∃f:Int->Bool,∀i,f i=true ↔ -(2 ^ n)<=i/\i<2 ^ n:=⟨fun i=>decide (-(2 ^ n)<=i/\i<2 ^ n),fun i=>decide_eq_true_iff⟩
noncomputable def dE:Int->Bool:=Classical.choose (mM 62)
theorem dU:dE i=true ↔ -(2 ^ 62)<=i/\i<2 ^ 62:=Classical.choose_spec (mM 62) i
noncomputable def bO (n:Nat)(i:Int):Option Nat:=if 0<=i then (if i<n then some i.toNat else none) else if -(n:Int)<=i then some (i+n).toNat else none
noncomputable def cR (n d:Nat):Option Int->Nat
 | none=>d
 | some i=>if 0<=i then min i.toNat n else (i+n).toNat
noncomputable def cutD {α:Type}(xs:List α)(lo hi:Option Int):List α:=(xs.drop (cR xs.length 0 lo)).take (cR xs.length xs.length hi - cR xs.length 0 lo)
@[simp] noncomputable def nz:Ty->Bool
 | .bool=>true | .int=>true | _=>false
@[simp] noncomputable def iY:Ty->Bool
 | .int=>true | _=>false
@[simp] noncomputable def iV:Ty->Bool
 | .str=>true | _=>false
@[simp] noncomputable def i8:Ty->Bool
 | .list=>true | _=>false
@[simp] noncomputable def jA:Ty->Bool
 | .tuple=>true | _=>false
@[simp] noncomputable def jB (G:Pg)(c d:Nat):Bool:=match G.cl c with
 | some K=>decide (d=c)||K.ups.contains d
 | none=>false
@[simp] noncomputable def jd (G:Pg)(c:Nat):Ty->Bool
 | .cls d=>jB G c d | _=>false
@[simp] noncomputable def ji (G:Pg)(c:Nat):Ty->Bool
 | .cls d=>jB G c d | .verr=>true | _=>false
noncomputable def aA (G:Pg):D->Ty->Bool
 | .bl _=>nz
 | .int _=>iY
 | .str _=>iV
 | .lst _=>i8
 | .tup _=>jA
 | .ins c _=>jd G c
 | .exc c _=>ji G c
 | .non=>fun _=>false
@[simp] theorem isTy_bl (G:Pg)(b:Bool)(t:Ty):aA G (.bl b) t=nz t:=rfl
@[simp] theorem isTy_int (G:Pg)(b:Int)(t:Ty):aA G (.int b) t=iY t:=rfl
@[simp] theorem isTy_str (G:Pg)(b:Str)(t:Ty):aA G (.str b) t=iV t:=rfl
@[simp] theorem isTy_lst (G:Pg)(b:List D)(t:Ty):aA G (.lst b) t=i8 t:=rfl
@[simp] theorem isTy_tup (G:Pg)(b:List D)(t:Ty):aA G (.tup b) t=jA t:=rfl
@[simp] theorem isTy_ins (G:Pg)(c:Nat)(fs:List (Nat×D))(t:Ty):aA G (.ins c fs) t=jd G c t:=rfl
@[simp] theorem isTy_exc (G:Pg)(c:Nat)(fs:List (Nat×D))(t:Ty):aA G (.exc c fs) t=ji G c t:=rfl
@[simp] theorem isTy_non (G:Pg)(t:Ty):aA G .non t=false:=rfl
noncomputable def allB:List D->Option Bool
 | []=>some true
 | .bl b::ds=>(allB ds).map fun c=>b&&c
 | _::_=>none
noncomputable def anyB:List D->Option Bool
 | []=>some false
 | .bl b::ds=>(anyB ds).map fun c=>b||c
 | _::_=>none
noncomputable def gR:List D->Option (List Int)
 | []=>some []
 | .int i::ds=>(gR ds).map fun is=>i::is
 | _::_=>none
noncomputable def D.memb (x:D)(xs:List D):Bool:=xs.any fun y=>y.eq x
noncomputable def D.find (x:D)(xs:List D):Option Nat:=xs.findIdx? fun y=>y.eq x
@[simp] noncomputable def fB (b:Bool):Option KD:=some (99,.bl b)
@[simp] noncomputable def fI (i:Int):Option KD:=some (99,.int i)
@[simp] noncomputable def lB (b:Bool):R KD:=.ok (99,.bl b)
@[simp] noncomputable def D.seq:D->Option (List D)
 | .lst xs=>some xs
 | .tup xs=>some xs
 | _=>none
@[simp] noncomputable def D.lstO:D->Option (List D)
 | .lst xs=>some xs
 | _=>none
@[simp] noncomputable def bU (f:D->Option KD):List KD->Option KD
 | [x]=>f x.2
 | _=>none
@[simp] noncomputable def bi (f:D->D->Option KD):List KD->Option KD
 | [x,y]=>f x.2 y.2
 | _=>none
@[simp] noncomputable def on3 (f:D->D->D->Option KD):List KD->Option KD
 | [x,y,z]=>f x.2 y.2 z.2
 | _=>none
@[simp] noncomputable def bF (f:Int->Int->Option KD):D->D->Option KD
 | .int i,.int j=>f i j
 | _,_=>none
@[simp] noncomputable def de:D->D->Option KD
 | .int i,.int j=>fI (i+j)
 | .lst xs,.lst ys=>if xs.length+ys.length<=SL then some (1,.lst (xs++ys)) else none
 | .tup xs,.tup ys=>if xs.length+ys.length<=SL then some (0,.tup (xs++ys)) else none
 | _,_=>none
noncomputable def ci:List D->Option (List Nat)
 | []=>some []
 | .int i::ds=>if 0<=i/\i<6 then (ci ds).map fun ns=>i.toNat::ns else none
 | _::_=>none
noncomputable def am (ns:List Nat):List Nat:=(List.range 6).filter fun k=>ns.contains k
noncomputable def ah (ns:List Nat):List D:=ns.map fun n=>.int (Int.ofNat n)
@[simp] noncomputable def jV:D->D->Option KD
 | .int i,.int j=>if dE i||dE j then fI (i * j) else none
 | _,_=>none
@[simp] noncomputable def bg (neg:Bool)(x y:D):Option KD:=if x.pur 60&&y.pur 60 then fB (if neg then !x.eq y else x.eq y) else none
@[simp] noncomputable def gE (neg:Bool)(x y:D):Option KD:=match y.seq with
 | some ys=>if x.scal&&ys.all D.scal then fB (if neg then !x.memb ys else x.memb ys) else none
 | none=>none
@[simp] noncomputable def aJ:D->D->Option KD
 | x,.int i=>match x.seq with
  | some xs=>match (bO xs.length i).bind fun j=>xs[j]? with
   | some d=>some (0,d)
   | none=>none
  | none=>none
 | _,_=>none
@[simp] noncomputable def aW (lo hi:Option Int):D->Option KD
 | .lst xs=>some (1,.lst (cutD xs lo hi))
 | .tup xs=>some (0,.tup (cutD xs lo hi))
 | _=>none
noncomputable def fg (f:Nat):D->Option KD
 | .ins _ fs=>match fs.lookup f with | some d=>some (0,d) | none=>none
 | .exc _ fs=>match fs.lookup f with | some d=>some (0,d) | none=>none
 | _=>none
@[simp] noncomputable def gS (f:List D->Option KD):D->Option KD
 | .lst xs=>f xs
 | _=>none
@[simp] noncomputable def dg (f:List D->Option KD)(x:D):Option KD:=match x.seq with | some xs=>f xs | none=>none
@[simp] noncomputable def intD:D->Option KD
 | .int i=>fI i
 | .bl b=>fI (if b then 1 else 0)
 | _=>none
@[simp] noncomputable def jN:D->Option KD
 | .bl b=>fB (!b)
 | _=>none
@[simp] noncomputable def jK:D->Option KD
 | .int i=>fI (-i)
 | _=>none
@[simp] noncomputable def fK (neg:Bool):D->Option KD
 | .non=>fB (!neg)
 | _=>fB neg
@[simp] noncomputable def mD:D->Option KD
 | .lst xs=>some (0,.tup xs)
 | .tup xs=>some (0,.tup xs)
 | _=>none
noncomputable def cq (x y:D):Option KD:=match x.seq with
 | some xs=>if y.scal&&xs.all D.scal then (match y.find xs with | some j=>fI j | none=>none) else none
 | none=>none
@[simp] theorem uM (xs:List D)(y:D):cq (.lst xs) y=if y.scal&&xs.all D.scal then (match y.find xs with | some j=>fI j | none=>none) else none:=rfl
@[simp] theorem uu (xs:List D)(y:D):cq (.tup xs) y=if y.scal&&xs.all D.scal then (match y.find xs with | some j=>fI j | none=>none) else none:=rfl
theorem Bm (h:cq x y=some z):(∃xs,x=.tup xs)\/∃xs,x=.lst xs:=by cases x <;> first | exact .inl ⟨_,rfl⟩ | exact .inr ⟨_,rfl⟩ | cases h
@[simp] noncomputable def countD (x y:D):Option KD:=match x.seq with
 | some xs=>if y.pur 60&&D.pures xs then fI (xs.countP fun z=>z.eq y) else none
 | none=>none
noncomputable def iJ (x y:D):Option KD:=match x with
 | .lst xs=>if y.scal&&xs.all D.scal then fI ((xs.countP fun z=>z.eq y:Nat):Int) else none
 | _=>none
@[simp] theorem B7 (xs:List D)(y:D):iJ (.lst xs) y=if y.scal&&xs.all D.scal then fI ((xs.countP fun z=>z.eq y:Nat):Int) else none:=rfl
theorem Dm (h:iJ x y=some z):∃xs,x=.lst xs:=by cases x <;> first | exact⟨_,rfl⟩ | cases h
noncomputable def D.isL:D->Bool
 | .lst _=>true
 | _=>false
@[simp] noncomputable def jC:D->Option KD
 | .int j=>if 0<=j/\j<=SL then some (1,.lst (ah (List.range j.toNat))) else none
 | _=>none
noncomputable def aU (G:Pg):Op->List KD->Option KD
 | .lst,vs=>some (aB vs+1,.lst (vs.map (·.2)))
 | .tup,vs=>some (aB vs+1,.tup (vs.map (·.2)))
 | .add,vs=>bi de vs
 | .sub,vs=>bi (bF fun i j=>fI (i - j)) vs
 | .mul,vs=>bi jV vs
 | .fdiv,vs=>bi (bF fun i j=>if 0<j/\j<1073741824 then fI (i / j) else none) vs
 | .mod,vs=>bi (bF fun i j=>if 0<j then fI (i % j) else none) vs
 | .pow,vs=>bi (bF fun i j=>if 0<=j/\j<=1000000/\dE i=true then fI (i ^ j.toNat) else none) vs
 | .shr,vs=>bi (bF fun i j=>if 0<=j then fI (i / 2 ^ j.toNat) else none) vs
 | .neg,vs=>bU jK vs
 | .not,vs=>bU jN vs
 | .eq,vs=>bi (bg false) vs
 | .ne,vs=>bi (bg true) vs
 | .lt,vs=>bi (bF fun i j=>fB (decide (i<j))) vs
 | .le,vs=>bi (bF fun i j=>fB (decide (i<=j))) vs
 | .gt,vs=>bi (bF fun i j=>fB (decide (j<i))) vs
 | .ge,vs=>bi (bF fun i j=>fB (decide (j<=i))) vs
 | .isN,vs=>bU (fK false) vs
 | .notN,vs=>bU (fK true) vs
 | .isin,vs=>bi (gE false) vs
 | .nin,vs=>bi (gE true) vs
 | .ix,vs=>bi aJ vs
 | .slL,vs=>bi (fun x y=>match y with | .int i=>aW (some i) none x | _=>none) vs
 | .slH,vs=>bi (fun x y=>match y with | .int i=>aW none (some i) x | _=>none) vs
 | .slLH,_=>none
 | .rev,vs=>bU (gS fun xs=>some (1,.lst xs.reverse)) vs
 | .fld f,vs=>bU (fg f) vs
 | .isi ts,vs=>bU (fun x=>fB (ts.any (aA G x))) vs
 | .len,vs=>bU (dg fun xs=>fI xs.length) vs
 | .list,vs=>bU (dg fun xs=>some (1,.lst xs)) vs
 | .lrng,vs=>bU jC vs
 | .lrev,_=>none
 | .tuple,vs=>bU mD vs
 | .all,vs=>bU (gS fun xs=>match allB xs with | some b=>fB b | none=>none) vs
 | .any,vs=>bU (gS fun xs=>match anyB xs with | some b=>fB b | none=>none) vs
 | .toInt,vs=>bU intD vs
 | .sum,_=>none
 | .srt,_=>none
 | .srtSet,vs=>bU (gS fun xs=>match ci xs with | some ns=>some (1,.lst (ah (am ns))) | none=>none) vs
 | .symd,_=>none
 | .min1,_=>none
 | .min2,_=>none
 | .max2,_=>none
 | .index,vs=>bi cq vs
 | .count,vs=>bi iJ vs
@[simp] theorem Gf (G:Pg)(vs:List KD):aU G .lst vs=some (aB vs+1,.lst (vs.map (·.2))):=rfl
@[simp] theorem wH (G:Pg)(vs:List KD):aU G .tup vs=some (aB vs+1,.tup (vs.map (·.2))):=rfl
@[simp] theorem EV (G:Pg)(vs:List KD):aU G .add vs=bi de vs:=rfl
@[simp] theorem kh (G:Pg)(vs:List KD):aU G .sub vs=bi (bF fun i j=>fI (i - j)) vs:=rfl
@[simp] theorem zp (G:Pg)(vs:List KD):aU G .mul vs=bi jV vs:=rfl
@[simp] theorem opD_fdiv (G:Pg)(vs:List KD):aU G .fdiv vs=bi (bF fun i j=>if 0<j/\j<1073741824 then fI (i / j) else none) vs:=rfl
@[simp] theorem opD_mod (G:Pg)(vs:List KD):aU G .mod vs=bi (bF fun i j=>if 0<j then fI (i % j) else none) vs:=rfl
@[simp] theorem opD_pow (G:Pg)(vs:List KD):aU G .pow vs=bi (bF fun i j=>if 0<=j/\j<=1000000/\dE i=true then fI (i ^ j.toNat) else none) vs:=rfl
@[simp] theorem opD_shr (G:Pg)(vs:List KD):aU G .shr vs=bi (bF fun i j=>if 0<=j then fI (i / 2 ^ j.toNat) else none) vs:=rfl
@[simp] theorem GU (G:Pg)(vs:List KD):aU G .neg vs=bU jK vs:=rfl
@[simp] theorem AC (G:Pg)(vs:List KD):aU G .not vs=bU jN vs:=rfl
@[simp] theorem DZ (G:Pg)(vs:List KD):aU G .eq vs=bi (bg false) vs:=rfl
@[simp] theorem DL (G:Pg)(vs:List KD):aU G .ne vs=bi (bg true) vs:=rfl
@[simp] theorem opD_lt (G:Pg)(vs:List KD):aU G .lt vs=bi (bF fun i j=>fB (decide (i<j))) vs:=rfl
@[simp] theorem opD_le (G:Pg)(vs:List KD):aU G .le vs=bi (bF fun i j=>fB (decide (i<=j))) vs:=rfl
@[simp] theorem opD_gt (G:Pg)(vs:List KD):aU G .gt vs=bi (bF fun i j=>fB (decide (j<i))) vs:=rfl
@[simp] theorem opD_ge (G:Pg)(vs:List KD):aU G .ge vs=bi (bF fun i j=>fB (decide (j<=i))) vs:=rfl
@[simp] theorem xy (G:Pg)(vs:List KD):aU G .isN vs=bU (fK false) vs:=rfl
@[simp] theorem A9 (G:Pg)(vs:List KD):aU G .notN vs=bU (fK true) vs:=rfl
@[simp] theorem opD_isin (G:Pg)(vs:List KD):aU G .isin vs=bi (gE false) vs:=rfl
@[simp] theorem opD_nin (G:Pg)(vs:List KD):aU G .nin vs=bi (gE true) vs:=rfl
@[simp] theorem C8 (G:Pg)(vs:List KD):aU G .ix vs=bi aJ vs:=rfl
@[simp] theorem opD_slL (G:Pg)(vs:List KD):aU G .slL vs=bi (fun x y=>match y with | .int i=>aW (some i) none x | _=>none) vs:=rfl
@[simp] theorem opD_slH (G:Pg)(vs:List KD):aU G .slH vs=bi (fun x y=>match y with | .int i=>aW none (some i) x | _=>none) vs:=rfl
@[simp] theorem opD_slLH (G:Pg)(vs:List KD):aU G .slLH vs=none:=rfl
@[simp] theorem opD_rev (G:Pg)(vs:List KD):aU G .rev vs=bU (gS fun xs=>some (1,.lst xs.reverse)) vs:=rfl
@[simp] theorem CI (G:Pg)(f:Nat)(vs:List KD):aU G (.fld f) vs=bU (fg f) vs:=rfl
@[simp] theorem opD_isi (G:Pg)(ts:List Ty)(vs:List KD):aU G (.isi ts) vs=bU (fun x=>fB (ts.any (aA G x))) vs:=rfl
@[simp] theorem Bs (G:Pg)(vs:List KD):aU G .len vs=bU (dg fun xs=>fI xs.length) vs:=rfl
@[simp] theorem pL (G:Pg)(vs:List KD):aU G .list vs=bU (dg fun xs=>some (1,.lst xs)) vs:=rfl
@[simp] theorem opD_lrng (G:Pg)(vs:List KD):aU G .lrng vs=bU jC vs:=rfl
@[simp] theorem opD_lrev (G:Pg)(vs:List KD):aU G .lrev vs=none:=rfl
@[simp] theorem zV (G:Pg)(vs:List KD):aU G .tuple vs=bU mD vs:=rfl
@[simp] theorem yH (G:Pg)(vs:List KD):aU G .all vs=bU (gS fun xs=>match allB xs with | some b=>fB b | none=>none) vs:=rfl
@[simp] theorem G2 (G:Pg)(vs:List KD):aU G .any vs=bU (gS fun xs=>match anyB xs with | some b=>fB b | none=>none) vs:=rfl
@[simp] theorem DS (G:Pg)(vs:List KD):aU G .toInt vs=bU intD vs:=rfl
@[simp] theorem opD_sum (G:Pg)(vs:List KD):aU G .sum vs=none:=rfl
@[simp] theorem opD_srt (G:Pg)(vs:List KD):aU G .srt vs=none:=rfl
@[simp] theorem DX (G:Pg)(vs:List KD):aU G .srtSet vs=bU (gS fun xs=>match ci xs with | some ns=>some (1,.lst (ah (am ns))) | none=>none) vs:=rfl
@[simp] theorem opD_symd (G:Pg)(vs:List KD):aU G .symd vs=none:=rfl
@[simp] theorem opD_min1 (G:Pg)(vs:List KD):aU G .min1 vs=none:=rfl
@[simp] theorem opD_min2 (G:Pg)(vs:List KD):aU G .min2 vs=none:=rfl
@[simp] theorem opD_max2 (G:Pg)(vs:List KD):aU G .max2 vs=none:=rfl
@[simp] theorem GC (G:Pg)(vs:List KD):aU G .index vs=bi cq vs:=rfl
@[simp] theorem D9 (G:Pg)(vs:List KD):aU G .count vs=bi iJ vs:=rfl
@[simp,reducible] noncomputable def R.of {α:Type}:Option α->R α
 | some a=>.ok a
 | none=>.bad
theorem cP (h:(none:Option α)=some x):False:=nomatch h
noncomputable def pf (f:D->Option (List D)):List KD->Option (List D)
 | []=>none
 | x::r=>match r with
  | []=>f x.2
  | _::_=>none
noncomputable def sR (f:D->D->Option (List D)):List KD->Option (List D)
 | []=>none
 | x::r=>match r with
  | []=>none
  | y::t=>match t with
   | []=>f x.2 y.2
   | _::_=>none
theorem uT (h:pf f vs=some ds):∃x,vs=[x]/\f x.2=some ds:=by
 cases vs with
 | nil=>exact (cP h).elim
 | cons x r=>
  cases r with
  | nil=>exact⟨x,rfl,h⟩
  | cons _ _=>exact (cP h).elim
theorem BV (h:sR f vs=some ds):∃x y,vs=[x,y]/\f x.2 y.2=some ds:=by
 cases vs with
 | nil=>exact (cP h).elim
 | cons x r=>
  cases r with
  | nil=>exact (cP h).elim
  | cons y t=>
   cases t with
   | nil=>exact⟨x,y,rfl,h⟩
   | cons _ _=>exact (cP h).elim
noncomputable def gL:D->Option Int
 | .int i=>some i
 | _=>none
theorem yy (h:gL d=some i):d=.int i:=by
 cases d <;> first | exact (cP h).elim | exact congrArg D.int (bV h)
noncomputable def iZ (d:D):Option (List D):=(gL d).bind fun j=>if dE j=true then some ((List.range j.toNat).map fun (n:Nat)=>.int n) else none
noncomputable def mw (d e:D):Option (List D):=(gL d).bind fun i=>(gL e).bind fun j=>if dE i=true/\dE j=true then some ((List.range (j - i).toNat).map fun (n:Nat)=>.int (i+n)) else none
noncomputable def iU (x:D):Option (List D):=x.seq.map fun xs=>xs.mapIdx fun n d=>.tup [.int n,d]
noncomputable def lE (x y:D):Option (List D):=x.lstO.bind fun xs=>y.lstO.map fun ys=>(xs.zip ys).map fun p=>.tup [p.1,p.2]
noncomputable def dD:Wk->List KD->Option (List D)
 | .seq=>pf D.seq
 | .rng1=>pf iZ
 | .rng2=>sR mw
 | .enum=>pf iU
 | .zip=>sR lE
 | .rngD=>fun _=>none
 | .rev=>fun _=>none
noncomputable abbrev Sl:=List (Option D)
@[simp] noncomputable def cx (a:Sl):Option Nat->Option D
 | some i=>(a[i]?).join
 | none=>none
@[simp] noncomputable def di {α:Type}(f:D->α):List Nat->List D->List (Option α)->List (Option α)
 | i::is,d::ds,a=>di f is ds (a.set i (some (f d)))
 | _,_,a=>a
@[simp] noncomputable def dm {α:Type}(f:D->α)(a:List (Option α)):Tg->D->Option (List (Option α))
 | .one i,d=>some (a.set i (some (f d)))
 | .many is,d=>match d with
  | .tup ds=>if ds.length=is.length then some (di f is ds a) else none
  | _=>none
noncomputable def au (f:D->R (Option KD)):List D->R (List KD)
 | []=>.ok []
 | x::xs=>(f x).bind fun o=>(au f xs).bind fun ys=>.ok (match o with | some y=>y::ys | none=>ys)
@[simp] noncomputable def R.bl (r:R KD):R Bool:=r.bind fun x=>match x.2 with
 | .bl b=>.ok b
 | _=>.bad
@[simp] noncomputable def R.nox {α:Type}(r:R α):R α:=match r with | .exc _ _=>.bad | r=>r
noncomputable def gD {α:Type}(d:D)(t e b:α):α:=match d with
 | .bl c=>if c then t else e
 | _=>b
@[simp] theorem jc (c:Bool)(t e b:α):gD (.bl c) t e b=if c then t else e:=rfl
section
variable (G:Pg)(cl:Nat->List KD->Run)
@[simp] noncomputable def iF:Run->R KD
 | .ret k d []=>.ok (k,d)
 | .exc c fs []=>.exc c fs
 | _=>.bad
@[simp] noncomputable def fill (F:Fn)(vs:List KD):List KD:=vs++(F.dfl.drop (F.dfl.length - (F.np - vs.length))).map fun d=>(99,d)
@[simp] noncomputable def cZ (f m:Nat):Option Fn:=match G.fn f with
 | some F=>if F.io=[]/\m<=F.np/\F.np - m<=F.dfl.length then some F else none
 | none=>none
noncomputable def aY (c m:Nat):Option (Nat×Fn×D):=match G.cl c with
 | some C=>match C.init with
  | some f=>match G.fn f with
   | some F=>if F.io=[0]/\m+1<=F.np/\F.np - (m+1)<=F.dfl.length/\m<=50 then some (f,F,if C.isx then .exc c [] else .ins c []) else none
   | none=>none
  | none=>none
 | none=>none
@[simp] noncomputable def made:Run->R KD
 | .ret _ .non [x]=>.ok x
 | .exc c fs _=>.exc c fs
 | _=>.bad
@[simp] noncomputable def f8 (p:Nat×Fn×D)(vs:List KD):R KD:=made (cl p.1 ((1,p.2.2)::fill { p.2.1 with np:=p.2.1.np - 1 } vs))
noncomputable def bC (m k:Nat):D->Option (Nat×Fn)
 | .ins c fs=>match G.cl c with
  | some C=>match C.meths.lookup m with
   | some f=>match G.fn f with
    | some F=>if F.io=[]/\fs.lookup m=none/\k+1<=F.np/\F.np - (k+1)<=F.dfl.length then some (f,F) else none
    | none=>none
   | none=>none
  | none=>none
 | _=>none
@[simp] noncomputable def kO (i:Int)(x:D):D->R KD
 | .int j=>R.of (aW (some i) (some j) x)
 | _=>.bad
mutual
noncomputable def eval (a:Sl):Ex->R KD
 | .var i=>match a[i]? with
  | some (some d)=>.ok (0,d)
  | _=>.bad
 | .cst d=>.ok (99,d)
 | .op o es=>(evals a es).bind fun vs=>R.of (aU G o vs)
 | .and x y=>(eval a x).bind fun v=>gD v.2 (eval a y) (lB false) .bad
 | .or x y=>(eval a x).bind fun v=>gD v.2 (lB true) (eval a y) .bad
 | .ite c x y=>(eval a c).bind fun v=>gD v.2 (eval a x) (eval a y) .bad
 | .chain o p x y z=>(eval a x).bind fun u=>(eval a y).bind fun v=>(R.of (aU G o [u,v])).bind fun b=>gD b.2 ((eval a z).bind fun w=>R.of (aU G p [v,w])) (lB false) .bad
 | .sl2 x y z=>(eval a x).bind fun u=>(eval a y).bind fun v=>match v.2 with
  | .int i=>(eval a z).bind fun w=>kO i u.2 w.2
  | _=>.bad
 | .comp caps tg wk it t e=>(evals a it).bind fun vs=>match dD wk vs with
  | some xs=>if xs.length<=SL then
    ((au (fun x=>match dm id (caps.map (cx a)) tg x with
     | some b=>((evals b t).bind fun ts=>match ts with
      | []=>(eval b e).bind fun y=>.ok (some y)
      | [t]=>gD t.2 ((eval b e).bind fun y=>.ok (some y)) (.ok none) .bad
      | _=>.bad)
     | none=>.bad) xs).nox).bind fun ys=>.ok (aB ys+1,.lst (ys.map (·.2)))
   else .bad
  | none=>.bad
 | .call f es=>(R.of (cZ G f es.length)).bind fun F=>(evals a es).bind fun vs=>iF (cl f (fill F vs))
 | .make c es=>(R.of (aY G c es.length)).bind fun p=>(evals a es).bind (f8 cl p)
 | .meth m o es=>(eval a o).bind fun x=>(R.of (bC G m es.length x.2)).bind fun p=>(evals a es).bind fun vs=>iF (cl p.1 (fill p.2 (x::vs)))
 | .bad=>.bad
noncomputable def evals (a:Sl):List Ex->R (List KD)
 | []=>.ok []
 | e::es=>(eval a e).bind fun x=>(evals a es).bind fun xs=>.ok (x::xs)
end
@[simp] theorem bB (a:Sl):evals G cl a []=.ok []:=rfl
@[simp] theorem bj (a:Sl)(e:Ex)(es:List Ex):evals G cl a (e::es)=(eval G cl a e).bind fun x=>(evals G cl a es).bind fun xs=>.ok (x::xs):=rfl
noncomputable def compF (b0:Sl)(tg:Tg)(t:List Ex)(e:Ex)(x:D):R (Option KD):=match dm id b0 tg x with
 | some b=>(evals G cl b t).bind fun ts=>match ts with
  | []=>(eval G cl b e).bind fun y=>.ok (some y)
  | [t]=>gD t.2 ((eval G cl b e).bind fun y=>.ok (some y)) (.ok none) .bad
  | _=>.bad
 | none=>.bad
@[simp] theorem iT (a:Sl)(i:Nat):eval G cl a (.var i)=match a[i]? with
  | some (some d)=>.ok (0,d)
  | _=>.bad:=rfl
@[simp] theorem kY (a:Sl)(d:D):eval G cl a (.cst d)=.ok (99,d):=rfl
@[simp] theorem cj (a:Sl)(o:Op)(es:List Ex):eval G cl a (.op o es)=(evals G cl a es).bind fun vs=>R.of (aU G o vs):=rfl
@[simp] theorem lI (a:Sl)(x y:Ex):eval G cl a (.and x y)=(eval G cl a x).bind fun v=>gD v.2 (eval G cl a y) (lB false) .bad:=rfl
@[simp] theorem mn (a:Sl)(x y:Ex):eval G cl a (.or x y)=(eval G cl a x).bind fun v=>gD v.2 (lB true) (eval G cl a y) .bad:=rfl
@[simp] theorem sj (a:Sl)(c x y:Ex):eval G cl a (.ite c x y)=(eval G cl a c).bind fun v=>gD v.2 (eval G cl a x) (eval G cl a y) .bad:=rfl
@[simp] theorem s0 (a:Sl)(o p:Op)(x y z:Ex):eval G cl a (.chain o p x y z)=(eval G cl a x).bind fun u=>(eval G cl a y).bind fun v=>(R.of (aU G o [u,v])).bind fun b=>
  gD b.2 ((eval G cl a z).bind fun w=>R.of (aU G p [v,w])) (lB false) .bad:=rfl
@[simp] theorem qf (a:Sl)(x y z:Ex):eval G cl a (.sl2 x y z)=(eval G cl a x).bind fun u=>(eval G cl a y).bind fun v=>match v.2 with
  | .int i=>(eval G cl a z).bind fun w=>kO i u.2 w.2
  | _=>.bad:=rfl
@[simp] theorem kK (a:Sl)(f:Nat)(es:List Ex):eval G cl a (.call f es)=(R.of (cZ G f es.length)).bind fun F=>(evals G cl a es).bind fun vs=>iF (cl f (fill F vs)):=rfl
@[simp] theorem lx (a:Sl)(f:Nat)(es:List Ex):eval G cl a (.make f es)=(R.of (aY G f es.length)).bind fun p=>(evals G cl a es).bind (f8 cl p):=rfl
@[simp] theorem kH (a:Sl)(m:Nat)(o:Ex)(es:List Ex):eval G cl a (.meth m o es)=(eval G cl a o).bind fun x=>(R.of (bC G m es.length x.2)).bind fun p=>(evals G cl a es).bind fun vs=>iF (cl p.1 (fill p.2 (x::vs))):=rfl
@[simp] theorem gp (a:Sl):eval G cl a .bad=.bad:=rfl
@[simp] theorem kT (a:Sl)(caps:List (Option Nat))(tg:Tg)(wk:Wk)(it t:List Ex)(e:Ex):eval G cl a (.comp caps tg wk it t e)=(evals G cl a it).bind fun vs=>match dD wk vs with
  | some xs=>if xs.length<=SL then ((au (compF G cl (caps.map (cx a)) tg t e) xs).nox).bind fun ys=>.ok (aB ys+1,.lst (ys.map (·.2))) else .bad
  | none=>.bad:=by
 rfl
noncomputable abbrev Fr:=List (Option KD)
@[simp] noncomputable def Fr.sl (A:Fr):Sl:=A.map (Option.map (·.2))
inductive O where
 | nx (A:Fr) | ret (k:Nat) (d:D) (A:Fr) | brk (A:Fr) | cnt (A:Fr) | exc (c:Nat) (fs:List (Nat×D)) (A:Fr) | bad
mutual
@[simp] noncomputable def Ex.names:Ex->List Nat
 | .var i=>[i]
 | .cst _=>[]
 | .op _ es=>Ex.namess es
 | .and a b=>a.names++b.names
 | .or a b=>a.names++b.names
 | .ite c a b=>c.names++(a.names++b.names)
 | .chain _ _ a b c=>a.names++(b.names++c.names)
 | .sl2 a b c=>a.names++(b.names++c.names)
 | .comp caps _ _ it _ _=>caps.filterMap id++Ex.namess it
 | .call _ es=>Ex.namess es
 | .make _ es=>Ex.namess es
 | .meth _ o es=>o.names++Ex.namess es
 | .bad=>[]
@[simp] noncomputable def Ex.namess:List Ex->List Nat
 | []=>[]
 | e::es=>e.names++Ex.namess es
end
@[simp] noncomputable def frz1 (A:Fr)(i:Nat):Fr:=match A[i]? with
 | some (some (_,d))=>A.set i (some (0,d))
 | _=>A
@[simp] noncomputable def frz (ns:List Nat)(A:Fr):Fr:=ns.foldl frz1 A
noncomputable def bX (A:Fr):Fr:=A.map (Option.map fun x=>(0,x.2))
@[simp] noncomputable def settle (ns:List Nat)(A:Fr)(x:KD):Fr:=if x.2.fb x.1 then A else frz ns A
@[simp] noncomputable def excA (A:Fr)(fs:List (Nat×D)):Fr:=if fs.all fun p=>p.2.flat then A else bX A
@[simp] noncomputable def putF (f:Nat)(d:D):List (Nat×D)->List (Nat×D)
 | []=>[(f,d)]
 | (g,e)::r=>if g=f then (g,d)::r else (g,e)::putF f d r
noncomputable def be (body:D->Fr->O):List D->Fr->O
 | [],A=>.nx A
 | x::xs,A=>match body x A with
  | .nx A=>be body xs A
  | .cnt A=>be body xs A
  | .brk A=>.nx A
  | o=>o
noncomputable def iy (test:Fr->R Bool)(body:Fr->O):Nat->Fr->O
 | 0,_=>.bad
 | n+1,A=>match test A with
  | .ok true=>match body A with
   | .nx A=>iy test body n A
   | .cnt A=>iy test body n A
   | .brk A=>.nx A
   | o=>o
  | .ok false=>.nx A
  | .exc c fs=>.exc c fs (excA A fs)
  | .bad=>.bad
@[simp] noncomputable def R.toO {α:Type}(r:R α)(A:Fr)(f:α->O):O:=match r with
 | .ok a=>f a
 | .exc c fs=>.exc c fs (excA A fs)
 | .bad=>.bad
@[simp] noncomputable def O.seq (o:O)(f:Fr->O):O:=match o with
 | .nx A=>f A
 | o=>o
noncomputable def hG (m:Mu)(k:Nat)(xs:List D)(vs:List KD):Option KD:=match m,vs with
 | .append,[v]=>if xs.length<SL then some (bN k xs v+1,.lst (xs++[v.2])) else none
 | .extend,[v]=>match v.2 with
  | .tup ys=>if ys.all D.scal=true/\xs.length+ys.length<=SL then some (1,.lst (xs++ys)) else none
  | .lst ys=>if 0<v.1/\ys.all D.scal=true/\xs.length+ys.length<=SL then some (1,.lst (xs++ys)) else none
  | _=>none
 | .clear,[]=>some (99,.lst [])
 | .insert,[(_,.int i),v]=>if xs.length<SL then some (bN k xs v+1,.lst (xs.insertIdx (cR xs.length 0 (some i)) v.2)) else none
 | .remove,[v]=>if v.2.pur 60&&D.pures xs then (v.2.find xs).map fun j=>(k+1,.lst (xs.eraseIdx j)) else none
 | .pop0,[]=>if xs=[] then none else some (k+1,.lst xs.dropLast)
 | _,_=>none
@[simp] theorem tZ (k:Nat)(xs:List D)(v:KD):hG .append k xs [v]=if xs.length<SL then some (bN k xs v+1,.lst (xs++[v.2])) else none:=rfl
@[simp] theorem Ab (k:Nat)(xs:List D):hG .clear k xs []=some (99,.lst []):=rfl
@[simp] theorem qA (k:Nat)(xs:List D)(v:KD):hG .extend k xs [v]=match v.2 with
  | .tup ys=>if ys.all D.scal=true/\xs.length+ys.length<=SL then some (1,.lst (xs++ys)) else none
  | .lst ys=>if 0<v.1/\ys.all D.scal=true/\xs.length+ys.length<=SL then some (1,.lst (xs++ys)) else none
  | _=>none:=rfl
noncomputable def fS (v:D):List D->Option (List D)
 | []=>some []
 | .lst xs::ds=>if xs.length<SL then (fS v ds).map fun es=>.lst (xs++[v])::es else none
 | _::_=>none
section
variable (io:List Nat)
@[simp] noncomputable def b7 (i:Nat)(x:KD)(A:Fr):O:=if io.contains i=false/\i<A.length then .nx (A.set i (some x)) else .bad
@[simp] noncomputable def setFs:List Nat->List KD->Fr->O
 | [],[],A=>.nx A
 | i::is,x::xs,A=>(b7 io i x A).seq (setFs is xs)
 | _,_,_=>.bad
@[simp] noncomputable def bZ (tg:Tg)(d:D)(A:Fr):O:=match tg,d with
 | .one i,d=>b7 io i (0,d) A
 | .many is,.tup ds=>setFs io is (ds.map fun d=>(0,d)) A
 | _,_=>.bad
@[simp] noncomputable def fO (io:List Nat)(is:List Nat)(e:Ex)(A:Fr)(x:KD):O:=match x.2 with
 | .tup ds=>setFs io is (ds.map fun d=>(0,d)) (settle e.names A x)
 | _=>.bad
noncomputable def b8 (A:Fr)(e:Ex)(r:R KD):O:=match e with
 | .var i=>match A[i]? with
  | some (some x)=>.ret x.1 x.2 (A.set i none)
  | _=>.bad
 | e=>r.toO A fun x=>.ret x.1 x.2 (settle e.names A x)
@[simp] theorem t5 (A:Fr)(i:Nat)(r:R KD):b8 A (.var i) r=match A[i]? with
  | some (some x)=>.ret x.1 x.2 (A.set i none)
  | _=>.bad:=rfl
@[simp] theorem retO_cst (A:Fr)(d:D)(r:R KD):b8 A (.cst d) r=r.toO A fun x=>.ret x.1 x.2 (settle (Ex.cst d).names A x):=rfl
@[simp] theorem retO_op (A:Fr)(o:Op)(es:List Ex)(r:R KD):b8 A (.op o es) r=r.toO A fun x=>.ret x.1 x.2 (settle (Ex.op o es).names A x):=rfl
@[simp] theorem retO_and (A:Fr)(x y:Ex)(r:R KD):b8 A (.and x y) r=r.toO A fun z=>.ret z.1 z.2 (settle (Ex.and x y).names A z):=rfl
@[simp] theorem retO_or (A:Fr)(x y:Ex)(r:R KD):b8 A (.or x y) r=r.toO A fun z=>.ret z.1 z.2 (settle (Ex.or x y).names A z):=rfl
@[simp] theorem retO_ite (A:Fr)(c x y:Ex)(r:R KD):b8 A (.ite c x y) r=r.toO A fun z=>.ret z.1 z.2 (settle (Ex.ite c x y).names A z):=rfl
@[simp] theorem retO_chain (A:Fr)(o p:Op)(x y w:Ex)(r:R KD):b8 A (.chain o p x y w) r=r.toO A fun z=>.ret z.1 z.2 (settle (Ex.chain o p x y w).names A z):=rfl
@[simp] theorem retO_sl2 (A:Fr)(x y w:Ex)(r:R KD):b8 A (.sl2 x y w) r=r.toO A fun z=>.ret z.1 z.2 (settle (Ex.sl2 x y w).names A z):=rfl
@[simp] theorem retO_comp (A:Fr)(caps:List (Option Nat))(tg:Tg)(wk:Wk)(it t:List Ex)(e:Ex)(r:R KD):b8 A (.comp caps tg wk it t e) r=r.toO A fun z=>.ret z.1 z.2 (settle (Ex.comp caps tg wk it t e).names A z):=rfl
@[simp] theorem retO_call (A:Fr)(f:Nat)(es:List Ex)(r:R KD):b8 A (.call f es) r=r.toO A fun z=>.ret z.1 z.2 (settle (Ex.call f es).names A z):=rfl
@[simp] theorem retO_make (A:Fr)(f:Nat)(es:List Ex)(r:R KD):b8 A (.make f es) r=r.toO A fun z=>.ret z.1 z.2 (settle (Ex.make f es).names A z):=rfl
@[simp] theorem retO_meth (A:Fr)(f:Nat)(o:Ex)(es:List Ex)(r:R KD):b8 A (.meth f o es) r=r.toO A fun z=>.ret z.1 z.2 (settle (Ex.meth f o es).names A z):=rfl
@[simp] theorem retO_bad (A:Fr)(r:R KD):b8 A .bad r=r.toO A fun z=>.ret z.1 z.2 (settle Ex.bad.names A z):=rfl
@[simp] noncomputable def fM (ns:List Nat)(A:Fr)(x:KD):O:=match x with
 | (_+1,.exc c fs)=>.exc c fs (excA (settle ns A x) fs)
 | _=>.bad
@[simp] noncomputable def fJ (m:Mu)(vs:List KD)(A:Fr)(x:Nat):Option (Option KD)->O
 | some (some (k+1,.lst xs))=>match hG m k xs vs with
  | some y=>.nx (A.set x (some y))
  | none=>.bad
 | _=>.bad
noncomputable def sZ (m:Mu)(vs:List KD)(A:Fr)(x:Nat)(i:Int):Option (Option KD)->O
 | some (some (k+2,.lst xs))=>match bO xs.length i with
  | some j=>match xs[j]? with
   | some (.lst ys)=>match hG m k ys vs with
    | some y=>.nx (A.set x (some (bN (k+1) (xs.eraseIdx j) y+1,.lst (xs.set j y.2))))
    | none=>.bad
   | _=>.bad
  | none=>.bad
 | _=>.bad
@[simp] noncomputable def bL:Option (Option KD)->Bool
 | some (some (_,.lst _))=>true
 | _=>false
@[simp] noncomputable def en (m:Mu)(A:Fr)(x:Nat)(es:List Ex)(ps vs:List KD):O:=
 let A1:=if vs.all (fun v=>v.2.fb v.1) then A else frz (Ex.namess es) A
 match ps with
 | []=>fJ m vs A1 x A1[x]?
 | [(_,.int i)]=>sZ m vs A1 x i A1[x]?
 | _=>.bad
noncomputable def fY (A:Fr)(x y:Nat)(v:KD):O:=match v.2,A[x]?,A[y]? with
 | .int i,some (some (k+1,.lst xs)),some (some (_+1,.lst ys))=>match bO ys.length i with
  | some j=>match ys[j]? with
   | some d=>if x≠y/\xs.length<SL /\ -(2 ^ 63)<=i/\i<2 ^ 63/\ys.all D.scal=true then .nx ((A.set y (some (1,.lst (ys.eraseIdx j)))).set x (some (1,.lst (xs++[d])))) else .bad
   | none=>.bad
  | none=>.bad
 | _,_,_=>.bad
@[simp] noncomputable def hZ (A:Fr)(x:Nat)(v w:KD):Option (Option KD)->O
 | some (some (k+1,.lst xs))=>match w.2 with
  | .int i=>if 0<=i/\i<xs.length then .nx (A.set x (some (1,.lst (xs.set i.toNat v.2)))) else .bad
  | _=>.bad
 | _=>.bad
@[simp] noncomputable def gc (A:Fr)(x f:Nat)(v:KD):Option (Option KD)->O
 | some (some (k+1,.ins c fs))=>if fs.length<50 then .nx (A.set x (some (bN k (fs.map (·.2)) v+1,.ins c (putF f v.2 fs)))) else .bad
 | some (some (k+1,.exc c fs))=>if fs.length<50 then .nx (A.set x (some (bN k (fs.map (·.2)) v+1,.exc c (putF f v.2 fs)))) else .bad
 | _=>.bad
@[simp] noncomputable def gI (A:Fr):List KD->O
 | (_,.exc _ _)::_=>.nx A
 | _=>.bad
@[simp] noncomputable def h8 (G:Pg)(io:List Nat)(c i x:Nat):O->O
 | .exc c' fs A'=>if aA G (.exc c' fs) (.cls c)=true then (b7 io x (0,.exc c' fs) A').seq fun A=>if io.contains i=false/\i≠x/\i<A.length then .nx (A.set i none) else .bad else .bad
 | o=>o
@[simp] noncomputable def gi (io:List Nat)(A:Fr)(x y:Nat)(v:KD):Option (Option KD)->O
 | some (some (k+2,.lst ds))=>if v.2.flat=true/\io.contains x=false/\x≠y/\x<A.length then match fS v.2 ds with
   | some es=>.nx ((A.set y (some (k+2,.lst es))).set x none)
   | none=>.bad
  else .bad
 | _=>.bad
noncomputable def g9:Option (Option KD)->Option (Nat×List D)
 | some (some (k+2,.lst ds))=>some (k,ds)
 | _=>none
noncomputable def gK:Option (Option KD)->Option Nat
 | some (some (_,.int n))=>if 0<=n then some n.toNat else none
 | _=>none
noncomputable def mj:Option (Option KD)->Option D
 | some (some x)=>if x.2.scal=true then some x.2 else none
 | _=>none
noncomputable def cY (A:Fr)(ys:List D):Option Nat->Option (List D)
 | none=>if ys=[] then none else some ys.dropLast
 | some j=>(mj A[j]?).bind fun d=>if ys.length<SL then some (ys++[d]) else none
noncomputable def cH (A:Fr)(x i:Nat)(j:Option Nat):Option Fr:=(g9 A[x]?).bind fun p=>(gK A[i]?).bind fun n=>(p.2[n]?).bind fun d=>d.lstO.bind fun ys=>if ys.all D.scal=true then (cY A ys j).map fun zs=>A.set x (some (p.1+2,.lst (p.2.set n (.lst zs)))) else none
noncomputable def O.of:Option Fr->O
 | some A=>.nx A
 | none=>.bad
@[simp] noncomputable def ls (G:Pg)(loop:List D->Fr->O)(wk:Wk)(it:List Ex)(A:Fr)(vs:List KD):O:=match dD wk vs with
 | some xs=>if xs.length<=SL then loop xs (frz (Ex.namess it) A) else .bad
 | none=>.bad
mutual
noncomputable def exec (A:Fr):S->O
 | .set i e=>(eval G cl A.sl e).toO A fun x=>b7 io i x (settle e.names A x)
 | .setT is e=>(eval G cl A.sl e).toO A (fO io is e A)
 | .ret e=>b8 A e (eval G cl A.sl e)
 | .ex e=>(eval G cl A.sl e).toO A fun x=>.nx (settle e.names A x)
 | .iff c t e=>((eval G cl A.sl c).bl).toO A fun b=>if b then execs A t else execs A e
 | .whl c b=>iy (fun A=>(eval G cl A.sl c).bl) (fun A=>execs A b) 10000 A
 | .fo tg wk it b=>(evals G cl A.sl it).toO A (ls G (be fun x A=>(bZ io tg x A).seq fun A=>execs A b) wk it A)
 | .brk=>.brk A
 | .cnt=>.cnt A
 | .pass=>.nx A
 | .rais c es=>(eval G cl A.sl (.make c es)).toO A (fM (Ex.make c es).names A)
 | .mut x path m es=>if bL A[x]? then (evals G cl A.sl path).toO A fun ps=>(evals G cl A.sl es).toO A (en m A x es ps) else .bad
 | .appPop x y e=>if (bL A[x]?&&bL A[y]?)=true then (eval G cl A.sl e).toO A (fY A x y) else .bad
 | .put x path i e=>if path.isEmpty=true then (eval G cl A.sl e).toO A fun v=>(eval G cl A.sl i).toO A fun w=>hZ (settle e.names A v) x v w (settle e.names A v)[x]? else .bad
 | .sfld x f e=>(eval G cl A.sl e).toO A fun v=>gc (settle e.names A v) x f v (settle e.names A v)[x]?
 | .xinit es=>(evals G cl A.sl es).toO A (gI A)
 | .tryE b c i x=>h8 G io c i x (execs A b)
 | .appAll x y e=>(eval G cl A.sl e).toO A fun v=>gi io A x y v A[y]?
 | .nest x i j=>O.of (cH A x i j)
 | .callS _ _ _ _=>.bad
 | .bad=>.bad
noncomputable def execs (A:Fr):List S->O
 | []=>.nx A
 | s::ss=>(exec A s).seq fun A=>execs A ss
end
end
end
section
variable (G:Pg)(cl:Nat->List KD->Run)(io:List Nat)
@[simp] theorem pQ (A:Fr):execs G cl io A []=.nx A:=rfl
@[simp] theorem lj (A:Fr)(s:S)(ss:List S):execs G cl io A (s::ss)=(exec G cl io A s).seq fun A=>execs G cl io A ss:=rfl
noncomputable def fm (tg:Tg)(b:List S)(x:D)(A:Fr):O:=(bZ io tg x A).seq fun A=>execs G cl io A b
noncomputable def Bz (c:Ex)(A:Fr):R Bool:=(eval G cl A.sl c).bl
noncomputable def F5 (b:List S)(A:Fr):O:=execs G cl io A b
@[simp] theorem k9 (A:Fr)(i:Nat)(e:Ex):exec G cl io A (.set i e)=(eval G cl A.sl e).toO A fun x=>b7 io i x (settle e.names A x):=rfl
@[simp] theorem wW (A:Fr)(is:List Nat)(e:Ex):exec G cl io A (.setT is e)=(eval G cl A.sl e).toO A (fO io is e A):=rfl
@[simp] theorem oB (A:Fr)(e:Ex):exec G cl io A (.ret e)=b8 A e (eval G cl A.sl e):=rfl
@[simp] theorem pT (A:Fr)(e:Ex):exec G cl io A (.ex e)=(eval G cl A.sl e).toO A fun x=>.nx (settle e.names A x):=rfl
@[simp] theorem uN (A:Fr)(c:Ex)(t e:List S):exec G cl io A (.iff c t e)=((eval G cl A.sl c).bl).toO A fun b=>if b then execs G cl io A t else execs G cl io A e:=rfl
@[simp] theorem exec_brk (A:Fr):exec G cl io A .brk=.brk A:=rfl
@[simp] theorem exec_cnt (A:Fr):exec G cl io A .cnt=.cnt A:=rfl
@[simp] theorem exec_pass (A:Fr):exec G cl io A .pass=.nx A:=rfl
@[simp] theorem wK (A:Fr)(c:Nat)(es:List Ex):exec G cl io A (.rais c es)=(eval G cl A.sl (.make c es)).toO A (fM (Ex.make c es).names A):=rfl
@[simp] theorem nn (A:Fr)(x:Nat)(path:List Ex)(m:Mu)(es:List Ex):exec G cl io A (.mut x path m es)=if bL A[x]? then (evals G cl A.sl path).toO A fun ps=>(evals G cl A.sl es).toO A (en m A x es ps) else .bad:=rfl
@[simp] theorem exec_appPop (A:Fr)(x y:Nat)(e:Ex):exec G cl io A (.appPop x y e)=if (bL A[x]?&&bL A[y]?)=true then (eval G cl A.sl e).toO A (fY A x y) else .bad:=rfl
@[simp] theorem uz (A:Fr)(x:Nat)(path:List Ex)(i e:Ex):exec G cl io A (.put x path i e)=if path.isEmpty=true then (eval G cl A.sl e).toO A fun v=>(eval G cl A.sl i).toO A fun w=>hZ (settle e.names A v) x v w (settle e.names A v)[x]? else .bad:=rfl
@[simp] theorem Am (A:Fr)(x f:Nat)(e:Ex):exec G cl io A (.sfld x f e)=(eval G cl A.sl e).toO A fun v=>gc (settle e.names A v) x f v (settle e.names A v)[x]?:=rfl
@[simp] theorem Ez (A:Fr)(es:List Ex):exec G cl io A (.xinit es)=(evals G cl A.sl es).toO A (gI A):=rfl
@[simp] theorem vJ (A:Fr)(b:List S)(c i x:Nat):exec G cl io A (.tryE b c i x)=h8 G io c i x (execs G cl io A b):=rfl
theorem rL (A:Fr)(x i:Nat)(j:Option Nat):exec G cl io A (.nest x i j)=O.of (cH A x i j):=rfl
@[simp] theorem exec_appAll (A:Fr)(x y:Nat)(e:Ex):exec G cl io A (.appAll x y e)=(eval G cl A.sl e).toO A fun v=>gi io A x y v A[y]?:=rfl
@[simp] theorem CT (A:Fr):exec G cl io A .bad=.bad:=rfl
@[simp] theorem sE (A:Fr)(tg:Tg)(wk:Wk)(it:List Ex)(b:List S):exec G cl io A (.fo tg wk it b)=(evals G cl A.sl it).toO A (ls G (be (fm G cl io tg b)) wk it A):=by
 rfl
@[simp] theorem exec_whl (A:Fr)(c:Ex)(b:List S):exec G cl io A (.whl c b)=iy (Bz G cl c) (F5 G cl io b) 10000 A:=by
 rfl
end
theorem t8 (h:x.2.flat=true):aK j x=true:=by simp[aK,h]
@[simp] theorem joinK_nil:aB []=98:=rfl
@[simp] theorem oR (h:x.2.flat=true):aB (x::xs)=aB xs:=by
 have h2:∀j,aK j x=true:=fun j=>t8 h;unfold aB;rw[List.find?_cons_of_neg (by simp[h])];cases xs.find? fun x=>!x.2.flat with
 | none=>rfl
 | some y=>
  show (if (aK y.1 x&&xs.all (aK y.1))=true then y.1 else 0)=if xs.all (aK y.1)=true then y.1 else 0
  rw[h2 y.1,Bool.true_and]
@[simp] noncomputable def outs (A:Fr):List Nat->Option (List KD)
 | []=>some []
 | i::is=>match A[i]? with
  | some (some x)=>(outs A is).map fun xs=>x::xs
  | _=>none
@[simp] noncomputable def fin (io:List Nat):O->Run
 | .nx A=>match outs A io with
  | some xs=>.ret 99 .non xs
  | none=>.bad
 | .ret k d A=>match outs A io with
  | some xs=>.ret k d xs
  | none=>.bad
 | .exc c fs A=>match outs A io with
  | some xs=>.exc c fs xs
  | none=>.bad
 | _=>.bad
@[simp] noncomputable def bo (F:Fn)(vs:List KD):Fr:=vs.mapIdx (fun i v=>if F.io.contains i then some v else some (0,v.2))++List.replicate (F.ns - F.np) none
noncomputable def run (G:Pg):Nat->Nat->List KD->Run
 | 0,_,_=>.bad
 | n+1,f,vs=>match G.fn f with
  | some F=>if vs.length=F.np then fin F.io (execs G (run G n) F.io (bo F vs) F.body) else .bad
  | none=>.bad
end
end Ip
end
section
namespace Ip
open PySem
structure Tb where
 fns:List (Str×Nat)
 cls:List (Str×Nat)
 wb:Str
 att:List Str
 fl:List Nat
 cst:List (Str×D)
noncomputable def pos? (x:Str):List Str->Option Nat
 | []=>none
 | y::ys=>if y == x then some 0 else (pos? x ys).map (·+1)
theorem pos?_get:∀{l:List Str} {i:Nat},pos? x l=some i->l[i]? = some x
 | [],_,h=>by simp[pos?] at h
 | y::ys,i,h=>by
  unfold pos? at h;by_cases e:(y == x)=true
  ·rw[if_pos e] at h;cases h;simpa using e
  ·rw[if_neg e] at h;cases q:pos? x ys with
   | none=>rw[q] at h; cases h
   | some j=>rw[q] at h; cases h; simpa using pos?_get q
noncomputable def lG:Operator->Option Op
 | .Add=>some .add | .Sub=>some .sub | .Mult=>some .mul | .FloorDiv=>some .fdiv | .Mod=>some .mod | .Pow=>some .pow | .RShift=>some .shr
 | _=>none
noncomputable def gv:CmpOp->Option Op
 | .Eq=>some .eq | .NotEq=>some .ne | .Lt=>some .lt | .LtE=>some .le | .Gt=>some .gt | .GtE=>some .ge | .In=>some .isin | .NotIn=>some .nin
 | _=>none
noncomputable def aQ (sc:Scope)(x:Str):Bool:=sc.names.lookup x == some .globalImplicit
noncomputable def av (sc:Scope)(x:Str):Bool:=sc.names.lookup x == some .local||sc.names.lookup x == some .cell||sc.names.lookup x == some .free
noncomputable def aZ (sc:Scope)(x:Str):Bool:=sc.names.lookup x == some .local||sc.names.lookup x == some .cell
noncomputable def mE:List (Str×Op):=[("len",.len),("list",.list),("tuple",.tuple),("all",.all),("any",.any),("int",.toInt)]
noncomputable def jM:List (Str×Ty):=[("int",.int),("bool",.bool),("str",.str),("list",.list),("tuple",.tuple),("dict",.dict),("ValueError",.verr)]
noncomputable def dZ (T:Tb)(sc:Scope):Expr->Option Ty
 | .Name x _=>if aQ sc x then (match T.cls.lookup x with
  | some c=>some (.cls c)
  | none=>jM.lookup x) else none
 | _=>none
noncomputable def du (T:Tb)(sc:Scope):Expr->Option (List Ty)
 | .Tuple es _ _=>if es.length<=1000 then es.mapM (dZ T sc) else none
 | e=>(dZ T sc e).map fun t=>[t]
noncomputable def cC (sc:Scope)(N N':List Str)(caps:List (Option Nat))(scope:Scope):Bool:=
 scope.kind == .function&&scope.names.all (fun y=>(y.2 != .cell||scope.names.lookup y.1 == some .cell)&&(y.2 != .local||scope.names.lookup y.1 == some .local)&&(y.2 != .free||(sc.names.lookup y.1 == some .cell||sc.names.lookup y.1 == some .free))) &&
 caps.length == N'.length&&decide N'.Nodup&&(caps.zip N').all fun p=>match p.1 with
  | none=>true
  | some j=>N[j]? == some p.2&&scope.names.lookup p.2 == some .free
noncomputable def aw (scope:Scope):List Str:=(scope.names.filter fun y=>y.2 == .local||y.2 == .cell||y.2 == .free).map (·.1)
noncomputable def aP (N:List Str)(scope:Scope):List (Option Nat):=(scope.names.filter fun y=>y.2 == .local||y.2 == .cell||y.2 == .free).map fun y=>if y.2 == .free then pos? y.1 N else none
noncomputable def cm (sc:Scope)(N:List Str):Expr->Option Tg
 | .Name x _=>if aZ sc x then (pos? x N).map .one else none
 | .Tuple es _ _=>(es.mapM fun (e:Expr)=>match e with
  | .Name x _=>if aZ sc x then pos? x N else none
  | _=>none).map .many
 | _=>none
theorem rh (sc:Scope)(N:List Str)(x:Str)(p:Pos):cm sc N (.Name x p)=if aZ sc x then (pos? x N).map .one else none:=rfl
theorem sN (sc:Scope)(N:List Str)(es:List Expr)(k:Nat)(p:Pos):cm sc N (.Tuple es k p)=(es.mapM fun (e:Expr)=>match e with
  | .Name x _=>if aZ sc x then pos? x N else none
  | _=>none).map .many:=rfl
noncomputable def aj (x:Str):Bool:=!(x == ("__debug__" : Str))&&!(x == ("__classdict__" : Str))
noncomputable def cn:Expr->Bool
 | .Set _ _ _=>false
 | _=>true
noncomputable def jw:CmpOp->Option Op
 | .Eq=>some .eq | .NotEq=>some .ne | .Lt=>some .lt | .LtE=>some .le | .Gt=>some .gt | .GtE=>some .ge
 | _=>none
noncomputable def isNone:Expr->Bool
 | .Constant .none _ _=>true
 | _=>false
noncomputable def noStar (es:List Expr):Bool:=es.all fun e=>match e with
 | .Starred _ _=>false
 | _=>true
noncomputable def fG:Expr->Bool
 | .Call (.Name _ _) [] [] _=>false
 | _=>true
noncomputable def dG:Wk->Tg->Bool
 | .enum,.one _=>false
 | .zip,.one _=>false
 | _,_=>true
noncomputable def cG:Tg->List Nat
 | .one i=>[i]
 | .many is=>is
noncomputable def br:Expr->Option Str
 | .Name x _=>some x
 | _=>none
noncomputable def fP:Expr->Option (Expr×List Expr×List Keyword×Pos)
 | .Call f a k p=>some (f,a,k,p)
 | _=>none
noncomputable def gj:Expr->Option (Expr×Str×Pos)
 | .Attribute o m p=>some (o,m,p)
 | _=>none
noncomputable def jH:Stmt->Option (List Expr×Expr×Pos)
 | .Assign ts e p=>some (ts,e,p)
 | _=>none
noncomputable def c7:ExceptHandler->Option Expr×Option Str×List Stmt×Pos
 | .ExceptHandler t n b p=>(t,n,b,p)
theorem gJ (h:br e=some x):∃p,e=.Name x p:=by
 cases e <;> first | exact (cP h).elim | exact⟨_,congrArg (fun x=>Expr.Name x _) (bV h)⟩
theorem qc (h:fP e=some x):e=.Call x.1 x.2.1 x.2.2.1 x.2.2.2:=by
 cases e <;> first | exact (cP h).elim | exact congrArg (fun x:Expr×List Expr×List Keyword×Pos=>Expr.Call x.1 x.2.1 x.2.2.1 x.2.2.2) (bV h)
theorem rT (h:gj e=some x):e=.Attribute x.1 x.2.1 x.2.2:=by
 cases e <;> first | exact (cP h).elim | exact congrArg (fun x:Expr×Str×Pos=>Expr.Attribute x.1 x.2.1 x.2.2) (bV h)
theorem Fg (h:jH l=some x):l=.Assign x.1 x.2.1 x.2.2:=by
 cases l <;> first | exact (cP h).elim | exact congrArg (fun x:List Expr×Expr×Pos=>Stmt.Assign x.1 x.2.1 x.2.2) (bV h)
theorem GP (h:ExceptHandler):h=.ExceptHandler (c7 h).1 (c7 h).2.1 (c7 h).2.2.1 (c7 h).2.2.2:=by cases h; rfl
noncomputable def nr:Expr->Option (Expr×Expr×Pos)
 | .Subscript a i p=>some (a,i,p)
 | _=>none
theorem AV (h:nr e=some x):e=.Subscript x.1 x.2.1 x.2.2:=by
 cases e <;> first | exact (cP h).elim | (cases h; rfl)
noncomputable def iD (e:Expr):Option (Str×Str):=(nr e).bind fun t=>(br t.1).bind fun x=>(br t.2.1).map fun j=>(x,j)
theorem w8 (h:iD e=some (x,j)):∃p1 p2 p3,e=.Subscript (.Name x p1) (.Name j p2) p3:=by
 obtain⟨t,n1,r1⟩:=cK h;obtain⟨x',n2,r2⟩:=cK r1;obtain⟨j',n3,r3⟩:=cW r2;cases r3;obtain⟨p1,e1⟩:=gJ n2;obtain⟨p2,e2⟩:=gJ n3;exact⟨p1,p2,t.2.2,by rw[AV n1,e1,e2]⟩
noncomputable def kl:Expr->Option (List Expr×Nat×Pos)
 | .Tuple es k p=>some (es,k,p)
 | _=>none
theorem GA (h:kl e=some x):e=.Tuple x.1 x.2.1 x.2.2:=by
 cases e <;> first | exact (cP h).elim | (cases h; rfl)
noncomputable def kG (e:Expr):Option (Str×Str):=(gj e).bind fun t=>(br t.1).map fun x=>(x,t.2.1)
theorem E3 (h:kG e=some (x,f)):∃p1 p2,e=.Attribute (.Name x p1) f p2:=by
 obtain⟨t,n1,r1⟩:=cK h;obtain⟨x',n2,r2⟩:=cW r1;cases r2;obtain⟨p1,e1⟩:=gJ n2;exact⟨p1,t.2.2,by rw[rT n1,e1]⟩
noncomputable def iB (e:Expr):Option (Str×List Expr):=(fP e).bind fun t=>(br t.1).bind fun x=>if t.2.2.1.isEmpty=true then some (x,t.2.1) else none
theorem wm (h:iB e=some (x,a)):∃p1 p2,e=.Call (.Name x p1) a [] p2:=by
 obtain⟨t,n1,r1⟩:=cK h;obtain⟨x',n2,r2⟩:=cK r1;by_cases c:t.2.2.1.isEmpty=true
 rotate_left
 ·rw[if_neg c] at r2; exact (cP r2).elim
 rw[if_pos c] at r2;cases r2;obtain⟨p1,e1⟩:=gJ n2;exact⟨p1,t.2.2.2,by rw[qc n1,e1,List.isEmpty_iff.mp c]⟩
noncomputable def l6:Expr->Bool
 | .ListComp _ _ _ _=>true
 | _=>false
noncomputable def kL (e:Expr):Option (Str×Str×Pos×List Expr×Pos):=(fP e).bind fun c=>(gj c.1).bind fun t=>(br t.1).bind fun x=>if c.2.2.1.isEmpty=true then some (x,t.2.1,t.2.2,c.2.1,c.2.2.2) else none
theorem G1 (h:kL e=some (x,f,mp,a,cp)):∃p1,e=.Call (.Attribute (.Name x p1) f mp) a [] cp:=by
 obtain⟨t,n1,r1⟩:=cK h;obtain⟨u,n2,r2⟩:=cK r1;obtain⟨x',n3,r3⟩:=cK r2;by_cases c:t.2.2.1.isEmpty=true
 rotate_left
 ·rw[if_neg c] at r3; exact (cP r3).elim
 rw[if_pos c] at r3;cases r3;obtain⟨p1,e1⟩:=gJ n3;exact⟨p1,by rw[qc n1,rT n2,e1,List.isEmpty_iff.mp c]⟩
noncomputable def mZ (sc:Scope)(f:Str)(a:Expr):Option Expr:=(iB a).bind fun c=>if c.2.length=1/\(aQ sc c.1&&noStar c.2&&f == ("sorted" : Str)&&c.1 == ("set" : Str))=true then c.2.head? else none
theorem DH (h:mZ sc f a=some b):∃p1 p2,a=.Call (.Name "set" p1) [b] [] p2/\aQ sc "set" = true/\noStar [b]=true/\f = "sorted":=by
 unfold mZ at h;obtain⟨c,n1,r1⟩:=cK h;obtain⟨p1,p2,e1⟩:=wm n1;by_cases c1:c.2.length=1/\(aQ sc c.1&&noStar c.2&&f == ("sorted" : Str)&&c.1 == ("set" : Str))=true
 rotate_left
 ·rw[if_neg c1] at r1; exact (cP r1).elim
 rw[if_pos c1] at r1;obtain⟨l1,l2⟩:=c1;obtain⟨x,ex⟩:=List.length_eq_one_iff.mp l1;simp only[Bool.and_eq_true,beq_iff_eq] at l2;obtain⟨⟨⟨q1,q2⟩,q3⟩,q4⟩:=l2;rw[ex] at r1 q2;have r2:x=b:=bV r1;subst r2;rw[q4] at q1;exact⟨p1,p2,by rw[e1,q4,ex],q1,q2,q3⟩
section
variable (T:Tb)
noncomputable def pv? (x:Str)(N:List Str)(f:Nat->Ex):Ex:=match pos? x N with
 | some i=>f i
 | none=>.bad
noncomputable def lm (m:Str):Option Op:=if m == ("index" : Str) then some .index else if m == ("count" : Str) then some .count else none
noncomputable def gk:Ex->Bool
 | .var _=>true
 | .cst _=>true
 | _=>false
mutual
noncomputable def cE (sc:Scope)(N:List Str):Nat->Expr->Ex
 | 0,_=>.bad
 | n+1,.Name x _=>if av sc x&&aj x then pv? x N .var else if aQ sc x then (match T.cst.lookup x with | some d=>.cst d | none=>.bad) else .bad
 | n+1,.Constant c _ _=>match c with
  | .none=>.cst .non
  | .bool b=>.cst (.bl b)
  | .int i=>.cst (.int i)
  | .str s=>.cst (.str s)
  | _=>.bad
 | n+1,.BinOp a o b _=>match lG o with
  | some o=>.op o [cE sc N n a,cE sc N n b]
  | none=>.bad
 | n+1,.UnaryOp o a _=>match o with
  | .Not=>.op .not [cE sc N n a]
  | .USub=>.op .neg [cE sc N n a]
  | _=>.bad
 | n+1,.BoolOp o es p=>match es with
  | []=>.bad
  | [a]=>cE sc N n a
  | a::b::es=>match o with
   | .And=>.and (cE sc N n a) (cE sc N n (.BoolOp o (b::es) p))
   | .Or=>.or (cE sc N n a) (cE sc N n (.BoolOp o (b::es) p))
 | n+1,.Compare a os bs _=>match os,bs with
  | [o],[b]=>match o with
   | .Is=>if isNone b then .op .isN [cE sc N n a] else .bad
   | .IsNot=>if isNone b then .op .notN [cE sc N n a] else .bad
   | o=>match gv o with
    | some o=>if cn b then .op o [cE sc N n a,cE sc N n b] else .bad
    | none=>.bad
  | [o,p],[b,c]=>match jw o,jw p with
   | some o,some p=>.chain o p (cE sc N n a) (cE sc N n b) (cE sc N n c)
   | _,_=>.bad
  | _,_=>.bad
 | n+1,.IfExp c a b _=>.ite (cT sc N n c) (cE sc N n a) (cE sc N n b)
 | n+1,.List es _=>if es.length<=1000 then .op .lst (es.map (cE sc N n)) else .bad
 | n+1,.Tuple es _ _=>if es.length<=1000 then .op .tup (es.map (cE sc N n)) else .bad
 | n+1,.Subscript a i _=>match i with
  | .Slice lo hi st _=>match lo,hi,st with
   | some l,none,none=>.op .slL [cE sc N n a,cE sc N n l]
   | none,some l,none=>.op .slH [cE sc N n a,cE sc N n l]
   | some l,some h,none=>.sl2 (cE sc N n a) (cE sc N n l) (cE sc N n h)
   | _,_,_=>.bad
  | i=>.op .ix [cE sc N n a,cE sc N n i]
 | n+1,.Attribute o f _=>match pos? f T.att with
  | some k=>if T.fl.contains k&&fG o then .op (.fld k) [cE sc N n o] else .bad
  | none=>.bad
 | n+1,.ListComp e gs scope _=>match gs with
  | [⟨tg,iter,ifs,as⟩]=>
   if cC sc N (aw scope) (aP N scope) scope&&as == 0&&decide (ifs.length<=1) then
    match cm scope (aw scope) tg with
    | some g=>if dG (cI sc N n iter).1 g&&(cG g).all (fun i=>(aP N scope)[i]? == some none) then
      .comp (aP N scope) g (cI sc N n iter).1 (cI sc N n iter).2 (ifs.map (cT scope (aw scope) n)) (cE scope (aw scope) n e)
     else .bad
    | none=>.bad
   else .bad
  | _=>.bad
 | n+1,.Call f args kws cp=>match kws with
  | []=>match f with
   | .Name f _=>if aQ sc f then
     match T.fns.lookup f with
     | some k=>if noStar args then .call k (args.map (cE sc N n)) else .bad
     | none=>match T.cls.lookup f with
      | some c=>if noStar args then .make c (args.map (cE sc N n)) else .bad
      | none=>cB sc N n f args
    else .bad
   | .Attribute o m ap=>match pos? m T.att with
     | some k=>if fG o&&noStar args&&decide (args.length<30)&&ap.endLine == cp.line then .meth k (cE sc N n o) (args.map (cE sc N n)) else .bad
     | none=>match args with
      | [a]=>match lm m with
       | some q=>if gk (cE sc N n a)&&fG o&&noStar [a]&&ap.endLine == cp.line then .op q [cE sc N n o,cE sc N n a] else .bad
       | none=>.bad
      | _=>.bad
   | _=>.bad
  | _=>.bad
 | _,_=>.bad
noncomputable def cT (sc:Scope)(N:List Str):Nat->Expr->Ex
 | 0,_=>.bad
 | n+1,.BoolOp o es p=>match es with
  | []=>.bad
  | [a]=>cT sc N n a
  | a::b::es=>match o with
   | .And=>.and (cT sc N n a) (cT sc N n (.BoolOp o (b::es) p))
   | .Or=>.or (cT sc N n a) (cT sc N n (.BoolOp o (b::es) p))
 | n+1,.UnaryOp .Not a _=>.op .not [cT sc N n a]
 | n+1,.IfExp _ _ _ _=>.bad
 | n+1,e=>cE sc N n e
noncomputable def cB (sc:Scope)(N:List Str):Nat->Str->List Expr->Ex
 | 0,_,_=>.bad
 | n+1,f,args=>match args with
  | [a]=>match mZ sc f a with
   | some b=>.op .srtSet [cE sc N n b]
   | none=>match mE.lookup f with
    | some o=>.op o [cE sc N n a]
    | none=>.bad
  | [a,b]=>if f == ("isinstance" : Str) then (match du T sc b with
    | some ts=>.op (.isi ts) [cE sc N n a]
    | none=>.bad)
   else .bad
  | _=>.bad
noncomputable def cI (sc:Scope)(N:List Str):Nat->Expr->Wk×List Ex
 | 0,_=>(.seq,[.bad])
 | n+1,e=>match e with
  | .Call (.Name f p) args [] q=>
   if aQ sc f&&f == ("range" : Str)&&noStar args then match args with
    | [a]=>(.rng1,[cE sc N n a])
    | _=>(.seq,[.bad])
   else if aQ sc f&&f == ("enumerate" : Str)&&noStar args then match args with
    | [a]=>(.enum,[cE sc N n a])
    | _=>(.seq,[.bad])
   else if aQ sc f&&f == ("zip" : Str)&&noStar args then match args with
    | [a,b]=>(.zip,[cE sc N n a,cE sc N n b])
    | _=>(.seq,[.bad])
   else (.seq,[cE sc N n (.Call (.Name f p) args [] q)])
  | e=>(.seq,[cE sc N n e])
end
theorem eZ (sc:Scope)(N:List Str)(e:Expr):cE T sc N 0 e=.bad:=rfl
theorem eh (sc:Scope)(N:List Str)(n:Nat)(x:Str)(p:Pos):cE T sc N (n+1) (.Name x p)=if av sc x&&aj x then pv? x N .var else if aQ sc x then (match T.cst.lookup x with | some d=>.cst d | none=>.bad) else .bad:=rfl
theorem fe (sc:Scope)(N:List Str)(n:Nat)(c:Const)(k:Nat)(p:Pos):cE T sc N (n+1) (.Constant c k p)=match c with
  | .none=>.cst .non
  | .bool b=>.cst (.bl b)
  | .int i=>.cst (.int i)
  | .str s=>.cst (.str s)
  | _=>.bad:=rfl
theorem eU (sc:Scope)(N:List Str)(n:Nat)(a:Expr)(o:Operator)(b:Expr)(p:Pos):cE T sc N (n+1) (.BinOp a o b p)=match lG o with
  | some o=>.op o [cE T sc N n a,cE T sc N n b]
  | none=>.bad:=rfl
theorem eO (sc:Scope)(N:List Str)(n:Nat)(o:UnaryOp)(a:Expr)(p:Pos):cE T sc N (n+1) (.UnaryOp o a p)=match o with
  | .Not=>.op .not [cE T sc N n a]
  | .USub=>.op .neg [cE T sc N n a]
  | _=>.bad:=rfl
theorem eR (sc:Scope)(N:List Str)(n:Nat)(o:BoolOp)(es:List Expr)(p:Pos):cE T sc N (n+1) (.BoolOp o es p)=match es with
  | []=>.bad
  | [a]=>cE T sc N n a
  | a::b::es=>match o with
   | .And=>.and (cE T sc N n a) (cE T sc N n (.BoolOp o (b::es) p))
   | .Or=>.or (cE T sc N n a) (cE T sc N n (.BoolOp o (b::es) p)):=rfl
theorem eM (sc:Scope)(N:List Str)(n:Nat)(a:Expr)(os:List CmpOp)(bs:List Expr)(p:Pos):cE T sc N (n+1) (.Compare a os bs p)=match os,bs with
  | [o],[b]=>match o with
   | .Is=>if isNone b then .op .isN [cE T sc N n a] else .bad
   | .IsNot=>if isNone b then .op .notN [cE T sc N n a] else .bad
   | o=>match gv o with
    | some o=>if cn b then .op o [cE T sc N n a,cE T sc N n b] else .bad
    | none=>.bad
  | [o,p],[b,c]=>match jw o,jw p with
   | some o,some p=>.chain o p (cE T sc N n a) (cE T sc N n b) (cE T sc N n c)
   | _,_=>.bad
  | _,_=>.bad:=rfl
theorem eQ (sc:Scope)(N:List Str)(n:Nat)(c a b:Expr)(p:Pos):cE T sc N (n+1) (.IfExp c a b p)=.ite (cT T sc N n c) (cE T sc N n a) (cE T sc N n b):=rfl
theorem eY (sc:Scope)(N:List Str)(n:Nat)(es:List Expr)(p:Pos):cE T sc N (n+1) (.List es p)=if es.length<=1000 then .op .lst (es.map (cE T sc N n)) else .bad:=rfl
theorem eJ (sc:Scope)(N:List Str)(n:Nat)(es:List Expr)(k:Nat)(p:Pos):cE T sc N (n+1) (.Tuple es k p)=if es.length<=1000 then .op .tup (es.map (cE T sc N n)) else .bad:=rfl
theorem eL (sc:Scope)(N:List Str)(n:Nat)(a i:Expr)(p:Pos):cE T sc N (n+1) (.Subscript a i p)=match i with
  | .Slice lo hi st _=>match lo,hi,st with
   | some l,none,none=>.op .slL [cE T sc N n a,cE T sc N n l]
   | none,some l,none=>.op .slH [cE T sc N n a,cE T sc N n l]
   | some l,some h,none=>.sl2 (cE T sc N n a) (cE T sc N n l) (cE T sc N n h)
   | _,_,_=>.bad
  | i=>.op .ix [cE T sc N n a,cE T sc N n i]:=rfl
theorem eI (sc:Scope)(N:List Str)(n:Nat)(o:Expr)(f:Str)(p:Pos):cE T sc N (n+1) (.Attribute o f p)=match pos? f T.att with
  | some k=>if T.fl.contains k&&fG o then .op (.fld k) [cE T sc N n o] else .bad
  | none=>.bad:=rfl
theorem fc (sc:Scope)(N:List Str)(n:Nat)(e:Expr)(gs:List Comprehension)(scope:Scope)(p:Pos):cE T sc N (n+1) (.ListComp e gs scope p)=match gs with
  | [⟨tg,iter,ifs,as⟩]=>
   if cC sc N (aw scope) (aP N scope) scope&&as == 0&&decide (ifs.length<=1) then
    match cm scope (aw scope) tg with
    | some g=>if dG (cI T sc N n iter).1 g&&(cG g).all (fun i=>(aP N scope)[i]? == some none) then
      .comp (aP N scope) g (cI T sc N n iter).1 (cI T sc N n iter).2 (ifs.map (cT T scope (aw scope) n)) (cE T scope (aw scope) n e)
     else .bad
    | none=>.bad
   else .bad
  | _=>.bad:=rfl
theorem eV (sc:Scope)(N:List Str)(n:Nat)(f:Expr)(args:List Expr)(kws:List Keyword)(cp:Pos):cE T sc N (n+1) (.Call f args kws cp)=match kws with
  | []=>match f with
   | .Name f _=>if aQ sc f then
     match T.fns.lookup f with
     | some k=>if noStar args then .call k (args.map (cE T sc N n)) else .bad
     | none=>match T.cls.lookup f with
      | some c=>if noStar args then .make c (args.map (cE T sc N n)) else .bad
      | none=>cB T sc N n f args
    else .bad
   | .Attribute o m ap=>match pos? m T.att with
     | some k=>if fG o&&noStar args&&decide (args.length<30)&&ap.endLine == cp.line then .meth k (cE T sc N n o) (args.map (cE T sc N n)) else .bad
     | none=>match args with
      | [a]=>match lm m with
       | some q=>if gk (cE T sc N n a)&&fG o&&noStar [a]&&ap.endLine == cp.line then .op q [cE T sc N n o,cE T sc N n a] else .bad
       | none=>.bad
      | _=>.bad
   | _=>.bad
  | _=>.bad:=rfl
theorem wR (sc:Scope)(N:List Str)(n:Nat)(f:Str)(args:List Expr):cB T sc N (n+1) f args=match args with
  | [a]=>match mZ sc f a with
   | some b=>.op .srtSet [cE T sc N n b]
   | none=>match mE.lookup f with
    | some o=>.op o [cE T sc N n a]
    | none=>.bad
  | [a,b]=>if f == ("isinstance" : Str) then (match du T sc b with
    | some ts=>.op (.isi ts) [cE T sc N n a]
    | none=>.bad)
   else .bad
  | _=>.bad:=rfl
theorem DE (sc:Scope)(N:List Str)(n:Nat)(e:Expr):cI T sc N (n+1) e=match e with
  | .Call (.Name f p) args [] q=>
   if aQ sc f&&f == ("range" : Str)&&noStar args then match args with
    | [a]=>(.rng1,[cE T sc N n a])
    | _=>(.seq,[.bad])
   else if aQ sc f&&f == ("enumerate" : Str)&&noStar args then match args with
    | [a]=>(.enum,[cE T sc N n a])
    | _=>(.seq,[.bad])
   else if aQ sc f&&f == ("zip" : Str)&&noStar args then match args with
    | [a,b]=>(.zip,[cE T sc N n a,cE T sc N n b])
    | _=>(.seq,[.bad])
   else (.seq,[cE T sc N n (.Call (.Name f p) args [] q)])
  | e=>(.seq,[cE T sc N n e]):=rfl
noncomputable def tF (x:Str)(sc:Scope):Bool:=aQ sc x&&x == T.wb
noncomputable def pc? (x:Str)(f:Nat->S):S:=match T.cls.lookup x with
 | some i=>f i
 | none=>.bad
noncomputable def ps? (x:Str)(N:List Str)(f:Nat->S):S:=match pos? x N with
 | some i=>f i
 | none=>.bad
noncomputable def iI (hs:List ExceptHandler):Option (Str×Str×Str×Str):=if hs.length=1 then
 (hs.head?.map c7).bind fun h=>h.1.bind fun te=>(br te).bind fun c=>h.2.1.bind fun e=>if h.2.2.1.length=1 then (h.2.2.1.head?.bind jH).bind fun a=>if a.1.length=1 then (a.1.head?.bind br).bind fun x=>(br a.2.1).bind fun y=>some (c,e,x,y) else none else none
 else none
theorem Ct (h:iI hs=some (c,e,x,y)):∃p1 p2 p3 p4 p5,hs=[.ExceptHandler (some (.Name c p1)) (some e) [.Assign [.Name x p2] (.Name y p3) p4] p5]:=by
 unfold iI at h;by_cases c1:hs.length=1
 rotate_left
 ·rw[if_neg c1] at h; exact (cP h).elim
 rw[if_pos c1] at h;obtain⟨hd,rfl⟩:=List.length_eq_one_iff.mp c1;obtain⟨q,n1,r1⟩:=cK h;obtain rfl:c7 hd=q:=bV n1;obtain⟨te,n2,r2⟩:=cK r1;obtain⟨c',n3,r3⟩:=cK r2;obtain⟨e',n4,r4⟩:=cK r3;by_cases c2:(c7 hd).2.2.1.length=1
 rotate_left
 ·rw[if_neg c2] at r4; exact (cP r4).elim
 rw[if_pos c2] at r4;obtain⟨s,es⟩:=List.length_eq_one_iff.mp c2;rw[es] at r4;obtain⟨a,n5,r5⟩:=cK r4;have e5:=Fg (show jH s=some a from n5);by_cases c3:a.1.length=1
 rotate_left
 ·rw[if_neg c3] at r5; exact (cP r5).elim
 rw[if_pos c3] at r5;obtain⟨t,et⟩:=List.length_eq_one_iff.mp c3;rw[et] at r5;obtain⟨x',n6,r6⟩:=cK r5;obtain⟨y',n7,r7⟩:=cK r6;cases r7;obtain⟨p1,e3⟩:=gJ n3;obtain⟨p2,e6⟩:=gJ (show br t=some x from n6);obtain⟨p3,e7⟩:=gJ n7;refine⟨p1,p2,p3,a.2.2,(c7 hd).2.2.2,?_⟩;have hh:=GP hd;rw[n2,n4,es,e5,et,e3,e6,e7] at hh;exact congrArg (fun h=>[h]) hh
noncomputable def fD:Expr->Bool
 | .Call _ _ _ _=>true
 | .Name _ _=>true
 | _=>false
noncomputable def jO (sc:Scope)(N:List Str)(n:Nat)(ts:List Expr)(e:Expr):S:=match ts with
 | []=>.bad
 | t::r=>if r.isEmpty=true then (match br t with
  | some x=>if aZ sc x then ps? x N fun i=>.set i (cE T sc N n e) else .bad
  | none=>match iD t with
   | some (x,j)=>if av sc x&&aj x&&av sc j&&aj j then ps? x N fun k=>ps? j N fun i=>.put k [] (.var i) (cE T sc N n e) else .bad
   | none=>match kG t with
    | some (x,f)=>if av sc x&&aj x then ps? x N fun k=>ps? f T.att fun j=>if T.fl.contains j then .sfld k j (cE T sc N n e) else .bad else .bad
    | none=>match kl t with
     | some _=>if fD e then (match cm sc N t with
      | some (.many is)=>.setT is (cE T sc N n e)
      | _=>.bad) else .bad
     | none=>.bad) else .bad
noncomputable def mz (sc:Scope)(N:List Str)(n:Nat)(x:Str)(mp cp:Pos)(args:List Expr):S:=match args with
 | [a]=>if noStar [a]&&mp.endLine == cp.line then ps? x N fun i=>.mut i [] .append [cE T sc N n a] else .bad
 | _=>.bad
noncomputable def ny (sc:Scope)(N:List Str)(n:Nat)(x:Str)(mp cp:Pos)(args:List Expr):S:=match args with
 | [a]=>if noStar [a]&&mp.endLine == cp.line then ps? x N fun i=>.mut i [] .extend [cE T sc N n a] else .bad
 | _=>.bad
noncomputable def mC (sc:Scope)(N:List Str)(n:Nat)(mp cp:Pos)(args:List Expr):S:=match args with
 | []=>.bad
 | a::as=>if noStar (a::as)&&decide (as.length<29)&&mp.endLine == cp.line then .xinit ((a::as).map (cE T sc N n)) else .bad
noncomputable def l5:List Expr->Option Str
 | [a]=>br a
 | _=>none
noncomputable def nO (sc:Scope)(e:Expr):Option (Str×Str×Option Str):=(fP e).bind fun c=>(gj c.1).bind fun t=>(iD t.1).bind fun u=>
 if (av sc u.1&&aj u.1&&av sc u.2&&aj u.2&&c.2.2.1.isEmpty&&t.2.2.endLine == c.2.2.2.line)=true then
  (if (t.2.1 == ("append" : Str))=true then (l5 c.2.1).bind fun y=>if (av sc y&&aj y)=true then some (u.1,u.2,some y) else none
  else if (t.2.1 == ("pop" : Str)&&c.2.1.isEmpty)=true then some (u.1,u.2,none) else none)
 else none
theorem Du (h:l5 es=some y):∃p,es=[.Name y p]:=by
 cases es with
 | nil=>exact (cP h).elim
 | cons a r=>
  cases r with
  | cons _ _=>exact (cP h).elim
  | nil=>
   obtain⟨p,e⟩:=gJ (show br a=some y from h);exact⟨p,by rw[e]⟩
theorem Cp (h:nO sc e=some (x,i,j)):∃p1 p2 p3 p4 p5 f args,e=.Call (.Attribute (.Subscript (.Name x p1) (.Name i p2) p3) f p4) args [] p5/\av sc x=true/\aj x=true/\av sc i=true/\aj i=true/\(p4.endLine == p5.line)=true /\
  ((∃y p6,j=some y/\f = "append" /\ args=[.Name y p6]/\av sc y=true/\aj y=true)\/(j=none/\f = "pop" /\ args=[])):=by
 unfold nO at h;obtain⟨c,n1,r1⟩:=cK h;obtain⟨t,n2,r2⟩:=cK r1;obtain⟨u,n3,r3⟩:=cK r2;by_cases c1:(av sc u.1&&aj u.1&&av sc u.2&&aj u.2&&c.2.2.1.isEmpty&&t.2.2.endLine == c.2.2.2.line)=true
 rotate_left
 ·rw[if_neg c1] at r3; exact (cP r3).elim
 rw[if_pos c1] at r3;simp only[Bool.and_eq_true] at c1;obtain⟨⟨⟨⟨⟨q1,q2⟩,q3⟩,q4⟩,q5⟩,q6⟩:=c1;obtain⟨p1,p2,p3,e3⟩:=w8 n3;have ee:e=.Call (.Attribute (.Subscript (.Name u.1 p1) (.Name u.2 p2) p3) t.2.1 t.2.2) c.2.1 [] c.2.2.2:=by rw[qc n1,rT n2,e3,List.isEmpty_iff.mp q5]
 by_cases c2:(t.2.1 == ("append" : Str))=true
 ·rw[if_pos c2] at r3;obtain⟨y,n4,r4⟩:=cK r3;by_cases c3:(av sc y&&aj y)=true
  ·rw[if_pos c3] at r4;cases r4;rw[Bool.and_eq_true] at c3;obtain⟨p6,e6⟩:=Du n4;exact⟨p1,p2,p3,t.2.2,c.2.2.2,t.2.1,c.2.1,ee,q1,q2,q3,q4,q6,.inl ⟨y,p6,rfl,by simpa using c2,e6,c3.1,c3.2⟩⟩
  ·rw[if_neg c3] at r4; exact (cP r4).elim
 ·rw[if_neg c2] at r3;by_cases c3:(t.2.1 == ("pop" : Str)&&c.2.1.isEmpty)=true
  ·rw[if_pos c3] at r3;cases r3;rw[Bool.and_eq_true] at c3;exact⟨p1,p2,p3,t.2.2,c.2.2.2,t.2.1,c.2.1,ee,q1,q2,q3,q4,q6,.inr ⟨rfl,by simpa using c3.1,List.isEmpty_iff.mp c3.2⟩⟩
  ·rw[if_neg c3] at r3; exact (cP r3).elim
noncomputable def tM (N:List Str)(x i:Str)(j:Option Str):S:=ps? x N fun a=>ps? i N fun b=>match j with
 | none=>.nest a b none
 | some y=>ps? y N fun c=>.nest a b (some c)
noncomputable def jE (sc:Scope)(N:List Str)(n:Nat)(e:Expr):S:=match kL e with
 | some (x,m,mp,args,cp)=>
  if av sc x&&aj x&&m == ("append" : Str) then mz T sc N n x mp cp args
  else if av sc x&&aj x&&m == ("extend" : Str) then ny T sc N n x mp cp args
  else if tF T x sc&&m == ("__init__" : Str) then mC T sc N n mp cp args
  else .ex (cE T sc N n e)
 | none=>if l6 e then .bad else match nO sc e with
  | some (x,i,j)=>tM N x i j
  | none=>.ex (cE T sc N n e)
noncomputable def oM:Ex->Bool
 | .var _=>true
 | _=>false
noncomputable def kA (sc:Scope)(N:List Str)(n:Nat)(o:Option Expr):S:=match o with
 | none=>.ret (.cst .non)
 | some e=>match br e with
  | some x=>if av sc x&&aj x then ps? x N fun i=>.ret (.var i) else .bad
  | none=>if oM (cE T sc N n e) then .bad else .ret (cE T sc N n e)
noncomputable def ka (sc:Scope)(N:List Str)(n:Nat)(tg it:Expr)(b els:List Stmt)(cb:List S):S:=match els with
 | _::_=>.bad
 | []=>match cm sc N tg with
   | some g=>if dG (cI T sc N n it).1 g then .fo g (cI T sc N n it).1 (cI T sc N n it).2 cb else .bad
   | none=>.bad
noncomputable def jU (sc:Scope)(N:List Str)(n:Nat)(e c:Option Expr):S:=match c with
 | some _=>.bad
 | none=>match e with
  | none=>.bad
  | some e=>match iB e with
   | some (x,args)=>if aQ sc x&&noStar args then pc? T x fun c=>.rais c (args.map (cE T sc N n)) else .bad
   | none=>.bad
noncomputable def jS (sc:Scope)(N:List Str)(hs:List ExceptHandler)(els fin:List Stmt)(cb:List S):S:=match iI hs with
 | some (c,e,x,y)=>
  if els.isEmpty=true/\fin.isEmpty=true/\(aQ sc c&&c == T.wb&&y == e&&aj e&&aZ sc x&&sc.names.lookup e == some .local)=true then pc? T c fun k=>ps? e N fun i=>ps? x N fun j=>.tryE cb k i j else .bad
 | none=>.bad
noncomputable def cS (sc:Scope)(N:List Str):Nat->Stmt->S
 | 0,_=>.bad
 | n+1,.Assign ts e _=>jO T sc N n ts e
 | n+1,.Expr e _=>jE T sc N n e
 | n+1,.Return o _=>kA T sc N n o
 | n+1,.If c a b _=>.iff (cT T sc N n c) (a.map (cS sc N n)) (b.map (cS sc N n))
 | n+1,.For tg it b els _=>ka T sc N n tg it b els (b.map (cS sc N n))
 | n+1,.Break _=>.brk
 | n+1,.Continue _=>.cnt
 | n+1,.Pass _=>.pass
 | n+1,.Raise e c _=>jU T sc N n e c
 | n+1,.Try b hs els fin _=>jS T sc N hs els fin (b.map (cS sc N n))
 | _,_=>.bad
theorem GE (sc:Scope)(N:List Str)(n:Nat)(ts:List Expr)(e:Expr)(p:Pos):cS T sc N (n+1) (.Assign ts e p)=jO T sc N n ts e:=rfl
theorem Bv (sc:Scope)(N:List Str)(n:Nat)(e:Expr)(p:Pos):cS T sc N (n+1) (.Expr e p)=jE T sc N n e:=rfl
theorem yI (sc:Scope)(N:List Str)(n:Nat)(o:Option Expr)(p:Pos):cS T sc N (n+1) (.Return o p)=kA T sc N n o:=rfl
theorem y2 (sc:Scope)(N:List Str)(n:Nat)(tg it:Expr)(b els:List Stmt)(p:Pos):cS T sc N (n+1) (.For tg it b els p)=ka T sc N n tg it b els (b.map (cS T sc N n)):=rfl
theorem EJ (sc:Scope)(N:List Str)(n:Nat)(e c:Option Expr)(p:Pos):cS T sc N (n+1) (.Raise e c p)=jU T sc N n e c:=rfl
theorem E9 (sc:Scope)(N:List Str)(n:Nat)(b:List Stmt)(hs:List ExceptHandler)(els fin:List Stmt)(p:Pos):cS T sc N (n+1) (.Try b hs els fin p)=jS T sc N hs els fin (b.map (cS T sc N n)):=rfl
noncomputable def qJ:Expr->Option D
 | .Constant .none _ _=>some .non
 | .Constant (.bool b) _ _=>some (.bl b)
 | .Constant (.int i) _ _=>some (.int i)
 | .Constant (.str s) _ _=>some (.str s)
 | _=>none
noncomputable def eT (a:Arguments)(sc:Scope):List Str:=
 let ps:=a.args.map (·.arg)
 ps++((sc.names.filter fun y=>(y.2 == .local||y.2 == .cell)&&!ps.contains y.1).map (·.1))
noncomputable def cF (io:List Nat):Stmt->Option Fn
 | .FunctionDef _ a body [] _ _ sc _ _ _=>(a.defaults.mapM qJ).map fun ds=>⟨a.args.length,io,(eT a sc).length,ds,body.map (cS T sc (eT a sc) 60)⟩
 | _=>none
end
end Ip
end
section
namespace L2
open PySem PySem.Spec PyProof.Rows
open Ip (D KD Ex Op Pg Fn Sl Fr Wk Tg Tb)
structure Wd where
 K:aL
 iA:Nat->Option Addr
 xA:Nat->Option Addr
 att:List Str
def Sub (S H:Hp):Prop:=∀a o,S a=some o->H a=some o
theorem Sub.refl (H:Hp):Sub H H:=fun _ _ h=>h
theorem Sub.trans {A B C:Hp}(h:Sub A B)(k:Sub B C):Sub A C:=fun a o e=>k a o (h a o e)
theorem Sub.upd {H:Hp}{a:Addr}{o:HO}(h:H a=none):Sub H (upd H a o):=fun b u e=>by
 rw[bc (fun z=>by rw[z,h] at e; cases e)]; exact e
theorem Sub.none {A B:Hp}(h:Sub A B){a:Addr}(e:B a=none):A a=none:=by
 cases q:A a with
 | none=>rfl
 | some o=>rw[h a o q] at e; cases e
open Classical in
noncomputable def hid (N:Addr->Prop)(H:Hp):Hp:=fun a=>if N a then none else H a
theorem az {N:Addr->Prop}{H:Hp}{a:Addr}{o:HO}:hid N H a=some o↔¬N a/\H a=some o:=by
 unfold hid;by_cases h:N a
 ·simp[h]
 ·simp[h]
theorem bm {N:Addr->Prop}{H:Hp}:Sub (hid N H) H:=fun _ _ e=>(az.mp e).2
theorem gw {N N':Addr->Prop}{H H':Hp}(h:Sub H H')(n:∀a,N' a->N a\/H a=none):Sub (hid N H) (hid N' H'):=fun a o e=>by
 obtain⟨h1,h2⟩:=az.mp e;refine az.mpr ⟨fun z=>?_,h a o h2⟩;rcases n a z with q | q
 ·exact h1 q
 ·rw[h2] at q; cases q
theorem Rd.sub {S H:Hp}{a:Addr}{u:HO}(h:Sub S H):Rd S a u->Rd H a u
 | .inl e=>.inl (h _ _ e)
 | .inr ⟨o,e⟩=>.inr ⟨o,h _ _ e⟩
theorem SqL.sub {K:aL}{S H:Hp}{a:Addr}{xs:List V}(h:Sub S H):SqL K S a xs->SqL K H a xs
 | .inl e=>.inl (Rd.sub h e)
 | .inr e=>.inr e
theorem SqT.sub {K:aL}{S H:Hp}{a:Addr}{xs:List V}(h:Sub S H):SqT K S a xs->SqT K H a xs
 | .inl e=>.inl (Rd.sub h e)
 | .inr e=>.inr e
mutual
inductive Den (W:Wd) (S:Hp):V->D->Prop
 | non:Den W S .non .non
 | bl {b:Bool}:Den W S (.bl b) (.bl b)
 | int {i:Int}:Den W S (.int i) (.int i)
 | str {s:Str}:Den W S (.str s) (.str s)
 | lst {a:Addr} {vs:List V} {ds:List D} (h:Rd S a (.lst vs)) (q:Dens W S vs ds):Den W S (.ref a) (.lst ds)
 | tup {a:Addr} {vs:List V} {ds:List D} (h:SqT W.K S a vs) (q:Dens W S vs ds):Den W S (.ref a) (.tup ds)
 | ins {a C dx:Addr} {c:Nat} {fs:List (Str×V)} {ds:List (Nat×D)} (h:S a=some (.ins C dx fs)) (hc:W.iA c=some C) (q:DenF W S fs ds):Den W S (.ref a) (.ins c ds)
 | exc {a C:Addr} {nw:Bool} {c:Nat} {fs:List (Str×V)} {ds:List (Nat×D)} (h:S a=some (.exc C nw fs)) (hc:W.xA c=some C) (q:DenF W S fs ds):Den W S (.ref a) (.exc c ds)
inductive Dens (W:Wd) (S:Hp):List V->List D->Prop
 | nil:Dens W S [] []
 | cons {v:V} {d:D} {vs:List V} {ds:List D} (h:Den W S v d) (q:Dens W S vs ds):Dens W S (v::vs) (d::ds)
inductive DenF (W:Wd) (S:Hp):List (Str×V)->List (Nat×D)->Prop
 | nil:DenF W S [] []
 | cons {n:Str} {f:Nat} {v:V} {d:D} {vs:List (Str×V)} {ds:List (Nat×D)} (hf:W.att[f]? = some n) (h:Den W S v d) (q:DenF W S vs ds):DenF W S ((n,v)::vs) ((f,d)::ds)
end
mutual
theorem Den.mono {W:Wd}{S H:Hp}(h:Sub S H):∀{v d},Den W S v d->Den W H v d
 | _,_,.non=>.non
 | _,_,.bl=>.bl
 | _,_,.int=>.int
 | _,_,.str=>.str
 | _,_,.lst e q=>.lst (Rd.sub h e) (q.mono h)
 | _,_,.tup e q=>.tup (SqT.sub h e) (q.mono h)
 | _,_,.ins e hc q=>.ins (h _ _ e) hc (q.mono h)
 | _,_,.exc e hc q=>.exc (h _ _ e) hc (q.mono h)
theorem Dens.mono {W:Wd}{S H:Hp}(h:Sub S H):∀{v d},Dens W S v d->Dens W H v d
 | _,_,.nil=>.nil
 | _,_,.cons e q=>.cons (e.mono h) (q.mono h)
theorem DenF.mono {W:Wd}{S H:Hp}(h:Sub S H):∀{v d},DenF W S v d->DenF W H v d
 | _,_,.nil=>.nil
 | _,_,.cons f e q=>.cons f (e.mono h) (q.mono h)
end
theorem Dens.length {W:Wd}{S:Hp}:∀{vs ds},Dens W S vs ds->vs.length=ds.length
 | _,_,.nil=>rfl
 | _,_,.cons _ q=>by rw[List.length_cons,List.length_cons,q.length]
theorem Dens.get {W:Wd}{S:Hp}:∀{vs ds} {i:Nat} {d:D},Dens W S vs ds->ds[i]? = some d->∃v,vs[i]? = some v/\Den W S v d
 | _,_,_,_,.nil,e=>by simp at e
 | _,_,0,_,.cons h _,e=>by simp at e; subst e; exact⟨_,rfl,h⟩
 | _,_,i+1,_,.cons _ q,e=>by simpa using q.get (i:=i) (by simpa using e)
theorem Dens.append {W:Wd}{S:Hp}:∀{vs ws ds es},Dens W S vs ds->Dens W S ws es->Dens W S (vs++ws) (ds++es)
 | _,_,_,_,.nil,q=>q
 | _,_,_,_,.cons h t,q=>.cons h (t.append q)
theorem Dens.take {W:Wd}{S:Hp}:∀{vs ds} (n:Nat),Dens W S vs ds->Dens W S (vs.take n) (ds.take n)
 | _,_,0,_=>.nil
 | _,_,_+1,.nil=>.nil
 | _,_,n+1,.cons h t=>.cons h (t.take n)
theorem Dens.drop {W:Wd}{S:Hp}:∀{vs ds} (n:Nat),Dens W S vs ds->Dens W S (vs.drop n) (ds.drop n)
 | _,_,0,h=>h
 | _,_,_+1,.nil=>.nil
 | _,_,n+1,.cons _ t=>t.drop n
theorem Dens.set {W:Wd}{S:Hp}{v:V}{d:D}(r:Den W S v d):∀{vs ds} (i:Nat),Dens W S vs ds->Dens W S (vs.set i v) (ds.set i d)
 | _,_,_,.nil=>.nil
 | _,_,0,.cons _ t=>.cons r t
 | _,_,i+1,.cons q t=>.cons q (t.set r i)
theorem DenF.length {W:Wd}{S:Hp}:∀{vs ds},DenF W S vs ds->vs.length=ds.length
 | _,_,.nil=>rfl
 | _,_,.cons _ _ q=>by rw[List.length_cons,List.length_cons,q.length]
theorem r8 {l:List Str}(nd:l.Nodup){i j:Nat}{x:Str}(h:l[i]? = some x)(k:l[j]? = some x):i=j:=oh nd h k
theorem DenF.lookup {W:Wd}{S:Hp}(nd:W.att.Nodup){f:Nat}{n:Str}(hn:W.att[f]? = some n):∀{vs ds},DenF W S vs ds->(∀d,ds.lookup f=some d->∃v,vs.lookup n=some v/\Den W S v d)/\(ds.lookup f=none->vs.lookup n=none)
 | _,_,.nil=>⟨(fun _ e=>nomatch e),fun _=>rfl⟩
 | _,_,.cons (n:=m) (f:=g) hg h q=>by
  obtain⟨i1,i2⟩:=q.lookup nd hn;by_cases e:g=f
  ·subst e;have:m=n:=by rw[hn] at hg; exact (bV hg).symm
   subst this;simp only[List.lookup_cons,beq_self_eq_true];exact⟨fun d z=>⟨_,rfl,by cases bV z; exact h⟩,fun z=>nomatch z⟩
  ·have nm:n≠m:=fun z=>e (r8 nd hg (by rw[<-z]; exact hn));have b1:(f == g)=false:=by simpa using fun z=>e (Eq.symm z)
   have b2:(n == m)=false:=by simpa using nm
   simp only[List.lookup_cons,b1,b2];exact⟨i1,i2⟩
theorem DenF.put {W:Wd}{S:Hp}(nd:W.att.Nodup){f:Nat}{n:Str}{v:V}{d:D}(hn:W.att[f]? = some n)(r:Den W S v d):∀{vs ds},DenF W S vs ds->DenF W S (putF n v vs) (Ip.putF f d ds)
 | _,_,.nil=>.cons hn r .nil
 | _,_,.cons (n:=m) (f:=g) hg h q=>by
  unfold putF Ip.putF;by_cases e:g=f
  ·subst e;have:m=n:=by rw[hn] at hg; exact (bV hg).symm
   subst this;rw[if_pos rfl,if_pos rfl];exact .cons hg r q
  ·have nm:m≠n:=fun z=>e (r8 nd hg (by rw[z]; exact hn));rw[if_neg e,if_neg nm];exact .cons hg h (q.put nd hn r)
inductive OwnL (P:V->D->List Addr->Prop):List V->List D->List Addr->Prop
 | nil:OwnL P [] [] []
 | cons {v:V} {d:D} {f:List Addr} {vs:List V} {ds:List D} {g:List Addr} (h:P v d f) (q:OwnL P vs ds g):OwnL P (v::vs) (d::ds) (f++g)
inductive OwnF (att:List Str) (P:V->D->List Addr->Prop):List (Str×V)->List (Nat×D)->List Addr->Prop
 | nil:OwnF att P [] [] []
 | cons {n:Str} {i:Nat} {v:V} {d:D} {f:List Addr} {vs:List (Str×V)} {ds:List (Nat×D)} {g:List Addr} (hf:att[i]? = some n) (h:P v d f) (q:OwnF att P vs ds g):OwnF att P ((n,v)::vs) ((i,d)::ds) (f++g)
theorem OwnL.imp {P Q:V->D->List Addr->Prop}:∀{vs ds fp},OwnL P vs ds fp->(∀v d f,(∀a∈f,a∈fp)->P v d f->Q v d f)->OwnL Q vs ds fp
 | _,_,_,.nil,_=>.nil
 | _,_,_,.cons h q,k=>.cons (k _ _ _ (fun _ z=>dL _ z) h) (q.imp fun v d f z=>k v d f fun a y=>bS _ (z a y))
theorem OwnF.imp {att:List Str}{P Q:V->D->List Addr->Prop}:∀{vs ds fp},OwnF att P vs ds fp->(∀v d f,(∀a∈f,a∈fp)->P v d f->Q v d f)->OwnF att Q vs ds fp
 | _,_,_,.nil,_=>.nil
 | _,_,_,.cons hf h q,k=>.cons hf (k _ _ _ (fun _ z=>dL _ z) h) (q.imp fun v d f z=>k v d f fun a y=>bS _ (z a y))
theorem OwnL.dens {W:Wd}{T:Hp}{P:V->D->List Addr->Prop}:∀{vs ds fp},OwnL P vs ds fp->(∀v d f,(∀a∈f,a∈fp)->P v d f->Den W T v d)->Dens W T vs ds
 | _,_,_,.nil,_=>.nil
 | _,_,_,.cons h q,k=>.cons (k _ _ _ (fun _ z=>dL _ z) h) (q.dens fun v d f z=>k v d f fun a y=>bS _ (z a y))
theorem OwnF.dens {W:Wd}{T:Hp}{P:V->D->List Addr->Prop}:∀{vs ds fp},OwnF W.att P vs ds fp->(∀v d f,(∀a∈f,a∈fp)->P v d f->Den W T v d)->DenF W T vs ds
 | _,_,_,.nil,_=>.nil
 | _,_,_,.cons hf h q,k=>.cons hf (k _ _ _ (fun _ z=>dL _ z) h) (q.dens fun v d f z=>k v d f fun a y=>bS _ (z a y))
theorem OwnL.length {P:V->D->List Addr->Prop}:∀{vs ds fp},OwnL P vs ds fp->vs.length=ds.length
 | _,_,_,.nil=>rfl
 | _,_,_,.cons _ q=>by rw[List.length_cons,List.length_cons,q.length]
noncomputable def Own (W:Wd)(S H:Hp):Nat->V->D->List Addr->Prop
 | 0,v,d,fp=>fp=[]/\Den W S v d
 | k+1,v,.lst ds,fp=>∃a vs fq,v=.ref a/\H a=some (.lst vs)/\OwnL (Own W S H k) vs ds fq/\fp=a::fq
 | k+1,v,.tup ds,fp=>∃a vs,v=.ref a/\SqT W.K S a vs/\OwnL (Own W S H k) vs ds fp
 | k+1,v,.ins c ds,fp=>∃a C dx fs fq,v=.ref a/\H a=some (.ins C dx fs)/\W.iA c=some C/\OwnF W.att (Own W S H k) fs ds fq/\fp=a::fq
 | k+1,v,.exc c ds,fp=>∃a C nw fs fq,v=.ref a/\H a=some (.exc C nw fs)/\(W.xA c=some C/\nw=true)/\OwnF W.att (Own W S H k) fs ds fq/\fp=a::fq
 | _+1,v,d,fp=>fp=[]/\Den W S v d
theorem Own.mono {W:Wd}{S S' H H':Hp}(hs:Sub S S'):∀{k v d fp},(∀a∈fp,∀o,H a=some o->H' a=some o)->Own W S H k v d fp->Own W S' H' k v d fp
 | 0,_,_,_,_,h=>⟨h.1,h.2.mono hs⟩
 | k+1,_,.lst ds,_,hf,⟨a,vs,fq,e1,e2,e3,e4⟩=>⟨a,vs,fq,e1,hf a (by rw[e4]; exact bM) _ e2,e3.imp fun _ _ _ z y=>Own.mono hs (fun b hb=>hf b (by rw[e4]; exact bD _ (z b hb))) y,e4⟩
 | k+1,_,.tup ds,_,hf,⟨a,vs,e1,e2,e3⟩=>⟨a,vs,e1,SqT.sub hs e2,e3.imp fun _ _ _ z y=>Own.mono hs (fun b hb=>hf b (z b hb)) y⟩
 | k+1,_,.ins c ds,_,hf,⟨a,C,dx,fs,fq,e1,e2,e5,e3,e4⟩=>⟨a,C,dx,fs,fq,e1,hf a (by rw[e4]; exact bM) _ e2,e5,e3.imp fun _ _ _ z y=>Own.mono hs (fun b hb=>hf b (by rw[e4]; exact bD _ (z b hb))) y,e4⟩
 | k+1,_,.exc c ds,_,hf,⟨a,C,dx,fs,fq,e1,e2,e5,e3,e4⟩=>⟨a,C,dx,fs,fq,e1,hf a (by rw[e4]; exact bM) _ e2,e5,e3.imp fun _ _ _ z y=>Own.mono hs (fun b hb=>hf b (by rw[e4]; exact bD _ (z b hb))) y,e4⟩
 | _+1,_,.non,_,_,h=>⟨h.1,h.2.mono hs⟩
 | _+1,_,.bl _,_,_,h=>⟨h.1,h.2.mono hs⟩
 | _+1,_,.int _,_,_,h=>⟨h.1,h.2.mono hs⟩
 | _+1,_,.str _,_,_,h=>⟨h.1,h.2.mono hs⟩
theorem Own.den {W:Wd}{S H T:Hp}(hs:Sub S T):∀{k v d fp},(∀a∈fp,∀o,H a=some o->T a=some o)->Own W S H k v d fp->Den W T v d
 | 0,_,_,_,_,h=>h.2.mono hs
 | k+1,_,.lst ds,_,hf,⟨a,vs,fq,e1,e2,e3,e4⟩=>by
  subst e1;exact .lst (.inl (hf a (by rw[e4]; exact bM) _ e2)) (e3.dens fun _ _ _ z y=>Own.den hs (fun b hb=>hf b (by rw[e4]; exact bD _ (z b hb))) y)
 | k+1,_,.tup ds,_,hf,⟨a,vs,e1,e2,e3⟩=>by
  subst e1;exact .tup (SqT.sub hs e2) (e3.dens fun _ _ _ z y=>Own.den hs (fun b hb=>hf b (z b hb)) y)
 | k+1,_,.ins c ds,_,hf,⟨a,C,dx,fs,fq,e1,e2,e5,e3,e4⟩=>by
  subst e1;exact .ins (hf a (by rw[e4]; exact bM) _ e2) e5 (e3.dens fun _ _ _ z y=>Own.den hs (fun b hb=>hf b (by rw[e4]; exact bD _ (z b hb))) y)
 | k+1,_,.exc c ds,_,hf,⟨a,C,dx,fs,fq,e1,e2,e5,e3,e4⟩=>by
  subst e1;exact .exc (hf a (by rw[e4]; exact bM) _ e2) e5.1 (e3.dens fun _ _ _ z y=>Own.den hs (fun b hb=>hf b (by rw[e4]; exact bD _ (z b hb))) y)
 | _+1,_,.non,_,_,h=>h.2.mono hs
 | _+1,_,.bl _,_,_,h=>h.2.mono hs
 | _+1,_,.int _,_,_,h=>h.2.mono hs
 | _+1,_,.str _,_,_,h=>h.2.mono hs
theorem OwnL.mem {P:V->D->List Addr->Prop}{R:Addr->Prop}(hP:∀v d f,P v d f->∀a∈f,R a):∀{vs ds fp},OwnL P vs ds fp->∀a∈fp,R a
 | _,_,_,.nil,_,z=>by simp at z
 | _,_,_,.cons h q,a,z=>(dI z).elim (hP _ _ _ h a) (q.mem hP a)
theorem OwnF.mem {att:List Str}{P:V->D->List Addr->Prop}{R:Addr->Prop}(hP:∀v d f,P v d f->∀a∈f,R a):∀{vs ds fp},OwnF att P vs ds fp->∀a∈fp,R a
 | _,_,_,.nil,_,z=>by simp at z
 | _,_,_,.cons _ h q,a,z=>(dI z).elim (hP _ _ _ h a) (q.mem hP a)
theorem Own.dom {W:Wd}{S H:Hp}:∀{k v d fp},Own W S H k v d fp->∀a∈fp,H a≠none
 | 0,_,_,_,h,a,z=>by rw[h.1] at z; simp at z
 | k+1,_,.lst ds,_,⟨a,vs,fq,e1,e2,e3,e4⟩,b,z=>by
  rw[e4] at z;rcases cz z with q | q
  ·rw[q,e2]; simp
  ·exact e3.mem (fun _ _ _ y=>Own.dom y) b q
 | k+1,_,.tup ds,_,⟨a,vs,e1,e2,e3⟩,b,z=>e3.mem (fun _ _ _ y=>Own.dom y) b z
 | k+1,_,.ins c ds,_,⟨a,C,dx,fs,fq,e1,e2,e5,e3,e4⟩,b,z=>by
  rw[e4] at z;rcases cz z with q | q
  ·rw[q,e2]; simp
  ·exact e3.mem (fun _ _ _ y=>Own.dom y) b q
 | k+1,_,.exc c ds,_,⟨a,C,dx,fs,fq,e1,e2,e5,e3,e4⟩,b,z=>by
  rw[e4] at z;rcases cz z with q | q
  ·rw[q,e2]; simp
  ·exact e3.mem (fun _ _ _ y=>Own.dom y) b q
 | _+1,_,.non,_,h,a,z=>by rw[h.1] at z; simp at z
 | _+1,_,.bl _,_,h,a,z=>by rw[h.1] at z; simp at z
 | _+1,_,.int _,_,h,a,z=>by rw[h.1] at z; simp at z
 | _+1,_,.str _,_,h,a,z=>by rw[h.1] at z; simp at z
theorem OwnL.flat {W:Wd}{S:Hp}{P:V->D->List Addr->Prop}(hP:∀v d,d.flat=true->Den W S v d->P v d []):∀{vs ds},D.flats ds=true->Dens W S vs ds->OwnL P vs ds []
 | _,_,_,.nil=>.nil
 | _,_,hf,.cons h q=>by
  rw[D.flats,Bool.and_eq_true] at hf;exact OwnL.cons (f:=[]) (g:=[]) (hP _ _ hf.1 h) (OwnL.flat hP hf.2 q)
theorem OwnL.flat_inv {W:Wd}{S:Hp}{P:V->D->List Addr->Prop}(hP:∀v d f,d.flat=true->P v d f->f=[]/\Den W S v d):∀{vs ds fp},D.flats ds=true->OwnL P vs ds fp->fp=[]/\Dens W S vs ds
 | _,_,_,_,.nil=>⟨rfl,.nil⟩
 | _,_,_,hf,.cons h q=>by
  rw[D.flats,Bool.and_eq_true] at hf;obtain⟨e1,d1⟩:=hP _ _ _ hf.1 h;obtain⟨e2,d2⟩:=q.flat_inv hP hf.2;exact⟨by rw[e1,e2]; rfl,.cons d1 d2⟩
theorem Own.flat {W:Wd}{S H:Hp}:∀{k v d},d.flat=true->Den W S v d->Own W S H k v d []
 | 0,_,_,_,h=>⟨rfl,h⟩
 | k+1,_,.lst _,hf,_=>by simp[D.flat] at hf
 | k+1,_,.tup ds,hf,.tup e q=>⟨_,_,rfl,e,OwnL.flat (fun _ _=>Own.flat) (by rw[D.flat] at hf; exact hf) q⟩
 | k+1,_,.ins _ _,hf,_=>by simp[D.flat] at hf
 | k+1,_,.exc _ _,hf,_=>by simp[D.flat] at hf
 | _+1,_,.non,_,h=>⟨rfl,h⟩
 | _+1,_,.bl _,_,h=>⟨rfl,h⟩
 | _+1,_,.int _,_,h=>⟨rfl,h⟩
 | _+1,_,.str _,_,h=>⟨rfl,h⟩
theorem Own.flat_inv {W:Wd}{S H:Hp}:∀{k v d fp},d.flat=true->Own W S H k v d fp->fp=[]/\Den W S v d
 | 0,_,_,_,_,h=>h
 | k+1,_,.lst _,_,hf,_=>by simp[D.flat] at hf
 | k+1,_,.tup ds,_,hf,⟨a,vs,e1,e2,e3⟩=>by
  obtain⟨h1,h2⟩:=e3.flat_inv (fun _ _ _=>Own.flat_inv) (by rw[D.flat] at hf; exact hf);subst e1;exact⟨h1,.tup e2 h2⟩
 | k+1,_,.ins _ _,_,hf,_=>by simp[D.flat] at hf
 | k+1,_,.exc _ _,_,hf,_=>by simp[D.flat] at hf
 | _+1,_,.non,_,_,h=>h
 | _+1,_,.bl _,_,_,h=>h
 | _+1,_,.int _,_,_,h=>h
 | _+1,_,.str _,_,_,h=>h
theorem OwnL.re {P Q:V->D->List Addr->Prop}{b:D->Bool}(hP:∀v d f,b d=true->P v d f->Q v d f):∀{vs ds fp},ds.all b=true->OwnL P vs ds fp->OwnL Q vs ds fp
 | _,_,_,_,.nil=>.nil
 | _,_,_,hf,.cons h q=>by
  rw[List.all_cons,Bool.and_eq_true] at hf;exact .cons (hP _ _ _ hf.1 h) (q.re hP hf.2)
def NOk (N:Addr->Prop)(H:Hp):Prop:=∀a,N a->H a≠none
def RelS (W:Wd)(S:Hp)(a:Sl)(σ:St):Prop:=∀(i:Nat) (d:D),a[i]? = some (some d)->∃v,σ[i]? = some (some v)/\Den W S v d
theorem RelS.mono {W:Wd}{S S':Hp}{a:Sl}{σ:St}(h:Sub S S')(r:RelS W S a σ):RelS W S' a σ:=fun i d e=>by
 obtain⟨v,h1,h2⟩:=r i d e;exact⟨v,h1,h2.mono h⟩
def Res (W:Wd)(H:Hp)(N:Addr->Prop)(H':Hp)(x:KD)(v:V):Prop:=
 Sub H H'/\∃fp:List Addr,fp.Nodup/\(∀a∈fp,H a=none)/\Own W (hid (fun a=>N a\/a∈fp) H') H' x.1 v x.2 fp
inductive OwnV (W:Wd) (S H:Hp):List V->List KD->List Addr->Prop
 | nil:OwnV W S H [] [] []
 | cons {v:V} {x:KD} {f:List Addr} {vs:List V} {xs:List KD} {g:List Addr} (h:Own W S H x.1 v x.2 f) (q:OwnV W S H vs xs g):OwnV W S H (v::vs) (x::xs) (f++g)
theorem OwnV.mono {W:Wd}{S S' H H':Hp}(hs:Sub S S'):∀{vs xs fp},(∀a∈fp,∀o,H a=some o->H' a=some o)->OwnV W S H vs xs fp->OwnV W S' H' vs xs fp
 | _,_,_,_,.nil=>.nil
 | _,_,_,hf,.cons h q=>.cons (h.mono hs fun a z=>hf a (dL _ z)) (q.mono hs fun a z=>hf a (bS _ z))
theorem OwnV.dens {W:Wd}{S H T:Hp}(hs:Sub S T):∀{vs xs fp},(∀a∈fp,∀o,H a=some o->T a=some o)->OwnV W S H vs xs fp->Dens W T vs (xs.map (·.2))
 | _,_,_,_,.nil=>.nil
 | _,_,_,hf,.cons h q=>.cons (h.den hs fun a z=>hf a (dL _ z)) (q.dens hs fun a z=>hf a (bS _ z))
theorem OwnV.dom {W:Wd}{S H:Hp}:∀{vs xs fp},OwnV W S H vs xs fp->∀a∈fp,H a≠none
 | _,_,_,.nil,a,z=>by simp at z
 | _,_,_,.cons h q,a,z=>(dI z).elim (h.dom a) (q.dom a)
theorem OwnV.length {W:Wd}{S H:Hp}:∀{vs xs fp},OwnV W S H vs xs fp->vs.length=xs.length
 | _,_,_,.nil=>rfl
 | _,_,_,.cons _ q=>by rw[List.length_cons,List.length_cons,q.length]
def ResL (W:Wd)(H:Hp)(N:Addr->Prop)(H':Hp)(xs:List KD)(vs:List V):Prop:=
 Sub H H'/\∃fp:List Addr,fp.Nodup/\(∀a∈fp,H a=none)/\OwnV W (hid (fun a=>N a\/a∈fp) H') H' vs xs fp
def ExcR (W:Wd)(H:Hp)(N:Addr->Prop)(H':Hp)(c:Nat)(fs:List (Nat×D))(e:Addr):Prop:=
 Sub H H'/\H e=none/\∃C vs,H' e=some (.exc C false vs)/\W.xA c=some C/\DenF W (hid N H') vs fs
theorem Res.den {W:Wd}{H H':Hp}{N:Addr->Prop}{x:KD}{v:V}(hN:NOk N H)(r:Res W H N H' x v):Den W (hid N H') v x.2:=by
 obtain⟨hs,fp,_,hf,o⟩:=r;refine o.den (fun a u e=>?_) fun a ha u e=>az.mpr ⟨fun z=>hN a z (hf a ha),e⟩;obtain⟨h1,h2⟩:=az.mp e;exact az.mpr ⟨fun z=>h1 (.inl z),h2⟩
theorem ResL.dens {W:Wd}{H H':Hp}{N:Addr->Prop}{xs:List KD}{vs:List V}(hN:NOk N H)(r:ResL W H N H' xs vs):Dens W (hid N H') vs (xs.map (·.2)):=by
 obtain⟨hs,fp,_,hf,o⟩:=r;refine o.dens (fun a u e=>?_) fun a ha u e=>az.mpr ⟨fun z=>hN a z (hf a ha),e⟩;obtain⟨h1,h2⟩:=az.mp e;exact az.mpr ⟨fun z=>h1 (.inl z),h2⟩
theorem Res.of_den {W:Wd}{H H':Hp}{N:Addr->Prop}{v:V}{d:D}(hs:Sub H H')(h:Den W (hid N H') v d):Res W H N H' (0,d) v:=
 ⟨hs,[],.nil,fun a z=>by simp at z,rfl,h.mono fun a o e=>az.mpr ⟨fun z=>(az.mp e).1 (by simpa using z),(az.mp e).2⟩⟩
theorem Res.of_flat {W:Wd}{H H':Hp}{N:Addr->Prop}{v:V}{k:Nat}{d:D}(hs:Sub H H')(hf:d.flat=true)(h:Den W (hid N H') v d):Res W H N H' (k,d) v:=
 ⟨hs,[],.nil,fun a z=>by simp at z,Own.flat hf (h.mono fun a o e=>az.mpr ⟨fun z=>(az.mp e).1 (by simpa using z),(az.mp e).2⟩)⟩
theorem NOk.mono {N:Addr->Prop}{H H':Hp}(h:NOk N H)(hs:Sub H H'):NOk N H':=fun a z q=>h a z (hs.none q)
section
variable (W:Wd)(G:Pg)(cl:Nat->List KD->Ip.Run)
def aE (ir:Ex)(E:St->XK):TE:=fun σ H Q=>∃(N:Addr->Prop) (a:Sl),NOk N H/\RelS W (hid N H) a σ/\match Ip.eval G cl a ir with
 | .ok x=>∀v H',Res W H N H' x v->Q v H'
 | .exc c fs=>∀e H',ExcR W H N H' c fs e->E σ (.ref e) none H'
 | .bad=>False
def bh (irs:List Ex)(E:St->XK):TA:=fun σ H Q=>∃(N:Addr->Prop) (a:Sl),NOk N H/\RelS W (hid N H) a σ/\match Ip.evals G cl a irs with
 | .ok xs=>∀vs H',ResL W H N H' xs vs->Q vs H'
 | .exc c fs=>∀e H',ExcR W H N H' c fs e->E σ (.ref e) none H'
 | .bad=>False
end
theorem PE.mono {X:Cx}{e:Expr}{t t':TE}(h:PE X e t)(k:∀σ H Q,t' σ H Q->t σ H Q):PE X e t':=fun pins s σ H Q I q=>h pins s σ H Q I (k σ H Q q)
theorem PA.mono {X:Cx}{e:List Expr}{t t':TA}(h:PA X e t)(k:∀σ H Q,t' σ H Q->t σ H Q):PA X e t':=fun pos pins s σ H Q I q=>h pos pins s σ H Q I (k σ H Q q)
theorem PT.mono {X:Cx}{e:Expr}{t t':TT}(h:PT X e t)(k:∀σ H Q,t' σ H Q->t σ H Q):PT X e t':=fun pins s σ H Q I q=>h pins s σ H Q I (k σ H Q q)
theorem PS.mono {X:Cx}{e:Stmt}{t t':TS}(h:PS X e t)(k:∀D σ H,t' D σ H->t D σ H):PS X e t':=fun pins s σ H D I q=>h pins s σ H D I (k D σ H q)
theorem PSs.mono {X:Cx}{e:List Stmt}{t t':TS}(h:PSs X e t)(k:∀D σ H,t' D σ H->t D σ H):PSs X e t':=fun pins s σ H D I q=>h pins s σ H D I (k D σ H q)
theorem bn {X:Cx}{e:Expr}{W:Wd}{G:Pg}{cl:Nat->List KD->Ip.Run}{E:St->XK}:PE X e (aE W G cl .bad E):=fun _ _ _ _ _ _ ⟨_,_,_,_,h⟩=>by
 rw[Ip.eval] at h; exact h.elim
section
variable {W:Wd}{G:Pg}{cl:Nat->List KD->Ip.Run}{E:St->XK}{σ:St}{H:Hp}
theorem ExcR.trans {H1 H':Hp}{N N':Addr->Prop}{c:Nat}{fs:List (Nat×D)}{e:Addr}(hs:Sub H H1)(hn:∀a,N a->N' a)(r:ExcR W H1 N' H' c fs e):ExcR W H N H' c fs e:=by
 obtain⟨s1,e1,C,vs,h1,h2,h3⟩:=r;exact⟨hs.trans s1,hs.none e1,C,vs,h1,h2,h3.mono fun a o z=>az.mpr ⟨fun q=>(az.mp z).1 (hn a q),(az.mp z).2⟩⟩
theorem gq {ir:Ex}{Q:VK}{N:Addr->Prop}{a:Sl}(hN:NOk N H)(hS:RelS W (hid N H) a σ)
  (ok:∀x,Ip.eval G cl a ir=.ok x->∀v H1 fp,Sub H H1->fp.Nodup->(∀b∈fp,H b=none)->Own W (hid (fun b=>N b\/b∈fp) H1) H1 x.1 v x.2 fp ->
   NOk (fun b=>N b\/b∈fp) H1->RelS W (hid (fun b=>N b\/b∈fp) H1) a σ->Q v H1)
  (ex:∀c fs,Ip.eval G cl a ir=.exc c fs->∀e H',ExcR W H N H' c fs e->E σ (.ref e) none H')(nb:Ip.eval G cl a ir≠.bad):aE W G cl ir E σ H Q:=by
 refine⟨N,a,hN,hS,?_⟩;cases q:Ip.eval G cl a ir with
 | bad=>exact absurd q nb
 | exc c fs=>exact ex c fs q
 | ok x=>
  rintro v H1 ⟨hs,fp,nd,hf,o⟩;refine ok x q v H1 fp hs nd hf o (fun b z=>?_) (hS.mono (gw hs fun b z=>z.imp id fun y=>hf b y));exact z.elim (fun y=>(hN.mono hs) b y) (o.dom b)
end
end L2
end
section
namespace L2
open PySem PySem.Spec PyProof.Rows
open Ip (D KD Ex Op Pg Fn Sl Fr Wk Tg Tb R bg cj bj bB dE bF bi aU)
def rD (W:Wd)(G:Pg)(o:Op)(vs:List V)(H:Hp)(Q:VK):Prop:=∃(N:Addr->Prop) (xs:List KD) (x:KD),NOk N H/\Dens W (hid N H) vs (xs.map (·.2))/\aU G o xs=some x/\∀v H',Res W H N H' x v->Q v H'
theorem Res.trans (hs:Sub H H2)(r:Res W H2 N H' x v):Res W H N H' x v:=by
 obtain⟨h1,fp,nd,hf,o⟩:=r;exact⟨hs.trans h1,fp,nd,fun a z=>hs.none (hf a z),o⟩
theorem Own.later {W:Wd}{H H1 H2:Hp}{N M:Addr->Prop}{k:Nat}{v:V}{d:D}{fp:List Addr}(hN:NOk N H)(hs:Sub H1 H2)(hf:∀b∈fp,H b=none)(hM:∀b,N b->M b)(o:Own W (hid (fun b=>M b\/b∈fp) H1) H1 k v d fp):Den W (hid N H2) v d:=by
 refine o.den (fun a u e=>?_) fun a ha u e=>az.mpr ⟨fun z=>hN a z (hf a ha),hs a u e⟩;obtain⟨h1,h2⟩:=az.mp e;exact az.mpr ⟨fun z=>h1 (.inl (hM a z)),hs a u h2⟩
section
variable {W:Wd}{G:Pg}{cl:Nat->List KD->Ip.Run}{E:St->XK}{σ:St}{H:Hp}{Q:VK}{o:Op}
theorem kf (hr:∀x H Q,rD W G o [x] H Q->r x H Q)(h:aE W G cl (.op o [ia]) E σ H Q):qY r (aE W G cl ia E) σ H Q:=by
 obtain⟨N,a,hN,hS,h⟩:=h;unfold qY;refine gq hN hS (fun x ex v H1 fp hs nd hf ow hN1 hS1=>?_) (fun c fs ee=>?_) fun ee=>?_
 ·simp only[cj,bB,bj,ex,R.bind] at h;cases q:aU G o [x] with
  | none=>simp only[q,R.of] at h
  | some z=>
   simp only[q,R.of] at h;exact hr _ _ _ ⟨N,[x],z,hN.mono hs,.cons (ow.later hN (Sub.refl _) hf fun _ y=>y) .nil,q,fun w H' r=>h w H' (r.trans hs)⟩
 ·simp only[cj,bB,bj,ee,R.bind] at h;exact h
 ·simp only[cj,bB,bj,ee,R.bind] at h
theorem hX (hr:∀x y H Q,rD W G o [x,y] H Q->r x y H Q)(h:aE W G cl (.op o [ia,ib]) E σ H Q):iR r (aE W G cl ia E) (aE W G cl ib E) σ H Q:=by
 obtain⟨N,a,hN,hS,h⟩:=h;unfold iR;refine gq hN hS (fun x ex v H1 fp hs nd hf ow hN1 hS1=>?_) (fun c fs ee=>?_) fun ee=>?_
 ·refine gq hN1 hS1 (fun y ey w H2 fq hs2 nd2 hf2 ow2 hN2 hS2=>?_) (fun c fs ee e H' r=>?_) fun ee=>?_
  ·simp only[cj,bB,bj,ex,ey,R.bind] at h;cases q:aU G o [x,y] with
   | none=>simp only[q,R.of] at h
   | some z=>
    simp only[q,R.of] at h;exact hr _ _ _ _ ⟨N,[x,y],z,hN.mono (hs.trans hs2),.cons (ow.later hN hs2 hf fun _ y=>y) (.cons (ow2.later (hN.mono hs) (Sub.refl _) hf2 fun _ y=>.inl y) .nil),q,fun w H' r=>h w H' (r.trans (hs.trans hs2))⟩
  ·simp only[cj,bB,bj,ex,ee,R.bind] at h;exact h e H' (r.trans hs fun _ y=>.inl y)
  ·simp only[cj,bB,bj,ex,ee,R.bind] at h
 ·simp only[cj,bB,bj,ee,R.bind] at h;exact h
 ·simp only[cj,bB,bj,ee,R.bind] at h
end
theorem Dens.one (h:Dens W S vs [d]):∃v,vs=[v]/\Den W S v d:=by
 cases h with
 | cons h r=>cases r; exact⟨_,rfl,h⟩
theorem Dens.two (h:Dens W S vs [d,e]):∃v w,vs=[v,w]/\Den W S v d/\Den W S w e:=by
 cases h with
 | cons h r=>
  obtain⟨w,e,h2⟩:=r.one;subst e;exact⟨_,_,rfl,h,h2⟩
theorem eG {W:Wd}{S:Hp}{x:V}{xs:List KD}(h:Dens W S [x] (xs.map (·.2))):∃p,xs=[p]/\Den W S x p.2:=by
 cases xs with
 | nil=>cases h
 | cons p r=>
  cases h with
  | cons h1 h2=>
   cases r with
   | nil=>exact⟨p,rfl,h1⟩
   | cons _ _=>cases h2
theorem dk {W:Wd}{S:Hp}{x y:V}{xs:List KD}(h:Dens W S [x,y] (xs.map (·.2))):∃p q,xs=[p,q]/\Den W S x p.2/\Den W S y q.2:=by
 cases xs with
 | nil=>cases h
 | cons p r=>
  cases h with
  | cons h1 h2=>
   obtain⟨q,rfl,h3⟩:=eG h2;exact⟨p,q,rfl,h1,h3⟩
theorem Den.int_inv (h:Den W S v (.int i)):v=.int i:=by cases h; rfl
theorem Den.bl_inv (h:Den W S v (.bl i)):v=.bl i:=by cases h; rfl
theorem Res.int:Res W H N H (k,.int i) (.int i):=Res.of_flat (Sub.refl _) rfl .int
theorem Res.bl:Res W H N H (k,.bl i) (.bl i):=Res.of_flat (Sub.refl _) rfl .bl
section
variable {X:Cx}{W:Wd}{G:Pg}
theorem OpR.imp (h:OpR X f r)(k:∀x y H Q,r' x y H Q->r x y H Q):OpR X f r':=fun pins s σ H x y v u Q I rx ry q=>h pins s σ H x y v u Q I rx ry (k x y H Q q)
theorem iP (ho:∀xs,aU G o xs=bi (bF f) xs)(hf:∀i j x,f i j=some x->C i j/\∀(N:Addr->Prop) (H:Hp),Res W H N H x (g i j)) :
  ∀x y H Q,rD W G o [x,y] H Q->rI C g x y H Q:=by
 rintro x y H Q ⟨N,xs,z,hN,hd,hz,hq⟩;obtain⟨p,q,rfl,d1,d2⟩:=dk hd;rw[ho] at hz;obtain⟨k1,p⟩:=p;obtain⟨k2,q⟩:=q;simp only[bi] at hz;cases p <;> cases q <;> simp only[bF] at hz <;> try (cases hz; done)
 cases d1;cases d2;obtain⟨hc,hr⟩:=hf _ _ _ hz;exact⟨_,_,rfl,rfl,hc,hq _ _ (hr N H)⟩
theorem E6:OpR X (binaryOp .Sub) (fun x y=>rD W G .sub [x,y]):=y9.imp fun x y H Q h=>by
 obtain⟨i,j,e1,e2,_,q⟩:=iP (C:=fun _ _=>True) (g:=fun i j=>.int (i - j)) (fun _=>rfl) (fun i j x e=>by cases e; exact⟨trivial,fun _ _=>Res.int⟩) x y H Q h;exact⟨i,j,e1,e2,q⟩
theorem AZ:OpR X (binaryOp .FloorDiv) (fun x y=>rD W G .fdiv [x,y]):=B1.imp (iP (fun _=>rfl) fun i j x e=>by
 by_cases h:0<j/\j<1073741824
 ·rw[if_pos h] at e; cases e; exact⟨h,fun _ _=>Res.int⟩
 ·rw[if_neg h] at e; cases e)
theorem xH:OpR X (binaryOp .Mod) (fun x y=>rD W G .mod [x,y]):=BY.imp (iP (fun _=>rfl) fun i j x e=>by
 by_cases h:0<j
 ·rw[if_pos h] at e; cases e; exact⟨h,fun _ _=>Res.int⟩
 ·rw[if_neg h] at e; cases e)
theorem EF (h:dE i=true):i.natAbs<2 ^ 64:=by
 rw[Ip.dU] at h;omega
theorem FZ:OpR X (binaryOp .Pow) (fun x y=>rD W G .pow [x,y]):=GX.imp (iP (fun _=>rfl) fun i j x e=>by
 by_cases h:0<=j/\j<=1000000/\dE i=true
 ·rw[if_pos h] at e; cases e; exact⟨⟨h.1,h.2.1,EF h.2.2⟩,fun _ _=>Res.int⟩
 ·rw[if_neg h] at e; cases e)
theorem Fj:OpR X (binaryOp .RShift) (fun x y=>rD W G .shr [x,y]):=FT.imp (iP (fun _=>rfl) fun i j x e=>by
 by_cases h:0<=j
 ·rw[if_pos h] at e; cases e; exact⟨h,fun _ _=>Res.int⟩
 ·rw[if_neg h] at e; cases e)
theorem p7:OpR X (compareOp .LtE) (fun x y=>rD W G .le [x,y]):=zH.imp fun x y H Q h=>by
 obtain⟨i,j,e1,e2,_,q⟩:=iP (C:=fun _ _=>True) (g:=fun i j=>.bl (decide (i<=j))) (fun _=>rfl) (fun i j x e=>by cases e; exact⟨trivial,fun _ _=>Res.bl⟩) x y H Q h;exact⟨i,j,e1,e2,q⟩
theorem rV:OpR X (compareOp .Gt) (fun x y=>rD W G .gt [x,y]):=Dv.imp fun x y H Q h=>by
 obtain⟨i,j,e1,e2,_,q⟩:=iP (C:=fun _ _=>True) (g:=fun i j=>.bl (decide (j<i))) (fun _=>rfl) (fun i j x e=>by cases e; exact⟨trivial,fun _ _=>Res.bl⟩) x y H Q h;exact⟨i,j,e1,e2,q⟩
theorem qy:OpR X (compareOp .GtE) (fun x y=>rD W G .ge [x,y]):=GM.imp fun x y H Q h=>by
 obtain⟨i,j,e1,e2,_,q⟩:=iP (C:=fun _ _=>True) (g:=fun i j=>.bl (decide (j<=i))) (fun _=>rfl) (fun i j x e=>by cases e; exact⟨trivial,fun _ _=>Res.bl⟩) x y H Q h;exact⟨i,j,e1,e2,q⟩
theorem rp:OpR X (compareOp .Lt) (fun x y=>rD W G .lt [x,y]):=Fe.imp fun x y H Q h=>by
 obtain⟨i,j,e1,e2,_,q⟩:=iP (C:=fun _ _=>True) (g:=fun i j=>.bl (decide (i<j))) (fun _=>rfl) (fun i j x e=>by cases e; exact⟨trivial,fun _ _=>Res.bl⟩) x y H Q h;exact⟨i,j,e1,e2,q⟩
theorem OwnL.zero:∀{vs ds},Dens W S vs ds->OwnL (Own W S T 0) vs ds []
 | _,_,.nil=>.nil
 | _,_,.cons h q=>OwnL.cons (f:=[]) (g:=[]) ⟨rfl,h⟩ (OwnL.zero q)
theorem GD (hp:H p=none):Sub (hid N H) (hid (fun a=>N a\/a∈[p]) (upd H p o)):=
 gw (Sub.upd hp) fun a z=>z.imp id fun y=>by rw[List.mem_singleton.mp y]; exact hp
theorem Res.newL (hp:H p=none)(h:Dens W (hid N H) vs ds):Res W H N (upd H p (.lst vs)) (1,.lst ds) (.ref p):=
 ⟨Sub.upd hp,[p],by simp,fun a z=>by rw[List.mem_singleton.mp z]; exact hp,p,vs,[],rfl,bA,OwnL.zero (h.mono (GD hp)),rfl⟩
theorem Res.newT (hN:NOk N H)(hp:H p=none)(h:Dens W (hid N H) vs ds):Res W H N (upd H p (.tup vs)) (0,.tup ds) (.ref p):=
 Res.of_den (Sub.upd hp) (.tup (SqT.of (az.mpr ⟨fun z=>hN p z hp,bA⟩)) (h.mono (gw (Sub.upd hp) fun a z=>.inl z)))
theorem Inv.rdL (I:Inv X pins σ H s)(h:Rd H l (.lst xs)):xs.length<=sizeLine/\∃(its:List Value) (n:Nat),Vals xs its/\xs.length=its.length/\s.heap.get? l=some { cls:=.type "list",data:=.seq its.toArray n }:=by
 obtain⟨z,its,n,r,e⟩:=h.ok I.hok;exact⟨z,its,n,r,r.length,e⟩
def ml:R2:=fun x y H Q=>∃l b xs zs,x=.ref l/\y=.ref b/\Rd H l (.lst xs)/\Rd H b (.lst zs)/\xs.length+zs.length<=sizeLine/\∀p,H p=none->Q (.ref p) (upd H p (.lst (xs++zs)))
theorem AY:OpR X (binaryOp .Add) ml:=by
 intro pins s σ H x y v u Q I rx ry h;obtain⟨l,b,xs,zs,rfl,rfl,hH,hB,hz,q⟩:=h;cases rx;cases ry;obtain⟨z,its,n,r,hl,e⟩:=I.rdL hH;obtain⟨z2,its2,n2,r2,hl2,e2⟩:=I.rdL hB;refine PySem.P.add_list e e2 ?_ (by rw[List.size_toArray,List.size_toArray]; omega);have ea:its.toArray++its2.toArray=(its++its2).toArray:=by simp
 rw[ea];exact⟨.ref _,_,I.lnew (t':=s.toks) (r.append r2) (by rw[List.length_append]; omega),rfl,q _ I.fresh⟩
theorem gN (h:n<=Ip.SL):n<=sizeLine:=bK h (by decide)
theorem yB:OpR X (binaryOp .Mult) (fun x y=>rD W G .mul [x,y]):=by
 refine Dx.imp fun x y H Q hZz=>?_;obtain⟨N,xs,z,hN,hd,hz,hq⟩:=hZz;obtain⟨⟨k1,p⟩,⟨k2,q⟩,rfl,d1,d2⟩:=dk hd;simp only[Ip.zp,bi] at hz;cases p <;> cases q <;> simp only[Ip.jV] at hz <;> try (cases hz; done)
 ·rename_i i j;cases d1;cases d2;by_cases h:(dE i||dE j)=true
  ·rw[if_pos h] at hz;cases hz;refine⟨i,j,rfl,rfl,?_,hq _ _ Res.int⟩;simp only[Bool.or_eq_true,Ip.dU] at h;unfold CMul;omega
  ·rw[if_neg h] at hz; cases hz
theorem FR (hK:W.K=X.K):OpR X (binaryOp .Add) (fun x y=>rD W G .add [x,y]):=by
 refine ((AH.or AY).or (xV.or EK)).imp fun x y H Q hZz=>?_;obtain⟨N,xs,z,hN,hd,hz,hq⟩:=hZz;obtain⟨⟨k1,p⟩,⟨k2,q⟩,rfl,d1,d2⟩:=dk hd;simp only[Ip.EV,bi] at hz;cases p <;> cases q <;> simp only[Ip.de] at hz <;> try (cases hz; done)
 ·cases d1;cases d2;cases hz;exact .inl (.inl ⟨_,_,rfl,rfl,hq _ _ Res.int⟩)
 ·rename_i xs ys;split at hz
  ·rename_i hl;cases hz;cases d1 with | lst e1 q1=>?_
   cases d2 with | lst e2 q2=>?_
   refine .inl (.inr ⟨_,_,_,_,rfl,rfl,Rd.sub bm e1,Rd.sub bm e2,?_,fun p hp=>hq _ _ (Res.newL hp (q1.append q2))⟩);rw[q1.length,q2.length];exact gN hl
  ·cases hz
 ·rename_i xs ys;split at hz
  ·rename_i hl;cases hz;cases d1 with | @tup a vs _ e1 q1=>?_
   cases d2 with | @tup b ws _ e2 q2=>?_
   have s1:SqT X.K H a vs:=by rw[<-hK]; exact SqT.sub bm e1
   have s2:SqT X.K H b ws:=by rw[<-hK]; exact SqT.sub bm e2
   by_cases c1:vs=[]
   ·subst c1;cases q1;exact .inr (.inl ⟨a,b,ws,rfl,rfl,s1,s2,hq _ _ (Res.of_den (Sub.refl _) (.tup e2 q2))⟩)
   ·refine .inr (.inr ⟨a,b,vs,ws,rfl,rfl,s1,s2,c1,?_,fun c2=>?_,fun _ p hp=>hq _ _ (Res.newT hN hp (q1.append q2))⟩)
    ·rw[q1.length,q2.length];exact gN hl
    ·subst c2;cases q2;rw[List.append_nil] at hq;exact hq _ _ (Res.of_den (Sub.refl _) (.tup e1 q1))
  ·cases hz
end
mutual
noncomputable def bT:D->PyData
 | .non=>.none
 | .bl b=>.bool b
 | .int i=>.int i
 | .str s=>.str s
 | .lst xs=>.list (pyDs xs)
 | .tup xs=>.tuple (pyDs xs)
 | .ins _ _=>.none
 | .exc _ _=>.none
noncomputable def pyDs:List D->List PyData
 | []=>[]
 | d::ds=>bT d::pyDs ds
end
mutual
theorem rG:∀x y:D,∀n m,x.pur n=true->y.pur m=true->PyData.eqv (bT x) (bT y)=x.eq y
 | .lst xs,y,n,m,hx,hy=>by
  cases n with
  | zero=>cases hx
  | succ n=>
   cases y with
   | lst ys=>
    cases m with
    | zero=>cases hy
    | succ m=>rw[bT,bT,D.eq,PyData.eqv]; exact zI0 xs ys n m hx hy
   | ins _ _=>cases m <;> cases hy
   | exc _ _=>cases m <;> cases hy
   | _=>simp[bT,D.eq,PyData.eqv]
 | .tup xs,y,n,m,hx,hy=>by
  cases n with
  | zero=>cases hx
  | succ n=>
   cases y with
   | tup ys=>
    cases m with
    | zero=>cases hy
    | succ m=>rw[bT,bT,D.eq,PyData.eqv]; exact zI0 xs ys n m hx hy
   | ins _ _=>cases m <;> cases hy
   | exc _ _=>cases m <;> cases hy
   | _=>simp[bT,D.eq,PyData.eqv]
 | .ins _ _,_,n,_,hx,_=>by cases n <;> cases hx
 | .exc _ _,_,n,_,hx,_=>by cases n <;> cases hx
 | .non,y,_,m,_,hy=>by
  cases y with
  | ins _ _=>cases m <;> cases hy
  | exc _ _=>cases m <;> cases hy
  | _=>simp[bT,D.eq,PyData.eqv]
 | .bl b,y,_,m,_,hy=>by
  cases y with
  | bl c=>cases b <;> cases c <;> rfl
  | int i=>rw[bT,bT,D.eq,PyData.eqv]; rfl
  | ins _ _=>cases m <;> cases hy
  | exc _ _=>cases m <;> cases hy
  | _=>simp[bT,D.eq,PyData.eqv]
 | .int i,y,_,m,_,hy=>by
  cases y with
  | bl c=>rw[bT,bT,D.eq,PyData.eqv]; rfl
  | int i=>rw[bT,bT,D.eq,PyData.eqv]; rfl
  | ins _ _=>cases m <;> cases hy
  | exc _ _=>cases m <;> cases hy
  | _=>simp[bT,D.eq,PyData.eqv]
 | .str i,y,_,m,_,hy=>by
  cases y with
  | str j=>rw[bT,bT,D.eq,PyData.eqv]; by_cases h:i=j <;> simp[h]
  | ins _ _=>cases m <;> cases hy
  | exc _ _=>cases m <;> cases hy
  | _=>simp[bT,D.eq,PyData.eqv]
theorem zI0:∀xs ys:List D,∀n m,xs.all (D.pur n)=true->ys.all (D.pur m)=true->PyData.eqvAll (pyDs xs) (pyDs ys)=D.eqs xs ys
 | [],[],_,_,_,_=>by simp[pyDs,D.eqs,PyData.eqvAll]
 | [],_::_,_,_,_,_=>by simp[pyDs,D.eqs,PyData.eqvAll]
 | _::_,[],_,_,_,_=>by simp[pyDs,D.eqs,PyData.eqvAll]
 | x::xs,y::ys,n,m,hx,hy=>by
  rw[List.all_cons,Bool.and_eq_true] at hx hy;rw[pyDs,pyDs,D.eqs,PyData.eqvAll,rG x y n m hx.1 hy.1,zI0 xs ys n m hx.2 hy.2]
end
mutual
theorem vY:∀x:D,∀n,x.pur n=true->(bT x).canLay0=true/\(bT x).depth<=n
 | .lst xs,n,hx=>by
  cases n with
  | zero=>cases hx
  | succ n=>
   obtain⟨h1,h2⟩:=zIL xs n hx;rw[bT,PyData.canLay0,PyData.depth];exact⟨h1,by omega⟩
 | .tup xs,n,hx=>by
  cases n with
  | zero=>cases hx
  | succ n=>
   obtain⟨h1,h2⟩:=zIL xs n hx;rw[bT,PyData.canLay0,PyData.depth];exact⟨h1,by omega⟩
 | .ins _ _,n,hx=>by cases n <;> cases hx
 | .exc _ _,n,hx=>by cases n <;> cases hx
 | .non,_,_=>by simp[bT,PyData.canLay0,PyData.depth]
 | .bl _,_,_=>by simp[bT,PyData.canLay0,PyData.depth]
 | .int _,_,_=>by simp[bT,PyData.canLay0,PyData.depth]
 | .str s,n,hx=>by
  rw[Ip.De] at hx;rw[bT,PyData.canLay0,PyData.depth];exact⟨hx,Nat.zero_le _⟩
theorem zIL:∀xs:List D,∀n,xs.all (D.pur n)=true->PyData.canLayAll0 (pyDs xs)=true/\PyData.depthAll (pyDs xs)<=n
 | [],_,_=>by simp[pyDs,PyData.canLayAll0,PyData.depthAll]
 | x::xs,n,hx=>by
  rw[List.all_cons,Bool.and_eq_true] at hx;obtain⟨h1,h2⟩:=vY x n hx.1;obtain⟨h3,h4⟩:=zIL xs n hx.2;rw[pyDs,PyData.canLayAll0,PyData.depthAll,h1,h3];exact⟨rfl,Nat.max_le.mpr ⟨h2,h4⟩⟩
end
theorem nB (h:x.pur 60=true):SeqAt.shaped (bT x)=true:=by
 obtain⟨h1,h2⟩:=vY x 60 h;unfold SeqAt.shaped;rw[h1,Bool.true_and];exact decide_eq_true (by omega)
section
variable {X:Cx}{W:Wd}{G:Pg}{pins:List (Addr×Obj)}{σ:St}{H:Hp}{s:Shared}
mutual
theorem Den.reads (hK:W.K=X.K)(I:Inv X pins σ H s):∀{v:V} {d:D} {u:Value} (n:Nat),Den W H v d->d.pur n=true->RelV v u->∃as,Reads s.heap u (bT d) as
 | _,_,_,_,.non,_,r=>by cases r; exact⟨_,by rw[bT]; exact .none⟩
 | _,_,_,_,.bl,_,r=>by cases r; exact⟨_,by rw[bT]; exact .bool _⟩
 | _,_,_,_,.int,_,r=>by obtain⟨t,rfl⟩:=r; exact⟨_,by rw[bT]; exact .int _ t⟩
 | _,_,_,_,.str,_,r=>by obtain⟨t,rfl⟩:=r; exact⟨_,by rw[bT]; exact .str _ t⟩
 | _,_,_,n,.lst e q,hp,r=>by
  cases r;cases n with
  | zero=>cases hp
  | succ n=>
   obtain⟨_,its,k,rv,_,eo⟩:=I.rdL e;obtain⟨as,ra⟩:=q.reads hK I n hp rv;exact⟨_,by rw[bT]; exact reads_list_at eo rfl rfl (by simpa using ra)⟩
 | _,_,_,n,.tup e q,hp,r=>by
  cases r;cases n with
  | zero=>cases hp
  | succ n=>
   obtain⟨its,rv,⟨o,eo,hc,k,hd⟩,_⟩:=I.tuple (hK ▸ e);obtain⟨as,ra⟩:=q.reads hK I n hp rv;exact⟨_,by rw[bT]; exact reads_tuple_at eo hc hd (by simpa using ra)⟩
 | _,_,_,n,.ins _ _ _,hp,_=>by cases n <;> cases hp
 | _,_,_,n,.exc _ _ _,hp,_=>by cases n <;> cases hp
theorem Dens.reads (hK:W.K=X.K)(I:Inv X pins σ H s):∀{vs:List V} {ds:List D} {us:List Value} (n:Nat),Dens W H vs ds->ds.all (D.pur n)=true->Vals vs us->∃as,ReadsAll s.heap us (pyDs ds) as
 | _,_,_,_,.nil,_,.nil=>⟨_,by rw[pyDs]; exact .nil⟩
 | _,_,_,n,.cons h q,hp,.cons r t=>by
  rw[List.all_cons,Bool.and_eq_true] at hp;obtain⟨as,h1⟩:=h.reads hK I n hp.1 r;obtain⟨bs,h2⟩:=q.reads hK I n hp.2 t;exact⟨_,by rw[pyDs]; exact .cons h1 h2⟩
end
theorem pZ (hK:W.K=X.K)(hu:X.A.units+64<cLine):OpR X (compareOp .Eq) (fun x y=>rD W G .eq [x,y]):=by
 rintro pins s σ H x y v u Q I rx ry ⟨N,xs,z,hN,hd,hz,hq⟩;obtain⟨⟨k1,p⟩,⟨k2,q⟩,rfl,d1,d2⟩:=dk hd;simp only[Ip.DZ,bi,bg] at hz;split at hz
 ·rename_i hp;rw[Bool.and_eq_true] at hp;cases hz;obtain⟨_,r1⟩:=(d1.mono bm).reads hK I 60 hp.1 rx;obtain⟨_,r2⟩:=(d2.mono bm).reads hK I 60 hp.2 ry;refine eq_dataH r1 r2 (nB hp.1) (nB hp.2) hu ⟨.bl _,H,I,rfl,?_⟩;rw[rG p q 60 60 hp.1 hp.2];exact hq _ _ Res.bl
 ·cases hz
theorem rC (hK:W.K=X.K)(hu:X.A.units+64<cLine):OpR X (compareOp .NotEq) (fun x y=>rD W G .ne [x,y]):=by
 rintro pins s σ H x y v u Q I rx ry ⟨N,xs,z,hN,hd,hz,hq⟩;obtain⟨⟨k1,p⟩,⟨k2,q⟩,rfl,d1,d2⟩:=dk hd;simp only[Ip.DL,bi,bg] at hz;split at hz
 ·rename_i hp;rw[Bool.and_eq_true] at hp;cases hz;obtain⟨_,r1⟩:=(d1.mono bm).reads hK I 60 hp.1 rx;obtain⟨_,r2⟩:=(d2.mono bm).reads hK I 60 hp.2 ry;refine ne_dataH r1 r2 (nB hp.1) (nB hp.2) hu ⟨.bl _,H,I,rfl,?_⟩;rw[rG p q 60 60 hp.1 hp.2];exact hq _ _ Res.bl
 ·cases hz
end
end L2
end
section
namespace L2
open PySem PySem.Spec PyProof.Rows
open Ip (D KD Ex Op Pg Fn Sl Fr Wk Tg Tb SL jc mE dm aP aw cB cE eI eU eR eV eM fe eQ eY fc eh eL eJ eO eZ cI cT cZ cx jw gv cC au compF aW lI gp kK kT kY lx kH cj mn iT evals bj bB excA fB frz frz1 bX gE aQ aZ fK isNone aA av aB aY bC lm ah ci noStar cP cn fG gk aK bU bi gS dg aU kh pos? pos?_get am cG cm dZ du dD dG)
section
variable {X:Cx}{W:Wd}{G:Pg}
theorem Bd:∀x H Q,rD W G .neg [x] H Q->rU (fun i=>.int (-i)) x H Q:=by
 rintro x H Q ⟨N,xs,z,hN,hd,hz,hq⟩;obtain⟨⟨k1,p⟩,rfl,d1⟩:=eG hd;simp only[Ip.GU,bU] at hz;cases p <;> simp only[Ip.jK] at hz <;> try (cases hz; done)
 cases d1;cases hz;exact⟨_,rfl,hq _ _ Res.int⟩
theorem yR:∀x H Q,rD W G .not [x] H Q->∃c,x=.bl c/\Q (.bl (!c)) H:=by
 rintro x H Q ⟨N,xs,z,hN,hd,hz,hq⟩;obtain⟨⟨k1,p⟩,rfl,d1⟩:=eG hd;simp only[Ip.AC,bU] at hz;cases p <;> simp only[Ip.jN] at hz <;> try (cases hz; done)
 cases d1;cases hz;exact⟨_,rfl,hq _ _ Res.bl⟩
theorem Den.non_iff {S:Hp}{v:V}{d:D}(h:Den W S v d):decide (v=.non)=(match d with | .non=>true | _=>false):=by
 cases h <;> simp
theorem tG:∀x H Q,rD W G .isN [x] H Q->Q (.bl (decide (x=.non))) H:=by
 rintro x H Q ⟨N,xs,z,hN,hd,hz,hq⟩;obtain⟨⟨k1,p⟩,rfl,d1⟩:=eG hd;rw[d1.non_iff];simp only[Ip.xy,bU] at hz;cases p <;> simp only[fK,fB] at hz <;> cases hz <;> exact hq _ _ Res.bl
theorem uE:∀x H Q,rD W G .notN [x] H Q->Q (.bl (!decide (x=.non))) H:=by
 rintro x H Q ⟨N,xs,z,hN,hd,hz,hq⟩;obtain⟨⟨k1,p⟩,rfl,d1⟩:=eG hd;rw[d1.non_iff];simp only[Ip.A9,bU] at hz;cases p <;> simp only[fK,fB] at hz <;> cases hz <;> exact hq _ _ Res.bl
theorem Den.flatV {S:Hp}{v:V}{d:D}(h:Den W S v d)(hs:d.scal=true):flatV v=true:=by
 cases h <;> first | rfl | cases hs
theorem Den.eqV {S:Hp}{v w:V}{d e:D}(h:Den W S v d)(k:Den W S w e)(hs:d.scal=true)(ks:e.scal=true):eqV v w=d.eq e:=by
 cases h <;> first | (cases hs; done) | (cases k <;> first | (cases ks; done) | rfl | simp[L2.eqV,D.eq])
theorem Dens.flatV {S:Hp}:∀{vs:List V} {ds:List D},Dens W S vs ds->ds.all D.scal=true->vs.all L2.flatV=true
 | _,_,.nil,_=>rfl
 | _,_,.cons h q,hs=>by
  rw[List.all_cons,Bool.and_eq_true] at hs;rw[List.all_cons,h.flatV hs.1,q.flatV hs.2]; rfl
theorem Dens.inV {S:Hp}{x:V}{d:D}(hx:Den W S x d)(sx:d.scal=true):∀{vs:List V} {ds:List D},Dens W S vs ds->ds.all D.scal=true->inV x vs=d.memb ds
 | _,_,.nil,_=>rfl
 | _,_,.cons h q,hs=>by
  rw[List.all_cons,Bool.and_eq_true] at hs;have e:=q.inV hx sx hs.2;unfold L2.inV D.memb at e ⊢;rw[List.any_cons,List.any_cons,h.eqV hx hs.1 sx,e]
theorem Den.seq {S:Hp}{v:V}{d:D}{xs:List D}(h:Den W S v d)(e:d.seq=some xs):∃a vs,v=.ref a/\((SqL W.K S a vs/\Rd S a (.lst vs))\/SqT W.K S a vs)/\Dens W S vs xs:=by
 cases h <;> simp only[D.seq] at e <;> try (cases e; done)
 ·rename_i h1 h2;cases e;exact⟨_,_,rfl,.inl ⟨.inl h1,h1⟩,h2⟩
 ·rename_i h1 h2;cases e;exact⟨_,_,rfl,.inr h1,h2⟩
theorem v8 {neg:Bool}{o:Op}(ho:∀xs,aU G o xs=bi (gE neg) xs)(hK:W.K=X.K):∀x y H Q,rD W G o [x,y] H Q->qB X.K neg x y H Q:=by
 rintro x y H Q ⟨N,xs,z,hN,hd,hz,hq⟩;obtain⟨⟨k1,p⟩,⟨k2,q⟩,rfl,d1,d2⟩:=dk hd;rw[ho] at hz;simp only[bi,gE] at hz;cases e:q.seq with
 | none=>rw[e] at hz; cases hz
 | some ys=>
  rw[e] at hz;simp only at hz;split at hz
  ·rename_i hp;rw[Bool.and_eq_true] at hp;cases hz;obtain⟨a,vs,rfl,hs,hv⟩:=d2.seq e;refine⟨a,vs,rfl,?_,d1.flatV hp.1,hv.flatV hp.2,?_⟩
   ·rw[<-hK];exact hs.imp (fun h=>SqL.sub bm h.1) (SqT.sub bm)
   ·rw[hv.inV d1 hp.1 hp.2];exact hq _ _ Res.bl
  ·cases hz
theorem pR (hK:W.K=X.K):OpR X (compareOp .In) (fun x y=>rD W G .isin [x,y]):=AI.imp (v8 (fun _=>rfl) hK)
theorem Cb (hK:W.K=X.K):OpR X (compareOp .NotIn) (fun x y=>rD W G .nin [x,y]):=AT.imp (v8 (fun _=>rfl) hK)
theorem p9 (hK:W.K=X.K):IxR X (fun x y=>rD W G .ix [x,y]):=by
 rintro value slice pins s σ H x y v u Q I rx ry ⟨N,xs,z,hN,hd,hz,hq⟩ hs;obtain⟨⟨k1,p⟩,⟨k2,q⟩,rfl,d1,d2⟩:=dk hd;simp only[kh,Ip.C8,bi] at hz;cases q <;> simp only[Ip.aJ] at hz <;> try (cases hz; done)
 cases d2;rename_i i;cases e:p.seq with
 | none=>rw[e] at hz; cases hz
 | some ds=>
  rw[e] at hz;simp only at hz;obtain⟨a,vs,rfl,hsq,hv⟩:=d1.seq e;cases e2:(Ip.bO ds.length i).bind fun j=>ds[j]? with
  | none=>rw[e2] at hz; cases hz
  | some d=>
   rw[e2] at hz;cases hz;obtain⟨j,ej,ed⟩:=cK e2;obtain⟨w,ew,dw⟩:=hv.get ed;have ha:iQ vs i=some w:=by
    unfold iQ;have:km vs.length i=some j:=by rw[hv.length]; exact ej
    rw[this]; exact ew
   have hr:Q w H:=hq _ _ (Res.of_den (Sub.refl _) dw);rcases hsq with hl | ht
   ·exact wF value slice pins s σ H _ _ v u Q I rx ry ⟨a,vs,i,w,rfl,rfl,by rw[<-hK]; exact SqL.sub bm hl.1,ha,hr⟩ hs
   ·exact Ed value slice pins s σ H _ _ v u Q I rx ry ⟨a,vs,i,w,rfl,rfl,by rw[<-hK]; exact SqT.sub bm ht,ha,hr⟩ hs
theorem vd (n d:Nat)(o:Option Int):HT.sIx n d o=Ip.cR n d o:=by
 cases o with
 | none=>rfl
 | some i=>
  show (if i<0 then (i+(n:Int)).toNat else min i.toNat n)=if 0<=i then min i.toNat n else (i+n).toNat
  by_cases h:i<0
  ·rw[if_pos h,if_neg (by omega)]
  ·rw[if_neg h,if_pos (by omega)]
theorem Dens.cut {S:Hp}{vs:List V}{ds:List D}(h:Dens W S vs ds)(lo hi:Option Int):Dens W S (dh vs lo hi) (Ip.cutD ds lo hi):=by
 unfold dh Ip.cutD;rw[vd,vd,h.length];exact (h.drop _).take _
def j7 (W:Wd):V->Option Int->Option Int->Hp->VK->Prop:=fun x lo hi H Q=>∃N d z,NOk N H/\Den W (hid N H) x d/\aW lo hi d=some z/\∀v H',Res W H N H' z v->Q v H'
theorem sI (hK:W.K=X.K):SlR X (j7 W):=by
 rintro pins s σ H x v vl vu lo hi sl Q I rx hs pl pu ⟨N,d,z,hN,hd,hz,hq⟩;cases hd <;> simp only[aW] at hz <;> try (cases hz; done)
 rotate_left
 ·rename_i a vs ds h1 h2;cases hz;refine Ea pins s σ H _ v vl vu lo hi sl Q I rx hs pl pu ⟨a,vs,rfl,by rw[<-hK]; exact SqT.sub bm h1,fun hw=>hq _ _ (Res.of_den (Sub.refl _) ?_),fun _ p hp=>hq _ _ (Res.newT hN hp (h2.cut lo hi))⟩;have c:=h2.cut lo hi;have e:dh vs lo hi=vs:=by
   unfold dh;rw[hw.1,hw.2];simp
  rw[e] at c;exact .tup h1 c
 rename_i a vs ds h1 h2;cases hz;exact xQ pins s σ H _ v vl vu lo hi sl Q I rx hs pl pu ⟨a,vs,rfl,by rw[<-hK]; exact .inl (Rd.sub bm h1),fun p hp=>hq _ _ (Res.newL hp (h2.cut lo hi))⟩
theorem CallR.imp {f:Value}{r r':List V->Hp->VK->Prop}(h:CallR X f r)(k:∀xs H Q,r' xs H Q->r xs H Q):CallR X f r':=fun pins s σ H xs us Q I r q=>h pins s σ H xs us Q I r (k xs H Q q)
theorem Dens.vs1 {S:Hp}{vs:List V}{xs:List KD}{o:Op}{f:D->Option KD}{z:KD}(h:Dens W S vs (xs.map (·.2)))(e:bU f xs=some z):∃v p,vs=[v]/\xs=[p]/\Den W S v p.2/\f p.2=some z:=by
 cases xs with
 | nil=>exact (cP e).elim
 | cons p r=>
  cases r with
  | nil=>
   obtain⟨v,rfl,h1⟩:=Dens.one h;exact⟨v,p,rfl,rfl,h1,e⟩
  | cons _ _=>exact (cP e).elim
theorem vL {f:List D->Option KD}{d:D}{z:KD}(e:dg f d=some z):∃xs,d.seq=some xs/\f xs=some z:=by
 unfold dg at e;cases q:d.seq with
 | none=>rw[q] at e; cases e
 | some xs=>rw[q] at e; exact⟨xs,rfl,e⟩
theorem rJ {f:List D->Option KD}{d:D}{z:KD}(e:gS f d=some z):∃xs,d=.lst xs/\f xs=some z:=by
 cases d <;> simp only[gS] at e <;> first | exact⟨_,rfl,e⟩ | cases e
theorem Bo (hK:W.K=X.K):CallR X (.builtin "len") (fun xs=>rD W G .len xs):=Di.imp fun vs H Q ⟨N,xs,z,hN,hd,hz,hq⟩=>by
 simp only[kh,Ip.Bs] at hz;obtain⟨v,p,rfl,rfl,dv,ez⟩:=hd.vs1 (o:=.len) hz;obtain⟨ds,e1,e2⟩:=vL ez;obtain⟨a,ws,rfl,hs,hv⟩:=dv.seq e1;cases e2;refine⟨a,ws,rfl,?_,?_⟩
 ·rw[<-hK]; exact hs.imp (fun h=>SqL.sub bm h.1) (SqT.sub bm)
 ·rw[hv.length]; exact hq _ _ Res.int
theorem AS (hK:W.K=X.K):CallR X (.type "list") (fun xs=>rD W G .list xs):=DY.imp fun vs H Q ⟨N,xs,z,hN,hd,hz,hq⟩=>by
 simp only[kh,Ip.pL] at hz;obtain⟨v,p,rfl,rfl,dv,ez⟩:=hd.vs1 (o:=.list) hz;obtain⟨ds,e1,e2⟩:=vL ez;obtain⟨a,ws,rfl,hs,hv⟩:=dv.seq e1;cases e2;refine⟨a,ws,rfl,?_,fun l hl=>hq _ _ (Res.newL hl hv)⟩;rw[<-hK]; exact hs.imp (fun h=>SqL.sub bm h.1) (SqT.sub bm)
theorem FY (hK:W.K=X.K):CallR X (.type "tuple") (fun xs=>rD W G .tuple xs):=GJ.imp fun vs H Q ⟨N,xs,z,hN,hd,hz,hq⟩=>by
 simp only[Ip.wH,kh,Ip.zV] at hz;obtain⟨v,p,rfl,rfl,dv,ez⟩:=hd.vs1 (o:=.tuple) hz;obtain⟨k,d⟩:=p;cases dv with
 | @lst a ws ds h1 h2=>
  cases ez;exact⟨a,ws,rfl,.inl ⟨by rw[<-hK]; exact .inl (Rd.sub bm h1),fun l hl=>hq _ _ (Res.newT hN hl h2)⟩⟩
 | @tup a ws ds h1 h2=>
  cases ez;exact⟨a,ws,rfl,.inr ⟨by rw[<-hK]; exact SqT.sub bm h1,hq _ _ (Res.of_den (Sub.refl _) (.tup h1 h2))⟩⟩
 | _=>cases ez
theorem B9:CallR X (.type "int") (fun xs=>rD W G .toInt xs):=Fm.imp fun vs H Q ⟨N,xs,z,hN,hd,hz,hq⟩=>by
 simp only[Ip.DS] at hz;obtain⟨v,p,rfl,rfl,dv,ez⟩:=hd.vs1 (o:=.toInt) hz;obtain⟨k,d⟩:=p;cases dv <;> simp only[Ip.intD] at ez <;> try (cases ez; done)
 ·cases ez;exact .inr ⟨_,rfl,hq _ _ Res.int⟩
 ·cases ez;exact .inl ⟨_,rfl,hq _ _ Res.int⟩
theorem tS:∀{ds:List D} {b:Bool},Ip.allB ds=some b->∃bs:List Bool,ds=bs.map .bl/\b=bs.all id
 | [],b,h=>⟨[],rfl,by cases h; rfl⟩
 | .bl c::ds,b,h=>by
  rw[Ip.allB] at h;obtain⟨c',e,rfl⟩:=cW h;obtain⟨bs,rfl,rfl⟩:=tS e;exact⟨c::bs,rfl,rfl⟩
theorem v9:∀{ds:List D} {b:Bool},Ip.anyB ds=some b->∃bs:List Bool,ds=bs.map .bl/\b=bs.any id
 | [],b,h=>⟨[],rfl,by cases h; rfl⟩
 | .bl c::ds,b,h=>by
  rw[Ip.anyB] at h;obtain⟨c',e,rfl⟩:=cW h;obtain⟨bs,rfl,rfl⟩:=v9 e;exact⟨c::bs,rfl,rfl⟩
theorem Dens.bools {S:Hp}:∀{vs:List V} {bs:List Bool},Dens W S vs (bs.map .bl)->vs=bs.map .bl
 | [],[],_=>rfl
 | v::vs,b::bs,.cons h q=>by rw[h.bl_inv,q.bools]; rfl
theorem Vals.bool_at {bs:List Bool}:∀{us:List Value} {i:Nat} {v:Value},Vals (bs.map .bl) us->us[i]? = some v->∃b,bs[i]? = some b/\v=.bool b:=by
 intro us i v r e;have hl:bs.length=us.length:=by simpa using r.length
 have hi:i<us.length:=(dN e).1;have hb:(bs.map V.bl)[i]? = some (.bl bs[i]):=by simp[List.getElem?_map,List.getElem?_eq_getElem (by omega:i<bs.length)]
 obtain⟨u,e2,r2⟩:=r.get hb;rw[e] at e2;cases e2;exact⟨_,List.getElem?_eq_getElem (by omega),r2⟩
theorem AN (hc:X.calm=true):CallR X (.builtin "all") (fun xs=>rD W G .all xs):=by
 rintro pins s σ H vs us Q I rs ⟨N,xs,z,hN,hd,hz,hq⟩;simp only[kh,Ip.pL,Ip.yH] at hz;obtain⟨v,p,rfl,rfl,dv,ez⟩:=hd.vs1 (o:=.all) hz;obtain⟨ds,e1,e2⟩:=rJ ez;obtain⟨u,rfl,ru⟩:=rs.one;rw[e1] at dv;cases dv with | @lst l ws _ h1 h2=>?_
 cases ru;cases e3:Ip.allB ds with
 | none=>rw[e3] at e2; cases e2
 | some b=>
  rw[e3] at e2;cases e2;obtain⟨bs,rfl,rfl⟩:=tS e3;have:=h2.bools;subst this;obtain⟨_,its,n,rv,hlen,eo⟩:=I.rdL (Rd.sub bm h1);have hl:s.heap.IsList l its.toArray:=⟨_,eo,rfl,n,rfl⟩
  have hlt:l<s.heap.objs.size:=bw eo;refine call_all_walk (wpAny_pyIter_list hl ?_);refine⟨s.heap.objs.size,[s.heap.objs.size,l],[s.heap.objs.size],its.toArray.size,_,_,fun i=>(bs[i]?).getD true,rfl,Walks.list (A:=X.A.in1) (I.ok.hd hc) _ l (cQ hlt) its.toArray,
   ⟨⟨_,da _ rfl,rfl,rfl⟩,hl.push _⟩,fun i v s' Q' E' hP hQ=>?_,fun h' tk hk=>?_⟩
  ·obtain⟨b,e,rfl⟩:=rv.bool_at (i:=i) (v:=v) (by simpa using hP);simp only[e,Option.getD_some] at hQ;exact wpAny_truthy_bool hQ
  ·have e:((List.range its.toArray.size).all fun i=>(bs[i]?).getD true)=bs.all id:=by
    rw[List.size_toArray,<-hlen,List.length_map]; exact LSm.range_all bs
   rw[e];exact⟨.bl _,H,I.kept (t':=tk) (LSm.kept_iter hk),rfl,hq _ _ Res.bl⟩
theorem A5 (hc:X.calm=true):CallR X (.builtin "any") (fun xs=>rD W G .any xs):=by
 rintro pins s σ H vs us Q I rs ⟨N,xs,z,hN,hd,hz,hq⟩;simp only[kh,Ip.pL,Ip.G2] at hz;obtain⟨v,p,rfl,rfl,dv,ez⟩:=hd.vs1 (o:=.any) hz;obtain⟨ds,e1,e2⟩:=rJ ez;obtain⟨u,rfl,ru⟩:=rs.one;rw[e1] at dv;cases dv with | @lst l ws _ h1 h2=>?_
 cases ru;cases e3:Ip.anyB ds with
 | none=>rw[e3] at e2; cases e2
 | some b=>
  rw[e3] at e2;cases e2;obtain⟨bs,rfl,rfl⟩:=v9 e3;have:=h2.bools;subst this;obtain⟨_,its,n,rv,hlen,eo⟩:=I.rdL (Rd.sub bm h1);have hl:s.heap.IsList l its.toArray:=⟨_,eo,rfl,n,rfl⟩
  have hlt:l<s.heap.objs.size:=bw eo;refine call_any_walk (wpAny_pyIter_list hl ?_);refine⟨s.heap.objs.size,[s.heap.objs.size,l],[s.heap.objs.size],its.toArray.size,_,_,fun i=>(bs[i]?).getD false,rfl,Walks.list (A:=X.A.in1) (I.ok.hd hc) _ l (cQ hlt) its.toArray,
   ⟨⟨_,da _ rfl,rfl,rfl⟩,hl.push _⟩,fun i v s' Q' E' hP hQ=>?_,fun h' tk hk=>?_⟩
  ·obtain⟨b,e,rfl⟩:=rv.bool_at (i:=i) (v:=v) (by simpa using hP);simp only[e,Option.getD_some] at hQ;exact wpAny_truthy_bool hQ
  ·have e:((List.range its.toArray.size).any fun i=>(bs[i]?).getD false)=bs.any id:=by
    rw[List.size_toArray,<-hlen,List.length_map]; exact LSm.range_any bs
   rw[e];exact⟨.bl _,H,I.kept (t':=tk) (LSm.kept_iter hk),rfl,hq _ _ Res.bl⟩
theorem wM {S:Hp}:∀{ns:List Nat} {vs:List V},Dens W S vs (ah ns)->vs=dJ ns
 | [],_,h=>by cases h; rfl
 | n::ns,_,h=>by
  cases h with
  | cons h q=>
   cases h;rw[wM q];rfl
theorem uR {S:Hp}:∀{ns:List Nat},Dens W S (dJ ns) (ah ns)
 | []=>.nil
 | n::ns=>.cons .int uR
theorem u6:∀{ds:List D} {ns:List Nat},ci ds=some ns->ds=ah ns/\∀n∈ns,n<6
 | [],ns,h=>by cases h; exact⟨rfl,fun n hn=>by simp at hn⟩
 | d::ds,ns,h=>by
  cases d with
  | int i=>
   unfold ci at h;by_cases c:0<=i/\i<6
   ·rw[if_pos c] at h;obtain⟨ms,e1,e2⟩:=cW h;obtain⟨h1,h2⟩:=u6 e1;subst e2;refine⟨?_,fun n hn=>?_⟩
    ·rw[h1];show _=D.int (Int.ofNat i.toNat)::ah ms;rw[Int.ofNat_eq_natCast,Int.toNat_of_nonneg c.1]
    ·rcases cz hn with z | z
     ·rw[z]; omega
     ·exact h2 n z
   ·rw[if_neg c] at h; cases h
  | _=>exact nomatch h
theorem Gv:((St.subs 6).all fun l=>decide (l=(List.range 6).filter fun k=>l.contains k))=true:=by decide +kernel
theorem Ba {l:List Nat}{k x:Nat}:x∈St.stp l k↔x∈l\/x=k:=by
 unfold St.stp St.ins;by_cases c:k∈l
 ·rw[if_pos c];exact⟨.inl,fun h=>h.elim id fun z=>z ▸ c⟩
 ·rw[if_neg c];simp only[List.mem_append,List.mem_filter,List.mem_cons];have b1:∀a b:Nat,Nat.blt a b=true↔a<b:=fun a b=>⟨Nat.le_of_ble_eq_true,Nat.ble_eq_true_of_le⟩
  simp only[b1];constructor
  ·rintro (h | h | h)
   ·exact .inl h.1
   ·exact .inr h
   ·exact .inl h.1
  ·rintro (h | h)
   ·rcases Nat.lt_trichotomy x k with z | z | z
    ·exact .inl ⟨h,z⟩
    ·exact .inr (.inl z)
    ·exact .inr (.inr ⟨h,z⟩)
   ·exact .inr (.inl h)
theorem yU {l:List Nat}{k:Nat}(hl:l∈St.subs 6)(hk:k<6):St.stp l k∈St.subs 6:=by
 unfold St.stp;by_cases c:k∈l
 ·rw[if_pos c]; exact hl
 ·rw[if_neg c];exact (St.ins_of hl hk c).2.2.2.2.1
theorem wf:∀(ns l:List Nat),l∈St.subs 6->(∀n∈ns,n<6)->ns.foldl St.stp l∈St.subs 6/\∀x,x∈ns.foldl St.stp l↔x∈l\/x∈ns
 | [],l,hl,_=>⟨hl,fun x=>by simp⟩
 | n::ns,l,hl,h=>by
  obtain⟨h1,h2⟩:=wf ns (St.stp l n) (yU hl (h n bM)) fun m hm=>h m (bD _ hm);refine⟨h1,fun x=>?_⟩;rw[List.foldl_cons,h2 x,Ba,List.mem_cons,or_assoc]
theorem xk {ns:List Nat}(h:∀n∈ns,n<6):ns.foldl St.stp []=am ns:=by
 obtain⟨h1,h2⟩:=wf ns [] (by decide +kernel) h;have:=of_decide_eq_true (dF Gv _ h1);rw[this];unfold am;refine List.filter_congr fun k _=>?_;rw[Bool.eq_iff_iff,List.contains_iff_mem,List.contains_iff_mem,h2 k];simp
theorem CJ (hK:W.K=X.K):∀x H Q,rD W G .srtSet [x] H Q->∃a ns,x=.ref a/\SqL X.K H a (dJ ns)/\(∀n∈ns,n<6)/\∀p,H p=none->Q (.ref p) (upd H p (.lst (dJ (ns.foldl St.stp [])))):=by
 rintro x H Q ⟨N,xs,z,hN,hd,hz,hq⟩;simp only[Ip.DX] at hz;obtain⟨v,p,e,rfl,dv,ez⟩:=hd.vs1 (o:=.srtSet) hz;cases e;obtain⟨ds,e1,e2⟩:=rJ ez;rw[e1] at dv;cases dv with | @lst a vs _ h1 h2=>?_
 cases q:ci ds with
 | none=>rw[q] at e2; cases e2
 | some ns=>
  rw[q] at e2;cases e2;obtain⟨r1,r2⟩:=u6 q;rw[r1] at h2;have ev:=wM h2;subst ev;refine⟨a,ns,rfl,by rw[<-hK]; exact .inl (Rd.sub bm h1),r2,fun p hp=>hq _ _ ?_⟩;rw[xk r2];exact Res.newL hp uR
end
theorem OwnF.re {att:List Str}{P Q:V->D->List Addr->Prop}{b:D->Bool}(hP:∀v d f,b d=true->P v d f->Q v d f):∀{vs ds fp},(ds.all fun p=>b p.2)=true->OwnF att P vs ds fp->OwnF att Q vs ds fp
 | _,_,_,_,.nil=>.nil
 | _,_,_,hf,.cons e h q=>by
  rw[List.all_cons,Bool.and_eq_true] at hf;exact .cons e (hP _ _ _ hf.1 h) (q.re hP hf.2)
theorem nZ:∀{xs:List α},xs.all p=true->xs.all q=true->(xs.all fun x=>p x&&q x)=true
 | [],_,_=>rfl
 | x::xs,h,k=>by
  rw[List.all_cons,Bool.and_eq_true] at h k;rw[List.all_cons,h.1,k.1,nZ h.2 k.2]; rfl
section
variable {W:Wd}{S H:Hp}
theorem Own.fb:∀{k j v d fp},D.fb k d=true->D.fb j d=true->Own W S H k v d fp->Own W S H j v d fp
 | 0,j,_,d,_,h,_,o=>by
  rw[D.fb] at h;obtain⟨e1,e2⟩:=o.flat_inv h;rw[e1];exact Own.flat h e2
 | k+1,0,_,d,_,_,h,o=>by
  rw[D.fb] at h;obtain⟨e1,e2⟩:=o.flat_inv h;exact⟨e1,e2⟩
 | k+1,j+1,_,.lst ds,_,h1,h2,⟨a,vs,fq,e1,e2,e3,e4⟩=>⟨a,vs,fq,e1,e2,e3.re (b:=fun d=>D.fb k d&&D.fb j d) (fun v d f hb o=>by rw[Bool.and_eq_true] at hb; exact Own.fb hb.1 hb.2 o) (nZ h1 h2),e4⟩
 | k+1,j+1,_,.tup ds,_,h1,h2,⟨a,vs,e1,e2,e3⟩=>⟨a,vs,e1,e2,e3.re (b:=fun d=>D.fb k d&&D.fb j d) (fun v d f hb o=>by rw[Bool.and_eq_true] at hb; exact Own.fb hb.1 hb.2 o) (nZ h1 h2)⟩
 | k+1,j+1,_,.ins c ds,_,h1,h2,⟨a,C,dx,fs,fq,e1,e2,e5,e3,e4⟩=>⟨a,C,dx,fs,fq,e1,e2,e5,e3.re (b:=fun d=>D.fb k d&&D.fb j d) (fun v d f hb o=>by rw[Bool.and_eq_true] at hb; exact Own.fb hb.1 hb.2 o) (nZ h1 h2),e4⟩
 | k+1,j+1,_,.exc c ds,_,h1,_,_=>by cases h1
 | _+1,_+1,_,.non,_,_,_,h=>h
 | _+1,_+1,_,.bl _,_,_,_,h=>h
 | _+1,_+1,_,.int _,_,_,_,h=>h
 | _+1,_+1,_,.str _,_,_,_,h=>h
theorem Own.at (h:aK j (k,d)=true)(o:Own W S H k v d fp):Own W S H j v d fp:=by
 unfold aK at h;rw[Bool.or_eq_true,Bool.or_eq_true,Bool.and_eq_true] at h;rcases h with h | h | ⟨h1,h2⟩
 ·obtain⟨e1,e2⟩:=o.flat_inv h;rw[e1];exact Own.flat h e2
 ·have:k=j:=by simpa using h
  rw[<-this]; exact o
 ·exact o.fb h2 h1
theorem OwnV.at:∀{vs xs fp},xs.all (aK j)=true->OwnV W S H vs xs fp->OwnL (Own W S H j) vs (xs.map (·.2)) fp
 | _,_,_,_,.nil=>.nil
 | _,_,_,hf,.cons h q=>by
  rw[List.all_cons,Bool.and_eq_true] at hf;exact .cons (h.at hf.1) (q.at hf.2)
theorem GQ:xs.all (aK (aB xs))=true\/aB xs=0:=by
 unfold aB;cases e:xs.find? fun x=>!x.2.flat with
 | none=>
  refine .inl (List.all_eq_true.mpr fun x hx=>Ip.t8 ?_);have:=List.find?_eq_none.mp e x hx;simpa using this
 | some y=>
  show xs.all (aK (if xs.all (aK y.1)=true then y.1 else 0))=true\/(if xs.all (aK y.1)=true then y.1 else 0)=0;by_cases h:xs.all (aK y.1)=true
  ·rw[if_pos h]; exact .inl h
  ·rw[if_neg h]; exact .inr rfl
theorem OwnV.join {N:Addr->Prop}{vs:List V}{xs:List KD}{fp:List Addr}(nd:fp.Nodup)(hn:∀a∈fp,¬N a)(o:OwnV W (hid (fun a=>N a\/a∈fp) H) H vs xs fp) :
  ∃fq:List Addr,fq.Nodup/\(∀a∈fq,a∈fp)/\OwnL (Own W (hid (fun a=>N a\/a∈fq) H) H (aB xs)) vs (xs.map (·.2)) fq:=by
 rcases GQ (xs:=xs) with h | h
 ·exact⟨fp,nd,fun _ z=>z,o.at h⟩
 ·rw[h];refine⟨[],.nil,fun _ z=>by simp at z,OwnL.zero ?_⟩;refine o.dens (fun a u e=>?_) fun a ha u e=>az.mpr ⟨fun z=>z.elim (hn a ha) (by simp),e⟩;obtain⟨h1,h2⟩:=az.mp e;exact az.mpr ⟨fun z=>z.elim (fun y=>h1 (.inl y)) (by simp),h2⟩
end
section
variable {X:Cx}{W:Wd}{G:Pg}{cl:Nat->List KD->Ip.Run}{E:St->XK}
theorem pD (e:Expr)(es:List Expr)(env:Env):(∃x p,e=.Starred x p)\/starEach (e::es) env=(false,PySem.eval e env)::starEach es env:=by
 cases e <;> first | exact .inl ⟨_,_,rfl⟩ | exact .inr rfl
theorem yW (h:bh W G cl (ir::irs) E σ H Q):cX (aE W G cl ir E) (bh W G cl irs E) σ H Q:=by
 obtain⟨N,a,hN,hS,h⟩:=h;unfold cX;refine gq hN hS (fun x ex v H1 fp hs nd hf ow hN1 hS1=>?_) (fun c fs ee=>?_) fun ee=>?_
 ·refine⟨_,a,hN1,hS1,?_⟩;cases q:evals G cl a irs with
  | bad=>simp only[bB,bj,ex,q,Ip.R.bind] at h
  | exc c fs=>
   simp only[bB,bj,ex,q,Ip.R.bind] at h;exact fun e H' r=>h e H' (r.trans hs fun _ y=>.inl y)
  | ok xs=>
   simp only[bB,bj,ex,q,Ip.R.bind] at h;rintro vs H2 ⟨hs2,fq,nd2,hf2,o2⟩;refine h _ _ ⟨hs.trans hs2,fp++fq,?_,fun b z=>(dI z).elim (hf b) fun y=>hs.none (hf2 b y),?_⟩
   ·refine List.nodup_append.mpr ⟨nd,nd2,fun b hb c hc z=>?_⟩;rw[z] at hb;exact ow.dom c hb (hf2 c hc)
   ·refine .cons (ow.mono (gw hs2 fun b z=>?_) fun b hb o e=>hs2 b o e) (o2.mono (fun b o e=>?_) fun b _ o e=>e)
    ·rcases z with z | z
     ·exact .inl (.inl z)
     ·exact (dI z).elim (fun y=>.inl (.inr y)) fun y=>.inr (hf2 b y)
    ·obtain⟨h1,h2⟩:=az.mp e;refine az.mpr ⟨fun z=>h1 ?_,h2⟩;rcases z with z | z
     ·exact .inl (.inl z)
     ·exact (dI z).elim (fun y=>.inl (.inr y)) .inr
 ·simp only[bB,bj,ee,Ip.R.bind] at h;exact h
 ·simp only[bB,bj,ee,Ip.R.bind] at h
theorem mT (h:bh W G cl [] E σ H Q):d5 σ H Q:=by
 obtain⟨N,a,hN,hS,h⟩:=h;simp only[bB,bj] at h;exact h _ _ ⟨Sub.refl _,[],.nil,fun a z=>by simp at z,.nil⟩
theorem vG:∀{es:List Expr} {f:Expr->Ex},(∀e∈es,PE X e (aE W G cl (f e) E))->(∀e∈es,∀x p,e=.Starred x p->f e=.bad)->PA X es (bh W G cl (es.map f) E)
 | [],_,_,_=>ke.mono fun σ H Q h=>mT h
 | e::es,f,h,k=>by
  rcases pD e es X.env with ⟨x,p,hx⟩ | hs
  ·rintro pos pins s σ H Q I ⟨N,a,_,_,q⟩;rw[List.map_cons,k e List.mem_cons_self x p hx,bj,gp] at q;exact q.elim
  ·refine (im (h e bM) (vG (fun y hy=>h y (bD _ hy)) fun y hy=>k y (bD _ hy)) hs).mono fun σ H Q q=>?_;rw[List.map_cons] at q;exact yW q
theorem sY (hl:irs.length<=1000)(h:PA X es (bh W G cl irs E)):PE X (.List es pos) (aE W G cl (.op .lst irs) E):=by
 refine (yg h).mono fun σ H Q hZz=>?_;obtain⟨N,a,hN,hS,q⟩:=hZz;refine⟨N,a,hN,hS,?_⟩;rw[cj] at q;cases e:evals G cl a irs with
 | bad=>rw[e] at q; exact q
 | exc c fs=>rw[e] at q; exact q
 | ok xs=>
  simp only[e,Ip.R.bind,Ip.R.of,Ip.Gf] at q;rintro vs H1 ⟨hs,fp,nd,hf,o⟩;have hx:xs.length=irs.length:=evals_length e;refine⟨?_,fun p hp=>?_⟩
  ·rw[o.length,hx];exact bK hl (by decide)
  obtain⟨fq,nd2,sub,o2⟩:=o.join nd fun b hb z=>hN b z (hf b hb);refine q _ _ ⟨hs.trans (Sub.upd hp),p::fq,List.nodup_cons.mpr ⟨fun z=>o.dom p (sub p z) hp,nd2⟩,fun b z=>?_,p,vs,fq,rfl,bA,?_,rfl⟩
  ·rcases cz z with y | y
   ·rw[y]; exact hs.none hp
   ·exact hf b (sub b y)
  ·refine o2.imp fun v d f hf2 ow=>ow.mono (gw (Sub.upd hp) fun b z=>?_) fun b _ u e=>Sub.upd hp b u e;rcases z with z | z
   ·exact .inl (.inl z)
   ·rcases cz z with y | y
    ·rw[y]; exact .inr hp
    ·exact .inl (.inr y)
where
 evals_length {a:Sl}:∀{irs:List Ex} {xs:List KD},evals G cl a irs=.ok xs->xs.length=irs.length
  | [],xs,h=>by rw[bB] at h; cases h; rfl
  | ir::irs,xs,h=>by
   rw[bj] at h;cases e1:Ip.eval G cl a ir with
   | bad=>rw[e1] at h; cases h
   | exc c fs=>rw[e1] at h; cases h
   | ok x=>
    cases e2:evals G cl a irs with
    | bad=>rw[e1,e2] at h; cases h
    | exc c fs=>rw[e1,e2] at h; cases h
    | ok ys=>
     rw[e1,e2] at h;cases h;rw[List.length_cons,List.length_cons,evals_length e2]
theorem y4 (hl:irs.length<=1000)(h:PA X es (bh W G cl irs E)):PE X (.Tuple es k pos) (aE W G cl (.op .tup irs) E):=by
 refine (u9 h).mono fun σ H Q hZz=>?_;obtain⟨N,a,hN,hS,q⟩:=hZz;refine⟨N,a,hN,hS,?_⟩;rw[cj] at q;cases e:evals G cl a irs with
 | bad=>rw[e] at q; exact q
 | exc c fs=>rw[e] at q; exact q
 | ok xs=>
  simp only[e,Ip.R.bind,Ip.R.of,Ip.wH] at q;rintro vs H1 ⟨hs,fp,nd,hf,o⟩;have hx:xs.length=irs.length:=sY.evals_length e;refine⟨?_,fun p hp=>?_⟩
  ·rw[o.length,hx];exact bK hl (by decide)
  obtain⟨fq,nd2,sub,o2⟩:=o.join nd fun b hb z=>hN b z (hf b hb);refine q _ _ ⟨hs.trans (Sub.upd hp),fq,nd2,fun b z=>hf b (sub b z),p,vs,rfl,SqT.of (az.mpr ⟨fun z=>?_,bA⟩),?_⟩
  ·rcases z with z | z
   ·exact (hN.mono hs) p z hp
   ·exact o.dom p (sub p z) hp
  ·refine o2.imp fun v d f hf2 ow=>ow.mono (gw (Sub.upd hp) fun b z=>.inl z) fun b _ u e=>Sub.upd hp b u e
end
section
variable {X:Cx}{W:Wd}{G:Pg}{cl:Nat->List KD->Ip.Run}{E:St->XK}{σ:St}{H:Hp}
theorem zE (h:PE X e (bR i)):PE X e (aE W G cl (.var i) E):=h.mono fun σ H Q ⟨N,a,hN,hS,q⟩=>by
 rw[iT] at q;cases e:a[i]? with
 | none=>rw[e] at q; exact q.elim
 | some o=>
  cases o with
  | none=>rw[e] at q; exact q.elim
  | some d=>
   rw[e] at q;obtain⟨v,h1,h2⟩:=hS i d e;exact⟨v,h1,q v H (Res.of_den (Sub.refl _) h2)⟩
theorem l7 (hd:d.flat=true)(hv:∀S,Den W S v d)(h:PE X e (tC v)):PE X e (aE W G cl (.cst d) E):=h.mono fun σ H Q ⟨N,a,hN,hS,q⟩=>by
 rw[kY] at q;exact q v H (Res.of_flat (Sub.refl _) hd (hv _))
def bG (W:Wd)(G:Pg)(cl:Nat->List KD->Ip.Run)(ir:Ex)(E:St->XK):TT:=fun σ H Q=>∃(N:Addr->Prop) (a:Sl),NOk N H/\RelS W (hid N H) a σ/\match (Ip.eval G cl a ir).bl with
 | .ok b=>∀H',Sub H H'->Q b H'
 | .exc c fs=>∀e H',ExcR W H N H' c fs e->E σ (.ref e) none H'
 | .bad=>False
theorem RelS.grow (hS:RelS W (hid N H) a σ)(hs:Sub H H1):RelS W (hid N H1) a σ:=hS.mono (gw hs fun _ z=>.inl z)
theorem mW (h:bG W G cl ir E σ H Q):aE W G cl ir E σ H (fun x H1=>∃c,x=.bl c/\Q c H1):=by
 obtain⟨N,a,hN,hS,h⟩:=h;refine⟨N,a,hN,hS,?_⟩;cases e:Ip.eval G cl a ir with
 | bad=>rw[e] at h; exact h
 | exc c fs=>rw[e] at h; exact h
 | ok x=>
  obtain⟨k,d⟩:=x;rw[e] at h;intro v H' r;cases d <;> try (exact h.elim)
  have:=(r.den hN).bl_inv;subst this;exact⟨_,rfl,h H' r.1⟩
theorem wL (h:PE X e (aE W G cl ir E))(he:∀whole,isTrue e X.env whole=(do let v <-whole; standAt e.pos; holding [v] (truthy v))):PT X e (bG W G cl ir E):=
 (zY h he).mono fun σ H Q q=>mW q
theorem iM {α β:Type}{r:Ip.R α}{f:α->Ip.R β}{b:β}(h:r.bind f=.ok b):∃a,r=.ok a/\f a=.ok b:=by
 cases r with
 | ok a=>exact⟨a,rfl,h⟩
 | exc c fs=>cases h
 | bad=>cases h
theorem ExcR.of_sub (hs:Sub H H1)(r:ExcR W H1 N H' c fs e):ExcR W H N H' c fs e:=r.trans hs fun _ z=>z
theorem Aa (h:bG W G cl (.and x y) E σ H Q):kE (bG W G cl x E) (bG W G cl y E) σ H Q:=by
 obtain⟨N,a,hN,hS,h⟩:=h;rw[lI] at h;unfold kE;refine⟨N,a,hN,hS,?_⟩;cases e:Ip.eval G cl a x with
 | bad=>rw[e] at h; exact h
 | exc c fs=>rw[e] at h; exact h
 | ok v=>
  obtain⟨k,d⟩:=v;rw[e] at h;cases d <;> try (exact h.elim)
  rename_i b;intro H1 hs;cases b with
  | false=>exact h H1 hs
  | true=>
   rw[if_pos rfl];refine⟨N,a,hN.mono hs,hS.grow hs,?_⟩;simp only[Ip.R.bind,jc,if_true] at h;cases e2:(Ip.eval G cl a y).bl with
   | bad=>rw[e2] at h; exact h
   | exc c fs=>rw[e2] at h; exact fun e' H' r=>h e' H' (r.of_sub hs)
   | ok b=>rw[e2] at h; exact fun H' hs2=>h H' (hs.trans hs2)
theorem xx (h:bG W G cl (.or x y) E σ H Q):qL (bG W G cl x E) (bG W G cl y E) σ H Q:=by
 obtain⟨N,a,hN,hS,h⟩:=h;rw[mn] at h;unfold qL;refine⟨N,a,hN,hS,?_⟩;cases e:Ip.eval G cl a x with
 | bad=>rw[e] at h; exact h
 | exc c fs=>rw[e] at h; exact h
 | ok v=>
  obtain⟨k,d⟩:=v;rw[e] at h;cases d <;> try (exact h.elim)
  rename_i b;intro H1 hs;cases b with
  | true=>exact h H1 hs
  | false=>
   rw[if_neg (by decide)];refine⟨N,a,hN.mono hs,hS.grow hs,?_⟩;simp only[Ip.R.bind,jc,Bool.false_eq_true,if_false] at h;cases e2:(Ip.eval G cl a y).bl with
   | bad=>rw[e2] at h; exact h
   | exc c fs=>rw[e2] at h; exact fun e' H' r=>h e' H' (r.of_sub hs)
   | ok b=>rw[e2] at h; exact fun H' hs2=>h H' (hs.trans hs2)
theorem D2 (h:bG W G cl (.op .not [x]) E σ H Q):kB (bG W G cl x E) σ H Q:=by
 obtain⟨N,a,hN,hS,h⟩:=h;rw[cj,bj,bB] at h;unfold kB;refine⟨N,a,hN,hS,?_⟩;cases e:Ip.eval G cl a x with
 | bad=>rw[e] at h; exact h
 | exc c fs=>rw[e] at h; exact h
 | ok v=>
  obtain⟨k,d⟩:=v;rw[e] at h;cases d <;> first | exact h | exact h.elim
theorem Cc (h:aE W G cl (.and x y) E σ H Q):gX (aE W G cl x E) (aE W G cl y E) σ H Q:=by
 obtain⟨N,a,hN,hS,h⟩:=h;rw[lI] at h;unfold gX;refine⟨N,a,hN,hS,?_⟩;cases e:Ip.eval G cl a x with
 | bad=>rw[e] at h; exact h
 | exc c fs=>rw[e] at h; exact h
 | ok v=>
  obtain⟨k,d⟩:=v;rw[e] at h;cases d <;> try (exact h.elim)
  rename_i b;intro v H1 r;have:=(r.den hN).bl_inv;subst this;have hs:=r.1;refine⟨b,rfl,?_⟩;cases b with
  | false=>exact h _ _ (Res.of_flat hs rfl .bl)
  | true=>
   rw[if_pos rfl];refine⟨N,a,hN.mono hs,hS.grow hs,?_⟩;simp only[Ip.R.bind,jc,if_true] at h;cases e2:Ip.eval G cl a y with
   | bad=>rw[e2] at h; exact h
   | exc c fs=>rw[e2] at h; exact fun e' H' r=>h e' H' (r.of_sub hs)
   | ok b=>rw[e2] at h; exact fun v H' r2=>h v H' (r2.trans hs)
theorem sJ (h:aE W G cl (.or x y) E σ H Q):kN (aE W G cl x E) (aE W G cl y E) σ H Q:=by
 obtain⟨N,a,hN,hS,h⟩:=h;rw[mn] at h;unfold kN;refine⟨N,a,hN,hS,?_⟩;cases e:Ip.eval G cl a x with
 | bad=>rw[e] at h; exact h
 | exc c fs=>rw[e] at h; exact h
 | ok v=>
  obtain⟨k,d⟩:=v;rw[e] at h;cases d <;> try (exact h.elim)
  rename_i b;intro v H1 r;have:=(r.den hN).bl_inv;subst this;have hs:=r.1;refine⟨b,rfl,?_⟩;cases b with
  | true=>exact h _ _ (Res.of_flat hs rfl .bl)
  | false=>
   rw[if_neg (by decide)];refine⟨N,a,hN.mono hs,hS.grow hs,?_⟩;simp only[Ip.R.bind,jc,Bool.false_eq_true,if_false] at h;cases e2:Ip.eval G cl a y with
   | bad=>rw[e2] at h; exact h
   | exc c fs=>rw[e2] at h; exact fun e' H' r=>h e' H' (r.of_sub hs)
   | ok b=>rw[e2] at h; exact fun v H' r2=>h v H' (r2.trans hs)
theorem Fi (h:aE W G cl (.ite c x y) E σ H Q):sh (bG W G cl c E) (aE W G cl x E) (aE W G cl y E) σ H Q:=by
 obtain⟨N,a,hN,hS,h⟩:=h;rw[Ip.sj] at h;unfold sh;refine⟨N,a,hN,hS,?_⟩;cases e:Ip.eval G cl a c with
 | bad=>rw[e] at h; exact h
 | exc c fs=>rw[e] at h; exact h
 | ok v=>
  obtain⟨k,d⟩:=v;rw[e] at h;cases d <;> try (exact h.elim)
  rename_i b;intro H1 hs;cases b with
  | true=>
   rw[if_pos rfl];refine⟨N,a,hN.mono hs,hS.grow hs,?_⟩;simp only[Ip.R.bind,jc,if_true] at h;cases e2:Ip.eval G cl a x with
   | bad=>rw[e2] at h; exact h
   | exc c fs=>rw[e2] at h; exact fun e' H' r=>h e' H' (r.of_sub hs)
   | ok b=>rw[e2] at h; exact fun v H' r2=>h v H' (r2.trans hs)
  | false=>
   rw[if_neg (by decide)];refine⟨N,a,hN.mono hs,hS.grow hs,?_⟩;simp only[Ip.R.bind,jc,Bool.false_eq_true,if_false] at h;cases e2:Ip.eval G cl a y with
   | bad=>rw[e2] at h; exact h
   | exc c fs=>rw[e2] at h; exact fun e' H' r=>h e' H' (r.of_sub hs)
   | ok b=>rw[e2] at h; exact fun v H' r2=>h v H' (r2.trans hs)
theorem vC (h:aE W G cl (.chain o p x y z) E σ H Q) :
  dO (fun x y=>rD W G o [x,y]) (fun x y=>rD W G p [x,y]) (aE W G cl x E) (aE W G cl y E) (aE W G cl z E) σ H Q:=by
 obtain⟨N,a,hN,hS,h⟩:=h;rw[Ip.s0] at h;unfold dO;refine gq hN hS (fun x1 ex v H1 fp hs nd hf ow hN1 hS1=>?_) (fun c fs ee=>?_) fun ee=>?_
 ·refine gq hN1 hS1 (fun y1 ey w H2 fq hs2 nd2 hf2 ow2 hN2 hS2=>?_) (fun c fs ee e H' r=>?_) fun ee=>?_
  ·simp only[ex,ey,Ip.R.bind] at h;have hN':=hN.mono (hs.trans hs2);have dx:=ow.later hN hs2 hf fun _ y=>y;have dy:=ow2.later (hN.mono hs) (Sub.refl _) hf2 fun _ y=>.inl y;cases q:aU G o [x1,y1] with
   | none=>simp only[q,Ip.R.of] at h
   | some b=>
    simp only[q,Ip.R.of] at h;refine⟨N,[x1,y1],b,hN',.cons dx (.cons dy .nil),q,fun v2 H3 r3=>?_⟩;obtain⟨kb,b⟩:=b;cases b <;> try (exact h.elim)
    rename_i b;have:=(r3.den hN').bl_inv;subst this;have hs3:=(hs.trans hs2).trans r3.1;refine⟨b,rfl,?_⟩;cases b with
    | false=>exact h _ _ (Res.of_flat hs3 rfl .bl)
    | true=>
     rw[if_pos rfl];simp only[jc,if_true] at h;refine gq (hN.mono hs3) (hS.grow hs3) (fun z1 ez u H4 fz hs4 nd4 hf4 ow4 hN4 hS4=>?_) (fun c fs ee e H' r=>?_) fun ee=>?_
     ·simp only[ez] at h;cases q2:aU G p [y1,z1] with
      | none=>simp only[q2] at h
      | some t=>
       simp only[q2] at h;exact⟨N,[y1,z1],t,hN.mono (hs3.trans hs4),.cons (dy.mono (gw (r3.1.trans hs4) fun _ z=>.inl z)) (.cons (ow4.later (hN.mono hs3) (Sub.refl _) hf4 fun _ y=>y) .nil),q2,fun v H' r=>h v H' (r.trans (hs3.trans hs4))⟩
     ·simp only[ee] at h;exact h e H' (r.of_sub hs3)
     ·simp only[ee] at h
  ·simp only[ex,ee,Ip.R.bind] at h;exact h e H' (r.trans hs fun _ y=>.inl y)
  ·simp only[ex,ee,Ip.R.bind] at h
 ·simp only[ee,Ip.R.bind] at h;exact h
 ·simp only[ee,Ip.R.bind] at h
end
def ItD (W:Wd)(N:Addr->Prop)(H1:Hp)(J:It)(ds:List D):Prop:=∀(M:Addr->Prop) (H:Hp),Sub (hid N H1) (hid M H)->NOk M H->∀i:Nat,
 (∀d,ds[i]? = some d->J.go i H/\∀x H',J.yld i H x H'->Sub H H'/\Den W (hid M H') x d)/\(ds.length<=i->J.stop i H)
section
variable {X:Cx}{W:Wd}{G:Pg}{cl:Nat->List KD->Ip.Run}{E:St->XK}
theorem jX (h:Sub H H'):Sub (hid N H) (hid N H'):=gw h fun _ z=>.inl z
def gz (W:Wd)(G:Pg)(cl:Nat->List KD->Ip.Run)(wk:Wk)(irs:List Ex)(E:St->XK):TI:=fun σ H R=>∃(N:Addr->Prop) (a:Sl),NOk N H/\RelS W (hid N H) a σ/\match evals G cl a irs with
 | .ok vs=>(match dD wk vs with
  | some ds=>∀J H',Sub H H'->ItD W N H' J ds->R J H'
  | none=>False)
 | .exc c fs=>∀e H',ExcR W H N H' c fs e->E σ (.ref e) none H'
 | .bad=>False
theorem PI.mono (h:PI X tg iter t)(k:∀σ H R,t' σ H R->t σ H R):PI X tg iter t':=fun pins s σ H R I q=>h pins s σ H R I (k σ H R q)
theorem ItD.list (hK:W.K=X.K)(h:Rd (hid N H1) a (.lst vs))(q:Dens W (hid N H1) vs ds):ItD W N H1 (qv X.K a) ds:=fun M H hs hN i=>by
 have hq:SqL X.K H a vs:=.inl (Rd.sub (hs.trans bm) h);refine⟨fun d e=>?_,fun hl=>⟨vs,hq,by rw[q.length]; exact hl⟩⟩;obtain⟨v,e1,e2⟩:=q.get e;refine⟨⟨vs,v,hq,e1⟩,fun x H' hZz=>?_⟩;obtain⟨hH,hx⟩:=hZz;subst hH;have:=hx vs hq;rw[e1] at this;cases this;exact⟨Sub.refl _,e2.mono hs⟩
theorem ItD.tup (hK:W.K=X.K)(h:SqT W.K (hid N H1) a vs)(q:Dens W (hid N H1) vs ds):ItD W N H1 (td X.K a) ds:=fun M H hs hN i=>by
 have hq:SqT X.K H a vs:=hK ▸ SqT.sub (hs.trans bm) h;refine⟨fun d e=>?_,fun hl=>⟨vs,hq,by rw[q.length]; exact hl⟩⟩;obtain⟨v,e1,e2⟩:=q.get e;refine⟨⟨vs,v,hq,e1⟩,fun x H' hZz=>?_⟩;obtain⟨hH,hx⟩:=hZz;subst hH;have:=hx vs hq;rw[e1] at this;cases this;exact⟨Sub.refl _,e2.mono hs⟩
theorem zo (hK:W.K=X.K)(h:PE X e (aE W G cl ir E)):PI X tg e (gz W G cl .seq [ir] E):=by
 rintro pins s σ H R I ⟨N,a,hN,hS,q⟩;rw[bj,bB] at q;cases e1:Ip.eval G cl a ir with
 | bad=>rw[e1] at q; exact q.elim
 | exc c fs=>
  rw[e1] at q;refine vf h pins s σ H R I ⟨N,a,hN,hS,?_⟩;rw[e1];exact q
 | ok x=>
  obtain⟨k,d⟩:=x;rw[e1] at q;simp only[Ip.R.bind,show dD .seq [(k,d)]=d.seq from rfl] at q;cases e2:d.seq with
  | none=>rw[e2] at q; exact q.elim
  | some ds=>
   rw[e2] at q;cases d <;> simp only[D.seq] at e2 <;> try (cases e2; done)
   ·cases e2;refine vf h pins s σ H R I ⟨N,a,hN,hS,?_⟩;rw[e1];intro v H' r;have dv:=r.den hN;cases dv with | @lst b vs _ h1 h2=>?_
    exact⟨b,rfl,⟨vs,.inl (Rd.sub bm h1)⟩,q _ _ r.1 (ItD.list hK h1 h2)⟩
   ·cases e2;refine Fz h pins s σ H R I ⟨N,a,hN,hS,?_⟩;rw[e1];intro v H' r;have dv:=r.den hN;cases dv with | @tup b vs _ h1 h2=>?_
    exact⟨b,rfl,⟨vs,hK ▸ SqT.sub bm h1⟩,q _ _ r.1 (ItD.tup hK h1 h2)⟩
theorem ItD.range {N:Addr->Prop}{H1:Hp}{lo:Int}{n:Nat}:ItD W N H1 (oK lo n) ((List.range n).map fun (i:Nat)=>.int (lo+i)):=fun M H hs hN i=>by
 refine⟨fun d e=>?_,fun hl=>?_⟩;rotate_left
 ·show n<=i;simpa using hl
 rw[List.getElem?_map] at e;obtain⟨j,e1,e2⟩:=cW e;have hi:i<n:=by have:=(dN e1).1; simpa using this
 rw[List.getElem?_range hi] at e1;cases e1;subst e2;refine⟨hi,fun x H' hZz=>?_⟩;obtain⟨hH,hx⟩:=hZz;subst hH hx;exact⟨Sub.refl _,.int⟩
theorem wk_rng1 (h:dD .rng1 xs=some ds):∃k j,xs=[(k,.int j)]/\(-(2 ^ 62)<=j/\j<2 ^ 62)/\ds=(List.range j.toNat).map fun (n:Nat)=>.int n:=by
 obtain⟨⟨k,d⟩,rfl,h2⟩:=Ip.uT (f:=Ip.iZ) h;obtain⟨j,e1,h3⟩:=cK (show (Ip.gL d).bind _=some ds from h2);clear h h2;obtain rfl:=Ip.yy e1;by_cases hj:Ip.dE j=true
 ·rw[if_pos hj] at h3;cases h3;exact⟨k,j,rfl,Ip.dU.mp hj,rfl⟩
 ·rw[if_neg hj] at h3; exact (cP h3).elim
theorem u8 {d:D}{xs:List D}(h:d.lstO=some xs):d=.lst xs:=by
 cases d <;> simp only[D.lstO] at h <;> cases h
 rfl
theorem yF {d:D}{xs:List D}(h:d.seq=some xs):d=.lst xs\/d=.tup xs:=by
 cases d <;> simp only[D.seq] at h <;> cases h
 ·exact .inl rfl
 ·exact .inr rfl
theorem wk_enum (h:dD .enum xs=some ds):∃k d es,xs=[(k,d)]/\(d=.lst es\/d=.tup es)/\ds=es.mapIdx fun n d=>.tup [.int n,d]:=by
 obtain⟨⟨k,d⟩,rfl,h2⟩:=Ip.uT (f:=Ip.iU) h;obtain⟨es,e1,e2⟩:=cW (show d.seq.map _=some ds from h2);exact⟨k,d,es,rfl,yF e1,e2.symm⟩
theorem wk_zip (h:dD .zip xs=some ds):∃k l d e us ws,xs=[(k,d),(l,e)]/\d=.lst us/\e=.lst ws/\ds=(us.zip ws).map fun p=>.tup [p.1,p.2]:=by
 obtain⟨⟨k,d⟩,⟨l,e⟩,rfl,h2⟩:=Ip.BV (f:=Ip.lE) h;obtain⟨us,e1,e2⟩:=cK (show d.lstO.bind _=some ds from h2);obtain⟨ws,e3,e4⟩:=cW e2;exact⟨k,l,d,e,us,ws,rfl,u8 e1,u8 e3,e4.symm⟩
theorem qC (h:gz W G cl wk irs E σ H R)
  (k:∀(N:Addr->Prop) xs ds,dD wk xs=some ds->NOk N H->(∀J H',Sub H H'->ItD W N H' J ds->R J H')->∀vs H',Sub H H'->Dens W (hid N H') vs (xs.map (·.2))->Q vs H'):bh W G cl irs E σ H Q:=by
 obtain⟨N,a,hN,hS,q⟩:=h;refine⟨N,a,hN,hS,?_⟩;cases e1:evals G cl a irs with
 | bad=>rw[e1] at q; exact q
 | exc c fs=>rw[e1] at q; exact q
 | ok xs=>
  rw[e1] at q;simp only at q;cases e2:dD wk xs with
  | none=>rw[e2] at q; exact q.elim
  | some ds=>
   rw[e2] at q;exact fun vs H' r=>k N xs ds e2 hN q vs H' r.1 (r.dens hN)
theorem BL {tg e:Expr}{ir:Ex}{p pos:Pos}(hg:Gl X "range")(hm:X.mg "range" = none)(h:PA X [e] (bh W G cl [ir] E))(hs:starEach [e] X.env=[(false,PySem.eval e X.env)]):PI X tg (.Call (.Name "range" p) [e] [] pos) (gz W G cl .rng1 [ir] E):=by
 refine (G4 hg hm h hs).mono fun σ H R q=>qC q fun N xs ds e2 hN q vs H' hs dv=>?_;obtain⟨k,j,rfl,hj,rfl⟩:=wk_rng1 e2;obtain⟨v,rfl,h1⟩:=Dens.one dv;rw[h1.int_inv];refine⟨j,rfl,hj.1,hj.2,q _ _ hs ?_⟩;have:=ItD.range (W:=W) (N:=N) (H1:=H') (lo:=0) (n:=j.toNat);simpa using this
theorem ItD.enum (hK:W.K=X.K)(h:Rd (hid N H1) a (.lst vs))(q:Dens W (hid N H1) vs ds):ItD W N H1 (sL X.K a) (ds.mapIdx fun n d=>.tup [.int n,d]):=fun M H hs hN i=>by
 have hq:SqL X.K H a vs:=.inl (Rd.sub (hs.trans bm) h);refine⟨fun d e=>?_,fun hl=>⟨vs,hq,by rw[q.length]; simpa using hl⟩⟩;rw[List.getElem?_mapIdx] at e;obtain⟨d',e0,rfl⟩:=cW e;obtain⟨v,e1,e2⟩:=q.get e0;refine⟨⟨vs,v,hq,e1⟩,fun x H' hZz=>?_⟩;obtain⟨y,p,hx,hp,hH,hy⟩:=hZz;have:=hy vs hq;rw[e1] at this;cases this;subst hx hH;exact⟨Sub.upd hp,.tup (SqT.of (az.mpr ⟨fun z=>hN p z hp,bA⟩)) (.cons .int (.cons (e2.mono (hs.trans (jX (Sub.upd hp)))) .nil))⟩
theorem ItD.enumT (hK:W.K=X.K)(h:SqT W.K (hid N H1) a vs)(q:Dens W (hid N H1) vs ds):ItD W N H1 (kg X.K a) (ds.mapIdx fun n d=>.tup [.int n,d]):=fun M H hs hN i=>by
 have hq:SqT X.K H a vs:=by rw[<-hK]; exact SqT.sub (hs.trans bm) h
 refine⟨fun d e=>?_,fun hl=>⟨vs,hq,by rw[q.length]; simpa using hl⟩⟩;rw[List.getElem?_mapIdx] at e;obtain⟨d',e0,rfl⟩:=cW e;obtain⟨v,e1,e2⟩:=q.get e0;refine⟨⟨vs,v,hq,e1⟩,fun x H' hZz=>?_⟩;obtain⟨y,p,hx,hp,hH,hy⟩:=hZz;have:=hy vs hq;rw[e1] at this;cases this;subst hx hH;exact⟨Sub.upd hp,.tup (SqT.of (az.mpr ⟨fun z=>hN p z hp,bA⟩)) (.cons .int (.cons (e2.mono (hs.trans (jX (Sub.upd hp)))) .nil))⟩
theorem ItD.zip (hK:W.K=X.K)(h:Rd (hid N H1) a (.lst vs))(q:Dens W (hid N H1) vs ds)(h':Rd (hid N H1) b (.lst ws))(q':Dens W (hid N H1) ws es) :
  ItD W N H1 (pP X.K a b) ((ds.zip es).map fun p=>.tup [p.1,p.2]):=fun M H hs hN i=>by
 have hq:SqL X.K H a vs:=.inl (Rd.sub (hs.trans bm) h);have hq':SqL X.K H b ws:=.inl (Rd.sub (hs.trans bm) h');refine⟨fun d e=>?_,fun hl=>?_⟩
 ·rw[List.getElem?_map] at e;obtain⟨⟨d1,d2⟩,e0,rfl⟩:=cW e;obtain⟨e1,e2⟩:=List.getElem?_zip_eq_some.mp e0;obtain⟨v,f1,f2⟩:=q.get e1;obtain⟨w,g1,g2⟩:=q'.get e2;refine⟨⟨vs,ws,v,w,hq,hq',f1,g1⟩,fun x H' hZz=>?_⟩;obtain⟨y,z,p,hx,hp,hH,hy,hz⟩:=hZz;have t1:=hy vs hq;have t2:=hz ws hq';rw[f1] at t1;rw[g1] at t2;cases t1;cases t2;subst hx hH;exact⟨Sub.upd hp,.tup (SqT.of (az.mpr ⟨fun z=>hN p z hp,bA⟩)) (.cons (f2.mono (hs.trans (jX (Sub.upd hp)))) (.cons (g2.mono (hs.trans (jX (Sub.upd hp)))) .nil))⟩
 ·refine⟨vs,ws,hq,hq',?_⟩;rw[q.length,q'.length];simp only[List.length_map,List.length_zip] at hl;omega
theorem Bp (hK:W.K=X.K)(hg:Gl X "enumerate")(hm:X.mg "enumerate" = none)(hv:bootBuiltins "enumerate" = some (.type "enumerate"))(h:PA X [e] (bh W G cl [ir] E))(hs:starEach [e] X.env=[(false,PySem.eval e X.env)]) :
  PI X (.Tuple es k1 tp) (.Call (.Name "enumerate" p) [e] [] pos) (gz W G cl .enum [ir] E):=by
 refine (ze hg hm hv h hs).mono fun σ H R q=>qC q fun N xs ds e2 hN q vs H' hs dv=>?_;obtain⟨k,d,us,rfl,hd,rfl⟩:=wk_enum e2;obtain⟨v,rfl,h0⟩:=Dens.one dv;rcases hd with rfl | rfl
 ·have h0':Den W (hid N H') v (.lst us):=h0;cases h0' with | @lst a ws _ h1 h2=>?_
  exact .inl ⟨a,ws,rfl,.inl (Rd.sub bm h1),q _ _ hs (ItD.enum hK h1 h2)⟩
 ·have h0':Den W (hid N H') v (.tup us):=h0;cases h0' with | @tup a ws _ h1 h2=>?_
  exact .inr ⟨a,ws,rfl,by rw[<-hK]; exact SqT.sub bm h1,q _ _ hs (ItD.enumT hK h1 h2)⟩
theorem CH (hK:W.K=X.K)(hg:Gl X "zip")(hm:X.mg "zip" = none)(hv:bootBuiltins "zip" = some (.type "zip"))(h:PA X [e,e'] (bh W G cl [ir,ir'] E))
  (hs:starEach [e,e'] X.env=[(false,PySem.eval e X.env),(false,PySem.eval e' X.env)])(hs2:starEach [e'] X.env=[(false,PySem.eval e' X.env)]) :
  PI X (.Tuple es k1 tp) (.Call (.Name "zip" p) [e,e'] [] pos) (gz W G cl .zip [ir,ir'] E):=by
 refine (ET hg hm hv h hs hs2).mono fun σ H R q=>qC q fun N xs ds e2 hN q vs H' hs dv=>?_;obtain⟨k,l,d,e,us,ws,rfl,rfl,rfl,rfl⟩:=wk_zip e2;obtain⟨v,w,rfl,h0,g0⟩:=Dens.two dv;have h0':Den W (hid N H') v (.lst us):=h0;have g0':Den W (hid N H') w (.lst ws):=g0;cases h0' with | @lst a vs' _ h1 h2=>?_
 cases g0' with | @lst b ws' _ g1 g2=>?_
 exact⟨a,b,vs',ws',rfl,.inl (Rd.sub bm h1),.inl (Rd.sub bm g1),q _ _ hs (ItD.zip hK h1 h2 g1 g2)⟩
noncomputable def kc:List Nat->lC
 | []=>lK
 | i::is=>i4 (dA i) (kc is)
noncomputable def gT (K:aL):Tg->TG
 | .one i=>dA i
 | .many is=>lD K is.length (kc is)
theorem RelS.set (h:RelS W S a σ)(hi:i < σ.length)(hd:Den W S v d):RelS W S (a.set i (some d)) (σ.set i (some v)):=fun j e hj=>by
 by_cases z:i=j
 ·subst z;by_cases y:i<a.length
  ·rw[List.getElem?_set_self y] at hj;cases hj;exact⟨v,List.getElem?_set_self hi,hd⟩
  ·rw[List.getElem?_eq_none (by rw[List.length_set]; omega)] at hj; cases hj
 ·rw[List.getElem?_set_ne z] at hj;rw[List.getElem?_set_ne z];exact h j e hj
theorem RelS.skip (h:RelS W S a σ)(hi:∀d,a[i]?≠some (some d)):RelS W S a (σ.set i (some v)):=fun j e hj=>by
 by_cases z:i=j
 ·subst z; exact absurd hj (hi e)
 ·rw[List.getElem?_set_ne z]; exact h j e hj
theorem vH:∀{is:List Nat} {vs:List V} {ds:List D} {a:Sl} {σ:St} {Q:St->Hp->Prop},Dens W S vs ds->ds.length=is.length->(∀i∈is,i < σ.length)->(∀i∈is,∀d,a0[i]?≠some (some d))->RelS W S a σ->RelS W S a0 σ ->
  (∀σ',RelS W S (Ip.di id is ds a) σ'->RelS W S a0 σ'->σ'.length=σ.length->Q σ' H)->kc is vs σ H Q
 | [],_,_,a,σ,Q,.nil,_,_,_,h,h0,k=>⟨rfl,k σ h h0 rfl⟩
 | [],_,_,_,_,_,.cons _ _,hl,_,_,_,_,_=>by simp at hl
 | i::is,_,_,_,_,_,.nil,hl,_,_,_,_,_=>by simp at hl
 | i::is,_,_,a,σ,Q,.cons hd q,hl,hi,ha,h,h0,k=>by
  refine⟨_,_,rfl,?_⟩;show kc is _ (σ.set i (some _)) H Q;refine vH q (by simpa using hl) (fun j hj=>by rw[List.length_set]; exact hi j (bD _ hj)) (fun j hj=>ha j (bD _ hj)) (h.set (hi i bM) hd) (h0.skip (ha i bM)) fun σ' h1 h2 h3=>k σ' h1 h2 (by rw[h3,List.length_set])
theorem CD (hK:W.K=X.K)(hd:Den W (hid N H) v d)(hi:∀i∈cG tg,i < σ.length)(ha:∀i∈cG tg,∀d,a0[i]?≠some (some d))(h0:RelS W (hid N H) a0 σ)
  (hb:dm id a0 tg d=some a1)(k:∀σ',RelS W (hid N H) a1 σ'->RelS W (hid N H) a0 σ'->σ'.length=σ.length->Q σ' H):gT X.K tg v σ H Q:=by
 cases tg with
 | one i=>
  simp only[dm] at hb;cases hb;exact k _ (h0.set (hi i (by simp[cG])) hd) (h0.skip (ha i (by simp[cG]))) (by rw[List.length_set])
 | many is=>
  cases hd <;> simp only[dm] at hb <;> try (cases hb; done)
  rename_i a vs ds h1 h2;by_cases hl:ds.length=is.length
  ·rw[if_pos hl] at hb;cases hb;refine⟨a,vs,rfl,hK ▸ SqT.sub bm h1,h2.length.trans hl,?_⟩;exact vH h2 hl hi ha h0 h0 k
  ·rw[if_neg hl] at hb; cases hb
theorem vx:∀{ds:List D} {zs:List KD},au f ds=.ok zs->∀i d,ds[i]? = some d->∃o z1,f d=.ok o/\au f (ds.take i)=.ok z1/\au f (ds.take (i+1))=.ok (z1++o.toList)
 | [],_,_,i,d,e=>by simp at e
 | x::xs,zs,h,i,d,e=>by
  rw[au] at h;obtain⟨o,ho,h⟩:=iM h;obtain⟨ys,hy,h⟩:=iM h;cases i with
  | zero=>
   simp at e;subst e;refine⟨o,[],ho,rfl,?_⟩;rw[List.take_succ_cons,List.take_zero,au,ho,Ip.R.bind,au,Ip.R.bind];cases o <;> rfl
  | succ i=>
   obtain⟨o2,z1,h1,h2,h3⟩:=vx hy i d (by simpa using e);refine⟨o2,_,h1,by rw[List.take_succ_cons,au,ho,Ip.R.bind,h2,Ip.R.bind],?_⟩;rw[List.take_succ_cons,au,ho,Ip.R.bind,h3,Ip.R.bind];cases o <;> rfl
theorem Bt (caps:List (Option Nat))(h:RelS W S a σ):RelS W S (caps.map (cx a)) (caps.map (ii σ)):=fun i d e=>by
 rw[List.getElem?_map] at e;obtain⟨o,e1,e2⟩:=cW e;cases o with
 | none=>cases e2
 | some j=>
  have e3:a[j]? = some (some d):=by
   have:(a[j]?).join=some d:=e2;cases q:a[j]? with
   | none=>rw[q] at this; cases this
   | some r=>rw[q] at this; rw[show r=some d from this]
  obtain⟨v,h1,h2⟩:=h j d e3;refine⟨v,?_,h2⟩;rw[List.getElem?_map,e1];show some ((σ[j]?).join)=some (some v);rw[h1];rfl
theorem OwnV.snoc (h:Own W S H x.1 v x.2 f):∀{vs xs fp},OwnV W S H vs xs fp->OwnV W S H (vs++[v]) (xs++[x]) (fp++f)
 | _,_,_,.nil=>by simpa using OwnV.cons h .nil
 | _,_,_,.cons h0 q=>by
  rw[List.cons_append,List.cons_append,List.append_assoc];exact .cons h0 (OwnV.snoc h q)
theorem uo:∀{ds:List D} {zs:List KD},au f ds=.ok zs->zs.length<=ds.length
 | [],_,h=>by cases h; exact bb _
 | x::xs,zs,h=>by
  rw[au] at h;obtain⟨o,ho,h⟩:=iM h;obtain⟨ys,hy,h⟩:=iM h;cases h;have:=uo hy;cases o <;> simp <;> omega
noncomputable def qK (W:Wd)(G:Pg)(cl:Nat->List KD->Ip.Run):List Ex->TT
 | []=>gY
 | [t]=>bG W G cl t fun _ _ _ _=>False
 | _=>fun _ _ _=>False
def cM (N:Addr->Prop)(l:Addr)(fp:List Addr):Addr->Prop:=fun b=>(N b\/b=l)\/b∈fp
theorem ud (hK:W.K=X.K)(hidx:∀i∈cG tg,caps[i]? = some none)(h:aE W G cl (.comp caps tg wk it ts x) E σ H Q) :
  fX (gz W G cl wk it E) caps (gT X.K tg) (qK W G cl ts) (aE W G cl x fun _ _ _ _=>False) σ H Q:=by
 obtain⟨N,a,hN,hS,h⟩:=h;rw[kT] at h;unfold fX;refine⟨N,a,hN,hS,?_⟩;cases e1:evals G cl a it with
 | bad=>rw[e1] at h; exact h
 | exc c fs=>rw[e1] at h; exact h
 | ok vs=>
  rw[e1] at h;simp only[Ip.R.bind] at h;cases e2:dD wk vs with
  | none=>rw[e2] at h; exact h.elim
  | some ds=>
   rw[e2] at h;simp only at h;by_cases hl:ds.length<=SL
   rotate_left
   ·rw[if_neg hl] at h; exact h.elim
   rw[if_pos hl] at h;cases e3:au (compF G cl (caps.map (cx a)) tg ts x) ds with
   | bad=>rw[e3] at h; exact h.elim
   | exc c fs=>rw[e3] at h; exact h.elim
   | ok zs=>
    rw[e3] at h;simp only[Ip.R.nox] at h;simp only[e2];intro J H1 hs1 hJ l hl1;have hN1:=hN.mono hs1;have a0n:∀i∈cG tg,∀d,(caps.map (cx a))[i]?≠some (some d):=fun i hi d z=>by
     rw[List.getElem?_map,hidx i hi] at z; cases z
    have ilt:∀i∈cG tg,i<caps.length:=fun i hi=>(dN (hidx i hi)).1;refine⟨fun i m ys σ Hc=>m=ds.length - i/\i<=ds.length/\∃(z1:List KD) (fp:List Addr),au (compF G cl (caps.map (cx a)) tg ts x) (ds.take i)=.ok z1/\fp.Nodup/\l∉fp/\(∀b∈fp,H1 b=none) /\
     OwnV W (hid (cM N l fp) Hc) Hc ys z1 fp/\Hc l=some (.lst ys)/\Sub H1 Hc/\RelS W (hid (cM N l fp) Hc) (caps.map (cx a)) σ/\σ.length=caps.length,
     ⟨ds.length,by simp,Nat.zero_le _,[],[],rfl,.nil,by simp,fun b z=>by simp at z,.nil,bA,Sub.upd hl1,?_,by simp⟩,?_⟩
    ·refine (Bt caps (hS.grow hs1)).mono (gw (Sub.upd hl1) fun b z=>?_);rcases z with (z | z) | z
     ·exact .inl z
     ·rw[z]; exact .inr hl1
     ·simp at z
    rintro i m ys σ1 Hc ⟨rfl,hi,z1,fp,ez,nd,lf,hf,ow,hcl,hs2,hS2,hlen⟩;have hNc:NOk (cM N l fp) Hc:=fun b z=>by
     rcases z with (z | z) | z
     ·exact (hN1.mono hs2) b z
     ·rw[z,hcl]; simp
     ·exact ow.dom b z
    have hsub:Sub (hid N H1) (hid (cM N l fp) Hc):=gw hs2 fun b z=>by
     rcases z with (z | z) | z
     ·exact .inl z
     ·rw[z]; exact .inr hl1
     ·exact .inr (hf b z)
    obtain⟨J1,J2⟩:=hJ (cM N l fp) Hc hsub hNc i;by_cases hlt:i<ds.length
    ·obtain⟨o,z1',f1,f2,f3⟩:=vx e3 i ds[i] (by simp[hlt]);rw[ez] at f2;cases f2;obtain⟨Jg,Jy⟩:=J1 ds[i] (by simp[hlt]);refine .inr ⟨Jg,fun ys σ' H'=>∃(z1:List KD) (fp:List Addr),au (compF G cl (caps.map (cx a)) tg ts x) (ds.take (i+1))=.ok z1/\fp.Nodup/\l∉fp/\(∀b∈fp,H1 b=none) /\
      OwnV W (hid (cM N l fp) H') H' ys z1 fp/\H' l=some (.lst ys)/\Sub H1 H'/\RelS W (hid (cM N l fp) H') (caps.map (cx a)) σ'/\σ'.length=caps.length,
      fun ys' σ' H' p'=>⟨ds.length - (i+1),by omega,rfl,hlt,p'⟩,fun v H' hy=>?_⟩
     obtain⟨s3,dx⟩:=Jy v H' hy;unfold compF at f1;cases eb:dm id (caps.map (cx a)) tg ds[i] with
     | none=>rw[eb] at f1; cases f1
     | some a1=>
      rw[eb] at f1;simp only at f1;have hN3:=hNc.mono s3;refine CD hK dx (fun j hj=>by rw[hlen]; exact ilt j hj) a0n (hS2.grow s3) eb fun σ2 r1 r0 hl2=>?_;have hlen2:σ2.length=caps.length:=hl2.trans hlen;have takeIt:∀y H4,Sub H' H4->Ip.eval G cl a1 x=.ok y->o=some y->aE W G cl x (fun _ _ _ _=>False) σ2 H4 fun v H5=>∃ys',H5 l=some (.lst ys')/\ys'.length<sizeLine /\
        ∃(z1:List KD) (fp:List Addr),au (compF G cl (caps.map (cx a)) tg ts x) (ds.take (i+1))=.ok z1/\fp.Nodup/\l∉fp/\(∀b∈fp,H1 b=none) /\
        OwnV W (hid (cM N l fp) (upd H5 l (.lst (ys'++[v])))) (upd H5 l (.lst (ys'++[v]))) (ys'++[v]) z1 fp/\(upd H5 l (.lst (ys'++[v]))) l=some (.lst (ys'++[v]))/\Sub H1 (upd H5 l (.lst (ys'++[v]))) /\
        RelS W (hid (cM N l fp) (upd H5 l (.lst (ys'++[v])))) (caps.map (cx a)) σ2/\σ2.length=caps.length:=by
       intro y H4 s4 ey ho;refine⟨cM N l fp,a1,hN3.mono s4,r1.grow s4,?_⟩;rw[ey];rintro v H5 ⟨s5,fq,nd5,hf5,ow5⟩;have sc5:Sub Hc H5:=(s3.trans s4).trans s5;have l4:H4 l≠none:=by rw[(s3.trans s4) l _ hcl]; simp
       have lq:l∉fq:=fun z=>l4 (hf5 l z);have up:∀b,b≠l->(upd H5 l (.lst (ys++[v]))) b=H5 b:=fun b z=>bc z;have big:Sub (hid (cM N l fp) Hc) (hid (cM N l (fp++fq)) (upd H5 l (.lst (ys++[v])))):=fun b u e=>by
        obtain⟨g1,g2⟩:=az.mp e;have bl:b≠l:=fun z=>g1 (.inl (.inr z));refine az.mpr ⟨fun z=>?_,by rw[up b bl]; exact sc5 b u g2⟩;rcases z with z | z
        ·exact g1 (.inl z)
        ·rcases dI z with z | z
         ·exact g1 (.inr z)
         ·have:=hf5 b z;rw[(s3.trans s4) b u g2] at this;cases this
       refine⟨ys,sc5 l _ hcl,?_,z1++[y],fp++fq,by rw[f3,ho]; rfl,?_,?_,?_,?_,bA,?_,?_,hlen2⟩
       ·rw[ow.length];have:=uo ez;rw[List.length_take] at this;have h2:SL<sizeLine:=by decide
        omega
       ·refine List.nodup_append.mpr ⟨nd,nd5,fun b hb c hc z=>?_⟩;subst z;have h1:=ow.dom b hb;cases hq:Hc b with
        | none=>exact h1 hq
        | some u=>
         have:=hf5 b hc;rw[(s3.trans s4) b u hq] at this;cases this
       ·intro z;rcases dI z with z | z
        ·exact lf z
        ·exact lq z
       ·intro b z;rcases dI z with z | z
        ·exact hf b z
        ·exact (hs2.trans (s3.trans s4)).none (hf5 b z)
       ·refine OwnV.snoc (ow5.mono (fun b u e=>?_) fun b hb u e=>?_) (ow.mono big fun b hb u e=>?_)
        ·obtain⟨g1,g2⟩:=az.mp e;have bl:b≠l:=fun z=>g1 (.inl (.inl (.inr z)));refine az.mpr ⟨fun z=>?_,by rw[up b bl]; exact g2⟩;rcases z with z | z
         ·exact g1 (.inl (.inl z))
         ·rcases dI z with z | z
          ·exact g1 (.inl (.inr z))
          ·exact g1 (.inr z)
        ·rw[up b fun z=>lq (z ▸ hb)]; exact e
        ·rw[up b fun z=>lf (z ▸ hb)]; exact sc5 b u e
       ·intro b u e;rw[up b fun z=>by rw[z,hl1] at e; cases e];exact (hs2.trans sc5) b u e
       ·refine RelS.mono (fun b u e=>?_) r0;obtain⟨g1,g2⟩:=az.mp e;have bl:b≠l:=fun z=>g1 (.inl (.inr z));refine az.mpr ⟨fun z=>?_,by rw[up b bl]; exact (s4.trans s5) b u g2⟩;rcases z with z | z
        ·exact g1 (.inl z)
        ·rcases dI z with z | z
         ·exact g1 (.inr z)
         ·have:=hf5 b z;rw[s4 b u g2] at this;cases this
      match ts,f1 with
      | [],f1=>
       simp only[bB,bj,Ip.R.bind] at f1;cases ey:Ip.eval G cl a1 x with
       | bad=>rw[ey] at f1; cases f1
       | exc c fs=>rw[ey] at f1; cases f1
       | ok y=>
        rw[ey] at f1;cases f1;have t:=takeIt y H' (Sub.refl _) ey rfl;simp only[qK,gY,if_true];exact t
      | [t],f1=>
       simp only[bB,bj,Ip.R.bind] at f1;refine⟨cM N l fp,a1,hN3,r1,?_⟩;cases et:Ip.eval G cl a1 t with
       | bad=>rw[et] at f1; cases f1
       | exc c fs=>rw[et] at f1; cases f1
       | ok tv=>
        obtain⟨kt,tv⟩:=tv;rw[et] at f1;simp only at f1;cases tv <;> simp only[Ip.gD] at f1 <;> try (cases f1; done)
        rename_i b;intro H4 s4;cases b with
        | true=>
         rw[if_pos rfl];simp only[if_true] at f1;cases ey:Ip.eval G cl a1 x with
         | bad=>rw[ey] at f1; cases f1
         | exc c fs=>rw[ey] at f1; cases f1
         | ok y=>
          rw[ey] at f1;cases f1;exact takeIt y H4 s4 ey rfl
        | false=>
         rw[if_neg (by decide)];simp only[Bool.false_eq_true,if_false] at f1;cases f1;have sc4:Sub Hc H4:=s3.trans s4;exact⟨z1,fp,by rw[f3]; simp,nd,lf,hf,ow.mono (jX sc4) fun b _ u e=>sc4 b u e,sc4 l _ hcl,hs2.trans sc4,r0.grow s4,hlen2⟩
      | _::_::_,f1=>
       exfalso;obtain⟨us,h1,h2⟩:=iM f1;simp only[bB,bj] at h1;obtain⟨u1,_,h1⟩:=iM h1;obtain⟨u2,h3,h1⟩:=iM h1;obtain⟨u4,_,h3⟩:=iM h3;obtain⟨u5,_,h3⟩:=iM h3;cases h1;cases h3;simp only at h2;cases h2
    ·have e:i=ds.length:=by omega
     subst e;rw[List.take_of_length_le (Nat.le_refl _),e3] at ez;cases ez;obtain⟨fq,nd2,sub,o2⟩:=OwnV.join (N:=fun b=>N b\/b=l) nd (fun b hb z=>z.elim (fun y=>hN1 b y (hf b hb)) fun y=>lf (y ▸ hb)) ow;refine .inl ⟨J2 (bb _),h _ _ ⟨hs1.trans hs2,l::fq,List.nodup_cons.mpr ⟨fun z=>lf (sub l z),nd2⟩,fun b z=>?_,l,ys,fq,rfl,hcl,?_,rfl⟩⟩
     ·rcases cz z with y | y
      ·rw[y]; exact hs1.none hl1
      ·exact hs1.none (hf b (sub b y))
     ·refine o2.imp fun v d f hf2 ow=>ow.mono (fun b u e=>?_) fun b _ u e=>e;obtain⟨g1,g2⟩:=az.mp e;refine az.mpr ⟨fun z=>g1 ?_,g2⟩;rcases z with z | z
      ·exact .inl (.inl z)
      ·rcases cz z with y | y
       ·exact .inl (.inr y)
       ·exact .inr y
end
def A4 (W:Wd)(G:Pg)(n f:Nat):Sp:=fun vs H Q E=>∃(N:Addr->Prop) (xs:List KD),NOk N H/\Dens W (hid N H) vs (xs.map (·.2))/\match Ip.run G n f xs with
 | .ret k d []=>∀v H',Res W H N H' (k,d) v->Q v H'
 | .exc c fs []=>∀e H',ExcR W H N H' c fs e->E (.ref e) none H'
 | _=>False
def BE (W:Wd)(G:Pg)(n f:Nat):Sp:=fun vs H Q E=>∃(N:Addr->Prop) (x0:KD) (xs:List KD) (v0:V) (ws:List V) (f0:List Addr),vs=v0::ws/\NOk N H/\f0.Nodup/\(∀b∈f0,¬N b) /\
 Own W (hid (fun b=>N b\/b∈f0) H) H x0.1 v0 x0.2 f0/\Dens W (hid (fun b=>N b\/b∈f0) H) ws (xs.map (·.2))/\match Ip.run G n f (x0::xs) with
 | .ret k d [y]=>∀v H' (fp:List Addr),Sub (hid (fun b=>b∈f0) H) H'->fp.Nodup->(∀b∈fp,hid (fun b=>b∈f0) H b=none)->Own W (hid (fun b=>N b\/b∈fp) H') H' y.1 v0 y.2 fp->(d=.non->v=.non)->Q v H'
 | .exc c fs _=>∀e H',ExcR W (hid (fun b=>b∈f0) H) N H' c fs e->E (.ref e) none H'
 | _=>False
def gr (W:Wd)(G:Pg)(n f:Nat)(F:Fn):Sp:=fun vs H Q E=>(F.io=[]/\A4 W G n f vs H Q E)\/(F.io=[0]/\BE W G n f vs H Q E)
theorem uD (hF:G.fn f=some F)(h:Ip.run G n f xs≠.bad):xs.length=F.np:=by
 cases n with
 | zero=>exact absurd rfl h
 | succ n=>
  rw[Ip.run,hF] at h;by_cases e:xs.length=F.np
  ·exact e
  ·simp only[if_neg e] at h; exact absurd rfl h
theorem sf (hF:G.fn f=some F)(h:gr W G n f F vs H Q E):vs.length=F.np:=by
 rcases h with ⟨_,N,xs,_,d,q⟩ | ⟨_,N,x0,xs,v0,ws,f0,rfl,_,_,_,_,d,q⟩
 ·have:=uD (xs:=xs) hF (fun z=>by rw[z] at q; exact q);rw[d.length,List.length_map]; exact this
 ·have:=uD (xs:=x0::xs) hF (fun z=>by rw[z] at q; exact q);rw[List.length_cons,d.length,List.length_map]; simpa using this
section
variable {X:Cx}{W:Wd}{G:Pg}{n:Nat}{E:St->XK}{σ:St}{H:Hp}{Q:VK}
theorem kZ {irs:List Ex}{cl:Nat->List KD->Ip.Run}{Q:List V->Hp->Prop}{N:Addr->Prop}{a:Sl}(hN:NOk N H)(hS:RelS W (hid N H) a σ)
  (ok:∀xs,evals G cl a irs=.ok xs->∀vs H1,Sub H H1->Dens W (hid N H1) vs (xs.map (·.2))->Q vs H1)
  (ex:∀c fs,evals G cl a irs=.exc c fs->∀e H',ExcR W H N H' c fs e->E σ (.ref e) none H')(nb:evals G cl a irs≠.bad):bh W G cl irs E σ H Q:=by
 refine⟨N,a,hN,hS,?_⟩;cases q:evals G cl a irs with
 | bad=>exact absurd q nb
 | exc c fs=>exact ex c fs q
 | ok xs=>exact fun vs H1 r=>ok xs q vs H1 r.1 (r.dens hN)
noncomputable def b9 (F:Fn)(m:Nat):List D:=F.dfl.drop (F.dfl.length - (F.np - m))
theorem Bw (F:Fn)(xs:List KD):Ip.fill F xs=xs++(b9 F xs.length).map fun d=>(99,d):=rfl
theorem rO (F:Fn)(xs:List KD):(Ip.fill F xs).map (·.2)=xs.map (·.2)++b9 F xs.length:=by
 rw[Bw,List.map_append,List.map_map];congr 1
 exact List.map_id _
theorem i5 (h:evals G cl a irs=.ok xs):xs.length=irs.length:=sY.evals_length h
theorem tV (h:cZ G f k=some F):G.fn f=some F/\F.io=[]/\k<=F.np/\F.np - k<=F.dfl.length:=by
 unfold cZ at h;cases q:G.fn f with
 | none=>rw[q] at h; cases h
 | some F'=>
  rw[q] at h;simp only at h;by_cases c:F'.io=[]/\k<=F'.np/\F'.np - k<=F'.dfl.length
  ·rw[if_pos c] at h; cases h; exact⟨rfl,c⟩
  ·rw[if_neg c] at h; cases h
theorem uA (h:bC G m k d=some (f,F)):∃c fs Cl',d=.ins c fs/\G.cl c=some Cl'/\Cl'.meths.lookup m=some f/\G.fn f=some F/\F.io=[]/\fs.lookup m=none/\k+1<=F.np/\F.np - (k+1)<=F.dfl.length:=by
 cases d <;> simp only[bC] at h <;> try (cases h; done)
 rename_i c fs;cases q1:G.cl c with
 | none=>rw[q1] at h; cases h
 | some Cl'=>
  rw[q1] at h;simp only at h;cases q2:Cl'.meths.lookup m with
  | none=>rw[q2] at h; cases h
  | some f'=>
   rw[q2] at h;simp only at h;cases q3:G.fn f' with
   | none=>rw[q3] at h; cases h
   | some F'=>
    rw[q3] at h;simp only at h;by_cases c1:F'.io=[]/\fs.lookup m=none/\k+1<=F'.np/\F'.np - (k+1)<=F'.dfl.length
    ·rw[if_pos c1] at h;cases h;exact⟨c,fs,Cl',rfl,q1,q2,q3,c1⟩
    ·rw[if_neg c1] at h; cases h
theorem u0 (hF:cZ G f es.length=some F)(hd:∀S,Dens W S dvs (b9 F es.length))(h:aE W G (Ip.run G n) (.call f es) E σ H Q):fV (gr W G n f F) dvs E (bh W G (Ip.run G n) es E) σ H Q:=by
 obtain⟨N,a,hN,hS,h⟩:=h;obtain⟨_,hio,_⟩:=tV hF;rw[kK,hF] at h;simp only[Ip.R.of,Ip.R.bind] at h;unfold fV;refine kZ hN hS (fun xs ex vs H1 hs dv=>?_) (fun c fs ee=>?_) fun ee=>?_
 ·rw[ex] at h;simp only at h;refine .inl ⟨hio,N,Ip.fill F xs,hN.mono hs,?_,?_⟩
  ·rw[rO,i5 ex];exact dv.append (hd _)
  ·cases q:Ip.run G n f (Ip.fill F xs) with
   | bad=>rw[q] at h; exact h
   | ret k d outs=>
    rw[q] at h;cases outs with
    | nil=>exact fun v H' r=>h v H' (r.trans hs)
    | cons _ _=>exact h
   | exc c fs outs=>
    rw[q] at h;cases outs with
    | nil=>exact fun e H' r=>h e H' (r.of_sub hs)
    | cons _ _=>exact h
 ·rw[ee] at h; exact h
 ·rw[ee] at h; exact h
theorem zz (nd:W.att.Nodup)(hnm:W.att[m]? = some nm)(hC:W.iA c=some C)(hd:∀S,Dens W S dvs (b9 F (es.length+1)))
 (hN:NOk N H)(hS:RelS W (hid N H) a σ)(ho:Ip.eval G (Ip.run G n) a io=.ok (k,.ins c fs0))(hm:bC G m es.length (.ins c fs0)=some (f,F))
    (h:match Ip.eval G (Ip.run G n) a (.meth m io es) with
      | .ok x=>∀v H',Res W H N H' x v->Q v H'
      | .exc c fs=>∀e H',ExcR W H N H' c fs e->E σ (.ref e) none H'
      | .bad=>False):eD C nm (gr W G n f F) dvs E (aE W G (Ip.run G n) io E) (bh W G (Ip.run G n) es E) σ H Q:=by
  obtain⟨_,_,_,e0,_,_,_,hio,hfl,_⟩:=uA hm;cases e0;rw[kH,ho] at h;simp only[Ip.R.bind,hm,Ip.R.of] at h;unfold eD;refine⟨N,a,hN,hS,?_⟩;rw[ho];intro v H1 r;have dv:=r.den hN;have hs:=r.1;cases dv with | @ins b C' dx _ fs ds hb hc' hf=>?_
  rw[hC] at hc';cases hc';have hb1:=az.mp hb;refine⟨b,dx,fs,rfl,hb1.2,(hf.lookup nd hnm).2 hfl,?_⟩;refine kZ (hN.mono hs) (hS.grow hs) (fun xs ex vs H2 hs2 dv2=>?_) (fun c fs ee e H' r=>?_) fun ee=>?_
  · rw[ex] at h;simp only at h;refine .inl ⟨hio,N,Ip.fill F ((k,.ins c fs0)::xs),hN.mono (hs.trans hs2),?_,?_⟩
    · rw[rO,List.length_cons,i5 ex];exact (Dens.cons ((Den.ins hb hC hf).mono (jX hs2)) dv2).append (hd _)
    · cases q2:Ip.run G n f (Ip.fill F ((k,.ins c fs0)::xs)) with
      | bad=>rw[q2] at h; exact h
      | ret k d outs=>
        rw[q2] at h;cases outs with
        | nil=>exact fun v H' r=>h v H' (r.trans (hs.trans hs2))
        | cons _ _=>exact h
      | exc c fs outs=>
        rw[q2] at h;cases outs with
        | nil=>exact fun e H' r=>h e H' (r.of_sub (hs.trans hs2))
        | cons _ _=>exact h
  · rw[ee] at h;exact h e H' (r.of_sub hs)
  · rw[ee] at h; exact h
end
structure InsC (K:aL)(C:Addr):Prop where
 cls:Cls K C
 ha:PySem.W.findIn K (.ref C) "__class__" = some (some (.builtin "object.__class__"))
 hn:PySem.W.specialIn K (.builtin "object.__class__") "__get__" = some (some (.builtin "getset_descriptor.__get__"))
 htk:PySem.W.takesIn K (.builtin "object.__class__")=some true
 hm:PySem.W.mroIn K C (.type "object")=some true
structure ExcC (K:aL)(C:Addr):Prop where
 xc:∃fI tl,XC K C fI tl
 xi:XI K C
structure CF (W:Wd)(fl:List Nat):Prop where
 nd:W.att.Nodup
 ins:∀c C,W.iA c=some C->InsC W.K C/\∀f n,f∈fl->W.att[f]? = some n->NoAttr W.K C n
 exc:∀c C,W.xA c=some C->ExcC W.K C/\∀f n,f∈fl->W.att[f]? = some n->NoAttr W.K C n
section
variable {X:Cx}{W:Wd}{G:Pg}{cl:Nat->List KD->Ip.Run}{E:St->XK}{fl:List Nat}
theorem PE.or (h:PE X e t)(h':PE X e t'):PE X e (fun σ H Q=>t σ H Q\/t' σ H Q):=fun pins s σ H Q I q=>q.elim (h pins s σ H Q I) (h' pins s σ H Q I)
theorem C3 (hK:W.K=X.K)(cf:CF W fl)(hk:k∈fl)(hn:W.att[k]? = some n)(ho:PE X o (aE W G cl io E))(hb:attributeBase o n X.env (PySem.eval o X.env)=PySem.eval o X.env):PE X (.Attribute o n pos) (aE W G cl (.op (.fld k) [io]) E):=by
 refine ((Au ho hb).or (C6 ho hb)).mono fun σ H Q hZz=>?_;obtain⟨N,a,hN,hS,q⟩:=hZz;rw[cj,bj,bB] at q;cases e1:Ip.eval G cl a io with
 | bad=>rw[e1] at q; exact q.elim
 | exc c fs=>
  rw[e1] at q;refine .inl ⟨N,a,hN,hS,?_⟩;rw[e1]; exact q
 | ok x=>
  obtain⟨kx,d⟩:=x;rw[e1] at q;simp only[Ip.R.bind,Ip.CI,bU] at q;cases d <;> simp only[Ip.fg] at q <;> try (exact q.elim)
  ·rename_i c fs;cases e2:fs.lookup k with
   | none=>rw[e2] at q; exact q.elim
   | some d=>
    rw[e2] at q;refine .inl ⟨N,a,hN,hS,?_⟩;rw[e1];intro v H1 r;have dv:=r.den hN;cases dv with | @ins b C dx _ vs ds hb hc hf=>?_
    obtain⟨w,l1,dw⟩:=(hf.lookup cf.nd hn).1 d e2;obtain⟨ic,na⟩:=cf.ins c C hc;exact⟨b,C,dx,vs,w,rfl,(az.mp hb).2,hK ▸ ic.cls,hK ▸ na k n hk hn,l1,q _ _ (Res.of_den r.1 dw)⟩
  ·rename_i c fs;cases e2:fs.lookup k with
   | none=>rw[e2] at q; exact q.elim
   | some d=>
    rw[e2] at q;refine .inr ⟨N,a,hN,hS,?_⟩;rw[e1];intro v H1 r;have dv:=r.den hN;cases dv with | @exc b C nw _ vs ds hb hc hf=>?_
    obtain⟨w,l1,dw⟩:=(hf.lookup cf.nd hn).1 d e2;obtain⟨ic,na⟩:=cf.exc c C hc;obtain⟨fI,tl,T⟩:=ic.xc;exact⟨b,C,fI,tl,nw,vs,w,rfl,(az.mp hb).2,hK ▸ T,hK ▸ na k n hk hn,l1,q _ _ (Res.of_den r.1 dw)⟩
noncomputable def gH (W:Wd):D->Option Value
 | .non=>some (.type "NoneType")
 | .bl _=>some (.type "bool")
 | .int _=>some (.type "int")
 | .str _=>some (.type "str")
 | .lst _=>some (.type "list")
 | .tup _=>some (.type "tuple")
 | .ins c _=>(W.iA c).map .ref
 | .exc c _=>(W.xA c).map .ref
theorem BG {pins:List (Addr×Obj)}{σ:St}{H:Hp}{s:Shared}{A:Around}{E:Value->Shared->Prop}{Q:Value->Shared->Prop}{c:Value}{b:Bool}{x:V}{u t:Value}{d:D}(hK:W.K=X.K)(cf:CF W fl)(I:Inv X pins σ H s)(rx:RelV x u)(hd:Den W H x d)(ht:gH W d=some t)
  (e:PySem.W.kitOne X.K t c=some b)(h:∀tk,Q (.bool b) { s with toks:=tk }):wpAny (model X.prog X.w) A (call (.builtin "isinstance") [u,c]) Q E s:=by
 cases hd with
 | non=>cases ht; exact jt I rx .non e h
 | bl=>cases ht; exact jt I rx (.bl _) e h
 | int=>cases ht; exact jt I rx (.int _) e h
 | str=>cases ht; exact jt I rx (.str _) e h
 | lst h1 h2=>
  cases ht;rcases h1 with h1 | ⟨o,h1⟩
  ·exact jt I rx (.lst h1) e h
  ·exact jt I rx (.frz h1) e h
 | @tup a vs ds h1 h2=>
  cases ht;cases (show u=Value.ref a from rx);obtain⟨its,_,⟨o,g1,g2,_⟩,_⟩:=I.tuple (hK ▸ h1);exact PySem.W.kia_one PySem.W.kitx_tuple I.kIn ⟨o,g1,g2⟩ e (fun z=>nomatch z) h
 | ins h1 hc _=>
  rw[gH,hc] at ht;cases ht;obtain⟨ic,_⟩:=cf.ins _ _ hc;exact jt I rx (.ins h1 (hK ▸ ic.cls) (hK ▸ ic.ha) (hK ▸ ic.hn) (hK ▸ ic.htk) (hK ▸ ic.hm)) e h
 | exc h1 hc _=>
  rw[gH,hc] at ht;cases ht;obtain⟨ic,_⟩:=cf.exc _ _ hc;obtain⟨fI,tl,T⟩:=ic.xc;exact Ef I rx (.exc h1 (hK ▸ T) (hK ▸ ic.xi)) e h
def bJ (W:Wd)(G:Pg)(t:Ip.Ty)(cv:Value):Prop:=∀d tv,gH W d=some tv->PySem.W.kitOne W.K tv cv=some (aA G d t)
theorem Den.ty (h:Den W S v d):∃t,gH W d=some t:=by
 cases h with
 | ins _ hc _=>exact⟨_,by rw[gH,hc]; rfl⟩
 | exc _ hc _=>exact⟨_,by rw[gH,hc]; rfl⟩
 | _=>exact⟨_,rfl⟩
theorem E2 {a b:Expr}{ia:Ex}{t:Ip.Ty}{c:V}{cv:Value}{p pos:Pos}(hK:W.K=X.K)(cf:CF W fl)(hc:valOf c=some cv)(hi:bJ W G t cv)(hg:Gl X "isinstance")(hm:X.mg "isinstance" = none)(hv:bootBuiltins "isinstance" = some (.builtin "isinstance"))
  (ha:PE X a (aE W G cl ia E))(hb:PE X b (tC c))(hs1:starEach [a,b] X.env=(false,PySem.eval a X.env)::starEach [b] X.env)(hs2:starEach [b] X.env=(false,PySem.eval b X.env)::starEach [] X.env) :
  PE X (.Call (.Name "isinstance" p) [a,b] [] pos) (aE W G cl (.op (.isi [t]) [ia]) E):=by
 have rule:CallR X (.builtin "isinstance") (fun xs H Q=>∃N x d,NOk N H/\xs=[x,c]/\Den W (hid N H) x d/\Q (.bl ([t].any (aA G d))) H):=by
  rintro pins s σ H xs us Q I r ⟨N,x,d,hN,e,hd,q⟩;have e1:[t].any (aA G d)=aA G d t:=by simp
  rw[e1] at q;subst e;obtain⟨u,v,rfl,ru,rv⟩:=vals2 r;have ev:v=cv:=by
   cases c with
   | ref a=>cases hc; exact rv
   | ty n=>cases hc; exact rv
   | _=>cases hc
  subst ev;obtain⟨tv,et⟩:=hd.ty;exact BG hK cf I ru (hd.mono bm) et (hK ▸ hi d tv et) fun tk=>⟨.bl _,H,I.tok _,rfl,q⟩
 refine (lZ rule hg hm hv (im ha (im hb ke hs2) hs1) (by decide) (by decide) hs1 (by rw[hs2]; rfl)).mono fun σ H Q hZz=>?_;obtain⟨N,as,hN,hS,q⟩:=hZz;rw[cj,bj,bB] at q;refine⟨N,as,hN,hS,?_⟩;cases e1:Ip.eval G cl as ia with
 | bad=>rw[e1] at q; exact q.elim
 | exc c fs=>rw[e1] at q; exact q
 | ok x=>
  obtain⟨kx,d⟩:=x;rw[e1] at q;intro v H1 r;exact⟨N,v,d,hN.mono r.1,rfl,r.den hN,q _ _ (Res.of_flat r.1 rfl .bl)⟩
theorem Gn (hK:W.K=X.K)(cf:CF W fl)(I:Inv X pins σ H s)(rx:RelV x u)(hd:Den W H x d)(ht:gH W d=some t) :
  ∃P:Heap->Prop,PySem.W.KitX X.K u t P/\P s.heap/\u≠.builtin "__main__.__loader__#opaque":=by
 cases hd with
 | non=>cases ht; cases (show u=Value.none from rx); exact⟨_,PySem.W.kitx_none,trivial,fun z=>nomatch z⟩
 | @bl y=>cases ht; cases (show u=Value.bool y from rx); exact⟨_,PySem.W.kitx_bool,trivial,fun z=>nomatch z⟩
 | @int i=>cases ht; obtain⟨t,q⟩:=(show ∃t,u=Value.int i t from rx); cases q; exact⟨_,PySem.W.kitx_int,trivial,fun z=>nomatch z⟩
 | @str y=>cases ht; obtain⟨t,q⟩:=(show ∃t,u=Value.str y t from rx); cases q; exact⟨_,PySem.W.kitx_str,trivial,fun z=>nomatch z⟩
 | @lst a vs ds h1 h2=>
  cases ht;cases (show u=Value.ref a from rx);obtain⟨_,its,n,_,_,eo⟩:=I.rdL h1;exact⟨_,PySem.W.kitx_list,⟨_,eo,rfl⟩,fun z=>nomatch z⟩
 | @tup a vs ds h1 h2=>
  cases ht;cases (show u=Value.ref a from rx);obtain⟨its,_,⟨o,g1,g2,_⟩,_⟩:=I.tuple (hK ▸ h1);exact⟨_,PySem.W.kitx_tuple,⟨o,g1,g2⟩,fun z=>nomatch z⟩
 | @ins a C dx c vs ds h1 hc _=>
  rw[gH,hc] at ht;cases ht;cases (show u=Value.ref a from rx);obtain⟨ic,_⟩:=cf.ins _ _ hc;obtain⟨mA,O,_⟩:=mB I.hok h1;obtain⟨od,J,_⟩:=O.look;exact⟨_,PySem.W.kitx_own ((hK ▸ ic.cls:Cls X.K C).get _) (hK ▸ ic.cls:Cls X.K C).hd (hK ▸ ic.ha) (hK ▸ ic.hn) (hK ▸ ic.htk) (hK ▸ ic.hm),J,fun z=>nomatch z⟩
 | @exc a C nw c vs ds h1 hc _=>
  rw[gH,hc] at ht;cases ht;cases (show u=Value.ref a from rx);obtain⟨ic,_⟩:=cf.exc _ _ hc;obtain⟨fI,tl,T⟩:=ic.xc;obtain⟨mA,J,_,_⟩:=I.inst h1;exact⟨_,v5 (hK ▸ T) (hK ▸ ic.xi),n0 J,fun z=>nomatch z⟩
inductive Isis (X:Cx) (W:Wd) (G:Pg):List Expr->List Ip.Ty->List V->List Value->Prop
 | nil:Isis X W G [] [] [] []
 | cons {e:Expr} {es:List Expr} {t:Ip.Ty} {ts:List Ip.Ty} {c:V} {cs:List V} {cv:Value} {cvs:List Value} (he:PE X e (tC c)) (hs:∀es,starEach (e::es) X.env=(false,PySem.eval e X.env)::starEach es X.env) (hc:valOf c=some cv) (hi:bJ W G t cv) (r:Isis X W G es ts cs cvs):Isis X W G (e::es) (t::ts) (c::cs) (cv::cvs)
def Go (cs:List V):TA:=fun _ H Q=>Q cs H
theorem Isis.pa (h:Isis X W G es ts cs cvs):PA X es (Go cs):=by
 induction h with
 | nil=>exact ke
 | cons he hs hc hi r ih=>exact im he ih (hs _)
theorem Isis.any (h:Isis X W G es ts cs cvs)(ht:gH W d=some t):PySem.W.kitAny W.K t cvs=some (ts.any (aA G d)):=by
 induction h with
 | nil=>rfl
 | @cons e es t' ts c cs cv cvs he hs hc hi r ih=>
  unfold PySem.W.kitAny;rw[hi d t ht,List.any_cons];cases aA G d t' with
  | true=>rfl
  | false=>exact ih
theorem Isis.vals (h:Isis X W G es ts cs cvs)(r:Vals cs its):its=cvs:=by
 induction h generalizing its with
 | nil=>cases r; rfl
 | @cons e es t' ts c cs cv cvs he hs hc hi q ih=>
  cases r with
  | cons r1 r2=>
   rw[ih r2];congr 1
   cases c with
   | ref a=>cases hc; exact r1
   | ty n=>cases hc; exact r1
   | _=>cases hc
theorem Isis.len (h:Isis X W G es ts cs cvs):cs.length=es.length:=by
 induction h with
 | nil=>rfl
 | cons _ _ _ _ _ ih=>simp[ih]
theorem BW (hK:W.K=X.K)(cf:CF W fl)(hl:es.length<=1000)(hi:Isis X W G es ts cs cvs)(hg:Gl X "isinstance")(hm:X.mg "isinstance" = none)(hv:bootBuiltins "isinstance" = some (.builtin "isinstance"))
  (ha:PE X a (aE W G cl ia E))(hs1:starEach [a,.Tuple es kt tp] X.env=(false,PySem.eval a X.env)::starEach [.Tuple es kt tp] X.env)(hs2:starEach [.Tuple es kt tp] X.env=(false,PySem.eval (.Tuple es kt tp) X.env)::starEach [] X.env) :
  PE X (.Call (.Name "isinstance" p) [a,.Tuple es kt tp] [] pos) (aE W G cl (.op (.isi ts) [ia]) E):=by
 have rule:CallR X (.builtin "isinstance") (fun xs H Q=>∃N x d q,NOk N H/\xs=[x,.ref q]/\H q=some (.tup cs)/\Den W (hid N H) x d/\Q (.bl (ts.any (aA G d))) H):=by
  rintro pins s σ H xs us Q I r ⟨N,x,d,q,hN,e,hq,hd,k⟩;subst e;obtain⟨u,v,rfl,ru,rv⟩:=vals2 r;cases (show v=Value.ref q from rv);obtain⟨tv,et⟩:=hd.ty;obtain⟨P,Z,hp,hne⟩:=Gn hK cf I ru (hd.mono bm) et;obtain⟨_,its,rI,⟨o,g1,g2,⟨n,g3⟩,_⟩⟩:=(show ObjOk X.prog X.w H s.heap q (.tup cs) from I.hok q _ hq)
  have ei:=hi.vals rI;subst ei;have eo:o=⟨.type "tuple",o.dict,.seq its.toArray n,o.slots⟩:=by
   cases o;simp only at g2 g3;rw[g2,g3]
  exact PySem.W.kia_tup Z I.kIn hp (by rw[g1,eo]) (hK ▸ hi.any et) hne fun tk=>⟨.bl _,H,I.tok _,rfl,k⟩
 refine (lZ rule hg hm hv (im ha (im (u9 hi.pa) ke hs2) hs1) (by decide) (by decide) hs1 (by rw[hs2]; rfl)).mono fun σ H Q hZz=>?_;obtain⟨N,as,hN,hS,q⟩:=hZz;rw[cj,evals,evals] at q;refine⟨N,as,hN,hS,?_⟩;cases e1:Ip.eval G cl as ia with
 | bad=>rw[e1] at q; exact q.elim
 | exc c fs=>rw[e1] at q; exact q
 | ok x=>
  obtain⟨kx,d⟩:=x;rw[e1] at q;intro v H1 r;refine⟨by rw[hi.len]; exact bK hl (by decide),fun p hp=>?_⟩;exact⟨N,v,d,p,(hN.mono r.1).mono (Sub.upd hp),rfl,bA,(r.den hN).mono (gw (Sub.upd hp) fun _ z=>.inl z),q _ _ (Res.of_flat (r.1.trans (Sub.upd hp)) rfl .bl)⟩
end
section
variable {X:Cx}{W:Wd}{G:Pg}{n:Nat}{E:St->XK}{σ:St}{H:Hp}{Q:VK}
theorem rc (h:aY G c k=some (f,F,d)):∃Cl',G.cl c=some Cl'/\Cl'.init=some f/\G.fn f=some F/\(d=if Cl'.isx=true then .exc c [] else .ins c [])/\F.io=[0]/\k+1<=F.np/\F.np - (k+1)<=F.dfl.length/\k<=50:=by
 unfold aY at h;cases q1:G.cl c with
 | none=>rw[q1] at h; cases h
 | some Cl'=>
  rw[q1] at h;simp only at h;cases q2:Cl'.init with
  | none=>rw[q2] at h; cases h
  | some f'=>
   rw[q2] at h;simp only at h;cases q3:G.fn f' with
   | none=>rw[q3] at h; cases h
   | some F'=>
    rw[q3] at h;simp only at h;by_cases c1:F'.io=[0]/\k+1<=F'.np/\F'.np - (k+1)<=F'.dfl.length/\k<=50
    ·rw[if_pos c1] at h;cases h;exact⟨Cl',rfl,q2,q3,rfl,c1⟩
    ·rw[if_neg c1] at h; cases h
theorem ub (hio:F.io=[0])(hnp:xs.length+1<=F.np)
  (hd:∀S,Dens W S dvs (b9 F (xs.length+1)))(hN:NOk N H1)(hs:Sub H H1)(dv:Dens W (hid N H1) vs (xs.map (·.2)))(hx:H1 x=none)(h12:∀b,b≠x->∀o,H1 b=some o->H2 b=some o)(h21:∀b,H2 b=none->H1 b=none)
  (ho:Own W (hid (fun b=>N b\/b∈[x]) H2) H2 1 (.ref x) d0 [x])
  (h:match Ip.f8 (Ip.run G n) (f,F,d0) xs with
   | .ok y=>∀v H',Res W H N H' y v->Q v H'
   | .exc c fs=>∀e H',ExcR W H N H' c fs e->E σ (.ref e) none H'
   | .bad=>False):gr W G n f F (.ref x::(vs++dvs)) H2 (fun v H2=>v=.non/\Q (.ref x) H2) (E σ):=by
 simp only[Ip.f8] at h;have hN2:NOk N H2:=fun b z q=>hN b z (h21 b q);have hxN:¬N x:=fun z=>hN x z hx;have s1:Sub H1 (hid (fun b=>b∈[x]) H2):=fun b o e=>az.mpr ⟨(fun z=>by rw[List.mem_singleton.mp z,hx] at e; cases e),h12 b (fun z=>by rw[z,hx] at e; cases e) o e⟩;have none1:∀b,hid (fun b=>b∈[x]) H2 b=none->H1 b=none:=fun b z=>s1.none z;refine .inr ⟨hio,N,(1,d0),Ip.fill { F with np:=F.np - 1 } xs,.ref x,vs++dvs,[x],rfl,hN2,by simp,fun b hb=>by rw[List.mem_singleton.mp hb]; exact hxN,ho,?_,?_⟩
 ·have e:(Ip.fill { F with np:=F.np - 1 } xs).map (·.2)=xs.map (·.2)++b9 F (xs.length+1):=by
   rw[rO];congr 1
   unfold b9;show F.dfl.drop (F.dfl.length - (F.np - 1 - xs.length))=_;congr 2
   omega
  rw[e];refine (dv.mono fun b o eb=>?_).append (hd _);obtain⟨g1,g2⟩:=az.mp eb;have bx:b≠x:=fun z=>by rw[z,hx] at g2; cases g2
  exact az.mpr ⟨fun z=>z.elim g1 fun y=>bx (List.mem_singleton.mp y),h12 b bx o g2⟩
 ·cases q:Ip.run G n f ((1,d0)::Ip.fill { F with np:=F.np - 1 } xs) with
  | bad=>rw[q] at h; exact h
  | exc c fs outs=>
   rw[q] at h;rintro e H' ⟨g1,g2,C,ws,g3,g4,g5⟩;exact h e H' ⟨hs.trans (s1.trans g1),hs.none (none1 e g2),C,ws,g3,g4,g5⟩
  | ret k d outs=>
   rw[q] at h;cases d <;> try (exact h.elim)
   match outs,h with
   | [],h=>exact h.elim
   | _::_::_,h=>exact h.elim
   | [y],h=>
    intro v H' fp g1 nd hf ow hv;exact⟨hv rfl,h _ _ ⟨hs.trans (s1.trans g1),fp,nd,fun b hb=>hs.none (none1 b (hf b hb)),ow⟩⟩
theorem tu (hC:W.iA c=some C)(hm:aY G c es.length=some (f,F,.ins c []))(hd:∀S,Dens W S dvs (b9 F (es.length+1)))
  (h:aE W G (Ip.run G n) (.make c es) E σ H Q):fN C (gr W G n f F) dvs E (bh W G (Ip.run G n) es E) σ H Q:=by
 obtain⟨N,a,hN,hS,h⟩:=h;obtain⟨_,_,_,_,_,hio,hnp,_⟩:=rc hm;rw[lx,hm] at h;simp only[Ip.R.of,Ip.R.bind] at h;unfold fN;refine kZ hN hS (fun xs ex vs H1 hs dv=>?_) (fun c fs ee=>?_) fun ee=>?_
 ·rw[ex] at h;intro x dx h1 h2 hne;have hN1:=hN.mono hs;refine ub (d0:=.ins c []) hio (by rw[i5 ex]; exact hnp) (by rw[i5 ex]; exact hd) hN1 hs dv h1 (fun b nb o e=>?_) (fun b e=>?_) ⟨x,C,dx,[],[],rfl,bA,hC,.nil,rfl⟩ h
  ·rw[bc nb,bc fun z=>by rw[z,h2] at e; cases e]; exact e
  ·by_cases z:b=x
   ·rw[z,bA] at e; cases e
   ·rw[bc z] at e;by_cases y:b=dx
    ·rw[y,bA] at e; cases e
    ·rw[bc y] at e; exact e
 ·rw[ee] at h; exact h
 ·rw[ee] at h; exact h
theorem tT (hC:W.xA c=some C)(hm:aY G c es.length=some (f,F,.exc c []))(hd:∀S,Dens W S dvs (b9 F (es.length+1)))
  (h:aE W G (Ip.run G n) (.make c es) E σ H Q):dS C (gr W G n f F) dvs E (bh W G (Ip.run G n) es E) σ H Q:=by
 obtain⟨N,a,hN,hS,h⟩:=h;obtain⟨_,_,_,_,_,hio,hnp,_,h50⟩:=rc hm;rw[lx,hm] at h;simp only[Ip.R.of,Ip.R.bind] at h;unfold dS;refine kZ hN hS (fun xs ex vs H1 hs dv=>?_) (fun c fs ee=>?_) fun ee=>?_
 ·rw[ex] at h;refine⟨by rw[dv.length,List.length_map,i5 ex]; omega,fun x h1=>?_⟩;have hN1:=hN.mono hs;refine ub (d0:=.exc c []) hio (by rw[i5 ex]; exact hnp) (by rw[i5 ex]; exact hd) hN1 hs dv h1 (fun b nb o e=>?_) (fun b e=>?_) ⟨x,C,true,[],[],rfl,bA,⟨hC,rfl⟩,.nil,rfl⟩ h
  ·rw[bc nb]; exact e
  ·by_cases z:b=x
   ·rw[z,bA] at e; cases e
   ·rw[bc z] at e; exact e
 ·rw[ee] at h; exact h
 ·rw[ee] at h; exact h
end
theorem md (h:fG o=true):attributeBase o f env w=w:=by
 unfold attributeBase;unfold fG at h;split
 ·rename_i heq;simp at h
 ·rfl
theorem fh (h:noStar (e::es)=true):(∀x p,e≠.Starred x p)/\noStar es=true:=by
 unfold noStar at h ⊢;rw[List.all_cons,Bool.and_eq_true] at h;refine⟨fun x p z=>?_,h.2⟩;rw[z] at h;exact absurd (show false=true from h.1) (by decide)
theorem dM (h:∀x p,e≠.Starred x p):starEach (e::es) env=(false,PySem.eval e env)::starEach es env:=by
 rcases pD e es env with ⟨x,p,z⟩ | q
 ·exact absurd z (h x p)
 ·exact q
theorem k7:∀{es:List Expr},noStar es=true->(backTo pos (starEach es env)).any (·.1)=false
 | [],_=>rfl
 | e::es,h=>by
  obtain⟨h1,h2⟩:=fh h;rw[dM h1];show (false||(backTo pos (starEach es env)).any (·.1))=false;rw[k7 h2]; rfl
theorem nS:∀{es:List Expr},noStar es=true->(backTo pos (starEach es env)).all (fun x=>!x.1)=true
 | [],_=>rfl
 | e::es,h=>by
  obtain⟨h1,h2⟩:=fh h;rw[dM h1];show (!false&&(backTo pos (starEach es env)).all (fun x=>!x.1))=true;rw[nS h2]; rfl
theorem wx (hs:fG o=true)(ns:noStar args=true)(hl:args.length<30)(hp:ap.endLine=cp.line) :
  PySem.eval (.Call (.Attribute o m ap) args [] cp) env=(do
   let ov <-PySem.eval o env
   standAt ap.atName
   let (f,first) <-holding [ov] (getMethod ov m (do return (<-importBound o env).getD true))
   callWith cp f first (backTo cp (starEach args env)) (backToKw cp (keywordEach [] env))):=by
 show (do
  let ov <-attributeBase o m env (PySem.eval o env)
  standAt ap.atName
  methodCall o m ap cp env ov (args.length+0) (backTo cp (starEach args env)) (backToKw cp (keywordEach [] env)))=_
 rw[md hs];have few:methodCallForm (args.length+0) (backTo cp (starEach args env)) (backToKw cp (keywordEach [] env))=true:=by
  unfold methodCallForm;rw[nS ns];show (true&&true&&decide (args.length+0+0<30))=true;rw[decide_eq_true (by omega)]; rfl
 have hpos:methodCallPos true o env ap cp=pure cp:=by
  unfold methodCallPos;rw[if_pos (by rw[hp]; simp)]
 unfold methodCall;rw[few];unfold calleeOf;rw[hpos];rfl
noncomputable def rm (n:Nat):Nat:=3 * n+1
def FI (W:Wd)(G:Pg)(n:Nat)(P:Program)(w:World)(mg:Str->Option Value)(base:Heap)(k:Nat)(F:Fn)(a:Addr):Prop:=
 ∃(fd:FuncData) (ps:List Str),FnOk P w W.K mg base (dr P w) (rm n) a fd ps (gr W G n k F)/\∀m,m<=F.np->F.np - m<=F.dfl.length->∃(ds:List Value) (dvs:List V),Binds W.K fd ps ds/\Vals dvs ds/\∀S,Dens W S dvs (b9 F m)
noncomputable def bP:List (Str×Value):=[("len",.builtin "len"),("all",.builtin "all"),("any",.builtin "any"),("isinstance",.builtin "isinstance"),("list",.type "list"),("tuple",.type "tuple"),("range",.type "range"),("enumerate",.type "enumerate"),("zip",.type "zip"),("int",.type "int"),("sorted",.builtin "sorted"),("set",.type "set")]
structure GF (W:Wd)(G:Pg)(T:Tb)(n:Nat)(P:Program)(w:World)(mg:Str->Option Value)(base:Heap):Prop where
 cf:CF W T.fl
 att:W.att=T.att
 blt:∀x v,(x,v)∈bP->mg x=none/\bootBuiltins x=some v
 cst:∀x d,T.cst.lookup x=some d->(x == ("__debug__" : Str))=false/\∃u v,mg x=some u/\RelV v u/\d.flat=true/\∀S,Den W S v d
 fns:∀x k,T.fns.lookup x=some k->(x == ("__debug__" : Str))=false/\∃F a,G.fn k=some F/\mg x=some (.ref a)/\PySem.W.keepIn W.K (.ref a)=true/\FI W G n P w mg base k F a
 cls:∀x c,T.cls.lookup x=some c->(x == ("__debug__" : Str))=false/\∃C,mg x=some (.ref C)/\∀Cl' f F,G.cl c=some Cl'->Cl'.init=some f->G.fn f=some F ->
  ∃a,FI W G n P w mg base f F a/\if Cl'.isx=true then W.xA c=some C/\PySem.W.keepIn W.K (.ref C)=true/\∃tl,XC W.K C a tl else W.iA c=some C/\Mk W.K C a
 meth:∀c Cl' m f F,G.cl c=some Cl'->Cl'.meths.lookup m=some f->G.fn f=some F->∀nm,W.att[m]? = some nm->∃C a,W.iA c=some C/\Meth W.K C nm a/\FI W G n P w mg base f F a
 isB:∀x t,Ip.jM.lookup x=some t->mg x=none/\x ≠ "__name__" /\ (x == ("__debug__" : Str))=false/\∃nm,bootBuiltins x=some (.type nm)/\bJ W G t (.type nm)
 isC:∀x c,T.cls.lookup x=some c->∃C,mg x=some (.ref C)/\bJ W G (.cls c) (.ref C)
structure Gd (W:Wd)(G:Pg)(T:Tb)(n:Nat)(E:St->XK)(sc:Scope)(N:List Str)(X:Cx):Prop where
 gf:GF W G T n X.prog X.w X.mg X.base
 K:W.K=X.K
 vis:∀x,av sc x=true->nX X.env.scope x
 loc:∀x,aZ sc x=true->Loc X.env.scope x/\(X.fn x=true\/X.env.scope.names.lookup x=some .local)
 gl:∀x,aQ sc x=true->Gl X x
 fr:∀x,(sc.names.lookup x=some .cell\/sc.names.lookup x=some .free)->(X.env.scope.names.lookup x=some .cell\/X.env.scope.names.lookup x=some .free)
 nm:X.N=N
 nd:N.Nodup
 calm:X.calm=true
 pass:aS (dr X.prog X.w) X E
 room:Room (rm n+1) X.A
theorem Ay (h:scope.names.lookup x=some k):(relabel scope env).names.lookup x=some k\/(k=.free/\(relabel scope env).names.lookup x=some .cell):=by
 have go:∀(g:Str×NameKind->Str×NameKind),(∀p,g p=p\/(p.2=.free/\g p=(p.1,.cell)))->∀(names:List (Str×NameKind)),names.lookup x=some k->(names.map g).lookup x=some k\/(k=.free/\(names.map g).lookup x=some .cell):=by
  intro g hg names;induction names with
  | nil=>intro h; exact nomatch h
  | cons p r ih=>
   intro h;rw[List.map_cons];obtain⟨n,kn⟩:=p;rw[List.lookup_cons] at h;rcases hg (n,kn) with e | ⟨e1,e2⟩
   ·rw[e,List.lookup_cons];cases hx:x == n with
    | true=>rw[hx] at h; exact .inl h
    | false=>rw[hx] at h; exact ih h
   ·rw[e2,List.lookup_cons];cases hx:x == n with
    | true=>
     rw[hx] at h;have e1':kn=.free:=e1;exact .inr ⟨by rw[<-Option.some.inj h]; exact e1',rfl⟩
    | false=>rw[hx] at h; exact ih h
 refine go _ (fun p=>?_) scope.names h;obtain⟨n,k⟩:=p;by_cases hb:(k == NameKind.free&&env.scope.kind == .function&&env.kindOf n == some .cell)=true
 ·refine .inr ⟨?_,if_pos hb⟩;simp only[Bool.and_eq_true,beq_iff_eq] at hb;exact hb.1.1
 ·exact .inl (if_neg hb)
theorem Gd.block (g:Gd W G T n E sc N X)(hb:cC sc N (aw scope) (aP N scope) scope=true)(cl:List (Str×Addr))(C:Addr)(s:Shared)(H:Hp)(fp:List Addr) :
  Gd W G T n (fun _ _ _ _=>False) scope (aw scope) (aR X (aw scope) scope cl C s H fp fun _ _=>False):=by
 have S:=CompS.of (show compOk sc N (aw scope) (aP N scope) scope=true from hb);have look:∀x k,scope.names.lookup x=some k->(relabel scope X.env).names.lookup x=some k\/(k=.free/\(relabel scope X.env).names.lookup x=some .cell):=fun x k=>Ay;refine⟨g.gf,g.K,fun x h=>?_,fun x h=>?_,fun x h=>?_,fun x h=>?_,rfl,S.nd,g.calm,passN,g.room⟩
 ·unfold av at h;simp only[Bool.or_eq_true,beq_iff_eq] at h;rcases h with (h | h) | h
  ·rcases look x _ h with q | ⟨q,_⟩
   ·exact .inl q
   ·cases q
  ·rcases look x _ h with q | ⟨q,_⟩
   ·exact .inr (.inl q)
   ·cases q
  ·rcases look x _ h with q | ⟨_,q⟩
   ·exact .inr (.inr q)
   ·exact .inr (.inl q)
 ·unfold aZ at h;simp only[Bool.or_eq_true,beq_iff_eq] at h;rcases h with h | h
  ·rcases look x _ h with q | ⟨q,_⟩
   ·exact⟨.inl q,.inr q⟩
   ·cases q
  ·rcases look x _ h with q | ⟨q,_⟩
   ·exact⟨.inr q,.inl (by show (scope.names.lookup x == some NameKind.cell)=true; rw[h]; decide)⟩
   ·cases q
 ·unfold aQ at h;simp only[beq_iff_eq] at h;rcases look x _ h with q | ⟨q,_⟩
  ·exact q
  ·cases q
 ·rcases h with h | h
  ·rcases look x _ h with q | ⟨q,_⟩
   ·exact .inl q
   ·cases q
  ·rcases look x _ h with q | ⟨_,q⟩
   ·exact .inr q
   ·exact .inl q
theorem Gd.compOk (g:Gd W G T n E sc N X)(hb:cC sc N (aw scope) (aP N scope) scope=true) :
  L2.compOk X.env.scope X.N (aw scope) (aP N scope) scope=true:=by
 rw[g.nm];unfold cC at hb;unfold L2.compOk;simp only[Bool.and_eq_true,List.all_eq_true] at hb ⊢;obtain⟨⟨⟨⟨h1,h2⟩,h3⟩,h4⟩,h5⟩:=hb;refine⟨⟨⟨⟨h1,fun y hy=>?_⟩,h3⟩,h4⟩,h5⟩;obtain⟨⟨a1,a2⟩,a3⟩:=h2 y hy;refine⟨⟨a1,a2⟩,?_⟩;simp only[Bool.or_eq_true,bne_iff_ne,ne_eq,beq_iff_eq] at a3 ⊢;rcases a3 with a3 | a3
 ·exact .inl a3
 ·exact .inr (g.fr y.1 a3)
section
variable {X:Cx}{W:Wd}{G:Pg}{T:Tb}{n:Nat}{E:St->XK}{σ:St}{H:Hp}{sc:Scope}{N:List Str}
theorem sQ (d:D):(∃i,d=.int i)\/∀i,d≠.int i:=by
 cases d with
 | int i=>exact .inl ⟨i,rfl⟩
 | _=>exact .inr fun i z=>by cases z
theorem vB {cl:Nat->List KD->Ip.Run}{o:Op}{x y:Ex}{Q:VK}{lo hi:Int->Option Int}(ho:∀u v:KD,aU G o [u,v]=match v.2 with | .int i=>aW (lo i) (hi i) u.2 | _=>none)(h:aE W G cl (.op o [x,y]) E σ H Q) :
  aE W G cl x E σ H fun v H1=>aE W G cl y E σ H1 fun w H2=>∃i,w=.int i/\j7 W v (lo i) (hi i) H2 Q:=by
 obtain⟨N,a,hN,hS,h⟩:=h;refine gq hN hS (fun u eu v H1 fp hs nd hf ow hN1 hS1=>?_) (fun c fs ee=>?_) fun ee=>?_
 ·refine gq hN1 hS1 (fun u2 eu2 w H2 fq hs2 nd2 hf2 ow2 hN2 hS2=>?_) (fun c fs ee e H' r=>?_) fun ee=>?_
  ·simp only[cj,bB,bj,eu,eu2,Ip.R.bind,ho] at h;have dv:=ow.later hN hs2 hf fun _ y=>y;have dw:=ow2.later (hN.mono hs) (Sub.refl _) hf2 fun _ y=>.inl y;obtain⟨k2,d2⟩:=u2;rcases sQ d2 with ⟨i,rfl⟩ | ni
   ·simp only at h;cases q:aW (lo i) (hi i) u.2 with
    | none=>rw[q] at h; exact h.elim
    | some z=>
     rw[q] at h;exact⟨i,dw.int_inv,N,u.2,z,hN.mono (hs.trans hs2),dv,q,fun v H' r=>h v H' (r.trans (hs.trans hs2))⟩
   ·cases d2 <;> first | exact h.elim | exact absurd rfl (ni _)
  ·simp only[cj,bB,bj,eu,ee,Ip.R.bind] at h;exact h e H' (r.trans hs fun _ y=>.inl y)
  ·simp only[cj,bB,bj,eu,ee,Ip.R.bind] at h
 ·simp only[cj,bB,bj,ee,Ip.R.bind] at h;exact h
 ·simp only[cj,bB,bj,ee,Ip.R.bind] at h
theorem xt (h:aE W G cl (.sl2 x y z) E σ H Q) :
  aE W G cl x E σ H fun v H1=>aE W G cl y E σ H1 fun w H2=>∃i,w=.int i/\aE W G cl z E σ H2 fun u H3=>∃j,u=.int j/\j7 W v (some i) (some j) H3 Q:=by
 obtain⟨N,a,hN,hS,h⟩:=h;rw[Ip.qf] at h;refine gq hN hS (fun u eu v H1 fp hs nd hf ow hN1 hS1=>?_) (fun c fs ee=>?_) fun ee=>?_
 ·refine gq hN1 hS1 (fun u2 eu2 w H2 fq hs2 nd2 hf2 ow2 hN2 hS2=>?_) (fun c fs ee e H' r=>?_) fun ee=>?_
  ·have dw:=ow2.later (hN.mono hs) (Sub.refl _) hf2 fun _ y=>.inl y;obtain⟨k2,d2⟩:=u2;simp only[eu,eu2,Ip.R.bind] at h;rcases sQ d2 with ⟨i,rfl⟩ | ni
   ·refine⟨i,dw.int_inv,?_⟩;have hs3:=hs.trans hs2;simp only at h;refine gq (hN.mono hs3) (hS.grow hs3) (fun u3 eu3 w3 H3 fr hs4 nd4 hf4 ow4 hN4 hS4=>?_) (fun c fs ee e H' r=>?_) fun ee=>?_
    ·have dv:=ow.later hN (hs2.trans hs4) hf fun _ y=>y;have dz:=ow4.later (hN.mono hs3) (Sub.refl _) hf4 fun _ y=>y;obtain⟨k3,d3⟩:=u3;simp only[eu3] at h;rcases sQ d3 with ⟨j,rfl⟩ | nj
     ·simp only[Ip.kO] at h;cases q:aW (some i) (some j) u.2 with
      | none=>rw[q] at h; exact h.elim
      | some t=>
       rw[q] at h;exact⟨j,dz.int_inv,N,u.2,t,hN.mono (hs3.trans hs4),dv,q,fun v H' r=>h v H' (r.trans (hs3.trans hs4))⟩
     ·cases d3 <;> first | exact h.elim | exact absurd rfl (nj _)
    ·simp only[ee] at h;exact h e H' (r.of_sub hs3)
    ·simp only[ee] at h
   ·cases d2 <;> first | exact h.elim | exact absurd rfl (ni _)
  ·simp only[eu,ee,Ip.R.bind] at h;exact h e H' (r.trans hs fun _ y=>.inl y)
  ·simp only[eu,ee,Ip.R.bind] at h
 ·simp only[ee,Ip.R.bind] at h;exact h
 ·simp only[ee,Ip.R.bind] at h
theorem Dens.find (hx:Den W S x d)(sx:d.scal=true):∀{vs:List V} {ds:List D},Dens W S vs ds->ds.all D.scal=true->(vs.findIdx? fun z=>L2.eqV z x)=d.find ds
 | _,_,.nil,_=>rfl
 | _,_,.cons h q,hs=>by
  rw[List.all_cons,Bool.and_eq_true] at hs;have e:=q.find hx sx hs.2;unfold D.find at e ⊢;rw[List.findIdx?_cons,List.findIdx?_cons,h.eqV hx hs.1 sx,e]
theorem l8 {o:Op}{sel:D->Bool}{tp:Bool->String}{r:Bool->V->List V->Hp->VK->Prop}{cl:Nat->List KD->Ip.Run}{x y:Ex}{Q:VK}(nox:∀a c fs,Ip.eval G cl a y≠.exc c fs)
  (key:∀b u u2 z,aU G o [u,u2]=some z->sel u.2=b->∃j,z=(99,.int j)/\∀v H1 S1,Sub S1 H1->Den W S1 v u.2->tyV X.K (tp b) v H1/\∀H2 S2 w,Sub H1 H2->Sub S1 S2->Den W S2 w u2.2->∀Q:VK,Q (.int j) H2->r b v [w] H2 Q)
  (h:aE W G cl (.op o [x,y]) E σ H Q):gu X.K (tp true) (r true) (aE W G cl x E) (bh W G cl [y] E) σ H Q\/gu X.K (tp false) (r false) (aE W G cl x E) (bh W G cl [y] E) σ H Q:=by
 obtain⟨N,a,hN,hS,h⟩:=h;have main:∀b,(∀u,Ip.eval G cl a x=.ok u->sel u.2=b)->gu X.K (tp b) (r b) (aE W G cl x E) (bh W G cl [y] E) σ H Q:=fun b hb=>by
  unfold gu;refine gq hN hS (fun u eu v H1 fp hs nd hf ow hN1 hS1=>?_) (fun c fs ee=>?_) fun ee=>?_
  ·cases q:Ip.eval G cl a y with
   | bad=>simp only[cj,bB,bj,eu,q,Ip.R.bind] at h
   | exc c fs=>exact absurd q (nox a c fs)
   | ok u2=>
    simp only[cj,bB,bj,eu,q,Ip.R.bind] at h;cases hz:aU G o [u,u2] with
    | none=>rw[hz] at h; exact h.elim
    | some z=>
     rw[hz] at h;obtain⟨j,rfl,kk⟩:=key b u u2 z hz (hb u eu);obtain⟨k1,k2⟩:=kk v H1 (hid N H1) bm (ow.later hN (Sub.refl _) hf fun _ y=>y);refine⟨k1,kZ (hN.mono hs) (hS.grow hs) (fun zs ez vs H2 hs2 dz=>?_) (fun c fs ee=>?_) fun ee=>?_⟩
     ·simp only[bB,bj,q,Ip.R.bind] at ez;cases ez;obtain⟨w,rfl,dw⟩:=Dens.one dz;exact k2 H2 (hid N H2) w hs2 (jX hs2) dw Q (h _ _ (Res.trans (hs.trans hs2) Res.int))
     ·simp only[bB,bj,q,Ip.R.bind] at ee;cases ee
     ·simp only[bB,bj,q,Ip.R.bind] at ee;cases ee
  ·simp only[cj,bB,bj,ee,Ip.R.bind] at h;exact h
  ·simp only[cj,bB,bj,ee,Ip.R.bind] at h
 cases q:Ip.eval G cl a x with
 | ok u=>
  cases hs:sel u.2 with
  | true=>exact .inl (main true fun u' e=>by rw[q] at e; cases e; exact hs)
  | false=>exact .inr (main false fun u' e=>by rw[q] at e; cases e; exact hs)
 | bad=>exact .inl (main true fun u e=>by rw[q] at e; cases e)
 | exc c fs=>exact .inl (main true fun u e=>by rw[q] at e; cases e)
theorem AR {cl:Nat->List KD->Ip.Run}{x y:Ex}{Q:VK}(hK:W.K=X.K)(nox:∀a c fs,Ip.eval G cl a y≠.exc c fs)(h:aE W G cl (.op .index [x,y]) E σ H Q) :
  gu X.K "list" gU (aE W G cl x E) (bh W G cl [y] E) σ H Q\/gu X.K "tuple" (gO X.K) (aE W G cl x E) (bh W G cl [y] E) σ H Q:=by
 refine l8 (sel:=D.isL) (tp:=fun b=>cond b "list" "tuple") (r:=fun b=>cond b gU (gO X.K)) nox (fun b u u2 z hz hb=>?_) h;rw[Ip.GC] at hz;simp only[bi] at hz;obtain⟨k,d⟩:=u;rcases Ip.Bm hz with ⟨xs,e⟩ | ⟨xs,e⟩ <;> simp only at e <;> subst e <;> cases hb
 ·simp only[Ip.uu] at hz;by_cases hp:(u2.2.scal&&xs.all D.scal)=true
  rotate_left
  ·rw[if_neg hp] at hz; cases hz
  rw[if_pos hp] at hz;rw[Bool.and_eq_true] at hp;cases hj:u2.2.find xs with
  | none=>rw[hj] at hz; cases hz
  | some j=>
   rw[hj] at hz;cases hz;refine⟨j,rfl,fun v H1 S1 s1 dv=>?_⟩;cases dv with | @tup l ws _ h1 h2=>?_
   have sq:SqT X.K H1 l ws:=by rw[<-hK]; exact SqT.sub s1 h1
   refine⟨.inr (.inl ⟨rfl,ws,sq⟩),fun H2 S2 w s2 s3 dw Q q=>?_⟩;exact⟨l,ws,w,j,rfl,rfl,SqT.sub s2 sq,dw.flatV hp.1,(h2.mono s3).flatV hp.2,(Dens.find dw hp.1 (h2.mono s3) hp.2).trans hj,q⟩
 ·simp only[Ip.uM] at hz;by_cases hp:(u2.2.scal&&xs.all D.scal)=true
  rotate_left
  ·rw[if_neg hp] at hz; cases hz
  rw[if_pos hp] at hz;rw[Bool.and_eq_true] at hp;cases hj:u2.2.find xs with
  | none=>rw[hj] at hz; cases hz
  | some j=>
   rw[hj] at hz;cases hz;refine⟨j,rfl,fun v H1 S1 s1 dv=>?_⟩;cases dv with | @lst l ws _ h1 h2=>?_
   have sq:Rd H1 l (.lst ws):=Rd.sub s1 h1;refine⟨.inl ⟨rfl,ws,.inl sq⟩,fun H2 S2 w s2 s3 dw Q q=>?_⟩;exact⟨l,ws,w,j,rfl,rfl,Rd.sub s2 sq,dw.flatV hp.1,(h2.mono s3).flatV hp.2,(Dens.find dw hp.1 (h2.mono s3) hp.2).trans hj,q⟩
theorem Dens.count (hx:Den W S x d)(sx:d.scal=true):∀{vs:List V} {ds:List D},Dens W S vs ds->ds.all D.scal=true->(vs.countP fun z=>L2.eqV z x)=ds.countP fun z=>z.eq d
 | _,_,.nil,_=>rfl
 | _,_,.cons h q,hs=>by
  rw[List.all_cons,Bool.and_eq_true] at hs;rw[List.countP_cons,List.countP_cons,q.count hx sx hs.2,h.eqV hx hs.1 sx]
theorem Dd {cl:Nat->List KD->Ip.Run}{x y:Ex}{Q:VK}(nox:∀a c fs,Ip.eval G cl a y≠.exc c fs)(h:aE W G cl (.op .count [x,y]) E σ H Q):gu X.K "list" gP (aE W G cl x E) (bh W G cl [y] E) σ H Q:=by
 refine (l8 (sel:=D.isL) (tp:=fun _ => "list") (r:=fun _=>gP) nox (fun b u u2 z hz _=>?_) h).elim id id;rw[Ip.D9] at hz;simp only[bi] at hz;obtain⟨k,d⟩:=u;obtain⟨xs,e⟩:=Ip.Dm hz;simp only at e;subst e;simp only[Ip.B7] at hz;by_cases hp:(u2.2.scal&&xs.all D.scal)=true
 rotate_left
 ·rw[if_neg hp] at hz; cases hz
 rw[if_pos hp] at hz;rw[Bool.and_eq_true] at hp;cases hz;refine⟨_,rfl,fun v H1 S1 s1 dv=>?_⟩;cases dv with | @lst l ws _ h1 h2=>?_
 have sq:Rd H1 l (.lst ws):=Rd.sub s1 h1;refine⟨.inl ⟨rfl,ws,.inl sq⟩,fun H2 S2 w s2 s3 dw Q q=>?_⟩;rw[<-Dens.count dw hp.1 (h2.mono s3) hp.2] at q;exact⟨l,ws,w,rfl,rfl,Rd.sub s2 sq,dw.flatV hp.1,(h2.mono s3).flatV hp.2,q⟩
theorem ly (h:aE W G cl (.op o [x]) E σ H Q):og (fun vs=>rD W G o vs) (bh W G cl [x] E) σ H Q:=by
 obtain⟨N,a,hN,hS,h⟩:=h;rw[cj] at h;unfold og;refine kZ hN hS (fun xs ex vs H1 hs dv=>?_) (fun c fs ee=>?_) fun ee=>?_
 ·rw[ex] at h;simp only[Ip.R.bind] at h;cases q:aU G o xs with
  | none=>rw[q] at h; exact h.elim
  | some z=>
   rw[q] at h;exact⟨N,xs,z,hN.mono hs,dv,q,fun v H' r=>h v H' (r.trans hs)⟩
 ·rw[ee] at h; exact h
 ·rw[ee] at h; exact h
theorem qH (T:Tb)(sc:Scope)(N:List Str)(m:Nat)(x:Expr)(p:Pos):cE T sc N m (.Starred x p)=.bad:=by
 cases m <;> rfl
theorem tj:∀{l:List (Str×α)},l.lookup x=some v->(x,v)∈l
 | [],h=>nomatch h
 | (y,j)::r,h=>by
  rw[List.lookup_cons] at h;cases e:x == y with
  | true=>
   rw[e] at h;rw[beq_iff_eq] at e;cases h;rw[e];exact bM
  | false=>rw[e] at h; exact bD _ (tj h)
theorem vN (g:Gd W G T n E sc N X):∀{es:List Expr} {is:List Nat},(es.mapM fun (e:Expr)=>match e with
  | .Name x _=>if aZ sc x then pos? x N else none
  | _=>none)=some is->mf X es (kc is)/\(assignEach es X.env).length=is.length/\(assignEach es X.env).findIdx? (·.1)=none
 | [],is,h=>by
  cases h;exact⟨EA,rfl,rfl⟩
 | e::es,is,h=>by
  rw[List.mapM_cons] at h;cases e with
  | Name x p=>
   by_cases hl:aZ sc x=true
   ·simp only[hl,if_true] at h;cases q:pos? x N with
    | none=>rw[q] at h; cases h
    | some i=>
     rw[q] at h;cases q2:(es.mapM fun (e:Expr)=>match e with
       | .Name x _=>if aZ sc x then pos? x N else none
       | _=>none) with
     | none=>simp[q2] at h
     | some js=>
      simp[q2] at h;subst h;obtain⟨h1,h2,h3⟩:=vN g q2;obtain⟨l1,l2⟩:=g.loc x hl;have hi:X.N[i]? = some x:=by rw[g.nm]; exact pos?_get q
      refine⟨AO (rQ (by rw[g.nm]; exact g.nd) hi l1 l2) h1 rfl,?_,?_⟩
      ·show (assignEach es X.env).length+1=js.length+1;rw[h2]
      ·show List.findIdx? _ ((false,_)::assignEach es X.env)=none;rw[List.findIdx?_cons,h3];rfl
   ·simp only[hl] at h;cases h
  | _=>cases h
theorem pw (g:Gd W G T n E sc N X)(h:cm sc N tg=some t):PG X tg (gT X.K t):=by
 cases tg with
 | Name x p=>
  simp only[Ip.rh,Ip.sN] at h;by_cases hl:aZ sc x=true
  ·rw[if_pos hl] at h;obtain⟨i,q,rfl⟩:=cW h;obtain⟨l1,l2⟩:=g.loc x hl;exact rQ (by rw[g.nm]; exact g.nd) (by rw[g.nm]; exact pos?_get q) l1 l2
  ·rw[if_neg hl] at h; cases h
 | Tuple es k p=>
  simp only[Ip.rh,Ip.sN] at h;obtain⟨is,q,rfl⟩:=cW h;obtain⟨h1,h2,h3⟩:=vN g q;exact ye g.calm h1 h2 h3
 | _=>cases h
end
section
variable {W:Wd}{G:Pg}{T:Tb}{n:Nat}
structure IH (W:Wd)(G:Pg)(T:Tb)(n m:Nat):Prop where
 e:∀{E:St->XK} {sc:Scope} {N:List Str} {X:Cx},Gd W G T n E sc N X->∀x,PE X x (aE W G (Ip.run G n) (cE T sc N m x) E)
 t:∀{E:St->XK} {sc:Scope} {N:List Str} {X:Cx},Gd W G T n E sc N X->∀x,PT X x (bG W G (Ip.run G n) (cT T sc N m x) E)
 c:∀{E:St->XK} {sc:Scope} {N:List Str} {X:Cx},Gd W G T n E sc N X->∀a os bs p,PT X (.Compare a os bs p) (bG W G (Ip.run G n) (cE T sc N m (.Compare a os bs p)) E)
 i:∀{E:St->XK} {sc:Scope} {N:List Str} {X:Cx},Gd W G T n E sc N X->∀tg x,((cI T sc N m x).1=.enum\/(cI T sc N m x).1=.zip->∃es k p,tg=.Tuple es k p)->PI X tg x (gz W G (Ip.run G n) (cI T sc N m x).1 (cI T sc N m x).2 E)
 b:∀{E:St->XK} {sc:Scope} {N:List Str} {X:Cx},Gd W G T n E sc N X->∀f args p pos,aQ sc f=true->PE X (.Call (.Name f p) args [] pos) (aE W G (Ip.run G n) (cB T sc N m f args) E)
variable {m:Nat}{E:St->XK}{sc:Scope}{N:List Str}{X:Cx}
theorem IH.args (ih:IH W G T n m)(g:Gd W G T n E sc N X)(es:List Expr):PA X es (bh W G (Ip.run G n) (es.map (cE T sc N m)) E):=
 vG (fun e _=>ih.e g e) fun e _ x p h=>by rw[h]; exact qH T sc N m x p
theorem Gd.units (g:Gd W G T n E sc N X):X.A.units+64<cLine:=g.room.units
theorem ju:PI X tg x (gz W G (Ip.run G n) .seq [.bad] E):=fun pins s σ H R I ⟨_,_,_,_,q⟩=>by
 rw[bj,gp] at q;exact q.elim
theorem eS:PT X x (bG W G (Ip.run G n) .bad E):=fun pins s σ H R I ⟨_,_,_,_,q⟩=>by
 rw[gp] at q;exact q.elim
theorem F8 (g:Gd W G T n E sc N X)(x:Str)(p:Pos):PE X (.Name x p) (aE W G (Ip.run G n) (cE T sc N (m+1) (.Name x p)) E):=by
 rw[eh];by_cases h1:(av sc x&&Ip.aj x)=true
 ·rw[if_pos h1];rw[Bool.and_eq_true] at h1;unfold Ip.pv?;cases q:pos? x N with
  | none=>exact bn
  | some i=>
   have ok:=h1.2;unfold Ip.aj at ok;simp only[Bool.and_eq_true,Bool.not_eq_true'] at ok;exact zE (pz (by rw[g.nm]; exact pos?_get q) (g.vis x h1.1) ok.1 ok.2)
 ·rw[if_neg h1];by_cases h2:aQ sc x=true
  ·rw[if_pos h2];cases q:T.cst.lookup x with
   | none=>exact bn
   | some d=>
    obtain⟨hd,u,v,hm,r,hf,hv⟩:=g.gf.cst x d q;exact l7 hf hv (ui (g.gl x h2) hm r hd)
  ·rw[if_neg h2]; exact bn
theorem EU (c:Const)(k:Nat)(p:Pos):PE X (.Constant c k p) (aE W G (Ip.run G n) (cE T sc N (m+1) (.Constant c k p)) E):=by
 cases c with
 | none=>exact l7 rfl (fun _=>.non) AD
 | bool b=>exact l7 rfl (fun _=>.bl) yX
 | int i=>exact l7 rfl (fun _=>.int) AX
 | str s=>exact l7 rfl (fun _=>.str) BB
 | _=>exact bn
theorem Fh (ih:IH W G T n m)(g:Gd W G T n E sc N X)(a b:Expr)(o:Operator)(p:Pos):PE X (.BinOp a o b p) (aE W G (Ip.run G n) (cE T sc N (m+1) (.BinOp a o b p)) E):=by
 have ha:=ih.e g a;have hb:=ih.e g b;cases o with
 | Add=>exact (kr (FR g.K) ha hb).mono fun σ H Q=>hX fun _ _ _ _ h=>h
 | Sub=>exact (kr E6 ha hb).mono fun σ H Q=>hX fun _ _ _ _ h=>h
 | Mult=>exact (kr yB ha hb).mono fun σ H Q=>hX fun _ _ _ _ h=>h
 | FloorDiv=>exact (kr AZ ha hb).mono fun σ H Q=>hX fun _ _ _ _ h=>h
 | Mod=>exact (kr xH ha hb).mono fun σ H Q=>hX fun _ _ _ _ h=>h
 | Pow=>exact (kr FZ ha hb).mono fun σ H Q=>hX fun _ _ _ _ h=>h
 | RShift=>exact (kr Fj ha hb).mono fun σ H Q=>hX fun _ _ _ _ h=>h
 | _=>exact bn
theorem rX (ih:IH W G T n m)(g:Gd W G T n E sc N X)(a:Expr)(o:UnaryOp)(p:Pos):PE X (.UnaryOp o a p) (aE W G (Ip.run G n) (cE T sc N (m+1) (.UnaryOp o a p)) E):=by
 have ha:=ih.e g a;cases o with
 | Not=>exact (El ha).mono fun σ H Q=>kf yR
 | USub=>exact (Em Ck ha).mono fun σ H Q=>kf Bd
 | _=>exact bn
theorem xZ (ih:IH W G T n m)(g:Gd W G T n E sc N X)(o:BoolOp)(es:List Expr)(p:Pos):PE X (.BoolOp o es p) (aE W G (Ip.run G n) (cE T sc N (m+1) (.BoolOp o es p)) E):=by
 match es with
 | []=>exact bn
 | [a]=>exact Ai (ih.e g a)
 | a::b::es=>
  cases o with
  | And=>exact (Ds (ih.e g a) (ih.e g (.BoolOp .And (b::es) p))).mono fun σ H Q=>Cc
  | Or=>exact (Al (ih.e g a) (ih.e g (.BoolOp .Or (b::es) p))).mono fun σ H Q=>sJ
theorem uv (h:cn b=true):behindInMarks o b=false:=by
 cases b <;> first | rfl | cases h
theorem kR (g:Gd W G T n E sc N X)(h:gv o=some p):OpR X (compareOp o) (fun x y=>rD W G p [x,y]):=by
 cases o <;> (try cases h)
 ·exact pZ g.K g.units
 ·exact rC g.K g.units
 ·exact rp
 ·exact p7
 ·exact rV
 ·exact qy
 ·exact pR g.K
 ·exact Cb g.K
theorem uy (h:jw o=some p):gv o=some p/\o≠.In/\o≠.NotIn:=by
 cases o <;> (try cases h) <;> exact⟨rfl,by decide,by decide⟩
theorem wq (h:isNone b=true):∃k p,b=.Constant .none k p:=by
 cases b <;> try (cases h; done)
 rename_i c k p;cases c <;> first | exact⟨k,p,rfl⟩ | cases h
theorem uF (ih:IH W G T n m)(g:Gd W G T n E sc N X)(a:Expr)(os:List CmpOp)(bs:List Expr)(p:Pos) :
  PE X (.Compare a os bs p) (aE W G (Ip.run G n) (cE T sc N (m+1) (.Compare a os bs p)) E)/\PT X (.Compare a os bs p) (bG W G (Ip.run G n) (cE T sc N (m+1) (.Compare a os bs p)) E):=by
 have ha:=ih.e g a;match os,bs with
 | [o],[b]=>
  have hb:=ih.e g b;have rest:∀q,gv o=some q->PE X (.Compare a [o] [b] p) (aE W G (Ip.run G n) (if cn b then .op q [cE T sc N m a,cE T sc N m b] else .bad) E)/\PT X (.Compare a [o] [b] p) (bG W G (Ip.run G n) (if cn b then .op q [cE T sc N m a,cE T sc N m b] else .bad) E):=fun q hq=>by
   by_cases ns:cn b=true
   ·rw[if_pos ns];exact⟨(yJ (kR g hq) ha hb (uv ns)).mono fun σ H Q=>hX fun _ _ _ _ h=>h,(yj (kR g hq) ha hb (uv ns)).mono fun σ H Q h=>hX (fun _ _ _ _ h=>h) (mW h)⟩
   ·rw[if_neg ns]; exact⟨bn,eS⟩
  cases o with
  | Is=>
   simp only[eZ,eh,fe,eU,eO,eR,eM,eQ,eY,eJ,eL,eI,fc,eV];by_cases hn:isNone b=true
   ·rw[if_pos hn];obtain⟨k,p',rfl⟩:=wq hn;exact⟨(uV (uc ha)).mono fun σ H Q=>kf (r:=fun x H Q=>Q (.bl (decide (x=.non))) H) tG,(vW (uc ha)).mono fun σ H Q h=>kf (r:=fun x H Q=>Q (.bl (decide (x=.non))) H) tG (mW h)⟩
   ·rw[if_neg hn]; exact⟨bn,eS⟩
  | IsNot=>
   simp only[eZ,eh,fe,eU,eO,eR,eM,eQ,eY,eJ,eL,eI,fc,eV];by_cases hn:isNone b=true
   ·rw[if_pos hn];obtain⟨k,p',rfl⟩:=wq hn;exact⟨(uV (uk ha)).mono fun σ H Q=>kf (r:=fun x H Q=>Q (.bl (!decide (x=.non))) H) uE,(vW (uk ha)).mono fun σ H Q h=>kf (r:=fun x H Q=>Q (.bl (!decide (x=.non))) H) uE (mW h)⟩
   ·rw[if_neg hn]; exact⟨bn,eS⟩
  | Eq=>exact rest _ rfl
  | NotEq=>exact rest _ rfl
  | Lt=>exact rest _ rfl
  | LtE=>exact rest _ rfl
  | Gt=>exact rest _ rfl
  | GtE=>exact rest _ rfl
  | In=>exact rest _ rfl
  | NotIn=>exact rest _ rfl
 | [o,q],[b,c]=>
  have hb:=ih.e g b;have hc:=ih.e g c;simp only[eZ,eh,fe,eU,eO,eR,eM,eQ,eY,eJ,eL,eI,fc,eV];cases h1:jw o with
  | none=>exact⟨bn,eS⟩
  | some o'=>
   cases h2:jw q with
   | none=>exact⟨bn,eS⟩
   | some q'=>
    obtain⟨c1,_,_⟩:=uy h1;obtain⟨c2,n1,n2⟩:=uy h2;have hm:lastMarks [o,q] [b,c]=false:=kC c n1 n2;exact⟨(zO (kR g c1) (kR g c2) ha hb hc hm).mono fun σ H Q=>vC,(ya (kR g c1) (kR g c2) ha hb hc hm).mono fun σ H Q h=>vC (mW h)⟩
 | [],_=>exact⟨bn,eS⟩
 | [_],[]=>exact⟨bn,eS⟩
 | [_],_::_::_=>exact⟨bn,eS⟩
 | [_,_],[]=>exact⟨bn,eS⟩
 | [_,_],[_]=>exact⟨bn,eS⟩
 | [_,_],_::_::_::_=>exact⟨bn,eS⟩
 | _::_::_::_,_=>exact⟨bn,eS⟩
end
section
variable {W:Wd}{G:Pg}{T:Tb}{n:Nat}{m:Nat}{E:St->XK}{sc:Scope}{N:List Str}{X:Cx}
theorem sV (ih:IH W G T n m)(g:Gd W G T n E sc N X)(c a b:Expr)(p:Pos):PE X (.IfExp c a b p) (aE W G (Ip.run G n) (cE T sc N (m+1) (.IfExp c a b p)) E):=by
 simp only[eZ,eh,fe,eU,eO,eR,eM,eQ,eY,eJ,eL,eI,fc,eV];exact (AU (ih.t g c) (ih.e g a) (ih.e g b)).mono fun σ H Q=>Fi
theorem xv (ih:IH W G T n m)(g:Gd W G T n E sc N X)(es:List Expr)(p:Pos):PE X (.List es p) (aE W G (Ip.run G n) (cE T sc N (m+1) (.List es p)) E):=by
 simp only[eZ,eh,fe,eU,eO,eR,eM,eQ,eY,eJ,eL,eI,fc,eV];by_cases h:es.length<=1000
 ·rw[if_pos h]; exact sY (by rw[List.length_map]; exact h) (ih.args g es)
 ·rw[if_neg h]; exact bn
theorem Fp (ih:IH W G T n m)(g:Gd W G T n E sc N X)(es:List Expr)(k:Nat)(p:Pos):PE X (.Tuple es k p) (aE W G (Ip.run G n) (cE T sc N (m+1) (.Tuple es k p)) E):=by
 simp only[eZ,eh,fe,eU,eO,eR,eM,eQ,eY,eJ,eL,eI,fc,eV];by_cases h:es.length<=1000
 ·rw[if_pos h]; exact y4 (by rw[List.length_map]; exact h) (ih.args g es)
 ·rw[if_neg h]; exact bn
theorem B6 (ih:IH W G T n m)(g:Gd W G T n E sc N X)(o:Expr)(f:Str)(p:Pos):PE X (.Attribute o f p) (aE W G (Ip.run G n) (cE T sc N (m+1) (.Attribute o f p)) E):=by
 simp only[eZ,eh,fe,eU,eO,eR,eM,eQ,eY,eJ,eL,eI,fc,eV];cases q:pos? f T.att with
 | none=>exact bn
 | some k=>
  by_cases h:(T.fl.contains k&&fG o)=true
  ·simp only[h,if_true];rw[Bool.and_eq_true] at h;exact C3 g.K g.gf.cf (by simpa using h.1) (by rw[g.gf.att]; exact pos?_get q) (ih.e g o) (md h.2)
  ·simp only[h]; exact bn
theorem wN (h:∀a b c p,i≠.Slice a b c p):f9 i:=by
 intro o v;cases i <;> first | rfl | exact absurd rfl (h _ _ _ _)
theorem Fo (ih:IH W G T n m)(g:Gd W G T n E sc N X)(a i:Expr)(p:Pos):PE X (.Subscript a i p) (aE W G (Ip.run G n) (cE T sc N (m+1) (.Subscript a i p)) E):=by
 have ha:=ih.e g a;cases i with
 | Slice lo hi st q=>
  match lo,hi,st with
  | some l,none,none=>
   simp only[eZ,eh,fe,eU,eO,eR,eM,eQ,eY,eJ,eL,eI,fc,eV];exact (pW (sI g.K) ha (oN (ih.e g l)) wG).mono fun σ H Q h=>vB (lo:=fun i=>some i) (hi:=fun _=>none) (fun u v=>rfl) h
  | none,some l,none=>
   simp only[eZ,eh,fe,eU,eO,eR,eM,eQ,eY,eJ,eL,eI,fc,eV];exact (pW (sI g.K) ha wG (oN (ih.e g l))).mono fun σ H Q h=>vB (lo:=fun _=>none) (hi:=fun i=>some i) (fun u v=>rfl) h
  | some l,some h,none=>
   simp only[eZ,eh,fe,eU,eO,eR,eM,eQ,eY,eJ,eL,eI,fc,eV];exact (pW (sI g.K) ha (oN (ih.e g l)) (oN (ih.e g h))).mono fun σ H Q h=>xt h
  | none,none,none=>exact bn
  | none,none,some _=>exact bn
  | some _,none,some _=>exact bn
  | none,some _,some _=>exact bn
  | some _,some _,some _=>exact bn
 | _=>
  simp only[eZ,eh,fe,eU,eO,eR,eM,eQ,eY,eJ,eL,eI,fc,eV];exact (ux (p9 g.K) ha (ih.e g _) (wN fun _ _ _ _ z=>by cases z)).mono fun σ H Q=>hX fun _ _ _ _ h=>h
theorem sF (e:Expr):(∃a b c,e=.Set a b c)\/∀(env:Env) (x:Value),foldedSetIterable e env x=pure x:=by
 cases e <;> first | exact .inl ⟨_,_,_,rfl⟩ | exact .inr fun _ _=>rfl
theorem sk:(cI T sc N m (.Set a b c)).2=[.bad]:=by
 cases m with
 | zero=>rfl
 | succ m=>cases m <;> rfl
structure CompR (W:Wd)(G:Pg)(n:Nat)(E:St->XK)(X:Cx)(scope:Scope)(N:List Str)(tg iter elt:Expr)(ifs:List Expr)(t:Tg)(wk:Wk)(it ts:List Ex)(x:Ex):Prop where
 hS:compOk X.env.scope X.N (aw scope) (aP N scope) scope=true
 hi:PI X tg iter (gz W G (Ip.run G n) wk it E)
 hg:∀cl C s H fp,PG (aR X (aw scope) scope cl C s H fp fun _ _=>False) tg (gT X.K t)
 ht:∀cl C s H fp,PTs (aR X (aw scope) scope cl C s H fp fun _ _=>False) ifs (qK W G (Ip.run G n) ts)
 he:∀cl C s H fp,PE (aR X (aw scope) scope cl C s H fp fun _ _=>False) elt (aE W G (Ip.run G n) x fun _ _ _ _=>False)
 hx:∀i∈cG t,(aP N scope)[i]? = some none
theorem uO (h1:cm sc N tg=some t)(h2:dG wk t=true):wk=.enum\/wk=.zip->∃es k p,tg=.Tuple es k p:=by
 intro hw;cases tg with
 | Name x p=>
  simp only[Ip.rh,Ip.sN] at h1;by_cases hl:aZ sc x=true
  ·rw[if_pos hl] at h1;obtain⟨i,_,rfl⟩:=cW h1;rcases hw with rfl | rfl <;> cases h2
  ·rw[if_neg hl] at h1; cases h1
 | Tuple es k p=>exact⟨es,k,p,rfl⟩
 | _=>cases h1
theorem v7 (ih:IH W G T n m)(g:Gd W G T n E sc N X)(hb:cC sc N (aw scope) (aP N scope) scope=true)(hl:ifs.length<=1)(ht:cm scope (aw scope) tg=some t)
  (hw:dG (cI T sc N m iter).1 t=true)(hx:(cG t).all (fun i=>(aP N scope)[i]? == some none)=true) :
  CompR W G n E X scope N tg iter e ifs t (cI T sc N m iter).1 (cI T sc N m iter).2 (ifs.map (cT T scope (aw scope) m)) (cE T scope (aw scope) m e):=by
 refine⟨g.compOk hb,ih.i g tg iter (uO ht hw),fun cl C s H fp=>?_,fun cl C s H fp=>?_,fun cl C s H fp=>ih.e (g.block hb cl C s H fp) e,fun i hi=>?_⟩
 ·exact pw (g.block hb cl C s H fp) ht
 ·match ifs,hl with
  | [],_=>exact Ak
  | [c],_=>exact B8 (ih.t (g.block hb cl C s H fp) c)
 ·have:=dF hx i hi;simpa using this
theorem D6 (ih:IH W G T n m)(g:Gd W G T n E sc N X)(e:Expr)(gs:List Comprehension)(scope:Scope)(p:Pos):PE X (.ListComp e gs scope p) (aE W G (Ip.run G n) (cE T sc N (m+1) (.ListComp e gs scope p)) E):=by
 match gs with
 | []=>exact bn
 | ⟨_,_,_,_⟩::_::_=>exact bn
 | [⟨tg,iter,ifs,as⟩]=>
  simp only[eZ,eh,fe,eU,eO,eR,eM,eQ,eY,eJ,eL,eI,fc,eV];by_cases h:(cC sc N (aw scope) (aP N scope) scope&&as == 0&&decide (ifs.length<=1))=true
  rotate_left
  ·rw[if_neg h]; exact bn
  rw[if_pos h];simp only[Bool.and_eq_true,beq_iff_eq,decide_eq_true_eq] at h;obtain⟨⟨hb,has⟩,hl⟩:=h;subst has;cases ht:cm scope (aw scope) tg with
  | none=>exact bn
  | some t=>
   by_cases h2:(dG (cI T sc N m iter).1 t&&(cG t).all (fun i=>(aP N scope)[i]? == some none))=true
   rotate_left
   ·simp only[h2]; exact bn
   simp only[h2,if_true];rw[Bool.and_eq_true] at h2;rcases sF iter with ⟨a,b,c,rfl⟩ | hs
   ·rintro pins s σ H Q I ⟨_,_,_,_,q⟩;rw[kT,sk,bj,gp] at q;exact q.elim
   ·have cp:=v7 (e:=e) ih g hb hl ht h2.1 h2.2;exact (FO g.calm cp.hS cp.hi cp.hg cp.ht cp.he (hs X.env)).mono fun σ H Q=>ud g.K cp.hx
theorem EL (ih:IH W G T n m)(g:Gd W G T n E sc N X)(e:Expr):PT X e (bG W G (Ip.run G n) (cT T sc N (m+1) e) E):=by
 cases e with
 | BoolOp o es p=>
  match es with
  | []=>exact eS
  | [a]=>
   cases o with
   | And=>exact (EI (ih.t g a)).pt
   | Or=>exact (C7 (ih.t g a)).pt
  | a::b::es=>
   have hb:∀o,PW X (.BoolOp o (b::es) p) (bG W G (Ip.run G n) (cT T sc N m (.BoolOp o (b::es) p)) E):=fun o whole=>ih.t g (.BoolOp o (b::es) p);cases o with
   | And=>exact (C0 (ih.t g a) (hb .And)).pt.mono fun σ H Q=>Aa
   | Or=>exact (ED (ih.t g a) (hb .Or)).pt.mono fun σ H Q=>xx
 | UnaryOp o a p=>
  cases o with
  | Not=>exact (Ao (ih.t g a)).mono fun σ H Q=>D2
  | _=>exact wL (ih.e g _) fun _=>rfl
 | IfExp c a b p=>exact eS
 | Compare a os bs p=>exact ih.c g a os bs p
 | _=>exact wL (ih.e g _) fun _=>rfl
end
section
variable {W:Wd}{G:Pg}{T:Tb}{n:Nat}{m:Nat}{E:St->XK}{sc:Scope}{N:List Str}{X:Cx}
theorem GY (ih:IH W G T n m)(g:Gd W G T n E sc N X)(f:Str)(args:List Expr)(p pos:Pos)(k:Nat)(hg:aQ sc f=true)(hk:T.fns.lookup f=some k)(ns:noStar args=true):PE X (.Call (.Name f p) args [] pos) (aE W G (Ip.run G n) (.call k (args.map (cE T sc N m))) E):=by
 obtain⟨hdb,F,a,hF,hm,kp,fd,ps,fo,bd⟩:=g.gf.fns f k hk;cases q:cZ G k args.length with
 | none=>
  rintro pins s σ H Q I ⟨_,_,_,_,h⟩;rw[kK,List.length_map,q] at h;exact h.elim
 | some F'=>
  obtain⟨e1,hio,h1,h2⟩:=tV q;rw[hF] at e1;cases e1;obtain⟨ds,dvs,hb,hv,hd⟩:=bd args.length h1 h2;have fo':FnOk X.prog X.w X.K X.mg X.base (dr X.prog X.w) (rm n) a fd ps (gr W G n k F):=g.K ▸ fo;have rm1:=g.room.mono (Nat.le_succ (rm n));have q':cZ G k (args.map (cE T sc N m)).length=some F:=by rw[List.length_map]; exact q
  have hd':∀S,Dens W S dvs (b9 F (args.map (cE T sc N m)).length):=by rw[List.length_map]; exact hd
  match args,ns,q',hd' with
  | [],_,q',hd'=>exact (y6 fo' rm1 (g.gl f hg) hm (g.K ▸ kp) (g.K ▸ hb) hv g.pass hdb).mono fun σ H Q h=>mT (u0 (es:=[]) q' hd' h)
  | e::es,ns,q',hd'=>
   obtain⟨s1,s2⟩:=fh ns;exact (EE fo' rm1 (g.gl f hg) hm (g.K ▸ kp) (g.K ▸ hb) hv g.pass (ih.args g (e::es)) hdb (dM s1) (k7 s2)).mono fun σ H Q=>u0 q' hd'
theorem uW (ih:IH W G T n m)(g:Gd W G T n E sc N X)(f:Str)(args:List Expr)(p pos:Pos)(c:Nat)(hg:aQ sc f=true)(hk:T.cls.lookup f=some c)(ns:noStar args=true):PE X (.Call (.Name f p) args [] pos) (aE W G (Ip.run G n) (.make c (args.map (cE T sc N m))) E):=by
 obtain⟨hdb,C,hm,hc⟩:=g.gf.cls f c hk;cases q:aY G c args.length with
 | none=>
  rintro pins s σ H Q I ⟨_,_,_,_,h⟩;rw[lx,List.length_map,q] at h;exact h.elim
 | some t=>
  obtain⟨fi,F,d⟩:=t;obtain⟨Cl',k1,k2,k3,k4,hio,h1,h2,h50⟩:=rc q;obtain⟨a,⟨fd,ps,fo,bd⟩,hx⟩:=hc Cl' fi F k1 k2 k3;obtain⟨ds,dvs,hb,hv,hd⟩:=bd (args.length+1) h1 h2;have fo':FnOk X.prog X.w X.K X.mg X.base (dr X.prog X.w) (rm n) a fd ps (gr W G n fi F):=g.K ▸ fo;have hd':∀S,Dens W S dvs (b9 F ((args.map (cE T sc N m)).length+1)):=by rw[List.length_map]; exact hd
  by_cases hxx:Cl'.isx=true
  ·rw[if_pos hxx] at hx k4;obtain⟨xA,kp,tl,xc⟩:=hx;subst k4;have q':aY G c (args.map (cE T sc N m)).length=some (fi,F,.exc c []):=by rw[List.length_map]; exact q
   have xc':XC X.K C a tl:=g.K ▸ xc;match args,ns,q',hd' with
   | [],_,q',hd'=>exact (Dg xc' (g.K ▸ kp) fo' g.room (g.gl f hg) hm (g.K ▸ hb) hv g.pass hdb).mono fun σ H Q h=>mT (tT (es:=[]) xA q' hd' h)
   | e::es,ns,q',hd'=>
    obtain⟨s1,s2⟩:=fh ns;exact (Ag xc' (g.K ▸ kp) fo' g.room (g.gl f hg) hm (g.K ▸ hb) hv g.pass (ih.args g (e::es)) hdb (dM s1) (k7 s2)).mono fun σ H Q=>tT xA q' hd'
  ·rw[if_neg hxx] at hx k4;obtain⟨iA,mk⟩:=hx;subst k4;have q':aY G c (args.map (cE T sc N m)).length=some (fi,F,.ins c []):=by rw[List.length_map]; exact q
   have mk':Mk X.K C a:=g.K ▸ mk;match args,ns,q',hd' with
   | [],_,q',hd'=>exact (Dr mk' fo' g.room (g.gl f hg) hm (g.K ▸ hb) hv g.pass hdb).mono fun σ H Q h=>mT (tu (es:=[]) iA q' hd' h)
   | e::es,ns,q',hd'=>
    obtain⟨s1,s2⟩:=fh ns;exact (BA mk' fo' g.room (g.gl f hg) hm (g.K ▸ hb) hv g.pass (ih.args g (e::es)) hdb (dM s1) (k7 s2)).mono fun σ H Q=>tu iA q' hd'
theorem CB (ih:IH W G T n m)(g:Gd W G T n E sc N X)(o:Expr)(f:Str)(args:List Expr)(ap pos:Pos)(k:Nat)(hk:pos? f T.att=some k)(hs:fG o=true)(ns:noStar args=true)(hl:args.length<30)(hp:ap.endLine=pos.line) :
  PE X (.Call (.Attribute o f ap) args [] pos) (aE W G (Ip.run G n) (.meth k (cE T sc N m o) (args.map (cE T sc N m))) E):=by
 rintro pins s σ H Q I ⟨N0,a,hN,hS,h⟩;have ho:=ih.e g o;have arm:=wx (m:=f) (env:=X.env) hs ns hl hp;have hatt:W.att[k]? = some f:=by rw[g.gf.att]; exact pos?_get hk
 cases q:Ip.eval G (Ip.run G n) a (cE T sc N m o) with
 | bad=>rw[kH,q] at h; exact h.elim
 | exc c fs=>
  rw[kH,q] at h;refine PySem.W.methodCall_KW (pl:=_) (aH (ho pins s σ H (fun _ _=>False) I ⟨N0,a,hN,hS,by rw[q]; exact h⟩) fun u s1 ⟨_,_,_,_,z⟩=>z.elim) arm
 | ok x=>
  obtain⟨kx,d⟩:=x;cases q2:bC G k args.length d with
  | none=>
   rw[kH,q] at h;simp only[Ip.R.bind,List.length_map,q2] at h
  | some t=>
   obtain⟨fi,F⟩:=t;obtain⟨c,fs,Cl',rfl,k1,k2,k3,hio,hfl,h1,h2⟩:=uA q2;obtain⟨C,ad,hC,hme,fd,ps,fo,bd⟩:=g.gf.meth c Cl' k fi F k1 k2 k3 f hatt;obtain⟨ds,dvs,hb,hv,hd⟩:=bd (args.length+1) h1 h2;have fo':FnOk X.prog X.w X.K X.mg X.base (dr X.prog X.w) (rm n) ad fd ps (gr W G n fi F):=g.K ▸ fo;have rm1:=g.room.mono (Nat.le_succ (rm n));have cls:Cls X.K C:=g.K ▸ (g.gf.cf.ins c C hC).1.cls;have q3:bC G k (args.map (cE T sc N m)).length (.ins c fs)=some (fi,F):=by rw[List.length_map]; exact q2
   have hd':∀S,Dens W S dvs (b9 F ((args.map (cE T sc N m)).length+1)):=by rw[List.length_map]; exact hd
   have key:=zz (E:=E) (Q:=Q) g.gf.cf.nd hatt hC hd' hN hS q q3 h;match args,ns,arm,key with
   | [],_,arm,key=>exact Dl ho cls (g.K ▸ hme) fo' rm1 (g.K ▸ hb) hv g.pass arm pins s σ H Q I (by
     unfold eD at key ⊢;refine evT_mono key fun x H1 ⟨a,dx,fs,e1,e2,e3,e4⟩=>⟨a,dx,fs,e1,e2,e3,mT e4⟩)
   | e::es,ns,arm,key=>
    obtain⟨s1,s2⟩:=fh ns;exact xw ho cls (g.K ▸ hme) fo' rm1 (g.K ▸ hb) hv g.pass (ih.args g (e::es)) (dM s1) (k7 s2) arm pins s σ H Q I key
where
 evT_mono {ir:Ex} {cl:Nat->List KD->Ip.Run} {E:St->XK} {σ:St} {H:Hp} {Q Q':VK} (h:aE W G cl ir E σ H Q) (k:∀v H,Q v H->Q' v H):aE W G cl ir E σ H Q':=by
  obtain⟨N,a,hN,hS,h⟩:=h;refine⟨N,a,hN,hS,?_⟩;cases q:Ip.eval G cl a ir with
  | bad=>rw[q] at h; exact h
  | exc c fs=>rw[q] at h; exact h
  | ok x=>rw[q] at h; exact fun v H' r=>k v H' (h v H' r)
theorem u7 (h:gk e=true):∀a c fs,Ip.eval G cl a e≠.exc c fs:=fun a c fs=>by
 cases e with
 | var i=>
  rw[iT];split <;> exact fun z=>nomatch z
 | cst d=>rw[kY]; exact fun z=>nomatch z
 | _=>cases h
theorem kD (ns:noStar [e]=true):((backTo cp (starEach [e] env)).all (fun x=>!x.1)&&(backToKw cp (keywordEach [] env)).all (fun x=>x.1.isSome)
   && decide ([e].length+([]:List Keyword).length+(if ([]:List Keyword).isEmpty then 0 else 1)<30))=true:=by
 rw[nS ns]; rfl
theorem rN (ih:IH W G T n m)(g:Gd W G T n E sc N X)(o a:Expr)(f:Str)(ap pos:Pos)(q:Op)(hq:lm f=some q)(nx:gk (cE T sc N m a)=true)(hs:fG o=true)(ns:noStar [a]=true)(hp:ap.endLine=pos.line) :
  PE X (.Call (.Attribute o f ap) [a] [] pos) (aE W G (Ip.run G n) (.op q [cE T sc N m o,cE T sc N m a]) E):=by
 obtain⟨s1,s2⟩:=fh ns;have ln:(ap.endLine == pos.line)=true:=by rw[hp]; exact beq_self_eq_true _
 unfold lm at hq;by_cases h1:(f == ("index" : Str))=true
 ·rw[if_pos h1] at hq;cases hq;obtain rfl:f = "index":=by simpa using h1
  exact ((lw (T := "list") (id := "list.index") PySem.F.plainAttrs_list PySem.F.slot_list_index PySem.F.type_list_index A3 (ih.e g o) (ih.args g [a]) (md hs) (kD ns) ln (dM s1) rfl).or
   (lw (T := "tuple") (id := "tuple.index") PySem.F.plainAttrs_tuple PySem.F.slot_tuple_index PySem.F.type_tuple_index CM (ih.e g o) (ih.args g [a]) (md hs) (kD ns) ln (dM s1) rfl)).mono fun σ H Q h=>AR g.K (u7 nx) h
 ·rw[if_neg h1] at hq;by_cases h2:(f == ("count" : Str))=true
  ·rw[if_pos h2] at hq;cases hq;obtain rfl:f = "count":=by simpa using h2
   exact (lw (T := "list") (id := "list.count") PySem.F.plainAttrs_list PySem.F.slot_list_count PySem.F.type_list_count yA (ih.e g o) (ih.args g [a]) (md hs) (kD ns) ln (dM s1) rfl).mono fun σ H Q h=>Dd (u7 nx) h
  ·rw[if_neg h2] at hq; cases hq
theorem Gd.bl (g:Gd W G T n E sc N X)(h:(x,v)∈bP):X.mg x=none/\bootBuiltins x=some v:=g.gf.blt x v h
theorem Ar (ih:IH W G T n m)(g:Gd W G T n E sc N X)(a:Expr):((∃x p,a=.Starred x p)/\cE T sc N m a=.bad)\/(PA X [a] (bh W G (Ip.run G n) [cE T sc N m a] E)/\starEach [a] X.env=(false,PySem.eval a X.env)::starEach [] X.env):=by
 rcases pD a [] X.env with ⟨x,p,rfl⟩ | h
 ·exact .inl ⟨⟨x,p,rfl⟩,qH T sc N m x p⟩
 ·exact .inr ⟨ih.args g [a],h⟩
theorem uX:PE X x (aE W G (Ip.run G n) (.op o (.bad::es)) E):=fun pins s σ H Q I ⟨_,_,_,_,h⟩=>by
 rw[cj,bj,gp] at h;exact h.elim
theorem wu (g:Gd W G T n E sc N X)(q:dZ T sc b=some t):∃c cv,PE X b (tC c)/\valOf c=some cv/\bJ W G t cv:=by
 cases b with
 | Name x bp=>
  simp only[dZ] at q;by_cases hgx:aQ sc x=true
  ·rw[if_pos hgx] at q;cases q2:T.cls.lookup x with
   | some c=>
    rw[q2] at q;cases q;obtain⟨hdb,_⟩:=g.gf.cls x c q2;obtain⟨C,hm,hi⟩:=g.gf.isC x c q2;exact⟨.ref C,.ref C,ui (g.gl x hgx) hm rfl hdb,rfl,hi⟩
   | none=>
    rw[q2] at q;obtain⟨hm,hn,hdb,nm,hb,hi⟩:=g.gf.isB x t q;exact⟨.ty nm,.type nm,Az (g.gl x hgx) hm hb rfl hn hdb,rfl,hi⟩
  ·rw[if_neg hgx] at q; cases q
 | _=>cases q
theorem wC (g:Gd W G T n E sc N X):∀{es:List Expr} {ts:List Ip.Ty},es.mapM (dZ T sc)=some ts->∃cs cvs,Isis X W G es ts cs cvs
 | [],ts,h=>by cases h; exact⟨[],[],.nil⟩
 | e::es,ts,h=>by
  rw[List.mapM_cons] at h;cases q:dZ T sc e with
  | none=>rw[q] at h; cases h
  | some t=>
   rw[q] at h;cases q2:es.mapM (dZ T sc) with
   | none=>simp[q2] at h
   | some ts'=>
    simp[q2] at h;subst h;obtain⟨cs,cvs,r⟩:=wC g q2;obtain⟨c,cv,he,hc,hi⟩:=wu g q;refine⟨c::cs,cv::cvs,.cons he (fun es=>?_) hc hi r⟩;cases e with
    | Name x p=>rfl
    | _=>cases q
theorem DI (ih:IH W G T n m)(g:Gd W G T n E sc N X)(f:Str)(args:List Expr)(p pos:Pos)(hg:aQ sc f=true):PE X (.Call (.Name f p) args [] pos) (aE W G (Ip.run G n) (cB T sc N (m+1) f args) E):=by
 match args with
 | []=>exact bn
 | _::_::_::_=>exact bn
 | [a]=>
  simp only[Ip.wR];cases qi:Ip.mZ sc f a with
  | some b=>
   dsimp only;obtain⟨p1,p2,rfl,hg',ns,rfl⟩:=Ip.DH qi;obtain⟨s1,_⟩:=fh ns;obtain⟨h1,h2⟩:=g.bl (x := "sorted") (v:=.builtin "sorted") (by simp[bP]);obtain⟨h3,h4⟩:=g.bl (x := "set") (v:=.type "set") (by simp[bP]);exact (zG g.calm (ih.e g b) (g.gl _ hg) h1 h2 (g.gl _ hg') h3 h4 rfl (dM s1)).mono fun σ H Q h=>kf (CJ g.K) h
  | none=>
  dsimp only;cases q:mE.lookup f with
  | none=>exact bn
  | some o=>
   rcases Ar ih g a with ⟨_,hb⟩ | ⟨pa,hs⟩
   ·simp only[hb]; exact uX
   have hmem:=tj q;simp only[mE,List.mem_cons,List.not_mem_nil,or_false,Prod.mk.injEq] at hmem;rcases hmem with ⟨rfl,rfl⟩ | ⟨rfl,rfl⟩ | ⟨rfl,rfl⟩ | ⟨rfl,rfl⟩ | ⟨rfl,rfl⟩ | ⟨rfl,rfl⟩
   ·obtain⟨h1,h2⟩:=g.bl (x := "len") (v:=.builtin "len") (by simp[bP]);exact (lZ (Bo g.K) (g.gl _ hg) h1 h2 pa (by decide) (by decide) hs rfl).mono fun σ H Q=>ly
   ·obtain⟨h1,h2⟩:=g.bl (x := "list") (v:=.type "list") (by simp[bP]);exact (rz (AS g.K) (g.gl _ hg) h1 h2 pa (by decide) (by decide) hs rfl).mono fun σ H Q=>ly
   ·obtain⟨h1,h2⟩:=g.bl (x := "tuple") (v:=.type "tuple") (by simp[bP]);exact (rz (FY g.K) (g.gl _ hg) h1 h2 pa (by decide) (by decide) hs rfl).mono fun σ H Q=>ly
   ·obtain⟨h1,h2⟩:=g.bl (x := "all") (v:=.builtin "all") (by simp[bP]);exact (lZ (AN g.calm) (g.gl _ hg) h1 h2 pa (by decide) (by decide) hs rfl).mono fun σ H Q=>ly
   ·obtain⟨h1,h2⟩:=g.bl (x := "any") (v:=.builtin "any") (by simp[bP]);exact (lZ (A5 g.calm) (g.gl _ hg) h1 h2 pa (by decide) (by decide) hs rfl).mono fun σ H Q=>ly
   ·obtain⟨h1,h2⟩:=g.bl (x := "int") (v:=.type "int") (by simp[bP]);exact (rz B9 (g.gl _ hg) h1 h2 pa (by decide) (by decide) hs rfl).mono fun σ H Q=>ly
 | [a,b]=>
  simp only[Ip.wR];by_cases hf:(f == ("isinstance" : Str))=true
  rotate_left
  ·rw[if_neg hf]; exact bn
  rw[if_pos hf];have hf':f = "isinstance":=by simpa using hf
  subst hf';cases q:du T sc b with
  | none=>exact bn
  | some ts=>
   rcases pD a [b] X.env with ⟨x,p',rfl⟩ | hs1
   ·simp only[qH]; exact uX
   obtain⟨h1,h2⟩:=g.bl (x := "isinstance") (v:=.builtin "isinstance") (by simp[bP]);cases b with
   | Name x bp=>
    simp only[du] at q;obtain⟨t,q',rfl⟩:=cW q;obtain⟨c,cv,he,hc,hi⟩:=wu g q';exact E2 g.K g.gf.cf hc hi (g.gl _ hg) h1 h2 (ih.e g a) he hs1 rfl
   | Tuple es k tp=>
    simp only[du] at q;by_cases hl:es.length<=1000
    ·rw[if_pos hl] at q;obtain⟨cs,cvs,hi⟩:=wC g q;exact BW g.K g.gf.cf hl hi (g.gl _ hg) h1 h2 (ih.e g a) hs1 rfl
    ·rw[if_neg hl] at q; cases q
   | _=>simp[du,dZ] at q
theorem zc (ih:IH W G T n m)(g:Gd W G T n E sc N X)(tg x:Expr)(ht:(cI T sc N (m+1) x).1=.enum\/(cI T sc N (m+1) x).1=.zip->∃es k p,tg=.Tuple es k p):PI X tg x (gz W G (Ip.run G n) (cI T sc N (m+1) x).1 (cI T sc N (m+1) x).2 E):=by
 have gen:∀y,PI X tg y (gz W G (Ip.run G n) .seq [cE T sc N m y] E):=fun y=>zo g.K (ih.e g y);cases x with
 | Call f args kws q=>
  cases f with
  | Name f p=>
   cases kws with
   | cons _ _=>exact gen _
   | nil=>
    simp only[Ip.DE] at ht ⊢;by_cases h1:(aQ sc f&&f == ("range" : Str)&&noStar args)=true
    ·rw[if_pos h1];simp only[Bool.and_eq_true,beq_iff_eq] at h1;obtain⟨⟨hg,rfl⟩,ns⟩:=h1;have hm:=(g.bl (x := "range") (v:=.type "range") (by simp[bP])).1;match args,ns with
     | [a],ns=>
      obtain⟨s1,_⟩:=fh ns;exact BL (g.gl _ hg) hm (ih.args g [a]) (dM s1)
     | [],_=>exact ju
     | _::_::_,_=>exact ju
    rw[if_neg h1] at ht ⊢;by_cases h2:(aQ sc f&&f == ("enumerate" : Str)&&noStar args)=true
    ·rw[if_pos h2] at ht ⊢;simp only[Bool.and_eq_true,beq_iff_eq] at h2;obtain⟨⟨hg,rfl⟩,ns⟩:=h2;obtain⟨hm,hv⟩:=g.bl (x := "enumerate") (v:=.type "enumerate") (by simp[bP]);match args,ns,ht with
     | [a],ns,ht=>
      obtain⟨s1,_⟩:=fh ns;obtain⟨es,k,p',rfl⟩:=ht (.inl rfl);exact Bp g.K (g.gl _ hg) hm hv (ih.args g [a]) (dM s1)
     | [],_,_=>exact ju
     | _::_::_,_,_=>exact ju
    rw[if_neg h2] at ht ⊢;by_cases h3:(aQ sc f&&f == ("zip" : Str)&&noStar args)=true
    ·rw[if_pos h3] at ht ⊢;simp only[Bool.and_eq_true,beq_iff_eq] at h3;obtain⟨⟨hg,rfl⟩,ns⟩:=h3;obtain⟨hm,hv⟩:=g.bl (x := "zip") (v:=.type "zip") (by simp[bP]);match args,ns,ht with
     | [a,b],ns,ht=>
      obtain⟨s1,s2⟩:=fh ns;obtain⟨s3,_⟩:=fh s2;obtain⟨es,k,p',rfl⟩:=ht (.inr rfl);exact CH g.K (g.gl _ hg) hm hv (ih.args g [a,b]) (by rw[dM s1,dM s3]; rfl) (dM s3)
     | [],_,_=>exact ju
     | [_],_,_=>exact ju
     | _::_::_::_,_,_=>exact ju
    rw[if_neg h3] at ht ⊢;exact gen _
  | _=>exact gen _
 | _=>exact gen _
theorem EN (ih:IH W G T n m)(g:Gd W G T n E sc N X)(f:Expr)(args:List Expr)(kws:List Keyword)(p:Pos):PE X (.Call f args kws p) (aE W G (Ip.run G n) (cE T sc N (m+1) (.Call f args kws p)) E):=by
 cases kws with
 | cons _ _=>exact bn
 | nil=>
  cases f with
  | Name f q=>
   simp only[eZ,eh,fe,eU,eO,eR,eM,eQ,eY,eJ,eL,eI,fc,eV];by_cases hg:aQ sc f=true
   rotate_left
   ·rw[if_neg hg]; exact bn
   rw[if_pos hg];cases h1:T.fns.lookup f with
   | some k=>
    by_cases ns:noStar args=true
    ·simp only[ns,if_true]; exact GY ih g f args q p k hg h1 ns
    ·simp only[ns]; exact bn
   | none=>
    cases h2:T.cls.lookup f with
    | some c=>
     by_cases ns:noStar args=true
     ·simp only[ns,if_true]; exact uW ih g f args q p c hg h2 ns
     ·simp only[ns]; exact bn
    | none=>exact ih.b g f args q p hg
  | Attribute o f ap=>
   simp only[eZ,eh,fe,eU,eO,eR,eM,eQ,eY,eJ,eL,eI,fc,eV];cases h1:pos? f T.att with
   | none=>
    cases args with
    | nil=>exact bn
    | cons a r=>
     cases r with
     | cons _ _=>exact bn
     | nil=>
      cases hq:lm f with
      | none=>exact bn
      | some q=>
       dsimp only;by_cases h:(gk (cE T sc N m a)&&fG o&&noStar [a]&&ap.endLine == p.line)=true
       ·rw[if_pos h];simp only[Bool.and_eq_true,beq_iff_eq] at h;obtain⟨⟨⟨a0,a1⟩,a2⟩,a4⟩:=h;exact rN ih g o a f ap p q hq a0 a1 a2 a4
       ·rw[if_neg h]; exact bn
   | some k=>
    by_cases h:(fG o&&noStar args&&decide (args.length<30)&&ap.endLine == p.line)=true
    ·simp only[h,if_true];simp only[Bool.and_eq_true,decide_eq_true_eq,beq_iff_eq] at h;obtain⟨⟨⟨a1,a2⟩,a3⟩,a4⟩:=h;exact CB ih g o f args ap p k h1 a1 a2 a3 a4
    ·simp only[h]; exact bn
  | _=>exact bn
theorem yx (ih:IH W G T n m)(g:Gd W G T n E sc N X)(e:Expr):PE X e (aE W G (Ip.run G n) (cE T sc N (m+1) e) E):=by
 cases e with
 | Name x p=>exact F8 g x p
 | Constant c k p=>exact EU c k p
 | BinOp a o b p=>exact Fh ih g a b o p
 | UnaryOp o a p=>exact rX ih g a o p
 | BoolOp o es p=>exact xZ ih g o es p
 | Compare a os bs p=>exact (uF ih g a os bs p).1
 | IfExp c a b p=>exact sV ih g c a b p
 | List es p=>exact xv ih g es p
 | Tuple es k p=>exact Fp ih g es k p
 | Subscript a i p=>exact Fo ih g a i p
 | Attribute o f p=>exact B6 ih g o f p
 | ListComp e gs scope p=>exact D6 ih g e gs scope p
 | Call f args kws p=>exact EN ih g f args kws p
 | _=>exact bn
theorem eH:∀m,IH W G T n m
 | 0=>by
  refine⟨fun g x=>?_,fun g x=>?_,fun g a os bs p=>?_,fun g tg x _=>?_,fun g f args p pos hg=>?_⟩
  ·exact bn
  ·exact eS
  ·exact eS
  ·exact ju
  ·exact bn
 | m+1=>by
  have ih:=eH m;exact⟨fun g x=>yx ih g x,fun g x=>EL ih g x,fun g a os bs p=>(uF ih g a os bs p).2,fun g tg x ht=>zc ih g tg x ht,fun g f args p pos hg=>DI ih g f args p pos hg⟩
end
section
variable {G:Pg}{cl:Nat->List KD->Ip.Run}
mutual
theorem d8:∀e:Ex,(∀i∈e.names,a[i]? = b[i]?)->Ip.eval G cl a e=Ip.eval G cl b e
 | .var i,h=>by rw[iT,iT,h i (by simp)]
 | .cst d,_=>by rw[kY,kY]
 | .op o es,h=>by rw[cj,cj,zAV es (by simpa using h)]
 | .and x y,h=>by
  simp only[Ex.names,List.mem_append] at h;rw[lI,lI,d8 x fun i hi=>h i (.inl hi),d8 y fun i hi=>h i (.inr hi)]
 | .or x y,h=>by
  simp only[Ex.names,List.mem_append] at h;rw[mn,mn,d8 x fun i hi=>h i (.inl hi),d8 y fun i hi=>h i (.inr hi)]
 | .ite c x y,h=>by
  simp only[Ex.names,List.mem_append] at h;rw[Ip.sj,Ip.sj,d8 c fun i hi=>h i (.inl hi),d8 x fun i hi=>h i (.inr (.inl hi)),d8 y fun i hi=>h i (.inr (.inr hi))]
 | .chain o p x y z,h=>by
  simp only[Ex.names,List.mem_append] at h;rw[Ip.s0,Ip.s0,d8 x fun i hi=>h i (.inl hi),d8 y fun i hi=>h i (.inr (.inl hi)),d8 z fun i hi=>h i (.inr (.inr hi))]
 | .sl2 x y z,h=>by
  simp only[Ex.names,List.mem_append] at h;rw[Ip.qf,Ip.qf,d8 x fun i hi=>h i (.inl hi),d8 y fun i hi=>h i (.inr (.inl hi)),d8 z fun i hi=>h i (.inr (.inr hi))]
 | .comp caps tg wk it t e,h=>by
  simp only[Ex.names,List.mem_append] at h;have hc:caps.map (cx a)=caps.map (cx b):=List.map_congr_left fun o ho=>by
   cases o with
   | none=>rfl
   | some i=>
    show (a[i]?).join=(b[i]?).join;rw[h i (.inl (List.mem_filterMap.mpr ⟨some i,ho,rfl⟩))]
  rw[kT,kT,zAV it fun i hi=>h i (.inr hi),hc]
 | .call f es,h=>by rw[kK,kK,zAV es (by simpa using h)]
 | .make f es,h=>by rw[lx,lx,zAV es (by simpa using h)]
 | .meth m o es,h=>by
  simp only[Ex.names,List.mem_append] at h;rw[kH,kH,d8 o fun i hi=>h i (.inl hi),zAV es fun i hi=>h i (.inr hi)]
 | .bad,_=>by rw[gp,gp]
theorem zAV:∀es:List Ex,(∀i∈Ex.namess es,a[i]? = b[i]?)->evals G cl a es=evals G cl b es
 | [],_=>by rw[bB,bB]
 | e::es,h=>by
  simp only[Ex.namess,List.mem_append] at h;rw[bj,bj,d8 e fun i hi=>h i (.inl hi),zAV es fun i hi=>h i (.inr hi)]
end
end
noncomputable def mask (ns:List Nat)(a:Sl):Sl:=a.mapIdx fun i o=>if i∈ns then o else none
theorem nN (h:i∈ns):a[i]? = (mask ns a)[i]?:=by
 unfold mask;rw[List.getElem?_mapIdx];cases a[i]? with
 | none=>rfl
 | some o=>simp[h]
theorem ot (h:(mask ns a)[i]? = some (some d)):i∈ns/\a[i]? = some (some d):=by
 unfold mask at h;rw[List.getElem?_mapIdx] at h;cases q:a[i]? with
 | none=>rw[q] at h; cases h
 | some o=>
  rw[q] at h;by_cases hi:i∈ns
  ·simp[hi] at h; exact⟨hi,by rw[h]⟩
  ·simp[hi] at h
theorem lL {A:Fr}{i:Nat}{d:D}(h:A.sl[i]? = some (some d)):∃k,A[i]? = some (some (k,d)):=by
 unfold Fr.sl at h;rw[List.getElem?_map] at h;obtain⟨o,h1,h2⟩:=cW h;obtain⟨x,h3,h4⟩:=cW h2;obtain⟨k,d'⟩:=x;cases h4;exact⟨k,by rw[h1,h3]⟩
def dB (W:Wd)(S S':Hp):Prop:=∀a vs,SqT W.K S a vs->SqT W.K S' a vs
mutual
theorem Den.hide (h:dB W S S'):∀{v d},d.flat=true->Den W S v d->Den W S' v d
 | _,_,_,.non=>.non
 | _,_,_,.bl=>.bl
 | _,_,_,.int=>.int
 | _,_,_,.str=>.str
 | _,_,hf,.tup e q=>.tup (h _ _ e) (q.hide h (by rw[D.flat] at hf; exact hf))
 | _,_,hf,.lst _ _=>by simp at hf
 | _,_,hf,.ins _ _ _=>by simp at hf
 | _,_,hf,.exc _ _ _=>by simp at hf
theorem Dens.hide (h:dB W S S'):∀{v d},D.flats d=true->Dens W S v d->Dens W S' v d
 | _,_,_,.nil=>.nil
 | _,_,hf,.cons e q=>by
  rw[D.flats,Bool.and_eq_true] at hf;exact .cons (e.hide h hf.1) (q.hide h hf.2)
end
theorem DenF.hide (h:dB W S S'):∀{vs ds},(ds.all fun p=>p.2.flat)=true->DenF W S vs ds->DenF W S' vs ds
 | _,_,_,.nil=>.nil
 | _,_,hf,.cons e d q=>by
  rw[List.all_cons,Bool.and_eq_true] at hf;exact .cons e (d.hide h hf.1) (q.hide h hf.2)
theorem Own.hide (h:dB W S S'):∀{k v d fp},D.fb k d=true->Own W S H k v d fp->Own W S' H k v d fp
 | 0,_,_,_,hf,⟨e,o⟩=>⟨e,o.hide h (by rw[D.fb] at hf; exact hf)⟩
 | k+1,_,.lst ds,_,hf,⟨a,vs,fq,e1,e2,e3,e4⟩=>⟨a,vs,fq,e1,e2,e3.re (b:=D.fb k) (fun _ _ _ hb o=>Own.hide h hb o) hf,e4⟩
 | k+1,_,.tup ds,_,hf,⟨a,vs,e1,e2,e3⟩=>⟨a,vs,e1,h _ _ e2,e3.re (b:=D.fb k) (fun _ _ _ hb o=>Own.hide h hb o) hf⟩
 | k+1,_,.ins c ds,_,hf,⟨a,C,dx,fs,fq,e1,e2,e5,e3,e4⟩=>⟨a,C,dx,fs,fq,e1,e2,e5,e3.re (b:=D.fb k) (fun _ _ _ hb o=>Own.hide h hb o) hf,e4⟩
 | k+1,_,.exc c ds,_,hf,_=>by cases hf
 | _+1,_,.non,_,_,⟨e,o⟩=>⟨e,o.hide h rfl⟩
 | _+1,_,.bl _,_,_,⟨e,o⟩=>⟨e,o.hide h rfl⟩
 | _+1,_,.int _,_,_,⟨e,o⟩=>⟨e,o.hide h rfl⟩
 | _+1,_,.str _,_,_,⟨e,o⟩=>⟨e,o.hide h rfl⟩
theorem Own.noTup:∀{k v d fp},Own W S H k v d fp->∀a∈fp,∀vs,¬Rd H a (.tup vs)
 | 0,_,_,_,h,a,z=>by rw[h.1] at z; simp at z
 | k+1,_,.lst ds,_,⟨a,vs,fq,e1,e2,e3,e4⟩,b,z=>by
  rw[e4] at z;rcases cz z with q | q
  ·intro ws r;rw[q] at r;rcases r with r | ⟨o,r⟩ <;> rw[e2] at r <;> cases r
  ·exact e3.mem (fun _ _ _ y=>Own.noTup y) b q
 | k+1,_,.tup ds,_,⟨a,vs,e1,e2,e3⟩,b,z=>e3.mem (fun _ _ _ y=>Own.noTup y) b z
 | k+1,_,.ins c ds,_,⟨a,C,dx,fs,fq,e1,e2,e5,e3,e4⟩,b,z=>by
  rw[e4] at z;rcases cz z with q | q
  ·intro ws r;rw[q] at r;rcases r with r | ⟨o,r⟩ <;> rw[e2] at r <;> cases r
  ·exact e3.mem (fun _ _ _ y=>Own.noTup y) b q
 | k+1,_,.exc c ds,_,⟨a,C,dx,fs,fq,e1,e2,e5,e3,e4⟩,b,z=>by
  rw[e4] at z;rcases cz z with q | q
  ·intro ws r;rw[q] at r;rcases r with r | ⟨o,r⟩ <;> rw[e2] at r <;> cases r
  ·exact e3.mem (fun _ _ _ y=>Own.noTup y) b q
 | _+1,_,.non,_,h,a,z=>by rw[h.1] at z; simp at z
 | _+1,_,.bl _,_,h,a,z=>by rw[h.1] at z; simp at z
 | _+1,_,.int _,_,h,a,z=>by rw[h.1] at z; simp at z
 | _+1,_,.str _,_,h,a,z=>by rw[h.1] at z; simp at z
def ao (N:Addr->Prop)(F:Nat->List Addr):Addr->Prop:=fun b=>N b\/∃j,b∈F j
structure FrF (W:Wd)(E0:Hp)(N:Addr->Prop)(pin:List (Nat×V))(A:Fr)(σ:St)(H:Hp)(F:Nat->List Addr):Prop where
 sub:Sub E0 H
 nok:NOk N H
 len:σ.length=A.length
 pn:∀p∈pin,σ[p.1]? = some (some p.2)
 nd:∀i,(F i).Nodup
 dj:∀i j b,b∈F i->b∈F j->i=j
 fr:∀i b,b∈F i->E0 b=none/\¬N b
 rel:∀(i:Nat) (x:KD),A[i]? = some (some x)->∃v,σ[i]? = some (some v)/\Own W (hid (ao N F) H) H x.1 v x.2 (F i)
 em:∀(i:Nat),(∀x,A[i]?≠some (some x))->F i=[]
theorem FrF.dom {W:Wd}{E0:Hp}{N:Addr->Prop}{pin:List (Nat×V)}{A:Fr}{σ:St}{H:Hp}{F:Nat->List Addr}(f:FrF W E0 N pin A σ H F){i:Nat}{b:Addr}(h:b∈F i):H b≠none:=by
 by_cases q:∃x,A[i]? = some (some x)
 ·obtain⟨x,e⟩:=q;obtain⟨v,_,o⟩:=f.rel i x e;exact o.dom b h
 ·rw[f.em i fun x z=>q ⟨x,z⟩] at h; simp at h
theorem FrF.noTup {W:Wd}{E0:Hp}{N:Addr->Prop}{pin:List (Nat×V)}{A:Fr}{σ:St}{H:Hp}{F:Nat->List Addr}(f:FrF W E0 N pin A σ H F){i:Nat}{b:Addr}(h:b∈F i)(vs:List V):¬Rd H b (.tup vs):=by
 by_cases q:∃x,A[i]? = some (some x)
 ·obtain⟨x,e⟩:=q;obtain⟨v,_,o⟩:=f.rel i x e;exact o.noTup b h vs
 ·rw[f.em i fun x z=>q ⟨x,z⟩] at h; simp at h
theorem FrF.grow {W:Wd}{E0:Hp}{N:Addr->Prop}{pin:List (Nat×V)}{A:Fr}{σ:St}{H H':Hp}{F:Nat->List Addr}(f:FrF W E0 N pin A σ H F)(hs:Sub H H'){fp:List Addr}(hf:∀b∈fp,H b=none/\H' b≠none):FrF W E0 (fun b=>N b\/b∈fp) pin A σ H' F where
 sub:=f.sub.trans hs
 nok:=fun b z=>z.elim (f.nok.mono hs b) fun y=>(hf b y).2
 len:=f.len
 pn:=f.pn
 nd:=f.nd
 dj:=f.dj
 fr:=fun i b h=>⟨(f.fr i b h).1,fun z=>z.elim (f.fr i b h).2 fun y=>f.dom h (hf b y).1⟩
 rel:=fun i x e=>by
  obtain⟨v,h1,h2⟩:=f.rel i x e;refine⟨v,h1,h2.mono (gw hs fun b z=>?_) fun b _ o e=>hs b o e⟩;rcases z with (z | z) | z
  ·exact .inl (.inl z)
  ·exact .inr (hf b z).1
  ·exact .inl (.inr z)
 em:=f.em
theorem AL:(frz1 A j)[i]? = if i=j then (A[i]?).map (Option.map fun x=>(0,x.2)) else A[i]?:=by
 unfold frz1;cases q:A[j]? with
 | none=>
  by_cases z:i=j
  ·subst z; simp[q]
  ·simp[z]
 | some o=>
  cases o with
  | none=>
   by_cases z:i=j
   ·subst z; simp[q]
   ·simp[z]
  | some x=>
   obtain⟨k,d⟩:=x;have hl:j<A.length:=(dN q).1;by_cases z:i=j
   ·subst z;simp[q,List.getElem?_set_self hl]
   ·simp only[if_neg z];exact List.getElem?_set_ne fun y=>z y.symm
theorem oy:∀{ns:List Nat} {A:Fr},(frz ns A)[i]? = if i∈ns then (A[i]?).map (Option.map fun x=>(0,x.2)) else A[i]?
 | [],A=>by simp[frz]
 | n::ns,A=>by
  show (frz ns (frz1 A n))[i]? = _;rw[oy,AL];by_cases h1:i=n
  ·subst h1;by_cases h2:i∈ns
   ·simp[h2,Function.comp_def]
   ·simp[h2]
  ·by_cases h2:i∈ns
   ·simp[h1,h2]
   ·simp[h1,h2]
theorem wA:∀{ns:List Nat} {A:Fr},(frz ns A).length=A.length
 | [],A=>rfl
 | n::ns,A=>by
  show (frz ns (frz1 A n)).length=_;rw[wA];unfold frz1;split
  ·exact List.length_set
  ·rfl
section
variable {W:Wd}{E0:Hp}{N:Addr->Prop}{pin:List (Nat×V)}{A:Fr}{σ:St}{H:Hp}{F:Nat->List Addr}
noncomputable def aV (ns:List Nat)(F:Nat->List Addr):Nat->List Addr:=fun j=>if j∈ns then [] else F j
theorem ff (h:b∈aV ns F j):j∉ns/\b∈F j:=by
 unfold aV at h;by_cases z:j∈ns
 ·rw[if_pos z] at h; simp at h
 ·rw[if_neg z] at h; exact⟨z,h⟩
theorem lg (h:ao N (aV ns F) b):ao N F b:=h.imp id fun⟨j,q⟩=>⟨j,(ff q).2⟩
theorem FrF.see (f:FrF W E0 N pin A σ H F)(hi:i∈ns)(h:A[i]? = some (some x)):∃v,σ[i]? = some (some v)/\Den W (hid (ao N (aV ns F)) H) v x.2:=by
 obtain⟨v,h1,o⟩:=f.rel i x h;refine⟨v,h1,o.den (fun b u e=>?_) fun b hb u e=>az.mpr ⟨fun z=>?_,e⟩⟩
 ·obtain⟨g1,g2⟩:=az.mp e;exact az.mpr ⟨fun z=>g1 (lg z),g2⟩
 ·rcases z with z | ⟨j,z⟩
  ·exact (f.fr i b hb).2 z
  ·obtain⟨z1,z2⟩:=ff z;exact z1 (f.dj i j b hb z2 ▸ hi)
theorem FrF.frz (f:FrF W E0 N pin A σ H F)(ns:List Nat):FrF W E0 N pin (frz ns A) σ H (aV ns F) where
 sub:=f.sub
 nok:=f.nok
 len:=by rw[wA]; exact f.len
 pn:=f.pn
 nd:=fun i=>by
  unfold aV;split
  ·exact .nil
  ·exact f.nd i
 dj:=fun i j b h1 h2=>f.dj i j b (ff h1).2 (ff h2).2
 fr:=fun i b h=>f.fr i b (ff h).2
 rel:=fun i x e=>by
  rw[oy] at e;by_cases hi:i∈ns
  ·rw[if_pos hi] at e;obtain⟨o,e1,e2⟩:=cW e;obtain⟨y,e3,e4⟩:=cW e2;rw[e3] at e1;subst e4;obtain⟨v,h1,h2⟩:=f.see hi e1;exact⟨v,h1,by unfold aV; rw[if_pos hi]; exact⟨rfl,h2⟩⟩
  ·rw[if_neg hi] at e;obtain⟨v,h1,o⟩:=f.rel i x e;refine⟨v,h1,?_⟩;have:aV ns F i=F i:=by unfold aV; rw[if_neg hi]
   rw[this];exact o.mono (fun b u e=>az.mpr ⟨fun z=>(az.mp e).1 (lg z),(az.mp e).2⟩) fun _ _ _ e=>e
 em:=fun i h=>by
  unfold aV;by_cases hi:i∈ns
  ·rw[if_pos hi]
  ·rw[if_neg hi];exact f.em i fun x z=>h x (by rw[oy,if_neg hi]; exact z)
def FrV (W:Wd)(E0:Hp)(N:Addr->Prop)(pin:List (Nat×V))(A:Fr)(σ:St)(H:Hp)(x:KD)(v:V):Prop:=
 ∃(fp:List Addr) (F:Nat->List Addr),FrF W E0 (fun b=>N b\/b∈fp) pin A σ H F/\fp.Nodup/\(∀b∈fp,E0 b=none/\¬N b)/\Own W (hid (ao (fun b=>N b\/b∈fp) F) H) H x.1 v x.2 fp
def FrX (W:Wd)(E0:Hp)(N:Addr->Prop)(pin:List (Nat×V))(A:Fr)(σ:St)(H:Hp)(c:Nat)(fs:List (Nat×D))(e:Addr):Prop:=
 ∃(F:Nat->List Addr),FrF W E0 N pin A σ H F/\(E0 e=none/\¬ao N F e)/\∃C vs,H e=some (.exc C false vs)/\W.xA c=some C/\DenF W (hid (ao N F) H) vs fs
theorem vP (f:FrF W E0 N pin A σ H F){H':Hp}(hs:Sub H H'){M:Addr->Prop}(hM:∀b,ao N F b->M b\/∃j,b∈F j){fp:List Addr}:dB W (hid (fun b=>M b\/b∈fp) H') (hid (ao (fun b=>N b\/b∈fp) F) H'):=by
 intro a vs h;rcases h with h | h
 ·refine .inl ?_;have noF:∀j,a∉F j:=fun j z=>by
   have h':Rd H' a (.tup vs):=Rd.sub bm h;cases q:H a with
   | none=>exact f.dom z q
   | some o=>
    have e:=hs a o q;refine f.noTup z vs ?_;rcases h' with h' | ⟨u,h'⟩
    ·rw[e] at h'; cases h'; exact .inl q
    ·rw[e] at h'; cases h'; exact .inr ⟨u,q⟩
  have vis:∀o,hid (fun b=>M b\/b∈fp) H' a=some o->hid (ao (fun b=>N b\/b∈fp) F) H' a=some o:=fun o e=>by
   obtain⟨g1,g2⟩:=az.mp e;refine az.mpr ⟨fun z=>?_,g2⟩;rcases z with (z | z) | ⟨j,z⟩
   ·rcases hM a (.inl z) with y | ⟨j,y⟩
    ·exact g1 (.inl y)
    ·exact noF j y
   ·exact g1 (.inr z)
   ·exact noF j z
  rcases h with h | ⟨u,h⟩
  ·exact .inl (vis _ h)
  ·exact .inr ⟨u,vis _ h⟩
 ·exact .inr h
theorem lP (A:Fr):bX A=frz (List.range A.length) A:=by
 apply List.ext_getElem?;intro i;rw[oy];unfold bX;rw[List.getElem?_map];by_cases h:i<A.length
 ·rw[if_pos (List.mem_range.mpr h)]
 ·rw[if_neg fun z=>h (List.mem_range.mp z),List.getElem?_eq_none (by omega)];rfl
theorem FrF.excIn {ns:List Nat}{c:Nat}{fs:List (Nat×D)}{a:Addr}{H':Hp}(f:FrF W E0 N pin A σ H F)(r:ExcR W H (ao N (aV ns F)) H' c fs a):FrX W E0 N pin (excA A fs) σ H' c fs a:=by
 obtain⟨hs,ha,C,vs,hc,hx,hd⟩:=r;have nhid:¬ao N F a:=fun z=>z.elim (fun y=>f.nok a y ha) fun⟨j,y⟩=>f.dom y ha;have g:=f.grow hs (fp:=[]) fun b z=>by simp at z
 have eN:∀b,(N b\/b∈([]:List Addr))↔N b:=fun b=>by simp
 have g0:FrF W E0 N pin A σ H' F:=by
  have:(fun b=>N b\/b∈([]:List Addr))=N:=funext fun b=>propext (eN b);rw[this] at g; exact g
 unfold excA;by_cases hf:(fs.all fun p=>p.2.flat)=true
 ·rw[if_pos hf];refine⟨F,g0,⟨f.sub.none ha,nhid⟩,C,vs,hc,hx,?_⟩;have ts:=vP (M:=ao N (aV ns F)) (fp:=[]) f hs (fun b z=>z.elim (fun y=>.inl (.inl y)) .inr);have e1:(fun b=>ao N (aV ns F) b\/b∈([]:List Addr))=ao N (aV ns F):=funext fun b=>propext (by simp);have e2:(fun b=>N b\/b∈([]:List Addr))=N:=funext fun b=>propext (eN b);rw[e1,e2] at ts;exact hd.hide ts hf
 ·rw[if_neg hf,lP];refine⟨aV (List.range A.length) F,g0.frz _,⟨f.sub.none ha,fun z=>nhid (lg z)⟩,C,vs,hc,hx,hd.mono fun b u e=>?_⟩;obtain⟨g1,g2⟩:=az.mp e;refine az.mpr ⟨fun z=>g1 ?_,g2⟩;rcases z with z | ⟨j,z⟩
  ·exact .inl z
  ·obtain⟨z1,z2⟩:=ff z;exfalso;have:∃x,A[j]? = some (some x):=by
    by_cases y:∃x,A[j]? = some (some x)
    ·exact y
    ·rw[f.em j fun x w=>y ⟨x,w⟩] at z2; simp at z2
   obtain⟨x,hx⟩:=this;exact z1 (List.mem_range.mpr (dN hx).1)
theorem jR {G:Pg}{cl:Nat->List KD->Ip.Run}{E:St->XK}{Q:VK}{e:Ex}(f:FrF W E0 N pin A σ H F)(h:match Ip.eval G cl A.sl e with
  | .ok x=>∀v H',FrV W E0 N pin (Ip.settle e.names A x) σ H' x v->Q v H'
  | .exc c fs=>∀a H',FrX W E0 N pin (excA A fs) σ H' c fs a->E σ (.ref a) none H'
  | .bad=>False):aE W G cl e E σ H Q:=by
 have f1:=f.frz e.names;have hN:NOk (ao N (aV e.names F)) H:=fun b z=>z.elim (f.nok b) fun⟨j,q⟩=>f1.dom q;refine⟨ao N (aV e.names F),mask e.names A.sl,hN,fun i d hi=>?_,?_⟩
 ·obtain⟨h1,h2⟩:=ot hi;obtain⟨k,h3⟩:=lL h2;exact f.see h1 h3
 rw[<-d8 (a:=A.sl) e fun i hi=>nN hi];cases q:Ip.eval G cl A.sl e with
 | bad=>rw[q] at h; exact h
 | exc c fs=>
  rw[q] at h;exact fun a H' r=>h a H' (f.excIn r)
 | ok x=>
  rw[q] at h;rintro v H' ⟨hs,fp,nd,hf,o⟩;refine h v H' ⟨fp,?_⟩;have hfp:∀b∈fp,H b=none/\H' b≠none:=fun b hb=>⟨hf b hb,o.dom b hb⟩
  have fr:∀b∈fp,E0 b=none/\¬N b:=fun b hb=>⟨f.sub.none (hf b hb),fun z=>f.nok b z (hf b hb)⟩
  unfold Ip.settle;by_cases hb:D.fb x.1 x.2=true
  ·rw[if_pos hb];exact⟨F,f.grow hs hfp,nd,fr,o.hide (vP f hs fun b z=>z.elim (fun y=>.inl (.inl y)) .inr) hb⟩
  ·rw[if_neg hb];refine⟨aV e.names F,f1.grow hs hfp,nd,fr,o.mono (fun b u e=>?_) fun _ _ _ e=>e⟩;obtain⟨g1,g2⟩:=az.mp e;refine az.mpr ⟨fun z=>g1 ?_,g2⟩;rcases z with (z | z) | z
   ·exact .inl (.inl z)
   ·exact .inr z
   ·exact .inl (.inr z)
end
end L2
end
section
namespace L2
open PySem PySem.Spec PyProof.Rows
open Ip (D KD Ex Op Pg Fn Sl Fr Wk Tg Tb O SL bN bZ cE cF cI cS bo gp evals bj excA eT fm ls frz aQ aZ bL aA oM av be fJ en gK cY cH noStar aK aj outs g9 pc? pos? pos?_get ps? mj b7 setFs cm jM dD dG)
noncomputable def PostS (W:Wd)(E0:Hp)(N:Addr->Prop)(pin:List (Nat×V))(E:St->XK)(Dn:Ends):O->Prop
 | .nx A=>∀σ H F,FrF W E0 N pin A σ H F->Dn.nx σ H
 | .ret k d A=>∀v σ H,FrV W E0 N pin A σ H (k,d) v->Dn.rt v H
 | .brk A=>∀σ H F,FrF W E0 N pin A σ H F->Dn.bk σ H
 | .cnt A=>∀σ H F,FrF W E0 N pin A σ H F->Dn.ct σ H
 | .exc c fs A=>∀e σ H,FrX W E0 N pin A σ H c fs e->E σ (.ref e) none H
 | .bad=>False
def bt (W:Wd)(G:Pg)(n:Nat)(io:List Nat)(E:St->XK)(s:Ip.S):TS:=fun Dn σ H=>∃(E0:Hp) (N:Addr->Prop) (pin:List (Nat×V)) (A:Fr) (F:Nat->List Addr),(∀p∈pin,p.1∈io)/\FrF W E0 N pin A σ H F/\PostS W E0 N pin E Dn (Ip.exec G (Ip.run G n) io A s)
def dH (W:Wd)(G:Pg)(n:Nat)(io:List Nat)(E:St->XK)(ss:List Ip.S):TS:=fun Dn σ H=>∃(E0:Hp) (N:Addr->Prop) (pin:List (Nat×V)) (A:Fr) (F:Nat->List Addr),(∀p∈pin,p.1∈io)/\FrF W E0 N pin A σ H F/\PostS W E0 N pin E Dn (Ip.execs G (Ip.run G n) io A ss)
section
variable {X:Cx}{W:Wd}{G:Pg}{n:Nat}{io:List Nat}{E:St->XK}{E0:Hp}{N:Addr->Prop}{pin:List (Nat×V)}{A:Fr}{σ:St}{H:Hp}{F:Nat->List Addr}
theorem ck {st:Stmt}:PS X st (bt W G n io E .bad):=fun pins s σ H Dn I ⟨_,_,_,_,_,_,_,h⟩=>by
 rw[Ip.CT] at h; exact h.elim
theorem zf:PSs X [] (dH W G n io E []):=Ft.mono fun Dn σ H ⟨_,_,_,_,_,_,f,h⟩=>by
 rw[Ip.pQ] at h;exact h _ _ _ f
theorem xI {st:Stmt}{sts:List Stmt}{s:Ip.S}{ss:List Ip.S}(h1:PS X st (bt W G n io E s))(h2:PSs X sts (dH W G n io E ss)):PSs X (st::sts) (dH W G n io E (s::ss)):=
 (BN h1 h2).mono fun Dn σ H ⟨E0,N,pin,A,F,hp,f,h⟩=>by
  refine⟨E0,N,pin,A,F,hp,f,?_⟩;rw[Ip.lj] at h;cases q:Ip.exec G (Ip.run G n) io A s with
  | nx A'=>
   rw[q] at h;exact fun σ' H' F' f'=>⟨E0,N,pin,A',F',hp,f',h⟩
  | ret k d A'=>rw[q] at h; exact h
  | brk A'=>rw[q] at h; exact h
  | cnt A'=>rw[q] at h; exact h
  | exc c fs A'=>rw[q] at h; exact h
  | bad=>rw[q] at h; exact h
theorem FrV.set (f:FrV W E0 N pin A σ H x v)(hi:∀p∈pin,p.1≠i)(hl:i<A.length):∃F,FrF W E0 N pin (A.set i (some x)) (σ.set i (some v)) H F:=by
 obtain⟨fp,F,f,nd,fr,o⟩:=f;have hlt:i < σ.length:=by rw[f.len]; exact hl
 refine⟨fun j=>if j=i then fp else F j,⟨f.sub,fun b z=>f.nok b (.inl z),by rw[List.length_set,List.length_set]; exact f.len,fun p hp=>by rw[List.getElem?_set_ne fun z=>hi p hp z.symm]; exact f.pn p hp,fun j=>?_,fun j k b h1 h2=>?_,fun j b h=>?_,fun j y h=>?_,fun j h=>?_⟩⟩
 ·by_cases z:j=i
  ·rw[if_pos z]; exact nd
  ·rw[if_neg z]; exact f.nd j
 ·by_cases z:j=i
  ·rw[if_pos z] at h1;by_cases y:k=i
   ·rw[z,y]
   ·rw[if_neg y] at h2;exact absurd (.inr h1) (f.fr k b h2).2
  ·rw[if_neg z] at h1;by_cases y:k=i
   ·rw[if_pos y] at h2;exact absurd (.inr h2) (f.fr j b h1).2
   ·rw[if_neg y] at h2;exact f.dj j k b h1 h2
 ·by_cases z:j=i
  ·rw[if_pos z] at h; exact fr b h
  ·rw[if_neg z] at h;exact⟨(f.fr j b h).1,fun y=>(f.fr j b h).2 (.inl y)⟩
 ·have sub:Sub (hid (ao (fun b=>N b\/b∈fp) F) H) (hid (ao N fun j=>if j=i then fp else F j) H):=fun b u e=>by
   obtain⟨g1,g2⟩:=az.mp e;refine az.mpr ⟨fun z=>g1 ?_,g2⟩;rcases z with z | ⟨k,z⟩
   ·exact .inl (.inl z)
   ·by_cases y:k=i
    ·simp only[if_pos y] at z; exact .inl (.inr z)
    ·simp only[if_neg y] at z; exact .inr ⟨k,z⟩
  by_cases z:j=i
  ·subst z;rw[List.getElem?_set_self hl] at h;cases h;refine⟨v,List.getElem?_set_self hlt,?_⟩;simp only[if_true];exact o.mono sub fun _ _ _ e=>e
  ·rw[List.getElem?_set_ne fun y=>z y.symm] at h;obtain⟨w,h1,h2⟩:=f.rel j y h;refine⟨w,by rw[List.getElem?_set_ne fun y=>z y.symm]; exact h1,?_⟩;simp only[if_neg z];exact h2.mono sub fun _ _ _ e=>e
 ·by_cases z:j=i
  ·subst z;exact absurd (List.getElem?_set_self hl) (h x)
  ·simp only[if_neg z];exact f.em j fun y w=>h y (by rw[List.getElem?_set_ne fun y=>z y.symm]; exact w)
theorem FrF.weaken (f:FrF W E1 N pin A σ H F)(h:Sub E0 E1):FrF W E0 N pin A σ H F:=
 ⟨h.trans f.sub,f.nok,f.len,f.pn,f.nd,f.dj,fun i b hb=>⟨h.none (f.fr i b hb).1,(f.fr i b hb).2⟩,f.rel,f.em⟩
theorem PostS.strong (h:Sub E0 E1)(p:PostS W E0 N pin E Dn o):PostS W E1 N pin E Dn o:=by
 cases o with
 | nx A=>exact fun σ H F f=>p σ H F (f.weaken h)
 | ret k d A=>exact fun v σ H ⟨fp,F,f,nd,fr,o⟩=>p v σ H ⟨fp,F,f.weaken h,nd,fun b hb=>⟨h.none (fr b hb).1,(fr b hb).2⟩,o⟩
 | brk A=>exact fun σ H F f=>p σ H F (f.weaken h)
 | cnt A=>exact fun σ H F f=>p σ H F (f.weaken h)
 | exc c fs A=>exact fun e σ H ⟨F,f,he,q⟩=>p e σ H ⟨F,f.weaken h,⟨h.none he.1,he.2⟩,q⟩
 | bad=>exact p
theorem m8 (f:FrF W E0 N pin A σ H F)(h:PostS W E0 N pin E Dn ((Ip.eval G (Ip.run G n) A.sl e).toO A k))
  (ok:∀x,Ip.eval G (Ip.run G n) A.sl e=.ok x->PostS W E0 N pin E Dn (k x)->∀v H',FrV W E0 N pin (Ip.settle e.names A x) σ H' x v->Q v H'):aE W G (Ip.run G n) e E σ H Q:=by
 refine jR f ?_;cases q:Ip.eval G (Ip.run G n) A.sl e with
 | bad=>rw[q] at h; exact h
 | exc c fs=>rw[q] at h; exact fun a H' x=>h a σ H' x
 | ok x=>rw[q] at h; exact ok x q h
theorem pJ (h:bt W G n io E (.set i e) Dn σ H):aE W G (Ip.run G n) e E σ H fun v H1=>Dn.nx (σ.set i (some v)) H1:=by
 obtain⟨E0,N,pin,A,F,hp,f,h⟩:=h;rw[Ip.k9] at h;refine m8 f h fun x ex hk v H' fv=>?_;unfold b7 at hk;by_cases c:io.contains i=false/\i<(Ip.settle e.names A x).length
 ·rw[if_pos c] at hk;obtain⟨F',f'⟩:=fv.set (fun p hp' z=>by have:=hp p hp'; rw[z] at this; have c1:=c.1; simp[this] at c1) c.2;exact hk _ _ _ f'
 ·rw[if_neg c] at hk; exact hk.elim
theorem FrV.drop (h:FrV W E0 N pin A σ H x v):∃F,FrF W E0 N pin A σ H F/\Den W (hid (ao N F) H) v x.2:=by
 obtain⟨fp,F',f',nd,fr,o⟩:=h;refine⟨F',⟨f'.sub,fun b z=>f'.nok b (.inl z),f'.len,f'.pn,f'.nd,f'.dj,fun i b hb=>⟨(f'.fr i b hb).1,fun z=>(f'.fr i b hb).2 (.inl z)⟩,fun i y hy=>?_,f'.em⟩,?_⟩
 ·obtain⟨w,h1,h2⟩:=f'.rel i y hy;refine⟨w,h1,h2.mono (fun b u e=>?_) fun _ _ _ e=>e⟩;obtain⟨g1,g2⟩:=az.mp e;exact az.mpr ⟨fun z=>g1 (z.imp .inl id),g2⟩
 ·refine o.den (fun b u e=>?_) fun b hb u e=>az.mpr ⟨fun z=>?_,e⟩
  ·obtain⟨g1,g2⟩:=az.mp e;exact az.mpr ⟨fun z=>g1 (z.imp .inl id),g2⟩
  ·rcases z with z | ⟨j,z⟩
   ·exact (fr b hb).2 z
   ·exact (f'.fr j b z).2 (.inr hb)
theorem pX (h:bt W G n io E (.ex e) Dn σ H):aE W G (Ip.run G n) e E σ H fun v H1=>Dn.nx σ H1:=by
 obtain⟨E0,N,pin,A,F,hp,f,h⟩:=h;rw[Ip.pT] at h;refine m8 f h fun x ex hk v H' fv=>?_;obtain⟨F',f',_⟩:=fv.drop;exact hk σ H' F' f'
theorem v6 (hv:∀i,e≠.var i)(h:bt W G n io E (.ret e) Dn σ H):aE W G (Ip.run G n) e E σ H Dn.rt:=by
 obtain⟨E0,N,pin,A,F,hp,f,h⟩:=h;rw[Ip.oB] at h;have e1:Ip.b8 A e (Ip.eval G (Ip.run G n) A.sl e)=(Ip.eval G (Ip.run G n) A.sl e).toO A fun x=>.ret x.1 x.2 (Ip.settle e.names A x):=by
  cases e <;> first | rfl | exact absurd rfl (hv _)
 rw[e1] at h;exact m8 f h fun x ex hk v H' fv=>hk v σ H' fv
theorem Aw (h:bt W G n io E (.ret (.var i)) Dn σ H):∃v,σ[i]? = some (some v)/\Dn.rt v H:=by
 obtain⟨E0,N,pin,A,F,hp,f,h⟩:=h;rw[Ip.oB,Ip.t5] at h;cases q:A[i]? with
 | none=>rw[q] at h; exact h.elim
 | some o=>
  cases o with
  | none=>rw[q] at h; exact h.elim
  | some x=>
   rw[q] at h;obtain⟨v,hv,ow⟩:=f.rel i x q;have hl:i<A.length:=(dN q).1;have eqH:∀b,ao (fun b=>N b\/b∈F i) (aV [i] F) b↔ao N F b:=fun b=>by
    constructor
    ·intro z;rcases z with (z | z) | ⟨j,z⟩
     ·exact .inl z
     ·exact .inr ⟨i,z⟩
     ·exact .inr ⟨j,(ff z).2⟩
    ·intro z;rcases z with z | ⟨j,z⟩
     ·exact .inl (.inl z)
     ·by_cases y:j=i
      ·rw[y] at z; exact .inl (.inr z)
      ·exact .inr ⟨j,by unfold aV; rw[if_neg (by simpa using y)]; exact z⟩
   have eqF:ao (fun b=>N b\/b∈F i) (aV [i] F)=ao N F:=funext fun b=>propext (eqH b);refine⟨v,hv,h v σ H ⟨F i,aV [i] F,?_,f.nd i,fun b hb=>f.fr i b hb,by rw[eqF]; exact ow⟩⟩;refine⟨f.sub,fun b z=>z.elim (f.nok b) fun y=>f.dom y,by rw[List.length_set]; exact f.len,f.pn,fun j=>?_,fun j k b h1 h2=>f.dj j k b (ff h1).2 (ff h2).2,fun j b hb=>?_,fun j y hy=>?_,fun j hj=>?_⟩
   ·unfold aV;split
    ·exact .nil
    ·exact f.nd j
   ·obtain⟨z1,z2⟩:=ff hb;refine⟨(f.fr j b z2).1,fun z=>z.elim (f.fr j b z2).2 fun y=>z1 ?_⟩;rw[f.dj j i b z2 y]; simp
   ·by_cases z:j=i
    ·subst z;rw[List.getElem?_set_self hl] at hy; cases hy
    ·rw[List.getElem?_set_ne fun y=>z y.symm] at hy;obtain⟨w,h1,h2⟩:=f.rel j y hy;refine⟨w,h1,?_⟩;have:aV [i] F j=F j:=by unfold aV; rw[if_neg (by simpa using z)]
     rw[this,eqF];exact h2
   ·unfold aV;by_cases z:j=i
    ·rw[if_pos (by simpa using z)]
    ·rw[if_neg (by simpa using z)];exact f.em j fun y w=>hj y (by rw[List.getElem?_set_ne fun y=>z y.symm]; exact w)
theorem AA (f:FrF W E0 N pin A σ H F)(h:PostS W E0 N pin E Dn (((Ip.eval G (Ip.run G n) A.sl e).bl).toO A k))
  (ok:∀b,PostS W E0 N pin E Dn (k b)->∀H',FrF W E0 N pin A σ H' F->Q b H'):bG W G (Ip.run G n) e E σ H Q:=by
 have f1:=f.frz e.names;have hN:NOk (ao N (aV e.names F)) H:=fun b z=>z.elim (f.nok b) fun⟨j,q⟩=>f1.dom q;have grow0:∀H',Sub H H'->FrF W E0 N pin A σ H' F:=fun H' hs=>by
  have g:=f.grow hs (fp:=[]) fun b z=>by simp at z
  have:(fun b=>N b\/b∈([]:List Addr))=N:=funext fun b=>propext (by simp);rw[this] at g; exact g
 refine⟨ao N (aV e.names F),mask e.names A.sl,hN,fun i d hi=>?_,?_⟩
 ·obtain⟨h1,h2⟩:=ot hi;obtain⟨k,h3⟩:=lL h2;exact f.see h1 h3
 rw[<-d8 (a:=A.sl) e fun i hi=>nN hi];cases q:Ip.eval G (Ip.run G n) A.sl e with
 | bad=>rw[q] at h; exact h
 | exc c fs=>
  rw[q] at h;exact fun a H' r=>h a σ H' (f.excIn r)
 | ok x=>
  obtain⟨kx,d⟩:=x;rw[q] at h;cases d <;> try (exact h.elim)
  rename_i b;exact fun H' hs=>ok b h H' (grow0 H' hs)
end
section
variable {X:Cx}{W:Wd}{G:Pg}{n:Nat}{io:List Nat}{E:St->XK}{E0:Hp}{N:Addr->Prop}{pin:List (Nat×V)}{A:Fr}{σ:St}{H:Hp}{F:Nat->List Addr}
theorem Fx (h:bt W G n io E (.iff c t e) Dn σ H):j6 (bG W G (Ip.run G n) c E) (dH W G n io E t) (dH W G n io E e) Dn σ H:=by
 obtain⟨E0,N,pin,A,F,hp,f,h⟩:=h;rw[Ip.uN] at h;unfold j6;refine AA f h fun b hk H' f'=>?_;cases b with
 | true=>rw[if_pos rfl] at hk ⊢; exact⟨E0,N,pin,A,F,hp,f',hk⟩
 | false=>rw[if_neg (by decide)] at hk ⊢; exact⟨E0,N,pin,A,F,hp,f',hk⟩
theorem FrF.set0 (f:FrF W E0 N pin A σ H F)(hd:Den W (hid (ao N F) H) v d)(hi:∀p∈pin,p.1≠i)(hl:i<A.length):FrF W E0 N pin (A.set i (some (0,d))) (σ.set i (some v)) H (aV [i] F):=by
 have hlt:i < σ.length:=by rw[f.len]; exact hl
 refine⟨f.sub,f.nok,by rw[List.length_set,List.length_set]; exact f.len,fun p hp=>by rw[List.getElem?_set_ne fun z=>hi p hp z.symm]; exact f.pn p hp,fun j=>?_,fun j k b h1 h2=>f.dj j k b (ff h1).2 (ff h2).2,fun j b hb=>f.fr j b (ff hb).2,fun j y hy=>?_,fun j hj=>?_⟩
 ·unfold aV;split
  ·exact .nil
  ·exact f.nd j
 ·have sub:Sub (hid (ao N F) H) (hid (ao N (aV [i] F)) H):=fun b u e=>az.mpr ⟨fun z=>(az.mp e).1 (lg z),(az.mp e).2⟩;by_cases z:j=i
  ·subst z;rw[List.getElem?_set_self hl] at hy;cases hy;refine⟨v,List.getElem?_set_self hlt,?_⟩;unfold aV;rw[if_pos (by simp)];exact⟨rfl,hd.mono sub⟩
  ·rw[List.getElem?_set_ne fun y=>z y.symm] at hy;obtain⟨w,h1,h2⟩:=f.rel j y hy;refine⟨w,by rw[List.getElem?_set_ne fun y=>z y.symm]; exact h1,?_⟩;have:aV [i] F j=F j:=by unfold aV; rw[if_neg (by simpa using z)]
   rw[this];exact h2.mono sub fun _ _ _ e=>e
 ·unfold aV;by_cases z:j=i
  ·rw[if_pos (by simpa using z)]
  ·rw[if_neg (by simpa using z)];exact f.em j fun y w=>hj y (by rw[List.getElem?_set_ne fun y=>z y.symm]; exact w)
theorem su:Sub (hid (ao N F) H) (hid (ao N (aV ns F)) H):=fun b u e=>az.mpr ⟨fun z=>(az.mp e).1 (lg z),(az.mp e).2⟩
theorem oA (hp:∀p∈pin,p.1∈io)(h:io.contains i=false):∀p∈pin,p.1≠i:=fun p hp' z=>by
 have:=hp p hp';rw[z] at this;simp[this] at h
theorem wp (hp:∀p∈pin,p.1∈io)(hQ:∀A F σ,FrF W E0 N pin A σ H F->PostS W E0 N pin E Dn (k A)->Q σ H) :
  ∀{is:List Nat} {vs:List V} {ds:List D} {A:Fr} {σ:St} {F:Nat->List Addr},Dens W (hid (ao N F) H) vs ds->FrF W E0 N pin A σ H F->PostS W E0 N pin E Dn ((setFs io is (ds.map fun d=>(0,d)) A).seq k)->kc is vs σ H Q
 | [],_,_,A,σ,F,.nil,f,h=>⟨rfl,hQ A F σ f h⟩
 | [],_,_,_,_,_,.cons _ _,_,h=>h.elim
 | _::_,_,_,_,_,_,.nil,_,h=>h.elim
 | i::is,_,_,A,σ,F,.cons hd q,f,h=>by
  refine⟨_,_,rfl,?_⟩;show kc is _ (σ.set i (some _)) H Q;simp only[List.map_cons,setFs] at h;unfold b7 at h;by_cases c:io.contains i=false/\i<A.length
  ·rw[if_pos c] at h;exact wp hp hQ (q.mono su) (f.set0 hd (oA hp c.1) c.2) h
  ·rw[if_neg c] at h; exact h.elim
theorem xg (hK:W.K=X.K)(hp:∀p∈pin,p.1∈io)(hd:Den W (hid (ao N F) H) v d)(f:FrF W E0 N pin A σ H F)(h:PostS W E0 N pin E Dn ((bZ io tg d A).seq k))
  (hQ:∀A F σ,FrF W E0 N pin A σ H F->PostS W E0 N pin E Dn (k A)->Q σ H):gT X.K tg v σ H Q:=by
 cases tg with
 | one i=>
  simp only[bZ] at h;unfold b7 at h;by_cases c:io.contains i=false/\i<A.length
  ·rw[if_pos c] at h;exact hQ _ _ _ (f.set0 hd (oA hp c.1) c.2) h
  ·rw[if_neg c] at h; exact h.elim
 | many is=>
  cases hd <;> simp only[bZ] at h <;> try (exact h.elim)
  rename_i a vs ds h1 h2;refine⟨a,vs,rfl,hK ▸ SqT.sub bm h1,?_,wp hp hQ h2 f h⟩;rw[h2.length];exact len_of h
where
 len_of {E0:Hp} {Dn:Ends} {k:Fr->O}:∀{is:List Nat} {ds:List D} {A:Fr},PostS W E0 N pin E Dn ((setFs io is (ds.map fun d=>(0,d)) A).seq k)->ds.length=is.length
  | [],[],_,_=>rfl
  | [],_::_,_,h=>h.elim
  | _::_,[],_,h=>h.elim
  | i::is,d::ds,A,h=>by
   simp only[List.map_cons,setFs] at h;unfold b7 at h;by_cases c:io.contains i=false/\i<A.length
   ·rw[if_pos c] at h;rw[List.length_cons,List.length_cons,len_of h]
   ·rw[if_neg c] at h; exact h.elim
theorem tx (hK:W.K=X.K)(h:bt W G n io E (.setT is e) Dn σ H):aE W G (Ip.run G n) e E σ H fun v H1=>gT X.K (.many is) v σ H1 Dn.nx:=by
 obtain⟨E0,N,pin,A,F,hp,f,h⟩:=h;rw[Ip.wW] at h;refine m8 f h fun x ex hk v H' fv=>?_;obtain⟨F',f',dv⟩:=fv.drop;have sq:∀o:O,(o.seq fun A=>.nx A)=o:=fun o=>by cases o <;> rfl
 have eb:Ip.fO io is e A x=bZ io (.many is) x.2 (Ip.settle e.names A x):=by
  obtain⟨k,d⟩:=x;cases d <;> rfl
 rw[eb,<-sq (bZ io (.many is) x.2 (Ip.settle e.names A x))] at hk;exact xg hK hp dv f' hk fun A F σ f h=>h σ H' F f
theorem Gz (f:FrF W E0 N pin A σ H F)(h:PostS W E0 N pin E Dn ((evals G (Ip.run G n) A.sl it).toO A k))(nb:∀vs,PostS W E0 N pin E Dn (k vs)->∃ds,dD wk vs=some ds)
  (ok:∀vs ds,dD wk vs=some ds->PostS W E0 N pin E Dn (k vs)->∀J H',Sub H H'->ItD W (ao N (aV (Ex.namess it) F)) H' J ds->R J H'):gz W G (Ip.run G n) wk it E σ H R:=by
 have f1:=f.frz (Ex.namess it);have hN:NOk (ao N (aV (Ex.namess it) F)) H:=fun b z=>z.elim (f.nok b) fun⟨j,q⟩=>f1.dom q;refine⟨ao N (aV (Ex.namess it) F),mask (Ex.namess it) A.sl,hN,fun i d hi=>?_,?_⟩
 ·obtain⟨h1,h2⟩:=ot hi;obtain⟨k,h3⟩:=lL h2;exact f.see h1 h3
 rw[<-zAV (a:=A.sl) it fun i hi=>nN hi];cases q:evals G (Ip.run G n) A.sl it with
 | bad=>rw[q] at h; exact h
 | exc c fs=>rw[q] at h; exact fun a H' r=>h a σ H' (f.excIn r)
 | ok vs=>
  rw[q] at h;obtain⟨ds,e⟩:=nb vs h;simp only[e];exact ok vs ds e h
theorem zl (hK:W.K=X.K)(h:bt W G n io E (.fo tg wk it b) Dn σ H):ku (gz W G (Ip.run G n) wk it E) (gT X.K tg) (dH W G n io E b) Dn σ H:=by
 obtain⟨E0,N,pin,A,F,hp,f,h⟩:=h;rw[Ip.sE] at h;unfold ku;have pre:∀vs,PostS W E0 N pin E Dn (ls G (be (fm G (Ip.run G n) io tg b)) wk it A vs)->∃ds,dD wk vs=some ds/\ds.length<=SL/\PostS W E0 N pin E Dn (be (fm G (Ip.run G n) io tg b) ds (frz (Ex.namess it) A)):=fun vs hv=>by
  unfold ls at hv;cases q:dD wk vs with
  | none=>rw[q] at hv; exact hv.elim
  | some ds=>
   rw[q] at hv;simp only at hv;by_cases hl:ds.length<=SL
   ·rw[if_pos hl] at hv; exact⟨ds,rfl,hl,hv⟩
   ·rw[if_neg hl] at hv; exact hv.elim
 refine Gz f h (fun vs hv=>by obtain⟨ds,e,_⟩:=pre vs hv; exact⟨ds,e⟩) fun vs ds e hv J H1 hs hJ=>?_;obtain⟨ds',e',hl,hq⟩:=pre vs hv;rw[e] at e';cases e';have f0:=f.frz (Ex.namess it);have f1:FrF W E0 N pin (frz (Ex.namess it) A) σ H1 (aV (Ex.namess it) F):=by
  have g:=f0.grow hs (fp:=[]) fun b z=>by simp at z
  have:(fun b=>N b\/b∈([]:List Addr))=N:=funext fun b=>propext (by simp);rw[this] at g; exact g
 have hE1:Sub E0 (hid (fun b=>∃j,b∈aV (Ex.namess it) F j) H1):=fun b o eb=>az.mpr ⟨(fun⟨j,z⟩=>by rw[(f1.fr j b z).1] at eb; cases eb),f1.sub b o eb⟩;have f2:FrF W (hid (fun b=>∃j,b∈aV (Ex.namess it) F j) H1) N pin (frz (Ex.namess it) A) σ H1 (aV (Ex.namess it) F):=
  ⟨bm,f1.nok,f1.len,f1.pn,f1.nd,f1.dj,fun i b hb=>⟨by
   cases q:hid (fun b=>∃j,b∈aV (Ex.namess it) F j) H1 b with
   | none=>rfl
   | some o=>exact absurd ⟨i,hb⟩ (az.mp q).1,(f1.fr i b hb).2⟩,f1.rel,f1.em⟩
 have hvis:∀b o,hid (ao N (aV (Ex.namess it) F)) H1 b=some o->¬N b/\hid (fun b=>∃j,b∈aV (Ex.namess it) F j) H1 b=some o:=fun b o e=>by
  obtain⟨g1,g2⟩:=az.mp e;exact⟨fun z=>g1 (.inl z),az.mpr ⟨fun z=>g1 (.inr z),g2⟩⟩
 generalize hid (fun b=>∃j,b∈aV (Ex.namess it) F j) H1=E1 at hE1 f2 hvis;refine⟨fun i m σ H=>i<=ds.length/\m=ds.length - i/\∃A F,FrF W E1 N pin A σ H F/\PostS W E0 N pin E Dn (be (fm G (Ip.run G n) io tg b) (ds.drop i) A),⟨ds.length,Nat.zero_le _,by omega,_,_,f2,by simpa using hq⟩,?_⟩;rintro i m σ1 Hc ⟨hi,rfl,A1,F1,f3,p3⟩;have hsub:Sub (hid (ao N (aV (Ex.namess it) F)) H1) (hid (ao N F1) Hc):=fun b o e=>by
  obtain⟨g1,g2⟩:=hvis b o e;refine az.mpr ⟨fun z=>?_,f3.sub b o g2⟩;rcases z with z | ⟨j,z⟩
  ·exact g1 z
  ·rw[(f3.fr j b z).1] at g2; cases g2
 have hN3:NOk (ao N F1) Hc:=fun b z=>z.elim (f3.nok b) fun⟨j,q⟩=>f3.dom q;obtain⟨J1,J2⟩:=hJ (ao N F1) Hc hsub hN3 i;by_cases hlt:i<ds.length
 ·have hdrop:ds.drop i=ds[i]::ds.drop (i+1):=List.drop_eq_getElem_cons hlt;rw[hdrop,be] at p3;obtain⟨Jg,Jy⟩:=J1 ds[i] (by simp[hlt]);refine .inr ⟨Jg,fun σ H=>∃A F,FrF W E1 N pin A σ H F/\PostS W E0 N pin E Dn (be (fm G (Ip.run G n) io tg b) (ds.drop (i+1)) A),fun σ' H' ⟨A',F',f',p'⟩=>⟨ds.length - (i+1),by omega,hlt,rfl,A',F',f',p'⟩,fun x H' hy=>?_⟩;obtain⟨s3,dx⟩:=Jy x H' hy;have f4:FrF W E1 N pin A1 σ1 H' F1:=by
   have g:=f3.grow s3 (fp:=[]) fun b z=>by simp at z
   have:(fun b=>N b\/b∈([]:List Addr))=N:=funext fun b=>propext (by simp);rw[this] at g; exact g
  have turn:PostS W E1 N pin E { Dn with nx:=fun σ H=>∃A F,FrF W E1 N pin A σ H F/\PostS W E0 N pin E Dn (be (fm G (Ip.run G n) io tg b) (ds.drop (i+1)) A),ct:=fun σ H=>∃A F,FrF W E1 N pin A σ H F/\PostS W E0 N pin E Dn (be (fm G (Ip.run G n) io tg b) (ds.drop (i+1)) A),bk:=Dn.nx }
    (fm G (Ip.run G n) io tg b ds[i] A1):=by
   cases q:fm G (Ip.run G n) io tg b ds[i] A1 with
   | nx A'=>rw[q] at p3; exact fun σ H F f=>⟨A',F,f,p3⟩
   | cnt A'=>rw[q] at p3; exact fun σ H F f=>⟨A',F,f,p3⟩
   | brk A'=>rw[q] at p3; exact fun σ H F f=>p3 σ H F (f.weaken hE1)
   | ret k d A'=>
    rw[q] at p3;exact PostS.strong (Dn:=Dn) (o:=.ret k d A') hE1 p3
   | exc c fs A'=>
    rw[q] at p3;exact PostS.strong (Dn:=Dn) (o:=.exc c fs A') hE1 p3
   | bad=>rw[q] at p3; exact p3
  unfold fm at turn;exact xg hK hp dx f4 turn fun A2 F2 σ2 g p=>⟨E1,N,pin,A2,F2,hp,g,p⟩
 ·have e:i=ds.length:=by omega
  subst e;rw[List.drop_of_length_le (Nat.le_refl _),be] at p3;exact .inl ⟨J2 (bb _),p3 _ _ _ (f3.weaken hE1)⟩
end
section
variable {X:Cx}{W:Wd}{G:Pg}{n:Nat}{io:List Nat}{E:St->XK}{E0:Hp}{N:Addr->Prop}{pin:List (Nat×V)}{A:Fr}{σ:St}{H:Hp}{F:Nat->List Addr}
theorem FrF.upd {fp fx:List Addr}{x:Nat}{l:Addr}{v0:V}{y:KD}{H2:Hp}(f:FrF W E0 (fun b=>N b\/b∈fp) pin A σ H F)(fr:∀b∈fp,E0 b=none/\¬N b)(hl:l∈F x)(hx:x<A.length)(hσ:σ[x]? = some (some v0))(hfx:fx.Nodup)(hin:∀b∈fx,b∈F x\/b∈fp)
  (h12:∀b,b≠l->∀u,H b=some u->H2 b=some u)(h2l:H2 l≠none)(hy:Own W (hid (ao N fun j=>if j=x then fx else F j) H2) H2 y.1 v0 y.2 fx):FrF W E0 N pin (A.set x (some y)) σ H2 fun j=>if j=x then fx else F j:=by
 have l0:E0 l=none:=(f.fr x l hl).1;have mem:∀j b,b∈(if j=x then fx else F j)->(j=x/\b∈fx)\/(j≠x/\b∈F j):=fun j b h=>by
  by_cases z:j=x
  ·rw[if_pos z] at h; exact .inl ⟨z,h⟩
  ·rw[if_neg z] at h; exact .inr ⟨z,h⟩
 refine⟨fun b u e=>h12 b (fun z=>by rw[z,l0] at e; cases e) u (f.sub b u e),fun b z=>?_,by rw[List.length_set]; exact f.len,f.pn,fun j=>?_,fun i j b h1 h2=>?_,fun j b h=>?_,fun j z hz=>?_,fun j hj=>?_⟩
 ·by_cases q:b=l
  ·rw[q]; exact h2l
  ·have:=f.nok b (.inl z);cases e:H b with
   | none=>exact absurd e this
   | some u=>rw[h12 b q u e]; simp
 ·by_cases z:j=x
  ·simp only[if_pos z]; exact hfx
  ·simp only[if_neg z]; exact f.nd j
 ·rcases mem i b h1 with ⟨z1,q1⟩ | ⟨z1,q1⟩ <;> rcases mem j b h2 with ⟨z2,q2⟩ | ⟨z2,q2⟩
  ·rw[z1,z2]
  ·rcases hin b q1 with w | w
   ·exact absurd (f.dj j x b q2 w) z2
   ·exact absurd (.inr w) (f.fr j b q2).2
  ·rcases hin b q2 with w | w
   ·exact absurd (f.dj i x b q1 w) z1
   ·exact absurd (.inr w) (f.fr i b q1).2
  ·exact f.dj i j b q1 q2
 ·rcases mem j b h with ⟨z,q⟩ | ⟨z,q⟩
  ·rcases hin b q with w | w
   ·exact⟨(f.fr x b w).1,fun y=>(f.fr x b w).2 (.inl y)⟩
   ·exact fr b w
  ·exact⟨(f.fr j b q).1,fun y=>(f.fr j b q).2 (.inl y)⟩
 ·by_cases q:j=x
  ·subst q;rw[List.getElem?_set_self hx] at hz;cases hz;exact⟨_,hσ,by simp only[if_true]; exact hy⟩
  ·rw[List.getElem?_set_ne fun y=>q y.symm] at hz;obtain⟨w,h1,h2⟩:=f.rel j z hz;refine⟨w,h1,?_⟩;simp only[if_neg q];refine h2.mono (fun b u e=>?_) fun b hb u e=>h12 b (fun y=>q (f.dj j x b hb (y ▸ hl))) u e;obtain⟨g1,g2⟩:=az.mp e;have bl:b≠l:=fun y=>g1 (.inr ⟨x,y ▸ hl⟩);refine az.mpr ⟨fun y=>?_,h12 b bl u g2⟩;rcases y with y | ⟨i,y⟩
   ·exact g1 (.inl (.inl y))
   ·rcases mem i b y with ⟨z1,q1⟩ | ⟨z1,q1⟩
    ·rcases hin b q1 with w | w
     ·exact g1 (.inr ⟨x,w⟩)
     ·exact g1 (.inl (.inr w))
    ·exact g1 (.inr ⟨i,q1⟩)
 ·by_cases q:j=x
  ·subst q;exact absurd (List.getElem?_set_self hx) (hj y)
  ·simp only[if_neg q];exact f.em j fun z w=>hj z (by rw[List.getElem?_set_ne fun y=>q y.symm]; exact w)
theorem OwnL.snoc (h:P v d g):∀{vs ds fp},OwnL P vs ds fp->OwnL P (vs++[v]) (ds++[d]) (fp++g)
 | _,_,_,.nil=>by simpa using OwnL.cons h .nil
 | _,_,_,.cons h0 q=>by
  rw[List.cons_append,List.cons_append,List.append_assoc];exact .cons h0 (OwnL.snoc h q)
theorem C4 {x:Nat}{k:Nat}{xs:List D}{v:KD}{w:V}(fv:FrV W E0 N pin A σ H v w)(hx:A[x]? = some (some (k+1,.lst xs))) :
  ∃l ws,σ[x]? = some (some (.ref l))/\H l=some (.lst ws)/\ws.length=xs.length/\∃F',FrF W E0 N pin (A.set x (some (bN k xs v+1,.lst (xs++[v.2])))) σ (upd H l (.lst (ws++[w]))) F':=by
 obtain⟨fp,F,f,nd,fr,o⟩:=fv;obtain⟨z,hσ,l,ws,fq,rfl,e2,e3,e4⟩:=f.rel x _ hx;have hl:l∈F x:=by rw[e4]; exact bM
 have hxl:x<A.length:=(dN hx).1;have ndx:=f.nd x;rw[e4] at ndx;obtain⟨lq,ndq⟩:=List.nodup_cons.mp ndx;have lfp:l∉fp:=fun z=>(f.fr x l hl).2 (.inr z);have qF:∀b∈fq,b∈F x:=fun b hb=>by rw[e4]; exact bD _ hb
 have h12:∀b,b≠l->∀u,H b=some u->(L2.upd H l (.lst (ws++[w]))) b=some u:=fun b nb u e=>by rw[bc nb]; exact e
 refine⟨l,ws,hσ,e2,e3.length,?_⟩;have deep:∀j,aK j v=true->(xs.all fun d=>aK j (k,d))=true->∃F',FrF W E0 N pin (A.set x (some (j+1,.lst (xs++[v.2])))) σ (L2.upd H l (.lst (ws++[w]))) F':=fun j h1 h2=>by
  refine⟨_,f.upd (fx:=l::(fq++fp)) (y:=(j+1,.lst (xs++[v.2]))) fr hl hxl hσ ?_ (fun b hb=>?_) h12 (by rw[bA]; simp) ⟨l,_,fq++fp,rfl,bA,?_,rfl⟩⟩
  ·refine List.nodup_cons.mpr ⟨fun z=>(dI z).elim lq lfp,List.nodup_append.mpr ⟨ndq,nd,fun b hb c hc z=>?_⟩⟩;subst z;exact (f.fr x b (qF b hb)).2 (.inr hc)
  ·rcases cz hb with z | z
   ·rw[z]; exact .inl hl
   ·exact (dI z).imp (qF b) id
  ·have sub:Sub (hid (ao (fun b=>N b\/b∈fp) F) H) (hid (ao N fun i=>if i=x then l::(fq++fp) else F i) (L2.upd H l (.lst (ws++[w])))):=fun b u e=>by
    obtain⟨g1,g2⟩:=az.mp e;have bl:b≠l:=fun y=>g1 (.inr ⟨x,y ▸ hl⟩);refine az.mpr ⟨fun y=>?_,h12 b bl u g2⟩;rcases y with y | ⟨i,y⟩
    ·exact g1 (.inl (.inl y))
    ·by_cases z:i=x
     ·simp only[if_pos z] at y;rcases cz y with q | q
      ·exact bl q
      ·rcases dI q with q | q
       ·exact g1 (.inr ⟨x,qF b q⟩)
       ·exact g1 (.inl (.inr q))
     ·simp only[if_neg z] at y;exact g1 (.inr ⟨i,y⟩)
   refine OwnL.snoc ((o.at h1).mono sub fun b hb u e=>h12 b (fun z=>lfp (z ▸ hb)) u e) ?_;have e5:=e3.re (Q:=Own W (hid (ao (fun b=>N b\/b∈fp) F) H) H j) (b:=fun d=>aK j (k,d)) (fun v d g hb o=>Own.at hb o) h2;exact e5.imp fun v d g hg o=>o.mono sub fun b hb u e=>h12 b (fun z=>lq (z ▸ hg b hb)) u e
 unfold bN;by_cases c1:aK k v=true
 ·rw[if_pos c1];refine deep k c1 (List.all_eq_true.mpr fun d _=>?_);unfold aK;simp
 ·rw[if_neg c1];by_cases c2:(xs.all fun d=>aK v.1 (k,d))=true
  ·rw[if_pos c2];refine deep v.1 ?_ c2;unfold aK;simp
  ·rw[if_neg c2];refine⟨_,f.upd (fx:=[l]) (y:=(1,.lst (xs++[v.2]))) fr hl hxl hσ (by simp) (fun b hb=>by rw[List.mem_singleton.mp hb]; exact .inl hl) h12 (by rw[bA]; simp) ⟨l,_,[],rfl,bA,OwnL.zero ?_,rfl⟩⟩;have sub:Sub (hid (ao (fun b=>N b\/b∈fp) F) H) (hid (ao N fun i=>if i=x then [l] else F i) (L2.upd H l (.lst (ws++[w])))):=fun b u e=>by
    obtain⟨g1,g2⟩:=az.mp e;have bl:b≠l:=fun y=>g1 (.inr ⟨x,y ▸ hl⟩);refine az.mpr ⟨fun y=>?_,h12 b bl u g2⟩;rcases y with y | ⟨i,y⟩
    ·exact g1 (.inl (.inl y))
    ·by_cases z:i=x
     ·simp only[if_pos z] at y; exact bl (List.mem_singleton.mp y)
     ·simp only[if_neg z] at y;exact g1 (.inr ⟨i,y⟩)
   have see:∀b,(b∈fq\/b∈fp)->∀u,H b=some u->hid (ao N fun i=>if i=x then [l] else F i) (L2.upd H l (.lst (ws++[w]))) b=some u:=fun b hb u e=>by
    have bl:b≠l:=fun z=>hb.elim (fun y=>lq (z ▸ y)) fun y=>lfp (z ▸ y);refine az.mpr ⟨fun y=>?_,h12 b bl u e⟩;rcases y with y | ⟨i,y⟩
    ·rcases hb with q | q
     ·exact (f.fr x b (qF b q)).2 (.inl y)
     ·exact (fr b q).2 y
    ·by_cases z:i=x
     ·simp only[if_pos z] at y; exact bl (List.mem_singleton.mp y)
     ·simp only[if_neg z] at y;rcases hb with q | q
      ·exact z (f.dj i x b y (qF b q))
      ·exact (f.fr i b y).2 (.inr q)
   exact (e3.dens fun v d g hg o=>o.den sub fun b hb u e=>see b (.inl (hg b hb)) u e).append (.cons (o.den sub fun b hb u e=>see b (.inr hb) u e) .nil)
theorem Dc (hK:W.K=X.K)(h:bt W G n io E (.mut x [] .append [e]) Dn σ H):cD (gu X.K "list" dY (bR x) (cX (aE W G (Ip.run G n) e E) d5)) Dn σ H:=by
 obtain⟨E0,N,pin,A,F,hp,f,h⟩:=h;rw[Ip.nn] at h;by_cases c:bL A[x]? = true
 rotate_left
 ·rw[if_neg c] at h; exact h.elim
 rw[if_pos c] at h;have hs:∃k xs,A[x]? = some (some (k,.lst xs)):=by
  cases q:A[x]? with
  | none=>rw[q] at c; cases c
  | some o=>
   rw[q] at c;cases o with
   | none=>cases c
   | some y=>
    obtain⟨k,d⟩:=y;cases d <;> first | exact⟨k,_,rfl⟩ | cases c
 obtain⟨k,xs,hx⟩:=hs;obtain⟨v,hv,ow⟩:=f.rel x _ hx;have dv:Den W H v (.lst xs):=ow.den bm fun _ _ _ e=>e;unfold cD gu;refine⟨v,hv,?_,?_⟩
 ·cases dv with | @lst l ws _ h1 h2=>?_
  exact .inl ⟨rfl,ws,.inl h1⟩
 simp only[Ip.bB,bj,Ip.R.toO,Ip.R.bind] at h;unfold cX;refine jR f ?_;cases q:Ip.eval G (Ip.run G n) A.sl e with
 | bad=>rw[q] at h; exact h
 | exc c fs=>rw[q] at h; exact fun a H' r=>h a σ H' r
 | ok y=>
  rw[q] at h;simp only[en] at h;have e1:(if ([y].all fun v=>v.2.fb v.1)=true then A else frz (Ex.namess [e]) A)=Ip.settle e.names A y:=by
   unfold Ip.settle;simp
  rw[e1] at h;intro w H1 fv;cases q2:(Ip.settle e.names A y)[x]? with
  | none=>rw[q2] at h; exact h.elim
  | some o=>
   rw[q2] at h;cases o with
   | none=>exact h.elim
   | some z=>
    obtain⟨k',d⟩:=z;cases k' with
    | zero=>cases d <;> exact h.elim
    | succ k'=>
     cases d <;> try (exact h.elim)
     rename_i ys;simp only[fJ,Ip.tZ,Ip.Ab] at h;by_cases hl:ys.length<SL
     ·rw[if_pos hl] at h;obtain⟨l,ws,g1,g2,g3,F',g4⟩:=C4 fv q2;rw[hv] at g1;cases g1;exact⟨l,ws,w,rfl,rfl,g2,by rw[g3]; exact dW hl (by decide),h _ _ _ g4⟩
     ·rw[if_neg hl] at h; exact h.elim
end
theorem OwnF.put (nd:att.Nodup)(hn:att[f]? = some n)(h:P v d g):∀{vs ds fp},OwnF att P vs ds fp->(fp++g).Nodup ->
  ∃fz:List Addr,OwnF att P (putF n v vs) (Ip.putF f d ds) fz/\fz.Nodup/\∀b∈fz,b∈fp\/b∈g
 | _,_,_,.nil,hd=>⟨g,by
   have:=OwnF.cons hn h (OwnF.nil (att:=att) (P:=P));rw[List.append_nil] at this;exact this,by simpa using hd,fun b hb=>.inr hb⟩
 | _,_,_,.cons (n:=m) (i:=i) (f:=f0) (g:=g0) hi h0 q,hd=>by
  unfold putF Ip.putF;have hd1:=List.nodup_append.mp hd;have hd2:=List.nodup_append.mp hd1.1;by_cases e:i=f
  ·subst e;have:m=n:=by rw[hn] at hi; exact (bV hi).symm
   subst this;rw[if_pos rfl,if_pos rfl];refine⟨g++g0,.cons hi h q,List.nodup_append.mpr ⟨hd1.2.1,hd2.2.1,fun a ha b hb z=>?_⟩,fun b hb=>?_⟩
   ·exact hd1.2.2 b (bS _ hb) a ha z.symm
   ·rcases dI hb with z | z
    ·exact .inr z
    ·exact .inl (bS _ z)
  ·have nm:m≠n:=fun z=>e (r8 nd hi (by rw[z]; exact hn));rw[if_neg e,if_neg nm];obtain⟨fz,k1,k2,k3⟩:=q.put nd hn h (List.nodup_append.mpr ⟨hd2.2.1,hd1.2.1,fun a ha b hb z=>hd1.2.2 a (bS _ ha) b hb z⟩);refine⟨f0++fz,.cons hi h0 k1,List.nodup_append.mpr ⟨hd2.1,k2,fun a ha b hb z=>?_⟩,fun b hb=>?_⟩
   ·rcases k3 b hb with w | w
    ·exact hd2.2.2 a ha b w z
    ·exact hd1.2.2 a (dL _ ha) b w z
   ·rcases dI hb with z | z
    ·exact .inl (dL _ z)
    ·exact (k3 b z).imp (bS _) id
theorem OwnF.length:∀{vs ds fp},OwnF att P vs ds fp->vs.length=ds.length
 | _,_,_,.nil=>rfl
 | _,_,_,.cons _ _ q=>by rw[List.length_cons,List.length_cons,q.length]
theorem OwnF.zero:∀{vs ds},DenF W S vs ds->OwnF W.att (Own W S H 0) vs ds []
 | _,_,.nil=>.nil
 | _,_,.cons hf h q=>OwnF.cons (f:=[]) (g:=[]) hf ⟨rfl,h⟩ (OwnF.zero q)
section
variable {X:Cx}{W:Wd}{G:Pg}{n:Nat}{io:List Nat}{E:St->XK}{E0:Hp}{N:Addr->Prop}{pin:List (Nat×V)}{A:Fr}{σ:St}{H:Hp}{F:Nat->List Addr}
theorem tP (nda:W.att.Nodup)(hnm:W.att[f]? = some nm)(fr0:FrF W E0 (fun b=>N b\/b∈fp) pin A σ H F)(nd:fp.Nodup)(fr:∀b∈fp,E0 b=none/\¬N b)
  (o:Own W (hid (ao (fun b=>N b\/b∈fp) F) H) H v.1 w v.2 fp)(hxl:x<A.length)(hσ:σ[x]? = some (some (.ref l)))(e4:F x=l::fq)(e3:OwnF W.att (Own W (hid (ao (fun b=>N b\/b∈fp) F) H) H k) ws fs fq)
  (h12:∀b,b≠l->∀u,H b=some u->H2 b=some u)(h2l:H2 l≠none)
  (own:∀j fz S,OwnF W.att (Own W S H2 j) (putF nm w ws) (Ip.putF f v.2 fs) fz->Own W S H2 (j+1) (.ref l) dd (l::fz)) :
  ∃F',FrF W E0 N pin (A.set x (some (bN k (fs.map (·.2)) v+1,dd))) σ H2 F':=by
 have hl:l∈F x:=by rw[e4]; exact bM
 have ndx:=fr0.nd x;rw[e4] at ndx;obtain⟨lq,ndq⟩:=List.nodup_cons.mp ndx;have lfp:l∉fp:=fun z=>(fr0.fr x l hl).2 (.inr z);have qF:∀b∈fq,b∈F x:=fun b hb=>by rw[e4]; exact bD _ hb
 have ndc:(fq++fp).Nodup:=List.nodup_append.mpr ⟨ndq,nd,fun b hb c hc z=>by subst z; exact (fr0.fr x b (qF b hb)).2 (.inr hc)⟩;have sub:∀fz:List Addr,(∀b∈fz,b∈fq\/b∈fp)->Sub (hid (ao (fun b=>N b\/b∈fp) F) H) (hid (ao N fun i=>if i=x then l::fz else F i) H2):=fun fz hz b u e=>by
  obtain⟨g1,g2⟩:=az.mp e;have bl:b≠l:=fun y=>g1 (.inr ⟨x,y ▸ hl⟩);refine az.mpr ⟨fun y=>?_,h12 b bl u g2⟩;rcases y with y | ⟨i,y⟩
  ·exact g1 (.inl (.inl y))
  ·by_cases z:i=x
   ·simp only[if_pos z] at y;rcases cz y with q | q
    ·exact bl q
    ·rcases hz b q with q | q
     ·exact g1 (.inr ⟨x,qF b q⟩)
     ·exact g1 (.inl (.inr q))
   ·simp only[if_neg z] at y;exact g1 (.inr ⟨i,y⟩)
 have deep:∀j,aK j v=true->((fs.map (·.2)).all fun d=>aK j (k,d))=true->∃F',FrF W E0 N pin (A.set x (some (j+1,dd))) σ H2 F':=fun j h1 h2=>by
  have e5:=e3.re (Q:=Own W (hid (ao (fun b=>N b\/b∈fp) F) H) H j) (b:=fun d=>aK j (k,d)) (fun v d g hb o=>Own.at hb o) (by rw[List.all_map] at h2; exact h2);obtain⟨fz,k1,k2,k3⟩:=e5.put nda hnm (o.at h1) ndc;have lz:l∉fz:=fun z=>(k3 l z).elim lq lfp;refine⟨_,fr0.upd (fx:=l::fz) (y:=(j+1,dd)) fr hl hxl hσ (List.nodup_cons.mpr ⟨lz,k2⟩) (fun b hb=>?_) h12 h2l (own j fz _ (k1.imp fun v d g hg o=>o.mono (sub fz k3) fun b hb u e=>h12 b (fun z=>lz (z ▸ hg b hb)) u e))⟩;rcases cz hb with z | z
  ·rw[z]; exact .inl hl
  ·exact (k3 b z).imp (qF b) id
 unfold bN;by_cases c1:aK k v=true
 ·rw[if_pos c1];refine deep k c1 (List.all_eq_true.mpr fun d _=>?_);unfold aK;simp
 ·rw[if_neg c1];by_cases c2:((fs.map (·.2)).all fun d=>aK v.1 (k,d))=true
  ·rw[if_pos c2];refine deep v.1 ?_ c2;unfold aK;simp
  ·rw[if_neg c2];have sub0:=sub [] (fun b z=>by simp at z);have see:∀b,(b∈fq\/b∈fp)->∀u,H b=some u->hid (ao N fun i=>if i=x then [l] else F i) H2 b=some u:=fun b hb u e=>by
    have bl:b≠l:=fun z=>hb.elim (fun y=>lq (z ▸ y)) fun y=>lfp (z ▸ y);refine az.mpr ⟨fun y=>?_,h12 b bl u e⟩;rcases y with y | ⟨i,y⟩
    ·rcases hb with q | q
     ·exact (fr0.fr x b (qF b q)).2 (.inl y)
     ·exact (fr b q).2 y
    ·by_cases z:i=x
     ·simp only[if_pos z] at y; exact bl (List.mem_singleton.mp y)
     ·simp only[if_neg z] at y;rcases hb with q | q
      ·exact z (fr0.dj i x b y (qF b q))
      ·exact (fr0.fr i b y).2 (.inr q)
   have dn:DenF W (hid (ao N fun i=>if i=x then [l] else F i) H2) (putF nm w ws) (Ip.putF f v.2 fs):=
    (e3.dens fun v d g hg o=>o.den sub0 fun b hb u e=>see b (.inl (hg b hb)) u e).put nda hnm (o.den sub0 fun b hb u e=>see b (.inr hb) u e)
   exact⟨_,fr0.upd (fx:=[l]) (y:=(1,dd)) fr hl hxl hσ (by simp) (fun b hb=>by rw[List.mem_singleton.mp hb]; exact .inl hl) h12 h2l (own 0 [] _ (OwnF.zero dn))⟩
theorem zS (hK:W.K=X.K)(cf:CF W fl)(hk:k∈fl)(hnm:W.att[k]? = some nm)(h:bt W G n io E (.sfld x k e) Dn σ H) :
  iS X.K (bR x) (aE W G (Ip.run G n) e E) nm Dn σ H\/hU X.K (bR x) (aE W G (Ip.run G n) e E) nm Dn σ H:=by
 obtain⟨E0,N,pin,A,F,hp,f,h⟩:=h;rw[Ip.Am] at h;cases q:Ip.eval G (Ip.run G n) A.sl e with
 | bad=>rw[q] at h; exact h.elim
 | exc c fs=>
  refine .inl ?_;unfold iS;refine jR f ?_;rw[q] at h ⊢;exact fun a H' r=>h a σ H' r
 | ok v=>
  rw[q] at h;simp only[Ip.R.toO] at h;cases q2:(Ip.settle e.names A v)[x]? with
  | none=>rw[q2] at h; exact h.elim
  | some oo=>
   rw[q2] at h;cases oo with
   | none=>exact h.elim
   | some z=>
    obtain⟨k',d⟩:=z;have hxl:x<(Ip.settle e.names A v).length:=(dN q2).1;cases k' with
    | zero=>cases d <;> exact h.elim
    | succ k'=>
     cases d <;> try (exact h.elim)
     ·rename_i c fs;simp only[Ip.gc] at h;by_cases hl:fs.length<50
      rotate_left
      ·rw[if_neg hl] at h; exact h.elim
      rw[if_pos hl] at h;refine .inl ?_;unfold iS;refine jR f ?_;rw[q];rintro w H1 ⟨fp,F1,f1,nd,fr,o⟩;obtain⟨z,hσ,a,C,dx,ws,fq,rfl,e2,hC,e3,e4⟩:=f1.rel x _ q2;obtain⟨ic,na⟩:=cf.ins c C hC;refine⟨_,hσ,a,C,dx,ws,rfl,e2,hK ▸ ic.cls,hK ▸ na k nm hk hnm,by rw[e3.length]; omega,?_⟩;obtain⟨F',g⟩:=tP (H2:=L2.upd H1 a (.ins C dx (putF nm w ws))) (dd:=.ins c (Ip.putF k v.2 fs)) cf.nd hnm f1 nd fr o hxl hσ e4 e3 (fun b nb u e=>by rw[bc nb]; exact e) (by rw[bA]; simp)
       (fun j fz S hz=>⟨a,C,dx,_,fz,rfl,bA,hC,hz,rfl⟩)
      exact h _ _ _ g
     ·rename_i c fs;simp only[Ip.gc] at h;by_cases hl:fs.length<50
      rotate_left
      ·rw[if_neg hl] at h; exact h.elim
      rw[if_pos hl] at h;refine .inr ?_;unfold hU;refine jR f ?_;rw[q];rintro w H1 ⟨fp,F1,f1,nd,fr,o⟩;obtain⟨z,hσ,a,C,nw,ws,fq,rfl,e2,hC,e3,e4⟩:=f1.rel x _ q2;obtain⟨ic,na⟩:=cf.exc c C hC.1;obtain⟨fI,tl,T⟩:=ic.xc;refine⟨_,hσ,a,C,fI,tl,nw,ws,rfl,e2,hK ▸ T,hK ▸ na k nm hk hnm,by rw[e3.length]; omega,fun H3 h3 h4=>?_⟩;obtain⟨F',g⟩:=tP (H2:=H3) (dd:=.exc c (Ip.putF k v.2 fs)) cf.nd hnm f1 nd fr o hxl hσ e4 e3 (fun b nb u e=>h4 b u nb e) (by rw[h3]; simp)
       (fun j fz S hz=>⟨a,C,nw,_,fz,rfl,h3,hC,hz,rfl⟩)
      exact h _ _ _ g
end
section
variable {X:Cx}{W:Wd}{G:Pg}{n:Nat}{io:List Nat}{E:St->XK}{E0:Hp}{N:Addr->Prop}{pin:List (Nat×V)}{A:Fr}{σ:St}{H:Hp}{F:Nat->List Addr}
theorem qV (fv:FrV W E0 N pin A σ H v w)(hx:A[x]? = some (some (k+1,.lst xs))) :
  ∃l ws,σ[x]? = some (some (.ref l))/\H l=some (.lst ws)/\ws.length=xs.length/\Dens W H ws xs/\Den W H w v.2 /\
   ∀ws' ds',(∀S,Dens W S ws xs->Den W S w v.2->Dens W S ws' ds')->∃F',FrF W E0 N pin (A.set x (some (1,.lst ds'))) σ (upd H l (.lst ws')) F':=by
 obtain⟨fp,F,f,nd,fr,o⟩:=fv;obtain⟨z,hσ,l,ws,fq,rfl,e2,e3,e4⟩:=f.rel x _ hx;have hl:l∈F x:=by rw[e4]; exact bM
 have hxl:x<A.length:=(dN hx).1;have ndx:=f.nd x;rw[e4] at ndx;obtain⟨lq,ndq⟩:=List.nodup_cons.mp ndx;have lfp:l∉fp:=fun z=>(f.fr x l hl).2 (.inr z);have qF:∀b∈fq,b∈F x:=fun b hb=>by rw[e4]; exact bD _ hb
 refine⟨l,ws,hσ,e2,e3.length,e3.dens fun v d g hg o=>o.den bm fun b hb u e=>e,o.den bm fun b hb u e=>e,fun ws' ds' hd=>?_⟩;have h12:∀b,b≠l->∀u,H b=some u->(L2.upd H l (.lst ws')) b=some u:=fun b nb u e=>by rw[bc nb]; exact e
 refine⟨_,f.upd (fx:=[l]) (y:=(1,.lst ds')) fr hl hxl hσ (by simp) (fun b hb=>by rw[List.mem_singleton.mp hb]; exact .inl hl) h12 (by rw[bA]; simp) ⟨l,_,[],rfl,bA,OwnL.zero ?_,rfl⟩⟩;have sub:Sub (hid (ao (fun b=>N b\/b∈fp) F) H) (hid (ao N fun i=>if i=x then [l] else F i) (L2.upd H l (.lst ws'))):=fun b u e=>by
  obtain⟨g1,g2⟩:=az.mp e;have bl:b≠l:=fun y=>g1 (.inr ⟨x,y ▸ hl⟩);refine az.mpr ⟨fun y=>?_,h12 b bl u g2⟩;rcases y with y | ⟨i,y⟩
  ·exact g1 (.inl (.inl y))
  ·by_cases z:i=x
   ·simp only[if_pos z] at y; exact bl (List.mem_singleton.mp y)
   ·simp only[if_neg z] at y;exact g1 (.inr ⟨i,y⟩)
 have see:∀b,(b∈fq\/b∈fp)->∀u,H b=some u->hid (ao N fun i=>if i=x then [l] else F i) (L2.upd H l (.lst ws')) b=some u:=fun b hb u e=>by
  have bl:b≠l:=fun z=>hb.elim (fun y=>lq (z ▸ y)) fun y=>lfp (z ▸ y);refine az.mpr ⟨fun y=>?_,h12 b bl u e⟩;rcases y with y | ⟨i,y⟩
  ·rcases hb with q | q
   ·exact (f.fr x b (qF b q)).2 (.inl y)
   ·exact (fr b q).2 y
  ·by_cases z:i=x
   ·simp only[if_pos z] at y; exact bl (List.mem_singleton.mp y)
   ·simp only[if_neg z] at y;rcases hb with q | q
    ·exact z (f.dj i x b y (qF b q))
    ·exact (f.fr i b y).2 (.inr q)
 exact hd _ (e3.dens fun v d g hg o=>o.den sub fun b hb u e=>see b (.inl (hg b hb)) u e) (o.den sub fun b hb u e=>see b (.inr hb) u e)
theorem Den.scal (hs:d.scal=true)(h:Den W S v d):Den W S' v d:=by
 cases h <;> first | exact .non | exact .bl | exact .int | exact .str | (simp[D.scal] at hs)
theorem Dens.scal:∀{vs:List V} {ds:List D},ds.all D.scal=true->Dens W S vs ds->Dens W S' vs ds
 | _,_,_,.nil=>.nil
 | _,_,hs,.cons h q=>by
  rw[List.all_cons,Bool.and_eq_true] at hs;exact .cons (h.scal hs.1) (q.scal hs.2)
theorem Bq {x:Nat}(c:bL A[x]? = true):∃k xs,A[x]? = some (some (k,.lst xs)):=by
 cases q:A[x]? with
 | none=>rw[q] at c; cases c
 | some o=>
  rw[q] at c;cases o with
  | none=>cases c
  | some y=>
   obtain⟨k,d⟩:=y;cases d <;> first | exact⟨k,_,rfl⟩ | cases c
theorem xD {x:Nat}{e:Ex}{Dn:Ends}(hK:W.K=X.K)(h:bt W G n io E (.mut x [] .extend [e]) Dn σ H):cD (gu X.K "list" (fun x xs H Q=>jj X.K x xs H Q\/fQ x xs H Q) (bR x) (cX (aE W G (Ip.run G n) e E) d5)) Dn σ H:=by
 obtain⟨E0,N,pin,A,F,hp,f,h⟩:=h;rw[Ip.nn] at h;by_cases c:bL A[x]? = true
 rotate_left
 ·rw[if_neg c] at h; exact h.elim
 rw[if_pos c] at h;obtain⟨k,xs,hx⟩:=Bq c;obtain⟨v,hv,ow⟩:=f.rel x _ hx;have dv:Den W H v (.lst xs):=ow.den bm fun _ _ _ e=>e;unfold cD gu;refine⟨v,hv,?_,?_⟩
 ·cases dv with | @lst l ws _ h1 h2=>?_
  exact .inl ⟨rfl,ws,.inl h1⟩
 simp only[Ip.bB,bj,Ip.R.toO,Ip.R.bind] at h;unfold cX;refine jR f ?_;cases q:Ip.eval G (Ip.run G n) A.sl e with
 | bad=>rw[q] at h; exact h
 | exc c fs=>rw[q] at h; exact fun a H' r=>h a σ H' r
 | ok y=>
  rw[q] at h;simp only[en] at h;have e1:(if ([y].all fun v=>v.2.fb v.1)=true then A else frz (Ex.namess [e]) A)=Ip.settle e.names A y:=by
   unfold Ip.settle;simp
  rw[e1] at h;intro w H1 fv;cases q2:(Ip.settle e.names A y)[x]? with
  | none=>rw[q2] at h; exact h.elim
  | some o=>
   rw[q2] at h;cases o with
   | none=>exact h.elim
   | some z=>
    obtain⟨k',d⟩:=z;cases k' with
    | zero=>cases d <;> exact h.elim
    | succ k'=>
     cases d <;> try (exact h.elim)
     rename_i ys;simp only[fJ,Ip.qA] at h;obtain⟨j,dy⟩:=y;cases dy <;> try (exact h.elim)
     ·rename_i zs;simp only at h;by_cases hl:0<j/\zs.all D.scal=true/\ys.length+zs.length<=SL
      ·rw[if_pos hl] at h;obtain⟨l,ws,g1,g2,g3,g4,g5,g6⟩:=qV fv q2;rw[hv] at g1;cases g1;obtain⟨fp,F0,f0,nd,fr,o⟩:=fv;cases j with
       | zero=>exact absurd hl.1 (Nat.lt_irrefl 0)
       | succ j=>
        obtain⟨b,vs,fq,rfl,ob,oq,_⟩:=o;have t2:Dens W H1 vs zs:=oq.dens fun v d g hg o=>o.den bm fun b hb u e=>e;obtain⟨F',g7⟩:=g6 (ws++vs) (ys++zs) fun S hS _=>hS.append (t2.scal hl.2.1);exact .inr ⟨l,b,ws,vs,rfl,rfl,g2,ob,by rw[g3,t2.length]; exact gN hl.2.2,h _ _ _ g7⟩
      ·rw[if_neg hl] at h; exact h.elim
     rename_i zs;simp only at h;by_cases hl:zs.all D.scal=true/\ys.length+zs.length<=SL
     ·rw[if_pos hl] at h;obtain⟨l,ws,g1,g2,g3,g4,g5,g6⟩:=qV fv q2;rw[hv] at g1;cases g1;cases g5 with | @tup b vs _ t1 t2=>?_
      obtain⟨F',g7⟩:=g6 (ws++vs) (ys++zs) fun S hS _=>hS.append (t2.scal hl.1);exact .inl ⟨l,b,ws,vs,rfl,rfl,g2,hK ▸ t1,by rw[g3,t2.length]; exact gN hl.2,h _ _ _ g7⟩
     ·rw[if_neg hl] at h; exact h.elim
theorem Dens.setI (h:Den W S v d):∀{vs:List V} {ds:List D} (j:Nat),Dens W S vs ds->Dens W S (vs.set j v) (ds.set j d)
 | _,_,_,.nil=>.nil
 | _,_,0,.cons _ q=>.cons h q
 | _,_,j+1,.cons h0 q=>.cons h0 (q.setI h j)
theorem Dens.at:∀{vs:List V} {ds:List D} (j:Nat),Dens W S vs ds->ds[j]? = some d->∃v,vs[j]? = some v/\Den W S v d
 | _,_,_,.nil,e=>by simp at e
 | v::_,_,0,.cons h q,e=>by
  cases e;exact⟨v,rfl,h⟩
 | _,_,j+1,.cons h0 q,e=>by
  obtain⟨v,e1,e2⟩:=q.at j (by simpa using e);exact⟨v,by simpa using e1,e2⟩
theorem xE (h:bt W G n io E (.put x [] (.var j) e) Dn σ H):jQ (bR x) (bR j) (aE W G (Ip.run G n) e E) Dn σ H:=by
 obtain⟨E0,N,pin,A,F,hp,f,h⟩:=h;rw[Ip.uz] at h;simp only[List.isEmpty_nil,if_true] at h;unfold jQ;refine jR f ?_;cases q:Ip.eval G (Ip.run G n) A.sl e with
 | bad=>rw[q] at h; exact h
 | exc c fs=>rw[q] at h; exact fun a H' r=>h a σ H' r
 | ok y=>
  rw[q] at h;simp only[Ip.R.toO,Ip.iT] at h;cases qj:A.sl[j]? with
  | none=>rw[qj] at h; exact h.elim
  | some oj=>
   cases oj with
   | none=>rw[qj] at h; exact h.elim
   | some dj=>
    rw[qj] at h;simp only at h;intro w H1 fv;cases q2:(Ip.settle e.names A y)[x]? with
    | none=>rw[q2] at h; exact h.elim
    | some o=>
     rw[q2] at h;cases o with
     | none=>exact h.elim
     | some z=>
      obtain⟨k',d⟩:=z;cases k' with
      | zero=>cases d <;> exact h.elim
      | succ k'=>
       cases d <;> try (exact h.elim)
       rename_i ys;simp only[Ip.hZ] at h;cases dj <;> try (exact h.elim)
       rename_i i;simp only at h;by_cases hl:0<=i/\i<(ys.length:Int)
       ·rw[if_pos hl] at h;obtain⟨l,ws,g1,g2,g3,g4,g5,g6⟩:=qV fv q2;obtain⟨F',g7⟩:=g6 (ws.set i.toNat w) (ys.set i.toNat y.2) fun S hS hw=>hS.setI hw _;obtain⟨kj,hj⟩:=lL qj;obtain⟨vj,s1,s2⟩:=f.rel j _ hj;have dj:Den W H vj (.int i):=s2.den bm fun _ _ _ e=>e;cases dj;exact⟨.ref l,g1,.int i,s1,l,ws,i,rfl,rfl,g2,hl.1,by rw[g3]; exact hl.2,h _ _ _ g7⟩
       ·rw[if_neg hl] at h; exact h.elim
theorem FrF.toV (f:FrF W E0 N pin A σ H F)(hs:d.scal=true)(h:Den W H w d):FrV W E0 N pin A σ H (0,d) w:=by
 have e:(fun b=>N b\/b∈([]:List Addr))=N:=by
  funext b
  simp
 exact⟨[],F,by rw[e]; exact f,.nil,fun b z=>by simp at z,⟨rfl,h.scal hs⟩⟩
end
section
variable {X:Cx}{W:Wd}{G:Pg}{n:Nat}{io:List Nat}{E:St->XK}{E0:Hp}{N:Addr->Prop}{pin:List (Nat×V)}{A:Fr}{σ:St}{H:Hp}{F:Nat->List Addr}
theorem FrX.freeze (h:FrX W E0 N pin A σ H c fs e):FrX W E0 N pin (excA A fs) σ H c fs e:=by
 obtain⟨F,f,he,C,vs,h1,h2,h3⟩:=h;unfold excA;split
 ·exact⟨F,f,he,C,vs,h1,h2,h3⟩
 ·rw[lP];exact⟨_,f.frz _,⟨he.1,fun z=>he.2 (lg z)⟩,C,vs,h1,h2,h3.mono su⟩
theorem G0 (hK:W.K=X.K)(cf:CF W fl)(h:bt W G n io E (.rais c es) Dn σ H):ft X.K (aE W G (Ip.run G n) (.make c es) E) E Dn σ H:=by
 obtain⟨E0,N,pin,A,F,hp,f,h⟩:=h;rw[Ip.wK] at h;unfold ft;refine m8 f h fun x ex hk v H' hZz=>?_;obtain⟨fp,F1,f1,nd,fr,o⟩:=hZz;obtain⟨kx,d⟩:=x;cases kx with
 | zero=>cases d <;> exact hk.elim
 | succ kx=>
  have hd:∃c' fs,d=.exc c' fs:=by
   cases d <;> first | exact⟨_,_,rfl⟩ | exact hk.elim
  obtain⟨c',fs,rfl⟩:=hd;simp only[Ip.fM] at hk;obtain⟨a,C,nw,vs,fq,rfl,e2,⟨hC,hnw⟩,e3,e4⟩:=o;subst hnw;obtain⟨ic,_⟩:=cf.exc c' C hC;obtain⟨fI,tl,T⟩:=ic.xc;have ha:a∈fp:=by rw[e4]; exact bM
  have nd':=nd;rw[e4] at nd';obtain⟨aq,ndq⟩:=List.nodup_cons.mp nd';have up:∀b,b≠a->(L2.upd H' a (.exc C false vs)) b=H' b:=fun b nb=>bc nb;have sub:Sub (hid (ao (fun b=>N b\/b∈fp) F1) H') (hid (ao N F1) (L2.upd H' a (.exc C false vs))):=fun b u e=>by
   obtain⟨g1,g2⟩:=az.mp e;have ba:b≠a:=fun z=>g1 (.inl (.inr (z ▸ ha)));refine az.mpr ⟨fun z=>g1 (z.imp .inl id),by rw[up b ba]; exact g2⟩
  refine⟨a,C,tl,vs,rfl,e2,hK ▸ T.toXO,hk a σ _ (FrX.freeze ⟨F1,?_,⟨(fr a ha).1,fun z=>z.elim (fr a ha).2 fun⟨j,y⟩=>(f1.fr j a y).2 (.inr ha)⟩,C,vs,bA,hC,?_⟩)⟩
  ·refine⟨fun b u e=>?_,fun b z=>?_,f1.len,f1.pn,f1.nd,f1.dj,fun i b hb=>⟨(f1.fr i b hb).1,fun z=>(f1.fr i b hb).2 (.inl z)⟩,fun i y hy=>?_,f1.em⟩
   ·rw[up b fun z=>by rw[z,(fr a ha).1] at e; cases e]; exact f1.sub b u e
   ·by_cases q:b=a
    ·rw[q,bA]; simp
    ·rw[up b q]; exact f1.nok b (.inl z)
   ·obtain⟨w,h1,h2⟩:=f1.rel i y hy;exact⟨w,h1,h2.mono sub fun b hb u e=>by rw[up b fun z=>(f1.fr i b hb).2 (.inr (z ▸ ha))]; exact e⟩
  ·refine e3.dens fun v d g hg o=>o.den sub fun b hb u e=>?_;have bq:=hg b hb;have ba:b≠a:=fun z=>aq (z ▸ bq);have bf:b∈fp:=by rw[e4]; exact bD _ bq
   refine az.mpr ⟨fun z=>?_,by rw[up b ba]; exact e⟩;rcases z with z | ⟨j,z⟩
   ·exact (fr b bf).2 z
   ·exact (f1.fr j b z).2 (.inr bf)
theorem pK (f:FrF W E0 N pin A σ H F)(h:PostS W E0 N pin E Dn ((evals G (Ip.run G n) A.sl es).toO A k))
  (ok:∀xs,evals G (Ip.run G n) A.sl es=.ok xs->PostS W E0 N pin E Dn (k xs)->∀vs H',FrF W E0 N pin A σ H' F->Dens W H' vs (xs.map (·.2))->Q vs H'):bh W G (Ip.run G n) es E σ H Q:=by
 have f1:=f.frz (Ex.namess es);have hN:NOk (ao N (aV (Ex.namess es) F)) H:=fun b z=>z.elim (f.nok b) fun⟨j,q⟩=>f1.dom q;refine⟨ao N (aV (Ex.namess es) F),mask (Ex.namess es) A.sl,hN,fun i d hi=>?_,?_⟩
 ·obtain⟨h1,h2⟩:=ot hi;obtain⟨k,h3⟩:=lL h2;exact f.see h1 h3
 rw[<-zAV (a:=A.sl) es fun i hi=>nN hi];cases q:evals G (Ip.run G n) A.sl es with
 | bad=>rw[q] at h; exact h
 | exc c fs=>rw[q] at h; exact fun a H' r=>h a σ H' (f.excIn r)
 | ok xs=>
  rw[q] at h;intro vs H' r;have g:=f.grow r.1 (fp:=[]) fun b z=>by simp at z
  have:(fun b=>N b\/b∈([]:List Addr))=N:=funext fun b=>propext (by simp);rw[this] at g;exact ok xs q h vs H' g ((r.dens hN).mono bm)
theorem FH (hK:W.K=X.K)(cf:CF W fl)(hl:es.length<=100)(h:bt W G n io E (.xinit es) Dn σ H):cD (fj X.K (bh W G (Ip.run G n) es E)) Dn σ H:=by
 obtain⟨E0,N,pin,A,F,hp,f,h⟩:=h;rw[Ip.Ez] at h;unfold cD fj;refine pK f h fun xs ex hk vs H' f' dv=>?_;have hlen:=i5 ex;match xs,vs,dv,hk with
 | [],_,_,hk=>exact hk.elim
 | (k,d)::xs,v::vs,.cons h1 h2,hk=>
  cases h1 <;> try (exact hk.elim)
  rename_i a C nw c ws ds e1 e2 e3;obtain⟨ic,_⟩:=cf.exc c C e2;obtain⟨fI,tl,T⟩:=ic.xc;refine⟨a,C,fI,tl,nw,ws,vs,rfl,?_,e1,hK ▸ T,hk _ _ _ f'⟩;rw[h2.length,List.length_map];rw[List.length_cons] at hlen;omega
theorem FrX.caught (h:FrX W E0 N pin A σ H c fs e)(hx:∀p∈pin,p.1≠x)(hi:∀p∈pin,p.1≠i)(hix:i≠x)(hl:x<A.length) :
  ∃F,FrF W E0 N pin ((A.set x (some (0,.exc c fs))).set i none) (((σ.set i (some (.ref e))).set x (some (.ref e))).set i none) H F:=by
 obtain⟨F,f,he,C,vs,h1,h2,h3⟩:=h;have hd:Den W (hid (ao N F) H) (.ref e) (.exc c fs):=.exc (az.mpr ⟨he.2,h1⟩) h2 h3;have g:=f.set0 hd hx hl;have sub:Sub (hid (ao N (aV [x] F)) H) (hid (ao N (aV [i] (aV [x] F))) H):=su;have e1:((σ.set i (some (.ref e))).set x (some (.ref e))).set i none=(σ.set x (some (.ref e))).set i none:=by
  apply List.ext_getElem?;intro j;by_cases z:i=j
  ·subst z;simp only[List.getElem?_set_self',List.getElem?_set_ne (fun y=>hix y.symm),List.getElem?_set];simp[List.length_set]
  ·rw[List.getElem?_set_ne z,List.getElem?_set_ne z];by_cases y:x=j
   ·subst y;simp[List.getElem?_set]
   ·rw[List.getElem?_set_ne y,List.getElem?_set_ne y,List.getElem?_set_ne z]
 rw[e1];refine⟨aV [i] (aV [x] F),g.sub,g.nok,by simpa using g.len,fun p hp=>by rw[List.getElem?_set_ne fun z=>hi p hp z.symm]; exact g.pn p hp,fun j=>?_,fun j k b q1 q2=>g.dj j k b (ff q1).2 (ff q2).2,fun j b hb=>g.fr j b (ff hb).2,fun j y hy=>?_,fun j hj=>?_⟩
 ·unfold aV;split
  ·exact .nil
  ·exact g.nd j
 ·by_cases z:j=i
  ·subst z;by_cases w:j<(A.set x (some (0,.exc c fs))).length
   ·rw[List.getElem?_set_self w] at hy; cases hy
   ·rw[List.getElem?_eq_none (by rw[List.length_set]; omega)] at hy; cases hy
  ·rw[List.getElem?_set_ne fun y=>z y.symm] at hy;obtain⟨w,k1,k2⟩:=g.rel j y hy;refine⟨w,by rw[List.getElem?_set_ne fun y=>z y.symm]; exact k1,?_⟩;have:aV [i] (aV [x] F) j=aV [x] F j:=by
    show (if j∈[i] then [] else aV [x] F j)=_;rw[if_neg (by simpa using z)]
   rw[this];exact k2.mono sub fun _ _ _ e=>e
 ·by_cases z:j=i
  ·show (if j∈[i] then [] else aV [x] F j)=_;rw[if_pos (by simpa using z)]
  ·show (if j∈[i] then [] else aV [x] F j)=_;rw[if_neg (by simpa using z)];exact g.em j fun y w=>hj y (by rw[List.getElem?_set_ne fun y=>z y.symm]; exact w)
theorem FB (hcl:∀c' C fs,W.xA c'=some C->aA G (.exc c' fs) (.cls c)=true->∃tl,XO X.K C tl/\Wa∈C::tl)(h:bt W G n io E (.tryE b c i x) Dn σ H) :
  jJ X.K Wa i (fun Ec=>dH W G n io Ec b) (gW (bR i) (dA x)) Dn σ H:=by
 obtain⟨E0,N,pin,A,F,hp,f,h⟩:=h;rw[Ip.vJ] at h;unfold jJ;refine⟨E0,N,pin,A,F,hp,f,?_⟩;cases q:Ip.execs G (Ip.run G n) io A b with
 | nx A'=>rw[q] at h; exact h
 | ret k d A'=>rw[q] at h; exact h
 | brk A'=>rw[q] at h; exact h
 | cnt A'=>rw[q] at h; exact h
 | bad=>rw[q] at h; exact h
 | exc c' fs A'=>
  rw[q] at h;simp only[Ip.h8] at h;by_cases ht:aA G (.exc c' fs) (.cls c)=true
  rotate_left
  ·rw[if_neg ht] at h; exact h.elim
  rw[if_pos ht] at h;unfold b7 at h;by_cases c1:io.contains x=false/\x<A'.length
  rotate_left
  ·rw[if_neg c1] at h; exact h.elim
  rw[if_pos c1] at h;simp only[O.seq] at h;by_cases c2:io.contains i=false/\i≠x/\i<(A'.set x (some (0,.exc c' fs))).length
  rotate_left
  ·rw[if_neg c2] at h; exact h.elim
  rw[if_pos c2] at h;intro e σ1 H1 fx;obtain⟨F1,f1,he,C,vs,g1,g2,g3⟩:=id fx;obtain⟨tl,xo,hin⟩:=hcl c' C fs g2 ht;have il:i < σ1.length:=by rw[f1.len]; have:=c2.2.2; rw[List.length_set] at this; exact this
  refine⟨e,C,tl,vs,rfl,g1,xo,hin,.ref e,List.getElem?_set_self il,?_⟩;obtain⟨F2,f2⟩:=fx.caught (oA hp c1.1) (oA hp c2.1) c2.2.1 c1.2;exact h _ _ _ f2
end
section
variable {X:Cx}{W:Wd}{G:Pg}{n:Nat}{io:List Nat}{E:St->XK}{E0:Hp}{N:Addr->Prop}{pin:List (Nat×V)}{A:Fr}{σ:St}{H:Hp}{F:Nat->List Addr}
theorem wv (h:xs.all D.scal=true):D.flats xs=true:=by
 rw[Ip.rj,List.all_eq_true];intro d hd;have:=dF h d hd;cases d <;> first | rfl | cases this
theorem OwnL.updAt (hx:xs.all D.scal=true):∀{vs ds fq} {i:Nat},OwnL (Own W S H (k+1)) vs ds fq->fq.Nodup->ds[i]? = some (.lst xs) ->
  ∃a ws,vs[i]? = some (.ref a)/\a∈fq/\H a=some (.lst ws)/\Dens W S ws xs/\∀S2 H2 ws' xs',Sub S S2->(∀b∈fq,b≠a->∀u,H b=some u->H2 b=some u)->H2 a=some (.lst ws')->xs'.all D.scal=true->Dens W S2 ws' xs'->OwnL (Own W S2 H2 (k+1)) vs (ds.set i (.lst xs')) fq
 | _,_,_,i,.nil,_,h=>by simp at h
 | _,_,_,0,.cons (f:=f0) (g:=g0) h0 q,nd,h=>by
  simp at h;subst h;obtain⟨a,ws,fq0,rfl,e2,e3,e4⟩:=h0;obtain⟨z1,z2⟩:=OwnL.flat_inv (fun v d f hd o=>Own.flat_inv hd o) (wv hx) e3;subst z1;obtain⟨n1,n2,n3⟩:=List.nodup_append.mp nd;have af:a∈f0:=by rw[e4]; exact bM
  refine⟨a,ws,rfl,dL _ af,e2,z2,fun S2 H2 ws' xs' hs hb h2 hx' hw=>?_⟩;rw[List.set_cons_zero];exact .cons ⟨a,ws',[],rfl,h2,OwnL.flat (fun v d hd q=>Own.flat hd q) (wv hx') hw,e4⟩ (q.imp fun v d f hf o=>o.mono hs fun b hb' u e=>hb b (bS _ (hf b hb')) (fun z=>n3 a af b (hf b hb') z.symm) u e)
 | _,_,_,i+1,.cons (f:=f0) (g:=g0) h0 q,nd,h=>by
  obtain⟨n1,n2,n3⟩:=List.nodup_append.mp nd;obtain⟨a,ws,k1,k2,k3,k4,k5⟩:=q.updAt hx (i:=i) n2 (by simpa using h);refine⟨a,ws,by simpa using k1,bS _ k2,k3,k4,fun S2 H2 ws' xs' hs hb h2 hx' hw=>?_⟩;rw[List.set_cons_succ];exact .cons (h0.mono hs fun b hb' u e=>hb b (dL _ hb') (fun z=>n3 b hb' a k2 z) u e) (k5 S2 H2 ws' xs' hs (fun b hb'=>hb b (bS _ hb')) h2 hx' hw)
theorem zF (h:g9 o=some p):o=some (some (p.1+2,.lst p.2)):=by
 unfold g9 at h;split at h
 ·cases h; rfl
 ·cases h
theorem yi (h:gK o=some n):∃k m,o=some (some (k,.int m))/\0<=m/\m.toNat=n:=by
 unfold gK at h;split at h
 ·rename_i k m;by_cases c:0<=m
  ·rw[if_pos c] at h; cases h; exact⟨k,m,rfl,c,rfl⟩
  ·rw[if_neg c] at h; cases h
 ·cases h
theorem Bl (h:mj o=some d):∃k,o=some (some (k,d))/\d.scal=true:=by
 unfold mj at h;split at h
 ·rename_i x;by_cases c:x.2.scal=true
  ·rw[if_pos c] at h; cases h; exact⟨x.1,rfl,c⟩
  ·rw[if_neg c] at h; cases h
 ·cases h
noncomputable def lX (σ:St):Option Nat->List V->List V->Prop
 | none,ws,ws'=>(∃y,ws[ws.length - 1]? = some y)/\ws'=ws.dropLast
 | some j,ws,ws'=>∃w,σ[j]? = some (some w)/\ws.length<sizeLine/\ws'=ws++[w]
theorem Do (f:FrF W E0 N pin A σ H F)(hy:ys.all D.scal=true)(dw:Dens W S ws ys):∀{j:Option Nat},cY A ys j=some zs->∃ws',lX σ j ws ws'/\zs.all D.scal=true/\∀S',Dens W S' ws' zs
 | none,h=>by
  unfold cY at h;by_cases c:ys=[]
  ·rw[if_pos c] at h; cases h
  rw[if_neg c] at h;cases h;have hl:=dw.length;have h0:0<ys.length:=List.length_pos_iff.mpr c;refine⟨ws.dropLast,⟨⟨ws[ws.length - 1]'(by omega),List.getElem?_eq_getElem _⟩,rfl⟩,List.all_eq_true.mpr fun d hd=>dF hy d (List.mem_of_mem_take (by rw[<-List.dropLast_eq_take]; exact hd)),fun S'=>?_⟩;rw[List.dropLast_eq_take,List.dropLast_eq_take,hl];exact (dw.scal hy).take _
 | some j,h=>by
  unfold cY at h;obtain⟨d,n1,r1⟩:=cK h;obtain⟨k,e,hd⟩:=Bl n1;by_cases c:ys.length<SL
  ·rw[if_pos c] at r1;cases r1;obtain⟨v,hv,o⟩:=f.rel j _ e;refine⟨ws++[v],⟨v,hv,?_,rfl⟩,by rw[List.all_append,hy,List.all_cons,hd]; rfl,fun S'=>(dw.scal hy).append (.cons ((o.den bm fun _ _ _ e=>e).scal hd) .nil)⟩;rw[dw.length];exact dW c (gN (bb _))
  ·rw[if_neg c] at r1; cases r1
theorem vU (f:FrF W E0 N pin A σ H F)(h:cH A x i j=some B) :
  ∃l vs n a ws ws',σ[x]? = some (some (.ref l))/\H l=some (.lst vs)/\σ[i]? = some (some (.int n))/\iQ vs n=some (.ref a)/\H a=some (.lst ws)/\lX σ j ws ws'/\∃F',FrF W E0 N pin B σ (upd H a (.lst ws')) F':=by
 obtain⟨fp,F,f,nd,fr,_⟩:=f.toV (d:=.non) (w:=.non) rfl .non;unfold cH at h;obtain⟨⟨k,ds⟩,n1,r1⟩:=cK h;obtain⟨n,n2,r2⟩:=cK r1;obtain⟨d,n3,r3⟩:=cK r2;obtain⟨ys,n4,r4⟩:=cK r3;by_cases hs:ys.all D.scal=true
 rotate_left
 ·rw[if_neg hs] at r4; cases r4
 rw[if_pos hs] at r4;obtain⟨zs,n5,rfl⟩:=cW r4;have hx:=zF n1;obtain⟨kn,m,hi,m0,rfl⟩:=yi n2;obtain rfl:d=.lst ys:=by cases d <;> cases n4; rfl
 obtain⟨v,hσ,l,vs,fq,rfl,e2,e3,e4⟩:=f.rel x _ hx;obtain⟨vi,hσi,oi⟩:=f.rel i _ hi;have ei:=(oi.den bm fun _ _ _ e=>e:Den W H vi (.int m)).int_inv;subst ei;have hxl:x<A.length:=(dN hx).1;have ndx:=f.nd x;rw[e4] at ndx;obtain⟨lq,ndq⟩:=List.nodup_cons.mp ndx;obtain⟨a,ws,k1,k2,k3,k4,k5⟩:=e3.updAt hs ndq n3;obtain⟨ws',c1,c2,c3⟩:=Do f hs k4 n5;have al:l≠a:=fun z=>lq (z ▸ k2);have aF:a∈F x:=by rw[e4]; exact bD _ k2
 have hat:iQ vs m=some (.ref a):=by
  have hl:m.toNat<vs.length:=(dN k1).1;have hl2:m<vs.length:=by omega
  unfold iQ km;rw[if_pos m0,if_pos hl2];exact k1
 refine⟨l,vs,m,a,ws,ws',hσ,e2,hσi,hat,k3,c1,?_⟩;have h12:∀b,b≠a->∀u,H b=some u->(L2.upd H a (.lst ws')) b=some u:=fun b nb u e=>by rw[bc nb]; exact e
 have sub:Sub (hid (ao (fun b=>N b\/b∈fp) F) H) (hid (ao N fun j=>if j=x then F x else F j) (L2.upd H a (.lst ws'))):=fun b u e=>by
  obtain⟨g1,g2⟩:=az.mp e;have bl:b≠a:=fun y=>g1 (.inr ⟨x,y ▸ aF⟩);refine az.mpr ⟨fun y=>?_,h12 b bl u g2⟩;rcases y with y | ⟨j,y⟩
  ·exact g1 (.inl (.inl y))
  ·by_cases z:j=x
   ·simp only[if_pos z] at y; exact g1 (.inr ⟨x,y⟩)
   ·simp only[if_neg z] at y;exact g1 (.inr ⟨j,y⟩)
 exact⟨_,f.upd (fx:=F x) (y:=(k+2,.lst (ds.set m.toNat (.lst zs)))) fr aF hxl hσ (f.nd x) (fun b hb=>.inl hb) h12 (by rw[bA]; simp) ⟨l,vs,fq,rfl,h12 l al _ e2,k5 _ _ ws' zs sub (fun b _ nb u e=>h12 b nb u e) bA c2 (c3 _),e4⟩⟩
theorem CC (h:bt W G n io E (.nest x i (some j)) Dn σ H):cD (gu X.K "list" dY (iR (iu X.K) (bR x) (bR i)) (cX (bR j) d5)) Dn σ H:=by
 obtain⟨E0,N,pin,A,F,hp,f,h⟩:=h;rw[Ip.rL] at h;cases q:cH A x i (some j) with
 | none=>rw[q] at h; exact h.elim
 | some B=>
  rw[q] at h;obtain⟨l,vs,n,a,ws,ws',g1,g2,g3,g4,g5,⟨w,g6,g7,rfl⟩,F',g8⟩:=vU f q;exact⟨.ref l,g1,.int n,g3,l,vs,n,.ref a,rfl,rfl,.inl (.inl g2),g4,.inl ⟨rfl,ws,.inl (.inl g5)⟩,w,g6,a,ws,w,rfl,rfl,g5,g7,h _ _ _ g8⟩
theorem zZ (h:bt W G n io E (.nest x i none) Dn σ H):cD (mU X.K "list" lO (iR (iu X.K) (bR x) (bR i))) Dn σ H:=by
 obtain⟨E0,N,pin,A,F,hp,f,h⟩:=h;rw[Ip.rL] at h;cases q:cH A x i none with
 | none=>rw[q] at h; exact h.elim
 | some B=>
  rw[q] at h;obtain⟨l,vs,n,a,ws,ws',g1,g2,g3,g4,g5,⟨⟨y,g6⟩,rfl⟩,F',g8⟩:=vU f q;exact⟨.ref l,g1,.int n,g3,l,vs,n,.ref a,rfl,rfl,.inl (.inl g2),g4,.inl ⟨rfl,ws,.inl (.inl g5)⟩,a,ws,y,rfl,rfl,g5,g6,h _ _ _ g8⟩
end
structure GT (W:Wd)(G:Pg)(T:Tb)(mg:Str->Option Value):Prop where
 db:(T.wb == ("__debug__" : Str))=false
 wb:∃Wa tlW,mg T.wb=some (.ref Wa)/\XInit W.K Wa/\XO W.K Wa tlW/\∀c c' C fs,T.cls.lookup T.wb=some c->W.xA c'=some C->aA G (.exc c' fs) (.cls c)=true->∃tl,XO W.K C tl/\Wa∈C::tl
structure Gs (W:Wd)(G:Pg)(T:Tb)(n:Nat)(E:St->XK)(sc:Scope)(N:List Str)(X:Cx):Prop where
 gd:Gd W G T n E sc N X
 gt:GT W G T X.mg
 rais:nk X E
 own:PassesOwn (model X.prog X.w) X.A X.env X.xe
 stk:∃L outer,X.stack=X.env::outer/\X.env.frame=some L
 scq:X.env.scope=sc
section
variable {W:Wd}{G:Pg}{T:Tb}{n:Nat}{io:List Nat}{m:Nat}{E:St->XK}{sc:Scope}{N:List Str}{X:Cx}
theorem j8 {st:Stmt}{i:Nat}:PS X st (bt W G n io E (.set i .bad)):=fun pins s σ H Dn I ⟨_,_,_,_,_,_,_,h⟩=>by
 rw[Ip.k9,gp] at h; exact h.elim
theorem BO {st:Stmt}:PS X st (bt W G n io E (.ex .bad)):=fun pins s σ H Dn I ⟨_,_,_,_,_,_,_,h⟩=>by
 rw[Ip.pT,gp] at h; exact h.elim
theorem tD (e:Expr):(∃a b c d,e=.ListComp a b c d)\/(∀T sc N m,cE T sc N m e=.bad)\/∀t l env,swapsWith e t l env=pure false:=by
 cases e <;> first
  | exact .inl ⟨_,_,_,_,rfl⟩
  | exact .inr (.inr fun _ _ _=>rfl)
  | (refine .inr (.inl fun T sc N m=>?_); cases m <;> rfl)
theorem zu (g:Gs W G T n E sc N X)(x:Str)(p:Pos)(e:Expr)(pos:Pos)(i:Nat)(hl:aZ sc x=true)(hi:pos? x N=some i):PS X (.Assign [.Name x p] e pos) (bt W G n io E (.set i (cE T sc N m e))):=by
 obtain⟨l1,l2⟩:=g.gd.loc x hl;have hN:X.N.Nodup:=by rw[g.gd.nm]; exact g.gd.nd
 have hx:X.N[i]? = some x:=by rw[g.gd.nm]; exact pos?_get hi
 rcases tD e with ⟨el,gs,scope,cp,rfl⟩ | hb | hs
 ·have hsw:∃b,swapsWith (.ListComp el gs scope cp) (some (.Name x p)) pos.line X.env=pure b:=⟨_,rfl⟩
  obtain⟨b,hsw⟩:=hsw;cases b with
  | false=>exact (sd hN hx l1 ((eH m).e g.gd _) hsw l2).mono fun Dn σ H h=>pJ h
  | true=>
   cases m with
   | zero=>exact j8
   | succ m=>
    have ih:=eH (W:=W) (G:=G) (T:=T) (n:=n) m;match gs with
    | []=>exact j8
    | ⟨_,_,_,_⟩::_::_=>exact j8
    | [⟨tg,iter,ifs,as⟩]=>
     simp only[Ip.eZ,Ip.eh,Ip.fe,Ip.eU,Ip.eO,Ip.eR,Ip.eM,Ip.eQ,Ip.eY,Ip.eJ,Ip.eL,Ip.eI,Ip.fc,Ip.eV];by_cases h:(Ip.cC sc N (Ip.aw scope) (Ip.aP N scope) scope&&as == 0&&decide (ifs.length<=1))=true
     rotate_left
     ·rw[if_neg h]; exact j8
     rw[if_pos h];simp only[Bool.and_eq_true,beq_iff_eq,decide_eq_true_eq] at h;obtain⟨⟨hb,has⟩,hln⟩:=h;subst has;cases ht:cm scope (Ip.aw scope) tg with
     | none=>exact j8
     | some t=>
      by_cases h2:(dG (cI T sc N m iter).1 t&&(Ip.cG t).all (fun i=>(Ip.aP N scope)[i]? == some none))=true
      rotate_left
      ·simp only[h2]; exact j8
      simp only[h2,if_true];rw[Bool.and_eq_true] at h2;rcases sF iter with ⟨a,b,c,rfl⟩ | hs
      ·rintro pins s σ H Dn I ⟨_,_,_,_,_,_,_,q⟩;rw[Ip.k9,Ip.kT,sk,bj,gp] at q;exact q.elim
      ·have cp:=v7 (e:=el) ih g.gd hb hln ht h2.1 h2.2;exact (By g.gd.calm cp.hS hN hx l1 cp.hi cp.hg cp.ht cp.he hsw l2 (hs X.env)).mono fun Dn σ H h=>ud g.gd.K cp.hx (pJ h)
 ·rw[hb]; exact j8
 ·exact (sd hN hx l1 ((eH m).e g.gd e) (hs _ _ _) l2).mono fun Dn σ H h=>pJ h
theorem vT (g:Gs W G T n E sc N X)(e:Expr)(pos:Pos)(hl:∀a b c d,e≠.ListComp a b c d):PS X (.Expr e pos) (bt W G n io E (.ex (cE T sc N m e))):=by
 rcases tD e with ⟨a,b,c,d,rfl⟩ | hb | hs
 ·exact absurd rfl (hl a b c d)
 ·rw[hb]; exact BO
 ·exact (kX ((eH m).e g.gd e) (hs _ _ _)).mono fun Dn σ H h=>pX h
theorem vp (e:Expr)(l:Nat)(env:Env):swapsWith e (some (.Attribute o f p)) l env=pure false:=by
 cases e <;> rfl
theorem E5 (g:Gs W G T n E sc N X)(es:List Expr)(k:Nat)(tp:Pos)(e:Expr)(pos:Pos)(is:List Nat)(hc:Ip.fD e=true)(ht:cm sc N (.Tuple es k tp)=some (.many is)):PS X (.Assign [.Tuple es k tp] e pos) (bt W G n io E (.setT is (cE T sc N m e))):=by
 cases e with
 | Call f args kws cp=>exact (uQ ((eH m).e g.gd _) (pw g.gd ht)).mono fun Dn σ H h=>tx g.gd.K h
 | Name x p=>exact (uQ ((eH m).e g.gd _) (pw g.gd ht)).mono fun Dn σ H h=>tx g.gd.K h
 | _=>cases hc
theorem FL (g:Gs W G T n E sc N X)(x:Str)(xp:Pos)(f:Str)(ap:Pos)(e:Expr)(pos:Pos)(k j:Nat)(hv:av sc x=true)(hok:aj x=true)(hk:pos? x N=some k)(hj:pos? f T.att=some j)(hf:T.fl.contains j=true) :
  PS X (.Assign [.Attribute (.Name x xp) f ap] e pos) (bt W G n io E (.sfld k j (cE T sc N m e))):=by
 unfold aj at hok;simp only[Bool.and_eq_true,Bool.not_eq_true'] at hok;have hx:X.N[k]? = some x:=by rw[g.gd.nm]; exact pos?_get hk
 have po:=pz (pos:=xp) hx (g.gd.vis x hv) hok.1 hok.2;have he:=(eH m).e g.gd e;have r1:=xM (f:=f) (pos:=pos) (pos':=ap) po he (vp e _ _);have r2:=xT (m:=f) (pos:=pos) (pos':=ap) po he (vp e _ _);intro pins s σ H Dn I h;have hnm:W.att[j]? = some f:=by rw[g.gd.gf.att]; exact pos?_get hj
 rcases zS g.gd.K g.gd.gf.cf (by simpa using hf) hnm h with q | q
 ·exact r1 pins s σ H Dn I q
 ·exact r2 pins s σ H Dn I q
end
section
variable {W:Wd}{G:Pg}{T:Tb}{n:Nat}{io:List Nat}{m:Nat}{E:St->XK}{sc:Scope}{N:List Str}{X:Cx}
theorem okN (h:aj x=true):(x == ("__debug__" : Str))=false/\(x == ("__classdict__" : Str))=false:=by
 unfold aj at h;simp only[Bool.and_eq_true,Bool.not_eq_true'] at h;exact h
theorem jl (g:Gs W G T n E sc N X)(hv:av sc x=true)(hok:aj x=true)(hi:pos? x N=some i):PE X (.Name x p) (bR i):=
 pz (by rw[g.gd.nm]; exact pos?_get hi) (g.gd.vis x hv) (okN hok).1 (okN hok).2
theorem zD (g:Gs W G T n E sc N X)(e:Expr)(pos:Pos)(h:¬oM (cE T sc N m e)=true):PS X (.Return (some e) pos) (bt W G n io E (.ret (cE T sc N m e))):=
 (wQ ((eH m).e g.gd e)).mono fun Dn σ H=>v6 fun i z=>h (by rw[z]; rfl)
theorem xu (g:Gs W G T n E sc N X)(x:Str)(p pos:Pos)(i:Nat)(hv:av sc x=true)(hok:aj x=true)(hi:pos? x N=some i):PS X (.Return (some (.Name x p)) pos) (bt W G n io E (.ret (.var i))):=
 (wQ (jl g hv hok hi)).mono fun Dn σ H h=>Aw h
theorem EW (pos:Pos):PS X (.Return none pos) (bt W G n io E (.ret (.cst .non))):=
 Ac.mono fun Dn σ H h=>by
  obtain⟨N0,a,hN,hS,h⟩:=v6 (fun i=>by simp) h;rw[Ip.kY] at h;exact h _ _ (Res.of_flat (Sub.refl _) rfl .non)
theorem uL (ns:noStar (e::es)=true)(hl:es.length<29):((backTo cp (starEach (e::es) env)).all (fun x=>!x.1)&&(backToKw cp (keywordEach [] env)).all (fun x=>x.1.isSome)
   && decide ((e::es).length+([]:List Keyword).length+(if ([]:List Keyword).isEmpty then 0 else 1)<30))=true:=by
 rw[nS ns];show (true&&true&&decide (es.length+1+0+0<30))=true;rw[decide_eq_true (by omega)]; rfl
theorem FV (g:Gs W G T n E sc N X)(x:Str)(xp mp cp pos:Pos)(e:Expr)(i:Nat)(hv:av sc x=true)(hok:aj x=true)(hi:pos? x N=some i)(ns:noStar [e]=true)(hp:(mp.endLine == cp.line)=true) :
  PS X (.Expr (.Call (.Attribute (.Name x xp) "append" mp) [e] [] cp) pos) (bt W G n io E (.mut i [] .append [cE T sc N m e])):=by
 have s1:=(fh ns).1;exact (kX (lw PySem.F.plainAttrs_list PySem.F.slot_list_append PySem.F.type_list_append qQ (jl g hv hok hi) (im ((eH m).e g.gd e) ke (dM s1)) rfl (uL ns (by decide)) hp (dM s1) rfl) rfl).mono fun Dn σ H h=>Dc g.gd.K h
theorem CU (g:Gs W G T n E sc N X)(x:Str)(xp mp cp pos:Pos)(e:Expr)(i:Nat)(hv:av sc x=true)(hok:aj x=true)(hi:pos? x N=some i)(ns:noStar [e]=true)(hp:(mp.endLine == cp.line)=true) :
  PS X (.Expr (.Call (.Attribute (.Name x xp) "extend" mp) [e] [] cp) pos) (bt W G n io E (.mut i [] .extend [cE T sc N m e])):=by
 have s1:=(fh ns).1;exact (kX (lw PySem.F.plainAttrs_list PySem.F.slot_list_extend PySem.F.type_list_extend (MtR.or y3 zQ) (jl g hv hok hi) (im ((eH m).e g.gd e) ke (dM s1)) rfl (uL ns (by decide)) hp (dM s1) rfl) rfl).mono fun Dn σ H h=>xD g.gd.K h
theorem Ax (g:Gs W G T n E sc N X)(x j:Str)(xp jp sp pos:Pos)(e:Expr)(i k:Nat)(hv:av sc x=true)(hok:aj x=true)(hi:pos? x N=some i)(hv2:av sc j=true)(hok2:aj j=true)(hk:pos? j N=some k) :
  PS X (.Assign [.Subscript (.Name x xp) (.Name j jp) sp] e pos) (bt W G n io E (.put i [] (.var k) (cE T sc N m e))):=
 (BX (jl g hv hok hi) (jl g hv2 hok2 hk) ((eH m).e g.gd e) (by cases e <;> rfl)).mono fun Dn σ H h=>xE h
theorem xS (g:Gs W G T n E sc N X)(xp mp cp pos:Pos)(e:Expr)(es:List Expr)(hg:aQ sc T.wb=true)(ns:noStar (e::es)=true)(hl:es.length<29)(hp:mp.endLine=cp.line) :
  PS X (.Expr (.Call (.Attribute (.Name T.wb xp) "__init__" mp) (e::es) [] cp) pos) (bt W G n io E (.xinit ((e::es).map (cE T sc N m)))):=by
 obtain⟨Wa,tlW,hm,XI,XW,_⟩:=g.gt.wb;obtain⟨s1,s2⟩:=fh ns;exact (kX (zh (g.gd.K ▸ XI) (g.gd.gl _ hg) hm ((eH m).args g.gd (e::es)) g.gt.db (dM s1) (k7 s2) (wx rfl ns (by rw[List.length_cons]; omega) hp)) rfl).mono fun Dn σ H h=>
  FH g.gd.K g.gd.gf.cf (by rw[List.length_map,List.length_cons]; omega) h
theorem zX (g:Gs W G T n E sc N X)(x:Str)(args:List Expr)(p cp pos:Pos)(c:Nat)(hg:aQ sc x=true)(ns:noStar args=true)(hc:T.cls.lookup x=some c):PS X (.Raise (some (.Call (.Name x p) args [] cp)) none pos) (bt W G n io E (.rais c (args.map (cE T sc N m)))):=
 (zg g.gd.calm g.rais (uW (eH m) g.gd x args p cp c hg hc ns)).mono fun Dn σ H h=>G0 g.gd.K g.gd.gf.cf h
theorem wJ (g:Gs W G T n E sc N X)(x i:Str)(xp ip sp mp cp pos:Pos)(k l:Nat)(hv:av sc x=true)(hok:aj x=true)(hk:pos? x N=some k)(hv2:av sc i=true)(hok2:aj i=true)(hl:pos? i N=some l)(hp:(mp.endLine == cp.line)=true) :
  PS X (.Expr (.Call (.Attribute (.Subscript (.Name x xp) (.Name i ip) sp) "pop" mp) [] [] cp) pos) (bt W G n io E (.nest k l none))/\∀y yp j,av sc y=true->aj y=true->pos? y N=some j->PS X (.Expr (.Call (.Attribute (.Subscript (.Name x xp) (.Name i ip) sp) "append" mp) [.Name y yp] [] cp) pos) (bt W G n io E (.nest k l (some j))):=by
 have r:PE X (.Subscript (.Name x xp) (.Name i ip) sp) (iR (iu X.K) (bR k) (bR l)):=ux wF (jl g hv hok hk) (jl g hv2 hok2 hl) (wN fun _ _ _ _ q=>nomatch q);refine⟨(kX (DT PySem.F.plainAttrs_list PySem.F.slot_list_pop PySem.F.type_list_pop CZ r rfl hp) rfl).mono fun Dn σ H h=>zZ h,fun y yp j h1 h2 h3=>?_⟩;exact (kX (lw PySem.F.plainAttrs_list PySem.F.slot_list_append PySem.F.type_list_append qQ r (im (jl g h1 h2 h3) ke rfl) rfl rfl hp rfl rfl) rfl).mono fun Dn σ H h=>CC h
def jm (W:Wd)(G:Pg)(T:Tb)(n m:Nat):Prop:=∀{io:List Nat} {E:St->XK} {sc:Scope} {N:List Str} {X:Cx},Gs W G T n E sc N X->∀st,PS X st (bt W G n io E (cS T sc N m st))
theorem lh (ih:jm W G T n m)(g:Gs W G T n E sc N X):∀sts:List Stmt,PSs X sts (dH W G n io E (sts.map (cS T sc N m)))
 | []=>zf
 | st::sts=>xI (ih g st) (lh ih g sts)
theorem sG (ih:jm W G T n m)(g:Gs W G T n E sc N X)(c:Expr)(a b:List Stmt)(pos:Pos):PS X (.If c a b pos) (bt W G n io E (.iff (Ip.cT T sc N m c) (a.map (cS T sc N m)) (b.map (cS T sc N m)))):=
 (BD ((eH m).t g.gd c) (lh ih g a) (lh ih g b)).mono fun Dn σ H h=>Fx h
theorem yz {st:Stmt}{tg:Tg}{wk:Wk}{b:List Ip.S}:PS X st (bt W G n io E (.fo tg wk [.bad] b)):=fun pins s σ H Dn I ⟨_,_,_,_,_,_,_,h⟩=>by
 rw[Ip.sE,bj,gp] at h; exact h.elim
theorem Fc (ih:jm W G T n m)(g:Gs W G T n E sc N X)(tg it:Expr)(b:List Stmt)(pos:Pos)(t:Tg)(ht:cm sc N tg=some t)(hw:dG (cI T sc N m it).1 t=true) :
  PS X (.For tg it b [] pos) (bt W G n io E (.fo t (cI T sc N m it).1 (cI T sc N m it).2 (b.map (cS T sc N m)))):=by
 rcases sF it with ⟨a,b',c,rfl⟩ | hs
 ·rw[sk]; exact yz
 ·exact (FS g.own g.gd.calm ((eH m).i g.gd tg it (uO ht hw)) (pw g.gd ht) (lh ih g b) (hs X.env)).mono fun Dn σ H h=>zl g.gd.K h
theorem zj (ih:jm W G T n m)(g:Gs W G T n E sc N X)(b:List Stmt)(cp xp yp hp ap pos:Pos)(e x:Str)(k i j:Nat)(hg:aQ sc T.wb=true)(hk:T.cls.lookup T.wb=some k)(hi:pos? e N=some i)(hj:pos? x N=some j)(hl:aZ sc x=true)(he:sc.names.lookup e=some .local)(hok:aj e=true) :
  PS X (.Try b [.ExceptHandler (some (.Name T.wb cp)) (some e) [.Assign [.Name x xp] (.Name e yp) ap] hp] [] [] pos) (bt W G n io E (.tryE (b.map (cS T sc N m)) k i j)):=by
 obtain⟨Wa,tlW,hm,XI,XW,hcl⟩:=g.gt.wb;have hN:X.N.Nodup:=by rw[g.gd.nm]; exact g.gd.nd
 have hiX:X.N[i]? = some e:=by rw[g.gd.nm]; exact pos?_get hi
 have hjX:X.N[j]? = some x:=by rw[g.gd.nm]; exact pos?_get hj
 have heX:X.env.scope.names.lookup e=some .local:=by rw[g.scq]; exact he
 obtain⟨l1,l2⟩:=g.gd.loc x hl;refine (yl (tb:=fun Ec=>dH W G n io Ec (b.map (cS T sc N m))) (ts:=gW (bR i) (dA j)) hN hiX heX g.stk (g.gd.K ▸ XW) (g.gd.gl _ hg) hm (fun xe pn Ec ps rt po=>?_) (fun a=>?_) g.gt.db).mono fun Dn σ H h=>FB (fun c' C fs h1 h2=>g.gd.K ▸ hcl k c' C fs hk h1 h2) h
 ·refine lh (X:=X.tryCx xe pn) ih ?_ b;have gd':Gd W G T n Ec sc N (X.tryCx xe pn):=⟨g.gd.gf,g.gd.K,g.gd.vis,g.gd.loc,g.gd.gl,g.gd.fr,g.gd.nm,g.gd.nd,g.gd.calm,ps,g.gd.room⟩
  exact⟨gd',g.gt,rt,po,g.stk,g.scq⟩
 ·exact xF (sd (X:=X.markCx a) hN hjX l1 (pz (X:=X.markCx a) hiX (.inl heX) (okN hok).1 (okN hok).2) rfl l2)
theorem ps?_or:ps? x N f=.bad\/∃i,pos? x N=some i/\ps? x N f=f i:=by
 unfold ps?;cases pos? x N with
 | none=>exact .inl rfl
 | some i=>exact .inr ⟨i,rfl,rfl⟩
theorem pc?_or:pc? T x f=.bad\/∃i,T.cls.lookup x=some i/\pc? T x f=f i:=by
 unfold pc?;cases T.cls.lookup x with
 | none=>exact .inl rfl
 | some i=>exact .inr ⟨i,rfl,rfl⟩
theorem pq {st:Stmt}{x:Str}{N:List Str}{f:Nat->Ip.S}(h:∀i,pos? x N=some i->PS X st (bt W G n io E (f i))):PS X st (bt W G n io E (ps? x N f)):=by
 rcases ps?_or (x:=x) (N:=N) (f:=f) with q | ⟨i,hi,q⟩
 ·rw[q]; exact ck
 ·rw[q]; exact h i hi
theorem vb {st:Stmt}{x:Str}{f:Nat->Ip.S}(h:∀i,T.cls.lookup x=some i->PS X st (bt W G n io E (f i))):PS X st (bt W G n io E (pc? T x f)):=by
 rcases pc?_or (T:=T) (x:=x) (f:=f) with q | ⟨i,hi,q⟩
 ·rw[q]; exact ck
 ·rw[q]; exact h i hi
theorem Ej (g:Gs W G T n E sc N X)(ts:List Expr)(e:Expr)(pos:Pos):PS X (.Assign ts e pos) (bt W G n io E (cS T sc N (m+1) (.Assign ts e pos))):=by
 rw[Ip.GE];cases ts with
 | nil=>exact ck
 | cons t r=>
  unfold Ip.jO;dsimp only;by_cases hr:r.isEmpty=true
  rotate_left
  ·rw[if_neg hr]; exact ck
  rw[if_pos hr];obtain rfl:=List.isEmpty_iff.mp hr;cases q1:Ip.br t with
  | some x=>
   obtain⟨p1,rfl⟩:=Ip.gJ q1;dsimp only;by_cases hl:aZ sc x=true
   ·rw[if_pos hl]; exact pq fun i hi=>zu g _ _ e pos i hl hi
   ·rw[if_neg hl]; exact ck
  | none=>
   dsimp only;cases q2:Ip.iD t with
   | some xj=>
    obtain⟨x,j⟩:=xj;obtain⟨p1,p2,p3,rfl⟩:=Ip.w8 q2;dsimp only;by_cases hl:(av sc x&&aj x&&av sc j&&aj j)=true
    ·rw[if_pos hl];simp only[Bool.and_eq_true] at hl;obtain⟨⟨⟨h1,h2⟩,h3⟩,h4⟩:=hl;refine pq fun k hk=>?_;refine pq fun j hj=>?_;exact Ax g _ _ _ _ _ pos e k j h1 h2 hk h3 h4 hj
    ·rw[if_neg hl]; exact ck
   | none=>
    dsimp only;cases q3:Ip.kG t with
    | none=>
     dsimp only;cases q4:Ip.kl t with
     | none=>exact ck
     | some u=>
      obtain⟨es,k,tp⟩:=u;obtain rfl:=Ip.GA q4;dsimp only;by_cases hc:Ip.fD e=true
      rotate_left
      ·rw[if_neg hc]; exact ck
      rw[if_pos hc];split
      ·rename_i ht;exact E5 g _ _ _ e pos _ hc ht
      ·exact ck
    | some xf=>
     obtain⟨x,f⟩:=xf;obtain⟨p1,p2,rfl⟩:=Ip.E3 q3;dsimp only;by_cases hl:(av sc x&&aj x)=true
     rotate_left
     ·rw[if_neg hl]; exact ck
     rw[if_pos hl];rw[Bool.and_eq_true] at hl;refine pq fun k hk=>?_;refine pq fun j hj=>?_;by_cases hf:T.fl.contains j=true
     ·simp only[hf,if_true];exact FL g _ _ _ _ e pos k j hl.1 hl.2 hk hj hf
     ·simp only[hf]; exact ck
theorem Fb (g:Gs W G T n E sc N X)(e:Expr)(pos:Pos):PS X (.Expr e pos) (bt W G n io E (cS T sc N (m+1) (.Expr e pos))):=by
 rw[Ip.Bv];unfold Ip.jE;cases qm:Ip.kL e with
 | some t=>
  obtain⟨x,mm,mp,args,cp⟩:=t;obtain⟨xp,rfl⟩:=Ip.G1 qm;dsimp only;split
  ·rename_i hc;simp only[Bool.and_eq_true,beq_iff_eq] at hc;obtain⟨⟨h1,h2⟩,rfl⟩:=hc;unfold Ip.mz;split
   ·split
    ·rename_i a hd;rw[Bool.and_eq_true] at hd;refine pq fun k hk=>?_;exact FV g _ _ _ _ _ _ _ h1 h2 hk hd.1 hd.2
    ·exact ck
   ·exact ck
  ·split
   ·rename_i hc;simp only[Bool.and_eq_true,beq_iff_eq] at hc;obtain⟨⟨h1,h2⟩,rfl⟩:=hc;unfold Ip.ny;split
    ·split
     ·rename_i hd;rw[Bool.and_eq_true] at hd;refine pq fun k hk=>?_;exact CU g _ _ _ _ _ _ _ h1 h2 hk hd.1 hd.2
     ·exact ck
    ·exact ck
   split
   ·rename_i hc;unfold Ip.tF at hc;simp only[Bool.and_eq_true,beq_iff_eq] at hc;obtain⟨⟨h1,rfl⟩,rfl⟩:=hc;unfold Ip.mC;split
    ·exact ck
    ·split
     ·rename_i hd;simp only[Bool.and_eq_true,beq_iff_eq,decide_eq_true_eq] at hd;exact xS g _ _ _ _ _ _ h1 hd.1.1 hd.1.2 hd.2
     ·exact ck
   ·exact vT g _ pos fun _ _ _ _ z=>by cases z
 | none=>
  dsimp only;by_cases hL:Ip.l6 e=true
  ·rw[if_pos hL]; exact ck
  rw[if_neg hL];cases qa:Ip.nO sc e with
  | none=>exact vT g e pos fun _ _ _ _ z=>hL (by rw[z]; rfl)
  | some t=>
   obtain⟨x,i,j⟩:=t;dsimp only;obtain⟨p1,p2,p3,p4,p5,f,args,rfl,v1,v2,v3,v4,ln,hj⟩:=Ip.Cp qa;unfold Ip.tM;refine pq fun k hk=>?_;refine pq fun l hl=>?_;rcases hj with ⟨y,p6,rfl,rfl,rfl,w1,w2⟩ | ⟨rfl,rfl,rfl⟩
   ·dsimp only;refine pq fun c hc=>?_;exact (wJ g x i p1 p2 p3 p4 p5 pos k l v1 v2 hk v3 v4 hl ln).2 y p6 c w1 w2 hc
   ·exact (wJ g x i p1 p2 p3 p4 p5 pos k l v1 v2 hk v3 v4 hl ln).1
theorem BQ (g:Gs W G T n E sc N X)(o:Option Expr)(pos:Pos):PS X (.Return o pos) (bt W G n io E (cS T sc N (m+1) (.Return o pos))):=by
 rw[Ip.yI];cases o with
 | none=>exact EW pos
 | some e=>
  unfold Ip.kA;dsimp only;cases q1:Ip.br e with
  | some x=>
   obtain⟨p,rfl⟩:=Ip.gJ q1;dsimp only;by_cases hc:(av sc x&&aj x)=true
   ·rw[if_pos hc];rw[Bool.and_eq_true] at hc;refine pq fun k hk=>?_;exact xu g _ _ pos k hc.1 hc.2 hk
   ·rw[if_neg hc]; exact ck
  | none=>
   dsimp only;by_cases hb:oM (cE T sc N m e)=true
   ·rw[if_pos hb]; exact ck
   ·rw[if_neg hb]; exact zD g e pos hb
theorem xm (ih:jm W G T n m)(g:Gs W G T n E sc N X)(tg it:Expr)(b els:List Stmt)(pos:Pos):PS X (.For tg it b els pos) (bt W G n io E (cS T sc N (m+1) (.For tg it b els pos))):=by
 simp only[Ip.y2,Ip.ka];split
 ·exact ck
 ·split
  ·rename_i ht;split
   ·rename_i hw;exact Fc ih g tg it b pos _ ht hw
   ·exact ck
  ·exact ck
theorem DM (g:Gs W G T n E sc N X)(e c:Option Expr)(pos:Pos):PS X (.Raise e c pos) (bt W G n io E (cS T sc N (m+1) (.Raise e c pos))):=by
 rw[Ip.EJ];cases c with
 | some _=>exact ck
 | none=>
  cases e with
  | none=>exact ck
  | some e=>
   unfold Ip.jU;dsimp only;cases q:Ip.iB e with
   | none=>exact ck
   | some t=>
    obtain⟨x,args⟩:=t;obtain⟨p1,p2,rfl⟩:=Ip.wm q;dsimp only;by_cases hc:(aQ sc x&&noStar args)=true
    ·rw[if_pos hc];rw[Bool.and_eq_true] at hc;refine vb fun k hk=>?_;exact zX g _ _ _ _ pos k hc.1 hc.2 hk
    ·rw[if_neg hc]; exact ck
theorem CA (ih:jm W G T n m)(g:Gs W G T n E sc N X)(b:List Stmt)(hs:List ExceptHandler)(els fin:List Stmt)(pos:Pos):PS X (.Try b hs els fin pos) (bt W G n io E (cS T sc N (m+1) (.Try b hs els fin pos))):=by
 rw[Ip.E9];unfold Ip.jS;cases q:Ip.iI hs with
 | none=>exact ck
 | some t=>
  obtain⟨c,e,x,y⟩:=t;obtain⟨p1,p2,p3,p4,p5,rfl⟩:=Ip.Ct q;simp only;split
  ·rename_i hc;obtain⟨z1,z2,hc⟩:=hc;obtain rfl:=List.isEmpty_iff.mp z1;obtain rfl:=List.isEmpty_iff.mp z2;simp only[Bool.and_eq_true,beq_iff_eq] at hc;obtain⟨⟨⟨⟨⟨h1,rfl⟩,rfl⟩,h4⟩,h5⟩,h6⟩:=hc;refine vb fun k hk=>?_;refine pq fun i hi=>?_;refine pq fun j hj=>?_;exact zj ih g b _ _ _ _ _ pos _ _ k i j h1 hk hi hj h5 h6 h4
  ·exact ck
theorem ur (W:Wd)(G:Pg)(T:Tb)(n:Nat):∀m,jm W G T n m
 | 0=>fun g st=>by exact ck
 | m+1=>fun g st=>by
  have ih:jm W G T n m:=ur W G T n m;cases st with
  | Assign ts e pos=>exact Ej g ts e pos
  | Expr e pos=>exact Fb g e pos
  | Return o pos=>exact BQ g o pos
  | If c a b pos=>exact sG ih g c a b pos
  | For tg it b els pos=>exact xm ih g tg it b els pos
  | Break pos=>exact GV.mono fun Dn σ H ⟨_,_,_,A,_,_,f,h⟩=>by rw[show Ip.exec G (Ip.run G n) _ A (cS T _ _ (m+1) (.Break pos))=.brk A from rfl] at h; exact h _ _ _ f
  | Continue pos=>exact zB.mono fun Dn σ H ⟨_,_,_,A,_,_,f,h⟩=>by rw[show Ip.exec G (Ip.run G n) _ A (cS T _ _ (m+1) (.Continue pos))=.cnt A from rfl] at h; exact h _ _ _ f
  | Pass pos=>exact DP.mono fun Dn σ H ⟨_,_,_,A,_,_,f,h⟩=>by rw[show Ip.exec G (Ip.run G n) _ A (cS T _ _ (m+1) (.Pass pos))=.nx A from rfl] at h; exact h _ _ _ f
  | Raise e c pos=>exact DM g e c pos
  | Try b hs els fin pos=>exact CA ih g b hs els fin pos
  | _=>exact ck
end
section
variable {W:Wd}{G:Pg}{T:Tb}{n:Nat}{P:Program}{w:World}{mg:Str->Option Value}{base:Heap}
theorem se:∀{vs:List V} {ds:List D} {i:Nat} {d:D},Dens W S vs ds->ds[i]? = some d->∃v,vs[i]? = some v/\Den W S v d
 | _,_,_,_,.nil,h=>by simp at h
 | _,_,0,_,.cons h _,e=>by
  simp only[List.getElem?_cons_zero,Option.some.injEq] at e;subst e;exact⟨_,rfl,h⟩
 | _,_,i+1,_,.cons _ q,e=>by
  simp only[List.getElem?_cons_succ] at e ⊢;exact se q e
theorem uI (h:(bo F xs)[i]? = some (some x)):∃y,xs[i]? = some y/\x=if F.io.contains i then y else (0,y.2):=by
 unfold bo at h;by_cases hi:i<xs.length
 ·rw[List.getElem?_append_left (by rw[List.length_mapIdx]; exact hi),List.getElem?_mapIdx,List.getElem?_eq_getElem hi] at h;simp only[Option.map_some,Option.some.injEq] at h;refine⟨xs[i],List.getElem?_eq_getElem hi,?_⟩;by_cases c:F.io.contains i=true
  ·rw[if_pos c] at h ⊢; exact (bV h).symm
  ·rw[if_neg c] at h ⊢; exact (bV h).symm
 ·rw[List.getElem?_append_right (by rw[List.length_mapIdx]; omega)] at h;have:=List.mem_of_getElem? h;rw[List.mem_replicate] at this;cases this.2
theorem vZ (h:xs.length=F.np)(h2:F.np<=F.ns):(bo F xs).length=F.ns:=by
 unfold bo;rw[List.length_append,List.length_mapIdx,List.length_replicate];omega
theorem oS {N:List Str}{vs:List V}{i:Nat}{v:V}(h:vs[i]? = some v):(start N vs)[i]? = some (some v):=by
 unfold start;have hi:i<vs.length:=(dN h).1;rw[List.getElem?_append_left (by rw[List.length_map]; exact hi),List.getElem?_map,h]; rfl
theorem Fy (h:vs.length<=N.length):(start N vs).length=N.length:=by
 unfold start;rw[List.length_append,List.length_map,List.length_replicate]; omega
theorem xq:ao M (fun _=>[])=M:=funext fun b=>propext ⟨fun z=>z.elim id fun⟨_,y⟩=>by simp at y,.inl⟩
theorem FG:Own W S H 99 .non .non []:=⟨rfl,.non⟩
theorem DO (h:Own W S H k v .non fp):v=.non:=by
 cases k with
 | zero=>obtain⟨_,h⟩:=h; cases h; rfl
 | succ k=>obtain⟨_,h⟩:=h; cases h; rfl
theorem FrX.out {E0:Hp}{N:Addr->Prop}{pin:List (Nat×V)}{A:Fr}{σ:St}{H:Hp}{c:Nat}{fs:List (Nat×D)}{e:Addr}(h:FrX W E0 N pin A σ H c fs e):ExcR W E0 N H c fs e:=by
 obtain⟨F,f,he,C,vs,h1,h2,h3⟩:=h;exact⟨f.sub,he.1,C,vs,h1,h2,h3.mono fun b u z=>az.mpr ⟨fun y=>(az.mp z).1 (.inl y),(az.mp z).2⟩⟩
theorem GS (h:match Ip.fin [] o with
  | .ret k d []=>∀v H',Res W H N H' (k,d) v->Q v H'
  | .exc c fs []=>∀e H',ExcR W H N H' c fs e->E (.ref e) none H'
  | _=>False):PostS W H N [] (fun _=>E) { nx:=fun _ H'=>Q .non H',rt:=Q } o:=by
 cases o with
 | nx A=>exact fun σ H' F f=>h .non H' ⟨f.sub,[],.nil,fun _ z=>by simp at z,FG⟩
 | ret k d A=>
  rintro v σ H' ⟨fp,F,f,nd,fr,o⟩;refine h v H' ⟨f.sub,fp,nd,fun b hb=>(fr b hb).1,o.mono (fun b u z=>?_) fun _ _ _ e=>e⟩;exact az.mpr ⟨fun y=>(az.mp z).1 (.inl y),(az.mp z).2⟩
 | brk A=>exact h.elim
 | cnt A=>exact h.elim
 | exc c fs A=>exact fun e σ H' x=>h e H' x.out
 | bad=>exact h.elim
theorem C2 {H:Hp}{N:Addr->Prop}{f0:List Addr}{v0:V}{o:O}{Q:VK}{E:XK}(h:match Ip.fin [0] o with
  | .ret k d [y]=>∀v H' (fp:List Addr),Sub (hid (fun b=>b∈f0) H) H'->fp.Nodup->(∀b∈fp,hid (fun b=>b∈f0) H b=none)->Own W (hid (fun b=>N b\/b∈fp) H') H' y.1 v0 y.2 fp->(d=.non->v=.non)->Q v H'
  | .exc c fs _=>∀e H',ExcR W (hid (fun b=>b∈f0) H) N H' c fs e->E (.ref e) none H'
  | _=>False):PostS W (hid (fun b=>b∈f0) H) N [(0,v0)] (fun _=>E) { nx:=fun _ H'=>Q .non H',rt:=Q } o:=by
 have key:∀{N':Addr->Prop} {A:Fr} {σ:St} {H':Hp} {F:Nat->List Addr} {y:KD},FrF W (hid (fun b=>b∈f0) H) N' [(0,v0)] A σ H' F->(∀b,N b->N' b)->A[0]? = some (some y)->Sub (hid (fun b=>b∈f0) H) H'/\(F 0).Nodup/\(∀b∈F 0,hid (fun b=>b∈f0) H b=none)/\Own W (hid (fun b=>N b\/b∈F 0) H') H' y.1 v0 y.2 (F 0):=by
  intro N' A σ H' F y f hN hA;obtain⟨v,h1,h2⟩:=f.rel 0 y hA;have h3:=f.pn (0,v0) (by simp);rw[h1] at h3;cases h3;refine⟨f.sub,f.nd 0,fun b hb=>(f.fr 0 b hb).1,h2.mono (fun b u z=>?_) fun _ _ _ e=>e⟩;refine az.mpr ⟨fun y=>(az.mp z).1 ?_,(az.mp z).2⟩;exact y.elim (fun q=>.inl (hN b q)) fun q=>.inr ⟨0,q⟩
 cases o with
 | nx A=>
  intro σ H' F f;simp only[Ip.fin,outs] at h;cases q:A[0]? with
  | none=>rw[q] at h; exact h.elim
  | some o=>
   cases o with
   | none=>rw[q] at h; exact h.elim
   | some y=>
    rw[q] at h;obtain⟨a1,a2,a3,a4⟩:=key f (fun _ z=>z) q;exact h .non H' _ a1 a2 a3 a4 fun _=>rfl
 | ret k d A=>
  rintro v σ H' ⟨fp,F,f,nd,fr,o⟩;simp only[Ip.fin,outs] at h;cases q:A[0]? with
  | none=>rw[q] at h; exact h.elim
  | some o=>
   cases o with
   | none=>rw[q] at h; exact h.elim
   | some y=>
    rw[q] at h;obtain⟨a1,a2,a3,a4⟩:=key f (fun _ z=>.inl z) q;refine h v H' _ a1 a2 a3 a4 fun z=>?_;subst z;exact DO o
 | brk A=>exact h.elim
 | cnt A=>exact h.elim
 | exc c fs A=>
  intro e σ H' x;simp only[Ip.fin,outs] at h;cases q:A[0]? with
  | none=>rw[q] at h; exact h.elim
  | some o=>
   cases o with
   | none=>rw[q] at h; exact h.elim
   | some y=>rw[q] at h; exact h e H' x.out
 | bad=>exact h.elim
theorem Ge {k:Nat}{F:Fn}{N:List Str}{vs:List V}{H:Hp}{Q:VK}{E:XK}(hF:G.fn k=some F)(hns:F.ns=N.length)(hnp:F.np<=F.ns)(h:gr W G (n+1) k F vs H Q E) :
  dH W G n F.io (fun _=>E) F.body { nx:=fun _ H'=>Q .non H',rt:=Q } (start N vs) H:=by
 have hlen:=sf hF h;have hsl:(start N vs).length=N.length:=Fy (by omega);rcases h with ⟨hio,M,xs,hM,dv,h⟩ | ⟨hio,M,x0,xs,v0,ws,f0,rfl,hM,nd,dj,ow,dv,h⟩
 ·have hx:xs.length=F.np:=by rw[dv.length,List.length_map] at hlen; exact hlen
  rw[Ip.run,hF] at h;simp only[if_pos hx,hio] at h;refine⟨H,M,[],bo F xs,fun _=>[],fun p hp=>by simp at hp,⟨fun _ _ e=>e,hM,by rw[hsl,vZ hx hnp,hns],fun p hp=>by simp at hp,fun _=>.nil,fun i j b hb=>by simp at hb,fun i b hb=>by simp at hb,fun i x e=>?_,fun _ _=>rfl⟩,?_⟩
  ·obtain⟨y,e1,e2⟩:=uI e;rw[hio] at e2;simp only[List.contains_nil,Bool.false_eq_true,if_false] at e2;obtain⟨v,e3,e4⟩:=se (i:=i) (d:=y.2) dv (by rw[List.getElem?_map,e1]; rfl);refine⟨v,oS e3,?_⟩;rw[xq,e2];exact⟨rfl,e4⟩
  ·rw[hio];exact GS h
 ·have hx:(x0::xs).length=F.np:=by rw[List.length_cons,dv.length,List.length_map] at hlen; rw[List.length_cons]; exact hlen
  rw[Ip.run,hF] at h;simp only[if_pos hx,hio] at h;have hh:ao M (fun i=>if i=0 then f0 else [])=fun b=>M b\/b∈f0:=funext fun b=>propext ⟨fun z=>z.imp id fun⟨j,y⟩=>by
   by_cases q:j=0
   ·simpa[q] using y
   ·simp[q] at y,fun z=>z.imp id fun y=>⟨0,by simpa using y⟩⟩
  refine⟨hid (fun b=>b∈f0) H,M,[(0,v0)],bo F (x0::xs),fun i=>if i=0 then f0 else [],fun p hp=>by simp at hp; rw[hp,hio]; simp,⟨fun b u e=>(az.mp e).2,hM,by rw[hsl,vZ hx hnp,hns],fun p hp=>?_,fun i=>?_,fun i j b h1 h2=>?_,fun i b hb=>?_,fun i x e=>?_,fun i hi=>?_⟩,?_⟩
  ·simp only[List.mem_singleton] at hp;rw[hp];exact oS rfl
  ·split
   ·exact nd
   ·exact .nil
  ·split at h1
   ·split at h2
    ·omega
    ·simp at h2
   ·simp at h1
  ·split at hb
   ·exact⟨by unfold hid; exact if_pos hb,dj b hb⟩
   ·simp at hb
  ·obtain⟨y,e1,e2⟩:=uI e;rw[hio] at e2;rw[hh];cases i with
   | zero=>
    simp only[List.getElem?_cons_zero,Option.some.injEq] at e1;subst e1;rw[if_pos (by simp)] at e2;subst e2;exact⟨v0,oS rfl,by simpa using ow⟩
   | succ i=>
    simp only[List.getElem?_cons_succ] at e1;rw[if_neg (by simp)] at e2;obtain⟨v,e3,e4⟩:=se (i:=i) (d:=y.2) dv (by rw[List.getElem?_map,e1]; rfl);refine⟨v,oS (by simpa using e3),?_⟩;rw[e2];exact⟨by simp,e4⟩
  ·split
   ·rename_i z;subst z;exact absurd (show (bo F (x0::xs))[0]? = some (some x0) by simp[bo,hio]) (hi x0)
   ·rfl
  ·rw[hio];exact C2 h
structure FunD (K:aL)(x qual:Str)(st:Stmt)(f:Addr)(fd:FuncData):Prop where
 ex:∃(oc:Value) (od:Option Addr) (dV kV doc pm:Value) (an:Option Addr) (cdv ct:Value) (osl:Array (Option Value)),
  fd=PySem.W.fnOf x qual (ak st) (ax st) (bH st) dV kV doc pm an cdv ct/\K.lookup f=some ⟨oc,od,.func fd,osl⟩/\PySem.W.codeIn K cdv qual=true
theorem FunD.okX {N:List Str}{x qual:Str}{st:Stmt}{f:Addr}{fd:FuncData}{ps:List Str}{k:Nat}{sp:Sp}{K:aL}(F:FunD K x qual st f fd)(S:FnScope N ps (bH st))(len:∀vs H Q E,sp vs H Q E->vs.length=ps.length)
  (hbody:∀(cdv:Value) (A:Around) (outer:List Env) (s:Shared) (H:Hp) (vs:List V) (Q:VK) (E:XK),Room k (A.deeper (envOfC qual (bH st) s.heap.objs.size f cdv))->sp vs H Q E ->
   ∃t,PSs (d9 (dr P w) P w K mg base N qual (bH st) f cdv A outer s H E) (ax st) t/\t { nx:=fun _ H'=>Q .non H',rt:=Q } (start N vs) H):FnOk P w K mg base (dr P w) (k+1) f fd ps sp:=by
 obtain⟨oc,od,dV,kV,doc,pm,an,cdv,ct,osl,rfl,lk,hcd⟩:=F.ex;exact GB lk hcd S len fun A outer s H vs Q E hr hsp=>hbody cdv A outer s H vs Q E hr hsp
structure DefAt (W:Wd)(T:Tb)(F:Fn)(a:Addr):Prop where
 ex:∃(x qual:Str) (st:Stmt) (fd:FuncData) (ps:List Str) (io:List Nat),FunD W.K x qual st a fd/\FnScope (eT (ak st) (bH st)) ps (bH st)/\cF T io st=some F/\F.np=ps.length /\
  ∀m,m<=F.np->F.np - m<=F.dfl.length->∃(ds:List Value) (dvs:List V),Binds W.K fd ps ds/\Vals dvs ds/\∀S,Dens W S dvs (b9 F m)
theorem xh {io:List Nat}{st:Stmt}{F:Fn}(h:cF T io st=some F):F.io=io/\F.ns=(eT (ak st) (bH st)).length/\F.np=(ak st).args.length/\F.body=(ax st).map (cS T (bH st) (eT (ak st) (bH st)) 60):=by
 unfold cF at h;split at h
 ·obtain⟨ds,_,h2⟩:=cW h;subst h2;exact⟨rfl,rfl,rfl,rfl⟩
 ·cases h
theorem yV:a.args.length<=(eT a sc).length:=by
 unfold eT;rw[List.length_append,List.length_map]; omega
theorem vO {k:Nat}{F:Fn}{a:Addr}{x qual:Str}{st:Stmt}{fd:FuncData}{ps:List Str}{io:List Nat}(hF:G.fn k=some F)(g:∀m,n=m+1->GF W G T m P w mg base)(gt:GT W G T mg)(fu:FunD W.K x qual st a fd)(S:FnScope (eT (ak st) (bH st)) ps (bH st))(hc:cF T io st=some F)(hnp:F.np=ps.length) :
  FnOk P w W.K mg base (dr P w) (rm n) a fd ps (gr W G n k F):=by
 obtain⟨c1,c2,c3,c4⟩:=xh hc;cases n with
 | zero=>
  refine fu.okX (k:=0) S (fun vs H Q E h=>by rw[sf hF h,hnp]) fun cdv A outer s H vs Q E hr h=>?_;rcases h with ⟨_,_,_,_,_,q⟩ | ⟨_,_,_,_,_,_,_,_,_,_,_,_,_,q⟩
  ·exact q.elim
  ·exact q.elim
 | succ n=>
  refine fu.okX (k:=3 * n+3) S (fun vs H Q E h=>by rw[sf hF h,hnp]) fun cdv A outer s H vs Q E hr h=>?_;refine⟨_,lh (io:=F.io) (E:=fun _=>E) (ur W G T n 60) (sc:=bH st) (N:=eT (ak st) (bH st)) ?_ (ax st),?_⟩
  ·refine⟨⟨g n rfl,rfl,fun y hy=>?_,fun y hy=>?_,fun y hy=>?_,fun y hy=>hy,rfl,S.nd,rfl,passF,hr.mono (by unfold rm; omega)⟩,gt,kq,PassesOwn.leaving,⟨_,_,rfl,rfl⟩,rfl⟩
   ·unfold av at hy;simp only[Bool.or_eq_true,beq_iff_eq] at hy;exact hy.elim (fun z=>z.elim .inl fun z=>.inr (.inl z)) fun z=>.inr (.inr z)
   ·unfold aZ at hy;simp only[Bool.or_eq_true,beq_iff_eq] at hy;exact⟨hy,.inl rfl⟩
   ·unfold aQ at hy;simp only[beq_iff_eq] at hy;exact hy
  ·rw[<-c4];exact Ge hF c2 (by rw[c3,c2]; exact yV) h
theorem qz (hF:G.fn k=some F)(g:∀m,n=m+1->GF W G T m P w mg base)(gt:GT W G T mg)(d:DefAt W T F a):FI W G n P w mg base k F a:=by
 obtain⟨x,qual,st,fd,ps,io,fu,S,hc,hnp,dfl⟩:=d.ex;exact⟨fd,ps,vO hF g gt fu S hc hnp,dfl⟩
end
structure GF0 (W:Wd)(G:Pg)(T:Tb)(mg:Str->Option Value):Prop where
 cf:CF W T.fl
 att:W.att=T.att
 blt:∀x v,(x,v)∈bP->mg x=none/\bootBuiltins x=some v
 cst:∀x d,T.cst.lookup x=some d->(x == ("__debug__" : Str))=false/\∃u v,mg x=some u/\RelV v u/\d.flat=true/\∀S,Den W S v d
 fns:∀x k,T.fns.lookup x=some k->(x == ("__debug__" : Str))=false/\∃F a,G.fn k=some F/\mg x=some (.ref a)/\PySem.W.keepIn W.K (.ref a)=true/\DefAt W T F a
 cls:∀x c,T.cls.lookup x=some c->(x == ("__debug__" : Str))=false/\∃C,mg x=some (.ref C)/\∀Cl' f F,G.cl c=some Cl'->Cl'.init=some f->G.fn f=some F ->
  ∃a,DefAt W T F a/\if Cl'.isx=true then W.xA c=some C/\PySem.W.keepIn W.K (.ref C)=true/\∃tl,XC W.K C a tl else W.iA c=some C/\Mk W.K C a
 meth:∀c Cl' m f F,G.cl c=some Cl'->Cl'.meths.lookup m=some f->G.fn f=some F->∀nm,W.att[m]? = some nm->∃C a,W.iA c=some C/\Meth W.K C nm a/\DefAt W T F a
 isB:∀x t,jM.lookup x=some t->mg x=none/\x ≠ "__name__" /\ (x == ("__debug__" : Str))=false/\∃nm,bootBuiltins x=some (.type nm)/\bJ W G t (.type nm)
 isC:∀x c,T.cls.lookup x=some c->∃C,mg x=some (.ref C)/\bJ W G (.cls c) (.ref C)
theorem xr (g0:GF0 W G T mg)(gt:GT W G T mg):∀n,GF W G T n P w mg base:=by
 have step:∀n,(∀m,n=m+1->GF W G T m P w mg base)->GF W G T n P w mg base:=fun n ih=>
  ⟨g0.cf,g0.att,g0.blt,g0.cst,fun x k h=>by
   obtain⟨h1,F,a,h2,h3,h4,h5⟩:=g0.fns x k h;exact⟨h1,F,a,h2,h3,h4,qz h2 ih gt h5⟩,fun x c h=>by
   obtain⟨h1,C,h2,h3⟩:=g0.cls x c h;refine⟨h1,C,h2,fun Cl' f F q1 q2 q3=>?_⟩;obtain⟨a,h4,h5⟩:=h3 Cl' f F q1 q2 q3;exact⟨a,qz q3 ih gt h4,h5⟩,fun c Cl' m f F q1 q2 q3 nm q4=>by
   obtain⟨C,a,h1,h2,h3⟩:=g0.meth c Cl' m f F q1 q2 q3 nm q4;exact⟨C,a,h1,h2,qz q3 ih gt h3⟩,g0.isB,g0.isC⟩
 intro n;induction n with
 | zero=>exact step 0 fun m h=>by cases h
 | succ n ih=>exact step (n+1) fun m h=>by cases h; exact ih
section
variable {W:Wd}{T:Tb}{F:Fn}{f:Addr}{x qual:Str}{st:Stmt}{oc dV kV doc pm cdv ct:Value}{od an:Option Addr}{osl:Array (Option Value)}{ps:List Str}{io:List Nat}
theorem Ap (l:W.K.lookup f=some ⟨oc,od,.func (PySem.W.fnOf x qual (ak st) (ax st) (bH st) dV kV doc pm an cdv ct),osl⟩)(c:PySem.W.codeIn W.K cdv qual=true)
  (S:FnScope (eT (ak st) (bH st)) ps (bH st))(hc:cF T io st=some F)(hnp:F.np=ps.length)(hd:F.dfl=[])
  (hb:∀us:List Value,us.length=ps.length->bindArgs (PySem.W.fnOf x qual (ak st) (ax st) (bH st) dV kV doc pm an cdv ct) ⟨us,[]⟩=pure (ps.zip us)):DefAt W T F f:=by
 refine⟨x,qual,st,_,ps,io,⟨oc,od,dV,kV,doc,pm,an,cdv,ct,osl,rfl,l,c⟩,S,hc,hnp,fun m h1 h2=>⟨[],[],Binds.all hb,.nil,fun S=>?_⟩⟩;unfold b9;rw[hd];simp;exact .nil
theorem xB (l:W.K.lookup f=some ⟨oc,od,.func (PySem.W.fnOf x qual (ak st) (ax st) (bH st) dV kV doc pm an cdv ct),osl⟩)(c:PySem.W.codeIn W.K cdv qual=true)
  (S:FnScope (eT (ak st) (bH st)) ps (bH st))(hc:cF T io st=some F)(hnp:F.np=ps.length)(hd:F.dfl=[d])(r:RelV v u)(dv:∀S,Den W S v d)
  (hb0:Binds W.K (PySem.W.fnOf x qual (ak st) (ax st) (bH st) dV kV doc pm an cdv ct) ps [])(hb1:Binds W.K (PySem.W.fnOf x qual (ak st) (ax st) (bH st) dV kV doc pm an cdv ct) ps [u]):DefAt W T F f:=by
 refine⟨x,qual,st,_,ps,io,⟨oc,od,dV,kV,doc,pm,an,cdv,ct,osl,rfl,l,c⟩,S,hc,hnp,fun m h1 h2=>?_⟩;unfold b9;rw[hd] at h2 ⊢;by_cases e:F.np - m=0
 ·refine⟨[],[],hb0,.nil,fun S=>?_⟩;rw[e];exact .nil
 ·have:F.np - m=1:=by simp at h2; omega
  refine⟨[u],[v],hb1,.cons r .nil,fun S=>?_⟩;rw[this];exact .cons (dv S) .nil
theorem mem_of_lookup:∀{l:List (Addr×Obj)},l.lookup a=some o->(a,o)∈l
 | [],h=>nomatch h
 | (y,j)::r,h=>by
  rw[List.lookup_cons] at h;cases e:a == y with
  | true=>
   rw[e] at h;rw[beq_iff_eq] at e;cases h;rw[e];exact bM
  | false=>rw[e] at h; exact bD _ (mem_of_lookup h)
def fU (K:aL):Sp:=fun vs H Q _=>∃(a:Addr) (ns:List Int),vs=[.ref a]/\SqL K H a (ns.map V.int)/\ns.length<=63/\∀H',Q (.bl true) H'
theorem zk (hio:F.io=[])(hno:(W.K.all fun p=>!(p.2.cls == Value.type "list"))=true)(hr:∀ns:List Int,ns.length<=63->∃kk,Ip.run G n k [(0,.lst (ns.map D.int))]=.ret kk (.bl true) []) :
  ∀vs H Q E,fU W.K vs H Q E->gr W G n k F vs H Q E:=by
 rintro vs H Q E ⟨a,ns,e,hS,hl,hq⟩;subst e;obtain⟨kk,hr⟩:=hr ns hl;refine .inl ⟨hio,fun _=>False,[(0,.lst (ns.map D.int))],fun _ z=>z.elim,?_,?_⟩
 ·have e:hid (fun _=>False) H=H:=funext fun b=>by unfold hid; exact if_neg id
  rw[e];have hR:Rd H a (.lst (ns.map V.int)):=by
   rcases hS with h | ⟨o,its,m,h1,h2,_⟩
   ·exact h
   ·have:=dF hno (a,o) (mem_of_lookup h1);rw[h2] at this;simp at this
  refine .cons (.lst hR ?_) .nil;clear hr hS hR hl;induction ns with
  | nil=>exact .nil
  | cons i ns ih=>exact .cons .int ih
 ·rw[hr];rintro v H' ⟨_,fp,_,_,o⟩;have:v=.bl true:=by
   cases kk with
   | zero=>obtain⟨_,o⟩:=o; cases o; rfl
   | succ kk=>obtain⟨_,o⟩:=o; cases o; rfl
  subst this;exact hq H'
end
section
variable {W:Wd}{G:Pg}{T:Tb}{mg:Str->Option Value}
def PF (W:Wd)(T:Tb)(G:Pg)(mg:Str->Option Value)(p:Str×Nat):Prop:=(p.1 == ("__debug__" : Str))=false/\∃F a,G.fn p.2=some F/\mg p.1=some (.ref a)/\PySem.W.keepIn W.K (.ref a)=true/\DefAt W T F a
def yQ (W:Wd)(T:Tb)(G:Pg)(mg:Str->Option Value)(p:Str×Nat):Prop:=(p.1 == ("__debug__" : Str))=false/\∃C,mg p.1=some (.ref C)/\bJ W G (.cls p.2) (.ref C)/\∀Cl' f F,G.cl p.2=some Cl'->Cl'.init=some f->G.fn f=some F ->
  ∃a,DefAt W T F a/\if Cl'.isx=true then W.xA p.2=some C/\PySem.W.keepIn W.K (.ref C)=true/\∃tl,XC W.K C a tl else W.iA p.2=some C/\Mk W.K C a
def PV (W:Wd)(mg:Str->Option Value)(p:Str×D):Prop:=(p.1 == ("__debug__" : Str))=false/\∃u v,mg p.1=some u/\RelV v u/\p.2.flat=true/\∀S,Den W S v p.2
def PM (W:Wd)(T:Tb)(G:Pg)(C:Addr)(p:Nat×Nat):Prop:=∃F nm a,G.fn p.2=some F/\W.att[p.1]? = some nm/\Meth W.K C nm a/\DefAt W T F a
theorem fA [BEq α][LawfulBEq α]:∀{l:List (α×β)},l.lookup a=some b->(a,b)∈l
 | [],h=>nomatch h
 | (y,j)::r,h=>by
  rw[List.lookup_cons] at h;cases e:a == y with
  | true=>
   rw[e] at h;rw[beq_iff_eq] at e;cases h;rw[e];exact bM
  | false=>rw[e] at h; exact bD _ (fA h)
theorem Db (cf:CF W T.fl)(att:W.att=T.att)(blt:∀p∈bP,mg p.1=none/\bootBuiltins p.1=some p.2)(cst:∀p∈T.cst,PV W mg p)(fns:∀p∈T.fns,PF W T G mg p)(cls:∀p∈T.cls,yQ W T G mg p)
  (meth:∀c Cl',G.cl c=some Cl'->Cl'.meths≠[]->∃C,W.iA c=some C/\∀p∈Cl'.meths,PM W T G C p)
  (isB:∀p∈jM,mg p.1=none/\p.1 ≠ "__name__" /\ (p.1 == ("__debug__" : Str))=false/\∃nm,bootBuiltins p.1=some (.type nm)/\bJ W G p.2 (.type nm)):GF0 W G T mg where
 cf:=cf
 att:=att
 blt:=fun x v h=>blt (x,v) h
 cst:=fun x d h=>cst (x,d) (fA h)
 fns:=fun x k h=>fns (x,k) (fA h)
 cls:=fun x c h=>by
  obtain⟨h1,C,h2,_,h3⟩:=cls (x,c) (fA h);exact⟨h1,C,h2,h3⟩
 meth:=fun c Cl' m f F h1 h2 h3 nm h4=>by
  have hm:=fA h2;obtain⟨C,e1,e2⟩:=meth c Cl' h1 (fun z=>by rw[z] at hm; simp at hm);obtain⟨F',nm',a,e3,e4,e5,e6⟩:=e2 (m,f) hm;rw[h3] at e3; cases e3;rw[h4] at e4; cases e4;exact⟨C,a,e1,e5,e6⟩
 isB:=fun x t h=>isB (x,t) (fA h)
 isC:=fun x c h=>by
  obtain⟨_,C,h2,h3,_⟩:=cls (x,c) (fA h);exact⟨C,h2,h3⟩
theorem Ek (h0:PySem.W.kitOne W.K (.type "NoneType") cv=some (aA G .non t))(h1:PySem.W.kitOne W.K (.type "bool") cv=some (aA G (.bl true) t))(h2:PySem.W.kitOne W.K (.type "int") cv=some (aA G (.int 0) t))
  (h3:PySem.W.kitOne W.K (.type "str") cv=some (aA G (.str "") t))(h4:PySem.W.kitOne W.K (.type "list") cv=some (aA G (.lst []) t))(h5:PySem.W.kitOne W.K (.type "tuple") cv=some (aA G (.tup []) t))
  (h6:∀c C,W.iA c=some C->PySem.W.kitOne W.K (.ref C) cv=some (aA G (.ins c []) t))(h7:∀c C,W.xA c=some C->PySem.W.kitOne W.K (.ref C) cv=some (aA G (.exc c []) t)):bJ W G t cv:=by
 intro d tv h;cases d with
 | non=>cases h; exact h0
 | bl b=>cases h; rw[h1]; cases t <;> rfl
 | int i=>cases h; rw[h2]; cases t <;> rfl
 | str s=>cases h; rw[h3]; cases t <;> rfl
 | lst xs=>cases h; rw[h4]; cases t <;> rfl
 | tup xs=>cases h; rw[h5]; cases t <;> rfl
 | ins c fs=>
  obtain⟨C,e1,e2⟩:=cW h;subst e2;rw[h6 c C e1]; cases t <;> rfl
 | exc c fs=>
  obtain⟨C,e1,e2⟩:=cW h;subst e2;rw[h7 c C e1]; cases t <;> rfl
end
noncomputable def cy (K:aL)(iL xL:List (Nat×Addr))(att:List Str):Wd:=⟨K,fun c=>iL.lookup c,fun c=>xL.lookup c,att⟩
theorem c8 (h:l.length=1):∃a,l=[a]:=List.length_eq_one_iff.mp h
theorem iG (h:l.length=n+1):∃a r,l=a::r/\r.length=n:=by
 cases l with
 | nil=>cases h
 | cons a r=>exact⟨a,r,rfl,Nat.succ.inj h⟩
theorem cu (h:l.length=2):∃a b,l=[a,b]:=by
 obtain⟨a,r,rfl,h2⟩:=iG h;obtain⟨b,rfl⟩:=c8 h2;exact⟨a,b,rfl⟩
theorem dX (h:l.length=3):∃a b c,l=[a,b,c]:=by
 obtain⟨a,r,rfl,h2⟩:=iG h;obtain⟨b,c,rfl⟩:=cu h2;exact⟨a,b,c,rfl⟩
theorem ie (h:l.length=4):∃a b c d,l=[a,b,c,d]:=by
 obtain⟨a,r,rfl,h2⟩:=iG h;obtain⟨b,c,d,rfl⟩:=dX h2;exact⟨a,b,c,d,rfl⟩
theorem pO (h:l.length=5):∃a b c d e,l=[a,b,c,d,e]:=by
 obtain⟨a,r,rfl,h2⟩:=iG h;obtain⟨b,c,d,e,rfl⟩:=ie h2;exact⟨a,b,c,d,e,rfl⟩
section
variable {K:aL}{iL xL:List (Nat×Addr)}{att:List Str}{fl:List Nat}{G:Pg}{T:Tb}{mg:Str->Option Value}
noncomputable def nD (fl:List Nat)(att:List Str):List Str:=fl.filterMap fun f=>att[f]?
abbrev NoA (K:aL)(C:Addr)(ns:List Str):Prop:=(ns.map fun n=>PySem.W.findIn K (.ref C) n)=ns.map fun _=>some none
theorem NoA.at (h:NoA K C ns)(hn:n∈ns):NoAttr K C n:=List.map_inj_left.mp h n hn
theorem z9 (nd:att.Nodup)(hi:∀p∈iL,InsC K p.2/\NoA K p.2 (nD fl att))(hx:∀p∈xL,ExcC K p.2/\NoA K p.2 (nD fl att)):CF (cy K iL xL att) fl:=
 ⟨nd,fun c C h=>⟨(hi (c,C) (fA h)).1,fun f n hf hn=>(hi (c,C) (fA h)).2.at (List.mem_filterMap.mpr ⟨f,hf,hn⟩)⟩,
  fun c C h=>⟨(hx (c,C) (fA h)).1,fun f n hf hn=>(hx (c,C) (fA h)).2.at (List.mem_filterMap.mpr ⟨f,hf,hn⟩)⟩⟩
abbrev mJ (K:aL)(G:Pg)(t:Ip.Ty)(cv:Value):Prop:=[PySem.W.kitOne K (.type "NoneType") cv,PySem.W.kitOne K (.type "bool") cv,PySem.W.kitOne K (.type "int") cv,PySem.W.kitOne K (.type "str") cv,PySem.W.kitOne K (.type "list") cv,PySem.W.kitOne K (.type "tuple") cv]=[some (aA G .non t),some (aA G (.bl true) t),some (aA G (.int 0) t),some (aA G (.str "") t),some (aA G (.lst []) t),some (aA G (.tup []) t)]
abbrev qt (K:aL)(iL:List (Nat×Addr))(G:Pg)(t:Ip.Ty)(cv:Value):Prop:=(iL.map fun p=>PySem.W.kitOne K (.ref p.2) cv)=iL.map fun p=>some (aA G (.ins p.1 []) t)
abbrev sm (K:aL)(xL:List (Nat×Addr))(G:Pg)(t:Ip.Ty)(cv:Value):Prop:=(xL.map fun p=>PySem.W.kitOne K (.ref p.2) cv)=xL.map fun p=>some (aA G (.exc p.1 []) t)
theorem Dh (hb:mJ K G t cv)(hi:qt K iL G t cv)(hx:sm K xL G t cv):bJ (cy K iL xL att) G t cv:=by
 unfold mJ at hb;injection hb with h0 hb;injection hb with h1 hb;injection hb with h2 hb;injection hb with h3 hb;injection hb with h4 hb;injection hb with h5 hb;exact Ek h0 h1 h2 h3 h4 h5 (fun c C h=>List.map_inj_left.mp hi (c,C) (fA h)) fun c C h=>List.map_inj_left.mp hx (c,C) (fA h)
theorem z8 (db:(T.wb == ("__debug__" : Str))=false)(hm:mg T.wb=some (.ref Wa))(xi:XInit K Wa)(xo:XO K Wa [])(h:∀p∈xL,∃tl,XO K p.2 tl/\Wa∈p.2::tl):GT (cy K iL xL att) G T mg:=
 ⟨db,Wa,[],hm,xi,xo,fun c c' C fs _ h2 _=>h (c',C) (fA h2)⟩
def FnAt (K:aL)(x qual:Str)(st:Stmt)(f:Addr):Prop:=∃(oc:Value) (od:Option Addr) (kV doc pm:Value) (an:Option Addr) (cdv ct:Value) (osl:Array (Option Value)),
 K.lookup f=some ⟨oc,od,.func (PySem.W.fnOf x qual (ak st) (ax st) (bH st) .none kV doc pm an cdv ct),osl⟩/\PySem.W.codeIn K cdv qual=true
theorem FnAt.mk {x qual:Str}{st:Stmt}{f:Addr}{oc kV doc pm cdv ct:Value}{od an:Option Addr}{osl:Array (Option Value)}(l:K.lookup f=some ⟨oc,od,.func (PySem.W.fnOf x qual (ak st) (ax st) (bH st) .none kV doc pm an cdv ct),osl⟩)(c:PySem.W.codeIn K cdv qual=true):FnAt K x qual st f:=
 ⟨oc,od,kV,doc,pm,an,cdv,ct,osl,l,c⟩
def FnAtD (K:aL)(x qual:Str)(st:Stmt)(v:V)(f:Addr):Prop:=∃(oc:Value) (od:Option Addr) (t:Addr) (kV doc pm:Value) (an:Option Addr) (cdv ct:Value) (osl:Array (Option Value)) (u oct:Value) (odt:Option Addr) (n:Nat) (slt:Array (Option Value)),
 K.lookup f=some ⟨oc,od,.func (PySem.W.fnOf x qual (ak st) (ax st) (bH st) (.ref t) kV doc pm an cdv ct),osl⟩/\PySem.W.codeIn K cdv qual=true/\K.lookup t=some ⟨oct,odt,.seq #[u] n,slt⟩/\RelV v u
theorem FnAtD.mk {x qual:Str}{st:Stmt}{v:V}{f t:Addr}{oc kV doc pm cdv ct u oct:Value}{od an odt:Option Addr}{osl slt:Array (Option Value)}{n:Nat}(l:K.lookup f=some ⟨oc,od,.func (PySem.W.fnOf x qual (ak st) (ax st) (bH st) (.ref t) kV doc pm an cdv ct),osl⟩)(c:PySem.W.codeIn K cdv qual=true)
  (lt:K.lookup t=some ⟨oct,odt,.seq #[u] n,slt⟩)(r:RelV v u):FnAtD K x qual st v f:=⟨oc,od,t,kV,doc,pm,an,cdv,ct,osl,u,oct,odt,n,slt,l,c,lt,r⟩
theorem zU {K:aL}{iL xL:List (Nat×Addr)}{P:Program}{w:World}{n:Nat}{F:Fn}{f:Addr}{st:Stmt}{x:Str}(g0:GF0 (cy K iL xL att) G T mg)(gt:GT (cy K iL xL att) G T mg)(hno:(K.all fun p=>!(p.2.cls == Value.type "list"))=true)(hF:G.fn 69=some F)(hio:F.io=[])(d:FnAt K "law" "law" st f)
  (S:FnScope (eT (ak st) (bH st)) [x] (bH st))(hc:cF T [] st=some F)(hnp:F.np=1)(hb:∀(kV doc pm:Value) (an:Option Addr) (cdv ct:Value) (u:Value),bindArgs (PySem.W.fnOf "law" "law" (ak st) (ax st) (bH st) .none kV doc pm an cdv ct) ⟨[u],[]⟩=pure [(x,u)])
  (hr:∀ns:List Int,ns.length<=63->∃kk,Ip.run G n 69 [(0,.lst (ns.map D.int))]=.ret kk (.bl true) []) :
  ∃fd:FuncData,(∀(s:Shared) (u:Value),BindsTo s fd ⟨[u],[]⟩ [(x,u)])/\∀base:Heap,K.In base->base.Ns mainGlobals mg->FnOk P w K mg base (dr P w) (rm n) f fd [x] (fU K):=by
 obtain⟨oc,od,kV,doc,pm,an,cdv,ct,osl,l,c⟩:=d;refine⟨_,fun s u=>.of_eq (hb kV doc pm an cdv ct u),fun base _ _=>?_⟩;have fu:FunD (cy K iL xL att).K "law" "law" st f (PySem.W.fnOf "law" "law" (ak st) (ax st) (bH st) .none kV doc pm an cdv ct):=⟨oc,od,.none,kV,doc,pm,an,cdv,ct,osl,rfl,l,c⟩
 exact (vO (n:=n) hF (fun m _=>xr g0 gt m) gt fu S hc hnp).imp (zk (W:=cy K iL xL att) hio hno hr)
theorem XO.mk'
  (h:K.lookup C=some (excClassObj nm q C N bs (tl.map Value.ref++bz) true sn sub ab col dd k0 k1 k2 k3 k5 "ValueError.__new__")):XO K C tl:=⟨nm,q,N,bs,sn,sub,ab,col,dd,k0,k1,k2,k3,k5,h⟩
end
end L2
end
section
namespace Hd
open PySem PySem.W PySem.Calls PyProof.Rows
noncomputable def gM (thr ok:Thread->Bool)(stp:SharedT->Thread->Option (SharedT×Thread))(n:Nat):SharedT->Thread->Option SharedT:=
 @Nat.rec (fun _=>SharedT->Thread->Option SharedT) (fun _ _=>none) (fun _ ih s t=>match thr t with
  | true=>some s
  | false=>match ok t with
   | false=>none
   | true=>match stp s t with
    | some (s',t')=>ih s' t'
    | none=>none) n
theorem B4 (thr ok:Thread->Bool)(stp:SharedT->Thread->Option (SharedT×Thread))(n:Nat)(s:SharedT)(t:Thread):gM thr ok stp (n+1) s t=(match thr t with
  | true=>some s
  | false=>match ok t with
   | false=>none
   | true=>match stp s t with
    | some (s',t')=>gM thr ok stp n s' t'
    | none=>none):=rfl
theorem uq:∀(n:Nat) (s s':SharedT) (t:Thread),gM through (stepOk n₀ ann) (stepT (denote tb) p w) n s t=some s'->topRun tb p w n₀ ann n s.abs t=some s'.abs
 | 0,_,_,_,h=>by cases h
 | n+1,s,s',t,h=>by
  rw[B4] at h;unfold topRun;cases ht:through t with
  | true=>rw[ht] at h; cases h; rfl
  | false=>
   rw[ht] at h;cases hk:stepOk n₀ ann t with
   | false=>rw[hk] at h; cases h
   | true=>
    rw[hk] at h;cases hs:stepT (denote tb) p w s t with
    | none=>rw[hs] at h; cases h
    | some r=>obtain⟨s₂,t₂⟩:=r; rw[hs] at h; dsimp only; rw[stepT_spec hs]; exact uq n s₂ s' t₂ h
noncomputable def lookG {β α:Type}(mods:List Str)(so lk:Heap->Heap->Bool)(nb:Heap->Bool)(seen:Shared->β)(Yf:Shared->α)(h₀:Heap)(st:SharedT):Bool×β×α:=
 (so h₀ st.abs.heap&&nb st.abs.heap&&gensDone st.abs&&lk h₀ st.abs.heap,seen st.abs,Yf st.abs)
theorem xN {p q:Program}{loose:List Str}{Xt:Shared->Bool}{α:Type}{Yf:Shared->α}{Ya:World->α}{N m₀:Nat}{ann:Option Value}{T0:Params->BT}{life:Params->Life}
  (e:opening p=plainProg p.main.scope.names)(hN:Nat.ble 600 N=true)(f:∀s,fenceModules? p s=some s)
  (size:∀w:World,((boot_heap w.params).isNs mainGlobals,(boot_heap w.params).objs.size,(boot_heap w.params).nsMap mainGlobals "__annotations__")=(true,m₀,ann))
  (habs:∀P,absHeap (T0 P) m₀ (life P)=boot_heap P)
  (run:∀(w:World) (os:OsState),(gM through (stepOk m₀ ann) (stepT (denote treeTable) p w) N ⟨T0 w.params,m₀,life w.params,Array.mk [],boot_drawn,boot_toks,os⟩ (topStub p)).map
   (lookG (importedModules p.main.body) (staticsOk (importedModules p.main.body)) laidKept (namesBound p) (openSeen q loose (importedModules p.main.body) Xt true) Yf (boot_heap w.params))=some (true,openGood q loose,Ya w)) :
  LeftO p q loose Xt Yf Ya N:=fun w=>by
 obtain⟨⟨h,gs,d,k,os⟩,e1,e'⟩:=cW (boot_open e hN f w);obtain⟨rfl,rfl,rfl,rfl⟩:h=boot_heap w.params/\gs=Array.mk []/\d=boot_drawn/\k=boot_toks:=by simpa using e'
 obtain⟨z1,z2,z3⟩:_/\_/\_:=by simpa only[Prod.mk.injEq] using size w
 obtain⟨st,hr,hl⟩:=cW (run w os);have r:=uq _ _ _ _ hr;have ha:SharedT.abs ⟨T0 w.params,m₀,life w.params,Array.mk [],boot_drawn,boot_toks,os⟩=⟨boot_heap w.params,Array.mk [],boot_drawn,boot_toks,os⟩:=by
  show Shared.mk _ _ _ _ _=_;rw[habs]
 rw[ha] at r;obtain⟨l1,l2,l3⟩:_/\_/\_:=by simpa only[lookG,Prod.mk.injEq] using hl
 have t:topFrom treeTable p w N ⟨boot_heap w.params,Array.mk [],boot_drawn,boot_toks,os⟩=some st.abs:=by
  unfold topFrom;dsimp only;rw[z1,z2,z3];show ((topRun treeTable p w m₀ ann N _ (topStub p)).bind _)=_;rw[r];show (match staticsOk (importedModules p.main.body) (boot_heap w.params) st.abs.heap&&namesBound p st.abs.heap&&gensDone st.abs&&laidKept (boot_heap w.params) st.abs.heap with | true=>_ | false=>_)=_;rw[l1]
 unfold openEnds;rw[e1];show (topFrom treeTable p w N _).map _=_;rw[t];exact congrArg some (Prod.ext l2 l3)
end Hd
end
section
namespace Hd
open PySem PySem.Spec PySem.W PyProof.Rows L2
noncomputable abbrev tf:=(Str×Str×Arguments×FuncBody)×Scope×Addr×List (Str×Addr)×Value×Addr×Bool
noncomputable def kd (K:Frag)(f:Addr):Option tf:=match K.lookup f with
 | some ⟨_,_,.func fd,_⟩=>some ((fd.name,fd.qualname,fd.params,fd.body),fd.scope,fd.globals,fd.closure,fd.defaults,fd.builtins,codeIn K fd.code fd.qualname)
 | _=>none
noncomputable abbrev nh:=Value×List Value×Bool×Bool×Option Value
noncomputable def n8 (K:Frag)(C:Addr):Option nh:=match K.lookup C with
 | some ⟨c,_,.cls cd,⟨[_,_,_,_,k4,_]⟩⟩=>some (c,cd.mro,cd.hasDict,cd.hasDel,k4)
 | _=>none
noncomputable def iq (K:Frag)(t:Addr):Option (List Value):=match K.lookup t with
 | some ⟨_,_,.seq xs _,_⟩=>some xs.toList
 | _=>none
theorem Gy {K:Frag}{f:Addr}{oc:Value}{od:Option Addr}{fd:FuncData}{osl:Array (Option Value)}(l:K.lookup f=some ⟨oc,od,.func fd,osl⟩):kd K f=some ((fd.name,fd.qualname,fd.params,fd.body),fd.scope,fd.globals,fd.closure,fd.defaults,fd.builtins,codeIn K fd.code fd.qualname):=by
 unfold kd; rw[l]
theorem wV {K:Frag}{f:Addr}{x qual:Str}{st:Stmt}(h:kd K f=some ((x,qual,ak st,.stmts (ax st)),bH st,mainGlobals,[],.none,builtinsNs,true)):FnAt K x qual st f:=by
 unfold kd at h;split at h
 ·rename_i fd _ hk;obtain⟨a1,a2,a3,a4,a5,a6,a7,a8,a9,a10,a11,a12,a13,a14,a15⟩:=fd;simp only[Option.some.injEq,Prod.mk.injEq] at h;obtain⟨⟨rfl,rfl,rfl,rfl⟩,rfl,rfl,rfl,rfl,rfl,hc⟩:=h;exact .mk hk hc
 ·cases h
theorem Dy {K:Frag}{f t:Addr}{x qual:Str}{st:Stmt}{v:V}{u:Value}(h:kd K f=some ((x,qual,ak st,.stmts (ax st)),bH st,mainGlobals,[],.ref t,builtinsNs,true))(ht:iq K t=some [u])(r:RelV v u):FnAtD K x qual st v f:=by
 unfold kd at h;split at h
 ·rename_i fd _ hk;obtain⟨a1,a2,a3,a4,a5,a6,a7,a8,a9,a10,a11,a12,a13,a14,a15⟩:=fd;simp only[Option.some.injEq,Prod.mk.injEq] at h;obtain⟨⟨rfl,rfl,rfl,rfl⟩,rfl,rfl,rfl,rfl,rfl,hc⟩:=h;unfold iq at ht;split at ht
  ·rename_i xs n _ hs;obtain⟨l⟩:=xs;obtain rfl:l=[u]:=bV ht;exact .mk hk hc hs r
  ·cases ht
 ·cases h
theorem vV {K:Frag}{C:Addr}{tl:List Addr}(h:n8 K C=some (.type "type",.ref C::(tl.map Value.ref++bz),true,false,some (.builtin "ValueError.__new__"))):XO K C tl:=by
 unfold n8 at h;split at h
 ·rename_i c cd k0 k1 k2 k3 k4 k5 hk;obtain⟨a1,a2,a3,a4,a5,a6,a7,a8,a9,a10,a11⟩:=cd;simp only[Option.some.injEq,Prod.mk.injEq] at h;obtain⟨rfl,rfl,rfl,rfl,rfl⟩:=h;exact .mk' hk
 ·cases h
noncomputable def oU (as:List Addr)(h:Heap):Frag:=as.filterMap fun a=>(h.get? a).map fun o=>(a,o)
theorem vD (h:Heap):∀as:List Addr,(oU as h).In h
 | []=>fun a o e=>by cases e
 | a::as=>fun b o e=>by
  have ih:=vD h as;unfold oU at e ih;rw[List.filterMap_cons] at e;cases q:h.get? a with
  | none=>rw[q] at e; exact ih b o e
  | some x=>
   rw[q] at e;by_cases hb:b=a
   ·subst hb;have:some x=some o:=by simpa[List.lookup_cons] using e
    cases this;exact q
   ·have:(List.filterMap (fun a=>(h.get? a).map fun o=>(a,o)) as).lookup b=some o:=by
     have hb':(b == a)=false:=beq_eq_false_iff_ne.mpr hb;simpa[List.lookup_cons,hb'] using e
    exact ih b o this
noncomputable def jv {α:Type}(as:List Addr)(q:Frag->α)(v:α):Hook where
 α:=α
 obs:=fun s=>q (oU as s.heap)
 val:=fun _=>v
 says:=fun _ h=>∃K:Frag,K.In h/\q K=v
 of:=fun _ s e=>⟨_,vD s.heap as,e⟩
 keeps:=fun _ _ _ ⟨K,a,b⟩ k=>⟨K,a.keeps k,b⟩
theorem GH {l:OpenLaw}{n k:Nat}{q:Program}{loose:List Str}{XP:(Str->Option Value)->Heap->Prop}{d:DefRec}{α:Type}{as:List Addr}{qs:Frag->α}{v:α}{CX:World->gG}{sp:World->Frag->Sp}{x:Str}
  (hn:l.most=some n)(hn2:n<=sizeLine)(hdf:d.params.defaults=[])(hr:Room k callerA)
  (F:∀(w:World) (K:Frag) (mg:Str->Option Value) (fa:Addr) (h:Heap),qs K=v->K.In h->h.Ns mainGlobals mg->mg d.name=some (.ref fa) ->
   ∃fd:FuncData,(∀(s:Shared) (u:Value),BindsTo s fd ⟨[u],[]⟩ [(x,u)]) /\
    ∀base:Heap,K.In base->base.Ns mainGlobals mg->FnOk l.prog w K mg base (CX w) k fa fd [x] (sp w K))
  (hsp:∀(w:World) (K:Frag) (H:Hp) (a:Addr) (ns:List Int),ns.length<=n->kI H->SqL K H a (ns.map V.int)->sp w K [.ref a] H (fun v _=>v=.bl true) fun _ _ _=>False)
  (hCX:∀(w:World) (H:Hp) (s:Shared) (e:Value) (s':Shared),CX w [] H s (fun _ _ _=>False) e s'->False) :
  WalkO q loose XP (Hook.says (jv as qs v)) l.row.toRowW d [] (fun f vs=>PySem.call f vs):=by
 refine Att.attach_call hn hdf fun w s₀ s₁ mg mb fa o pm cd doc a vs ns G Y ho hd hcd hmg hobj hints hlen hg=>?_;obtain⟨K,KX,hq⟩:=Y;obtain⟨fd,hb,hF⟩:=F w K mg fa _ hq KX G.T.g hmg;exact Eb KX G.T.g G.T.b G.T.builtins G.T.nolimit hg hobj hints (bK hlen hn2) hr hF hb (fun H hO hS=>hsp w K H a ns hlen hO hS) fun H e s'=>hCX w H s₁ e s'
theorem Cn {α:Type}{p:α->Prop}{a:α}{l:List α}(h:p a)(t:∀b∈l,p b):∀b∈a::l,p b:=List.forall_mem_cons.mpr ⟨h,t⟩
theorem Nl {α:Type}{p:α->Prop}:∀b∈([]:List α),p b:=fun _ h=>nomatch h
structure Fd where
 x:Str
 q:Str
 k:Nat
 f:Addr
 st:Stmt
 d:Option (Addr×Value)
noncomputable abbrev OV:=Option (Option Value)
noncomputable abbrev DV:=Option tf×Option (Option (List Value))
noncomputable def mq (d:Option (Addr×Value)):Value:=match d with
 | none=>.none
 | some p=>.ref p.1
noncomputable def qD (K:Frag)(d:Fd):DV:=(kd K d.f,d.d.map fun p=>iq K p.1)
noncomputable def aD (d:Fd):DV:=(some ((d.x,d.q,ak d.st,.stmts (ax d.st)),bH d.st,mainGlobals,[],mq d.d,builtinsNs,true),d.d.map fun p=>some [p.2])
section
variable {W:Wd}{T:Ip.Tb}{G:Ip.Pg}{F:Ip.Fn}{ps:List Str}{io:List Nat}{d:Fd}{mg:Str->Option Value}{K:Frag}
noncomputable def vQ (N ps:List Str)(sc:Scope):Bool:=sc.kind == .function&&(sc.isCoroutine == false&&(sc.isGenerator == false&&(decide N.Nodup&&(N.take ps.length == ps&&(ps.all (fun x=>sc.names.lookup x == some .local||sc.names.lookup x == some .cell)&&sc.names.all fun y=>y.2 != .free)))))
theorem bQ {N ps:List Str}{sc:Scope}(h:vQ N ps sc=true):FnScope N ps sc:=by
 simp only[vQ,Bool.and_eq_true,beq_iff_eq,decide_eq_true_eq,List.all_eq_true,Bool.or_eq_true,bne_iff_ne] at h;obtain⟨h1,h2,h3,h4,h5,h6,h7⟩:=h;exact⟨h1,h2,h3,h4,h5,h6,h7⟩
theorem bW (h:qD W.K d=aD d)(hd:d.d=none)(S:FnScope (Ip.eT (ak d.st) (bH d.st)) ps (bH d.st))(hc:Ip.cF T io d.st=some F)(hnp:F.np=ps.length)(hf:F.dfl=[])
  (hb:∀(kV doc pm:Value) (an:Option Addr) (cdv ct:Value) (us:List Value),us.length=ps.length->bindArgs (fnOf d.x d.q (ak d.st) (ax d.st) (bH d.st) .none kV doc pm an cdv ct) ⟨us,[]⟩=pure (ps.zip us)):DefAt W T F d.f:=by
 have h1:=(Prod.mk.inj h).1;rw[hd] at h1;obtain⟨oc,od,kV,doc,pm,an,cdv,ct,osl,l,c⟩:=wV h1;exact Ap l c S hc hnp hf fun us hl=>hb kV doc pm an cdv ct us hl
theorem yq {t:Addr}{u:Value}{v:V}{dd:Ip.D}(h:qD W.K d=aD d)(hd:d.d=some (t,u))(S:FnScope (Ip.eT (ak d.st) (bH d.st)) ps (bH d.st))(hc:Ip.cF T io d.st=some F)(hnp:F.np=ps.length)(hf:F.dfl=[dd])(r:RelV v u)(dv:∀S,Den W S v dd)
  (hb0:∀(kV doc pm:Value) (an:Option Addr) (cdv ct:Value) {oct:Value} {odt:Option Addr} {n:Nat} {slt:Array (Option Value)},W.K.lookup t=some ⟨oct,odt,.seq #[u] n,slt⟩->Binds W.K (fnOf d.x d.q (ak d.st) (ax d.st) (bH d.st) (.ref t) kV doc pm an cdv ct) ps [])
  (hb1:∀(kV doc pm:Value) (an:Option Addr) (cdv ct:Value) {oct:Value} {odt:Option Addr} {n:Nat} {slt:Array (Option Value)},W.K.lookup t=some ⟨oct,odt,.seq #[u] n,slt⟩->Binds W.K (fnOf d.x d.q (ak d.st) (ax d.st) (bH d.st) (.ref t) kV doc pm an cdv ct) ps [u]):DefAt W T F d.f:=by
 obtain⟨h1,h2⟩:=Prod.mk.inj h;rw[hd] at h1 h2;obtain⟨oc,od,t',kV,doc,pm,an,cdv,ct,osl,u',oct,odt,n,slt,l,c,lt,r'⟩:=Dy (v:=v) h1 (bV h2) r;obtain rfl:t'=t:=by
  have z:=Gy l;rw[h1] at z;simp only[Option.some.injEq,Prod.mk.injEq,mq,Value.ref.injEq] at z;exact z.2.2.2.2.1.symm
 have hu:=h2;simp only[Option.map_some,iq,lt,Option.some.injEq,List.cons.injEq,and_true] at hu;subst hu;exact xB (d:=dd) (v:=v) l c S hc hnp hf r dv (hb0 kV doc pm an cdv ct lt) (hb1 kV doc pm an cdv ct lt)
def nG (W:Wd)(T:Ip.Tb)(G:Ip.Pg)(d:Fd):Prop:=∃F,G.fn d.k=some F/\(qD W.K d=aD d->DefAt W T F d.f)
structure Ic where
 x:Str
 c:Nat
 C:Addr
 d:Fd
structure Xc where
 x:Str
 c:Nat
 C:Addr
 tl:List Addr
 d:Fd
noncomputable def qI (K:Frag)(ns:List Str)(e:Ic):OV×List Bool×List OV×List (Option Bool)×List OV×DV:=
  (nsIn K mainGlobals e.x,[plainGet K e.C Str.empty,hasDictIn K e.C,plainOver K e.C,makesIn K e.C,isFn K (.ref e.d.f),keepIn K (.ref e.C)],
   [findIn K (.ref e.C) "__setattr__",findIn K (.ref e.C) "__class__",specialIn K (.builtin "object.__class__") "__get__",findIn K (.ref e.C) "__init__"],
   [takesIn K (.builtin "object.__class__"),mroIn K e.C (.type "object")],ns.map fun n=>findIn K (.ref e.C) n,qD K e.d)
noncomputable def aI (ns:List Str)(e:Ic):OV×List Bool×List OV×List (Option Bool)×List OV×DV:=
  (some (some (.ref e.C)),[true,true,true,true,true,true],
   [some (some (.builtin "object.__setattr__")),some (some (.builtin "object.__class__")),some (some (.builtin "getset_descriptor.__get__")),some (some (.ref e.d.f))],
   [some true,some true],ns.map fun _=>some none,aD e.d)
theorem ins_of {ns:List Str}{e:Ic}(h:qI K ns e=aI ns e):nsIn K mainGlobals e.x=some (some (.ref e.C))/\InsC K e.C/\NoA K e.C ns/\Mk K e.C e.d.f/\qD K e.d=aD e.d:=by
 simp only[qI,aI,Prod.mk.injEq,List.cons.injEq,and_true] at h;obtain⟨h1,⟨b1,b2,b3,b4,b5,b6⟩,⟨c1,c2,c3,c4⟩,⟨d1,d2⟩,h5,h6⟩:=h;exact⟨h1,⟨⟨b1,b2,b3,c1⟩,c2,c3,d1,d2⟩,h5,⟨b4,c4,b5,b6⟩,h6⟩
noncomputable def qX (K:Frag)(ns:List Str)(e:Xc):OV×Option nh×List Bool×List OV×List (Option Bool)×List OV×DV:=
  (nsIn K mainGlobals e.x,n8 K e.C,[isFn K (.ref e.d.f),keepIn K (.ref e.C)],
   [findIn K (.ref e.C) "__init__",findIn K (.ref e.C) "__setattr__",findIn K (.ref e.C) "__getattribute__",findIn K (.ref e.C) "__getattr__",findIn K (.ref e.C) "__class__",specialIn K (.builtin "object.__class__") "__get__"],
   [takesIn K (.builtin "object.__class__"),mroIn K e.C (.type "object")],ns.map fun n=>findIn K (.ref e.C) n,qD K e.d)
noncomputable def aX (ns:List Str)(e:Xc):OV×Option nh×List Bool×List OV×List (Option Bool)×List OV×DV:=
  (some (some (.ref e.C)),some (.type "type",.ref e.C::(e.tl.map Value.ref++bz),true,false,some (.builtin "ValueError.__new__")),[true,true],
   [some (some (.ref e.d.f)),some (some (.builtin "object.__setattr__")),some (some (.builtin "BaseException.__getattribute__")),some none,some (some (.builtin "object.__class__")),some (some (.builtin "getset_descriptor.__get__"))],
   [some true,some true],ns.map fun _=>some none,aD e.d)
theorem Cy {ns:List Str}{e:Xc}(h:qX K ns e=aX ns e):nsIn K mainGlobals e.x=some (some (.ref e.C))/\XC K e.C e.d.f e.tl/\XI K e.C/\NoA K e.C ns/\keepIn K (.ref e.C)=true/\qD K e.d=aD e.d:=by
 simp only[qX,aX,Prod.mk.injEq,List.cons.injEq,and_true] at h;obtain⟨h1,h2,⟨b1,b2⟩,⟨c1,c2,c3,c4,c5,c6⟩,⟨d1,d2⟩,h5,h6⟩:=h;exact⟨h1,⟨vV h2,c1,b1,c2,c3,c4⟩,⟨c5,c6,d1,d2⟩,h5,b2,h6⟩
noncomputable def qT (K:Frag)(iL xL:List (Nat×Addr))(cv:Value):List (Option Bool)×List (Option Bool)×List (Option Bool):=
 ([kitOne K (.type "NoneType") cv,kitOne K (.type "bool") cv,kitOne K (.type "int") cv,kitOne K (.type "str") cv,kitOne K (.type "list") cv,kitOne K (.type "tuple") cv],iL.map fun p=>kitOne K (.ref p.2) cv,xL.map fun p=>kitOne K (.ref p.2) cv)
noncomputable def aT (G:Ip.Pg)(iL xL:List (Nat×Addr))(t:Ip.Ty):List (Option Bool)×List (Option Bool)×List (Option Bool):=
 ([some (Ip.aA G .non t),some (Ip.aA G (.bl true) t),some (Ip.aA G (.int 0) t),some (Ip.aA G (.str "") t),some (Ip.aA G (.lst []) t),some (Ip.aA G (.tup []) t)],iL.map fun p=>some (Ip.aA G (.ins p.1 []) t),xL.map fun p=>some (Ip.aA G (.exc p.1 []) t))
theorem ES {iL xL:List (Nat×Addr)}{att:List Str}{t:Ip.Ty}{cv:Value}(h:qT K iL xL cv=aT G iL xL t):bJ (cy K iL xL att) G t cv:=
 Dh (Prod.mk.inj h).1 (Prod.mk.inj (Prod.mk.inj h).2).1 (Prod.mk.inj (Prod.mk.inj h).2).2
end
structure Tl where
 fL:List Fd
 iC:List Ic
 xC:List Xc
 nC:List (Str×Nat×Addr)
 mL:List (Addr×Fd)
 wa:Addr
 cL:List (Str×Int×Nat)
 tL:List (Str×Addr×List (Str×Nat))
noncomputable def Tl.iL (B:Tl):List (Nat×Addr):=B.iC.map fun e=>(e.c,e.C)
noncomputable def Tl.xL (B:Tl):List (Nat×Addr):=B.xC.map fun e=>(e.c,e.C)
noncomputable def tyV:List (Ip.Ty×Value):=[(.int,.type "int"),(.bool,.type "bool"),(.str,.type "str"),(.list,.type "list"),(.tuple,.type "tuple"),(.dict,.type "dict"),(.verr,.type "ValueError")]
noncomputable def Tl.ty (B:Tl):List (Ip.Ty×Value):=tyV++(B.nC.map (fun e=>(.cls e.2.1,.ref e.2.2))++(B.iC.map (fun e=>(.cls e.c,.ref e.C))++B.xC.map fun e=>(.cls e.c,.ref e.C)))
noncomputable def zL:List Str:=bP.map (·.1)++Ip.jM.map (·.1)
noncomputable abbrev OB:=List (OV×Bool×DV)×List (OV×List Bool×List OV×List (Option Bool)×List OV×DV)×List (OV×Option nh×List Bool×List OV×List (Option Bool)×List OV×DV)×List OV×List (OV×Bool×Bool×DV) ×
 (OV×Bool×Option CFound×Option nh)×List (List (Option Bool)×List (Option Bool)×List (Option Bool))×List OV×List OV×Bool×List (OV×Option (Value×Bool×Option (List Value)))
noncomputable def iO (K:Frag)(a:Addr):Option (Value×Bool×Option (List Value)):=(K.lookup a).map fun o=>(o.cls,o.dict.isNone,match o.data with
 | .seq its _=>some its.toList
 | _=>none)
noncomputable def Tl.q (B:Tl)(ns:List Str)(K:Frag):OB:=
  (B.fL.map fun d=>(nsIn K mainGlobals d.x,keepIn K (.ref d.f),qD K d),B.iC.map (qI K ns),B.xC.map (qX K ns),B.nC.map fun e=>nsIn K mainGlobals e.1,
   B.mL.map fun e=>(findIn K (.ref e.1) e.2.x,isFn K (.ref e.2.f),keepIn K (.ref e.2.f),qD K e.2),
   (specialIn K (.ref B.wa) "__getattribute__",readsIn K B.wa (.type "type"),findCls K (.ref B.wa) (.type "type") "__init__",n8 K B.wa),B.ty.map fun e=>qT K B.iL B.xL e.2,
   zL.map fun x=>nsIn K mainGlobals x,B.cL.map fun c=>nsIn K mainGlobals c.1,K.all (fun p=>!(p.2.cls == Value.type "list")),B.tL.map fun c=>(nsIn K mainGlobals c.1,iO K c.2.1))
noncomputable def Tl.a (B:Tl)(ns:List Str)(G:Ip.Pg):OB:=
  (B.fL.map fun d=>(some (some (.ref d.f)),true,aD d),B.iC.map (aI ns),B.xC.map (aX ns),B.nC.map fun e=>some (some (.ref e.2.2)),
   B.mL.map fun e=>(some (some (.ref e.2.f)),true,true,aD e.2),
   (some (some (.builtin "type.__getattribute__")),true,some (.val (.builtin "ValueError.__init__")),some (.type "type",.ref B.wa::(([]:List Addr).map Value.ref++bz),true,false,some (.builtin "ValueError.__new__"))),B.ty.map fun e=>aT G B.iL B.xL e.1,
   zL.map fun _=>some none,B.cL.map fun c=>some (some (.int c.2.1 c.2.2)),true,B.tL.map fun c=>(some (some (.ref c.2.1)),some (.type "tuple",true,some (c.2.2.map fun s=>.str s.1 s.2))))
theorem DB:∀p∈bP,bootBuiltins p.1=some p.2:=Cn rfl <| Cn rfl <| Cn rfl <| Cn rfl <| Cn rfl <| Cn rfl <| Cn rfl <| Cn rfl <| Cn rfl <| Cn rfl <| Cn rfl <| Cn rfl Nl
theorem Bh:∀p∈Ip.jM,p.1 ≠ "__name__" /\ (p.1 == ("__debug__" : Str))=false/\∃nm,bootBuiltins p.1=some (.type nm)/\(p.2,Value.type nm)∈tyV:=
 Cn ⟨by decide +kernel,by decide +kernel,_,rfl,by simp[tyV]⟩ <| Cn ⟨by decide +kernel,by decide +kernel,_,rfl,by simp[tyV]⟩ <| Cn ⟨by decide +kernel,by decide +kernel,_,rfl,by simp[tyV]⟩ <| Cn ⟨by decide +kernel,by decide +kernel,_,rfl,by simp[tyV]⟩ <|
 Cn ⟨by decide +kernel,by decide +kernel,_,rfl,by simp[tyV]⟩ <| Cn ⟨by decide +kernel,by decide +kernel,_,rfl,by simp[tyV]⟩ <| Cn ⟨by decide +kernel,by decide +kernel,_,rfl,by simp[tyV]⟩ Nl
section
variable {T:Ip.Tb}{G:Ip.Pg}{mg:Str->Option Value}{K:Frag}{h:Heap}{B:Tl}{ns:List Str}
theorem nF {l:List Str}(s:(l.all fun x=>!(x == ("__debug__" : Str)))=true){x:Str}(hx:x∈l):(x == ("__debug__" : Str))=false:=by
 have:=dF s x hx;simpa using this
theorem Cm {p:Str×Nat}(s:(B.nC.any (fun e=>e.1 == p.1&&e.2.1 == p.2)||B.iC.any (fun e=>e.x == p.1&&e.c == p.2)||B.xC.any (fun e=>e.x == p.1&&e.c == p.2))=true) :
  (∃e∈B.nC,e.1=p.1/\e.2.1=p.2)\/(∃e∈B.iC,e.x=p.1/\e.c=p.2)\/∃e∈B.xC,e.x=p.1/\e.c=p.2:=by
 simp only[Bool.or_eq_true,List.any_eq_true,Bool.and_eq_true,beq_iff_eq] at s;rcases s with (s | s) | s
 ·exact .inl s
 ·exact .inr (.inl s)
 ·exact .inr (.inr s)
structure Ans (B:Tl)(ns:List Str)(G:Ip.Pg)(K:Frag):Prop where
 f:∀d∈B.fL,nsIn K mainGlobals d.x=some (some (.ref d.f))/\keepIn K (.ref d.f)=true/\qD K d=aD d
 i:∀e∈B.iC,nsIn K mainGlobals e.x=some (some (.ref e.C))/\InsC K e.C/\NoA K e.C ns/\Mk K e.C e.d.f/\qD K e.d=aD e.d
 x:∀e∈B.xC,nsIn K mainGlobals e.x=some (some (.ref e.C))/\XC K e.C e.d.f e.tl/\XI K e.C/\NoA K e.C ns/\keepIn K (.ref e.C)=true/\qD K e.d=aD e.d
 n:∀e∈B.nC,nsIn K mainGlobals e.1=some (some (.ref e.2.2))
 m:∀e∈B.mL,Meth K e.1 e.2.x e.2.f/\qD K e.2=aD e.2
 wi:XInit K B.wa
 wo:XO K B.wa []
 t:∀e∈B.ty,∀att,bJ (cy K B.iL B.xL att) G e.1 e.2
 z:∀x∈zL,nsIn K mainGlobals x=some none
 c:∀c∈B.cL,nsIn K mainGlobals c.1=some (some (.int c.2.1 c.2.2))
 l:(K.all fun p=>!(p.2.cls == Value.type "list"))=true
 u:∀c∈B.tL,nsIn K mainGlobals c.1=some (some (.ref c.2.1))/\iO K c.2.1=some (.type "tuple",true,some (c.2.2.map fun s=>.str s.1 s.2))
theorem BI (e:B.q ns K=B.a ns G):Ans B ns G K:=by
 simp only[Tl.q,Tl.a,Prod.mk.injEq] at e;obtain⟨e1,e2,e3,e4,e5,⟨w1,w2,w3,w4⟩,e7,e8,e9,e10,e11⟩:=e;refine⟨fun d hd=>?_,fun d hd=>ins_of (List.map_inj_left.mp e2 d hd),fun d hd=>Cy (List.map_inj_left.mp e3 d hd),fun d hd=>List.map_inj_left.mp e4 d hd,fun d hd=>?_,⟨w1,w2,w3⟩,vV w4,fun d hd att=>ES (List.map_inj_left.mp e7 d hd),fun x hx=>List.map_inj_left.mp e8 x hx,fun c hc=>List.map_inj_left.mp e9 c hc,e10,fun c hc=>Prod.mk.injEq .. ▸ List.map_inj_left.mp e11 c hc⟩
 ·have:=List.map_inj_left.mp e1 d hd;simpa only[Prod.mk.injEq] using this
 ·have:=List.map_inj_left.mp e5 d hd;simp only[Prod.mk.injEq] at this;exact⟨⟨this.1,this.2.1,this.2.2.1⟩,this.2.2.2⟩
theorem zA (l:List (Str×Nat)):(Ip.D.tup (l.map fun s=>.str s.1)).flat=true:=by
 induction l with
 | nil=>rfl
 | cons x l ih=>simpa[Ip.D.flat,Ip.D.flats] using ih
theorem vc {W:Wd}{S:Hp}:∀l:List (Str×Nat),Dens W S (l.map fun s=>V.str s.1) (l.map fun s=>Ip.D.str s.1)
 | []=>.nil
 | _::l=>.cons .str (vc l)
theorem t4:∀l:List (Str×Nat),Vals (l.map fun s=>V.str s.1) (l.map fun s=>Value.str s.1 s.2)
 | []=>.nil
 | _::l=>.cons ⟨_,rfl⟩ (t4 l)
theorem y0 {S:Hp}{a:Addr}{l:List (Str×Nat)}(h:iO K a=some (.type "tuple",true,some (l.map fun s=>.str s.1 s.2)))(hz:l.length<=6):SqT K S a (l.map fun s=>V.str s.1):=by
 unfold iO at h;cases e:K.lookup a with
 | none=>rw[e] at h; cases h
 | some o=>
  rw[e] at h;simp only[Option.map_some,Option.some.injEq,Prod.mk.injEq] at h;obtain⟨h1,h2,h3⟩:=h;have hd:o.dict=none:=by
   cases hh:o.dict with
   | none=>rfl
   | some x=>rw[hh] at h2; cases h2
  cases hdt:o.data with
  | seq its n=>
   rw[hdt] at h3;have e3:its.toList=l.map fun s=>Value.str s.1 s.2:=bV h3;refine .inr ⟨o,its,n,e,h1,hd,hdt,?_,by rw[e3]; exact t4 l⟩;have:its.size=l.length:=by rw[<-Array.length_toList,e3,List.length_map]
   rw[this];exact bK hz (by decide)
  | _=>rw[hdt] at h3; cases h3
theorem yN {cw:Nat}(clL:List (Nat×Ip.Cl))(X:K.In h)(Gl:h.Ns mainGlobals mg)(A:Ans B (nD T.fl T.att) G K)(hcl:∀c,G.cl c=clL.lookup c)
  (s1:T.fns=B.fL.map fun d=>(d.x,d.k))
  (s2:(T.cls.all fun p=>B.nC.any (fun e=>e.1 == p.1&&e.2.1 == p.2)||B.iC.any (fun e=>e.x == p.1&&e.c == p.2)||B.xC.any (fun e=>e.x == p.1&&e.c == p.2))=true)
  (s3:((T.wb::(T.fns.map (·.1)++(T.cls.map (·.1)++T.cst.map (·.1)))).all fun x=>!(x == ("__debug__" : Str)))=true)
  (s4:T.cst=B.cL.map (fun c=>(c.1,Ip.D.int c.2.1))++B.tL.map fun c=>(c.1,Ip.D.tup (c.2.2.map fun s=>.str s.1)))(nd:T.att.Nodup)(s5:(B.tL.all fun c=>decide (c.2.2.length<=6))=true)
  (okF:∀d∈B.fL,nG (cy K B.iL B.xL T.att) T G d)
  (okI:∀e∈B.iC,nG (cy K B.iL B.xL T.att) T G e.d/\B.iL.lookup e.c=some e.C/\∃Cl,G.cl e.c=some Cl/\Cl.init=some e.d.k/\Cl.isx=false)
  (okX:∀e∈B.xC,nG (cy K B.iL B.xL T.att) T G e.d/\B.xL.lookup e.c=some e.C/\∃Cl,G.cl e.c=some Cl/\Cl.init=some e.d.k/\Cl.isx=true)
  (okN:∀e∈B.nC,∃Cl,G.cl e.2.1=some Cl/\Cl.init=none)
  (okM:∀e∈B.mL,nG (cy K B.iL B.xL T.att) T G e.2)
  (sM:(clL.all fun p=>p.2.meths.isEmpty||(match B.iL.lookup p.1 with
   | some C=>p.2.meths.all fun m=>B.mL.any fun e=>e.1 == C&&(T.att[m.1]? == some e.2.x&&e.2.k == m.2)
   | none=>false))=true)
  (sW:(T.wb,cw,B.wa)∈B.nC)(sX:(B.xC.all fun e=>(e.C::e.tl).contains B.wa)=true) :
  GF0 (cy K B.iL B.xL T.att) G T mg/\GT (cy K B.iL B.xL T.att) G T mg:=by
 have d1:∀p∈T.fns,(p.1 == ("__debug__" : Str))=false:=fun p hp=>nF s3 (bD _ (dL _ (List.mem_map_of_mem hp)));have d2:∀p∈T.cls,(p.1 == ("__debug__" : Str))=false:=fun p hp=>nF s3 (bD _ (bS _ (dL _ (List.mem_map_of_mem hp))));have d3:∀p∈T.cst,(p.1 == ("__debug__" : Str))=false:=fun p hp=>nF s3 (bD _ (bS _ (bS _ (List.mem_map_of_mem hp))));have d4:(T.wb == ("__debug__" : Str))=false:=nF s3 bM;refine⟨Db ?cf rfl ?blt ?cst ?fns ?cls ?meth ?isB,z8 d4 (mg_of X Gl (A.n _ sW)) A.wi A.wo fun p hp=>?_⟩
 case cf=>
  refine z9 nd (fun p hp=>?_) fun p hp=>?_
  ·obtain⟨e,he,rfl⟩:=c9 hp;exact⟨(A.i e he).2.1,(A.i e he).2.2.1⟩
  ·obtain⟨e,he,rfl⟩:=c9 hp;obtain⟨_,a1,a2,a3,_⟩:=A.x e he;exact⟨⟨⟨_,_,a1⟩,a2⟩,a3⟩
 case blt=>exact fun p hp=>⟨mg_none_of X Gl (A.z _ (dL _ (List.mem_map_of_mem hp))),DB p hp⟩
 case cst=>
  intro p hp;have h0:=d3 p hp;rw[s4] at hp;rcases dI hp with hp | hp
  ·obtain⟨c,hc,rfl⟩:=c9 hp;exact⟨h0,_,.int c.2.1,mg_of X Gl (A.c c hc),⟨_,rfl⟩,rfl,fun _=>.int⟩
  ·obtain⟨c,hc,rfl⟩:=c9 hp;obtain⟨a1,a2⟩:=A.u c hc;have hz:c.2.2.length<=6:=of_decide_eq_true (dF s5 c hc);exact⟨h0,_,.ref c.2.1,mg_of X Gl a1,rfl,zA _,fun S=>.tup (y0 a2 hz) (vc _)⟩
 case fns=>
  intro p hp;have h0:=d1 p hp;rw[s1] at hp;obtain⟨d,hd,rfl⟩:=c9 hp;obtain⟨F,f1,f2⟩:=okF d hd;obtain⟨a1,a2,a3⟩:=A.f d hd;exact⟨h0,F,d.f,f1,mg_of X Gl a1,a2,f2 a3⟩
 case cls=>
  intro p hp;refine⟨d2 p hp,?_⟩;rcases Cm (dF s2 p hp) with ⟨e,he,q1,q2⟩ | ⟨e,he,q1,q2⟩ | ⟨e,he,q1,q2⟩
  ·obtain⟨Cl,c1,c2⟩:=okN e he;refine⟨e.2.2,by rw[<-q1]; exact mg_of X Gl (A.n e he),by rw[<-q2]; exact A.t (.cls e.2.1,.ref e.2.2) (bS _ (dL _ (List.mem_map_of_mem (f:=fun e:Str×Nat×Addr=>(Ip.Ty.cls e.2.1,Value.ref e.2.2)) he))) _,fun Cl' f F h1 h2 _=>?_⟩;rw[<-q2,c1] at h1;cases h1;rw[c2] at h2;cases h2
  ·obtain⟨⟨F',f1,f2⟩,li,Cl,c1,c2,c3⟩:=okI e he;obtain⟨a1,_,_,a4,a5⟩:=A.i e he;refine⟨e.C,by rw[<-q1]; exact mg_of X Gl a1,by rw[<-q2]; exact A.t (.cls e.c,.ref e.C) (bS _ (bS _ (dL _ (List.mem_map_of_mem (f:=fun e:Ic=>(Ip.Ty.cls e.c,Value.ref e.C)) he)))) _,fun Cl' f F h1 h2 h3=>?_⟩;rw[<-q2,c1] at h1;cases h1;rw[c2] at h2;cases h2;rw[f1] at h3;cases h3;refine⟨e.d.f,f2 a5,?_⟩;rw[c3,<-q2];exact⟨li,a4⟩
  ·obtain⟨⟨F',f1,f2⟩,li,Cl,c1,c2,c3⟩:=okX e he;obtain⟨a1,a2,_,_,a4,a5⟩:=A.x e he;refine⟨e.C,by rw[<-q1]; exact mg_of X Gl a1,by rw[<-q2]; exact A.t (.cls e.c,.ref e.C) (bS _ (bS _ (bS _ (List.mem_map_of_mem (f:=fun e:Xc=>(Ip.Ty.cls e.c,Value.ref e.C)) he)))) _,fun Cl' f F h1 h2 h3=>?_⟩;rw[<-q2,c1] at h1;cases h1;rw[c2] at h2;cases h2;rw[f1] at h3;cases h3;refine⟨e.d.f,f2 a5,?_⟩;rw[c3,<-q2];exact⟨li,a4,_,a2⟩
 case meth=>
  intro c Cl' h1 hm;rw[hcl] at h1;have q:=dF sM (c,Cl') (fA h1);have hm':Cl'.meths.isEmpty=false:=by cases hh:Cl'.meths with | nil=>exact absurd hh hm | cons _ _=>rfl
  rw[hm',Bool.false_or] at q;cases hi:B.iL.lookup c with
  | none=>rw[hi] at q; cases q
  | some C=>
   rw[hi] at q;refine⟨C,hi,fun p hp=>?_⟩;obtain⟨e,he,q1⟩:=List.any_eq_true.mp (dF q p hp);simp only[Bool.and_eq_true,beq_iff_eq] at q1;obtain⟨rfl,q2,q3⟩:=q1;obtain⟨F,f1,f2⟩:=okM e he;obtain⟨a1,a2⟩:=A.m e he;exact⟨F,e.2.x,e.2.f,by rw[<-q3]; exact f1,q2,a1,f2 a2⟩
 case isB=>
  intro p hp;obtain⟨b1,b2,nm,b3,b4⟩:=Bh p hp;exact⟨mg_none_of X Gl (A.z _ (bS _ (List.mem_map_of_mem hp))),b1,b2,nm,b3,A.t (p.2,.type nm) (dL _ b4) _⟩
 ·obtain⟨e,he,rfl⟩:=c9 hp;exact⟨e.tl,(A.x e he).2.1.toXO,by have:=dF sX e he; exact List.contains_iff_mem.mp this⟩
end
end Hd
end
section
namespace Ip
open PySem (Str)
noncomputable def qZ:List Str:=["__init__", "row", "garment", "over", "place", "first", "second", "moment", "name", "place_count", "covered_places", "spots", "many", "covers", "meet", "wardrobe", "prices", "start", "dressers", "beats", "scenes"]
noncomputable def T_k03:Tb:=⟨[("is_whole",0),("is_below",1),("copied",2),("is_rising",15),("are_places",16),("check_garment",17),("bare_wearing",23),("worn_in",24),("put_on",25),("right_over",26),("take_off",27),("outermost",28),("seen_in",29),("_law_pick",70),("_law_mix",71),("_law_cover",72),("_law_whole",73),("_law_odd",85),("_law_rows",86),("_law_next",87),("_law_kind",83),("_law_done",88),("_law_due",82),("_law_step",89),("_law_list",74),("_law_looked",90),("law",69)],[("WardrobeError",0),("TooMuch",1),("NoGarment",2),("Worn",3),("NotWorn",4),("Covered",5),("NoLook",6),("NoDeed",7),("Crossed",8),("TooMany",9),("NoRow",10),("OutOfPlace",11),("NoName",12),("Twice",13),("NoBeat",14),("NoHands",15),("NotSeen",16),("Wardrobe",17)], "WardrobeError",qZ,[1,2,3,4,5,6,7,8,9,10,15,16,17,18,19,20],[("DEEPEST",(.int (100))),("MOST_PLACES",(.int (6))),("MOST_GARMENTS",(.int (6)))]⟩
noncomputable def jF:Fn:=⟨1,[],1,[],[
  .ret (.and (.op (.isi [.int]) [(.var 0)]) (.op .not [(.op (.isi [.bool]) [(.var 0)])]))]⟩
noncomputable def jo:Fn:=⟨2,[],2,[],[
  .ret (.and (.call 0 [(.var 0)]) (.chain .le .lt (.cst (.int (0))) (.var 0) (.var 1)))]⟩
noncomputable def mP:Fn:=⟨2,[],2,[(.int (0))],[
  .iff (.op .eq [(.var 1),(.cst (.int (100)))]) [.ret (.var 0)] [],
  .iff (.op (.isi [.list]) [(.var 0)]) [.ret (.comp [none,none,(some 1)] (.one 1) .seq [(.var 0)] [] (.call 2 [(.var 1),(.op .add [(.var 2),(.cst (.int (1)))])]))] [],
  .iff (.op (.isi [.tuple]) [(.var 0)]) [.ret (.op .tuple [(.comp [none,none,(some 1)] (.one 1) .seq [(.var 0)] [] (.call 2 [(.var 1),(.op .add [(.var 2),(.cst (.int (1)))])]))])] [],
  .iff (.op (.isi [.dict]) [(.var 0)]) [.ret .bad] [],
  .ret (.var 0)]⟩
noncomputable def lM:Fn:=⟨1,[],1,[],[
  .ret (.op .all [(.comp [none,none,none] (.many [1,2]) .zip [(.var 0),(.op .slL [(.var 0),(.cst (.int (1)))])] [] (.op .lt [(.var 1),(.var 2)]))])]⟩
noncomputable def kF:Fn:=⟨2,[],2,[],[
  .iff (.or (.op .not [(.op (.isi [.list]) [(.var 0)])]) (.op .eq [(.op .len [(.var 0)]),(.cst (.int (0)))])) [.ret (.cst (.bl false))] [],
  .ret (.and (.op .all [(.comp [none,none,(some 1)] (.one 1) .seq [(.var 0)] [] (.call 1 [(.var 1),(.var 2)]))]) (.call 15 [(.var 0)]))]⟩
noncomputable def gA:Fn:=⟨2,[],2,[],[
  .iff (.op .not [(.call 1 [(.var 1),(.meth 12 (.var 0) [])])]) [.rais 2 [(.var 1)]] []]⟩
noncomputable def lU:Fn:=⟨1,[],1,[],[
  .ret (.op .tuple [(.comp [none,none] (.one 1) .rng1 [(.meth 11 (.var 0) [])] [] (.op .tup []))])]⟩
noncomputable def gZ:Fn:=⟨1,[],3,[],[
  .set 1 (.op .lst []),
  .fo (.one 2) .seq [(.var 0)] [.mut 1 [] .extend [(.var 2)]],
  .ret (.op .srtSet [(.var 1)])]⟩
noncomputable def jg:Fn:=⟨3,[],5,[],[
  .ex (.call 17 [(.var 0),(.var 2)]),
  .iff (.op .isin [(.var 2),(.call 24 [(.var 1)])]) [.rais 3 [(.var 2)]] [],
  .set 3 (.op .list [(.var 1)]),
  .fo (.one 4) .seq [(.meth 13 (.var 0) [(.var 2)])] [.put 3 [] (.var 4) (.op .add [(.op .ix [(.var 3),(.var 4)]),(.op .tup [(.var 2)])])],
  .ret (.op .tuple [(.var 3)])]⟩
noncomputable def fR:Fn:=⟨3,[],7,[],[
  .ex (.call 17 [(.var 0),(.var 2)]),
  .iff (.op .nin [(.var 2),(.call 24 [(.var 1)])]) [.rais 4 [(.var 2)]] [],
  .set 3 (.op .lst []),
  .fo (.one 4) .seq [(.meth 13 (.var 0) [(.var 2)])] [.set 5 (.op .ix [(.var 1),(.var 4)]),.set 6 (.op .add [(.op .index [(.var 5),(.var 2)]),(.cst (.int (1)))]),.mut 3 [] .extend [(.sl2 (.var 5) (.var 6) (.op .add [(.var 6),(.cst (.int (1)))]))]],
  .ret (.op .srtSet [(.var 3)])]⟩
noncomputable def ky:Fn:=⟨3,[],6,[],[
  .set 3 (.call 26 [(.var 0),(.var 1),(.var 2)]),
  .iff (.op .gt [(.op .len [(.var 3)]),(.cst (.int (0)))]) [.rais 5 [(.var 2),(.op .ix [(.var 3),(.cst (.int (0)))])]] [],
  .set 4 (.op .list [(.var 1)]),
  .fo (.one 5) .seq [(.meth 13 (.var 0) [(.var 2)])] [.put 4 [] (.var 5) (.op .slH [(.op .ix [(.var 4),(.var 5)]),(.op .neg [(.cst (.int (1)))])])],
  .ret (.op .tuple [(.var 4)])]⟩
noncomputable def nv:Fn:=⟨2,[],2,[],[
  .ret (.comp [none,none,(some 0),(some 1)] (.one 1) .seq [(.call 24 [(.var 1)])] [(.op .eq [(.op .len [(.call 26 [(.var 2),(.var 3),(.var 1)])]),(.cst (.int (0)))])] (.var 1))]⟩
noncomputable def mH:Fn:=⟨1,[],1,[],[
  .ret (.comp [none,none] (.one 1) .seq [(.var 0)] [] (.ite (.op .gt [(.op .len [(.var 1)]),(.cst (.int (0)))]) (.op .ix [(.var 1),(.op .neg [(.cst (.int (1)))])]) (.cst .non)))]⟩
noncomputable def kW:Fn:=⟨2,[],2,[],[
  .ret (.op .ix [(.op .add [(.sl2 (.var 0) (.var 1) (.op .add [(.var 1),(.cst (.int (1)))])),(.op .lst [(.cst (.int (0)))])]),(.cst (.int (0)))])]⟩
noncomputable def df:Fn:=⟨3,[],5,[],[
  .iff (.op .ge [(.var 0),(.op .pow [(.cst (.int (10))),(.cst (.int (18)))])]) [.set 3 (.op .shr [(.var 0),(.op .add [(.cst (.int (1))),(.op .mul [(.cst (.int (24))),(.op .mod [(.var 1),(.cst (.int (469)))])])])]),.iff (.op .gt [(.var 3),(.cst (.int (0)))]) [.ret (.op .mod [(.var 3),(.var 2)])] []] [],
  .set 4 (.op .mod [(.op .mul [(.op .add [(.op .mod [(.var 0),(.cst (.int (1000003)))]),(.cst (.int (1)))]),(.var 1)]),(.cst (.int (999983)))]),
  .ret (.op .mod [(.op .mod [(.op .mul [(.var 4),(.op .add [(.var 4),(.var 1)])]),(.cst (.int (1000033)))]),(.var 2)])]⟩
noncomputable def kU:Fn:=⟨2,[],4,[],[
  .set 2 (.op .add [(.cst (.int (1))),(.call 71 [(.var 0),(.cst (.int (39373))),(.op .sub [(.op .pow [(.cst (.int (2))),(.cst (.int (6)))]),(.cst (.int (1)))])])]),
  .set 3 (.comp [none,none,(some 2)] (.one 1) .rng1 [(.var 1)] [(.op .eq [(.op .mod [(.op .fdiv [(.var 2),(.op .ix [(.op .lst [(.cst (.int (1))),(.cst (.int (2))),(.cst (.int (4))),(.cst (.int (8))),(.cst (.int (16))),(.cst (.int (32)))]),(.var 1)])]),(.cst (.int (2)))]),(.cst (.int (1)))])] (.var 1)),
  .iff (.op .eq [(.var 3),(.op .lst [])]) [.set 3 (.op .lst [(.call 71 [(.var 0),(.cst (.int (48271))),(.var 1)])])] [],
  .ret (.var 3)]⟩
noncomputable def iK:Fn:=⟨1,[],1,[],[
  .ret (.and (.op (.isi [.int]) [(.var 0)]) (.op .not [(.op (.isi [.bool]) [(.var 0)])]))]⟩
noncomputable def gF:Fn:=⟨2,[],2,[],[
  .ret (.op .ix [(.op .lst [(.var 0),(.op .neg [(.cst (.int (1)))]),(.cst (.bl true)),(.cst .non),(.op .add [(.var 0),(.op .mod [(.var 1),(.op .pow [(.cst (.int (10))),(.cst (.int (20)))])])]),(.cst (.str "0")),(.cst (.bl false))]),(.call 71 [(.var 1),(.cst (.int (30269))),(.cst (.int (7)))])])]⟩
noncomputable def lr:Fn:=⟨2,[],3,[],[
  .iff (.or (.op .not [(.op (.isi [.tuple]) [(.var 0)])]) (.op .ne [(.op .len [(.var 0)]),(.op .len [(.var 1)])])) [.ret (.cst (.bl false))] [],
  .fo (.one 2) .seq [(.var 0)] [.iff (.or (.op .not [(.op (.isi [.tuple]) [(.var 2)])]) (.op .not [(.op .all [(.comp [none,none] (.one 1) .seq [(.var 2)] [] (.call 73 [(.var 1)]))])])) [.ret (.cst (.bl false))] []],
  .ret (.op .eq [(.comp [none,none] (.one 1) .seq [(.var 0)] [] (.op .list [(.var 1)])),(.var 1)])]⟩
noncomputable def gQ:Fn:=⟨3,[],6,[],[
  .set 3 (.op .lst []),
  .fo (.one 4) .seq [(.var 1)] [.set 5 (.op .index [(.op .ix [(.var 0),(.var 4)]),(.var 2)]),.mut 3 [] .extend [(.sl2 (.op .ix [(.var 0),(.var 4)]) (.op .add [(.var 5),(.cst (.int (1)))]) (.op .add [(.var 5),(.cst (.int (2)))]))]],
  .ret (.op .srtSet [(.var 3)])]⟩
noncomputable def kQ:Fn:=⟨1,[],3,[],[
  .set 1 (.op .lst [(.op (.isi [.cls 2]) [(.var 0)]),(.op (.isi [.cls 3]) [(.var 0)]),(.op (.isi [.cls 4]) [(.var 0)])]),
  .mut 1 [] .append [(.op (.isi [.cls 5]) [(.var 0)])],
  .iff (.op (.isi [.cls 8,.cls 14,.cls 7,.cls 15,.cls 6,.cls 12]) [(.var 0)]) [.ret (.op .tup [(.cst (.str "other"))])] [],
  .iff (.op (.isi [.cls 10,.cls 16,.cls 11,.cls 9,.cls 1,.cls 13]) [(.var 0)]) [.ret (.op .tup [(.cst (.str "other"))])] [],
  .iff (.or (.op .ne [(.op .count [(.var 1),(.cst (.bl true))]),(.cst (.int (1)))]) (.op .not [(.op (.isi [.verr]) [(.var 0)])])) [.ret (.op .tup [(.cst (.str "other"))])] [],
  .set 2 (.op .index [(.var 1),(.cst (.bl true))]),
  .iff (.op .eq [(.var 2),(.cst (.int (3)))]) [.ret (.op .tup [(.cst (.int (3))),(.op (.fld 2) [(.var 0)]),(.op (.fld 3) [(.var 0)])])] [],
  .ret (.op .tup [(.var 2),(.op (.fld 2) [(.var 0)])])]⟩
noncomputable def jY:Fn:=⟨4,[],7,[],[
  .set 4 (.cst .non),
  .set 5 (.cst .non),
  .tryE [.iff (.op .eq [(.var 2),(.cst (.str "on"))]) [.set 5 (.call 25 [(.var 0),(.var 1),(.var 3)])] [.iff (.op .eq [(.var 2),(.cst (.str "off"))]) [.set 5 (.call 27 [(.var 0),(.var 1),(.var 3)])] [.set 5 (.call 26 [(.var 0),(.var 1),(.var 3)])]]] 0 6 4,
  .iff (.op .notN [(.var 4)]) [.ret (.op .tup [(.call 83 [(.var 4)]),(.cst .non)])] [],
  .ret (.op .tup [(.op .tup []),(.var 5)])]⟩
noncomputable def ko:Fn:=⟨4,[],6,[],[
  .iff (.or (.op .not [(.call 73 [(.var 3)])]) (.op .not [(.chain .le .lt (.cst (.int (0))) (.var 3) (.op .len [(.var 1)]))])) [.ret (.op .tup [(.cst (.int (0))),(.var 3)])] [],
  .set 4 (.op .isin [(.var 3),(.op .ix [(.var 0),(.op .ix [(.op .ix [(.var 1),(.var 3)]),(.cst (.int (0)))])])]),
  .iff (.op .eq [(.var 2),(.cst (.str "on"))]) [.ret (.op .ix [(.op .lst [(.op .tup []),(.op .tup [(.cst (.int (1))),(.var 3)])]),(.op .toInt [(.var 4)])])] [],
  .iff (.op .not [(.var 4)]) [.ret (.op .tup [(.cst (.int (2))),(.var 3)])] [],
  .set 5 (.call 87 [(.var 0),(.op .ix [(.var 1),(.var 3)]),(.var 3)]),
  .iff (.and (.op .eq [(.var 2),(.cst (.str "off"))]) (.op .ne [(.var 5),(.op .lst [])])) [.ret (.op .tup [(.cst (.int (3))),(.var 3),(.op .ix [(.var 5),(.cst (.int (0)))])])] [],
  .ret (.op .tup [])]⟩
noncomputable def mR:Fn:=⟨4,[],6,[],[
  .set 4 (.comp [none,none] (.one 1) .seq [(.var 0)] [] (.op .list [(.var 1)])),
  .fo (.one 5) .seq [(.op .ix [(.var 1),(.var 3)])] [.iff (.op .eq [(.var 2),(.cst (.str "on"))]) [.nest 4 5 (some 3)] [.nest 4 5 none]],
  .ret (.var 4)]⟩
noncomputable def iX:Fn:=⟨2,[],2,[],[
  .ret (.and (.op (.isi [.list]) [(.var 0)]) (.and (.op .not [(.op .any [(.comp [none,none] (.one 1) .seq [(.var 0)] [] (.op (.isi [.bool]) [(.var 1)]))])]) (.op .eq [(.var 0),(.var 1)])))]⟩
noncomputable def mQ:Fn:=⟨5,[],10,[],[
  .set 5 (.call 71 [(.var 4),(.cst (.int (12211))),(.cst (.int (4)))]),
  .set 6 (.comp [none,none,(some 3),(some 2)] (.one 1) .rng1 [(.op .len [(.var 3)])] [(.op .isin [(.var 1),(.op .ix [(.var 3),(.op .ix [(.op .ix [(.var 2),(.var 1)]),(.cst (.int (0)))])])])] (.var 1)),
  .iff (.op .eq [(.var 5),(.cst (.int (0)))]) [.ret (.call 74 [(.call 24 [(.var 1)]),(.var 6)])] [],
  .iff (.op .eq [(.var 5),(.cst (.int (1)))]) [.ret (.call 74 [(.call 28 [(.var 0),(.var 1)]),(.comp [none,none,(some 3),(some 2)] (.one 1) .seq [(.var 6)] [(.op .eq [(.call 87 [(.var 3),(.op .ix [(.var 2),(.var 1)]),(.var 1)]),(.op .lst [])])] (.var 1))])] [],
  .iff (.op .eq [(.var 5),(.cst (.int (2)))]) [.ret (.call 74 [(.call 29 [(.var 1)]),(.comp [none,none] (.one 1) .seq [(.var 2)] [] (.op .ix [(.op .add [(.op .lst [(.cst .non)]),(.var 1)]),(.op .neg [(.cst (.int (1)))])]))])] [],
  .set 7 (.call 71 [(.var 4),(.cst (.int (30323))),(.op .len [(.var 3)])]),
  .iff (.op .eq [(.call 71 [(.var 4),(.cst (.int (30307))),(.cst (.int (5)))]),(.cst (.int (0)))]) [.set 7 (.call 85 [(.op .len [(.var 3)]),(.var 4)])] [],
  .setT [8,9] (.call 88 [(.var 0),(.var 1),(.cst (.str "over")),(.var 7)]),
  .iff (.op .ne [(.var 8),(.call 82 [(.var 2),(.var 3),(.cst (.str "over")),(.var 7)])]) [.ret (.cst (.bl false))] [],
  .ret (.or (.op .ne [(.var 8),(.op .tup [])]) (.call 74 [(.var 9),(.call 87 [(.var 2),(.op .ix [(.var 3),(.var 7)]),(.var 7)])]))]⟩
noncomputable def lv:Fn:=⟨1,[],13,[],[
  .set 1 (.op .add [(.cst (.int (1))),(.call 71 [(.call 70 [(.var 0),(.cst (.int (0)))]),(.cst (.int (3791))),(.cst (.int (6)))])]),
  .set 2 (.comp [none,none,(some 1)] (.one 1) .seq [(.op .slH [(.op .add [(.var 0),(.op .lst [(.cst (.int (0)))])]),(.cst (.int (6)))])] [] (.call 72 [(.var 1),(.var 2)])),
  .set 3 (.make 17 [(.var 1),(.comp [none,none] (.one 1) .seq [(.var 2)] [] (.op .list [(.var 1)]))]),
  .set 4 (.call 23 [(.var 3)]),
  .set 5 (.comp [none,none] (.one 1) .rng1 [(.var 1)] [] (.op .lst [])),
  .iff (.op .not [(.call 86 [(.var 4),(.var 5)])]) [.ret (.cst (.bl false))] [],
  .set 6 (.op .lst []),
  .fo (.one 7) .seq [(.sl2 (.var 0) (.cst (.int (6))) (.cst (.int (56))))] [.set 8 (.op .ix [(.op .lst [(.cst (.str "on")),(.cst (.str "on")),(.cst (.str "off"))]),(.call 71 [(.var 7),(.cst (.int (16807))),(.cst (.int (3)))])]),.set 9 (.call 71 [(.var 7),(.cst (.int (69621))),(.op .len [(.var 2)])]),.iff (.op .eq [(.call 71 [(.var 7),(.cst (.int (40692))),(.cst (.int (8)))]),(.cst (.int (0)))]) [.set 9 (.call 85 [(.op .len [(.var 2)]),(.var 7)])] [],.setT [10,11] (.call 88 [(.var 3),(.var 4),(.var 8),(.var 9)]),.set 12 (.call 82 [(.var 5),(.var 2),(.var 8),(.var 9)]),.iff (.or (.op .ne [(.var 10),(.var 12)]) (.and (.op .eq [(.var 12),(.op .tup [(.cst (.int (0))),(.var 9)])]) (.op .ne [(.op (.isi [.bool]) [(.op .ix [(.var 10),(.cst (.int (1)))])]),(.op (.isi [.bool]) [(.var 9)])]))) [.ret (.cst (.bl false))] [],.iff (.op .eq [(.var 12),(.op .tup [])]) [.set 5 (.call 89 [(.var 5),(.var 2),(.var 8),(.var 9)]),.mut 6 [] .append [(.op .tup [(.var 4),(.comp [none,none] (.one 1) .seq [(.var 4)] [] (.op .list [(.var 1)]))])],.set 4 (.var 11)] [],.iff (.or (.op .not [(.call 86 [(.var 4),(.var 5)])]) (.op .not [(.call 90 [(.var 3),(.var 4),(.var 5),(.var 2),(.var 7)])])) [.ret (.cst (.bl false))] []],
  .ret (.op .all [(.comp [none,none,none] (.many [1,2]) .seq [(.var 6)] [] (.op .eq [(.comp [none,none] (.one 1) .seq [(.var 1)] [] (.op .list [(.var 1)])),(.var 2)]))])]⟩
noncomputable def jI:Fn:=⟨2,[0],3,[],[
  .set 2 (.call 2 [(.var 1)]),
  .xinit [(.var 0),(.var 2)],
  .sfld 0 2 (.var 2)]⟩
noncomputable def kz:Fn:=⟨2,[0],2,[],[
  .xinit [(.var 0),(.var 1)],
  .sfld 0 2 (.var 1)]⟩
noncomputable def jZ:Fn:=⟨2,[0],2,[],[
  .xinit [(.var 0),(.var 1)],
  .sfld 0 2 (.var 1)]⟩
noncomputable def jW:Fn:=⟨3,[0],3,[],[
  .xinit [(.var 0),(.var 1),(.var 2)],
  .sfld 0 2 (.var 1),
  .sfld 0 3 (.var 2)]⟩
noncomputable def jD:Fn:=⟨3,[0],5,[],[
  .iff (.or (.op .not [(.call 0 [(.var 1)])]) (.op .not [(.chain .le .le (.cst (.int (1))) (.var 1) (.cst (.int (6))))])) [.rais 1 []] [],
  .iff (.op .gt [(.op .len [(.var 2)]),(.cst (.int (6)))]) [.rais 1 []] [],
  .fo (.many [3,4]) .enum [(.var 2)] [.iff (.op .not [(.call 16 [(.var 4),(.var 1)])]) [.rais 2 [(.var 3)]] []],
  .sfld 0 9 (.var 1),
  .sfld 0 10 (.comp [none,none] (.one 1) .seq [(.var 2)] [] (.op .tuple [(.var 1)]))]⟩
noncomputable def jP:Fn:=⟨1,[],1,[],[
  .ret (.op (.fld 9) [(.var 0)])]⟩
noncomputable def ja:Fn:=⟨1,[],1,[],[
  .ret (.op .len [(.op (.fld 10) [(.var 0)])])]⟩
noncomputable def iz:Fn:=⟨2,[],2,[],[
  .ex (.call 17 [(.var 0),(.var 1)]),
  .ret (.op .list [(.op .ix [(.op (.fld 10) [(.var 0)]),(.var 1)])])]⟩
noncomputable def wg:Fn:=⟨3,[],3,[],[
  .ex .bad]⟩
noncomputable def fnL_k03:List (Nat×Fn):=[(0,jF),(1,jo),(2,mP),(15,lM),(16,kF),(17,gA),(23,lU),(24,gZ),(25,jg),(26,fR),(27,ky),(28,nv),(29,mH),(70,kW),(71,df),(72,kU),(73,iK),(85,gF),(86,lr),(87,gQ),(83,kQ),(88,jY),(82,ko),(89,mR),(74,iX),(90,mQ),(69,lv),(4,jI),(5,kz),(6,jZ),(7,jW),(18,jD),(19,jP),(20,ja),(21,iz),(22,wg)]
noncomputable def clL_k03:List (Nat×Cl):=[(0,⟨none,[],[],true⟩),(1,⟨none,[],[0],true⟩),(2,⟨(some 4),[],[0],true⟩),(3,⟨(some 5),[],[0],true⟩),(4,⟨(some 6),[],[0],true⟩),(5,⟨(some 7),[],[0],true⟩),(6,⟨none,[],[0],true⟩),(7,⟨none,[],[0],true⟩),(8,⟨none,[],[0],true⟩),(9,⟨none,[],[0],true⟩),(10,⟨none,[],[0],true⟩),(11,⟨none,[],[0],true⟩),(12,⟨none,[],[0],true⟩),(13,⟨none,[],[0],true⟩),(14,⟨none,[],[0],true⟩),(15,⟨none,[],[0],true⟩),(16,⟨none,[],[0],true⟩),(17,⟨(some 18),[(11,19),(12,20),(13,21),(14,22)],[],false⟩)]
noncomputable def G_k03:Pg where
 fn:=fun i=>fnL_k03.lookup i
 cl:=fun i=>clL_k03.lookup i
theorem vt:∀{xs:List D},(∀x∈xs,f x=.ok (some (g x)))->au f xs=.ok (xs.map g)
 | [],_=>rfl
 | x::xs,h=>by
  rw[au,h x List.mem_cons_self,R.bind,vt fun y hy=>h y (List.mem_cons_of_mem _ hy)];rfl
theorem gB {α:Type}{e:α->D}{f:D->R (Option KD)}{g:α->KD}{xs:List α}(h:∀x∈xs,f (e x)=.ok (some (g x))):au f (xs.map e)=.ok (xs.map g):=by
 induction xs with
 | nil=>rfl
 | cons x xs ih=>rw[List.map_cons,au,h x List.mem_cons_self,R.bind,ih fun y hy=>h y (List.mem_cons_of_mem _ hy)]; rfl
theorem oE {α:Type}{e:α->D}{f:D->R (Option KD)}{p:α->Bool}{g:α->KD}{xs:List α}(h:∀x∈xs,f (e x)=.ok (if p x then some (g x) else none)):au f (xs.map e)=.ok ((xs.filter p).map g):=by
 induction xs with
 | nil=>rfl
 | cons x xs ih=>
  rw[List.map_cons,au,h x List.mem_cons_self,R.bind,ih fun y hy=>h y (List.mem_cons_of_mem _ hy)];by_cases q:p x=true
  ·simp[q]
  ·simp[q]
@[simp] theorem CL (p:α->Bool):∀xs:List α,allB (xs.map fun x=>.bl (p x))=some (xs.all p)
 | []=>rfl
 | x::xs=>by rw[List.map_cons,allB,CL p xs]; rfl
@[simp] theorem BK (p:α->Bool):∀xs:List α,anyB (xs.map fun x=>.bl (p x))=some (xs.any p)
 | []=>rfl
 | x::xs=>by rw[List.map_cons,anyB,BK p xs]; rfl
@[simp] theorem CK:∀xs:List Int,gR (xs.map .int)=some xs
 | []=>rfl
 | x::xs=>by rw[List.map_cons,gR,CK xs]; rfl
@[simp] theorem Ey:∀xs:List Int,D.flats (xs.map .int)=true
 | []=>by simp
 | x::xs=>by simp[Ey xs]
@[simp] theorem FJ:∀xs ys:List Int,D.eqs (xs.map .int) (ys.map .int)=decide (xs=ys)
 | [],[]=>by simp[D.eqs]
 | [],_::_=>by simp[D.eqs]
 | _::_,[]=>by simp[D.eqs]
 | x::xs,y::ys=>by simp[D.eqs,D.eq,FJ xs ys]
theorem k6 (h:∀x∈xs,x.2.flat=true):aB xs=98:=by
 have:xs.find? (fun x=>!x.2.flat)=none:=by
  rw[List.find?_eq_none];intro x hx;simp[h x hx]
 rw[aB,this]
@[simp] theorem flat_int (i:Int):(D.int i).flat=true:=rfl
@[simp] theorem joinK_int (k:Nat)(i:Int)(xs:List KD):aB ((k,.int i)::xs)=aB xs:=oR rfl
@[simp] theorem joinK_bl (k:Nat)(i:Bool)(xs:List KD):aB ((k,.bl i)::xs)=aB xs:=oR rfl
@[simp] theorem joinK_non (k:Nat)(xs:List KD):aB ((k,.non)::xs)=aB xs:=oR rfl
@[simp] theorem joinK_str (k:Nat)(i:Str)(xs:List KD):aB ((k,.str i)::xs)=aB xs:=oR rfl
@[simp] theorem fb_int (k:Nat)(i:Int):D.fb k (.int i)=true:=by cases k <;> rfl
@[simp] theorem fb_bl (k:Nat)(i:Bool):D.fb k (.bl i)=true:=by cases k <;> rfl
@[simp] theorem fb_non (k:Nat):D.fb k .non=true:=by cases k <;> rfl
@[simp] theorem fb_str (k:Nat)(i:Str):D.fb k (.str i)=true:=by cases k <;> rfl
theorem AM (xs:List α)(k:Nat):cutD xs none (some (k:Int))=xs.take k:=by
 simp only[cutD,cR];simp
theorem E7 (xs:List α)(k:Nat):cutD xs (some (k:Int)) none=xs.drop k:=by
 simp only[cutD,cR];by_cases h:k<=xs.length
 ·skip
  simp only[if_pos (Int.natCast_nonneg k),Int.toNat_natCast,Nat.min_eq_left h];exact List.take_of_length_le (by simp)
 ·have h':xs.length<=k:=by omega
  simp[Nat.min_eq_right h',List.drop_of_length_le h']
@[simp] theorem wk_seq (k:Nat)(x:D):dD .seq [(k,x)]=x.seq:=rfl
@[simp] theorem wk_enum (k:Nat)(xs:List D):dD .enum [(k,.lst xs)]=some (xs.mapIdx fun n d=>.tup [.int n,d]):=rfl
@[simp] theorem wk_zip (k k':Nat)(xs ys:List D):dD .zip [(k,.lst xs),(k',.lst ys)]=some ((xs.zip ys).map fun p=>.tup [p.1,p.2]):=rfl
theorem wk_rng1 (h:p<=SL):dD .rng1 [(k,.int p)]=some ((List.range p).map fun (n:Nat)=>.int n):=by
 have h2:p<=1000000:=h;have:dE (p:Int)=true:=dU.mpr (by omega);show (if dE (p:Int)=true then _ else none)=_;rw[if_pos this];rfl
theorem uC (h:0<n):bO n (-1)=some (n - 1):=by
 have h1:¬(0:Int) <= -1:=by decide
 have h2 : -(n:Int) <= -1:=by omega
 simp only[bO,h1,if_false,h2,if_true];congr 1
 omega
theorem vS {body:D->Fr->O}{I:Fr->Prop}:∀{xs:List D} {A:Fr},I A->(∀x∈xs,∀A,I A->∃A',body x A=.nx A'/\I A')->∃A',be body xs A=.nx A'/\I A'
 | [],A,h,_=>⟨A,rfl,h⟩
 | x::xs,A,h,k=>by
  obtain⟨A1,e1,h1⟩:=k x bM A h;obtain⟨A2,e2,h2⟩:=vS (xs:=xs) h1 fun y hy=>k y (bD _ hy);exact⟨A2,by rw[be,e1]; exact e2,h2⟩
noncomputable def RelK:Option KD->Option KD->Prop
 | none,none=>True
 | some x,some y=>x.2=y.2/\y.1<=x.1
 | _,_=>False
inductive RelF:Fr->Fr->Prop
 | nil:RelF [] []
 | cons {x y:Option KD} {A a:Fr} (h:RelK x y) (t:RelF A a):RelF (x::A) (y::a)
theorem RelK.refl:∀x:Option KD,RelK x x
 | none=>trivial
 | some _=>⟨rfl,bb _⟩
theorem RelF.refl:∀A:Fr,RelF A A
 | []=>.nil
 | x::A=>.cons (.refl x) (.refl A)
theorem RelF.sl (h:RelF A a):A.sl=a.sl:=by
 induction h with
 | nil=>rfl
 | @cons x y A a h t ih=>
  have:x.map (·.2)=y.map (·.2):=by
   cases x <;> cases y <;> first | rfl | exact h.elim | (simp only[Option.map]; exact congrArg some h.1)
  simp only[Fr.sl,List.map_cons] at ih ⊢;rw[this,ih]
theorem RelF.len (h:RelF A a):A.length=a.length:=by
 induction h with
 | nil=>rfl
 | cons _ _ ih=>simp[ih]
theorem RelF.set (h:RelF A a)(k:RelK x y):∀i,RelF (A.set i x) (a.set i y):=by
 induction h with
 | nil=>intro i; exact .nil
 | cons q t ih=>
  intro i;cases i with
  | zero=>exact .cons k t
  | succ i=>exact .cons q (ih i)
theorem RelF.get (h:RelF A a):∀i:Nat,(A[i]? = none/\a[i]? = none)\/∃x y,A[i]? = some x/\a[i]? = some y/\RelK x y:=by
 induction h with
 | nil=>intro i; exact .inl ⟨rfl,rfl⟩
 | @cons x y _ _ q t ih=>
  intro i;cases i with
  | zero=>exact .inr ⟨x,y,rfl,rfl,q⟩
  | succ i=>simpa using ih i
theorem RelF.frz1 (h:RelF A a)(i:Nat):RelF (frz1 A i) (frz1 a i):=by
 simp only[Ip.frz1];rcases h.get i with ⟨e1,e2⟩ | ⟨x,y,e1,e2,q⟩
 ·rw[e1,e2]; exact h
 ·rw[e1,e2];cases x <;> cases y
  ·exact h
  ·exact q.elim
  ·exact q.elim
  ·next x y=>exact h.set (x:=some (0,x.2)) (y:=some (0,y.2)) ⟨q.1,bb _⟩ i
theorem RelF.frz:∀{A a:Fr},RelF A a->RelF (frz ns A) (frz ns a):=by
 induction ns with
 | nil=>exact fun h=>h
 | cons n ns ih=>exact fun h=>ih (h.frz1 n)
theorem RelF.trans (h:RelF A a)(k:RelF a b):RelF A b:=by
 induction h generalizing b with
 | nil=>exact k
 | @cons x y _ _ q t ih=>
  cases k with
  | @cons _ z _ _ q' t'=>
   refine .cons ?_ (ih t');cases x <;> cases y <;> cases z <;> first | trivial | exact q.elim | exact q'.elim | exact⟨q.1.trans q'.1,bK q'.2 q.2⟩
theorem RelF.low1 (a:Fr)(i:Nat):RelF a (Ip.frz1 a i):=by
 simp only[Ip.frz1];cases e:a[i]? with
 | none=>exact .refl a
 | some x=>
  cases x with
  | none=>exact .refl a
  | some x=>
   have:a=a.set i (some x):=by
    refine (List.ext_getElem? fun j=>?_);rw[List.getElem?_set];by_cases hj:i=j
    ·subst hj;have:=(dN e).1;rw[e]; simp[this]
    ·simp[hj]
   conv=>lhs; rw[this]
   exact (RelF.refl a).set (x:=some x) (y:=some (0,x.2)) ⟨rfl,Nat.zero_le _⟩ i
theorem RelF.low (ns:List Nat):∀a:Fr,RelF a (Ip.frz ns a):=by
 induction ns with
 | nil=>exact .refl
 | cons n ns ih=>exact fun a=>(RelF.low1 a n).trans (ih _)
theorem RelF.lowA (a:Fr):RelF a (bX a):=by
 induction a with
 | nil=>exact .nil
 | cons x a ih=>
  refine .cons ?_ ih;cases x with
  | none=>trivial
  | some x=>exact⟨rfl,Nat.zero_le _⟩
theorem RelF.zero:∀{A a:Fr},A.sl=a.sl->RelF A (bX a)
 | [],[],_=>.nil
 | [],y::a,h=>by simp[Fr.sl] at h
 | x::A,[],h=>by simp[Fr.sl] at h
 | x::A,y::a,h=>by
  simp only[Fr.sl,List.map_cons,List.cons.injEq] at h;refine .cons ?_ (RelF.zero h.2);cases x <;> cases y <;> simp at h
  ·trivial
  ·exact⟨h.1,Nat.zero_le _⟩
theorem RelF.settle (h:RelF A a)(ns:List Nat)(x:KD):RelF (settle ns A x) (Ip.frz ns a):=by
 simp only[Ip.settle];split
 ·exact h.trans (.low ns a)
 ·exact h.frz
theorem RelF.settleK (h:RelF A a)(ns:List Nat)(hx:x.2.fb x.1=true):RelF (Ip.settle ns A x) a:=by
 simp only[Ip.settle,hx,if_true]; exact h
theorem RelF.excA (h:RelF A a)(fs:List (Nat×D)):RelF (Ip.excA A fs) (bX a):=by
 simp only[Ip.excA];split
 ·exact h.trans (.lowA a)
 ·have:RelF (bX A) (bX a):=by
   induction h with
   | nil=>exact .nil
   | @cons x y _ _ q t ih=>
    refine .cons ?_ ih;cases x <;> cases y <;> first | trivial | exact q.elim | exact⟨q.1,bb _⟩
  exact this
section
variable (G:Pg)(cl:Nat->List KD->Run)(io:List Nat)
def Ou (a:Fr)(ss:List S)(N:Fr->Prop)(V:D->Prop)(X:Nat->List (Nat×D)->Fr->Prop):Prop:=∀A,RelF A a->match execs G cl io A ss with
 | .nx A'=>∃a',RelF A' a'/\N a'
 | .ret _ d _=>V d
 | .exc c fs A'=>∃a',RelF A' a'/\X c fs a'
 | _=>False
variable {G cl io}{a:Fr}{ss:List S}{N:Fr->Prop}{V:D->Prop}{X:Nat->List (Nat×D)->Fr->Prop}
theorem Ou.nil (h:N a):Ou G cl io a [] N V X:=fun A r=>by
 simp only[pQ,lj]; exact⟨a,r,h⟩
theorem Ou.low (l:RelF a a')(h:Ou G cl io a' ss N V X):Ou G cl io a ss N V X:=fun A r=>h A (r.trans l)
theorem Ou.mono (h:Ou G cl io a ss N V X)(n:∀a,N a->N' a)(r:∀d,V d->V' d)(x:∀c fs a,X c fs a->X' c fs a):Ou G cl io a ss N' V' X':=fun A q=>by
 have:=h A q;revert this
 cases execs G cl io A ss with
 | nx A=>exact fun⟨a,h1,h2⟩=>⟨a,h1,n a h2⟩
 | ret k d A=>exact r d
 | exc c fs A=>exact fun⟨a,h1,h2⟩=>⟨a,h1,x c fs a h2⟩
 | _=>exact id
theorem Ou.step (h:∀A,RelF A a->match exec G cl io A s with
  | .nx A'=>∃a',RelF A' a'/\Ou G cl io a' ss N V X
  | .ret _ d _=>V d
  | .exc c fs A'=>∃a',RelF A' a'/\X c fs a'
  | _=>False):Ou G cl io a (s::ss) N V X:=fun A r=>by
 have:=h A r;simp only[pQ,lj];revert this
 cases exec G cl io A s with
 | nx A'=>exact fun⟨a',h1,h2⟩=>h2 A' h1
 | ret k d A=>exact id
 | exc c fs A=>exact id
 | _=>exact id
theorem Ou.set (h:eval G cl a.sl e=.ok x)(hio:io.contains i=false)(hi:i<a.length)(k:Ou G cl io ((frz e.names a).set i (some (0,x.2))) ss N V X):Ou G cl io a (.set i e::ss) N V X:=
 .step fun A r=>by
  have l:(settle e.names A x).length=a.length:=by
   rw[<-r.len];have:=(r.settle e.names x).len;rw[this,<-(RelF.low e.names a).len,r.len]
  simp only[k9,r.sl,h,R.toO,b7,hio,l,hi,and_self,if_true];exact⟨_,(r.settle e.names x).set (x:=some x) (y:=some (0,x.2)) ⟨rfl,Nat.zero_le _⟩ i,k⟩
theorem Ou.setE (h:∃j,eval G cl a.sl e=.ok (j,d))(hio:io.contains i=false)(hi:i<a.length)(k:Ou G cl io ((frz e.names a).set i (some (0,d))) ss N V X):Ou G cl io a (.set i e::ss) N V X:=by
 obtain⟨j,h⟩:=h;exact Ou.set h hio hi k
theorem Ou.setK (h:eval G cl a.sl e=.ok x)(hx:x.2.fb x.1=true)(hio:io.contains i=false)(hi:i<a.length)(k:Ou G cl io (a.set i (some x)) ss N V X):Ou G cl io a (.set i e::ss) N V X:=
 .step fun A r=>by
  have l:(settle e.names A x).length=a.length:=(r.settleK e.names hx).len;simp only[k9,r.sl,h,R.toO,b7,hio,l,hi,and_self,if_true];exact⟨_,(r.settleK e.names hx).set (.refl _) i,k⟩
theorem Ou.setX (h:eval G cl a.sl e=.exc c fs)(k:X c fs (bX a)):Ou G cl io a (.set i e::ss) N V X:=
 .step fun A r=>by
  simp only[k9,r.sl,h,R.toO];exact⟨_,r.excA fs,k⟩
theorem Ou.ex (h:eval G cl a.sl e=.ok x)(k:Ou G cl io (frz e.names a) ss N V X):Ou G cl io a (.ex e::ss) N V X:=
 .step fun A r=>by
  simp only[pT,r.sl,h,R.toO];exact⟨_,r.settle e.names x,k⟩
theorem Ou.ret (h:eval G cl a.sl e=.ok x)(k:V x.2):Ou G cl io a (.ret e::ss) N V X:=
 .step fun A r=>by
  rw[oB,r.sl,h];cases e with
  | var i=>
   rw[iT,<-r.sl] at h;rcases r.get i with ⟨e1,e2⟩ | ⟨x',y',e1,e2,q⟩
   ·simp[Fr.sl,e1] at h
   ·cases x' with
    | none=>simp[Fr.sl,e1] at h
    | some x'=>
     simp[Fr.sl,e1] at h;subst h;rw[t5,e1];exact k
  | _=>exact k
theorem Ou.retE (h:∃j,eval G cl a.sl e=.ok (j,d))(k:V d):Ou G cl io a (.ret e::ss) N V X:=by
 obtain⟨j,h⟩:=h;exact Ou.ret h k
theorem Ou.iff (h:eval G cl a.sl c=.ok (j,.bl b))(k:if b then Ou G cl io a t (fun a'=>Ou G cl io a' ss N V X) V X else Ou G cl io a e (fun a'=>Ou G cl io a' ss N V X) V X):Ou G cl io a (.iff c t e::ss) N V X:=
 .step fun A r=>by
  simp only[uN,r.sl,h,R.bl,R.bind,R.toO];cases b with
  | true=>exact k A r
  | false=>exact k A r
theorem Ou.iffT (h:eval G cl a.sl c=.ok (j,.bl true))(k:Ou G cl io a t (fun a'=>Ou G cl io a' ss N V X) V X):Ou G cl io a (.iff c t e::ss) N V X:=.iff h k
theorem Ou.iffF (h:eval G cl a.sl c=.ok (j,.bl false))(k:Ou G cl io a e (fun a'=>Ou G cl io a' ss N V X) V X):Ou G cl io a (.iff c t e::ss) N V X:=.iff h k
theorem Ou.iffN (h:eval G cl a.sl c=.ok (j,.bl false))(k:Ou G cl io a ss N V X):Ou G cl io a (.iff c t []::ss) N V X:=Ou.iffF h (Ou.nil k)
theorem Ou.rais (h:eval G cl a.sl (.make c es)=.ok (j+1,.exc c' fs))(k:X c' fs (bX a)):Ou G cl io a (.rais c es::ss) N V X:=
 .step fun A r=>by
  simp only[wK,r.sl,h,R.toO,fM];refine⟨_,RelF.zero ?_,k⟩;rw[((r.settle (Ex.make c es).names (j+1,.exc c' fs)).excA fs).sl,<-(RelF.lowA _).sl,<-(RelF.low _ a).sl]
theorem RelF.setFs:∀{is:List Nat} {ds:List D} {k:Nat} {A a:Fr},RelF A a->ds.length=is.length->(∀i∈is,io.contains i=false/\i<a.length)->∃A',setFs io is (ds.map fun d=>(k,d)) A=.nx A'/\RelF A' (di (fun d=>(0,d)) is ds a)
 | [],[],_,A,a,r,_,_=>⟨A,rfl,r⟩
 | i::is,d::ds,k,A,a,r,hl,h=>by
  have hi:=h i bM;have hl':i<A.length:=by rw[r.len]; exact hi.2
  obtain⟨A',e,r'⟩:=RelF.setFs (is:=is) (ds:=ds) (k:=k) (r.set (x:=some (k,d)) (y:=some (0,d)) ⟨rfl,Nat.zero_le _⟩ i) (by simpa using hl) fun j hj=>⟨(h j (bD _ hj)).1,by simpa using (h j (bD _ hj)).2⟩
  refine⟨A',?_,r'⟩;simp only[List.map_cons,Ip.setFs,b7,hi.1,hl',and_self,if_true,O.seq];exact e
theorem Ou.setT (h:eval G cl a.sl e=.ok (j,.tup ds))(hl:ds.length=is.length)(hi:∀i∈is,io.contains i=false/\i<a.length)(k:Ou G cl io (di (fun d=>(0,d)) is ds (frz e.names a)) ss N V X):Ou G cl io a (.setT is e::ss) N V X:=
 .step fun A r=>by
  obtain⟨A',q1,q2⟩:=RelF.setFs (io:=io) (is:=is) (ds:=ds) (k:=0) (r.settle e.names (j,.tup ds)) hl fun i hm=>⟨(hi i hm).1,by rw[<-(RelF.low e.names a).len]; exact (hi i hm).2⟩
  simp only[wW,r.sl,h,R.toO,fO,q1];exact⟨_,q2,k⟩
theorem Ou.fo (I:List D->Fr->Prop)(h:evals G cl a.sl it=.ok vs)(hw:dD wk vs=some xs)(hx:xs.length<=SL)(h0:I xs (frz (Ex.namess it) a))
  (step:∀x r a',I (x::r) a'->∃a'',(∀A,RelF A a'->∃A',bZ io tg x A=.nx A'/\RelF A' a'')/\Ou G cl io a'' b (I r) V X)(k:∀a',I [] a'->Ou G cl io a' ss N V X):Ou G cl io a (.fo tg wk it b::ss) N V X:=
 .step fun A r=>by
  simp only[sE,r.sl,h,R.toO,ls,hw,hx,if_true];have lp:∀(xs:List D) (a':Fr),I xs a'->∀A,RelF A a'->match be (fm G cl io tg b) xs A with
    | .nx A'=>∃a',RelF A' a'/\Ou G cl io a' ss N V X
    | .ret _ d _=>V d
    | .exc c fs A'=>∃a',RelF A' a'/\X c fs a'
    | _=>False:=by
   intro xs;induction xs with
   | nil=>exact fun a' hi A r=>⟨a',r,k a' hi⟩
   | cons x xs ih=>
    intro a' hi A r;obtain⟨a'',hb,hO⟩:=step x xs a' hi;obtain⟨A',e,r'⟩:=hb A r;have:=hO A' r';rw[be,fm,e];simp only[O.seq];revert this
    cases execs G cl io A' b with
    | nx A2=>exact fun⟨a2,h1,h2⟩=>ih a2 h2 A2 h1
    | ret k d A2=>exact id
    | exc c fs A2=>exact id
    | _=>exact False.elim
  exact lp xs _ h0 _ r.frz
theorem i3 (hio:io.contains i=false)(hi:i<a'.length):∀A,RelF A a'->∃A',bZ io (.one i) x A=.nx A'/\RelF A' (a'.set i (some (0,x))):=fun A r=>by
 have:i<A.length:=by rw[r.len]; exact hi
 simp only[bZ,b7,hio,this,and_self,if_true];exact⟨_,rfl,r.set (.refl _) i⟩
theorem Ou.tryE (h:Ou G cl io a b (fun a'=>Ou G cl io a' ss N V X) V fun c' fs a'=>aA G (.exc c' fs) (.cls c)=true/\io.contains x=false/\x<a'.length/\io.contains i=false/\i≠x/\i<a'.length/\Ou G cl io ((a'.set x (some (0,.exc c' fs))).set i none) ss N V X):Ou G cl io a (.tryE b c i x::ss) N V X:=
 .step fun A r=>by
  have:=h A r;simp only[vJ];revert this
  cases execs G cl io A b with
  | nx A'=>exact id
  | ret k d A'=>exact id
  | exc c' fs A'=>
   rintro⟨a',r',h1,h2,h3,h4,h5,h6,h7⟩;have l:x<A'.length:=by rw[r'.len]; exact h3
   have l2:i<(A'.set x (some (0,.exc c' fs))).length:=by rw[List.length_set,r'.len]; exact h6
   simp only[h8,h1,if_true,b7,h2,l,and_self,O.seq,h4,l2,ne_eq,h5,not_false_eq_true];exact⟨_,(r'.set (.refl _) x).set (x:=none) (y:=none) trivial i,h7⟩
  | _=>exact False.elim
end
theorem mN (hx:xs.length<=1000)(hy:ys.length<=1000):de (.lst xs) (.lst ys)=some (1,.lst (xs++ys)):=by
 have:xs.length+ys.length<=SL:=by
  have:2000<=SL:=by decide
  omega
 simp only[de];rw[if_pos this]
theorem Ou.run (hf:G.fn f=some F)(hn:vs.length=F.np)(hio:F.io=[])(h:Ou G (run G n) [] (bo F vs) F.body (fun _=>V .non) V fun _ _ _=>False):∃k d,Ip.run G (n+1) f vs=.ret k d []/\V d:=by
 rw[Ip.run,hf];simp only[hn,if_true,hio];have:=h _ (.refl _);revert this
 cases execs G (Ip.run G n) [] (bo F vs) F.body with
 | nx A=>exact fun⟨_,_,h⟩=>⟨99,.non,rfl,h⟩
 | ret k d A=>exact fun h=>⟨k,d,rfl,h⟩
 | exc c fs A=>exact fun⟨_,_,h⟩=>h.elim
 | _=>exact False.elim
theorem Ou.runX {G:Pg}{n f:Nat}{F:Fn}{vs:List KD}{X:Nat->List (Nat×D)->Prop}(hf:G.fn f=some F)(hn:vs.length=F.np)(hio:F.io=[])(h:Ou G (Ip.run G n) [] (bo F vs) F.body (fun _=>False) (fun _=>False) fun c fs _=>X c fs):∃c fs,Ip.run G (n+1) f vs=.exc c fs []/\X c fs:=by
 rw[Ip.run,hf];simp only[hn,if_true,hio];have:=h _ (.refl _);revert this
 cases execs G (Ip.run G n) [] (bo F vs) F.body with
 | nx A=>exact fun⟨_,_,h⟩=>h.elim
 | ret k d A=>exact False.elim
 | exc c fs A=>exact fun⟨_,_,h⟩=>⟨c,fs,rfl,h⟩
 | _=>exact False.elim
structure Pa (G:Pg):Prop where
 f0:G.fn 0=some jF
 f1:G.fn 1=some jo
 f2:G.fn 2=some mP
 f4:G.fn 4=some jI
 f15:G.fn 15=some lM
 f16:G.fn 16=some kF
 f17:G.fn 17=some gA
 f18:G.fn 18=some jD
 f19:G.fn 19=some jP
 f20:G.fn 20=some ja
 f21:G.fn 21=some iz
 c2:G.cl 2=some ⟨(some 4),[],[0],true⟩
 c17:G.cl 17=some ⟨(some 18),[(11,19),(12,20),(13,21),(14,22)],[],false⟩
variable {G:Pg}(P:Pa G)
include P
noncomputable def gC:D->Bool
 | .int _=>true
 | _=>false
theorem qR (n:Nat)(k:Nat)(d:D):run G (n+1) 0 [(k,d)]=.ret 99 (.bl (gC d)) []:=by
 rw[run,P.f0];cases d <;> simp[jF,gC]
noncomputable def isB (b:Int):D->Bool
 | .int i=>decide (0<=i)&&decide (i<b)
 | _=>false
theorem qE (n:Nat)(k k':Nat)(d:D)(b:Int):run G (n+2) 1 [(k,d),(k',.int b)]=.ret 99 (.bl (isB b d)) []:=by
 rw[run,P.f1];cases d with
 | int i=>by_cases h:0<=i <;> simp[jo,P.f0,qR P,jF,gC,isB,h]
 | _=>simp[jo,P.f0,qR P,jF,gC,isB]
omit P in
noncomputable def cr (xs:List Int):Bool:=(xs.zip (xs.drop 1)).all fun p=>decide (p.1<p.2)
theorem yd (n k:Nat)(xs:List Int)(hl:xs.length<=SL):run G (n+1) 15 [(k,.lst (xs.map .int))]=.ret 99 (.bl (cr xs)) []:=by
 rw[run,P.f15];have e:(xs.map D.int).zip (xs.map D.int).tail=(xs.zip xs.tail).map fun p=>(.int p.1,.int p.2):=by
  rw[<-List.map_tail,List.zip_map]; rfl
 have c:cutD (xs.map D.int) (some 1) none=(xs.map D.int).drop 1:=E7 _ 1;have hl2:xs.length<=SL+1:=by omega
 simp[lM,c,e,List.map_map,hl2];rw[gB (g:=fun p:Int×Int=>(99,.bl (decide (p.1<p.2))))]
 ·simp[List.map_map,Function.comp_def,cr]
 ·intro x hx;simp[compF]
noncomputable def cvs (xs:List Int):D:=.lst (xs.map .int)
theorem zv (n k k':Nat)(xs:List Int)(b:Int)(hl:xs.length<=SL) :
  run G (n+3) 16 [(k,.lst (xs.map .int)),(k',.int b)]=.ret 99 (.bl (decide (xs≠[])&&(xs.all fun i=>decide (0<=i)&&decide (i<b))&&cr xs)) []:=by
 rw[run,P.f16];have c:au (compF G (run G (n+2)) [none,none,some (.int b)] (.one 1) [] (.call 1 [.var 1,.var 2])) (xs.map .int)=.ok (xs.map fun i=>(99,.bl (decide (0<=i)&&decide (i<b)))):=
  gB fun i _=>by simp[compF,P.f1,jo,qE P n,isB]
 have q:=yd P (n+1) 0 xs hl;by_cases hx:xs=[]
 ·subst hx;simp[kF,D.eq]
 ·by_cases h:(xs.all fun i=>decide (0<=i)&&decide (i<b))=true
  ·simp[kF,D.eq,hx,hl,c,Function.comp_def,h,P.f15,lM,q]
  ·have h':(xs.all fun i=>decide (0<=i)&&decide (i<b))=false:=by simpa using h
   simp[kF,D.eq,hx,hl,c,Function.comp_def,h']
noncomputable def wd (p:Int)(cs:List (List Int)):D:=.ins 17 [(9,.int p),(10,.lst (cs.map fun c=>.tup (c.map .int)))]
noncomputable def ar (cs:List (List Int)):D:=.lst (cs.map fun c=>.lst (c.map .int))
noncomputable def ef (p:Int)(c:List Int):Bool:=decide (c≠[])&&(c.all fun i=>decide (0<=i)&&decide (i<p))&&cr c
theorem Fv (n k k':Nat)(p:Int)(cs:List (List Int))(hp:1<=p/\p<=6)(hn:cs.length<=6)(hc:∀c∈cs,ef p c=true)(hl:∀c∈cs,c.length<=SL) :
  run G (n+4) 18 [(1,.ins 17 []),(k,.int p),(k',ar cs)]=.ret 99 .non [(100,wd p cs)]:=by
 rw[run,P.f18];have hw:=qR P (n+2) 0 (.int p);have hS:cs.length<=SL:=bK hn (by decide);have h6:¬((6:Int)<cs.length):=by omega
 have lp:∃A',be (fm G (run G (n+3)) [0] (.many [3,4]) [.iff (.op .not [(.call 16 [(.var 4),(.var 1)])]) [.rais 2 [(.var 3)]] []]) ((cs.map fun c=>D.lst (c.map .int)).mapIdx fun n d=>.tup [.int n,d])
   [some (1,.ins 17 []),some (0,.int p),some (0,ar cs),none,none]=.nx A'/\∃a b,A'=[some (1,.ins 17 []),some (0,.int p),some (0,ar cs),a,b]:=by
  refine vS (I:=fun A'=>∃a b,A'=[some (1,.ins 17 []),some (0,.int p),some (0,ar cs),a,b]) ⟨_,_,rfl⟩ ?_;rintro x hx A ⟨a,b,hA⟩;obtain⟨i,d,hi,hd⟩:∃(i:Nat) (c:List Int),c∈cs/\x=.tup [.int i,.lst (c.map .int)]:=by
   rw[List.mem_mapIdx] at hx;obtain⟨i,hi,e⟩:=hx;rw[List.getElem_map] at e;exact⟨i,_,List.getElem_mem (by simpa using hi),e.symm⟩
  subst hA hd;have g:=hc d hi;rw[ef] at g;have q:=zv P n 0 0 d p (hl d hi);rw[g] at q;refine⟨_,?_,some (0,.int i),some (0,.lst (d.map .int)),rfl⟩;simp[fm,P.f16,kF,q]
 obtain⟨A',e,a,b,rfl⟩:=lp;simp only[ar] at e;have c:au (compF G (run G (n+3)) [none,none] (.one 1) [] (.op .tuple [.var 1])) (cs.map fun c=>D.lst (c.map .int))=.ok (cs.map fun c=>(0,.tup (c.map .int))):=
  gB fun c _=>by simp[compF]
 have j:aB (cs.map fun c=>((0:Nat),D.tup (c.map .int)))=98:=k6 fun x hx=>by
  obtain⟨c,_,rfl⟩:=c9 hx;simp
 simp[jD,P.f0,jF,hw,gC,hp.1,hp.2,ar,hS,h6,e,c,j,wd,bN,aK,Function.comp_def]
end Ip
end
section
namespace Ip
open PySem (Str)
theorem rA {d:D}(h:d.scal=true):d.flat=true:=by cases d <;> simp at h ⊢
theorem tq {d:D}(k:Nat)(h:d.scal=true):d.fb k=true:=by cases d <;> simp at h ⊢ <;> cases k <;> rfl
theorem vX (k:Nat)(h:ds.all D.scal=true):D.fb k (.tup ds)=true:=by
 have h':=dF h;cases k with
 | zero=>simp only[D.fb,D.flat,rj,List.all_eq_true]; exact fun d hd=>rA (h' d hd)
 | succ k=>simp only[D.fb,List.all_eq_true]; exact fun d hd=>tq k (h' d hd)
theorem uj (k:Nat)(h:ds.all D.scal=true):D.fb (k+1) (.lst ds)=true:=by
 have h':=dF h;simp only[D.fb,List.all_eq_true]; exact fun d hd=>tq k (h' d hd)
theorem RelF.own {A a:Fr}(r:RelF A a){x k:Nat}{d:D}(h:a[x]? = some (some (k+1,d))):∃j,A[x]? = some (some (j+1,d)):=by
 rcases r.get x with ⟨_,e2⟩ | ⟨y,z,e1,e2,q⟩
 ·rw[e2] at h; cases h
 ·rw[e2] at h;cases h;cases y with
  | none=>exact q.elim
  | some y=>
   obtain⟨j,d'⟩:=y;obtain⟨q1,q2⟩:=q;have q1':d'=d:=q1;have q2':k+1<=j:=q2;subst q1';exact⟨j - 1,by rw[e1]; congr 3; omega⟩
section
variable {G:Pg}{cl:Nat->List KD->Run}{io:List Nat}{a:Fr}{ss:List S}{N:Fr->Prop}{V:D->Prop}{X:Nat->List (Nat×D)->Fr->Prop}
theorem Ou.extend {x k j:Nat}{e:Ex}{xs ys:List D}(hx:a[x]? = some (some (k+1,.lst xs)))(he:eval G cl a.sl e=.ok (j,.tup ys))(hs:ys.all D.scal=true)(hl:xs.length+ys.length<=SL)(h:Ou G cl io (a.set x (some (1,.lst (xs++ys)))) ss N V X) :
  Ou G cl io a (.mut x [] .extend [e]::ss) N V X:=
 .step fun A r=>by
  obtain⟨k',hA⟩:=r.own hx;have e1:bL A[x]? = true:=by rw[hA]; rfl
  have e2:([(j,D.tup ys)]:List KD).all (fun v=>v.2.fb v.1)=true:=by simp only[List.all_cons,List.all_nil,Bool.and_true]; exact vX j hs
  simp only[nn,e1,if_true,bB,bj,r.sl,he,R.bind,R.toO,en,e2,hA,fJ,qA,hs,hl,and_self];exact⟨_,r.set (.refl _) x,h⟩
theorem Ou.put {x k j:Nat}{e i:Ex}{xs:List D}{v:KD}{n:Int}(hx:a[x]? = some (some (k+1,.lst xs)))(he:eval G cl a.sl e=.ok v)(hv:v.2.fb v.1=true)(hi:eval G cl a.sl i=.ok (j,.int n))(hn:0<=n/\n<xs.length)(h:Ou G cl io (a.set x (some (1,.lst (xs.set n.toNat v.2)))) ss N V X) :
  Ou G cl io a (.put x [] i e::ss) N V X:=
 .step fun A r=>by
  obtain⟨k',hA⟩:=r.own hx;simp only[uz,List.isEmpty_nil,if_true,r.sl,he,hi,R.toO,settle,hv,hA,hZ,hn,and_self];exact⟨_,r.set (.refl _) x,h⟩
end
section
variable {G:Pg}{cl:Nat->List KD->Run}{io:List Nat}{a:Fr}{ss:List S}{N:Fr->Prop}{V:D->Prop}{X:Nat->List (Nat×D)->Fr->Prop}
theorem Ou.append (hx:(frz e.names a)[x]? = some (some (k+1,.lst xs)))(he:eval G cl a.sl e=.ok v)(hl:xs.length<SL)(h:Ou G cl io ((frz e.names a).set x (some (1,.lst (xs++[v.2])))) ss N V X) :
  Ou G cl io a (.mut x [] .append [e]::ss) N V X:=
 .step fun A r=>by
  obtain⟨k0,h0⟩:=(r.trans (.low e.names a)).own hx;have e1:bL A[x]? = true:=by rw[h0]; rfl
  have nm:Ex.namess [e]=e.names:=by simp
  have r1:RelF (if ([v]:List KD).all (fun v=>v.2.fb v.1)=true then A else frz (Ex.namess [e]) A) (frz e.names a):=by
   rw[nm];split
   ·exact r.trans (.low e.names a)
   ·exact r.frz
  obtain⟨k1,h1⟩:=r1.own hx;simp only[nn,e1,if_true,bB,bj,r.sl,he,R.bind,R.toO,en];generalize (if ([v]:List KD).all (fun v=>v.2.fb v.1)=true then A else frz (Ex.namess [e]) A)=A1 at r1 h1;rw[h1];simp only[fJ,tZ,hl,if_true];exact⟨_,r1.set (x:=some (bN k1 xs v+1,.lst (xs++[v.2]))) (y:=some (1,.lst (xs++[v.2]))) ⟨rfl,by omega⟩ x,h⟩
end
end Ip
end
section
namespace Ip
theorem RelF.of_eq (h:a=b):RelF a b:=h ▸ .refl a
theorem RelF.own2 {A a:Fr}(r:RelF A a){x k:Nat}{d:D}(h:a[x]? = some (some (k+2,d))):∃j,A[x]? = some (some (j+2,d)):=by
 rcases r.get x with ⟨_,e2⟩ | ⟨y,z,e1,e2,q⟩
 ·rw[e2] at h; cases h
 ·rw[e2] at h;cases h;cases y with
  | none=>exact q.elim
  | some y=>
   obtain⟨j,d'⟩:=y;obtain⟨q1,q2⟩:=q;have q1':d'=d:=q1;have q2':k+2<=j:=q2;subst q1';exact⟨j - 2,by rw[e1]; congr 3; omega⟩
section
variable {G:Pg}{cl:Nat->List KD->Run}{io:List Nat}{a:Fr}{ss:List S}{N:Fr->Prop}{V:D->Prop}{X:Nat->List (Nat×D)->Fr->Prop}
theorem vn:∀(ss ts:List S) (A:Fr),execs G cl io A (ss++ts)=(execs G cl io A ss).seq fun A=>execs G cl io A ts
 | [],ts,A=>by simp[O.seq]
 | s::ss,ts,A=>by
  rw[List.cons_append,lj,lj];cases exec G cl io A s with
  | nx A'=>simp only[O.seq]; exact vn ss ts A'
  | _=>rfl
end
theorem Ou.runE {G:Pg}{n f:Nat}{F:Fn}{vs:List KD}{init:List S}{e:Ex}{P:KD->Prop}(hf:G.fn f=some F)(hn:vs.length=F.np)(hio:F.io=[])(hb:F.body=init++[.ret e])(hv:∀i,e≠.var i)
  (h:Ou G (Ip.run G n) [] (bo F vs) init (fun a=>∃x,eval G (Ip.run G n) a.sl e=.ok x/\P x) (fun _=>False) fun _ _ _=>False):∃x:KD,Ip.run G (n+1) f vs=.ret x.1 x.2 []/\P x:=by
 rw[Ip.run,hf];simp only[hn,if_true,hio];rw[hb,vn];have:=h _ (.refl _);revert this
 cases execs G (Ip.run G n) [] (bo F vs) init with
 | nx A=>
  rintro⟨a,r,x,h1,h2⟩;refine⟨x,?_,h2⟩;have e2:eval G (Ip.run G n) A.sl e=.ok x:=by rw[r.sl]; exact h1
  simp only[O.seq,lj,oB,e2];cases e with
  | var i=>exact absurd rfl (hv i)
  | _=>simp[fin]
 | ret k d A=>exact False.elim
 | exc c fs A=>exact fun⟨_,_,h⟩=>h.elim
 | _=>exact False.elim
end Ip
end
section
namespace Ip
open PySem (Str)
noncomputable def rowD (r:List Nat):D:=.tup (ah r)
noncomputable def aC (rows:List (List Nat)):D:=.tup (rows.map rowD)
theorem fk (r:List Nat):(ah r).all D.scal=true:=by simp[ah]
theorem o8:∀{ns:List Nat},(∀n∈ns,n<6)->ci (ah ns)=some ns
 | [],_=>rfl
 | n::ns,h=>by
  have h1:=h n bM;have ih:=o8 (ns:=ns) fun m hm=>h m (bD _ hm);have h2:(0:Int)<=Int.ofNat n/\Int.ofNat n<6:=⟨Int.natCast_nonneg n,by simpa using (show (n:Int)<6 by omega)⟩
  show ci (.int (Int.ofNat n)::ah ns)=_;simp only[ci,h2,and_self,if_true,ih,Option.map];rfl
theorem j9 (g:Nat):∀ns:List Nat,D.memb (.int g) (ah ns)=decide (g∈ns)
 | []=>rfl
 | n::ns=>by
  have ih:=j9 g ns;have e:D.memb (.int g) (ah (n::ns))=((D.int (Int.ofNat n)).eq (.int g)||D.memb (.int g) (ah ns)):=rfl;rw[e,ih];simp only[D.eq];by_cases h:g=n
  ·subst h; simp
  ·have:¬(n:Int)=(g:Int):=by omega
   simp[this,h]
theorem qg (h:g<6):g∈am ns↔g∈ns:=by
 simp[am,h]
noncomputable def fH (c:List Int)(g:Nat)(rows:List (List Nat)):List (List Nat):=c.foldl (fun rs i=>rs.set i.toNat (rs.getD i.toNat []++[g])) rows
theorem yE (k:Nat)(r:List Nat):D.fb k (rowD r)=true:=vX k (fk r)
theorem nI (r:List Nat):(rowD r).flat=true:=yE 0 r
theorem wn {rs:List (List Nat)}{i:Int}(h:0<=i/\i<rs.length):aJ (.lst (rs.map rowD)) (.int i)=some (0,rowD (rs.getD i.toNat [])):=by
 have h2:i.toNat<rs.length:=by omega
 simp[aJ,bO,h.1,h.2,h2]
theorem En {r:List Nat}{g:Nat}(h:r.length<=1000):de (rowD r) (.tup [.int g])=some (0,rowD (r++[g])):=by
 have:(ah r).length+[D.int g].length<=SL:=by
  have:1001<=SL:=by decide
  simp[ah];omega
 simp only[rowD,de];rw[if_pos this];simp[ah]
structure Pv (G:Pg):Prop where
 a:Pa G
 f23:G.fn 23=some lU
 f24:G.fn 24=some gZ
 f25:G.fn 25=some jg
 f26:G.fn 26=some fR
 f27:G.fn 27=some ky
section
variable {G:Pg}(P:Pa G)
include P
omit P in
theorem p8 (p:Int)(cs:List (List Int)):fg 9 (wd p cs)=some (0,.int p):=rfl
omit P in
theorem i6 (p:Int)(cs:List (List Int)):fg 10 (wd p cs)=some (0,.lst (cs.map fun c=>.tup (c.map .int))):=rfl
theorem Cj (p:Int)(cs:List (List Int)):bC G 11 0 (wd p cs)=some (19,jP):=by
 simp[bC,wd,P.c17,P.f19,jP,List.lookup]
theorem wt (p:Int)(cs:List (List Int)):bC G 12 0 (wd p cs)=some (20,ja):=by
 simp[bC,wd,P.c17,P.f20,ja,List.lookup]
theorem qh (p:Int)(cs:List (List Int)):bC G 13 1 (wd p cs)=some (21,iz):=by
 simp[bC,wd,P.c17,P.f21,iz,List.lookup]
theorem vv (n k:Nat)(p:Int)(cs:List (List Int)):run G (n+1) 20 [(k,wd p cs)]=.ret 99 (.int cs.length) []:=by
 rw[run,P.f20];simp[ja,i6]
theorem x2 (n k:Nat)(p:Int)(cs:List (List Int)):run G (n+1) 19 [(k,wd p cs)]=.ret 0 (.int p) []:=by
 rw[run,P.f19];simp[jP,p8]
theorem mY (n k k':Nat)(p:Int)(cs:List (List Int))(d:D)(h:isB cs.length d=true):run G (n+4) 17 [(k,wd p cs),(k',d)]=.ret 99 .non []:=by
 rw[run,P.f17];have q:=qE P (n+1) 0 99 d cs.length;have q2:=vv P (n+2) 0 p cs;rw[h] at q;simp[gA,P.f1,jo,wt P,ja,q2,q]
theorem qS (n k k':Nat)(p:Int)(cs:List (List Int))(j:Nat)(c:List Int)(h:cs[j]? = some c):run G (n+5) 21 [(k,wd p cs),(k',.int j)]=.ret 1 (.lst (c.map .int)) []:=by
 rw[run,P.f21];have hj:j<cs.length:=(dN h).1;have hb:isB cs.length (.int j)=true:=by simp[isB,hj]
 have q:=mY P n 0 0 p cs (.int j) hb;have e:cs[j]=c:=(dN h).2;simp[iz,P.f17,gA,q,i6,bO,hj,e]
end
section
variable {G:Pg}(P:Pv G)
include P
theorem CP (n k:Nat)(p:Nat)(cs:List (List Int))(hp:p<=6):∃j,run G (n+2) 23 [(k,wd p cs)]=.ret j (aC (List.replicate p [])) []:=by
 rw[run,P.f23];have q:=x2 P.a n 0 p cs;have hs:p<=SL:=bK hp (by decide);have cc:au (compF G (run G (n+1)) [none,none] (.one 1) [] (.op .tup [])) ((List.range p).map fun (n:Nat)=>.int n)=.ok ((List.range p).map fun n=>(99,.tup [])):=
  gB fun i _=>by simp[compF]
 have e:(List.range p).map (fun _=>D.tup [])=(List.replicate p ([]:List Nat)).map rowD:=by
  rw[List.map_replicate];have:rowD []=.tup []:=rfl;rw[this];exact (List.eq_replicate_iff.mpr ⟨by simp,by simp⟩)
 simp[lU,Cj P.a,jP,q,wk_rng1 hs,hs,cc,Function.comp_def,aC,e]
theorem tH (n k:Nat)(rows:List (List Nat))(h1:rows.length<=6)(h2:rows.flatten.length<=1000)(h3:∀g∈rows.flatten,g<6):run G (n+1) 24 [(k,aC rows)]=.ret 1 (.lst (ah (am rows.flatten))) []:=by
 have hs:rows.length<=SL:=bK h1 (by decide);obtain⟨x,e,rfl⟩:=Ou.runE (G:=G) (n:=n) (f:=24) (F:=gZ) (vs:=[(k,aC rows)]) (init:=gZ.body.dropLast) (e:=.op .srtSet [(.var 1)]) (P:=fun x=>x=(1,.lst (ah (am rows.flatten)))) P.f24 rfl rfl rfl (fun _ h=>nomatch h) (by
  show Ou G (run G n) [] [some (0,aC rows),none,none] _ _ _ _;refine Ou.setK (x:=(99,.lst [])) (by simp) (by simp) rfl (by simp) ?_;refine Ou.low (a':=[some (0,aC rows),some (1,.lst []),none]) (.cons (.refl _) (.cons ⟨rfl,by decide⟩ (.cons trivial .nil))) ?_;refine Ou.fo (fun r a=>∃(x:Option KD) (fl:List Nat) (suf:List (List Nat)),a=[some (0,aC rows),some (1,.lst (ah fl)),x]/\r=suf.map rowD/\fl++suf.flatten=rows.flatten) (vs:=[(0,aC rows)]) (xs:=rows.map rowD) (by simp) (by simp[aC]) (by simpa using hs) ?_ ?_ ?_
  ·exact⟨none,[],rows,by simp[ah],rfl,rfl⟩
  ·rintro x r a ⟨y,fl,suf,ha,hr,he⟩;cases suf with
   | nil=>simp at hr
   | cons s suf=>
    simp only[List.map_cons,List.cons.injEq] at hr;obtain⟨rfl,rfl⟩:=hr;subst ha;refine⟨_,i3 rfl (by simp),?_⟩;refine Ou.extend (k:=0) (j:=0) (xs:=ah fl) (ys:=ah s) (by simp) (by simp[rowD]) (fk s) ?_ ?_
    ·have e2:rows.flatten.length=fl.length+(s.length+suf.flatten.length):=by rw[<-he]; simp
     have:1000<=SL:=by decide
     simp only[ah,List.length_map];omega
    ·exact Ou.nil ⟨some (0,rowD s),fl++s,suf,by simp[ah],rfl,by simpa using he⟩
  ·rintro a ⟨y,fl,suf,ha,hr,he⟩;have:suf=[]:=by simpa using hr.symm
   subst this ha;simp only[List.flatten_nil,List.append_nil] at he;rw[<-he] at h3 ⊢;exact Ou.nil ⟨(1,.lst (ah (am fl))),by simp[o8 h3],rfl⟩)
 exact e
theorem E8 (n k k' k'':Nat)(p:Nat)(cs:List (List Int))(rows:List (List Nat))(g:Nat)(c:List Int)(hc:cs[g]? = some c)(hpl:∀i∈c,0<=i/\i<rows.length)(h6:rows.length<=6)(hl:c.length<=6)(hf:rows.flatten.length<=900)(hg6:∀g∈rows.flatten,g<6)(hg:g<6)(hn:g∉rows.flatten) :
  ∃j,run G (n+6) 25 [(k,wd p cs),(k',aC rows),(k'',.int g)]=.ret j (aC (fH c g rows)) []:=by
 have hgl:g<cs.length:=(dN hc).1;have hb:isB cs.length (.int g)=true:=by simp[isB,hgl]
 have q1:=mY P.a (n+1) 0 0 p cs (.int g) hb;have q2:=tH P (n+4) 0 rows h6 (by omega) hg6;have q3:=qS P.a n 0 0 p cs g c hc;have hm:D.memb (.int g) (ah (am rows.flatten))=false:=by rw[j9]; simp[qg hg,hn]
 have hsc:=fk (am rows.flatten);have hS:c.length<=SL:=bK hl (by decide);have hrow:∀r∈rows,r.length<=900:=fun r hr=>by
  have:=(List.sublist_flatten_of_mem hr).length_le;omega
 have key:Ou G (run G (n+5)) [] [some (0,wd p cs),some (0,aC rows),some (0,.int g),none,none] jg.body (fun _=>False) (fun d=>d=aC (fH c g rows)) fun _ _ _=>False:=by
  refine Ou.ex (x:=(99,.non)) (by simp[P.a.f17,gA,q1]) ?_;refine Ou.iffN (j:=99) (by
   simp only[Fr.sl,cj,bj,bB,iT,kK];simp[-List.all_eq_true,P.f24,gZ,q2,hm,hsc]) ?_
  refine Ou.setK (x:=(1,.lst (rows.map rowD))) (by simp[aC]) (by simp[nI]) rfl (by simp) ?_;refine Ou.fo (fun r a=>∃(x:Option KD) (rs:List (List Nat)) (suf:List Int),a=[some (0,wd p cs),some (0,aC rows),some (0,.int g),some (1,.lst (rs.map rowD)),x]/\r=suf.map .int/\suf.foldl (fun rs i=>rs.set i.toNat (rs.getD i.toNat []++[g])) rs=fH c g rows/\rs.length=rows.length/\(∀i∈suf,0<=i/\i<rows.length)/\(∀r∈rs,r.length+suf.length<=906)) (vs:=[(1,.lst (c.map .int))]) (xs:=c.map .int) (by simp[qh P.a,iz,q3]) (by simp) (by simpa using hS) ?_ ?_ ?_
  ·exact⟨none,rows,c,by simp,rfl,rfl,rfl,hpl,fun r hr=>by have:=hrow r hr; omega⟩
  ·rintro x r a ⟨y,rs,suf,ha,hr,he,hlen,hi,hB⟩;cases suf with
   | nil=>simp at hr
   | cons s suf=>
    simp only[List.map_cons,List.cons.injEq] at hr;obtain⟨rfl,rfl⟩:=hr;subst ha;have hs:0<=s/\s<rs.length:=by rw[hlen]; exact hi s bM
    have hs':s.toNat<rs.length:=by omega
    have hmem:rs.getD s.toNat []∈rs:=by
     rw[List.getD_eq_getElem?_getD,List.getElem?_eq_getElem hs']; exact List.getElem_mem hs'
    have hBs:=hB _ hmem;simp only[List.length_cons] at hBs;refine⟨_,i3 rfl (by simp),?_⟩;have ad:=En (r:=rs.getD s.toNat []) (g:=g) (by omega);have ix:=wn hs;simp only[List.foldl_cons] at he;generalize rs.getD s.toNat []=row at ad ix hBs he;refine Ou.put (k:=0) (j:=0) (xs:=rs.map rowD) (v:=(0,rowD (row++[g]))) (n:=s) (by simp) ?_ (nI _) (by simp) (by simpa using hs) ?_
    ·simp[-de,-aJ,ix,ad]
    ·refine Ou.nil ⟨some (0,.int s),rs.set s.toNat (row++[g]),suf,by simp[List.map_set],rfl,?_,by simpa using hlen,fun i h=>hi i (bD _ h),?_⟩
     ·exact he
     ·intro r hr;rcases List.mem_or_eq_of_mem_set hr with h | h
      ·have:=hB r h;simp only[List.length_cons] at this;omega
      ·subst h;simp;omega
  ·rintro a ⟨y,rs,suf,ha,hr,he,_⟩;have:suf=[]:=by simpa using hr.symm
   subst this ha;simp only[List.foldl_nil] at he;subst he;exact Ou.ret (x:=(0,aC (fH c g rows))) (by simp[aC]) rfl
 obtain⟨j,d,e,rfl⟩:=Ou.run (n:=n+5) (vs:=[(k,wd p cs),(k',aC rows),(k'',.int g)]) (V:=fun d=>d=aC (fH c g rows)) P.f25 rfl rfl (key.mono (fun _ h=>h.elim) (fun _ h=>h) fun _ _ _ h=>h);exact⟨j,e⟩
end
noncomputable def bu (f:List Nat->List Nat)(c:List Int)(rows:List (List Nat)):List (List Nat):=c.foldl (fun rs i=>rs.set i.toNat (f (rs.getD i.toNat []))) rows
theorem BS (c:List Int)(g:Nat)(rows:List (List Nat)):fH c g rows=bu (fun r=>r++[g]) c rows:=rfl
theorem vM (f:List Nat->List Nat):∀(c:List Int) (rows:List (List Nat)),c.Nodup->(∀i∈c,0<=i/\i<rows.length)->∀j:Nat,(bu f c rows)[j]? = rows[j]?.map fun r=>if (j:Int)∈c then f r else r
 | [],rows,_,_,j=>by simp[bu]
 | i::c,rows,hn,hi,j=>by
  obtain⟨h1,h2⟩:=List.nodup_cons.mp hn;have hi0:=hi i bM;have ih:=vM f c (rows.set i.toNat (f (rows.getD i.toNat []))) h2 (fun x hx=>by simpa using hi x (bD _ hx)) j;show (bu f c (rows.set i.toNat (f (rows.getD i.toNat []))))[j]? = _;rw[ih,List.getElem?_set];by_cases e:i.toNat=j
  ·have e':i=(j:Int):=by omega
   have hj:j<rows.length:=by omega
   subst e';simp[hj,h1]
  ·have e':¬(j:Int)=i:=by omega
   simp[e,e']
theorem zR (hn:c.Nodup)(hi:∀i∈c,0<=i/\i<rows.length):bu f c rows=rows.mapIdx fun j r=>if (j:Int)∈c then f r else r:=by
 refine List.ext_getElem? fun j=>?_;rw[vM f c rows hn hi j,List.getElem?_mapIdx]
theorem Cf (xs:List α):cutD xs none (some (-1))=xs.dropLast:=by
 rw[List.dropLast_eq_take];simp only[cutD,cR];simp;congr 1
 omega
theorem d7 (r:List Nat):(ah r).length=r.length:=by simp[ah]
theorem wU (r:List Nat):(ah r).dropLast=ah r.dropLast:=by simp[ah]
structure Pl (G:Pg):Prop where
 f70:G.fn 70=some kW
 f71:G.fn 71=some df
noncomputable def bE (c p m:Int):Int:=
 let r:=c / 2 ^ (1+24 * (p % 469)).toNat
 let q:=(c % 1000003+1) * p % 999983
 if 10 ^ 18<=c/\0<r then r % m else q * (q+p) % 1000033 % m
theorem mx (h:0<m):0<=bE c p m:=by
 unfold bE;by_cases h':10 ^ 18<=c/\0<c / 2 ^ (1+24 * (p % 469)).toNat
 ·simp only[h',and_self,if_true]; exact Int.emod_nonneg _ (by omega)
 ·simp only[h',if_false]; exact Int.emod_nonneg _ (by omega)
theorem pE (h:0<m):bE c p m<m:=by
 unfold bE;by_cases h':10 ^ 18<=c/\0<c / 2 ^ (1+24 * (p % 469)).toNat
 ·simp only[h',and_self,if_true]; exact Int.emod_lt_of_pos _ h
 ·simp only[h',if_false]; exact Int.emod_lt_of_pos _ h
variable {G:Pg}(L:Pl G)
include L
theorem hV (n k k' k'':Nat)(c p m:Int)(hm:0<m)(hp:dE p=true):run G (n+1) 71 [(k,.int c),(k',.int p),(k'',.int m)]=.ret 99 (.int (bE c p m)) []:=by
 rw[run,L.f71];have i10:dE 10=true:=dU.mpr (by decide);have i24:dE 24=true:=dU.mpr (by decide);have e18:((18:Int).toNat)=18:=rfl;have h0:0<=p % 469:=Int.emod_nonneg _ (by decide);have hs:0<=1+24 * (p % 469):=by omega
 have hq:dE ((c % 1000003+1) * p % 999983)=true:=by
  have a:=Int.emod_nonneg ((c % 1000003+1) * p) (b:=999983) (by decide);have b:=Int.emod_lt_of_pos ((c % 1000003+1) * p) (b:=999983) (by decide);rw[dU];omega
 by_cases h:(1000000000000000000:Int)<=c
 ·by_cases h2:0<c / 2 ^ (1+24 * (p % 469)).toNat
  ·simp[df,i10,i24,e18,h,h2,hs,hm,hp,hq,bE]
  ·simp[df,i10,i24,e18,h,h2,hs,hm,hp,hq,bE]
 ·simp[df,i10,i24,e18,h,hs,hm,hp,hq,bE]
theorem Eu (n k k':Nat)(ns:List Int)(j:Nat):run G (n+1) 70 [(k,.lst (ns.map .int)),(k',.int j)]=.ret 0 (.int (ns.getD j 0)) []:=by
 rw[run,L.f70];have c:cutD (ns.map D.int) (some (j:Int)) (some ((j:Int)+1))=((ns.drop j).take 1).map D.int:=by
  simp only[cutD,cR];by_cases h:j<=ns.length
  ·have e1:(if 0<=(j:Int) then min (j:Int).toNat (List.map D.int ns).length else ((j:Int)+(List.map D.int ns).length).toNat)=j:=by
    rw[if_pos (Int.natCast_nonneg j)]; simp; omega
   rw[e1];by_cases h2:j=ns.length
   ·subst h2; simp
   ·have e2:(if 0<=(j:Int)+1 then min ((j:Int)+1).toNat (List.map D.int ns).length else ((j:Int)+1+(List.map D.int ns).length).toNat)=j+1:=by
     rw[if_pos (by omega)]; simp; omega
    rw[e2];simp[List.map_take,List.map_drop]
  ·have h':ns.length<=j:=by omega
   have e1:(if 0<=(j:Int) then min (j:Int).toNat (List.map D.int ns).length else ((j:Int)+(List.map D.int ns).length).toNat)=ns.length:=by
    rw[if_pos (Int.natCast_nonneg j)]; simp; omega
   rw[e1,List.drop_of_length_le (by simp),List.drop_of_length_le h'];simp
 have hl:((ns.drop j).take 1).length+1<=SL:=by
  have:((ns.drop j).take 1).length<=1:=by simp; omega
  have:(2:Nat)<=SL:=by decide
  omega
 have s1:(1:Nat)<=SL:=by decide
 have s2:(2:Nat)<=SL:=by decide
 cases e:(ns.drop j).take 1 with
 | nil=>
  have:ns.getD j 0=0:=by
   rw[List.getD_eq_getElem?_getD];have:ns[j]? = none:=by
    rw[<-List.head?_drop]; cases q:ns.drop j <;> simp[q] at e ⊢ <;> assumption
   rw[this]; rfl
  rw[e] at c;simp[kW,c,bO,this,s1];rw[<-List.getD_eq_getElem?_getD]; exact this.symm
 | cons x r=>
  have hr:r=[]:=by
   have:((ns.drop j).take 1).length<=1:=by simp; omega
   rw[e] at this;cases r with
   | nil=>rfl
   | cons=>simp at this
  subst hr;have:ns.getD j 0=x:=by
   rw[List.getD_eq_getElem?_getD];have:ns[j]? = some x:=by
    rw[<-List.head?_drop]; cases q:ns.drop j <;> simp[q] at e ⊢ <;> assumption
   rw[this]; rfl
  rw[e] at c;have this':ns[j]?.getD 0=x:=by rw[<-List.getD_eq_getElem?_getD]; exact this
  simp[kW,c,bO,this',s2]
end Ip
end
section
namespace Ip
open PySem (Str)
structure Pc (G:Pg):Prop where
 l:Pl G
 f72:G.fn 72=some kU
theorem um:∀{xs:List Int},xs.Pairwise (· < ·)->cr xs=true
 | [],_=>rfl
 | [x],_=>rfl
 | x::y::r,h=>by
  have ih:=um (List.Pairwise.tail h);have hxy:x<y:=by cases h with | cons h _=>exact h y bM
  unfold cr at ih ⊢;simp at ih ⊢;exact⟨hxy,ih⟩
noncomputable def jG (c:Int):Int:=1+bE c 39373 63
noncomputable def dP (c:Int)(p:Nat):List Nat:=(List.range p).filter fun n=>decide (jG c / (([1,2,4,8,16,32]:List Int).getD n 1) % 2=1)
noncomputable def dq (c:Int)(p:Nat):List Int:=if dP c p=[] then [bE c 48271 p] else (dP c p).map fun (n:Nat)=>(n:Int)
theorem sO {c:Int}{p:Nat}(hp:1<=p):ef p (dq c p)=true:=by
 unfold dq;by_cases h:dP c p=[]
 ·rw[if_pos h];have h0:(0:Int)<p:=by omega
  simp[ef,cr,mx h0,pE h0]
 ·rw[if_neg h];simp only[ef,Bool.and_eq_true];refine⟨⟨by simpa using h,?_⟩,?_⟩
  ·simp[dP];intro x hx;exact .inr hx
  ·refine um ?_;rw[List.pairwise_map];exact (List.pairwise_lt_range.filter _).imp fun h=>by omega
theorem wB (hp:p<=6):(dq c p).length<=6:=by
 unfold dq;by_cases h:dP c p=[]
 ·rw[if_pos h]; simp
 ·rw[if_neg h];have:(dP c p).length<=(List.range p).length:=List.length_filter_le _ _;simp at this ⊢;omega
variable {G:Pg}(P:Pc G)
include P
theorem Ci (n k k':Nat)(c:Int)(p:Nat)(hp:1<=p/\p<=6):run G (n+2) 72 [(k,.int c),(k',.int p)]=.ret 99 (.lst ((dq c p).map .int)) []:=by
 rw[run,P.f72];have i2:dE 2=true:=dU.mpr (by decide);have m1:=hV P.l n 0 99 99 c 39373 63 (by decide) (dU.mpr (by decide));have m2:=hV P.l n 0 99 0 c 48271 p (by omega) (dU.mpr (by decide));have hs:p<=SL:=by
  have:6<=SL:=by decide
  omega
 have eF:dP c p=(List.range p).filter fun n=>decide (jG c / (([1,2,4,8,16,32]:List Int).getD n 1) % 2=1):=rfl;unfold dq;rw[jG] at eF;generalize bE c 39373 63=q at m1 eF;generalize bE c 48271 p=q2 at m2 ⊢;generalize dP c p=F at eF ⊢;have cc:au (compF G (run G (n+1)) [none,none,some (.int (1+q))] (.one 1) [(.op .eq [(.op .mod [(.op .fdiv [(.var 2),(.op .ix [(.op .lst [(.cst (.int (1))),(.cst (.int (2))),(.cst (.int (4))),(.cst (.int (8))),(.cst (.int (16))),(.cst (.int (32)))]),(.var 1)])]),(.cst (.int (2)))]),(.cst (.int (1)))])] (.var 1)) ((List.range p).map fun (n:Nat)=>D.int n)=.ok (F.map fun (n:Nat)=>((0:Nat),D.int n)):=by
  rw[eF];refine oE fun i hi=>?_;have:i<6:=by have:=List.mem_range.mp hi; omega
  match i,this with
  | 0,_=>simp[compF,bO,D.eq]; split <;> rfl
  | 1,_=>simp[compF,bO,D.eq]; split <;> rfl
  | 2,_=>simp[compF,bO,D.eq]; split <;> rfl
  | 3,_=>simp[compF,bO,D.eq]; split <;> rfl
  | 4,_=>simp[compF,bO,D.eq]; split <;> rfl
  | 5,_=>simp[compF,bO,D.eq]; split <;> rfl
 have hj:aB (F.map fun (n:Nat)=>((0:Nat),D.int n))=98:=k6 fun x hx=>by
  obtain⟨c,_,rfl⟩:=c9 hx;simp
 clear eF;by_cases h:F=[]
 ·subst h;simp[kU,P.l.f71,df,i2,m1,m2,wk_rng1 hs,hs,cc,D.eq,D.eqs]
 ·have:D.eqs (List.map (fun (x:Nat)=>D.int x) F) []=false:=by
   cases F with
   | nil=>exact absurd rfl h
   | cons=>rfl
  simp[kU,P.l.f71,df,i2,m1,m2,wk_rng1 hs,hs,cc,hj,h,D.eq,Function.comp_def,this]
end Ip
end
section
namespace Ip
noncomputable def ay (cs:List (List Int))(g:Nat):List Int:=cs.getD g []
noncomputable def aO (cs:List (List Int))(j:Nat)(gs:List Nat):List Nat:=gs.filter fun g=>decide ((j:Int)∈ay cs g)
theorem wZ (cs:List (List Int))(j:Nat)(A B:List Nat):aO cs j (A++B)=aO cs j A++aO cs j B:=by simp[aO]
theorem uJ (cs:List (List Int))(j g:Nat)(B:List Nat):aO cs j (g::B)=if (j:Int)∈ay cs g then g::aO cs j B else aO cs j B:=by
 unfold aO;rw[List.filter_cons];by_cases h:(j:Int)∈ay cs g <;> simp[h]
noncomputable def ac (cs:List (List Int))(p:Nat)(gs:List Nat):List (List Nat):=(List.range p).map fun j=>aO cs j gs
theorem gg (cs:List (List Int))(p:Nat)(gs:List Nat):(ac cs p gs).length=p:=by simp[ac]
theorem Av (h:j<p):(ac cs p gs).getD j []=aO cs j gs:=by simp[ac,h]
structure Cv (p:Nat)(cs:List (List Int)):Prop where
 p1:1<=p
 p6:p<=6
 m1:1<=cs.length
 m6:cs.length<=6
 ne:∀g,g<cs.length->ay cs g≠[]
 rg:∀g,∀i∈ay cs g,0<=i/\i<p
 nd:∀g,(ay cs g).Nodup
 ln:∀g,(ay cs g).length<=6
structure Wn (cs:List (List Int))(gs:List Nat):Prop where
 nd:gs.Nodup
 lt:∀g∈gs,g<cs.length
theorem pM {gs:List Nat}{m:Nat}(h1:gs.Nodup)(h2:∀g∈gs,g<m):gs.length<=m:=by
 induction m generalizing gs with
 | zero=>
  cases gs with
  | nil=>exact bb _
  | cons x r=>exact absurd (h2 x bM) (by omega)
 | succ m ih=>
  have:=ih (h1.erase m) fun x hx=>by
   have:=(h1.mem_erase_iff).mp hx;have:=h2 x this.2;omega
  rw[List.length_erase] at this;split at this <;> omega
theorem Wn.len {p:Nat}{cs:List (List Int)}{gs:List Nat}(C:Cv p cs)(w:Wn cs gs):gs.length<=6:=bK (pM w.nd w.lt) C.m6
theorem pY (h:g∈(ac cs p gs).flatten):g∈gs:=by
 obtain⟨r,hr,hg⟩:=List.mem_flatten.mp h;obtain⟨j,_,rfl⟩:=c9 hr;exact (List.mem_filter.mp hg).1
theorem xO (C:Cv p cs)(w:Wn cs gs)(h:g∈gs):g∈(ac cs p gs).flatten:=by
 cases e:ay cs g with
 | nil=>exact absurd e (C.ne g (w.lt g h))
 | cons i c=>
  have hi:i∈ay cs g:=by rw[e]; exact bM
  have rg:=C.rg g i hi;refine List.mem_flatten.mpr ⟨aO cs i.toNat gs,List.mem_map.mpr ⟨i.toNat,List.mem_range.mpr (by omega),rfl⟩,List.mem_filter.mpr ⟨h,decide_eq_true ?_⟩⟩;rw[Int.toNat_of_nonneg rg.1]; exact hi
theorem F6:∀p:Nat,(ac cs p gs).flatten.length<=p * gs.length:=fun p=>by
 have:∀l:List Nat,(l.map fun j=>aO cs j gs).flatten.length<=l.length * gs.length:=by
  intro l;induction l with
  | nil=>simp
  | cons x l ih=>
   have h1:(aO cs x gs).length<=gs.length:=List.length_filter_le _ _;rw[List.map_cons,List.flatten_cons,List.length_append,List.length_cons,Nat.add_mul,Nat.one_mul];omega
 simpa[ac] using this (List.range p)
theorem Wn.fl (C:Cv p cs)(w:Wn cs gs):(ac cs p gs).flatten.length<=36:=
 bK (F6 p) (Nat.mul_le_mul C.p6 (w.len C))
theorem Wn.f6 (C:Cv p cs)(w:Wn cs gs):∀g∈(ac cs p gs).flatten,g<6:=fun g h=>by
 have:=w.lt g (pY h);have:=C.m6;omega
theorem Wn.srt (C:Cv p cs)(w:Wn cs gs):am (ac cs p gs).flatten=am gs:=by
 unfold am;refine List.filter_congr fun g _=>?_;rw[Bool.eq_iff_iff];simp only[List.contains_iff_mem];exact⟨pY,xO C w⟩
theorem Wn.mS (C:Cv p cs)(w:Wn cs gs)(g:Nat):g∈am gs↔g∈gs:=by
 constructor
 ·intro h; simpa using (List.mem_filter.mp h).2
 ·intro h;have:=w.lt g h;have:=C.m6;exact (qg (by omega)).mpr h
theorem vA (C:Cv p cs)(h1:∀j:Nat,(j:Int)∈ay cs g->f (aO cs j gs)=aO cs j gs')(h2:∀j:Nat,(j:Int)∉ay cs g->aO cs j gs=aO cs j gs'):bu f (ay cs g) (ac cs p gs)=ac cs p gs':=by
 rw[zR (C.nd g) fun i hi=>by rw[gg]; exact C.rg g i hi];refine List.ext_getElem? fun j=>?_;rw[List.getElem?_mapIdx];unfold ac;rw[List.getElem?_map,List.getElem?_map];by_cases hj:j<p
 ·rw[List.getElem?_range hj];simp only[Option.map_some];by_cases h:(j:Int)∈ay cs g
  ·rw[if_pos h,h1 j h]
  ·rw[if_neg h,h2 j h]
 ·rw[List.getElem?_eq_none (by simp; omega)];rfl
theorem uY (C:Cv p cs):fH (ay cs g) g (ac cs p gs)=ac cs p (gs++[g]):=by
 rw[BS];refine vA C (fun j hj=>?_) fun j hj=>?_
 ·rw[wZ,uJ,if_pos hj]; rfl
 ·rw[wZ,uJ,if_neg hj]; exact (List.append_nil _).symm
noncomputable def gy (l:List Nat)(g:Nat):List Nat:=(l.drop (l.idxOf g+1)).take 1
noncomputable def cV (cs:List (List Int))(gs:List Nat)(g:Nat)(i:Int):List Nat:=gy (aO cs i.toNat gs) g
noncomputable def cg (cs:List (List Int))(gs:List Nat)(g:Nat):List Nat:=((ay cs g).map (cV cs gs g)).flatten
theorem Ae (h:x∈cV cs gs g i):x∈gs:=(List.mem_filter.mp (List.mem_of_mem_drop (List.mem_of_mem_take h))).1
theorem sD (h:x∈cg cs gs g):x∈gs:=by
 obtain⟨l,hl,hx⟩:=List.mem_flatten.mp h;obtain⟨i,_,rfl⟩:=c9 hl;exact Ae hx
theorem nQ (cs:List (List Int))(gs:List Nat)(g:Nat)(i:Int):(cV cs gs g i).length<=1:=by unfold cV gy; simp; omega
theorem DU {g:Nat}{A B:List Nat}(h:g∉A):(A++g::B).idxOf g=A.length:=by
 rw[List.idxOf_append,if_neg h,List.idxOf_cons_self,Nat.zero_add]
theorem BU {g:Nat}{A B:List Nat}(h:g∉A):gy (A++g::B) g=B.take 1:=by
 unfold gy;rw[DU h];have:A++g::B=(A++[g])++B:=by simp
 rw[this,show A.length+1=(A++[g]).length by simp,List.drop_left]
theorem uf {cs:List (List Int)}{gs:List Nat}{g j:Nat}(w:gs.Nodup)(hg:g∈gs)(ho:cg cs gs g=[])(hj:(j:Int)∈ay cs g):∃r,aO cs j gs=r++[g]/\g∉r:=by
 have hgf:g∈aO cs j gs:=List.mem_filter.mpr ⟨hg,decide_eq_true hj⟩;obtain⟨A,B,e⟩:=List.append_of_mem hgf;have nd:(aO cs j gs).Nodup:=w.filter _;rw[e] at nd;have hA:g∉A:=fun z=>(List.nodup_append.mp nd).2.2 g z g (by simp) rfl;have hn:cV cs gs g (j:Int)=[]:=by
  have:=List.flatten_eq_nil_iff.mp ho (cV cs gs g (j:Int)) (List.mem_map.mpr ⟨_,hj,rfl⟩);exact this
 unfold cV at hn;rw[Int.toNat_natCast,e,BU hA] at hn;cases B with
 | nil=>exact⟨A,e,hA⟩
 | cons b B=>cases hn
noncomputable def rmv (g:Nat)(gs:List Nat):List Nat:=gs.filter fun x=>decide (x≠g)
theorem Wn.rmv (w:Wn cs gs)(g:Nat):Wn cs (rmv g gs):=⟨w.nd.filter _,fun x h=>w.lt x (List.mem_filter.mp h).1⟩
theorem wc (C:Cv p cs)(w:gs.Nodup)(hg:g∈gs)(ho:cg cs gs g=[]):bu List.dropLast (ay cs g) (ac cs p gs)=ac cs p (rmv g gs):=by
 have sw:∀j,aO cs j (rmv g gs)=(aO cs j gs).filter fun x=>decide (x≠g):=fun j=>by unfold aO rmv; rw[List.filter_filter,List.filter_filter]; congr 1; funext x; rw[Bool.and_comm]
 refine vA C (fun j hj=>?_) fun j hj=>?_
 ·obtain⟨r,e,hr⟩:=uf w hg ho hj;rw[sw,e,List.dropLast_concat,List.filter_append];have f1:r.filter (fun x=>decide (x≠g))=r:=List.filter_eq_self.mpr fun x hx=>decide_eq_true fun e=>hr (e ▸ hx);rw[f1]; simp
 ·rw[sw];refine (List.filter_eq_self.mpr fun x hx=>?_).symm;have hxc:(j:Int)∈ay cs x:=of_decide_eq_true (List.mem_filter.mp hx).2;have:x≠g:=fun e=>hj (e ▸ hxc);simpa using this
theorem lJ (xs:List α)(a:Nat)(h:a<=xs.length):cutD xs (some (a:Int)) (some ((a:Int)+1))=(xs.drop a).take 1:=by
 have s1:cR xs.length 0 (some (a:Int))=a:=by
  simp only[cR]; rw[if_pos (by omega)]; omega
 have s2:cR xs.length xs.length (some ((a:Int)+1))=min (a+1) xs.length:=by
  simp only[cR]; rw[if_pos (by omega)]; omega
 unfold cutD;rw[s1,s2];by_cases e:a=xs.length
 ·subst e; simp
 ·rw[show min (a+1) xs.length - a=1 by omega]
theorem rP:∀{os:List Nat},g∈os->D.find (.int g) (ah os)=some (os.idxOf g)
 | [],h=>by cases h
 | x::os,h=>by
  have e0:D.find (.int g) (ah (x::os))=if (D.int (Int.ofNat x)).eq (.int g) then some 0 else (D.find (.int g) (ah os)).map (·+1):=by
   unfold D.find ah;rw[List.map_cons,List.findIdx?_cons]
  rw[e0];by_cases hx:x=g
  ·subst hx;simp[D.eq]
  ·have h1:¬(x:Int)=(g:Int):=by omega
   have h2:=rP (os:=os) ((cz h).resolve_left fun e=>hx e.symm);have h3:(x == g)=false:=beq_eq_false_iff_ne.mpr hx;rw[h2,List.idxOf_cons,h3];simp[D.eq,h1]
theorem yc {cs:List (List Int)}{p j:Nat}{O:List Nat}(h:j<p):aJ (aC (ac cs p O)) (.int (j:Nat))=some (0,rowD (aO cs j O)):=by
 have h':(j:Int)<p:=by omega
 simp[aC,aJ,bO,ac,h',h]
theorem Cv.at (h:g<cs.length):cs[g]? = some (ay cs g):=by simp[ay,h]
theorem qp (C:Cv p cs)(w:Wn cs gs):am (cg cs gs g)=[]↔cg cs gs g=[]:=by
 constructor
 ·intro h;cases e:cg cs gs g with
  | nil=>rfl
  | cons x l=>
   have hx:x∈cg cs gs g:=by rw[e]; exact bM
   have:=w.lt x (sD hx);have:=(qg (show x<6 by have:=C.m6; omega)).mpr hx;rw[h] at this; cases this
 ·intro h; rw[h]; rfl
structure P5 (G:Pg):Prop where
 v:Pv G
 c:Pc G
 f28:G.fn 28=some nv
 f29:G.fn 29=some mH
 f7:G.fn 7=some jW
 c0:G.cl 0=some ⟨none,[],[],true⟩
 c5:G.cl 5=some ⟨(some 7),[],[0],true⟩
variable {G:Pg}(P:P5 G)
include P
theorem mV (n k:Nat)(p:Nat)(cs:List (List Int))(gs:List Nat)(C:Cv p cs)(w:Wn cs gs):run G (n+1) 24 [(k,aC (ac cs p gs))]=.ret 1 (.lst (ah (am gs))) []:=by
 have:=tH P.v n k (ac cs p gs) (by rw[gg]; exact C.p6) (by have:=w.fl C; omega) (w.f6 C);rw[w.srt C] at this;exact this
theorem yv (n k k' k'':Nat)(p:Nat)(cs:List (List Int))(gs:List Nat)(g:Nat)(C:Cv p cs)(w:Wn cs gs)(hg:g<cs.length)(hn:g∉gs):∃j,run G (n+6) 25 [(k,wd p cs),(k',aC (ac cs p gs)),(k'',.int g)]=.ret j (aC (ac cs p (gs++[g]))) []:=by
 have hfl:=w.fl C;have:=E8 P.v n k k' k'' p cs (ac cs p gs) g (ay cs g) (Cv.at hg) (fun i hi=>by rw[gg]; exact C.rg g i hi) (by rw[gg]; exact C.p6) (C.ln g) (by omega) (w.f6 C) (by have:=C.m6; omega) fun z=>hn (pY z);rw[uY C] at this;exact this
theorem nH (n k k' k'':Nat)(p:Nat)(cs:List (List Int))(gs:List Nat)(g:Nat)(C:Cv p cs)(w:Wn cs gs)(hg:g∈gs):run G (n+6) 26 [(k,wd p cs),(k',aC (ac cs p gs)),(k'',.int g)]=.ret 1 (.lst (ah (am (cg cs gs g)))) []:=by
 have hgl:=w.lt g hg;have hb:isB cs.length (.int g)=true:=by simp[isB,hgl]
 have q1:=mY P.v.a (n+1) 0 0 p cs (.int g) hb;have q2:=mV P (n+4) 0 p cs gs C w;have q3:=qS P.v.a n 0 0 p cs g _ (Cv.at hgl);have hm:D.memb (.int g) (ah (am gs))=true:=by rw[j9]; simp[w.mS C g,hg]
 have hsc:=fk (am gs);have hS:(ay cs g).length<=SL:=bK (C.ln g) (by decide);have h100:100<=SL:=by decide
 have hrg:=C.rg g;have hln:=C.ln g;have h6:∀x∈cg cs gs g,x<6:=fun x hx=>by
  have:=w.lt x (sD hx);have:=C.m6;omega
 unfold cg at h6 ⊢;have hcv:∀i∈ay cs g,i∈ay cs g:=fun i h=>h;generalize hC:ay cs g=c at q3 hS h6 hrg hln;obtain⟨x,e,rfl⟩:=Ou.runE (G:=G) (n:=n+5) (f:=26) (F:=fR) (vs:=[(k,wd p cs),(k',aC (ac cs p gs)),(k'',.int g)]) (init:=fR.body.dropLast) (e:=.op .srtSet [(.var 3)]) (P:=fun x=>x=(1,.lst (ah (am (c.map (cV cs gs g)).flatten)))) P.v.f26 rfl rfl rfl (fun _ h=>nomatch h) (by
  show Ou G (run G (n+5)) [] [some (0,wd p cs),some (0,aC (ac cs p gs)),some (0,.int g),none,none,none,none] _ _ _ _;refine Ou.ex (x:=(99,.non)) (by simp[P.v.a.f17,gA,q1]) ?_;refine Ou.iffN (j:=99) (by
   simp only[Fr.sl,cj,bj,bB,iT,kK];simp[-List.all_eq_true,P.v.f24,gZ,q2,hm,hsc]) ?_
  refine Ou.setK (x:=(99,.lst [])) (by simp) (by simp) rfl (by simp) ?_;refine Ou.low (a':=[some (0,wd p cs),some (0,aC (ac cs p gs)),some (0,.int g),some (1,.lst (ah [])),none,none,none]) (.cons (.refl _) (.cons (.refl _) (.cons (.refl _) (.cons ⟨rfl,by decide⟩ (.cons trivial (.cons trivial (.cons trivial .nil))))))) ?_;refine Ou.fo (fun r a=>∃(x4 x5 x6:Option KD) (pre suf:List Int),a=[some (0,wd p cs),some (0,aC (ac cs p gs)),some (0,.int g),some (1,.lst (ah (pre.map (cV cs gs g)).flatten)),x4,x5,x6]/\r=suf.map .int/\pre++suf=c) (vs:=[(1,.lst (c.map .int))]) (xs:=c.map .int) (by simp[qh P.v.a,iz,q3]) (by simp) (by simpa using hS) ⟨none,none,none,[],c,by simp,rfl,rfl⟩ ?_ ?_
  ·rintro x r a ⟨x4,x5,x6,pre,suf,ha,hr,he⟩;cases suf with
   | nil=>simp at hr
   | cons s suf=>
    simp only[List.map_cons,List.cons.injEq] at hr;obtain⟨rfl,rfl⟩:=hr;subst ha;have hs:s∈c:=by rw[<-he]; simp
    have rg:=hrg s hs;obtain⟨j,rfl⟩:∃j:Nat,s=(j:Int):=⟨s.toNat,by omega⟩
    have ix:=yc (cs:=cs) (O:=gs) (show j<p by omega);have hgf:g∈aO cs j gs:=List.mem_filter.mpr ⟨hg,decide_eq_true (by rw[hC]; exact hs)⟩;have sc:=fk (aO cs j gs);have id':cq (rowD (aO cs j gs)) (.int g)=some (99,.int ((aO cs j gs).idxOf g:Nat)):=by
     rw[rowD,uu,rP hgf];simp[-List.all_eq_true,sc]
    have hlt:=List.idxOf_lt_length_of_mem hgf;have eo:cV cs gs g (j:Int)=((aO cs j gs).drop ((aO cs j gs).idxOf g+1)).take 1:=by unfold cV gy; rw[Int.toNat_natCast]
    have ct:aW (some (((aO cs j gs).idxOf g:Int)+1)) (some (((aO cs j gs).idxOf g:Int)+1+1)) (rowD (aO cs j gs))=some (0,.tup (ah (cV cs gs g (j:Int)))):=by
     have:=lJ (ah (aO cs j gs)) ((aO cs j gs).idxOf g+1) (by rw[d7]; omega);simp only[Int.natCast_add,Int.natCast_one] at this;simp only[rowD,aW,this,eo];simp[ah,List.map_take,List.map_drop]
    have hol:=nQ cs gs g (j:Int);have hpl:(pre.map (cV cs gs g)).flatten.length<=6:=by
     have h1:∀l:List Int,(l.map (cV cs gs g)).flatten.length<=l.length:=by
      intro l;induction l with
      | nil=>simp
      | cons x l ih=>
       have:=nQ cs gs g x;rw[List.map_cons,List.flatten_cons,List.length_append,List.length_cons];omega
     have:=h1 pre;have:=congrArg List.length he;simp at this;omega
    generalize rowD (aO cs j gs)=row at ix id' ct;generalize (aO cs j gs).idxOf g=dd at id' ct;generalize hO:cV cs gs g (j:Int)=oo at ct hol;have sco:=fk oo;refine⟨_,i3 rfl (by simp),?_⟩;refine Ou.set (x:=(0,row)) (by simp[-aJ,ix]) rfl (by simp) ?_;refine Ou.set (x:=(99,.int ((dd:Int)+1))) (by simp[id']) rfl (by simp) ?_;refine Ou.extend (k:=0) (j:=0) (xs:=ah (pre.map (cV cs gs g)).flatten) (ys:=ah oo) (by simp) (by simp[-aW,ct]) sco (by rw[d7,d7]; omega) ?_;exact Ou.nil ⟨some (0,.int (j:Nat)),some (0,row),some (0,.int ((dd:Int)+1)),pre++[(j:Int)],suf,by simp[ah,hO],rfl,by simpa using he⟩
  ·rintro a ⟨x4,x5,x6,pre,suf,ha,hr,he⟩;have:suf=[]:=by simpa using hr.symm
   subst this ha;rw[List.append_nil] at he;subst he;exact Ou.nil ⟨(1,.lst (ah (am (pre.map (cV cs gs g)).flatten))),by simp[o8 h6],rfl⟩)
 exact e
theorem DR (n k k' k'':Nat)(p:Nat)(cs:List (List Int))(gs:List Nat)(g:Nat)(C:Cv p cs)(w:Wn cs gs)(hg:g∈gs)(ho:cg cs gs g=[]):∃j,run G (n+7) 27 [(k,wd p cs),(k',aC (ac cs p gs)),(k'',.int g)]=.ret j (aC (ac cs p (rmv g gs))) []:=by
 have q1:=nH P n 0 0 0 p cs gs g C w hg;rw[ho] at q1;have e0:ah (am [])=[]:=rfl;rw[e0] at q1;have q3:=qS P.v.a (n+1) 0 0 p cs g _ (Cv.at (w.lt g hg));have hS:(ay cs g).length<=SL:=bK (C.ln g) (by decide);rw[<-wc C w.nd hg ho];have hpl:∀i∈ay cs g,0<=i/\i<(ac cs p gs).length:=fun i hi=>by rw[gg]; exact C.rg g i hi
 generalize ac cs p gs=rows at q1 hpl;generalize ay cs g=c at q3 hS hpl;have key:Ou G (run G (n+6)) [] [some (0,wd p cs),some (0,aC rows),some (0,.int g),none,none,none] ky.body (fun _=>False) (fun d=>d=aC (bu List.dropLast c rows)) fun _ _ _=>False:=by
  refine Ou.set (x:=(1,.lst [])) (by simp[P.v.f26,fR,q1]) rfl (by simp) ?_;refine Ou.iffN (j:=99) (by simp) ?_;refine Ou.setK (x:=(1,.lst (rows.map rowD))) (by simp[aC]) (by simp[nI]) rfl (by simp) ?_;refine Ou.fo (fun r a=>∃(x:Option KD) (rs:List (List Nat)) (suf:List Int),a=[some (0,wd p cs),some (0,aC rows),some (0,.int g),some (0,.lst []),some (1,.lst (rs.map rowD)),x]/\r=suf.map .int/\bu List.dropLast suf rs=bu List.dropLast c rows/\rs.length=rows.length/\(∀i∈suf,0<=i/\i<rows.length)) (vs:=[(1,.lst (c.map .int))]) (xs:=c.map .int) (by simp[qh P.v.a,iz,q3]) (by simp) (by simpa using hS) ?_ ?_ ?_
  ·exact⟨none,rows,c,by simp,rfl,rfl,rfl,hpl⟩
  ·rintro x r a ⟨y,rs,suf,ha,hr,he,hlen,hi⟩;cases suf with
   | nil=>simp at hr
   | cons s suf=>
    simp only[List.map_cons,List.cons.injEq] at hr;obtain⟨rfl,rfl⟩:=hr;subst ha;have hs:0<=s/\s<rs.length:=by rw[hlen]; exact hi s bM
    refine⟨_,i3 rfl (by simp),?_⟩;have ix:=wn hs;have he':bu List.dropLast suf (rs.set s.toNat (rs.getD s.toNat []).dropLast)=bu List.dropLast c rows:=he;generalize rs.getD s.toNat []=row at ix he';have ct:aW none (some (-1)) (rowD row)=some (0,rowD row.dropLast):=by
     simp only[rowD,aW,Cf,wU]
    refine Ou.put (k:=0) (j:=0) (xs:=rs.map rowD) (v:=(0,rowD row.dropLast)) (n:=s) (by simp) ?_ (nI _) (by simp) (by simpa using hs) ?_
    ·simp[-aW,-aJ,ix,ct]
    ·exact Ou.nil ⟨some (0,.int s),rs.set s.toNat row.dropLast,suf,by simp[List.map_set],rfl,he',by simpa using hlen,fun i h=>hi i (bD _ h)⟩
  ·rintro a ⟨y,rs,suf,ha,hr,he,_⟩;have:suf=[]:=by simpa using hr.symm
   subst this ha;have he':rs=bu List.dropLast c rows:=he;subst he';exact Ou.ret (x:=(0,aC (bu List.dropLast c rows))) (by simp[aC]) rfl
 obtain⟨j,d,e,rfl⟩:=Ou.run (n:=n+6) (vs:=[(k,wd p cs),(k',aC rows),(k'',.int g)]) (V:=fun d=>d=aC (bu List.dropLast c rows)) P.v.f27 rfl rfl (key.mono (fun _ h=>h.elim) (fun _ h=>h) fun _ _ _ h=>h);exact⟨j,e⟩
theorem Bx:aY G 5 2=some (7,jW,.exc 5 []):=by
 simp[aY,P.c5,P.f7,jW]
theorem Bn (n k k':Nat)(a b:Int):run G (n+1) 7 [(1,.exc 5 []),(k,.int a),(k',.int b)]=.ret 99 .non [(1,.exc 5 [(2,.int a),(3,.int b)])]:=by
 rw[run,P.f7];simp[jW,bN,aK]
theorem GK (n k k' k'':Nat)(p:Nat)(cs:List (List Int))(gs:List Nat)(g:Nat)(C:Cv p cs)(w:Wn cs gs)(hg:g∈gs)(y:Nat)(t:List Nat)(et:am (cg cs gs g)=y::t):run G (n+7) 27 [(k,wd p cs),(k',aC (ac cs p gs)),(k'',.int g)]=.exc 5 [(2,.int g),(3,.int y)] []:=by
 have q1:=nH P n 0 0 0 p cs gs g C w hg;rw[et] at q1;have hl:(ah (y::t)).length=t.length+1:=by rw[d7]; rfl
 have i0:aJ (.lst (ah (y::t))) (.int 0)=some (0,.int (y:Nat)):=by simp[ah,bO]
 have q2:=Bn P (n+5) 0 0 (g:Nat) (y:Nat);obtain⟨c,fs,e,h1,h2⟩:=Ou.runX (n:=n+6) (vs:=[(k,wd p cs),(k',aC (ac cs p gs)),(k'',.int g)]) (X:=fun c fs=>c=5/\fs=[(2,.int g),(3,.int (y:Nat))]) P.v.f27 rfl rfl (by
  show Ou G (run G (n+6)) [] [some (0,wd p cs),some (0,aC (ac cs p gs)),some (0,.int g),none,none,none] _ _ _ _;refine Ou.set (x:=(1,.lst (ah (y::t)))) (by simp[P.v.f26,fR,q1]) rfl (by simp) ?_;refine Ou.iffT (j:=99) (by simp[hl]) ?_;generalize D.lst (ah (y::t))=YY at i0;exact Ou.rais (j:=0) (fs:=[(2,.int g),(3,.int (y:Nat))]) (by simp[-aJ,Bx P,i0,jW,q2]) ⟨rfl,rfl⟩)
 rw[e,h1,h2]
end Ip
end
section
namespace Ip
open PySem (Str)
noncomputable def cU (cs:List (List Int))(gs:List Nat):List Nat:=(am gs).filter fun g=>(cg cs gs g).isEmpty
theorem Ah (C:Cv p cs)(w:Wn cs gs):(am gs).length=gs.length:=by
 have nd:(am gs).Nodup:=List.nodup_range.filter _;exact ((List.perm_ext_iff_of_nodup nd w.nd).mpr fun g=>w.mS C g).length_eq
noncomputable def seenD (r:List Nat):D:=match r.getLast? with
 | some g=>.int (g:Nat)
 | none=>.non
theorem jn:∀(n:Nat) (d:D),d.pur n=true->d.eq d=true
 | n,.non,_=>by simp[D.eq]
 | n,.bl b,_=>by simp[D.eq]
 | n,.int i,_=>by simp[D.eq]
 | n,.str s,_=>by simp[D.eq]
 | 0,.lst xs,h=>by cases h
 | 0,.tup xs,h=>by cases h
 | n,.ins _ _,h=>by cases n <;> cases h
 | n,.exc _ _,h=>by cases n <;> cases h
 | n+1,.lst xs,h=>by
  rw[sK] at h;simp only[D.eq];induction xs with
  | nil=>simp[D.eqs]
  | cons x xs ih=>
   simp only[List.all_cons,Bool.and_eq_true] at h;simp[D.eqs,jn n x h.1,ih h.2]
 | n+1,.tup xs,h=>by
  rw[xP] at h;simp only[D.eq];induction xs with
  | nil=>simp[D.eqs]
  | cons x xs ih=>
   simp only[List.all_cons,Bool.and_eq_true] at h;simp[D.eqs,jn n x h.1,ih h.2]
section
variable {G:Pg}(P:P5 G)
include P
theorem yT (n k k':Nat)(p:Nat)(cs:List (List Int))(gs:List Nat)(C:Cv p cs)(w:Wn cs gs):run G (n+7) 28 [(k,wd p cs),(k',aC (ac cs p gs))]=.ret 99 (.lst (ah (cU cs gs))) []:=by
 have q2:=mV P (n+5) 0 p cs gs C w;have h100:100<=SL:=by decide
 have lS:(ah (am gs)).length<=SL:=by rw[d7,Ah C w]; have:=w.len C; omega
 have cc:au (compF G (run G (n+6)) [none,none,some (wd p cs),some (aC (ac cs p gs))] (.one 1) [(.op .eq [(.op .len [(.call 26 [(.var 2),(.var 3),(.var 1)])]),(.cst (.int (0)))])] (.var 1)) (ah (am gs))=.ok ((cU cs gs).map fun a=>(0,.int (a:Nat))):=by
  refine oE (e:=fun a:Nat=>D.int (Int.ofNat a)) fun a ha=>?_;have haG:=(w.mS C a).mp ha;have qs:=nH P n 0 0 0 p cs gs a C w haG;have hi:=qp (g:=a) C w;generalize aC (ac cs p gs)=WW at qs;generalize wd p cs=WD at qs;cases hq:cg cs gs a with
  | nil=>
   rw[hi.mpr hq] at qs;simp[compF,P.v.f26,fR,qs,D.eq,ah]
  | cons u us=>
   cases hs:am (cg cs gs a) with
   | nil=>rw[hi.mp hs] at hq; cases hq
   | cons y t=>
    rw[hs] at qs;have:¬((t.length:Int)+1=0):=by omega
    simp[compF,P.v.f26,fR,qs,D.eq,ah,this]
 have jk:aB ((cU cs gs).map fun a=>((0:Nat),D.int (a:Nat)))=98:=k6 fun x hx=>by
  obtain⟨c,_,rfl⟩:=c9 hx;simp
 rw[run,P.f28];have e:ah (cU cs gs)=(((cU cs gs).map fun a=>((0:Nat),D.int (a:Nat)))).map (·.2):=by simp[ah]
 rw[e];generalize aC (ac cs p gs)=WW at q2 cc;generalize wd p cs=WD at cc;generalize ah (am gs)=LS at q2 cc lS;generalize ((cU cs gs).map fun a=>((0:Nat),D.int (a:Nat)))=ZZ at cc jk;simp[nv,P.v.f24,gZ,q2,lS,cc,jk]
theorem At (n k:Nat)(p:Nat)(cs:List (List Int))(gs:List Nat)(C:Cv p cs):run G (n+1) 29 [(k,aC (ac cs p gs))]=.ret 99 (.lst ((ac cs p gs).map seenD)) []:=by
 have hS:((ac cs p gs).map rowD).length<=SL:=by rw[List.length_map,gg]; exact bK C.p6 (by decide)
 have ew:aC (ac cs p gs)=.tup ((ac cs p gs).map rowD):=rfl;generalize ac cs p gs=rows at hS ew;have cc:au (compF G (run G n) [none,none] (.one 1) [] (.ite (.op .gt [(.op .len [(.var 1)]),(.cst (.int (0)))]) (.op .ix [(.var 1),(.op .neg [(.cst (.int (1)))])]) (.cst .non))) (rows.map rowD)=.ok (rows.map fun r=>((if r=[] then 99 else 0),seenD r)):=by
  refine gB fun r _=>?_;rcases List.eq_nil_or_concat r with e | ⟨A,g,e⟩
  ·subst e; simp[compF,rowD,ah,seenD]
  ·rw[List.concat_eq_append] at e;subst e;have i1:aJ (rowD (A++[g])) (.int (-1))=some (0,.int (g:Nat)):=by
    have hl:(ah (A++[g])).length=A.length+1:=by rw[d7]; simp
    have e1:bO (ah (A++[g])).length (-1)=some A.length:=by rw[uC (by omega),hl]; rfl
    have e2:(ah (A++[g]))[A.length]? = some (.int (g:Nat)):=by simp[ah]
    simp only[rowD,aJ,D.seq,e1,Option.bind_some,e2]
   have ln:dg (fun xs=>some (99,D.int xs.length)) (rowD (A++[g]))=some (99,.int ((A.length:Int)+1)):=by simp[rowD,ah]
   have h0:(0:Int)<(A.length:Int)+1:=by omega
   generalize rowD (A++[g])=RR at i1 ln;simp[-aJ,-dg,compF,i1,ln,h0,seenD]
 have jk:aB (rows.map fun r=>((if r=[] then 99 else 0),seenD r))=98:=k6 fun x hx=>by
  obtain⟨r,_,rfl⟩:=c9 hx;simp only[seenD];split <;> rfl
 rw[run,P.f29,ew];have e:rows.map seenD=(rows.map fun r=>((if r=[] then 99 else 0),seenD r)).map (·.2):=by simp
 rw[e];generalize rows.map rowD=RW at cc hS;generalize (rows.map fun r=>((if r=[] then 99 else 0),seenD r))=ZZ at cc jk;simp[mH,hS,cc,jk]
end
structure P3 (G:Pg):Prop where
 p:P5 G
 f5:G.fn 5=some kz
 f6:G.fn 6=some jZ
 f73:G.fn 73=some iK
 f85:G.fn 85=some gF
 f86:G.fn 86=some lr
 f87:G.fn 87=some gQ
 f83:G.fn 83=some kQ
 f88:G.fn 88=some jY
 f82:G.fn 82=some ko
 f89:G.fn 89=some mR
 f74:G.fn 74=some iX
 f90:G.fn 90=some mQ
 f69:G.fn 69=some lv
 c3:G.cl 3=some ⟨(some 5),[],[0],true⟩
 c4:G.cl 4=some ⟨(some 6),[],[0],true⟩
variable {G:Pg}(P:P3 G)
include P
theorem Ev (n k k':Nat)(d:D)(h:d.scal=true):run G (n+1) 2 [(k,d),(k',.int 0)]=.ret 0 d []:=by
 rw[run,P.p.v.a.f2];cases d <;> simp[mP,D.eq] at h ⊢
theorem FW (n k:Nat)(d:D)(h:d.scal=true):run G (n+2) 4 [(1,.exc 2 []),(k,d)]=.ret 99 .non [(1,.exc 2 [(2,d)])]:=by
 rw[run,P.p.v.a.f4];have q:=Ev P n 0 99 d h;have hf:=rA h;simp[jI,P.p.v.a.f2,mP,q,bN,aK,hf]
theorem Ad (n k:Nat)(g:Int):run G (n+1) 5 [(1,.exc 3 []),(k,.int g)]=.ret 99 .non [(1,.exc 3 [(2,.int g)])]:=by
 rw[run,P.f5];simp[kz,bN,aK]
theorem xG (n k:Nat)(g:Int):run G (n+1) 6 [(1,.exc 4 []),(k,.int g)]=.ret 99 .non [(1,.exc 4 [(2,.int g)])]:=by
 rw[run,P.f6];simp[jZ,bN,aK]
theorem yw:aY G 2 1=some (4,jI,.exc 2 []):=by
 simp[aY,P.p.v.a.c2,P.p.v.a.f4,jI]
theorem Fa:aY G 3 1=some (5,kz,.exc 3 []):=by
 simp[aY,P.c3,P.f5,kz]
theorem A6:aY G 4 1=some (6,jZ,.exc 4 []):=by
 simp[aY,P.c4,P.f6,jZ]
theorem uU (n k k':Nat)(p:Int)(cs:List (List Int))(d:D)(h:isB cs.length d=false)(o:d.scal=true):run G (n+4) 17 [(k,wd p cs),(k',d)]=.exc 2 [(2,d)] []:=by
 rw[run,P.p.v.a.f17];have q:=qE P.p.v.a (n+1) 0 99 d cs.length;have q2:=vv P.p.v.a (n+2) 0 p cs;have q3:=FW P (n+1) 0 d o;rw[h] at q;simp[gA,P.p.v.a.f1,jo,wt P.p.v.a,ja,q2,q,yw P,q3,jI]
theorem Ei (n k k' k'':Nat)(p:Nat)(cs:List (List Int))(w:D)(d:D)(h:isB cs.length d=false)(o:d.scal=true):run G (n+6) 25 [(k,wd p cs),(k',w),(k'',d)]=.exc 2 [(2,d)] []:=by
 have q1:=uU P (n+1) 0 0 p cs d h o;rw[run,P.p.v.f25];simp[jg,P.p.v.a.f17,gA,q1]
theorem vK (n k k' k'':Nat)(p:Nat)(cs:List (List Int))(w:D)(d:D)(h:isB cs.length d=false)(o:d.scal=true):run G (n+6) 26 [(k,wd p cs),(k',w),(k'',d)]=.exc 2 [(2,d)] []:=by
 have q1:=uU P (n+1) 0 0 p cs d h o;rw[run,P.p.v.f26];simp[fR,P.p.v.a.f17,gA,q1]
theorem EO (n k k' k'':Nat)(p:Nat)(cs:List (List Int))(gs:List Nat)(g:Nat)(C:Cv p cs)(w:Wn cs gs)(hg:g∈gs):run G (n+6) 25 [(k,wd p cs),(k',aC (ac cs p gs)),(k'',.int g)]=.exc 3 [(2,.int g)] []:=by
 have hgl:=w.lt g hg;have q1:=mY P.p.v.a (n+1) 0 0 p cs (.int g) (by simp[isB,hgl]);have q2:=mV P.p (n+4) 0 p cs gs C w;have hm:D.memb (.int g) (ah (am gs))=true:=by rw[j9]; simp[w.mS C g,hg]
 have hsc:=fk (am gs);have q4:=Ad P (n+4) 0 g;generalize aC (ac cs p gs)=WW at q2;generalize ah (am gs)=NS at q2 hm hsc;rw[run,P.p.v.f25];simp[-List.all_eq_true,jg,P.p.v.a.f17,gA,q1,P.p.v.f24,gZ,q2,hm,hsc,Fa P,kz,q4]
theorem tX (n k k' k'':Nat)(p:Nat)(cs:List (List Int))(gs:List Nat)(g:Nat)(C:Cv p cs)(w:Wn cs gs)(hgl:g<cs.length)(hg:g∉gs):run G (n+6) 26 [(k,wd p cs),(k',aC (ac cs p gs)),(k'',.int g)]=.exc 4 [(2,.int g)] []:=by
 have q1:=mY P.p.v.a (n+1) 0 0 p cs (.int g) (by simp[isB,hgl]);have q2:=mV P.p (n+4) 0 p cs gs C w;have hm:D.memb (.int g) (ah (am gs))=false:=by rw[j9]; simp[w.mS C g,hg]
 have hsc:=fk (am gs);have q4:=xG P (n+4) 0 g;generalize aC (ac cs p gs)=WW at q2;generalize ah (am gs)=NS at q2 hm hsc;rw[run,P.p.v.f26];simp[-List.all_eq_true,fR,P.p.v.a.f17,gA,q1,P.p.v.f24,gZ,q2,hm,hsc,A6 P,jZ,q4]
theorem vw (n k k' k'' c:Nat)(p:Nat)(cs:List (List Int))(w d:D)(fs:List (Nat×D))(q:∀k k' k'',run G (n+6) 26 [(k,wd p cs),(k',w),(k'',d)]=.exc c fs []):run G (n+7) 27 [(k,wd p cs),(k',w),(k'',d)]=.exc c fs []:=by
 rw[run,P.p.v.f27];simp[ky,P.p.v.f26,fR,q 0 0 0]
end Ip
end
section
namespace Ip
open PySem (Str)
noncomputable def aM (rows:List (List Nat)):D:=.lst (rows.map fun r=>.lst (ah r))
theorem pS {cs:List (List Int)}{p j:Nat}{O:List Nat}(h:j<p):aJ (aM (ac cs p O)) (.int (j:Nat))=some (0,.lst (ah (aO cs j O))):=by
 have h':(j:Int)<p:=by omega
 simp[aM,aJ,bO,ac,h',h]
theorem CW {rs:List (List Nat)}{i:Int}(h:0<=i/\i<rs.length):((rs.map fun r=>D.lst (ah r))[i.toNat]? : Option D)=some (.lst (ah (rs.getD i.toNat []))):=by
 have h2:i.toNat<rs.length:=by omega
 simp[h2]
theorem RelF.at {A a:Fr}(r:RelF A a){x k:Nat}{d:D}(h:a[x]? = some (some (k,d))):∃j,A[x]? = some (some (j,d)):=by
 rcases r.get x with ⟨_,e2⟩ | ⟨y,z,e1,e2,q⟩
 ·rw[e2] at h; cases h
 ·rw[e2] at h;cases h;cases y with
  | none=>exact q.elim
  | some y=>
   obtain⟨j,d'⟩:=y;obtain⟨q1,q2⟩:=q;have q1':d'=d:=q1;subst q1';exact⟨j,e1⟩
section
variable {G:Pg}{cl:Nat->List KD->Run}{io:List Nat}{a:Fr}{ss:List S}{N:Fr->Prop}{V:D->Prop}{X:Nat->List (Nat×D)->Fr->Prop}
theorem Ou.extendL (hx:a[x]? = some (some (k+1,.lst xs)))(he:eval G cl a.sl e=.ok (j+1,.lst ys))(hs:ys.all D.scal=true)(hl:xs.length+ys.length<=SL)(h:Ou G cl io (a.set x (some (1,.lst (xs++ys)))) ss N V X) :
  Ou G cl io a (.mut x [] .extend [e]::ss) N V X:=
 .step fun A r=>by
  obtain⟨k',hA⟩:=r.own hx;have e1:bL A[x]? = true:=by rw[hA]; rfl
  have e2:([(j+1,D.lst ys)]:List KD).all (fun v=>v.2.fb v.1)=true:=by simp only[List.all_cons,List.all_nil,Bool.and_true]; exact uj j hs
  have e3:0<j+1/\ys.all D.scal=true/\xs.length+ys.length<=SL:=⟨Nat.succ_pos j,hs,hl⟩
  simp only[nn,e1,if_true,bB,bj,r.sl,he,R.bind,R.toO,en,e2,hA,fJ,qA,if_pos e3];exact⟨_,r.set (.refl _) x,h⟩
theorem Ou.nest {x i k kn:Nat}{j:Option Nat}{ds ys zs:List D}{n:Int}(hx:a[x]? = some (some (k+2,.lst ds)))(hi:a[i]? = some (some (kn,.int n)))(hn:0<=n)(hd:ds[n.toNat]? = some (.lst ys))(hs:ys.all D.scal=true)(hz:∀A,RelF A a->cY A ys j=some zs)
  (h:Ou G cl io (a.set x (some (2,.lst (ds.set n.toNat (.lst zs))))) ss N V X):Ou G cl io a (.nest x i j::ss) N V X:=
 .step fun A r=>by
  obtain⟨k',hA⟩:=r.own2 hx;obtain⟨ki,hI⟩:=r.at hi;have e:cH A x i j=some (A.set x (some (k'+2,.lst (ds.set n.toNat (.lst zs))))):=by
   unfold cH;rw[hA,hI];simp only[g9,gK,hn,if_true,Option.bind_some,hd,D.lstO,hs,hz A r,Option.map_some]
  rw[rL,e];exact⟨_,r.set (x:=some (k'+2,.lst (ds.set n.toNat (.lst zs)))) (y:=some (2,.lst (ds.set n.toNat (.lst zs)))) ⟨rfl,by omega⟩ x,h⟩
end
inductive Wrd where
 | on | off | ov
noncomputable def wS:Wrd->D
 | .on=>.str "on"
 | .off=>.str "off"
 | .ov=>.str "over"
noncomputable def Wrd.isOn:Wrd->Bool
 | .on=>true
 | _=>false
noncomputable def Wrd.isOff:Wrd->Bool
 | .off=>true
 | _=>false
theorem nU (w:Wrd):(wS w).pur 60=true:=by cases w <;> decide +kernel
theorem eB (h1:x.pur 60=true)(h2:y.pur 60=true)(h:x.eq y=b)(n:Bool):bg n x y=some (99,.bl (if n then !b else b)):=by
 simp only[bg,h1,h2,Bool.and_self,if_true,h,fB]
theorem pi (w:Wrd):bg false (wS w) (.str "on")=some (99,.bl w.isOn):=eB (nU w) (nU .on) (by cases w <;> decide +kernel) false
theorem si (w:Wrd):bg false (wS w) (.str "off")=some (99,.bl w.isOff):=eB (nU w) (nU .off) (by cases w <;> decide +kernel) false
variable {G:Pg}(P:P3 G)
include P
theorem qM (n k k' k'':Nat)(p:Nat)(cs:List (List Int))(gs:List Nat)(g:Nat)(C:Cv p cs)(w:Wn cs gs)(hg:g∈gs):run G (n+1) 87 [(k,aM (ac cs p gs)),(k',.lst ((ay cs g).map .int)),(k'',.int g)]=.ret 1 (.lst (ah (am (cg cs gs g)))) []:=by
 have hS:(ay cs g).length<=SL:=bK (C.ln g) (by decide);have h100:100<=SL:=by decide
 have hrg:=C.rg g;have hln:=C.ln g;have h6:∀x∈cg cs gs g,x<6:=fun x hx=>by
  have:=w.lt x (sD hx);have:=C.m6;omega
 unfold cg at h6 ⊢;generalize hC:ay cs g=c at hS h6 hrg hln;obtain⟨x,e,rfl⟩:=Ou.runE (G:=G) (n:=n) (f:=87) (F:=gQ) (vs:=[(k,aM (ac cs p gs)),(k',.lst (c.map .int)),(k'',.int g)]) (init:=gQ.body.dropLast) (e:=.op .srtSet [(.var 3)]) (P:=fun x=>x=(1,.lst (ah (am (c.map (cV cs gs g)).flatten)))) P.f87 rfl rfl rfl (fun _ h=>nomatch h) (by
  show Ou G (run G n) [] [some (0,aM (ac cs p gs)),some (0,.lst (c.map .int)),some (0,.int g),none,none,none] _ _ _ _;refine Ou.setK (x:=(99,.lst [])) (by simp) (by simp) rfl (by simp) ?_;refine Ou.low (a':=[some (0,aM (ac cs p gs)),some (0,.lst (c.map .int)),some (0,.int g),some (1,.lst (ah [])),none,none]) (.cons (.refl _) (.cons (.refl _) (.cons (.refl _) (.cons ⟨rfl,by decide⟩ (.cons trivial (.cons trivial .nil)))))) ?_;refine Ou.fo (fun r a=>∃(x4 x5:Option KD) (pre suf:List Int),a=[some (0,aM (ac cs p gs)),some (0,.lst (c.map .int)),some (0,.int g),some (1,.lst (ah (pre.map (cV cs gs g)).flatten)),x4,x5]/\r=suf.map .int/\pre++suf=c) (vs:=[(0,.lst (c.map .int))]) (xs:=c.map .int) (by simp) (by simp) (by simpa using hS) ⟨none,none,[],c,by simp,rfl,rfl⟩ ?_ ?_
  ·rintro x r a ⟨x4,x5,pre,suf,ha,hr,he⟩;cases suf with
   | nil=>simp at hr
   | cons s suf=>
    simp only[List.map_cons,List.cons.injEq] at hr;obtain⟨rfl,rfl⟩:=hr;subst ha;have hs:s∈c:=by rw[<-he]; simp
    have rg:=hrg s hs;obtain⟨j,rfl⟩:∃j:Nat,s=(j:Int):=⟨s.toNat,by omega⟩
    have ix:=pS (cs:=cs) (O:=gs) (show j<p by omega);have hgf:g∈aO cs j gs:=List.mem_filter.mpr ⟨hg,decide_eq_true (by rw[hC]; exact hs)⟩;have sc:=fk (aO cs j gs);have id':cq (.lst (ah (aO cs j gs))) (.int g)=some (99,.int ((aO cs j gs).idxOf g:Nat)):=by
     rw[uM,rP hgf];simp[-List.all_eq_true,sc]
    have hlt:=List.idxOf_lt_length_of_mem hgf;have eo:cV cs gs g (j:Int)=((aO cs j gs).drop ((aO cs j gs).idxOf g+1)).take 1:=by unfold cV gy; rw[Int.toNat_natCast]
    have ct:aW (some (((aO cs j gs).idxOf g:Int)+1)) (some (((aO cs j gs).idxOf g:Int)+2)) (.lst (ah (aO cs j gs)))=some (1,.lst (ah (cV cs gs g (j:Int)))):=by
     have:=lJ (ah (aO cs j gs)) ((aO cs j gs).idxOf g+1) (by rw[d7]; omega);simp only[Int.natCast_add,Int.natCast_one] at this;rw[Int.add_assoc] at this;have this':cutD (ah (aO cs j gs)) (some (((aO cs j gs).idxOf g:Int)+1)) (some (((aO cs j gs).idxOf g:Int)+2))=((ah (aO cs j gs)).drop ((aO cs j gs).idxOf g+1)).take 1:=this;simp only[aW,this',eo];simp[ah,List.map_take,List.map_drop]
    have hol:=nQ cs gs g (j:Int);have hpl:(pre.map (cV cs gs g)).flatten.length<=6:=by
     have h1:∀l:List Int,(l.map (cV cs gs g)).flatten.length<=l.length:=by
      intro l;induction l with
      | nil=>simp
      | cons x l ih=>
       have:=nQ cs gs g x;rw[List.map_cons,List.flatten_cons,List.length_append,List.length_cons];omega
     have:=h1 pre;have:=congrArg List.length he;simp at this;omega
    generalize aM (ac cs p gs)=LR at ix;generalize D.lst (ah (aO cs j gs))=row at ix id' ct;generalize (aO cs j gs).idxOf g=dd at id' ct;generalize hO:cV cs gs g (j:Int)=oo at ct hol;have sco:=fk oo;refine⟨_,i3 rfl (by simp),?_⟩;refine Ou.set (x:=(99,.int (dd:Nat))) (by simp[-aJ,ix,id']) rfl (by simp) ?_;refine Ou.extendL (k:=0) (j:=0) (xs:=ah (pre.map (cV cs gs g)).flatten) (ys:=ah oo) (by simp) (by simp[-aW,-aJ,ix,ct]) sco (by rw[d7,d7]; omega) ?_;exact Ou.nil ⟨some (0,.int (j:Nat)),some (0,.int (dd:Nat)),pre++[(j:Int)],suf,by simp[ah,hO],rfl,by simpa using he⟩
  ·rintro a ⟨x4,x5,pre,suf,ha,hr,he⟩;have:suf=[]:=by simpa using hr.symm
   subst this ha;rw[List.append_nil] at he;subst he;exact Ou.nil ⟨(1,.lst (ah (am (pre.map (cV cs gs g)).flatten))),by simp[o8 h6],rfl⟩)
 exact e
theorem rF (n k:Nat)(c:Nat)(i:Int)(d:D)(hc:(c=2/\i=0)\/(c=3/\i=1)\/(c=4/\i=2))(hd:d.scal=true):∃j,run G (n+1) 83 [(k,.exc c [(2,d)])]=.ret j (.tup [.int i,d]) []:=by
 have hf:=rA hd;have h3:3<SL:=by decide
 rcases hc with ⟨rfl,rfl⟩ | ⟨rfl,rfl⟩ | ⟨rfl,rfl⟩ <;> rw[run,P.f83] <;>
  exact⟨_,by simp[kQ,P.p.v.a.c2,P.c3,P.c4,bN,aK,D.eq,D.find,List.findIdx?_cons,fg,List.lookup,hf,h3]; rfl⟩
theorem Dt (n k:Nat)(g y:Int):∃j,run G (n+1) 83 [(k,.exc 5 [(2,.int g),(3,.int y)])]=.ret j (.tup [.int 3,.int g,.int y]) []:=by
 have h3:3<SL:=by decide
 rw[run,P.f83];exact⟨_,by simp[kQ,P.p.c5,bN,aK,D.eq,D.find,List.findIdx?_cons,fg,List.lookup,h3]; rfl⟩
end Ip
end
section
namespace Ip
open PySem (Str)
inductive Cs (p:Nat) (cs:List (List Int)) (gs:List Nat):Wrd->D->D->D->Prop
 | no {w:Wrd} {d:D} (h:isB cs.length d=false) (hd:d.scal=true):Cs p cs gs w d (.tup [.int 0,d]) .non
 | worn {g:Nat} (h:g∈gs):Cs p cs gs .on (.int g) (.tup [.int 1,.int g]) .non
 | on {g:Nat} (h:g<cs.length) (hn:g∉gs):Cs p cs gs .on (.int g) (.tup []) (aC (ac cs p (gs++[g])))
 | not {w:Wrd} {g:Nat} (hw:w.isOn=false) (h:g<cs.length) (hn:g∉gs):Cs p cs gs w (.int g) (.tup [.int 2,.int g]) .non
 | cov {g y:Nat} {t:List Nat} (h:g∈gs) (e:am (cg cs gs g)=y::t):Cs p cs gs .off (.int g) (.tup [.int 3,.int g,.int y]) .non
 | off {g:Nat} (h:g∈gs) (e:cg cs gs g=[]):Cs p cs gs .off (.int g) (.tup []) (aC (ac cs p (rmv g gs)))
 | ov {g:Nat} (h:g∈gs):Cs p cs gs .ov (.int g) (.tup []) (.lst (ah (am (cg cs gs g))))
theorem Cs.any (C:Cv p cs)(W:Wn cs gs)(w:Wrd)(d:D)(hd:d.scal=true):∃due found,Cs p cs gs w d due found:=by
 cases hb:isB cs.length d with
 | false=>exact⟨_,_,.no hb hd⟩
 | true=>
  obtain⟨g,rfl,hg⟩:∃g:Nat,d=.int g/\g<cs.length:=by
   cases d <;> simp[isB] at hb
   rename_i i;exact⟨i.toNat,by congr 1; omega,by omega⟩
  by_cases hn:g∈gs
  ·cases w with
   | on=>exact⟨_,_,.worn hn⟩
   | ov=>exact⟨_,_,.ov hn⟩
   | off=>
    cases e:am (cg cs gs g) with
    | nil=>exact⟨_,_,.off hn ((qp C W).mp e)⟩
    | cons y t=>exact⟨_,_,.cov hn e⟩
  ·cases w with
   | on=>exact⟨_,_,.on hg hn⟩
   | ov=>exact⟨_,_,.not rfl hg hn⟩
   | off=>exact⟨_,_,.not rfl hg hn⟩
noncomputable def fW:Wrd->Nat
 | .on=>25
 | .off=>27
 | .ov=>26
variable {G:Pg}(P:P3 G)
include P
theorem sC (n k:Nat)(d:D):run G (n+1) 73 [(k,d)]=.ret 99 (.bl (gC d)) []:=by
 rw[run,P.f73]; cases d <;> simp[iK,gC]
theorem Cg (c:Nat)(fs:List (Nat×D))(hc:c=2\/c=3\/c=4\/c=5):aA G (.exc c fs) (.cls 0)=true:=by
 rcases hc with rfl | rfl | rfl | rfl <;> simp[P.p.v.a.c2,P.c3,P.c4,P.p.c5]
theorem pC (n k k' k'' k3 c jk:Nat)(p:Nat)(cs:List (List Int))(wr:D)(w:Wrd)(d due:D)(fs:List (Nat×D))(hc:c=2\/c=3\/c=4\/c=5)(q:run G (n+7) (fW w) [(0,wd p cs),(0,wr),(0,d)]=.exc c fs [])(qk:run G (n+7) 83 [(0,.exc c fs)]=.ret jk due []):∃j,run G (n+8) 88 [(k,wd p cs),(k',wr),(k'',wS w),(k3,d)]=.ret j (.tup [due,.non]) []:=by
 have e1:=pi w;have e2:=si w;have hx:=Cg P c fs hc;generalize wS w=ws at e1 e2;have key:Ou G (run G (n+7)) [] [some (0,wd p cs),some (0,wr),some (0,ws),some (0,d),none,none,none] jY.body (fun _=>False) (fun x=>x=.tup [due,.non]) fun _ _ _=>False:=by
  refine Ou.set (x:=(99,.non)) (by simp) rfl (by simp) ?_;refine Ou.set (x:=(99,.non)) (by simp) rfl (by simp) ?_;refine Ou.low (a':=[some (0,wd p cs),some (0,wr),some (0,ws),some (0,d),some (0,.non),some (0,.non),none]) (.of_eq (by simp)) ?_;have fin:aA G (.exc c fs) (.cls 0)=true/\([]:List Nat).contains 4=false/\4<(bX [some (0,wd p cs),some (0,wr),some (0,ws),some (0,d),some (0,.non),some (0,.non),none]).length/\([]:List Nat).contains 6=false/\6≠4/\6<(bX [some (0,wd p cs),some (0,wr),some (0,ws),some (0,d),some (0,.non),some (0,.non),none]).length/\Ou G (run G (n+7)) [] (((bX [some (0,wd p cs),some (0,wr),some (0,ws),some (0,d),some (0,.non),some (0,.non),none]).set 4 (some (0,.exc c fs))).set 6 none) [.iff (.op .notN [(.var 4)]) [.ret (.op .tup [(.call 83 [(.var 4)]),(.cst .non)])] [],.ret (.op .tup [(.op .tup []),(.var 5)])] (fun _=>False) (fun x=>x=.tup [due,.non]) fun _ _ _=>False:=by
   refine⟨hx,rfl,by simp[bX],rfl,by decide,by simp[bX],?_⟩;refine Ou.low (a':=[some (0,wd p cs),some (0,wr),some (0,ws),some (0,d),some (0,.exc c fs),some (0,.non),none]) (.of_eq (by simp[bX])) ?_;refine Ou.iffT (j:=99) (by simp) ?_;exact Ou.retE ⟨_,by simp[P.f83,kQ,qk]; rfl⟩ rfl
  refine Ou.tryE ?_;cases w with
  | on=>
   refine Ou.iffT (j:=99) (by simp[-bg,e1,Wrd.isOn]) ?_;exact Ou.setX (by simp[P.p.v.f25,jg,show run G (n+7) 25 _=_ from q]) fin
  | off=>
   refine Ou.iffF (j:=99) (by simp[-bg,e1,Wrd.isOn]) ?_;refine Ou.iffT (j:=99) (by simp[-bg,e2,Wrd.isOff]) ?_;exact Ou.setX (by simp[P.p.v.f27,ky,show run G (n+7) 27 _=_ from q]) fin
  | ov=>
   refine Ou.iffF (j:=99) (by simp[-bg,e1,Wrd.isOn]) ?_;refine Ou.iffF (j:=99) (by simp[-bg,e2,Wrd.isOff]) ?_;exact Ou.setX (by simp[P.p.v.f26,fR,show run G (n+7) 26 _=_ from q]) fin
 obtain⟨j,x,e,rfl⟩:=Ou.run (n:=n+7) (vs:=[(k,wd p cs),(k',wr),(k'',ws),(k3,d)]) (V:=fun x=>x=.tup [due,.non]) P.f88 rfl rfl (key.mono (fun _ h=>h.elim) (fun _ h=>h) fun _ _ _ h=>h);exact⟨j,e⟩
theorem sH (n k k' k'' k3 jk:Nat)(p:Nat)(cs:List (List Int))(wr:D)(w:Wrd)(d f:D)(q:run G (n+7) (fW w) [(0,wd p cs),(0,wr),(0,d)]=.ret jk f []):∃j,run G (n+8) 88 [(k,wd p cs),(k',wr),(k'',wS w),(k3,d)]=.ret j (.tup [.tup [],f]) []:=by
 have e1:=pi w;have e2:=si w;generalize wS w=ws at e1 e2;have key:Ou G (run G (n+7)) [] [some (0,wd p cs),some (0,wr),some (0,ws),some (0,d),none,none,none] jY.body (fun _=>False) (fun x=>x=.tup [.tup [],f]) fun _ _ _=>False:=by
  refine Ou.set (x:=(99,.non)) (by simp) rfl (by simp) ?_;refine Ou.set (x:=(99,.non)) (by simp) rfl (by simp) ?_;refine Ou.low (a':=[some (0,wd p cs),some (0,wr),some (0,ws),some (0,d),some (0,.non),some (0,.non),none]) (.of_eq (by simp)) ?_;have fin:Ou G (run G (n+7)) [] [some (0,wd p cs),some (0,wr),some (0,ws),some (0,d),some (0,.non),some (0,f),none] [.iff (.op .notN [(.var 4)]) [.ret (.op .tup [(.call 83 [(.var 4)]),(.cst .non)])] [],.ret (.op .tup [(.op .tup []),(.var 5)])] (fun _=>False) (fun x=>x=.tup [.tup [],f]) fun _ _ _=>False:=by
   refine Ou.iffN (j:=99) (by simp) ?_;exact Ou.retE ⟨_,by simp; rfl⟩ rfl
  refine Ou.tryE ?_;cases w with
  | on=>
   refine Ou.iffT (j:=99) (by simp[-bg,e1,Wrd.isOn]) ?_;refine Ou.set (x:=(jk,f)) (by simp[P.p.v.f25,jg,show run G (n+7) 25 _=_ from q]) rfl (by simp) ?_;exact Ou.nil (Ou.nil (Ou.low (.of_eq (by simp)) fin))
  | off=>
   refine Ou.iffF (j:=99) (by simp[-bg,e1,Wrd.isOn]) ?_;refine Ou.iffT (j:=99) (by simp[-bg,e2,Wrd.isOff]) ?_;refine Ou.set (x:=(jk,f)) (by simp[P.p.v.f27,ky,show run G (n+7) 27 _=_ from q]) rfl (by simp) ?_;exact Ou.nil (Ou.nil (Ou.nil (Ou.low (.of_eq (by simp)) fin)))
  | ov=>
   refine Ou.iffF (j:=99) (by simp[-bg,e1,Wrd.isOn]) ?_;refine Ou.iffF (j:=99) (by simp[-bg,e2,Wrd.isOff]) ?_;refine Ou.set (x:=(jk,f)) (by simp[P.p.v.f26,fR,show run G (n+7) 26 _=_ from q]) rfl (by simp) ?_;exact Ou.nil (Ou.nil (Ou.nil (Ou.low (.of_eq (by simp)) fin)))
 obtain⟨j,x,e,rfl⟩:=Ou.run (n:=n+7) (vs:=[(k,wd p cs),(k',wr),(k'',ws),(k3,d)]) (V:=fun x=>x=.tup [.tup [],f]) P.f88 rfl rfl (key.mono (fun _ h=>h.elim) (fun _ h=>h) fun _ _ _ h=>h);exact⟨j,e⟩
theorem ue (n k k' k'' k3:Nat)(p:Nat)(cs:List (List Int))(gs:List Nat)(C:Cv p cs)(W:Wn cs gs)(w:Wrd)(d due f:D)(h:Cs p cs gs w d due f):∃j,run G (n+8) 88 [(k,wd p cs),(k',aC (ac cs p gs)),(k'',wS w),(k3,d)]=.ret j (.tup [due,f]) []:=by
 cases h with
 | no h hd=>
  obtain⟨jk,qk⟩:=rF P (n+6) 0 2 0 d (.inl ⟨rfl,rfl⟩) hd;refine pC P n k k' k'' k3 2 jk p cs _ w d _ _ (.inl rfl) ?_ qk;cases w with
  | on=>exact Ei P (n+1) 0 0 0 p cs _ d h hd
  | off=>exact vw P n 0 0 0 2 p cs _ d _ fun k k' k''=>vK P n k k' k'' p cs _ d h hd
  | ov=>exact vK P (n+1) 0 0 0 p cs _ d h hd
 | @worn g h=>
  obtain⟨jk,qk⟩:=rF P (n+6) 0 3 1 (.int g) (.inr (.inl ⟨rfl,rfl⟩)) rfl;exact pC P n k k' k'' k3 3 jk p cs _ .on _ _ _ (.inr (.inl rfl)) (EO P (n+1) 0 0 0 p cs gs g C W h) qk
 | @on g h hn=>
  obtain⟨j,q⟩:=yv P.p (n+1) 0 0 0 p cs gs g C W h hn;exact sH P n k k' k'' k3 j p cs _ .on _ _ q
 | @not _ g hw h hn=>
  obtain⟨jk,qk⟩:=rF P (n+6) 0 4 2 (.int g) (.inr (.inr ⟨rfl,rfl⟩)) rfl;refine pC P n k k' k'' k3 4 jk p cs _ w _ _ _ (.inr (.inr (.inl rfl))) ?_ qk;cases w with
  | on=>cases hw
  | off=>exact vw P n 0 0 0 4 p cs _ _ _ fun k k' k''=>tX P n k k' k'' p cs gs g C W h hn
  | ov=>exact tX P (n+1) 0 0 0 p cs gs g C W h hn
 | @cov g y t h e=>
  obtain⟨jk,qk⟩:=Dt P (n+6) 0 g y;exact pC P n k k' k'' k3 5 jk p cs _ .off _ _ _ (.inr (.inr (.inr rfl))) (GK P.p n 0 0 0 p cs gs g C W h y t e) qk
 | @off g h e=>
  obtain⟨j,q⟩:=DR P.p n 0 0 0 p cs gs g C W h e;exact sH P n k k' k'' k3 j p cs _ .off _ _ q
 | @ov g h=>exact sH P n k k' k'' k3 1 p cs _ .ov _ _ (nH P.p (n+1) 0 0 0 p cs gs g C W h)
end Ip
end
section
namespace Ip
open PySem (Str)
theorem sv (ns:List Nat):(D.lst (ah ns)).eq (.lst [])=decide (ns=[]):=by
 cases ns with
 | nil=>simp[ah,D.eq,D.eqs]
 | cons x r=>simp[ah,D.eq,D.eqs]
theorem ou (ns:List Nat)(n:Nat):(D.lst (ah ns)).pur (n+1)=true:=by simp[ah]
theorem mo {cs:List (List Int)}{g:Nat}(h:g<cs.length):aJ (ar cs) (.int g)=some (0,.lst ((ay cs g).map .int)):=by
 have h':(g:Int)<cs.length:=by omega
 simp[ar,aJ,bO,h,ay]
theorem wE (C:Cv p cs)(h:g<cs.length):∃i:Nat,i<p/\aJ (.lst ((ay cs g).map .int)) (.int 0)=some (0,.int i)/\∀gs,g∈aO cs i gs↔g∈gs:=by
 cases e:ay cs g with
 | nil=>exact absurd e (C.ne g h)
 | cons i c=>
  have hi:i∈ay cs g:=by rw[e]; exact bM
  have rg:=C.rg g i hi;refine⟨i.toNat,by omega,?_,fun gs=>?_⟩
  ·have:((i.toNat:Nat):Int)=i:=by omega
   rw[this];simp[aJ,bO]
  ·have hi':((i.toNat:Nat):Int)∈ay cs g:=by rw[Int.toNat_of_nonneg rg.1]; exact hi
   unfold aO;rw[List.mem_filter];exact⟨fun h=>h.1,fun h=>⟨h,decide_eq_true hi'⟩⟩
variable {G:Pg}(P:P3 G)
include P
theorem yt (n k k' k'' k3:Nat)(cs:List (List Int))(ro wo d:D)(h:isB cs.length d=false)(hd:d.scal=true):∃j,run G (n+2) 82 [(k,ro),(k',ar cs),(k'',wo),(k3,d)]=.ret j (.tup [.int 0,d]) []:=by
 have q:=sC P n 0 d;have hlc:dg (fun xs=>some (99,D.int xs.length)) (ar cs)=some (99,.int cs.length):=by simp[ar]
 have key:Ou G (run G (n+1)) [] [some (0,ro),some (0,ar cs),some (0,wo),some (0,d),none,none] ko.body (fun _=>False) (fun x=>x=.tup [.int 0,d]) fun _ _ _=>False:=by
  generalize ar cs=CV at hlc;refine Ou.iffT (j:=99) ?_ ?_
  ·cases d with
   | int i=>
    have hb:¬(0<=i/\i<cs.length):=by simpa[isB] using h
    by_cases h0:0<=i
    ·have h1:¬i<cs.length:=fun z=>hb ⟨h0,z⟩;simp[-dg,P.f73,iK,q,gC,hlc,h0,h1]
    ·simp[-dg,P.f73,iK,q,gC,hlc,h0]
   | _=>first | (simp at hd; done) | simp[P.f73,iK,q,gC]
  ·exact Ou.retE ⟨_,by simp; rfl⟩ rfl
 obtain⟨j,x,e,rfl⟩:=Ou.run (n:=n+1) (vs:=[(k,ro),(k',ar cs),(k'',wo),(k3,d)]) (V:=fun x=>x=.tup [.int 0,d]) P.f82 rfl rfl (key.mono (fun _ h=>h.elim) (fun _ h=>h) fun _ _ _ h=>h);exact⟨j,e⟩
theorem ug (n k k' k'' k3:Nat)(p:Nat)(cs:List (List Int))(gs:List Nat)(C:Cv p cs)(W:Wn cs gs)(w:Wrd)(d due f:D)(h:Cs p cs gs w d due f):∃j,run G (n+2) 82 [(k,aM (ac cs p gs)),(k',ar cs),(k'',wS w),(k3,d)]=.ret j due []:=by
 have e1:=pi w;have e2:=si w;have hlc:dg (fun xs=>some (99,D.int xs.length)) (ar cs)=some (99,.int cs.length):=by simp[ar]
 suffices H:∀g:Nat,d=.int g->g<cs.length->∃j,run G (n+2) 82 [(k,aM (ac cs p gs)),(k',ar cs),(k'',wS w),(k3,d)]=.ret j due [] by
  cases h with
  | no h hd=>exact yt P n k k' k'' k3 cs _ _ d h hd
  | @worn g h=>exact H g rfl (W.lt g h)
  | @on g h hn=>exact H g rfl h
  | @not _ g hw h hn=>exact H g rfl h
  | @cov g y t h e=>exact H g rfl (W.lt g h)
  | @off g h e=>exact H g rfl (W.lt g h)
  | @ov g h=>exact H g rfl (W.lt g h)
 intro g hdg hgl;subst hdg;have q:=sC P n 0 (.int (g:Nat));obtain⟨i,hi,ixi,mi⟩:=wE C hgl;have ixc:=mo hgl;have ixr:=pS (cs:=cs) (O:=gs) hi;have mm:D.memb (.int g) (ah (aO cs i gs))=decide (g∈gs):=by
  rw[j9];exact decide_eq_decide.mpr (mi gs)
 have inn:gE false (.int g) (.lst (ah (aO cs i gs)))=some (99,.bl (decide (g∈gs))):=by
  have:=fk (aO cs i gs);simp[-List.all_eq_true,this,mm]
 have h1:(g:Int)<cs.length:=by omega
 have qn:=fun hg=>qM P n 0 0 0 p cs gs g C W hg;have key:Ou G (run G (n+1)) [] [some (0,aM (ac cs p gs)),some (0,ar cs),some (0,wS w),some (0,.int (g:Nat)),none,none] ko.body (fun _=>False) (fun x=>x=due) fun _ _ _=>False:=by
  generalize D.lst ((ay cs g).map .int)=CG at ixi ixc qn;generalize ar cs=CV at hlc ixc;generalize aM (ac cs p gs)=LR at ixr qn;generalize wS w=ws at e1 e2;generalize D.lst (ah (aO cs i gs))=row at ixr inn;refine Ou.iffN (j:=99) (by simp[-dg,P.f73,iK,q,gC,hlc,h1]) ?_;refine Ou.set (x:=(99,.bl (decide (g∈gs)))) (by simp[-aJ,-gE,ixc,ixi,ixr,inn]) rfl (by simp) ?_;refine Ou.low (a':=[some (0,LR),some (0,CV),some (0,ws),some (0,.int (g:Nat)),some (0,.bl (decide (g∈gs))),none]) (.of_eq (by simp)) ?_;cases h with
  | no h hd=>simp[isB,hgl] at h
  | worn h=>
   refine Ou.iffT (j:=99) (by simp[-bg,e1,Wrd.isOn]) ?_;exact Ou.retE ⟨_,by simp[h,bO]; rfl⟩ rfl
  | on _ hn=>
   refine Ou.iffT (j:=99) (by simp[-bg,e1,Wrd.isOn]) ?_;exact Ou.retE ⟨_,by simp[hn,bO]; rfl⟩ rfl
  | not hw _ hn=>
   refine Ou.iffN (j:=99) (by simp[-bg,e1,hw]) ?_;refine Ou.iffT (j:=99) (by simp[hn]) ?_;exact Ou.retE ⟨_,by simp; rfl⟩ rfl
  | @cov _ y t h e=>
   have qq:=qn h;rw[e] at qq;have ne:bg true (.lst (ah (y::t))) (.lst [])=some (99,.bl true):=eB (b:=false) (ou _ _) rfl (by rw[sv]; rfl) true;have i0:aJ (.lst (ah (y::t))) (.int 0)=some (0,.int (y:Nat)):=by simp[ah,bO]
   refine Ou.iffN (j:=99) (by simp[-bg,e1,Wrd.isOn]) ?_;refine Ou.iffN (j:=99) (by simp[h]) ?_;generalize D.lst (ah (y::t))=YY at ne i0 qq;refine Ou.set (x:=(1,YY)) (by simp[-aJ,ixc,P.f87,gQ,qq]) rfl (by simp) ?_;refine Ou.iffT (j:=99) (by simp[-bg,e2,Wrd.isOff,ne]) ?_;exact Ou.retE ⟨_,by simp[-aJ,i0]; rfl⟩ rfl
  | off h e=>
   have qq:=qn h;rw[e] at qq;have ne:bg true (.lst (ah (am []))) (.lst [])=some (99,.bl false):=eB (b:=true) (ou _ _) rfl (by rw[sv]; rfl) true;refine Ou.iffN (j:=99) (by simp[-bg,e1,Wrd.isOn]) ?_;refine Ou.iffN (j:=99) (by simp[h]) ?_;generalize D.lst (ah (am []))=YY at ne qq;refine Ou.set (x:=(1,YY)) (by simp[-aJ,ixc,P.f87,gQ,qq]) rfl (by simp) ?_;refine Ou.iffN (j:=99) (by simp[-bg,e2,Wrd.isOff,ne]) ?_;exact Ou.retE ⟨_,by simp; rfl⟩ rfl
  | ov h=>
   have qq:=qn h;refine Ou.iffN (j:=99) (by simp[-bg,e1,Wrd.isOn]) ?_;refine Ou.iffN (j:=99) (by simp[h]) ?_;generalize D.lst (ah (am (cg cs gs g)))=YY at qq;refine Ou.set (x:=(1,YY)) (by simp[-aJ,ixc,P.f87,gQ,qq]) rfl (by simp) ?_;refine Ou.iffN (j:=99) (by simp[-bg,e2,Wrd.isOff]) ?_;exact Ou.retE ⟨_,by simp; rfl⟩ rfl
 obtain⟨j,x,e,rfl⟩:=Ou.run (n:=n+1) (vs:=[(k,aM (ac cs p gs)),(k',ar cs),(k'',wS w),(k3,.int (g:Nat))]) (V:=fun x=>x=due) P.f82 rfl rfl (key.mono (fun _ h=>h.elim) (fun _ h=>h) fun _ _ _ h=>h);exact⟨j,e⟩
end Ip
end
section
namespace Ip
open PySem (Str)
theorem DW {rs:List (List Nat)}{i j:Nat}{r:List Nat}(h:i≠j):(rs.set i r).getD j []=rs.getD j []:=by
 rw[List.getD_eq_getElem?_getD,List.getElem?_set_ne h,<-List.getD_eq_getElem?_getD]
theorem E4 {α:Type}{f:α->List D}:∀{xs:List α},xs≠[]->aB (xs.map fun x=>((1:Nat),D.lst (f x)))=1
 | [],h=>absurd rfl h
 | x::xs,_=>by
  have:(((x::xs).map fun x=>((1:Nat),D.lst (f x))).all (aK 1))=true:=by simp[aK]
  unfold aB;rw[List.map_cons,List.find?_cons];have hf:(!(D.lst (f x)).flat)=true:=by simp
  simp only[hf];rw[if_pos (by simpa using this)]
theorem FQ (rows:List (List Nat))(k:Nat):D.fb (k+2) (aM rows)=true:=by
 show (rows.map fun r=>D.lst (ah r)).all (D.fb (k+1))=true;rw[List.all_map,List.all_eq_true];exact fun r _=>uj k (fk r)
theorem k8 (rows:List (List Nat))(n:Nat):(aM rows).pur (n+2)=true:=by
 unfold aM;rw[sK,List.all_map,List.all_eq_true];exact fun r _=>ou r n
theorem rS:∀xs:List α,allB (xs.map fun _=>D.bl true)=some true
 | []=>rfl
 | x::xs=>by
  simp only[List.map_cons,allB,rS xs];rfl
variable {G:Pg}(P:P3 G)
include P
theorem iE (n:Nat)(rows:List (List Nat))(f:List Nat->D)(hf:∀r,f r=.lst (ah r)\/f r=.tup (ah r)):au (compF G (run G n) [none,none] (.one 1) [] (.op .list [.var 1])) (rows.map f)=.ok (rows.map fun r=>(1,.lst (ah r))):=
 gB fun r _=>by
  rcases hf r with e | e <;> rw[e] <;> simp[compF]
set_option maxHeartbeats 1000000 in
theorem vg (n k k' k'' k3:Nat)(p:Nat)(cs:List (List Int))(gs gs':List Nat)(w:Wrd)(g:Nat)(f:List Nat->List Nat)(C:Cv p cs)(W:Wn cs gs)(hg:g<cs.length)(he:bu f (ay cs g) (ac cs p gs)=ac cs p gs')
  (hw:(w=.on/\f=fun r=>r++[g])\/(w=.off/\f=List.dropLast/\∀j:Nat,(j:Int)∈ay cs g->aO cs j gs≠[])):∃j,run G (n+1) 89 [(k,aM (ac cs p gs)),(k',ar cs),(k'',wS w),(k3,.int g)]=.ret j (aM (ac cs p gs')) []:=by
 have h100:100<=SL:=by decide
 have ixc:=mo hg;have e1:=pi w;have hS:((ac cs p gs).map fun r=>D.lst (ah r)).length<=SL:=by rw[List.length_map,gg]; have:=C.p6; omega
 have cc:=iE P n (ac cs p gs) (fun r=>.lst (ah r)) fun r=>.inl rfl;have ne:ac cs p gs≠[]:=fun z=>by
  have h1:=congrArg List.length z;rw[gg] at h1;have h2:=C.p1;have h3:p=0:=h1;omega
 have jk:=E4 (f:=ah) ne;have hln:(ay cs g).length<=SL:=by have:=C.ln g; omega
 have rl:∀j,(ac cs p gs).getD j []=aO cs j gs\/p<=j:=fun j=>by
  by_cases h:j<p
  ·exact .inl (Av h)
  ·exact .inr (by omega)
 have hfl:∀j,(aO cs j gs).length<=6:=fun j=>bK (List.length_filter_le _ _) (W.len C);have hrg:=C.rg g;have hnd:=C.nd g;rw[<-he];have hrl:(ac cs p gs).length=p:=gg cs p gs;have key:Ou G (run G n) [] [some (0,aM (ac cs p gs)),some (0,ar cs),some (0,wS w),some (0,.int (g:Nat)),none,none] mR.body (fun _=>False) (fun x=>x=aM (bu f (ay cs g) (ac cs p gs))) fun _ _ _=>False:=by
  refine Ou.setK (x:=(2,aM (ac cs p gs))) ?_ (FQ _ 0) rfl (by simp) ?_
  ·have el:aM (ac cs p gs)=.lst ((ac cs p gs).map fun r=>D.lst (ah r)):=rfl;have e2:(ac cs p gs).map (fun r=>D.lst (ah r))=((ac cs p gs).map fun r=>((1:Nat),D.lst (ah r))).map (·.2):=by simp
   generalize hz:((ac cs p gs).map fun r=>((1:Nat),D.lst (ah r)))=ZZ at cc jk e2;rw[el];generalize ((ac cs p gs).map fun r=>D.lst (ah r))=LR at cc hS e2;simp[hS,cc,jk];exact e2.symm
  refine Ou.low (a':=[some (0,aM (ac cs p gs)),some (0,ar cs),some (0,wS w),some (0,.int (g:Nat)),some (2,aM (ac cs p gs)),none]) (.of_eq (by simp)) ?_;generalize hr0:ac cs p gs=rows at rl hrl;generalize hcv:ay cs g=c at ixc hln hrg hnd hw;refine Ou.fo (fun r a=>∃(x:Option KD) (rs:List (List Nat)) (suf:List Int),a=[some (0,aM rows),some (0,ar cs),some (0,wS w),some (0,.int (g:Nat)),some (2,aM rs),x]/\r=suf.map .int/\bu f suf rs=bu f c rows/\rs.length=p/\(∀i∈suf,i∈c)/\suf.Nodup/\∀i∈suf,rs.getD i.toNat []=rows.getD i.toNat []) (vs:=[(0,.lst (c.map .int))]) (xs:=c.map .int) (by simp[-aJ,ixc]) (by simp) (by simpa using hln) ?_ ?_ ?_
  ·exact⟨none,rows,c,by simp,rfl,rfl,hrl,fun _ h=>h,hnd,fun _ _=>rfl⟩
  ·rintro x r a ⟨y,rs,suf,ha,hr,hm,hl,hsub,hn,hun⟩;cases suf with
   | nil=>simp at hr
   | cons s suf=>
    simp only[List.map_cons,List.cons.injEq] at hr;obtain⟨rfl,rfl⟩:=hr;subst ha;have hsc:=hsub s bM;have rg:=hrg s hsc;have hs:0<=s/\s<rs.length:=⟨rg.1,by rw[hl]; exact rg.2⟩
    have er:rs.getD s.toNat []=aO cs s.toNat gs:=by
     rw[hun s List.mem_cons_self];exact (rl s.toNat).resolve_right (by omega)
    have es:((s.toNat:Nat):Int)=s:=by omega
    have ix:=CW hs;have hm':bu f suf (rs.set s.toNat (f (rs.getD s.toNat [])))=bu f c rows:=hm;rw[er] at ix hm';have hl6:=hfl s.toNat;obtain⟨hns,hn'⟩:=List.nodup_cons.mp hn;have hun':∀r i,i∈suf->(rs.set s.toNat r).getD i.toNat []=rows.getD i.toNat []:=fun r i hi=>by
     have hi2:=hrg i (hsub i (bD _ hi));have:i≠s:=fun e=>hns (e ▸ hi);rw[DW (by omega)];exact hun i (bD _ hi)
    have hsub':∀i∈suf,i∈c:=fun i hi=>hsub i (bD _ hi);refine⟨_,i3 rfl (by simp),?_⟩;rcases hw with ⟨rfl,rfl⟩ | ⟨rfl,rfl,hne⟩
    ·refine Ou.iffT (j:=99) (by simp[-bg,e1,Wrd.isOn]) ?_;refine Ou.nest (k:=0) (kn:=0) (ds:=rs.map fun r=>D.lst (ah r)) (ys:=ah (aO cs s.toNat gs)) (zs:=ah (aO cs s.toNat gs++[g])) (n:=s) (by simp[aM]) (by simp) hs.1 ix (fk _) (fun A r=>?_) ?_
     ·obtain⟨j,hj⟩:=r.at (x:=3) (k:=0) (d:=.int (g:Nat)) (by simp);have hlt:(ah (aO cs s.toNat gs)).length<SL:=by rw[d7]; omega
      simp only[cY,hj,mj,D.scal,if_true,Option.bind_some,hlt];simp[ah]
     ·exact Ou.nil (Ou.nil ⟨some (0,.int s),rs.set s.toNat (aO cs s.toNat gs++[g]),suf,by simp[aM,List.map_set],rfl,hm',by simpa using hl,hsub',hn',hun' _⟩)
    ·refine Ou.iffF (j:=99) (by simp[-bg,e1,Wrd.isOn]) ?_;have hne':=hne s.toNat (by rw[es]; exact hsc);refine Ou.nest (k:=0) (kn:=0) (ds:=rs.map fun r=>D.lst (ah r)) (ys:=ah (aO cs s.toNat gs)) (zs:=ah (aO cs s.toNat gs).dropLast) (n:=s) (by simp[aM]) (by simp) hs.1 ix (fk _) (fun A r=>?_) ?_
     ·unfold cY;rw[if_neg,wU];intro z;have:=congrArg List.length z;rw[d7] at this;exact hne' (List.length_eq_zero_iff.mp this)
     ·exact Ou.nil (Ou.nil ⟨some (0,.int s),rs.set s.toNat (aO cs s.toNat gs).dropLast,suf,by simp[aM,List.map_set],rfl,hm',by simpa using hl,hsub',hn',hun' _⟩)
  ·rintro a ⟨y,rs,suf,ha,hr,hm,_⟩;have:suf=[]:=by simpa using hr.symm
   subst this ha;have hm':rs=bu f c rows:=hm;subst hm';exact Ou.ret (x:=(0,aM (bu f c rows))) (by simp) rfl
 obtain⟨j,x,e,rfl⟩:=Ou.run (n:=n) (vs:=[(k,aM (ac cs p gs)),(k',ar cs),(k'',wS w),(k3,.int (g:Nat))]) (V:=fun x=>x=aM (bu f (ay cs g) (ac cs p gs))) P.f89 rfl rfl (key.mono (fun _ h=>h.elim) (fun _ h=>h) fun _ _ _ h=>h);exact⟨j,e⟩
theorem uw (n k k':Nat)(p:Nat)(cs:List (List Int))(gs:List Nat)(C:Cv p cs)(W:Wn cs gs):∃j,run G (n+2) 86 [(k,aC (ac cs p gs)),(k',aM (ac cs p gs))]=.ret j (.bl true) []:=by
 have h100:100<=SL:=by decide
 have hl:(ac cs p gs).length<=SL:=by rw[gg]; have:=C.p6; omega
 have cc:=iE P (n+1) (ac cs p gs) rowD fun r=>.inr rfl;have e0:=eB (k8 (ac cs p gs) 58) (k8 (ac cs p gs) 58) (jn 60 (aM (ac cs p gs)) (k8 _ 58)) false;have rl:∀r∈ac cs p gs,r.length<=gs.length:=fun r hr=>by
  obtain⟨j,_,rfl⟩:=c9 hr;exact List.length_filter_le _ _
 have hgl:=W.len C;have hll:dg (fun xs=>some (99,D.int xs.length)) (aM (ac cs p gs))=some (99,.int (ac cs p gs).length):=by simp[aM]
 have el:(ac cs p gs).map (fun r=>D.lst (ah r))=((ac cs p gs).map fun r=>((1:Nat),D.lst (ah r))).map (·.2):=by simp
 have ew:aM (ac cs p gs)=.lst ((ac cs p gs).map fun r=>D.lst (ah r)):=rfl;rw[el] at ew;generalize aM (ac cs p gs)=LR at e0 hll ew;generalize ac cs p gs=rows at hl cc rl hll ew;have key:Ou G (run G (n+1)) [] [some (0,aC rows),some (0,LR),none] lr.body (fun _=>False) (fun x=>x=.bl true) fun _ _ _=>False:=by
  have hlw:dg (fun xs=>some (99,D.int xs.length)) (aC rows)=some (99,.int rows.length):=by simp[aC]
  have it:aA G (aC rows) .tuple=true:=rfl;refine Ou.iffN (j:=99) (by simp[-dg,hll,hlw,it,D.eq]) ?_;refine Ou.fo (fun r a=>∃(x:Option KD) (suf:List (List Nat)),a=[some (0,aC rows),some (0,LR),x]/\r=suf.map rowD/\∀r∈suf,r∈rows) (vs:=[(0,aC rows)]) (xs:=rows.map rowD) (by simp) (by simp[aC]) (by simpa using hl) ⟨none,rows,by simp,rfl,fun _ h=>h⟩ ?_ ?_
  ·rintro x r a ⟨y,suf,ha,hr,hs⟩;cases suf with
   | nil=>simp at hr
   | cons s suf=>
    simp only[List.map_cons,List.cons.injEq] at hr;obtain⟨rfl,rfl⟩:=hr;subst ha;have sl:(ah s).length<=SL:=by rw[d7]; have:=rl s (hs s bM); omega
    have ca:au (compF G (run G (n+1)) [none,none] (.one 1) [] (.call 73 [.var 1])) (ah s)=.ok (s.map fun _=>(99,.bl true)):=by
     refine gB (e:=fun a:Nat=>D.int (Int.ofNat a)) fun a _=>?_;have q:=sC P n 0 (.int (a:Int));simp[compF,P.f73,iK,q,gC]
    have al:allB ((s.map fun _=>((99:Nat),D.bl true)).map (·.2))=some true:=by rw[List.map_map]; exact rS s
    generalize (s.map fun _=>((99:Nat),D.bl true))=ZZ at ca al;refine⟨_,i3 rfl (by simp),?_⟩;refine Ou.iffN (j:=99) (by simp[rowD,sl,ca,al]) ?_;exact Ou.nil ⟨some (0,rowD s),suf,by simp,rfl,fun r hr=>hs r (bD _ hr)⟩
  ·rintro a ⟨y,suf,ha,_⟩;subst ha;have hl':(rows.map rowD).length<=SL:=by simpa using hl
   generalize (rows.map fun r=>((1:Nat),D.lst (ah r)))=ZZ at cc ew;refine Ou.retE ⟨99,?_⟩ rfl;rw[ew] at e0;unfold aC;generalize rows.map rowD=RW at cc hl';simp[-bg,hl',cc,ew,e0]
 obtain⟨j,x,e,rfl⟩:=Ou.run (n:=n+1) (vs:=[(k,aC rows),(k',LR)]) (V:=fun x=>x=.bl true) P.f86 rfl rfl (key.mono (fun _ h=>h.elim) (fun _ h=>h) fun _ _ _ h=>h);exact⟨j,e⟩
noncomputable def nA:D->Bool
 | .bl _=>false
 | _=>true
theorem o5 (n k k':Nat)(xs:List D)(h1:xs.length<=1000)(h2:∀x∈xs,nA x=true/\x.pur 59=true):∃j,run G (n+1) 74 [(k,.lst xs),(k',.lst xs)]=.ret j (.bl true) []:=by
 have hl:xs.length<=SL:=bK h1 (by decide);have ca:au (compF G (run G n) [none,none] (.one 1) [] (.op (.isi [.bool]) [.var 1])) xs=.ok (xs.map fun _=>(99,.bl false)):=
  vt (g:=fun _=>(99,.bl false)) fun x hx=>by
   have:=(h2 x hx).1;cases x <;> simp[compF,nA] at this ⊢
 have al:∀xs:List D,anyB ((xs.map fun _=>((99:Nat),D.bl false)).map (·.2))=some false:=by
  intro xs;induction xs with
  | nil=>rfl
  | cons x xs ih=>simp only[List.map_cons,anyB,ih]; rfl
 have al:=al xs;have pp:(D.lst xs).pur 60=true:=by rw[sK,List.all_eq_true]; exact fun x hx=>(h2 x hx).2
 have e0:=eB pp pp (jn 60 _ pp) false;generalize (xs.map fun _=>((99:Nat),D.bl false))=ZZ at ca al;rw[run,P.f74];exact⟨_,by simp[-bg,iX,hl,ca,al,e0]; rfl⟩
end Ip
end
section
namespace Ip
open PySem (Str)
theorem Dz (hm:m<=6)(h:∀g∈gs,g<m):(List.range m).filter (fun g=>decide (g∈gs))=am gs:=by
 obtain⟨k,e⟩:∃k,6=m+k:=⟨6 - m,by omega⟩
 unfold am;rw[e,List.range_add,List.filter_append];have h2:((List.range k).map (m+·)).filter (fun g=>gs.contains g)=[]:=by
  rw[List.filter_eq_nil_iff];intro g hg;obtain⟨i,_,rfl⟩:=c9 hg;intro z;have:=h (m+i) (by simpa using z);omega
 rw[h2,List.append_nil];exact List.filter_congr fun g _=>by simp
theorem rE (ns:List Nat):∀x∈ah ns,nA x=true/\x.pur 59=true:=fun x hx=>by
 obtain⟨n,_,rfl⟩:=c9 hx;exact⟨rfl,j4 _ _⟩
theorem Cs.pur (h:Cs p cs gs w d due f)(hd:d.pur 59=true):due.pur 60=true:=by
 cases h <;> simp[hd]
theorem Fl:(D.str "0").pur 59=true:=by decide +kernel
variable {G:Pg}(P:P3 G)
include P
theorem tK (n k k':Nat)(m:Nat)(c:Int):∃d,run G (n+2) 85 [(k,.int m),(k',.int c)]=.ret 0 d []/\d.scal=true/\d.pur 59=true/\isB m d=false:=by
 have q:=hV P.p.c.l n 0 99 99 c 30269 7 (by decide) (dU.mpr (by decide));have m0:=mx (c:=c) (p:=30269) (m:=7) (by decide);have m1:=pE (c:=c) (p:=30269) (m:=7) (by decide);generalize bE c 30269 7=v at q m0 m1;have hi:dE 10=true:=dU.mpr (by decide);have hz:0<=c % 10 ^ 20:=Int.emod_nonneg _ (by decide);generalize hu:c % 10 ^ 20=u at hz;rw[run,P.f85];have hu':c % 100000000000000000000=u:=hu;have fb0:D.fb 0 (.str "0")=true:=rfl;obtain h | h | h | h | h | h | h:v=0\/v=1\/v=2\/v=3\/v=4\/v=5\/v=6:=by omega
 ·subst h; exact⟨.int m,by simp[gF,P.p.c.l.f71,df,q,hi,hu',bO],rfl,j4 _ _,by simp[isB]⟩
 ·subst h; exact⟨.int (-1),by simp[gF,P.p.c.l.f71,df,q,hi,hu',bO],rfl,j4 _ _,by simp[isB]⟩
 ·subst h; exact⟨.bl true,by simp[gF,P.p.c.l.f71,df,q,hi,hu',bO],rfl,va _ _,rfl⟩
 ·subst h; exact⟨.non,by simp[gF,P.p.c.l.f71,df,q,hi,hu',bO],rfl,wP _,rfl⟩
 ·subst h; exact⟨.int (m+u),by simp[gF,P.p.c.l.f71,df,q,hi,hu',bO],rfl,j4 _ _,by simp[isB]; omega⟩
 ·subst h; exact⟨.str "0",by simp[gF,P.p.c.l.f71,df,q,hi,hu',bO],rfl,Fl,rfl⟩
 ·subst h; exact⟨.bl false,by simp[gF,P.p.c.l.f71,df,q,hi,hu',bO],rfl,va _ _,rfl⟩
theorem FD (n:Nat)(p:Nat)(cs:List (List Int))(gs:List Nat)(C:Cv p cs)(W:Wn cs gs):au (compF G (run G n) [none,none,some (ar cs),some (aM (ac cs p gs))] (.one 1) [(.op .isin [(.var 1),(.op .ix [(.var 3),(.op .ix [(.op .ix [(.var 2),(.var 1)]),(.cst (.int (0)))])])])] (.var 1)) ((List.range cs.length).map fun (n:Nat)=>.int n)=.ok ((am gs).map fun a=>(0,.int (a:Nat))):=by
 rw[<-Dz C.m6 W.lt];refine oE fun g hg=>?_;have hgl:=List.mem_range.mp hg;obtain⟨i,hi,ixi,mi⟩:=wE C hgl;have ixc:=mo hgl;have ixr:=pS (cs:=cs) (O:=gs) hi;have mm:D.memb (.int g) (ah (aO cs i gs))=decide (g∈gs):=by
  rw[j9];exact decide_eq_decide.mpr (mi gs)
 have inn:gE false (.int g) (.lst (ah (aO cs i gs)))=some (99,.bl (decide (g∈gs))):=by
  have:=fk (aO cs i gs);simp[-List.all_eq_true,this,mm]
 generalize D.lst ((ay cs g).map .int)=CG at ixi ixc;generalize ar cs=CV at ixc;generalize aM (ac cs p gs)=LR at ixr;generalize D.lst (ah (aO cs i gs))=row at ixr inn;by_cases h:g∈gs
 ·rw[decide_eq_true h] at inn;simp[-aJ,-gE,compF,ixc,ixi,ixr,inn,h]
 ·rw[decide_eq_false h] at inn;simp[-aJ,-gE,compF,ixc,ixi,ixr,inn,h]
theorem FN (n:Nat)(p:Nat)(cs:List (List Int))(gs:List Nat)(C:Cv p cs)(W:Wn cs gs):au (compF G (run G (n+1)) [none,none,some (ar cs),some (aM (ac cs p gs))] (.one 1) [(.op .eq [(.call 87 [(.var 3),(.op .ix [(.var 2),(.var 1)]),(.var 1)]),(.op .lst [])])] (.var 1)) (ah (am gs))=.ok ((cU cs gs).map fun a=>(0,.int (a:Nat))):=by
 refine oE (e:=fun a:Nat=>D.int (Int.ofNat a)) fun g hg=>?_;have hgG:=(W.mS C g).mp hg;have hgl:=W.lt g hgG;have ixc:=mo hgl;have qq:=qM P n 0 0 0 p cs gs g C W hgG;have eq:bg false (.lst (ah (am (cg cs gs g)))) (.lst [])=some (99,.bl (cg cs gs g).isEmpty):=eB (ou _ _) rfl (by
  rw[sv,Bool.eq_iff_iff];simp only[decide_eq_true_eq];exact (qp C W).trans List.isEmpty_iff.symm) false
 generalize D.lst ((ay cs g).map .int)=CG at ixc qq;generalize ar cs=CV at ixc;generalize aM (ac cs p gs)=LR at qq;generalize D.lst (ah (am (cg cs gs g)))=YY at qq eq;cases h:(cg cs gs g).isEmpty with
 | true=>
  rw[h] at eq;simp[-aJ,-bg,compF,ixc,P.f87,gQ,qq,eq]
 | false=>
  rw[h] at eq;simp[-aJ,-bg,compF,ixc,P.f87,gQ,qq,eq]
theorem FX (n:Nat)(rows:List (List Nat))(hr:∀r∈rows,r.length<=6):au (compF G (run G n) [none,none] (.one 1) [] (.op .ix [(.op .add [(.op .lst [(.cst .non)]),(.var 1)]),(.op .neg [(.cst (.int (1)))])])) (rows.map fun r=>D.lst (ah r))=.ok (rows.map fun r=>(0,seenD r)):=by
 refine gB fun r hrm=>?_;have ad:de (.lst [.non]) (.lst (ah r))=some (1,.lst (.non::ah r)):=mN (by simp) (by rw[d7]; have:=hr r hrm; omega);have i1:aJ (.lst (.non::ah r)) (.int (-1))=some (0,seenD r):=by
  rcases List.eq_nil_or_concat r with e | ⟨A,g,e⟩
  ·subst e; simp[ah,seenD,aJ,bO]
  ·rw[List.concat_eq_append] at e;subst e;have hl:(D.non::ah (A++[g])).length=A.length+2:=by rw[List.length_cons,d7]; simp
   have e1:bO (D.non::ah (A++[g])).length (-1)=some (A.length+1):=by rw[uC (by omega),hl]; rfl
   have e2:(D.non::ah (A++[g]))[A.length+1]? = some (.int (g:Nat)):=by simp[ah]
   simp only[aJ,D.seq,e1,Option.bind_some,e2];simp[seenD]
 generalize D.lst (ah r)=row at ad;generalize D.lst (.non::ah r)=row2 at ad i1;simp[-aJ,-de,compF,ad,i1]
theorem wY (n:Nat)(p:Nat)(cs:List (List Int))(gs:List Nat)(C:Cv p cs)(W:Wn cs gs)(d:D)(hd:d.scal=true)(hp:d.pur 59=true)(c x5 x6 x8 x9:Option KD):Ou G (run G (n+8)) [] [some (0,wd p cs),some (0,aC (ac cs p gs)),some (0,aM (ac cs p gs)),some (0,ar cs),c,x5,x6,some (0,d),x8,x9]
  [.setT [8,9] (.call 88 [(.var 0),(.var 1),(.cst (.str "over")),(.var 7)]),.iff (.op .ne [(.var 8),(.call 82 [(.var 2),(.var 3),(.cst (.str "over")),(.var 7)])]) [.ret (.cst (.bl false))] [],.ret (.or (.op .ne [(.var 8),(.op .tup [])]) (.call 74 [(.var 9),(.call 87 [(.var 2),(.op .ix [(.var 3),(.var 7)]),(.var 7)])]))] (fun _=>False) (fun x=>x=.bl true) fun _ _ _=>False:=by
 obtain⟨due,f,cs1⟩:=Cs.any C W .ov d hd;obtain⟨j1,q1⟩:=ue P n 0 0 99 0 p cs gs C W .ov d due f cs1;obtain⟨j2,q2⟩:=ug P (n+6) 0 0 99 0 p cs gs C W .ov d due f cs1;have pd:=cs1.pur hp;have ne:=eB pd pd (jn 60 due pd) true;have ov:wS .ov=.str "over":=rfl;rw[ov] at q1 q2;have fin:∃j,eval G (run G (n+8)) (Fr.sl [some (0,wd p cs),some (0,aC (ac cs p gs)),some (0,aM (ac cs p gs)),some (0,ar cs),c,x5,x6,some (0,d),some (0,due),some (0,f)]) (.or (.op .ne [(.var 8),(.op .tup [])]) (.call 74 [(.var 9),(.call 87 [(.var 2),(.op .ix [(.var 3),(.var 7)]),(.var 7)])]))=.ok (j,.bl true):=by
  have nt:∀x xs,(D.tup (x::xs)).pur 60=true->bg true (.tup (x::xs)) (.tup [])=some (99,.bl true):=fun x xs h=>eB (b:=false) h rfl (by simp[D.eq,D.eqs]) true;cases cs1 with
  | no _ _=>exact⟨99,by have:=nt _ _ pd; generalize D.tup [.int 0,d]=U at this; simp[-bg,this]⟩
  | not _ _ _=>exact⟨99,by have:=nt _ _ pd; revert this; generalize D.tup [.int 2,_]=U; intro this; simp[-bg,this]⟩
  | @ov g h=>
   have ixc:=mo (W.lt g h);have qq:=qM P (n+7) 0 0 0 p cs gs g C W h;obtain⟨j,ql⟩:=o5 P (n+7) 0 1 (ah (am (cg cs gs g))) (by
    have:=List.length_filter_le (fun k=>(cg cs gs g).contains k) (List.range 6);rw[d7];have h6:(am (cg cs gs g)).length<=6:=by simpa[am] using this
    omega) (rE _)
   have e0:bg true (.tup []) (.tup [])=some (99,.bl false):=eB (b:=true) rfl rfl rfl true;refine⟨j,?_⟩;generalize D.lst ((ay cs g).map .int)=CG at ixc qq;generalize ar cs=CV at ixc;generalize aM (ac cs p gs)=LR at qq;generalize D.lst (ah (am (cg cs gs g)))=YY at qq ql;simp[-aJ,-bg,e0,ixc,P.f87,gQ,qq,P.f74,iX,ql]
 generalize aC (ac cs p gs)=WW at q1 fin;generalize wd p cs=WD at q1 fin;generalize aM (ac cs p gs)=LR at q2 fin;generalize ar cs=CV at q2 fin;refine Ou.setT (j:=j1) (ds:=[due,f]) (by simp[P.f88,jY,q1]) rfl (by simp) ?_;refine Ou.low (a':=[some (0,WD),some (0,WW),some (0,LR),some (0,CV),c,x5,x6,some (0,d),some (0,due),some (0,f)]) (.of_eq (by simp[di])) ?_;refine Ou.iffN (j:=99) (by simp[-bg,P.f82,ko,q2,ne]) ?_;exact Ou.retE fin rfl
end Ip
end
section
namespace Ip
open PySem (Str)
theorem xz (rows:List (List Nat)):∀x∈rows.map seenD,nA x=true/\x.pur 59=true:=fun x hx=>by
 obtain⟨r,_,rfl⟩:=c9 hx;unfold seenD;split
 ·exact⟨rfl,j4 _ _⟩
 ·exact⟨rfl,wP _⟩
theorem jT (ns:List Nat):(am ns).length<=6:=by
 have:=List.length_filter_le (fun k=>ns.contains k) (List.range 6);simpa[am] using this
variable {G:Pg}(P:P3 G)
include P
set_option maxHeartbeats 1000000 in
theorem yo (n k k' k'' k3 k4:Nat)(p:Nat)(cs:List (List Int))(gs:List Nat)(C:Cv p cs)(W:Wn cs gs)(c:Int):∃j,run G (n+9) 90 [(k,wd p cs),(k',aC (ac cs p gs)),(k'',aM (ac cs p gs)),(k3,ar cs),(k4,.int c)]=.ret j (.bl true) []:=by
 have h100:100<=SL:=by decide
 have q0:=hV P.p.c.l (n+7) 0 99 99 c 12211 4 (by decide) (dU.mpr (by decide));generalize bE c 12211 4=v at q0;have hlc:dg (fun xs=>some (99,D.int xs.length)) (ar cs)=some (99,.int cs.length):=by simp[ar]
 have hmS:cs.length<=SL:=by have:=C.m6; omega
 have c1:=FD P (n+8) p cs gs C W;have c2:=FN P (n+7) p cs gs C W;have hr6:∀r∈ac cs p gs,r.length<=6:=fun r hr=>by
  obtain⟨j,_,rfl⟩:=c9 hr;exact bK (List.length_filter_le _ _) (W.len C)
 have c3:=FX P (n+8) (ac cs p gs) hr6;have hS:((ac cs p gs).map fun r=>D.lst (ah r)).length<=SL:=by rw[List.length_map,gg]; have:=C.p6; omega
 have jf:∀xs:List Nat,aB (xs.map fun a=>((0:Nat),D.int (a:Nat)))=98:=fun xs=>k6 fun x hx=>by
  obtain⟨c,_,rfl⟩:=c9 hx;simp
 have j3:aB ((ac cs p gs).map fun r=>((0:Nat),seenD r))=98:=k6 fun x hx=>by
  obtain⟨r,_,rfl⟩:=c9 hx;simp only[seenD];split <;> rfl
 have eN:∀xs:List Nat,ah xs=(xs.map fun a=>((0:Nat),D.int (a:Nat))).map (·.2):=fun xs=>by simp[ah]
 have qw:=mV P.p (n+7) 0 p cs gs C W;have qo:=yT P.p (n+1) 0 0 p cs gs C W;have qs:=At P.p (n+7) 0 p cs gs C;have l1:(ah (am gs)).length<=1000:=by rw[d7]; have:=jT gs; omega
 have l1S:(ah (am gs)).length<=SL:=by rw[d7]; have:=jT gs; omega
 have l2:(ah (cU cs gs)).length<=1000:=by
  have:=List.length_filter_le (fun g=>(cg cs gs g).isEmpty) (am gs);have h6:=jT gs;rw[d7];unfold cU;omega
 have l3:((ac cs p gs).map seenD).length<=1000:=by rw[List.length_map,gg]; have:=C.p6; omega
 obtain⟨t1,qt1⟩:=o5 P (n+7) 1 0 (ah (am gs)) l1 (rE _);obtain⟨t2,qt2⟩:=o5 P (n+7) 99 99 (ah (cU cs gs)) l2 (rE _);obtain⟨t3,qt3⟩:=o5 P (n+7) 99 99 ((ac cs p gs).map seenD) l3 (xz _);have key:Ou G (run G (n+8)) [] [some (0,wd p cs),some (0,aC (ac cs p gs)),some (0,aM (ac cs p gs)),some (0,ar cs),some (0,.int c),none,none,none,none,none] mQ.body (fun _=>False) (fun x=>x=.bl true) fun _ _ _=>False:=by
  refine Ou.set (x:=(99,.int v)) (by simp[P.p.c.l.f71,df,q0]) rfl (by simp) ?_;refine Ou.setE (d:=.lst (ah (am gs))) ?_ rfl (by simp) ?_
  ·rw[eN];have j1:=jf (am gs);generalize aM (ac cs p gs)=LR at c1;generalize ar cs=CV at hlc c1;generalize ((am gs).map fun a=>((0:Nat),D.int (a:Nat)))=ZZ at c1 j1;exact⟨99,by simp[-dg,hlc,wk_rng1 hmS,hmS,c1,j1]⟩
  refine Ou.low (a':=[some (0,wd p cs),some (0,aC (ac cs p gs)),some (0,aM (ac cs p gs)),some (0,ar cs),some (0,.int c),some (0,.int v),some (0,.lst (ah (am gs))),none,none,none]) (.of_eq (by simp)) ?_;by_cases v0:v=0
  ·refine Ou.iffT (j:=99) (by simp[D.eq,v0]) ?_;refine Ou.retE ⟨t1,?_⟩ rfl;generalize aC (ac cs p gs)=WW at qw;generalize D.lst (ah (am gs))=SS at qw qt1;simp[P.p.v.f24,gZ,qw,P.f74,iX,qt1]
  refine Ou.iffN (j:=99) (by simp[D.eq,v0]) ?_;by_cases v1:v=1
  ·refine Ou.iffT (j:=99) (by simp[D.eq,v1]) ?_;refine Ou.retE ⟨t2,?_⟩ rfl;have e:=eN (cU cs gs);have j2:=jf (cU cs gs);generalize aC (ac cs p gs)=WW at qo;generalize wd p cs=WD at qo;generalize aM (ac cs p gs)=LR at c2;generalize ar cs=CV at c2;generalize ah (am gs)=SS at c2 l1S;generalize ((cU cs gs).map fun a=>((0:Nat),D.int (a:Nat)))=ZZ at c2 j2 e;rw[e] at qo qt2;simp[P.p.f28,nv,qo,l1S,c2,j2,P.f74,iX,qt2]
  refine Ou.iffN (j:=99) (by simp[D.eq,v1]) ?_;by_cases v2:v=2
  ·refine Ou.iffT (j:=99) (by simp[D.eq,v2]) ?_;refine Ou.retE ⟨t3,?_⟩ rfl;have e:(ac cs p gs).map seenD=((ac cs p gs).map fun r=>((0:Nat),seenD r)).map (·.2):=by simp
   have el:aM (ac cs p gs)=.lst ((ac cs p gs).map fun r=>D.lst (ah r)):=rfl;rw[el];generalize aC (ac cs p gs)=WW at qs;generalize ((ac cs p gs).map fun r=>D.lst (ah r))=LR at c3 hS;generalize ((ac cs p gs).map fun r=>((0:Nat),seenD r))=ZZ at c3 j3 e;rw[e] at qs qt3;simp[P.p.f29,mH,qs,hS,c3,j3,P.f74,iX,qt3]
  refine Ou.iffN (j:=99) (by simp[D.eq,v2]) ?_;have hm:(0:Int)<cs.length:=by have:=C.m1; omega
  have q3:=hV P.p.c.l (n+7) 0 99 99 c 30323 cs.length hm (dU.mpr (by decide));have q5:=hV P.p.c.l (n+7) 0 99 99 c 30307 5 (by decide) (dU.mpr (by decide));generalize bE c 30323 cs.length=u at q3;generalize bE c 30307 5=t at q5;obtain⟨d,qd,d1,d2,_⟩:=tK P (n+6) 99 0 cs.length c;refine Ou.set (x:=(99,.int u)) (by generalize ar cs=CV at hlc; simp[-dg,hlc,P.p.c.l.f71,df,q3]) rfl (by simp) ?_;refine Ou.low (a':=[some (0,wd p cs),some (0,aC (ac cs p gs)),some (0,aM (ac cs p gs)),some (0,ar cs),some (0,.int c),some (0,.int v),some (0,.lst (ah (am gs))),some (0,.int u),none,none]) (.of_eq (by simp)) ?_;by_cases t0:t=0
  ·refine Ou.iffT (j:=99) (by simp[D.eq,t0,P.p.c.l.f71,df,q5]) ?_;refine Ou.set (x:=(0,d)) (by generalize ar cs=CV at hlc; simp[-dg,hlc,P.f85,gF,qd]) rfl (by simp) ?_;refine Ou.nil ?_;exact Ou.low (.of_eq (by simp)) (wY P n p cs gs C W d d1 d2 (some (0,.int c)) (some (0,.int v)) (some (0,.lst (ah (am gs)))) none none)
  ·refine Ou.iffN (j:=99) (by simp[D.eq,t0,P.p.c.l.f71,df,q5]) ?_;exact wY P n p cs gs C W (.int u) rfl (j4 _ _) (some (0,.int c)) (some (0,.int v)) (some (0,.lst (ah (am gs)))) none none
 obtain⟨j,x,e,rfl⟩:=Ou.run (n:=n+8) (vs:=[(k,wd p cs),(k',aC (ac cs p gs)),(k'',aM (ac cs p gs)),(k3,ar cs),(k4,.int c)]) (V:=fun x=>x=.bl true) P.f90 rfl rfl (key.mono (fun _ h=>h.elim) (fun _ h=>h) fun _ _ _ h=>h);exact⟨j,e⟩
end Ip
end
section
namespace Ip
open PySem (Str)
theorem zM (c:Int)(p:Nat):(dq c p).Nodup:=by
 unfold dq;split
 ·simp
 ·have h:(dP c p).Nodup:=List.nodup_range.filter _;exact List.pairwise_map.mpr (h.imp fun h e=>h (by omega))
theorem uB (h:ef p c=true):c≠[]/\∀i∈c,0<=i/\i<p:=by
 simp only[ef,Bool.and_eq_true,decide_eq_true_eq,List.all_eq_true] at h;exact⟨h.1.1,fun i hi=>h.1.2 i hi⟩
theorem FP (f:α->β)(xs:List α)(lo hi:Option Int):cutD (xs.map f) lo hi=(cutD xs lo hi).map f:=by
 simp[cutD,List.map_take,List.map_drop]
noncomputable def lawP (ns:List Int):Nat:=1+(bE (ns.getD 0 0) 3791 6).toNat
noncomputable def bY (ns:List Int):List (List Int):=((ns++[0]).take 6).map fun c=>dq c (lawP ns)
theorem zi (ns:List Int):Cv (lawP ns) (bY ns):=by
 have p1:1<=lawP ns:=by unfold lawP; omega
 have p6:lawP ns<=6:=by
  have:=pE (c:=ns.getD 0 0) (p:=3791) (m:=6) (by decide);have:=mx (c:=ns.getD 0 0) (p:=3791) (m:=6) (by decide);unfold lawP;omega
 have hm:∀g,ay (bY ns) g=[]/\¬g<(bY ns).length\/∃x,ay (bY ns) g=dq x (lawP ns):=fun g=>by
  by_cases h:g<(bY ns).length
  ·have e:ay (bY ns) g=(bY ns)[g]:=by simp[ay,h]
   obtain⟨x,_,hx⟩:=c9 (List.getElem_mem h:(bY ns)[g]∈bY ns);exact .inr ⟨x,by rw[e,<-hx]⟩
  ·exact .inl ⟨by simp[ay,List.getD_eq_getElem?_getD,List.getElem?_eq_none (show (bY ns).length<=g by omega)],h⟩
 refine⟨p1,p6,by unfold bY; simp; omega,by unfold bY; simp; omega,fun g hg=>?_,fun g i hi=>?_,fun g=>?_,fun g=>?_⟩
 ·rcases hm g with h | ⟨x,h⟩
  ·exact absurd hg h.2
  ·rw[h]; exact (uB (sO p1)).1
 ·rcases hm g with h | ⟨x,h⟩
  ·rw[h.1] at hi; cases hi
  ·rw[h] at hi; exact (uB (sO p1)).2 i hi
 ·rcases hm g with h | ⟨x,h⟩
  ·rw[h.1]; exact .nil
  ·rw[h]; exact zM _ _
 ·rcases hm g with h | ⟨x,h⟩
  ·rw[h.1]; simp
  ·rw[h]; exact wB p6
noncomputable def heldD (rows:List (List Nat)):D:=.tup [aC rows,aM rows]
theorem Cs.bools (h:Cs p cs gs w d due f)(hp:d.pur 59=true):bg false due (.tup [.int 0,d])=some (99,.bl false)\/(bg false due (.tup [.int 0,d])=some (99,.bl true)/\aJ due (.int 1)=some (0,d)):=by
 have pd:=h.pur hp;have p0:(D.tup [.int 0,d]).pur 60=true:=by simp[hp]
 cases h with
 | no _ _=>exact .inr ⟨eB p0 p0 (jn 60 _ p0) false,by simp[bO]⟩
 | _=>exact .inl (eB pd p0 (by simp[D.eq,D.eqs]) false)
variable {G:Pg}(P:P3 G)
include P
theorem zK (C:Cv p cs)(W:Wn cs gs)(h:Cs p cs gs w d due f)(hw:w≠.ov)(hp:d.pur 59=true):bg false due (.tup [])=some (99,.bl false)\/(due=.tup []/\∃gs',Wn cs gs'/\f=aC (ac cs p gs')/\∀n,∃j,run G (n+1) 89 [(0,aM (ac cs p gs)),(0,ar cs),(0,wS w),(0,d)]=.ret j (aM (ac cs p gs')) []):=by
 have pd:=h.pur hp;cases h with
 | @on g h hn=>
  refine .inr ⟨rfl,gs++[g],⟨(List.perm_append_comm.nodup_iff (l₁:=gs++[g]) (l₂:=[g]++gs)).mpr (List.nodup_cons.mpr ⟨hn,W.nd⟩),fun x hx=>?_⟩,rfl,fun n=>?_⟩
  ·rcases dI hx with h | h
   ·exact W.lt x h
   ·rw[List.mem_singleton.mp h]; assumption
  ·exact vg P n 0 0 0 0 p cs gs (gs++[g]) .on g (fun r=>r++[g]) C W h (by rw[<-uY C]; rfl) (.inl ⟨rfl,rfl⟩)
 | @off g h e=>
  refine .inr ⟨rfl,rmv g gs,W.rmv g,rfl,fun n=>?_⟩;exact vg P n 0 0 0 0 p cs gs (rmv g gs) .off g List.dropLast C W (W.lt g h) (wc C W.nd h e) (.inr ⟨rfl,rfl,fun j hj z=>by
   obtain⟨r,e2,_⟩:=uf W.nd h e hj;rw[e2] at z;simp at z⟩)
 | ov h=>exact absurd rfl hw
 | _=>exact .inl (eB pd rfl (by simp[D.eq,D.eqs]) false)
def oz (ns:List Int)(p:Nat)(cs:List (List Int))(r:List D)(a:Fr):Prop:=∃(x7 x8 x9 x10 x11 x12:Option KD) (gs:List Nat) (hs:List (List (List Nat))) (rest:List Int),a=[some (0,.lst (ns.map .int)),some (0,.int p),some (0,ar cs),some (0,wd p cs),some (0,aC (ac cs p gs)),some (0,aM (ac cs p gs)),some (1,.lst (hs.map heldD)),x7,x8,x9,x10,x11,x12]/\r=rest.map .int/\Wn cs gs/\hs.length+rest.length<=63/\∀h∈hs,h.length<=6
theorem wz (n:Nat)(ns:List Int)(p:Nat)(cs:List (List Int))(C:Cv p cs)(rest:List Int)(c:Int)(gs:List Nat)(W:Wn cs gs)(hs:List (List (List Nat)))(hl:hs.length+rest.length<=63)(h6:∀h∈hs,h.length<=6)(x8 x9 x10 x11 x12:Option KD) :
  Ou G (run G (n+9)) [] [some (0,.lst (ns.map .int)),some (0,.int p),some (0,ar cs),some (0,wd p cs),some (0,aC (ac cs p gs)),some (0,aM (ac cs p gs)),some (1,.lst (hs.map heldD)),some (0,.int c),x8,x9,x10,x11,x12]
  [.iff (.or (.op .not [(.call 86 [(.var 4),(.var 5)])]) (.op .not [(.call 90 [(.var 3),(.var 4),(.var 5),(.var 2),(.var 7)])])) [.ret (.cst (.bl false))] []] (oz ns p cs (rest.map .int)) (fun d=>d=.bl true) fun _ _ _=>False:=by
 obtain⟨j1,q1⟩:=uw P (n+7) 0 0 p cs gs C W;obtain⟨j2,q2⟩:=yo P n 0 0 0 0 0 p cs gs C W c;refine Ou.iffN (j:=99) ?_ ?_
 ·generalize aC (ac cs p gs)=WW at q1 q2;generalize aM (ac cs p gs)=LR at q1 q2;generalize wd p cs=WD at q2;generalize ar cs=CV at q2;simp[P.f86,lr,q1,P.f90,mQ,q2]
 ·exact Ou.nil ⟨_,_,_,_,_,_,gs,hs,rest,rfl,rfl,W,hl,h6⟩
noncomputable def lY:List S:=match lv.body.getD 7 .pass with
 | .fo _ _ _ b=>b
 | _=>[]
set_option maxHeartbeats 1000000 in
theorem Fk (n:Nat)(ns:List Int)(p:Nat)(cs:List (List Int))(C:Cv p cs)(rest:List Int)(c:Int)(gs:List Nat)(W:Wn cs gs)(hs:List (List (List Nat)))(hl:hs.length+(rest.length+1)<=63)(h6:∀h∈hs,h.length<=6)(x8 x9 x10 x11 x12:Option KD) :
  Ou G (run G (n+9)) [] [some (0,.lst (ns.map .int)),some (0,.int p),some (0,ar cs),some (0,wd p cs),some (0,aC (ac cs p gs)),some (0,aM (ac cs p gs)),some (1,.lst (hs.map heldD)),some (0,.int c),x8,x9,x10,x11,x12] lY (oz ns p cs (rest.map .int)) (fun d=>d=.bl true) fun _ _ _=>False:=by
 have h100:100<=SL:=by decide
 have hlc:dg (fun xs=>some (99,D.int xs.length)) (ar cs)=some (99,.int cs.length):=by simp[ar]
 have hm:(0:Int)<cs.length:=by have:=C.m1; omega
 have q1:=hV P.p.c.l (n+8) 0 99 99 c 16807 3 (by decide) (dU.mpr (by decide));have a0:=mx (c:=c) (p:=16807) (m:=3) (by decide);have a1:=pE (c:=c) (p:=16807) (m:=3) (by decide);generalize bE c 16807 3=v at q1 a0 a1;have q2:=hV P.p.c.l (n+8) 0 99 99 c 69621 cs.length hm (dU.mpr (by decide));generalize bE c 69621 cs.length=u at q2;have q3:=hV P.p.c.l (n+8) 0 99 99 c 40692 8 (by decide) (dU.mpr (by decide));generalize bE c 40692 8=t at q3;obtain⟨d0,qd,d1,d2,_⟩:=tK P (n+7) 99 0 cs.length c;obtain⟨w,hw,ixw⟩:∃w:Wrd,w≠.ov/\aJ (.lst [.str "on",.str "on",.str "off"]) (.int v)=some (0,wS w):=by
  obtain h | h | h:v=0\/v=1\/v=2:=by omega
  ·subst h; exact⟨.on,by simp,by simp[bO,wS]⟩
  ·subst h; exact⟨.on,by simp,by simp[bO,wS]⟩
  ·subst h; exact⟨.off,by simp,by simp[bO,wS]⟩
 refine Ou.set (x:=(0,wS w)) (by simp[-aJ,P.p.c.l.f71,df,q1,ixw]) rfl (by simp) ?_;refine Ou.set (x:=(99,.int u)) (by generalize ar cs=CV at hlc; simp[-dg,hlc,P.p.c.l.f71,df,q2]) rfl (by simp) ?_;refine Ou.low (a':=[some (0,.lst (ns.map .int)),some (0,.int p),some (0,ar cs),some (0,wd p cs),some (0,aC (ac cs p gs)),some (0,aM (ac cs p gs)),some (1,.lst (hs.map heldD)),some (0,.int c),some (0,wS w),some (0,.int u),x10,x11,x12]) (.of_eq (by simp)) ?_;have main:∀d:D,d.scal=true->d.pur 59=true->Ou G (run G (n+9)) [] [some (0,.lst (ns.map .int)),some (0,.int p),some (0,ar cs),some (0,wd p cs),some (0,aC (ac cs p gs)),some (0,aM (ac cs p gs)),some (1,.lst (hs.map heldD)),some (0,.int c),some (0,wS w),some (0,d),x10,x11,x12] (lY.drop 3) (oz ns p cs (rest.map .int)) (fun d=>d=.bl true) fun _ _ _=>False:=by
  intro d ds dp;obtain⟨due,f,k⟩:=Cs.any C W w d ds;obtain⟨j1,r1⟩:=ue P (n+1) 0 0 0 0 p cs gs C W w d due f k;obtain⟨j2,r2⟩:=ug P (n+7) 0 0 0 0 p cs gs C W w d due f k;have pd:=k.pur dp;have ne:=eB pd pd (jn 60 due pd) true;refine Ou.setT (j:=j1) (ds:=[due,f]) ?_ rfl (by simp) ?_
  ·generalize aC (ac cs p gs)=WW at r1;generalize wd p cs=WD at r1;generalize wS w=ww at r1;simp[P.f88,jY,r1]
  refine Ou.low (a':=[some (0,.lst (ns.map .int)),some (0,.int p),some (0,ar cs),some (0,wd p cs),some (0,aC (ac cs p gs)),some (0,aM (ac cs p gs)),some (1,.lst (hs.map heldD)),some (0,.int c),some (0,wS w),some (0,d),some (0,due),some (0,f),x12]) (.of_eq (by simp[di])) ?_;refine Ou.set (x:=(j2,due)) ?_ rfl (by simp) ?_
  ·generalize aM (ac cs p gs)=LR at r2;generalize ar cs=CV at r2;generalize wS w=ww at r2;simp[P.f82,ko,r2]
  refine Ou.low (a':=[some (0,.lst (ns.map .int)),some (0,.int p),some (0,ar cs),some (0,wd p cs),some (0,aC (ac cs p gs)),some (0,aM (ac cs p gs)),some (1,.lst (hs.map heldD)),some (0,.int c),some (0,wS w),some (0,d),some (0,due),some (0,f),some (0,due)]) (.of_eq (by simp)) ?_;refine Ou.iffN (j:=99) ?_ ?_
  ·rcases k.bools dp with b | ⟨b,ix⟩
   ·simp[-bg,-aJ,ne,b]
   ·have nb:∀b:Bool,bg true (.bl b) (.bl b)=some (99,.bl false):=fun b=>eB (b:=true) (by simp) (by simp) (by simp[D.eq]) true;simp[-bg,-aJ,ne,b,ix,nb]
  rcases zK P C W k hw dp with b | ⟨rfl,gs',W',rfl,rs⟩
  ·refine Ou.iffN (j:=99) (by simp[-bg,b]) ?_;exact wz P n ns p cs C rest c gs W hs (by omega) h6 _ _ _ _ _
  ·have b:bg false (.tup []) (.tup [])=some (99,.bl true):=eB (b:=true) rfl rfl rfl false;obtain⟨j5,r5⟩:=rs (n+8);have cc:=iE P (n+9) (ac cs p gs) rowD fun r=>.inr rfl;have hS:((ac cs p gs).map rowD).length<=SL:=by rw[List.length_map,gg]; have:=C.p6; omega
   have el:aM (ac cs p gs)=.lst ((ac cs p gs).map fun r=>D.lst (ah r)):=rfl;have e2:(ac cs p gs).map (fun r=>D.lst (ah r))=((ac cs p gs).map fun r=>((1:Nat),D.lst (ah r))).map (·.2):=by simp
   refine Ou.iffT (j:=99) (by simp[-bg,b]) ?_;refine Ou.set (x:=(j5,aM (ac cs p gs'))) ?_ rfl (by simp) ?_
   ·generalize aM (ac cs p gs)=LR at r5;generalize ar cs=CV at r5;generalize wS w=ww at r5;simp[P.f89,mR,r5]
   refine Ou.low (a':=[some (0,.lst (ns.map .int)),some (0,.int p),some (0,ar cs),some (0,wd p cs),some (0,aC (ac cs p gs)),some (0,aM (ac cs p gs')),some (1,.lst (hs.map heldD)),some (0,.int c),some (0,wS w),some (0,d),some (0,.tup []),some (0,aC (ac cs p gs')),some (0,.tup [])]) (.of_eq (by simp)) ?_;have he:∃j,eval G (run G (n+9)) (Fr.sl [some (0,.lst (ns.map .int)),some (0,.int p),some (0,ar cs),some (0,wd p cs),some (0,aC (ac cs p gs)),some (0,aM (ac cs p gs')),some (1,.lst (hs.map heldD)),some (0,.int c),some (0,wS w),some (0,d),some (0,.tup []),some (0,aC (ac cs p gs')),some (0,.tup [])]) (.op .tup [(.var 4),(.comp [none,none] (.one 1) .seq [(.var 4)] [] (.op .list [(.var 1)]))])=.ok (j,heldD (ac cs p gs)):=by
    unfold heldD;rw[el,e2];unfold aC;generalize (ac cs p gs).map rowD=RW at cc hS;generalize ((ac cs p gs).map fun r=>((1:Nat),D.lst (ah r)))=ZZ at cc;exact⟨_,by simp[hS,cc]; rfl⟩
   obtain⟨jh,he⟩:=he;refine Ou.append (k:=0) (xs:=hs.map heldD) (v:=(jh,heldD (ac cs p gs))) (by simp) he (by simp; omega) ?_;refine Ou.set (x:=(0,aC (ac cs p gs'))) (by simp) rfl (by simp) ?_;refine Ou.nil (Ou.low (a':=[some (0,.lst (ns.map .int)),some (0,.int p),some (0,ar cs),some (0,wd p cs),some (0,aC (ac cs p gs')),some (0,aM (ac cs p gs')),some (1,.lst ((hs++[ac cs p gs]).map heldD)),some (0,.int c),some (0,wS w),some (0,d),some (0,.tup []),some (0,aC (ac cs p gs')),some (0,.tup [])]) (.of_eq (by simp)) ?_);refine wz P n ns p cs C rest c gs' W' (hs++[ac cs p gs]) (by simp; omega) (fun h hh=>?_) _ _ _ _ _;rcases dI hh with h1 | h1
   ·exact h6 h h1
   ·rw[List.mem_singleton.mp h1,gg]; exact C.p6
 by_cases t0:t=0
 ·refine Ou.iffT (j:=99) (by simp[D.eq,t0,P.p.c.l.f71,df,q3]) ?_;refine Ou.set (x:=(0,d0)) (by generalize ar cs=CV at hlc; simp[-dg,hlc,P.f85,gF,qd]) rfl (by simp) ?_;exact Ou.nil (Ou.low (.of_eq (by simp)) (main d0 d1 d2))
 ·refine Ou.iffN (j:=99) (by simp[D.eq,t0,P.p.c.l.f71,df,q3]) ?_;exact main (.int u) rfl (j4 _ _)
end Ip
end
section
namespace Ip
open PySem (Str)
section
variable {G:Pg}(P:P3 G)
include P
theorem rK:aY G 17 2=some (18,jD,.ins 17 []):=by
 simp[aY,P.p.v.a.c17,P.p.v.a.f18,jD]
theorem Bf (n:Nat)(hs:List (List (List Nat)))(h6:∀h∈hs,h.length<=6):au (compF G (run G n) [none,none,none] (.many [1,2]) [] (.op .eq [(.comp [none,none] (.one 1) .seq [(.var 1)] [] (.op .list [(.var 1)])),(.var 2)])) (hs.map heldD)=.ok (hs.map fun _=>(99,.bl true)):=by
 refine gB fun rows hr=>?_;have hS:(rows.map rowD).length<=SL:=by
  rw[List.length_map];exact bK (h6 rows hr) (by decide)
 have cc:=iE P n rows rowD fun r=>.inr rfl;have el:aM rows=.lst ((rows.map fun r=>((1:Nat),D.lst (ah r))).map (·.2)):=by simp[aM]
 have e0:=eB (k8 rows 58) (k8 rows 58) (jn 60 (aM rows) (k8 _ 58)) false;unfold heldD aC;rw[el] at e0 ⊢;generalize rows.map rowD=RW at cc hS;generalize (rows.map fun r=>((1:Nat),D.lst (ah r)))=ZZ at cc e0;simp[-bg,compF,hS,cc,e0]
set_option maxHeartbeats 1000000 in
theorem AJ (n k:Nat)(ns:List Int)(hl:ns.length<=63):∃kk,run G (n+10) 69 [(k,.lst (ns.map .int))]=.ret kk (.bl true) []:=by
 have h100:100<=SL:=by decide
 have C:=zi ns;have q1:run G (n+9) 70 [(0,.lst (ns.map .int)),(99,.int 0)]=.ret 0 (.int (ns.getD 0 0)) []:=by simpa using Eu P.p.c.l (n+8) 0 99 ns 0
 have q2:=hV P.p.c.l (n+8) 0 99 99 (ns.getD 0 0) 3791 6 (by decide) (dU.mpr (by decide));have ep:1+bE (ns.getD 0 0) 3791 6=(lawP ns:Int):=by
  have:=mx (c:=ns.getD 0 0) (p:=3791) (m:=6) (by decide);unfold lawP;omega
 have hp1:1<=lawP ns/\lawP ns<=6:=⟨C.p1,C.p6⟩
 have eC:bY ns=((ns++[0]).take 6).map fun c=>dq c (lawP ns):=rfl;have hg:∀c∈bY ns,ef (lawP ns) c=true:=fun c hc=>by
  rw[eC] at hc;obtain⟨x,_,rfl⟩:=c9 hc;exact sO hp1.1
 have h6:∀c∈bY ns,c.length<=6:=fun c hc=>by
  rw[eC] at hc;obtain⟨x,_,rfl⟩:=c9 hc;exact wB hp1.2
 have cc:au (compF G (run G (n+9)) [none,none,some (.int (lawP ns))] (.one 1) [] (.call 72 [(.var 1),(.var 2)])) (((ns++[0]).take 6).map D.int)=.ok ((bY ns).map fun c=>(99,.lst (c.map .int))):=by
  rw[eC,List.map_map];refine gB fun x _=>?_;have q:=Ci P.p.c (n+7) 0 0 x (lawP ns) hp1;simp[compF,P.p.c.f72,kU,q]
 generalize hpp:lawP ns=p at C ep hp1 hg cc;generalize bY ns=cs at C hg h6 cc;have ad:de (.lst (ns.map .int)) (.lst [.int 0])=some (1,.lst ((ns++[0]).map .int)):=by
  have:=mN (xs:=ns.map .int) (ys:=[.int 0]) (by simp; omega) (by simp);rw[this]; simp
 have c6:cutD ((ns++[0]).map D.int) none (some 6)=((ns++[0]).take 6).map D.int:=by
  rw[List.map_take]; exact AM _ 6
 have hS:(((ns++[0]).take 6).map D.int).length<=SL:=by
  simp only[List.length_map,List.length_take];omega
 have hCS:cs.length<=SL:=by have:=C.m6; omega
 have hpS:p<=SL:=by omega
 have hcv:ar cs=.lst (cs.map fun c=>D.lst (c.map .int)):=rfl;have c5:au (compF G (run G (n+9)) [none,none] (.one 1) [] (.op .list [.var 1])) (cs.map fun c=>D.lst (c.map .int))=.ok (cs.map fun c=>(1,.lst (c.map .int))):=
  gB fun c _=>by simp[compF]
 have qw:∀k,run G (n+9) 18 [(1,.ins 17 []),(0,.int p),(k,ar cs)]=.ret 99 .non [(100,wd p cs)]:=fun k=>Fv P.p.v.a (n+5) 0 k p cs (by omega) C.m6 hg fun c hc=>bK (h6 c hc) (by decide);generalize ns.getD 0 0=c0 at q1 q2 ep;have cut2':cutD (ns.map D.int) (some 6) (some 56)=(cutD ns (some 6) (some 56)).map .int:=FP _ _ _ _;have hcl:(cutD ns (some 6) (some 56)).length<=63:=by
  have:(cutD ns (some 6) (some 56)).length<=ns.length:=by
   unfold cutD;simp only[List.length_take,List.length_drop];omega
  omega
 generalize cutD ns (some 6) (some 56)=cells at cut2' hcl;obtain⟨jb,qb⟩:=CP P.p.v (n+7) 0 p cs C.p6;have e0:List.replicate p ([]:List Nat)=ac cs p []:=by
  unfold ac aO;exact (List.eq_replicate_iff.mpr ⟨by simp,by simp⟩).symm
 rw[e0] at qb;have W0:Wn cs []:=⟨.nil,fun g h=>by cases h⟩
 obtain⟨jr,qr⟩:=uw P (n+7) 0 0 p cs [] C W0;have cb:au (compF G (run G (n+9)) [none,none] (.one 1) [] (.op .lst [])) ((List.range p).map fun (n:Nat)=>.int n)=.ok ((List.range p).map fun _=>(99,.lst [])):=gB fun i _=>by simp[compF]
 have eb:aM (ac cs p [])=.lst (((List.range p).map fun _=>((99:Nat),D.lst [])).map (·.2)):=by simp[aM,ac,aO,ah,Function.comp_def]
 generalize ((ns++[0]).take 6).map D.int=L6 at c6 hS cc;generalize (ns++[0]).map D.int=Ln at ad c6;have key:Ou G (run G (n+9)) [] [some (0,.lst (ns.map .int)),none,none,none,none,none,none,none,none,none,none,none,none] lv.body (fun _=>False) (fun d=>d=.bl true) fun _ _ _=>False:=by
  refine Ou.set (x:=(99,.int p)) (by simp[P.p.c.l.f70,kW,q1,P.p.c.l.f71,df,q2,ep]) rfl (by simp) ?_;refine Ou.setE (d:=ar cs) (by simp[-de,ad,c6,hS,cc,Function.comp_def,hcv]) rfl (by simp) ?_;refine Ou.setE (d:=wd p cs) (by simp[hcv,hCS,c5,rK P,jD,Function.comp_def]; rw[<-hcv]; simp[qw]) rfl (by simp) ?_;refine Ou.set (x:=(jb,aC (ac cs p []))) (by simp[P.p.v.f23,lU,qb]) rfl (by simp) ?_;refine Ou.setE (d:=aM (ac cs p [])) ?_ rfl (by simp) ?_
  ·rw[eb];generalize ((List.range p).map fun _=>((99:Nat),D.lst []))=ZZ at cb;exact⟨_,by simp[wk_rng1 hpS,hpS,cb]; rfl⟩
  refine Ou.iffN (j:=99) ?_ ?_
  ·generalize aC (ac cs p [])=WW at qr;generalize aM (ac cs p [])=LR at qr;simp[P.f86,lr,qr]
  refine Ou.setK (x:=(99,.lst [])) (by simp) (by simp) rfl (by simp) ?_;refine Ou.low (a':=[some (0,.lst (ns.map .int)),some (0,.int p),some (0,ar cs),some (0,wd p cs),some (0,aC (ac cs p [])),some (0,aM (ac cs p [])),some (99,.lst []),none,none,none,none,none,none]) (.of_eq (by simp)) ?_;refine Ou.low (a':=[some (0,.lst (ns.map .int)),some (0,.int p),some (0,ar cs),some (0,wd p cs),some (0,aC (ac cs p [])),some (0,aM (ac cs p [])),some (1,.lst []),none,none,none,none,none,none]) (.cons (.refl _) (.cons (.refl _) (.cons (.refl _) (.cons (.refl _) (.cons (.refl _) (.cons (.refl _) (.cons ⟨rfl,by decide⟩ (.refl _)))))))) ?_;refine Ou.fo (oz ns p cs) (vs:=[(1,.lst (cells.map .int))]) (xs:=cells.map .int) (by simp[cut2']) (by simp) (by simp; omega) ⟨none,none,none,none,none,none,[],[],cells,rfl,rfl,W0,by simpa using hcl,fun h hh=>by cases hh⟩ ?_ ?_
  ·rintro x r a ⟨x7,x8,x9,x10,x11,x12,gs,hs,rest,ha,hr,W,hh,h6'⟩;cases rest with
   | nil=>simp at hr
   | cons c rest=>
    simp only[List.map_cons,List.cons.injEq] at hr;obtain⟨rfl,rfl⟩:=hr;subst ha;exact⟨_,i3 rfl (by simp),Fk P n ns p cs C rest c gs W hs (by simpa using hh) h6' x8 x9 x10 x11 x12⟩
  ·rintro a ⟨x7,x8,x9,x10,x11,x12,gs,hs,rest,ha,hr,W,hh,h6'⟩;subst ha;have ch:=Bf P (n+9) hs h6';have al:allB ((hs.map fun _=>((99:Nat),D.bl true)).map (·.2))=some true:=by rw[List.map_map]; exact rS hs
   have hS':(hs.map heldD).length<=SL:=by rw[List.length_map]; omega
   generalize (hs.map fun _=>((99:Nat),D.bl true))=ZZ at ch al;generalize hs.map heldD=HS at ch hS';exact Ou.retE ⟨_,by simp[hS',ch,al]; rfl⟩ rfl
 obtain⟨j,d',e,rfl⟩:=Ou.run (n:=n+9) (vs:=[(k,.lst (ns.map .int))]) (V:=fun d=>d=.bl true) P.f69 rfl rfl (key.mono (fun _ h=>h.elim) (fun _ h=>h) fun _ _ _ h=>h);exact⟨j,e⟩
end
theorem Gg:P3 G_k03:=⟨⟨⟨⟨rfl,rfl,rfl,rfl,rfl,rfl,rfl,rfl,rfl,rfl,rfl,rfl,rfl⟩,rfl,rfl,rfl,rfl,rfl⟩,⟨⟨rfl,rfl⟩,rfl⟩,rfl,rfl,rfl,rfl,rfl⟩,rfl,rfl,rfl,rfl,rfl,rfl,rfl,rfl,rfl,rfl,rfl,rfl,rfl,rfl,rfl⟩
theorem Gj (ns:List Int)(hl:ns.length<=63):∃kk,run G_k03 10 69 [(0,.lst (ns.map .int))]=.ret kk (.bl true) []:=AJ Gg 0 0 ns hl
end Ip
end
section
namespace Ek03
open PySem PySem.Spec PyProof.Rows L2
noncomputable abbrev Pw:=PySem.Challenge.pw_quickchange_k03_put_on_and_taken_off
noncomputable def sT (n:Nat):Stmt:=Pw.main.body.getD n (.Pass ⟨0,0,0,0⟩)
noncomputable def FE:Stmt:=sT 3
noncomputable def oH:Hd.Fd:=⟨"is_whole", "is_whole",0,28,FE,none⟩
theorem zJ {W:Wd}(h:Hd.qD W.K oH=Hd.aD oH):DefAt W Ip.T_k03 Ip.jF oH.f:=Hd.bW (ps:=["value"]) (io:=[]) h rfl (Hd.bQ (by kernel_rfl)) (by kernel_rfl) rfl rfl fun _ _ _ _ _ _ us hl=>by
 obtain⟨_,rfl⟩:=c8 hl;rfl
noncomputable def Cw:Stmt:=sT 4
noncomputable def oW:Hd.Fd:=⟨"is_below", "is_below",1,35,Cw,none⟩
theorem Fq {W:Wd}(h:Hd.qD W.K oW=Hd.aD oW):DefAt W Ip.T_k03 Ip.jo oW.f:=Hd.bW (ps:=["value", "bound"]) (io:=[]) h rfl (Hd.bQ (by kernel_rfl)) (by kernel_rfl) rfl rfl fun _ _ _ _ _ _ us hl=>by
 obtain⟨_,_,rfl⟩:=cu hl;rfl
noncomputable def Bb:Stmt:=sT 5
noncomputable def nP:Hd.Fd:=⟨"copied", "copied",2,41,Bb,some (36,.int 0 213)⟩
theorem G3 {W:Wd}(h:Hd.qD W.K nP=Hd.aD nP):DefAt W Ip.T_k03 Ip.mP nP.f:=Hd.yq (ps:=["value", "depth"]) (io:=[]) (t:=36) (u:=.int 0 213) (v:=(.int 0)) (dd:=(.int 0)) h rfl (Hd.bQ (by kernel_rfl)) (by kernel_rfl) rfl rfl ⟨_,rfl⟩ (fun _=>.int) (fun _ _ _ _ _ _ _ _ _ _ lt s us KX hl=>by
 obtain⟨_,_,rfl⟩:=cu (show us.length=2 by simpa using hl);first | exact .of_eq rfl | exact .of_defaults rfl (KX _ _ lt) rfl rfl rfl) (fun _ _ _ _ _ _ _ _ _ _ lt s us KX hl=>by
 obtain⟨_,rfl⟩:=c8 (show us.length=1 by simpa using hl);exact .of_defaults rfl (KX _ _ lt) rfl rfl rfl)
noncomputable def yP:Stmt:=sT 27
noncomputable def oa:Hd.Fd:=⟨"is_rising", "is_rising",15,336,yP,none⟩
theorem A0 {W:Wd}(h:Hd.qD W.K oa=Hd.aD oa):DefAt W Ip.T_k03 Ip.lM oa.f:=Hd.bW (ps:=["numbers"]) (io:=[]) h rfl (Hd.bQ (by kernel_rfl)) (by kernel_rfl) rfl rfl fun _ _ _ _ _ _ us hl=>by
 obtain⟨_,rfl⟩:=c8 hl;rfl
noncomputable def xX:Stmt:=sT 28
noncomputable def pr:Hd.Fd:=⟨"are_places", "are_places",16,341,xX,none⟩
theorem Gx {W:Wd}(h:Hd.qD W.K pr=Hd.aD pr):DefAt W Ip.T_k03 Ip.kF pr.f:=Hd.bW (ps:=["told", "spots"]) (io:=[]) h rfl (Hd.bQ (by kernel_rfl)) (by kernel_rfl) rfl rfl fun _ _ _ _ _ _ us hl=>by
 obtain⟨_,_,rfl⟩:=cu hl;rfl
noncomputable def xU:Stmt:=sT 29
noncomputable def pj:Hd.Fd:=⟨"check_garment", "check_garment",17,348,xU,none⟩
theorem Eo {W:Wd}(h:Hd.qD W.K pj=Hd.aD pj):DefAt W Ip.T_k03 Ip.gA pj.f:=Hd.bW (ps:=["wardrobe", "garment"]) (io:=[]) h rfl (Hd.bQ (by kernel_rfl)) (by kernel_rfl) rfl rfl fun _ _ _ _ _ _ us hl=>by
 obtain⟨_,_,rfl⟩:=cu hl;rfl
noncomputable def xY:Stmt:=sT 32
noncomputable def oX:Hd.Fd:=⟨"bare_wearing", "bare_wearing",23,400,xY,none⟩
theorem CO {W:Wd}(h:Hd.qD W.K oX=Hd.aD oX):DefAt W Ip.T_k03 Ip.lU oX.f:=Hd.bW (ps:=["wardrobe"]) (io:=[]) h rfl (Hd.bQ (by kernel_rfl)) (by kernel_rfl) rfl rfl fun _ _ _ _ _ _ us hl=>by
 obtain⟨_,rfl⟩:=c8 hl;rfl
noncomputable def AK:Stmt:=sT 33
noncomputable def oI:Hd.Fd:=⟨"worn_in", "worn_in",24,407,AK,none⟩
theorem Cz {W:Wd}(h:Hd.qD W.K oI=Hd.aD oI):DefAt W Ip.T_k03 Ip.gZ oI.f:=Hd.bW (ps:=["wearing"]) (io:=[]) h rfl (Hd.bQ (by kernel_rfl)) (by kernel_rfl) rfl rfl fun _ _ _ _ _ _ us hl=>by
 obtain⟨_,rfl⟩:=c8 hl;rfl
noncomputable def yS:Stmt:=sT 34
noncomputable def nR:Hd.Fd:=⟨"put_on", "put_on",25,414,yS,none⟩
theorem yY {W:Wd}(h:Hd.qD W.K nR=Hd.aD nR):DefAt W Ip.T_k03 Ip.jg nR.f:=Hd.bW (ps:=["wardrobe", "wearing", "garment"]) (io:=[]) h rfl (Hd.bQ (by kernel_rfl)) (by kernel_rfl) rfl rfl fun _ _ _ _ _ _ us hl=>by
 obtain⟨_,_,_,rfl⟩:=dX hl;rfl
noncomputable def ym:Stmt:=sT 35
noncomputable def oO:Hd.Fd:=⟨"right_over", "right_over",26,421,ym,none⟩
theorem BH {W:Wd}(h:Hd.qD W.K oO=Hd.aD oO):DefAt W Ip.T_k03 Ip.fR oO.f:=Hd.bW (ps:=["wardrobe", "wearing", "garment"]) (io:=[]) h rfl (Hd.bQ (by kernel_rfl)) (by kernel_rfl) rfl rfl fun _ _ _ _ _ _ us hl=>by
 obtain⟨_,_,_,rfl⟩:=dX hl;rfl
noncomputable def GZ:Stmt:=sT 36
noncomputable def nL:Hd.Fd:=⟨"take_off", "take_off",27,428,GZ,none⟩
theorem Cu {W:Wd}(h:Hd.qD W.K nL=Hd.aD nL):DefAt W Ip.T_k03 Ip.ky nL.f:=Hd.bW (ps:=["wardrobe", "wearing", "garment"]) (io:=[]) h rfl (Hd.bQ (by kernel_rfl)) (by kernel_rfl) rfl rfl fun _ _ _ _ _ _ us hl=>by
 obtain⟨_,_,_,rfl⟩:=dX hl;rfl
noncomputable def AE:Stmt:=sT 37
noncomputable def nW:Hd.Fd:=⟨"outermost", "outermost",28,433,AE,none⟩
theorem zP {W:Wd}(h:Hd.qD W.K nW=Hd.aD nW):DefAt W Ip.T_k03 Ip.nv nW.f:=Hd.bW (ps:=["wardrobe", "wearing"]) (io:=[]) h rfl (Hd.bQ (by kernel_rfl)) (by kernel_rfl) rfl rfl fun _ _ _ _ _ _ us hl=>by
 obtain⟨_,_,rfl⟩:=cu hl;rfl
noncomputable def zx:Stmt:=sT 38
noncomputable def pe:Hd.Fd:=⟨"seen_in", "seen_in",29,438,zx,none⟩
theorem F7 {W:Wd}(h:Hd.qD W.K pe=Hd.aD pe):DefAt W Ip.T_k03 Ip.mH pe.f:=Hd.bW (ps:=["wearing"]) (io:=[]) h rfl (Hd.bQ (by kernel_rfl)) (by kernel_rfl) rfl rfl fun _ _ _ _ _ _ us hl=>by
 obtain⟨_,rfl⟩:=c8 hl;rfl
noncomputable def Ew:Stmt:=sT 40
noncomputable def oG:Hd.Fd:=⟨"_law_pick", "_law_pick",70,445,Ew,none⟩
theorem Es {W:Wd}(h:Hd.qD W.K oG=Hd.aD oG):DefAt W Ip.T_k03 Ip.kW oG.f:=Hd.bW (ps:=["_law_script", "_law_k"]) (io:=[]) h rfl (Hd.bQ (by kernel_rfl)) (by kernel_rfl) rfl rfl fun _ _ _ _ _ _ us hl=>by
 obtain⟨_,_,rfl⟩:=cu hl;rfl
noncomputable def yk:Stmt:=sT 41
noncomputable def oY:Hd.Fd:=⟨"_law_mix", "_law_mix",71,452,yk,none⟩
theorem zq {W:Wd}(h:Hd.qD W.K oY=Hd.aD oY):DefAt W Ip.T_k03 Ip.df oY.f:=Hd.bW (ps:=["_law_cell", "_law_prime", "_law_many"]) (io:=[]) h rfl (Hd.bQ (by kernel_rfl)) (by kernel_rfl) rfl rfl fun _ _ _ _ _ _ us hl=>by
 obtain⟨_,_,_,rfl⟩:=dX hl;rfl
noncomputable def Gi:Stmt:=sT 42
noncomputable def nV:Hd.Fd:=⟨"_law_cover", "_law_cover",72,457,Gi,none⟩
theorem zd {W:Wd}(h:Hd.qD W.K nV=Hd.aD nV):DefAt W Ip.T_k03 Ip.kU nV.f:=Hd.bW (ps:=["_law_cell", "_law_places"]) (io:=[]) h rfl (Hd.bQ (by kernel_rfl)) (by kernel_rfl) rfl rfl fun _ _ _ _ _ _ us hl=>by
 obtain⟨_,_,rfl⟩:=cu hl;rfl
noncomputable def yu:Stmt:=sT 43
noncomputable def ph:Hd.Fd:=⟨"_law_whole", "_law_whole",73,464,yu,none⟩
theorem xl {W:Wd}(h:Hd.qD W.K ph=Hd.aD ph):DefAt W Ip.T_k03 Ip.iK ph.f:=Hd.bW (ps:=["_law_thing"]) (io:=[]) h rfl (Hd.bQ (by kernel_rfl)) (by kernel_rfl) rfl rfl fun _ _ _ _ _ _ us hl=>by
 obtain⟨_,rfl⟩:=c8 hl;rfl
noncomputable def Dw:Stmt:=sT 44
noncomputable def pG:Hd.Fd:=⟨"_law_odd", "_law_odd",85,471,Dw,none⟩
theorem Fs {W:Wd}(h:Hd.qD W.K pG=Hd.aD pG):DefAt W Ip.T_k03 Ip.gF pG.f:=Hd.bW (ps:=["_law_many", "_law_cell"]) (io:=[]) h rfl (Hd.bQ (by kernel_rfl)) (by kernel_rfl) rfl rfl fun _ _ _ _ _ _ us hl=>by
 obtain⟨_,_,rfl⟩:=cu hl;rfl
noncomputable def CQ:Stmt:=sT 45
noncomputable def o7:Hd.Fd:=⟨"_law_rows", "_law_rows",86,476,CQ,none⟩
theorem zN {W:Wd}(h:Hd.qD W.K o7=Hd.aD o7):DefAt W Ip.T_k03 Ip.lr o7.f:=Hd.bW (ps:=["_law_found", "_law_rows_here"]) (io:=[]) h rfl (Hd.bQ (by kernel_rfl)) (by kernel_rfl) rfl rfl fun _ _ _ _ _ _ us hl=>by
 obtain⟨_,_,rfl⟩:=cu hl;rfl
noncomputable def Gw:Stmt:=sT 46
noncomputable def nE:Hd.Fd:=⟨"_law_next", "_law_next",87,483,Gw,none⟩
theorem AB {W:Wd}(h:Hd.qD W.K nE=Hd.aD nE):DefAt W Ip.T_k03 Ip.gQ nE.f:=Hd.bW (ps:=["_law_rows_here", "_law_cover_here", "_law_garment"]) (io:=[]) h rfl (Hd.bQ (by kernel_rfl)) (by kernel_rfl) rfl rfl fun _ _ _ _ _ _ us hl=>by
 obtain⟨_,_,_,rfl⟩:=dX hl;rfl
noncomputable def Bi:Stmt:=sT 47
noncomputable def pk:Hd.Fd:=⟨"_law_kind", "_law_kind",83,490,Bi,none⟩
theorem FU {W:Wd}(h:Hd.qD W.K pk=Hd.aD pk):DefAt W Ip.T_k03 Ip.kQ pk.f:=Hd.bW (ps:=["_law_caught"]) (io:=[]) h rfl (Hd.bQ (by kernel_rfl)) (by kernel_rfl) rfl rfl fun _ _ _ _ _ _ us hl=>by
 obtain⟨_,rfl⟩:=c8 hl;rfl
noncomputable def xK:Stmt:=sT 48
noncomputable def o4:Hd.Fd:=⟨"_law_done", "_law_done",88,497,xK,none⟩
theorem yM {W:Wd}(h:Hd.qD W.K o4=Hd.aD o4):DefAt W Ip.T_k03 Ip.jY o4.f:=Hd.bW (ps:=["_law_wardrobe", "_law_wearing", "_law_word", "_law_garment"]) (io:=[]) h rfl (Hd.bQ (by kernel_rfl)) (by kernel_rfl) rfl rfl fun _ _ _ _ _ _ us hl=>by
 obtain⟨_,_,_,_,rfl⟩:=ie hl;rfl
noncomputable def x3:Stmt:=sT 49
noncomputable def oF:Hd.Fd:=⟨"_law_due", "_law_due",82,504,x3,none⟩
theorem Fw {W:Wd}(h:Hd.qD W.K oF=Hd.aD oF):DefAt W Ip.T_k03 Ip.ko oF.f:=Hd.bW (ps:=["_law_rows_here", "_law_covers", "_law_word", "_law_garment"]) (io:=[]) h rfl (Hd.bQ (by kernel_rfl)) (by kernel_rfl) rfl rfl fun _ _ _ _ _ _ us hl=>by
 obtain⟨_,_,_,_,rfl⟩:=ie hl;rfl
noncomputable def Cd:Stmt:=sT 50
noncomputable def nY:Hd.Fd:=⟨"_law_step", "_law_step",89,509,Cd,none⟩
theorem Gm {W:Wd}(h:Hd.qD W.K nY=Hd.aD nY):DefAt W Ip.T_k03 Ip.mR nY.f:=Hd.bW (ps:=["_law_rows_here", "_law_covers", "_law_word", "_law_garment"]) (io:=[]) h rfl (Hd.bQ (by kernel_rfl)) (by kernel_rfl) rfl rfl fun _ _ _ _ _ _ us hl=>by
 obtain⟨_,_,_,_,rfl⟩:=ie hl;rfl
noncomputable def Gu:Stmt:=sT 51
noncomputable def o9:Hd.Fd:=⟨"_law_list", "_law_list",74,514,Gu,none⟩
theorem Dp {W:Wd}(h:Hd.qD W.K o9=Hd.aD o9):DefAt W Ip.T_k03 Ip.iX o9.f:=Hd.bW (ps:=["_law_found", "_law_due_here"]) (io:=[]) h rfl (Hd.bQ (by kernel_rfl)) (by kernel_rfl) rfl rfl fun _ _ _ _ _ _ us hl=>by
 obtain⟨_,_,rfl⟩:=cu hl;rfl
noncomputable def Aq:Stmt:=sT 52
noncomputable def pH:Hd.Fd:=⟨"_law_looked", "_law_looked",90,519,Aq,none⟩
theorem B2 {W:Wd}(h:Hd.qD W.K pH=Hd.aD pH):DefAt W Ip.T_k03 Ip.mQ pH.f:=Hd.bW (ps:=["_law_wardrobe", "_law_wearing", "_law_rows_here", "_law_covers", "_law_cell"]) (io:=[]) h rfl (Hd.bQ (by kernel_rfl)) (by kernel_rfl) rfl rfl fun _ _ _ _ _ _ us hl=>by
 obtain⟨_,_,_,_,_,rfl⟩:=pO hl;rfl
noncomputable def my:Stmt:=sT 53
noncomputable def lQ:Hd.Fd:=⟨"law", "law",69,524,my,none⟩
theorem Df:FnScope (Ip.eT (ak my) (bH my)) ["_law_script"] (bH my):=(Hd.bQ (by kernel_rfl))
theorem AQ:Ip.cF Ip.T_k03 [] my=some Ip.lv:=by kernel_rfl
theorem zn {W:Wd}(h:Hd.qD W.K lQ=Hd.aD lQ):DefAt W Ip.T_k03 Ip.lv lQ.f:=Hd.bW (ps:=["_law_script"]) (io:=[]) h rfl (Hd.bQ (by kernel_rfl)) (by kernel_rfl) rfl rfl fun _ _ _ _ _ _ us hl=>by
 obtain⟨_,rfl⟩:=c8 hl;rfl
noncomputable def zT:Stmt:=bv (sT 9) 0
noncomputable def pb:Hd.Fd:=⟨"__init__", "NoGarment.__init__",4,88,zT,none⟩
theorem BZ {W:Wd}(h:Hd.qD W.K pb=Hd.aD pb):DefAt W Ip.T_k03 Ip.jI pb.f:=Hd.bW (ps:=["self", "garment"]) (io:=[0]) h rfl (Hd.bQ (by kernel_rfl)) (by kernel_rfl) rfl rfl fun _ _ _ _ _ _ us hl=>by
 obtain⟨_,_,rfl⟩:=cu hl;rfl
noncomputable def DA:Stmt:=bv (sT 10) 0
noncomputable def nK:Hd.Fd:=⟨"__init__", "Worn.__init__",5,107,DA,none⟩
theorem Cr {W:Wd}(h:Hd.qD W.K nK=Hd.aD nK):DefAt W Ip.T_k03 Ip.kz nK.f:=Hd.bW (ps:=["self", "garment"]) (io:=[0]) h rfl (Hd.bQ (by kernel_rfl)) (by kernel_rfl) rfl rfl fun _ _ _ _ _ _ us hl=>by
 obtain⟨_,_,rfl⟩:=cu hl;rfl
noncomputable def Eh:Stmt:=bv (sT 11) 0
noncomputable def oQ:Hd.Fd:=⟨"__init__", "NotWorn.__init__",6,126,Eh,none⟩
theorem GG {W:Wd}(h:Hd.qD W.K oQ=Hd.aD oQ):DefAt W Ip.T_k03 Ip.jZ oQ.f:=Hd.bW (ps:=["self", "garment"]) (io:=[0]) h rfl (Hd.bQ (by kernel_rfl)) (by kernel_rfl) rfl rfl fun _ _ _ _ _ _ us hl=>by
 obtain⟨_,_,rfl⟩:=cu hl;rfl
noncomputable def Be:Stmt:=bv (sT 12) 0
noncomputable def oV:Hd.Fd:=⟨"__init__", "Covered.__init__",7,145,Be,none⟩
theorem zw {W:Wd}(h:Hd.qD W.K oV=Hd.aD oV):DefAt W Ip.T_k03 Ip.jW oV.f:=Hd.bW (ps:=["self", "garment", "over"]) (io:=[0]) h rfl (Hd.bQ (by kernel_rfl)) (by kernel_rfl) rfl rfl fun _ _ _ _ _ _ us hl=>by
 obtain⟨_,_,_,rfl⟩:=dX hl;rfl
noncomputable def D3:Stmt:=bv (sT 30) 0
noncomputable def pA:Hd.Fd:=⟨"__init__", "Wardrobe.__init__",18,360,D3,none⟩
theorem EB {W:Wd}(h:Hd.qD W.K pA=Hd.aD pA):DefAt W Ip.T_k03 Ip.jD pA.f:=Hd.bW (ps:=["self", "places", "covers"]) (io:=[0]) h rfl (Hd.bQ (by kernel_rfl)) (by kernel_rfl) rfl rfl fun _ _ _ _ _ _ us hl=>by
 obtain⟨_,_,_,rfl⟩:=dX hl;rfl
noncomputable def Ep:Stmt:=bv (sT 30) 1
noncomputable def oZ:Hd.Fd:=⟨"spots", "Wardrobe.spots",19,367,Ep,none⟩
theorem yG {W:Wd}(h:Hd.qD W.K oZ=Hd.aD oZ):DefAt W Ip.T_k03 Ip.jP oZ.f:=Hd.bW (ps:=["self"]) (io:=[]) h rfl (Hd.bQ (by kernel_rfl)) (by kernel_rfl) rfl rfl fun _ _ _ _ _ _ us hl=>by
 obtain⟨_,rfl⟩:=c8 hl;rfl
noncomputable def GI:Stmt:=bv (sT 30) 2
noncomputable def nM:Hd.Fd:=⟨"many", "Wardrobe.many",20,374,GI,none⟩
theorem GW {W:Wd}(h:Hd.qD W.K nM=Hd.aD nM):DefAt W Ip.T_k03 Ip.ja nM.f:=Hd.bW (ps:=["self"]) (io:=[]) h rfl (Hd.bQ (by kernel_rfl)) (by kernel_rfl) rfl rfl fun _ _ _ _ _ _ us hl=>by
 obtain⟨_,rfl⟩:=c8 hl;rfl
noncomputable def yD:Stmt:=bv (sT 30) 3
noncomputable def pF:Hd.Fd:=⟨"covers", "Wardrobe.covers",21,381,yD,none⟩
theorem yZ {W:Wd}(h:Hd.qD W.K pF=Hd.aD pF):DefAt W Ip.T_k03 Ip.iz pF.f:=Hd.bW (ps:=["self", "garment"]) (io:=[]) h rfl (Hd.bQ (by kernel_rfl)) (by kernel_rfl) rfl rfl fun _ _ _ _ _ _ us hl=>by
 obtain⟨_,_,rfl⟩:=cu hl;rfl
noncomputable def A8:Stmt:=bv (sT 30) 4
noncomputable def pB:Hd.Fd:=⟨"meet", "Wardrobe.meet",22,388,A8,none⟩
theorem BF {W:Wd}(h:Hd.qD W.K pB=Hd.aD pB):DefAt W Ip.T_k03 Ip.wg pB.f:=Hd.bW (ps:=["self", "one", "other"]) (io:=[]) h rfl (Hd.bQ (by kernel_rfl)) (by kernel_rfl) rfl rfl fun _ _ _ _ _ _ us hl=>by
 obtain⟨_,_,_,rfl⟩:=dX hl;rfl
end Ek03
end
section
namespace Ek03
open PySem PySem.Spec PySem.W PySem.Calls PyProof.Rows L2 Hd
set_option maxHeartbeats 0
noncomputable def B:Tl:=⟨[oH,oW,nP,oa,pr,pj,oX,oI,nR,oO,nL,nW,pe,oG,oY,nV,ph,pG,o7,nE,pk,o4,oF,nY,o9,pH,lQ],[⟨"Wardrobe",17,391,pA⟩],[⟨"NoGarment",2,91,[51],pb⟩,⟨"Worn",3,110,[51],nK⟩,⟨"NotWorn",4,129,[51],oQ⟩,⟨"Covered",5,148,[51],oV⟩],[("WardrobeError",0,51),("TooMuch",1,72),("NoLook",6,167),("NoDeed",7,179),("Crossed",8,198),("TooMany",9,217),("NoRow",10,236),("OutOfPlace",11,255),("NoName",12,274),("Twice",13,293),("NoBeat",14,305),("NoHands",15,317),("NotSeen",16,329)],[(391,oZ),(391,nM),(391,pF),(391,pB)],51,[("DEEPEST",100,196),("MOST_PLACES",6,618),("MOST_GARMENTS",6,620)],[]⟩
noncomputable def kS:List Str:=nD Ip.T_k03.fl Ip.T_k03.att
theorem facts {w:World}{K:Frag}{mg:Str->Option Value}{fa:Addr}{h:Heap}(hq:B.q kS K=B.a kS Ip.G_k03)(KX:K.In h)(Gl:h.Ns mainGlobals mg)(hmg:mg "law" = some (.ref fa)) :
  ∃fd:FuncData,(∀(s:Shared) (u:Value),BindsTo s fd ⟨[u],[]⟩ [("_law_script",u)])/\∀base:Heap,K.In base->base.Ns mainGlobals mg->FnOk Pw w K mg base (dr Pw w) (rm 10) fa fd ["_law_script"] (fU K):=by
 have A:=BI hq;obtain⟨g0,gt⟩:=yN (T:=Ip.T_k03) (cw:=0) Ip.clL_k03 KX Gl A (fun _=>rfl) rfl (by decide +kernel) (by decide +kernel) rfl (by decide +kernel) (by decide +kernel)
  (Cn ⟨_,rfl,zJ⟩ <| Cn ⟨_,rfl,Fq⟩ <| Cn ⟨_,rfl,G3⟩ <| Cn ⟨_,rfl,A0⟩ <| Cn ⟨_,rfl,Gx⟩ <| Cn ⟨_,rfl,Eo⟩ <| Cn ⟨_,rfl,CO⟩ <| Cn ⟨_,rfl,Cz⟩ <| Cn ⟨_,rfl,yY⟩ <| Cn ⟨_,rfl,BH⟩ <| Cn ⟨_,rfl,Cu⟩ <| Cn ⟨_,rfl,zP⟩ <| Cn ⟨_,rfl,F7⟩ <| Cn ⟨_,rfl,Es⟩ <| Cn ⟨_,rfl,zq⟩ <| Cn ⟨_,rfl,zd⟩ <| Cn ⟨_,rfl,xl⟩ <| Cn ⟨_,rfl,Fs⟩ <| Cn ⟨_,rfl,zN⟩ <| Cn ⟨_,rfl,AB⟩ <| Cn ⟨_,rfl,FU⟩ <| Cn ⟨_,rfl,yM⟩ <| Cn ⟨_,rfl,Fw⟩ <| Cn ⟨_,rfl,Gm⟩ <| Cn ⟨_,rfl,Dp⟩ <| Cn ⟨_,rfl,B2⟩ <| Cn ⟨_,rfl,zn⟩ <| Nl)
  (Cn ⟨⟨_,rfl,EB⟩,rfl,_,rfl,rfl,rfl⟩ <| Nl)
  (Cn ⟨⟨_,rfl,BZ⟩,rfl,_,rfl,rfl,rfl⟩ <| Cn ⟨⟨_,rfl,Cr⟩,rfl,_,rfl,rfl,rfl⟩ <| Cn ⟨⟨_,rfl,GG⟩,rfl,_,rfl,rfl,rfl⟩ <| Cn ⟨⟨_,rfl,zw⟩,rfl,_,rfl,rfl,rfl⟩ <| Nl)
  (Cn ⟨_,rfl,rfl⟩ <| Cn ⟨_,rfl,rfl⟩ <| Cn ⟨_,rfl,rfl⟩ <| Cn ⟨_,rfl,rfl⟩ <| Cn ⟨_,rfl,rfl⟩ <| Cn ⟨_,rfl,rfl⟩ <| Cn ⟨_,rfl,rfl⟩ <| Cn ⟨_,rfl,rfl⟩ <| Cn ⟨_,rfl,rfl⟩ <| Cn ⟨_,rfl,rfl⟩ <| Cn ⟨_,rfl,rfl⟩ <| Cn ⟨_,rfl,rfl⟩ <| Cn ⟨_,rfl,rfl⟩ <| Nl)
  (Cn ⟨_,rfl,yG⟩ <| Cn ⟨_,rfl,GW⟩ <| Cn ⟨_,rfl,yZ⟩ <| Cn ⟨_,rfl,BF⟩ <| Nl) (by decide +kernel) (by simp[B,Ip.T_k03]) (by decide +kernel)
 obtain⟨a1,_,a3⟩:=A.f lQ (by simp[B]);have e:=hmg.symm.trans (mg_of KX Gl a1);cases e;exact zU (n:=10) g0 gt A.l rfl rfl (wV (Prod.mk.inj a3).1) Df AQ rfl (fun _ _ _ _ _ _ _=>rfl) Ip.Gj
noncomputable def T0 (P:Params):BT:=(.node (boot_o_0 P) (.node (boot_o_1 P) (.node (boot_o_3 P) (.node (boot_o_7 P) .nil .nil) .nil) (.node (boot_o_5 P) (.node (boot_o_9 P) .nil .nil) .nil)) (.node (boot_o_2 P) (.node (boot_o_4 P) (.node (boot_o_8 P) .nil .nil) .nil) (.node (boot_o_6 P) (.node (boot_o_10 P) .nil .nil) .nil)))
noncomputable def ve:List Addr:=[2,3,15,17,18,20,21,22,24,25,27,28,29,31,32,34,35,36,37,40,41,42,49,50,51,52,55,62,63,65,66,68,69,70,71,72,75,82,84,85,87,88,89,90,91,94,101,103,104,106,107,108,109,110,113,120,122,123,125,126,127,128,129,132,139,141,142,144,145,146,147,148,151,158,160,161,163,164,165,166,167,170,177,178,179,182,189,191,192,194,195,196,197,198,201,208,210,211,213,214,215,216,217,220,227,229,230,232,233,234,235,236,239,246,248,249,251,252,253,254,255,258,265,267,268,270,271,272,273,274,277,284,286,287,289,290,291,292,293,296,303,304,305,308,315,316,317,320,327,328,329,332,335,336,337,340,341,342,344,345,347,348,356,359,360,361,363,364,366,367,368,370,371,373,374,375,377,378,380,381,382,384,385,387,388,389,390,391,392,393,396,399,400,401,403,404,406,407,408,410,411,413,414,415,417,418,420,421,422,424,425,427,428,429,432,433,434,437,438,439,441,442,444,445,446,448,449,451,452,453,456,457,458,460,461,463,464,465,467,468,470,471,472,475,476,477,479,480,482,483,484,486,487,489,490,491,493,494,496,497,498,500,501,503,504,505,508,509,510,513,514,515,518,519,520,523,524]
noncomputable def looseL:List Str:=(["_wall", "DEEPEST", "is_whole", "is_below", "copied", "WardrobeError", "TooMuch", "NoGarment", "Worn", "NotWorn", "Covered", "NoLook", "NoDeed", "Crossed", "TooMany", "NoRow", "OutOfPlace", "NoName", "Twice", "NoBeat", "NoHands", "NotSeen", "MOST_PLACES", "MOST_GARMENTS", "is_rising", "are_places", "check_garment", "Wardrobe", "bare_wearing", "worn_in", "put_on", "right_over", "take_off", "outermost", "seen_in", "_law_pick", "_law_mix", "_law_cover", "_law_whole", "_law_odd", "_law_rows", "_law_next", "_law_kind", "_law_done", "_law_due", "_law_step", "_law_list", "_law_looked"]:List String).map Str.ofString
noncomputable abbrev hk:Hook:=jv ve (B.q kS) (B.a kS Ip.G_k03)
noncomputable abbrev Xt (s:Shared):Bool:=xlAt (view Pw [53]) [] s&&recOk (PySem.Challenge.rw_quickchange_k03_put_on_and_taken_off.row.toRowW).records s
noncomputable def qx:Thread:=⟨do let code <-moduleCode Pw.main
                                       let frame <-newBodyFrame code mainNs mainNs
                                       let _ <-run (.body (behindTheImports Pw) { scope:=Pw.main.scope,locals:=mainNs,globals:=mainNs,cells:=[],code,frame:=some frame })
                                       ret .none,
   .builtin "claim.caller" {},default,[]⟩
noncomputable def runAll (w:World)(os:OsState):=(gM through (stepOk 11 (some (.ref 6))) (stepT (denote treeTable) Pw w) 5303 ⟨T0 w.params,11,(boot_heap w.params).life,Array.mk [],boot_drawn,boot_toks,os⟩ qx).map
 (lookG (importedModules Pw.main.body) (staticsOk (importedModules Pw.main.body)) laidKept (namesBound Pw) (openSeen (view Pw [53]) looseL (importedModules Pw.main.body) Xt true) (fun s=>B.q kS (oU ve s.heap)) (boot_heap w.params))
noncomputable def _root_.PySem.W.Fast.tw7718153471196256899:Program:=PySem.Challenge.pw_quickchange_k03_put_on_and_taken_off
theorem _root_.PySem.W.Fast.te7718153471196256899:PySem.Challenge.pw_quickchange_k03_put_on_and_taken_off=PySem.W.Fast.tw7718153471196256899:=rfl
noncomputable def dum {α:Type}(_:α):Bool:=true
theorem mk:dum runAll=true:=by k_qdec
theorem t0 (P:Params):absHeap (T0 P) 11 (boot_heap P).life=boot_heap P:=by kernel_rfl
theorem Ca (w:World)(os:OsState):runAll w os=some (true,openGood (view Pw [53]) looseL,B.a kS Ip.G_k03):=by
 rw[PySem.W.Fast.te7342805494297280768];kernel_rfl
theorem left:LeftO Pw (view Pw [53]) looseL Xt (Hook.obs hk) (Hook.val hk) 5303:=
 xN (T0:=T0) (m₀:=11) (ann:=some (.ref 6)) (life:=fun P=>(boot_heap P).life) (by kernel_rfl) (by decide) (fun s=>rfl) (fun w=>by kernel_rfl) t0 Ca
end Ek03
open PySem PySem.W PyProof.Rows L2 Hd in
set_option maxRecDepth 100000 in
set_option maxHeartbeats 0 in
theorem PySem.Challenge.cw_quickchange_k03_put_on_and_taken_off_holds : PySem.Challenge.rw_quickchange_k03_put_on_and_taken_off.Holds := by
 w_on; o_law
 refine holds_open (r:=PySem.Challenge.rw_quickchange_k03_put_on_and_taken_off.row) (q:=view Ek03.Pw [53]) (loose:=Ek03.looseL) (Xt:=Ek03.Xt) (XP:=XL (view Ek03.Pw [53]) []) (Yf:=Hook.obs Ek03.hk) (Ya:=Hook.val Ek03.hk) (YP:=Hook.says Ek03.hk) (N:=5303) Ek03.left (Hook.of Ek03.hk) (Hook.keeps Ek03.hk) (fun s e=>xl_of s (Bool.and_eq_true_iff.mp e).1) XL.keeps (by rfl) (by rfl) (by rfl) (fun s e=>recFacts_of (Bool.and_eq_true_iff.mp e).2) (by rfl) (by first | assumption | decide +kernel) (by decide +kernel) ⟨rfl,rfl,rfl,rfl,rfl,by decide +kernel⟩ ?hw ?hc
 case hw=>w_witness2
 case hc=>
  refine GH (l:=PySem.Challenge.rw_quickchange_k03_put_on_and_taken_off) (n:=63) (k:=L2.rm 10) (x := "_law_script") (CX:=fun w=>L2.dr PySem.Challenge.pw_quickchange_k03_put_on_and_taken_off w) (sp:=fun _ K=>L2.fU K) rfl (by decide) rfl ⟨rfl,by decide,by decide⟩ ?F ?S ?C
  case F=>exact fun w K mg fa h hq KX G hmg=>Ek03.facts hq KX G hmg
  case S=>exact fun w K H a ns hl _ hS=>⟨a,ns,rfl,hS,hl,fun _=>rfl⟩
  case C=>
   rintro w H s e s' ⟨_,_,_,_,_,_,_,_,_,_,_,_,_,_,z⟩;exact z
#print axioms PySem.Challenge.cw_quickchange_k03_put_on_and_taken_off_holds
end
