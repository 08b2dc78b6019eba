import PyProof.Rows.All
import Wide.All
import OpenK.AllK
import Wide.FinOn
import Lean
import PyProof.EqAt
import PyProof.EqKinds
import PyProof.TupleCall
import KE.KSortTup
import PyProof.Rows.CountFlat
import PyProof.SliceStr2
import KE.RegKIsAll
import PyProof.ListRange
import KE.KMinBuiltin
import KE.KPairComp
import PyProof.DictItemsLoops
import PySem.Challenge.RW_hearsay_k73_whole_soonest
set_option maxRecDepth 100000
set_option hygiene false
local macro_rules
|`(aa)=>`((by omega))
|`(ae)=>`(⟨rfl,rfl,rfl,by decide+kernel,rfl,by decide+kernel,by decide+kernel⟩)
|`(af)=>`(⟨rfl,by decide+kernel,by decide+kernel,by decide+kernel,rfl,by decide+kernel⟩)
|`(ah)=>`((model X.prog X.w))
|`(aj)=>`((by decide))
|`(ak)=>`((conR (.int 1)))
|`(al)=>`((by simp))
|`(am)=>`((Nat.le_refl _))
|`(ao)=>`((varR 0))
|`(ap)=>`((s.heap.objs.size+1))
|`(aq)=>`((.pure (.refl s) (by rw[Rep])))
|`(au)=>`((conR (.int 0)))
|`(av)=>`((varR 1))
|`(aw)=>`((Option Nat))
|`(ax)=>`((arrOf st))
|`(ay)=>`((Addr×Obj))
|`(az)=>`((hr.mono aj))
|`(aA)=>`((.ListComp elt [⟨target,iter,ifs,0⟩] scope pos))
|`(aB)=>`((Qn hu (Qb 0) Qf))
|`(aC)=>`((arrOf st'))
|`(aD)=>`((conR (.int 2)))
|`(aE)=>`((cxC X N' scope s3.heap.objs.size s3 (upd H2 s₂.heap.objs.size (.lst [])) fp))
|`(aF)=>`((model prog w))
|`(aG)=>`((varR 2))
|`(aH)=>`((v_fn C_L_cell_at az (Qa (Qb 0) (Qa Qf Qe))))
local macro_rules
|`(aI)=>`((ns.map D.int))
|`(aJ)=>`((x==("__debug__":Str)))
|`(aK)=>`((conR .non))
|`(aL)=>`((QA ps last E rs))
|`(aM)=>`((starEach es X.env))
|`(aN)=>`((cxC X N' scope C s H fp))
|`(aO)=>`((e::es))
|`(aP)=>`((seqObj "list" #[] 0))
|`(aQ)=>`((Qb 1))
|`(aR)=>`((eOr (eOp eqD aG ao) (eOp ltD (QV absD (Qc (eOp subD aG (eOp idxD (eLst (Qc av (Qc ao aNil))) (QV intD (Qc (eOp isND av aK) aNil)))) aNil)) aD)))
|`(aS)=>`((k==NameKind.free&&env.scope.kind== .function&&env.kindOf n==some .cell))
|`(aT)=>`((Obj.mapSeq fun _=>(#[]:Array Value)))
|`(aU)=>`((seqObj "list" its.toArray 0))
|`(aV)=>`((conR (.bl true)))
|`(aW)=>`((bubble (arrOf st'') (lo+k) (lo+k-(lo+l))))
set_option hygiene true
set_option Elab.async false
set_option linter.all false
set_option maxHeartbeats 4000000
set_option maxRecDepth 100000
section
open PySem PySem.W PyProof.Rows
noncomputable def My.view : Program := { PySem.Challenge.pw_hearsay_k73_whole_soonest with main := { PySem.Challenge.pw_hearsay_k73_whole_soonest.main with body := [1,2,3,4,5,7,8,9,11,12,13,15,17,18,19,20,22,23,24,25,26,27,29,30,31,32,33,34,35,36,37,38].filterMap fun i => PySem.Challenge.pw_hearsay_k73_whole_soonest.main.body[i]? } }
theorem My.left_boot {p q:Program}{loose:List Str}{Xt:Shared->Bool}{α:Type}{Yf:Shared->α}{Ya:World->α}{N:Nat}(e:opening p=plainProg p.main.scope.names)(hN:Nat.ble 600 N=true)(f:∀s,fenceModules? p s=some s)
  (h:∀(w:World) (os:OsState),(topFrom treeTable p w N ⟨boot_heap w.params,Array.mk [],boot_drawn,boot_toks,os⟩).map (fun s=>(openSeen q loose (importedModules p.main.body) Xt true s,Yf s))=some (openGood q loose,Ya w)):LeftO p q loose Xt Yf Ya N:=fun w=>by
 obtain⟨⟨h0,gs,d,k,os⟩,e1,e2⟩:=Option.map_eq_some_iff.mp (boot_open e hN f w)
 obtain⟨rfl,rfl,rfl,rfl⟩:h0=boot_heap w.params/\gs=Array.mk []/\d=boot_drawn/\k=boot_toks:=by simpa using e2
 unfold openEnds
 rw[e1]
 exact h w os
local macro_rules | `(tactic| o_head $H) => `(tactic| contradiction)
set_option maxHeartbeats 0 in
theorem My.fr (_ : False) : PySem.Challenge.rw_hearsay_k73_whole_soonest.Holds := by
 w_on;refine holds_law (by decide+kernel) fun said=>?_;k_head
noncomputable def My.as:List Addr:= [2,3,15,18,19,20,23,24,25,28,29,30,32,33,35,36,37,39,40,42,43,44,47,48,49,52,53,54,56,57,59,60,61,64,65,66,68,69,71,72,73,75,76,78,79,80,82,83,85,86,87,90,91,92,95,96,97,100,101,102,104,105,107,108,116,118,119,121,122,123,125,126,128,129,130,131,132,133,134,137,144,145,147,148,150,151,152,154,155,157,158,159,160,161,164,171,173,174,176,177,178,180,181,183,184,185,186,187,190,192,193,195,196,197,199,200,202,203,204,206,207,209,210,211,213,214,216,217,218,220,221,223,224,225,227,228,230,231,232,234,235,237,238,239,241,242,244,245,246,249,250,251,253,254,256,257,258,260,261,263,264,265,268,269,270,273,274]
theorem My.hke:∀P,My.as=(My.fr.heap_1 P).map (·.1):=fun _=>by kernel_rfl
set_option maxHeartbeats 0 in
theorem My.left : LeftO PySem.Challenge.pw_hearsay_k73_whole_soonest My.view [PySem.Str.ofString "Came"] (fun s => xlAt My.view [] s && recOk PySem.Challenge.rw_hearsay_k73_whole_soonest.row.records s) (Hook.obs (kHook My.fr.heap_1 My.as My.hke)) (Hook.val (kHook My.fr.heap_1 My.as My.hke)) 3664 :=
 My.left_boot (by kernel_rfl) aj (fun s=>by kernel_rfl) (fun w os=>by unfold topFrom;rw[PySem.W.Fast.te14082659384304107361,PySem.W.Fast.te4187177175401517315];kernel_rfl)
end
namespace L2
open PySem PySem.Spec PyProof.Rows
noncomputable abbrev Key:=Sum Int Str
noncomputable def QjW:Key->Value->Bool
 | .inl k,v=>Value.isInt k v
 | .inr x,v=>Value.isStrOf x v
noncomputable def keyH (w:World):Key->Int
 | .inl k=>hashInt k
 | .inr x=>hashStr w x
theorem QK:∀{k:Key} {v:Value},QjW k v=true->(∃i t,k=Sum.inl i/\v=Value.int i t)\/(∃x t,k=Sum.inr x/\v=Value.str x t)
 | .inl i,v,h=>by
  obtain⟨t,e⟩:=Value.isInt_shape (k:=i) (v:=v) h
  exact .inl ⟨i,t,rfl,e⟩
 | .inr x,v,h=>by
  obtain⟨t,e⟩:=Value.isStrOf_shape (x:=x) (v:=v) h
  exact .inr ⟨x,t,rfl,e⟩
theorem Qkz (i:Int)(t:Tok):QjW (.inl i) (.int i t)=true:=by simp[QjW,Value.isInt]
theorem QkA (x:Str)(t:Tok):QjW (.inr x) (.str x t)=true:=by simp[QjW,Value.isStrOf]
theorem Qqr (a b:Int):decide ((Sum.inl a:Key)=Sum.inl b)=(a==b):=by
 by_cases e:a=b
 .subst e;simp
 .have h:¬(Sum.inl a:Key)=Sum.inl b:=fun q=>e (Sum.inl.inj q)
  rw[decide_eq_false h]
  exact(beq_eq_false_iff_ne.mpr e).symm
theorem Qqs (a b:Str):decide ((Sum.inr a:Key)=Sum.inr b)=decide (a=b):=by
 by_cases e:a=b
 .subst e;simp
 .have h:¬(Sum.inr a:Key)=Sum.inr b:=fun q=>e (Sum.inr.inj q)
  rw[decide_eq_false h,decide_eq_false e]
theorem Qqt (a:Int)(b:Str):decide ((Sum.inl a:Key)=Sum.inr b)=false:=decide_eq_false (fun q=>nomatch q)
theorem Qqu (a:Str)(b:Int):decide ((Sum.inr a:Key)=Sum.inl b)=false:=decide_eq_false (fun q=>nomatch q)
noncomputable def QL (prog:Program)(w:World):PySem.KeyKind prog w Key where
 is:=QjW
 hash:=keyH w
 inj:=fun v a b ha hb=>by
  rcases QK ha with⟨i,t,rfl,rfl⟩|⟨x,t,rfl,rfl⟩
  .rcases QK hb with⟨j,u,rfl,e⟩|⟨y,u,rfl,e⟩
   .injection e with e1 _;rw[e1]
   .exact nomatch e
  .rcases QK hb with⟨j,u,rfl,e⟩|⟨y,u,rfl,e⟩
   .exact nomatch e
   .injection e with e1 _;rw[e1]
 byValue:=fun k v h=>by
  rcases QK h with⟨i,t,rfl,rfl⟩|⟨x,t,rfl,rfl⟩<;>rfl
 pyHash:=fun hv h=>by
  rcases QK hv with⟨i,t,rfl,rfl⟩|⟨x,t,rfl,rfl⟩
  .exact wpAny_pyHash_int h
  .exact wpAny_pyHash_str h
 eqBool:=fun hu hv h=>by
  rcases QK hu with⟨i,t,rfl,rfl⟩|⟨x,t,rfl,rfl⟩
  .rcases QK hv with⟨j,u,rfl,rfl⟩|⟨y,u,rfl,rfl⟩
   .rw[Qqr]at h;exact wpAny_eqBool_int h
   .rw[Qqt]at h;exact SeqAt.EqAt.int_str i t y u _ _ _ _ h
  .rcases QK hv with⟨j,u,rfl,rfl⟩|⟨y,u,rfl,rfl⟩
   .rw[Qqu]at h;exact SeqAt.EqAt.str_int x t j u _ _ _ _ h
   .rw[Qqs]at h;exact wpAny_eqBool_str h
 «strs»:=fun k x t v h=>by
  rcases QK h with⟨i,u,rfl,e⟩|⟨y,u,rfl,e⟩
  .exact nomatch e
  .injection e with e1 _
   subst e1
   cases v<;>rfl
theorem Qh5 (prog:Program)(w:World)(i:Int)(t:Tok):(QL prog w).is (.inl i) (.int i t)=true:=Qkz i t
theorem Qh6 (prog:Program)(w:World)(x:Str)(t:Tok):(QL prog w).is (.inr x) (.str x t)=true:=QkA x t
end L2
namespace L2
open PySem PySem.Spec PyProof.Rows
inductive V where
 |non|bl (b:Bool)|int (i:Int)|str (x:Str)|byt (b:Array UInt8)|flt (b:UInt64)|ref (a:Addr)|ty (n:String)
 deriving DecidableEq
noncomputable def RelV:V->Value->Prop
 | .non,u=>u=Value.none
 | .bl b,u=>u=Value.bool b
 | .int i,u=>∃t,u=Value.int i t
 | .str x,u=>∃t,u=Value.str x t
 | .byt b,u=>∃t,u=Value.bytes b t
 | .flt b,u=>∃t,u=Value.float b t
 | .ref a,u=>u=Value.ref a
 | .ty n,u=>u=Value.type n
noncomputable abbrev Vals:List V->List Value->Prop:=Paired RelV
theorem Vals.length {xs:List V}{us:List Value}(r:Vals xs us):xs.length=us.length:=Paired.length r
theorem Vals.get:∀{xs:List V} {us:List Value} {i:Nat} {x:V},Vals xs us->xs[i]?=some x->∃u,us[i]?=some u/\RelV x u
 |_,_,_,_, .nil,e=>by simp at e
 |_,_,0,_, .cons r _,e=>by simp at e;subst e;exact⟨_,rfl,r⟩
 |_,_,i+1,x, .cons _ t,e=>by
  obtain⟨u,h1,h2⟩:=Vals.get (i:=i) (x:=x) t (by simpa using e)
  exact⟨u,by simpa using h1,h2⟩
theorem Vals.set {x:V}{u:Value}(r:RelV x u):∀{xs:List V} {us:List Value} (i:Nat),Vals xs us->Vals (xs.set i x) (us.set i u)
 |_,_,_, .nil=> .nil
 |_,_,0, .cons _ t=> .cons r t
 |_,_,i+1, .cons q t=> .cons q (Vals.set r i t)
theorem Vals.append:∀{xs ys:List V} {us ws:List Value},Vals xs us->Vals ys ws->Vals (xs++ys) (us++ws)
 |_,_,_,_, .nil,s=>s
 |_,_,_,_, .cons r t,s=> .cons r (Vals.append t s)
noncomputable def RelO:Option V->Option Value->Prop
 |some v,some u=>RelV v u
 |none,none=>True
 |_,_=>False
noncomputable def KV {κ:Type}:List (κ×V)->List (κ×Value)->Prop:=Paired fun(p:κ×V) (q:κ×Value)=>p.1=q.1/\RelV p.2 q.2
noncomputable def kV:Key->V
 | .inl i=> .int i
 | .inr x=> .str x
inductive HO where
 |lst (xs:List V)
 |tup (xs:List V)
 |dK (kvs:List (Key×V))|dT (kvs:List (List Key×V))
 |set (S:Int->Bool) (n:Nat)
 |ins (C dx:Addr) (fs:List (Str×V))
 |own (x:Addr)
 |xd (fs:List (Str×V))
 |met (f x:Addr)
 |rng (lo hi:Int)
 |frz (o:Obj) (u:HO)
 |tbl (ps:Array Value)
 |ext (φ:Heap->Prop)
noncomputable abbrev Hp:=Addr->Option HO
noncomputable def upd (H:Hp)(a:Addr)(o:HO):Hp:=fun b=>if b=a then some o else H b
theorem Qs {H:Hp}{a:Addr}{o:HO}:upd H a o a=some o:=by unfold upd;rw[if_pos rfl]
theorem Ql {H:Hp}{a b:Addr}{o:HO}(h:b≠a):upd H a o b=H b:=by unfold upd;rw[if_neg h]
theorem Qti {H:Hp}{a b:Addr}{o u:HO}(h:H a=some o)(h':H b=some u)(d:o≠u):a≠b:=by
 intro e;subst e;rw[h]at h';exact d (Option.some.inj h')
theorem QbB {H:Hp}{a b:Addr}{o:HO}(h:H a=some o)(h':H b=none):a≠b:=by
 intro e;subst e;rw[h]at h';cases h'
section
variable (P:Program)(w:World)
noncomputable def ObjOk (H:Hp)(h:Heap)(a:Addr):HO->Prop
 | .lst xs=>xs.length<=sizeLine/\∃(its:List Value) (n:Nat),Vals xs its/\h.get? a=some {cls:= .type "list",data:= .seq its.toArray n}
 | .tup xs=>xs.length<=sizeLine/\∃its:List Value,Vals xs its/\IsTup h a its.toArray
 | .dK kvs=>kvs.length<=sizeLine/\(a==sysModules)=false/\∃vs,KV kvs vs/\h.DictOf (QL P w) a vs
 | .dT kvs=>kvs.length<=sizeLine/\(a==sysModules)=false/\∃xs:List (List Key×Addr×Value),
   Paired (fun(p:List Key×V) (q:List Key×Addr×Value)=>p.1=q.1/\H q.2.1=some (.tup (p.1.map kV))/\RelV p.2 q.2.2) kvs xs/\
   ∃o es ep,h.get? a=some o/\o.ExactDict/\o.data= .dict es ep/\es.toList=xs.map (entryOfKey (tupleKind (QL P w)))/\(xs.map (·.1)).Nodup
 | .set S n=>h.SetOf (intKind P w) a S n
 | .ins C dx fs=>H dx=some (.own a)/\fs.length<=1000/\dx≠a/\h.get? a=some (PySem.W.instObj C dx)/\
   ∃mA,h.Ns1 dx mA/\(∀f,RelO (fs.lookup f) (mA f))/\PySem.Within mA (fs.map (·.1))
 | .own _=>∃o,h.get? a=some o
 | .xd fs=>∃mA,h.Ns1 a mA/\∀f,RelO (fs.lookup f) (mA f)
 | .rng lo hi=>∃t u v,h.get? a=some {cls:= .type "range",data:= .fields #[.int lo t, .int hi u, .int 1 v]}
 | .frz o u=>h.get? a=some o/\ObjOk H h a u
 | .tbl ps=>h.get? a=some {cls:= .none,data:= .fields ps}
 | .met f x=>h.get? a=some (PySem.W.methodObj (.ref f) (.ref x))
 | .ext φ=>φ h/\(∃o,h.get? a=some o)/\∀h1 h2:Heap,φ h1->(∀o,h1.get? a=some o->h2.get? a=some o)->φ h2
noncomputable def HOk (H:Hp)(h:Heap):Prop:=∀a o,H a=some o->ObjOk P w H h a o
end
section
variable {P:Program}{w:World}{H H':Hp}{h h':Heap}{a:Addr}{o:HO}
theorem ObjOk.lt (x:ObjOk P w H h a o):a<h.objs.size:=by
 cases o with
 |lst xs=>obtain⟨_,_,_,_,e⟩:=x;exact Heap.lt_size e
 |tup xs=>obtain⟨_,_,_,p⟩:=x;exact p.lt
 |dK kvs=>obtain⟨_,_,_,_,o,_,_,e,_⟩:=x;exact Heap.lt_size e
 |dT kvs=>obtain⟨_,_,_,_,o,_,_,e,_⟩:=x;exact Heap.lt_size e
 |set S n=>obtain⟨o,_,_,_,e,_⟩:=x;exact Heap.lt_size e
 |ins C dx fs=>obtain⟨_,_,_,e,_⟩:=x;exact Heap.lt_size e
 |own y=>obtain⟨_,e⟩:=x;exact Heap.lt_size e
 |xd fs=>obtain⟨_,⟨_,_,_,e,_⟩,_⟩:=x;exact Heap.lt_size e
 |rng lo hi=>obtain⟨_,_,_,e⟩:=x;exact Heap.lt_size e
 |frz ob u=>obtain⟨e,_⟩:=x;exact Heap.lt_size e
 |tbl ps=>exact Heap.lt_size (show h.get? a=some _ from x)
 |met f y=>exact Heap.lt_size (show h.get? a=some _ from x)
 |ext φ=>obtain⟨_,⟨_,e⟩,_⟩:=x;exact Heap.lt_size e
theorem Paired.mapP {α β:Type}{F G:α->β->Prop}:∀{l₁:List α} {l₂:List β},Paired F l₁ l₂->(∀a b,F a b->G a b)->Paired G l₁ l₂
 |_,_, .nil,_=> .nil
 |_,_, .cons r t,f=> .cons (f _ _ r) (Paired.mapP t f)
theorem ObjOk.stay (x:ObjOk P w H h a o)(k:∀b u,(b=a\/H b=some (.own a))->h.get? b=some u->h'.get? b=some u)
  (ho:∀b,H b=some (.own a)->H' b=some (.own a)) (ht:∀b xs,H b=some (.tup xs)->H' b=some (.tup xs)):ObjOk P w H' h' a o:=by
 induction o with
 |lst xs=>obtain⟨z,its,n,r,e⟩:=x;exact⟨z,its,n,r,k _ _ (.inl rfl) e⟩
 |tup xs=>obtain⟨z,its,r,ob,e,c⟩:=x;exact⟨z,its,r,ob,k _ _ (.inl rfl) e,c⟩
 |dK kvs=>obtain⟨z,y,vs,r,ob,es,ep,e,c⟩:=x;exact⟨z,y,vs,r,ob,es,ep,k _ _ (.inl rfl) e,c⟩
 |dT kvs=>
  obtain⟨z,y,xs,r,ob,es,ep,e,c⟩:=x
  exact⟨z,y,xs,Paired.mapP r fun p q z=>⟨z.1,ht _ _ z.2.1,z.2.2⟩,ob,es,ep,k _ _ (.inl rfl) e,c⟩
 |set S n=>obtain⟨ob,es,ep,t,e,c⟩:=x;exact⟨ob,es,ep,t,k _ _ (.inl rfl) e,c⟩
 |ins C dx fs=>
  obtain⟨d,z,ne,e,mA,⟨od,es,ep,e2,c⟩,r⟩:=x
  exact⟨ho _ d,z,ne,k _ _ (.inl rfl) e,mA,⟨od,es,ep,k _ _ (.inr d) e2,c⟩,r⟩
 |own y=>obtain⟨ob,e⟩:=x;exact⟨ob,k _ _ (.inl rfl) e⟩
 |xd fs=>obtain⟨mA,⟨od,es,ep,e,c⟩,r⟩:=x;exact⟨mA,⟨od,es,ep,k _ _ (.inl rfl) e,c⟩,r⟩
 |rng lo hi=>obtain⟨t,u,v,e⟩:=x;exact⟨t,u,v,k _ _ (.inl rfl) e⟩
 |frz ob u ih=>obtain⟨e,q⟩:=x;exact⟨k _ _ (.inl rfl) e,ih q⟩
 |tbl ps=>
  have e:h.get? a=some {cls:= .none,data:= .fields ps}:=x
  show h'.get? a=some {cls:= .none,data:= .fields ps}
  exact k a _ (.inl rfl) e
 |met f y=>
  have e:h.get? a=some (PySem.W.methodObj (.ref f) (.ref y)):=x
  show h'.get? a=some (PySem.W.methodObj (.ref f) (.ref y))
  exact k a _ (.inl rfl) e
 |ext φ=>obtain⟨p,⟨o,e⟩,st⟩:=x;exact⟨st _ _ p fun o q=>k _ _ (.inl rfl) q,⟨o,k _ _ (.inl rfl) e⟩,st⟩
theorem HOk.lt (x:HOk P w H h)(e:H a=some o):a<h.objs.size:=(x a o e).lt
theorem HOk.fresh (x:HOk P w H h)(e:h.objs.size<=a):H a=none:=by
 cases q:H a with
 |none=>rfl
 |some u=>exact absurd (Nat.lt_of_lt_of_le (x.lt q) e) (Nat.lt_irrefl _)
theorem HOk.kept (x:HOk P w H h)(k:∀b u,h.get? b=some u->h'.get? b=some u):HOk P w H h':=fun a o e=>
 (x a o e).stay (fun b u _ q=>k b u q) (fun _ q=>q) fun _ _ q=>q
theorem HOk.laid (x:HOk P w H h)(k:∀b u,h.get? b=some u->h'.get? b=some u)(hp:h.objs.size<=a)(new:ObjOk P w (upd H a o) h' a o):HOk P w (upd H a o) h':=fun b u e=>by
 have hn:=x.fresh hp
 by_cases hb:b=a
 .subst hb;rw[Qs]at e;cases e;exact new
 .rw[Ql hb]at e
  exact(x b u e).stay (fun c v _ q=>k c v q) (fun c q=>by rw[Ql (QbB q hn)];exact q) fun c xs q=>by rw[Ql (QbB q hn)];exact q
end
noncomputable def Rd (H:Hp)(a:Addr)(u:HO):Prop:=H a=some u\/∃o,H a=some (.frz o u)
theorem Rd.ok {P:Program}{w:World}{H:Hp}{h:Heap}{a:Addr}{u:HO}(r:Rd H a u)(x:HOk P w H h):ObjOk P w H h a u:=by
 rcases r with r|⟨o,r⟩
 .exact x a u r
 .obtain⟨_,q⟩:=x a _ r
  exact q
noncomputable def Mut:Option HO->Prop
 |some (.lst _)=>True
 |some (.dK _)=>True
 |some (.dT _)=>True
 |some (.set _ _)=>True
 |some (.ins _ _ _)=>True
 |some (.ext _)=>True
 |_=>False
section
variable {P:Program}{w:World}{H:Hp}{h h':Heap}{x e:Addr}{o':HO}
theorem HOk.write (ok:HOk P w H h)(mu:Mut (H x))(he:e=x\/H e=some (.own x))(k:∀b u,b≠e->h.get? b=some u->h'.get? b=some u)(heo:∃u,h'.get? e=some u)
  (new:ObjOk P w (upd H x o') h' x o'):HOk P w (upd H x o') h':=fun b u q=>by
 have nown:∀c y,H c=some (.own y)->c≠x:=fun c y r z=>by subst z;rw[r]at mu;exact mu
 have ntup:∀c xs,H c=some (.tup xs)->c≠x:=fun c xs r z=>by subst z;rw[r]at mu;exact mu
 by_cases hb:b=x
 .subst hb;rw[Qs]at q;cases q;exact new
 .rw[Ql hb]at q
  by_cases hbe:b=e
  .have q':H b=some (.own x):=by
    rcases he with z|z
    .exact absurd (hbe.trans z) hb
    .rw[hbe];exact z
   rw[q]at q';cases q'
   obtain⟨v,hv⟩:=heo
   exact⟨v,by rw[hbe];exact hv⟩
  .refine(ok b u q).stay (fun c v hc r=>k c v ?_ r) (fun c r=>by rw[Ql (nown c b r)];exact r) fun c xs r=>by rw[Ql (ntup c xs r)];exact r
   rcases hc with rfl|hc
   .exact hbe
   .rintro rfl
    rcases he with z|z
    .exact nown c b hc z
    .rw[hc]at z;cases z;exact hb rfl
end
structure Un (fs ex:List Addr)(H H':Hp)(h h':Heap):Prop where
 keep:∀b o,h.get? b=some o->H b=none->b∉fs->b∉ex->h'.get? b=some o
 slot:∀b o,h.get? b=some o->H b=none->b∈fs->b∉ex->∃sl,h'.get? b=some {o with slots:=sl}
 free:∀b o,h.get? b=some o->H b=none->b∉ex->H' b=none
 there:∀b o,h.get? b=some o->b∉ex->∃o',h'.get? b=some o'
 tups:∀b xs,H b=some (.tup xs)->H' b=some (.tup xs)
 frzs:∀b o u,H b=some (.frz o u)->H' b=some (.frz o u)
 tbls:∀b ps,H b=some (.tbl ps)->∃more,H' b=some (.tbl (ps++more))
section
variable {fs fs' ex ex':List Addr}{H H1 H2:Hp}{h h1 h2 h':Heap}{a x e:Addr}{o:HO}
theorem Un.any (u:Un fs ex H H1 h h1){b:Addr}{ob:Obj}(q:h.get? b=some ob)(n:H b=none)(hx:b∉ex):∃sl,h1.get? b=some {ob with slots:=sl}:=by
 by_cases hb:b∈fs
 .exact u.slot b ob q n hb hx
 .exact⟨ob.slots,u.keep b ob q n hb hx⟩
theorem Un.kept (k:∀b u,h.get? b=some u->h'.get? b=some u):Un fs ex H H h h':=
 ⟨fun b ob q _ _ _=>k b ob q,fun b ob q _ _ _=>⟨ob.slots,k b ob q⟩,fun _ _ _ n _=>n,fun b ob q _=>⟨ob,k b ob q⟩,fun _ _ q=>q,fun _ _ _ q=>q,fun _ ps q=>⟨#[],by rw[q];simp⟩⟩
theorem Un.refl:Un fs ex H H h h:=Un.kept fun _ _ q=>q
theorem Un.laid (k:∀b u,h.get? b=some u->h'.get? b=some u)(hp:h.objs.size<=a)(hn:H a=none):Un fs ex H (upd H a o) h h' where
 keep:=fun b u q _ _ _=>k b u q
 slot:=fun b u q _ _ _=>⟨u.slots,k b u q⟩
 free:=fun b u q n _=>by rw[Ql (Nat.ne_of_lt (Nat.lt_of_lt_of_le (Heap.lt_size q) hp))];exact n
 there:=fun b u q _=>⟨u,k b u q⟩
 tups:=fun b xs q=>by rw[Ql (QbB q hn)];exact q
 frzs:=fun b u xs q=>by rw[Ql (QbB q hn)];exact q
 tbls:=fun b ps q=>⟨#[],by rw[Ql (QbB q hn),q];simp⟩
theorem Un.write (mu:Mut (H x))(he:e=x\/H e=some (.own x))(k:∀b u,b≠e->h.get? b=some u->h'.get? b=some u)(heo:∃u,h'.get? e=some u):Un fs ex H (upd H x o) h h':=by
 have hx:∀b,H b=none->b≠x:=fun b n z=>by subst z;rw[n]at mu;exact mu
 have hb:∀b,H b=none->b≠e:=fun b n z=>by
  subst z
  rcases he with r|r
  .exact hx b n r
  .rw[n]at r;cases r
 have hm:∀b u,H b=some u->¬Mut (some u)->b≠x:=fun b u q nm z=>by subst z;rw[q]at mu;exact nm mu
 refine⟨fun b u q n _ _=>k b u (hb b n) q,fun b u q n _ _=>⟨u.slots,k b u (hb b n) q⟩,fun b u q n _=>by rw[Ql (hx b n)];exact n,fun b u q _=>?_,
  fun b xs q=>by rw[Ql (hm b _ q fun z=>z)];exact q,fun b u xs q=>by rw[Ql (hm b _ q fun z=>z)];exact q,fun b ps q=>⟨#[],by rw[Ql (hm b _ q fun z=>z),q];simp⟩⟩
 by_cases hbe:b=e
 .subst hbe;exact heo
 .exact⟨u,k b u hbe q⟩
end
noncomputable def trk (h:Heap)(H:Hp):List Addr:=(List.range h.objs.size).filter fun a=>(H a).isSome
noncomputable def hidT (h:Heap)(H:Hp):Heap:=PySem.W.hideAll h (trk h H)
theorem QkB (h:Heap)(H:Hp):(hidT h H).objs.size=h.objs.size:=PySem.W.hideAll_size _ _
theorem Qmj {h:Heap}{H:Hp}{b:Addr}{o:Obj}(e:h.get? b=some o)(n:H b=none):(hidT h H).get? b=some o:=
 PySem.W.hideAll_get _ e fun hm=>by
  have q:(H b).isSome=true:=(List.mem_filter.mp hm).2
  rw[n]at q;simp at q
theorem Qoj {h:Heap}{H:Hp}{b:Addr}{o:Obj}(e:(hidT h H).get? b=some o):h.get? b=some o/\H b=none:=by
 have e':h.get? b=some o:=PySem.W.of_hideAll (trk h H) e
 refine⟨e',?_⟩
 cases q:H b with
 |none=>rfl
 |some x=>
  have hm:b∈trk h H:=List.mem_filter.mpr ⟨List.mem_range.mpr (Heap.lt_size e'),by simp[q]⟩
  have z:(hidT h H).get? b=none:=PySem.W.hideAll_none (trk h H) hm
  rw[z]at e;cases e
noncomputable def Qok (g h:Heap)(L:Addr):List ay:=(List.range h.objs.size).filterMap fun a=>if a=L\/(g.get? a).isSome=true then none else(h.get? a).map fun o=>(a,o)
noncomputable def rest (g h:Heap)(L d:Addr):List ay:=(Qok g h L).filter fun p=>decide (p.1≠d)
end L2
namespace L2
open PySem PySem.Spec PyProof.Rows
structure Mod (K:PySem.W.Frag)(mg:Str->Option Value)(base:Heap):Prop where
 kin:K.In base
 glob:base.Ns mainGlobals mg
 blt:∃mb,base.Ns builtinsNs mb/\∀x:Str,x≠"__name__"->mb x=bootBuiltins x
 nolimit:base.NoLimit
structure Cx where
 prog:Program
 w:World
 K:PySem.W.Frag
 mg:Str->Option Value
 base:Heap
 A:Around
 N:List Str
 s₀:Shared
 H₀:Hp
 env:Env
 outer:List Env
 stack:List Env
 ex:List Addr
 fn:Str->Bool
 calm:Bool
 pn:List ay
 xe:Value->Shared->Prop
noncomputable def frs (l:List Env):List Addr:=l.filterMap (·.frame)
noncomputable abbrev Cx.fs (X:Cx):List Addr:=frs X.outer
noncomputable def Vis (sc:Scope)(x:Str):Prop:=sc.names.lookup x=some .local\/sc.names.lookup x=some .cell\/sc.names.lookup x=some .free
noncomputable def Loc (sc:Scope)(x:Str):Prop:=sc.names.lookup x=some .local\/sc.names.lookup x=some .cell
noncomputable def Look (env:Env)(h:Heap)(m:Str->Option Value)(x:Str)(u:Value):Prop:=
 (env.kindOf x=some .local/\m x=some u)\/((env.kindOf x=some .cell\/env.kindOf x=some .free)/\∃c,env.cells.lookup x=some c/\h.IsCell c (some u))
structure Cx.Ok (X:Cx):Prop where
 mod:Mod X.K X.mg X.base
 kind:X.env.scope.kind= .function
 glob:X.env.globals=mainGlobals
 blt:X.env.builtins=builtinsNs
 above:X.s₀.heap.objs.size<=X.env.locals
 inj:∀x y c,X.env.cells.lookup x=some c->X.env.cells.lookup y=some c->x=y
 has:∀x,(X.env.kindOf x=some .cell\/X.env.kindOf x=some .free)->∃c,X.env.cells.lookup x=some c
 cab:∀x c,X.fn x=true->X.env.cells.lookup x=some c->X.s₀.heap.objs.size<=c
 hd:X.calm=true->X.A.handled=none
 frames:X.A.frames=some X.stack
 stk:X.stack=X.outer\/(X.stack=X.env::X.outer/\X.env.frame=some X.env.locals)
 exf:∀b∈X.ex,b≠X.env.locals/\∀x c,X.env.cells.lookup x=some c->c≠b
 bs:∀b o,X.base.get? b=some o->X.s₀.heap.get? b=some o/\X.H₀ b=none
 bsz:X.base.objs.size<=X.s₀.heap.objs.size
 noex:∀b o,X.base.get? b=some o->b∉X.ex
 exfs:∀b∈X.ex,b∉X.fs
 funs:X.s₀.heap.FunFrames X.base X.outer
 frf:∀b∈X.fs,X.H₀ b=none
structure Inv (X:Cx)(pins:List (Addr×Obj))(σ:List (Option V))(H:Hp)(s:Shared):Prop where
 ok:X.Ok
 os:s.os=X.s₀.os
 bare:AllBare s.gens
 base:Un X.fs X.ex X.H₀ H X.s₀.heap s.heap
 loc:∃m,s.heap.Ns X.env.locals m/\∀(i:Nat) (x:Str) (v:V),X.N[i]?=some x->σ[i]?=some (some v)->Vis X.env.scope x->∃u,RelV v u/\Look X.env s.heap m x u
 cell:∀x c,X.env.cells.lookup x=some c->∃v,s.heap.IsCell c v
 free:H X.env.locals=none
 freeC:∀x c,X.env.cells.lookup x=some c->H c=none
 pin:∀p∈X.pn++pins,s.heap.get? p.1=some p.2/\H p.1=none/\p.1≠X.env.locals/\p.1∉X.fs/\∀v,p.2.data≠ .cell v
 hok:HOk X.prog X.w H s.heap
 len:σ.length=X.N.length
section
variable {X:Cx}{pins:List (Addr×Obj)}{σ:List (Option V)}{H H':Hp}{s:Shared}{h':Heap}
theorem Cx.Ok.nofr (ok:X.Ok){b:Addr}{o:Obj}(e:X.base.get? b=some o):b∉X.fs:=fun hb=>by
 have:=(ok.funs.mem hb).1
 rw[e]at this;cases this
theorem Inv.bs (I:Inv X pins σ H s):∀b o,X.base.get? b=some o->s.heap.get? b=some o/\H b=none:=fun b o e=>
 ⟨I.base.keep b o (I.ok.bs b o e).1 (I.ok.bs b o e).2 (I.ok.nofr e) (I.ok.noex b o e),I.base.free b o (I.ok.bs b o e).1 (I.ok.bs b o e).2 (I.ok.noex b o e)⟩
theorem Inv.bk (I:Inv X pins σ H s):∀b o,X.base.get? b=some o->s.heap.get? b=some o:=fun b o e=>(I.bs b o e).1
theorem Inv.mod (I:Inv X pins σ H s):Mod X.K X.mg X.base:=I.ok.mod
theorem Inv.kIn (I:Inv X pins σ H s):X.K.In s.heap:=I.ok.mod.kin.keeps I.bk
theorem Inv.lt (I:Inv X pins σ H s):X.env.locals<s.heap.objs.size:=let ⟨_,hn,_⟩:=I.loc;hn.lt
theorem Inv.sz (I:Inv X pins σ H s):X.s₀.heap.objs.size<=s.heap.objs.size:=Nat.le_trans I.ok.above (Nat.le_of_lt I.lt)
theorem Inv.nofs (I:Inv X pins σ H s){a:Addr}(h:s.heap.objs.size<=a):a∉X.fs:=fun hb=>by
 obtain⟨_,o,ho,_⟩:=I.ok.funs.mem hb
 exact absurd (Nat.lt_of_lt_of_le (Heap.lt_size ho) (Nat.le_trans I.sz h)) (Nat.lt_irrefl _)
theorem Inv.cne (I:Inv X pins σ H s):∀x c,X.env.cells.lookup x=some c->c≠X.env.locals:=fun x c e z=>by
 obtain⟨v,o,ho,hd⟩:=I.cell x c e
 obtain⟨m,⟨o',es,ep,ho',hd',_⟩,_⟩:=I.loc
 rw[z,ho']at ho;cases ho;rw[hd']at hd;cases hd
theorem Inv.funs (I:Inv X pins σ H s):s.heap.FunFrames X.base X.outer:=by
 have all:∀(l:List Env),(∀b∈frs l,b∈X.fs)->X.s₀.heap.FunFrames X.base l->s.heap.FunFrames X.base l:=by
  intro l
  induction l with
  |nil=>intro _ _;trivial
  |cons env r ih=>
   intro hs hl
   obtain⟨hk,⟨L,o,hf,hn,ho,hd⟩,hr⟩:=hl
   have hL:L∈X.fs:=hs L (by unfold frs;rw[List.filterMap_cons,hf];exact List.mem_cons_self)
   obtain⟨sl,e⟩:=I.base.slot L o ho (I.ok.frf L hL) hL fun z=>I.ok.exfs L z hL
   exact⟨hk,⟨L,_,hf,hn,e,hd⟩,ih (fun b hb=>hs b (by unfold frs;rw[List.filterMap_cons,hf];exact List.mem_cons_of_mem _ hb)) hr⟩
 exact all X.outer (fun _ hb=>hb) I.ok.funs
theorem Inv.stack (I:Inv X pins σ H s):s.heap.FunFrames X.base X.stack:=by
 rcases I.ok.stk with e|⟨e,hf⟩
 .rw[e];exact I.funs
 .rw[e]
  obtain⟨m,hn,_⟩:=I.loc
  refine .cons (by rw[I.ok.kind];decide) hf hn ?_ I.funs
  exact Heap.get?_none_of_le (Nat.le_trans I.ok.bsz I.ok.above)
theorem Inv.stkSub (I:Inv X pins σ H s):∀b∈frs X.stack,b∈X.env.locals::X.fs:=fun b hb=>by
 rcases I.ok.stk with e|⟨e,hf⟩
 .rw[e]at hb;exact List.mem_cons_of_mem _ hb
 .rw[e]at hb
  unfold frs at hb
  rw[List.filterMap_cons,hf]at hb
  exact hb
theorem Inv.stkFree (I:Inv X pins σ H s):∀b∈frs X.stack,H b=none:=fun b hb=>by
 rcases List.mem_cons.mp (I.stkSub b hb)with e|hb
 .rw[e];exact I.free
 .obtain⟨_,o,ho,_⟩:=I.ok.funs.mem hb
  exact I.base.free b o ho (I.ok.frf b hb) fun z=>I.ok.exfs b z hb
theorem Inv.step {g':Array GenState}{t':Nat}{d':Drawn}{ch:List Addr}(I:Inv X pins σ H s)
  (hch:∀b∈ch,(b∈X.ex\/X.s₀.heap.objs.size<=b)/\b≠X.env.locals/\(∀x c,X.env.cells.lookup x=some c->c≠b)/\∀p∈X.pn++pins,p.1≠b)
  (keep:∀b o,b≠X.env.locals->b∉X.fs->b∉ch->s.heap.get? b=some o->H b=none->h'.get? b=some o)
  (slot:∀b o,b≠X.env.locals->b∈X.fs->b∉ch->s.heap.get? b=some o->H b=none->∃sl,h'.get? b=some {o with slots:=sl}) (free:∀b o,b∉ch->s.heap.get? b=some o->H b=none->H' b=none)
  (there:∀b o,b∉ch->s.heap.get? b=some o->∃o',h'.get? b=some o')
  (tups:∀b xs,H b=some (.tup xs)->H' b=some (.tup xs)) (frzs:∀b o u,H b=some (.frz o u)->H' b=some (.frz o u)) (tbls:∀b ps,H b=some (.tbl ps)->∃more,H' b=some (.tbl (ps++more)))
  (ns:∀m,s.heap.Ns X.env.locals m->h'.Ns X.env.locals m) (hok:HOk X.prog X.w H' h') (hg:AllBare g'):
  Inv X pins σ H' {s with heap:=h',gens:=g',drawn:=d',toks:=t'}:=by
 have neL:∀b o,X.s₀.heap.get? b=some o->b≠X.env.locals:=fun b o e=>Nat.ne_of_lt (Nat.lt_of_lt_of_le (Heap.lt_size e) I.ok.above)
 have neC:∀b o,X.s₀.heap.get? b=some o->b∉X.ex->b∉ch:=fun b o e hx hb=>by
  rcases(hch b hb).1 with z|z
  .exact hx z
  .exact absurd (Nat.lt_of_lt_of_le (Heap.lt_size e) z) (Nat.lt_irrefl _)
 have cellK:∀x c,X.env.cells.lookup x=some c->∀v,s.heap.IsCell c v->h'.IsCell c v:=fun x c e v ⟨o,ho,hd⟩=>by
  have nch:c∉ch:=fun z=>(hch c z).2.2.1 x c e rfl
  by_cases hc:c∈X.fs
  .obtain⟨sl,q⟩:=slot c o (I.cne x c e) hc nch ho (I.freeC x c e)
   exact⟨_,q,hd⟩
  .exact⟨o,keep c o (I.cne x c e) hc nch ho (I.freeC x c e),hd⟩
 refine⟨I.ok,I.os,hg,⟨fun b o e n hb hx=>?_,fun b o e n hb hx=>?_,fun b o e n hx=>?_,fun b o e hx=>?_,fun b xs e=>tups b xs (I.base.tups b xs e),fun b o xs e=>frzs b o xs (I.base.frzs b o xs e),fun b ps e=>?_⟩,?_,fun x c e=>?_,?_,fun x c e=>?_,fun p hp=>?_,hok,I.len⟩
 .exact keep b o (neL b o e) hb (neC b o e hx) (I.base.keep b o e n hb hx) (I.base.free b o e n hx)
 .obtain⟨sl,e1⟩:=I.base.slot b o e n hb hx
  obtain⟨sl',e2⟩:=slot b _ (neL b o e) hb (neC b o e hx) e1 (I.base.free b o e n hx)
  exact⟨sl',e2⟩
 .obtain⟨o',e1⟩:=I.base.there b o e hx
  exact free b o' (neC b o e hx) e1 (I.base.free b o e n hx)
 .obtain⟨o',e1⟩:=I.base.there b o e hx
  exact there b o' (neC b o e hx) e1
 .obtain⟨m1,e1⟩:=I.base.tbls b ps e
  obtain⟨m2,e2⟩:=tbls b _ e1
  exact⟨m1++m2,by rw[e2,Array.append_assoc]⟩
 .obtain⟨m,hn,hl⟩:=I.loc
  refine⟨m,ns m hn,fun i x v e1 e2 e3=>?_⟩
  obtain⟨u,r,l⟩:=hl i x v e1 e2 e3
  refine⟨u,r,?_⟩
  rcases l with l|⟨k,c,e,z⟩
  .exact .inl l
  .exact .inr ⟨k,c,e,cellK x c e _ z⟩
 .obtain⟨v,z⟩:=I.cell x c e
  exact⟨v,cellK x c e v z⟩
 .obtain⟨m,⟨o,_,_,ho,_⟩,_⟩:=I.loc
  exact free _ o (fun z=>(hch _ z).2.1 rfl) ho I.free
 .obtain⟨v,o,ho,hd⟩:=I.cell x c e
  exact free c o (fun z=>(hch c z).2.2.1 x c e rfl) ho (I.freeC x c e)
 .obtain⟨e,n,ne,nf,d⟩:=I.pin p hp
  have nch:p.1∉ch:=fun z=>(hch p.1 z).2.2.2 p hp rfl
  exact⟨keep p.1 p.2 ne nf nch e n,free p.1 p.2 nch e n,ne,nf,d⟩
theorem Inv.un {t':Nat}(I:Inv X pins σ H s)(u:Un X.fs [] H H' s.heap h')(hok:HOk X.prog X.w H' h'):Inv X pins σ H' {s with heap:=h',toks:=t'}:=by
 obtain⟨m,⟨o,es,ep,ho,r⟩,_⟩:=id I.loc
 obtain⟨sl,hL⟩:=u.any ho I.free al
 exact I.step (g':=s.gens) (d':=s.drawn) (ch:= []) (fun _ z=>nomatch z) (fun b o _ hb _ e n=>u.keep b o e n hb al) (fun b o _ hb _ e n=>u.slot b o e n hb al) (fun b o _ e n=>u.free b o e n al) (fun b o _ e=>u.there b o e al) u.tups u.frzs u.tbls (fun m' hm=>by
  obtain⟨o',es',ep',ho',r'⟩:=hm
  rw[ho]at ho';cases ho'
  exact⟨_,es',ep',hL,r'⟩) hok I.bare
theorem Inv.call {g':Array GenState}{t':Nat}{d':Drawn}{ch:List Addr}(I:Inv X pins σ H s)(u:Un (frs X.stack) ch H H' s.heap h')(hok:HOk X.prog X.w H' h')(hg:AllBare g')
  (hch:∀b∈ch,(b∈X.ex\/X.s₀.heap.objs.size<=b)/\b≠X.env.locals/\(∀x c,X.env.cells.lookup x=some c->c≠b)/\∀p∈X.pn++pins,p.1≠b):
  Inv X pins σ H' {s with heap:=h',gens:=g',drawn:=d',toks:=t'}:=by
 obtain⟨m,⟨o,es,ep,ho,r⟩,_⟩:=id I.loc
 obtain⟨sl,hL⟩:=u.any ho I.free fun z=>(hch _ z).2.1 rfl
 exact I.step (ch:=ch) hch (fun b o hL hb hc e n=>u.keep b o e n (fun z=>(List.mem_cons.mp (I.stkSub b z)).elim hL hb) hc) (fun b o _ _ hc e n=>u.any e n hc) (fun b o hc e n=>u.free b o e n hc) (fun b o hc e=>u.there b o e hc) u.tups u.frzs u.tbls (fun m' hm=>by
  obtain⟨o',es',ep',ho',r'⟩:=hm
  rw[ho]at ho';cases ho'
  exact⟨_,es',ep',hL,r'⟩) hok hg
theorem Inv.turned {t':Nat}{it:Addr}(I:Inv X pins σ H s)(k:∀b o,b≠it->s.heap.get? b=some o->h'.get? b=some o)(hn:H it=none)(hL:it≠X.env.locals)
  (h1:it∈X.ex\/X.s₀.heap.objs.size<=it) (h2:∀x c,X.env.cells.lookup x=some c->c≠it) (h3:∀p∈X.pn++pins,p.1≠it):Inv X pins σ H {s with heap:=h',toks:=t'}:=by
 have nit:∀b u,H b=some u->b≠it:=fun b u e z=>by rw[z,hn]at e;cases e
 refine I.step (g':=s.gens) (d':=s.drawn) (ch:= [it]) (fun b hb=>?_) (fun b o _ _ hc e _=>k b o (fun z=>hc (by simp[z])) e) (fun b o _ _ hc e _=>⟨o.slots,k b o (fun z=>hc (by simp[z])) e⟩) (fun _ _ _ _ n=>n)
  (fun b o hc e=>⟨o,k b o (fun z=>hc (by simp[z])) e⟩) (fun _ _ e=>e) (fun _ _ _ e=>e) (fun b ps e=>⟨#[],by rw[e];simp⟩) (fun m hm=>?_) (fun b u e=>?_) I.bare
 .have e:b=it:=by simpa using hb
  subst e
  exact⟨h1,hL,h2,h3⟩
 .obtain⟨o,es,ep,ho,r⟩:=hm
  exact⟨o,es,ep,k _ o (Ne.symm hL) ho,r⟩
 .refine(I.hok b u e).stay (fun c v hc q=>k c v ?_ q) (fun _ q=>q) fun _ _ q=>q
  rcases hc with z|z
  .rw[z];exact nit b u e
  .exact nit c _ z
theorem Inv.tok (I:Inv X pins σ H s)(t:Nat):Inv X pins σ H {s with toks:=t}:=I.un (h':=s.heap) (t':=t) Un.refl I.hok
theorem Inv.kept {t':Nat}(I:Inv X pins σ H s)(k:∀b u,s.heap.get? b=some u->h'.get? b=some u):Inv X pins σ H {s with heap:=h',toks:=t'}:=I.un (Un.kept k) (I.hok.kept k)
theorem Inv.laid {a:Addr}{o:HO}{t':Nat}(I:Inv X pins σ H s)(k:∀b u,s.heap.get? b=some u->h'.get? b=some u)(hp:s.heap.objs.size<=a)(new:ObjOk X.prog X.w (upd H a o) h' a o):
  Inv X pins σ (upd H a o) {s with heap:=h',toks:=t'}:=I.un (Un.laid k hp (I.hok.fresh hp)) (I.hok.laid k hp new)
theorem Inv.write {x e:Addr}{o:HO}{t':Nat}(I:Inv X pins σ H s)(mu:Mut (H x))(he:e=x\/H e=some (.own x))(k:∀b u,b≠e->s.heap.get? b=some u->h'.get? b=some u)(heo:∃u,h'.get? e=some u)
  (new:ObjOk X.prog X.w (upd H x o) h' x o):Inv X pins σ (upd H x o) {s with heap:=h',toks:=t'}:=I.un (Un.write mu he k heo) (I.hok.write mu he k heo new)
theorem Inv.pins_of {pins':List ay}(I:Inv X pins σ H s)(h:∀p∈pins',s.heap.get? p.1=some p.2/\H p.1=none/\p.1≠X.env.locals/\p.1∉X.fs/\∀v,p.2.data≠ .cell v):Inv X pins' σ H s:=
 ⟨I.ok,I.os,I.bare,I.base,I.loc,I.cell,I.free,I.freeC,fun p hp=>(List.mem_append.mp hp).elim (fun z=>I.pin p (List.mem_append_left _ z)) (h p),I.hok,I.len⟩
theorem Qi0 {N:List Str}(hN:N.Nodup){i j:Nat}{x:Str}(a:N[i]?=some x)(b:N[j]?=some x):i=j:=by
 obtain⟨h1,e1⟩:=List.getElem?_eq_some_iff.mp a
 obtain⟨h2,e2⟩:=List.getElem?_eq_some_iff.mp b
 exact(List.getElem_inj hN).mp (e1.trans e2.symm)
theorem QkC {M:Model}{A:Around}{E:Value->Shared->Prop}{i:Nat}{x:Str}{v:V}{u:Value}{Q:Unit->Shared->Prop}(I:Inv X pins σ H s)(hN:X.N.Nodup)(hi:X.N[i]?=some x)(hx:Loc X.env.scope x)(r:RelV v u)
  (h:∀s',Inv X pins (σ.set i (some v)) H s'->(∃a,Heap.SameBut a s.heap s'.heap/\(a=X.env.locals\/X.env.cells.lookup x=some a))->Q () s') (hf:X.fn x=true\/X.env.scope.names.lookup x=some .local:=by first|exact .inl rfl|exact .inr rfl|assumption):wpAny M A (storeName X.env x u) Q E s:=by
 obtain⟨m,hn,hl⟩:=id I.loc
 have hcls:(X.env.scope.kind== .class||(X.env.scope.kind== .module&&X.env.locals !=X.env.globals))=false:=by rw[I.ok.kind];rfl
 have hiσ:i<σ.length:=by rw[I.len];exact(List.getElem?_eq_some_iff.mp hi).1
 have cne:=I.cne
 have tracked:∀{a:Addr} {h':Heap},(∃o,s.heap.get? a=some o/\H a=none)->Heap.SameBut a s.heap h'->HOk X.prog X.w H h':=fun{a h'} ha hs b ob e=>by
  obtain⟨_,_,hfree⟩:=ha
  refine(I.hok b ob e).stay (fun c w' hc q=>(hs.2 c ?_).trans q) (fun _ q=>q) fun _ _ q=>q
  rintro rfl
  rcases hc with rfl|hc
  .rw[hfree]at e;cases e
  .rw[hfree]at hc;cases hc
 rcases hx with hk|hk
 .refine wpAny_storeName_local hk hn (fun h' hn' hs=>?_) hcls
  obtain⟨oL,_,_,hoL,_⟩:=id hn
  refine h _ ⟨I.ok,I.os,I.bare,⟨fun b o e n hb hx=>?_,fun b o e n hb hx=>?_,I.base.free,fun b o e hx=>?_,I.base.tups,I.base.frzs,I.base.tbls⟩,⟨_,hn',fun j y v' e1 e2 e3=>?_⟩,fun y c e=>?_,I.free,I.freeC,fun p hp=>?_,tracked ⟨oL,hoL,I.free⟩ hs,by simpa using I.len⟩ ⟨_,hs, .inl rfl⟩
  .exact(hs.2 b (Nat.ne_of_lt (Nat.lt_of_lt_of_le (Heap.lt_size e) I.ok.above))).trans (I.base.keep b o e n hb hx)
  .obtain⟨sl,e1⟩:=I.base.slot b o e n hb hx
   exact⟨sl,(hs.2 b (Nat.ne_of_lt (Nat.lt_of_lt_of_le (Heap.lt_size e) I.ok.above))).trans e1⟩
  .obtain⟨o',e1⟩:=I.base.there b o e hx
   exact⟨o',(hs.2 b (Nat.ne_of_lt (Nat.lt_of_lt_of_le (Heap.lt_size e) I.ok.above))).trans e1⟩
  .by_cases hj:j=i
   .subst hj
    rw[hi]at e1;cases e1
    rw[List.getElem?_set_self hiσ]at e2
    cases e2
    exact⟨u,r, .inl ⟨hk,by simp⟩⟩
   .rw[List.getElem?_set_ne (Ne.symm hj)]at e2
    obtain⟨u',r',q⟩:=hl j y v' e1 e2 e3
    refine⟨u',r',?_⟩
    rcases q with⟨k,e⟩|⟨k,c,e,z⟩
    .refine .inl ⟨k,?_⟩
     have:y≠x:=fun e=>hj (Qi0 hN e1 (e▸hi))
     simp[this,e]
    .exact .inr ⟨k,c,e,z.sameBut hs (cne y c e)⟩
  .obtain⟨w',z⟩:=I.cell y c e
   exact⟨w',z.sameBut hs (cne y c e)⟩
  .obtain⟨e,n,ne,nf,d⟩:=I.pin p hp
   exact⟨(hs.2 p.1 ne).trans e,n,ne,nf,d⟩
 .have hfn:X.fn x=true:=by
   rcases hf with z|z
   .exact z
   .rw[z]at hk;cases hk
  obtain⟨c,hc⟩:=I.ok.has x (.inl hk)
  obtain⟨w',z⟩:=I.cell x c hc
  refine wpAny_storeName_cell I.ok.kind hk hc z (fun h' hc' hs=>?_)
  obtain⟨oc,hoc,hocd⟩:=id z
  refine h {s with heap:=h'} ⟨I.ok,I.os,I.bare,⟨fun b o e n hb hx=>?_,fun b o e n hb hx=>?_,I.base.free,fun b o e hx=>?_,I.base.tups,I.base.frzs,I.base.tbls⟩,⟨m,hn.sameBut hs (Ne.symm (cne x c hc)),fun j y v' e1 e2 e3=>?_⟩,fun y c' e=>?_,I.free,I.freeC,fun p hp=>?_,tracked ⟨oc,hoc,I.freeC x c hc⟩ hs,by simpa using I.len⟩ ⟨c,hs, .inr hc⟩
  .exact(hs.2 b (Nat.ne_of_lt (Nat.lt_of_lt_of_le (Heap.lt_size e) (I.ok.cab x c hfn hc)))).trans (I.base.keep b o e n hb hx)
  .obtain⟨sl,e1⟩:=I.base.slot b o e n hb hx
   exact⟨sl,(hs.2 b (Nat.ne_of_lt (Nat.lt_of_lt_of_le (Heap.lt_size e) (I.ok.cab x c hfn hc)))).trans e1⟩
  .obtain⟨o',e1⟩:=I.base.there b o e hx
   exact⟨o',(hs.2 b (Nat.ne_of_lt (Nat.lt_of_lt_of_le (Heap.lt_size e) (I.ok.cab x c hfn hc)))).trans e1⟩
  .by_cases hj:j=i
   .subst hj
    rw[hi]at e1;cases e1
    rw[List.getElem?_set_self hiσ]at e2
    cases e2
    exact⟨u,r, .inr ⟨.inl hk,c,hc,hc'⟩⟩
   .rw[List.getElem?_set_ne (Ne.symm hj)]at e2
    obtain⟨u',r',q⟩:=hl j y v' e1 e2 e3
    refine⟨u',r',?_⟩
    rcases q with q|⟨k,c',e,z'⟩
    .exact .inl q
    .refine .inr ⟨k,c',e,z'.sameBut hs ?_⟩
     rintro rfl
     exact hj (Qi0 hN e1 (I.ok.inj _ _ _ e hc▸hi))
  .by_cases hcc:c'=c
   .subst hcc;exact⟨_,hc'⟩
   .obtain⟨w2,z2⟩:=I.cell y c' e
    exact⟨w2,z2.sameBut hs hcc⟩
  .obtain⟨e,n,ne,nf,d⟩:=I.pin p hp
   refine⟨(hs.2 p.1 ?_).trans e,n,ne,nf,d⟩
   intro q
   rw[q,hoc]at e
   have q':oc=p.2:=Option.some.inj e
   exact d w' (by rw[←q'];exact hocd)
theorem Qgk {M:Model}{A:Around}{E:Value->Shared->Prop}{i:Nat}{x:Str}{v:V}{u:Value}{Q:Unit->Shared->Prop}(I:Inv X pins σ H s)(hN:X.N.Nodup)(hi:X.N[i]?=some x)(hx:Loc X.env.scope x)(r:RelV v u)
  (h:∀s',Inv X pins (σ.set i (some v)) H s'->Q () s') (hf:X.fn x=true\/X.env.scope.names.lookup x=some .local:=by first|exact .inl rfl|exact .inr rfl|assumption):wpAny M A (storeName X.env x u) Q E s:=
 QkC I hN hi hx r (fun s' I' _=>h s' I') hf
theorem Inv.call' {s':Shared}{ch:List Addr}(I:Inv X pins σ H s)(ho:s'.os=s.os)(u:Un (frs X.stack) ch H H' s.heap s'.heap)(hok:HOk X.prog X.w H' s'.heap)(hg:AllBare s'.gens)
  (hch:∀b∈ch,(b∈X.ex\/X.s₀.heap.objs.size<=b)/\b≠X.env.locals/\(∀x c,X.env.cells.lookup x=some c->c≠b)/\∀p∈X.pn++pins,p.1≠b):Inv X pins σ H' s':=by
 obtain⟨h',g',d',t',o'⟩:=s'
 have e:o'=s.os:=ho
 subst e
 exact I.call (g':=g') (t':=t') (d':=d') u hok hg hch
end
noncomputable abbrev XK:=Value->Option Addr->Hp->Prop
noncomputable abbrev St:=List (Option V)
noncomputable abbrev VK:=V->Hp->Prop
noncomputable abbrev TE:=St->Hp->VK->Prop
noncomputable abbrev TT:=St->Hp->(Bool->Hp->Prop)->Prop
noncomputable abbrev TA:=St->Hp->(List V->Hp->Prop)->Prop
structure Ends where
 nx:St->Hp->Prop
 rt:VK
 bk:St->Hp->Prop:=fun _ _=>False
 ct:St->Hp->Prop:=fun _ _=>False
noncomputable abbrev TS:=Ends->St->Hp->Prop
noncomputable def EP (X:Cx)(pins:List ay)(σ:St)(Q:VK)(u:Value)(s':Shared):Prop:=∃v H',Inv X pins σ H' s'/\RelV v u/\Q v H'
noncomputable def TP (X:Cx)(pins:List ay)(σ:St)(Q:Bool->Hp->Prop)(b:Bool)(s':Shared):Prop:=∃H',Inv X pins σ H' s'/\Q b H'
noncomputable def AP (X:Cx)(pins:List ay)(σ:St)(Q:List V->Hp->Prop)(us:List Value)(s':Shared):Prop:=∃vs H',Inv X pins σ H' s'/\Vals vs us/\Q vs H'
noncomputable def SP (X:Cx)(pins:List ay)(D:Ends)(f:Flow)(s':Shared):Prop:=
 match f with
 | .next=>∃σ' H',Inv X pins σ' H' s'/\D.nx σ' H'
 | .brk=>∃σ' H',Inv X pins σ' H' s'/\D.bk σ' H'
 | .cont=>∃σ' H',Inv X pins σ' H' s'/\D.ct σ' H'
 | .ret u=>∃v σ' H',Inv X pins σ' H' s'/\RelV v u/\D.rt v H'
noncomputable def PE (X:Cx)(e:Expr)(t:TE):Prop:=
 ∀(pins:List ay) (s:Shared) (σ:St) (H:Hp) (Q:VK),Inv X pins σ H s->t σ H Q->wpAny ah X.A (eval e X.env) (EP X pins σ Q) X.xe s
noncomputable def PT (X:Cx)(e:Expr)(t:TT):Prop:=
 ∀(pins:List ay) (s:Shared) (σ:St) (H:Hp) (Q:Bool->Hp->Prop),Inv X pins σ H s->t σ H Q->wpAny ah X.A (isTrue e X.env (eval e X.env)) (TP X pins σ Q) X.xe s
noncomputable def PW (X:Cx)(e:Expr)(t:TT):Prop:=
 ∀(whole:Sem Value) (pins:List ay) (s:Shared) (σ:St) (H:Hp) (Q:Bool->Hp->Prop),Inv X pins σ H s->t σ H Q->wpAny ah X.A (isTrue e X.env whole) (TP X pins σ Q) X.xe s
theorem PW.pt {X:Cx}{e:Expr}{t:TT}(h:PW X e t):PT X e t:=h _
noncomputable def PA (X:Cx)(es:List Expr)(t:TA):Prop:=
 ∀(pos:Pos) (pins:List ay) (s:Shared) (σ:St) (H:Hp) (Q:List V->Hp->Prop),Inv X pins σ H s->t σ H Q->wpAny ah X.A (spliced (backTo pos aM)) (AP X pins σ Q) X.xe s
noncomputable def PS (X:Cx)(st:Stmt)(t:TS):Prop:=
 ∀(pins:List ay) (s:Shared) (σ:St) (H:Hp) (D:Ends),Inv X pins σ H s->t D σ H->wpAny ah X.A (exec st X.env) (SP X pins D) X.xe s
noncomputable def PSs (X:Cx)(st:List Stmt)(t:TS):Prop:=
 ∀(pins:List ay) (s:Shared) (σ:St) (H:Hp) (D:Ends),Inv X pins σ H s->t D σ H->wpAny ah X.A (execs st X.env) (SP X pins D) X.xe s
theorem thn {α:Type}{t:Sem α}{Q Q':α->Shared->Prop}{M:Model}{A:Around}{E:Value->Shared->Prop}{s:Shared}(h:wpAny M A t Q E s)(hQ:∀a s,Q a s->Q' a s):wpAny M A t Q' E s:=wpAny_mono h hQ fun _ _ x=>x
end L2
namespace L2
open PySem PySem.Spec PyProof.Rows
section
variable {X:Cx}
noncomputable def tVar (i:Nat):TE:=fun σ H Q=>∃v,σ[i]?=some (some v)/\Q v H
noncomputable def tC (v:V):TE:=fun _ H Q=>Q v H
theorem QeJ {i:Nat}{x:Str}{pos:Pos}(hN:X.N[i]?=some x)(hv:Vis X.env.scope x)(hd:aJ=false:=by decide)(hcd:(x==("__classdict__":Str))=false:=by decide):PE X (.Name x pos) (tVar i):=by
 intro pins s σ H Q I h
 obtain⟨v,e,h⟩:=h
 obtain⟨m,hn,hl⟩:=I.loc
 obtain⟨u,r,l⟩:=hl i x v hN e hv
 have fin:EP X pins σ Q u s:=⟨v,H,I,r,h⟩
 rcases l with⟨hk,hm⟩|⟨hk,c,hc,hcell⟩
 .exact wpAny_Name (wpAny_loadName_local I.ok.kind hk hn hm fin) hd
 .rcases hk with hk|hk
  .exact wpAny_Name (wpAny_loadName_cell I.ok.kind hk hc hcell fin) hd
  .exact wpAny_Name (wpAny_loadName_free I.ok.kind hk hc hcell fin hcd) hd
theorem pe_int {i j pos}:PE X (.Constant (.int i) j pos) (tC (.int i)):=fun _ _ _ H _ I h=>wpAny_Constant_int ⟨.int i,H,I.tok _,⟨_,rfl⟩,h⟩
theorem pe_bl {b j pos}:PE X (.Constant (.bool b) j pos) (tC (.bl b)):=fun _ _ _ H _ I h=>Constant_bool ⟨.bl b,H,I,rfl,h⟩
theorem pe_non {j pos}:PE X (.Constant .none j pos) (tC .non):=fun _ _ _ H _ I h=>Constant_none ⟨.non,H,I,rfl,h⟩
theorem pe_str {x j pos}:PE X (.Constant (.str x) j pos) (tC (.str x)):=fun _ _ _ H _ I h=>Calls.Constant_str ⟨.str x,H,I.tok _,⟨_,rfl⟩,h⟩
noncomputable def Gl (X:Cx)(x:Str):Prop:=X.env.kindOf x=some .globalImplicit
theorem Qh7 {E:Value->Shared->Prop}{pins:List ay}{s:Shared}{σ:St}{H:Hp}{x:Str}{u:Value}{pos:Pos}{Q:Value->Shared->Prop}(I:Inv X pins σ H s)(hg:Gl X x)(hm:X.mg x=some u)(h:Q u s)
  (hd:aJ=false:=by decide):wpAny ah X.A (eval (.Name x pos) X.env) Q E s:=
 Calls.Name_function_global I.ok.kind hg (Calls.loadGlobal_global (by rw[I.ok.glob];exact I.mod.glob.keeps I.bk) hm h) hd
theorem Qdu {E:Value->Shared->Prop}{pins:List ay}{s:Shared}{σ:St}{H:Hp}{x:Str}{u:Value}{pos:Pos}{Q:Value->Shared->Prop}(I:Inv X pins σ H s)(hg:Gl X x)(hm:X.mg x=none)(hv:bootBuiltins x=some u)(h:Q u s)
  (hn:x≠"__name__":=by decide) (hd:aJ=false:=by decide):wpAny ah X.A (eval (.Name x pos) X.env) Q E s:=by
 obtain⟨mb,h1,h2⟩:=I.mod.blt
 exact Calls.Name_function_global I.ok.kind hg (Calls.loadGlobal_builtin (by rw[I.ok.glob];exact I.mod.glob.keeps I.bk) hm (by rw[I.ok.blt];exact h1.keeps I.bk) ((h2 x hn).trans hv) h) hd
theorem Qol {x:Str}{v:V}{u:Value}{pos:Pos}(hg:Gl X x)(hm:X.mg x=none)(hv:bootBuiltins x=some u)(r:RelV v u)(hn:x≠"__name__":=by decide)(hd:aJ=false:=by decide):PE X (.Name x pos) (tC v):=
 fun _ _ _ H _ I h=>Qdu I hg hm hv ⟨v,H,I,r,h⟩ hn hd
variable {a b:Expr}{ta tb:TE}{pos:Pos}
noncomputable def tB (t:TE):TT:=fun σ H Q=>t σ H fun x H1=>∃c,x= .bl c/\Q c H1
theorem Qqv {e:Expr}{t:TE}(h:PE X e t)(he:∀whole,isTrue e X.env whole=(do let v←whole;standAt e.pos;holding [v] (truthy v)):=by intro _;rfl):PT X e (tB t):=by
 intro pins s σ H Q I hw
 refine isTrue_plain (thn (h pins s σ H _ I hw) fun v s1 ⟨x,H1,I1,r1,q1⟩=>?_) (he _)
 obtain⟨d,rfl,q⟩:=q1
 cases r1
 exact wpAny_truthy_bool ⟨H1,I1,q⟩
variable {tA tB':TT}{rest:List Expr}
noncomputable def tAnd (t u:TT):TT:=fun σ H Q=>t σ H fun c H1=>if c=true then u σ H1 Q else Q false H1
noncomputable def tOr (t u:TT):TT:=fun σ H Q=>t σ H fun c H1=>if c=true then Q true H1 else u σ H1 Q
noncomputable def tNot (t:TT):TT:=fun σ H Q=>t σ H fun c H1=>Q (!c) H1
theorem Qom (ha:PT X a tA):PW X (.BoolOp .And [a] pos) tA:=by
 intro wh pins s σ H Q I h
 refine isTrue_and (thn (ha pins s σ H Q I h) fun c s1 e=>?_)
 cases c with
 |true=>exact isTrue_and_nil e
 |false=>exact e
theorem Qqw (ha:PT X a tA):PW X (.BoolOp .Or [a] pos) tA:=by
 intro wh pins s σ H Q I h
 refine isTrue_or (thn (ha pins s σ H Q I h) fun c s1 e=>?_)
 cases c with
 |false=>exact isTrue_or_nil e
 |true=>exact e
theorem Qqx (ha:PT X a tA)(hb:PW X (.BoolOp .And (b::rest) pos) tB'):PW X (.BoolOp .And (a::b::rest) pos) (tAnd tA tB'):=by
 intro wh pins s σ H Q I h
 refine isTrue_and (thn (ha pins s σ H _ I h) fun c s1 ⟨H1,I1,q1⟩=>?_)
 cases c with
 |true=>exact hb wh pins s1 σ H1 Q I1 q1
 |false=>exact⟨H1,I1,q1⟩
theorem Qtj (ha:PT X a tA)(hb:PW X (.BoolOp .Or (b::rest) pos) tB'):PW X (.BoolOp .Or (a::b::rest) pos) (tOr tA tB'):=by
 intro wh pins s σ H Q I h
 refine isTrue_or (thn (ha pins s σ H _ I h) fun c s1 ⟨H1,I1,q1⟩=>?_)
 cases c with
 |true=>exact⟨H1,I1,q1⟩
 |false=>exact hb wh pins s1 σ H1 Q I1 q1
theorem Qqy (ha:PT X a tA):PT X (.UnaryOp .Not a pos) (tNot tA):=by
 intro pins s σ H Q I h
 exact isTrue_not (ha pins s σ H (fun c H1=>Q (!c) H1) I h)
noncomputable def Qqz (ta tb:TE):TE:=fun σ H Q=>ta σ H fun x H1=>∃c,x= .bl c/\if c=true then tb σ H1 Q else Q (.bl false) H1
noncomputable def tOrV (ta tb:TE):TE:=fun σ H Q=>ta σ H fun x H1=>∃c,x= .bl c/\if c=true then Q (.bl true) H1 else tb σ H1 Q
theorem QqA {op}{t:TE}(h:PE X a t):PE X (.BoolOp op [a] pos) t:=fun pins s σ H Q I hw=>BoolOp_one (h pins s σ H Q I hw)
theorem QqB (ha:PE X a ta)(hb:PE X (.BoolOp .And (b::rest) pos) tb):PE X (.BoolOp .And (a::b::rest) pos) (Qqz ta tb):=by
 intro pins s σ H Q I h
 refine BoolOp_and (thn (ha pins s σ H _ I h) fun v s1 ⟨x,H1,I1,r1,q1⟩=>?_)
 obtain⟨c,rfl,q1⟩:=q1
 cases r1
 refine wpAny_truthy_bool ?_
 cases c with
 |true=>exact hb pins s1 σ H1 Q I1 q1
 |false=>exact⟨.bl false,H1,I1,rfl,q1⟩
theorem Qtk (ha:PE X a ta)(hb:PE X (.BoolOp .Or (b::rest) pos) tb):PE X (.BoolOp .Or (a::b::rest) pos) (tOrV ta tb):=by
 intro pins s σ H Q I h
 refine BoolOp_or (thn (ha pins s σ H _ I h) fun v s1 ⟨x,H1,I1,r1,q1⟩=>?_)
 obtain⟨c,rfl,q1⟩:=q1
 cases r1
 refine wpAny_truthy_bool ?_
 cases c with
 |false=>exact hb pins s1 σ H1 Q I1 q1
 |true=>exact⟨.bl true,H1,I1,rfl,q1⟩
noncomputable def tIf (t:TT)(ta tb:TE):TE:=fun σ H Q=>t σ H fun c H1=>if c=true then ta σ H1 Q else tb σ H1 Q
theorem Qmk {c:Expr}(hc:PT X c tA)(ha:PE X a ta)(hb:PE X b tb):PE X (.IfExp c a b pos) (tIf tA ta tb):=by
 intro pins s σ H Q I h
 refine wpAny_IfExp (thn (hc pins s σ H _ I h) fun d s1 ⟨H1,I1,q1⟩=>?_)
 cases d with
 |true=>exact ha pins s1 σ H1 Q I1 q1
 |false=>exact hb pins s1 σ H1 Q I1 q1
end
end L2
namespace L2
open PySem PySem.Spec PyProof.Rows
noncomputable def SqL (K:PySem.W.Frag)(H:Hp)(a:Addr)(xs:List V):Prop:=
 Rd H a (.lst xs)\/
  ∃(o:Obj) (its:Array Value) (n:Nat),K.lookup a=some o/\o.cls= .type "list"/\o.dict=none/\o.data= .seq its n/\its.size<=sizeLine/\Vals xs its.toList
noncomputable def SqT (K:PySem.W.Frag)(H:Hp)(a:Addr)(xs:List V):Prop:=
 Rd H a (.tup xs)\/
  ∃(o:Obj) (its:Array Value) (n:Nat),K.lookup a=some o/\o.cls= .type "tuple"/\o.data= .seq its n/\its.size<=sizeLine/\Vals xs its.toList
noncomputable def absV:Value->Option V
 | .none=>some .non
 | .bool b=>some (.bl b)
 | .int i _=>some (.int i)
 | .str x _=>some (.str x)
 | .bytes b _=>some (.byt b)
 | .float b _=>some (.flt b)
 | .ref a=>some (.ref a)
 | .type n=>some (.ty n)
 |_=>none
theorem RelV.abs {x:V}{u:Value}(r:RelV x u):absV u=some x:=by
 cases x with
 |non=>cases r;rfl
 |bl _=>cases r;rfl
 |int _=>obtain⟨t,rfl⟩:=r;rfl
 |str _=>obtain⟨t,rfl⟩:=r;rfl
 |byt _=>obtain⟨t,rfl⟩:=r;rfl
 |flt _=>obtain⟨t,rfl⟩:=r;rfl
 |ref _=>cases r;rfl
 |ty _=>cases r;rfl
theorem RelV.inj {x y:V}{u:Value}(r:RelV x u)(q:RelV y u):x=y:=Option.some.inj (r.abs.symm.trans q.abs)
theorem Vals.inj:∀{xs ys:List V} {us:List Value},Vals xs us->Vals ys us->xs=ys
 |_,_,_, .nil, .nil=>rfl
 |_,_,_, .cons r t, .cons r' t'=>by rw[r.inj r',Vals.inj t t']
section
variable {X:Cx}{pins:List (Addr×Obj)}{σ:St}{H:Hp}{s:Shared}{a:Addr}{xs ys:List V}
theorem SqL.of {K:PySem.W.Frag}(h:H a=some (.lst xs)):SqL K H a xs:= .inl (.inl h)
theorem SqT.of {K:PySem.W.Frag}(h:H a=some (.tup xs)):SqT K H a xs:= .inl (.inl h)
theorem Inv.list (I:Inv X pins σ H s)(h:SqL X.K H a xs):∃its:List Value,Vals xs its/\PlainL s.heap a its.toArray/\xs.length<=sizeLine:=by
 rcases h with h|⟨o,its,n,hk,hc,hd,hs,hz,r⟩
 .obtain⟨z,its,n,r,e⟩:=h.ok I.hok
  exact⟨its,r,⟨_,n,e,rfl,rfl,rfl⟩,z⟩
 .refine⟨its.toList,r,⟨o,n,I.kIn a o hk,hc,hd,by simpa using hs⟩,?_⟩
  have e:=r.length
  simp only[Array.length_toList]at e
  omega
theorem Inv.tuple (I:Inv X pins σ H s)(h:SqT X.K H a xs):∃its:List Value,Vals xs its/\IsTup s.heap a its.toArray/\xs.length<=sizeLine:=by
 rcases h with h|⟨o,its,n,hk,hc,hs,hz,r⟩
 .obtain⟨z,its,r,p⟩:=h.ok I.hok
  exact⟨its,r,p,z⟩
 .refine⟨its.toList,r,⟨o,I.kIn a o hk,hc,n,by simpa using hs⟩,?_⟩
  have e:=r.length
  simp only[Array.length_toList]at e
  omega
theorem Inv.list_inj (I:Inv X pins σ H s)(h:SqL X.K H a xs)(h':SqL X.K H a ys):xs=ys:=by
 obtain⟨its,r,⟨o,n,e,_,_,d⟩,_⟩:=I.list h
 obtain⟨its',r',⟨o',n',e',_,_,d'⟩,_⟩:=I.list h'
 rw[e]at e';cases e'
 rw[d]at d'
 injection d' with d1 _
 have:its=its':=by simpa using congrArg Array.toList d1
 subst this
 exact r.inj r'
end
noncomputable abbrev Cx.wish (X:Cx)(E:Value->Shared->Prop):Cx:={X with xe:=E}
noncomputable abbrev Cx.nox (X:Cx):Cx:=X.wish fun _ _=>False
theorem Cx.Ok.wish {X:Cx}(ok:X.Ok)(E:Value->Shared->Prop):(X.wish E).Ok:=
 ⟨ok.mod,ok.kind,ok.glob,ok.blt,ok.above,ok.inj,ok.has,ok.cab,ok.hd,ok.frames,ok.stk,ok.exf,ok.bs,ok.bsz,ok.noex,ok.exfs,ok.funs,ok.frf⟩
theorem Cx.Ok.unwish {X:Cx}{E:Value->Shared->Prop}(ok:(X.wish E).Ok):X.Ok:=
 ⟨ok.mod,ok.kind,ok.glob,ok.blt,ok.above,ok.inj,ok.has,ok.cab,ok.hd,ok.frames,ok.stk,ok.exf,ok.bs,ok.bsz,ok.noex,ok.exfs,ok.funs,ok.frf⟩
section
variable {X:Cx}{pins:List (Addr×Obj)}{σ:St}{H:Hp}{s:Shared}{E:Value->Shared->Prop}
theorem Inv.wish (I:Inv X pins σ H s)(E:Value->Shared->Prop):Inv (X.wish E) pins σ H s:=⟨I.ok.wish E,I.os,I.bare,I.base,I.loc,I.cell,I.free,I.freeC,I.pin,I.hok,I.len⟩
theorem Inv.unwish (I:Inv (X.wish E) pins σ H s):Inv X pins σ H s:=⟨I.ok.unwish,I.os,I.bare,I.base,I.loc,I.cell,I.free,I.freeC,I.pin,I.hok,I.len⟩
theorem SP.unwish {D:Ends}{f:Flow}{s':Shared}(h:SP (X.wish E) pins D f s'):SP X pins D f s':=by
 cases f with
 |next=>obtain⟨σ',H',I,q⟩:=h;exact⟨σ',H',I.unwish,q⟩
 |brk=>obtain⟨σ',H',I,q⟩:=h;exact⟨σ',H',I.unwish,q⟩
 |cont=>obtain⟨σ',H',I,q⟩:=h;exact⟨σ',H',I.unwish,q⟩
 |ret u=>obtain⟨v,σ',H',I,r,q⟩:=h;exact⟨v,σ',H',I.unwish,r,q⟩
theorem PSs.nox {st:List Stmt}{t:TS}(h:PSs X.nox st t):PSs X st t:=fun pins s σ H D I hw=>
 wpAny_mono (h pins s σ H D (I.wish _) hw) (fun _ _ q=>q.unwish) fun _ _ z=>False.elim z
end
section
variable {X:Cx}{st:Stmt}{rest:List Stmt}{t u:TS}{e:Expr}{te:TE}{pos:Pos}
noncomputable def QqC:TS:=fun D σ H=>D.nx σ H
noncomputable def tSeq (t u:TS):TS:=fun D σ H=>t {D with nx:=u D} σ H
theorem pss_nil:PSs X [] QqC:=fun _ _ σ H _ I h=>wpAny_execs_nil ⟨σ,H,I,h⟩
theorem Qi1 (h1:PS X st t)(h2:PSs X rest u):PSs X (st::rest) (tSeq t u):=by
 intro pins s σ H D I h
 refine wpAny_execs_cons (thn (h1 pins s σ H {D with nx:=u D} I h) fun f s1 q=>?_)
 cases f with
 |next=>
  obtain⟨σ',H',I',q⟩:=q
  exact h2 pins s1 σ' H' D I' q
 |ret v=>exact q
 |brk=>exact q
 |cont=>exact q
theorem Qon (h1:PS X st t):PSs X [st] t:=by
 intro pins s σ H D I h
 refine wpAny_execs_cons (thn (h1 pins s σ H D I h) fun f s1 q=>?_)
 cases f with
 |next=>exact wpAny_execs_nil q
 |ret v=>exact q
 |brk=>exact q
 |cont=>exact q
noncomputable def QqD:TS:=fun D σ H=>D.ct σ H
theorem ps_continue:PS X (.Continue pos) QqD:=fun _ _ σ H _ I h=>wpAny_Continue ⟨σ,H,I,h⟩
theorem Inv.quiet {pins:List ay}{σ:St}{H:Hp}{s:Shared}(I:Inv X pins σ H s):interactive X.env=false:=by simp[interactive,I.ok.kind]
noncomputable def Qoo (te:TE):TS:=fun D σ H=>te σ H fun _ H1=>D.nx σ H1
theorem QkD (he:PE X e te)(hs:swapsWith e none pos.line X.env=pure false:=by rfl):PS X (.Expr e pos) (Qoo te):=by
 intro pins s σ H D I h
 exact wpAny_Expr_any (thn (he pins s σ H _ I h) fun v s1 ⟨x,H1,I1,r1,q1⟩=>⟨σ,H1,I1,q1⟩) I.quiet hs
noncomputable def tRet (te:TE):TS:=fun D σ H=>te σ H D.rt
theorem QnJ (he:PE X e te):PS X (.Return (some e) pos) (tRet te):=by
 intro pins s σ H D I h
 exact wpAny_Return_some (thn (he pins s σ H _ I h) fun v s1 ⟨x,H1,I1,r1,q1⟩=>⟨x,σ,H1,I1,r1,q1⟩)
noncomputable def tIfS (c:TT)(t u:TS):TS:=fun D σ H=>c σ H fun b H1=>if b=true then t D σ H1 else u D σ H1
theorem Qtl {c:Expr}{a b:List Stmt}{tc:TT}(hc:PT X c tc)(ha:PSs X a t)(hb:PSs X b u):PS X (.If c a b pos) (tIfS tc t u):=by
 intro pins s σ H D I h
 refine wpAny_If (thn (hc pins s σ H _ I h) fun d s1 ⟨H1,I1,q1⟩=>?_)
 cases d with
 |true=>exact ha pins s1 σ H1 D I1 q1
 |false=>exact hb pins s1 σ H1 D I1 q1
end
noncomputable abbrev TG:=V->St->Hp->(St->Hp->Prop)->Prop
noncomputable abbrev TGs:=List V->St->Hp->(St->Hp->Prop)->Prop
noncomputable def PG (X:Cx)(target:Expr)(t:TG):Prop:=
 ∀(pins:List ay) (s:Shared) (σ:St) (H:Hp) (v:V) (u:Value) (Q:St->Hp->Prop),Inv X pins σ H s->RelV v u->t v σ H Q->
  wpAny ah X.A (assign target X.env u) (fun _ s'=>∃σ' H',Inv X pins σ' H' s'/\Q σ' H') X.xe s
noncomputable def PGs (X:Cx)(ts:List Expr)(t:TGs):Prop:=
 ∀(pins:List ay) (s:Shared) (σ:St) (H:Hp) (vs:List V) (us:List Value) (Q:St->Hp->Prop),Inv X pins σ H s->Vals vs us->t vs σ H Q->
  wpAny ah X.A (assignInOrder ((assignEach ts X.env).map (·.2)) us) (fun _ s'=>∃σ' H',Inv X pins σ' H' s'/\Q σ' H') X.xe s
noncomputable abbrev TSet:=V->V->V->Hp->(Hp->Prop)->Prop
noncomputable def PSet (X:Cx)(t:TSet):Prop:=
 ∀(pins:List ay) (s:Shared) (σ:St) (H:Hp) (o i v:V) (ov iv u:Value) (Q:Hp->Prop),Inv X pins σ H s->RelV o ov->RelV i iv->RelV v u->t o i v H Q->
  wpAny ah X.A (setItem ov iv u) (fun _ s'=>∃H',Inv X pins σ H' s'/\Q H') X.xe s
noncomputable abbrev TIp:=V->V->Hp->VK->Prop
noncomputable def PIp (X:Cx)(op:Operator)(t:TIp):Prop:=
 ∀(pins:List ay) (s:Shared) (σ:St) (H:Hp) (x y:V) (v u:Value) (Q:VK),Inv X pins σ H s->RelV x v->RelV y u->t x y H Q->
  wpAny ah X.A (inplaceOp op v u) (EP X pins σ Q) X.xe s
section
variable {X:Cx}{pos:Pos}
noncomputable def Qh8 (i:Nat):TG:=fun v σ H Q=>Q (σ.set i (some v)) H
theorem QkE {i:Nat}{x:Str}(hN:X.N.Nodup)(hi:X.N[i]?=some x)(hx:Loc X.env.scope x)(hf:X.fn x=true\/X.env.scope.names.lookup x=some .local:=by first|exact .inl rfl|exact .inr rfl|assumption):PG X (.Name x pos) (Qh8 i):=by
 intro pins s σ H v u Q I r h
 exact wpAny_assign_Name (Qgk I hN hi hx r (fun s' I'=>⟨_,H,I',h⟩) hf)
noncomputable def gNil:TGs:=fun vs σ H Q=>vs= []/\Q σ H
noncomputable def QqE (t:TG)(u:TGs):TGs:=fun vs σ H Q=>∃v r,vs=v::r/\t v σ H fun σ' H'=>u r σ' H' Q
theorem pgs_nil:PGs X [] gNil:=by
 intro pins s σ H vs us Q I r h
 obtain⟨e,h⟩:=h
 subst e
 cases r
 exact assignInOrder_nil ⟨σ,H,I,h⟩
theorem Qml {e:Expr}{es:List Expr}{t:TG}{u:TGs}(h1:PG X e t)(h2:PGs X es u)
  (hs:(assignEach aO X.env).map (·.2)=assign e X.env::(assignEach es X.env).map (·.2):=by rfl):PGs X aO (QqE t u):=by
 intro pins s σ H vs us Q I r h
 obtain⟨v,vr,e1,h⟩:=h
 subst e1
 cases r with
 |cons r rr=>
  rw[hs]
  refine assignInOrder_cons (thn (h1 pins s σ H _ _ _ I r h) fun _ s1 ⟨σ1,H1,I1,q1⟩=>?_)
  exact h2 pins s1 σ1 H1 _ _ Q I1 rr q1
noncomputable def gTup (K:PySem.W.Frag)(n:Nat)(t:TGs):TG:=fun v σ H Q=>∃a xs,v= .ref a/\SqT K H a xs/\xs.length=n/\t xs σ H Q
theorem QqF {es:List Expr}{k:Nat}{t:TGs}{n:Nat}(hc:X.calm=true)(h:PGs X es t)
  (hn:(assignEach es X.env).length=n:=by rfl) (hst:(assignEach es X.env).findIdx? (·.1)=none:=by rfl):PG X (.Tuple es k pos) (gTup X.K n t):=by
 intro pins s σ H v u Q I r hw
 obtain⟨a,xs,e1,hq,hl,hw⟩:=hw
 subst e1
 cases r
 obtain⟨its,rv,ht,hz⟩:=I.tuple hq
 refine assign_Tuple_tuple (I.ok.hd hc) ht (by simp[hn,←hl,rv.length]) hst fun h' hx=>?_
 have I1:Inv X pins σ H {s with heap:=h'}:=I.kept (t':=s.toks) fun b o e=>hx b o (Nat.ne_of_lt (Heap.lt_size e)) e
 exact h pins _ σ H xs _ Q I1 (by simpa using rv) hw
noncomputable def gSub (to ti:TE)(t:TSet):TG:=fun v σ H Q=>to σ H fun o H1=>ti σ H1 fun i H2=>t o i v H2 fun H3=>Q σ H3
theorem QnK {o i:Expr}{to ti:TE}{t:TSet}(ho:PE X o to)(hi:PE X i ti)(hs:PSet X t)
  (ha:∀v,assign (.Subscript o i pos) X.env v=(do
   let ov←holding [v] (eval o X.env)
   let iv←holding [v,ov] (eval i X.env)
   standAt pos
   holding [v,ov,iv] (setItem ov iv v)
   release [v,ov,iv] []):=by intro _;rfl):PG X (.Subscript o i pos) (gSub to ti t):=by
 intro pins s σ H v u Q I r h
 rw[ha]
 refine wpAny_bind (wpAny_holding (thn (ho pins s σ H _ I h) fun ov s1 ⟨x,H1,I1,r1,q1⟩=>?_))
 refine wpAny_bind (wpAny_holding (thn (hi pins s1 σ H1 _ I1 q1) fun iv s2 ⟨y,H2,I2,r2,q2⟩=>?_))
 refine wpAny_bind (wpAny_standAt (wpAny_bind (wpAny_holding (thn (hs pins s2 σ H2 x y v ov iv u _ I2 r1 r2 r q2) fun _ s3 ⟨H3,I3,q3⟩=>?_))))
 exact wpAny_release ⟨σ,H3,I3,q3⟩
noncomputable def tAsg (te:TE)(g:TG):TS:=fun D σ H=>te σ H fun x H1=>g x σ H1 D.nx
theorem QnL {tg e:Expr}{te:TE}{g:TG}(he:PE X e te)(hg:PG X tg g)(hs:swapsWithSole [tg] e pos.line X.env=pure false:=by rfl)(hw:swappedStores [tg] e X.env=pure none:=by rfl)
  (h1:(assignEach [tg] X.env).map (·.2)= [assign tg X.env]:=by rfl):PS X (.Assign [tg] e pos) (tAsg te g):=by
 intro pins s σ H D I h
 refine wpAny_Assign_stores (thn (he pins s σ H _ I h) fun v s1 ⟨x,H1,I1,r1,q1⟩=>?_) hs hw
 rw[h1]
 exact thn (hg pins s1 σ H1 x v _ I1 r1 q1) fun _ s2 q=>q
theorem QqG {i:Nat}{x:Str}{e:Expr}{te:TE}{pos':Pos}(hN:X.N.Nodup)(hi:X.N[i]?=some x)(hx:Loc X.env.scope x)(he:PE X e te)(hs:swapsWith e (some (.Name x pos')) pos.line X.env=pure false:=by rfl)(hf:X.fn x=true\/X.env.scope.names.lookup x=some .local:=by first|exact .inl rfl|exact .inr rfl|assumption):
  PS X (.Assign [.Name x pos'] e pos) (tAsg te (Qh8 i)):=by
 intro pins s σ H D I h
 refine wpAny_Assign_Name (thn (he pins s σ H _ I h) fun v s1 ⟨y,H1,I1,r1,q1⟩=>?_) hs
 exact Qgk I1 hN hi hx r1 (fun s2 I2=>⟨_,H1,I2,q1⟩) hf
noncomputable def tAug (i:Nat)(te:TE)(ti:TIp):TS:=fun D σ H=>∃x,σ[i]?=some (some x)/\te σ H fun y H1=>ti x y H1 fun z H2=>D.nx (σ.set i (some z)) H2
theorem QqH {i:Nat}{x:Str}{e:Expr}{te:TE}{op:Operator}{ti:TIp}{pos':Pos}(hN:X.N.Nodup)(hi:X.N[i]?=some x)(hx:Loc X.env.scope x)(he:PE X e te)(ho:PIp X op ti)(hf:X.fn x=true\/X.env.scope.names.lookup x=some .local:=by first|exact .inl rfl|exact .inr rfl|assumption):
  PS X (.AugAssign (.Name x pos') op e pos) (tAug i te ti):=by
 intro pins s σ H D I h
 obtain⟨v,e1,h⟩:=h
 obtain⟨m,hn,hl⟩:=I.loc
 have vis:Vis X.env.scope x:=by rcases hx with k|k;exact .inl k;exact .inr (.inl k)
 obtain⟨u,r,l⟩:=hl i x v hi e1 vis
 refine wpAny_AugAssign_Name ?_
 have go:wpAny ah X.A (eval e X.env) (fun w s₂=>wpAny ah X.A (inplaceOp op u w) (fun r s₃=>wpAny ah X.A (storeName X.env x r) (fun _=>SP X pins D .next) X.xe s₃) X.xe s₂) X.xe s:=by
  refine thn (he pins s σ H _ I h) fun w s1 ⟨y,H1,I1,r1,q1⟩=>?_
  refine thn (ho pins s1 σ H1 v y u w _ I1 r r1 q1) fun z s2 ⟨zv,H2,I2,r2,q2⟩=>?_
  exact Qgk I2 hN hi hx r2 (fun s3 I3=>⟨_,H2,I3,q2⟩) hf
 rcases l with⟨hk,hm⟩|⟨hk,c,hc,hcell⟩
 .exact wpAny_loadName_local I.ok.kind hk hn hm go
 .rcases hk with hk|hk
  .exact wpAny_loadName_cell I.ok.kind hk hc hcell go
  .rcases hx with k|k
   .have:X.env.scope.names.lookup x=some .free:=hk
    rw[k]at this;cases this
   .have:X.env.scope.names.lookup x=some .free:=hk
    rw[k]at this;cases this
noncomputable def ipI (f:Int->Int->Int):TIp:=fun x y H Q=>∃i j,x= .int i/\y= .int j/\Q (.int (f i j)) H
theorem QqI:PIp X .Add (ipI fun i j=>i+j):=by
 intro pins s σ H x y v u Q I r1 r2 h
 obtain⟨i,j,e1,e2,q⟩:=h
 subst e1;subst e2
 obtain⟨t,rfl⟩:=r1
 obtain⟨t',rfl⟩:=r2
 exact iadd_int ⟨.int _,H,I.tok _,⟨_,rfl⟩,q⟩
end
section
variable {X:Cx}{pos:Pos}
noncomputable def QnM (c:TT)(tb:TS):TS:=fun D σ H=>∃W:Nat->St->Hp->Prop,(∃m,W m σ H)/\∀m σ H,W m σ H->
 c σ H fun b H1=>if b=true then∃N:St->Hp->Prop,(∀σ' H',N σ' H'->∃m',m'<m/\W m' σ' H')/\tb {D with nx:=N,ct:=N,bk:=D.nx} σ H1 else D.nx σ H1
theorem Qmm {c:Expr}{body:List Stmt}{tc:TT}{tb:TS}(hp:PassesOwn ah X.A X.env X.xe)(hc:PT X c tc)(hb:PSs X body tb):PS X (.While c body [] pos) (QnM tc tb):=by
 intro pins s σ H D I h
 obtain⟨W,⟨m0,w0⟩,turn⟩:=h
 refine wpAny_While (codeAny_whileLoop (fun n s'=>∃σ' H',Inv X pins σ' H' s'/\W n σ' H') ?_ m0 ⟨σ,H,I,w0⟩)
 rintro n s1 ⟨σ1,H1,I1,w1⟩
 refine wpAny_passesOwn hp (thn (hc pins s1 σ1 H1 _ I1 (turn n σ1 H1 w1)) fun b s2 ⟨H2,I2,q2⟩=>?_)
 cases b with
 |true=>
  obtain⟨N,hN,q2⟩:=q2
  rw[if_pos rfl]
  refine wpAny_passesOwn hp (thn (hb pins s2 σ1 H2 _ I2 q2) fun f s3 q3=>?_)
  cases f with
  |next=>
   obtain⟨σ3,H3,I3,n3⟩:=q3
   obtain⟨m',hm,w3⟩:=hN σ3 H3 n3
   exact⟨m',hm,σ3,H3,I3,w3⟩
  |cont=>
   obtain⟨σ3,H3,I3,n3⟩:=q3
   obtain⟨m',hm,w3⟩:=hN σ3 H3 n3
   exact⟨m',hm,σ3,H3,I3,w3⟩
  |brk=>exact q3
  |ret v=>exact q3
 |false=>
  rw[if_neg Bool.false_ne_true]
  exact wpAny_execs_nil ⟨σ1,H2,I2,q2⟩
end
structure It where
 go:Nat->Hp->Prop
 yld:Nat->Hp->V->Hp->Prop
 stop:Nat->Hp->Prop
noncomputable def FpOk (X:Cx)(pins:List ay)(H:Hp)(b:Addr):Prop:=
 H b=none/\b≠X.env.locals/\b∉X.fs/\(b∈X.ex\/X.s₀.heap.objs.size<=b)/\(∀x c,X.env.cells.lookup x=some c->c≠b)/\∀p∈X.pn++pins,p.1≠b
theorem Inv.fpOk {X:Cx}{pins:List ay}{σ:St}{H H':Hp}{s:Shared}{b:Addr}(I:Inv X pins σ H s)(hb:s.heap.objs.size<=b)(hn:H' b=none):FpOk X pins H' b:=by
 refine⟨hn,Nat.ne_of_gt (Nat.lt_of_lt_of_le I.lt hb),I.nofs hb, .inr (Nat.le_trans I.sz hb),fun x c e z=>?_,fun p hp z=>?_⟩
 .obtain⟨v,q⟩:=I.cell x c e
  exact absurd (Nat.lt_of_lt_of_le q.lt (by rw[z];exact hb)) (Nat.lt_irrefl _)
 .exact absurd (Nat.lt_of_lt_of_le (Heap.lt_size (I.pin p hp).1) (by rw[z];exact hb)) (Nat.lt_irrefl _)
structure Turn (P:Program)(w:World)(K:PySem.W.Frag)(tg:Expr)(J:It)(fp:List Addr)(it:Addr)(tn:Nat->Heap->Prop):Prop where
 mem:it∈fp
 obj:∀i h,tn i h->∀b∈fp,∃o,h.get? b=some o/\∀v,o.data≠ .cell v
 keep:∀i h h',tn i h->(∀b∈fp,∀o,h.get? b=some o->h'.get? b=some o)->tn i h'
 item:∀(X:Cx),X.prog=P->X.w=w->X.K=K->X.calm=true->∀(i:Nat) (pins:List ay) (s:Shared) (σ:St) (H:Hp) (E:Value->Shared->Prop),Inv X pins σ H s->(∀b∈fp,FpOk X pins H b)->tn i s.heap->J.go i H->
  wpAny (model P w) X.A (pyNext (.ref it)) (fun r s1=>∃u,r=some u/\
   wpAny (model P w) X.A (letOwnedTupleGo tg (.ref it) u) (fun _ s2=>∃x H',Inv X pins σ H' s2/\RelV x u/\J.yld i H x H'/\tn (i+1) s2.heap/\∀b∈fp,H' b=none) E s1) E s
 done:∀(X:Cx),X.prog=P->X.w=w->X.K=K->X.calm=true->∀(i:Nat) (pins:List ay) (s:Shared) (σ:St) (H:Hp) (E:Value->Shared->Prop),Inv X pins σ H s->(∀b∈fp,FpOk X pins H b)->tn i s.heap->J.stop i H->
  wpAny (model P w) X.A (pyNext (.ref it)) (fun r s1=>r=none/\Inv X pins σ H s1) E s
 self:∀(A:Around) (i:Nat) (s:Shared) (Q:Value->Shared->Prop) (E:Value->Shared->Prop),tn i s.heap->Q (.ref it) s->wpAny (model P w) A (pyIter (.ref it)) Q E s
noncomputable abbrev TI:=St->Hp->(It->Hp->Prop)->Prop
noncomputable def PIE (X:Cx)(pins:List ay)(σ:St)(tg:Expr)(R:It->Hp->Prop)(itv:Value)(s2:Shared):Prop:=
 ∃(it:Addr) (fp:List Addr) (tn:Nat->Heap->Prop) (J:It) (H':Hp),itv= .ref it/\Inv X pins σ H' s2/\Turn X.prog X.w X.K tg J fp it tn/\tn 0 s2.heap/\(∀b∈fp,FpOk X pins H' b)/\R J H'
noncomputable def PI (X:Cx)(tg iter:Expr)(wi:TI):Prop:=
 ∀(pins:List ay) (s:Shared) (σ:St) (H:Hp) (R:It->Hp->Prop),Inv X pins σ H s->wi σ H R->
  wpAny ah X.A (eval iter X.env) (fun v s1=>wpAny ah X.A (pyIter v) (PIE X pins σ tg R) X.xe s1) X.xe s
theorem QqJ {M:Model}{A:Around}{E:Value->Shared->Prop}{s:Shared}{tg:Expr}{it:Addr}{u:Value}{o:Obj}{n:String}{vs:Array Value}{Q:Unit->Shared->Prop}(ho:s.heap.get? it=some o)(hc:o.cls= .type n)(hd:o.data= .fields vs)
  (hn: ["enumerate","zip","dict_itemiterator","dict_reverseitemiterator","odict_iterator","itertools.zip_longest","itertools.pairwise"].contains n=false) (hQ:Q () s):wpAny M A (letOwnedTupleGo tg (.ref it) u) Q E s:=by
 unfold letOwnedTupleGo
 cases tg<;>first
  |exact wpAny_pure hQ
  |(cases u<;>first
    |exact wpAny_pure hQ
    | (refine wpAny_bind (wpAny_load ho ?_)
       rw[hc,hd]
       show wpAny M A (if(["enumerate","zip","dict_itemiterator","dict_reverseitemiterator","odict_iterator","itertools.zip_longest","itertools.pairwise"].contains n&&vs[0]?==some (rawInt _))=true then _ else _) Q E s
       rw[if_neg (by intro h;rw[hn,Bool.false_and]at h;cases h)]
       exact wpAny_pure hQ))
noncomputable def Itl (K:PySem.W.Frag)(a:Addr):It:=
 ⟨fun i H=>∃xs x,SqL K H a xs/\xs[i]?=some x,fun i H x H'=>H'=H/\∀xs,SqL K H a xs->xs[i]?=some x,fun i H=>∃xs,SqL K H a xs/\xs.length<=i⟩
noncomputable def Itr (lo:Int)(n:Nat):It:=⟨fun i _=>i<n,fun i H x H'=>H'=H/\x= .int (lo+i),fun i _=>n<=i⟩
theorem QkF {P:Program}{w:World}{K:PySem.W.Frag}{tg:Expr}(a it:Addr):Turn P w K tg (Itl K a) [it] it (fun i h=>h.IsListIter it a i) where
 mem:=by simp
 obj:=fun i h st b hb=>by
  have e:b=it:=by simpa using hb
  subst e
  obtain⟨o,e,c,d⟩:=st
  exact⟨o,e,fun v z=>by rw[d]at z;cases z⟩
 keep:=fun i h h' st k=>st.at fun o e=>k it al o e
 item:=by
  intro X hP hw hK hc i pins s σ H E I hf st hg
  subst hP hw hK
  obtain⟨xs,x,hq,hx⟩:=hg
  obtain⟨its,rv,p,hz⟩:=I.list hq
  obtain⟨u,hu,ru⟩:=rv.get hx
  obtain⟨f0,f1,f2,f3,f4,f5⟩:=hf it al
  refine wpAny_pyNext_list_item st p.isList (x:=u) (by simpa using hu) fun h' st' sb=>?_
  have I1:Inv X pins σ H {s with heap:=h'}:=I.turned (t':=s.toks) (fun b o hb e=>(sb.2 b hb).trans e) f0 f1 f3 f4 f5
  obtain⟨o,e,c,d⟩:=id st'
  exact⟨u,rfl,QqJ (s:={s with heap:=h'}) e c d aj ⟨x,H,I1,ru,⟨rfl,fun ys hy=>by rw[I.list_inj hy hq];exact hx⟩,st',fun b hb=>(hf b hb).1⟩⟩
 done:=by
  intro X hP hw hK hc i pins s σ H E I hf st hg
  subst hP hw hK
  obtain⟨xs,hq,hx⟩:=hg
  obtain⟨its,rv,p,hz⟩:=I.list hq
  obtain⟨f0,f1,f2,f3,f4,f5⟩:=hf it al
  have hl:=rv.length
  exact wpAny_pyNext_list_end (I.ok.hd hc) st p.isList (by simp;omega) fun h' eb=>⟨rfl,I.turned (t':=s.toks) (fun b o hb e=>eb b o hb e) f0 f1 f3 f4 f5⟩
 self:=fun _ _ _ _ _ st h=>wpAny_pyIter_listiter st h
theorem QfH {P:Program}{w:World}{K:PySem.W.Frag}{tg:Expr}(it:Addr)(lo:Int)(n:Nat):Turn P w K tg (Itr lo n) [it] it (fun i h=>IsRangeIter h it (lo+(i:Nat)*1) ((n:Int)-(i:Nat)) 1) where
 mem:=by simp
 obj:=fun i h st b hb=>by
  have e:b=it:=by simpa using hb
  subst e
  exact⟨_,st,fun v z=>by
   have z':Data.fields _=Data.cell v:=z
   cases z'⟩
 keep:=fun i h h' st k=>k it al _ st
 item:=by
  intro X hP hw hK hc i pins s σ H E I hf st hg
  subst hP hw hK
  obtain⟨f0,f1,f2,f3,f4,f5⟩:=hf it al
  have W:=Walks.range (prog:=X.prog) (w:=X.w) (I.ok.hd hc) it lo 1 n
  refine W.item i s _ _ hg st fun v h' tk hv st' kk=>?_
  obtain⟨t,rfl⟩:=hv
  have I1:Inv X pins σ H {s with heap:=h',toks:=tk}:=I.turned (fun b o hb e=>kk b o (by simpa using hb) e) f0 f1 f3 f4 f5
  refine⟨_,rfl,QqJ (s:={s with heap:=h',toks:=tk}) (n:="range_iterator") st' rfl rfl aj ⟨.int (lo+i),H,I1,⟨t,?_⟩,⟨rfl,rfl⟩,st',fun b hb=>(hf b hb).1⟩⟩
  rw[Int.mul_one]
 done:=by
  intro X hP hw hK hc i pins s σ H E I hf st hg
  subst hP hw hK
  obtain⟨f0,f1,f2,f3,f4,f5⟩:=hf it al
  exact wpAny_pyNext_range_end (I.ok.hd hc) st (by have:n<=i:=hg;omega) fun h' eb=>⟨rfl,I.turned (t':=s.toks) (fun b o hb e=>eb b o hb e) f0 f1 f3 f4 f5⟩
 self:=fun _ _ _ _ _ st h=>wpAny_pyIter_rangeiter st h
end L2
namespace L2
open PySem PySem.Spec PyProof.Rows
section
variable {X:Cx}{tg:Expr}
noncomputable def QqK (K:PySem.W.Frag)(tl:TE):TI:=fun σ H R=>tl σ H fun x H1=>∃a,x= .ref a/\(∃xs,SqL K H1 a xs)/\R (Itl K a) H1
theorem Qop {l:Expr}{tl:TE}(hl:PE X l tl):PI X tg l (QqK X.K tl):=by
 intro pins s σ H R I h
 refine thn (hl pins s σ H _ I h) fun v s1 ⟨x,H1,I1,r1,q1⟩=>?_
 obtain⟨a,e,⟨xs,hq⟩,q⟩:=q1
 subst e
 cases r1
 obtain⟨its,rv,p,hz⟩:=I1.list hq
 refine wpAny_pyIter_list p.isList ?_
 refine⟨s1.heap.objs.size,[s1.heap.objs.size],_,_,H1,rfl,I1.kept (t':=s1.toks) fun b o e=>Heap.get?_push_of_some _ e,QkF a _,⟨_,Heap.get?_push_size _ rfl,rfl,rfl⟩,fun b hb=>?_,q⟩
 have e:b=s1.heap.objs.size:=by simpa using hb
 subst e
 exact I1.fpOk am (I1.hok.fresh am)
theorem Qmn {pins:List ay}{σ:St}{H:Hp}{s:Shared}{R:It->Hp->Prop}{E:Value->Shared->Prop}{lo hi:Int}{t u v:Tok}{tk:Nat}(I:Inv X pins σ H s)(h1: -(2^62)<=lo)(h2:lo<2^62)(h3: -(2^62)<=hi)(h4:hi<2^62)
  (q:R (Itr lo (hi-lo).toNat) H):wpAny ah X.A (pyIter (.ref s.heap.objs.size)) (PIE X pins σ tg R) E {s with heap:=s.heap.push {cls:= .type "range",data:= .fields #[.int lo t, .int hi u, .int 1 v]},toks:=tk}:=by
 refine wpAny_pyIter_range (IsRange.new ..) (small_one h1 h2 h3 h4) ?_
 have I1:Inv X pins σ H {s with heap:=s.heap.push {cls:= .type "range",data:= .fields #[.int lo t, .int hi u, .int 1 v]},toks:=tk}:=I.kept fun b o e=>Heap.get?_push_of_some _ e
 refine⟨(s.heap.push {cls:= .type "range",data:= .fields #[.int lo t, .int hi u, .int 1 v]}).objs.size,[(s.heap.push {cls:= .type "range",data:= .fields #[.int lo t, .int hi u, .int 1 v]}).objs.size],_,_,H,rfl,
  I1.kept (t':=tk) fun b o e=>Heap.get?_push_of_some _ e,QfH _ lo (hi-lo).toNat,?_,fun b hb=>?_,q⟩
 .have e1:lo+((0:Nat):Int)*1=lo:=by simp
  have e2:(((hi-lo).toNat:Nat):Int)-((0:Nat):Int)=Builtin.Range.rangeSize lo hi 1:=by rw[rangeSize_one];split<;>omega
  show IsRangeIter _ _ (lo+((0:Nat):Int)*1) ((((hi-lo).toNat:Nat):Int)-((0:Nat):Int)) 1
  rw[e1,e2]
  exact Heap.get?_push_size _ rfl
 .have e:b=(s.heap.push {cls:= .type "range",data:= .fields #[.int lo t, .int hi u, .int 1 v]}).objs.size:=by simpa using hb
  subst e
  exact I1.fpOk am (I1.hok.fresh am)
noncomputable def QqL (ta:TA):TI:=fun σ H R=>ta σ H fun vs H1=>∃j:Int,vs= [.int j]/\-(2^62)<=j/\j<2^62/\R (Itr 0 j.toNat) H1
theorem QkG {a:Expr}{ta:TA}{p pos:Pos}(hg:Gl X "range")(hm:X.mg "range"=none)(ha:PA X [a] ta)(hs:starEach [a] X.env= [(false,eval a X.env)]:=by rfl):PI X tg (.Call (.Name "range" p) [a] [] pos) (QqL ta):=by
 intro pins s σ H R I h
 refine Call_ (Qdu I hg hm boot_range (PyProof.Rows.callWith_type1 (thn (ha pos pins s σ H _ I h) fun us s1 ⟨vs,H1,I1,r1,q1⟩=>?_) hs rfl))
 obtain⟨j,e,q1,q2,q⟩:=q1
 subst e
 cases r1 with
 |cons r rr=>
  cases rr
  obtain⟨t,rfl⟩:=r
  exact call_range_1 (Qmn I1 aa aa q1 q2 (by simpa using q))
noncomputable def tFor (wi:TI)(g:TG)(tb:TS):TS:=fun D σ H=>wi σ H fun J H1=>∃W:Nat->Nat->St->Hp->Prop,(∃m,W 0 m σ H1)/\∀i m σ H,W i m σ H->
 (J.stop i H/\D.nx σ H)\/(J.go i H/\∃N:St->Hp->Prop,(∀σ' H',N σ' H'->∃m',m'<m/\W (i+1) m' σ' H')/\∀x H',J.yld i H x H'->g x σ H' fun σ2 H2=>tb {D with nx:=N,ct:=N,bk:=D.nx} σ2 H2)
noncomputable def Qhc (fp:List Addr)(h:Heap):List ay:=fp.filterMap fun b=>(h.get? b).map fun o=>(b,o)
theorem QcC {fp:List Addr}{h:Heap}{b:Addr}{o:Obj}(hb:b∈fp)(e:h.get? b=some o):(b,o)∈Qhc fp h:=List.mem_filterMap.mpr ⟨b,hb,by rw[e];rfl⟩
theorem QkH {fp:List Addr}{h:Heap}{p:Addr×Obj}(hp:p∈Qhc fp h):p.1∈fp/\h.get? p.1=some p.2:=by
 obtain⟨b,hb,e⟩:=List.mem_filterMap.mp hp
 cases q:h.get? b with
 |none=>rw[q]at e;cases e
 |some o=>
  rw[q]at e
  have e':(b,o)=p:=Option.some.inj e
  subst e'
  exact⟨hb,q⟩
theorem Inv.pinned {pins:List ay}{σ:St}{H:Hp}{s:Shared}{fp:List Addr}(I:Inv X pins σ H s)(hf:∀b∈fp,FpOk X pins H b)(ho:∀b∈fp,∃o,s.heap.get? b=some o/\∀v,o.data≠ .cell v):Inv X (pins++Qhc fp s.heap) σ H s:=
 I.pins_of fun p hp=>(List.mem_append.mp hp).elim (fun z=>I.pin p (List.mem_append_right _ z)) fun z=>by
  obtain⟨hb,e⟩:=QkH z
  obtain⟨f0,f1,f2,_⟩:=hf p.1 hb
  obtain⟨o,e',d⟩:=ho p.1 hb
  rw[e]at e';cases e'
  exact⟨e,f0,f1,f2,d⟩
theorem Inv.unpinned {pins pl:List ay}{σ:St}{H:Hp}{s:Shared}(I:Inv X (pins++pl) σ H s):Inv X pins σ H s:=I.pins_of fun p hp=>I.pin p (List.mem_append_right _ (List.mem_append_left _ hp))
theorem QqM {iter:Expr}{body:List Stmt}{wi:TI}{g:TG}{tb:TS}{pos:Pos}(hp:PassesOwn ah X.A X.env X.xe)(hc:X.calm=true)(hi:PI X tg iter wi)(hg:PG X tg g)(hb:PSs X body tb)
  (hs:∀x,foldedSetIterable iter X.env x=pure x:=by intro _;rfl):PS X (.For tg iter body [] pos) (tFor wi g tb):=by
 intro pins s σ H D I h
 refine wpAny_For (thn (hi pins s σ H _ I h) fun v s1 h1=>thn h1 fun itv s2 h2=>?_) hs
 obtain⟨it,fp,tn,J,H2,e,I2,T,st2,f2,W,⟨m0,w0⟩,turn⟩:=h2
 subst e
 have stat:∀{H':Hp},(∀b∈fp,H' b=none)->∀b∈fp,FpOk X pins H' b:=fun hn b hb=>⟨hn b hb,(f2 b hb).2⟩
 refine codeAny_forLoop_any (fun n s'=>∃i σ' H',Inv X pins σ' H' s'/\tn i s'.heap/\(∀b∈fp,H' b=none)/\W i n σ' H') ?_ m0 ⟨0,σ,H2,I2,st2,fun b hb=>(f2 b hb).1,w0⟩
 rintro n s3 ⟨i,σ3,H3,I3,st3,fr3,w3⟩
 rcases turn i n σ3 H3 w3 with⟨stop,qn⟩|⟨go,N,hN,step⟩
 .refine wpAny_passesOwn hp (thn (T.done X rfl rfl rfl hc i pins s3 σ3 H3 X.xe I3 (stat fr3) st3 stop) fun r s4 ⟨hr,I4⟩=>?_)
  subst hr
  exact wpAny_execs_nil ⟨σ3,H3,I4,qn⟩
 .refine wpAny_passesOwn hp (thn (T.item X rfl rfl rfl hc i pins s3 σ3 H3 X.xe I3 (stat fr3) st3 go) fun r s4 ⟨u,hr,h4⟩=>?_)
  subst hr
  refine wpAny_passesOwn hp (thn h4 fun _ s5 ⟨x,H5,I5,r5,y5,st5,fr5⟩=>?_)
  have I5':=I5.pinned (stat fr5) (T.obj _ _ st5)
  refine wpAny_passesOwn hp (thn (hg _ s5 σ3 H5 x u _ I5' r5 (step x H5 y5)) fun _ s6 ⟨σ6,H6,I6,q6⟩=>?_)
  refine wpAny_passesOwn hp (thn (hb _ s6 σ6 H6 _ I6 q6) fun f s7 q7=>?_)
  have again:∀{σ7:St} {H7:Hp},Inv X (pins++Qhc fp s5.heap) σ7 H7 s7->N σ7 H7->∃m,m<n/\∃i σ' H',Inv X pins σ' H' s7/\tn i s7.heap/\(∀b∈fp,H' b=none)/\W i m σ' H':=fun{σ7 H7} I7 n7=>by
   obtain⟨m',hm,w7⟩:=hN σ7 H7 n7
   refine⟨m',hm,i+1,σ7,H7,I7.unpinned,T.keep _ _ _ st5 fun b hb o e=>(I7.pin (b,o) (List.mem_append_right _ (List.mem_append_right _ (QcC hb e)))).1,fun b hb=>?_,w7⟩
   obtain⟨o,e,d⟩:=T.obj _ _ st5 b hb
   exact(I7.pin (b,o) (List.mem_append_right _ (List.mem_append_right _ (QcC hb e)))).2.1
  cases f with
  |next=>obtain⟨σ7,H7,I7,n7⟩:=q7;exact again I7 n7
  |cont=>obtain⟨σ7,H7,I7,n7⟩:=q7;exact again I7 n7
  |brk=>obtain⟨σ7,H7,I7,q7⟩:=q7;exact⟨σ7,H7,I7.unpinned,q7⟩
  |ret v=>obtain⟨x7,σ7,H7,I7,r7,q7⟩:=q7;exact⟨x7,σ7,H7,I7.unpinned,r7,q7⟩
end
end L2
namespace L2
open PySem PySem.Spec PyProof.Rows
noncomputable abbrev R2:=V->V->Hp->VK->Prop
noncomputable def OpR (X:Cx)(f:Value->Value->Sem Value)(r:R2):Prop:=
 ∀(pins:List ay) (s:Shared) (σ:St) (H:Hp) (x y:V) (v u:Value) (Q:VK),Inv X pins σ H s->RelV x v->RelV y u->r x y H Q->
  wpAny ah X.A (f v u) (EP X pins σ Q) X.xe s
noncomputable def UnR (X:Cx)(f:Value->Sem Value)(r:V->Hp->VK->Prop):Prop:=
 ∀(pins:List ay) (s:Shared) (σ:St) (H:Hp) (x:V) (v:Value) (Q:VK),Inv X pins σ H s->RelV x v->r x H Q->
  wpAny ah X.A (f v) (EP X pins σ Q) X.xe s
noncomputable def Qdv (X:Cx)(f:Value)(r:List V->Hp->VK->Prop):Prop:=
 ∀(pins:List ay) (s:Shared) (σ:St) (H:Hp) (xs:List V) (us:List Value) (Q:VK),Inv X pins σ H s->Vals xs us->r xs H Q->
  wpAny ah X.A (call f us) (EP X pins σ Q) X.xe s
noncomputable def TruR (X:Cx)(r:V->Hp->(Bool->Hp->Prop)->Prop):Prop:=
 ∀(pins:List ay) (s:Shared) (σ:St) (H:Hp) (x:V) (v:Value) (Q:Bool->Hp->Prop),Inv X pins σ H s->RelV x v->r x H Q->
  wpAny ah X.A (truthy v) (TP X pins σ Q) X.xe s
noncomputable def tOp (r:R2)(ta tb:TE):TE:=fun σ H Q=>ta σ H fun x H1=>tb σ H1 fun y H2=>r x y H2 Q
noncomputable def tUn (r:V->Hp->VK->Prop)(ta:TE):TE:=fun σ H Q=>ta σ H fun x H1=>r x H1 Q
noncomputable def rI (C:Int->Int->Prop)(g:Int->Int->V):R2:=fun x y H Q=>∃i j,x= .int i/\y= .int j/\C i j/\Q (g i j) H
noncomputable def rI0 (g:Int->Int->V):R2:=fun x y H Q=>∃i j,x= .int i/\y= .int j/\Q (g i j) H
noncomputable def rU (g:Int->V):V->Hp->VK->Prop:=fun x H Q=>∃i,x= .int i/\Q (g i) H
section
variable {X:Cx}{a b c:Expr}{ta tb tc:TE}{pos:Pos}
theorem binT (ha:PE X a ta)(hb:PE X b tb){pins:List ay}{s:Shared}{σ:St}{H:Hp}{R:V->V->Hp->Prop}(I:Inv X pins σ H s)
  (h:ta σ H fun x H1=>tb σ H1 fun y H2=>R x y H2) {Q:Value->Shared->Prop} {f:Value->Value->Sem Value}
  (hf:∀v u s2 x y H2,Inv X pins σ H2 s2->RelV x v->RelV y u->R x y H2->wpAny ah X.A (f v u) Q X.xe s2):
  wpAny ah X.A (eval a X.env) (fun v s₁=>wpAny ah X.A (eval b X.env) (fun u s₂=>wpAny ah X.A (f v u) Q X.xe s₂) X.xe s₁) X.xe s:=by
 refine thn (ha pins s σ H _ I h) fun v s1 ⟨x,H1,I1,r1,q1⟩=>?_
 refine thn (hb pins s1 σ H1 _ I1 q1) fun u s2 ⟨y,H2,I2,r2,q2⟩=>?_
 exact hf v u s2 x y H2 I2 r1 r2 q2
theorem Qtm {op:Operator}{r:R2}(ho:OpR X (binaryOp op) r)(ha:PE X a ta)(hb:PE X b tb):PE X (.BinOp a op b pos) (tOp r ta tb):=by
 intro pins s σ H Q I h
 exact wpAny_BinOp (binT ha hb I h fun v u s2 x y H2 I2 rx ry q=>ho pins s2 σ H2 x y v u Q I2 rx ry q)
theorem Qtn {op:UnaryOp}{r:V->Hp->VK->Prop}(ho:UnR X (unaryOp op) r)(ha:PE X a ta):PE X (.UnaryOp op a pos) (tUn r ta):=by
 intro pins s σ H Q I h
 exact UnaryOp_ (thn (ha pins s σ H _ I h) fun v s1 ⟨x,H1,I1,r1,q1⟩=>ho pins s1 σ H1 x v Q I1 r1 q1)
theorem augR {op:Operator}{r:R2}(ho:OpR X (inplaceOp op) r){pins:List ay}{s:Shared}{σ:St}{H:Hp}{x y:V}{v u:Value}{Q:VK}(I:Inv X pins σ H s)
  (rx:RelV x v) (ry:RelV y u) (q:r x y H Q):wpAny ah X.A (inplaceOp op v u) (EP X pins σ Q) X.xe s:=ho pins s σ H x y v u Q I rx ry q
theorem opI {f:Value->Value->Sem Value}{C:Int->Int->Prop}{g:Int->Int->Int}
  (rule:∀(i j:Int) (t u:Tok) (s:Shared) (Q:Value->Shared->Prop) (E:Value->Shared->Prop),C i j->Q (.int (g i j) s.toks) {s with toks:=s.toks+1}->wpAny ah X.A (f (.int i t) (.int j u)) Q E s):
  OpR X f (rI C fun i j=> .int (g i j)):=by
 intro pins s σ H x y v u Q I rx ry h
 obtain⟨i,j,rfl,rfl,hc,q⟩:=h
 obtain⟨t,rfl⟩:=rx
 obtain⟨t',rfl⟩:=ry
 exact rule i j t t' s _ _ hc ⟨.int (g i j),H,I.tok _,⟨_,rfl⟩,q⟩
theorem opI0 {f:Value->Value->Sem Value}{g:Int->Int->Int}
  (rule:∀(i j:Int) (t u:Tok) (s:Shared) (Q:Value->Shared->Prop) (E:Value->Shared->Prop),Q (.int (g i j) s.toks) {s with toks:=s.toks+1}->wpAny ah X.A (f (.int i t) (.int j u)) Q E s):
  OpR X f (rI0 fun i j=> .int (g i j)):=by
 intro pins s σ H x y v u Q I rx ry h
 obtain⟨i,j,rfl,rfl,q⟩:=h
 obtain⟨t,rfl⟩:=rx
 obtain⟨t',rfl⟩:=ry
 exact rule i j t t' s _ _ ⟨.int (g i j),H,I.tok _,⟨_,rfl⟩,q⟩
theorem opB0 {f:Value->Value->Sem Value}{g:Int->Int->Bool}
  (rule:∀(i j:Int) (t u:Tok) (s:Shared) (Q:Value->Shared->Prop) (E:Value->Shared->Prop),Q (.bool (g i j)) s->wpAny ah X.A (f (.int i t) (.int j u)) Q E s):
  OpR X f (rI0 fun i j=> .bl (g i j)):=by
 intro pins s σ H x y v u Q I rx ry h
 obtain⟨i,j,rfl,rfl,q⟩:=h
 obtain⟨t,rfl⟩:=rx
 obtain⟨t',rfl⟩:=ry
 exact rule i j t t' s _ _ ⟨.bl (g i j),H,I,rfl,q⟩
noncomputable def CPow (i j:Int):Prop:=0<=j/\j<=1000000/\i.natAbs<2^64
noncomputable def CMul (i j:Int):Prop:=(-(2^64)<i/\i<2^64)\/(-(2^64)<j/\j<2^64)
theorem CMul.ok {i j:Int}(h:CMul i j):IntMulOk i j:=by
 rcases h with⟨h1,h2⟩|⟨h1,h2⟩
 .exact .of_left (intBits_le_64 h1 h2)
 .exact .of_right (intBits_le_64 h1 h2)
theorem op_add:OpR X (binaryOp .Add) (rI0 fun i j=> .int (i+j)):=opI0 fun _ _ _ _ _ _ _ q=>add_int q
theorem QqN:OpR X (binaryOp .Sub) (rI0 fun i j=> .int (i-j)):=opI0 fun _ _ _ _ _ _ _ q=>sub_int q
theorem op_mul:OpR X (binaryOp .Mult) (rI CMul fun i j=> .int (i*j)):=opI fun _ _ _ _ _ _ _ hc q=>mul_int q hc.ok
theorem QqO:OpR X (binaryOp .Mod) (rI (fun _ j=>0<j) fun i j=> .int (i %j)):=opI fun i j _ _ _ _ _ hc q=>by
 have h1:(0:Int)<j:=hc
 exact mod_int' aa (by rw[Int.fmod_eq_emod_of_nonneg i aa];exact q)
theorem QqP:OpR X (binaryOp .Pow) (rI CPow fun i j=> .int (i^j.toNat)):=opI fun _ _ _ _ _ _ _ hc q=>pow_int_small hc.1 hc.2.1 hc.2.2 q
theorem unI {f:Value->Sem Value}{g:Int->Int}
  (rule:∀(i:Int) (t:Tok) (s:Shared) (Q:Value->Shared->Prop) (E:Value->Shared->Prop),Q (.int (g i) s.toks) {s with toks:=s.toks+1}->wpAny ah X.A (f (.int i t)) Q E s):
  UnR X f (rU fun i=> .int (g i)):=by
 intro pins s σ H x v Q I rx h
 obtain⟨i,rfl,q⟩:=h
 obtain⟨t,rfl⟩:=rx
 exact rule i t s _ _ ⟨.int (g i),H,I.tok _,⟨_,rfl⟩,q⟩
theorem QqQ:UnR X (unaryOp .USub) (rU fun i=> .int (-i)):=unI fun _ _ _ _ _ q=>neg_int q
end
section
variable {X:Cx}{a b c:Expr}{ta tb tc:TE}{pos:Pos}
theorem QnN {pins:List ay}{σ:St}{H:Hp}{s:Shared}{Q:VK}{k k':Bool}(I:Inv X pins σ H s)(q:Q (.bl k) H)(e:k=k'):EP X pins σ Q (.bool k') s:=by
 subst e
 exact⟨.bl k,H,I,rfl,q⟩
theorem Qto:OpR X (compareOp .Lt) (rI0 fun i j=> .bl (decide (i<j))):=opB0 fun _ _ _ _ _ _ _ q=>lt_int q
theorem Qtp:OpR X (compareOp .LtE) (rI0 fun i j=> .bl (decide (i<=j))):=opB0 fun _ _ _ _ _ _ _ q=>le_int q
theorem Qtq:OpR X (compareOp .Gt) (rI0 fun i j=> .bl (decide (j<i))):=opB0 fun _ _ _ _ _ _ _ q=>gt_int q
theorem Qtr:OpR X (compareOp .GtE) (rI0 fun i j=> .bl (decide (j<=i))):=opB0 fun _ _ _ _ _ _ _ q=>ge_int q
theorem QqR:OpR X (compareOp .Is) (fun x y H Q=>y= .non/\Q (.bl (decide (x= .non))) H):=by
 intro pins s σ H x y v u Q I rx ry h
 obtain⟨rfl,q⟩:=h
 cases ry
 refine is_none_gen (QnN I q ?_)
 cases x<;>first
  |(cases rx;rfl)
  |(obtain⟨t,rfl⟩:=rx;rfl)
theorem Qoq:OpR X (compareOp .IsNot) (fun x y H Q=>y= .non/\Q (.bl (!decide (x= .non))) H):=by
 intro pins s σ H x y v u Q I rx ry h
 obtain⟨rfl,q⟩:=h
 cases ry
 refine isnot_none_gen (QnN I q ?_)
 cases x<;>first
  |(cases rx;rfl)
  |(obtain⟨t,rfl⟩:=rx;rfl)
theorem OpR.or {f:Value->Value->Sem Value}{r r':R2}(h:OpR X f r)(h':OpR X f r'):OpR X f (fun x y H Q=>r x y H Q\/r' x y H Q):=by
 intro pins s σ H x y v u Q I rx ry q
 rcases q with q|q
 .exact h pins s σ H x y v u Q I rx ry q
 .exact h' pins s σ H x y v u Q I rx ry q
theorem QnO (b:Expr){op:CmpOp}(h:op≠ .In:=by decide)(h2:op≠ .NotIn:=by decide):behindInMarks op b=false:=by
 have e1:(op==CmpOp.In)=false:=by cases op<;>first|rfl|exact absurd rfl h
 have e2:(op==CmpOp.NotIn)=false:=by cases op<;>first|rfl|exact absurd rfl h2
 cases b<;>simp[behindInMarks,e1,e2]
theorem Qor {op:CmpOp}{r:R2}(ho:OpR X (compareOp op) r)(ha:PE X a ta)(hb:PE X b tb)(hm:behindInMarks op b=false):PE X (.Compare a [op] [b] pos) (tOp r ta tb):=by
 intro pins s σ H Q I h
 exact wpAny_Compare1 (binT ha hb I h fun v u s2 x y H2 I2 rx ry q=>ho pins s2 σ H2 x y v u Q I2 rx ry q) hm
noncomputable def Qts (t:TE):TT:=fun σ H Q=>t σ H fun x H'=>∃k,x= .bl k/\Q k H'
theorem Qos {op:CmpOp}{r:R2}(ho:OpR X (compareOp op) r)(ha:PE X a ta)(hb:PE X b tb)(hm:behindInMarks op b=false):PT X (.Compare a [op] [b] pos) (Qts (tOp r ta tb)):=by
 intro pins s σ H Q I h
 refine wpAny_isTrue_Compare1 (thn (ha pins s σ H _ I h) fun v s1 ⟨x,H1,I1,r1,q1⟩=>thn (hb pins s1 σ H1 _ I1 q1) fun u s2 ⟨y,H2,I2,r2,q2⟩=>
  thn (ho pins s2 σ H2 x y v u _ I2 r1 r2 q2) fun c s3 ⟨z,H3,I3,r3,k,e,q3⟩=>?_) hm
 subst e
 cases r3
 exact wpAny_truthy_bool ⟨H3,I3,q3⟩
noncomputable def TruV (K:PySem.W.Frag)(x:V)(H:Hp)(k:Bool):Prop:=
 match x with
 | .non=>k=false
 | .bl b=>k=b
 | .int i=>k=(i !=0)
 | .str y=>y.length<=sizeLine/\k=((y.length:Int) !=0)
 | .byt y=>y.size<=sizeLine/\k=((y.size:Int) !=0)
 | .ref p=>(∃xs,SqL K H p xs/\k= !xs.isEmpty)\/(∃xs,SqT K H p xs/\k= !xs.isEmpty)\/∃kvs,H p=some (.dK kvs)/\k= !kvs.isEmpty
 |_=>False
theorem QjX {κ:Type}{kvs:List (κ×V)}{vs:List (κ×Value)}(r:KV kvs vs):(!vs.isEmpty)= !kvs.isEmpty:=by
 cases r<;>rfl
theorem QfI {xs:List V}{its:List Value}(r:Vals xs its):(!its.toArray.isEmpty)= !xs.isEmpty:=by
 cases r<;>simp
theorem QfJ:(sizeLine:Nat)<2^63:=by rw[sizeLine_eq];decide
theorem QqS:TruR X (fun x H Q=>∃k,TruV X.K x H k/\Q k H):=by
 intro pins s σ H x v Q I rx h
 obtain⟨k,e,q⟩:=h
 have hl:=QfJ
 have hs:sizeLine=16777216:=sizeLine_eq
 cases x with
 |non=>
  cases rx
  have e':k=false:=e
  subst e'
  exact truthy_none ⟨H,I,q⟩
 |bl b=>
  cases rx
  have e':k=b:=e
  subst e'
  exact wpAny_truthy_bool ⟨H,I,q⟩
 |int i=>
  obtain⟨t,rfl⟩:=rx
  have e':k=(i !=0):=e
  subst e'
  exact PySem.P.truthy_int ⟨H,I,q⟩
 |str y=>
  obtain⟨t,rfl⟩:=rx
  obtain⟨hy,e'⟩:y.length<=sizeLine/\k=((y.length:Int) !=0):=e
  subst e'
  exact PySem.P.truthy_str aa ⟨H,I.tok _,q⟩
 |byt y=>
  obtain⟨t,rfl⟩:=rx
  obtain⟨hy,e'⟩:y.size<=sizeLine/\k=((y.size:Int) !=0):=e
  subst e'
  exact PySem.W.truthy_bytes aa ⟨H,I.tok _,q⟩
 |ref p=>
  cases rx
  have e':(∃xs,SqL X.K H p xs/\k= !xs.isEmpty)\/(∃xs,SqT X.K H p xs/\k= !xs.isEmpty)\/∃kvs,H p=some (.dK kvs)/\k= !kvs.isEmpty:=e
  rcases e' with⟨xs,hx,e'⟩|⟨xs,hx,e'⟩|⟨kvs,hx,e'⟩
  .subst e'
   obtain⟨its,r,pl,hz⟩:=I.list hx
   have hlen:=r.length
   exact wpAny_truthy_list pl.isList (by simp only[List.size_toArray];omega) ⟨H,I.tok _,by rw[QfI r];exact q⟩
  .subst e'
   obtain⟨its,r,pl,hz⟩:=I.tuple hx
   have hlen:=r.length
   exact truthy_tuple pl (by simp only[List.size_toArray];omega) ⟨H,I.tok _,by rw[QfI r];exact q⟩
  .subst e'
   obtain⟨hz,hS,vs,r,m⟩:kvs.length<=sizeLine/\(p==sysModules)=false/\∃vs,KV kvs vs/\s.heap.DictOf (QL X.prog X.w) p vs:=I.hok p _ hx
   have hlen:kvs.length=vs.length:=Paired.length r
   exact wpAny_truthy_dict hS m aa ⟨H,I.tok _,by rw[QjX r];exact q⟩
 |_=>exact(show False from e).elim
theorem Qmo (ha:PE X a ta)(he:∀whole,isTrue a X.env whole=(do let v←whole;standAt a.pos;holding [v] (truthy v))):
  PT X a (fun σ H Q=>ta σ H fun x H'=>∃k,TruV X.K x H' k/\Q k H'):=by
 intro pins s σ H Q I h
 exact isTrue_plain (thn (ha pins s σ H _ I h) fun v s1 ⟨x,H1,I1,r1,q1⟩=>QqS pins s1 σ H1 x v Q I1 r1 q1) (he _)
theorem QjY:OpR X (binaryOp .Add) (fun x y H Q=>∃i j,x= .str i/\y= .str j/\i.length+j.length<=sizeLine/\Q (.str (i++j)) H):=by
 intro pins s σ H x y v u Q I rx ry h
 obtain⟨i,j,rfl,rfl,hz,q⟩:=h
 obtain⟨t,rfl⟩:=rx
 obtain⟨t',rfl⟩:=ry
 exact add_str (fun t' tk=>⟨.str (i++j),H,I.tok _,⟨_,rfl⟩,q⟩) hz
theorem Qdw {x:V}{us:List Value}(r:Vals [x] us):∃u,us= [u]/\RelV x u:=by
 cases r with
 |cons r1 r2=>cases r2;exact⟨_,rfl,r1⟩
theorem QqT {x y:V}{us:List Value}(r:Vals [x,y] us):∃u w',us= [u,w']/\RelV x u/\RelV y w':=by
 cases r with
 |cons r1 r2=>
  cases r2 with
  |cons r3 r4=>cases r4;exact⟨_,_,rfl,r1,r3⟩
theorem Qmp:Qdv X (.builtin "abs") (fun xs H Q=>∃i,xs= [.int i]/\Q (.int (if i<0 then-i else i)) H):=by
 intro pins s σ H xs us Q I r h
 obtain⟨i,rfl,q⟩:=h
 obtain⟨u,rfl,t,rfl⟩:=Qdw r
 exact call_abs_int fun u tk=>⟨.int (if i<0 then-i else i),H,I.tok _,⟨_,rfl⟩,q⟩
theorem QkI (hc:X.calm=true):Qdv X (.builtin "min") (fun xs H Q=>∃i j,xs= [.int i, .int j]/\Q (.int (if j<i then j else i)) H):=by
 intro pins s σ H xs us Q I r h
 obtain⟨i,j,rfl,q⟩:=h
 obtain⟨u,w',rfl,⟨t,rfl⟩,⟨t',rfl⟩⟩:=QqT r
 refine min_two_ints (I.ok.hd hc) fun h' tk k=>⟨_,H,I.kept k,?_,q⟩
 by_cases hj:j<i
 .rw[if_pos hj,if_pos hj];exact⟨_,rfl⟩
 .rw[if_neg hj,if_neg hj];exact⟨_,rfl⟩
theorem QkJ:Qdv X (.type "int") (fun xs H Q=>(∃i,xs= [.int i]/\Q (.int i) H)\/∃k,xs= [.bl k]/\Q (.int (if k then 1 else 0)) H):=by
 intro pins s σ H xs us Q I r h
 rcases h with⟨i,rfl,q⟩|⟨k,rfl,q⟩
 .obtain⟨u,rfl,t,rfl⟩:=Qdw r
  exact call_int_int ⟨.int i,H,I,⟨_,rfl⟩,q⟩
 .obtain⟨u,rfl,r1⟩:=Qdw r
  cases r1
  exact call_int_bool ⟨.int (if k then 1 else 0),H,I.tok _,⟨_,rfl⟩,q⟩
end
end L2
namespace L2
open PySem PySem.Spec PyProof.Rows
structure ObjM (h:Heap)(x dx C:Addr)(mA:Str->Option Value):Prop where
 obj:h.get? x=some (PySem.W.instObj C dx)
 ns:h.Ns1 dx mA
 ne:dx≠x
theorem QkK {h:Heap}{dx:Addr}{mA:Str->Option Value}(n:h.Ns1 dx mA):∃od,h.get? dx=some od/\∀name,PySem.W.lookIn name od=some (mA name):=by
 obtain⟨o,es,ep,ho,hd,hk,_,hm⟩:=n
 refine⟨o,ho,fun name=>?_⟩
 have e:=hm name
 unfold nsFind findBy at e
 rw[←Array.find?_toList]at e
 unfold PySem.W.lookIn
 rw[hd]
 dsimp only
 split
 .rename_i y q
  rw[q]at e
  exact congrArg some e
 .rename_i q
  rw[q]at e
  have a:es.toList.any (·.refKey)=false:=by
   rw[List.any_eq_false]
   intro y hy
   obtain⟨z,t,hkey⟩:=hk y (Array.mem_toList_iff.mp hy)
   simp[DictEntry.refKey,hkey]
  have a':¬es.toList.any (·.refKey)=true:=by rw[a];exact Bool.false_ne_true
  rw[if_neg a']
  exact congrArg some e
theorem ObjM.look {h:Heap}{x dx C:Addr}{mA:Str->Option Value}(I:ObjM h x dx C mA):∃od,PySem.W.InstAt h x (PySem.W.instObj C dx) C (some od)/\∀name,PySem.W.lookIn name od=some (mA name):=
 let ⟨od,ho,hl⟩:=QkK I.ns
 ⟨od,⟨I.obj,rfl,rfl,ho⟩,hl⟩
section
variable {prog:Program}{w:World}{A:Around}{E:Value->Shared->Prop}{s:Shared}{K:PySem.W.Frag}{x dx C f:Addr}{mA:Str->Option Value}{name:Str}{v:Value}
theorem Qot {expr:Bool}{Q:Value->Shared->Prop}(X:K.In s.heap)(I:ObjM s.heap x dx C mA)(hg:PySem.W.plainGet K C name=true)(hh:PySem.W.hasDictIn K C=true)
  (ha:PySem.W.findIn K (.ref C) name=some none) (hv:mA name=some v) (hv':PySem.W.handedIn v=true) (h:Q v {s with toks:=s.toks+1}):
  wpAny aF A (getAttr (.ref x) name expr) Q E s:=by
 obtain⟨od,J,hl⟩:=I.look
 exact PySem.W.get_value X J (PySem.W.plainGet_of hg).1 (PySem.W.findObj_own hh ha rfl (by rw[hl,hv])) hv' h
theorem Qmq {pl:Sem Bool}{Q:Value×List Value->Shared->Prop}(X:K.In s.heap)(I:ObjM s.heap x dx C mA)(hg:PySem.W.plainGet K C name=true)
  (hf:PySem.W.findIn K (.ref C) name=some (some (.ref f))) (ht:PySem.W.isFn K (.ref f)=true) (hv:mA name=none) (h:Q (.ref f,[.ref x]) s):
  wpAny aF A (getMethod (.ref x) name pl) Q E s:=by
 obtain⟨od,J,hl⟩:=I.look
 exact PySem.W.method_fn X J (PySem.W.plainGet_of hg).1 (PySem.W.plainGet_of hg).2 hf (beq_iff_eq.mp ht) (by show(PySem.W.lookIn name od).map (·.isSome)=some false;rw[hl,hv];rfl) h
theorem Qou {ns:List Str}{Q:Unit->Shared->Prop}(X:K.In s.heap)(I:ObjM s.heap x dx C mA)
  (hs:PySem.W.findIn K (.ref C) "__setattr__"=some (some (.builtin "object.__setattr__"))) (hp:PySem.W.plainOver K C=true) (ht:PySem.W.takerIn K C name=some none) (hh:PySem.W.hasDictIn K C=true)
  (hw:PySem.Within mA ns) (hsz:ns.length<=sizeLine)
  (h:∀h',ObjM h' x dx C (fun y=>if y=name then some v else mA y)->Heap.SameBut dx s.heap h'->Q () {s with heap:=h',toks:=s.toks+2}):
  wpAny aF A (setAttr (.ref x) name v) Q E s:=by
 obtain⟨od,J,hl⟩:=I.look
 refine PySem.W.set_plain X J hs (PySem.W.osa_open (s:={s with toks:=s.toks+1}) (r:=none) X J hp ht fun b=>?_)
 obtain⟨cd,hc,hd'⟩:=PySem.W.any_some hh
 have hx:s.heap.get? x=some ⟨.ref C,some dx, .plain, #[]⟩:=I.obj
 refine wpAny_bind (wpAny_pure (wpAny_bind (wpAny_bind (wpAny_loadPart hx (wpAny_bind (PySem.W.Looks.here (s:={s with toks:=s.toks+1}) (PySem.W.looks_clsIn X hc) ?_))))))
 rw[hd']
 refine wpAny_pure (a:=some dx) (wpAny_bind (wpAny_pure (wpAny_bind ?_)))
 refine wpAny_nsSet1 (s:={s with toks:=s.toks+1}) I.ns fun h' hn2 hs2=>?_
 obtain⟨oD,esD,epD,hoD,hdD,hcD⟩:=hn2.count (PySem.Within.cons name v hw)
 refine wpAny_bind (wpAny_lookBehind hoD (by rw[hdD];exact pastItsLine_dict (Nat.le_trans hcD (by rw[List.length_cons];omega))) ?_)
 exact wpAny_pure (h _ ⟨(hs2.2 _ (Ne.symm I.ne)).trans I.obj,hn2,I.ne⟩ hs2)
theorem Qmr {R:Result->Shared->Prop}{vs:List Value}{kw:List (Str×Value)}(X:K.In s.heap)(hm:PySem.W.makesIn K C=true)
  (hi:PySem.W.findIn K (.ref C) "__init__"=some (some (.ref f))) (hf:PySem.W.typeIn K (.ref f)=some (.type "function"))
  (h:codeAny aF (A.under (.builtin "type.__call__" ⟨.ref C::vs,kw⟩)) (.call (.ref f) ⟨.ref ap::vs,kw⟩) (PySem.W.InitBack ap R)
   {s with heap:=(s.heap.push PySem.W.emptyDict).push (PySem.W.instObj C s.heap.objs.size)}):
  codeAny aF A (.call (.ref C) ⟨vs,kw⟩) R s:=by
 obtain⟨hh,g,d,t,os⟩:=s
 exact PySem.W.make_core (PySem.W.makes_of X hm) (PySem.W.looks_findIn X hi) (fun self=>PySem.W.bind_fn X self hf) (.inl rfl) h
end
noncomputable def putF (f:Str)(v:V):List (Str×V)->List (Str×V)
 | []=> [(f,v)]
 |(g,x)::r=>if g=f then(g,v)::r else(g,x)::putF f v r
theorem QeK (f g:Str)(v:V):∀fs:List (Str×V),(putF f v fs).lookup g=if g=f then some v else fs.lookup g
 | []=>by
  show List.lookup g [(f,v)]=_
  by_cases h:g=f
  .have hb:(g==f)=true:=beq_iff_eq.mpr h
   simp only[List.lookup,hb,if_pos h]
  .have hb:(g==f)=false:=beq_eq_false_iff_ne.mpr h
   simp only[List.lookup,hb,if_neg h]
 |(k,x)::r=>by
  have ih:=QeK f g v r
  rw[show putF f v ((k,x)::r)=(if k=f then(k,v)::r else(k,x)::putF f v r)from rfl]
  by_cases hk:k=f
  .rw[if_pos hk]
   by_cases h:g=k
   .have hb:(g==k)=true:=beq_iff_eq.mpr h
    simp only[List.lookup,hb,if_pos (h.trans hk)]
   .have hb:(g==k)=false:=beq_eq_false_iff_ne.mpr h
    simp only[List.lookup,hb,if_neg (fun e:g=f=>h (e.trans hk.symm))]
  .rw[if_neg hk]
   by_cases h:g=k
   .have hb:(g==k)=true:=beq_iff_eq.mpr h
    simp only[List.lookup,hb,if_neg (fun e:g=f=>hk (h.symm.trans e))]
   .have hb:(g==k)=false:=beq_eq_false_iff_ne.mpr h
    simp only[List.lookup,hb]
    exact ih
theorem QeL (f:Str)(v:V):∀fs:List (Str×V),f∈(putF f v fs).map (·.1)/\∀g,g∈fs.map (·.1)->g∈(putF f v fs).map (·.1)
 | []=>⟨by simp[putF],fun g h=>by simp at h⟩
 |(k,x)::r=>by
  obtain⟨i1,i2⟩:=QeL f v r
  rw[show putF f v ((k,x)::r)=(if k=f then(k,v)::r else(k,x)::putF f v r)from rfl]
  by_cases hk:k=f
  .rw[if_pos hk]
   subst hk
   exact⟨by simp,fun g h=>by simpa using h⟩
  .rw[if_neg hk]
   refine⟨?_,fun g h=>?_⟩
   .rw[List.map_cons]
    exact List.mem_cons_of_mem _ i1
   .rw[List.map_cons]at h⊢
    rcases List.mem_cons.mp h with e|e
    .exact List.mem_cons.mpr (.inl e)
    .exact List.mem_cons_of_mem _ (i2 g e)
theorem QeM (f:Str)(v:V):∀fs:List (Str×V),(putF f v fs).length<=fs.length+1
 | []=>by simp[putF]
 |(k,x)::r=>by
  have ih:=QeM f v r
  rw[show putF f v ((k,x)::r)=(if k=f then(k,v)::r else(k,x)::putF f v r)from rfl]
  by_cases hk:k=f
  .rw[if_pos hk,List.length_cons,List.length_cons];omega
  .rw[if_neg hk,List.length_cons,List.length_cons];omega
theorem RelO.some_of {v:V}{o:Option Value}(r:RelO (some v) o):∃u,o=some u/\RelV v u:=by
 cases o with
 |none=>exact(show False from r).elim
 |some u=>exact⟨u,rfl,r⟩
theorem RelO.none_of {o:Option Value}(r:RelO none o):o=none:=by
 cases o with
 |none=>rfl
 |some u=>exact(show False from r).elim
theorem QkL {v:V}{u:Value}(r:RelV v u):PySem.W.handedIn u=true:=by
 cases v with
 |non=>cases(show u=Value.none from r);rfl
 |bl b=>cases(show u=Value.bool b from r);rfl
 |int i=>obtain⟨t,e⟩:=(show∃t,u=Value.int i t from r);cases e;rfl
 |str x=>obtain⟨t,e⟩:=(show∃t,u=Value.str x t from r);cases e;rfl
 |byt b=>obtain⟨t,e⟩:=(show∃t,u=Value.bytes b t from r);cases e;rfl
 |flt b=>obtain⟨t,e⟩:=(show∃t,u=Value.float b t from r);cases e;rfl
 |ref a=>cases(show u=Value.ref a from r);rfl
 |ty n=>cases(show u=Value.type n from r);rfl
section
variable {P:Program}{w:World}{H H':Hp}{h h':Heap}{a C dx:Addr}{fs fs':List (Str×V)}
theorem Qgl (hok:HOk P w H h)(e:H a=some (.ins C dx fs)):∃mA,ObjM h a dx C mA/\(∀f,RelO (fs.lookup f) (mA f))/\PySem.Within mA (fs.map (·.1))/\fs.length<=1000/\H dx=some (.own a):=by
 obtain⟨d,z,ne,ob,mA,n,r,q⟩:=(show ObjOk P w H h a (.ins C dx fs)from hok a _ e)
 exact⟨mA,⟨ob,n,ne⟩,r,q,z,d⟩
end
structure Cls (K:PySem.W.Frag)(C:Addr):Prop where
 pg:PySem.W.plainGet K C Str.empty=true
 hd:PySem.W.hasDictIn K C=true
 po:PySem.W.plainOver K C=true
 sa:PySem.W.findIn K (.ref C) "__setattr__"=some (some (.builtin "object.__setattr__"))
theorem Cls.get {K:PySem.W.Frag}{C:Addr}(c:Cls K C)(f:Str):PySem.W.plainGet K C f=true:=c.pg
noncomputable def NoAttr (K:PySem.W.Frag)(C:Addr)(f:Str):Prop:=PySem.W.findIn K (.ref C) f=some none
theorem NoAttr.taker {K:PySem.W.Frag}{C:Addr}{f:Str}(n:NoAttr K C f):PySem.W.takerIn K C f=some none:=by
 unfold PySem.W.takerIn
 rw[show PySem.W.findIn K (.ref C) f=some none from n]
 rfl
structure Meth (K:PySem.W.Frag)(C:Addr)(m:Str)(f:Addr):Prop where
 at_:PySem.W.findIn K (.ref C) m=some (some (.ref f))
 fn:PySem.W.isFn K (.ref f)=true
 kp:PySem.W.keepIn K (.ref f)=true
section
variable {X:Cx}{pins:List (Addr×Obj)}{σ:St}{H:Hp}{s:Shared}{a C dx:Addr}{fs:List (Str×V)}{f:Str}{v:V}{A:Around}{E:Value->Shared->Prop}
theorem QjZ {b:Bool}{Q:Value->Shared->Prop}(I:Inv X pins σ H s)(e:H a=some (.ins C dx fs))(c:Cls X.K C)(n:NoAttr X.K C f)(l:fs.lookup f=some v)
  (h:∀u s',Inv X pins σ H s'->RelV v u->Q u s'):wpAny ah A (getAttr (.ref a) f b) Q E s:=by
 obtain⟨mA,O,r,_,_,_⟩:=Qgl I.hok e
 obtain⟨u,hu,ru⟩:=RelO.some_of (v:=v) (o:=mA f) (by rw[←l];exact r f)
 exact Qot I.kIn O (c.get f) c.hd n hu (QkL ru) (h u _ (I.tok _) ru)
theorem Qj0 {m:Str}{g:Addr}{pl:Sem Bool}{Q:Value×List Value->Shared->Prop}(I:Inv X pins σ H s)(e:H a=some (.ins C dx fs))(c:Cls X.K C)(k:Meth X.K C m g)(l:fs.lookup m=none)
  (h:Q (.ref g,[.ref a]) s):wpAny ah A (getMethod (.ref a) m pl) Q E s:=by
 obtain⟨mA,O,r,_,_,_⟩:=Qgl I.hok e
 have hn:mA m=none:=RelO.none_of (by rw[←l];exact r m)
 exact Qmq I.kIn O (c.get m) k.at_ k.fn hn h
theorem Qj1 {y:V}{u:Value}{Q:Unit->Shared->Prop}(I:Inv X pins σ H s)(e:H a=some (.ins C dx fs))(c:Cls X.K C)(n:NoAttr X.K C f)(hl:fs.length<1000)(ry:RelV y u)
  (h:∀s',Inv X pins σ (upd H a (.ins C dx (putF f y fs))) s'->Q () s'):wpAny ah A (setAttr (.ref a) f u) Q E s:=by
 obtain⟨mA,O,r,wi,_,ho⟩:=Qgl I.hok e
 have hz:(fs.map (·.1)).length<=sizeLine:=by rw[List.length_map,sizeLine_eq];omega
 refine Qou I.kIn O c.sa c.po n.taker c.hd wi hz fun h' O' sb=>h _ ?_
 have hd:∃o,h'.get? dx=some o:=let ⟨o,_,_,e',_⟩:=O'.ns;⟨o,e'⟩
 refine I.write (x:=a) (e:=dx) (by rw[e];exact True.intro) (.inr ho) (fun b q hb z=>(sb.2 b hb).trans z) hd ?_
 refine⟨by rw[Ql O.ne];exact ho,?_,O.ne,O'.obj,_,O'.ns,fun g=>?_,fun g hg=>?_⟩
 .have:=QeM f y fs;omega
 .show RelO ((putF f y fs).lookup g) (if g=f then some u else mA g)
  rw[QeK]
  by_cases q:g=f
  .rw[if_pos q,if_pos q];exact ry
  .rw[if_neg q,if_neg q];exact r g
 .by_cases q:g=f
  .rw[q];exact(QeL f y fs).1
  .refine(QeL f y fs).2 g (wi g fun z=>hg ?_)
   show(if g=f then some u else mA g)=none
   rw[if_neg q];exact z
theorem Inv.made (I:Inv X pins σ H s):Inv X pins σ (upd (upd H s.heap.objs.size (.own ap)) ap (.ins C s.heap.objs.size []))
  {s with heap:=(s.heap.push PySem.W.emptyDict).push (PySem.W.instObj C s.heap.objs.size)}:=by
 have e1:(s.heap.push PySem.W.emptyDict).get? s.heap.objs.size=some PySem.W.emptyDict:=Heap.get?_push_size s.heap rfl
 have e2:((s.heap.push PySem.W.emptyDict).push (PySem.W.instObj C s.heap.objs.size)).get? ap=some (PySem.W.instObj C s.heap.objs.size):=by
  have:=Heap.get?_push_size (s.heap.push PySem.W.emptyDict) (o:=PySem.W.instObj C s.heap.objs.size) rfl
  rwa [Heap.size_push]at this
 have e3:(s.heap.push PySem.W.emptyDict).Ns s.heap.objs.size (fun _=>none):=⟨PySem.W.emptyDict, #[],_,e1,rfl,(fun e he=>absurd he al),fun _=>rfl⟩
 have I1:=I.laid (a:=s.heap.objs.size) (o:= .own ap) (h':=s.heap.push PySem.W.emptyDict) (t':=s.toks) (fun b u q=>Heap.get?_push_of_some _ q) am ⟨_,e1⟩
 refine I1.laid (a:=s.heap.objs.size+1) (o:= .ins C s.heap.objs.size []) (t':=s.toks) (fun b u q=>Heap.get?_push_of_some _ q) (Nat.le_of_eq (Heap.size_push _ _)) ?_
 have ne:s.heap.objs.size≠s.heap.objs.size+1:=Nat.ne_of_lt (Nat.lt_succ_self _)
 refine⟨by rw[Ql ne,Qs],Nat.zero_le _,ne,e2,fun _=>none,(Heap.Ns1.of_empty e3).at fun o q=>Heap.get?_push_of_some _ q,fun _=>True.intro,fun y hy=>absurd rfl hy⟩
theorem Qov {prog:Program}{w:World}{env:Env}{e:Expr}{f:Str}{pos:Pos}{s:Shared}{Q:Value->Shared->Prop}(hb:attributeBase e f env (eval e env)=eval e env)
  (h:wpAny aF A (eval e env) (fun o s₁=>wpAny aF A (getAttr o f true) Q E s₁) E s):wpAny aF A (eval (.Attribute e f pos) env) Q E s:=
 Attribute_any_ h (by rw[arm_eval_Attribute,hb])
end
noncomputable def tFld (K:PySem.W.Frag)(ta:TE)(f:Str):TE:=fun σ H Q=>ta σ H fun x H1=>∃a C dx fs v,x= .ref a/\H1 a=some (.ins C dx fs)/\Cls K C/\NoAttr K C f/\fs.lookup f=some v/\Q v H1
noncomputable def sFld (K:PySem.W.Frag)(ta tv:TE)(f:Str):TS:=fun D σ H=>tv σ H fun y H1=>ta σ H1 fun x H2=>∃a C dx fs,x= .ref a/\H2 a=some (.ins C dx fs)/\Cls K C/\NoAttr K C f/\fs.length<1000/\
 D.nx σ (upd H2 a (.ins C dx (putF f y fs)))
section
variable {X:Cx}{o e value:Expr}{f:Str}{pos pos' tpos:Pos}{ta tv:TE}
theorem QqU (he:PE X e ta)(hb:attributeBase e f X.env (eval e X.env)=eval e X.env):PE X (.Attribute e f pos) (tFld X.K ta f):=by
 intro pins s σ H Q I h
 refine Qov hb (thn (he pins s σ H _ I h) fun u s1 ⟨x,H1,I1,rx,a,C,dx,fs,v,ex,ea,c,n,l,q⟩=>?_)
 subst ex
 obtain rfl:u=Value.ref a:=rx
 exact QjZ I1 ea c n l fun u' s2 I2 ru=>⟨v,H1,I2,ru,q⟩
theorem QqV (ha:PE X o ta)(hv:PE X value tv)(hs:swapsWith value (some (.Attribute o f pos')) pos.line X.env=pure false):PS X (.Assign [.Attribute o f pos'] value pos) (sFld X.K ta tv f):=by
 intro pins s σ H D I h
 refine plainObj_wpAny_Assign_Attribute (thn (hv pins s σ H _ I h) fun u s1 ⟨y,H1,I1,ry,q⟩=>thn (ha pins s1 σ H1 _ I1 q) fun ov s2 ⟨x,H2,I2,rx,a,C,dx,fs,ex,ea,c,n,l,q2⟩=>?_) hs
 subst ex
 obtain rfl:ov=Value.ref a:=rx
 exact Qj1 I2 ea c n l ry fun s3 I3=>⟨σ,_,I3,q2⟩
end
section
variable {X:Cx}{pins:List (Addr×Obj)}{σ:St}{H:Hp}{s:Shared}{A:Around}{E:Value->Shared->Prop}{Q:Value->Shared->Prop}{c:Value}{b:Bool}
inductive TyOf (K:PySem.W.Frag)(H:Hp):V->Value->Prop where
 |non:TyOf K H .non (.type "NoneType")
 |bl (x:Bool):TyOf K H (.bl x) (.type "bool")
 |int (i:Int):TyOf K H (.int i) (.type "int")
 |str (x:Str):TyOf K H (.str x) (.type "str")
 |flt (x:UInt64):TyOf K H (.flt x) (.type "float")
 |lst {a:Addr} {xs:List V} (e:H a=some (.lst xs)):TyOf K H (.ref a) (.type "list")
 |frz {a:Addr} {o:Obj} {xs:List V} (e:H a=some (.frz o (.lst xs))):TyOf K H (.ref a) (.type "list")
 |tup {a:Addr} {xs:List V} (e:H a=some (.tup xs)):TyOf K H (.ref a) (.type "tuple")
 |dK {a:Addr} {kvs:List (Key×V)} (e:H a=some (.dK kvs)):TyOf K H (.ref a) (.type "dict")
 |dT {a:Addr} {kvs:List (List Key×V)} (e:H a=some (.dT kvs)):TyOf K H (.ref a) (.type "dict")
 |ins {a C dx:Addr} {fs:List (Str×V)} (e:H a=some (.ins C dx fs)) (cl:Cls K C) (ha:PySem.W.findIn K (.ref C) "__class__"=some (some (.builtin "object.__class__")))
   (hn:PySem.W.specialIn K (.builtin "object.__class__") "__get__"=some (some (.builtin "getset_descriptor.__get__"))) (htk:PySem.W.takesIn K (.builtin "object.__class__")=some true)
   (hm:PySem.W.mroIn K C (.type "object")=some true):TyOf K H (.ref a) (.ref C)
theorem QkM {x:V}{u t:Value}(I:Inv X pins σ H s)(rx:RelV x u)(ty:TyOf X.K H x t)(e:PySem.W.kitOne X.K t c=some b)(h:∀tk,Q (.bool b) {s with toks:=tk}):
  wpAny ah A (call (.builtin "isinstance") [u,c]) Q E s:=by
 cases ty with
 |non=>cases(show u=Value.none from rx);exact PySem.W.kia_one PySem.W.kitx_none I.kIn True.intro e (fun z=>nomatch z) h
 |bl y=>cases(show u=Value.bool y from rx);exact PySem.W.kia_one PySem.W.kitx_bool I.kIn True.intro e (fun z=>nomatch z) h
 |int i=>obtain⟨t,q⟩:=(show∃t,u=Value.int i t from rx);cases q;exact PySem.W.kia_one PySem.W.kitx_int I.kIn True.intro e (fun z=>nomatch z) h
 |str y=>obtain⟨t,q⟩:=(show∃t,u=Value.str y t from rx);cases q;exact PySem.W.kia_one PySem.W.kitx_str I.kIn True.intro e (fun z=>nomatch z) h
 |flt y=>obtain⟨t,q⟩:=(show∃t,u=Value.float y t from rx);cases q;exact PySem.W.kia_one PySem.W.kitx_float I.kIn True.intro e (fun z=>nomatch z) h
 | @lst a xs ea=>
  cases(show u=Value.ref a from rx)
  obtain⟨_,_,n,_,h1⟩:=(show ObjOk X.prog X.w H s.heap a (.lst xs)from I.hok a _ ea)
  exact PySem.W.kia_one PySem.W.kitx_list I.kIn ⟨_,h1,rfl⟩ e (fun z=>nomatch z) h
 | @frz a ob xs ea=>
  cases(show u=Value.ref a from rx)
  obtain⟨_,_,_,n,_,h1⟩:=(show ObjOk X.prog X.w H s.heap a (.frz ob (.lst xs))from I.hok a _ ea)
  exact PySem.W.kia_one PySem.W.kitx_list I.kIn ⟨_,h1,rfl⟩ e (fun z=>nomatch z) h
 | @tup a xs ea=>
  cases(show u=Value.ref a from rx)
  obtain⟨_,_,_,p⟩:=(show ObjOk X.prog X.w H s.heap a (.tup xs)from I.hok a _ ea)
  obtain⟨o,h1,h2,_⟩:=p
  exact PySem.W.kia_one PySem.W.kitx_tuple I.kIn ⟨o,h1,h2⟩ e (fun z=>nomatch z) h
 | @dK a kvs ea=>
  cases(show u=Value.ref a from rx)
  obtain⟨_,_,vs,_,p⟩:=(show ObjOk X.prog X.w H s.heap a (.dK kvs)from I.hok a _ ea)
  obtain⟨o,es,ep,h1,h2,_⟩:=p
  exact PySem.W.kia_one PySem.W.kitx_dict I.kIn ⟨o,h1,h2.1⟩ e (fun z=>nomatch z) h
 | @dT a kvs ea=>
  cases(show u=Value.ref a from rx)
  obtain⟨_,_,xs,_,o,es,ep,h1,h2,_⟩:=(show ObjOk X.prog X.w H s.heap a (.dT kvs)from I.hok a _ ea)
  exact PySem.W.kia_one PySem.W.kitx_dict I.kIn ⟨o,h1,h2.1⟩ e (fun z=>nomatch z) h
 | @ins a C dx fs ea cl ha hn htk hm=>
  cases(show u=Value.ref a from rx)
  obtain⟨mA,O,_⟩:=Qgl I.hok ea
  obtain⟨od,J,_⟩:=O.look
  exact PySem.W.kia_one (PySem.W.kitx_own (cl.get _) cl.hd ha hn htk hm) I.kIn J e (fun z=>nomatch z) h
end
end L2
namespace L2
open PySem PySem.Spec PyProof.Rows
structure Room (k:Nat)(A:Around):Prop where
 hd:A.handled=none
 dp:A.depth+3*k+5<recursionLimit
 un:A.units+16*k+200<cLine
 gd:A.guards=some []
theorem Room.mono {j k:Nat}{A:Around}(r:Room k A)(h:j<=k):Room j A:=⟨r.hd,by have:=r.dp;omega,by have:=r.un;omega,r.gd⟩
theorem Room.deeper {k:Nat}{A:Around}(r:Room (k+1) A)(env:Env):Room k (A.deeper env):=
 ⟨r.hd,by have:=r.dp;show A.depth+1+3*k+5<_;omega,by have:=r.un;show A.units+3+16*k+200<_;omega,r.gd⟩
theorem Qj2 {A:Around}{C:Addr}{us:List Value}{kw:List (Str×Value)}:(A.under (.builtin "type.__call__" ⟨.ref C::us,kw⟩)).depth=A.depth+1:=by
 first|rfl|simp[Around.under,Code.weight,Code.isCreation,Code.isGuard,Code.isCaller,Code.frames,Code.isFrame,guardIds]
theorem Qj3 {A:Around}{C:Addr}{us:List Value}{kw:List (Str×Value)}:(A.under (.builtin "type.__call__" ⟨.ref C::us,kw⟩)).units=A.units+1:=by
 first|rfl|simp[Around.under,Code.cUnits,Code.frames,Code.isFrame]
theorem Qh9 {A:Around}{C:Addr}{us:List Value}{kw:List (Str×Value)}:(A.under (.builtin "type.__call__" ⟨.ref C::us,kw⟩)).guards=A.guards:=by
 first|rfl|simp[Around.under,Code.guards,Code.isGuard,guardIds,pushGuards]
theorem Room.make {k:Nat}{A:Around}(r:Room (k+1) A)(C:Addr)(us:List Value)(kw:List (Str×Value)):Room k (A.under (.builtin "type.__call__" ⟨.ref C::us,kw⟩)):=
 ⟨r.hd,by have:=r.dp;rw[Qj2];omega,by have:=r.un;rw[Qj3];omega,by rw[Qh9];exact r.gd⟩
theorem Room.depth {k:Nat}{A:Around}(r:Room k A):A.depth<recursionLimit:=by have:=r.dp;omega
noncomputable def tNil:TA:=fun _ H Q=>Q [] H
noncomputable def Qms (ta:TE)(tr:TA):TA:=fun σ H Q=>ta σ H fun x H1=>tr σ H1 fun xs H2=>Q (x::xs) H2
section
variable {X:Cx}{e:Expr}{es:List Expr}{te:TE}{t:TA}{pos:Pos}
theorem pa_nil:PA X [] tNil:=fun _ _ _ _ H Q I h=>Calls.spliced_nil ⟨[],H,I, .nil,h⟩
theorem Qbl (ha:PE X e te)(hr:PA X es t)(hs:starEach aO X.env=(false,eval e X.env)::starEach es X.env:=by rfl):PA X aO (Qms te t):=by
 intro pos pins s σ H Q I h
 rw[hs]
 show wpAny _ _ (spliced ((false,eval e X.env)::backTo pos aM)) _ _ s
 refine Calls.spliced_cons (thn (ha pins s σ H _ I h) fun u s1 ⟨x,H1,I1,r1,q1⟩=>?_)
 exact thn (hr pos pins s1 σ H1 _ I1 q1) fun us s2 ⟨xs,H2,I2,r2,q2⟩=>⟨x::xs,H2,I2, .cons r1 r2,q2⟩
noncomputable def tTup (t:TA):TE:=fun σ H Q=>t σ H fun xs H1=>xs.length<=sizeLine/\∀p,H1 p=none->Q (.ref p) (upd H1 p (.tup xs))
noncomputable def tLst (t:TA):TE:=fun σ H Q=>t σ H fun xs H1=>xs.length<=sizeLine/\∀p,H1 p=none->Q (.ref p) (upd H1 p (.lst xs))
theorem QqW {x1}(h:PA X es t):PE X (.Tuple es x1 pos) (tTup t):=by
 intro pins s σ H Q I hq
 refine wpAny_Tuple_spliced (thn (h pos pins s σ H _ I hq) fun us s1 ⟨xs,H1,I1,r,z,q⟩=>⟨by rw[←r.length];exact z,?_⟩)
 have hf:H1 s1.heap.objs.size=none:=I1.hok.fresh am
 refine⟨.ref s1.heap.objs.size,upd H1 s1.heap.objs.size (.tup xs),I1.laid (t':=s1.toks) (fun b u e=>Heap.get?_push_of_some _ e) am ?_,rfl,q _ hf⟩
 exact⟨z,us,r,⟨_,Heap.get?_push_size _ rfl,rfl,_,rfl⟩⟩
theorem QqX (h:PA X es t):PE X (.List es pos) (tLst t):=by
 intro pins s σ H Q I hq
 refine wpAny_List_spliced (thn (h pos pins s σ H _ I hq) fun us s1 ⟨xs,H1,I1,r,z,q⟩=>⟨by rw[←r.length];exact z,?_⟩)
 have hf:H1 s1.heap.objs.size=none:=I1.hok.fresh am
 refine⟨.ref s1.heap.objs.size,upd H1 s1.heap.objs.size (.lst xs),I1.laid (t':=s1.toks) (fun b u e=>Heap.get?_push_of_some _ e) am ?_,rfl,q _ hf⟩
 exact⟨z,us,0,r,Heap.get?_push_size _ rfl⟩
end
noncomputable abbrev Sp:=List V->Hp->VK->XK->Prop
noncomputable abbrev CXT:=List Env->Hp->Shared->XK->Value->Shared->Prop
structure Env0 (P:Program)(w:World)(K:PySem.W.Frag)(mg:Str->Option Value)(base:Heap)(A:Around)(outer:List Env)(s:Shared)(H:Hp):Prop where
 frames:A.frames=some outer
 mod:Mod K mg base
 bs:∀b o,base.get? b=some o->s.heap.get? b=some o/\H b=none
 bsz:base.objs.size<=s.heap.objs.size
 funs:s.heap.FunFrames base outer
 frf:∀b∈frs outer,H b=none
 hok:HOk P w H s.heap
 bare:AllBare s.gens
noncomputable def CE (outer:List Env)(P:Program)(w:World)(H:Hp)(s:Shared)(Q:VK)(u:Value)(s':Shared):Prop:=
 ∃v H',s'.os=s.os/\AllBare s'.gens/\Un (frs outer) [] H H' s.heap s'.heap/\HOk P w H' s'.heap/\RelV v u/\Q v H'
noncomputable def CR (CX:CXT)(outer:List Env)(P:Program)(w:World)(H:Hp)(s:Shared)(Q:VK)(E:XK)(r:Result)(s':Shared):Prop:=
 match r with
 | .ok (.ret u)=>CE outer P w H s Q u s'
 | .ok _=>False
 | .error e=>CX outer H s E e s'
structure FnOk (P:Program)(w:World)(K:PySem.W.Frag)(mg:Str->Option Value)(base:Heap)(CX:CXT)(k:Nat)(f:Addr)(fd:FuncData)(ps:List Str)(sp:Sp):Prop where
 len:∀vs H Q E,sp vs H Q E->vs.length=ps.length
 run:∀(A:Around) (outer:List Env) (s:Shared) (H:Hp) (args:Args) (us:List Value) (vs:List V) (Q:VK) (E:XK),Room k A->Env0 P w K mg base A outer s H->BindsTo s fd args (ps.zip us)->Vals vs us->sp vs H Q E->
  codeAny (model P w) A (.call (.ref f) args) (CR CX outer P w H s Q E) s
theorem FnOk.mono {P:Program}{w:World}{K:PySem.W.Frag}{mg:Str->Option Value}{base:Heap}{CX:CXT}{j k:Nat}{f:Addr}{fd:FuncData}{ps:List Str}{sp:Sp}(F:FnOk P w K mg base CX j f fd ps sp)(h:j<=k):
  FnOk P w K mg base CX k f fd ps sp:=⟨F.len,fun A outer s H args us vs Q E hr=>F.run A outer s H args us vs Q E (hr.mono h)⟩
theorem Env0.make {P:Program}{w:World}{K:PySem.W.Frag}{mg:Str->Option Value}{base:Heap}{A:Around}{outer:List Env}{s:Shared}{H:Hp}(e:Env0 P w K mg base A outer s H)(C:Addr)(us:List Value)(kw:List (Str×Value)):
  Env0 P w K mg base (A.under (.builtin "type.__call__" ⟨.ref C::us,kw⟩)) outer s H:=⟨by first|exact e.frames|(simpa[Around.under,Code.envs,Code.isFrame,pushEnvs]using e.frames),e.mod,e.bs,e.bsz,e.funs,e.frf,e.hok,e.bare⟩
theorem Env0.in1 {P:Program}{w:World}{K:PySem.W.Frag}{mg:Str->Option Value}{base:Heap}{A:Around}{outer:List Env}{s:Shared}{H:Hp}(e:Env0 P w K mg base A outer s H):
  Env0 P w K mg base A.in1 outer s H:=⟨e.frames,e.mod,e.bs,e.bsz,e.funs,e.frf,e.hok,e.bare⟩
section
variable {X:Cx}{pins:List (Addr×Obj)}{σ:St}{H:Hp}{s s':Shared}
theorem Inv.env0 (I:Inv X pins σ H s):Env0 X.prog X.w X.K X.mg X.base X.A X.stack s H:=
 ⟨I.ok.frames,I.ok.mod,I.bs,Nat.le_trans I.ok.bsz I.sz,I.stack,I.stkFree,I.hok,I.bare⟩
theorem Inv.after {Q:VK}{u:Value}(I:Inv X pins σ H s)(h:CE X.stack X.prog X.w H s Q u s'):EP X pins σ Q u s':=by
 obtain⟨v,H',os,bare,un,hok,r,q⟩:=h
 obtain⟨hh,g,d,t,os'⟩:=s'
 obtain rfl:os'=s.os:=os
 exact⟨v,H',I.call (h':=hh) (g':=g) (d':=d) (t':=t) (ch:= []) un hok bare (fun b z=>absurd z al),r,q⟩
end
noncomputable def Qtt (sp:Sp)(dvs:List V)(E:XK)(t:TA):TE:=fun σ H Q=>t σ H fun vs H1=>sp (vs++dvs) H1 Q E
noncomputable def Qtu (C:Addr)(sp:Sp)(dvs:List V)(E:XK)(t:TA):TE:=fun σ H Q=>t σ H fun vs H1=>∀x dx,H1 x=none->H1 dx=none->dx≠x->
 sp (.ref x::(vs++dvs)) (upd (upd H1 dx (.own x)) x (.ins C dx [])) (fun v H2=>v= .non/\Q (.ref x) H2) E
noncomputable def Binds (K:PySem.W.Frag)(fd:FuncData)(ps:List Str)(ds:List Value):Prop:=
 ∀(s:Shared) (us:List Value),K.In s.heap->(us++ds).length=ps.length->BindsTo s fd ⟨us,[]⟩ (ps.zip (us++ds))
theorem Binds.all {K:PySem.W.Frag}{fd:FuncData}{ps:List Str}(h:∀us:List Value,us.length=ps.length->bindArgs fd ⟨us,[]⟩=pure (ps.zip us)):Binds K fd ps []:=fun s us _ hl=>by
 rw[List.append_nil]at hl⊢
 exact .of_eq (h us hl)
noncomputable def Qhd (CX:CXT)(X:Cx)(E:XK):Prop:=∀(pins:List ay) (σ:St) (H:Hp) (s:Shared) (e:Value) (s':Shared),Inv X pins σ H s->CX X.stack H s E e s'->X.xe e s'
section
variable {X:Cx}{CX:CXT}{k:Nat}{f C:Addr}{fd:FuncData}{ps:List Str}{sp:Sp}{dvs:List V}{ds:List Value}{E:XK}{x m:Str}{p pos apos:Pos}{e o:Expr}{es:List Expr}{ta:TE}{t:TA}
theorem QnP {pins:List ay}{σ:St}{H:Hp}{s:Shared}{Q:VK}{us:List Value}{vs:List V}(F:FnOk X.prog X.w X.K X.mg X.base CX k f fd ps sp)(hr:Room k X.A)(hb:Binds X.K fd ps ds)(hd:Vals dvs ds)(hx:Qhd CX X E)
  (I:Inv X pins σ H s) (r:Vals vs us) (h:sp (vs++dvs) H Q E):wpAny ah X.A (call (.ref f) us) (EP X pins σ Q) X.xe s:=by
 have r2:Vals (vs++dvs) (us++ds):=r.append hd
 have hl:(us++ds).length=ps.length:=by rw[←r2.length];exact F.len _ _ _ _ h
 refine wpAny_call (codeAny_mono (F.run X.A X.stack s H ⟨us,[]⟩ (us++ds) (vs++dvs) Q E hr I.env0 (hb s us I.kIn hl) r2 h) fun r s' hq=>?_)
 cases r with
 |error e=>exact hx pins σ H s e s' I hq
 |ok fl=>
  cases fl with
  |ret u=>exact I.after hq
  |next=>exact False.elim hq
  |brk=>exact False.elim hq
  |cont=>exact False.elim hq
theorem Qow (F:FnOk X.prog X.w X.K X.mg X.base CX k f fd ps sp)(hr:Room k X.A)(hg:Gl X x)(hm:X.mg x=some (.ref f))(hk:PySem.W.keepIn X.K (.ref f)=true)(hb:Binds X.K fd ps ds)(hd:Vals dvs ds)(hx:Qhd CX X E)
  (ha:PA X aO t) (hdb:aJ=false:=by decide) (he:starEach aO X.env=(false,eval e X.env)::starEach es X.env:=by rfl) (hpl:(backTo pos aM).any (·.1)=false:=by rfl):
  PE X (.Call (.Name x p) aO [] pos) (Qtt sp dvs E t):=by
 intro pins s σ H Q I h
 refine wpAny_Call_Name_kw (Qh7 I hg hm ?_ hdb)
 refine PySem.W.callWith_K (h₀:=X.base) I.ok.mod.kin hk (thn (ha pos pins s σ H _ I h) fun us s1 ⟨vs,H1,I1,r,q⟩=>⟨I1.kIn,?_⟩) he hpl
 exact QnP F hr hb hd hx I1 r q
structure Mk (K:PySem.W.Frag)(C f:Addr):Prop where
 makes:PySem.W.makesIn K C=true
 init:PySem.W.findIn K (.ref C) "__init__"=some (some (.ref f))
 fn:PySem.W.isFn K (.ref f)=true
 kp:PySem.W.keepIn K (.ref C)=true
theorem Qmt {pins:List ay}{σ:St}{H:Hp}{s:Shared}{Q:VK}{us:List Value}{vs:List V}(M:Mk X.K C f)(F:FnOk X.prog X.w X.K X.mg X.base CX k f fd ps sp)(hr:Room (k+1) X.A)(hb:Binds X.K fd ps ds)(hd:Vals dvs ds)
  (hx:Qhd CX X E) (I:Inv X pins σ H s) (r:Vals vs us)
  (h:∀x dx,H x=none->H dx=none->dx≠x->sp (.ref x::(vs++dvs)) (upd (upd H dx (.own x)) x (.ins C dx [])) (fun v H2=>v= .non/\Q (.ref x) H2) E):
  wpAny ah X.A (call (.ref C) us) (EP X pins σ Q) X.xe s:=by
 have hq:=h ap s.heap.objs.size (I.hok.fresh (Nat.le_succ _)) (I.hok.fresh am) (Nat.ne_of_lt (Nat.lt_succ_self _))
 have I2:=Inv.made (C:=C) I
 have r2:Vals (V.ref ap::(vs++dvs)) (Value.ref ap::(us++ds)):= .cons rfl (r.append hd)
 have hl:(Value.ref ap::us++ds).length=ps.length:=by
  have e:=r2.length
  rw[F.len _ _ _ _ hq]at e
  exact e.symm
 refine wpAny_call (Qmr (f:=f) I.kIn M.makes M.init (beq_iff_eq.mp M.fn) (codeAny_mono (F.run _ X.stack _ _ ⟨Value.ref ap::us,[]⟩ (Value.ref ap::(us++ds)) _ _ E (hr.make C us [])
  (I2.env0.make C us []) (hb _ (Value.ref ap::us) I2.kIn hl) r2 hq) fun r s' hq'=>?_))
 cases r with
 |error e=>exact hx pins σ _ _ e s' I2 hq'
 |ok fl=>
  cases fl with
  |ret u=>
   obtain⟨v,H',I3,rv,ev,q3⟩:=I2.after hq'
   subst ev
   exact⟨rv,⟨V.ref ap,H',I3,rfl,q3⟩⟩
  |next=>exact False.elim hq'
  |brk=>exact False.elim hq'
  |cont=>exact False.elim hq'
theorem Qox (M:Mk X.K C f)(F:FnOk X.prog X.w X.K X.mg X.base CX k f fd ps sp)(hr:Room (k+1) X.A)(hg:Gl X x)(hm:X.mg x=some (.ref C))(hb:Binds X.K fd ps ds)(hd:Vals dvs ds)(hx:Qhd CX X E)
  (ha:PA X aO t) (hdb:aJ=false:=by decide) (he:starEach aO X.env=(false,eval e X.env)::starEach es X.env:=by rfl) (hpl:(backTo pos aM).any (·.1)=false:=by rfl):
  PE X (.Call (.Name x p) aO [] pos) (Qtu C sp dvs E t):=by
 intro pins s σ H Q I h
 refine wpAny_Call_Name_kw (Qh7 I hg hm ?_ hdb)
 refine PySem.W.callWith_K (h₀:=X.base) I.ok.mod.kin M.kp (thn (ha pos pins s σ H _ I h) fun us s1 ⟨vs,H1,I1,r,q⟩=>⟨I1.kIn,?_⟩) he hpl
 exact Qmt M F hr hb hd hx I1 r q
end
section
variable {X:Cx}{CX:CXT}{k:Nat}{f C:Addr}{fd:FuncData}{ps ks:List Str}{sp:Sp}{E:XK}{x m:Str}{p pos apos kpos:Pos}{e o:Expr}{es:List Expr}{kws:List Keyword}{te ta:TE}{t tk:TA}{nm:Option Str}
variable {g:List Value->List Value->List Value}{gV:List V->List V->List V}
end
structure FnScope (N P:List Str)(sc:Scope):Prop where
 kind:sc.kind= .function
 co:sc.isCoroutine=false
 gen:sc.isGenerator=false
 nd:N.Nodup
 pre:N.take P.length=P
 par:∀x∈P,sc.names.lookup x=some .local\/sc.names.lookup x=some .cell
 nofree:∀y∈sc.names,y.2≠ .free
theorem Qhe {kindOf:Str->Option NameKind}{x:Str}:∀{binds:List (Str×Value)} {m:Str->Option Value},(∀v,(x,v)∉binds)->bindL kindOf binds m x=m x
 | [],_,_=>rfl
 |(n,v)::r,m,h=>by
  unfold bindL
  rw[Qhe fun w hw=>h w (List.mem_cons_of_mem _ hw)]
  split
  .have:x≠n:=by rintro rfl;exact h v List.mem_cons_self
   simp[this]
  .rfl
theorem Qhf {kindOf:Str->Option NameKind}{x:Str}:∀{binds:List (Str×Value)} {m:Str->Option Value},(∀v,(x,v)∉binds)->bindC kindOf binds m x=m x
 | [],_,_=>rfl
 |(n,v)::r,m,h=>by
  unfold bindC
  rw[Qhf fun w hw=>h w (List.mem_cons_of_mem _ hw)]
  split
  .rfl
  .have:x≠n:=by rintro rfl;exact h v List.mem_cons_self
   simp[this]
theorem Qhg {kindOf:Str->Option NameKind}{x:Str}{v:Value}:∀{P:List Str} {vs:List Value} {i:Nat} {m:Str->Option Value},P.Nodup->P[i]?=some x->vs[i]?=some v->kindOf x=some .local->
  bindL kindOf (P.zip vs) m x=some v
 | [],_,_,_,_,h,_,_=>by simp at h
 |_::_,[],_,_,_,_,h,_=>by simp at h
 |p::P,w::vs,0,m,nd,h1,h2,hk=>by
  simp at h1 h2;subst h1;subst h2
  show bindL kindOf ((p,w)::P.zip vs) m p=_
  unfold bindL
  rw[Qhe fun v hv=>(List.nodup_cons.mp nd).1 (List.of_mem_zip hv).1,if_pos hk]
  simp
 |p::P,w::vs,i+1,m,nd,h1,h2,hk=>by
  show bindL kindOf ((p,w)::P.zip vs) m x=_
  unfold bindL
  exact Qhg (i:=i) (List.nodup_cons.mp nd).2 (by simpa using h1) (by simpa using h2) hk
theorem Qhh {kindOf:Str->Option NameKind}{x:Str}{v:Value}:∀{P:List Str} {vs:List Value} {i:Nat} {m:Str->Option Value},P.Nodup->P[i]?=some x->vs[i]?=some v->kindOf x≠some .local->
  bindC kindOf (P.zip vs) m x=some v
 | [],_,_,_,_,h,_,_=>by simp at h
 |_::_,[],_,_,_,_,h,_=>by simp at h
 |p::P,w::vs,0,m,nd,h1,h2,hk=>by
  simp at h1 h2;subst h1;subst h2
  show bindC kindOf ((p,w)::P.zip vs) m p=_
  unfold bindC
  rw[Qhf fun v hv=>(List.nodup_cons.mp nd).1 (List.of_mem_zip hv).1,if_neg hk]
  simp
 |p::P,w::vs,i+1,m,nd,h1,h2,hk=>by
  show bindC kindOf ((p,w)::P.zip vs) m x=_
  unfold bindC
  exact Qhh (i:=i) (List.nodup_cons.mp nd).2 (by simpa using h1) (by simpa using h2) hk
noncomputable def start (N:List Str)(vs:List V):St:=vs.map some++List.replicate (N.length-vs.length) none
noncomputable def cxOf (CX:CXT)(P:Program)(w:World)(K:PySem.W.Frag)(mg:Str->Option Value)(base:Heap)(N:List Str)(qual:Str)(scope:Scope)(f:Addr)(cd:Value)(A:Around)(outer:List Env)(s:Shared)(H:Hp)(E:XK):Cx where
 prog:=P
 w:=w
 K:=K
 mg:=mg
 base:=base
 A:=A.deeper (envOfC qual scope s.heap.objs.size f cd)
 N:=N
 s₀:=s
 H₀:=H
 env:=envOfC qual scope s.heap.objs.size f cd
 outer:=outer
 stack:=envOfC qual scope s.heap.objs.size f cd::outer
 ex:= []
 calm:=true
 fn:=fun _=>true
 pn:= []
 xe:=fun e s'=>wpAny (model P w) (A.deeper (envOfC qual scope s.heap.objs.size f cd)) (leaving (envOfC qual scope s.heap.objs.size f cd) e) (fun _ s''=>CX outer H s E e s'') (fun e' s''=>CX outer H s E e' s'') s'
theorem Qi2 {sc:Scope}{n:Nat}{x:Str}(h:sc.names.lookup x=some .cell):∃c,(cellsFrom n sc.names []).lookup x=some c:=by
 have q:=PySem.W.cellsFrom_some sc.names n [] (.inl h)
 exact Option.isSome_iff_exists.mp q
theorem QkN {CX:CXT}{P:Program}{w:World}{K:PySem.W.Frag}{mg:Str->Option Value}{base:Heap}{N ps:List Str}{qual:Str}{scope:Scope}{f:Addr}{cd:Value}{A:Around}{outer:List Env}{s s1:Shared}{H:Hp}{E:XK}{us:List Value}{vs:List V}
  (S:FnScope N ps scope) (hd:A.handled=none) (e0:Env0 P w K mg base A outer s H) (hl:vs.length=ps.length) (r:Vals vs us)
  (x:InCallC s s.heap.objs.size (bindL (envOfC qual scope s.heap.objs.size f cd).kindOf (ps.zip us) fun _=>none) (cellsFrom ap scope.names []) (bindC (envOfC qual scope s.heap.objs.size f cd).kindOf (ps.zip us) fun _=>none) s1):
  Inv (cxOf CX P w K mg base N qual scope f cd A outer s H E) [] (start N vs) H s1:=by
 have hpl:ps.length<=N.length:=by have:=congrArg List.length S.pre;rw[List.length_take]at this;omega
 obtain⟨h1,tk,rfl,hk⟩:=x.done
 have noA:∀b:Addr,b∉(cxOf CX P w K mg base N qual scope f cd A outer s H E).ex:=fun b z=>absurd (show b∈([]:List Addr)from z) al
 refine⟨⟨e0.mod,S.kind,rfl,rfl,Nat.le_refl _,fun y z c h1 h2=>?_,fun y hy=>?_,fun y c _ h=>?_,fun _=>hd,Around.frames_deeper e0.frames, .inr ⟨rfl,rfl⟩,fun b z=>absurd z (noA b),e0.bs,e0.bsz,fun b _ _=>noA b,fun b z=>absurd z (noA b),e0.funs,e0.frf⟩,
  rfl,e0.bare,Un.kept hk,⟨_,x.toInCall.ns,fun i y v h1 h2 h3=>?_⟩,fun y c h=>⟨_,x.cell y c h⟩,e0.hok.fresh am,fun y c h=>?_,fun p hp=>absurd (show p∈([]:List ay)from hp) al,e0.hok.kept hk,?_⟩
 .exact name_of_addr x.apart (PySem.mem_of_lookup h1) (PySem.mem_of_lookup h2)
 .have hy:scope.names.lookup y=some .cell\/scope.names.lookup y=some .free:=hy
  rcases hy with hy|hy
  .exact Qi2 hy
  .exact absurd rfl (S.nofree _ (PySem.mem_of_lookup hy))
 .exact Nat.le_of_lt (x.above y c (PySem.mem_of_lookup h))
 .have hi:i<vs.length:=by
   unfold start at h2
   by_cases hi:i<vs.length
   .exact hi
   .rw[List.getElem?_append_right (by simpa using hi)]at h2
    rw[List.getElem?_replicate]at h2
    split at h2<;>cases h2
  have ha:vs[i]?=some v:=by
   unfold start at h2
   rw[List.getElem?_append_left (by simpa using hi),List.getElem?_map]at h2
   cases e:vs[i]? with
   |none=>rw[e]at h2;cases h2
   |some a=>rw[e]at h2;cases h2;rfl
  obtain⟨u,hu,rv⟩:=r.get ha
  have hp:ps[i]?=some y:=by
   rw[←S.pre,List.getElem?_take_of_lt aa];exact h1
  have ndP:ps.Nodup:=by rw[←S.pre];exact S.nd.sublist (List.take_sublist _ _)
  refine⟨u,rv,?_⟩
  rcases S.par y (List.mem_of_getElem? hp)with k|k
  .exact .inl ⟨k,Qhg ndP hp hu k⟩
  .obtain⟨c,e⟩:=Qi2 (n:=s.heap.objs.size+1) k
   refine .inr ⟨.inl k,c,e,?_⟩
   have q:=x.cell y c e
   rw[Qhh ndP hp hu (by show scope.names.lookup y≠_;rw[k];decide)]at q
   exact q
 .exact e0.hok.fresh (Nat.le_of_lt (x.above y c (PySem.mem_of_lookup h)))
 .unfold start
  show _=N.length
  rw[List.length_append,List.length_map,List.length_replicate]
  omega
theorem QqY {CX:CXT}{P:Program}{w:World}{K:PySem.W.Frag}{mg:Str->Option Value}{base:Heap}{k:Nat}{f:Addr}{name qual:Str}{params:Arguments}{body:List Stmt}{scope:Scope}{dV kV doc pm cdv ct oc:Value}{an od:Option Addr}
  {osl:Array (Option Value)} {N ps:List Str} {sp:Sp} (lk:K.lookup f=some ⟨oc,od, .func (PySem.W.fnOf name qual params body scope dV kV doc pm an cdv ct),osl⟩) (hcd:PySem.W.codeIn K cdv qual=true) (S:FnScope N ps scope)
  (len:∀vs H Q E,sp vs H Q E->vs.length=ps.length)
  (hbody:∀(A:Around) (outer:List Env) (s:Shared) (H:Hp) (vs:List V) (Q:VK) (E:XK),Room k (A.deeper (envOfC qual scope s.heap.objs.size f cdv))->sp vs H Q E->
   ∃t,PSs (cxOf CX P w K mg base N qual scope f cdv A outer s H E) body t/\t {nx:=fun _ H'=>Q .non H',rt:=Q} (start N vs) H):
  FnOk P w K mg base CX (k+1) f (PySem.W.fnOf name qual params body scope dV kV doc pm an cdv ct) ps sp:=by
 refine⟨len,fun A outer s H args us vs Q E hr e0 hb r hsp=>?_⟩
 have hl:=len _ _ _ _ hsp
 have KX:K.In s.heap:=e0.mod.kin.keeps fun b o e=>(e0.bs b o e).1
 have lim:s.heap.NoLimit:=e0.mod.nolimit.keeps fun b o e=>(e0.bs b o e).1
 have hkind:∀y∈ps.zip us,scope.names.lookup y.1=some .local\/(scope.names.lookup y.1=some .cell/\((cellsFrom ap scope.names []).lookup y.1).isSome=true):=fun⟨n,v⟩ hy=>by
  rcases S.par n (List.of_mem_zip hy).1 with q|q
  .exact .inl q
  .exact .inr ⟨q,PySem.W.cellsFrom_some _ _ _ (.inl q)⟩
 refine codeAny_call_function hr.depth (KX _ _ lk) rfl S.co S.gen rfl (PySem.W.codeRec_of KX hcd) (hb _ _ _ _ ?_)
 refine wpAny_newFunctionEnv_cells S.kind hkind fun env he s1 x=>?_
 subst he
 refine⟨lim.keeps x.toInCall.keep,codeAny_func ?_⟩
 obtain⟨t,ht,hq⟩:=hbody A outer s H vs Q E (hr.deeper _) hsp
 have I:Inv (cxOf CX P w K mg base N qual scope f cdv A outer s H E) [] (start N vs) H s1:=QkN S hr.hd e0 hl r x
 refine wpAny_mono (ht [] s1 (start N vs) H _ I hq) (fun fl s' hs=>?_) fun e s' hs=>hs
 have fin:∀{σ':St} {H':Hp} {v:V} {u:Value},Inv (cxOf CX P w K mg base N qual scope f cdv A outer s H E) [] σ' H' s'->RelV v u->Q v H'->CE outer P w H s Q u s':=
  fun{σ' H' v u} J rv q=>⟨v,H',J.os,J.bare,J.base,J.hok,rv,q⟩
 cases fl with
 |ret u=>
  obtain⟨v,σ',H',J,rv,q⟩:=hs
  exact fin J rv q
 |next=>
  obtain⟨σ',H',J,q⟩:=hs
  exact fin (v:=V.non) (u:=Value.none) J rfl q
 |brk=>
  obtain⟨_,_,_,q⟩:=hs
  exact False.elim q
 |cont=>
  obtain⟨_,_,_,q⟩:=hs
  exact False.elim q
end L2
namespace L2
open PySem PySem.Spec PyProof.Rows
section
variable {X:Cx}{x:Str}{p pos:Pos}{e:Expr}{es:List Expr}{t:TA}{id T:String}{r:List V->Hp->VK->Prop}
noncomputable def tCB (r:List V->Hp->VK->Prop)(t:TA):TE:=fun σ H Q=>t σ H fun vs H1=>r vs H1 Q
theorem Qi3 (hc:Qdv X (.builtin id) r)(hg:Gl X x)(hm:X.mg x=none)(hv:bootBuiltins x=some (.builtin id))(ha:PA X aO t)(hn:x≠"__name__":=by decide)(hdb:aJ=false:=by decide)
  (he:starEach aO X.env=(false,eval e X.env)::starEach es X.env:=by rfl) (hpl:(backTo pos aM).any (·.1)=false:=by rfl):PE X (.Call (.Name x p) aO [] pos) (tCB r t):=by
 intro pins s σ H Q I h
 refine wpAny_Call_Name_kw (Qdu I hg hm hv ?_ hn hdb)
 exact PyProof.Rows.callWith_builtin1 (thn (ha pos pins s σ H _ I h) fun us s1 ⟨vs,H1,I1,r1,q1⟩=>hc pins s1 σ H1 vs us Q I1 r1 q1) he hpl
theorem Qhi (hc:Qdv X (.type T) r)(hg:Gl X x)(hm:X.mg x=none)(hv:bootBuiltins x=some (.type T))(ha:PA X aO t)(hn:x≠"__name__":=by decide)(hdb:aJ=false:=by decide)
  (he:starEach aO X.env=(false,eval e X.env)::starEach es X.env:=by rfl) (hpl:(backTo pos aM).any (·.1)=false:=by rfl):PE X (.Call (.Name x p) aO [] pos) (tCB r t):=by
 intro pins s σ H Q I h
 refine wpAny_Call_Name_kw (Qdu I hg hm hv ?_ hn hdb)
 exact PyProof.Rows.callWith_type1 (thn (ha pos pins s σ H _ I h) fun us s1 ⟨vs,H1,I1,r1,q1⟩=>hc pins s1 σ H1 vs us Q I1 r1 q1) he hpl
end
end L2
namespace HT
open PySem PyProof.Rows
section
open PySem.SeqAt
open PySem.AutoSeq1 (wpAny_loadPart')
open PySem.MeetsSeq PySem.MeetsSeq2 PySem.MeetsSeq3
end
section
variable {prog:Program}{w:World}{A:Around}{E:Value->Shared->Prop}{s:Shared}
noncomputable def sIx (n d:Nat):Option Int->Nat
 |none=>d
 |some v=>if v<0 then(v+(n:Int)).toNat else min v.toNat n
end
end HT
namespace L2
open PySem PySem.Spec PyProof.Rows
noncomputable abbrev TO:=St->Hp->(Option Int->Hp->Prop)->Prop
section
variable {X:Cx}{e:Expr}{te:TE}{lo hi:Option Expr}{tl th:TO}{pos p2:Pos}
end
end L2
namespace L2
open PySem PySem.Spec PyProof.Rows
noncomputable def ixN (n:Nat)(i:Int):Option Nat:=if 0<=i then(if i<n then some i.toNat else none)else if-(n:Int)<=i then some (i+n).toNat else none
noncomputable def atI {α:Type}(xs:List α)(i:Int):Option α:=(ixN xs.length i).bind fun j=>xs[j]?
theorem QkO {n:Nat}{i:Int}{j:Nat}(h:ixN n i=some j):seqIndex? i n=some j/\j<n/\-(n:Int)<=i/\i<n:=by
 unfold ixN at h
 by_cases h0:0<=i
 .rw[if_pos h0]at h
  by_cases h1:i<n
  .rw[if_pos h1]at h
   have e:i.toNat=j:=Option.some.inj h
   exact⟨by rw[seqIndex_of h0 h1,e],by omega,by omega,h1⟩
  .rw[if_neg h1]at h;cases h
 .rw[if_neg h0]at h
  by_cases h1: -(n:Int)<=i
  .rw[if_pos h1]at h
   have e:(i+n).toNat=j:=Option.some.inj h
   exact⟨by rw[seqIndex_neg aa h1,e],by omega,h1,by omega⟩
  .rw[if_neg h1]at h;cases h
theorem Qia {α:Type}{xs:List α}{i:Int}{v:α}(h:atI xs i=some v):∃j,seqIndex? i xs.length=some j/\xs[j]?=some v/\j<xs.length/\-(xs.length:Int)<=i/\i<xs.length:=by
 unfold atI at h
 cases e:ixN xs.length i with
 |none=>rw[e]at h;cases h
 |some j=>
  rw[e]at h
  obtain⟨h1,h2,h3,h4⟩:=QkO e
  exact⟨j,h1,h,h2,h3,h4⟩
theorem QeN {α:Type}{xs:List α}{j:Nat}{v:α}(h:xs[j]?=some v):atI xs (j:Int)=some v:=by
 have hj:j<xs.length:=(List.getElem?_eq_some_iff.mp h).1
 have e:ixN xs.length (j:Int)=some j:=by
  unfold ixN
  rw[if_pos aa,if_pos aa];simp
 unfold atI;rw[e];exact h
noncomputable def QkP (b:Expr):Prop:=∀o i,subscripted b false o i=operate [o,i] (getItem o i)
noncomputable def IxR (X:Cx)(r:R2):Prop:=
 ∀(value slice:Expr) (pins:List ay) (s:Shared) (σ:St) (H:Hp) (x y:V) (v u:Value) (Q:VK),Inv X pins σ H s->RelV x v->RelV y u->r x y H Q->
  subscripted slice false v u=operate [v,u] (getItem v u)->wpAny ah X.A (subscriptTail value slice v u) (EP X pins σ Q) X.xe s
noncomputable def MtR (X:Cx)(id:String)(r:V->List V->Hp->VK->Prop):Prop:=
 ∀(pins:List ay) (s:Shared) (σ:St) (H:Hp) (x:V) (xs:List V) (v:Value) (us:List Value) (Q:VK),Inv X pins σ H s->RelV x v->Vals xs us->r x xs H Q->
  wpAny ah X.A (call (.builtin id) (v::us)) (EP X pins σ Q) X.xe s
section
variable {X:Cx}{a b:Expr}{ta tb:TE}{pos:Pos}
theorem IxR.or {r r':R2}(h:IxR X r)(h':IxR X r'):IxR X (fun x y H Q=>r x y H Q\/r' x y H Q):=by
 intro value slice pins s σ H x y v u Q I rx ry q hs
 rcases q with q|q
 .exact h value slice pins s σ H x y v u Q I rx ry q hs
 .exact h' value slice pins s σ H x y v u Q I rx ry q hs
theorem Qtv {r:R2}(hr:IxR X r)(ha:PE X a ta)(hb:PE X b tb)(hs:QkP b):PE X (.Subscript a b pos) (tOp r ta tb):=by
 intro pins s σ H Q I h
 exact Subscript_ (binT ha hb I h fun v u s2 x y H2 I2 rx ry q=>hr a b pins s2 σ H2 x y v u Q I2 rx ry q (hs _ _))
noncomputable def rIxL (K:PySem.W.Frag):R2:=fun x y H Q=>∃p xs i v,x= .ref p/\y= .int i/\SqL K H p xs/\atI xs i=some v/\Q v H
noncomputable def rIxT (K:PySem.W.Frag):R2:=fun x y H Q=>∃p xs i v,x= .ref p/\y= .int i/\SqT K H p xs/\atI xs i=some v/\Q v H
noncomputable def rIxS:R2:=fun x y H Q=>∃z i c,x= .str z/\y= .int i/\z.length<=sizeLine/\atI z.cps.toList i=some c/\Q (.str ⟨#[c]⟩) H
theorem ix_list:IxR X (rIxL X.K):=by
 intro value slice pins s σ H x y v u Q I rx ry h hs
 obtain⟨p,xs,i,z,rfl,rfl,hq,he,q⟩:=h
 cases rx
 obtain⟨t,rfl⟩:=ry
 obtain⟨its,r,pl,hz⟩:=I.list hq
 obtain⟨j,h1,h2,h3,h4,h5⟩:=Qia he
 obtain⟨w,ew,rw'⟩:=r.get h2
 have hl:=r.length
 have hn:=QfJ
 have fin:EP X pins σ Q w s:=⟨z,H,I,rw',q⟩
 by_cases h0:0<=i
 .have hj:i.toNat=j:=by
   rw[seqIndex_of h0 h5]at h1
   exact Option.some.inj h1
  exact item_listR pl.isList h0 aa (by rw[hj];simpa using ew) fin hs
 .have hj:(i+(its.toArray.size:Int)).toNat=j:=by
   rw[seqIndex_neg aa h4]at h1
   rw[List.size_toArray,←hl]
   exact Option.some.inj h1
  exact subscriptTail_builtinR (x:=w) pl.isList.typeIs slot_list_getitem.lookup
   (wpAny_getItem_list_neg (Q:=fun r s'=>r=w/\EP X pins σ Q r s') pl.isList aa (by rw[List.size_toArray]<;>omega) aa (by rw[hj];simpa using ew) ⟨rfl,fin⟩) hs
theorem ix_tup:IxR X (rIxT X.K):=by
 intro value slice pins s σ H x y v u Q I rx ry h hs
 obtain⟨p,xs,i,z,rfl,rfl,hq,he,q⟩:=h
 cases rx
 obtain⟨t,rfl⟩:=ry
 obtain⟨its,r,pl,hz⟩:=I.tuple hq
 obtain⟨j,h1,h2,h3,h4,h5⟩:=Qia he
 obtain⟨w,ew,rw'⟩:=r.get h2
 have hl:=r.length
 have hn:=QfJ
 have fin:EP X pins σ Q w s:=⟨z,H,I,rw',q⟩
 exact subscriptTail_builtinR (x:=w) pl.typeIs slot_tuple_getitem.lookup
  (getItem_tuple (j:=j) (Q:=fun r s'=>r=w/\EP X pins σ Q r s') pl aa aa (by rw[List.size_toArray,←hl];exact h1) (by simpa using ew) ⟨rfl,fin⟩) hs
theorem QqZ:IxR X rIxS:=by
 intro value slice pins s σ H x y v u Q I rx ry h hs
 obtain⟨z,i,c,rfl,rfl,hz,he,q⟩:=h
 obtain⟨t,rfl⟩:=rx
 obtain⟨t',rfl⟩:=ry
 obtain⟨j,h1,h2,h3,h4,h5⟩:=Qia he
 have hl:z.cps.toList.length=z.length:=by simp[Str.length]
 rw[hl]at h1 h4 h5
 have hn:=QfJ
 exact tail_any (typeIs_str s z t) slot_str_getitem.lookup (getItem_str (c:=c) (by
  have e1:decide (i< -(2^63:Int))=false:=decide_eq_false aa
  have e2:decide (i≥2^63)=false:=decide_eq_false aa
  rw[e1,e2,Bool.or_false]) (by rw[h1];simpa using h2) ⟨.str ⟨#[c]⟩,H,I.tok _,⟨_,rfl⟩,q⟩) hs
noncomputable def rIx (K:PySem.W.Frag):R2:=fun x y H Q=>rIxL K x y H Q\/rIxT K x y H Q\/rIxS x y H Q
theorem ix_seq:IxR X (rIx X.K):=ix_list.or (ix_tup.or QqZ)
theorem Qj4 (its:List Value)(n j:Nat)(u:Value):Obj.mapSeq (·.setIfInBounds j u) {cls:= .type "list",data:= .seq its.toArray n}={cls:= .type "list",data:= .seq (its.set j u).toArray n}:=by
 simp[Obj.mapSeq]
theorem Inv.lst {pins:List ay}{σ:St}{H:Hp}{s:Shared}{p:Addr}{xs:List V}(I:Inv X pins σ H s)(h:H p=some (.lst xs)):
  ∃(its:List Value) (n:Nat),Vals xs its/\s.heap.get? p=some {cls:= .type "list",data:= .seq its.toArray n}/\xs.length<=sizeLine:=by
 obtain⟨z,its,n,r,e⟩:=I.hok p _ h
 exact⟨its,n,r,e,z⟩
theorem Inv.lstUpd {pins:List ay}{σ:St}{H:Hp}{s:Shared}{p:Addr}{xs ys:List V}{its its':List Value}{n n':Nat}{f:Obj->Obj}(I:Inv X pins σ H s)(h:H p=some (.lst xs))
  (ho:s.heap.get? p=some {cls:= .type "list",data:= .seq its.toArray n}) (hf:f {cls:= .type "list",data:= .seq its.toArray n}={cls:= .type "list",data:= .seq its'.toArray n'}) (r:Vals ys its') (hz:ys.length<=sizeLine) (t:Nat):
  Inv X pins σ (upd H p (.lst ys)) {s with heap:=s.heap.update p f,toks:=t}:=by
 have e:(s.heap.update p f).get? p=some {cls:= .type "list",data:= .seq its'.toArray n'}:=by
  rw[Heap.get?_update_self f ho (by rw[hf]<;>rfl),hf]
 refine I.write (x:=p) (e:=p) (by rw[h];trivial) (.inl rfl) (fun b u hb q=>(Heap.get?_update_other _ _ (Ne.symm hb)).trans q) ⟨_,e⟩ ?_
 exact⟨hz,its',n',r,e⟩
noncomputable def Qoy:V->V->V->Hp->(Hp->Prop)->Prop:=fun o i v H Q=>∃p xs k j,o= .ref p/\i= .int k/\H p=some (.lst xs)/\ixN xs.length k=some j/\Q (upd H p (.lst (xs.set j v)))
theorem Qmu:PSet X Qoy:=by
 intro pins s σ H o i v ov iv u Q I ro ri rv h
 obtain⟨p,xs,k,j,rfl,rfl,hp,hj,q⟩:=h
 cases ro
 obtain⟨t,rfl⟩:=ri
 obtain⟨its,n,r,ho,hz⟩:=I.lst hp
 obtain⟨h1,h2,h3,h4⟩:=QkO hj
 have hl:=r.length
 have hn:=QfJ
 have I':Inv X pins σ (upd H p (.lst (xs.set j v))) {s with heap:=s.heap.update p (Obj.mapSeq (·.setIfInBounds j u))}:=
  I.lstUpd hp ho (Qj4 its n j u) (r.set rv j) (by rw[List.length_set];exact hz) s.toks
 by_cases h0:0<=k
 .have hk:k.toNat=j:=by
   rw[seqIndex_of h0 h4]at h1
   exact Option.some.inj h1
  exact PySem.W.ki_setAt ho h0 aa (by rw[List.size_toArray,←hl];exact h4) (by rw[hk];exact⟨_,I',q⟩)
 .have hk:(k+(its.toArray.size:Int)).toNat=j:=by
   rw[seqIndex_neg aa h3]at h1
   rw[List.size_toArray,←hl]
   exact Option.some.inj h1
  exact PySem.W.ki_setBack ho aa (by rw[List.size_toArray,←hl];exact h3) aa (by rw[hk];exact⟨_,I',q⟩)
theorem Qhj:Qdv X (.builtin "len") (fun xs H Q=>∃p ys,xs= [.ref p]/\(SqL X.K H p ys\/SqT X.K H p ys)/\Q (.int ys.length) H):=by
 intro pins s σ H xs us Q I r h
 obtain⟨p,ys,rfl,hq,q⟩:=h
 obtain⟨u,rfl,rx⟩:=Qdw r
 cases rx
 have hn:=QfJ
 rcases hq with hq|hq
 .obtain⟨its,r',pl,hz⟩:=I.list hq
  have hlen:=r'.length
  exact Calls.call_len_list pl.isList (by simp only[List.size_toArray]<;>omega) ⟨.int ys.length,H,I.tok _,⟨s.toks+1,by rw[List.size_toArray,hlen]⟩,q⟩
 .obtain⟨its,r',pl,hz⟩:=I.tuple hq
  have hlen:=r'.length
  exact len_tuple pl (by simp only[List.size_toArray]<;>omega) ⟨.int ys.length,H,I.tok _,⟨s.toks+1,by rw[List.size_toArray,hlen]⟩,q⟩
theorem Qhk:Qdv X (.type "list") (fun xs H Q=>∃p ys,xs= [.ref p]/\(SqL X.K H p ys\/SqT X.K H p ys)/\∀l,H l=none->Q (.ref l) (upd H l (.lst ys))):=by
 intro pins s σ H xs us Q I r h
 obtain⟨p,ys,rfl,hq,q⟩:=h
 obtain⟨u,rfl,rx⟩:=Qdw r
 cases rx
 have fin:∀(its:List Value),Vals ys its->ys.length<=sizeLine->∀(h':Heap) (c':Nat),(∀b o',s.heap.get? b=some o'->h'.get? b=some o')->
   h'.get? s.heap.objs.size=some {cls:= .type "list",dict:=none,data:= .seq its.toArray c',slots:= #[]}->EP X pins σ Q (.ref s.heap.objs.size) {s with heap:=h'}:=fun its r' hz h' c' kp e=>
  ⟨.ref s.heap.objs.size,_,I.laid (t':=s.toks) kp am (show ObjOk X.prog X.w _ h' _ (.lst ys)from⟨hz,its,c',r',e⟩),rfl,q _ (I.hok.fresh am)⟩
 rcases hq with hq|hq
 .obtain⟨its,r',pl,hz⟩:=I.list hq
  have hlen:=r'.length
  obtain⟨o,ho,hc,n,hd⟩:=pl.isList
  exact call_list_seq p (.inl rfl) ho hc hd (fun h' c' kp e=>fin its r' hz h' c' kp e) (by simp only[List.size_toArray]<;>omega)
 .obtain⟨its,r',pl,hz⟩:=I.tuple hq
  have hlen:=r'.length
  obtain⟨o,ho,hc,n,hd⟩:=pl
  exact call_list_seq p (.inr rfl) ho hc hd (fun h' c' kp e=>fin its r' hz h' c' kp e) (by simp only[List.size_toArray]<;>omega)
noncomputable def tyV (K:PySem.W.Frag)(T:String)(x:V)(H:Hp):Prop:=match x with
 | .str _=>T="str"
 | .int _=>T="int"
 | .ref p=>(T="list"/\∃xs,SqL K H p xs)\/(T="tuple"/\∃o,K.lookup p=some o/\o.cls= .type "tuple"/\o.dict=none)\/
   (T="dict"/\((∃kvs,H p=some (.dK kvs))\/∃kvs,H p=some (.dT kvs)))\/(T="set"/\∃S n,H p=some (.set S n))
 |_=>False
theorem Qq0 {pins:List ay}{σ:St}{H:Hp}{s:Shared}{T:String}{x:V}{v:Value}(I:Inv X pins σ H s)(r:RelV x v)(ty:tyV X.K T x H):
  s.TypeIs v T/\∀a,v= .ref a->∃ob,s.heap.get? a=some ob/\ob.dict=none:=by
 cases x with
 |str z=>
  obtain⟨t,rfl⟩:=r
  cases(show T="str" from ty)
  exact⟨typeIs_str s z t,fun _ e=>nomatch e⟩
 |int i=>
  obtain⟨t,rfl⟩:=r
  cases(show T="int" from ty)
  exact⟨typeIs_int s i t,fun _ e=>nomatch e⟩
 |ref p=>
  cases r
  rcases ty with⟨rfl,xs,hq⟩|⟨rfl,o,hk,hc,hd⟩|⟨rfl,hk⟩|⟨rfl,S,n,hk⟩
  .obtain⟨its,_,pl,_⟩:=I.list hq
   refine⟨pl.isList.typeIs,fun a e=>?_⟩
   cases e
   obtain⟨o,n,e,c,hd,_⟩:=pl
   exact⟨o,e,hd⟩
  .refine⟨⟨o,I.kIn p o hk,hc⟩,fun a e=>?_⟩
   cases e
   exact⟨o,I.kIn _ o hk,hd⟩
  .have z:∃o,s.heap.get? p=some o/\o.ExactDict:=by
    rcases hk with⟨kvs,hk⟩|⟨kvs,hk⟩
    .obtain⟨_,_,_,_,o,_,_,e,ex,_⟩:=I.hok p _ hk
     exact⟨o,e,ex⟩
    .obtain⟨_,_,_,_,o,_,_,e,ex,_⟩:=I.hok p _ hk
     exact⟨o,e,ex⟩
   obtain⟨o,e,ex⟩:=z
   refine⟨⟨o,e,ex.1⟩,fun a e2=>?_⟩
   cases e2
   exact⟨o,e,ex.2.1⟩
  .obtain⟨o,_,_,_,e,ex,_⟩:=I.hok p _ hk
   refine⟨⟨o,e,ex.1⟩,fun a e2=>?_⟩
   cases e2
   exact⟨o,e,ex.2.1⟩
 |_=>exact False.elim ty
noncomputable def tBM (K:PySem.W.Frag)(T:String)(r:V->List V->Hp->VK->Prop)(to:TE)(t:TA):TE:=fun σ H Q=>to σ H fun x H1=>tyV K T x H1/\t σ H1 fun xs H2=>r x xs H2 Q
variable {o e:Expr}{es:List Expr}{to:TE}{t:TA}{name:Str}{apos cpos:Pos}{T id:String}{r:V->List V->Hp->VK->Prop}
theorem Qq1 (pa:PlainAttrs T)(slot:Slot T name id)(hty:typeOf (.builtin id)=pure (.type "method_descriptor"))(hm:MtR X id r)(ho:PE X o to)(ha:PA X aO t)
  (hbase:attributeBase o name X.env (eval o X.env)=eval o X.env:=by rfl)
  (hfew:((backTo cpos (starEach aO X.env)).all (fun x=> !x.1)&&(backToKw cpos (keywordEach [] X.env)).all (fun x=>x.1.isSome)
   &&decide ((e::es).length+([]:List Keyword).length+(if([]:List Keyword).isEmpty then 0 else 1)<30))=true:=by rfl)
  (hline:(apos.endLine==cpos.line)=true:=by rfl) (hs:starEach aO X.env=(false,eval e X.env)::starEach es X.env:=by rfl) (hplain:(backTo cpos aM).any (·.1)=false:=by rfl):
  PE X (.Call (.Attribute o name apos) aO [] cpos) (tBM X.K T r to t):=by
 intro pins s σ H Q I h
 refine wpAny_Call_method_late hbase hfew hline rfl (thn (ho pins s σ H _ I h) fun v s1 ⟨x,H1,I1,r1,ty,q1⟩=>?_)
 obtain⟨h1,h2⟩:=Qq0 I1 r1 ty
 refine⟨T,id,pa,slot,hty,h1,h2,?_⟩
 have hA:=ha cpos pins s1 σ H1 _ I1 q1
 rw[hs]at hA⊢
 refine Calls.callWith_builtin (by show(false||(backTo cpos aM).any (·.1))=false;rw[hplain]<;>rfl) (Calls.evalArgs_plain ?_)
 exact thn hA fun us s2 ⟨vs,H2,I2,r2,q2⟩=>hm pins s2 σ H2 x vs v us Q I2 r1 r2 q2
end
end L2
namespace L2
open PySem PySem.Spec PyProof.Rows
noncomputable def MtM (X:Cx)(id:String)(r:V->List V->Hp->VK->Prop):Prop:=
 ∀(pins:List ay) (s:Shared) (σ:St) (H:Hp) (x:V) (xs:List V) (v:Value) (us:List Value) (Q:VK),Inv X pins σ H s->RelV x v->Vals xs us->r x xs H Q->
  wpAny ah X.A (call (.builtin id) (v::us)) (EP X pins σ Q) X.xe s
theorem Vals.one:∀{x:V} {us:List Value},Vals [x] us->∃u,us= [u]/\RelV x u
 |_,_,h=>Qdw h
theorem Vals.reverse {xs:List V}{us:List Value}(h:Vals xs us):Vals xs.reverse us.reverse:=by
 induction h with
 |nil=>exact .nil
 |cons r t ih=>rw[List.reverse_cons,List.reverse_cons];exact Vals.append ih (.cons r .nil)
theorem Vals.rep {xs:List V}{us:List Value}(h:Vals xs us):∀k:Nat,Vals (List.replicate k xs).flatten (List.replicate k us).flatten
 |0=> .nil
 |k+1=>by
  rw[List.replicate_succ,List.replicate_succ,List.flatten_cons,List.flatten_cons]
  exact Vals.append h (Vals.rep h k)
theorem Qhl (its:List Value):∀(k:Nat) (acc:List Value),
  List.foldl (fun x1 x2=>x1++x2) acc.toArray (List.replicate k its.toArray)=(acc++(List.replicate k its).flatten).toArray
 |0,acc=>by simp
 |k+1,acc=>by
  have e:acc.toArray++its.toArray=(acc++its).toArray:=by simp
  have e2:(acc++its)++(List.replicate k its).flatten=acc++(List.replicate (k+1) its).flatten:=by
   rw[List.replicate_succ,List.flatten_cons,List.append_assoc]
  rw[←e2,←Qhl its k (acc++its),←e,List.replicate_succ,List.foldl_cons]
section
variable {X:Cx}{pins:List (Addr×Obj)}{σ:St}{H:Hp}{s:Shared}{l b:Addr}{xs ys zs:List V}
theorem Inv.lset {its its':List Value}{n:Nat}{f:Array Value->Array Value}{t':Nat}(I:Inv X pins σ H s)(hH:H l=some (.lst xs))
  (e:s.heap.get? l=some {cls:= .type "list",data:= .seq its.toArray n}) (hf:f its.toArray=its'.toArray) (hv:Vals ys its') (hz:ys.length<=sizeLine):
  Inv X pins σ (upd H l (.lst ys)) {s with heap:=s.heap.update l (Obj.mapSeq f),toks:=t'}:=by
 have q:=PySem.IsL.update e f
 rw[hf]at q
 refine I.write (x:=l) (e:=l) (by rw[hH];exact trivial) (.inl rfl) (fun b' u hb hu=>(Heap.get?_update_other s.heap (Obj.mapSeq f) (Ne.symm hb)).trans hu) ⟨_,q⟩ ?_
 exact⟨hz,its',_,hv,q⟩
theorem Inv.lnew {its:List Value}{t':Nat}(I:Inv X pins σ H s)(hv:Vals ys its)(hz:ys.length<=sizeLine):
  Inv X pins σ (upd H s.heap.objs.size (.lst ys)) {s with heap:=s.heap.push {cls:= .type "list",data:= .seq its.toArray},toks:=t'}:=
 I.laid (fun _ _ q=>Heap.get?_push_of_some _ q) am ⟨hz,its,0,hv,Heap.get?_push_size _ rfl⟩
theorem Inv.fresh (I:Inv X pins σ H s):H s.heap.objs.size=none:=I.hok.fresh am
theorem Inv.lstM (I:Inv X pins σ H s)(hH:H l=some (.lst xs)):xs.length<=sizeLine/\∃(its:List Value) (n:Nat),Vals xs its/\xs.length=its.length/\s.heap.get? l=some {cls:= .type "list",data:= .seq its.toArray n}:=by
 obtain⟨z,its,n,r,e⟩:=I.hok l _ hH
 exact⟨z,its,n,r,r.length,e⟩
theorem Qi4 {n:Nat}(h:n<=sizeLine):Builtin.List.listTooLong n=false:=by
 unfold Builtin.List.listTooLong
 exact decide_eq_false aa
end
section
variable {X:Cx}
noncomputable def Qib:V->List V->Hp->VK->Prop:=fun x vs H Q=>∃l xs y,x= .ref l/\vs= [y]/\H l=some (.lst xs)/\xs.length<sizeLine/\Q .non (upd H l (.lst (xs++ [y])))
theorem Qhm:MtM X "list.append" Qib:=by
 intro pins s σ H x vs v us Q I rx rv h
 obtain⟨l,xs,y,rfl,rfl,hH,hz,q⟩:=h
 cases rx
 obtain⟨u,rfl,ru⟩:=rv.one
 obtain⟨z,its,n,r,hl,e⟩:=I.lstM hH
 refine call_meets F.slot_list_append ⟨_,e,rfl⟩ F.entry_list_append (F.args_list_append_2 _ _) (PySem.list_append l its.toArray n u (by rw[List.size_toArray];omega)) ⟨e,?_⟩
 refine⟨.non,_,I.lset (its':=its++ [u]) hH e al (r.append (.cons ru .nil)) ?_,rfl,q⟩
 rw[List.length_append,List.length_singleton]
 omega
noncomputable def QkQ:V->List V->Hp->VK->Prop:=fun x vs H Q=>∃l b xs zs,x= .ref l/\vs= [.ref b]/\H l=some (.lst xs)/\H b=some (.lst zs)/\xs.length+zs.length<=sizeLine/\Q .non (upd H l (.lst (xs++zs)))
theorem QkR:MtM X "list.extend" QkQ:=by
 intro pins s σ H x vs v us Q I rx rv h
 obtain⟨l,b,xs,zs,rfl,rfl,hH,hB,hz,q⟩:=h
 cases rx
 obtain⟨u,rfl,ru⟩:=rv.one
 cases ru
 obtain⟨z,its,n,r,hl,e⟩:=I.lstM hH
 obtain⟨z2,its2,n2,r2,hl2,e2⟩:=I.lstM hB
 have hsz:its.toArray.size+its2.toArray.size<=sizeLine:=by rw[List.size_toArray,List.size_toArray];omega
 have hlong:¬(!its.toArray.isEmpty&&Builtin.List.listTooLong (its.toArray.size+its2.toArray.size))=true:=by
  rw[Qi4 hsz,Bool.and_false]
  exact Bool.false_ne_true
 refine call_meets F.slot_list_extend ⟨_,e,rfl⟩ F.entry_list_extend (F.args_list_extend_2 _ _)
  (AutoSeq1.list_extend_list_list_0 l its.toArray n b its2.toArray n2 hlong (by rw[List.size_toArray];omega) aa) ⟨e,e2,?_⟩
 refine⟨.non,_,I.lset (its':=its++its2) hH e al (r.append r2) ?_,rfl,q⟩
 rw[List.length_append]
 omega
noncomputable def rCat:R2:=fun x y H Q=>∃l b xs zs,x= .ref l/\y= .ref b/\H l=some (.lst xs)/\H b=some (.lst zs)/\xs.length+zs.length<=sizeLine/\∀p,H p=none->Q (.ref p) (upd H p (.lst (xs++zs)))
theorem op_cat:OpR X (binaryOp .Add) rCat:=by
 intro pins s σ H x y v u Q I rx ry h
 obtain⟨l,b,xs,zs,rfl,rfl,hH,hB,hz,q⟩:=h
 cases rx
 cases ry
 obtain⟨z,its,n,r,hl,e⟩:=I.lstM hH
 obtain⟨z2,its2,n2,r2,hl2,e2⟩:=I.lstM hB
 refine PySem.P.add_list e e2 ?_ (by rw[List.size_toArray,List.size_toArray];omega)
 have ea:its.toArray++its2.toArray=(its++its2).toArray:=by simp
 rw[ea]
 exact⟨.ref _,_,I.lnew (t':=s.toks) (r.append r2) (by rw[List.length_append];omega),rfl,q _ I.fresh⟩
noncomputable def rRep:R2:=fun x y H Q=>∃l k xs,x= .ref l/\y= .int k/\H l=some (.lst xs)/\-(2^63)<=k/\k<2^63/\xs.length*k.toNat<=sizeLine/\
 ∀p,H p=none->Q (.ref p) (upd H p (.lst (List.replicate k.toNat xs).flatten))
theorem Qoz {α:Type}(xs:List α)(k:Nat):(List.replicate k xs).flatten.length=k*xs.length:=by
 induction k with
 |zero=>simp
 |succ k ih=>rw[List.replicate_succ,List.flatten_cons,List.length_append,ih,Nat.succ_mul,Nat.add_comm]
theorem Qq2:OpR X (binaryOp .Mult) rRep:=by
 intro pins s σ H x y v u Q I rx ry h
 obtain⟨l,k,xs,rfl,rfl,hH,h1,h2,hz,q⟩:=h
 cases rx
 obtain⟨t,rfl⟩:=ry
 obtain⟨z,its,n,r,hl,e⟩:=I.lstM hH
 have hlen:its.toArray.size*k.toNat<=sizeLine:=by rw[List.size_toArray,←hl];exact hz
 have hcap:¬its.toArray.size*k.toNat>(2^63-1)/8:=by
  have:(sizeLine:Nat)<=(2^63-1)/8:=by decide
  omega
 have hfit:¬(!Builtin.List.listFitsIndex k)=true:=by
  rw[fitsIndex_both h1 h2]
  exact Bool.false_ne_true
 have hlong:¬Builtin.List.listTooLong (its.toArray.size*k.toNat)=true:=by
  rw[Qi4 hlen]
  exact Bool.false_ne_true
 have hnew:List.foldl (fun x1 x2=>x1++x2) #[] (List.replicate (if its.toArray.isEmpty=true then 0 else k.toNat) its.toArray)=(List.replicate k.toNat its).flatten.toArray:=by
  have f0:∀m:Nat,List.foldl (fun x1 x2=>x1++x2) #[] (List.replicate m its.toArray)=(List.replicate m its).flatten.toArray:=fun m=>by
   have:=Qhl its m []
   rw[List.nil_append]at this
   exact this
  rw[f0]
  cases its with
  |nil=>simp
  |cons a r'=>rw[if_neg al]
 refine wpAny_binaryOp_repeat_ref (T:="list") (U:="int") aj ⟨_,e,rfl⟩ (fun s'=>typeIs_int s' k t) noFill_list_mul F.fills_int_mul F.slot_int_rmul repeat_list F.slot_int_index.lookup
  (call_meets F.slot_int_rmul (typeIs_int s k t) F.entry_int_rmul (F.args_int_rmul_2 _ _) (int___rmul___int_list k t l its.toArray n)
   ⟨e,rfl,⟨_,e,rfl⟩,call_meets F.slot_list_mul ⟨_,e,rfl⟩ F.entry_list_mul (F.args_list_mul_2 _ _) (AutoListH.list___mul___list_int_3 l its.toArray n k t hfit hcap hlong) ⟨e,?_⟩⟩)
 rw[hnew]
 exact⟨.ref _,_,I.lnew (t':=s.toks) (r.rep k.toNat) (by rw[Qoz,Nat.mul_comm];exact hz),rfl,q _ I.fresh⟩
end
section
variable {prog:Program}{w:World}{A:Around}{E:Value->Shared->Prop}{s:Shared}
end
section
variable {X:Cx}
end
end L2
namespace L2
open PySem PySem.Spec PyProof.Rows
section
variable {κ:Type} [DecidableEq κ]
noncomputable def valV (kvs:List (κ×V))(k:κ):Option V:=(kvs.find? fun kv=>decide (kv.1=k)).map (·.2)
noncomputable def putK (kvs:List (κ×V))(k:κ)(v:V):List (κ×V):=
 if(kvs.any fun kv=>decide (kv.1=k))=true then kvs.map (fun kv=>if kv.1=k then(kv.1,v)else kv)else kvs++ [(k,v)]
theorem Qmv {k:κ}:valV ([]:List (κ×V)) k=none:=rfl
theorem Qey {p:κ×V}{r:List (κ×V)}{k:κ}(e:p.1=k):valV (p::r) k=some p.2:=by simp[valV,List.find?_cons,e]
theorem Qez {p:κ×V}{r:List (κ×V)}{k:κ}(e:¬p.1=k):valV (p::r) k=valV r k:=by simp[valV,List.find?_cons,e]
theorem Qi5 (k:κ):∀kvs:List (κ×V),(kvs.any fun kv=>decide (kv.1=k))=(valV kvs k).isSome
 | []=>rfl
 |p::r=>by
  rw[List.any_cons]
  by_cases e:p.1=k
  .simp only[Qey e,decide_eq_true e,Bool.true_or,Option.isSome_some]
  .rw[Qez e,decide_eq_false e,Bool.false_or];exact Qi5 k r
theorem QcX (kvs:List (κ×V))(k:κ)(v:V):(putK kvs k v).length<=kvs.length+1:=by
 unfold putK
 split
 .rw[List.length_map];omega
 .rw[List.length_append,List.length_cons,List.length_nil];omega
theorem RelO.isSome_eq {o:Option V}{u:Option Value}(r:RelO o u):o.isSome=u.isSome:=by
 cases o with
 |none=>cases u with
  |none=>rfl
  |some _=>exact(show False from r).elim
 |some _=>cases u with
  |none=>exact(show False from r).elim
  |some _=>rfl
theorem RelO.getD {o:Option V}{u:Option Value}{d:V}{d':Value}(r:RelO o u)(rd:RelV d d'):RelV (o.getD d) (u.getD d'):=by
 cases o with
 |none=>cases u with
  |none=>exact rd
  |some _=>exact(show False from r).elim
 |some _=>cases u with
  |none=>exact(show False from r).elim
  |some _=>exact r
theorem KV.val {kvs:List (κ×V)}{vs:List (κ×Value)}(r:KV kvs vs)(k:κ):RelO (valV kvs k) (valueAt vs k):=by
 unfold KV at r
 induction r with
 |nil=>exact True.intro
 | @cons p q ps qs h t ih=>
  obtain⟨h1,h2⟩:=h
  by_cases e:p.1=k
  .have e':q.1=k:=h1.symm.trans e
   have b:valueAt (q::qs) k=some q.2:=by simp[valueAt,List.find?_cons,e']
   rw[Qey e,b];exact h2
  .have e':¬q.1=k:=fun z=>e (h1.trans z)
   have b:valueAt (q::qs) k=valueAt qs k:=by simp[valueAt,List.find?_cons,e']
   rw[Qez e,b];exact ih
theorem KV.any {kvs:List (κ×V)}{vs:List (κ×Value)}(r:KV kvs vs)(k:κ):(kvs.any fun kv=>decide (kv.1=k))=vs.any fun kv=>decide (kv.1=k):=by
 unfold KV at r
 induction r with
 |nil=>rfl
 |cons h t ih=>rw[List.any_cons,List.any_cons,ih,h.1]
theorem KV.repl {kvs:List (κ×V)}{vs:List (κ×Value)}(r:KV kvs vs)(k:κ){y:V}{u:Value}(ry:RelV y u):
  KV (kvs.map fun kv=>if kv.1=k then(kv.1,y)else kv) (vs.map fun kv=>if kv.1=k then(kv.1,u)else kv):=by
 unfold KV at r⊢
 induction r with
 |nil=>exact .nil
 | @cons p q ps qs h t ih=>
  rw[List.map_cons,List.map_cons]
  refine .cons ?_ ih
  obtain⟨h1,h2⟩:=h
  by_cases e:p.1=k
  .rw[if_pos e,if_pos (h1.symm.trans e)];exact⟨h1,ry⟩
  .rw[if_neg e,if_neg (fun z=>e (h1.trans z))];exact⟨h1,h2⟩
theorem KV.put {kvs:List (κ×V)}{vs:List (κ×Value)}(r:KV kvs vs)(k:κ){y:V}{u:Value}(ry:RelV y u):KV (putK kvs k y) (stored vs k u):=by
 unfold putK stored
 rw[r.any k]
 by_cases e:(vs.any fun kv=>decide (kv.1=k))=true
 .rw[if_pos e,if_pos e];exact r.repl k ry
 .rw[if_neg e,if_neg e];exact Paired.snoc r ⟨rfl,ry⟩
theorem KV.length {kvs:List (κ×V)}{vs:List (κ×Value)}(r:KV kvs vs):kvs.length=vs.length:=Paired.length r
end
theorem Qic {P:Program}{w:World}{k:Key}{u:Value}(r:RelV (kV k) u):(QL P w).is k u=true:=by
 cases k with
 |inl i=>obtain⟨t,e⟩:=(show∃t,u=Value.int i t from r);subst e;exact Qh5 P w i t
 |inr x=>obtain⟨t,e⟩:=(show∃t,u=Value.str x t from r);subst e;exact Qh6 P w x t
theorem Qhn {P:Program}{w:World}:∀{ks:List Key} {us:List Value},Vals (ks.map kV) us->ItemsAre (QL P w) ks us
 | [],_,r=>by rw[List.map_nil]at r;cases r;exact .nil
 |k::ks,_,r=>by
  rw[List.map_cons]at r
  cases r with
  |cons h t=>exact .cons (Qic h) (Qhn t)
noncomputable abbrev KT (H:Hp):List (List Key×V)->List (List Key×Addr×Value)->Prop:=Paired fun p q=>p.1=q.1/\H q.2.1=some (.tup (p.1.map kV))/\RelV p.2 q.2.2
theorem KT.val {H:Hp}{kvs:List (List Key×V)}{xs:List (List Key×Addr×Value)}(r:KT H kvs xs)(k:List Key):RelO (valV kvs k) ((atKey xs k).map (·.2)):=by
 induction r with
 |nil=>exact True.intro
 | @cons p q ps qs h t ih=>
  obtain⟨h1,_,h2⟩:=h
  by_cases e:p.1=k
  .have e':q.1=k:=h1.symm.trans e
   have b:atKey (q::qs) k=some q.2:=by simp[atKey,List.find?_cons,e']
   rw[Qey e,b];exact h2
  .have e':¬q.1=k:=fun z=>e (h1.trans z)
   have b:atKey (q::qs) k=atKey qs k:=by simp[atKey,List.find?_cons,e']
   rw[Qez e,b];exact ih
theorem KT.repl {H:Hp}{kvs:List (List Key×V)}{xs:List (List Key×Addr×Value)}(r:KT H kvs xs)(k:List Key){y:V}{u:Value}(ry:RelV y u):
  KT H (kvs.map fun kv=>if kv.1=k then(kv.1,y)else kv) (xs.map (putAt k u)):=by
 induction r with
 |nil=>exact .nil
 | @cons p q ps qs h t ih=>
  rw[List.map_cons,List.map_cons]
  refine .cons ?_ ih
  obtain⟨h1,h2,h3⟩:=h
  unfold putAt
  by_cases e:p.1=k
  .rw[if_pos e,if_pos (h1.symm.trans e)];exact⟨h1,h2,ry⟩
  .rw[if_neg e,if_neg (fun z=>e (h1.trans z))];exact⟨h1,h2,h3⟩
theorem KT.put {H:Hp}{kvs:List (List Key×V)}{xs:List (List Key×Addr×Value)}(r:KT H kvs xs)(k:List Key){b:Addr}{y:V}{u:Value}(hb:H b=some (.tup (k.map kV)))(ry:RelV y u):
  KT H (putK kvs k y) (storedH xs k b u):=by
 have e:(kvs.any fun kv=>decide (kv.1=k))=(atKey xs k).isSome:=by
  rw[Qi5,(r.val k).isSome_eq,Option.isSome_map]
 unfold putK storedH
 rw[e]
 by_cases q:(atKey xs k).isSome=true
 .rw[if_pos q,if_pos q];exact r.repl k ry
 .rw[if_neg q,if_neg q];exact Paired.snoc r ⟨rfl,hb,ry⟩
theorem KT.keeps {H H':Hp}{kvs:List (List Key×V)}{xs:List (List Key×Addr×Value)}(r:KT H kvs xs)(ht:∀b ys,H b=some (.tup ys)->H' b=some (.tup ys)):KT H' kvs xs:=
 Paired.mapP r fun _ _ z=>⟨z.1,ht _ _ z.2.1,z.2.2⟩
section
variable {P:Program}{w:World}{H:Hp}{h:Heap}{a:Addr}
theorem Qq3 {u:HO}(ok:HOk P w H h)(e:Rd H a u):ObjOk P w H h a u:=e.ok ok
theorem Qid {kvs:List (Key×V)}(ok:HOk P w H h)(e:Rd H a (.dK kvs)):kvs.length<=sizeLine/\(a==sysModules)=false/\∃vs,KV kvs vs/\h.DictOf (QL P w) a vs:=
 show ObjOk P w H h a (.dK kvs)from Qq3 ok e
theorem QoA {kvs:List (Key×V)}(ok:HOk P w H h)(e:H a=some (.dK kvs)):kvs.length<=sizeLine/\(a==sysModules)=false/\∃vs,KV kvs vs/\h.DictOf (QL P w) a vs:=Qid ok (.inl e)
theorem QfK {ks:List Key}(ok:HOk P w H h)(e:H a=some (.tup (ks.map kV))):(tupleKind (QL P w)).is h ks a:=by
 obtain⟨_,its,r,o,h1,h2,n,h3⟩:=(show ObjOk P w H h a (.tup (ks.map kV))from ok a _ e)
 exact⟨o,its.toArray,n,h1,h2,h3,by simpa using Qhn r⟩
theorem Qie {kvs:List (List Key×V)}(ok:HOk P w H h)(e:Rd H a (.dT kvs)):kvs.length<=sizeLine/\(a==sysModules)=false/\
  ∃xs,KT H kvs xs/\h.DictOfH (tupleKind (QL P w)) a xs:=by
 obtain⟨z,y,xs,r,o,es,ep,h1,h2,h3,h4,h5⟩:=(show ObjOk P w H h a (.dT kvs)from Qq3 ok e)
 refine⟨z,y,xs,r,o,es,ep,h1,h2,h3,h4,fun x hx=>?_,h5⟩
 have all:∀{l:List (List Key×V)} {m:List (List Key×Addr×Value)},KT H l m->∀x∈m,(tupleKind (QL P w)).is h x.1 x.2.1:=by
  intro l m q
  induction q with
  |nil=>intro x hx;exact nomatch hx
  | @cons p q ps qs hq t ih=>
   intro x hx
   rcases List.mem_cons.mp hx with e|hx
   .subst e
    exact QfK ok (by rw[←hq.1];exact hq.2.1)
   .exact ih x hx
 exact all r x hx
theorem Qtw {kvs:List (List Key×V)}(ok:HOk P w H h)(e:H a=some (.dT kvs)):kvs.length<=sizeLine/\(a==sysModules)=false/\
  ∃xs,KT H kvs xs/\h.DictOfH (tupleKind (QL P w)) a xs:=Qie ok (.inl e)
end
noncomputable def DGet (H:Hp)(a:Addr)(y:V)(r:Option V):Prop:=
 (∃kvs k,Rd H a (.dK kvs)/\y=kV k/\r=valV kvs k)\/∃kvs k b,Rd H a (.dT kvs)/\y= .ref b/\H b=some (.tup (k.map kV))/\r=valV kvs k
noncomputable def DPut (H:Hp)(a:Addr)(y v:V)(H':Hp):Prop:=
 (∃kvs k,H a=some (.dK kvs)/\y=kV k/\kvs.length<sizeLine/\H'=upd H a (.dK (putK kvs k v)))\/
 ∃kvs k b,H a=some (.dT kvs)/\y= .ref b/\H b=some (.tup (k.map kV))/\kvs.length<sizeLine/\H'=upd H a (.dT (putK kvs k v))
theorem DGet.k {H:Hp}{a:Addr}{kvs:List (Key×V)}{k:Key}(e:H a=some (.dK kvs)):DGet H a (kV k) (valV kvs k):= .inl ⟨kvs,k, .inl e,rfl,rfl⟩
theorem DGet.t {H:Hp}{a b:Addr}{kvs:List (List Key×V)}{k:List Key}(e:H a=some (.dT kvs))(eb:H b=some (.tup (k.map kV))):DGet H a (.ref b) (valV kvs k):= .inr ⟨kvs,k,b, .inl e,rfl,eb,rfl⟩
theorem DPut.k {H:Hp}{a:Addr}{kvs:List (Key×V)}{k:Key}{v:V}(e:H a=some (.dK kvs))(hl:kvs.length<sizeLine):DPut H a (kV k) v (upd H a (.dK (putK kvs k v))):= .inl ⟨kvs,k,e,rfl,hl,rfl⟩
theorem DPut.t {H:Hp}{a b:Addr}{kvs:List (List Key×V)}{k:List Key}{v:V}(e:H a=some (.dT kvs))(eb:H b=some (.tup (k.map kV)))(hl:kvs.length<sizeLine):
  DPut H a (.ref b) v (upd H a (.dT (putK kvs k v))):= .inr ⟨kvs,k,b,e,rfl,eb,hl,rfl⟩
section
variable {X:Cx}{pins:List (Addr×Obj)}{σ:St}{H:Hp}{s:Shared}{a:Addr}{y v:V}{u r:Value}{o:Option V}{A:Around}{E:Value->Shared->Prop}
theorem Inv.big (I:Inv X pins σ H s):sysModules<s.heap.objs.size:=by
 have h:mainGlobals<s.heap.objs.size:=(I.mod.glob.keeps I.bk).lt
 exact Nat.lt_trans aj h
theorem QkS {Q:Value->Shared->Prop}(hu:A.units+1<cLine)(I:Inv X pins σ H s)(g:DGet H a y (some v))(ry:RelV y u)(h:∀w' s',Inv X pins σ H s'->RelV v w'->Q w' s'):
  wpAny ah A (getItem (.ref a) u) Q E s:=by
 rcases g with⟨kvs,k,e,ey,l⟩|⟨kvs,k,b,e,ey,eb,l⟩
 .subst ey
  obtain⟨z,hd,vs,rel,dd⟩:=Qid I.hok e
  obtain⟨w',hw,rw'⟩:=RelO.some_of (v:=v) (o:=valueAt vs k) (by rw[l];exact rel.val k)
  exact wpAny_getItem_of (Qic ry) dd.mapOf hw (h w' _ (I.tok _) rw')
 .subst ey
  cases(show u=Value.ref b from ry)
  obtain⟨z,hd,xs,rel,dd⟩:=Qie I.hok e
  obtain⟨w',hw,rw'⟩:=RelO.some_of (v:=v) (o:=(atKey xs k).map (·.2)) (by rw[l];exact rel.val k)
  obtain⟨p,hp,hp2⟩:=Option.map_eq_some_iff.mp hw
  refine wpAny_getItem_heap (tupleKind_room_in1 hu) (QfK I.hok eb) dd hp ?_
  rw[hp2]
  exact h w' _ (I.tok _) rw'
theorem d_in {Q:Value->Shared->Prop}(hu:A.units+1<cLine)(I:Inv X pins σ H s)(g:DGet H a y o)(ry:RelV y u)(h:∀s',Inv X pins σ H s'->Q (.bool o.isSome) s'):
  wpAny ah A (compareOp .In u (.ref a)) Q E s:=by
 rcases g with⟨kvs,k,e,ey,l⟩|⟨kvs,k,b,e,ey,eb,l⟩
 .subst ey
  obtain⟨z,hd,vs,rel,dd⟩:=Qid I.hok e
  refine wpAny_in_of (Qic ry) hd dd.mapOf ?_
  rw[←(rel.val k).isSome_eq,←l]
  exact h _ (I.tok _)
 .subst ey
  cases(show u=Value.ref b from ry)
  obtain⟨z,hd,xs,rel,dd⟩:=Qie I.hok e
  refine wpAny_in_heap (tupleKind_room_in1 hu) (QfK I.hok eb) hd dd ?_
  have q:=(rel.val k).isSome_eq
  rw[Option.isSome_map]at q
  rw[←q,←l]
  exact h _ (I.tok _)
theorem QoB {Q:Value->Shared->Prop}(hu:A.units+1<cLine)(I:Inv X pins σ H s)(g:DGet H a y o)(ry:RelV y u)(h:∀s',Inv X pins σ H s'->Q (.bool (!o.isSome)) s'):
  wpAny ah A (compareOp .NotIn u (.ref a)) Q E s:=by
 rcases g with⟨kvs,k,e,ey,l⟩|⟨kvs,k,b,e,ey,eb,l⟩
 .subst ey
  obtain⟨z,hd,vs,rel,dd⟩:=Qid I.hok e
  refine wpAny_notIn_of (Qic ry) hd dd.mapOf ?_
  rw[←(rel.val k).isSome_eq,←l]
  exact h _ (I.tok _)
 .subst ey
  cases(show u=Value.ref b from ry)
  obtain⟨z,hd,xs,rel,dd⟩:=Qie I.hok e
  refine wpAny_notIn_heap (tupleKind_room_in1 hu) (QfK I.hok eb) hd dd ?_
  have q:=(rel.val k).isSome_eq
  rw[Option.isSome_map]at q
  rw[←q,←l]
  exact h _ (I.tok _)
theorem Qif {h':Heap}{t':Nat}{ob:HO}(I:Inv X pins σ H s)(mu:Mut (H a))(hs:Heap.SameBut a s.heap h')(he:∃q,h'.get? a=some q)(new:ObjOk X.prog X.w (upd H a ob) h' a ob):
  Inv X pins σ (upd H a ob) {s with heap:=h',toks:=t'}:=
 I.write (x:=a) (e:=a) mu (.inl rfl) (fun b q hb z=>(hs.2 b hb).trans z) he new
theorem QnQ {P:Program}{w:World}{H':Hp}{h':Heap}{kvs:List (Key×V)}{vs:List (Key×Value)}(z:kvs.length<=sizeLine)(hd:(a==sysModules)=false)(rel:KV kvs vs)(dd:h'.DictOf (QL P w) a vs):
  ObjOk P w H' h' a (.dK kvs):=⟨z,hd,vs,rel,dd⟩
theorem QkT {H':Hp}{Q:Unit->Shared->Prop}(hu:A.units+1<cLine)(I:Inv X pins σ H s)(g:DPut H a y v H')(ry:RelV y u)(rv:RelV v r)(h:∀s',Inv X pins σ H' s'->Q () s'):
  wpAny ah A (setItem (.ref a) u r) Q E s:=by
 rcases g with⟨kvs,k,e,ey,l,eH⟩|⟨kvs,k,b,e,ey,eb,l,eH⟩
 .subst ey eH
  obtain⟨z,hd,vs,rel,dd⟩:=QoA I.hok e
  have hz:vs.length<=sizeLine:=by rw[←rel.length];exact z
  have hl:(putK kvs k v).length<=sizeLine:=by have:=QcX kvs k v;omega
  refine wpAny_setItem_pairs (hsz:=hz) (Qic ry) dd fun h' dd' hs=>h _ ?_
  have he:∃q,h'.get? a=some q:=let ⟨q,_,_,hq,_⟩:=dd';⟨q,hq⟩
  exact Qif I (by rw[e];exact True.intro) hs he (QnQ hl hd (rel.put k rv) dd')
 .subst ey eH
  cases(show u=Value.ref b from ry)
  obtain⟨z,hd,xs,rel,dd⟩:=Qtw I.hok e
  have hz:xs.length<=sizeLine:=by rw[←Paired.length rel];exact z
  have hl:(putK kvs k v).length<=sizeLine:=by have:=QcX kvs k v;omega
  refine wpAny_setItem_heap (hsz:=hz) (tupleKind_room_in1 hu) (QfK I.hok eb) dd fun h' dd' hs=>h _ ?_
  obtain⟨q,es,ep,hq,h2,h3,h4,_,h5⟩:=dd'
  refine Qif I (by rw[e];exact True.intro) hs ⟨q,hq⟩ ⟨hl,hd,_,(rel.put k eb rv).keeps fun c ys ec=>?_,q,es,ep,hq,h2,h3,h4,h5⟩
  rw[Ql (Qti ec e (fun z=>nomatch z))]
  exact ec
end
section
variable {X:Cx}{pins:List (Addr×Obj)}{σ:St}{H:Hp}{s:Shared}{a:Addr}{kvs:List (Key×V)}{k:Key}{u:Value}{A:Around}{E:Value->Shared->Prop}
end
theorem Qig {X:Cx}{pins:List ay}{σ:St}{H:Hp}{s:Shared}{a:Addr}{y:V}{o:Option V}(I:Inv X pins σ H s)(g:DGet H a y o):s.TypeIs (.ref a) "dict":=by
 rcases g with⟨kvs,k,e,_,_⟩|⟨kvs,k,b,e,_,_,_⟩
 .obtain⟨_,_,vs,_,dd⟩:=Qid I.hok e
  exact dd.typeIs
 .obtain⟨_,_,xs,_,dd⟩:=Qie I.hok e
  exact dd.typeIs
section
variable {X:Cx}{o i e value:Expr}{pos pos' tpos:Pos}{td ty tv:TE}
end
theorem Qmw {P:Program}{w:World}{H:Hp}(h:Heap)(hb:sysModules<h.objs.size):ObjOk P w H (h.push {cls:= .type "dict",data:= .dict #[]}) h.objs.size (.dK []):=
 ⟨Nat.zero_le _,beq_eq_false_iff_ne.mpr (Ne.symm (Nat.ne_of_lt hb)),[], .nil,Heap.DictOf.new h⟩
theorem Qmx {P:Program}{w:World}{H:Hp}(h:Heap)(hb:sysModules<h.objs.size):ObjOk P w H (h.push {cls:= .type "dict",data:= .dict #[]}) h.objs.size (.dT []):=
 ⟨Nat.zero_le _,beq_eq_false_iff_ne.mpr (Ne.symm (Nat.ne_of_lt hb)),[], .nil,_, #[],0,Heap.get?_push_size _ rfl,⟨rfl,rfl,rfl⟩,rfl,rfl,List.nodup_nil⟩
noncomputable def Qq4:TE:=fun _ H Q=>∀p,H p=none->Q (.ref p) (upd H p (.dT []))
section
variable {X:Cx}{pos:Pos}
theorem pe_dnewT:PE X (.Dict [] [] pos) Qq4:=fun pins s σ H Q I h=>
 wpAny_Dict_empty ⟨.ref s.heap.objs.size,_,I.laid (a:=s.heap.objs.size) (o:= .dT []) (t':=s.toks) (fun _ _ q=>Heap.get?_push_of_some _ q) am (Qmx s.heap I.big),rfl,h _ (I.hok.fresh am)⟩
end
noncomputable def QkU:List (TE×TE)->St->Hp->(List (V×V)->Hp->Prop)->Prop
 | [],_,H,Q=>Q [] H
 |(tk,tv)::r,σ,H,Q=>tk σ H fun x H1=>tv σ H1 fun y H2=>QkU r σ H2 fun ps H3=>Q ((x,y)::ps) H3
noncomputable abbrev VV:List (V×V)->List (Value×Value)->Prop:=Paired fun p q=>RelV p.1 q.1/\RelV p.2 q.2
noncomputable def PPs (X:Cx)(pos:Pos)(keys:List (Option Expr))(values:List Expr)(trs:List (TE×TE)):Prop:=
 ∀(pins:List ay) (s:Shared) (σ:St) (H:Hp) (Q:List (V×V)->Hp->Prop),Inv X pins σ H s->QkU trs σ H Q->
  wpAny ah X.A (evalPairs (pairTrees keys values X.env pos)) (fun vs s'=>∃ps H',Inv X pins σ H' s'/\VV ps vs/\Q ps H') X.xe s
theorem QoC {X:Cx}{pos:Pos}:PPs X pos [] [] []:=fun pins s σ H Q I h=>pairTrees_nil_walk ⟨[],H,I, .nil,h⟩
theorem Qmy {X:Cx}{pos:Pos}{k v:Expr}{ks:List (Option Expr)}{vs:List Expr}{tk tv:TE}{trs:List (TE×TE)}(hk:PE X k tk)(hv:PE X v tv)(hr:PPs X pos ks vs trs):
  PPs X pos (some k::ks) (v::vs) ((tk,tv)::trs):=fun pins s σ H Q I h=>
 pairTrees_cons_walk (thn (hk pins s σ H _ I h) fun u s1 ⟨x,H1,I1,rx,q1⟩=>thn (hv pins s1 σ H1 _ I1 q1) fun w2 s2 ⟨y,H2,I2,ry,q2⟩=>
  thn (hr pins s2 σ H2 _ I2 q2) fun ws s3 ⟨ps,H3,I3,rel,q3⟩=>⟨(x,y)::ps,H3,I3, .cons ⟨rx,ry⟩ rel,q3⟩)
noncomputable def QfL (kvs more:List (Key×V)):List (Key×V):=more.foldl (fun acc kv=>putK acc kv.1 kv.2) kvs
theorem KV.merge:∀{more:List (Key×V)} {rs:List (Key×Value)} {kvs:List (Key×V)} {vs:List (Key×Value)},KV more rs->KV kvs vs->KV (QfL kvs more) (merged vs rs):=by
 intro more rs kvs vs r
 unfold KV at r
 induction r generalizing kvs vs with
 |nil=>intro q;exact q
 | @cons p q ps qs h t ih=>
  intro r0
  have e:KV (putK kvs p.1 p.2) (stored vs q.1 q.2):=by
   have:=r0.put p.1 h.2
   rw[←h.1];exact this
  exact ih e
theorem Qdx:∀(more kvs:List (Key×V)),(QfL kvs more).length<=kvs.length+more.length
 | [],kvs=>by show kvs.length<=kvs.length+0;omega
 |p::r,kvs=>by
  have h1:=Qdx r (putK kvs p.1 p.2)
  have h2:=QcX kvs p.1 p.2
  show(QfL (putK kvs p.1 p.2) r).length<=_
  rw[List.length_cons];omega
theorem QfM {P:Program}{w:World}:∀{kvs:List (Key×V)} {ws:List (Value×Value)},VV (kvs.map fun kv=>(kV kv.1,kv.2)) ws->∃rs,Carries (QL P w) ws rs/\KV kvs rs
 | [],_,r=>by rw[List.map_nil]at r;cases r;exact⟨[],True.intro, .nil⟩
 |p::kvs,_,r=>by
  rw[List.map_cons]at r
  cases r with
  | @cons a b as bs h t=>
   obtain⟨rs,c,q⟩:=QfM (P:=P) (w:=w) t
   obtain⟨b1,b2⟩:=b
   exact⟨(p.1,b2)::rs,⟨Qic h.1,rfl,c⟩, .cons ⟨rfl,h.2⟩ q⟩
noncomputable def Qtx (trs:List (TE×TE)):TE:=fun σ H Q=>∀p,H p=none->QkU trs σ (upd H p (.dK [])) fun ps H2=>H2 p=some (.dK [])/\∃kvs:List (Key×V),ps=kvs.map (fun kv=>(kV kv.1,kv.2))/\kvs.length<=15/\Q (.ref p) (upd H2 p (.dK (QfL [] kvs)))
theorem QoD {X:Cx}{pos:Pos}{keys:List (Option Expr)}{values:List Expr}{trs:List (TE×TE)}(h:PPs X pos keys values trs)(hall:keys.all (·.isSome)=true)(hl:keys.length=values.length)(h0:keys≠ [])
  (h15:keys.length<=15):PE X (.Dict keys values pos) (Qtx trs):=by
 intro pins s σ H Q I q
 have hn:=I.hok.fresh (Nat.le_refl s.heap.objs.size)
 have I1:=I.laid (a:=s.heap.objs.size) (o:= .dK []) (h':=s.heap.push {cls:= .type "dict",data:= .dict #[]}) (t':=s.toks) (fun _ _ q=>Heap.get?_push_of_some _ q) am (Qmw s.heap I.big)
 refine wpAny_Dict_walk (knd:=QL X.prog X.w) hall hl h0 h15 (thn (h pins _ σ _ _ I1 (q _ hn)) fun ws s2 ⟨ps,H2,I2,rel,e,kvs,ep,lk,q2⟩=>?_)
 subst ep
 obtain⟨rs,c,rk⟩:=QfM (P:=X.prog) (w:=X.w) rel
 obtain⟨z,hd,vs0,r0,dd⟩:=QoA I2.hok e
 cases r0
 refine⟨rs,c,dd,fun h' dd' hs=>⟨.ref s.heap.objs.size,_,?_,rfl,q2⟩⟩
 have hz:(QfL [] kvs).length<=sizeLine:=by
  have h1:=Qdx kvs []
  rw[List.length_nil]at h1
  rw[sizeLine_eq];omega
 have he:∃q,h'.get? s.heap.objs.size=some q:=let ⟨q,_,_,hq,_⟩:=dd';⟨q,hq⟩
 exact Qif I2 (by rw[e];exact True.intro) hs he (QnQ hz hd (rk.merge .nil) dd')
structure M2 (X:Cx)(o:Expr)(m:Str)(apos:Pos)(e f:Expr)(cpos:Pos):Prop where
 base:attributeBase o m X.env (eval o X.env)=eval o X.env
 few:((backTo cpos (starEach [e,f] X.env)).all (fun x=> !x.1)&&(backToKw cpos (keywordEach [] X.env)).all (fun x=>x.1.isSome)
  &&decide (([e,f]:List Expr).length+([]:List Keyword).length+(if([]:List Keyword).isEmpty then 0 else 1)<30))=true
 line:(apos.endLine==cpos.line)=true
 trees:backTo cpos (starEach [e,f] X.env)= [(false,eval e X.env),(false,eval f X.env)]
noncomputable def IsD (H:Hp)(a:Addr):Prop:=(∃kvs,Rd H a (.dK kvs))\/∃kvs,Rd H a (.dT kvs)
theorem Qq5 {X:Cx}{pins:List ay}{σ:St}{H:Hp}{s:Shared}{a:Addr}(I:Inv X pins σ H s)(d:IsD H a):
  s.TypeIs (.ref a) "dict"/\(∀b,Value.ref a= .ref b->∃ob,s.heap.get? b=some ob/\ob.dict=none)/\(a==sysModules)=false:=by
 rcases d with⟨kvs,e⟩|⟨kvs,e⟩
 .obtain⟨_,hd,vs,_,dd⟩:=Qid I.hok e
  refine⟨dd.typeIs,fun b q=>?_,hd⟩
  cases q
  obtain⟨ob,_,_,h1,h2,_⟩:=dd
  exact⟨ob,h1,h2.2.1⟩
 .obtain⟨_,hd,xs,_,dd⟩:=Qie I.hok e
  refine⟨dd.typeIs,fun b q=>?_,hd⟩
  cases q
  obtain⟨ob,_,_,h1,h2,_⟩:=dd
  exact⟨ob,h1,h2.2.1⟩
section
variable {X:Cx}{pins:List (Addr×Obj)}{σ:St}{H:Hp}{s:Shared}{a:Addr}{y d:V}{u r:Value}{o:Option V}{A:Around}{E:Value->Shared->Prop}
theorem Qq6 {Q:Value->Shared->Prop}(hu:A.units+1<cLine)(I:Inv X pins σ H s)(g:DGet H a y o)(ry:RelV y u)(rd:RelV d r)(h:∀w' s',Inv X pins σ H s'->RelV (o.getD d) w'->Q w' s'):
  wpAny ah A (call (.builtin "dict.get") [.ref a,u,r]) Q E s:=by
 rcases g with⟨kvs,k,e,ey,l⟩|⟨kvs,k,b,e,ey,eb,l⟩
 .subst ey
  obtain⟨z,hd,vs,rel,dd⟩:=Qid I.hok e
  refine call_meetsIn PySem.F.slot_dict_get dd.typeIs PySem.F.entry_dict_get (PySem.F.args_dict_get_3 _ _ _) (meets_dict_get_default (QL X.prog X.w) a (Qic ry) hd r) ⟨_,dd.mapOf,h _ _ (I.tok _) ?_⟩
  rw[l]
  exact(rel.val k).getD rd
 .subst ey
  cases(show u=Value.ref b from ry)
  obtain⟨z,hd,xs,rel,dd⟩:=Qie I.hok e
  refine call_meetsIn PySem.F.slot_dict_get dd.typeIs PySem.F.entry_dict_get (PySem.F.args_dict_get_3 _ _ _) (meetsH_dict_get_default (tupleKind (QL X.prog X.w)) a b hd r) ⟨tupleKind_room_in1 hu,k,xs,QfK I.hok eb,dd,h _ _ (I.tok _) ?_⟩
  rw[l]
  exact(rel.val k).getD rd
end
noncomputable def QnR (td ty tx:TE):TE:=fun σ H Q=>td σ H fun x H1=>∃a,x= .ref a/\IsD H1 a/\ty σ H1 fun y H2=>tx σ H2 fun z H3=>∃o,DGet H3 a y o/\Q (o.getD z) H3
section
variable {X:Cx}{o e f:Expr}{apos cpos:Pos}{td ty tx:TE}
theorem Qmz (hu:X.A.units+1<cLine)(ho:PE X o td)(he:PE X e ty)(hf:PE X f tx)(m:M2 X o "get" apos e f cpos):PE X (.Call (.Attribute o "get" apos) [e,f] [] cpos) (QnR td ty tx):=by
 intro pins s σ H Q I h
 refine wpAny_Call_method m.base m.few m.line PySem.F.plainAttrs_dict PySem.F.slot_dict_get PySem.F.type_dict_get (thn (ho pins s σ H _ I h) fun u s1 ⟨x,H1,I1,rx,a,ex,d,q1⟩=>?_)
 subst ex
 obtain rfl:u=Value.ref a:=rx
 obtain⟨t1,t2,_⟩:=Qq5 I1 d
 refine⟨t1,t2,?_⟩
 rw[m.trees]
 refine Calls.callWith_builtin rfl (Calls.evalArgs_plain (Calls.spliced_cons (thn (he pins s1 σ H1 _ I1 q1) fun iv s2 ⟨y,H2,I2,ry,q2⟩=>
  Calls.spliced_cons (thn (hf pins s2 σ H2 _ I2 q2) fun fv s3 ⟨z,H3,I3,rz,ov,g,q3⟩=>Calls.spliced_nil ?_))))
 exact Qq6 hu I3 g ry rz fun w' s4 I4 rw'=>⟨_,H3,I4,rw',q3⟩
end
section
variable {X:Cx}{pins:List (Addr×Obj)}{σ:St}{H:Hp}{s:Shared}{a:Addr}{kvs:List (Key×V)}{A:Around}{E:Value->Shared->Prop}
end
section
variable {X:Cx}{pins:List (Addr×Obj)}{σ:St}{H:Hp}{s:Shared}{a:Addr}{y:V}{u:Value}{A:Around}{E:Value->Shared->Prop}
end
end L2
namespace Att
open PySem PySem.W PySem.Calls PyProof.Rows
theorem QeO {P:Params}{h:Heap}:∀(ns:List Int) (vs:List Value),WellAll P h vs (ns.map WData.int)->IntsAre vs ns:=by
 intro ns
 induction ns with
 |nil=>
  intro vs w
  rw[List.map_nil]at w
  cases w
  exact .nil
 |cons n ns ih=>
  intro vs w
  rw[List.map_cons]at w
  cases w with
  |cons a b=>
   cases a
   exact .cons _ _ (ih _ b)
theorem QkV {l:OpenLaw}{n:Nat}(hn:l.most=some n){P:Params}{h:Heap}{args:List WData}{vals:List Value}
  (hpre:l.row.toRowW.claim.pre args=true) (hwl:WellAll P h vals args):
  ∃a vs ns,vals= [Value.ref a]/\args= [WData.list (ns.map WData.int)]/\h.get? a=some {cls:= .type "list",data:= .seq vs.toArray}/\IntsAre vs ns/\ns.length<=n:=by
 have hsh:WShape.hasAll [] args [.list .int]=true:=(pre_splitW hpre).1
 have hc:l.pre.holds [] {args:=args}=true:=(pre_splitW hpre).2
 obtain⟨d,r,rfl,h1,h2⟩:=hasAllW_cons hsh
 obtain rfl:=hasAllW_nil h2
 obtain⟨xs,rfl,h3⟩:=hasW_list h1
 obtain⟨ns,rfl⟩:=items_int h3
 have hlen:ns.length<=n:=by
  unfold OpenLaw.pre at hc
  have h4:(WTm.not (.lt (.lit (.int (n:Int))) (.len (.arg 0)))).holds [] {args:= [.list (ns.map .int)]}=true:=by
   have h4:=(holds_andW hc).1
   rw[hn]at h4
   exact h4
  have h5:=condW_of h4 (w_not (w_lt w_lit (w_len_list (w_arg rfl))))
  rw[List.length_map]at h5
  refine Nat.le_of_not_lt fun q=>?_
  have q':(n:Int)<((ns.length:Nat):Int):=by omega
  first
   |(rw[decide_eq_true q']at h5;exact absurd h5 aj)
   |(simp at h5;omega)
 cases hwl with
 |cons w1 w2=>
  cases w2
  cases w1 with
  |list ho hall=>exact⟨_,_,ns,rfl,rfl,ho,QeO ns _ hall,hlen⟩
theorem QkW (l:OpenLaw)(args:List WData):l.row.toRowW.claim.post args (.bool true) args=true:=
 postW_of (r:=l.row.toRowW) (X:=(true==true))
  (show WShape.has [] (.bool true) .bool=true by first|rfl|decide|simp[WShape.has,WShape.arms,WShape.armsAll])
  (show(WTm.eq .res (.lit (.bool true))).value [] {args:=args,res:=some (.bool true),after:=args}=some (.bool (true==true))from w_eq_bool (w_res rfl) w_lit) rfl
theorem attach_call {l:OpenLaw}{n:Nat}{q:Program}{loose:List Str}{XP:(Str->Option Value)->Heap->Prop}{YP:World->Heap->Prop}{d:DefRec}
  (hn:l.most=some n) (hdf:d.params.defaults= [])
  (call:∀(w:World) (s₀ s₁:Shared) (mg mb:Str->Option Value) (fa:Addr) (o:Obj) (pm cd doc:Value) (a:Addr) (vs:List Value) (ns:List Int),
   Ground q loose [] XP w s₀ mg mb s₁.heap->YP w s₁.heap->
   s₁.heap.get? fa=some o->o.data= .func (docDef d.name d.params d.body d.scope pm cd doc)->s₁.heap.CodeRec cd d.name->mg d.name=some (.ref fa)->
   s₁.heap.get? a=some {cls:= .type "list",data:= .seq vs.toArray}->IntsAre vs ns->ns.length<=n->s₁.gens= #[]->
   codeAny (model l.prog w) callerA (.call (.ref fa) ⟨[.ref a],[]⟩) (fun r s'=>r= .ok (.ret (.bool true))/\OldK s₁.heap s'.heap/\s'.os=s₁.os/\AllBare s'.gens) s₁):
  WalkO q loose XP YP l.row.toRowW d [] (fun f vs=>PySem.call f vs):=by
 intro w s₀ s₁ mg mb G Y fa o pm cd doc dV kV ho hd hcd hD hmg hg args vals as hpre hlay hrd hwl hlo
 obtain rfl:dV= .none:=Dflts.none hD hdf
 obtain rfl:kV= .none:=Dflts.noKw hD
 obtain⟨a,vs,ns,rfl,rfl,hobj,hints,hlen⟩:=QkV hn hpre hwl
 refine enter_call (codeAny_mono (call w s₀ s₁ mg mb fa o pm cd doc a vs ns G Y ho (fd_plain hd) hcd hmg hobj hints hlen hg) fun r s' hq=>?_)
 obtain⟨rfl,h2,h3,h4⟩:=hq
 exact⟨.inl ⟨.bool true, .bool true,[],rfl,fun _=>rfl, .bool true,QkW l _,fun _=>⟨List.Pairwise.nil,fun _ hm=>(nomatch hm)⟩⟩,h2,h3,h4⟩
section
variable {prog:Program}{w:World}{A:Around}{E:Value->Shared->Prop}{s:Shared}{K:Frag}
end
end Att
namespace L2
open PySem PySem.Spec PyProof.Rows
theorem vals_ints:∀{vs:List Value} {ns:List Int},IntsAre vs ns->Vals (ns.map V.int) vs
 |_,_, .nil=> .nil
 |_,_, .cons n t h=> .cons ⟨t,rfl⟩ (vals_ints h)
noncomputable def Only (H:Hp):Prop:=∀b,H b=none\/∃o xs,H b=some (.frz o (.lst xs))
theorem QmA {P:Program}{w:World}{K:PySem.W.Frag}{mg mb:Str->Option Value}{CX:CXT}{k:Nat}{fa a:Addr}{fd:FuncData}{x:Str}{sp:Sp}{s₁:Shared}{vs:List Value}{ns:List Int}
  (KX:K.In s₁.heap) (hns:s₁.heap.Ns mainGlobals mg) (hb:s₁.heap.Ns builtinsNs mb) (hbb:∀x:Str,x≠"__name__"->mb x=bootBuiltins x) (hlim:s₁.heap.NoLimit) (hg:s₁.gens= #[])
  (ha:s₁.heap.get? a=some {cls:= .type "list",data:= .seq vs.toArray}) (hi:IntsAre vs ns) (hl:ns.length<=sizeLine) (hr:Room k callerA)
  (F:∀base:Heap,K.In base->base.Ns mainGlobals mg->FnOk P w K mg base CX k fa fd [x] sp) (hbind:∀(s:Shared) (u:Value),BindsTo s fd ⟨[u],[]⟩ [(x,u)])
  (hsp:∀H:Hp,Only H->SqL K H a (ns.map V.int)->sp [.ref a] H (fun v _=>v= .bl true) fun _ _ _=>False)
  (hCX:∀H e s',CX [] H s₁ (fun _ _ _=>False) e s'->False):
  codeAny (model P w) callerA (.call (.ref fa) ⟨[.ref a],[]⟩) (fun r s'=>r= .ok (.ret (.bool true))/\OldK s₁.heap s'.heap/\s'.os=s₁.os/\AllBare s'.gens) s₁:=by
 have rv:=vals_ints hi
 have lenV:=hi.length
 have core:∀H:Hp,Only H->SqL K H a (ns.map V.int)->HOk P w H s₁.heap->(∀b,H b≠none->b=a)->(H a≠none->K.lookup a=none)->
   codeAny (model P w) callerA (.call (.ref fa) ⟨[.ref a],[]⟩) (fun r s'=>r= .ok (.ret (.bool true))/\OldK s₁.heap s'.heap/\s'.os=s₁.os/\AllBare s'.gens) s₁:=by
  intro H hO hS hok hA hK
  have base_of:∀{b:Addr} {o:Obj},s₁.heap.get? b=some o->H b=none->(hidT s₁.heap H).get? b=some o:=fun e n=>Qmj e n
  have noA:∀{b:Addr} {o:Obj} {es:Array DictEntry} {ep:Nat},s₁.heap.get? b=some o->o.data= .dict es ep->H b=none:=fun{b o es ep} e d=>by
   cases q:H b with
   |none=>rfl
   |some u=>
    have e':b=a:=hA b (by rw[q];simp)
    subst e'
    rw[ha]at e;cases e
    have d':Data.seq vs.toArray _=Data.dict es ep:=d
    cases d'
  have nsK:∀{b:Addr} {m:Str->Option Value},s₁.heap.Ns b m->(hidT s₁.heap H).Ns b m:=fun{b m} ⟨o,es,ep,e,d,r⟩=>⟨o,es,ep,base_of e (noA e d),d,r⟩
  have hKb:K.In (hidT s₁.heap H):=fun b o e=>base_of (KX b o e) (by
   cases q:H b with
   |none=>rfl
   |some u=>
    have e':b=a:=hA b (by rw[q];simp)
    subst e'
    rw[hK (by rw[q];simp)]at e;cases e)
  have hM:Mod K mg (hidT s₁.heap H):=⟨hKb,nsK hns,⟨mb,nsK hb,hbb⟩,let ⟨mc,h1,h2⟩:=hlim;⟨mc,nsK h1,h2⟩⟩
  have e0:Env0 P w K mg (hidT s₁.heap H) callerA [] s₁ H:=⟨rfl,hM,fun b o e=>Qoj e,Nat.le_of_eq (QkB _ _),trivial,fun b hb=>absurd (show b∈([]:List Addr)from hb) al,hok, .of_eq hg⟩
  refine codeAny_mono ((F _ hKb (nsK hns)).run callerA [] s₁ H ⟨[.ref a],[]⟩ [.ref a] [.ref a] _ _ hr e0 (hbind s₁ (.ref a)) (.cons rfl .nil) (hsp H hO hS)) fun r s' h=>?_
  cases r with
  |error e=>exact(hCX H e s' h).elim
  |ok fl=>
   cases fl with
   |next=>exact False.elim h
   |brk=>exact False.elim h
   |cont=>exact False.elim h
   |ret u=>
    obtain⟨v,H',os,bare,un,hok',r',q⟩:=h
    have q':v= .bl true:=q
    subst q'
    obtain rfl:u=Value.bool true:=r'
    refine⟨rfl,OldK.of_keep fun b o e=>?_,os,bare⟩
    cases q:H b with
    |none=>exact un.keep b o e q (by intro z;exact absurd (show b∈([]:List Addr)from z) al) al
    |some u=>
     rcases hO b with z|⟨ob,xs,z⟩
     .rw[q]at z;cases z
     .have z2:=un.frzs b ob _ z
      obtain⟨e1,_⟩:=hok b _ z
      obtain⟨e2,_⟩:=hok' b _ z2
      rw[e]at e1;cases e1
      exact e2
 cases hk:K.lookup a with
 |some o=>
  have e:=KX a o hk
  rw[ha]at e
  cases e
  refine core (fun _=>none) (fun _=> .inl rfl) (.inr ⟨_,vs.toArray,_,hk,rfl,rfl,rfl,by rw[List.size_toArray,lenV];exact hl,by simpa using rv⟩) (fun b u z=>by have z':(none:Option HO)=some u:=z;cases z') (fun b z=>absurd rfl z) fun z=>absurd rfl z
 |none=>
  refine core (fun b=>if b=a then some (.frz {cls:= .type "list",data:= .seq vs.toArray} (.lst (ns.map V.int)))else none) (fun b=>?_) (.inl (.inr ⟨{cls:= .type "list",data:= .seq vs.toArray},if_pos rfl⟩)) (fun b u z=>?_) (fun b z=>?_) fun _=>hk
  .by_cases hb:b=a
   .exact .inr ⟨_,_,if_pos hb⟩
   .exact .inl (if_neg hb)
  .by_cases hb:b=a
   .have z':=(if_pos hb).symm.trans z
    cases z'
    subst hb
    exact⟨ha,by rw[List.length_map];exact hl,vs,_,rv,ha⟩
   .have z':=(if_neg hb).symm.trans z
    cases z'
  .by_cases hb:b=a
   .exact hb
   .exact absurd (if_neg hb) z
end L2
namespace L2
open PySem PySem.Spec PyProof.Rows
theorem QoE {l:PySem.W.OpenLaw}{n k:Nat}{q:Program}{loose:List Str}{XP:(Str->Option Value)->Heap->Prop}{YP:World->Heap->Prop}{d:DefRec}{K:Params->PySem.W.Frag}{CX:World->CXT}{sp:World->Sp}{x:Str}
  (hn:l.most=some n) (hn2:n<=sizeLine) (hdf:d.params.defaults= []) (hr:Room k callerA)
  (hY:∀(w:World) (h:Heap),YP w h->(K w.params).In h)
  (F:∀(w:World) (mg:Str->Option Value) (fa:Addr) (h:Heap),(K w.params).In h->h.Ns mainGlobals mg->mg d.name=some (.ref fa)->
   ∃fd:FuncData,(∀(s:Shared) (u:Value),BindsTo s fd ⟨[u],[]⟩ [(x,u)])/\
    ∀base:Heap,(K w.params).In base->base.Ns mainGlobals mg->FnOk l.prog w (K w.params) mg base (CX w) k fa fd [x] (sp w))
  (hsp:∀(w:World) (H:Hp) (a:Addr) (ns:List Int),ns.length<=n->Only H->SqL (K w.params) H a (ns.map V.int)->sp w [.ref a] H (fun v _=>v= .bl true) fun _ _ _=>False)
  (hCX:∀(w:World) (H:Hp) (s:Shared) (e:Value) (s':Shared),CX w [] H s (fun _ _ _=>False) e s'->False):
  PySem.W.WalkO q loose XP YP l.row.toRowW d [] (fun f vs=>PySem.call f vs):=by
 refine Att.attach_call hn hdf fun w s₀ s₁ mg mb fa o pm cd doc a vs ns G Y ho hd hcd hmg hobj hints hlen hg=>?_
 have KX:=hY w _ Y
 obtain⟨fd,hb,hF⟩:=F w mg fa _ KX G.T.g hmg
 exact QmA KX G.T.g G.T.b G.T.builtins G.T.nolimit hg hobj hints (Nat.le_trans hlen hn2) hr hF hb (fun H hO hS=>hsp w H a ns hlen hO hS) fun H e s'=>hCX w H s₁ e s'
theorem QmB {l:PySem.W.OpenLaw}{n k:Nat}{q:Program}{loose:List Str}{XP:(Str->Option Value)->Heap->Prop}{YP:World->Heap->Prop}{d:DefRec}{K:Params->PySem.W.Frag}{CX:CXT}{sp:PySem.W.Frag->Sp}{x:Str}
  (hn:l.most=some n) (hn2:n<=sizeLine) (hdf:d.params.defaults= []) (hr:Room k callerA)
  (hY:∀(w:World) (h:Heap),YP w h->(K w.params).In h)
  (F:∀(w:World) (mg:Str->Option Value) (fa:Addr) (h:Heap),(K w.params).In h->h.Ns mainGlobals mg->mg d.name=some (.ref fa)->
   ∃fd:FuncData,(∀(s:Shared) (u:Value),BindsTo s fd ⟨[u],[]⟩ [(x,u)])/\
    ∀base:Heap,(K w.params).In base->base.Ns mainGlobals mg->FnOk l.prog w (K w.params) mg base CX k fa fd [x] (sp (K w.params)))
  (hsp:∀(K:PySem.W.Frag) (H:Hp) (a:Addr) (ns:List Int),ns.length<=n->Only H->SqL K H a (ns.map V.int)->sp K [.ref a] H (fun v _=>v= .bl true) fun _ _ _=>False)
  (hCX:∀(H:Hp) (s:Shared) (e:Value) (s':Shared),CX [] H s (fun _ _ _=>False) e s'->False):
  PySem.W.WalkO q loose XP YP l.row.toRowW d [] (fun f vs=>PySem.call f vs):=
 QoE (K:=K) (CX:=fun _=>CX) (sp:=fun w=>sp (K w.params)) hn hn2 hdf hr hY F (fun w H a ns h1 h2 h3=>hsp (K w.params) H a ns h1 h2 h3) fun _ H s e s'=>hCX H s e s'
end L2
namespace L2
open PySem PySem.Spec PyProof.Rows
noncomputable def QdS (s:Stmt)(j:Nat):Stmt:=match s with
 | .ClassDef _ _ _ body _ _ _ _ _ _ _=>body.getD j (.Pass ⟨0,0,0,0⟩)
 |_=> .Pass ⟨0,0,0,0⟩
noncomputable def Qaz (s:Stmt):Arguments:=match s with
 | .FunctionDef _ a _ _ _ _ _ _ _ _=>a
 |_=>{posonlyargs:= [],args:= [],vararg:=none,kwonlyargs:= [],kw_defaults:= [],kwarg:=none,defaults:= []}
noncomputable def QX (s:Stmt):List Stmt:=match s with
 | .FunctionDef _ _ b _ _ _ _ _ _ _=>b
 |_=> []
noncomputable def Qg (s:Stmt):Scope:=match s with
 | .FunctionDef _ _ _ _ _ _ sc _ _ _=>sc
 |_=>{kind:= .function,names:= [],isGenerator:=false,isCoroutine:=false}
noncomputable abbrev CX0:CXT:=fun _ _ _ _ _ _=>False
noncomputable abbrev E0:XK:=fun _ _ _=>False
theorem QoF {X:Cx}:Qhd CX0 X E0:=fun _ _ _ _ _ _ _ h=>h.elim
structure Fun (K:PySem.W.Frag)(x qual:Str)(st:Stmt)(f:Addr)(fd:FuncData):Prop where
 ex:∃(oc:Value) (od:Option Addr) (kV doc pm:Value) (an:Option Addr) (cdv ct:Value) (osl:Array (Option Value)),
  fd=PySem.W.fnOf x qual (Qaz st) (QX st) (Qg st) .none kV doc pm an cdv ct/\K.lookup f=some ⟨oc,od, .func fd,osl⟩/\PySem.W.codeIn K cdv qual=true
 kp:PySem.W.keepIn K (.ref f)=true
section
variable {P:Program}{w:World}{K:PySem.W.Frag}{mg:Str->Option Value}{base:Heap}
theorem Fun.ok {x qual:Str}{st:Stmt}{f:Addr}{fd:FuncData}{N ps:List Str}{k:Nat}{sp:Sp}(F:Fun K x qual st f fd)(S:FnScope N ps (Qg st))(len:∀vs H Q E,sp vs H Q E->vs.length=ps.length)
  (hbody:∀(cdv:Value) (A:Around) (outer:List Env) (s:Shared) (H:Hp) (vs:List V) (Q:VK) (E:XK),Room k (A.deeper (envOfC qual (Qg st) s.heap.objs.size f cdv))->sp vs H Q E->
   ∃t,PSs (cxOf CX0 P w K mg base N qual (Qg st) f cdv A outer s H E).nox (QX st) t/\t {nx:=fun _ H'=>Q .non H',rt:=Q} (start N vs) H):FnOk P w K mg base CX0 (k+1) f fd ps sp:=by
 obtain⟨oc,od,kV,doc,pm,an,cdv,ct,osl,rfl,lk,hcd⟩:=F.ex
 refine QqY lk hcd S len fun A outer s H vs Q E hr hsp=>?_
 obtain⟨t,h,q⟩:=hbody cdv A outer s H vs Q E hr hsp
 exact⟨t,h.nox,q⟩
theorem Fun.binds {x qual:Str}{st:Stmt}{f:Addr}{fd:FuncData}{ps:List Str}(F:Fun K x qual st f fd)
  (h:∀(kV doc pm:Value) (an:Option Addr) (cdv ct:Value) (us:List Value),us.length=ps.length->bindArgs (PySem.W.fnOf x qual (Qaz st) (QX st) (Qg st) .none kV doc pm an cdv ct) ⟨us,[]⟩=pure (ps.zip us)):Binds K fd ps []:=by
 obtain⟨oc,od,kV,doc,pm,an,cdv,ct,osl,rfl,lk,hcd⟩:=F.ex
 exact .all (h kV doc pm an cdv ct)
theorem Qq7 {x qual:Str}{st:Stmt}{f:Addr}{oc:Value}{od an:Option Addr}{osl:Array (Option Value)}{kV doc pm cdv ct:Value}(l:K.lookup f=some ⟨oc,od, .func (PySem.W.fnOf x qual (Qaz st) (QX st) (Qg st) .none kV doc pm an cdv ct),osl⟩)
  (c:PySem.W.codeIn K cdv qual=true) (k:PySem.W.keepIn K (.ref f)=true):Fun K x qual st f (PySem.W.fnOf x qual (Qaz st) (QX st) (Qg st) .none kV doc pm an cdv ct):=⟨⟨oc,od,kV,doc,pm,an,cdv,ct,osl,rfl,l,c⟩,k⟩
end
section
variable {X:Cx}
end
noncomputable def Same (H H':Hp):Prop:=∀b o,H b=some o->H' b=some o
theorem Same.refl (H:Hp):Same H H:=fun _ _ h=>h
theorem Same.trans {H H1 H2:Hp}(a:Same H H1)(b:Same H1 H2):Same H H2:=fun c o h=>b c o (a c o h)
theorem Same.free {H H':Hp}(e:Same H H'){l:Addr}(h:H' l=Option.none):H l=Option.none:=by
 cases q:H l with
 |none=>rfl
 |some o=>
  rw[e l o q]at h
  cases h
theorem Same.seq {K:PySem.W.Frag}{H H':Hp}{a:Addr}{xs:List V}(e:Same H H')(h:SqL K H a xs):SqL K H' a xs:=by
 rcases h with(h|⟨o,h⟩)|h
 .exact .inl (.inl (e _ _ h))
 .exact .inl (.inr ⟨o,e _ _ h⟩)
 .exact .inr h
section
variable {κ:Type} [DecidableEq κ]
end
end L2
namespace L2
open PySem PySem.Spec PyProof.Rows
section
variable {X:Cx}
theorem PE.mono {e:Expr}{t t':TE}(h:PE X e t)(i:∀σ H Q,t' σ H Q->t σ H Q):PE X e t':=fun pins s σ H Q I q=>h pins s σ H Q I (i σ H Q q)
theorem PT.mono {e:Expr}{t t':TT}(h:PT X e t)(i:∀σ H Q,t' σ H Q->t σ H Q):PT X e t':=fun pins s σ H Q I q=>h pins s σ H Q I (i σ H Q q)
theorem PW.mono {e:Expr}{t t':TT}(h:PW X e t)(i:∀σ H Q,t' σ H Q->t σ H Q):PW X e t':=fun wh pins s σ H Q I q=>h wh pins s σ H Q I (i σ H Q q)
theorem PA.mono {e:List Expr}{t t':TA}(h:PA X e t)(i:∀σ H Q,t' σ H Q->t σ H Q):PA X e t':=fun pos pins s σ H Q I q=>h pos pins s σ H Q I (i σ H Q q)
theorem PS.mono {e:Stmt}{t t':TS}(h:PS X e t)(i:∀D σ H,t' D σ H->t D σ H):PS X e t':=fun pins s σ H D I q=>h pins s σ H D I (i D σ H q)
theorem PSs.mono {e:List Stmt}{t t':TS}(h:PSs X e t)(i:∀D σ H,t' D σ H->t D σ H):PSs X e t':=fun pins s σ H D I q=>h pins s σ H D I (i D σ H q)
theorem PG.mono {e:Expr}{t t':TG}(h:PG X e t)(i:∀v σ H Q,t' v σ H Q->t v σ H Q):PG X e t':=fun pins s σ H v u Q I r q=>h pins s σ H v u Q I r (i v σ H Q q)
theorem PGs.mono {e:List Expr}{t t':TGs}(h:PGs X e t)(i:∀v σ H Q,t' v σ H Q->t v σ H Q):PGs X e t':=fun pins s σ H v u Q I r q=>h pins s σ H v u Q I r (i v σ H Q q)
theorem PI.mono {g e:Expr}{t t':TI}(h:PI X g e t)(i:∀σ H Q,t' σ H Q->t σ H Q):PI X g e t':=fun pins s σ H Q I q=>h pins s σ H Q I (i σ H Q q)
end
theorem QB:1000000<=sizeLine:=by decide
end L2
namespace L3
open PySem L2
inductive D where
 |non|bl (b:Bool)|int (i:Int)|str (x:Str)
 |tup (xs:List D)|lst (xs:List D)
 |dK (ks:List Key) (xs:List D)|dT (ks:List (List Key)) (xs:List D)
 |obj (c:Str) (ns:List Str) (xs:List D)
 |scr (xs:List D)
 |ty (n:String)
mutual
noncomputable def Rep (K:PySem.W.Frag)(F:Hp):D->V->Prop
 | .non,v=>v= .non
 | .bl b,v=>v= .bl b
 | .int i,v=>v= .int i
 | .str x,v=>v= .str x
 | .tup xs,v=>∃a vs,v= .ref a/\F a=some (.tup vs)/\Reps K F xs vs
 | .lst xs,v=>∃a vs,v= .ref a/\F a=some (.lst vs)/\Reps K F xs vs
 | .dK ks xs,v=>∃a vs,v= .ref a/\F a=some (.dK (ks.zip vs))/\ks.length=vs.length/\Reps K F xs vs
 | .dT ks xs,v=>∃a vs,v= .ref a/\F a=some (.dT (ks.zip vs))/\ks.length=vs.length/\Reps K F xs vs
 | .obj c ns xs,v=>∃a C dx vs,v= .ref a/\PySem.W.nsIn K PySem.mainGlobals c=some (some (.ref C))/\F a=some (.ins C dx (ns.zip vs))/\ns.length=vs.length/\Reps K F xs vs
 | .scr xs,v=>∃a vs,v= .ref a/\SqL K F a vs/\Reps K F xs vs
 | .ty n,v=>v= .ty n
noncomputable def Reps (K:PySem.W.Frag)(F:Hp):List D->List V->Prop
 | [],vs=>vs= []
 |d::ds,vs=>∃v r,vs=v::r/\Rep K F d v/\Reps K F ds r
end
section
variable {K:PySem.W.Frag}{F F' H H' H0 F0:Hp}
mutual
theorem Rep.mono (e:Same F F'):∀{d:D} {v:V},Rep K F d v->Rep K F' d v
 | .non,_,h=>h
 | .bl _,_,h=>h
 | .int _,_,h=>h
 | .str _,_,h=>h
 | .ty _,_,h=>by rw[Rep]at h⊢;exact h
 | .tup _,_,h=>by
  rw[Rep]at h⊢
  obtain⟨a,vs,h1,h2,h3⟩:=h
  exact⟨a,vs,h1,e _ _ h2,Reps.mono e h3⟩
 | .lst _,_,h=>by
  rw[Rep]at h⊢
  obtain⟨a,vs,h1,h2,h3⟩:=h
  exact⟨a,vs,h1,e _ _ h2,Reps.mono e h3⟩
 | .dK _ _,_,h=>by
  rw[Rep]at h⊢
  obtain⟨a,vs,h1,h2,h3,h4⟩:=h
  exact⟨a,vs,h1,e _ _ h2,h3,Reps.mono e h4⟩
 | .dT _ _,_,h=>by
  rw[Rep]at h⊢
  obtain⟨a,vs,h1,h2,h3,h4⟩:=h
  exact⟨a,vs,h1,e _ _ h2,h3,Reps.mono e h4⟩
 | .obj _ _ _,_,h=>by
  rw[Rep]at h⊢
  obtain⟨a,C,dx,vs,h1,hc,h2,h3,h4⟩:=h
  exact⟨a,C,dx,vs,h1,hc,e _ _ h2,h3,Reps.mono e h4⟩
 | .scr _,_,h=>by
  rw[Rep]at h⊢
  obtain⟨a,vs,h1,h2,h3⟩:=h
  exact⟨a,vs,h1,Same.seq e h2,Reps.mono e h3⟩
theorem Reps.mono (e:Same F F'):∀{ds:List D} {vs:List V},Reps K F ds vs->Reps K F' ds vs
 | [],_,h=>by rw[Reps]at h⊢;exact h
 |_::_,_,h=>by
  rw[Reps]at h⊢
  obtain⟨v,r,h1,h2,h3⟩:=h
  exact⟨v,r,h1,Rep.mono e h2,Reps.mono e h3⟩
end
theorem Reps.nil:Reps K F [] []:=by rw[Reps]
theorem Reps.cons {d:D}{ds:List D}{v:V}{vs:List V}(h:Rep K F d v)(t:Reps K F ds vs):Reps K F (d::ds) (v::vs):=by rw[Reps];exact⟨v,vs,rfl,h,t⟩
theorem Reps.uncons {d:D}{ds:List D}{vs:List V}(h:Reps K F (d::ds) vs):∃v r,vs=v::r/\Rep K F d v/\Reps K F ds r:=by rw[Reps]at h;exact h
theorem Reps.unnil {vs:List V}(h:Reps K F [] vs):vs= []:=by rw[Reps]at h;exact h
theorem Reps.length:∀{ds:List D} {vs:List V},Reps K F ds vs->ds.length=vs.length
 | [],_,h=>by rw[h.unnil];rfl
 |_::_,_,h=>by obtain⟨v,r,rfl,_,t⟩:=h.uncons;simp[Reps.length t]
theorem Reps.get:∀{ds:List D} {vs:List V} {i:Nat} {d:D},Reps K F ds vs->ds[i]?=some d->∃v,vs[i]?=some v/\Rep K F d v
 | [],_,_,_,_,e=>by simp at e
 |_::_,_,0,_,h,e=>by
  obtain⟨v,r,rfl,h1,_⟩:=h.uncons
  simp at e;subst e;exact⟨v,rfl,h1⟩
 |_::_,_,i+1,_,h,e=>by
  obtain⟨v,r,rfl,_,t⟩:=h.uncons
  obtain⟨u,e1,h1⟩:=Reps.get (i:=i) t (by simpa using e)
  exact⟨u,by simpa using e1,h1⟩
theorem Reps.app:∀{ds es:List D} {vs us:List V},Reps K F ds vs->Reps K F es us->Reps K F (ds++es) (vs++us)
 | [],_,_,_,h,g=>by rw[h.unnil];exact g
 |_::_,_,_,_,h,g=>by obtain⟨v,r,rfl,h1,t⟩:=h.uncons;exact .cons h1 (Reps.app t g)
theorem Reps.set {d:D}{v:V}(r:Rep K F d v):∀{ds:List D} {vs:List V} (i:Nat),Reps K F ds vs->Reps K F (ds.set i d) (vs.set i v)
 | [],_,_,h=>by rw[h.unnil];exact .nil
 |_::_,_,0,h=>by obtain⟨u,t,rfl,_,h2⟩:=h.uncons;exact .cons r h2
 |_::_,_,i+1,h=>by obtain⟨u,t,rfl,h1,h2⟩:=h.uncons;exact .cons h1 (Reps.set r i h2)
theorem Reps.rep {ds:List D}{vs:List V}(h:Reps K F ds vs):∀k:Nat,Reps K F (List.replicate k ds).flatten (List.replicate k vs).flatten
 |0=> .nil
 |k+1=>by rw[List.replicate_succ,List.replicate_succ,List.flatten_cons,List.flatten_cons];exact .app h (Reps.rep h k)
noncomputable def Cell (K:PySem.W.Frag)(F H:Hp)(a:Addr):D->Prop
 | .lst xs=>∃vs,H a=some (.lst vs)/\Reps K F xs vs
 | .dK ks xs=>∃vs,H a=some (.dK (ks.zip vs))/\ks.length=vs.length/\Reps K F xs vs
 | .dT ks xs=>∃vs,H a=some (.dT (ks.zip vs))/\ks.length=vs.length/\Reps K F xs vs
 | .obj c ns xs=>∃C dx vs,PySem.W.nsIn K PySem.mainGlobals c=some (some (.ref C))/\H a=some (.ins C dx (ns.zip vs))/\ns.length=vs.length/\Reps K F xs vs
 |_=>False
theorem Cell.some {a:Addr}{d:D}(h:Cell K F H a d):∃o,H a=some o:=by
 cases d<;>first|exact h.elim|(obtain⟨vs,h,_⟩:=h;exact⟨_,h⟩)|(obtain⟨C,dx,vs,_,h,_⟩:=h;exact⟨_,h⟩)
theorem Cell.mono {a:Addr}{d:D}(h:Cell K F H a d)(e:Same F F')(k:∀o,H a= .some o->H' a= .some o):Cell K F' H' a d:=by
 cases d with
 |lst xs=>obtain⟨vs,h1,h2⟩:=h;exact⟨vs,k _ h1,h2.mono e⟩
 |dK ks xs=>obtain⟨vs,h1,h2,h3⟩:=h;exact⟨vs,k _ h1,h2,h3.mono e⟩
 |dT ks xs=>obtain⟨vs,h1,h2,h3⟩:=h;exact⟨vs,k _ h1,h2,h3.mono e⟩
 |obj c ns xs=>obtain⟨C,dx,vs,hc,h1,h2,h3⟩:=h;exact⟨C,dx,vs,hc,k _ h1,h2,h3.mono e⟩
 |_=>exact h.elim
theorem Cell.rep {a:Addr}{d:D}(h:Cell K F H a d)(e:Same F F')(k:∀o,H a= .some o->F' a= .some o):Rep K F' d (.ref a):=by
 cases d with
 |lst xs=>obtain⟨vs,h1,h2⟩:=h;rw[Rep];exact⟨a,vs,rfl,k _ h1,h2.mono e⟩
 |dK ks xs=>obtain⟨vs,h1,h2,h3⟩:=h;rw[Rep];exact⟨a,vs,rfl,k _ h1,h2,h3.mono e⟩
 |dT ks xs=>obtain⟨vs,h1,h2,h3⟩:=h;rw[Rep];exact⟨a,vs,rfl,k _ h1,h2,h3.mono e⟩
 |obj c ns xs=>obtain⟨C,dx,vs,hc,h1,h2,h3⟩:=h;rw[Rep];exact⟨a,C,dx,vs,rfl,hc,k _ h1,h2,h3.mono e⟩
 |_=>exact h.elim
noncomputable def RdV (K:PySem.W.Frag)(F H:Hp)(d:D)(v:V):Prop:=Rep K F d v\/∃a,v= .ref a/\Cell K F H a d
structure Step (F H F' H':Hp):Prop where
 up:Same F F'
 sub:Same F' H'
 keep:Same H H'
 new:∀a o,F' a=some o->F a=some o\/H a=none
theorem Step.refl (h:Same F H):Step F H F H:=⟨.refl _,h, .refl _,fun _ _ e=> .inl e⟩
theorem Step.trans {F1 H1 F2 H2:Hp}(a:Step F H F1 H1)(b:Step F1 H1 F2 H2):Step F H F2 H2:=
 ⟨a.up.trans b.up,b.sub,a.keep.trans b.keep,fun c o e=>by
  rcases b.new c o e with e1|e1
  .exact a.new c o e1
  .exact .inr (a.keep.free e1)⟩
theorem Step.unfz {a:Addr}{o:HO}(s:Step F H F' H')(h:H a=some o)(n:F a=none):F' a=none:=by
 cases q:F' a with
 |none=>rfl
 |some u=>
  rcases s.new a u q with e|e
  .rw[n]at e;cases e
  .rw[h]at e;cases e
inductive Kd where|fz|ow|bo
noncomputable def Val (K:PySem.W.Frag)(F' H H':Hp):Kd->D->V->Prop
 | .fz,d,v=>Rep K F' d v
 | .ow,d,v=>∃a,v= .ref a/\H a=none/\F' a=none/\Cell K F' H' a d
 | .bo,d,v=>∃a,v= .ref a/\F' a=none/\Cell K F' H' a d
theorem Val.rd {k:Kd}{d:D}{v:V}(h:Val K F' H H' k d v):RdV K F' H' d v:=by
 cases k with
 |fz=>exact .inl h
 |ow=>obtain⟨a,h1,_,_,h2⟩:=h;exact .inr ⟨a,h1,h2⟩
 |bo=>obtain⟨a,h1,_,h2⟩:=h;exact .inr ⟨a,h1,h2⟩
theorem Val.later {k:Kd}{d:D}{v:V}{F1 H1:Hp}(h:Val K F' H H' k d v)(s:Step F' H' F1 H1):Val K F1 H H1 k d v:=by
 cases k with
 |fz=>exact Rep.mono s.up h
 |ow=>obtain⟨a,h1,h2,h3,h4⟩:=h;obtain⟨o,ho⟩:=h4.some;exact⟨a,h1,h2,s.unfz ho h3,h4.mono s.up fun o e=>s.keep _ _ e⟩
 |bo=>obtain⟨a,h1,h3,h4⟩:=h;obtain⟨o,ho⟩:=h4.some;exact⟨a,h1,s.unfz ho h3,h4.mono s.up fun o e=>s.keep _ _ e⟩
theorem Val.early {k:Kd}{d:D}{v:V}{H1:Hp}(h:Val K F' H1 H' k d v)(e:Same H H1):Val K F' H H' k d v:=by
 cases k with
 |fz=>exact h
 |ow=>obtain⟨a,h1,h2,h3,h4⟩:=h;exact⟨a,h1,e.free h2,h3,h4⟩
 |bo=>exact h
theorem RdV.later {d:D}{v:V}{F1 H1:Hp}(h:RdV K F H d v)(s:Step F H F1 H1):RdV K F1 H1 d v:=by
 rcases h with h|⟨a,h1,h2⟩
 .exact .inl (h.mono s.up)
 .exact .inr ⟨a,h1,h2.mono s.up fun o e=>s.keep _ _ e⟩
theorem RdV.rep {d:D}{v:V}(h:RdV K F H d v)(s:Same F H):Rep K H d v:=by
 rcases h with h|⟨a,rfl,h2⟩
 .exact h.mono s
 .exact h2.rep s fun o e=>e
theorem RdV.non {v:V}(h:RdV K F H .non v):v= .non:=by
 rcases h with h|⟨a,_,h⟩
 .rw[Rep]at h;exact h
 .exact h.elim
theorem RdV.bl {b:Bool}{v:V}(h:RdV K F H (.bl b) v):v= .bl b:=by
 rcases h with h|⟨a,_,h⟩
 .rw[Rep]at h;exact h
 .exact h.elim
theorem RdV.int {i:Int}{v:V}(h:RdV K F H (.int i) v):v= .int i:=by
 rcases h with h|⟨a,_,h⟩
 .rw[Rep]at h;exact h
 .exact h.elim
theorem RdV.str {x:Str}{v:V}(h:RdV K F H (.str x) v):v= .str x:=by
 rcases h with h|⟨a,_,h⟩
 .rw[Rep]at h;exact h
 .exact h.elim
theorem RdV.ty {n:String}{v:V}(h:RdV K F H (.ty n) v):v= .ty n:=by
 rcases h with h|⟨a,_,h⟩
 .rw[Rep]at h;exact h
 .exact h.elim
theorem RdV.tup {xs:List D}{v:V}(s:Same F H)(h:RdV K F H (.tup xs) v):∃a vs,v= .ref a/\H a=some (.tup vs)/\Reps K F xs vs:=by
 rcases h with h|⟨a,_,h⟩
 .rw[Rep]at h
  obtain⟨a,vs,h1,h2,h3⟩:=h
  exact⟨a,vs,h1,s _ _ h2,h3⟩
 .exact h.elim
theorem RdV.lst {xs:List D}{v:V}(s:Same F H)(h:RdV K F H (.lst xs) v):∃a vs,v= .ref a/\H a=some (.lst vs)/\Reps K F xs vs:=by
 rcases h with h|⟨a,h1,h⟩
 .rw[Rep]at h
  obtain⟨a,vs,h1,h2,h3⟩:=h
  exact⟨a,vs,h1,s _ _ h2,h3⟩
 .obtain⟨vs,h2,h3⟩:=h
  exact⟨a,vs,h1,h2,h3⟩
theorem RdV.scr {xs:List D}{v:V}(s:Same F H)(h:RdV K F H (.scr xs) v):∃a vs,v= .ref a/\SqL K H a vs/\Reps K F xs vs:=by
 rcases h with h|⟨a,_,h⟩
 .rw[Rep]at h
  obtain⟨a,vs,h1,h2,h3⟩:=h
  exact⟨a,vs,h1,Same.seq s h2,h3⟩
 .exact h.elim
structure Post (K:PySem.W.Frag)(F H:Hp)(k:Kd)(d:D)(F':Hp)(v:V)(H':Hp):Prop where
 st:Step F H F' H'
 val:Val K F' H H' k d v
theorem Post.frz {d:D}{v:V}(p:Post K F H .ow d F' v H'):∃F'',Post K F H .fz d F'' v H':=by
 obtain⟨s,a,rfl,h1,h2,h3⟩:=p
 obtain⟨o,ho⟩:=h3.some
 have up:Same F' (upd F' a o):=fun b u e=>by
  rw[Ql];exact e
  rintro rfl;rw[h2]at e;cases e
 refine⟨upd F' a o,⟨s.up.trans up,fun b u e=>?_,s.keep,fun b u e=>?_⟩,h3.rep up fun o' e=>?_⟩
 .by_cases hb:b=a
  .subst hb;rw[Qs]at e;cases e;exact ho
  .rw[Ql hb]at e;exact s.sub _ _ e
 .by_cases hb:b=a
  .subst hb;exact .inr h1
  .rw[Ql hb]at e;exact s.new _ _ e
 .rw[ho]at e;cases e;exact Qs
theorem Post.own {a:Addr}{o:HO}{d:D}(s:Step F H F' H')(n:H' a=none)(c:∀H2,H2 a=some o->Cell K F' H2 a d):Post K F H .ow d F' (.ref a) (upd H' a o):=by
 have up:Same H' (upd H' a o):=fun b u e=>by
  rw[Ql];exact e
  rintro rfl;rw[n]at e;cases e
 exact⟨⟨s.up,s.sub.trans up,s.keep.trans up,s.new⟩,a,rfl,s.keep.free n,s.sub.free n,c _ Qs⟩
theorem Post.made {a:Addr}{o:HO}{d:D}(s:Step F H F' H')(n:H' a=none)(c:∀F2,Same F' F2->F2 a=some o->Rep K F2 d (.ref a)):∃F2,Post K F H .fz d F2 (.ref a) (upd H' a o):=by
 have up:∀G:Hp,G a=none->Same G (upd G a o):=fun G n b u e=>by
  rw[Ql];exact e
  rintro rfl;rw[n]at e;cases e
 have nf:F' a=none:=s.sub.free n
 refine⟨upd F' a o,⟨s.up.trans (up _ nf),fun b u e=>?_,s.keep.trans (up _ n),fun b u e=>?_⟩,c _ (up _ nf) Qs⟩
 .by_cases hb:b=a
  .subst hb;rw[Qs]at e⊢;exact e
  .rw[Ql hb]at e⊢;exact s.sub _ _ e
 .by_cases hb:b=a
  .subst hb;exact .inr (s.keep.free n)
  .rw[Ql hb]at e;exact s.new _ _ e
theorem Post.pure {d:D}{v:V}(s:Step F H F' H')(h:Rep K F' d v):Post K F H .fz d F' v H':=⟨s,h⟩
noncomputable abbrev Ev:=List (Option (Kd×D))
structure FI (K:PySem.W.Frag)(F0 H0 F H:Hp)(ev:Ev)(σ:St):Prop where
 st:Step F0 H0 F H
 at_:∀(i:Nat) k d,ev[i]?=some (some (k,d))->k≠ .bo/\∃v,σ[i]?=some (some v)/\Val K F H0 H k d v
 apart:∀(i j:Nat) d e,i≠j->ev[i]?=some (some (.ow,d))->ev[j]?=some (some (.ow,e))->σ[i]?≠σ[j]?
 len:ev.length=σ.length
variable {ev:Ev}{σ:St}
theorem FI.later {F1 H1:Hp}(f:FI K F0 H0 F H ev σ)(s:Step F H F1 H1):FI K F0 H0 F1 H1 ev σ:=
 ⟨f.st.trans s,fun i k d e=>by obtain⟨n,v,e1,h⟩:=f.at_ i k d e;exact⟨n,v,e1,h.later s⟩,f.apart,f.len⟩
theorem FI.sub (f:FI K F0 H0 F H ev σ):Same F H:=f.st.sub
theorem FI.refl (f:FI K F0 H0 F H ev σ):Step F H F H:= .refl f.sub
theorem FI.set {i:Nat}{k:Kd}{d:D}{v:V}(f:FI K F0 H0 F H ev σ)(p:Post K F H k d F' v H')(nb:k≠ .bo):FI K F0 H0 F' H' (ev.set i (some (k,d))) (σ.set i (some v)):=by
 have f':=f.later p.st
 refine⟨f'.st,fun j k' d' e=>?_,fun j l d1 d2 hjl e1 e2=>?_,by simpa using f.len⟩
 .by_cases hj:i=j
  .subst hj
   rw[List.getElem?_set_self']at e
   cases q:ev[i]? with
   |none=>rw[q]at e;cases e
   |some z=>
    rw[q]at e
    cases e
    have hi:i<σ.length:=by rw[←f.len];exact(List.getElem?_eq_some_iff.mp q).1
    exact⟨nb,v,by rw[List.getElem?_set_self hi],p.val.early f.st.keep⟩
  .rw[List.getElem?_set_ne hj]at e⊢
   exact f'.at_ j k' d' e
 ·
  have key:∀(j:Nat) (e':D),i≠j->k= .ow->ev[j]?=some (some (.ow,e'))->σ[j]?≠some (some v):=fun j e' hij hk ej z=>by
   subst hk
   obtain⟨_,u,ej',b,hb,_,_,c⟩:=f.at_ j _ _ ej
   obtain⟨a,ha,hn,_,_⟩:=p.val
   rw[z]at ej'
   have ej'':v=u:=by simpa using ej'
   subst ej'';subst ha;cases hb
   obtain⟨o,ho⟩:=c.some
   rw[hn]at ho;cases ho
  have inEv:∀{m:Nat} {x:Option (Kd×D)},(ev.set i (some (k,d)))[i]?=some x->(σ.set i (some v))[i]?=some (some v):=fun{m x} e=>by
   rw[List.getElem?_set_self']at e
   cases q:ev[i]? with
   |none=>rw[q]at e;cases e
   |some z=>
    have hi:i<σ.length:=by rw[←f.len];exact(List.getElem?_eq_some_iff.mp q).1
    rw[List.getElem?_set_self hi]
  have kow:∀{x:D},(ev.set i (some (k,d)))[i]?=some (some (.ow,x))->k= .ow:=fun{x} e=>by
   rw[List.getElem?_set_self']at e
   cases q:ev[i]? with
   |none=>rw[q]at e;cases e
   |some z=>
    rw[q]at e
    have:some (k,d)=some (Kd.ow,x):=Option.some.inj e
    cases this;rfl
  by_cases hj:i=j
  .subst hj
   rw[List.getElem?_set_ne hjl]at e2
   rw[inEv (m:=i) e1,List.getElem?_set_ne hjl]
   exact fun z=>key l d2 hjl (kow e1) e2 z.symm
  .by_cases hl:i=l
   .subst hl
    rw[List.getElem?_set_ne hj]at e1
    rw[inEv (m:=i) e2,List.getElem?_set_ne hj]
    exact fun z=>key j d1 hj (kow e2) e1 z
   .rw[List.getElem?_set_ne hj]at e1⊢
    rw[List.getElem?_set_ne hl]at e2⊢
    exact f.apart j l d1 d2 hjl e1 e2
theorem FI.weak {ev':Ev}(f:FI K F0 H0 F H ev σ)(hl:ev'.length=ev.length)(w:∀(i:Nat) k d,ev'[i]?=some (some (k,d))->ev[i]?=some (some (k,d))):FI K F0 H0 F H ev' σ:=
 ⟨f.st,fun i k d e=>f.at_ i k d (w i k d e),fun i j d e h a b=>f.apart i j d e h (w _ _ _ a) (w _ _ _ b),hl.trans f.len⟩
end
end L3
namespace L3
open PySem L2
inductive R where|ok (k:Kd) (d:D)|ex (C:Addr)|no
inductive RA where|ok (l:List (Kd×D))|ex (C:Addr)|no
inductive Fl where|nx (ev:Ev)|rt (k:Kd) (d:D)|bk (ev:Ev)|ct (ev:Ev)|ex (C:Addr)|no
noncomputable abbrev Psi:=Addr->Hp->Prop
noncomputable def ValA (K:PySem.W.Frag)(F' H H':Hp):List (Kd×D)->List V->Prop
 | [],vs=>vs= []
 |(k,d)::l,vs=>∃v r,vs=v::r/\k≠ .ow/\Val K F' H H' k d v/\ValA K F' H H' l r
noncomputable def tV (K:PySem.W.Frag)(F0 H0:Hp)(Ψ:Psi)(f:Ev->R):TE:=fun σ H Q=>∃F ev,FI K F0 H0 F H ev σ/\match f ev with
 | .ok k d=>∀F' v H',Post K F H k d F' v H'->Q v H'
 | .ex C=>∀F' H',Step F0 H0 F' H'->Ψ C H'
 | .no=>False
noncomputable def tVT (K:PySem.W.Frag)(F0 H0:Hp)(Ψ:Psi)(f:Ev->R):TT:=fun σ H Q=>∃F ev,FI K F0 H0 F H ev σ/\match f ev with
 | .ok _ (.bl b)=>∀F' H',Step F H F' H'->Q b H'
 | .ex C=>∀F' H',Step F0 H0 F' H'->Ψ C H'
 |_=>False
noncomputable def tVA (K:PySem.W.Frag)(F0 H0:Hp)(Ψ:Psi)(f:Ev->RA):TA:=fun σ H Q=>∃F ev,FI K F0 H0 F H ev σ/\match f ev with
 | .ok l=>∀F' vs H',Step F H F' H'->ValA K F' H H' l vs->Q vs H'
 | .ex C=>∀F' H',Step F0 H0 F' H'->Ψ C H'
 | .no=>False
noncomputable def FlowTo (K:PySem.W.Frag)(F0 H0:Hp)(Ψ:Psi)(F:Hp)(D:Ends):Fl->Prop
 | .nx ev=>∀F' H' σ',Same F F'->FI K F0 H0 F' H' ev σ'->D.nx σ' H'
 | .rt k d=>∀F' v H',Post K F0 H0 k d F' v H'->D.rt v H'
 | .bk ev=>∀F' H' σ',Same F F'->FI K F0 H0 F' H' ev σ'->D.bk σ' H'
 | .ct ev=>∀F' H' σ',Same F F'->FI K F0 H0 F' H' ev σ'->D.ct σ' H'
 | .ex C=>∀F' H',Step F0 H0 F' H'->Ψ C H'
 | .no=>False
noncomputable def tSv (K:PySem.W.Frag)(F0 H0:Hp)(Ψ:Psi)(g:Ev->Fl):TS:=fun D σ H=>∃F ev,FI K F0 H0 F H ev σ/\FlowTo K F0 H0 Ψ F D (g ev)
noncomputable def VE (X:Cx)(F0 H0:Hp)(Ψ:Psi)(e:Expr)(f:Ev->R):Prop:=PE X e (tV X.K F0 H0 Ψ f)
noncomputable def VT (X:Cx)(F0 H0:Hp)(Ψ:Psi)(e:Expr)(f:Ev->R):Prop:=PT X e (tVT X.K F0 H0 Ψ f)
noncomputable def VW (X:Cx)(F0 H0:Hp)(Ψ:Psi)(e:Expr)(f:Ev->R):Prop:=PW X e (tVT X.K F0 H0 Ψ f)
noncomputable def VA (X:Cx)(F0 H0:Hp)(Ψ:Psi)(es:List Expr)(f:Ev->RA):Prop:=PA X es (tVA X.K F0 H0 Ψ f)
noncomputable def VS (X:Cx)(F0 H0:Hp)(Ψ:Psi)(st:Stmt)(g:Ev->Fl):Prop:=PS X st (tSv X.K F0 H0 Ψ g)
noncomputable def VSs (X:Cx)(F0 H0:Hp)(Ψ:Psi)(sts:List Stmt)(g:Ev->Fl):Prop:=PSs X sts (tSv X.K F0 H0 Ψ g)
section
variable {X:Cx}{K:PySem.W.Frag}{F0 H0 F H F' H':Hp}{Ψ:Psi}{σ:St}{ev:Ev}
noncomputable def varR (i:Nat)(ev:Ev):R:=match ev[i]? with
 |some (some (.fz,d))=> .ok .fz d
 |some (some (.ow,d))=> .ok .bo d
 |_=> .no
theorem QoG {i:Nat}{Q:VK}(h:tV K F0 H0 Ψ (varR i) σ H Q):tVar i σ H Q:=by
 obtain⟨F,ev,fi,m⟩:=h
 unfold varR at m
 split at m
 .rename_i k d hm
  split at hm
  .rename_i d' e
   cases hm
   obtain⟨_,v,e1,hv⟩:=fi.at_ _ _ _ e
   exact⟨v,e1,m F v H ⟨fi.refl,hv⟩⟩
  .rename_i d' e
   cases hm
   obtain⟨_,v,e1,a,h1,h2,h3,h4⟩:=fi.at_ _ _ _ e
   exact⟨v,e1,m F v H ⟨fi.refl,a,h1,h3,h4⟩⟩
  .cases hm
 .rename_i C hm
  split at hm<;>cases hm
 .exact m.elim
noncomputable def conR (d:D)(_:Ev):R:= .ok .fz d
theorem QkX {v:V}{d:D}{Q:VK}(r:Rep K F0 d v)(h:tV K F0 H0 Ψ (conR d) σ H Q):tC v σ H Q:=by
 obtain⟨F,ev,fi,m⟩:=h
 exact m F v H ⟨fi.refl,r.mono fi.st.up⟩
noncomputable abbrev G2:=D->D->Option (Kd×D)
noncomputable def toR:Option (Kd×D)->R
 |some (k,d)=> .ok k d
 |none=> .no
noncomputable def op2 (g:G2):R->R->R
 | .ok _ a, .ok _ b=>toR (g a b)
 | .ok _ _,r=>r
 |r,_=>r
noncomputable def OkOp (K:PySem.W.Frag)(r:R2)(g:G2):Prop:=∀(F H:Hp) dx dy x y k d (Q:VK),Same F H->RdV K F H dx x->RdV K F H dy y->g dx dy=some (k,d)->(∀F' v H',Post K F H k d F' v H'->Q v H')->r x y H Q
theorem OkOp.or {r r':R2}{g g':G2}(h:OkOp K r g)(h':OkOp K r' g'):OkOp K (fun x y H Q=>r x y H Q\/r' x y H Q) (fun a b=>(g a b).or (g' a b)):=by
 intro F H dx dy x y k d Q s rx ry e q
 dsimp only at e
 cases e1:g dx dy with
 |some z=>obtain⟨k',d'⟩:=z;rw[e1]at e;cases e;exact .inl (h F H dx dy x y k d Q s rx ry e1 q)
 |none=>rw[e1]at e;exact .inr (h' F H dx dy x y k d Q s rx ry e q)
theorem Qho {r:R2}{g:G2}{f1 f2:Ev->R}{Q:VK}(ho:OkOp K r g)(h:tV K F0 H0 Ψ (fun ev=>op2 g (f1 ev) (f2 ev)) σ H Q):tOp r (tV K F0 H0 Ψ f1) (tV K F0 H0 Ψ f2) σ H Q:=by
 obtain⟨F,ev,fi,m⟩:=h
 try dsimp only at m
 refine⟨F,ev,fi,?_⟩
 cases h1:f1 ev with
 |no=>rw[h1]at m;exact m
 |ex C=>rw[h1]at m;exact m
 |ok k1 d1=>
  rw[h1]at m
  intro F1 x H1 p1
  refine⟨F1,ev,fi.later p1.st,?_⟩
  cases h2:f2 ev with
  |no=>rw[h2]at m;exact m
  |ex C=>rw[h2]at m;exact m
  |ok k2 d2=>
   rw[h2]at m
   intro F2 y H2 p2
   have m:match toR (g d1 d2)with
    | .ok k d=>∀F' v H',Post K F H k d F' v H'->Q v H'
    | .ex C=>∀F' H',Step F0 H0 F' H'->Ψ C H'
    | .no=>False:=m
   cases e:g d1 d2 with
   |none=>rw[e]at m;exact m.elim
   |some z=>
    obtain⟨k,d⟩:=z
    rw[e]at m
    have s:=p1.st.trans p2.st
    exact ho F2 H2 d1 d2 x y k d Q p2.st.sub (p1.val.rd.later p2.st) p2.val.rd e fun F3 v H3 p3=>m F3 v H3 ⟨s.trans p3.st,p3.val.early s.keep⟩
theorem Qty {f:Ev->R}{Q:Bool->Hp->Prop}(h:tVT K F0 H0 Ψ f σ H Q):tB (tV K F0 H0 Ψ f) σ H Q:=by
 obtain⟨F,ev,fi,m⟩:=h
 try dsimp only at m
 refine⟨F,ev,fi,?_⟩
 cases h1:f ev with
 |no=>rw[h1]at m;exact m
 |ex C=>rw[h1]at m;exact m
 |ok k d=>
  rw[h1]at m
  intro F1 v H1 p
  cases d with
  |bl b=>exact⟨b,p.val.rd.bl,m F1 H1 p.st⟩
  |_=>exact m.elim
noncomputable def andR:R->R->R
 | .ok _ (.bl b),r=>if b then r else .ok .fz (.bl false)
 | .ex C,_=> .ex C
 |_,_=> .no
noncomputable def orR:R->R->R
 | .ok _ (.bl b),r=>if b then .ok .fz (.bl true)else r
 | .ex C,_=> .ex C
 |_,_=> .no
noncomputable def notR:R->R
 | .ok _ (.bl b)=> .ok .fz (.bl !b)
 | .ex C=> .ex C
 |_=> .no
theorem QoH {f g:Ev->R}{Q:Bool->Hp->Prop}(h:tVT K F0 H0 Ψ (fun ev=>andR (f ev) (g ev)) σ H Q):tAnd (tVT K F0 H0 Ψ f) (tVT K F0 H0 Ψ g) σ H Q:=by
 obtain⟨F,ev,fi,m⟩:=h
 try dsimp only at m
 refine⟨F,ev,fi,?_⟩
 cases h1:f ev with
 |no=>rw[h1]at m;exact m
 |ex C=>rw[h1]at m;exact m
 |ok k d=>
  rw[h1]at m
  cases d with
  |bl b=>
   intro F1 H1 p
   cases b with
   |true=>
    rw[if_pos rfl]
    refine⟨F1,ev,fi.later p,?_⟩
    have m:match g ev with
     | .ok _ (.bl b)=>∀F' H',Step F H F' H'->Q b H'
     | .ex C=>∀F' H',Step F0 H0 F' H'->Ψ C H'
     |_=>False:=m
    cases h2:g ev with
    |no=>rw[h2]at m;exact m
    |ex C=>rw[h2]at m;exact m
    |ok k2 d2=>
     rw[h2]at m
     cases d2 with
     |bl b=>exact fun F2 H2 p2=>m F2 H2 (p.trans p2)
     |_=>exact m.elim
   |false=>rw[if_neg Bool.false_ne_true];exact m F1 H1 p
  |_=>exact m.elim
theorem Qq8 {f g:Ev->R}{Q:Bool->Hp->Prop}(h:tVT K F0 H0 Ψ (fun ev=>orR (f ev) (g ev)) σ H Q):tOr (tVT K F0 H0 Ψ f) (tVT K F0 H0 Ψ g) σ H Q:=by
 obtain⟨F,ev,fi,m⟩:=h
 try dsimp only at m
 refine⟨F,ev,fi,?_⟩
 cases h1:f ev with
 |no=>rw[h1]at m;exact m
 |ex C=>rw[h1]at m;exact m
 |ok k d=>
  rw[h1]at m
  cases d with
  |bl b=>
   intro F1 H1 p
   cases b with
   |false=>
    rw[if_neg Bool.false_ne_true]
    refine⟨F1,ev,fi.later p,?_⟩
    have m:match g ev with
     | .ok _ (.bl b)=>∀F' H',Step F H F' H'->Q b H'
     | .ex C=>∀F' H',Step F0 H0 F' H'->Ψ C H'
     |_=>False:=m
    cases h2:g ev with
    |no=>rw[h2]at m;exact m
    |ex C=>rw[h2]at m;exact m
    |ok k2 d2=>
     rw[h2]at m
     cases d2 with
     |bl b=>exact fun F2 H2 p2=>m F2 H2 (p.trans p2)
     |_=>exact m.elim
   |true=>rw[if_pos rfl];exact m F1 H1 p
  |_=>exact m.elim
theorem QoI {f:Ev->R}{Q:Bool->Hp->Prop}(h:tVT K F0 H0 Ψ (fun ev=>notR (f ev)) σ H Q):tNot (tVT K F0 H0 Ψ f) σ H Q:=by
 obtain⟨F,ev,fi,m⟩:=h
 try dsimp only at m
 refine⟨F,ev,fi,?_⟩
 cases h1:f ev with
 |no=>rw[h1]at m;exact m
 |ex C=>rw[h1]at m;exact m
 |ok k d=>
  rw[h1]at m
  cases d with
  |bl b=>exact fun F1 H1 p=>m F1 H1 p
  |_=>exact m.elim
theorem QmC {f g:Ev->R}{Q:VK}(h:tV K F0 H0 Ψ (fun ev=>andR (f ev) (g ev)) σ H Q):Qqz (tV K F0 H0 Ψ f) (tV K F0 H0 Ψ g) σ H Q:=by
 obtain⟨F,ev,fi,m⟩:=h
 try dsimp only at m
 refine⟨F,ev,fi,?_⟩
 cases h1:f ev with
 |no=>rw[h1]at m;exact m
 |ex C=>rw[h1]at m;exact m
 |ok k d=>
  rw[h1]at m
  intro F1 x H1 p
  cases d with
  |bl b=>
   refine⟨b,p.val.rd.bl,?_⟩
   cases b with
   |true=>
    rw[if_pos rfl]
    refine⟨F1,ev,fi.later p.st,?_⟩
    have m:match g ev with
     | .ok k d=>∀F' v H',Post K F H k d F' v H'->Q v H'
     | .ex C=>∀F' H',Step F0 H0 F' H'->Ψ C H'
     | .no=>False:=m
    cases h2:g ev with
    |no=>rw[h2]at m;exact m
    |ex C=>rw[h2]at m;exact m
    |ok k2 d2=>rw[h2]at m;exact fun F2 y H2 p2=>m F2 y H2 ⟨p.st.trans p2.st,p2.val.early p.st.keep⟩
   |false=>rw[if_neg Bool.false_ne_true];exact m F1 _ H1 ⟨p.st,by rw[Val,Rep]⟩
  |_=>exact m.elim
theorem QoJ {f g:Ev->R}{Q:VK}(h:tV K F0 H0 Ψ (fun ev=>orR (f ev) (g ev)) σ H Q):tOrV (tV K F0 H0 Ψ f) (tV K F0 H0 Ψ g) σ H Q:=by
 obtain⟨F,ev,fi,m⟩:=h
 try dsimp only at m
 refine⟨F,ev,fi,?_⟩
 cases h1:f ev with
 |no=>rw[h1]at m;exact m
 |ex C=>rw[h1]at m;exact m
 |ok k d=>
  rw[h1]at m
  intro F1 x H1 p
  cases d with
  |bl b=>
   refine⟨b,p.val.rd.bl,?_⟩
   cases b with
   |false=>
    rw[if_neg Bool.false_ne_true]
    refine⟨F1,ev,fi.later p.st,?_⟩
    have m:match g ev with
     | .ok k d=>∀F' v H',Post K F H k d F' v H'->Q v H'
     | .ex C=>∀F' H',Step F0 H0 F' H'->Ψ C H'
     | .no=>False:=m
    cases h2:g ev with
    |no=>rw[h2]at m;exact m
    |ex C=>rw[h2]at m;exact m
    |ok k2 d2=>rw[h2]at m;exact fun F2 y H2 p2=>m F2 y H2 ⟨p.st.trans p2.st,p2.val.early p.st.keep⟩
   |true=>rw[if_pos rfl];exact m F1 _ H1 ⟨p.st,by rw[Val,Rep]⟩
  |_=>exact m.elim
noncomputable def ifR:R->R->R->R
 | .ok _ (.bl b),x,y=>if b then x else y
 | .ex C,_,_=> .ex C
 |_,_,_=> .no
theorem Qq9 {c f g:Ev->R}{Q:VK}(h:tV K F0 H0 Ψ (fun ev=>ifR (c ev) (f ev) (g ev)) σ H Q):tIf (tVT K F0 H0 Ψ c) (tV K F0 H0 Ψ f) (tV K F0 H0 Ψ g) σ H Q:=by
 obtain⟨F,ev,fi,m⟩:=h
 try dsimp only at m
 refine⟨F,ev,fi,?_⟩
 have go : ∀ (r : Ev → R), (match r ev with
         | .ok k d=>∀F' v H',Post K F H k d F' v H'->Q v H'
         | .ex C=>∀F' H',Step F0 H0 F' H'->Ψ C H'
         | .no=>False)->∀F1 H1,Step F H F1 H1->tV K F0 H0 Ψ r σ H1 Q:=fun r m F1 H1 p=>by
  refine⟨F1,ev,fi.later p,?_⟩
  cases h2:r ev with
  |no=>rw[h2]at m;exact m
  |ex C=>rw[h2]at m;exact m
  |ok k2 d2=>rw[h2]at m;exact fun F2 y H2 p2=>m F2 y H2 ⟨p.trans p2.st,p2.val.early p.keep⟩
 cases h1:c ev with
 |no=>rw[h1]at m;exact m
 |ex C=>rw[h1]at m;exact m
 |ok k d=>
  rw[h1]at m
  cases d with
  |bl b=>
   intro F1 H1 p
   cases b with
   |true=>rw[if_pos rfl];exact go f m F1 H1 p
   |false=>rw[if_neg Bool.false_ne_true];exact go g m F1 H1 p
  |_=>exact m.elim
noncomputable def frzK:Kd->Kd
 | .ow=> .fz
 |k=>k
noncomputable def Qhp:R->RA->RA
 | .ok k d, .ok l=> .ok ((frzK k,d)::l)
 | .ok _ _,r=>r
 | .ex C,_=> .ex C
 | .no,_=> .no
theorem ValA.early {H1:Hp}:∀{l:List (Kd×D)} {vs:List V},ValA K F' H1 H' l vs->Same H H1->ValA K F' H H' l vs
 | [],_,h,_=>h
 |(k,d)::l,_,h,s=>by
  obtain⟨v,r,h1,h2,h3,h4⟩:=h
  exact⟨v,r,h1,h2,h3.early s,ValA.early h4 s⟩
theorem Post.frzK {k:Kd}{d:D}{v:V}(p:Post K F H k d F' v H'):∃F'',Post K F H (frzK k) d F'' v H'/\L3.frzK k≠ .ow:=by
 cases k with
 |fz=>exact⟨F',p,by simp[L3.frzK]⟩
 |bo=>exact⟨F',p,by simp[L3.frzK]⟩
 |ow=>obtain⟨F'',q⟩:=p.frz;exact⟨F'',q,by simp[L3.frzK]⟩
theorem QoK {Q:List V->Hp->Prop}(h:tVA K F0 H0 Ψ (fun _=> .ok []) σ H Q):tNil σ H Q:=by
 obtain⟨F,ev,fi,m⟩:=h
 exact m F [] H fi.refl rfl
theorem QmD {f:Ev->R}{fs:Ev->RA}{Q:List V->Hp->Prop}(h:tVA K F0 H0 Ψ (fun ev=>Qhp (f ev) (fs ev)) σ H Q):Qms (tV K F0 H0 Ψ f) (tVA K F0 H0 Ψ fs) σ H Q:=by
 obtain⟨F,ev,fi,m⟩:=h
 try dsimp only at m
 refine⟨F,ev,fi,?_⟩
 cases h1:f ev with
 |no=>rw[h1]at m;exact m
 |ex C=>rw[h1]at m;exact m
 |ok k d=>
  rw[h1]at m
  intro F1 x H1 p
  obtain⟨F1,p,nw⟩:=p.frzK
  refine⟨F1,ev,fi.later p.st,?_⟩
  cases h2:fs ev with
  |no=>rw[h2]at m;exact m
  |ex C=>rw[h2]at m;exact m
  |ok l=>
   rw[h2]at m
   exact fun F2 vs H2 s v=>m F2 (x::vs) H2 (p.st.trans s) ⟨x,vs,rfl,nw,p.val.later s,v.early p.st.keep⟩
noncomputable def QaS:List (Kd×D)->Option (List D)
 | []=>some []
 |(.fz,d)::l=>(QaS l).map (d:: ·)
 |_=>none
theorem ValA.fz:∀{l:List (Kd×D)} {vs:List V} {ds:List D},ValA K F' H H' l vs->QaS l=some ds->Reps K F' ds vs
 | [],_,_,h,e=>by cases e;cases h;exact .nil
 |(k,d)::l,_,ds,h,e=>by
  obtain⟨v,r,rfl,h2,h3,h4⟩:=h
  cases k with
  |fz=>
   simp only[QaS]at e
   cases q:QaS l with
   |none=>rw[q]at e;cases e
   |some ds'=>rw[q]at e;cases e;exact .cons h3 (ValA.fz h4 q)
  |_=>cases e
theorem ValA.rds:∀{l:List (Kd×D)} {vs:List V},ValA K F' H H' l vs->Same F' H'->Reps K H' (l.map (·.2)) vs
 | [],_,h,_=>by cases h;exact .nil
 |(k,d)::l,_,h,s=>by
  obtain⟨v,r,rfl,h2,h3,h4⟩:=h
  exact .cons (h3.rd.rep s) (ValA.rds h4 s)
theorem ValA.length:∀{l:List (Kd×D)} {vs:List V},ValA K F' H H' l vs->l.length=vs.length
 | [],_,h=>by cases h;rfl
 |(k,d)::l,_,h=>by obtain⟨v,r,rfl,h2,h3,h4⟩:=h;simp[ValA.length h4]
noncomputable def LIM:Nat:=1000000
noncomputable def tupR:RA->R
 | .ok l=>match QaS l with
  |some ds=>if ds.length<=LIM then .ok .fz (.tup ds)else .no
  |none=> .no
 | .ex C=> .ex C
 | .no=> .no
noncomputable def lstR:RA->R
 | .ok l=>match QaS l with
  |some ds=>if ds.length<=LIM then .ok .ow (.lst ds)else .no
  |none=> .no
 | .ex C=> .ex C
 | .no=> .no
theorem QoL {fs:Ev->RA}{Q:VK}(h:tV K F0 H0 Ψ (fun ev=>tupR (fs ev)) σ H Q):tTup (tVA K F0 H0 Ψ fs) σ H Q:=by
 obtain⟨F,ev,fi,m⟩:=h
 try dsimp only at m
 refine⟨F,ev,fi,?_⟩
 cases h1:fs ev with
 |no=>rw[h1]at m;exact m
 |ex C=>rw[h1]at m;exact m
 |ok l=>
  rw[h1]at m
  intro F1 vs H1 s va
  simp only[tupR]at m
  cases q:QaS l with
  |none=>rw[q]at m;exact m.elim
  |some ds=>
   rw[q]at m
   by_cases hl:ds.length<=LIM
   .simp only[hl,if_true]at m
    have rs:=va.fz q
    refine⟨by rw[←rs.length];exact Nat.le_trans hl QB,fun p hp=>?_⟩
    obtain⟨F2,p2⟩:=Post.made (K:=K) (d:= .tup ds) (o:= .tup vs) s hp fun F2 up e=>by rw[Rep];exact⟨p,vs,rfl,e,rs.mono up⟩
    exact m F2 _ _ p2
   .simp only[hl,if_false]at m
theorem QoM {fs:Ev->RA}{Q:VK}(h:tV K F0 H0 Ψ (fun ev=>lstR (fs ev)) σ H Q):tLst (tVA K F0 H0 Ψ fs) σ H Q:=by
 obtain⟨F,ev,fi,m⟩:=h
 try dsimp only at m
 refine⟨F,ev,fi,?_⟩
 cases h1:fs ev with
 |no=>rw[h1]at m;exact m
 |ex C=>rw[h1]at m;exact m
 |ok l=>
  rw[h1]at m
  intro F1 vs H1 s va
  simp only[lstR]at m
  cases q:QaS l with
  |none=>rw[q]at m;exact m.elim
  |some ds=>
   rw[q]at m
   by_cases hl:ds.length<=LIM
   .simp only[hl,if_true]at m
    have rs:=va.fz q
    refine⟨by rw[←rs.length];exact Nat.le_trans hl QB,fun p hp=>?_⟩
    exact m F1 _ _ (Post.own s hp fun H2 e=>⟨vs,e,rs⟩)
   .simp only[hl,if_false]at m
noncomputable abbrev GN:=List D->Option (Kd×D)
noncomputable def RdA (K:PySem.W.Frag)(F H:Hp):List D->List V->Prop
 | [],vs=>vs= []
 |d::l,vs=>∃v r,vs=v::r/\RdV K F H d v/\RdA K F H l r
theorem ValA.rda:∀{l:List (Kd×D)} {vs:List V},ValA K F' H H' l vs->RdA K F' H' (l.map (·.2)) vs
 | [],_,h=>h
 |(k,d)::l,_,h=>by
  obtain⟨v,r,rfl,h2,h3,h4⟩:=h
  exact⟨v,r,rfl,h3.rd,ValA.rda h4⟩
noncomputable def Qb8 (K:PySem.W.Frag)(r:List V->Hp->VK->Prop)(g:GN):Prop:=∀(F H:Hp) ds vs k d (Q:VK),Same F H->RdA K F H ds vs->g ds=some (k,d)->(∀F' v H',Post K F H k d F' v H'->Q v H')->r vs H Q
noncomputable def QmE (g:GN):RA->R
 | .ok l=>toR (g (l.map (·.2)))
 | .ex C=> .ex C
 | .no=> .no
theorem QnS {r:List V->Hp->VK->Prop}{g:GN}{fs:Ev->RA}{Q:VK}(ho:Qb8 K r g)(h:tV K F0 H0 Ψ (fun ev=>QmE g (fs ev)) σ H Q):tCB r (tVA K F0 H0 Ψ fs) σ H Q:=by
 obtain⟨F,ev,fi,m⟩:=h
 try dsimp only at m
 refine⟨F,ev,fi,?_⟩
 cases h1:fs ev with
 |no=>rw[h1]at m;exact m
 |ex C=>rw[h1]at m;exact m
 |ok l=>
  rw[h1]at m
  intro F1 vs H1 s va
  have m:match toR (g (l.map (·.2)))with
    | .ok k d=>∀F' v H',Post K F H k d F' v H'->Q v H'
    | .ex C=>∀F' H',Step F0 H0 F' H'->Ψ C H'
    | .no=>False:=m
  cases e:g (l.map (·.2))with
  |none=>rw[e]at m;exact m.elim
  |some z=>
   obtain⟨k,d⟩:=z
   rw[e]at m
   exact ho F1 H1 _ vs k d Q s.sub va.rda e fun F3 v H3 p3=>m F3 v H3 ⟨s.trans p3.st,p3.val.early s.keep⟩
theorem FlowTo.mono {E:Ends}{r:Fl}(h:FlowTo K F0 H0 Ψ F E r)(s:Same F F'):FlowTo K F0 H0 Ψ F' E r:=by
 cases r with
 |nx ev=>exact fun F2 H2 σ2 s2 fi=>h F2 H2 σ2 (s.trans s2) fi
 |bk ev=>exact fun F2 H2 σ2 s2 fi=>h F2 H2 σ2 (s.trans s2) fi
 |ct ev=>exact fun F2 H2 σ2 s2 fi=>h F2 H2 σ2 (s.trans s2) fi
 |rt k d=>exact h
 |ex C=>exact h
 |no=>exact h
noncomputable def seqG (g h:Ev->Fl)(ev:Ev):Fl:=match g ev with
 | .nx ev'=>h ev'
 |r=>r
theorem QoN {g h:Ev->Fl}{E:Ends}(q:tSv K F0 H0 Ψ (seqG g h) E σ H):tSeq (tSv K F0 H0 Ψ g) (tSv K F0 H0 Ψ h) E σ H:=by
 obtain⟨F,ev,fi,m⟩:=q
 refine⟨F,ev,fi,?_⟩
 unfold seqG at m
 cases h1:g ev with
 |nx ev'=>rw[h1]at m;exact fun F' H' σ' s fi'=>⟨F',ev',fi',m.mono s⟩
 |_=>rw[h1]at m;exact m
theorem QmF {E:Ends}(q:tSv K F0 H0 Ψ .nx E σ H):QqC E σ H:=by
 obtain⟨F,ev,fi,m⟩:=q
 exact m F H σ (.refl _) fi
theorem QmG {E:Ends}(q:tSv K F0 H0 Ψ .ct E σ H):QqD E σ H:=by
 obtain⟨F,ev,fi,m⟩:=q
 exact m F H σ (.refl _) fi
noncomputable def retG (f:Ev->R)(ev:Ev):Fl:=match f ev with
 | .ok .bo _=> .no
 | .ok k d=> .rt k d
 | .ex C=> .ex C
 | .no=> .no
theorem QoO {f:Ev->R}{E:Ends}(q:tSv K F0 H0 Ψ (retG f) E σ H):tRet (tV K F0 H0 Ψ f) E σ H:=by
 obtain⟨F,ev,fi,m⟩:=q
 refine⟨F,ev,fi,?_⟩
 unfold retG at m
 cases h1:f ev with
 |no=>rw[h1]at m;exact m
 |ex C=>rw[h1]at m;exact m
 |ok k d=>
  rw[h1]at m
  intro F1 x H1 p
  cases k with
  |bo=>exact m.elim
  |fz=>exact m F1 x H1 ⟨fi.st.trans p.st,p.val.early fi.st.keep⟩
  |ow=>exact m F1 x H1 ⟨fi.st.trans p.st,p.val.early fi.st.keep⟩
noncomputable def Qbm (i:Nat)(ev:Ev):Fl:=match ev[i]? with
 |some (some (.fz,d))=> .rt .fz d
 |some (some (.ow,d))=> .rt .ow d
 |_=> .no
theorem Qj5 {i:Nat}{E:Ends}(q:tSv K F0 H0 Ψ (Qbm i) E σ H):tRet (tVar i) E σ H:=by
 obtain⟨F,ev,fi,m⟩:=q
 unfold Qbm at m
 split at m
 .rename_i d e
  obtain⟨_,v,e1,hv⟩:=fi.at_ _ _ _ e
  exact⟨v,e1,m F v H ⟨fi.st,hv⟩⟩
 .rename_i d e
  obtain⟨_,v,e1,hv⟩:=fi.at_ _ _ _ e
  exact⟨v,e1,m F v H ⟨fi.st,hv⟩⟩
 .exact m.elim
noncomputable def ifG (c:Ev->R)(g h:Ev->Fl)(ev:Ev):Fl:=match c ev with
 | .ok _ (.bl b)=>if b then g ev else h ev
 | .ex C=> .ex C
 |_=> .no
theorem QoP {c:Ev->R}{g h:Ev->Fl}{E:Ends}(q:tSv K F0 H0 Ψ (ifG c g h) E σ H):tIfS (tVT K F0 H0 Ψ c) (tSv K F0 H0 Ψ g) (tSv K F0 H0 Ψ h) E σ H:=by
 obtain⟨F,ev,fi,m⟩:=q
 refine⟨F,ev,fi,?_⟩
 unfold ifG at m
 cases h1:c ev with
 |no=>rw[h1]at m;exact m
 |ex C=>rw[h1]at m;exact m
 |ok k d=>
  rw[h1]at m
  cases d with
  |bl b=>
   intro F1 H1 p
   cases b with
   |true=>rw[if_pos rfl];exact⟨F1,ev,fi.later p,FlowTo.mono m p.up⟩
   |false=>rw[if_neg Bool.false_ne_true];exact⟨F1,ev,fi.later p,FlowTo.mono m p.up⟩
  |_=>exact m.elim
noncomputable abbrev B1:=D->Ev->Option Ev
noncomputable abbrev BN:=List D->Ev->Option Ev
noncomputable def gV (K:PySem.W.Frag)(F0 H0:Hp)(b:B1):TG:=fun v σ H Q=>∃F ev d ev',FI K F0 H0 F H ev σ/\Rep K F d v/\b d ev=some ev'/\∀H' σ',H'=H->FI K F0 H0 F H ev' σ'->Q σ' H'
noncomputable def gVs (K:PySem.W.Frag)(F0 H0:Hp)(b:BN):TGs:=fun vs σ H Q=>∃F ev ds ev',FI K F0 H0 F H ev σ/\Reps K F ds vs/\b ds ev=some ev'/\∀H' σ',H'=H->FI K F0 H0 F H ev' σ'->Q σ' H'
noncomputable def Qq (i:Nat):B1:=fun d ev=>some (ev.set i (some (.fz,d)))
theorem QmH {i:Nat}{v:V}{Q:St->Hp->Prop}(q:gV K F0 H0 (Qq i) v σ H Q):Qh8 i v σ H Q:=by
 obtain⟨F,ev,d,ev',fi,r,e,m⟩:=q
 cases e
 exact m H _ rfl (fi.set ⟨fi.refl,r⟩ al)
noncomputable def bNil:BN:=fun ds ev=>match ds with
 | []=>some ev
 |_=>none
noncomputable def QaM (b:B1)(c:BN):BN:=fun ds ev=>match ds with
 |d::r=>(b d ev).bind (c r)
 | []=>none
theorem QoQ {vs:List V}{Q:St->Hp->Prop}(q:gVs K F0 H0 bNil vs σ H Q):gNil vs σ H Q:=by
 obtain⟨F,ev,ds,ev',fi,r,e,m⟩:=q
 cases ds with
 |nil=>cases e;exact⟨r.unnil,m H σ rfl fi⟩
 |cons d ds=>cases e
theorem QmI {b:B1}{c:BN}{vs:List V}{Q:St->Hp->Prop}(q:gVs K F0 H0 (QaM b c) vs σ H Q):QqE (gV K F0 H0 b) (gVs K F0 H0 c) vs σ H Q:=by
 obtain⟨F,ev,ds,ev',fi,r,e,m⟩:=q
 cases ds with
 |nil=>cases e
 |cons d ds=>
  obtain⟨v,t,rfl,h1,h2⟩:=r.uncons
  refine⟨v,t,rfl,?_⟩
  simp only[QaM]at e
  cases q1:b d ev with
  |none=>rw[q1]at e;cases e
  |some ev1=>
   rw[q1]at e
   refine⟨F,ev,d,ev1,fi,h1,q1,fun H' σ' hH fi'=>?_⟩
   subst hH
   exact⟨F,ev1,ds,ev',fi',h2,e,m⟩
noncomputable def bTup (n:Nat)(c:BN):B1:=fun d ev=>match d with
 | .tup ds=>if ds.length=n then c ds ev else none
 |_=>none
theorem QoR {n:Nat}{c:BN}{v:V}{Q:St->Hp->Prop}(q:gV K F0 H0 (bTup n c) v σ H Q):gTup K n (gVs K F0 H0 c) v σ H Q:=by
 obtain⟨F,ev,d,ev',fi,r,e,m⟩:=q
 cases d with
 |tup ds=>
  rw[Rep]at r
  obtain⟨a,vs,h1,h2,h3⟩:=r
  simp only[bTup]at e
  by_cases hn:ds.length=n
  .rw[if_pos hn]at e
   exact⟨a,vs,h1,SqT.of (fi.sub _ _ h2),by rw[←h3.length];exact hn,F,ev,ds,ev',fi,h3,e,m⟩
  .rw[if_neg hn]at e;cases e
 |_=>cases e
noncomputable def setG (i:Nat)(f:Ev->R)(ev:Ev):Fl:=match f ev with
 | .ok .bo _=> .no
 | .ok k d=> .nx (ev.set i (some (k,d)))
 | .ex C=> .ex C
 | .no=> .no
theorem QkY {i:Nat}{f:Ev->R}{E:Ends}(q:tSv K F0 H0 Ψ (setG i f) E σ H):tAsg (tV K F0 H0 Ψ f) (Qh8 i) E σ H:=by
 obtain⟨F,ev,fi,m⟩:=q
 refine⟨F,ev,fi,?_⟩
 unfold setG at m
 cases h1:f ev with
 |no=>rw[h1]at m;exact m
 |ex C=>rw[h1]at m;exact m
 |ok k d=>
  rw[h1]at m
  intro F1 x H1 p
  cases k with
  |bo=>exact m.elim
  |fz=>exact m F1 H1 _ p.st.up (fi.set p al)
  |ow=>exact m F1 H1 _ p.st.up (fi.set p al)
noncomputable def Qj6 (i:Nat)(ev:Ev):Ev:=match ev[i]? with
 |some (some (.ow,d))=>ev.set i (some (.fz,d))
 |_=>ev
theorem FI.frz (i:Nat)(f:FI K F0 H0 F H ev σ):∃F',Same F F'/\FI K F0 H0 F' H (Qj6 i ev) σ:=by
 unfold Qj6
 split
 .rename_i d e
  obtain⟨_,v,ev1,hv⟩:=f.at_ i _ _ e
  obtain⟨a,rfl,h1,h2,h3⟩:=hv
  obtain⟨o,ho⟩:=h3.some
  have hi:i<σ.length:=(List.getElem?_eq_some_iff.mp ev1).1
  have hie:i<ev.length:=by rw[f.len];exact hi
  have up:Same F (upd F a o):=fun b u e=>by
   rw[Ql];exact e
   rintro rfl;rw[h2]at e;cases e
  have ne:∀{m:Nat} {x:D},(ev.set i (some (Kd.fz,d)))[m]?=some (some (.ow,x))->i≠m/\ev[m]?=some (some (.ow,x)):=fun{m x} q=>by
   by_cases hm:i=m
   .subst hm;rw[List.getElem?_set_self hie]at q;cases q
   .rw[List.getElem?_set_ne hm]at q;exact⟨hm,q⟩
  refine⟨upd F a o,up,⟨f.st.up.trans up,fun b u q=>?_,f.st.keep,fun b u q=>?_⟩,fun j k d' q=>?_,fun j l d1 d2 hjl e1 e2=>?_,by simpa using f.len⟩
  .by_cases hb:b=a
   .subst hb;rw[Qs]at q;cases q;exact ho
   .rw[Ql hb]at q;exact f.sub _ _ q
  .by_cases hb:b=a
   .subst hb;exact .inr h1
   .rw[Ql hb]at q;exact f.st.new _ _ q
  .by_cases hj:i=j
   .subst hj
    rw[List.getElem?_set_self hie]at q
    cases q
    exact⟨by simp,_,ev1,h3.rep up fun o' e=>by rw[ho]at e;cases e;exact Qs⟩
   .rw[List.getElem?_set_ne hj]at q
    obtain⟨n,u,e3,hu⟩:=f.at_ j k d' q
    refine⟨n,u,e3,?_⟩
    cases k with
    |bo=>exact absurd rfl n
    |fz=>exact Rep.mono up hu
    |ow=>
     obtain⟨b,rfl,g1,g2,g3⟩:=hu
     have hba:b≠a:=by
      rintro rfl
      exact f.apart i j d d' hj e q (by rw[ev1,e3])
     exact⟨b,rfl,g1,by rw[Ql hba];exact g2,g3.mono up fun o e=>e⟩
  .exact f.apart j l d1 d2 hjl (ne e1).2 (ne e2).2
 .exact⟨F, .refl _,f⟩
end
end L3
namespace L3
open PySem L2
inductive RI where|ok (ds:List D)|ex (C:Addr)|no
structure Yields (K:PySem.W.Frag)(F:Hp)(J:It)(ds:List D):Prop where
 go:∀(i:Nat) H,Same F H->i<ds.length->J.go i H
 stop:∀(i:Nat) H,Same F H->ds.length<=i->J.stop i H
 yld:∀(i:Nat) F1 H x H',Same F F1->Same F1 H->i<ds.length->J.yld i H x H'->∃F2 d,Step F1 H F2 H'/\ds[i]?=some d/\Rep K F2 d x
noncomputable def tVI (K:PySem.W.Frag)(F0 H0:Hp)(Ψ:Psi)(f:Ev->RI):TI:=fun σ H R=>∃F ev,FI K F0 H0 F H ev σ/\match f ev with
 | .ok ds=>∀F' H' J,Step F H F' H'->Yields K F' J ds->R J H'
 | .ex C=>∀F' H',Step F0 H0 F' H'->Ψ C H'
 | .no=>False
noncomputable def VI (X:Cx)(F0 H0:Hp)(Ψ:Psi)(tg e:Expr)(f:Ev->RI):Prop:=PI X tg e (tVI X.K F0 H0 Ψ f)
noncomputable def forE (b:B1)(body:Ev->Fl):List D->Ev->Fl
 | [],ev=> .nx ev
 |d::ds,ev=>match b d ev with
  |none=> .no
  |some ev1=>match body ev1 with
   | .nx ev2=>forE b body ds ev2
   | .ct ev2=>forE b body ds ev2
   | .bk ev2=> .nx ev2
   |r=>r
noncomputable def forG (f:Ev->RI)(b:B1)(body:Ev->Fl)(ev:Ev):Fl:=match f ev with
 | .ok ds=>forE b body ds ev
 | .ex C=> .ex C
 | .no=> .no
section
variable {X:Cx}{K:PySem.W.Frag}{F0 H0 F H F' H':Hp}{Ψ:Psi}{σ:St}{ev:Ev}
theorem QoS {f:Ev->RI}{b:B1}{body:Ev->Fl}{E:Ends}(q:tSv K F0 H0 Ψ (forG f b body) E σ H):tFor (tVI K F0 H0 Ψ f) (gV K F0 H0 b) (tSv K F0 H0 Ψ body) E σ H:=by
 obtain⟨F,ev,fi,m⟩:=q
 refine⟨F,ev,fi,?_⟩
 unfold forG at m
 cases h1:f ev with
 |no=>rw[h1]at m;exact m
 |ex C=>rw[h1]at m;exact m
 |ok ds=>
  rw[h1]at m
  intro F1 H1 J s y
  refine⟨fun i m σ H=>m=ds.length-i/\i<=ds.length/\∃F ev,FI K F0 H0 F H ev σ/\Same F1 F/\FlowTo K F0 H0 Ψ F E (forE b body (ds.drop i) ev),
   ⟨ds.length,by simp,Nat.zero_le _,F1,ev,fi.later s, .refl _,FlowTo.mono m s.up⟩,?_⟩
  rintro i m σ H ⟨rfl,hi,F,ev,fi,up,fl⟩
  have sH:Same F1 H:=up.trans fi.sub
  by_cases hlt:i<ds.length
  .refine .inr ⟨y.go i H sH hlt,fun σ' H'=>∃F ev,FI K F0 H0 F H' ev σ'/\Same F1 F/\FlowTo K F0 H0 Ψ F E (forE b body (ds.drop (i+1)) ev),fun σ' H' n=>⟨ds.length-(i+1),by omega,rfl,hlt,n⟩,fun x H' yl=>?_⟩
   obtain⟨F2,d,s2,ed,r⟩:=y.yld i F H x H' up fi.sub hlt yl
   have e:ds.drop i=d::ds.drop (i+1):=by
    obtain⟨h,e'⟩:=List.getElem?_eq_some_iff.mp ed
    rw[←e']
    exact List.drop_eq_getElem_cons h
   rw[e]at fl
   simp only[forE]at fl
   cases q1:b d ev with
   |none=>rw[q1]at fl;exact fl.elim
   |some ev1=>
    rw[q1]at fl
    dsimp only at fl
    refine⟨F2,ev,d,ev1,fi.later s2,r,q1,fun H'' σ' hH fi'=>?_⟩
    subst hH
    refine⟨F2,ev1,fi',?_⟩
    have fl2:=FlowTo.mono fl s2.up
    cases q2:body ev1 with
    |nx ev2=>rw[q2]at fl2;exact fun F' H' σ' s' fi''=>⟨F',ev2,fi'',(up.trans s2.up).trans s',FlowTo.mono fl2 s'⟩
    |ct ev2=>rw[q2]at fl2;exact fun F' H' σ' s' fi''=>⟨F',ev2,fi'',(up.trans s2.up).trans s',FlowTo.mono fl2 s'⟩
    |bk ev2=>rw[q2]at fl2;exact fl2
    |rt k d=>rw[q2]at fl2;exact fl2
    |ex C=>rw[q2]at fl2;exact fl2
    |no=>rw[q2]at fl2;exact fl2
  .have e:i=ds.length:=by omega
   subst e
   rw[List.drop_length]at fl
   exact .inl ⟨y.stop _ H sH am,fl F H σ (.refl _) fi⟩
noncomputable def itR:R->RI
 | .ok .bo _=> .no
 | .ok _ (.lst ds)=> .ok ds
 | .ok _ (.scr ds)=> .ok ds
 | .ex C=> .ex C
 |_=> .no
theorem QeP {a:Addr}{vs:List V}{ds:List D}(h:SqL K F a vs)(r:Reps K F ds vs):Yields K F (Itl K a) ds where
 go:=fun i H s hi=>⟨vs,vs[i]'(by rw[←r.length];exact hi),Same.seq s h,by simp[←r.length,hi]⟩
 stop:=fun i H s hi=>⟨vs,Same.seq s h,by rw[←r.length];exact hi⟩
 yld:=fun i F1 H x H' s1 s2 hi y=>by
  obtain⟨rfl,y⟩:=y
  have e:=y vs (Same.seq (s1.trans s2) h)
  obtain⟨d,ed⟩:∃d,ds[i]?=some d:=⟨ds[i],by simp[hi]⟩
  obtain⟨v,ev,rv⟩:=r.get ed
  rw[e]at ev
  cases ev
  exact⟨F1,d, .refl s2,ed,rv.mono s1⟩
noncomputable def Qai (lo:Int)(n:Nat):List D:=(List.range n).map fun(i:Nat)=> .int (lo+i)
theorem Qek {lo:Int}{n:Nat}:Yields K F (Itr lo n) (Qai lo n) where
 go:=fun i H s hi=>by show i<n;simpa[Qai]using hi
 stop:=fun i H s hi=>by show n<=i;simpa[Qai]using hi
 yld:=fun i F1 H x H' s1 s2 hi y=>by
  obtain⟨rfl,rfl⟩:=y
  have hi:i<n:=by simpa[Qai]using hi
  exact⟨F1, .int (lo+i), .refl s2,by simp[Qai,hi],by rw[Rep]⟩
theorem QmJ {f:Ev->R}{Q:It->Hp->Prop}(h:tVI K F0 H0 Ψ (fun ev=>itR (f ev)) σ H Q):QqK K (tV K F0 H0 Ψ f) σ H Q:=by
 obtain⟨F,ev,fi,m⟩:=h
 dsimp only at m
 refine⟨F,ev,fi,?_⟩
 cases h1:f ev with
 |no=>rw[h1]at m;exact m
 |ex C=>rw[h1]at m;exact m
 |ok k d=>
  rw[h1]at m
  intro F1 v H1 p
  have go:∀F2,Post K F H .fz d F2 v H1->(∀ds,itR (.ok .fz d)= .ok ds->∀F' H' J,Step F H F' H'->Yields K F' J ds->Q J H')->(∀ds,d= .lst ds\/d= .scr ds->∃a,v= .ref a/\(∃xs,SqL K H1 a xs)/\Q (Itl K a) H1):=fun F2 p2 m ds hd=>by
   rcases hd with rfl|rfl
   .have r:=p2.val
    rw[Val,Rep]at r
    obtain⟨a,vs,e1,e2,e3⟩:=r
    exact⟨a,e1,⟨vs,SqL.of (p2.st.sub _ _ e2)⟩,m ds rfl F2 H1 _ p2.st (QeP (SqL.of e2) e3)⟩
   .have r:=p2.val
    rw[Val,Rep]at r
    obtain⟨a,vs,e1,e2,e3⟩:=r
    exact⟨a,e1,⟨vs,Same.seq p2.st.sub e2⟩,m ds rfl F2 H1 _ p2.st (QeP e2 e3)⟩
  cases k with
  |bo=>cases d<;>exact m.elim
  |fz=>
   cases d with
   |lst ds=>exact go F1 p (fun ds' e=>by cases e;exact m) ds (.inl rfl)
   |scr ds=>exact go F1 p (fun ds' e=>by cases e;exact m) ds (.inr rfl)
   |_=>exact m.elim
  |ow=>
   obtain⟨F2,p2⟩:=p.frz
   cases d with
   |lst ds=>exact go F2 p2 (fun ds' e=>by cases e;exact m) ds (.inl rfl)
   |scr ds=>exact go F2 p2 (fun ds' e=>by cases e;exact m) ds (.inr rfl)
   |_=>exact m.elim
noncomputable def QoT:RA->RI
 | .ok [(_, .int j)]=>if-(2^62)<=j/\j<2^62 then .ok (Qai 0 j.toNat)else .no
 | .ex C=> .ex C
 |_=> .no
theorem QmK {f:Ev->RA}{Q:It->Hp->Prop}(h:tVI K F0 H0 Ψ (fun ev=>QoT (f ev)) σ H Q):QqL (tVA K F0 H0 Ψ f) σ H Q:=by
 obtain⟨F,ev,fi,m⟩:=h
 dsimp only at m
 refine⟨F,ev,fi,?_⟩
 unfold QoT at m
 cases h1:f ev with
 |no=>rw[h1]at m;exact m
 |ex C=>rw[h1]at m;exact m
 |ok l=>
  rw[h1]at m
  intro F1 vs H1 s va
  split at m
  .rename_i ds hm
   split at hm
   .rename_i k j he
    cases he
    split at hm
    .rename_i hb
     cases hm
     obtain⟨v,r,rfl,_,hv,hr⟩:=va
     obtain rfl:r= []:=hr
     exact⟨j,by rw[hv.rd.int],hb.1,hb.2,m F1 H1 _ s Qek⟩
    .cases hm
   .rename_i he;cases he
   .cases hm
  .rename_i C hm
   split at hm
   .split at hm<;>cases hm
   .rename_i he;cases he
   .cases hm
  .exact m.elim
noncomputable def whlE (c:Ev->R)(body:Ev->Fl):Nat->Ev->Fl
 |0,_=> .no
 |n+1,ev=>match c ev with
  | .ok _ (.bl b)=>if b then(match body ev with
   | .nx ev2=>whlE c body n ev2
   | .ct ev2=>whlE c body n ev2
   | .bk ev2=> .nx ev2
   |r=>r)else .nx ev
  | .ex C=> .ex C
  |_=> .no
theorem QkZ {n:Nat}{c:Ev->R}{body:Ev->Fl}{E:Ends}(q:tSv K F0 H0 Ψ (whlE c body n) E σ H):QnM (tVT K F0 H0 Ψ c) (tSv K F0 H0 Ψ body) E σ H:=by
 obtain⟨F,ev,fi,m⟩:=q
 refine⟨fun m σ H=>∃F ev,FI K F0 H0 F H ev σ/\FlowTo K F0 H0 Ψ F E (whlE c body m ev),⟨n,F,ev,fi,m⟩,?_⟩
 rintro n σ H ⟨F,ev,fi,m⟩
 refine⟨F,ev,fi,?_⟩
 cases n with
 |zero=>exact m.elim
 |succ n=>
  simp only[whlE]at m
  cases h1:c ev with
  |no=>rw[h1]at m;exact m
  |ex C=>rw[h1]at m;exact m
  |ok k d=>
   rw[h1]at m
   cases d with
   |bl b=>
    intro F1 H1 p
    cases b with
    |false=>
     rw[if_neg Bool.false_ne_true]
     simp only[Bool.false_eq_true,if_false]at m
     exact m F1 H1 σ p.up (fi.later p)
    |true=>
     rw[if_pos rfl]
     simp only[if_true]at m
     refine⟨fun σ' H'=>∃F ev,FI K F0 H0 F H' ev σ'/\FlowTo K F0 H0 Ψ F E (whlE c body n ev),fun σ' H' h=>⟨n,Nat.lt_succ_self _,h⟩,F1,ev,fi.later p,?_⟩
     have m2:=FlowTo.mono m p.up
     cases q2:body ev with
     |nx ev2=>rw[q2]at m2;exact fun F' H' σ' s' fi''=>⟨F',ev2,fi'',FlowTo.mono m2 s'⟩
     |ct ev2=>rw[q2]at m2;exact fun F' H' σ' s' fi''=>⟨F',ev2,fi'',FlowTo.mono m2 s'⟩
     |bk ev2=>rw[q2]at m2;exact m2
     |rt k d=>rw[q2]at m2;exact m2
     |ex C=>rw[q2]at m2;exact m2
     |no=>rw[q2]at m2;exact m2
   |_=>exact m.elim
theorem FI.mut {i:Nat}{d d':D}{a:Addr}{o:HO}(f:FI K F0 H0 F H ev σ)(e:ev[i]?=some (some (.ow,d)))(hs:σ[i]?=some (some (.ref a)))(c:∀H2,H2 a=some o->Cell K F H2 a d'):
  FI K F0 H0 F (upd H a o) (ev.set i (some (.ow,d'))) σ:=by
 obtain⟨_,v,e1,b,hb,h1,h2,h3⟩:=f.at_ i _ _ e
 rw[hs]at e1
 have:V.ref a=v:=by simpa using e1
 subst this
 cases hb
 have hie:i<ev.length:=(List.getElem?_eq_some_iff.mp e).1
 have ne:∀{G:Hp},G a=none->Same G H->Same G (upd H a o):=fun{G} n s b u q=>by
  rw[Ql];exact s b u q
  rintro rfl;rw[n]at q;cases q
 have own:∀{m:Nat} {x:D},(ev.set i (some (Kd.ow,d')))[m]?=some (some (.ow,x))->∃y,ev[m]?=some (some (.ow,y)):=fun{m x} q=>by
  by_cases hm:i=m
  .subst hm;exact⟨d,e⟩
  .rw[List.getElem?_set_ne hm]at q;exact⟨x,q⟩
 refine⟨⟨f.st.up,ne h2 f.sub,ne h1 f.st.keep,f.st.new⟩,fun j k d2 q=>?_,fun j l d1 d2 hjl e1 e2=>?_,by simpa using f.len⟩
 .by_cases hj:i=j
  .subst hj
   rw[List.getElem?_set_self hie]at q
   cases q
   exact⟨by simp,_,hs,a,rfl,h1,h2,c _ Qs⟩
  .rw[List.getElem?_set_ne hj]at q
   obtain⟨n,u,e3,hu⟩:=f.at_ j k d2 q
   refine⟨n,u,e3,?_⟩
   cases k with
   |bo=>exact absurd rfl n
   |fz=>exact hu
   |ow=>
    obtain⟨b,rfl,g1,g2,g3⟩:=hu
    have hba:b≠a:=by
     rintro rfl
     exact f.apart i j d d2 hj e q (by rw[hs,e3])
    exact⟨b,rfl,g1,g2,g3.mono (.refl _) fun o' z=>by rw[Ql hba];exact z⟩
 .obtain⟨y1,z1⟩:=own e1
  obtain⟨y2,z2⟩:=own e2
  exact f.apart j l y1 y2 hjl z1 z2
end
end L3
namespace L3
open PySem L2
noncomputable def addD:G2
 | .int i, .int j=>some (.fz, .int (i+j))
 | .lst xs, .lst ys=>if xs.length+ys.length<=LIM then some (.ow, .lst (xs++ys))else none
 | .str x, .str y=>if x.length+y.length<=LIM then some (.fz, .str (x++y))else none
 |_,_=>none
noncomputable def subD:G2
 | .int i, .int j=>some (.fz, .int (i-j))
 |_,_=>none
noncomputable def mulL:G2
 | .int i, .int j=>if(-(2^64)<i/\i<2^64)\/(-(2^64)<j/\j<2^64)then some (.fz, .int (i*j))else none
 | .lst xs, .int k=>if-(2^63)<=k/\k<2^63/\xs.length*k.toNat<=LIM then some (.ow, .lst (List.replicate k.toNat xs).flatten)else none
 |_,_=>none
noncomputable def QaX:G2
 | .int i, .int j=>if 0<j/\j<2^200 then some (.fz, .int (i/j))else none
 |_,_=>none
noncomputable def modD:G2
 | .int i, .int j=>if 0<j then some (.fz, .int (i %j))else none
 |_,_=>none
noncomputable def powD:G2
 | .int i, .int j=>if 0<=j/\j<=1000000/\i.natAbs<2^64 then some (.fz, .int (i^j.toNat))else none
 |_,_=>none
noncomputable def ltD:G2
 | .int i, .int j=>some (.fz, .bl (decide (i<j)))
 |_,_=>none
noncomputable def leD:G2
 | .int i, .int j=>some (.fz, .bl (decide (i<=j)))
 |_,_=>none
noncomputable def gtD:G2
 | .int i, .int j=>some (.fz, .bl (decide (j<i)))
 |_,_=>none
noncomputable def geD:G2
 | .int i, .int j=>some (.fz, .bl (decide (j<=i)))
 |_,_=>none
noncomputable def isND:G2
 | .non, .non=>some (.fz, .bl true)
 |_, .non=>some (.fz, .bl false)
 |_,_=>none
noncomputable def Qb9:G2
 | .non, .non=>some (.fz, .bl false)
 |_, .non=>some (.fz, .bl true)
 |_,_=>none
noncomputable def idxL:G2
 | .lst xs, .int i=>(atI xs i).map fun d=>(.fz,d)
 | .scr xs, .int i=>(atI xs i).map fun d=>(.fz,d)
 | .tup xs, .int i=>(atI xs i).map fun d=>(.fz,d)
 |_,_=>none
section
variable {K:PySem.W.Frag}{X:Cx}
noncomputable abbrev Qra:R2:=fun x y H Q=>rI0 (fun i j=> .int (i+j)) x y H Q\/(rCat x y H Q\/∃i j,x= .str i/\y= .str j/\i.length+j.length<=sizeLine/\Q (.str (i++j)) H)
theorem QoU:OpR X (binaryOp .Add) Qra:=op_add.or (op_cat.or QjY)
theorem Qk0 {n:Nat}(h:n<=LIM):n<=sizeLine:=Nat.le_trans h QB
theorem Qrb:OkOp K Qra addD:=by
 intro F H dx dy x y k d Q s rx ry e q
 unfold addD at e
 split at e<;>first|(cases e;done)|skip
 .rename_i i j
  cases e
  exact .inl ⟨i,j,rx.int,ry.int,q F _ H aq⟩
 rotate_left
 .rename_i i j
  split at e
  .rename_i hl
   cases e
   exact .inr (.inr ⟨i,j,rx.str,ry.str,Qk0 hl,q F _ H aq⟩)
  .cases e
 .rename_i xs ys
  split at e
  .rename_i hl
   cases e
   obtain⟨a,vs,rfl,h1,h2⟩:=rx.lst s
   obtain⟨b,us,rfl,g1,g2⟩:=ry.lst s
   refine .inr (.inl ⟨a,b,vs,us,rfl,rfl,h1,g1,by rw[←h2.length,←g2.length];exact Qk0 hl,fun p hp=>?_⟩)
   exact q F _ _ (Post.own (.refl s) hp fun H2 e=>⟨_,e,h2.app g2⟩)
  .cases e
theorem Qrc:OkOp K (rI0 fun i j=> .int (i-j)) subD:=by
 intro F H dx dy x y k d Q s rx ry e q
 unfold subD at e
 split at e<;>first|(cases e;done)|skip
 rename_i i j
 cases e
 exact⟨i,j,rx.int,ry.int,q F _ H aq⟩
noncomputable abbrev Qrd:R2:=fun x y H Q=>rI CMul (fun i j=> .int (i*j)) x y H Q\/rRep x y H Q
theorem QoV:OpR X (binaryOp .Mult) Qrd:=op_mul.or Qq2
theorem ok_mulL:OkOp K Qrd mulL:=by
 intro F H dx dy x y k d Q s rx ry e q
 unfold mulL at e
 split at e<;>first|(cases e;done)|skip
 .rename_i i j
  split at e
  .rename_i hc
   cases e
   exact .inl ⟨i,j,rx.int,ry.int,hc,q F _ H aq⟩
  .cases e
 .rename_i xs j
  split at e
  .rename_i hc
   cases e
   obtain⟨a,vs,rfl,h1,h2⟩:=rx.lst s
   refine .inr ⟨a,j,vs,rfl,ry.int,h1,hc.1,hc.2.1,by rw[←h2.length];exact Qk0 hc.2.2,fun p hp=>?_⟩
   exact q F _ _ (Post.own (.refl s) hp fun H2 e=>⟨_,e,h2.rep _⟩)
  .cases e
noncomputable def Qre (i j:Int):Prop:=0<j/\j<2^200
theorem QmL {X:Cx}:OpR X (binaryOp .FloorDiv) (rI Qre fun i j=> .int (i/j)):=opI fun i j _ _ _ _ _ hc q=>by
 have h1:(0:Int)<j:=hc.1
 have h2:j<2^200:=hc.2
 refine PyProof.Rows.floordiv_int aa (by rw[Int.fdiv_eq_ediv_of_nonneg i aa];exact q) (.inl (PyProof.noPylong_of_log2 ?_))
 have h3:j.natAbs<2^200:=by omega
 have h4:j.natAbs.log2<200:=(Nat.log2_lt aa).2 h3
 omega
theorem QoW:OkOp K (rI Qre fun i j=> .int (i/j)) QaX:=by
 intro F H dx dy x y k d Q s rx ry e q
 unfold QaX at e
 split at e<;>first|(cases e;done)|skip
 rename_i i j
 split at e
 .rename_i hc
  cases e
  exact⟨i,j,rx.int,ry.int,hc,q F _ H aq⟩
 .cases e
theorem Qrf:OkOp K (rI (fun _ j=>0<j) fun i j=> .int (i %j)) modD:=by
 intro F H dx dy x y k d Q s rx ry e q
 unfold modD at e
 split at e<;>first|(cases e;done)|skip
 rename_i i j
 split at e
 .rename_i hc
  cases e
  exact⟨i,j,rx.int,ry.int,hc,q F _ H aq⟩
 .cases e
theorem Qrg:OkOp K (rI CPow fun i j=> .int (i^j.toNat)) powD:=by
 intro F H dx dy x y k d Q s rx ry e q
 unfold powD at e
 split at e<;>first|(cases e;done)|skip
 rename_i i j
 split at e
 .rename_i hc
  cases e
  exact⟨i,j,rx.int,ry.int,hc,q F _ H aq⟩
 .cases e
theorem Qtz:OkOp K (rI0 fun i j=> .bl (decide (i<j))) ltD:=by
 intro F H dx dy x y k d Q s rx ry e q
 unfold ltD at e
 split at e<;>first|(cases e;done)|skip
 rename_i i j
 cases e
 exact⟨i,j,rx.int,ry.int,q F _ H aq⟩
theorem QtA:OkOp K (rI0 fun i j=> .bl (decide (i<=j))) leD:=by
 intro F H dx dy x y k d Q s rx ry e q
 unfold leD at e
 split at e<;>first|(cases e;done)|skip
 rename_i i j
 cases e
 exact⟨i,j,rx.int,ry.int,q F _ H aq⟩
theorem QtB:OkOp K (rI0 fun i j=> .bl (decide (j<i))) gtD:=by
 intro F H dx dy x y k d Q s rx ry e q
 unfold gtD at e
 split at e<;>first|(cases e;done)|skip
 rename_i i j
 cases e
 exact⟨i,j,rx.int,ry.int,q F _ H aq⟩
theorem QtC:OkOp K (rI0 fun i j=> .bl (decide (j<=i))) geD:=by
 intro F H dx dy x y k d Q s rx ry e q
 unfold geD at e
 split at e<;>first|(cases e;done)|skip
 rename_i i j
 cases e
 exact⟨i,j,rx.int,ry.int,q F _ H aq⟩
theorem RdV.isn {F H:Hp}{d:D}{v:V}(h:RdV K F H d v):decide (v= .non)=(match d with| .non=>true|_=>false):=by
 rcases h with h|⟨a,rfl,h⟩
 .cases d<;>rw[Rep]at h
  all_goals first
   |(subst h;rfl)
   |(obtain⟨a,vs,rfl,_⟩:=h;rfl)
   |(obtain⟨a,C,dx,vs,rfl,_⟩:=h;rfl)
 .cases d<;>first|rfl|exact h.elim
theorem Qrh:OkOp K (fun x y H Q=>y= .non/\Q (.bl (decide (x= .non))) H) isND:=by
 intro F H dx dy x y k d Q s rx ry e q
 have hn:=rx.isn
 unfold isND at e
 split at e
 .cases e;exact⟨ry.non,by rw[hn];exact q F _ H aq⟩
 .rename_i h
  cases e
  refine⟨ry.non,?_⟩
  have:decide (x= .non)=false:=by
   rw[hn];split
   .exact(h rfl).elim
   .rfl
  rw[this];exact q F _ H aq
 .cases e
theorem QoX:OkOp K (fun x y H Q=>y= .non/\Q (.bl (!decide (x= .non))) H) Qb9:=by
 intro F H dx dy x y k d Q s rx ry e q
 have hn:=rx.isn
 unfold Qb9 at e
 split at e
 .cases e;exact⟨ry.non,by rw[hn];exact q F _ H (.pure (.refl s) (by rw[Rep];rfl))⟩
 .rename_i h
  cases e
  refine⟨ry.non,?_⟩
  have:decide (x= .non)=false:=by
   rw[hn];split
   .exact(h rfl).elim
   .rfl
  rw[this];exact q F _ H (.pure (.refl s) (by rw[Rep];rfl))
 .cases e
theorem Reps.atI {F:Hp}{ds:List D}{vs:List V}{i:Int}{d:D}(r:Reps K F ds vs)(e:atI ds i=some d):∃v,atI vs i=some v/\Rep K F d v:=by
 unfold L2.atI at e⊢
 rw[←r.length]
 cases q:ixN ds.length i with
 |none=>rw[q]at e;cases e
 |some j=>rw[q]at e;exact r.get e
theorem ok_idxL:OkOp K (rIx K) idxL:=by
 intro F H dx dy x y k d Q s rx ry e q
 unfold idxL at e
 split at e<;>first|(cases e;done)|skip
 rotate_right
 .rename_i xs i
  obtain⟨a,vs,rfl,h1,h2⟩:=rx.tup s
  cases q1:atI xs i with
  |none=>rw[q1]at e;cases e
  |some z=>
   rw[q1]at e;cases e
   obtain⟨v,e1,rv⟩:=h2.atI q1
   exact .inr (.inl ⟨a,vs,i,v,rfl,ry.int,SqT.of h1,e1,q F _ H (.pure (.refl s) rv)⟩)
 .rename_i xs i
  obtain⟨a,vs,rfl,h1,h2⟩:=rx.lst s
  cases q1:atI xs i with
  |none=>rw[q1]at e;cases e
  |some z=>
   rw[q1]at e;cases e
   obtain⟨v,e1,rv⟩:=h2.atI q1
   exact .inl ⟨a,vs,i,v,rfl,ry.int,SqL.of h1,e1,q F _ H (.pure (.refl s) rv)⟩
 .rename_i xs i
  obtain⟨a,vs,rfl,h1,h2⟩:=rx.scr s
  cases q1:atI xs i with
  |none=>rw[q1]at e;cases e
  |some z=>
   rw[q1]at e;cases e
   obtain⟨v,e1,rv⟩:=h2.atI q1
   exact .inl ⟨a,vs,i,v,rfl,ry.int,h1,e1,q F _ H (.pure (.refl s) rv)⟩
end
noncomputable def lenL:GN
 | [.lst xs]=>some (.fz, .int xs.length)
 | [.scr xs]=>some (.fz, .int xs.length)
 | [.tup xs]=>some (.fz, .int xs.length)
 |_=>none
noncomputable def Qk1:GN
 | [.int i, .int j]=>some (.fz, .int (if j<i then j else i))
 |_=>none
noncomputable def Qhq:GN
 | [.lst xs]=>some (.ow, .lst xs)
 | [.scr xs]=>some (.ow, .lst xs)
 | [.tup xs]=>some (.ow, .lst xs)
 |_=>none
section
variable {K:PySem.W.Frag}{X:Cx}
theorem QoY:Qb8 K (fun xs H Q=>∃p ys,xs= [.ref p]/\(SqL K H p ys\/SqT K H p ys)/\Q (.int ys.length) H) lenL:=by
 intro F H ds vs k d Q s r e q
 unfold lenL at e
 split at e
 .obtain⟨v,_,rfl,rx,rfl⟩:=r
  cases e
  obtain⟨a,us,rfl,h1,h2⟩:=rx.lst s
  exact⟨a,us,rfl, .inl (SqL.of h1),q F _ H (.pure (.refl s) (by rw[Rep,h2.length]))⟩
 .obtain⟨v,_,rfl,rx,rfl⟩:=r
  cases e
  obtain⟨a,us,rfl,h1,h2⟩:=rx.scr s
  exact⟨a,us,rfl, .inl h1,q F _ H (.pure (.refl s) (by rw[Rep,h2.length]))⟩
 .obtain⟨v,_,rfl,rx,rfl⟩:=r
  cases e
  obtain⟨a,us,rfl,h1,h2⟩:=rx.tup s
  exact⟨a,us,rfl, .inr (SqT.of h1),q F _ H (.pure (.refl s) (by rw[Rep,h2.length]))⟩
 .cases e
theorem QoZ:Qb8 K (fun xs H Q=>∃i j,xs= [.int i, .int j]/\Q (.int (if j<i then j else i)) H) Qk1:=by
 intro F H ds vs k d Q s r e q
 unfold Qk1 at e
 split at e
 .rename_i i j
  obtain⟨v,_,rfl,rx,u,_,rfl,ry,rfl⟩:=r
  cases e
  exact⟨i,j,by rw[rx.int,ry.int],q F _ H aq⟩
 .cases e
theorem Qo0:Qb8 K (fun xs H Q=>∃p ys,xs= [.ref p]/\(SqL K H p ys\/SqT K H p ys)/\∀l,H l=none->Q (.ref l) (upd H l (.lst ys))) Qhq:=by
 intro F H ds vs k d Q s r e q
 unfold Qhq at e
 split at e
 .obtain⟨v,_,rfl,rx,rfl⟩:=r
  cases e
  obtain⟨a,us,rfl,h1,h2⟩:=rx.lst s
  exact⟨a,us,rfl, .inl (SqL.of h1),fun l hl=>q F _ _ (Post.own (.refl s) hl fun H2 e=>⟨_,e,h2⟩)⟩
 .obtain⟨v,_,rfl,rx,rfl⟩:=r
  cases e
  obtain⟨a,us,rfl,h1,h2⟩:=rx.scr s
  exact⟨a,us,rfl, .inl h1,fun l hl=>q F _ _ (Post.own (.refl s) hl fun H2 e=>⟨_,e,h2⟩)⟩
 .obtain⟨v,_,rfl,rx,rfl⟩:=r
  cases e
  obtain⟨a,us,rfl,h1,h2⟩:=rx.tup s
  exact⟨a,us,rfl, .inr (SqT.of h1),fun l hl=>q F _ _ (Post.own (.refl s) hl fun H2 e=>⟨_,e,h2⟩)⟩
 .cases e
end
end L3
namespace L3
open PySem L2
noncomputable def eOp (g:G2)(f1 f2:Ev->R)(ev:Ev):R:=op2 g (f1 ev) (f2 ev)
noncomputable def eAnd (f g:Ev->R)(ev:Ev):R:=andR (f ev) (g ev)
noncomputable def eOr (f g:Ev->R)(ev:Ev):R:=orR (f ev) (g ev)
noncomputable def eNot (f:Ev->R)(ev:Ev):R:=notR (f ev)
noncomputable def eIf (c f g:Ev->R)(ev:Ev):R:=ifR (c ev) (f ev) (g ev)
noncomputable def aNil (_:Ev):RA:= .ok []
noncomputable def Qc (f:Ev->R)(fs:Ev->RA)(ev:Ev):RA:=Qhp (f ev) (fs ev)
noncomputable def eTup (fs:Ev->RA)(ev:Ev):R:=tupR (fs ev)
noncomputable def eLst (fs:Ev->RA)(ev:Ev):R:=lstR (fs ev)
noncomputable def QV (g:GN)(fs:Ev->RA)(ev:Ev):R:=QmE g (fs ev)
noncomputable def iLst (f:Ev->R)(ev:Ev):RI:=itR (f ev)
noncomputable def Qih:D->Bool
 | .non=>true
 | .bl _=>true
 | .int _=>true
 | .str _=>true
 |_=>false
noncomputable def fnR (n:Nat)(φ:List D->R):RA->R
 | .ok l=>if l.length=n then(match QaS l with
  |some ds=>match φ ds with
   | .ok .fz d=> .ok .fz d
   | .ok .ow d=> .ok .ow d
   |_=> .no
  |none=>match φ (l.map (·.2))with
   | .ok .bo _=> .no
   | .ok _ d=>if Qih d then .ok .fz d else .no
   |_=> .no)else .no
 | .ex C=> .ex C
 | .no=> .no
noncomputable def eFn (n:Nat)(φ:List D->R)(fs:Ev->RA)(ev:Ev):R:=fnR n φ (fs ev)
noncomputable def ev0 (n:Nat)(ds:List D):Ev:=ds.map (fun d=>some (.fz,d))++List.replicate n none
noncomputable def runF (n:Nat)(g:Ev->Fl)(ds:List D):R:=match g (ev0 n ds)with
 | .rt .bo _=> .no
 | .rt k d=> .ok k d
 | .nx _=> .ok .fz .non
 | .ex C=> .ex C
 |_=> .no
noncomputable def appG (i:Nat)(f:Ev->R)(ev:Ev):Fl:=match ev[i]? with
 |some (some (.ow, .lst ds))=>match f ev with
  | .ok .bo _=> .no
  | .ok _ d=>if ds.length<LIM then .nx (ev.set i (some (.ow, .lst (ds++ [d]))))else .no
  | .ex C=> .ex C
  | .no=> .no
 |_=> .no
noncomputable def QmM (i:Nat)(f v:Ev->R)(ev:Ev):Fl:=match v ev with
 | .ok .bo _=> .no
 | .ok _ d=>match ev[i]? with
  |some (some (.ow, .lst ds))=>match f ev with
   | .ok _ (.int k)=>match ixN ds.length k with
    |some j=> .nx (ev.set i (some (.ow, .lst (ds.set j d))))
    |none=> .no
   | .ex C=> .ex C
   |_=> .no
  |_=> .no
 | .ex C=> .ex C
 | .no=> .no
noncomputable def frzG (i:Nat)(g:Ev->Fl)(ev:Ev):Fl:=g (Qj6 i ev)
section
variable {X:Cx}{F0 H0:Hp}{Ψ:Psi}{a b c e:Expr}{es:List Expr}{f f1 f2 f3:Ev->R}{fs:Ev->RA}{pos:Pos}
theorem Qb (i:Nat){x:Str}(hN:X.N[i]?=some x:=by rfl)(hv:Vis X.env.scope x:=by first|exact Or.inl rfl|exact Or.inr (Or.inl rfl)|exact Or.inr (Or.inr rfl))(hd:aJ=false:=by decide)
  (hcd:(x==("__classdict__":Str))=false:=by decide):VE X F0 H0 Ψ (.Name x pos) (varR i):=(QeJ hN hv hd hcd).mono fun _ _ _ h=>QoG h
theorem Qf {i j}:VE X F0 H0 Ψ (.Constant (.int i) j pos) (conR (.int i)):=pe_int.mono fun _ _ _ h=>QkX (by rw[Rep]) h
theorem v_bl {i j}:VE X F0 H0 Ψ (.Constant (.bool i) j pos) (conR (.bl i)):=pe_bl.mono fun _ _ _ h=>QkX (by rw[Rep]) h
theorem Qal {j}:VE X F0 H0 Ψ (.Constant .none j pos) aK:=pe_non.mono fun _ _ _ h=>QkX (by rw[Rep]) h
theorem Qb5 {i j}:VE X F0 H0 Ψ (.Constant (.str i) j pos) (conR (.str i)):=pe_str.mono fun _ _ _ h=>QkX (by rw[Rep]) h
theorem Qj7 {op:Operator}{r:R2}{g:G2}(ho:OpR X (binaryOp op) r)(hg:OkOp X.K r g)(ha:VE X F0 H0 Ψ a f1)(hb:VE X F0 H0 Ψ b f2):VE X F0 H0 Ψ (.BinOp a op b pos) (eOp g f1 f2):=(Qtm ho ha hb).mono fun _ _ _ h=>Qho hg h
theorem QU (ha:VE X F0 H0 Ψ a f1)(hb:VE X F0 H0 Ψ b f2):VE X F0 H0 Ψ (.BinOp a .Add b pos) (eOp addD f1 f2):=Qj7 QoU Qrb ha hb
theorem Qhr (ha:VE X F0 H0 Ψ a f1)(hb:VE X F0 H0 Ψ b f2):VE X F0 H0 Ψ (.BinOp a .Sub b pos) (eOp subD f1 f2):=Qj7 QqN Qrc ha hb
theorem Qan (ha:VE X F0 H0 Ψ a f1)(hb:VE X F0 H0 Ψ b f2):VE X F0 H0 Ψ (.BinOp a .FloorDiv b pos) (eOp QaX f1 f2):=Qj7 QmL QoW ha hb
theorem QY (ha:VE X F0 H0 Ψ a f1)(hb:VE X F0 H0 Ψ b f2):VE X F0 H0 Ψ (.BinOp a .Mod b pos) (eOp modD f1 f2):=Qj7 QqO Qrf ha hb
theorem Qo1 (ha:VE X F0 H0 Ψ a f1)(hb:VE X F0 H0 Ψ b f2):VE X F0 H0 Ψ (.BinOp a .Pow b pos) (eOp powD f1 f2):=Qj7 QqP Qrg ha hb
noncomputable def Qdy (X:Cx)(op:CmpOp)(g:G2):Prop:=∃r:R2,OpR X (compareOp op) r/\OkOp X.K r g
theorem c_lt:Qdy X .Lt ltD:=⟨_,Qto,Qtz⟩
theorem c_le:Qdy X .LtE leD:=⟨_,Qtp,QtA⟩
theorem c_gt:Qdy X .Gt gtD:=⟨_,Qtq,QtB⟩
theorem c_ge:Qdy X .GtE geD:=⟨_,Qtr,QtC⟩
theorem Qgm:Qdy X .Is isND:=⟨_,QqR,Qrh⟩
theorem QcO:Qdy X .IsNot Qb9:=⟨_,Qoq,QoX⟩
theorem Qgn {op:CmpOp}{g:G2}(hc:Qdy X op g)(ha:VE X F0 H0 Ψ a f1)(hb:VE X F0 H0 Ψ b f2)(hm:behindInMarks op b=false:=by first|exact QnO _|rfl):VE X F0 H0 Ψ (.Compare a [op] [b] pos) (eOp g f1 f2):=let ⟨_,ho,hg⟩:=hc;(Qor ho ha hb hm).mono fun _ _ _ h=>Qho hg h
theorem Qm {op:CmpOp}{g:G2}(hc:Qdy X op g)(ha:VE X F0 H0 Ψ a f1)(hb:VE X F0 H0 Ψ b f2)(hm:behindInMarks op b=false:=by first|exact QnO _|rfl):VT X F0 H0 Ψ (.Compare a [op] [b] pos) (eOp g f1 f2):=
 let ⟨_,ho,hg⟩:=hc;(Qos ho ha hb hm).mono fun σ H Q h=>by
  obtain⟨F,ev,fi,m⟩:=h
  exact Qho (K:=X.K) (F0:=F0) (H0:=H0) (Ψ:=Ψ) (f1:=f1) (f2:=f2) hg (Q:=fun x H'=>∃k,x= .bl k/\Q k H') (by
   refine⟨F,ev,fi,?_⟩
   show match eOp g f1 f2 ev with
    | .ok k d=>∀F' v H',Post X.K F H k d F' v H'->∃k,v= .bl k/\Q k H'
    | .ex C=>∀F' H',Step F0 H0 F' H'->Ψ C H'
    | .no=>False
   cases q:eOp g f1 f2 ev with
   |no=>rw[q]at m;exact m
   |ex C=>rw[q]at m;exact m
   |ok k d=>
    rw[q]at m
    intro F' v H' p
    cases d with
    |bl b=>exact⟨b,p.val.rd.bl,m F' H' p.st⟩
    |_=>exact m.elim)
theorem QeQ (h:VE X F0 H0 Ψ e f)(he:∀whole,isTrue e X.env whole=(do let v←whole;standAt e.pos;holding [v] (truthy v)):=by intro _;rfl):VT X F0 H0 Ψ e f:=(Qqv h he).mono fun _ _ _ q=>Qty q
theorem Qbn (h:VT X F0 H0 Ψ a f):VW X F0 H0 Ψ (.BoolOp .And [a] pos) f:=Qom h
theorem Qel (h:VT X F0 H0 Ψ a f):VW X F0 H0 Ψ (.BoolOp .Or [a] pos) f:=Qqw h
theorem Qca {rest:List Expr}(ha:VT X F0 H0 Ψ a f1)(hb:VW X F0 H0 Ψ (.BoolOp .And (b::rest) pos) f2):VW X F0 H0 Ψ (.BoolOp .And (a::b::rest) pos) (eAnd f1 f2):=(Qqx ha hb).mono fun _ _ _ q=>QoH q
theorem Qgo {rest:List Expr}(ha:VT X F0 H0 Ψ a f1)(hb:VW X F0 H0 Ψ (.BoolOp .Or (b::rest) pos) f2):VW X F0 H0 Ψ (.BoolOp .Or (a::b::rest) pos) (eOr f1 f2):=(Qtj ha hb).mono fun _ _ _ q=>Qq8 q
theorem vt_w (h:VW X F0 H0 Ψ e f):VT X F0 H0 Ψ e f:=PW.pt h
theorem Qri (h:VT X F0 H0 Ψ a f):VT X F0 H0 Ψ (.UnaryOp .Not a pos) (eNot f):=(Qqy h).mono fun _ _ _ q=>QoI q
theorem QmN {op}(h:VE X F0 H0 Ψ a f):VE X F0 H0 Ψ (.BoolOp op [a] pos) f:=QqA h
theorem Qrj {rest:List Expr}(ha:VE X F0 H0 Ψ a f1)(hb:VE X F0 H0 Ψ (.BoolOp .And (b::rest) pos) f2):VE X F0 H0 Ψ (.BoolOp .And (a::b::rest) pos) (eAnd f1 f2):=(QqB ha hb).mono fun _ _ _ q=>QmC q
theorem v_or {rest:List Expr}(ha:VE X F0 H0 Ψ a f1)(hb:VE X F0 H0 Ψ (.BoolOp .Or (b::rest) pos) f2):VE X F0 H0 Ψ (.BoolOp .Or (a::b::rest) pos) (eOr f1 f2):=(Qtk ha hb).mono fun _ _ _ q=>QoJ q
theorem v_if (hc:VT X F0 H0 Ψ c f1)(ha:VE X F0 H0 Ψ a f2)(hb:VE X F0 H0 Ψ b f3):VE X F0 H0 Ψ (.IfExp c a b pos) (eIf f1 f2 f3):=(Qmk hc ha hb).mono fun _ _ _ q=>Qq9 q
theorem Qe:VA X F0 H0 Ψ [] aNil:=pa_nil.mono fun _ _ _ q=>QoK q
theorem Qa (ha:VE X F0 H0 Ψ e f)(hr:VA X F0 H0 Ψ es fs)(hs:starEach aO X.env=(false,eval e X.env)::starEach es X.env:=by rfl):VA X F0 H0 Ψ aO (Qc f fs):=(Qbl ha hr hs).mono fun _ _ _ q=>QmD q
theorem Qao {x1}(h:VA X F0 H0 Ψ es fs):VE X F0 H0 Ψ (.Tuple es x1 pos) (eTup fs):=(QqW h).mono fun _ _ _ q=>QoL q
theorem Qbe (h:VA X F0 H0 Ψ es fs):VE X F0 H0 Ψ (.List es pos) (eLst fs):=(QqX h).mono fun _ _ _ q=>QoM q
theorem QdT {x:Str}{p:Pos}{id:String}{r:List V->Hp->VK->Prop}{g:GN}(hc:Qdv X (.builtin id) r)(hg:Qb8 X.K r g)(hm:X.mg x=none)(hv:bootBuiltins x=some (.builtin id))(ha:VA X F0 H0 Ψ aO fs)(hgl:Gl X x:=by rfl)
  (hn:x≠"__name__":=by decide) (hdb:aJ=false:=by decide)
  (he:starEach aO X.env=(false,eval e X.env)::starEach es X.env:=by rfl) (hpl:(backTo pos aM).any (·.1)=false:=by rfl):VE X F0 H0 Ψ (.Call (.Name x p) aO [] pos) (QV g fs):=(Qi3 hc hgl hm hv ha hn hdb he hpl).mono fun _ _ _ q=>QnS hg q
theorem Qk2 {x:Str}{p:Pos}{T:String}{r:List V->Hp->VK->Prop}{g:GN}(hc:Qdv X (.type T) r)(hg:Qb8 X.K r g)(hm:X.mg x=none)(hv:bootBuiltins x=some (.type T))(ha:VA X F0 H0 Ψ aO fs)(hgl:Gl X x:=by rfl)
  (hn:x≠"__name__":=by decide) (hdb:aJ=false:=by decide)
  (he:starEach aO X.env=(false,eval e X.env)::starEach es X.env:=by rfl) (hpl:(backTo pos aM).any (·.1)=false:=by rfl):VE X F0 H0 Ψ (.Call (.Name x p) aO [] pos) (QV g fs):=(Qhi hc hgl hm hv ha hn hdb he hpl).mono fun _ _ _ q=>QnS hg q
theorem Qrk {p:Pos}(hm:X.mg "len"=none)(ha:VA X F0 H0 Ψ [e] fs)(hgl:Gl X "len":=by rfl)(he:starEach [e] X.env=(false,eval e X.env)::starEach [] X.env:=by rfl):VE X F0 H0 Ψ (.Call (.Name "len" p) [e] [] pos) (QV lenL fs):=QdT Qhj QoY hm PySem.boot_len ha hgl aj aj he
theorem Qi6 {p:Pos}(hm:X.mg "list"=none)(ha:VA X F0 H0 Ψ [e] fs)(hgl:Gl X "list":=by rfl)(he:starEach [e] X.env=(false,eval e X.env)::starEach [] X.env:=by rfl):VE X F0 H0 Ψ (.Call (.Name "list" p) [e] [] pos) (QV Qhq fs):=Qk2 Qhk Qo0 hm (by rfl) ha hgl aj aj he
variable {st:Stmt}{rest body orelse:List Stmt}{g h:Ev->Fl}
theorem QF:VSs X F0 H0 Ψ [] .nx:=pss_nil.mono fun _ _ _ q=>QmF q
theorem Qd (h1:VS X F0 H0 Ψ st g)(h2:VSs X F0 H0 Ψ rest h):VSs X F0 H0 Ψ (st::rest) (seqG g h):=(Qi1 h1 h2).mono fun _ _ _ q=>QoN q
theorem Qh (h1:VS X F0 H0 Ψ st g):VSs X F0 H0 Ψ [st] g:=Qon h1
theorem QeR:VS X F0 H0 Ψ (.Continue pos) .ct:=ps_continue.mono fun _ _ _ q=>QmG q
theorem Qz (he:VE X F0 H0 Ψ e f):VS X F0 H0 Ψ (.Return (some e) pos) (retG f):=(QnJ he).mono fun _ _ _ q=>QoO q
theorem QdU (i:Nat){x:Str}{p:Pos}(hN:X.N[i]?=some x:=by rfl)(hv:Vis X.env.scope x:=by first|exact Or.inl rfl|exact Or.inr (Or.inl rfl)|exact Or.inr (Or.inr rfl))(hd:aJ=false:=by decide)
  (hcd:(x==("__classdict__":Str))=false:=by decide):VS X F0 H0 Ψ (.Return (some (.Name x p)) pos) (Qbm i):=(QnJ (QeJ hN hv hd hcd)).mono fun _ _ _ q=>Qj5 q
theorem Qab (hc:VT X F0 H0 Ψ c f)(ha:VSs X F0 H0 Ψ body g)(hb:VSs X F0 H0 Ψ orelse h):VS X F0 H0 Ψ (.If c body orelse pos) (ifG f g h):=(Qtl hc ha hb).mono fun _ _ _ q=>QoP q
theorem Qi (i:Nat){x:Str}{pos':Pos}(hN:X.N.Nodup)(he:VE X F0 H0 Ψ e f)(hi:X.N[i]?=some x:=by rfl)(hx:Loc X.env.scope x:=by first|exact Or.inl rfl|exact Or.inr rfl)(hs:swapsWith e (some (.Name x pos')) pos.line X.env=pure false:=by rfl)
  (hf:X.fn x=true\/X.env.scope.names.lookup x=some .local:=by first|exact .inl rfl|exact .inr rfl):VS X F0 H0 Ψ (.Assign [.Name x pos'] e pos) (setG i f):=(QqG hN hi hx he hs hf).mono fun _ _ _ q=>QkY q
noncomputable def VG (X:Cx)(F0 H0:Hp)(t:Expr)(b:B1):Prop:=PG X t (gV X.K F0 H0 b)
noncomputable def VGs (X:Cx)(F0 H0:Hp)(ts:List Expr)(b:BN):Prop:=PGs X ts (gVs X.K F0 H0 b)
theorem Qk (i:Nat){x:Str}(hN:X.N.Nodup)(hi:X.N[i]?=some x:=by rfl)(hx:Loc X.env.scope x:=by first|exact Or.inl rfl|exact Or.inr rfl)
  (hf:X.fn x=true\/X.env.scope.names.lookup x=some .local:=by first|exact .inl rfl|exact .inr rfl):VG X F0 H0 (.Name x pos) (Qq i):=(QkE hN hi hx hf).mono fun _ _ _ _ q=>QmH q
theorem Qem:VGs X F0 H0 [] bNil:=pgs_nil.mono fun _ _ _ _ q=>QoQ q
theorem QC {t:Expr}{ts:List Expr}{b1:B1}{bn:BN}(h1:VG X F0 H0 t b1)(h2:VGs X F0 H0 ts bn)(hs:(assignEach (t::ts) X.env).map (·.2)=assign t X.env::(assignEach ts X.env).map (·.2):=by rfl):VGs X F0 H0 (t::ts) (QaM b1 bn):=(Qml h1 h2 hs).mono fun _ _ _ _ q=>QmI q
theorem Qen {ts:List Expr}{k n:Nat}{bn:BN}(hc:X.calm=true)(h:VGs X F0 H0 ts bn)(hn:(assignEach ts X.env).length=n:=by rfl)(hst:(assignEach ts X.env).findIdx? (·.1)=none:=by rfl):VG X F0 H0 (.Tuple ts k pos) (bTup n bn):=(QqF hc h hn hst).mono fun _ _ _ _ q=>QoR q
variable {tg iter:Expr}{fi:Ev->RI}
theorem QM (h:VE X F0 H0 Ψ e f):VI X F0 H0 Ψ tg e (iLst f):=(Qop h).mono fun _ _ _ q=>QmJ q
theorem Qap {b1:B1}(hp:PassesOwn ah X.A X.env X.xe)(hc:X.calm=true)(hi:VI X F0 H0 Ψ tg iter fi)(hg:VG X F0 H0 tg b1)(hb:VSs X F0 H0 Ψ body g)(hs:∀x,foldedSetIterable iter X.env x=pure x:=by intro _;rfl):
  VS X F0 H0 Ψ (.For tg iter body [] pos) (forG fi b1 g):=(QqM hp hc hi hg hb hs).mono fun _ _ _ q=>QoS q
theorem Qgp (n:Nat)(hp:PassesOwn ah X.A X.env X.xe)(hc:VT X F0 H0 Ψ c f)(hb:VSs X F0 H0 Ψ body g):VS X F0 H0 Ψ (.While c body [] pos) (whlE f g n):=(Qmm hp hc hb).mono fun _ _ _ q=>QkZ q
theorem QG (i:Nat){sts:List Stmt}(h:VSs X F0 H0 Ψ sts g):VSs X F0 H0 Ψ sts (frzG i g):=h.mono fun E σ H q=>by
 obtain⟨F,ev,fi,m⟩:=q
 obtain⟨F',s,fi'⟩:=fi.frz i
 exact⟨F',Qj6 i ev,fi',FlowTo.mono m s⟩
end
end L3
namespace L3
open PySem L2
section
variable {X:Cx}{K:PySem.W.Frag}{F0 H0 F H F' H':Hp}{Ψ:Psi}{σ:St}{ev:Ev}
theorem FI.ow {i:Nat}{ds:List D}(fi:FI K F0 H0 F H ev σ)(e:ev[i]?=some (some (.ow, .lst ds))):∃a vs,σ[i]?=some (some (.ref a))/\H a=some (.lst vs)/\Reps K F ds vs:=by
 obtain⟨_,v,e1,a,rfl,h1,h2,vs,h3,h4⟩:=fi.at_ i _ _ e
 exact⟨a,vs,e1,h3,h4⟩
theorem Qo2 {i:Nat}{f:Ev->R}{E:Ends}(q:tSv K F0 H0 Ψ (appG i f) E σ H):Qoo (tBM K "list" Qib (tVar i) (Qms (tV K F0 H0 Ψ f) tNil)) E σ H:=by
 obtain⟨F,ev,fi,m⟩:=q
 unfold appG at m
 split at m
 .rename_i ds e
  obtain⟨a,vs,e1,h1,h2⟩:=fi.ow e
  refine⟨.ref a,e1, .inl ⟨rfl,vs,SqL.of h1⟩,F,ev,fi,?_⟩
  cases h3:f ev with
  |no=>rw[h3]at m;exact m
  |ex C=>rw[h3]at m;exact m
  |ok k d=>
   rw[h3]at m
   intro F1 y H1 p
   have go:∀F2,Post K F H .fz d F2 y H1->FlowTo K F0 H0 Ψ F E (if ds.length<LIM then .nx (ev.set i (some (.ow, .lst (ds++ [d]))))else .no)->Qib (.ref a) [y] H1 fun _ H1=>E.nx σ H1:=fun F2 p2 m=>by
    by_cases hl:ds.length<LIM
    .rw[if_pos hl]at m
     refine⟨a,vs,y,rfl,rfl,p2.st.keep _ _ h1,by rw[←h2.length];exact Nat.lt_of_lt_of_le hl QB,?_⟩
     exact m F2 _ σ p2.st.up ((fi.later p2.st).mut e e1 fun H2 z=>⟨_,z,(h2.mono p2.st.up).app (.cons p2.val .nil)⟩)
    .rw[if_neg hl]at m;exact m.elim
   cases k with
   |bo=>exact m.elim
   |fz=>exact go F1 p m
   |ow=>obtain⟨F2,p2⟩:=p.frz;exact go F2 p2 m
 .exact m.elim
theorem Qj8 {i:Nat}{f v:Ev->R}{E:Ends}(q:tSv K F0 H0 Ψ (QmM i f v) E σ H):tAsg (tV K F0 H0 Ψ v) (gSub (tVar i) (tV K F0 H0 Ψ f) Qoy) E σ H:=by
 obtain⟨F,ev,fi,m⟩:=q
 refine⟨F,ev,fi,?_⟩
 unfold QmM at m
 cases h3:v ev with
 |no=>rw[h3]at m;exact m
 |ex C=>rw[h3]at m;exact m
 |ok k d=>
  rw[h3]at m
  intro F1 y H1 p
  have go:∀F2,Post K F H .fz d F2 y H1->FlowTo K F0 H0 Ψ F E (match ev[i]? with
   |some (some (.ow, .lst ds))=>match f ev with
    | .ok _ (.int k)=>match ixN ds.length k with
     |some j=> .nx (ev.set i (some (.ow, .lst (ds.set j d))))
     |none=> .no
    | .ex C=> .ex C
    |_=> .no
   |_=> .no)->gSub (tVar i) (tV K F0 H0 Ψ f) Qoy y σ H1 E.nx:=fun F2 p2 m=>by
   split at m
   .rename_i ds e
    obtain⟨a,vs,e1,h1,h2⟩:=fi.ow e
    refine⟨.ref a,e1,F2,ev,fi.later p2.st,?_⟩
    cases h4:f ev with
    |no=>rw[h4]at m;exact m
    |ex C=>rw[h4]at m;exact m
    |ok k' d'=>
     rw[h4]at m
     intro F3 z H3 p3
     cases d' with
     |int n=>
      dsimp only at m
      cases h5:ixN ds.length n with
      |none=>rw[h5]at m;exact m.elim
      |some j=>
       rw[h5]at m
       have st:=p2.st.trans p3.st
       refine⟨a,vs,n,j,rfl,p3.val.rd.int,st.keep _ _ h1,by rw[←h2.length];exact h5,?_⟩
       exact m F3 _ σ st.up ((fi.later st).mut e e1 fun H2 z=>⟨_,z,(h2.mono st.up).set (p2.val.later p3.st) j⟩)
     |_=>exact m.elim
   .exact m.elim
  cases k with
  |bo=>exact m.elim
  |fz=>exact go F1 p m
  |ow=>obtain⟨F2,p2⟩:=p.frz;exact go F2 p2 m
variable {e i':Expr}{f v:Ev->R}{x:Str}{p apos cpos pos:Pos}
theorem QeS (i:Nat)(he:VE X F0 H0 Ψ e f)(hN:X.N[i]?=some x:=by rfl)(hv:Vis X.env.scope x:=by first|exact Or.inl rfl|exact Or.inr (Or.inl rfl)|exact Or.inr (Or.inr rfl))(hd:aJ=false:=by decide)
  (hcd:(x==("__classdict__":Str))=false:=by decide) (hbase:attributeBase (.Name x p) "append" X.env (eval (.Name x p) X.env)=eval (.Name x p) X.env:=by rfl)
  (hfew:((backTo cpos (starEach [e] X.env)).all (fun x=> !x.1)&&(backToKw cpos (keywordEach [] X.env)).all (fun x=>x.1.isSome)
   &&decide ([e].length+([]:List Keyword).length+(if([]:List Keyword).isEmpty then 0 else 1)<30))=true:=by rfl)
  (hline:(apos.endLine==cpos.line)=true:=by rfl) (hs:starEach [e] X.env=(false,eval e X.env)::starEach [] X.env:=by rfl) (hplain:(backTo cpos (starEach [] X.env)).any (·.1)=false:=by rfl)
  (hsw:swapsWith (.Call (.Attribute (.Name x p) "append" apos) [e] [] cpos) none pos.line X.env=pure false:=by rfl):
  VS X F0 H0 Ψ (.Expr (.Call (.Attribute (.Name x p) "append" apos) [e] [] cpos) pos) (appG i f):=
 (QkD (Qq1 PySem.F.plainAttrs_list PySem.F.slot_list_append PySem.F.type_list_append Qhm (QeJ hN hv hd hcd) (Qbl he pa_nil hs) hbase hfew hline hs hplain) hsw).mono fun _ _ _ q=>Qo2 q
end
noncomputable def spV0 (K:PySem.W.Frag)(φ:List D->R)(n:Nat):Sp:=fun vs H Q _=>∃F ds,Same F H/\Reps K F ds vs/\ds.length=n/\match φ ds with
 | .ok k d=>k≠ .bo/\∀F' v H',Post K F H k d F' v H'->Q v H'
 |_=>False
noncomputable abbrev Psi0:Psi:=fun _ _=>False
structure Callee (P:Program)(w:World)(K:PySem.W.Frag)(mg:Str->Option Value)(base:Heap)(k:Nat)(x:Str)(n:Nat)(φ:List D->R):Prop where
 ex:∃f fd ps,FnOk P w K mg base CX0 k f fd ps (spV0 K φ n)/\Binds K fd ps []/\mg x=some (.ref f)/\PySem.W.keepIn K (.ref f)=true
section
variable {X:Cx}{F0 H0:Hp}{Ψ:Psi}{k n:Nat}{x:Str}{φ:List D->R}{p pos:Pos}{e:Expr}{es:List Expr}{fs:Ev->RA}
theorem Qi7 {K:PySem.W.Frag}{F F' H:Hp}{d:D}{v:V}(s:Qih d=true)(h:RdV K F H d v):Rep K F' d v:=by
 cases d<;>first|cases s|skip
 .rw[Rep];exact h.non
 .rw[Rep];exact h.bl
 .rw[Rep];exact h.int
 .rw[Rep];exact h.str
theorem v_fn (C:Callee X.prog X.w X.K X.mg X.base k x n φ)(hr:Room k X.A)(ha:VA X F0 H0 Ψ aO fs)(hg:Gl X x:=by rfl)(hdb:aJ=false:=by decide)
  (he:starEach aO X.env=(false,eval e X.env)::starEach es X.env:=by rfl) (hpl:(backTo pos aM).any (·.1)=false:=by rfl):
  VE X F0 H0 Ψ (.Call (.Name x p) aO [] pos) (eFn n φ fs):=by
 obtain⟨f,fd,ps,Fk,hb,hm,hk⟩:=C.ex
 refine(Qow (E:=E0) (dvs:= []) (ds:= []) Fk hr hg hm hk hb .nil QoF ha hdb he hpl).mono fun σ H Q h=>?_
 obtain⟨F,ev,fi,m⟩:=h
 refine⟨F,ev,fi,?_⟩
 unfold eFn at m
 cases h1:fs ev with
 |no=>rw[h1]at m;exact m
 |ex C=>rw[h1]at m;exact m
 |ok l=>
  rw[h1]at m
  intro F1 vs H1 s va
  rw[List.append_nil]
  simp only[fnR]at m
  by_cases hn:l.length=n
  .rw[if_pos hn]at m
   cases h2:QaS l with
   |some ds=>
    rw[h2]at m
    dsimp only at m
    have rs:=va.fz h2
    refine⟨F1,ds,s.sub,rs,by rw[rs.length,←va.length];exact hn,?_⟩
    cases h3:φ ds with
    |no=>rw[h3]at m;exact m
    |ex C=>rw[h3]at m;exact m
    |ok k' d=>
     rw[h3]at m
     cases k' with
     |bo=>exact m.elim
     |fz=>exact⟨by simp,fun F' v H' p=>m F' v H' ⟨s.trans p.st,p.val.early s.keep⟩⟩
     |ow=>exact⟨by simp,fun F' v H' p=>m F' v H' ⟨s.trans p.st,p.val.early s.keep⟩⟩
   |none=>
    rw[h2]at m
    dsimp only at m
    have rs:=va.rds s.sub
    refine⟨H1,l.map (·.2), .refl _,rs,by simpa using hn,?_⟩
    cases h3:φ (l.map (·.2))with
    |no=>rw[h3]at m;exact m
    |ex C=>rw[h3]at m;exact m
    |ok k' d=>
     rw[h3]at m
     have go:k'≠ .bo->(match (if Qih d=true then R.ok .fz d else .no)with
      | .ok k d=>∀F' v H',Post X.K F H k d F' v H'->Q v H'
      | .ex C=>∀F' H',Step F0 H0 F' H'->Ψ C H'
      | .no=>False)->k'≠ .bo/\∀F' v H',Post X.K H1 H1 k' d F' v H'->Q v H':=fun nb m=>by
      by_cases hs:Qih d=true
      .rw[if_pos hs]at m
       exact⟨nb,fun F' v H' p=>m F1 v H' ⟨s.trans ⟨.refl _,s.sub.trans p.st.keep,p.st.keep,fun a o e=> .inl e⟩,Qi7 hs p.val.rd⟩⟩
      .rw[if_neg hs]at m;exact m.elim
     cases k' with
     |bo=>exact m.elim
     |fz=>exact go al m
     |ow=>exact go al m
  .rw[if_neg hn]at m;exact m.elim
end
section
variable {P:Program}{w:World}{K:PySem.W.Frag}{mg:Str->Option Value}{base:Heap}
theorem FI.start {F H:Hp}{N:List Str}{ds:List D}{vs:List V}(s:Same F H)(r:Reps K F ds vs):FI K F H F H (ev0 (N.length-ds.length) ds) (start N vs):=by
 refine⟨.refl s,fun i k d e=>?_,fun i j d e hij e1 e2=>?_,?_⟩
 .unfold ev0 at e
  by_cases hi:i<ds.length
  .rw[List.getElem?_append_left (by simpa using hi),List.getElem?_map]at e
   cases q:ds[i]? with
   |none=>rw[q]at e;cases e
   |some z=>
    rw[q]at e;cases e
    obtain⟨v,e1,rv⟩:=r.get q
    refine⟨by simp,v,?_,rv⟩
    unfold L2.start
    rw[List.getElem?_append_left (by rw[List.length_map,←r.length];exact hi),List.getElem?_map,e1]
    rfl
  .rw[List.getElem?_append_right (by simpa using hi),List.getElem?_replicate]at e
   split at e<;>cases e
 .exfalso
  unfold ev0 at e1
  by_cases hi:i<ds.length
  .rw[List.getElem?_append_left (by simpa using hi),List.getElem?_map]at e1
   cases q:ds[i]? with
   |none=>rw[q]at e1;cases e1
   |some z=>rw[q]at e1;cases e1
  .rw[List.getElem?_append_right (by simpa using hi),List.getElem?_replicate]at e1
   split at e1<;>cases e1
 .unfold ev0 L2.start
  simp only[List.length_append,List.length_map,List.length_replicate,r.length]
theorem Q6 {x qual:Str}{st:Stmt}{f:Addr}{fd:FuncData}{N ps:List Str}{k:Nat}{g:Ev->Fl}(F:Fun K x qual st f fd)(S:FnScope N ps (Qg st))
  (hb:∀(cdv:Value) (A:Around) (outer:List Env) (s:Shared) (H:Hp) (E:XK) (F0:Hp),Room k (A.deeper (PyProof.Rows.envOfC qual (Qg st) s.heap.objs.size f cdv))->
   VSs (cxOf CX0 P w K mg base N qual (Qg st) f cdv A outer s H E).nox F0 H Psi0 (QX st) g):
  FnOk P w K mg base CX0 (k+1) f fd ps (spV0 K (runF (N.length-ps.length) g) ps.length):=by
 refine F.ok S (fun vs H Q E h=>?_) (fun cdv A outer s H vs Q E hr h=>?_)
 .obtain⟨F,ds,_,r,hl,_⟩:=h
  rw[←r.length];exact hl
 .obtain⟨F,ds,sub,r,hl,m⟩:=h
  refine⟨_,hb cdv A outer s H E F hr,F,ev0 (N.length-ps.length) ds,by rw[←hl];exact .start sub r,?_⟩
  unfold runF at m
  cases q:g (ev0 (N.length-ps.length) ds)with
  |nx ev=>rw[q]at m;exact fun F' H' σ' _ fi=>m.2 F' .non H' ⟨fi.st,by rw[Val,Rep]⟩
  |rt k d=>
   rw[q]at m
   cases k with
   |bo=>exact m.elim
   |fz=>exact m.2
   |ow=>exact m.2
  |bk ev=>rw[q]at m;exact m.elim
  |ct ev=>rw[q]at m;exact m.elim
  |ex C=>rw[q]at m;exact m.elim
  |no=>rw[q]at m;exact m.elim
end
end L3
namespace L2
open PySem PySem.Spec PyProof.Rows
section
variable {prog:Program}{w:World}{A:Around}{R:Result->Shared->Prop}{s:Shared}
theorem Qhs {elt target iter:Expr}{ifs:List Expr}{scope:Scope}{pos:Pos}{it acc:Value}{env:Env}(I:Nat->Shared->Prop)
  (turn:∀n s,I n s->wpAny aF A (pyNext it) (fun r s₁=>match r with
   |none=>R (.ok .next) s₁
   |some v=>wpAny aF A (letOwnedTupleGo target it v) (fun _ s₂=>wpAny aF A (assign target env v) (fun _ s₃=>
     wpAny aF A (forIn ifs true fun c r=>if r=true then do let ok←isTrue c env (eval c env);pure (ForInStep.yield ok)else pure (ForInStep.yield r)) (fun ok s₄=>
      if ok=true then wpAny aF A (eval elt env) (fun x s₅=>
       wpAny aF A (call (.builtin "list.append") [acc,x]) (fun _ s₆=>∃m,m<n/\I m s₆) (fun _ _=>False) s₅) (fun _ _=>False) s₄
      else∃m,m<n/\I m s₄) (fun _ _=>False) s₃) (fun _ _=>False) s₂) (fun _ _=>False) s₁) (fun _ _=>False) s)
  (n:Nat) (h:I n s):codeAny aF A (.compLoop aA 0 it acc env) R s:=by
 refine codeAny_loop rfl I (fun n s hI=>?_) n h
 show wpAny _ A ((compTurn aA 0 it acc env).onRaise (fun x=>do noteFrame x env;theTreesLotGoes x)) _ _ s
 refine wpAny_noted ?_
 rw[compTurn_list]
 refine wpAny_bind (wpAny_standAt (wpAny_bind (wpAny_mono (turn n s hI) (fun r s₁ h₁=>?_) fun _ _ h'=>h'.elim)))
 cases r with
 |none=>exact wpAny_pure h₁
 |some v=>
  refine wpAny_bind (wpAny_mono h₁ (fun _ s₂ h₂=>?_) fun _ _ h'=>h'.elim)
  refine wpAny_bind (wpAny_mono h₂ (fun _ s₃ h₃=>wpAny_bind (wpAny_mono h₃ (fun ok s₄ h₄=>?_) fun _ _ h'=>h'.elim)) fun _ _ h'=>h'.elim)
  cases ok with
  |false=>exact wpAny_pure ⟨rfl,h₄⟩
  |true=>
   exact wpAny_bind (wpAny_bind (wpAny_mono h₄ (fun x s₅ h₅=>wpAny_bind (wpAny_mono h₅ (fun _ s₆ h₆=>wpAny_pure (wpAny_pure ⟨rfl,h₆⟩)) fun _ _ h'=>h'.elim)) fun _ _ h'=>h'.elim))
end
noncomputable def PIfs (X:Cx)(ifs:List Expr)(t:TT):Prop:=
 ∀(pins:List ay) (s:Shared) (σ:St) (H:Hp) (Q:Bool->Hp->Prop),Inv X pins σ H s->t σ H Q->
  wpAny ah X.A (forIn ifs true fun c r=>if r=true then do let ok←isTrue c X.env (eval c X.env);pure (ForInStep.yield ok)else pure (ForInStep.yield r)) (TP X pins σ Q) X.xe s
theorem QmO {X:Cx}:PIfs X [] (fun _ H Q=>Q true H):=fun _ _ _ H _ I h=>wpAny_tests_nil ⟨H,I,h⟩
theorem QmP {X:Cx}{c:Expr}{t:TT}(h:PT X c t):PIfs X [c] t:=fun pins s σ H Q I q=>wpAny_tests_one (h pins s σ H Q I q)
noncomputable def Qcb (env:Env):List (Str×NameKind)->List (Str×Addr)->List (Str×Addr)
 | [],acc=>acc
 |(n,k)::r,acc=>Qcb env r (if k== .free then(n,(env.cells.lookup n).getD 0)::acc else acc)
theorem Qdz {env:Env}{x:Str}{c:Addr}:∀(l:List (Str×NameKind)) (acc:List (Str×Addr)),(Qcb env l acc).lookup x=some c->
  (∃k,(x,k)∈l/\k= .free/\(env.cells.lookup x).getD 0=c)\/acc.lookup x=some c
 | [],acc,h=> .inr h
 |(n,k)::r,acc,h=>by
  rcases Qdz r _ h with⟨k',h1,h2,h3⟩|h1
  .exact .inl ⟨k', .tail _ h1,h2,h3⟩
  .by_cases hk:(k==NameKind.free)=true
   .rw[if_pos hk,List.lookup_cons]at h1
    by_cases hx:(x==n)=true
    .simp only[hx]at h1
     have e:x=n:=by simpa using hx
     subst e
     exact .inl ⟨k, .head _,by simpa using hk,Option.some.inj h1⟩
    .simp only[hx]at h1;exact .inr h1
   .rw[if_neg hk]at h1;exact .inr h1
theorem QdV {env:Env}{x:Str}:∀(l:List (Str×NameKind)) (acc:List (Str×Addr)),(x,NameKind.free)∈l\/(acc.lookup x).isSome=true->∃c,(Qcb env l acc).lookup x=some c
 | [],acc,h=>by
  rcases h with h|h
  .cases h
  .exact Option.isSome_iff_exists.mp h
 |(n,k)::r,acc,h=>by
  refine QdV r _ ?_
  rcases h with h|h
  .rcases List.mem_cons.mp h with e|h
   .cases e
    right
    simp[List.lookup_cons]
   .exact .inl h
  .right
   by_cases hk:(k==NameKind.free)=true
   .rw[if_pos hk,List.lookup_cons]
    by_cases hx:(x==n)=true
    .simp[hx]
    .simp only[hx];exact h
   .rw[if_neg hk];exact h
theorem Qgq {scope:Scope}{env:Env}(h:∀y∈scope.names,y.2= .free->∃c,env.cells.lookup y.1=some c):closureFor scope env=pure (Qcb env scope.names []):=by
 have key:∀(l:List (Str×NameKind)) (acc:List (Str×Addr)),(∀y∈l,y.2= .free->∃c,env.cells.lookup y.1=some c)->
   (forIn l acc fun(x:Str×NameKind) (cs:List (Str×Addr))=>(match x with|(name,kind)=>if(kind==NameKind.free)=true then(do let c←cellOf env name;pure (ForInStep.yield ((name,c)::cs)))else pure (ForInStep.yield cs):Sem (ForInStep (List (Str×Addr)))))=pure (Qcb env l acc):=by
  intro l
  induction l with
  |nil=>intro acc _;rfl
  |cons x r ih=>
   intro acc hl
   obtain⟨n,k⟩:=x
   rw[List.forIn_cons]
   by_cases hk:(k==NameKind.free)=true
   .obtain⟨c,hc⟩:=hl (n,k) (.head _) (by simpa using hk)
    have e:cellOf env n=pure c:=by unfold cellOf;rw[hc]
    simp only[hk,if_true,e,pure_bind,Qcb]
    rw[ih _ fun y hy=>hl y (.tail _ hy)]
    dsimp only at hc
    rw[hc]
    rfl
   .simp only[hk,Bool.false_eq_true,if_false,pure_bind,Qcb]
    exact ih _ fun y hy=>hl y (.tail _ hy)
 unfold closureFor
 have:=key scope.names [] h
 exact(congrArg (fun m=>m>>=fun cs=>pure cs) this).trans rfl
theorem Qbo {env:Env}{x:Str}:∀{names:List (Str×NameKind)} {k:NameKind},(names.map fun(n,k)=>if aS then(n,NameKind.cell)else(n,k)).lookup x=some k->
  names.lookup x=some k\/(k= .cell/\names.lookup x=some .free)
 | [],_,h=>by simp at h
 |(n,k0)::r,k,h=>by
  have ih:= @Qbo env x r k
  rw[List.map_cons]at h
  by_cases hx:(x==n)=true
  .by_cases hc:(k0==NameKind.free&&env.scope.kind== .function&&env.kindOf n==some .cell)=true
   .simp only[hc,if_true,List.lookup_cons,hx]at h
    have hf:k0= .free:=by simp at hc;exact hc.1.1
    exact .inr ⟨(Option.some.inj h).symm,by simp[List.lookup_cons,hx,hf]⟩
   .simp only[hc,if_false,List.lookup_cons,hx]at h
    exact .inl (by simpa[List.lookup_cons,hx]using h)
  .by_cases hc:(k0==NameKind.free&&env.scope.kind== .function&&env.kindOf n==some .cell)=true
   .rw[show(match ((n,k0):Str×NameKind)with|(n,k)=>if aS=true then(n,NameKind.cell)else(n,k))=(n, .cell)from if_pos hc]at h
    rw[List.lookup_cons]at h
    simp only[hx]at h
    simpa[List.lookup_cons,hx]using ih h
   .rw[show(match ((n,k0):Str×NameKind)with|(n,k)=>if aS=true then(n,NameKind.cell)else(n,k))=(n,k0)from if_neg hc]at h
    rw[List.lookup_cons]at h
    simp only[hx]at h
    simpa[List.lookup_cons,hx]using ih h
theorem Qeo {env:Env}{x:Str}:∀{names:List (Str×NameKind)},names.lookup x=some .free->
  (names.map fun(n,k)=>if aS then(n,NameKind.cell)else(n,k)).lookup x=some .cell\/
  (names.map fun(n,k)=>if aS then(n,NameKind.cell)else(n,k)).lookup x=some .free
 | [],h=>by simp at h
 |(n,k0)::r,h=>by
  have ih:= @Qeo env x r
  rw[List.map_cons,List.lookup_cons]at *
  by_cases hx:(x==n)=true
  .simp only[hx]at h
   cases h
   by_cases hc:(NameKind.free==NameKind.free&&env.scope.kind== .function&&env.kindOf n==some .cell)=true
   .left;simp only[if_pos hc,hx]
   .right;simp only[if_neg hc,hx]
  .simp only[hx]at h
   by_cases hc:(k0==NameKind.free&&env.scope.kind== .function&&env.kindOf n==some .cell)=true
   .simp only[if_pos hc,hx];exact ih h
   .simp only[if_neg hc,hx];exact ih h
noncomputable def cxC (X:Cx)(N':List Str)(scope:Scope)(C:Addr)(s:Shared)(H:Hp)(fp:List Addr):Cx where
 prog:=X.prog
 w:=X.w
 K:=X.K
 mg:=X.mg
 base:=X.base
 A:=X.A
 N:=N'
 s₀:=s
 H₀:=H
 env:=compEnvC scope (Qcb X.env scope.names []) C X.env
 outer:=X.stack
 stack:=X.stack
 ex:=fp
 fn:=fun _=>false
 calm:=X.calm
 pn:= []
 xe:=fun _ _=>False
noncomputable def capS (cap:List aw)(σ:St):St:=cap.map fun o=>o.bind fun j=>(σ[j]?).join
structure CompScope (X:Cx)(N':List Str)(cap:List (Option Nat))(scope:Scope):Prop where
 kind:scope.kind= .function
 nocell:∀y∈scope.names,y.2≠ .cell
 names:∀y∈scope.names,y.2= .local->scope.names.lookup y.1=some .local
 fr:∀y∈scope.names,y.2= .free->X.env.kindOf y.1=some .cell\/X.env.kindOf y.1=some .free
 len:cap.length=N'.length
 cap:∀(i j:Nat),cap[i]?=some (some j)->∃x,N'[i]?=some x/\X.N[j]?=some x/\scope.names.lookup x=some .free
section
variable {X:Cx}{pins:List (Addr×Obj)}{σ:St}{H:Hp}{s:Shared}{N':List Str}{cap:List (Option Nat)}{scope:Scope}{fp:List Addr}
theorem Q7 {x:Str}{k:NameKind}{l:List (Str×NameKind)}(h:l.lookup x=some k):(x,k)∈l:=PySem.mem_of_lookup h
theorem CompScope.cells (S:CompScope X N' cap scope)(ok:X.Ok):∀y∈scope.names,y.2= .free->∃c,X.env.cells.lookup y.1=some c:=fun y hy hf=>ok.has y.1 (S.fr y hy hf)
theorem CompScope.cl (S:CompScope X N' cap scope)(ok:X.Ok){x:Str}{c:Addr}(h:(Qcb X.env scope.names []).lookup x=some c):X.env.cells.lookup x=some c:=by
 rcases Qdz _ _ h with⟨k,h1,h2,h3⟩|h1
 .subst h2
  obtain⟨c',e⟩:=S.cells ok (x, .free) h1 rfl
  rw[e]at h3
  rw[e];exact congrArg some h3
 .simp at h1
theorem CompScope.inv (S:CompScope X N' cap scope)(I:Inv X pins σ H s)(hfp:∀b∈fp,FpOk X pins H b){h':Heap}{t':Nat}(hk:∀b o,s.heap.get? b=some o->h'.get? b=some o)(hn:h'.Ns s.heap.objs.size fun _=>none)(hfs:∀b∈fp,b<s.heap.objs.size):
  Inv (cxC X N' scope s.heap.objs.size s H fp) [] (capS cap σ) H {s with heap:=h',toks:=t'}:=by
 have scl:∀{x:Str} {c:Addr},(Qcb X.env scope.names []).lookup x=some c->X.env.cells.lookup x=some c:=fun h=>S.cl I.ok h
 refine⟨⟨I.ok.mod,by simpa[cxC,compEnvC,relabel]using S.kind,I.ok.glob,I.ok.blt,Nat.le_refl _,fun x y c h1 h2=>I.ok.inj x y c (scl h1) (scl h2),fun x hx=>?_,fun x c hf h=>?_,I.ok.hd,I.ok.frames, .inl rfl,fun b hb=>⟨Nat.ne_of_lt (hfs b hb),fun x c h=>(hfp b hb).2.2.2.2.1 x c (scl h)⟩,
  I.bs,Nat.le_trans I.ok.bsz I.sz,fun b o e hb=>?_,fun b hb hf=>?_,I.stack,I.stkFree⟩,rfl,I.bare,Un.kept hk,⟨_,hn,fun i x v e1 e2 e3=>?_⟩,fun x c h=>?_,I.hok.fresh am,fun x c h=>I.freeC x c (scl h),fun p hp=>absurd (show p∈([]:List ay)from hp) al,I.hok.kept hk,?_⟩
 ·
  have hx:(scope.names.map fun(n,k)=>if(k==NameKind.free&&X.env.scope.kind== .function&&X.env.kindOf n==some .cell)then(n,NameKind.cell)else(n,k)).lookup x=some .cell\/(scope.names.map fun(n,k)=>if(k==NameKind.free&&X.env.scope.kind== .function&&X.env.kindOf n==some .cell)then(n,NameKind.cell)else(n,k)).lookup x=some .free:=hx
  have:(x,NameKind.free)∈scope.names:=by
   rcases hx with hx|hx
   .rcases Qbo hx with q|⟨_,q⟩
    .exact absurd rfl (S.nocell _ (Q7 q))
    .exact Q7 q
   .rcases Qbo hx with q|⟨q,_⟩
    .exact Q7 q
    .cases q
  exact QdV _ _ (.inl this)
 .exact absurd (show false=true from hf) aj
 ·
  have hb':=hfp b hb
  rcases hb'.2.2.2.1 with z|z
  .exact I.ok.noex b o e z
  .exact absurd (Nat.lt_of_lt_of_le (Heap.lt_size (I.ok.bs b o e).1) z) (Nat.lt_irrefl _)
 ·
  rcases List.mem_cons.mp (I.stkSub b hf)with e|e
  .exact(hfp b hb).2.1 e
  .exact(hfp b hb).2.2.1 e
 ·
  obtain⟨j,hj,hv⟩:∃j,cap[i]?=some (some j)/\σ[j]?=some (some v):=by
   unfold capS at e2
   rw[List.getElem?_map]at e2
   cases q:cap[i]? with
   |none=>rw[q]at e2;cases e2
   |some o=>
    rw[q]at e2
    cases o with
    |none=>cases e2
    |some j=>
     refine⟨j,rfl,?_⟩
     have e2:(σ[j]?).join=some v:=Option.some.inj e2
     cases q2:σ[j]? with
     |none=>rw[q2]at e2;cases e2
     |some z=>rw[q2]at e2;rw[show z=some v from e2]
  obtain⟨y,g1,g2,g3⟩:=S.cap i j hj
  have exy:x=y:=Option.some.inj (e1.symm.trans g1)
  subst exy
  have hk2:=S.fr (x, .free) (Q7 g3) rfl
  obtain⟨m,hm,hl⟩:=I.loc
  obtain⟨u,r,l⟩:=hl j x v g2 hv (hk2.elim (fun z=> .inr (.inl z)) fun z=> .inr (.inr z))
  refine⟨u,r, .inr ⟨Qeo g3,?_⟩⟩
  rcases l with⟨z,_⟩|⟨_,c,e,q⟩
  .rcases hk2 with z'|z'<;>(rw[z]at z';cases z')
  .obtain⟨c',e'⟩:=QdV (env:=X.env) (x:=x) scope.names [] (.inl (Q7 g3))
   have:=scl e'
   rw[e]at this
   cases this
   exact⟨c,e',q.keeps hk⟩
 .obtain⟨v,q⟩:=I.cell x c (scl h)
  exact⟨v,q.keeps hk⟩
 .show(capS cap σ).length=N'.length
  unfold capS;rw[List.length_map];exact S.len
end
end L2
namespace L2
open PySem PySem.Spec PyProof.Rows
noncomputable def tLC (cap:List aw)(wi:TI)(g:TG)(tc:TT)(te:TE):TE:=fun σ H Q=>wi σ H fun J H1=>∀D,H1 D=none->∃W:Nat->Nat->List V->L2.St->Hp->Prop,
 (∃m,W 0 m [] (capS cap σ) (upd H1 D (.lst [])))/\∀i m ys σ' H',W i m ys σ' H'->H' D=some (.lst ys)/\ys.length<sizeLine/\
  ((J.stop i H'/\Q (.ref D) H')\/(J.go i H'/\∀x H2,J.yld i H' x H2->g x σ' H2 fun σ3 H3=>tc σ3 H3 fun b H4=>
   if b=true then te σ3 H4 fun y H5=>H5 D=some (.lst ys)/\∃m',m'<m/\W (i+1) m' (ys++ [y]) σ3 (upd H5 D (.lst (ys++ [y])))else∃m',m'<m/\W (i+1) m' ys σ3 H4))
section
variable {X:Cx}{pins:List (Addr×Obj)}{σ:L2.St}{H:Hp}{s:Shared}{N':List Str}{cap:List (Option Nat)}{scope:Scope}{elt target iter:Expr}{ifs:List Expr}{wi:TI}{g:TG}{tc:TT}{te:TE}{pos p0:Pos}
theorem Qi8 {use:Option (Value->Sem Unit)}{Q':VK}{Q:Value->Shared->Prop}(hcalm:X.calm=true)(S:CompScope X N' cap scope)(hi:PI X target iter wi)
  (hb:∀C s H fp,PG aN target g/\PIfs aN ifs tc/\PE aN elt te) (hs:∀x,foldedSetIterable iter X.env x=pure x)
  (I:Inv X pins σ H s) (h:tLC cap wi g tc te σ H Q')
  (fin:∀(D C:Addr) (o:Obj) (H':Hp) (s':Shared),Inv X (pins++ [(C,o)]) σ H' s'->FpOk X pins H' C->(∃m,∀h:Heap,h.get? C=some o->h.Ns C m)->Q' (.ref D) H'->compPost ah X.A X.xe use Q (.ref D) C (.ok .next) s'):
  wpAny ah X.A (comprehension aA scope X.env p0 (newList []) false (eval iter X.env) use) Q X.xe s:=by
 refine wpAny_comprehension_free rfl hs (Qgq (S.cells I.ok)) S.kind S.names ?_
 refine thn (hi pins s σ H _ I h) fun xv s₁ h₁=>thn h₁ fun itv s₂ h₂=>?_
 obtain⟨it,fp,tn,J,H2,rfl,I2,T,st2,f2,h2⟩:=h₂
 have hlt:∀b∈fp,b<s₂.heap.objs.size:=fun b hb=>by obtain⟨o,e,_⟩:=T.obj 0 _ st2 b hb;exact Heap.lt_size e
 refine wpAny_newObj_type (wpAny_newFunctionEnv S.nocell (by intro y hy;simp at hy) (fun h4 hns4 hsb4=>?_) S.kind)
 have I3:=I2.lnew (ys:= []) (its:= []) (t':=s₂.toks) .nil (Nat.zero_le _)
 obtain⟨W,⟨m0,w0⟩,turn⟩:=h2 s₂.heap.objs.size (I2.hok.fresh am)
 have f3:∀b∈fp,FpOk X pins (upd H2 s₂.heap.objs.size (.lst [])) b:=fun b hb=>by
  obtain⟨q0,q⟩:=f2 b hb
  exact⟨by rw[Ql (Nat.ne_of_lt (hlt b hb))];exact q0,q⟩
 generalize hs3:({s₂ with heap:=s₂.heap.push {cls:= .type "list",dict:=none,data:= .seq ([]:List Value).toArray}}:Shared)=s3 at *
 have hk:∀b o,s3.heap.get? b=some o->h4.get? b=some o:=fun b o e=>hsb4.extBut b o (Nat.ne_of_lt (Heap.lt_size e)) (Heap.get?_push_of_some _ e)
 have hsz:s₂.heap.objs.size<=s3.heap.objs.size:=by rw[←hs3];show _<=(s₂.heap.push _).objs.size;rw[Heap.size_push];exact Nat.le_succ _
 have hlt3:∀b∈fp,b<s3.heap.objs.size:=fun b hb=>Nat.lt_of_lt_of_le (hlt b hb) hsz
 have kept23:∀b o,s₂.heap.get? b=some o->s3.heap.get? b=some o:=fun b o e=>by rw[←hs3];exact Heap.get?_push_of_some _ e
 have Ic:=S.inv (t':=s3.toks+([]:List (Str×Value)).length) I3 f3 hk hns4 hlt3
 have st4:tn 0 h4:=T.keep 0 _ _ st2 fun b hb o e=>hk b o (kept23 b o e)
 obtain⟨bg,bi,be⟩:=hb s3.heap.objs.size s3 (upd H2 s₂.heap.objs.size (.lst [])) fp
 have statC:∀{H':Hp},(∀b∈fp,H' b=none)->∀b∈fp,FpOk aE [] H' b:=fun hn b hb=>
  ⟨hn b hb,Nat.ne_of_lt (hlt3 b hb),fun hf=>by
   rcases List.mem_cons.mp (I3.stkSub b hf)with e|e
   .exact(f3 b hb).2.1 e
   .exact(f3 b hb).2.2.1 e, .inl hb,fun x c e=>(f3 b hb).2.2.2.2.1 x c (S.cl I3.ok e),fun p hp=>absurd (show p∈([]:List ay)from hp) al⟩
 have loop:codeAny ah X.A (.compLoop aA 0 (.ref it) (.ref s₂.heap.objs.size) (compEnvC scope (Qcb X.env scope.names []) s3.heap.objs.size X.env))
   (compPost ah X.A X.xe use Q (.ref s₂.heap.objs.size) s3.heap.objs.size) {s3 with heap:=h4,toks:=s3.toks+([]:List (Str×Value)).length}:=by
  refine Qhs (fun n s'=>∃i ys σ' H',Inv aE [] σ' H' s'/\tn i s'.heap/\(∀b∈fp,H' b=none)/\W i n ys σ' H') ?_ m0
   ⟨0,[],_,_,Ic,st4,fun b hb=>(f3 b hb).1,w0⟩
  rintro n s5 ⟨i,ys,σ5,H5,I5,st5,fr5,w5⟩
  obtain⟨hD,hl,alt⟩:=turn i n ys σ5 H5 w5
  rcases alt with⟨stop,q⟩|⟨go,step⟩
  .refine thn (T.done aE rfl rfl rfl hcalm i [] s5 σ5 H5 _ I5 (statC fr5) st5 stop) fun r s6 ⟨hr,I6⟩=>?_
   subst hr
   have I7:Inv X pins σ H5 s6:=I3.call' (ch:=fp) I6.os I6.base I6.hok I6.bare fun b hb=>⟨(f3 b hb).2.2.2.1,(f3 b hb).2.1,(f3 b hb).2.2.2.2.1,(f3 b hb).2.2.2.2.2⟩
   obtain⟨m,⟨o,es,ep,ho,hd,hrest⟩,_⟩:=id I6.loc
   have hC:FpOk X pins H5 s3.heap.objs.size:=I3.fpOk am I6.free
   refine fin _ _ o H5 s6 (I7.pins_of fun p hp=>?_) hC ⟨m,fun h e=>⟨o,es,ep,e,hd,hrest⟩⟩ q
   rcases List.mem_append.mp hp with hp|hp
   .exact I7.pin p (List.mem_append_right _ hp)
   .have e:p=(s3.heap.objs.size,o):=by simpa using hp
    subst e
    exact⟨ho,hC.1,hC.2.1,hC.2.2.1,fun v=>by rw[hd];intro z;cases z⟩
  .refine thn (T.item aE rfl rfl rfl hcalm i [] s5 σ5 H5 _ I5 (statC fr5) st5 go) fun r s6 ⟨u,hr,h6⟩=>?_
   subst hr
   refine thn h6 fun _ s7 ⟨x,H7,I7,r7,y7,st7,fr7⟩=>?_
   have I7':=I7.pinned (statC fr7) (T.obj _ _ st7)
   refine thn (bg _ s7 σ5 H7 x u _ I7' r7 (step x H7 y7)) fun _ s8 ⟨σ8,H8,I8,q8⟩=>?_
   refine thn (bi _ s8 σ8 H8 _ I8 q8) fun ok s9 ⟨H9,I9,q9⟩=>?_
   have again:∀{ys':List V} {H':Hp} {s':Shared} {m':Nat},Inv aE ([]++Qhc fp s7.heap) σ8 H' s'->m'<n->W (i+1) m' ys' σ8 H'->
     ∃m,m<n/\∃i ys σ' H',Inv aE [] σ' H' s'/\tn i s'.heap/\(∀b∈fp,H' b=none)/\W i m ys σ' H':=fun{ys' H' s' m'} I' hm w'=>by
    refine⟨m',hm,i+1,ys',σ8,H',I'.unpinned,T.keep _ _ _ st7 fun b hb o e=>(I'.pin (b,o) (List.mem_append_right _ (List.mem_append_right _ (QcC hb e)))).1,fun b hb=>?_,w'⟩
    obtain⟨o,e,d⟩:=T.obj _ _ st7 b hb
    exact(I'.pin (b,o) (List.mem_append_right _ (List.mem_append_right _ (QcC hb e)))).2.1
   cases ok with
   |false=>
    rw[if_neg Bool.false_ne_true]at q9⊢
    obtain⟨m',hm,w'⟩:=q9
    exact again I9 hm w'
   |true=>
    rw[if_pos rfl]at q9⊢
    refine thn (be _ s9 σ8 H9 _ I9 q9) fun v s10 ⟨y,H10,I10,r10,hD10,m',hm,w'⟩=>?_
    refine thn (Qhm _ s10 σ8 H10 (.ref s₂.heap.objs.size) [y] (.ref s₂.heap.objs.size) [v] (fun _ H'=>H'=upd H10 s₂.heap.objs.size (.lst (ys++ [y]))) I10 rfl (.cons r10 .nil) ⟨_,ys,y,rfl,rfl,hD10,hl,rfl⟩) fun _ s11 ⟨_,H11,I11,_,e11⟩=>?_
    subst e11
    exact again I11 hm w'
 exact codeAny_compStart_list loop (T.self _ 0 _ _ _ st4 loop)
theorem QfN {C:Addr}{o:Obj}{H':Hp}{s':Shared}{σ':L2.St}(I:Inv X (pins++ [(C,o)]) σ' H' s')(f:FpOk X pins H' C){h':Heap}(sb:Heap.SameBut C s'.heap h'):Inv X pins σ' H' {s' with heap:=h'}:=
 (I.unpinned).turned (t':=s'.toks) (fun b ob hb e=>sb.extBut b ob hb e) f.1 f.2.1 f.2.2.2.1 f.2.2.2.2.1 f.2.2.2.2.2
theorem QmQ (hcalm:X.calm=true)(S:CompScope X N' cap scope)(hi:PI X target iter wi)
  (hb:∀C s H fp,PG aN target g/\PIfs aN ifs tc/\PE aN elt te) (hs:∀x,foldedSetIterable iter X.env x=pure x:=by intro _;rfl):
  PE X aA (tLC cap wi g tc te):=by
 intro pins s σ H Q I h
 rw[eval_ListComp]
 refine Qi8 (use:=none) (Q':=Q) hcalm S hi hb hs I h fun D C o H' s' I' f ⟨m,hm⟩ q=>?_
 have ho:=(I'.pin (C,o) al).1
 exact⟨m,hm _ ho,fun h' sb=>⟨.ref D,H',QfN I' f sb,rfl,q⟩⟩
theorem QmR {i:Nat}{y:Str}{py spos:Pos}(hcalm:X.calm=true)(S:CompScope X N' cap scope)(hi:PI X target iter wi)
  (hb:∀C s H fp,PG aN target g/\PIfs aN ifs tc/\PE aN elt te) (hpg:PG X (.Name y py) (Qh8 i))
  (hsw:swapsWith aA (some (.Name y py)) spos.line X.env=pure true) (hs:∀x,foldedSetIterable iter X.env x=pure x:=by intro _;rfl):
  PS X (.Assign [.Name y py] aA spos) (tAsg (tLC cap wi g tc te) (Qh8 i)):=by
 intro pins s σ H D I h
 rw[exec_Assign_Name_used _ _ _ _ hsw]
 refine wpAny_bind (wpAny_standAt (wpAny_bind ?_))
 show wpAny _ X.A (do let _←comprehension aA scope X.env _ (newList []) false (eval iter X.env) (some (assign (.Name y py) X.env))) _ _ s
 refine wpAny_bind (wpAny_mono (Qi8 (use:=some (assign (.Name y py) X.env)) (Q:=fun _ s'=>SP X pins D .next s') hcalm S hi hb hs I h fun A C o H' s' I' f ⟨m,hm⟩ q=>?_) (fun _ s' hq=>wpAny_pure (wpAny_pure hq)) fun _ _ e=>e)
 show wpAny _ X.A (assign (.Name y py) X.env (.ref A)) _ _ s'
 refine thn (hpg _ s' σ H' (.ref A) (.ref A) (fun σ' H''=>H''=H'/\D.nx σ' H'') I' rfl ⟨rfl,q⟩) fun _ s'' ⟨σ2,H2,I2,e2,q2⟩=>?_
 subst e2
 exact⟨m,hm _ (I2.pin (C,o) al).1,fun h' sb=>⟨σ2,H2,QfN I2 f sb,q2⟩⟩
end
end L2
namespace L3
open PySem L2
noncomputable def capE (cap:List aw)(ev:Ev):Ev:=cap.map fun o=>o.bind fun j=>match (ev[j]?).join with
 |some (.fz,d)=>some (.fz,d)
 |_=>none
noncomputable def Qes (b:B1)(c e:Ev->R)(ev:Ev):List D->Option (List D)
 | []=>some []
 |d::ds=>match b d ev with
  |none=>none
  |some ev1=>match c ev1 with
   | .ok _ (.bl t)=>if t then(match e ev1 with
    | .ok .bo _=>none
    | .ok _ x=>(Qes b c e ev ds).map (x:: ·)
    |_=>none)else Qes b c e ev ds
   |_=>none
noncomputable def Qo3 (cap:List aw)(b:B1)(c e:Ev->R)(ev:Ev):RI->R
 | .ok ds=>if ds.length<LIM then(match Qes b c e (capE cap ev) ds with
  |some l=> .ok .ow (.lst l)
  |none=> .no)else .no
 | .ex C=> .ex C
 | .no=> .no
noncomputable def Qbp (cap:List aw)(fi:Ev->RI)(b:B1)(c e:Ev->R)(ev:Ev):R:=Qo3 cap b c e ev (fi ev)
noncomputable def Qk3 (S:List Nat)(b:B1):Prop:=∀d ev ev',b d ev=some ev'->ev'.length=ev.length/\∀i,i∉S->ev'[i]?=ev[i]?
theorem Qaq (i:Nat):Qk3 [i] (Qq i):=fun d ev ev' e=>by
 cases e
 exact⟨by simp,fun j hj=>by rw[List.getElem?_set_ne];simp at hj;exact fun z=>hj z.symm⟩
section
variable {X:Cx}{K:PySem.W.Frag}{F0 H0 F H F' H':Hp}{Ψ:Psi}{σ:L2.St}{ev:Ev}
theorem Qii (cap:List aw)(ev:Ev){i:Nat}{d:D}:(capE cap ev)[i]?≠some (some (.ow,d)):=fun e=>by
 unfold capE at e
 rw[List.getElem?_map]at e
 cases q:cap[i]? with
 |none=>rw[q]at e;cases e
 |some o=>
  rw[q]at e
  cases o with
  |none=>cases e
  |some j=>
   have e:(match (ev[j]?).join with|some (.fz,d)=>some (Kd.fz,d)|_=>none)=some (.ow,d):=Option.some.inj e
   split at e<;>cases e
theorem FI.cap (cap:List aw)(f:FI K F0 H0 F H ev σ):FI K F0 H0 F H (capE cap ev) (capS cap σ):=by
 refine⟨f.st,fun i k d e=>?_,fun i j d e _ e1 _=>absurd e1 (Qii cap ev),by simp[capE,capS]⟩
 have e':=e
 unfold capE at e
 rw[List.getElem?_map]at e
 cases q:cap[i]? with
 |none=>rw[q]at e;cases e
 |some o=>
  rw[q]at e
  cases o with
  |none=>cases e
  |some j=>
   have e:(match (ev[j]?).join with|some (.fz,d)=>some (Kd.fz,d)|_=>none)=some (k,d):=Option.some.inj e
   split at e
   .rename_i d' hj
    cases e
    have hj':ev[j]?=some (some (.fz,d)):=by
     cases q2:ev[j]? with
     |none=>rw[q2]at hj;cases hj
     |some z=>rw[q2]at hj;rw[show z=some (.fz,d)from hj]
    obtain⟨n,v,e1,hv⟩:=f.at_ j _ _ hj'
    refine⟨n,v,?_,hv⟩
    unfold capS
    rw[List.getElem?_map,q]
    show some ((σ[j]?).join)=_
    rw[e1];rfl
   .cases e
theorem FI.hid {a:Addr}{o:HO}(f:FI K F0 H0 F H ev σ)(no:∀(i:Nat) d,ev[i]?≠some (some (.ow,d)))(h0:H0 a=none)(hf:F a=none):FI K F0 H0 F (upd H a o) ev σ:=by
 have ne:∀{G:Hp},G a=none->Same G H->Same G (upd H a o):=fun{G} n s b u q=>by
  rw[Ql];exact s b u q
  rintro rfl;rw[n]at q;cases q
 refine⟨⟨f.st.up,ne hf f.sub,ne h0 f.st.keep,f.st.new⟩,fun i k d e=>?_,f.apart,f.len⟩
 obtain⟨n,v,e1,hv⟩:=f.at_ i k d e
 cases k with
 |bo=>exact absurd rfl n
 |ow=>exact absurd e (no i d)
 |fz=>exact⟨n,v,e1,hv⟩
structure LCI (K:PySem.W.Frag)(F0 H0 F H F1:Hp)(ce:Ev)(cf:List D->Option (List D))(ds l:List D)(Dd:Addr)(i m:Nat)(ys:List V)(σ':St)(H' F2:Hp)(es rest:List D):Prop where
 em:m=ds.length-i
 hi:i<=ds.length
 f2:FI K F0 H0 F2 H' ce σ'
 u2:Same F1 F2
 st:Step F H F2 H'
 hd:H' Dd=some (.lst ys)
 hf:F2 Dd=none
 rs:Reps K F2 es ys
 cs:cf (ds.drop i)=some rest
 el:es++rest=l
 hel:es.length<=i
theorem LCI.same {F0 H0 F H F1:Hp}{ce:Ev}{cf:List D->Option (List D)}{ds l:List D}{Dd:Addr}{i m:Nat}{ys:List V}{σ' σ3:St}{H' F2 F4 H4:Hp}{es rest:List D}(x:LCI K F0 H0 F H F1 ce cf ds l Dd i m ys σ' H' F2 es rest)(hlt:i<ds.length)(s:Step F2 H' F4 H4)(f:FI K F0 H0 F4 H4 ce σ3)
  (cs:cf (ds.drop (i+1))=some rest):LCI K F0 H0 F H F1 ce cf ds l Dd (i+1) (ds.length-(i+1)) ys σ3 H4 F4 es rest:=
 ⟨rfl,hlt,f,x.u2.trans s.up,x.st.trans s,s.keep _ _ x.hd,s.unfz x.hd x.hf,x.rs.mono s.up,cs,x.el,Nat.le_succ_of_le x.hel⟩
theorem QeA {G H5:Hp}{Dd:Addr}{o:HO}(n:G Dd=none)(s:Same G H5):Same G (upd H5 Dd o):=fun b u q=>by
 rw[Ql];exact s b u q
 rintro rfl;rw[n]at q;cases q
theorem LCI.more {F0 H0 F H F1:Hp}{ce:Ev}{cf:List D->Option (List D)}{ds l:List D}{Dd:Addr}{i m:Nat}{ys:List V}{σ' σ3:St}{H' F2 F6 H5:Hp}{es rest rest':List D}{d:D}{v:V}(x:LCI K F0 H0 F H F1 ce cf ds l Dd i m ys σ' H' F2 es rest)(hlt:i<ds.length)(s:Step F2 H' F6 H5)(hD:H Dd=none)
  (f:FI K F0 H0 F6 (upd H5 Dd (.lst (ys++ [v]))) ce σ3) (r:Rep K F6 d v) (cs:cf (ds.drop (i+1))=some rest') (e:d::rest'=rest):LCI K F0 H0 F H F1 ce cf ds l Dd (i+1) (ds.length-(i+1)) (ys++ [v]) σ3 (upd H5 Dd (.lst (ys++ [v]))) F6 (es++ [d]) rest':=
 have S:=x.st.trans s
 have hf:=s.unfz x.hd x.hf
 ⟨rfl,hlt,f,x.u2.trans s.up,⟨S.up,QeA hf S.sub,QeA hD S.keep,S.new⟩,Qs,hf,(x.rs.mono s.up).app (.cons r .nil),cs,by rw[←x.el,←e];simp,by simpa using x.hel⟩
theorem QnT {cap:List aw}{fi:Ev->RI}{b:B1}{c e:Ev->R}{S:List Nat}{Q:VK}(hB:Qk3 S b)(hS:∀i∈S,cap[i]?=some none)(h:tV K F0 H0 Ψ (Qbp cap fi b c e) σ H Q):
  tLC cap (tVI K F0 H0 Ψ fi) (gV K F0 H0 b) (tVT K F0 H0 Psi0 c) (tV K F0 H0 Psi0 e) σ H Q:=by
 obtain⟨F,ev,fi',m⟩:=h
 refine⟨F,ev,fi',?_⟩
 unfold Qbp at m
 cases h1:fi ev with
 |no=>rw[h1]at m;exact m
 |ex C=>rw[h1]at m;exact m
 |ok ds=>
  rw[h1]at m
  intro F1 H1 J s y Dd hD
  simp only[Qo3]at m
  by_cases hl:ds.length<LIM
  .rw[if_pos hl]at m
   cases h2:Qes b c e (capE cap ev) ds with
   |none=>rw[h2]at m;exact m.elim
   |some l=>
    rw[h2]at m
    have hD0:H0 Dd=none:=(fi'.st.trans s).keep.free hD
    have hDH:H Dd=none:=s.keep.free hD
    have hDF:F1 Dd=none:=s.sub.free hD
    refine⟨fun i m ys σ' H'=>∃F2 es rest,LCI K F0 H0 F H F1 (capE cap ev) (Qes b c e (capE cap ev)) ds l Dd i m ys σ' H' F2 es rest,?_,?_⟩
    .exact⟨ds.length,F1,[],l,by simp,Nat.zero_le _,((fi'.later s).cap cap).hid (fun i d=>Qii cap ev) hD0 hDF, .refl _,⟨s.up,QeA hDF s.sub,QeA hDH s.keep,s.new⟩,Qs,hDF, .nil,h2,rfl,Nat.zero_le _⟩
    .rintro i m' ys σ' H' ⟨F2,es,rest,x⟩
     refine⟨x.hd,by rw[←x.rs.length];exact Nat.lt_of_le_of_lt (Nat.le_trans x.hel x.hi) (Nat.lt_of_lt_of_le hl QB),?_⟩
     have ce:=x.cs
     by_cases hlt:i<ds.length
     .have hm:ds.length-(i+1)<m':=by rw[x.em];exact Nat.sub_lt_sub_left hlt (Nat.lt_succ_self _)
      refine .inr ⟨y.go i H' (x.u2.trans x.f2.sub) hlt,fun v H2 yl=>?_⟩
      obtain⟨F3,d,s3,ed,r⟩:=y.yld i F2 H' v H2 x.u2 x.f2.sub hlt yl
      have edr:ds.drop i=d::ds.drop (i+1):=by
       obtain⟨h,e'⟩:=List.getElem?_eq_some_iff.mp ed
       rw[←e']
       exact List.drop_eq_getElem_cons h
      rw[edr]at ce
      simp only[Qes]at ce
      cases q1:b d (capE cap ev)with
      |none=>rw[q1]at ce;cases ce
      |some ev1=>
       rw[q1]at ce
       dsimp only at ce
       refine⟨F3,capE cap ev,d,ev1,x.f2.later s3,r,q1,fun H'' σ3 hH f3=>?_⟩
       subst hH
       obtain⟨lb,gb⟩:=hB _ _ _ q1
       have weak:∀{F4 H4:Hp},FI K F0 H0 F4 H4 ev1 σ3->FI K F0 H0 F4 H4 (capE cap ev) σ3:=fun f4=>f4.weak lb.symm fun j k d' e'=>by
        by_cases hj:j∈S
        .have:=hS j hj
         unfold capE at e'
         rw[List.getElem?_map,this]at e'
         cases e'
        .rw[gb j hj];exact e'
       refine⟨F3,ev1,f3,?_⟩
       cases q2:c ev1 with
       |no=>rw[q2]at ce;cases ce
       |ex C=>rw[q2]at ce;cases ce
       |ok k2 d2=>
        rw[q2]at ce
        cases d2 with
        |bl t=>
         intro F4 H4 s4
         have st34:=s3.trans s4
         cases t with
         |false=>
          rw[if_neg Bool.false_ne_true]
          simp only[Bool.false_eq_true,if_false]at ce
          exact⟨_,hm,F4,es,rest,x.same hlt st34 (weak (f3.later s4)) ce⟩
         |true=>
          rw[if_pos rfl]
          simp only[if_true]at ce
          refine⟨F4,ev1,f3.later s4,?_⟩
          cases q3:e ev1 with
          |no=>rw[q3]at ce;cases ce
          |ex C=>rw[q3]at ce;cases ce
          |ok k3 x3=>
           rw[q3]at ce
           intro F5 v5 H5 p5
           have go:∀F6,Post K F4 H4 .fz x3 F6 v5 H5->((Qes b c e (capE cap ev) (ds.drop (i+1))).map (x3:: ·))=some rest->H5 Dd=some (.lst ys)/\∃m'',m''<m'/\∃F2 es rest,LCI K F0 H0 F H F1 (capE cap ev) (Qes b c e (capE cap ev)) ds l Dd (i+1) m'' (ys++ [v5]) σ3 (upd H5 Dd (.lst (ys++ [v5]))) F2 es rest:=fun F6 p6 ce=>by
            have st:=st34.trans p6.st
            cases q4:Qes b c e (capE cap ev) (ds.drop (i+1))with
            |none=>rw[q4]at ce;cases ce
            |some rest'=>
             rw[q4]at ce
             exact⟨st.keep _ _ x.hd,_,hm,F6,es++ [x3],rest',x.more hlt st hDH ((weak ((f3.later s4).later p6.st)).hid (fun i d=>Qii cap ev) hD0 (st.unfz x.hd x.hf)) p6.val q4 (Option.some.inj ce)⟩
           cases k3 with
           |bo=>cases ce
           |fz=>exact go F5 p5 ce
           |ow=>obtain⟨F6,p6⟩:=p5.frz;exact go F6 p6 ce
        |_=>cases ce
     .have e2:i=ds.length:=Nat.le_antisymm x.hi (Nat.le_of_not_lt hlt)
      subst e2
      rw[List.drop_length]at ce
      cases ce
      refine .inl ⟨y.stop _ H' (x.u2.trans x.f2.sub) am,?_⟩
      have el:=x.el
      rw[List.append_nil]at el
      subst el
      exact m F2 _ H' ⟨x.st,Dd,rfl,hDH,x.hf,ys,x.hd,x.rs⟩
  .rw[if_neg hl]at m;exact m.elim
end
end L3
namespace L3
open PySem L2
noncomputable def QtD (N N':List Str)(cap:List aw)(names:List (Str×NameKind)):Bool:=(List.range cap.length).all fun i=>match cap[i]? with
 |some (some j)=>(match N'[i]?,N[j]? with
  |some x,some y=>decide (x=y)&&decide (names.lookup x=some .free)
  |_,_=>false)
 |_=>true
structure CompSc (osc:Scope)(N N':List Str)(cap:List (Option Nat))(scope:Scope):Prop where
 kind:scope.kind= .function
 nocell:∀y∈scope.names,y.2≠ .cell
 names:∀y∈scope.names,y.2= .local->scope.names.lookup y.1=some .local
 fr:∀y∈scope.names,y.2= .free->osc.names.lookup y.1=some .cell\/osc.names.lookup y.1=some .free
 len:cap.length=N'.length
 cap:QtD N N' cap scope.names=true
theorem CompSc.to {X:Cx}{osc:Scope}{N N':List Str}{cap:List aw}{scope:Scope}(h:CompSc osc N N' cap scope)(h1:X.env.scope=osc)(h2:X.N=N):CompScope X N' cap scope:=by
 subst h1;subst h2
 refine⟨h.kind,h.nocell,h.names,h.fr,h.len,fun i j e=>?_⟩
 have hi:i<cap.length:=(List.getElem?_eq_some_iff.mp e).1
 have:=List.all_eq_true.mp h.cap i (by simpa using hi)
 rw[e]at this
 dsimp only at this
 split at this
 .rename_i x y e1 e2
  rw[Bool.and_eq_true]at this
  have e3:x=y:=of_decide_eq_true this.1
  subst e3
  exact⟨x,e1,e2,of_decide_eq_true this.2⟩
 .cases this
section
variable {X:Cx}{F0 H0:Hp}{Ψ:Psi}{N N':List Str}{osc scope:Scope}{cap:List (Option Nat)}{elt target iter c:Expr}{ifs:List Expr}{fi:Ev->RI}{b:B1}{f e:Ev->R}{S:List Nat}{pos:Pos}
noncomputable def VF (X:Cx)(F0 H0:Hp)(ifs:List Expr)(f:Ev->R):Prop:=PIfs X ifs (tVT X.K F0 H0 Psi0 f)
theorem QeT:VF X F0 H0 [] aV:=fun pins s σ H Q I h=>by
 obtain⟨F,ev,fi,m⟩:=h
 exact QmO pins s σ H Q I (m F H fi.refl)
theorem QeU (h:VT X F0 H0 Psi0 c f):VF X F0 H0 [c] f:=QmP h
theorem QfO (N':List Str)(cap:List aw)(S:List Nat)(hX:X.env.scope=osc)(hN:X.N=N)(C:CompSc osc N N' cap scope)(hcalm:X.calm=true)(hi:VI X F0 H0 Ψ target iter fi)(hB:Qk3 S b)
  (hb:∀C s H fp,VG aN F0 H0 target b/\VF aN F0 H0 ifs f/\VE aN F0 H0 Psi0 elt e) (hS:∀i∈S,cap[i]?=some none:=by decide)
  (hs:∀x,foldedSetIterable iter X.env x=pure x:=by intro _;rfl):VE X F0 H0 Ψ aA (Qbp cap fi b f e):=
 (QmQ (g:=gV X.K F0 H0 b) (tc:=tVT X.K F0 H0 Psi0 f) (te:=tV X.K F0 H0 Psi0 e) hcalm (C.to hX hN) hi hb hs).mono fun _ _ _ q=>QnT hB hS q
theorem QmS {K:PySem.W.Frag}{i:Nat}{cap:List aw}{fi:Ev->RI}{b:B1}{c e:Ev->R}{S:List Nat}{E:Ends}{σ:L2.St}{H:Hp}(hB:Qk3 S b)(hS:∀i∈S,cap[i]?=some none)(h:tSv K F0 H0 Ψ (setG i (Qbp cap fi b c e)) E σ H):
  tAsg (tLC cap (tVI K F0 H0 Ψ fi) (gV K F0 H0 b) (tVT K F0 H0 Psi0 c) (tV K F0 H0 Psi0 e)) (Qh8 i) E σ H:=QnT hB hS (QkY h)
theorem Qcc (i:Nat){x:Str}{py spos:Pos}(N':List Str)(cap:List aw)(S:List Nat)(hX:X.env.scope=osc)(hN:X.N=N)(nd:X.N.Nodup)(C:CompSc osc N N' cap scope)(hcalm:X.calm=true)(hi:VI X F0 H0 Ψ target iter fi)(hB:Qk3 S b)
  (hb:∀C s H fp,VG aN F0 H0 target b/\VF aN F0 H0 ifs f/\VE aN F0 H0 Psi0 elt e) (hS:∀i∈S,cap[i]?=some none:=by decide)
  (hix:X.N[i]?=some x:=by rfl) (hx:Loc X.env.scope x:=by first|exact Or.inl rfl|exact Or.inr rfl) (hf:X.fn x=true\/X.env.scope.names.lookup x=some .local:=by first|exact .inl rfl|exact .inr rfl)
  (hsw:swapsWith aA (some (.Name x py)) spos.line X.env=pure true:=by rfl)
  (hs:∀x,foldedSetIterable iter X.env x=pure x:=by intro _;rfl):VS X F0 H0 Ψ (.Assign [.Name x py] aA spos) (setG i (Qbp cap fi b f e)):=
 (QmR (g:=gV X.K F0 H0 b) (tc:=tVT X.K F0 H0 Psi0 f) (te:=tV X.K F0 H0 Psi0 e) hcalm (C.to hX hN) hi hb (QkE nd hix hx hf) hsw hs).mono fun _ _ _ q=>QmS hB hS q
end
mutual
noncomputable def py:D->Option PyData
 | .non=>some .none
 | .bl b=>some (.bool b)
 | .int i=>some (.int i)
 | .str x=>if PyData.strOk x=true then some (.str x)else none
 | .tup xs=>(pyL xs).map .tuple
 | .lst xs=>(pyL xs).map .list
 | .scr xs=>(pyL xs).map .list
 | .dK _ _=>none
 | .dT _ _=>none
 | .obj _ _ _=>none
 | .ty _=>none
noncomputable def pyL:List D->Option (List PyData)
 | []=>some []
 |d::ds=>(py d).bind fun p=>(pyL ds).map (p:: ·)
end
section
variable {X:Cx}{pins:List (Addr×Obj)}{σ:L2.St}{H:Hp}{s:Shared}
mutual
theorem Rep.reads (I:Inv X pins σ H s):∀{d:D} {v:V} {u:Value} {p:PyData},Rep X.K H d v->RelV v u->py d=some p->∃as,Reads s.heap u p as/\p.canLay0=true
 | .non,_,_,_,h,r,e=>by rw[Rep]at h;subst h;rw[py]at e;cases e;cases r;exact⟨[], .none,rfl⟩
 | .bl b,_,_,_,h,r,e=>by rw[Rep]at h;subst h;rw[py]at e;cases e;cases r;exact⟨[], .bool b,rfl⟩
 | .int i,_,_,_,h,r,e=>by rw[Rep]at h;subst h;rw[py]at e;cases e;obtain⟨t,rfl⟩:=r;exact⟨[], .int i t,rfl⟩
 | .str x,_,_,_,h,r,e=>by
  rw[Rep]at h;subst h;rw[py]at e
  split at e
  .rename_i hs;cases e;obtain⟨t,rfl⟩:=r;exact⟨[], .str x t,by simpa[PyData.canLay0]using hs⟩
  .cases e
 | .tup xs,_,_,_,h,r,e=>by
  rw[Rep]at h;obtain⟨a,vs,rfl,h2,h3⟩:=h
  rw[py]at e
  cases q:pyL xs with
  |none=>rw[q]at e;cases e
  |some ps=>
   rw[q]at e;cases e
   cases r
   obtain⟨its,rv,⟨o,ho,hc,n,hd⟩,hz⟩:=I.tuple (SqT.of h2)
   obtain⟨as,h4,h5⟩:=Reps.reads I h3 rv q
   exact⟨as, .tuple ho hc hd (by simpa using h4),by simpa[PyData.canLay0]using h5⟩
 | .lst xs,_,_,_,h,r,e=>by
  rw[Rep]at h;obtain⟨a,vs,rfl,h2,h3⟩:=h
  rw[py]at e
  cases q:pyL xs with
  |none=>rw[q]at e;cases e
  |some ps=>
   rw[q]at e;cases e
   cases r
   obtain⟨its,rv,pl,hz⟩:=I.list (SqL.of h2)
   obtain⟨o,ho,hc,n,hd⟩:=pl.isList
   obtain⟨as,h4,h5⟩:=Reps.reads I h3 rv q
   exact⟨a::as, .list ho hc hd (by simpa using h4),by simpa[PyData.canLay0]using h5⟩
 | .scr xs,_,_,_,h,r,e=>by
  rw[Rep]at h;obtain⟨a,vs,rfl,h2,h3⟩:=h
  rw[py]at e
  cases q:pyL xs with
  |none=>rw[q]at e;cases e
  |some ps=>
   rw[q]at e;cases e
   cases r
   obtain⟨its,rv,pl,hz⟩:=I.list h2
   obtain⟨o,ho,hc,n,hd⟩:=pl.isList
   obtain⟨as,h4,h5⟩:=Reps.reads I h3 rv q
   exact⟨a::as, .list ho hc hd (by simpa using h4),by simpa[PyData.canLay0]using h5⟩
 | .dK _ _,_,_,_,_,_,e=>by rw[py]at e;cases e
 | .dT _ _,_,_,_,_,_,e=>by rw[py]at e;cases e
 | .obj _ _ _,_,_,_,_,_,e=>by rw[py]at e;cases e
 | .ty _,_,_,_,_,_,e=>by rw[py]at e;cases e
theorem Reps.reads (I:Inv X pins σ H s):∀{ds:List D} {vs:List V} {us:List Value} {ps:List PyData},Reps X.K H ds vs->Vals vs us->pyL ds=some ps->∃as,ReadsAll s.heap us ps as/\PyData.canLayAll0 ps=true
 | [],_,_,_,h,r,e=>by rw[h.unnil]at r;cases r;rw[pyL]at e;cases e;exact⟨[], .nil,rfl⟩
 |d::ds,_,_,_,h,r,e=>by
  obtain⟨v,t,rfl,h1,h2⟩:=h.uncons
  cases r with
  |cons r1 r2=>
   rw[pyL]at e
   cases q1:py d with
   |none=>rw[q1]at e;cases e
   |some p=>
    rw[q1]at e
    cases q2:pyL ds with
    |none=>rw[q2]at e;cases e
    |some ps=>
     rw[q2]at e
     cases e
     obtain⟨as,g1,g2⟩:=Rep.reads I h1 r1 q1
     obtain⟨bs,g3,g4⟩:=Reps.reads I h2 r2 q2
     exact⟨as++bs, .cons g1 g3,by simp[PyData.canLayAll0,g2,g4]⟩
end
end
noncomputable def DEEP:Nat:=60
noncomputable def eqD:G2:=fun a b=>match py a,py b with
 |some p,some q=>if p.depth<=DEEP then some (.fz, .bl (p.eqv q))else none
 |_,_=>none
noncomputable def neD:G2:=fun a b=>match py a,py b with
 |some p,some q=>if p.depth<=DEEP then some (.fz, .bl (!p.eqv q))else none
 |_,_=>none
noncomputable def Qcd:D->Option (List D)
 | .lst xs=>some xs
 | .scr xs=>some xs
 | .tup xs=>some xs
 |_=>none
noncomputable def inL:G2:=fun a b=>match py a,(Qcd b).bind pyL with
 |some p,some qs=>if p.depth<=DEEP then some (.fz, .bl (qs.any fun q=>q.eqv p))else none
 |_,_=>none
noncomputable def Qce:G2:=fun a b=>match py a,(Qcd b).bind pyL with
 |some p,some qs=>if p.depth<=DEEP then some (.fz, .bl (!qs.any fun q=>q.eqv p))else none
 |_,_=>none
section
variable {X:Cx}
noncomputable def rP (K:PySem.W.Frag)(g:G2):R2:=fun x y H Q=>∃dx dy d,Rep K H dx x/\Rep K H dy y/\g dx dy=some (.fz, .bl d)/\Q (.bl d) H
theorem ok_P {K:PySem.W.Frag}{g:G2}(hg:∀a b k d,g a b=some (k,d)->∃t,k= .fz/\d= .bl t):OkOp K (rP K g) g:=by
 intro F H dx dy x y k d Q s rx ry e q
 obtain⟨t,rfl,rfl⟩:=hg _ _ _ _ e
 exact⟨dx,dy,t,rx.rep s,ry.rep s,e,q F _ H aq⟩
theorem Qrl (a b:D)(k:Kd)(d:D)(e:eqD a b=some (k,d)):∃t,k= .fz/\d= .bl t:=by
 unfold eqD at e;split at e
 .split at e
  .cases e;exact⟨_,rfl,rfl⟩
  .cases e
 .cases e
theorem Qrm (a b:D)(k:Kd)(d:D)(e:neD a b=some (k,d)):∃t,k= .fz/\d= .bl t:=by
 unfold neD at e;split at e
 .split at e
  .cases e;exact⟨_,rfl,rfl⟩
  .cases e
 .cases e
theorem Qrn (a b:D)(k:Kd)(d:D)(e:inL a b=some (k,d)):∃t,k= .fz/\d= .bl t:=by
 unfold inL at e;split at e
 .split at e
  .cases e;exact⟨_,rfl,rfl⟩
  .cases e
 .cases e
theorem Qk4 (a b:D)(k:Kd)(d:D)(e:Qce a b=some (k,d)):∃t,k= .fz/\d= .bl t:=by
 unfold Qce at e;split at e
 .split at e
  .cases e;exact⟨_,rfl,rfl⟩
  .cases e
 .cases e
theorem c_eq (hu:X.A.units+100<cLine):Qdy X .Eq eqD:=by
 refine⟨rP X.K eqD,fun pins s σ H x y v u Q I rx ry h=>?_,ok_P Qrl⟩
 obtain⟨dx,dy,t,hx,hy,e,q⟩:=h
 unfold eqD at e
 split at e
 .rename_i p q' e1 e2
  split at e
  .rename_i hd
   have e':PyData.eqv p q'=t:=by injection e with e;injection e with _ e;injection e
   obtain⟨as,r1,c1⟩:=hx.reads I rx e1
   obtain⟨bs,r2,c2⟩:=hy.reads I ry e2
   refine SeqAt.compareEq_reads r1 r2 c1 c2 (by have:=Nat.min_le_left p.depth q'.depth;unfold DEEP at hd;omega) ?_
   rw[e']
   exact⟨.bl t,H,I,rfl,q⟩
  .cases e
 .cases e
theorem c_ne (hu:X.A.units+100<cLine):Qdy X .NotEq neD:=by
 refine⟨rP X.K neD,fun pins s σ H x y v u Q I rx ry h=>?_,ok_P Qrm⟩
 obtain⟨dx,dy,t,hx,hy,e,q⟩:=h
 unfold neD at e
 split at e
 .rename_i p q' e1 e2
  split at e
  .rename_i hd
   have e':(!PyData.eqv p q')=t:=by injection e with e;injection e with _ e;injection e
   obtain⟨as,r1,c1⟩:=hx.reads I rx e1
   obtain⟨bs,r2,c2⟩:=hy.reads I ry e2
   refine SeqAt.compareNe_reads r1 r2 c1 c2 (by have:=Nat.min_le_left p.depth q'.depth;unfold DEEP at hd;omega) ?_
   rw[e']
   exact⟨.bl t,H,I,rfl,q⟩
  .cases e
 .cases e
theorem QeV {pins:List ay}{σ:L2.St}{H:Hp}{s:Shared}(I:Inv X pins σ H s){d:D}{v:V}{u:Value}{xs:List D}{ps:List PyData}(h:Rep X.K H d v)(r:RelV v u)(e:Qcd d=some xs)(ep:pyL xs=some ps):
  PyData.canLayAll0 ps=true/\((∃as,Reads s.heap u (.list ps) as)\/∃as,Reads s.heap u (.tuple ps) as):=by
 cases d<;>simp only[Qcd]at e<;>first|cases e|skip
 .obtain⟨as,h1,h2⟩:=h.reads I r (show py (.tup xs)=some (.tuple ps)by rw[py,ep];rfl)
  exact⟨by simpa[PyData.canLay0]using h2, .inr ⟨as,h1⟩⟩
 .obtain⟨as,h1,h2⟩:=h.reads I r (show py (.lst xs)=some (.list ps)by rw[py,ep];rfl)
  exact⟨by simpa[PyData.canLay0]using h2, .inl ⟨as,h1⟩⟩
 .obtain⟨as,h1,h2⟩:=h.reads I r (show py (.scr xs)=some (.list ps)by rw[py,ep];rfl)
  exact⟨by simpa[PyData.canLay0]using h2, .inl ⟨as,h1⟩⟩
theorem QtE (hu:X.A.units+100<cLine):Qdy X .In inL:=by
 refine⟨rP X.K inL,fun pins s σ H x y v u Q I rx ry h=>?_,ok_P Qrn⟩
 obtain⟨dx,dy,t,hx,hy,e,q⟩:=h
 unfold inL at e
 split at e
 .rename_i p qs e1 e2
  split at e
  .rename_i hd
   have e':(qs.any fun q=>q.eqv p)=t:=by injection e with e;injection e with _ e;injection e
   cases q1:Qcd dy with
   |none=>rw[q1]at e2;cases e2
   |some xs=>
    rw[q1]at e2
    obtain⟨as,r1,c1⟩:=hx.reads I rx e1
    obtain⟨c2,r2⟩:=QeV I hy ry q1 e2
    have hu':X.A.units+1+min (PyData.depthAll qs) p.depth<cLine:=by have:=Nat.min_le_right (PyData.depthAll qs) p.depth;unfold DEEP at hd;omega
    rcases r2 with⟨bs,r2⟩|⟨bs,r2⟩
    .exact SeqAt.in_list_reads r2 r1 c2 c1 hu' (by rw[e'];exact⟨.bl t,H,I,rfl,q⟩)
    .exact SeqAt.in_tuple_reads r2 r1 c2 c1 hu' (by rw[e'];exact⟨.bl t,H,I,rfl,q⟩)
  .cases e
 .cases e
theorem QmT (hu:X.A.units+100<cLine):Qdy X .NotIn Qce:=by
 refine⟨rP X.K Qce,fun pins s σ H x y v u Q I rx ry h=>?_,ok_P Qk4⟩
 obtain⟨dx,dy,t,hx,hy,e,q⟩:=h
 unfold Qce at e
 split at e
 .rename_i p qs e1 e2
  split at e
  .rename_i hd
   have e':(!qs.any fun q=>q.eqv p)=t:=by injection e with e;injection e with _ e;injection e
   cases q1:Qcd dy with
   |none=>rw[q1]at e2;cases e2
   |some xs=>
    rw[q1]at e2
    obtain⟨as,r1,c1⟩:=hx.reads I rx e1
    obtain⟨c2,r2⟩:=QeV I hy ry q1 e2
    have hu':X.A.units+1+min (PyData.depthAll qs) p.depth<cLine:=by have:=Nat.min_le_right (PyData.depthAll qs) p.depth;unfold DEEP at hd;omega
    rcases r2 with⟨bs,r2⟩|⟨bs,r2⟩
    .exact SeqAt.notIn_list_reads r2 r1 c2 c1 hu' (by rw[e'];exact⟨.bl t,H,I,rfl,q⟩)
    .exact SeqAt.notIn_tuple_reads r2 r1 c2 c1 hu' (by rw[e'];exact⟨.bl t,H,I,rfl,q⟩)
  .cases e
 .cases e
end
theorem QO {k:Nat}{A:Around}(hr:Room k A):A.units+100<cLine:=by have:=hr.un;omega
theorem Qro {P:List Value->Prop}{p:Str}{ps:List Str}(k:∀a l,l.length=ps.length->P (a::l))(us:List Value)(h:us.length=(p::ps).length):P us:=by
 cases us with
 |nil=>cases h
 |cons a l=>exact k a l (Nat.succ.inj h)
theorem Qrp {P:List Value->Prop}(k:P [])(us:List Value)(h:us.length=([]:List Str).length):P us:=by
 cases us with
 |nil=>exact k
 |cons a l=>cases h
end L3
namespace L3
open PySem L2
noncomputable def tyN:D->Option String
 | .non=>some "NoneType"
 | .bl _=>some "bool"
 | .int _=>some "int"
 | .str _=>some "str"
 | .tup _=>some "tuple"
 | .lst _=>some "list"
 | .dK _ _=>some "dict"
 | .dT _ _=>some "dict"
 |_=>none
noncomputable def isT (T:String):D->Bool
 | .bl _=>T=="bool"||T=="int"
 | .int _=>T=="int"
 | .str _=>T=="str"
 | .tup _=>T=="tuple"
 | .lst _=>T=="list"
 | .dK _ _=>T=="dict"
 | .dT _ _=>T=="dict"
 |_=>false
noncomputable def Qo4:List String:= ["int","bool","str","tuple","list","dict"]
noncomputable def isiD:GN
 | [d, .ty T]=>if(tyN d).isSome=true/\T∈Qo4 then some (.fz, .bl (isT T d))else none
 |_=>none
section
variable {K:PySem.W.Frag}{X:Cx}
theorem Qrq {d:D}{t T:String}(h:tyN d=some t)(hT:T∈Qo4):PySem.W.kitOne K (.type t) (.type T)=some (isT T d):=by
 simp only[Qo4,List.mem_cons,List.not_mem_nil,or_false]at hT
 cases d<;>simp only[tyN]at h<;>cases h<;>(rcases hT with rfl|rfl|rfl|rfl|rfl|rfl<;>rfl)
noncomputable def rIsi (K:PySem.W.Frag):List V->Hp->VK->Prop:=fun xs H Q=>∃x tn T b,xs= [x, .ty T]/\TyOf K H x (.type tn)/\PySem.W.kitOne K (.type tn) (.type T)=some b/\Q (.bl b) H
theorem QmU:Qdv X (.builtin "isinstance") (rIsi X.K):=by
 intro pins s σ H xs us Q I r h
 obtain⟨x,tn,T,b,rfl,ty,e,q⟩:=h
 obtain⟨u,w',rfl,rx,rw'⟩:=QqT r
 cases rw'
 exact QkM I rx ty e fun tk=>⟨.bl b,H,I.tok tk,rfl,q⟩
theorem RdV.tyOf {F H:Hp}{d:D}{v:V}{t:String}(s:Same F H)(h:RdV K F H d v)(e:tyN d=some t):TyOf K H v (.type t):=by
 cases d<;>simp only[tyN]at e<;>cases e
 .rw[h.non];exact .non
 .rw[h.bl];exact .bl _
 .rw[h.int];exact .int _
 .rw[h.str];exact .str _
 .obtain⟨a,vs,rfl,h1,_⟩:=h.tup s;exact .tup h1
 .obtain⟨a,vs,rfl,h1,_⟩:=h.lst s;exact .lst h1
 .rcases h with h|⟨a,rfl,vs,h1,_⟩
  .rw[Rep]at h;obtain⟨a,vs,rfl,h1,_⟩:=h;exact .dK (s _ _ h1)
  .exact .dK h1
 .rcases h with h|⟨a,rfl,vs,h1,_⟩
  .rw[Rep]at h;obtain⟨a,vs,rfl,h1,_⟩:=h;exact .dT (s _ _ h1)
  .exact .dT h1
theorem Qrr:Qb8 K (rIsi K) isiD:=by
 intro F H ds vs k d Q s r e q
 unfold isiD at e
 split at e
 .rename_i d0 T
  split at e
  .rename_i hc
   cases e
   obtain⟨v,_,rfl,rx,u,_,rfl,ry,rfl⟩:=r
   obtain⟨t,ht⟩:=Option.isSome_iff_exists.mp hc.1
   exact⟨v,t,T,_,by rw[ry.ty],rx.tyOf s ht,Qrq ht hc.2,q F _ H aq⟩
  .cases e
 .cases e
variable {F0 H0:Hp}{Ψ:Psi}{a b c e:Expr}{es:List Expr}{f f1 f2 f3:Ev->R}{fs:Ev->RA}{pos p:Pos}
theorem v_ty {T:String}{x:Str}(hm:X.mg x=none)(hv:bootBuiltins x=some (.type T):=by rfl)(hg:Gl X x:=by rfl)(hn:x≠"__name__":=by decide)(hd:aJ=false:=by decide):VE X F0 H0 Ψ (.Name x pos) (conR (.ty T)):=
 (Qol (v:= .ty T) hg hm hv rfl hn hd).mono fun _ _ _ h=>QkX (by rw[Rep]) h
theorem Qrs (hm:X.mg "isinstance"=none)(ha:VA X F0 H0 Ψ aO fs)(hgl:Gl X "isinstance":=by rfl)(he:starEach aO X.env=(false,eval e X.env)::starEach es X.env:=by rfl)(hpl:(backTo pos aM).any (·.1)=false:=by rfl):VE X F0 H0 Ψ (.Call (.Name "isinstance" p) aO [] pos) (QV isiD fs):=QdT QmU Qrr hm (by rfl) ha hgl aj aj he hpl
theorem Qrt (hc:X.calm=true)(hm:X.mg "min"=none)(ha:VA X F0 H0 Ψ aO fs)(hgl:Gl X "min":=by rfl)(he:starEach aO X.env=(false,eval e X.env)::starEach es X.env:=by rfl)(hpl:(backTo pos aM).any (·.1)=false:=by rfl):VE X F0 H0 Ψ (.Call (.Name "min" p) aO [] pos) (QV Qk1 fs):=QdT (QkI hc) QoZ hm (by rfl) ha hgl aj aj he hpl
end
end L3
namespace L3
open PySem L2
section
variable {κ:Type} [DecidableEq κ]
noncomputable def dGet:List κ->List D->κ->Option D
 |k::ks,x::xs,q=>if k=q then some x else dGet ks xs q
 |_,_,_=>none
noncomputable def QW (ks:List κ)(k:κ):List κ:=if k∈ks then ks else ks++ [k]
noncomputable def QbC (ks:List κ)(xs:List D)(k:κ)(d:D):List D:=if k∈ks then List.zipWith (fun k' x=>if k'=k then d else x) ks xs else xs++ [d]
variable {K:PySem.W.Frag}{F:Hp}
theorem Qij {k:κ}:∀{ks:List κ} {xs:List D} {vs:List V},Reps K F xs vs->ks.length=vs.length->match dGet ks xs k with
  |some d=>∃v,valV (ks.zip vs) k=some v/\Rep K F d v
  |none=>valV (ks.zip vs) k=none
 | [],xs,vs,_,_=>by simp[dGet,Qmv]
 |q::ks,[],vs,r,h=>by rw[r.unnil]at h;simp at h
 |q::ks,x::xs,_,r,h=>by
  obtain⟨v,vs,rfl,rv,rs⟩:=r.uncons
  rw[dGet,List.zip_cons_cons]
  by_cases e:q=k
  .rw[if_pos e,Qey e];exact⟨v,rfl,rv⟩
  .rw[if_neg e,Qez e];exact Qij rs (by simpa using h)
theorem val_some {k:κ}{ks:List κ}{xs:List D}{vs:List V}{d:D}(r:Reps K F xs vs)(h:ks.length=vs.length)(e:dGet ks xs k=some d):∃v,valV (ks.zip vs) k=some v/\Rep K F d v:=by
 have:=Qij (k:=k) r h
 rw[e]at this;exact this
theorem QfP {k:κ}{ks:List κ}{xs:List D}{vs:List V}(r:Reps K F xs vs)(h:ks.length=vs.length):(valV (ks.zip vs) k).isSome=(dGet ks xs k).isSome:=by
 have:=Qij (k:=k) r h
 cases e:dGet ks xs k with
 |none=>rw[e]at this;rw[this];rfl
 |some d=>rw[e]at this;obtain⟨v,e,_⟩:=this;rw[e];rfl
theorem Qik {k:κ}:∀{ks:List κ} {vs:List V},ks.length=vs.length->((ks.zip vs).any (fun kv=>decide (kv.1=k))=true↔k∈ks)
 | [],_,_=>by simp
 |q::ks,[],h=>by simp at h
 |q::ks,v::vs,h=>by
  rw[List.zip_cons_cons,List.any_cons,Bool.or_eq_true,Qik (by simpa using h),List.mem_cons,decide_eq_true_iff]
  exact or_congr eq_comm Iff.rfl
theorem Qk5 {k:κ}{ks:List κ}{xs:List D}{vs:List V}{d:D}{v:V}(r:Reps K F xs vs)(h:ks.length=vs.length)(rv:Rep K F d v):
  ∃vs',putK (ks.zip vs) k v=(QW ks k).zip vs'/\(QW ks k).length=vs'.length/\Reps K F (QbC ks xs k d) vs':=by
 unfold putK QW QbC
 by_cases hk:k∈ks
 .rw[if_pos ((Qik h).2 hk),if_pos hk,if_pos hk]
  clear hk
  refine⟨List.zipWith (fun k' x=>if k'=k then v else x) ks vs,?_,by simp[h],?_⟩
  .clear r
   induction ks generalizing vs with
   |nil=>rfl
   |cons q ks ih=>
    cases vs with
    |nil=>simp at h
    |cons u vs=>
     simp only[List.zip_cons_cons,List.map_cons,List.zipWith_cons_cons]
     rw[ih (by simpa using h)]
     by_cases e:q=k<;>simp[e]
  .induction ks generalizing vs xs with
   |nil=>exact .nil
   |cons q ks ih=>
    cases xs with
    |nil=>rw[r.unnil];exact .nil
    |cons x xs=>
     obtain⟨u,vs',rfl,ru,rs⟩:=r.uncons
     simp only[List.zipWith_cons_cons]
     refine .cons ?_ (ih rs (by simpa using h))
     by_cases e:q=k<;>simp[e]<;>assumption
 .have hk':¬((ks.zip vs).any (fun kv=>decide (kv.1=k))=true):=fun z=>hk ((Qik h).1 z)
  rw[if_neg hk',if_neg hk,if_neg hk]
  exact⟨vs++ [v],by rw[List.zip_append h];rfl,by simp[h],r.app (.cons rv .nil)⟩
end
noncomputable def keyD:D->Option Key
 | .int i=>some (.inl i)
 | .str x=>some (.inr x)
 |_=>none
noncomputable def Qbf:List D->Option (List Key)
 | []=>some []
 |d::ds=>(keyD d).bind fun k=>(Qbf ds).map (k:: ·)
section
variable {K:PySem.W.Frag}{F H:Hp}
theorem Qi9 {d:D}{k:Key}{v:V}(e:keyD d=some k)(r:RdV K F H d v):v=kV k:=by
 cases d<;>simp only[keyD]at e<;>cases e
 .rw[r.int];rfl
 .rw[r.str];rfl
theorem QeB:∀{ds:List D} {ks:List Key} {vs:List V},Qbf ds=some ks->Reps K F ds vs->vs=ks.map kV
 | [],_,_,e,r=>by cases e;rw[r.unnil];rfl
 |d::ds,ks,_,e,r=>by
  obtain⟨v,vs,rfl,rv,rs⟩:=r.uncons
  simp only[Qbf]at e
  cases e1:keyD d with
  |none=>rw[e1]at e;cases e
  |some k=>
   rw[e1]at e
   cases e2:Qbf ds with
   |none=>rw[e2]at e;cases e
   |some ks'=>
    rw[e2]at e;cases e
    rw[QeB e2 rs,Qi9 (H:=F) e1 (.inl rv)];rfl
theorem RdV.dK {ks:List Key}{xs:List D}{v:V}(s:Same F H)(h:RdV K F H (.dK ks xs) v):∃a vs,v= .ref a/\H a=some (.dK (ks.zip vs))/\ks.length=vs.length/\Reps K F xs vs:=by
 rcases h with h|⟨a,h1,vs,h⟩
 .rw[Rep]at h
  obtain⟨a,vs,h1,h2,h3⟩:=h
  exact⟨a,vs,h1,s _ _ h2,h3⟩
 .exact⟨a,vs,h1,h⟩
theorem RdV.dT {ks:List (List Key)}{xs:List D}{v:V}(s:Same F H)(h:RdV K F H (.dT ks xs) v):∃a vs,v= .ref a/\H a=some (.dT (ks.zip vs))/\ks.length=vs.length/\Reps K F xs vs:=by
 rcases h with h|⟨a,h1,vs,h⟩
 .rw[Rep]at h
  obtain⟨a,vs,h1,h2,h3⟩:=h
  exact⟨a,vs,h1,s _ _ h2,h3⟩
 .exact⟨a,vs,h1,h⟩
noncomputable def QbM:D->D->Option (Option D)
 | .dK ks xs,d=>(keyD d).map (dGet ks xs)
 | .dT ks xs, .tup l=>(Qbf l).map (dGet ks xs)
 |_,_=>none
theorem QeC {a b:D}{o:Option D}{x y:V}(s:Same F H)(e:QbM a b=some o)(rx:RdV K F H a x)(ry:RdV K F H b y):∃p ov,x= .ref p/\DGet H p y ov/\(∀d,o=some d->∃v,ov=some v/\Rep K F d v)/\ov.isSome=o.isSome:=by
 cases a with
 |dK ks xs=>
  obtain⟨p,vs,rfl,h1,h2,h3⟩:=rx.dK s
  simp only[QbM]at e
  cases e1:keyD b with
  |none=>rw[e1]at e;cases e
  |some k=>
   rw[e1]at e;cases e
   rw[Qi9 e1 ry]
   exact⟨p,_,rfl, .k h1,fun d e=>val_some h3 h2 e,QfP h3 h2⟩
 |dT ks xs=>
  obtain⟨p,vs,rfl,h1,h2,h3⟩:=rx.dT s
  cases b with
  |tup l=>
   simp only[QbM]at e
   cases e1:Qbf l with
   |none=>rw[e1]at e;cases e
   |some k=>
    rw[e1]at e;cases e
    obtain⟨q,us,rfl,g1,g2⟩:=ry.tup s
    rw[QeB e1 g2]at g1
    exact⟨p,_,rfl, .t h1 g1,fun d e=>val_some h3 h2 e,QfP h3 h2⟩
  |_=>cases e
 |_=>cases e
noncomputable def getK:G2:=fun a b=>match QbM a b with
 |some (some d)=>some (.fz,d)
 |_=>none
noncomputable def Qru:R2:=fun x y H Q=>∃a v,x= .ref a/\DGet H a y (some v)/\Q v H
theorem Qo5:OkOp K Qru getK:=by
 intro F H dx dy x y k d Q s rx ry e q
 unfold getK at e
 split at e
 .rename_i d' e1
  cases e
  obtain⟨p,ov,rfl,g,h,_⟩:=QeC s e1 rx ry
  obtain⟨v,rfl,rv⟩:=h d rfl
  exact⟨p,v,rfl,g,q F v H (.pure (.refl s) rv)⟩
 .cases e
variable {X:Cx}
open PySem.Spec PyProof.Rows in
theorem Qo6 (hu:X.A.units+1<cLine):IxR X Qru:=by
 intro value slice pins s σ H x y v u Q I rx ry h hs
 obtain⟨a,w',rfl,g,q⟩:=h
 obtain rfl:v=Value.ref a:=rx
 have hT:=Qig I g
 unfold subscriptTail
 refine wpAny_bind ?_
 rw[getitemInPython_of_ne hT.not_modules]
 refine wpAny_bind (wpAny_specialOf hT PySem.F.slot_dict_getitem.lookup ?_)
 have fin:wpAny ah X.A (subscripted slice false (.ref a) u) (fun r s₃=>wpAny ah X.A (letTemporaryGo value (.ref a) r>>=fun _=>pure r) (EP X pins σ Q) X.xe s₃) X.xe s:=by
  rw[hs]
  exact wpAny_operating (wpAny_mono (QkS hu I g ry fun w'' s' I' rw'=>(⟨w',H,I',rw',q⟩:EP X pins σ Q w'' s')) (fun r s₃ h₃=>wpAny_bind (wpAny_letTemporaryGo (wpAny_pure h₃))) fun _ _ x=>x)
 first
  |exact wpAny_pure (wpAny_bind fin)
  |exact wpAny_bind (wpAny_pure (wpAny_bind fin))
  |exact wpAny_bind fin
noncomputable def idxD:G2:=fun a b=>(idxL a b).or (getK a b)
theorem Qn {F0 H0:Hp}{Ψ:Psi}{a b:Expr}{f1 f2:Ev->R}{pos:Pos}(hu:X.A.units+100<cLine)(ha:VE X F0 H0 Ψ a f1)(hb:VE X F0 H0 Ψ b f2)(hs:QkP b:=by exact fun _ _=>rfl):VE X F0 H0 Ψ (.Subscript a b pos) (eOp idxD f1 f2):=(Qtv (ix_seq.or (Qo6 aa)) ha hb hs).mono fun _ _ _ h=>Qho (ok_idxL.or Qo5) h
noncomputable def hasK:G2:=fun a b=>(QbM b a).map fun o=>(.fz, .bl o.isSome)
noncomputable def QeW:G2:=fun a b=>(QbM b a).map fun o=>(.fz, .bl !o.isSome)
theorem Qo7:OkOp K (fun y x H Q=>∃a o,x= .ref a/\DGet H a y o/\Q (.bl o.isSome) H) hasK:=by
 intro F H dx dy x y k d Q s rx ry e q
 unfold hasK at e
 cases e1:QbM dy dx with
 |none=>rw[e1]at e;cases e
 |some o=>
  rw[e1]at e;cases e
  obtain⟨p,ov,rfl,g,_,h⟩:=QeC s e1 ry rx
  exact⟨p,ov,rfl,g,by rw[h];exact q F _ H aq⟩
theorem Qj9:OkOp K (fun y x H Q=>∃a o,x= .ref a/\DGet H a y o/\Q (.bl (!o.isSome)) H) QeW:=by
 intro F H dx dy x y k d Q s rx ry e q
 unfold QeW at e
 cases e1:QbM dy dx with
 |none=>rw[e1]at e;cases e
 |some o=>
  rw[e1]at e;cases e
  obtain⟨p,ov,rfl,g,_,h⟩:=QeC s e1 ry rx
  exact⟨p,ov,rfl,g,by rw[h];exact q F _ H aq⟩
theorem OpR.or' {f:Value->Value->Sem Value}{r r':R2}(h:OpR X f r)(h':OpR X f r'):OpR X f (fun x y H Q=>r x y H Q\/r' x y H Q):=by
 intro pins s σ H x y v u Q I rx ry q
 rcases q with q|q
 .exact h pins s σ H x y v u Q I rx ry q
 .exact h' pins s σ H x y v u Q I rx ry q
theorem Qo8 (hu:X.A.units+1<cLine):OpR X (compareOp .In) (fun y x H Q=>∃a o,x= .ref a/\DGet H a y o/\Q (.bl o.isSome) H):=by
 intro pins s σ H x y v u Q I rx ry h
 obtain⟨a,o,rfl,g,q⟩:=h
 obtain rfl:u=Value.ref a:=ry
 exact d_in hu I g rx fun s' I'=>⟨.bl o.isSome,H,I',rfl,q⟩
theorem Qka (hu:X.A.units+1<cLine):OpR X (compareOp .NotIn) (fun y x H Q=>∃a o,x= .ref a/\DGet H a y o/\Q (.bl (!o.isSome)) H):=by
 intro pins s σ H x y v u Q I rx ry h
 obtain⟨a,o,rfl,g,q⟩:=h
 obtain rfl:u=Value.ref a:=ry
 exact QoB hu I g rx fun s' I'=>⟨.bl (!o.isSome),H,I',rfl,q⟩
noncomputable def inD:G2:=fun a b=>(inL a b).or (hasK a b)
noncomputable def Qb1:G2:=fun a b=>(Qce a b).or (QeW a b)
theorem c_in (hu:X.A.units+100<cLine):Qdy X .In inD:=let ⟨_,h1,h2⟩:=QtE hu;⟨_,OpR.or' h1 (Qo8 aa),h2.or Qo7⟩
theorem Qil (hu:X.A.units+100<cLine):Qdy X .NotIn Qb1:=let ⟨_,h1,h2⟩:=QmT hu;⟨_,OpR.or' h1 (Qka aa),h2.or Qj9⟩
variable {F0 H0:Hp}{Ψ:Psi}{σ:St}{pos:Pos}
theorem v_dT:VE X F0 H0 Ψ (.Dict [] [] pos) (fun _=> .ok .ow (.dT [] [])):=pe_dnewT.mono fun σ H Q h=>by
 obtain⟨F,ev,fi,m⟩:=h
 intro p hp
 exact m F (.ref p) _ (Post.own (.refl fi.sub) hp fun H2 e=>⟨[],e,rfl, .nil⟩)
end
end L3
namespace L3
open PySem L2
section
variable {X:Cx}{K:PySem.W.Frag}{F0 H0 F H F' H':Hp}{Ψ:Psi}{σ:St}{ev:Ev}
noncomputable def QmV (i:Nat)(f v:Ev->R)(ev:Ev):Fl:=match v ev with
 | .ok .bo _=> .no
 | .ok _ d=>match ev[i]? with
  |some (some (.ow, .dK ks xs))=>match f ev with
   | .ok _ kd=>match keyD kd with
    |some k=>if ks.length<LIM then .nx (ev.set i (some (.ow, .dK (QW ks k) (QbC ks xs k d))))else .no
    |none=> .no
   | .ex C=> .ex C
   | .no=> .no
  |some (some (.ow, .dT ks xs))=>match f ev with
   | .ok _ (.tup l)=>match Qbf l with
    |some k=>if ks.length<LIM then .nx (ev.set i (some (.ow, .dT (QW ks k) (QbC ks xs k d))))else .no
    |none=> .no
   | .ex C=> .ex C
   |_=> .no
  |_=> .no
 | .ex C=> .ex C
 | .no=> .no
noncomputable def Qo9:V->V->V->Hp->(Hp->Prop)->Prop:=fun o i v H Q=>∃a H',o= .ref a/\DPut H a i v H'/\Q H'
theorem QmW (hu:X.A.units+1<cLine):PSet X Qo9:=by
 intro pins s σ H o i v ov iv u Q I ro ri rv h
 obtain⟨a,H',rfl,g,q⟩:=h
 obtain rfl:ov=Value.ref a:=ro
 exact QkT hu I g ri rv fun s' I'=>⟨H',I',q⟩
theorem FI.owD {i:Nat}{ks:List Key}{xs:List D}(fi:FI K F0 H0 F H ev σ)(e:ev[i]?=some (some (.ow, .dK ks xs))):∃a vs,σ[i]?=some (some (.ref a))/\H a=some (.dK (ks.zip vs))/\ks.length=vs.length/\Reps K F xs vs:=by
 obtain⟨_,v,e1,a,rfl,h1,h2,vs,h3,h4⟩:=fi.at_ i _ _ e
 exact⟨a,vs,e1,h3,h4⟩
theorem FI.owT {i:Nat}{ks:List (List Key)}{xs:List D}(fi:FI K F0 H0 F H ev σ)(e:ev[i]?=some (some (.ow, .dT ks xs))):∃a vs,σ[i]?=some (some (.ref a))/\H a=some (.dT (ks.zip vs))/\ks.length=vs.length/\Reps K F xs vs:=by
 obtain⟨_,v,e1,a,rfl,h1,h2,vs,h3,h4⟩:=fi.at_ i _ _ e
 exact⟨a,vs,e1,h3,h4⟩
theorem QmX {i:Nat}{f v:Ev->R}{E:Ends}(q:tSv K F0 H0 Ψ (QmV i f v) E σ H):tAsg (tV K F0 H0 Ψ v) (gSub (tVar i) (tV K F0 H0 Ψ f) Qo9) E σ H:=by
 obtain⟨F,ev,fi,m⟩:=q
 refine⟨F,ev,fi,?_⟩
 unfold QmV at m
 cases h3:v ev with
 |no=>rw[h3]at m;exact m
 |ex C=>rw[h3]at m;exact m
 |ok k d=>
  rw[h3]at m
  intro F1 y H1 p
  have go:∀F2,Post K F H .fz d F2 y H1->FlowTo K F0 H0 Ψ F E (match ev[i]? with
   |some (some (.ow, .dK ks xs))=>match f ev with
    | .ok _ kd=>match keyD kd with
     |some k=>if ks.length<LIM then .nx (ev.set i (some (.ow, .dK (QW ks k) (QbC ks xs k d))))else .no
     |none=> .no
    | .ex C=> .ex C
    | .no=> .no
   |some (some (.ow, .dT ks xs))=>match f ev with
    | .ok _ (.tup l)=>match Qbf l with
     |some k=>if ks.length<LIM then .nx (ev.set i (some (.ow, .dT (QW ks k) (QbC ks xs k d))))else .no
     |none=> .no
    | .ex C=> .ex C
    |_=> .no
   |_=> .no)->gSub (tVar i) (tV K F0 H0 Ψ f) Qo9 y σ H1 E.nx:=fun F2 p2 m=>by
   split at m
   .rename_i ks xs e
    obtain⟨a,vs,e1,h1,h2,h2'⟩:=fi.owD e
    refine⟨.ref a,e1,F2,ev,fi.later p2.st,?_⟩
    cases h4:f ev with
    |no=>rw[h4]at m;exact m
    |ex C=>rw[h4]at m;exact m
    |ok k' d'=>
     rw[h4]at m
     intro F3 z H3 p3
     dsimp only at m
     cases h5:keyD d' with
     |none=>rw[h5]at m;exact m.elim
     |some kk=>
      rw[h5]at m
      dsimp only at m
      by_cases hl:ks.length<LIM
      .rw[if_pos hl]at m
       have st:=p2.st.trans p3.st
       obtain⟨vs',g1,g2,g3⟩:=Qk5 (k:=kk) (h2'.mono st.up) h2 (p2.val.later p3.st)
       refine⟨a,_,rfl,?_,m F3 _ σ st.up ((fi.later st).mut e e1 fun H2 z=>⟨vs',z,g2,g3⟩)⟩
       rw[Qi9 h5 p3.val.rd,←g1]
       exact .k (st.keep _ _ h1) (by rw[List.length_zip,←h2,Nat.min_self];exact Nat.lt_of_lt_of_le hl QB)
      .rw[if_neg hl]at m;exact m.elim
   .rename_i ks xs e
    obtain⟨a,vs,e1,h1,h2,h2'⟩:=fi.owT e
    refine⟨.ref a,e1,F2,ev,fi.later p2.st,?_⟩
    cases h4:f ev with
    |no=>rw[h4]at m;exact m
    |ex C=>rw[h4]at m;exact m
    |ok k' d'=>
     rw[h4]at m
     intro F3 z H3 p3
     cases d' with
     |tup l=>
      dsimp only at m
      cases h5:Qbf l with
      |none=>rw[h5]at m;exact m.elim
      |some kk=>
       rw[h5]at m
       dsimp only at m
       by_cases hl:ks.length<LIM
       .rw[if_pos hl]at m
        have st:=p2.st.trans p3.st
        obtain⟨vs',g1,g2,g3⟩:=Qk5 (k:=kk) (h2'.mono st.up) h2 (p2.val.later p3.st)
        obtain⟨b,us,rfl,hb,hus⟩:=p3.val.rd.tup p3.st.sub
        rw[QeB h5 hus]at hb
        refine⟨a,_,rfl,?_,m F3 _ σ st.up ((fi.later st).mut e e1 fun H2 z=>⟨vs',z,g2,g3⟩)⟩
        rw[←g1]
        exact .t (st.keep _ _ h1) hb (by rw[List.length_zip,←h2,Nat.min_self];exact Nat.lt_of_lt_of_le hl QB)
       .rw[if_neg hl]at m;exact m.elim
     |_=>exact m.elim
   .exact m.elim
  cases k with
  |bo=>exact m.elim
  |fz=>exact go F1 p m
  |ow=>obtain⟨F2,p2⟩:=p.frz;exact go F2 p2 m
noncomputable def Qk6:Option (Option (Kd×D))->Bool
 |some (some (.ow, .lst _))=>true
 |_=>false
noncomputable def Qcf (i:Nat)(f v:Ev->R)(ev:Ev):Fl:=if Qk6 ev[i]?=true then QmM i f v ev else QmV i f v ev
variable {e i':Expr}{f v:Ev->R}{x:Str}{p apos cpos pos:Pos}
theorem PS.or {st:Stmt}{t t':TS}(h:PS X st t)(h':PS X st t'):PS X st (fun D σ H=>t D σ H\/t' D σ H):=fun pins s σ H D I q=>by
 rcases q with q|q
 .exact h pins s σ H D I q
 .exact h' pins s σ H D I q
theorem QbN (hu:X.A.units+100<cLine)(i:Nat)(he:VE X F0 H0 Ψ e v)(hi:VE X F0 H0 Ψ i' f)(hN:X.N[i]?=some x:=by rfl)(hv:Vis X.env.scope x:=by first|exact Or.inl rfl|exact Or.inr (Or.inl rfl)|exact Or.inr (Or.inr rfl))(hd:aJ=false:=by decide)
  (hcd:(x==("__classdict__":Str))=false:=by decide)
  (ha:∀v,assign (.Subscript (.Name x p) i' apos) X.env v=(do
   let ov←holding [v] (eval (.Name x p) X.env)
   let iv←holding [v,ov] (eval i' X.env)
   standAt apos
   holding [v,ov,iv] (setItem ov iv v)
   release [v,ov,iv] []):=by intro _;rfl)
  (hs:swapsWithSole [.Subscript (.Name x p) i' apos] e pos.line X.env=pure false:=by rfl) (hw:swappedStores [.Subscript (.Name x p) i' apos] e X.env=pure none:=by rfl)
  (h1:(assignEach [.Subscript (.Name x p) i' apos] X.env).map (·.2)= [assign (.Subscript (.Name x p) i' apos) X.env]:=by rfl):
  VS X F0 H0 Ψ (.Assign [.Subscript (.Name x p) i' apos] e pos) (Qcf i f v):=
 (PS.or (QnL he (QnK (QeJ hN hv hd hcd) hi Qmu ha) hs hw h1) (QnL he (QnK (QeJ hN hv hd hcd) hi (QmW aa) ha) hs hw h1)).mono fun E σ H q=>by
  obtain⟨F,ev,fi,m⟩:=q
  unfold Qcf at m
  by_cases c:Qk6 ev[i]?=true
  .rw[if_pos c]at m;exact .inl (Qj8 ⟨F,ev,fi,m⟩)
  .rw[if_neg c]at m;exact .inr (QmX ⟨F,ev,fi,m⟩)
noncomputable def QmY (rk rv:R):R:=match rk with
 | .ok _ kd=>match rv with
  | .ok .bo _=> .no
  | .ok _ d=>match keyD kd with
   |some k=> .ok .ow (.dK [k] [d])
   |none=> .no
  | .ex C=> .ex C
  | .no=> .no
 | .ex C=> .ex C
 | .no=> .no
noncomputable def Qht (fk fv:Ev->R)(ev:Ev):R:=QmY (fk ev) (fv ev)
theorem Qk7 {k:Expr}{fk fv:Ev->R}(hk:VE X F0 H0 Ψ k fk)(hv:VE X F0 H0 Ψ e fv):VE X F0 H0 Ψ (.Dict [some k] [e] pos) (Qht fk fv):=
 (QoD (Qmy hk hv QoC) rfl rfl al al).mono fun σ H Q h=>by
  obtain⟨F,ev,fi,m⟩:=h
  intro p hp
  have hFp:F p=none:=fi.sub.free hp
  have up1:Same H (upd H p (.dK [])):=fun b u e=>by
   rw[Ql];exact e
   rintro rfl;rw[hp]at e;cases e
  have st1:Step F H F (upd H p (.dK [])):=⟨.refl _,fi.sub.trans up1,up1,fun _ _ e=> .inl e⟩
  refine⟨F,ev,fi.later st1,?_⟩
  simp only[Qht]at m
  cases h1:fk ev with
  |no=>rw[h1]at m;exact m
  |ex C=>rw[h1]at m;exact m
  |ok k1 d1=>
   rw[h1]at m
   intro F1 x H1 p1
   refine⟨F1,ev,(fi.later st1).later p1.st,?_⟩
   simp only[QmY]at m
   cases h2:fv ev with
   |no=>rw[h2]at m;exact m
   |ex C=>rw[h2]at m;exact m
   |ok k2 d2=>
    rw[h2]at m
    intro F2 y H2 p2
    have go : ∀ F3, Post X.K F1 H1 .fz d2 F3 y H2 → (match (match keyD d1 with
          |some k=>R.ok .ow (.dK [k] [d2])
          |none=> .no)with
      | .ok k d=>∀F' v H',Post X.K F H k d F' v H'->Q v H'
      | .ex C=>∀F' H',Step F0 H0 F' H'->Ψ C H'
      | .no=>False)->H2 p=some (.dK [])/\∃kvs:List (Key×V),[(x,y)]=kvs.map (fun kv=>(kV kv.1,kv.2))/\kvs.length<=15/\Q (.ref p) (upd H2 p (.dK (QfL [] kvs))):=fun F3 p3 m=>by
     have st:=(st1.trans p1.st).trans p3.st
     have hp2:H2 p=some (.dK []):=p3.st.keep _ _ (p1.st.keep _ _ Qs)
     refine⟨hp2,?_⟩
     cases h5:keyD d1 with
     |none=>rw[h5]at m;exact m.elim
     |some kk=>
      rw[h5]at m
      refine⟨[(kk,y)],by rw[Qi9 h5 p1.val.rd];rfl,by simp,?_⟩
      have nf:F3 p=none:=(p1.st.trans p3.st).unfz Qs hFp
      refine m F3 (.ref p) _ ⟨⟨st.up,fun b u e=>?_,fun b u e=>?_,st.new⟩,p,rfl,hp,nf,[y],by rw[Qs];rfl,rfl, .cons p3.val .nil⟩
      .rw[Ql];exact st.sub _ _ e
       rintro rfl;rw[nf]at e;cases e
      .rw[Ql];exact st.keep _ _ e
       rintro rfl;rw[hp]at e;cases e
    cases k2 with
    |bo=>exact m.elim
    |fz=>exact go F2 p2 m
    |ow=>obtain⟨F3,p3⟩:=p2.frz;exact go F3 p3 m
noncomputable abbrev G1:=D->Option (Kd×D)
noncomputable def un1 (g:G1):R->R
 | .ok _ a=>toR (g a)
 |r=>r
noncomputable def eUn (g:G1)(f:Ev->R)(ev:Ev):R:=un1 g (f ev)
noncomputable def negD:G1
 | .int i=>some (.fz, .int (-i))
 |_=>none
theorem Qk8 {a:Expr}(ha:VE X F0 H0 Ψ a f):VE X F0 H0 Ψ (.UnaryOp .USub a pos) (eUn negD f):=(Qtn QqQ ha).mono fun σ H Q h=>by
 obtain⟨F,ev,fi,m⟩:=h
 refine⟨F,ev,fi,?_⟩
 simp only[eUn]at m
 cases h1:f ev with
 |no=>rw[h1]at m;exact m
 |ex C=>rw[h1]at m;exact m
 |ok k d=>
  rw[h1]at m
  intro F1 x H1 p1
  simp only[un1]at m
  cases d with
  |int i=>exact⟨i,p1.val.rd.int,m F1 _ H1 ⟨p1.st,by rw[Val,Rep]⟩⟩
  |_=>exact m.elim
noncomputable def absD:GN
 | [.int i]=>some (.fz, .int (if i<0 then-i else i))
 |_=>none
theorem Qrv:Qb8 K (fun xs H Q=>∃i,xs= [.int i]/\Q (.int (if i<0 then-i else i)) H) absD:=by
 intro F H ds vs k d Q s r e q
 unfold absD at e
 split at e
 .rename_i i
  cases e
  obtain⟨v,_,rfl,rx,rfl⟩:=r
  exact⟨i,by rw[rx.int],q F _ H aq⟩
 .cases e
theorem Qrw {es:List Expr}{fs:Ev->RA}{p:Pos}(hm:X.mg "abs"=none)(ha:VA X F0 H0 Ψ aO fs)(hgl:Gl X "abs":=by rfl)(he:starEach aO X.env=(false,eval e X.env)::starEach es X.env:=by rfl)(hpl:(backTo pos aM).any (·.1)=false:=by rfl):VE X F0 H0 Ψ (.Call (.Name "abs" p) aO [] pos) (QV absD fs):=QdT Qmp Qrv hm (by rfl) ha hgl aj aj he hpl
end
end L3
namespace L2
open PySem PySem.Spec PyProof.Rows
section
variable {X:Cx}{e st:Expr}{te ts:TE}{pos p2:Pos}
noncomputable def Qpa (K:PySem.W.Frag):V->V->Hp->VK->Prop:=fun x k H Q=>∃a xs,x= .ref a/\SqL K H a xs/\((k= .int 1/\∀p,H p=none->Q (.ref p) (upd H p (.lst xs)))\/(k= .int (-1)/\∀p,H p=none->Q (.ref p) (upd H p (.lst xs.reverse))))
theorem QmZ (items:Array Value):slicePick items none none (some 1)=items:=by
 have h:=slicePick_plain items none none
 have e:slicePick items none none (some 1)=slicePick items none none none:=rfl
 rw[e,h]
 simp
 rw[List.take_of_length_le al]
theorem Qpb (he:PE X e te)(hk:PE X st ts):PE X (.Subscript e (.Slice none none (some st) p2) pos) (tOp (Qpa X.K) te ts):=by
 intro pins s σ H Q I h
 refine Subscript_ (thn (he pins s σ H _ I h) fun v s1 ⟨x,H1,I1,r1,q1⟩=>?_)
 refine wpAny_Slice ?_
 rw[evalPart_none]
 refine wpAny_pure (wpAny_pure ?_)
 rw[evalPart_some]
 refine thn (hk pins s1 σ H1 _ I1 q1) fun vk s3 ⟨k,H3,I3,rk,q3⟩=>?_
 have I4:Inv X pins σ H3 {s3 with heap:=s3.heap.push {cls:= .type "slice",data:= .fields #[.none, .none,vk]}}:=I3.kept (t':=s3.toks) fun b ob q=>Heap.get?_push_of_some _ q
 obtain⟨a,xs,rfl,hx,q⟩:=q3
 cases r1
 obtain⟨its,r,ht,hz⟩:=I4.list hx
 have hlen:=r.length
 show wpAny ah X.A (subscriptTail e (.Slice none none (some st) p2) (.ref a) (.ref s3.heap.objs.size)) (EP X pins σ Q) X.xe {s3 with heap:=s3.heap.push {cls:= .type "slice",data:= .fields #[.none, .none,vk]}}
 refine tail_any (ops:= [.ref a, .ref s3.heap.objs.size]) ht.isList.typeIs slot_list_getitem.lookup ?_ (by with_unfolding_all rfl)
 rcases q with⟨rfl,q⟩|⟨rfl,q⟩<;>obtain⟨t,rfl⟩:=rk
 .refine wpAny_getItem_list_slice ht.isList (Heap.IsSliceOf.new ..) .none .none (.int 1 t) al ?_ (by rw[List.size_toArray]<;>omega)
  rw[QmZ]
  refine⟨.ref _,_,I4.laid (t':=s3.toks) (o:= .lst xs) (fun b ob q=>Heap.get?_push_of_some _ q) am ?_,rfl,q _ (I4.hok.fresh am)⟩
  exact⟨hz,_,0,r,Heap.get?_push_size _ rfl⟩
 .refine wpAny_getItem_list_slice ht.isList (Heap.IsSliceOf.new ..) .none .none (.int (-1) t) al ?_ (by rw[List.size_toArray]<;>omega)
  rw[PySem.W.krv_pick]
  refine⟨.ref _,_,I4.laid (t':=s3.toks) (o:= .lst xs.reverse) (fun b ob q=>Heap.get?_push_of_some _ q) am ?_,rfl,q _ (I4.hok.fresh am)⟩
  exact⟨by simpa using hz,_,0,r.reverse,Heap.get?_push_size _ rfl⟩
end
end L2
namespace L3
open PySem L2
section
variable {X:Cx}{K:PySem.W.Frag}{F0 H0 F H F' H':Hp}{Ψ:Psi}{σ:St}{ev:Ev}
theorem Reps.rev:∀{ds:List D} {vs:List V},Reps K F ds vs->Reps K F ds.reverse vs.reverse
 | [],_,h=>by rw[h.unnil];exact .nil
 |_::_,_,h=>by obtain⟨v,r,rfl,h1,h2⟩:=h.uncons;rw[List.reverse_cons,List.reverse_cons];exact h2.rev.app (.cons h1 .nil)
noncomputable def stepD:G2
 | .lst xs, .int k=>if k=1 then some (.ow, .lst xs)else if k= -1 then some (.ow, .lst xs.reverse)else none
 | .scr xs, .int k=>if k=1 then some (.ow, .lst xs)else if k= -1 then some (.ow, .lst xs.reverse)else none
 |_,_=>none
theorem Qpc:OkOp K (Qpa K) stepD:=by
 intro F H dx dy x y k d Q s rx ry e q
 have go:∀(xs:List D) (i:Int) (a:Addr) (vs:List V),SqL K H a vs->Reps K F xs vs->y= .int i->(if i=1 then some (Kd.ow,D.lst xs)else if i= -1 then some (.ow, .lst xs.reverse)else none)=some (k,d)->Qpa K (.ref a) y H Q:=fun xs i a vs hs hr hy e=>by
  split at e
  .rename_i h1;cases e;subst h1
   exact⟨a,vs,rfl,hs, .inl ⟨hy,fun p hp=>q F _ _ (Post.own (.refl s) hp fun H2 e=>⟨_,e,hr⟩)⟩⟩
  .split at e
   .rename_i h1;cases e;subst h1
    exact⟨a,vs,rfl,hs, .inr ⟨hy,fun p hp=>q F _ _ (Post.own (.refl s) hp fun H2 e=>⟨_,e,hr.rev⟩)⟩⟩
   .cases e
 unfold stepD at e
 split at e<;>first|(cases e;done)|skip
 .obtain⟨a,vs,rfl,h1,h2⟩:=rx.lst s
  exact go _ _ a vs (SqL.of h1) h2 ry.int e
 .obtain⟨a,vs,rfl,h1,h2⟩:=rx.scr s
  exact go _ _ a vs h1 h2 ry.int e
theorem Qk9 {a st:Expr}{f1 f2:Ev->R}{p2 pos:Pos}(ha:VE X F0 H0 Ψ a f1)(hb:VE X F0 H0 Ψ st f2):VE X F0 H0 Ψ (.Subscript a (.Slice none none (some st) p2) pos) (eOp stepD f1 f2):=(Qpb ha hb).mono fun _ _ _ h=>Qho Qpc h
noncomputable def mulS:G2
 | .str x, .int n=>if 0<=n/\n<=1000/\x.length<=1000 then some (.fz, .str (Txt.mul x n))else none
 |_,_=>none
noncomputable def Qrx:R2:=fun x y H Q=>∃z n,x= .str z/\y= .int n/\0<=n/\n<=1000/\z.length<=1000/\Q (.str (Txt.mul z n)) H
theorem Qim {x:Str}{n:Int}(h0:0<=n)(h1:n<=1000)(hx:x.length<=1000):MulOk x n:=by
 refine⟨?_,fun hn _=>?_,fun hn _=>?_⟩
 .simp;omega
 .have h2:(x.length:Int)<=1000:=by omega
  have h3:(2^63-1:Int)/n≥1000:=by
   refine Int.le_ediv_of_mul_le aa ?_
   have:(1000:Int)*n<=1000*1000:=Int.mul_le_mul_of_nonneg_left h1 aj
   omega
  omega
 .have h2:x.length*n.toNat<=1000*1000:=Nat.mul_le_mul hx aa
  simp only[Builtin.Str.tooLong]
  have:=QB
  simp
  omega
theorem Qpd:OpR X (binaryOp .Mult) Qrx:=by
 intro pins s σ H x y v u Q I rx ry h
 obtain⟨z,n,rfl,rfl,h0,h1,hz,q⟩:=h
 obtain⟨t,rfl⟩:=rx
 obtain⟨t',rfl⟩:=ry
 exact SB.mul (Qim h0 h1 hz) fun t'' k=>⟨.str (Txt.mul z n),H,I.tok k,⟨t'',rfl⟩,q⟩
theorem Qpe:OkOp K Qrx mulS:=by
 intro F H dx dy x y k d Q s rx ry e q
 unfold mulS at e
 split at e<;>first|(cases e;done)|skip
 rename_i z n
 split at e
 .rename_i hc
  cases e
  exact⟨z,n,rx.str,ry.int,hc.1,hc.2.1,hc.2.2,q F _ H aq⟩
 .cases e
noncomputable def mulD:G2:=fun a b=>(mulL a b).or (mulS a b)
theorem QdW {a b:Expr}{f1 f2:Ev->R}{pos:Pos}(ha:VE X F0 H0 Ψ a f1)(hb:VE X F0 H0 Ψ b f2):VE X F0 H0 Ψ (.BinOp a .Mult b pos) (eOp mulD f1 f2):=Qj7 (OpR.or' QoV Qpd) (ok_mulL.or Qpe) ha hb
noncomputable def lenD:GN:=lenL
theorem Qkb {e:Expr}{fs:Ev->RA}{p pos:Pos}(hm:X.mg "len"=none)(ha:VA X F0 H0 Ψ [e] fs)(hgl:Gl X "len":=by rfl)(he:starEach [e] X.env=(false,eval e X.env)::starEach [] X.env:=by rfl):VE X F0 H0 Ψ (.Call (.Name "len" p) [e] [] pos) (QV lenD fs):=Qrk hm ha hgl he
end
end L3
namespace L2
open PySem PySem.Spec PyProof.Rows
section
variable {X:Cx}{pins:List (Addr×Obj)}{σ:St}{H:Hp}{s:Shared}{h':Heap}
theorem Inv.turnedL {t':Nat}{fp:List Addr}(I:Inv X pins σ H s)(k:∀b o,b∉fp->s.heap.get? b=some o->h'.get? b=some o)(hf:∀b∈fp,FpOk X pins H b):Inv X pins σ H {s with heap:=h',toks:=t'}:=by
 have nit:∀b u,H b=some u->b∉fp:=fun b u e z=>by rw[(hf b z).1]at e;cases e
 refine I.step (g':=s.gens) (d':=s.drawn) (ch:=fp) (fun b hb=>?_) (fun b o _ _ hc e _=>k b o hc e) (fun b o _ _ hc e _=>⟨o.slots,k b o hc e⟩) (fun _ _ _ _ n=>n)
  (fun b o hc e=>⟨o,k b o hc e⟩) (fun _ _ e=>e) (fun _ _ _ e=>e) (fun b ps e=>⟨#[],by rw[e];simp⟩) (fun m hm=>?_) (fun b u e=>?_) I.bare
 .obtain⟨f0,f1,f2,f3,f4,f5⟩:=hf b hb
  exact⟨f3,f1,f4,f5⟩
 .obtain⟨o,es,ep,ho,r⟩:=hm
  exact⟨o,es,ep,k _ o (fun z=>(hf _ z).2.1 rfl) ho,r⟩
 .refine(I.hok b u e).stay (fun c v hc q=>k c v ?_ q) (fun _ q=>q) fun _ _ q=>q
  rcases hc with z|z
  .rw[z];exact nit b u e
  .exact nit c _ z
end
section
variable {X:Cx}
end
end L2
namespace L3
open PySem L2
section
variable {X:Cx}{F0 H0:Hp}{Ψ:Psi}
end
end L3
namespace ST
open PySem PySem.SetTable
noncomputable def it (f:Nat->Nat):Nat->Nat->Nat
 |0,x=>x
 |n+1,x=>it f n (f x)
noncomputable def adv (m:Nat)(p:Probe):Probe:=
 if p.more>0 then{p with j:=p.j+1,more:=p.more-1}else
 {p with j:=(leap m p.i p.perturb).1,more:=runEnd m (leap m p.i p.perturb).1-(leap m p.i p.perturb).1,i:=(leap m p.i p.perturb).1,perturb:=(leap m p.i p.perturb).2}
noncomputable def st0 (m:Nat)(h:Int):Probe:={j:=bits h %(m+1),more:=runEnd m (bits h %(m+1))-bits h %(m+1),i:=bits h %(m+1),perturb:=bits h,dummy:=none}
noncomputable def st (m:Nat)(h:Int):Nat->Probe
 |0=>st0 m h
 |n+1=>adv m (st m h n)
noncomputable def pos (m:Nat)(h:Int)(n:Nat):Nat:=(st m h n).j
noncomputable def hd (m:Nat)(h:Int):Nat->Nat×Nat
 |0=>(bits h %(m+1),bits h)
 |n+1=>leap m (hd m h n).1 (hd m h n).2
noncomputable def head (m:Nat)(h:Int)(k:Nat):Probe:={j:=(hd m h k).1,more:=runEnd m (hd m h k).1-(hd m h k).1,i:=(hd m h k).1,perturb:=(hd m h k).2,dummy:=none}
noncomputable abbrev El:=Nat×(Int×Value)
section
variable {t:SetTable}{es:Array (Int×Value)}{L:List El}
noncomputable def cnt (j:Nat):List Nat->Nat
 | []=>0
 |x::l=>if x<j then cnt j l+1 else 0
end
end ST
namespace ST
open PySem PySem.SetTable
section
variable {t:SetTable}{es:Array (Int×Value)}{L:List El}
noncomputable def ins (L:List El)(e:El):List El:=L.take (cnt e.1 (L.map (·.1)))++e::L.drop (cnt e.1 (L.map (·.1)))
end
end ST
namespace ST
open PySem PySem.SetTable
section
variable {prog:Program}{w:World}{K:Type} [DecidableEq K]{knd:KeyKind prog w K}{A:Around}{E:Value->Shared->Prop}{s:Shared}
end
end ST
namespace ST
open PySem PySem.SetTable
section
variable {prog:Program}{w:World}{K:Type} [DecidableEq K]{knd:KeyKind prog w K}{A:Around}{E:Value->Shared->Prop}{s:Shared}
end
end ST
namespace ST
open PySem PySem.SetTable
noncomputable def dd {κ:Type} [DecidableEq κ](l:List κ):List κ:=l.foldl (fun ds k=>if k∈ds then ds else ds++ [k]) []
section
variable {prog:Program}{w:World}{K:Type} [DecidableEq K]{knd:KeyKind prog w K}{A:Around}{R:Result->Shared->Prop}{E:Value->Shared->Prop}{s:Shared}
noncomputable def Keyed (knd:KeyKind prog w K)(h:Heap)(vs:List Value)(ks:List (List K)):Prop:=vs.length=ks.length/\∀(i:Nat) v,vs[i]?=some v->∃ad k,v= .ref ad/\ks[i]?=some k/\IsTupleKey knd h k ad
end
end ST
namespace ST
open PySem PySem.SetTable
section
variable {prog:Program}{w:World}{K:Type} [DecidableEq K]{knd:KeyKind prog w K}{A:Around}{E:Value->Shared->Prop}{s:Shared}
end
end ST
namespace L3
open PySem L2
section
variable {X:Cx}
noncomputable def QcY:List D->Option (List (List Key))
 | []=>some []
 | .tup l::ds=>(Qbf l).bind fun k=>(QcY ds).map (k:: ·)
 |_=>none
theorem Qgr {K:PySem.W.Frag}{F:Hp}:∀{ds:List D} {ks:List (List Key)} {vs:List V},QcY ds=some ks->Reps K F ds vs->vs.length=ks.length/\∀(i:Nat) v,vs[i]?=some v->∃b k,v= .ref b/\ks[i]?=some k/\F b=some (.tup (k.map kV))
 | [],_,_,e,r=>by cases e;rw[r.unnil];simp
 |d::ds,ks,_,e,r=>by
  obtain⟨v,vs,rfl,rv,rs⟩:=r.uncons
  cases d with
  |tup l=>
   simp only[QcY]at e
   cases e1:Qbf l with
   |none=>rw[e1]at e;cases e
   |some k=>
    rw[e1]at e
    cases e2:QcY ds with
    |none=>rw[e2]at e;cases e
    |some ks'=>
     rw[e2]at e;cases e
     obtain⟨h1,h2⟩:=Qgr e2 rs
     refine⟨by simp[h1],fun i v' hv=>?_⟩
     cases i with
     |zero=>
      simp at hv;subst hv
      rw[Rep]at rv
      obtain⟨b,us,rfl,hb,hr⟩:=rv
      rw[QeB e1 hr]at hb
      exact⟨b,k,rfl,rfl,hb⟩
     |succ i=>
      obtain⟨b,k',a1,a2,a3⟩:=h2 i v' (by simpa using hv)
      exact⟨b,k',a1,by simpa using a2,a3⟩
  |_=>cases e
variable {F0 H0:Hp}{Ψ:Psi}
end
end L3
namespace L2
open PySem PySem.Spec PyProof.Rows
section
variable {X:Cx}{a b c d:Expr}{ta tb tc td:TE}{pos:Pos}
end
end L2
namespace L3
open PySem L2
section
variable {X:Cx}{K:PySem.W.Frag}{F0 H0 F H F' H':Hp}{Ψ:Psi}{σ:St}{ev:Ev}
end
end L3
namespace L2
open PySem PySem.Spec PyProof.Rows
theorem Qla {P:Program}{w:World}{K:PySem.W.Frag}{tg:Expr}(it:Addr)(lo:Int):Turn P w K tg (Itr lo 0) [it] it (fun i h=>∃x left step,IsLongIter h it x left step/\left<=0) where
 mem:=by simp
 obj:=fun i h st b hb=>by
  have e:b=it:=by simpa using hb
  subst e
  obtain⟨x,l,sp,st,_⟩:=st
  exact⟨_,st,fun v z=>by cases z⟩
 keep:=fun i h h' st k=>by
  obtain⟨x,l,sp,st,hl⟩:=st
  exact⟨x,l,sp,k it al _ st,hl⟩
 item:=by
  intro X hP hw hK hc i pins s σ H E I hf st hg
  have:i<0:=hg
  omega
 done:=by
  intro X hP hw hK hc i pins s σ H E I hf st hg
  subst hP hw hK
  obtain⟨x,l,sp,st,hl⟩:=st
  obtain⟨f0,f1,f2,f3,f4,f5⟩:=hf it al
  exact wpAny_pyNext_long_end (I.ok.hd hc) st hl fun h' eb=>⟨rfl,I.turned (t':=s.toks) (fun b o hb e=>eb b o hb e) f0 f1 f3 f4 f5⟩
 self:=fun _ _ _ _ _ st h=>by
  obtain⟨x,l,sp,st,hl⟩:=st
  exact wpAny_pyIter_longiter st h
section
variable {X:Cx}{tg:Expr}
noncomputable def QtF (ta:TA):TI:=fun σ H R=>ta σ H fun vs H1=>∃j:Int,vs= [.int j]/\j< -(2^62)/\R (Itr 0 0) H1
theorem Qlb {a:Expr}{ta:TA}{p pos:Pos}(hg:Gl X "range")(hm:X.mg "range"=none)(ha:PA X [a] ta)(hs:starEach [a] X.env= [(false,eval a X.env)]:=by rfl):PI X tg (.Call (.Name "range" p) [a] [] pos) (QtF ta):=by
 intro pins s σ H R I h
 refine Call_ (Qdu I hg hm boot_range (PyProof.Rows.callWith_type1 (thn (ha pos pins s σ H _ I h) fun us s1 ⟨vs,H1,I1,r1,q1⟩=>?_) hs rfl))
 obtain⟨j,e,hj,q⟩:=q1
 subst e
 cases r1 with
 |cons r rr=>
  cases rr
  obtain⟨t,rfl⟩:=r
  refine call_range_1 ?_
  have sz:Builtin.Range.rangeSize 0 j 1=0:=by rw[rangeSize_one,if_neg aa]
  cases hsm:Builtin.Range.small 0 j 1 with
  |true=>
   refine wpAny_pyIter_range (IsRange.new ..) hsm ?_
   have I2:=I1.kept (t':=s1.toks+2) (h':=s1.heap.push {cls:= .type "range",data:= .fields #[.int 0 s1.toks, .int j t, .int 1 (s1.toks+1)]}) fun b o e=>Heap.get?_push_of_some _ e
   refine⟨_,[_],_,_,H1,rfl,I2.kept (t':=s1.toks+2) fun b o e=>Heap.get?_push_of_some _ e,QfH _ 0 0,?_,fun b hb=>?_,q⟩
   .rw[sz]
    exact Heap.get?_push_size _ rfl
   .have e:=List.mem_singleton.1 hb
    subst e
    exact I2.fpOk am (I2.hok.fresh am)
  |false=>
   refine wpAny_pyIter_longrange (IsRange.new ..) hsm ?_
   have I2:=I1.kept (t':=s1.toks+2) (h':=s1.heap.push {cls:= .type "range",data:= .fields #[.int 0 s1.toks, .int j t, .int 1 (s1.toks+1)]}) fun b o e=>Heap.get?_push_of_some _ e
   refine⟨_,[_],_,_,H1,rfl,I2.kept (t':=s1.toks+2) fun b o e=>Heap.get?_push_of_some _ e,Qla _ 0,?_,fun b hb=>?_,q⟩
   .rw[sz]
    exact⟨_,_,_,Heap.get?_push_size _ rfl,Int.le_refl _⟩
   .have e:=List.mem_singleton.1 hb
    subst e
    exact I2.fpOk am (I2.hok.fresh am)
theorem PI.or {g e:Expr}{t t':TI}(h:PI X g e t)(h':PI X g e t'):PI X g e (fun σ H R=>t σ H R\/t' σ H R):=fun pins s σ H R I q=>by
 rcases q with q|q
 .exact h pins s σ H R I q
 .exact h' pins s σ H R I q
end
end L2
namespace L3
open PySem L2
section
variable {X:Cx}{F0 H0:Hp}{Ψ:Psi}{tg a:Expr}{fs:Ev->RA}{pos:Pos}
noncomputable def rngW:RA->RI
 | .ok [(_, .int j)]=>if j<2^62 then .ok (Qai 0 j.toNat)else .no
 | .ex C=> .ex C
 |_=> .no
noncomputable def QdX (f:Ev->RA)(ev:Ev):RI:=rngW (f ev)
theorem Qbq {p:Pos}(hm:X.mg "range"=none)(ha:VA X F0 H0 Ψ [a] fs)(hg:Gl X "range":=by rfl)(hs:starEach [a] X.env= [(false,eval a X.env)]:=by rfl):VI X F0 H0 Ψ tg (.Call (.Name "range" p) [a] [] pos) (QdX fs):=
 ((QkG hg hm ha hs).or (Qlb hg hm ha hs)).mono fun σ H R h=>by
  obtain⟨F,ev,fi,m⟩:=h
  unfold QdX at m
  cases h1:fs ev with
  |no=>rw[h1]at m;exact m.elim
  |ex C=>rw[h1]at m;exact .inl ⟨F,ev,fi,by rw[h1];exact m⟩
  |ok l=>
   rw[h1]at m
   unfold rngW at m
   split at m
   .rename_i ds hm'
    split at hm'
    .rename_i k j he
     cases he
     split at hm'
     .rename_i hb
      cases hm'
      by_cases hlow: -(2^62)<=j
      .left
       refine QmK ⟨F,ev,fi,?_⟩
       dsimp only
       rw[h1]
       simp only[QoT,if_pos (show-(2^62)<=j/\j<2^62 from⟨hlow,hb⟩)]
       exact m
      .right
       refine⟨F,ev,fi,?_⟩
       rw[h1]
       intro F1 vs H1 s va
       obtain⟨v,r,rfl,_,hv,hr⟩:=va
       obtain rfl:r= []:=hr
       refine⟨j,by rw[hv.rd.int],by omega,?_⟩
       have:j.toNat=0:=by omega
       rw[this]at m
       exact m F1 H1 _ s Qek
     .cases hm'
    .cases hm'
    .cases hm'
   .rename_i C hm'
    split at hm'<;>first|(split at hm'<;>cases hm')|cases hm'
    rename_i he;cases he
   .exact m.elim
end
end L3
namespace L3
open PySem L2
end L3
namespace L3
open PySem L2
noncomputable def getR:R->R->R->R
 | .ok _ a, .ok _ b, .ok .fz c=>match QbM a b with
  |some o=> .ok .fz (o.getD c)
  |none=> .no
 | .ex C,_,_=> .ex C
 |_,_,_=> .no
noncomputable def eGet (f1 f2 f3:Ev->R)(ev:Ev):R:=getR (f1 ev) (f2 ev) (f3 ev)
section
variable {X:Cx}{K:PySem.W.Frag}{F0 H0:Hp}{Ψ:Psi}{σ:St}{H:Hp}
theorem Qpf {f1 f2 f3:Ev->R}{Q:VK}(h:tV K F0 H0 Ψ (eGet f1 f2 f3) σ H Q):QnR (tV K F0 H0 Ψ f1) (tV K F0 H0 Ψ f2) (tV K F0 H0 Ψ f3) σ H Q:=by
 obtain⟨F,ev,fi,m⟩:=h
 unfold eGet at m
 refine⟨F,ev,fi,?_⟩
 cases h1:f1 ev with
 |no=>rw[h1]at m;exact m
 |ex C=>rw[h1]at m;exact m
 |ok k1 a=>
  rw[h1]at m
  intro F1 x H1 p1
  have isd:(∃o b,QbM a b=some o)->∃p,x= .ref p/\IsD H1 p:=fun⟨o,b,e⟩=>by
   cases a with
   |dK ks xs=>obtain⟨p,vs,rfl,g1,_,_⟩:=p1.val.rd.dK p1.st.sub;exact⟨p,rfl, .inl ⟨_, .inl g1⟩⟩
   |dT ks xs=>obtain⟨p,vs,rfl,g1,_,_⟩:=p1.val.rd.dT p1.st.sub;exact⟨p,rfl, .inr ⟨_, .inl g1⟩⟩
   |_=>cases e
  cases h2:f2 ev with
  |no=>rw[h2]at m;exact m.elim
  |ex C=>rw[h2]at m;exact m.elim
  |ok k2 b=>
   rw[h2]at m
   cases h3:f3 ev with
   |no=>rw[h3]at m;cases k1<;>exact m.elim
   |ex C=>rw[h3]at m;cases k1<;>exact m.elim
   |ok k3 c=>
    rw[h3]at m
    cases k3 with
    |bo=>exact m.elim
    |ow=>exact m.elim
    |fz=>
     have m:match (match QbM a b with|some o=>R.ok .fz (o.getD c)|none=> .no)with
      | .ok k d=>∀F' v H',Post K F H k d F' v H'->Q v H'
      | .ex C=>∀F' H',Step F0 H0 F' H'->Ψ C H'
      | .no=>False:=m
     cases e:QbM a b with
     |none=>rw[e]at m;exact m.elim
     |some o=>
      rw[e]at m
      obtain⟨p,rfl,d⟩:=isd ⟨o,b,e⟩
      refine⟨p,rfl,d,F1,ev,fi.later p1.st,?_⟩
      rw[h2]
      intro F2 y H2 p2
      refine⟨F2,ev,(fi.later p1.st).later p2.st,?_⟩
      rw[h3]
      intro F3 z H3 p3
      have st:=p2.st.trans p3.st
      obtain⟨p',ov,e1,g,hv,hs⟩:=QeC p3.st.sub e (p1.val.rd.later st) (p2.val.rd.later p3.st)
      cases e1
      refine⟨ov,g,m F3 _ H3 ⟨p1.st.trans st,?_⟩⟩
      cases o with
      |none=>
       cases ov with
       |none=>exact p3.val
       |some _=>cases hs
      |some d=>
       obtain⟨v,rfl,rv⟩:=hv d rfl
       exact rv
variable {a b c:Expr}{f1 f2 f3:Ev->R}{apos cpos:Pos}
theorem QtG (hu:X.A.units+100<cLine)(ha:VE X F0 H0 Ψ a f1)(hb:VE X F0 H0 Ψ b f2)(hc:VE X F0 H0 Ψ c f3)
  (h1:attributeBase a "get" X.env (eval a X.env)=eval a X.env:=by rfl)
  (h2:((backTo cpos (starEach [b,c] X.env)).all (fun x=> !x.1)&&(backToKw cpos (keywordEach [] X.env)).all (fun x=>x.1.isSome)
   &&decide (([b,c]:List Expr).length+([]:List Keyword).length+(if([]:List Keyword).isEmpty then 0 else 1)<30))=true:=by rfl)
  (h3:(apos.endLine==cpos.line)=true:=by rfl) (h4:backTo cpos (starEach [b,c] X.env)= [(false,eval b X.env),(false,eval c X.env)]:=by rfl):
  VE X F0 H0 Ψ (.Call (.Attribute a "get" apos) [b,c] [] cpos) (eGet f1 f2 f3):=
 (Qmz aa ha hb hc ⟨h1,h2,h3,h4⟩).mono fun _ _ _ h=>Qpf h
end
end L3
namespace L3
open PySem L2
section
variable {X:Cx}{K:PySem.W.Frag}{F0 H0:Hp}{Ψ:Psi}{σ:St}{H:Hp}
variable {c:Expr}{f:Ev->R}{g:Ev->Fl}{body:List Stmt}{x y:Str}{p1 p2 pi pos:Pos}
end
end L3
namespace TSrt
open PySem PySem.W PyProof.Rows
noncomputable def Qgs:Bool->Keyed->Array Keyed->Nat->Nat->Nat->StateT SortSt Sem aw:=sortPriv%PySem.Builtin.gallop
section
variable {M:Model}{A:Around}{E:Value->Shared->Prop}{σ:Type}
theorem Qp {α:Type}{m:StateT σ Sem α}{Q Q':α->σ->Shared->Prop}{st:σ}{s:Shared}(h:kasC M A E m Q st s)(i:∀a st' s',Q a st' s'->Q' a st' s'):kasC M A E m Q' st s:=by
 unfold kasC at h⊢
 exact wpAny_mono h (fun r s' q=>i _ _ _ q) fun _ _ e=>e
theorem Qhu {β:Type}{f:Nat->β->StateT σ Sem (ForInStep β)}{Q:β->σ->Shared->Prop}{st:σ}(I:Nat->β->Shared->Prop)(J:β->Shared->Prop):
  ∀{n k a:Nat} {b:β} {s:Shared},(∀j b s,I j b s->∀x,j<k+n->kasC M A E (f x b) (fun r st' s'=>st'=st/\match r with| .done b'=>J b' s'| .yield b'=>I (j+1) b' s') st s)->(∀b s,I (k+n) b s->J b s)->(∀b s,J b s->Q b st s)->I k b s->
   kasC M A E (forIn (List.range' a n) b f) Q st s
 |0,k,a,b,s,_,fin,out,h=>by
  show kasC M A E (forIn ([]:List Nat) b f) Q st s
  exact kasC_nil (out _ _ (fin _ _ h))
 |n+1,k,a,b,s,step,fin,out,h=>by
  rw[List.range'_succ]
  refine kasC_cons (Qp (step k b s h a aa) fun r st' s' q=>?_)
  obtain⟨rfl,q⟩:=q
  cases r with
  |done b'=>exact out _ _ q
  |yield b'=>exact Qhu I J (n:=n) (k:=k+1) (fun j b s hj x hx=>step j b s hj x aa) (fun b s z=>fin b s (by rw[show k+(n+1)=k+1+n by omega];exact z)) out q
theorem Qgt {β:Type}{n:Nat}{b:β}{f:Nat->β->StateT σ Sem (ForInStep β)}{Q:β->σ->Shared->Prop}{st:σ}{s:Shared}(I:Nat->β->Shared->Prop)(J:β->Shared->Prop)
  (step:∀j b s,I j b s->∀x,j<n->kasC M A E (f x b) (fun r st' s'=>st'=st/\match r with| .done b'=>J b' s'| .yield b'=>I (j+1) b' s') st s) (fin:∀b s,I n b s->J b s) (out:∀b s,J b s->Q b st s) (h:I 0 b s):
  kasC M A E (forIn [0:n] b f) Q st s:=by
 refine kasC_range ?_
 rw[Nat.sub_zero]
 exact Qhu I J (n:=n) (k:=0) (fun j b s hj x hx=>step j b s hj x aa) (fun b s z=>fin b s (by rw[Nat.zero_add]at z;exact z)) out h
end
section
variable {M:Model}{A:Around}{E:Value->Shared->Prop}
noncomputable def Qlc (left:Bool)(key:Keyed)(arr:Array Keyed)(base i:Nat):StateT SortSt Sem (Option Bool):=elem' arr (base+i)>>=fun x=>if left=true then lt' x key else lt' key x>>=fun r=>pure (r.map fun x=> !x)
structure Edge (B:Nat->Bool)(n k:Nat):Prop where
 le:k<=n
 lo:∀i,i<k->B i=true
 hi:k<n->B k=false
theorem Qhv {left:Bool}{key:Keyed}{arr:Array Keyed}{base n hint:Nat}{st:SortSt}{s:Shared}{Q:Option Nat->SortSt->Shared->Prop}{G:Shared->Prop}{B:Nat->Bool}
  (hB:∀i,i<n->∀s,G s->kasC M A E (Qlc left key arr base i) (fun r st' s'=>r=some (B i)/\st'=st/\G s') st s) (mono:∀i j,i<=j->j<n->B j=true->B i=true) (hh:hint<n) (g:G s)
  (q:∀k s',Edge B n k->G s'->Q (some k) st s'):kasC M A E (Qgs left key arr base n hint) Q st s:=by
 have search:∀(lo hi:Nat) (s:Shared),G s->lo<=hi->hi<=n->(∀i,i<lo->B i=true)->(hi<n->B hi=false)->∀f:Nat->Option aw×Nat×Nat->StateT SortSt Sem (ForInStep (Option aw×Nat×Nat)),
   (∀x lo hi s,G s->lo<hi->hi<=n->kasC M A E (f x (none,lo,hi)) (fun r st' s'=>st'=st/\G s'/\r= .yield (if B (lo+(hi-lo)/2)then(none,lo+(hi-lo)/2+1,hi)else(none,lo,lo+(hi-lo)/2))) st s)->
   (∀x lo hi s,G s->hi<=lo->kasC M A E (f x (none,lo,hi)) (fun r st' s'=>st'=st/\G s'/\r= .done (none,lo,hi)) st s)->
   kasC M A E (forIn [0:n] (none,lo,hi) f) (fun b st' s'=>st'=st/\G s'/\∃k,b=(none,k,k)/\Edge B n k) st s:=fun lo hi s g h1 h2 h3 h4 f f1 f2=>by
  refine Qgt (fun j b s=>G s/\∃lo hi,b=(none,lo,hi)/\lo<=hi/\hi<=n/\(∀i,i<lo->B i=true)/\(hi<n->B hi=false)/\hi<=lo+(n-j)) (fun b s=>G s/\∃k,b=(none,k,k)/\Edge B n k) ?_ ?_ (fun b s z=>⟨rfl,z⟩) ⟨g,lo,hi,rfl,h1,h2,h3,h4,by omega⟩
  .rintro j _ s ⟨g,lo,hi,rfl,h1,h2,h3,h4,h5⟩ x hj
   by_cases c:lo<hi
   .refine Qp (f1 x lo hi s g c h2) fun r st' s' z=>?_
    obtain⟨rfl,g',rfl⟩:=z
    refine⟨rfl,?_⟩
    cases e:B (lo+(hi-lo)/2)with
    |true=>exact⟨g',lo+(hi-lo)/2+1,hi,by simp,by omega,h2,fun i hi'=>mono i _ aa aa e,h4,by omega⟩
    |false=>exact⟨g',lo,lo+(hi-lo)/2,by simp,by omega,by omega,h3,fun _=>e,by omega⟩
   .refine Qp (f2 x lo hi s g aa) fun r st' s' z=>?_
    obtain⟨rfl,g',rfl⟩:=z
    obtain rfl:lo=hi:=by omega
    exact⟨rfl,g',lo,rfl,h2,h3,h4⟩
  .rintro _ s ⟨g,lo,hi,rfl,h1,h2,h3,h4,h5⟩
   obtain rfl:lo=hi:=by omega
   exact⟨g,lo,rfl,h2,h3,h4⟩
 unfold Qgs
 refine kasC_bind (Qp (hB hint hh s g) fun r st' s' z=>?_)
 obtain⟨rfl,rfl,g'⟩:=z
 cases hb:B hint with
 |true=>
  dsimp only
  rw[if_pos rfl]
  refine kasC_bind ?_
  refine Qgt (fun j b s=>G s/\∃lastofs ofs,b=(none,lastofs,ofs)/\lastofs<ofs/\j<ofs/\hint+lastofs<n/\B (hint+lastofs)=true) (fun b s=>G s/\∃lastofs ofs,b=(none,lastofs,ofs)/\lastofs<ofs/\hint+lastofs<n/\B (hint+lastofs)=true/\(hint+ofs<n->B (hint+ofs)=false)) ?_ ?_ ?_ ⟨g',0,1,rfl,by omega,by omega,hh,hb⟩
  .rintro j _ s ⟨g,lastofs,ofs,rfl,h1,h2,h3,h4⟩ x hj
   dsimp only
   by_cases c:ofs≥n-hint
   .rw[if_pos c]
    exact kasC_pure ⟨rfl,g,lastofs,ofs,rfl,h1,h3,h4,fun z=>by omega⟩
   .rw[if_neg c]
    refine kasC_bind (Qp (hB (hint+ofs) aa s g) fun r st' s' z=>?_)
    obtain⟨rfl,rfl,g'⟩:=z
    dsimp only
    cases e:B (hint+ofs)with
    |true=>exact kasC_pure ⟨rfl,g',ofs,2*ofs+1,rfl,by omega,by omega,by omega,e⟩
    |false=>exact kasC_pure ⟨rfl,g',lastofs,ofs,rfl,h1,h3,h4,fun _=>e⟩
  .rintro _ s ⟨g,lastofs,ofs,rfl,h1,h2,h3,h4⟩
   exact⟨g,lastofs,ofs,rfl,h1,h3,h4,fun z=>by omega⟩
  .rintro _ s ⟨g,lastofs,ofs,rfl,h1,h3,h4,h5⟩
   dsimp only
   refine kasC_bind (Qp (search (hint+lastofs+1) (hint+min ofs (n-hint)) s g aa aa (fun i hi=>mono i _ aa h3 h4) (fun z=>?_) _ ?_ ?_) fun b st' s' z=>?_)
   .have:min ofs (n-hint)=ofs:=by omega
    rw[this]at z⊢;exact h5 z
   .intro x lo hi s g h1 h2
    dsimp only
    rw[if_neg aa]
    refine kasC_bind (Qp (hB (lo+(hi-lo)/2) aa s g) fun r st' s' z=>?_)
    obtain⟨rfl,rfl,g'⟩:=z
    dsimp only
    cases e:B (lo+(hi-lo)/2)with
    |true=>exact kasC_pure ⟨rfl,g',rfl⟩
    |false=>exact kasC_pure ⟨rfl,g',rfl⟩
   .intro x lo hi s g h1
    dsimp only
    rw[if_pos aa]
    exact kasC_pure ⟨rfl,g,rfl⟩
   .obtain⟨rfl,g',k,rfl,ed⟩:=z
    exact kasC_pure (q k s' ed g')
 |false=>
  dsimp only
  rw[if_neg Bool.false_ne_true]
  refine kasC_bind ?_
  refine Qgt (fun j b s=>G s/\∃lastofs ofs,b=(none,lastofs,ofs)/\lastofs<ofs/\j<ofs/\lastofs<=hint/\B (hint-lastofs)=false) (fun b s=>G s/\∃lastofs ofs,b=(none,lastofs,ofs)/\lastofs<ofs/\lastofs<=hint/\B (hint-lastofs)=false/\(ofs<=hint->B (hint-ofs)=true)) ?_ ?_ ?_ ⟨g',0,1,rfl,by omega,by omega,by omega,hb⟩
  .rintro j _ s ⟨g,lastofs,ofs,rfl,h1,h2,h3,h4⟩ x hj
   dsimp only
   by_cases c:ofs≥hint+1
   .rw[if_pos c]
    exact kasC_pure ⟨rfl,g,lastofs,ofs,rfl,h1,h3,h4,fun z=>by omega⟩
   .rw[if_neg c]
    refine kasC_bind (Qp (hB (hint-ofs) aa s g) fun r st' s' z=>?_)
    obtain⟨rfl,rfl,g'⟩:=z
    dsimp only
    cases e:B (hint-ofs)with
    |true=>exact kasC_pure ⟨rfl,g',lastofs,ofs,rfl,h1,h3,h4,fun _=>e⟩
    |false=>exact kasC_pure ⟨rfl,g',ofs,2*ofs+1,rfl,by omega,by omega,by omega,e⟩
  .rintro _ s ⟨g,lastofs,ofs,rfl,h1,h2,h3,h4⟩
   exact⟨g,lastofs,ofs,rfl,h1,h3,h4,fun z=>by omega⟩
  .rintro _ s ⟨g,lastofs,ofs,rfl,h1,h3,h4,h5⟩
   dsimp only
   refine kasC_bind (Qp (search (hint+1-min ofs (hint+1)) (hint-lastofs) s g aa aa (fun i hi=>mono i (hint-ofs) aa aa (h5 aa)) (fun _=>h4) _ ?_ ?_) fun b st' s' z=>?_)
   .intro x lo hi s g h1 h2
    dsimp only
    rw[if_neg aa]
    refine kasC_bind (Qp (hB (lo+(hi-lo)/2) aa s g) fun r st' s' z=>?_)
    obtain⟨rfl,rfl,g'⟩:=z
    dsimp only
    cases e:B (lo+(hi-lo)/2)with
    |true=>exact kasC_pure ⟨rfl,g',rfl⟩
    |false=>exact kasC_pure ⟨rfl,g',rfl⟩
   .intro x lo hi s g h1
    dsimp only
    rw[if_pos aa]
    exact kasC_pure ⟨rfl,g,rfl⟩
   .obtain⟨rfl,g',k,rfl,ed⟩:=z
    exact kasC_pure (q k s' ed g')
end
end TSrt
namespace TSrt
open PySem PySem.W PyProof.Rows
section
variable {M:Model}{A:Around}{E:Value->Shared->Prop}{σ:Type}
theorem Qld {β:Type}{f:Nat->β->StateT σ Sem (ForInStep β)}{Q:β->σ->Shared->Prop}(I:Nat->β->σ->Shared->Prop){b:Nat}(fin:∀c st s,I b c st s->Q c st s):
  ∀{n a:Nat} {c:β} {st:σ} {s:Shared},a+n=b->(∀i c st s,a<=i->i<b->I i c st s->kasC M A E (f i c) (fun r st' s'=>match r with| .done c'=>Q c' st' s'| .yield c'=>I (i+1) c' st' s') st s)->I a c st s->kasC M A E (forIn (List.range' a n) c f) Q st s
 | 0, a, c, st, s, e, _, h => kasC_nil (fin _ _ _ (by have : a = b := by omega
                                                      rw[←this];exact h))
 |n+1,a,c,st,s,e,step,h=>by
  rw[List.range'_succ]
  refine kasC_cons (Qp (step a c st s am aa h) fun r st' s' q=>?_)
  cases r with
  |done b'=>exact q
  |yield b'=>exact Qld I fin aa (fun i c st s h1 h2 h3=>step i c st s aa h2 h3) q
theorem QbO {β:Type}{a b:Nat}{c:β}{f:Nat->β->StateT σ Sem (ForInStep β)}{Q:β->σ->Shared->Prop}{st:σ}{s:Shared}(I:Nat->β->σ->Shared->Prop)
  (step:∀i c st s,a<=i->i<b->I i c st s->kasC M A E (f i c) (fun r st' s'=>match r with| .done c'=>Q c' st' s'| .yield c'=>I (i+1) c' st' s') st s)
  (fin:∀c st s,I (max a b) c st s->Q c st s) (h:I a c st s):kasC M A E (forIn [a:b] c f) Q st s:=by
 refine kasC_range ?_
 by_cases hab:a<=b
 .have e:max a b=b:=by omega
  rw[e]at fin
  exact Qld I fin aa step h
 .have e:max a b=a:=by omega
  rw[e]at fin
  rw[show b-a=0 by omega]
  exact kasC_nil (fin _ _ _ h)
theorem Qm0 {x:σ}{Q:PUnit->σ->Shared->Prop}{st:σ}{s:Shared}(h:Q ⟨⟩ x s):kasC M A E (set x:StateT σ Sem PUnit) Q st s:=by
 unfold kasC;rw[StateT.run_set];exact wpAny_pure h
end
noncomputable def ats (xs:Array Keyed)(i:Nat):Keyed:=(xs[i]?).getD (.none, .none)
theorem QfQ {xs ys:Array Keyed}{i j:Nat}(h:xs[i]?=ys[j]?):ats xs i=ats ys j:=by unfold ats;rw[h]
theorem QnU {xs:Array Keyed}{i:Nat}(h:i<xs.size):xs[i]?=some (ats xs i):=by
 unfold ats;rw[getElem?_pos xs i h];rfl
theorem Qy {xs:Array Keyed}{i:Nat}(h:i<xs.size):ats xs i∈xs.toList:=by
 have e:=QnU h
 rw[←Array.getElem?_toList]at e
 exact List.mem_of_getElem? e
theorem QbP {xs:Array Keyed}{i j:Nat}(hj:j<=xs.size)(k:Nat):ats (mirror xs i j ((j-i)/2)) k=if i<=k/\k<j then ats xs (i+j-1-k)else ats xs k:=by
 have e:=getElem?_mirror_all (i:=i) hj k
 split at e
 .rename_i h;rw[if_pos h];exact QfQ e
 .rename_i h;rw[if_neg h];exact QfQ e
theorem Qpg {xs:Array Keyed}{p d:Nat}(hs:p<xs.size)(hd:d<=p)(k:Nat):ats (bubble xs p d) k=if k=p-d then ats xs p else if p-d<k/\k<=p then ats xs (k-1)else ats xs k:=by
 have e:=getElem?_bubble hs d hd k
 split at e
 .rename_i h;rw[if_pos h];exact QfQ e
 .rename_i h;rw[if_neg h]
  split at e
  .rename_i h;rw[if_pos h];exact QfQ e
  .rename_i h;rw[if_neg h];exact QfQ e
structure Sw (c:Keyed->Keyed->Bool):Prop where
 asym:∀{x y},c x y=true->c y x=false
 tr:∀{x y z},c y x=false->c z y=false->c z x=false
theorem Sw.rf {c:Keyed->Keyed->Bool}(o:Sw c)(x:Keyed):c x x=false:=by
 cases e:c x x with
 |false=>rfl
 |true=>exact(o.asym e).symm.trans e|>.symm▸rfl
theorem Sw.le {c:Keyed->Keyed->Bool}(o:Sw c){x y z:Keyed}(h:c x y=true)(g:c z y=false):c x z=true:=by
 cases e:c x z with
 |true=>rfl
 |false=>have:=o.tr g e;rw[h]at this;exact this.symm
structure Od (c0 c:Keyed->Keyed->Bool)(ix:Keyed->Nat):Prop where
 o0:Sw c0
 o:Sw c
 ag:∀{x y},ix y<ix x->c x y=c0 x y
 wk:∀{x y},c0 x y=true->c x y=true
 eq:∀{x y},c0 x y=false->c0 y x=false->ix x<ix y->c x y=true
theorem Od.of0 {c0 c:Keyed->Keyed->Bool}{ix:Keyed->Nat}(o:Od c0 c ix){x y:Keyed}(h:c x y=false):c0 x y=false:=by
 cases e:c0 x y with
 |false=>rfl
 |true=>rw[o.wk e]at h;exact h
noncomputable def Loc (ix:Keyed->Nat)(xs:Array Keyed)(p q:Nat):Prop:=∀j,p<=j->j<q->p<=ix (ats xs j)/\ix (ats xs j)<q
noncomputable def Raw (ix:Keyed->Nat)(xs:Array Keyed)(q:Nat):Prop:=∀j,q<=j->j<xs.size->ix (ats xs j)=j
theorem Loc.more {ix:Keyed->Nat}{xs:Array Keyed}{p q q':Nat}(h:Loc ix xs p q)(r:Raw ix xs q)(h1:p<=q)(h2:q<=q')(h3:q'<=xs.size):Loc ix xs p q':=fun j z1 z2=>by
 by_cases e:j<q
 .have:=h j z1 e;omega
 .have:=r j aa aa;omega
theorem Raw.mono {ix:Keyed->Nat}{xs:Array Keyed}{q q':Nat}(r:Raw ix xs q)(h:q<=q'):Raw ix xs q':=fun j z1 z2=>r j aa z2
noncomputable def Up (c:Keyed->Keyed->Bool)(xs:Array Keyed)(lo hi:Nat):Prop:=∀i j,lo<=i->i<=j->j<hi->c (ats xs j) (ats xs i)=false
noncomputable def Dn (c:Keyed->Keyed->Bool)(xs:Array Keyed)(lo hi:Nat):Prop:=∀i j,lo<=i->i<=j->j<hi->c (ats xs i) (ats xs j)=false
noncomputable def Keep (xs ys:Array Keyed)(lo:Nat):Prop:=∀i,i<lo->ats ys i=ats xs i
structure SB (κ:SortKind)(a0:Array Keyed)(st:SortSt):Prop where
 pm:(arrOf st).Perm a0
 kd:kindOf st=κ
 fd:failedOf st=none
theorem SB.sz {κ:SortKind}{a0:Array Keyed}{st:SortSt}(h:SB κ a0 st):(arrOf st).size=a0.size:=h.pm.size_eq
theorem SB.mem {κ:SortKind}{a0:Array Keyed}{st:SortSt}(h:SB κ a0 st){i:Nat}(hi:i<a0.size):ats ax i∈a0.toList:=
 (Array.perm_iff_toList_perm.mp h.pm).mem_iff.mp (Qy (by rw[h.sz];exact hi))
theorem SB.put {κ:SortKind}{a0:Array Keyed}{st:SortSt}(h:SB κ a0 st){xs:Array Keyed}(hp:xs.Perm ax):SB κ a0 (setArr st xs):=⟨hp.trans h.pm,h.kd,h.fd⟩
noncomputable def Cmp (M:Model)(A:Around)(κ:SortKind)(a0:Array Keyed)(c:Keyed->Keyed->Bool)(G:Shared->Prop):Prop:=
 ∀x y,x∈a0.toList->y∈a0.toList->∀s,G s->wpAny M A (keyLt' κ x.1 y.1) (fun b s'=>b=c x y/\G s') (fun _ _=>False) s
section
variable {M:Model}{A:Around}{E:Value->Shared->Prop}{κ:SortKind}{a0:Array Keyed}{c0 c:Keyed->Keyed->Bool}{ix:Keyed->Nat}{G:Shared->Prop}
theorem QaY {xs:Array Keyed}{i:Nat}{st:SortSt}{s:Shared}{Q:Keyed->SortSt->Shared->Prop}(hi:i<xs.size)(h:Q (ats xs i) st s):kasC M A E (elem' xs i) Q st s:=by
 rw[elem'_eq,QnU hi];exact kasC_pure h
theorem Qry (H:Cmp M A κ a0 c0 G){x y:Keyed}{st:SortSt}{s:Shared}{Q:Option Bool->SortSt->Shared->Prop}(hk:kindOf st=κ)(hx:x∈a0.toList)(hy:y∈a0.toList)(g:G s)(h:∀s',G s'->Q (some (c0 x y)) st s'):
  kasC M A E (lt' x y) Q st s:=by
 rw[lt'_eq]
 refine kasC_bind (kasC_get ?_)
 rw[hk]
 refine kasC_bind (kasC_lift (wpAny_attempt (wpAny_mono (H x y hx hy s g) (fun b s' z=>?_) fun _ _ z=>z.elim)))
 obtain⟨rfl,g'⟩:=z
 exact kasC_pure (h s' g')
theorem Qm1 (H:Cmp M A κ a0 c0 G)(o:Od c0 c ix){x y:Keyed}{st:SortSt}{s:Shared}{Q:Option Bool->SortSt->Shared->Prop}(hi:ix y<ix x)(hk:kindOf st=κ)(hx:x∈a0.toList)(hy:y∈a0.toList)(g:G s)(h:∀s',G s'->Q (some (c x y)) st s'):
  kasC M A E (lt' x y) Q st s:=Qry H hk hx hy g fun s' g'=>by rw[←o.ag hi];exact h s' g'
theorem QfR (H:Cmp M A κ a0 c0 G){i j:Nat}{st:SortSt}{s:Shared}{Q:Option Bool->SortSt->Shared->Prop}(b:SB κ a0 st)(hi:i<a0.size)(hj:j<a0.size)(g:G s)
  (h:∀s',G s'->Q (some (c0 (ats ax i) (ats ax j))) st s'):kasC M A E (ltAt' i j) Q st s:=by
 rw[ltAt'_eq]
 refine kasC_bind (kasC_get ?_)
 refine kasC_bind (QaY (by rw[b.sz];exact hi) ?_)
 refine kasC_bind (QaY (by rw[b.sz];exact hj) ?_)
 exact Qry H b.kd (b.mem hi) (b.mem hj) g h
theorem Qrz (H:Cmp M A κ a0 c0 G)(oo:Od c0 c ix){st:SortSt}{s:Shared}{lo n ok:Nat}{Q:Bool->SortSt->Shared->Prop}(hn:lo+n<=a0.size)(hok:ok<=n)(b:SB κ a0 st)(hs:Up c ax lo (lo+ok))(hl:Loc ix ax lo (lo+ok))(hr:Raw ix ax (lo+ok))(g:G s)
  (h:∀st' s',SB κ a0 st'->pendingOf st'=pendingOf st->Up c aC lo (lo+n)->Loc ix aC lo (lo+n)->Raw ix aC (lo+n)->Keep ax aC lo->G s'->Q true st' s'):kasC M A E (binarySort' lo n ok) Q st s:=by
 have o:=oo.o
 rw[binarySort'_eq]
 refine kasC_bind (QbO (fun k d st' s'=>d=(none,())/\SB κ a0 st'/\pendingOf st'=pendingOf st/\Keep ax aC lo/\Up c aC lo (lo+min k n)/\Loc ix aC lo (lo+min k n)/\Raw ix aC (lo+min k n)/\G s') ?_ ?_ ?_)
 .rintro k _ st' s' hk1 hk2 ⟨rfl,b',p',kp,up,lc,rw',g'⟩
  rw[show min k n=k by omega]at up lc rw'
  have hsz:=b'.sz
  refine kasC_bind (Qp (Q:=fun d st'' s''=>st''=st'/\G s''/\∃l r,d=(none,l,r)/\l<=k/\
   (∀i,i<l->c (ats aC (lo+k)) (ats aC (lo+i))=false)/\(∀i,l<=i->i<k->c (ats aC (lo+k)) (ats aC (lo+i))=true))
   (QbO (fun x d st'' s''=>st''=st'/\G s''/\∃l r,d=(none,l,r)/\l<=r/\r<=k/\r-l<=k-x/\
   (∀i,i<l->c (ats aC (lo+k)) (ats aC (lo+i))=false)/\(∀i,r<=i->i<k->c (ats aC (lo+k)) (ats aC (lo+i))=true)) ?_ ?_ ?_) ?_)
  .rintro x _ st'' s'' _ hx ⟨rfl,g'',l,r,rfl,h1,h2,h3,h4,h5⟩
   dsimp only
   by_cases e:l≥r
   .rw[if_pos e]
    have e':l=r:=by omega
    subst e'
    exact kasC_pure ⟨rfl,g'',l,l,rfl,h2,h4,h5⟩
   .rw[if_neg e]
    refine kasC_bind (QfR H b' aa aa g'' fun s3 g3=>?_)
    dsimp only
    have ag:=oo.ag (x:=ats (arrOf st'') (lo+k)) (y:=ats (arrOf st'') (lo+(l+r)/2)) (by
     have z1:=rw' (lo+k) am aa
     have z2:=lc (lo+(l+r)/2) aa aa
     omega)
    rw[←ag]
    cases q:c (ats (arrOf st'') (lo+k)) (ats (arrOf st'') (lo+(l+r)/2))with
    |true=>
     refine kasC_pure ⟨rfl,g3,l,(l+r)/2,rfl,by omega,by omega,by omega,h4,fun i z1 z2=>?_⟩
     cases q2:c (ats (arrOf st'') (lo+k)) (ats (arrOf st'') (lo+i))with
     |true=>rfl
     |false=>
      have:=o.tr (up (lo+(l+r)/2) (lo+i) aa aa aa) q2
      rw[q]at this;exact this.symm
    |false=>
     refine kasC_pure ⟨rfl,g3,(l+r)/2+1,r,rfl,by omega,by omega,by omega,fun i z1=>?_,h5⟩
     exact o.tr (up (lo+i) (lo+(l+r)/2) aa aa aa) q
  .rintro _ st'' s'' ⟨rfl,g'',l,r,rfl,h1,h2,h3,h4,h5⟩
   have e':l=r:=by omega
   subst e'
   exact⟨rfl,g'',l,l,rfl,h2,h4,h5⟩
  .exact⟨rfl,g',0,k,rfl,by omega,by omega,by omega,fun i z=>by omega,fun i z1 z2=>by omega⟩
  .rintro _ st'' s'' ⟨rfl,g'',l,r,rfl,h2,h4,h5⟩
   show kasC M A E (moveDown' (lo+k) (lo+l)>>=fun _=>pure (ForInStep.yield (none,()))) _ _ _
   rw[moveDown'_eq]
   have bub:∀j,ats aW j=if j=lo+l then ats (arrOf st'') (lo+k)else if lo+l<j/\j<=lo+k then ats (arrOf st'') (j-1)else ats (arrOf st'') j:=fun j=>by
    rw[Qpg aa aa,show lo+k-(lo+k-(lo+l))=lo+l by omega]
   have rk:=rw' (lo+k) am aa
   refine kasC_bind (kasC_modify (kasC_pure ⟨rfl,b'.put (bubble_perm _ _ _),p',?_,?_,?_,?_,g''⟩))
   .intro i hi
    show ats aW i=_
    rw[bub,if_neg aa,if_neg aa]
    exact kp i hi
   .rw[show min (k+1) n=k+1 by omega]
    intro i j hi hij hj
    show c (ats aW j) (ats aW i)=false
    rw[bub,bub]
    have w1:∀t,lo<=t->t<lo+l->c (ats (arrOf st'') (lo+k)) (ats (arrOf st'') t)=false:=fun t z1 z2=>by
     have:=h4 (t-lo) aa;rwa [show lo+(t-lo)=t by omega]at this
    have w2:∀t,lo+l<=t->t<lo+k->c (ats (arrOf st'') (lo+k)) (ats (arrOf st'') t)=true:=fun t z1 z2=>by
     have:=h5 (t-lo) aa aa;rwa [show lo+(t-lo)=t by omega]at this
    clear rk hsz hk2 hk1 hok hn h4 h5
    repeat' split
    all_goals first
     |(exfalso;omega)
     |exact o.rf _
     |exact w1 _ aa aa
     |exact o.asym (w2 _ aa aa)
     |exact up _ _ aa aa aa
   .rw[show min (k+1) n=k+1 by omega]
    intro j z1 z2
    show lo<=ix (ats aW j)/\ix (ats aW j)<lo+(k+1)
    rw[bub]
    split
    .omega
    .split
     .have:=lc (j-1) aa aa;omega
     .have:=lc j aa aa;omega
   .rw[show min (k+1) n=k+1 by omega]
    intro j z1 z2
    have z2:j<(bubble (arrOf st'') (lo+k) (lo+k-(lo+l))).size:=z2
    rw[bubble_size]at z2
    show ix (ats aW j)=j
    rw[bub,if_neg aa,if_neg aa]
    exact rw' j aa z2
 .rintro _ st' s' ⟨rfl,b',p',kp,up,lc,rw',g'⟩
  rw[show min (max (max ok 1) n) n=n by omega]at up lc rw'
  exact kasC_pure (h st' s' b' p' up lc rw' kp g')
 .have hsz:=b.sz
  refine⟨rfl,b,rfl,fun i _=>rfl,?_,?_,?_,g⟩
  .intro i j hi hij hj
   by_cases z:ok=0
   .have:i=j:=by omega
    subst this;exact o.rf _
   .exact hs i j hi hij aa
  .exact hl.more hr aa aa aa
  .exact hr.mono aa
theorem QnV (o:Sw c){f:Nat->Option aw×Nat->StateT SortSt Sem (ForInStep (Option aw×Nat))}{st:SortSt}{s:Shared}{lo nrem a:Nat}{Q:Option aw×Nat->SortSt->Shared->Prop}(ha:1<=a)(han:a<=nrem)(g:G s)
  (up:Up c ax lo (lo+a))
  (hf:∀x n s,G s->a<=n->n<nrem->kasC M A E (f x (none,n)) (fun r st' s'=>st'=st/\G s'/\r=if c (ats ax (lo+n)) (ats ax (lo+n-1))=true then .done (none,n)else .yield (none,n+1)) st s)
  (h:∀n s',a<=n->n<=nrem->Up c ax lo (lo+n)->(n<nrem->c (ats ax (lo+n)) (ats ax (lo+n-1))=true)->G s'->Q (none,n) st s'):kasC M A E (forIn [a:nrem] (none,a) f) Q st s:=by
 refine QbO (fun k d st' s'=>d=(none,k)/\st'=st/\G s'/\Up c ax lo (lo+k)) ?_ ?_ ⟨rfl,rfl,g,up⟩
 .rintro k _ _ s' h1 h2 ⟨rfl,rfl,g',up'⟩
  refine Qp (hf k k s' g' h1 h2) fun r st2 s2 z=>?_
  obtain⟨rfl,g2,rfl⟩:=z
  cases q:c (ats (arrOf st2) (lo+k)) (ats (arrOf st2) (lo+k-1))with
  |true=>rw[if_pos rfl];exact h k s2 h1 aa up' (fun _=>q) g2
  |false=>
   rw[if_neg al]
   refine⟨rfl,rfl,g2,fun i j z1 z2 z3=>?_⟩
   by_cases e:j=lo+k
   .subst e
    by_cases e2:i=lo+k
    .subst e2;exact o.rf _
    .exact o.tr (up' i (lo+k-1) z1 aa aa) q
   .exact up' i j z1 z2 aa
 .rintro _ _ s' ⟨rfl,rfl,g',up'⟩
  rw[show max a nrem=nrem by omega]at up'⊢
  exact h nrem s' han am up' (fun z=>absurd z (Nat.lt_irrefl _)) g'
theorem QrA {xs:Array Keyed}{lo hi:Nat}(hj:hi<=xs.size)(d:Dn c xs lo hi):Up c (mirror xs lo hi ((hi-lo)/2)) lo hi:=fun i j h1 h2 h3=>by
 rw[QbP hj,QbP hj,if_pos aa,if_pos aa]
 exact d _ _ aa aa aa
theorem QeD {xs:Array Keyed}{lo hi l0:Nat}(hj:hi<=xs.size)(h:l0<=lo):Keep xs (mirror xs lo hi ((hi-lo)/2)) l0:=fun i h1=>by
 rw[QbP hj,if_neg aa]
theorem Keep.trans {xs ys zs:Array Keyed}{l:Nat}(h:Keep xs ys l)(k:Keep ys zs l):Keep xs zs l:=fun i z=>(k i z).trans (h i z)
theorem QtH {xs:Array Keyed}{lo m m':Nat}(oo:Od c0 c ix)(l:Loc ix xs lo (lo+m))(r:Raw ix xs (lo+m))(h:m<=m')(h1:1<=m')(hz:lo+m'<xs.size):c (ats xs (lo+m')) (ats xs (lo+m'-1))=c0 (ats xs (lo+m')) (ats xs (lo+m'-1)):=by
 refine oo.ag ?_
 have z1:=r (lo+m') aa hz
 by_cases q:m'=m
 .subst q;have:=l (lo+m'-1) aa aa;omega
 .have:=r (lo+m'-1) aa aa;omega
structure Blk (c0 c:Keyed->Keyed->Bool)(ix:Keyed->Nat)(xs:Array Keyed)(lo p m:Nat):Prop where
 lp:lo<=p
 pm:p<m
 mz:m<=xs.size
 dn:Dn c xs lo p
 lc:Loc ix xs lo p
 gt:∀i j,lo<=i->i<p->p<=j->j<m->c0 (ats xs j) (ats xs i)=true
 eq:∀i j,p<=i->i<m->p<=j->j<m->c0 (ats xs i) (ats xs j)=false
 raw:Raw ix xs p
theorem Blk.turn {xs:Array Keyed}{lo p m:Nat}(oo:Od c0 c ix)(h:Blk c0 c ix xs lo p m):Dn c (mirror xs p m ((m-p)/2)) lo m/\Loc ix (mirror xs p m ((m-p)/2)) lo m/\Raw ix (mirror xs p m ((m-p)/2)) m:=by
 have e:=QbP (i:=p) h.mz
 have lp:=h.lp;have pm:=h.pm;have mz:=h.mz
 refine⟨fun i j z1 z2 z3=>?_,fun j z1 z2=>?_,fun j z1 z2=>?_⟩
 .rw[e,e]
  by_cases c1:p<=i/\i<m
  .rw[if_pos c1,if_pos aa]
   by_cases q:i=j
   .subst q;exact oo.o.rf _
   .refine oo.o.asym (oo.eq (h.eq _ _ aa aa aa aa) (h.eq _ _ aa aa aa aa) ?_)
    rw[h.raw _ aa aa,h.raw _ aa aa];omega
  .rw[if_neg c1]
   by_cases c2:p<=j/\j<m
   .rw[if_pos c2]
    exact oo.o.asym (oo.wk (h.gt _ _ z1 aa aa aa))
   .rw[if_neg c2];exact h.dn i j z1 z2 aa
 .rw[e]
  by_cases c1:p<=j/\j<m
  .rw[if_pos c1,h.raw _ aa aa];omega
  .rw[if_neg c1];have:=h.lc j z1 aa;omega
 .rw[mirror_size]at z2
  rw[e,if_neg aa]
  exact h.raw j aa z2
theorem Blk.one {xs:Array Keyed}{lo p m:Nat}(oo:Od c0 c ix)(h:Blk c0 c ix xs lo p m)(e:m=p+1):Dn c xs lo m/\Loc ix xs lo m/\Raw ix xs m:=by
 have lp:=h.lp;have pm:=h.pm;have mz:=h.mz
 subst e
 refine⟨fun i j z1 z2 z3=>?_,h.lc.more h.raw lp aa mz,h.raw.mono aa⟩
 by_cases q:j=p
 .subst q
  by_cases q2:i=j
  .subst q2;exact oo.o.rf _
  .exact oo.o.asym (oo.wk (h.gt i j z1 aa aa aa))
 .exact h.dn i j z1 z2 aa
theorem Blk.new {xs:Array Keyed}{lo m:Nat}(oo:Od c0 c ix)(lm:lo<m)(mz:m<xs.size)(dn:Dn c xs lo m)(lc:Loc ix xs lo m)(raw:Raw ix xs m)(g:c0 (ats xs m) (ats xs (m-1))=true):Blk c0 c ix xs lo m (m+1):=
 ⟨by omega,by omega,mz,dn,lc,fun i j z1 z2 z3 z4=>by
  obtain rfl:j=m:=by omega
  exact oo.o0.le g (oo.of0 (dn i (j-1) z1 aa aa)),fun i j z1 z2 z3 z4=>by
  obtain rfl:i=j:=by omega
  exact oo.o0.rf _,raw⟩
theorem Qm2 (H:Cmp M A κ a0 c0 G)(oo:Od c0 c ix){st:SortSt}{s:Shared}{lo nrem:Nat}{Q:Option Nat->SortSt->Shared->Prop}(hn:lo+nrem<=a0.size)(h1:1<=nrem)(b:SB κ a0 st)(hr:Raw ix ax lo)(g:G s)
  (h:∀n st' s',1<=n->n<=nrem->SB κ a0 st'->pendingOf st'=pendingOf st->Up c aC lo (lo+n)->Loc ix aC lo (lo+n)->Raw ix aC (lo+n)->Keep ax aC lo->G s'->Q (some n) st' s'):kasC M A E (countRun' lo nrem) Q st s:=by
 have o:=oo.o
 have hsz:=b.sz
 rw[countRun'_eq]
 refine kasC_bind (QnV (lo:=lo) o (Nat.le_refl 1) h1 g (fun i j z1 z2 z3=>?_) (fun x m s g y1 y2=>by
   refine kasC_bind (QfR H b aa aa g fun s' g'=>?_)
   dsimp only
   rw[←oo.ag (by
    have z1:=hr (lo+m) aa aa
    have z2:=hr (lo+m-1) aa aa
    omega)]
   split<;>exact kasC_pure ⟨rfl,g',rfl⟩) fun n s1 n1 n2 up dn g1=>?_)
 .have:i=j:=by omega
  subst this;exact o.rf _
 dsimp only
 have lc:Loc ix ax lo (lo+n):=fun j z1 z2=>by have:=hr j z1 aa;omega
 by_cases e:(n==nrem)=true
 .rw[if_pos e];exact kasC_pure (h n st s1 n1 n2 b rfl up lc (hr.mono aa) (fun _ _=>rfl) g1)
 rw[if_neg e]
 have lt:n<nrem:=by
  rcases Nat.lt_or_ge n nrem with z|z
  .exact z
  .exact absurd (by rw[show n=nrem by omega];exact beq_self_eq_true _) e
 have dn0:=dn lt
 have dn:c0 (ats ax (lo+n)) (ats ax (lo+n-1))=true:=by
  rw[oo.ag (by
    have z1:=hr (lo+n) aa aa
    have z2:=hr (lo+n-1) aa aa
    omega)]at dn0
  exact dn0
 refine' (fun(key:∀(st':SortSt) (s':Shared),SB κ a0 st'->pendingOf st'=pendingOf st->Keep ax aC lo->Blk c0 c ix aC lo (lo+n) (lo+n+1)->G s'->kasC M A E (_:StateT SortSt Sem aw) Q st' s')=>?rest) ?key
 case rest=>
  by_cases e2:n>1
  .rw[if_pos e2]
   refine kasC_bind (QfR H b aa aa g1 fun s2 g2=>?_)
   dsimp only
   cases ro:c0 (ats ax lo) (ats ax (lo+n-1))with
   |true=>rw[if_pos rfl];exact kasC_pure (h n st s2 n1 n2 b rfl up lc (hr.mono aa) (fun _ _=>rfl) g2)
   |false=>
    rw[if_neg al,reverseSlice'_eq]
    refine kasC_bind (kasC_modify ?_)
    have hz0:lo+n<=(arrOf st).size:=by rw[b.sz];omega
    have up0:∀i j,lo<=i->i<=j->j<lo+n->c0 (ats ax j) (ats ax i)=false:=fun i j z1 z2 z3=>oo.of0 (up i j z1 z2 z3)
    have all:∀i j,lo<=i->i<lo+n->lo<=j->j<lo+n->c0 (ats ax i) (ats ax j)=false:=fun i j z1 z2 z3 z4=>
     oo.o0.tr (oo.o0.tr (up0 j (lo+n-1) aa aa aa) ro) (up0 lo i aa aa aa)
    have bb:=b.put (mirror_perm ax lo (lo+n) ((lo+n-lo)/2))
    have bl0:Blk c0 c ix ax lo lo (lo+n):=⟨Nat.le_refl _,by omega,hz0,fun i j z1 z2 z3=>by omega,fun j z1 z2=>by omega,fun i j z1 z2=>by omega,fun i j z1 z2 z3 z4=>all i j z1 z2 z3 z4,hr⟩
    obtain⟨t1,t2,t3⟩:=bl0.turn oo
    have bl1:Blk c0 c ix (mirror ax lo (lo+n) ((lo+n-lo)/2)) lo (lo+n) (lo+n+1):=Blk.new oo aa (by rw[mirror_size];omega) t1 t2 t3 (by
     rw[QbP hz0,QbP hz0,if_neg aa,if_pos aa]
     exact oo.o0.le dn (all _ _ aa aa aa aa))
    exact key _ _ bb rfl (QeD hz0 am) bl1 g2
  .rw[if_neg e2]
   have bl1:Blk c0 c ix ax lo (lo+n) (lo+n+1):=Blk.new oo aa aa (fun i j z1 z2 z3=>by
    have:i=j:=by omega
    subst this;exact o.rf _) lc (hr.mono aa) dn
   exact key _ _ b rfl (fun _ _=>rfl) bl1 g1
 intro st0 s0 b0 p0 kp0 bl0 g0
 refine kasC_bind (kasC_lift (wpAny_rule ?_))
 refine kasC_bind (Qp (Q:=fun d st' s'=>∃m q,d=(none,m,q)/\n+1<=m/\m<=nrem/\q<m/\SB κ a0 st'/\pendingOf st'=pendingOf st/\Keep ax aC lo/\Blk c0 c ix aC lo (lo+m-(q+1)) (lo+m)/\G s')
  (QbO (fun k d st' s'=>∃q,d=(none,k,q)/\k<=nrem/\q<k/\SB κ a0 st'/\pendingOf st'=pendingOf st/\Keep ax aC lo/\Blk c0 c ix aC lo (lo+k-(q+1)) (lo+k)/\G s') ?_ ?_ ?_) ?_)
 .rintro k _ st' s' k1 k2 ⟨q,rfl,_,q2,b',p',kp',bl,g'⟩
  dsimp only
  refine kasC_bind (QfR H b' aa aa g' fun s3 g3=>?_)
  dsimp only
  have hz0:=b'.sz
  cases sm:c0 (ats aC (lo+k)) (ats aC (lo+k-1))with
  |true=>
   rw[if_pos rfl]
   by_cases hq:q>0
   .rw[if_pos hq,reverseSlice'_eq]
    refine kasC_bind (kasC_modify (kasC_pure ?_))
    have hz:lo+k<=(arrOf st').size:=by omega
    obtain⟨t1,t2,t3⟩:=bl.turn oo
    refine⟨0,rfl,by omega,by omega,b'.put (mirror_perm _ _ _ _),p',kp'.trans (QeD hz aa),?_,g3⟩
    refine Blk.new oo aa (by show _<(mirror _ _ _ _).size;rw[mirror_size];omega) t1 t2 t3 ?_
    show c0 (ats (mirror _ _ _ _) _) (ats (mirror _ _ _ _) _)=true
    rw[QbP hz,QbP hz,if_neg aa,if_pos aa]
    exact oo.o0.le sm (bl.eq _ _ aa aa aa aa)
   .rw[if_neg hq]
    obtain⟨t1,t2,t3⟩:=bl.one oo aa
    exact kasC_pure ⟨0,rfl,by omega,by omega,b',p',kp',Blk.new oo aa aa t1 t2 t3 sm,g3⟩
  |false=>
   rw[if_neg al]
   refine kasC_bind (QfR H b' aa aa g3 fun s4 g4=>?_)
   dsimp only
   cases la:c0 (ats aC (lo+k-1)) (ats aC (lo+k))with
   |true=>
    rw[if_pos rfl]
    exact kasC_pure ⟨k,q,rfl,k1,by omega,q2,b',p',kp',bl,g4⟩
   |false=>
    rw[if_neg al]
    refine kasC_pure ⟨q+1,rfl,by omega,by omega,b',p',kp',?_,g4⟩
    have ep:lo+(k+1)-(q+1+1)=lo+k-(q+1):=by omega
    rw[ep]
    have o0:=oo.o0
    refine⟨bl.lp,by omega,by omega,bl.dn,bl.lc,fun i j z1 z2 z3 z4=>?_,fun i j z1 z2 z3 z4=>?_,bl.raw⟩
    .by_cases e1:j=lo+k
     .subst e1
      cases e2:c0 (ats aC (lo+k)) (ats aC i)with
      |true=>rfl
      |false=>
       have:=o0.tr e2 la
       rw[bl.gt i (lo+k-1) z1 z2 aa aa]at this;exact this.symm
     .exact bl.gt i j z1 z2 z3 aa
    .by_cases e1:i=lo+k
     .by_cases e2:j=lo+k
      .subst e1;subst e2;exact o0.rf _
      .subst e1
       exact o0.tr (bl.eq (lo+k-1) j aa aa aa aa) sm
     .by_cases e2:j=lo+k
      .subst e2
       exact o0.tr la (bl.eq i (lo+k-1) aa aa aa aa)
      .exact bl.eq i j aa aa aa aa
 .rintro _ st' s' ⟨q,rfl,q1,q2,b',p',kp',bl,g'⟩
  rw[show max (n+1) nrem=nrem by omega]at *
  exact⟨nrem,q,rfl,by omega,by omega,q2,b',p',kp',bl,g'⟩
 .refine⟨0,rfl,by omega,by omega,b0,p0,kp0,bl0,g0⟩
 .rintro _ st' s' ⟨m,q,rfl,m1,m2,q2,b',p',kp',bl,g'⟩
  dsimp only
  refine' (fun(key:∀(st2:SortSt),SB κ a0 st2->pendingOf st2=pendingOf st->Keep ax (arrOf st2) lo->Dn c (arrOf st2) lo (lo+m)->Loc ix (arrOf st2) lo (lo+m)->Raw ix (arrOf st2) (lo+m)->kasC M A E (_:StateT SortSt Sem aw) Q st2 s')=>?rest2) ?key2
  case rest2=>
   by_cases hq:q>0
   .rw[if_pos hq,reverseSlice'_eq]
    refine kasC_bind (kasC_modify ?_)
    have hz0:lo+m<=(arrOf st').size:=by rw[b'.sz];omega
    have b3:=b'.put (mirror_perm aC (lo+m-(q+1)) (lo+m) ((lo+m-(lo+m-(q+1)))/2))
    have kp3:=kp'.trans (QeD (lo:=lo+m-(q+1)) hz0 (show lo<=_ by omega))
    obtain⟨t1,t2,t3⟩:=bl.turn oo
    exact key _ b3 p' kp3 t1 t2 t3
   .rw[if_neg hq]
    obtain⟨t1,t2,t3⟩:=bl.one oo aa
    exact key _ b' p' kp' t1 t2 t3
  intro st2 bt pt kt t1 t2 t3
  rw[reverseSlice'_eq]
  refine kasC_bind (kasC_modify ?_)
  have b2:=bt.put (mirror_perm _ lo (lo+m) ((lo+m-lo)/2))
  have hz:lo+m<=(arrOf _).size:=Nat.le_trans (show lo+m<=a0.size by omega) (Nat.le_of_eq bt.sz.symm)
  have rv:=QbP (i:=lo) hz
  have l2:Loc ix (mirror _ lo (lo+m) ((lo+m-lo)/2)) lo (lo+m):=fun j z1 z2=>by
   rw[rv,if_pos aa];exact t2 _ aa aa
  have r2:Raw ix (mirror _ lo (lo+m) ((lo+m-lo)/2)) (lo+m):=fun j z1 z2=>by
   rw[mirror_size]at z2
   rw[rv,if_neg aa];exact t3 j z1 z2
  have sz2:=b2.sz
  refine kasC_bind (QnV (lo:=lo) o aa m2 g' (QrA hz t1) (fun x m' s g y1 y2=>by
    refine kasC_bind (QfR H b2 aa aa g fun s' g'=>?_)
    dsimp only
    rw[←QtH oo l2 r2 y1 aa (Nat.lt_of_lt_of_le (show lo+m'<a0.size by omega) (Nat.le_of_eq sz2.symm))]
    split<;>exact kasC_pure ⟨rfl,g',rfl⟩) fun m' s2 y1 y2 y3 _ g2=>?_)
  exact kasC_pure (h m' _ s2 aa y2 b2 pt y3 (l2.more r2 aa aa (Nat.le_trans (show lo+m'<=a0.size by omega) (Nat.le_of_eq sz2.symm))) (r2.mono aa) (Keep.trans kt (QeD hz am)) g2)
end
end TSrt
namespace TSrt
open PySem PySem.W PyProof.Rows
section pure
variable {c:Keyed->Keyed->Bool}
noncomputable def Asc (c:Keyed->Keyed->Bool)(l:List Keyed):Prop:=l.Pairwise fun x y=>c y x=false
theorem Asc.app {l m:List Keyed}(h1:Asc c l)(h2:Asc c m)(h:∀x∈l,∀y∈m,c y x=false):Asc c (l++m):=List.pairwise_append.mpr ⟨h1,h2,h⟩
theorem Asc.split {l:List Keyed}(h:Asc c l)(k:Nat):Asc c (l.take k)/\Asc c (l.drop k)/\∀x∈l.take k,∀y∈l.drop k,c y x=false:=by
 have h':=h
 rw[←List.take_append_drop k l]at h'
 exact List.pairwise_append.mp h'
theorem QbD {xs:Array Keyed}{i:Nat}:ats xs i=(xs.toList[i]?).getD (.none, .none):=by unfold ats;rw[Array.getElem?_toList]
theorem Asc.at {xs:Array Keyed}(h:Asc c xs.toList)(o:Sw c){i j:Nat}(hij:i<=j)(hj:j<xs.size):c (ats xs j) (ats xs i)=false:=by
 by_cases e:i=j
 .subst e;exact o.rf _
 .have hj':j<xs.toList.length:=by simpa using hj
  have hi':i<xs.toList.length:=by omega
  have:=List.pairwise_iff_getElem.mp h i j hi' hj' aa
  rw[QbD,QbD,List.getElem?_eq_getElem hj',List.getElem?_eq_getElem hi']
  exact this
theorem QeX {xs:Array Keyed}{i:Nat}(h:i<xs.size):xs.toList.drop i=ats xs i::xs.toList.drop (i+1):=by
 have h':i<xs.toList.length:=by simpa using h
 rw[List.drop_eq_getElem_cons h',QbD,List.getElem?_eq_getElem h'];rfl
theorem QeY {xs:Array Keyed}{i k:Nat}{y:Keyed}(h:y∈(xs.toList.drop i).take k):∃t,t<k/\i+t<xs.size/\y=ats xs (i+t):=by
 obtain⟨t,ht,rfl⟩:=List.mem_iff_getElem.mp h
 have e:=ht
 rw[List.length_take,List.length_drop]at e
 have e2:i+t<xs.size:=by rw[Array.length_toList]at e;omega
 refine⟨t,by omega,e2,?_⟩
 rw[List.getElem_take,List.getElem_drop,QbD,List.getElem?_eq_getElem];rfl
structure ML (c:Keyed->Keyed->Bool)(a b:Array Keyed)(out:Array Keyed)(ia ib:Nat):Prop where
 so:Asc c out.toList
 pm:out.toList.Perm (a.toList.take ia++b.toList.take ib)
 oa:∀x∈out.toList,∀y∈a.toList.drop ia,c y x=false
 ob:∀x∈out.toList,∀y∈b.toList.drop ib,c y x=false
theorem ML.swap {a b out:Array Keyed}{ia ib:Nat}(h:ML c a b out ia ib):ML c b a out ib ia:=⟨h.so,h.pm.trans List.perm_append_comm,h.ob,h.oa⟩
theorem ML.size {a b out:Array Keyed}{ia ib:Nat}(h:ML c a b out ia ib)(ha:ia<=a.size)(hb:ib<=b.size):out.size=ia+ib:=by
 have:=h.pm.length_eq
 simp only[List.length_append,List.length_take,Array.length_toList]at this
 omega
theorem ML.add {a b out:Array Keyed}{ia ib k:Nat}(o:Sw c)(sa:Asc c a.toList)(sb:Asc c b.toList)(h:ML c a b out ia ib)(hb:ib<b.size)(q:∀t,t<k->ia+t<a.size->c (ats b ib) (ats a (ia+t))=false):
  ML c a b (out++a.extract ia (ia+k)) (ia+k) ib:=by
 have e:(out++a.extract ia (ia+k)).toList=out.toList++(a.toList.drop ia).take k:=by
  rw[Array.toList_append,Array.toList_extract,List.extract_eq_drop_take]
  congr 2;omega
 have hd:a.toList.drop (ia+k)=(a.toList.drop ia).drop k:=by rw[List.drop_drop]
 obtain⟨-,sd,-⟩:=sa.split ia
 obtain⟨s1,-,s2⟩:=Asc.split sd k
 constructor
 .rw[e];exact h.so.app s1 fun x hx y hy=>h.oa x hx y (List.mem_of_mem_take hy)
 .rw[e,List.take_add]
  refine(h.pm.append_right _).trans ?_
  rw[List.append_assoc,List.append_assoc]
  exact List.Perm.append_left _ List.perm_append_comm
 .rw[e,hd]
  intro x hx y hy
  rcases List.mem_append.mp hx with hx|hx
  .exact h.oa x hx y (List.mem_of_mem_drop hy)
  .exact s2 x hx y hy
 .rw[e]
  intro x hx y hy
  rcases List.mem_append.mp hx with hx|hx
  .exact h.ob x hx y hy
  .obtain⟨t,t1,t2,rfl⟩:=QeY hx
   have z:=q t t1 t2
   rw[QeX hb]at hy
   rcases List.mem_cons.mp hy with rfl|hy
   .exact z
   .obtain⟨-,s4,-⟩:=sb.split ib
    rw[QeX hb]at s4
    exact o.tr z ((List.pairwise_cons.mp s4).1 y hy)
theorem ML.push {a b out:Array Keyed}{ia ib:Nat}(o:Sw c)(sa:Asc c a.toList)(sb:Asc c b.toList)(h:ML c a b out ia ib)(ha:ia<a.size)(hb:ib<b.size)(q:c (ats b ib) (ats a ia)=false):
  ML c a b (out.push (ats a ia)) (ia+1) ib:=by
 have:=h.add (k:=1) o sa sb hb fun t t1 t2=>by
  obtain rfl:t=0:=by omega
  exact q
 have e:out++a.extract ia (ia+1)=out.push (ats a ia):=by
  apply Array.toList_inj.mp
  rw[Array.toList_append,Array.toList_extract,List.extract_eq_drop_take,Array.toList_push,QeX ha]
  rw[show ia+1-ia=1 by omega];rfl
 rwa [e]at this
noncomputable def Merged (c:Keyed->Keyed->Bool)(a b r:Array Keyed):Prop:=Asc c r.toList/\r.toList.Perm (a.toList++b.toList)
theorem Merged.swap {a b r:Array Keyed}(h:Merged c a b r):Merged c b a r:=⟨h.1,h.2.trans List.perm_append_comm⟩
theorem ML.fin {a b out:Array Keyed}{ia ib:Nat}(sa:Asc c a.toList)(sb:Asc c b.toList)(h:ML c a b out ia ib)(q:∀x∈a.toList.drop ia,∀y∈b.toList.drop ib,c y x=false):Merged c a b (out++a.extract ia a.size++b.extract ib b.size):=by
 have e:(out++a.extract ia a.size++b.extract ib b.size).toList=out.toList++a.toList.drop ia++b.toList.drop ib:=by
  rw[Array.toList_append,Array.toList_append,Array.toList_extract,Array.toList_extract,List.extract_eq_drop_take,List.extract_eq_drop_take,List.take_of_length_le al,List.take_of_length_le al]
 refine⟨?_,?_⟩
 .rw[e]
  refine(h.so.app (sa.split ia).2.1 h.oa).app (sb.split ib).2.1 fun x hx y hy=>?_
  rcases List.mem_append.mp hx with hx|hx
  .exact h.ob x hx y hy
  .exact q x hx y hy
 .rw[e]
  have p1:=(h.pm.append_right (a.toList.drop ia++b.toList.drop ib))
  rw[←List.append_assoc]at p1
  refine p1.trans ?_
  conv=>rhs;rw[←List.take_append_drop ia a.toList,←List.take_append_drop ib b.toList]
  rw[List.append_assoc,List.append_assoc]
  refine List.Perm.append_left _ ?_
  rw[←List.append_assoc,←List.append_assoc]
  exact List.perm_append_comm.append_right _
theorem ML.fin_a {a b out:Array Keyed}{ia ib:Nat}(sa:Asc c a.toList)(sb:Asc c b.toList)(h:ML c a b out ia ib)(e:ia=a.size):Merged c a b (out++a.extract ia a.size++b.extract ib b.size):=h.fin sa sb fun x hx=>by
 rw[e,List.drop_of_length_le al]at hx;simp at hx
theorem ML.fin_b {a b out:Array Keyed}{ia ib:Nat}(sa:Asc c a.toList)(sb:Asc c b.toList)(h:ML c a b out ia ib)(e:ib=b.size):Merged c a b (out++a.extract ia a.size++b.extract ib b.size):=h.fin sa sb fun x _ y hy=>by
 rw[e,List.drop_of_length_le al]at hy;simp at hy
theorem ML.fin_l {a b out:Array Keyed}{ia ib:Nat}(o:Sw c)(sa:Asc c a.toList)(sb:Asc c b.toList)(h:ML c a b out ia ib)(e:ia+1=a.size)(hb:0<b.size)(q:c (ats b (b.size-1)) (ats a (a.size-1))=true):Merged c a b (out++b.extract ib b.size++a.extract ia a.size):=
 (h.swap.fin sb sa fun x hx y hy=>by
  rw[QeX aa,List.drop_of_length_le (by simp;omega)]at hy
  obtain rfl:=List.mem_singleton.mp hy
  have hm:=List.mem_of_mem_drop hx
  rw[←List.drop_zero (l:=b.toList),←List.take_of_length_le (l:=b.toList.drop 0) (i:=b.size) al]at hm
  obtain⟨t,t1,t2,rfl⟩:=QeY hm
  rw[Nat.zero_add]
  rw[show ia=a.size-1 by omega]
  exact o.tr (sb.at o (show t<=b.size-1 by omega) aa) (o.asym q)).swap
end pure
end TSrt
namespace TSrt
open PySem PySem.W PyProof.Rows
noncomputable def Qja:Array Keyed->Array Keyed->StateT SortSt Sem (Array Keyed):=sortPriv%PySem.Builtin.mergeLo
structure Bd {α:Type}(β:Type)(m:StateT SortSt Sem α) where
 x:StateT SortSt Sem β
 f:β->StateT SortSt Sem α
 h:m=x>>=f
structure It {α:Type}(m:StateT SortSt Sem α) where
 p:Prop
 d:Decidable p
 t:StateT SortSt Sem α
 e:StateT SortSt Sem α
 h:m= @ite _ p d t e
structure Lp {β:Type}(m:StateT SortSt Sem β) where
 lo:Nat
 hi:Nat
 c:β
 f:Nat->β->StateT SortSt Sem (ForInStep β)
 h:m=forIn [lo:hi] c f
section
noncomputable abbrev U0:=Array Keyed×Nat×Nat×Nat
noncomputable abbrev U1:=Array Keyed×Nat×Nat×Nat×Nat
noncomputable abbrev U2:=Array Keyed×Nat×Nat×Nat×Nat×Nat
noncomputable abbrev T0:=Option (Array Keyed)×U0
noncomputable abbrev T1:=Option (Array Keyed)×U1
noncomputable abbrev T2:=Option (Array Keyed)×U2
variable (a b:Array Keyed)
noncomputable def lo1:Bd Unit (Qja a b):=⟨_,_,rfl⟩
noncomputable def lo2:Bd Keyed ((lo1 a b).f ()):=⟨_,_,rfl⟩
noncomputable def lo3 (v:Keyed):It ((lo2 a b).f v):=⟨_,_,_,_,rfl⟩
noncomputable def lo4 (v:Keyed):It (lo3 a b v).e:=⟨_,_,_,_,rfl⟩
noncomputable def lo5 (v:Keyed):Bd SortSt (lo4 a b v).e:=⟨_,_,rfl⟩
noncomputable def lo6 (v:Keyed)(st:SortSt):Bd T0 ((lo5 a b v).f st):=⟨_,_,rfl⟩
noncomputable def lo7 (v:Keyed)(st:SortSt):Lp (lo6 a b v st).x:=⟨_,_,_,_,rfl⟩
noncomputable def loO:{f:Nat->T0->StateT SortSt Sem (ForInStep T0)//∀v st,(lo7 a b v st).f=f}:=⟨_,fun _ _=>rfl⟩
section
variable (j:Nat)(t:T0)
noncomputable def oA:Bd T1 ((loO a b).1 j t):=⟨_,_,rfl⟩
noncomputable def oB:Lp (oA a b j t).x:=⟨_,_,_,_,rfl⟩
noncomputable def oC (d:U1):Bd Unit ((oA a b j t).f (none,d)):=⟨_,_,rfl⟩
noncomputable def oD (d:U1):Bd T2 ((oC a b j t d).f ()):=⟨_,_,rfl⟩
noncomputable def oE (d:U1):Lp (oD a b j t d).x:=⟨_,_,_,_,rfl⟩
noncomputable def oF (d:U1)(e:U2):Bd Unit ((oD a b j t d).f (none,e)):=⟨_,_,rfl⟩
end
noncomputable def loB1 (t:T0):{f:Nat->T1->StateT SortSt Sem (ForInStep T1)//∀j,(oB a b j t).f=f}:=⟨_,fun _=>rfl⟩
noncomputable def loB2:{f:Nat->T2->StateT SortSt Sem (ForInStep T2)//∀j t d,(oE a b j t d).f=f}:=⟨_,fun _ _ _=>rfl⟩
section
variable (t0:T0)(i:Nat)(t:T1)
noncomputable def c1:Bd Keyed ((loB1 a b t0).1 i t):=⟨_,_,rfl⟩
noncomputable def c2 (x:Keyed):Bd Keyed ((c1 a b t0 i t).f x):=⟨_,_,rfl⟩
noncomputable def c3 (x y:Keyed):Bd (Option Bool) ((c2 a b t0 i t x).f y):=⟨_,_,rfl⟩
noncomputable def c4 (x y:Keyed)(w:Bool):It ((c3 a b t0 i t x y).f (some w)):=⟨_,_,_,_,rfl⟩
noncomputable def c5 (x y:Keyed)(w:Bool):Bd Keyed (c4 a b t0 i t x y w).t:=⟨_,_,rfl⟩
noncomputable def c6 (x y:Keyed)(w:Bool)(z:Keyed):It ((c5 a b t0 i t x y w).f z):=⟨_,_,_,_,rfl⟩
noncomputable def c7 (x y:Keyed)(w:Bool)(z:Keyed):It (c6 a b t0 i t x y w z).e:=⟨_,_,_,_,rfl⟩
noncomputable def c8 (x y:Keyed)(w:Bool):Bd Keyed (c4 a b t0 i t x y w).e:=⟨_,_,rfl⟩
noncomputable def c9 (x y:Keyed)(w:Bool)(z:Keyed):It ((c8 a b t0 i t x y w).f z):=⟨_,_,_,_,rfl⟩
noncomputable def c10 (x y:Keyed)(w:Bool)(z:Keyed):It (c9 a b t0 i t x y w z).e:=⟨_,_,_,_,rfl⟩
end
section
variable (i:Nat)(r:Option (Array Keyed))(out:Array Keyed)(ia ib ac bc mg:Nat)
noncomputable def g0:It ((loB2 a b).1 i (r,out,ia,ib,mg,ac,bc)):=⟨_,_,_,_,rfl⟩
noncomputable def gK:{K:Nat->StateT SortSt Sem (ForInStep T2)//∀mg,(g0 a b i r out ia ib ac bc mg).e=K mg}:=⟨_,fun _=>rfl⟩
theorem gK_t:(g0 a b i r out ia ib ac bc mg).t=(gK a b i r out ia ib ac bc).1 (mg-1):=rfl
noncomputable def g1:Bd Unit ((gK a b i r out ia ib ac bc).1 mg):=⟨_,_,rfl⟩
noncomputable def g2:Bd Keyed ((g1 a b i r out ia ib ac bc mg).f ()):=⟨_,_,rfl⟩
noncomputable def g3 (x:Keyed):Bd aw ((g2 a b i r out ia ib ac bc mg).f x):=⟨_,_,rfl⟩
noncomputable def g4 (x:Keyed)(k:Nat):It ((g3 a b i r out ia ib ac bc mg x).f (some k)):=⟨_,_,_,_,rfl⟩
noncomputable def g5 (x:Keyed)(k:Nat):It (g4 a b i r out ia ib ac bc mg x k).t:=⟨_,_,_,_,rfl⟩
noncomputable def g6 (x:Keyed)(k:Nat):It (g5 a b i r out ia ib ac bc mg x k).e:=⟨_,_,_,_,rfl⟩
end
section
variable (i:Nat)(r:Option (Array Keyed))(ib ac bc mg:Nat)(x:Keyed)(k:Nat)
noncomputable def J1:{K:Array Keyed->Nat->StateT SortSt Sem (ForInStep T2)//∀out ia,(g4 a b i r out ia ib ac bc mg x k).e=K out ia}:=⟨_,fun _ _=>rfl⟩
theorem J1_t (out:Array Keyed)(ia:Nat):(g6 a b i r out ia ib ac bc mg x k).e=(J1 a b i r ib ac bc mg x k).1 (out++a.extract ia (ia+k)) (ia+k):=rfl
noncomputable def h1 (out:Array Keyed)(ia:Nat):Bd Keyed ((J1 a b i r ib ac bc mg x k).1 out ia):=⟨_,_,rfl⟩
noncomputable def h2 (out:Array Keyed)(ia:Nat)(y:Keyed):It ((h1 a b i r ib ac bc mg x k out ia).f y):=⟨_,_,_,_,rfl⟩
noncomputable def K3 (ia:Nat):{K:Array Keyed->Nat->StateT SortSt Sem (ForInStep T2)//∀out y,(h2 a b i r ib ac bc mg x k out ia y).e=K (out.push y) (ib+1)}:=by
 refine⟨?K,?_⟩
 rotate_left
 .intro out y
  dsimp only[h2]
  generalize out.push y=o
  generalize ib+1=j
  rfl
section
variable (ia:Nat)(o:Array Keyed)(j:Nat)
noncomputable def k2:Bd Keyed ((K3 a b i r ib ac bc mg x k ia).1 o j):=⟨_,_,rfl⟩
noncomputable def k3 (z:Keyed):Bd aw ((k2 a b i r ib ac bc mg x k ia o j).f z):=⟨_,_,rfl⟩
noncomputable def k4 (z:Keyed)(l:Nat):It ((k3 a b i r ib ac bc mg x k ia o j z).f (some l)):=⟨_,_,_,_,rfl⟩
noncomputable def k5 (z:Keyed)(l:Nat):It (k4 a b i r ib ac bc mg x k ia o j z l).t:=⟨_,_,_,_,rfl⟩
end
noncomputable def K2 (ia:Nat)(z:Keyed)(l:Nat):{K:Array Keyed->Nat->StateT SortSt Sem (ForInStep T2)//∀o j,(k4 a b i r ib ac bc mg x k ia o j z l).e=K o j}:=⟨_,fun _ _=>rfl⟩
theorem K2_t (ia:Nat)(z:Keyed)(l:Nat)(o:Array Keyed)(j:Nat):(k5 a b i r ib ac bc mg x k ia o j z l).e=(K2 a b i r ib ac bc mg x k ia z l).1 (o++b.extract j (j+l)) (j+l):=rfl
noncomputable def q1 (ia:Nat)(z:Keyed)(l:Nat)(o:Array Keyed)(j:Nat):Bd Keyed ((K2 a b i r ib ac bc mg x k ia z l).1 o j):=⟨_,_,rfl⟩
noncomputable def q2 (ia:Nat)(z:Keyed)(l:Nat)(o:Array Keyed)(j:Nat)(w:Keyed):It ((q1 a b i r ib ac bc mg x k ia z l o j).f w):=⟨_,_,_,_,rfl⟩
noncomputable def q3 (ia:Nat)(z:Keyed)(l:Nat)(o:Array Keyed)(j:Nat)(w:Keyed):It (q2 a b i r ib ac bc mg x k ia z l o j w).e:=⟨_,_,_,_,rfl⟩
end
end
noncomputable def Qjb:Array Keyed->Array Keyed->StateT SortSt Sem (Array Keyed):=sortPriv%PySem.Builtin.mergeHi
structure Gs (st st':SortSt):Prop where
 kd:kindOf st'=kindOf st
 ar:arrOf st'=arrOf st
 pe:pendingOf st'=pendingOf st
 fd:failedOf st'=failedOf st
theorem Gs.rf (st:SortSt):Gs st st:=⟨rfl,rfl,rfl,rfl⟩
theorem Up.of {c:Keyed->Keyed->Bool}{xs:Array Keyed}(o:Sw c)(h:Asc c xs.toList){lo hi:Nat}(hz:hi<=xs.size):Up c xs lo hi:=fun i j _ h2 h3=>h.at o h2 aa
section
variable {M:Model}{A:Around}{E:Value->Shared->Prop}{κ:SortKind}{a0:Array Keyed}{c0 c:Keyed->Keyed->Bool}{ix:Keyed->Nat}{G:Shared->Prop}
theorem galR (H:Cmp M A κ a0 c0 G)(oo:Od c0 c ix){arr:Array Keyed}{key:Keyed}{base n hint:Nat}{st:SortSt}{s:Shared}{Q:Option Nat->SortSt->Shared->Prop}(hx:∀i,i<n->ix (ats arr (base+i))<ix key)(up:Up c arr base (base+n))(mem:∀x∈arr.toList,x∈a0.toList)(hk:key∈a0.toList)(hz:base+n<=arr.size)(hh:hint<n)(kd:kindOf st=κ)(g:G s)
  (q:∀k s',k<=n->(∀i,i<k->c key (ats arr (base+i))=false)->(k<n->c key (ats arr (base+k))=true)->G s'->Q (some k) st s'):kasC M A E (Qgs false key arr base n hint) Q st s:=by
 have o:=oo.o
 refine Qhv (G:=G) (B:=fun i=> !(c key (ats arr (base+i)))) (fun i hi s g=>?_) (fun i j hij hj e=>?_) hh g fun k s' ed g'=>q k s' ed.le (fun i hi=>?_) (fun hk=>?_) g'
 .unfold Qlc
  refine kasC_bind (QaY aa ?_)
  rw[if_neg al]
  refine kasC_bind (Qm1 H oo (hx i hi) kd hk (mem _ (Qy aa)) g fun s' g'=>?_)
  exact kasC_pure ⟨rfl,rfl,g'⟩
 .simp only[Bool.not_eq_true']at e⊢
  exact o.tr (up _ _ aa aa aa) e
 .simpa using ed.lo i hi
 .simpa using ed.hi hk
theorem galL (H:Cmp M A κ a0 c0 G)(oo:Od c0 c ix){arr:Array Keyed}{key:Keyed}{base n hint:Nat}{st:SortSt}{s:Shared}{Q:Option Nat->SortSt->Shared->Prop}(hx:∀i,i<n->ix key<ix (ats arr (base+i)))(up:Up c arr base (base+n))(mem:∀x∈arr.toList,x∈a0.toList)(hk:key∈a0.toList)(hz:base+n<=arr.size)(hh:hint<n)(kd:kindOf st=κ)(g:G s)
  (q:∀k s',k<=n->(∀i,i<k->c (ats arr (base+i)) key=true)->(k<n->c (ats arr (base+k)) key=false)->G s'->Q (some k) st s'):kasC M A E (Qgs true key arr base n hint) Q st s:=by
 have o:=oo.o
 refine Qhv (G:=G) (B:=fun i=>c (ats arr (base+i)) key) (fun i hi s g=>?_) (fun i j hij hj e=>?_) hh g fun k s' ed g'=>q k s' ed.le ed.lo ed.hi g'
 .unfold Qlc
  refine kasC_bind (QaY aa ?_)
  rw[if_pos rfl]
  exact Qm1 H oo (hx i hi) kd (mem _ (Qy aa)) hk g fun s' g'=>⟨rfl,rfl,g'⟩
 .cases z:c (ats arr (base+i)) key with
  |true=>rfl
  |false=>
   have z2:=up (base+i) (base+j) aa aa aa
   exact absurd e (by rw[o.tr z z2];simp)
theorem Bd.go {α β:Type}{m:StateT SortSt Sem α}(d:Bd β m){Q:α->SortSt->Shared->Prop}{st:SortSt}{s:Shared}(h:kasC M A E d.x (fun v st' s'=>kasC M A E (d.f v) Q st' s') st s):kasC M A E m Q st s:=by
 rw[d.h];exact kasC_bind h
theorem It.go {α:Type}{m:StateT SortSt Sem α}(d:It m){Q:α->SortSt->Shared->Prop}{st:SortSt}{s:Shared}(h1:d.p->kasC M A E d.t Q st s)(h2:¬d.p->kasC M A E d.e Q st s):kasC M A E m Q st s:=by
 rw[d.h];split
 .rename_i z;exact h1 z
 .rename_i z;exact h2 z
theorem Lp.go {β:Type}{m:StateT SortSt Sem β}(d:Lp m){Q:β->SortSt->Shared->Prop}{st:SortSt}{s:Shared}(I:Nat->β->SortSt->Shared->Prop)
  (step:∀i c st s,i<d.hi->I i c st s->kasC M A E (d.f i c) (fun r st' s'=>match r with| .done c'=>Q c' st' s'| .yield c'=>I (i+1) c' st' s') st s)
  (fin:∀c st s,I (max d.lo d.hi) c st s->Q c st s) (h:I d.lo d.c st s):kasC M A E m Q st s:=by
 rw[d.h];exact QbO I (fun i c st s _ h2 h3=>step i c st s h2 h3) fin h
structure LC (M:Model)(A:Around)(κ:SortKind)(a0:Array Keyed)(c0 c:Keyed->Keyed->Bool)(ix:Keyed->Nat)(G:Shared->Prop)(a b:Array Keyed):Prop where
 H:Cmp M A κ a0 c0 G
 oo:Od c0 c ix
 sa:Asc c a.toList
 sb:Asc c b.toList
 ma:∀x∈a.toList,x∈a0.toList
 mb:∀x∈b.toList,x∈a0.toList
 hx:∀x∈a.toList,∀y∈b.toList,ix x<ix y
 ha:0<a.size
 hb:0<b.size
 f1:c (ats b 0) (ats a 0)=true
 f2:c (ats b (b.size-1)) (ats a (a.size-1))=true
structure LI (c:Keyed->Keyed->Bool)(a b:Array Keyed)(k:Nat)(o:Array Keyed)(ia ib:Nat):Prop where
 ml:ML c a b o ia ib
 ha:ia+1<a.size
 hb:ib<b.size
 sz:k<=o.size
theorem LI.a1 {a b o:Array Keyed}{k ia ib:Nat}(x:LI c a b k o ia ib):ia<a.size:=Nat.lt_of_succ_lt x.ha
theorem LI.eq {a b o:Array Keyed}{k ia ib:Nat}(x:LI c a b k o ia ib):o.size=ia+ib:=x.ml.size (Nat.le_of_lt x.a1) (Nat.le_of_lt x.hb)
section
variable {a b:Array Keyed}{st:SortSt}{s:Shared}
theorem Qb6 {m n:Nat}(h:(m==n)=true):m=n:=by simpa using h
theorem Qb7 {m n:Nat}(h:¬(m==n)=true):m≠n:=by simpa using h
theorem QtI (L:LC M A κ a0 c0 c ix G a b){t0:T0}{i k:Nat}{t:T1}{Q:ForInStep T1->SortSt->Shared->Prop}(I:LI c a b k t.2.1 t.2.2.1 t.2.2.2.1)(kd:kindOf st=κ)(g:G s)
  (hm:∀r u s',Merged c a b r->G s'->Q (.done (some r,u)) st s') (hd:∀u s',LI c a b (k+1) u.1 u.2.1 u.2.2.1->G s'->Q (.done (none,u)) st s') (hy:∀u s',LI c a b (k+1) u.1 u.2.1 u.2.2.1->G s'->Q (.yield (none,u)) st s'):
  kasC M A E ((loB1 a b t0).1 i t) Q st s:=by
 have o:=L.oo.o
 refine(c1 a b t0 i t).go (QaY (xs:=b) (i:=t.2.2.2.1) I.hb ?_)
 refine(c2 a b t0 i t _).go (QaY (xs:=a) (i:=t.2.2.1) I.a1 ?_)
 refine(c3 a b t0 i t _ _).go (Qm1 L.H L.oo (L.hx _ (Qy I.a1) _ (Qy I.hb)) kd (L.mb _ (Qy I.hb)) (L.ma _ (Qy I.a1)) g fun s3 g3=>?_)
 refine(c4 a b t0 i t _ _ _).go (fun w=>?_) (fun w=>?_)
 .refine(c5 a b t0 i t _ _ _).go (QaY (xs:=b) (i:=t.2.2.2.1) I.hb ?_)
  have ml':=(I.ml.swap.push o L.sb L.sa I.hb I.a1 (o.asym w)).swap
  have sz:=ml'.size (Nat.le_of_lt I.a1) I.hb
  have hs:k+1<=(t.2.1.push (ats b t.2.2.2.1)).size:=by rw[Array.size_push];exact Nat.succ_le_succ I.sz
  refine(c6 a b t0 i t _ _ _ _).go (fun z=>kasC_pure (hm _ _ _ (ml'.fin_b L.sa L.sb (Qb6 z)) g3)) (fun z=>?_)
  have z':t.2.2.2.1+1<b.size:=Nat.lt_of_le_of_ne I.hb (Qb7 z)
  exact(c7 a b t0 i t _ _ _ _).go (fun _=>kasC_pure (hd _ _ ⟨ml',I.ha,z',hs⟩ g3)) (fun _=>kasC_pure (hy _ _ ⟨ml',I.ha,z',hs⟩ g3))
 .refine(c8 a b t0 i t _ _ _).go (QaY (xs:=a) (i:=t.2.2.1) I.a1 ?_)
  have w':c (ats b t.2.2.2.1) (ats a t.2.2.1)=false:=Bool.eq_false_iff.mpr w
  have ml':=I.ml.push o L.sa L.sb I.a1 I.hb w'
  have hs:k+1<=(t.2.1.push (ats a t.2.2.1)).size:=by rw[Array.size_push];exact Nat.succ_le_succ I.sz
  refine(c9 a b t0 i t _ _ _ _).go (fun z=>kasC_pure (hm _ _ _ (ml'.fin_l o L.sa L.sb (Qb6 z) L.hb L.f2) g3)) (fun z=>?_)
  have z':t.2.2.1+1+1<a.size:=Nat.lt_of_le_of_ne I.ha (Qb7 z)
  exact(c10 a b t0 i t _ _ _ _).go (fun _=>kasC_pure (hd _ _ ⟨ml',z',I.hb,hs⟩ g3)) (fun _=>kasC_pure (hy _ _ ⟨ml',z',I.hb,hs⟩ g3))
theorem LI.le {o:Array Keyed}{k k' ia ib:Nat}(x:LI c a b k o ia ib)(h:k'<=k):LI c a b k' o ia ib:=⟨x.ml,x.ha,x.hb,Nat.le_trans h x.sz⟩
theorem QrB (L:LC M A κ a0 c0 c ix G a b){i ib ac bc mg kk ia l k j:Nat}{r:Option (Array Keyed)}{x z:Keyed}{o:Array Keyed}{Q:ForInStep T2->SortSt->Shared->Prop}(I:LI c a b k o ia j)(w:c (ats b j) (ats a ia)=false)(g:G s)
  (hm:∀r u s',Merged c a b r->G s'->Q (.done (some r,u)) st s') (hd:∀u s',LI c a b (k+1) u.1 u.2.1 u.2.2.1->G s'->Q (.done (none,u)) st s') (hy:∀u s',LI c a b (k+1) u.1 u.2.1 u.2.2.1->G s'->Q (.yield (none,u)) st s'):
  kasC M A E ((K2 a b i r ib ac bc mg x kk ia z l).1 o j) Q st s:=by
 have oc:=L.oo.o
 refine(q1 a b i r ib ac bc mg x kk ia z l o j).go (QaY (xs:=a) (i:=ia) I.a1 ?_)
 have ml:=I.ml.push oc L.sa L.sb I.a1 I.hb w
 have hs:k+1<=(o.push (ats a ia)).size:=by rw[Array.size_push];exact Nat.succ_le_succ I.sz
 refine(q2 a b i r ib ac bc mg x kk ia z l o j _).go (fun z=>kasC_pure (hm _ _ _ (ml.fin_l oc L.sa L.sb (Qb6 z) L.hb L.f2) g)) (fun z=>?_)
 have z':ia+1+1<a.size:=Nat.lt_of_le_of_ne I.ha (Qb7 z)
 exact(q3 a b i r ib ac bc mg x kk ia _ l o j _).go (fun _=>kasC_pure (hd _ _ ⟨ml,z',I.hb,hs⟩ g)) (fun _=>kasC_pure (hy _ _ ⟨ml,z',I.hb,hs⟩ g))
theorem QtJ (L:LC M A κ a0 c0 c ix G a b){i ib ac bc mg kk ia k j:Nat}{r:Option (Array Keyed)}{x:Keyed}{o:Array Keyed}{Q:ForInStep T2->SortSt->Shared->Prop}(I:LI c a b k o ia j)(kd:kindOf st=κ)(g:G s)
  (hm:∀r u s',Merged c a b r->G s'->Q (.done (some r,u)) st s') (hd:∀u s',LI c a b (k+1) u.1 u.2.1 u.2.2.1->G s'->Q (.done (none,u)) st s') (hy:∀u s',LI c a b (k+1) u.1 u.2.1 u.2.2.1->G s'->Q (.yield (none,u)) st s'):
  kasC M A E ((K3 a b i r ib ac bc mg x kk ia).1 o j) Q st s:=by
 have oc:=L.oo.o
 have hb:=I.hb
 have hn:j+(b.size-j)=b.size:=by omega
 refine(k2 a b i r ib ac bc mg x kk ia o j).go (QaY (xs:=a) (i:=ia) I.a1 ?_)
 refine(k3 a b i r ib ac bc mg x kk ia o j _).go (galL (arr:=b) (key:=ats a ia) (base:=j) (n:=b.size-j) (hint:=0) L.H L.oo (fun i hi=>L.hx _ (Qy I.a1) _ (Qy aa)) (Up.of oc L.sb (Nat.le_of_eq hn)) L.mb (L.ma _ (Qy I.a1)) (Nat.le_of_eq hn) (Nat.sub_pos_of_lt hb) kd g fun l s5 l1 l2 l3 g5=>?_)
 refine(k4 a b i r ib ac bc mg x kk ia o j _ l).go (fun lz=>?_) (fun lz=>?_)
 .have ml3:=(I.ml.swap.add (k:=l) oc L.sb L.sa I.a1 fun t t1 t2=>oc.asym (l2 t t1)).swap
  have sz3:=ml3.size (Nat.le_of_lt I.a1) (show j+l<=b.size by omega)
  have sz:=I.eq
  have hk:=I.sz
  refine(k5 a b i r ib ac bc mg x kk ia o j _ l).go (fun z=>kasC_pure (hm _ _ _ (ml3.fin_b L.sa L.sb (Qb6 z)) g5)) (fun z=>?_)
  have z':j+l<b.size:=Nat.lt_of_le_of_ne aa (Qb7 z)
  rw[K2_t]
  exact QrB L ⟨ml3,I.ha,z',by omega⟩ (l3 aa) g5 hm hd hy
 .have l0:l=0:=Nat.eq_zero_of_not_pos lz
  subst l0
  rw[(K2 a b i r ib ac bc mg x kk ia (ats a ia) 0).2 o j]
  exact QrB L I (l3 (Nat.sub_pos_of_lt hb)) g5 hm hd hy
theorem QrC (L:LC M A κ a0 c0 c ix G a b){i ib ac bc mg kk ia k:Nat}{r:Option (Array Keyed)}{x:Keyed}{o:Array Keyed}{Q:ForInStep T2->SortSt->Shared->Prop}(I:LI c a b k o ia ib)(w:c (ats a ia) (ats b ib)=false)(kd:kindOf st=κ)(g:G s)
  (hm:∀r u s',Merged c a b r->G s'->Q (.done (some r,u)) st s') (hd:∀u s',LI c a b (k+1) u.1 u.2.1 u.2.2.1->G s'->Q (.done (none,u)) st s') (hy:∀u s',LI c a b (k+1) u.1 u.2.1 u.2.2.1->G s'->Q (.yield (none,u)) st s'):
  kasC M A E ((J1 a b i r ib ac bc mg x kk).1 o ia) Q st s:=by
 have oc:=L.oo.o
 refine(h1 a b i r ib ac bc mg x kk o ia).go (QaY (xs:=b) (i:=ib) I.hb ?_)
 have ml2:=(I.ml.swap.push oc L.sb L.sa I.hb I.a1 w).swap
 have hs:k<=(o.push (ats b ib)).size:=by rw[Array.size_push];exact Nat.le_succ_of_le I.sz
 refine(h2 a b i r ib ac bc mg x kk o ia _).go (fun z=>kasC_pure (hm _ _ _ (ml2.fin_b L.sa L.sb (Qb6 z)) g)) (fun z=>?_)
 have z':ib+1<b.size:=Nat.lt_of_le_of_ne I.hb (Qb7 z)
 rw[(K3 a b i r ib ac bc mg x kk ia).2]
 exact QtJ L ⟨ml2,I.ha,z',hs⟩ kd g hm hd hy
theorem QrD (L:LC M A κ a0 c0 c ix G a b){i ib ac bc mg ia k:Nat}{r:Option (Array Keyed)}{o:Array Keyed}{Q:ForInStep T2->SortSt->Shared->Prop}(I:LI c a b k o ia ib)(kd:kindOf st=κ)(g:G s)
  (hm:∀r u st' s',Merged c a b r->Gs st st'->G s'->Q (.done (some r,u)) st' s') (hd:∀u st' s',LI c a b (k+1) u.1 u.2.1 u.2.2.1->Gs st st'->G s'->Q (.done (none,u)) st' s') (hy:∀u st' s',LI c a b (k+1) u.1 u.2.1 u.2.2.1->Gs st st'->G s'->Q (.yield (none,u)) st' s'):
  kasC M A E ((gK a b i r o ia ib ac bc).1 mg) Q st s:=by
 have oc:=L.oo.o
 have ha:=I.a1
 have hn:ia+(a.size-ia)=a.size:=by omega
 refine(g1 a b i r o ia ib ac bc mg).go (kasC_modify ?_)
 refine(g2 a b i r o ia ib ac bc mg).go (QaY (xs:=b) (i:=ib) I.hb ?_)
 refine(g3 a b i r o ia ib ac bc mg _).go (galR (arr:=a) (key:=ats b ib) (base:=ia) (n:=a.size-ia) (hint:=0) L.H L.oo (fun i hi=>L.hx _ (Qy aa) _ (Qy I.hb)) (Up.of oc L.sa (Nat.le_of_eq hn)) L.ma (L.mb _ (Qy I.hb)) (Nat.le_of_eq hn) (Nat.sub_pos_of_lt ha) kd g fun n s4 v1 v2 v3 gg=>?_)
 refine(g4 a b i r o ia ib ac bc mg _ n).go (fun kz=>?_) (fun kz=>?_)
 .have mlx:=I.ml.add (k:=n) oc L.sa L.sb I.hb fun t t1 t2=>v2 t t1
  have szx:=mlx.size (show ia+n<=a.size by omega) (Nat.le_of_lt I.hb)
  have sz:=I.eq
  have hk:=I.sz
  refine(g5 a b i r o ia ib ac bc mg _ n).go (fun z=>kasC_pure (hm _ _ _ _ (mlx.fin_l oc L.sa L.sb (Qb6 z) L.hb L.f2) ⟨rfl,rfl,rfl,rfl⟩ gg)) (fun z=>?_)
  refine(g6 a b i r o ia ib ac bc mg _ n).go (fun z1=>kasC_pure (hm _ _ _ _ (mlx.fin_a L.sa L.sb (Qb6 z1)) ⟨rfl,rfl,rfl,rfl⟩ gg)) (fun z1=>?_)
  have zz:ia+n+1≠a.size:=Qb7 z
  have zz1:ia+n≠a.size:=Qb7 z1
  have vx:ia+n+1<a.size:=by omega
  rw[J1_t]
  exact QrC L ⟨mlx,vx,I.hb,by omega⟩ (oc.asym (v3 aa)) kd gg (fun r u s' a b=>hm r u _ s' a ⟨rfl,rfl,rfl,rfl⟩ b) (fun u s' a b=>hd u _ s' a ⟨rfl,rfl,rfl,rfl⟩ b) (fun u s' a b=>hy u _ s' a ⟨rfl,rfl,rfl,rfl⟩ b)
 .have k0:n=0:=Nat.eq_zero_of_not_pos kz
  subst k0
  rw[(J1 a b i r ib ac bc mg (ats b ib) 0).2 o ia]
  exact QrC L I (oc.asym (v3 (Nat.sub_pos_of_lt ha))) kd gg (fun r u s' a b=>hm r u _ s' a ⟨rfl,rfl,rfl,rfl⟩ b) (fun u s' a b=>hd u _ s' a ⟨rfl,rfl,rfl,rfl⟩ b) (fun u s' a b=>hy u _ s' a ⟨rfl,rfl,rfl,rfl⟩ b)
theorem QtK (L:LC M A κ a0 c0 c ix G a b){i k:Nat}{t:T2}{Q:ForInStep T2->SortSt->Shared->Prop}(I:LI c a b k t.2.1 t.2.2.1 t.2.2.2.1)(kd:kindOf st=κ)(g:G s)
  (hm:∀r u st' s',Merged c a b r->Gs st st'->G s'->Q (.done (some r,u)) st' s') (hd:∀u st' s',LI c a b (k+1) u.1 u.2.1 u.2.2.1->Gs st st'->G s'->Q (.done (none,u)) st' s') (hy:∀u st' s',LI c a b (k+1) u.1 u.2.1 u.2.2.1->Gs st st'->G s'->Q (.yield (none,u)) st' s'):
  kasC M A E ((loB2 a b).1 i t) Q st s:=by
 obtain⟨r,o,ia,ib,mg,ac,bc⟩:=t
 refine(g0 a b i r o ia ib ac bc mg).go (fun _=>?_) (fun _=>?_)
 .rw[gK_t];exact QrD L I kd g hm hd hy
 .rw[(gK a b i r o ia ib ac bc).2 mg];exact QrD L I kd g hm hd hy
theorem Gs.tr {st st1 st2:SortSt}(x:Gs st st1)(y:Gs st1 st2):Gs st st2:=⟨y.kd.trans x.kd,y.ar.trans x.ar,y.pe.trans x.pe,y.fd.trans x.fd⟩
theorem lo_O (L:LC M A κ a0 c0 c ix G a b){j k:Nat}{t:T0}{Q:ForInStep T0->SortSt->Shared->Prop}(I:LI c a b k t.2.1 t.2.2.1 t.2.2.2.1)(kd:kindOf st=κ)(g:G s)
  (hm:∀r u st' s',Merged c a b r->Gs st st'->G s'->Q (.done (some r,u)) st' s') (hy:∀u st' s',LI c a b (k+1) u.1 u.2.1 u.2.2.1->Gs st st'->G s'->Q (.yield (none,u)) st' s'):
  kasC M A E ((loO a b).1 j t) Q st s:=by
 refine(oA a b j t).go (Qp (Q:=fun d st' s'=>st'=st/\((∃r u,d=(some r,u)/\Merged c a b r/\G s')\/∃u,d=(none,u)/\LI c a b (k+1) u.1 u.2.1 u.2.2.1/\G s')) ((oB a b j t).go (fun i d st' s'=>st'=st/\∃u,d=(none,u)/\LI c a b (k+i) u.1 u.2.1 u.2.2.1/\G s') ?_ ?_ ?_) ?_)
 .rintro i _ st1 s1 _ ⟨e0,u,rfl,I1,g1⟩
  have e1:=e0.symm
  subst e1
  exact QtI (i:=i) (t0:=t) (t:=(none,u)) L I1 kd g1 (fun r u s' x y=>⟨rfl, .inl ⟨r,u,rfl,x,y⟩⟩) (fun u s' x y=>⟨rfl, .inr ⟨u,rfl,x.le (Nat.succ_le_succ (Nat.le_add_right _ _)),y⟩⟩) (fun u s' x y=>⟨rfl,u,rfl,x,y⟩)
 .rintro _ st1 s1 ⟨e0,u,rfl,I1,g1⟩
  exfalso
  have sz:=I1.eq
  have h1:=I1.sz
  have h2:=I1.a1
  have h3:=I1.hb
  have h4:(oB a b j t).hi=a.size+b.size:=rfl
  rw[h4]at h1
  omega
 .exact⟨rfl,_,rfl,I.le am,g⟩
 .rintro _ st1 s1 ⟨e0,⟨r,u,rfl,x,y⟩|⟨u,rfl,I1,g1⟩⟩<;>(have e1:=e0.symm;subst e1)
  .exact kasC_pure (hm _ _ _ _ x (Gs.rf _) y)
  .refine(oC a b j t u).go (kasC_lift (wpAny_rule ?_))
   refine(oD a b j t u).go (Qp (Q:=fun d st' s'=>Gs st st'/\((∃r u,d=(some r,u)/\Merged c a b r/\G s')\/∃u,d=(none,u)/\LI c a b (k+1) u.1 u.2.1 u.2.2.1/\G s')) ((oE a b j t u).go (fun i d st' s'=>Gs st st'/\∃u,d=(none,u)/\LI c a b (k+1+i) u.1 u.2.1 u.2.2.1/\G s') ?_ ?_ ?_) ?_)
   .rintro i _ st2 s2 _ ⟨gs,e,rfl,I2,g2⟩
    exact QtK (i:=i) (t:=(none,e)) L I2 (gs.kd.trans kd) g2 (fun r u st' s' x q y=>⟨gs.tr q, .inl ⟨r,u,rfl,x,y⟩⟩) (fun u st' s' x q y=>⟨gs.tr q, .inr ⟨u,rfl,x.le (Nat.le_trans (Nat.le_add_right _ i) (Nat.le_succ _)),y⟩⟩) (fun u st' s' x q y=>⟨gs.tr q,u,rfl,x,y⟩)
   .rintro _ st2 s2 ⟨gs,e,rfl,I2,g2⟩
    exfalso
    have sz:=I2.eq
    have h1:=I2.sz
    have h2:=I2.a1
    have h3:=I2.hb
    have h4:(oE a b j t u).hi=a.size+b.size:=rfl
    rw[h4]at h1
    omega
   .exact⟨Gs.rf _,_,rfl,I1,g1⟩
   .rintro _ st2 s2 ⟨gs,⟨r,e,rfl,x,y⟩|⟨e,rfl,I2,g2⟩⟩
    .exact kasC_pure (hm _ _ _ _ x gs y)
    .exact(oF a b j t u e).go (kasC_modify (kasC_pure (hy _ _ _ I2 ⟨gs.kd,gs.ar,gs.pe,gs.fd⟩ g2)))
end
theorem QtL (H:Cmp M A κ a0 c0 G)(oo:Od c0 c ix){a b:Array Keyed}{st:SortSt}{s:Shared}{Q:Array Keyed->SortSt->Shared->Prop}(sa:Asc c a.toList)(sb:Asc c b.toList)(ma:∀x∈a.toList,x∈a0.toList)(mb:∀x∈b.toList,x∈a0.toList)
  (hx:∀x∈a.toList,∀y∈b.toList,ix x<ix y) (ha:0<a.size) (hb:0<b.size) (f1:c (ats b 0) (ats a 0)=true) (f2:c (ats b (b.size-1)) (ats a (a.size-1))=true) (kd:kindOf st=κ) (g:G s)
  (q:∀r st' s',Merged c a b r->Gs st st'->G s'->Q r st' s'):kasC M A E (Qja a b) Q st s:=by
 have L:LC M A κ a0 c0 c ix G a b:=⟨H,oo,sa,sb,ma,mb,hx,ha,hb,f1,f2⟩
 have o:=oo.o
 refine(lo1 a b).go (kasC_lift (wpAny_rule ?_))
 refine(lo2 a b).go (QaY (xs:=b) (i:=0) hb ?_)
 have ml0:ML c a b #[ats b 0] 0 1:=(ML.push (out:= #[]) (a:=b) (b:=a) (ia:=0) (ib:=0) o sb sa ⟨List.Pairwise.nil,List.Perm.refl _,fun x hx=>by simp at hx,fun x hx=>by simp at hx⟩ hb ha (o.asym f1)).swap
 refine(lo3 a b _).go (fun e1=>kasC_pure (q _ st s (ml0.fin_b sa sb (Qb6 e1)) (Gs.rf _) g)) (fun e1=>?_)
 refine(lo4 a b _).go (fun e2=>kasC_pure (q _ st s (ml0.fin_l o sa sb (Qb6 e2) hb f2) (Gs.rf _) g)) (fun e2=>?_)
 have e1':1<b.size:=Nat.lt_of_le_of_ne hb (Qb7 e1)
 have e2':0+1<a.size:=Nat.lt_of_le_of_ne ha (Qb7 e2)
 refine(lo5 a b _).go (kasC_get ?_)
 refine(lo6 a b _ st).go (Qp (Q:=fun d st' s'=>∃r u,d=(some r,u)/\Merged c a b r/\Gs st st'/\G s')
  ((lo7 a b _ st).go (fun j d st' s'=>∃u,d=(none,u)/\LI c a b (1+j) u.1 u.2.1 u.2.2.1/\Gs st st'/\G s') ?_ ?_ ?_) ?_)
 .rintro j _ st1 s1 _ ⟨u,rfl,I1,gs,g1⟩
  exact lo_O (j:=j) (t:=(none,u)) L I1 (gs.kd.trans kd) g1 (fun r u st' s' x q y=>⟨r,u,rfl,x,gs.tr q,y⟩) (fun u st' s' x q y=>⟨u,rfl,x,gs.tr q,y⟩)
 .rintro _ st1 s1 ⟨u,rfl,I1,gs,g1⟩
  exfalso
  have sz:=I1.eq
  have h1:=I1.sz
  have h2:=I1.a1
  have h3:=I1.hb
  have h4:(lo7 a b (ats b 0) st).hi=a.size+b.size:=rfl
  rw[h4]at h1
  omega
 .exact⟨_,rfl,⟨ml0,e2',e1',Nat.le_refl 1⟩,Gs.rf _,g⟩
 .rintro _ st1 s1 ⟨r,u,rfl,z1,z2,z3⟩
  exact kasC_pure (q _ _ _ z1 z2 z3)
end
end TSrt
namespace TSrt
open PySem PySem.W PyProof.Rows
section pure
variable {c:Keyed->Keyed->Bool}
structure MH (c:Keyed->Keyed->Bool)(a b:Array Keyed)(out:Array Keyed)(na nb:Nat):Prop where
 so:out.toList.Pairwise fun x y=>c x y=false
 pm:out.toList.Perm (a.toList.drop na++b.toList.drop nb)
 oa:∀x∈out.toList,∀y∈a.toList.take na,c x y=false
 ob:∀x∈out.toList,∀y∈b.toList.take nb,c x y=false
theorem MH.swap {a b out:Array Keyed}{ia ib:Nat}(h:MH c a b out ia ib):MH c b a out ib ia:=⟨h.so,h.pm.trans List.perm_append_comm,h.ob,h.oa⟩
theorem MH.size {a b out:Array Keyed}{ia ib:Nat}(h:MH c a b out ia ib)(ha:ia<=a.size)(hb:ib<=b.size):out.size=a.size-ia+(b.size-ib):=by
 have:=h.pm.length_eq
 simp only[List.length_append,List.length_drop,Array.length_toList]at this
 omega
theorem QeZ {xs:Array Keyed}{k:Nat}{y:Keyed}(h:y∈xs.toList.take k):∃t,t<k/\t<xs.size/\y=ats xs t:=by
 have:y∈(xs.toList.drop 0).take k:=h
 obtain⟨t,t1,t2,e⟩:=QeY this
 rw[Nat.zero_add]at t2 e
 exact⟨t,t1,t2,e⟩
theorem MH.add {a b out:Array Keyed}{na nb at_:Nat}(o:Sw c)(sa:Asc c a.toList)(sb:Asc c b.toList)(h:MH c a b out na nb)(hat:at_<=na)(hna:na<=a.size)(hb:0<nb)(hnb:nb<=b.size)(q:∀t,at_<=t->t<na->c (ats a t) (ats b (nb-1))=false):
  MH c a b (out++(a.extract at_ na).reverse) at_ nb:=by
 have e:(out++(a.extract at_ na).reverse).toList=out.toList++((a.toList.drop at_).take (na-at_)).reverse:=by
  rw[Array.toList_append,Array.toList_reverse,Array.toList_extract,List.extract_eq_drop_take]
 have hd:a.toList.take na=a.toList.take at_++(a.toList.drop at_).take (na-at_):=by
  conv=>lhs;rw[show na=at_+(na-at_)by omega,List.take_add]
 have hd2:a.toList.drop at_=(a.toList.drop at_).take (na-at_)++a.toList.drop na:=by
  conv=>lhs;rw[←List.take_append_drop (na-at_) (a.toList.drop at_)]
  rw[List.drop_drop,show at_+(na-at_)=na by omega]
 have sd:=(sa.split na).1
 rw[hd]at sd
 obtain⟨-,s1,s2⟩:=List.pairwise_append.mp sd
 have hin:∀y,y∈(a.toList.drop at_).take (na-at_)->y∈a.toList.take na:=fun y hy=>by rw[hd];exact List.mem_append_right _ hy
 constructor
 .rw[e]
  refine List.pairwise_append.mpr ⟨h.so,?_,fun x hx y hy=>h.oa x hx y (hin y (List.mem_reverse.mp hy))⟩
  rw[List.pairwise_reverse];exact s1
 .rw[e]
  have key:∀(u x y z:List Keyed),z.Perm (x++y)->(z++u.reverse).Perm (u++x++y):=fun u x y z p=>by
   refine((p.append (List.reverse_perm u))).trans ?_
   rw[List.append_assoc u]
   exact List.perm_append_comm
  have p:=key ((a.toList.drop at_).take (na-at_)) _ _ _ h.pm
  rw[←hd2]at p
  exact p
 .rw[e]
  intro x hx y hy
  rcases List.mem_append.mp hx with hx|hx
  .exact h.oa x hx y (by rw[hd];exact List.mem_append_left _ hy)
  .exact s2 y hy x (List.mem_reverse.mp hx)
 .rw[e]
  intro x hx y hy
  rcases List.mem_append.mp hx with hx|hx
  .exact h.ob x hx y hy
  .obtain⟨t,t1,t2,rfl⟩:=QeY (List.mem_reverse.mp hx)
   obtain⟨u,u1,u2,rfl⟩:=QeZ hy
   exact o.tr (sb.at o (show u<=nb-1 by omega) aa) (q (at_+t) aa aa)
theorem MH.push {a b out:Array Keyed}{na nb:Nat}(o:Sw c)(sa:Asc c a.toList)(sb:Asc c b.toList)(h:MH c a b out na nb)(h0:0<na)(hna:na<=a.size)(hb:0<nb)(hnb:nb<=b.size)(q:c (ats a (na-1)) (ats b (nb-1))=false):
  MH c a b (out.push (ats a (na-1))) (na-1) nb:=by
 have:=h.add (at_:=na-1) o sa sb aa hna hb hnb fun t t1 t2=>by
  obtain rfl:t=na-1:=by omega
  exact q
 have e:out++(a.extract (na-1) na).reverse=out.push (ats a (na-1)):=by
  apply Array.toList_inj.mp
  rw[Array.toList_append,Array.toList_reverse,Array.toList_extract,List.extract_eq_drop_take,Array.toList_push,QeX aa]
  rw[show na-(na-1)=1 by omega];rfl
 rwa [e]at this
theorem MH.fin {a b out:Array Keyed}{na nb:Nat}(sa:Asc c a.toList)(sb:Asc c b.toList)(h:MH c a b out na nb)(q:∀x∈a.toList.take na,∀y∈b.toList.take nb,c y x=false):Merged c a b (a.extract 0 na++b.extract 0 nb++out.reverse):=by
 have e:(a.extract 0 na++b.extract 0 nb++out.reverse).toList=a.toList.take na++b.toList.take nb++out.toList.reverse:=by
  rw[Array.toList_append,Array.toList_append,Array.toList_reverse,Array.toList_extract,Array.toList_extract,List.extract_eq_drop_take,List.extract_eq_drop_take];rfl
 refine⟨?_,?_⟩
 .rw[e]
  refine((sa.split na).1.app (sb.split nb).1 q).app (by unfold Asc;rw[List.pairwise_reverse];exact h.so) fun x hx y hy=>?_
  have hy:=List.mem_reverse.mp hy
  rcases List.mem_append.mp hx with hx|hx
  .exact h.oa y hy x hx
  .exact h.ob y hy x hx
 .rw[e]
  refine(List.Perm.append_left _ ((List.reverse_perm _).trans h.pm)).trans ?_
  conv=>rhs;rw[←List.take_append_drop na a.toList,←List.take_append_drop nb b.toList]
  rw[List.append_assoc,List.append_assoc]
  refine List.Perm.append_left _ ?_
  rw[←List.append_assoc,←List.append_assoc]
  exact List.perm_append_comm.append_right _
theorem MH.fin_a {a b out:Array Keyed}{na nb:Nat}(sa:Asc c a.toList)(sb:Asc c b.toList)(h:MH c a b out na nb)(e:na=0):Merged c a b (a.extract 0 na++b.extract 0 nb++out.reverse):=h.fin sa sb fun x hx=>by
 rw[e]at hx;simp at hx
theorem MH.fin_b {a b out:Array Keyed}{na nb:Nat}(sa:Asc c a.toList)(sb:Asc c b.toList)(h:MH c a b out na nb)(e:nb=0):Merged c a b (a.extract 0 na++b.extract 0 nb++out.reverse):=h.fin sa sb fun x _ y hy=>by
 rw[e]at hy;simp at hy
theorem MH.fin_l {a b out:Array Keyed}{na nb:Nat}(o:Sw c)(sa:Asc c a.toList)(sb:Asc c b.toList)(h:MH c a b out na nb)(e:nb=1)(ha:0<a.size)(hb:0<b.size)(q:c (ats b 0) (ats a 0)=true):Merged c a b (b.extract 0 nb++a.extract 0 na++out.reverse):=
 (h.swap.fin sb sa fun x hx y hy=>by
  obtain⟨t,t1,t2,rfl⟩:=QeZ hx
  obtain⟨u,u1,u2,rfl⟩:=QeZ hy
  obtain rfl:t=0:=by omega
  exact o.tr (o.asym q) (sa.at o (Nat.zero_le u) u2)).swap
end pure
noncomputable abbrev V0:=Nat×Nat×Array Keyed×Nat
noncomputable abbrev V1:=Nat×Nat×Array Keyed×Nat×Nat
noncomputable abbrev V2:=Nat×Nat×Array Keyed×Nat×Nat×Nat
noncomputable abbrev W0:=Option (Array Keyed)×V0
noncomputable abbrev W1:=Option (Array Keyed)×V1
noncomputable abbrev W2:=Option (Array Keyed)×V2
section
variable (a b:Array Keyed)
noncomputable def hi1:Bd Unit (Qjb a b):=⟨_,_,rfl⟩
noncomputable def hi2:Bd Keyed ((hi1 a b).f ()):=⟨_,_,rfl⟩
noncomputable def hi3 (v:Keyed):It ((hi2 a b).f v):=⟨_,_,_,_,rfl⟩
noncomputable def hi4 (v:Keyed):It (hi3 a b v).e:=⟨_,_,_,_,rfl⟩
noncomputable def hi5 (v:Keyed):Bd SortSt (hi4 a b v).e:=⟨_,_,rfl⟩
noncomputable def hi6 (v:Keyed)(st:SortSt):Bd W0 ((hi5 a b v).f st):=⟨_,_,rfl⟩
noncomputable def hi7 (v:Keyed)(st:SortSt):Lp (hi6 a b v st).x:=⟨_,_,_,_,rfl⟩
noncomputable def hiO:{f:Nat->W0->StateT SortSt Sem (ForInStep W0)//∀v st,(hi7 a b v st).f=f}:=⟨_,fun _ _=>rfl⟩
section
variable (j:Nat)(t:W0)
noncomputable def pA:Bd W1 ((hiO a b).1 j t):=⟨_,_,rfl⟩
noncomputable def pB:Lp (pA a b j t).x:=⟨_,_,_,_,rfl⟩
noncomputable def pC (d:V1):Bd Unit ((pA a b j t).f (none,d)):=⟨_,_,rfl⟩
noncomputable def pD (d:V1):Bd W2 ((pC a b j t d).f ()):=⟨_,_,rfl⟩
noncomputable def pE (d:V1):Lp (pD a b j t d).x:=⟨_,_,_,_,rfl⟩
noncomputable def pF (d:V1)(e:V2):Bd Unit ((pD a b j t d).f (none,e)):=⟨_,_,rfl⟩
end
noncomputable def hiB1 (t:W0):{f:Nat->W1->StateT SortSt Sem (ForInStep W1)//∀j,(pB a b j t).f=f}:=⟨_,fun _=>rfl⟩
noncomputable def hiB2:{f:Nat->W2->StateT SortSt Sem (ForInStep W2)//∀j t d,(pE a b j t d).f=f}:=⟨_,fun _ _ _=>rfl⟩
section
variable (t0:W0)(i:Nat)(t:W1)
noncomputable def d1:Bd Keyed ((hiB1 a b t0).1 i t):=⟨_,_,rfl⟩
noncomputable def d2 (x:Keyed):Bd Keyed ((d1 a b t0 i t).f x):=⟨_,_,rfl⟩
noncomputable def d3 (x y:Keyed):Bd (Option Bool) ((d2 a b t0 i t x).f y):=⟨_,_,rfl⟩
noncomputable def d4 (x y:Keyed)(w:Bool):It ((d3 a b t0 i t x y).f (some w)):=⟨_,_,_,_,rfl⟩
noncomputable def d5 (x y:Keyed)(w:Bool):Bd Keyed (d4 a b t0 i t x y w).t:=⟨_,_,rfl⟩
noncomputable def d6 (x y:Keyed)(w:Bool)(z:Keyed):It ((d5 a b t0 i t x y w).f z):=⟨_,_,_,_,rfl⟩
noncomputable def d7 (x y:Keyed)(w:Bool)(z:Keyed):It (d6 a b t0 i t x y w z).e:=⟨_,_,_,_,rfl⟩
noncomputable def d8 (x y:Keyed)(w:Bool):Bd Keyed (d4 a b t0 i t x y w).e:=⟨_,_,rfl⟩
noncomputable def d9 (x y:Keyed)(w:Bool)(z:Keyed):It ((d8 a b t0 i t x y w).f z):=⟨_,_,_,_,rfl⟩
noncomputable def d10 (x y:Keyed)(w:Bool)(z:Keyed):It (d9 a b t0 i t x y w z).e:=⟨_,_,_,_,rfl⟩
end
section
variable (i:Nat)(r:Option (Array Keyed))(na nb:Nat)(out:Array Keyed)(ac bc mg:Nat)
noncomputable def f0:It ((hiB2 a b).1 i (r,na,nb,out,mg,ac,bc)):=⟨_,_,_,_,rfl⟩
noncomputable def fK:{K:Nat->StateT SortSt Sem (ForInStep W2)//∀mg,(f0 a b i r na nb out ac bc mg).e=K mg}:=⟨_,fun _=>rfl⟩
theorem fK_t:(f0 a b i r na nb out ac bc mg).t=(fK a b i r na nb out ac bc).1 (mg-1):=rfl
noncomputable def f1:Bd Unit ((fK a b i r na nb out ac bc).1 mg):=⟨_,_,rfl⟩
noncomputable def f2:Bd Keyed ((f1 a b i r na nb out ac bc mg).f ()):=⟨_,_,rfl⟩
noncomputable def f3 (x:Keyed):Bd aw ((f2 a b i r na nb out ac bc mg).f x):=⟨_,_,rfl⟩
noncomputable def f4 (x:Keyed)(k:Nat):It ((f3 a b i r na nb out ac bc mg x).f (some k)):=⟨_,_,_,_,rfl⟩
noncomputable def f5 (x:Keyed)(k:Nat):It (f4 a b i r na nb out ac bc mg x k).t:=⟨_,_,_,_,rfl⟩
end
section
variable (i:Nat)(r:Option (Array Keyed))(nb ac bc mg:Nat)(x:Keyed)(k:Nat)
noncomputable def JA:{K:Nat->Nat->Array Keyed->StateT SortSt Sem (ForInStep W2)//∀na out,(f4 a b i r na nb out ac bc mg x k).e=K (na-k) na out}:=by
 refine⟨?K,?_⟩
 rotate_left
 .intro na out
  dsimp only[f4]
  generalize na-k=q
  rfl
theorem JA_t (na:Nat)(out:Array Keyed):(f5 a b i r na nb out ac bc mg x k).e=(JA a b i r nb ac bc mg x k).1 (na-k) k (out++(a.extract k na).reverse):=rfl
variable (q:Nat)
noncomputable def e1 (na:Nat)(out:Array Keyed):Bd Keyed ((JA a b i r nb ac bc mg x k).1 q na out):=⟨_,_,rfl⟩
noncomputable def e2 (na:Nat)(out:Array Keyed)(y:Keyed):It ((e1 a b i r nb ac bc mg x k q na out).f y):=⟨_,_,_,_,rfl⟩
noncomputable def KA (na:Nat):{K:Nat->Array Keyed->StateT SortSt Sem (ForInStep W2)//∀out y,(e2 a b i r nb ac bc mg x k q na out y).e=K (nb-1) (out.push y)}:=by
 refine⟨?K,?_⟩
 rotate_left
 .intro out y
  dsimp only[e2]
  generalize out.push y=o
  generalize nb-1=j
  rfl
section
variable (na:Nat)(j:Nat)(o:Array Keyed)
noncomputable def m2:Bd Keyed ((KA a b i r nb ac bc mg x k q na).1 j o):=⟨_,_,rfl⟩
noncomputable def m3 (z:Keyed):Bd aw ((m2 a b i r nb ac bc mg x k q na j o).f z):=⟨_,_,rfl⟩
noncomputable def m4 (z:Keyed)(l:Nat):It ((m3 a b i r nb ac bc mg x k q na j o z).f (some l)):=⟨_,_,_,_,rfl⟩
noncomputable def m5 (z:Keyed)(l:Nat):It (m4 a b i r nb ac bc mg x k q na j o z l).t:=⟨_,_,_,_,rfl⟩
noncomputable def m6 (z:Keyed)(l:Nat):It (m5 a b i r nb ac bc mg x k q na j o z l).e:=⟨_,_,_,_,rfl⟩
end
noncomputable def KB (na:Nat)(z:Keyed)(l:Nat):{K:Nat->Nat->Array Keyed->StateT SortSt Sem (ForInStep W2)//∀j o,(m4 a b i r nb ac bc mg x k q na j o z l).e=K (j-l) j o}:=by
 refine⟨?K,?_⟩
 rotate_left
 .intro j o
  dsimp only[m4]
  generalize j-l=v
  rfl
theorem KB_t (na:Nat)(z:Keyed)(l:Nat)(j:Nat)(o:Array Keyed):(m6 a b i r nb ac bc mg x k q na j o z l).e=(KB a b i r nb ac bc mg x k q na z l).1 (j-l) l (o++(b.extract l j).reverse):=rfl
variable (v:Nat)
noncomputable def n1 (na:Nat)(z:Keyed)(l:Nat)(j:Nat)(o:Array Keyed):Bd Keyed ((KB a b i r nb ac bc mg x k q na z l).1 v j o):=⟨_,_,rfl⟩
noncomputable def n2 (na:Nat)(z:Keyed)(l:Nat)(j:Nat)(o:Array Keyed)(w:Keyed):It ((n1 a b i r nb ac bc mg x k q v na z l j o).f w):=⟨_,_,_,_,rfl⟩
noncomputable def n3 (na:Nat)(z:Keyed)(l:Nat)(j:Nat)(o:Array Keyed)(w:Keyed):It (n2 a b i r nb ac bc mg x k q v na z l j o w).e:=⟨_,_,_,_,rfl⟩
end
end
section
variable {M:Model}{A:Around}{E:Value->Shared->Prop}{κ:SortKind}{a0:Array Keyed}{c0 c:Keyed->Keyed->Bool}{ix:Keyed->Nat}{G:Shared->Prop}{a b:Array Keyed}{st:SortSt}{s:Shared}
structure HI (c:Keyed->Keyed->Bool)(a b:Array Keyed)(k na nb:Nat)(o:Array Keyed):Prop where
 ml:MH c a b o na nb
 h0:0<na
 ha:na<=a.size
 h1:1<nb
 hb:nb<=b.size
 sz:k<=o.size
theorem HI.ai {k na nb:Nat}{o:Array Keyed}(x:HI c a b k na nb o):na-1<a.size:=Nat.lt_of_lt_of_le (Nat.sub_lt x.h0 Nat.one_pos) x.ha
theorem HI.b0 {k na nb:Nat}{o:Array Keyed}(x:HI c a b k na nb o):0<nb:=Nat.lt_of_succ_lt x.h1
theorem HI.bi {k na nb:Nat}{o:Array Keyed}(x:HI c a b k na nb o):nb-1<b.size:=Nat.lt_of_lt_of_le (Nat.sub_lt x.b0 Nat.one_pos) x.hb
theorem HI.eq {k na nb:Nat}{o:Array Keyed}(x:HI c a b k na nb o):o.size=a.size-na+(b.size-nb):=x.ml.size x.ha x.hb
theorem HI.le {k k' na nb:Nat}{o:Array Keyed}(x:HI c a b k na nb o)(h:k'<=k):HI c a b k' na nb o:=⟨x.ml,x.h0,x.ha,x.h1,x.hb,Nat.le_trans h x.sz⟩
theorem QtM (L:LC M A κ a0 c0 c ix G a b){t0:W0}{i k:Nat}{t:W1}{Q:ForInStep W1->SortSt->Shared->Prop}(I:HI c a b k t.2.1 t.2.2.1 t.2.2.2.1)(kd:kindOf st=κ)(g:G s)
  (hm:∀r u s',Merged c a b r->G s'->Q (.done (some r,u)) st s') (hd:∀u s',HI c a b (k+1) u.1 u.2.1 u.2.2.1->G s'->Q (.done (none,u)) st s') (hy:∀u s',HI c a b (k+1) u.1 u.2.1 u.2.2.1->G s'->Q (.yield (none,u)) st s'):
  kasC M A E ((hiB1 a b t0).1 i t) Q st s:=by
 have o:=L.oo.o
 refine(d1 a b t0 i t).go (QaY (xs:=b) (i:=t.2.2.1-1) I.bi ?_)
 refine(d2 a b t0 i t _).go (QaY (xs:=a) (i:=t.2.1-1) I.ai ?_)
 refine(d3 a b t0 i t _ _).go (Qm1 L.H L.oo (L.hx _ (Qy I.ai) _ (Qy I.bi)) kd (L.mb _ (Qy I.bi)) (L.ma _ (Qy I.ai)) g fun s3 g3=>?_)
 refine(d4 a b t0 i t _ _ _).go (fun w=>?_) (fun w=>?_)
 .refine(d5 a b t0 i t _ _ _).go (QaY (xs:=a) (i:=t.2.1-1) I.ai ?_)
  have ml':=I.ml.push o L.sa L.sb I.h0 I.ha I.b0 I.hb (o.asym w)
  have hs:k+1<=(t.2.2.2.1.push (ats a (t.2.1-1))).size:=by rw[Array.size_push];exact Nat.succ_le_succ I.sz
  refine(d6 a b t0 i t _ _ _ _).go (fun z=>kasC_pure (hm _ _ _ (ml'.fin_a L.sa L.sb (Qb6 z)) g3)) (fun z=>?_)
  have z':0<t.2.1-1:=Nat.pos_of_ne_zero (Qb7 z)
  exact(d7 a b t0 i t _ _ _ _).go (fun _=>kasC_pure (hd _ _ ⟨ml',z',Nat.le_of_lt I.ai,I.h1,I.hb,hs⟩ g3)) (fun _=>kasC_pure (hy _ _ ⟨ml',z',Nat.le_of_lt I.ai,I.h1,I.hb,hs⟩ g3))
 .refine(d8 a b t0 i t _ _ _).go (QaY (xs:=b) (i:=t.2.2.1-1) I.bi ?_)
  have w':c (ats b (t.2.2.1-1)) (ats a (t.2.1-1))=false:=Bool.eq_false_iff.mpr w
  have ml':=(I.ml.swap.push o L.sb L.sa I.b0 I.hb I.h0 I.ha w').swap
  have hs:k+1<=(t.2.2.2.1.push (ats b (t.2.2.1-1))).size:=by rw[Array.size_push];exact Nat.succ_le_succ I.sz
  refine(d9 a b t0 i t _ _ _ _).go (fun z=>kasC_pure (hm _ _ _ (ml'.fin_l o L.sa L.sb (Qb6 z) L.ha L.hb L.f1) g3)) (fun z=>?_)
  have z':1<t.2.2.1-1:=by
   have h:=I.h1
   have h2:t.2.2.1-1≠1:=Qb7 z
   omega
  exact(d10 a b t0 i t _ _ _ _).go (fun _=>kasC_pure (hd _ _ ⟨ml',I.h0,I.ha,z',Nat.le_of_lt I.bi,hs⟩ g3)) (fun _=>kasC_pure (hy _ _ ⟨ml',I.h0,I.ha,z',Nat.le_of_lt I.bi,hs⟩ g3))
theorem QrE (L:LC M A κ a0 c0 c ix G a b){i nb ac bc mg kk q v na l k j:Nat}{r:Option (Array Keyed)}{x z:Keyed}{o:Array Keyed}{Q:ForInStep W2->SortSt->Shared->Prop}(I:HI c a b k na j o)(w:c (ats a (na-1)) (ats b (j-1))=false)(g:G s)
  (hm:∀r u s',Merged c a b r->G s'->Q (.done (some r,u)) st s') (hd:∀u s',HI c a b (k+1) u.1 u.2.1 u.2.2.1->G s'->Q (.done (none,u)) st s') (hy:∀u s',HI c a b (k+1) u.1 u.2.1 u.2.2.1->G s'->Q (.yield (none,u)) st s'):
  kasC M A E ((KB a b i r nb ac bc mg x kk q na z l).1 v j o) Q st s:=by
 have oc:=L.oo.o
 refine(n1 a b i r nb ac bc mg x kk q v na z l j o).go (QaY (xs:=a) (i:=na-1) I.ai ?_)
 have ml:=I.ml.push oc L.sa L.sb I.h0 I.ha I.b0 I.hb w
 have hs:k+1<=(o.push (ats a (na-1))).size:=by rw[Array.size_push];exact Nat.succ_le_succ I.sz
 refine(n2 a b i r nb ac bc mg x kk q v na z l j o _).go (fun z=>kasC_pure (hm _ _ _ (ml.fin_a L.sa L.sb (Qb6 z)) g)) (fun z=>?_)
 have z':0<na-1:=Nat.pos_of_ne_zero (Qb7 z)
 exact(n3 a b i r nb ac bc mg x kk q v na _ l j o _).go (fun _=>kasC_pure (hd _ _ ⟨ml,z',Nat.le_of_lt I.ai,I.h1,I.hb,hs⟩ g)) (fun _=>kasC_pure (hy _ _ ⟨ml,z',Nat.le_of_lt I.ai,I.h1,I.hb,hs⟩ g))
theorem QtN (L:LC M A κ a0 c0 c ix G a b){i nb ac bc mg kk q na k j:Nat}{r:Option (Array Keyed)}{x:Keyed}{o:Array Keyed}{Q:ForInStep W2->SortSt->Shared->Prop}(I:HI c a b k na j o)(kd:kindOf st=κ)(g:G s)
  (hm:∀r u s',Merged c a b r->G s'->Q (.done (some r,u)) st s') (hd:∀u s',HI c a b (k+1) u.1 u.2.1 u.2.2.1->G s'->Q (.done (none,u)) st s') (hy:∀u s',HI c a b (k+1) u.1 u.2.1 u.2.2.1->G s'->Q (.yield (none,u)) st s'):
  kasC M A E ((KA a b i r nb ac bc mg x kk q na).1 j o) Q st s:=by
 have oc:=L.oo.o
 have hb:=I.hb
 have hj:=I.b0
 refine(m2 a b i r nb ac bc mg x kk q na j o).go (QaY (xs:=a) (i:=na-1) I.ai ?_)
 refine(m3 a b i r nb ac bc mg x kk q na j o _).go (galL (arr:=b) (key:=ats a (na-1)) (base:=0) (n:=j) (hint:=j-1) L.H L.oo (fun i hi=>L.hx _ (Qy I.ai) _ (Qy (by rw[Nat.zero_add];exact Nat.lt_of_lt_of_le hi hb))) (Up.of oc L.sb (by rw[Nat.zero_add];exact hb)) L.mb (L.ma _ (Qy I.ai)) (by rw[Nat.zero_add];exact hb) (Nat.sub_lt hj Nat.one_pos) kd g fun l s5 l1 l2 l3 g5=>?_)
 simp only[Nat.zero_add]at l2 l3
 refine(m4 a b i r nb ac bc mg x kk q na j o _ l).go (fun lz=>?_) (fun lz=>?_)
 .have lj:l<j:=Nat.lt_of_sub_pos lz
  have l3':=l3 lj
  have ml3:=(I.ml.swap.add (at_:=l) oc L.sb L.sa l1 hb I.h0 I.ha fun t t1 t2=>oc.tr l3' (L.sb.at oc t1 (Nat.lt_of_lt_of_le t2 hb))).swap
  have sz3:=ml3.size I.ha (Nat.le_trans l1 hb)
  have sz:=I.eq
  have hk:=I.sz
  refine(m5 a b i r nb ac bc mg x kk q na j o _ l).go (fun z=>kasC_pure (hm _ _ _ (ml3.fin_l oc L.sa L.sb (Qb6 z) L.ha L.hb L.f1) g5)) (fun z=>?_)
  refine(m6 a b i r nb ac bc mg x kk q na j o _ l).go (fun z5=>kasC_pure (hm _ _ _ (ml3.fin_b L.sa L.sb (Qb6 z5)) g5)) (fun z5=>?_)
  have zz:l≠1:=Qb7 z
  have zz5:l≠0:=Qb7 z5
  have z3:1<l:=by omega
  rw[KB_t]
  exact QrE L ⟨ml3,I.h0,I.ha,z3,Nat.le_trans l1 hb,by omega⟩ (oc.asym (l2 (l-1) (Nat.sub_lt (Nat.lt_of_succ_lt z3) Nat.one_pos))) g5 hm hd hy
 .have l0:l=j:=Nat.le_antisymm l1 (Nat.le_of_sub_eq_zero (Nat.eq_zero_of_not_pos lz))
  subst l0
  rw[(KB a b i r nb ac bc mg x kk q na (ats a (na-1)) l).2 l o]
  exact QrE L I (oc.asym (l2 (l-1) (Nat.sub_lt hj Nat.one_pos))) g5 hm hd hy
theorem QrF (L:LC M A κ a0 c0 c ix G a b){i nb ac bc mg kk q na k:Nat}{r:Option (Array Keyed)}{x:Keyed}{o:Array Keyed}{Q:ForInStep W2->SortSt->Shared->Prop}(I:HI c a b k na nb o)(w:c (ats b (nb-1)) (ats a (na-1))=false)(kd:kindOf st=κ)(g:G s)
  (hm:∀r u s',Merged c a b r->G s'->Q (.done (some r,u)) st s') (hd:∀u s',HI c a b (k+1) u.1 u.2.1 u.2.2.1->G s'->Q (.done (none,u)) st s') (hy:∀u s',HI c a b (k+1) u.1 u.2.1 u.2.2.1->G s'->Q (.yield (none,u)) st s'):
  kasC M A E ((JA a b i r nb ac bc mg x kk).1 q na o) Q st s:=by
 have oc:=L.oo.o
 refine(e1 a b i r nb ac bc mg x kk q na o).go (QaY (xs:=b) (i:=nb-1) I.bi ?_)
 have ml2:=(I.ml.swap.push oc L.sb L.sa I.b0 I.hb I.h0 I.ha w).swap
 have hs:k<=(o.push (ats b (nb-1))).size:=by rw[Array.size_push];exact Nat.le_succ_of_le I.sz
 refine(e2 a b i r nb ac bc mg x kk q na o _).go (fun z=>kasC_pure (hm _ _ _ (ml2.fin_l oc L.sa L.sb (Qb6 z) L.ha L.hb L.f1) g)) (fun z=>?_)
 have z':1<nb-1:=by
  have h:=I.h1
  have h2:nb-1≠1:=Qb7 z
  omega
 rw[(KA a b i r nb ac bc mg x kk q na).2]
 exact QtN L ⟨ml2,I.h0,I.ha,z',Nat.le_of_lt I.bi,hs⟩ kd g hm hd hy
theorem QrG (L:LC M A κ a0 c0 c ix G a b){i nb ac bc mg na k:Nat}{r:Option (Array Keyed)}{o:Array Keyed}{Q:ForInStep W2->SortSt->Shared->Prop}(I:HI c a b k na nb o)(kd:kindOf st=κ)(g:G s)
  (hm:∀r u st' s',Merged c a b r->Gs st st'->G s'->Q (.done (some r,u)) st' s') (hd:∀u st' s',HI c a b (k+1) u.1 u.2.1 u.2.2.1->Gs st st'->G s'->Q (.done (none,u)) st' s') (hy:∀u st' s',HI c a b (k+1) u.1 u.2.1 u.2.2.1->Gs st st'->G s'->Q (.yield (none,u)) st' s'):
  kasC M A E ((fK a b i r na nb o ac bc).1 mg) Q st s:=by
 have oc:=L.oo.o
 have ha:=I.ha
 refine(f1 a b i r na nb o ac bc mg).go (kasC_modify ?_)
 refine(f2 a b i r na nb o ac bc mg).go (QaY (xs:=b) (i:=nb-1) I.bi ?_)
 refine(f3 a b i r na nb o ac bc mg _).go (galR (arr:=a) (key:=ats b (nb-1)) (base:=0) (n:=na) (hint:=na-1) L.H L.oo (fun i hi=>L.hx _ (Qy (by rw[Nat.zero_add];exact Nat.lt_of_lt_of_le hi ha)) _ (Qy I.bi)) (Up.of oc L.sa (by rw[Nat.zero_add];exact ha)) L.ma (L.mb _ (Qy I.bi)) (by rw[Nat.zero_add];exact ha) (Nat.sub_lt I.h0 Nat.one_pos) kd g fun n s4 v1 v2 v3 gg=>?_)
 simp only[Nat.zero_add]at v2 v3
 refine(f4 a b i r na nb o ac bc mg _ n).go (fun kz=>?_) (fun kz=>?_)
 .have nj:n<na:=Nat.lt_of_sub_pos kz
  have k3':=v3 nj
  have mlx:=I.ml.add (at_:=n) oc L.sa L.sb v1 ha I.b0 I.hb fun t t1 t2=>by
   refine oc.asym ?_
   cases w:c (ats b (nb-1)) (ats a t)with
   |true=>rfl
   |false=>exact absurd k3' (by rw[oc.tr (L.sa.at oc t1 (Nat.lt_of_lt_of_le t2 ha)) w];simp)
  have szx:=mlx.size (Nat.le_trans v1 ha) I.hb
  have sz:=I.eq
  have hk:=I.sz
  refine(f5 a b i r na nb o ac bc mg _ n).go (fun z=>kasC_pure (hm _ _ _ _ (mlx.fin_a L.sa L.sb (Qb6 z)) ⟨rfl,rfl,rfl,rfl⟩ gg)) (fun z=>?_)
  have vx:0<n:=Nat.pos_of_ne_zero (Qb7 z)
  rw[JA_t]
  exact QrF L ⟨mlx,vx,Nat.le_trans v1 ha,I.h1,I.hb,by omega⟩ (v2 (n-1) (Nat.sub_lt vx Nat.one_pos)) kd gg (fun r u s' a b=>hm r u _ s' a ⟨rfl,rfl,rfl,rfl⟩ b) (fun u s' a b=>hd u _ s' a ⟨rfl,rfl,rfl,rfl⟩ b) (fun u s' a b=>hy u _ s' a ⟨rfl,rfl,rfl,rfl⟩ b)
 .have k0:n=na:=Nat.le_antisymm v1 (Nat.le_of_sub_eq_zero (Nat.eq_zero_of_not_pos kz))
  subst k0
  rw[(JA a b i r nb ac bc mg (ats b (nb-1)) n).2 n o]
  exact QrF L I (v2 (n-1) (Nat.sub_lt I.h0 Nat.one_pos)) kd gg (fun r u s' a b=>hm r u _ s' a ⟨rfl,rfl,rfl,rfl⟩ b) (fun u s' a b=>hd u _ s' a ⟨rfl,rfl,rfl,rfl⟩ b) (fun u s' a b=>hy u _ s' a ⟨rfl,rfl,rfl,rfl⟩ b)
theorem QtO (L:LC M A κ a0 c0 c ix G a b){i k:Nat}{t:W2}{Q:ForInStep W2->SortSt->Shared->Prop}(I:HI c a b k t.2.1 t.2.2.1 t.2.2.2.1)(kd:kindOf st=κ)(g:G s)
  (hm:∀r u st' s',Merged c a b r->Gs st st'->G s'->Q (.done (some r,u)) st' s') (hd:∀u st' s',HI c a b (k+1) u.1 u.2.1 u.2.2.1->Gs st st'->G s'->Q (.done (none,u)) st' s') (hy:∀u st' s',HI c a b (k+1) u.1 u.2.1 u.2.2.1->Gs st st'->G s'->Q (.yield (none,u)) st' s'):
  kasC M A E ((hiB2 a b).1 i t) Q st s:=by
 obtain⟨r,na,nb,o,mg,ac,bc⟩:=t
 refine(f0 a b i r na nb o ac bc mg).go (fun _=>?_) (fun _=>?_)
 .rw[fK_t];exact QrG L I kd g hm hd hy
 .rw[(fK a b i r na nb o ac bc).2 mg];exact QrG L I kd g hm hd hy
theorem hi_O (L:LC M A κ a0 c0 c ix G a b){j k:Nat}{t:W0}{Q:ForInStep W0->SortSt->Shared->Prop}(I:HI c a b k t.2.1 t.2.2.1 t.2.2.2.1)(kd:kindOf st=κ)(g:G s)
  (hm:∀r u st' s',Merged c a b r->Gs st st'->G s'->Q (.done (some r,u)) st' s') (hy:∀u st' s',HI c a b (k+1) u.1 u.2.1 u.2.2.1->Gs st st'->G s'->Q (.yield (none,u)) st' s'):
  kasC M A E ((hiO a b).1 j t) Q st s:=by
 have no:∀{k na nb:Nat} {o:Array Keyed},HI c a b (k+(a.size+b.size)) na nb o->False:=fun x=>by
  have sz:=x.eq
  have h1:=x.sz
  have h2:=x.h0
  have h3:=x.b0
  have h4:=x.ha
  have h5:=x.hb
  omega
 refine(pA a b j t).go (Qp (Q:=fun d st' s'=>st'=st/\((∃r u,d=(some r,u)/\Merged c a b r/\G s')\/∃u,d=(none,u)/\HI c a b (k+1) u.1 u.2.1 u.2.2.1/\G s')) ((pB a b j t).go (fun i d st' s'=>st'=st/\∃u,d=(none,u)/\HI c a b (k+i) u.1 u.2.1 u.2.2.1/\G s') ?_ ?_ ?_) ?_)
 .rintro i _ st1 s1 _ ⟨e0,u,rfl,I1,g1⟩
  have e1:=e0.symm
  subst e1
  exact QtM (i:=i) (t0:=t) (t:=(none,u)) L I1 kd g1 (fun r u s' x y=>⟨rfl, .inl ⟨r,u,rfl,x,y⟩⟩) (fun u s' x y=>⟨rfl, .inr ⟨u,rfl,x.le (Nat.succ_le_succ (Nat.le_add_right _ _)),y⟩⟩) (fun u s' x y=>⟨rfl,u,rfl,x,y⟩)
 .rintro _ st1 s1 ⟨e0,u,rfl,I1,g1⟩
  have h4:max (pB a b j t).lo (pB a b j t).hi=a.size+b.size:=Nat.max_eq_right (Nat.zero_le _)
  rw[h4]at I1
  exact(no I1).elim
 .exact⟨rfl,_,rfl,I.le am,g⟩
 .rintro _ st1 s1 ⟨e0,⟨r,u,rfl,x,y⟩|⟨u,rfl,I1,g1⟩⟩<;>(have e1:=e0.symm;subst e1)
  .exact kasC_pure (hm _ _ _ _ x (Gs.rf _) y)
  .refine(pC a b j t u).go (kasC_lift (wpAny_rule ?_))
   refine(pD a b j t u).go (Qp (Q:=fun d st' s'=>Gs st st'/\((∃r u,d=(some r,u)/\Merged c a b r/\G s')\/∃u,d=(none,u)/\HI c a b (k+1) u.1 u.2.1 u.2.2.1/\G s')) ((pE a b j t u).go (fun i d st' s'=>Gs st st'/\∃u,d=(none,u)/\HI c a b (k+1+i) u.1 u.2.1 u.2.2.1/\G s') ?_ ?_ ?_) ?_)
   .rintro i _ st2 s2 _ ⟨gs,e,rfl,I2,g2⟩
    exact QtO (i:=i) (t:=(none,e)) L I2 (gs.kd.trans kd) g2 (fun r u st' s' x q y=>⟨gs.tr q, .inl ⟨r,u,rfl,x,y⟩⟩) (fun u st' s' x q y=>⟨gs.tr q, .inr ⟨u,rfl,x.le (Nat.le_trans (Nat.le_add_right _ i) (Nat.le_succ _)),y⟩⟩) (fun u st' s' x q y=>⟨gs.tr q,u,rfl,x,y⟩)
   .rintro _ st2 s2 ⟨gs,e,rfl,I2,g2⟩
    have h4:max (pE a b j t u).lo (pE a b j t u).hi=a.size+b.size:=Nat.max_eq_right (Nat.zero_le _)
    rw[h4]at I2
    exact(no I2).elim
   .exact⟨Gs.rf _,_,rfl,I1,g1⟩
   .rintro _ st2 s2 ⟨gs,⟨r,e,rfl,x,y⟩|⟨e,rfl,I2,g2⟩⟩
    .exact kasC_pure (hm _ _ _ _ x gs y)
    .exact(pF a b j t u e).go (kasC_modify (kasC_pure (hy _ _ _ I2 ⟨gs.kd,gs.ar,gs.pe,gs.fd⟩ g2)))
theorem QtP (H:Cmp M A κ a0 c0 G)(oo:Od c0 c ix){a b:Array Keyed}{st:SortSt}{s:Shared}{Q:Array Keyed->SortSt->Shared->Prop}(sa:Asc c a.toList)(sb:Asc c b.toList)(ma:∀x∈a.toList,x∈a0.toList)(mb:∀x∈b.toList,x∈a0.toList)
  (hx:∀x∈a.toList,∀y∈b.toList,ix x<ix y) (ha:0<a.size) (hb:0<b.size) (f1:c (ats b 0) (ats a 0)=true) (f2:c (ats b (b.size-1)) (ats a (a.size-1))=true) (kd:kindOf st=κ) (g:G s)
  (q:∀r st' s',Merged c a b r->Gs st st'->G s'->Q r st' s'):kasC M A E (Qjb a b) Q st s:=by
 have L:LC M A κ a0 c0 c ix G a b:=⟨H,oo,sa,sb,ma,mb,hx,ha,hb,f1,f2⟩
 have o:=oo.o
 refine(hi1 a b).go (kasC_lift (wpAny_rule ?_))
 refine(hi2 a b).go (QaY (xs:=a) (i:=a.size-1) (Nat.sub_lt ha Nat.one_pos) ?_)
 have ml0:MH c a b #[ats a (a.size-1)] (a.size-1) b.size:=MH.push (out:= #[]) (a:=a) (b:=b) (na:=a.size) (nb:=b.size) o sa sb ⟨List.Pairwise.nil,by simp,fun x hx=>by simp at hx,fun x hx=>by simp at hx⟩ ha am hb am (o.asym f2)
 refine(hi3 a b _).go (fun e1=>kasC_pure (q _ st s (ml0.fin_a sa sb (Qb6 e1)) (Gs.rf _) g)) (fun e1=>?_)
 refine(hi4 a b _).go (fun e2=>kasC_pure (q _ st s (ml0.fin_l o sa sb (Qb6 e2) ha hb f1) (Gs.rf _) g)) (fun e2=>?_)
 have e1':0<a.size-1:=Nat.pos_of_ne_zero (Qb7 e1)
 have e2':1<b.size:=Nat.lt_of_le_of_ne hb (Ne.symm (Qb7 e2))
 refine(hi5 a b _).go (kasC_get ?_)
 refine(hi6 a b _ st).go (Qp (Q:=fun d st' s'=>∃r u,d=(some r,u)/\Merged c a b r/\Gs st st'/\G s')
  ((hi7 a b _ st).go (fun j d st' s'=>∃u,d=(none,u)/\HI c a b (1+j) u.1 u.2.1 u.2.2.1/\Gs st st'/\G s') ?_ ?_ ?_) ?_)
 .rintro j _ st1 s1 _ ⟨u,rfl,I1,gs,g1⟩
  exact hi_O (j:=j) (t:=(none,u)) L I1 (gs.kd.trans kd) g1 (fun r u st' s' x q y=>⟨r,u,rfl,x,gs.tr q,y⟩) (fun u st' s' x q y=>⟨u,rfl,x,gs.tr q,y⟩)
 .rintro _ st1 s1 ⟨u,rfl,I1,gs,g1⟩
  exfalso
  have sz:=I1.eq
  have h1:=I1.sz
  have h2:=I1.ha
  have h3:=I1.hb
  have h5:=I1.h0
  have h6:=I1.b0
  have h4:(hi7 a b (ats a (a.size-1)) st).hi=a.size+b.size:=rfl
  rw[h4]at h1
  omega
 .exact⟨_,rfl,⟨ml0,e1',Nat.sub_le _ _,e2',Nat.le_refl _,Nat.le_refl 1⟩,Gs.rf _,g⟩
 .rintro _ st1 s1 ⟨r,u,rfl,z1,z2,z3⟩
  exact kasC_pure (q _ _ _ z1 z2 z3)
end
end TSrt
namespace TSrt
open PySem PySem.W PyProof.Rows
theorem Qph {xs:Array Keyed}{i j:Nat}{v:Keyed}(hi:i<xs.size):ats (xs.setIfInBounds i v) j=if j=i then v else ats xs j:=by
 unfold ats
 rw[Array.getElem?_setIfInBounds]
 by_cases e:i=j
 .subst e;rw[if_pos rfl,if_pos rfl,if_pos hi];rfl
 .rw[if_neg e,if_neg (fun z=>e z.symm)]
theorem Qle (p:Nat):∀(r:List Keyed) (xs:Array Keyed) (m:Nat),p+m+r.length<=xs.size->
  ((r.zipIdx m).foldl (fun a x=>a.setIfInBounds (p+x.2) x.1) xs).size=xs.size/\
  ∀j,ats ((r.zipIdx m).foldl (fun a x=>a.setIfInBounds (p+x.2) x.1) xs) j=if p+m<=j/\j<p+m+r.length then(r[j-(p+m)]?).getD (.none, .none)else ats xs j
 | [],xs,m,h=>⟨rfl,fun j=>by rw[if_neg (by rw[List.length_nil];omega)];rfl⟩
 |x::r,xs,m,h=>by
  rw[List.length_cons]at h
  rw[List.zipIdx_cons,List.foldl_cons]
  obtain⟨h1,h2⟩:=Qle p r (xs.setIfInBounds (p+m) x) (m+1) (by rw[Array.size_setIfInBounds];omega)
  refine⟨h1.trans (Array.size_setIfInBounds ..),fun j=>?_⟩
  rw[h2 j,Qph aa,List.length_cons]
  by_cases e:j=p+m
  .subst e
   rw[if_neg aa,if_pos rfl,if_pos aa,Nat.sub_self];rfl
  .by_cases e2:p+(m+1)<=j/\j<p+(m+1)+r.length
   .rw[if_pos e2,if_pos aa]
    obtain⟨t,ht⟩:∃t,j-(p+m)=t+1:=⟨j-(p+m)-1,by omega⟩
    rw[ht,show j-(p+(m+1))=t by omega,List.getElem?_cons_succ]
   .rw[if_neg e2,if_neg e,if_neg aa]
theorem Qpi {xs:Array Keyed}{l:List Keyed}(hl:l.length=xs.size)(h:∀j,j<xs.size->ats xs j=(l[j]?).getD (.none, .none)):xs.toList=l:=by
 apply List.ext_getElem (by simpa using hl.symm)
 intro j h1 h2
 have h1':j<xs.size:=by simpa using h1
 have:=h j h1'
 rw[QbD,List.getElem?_eq_getElem h1,List.getElem?_eq_getElem h2]at this
 exact this
theorem Qm3 {xs ys:Array Keyed}{r x:List Keyed}{p:Nat}(hz:ys.size=xs.size)(hp:p+r.length<=xs.size)(hy:∀j,ats ys j=if p<=j/\j<p+r.length then(r[j-p]?).getD (.none, .none)else ats xs j)(hr:r.Perm x)(hx:x=(xs.toList.drop p).take r.length):ys.Perm xs:=by
 have e:ys.toList=xs.toList.take p++(r++xs.toList.drop (p+r.length)):=by
  refine Qpi ?_ fun j hj=>?_
  .simp only[List.length_append,List.length_take,List.length_drop,Array.length_toList];omega
  .rw[hy j]
   have hl:(xs.toList.take p).length=p:=by simp;omega
   by_cases e1:j<p
   .rw[if_neg aa,List.getElem?_append_left aa,List.getElem?_take,if_pos e1,QbD]
   .rw[List.getElem?_append_right aa,hl]
    by_cases e2:j<p+r.length
    .rw[if_pos aa,List.getElem?_append_left aa]
    .rw[if_neg aa,List.getElem?_append_right aa,List.getElem?_drop,show p+r.length+(j-p-r.length)=j by omega,QbD]
 rw[Array.perm_iff_toList_perm,e]
 conv=>rhs;rw[←List.take_append_drop p xs.toList,←List.take_append_drop r.length (xs.toList.drop p),List.drop_drop]
 rw[←hx]
 exact List.Perm.append_left _ (hr.append_right _)
theorem QdY {xs:Array Keyed}{i j t:Nat}(h:i+t<j)(hj:j<=xs.size):ats (xs.extract i j) t=ats xs (i+t):=by
 refine QfQ ?_
 rw[Array.getElem?_extract,if_pos aa]
theorem Asc.ext {c:Keyed->Keyed->Bool}{xs:Array Keyed}{i j:Nat}(h:Up c xs i j)(hj:j<=xs.size):Asc c (xs.extract i j).toList:=by
 refine List.pairwise_iff_getElem.mpr fun t u ht hu htu=>?_
 have z:(xs.extract i j).size=j-i:=by rw[Array.size_extract];omega
 have hu':u<j-i:=by have:=hu;rw[Array.length_toList,z]at this;exact this
 have e1:(xs.extract i j).toList[t]=ats (xs.extract i j) t:=by rw[QbD,List.getElem?_eq_getElem ht];rfl
 have e2:(xs.extract i j).toList[u]=ats (xs.extract i j) u:=by rw[QbD,List.getElem?_eq_getElem hu];rfl
 rw[e1,e2,QdY aa hj,QdY aa hj]
 exact h _ _ aa aa aa
theorem QdZ {xs:Array Keyed}{i j:Nat}{y:Keyed}(h:y∈(xs.extract i j).toList):∃t,i<=t/\t<j/\t<xs.size/\y=ats xs t:=by
 rw[Array.toList_extract,List.extract_eq_drop_take]at h
 obtain⟨t,t1,t2,e⟩:=QeY h
 exact⟨i+t,by omega,by omega,t2,e⟩
section
variable {M:Model}{A:Around}{E:Value->Shared->Prop}{κ:SortKind}{a0:Array Keyed}{c0 c:Keyed->Keyed->Bool}{ix:Keyed->Nat}{G:Shared->Prop}
theorem QtQ (H:Cmp M A κ a0 c0 G)(oo:Od c0 c ix){i sa na pw sb nb pv:Nat}{st:SortSt}{s:Shared}{Q:Bool->SortSt->Shared->Prop}(b:SB κ a0 st)(p1:(pendingOf st)[i]?=some (sa,na,pw))(p2:(pendingOf st)[i+1]?=some (sb,nb,pv))
  (hs:sb=sa+na) (hz:sb+nb<=a0.size) (hna:0<na) (hnb:0<nb) (ua:Up c ax sa sb) (ub:Up c ax sb (sb+nb)) (la:Loc ix ax sa sb) (lb:Loc ix ax sb (sb+nb)) (g:G s)
  (q:∀st' s',SB κ a0 st'->pendingOf st'=((pendingOf st).setIfInBounds i (sa,na+nb,pw)).eraseIdxIfInBounds (i+1)->Up c aC sa (sb+nb)->Loc ix aC sa (sb+nb)->(∀j,j<sa\/sb+nb<=j->ats aC j=ats ax j)->G s'->Q true st' s'):kasC M A E (mergeAt' i) Q st s:=by
 have o:=oo.o
 have hsz:=b.sz
 have mem:∀x∈(arrOf st).toList,x∈a0.toList:=fun x hx=>(Array.perm_iff_toList_perm.mp b.pm).mem_iff.mp hx
 unfold mergeAt'
 refine kasC_bind (kasC_get ?_)
 have e:((pendingOf st)[i]?,(pendingOf st)[i+1]?)=(some (sa,na,pw),some (sb,nb,pv)):=by rw[p1,p2]
 split
 case h_2 x ne=>exact absurd e (ne _ _ _ _ _ _)
 rename_i sa' na' pw' sb' nb' pv' e'
 have e2:=e'.symm.trans e
 simp only[Prod.mk.injEq,Option.some.injEq]at e2
 obtain⟨⟨rfl,rfl,rfl⟩,rfl,rfl,rfl⟩:=e2
 refine kasC_bind (Qm0 ?_)
 refine kasC_bind (QaY (show sb'<(arrOf st).size by omega) ?_)
 subst hs
 refine kasC_bind (galR H oo (fun i hi=>by have z1:=la (sa'+i) aa aa;have z2:=lb (sa'+na') aa aa;exact Nat.lt_of_lt_of_le z1.2 z2.1) ua mem (mem _ (Qy (show sa'+na'<(arrOf st).size by omega))) (show sa'+na'<=(arrOf st).size by omega) hna b.kd g fun k s1 k1 k2 k3 g1=>?_)
 dsimp only
 have same:∀(mid:∀i j,sa'<=i->i<sa'+na'->sa'+na'<=j->j<sa'+na'+nb'->c (ats ax j) (ats ax i)=false),Up c ax sa' (sa'+na'+nb'):=fun mid i j z1 z2 z3=>by
  by_cases y1:j<sa'+na'
  .exact ua i j z1 z2 y1
  .by_cases y2:i<sa'+na'
   .exact mid i j z1 y2 aa z3
   .exact ub i j aa z2 z3
 have lall:Loc ix ax sa' (sa'+na'+nb'):=fun j z1 z2=>by
  by_cases z:j<sa'+na'
  .have:=la j z1 z;omega
  .have:=lb j aa z2;omega
 by_cases z1:(na'-k==0)=true
 .rw[if_pos z1]
  have z1':k=na':=by simp at z1;omega
  refine kasC_pure (q _ s1 ⟨b.pm,b.kd,b.fd⟩ rfl (same fun i j y1 y2 y3 y4=>?_) lall (fun _ _=>rfl) g1)
  have w:=k2 (i-sa') aa
  rw[show sa'+(i-sa')=i by omega]at w
  exact o.tr w (ub _ _ aa y3 y4)
 rw[if_neg z1]
 have z1':k<na':=by simp at z1;omega
 have k3:=k3 z1'
 refine kasC_bind (QaY (show sa'+k+(na'-k)-1<(arrOf st).size by omega) ?_)
 rw[show sa'+k+(na'-k)-1=sa'+na'-1 by omega]
 refine kasC_bind (galL H oo (fun i hi=>by have z1:=la (sa'+na'-1) aa aa;have z2:=lb (sa'+na'+i) aa aa;exact Nat.lt_of_lt_of_le z1.2 z2.1) ub mem (mem _ (Qy (show sa'+na'-1<(arrOf st).size by omega))) (show sa'+na'+nb'<=(arrOf st).size by omega) aa b.kd g1 fun l s2 l1 l2 l3 g2=>?_)
 dsimp only
 by_cases z2:(l==0)=true
 .rw[if_pos z2]
  have z2':l=0:=by simpa using z2
  subst z2'
  refine kasC_pure (q _ s2 ⟨b.pm,b.kd,b.fd⟩ rfl (same fun i j y1 y2 y3 y4=>?_) lall (fun _ _=>rfl) g2)
  exact o.tr (o.tr (ua i (sa'+na'-1) y1 aa aa) (l3 hnb)) (ub _ _ aa y3 y4)
 rw[if_neg z2]
 have z2':0<l:=by simp at z2;omega
 have xz:((arrOf st).extract (sa'+k) (sa'+na')).size=na'-k:=by rw[Array.size_extract];omega
 have yz:((arrOf st).extract (sa'+na') (sa'+na'+l)).size=l:=by rw[Array.size_extract];omega
 have xa:Asc c ((arrOf st).extract (sa'+k) (sa'+na')).toList:=Asc.ext (fun i j y1 y2 y3=>ua i j aa y2 y3) aa
 have ya:Asc c ((arrOf st).extract (sa'+na') (sa'+na'+l)).toList:=Asc.ext (fun i j y1 y2 y3=>ub i j y1 y2 aa) aa
 have xm:∀x∈((arrOf st).extract (sa'+k) (sa'+na')).toList,x∈a0.toList:=fun x hx=>by
  obtain⟨t,_,_,t3,rfl⟩:=QdZ hx;exact mem _ (Qy t3)
 have ym:∀x∈((arrOf st).extract (sa'+na') (sa'+na'+l)).toList,x∈a0.toList:=fun x hx=>by
  obtain⟨t,_,_,t3,rfl⟩:=QdZ hx;exact mem _ (Qy t3)
 have f1:c (ats ((arrOf st).extract (sa'+na') (sa'+na'+l)) 0) (ats ((arrOf st).extract (sa'+k) (sa'+na')) 0)=true:=by
  rw[QdY aa aa,QdY aa aa];exact k3
 have f2:c (ats ((arrOf st).extract (sa'+na') (sa'+na'+l)) (((arrOf st).extract (sa'+na') (sa'+na'+l)).size-1)) (ats ((arrOf st).extract (sa'+k) (sa'+na')) (((arrOf st).extract (sa'+k) (sa'+na')).size-1))=true:=by
  rw[xz,yz,QdY aa aa,QdY aa aa,show sa'+k+(na'-k-1)=sa'+na'-1 by omega]
  exact l2 (l-1) aa
 have fin:∀(r:Array Keyed) (st2:SortSt) (s3:Shared),Merged c ((arrOf st).extract (sa'+k) (sa'+na')) ((arrOf st).extract (sa'+na') (sa'+na'+l)) r->
   Gs (SortSt.mk' (kindOf st) ax (((pendingOf st).setIfInBounds i (sa',na'+nb',pw')).eraseIdxIfInBounds (i+1)) (gallopOf st) (failedOf st)) st2->G s3->
   Q (failedOf st2).isNone (SortSt.mk' (kindOf st2) ((r.toList.zipIdx).foldl (fun a x=>a.setIfInBounds (sa'+k+x.2) x.1) (arrOf st2)) (pendingOf st2) (gallopOf st2) (failedOf st2)) s3:=fun r st2 s3 mg gs g3=>by
  have hr:r.toList.length=na'-k+l:=by
   have:=mg.2.length_eq
   simp only[List.length_append,Array.length_toList,xz,yz]at this
   rw[Array.length_toList];exact this
  have ar:arrOf st2=arrOf st:=gs.ar
  obtain⟨u1,u2⟩:=Qle (sa'+k) r.toList (arrOf st2) 0 (by rw[hr,ar];omega)
  simp only[Nat.add_zero]at u2
  rw[ar]at u1 u2
  have fd:failedOf st2=none:=gs.fd.trans b.fd
  rw[fd]
  have hx:((arrOf st).extract (sa'+k) (sa'+na')).toList++((arrOf st).extract (sa'+na') (sa'+na'+l)).toList=((arrOf st).toList.drop (sa'+k)).take r.toList.length:=by
   rw[hr,List.take_add,Array.toList_extract,Array.toList_extract,List.extract_eq_drop_take,List.extract_eq_drop_take,List.drop_drop]
   rw[show sa'+na'-(sa'+k)=na'-k by omega,show sa'+na'+l-(sa'+na')=l by omega,show sa'+k+(na'-k)=sa'+na' by omega]
  rw[ar]
  have from_:∀j,sa'+k<=j->j<sa'+k+r.toList.length->∃u,sa'+k<=u/\u<sa'+na'+l/\(r.toList[j-(sa'+k)]?).getD (.none, .none)=ats ax u:=fun j y1 y2=>by
   have hj:j-(sa'+k)<r.toList.length:=by omega
   rw[List.getElem?_eq_getElem hj]
   have hm:=mg.2.mem_iff.mp (List.getElem_mem hj)
   rcases List.mem_append.mp hm with hm|hm
   .obtain⟨t,t1,t2,_,t3⟩:=QdZ hm;exact⟨t,t1,by omega,t3⟩
   .obtain⟨t,t1,t2,_,t3⟩:=QdZ hm;exact⟨t,by omega,t2,t3⟩
  refine q _ s3 ⟨(Qm3 (p:=sa'+k) (r:=r.toList) u1 (by rw[hr];omega) u2 mg.2 hx).trans b.pm,gs.kd.trans b.kd,rfl⟩ gs.pe ?_ ?_ ?_ g3
  .intro i j y1 y2 y3
   show c (ats (List.foldl _ ax _) j) (ats (List.foldl _ ax _) i)=false
   rw[u2 j,u2 i]
   have lo:∀i u,sa'<=i->i<sa'+k->sa'+k<=u->u<sa'+na'+nb'->c (ats ax u) (ats ax i)=false:=fun i u v1 v2 v3 v4=>by
    by_cases v5:u<sa'+na'
    .exact ua i u v1 aa v5
    .have w:=k2 (i-sa') aa
     rw[show sa'+(i-sa')=i by omega]at w
     exact o.tr w (ub _ _ aa aa v4)
   have hi:∀u j,sa'+k<=u->u<sa'+na'+l->sa'+na'+l<=j->j<sa'+na'+nb'->c (ats ax j) (ats ax u)=false:=fun u j v1 v2 v3 v4=>by
    by_cases v5:u<sa'+na'
    .exact o.tr (o.tr (ua u (sa'+na'-1) aa aa aa) (l3 aa)) (ub _ _ aa v3 v4)
    .exact ub u j aa aa v4
   by_cases c1:sa'+k<=i/\i<sa'+k+r.toList.length
   .rw[if_pos c1]
    by_cases c2:sa'+k<=j/\j<sa'+k+r.toList.length
    .rw[if_pos c2,←QbD,←QbD]
     exact mg.1.at o aa (by rw[←Array.length_toList];omega)
    .rw[if_neg c2]
     obtain⟨u,v1,v2,v3⟩:=from_ i c1.1 c1.2
     rw[v3]
     exact hi u j v1 v2 aa aa
   .rw[if_neg c1]
    by_cases c2:sa'+k<=j/\j<sa'+k+r.toList.length
    .rw[if_pos c2]
     obtain⟨u,v1,v2,v3⟩:=from_ j c2.1 c2.2
     rw[v3]
     exact lo i u y1 aa v1 aa
    .rw[if_neg c2]
     by_cases c3:i<sa'+k
     .by_cases c4:j<sa'+k
      .exact ua i j y1 y2 aa
      .exact lo i j y1 c3 aa aa
     .exact ub i j aa y2 aa
  .intro j y1 y2
   show sa'<=ix (ats (List.foldl _ ax _) j)/\ix (ats (List.foldl _ ax _) j)<sa'+na'+nb'
   rw[u2 j]
   by_cases c2:sa'+k<=j/\j<sa'+k+r.toList.length
   .rw[if_pos c2]
    obtain⟨u,v1,v2,v3⟩:=from_ j c2.1 c2.2
    rw[v3]
    exact lall u aa aa
   .rw[if_neg c2];exact lall j y1 y2
  .intro j hj
   show ats (List.foldl _ ax _) j=_
   rw[u2 j,if_neg aa]
 have hxy:∀x∈((arrOf st).extract (sa'+k) (sa'+na')).toList,∀y∈((arrOf st).extract (sa'+na') (sa'+na'+l)).toList,ix x<ix y:=fun x hx y hy=>by
  obtain⟨t,t1,t2,_,rfl⟩:=QdZ hx
  obtain⟨u,u1,u2,_,rfl⟩:=QdZ hy
  have z1:=la t aa aa
  have z2:=lb u aa aa
  omega
 by_cases z3:na'-k<=l
 .rw[if_pos z3]
  refine kasC_bind (QtL H oo xa ya xm ym hxy (by rw[xz];omega) (by rw[yz];omega) f1 f2 b.kd g2 fun r st2 s3 mg gs g3=>?_)
  refine kasC_bind (kasC_modify (kasC_bind (kasC_get (kasC_pure ?_))))
  exact fin r st2 s3 mg gs g3
 .rw[if_neg z3]
  refine kasC_bind (QtP H oo xa ya xm ym hxy (by rw[xz];omega) (by rw[yz];omega) f1 f2 b.kd g2 fun r st2 s3 mg gs g3=>?_)
  refine kasC_bind (kasC_modify (kasC_bind (kasC_get (kasC_pure ?_))))
  exact fin r st2 s3 mg gs g3
end
end TSrt
namespace TSrt
open PySem PySem.W PyProof.Rows
noncomputable def Cov (c:Keyed->Keyed->Bool)(ix:Keyed->Nat)(xs:Array Keyed):List (Nat×Nat)->Nat->Nat->Prop
 | [],p,q=>p=q
 |(st,len)::r,p,q=>st=p/\0<len/\Up c xs p (p+len)/\Loc ix xs p (p+len)/\Cov c ix xs r (p+len) q
theorem Cov.app {c:Keyed->Keyed->Bool}{ix:Keyed->Nat}{xs:Array Keyed}:∀{l m:List (Nat×Nat)} {p q:Nat},Cov c ix xs (l++m) p q↔∃t,Cov c ix xs l p t/\Cov c ix xs m t q
 | [],m,p,q=>⟨fun h=>⟨p,rfl,h⟩,fun⟨t,e,h⟩=>by cases e;exact h⟩
 |(st,len)::l,m,p,q=>by
  show(st=p/\0<len/\Up c xs p (p+len)/\Loc ix xs p (p+len)/\Cov c ix xs (l++m) (p+len) q)↔_
  rw[Cov.app]
  constructor
  .rintro⟨h1,h2,h3,h0,t,h4,h5⟩;exact⟨t,⟨h1,h2,h3,h0,h4⟩,h5⟩
  .rintro⟨t,⟨h1,h2,h3,h0,h4⟩,h5⟩;exact⟨h1,h2,h3,h0,t,h4,h5⟩
theorem Cov.le {c:Keyed->Keyed->Bool}{ix:Keyed->Nat}{xs:Array Keyed}:∀{l:List (Nat×Nat)} {p q:Nat},Cov c ix xs l p q->p+l.length<=q
 | [],p,q,h=>by cases h;simp
 |(st,len)::l,p,q,h=>by
  have:=Cov.le h.2.2.2.2
  have:=h.2.1
  rw[List.length_cons];omega
theorem Cov.same {c:Keyed->Keyed->Bool}{ix:Keyed->Nat}{xs ys:Array Keyed}:∀{l:List (Nat×Nat)} {p q:Nat},(∀j,p<=j->j<q->ats ys j=ats xs j)->Cov c ix xs l p q->Cov c ix ys l p q
 | [],p,q,_,h=>h
 |(st,len)::l,p,q,e,h=>by
  have h1:=Cov.le h.2.2.2.2
  refine⟨h.1,h.2.1,fun i j z1 z2 z3=>?_,fun j z1 z2=>?_,Cov.same (fun j z1 z2=>e j aa z2) h.2.2.2.2⟩
  .rw[e i z1 aa,e j aa aa]
   exact h.2.2.1 i j z1 z2 z3
  .rw[e j z1 aa];exact h.2.2.2.1 j z1 z2
noncomputable def two (x:Nat×Nat×Nat):Nat×Nat:=(x.1,x.2.1)
section
variable {M:Model}{A:Around}{E:Value->Shared->Prop}{κ:SortKind}{a0:Array Keyed}{c0 c:Keyed->Keyed->Bool}{ix:Keyed->Nat}{G:Shared->Prop}
structure Ru (κ:SortKind)(a0:Array Keyed)(c:Keyed->Keyed->Bool)(ix:Keyed->Nat)(st:SortSt)(q r:Nat):Prop where
 sb:SB κ a0 st
 cov:Cov c ix ax ((pendingOf st).toList.map two) 0 q
 raw:Raw ix ax r
 le:q<=r
theorem small (p:Prop) [Decidable p](m:Nat)(h:1<m):(if p then m-2-1 else m-2)+1<m:=by split<;>omega
theorem Qpj (H:Cmp M A κ a0 c0 G)(oo:Od c0 c ix){i q r0:Nat}{st:SortSt}{s:Shared}{Q:Bool->SortSt->Shared->Prop}(r:Ru κ a0 c ix st q r0)(hq:q<=a0.size)(hi:i+1<(pendingOf st).size)(g:G s)
  (h:∀st' s',Ru κ a0 c ix st' q r0->(pendingOf st').size+1=(pendingOf st).size->(∀j,q<=j->ats aC j=ats ax j)->G s'->Q true st' s'):kasC M A E (mergeAt' i) Q st s:=by
 obtain⟨b,cov,raw,rle⟩:=r
 have hz0:=b.sz
 have hl:i+1<(pendingOf st).toList.length:=by simpa using hi
 obtain⟨⟨sa,na,pw⟩,e1⟩:∃x,(pendingOf st)[i]=x:=⟨_,rfl⟩
 obtain⟨⟨sb,nb,pv⟩,e2⟩:∃x,(pendingOf st)[i+1]=x:=⟨_,rfl⟩
 have q1:(pendingOf st)[i]?=some (sa,na,pw):=by rw[getElem?_pos _ i aa,e1]
 have q2:(pendingOf st)[i+1]?=some (sb,nb,pv):=by rw[getElem?_pos _ (i+1) hi,e2]
 have sp:(pendingOf st).toList=(pendingOf st).toList.take i++(sa,na,pw)::(sb,nb,pv)::(pendingOf st).toList.drop (i+2):=by
  conv=>lhs;rw[←List.take_append_drop i (pendingOf st).toList,List.drop_eq_getElem_cons aa,List.drop_eq_getElem_cons aa]
  rw[Array.getElem_toList,Array.getElem_toList,e1,e2]
 rw[sp,List.map_append,Cov.app]at cov
 obtain⟨t,c1,h1,c2,c3,c3l,h2,c4,c5,c5l,c6⟩:=cov
 have h1:sa=t:=h1
 subst h1
 have h2:sb=sa+na:=h2
 subst h2
 have c3:Up c ax sa (sa+na):=c3
 have c5:Up c ax (sa+na) (sa+na+nb):=c5
 have c6:Cov c ix ax (((pendingOf st).toList.drop (i+2)).map two) (sa+na+nb) q:=c6
 have c6':sa+na+nb+_<=q:=c6.le
 have c1':=c1.le
 have c2':0<na:=c2
 have c4':0<nb:=c4
 refine QtQ H oo b q1 q2 rfl aa c2 c4 c3 c5 c3l c5l g fun st' s' b' pe up lc ke g'=>?_
 have pl:(pendingOf st').toList=(pendingOf st).toList.take i++(sa,na+nb,pw)::(pendingOf st).toList.drop (i+2):=by
  rw[pe,Array.toList_eraseIdxIfInBounds,Array.toList_setIfInBounds]
  conv=>lhs;rw[sp]
  have hli:((pendingOf st).toList.take i).length=i:=by simp;omega
  rw[List.set_append_right _ _ aa,hli,Nat.sub_self,List.set_cons_zero,List.eraseIdx_append_of_length_le aa,hli,show i+1-i=1 by omega]
  rfl
 refine h st' s' ⟨b',?_,fun j z1 z2=>by rw[ke j (.inr aa)];exact raw j z1 (Nat.lt_of_lt_of_le z2 (Nat.le_of_eq (b'.sz.trans hz0.symm))),rle⟩ ?_ (fun j hj=>ke j (.inr aa)) g'
 .rw[pl,List.map_append,Cov.app]
  refine⟨sa,Cov.same (fun j z1 z2=>ke j (.inl z2)) c1,rfl,(show 0<na+nb by omega),?_,?_,?_⟩
  .show Up c aC sa (sa+(na+nb))
   rw[←Nat.add_assoc];exact up
  .show Loc ix aC sa (sa+(na+nb))
   rw[←Nat.add_assoc];exact lc
  .show Cov c ix aC _ (sa+(na+nb)) q
   rw[←Nat.add_assoc]
   exact Cov.same (fun j z1 z2=>ke j (.inr z1)) c6
 .have z1:=congrArg List.length pl
  have z2:=congrArg List.length sp
  simp only[List.length_append,List.length_cons,Array.length_toList]at z1 z2
  omega
theorem Ru.more {st:SortSt}{lo n k:Nat}(r:Ru κ a0 c ix st lo (lo+n))(h1:1<=n)(up:Up c ax lo (lo+n))(lc:Loc ix ax lo (lo+n)):Ru κ a0 c ix (setPending st ((pendingOf st).push (lo,n,k))) (lo+n) (lo+n):=by
 refine⟨⟨r.sb.pm,r.sb.kd,r.sb.fd⟩,?_,r.raw,Nat.le_refl _⟩
 show Cov c ix ax (((pendingOf st).push (lo,n,k)).toList.map two) 0 (lo+n)
 rw[Array.toList_push,List.map_append,Cov.app]
 exact⟨lo,r.cov,rfl,h1,up,lc,rfl⟩
theorem Ru.pow {st:SortSt}{lo i r0:Nat}{f:Nat×Nat×Nat->Nat×Nat×Nat}(hf:∀x,two (f x)=two x)(r:Ru κ a0 c ix st lo r0):Ru κ a0 c ix (setPending st ((pendingOf st).modify i f)) lo r0:=by
 refine⟨⟨r.sb.pm,r.sb.kd,r.sb.fd⟩,?_,r.raw,r.le⟩
 show Cov c ix ax (((pendingOf st).modify i f).toList.map two) 0 lo
 have e:((pendingOf st).modify i f).toList.map two=(pendingOf st).toList.map two:=by
  rw[Array.toList_modify]
  apply List.ext_getElem?
  intro j
  rw[List.getElem?_map,List.getElem?_map,List.getElem?_modify]
  cases(pendingOf st).toList[j]? with
  |none=>rfl
  |some x=>
   show some (two (if i=j then f x else x))=some (two x)
   by_cases e:i=j
   .rw[if_pos e,hf]
   .rw[if_neg e]
 rw[e]
 exact r.cov
theorem Qpk (H:Cmp M A κ a0 c0 G)(oo:Od c0 c ix){st:SortSt}{s:Shared}{Q:Unit->SortSt->Shared->Prop}(b:SB κ a0 st)(pe:pendingOf st= #[])(ra:Raw ix ax 0)(g:G s)
  (h:∀st' s',SB κ a0 st'->Up c aC 0 a0.size->G s'->Q () st' s'):kasC M A E sortRuns' Q st s:=by
 rw[sortRuns'_eq]
 refine kasC_bind (kasC_get ?_)
 dsimp only
 rw[b.sz]
 refine kasC_bind (Qp (Q:=fun d st' s'=>d=(none,a0.size)/\Ru κ a0 c ix st' a0.size a0.size/\G s') (QbO (fun x d st' s'=>∃lo,d=(none,lo)/\x<=lo/\lo<=a0.size/\Ru κ a0 c ix st' lo lo/\G s') ?_ ?_ ?_) ?_)
 .rintro x _ st1 s1 _ hx ⟨lo,rfl,x1,x2,r1,g1⟩
  dsimp only
  by_cases z:lo≥a0.size
  .rw[if_pos z]
   have:lo=a0.size:=by omega
   subst this
   exact kasC_pure ⟨rfl,r1,g1⟩
  rw[if_neg z]
  refine kasC_bind (Qm2 H oo aa aa r1.sb r1.raw g1 fun n st2 s2 n1 n2 b2 p2 up2 lc2 rw2 ke2 g2=>?_)
  have c2:Cov c ix (arrOf st2) ((pendingOf st2).toList.map two) 0 lo:=by rw[p2];exact Cov.same (fun j _ z2=>ke2 j z2) r1.cov
  dsimp only
  by_cases zm:n<minRun' a0.size a0.size 0
  .rw[if_pos zm]
   refine kasC_bind (kasC_lift (wpAny_rule ?_))
   have hf:n<=min (a0.size-lo) (minRun' a0.size a0.size 0):=by omega
   refine kasC_bind (Qrz H oo aa hf b2 up2 lc2 rw2 g2 fun st3 s3 b3 p3 ux lx wx ke3 gx=>?_)
   have rx:Ru κ a0 c ix st3 lo (lo+min (a0.size-lo) (minRun' a0.size a0.size 0)):=⟨b3,by rw[p3];exact Cov.same (fun j _ z2=>ke3 j z2) c2,wx,by omega⟩
   rw[if_neg al]
   refine kasC_bind (kasC_get ?_)
   split
   .rename_i s1' n1' k1' _
    refine kasC_bind (Qp (Q:=fun d st' s'=>d=(none,())/\Ru κ a0 c ix st' lo (lo+min (a0.size-lo) (minRun' a0.size a0.size 0))/\(∀j,lo<=j->ats aC j=ats (arrOf st3) j)/\G s') (QbO (fun x d st' s'=>d=(none,())/\Ru κ a0 c ix st' lo (lo+min (a0.size-lo) (minRun' a0.size a0.size 0))/\(∀j,lo<=j->ats aC j=ats (arrOf st3) j)/\G s') ?_ (fun _ _ _ z=>z) ⟨rfl,rx,fun _ _=>rfl,gx⟩) ?_)
    .rintro y _ st4 s4 _ hy ⟨rfl,r4,ke4,g4⟩
     refine kasC_bind (kasC_get ?_)
     split
     .rename_i hsome
      split
      .exact kasC_pure ⟨rfl,r4,ke4,g4⟩
      .have hp:(pendingOf st4).size>1:=by
        rcases Nat.lt_or_ge 1 (pendingOf st4).size with w|w
        .exact w
        .rw[if_neg aa]at hsome;exact absurd hsome al
       refine kasC_bind (Qpj H oo r4 x2 aa g4 fun st5 s5 r5 _ ke5 g5=>?_)
       rw[if_neg al]
       exact kasC_pure ⟨rfl,r5,fun j hj=>(ke5 j hj).trans (ke4 j hj),g5⟩
     .exact kasC_pure ⟨rfl,r4,ke4,g4⟩
    .rintro _ st4 s4 ⟨rfl,r4,ke4,g4⟩
     dsimp only
     refine kasC_bind (kasC_modify (kasC_bind (kasC_modify (kasC_pure ?_))))
     refine⟨_,rfl,by omega,by omega,Ru.more (Ru.pow (fun x=>rfl) r4) (show 1<=min (a0.size-lo) (minRun' a0.size a0.size 0)by omega) (fun i j z1 z2 z3=>?_) (fun j z1 z2=>?_),g4⟩
     .show c (ats (arrOf st4) j) (ats (arrOf st4) i)=false
      rw[ke4 i z1,ke4 j aa]
      exact ux i j z1 z2 z3
     .show lo<=ix (ats (arrOf st4) j)/\ix (ats (arrOf st4) j)<_
      rw[ke4 j z1]
      exact lx j z1 z2
   .refine kasC_bind (kasC_modify (kasC_pure ?_))
    exact⟨_,rfl,by omega,by omega,Ru.more rx (show 1<=min (a0.size-lo) (minRun' a0.size a0.size 0)by omega) ux lx,gx⟩
  .rw[if_neg zm]
   have rx:Ru κ a0 c ix st2 lo (lo+n):=⟨b2,c2,rw2,by omega⟩
   have lx:=lc2
   have ux:=up2
   have gx:=g2
   refine kasC_bind (kasC_get ?_)
   split
   .rename_i s1' n1' k1' _
    refine kasC_bind (Qp (Q:=fun d st' s'=>d=(none,())/\Ru κ a0 c ix st' lo (lo+n)/\(∀j,lo<=j->ats aC j=ats (arrOf st2) j)/\G s') (QbO (fun x d st' s'=>d=(none,())/\Ru κ a0 c ix st' lo (lo+n)/\(∀j,lo<=j->ats aC j=ats (arrOf st2) j)/\G s') ?_ (fun _ _ _ z=>z) ⟨rfl,rx,fun _ _=>rfl,gx⟩) ?_)
    .rintro y _ st4 s4 _ hy ⟨rfl,r4,ke4,g4⟩
     refine kasC_bind (kasC_get ?_)
     split
     .rename_i hsome
      split
      .exact kasC_pure ⟨rfl,r4,ke4,g4⟩
      .have hp:(pendingOf st4).size>1:=by
        rcases Nat.lt_or_ge 1 (pendingOf st4).size with w|w
        .exact w
        .rw[if_neg aa]at hsome;exact absurd hsome al
       refine kasC_bind (Qpj H oo r4 x2 aa g4 fun st5 s5 r5 _ ke5 g5=>?_)
       rw[if_neg al]
       exact kasC_pure ⟨rfl,r5,fun j hj=>(ke5 j hj).trans (ke4 j hj),g5⟩
     .exact kasC_pure ⟨rfl,r4,ke4,g4⟩
    .rintro _ st4 s4 ⟨rfl,r4,ke4,g4⟩
     dsimp only
     refine kasC_bind (kasC_modify (kasC_bind (kasC_modify (kasC_pure ?_))))
     refine⟨_,rfl,by omega,by omega,Ru.more (Ru.pow (fun x=>rfl) r4) n1 (fun i j z1 z2 z3=>?_) (fun j z1 z2=>?_),g4⟩
     .show c (ats (arrOf st4) j) (ats (arrOf st4) i)=false
      rw[ke4 i z1,ke4 j aa]
      exact ux i j z1 z2 z3
     .show lo<=ix (ats (arrOf st4) j)/\ix (ats (arrOf st4) j)<_
      rw[ke4 j z1]
      exact lx j z1 z2
   .refine kasC_bind (kasC_modify (kasC_pure ?_))
    exact⟨_,rfl,by omega,by omega,Ru.more rx n1 ux lx,gx⟩
 .rintro _ st1 s1 ⟨lo,rfl,x1,x2,r1,g1⟩
  have:lo=a0.size:=by omega
  subst this
  exact⟨rfl,r1,g1⟩
 .exact⟨0,rfl,Nat.le_refl _,Nat.zero_le _,⟨b,by rw[pe];rfl,ra,Nat.le_refl _⟩,g⟩
 .rintro _ st1 s1 ⟨rfl,r1,g1⟩
  dsimp only
  refine kasC_bind (Qp (Q:=fun d st' s'=>d=(none,())/\(pendingOf st').size<=1/\Ru κ a0 c ix st' a0.size a0.size/\G s') (QbO (fun x d st' s'=>d=(none,())/\((pendingOf st').size<=1\/(pendingOf st').size+x<=a0.size)/\Ru κ a0 c ix st' a0.size a0.size/\G s') ?_ ?_ ?_) ?_)
  .rintro x _ st2 s2 _ hx ⟨rfl,x1,r2,g2⟩
   refine kasC_bind (kasC_get ?_)
   by_cases z:(pendingOf st2).size<=1
   .rw[if_pos z]
    exact kasC_pure ⟨rfl,z,r2,g2⟩
   rw[if_neg z]
   refine kasC_bind (Qpj H oo r2 am (small _ _ aa) g2 fun st3 s3 r3 z3 _ g3=>?_)
   rw[if_neg al]
   exact kasC_pure ⟨rfl,by omega,r3,g3⟩
  .rintro _ st2 s2 ⟨rfl,x1,r2,g2⟩
   exact⟨rfl,by omega,r2,g2⟩
  .refine⟨rfl,?_,r1,g1⟩
   have:=r1.cov.le
   rw[List.length_map,Array.length_toList]at this
   omega
  .rintro _ st2 s2 ⟨rfl,x1,r2,g2⟩
   refine kasC_pure (h st2 s2 r2.sb ?_ g2)
   have cv:=r2.cov
   cases e:(pendingOf st2).toList with
   |nil=>
    rw[e]at cv
    have:0=a0.size:=cv
    intro i j _ _ z;omega
   |cons y l=>
    cases l with
    |nil=>
     rw[e]at cv
     obtain⟨_,_,u,_,w⟩:=cv
     have w:0+y.2.1=a0.size:=w
     rw[←w];exact u
    |cons y' l=>
     have:=congrArg List.length e
     rw[Array.length_toList]at this
     simp at this;omega
end
end TSrt
namespace TSrt
open PySem PySem.W PyProof.Rows
structure Swk {κ:Type}(lt:κ->κ->Bool):Prop where
 asym:∀{x y},lt x y=true->lt y x=false
 tr:∀{x y z},lt y x=false->lt z y=false->lt z x=false
noncomputable def cN {κ:Type}(lt:κ->κ->Bool)(ks:Nat->κ)(i j:Nat):Bool:=lt (ks i) (ks j)||(!(lt (ks j) (ks i))&&decide (i<j))
theorem QrH {κ:Type}{lt:κ->κ->Bool}(o:Swk lt){ks:Nat->κ}{x y z:Nat}(h1:cN lt ks y x=false)(h2:cN lt ks z y=false):cN lt ks z x=false:=by
 unfold cN at *
 simp only[Bool.or_eq_false_iff,Bool.and_eq_false_iff,Bool.not_eq_false',decide_eq_false_iff_not,Nat.not_lt]at *
 refine⟨o.tr h1.1 h2.1,?_⟩
 cases e:lt (ks x) (ks z)with
 |true=>exact .inl rfl
 |false=>
  right
  have e1:lt (ks x) (ks y)=false:=o.tr h2.1 e
  have e2:lt (ks y) (ks z)=false:=o.tr e h1.1
  rw[e1]at h1;rw[e2]at h2
  have a1:=h1.2.resolve_left al
  have a2:=h2.2.resolve_left al
  omega
theorem Qlf {κ:Type}{lt:κ->κ->Bool}(o:Swk lt){ks:Nat->κ}{x y:Nat}(h:cN lt ks x y=true):cN lt ks y x=false:=by
 unfold cN at *
 simp only[Bool.or_eq_true,Bool.and_eq_true,Bool.not_eq_true',decide_eq_true_eq,Bool.or_eq_false_iff,Bool.and_eq_false_iff,Bool.not_eq_false',decide_eq_false_iff_not,Nat.not_lt]at *
 rcases h with h|⟨h1,h2⟩
 .exact⟨o.asym h, .inl h⟩
 .exact⟨h1, .inr aa⟩
theorem Qpl {κ:Type}{lt:κ->κ->Bool}{ks:Nat->κ}{x y:Nat}(h1:cN lt ks x y=false)(h2:cN lt ks y x=false):x=y:=by
 unfold cN at *
 simp only[Bool.or_eq_false_iff,Bool.and_eq_false_iff,Bool.not_eq_false',decide_eq_false_iff_not,Nat.not_lt]at *
 have a1:=h1.2.resolve_left (by rw[h2.1];simp)
 have a2:=h2.2.resolve_left (by rw[h1.1];simp)
 omega
noncomputable def srt {κ:Type}(lt:κ->κ->Bool)(ks:Nat->κ)(n:Nat):List Nat:=(List.range n).mergeSort fun i j=> !(cN lt ks j i)
theorem QaG {κ:Type}(lt:κ->κ->Bool)(ks:Nat->κ)(n:Nat):(srt lt ks n).Perm (List.range n):=List.mergeSort_perm ..
theorem Qin {κ:Type}{lt:κ->κ->Bool}(o:Swk lt)(ks:Nat->κ)(n:Nat):(srt lt ks n).Pairwise fun i j=>cN lt ks j i=false:=by
 have:=List.pairwise_mergeSort (le:=fun i j=> !(cN lt ks j i)) (fun a b c h1 h2=>by simp only[Bool.not_eq_true']at *;exact QrH o h1 h2) (fun a b=>by
  cases e:cN lt ks b a with
  |false=>simp
  |true=>simp[Qlf o e]) (List.range n)
 exact this.imp fun h=>by simpa using h
theorem Qm4 {κ:Type}{lt:κ->κ->Bool}(o:Swk lt){ks:Nat->κ}{n:Nat}{l:List Nat}(hp:l.Perm (List.range n))(ha:l.Pairwise fun i j=>cN lt ks j i=false):l=srt lt ks n:=
 List.Perm.eq_of_pairwise (fun a b _ _ h1 h2=>Qpl h2 h1) ha (Qin o ks n) (hp.trans (QaG lt ks n).symm)
noncomputable def ixOf (vs:List Value)(x:Keyed):Nat:=Classical.epsilon fun i=>vs[i]?=some x.2
theorem Qpm {vs:List Value}(nd:vs.Nodup){x:Keyed}{i:Nat}(h:vs[i]?=some x.2):ixOf vs x=i:=by
 have e:vs[ixOf vs x]?=some x.2:=Classical.epsilon_spec (p:=fun i=>vs[i]?=some x.2) ⟨i,h⟩
 have hi:=(List.getElem?_eq_some_iff.mp h).1
 exact((List.getElem?_inj hi nd).mp (h.trans e.symm)).symm
section
variable {M:Model}{A:Around}{E:Value->Shared->Prop}{κ:SortKind}{G:Shared->Prop}{κt:Type}{lt:κt->κt->Bool}{ks:Nat->κt}{kvs vs:List Value}
theorem Qjc (ok:Swk lt)(hl:kvs.length=vs.length)(nd:vs.Nodup)
  (cmp:∀i j,i<vs.length->j<vs.length->∀s,G s->wpAny M A (keyLt' κ (kvs.getD i .none) (kvs.getD j .none)) (fun b s'=>b=lt (ks i) (ks j)/\G s') (fun _ _=>False) s) {s:Shared} (g:G s) {Q:Unit->SortSt->Shared->Prop}
  (q:∀st' s',failedOf st'=none->(arrOf st').map (·.2)=((srt lt ks vs.length).map fun i=>vs.getD i .none).toArray->G s'->Q () st' s'):
  kasC M A E sortRuns' Q (SortSt.mk' κ (kvs.toArray.zip vs.toArray) #[] 7 none) s:=by
 have hz:(kvs.toArray.zip vs.toArray).size=vs.length:=by simp[hl]
 have at_:∀i,i<vs.length->(kvs.toArray.zip vs.toArray)[i]?=some (kvs.getD i .none,vs.getD i .none):=fun i hi=>by
  have:=kat_item hl (ks:=kvs) (vs:=vs) i
  unfold kas_item at this
  have h':i<(kvs.toArray.zip vs.toArray).size:=by omega
  rw[←this,Array.getElem?_eq_getElem h',Array.getD,dif_pos h']
  rfl
 have ixa:∀i,i<vs.length->ixOf vs (kvs.getD i .none,vs.getD i .none)=i:=fun i hi=>Qpm nd (by simp[hi])
 have mem:∀x,x∈(kvs.toArray.zip vs.toArray).toList->∃i,i<vs.length/\x=(kvs.getD i .none,vs.getD i .none):=fun x hx=>by
  obtain⟨i,hi⟩:=List.mem_iff_getElem?.mp hx
  rw[Array.getElem?_toList]at hi
  have hlt:i<vs.length:=by
   rcases Nat.lt_or_ge i vs.length with z|z
   .exact z
   .rw[Array.getElem?_eq_none aa]at hi;cases hi
  rw[at_ i hlt]at hi
  cases hi
  exact⟨i,hlt,rfl⟩
 have oo:Od (fun x y=>lt (ks (ixOf vs x)) (ks (ixOf vs y))) (fun x y=>cN lt ks (ixOf vs x) (ixOf vs y)) (ixOf vs):=
  ⟨⟨fun h=>ok.asym h,fun h1 h2=>ok.tr h1 h2⟩,⟨fun h=>Qlf ok h,fun h1 h2=>QrH ok h1 h2⟩,fun{x y} h=>by
   have:decide (ixOf vs x<ixOf vs y)=false:=by simp;omega
   simp[cN,this],fun{x y} h=>by simp[cN,h],fun{x y} h1 h2 h3=>by simp[cN,h1,h2,h3]⟩
 refine Qpk (κ:=κ) (a0:=kvs.toArray.zip vs.toArray) (G:=G) (fun x y hx hy s g=>?_) oo (st:=SortSt.mk' κ (kvs.toArray.zip vs.toArray) #[] 7 none) ⟨Array.Perm.refl _,rfl,rfl⟩ rfl (fun j _ hj=>?_) g fun st' s' b up g'=>?_
 .obtain⟨i,hi,rfl⟩:=mem x hx
  obtain⟨j,hj,rfl⟩:=mem y hy
  have:=cmp i j hi hj s g
  rw[←ixa i hi,←ixa j hj]at this
  rw[ixa i hi,ixa j hj]at this⊢
  exact this
 .have hj':j<vs.length:=by
   have:j<(kvs.toArray.zip vs.toArray).size:=hj
   omega
  show ixOf vs (ats (kvs.toArray.zip vs.toArray) j)=j
  unfold ats
  rw[at_ j hj']
  exact ixa j hj'
 .refine q st' s' b.fd ?_ g'
  have pm:=Array.perm_iff_toList_perm.mp b.pm
  have e0:(kvs.toArray.zip vs.toArray).toList=(List.range vs.length).map fun i=>(kvs.getD i .none,vs.getD i .none):=by
   apply List.ext_getElem?
   intro i
   rw[Array.getElem?_toList,List.getElem?_map]
   by_cases hi:i<vs.length
   .rw[at_ i hi,List.getElem?_range hi];rfl
   .rw[Array.getElem?_eq_none aa,List.getElem?_eq_none (by simp;omega)];rfl
  have e1:(kvs.toArray.zip vs.toArray).toList.map (ixOf vs)=List.range vs.length:=by
   rw[e0,List.map_map]
   conv=>rhs;rw[←List.map_id (List.range vs.length)]
   exact List.map_congr_left fun i hi=>ixa i (List.mem_range.mp hi)
  have hp:((arrOf st').toList.map (ixOf vs)).Perm (List.range vs.length):=by rw[←e1];exact pm.map _
  have ha:((arrOf st').toList.map (ixOf vs)).Pairwise fun i j=>cN lt ks j i=false:=by
   rw[List.pairwise_map]
   refine List.pairwise_iff_getElem.mpr fun i j hi hj hij=>?_
   have hj':j<(kvs.toArray.zip vs.toArray).size:=by rw[←b.sz];simpa using hj
   have:=up i j (Nat.zero_le _) aa hj'
   rw[QbD,QbD,List.getElem?_eq_getElem hi,List.getElem?_eq_getElem hj]at this
   exact this
  rw[←Qm4 ok hp ha,List.map_map]
  apply Array.toList_inj.mp
  rw[Array.toList_map]
  refine List.map_congr_left fun x hx=>?_
  obtain⟨i,hi,rfl⟩:=mem x (pm.mem_iff.mp hx)
  show vs.getD i .none=vs.getD (ixOf vs (kvs.getD i .none,vs.getD i .none)) .none
  rw[ixa i hi]
end
end TSrt
namespace TSrt
open PySem PySem.W PyProof.Rows PySem.Calls
noncomputable def ltI (x y:Int):Bool:=decide (x<y)
theorem swI:Swk ltI:=⟨fun{x y} h=>by simp only[ltI,decide_eq_true_eq,decide_eq_false_iff_not]at *;omega,fun{x y z} h1 h2=>by simp only[ltI,decide_eq_false_iff_not]at *;omega⟩
theorem Qep {κ:Type}{lt:κ->κ->Bool}{ks:Nat->κ}{n i:Nat}(h:i∈srt lt ks n):i<n:=List.mem_range.mp ((QaG lt ks n).mem_iff.mp h)
noncomputable def srtB {κ:Type}(lt:κ->κ->Bool)(b:Bool)(ks:Nat->κ)(n:Nat):List Nat:=if b then((srt lt (fun i=>ks (n-1-i)) n).map (fun i=>n-1-i)).reverse else srt lt ks n
theorem Qgu {κ:Type}{lt:κ->κ->Bool}{b:Bool}{ks:Nat->κ}{n i:Nat}(h:i∈srtB lt b ks n):i<n:=by
 unfold srtB at h
 split at h
 .obtain⟨j,hj,rfl⟩:=List.mem_map.mp (List.mem_reverse.mp h)
  have:=Qep hj;omega
 .exact Qep h
noncomputable def ksB {κ:Type}(b:Bool)(ks:Nat->κ)(n i:Nat):κ:=if b then ks (n-1-i)else ks i
theorem Qjd {its:List Value}{i:Nat}(h:i<its.length):its.reverse.getD i .none=its.getD (its.length-1-i) .none:=by
 simp[List.getD,List.getElem?_reverse h]
theorem Qje {κ:Type}{lt:κ->κ->Bool}{b:Bool}{ks:Nat->κ}{its:List Value}:katRev b ((srt lt (ksB b ks its.length) its.length).map fun i=>(katRev b its).getD i .none)=(srtB lt b ks its.length).map fun i=>its.getD i .none:=by
 cases b with
 |false=>rfl
 |true=>
  show((srt lt (fun i=>ks (its.length-1-i)) its.length).map fun i=>its.reverse.getD i .none).reverse=(((srt lt (fun i=>ks (its.length-1-i)) its.length).map (fun i=>its.length-1-i)).reverse).map fun i=>its.getD i .none
  rw[←List.map_reverse,←List.map_reverse,List.map_map]
  exact List.map_congr_left fun i hi=>Qjd (Qep (List.mem_reverse.mp hi))
theorem Qhw {κ:Type}{lt:κ->κ->Bool}{ks:Nat->κ}{n:Nat}(h:n<2):srt lt ks n=List.range n:=by
 match n,h with
 |0,_=>simp[srt]
 |1,_=>simp[srt,List.range_succ]
theorem QfS (l:List Value):(List.range l.length).map (fun i=>l.getD i .none)=l:=by
 apply List.ext_getElem?
 intro i
 rw[List.getElem?_map]
 by_cases h:i<l.length
 .rw[List.getElem?_range h];simp[h]
 .rw[List.getElem?_eq_none (by simp;omega),List.getElem?_eq_none aa];rfl
section
variable {prog:Program}{w:World}{A:Around}{E:Value->Shared->Prop}{s:Shared}{l q:Addr}{its:List Value}{b:Bool}{ks:Nat->Int}
theorem Qpn {P:PySem.Fin->Shared->Prop}{D kS:Addr}{kvs:List Value}{e e1:Nat}(nd:its.Nodup)(hz:its.length<=1000000)(hl:kvs.length=its.length)(hk:∀j,j<its.length->∃t,kvs.getD j .none= .int (ks j) t)
  (ne:D≠kS) (h1:s.heap.get? kS=some (seqObj "list" kvs.toArray e)) (h2:s.heap.get? D=some (seqObj "list" #[] e1))
  (fin:∀h' c,(∀x o,x≠kS->x≠D->s.heap.get? x=some o->h'.get? x=some o)->h'.get? D=some (seqObj "list" ((srtB ltI b ks its.length).map fun i=>its.getD i .none).toArray c)->P (.done (.ret .none)) {s with heap:=h'}):
  wpAny aF A (ksk_end D b its.toArray e1 (.ref kS) kvs.toArray) P E s:=by
 have iA:IntsAre kvs ((List.range its.length).map ks):=by
  have go:∀(r:List Value) (m:Nat),(∀j,j<r.length->∃t,r.getD j .none= .int (ks (m+j)) t)->IntsAre r ((List.range' m r.length).map ks):=by
   intro r
   induction r with
   |nil=>intro m _;exact .nil
   |cons v r ih=>
    intro m h
    obtain⟨t,e⟩:=h 0 al
    have e':v= .int (ks m) t:=e
    subst e'
    rw[List.length_cons,List.range'_succ,List.map_cons]
    exact .cons _ t (ih (m+1) fun j hj=>by
     obtain⟨t,e⟩:=h (j+1) (by simpa using hj)
     exact⟨t,by rw[show m+1+j=m+(j+1)by omega];exact e⟩)
  have:=go kvs 0 fun j hj=>by rw[Nat.zero_add];exact hk j aa
  rwa [hl,←List.range_eq_range']at this
 have tail:∀st:SortSt,failedOf st=none->(arrOf st).map (·.2)=((srt ltI (ksB b ks its.length) its.length).map fun i=>(katRev b its).getD i .none).toArray->wpAny aF A (ksk_tail D b e1 (.ref kS) st) P E s:=fun st hf hout=>by
  have s1:=Heap.SameBut.update s.heap kS aT
  have na:=(s1.2 D ne).trans h2
  unfold ksk_tail
  try dsimp only
  rw[hout,kat_outs,Qje]
  have hlen:((srtB ltI b ks its.length).map fun i=>its.getD i .none).length=its.length:=by
   rw[←Qje,kat_len,List.length_map,(QaG ..).length_eq,List.length_range]
  obtain⟨c2,hc2⟩:∃c2,((s.heap.update kS aT).update D (Obj.mapSeq fun _=>((srtB ltI b ks its.length).map fun i=>its.getD i .none).toArray)).get? D=some (seqObj "list" ((srtB ltI b ks its.length).map fun i=>its.getD i .none).toArray c2):=⟨_,get?_update_seq na fun _=>_⟩
  have s2:=Heap.SameBut.update (s.heap.update kS aT) D (Obj.mapSeq fun _=>((srtB ltI b ks its.length).map fun i=>its.getD i .none).toArray)
  refine wpAny_bind (listUpdate_at h1 rfl (wpAny_bind (wpAny_letGo (wpAny_bind (seqEpoch_at na rfl ?_)))) (by rw[List.size_toArray,sizeLine_eq];omega) (Nat.zero_le _))
  refine wpAny_bind (listUpdate_at na rfl ?_ (Nat.zero_le _) (by rw[List.size_toArray,hlen,sizeLine_eq];omega))
  rw[hf]
  simp only[bne_self_eq_false,Bool.false_eq_true,if_false]
  exact wpAny_pure (fin _ c2 (fun x o x1 x2 ho=>(s2.2 x x2).trans ((s1.2 x x1).trans ho)) hc2)
 have step:∀t:Sem PySem.Fin,wpAny aF A t P E s->wpAny aF A (if b=true then rule "list.sort.reverse">>=fun _=>t else t) P E s:=fun t ht=>by
  split
  .exact wpAny_bind (wpAny_rule ht)
  .exact ht
 unfold ksk_end
 try dsimp only
 refine step _ ?_
 rw[kat_pairs b hl]
 have hlr:(katRev b kvs).length=(katRev b its).length:=by rw[kat_len,kat_len,hl]
 by_cases hs:its.toArray.size<2
 .rw[if_pos hs,if_pos hs]
  rw[List.size_toArray]at hs
  refine wpAny_bind (wpAny_pure ?_)
  rw[StateT.run_pure]
  refine wpAny_bind (wpAny_pure (tail _ rfl ?_))
  show(((katRev b kvs).toArray.zip (katRev b its).toArray).map (·.2))=_
  rw[Qhw hs]
  conv=>rhs;rw[show its.length=(katRev b its).length from(kat_len ..).symm,QfS]
  apply Array.toList_inj.mp
  rw[Array.toList_map,ksk_zip]
  exact List.map_snd_zip (by rw[hlr];exact Nat.le_refl _)
 .rw[if_neg hs,if_neg hs,ksk_kind (kz:=(List.range its.length).map ks) (by simpa using iA) (by rw[List.size_toArray]at *;omega)]
  refine wpAny_bind (wpAny_pure ?_)
  refine wpAny_bind (wpAny_mono (Qjc (lt:=ltI) (ks:=ksB b ks its.length) (κ:=oneType') (G:=fun s'=>s'=s) swI hlr ?_ (fun i j hi hj s' g=>?_) rfl (Q:=fun _ st' s'=>failedOf st'=none/\(arrOf st').map (·.2)=((srt ltI (ksB b ks its.length) its.length).map fun i=>(katRev b its).getD i .none).toArray/\s'=s) fun st' s' z1 z2 z3=>⟨z1,by rw[kat_len]at z2;exact z2,z3⟩) (fun r s' z=>?_) fun _ _ z=>z)
  .unfold katRev;split
   .exact List.pairwise_reverse.mpr (List.Pairwise.imp (fun h=>Ne.symm h) nd)
   .exact nd
  .subst g
   rw[kat_len]at hi hj
   have at_:∀i,i<its.length->∃t,(katRev b kvs).getD i .none= .int (ksB b ks its.length i) t:=fun i hi=>by
    cases b with
    |false=>exact hk i hi
    |true=>
     show∃t,kvs.reverse.getD i .none= .int (ks (its.length-1-i)) t
     rw[Qjd aa,hl]
     exact hk _ aa
   obtain⟨t1,e1⟩:=at_ i hi
   obtain⟨t2,e2⟩:=at_ j hj
   rw[e1,e2]
   exact kat_lt_int ⟨rfl,rfl⟩
  .obtain⟨⟨⟩,st⟩:=r
   obtain⟨z1,z2,z3⟩:=z
   have z3:s'=s:=z3
   subst z3
   exact tail st z1 z2
theorem Qkc {Q:Value->Shared->Prop}{kw:List (Str×Value)}(hs1:argsOk "sorted" ⟨[.ref l],kw⟩)(hs2:∀a:Addr,argsOk "list.sort" ⟨[.ref a],kw⟩)(hs3:∀a:Addr,Builtin.«list.sort» ⟨[.ref a],kw⟩=ksk_tree a (.ref q) b)(hl:s.heap.IsList l its.toArray)(hz:its.length<=1000000)(nd:its.Nodup)(J:Nat->Addr->Addr->Shared->Prop)
  (j0:∀D kS h',s.heap.objs.size<=D->D<kS->(∀x o,s.heap.get? x=some o->h'.get? x=some o)->J 0 D kS {s with heap:=h'})
  (jt:∀i D kS u s' ok od,its[i]?=some u->J i D kS s'->s'.heap.get? kS=some ok->s'.heap.get? D=some od->
   wpAny aF A.in1.in1 (call (.ref q) [u]) (fun k s''=>(∃t,k= .int (ks i) t)/\J (i+1) D kS s''/\s''.heap.get? kS=some ok/\s''.heap.get? D=some od) (fun _ _=>False) s')
  (jk:∀i D kS s' h',J i D kS s'->(∀x o,x≠kS->s'.heap.get? x=some o->h'.get? x=some o)->J i D kS {s' with heap:=h'})
  (fin:∀D kS s' h' c,J its.length D kS s'->(∀x o,x≠kS->x≠D->s'.heap.get? x=some o->h'.get? x=some o)->h'.get? D=some (seqObj "list" ((srtB ltI b ks its.length).map fun i=>its.getD i .none).toArray c)->Q (.ref D) {s' with heap:=h'}):
  wpAny aF A (call (.builtin "sorted") [.ref l] kw) Q E s:=by
 have hz':its.length<=sizeLine:=by rw[sizeLine_eq];omega
 have hsz:((s.heap.push aP).update s.heap.objs.size (Obj.mapSeq (· ++its.toArray))).objs.size=s.heap.objs.size+1:=(Heap.size_update ..).trans (size_push' ..)
 have hoL:(((s.heap.push aP).update s.heap.objs.size (Obj.mapSeq (· ++its.toArray))).push aU).get? ap=some aU:=hsz▸Heap.get?_push_size _ rfl
 have keep:∀x o,s.heap.get? x=some o->(((s.heap.push aP).update s.heap.objs.size (Obj.mapSeq (· ++its.toArray))).push aU).get? x=some o:=fun x o e=>by
  have hlt:x<s.heap.objs.size:=Heap.lt_size e
  exact Heap.get?_push_of_some _ ((Heap.get?_update_ne _ _ _ _ (Nat.ne_of_lt hlt)).trans (Heap.get?_push_of_some _ e))
 refine call_function_entry_kw kind_sorted plain_sorted entry_sorted hs1 ?_
 unfold Builtin.«sorted»
 refine wpAny_bind (m:=checkCount "sorted" 1 1 _) (wpAny_pure (wpAny_bind (collect_list hl (wpAny_bind (wpAny_newList ?_ hz')) hz')))
 show wpAny _ _ _ _ _ (Shared.mk (((s.heap.push aP).update s.heap.objs.size (Obj.mapSeq (· ++its.toArray))).push aU) s.gens s.drawn s.toks s.os)
 rw[hsz]
 refine wpAny_bind (wpAny_holding (wpAny_call_entry_kw slot_list_sort ⟨_,hoL,rfl⟩ entry_list_sort ?_ (hs2 _)))
 show wpAny aF A.in1.in1 (Builtin.«list.sort» ⟨[.ref ap],_⟩) _ _ _
 rw[hs3]
 generalize hH:((s.heap.push aP).update s.heap.objs.size (Obj.mapSeq (· ++its.toArray))).push aU=h1 at *
 have hz1:h1.objs.size=s.heap.objs.size+2:=by rw[←hH,size_push',hsz]
 clear hH
 obtain⟨e1,ho1⟩:∃e1,(h1.update ap aT).get? ap=some (seqObj "list" #[] e1):=⟨_,get?_update_seq hoL fun _=> #[]⟩
 have s1:=Heap.SameBut.update h1 ap aT
 unfold ksk_tree
 refine wpAny_bind (listItems_at hoL rfl (wpAny_bind (listUpdate_at hoL rfl (wpAny_bind (seqEpoch_at ho1 rfl ?_)) (by rw[List.size_toArray];exact hz') (Nat.zero_le _))))
 refine wpAny_bind (wpAny_newTuple (wpAny_bind (wpAny_newList (wpAny_holding ?_) (Nat.zero_le _))) (by show its.length<=_;exact hz'))
 generalize hH:((h1.update ap aT).push (seqObj "tuple" its.toArray 0))=h2
 have hz2:h2.objs.size=s.heap.objs.size+3:=by rw[←hH,size_push',Heap.size_update,hz1]
 have keep2:∀x o,s.heap.get? x=some o->(h2.push aP).get? x=some o:=fun x o e=>by
  have hlt:x<s.heap.objs.size:=Heap.lt_size e
  rw[←hH]
  exact Heap.get?_push_of_some _ (Heap.get?_push_of_some _ ((s1.2 x (Nat.ne_of_lt (Nat.lt_succ_of_lt hlt))).trans (keep x o e)))
 have gD:(h2.push aP).get? ap=some (seqObj "list" #[] e1):=by
  rw[←hH];exact Heap.get?_push_of_some _ (Heap.get?_push_of_some _ ho1)
 have gK:(h2.push aP).get? h2.objs.size=some aP:=Heap.get?_push_size _ rfl
 show wpAny aF A.in1.in1 (ksk_rest ap (.ref q) b its.toArray e1 (.ref h2.objs.size)) _ _ (Shared.mk (h2.push aP) s.gens s.drawn s.toks s.os)
 have J0:J 0 ap h2.objs.size (Shared.mk (h2.push aP) s.gens s.drawn s.toks s.os):=j0 ap h2.objs.size _ aa aa keep2
 have ne:s.heap.objs.size+1≠h2.objs.size:=by omega
 generalize h2.objs.size=kS at *
 generalize s.heap.objs.size+1=D at *
 unfold ksk_rest
 refine wpAny_bind (wpAny_rule ?_)
 rw[List.forIn_toArray]
 refine wpAny_bind (ksk_fold (fun i s'=>J i D kS s'/\∃kvs e,kvs.length=i/\(∀j,j<i->∃t,kvs.getD j .none= .int (ks j) t)/\s'.heap.get? kS=some (seqObj "list" kvs.toArray e)/\s'.heap.get? D=some (seqObj "list" #[] e1)) its 0 _ ⟨J0,[],0,rfl,fun j hj=>by omega,gK,gD⟩ (fun j u s' hu hI=>?_) (fun s' hI=>?_))
 .obtain⟨Jj,kvs,e,k1,k2,k3,k4⟩:=hI
  rw[Nat.zero_add]at *
  have hju:j<its.length:=(List.getElem?_eq_some_iff.mp hu).1
  refine wpAny_bind (wpAny_attempt (wpAny_mono (jt j D kS u s' _ _ hu Jj k3 k4) (fun k s'' z=>?_) fun _ _ z=>z.elim))
  obtain⟨⟨t,rfl⟩,J1,g3,g4⟩:=z
  try dsimp only
  have s3:=Heap.SameBut.update s''.heap kS (Obj.mapSeq (·.push (.int (ks j) t)))
  obtain⟨e3,he3⟩:∃e3,(s''.heap.update kS (Obj.mapSeq (·.push (.int (ks j) t)))).get? kS=some (seqObj "list" (kvs++ [Value.int (ks j) t]).toArray e3):=by
   have:=get?_update_seq g3 (·.push (.int (ks j) t))
   rw[show kvs.toArray.push (.int (ks j) t)=(kvs++ [Value.int (ks j) t]).toArray by simp]at this
   exact⟨_,this⟩
  refine wpAny_bind (listUpdate_at g3 rfl (wpAny_pure ⟨rfl,jk _ _ _ _ _ J1 (fun x o hx ho=>(s3.2 x hx).trans ho),kvs++ [Value.int (ks j) t],e3,by simp[k1],fun i hi=>?_,he3,(s3.2 D ne).trans g4⟩) (by rw[List.size_toArray,sizeLine_eq];omega) (by rw[Array.size_push,List.size_toArray,sizeLine_eq];omega))
  .by_cases q:i=j
   .subst q
    exact⟨t,by simp[List.getD,List.getElem?_append_right (Nat.le_of_eq k1),k1]⟩
   .obtain⟨t',e'⟩:=k2 i aa
    exact⟨t',by rw[←e'];simp[List.getD,List.getElem?_append_left (show i<kvs.length by omega)]⟩
 .obtain⟨Jn,kvs,e,k1,k2,k3,k4⟩:=hI
  rw[Nat.zero_add]at *
  try dsimp only
  refine wpAny_bind (listItems_at k3 rfl ?_)
  exact Qpn nd hz k1 k2 ne k3 k4 fun h' c kp hc=>⟨_,rfl,wpAny_pure ⟨_,rfl,fin D kS s' h' c Jn kp hc⟩⟩
end
end TSrt
namespace L2
open PySem PySem.Spec PyProof.Rows
section
variable {X:Cx}{pins:List (Addr×Obj)}{σ:St}{H:Hp}{s:Shared}{h':Heap}
theorem Inv.track {t':Nat}{fp:List Addr}{D:Addr}{o:HO}(I:Inv X pins σ H s)(hD:D∈fp)(k:∀b u,b∉fp->s.heap.get? b=some u->h'.get? b=some u)(hf:∀b∈fp,FpOk X pins H b)
  (new:ObjOk X.prog X.w (upd H D o) h' D o):Inv X pins σ (upd H D o) {s with heap:=h',toks:=t'}:=by
 have nit:∀b u,H b=some u->b∉fp:=fun b u e z=>by rw[(hf b z).1]at e;cases e
 have nD:∀b u,H b=some u->b≠D:=fun b u e z=>nit b u e (z▸hD)
 refine I.step (g':=s.gens) (d':=s.drawn) (ch:=fp) (fun b hb=>?_) (fun b u _ _ hc e _=>k b u hc e) (fun b u _ _ hc e _=>⟨u.slots,k b u hc e⟩) (fun b u hc _ n=>by rw[Ql (fun z:b=D=>hc (by rw[z];exact hD))];exact n)
  (fun b u hc e=>⟨u,k b u hc e⟩) (fun b _ e=>by rw[Ql (nD b _ e)];exact e) (fun b _ _ e=>by rw[Ql (nD b _ e)];exact e) (fun b ps e=>⟨#[],by rw[Ql (nD b _ e),e];simp⟩) (fun m hm=>?_) (fun b u e=>?_) I.bare
 .obtain⟨f0,f1,f2,f3,f4,f5⟩:=hf b hb
  exact⟨f3,f1,f4,f5⟩
 .obtain⟨ob,es,ep,ho,r⟩:=hm
  exact⟨ob,es,ep,k _ ob (fun z=>(hf _ z).2.1 rfl) ho,r⟩
 .by_cases hb:b=D
  .subst hb;rw[Qs]at e;cases e;exact new
  .rw[Ql hb]at e
   refine(I.hok b u e).stay (fun c v hc q=>k c v ?_ q) (fun c q=>by rw[Ql (nD c _ q)];exact q) fun c xs q=>by rw[Ql (nD c _ q)];exact q
   rcases hc with z|z
   .rw[z];exact nit b u e
   .exact nit c _ z
end
end L2
namespace L3
open PySem L2 TSrt
open PyProof.Rows (boot_sorted callWith_kw kws_cons kws_nil Constant_bool)
section
variable {X:Cx}{K:PySem.W.Frag}{F0 H0:Hp}{Ψ:Psi}
theorem Qm5 {k:Nat}{f:Addr}{fd:FuncData}{ps:List Str}{φ:List D->R}(Fk:FnOk X.prog X.w X.K X.mg X.base CX0 k f fd ps (spV0 X.K φ 1))(hr:Room (k+1) X.A)(hb:Binds X.K fd ps [])
  {pins:List ay} {σ:St} {F H:Hp} {s:Shared} {x:Value} {v:V} {d:D} {n:Int} (I:Inv X pins σ H s) (sub:Same F H) (rv:Rep X.K F d v) (rel:RelV v x) (hφ:φ [d]= .ok .fz (.int n)):
  wpAny ah X.A.in1.in1 (PySem.call (.ref f) [x]) (fun u s'=>∃t F' H',u= .int n t/\Inv X pins σ H' s'/\Step F H F' H'/\∀b o,s.heap.get? b=some o->FpOk X pins H b->s'.heap.get? b=some o/\FpOk X pins H' b) (fun _ _=>False) s:=by
 have hr':Room k X.A.in1.in1:=⟨hr.hd,by have:=hr.dp;show X.A.depth+3*k+5<_;omega,by have:=hr.un;show X.A.units+1+1+16*k+200<_;omega,hr.gd⟩
 have sp:spV0 X.K φ 1 [v] H (fun u H'=>u= .int n/\∃F',Step F H F' H') E0:=⟨F,[d],sub, .cons rv .nil,rfl,by rw[hφ];exact⟨by simp,fun F' v H' p=>⟨p.val.rd.int,F',p.st⟩⟩⟩
 have hl:=Fk.len _ _ _ _ sp
 refine wpAny_call (codeAny_mono (Fk.run X.A.in1.in1 X.stack s H ⟨[x],[]⟩ [x] [v] _ E0 hr' I.env0.in1.in1 (by simpa using hb s [x] I.kIn (by simpa using hl)) (.cons rel .nil) sp) fun r s' hq=>?_)
 cases r with
 |error e=>exact hq
 |ok fl=>
  cases fl with
  |next=>exact hq
  |brk=>exact hq
  |cont=>exact hq
  |ret u=>
   obtain⟨v',H',os,bare,un,hok,r,rfl,F',st⟩:=hq
   obtain⟨t,rfl⟩:=r
   refine⟨t,F',H',rfl,I.call' (ch:= []) os un hok bare (fun b z=>absurd z al),st,fun b o hb fp=>?_⟩
   have nfr:b∉frs X.stack:=fun z=>by
    rcases List.mem_cons.mp (I.stkSub b z)with e|z
    .exact fp.2.1 e
    .exact fp.2.2.1 z
   exact⟨un.keep b o hb fp.1 nfr al,un.free b o hb fp.1 al,fp.2⟩
noncomputable def intK (φ:List D->R)(d:D):Option Int:=match φ [d]with
 | .ok .fz (.int n)=>some n
 |_=>none
theorem Qpo {φ:List D->R}{d:D}{n:Int}(h:intK φ d=some n):φ [d]= .ok .fz (.int n):=by
 unfold intK at h
 split at h
 .cases h;assumption
 .cases h
noncomputable def Qcg:List (Option Int)->Option (List Int)
 | []=>some []
 |some x::l=>(Qcg l).map (x:: ·)
 |none::_=>none
theorem QfT:∀{l:List (Option Int)} {ks:List Int} {i:Nat} {x:Option Int},Qcg l=some ks->l[i]?=some x->x=some (ks.getD i 0)
 | [],_,_,_,_,h=>by simp at h
 |none::_,_,_,_,e,_=>by cases e
 |some y::l,ks,i,x,e,h=>by
  simp only[Qcg]at e
  cases e1:Qcg l with
  |none=>rw[e1]at e;cases e
  |some ks'=>
   rw[e1]at e;cases e
   cases i with
   |zero=>simp at h;subst h;rfl
   |succ i=>exact QfT (l:=l) (i:=i) e1 (by simpa using h)
noncomputable def Qio (l:List Nat)(ds:List D):List D:=l.map fun i=>ds.getD i .non
noncomputable def Qe0 (φ:List D->R)(b:Bool)(ds:List D):R:=match Qcg (ds.map (intK φ)),QcY ds with
 |some ks,some kl=>if kl.Nodup/\ds.length<=100000 then .ok .ow (.lst (Qio (srtB ltI b (fun i=>ks.getD i 0) ds.length) ds))else .no
 |_,_=> .no
noncomputable def Qjf (φ:List D->R)(b:Bool):R->R
 | .ok _ (.lst ds)=>Qe0 φ b ds
 | .ex C=> .ex C
 |_=> .no
noncomputable def Qjg (φ:List D->R)(b:Bool)(f:Ev->R)(ev:Ev):R:=Qjf φ b (f ev)
theorem Reps.pick {F:Hp}{ds:List D}{vs:List V}(r:Reps K F ds vs):∀{l:List Nat},(∀i∈l,i<ds.length)->Reps K F (Qio l ds) (l.map fun i=>vs.getD i .non)
 | [],_=> .nil
 |i::l,h=>by
  have hi:=h i al
  obtain⟨v,e,rv⟩:=r.get (List.getElem?_eq_getElem hi)
  refine .cons ?_ (Reps.pick r fun j hj=>h j (by simp[hj]))
  have e1:ds.getD i .non=ds[i]:=by simp[hi]
  have e2:vs.getD i .non=v:=by simp[e]
  show Rep K F (ds.getD i .non) (vs.getD i .non)
  rw[e1,e2];exact rv
theorem Vals.pick {vs:List V}{us:List Value}(r:Vals vs us):∀{l:List Nat},(∀i∈l,i<vs.length)->Vals (l.map fun i=>vs.getD i .non) (l.map fun i=>us.getD i .none)
 | [],_=> .nil
 |i::l,h=>by
  have hi:=h i al
  obtain⟨u,e,rv⟩:=r.get (List.getElem?_eq_getElem hi)
  refine .cons ?_ (Vals.pick r fun j hj=>h j (by simp[hj]))
  have e1:vs.getD i .non=vs[i]:=by simp[hi]
  have e2:us.getD i .none=u:=by simp[e]
  show L2.RelV (vs.getD i .non) (us.getD i .none)
  rw[e1,e2];exact rv
theorem Qkd {F:Hp}{ds:List D}{kl:List (List Key)}{vs:List V}{us:List Value}(hk:QcY ds=some kl)(nd:kl.Nodup)(r:Reps K F ds vs)(rv:Vals vs us):us.Nodup:=by
 obtain⟨h1,h2⟩:=Qgr hk r
 have inj:∀a b:Key,kV a=kV b->a=b:=fun a b e=>by
  cases a<;>cases b<;>first|(cases e;rfl)|cases e
 refine List.pairwise_iff_getElem.mpr fun i j hi hj hij e=>?_
 have hiv:i<vs.length:=by rw[rv.length];exact hi
 have hjv:j<vs.length:=by rw[rv.length];exact hj
 obtain⟨b1,k1,a1,a2,a3⟩:=h2 i vs[i] (List.getElem?_eq_getElem hiv)
 obtain⟨b2,k2,c1,c2,c3⟩:=h2 j vs[j] (List.getElem?_eq_getElem hjv)
 obtain⟨u1,e1,r1⟩:=rv.get (List.getElem?_eq_getElem hiv)
 obtain⟨u2,e2,r2⟩:=rv.get (List.getElem?_eq_getElem hjv)
 rw[a1]at r1
 rw[c1]at r2
 have r1:u1= .ref b1:=r1
 have r2:u2= .ref b2:=r2
 rw[List.getElem?_eq_getElem hi]at e1
 rw[List.getElem?_eq_getElem hj]at e2
 have e1:us[i]=u1:=Option.some.inj e1
 have e2:us[j]=u2:=Option.some.inj e2
 rw[e1,e2,r1,r2]at e
 have eb:b1=b2:=by injection e
 subst eb
 rw[a3]at c3
 have ek:k1.map kV=k2.map kV:=by injection c3 with z;injection z
 have ek:k1=k2:=List.map_inj_right inj|>.mp ek
 subst ek
 have hik:i<kl.length:=by omega
 exact absurd ((List.getElem?_inj hik nd).mp (a2.trans c2.symm)) aa
theorem Qke {k:Nat}{φ:List D->R}{b:Bool}{kd:Kd}{d:D}{kw:List (Str×Value)}{fa:Addr}{fd:FuncData}{ps:List Str}(Fk:FnOk X.prog X.w X.K X.mg X.base CX0 k fa fd ps (spV0 X.K φ 1))(hb:Binds X.K fd ps [])(hr:Room (k+1) X.A)
  (hs1:∀a:Addr,argsOk "sorted" ⟨[.ref a],kw⟩) (hs2:∀a:Addr,argsOk "list.sort" ⟨[.ref a],kw⟩) (hs3:∀a:Addr,Builtin.«list.sort» ⟨[.ref a],kw⟩=PyProof.Rows.ksk_tree a (.ref fa) b)
  {pins:List ay} {s1:Shared} {σ:St} {F H F1 H1:Hp} {Q:VK} {x':V} {u:Value} (I1:Inv X pins σ H1 s1) (p1:Post X.K F H kd d F1 x' H1) (ru:L2.RelV x' u)
  (m:match Qjf φ b (.ok kd d)with
    | .ok k d=>∀F' v H',Post X.K F H k d F' v H'->Q v H'
    | .ex C=>∀F' H',Step F0 H0 F' H'->Ψ C H'
    | .no=>False):
  wpAny ah X.A (PySem.call (.builtin "sorted") [u] kw) (fun v s2=>∃y H',Inv X pins σ H' s2/\L2.RelV y v/\Q y H') X.xe s1:=by
 cases d with
 |lst ds=>
  have m:match Qe0 φ b ds with
   | .ok k d=>∀F' v H',Post X.K F H k d F' v H'->Q v H'
   | .ex C=>∀F' H',Step F0 H0 F' H'->Ψ C H'
   | .no=>False:=m
  unfold Qe0 at m
  cases q1:Qcg (ds.map (intK φ))with
  |none=>rw[q1]at m;exact m.elim
  |some ks=>
   rw[q1]at m
   cases q2:QcY ds with
   |none=>rw[q2]at m;exact m.elim
   |some kl=>
    rw[q2]at m
    dsimp only at m
    by_cases hc:kl.Nodup/\ds.length<=100000
    .rw[if_pos hc]at m
     obtain⟨a,vs,rfl,ha,hrs⟩:=p1.val.rd.lst p1.st.sub
     have ru:u= .ref a:=ru
     subst ru
     obtain⟨its,rv,pl,hz⟩:=I1.list (SqL.of ha)
     have hn:its.length=ds.length:=by rw[←rv.length,hrs.length]
     have nd:=Qkd q2 hc.1 hrs rv
     refine Qkc (hs1 _) hs2 hs3 (ks:=fun i=>ks.getD i 0) pl.isList aa nd (fun i D kS s'=>∃F' H',Inv X pins σ H' s'/\Step F1 H1 F' H'/\FpOk X pins H' D/\FpOk X pins H' kS) ?_ ?_ ?_ ?_
     .intro D kS h' hD hk kp
      have hDf:H1 D=none:=I1.hok.fresh hD
      have hKf:H1 kS=none:=I1.hok.fresh (Nat.le_of_lt (Nat.lt_of_le_of_lt hD hk))
      exact⟨F1,H1,I1.kept (t':=s1.toks) kp, .refl p1.st.sub,I1.fpOk hD hDf,I1.fpOk (Nat.le_of_lt (Nat.lt_of_le_of_lt hD hk)) hKf⟩
     .rintro i D kS u s' ok od hu ⟨F',H',I',st',fD,fK⟩ gK gD
      have hi:i<ds.length:=by rw[←hn];exact(List.getElem?_eq_some_iff.mp hu).1
      have hiv:i<vs.length:=by rw[←hrs.length];exact hi
      obtain⟨v,ev1,rvv⟩:=hrs.get (List.getElem?_eq_getElem hi)
      obtain⟨u',eu,rel⟩:=rv.get ev1
      rw[hu]at eu
      cases eu
      have hφ:=Qpo (QfT q1 (i:=i) (x:=intK φ ds[i]) (by simp[hi]))
      refine wpAny_mono (Qm5 Fk hr hb I' st'.sub (rvv.mono st'.up) rel hφ) (fun kv s'' z=>?_) fun _ _ z=>z
      obtain⟨t,F2,H2,rfl,I2,st2,kp⟩:=z
      obtain⟨k1,k2⟩:=kp kS ok gK fK
      obtain⟨k3,k4⟩:=kp D od gD fD
      exact⟨⟨t,rfl⟩,⟨F2,H2,I2,st'.trans st2,k4,k2⟩,k1,k3⟩
     .rintro i D kS s' h' ⟨F',H',I',st',fD,fK⟩ kp
      refine⟨F',H',I'.turnedL (t':=s'.toks) (fp:= [kS]) (fun b o hb e=>kp b o (by simpa using hb) e) (fun b hb=>?_),st',fD,fK⟩
      obtain rfl:b=kS:=by simpa using hb
      exact fK
     .rintro D kS s' h' c ⟨F',H',I',st',fD,fK⟩ kp hD
      rw[hn]at hD
      have lt:∀i∈srtB ltI b (fun i=>ks.getD i 0) ds.length,i<ds.length:=fun i hi=>Qgu hi
      have vv:=Vals.pick rv (l:=srtB ltI b (fun i=>ks.getD i 0) ds.length) (fun i hi=>by rw[←hrs.length];exact lt i hi)
      have rr:=(hrs.mono st'.up).pick lt
      have I2:=I'.track (t':=s'.toks) (fp:= [D,kS]) (D:=D) (o:= .lst ((srtB ltI b (fun i=>ks.getD i 0) ds.length).map fun i=>vs.getD i .non)) al (fun b u hb e=>kp b u (fun z:b=kS=>hb (by simp[z])) (fun z:b=D=>hb (by simp[z])) e) (fun b hb=>by
       rcases List.mem_cons.mp hb with rfl|hb
       .exact fD
       .obtain rfl:b=kS:=by simpa using hb
        exact fK) ⟨by rw[List.length_map,show(srtB ltI b (fun i=>ks.getD i 0) ds.length).length=ds.length by
         unfold srtB;split
         .rw[List.length_reverse,List.length_map,(QaG ..).length_eq,List.length_range]
         .rw[(QaG ..).length_eq,List.length_range]];have:=QB;omega,_,_,vv,hD⟩
      refine⟨.ref D,_,I2,rfl,m F' (.ref D) _ ?_⟩
      have po:Post X.K F1 H1 .ow (.lst (Qio (srtB ltI b (fun i=>ks.getD i 0) ds.length) ds)) F' (.ref D) _:=Post.own st' fD.1 fun H2 hh=>⟨_,hh,rr⟩
      exact⟨p1.st.trans po.st,po.val.early p1.st.keep⟩
    .rw[if_neg hc]at m;exact m.elim
 |_=>exact m.elim
theorem Qpp {k:Nat}{x:Str}{φ:List D->R}{b:Bool}{e:Expr}{f:Ev->R}{p pf kp1 kp2 pos pb:Pos}{cj}(C:Callee X.prog X.w X.K X.mg X.base k x 1 φ)(hr:Room (k+1) X.A)(hm:X.mg "sorted"=none)(he:VE X F0 H0 Ψ e f)
  (hg:Gl X "sorted":=by rfl) (hgx:Gl X x:=by rfl) (hdb:aJ=false:=by decide)
  (hs:starEach [e] X.env=(false,eval e X.env)::starEach [] X.env:=by rfl):
  VE X F0 H0 Ψ (.Call (.Name "sorted" p) [e] [⟨some (Str.ofString "key"), .Name x pf,kp1⟩,⟨some (Str.ofString "reverse"), .Constant (.bool b) cj pb,kp2⟩] pos) (Qjg φ b f):=by
 obtain⟨fa,fd,ps,Fk,hb,hmx,hk⟩:=C.ex
 intro pins s σ H Q I h
 obtain⟨F,ev,fi,m⟩:=h
 unfold Qjg at m
 refine wpAny_Call_Name_kw (Qdu I hg hm boot_sorted ?_)
 cases h1:f ev with
 |no=>rw[h1]at m;exact m.elim
 |ex C=>
  rw[h1]at m
  refine callWith_kw (thn ((Qbl he pa_nil hs) pos pins s σ H (fun _ _=>False) I ⟨F,ev,fi,by rw[h1];exact m⟩) fun us s1 ⟨vs,H1,I1,r,z⟩=>z.elim) (by rw[hs];rfl) (by rw[hs];rfl)
 |ok kd d=>
  rw[h1]at m
  refine callWith_kw (thn ((Qbl he pa_nil hs) pos pins s σ H (fun us H1=>∃x F1,us= [x]/\Post X.K F H kd d F1 x H1) I ⟨F,ev,fi,by rw[h1];exact fun F1 x H1 p1=>⟨x,F1,rfl,p1⟩⟩) fun us s1 ⟨vs,H1,I1,r,x',F1,e1,p1⟩=>?_) (by rw[hs];rfl) (by rw[hs];rfl)
  subst e1
  obtain⟨u,rfl,ru⟩:=Qdw r
  refine kws_cons (Qh7 I1 hgx hmx (kws_cons (Constant_bool (kws_nil ?_))) hdb)
  show wpAny ah X.A (PySem.call (.builtin "sorted") [u] [(Str.ofString "key", .ref fa),(Str.ofString "reverse", .bool b)]) _ _ s1
  exact Qke Fk hb hr (fun _=>PyProof.Rows.ksk_s2 _ _ _) (fun _=>PyProof.Rows.ksk_l2 _ _ _) (fun _=>PyProof.Rows.ksk_t2 _ _ _) I1 p1 ru m
end
end L3
namespace TSrt
open PySem PySem.W PyProof.Rows PySem.Calls
noncomputable def ltK:L2.Key->L2.Key->Bool
 | .inl x, .inl y=>decide (x<y)
 | .inr x, .inr y=>decide (x.cps.toList<y.cps.toList)
 | .inl _, .inr _=>true
 | .inr _, .inl _=>false
theorem QrI (x:L2.Key):ltK x x=false:=by
 cases x with
 |inl x=>simp[ltK]
 |inr x=>simp only[ltK,decide_eq_false_iff_not];exact List.lt_irrefl _
theorem QnW {x y:L2.Key}(h:ltK x y=true):ltK y x=false:=by
 cases x<;>cases y<;>simp only[ltK,decide_eq_true_eq,decide_eq_false_iff_not,Bool.false_eq_true]at *
 .omega
 .exact List.lt_asymm h
theorem Qip {x y:L2.Key}(h1:ltK x y=false)(h2:ltK y x=false):x=y:=by
 cases x<;>cases y<;>simp only[ltK,decide_eq_false_iff_not,Bool.true_eq_false]at *
 .congr 1;omega
 .rename_i a b
  have:=List.le_antisymm (List.not_lt.mp h2) (List.not_lt.mp h1)
  obtain⟨a⟩:=a
  obtain⟨b⟩:=b
  have e:a=b:=Array.toList_inj.mp this
  rw[e]
theorem QrJ {x y z:L2.Key}(h1:ltK x y=true)(h2:ltK y z=true):ltK x z=true:=by
 cases x<;>cases y<;>cases z<;>simp only[ltK,decide_eq_true_eq,Bool.false_eq_true]at *
 .omega
 .exact List.lt_trans h1 h2
noncomputable def lexK:List L2.Key->List L2.Key->Bool
 |x::xs,y::ys=>if x=y then lexK xs ys else ltK x y
 | [],_::_=>true
 |_,[]=>false
theorem Qlg:∀{x y:List L2.Key},lexK x y=true->lexK y x=false
 | [],[],h=>by simp[lexK]at h
 | [],_::_,_=>rfl
 |_::_,[],h=>by simp[lexK]at h
 |x::xs,y::ys,h=>by
  simp only[lexK]at h⊢
  by_cases e:x=y
  .rw[if_pos e]at h;rw[if_pos e.symm];exact Qlg h
  .rw[if_neg e]at h;rw[if_neg (fun z=>e z.symm)];exact QnW h
theorem Qlh:∀{x y z:List L2.Key},lexK y x=false->lexK z y=false->lexK z x=false
 | [],[],[],_,_=>rfl
 | [],[],_::_,_,_=>rfl
 | [],_::_,[],_,h=>by simp[lexK]at h
 | [],_::_,_::_,_,_=>rfl
 |_::_,[],_,h,_=>by simp[lexK]at h
 |_::_,_::_,[],_,h=>by simp[lexK]at h
 |x::xs,y::ys,z::zs,h1,h2=>by
  simp only[lexK]at h1 h2⊢
  by_cases e1:y=x
  .subst e1
   rw[if_pos rfl]at h1
   by_cases e2:z=y
   .rw[if_pos e2]at h2⊢;exact Qlh h1 h2
   .rw[if_neg e2]at h2⊢;exact h2
  .rw[if_neg e1]at h1
   by_cases e2:z=y
   .subst e2;rw[if_neg e1];exact h1
   .rw[if_neg e2]at h2
    have l1:ltK x y=true:=by
     cases q:ltK x y with
     |true=>rfl
     |false=>exact absurd (Qip h1 q) e1
    have l2:ltK y z=true:=by
     cases q:ltK y z with
     |true=>rfl
     |false=>exact absurd (Qip h2 q) e2
    have l3:=QrJ l1 l2
    rw[if_neg (fun e=>by rw[e,QrI]at l3;cases l3)]
    exact QnW l3
theorem swL:Swk lexK:=⟨Qlg,Qlh⟩
noncomputable def kin:L2.Key->Bool
 | .inl _=>true
 | .inr _=>false
noncomputable def KRel (k:L2.Key)(u:Value):Prop:=L2.RelV (L2.kV k) u
noncomputable def KRels:List L2.Key->List Value->Prop
 | [],us=>us= []
 |k::ks,us=>∃u r,us=u::r/\KRel k u/\KRels ks r
section
variable {prog:Program}{w:World}{A:Around}{s:Shared}
theorem QnX {Q:Bool->Shared->Prop}{b:Bool}:∀{ks js:List L2.Key} {us vs:List Value} (i:Nat),KRels ks us->KRels js vs->ks.map kin=js.map kin->(b=true->i=0->ks.head?.map kin=some true)->Q (lexK ks js) s->KatLex prog w A b false Q (us.zip vs) i s
 | [],[],us,vs,i,h1,h2,_,_,q=>by
  have:us= []:=h1
  subst this
  exact q
 | [],_::_,_,_,_,_,_,e,_,_=>by simp at e
 |_::_,[],_,_,_,_,_,e,_,_=>by simp at e
 |k::ks,j::js,us,vs,i,h1,h2,e,hb,q=>by
  obtain⟨u,us,rfl,r1,h1⟩:=h1
  obtain⟨v,vs,rfl,r2,h2⟩:=h2
  simp only[List.map_cons,List.cons.injEq]at e
  have next:k=j->KatLex prog w A b false Q (us.zip vs) (i+1) s:=fun z=>QnX (i+1) h1 h2 e.2 (fun _ z=>by omega) (by simp only[lexK,if_pos z]at q;exact q)
  have stop:k≠j->Q (ltK k j) s:=fun z=>by simp only[lexK,if_neg z]at q;exact q
  rw[List.zip_cons_cons]
  refine kat_cons ?_
  cases k with
  |inl x=>
   cases j with
   |inr y=>simp[kin]at e
   |inl y=>
    obtain⟨t1,rfl⟩:=r1
    obtain⟨t2,rfl⟩:=r2
    refine wpAny_eqBool_int ?_
    by_cases z:x=y
    .subst z
     rw[beq_self_eq_true]
     exact kat_yes (next rfl)
    .rw[beq_eq_false_iff_ne.mpr z]
     refine kat_no ?_
     have st:=stop (fun q=>z (by injection q))
     cases hbi:(b&&i==0)with
     |true=>exact oneLt_int st
     |false=>exact kat_one _ _ (PyProof.Rows.lt_int st)
  |inr x=>
   cases j with
   |inl y=>simp[kin]at e
   |inr y=>
    obtain⟨t1,rfl⟩:=r1
    obtain⟨t2,rfl⟩:=r2
    refine wpAny_eqBool_str ?_
    by_cases z:x=y
    .subst z
     rw[decide_eq_true rfl]
     exact kat_yes (next rfl)
    .rw[decide_eq_false z]
     refine kat_no ?_
     have st:=stop (fun q=>z (by injection q))
     have hbi:(b&&i==0)=false:=by
      cases b with
      |false=>rfl
      |true=>
       by_cases i0:i=0
       .have:=hb rfl i0;simp[kin]at this
       .simp[i0]
     rw[hbi]
     exact kat_one _ _ (PySem.P.lt_str st)
noncomputable def IsT (h:Heap)(u:Value)(k:List L2.Key):Prop:=∃a o us n,u= .ref a/\h.get? a=some o/\o.cls= .type "tuple"/\o.data= .seq (List.toArray us) n/\KRels k us
theorem IsT.keep {h h':Heap}{u:Value}{k:List L2.Key}(x:IsT h u k)(e:∀a o,h.get? a=some o->h'.get? a=some o):IsT h' u k:=by
 obtain⟨a,o,us,n,h1,h2,h3⟩:=x;exact⟨a,o,us,n,h1,e a o h2,h3⟩
theorem KRels.len:∀{ks:List L2.Key} {us:List Value},KRels ks us->us.length=ks.length
 | [],_,h=>by have:_= []:=h;subst this;rfl
 |_::_,_,h=>by obtain⟨u,r,rfl,_,h⟩:=h;simp[h.len]
theorem Qpq {u v:Value}{k j:List L2.Key}{E:Value->Shared->Prop}(h1:IsT s.heap u k)(h2:IsT s.heap v j)(e:k.map kin=j.map kin)(hh:k.head?.map kin=some true):
  wpAny aF A (keyLt' (tuples' true) u v) (fun b s'=>b=lexK k j/\s'=s) E s:=by
 obtain⟨a,oa,us,n,rfl,ha,_,hda,ra⟩:=h1
 obtain⟨b,ob,vs,m,rfl,hb,_,hdb,rb⟩:=h2
 refine kat_lt ha hda hb hdb ?_
 have el:us.length=vs.length:=by
  have:=congrArg List.length e
  rw[List.length_map,List.length_map]at this
  rw[ra.len,rb.len,this]
 have:decide ((List.toArray us).size<(List.toArray vs).size)=false:=by simp[el]
 rw[this]
 exact QnX 0 ra rb e (fun _ _=>hh) ⟨rfl,rfl⟩
theorem Qli {its:List Value}{kl:Nat->List L2.Key}{E:Value->Shared->Prop}{Q:SortKind->Shared->Prop}(hn:0<its.length)(hk:∀i u,its[i]?=some u->IsT s.heap u (kl i)/\(kl i).head?.map kin=some true)(q:Q (tuples' true) s):
  wpAny aF A (keyKind' its.toArray) Q E s:=by
 have go:∀(r:List Value) (m:Nat),(∀i u,r[i]?=some u->IsT s.heap u (kl (m+i))/\(kl (m+i)).head?.map kin=some true)->∃fs:List Value,fs.length=r.length/\KatTups s.heap r fs/\∀v∈fs,∃x t,v= .int x t:=by
  intro r
  induction r with
  |nil=>intro m _;exact⟨[],rfl, .nil,fun v hv=>by simp at hv⟩
  |cons u r ih=>
   intro m h
   obtain⟨fs,f1,f2,f3⟩:=ih (m+1) fun i v hv=>by
    rw[show m+1+i=m+(i+1)by omega];exact h (i+1) v (by simpa using hv)
   obtain⟨⟨a,o,us,n,rfl,ho,hc,hd,hr⟩,hh⟩:=h 0 u rfl
   rw[Nat.add_zero]at hr hh
   cases q:kl m with
   |nil=>rw[q]at hh;simp at hh
   |cons k ks=>
    rw[q]at hr hh
    obtain⟨u0,us0,rfl,hu0,_⟩:=hr
    cases k with
    |inr _=>simp[kin]at hh
    |inl x=>
     obtain⟨t,rfl⟩:=hu0
     exact⟨.int x t::fs,by simp[f1], .cons ho hc hd rfl f2,fun v hv=>by
      rcases List.mem_cons.mp hv with rfl|hv
      .exact⟨x,t,rfl⟩
      .exact f3 v hv⟩
 obtain⟨fs,f1,f2,f3⟩:=go its 0 fun i u hu=>by rw[Nat.zero_add];exact hk i u hu
 refine kat_kind (T:= .type "int") f2 aa (fun v hv=>?_) rfl q
 obtain⟨x,t,rfl⟩:=f3 v hv
 exact Looks.of_pure rfl
theorem Qlj {E:Value->Shared->Prop}{l:Addr}{its:List Value}{kl:Nat->List L2.Key}{sh:List Bool}{Q:Value->Shared->Prop}(hl:s.heap.IsList l its.toArray)(hz:its.length<=1000000)(nd:its.Nodup)
  (hk:∀i u,its[i]?=some u->IsT s.heap u (kl i)/\(kl i).map kin=sh) (hh:sh.head?=some true)
  (fin:∀D h' c,s.heap.objs.size<=D->(∀x o,s.heap.get? x=some o->h'.get? x=some o)->h'.get? D=some (seqObj "list" ((srt lexK kl its.length).map fun i=>its.getD i .none).toArray c)->Q (.ref D) {s with heap:=h'}):
  wpAny aF A (call (.builtin "sorted") [.ref l]) Q E s:=by
 have hz':its.length<=sizeLine:=by rw[sizeLine_eq];omega
 have hd:∀i u,its[i]?=some u->(kl i).head?.map kin=some true:=fun i u hu=>by
  rw[←(hk i u hu).2]at hh
  rw[←List.head?_map];exact hh
 have hsz:((s.heap.push aP).update s.heap.objs.size (Obj.mapSeq (· ++its.toArray))).objs.size=s.heap.objs.size+1:=(Heap.size_update ..).trans (size_push' ..)
 have hoL:(((s.heap.push aP).update s.heap.objs.size (Obj.mapSeq (· ++its.toArray))).push aU).get? ap=some aU:=hsz▸Heap.get?_push_size _ rfl
 have keep:∀x o,s.heap.get? x=some o->(((s.heap.push aP).update s.heap.objs.size (Obj.mapSeq (· ++its.toArray))).push aU).get? x=some o:=fun x o e=>by
  have hlt:x<s.heap.objs.size:=Heap.lt_size e
  exact Heap.get?_push_of_some _ ((Heap.get?_update_ne _ _ _ _ (Nat.ne_of_lt hlt)).trans (Heap.get?_push_of_some _ e))
 refine Calls.call_function_entry kind_sorted plain_sorted entry_sorted (args_sorted1 _) (show _ from ?_)
 unfold Builtin.«sorted»
 refine wpAny_bind (m:=checkCount "sorted" 1 1 _) (wpAny_pure (wpAny_bind (collect_list hl (wpAny_bind (wpAny_newList ?_ hz')) hz')))
 show wpAny _ _ _ _ _ (Shared.mk (((s.heap.push aP).update s.heap.objs.size (Obj.mapSeq (· ++its.toArray))).push aU) s.gens s.drawn s.toks s.os)
 rw[hsz]
 refine wpAny_bind (wpAny_holding (wpAny_call_entry slot_list_sort ⟨_,hoL,rfl⟩ entry_list_sort ?_ (args_list_sort _)))
 generalize hH:((s.heap.push aP).update s.heap.objs.size (Obj.mapSeq (· ++its.toArray))).push aU=h1 at *
 clear hH
 obtain⟨e1,ho1⟩:∃e1,(h1.update ap aT).get? ap=some (seqObj "list" #[] e1):=⟨_,get?_update_seq hoL fun _=> #[]⟩
 have s1:=Heap.SameBut.update h1 ap aT
 rw[list_sort_plain]
 refine wpAny_bind (listItems_at hoL rfl (wpAny_bind (listUpdate_at hoL rfl (wpAny_bind (seqEpoch_at ho1 rfl ?_)) (by rw[List.size_toArray];exact hz') (Nat.zero_le _))))
 refine wpAny_bind (wpAny_newTuple (wpAny_bind (wpAny_newList (wpAny_holding ?_) (Nat.zero_le _))) (by show its.length<=_;exact hz'))
 generalize hH:((h1.update ap aT).push (seqObj "tuple" its.toArray 0)).push aP=h2
 have keep2:∀x o,s.heap.get? x=some o->h2.get? x=some o:=fun x o e=>by
  have hlt:x<s.heap.objs.size:=Heap.lt_size e
  rw[←hH]
  exact Heap.get?_push_of_some _ (Heap.get?_push_of_some _ ((s1.2 x (Nat.ne_of_lt (Nat.lt_succ_of_lt hlt))).trans (keep x o e)))
 have gD:h2.get? ap=some (seqObj "list" #[] e1):=by
  rw[←hH];exact Heap.get?_push_of_some _ (Heap.get?_push_of_some _ ho1)
 clear hH
 have tail:∀st:SortSt,failedOf st=none->(arrOf st).map (·.2)=((srt lexK kl its.length).map fun i=>its.getD i .none).toArray->
   wpAny aF A.in1.in1 (do
    let touched:=(←seqEpoch ap) !=e1
    Builtin.List.listUpdate (.ref ap) fun _=>(arrOf st).map (·.2)
    if let some e:=failedOf st then rule "list.sort.comparison-raised";throw e
    if touched then
     rule "list.sort.modified"
     raiseError "ValueError" "list modified during sort"
    ret .none) (fun fin s'=>∃v,fin= .done (.ret v)/\(wpAny aF A.in1 (pure (.done (.ret (.ref ap))):Sem PySem.Fin) (fun fin s'=>∃v,fin= .done (.ret v)/\Q v s') E s')) E (Shared.mk h2 s.gens s.drawn s.toks s.os):=fun st hf hout=>by
  have hlen:((srt lexK kl its.length).map fun i=>its.getD i .none).length=its.length:=by
   rw[List.length_map,(QaG ..).length_eq,List.length_range]
  rw[hout]
  obtain⟨c2,hc2⟩:∃c2,(h2.update ap (Obj.mapSeq fun _=>((srt lexK kl its.length).map fun i=>its.getD i .none).toArray)).get? ap=some (seqObj "list" ((srt lexK kl its.length).map fun i=>its.getD i .none).toArray c2):=⟨_,get?_update_seq gD fun _=>_⟩
  have s2:=Heap.SameBut.update h2 ap (Obj.mapSeq fun _=>((srt lexK kl its.length).map fun i=>its.getD i .none).toArray)
  refine wpAny_bind (seqEpoch_at gD rfl (wpAny_bind (listUpdate_at gD rfl ?_ (Nat.zero_le _) (by rw[List.size_toArray,hlen,sizeLine_eq];omega))))
  rw[hf]
  simp only[bne_self_eq_false,Bool.false_eq_true,if_false]
  exact wpAny_pure ⟨_,rfl,wpAny_pure ⟨_,rfl,fin _ _ c2 (Nat.le_succ _) (fun x o e=>(s2.2 x (Nat.ne_of_lt (Nat.lt_succ_of_lt (Heap.lt_size e)))).trans (keep2 x o e)) hc2⟩⟩
 show wpAny aF A.in1.in1 _ _ _ (Shared.mk h2 s.gens s.drawn s.toks s.os)
 dsimp only
 by_cases hs:its.toArray.size<2
 .rw[if_pos hs,if_pos hs]
  rw[List.size_toArray]at hs
  refine wpAny_bind (wpAny_pure ?_)
  rw[StateT.run_pure]
  refine wpAny_bind (wpAny_pure (tail _ rfl ?_))
  rw[Qhw hs,QfS]
  apply Array.toList_inj.mp
  show((its.toArray.zip its.toArray).map (·.2)).toList=_
  rw[Array.toList_map,ksk_zip]
  exact List.map_snd_zip al
 .rw[if_neg hs,if_neg hs]
  rw[List.size_toArray]at hs
  refine wpAny_bind (Qli (kl:=kl) aa (fun i u hu=>⟨(hk i u hu).1.keep keep2,hd i u hu⟩) ?_)
  refine wpAny_bind (wpAny_mono (Qjc (lt:=lexK) (ks:=kl) (κ:=tuples' true) (G:=fun s'=>s'=Shared.mk h2 s.gens s.drawn s.toks s.os) swL rfl nd (fun i j hi hj s' g=>?_) rfl (Q:=fun _ st' s'=>failedOf st'=none/\(arrOf st').map (·.2)=((srt lexK kl its.length).map fun i=>its.getD i .none).toArray/\s'=Shared.mk h2 s.gens s.drawn s.toks s.os) fun st' s' z1 z2 z3=>⟨z1,z2,z3⟩) (fun r s' z=>?_) fun _ _ z=>z)
  .subst g
   have at_:∀i,i<its.length->its[i]?=some (its.getD i .none):=fun i hi=>by simp[hi]
   have a1:=hk i _ (at_ i hi)
   have a2:=hk j _ (at_ j hj)
   exact Qpq (a1.1.keep keep2) (a2.1.keep keep2) (a1.2.trans a2.2.symm) (hd i _ (at_ i hi))
  .obtain⟨⟨⟩,st⟩:=r
   obtain⟨z1,z2,z3⟩:=z
   have z3:s'=Shared.mk h2 s.gens s.drawn s.toks s.os:=z3
   subst z3
   exact tail st z1 z2
end
end TSrt
namespace L3
open PySem L2 TSrt
noncomputable def okSh:List (List Key)->Bool
 | []=>true
 |k::r=>decide (k.head?.map kin=some true)&&r.all fun j=>decide (j.map kin=k.map kin)
theorem Qpr {kl:List (List Key)}(h:okSh kl=true):∃sh:List Bool,sh.head?=some true/\∀(i:Nat) (k:List Key),kl[i]?=some k->k.map kin=sh:=by
 cases kl with
 |nil=>exact⟨[true],rfl,fun i k e=>by simp at e⟩
 |cons k r=>
  simp only[okSh,Bool.and_eq_true,decide_eq_true_eq,List.all_eq_true]at h
  refine⟨k.map kin,by rw[List.head?_map];exact h.1,fun i j e=>?_⟩
  cases i with
  |zero=>simp at e;rw[e]
  |succ i=>exact h.2 j (List.mem_of_getElem? (by simpa using e))
theorem Qjh:∀{k:List Key} {us:List Value},Vals (k.map kV) us->KRels k us
 | [],_,h=>by cases h;rfl
 |_::_,_, .cons r h=>⟨_,_,rfl,r,Qjh h⟩
section
variable {X:Cx}
noncomputable def rSrt (K:PySem.W.Frag):List V->Hp->VK->Prop:=fun xs H Q=>∃(a:Addr) (vs:List V) (kl:List (List Key)),xs= [.ref a]/\SqL K H a vs/\vs.length=kl.length/\vs.length<=100000/\(∀(i:Nat) v,vs[i]?=some v->∃b k,v= .ref b/\kl[i]?=some k/\H b=some (.tup (k.map kV)))/\kl.Nodup/\okSh kl=true/\
 ∀p,H p=none->Q (.ref p) (upd H p (.lst ((srt lexK (fun i=>kl.getD i []) vs.length).map fun i=>vs.getD i .non)))
theorem Qm6:Qdv X (.builtin "sorted") (rSrt X.K):=by
 intro pins s σ H xs us Q I r h
 obtain⟨a,vs,kl,rfl,hq,hl,hb,hk,nd,hs,q⟩:=h
 obtain⟨u,rfl,ru⟩:=Qdw r
 cases ru
 obtain⟨its,rv,pl,hz⟩:=I.list hq
 have hlen:=rv.length
 obtain⟨sh,s1,s2⟩:=Qpr hs
 have inj:∀a b:Key,kV a=kV b->a=b:=fun a b e=>by
  cases a<;>cases b<;>first|(cases e;rfl)|cases e
 have at_:∀(i:Nat) (u:Value),its[i]?=some u->∃b k,u= .ref b/\kl[i]?=some k/\H b=some (.tup (k.map kV)):=fun i u hu=>by
  have hi:i<vs.length:=by rw[hlen];exact(List.getElem?_eq_some_iff.mp hu).1
  obtain⟨b,k,e1,e2,e3⟩:=hk i vs[i] (List.getElem?_eq_getElem hi)
  obtain⟨u',hu',r'⟩:=rv.get (List.getElem?_eq_getElem hi)
  rw[hu]at hu'
  cases hu'
  rw[e1]at r'
  exact⟨b,k,r',e2,e3⟩
 have ndv:its.Nodup:=by
  refine List.pairwise_iff_getElem.mpr fun i j hi hj hij e=>?_
  obtain⟨b1,k1,a1,a2,a3⟩:=at_ i its[i] (List.getElem?_eq_getElem hi)
  obtain⟨b2,k2,c1,c2,c3⟩:=at_ j its[j] (List.getElem?_eq_getElem hj)
  rw[a1,c1]at e
  have eb:b1=b2:=by injection e
  subst eb
  rw[a3]at c3
  have ek:k1.map kV=k2.map kV:=by injection c3 with z;injection z
  have ek:k1=k2:=List.map_inj_right inj|>.mp ek
  subst ek
  exact absurd ((List.getElem?_inj aa nd).mp (a2.trans c2.symm)) aa
 refine Qlj (kl:=fun i=>kl.getD i []) (sh:=sh) pl.isList aa ndv (fun i u hu=>?_) s1 fun D h' c hD kp hc=>?_
 .obtain⟨b,k,e1,e2,e3⟩:=at_ i u hu
  have ek:kl.getD i []=k:=by simp[e2]
  rw[ek]
  obtain⟨_,its',r',o,ho,hcl,n,hd⟩:=I.hok b _ e3
  exact⟨⟨b,o,its',n,e1,ho,hcl,hd,Qjh r'⟩,s2 i k e2⟩
 .rw[←hlen]at hc
  have vv:=Vals.pick rv (l:=srt lexK (fun i=>kl.getD i []) vs.length) fun i hi=>Qep hi
  have I2:=I.laid (t':=s.toks) (a:=D) (o:= .lst ((srt lexK (fun i=>kl.getD i []) vs.length).map fun i=>vs.getD i .non)) kp hD ⟨by rw[List.length_map,(QaG ..).length_eq,List.length_range];exact hz,_,_,vv,hc⟩
  exact⟨.ref D,_,I2,rfl,q D (I.hok.fresh hD)⟩
noncomputable def Qch (ds:List D):R:=match QcY ds with
 |some kl=>if kl.Nodup/\okSh kl=true/\ds.length<=100000 then .ok .ow (.lst (Qio (srt lexK (fun i=>kl.getD i []) ds.length) ds))else .no
 |_=> .no
noncomputable def Qhx:R->R
 | .ok _ (.lst ds)=>Qch ds
 | .ok _ (.scr ds)=>Qch ds
 | .ex C=> .ex C
 |_=> .no
noncomputable def Qci (f:Ev->R)(ev:Ev):R:=Qhx (f ev)
variable {F0 H0:Hp}{Ψ:Psi}
theorem Qcj {e:Expr}{f:Ev->R}{p pos:Pos}(hm:X.mg "sorted"=none)(he:VE X F0 H0 Ψ e f)
  (hg:Gl X "sorted":=by rfl) (h1:starEach [e] X.env=(false,eval e X.env)::starEach [] X.env:=by rfl):
  VE X F0 H0 Ψ (.Call (.Name "sorted" p) [e] [] pos) (Qci f):=
 (Qi3 Qm6 hg hm PyProof.Rows.boot_sorted (Qbl he pa_nil h1) aj aj h1).mono fun σ H Q h=>by
  obtain⟨F,ev,fi,m⟩:=h
  refine⟨F,ev,fi,?_⟩
  unfold Qci at m
  cases q1:f ev with
  |no=>rw[q1]at m;exact m
  |ex C=>rw[q1]at m;exact m
  |ok k d=>
   rw[q1]at m
   intro F1 x H1 p1
   obtain⟨ds,a,vs,rfl,ha,hr,m⟩:∃(ds:List D) (a:Addr) (vs:List V),x= .ref a/\SqL X.K H1 a vs/\Reps X.K F1 ds vs/\(match Qch ds with
     | .ok k d=>∀F' v H',Post X.K F H k d F' v H'->Q v H'
     | .ex C=>∀F' H',Step F0 H0 F' H'->Ψ C H'
     | .no=>False):=by
    cases d with
    |lst ds=>
     obtain⟨a,vs,ex,ha,hr⟩:=p1.val.rd.lst p1.st.sub
     exact⟨ds,a,vs,ex,SqL.of ha,hr,m⟩
    |scr ds=>
     obtain⟨a,vs,ex,ha,hr⟩:=p1.val.rd.scr p1.st.sub
     exact⟨ds,a,vs,ex,ha,hr,m⟩
    |_=>exact m.elim
   unfold Qch at m
   cases e1:QcY ds with
   |none=>rw[e1]at m;exact m.elim
   |some kl=>
    rw[e1]at m
    dsimp only at m
    by_cases hb:kl.Nodup/\okSh kl=true/\ds.length<=100000
    .rw[if_pos hb]at m
     obtain⟨g1,g2⟩:=Qgr e1 hr
     have hl:=hr.length
     refine⟨a,vs,kl,rfl,ha,g1,by omega,fun i v hv=>?_,hb.1,hb.2.1,fun pp hp=>?_⟩
     .obtain⟨b,k',a1,a2,a3⟩:=g2 i v hv
      exact⟨b,k',a1,a2,p1.st.sub _ _ a3⟩
     .rw[←hl]
      have po:Post X.K F1 H1 .ow (.lst (Qio (srt lexK (fun i=>kl.getD i []) ds.length) ds)) F1 (.ref pp) (upd H1 pp (.lst ((srt lexK (fun i=>kl.getD i []) ds.length).map fun i=>vs.getD i .non))):=Post.own (.refl p1.st.sub) hp fun H2 hh=>⟨_,hh,hr.pick fun i hi=>Qep hi⟩
      exact m F1 (.ref pp) _ ⟨p1.st.trans po.st,po.val.early p1.st.keep⟩
    .rw[if_neg hb]at m;exact m.elim
end
end L3
namespace L3
open PySem L2 TSrt
noncomputable def extR (i:Nat)(ds:List D)(ev:Ev):R->Fl
 | .ok _ (.lst es)=>if ds.length+es.length<LIM then .nx (ev.set i (some (.ow, .lst (ds++es))))else .no
 | .ex C=> .ex C
 |_=> .no
noncomputable def extG (i:Nat)(f:Ev->R)(ev:Ev):Fl:=match ev[i]? with
 |some (some (.ow, .lst ds))=>extR i ds ev (f ev)
 |_=> .no
section
variable {X:Cx}{K:PySem.W.Frag}{F0 H0:Hp}{Ψ:Psi}{σ:St}{H:Hp}
theorem Qps {i:Nat}{f:Ev->R}{E:Ends}(q:tSv K F0 H0 Ψ (extG i f) E σ H):Qoo (tBM K "list" QkQ (tVar i) (Qms (tV K F0 H0 Ψ f) tNil)) E σ H:=by
 obtain⟨F,ev,fi,m⟩:=q
 unfold extG at m
 split at m
 .rename_i ds e
  obtain⟨a,vs,e1,h1,h2⟩:=fi.ow e
  refine⟨.ref a,e1, .inl ⟨rfl,vs,SqL.of h1⟩,F,ev,fi,?_⟩
  cases h3:f ev with
  |no=>rw[h3]at m;exact m
  |ex C=>rw[h3]at m;exact m
  |ok k d=>
   rw[h3]at m
   intro F1 y H1 p
   cases d with
   |lst es=>
    have m:FlowTo K F0 H0 Ψ F E (if ds.length+es.length<LIM then .nx (ev.set i (some (.ow, .lst (ds++es))))else .no):=m
    by_cases hl:ds.length+es.length<LIM
    .rw[if_pos hl]at m
     obtain⟨b,ws,rfl,hb,hr⟩:=p.val.rd.lst p.st.sub
     refine⟨a,b,vs,ws,rfl,rfl,p.st.keep _ _ h1,hb,by rw[←h2.length,←hr.length];exact Nat.le_of_lt (Nat.lt_of_lt_of_le hl QB),?_⟩
     exact m F1 _ σ p.st.up ((fi.later p.st).mut e e1 fun H2 z=>⟨_,z,(h2.mono p.st.up).app hr⟩)
    .rw[if_neg hl]at m;exact m.elim
   |_=>exact m.elim
 .exact m.elim
variable {e:Expr}{f:Ev->R}{x:Str}{p apos cpos pos:Pos}
theorem QnY (i:Nat)(he:VE X F0 H0 Ψ e f)(hN:X.N[i]?=some x:=by rfl)(hv:Vis X.env.scope x:=by first|exact Or.inl rfl|exact Or.inr (Or.inl rfl)|exact Or.inr (Or.inr rfl))(hd:aJ=false:=by decide)
  (hcd:(x==("__classdict__":Str))=false:=by decide) (hbase:attributeBase (.Name x p) "extend" X.env (eval (.Name x p) X.env)=eval (.Name x p) X.env:=by rfl)
  (hfew:((backTo cpos (starEach [e] X.env)).all (fun x=> !x.1)&&(backToKw cpos (keywordEach [] X.env)).all (fun x=>x.1.isSome)
   &&decide ([e].length+([]:List Keyword).length+(if([]:List Keyword).isEmpty then 0 else 1)<30))=true:=by rfl)
  (hline:(apos.endLine==cpos.line)=true:=by rfl) (hs:starEach [e] X.env=(false,eval e X.env)::starEach [] X.env:=by rfl) (hplain:(backTo cpos (starEach [] X.env)).any (·.1)=false:=by rfl)
  (hsw:swapsWith (.Call (.Attribute (.Name x p) "extend" apos) [e] [] cpos) none pos.line X.env=pure false:=by rfl):
  VS X F0 H0 Ψ (.Expr (.Call (.Attribute (.Name x p) "extend" apos) [e] [] cpos) pos) (extG i f):=
 (QkD (Qq1 PySem.F.plainAttrs_list PySem.F.slot_list_extend PySem.F.type_list_extend QkR (QeJ hN hv hd hcd) (Qbl he pa_nil hs) hbase hfew hline hs hplain) hsw).mono fun _ _ _ q=>Qps q
end
end L3
namespace L3
open PySem L2 TSrt
noncomputable def less (F:Hp)(a:Addr):Hp:=fun b=>if b=a then none else F b
section
variable {X:Cx}{K:PySem.W.Frag}{F0 H0:Hp}{Ψ:Psi}{σ:St}{H:Hp}
end
section
variable {X:Cx}{F0 H0:Hp}{Ψ:Psi}{osc scope:Scope}{N:List Str}{target iter elt:Expr}{ifs:List Expr}{pos:Pos}{fi:Ev->RI}{b:B1}{f e:Ev->R}
end
end L3
namespace L3
open PySem L2
section
variable {X:Cx}{F0 H0:Hp}{g h:Ev->Fl}{st:Stmt}{sts rest:List Stmt}{pos:Pos}
variable {e0 e1 e2:Expr}{f0 f1 f2:Ev->R}{x1:ExprCtx}
end
section
variable {P:Program}{w:World}{K:PySem.W.Frag}{mg:Str->Option Value}{base:Heap}
end
section
variable {X:Cx}{K:PySem.W.Frag}{F0 H0 Fb Hb F H F' H':Hp}{Ψ:Psi}{i:Nat}{l:List D}{ev:Ev}{σ:St}
variable {k n:Nat}{x y:Str}{φ:List D->R}{p p' pos pos':Pos}{e:Expr}{es:List Expr}{fs:Ev->RA}{sts body:List Stmt}{h g:Ev->Fl}
variable {ji:Int}{kk:Nat}{q1 q2 q3 q4 q5 apos cpos:Pos}
end
end L3
namespace L3
open PySem L2 PySem.SeqAt
section
variable {X:Cx}{F0 H0:Hp}{Ψ:Psi}{a b:Expr}{f1 f2:Ev->R}{apos cpos:Pos}
end
end L3
namespace L3
open PySem L2
section
variable {X:Cx}{F0 H0:Hp}{Ψ:Psi}{a b:Expr}{f1 f2:Ev->R}{p2 pos:Pos}
end
end L3
namespace L3
open PySem L2
theorem RdV.obj {K:PySem.W.Frag}{F H:Hp}{c:Str}{ns:List Str}{xs:List D}{v:V}(s:Same F H)(h:RdV K F H (.obj c ns xs) v):
  ∃a C dx vs,v= .ref a/\PySem.W.nsIn K mainGlobals c=some (some (.ref C))/\H a=some (.ins C dx (ns.zip vs))/\ns.length=vs.length/\Reps K F xs vs:=by
 rcases h with h|⟨a,h1,h⟩
 .rw[Rep]at h
  obtain⟨a,C,dx,vs,h1,hc,h2,h3,h4⟩:=h
  exact⟨a,C,dx,vs,h1,hc,s _ _ h2,h3,h4⟩
 .obtain⟨C,dx,vs,hc,h2,h3,h4⟩:=h
  exact⟨a,C,dx,vs,h1,hc,h2,h3,h4⟩
theorem QfU {K:PySem.W.Frag}{F:Hp}{f:Str}{d:D}:∀{ns:List Str} {xs:List D} {vs:List V},Reps K F xs vs->(ns.zip xs).lookup f=some d->∃v,(ns.zip vs).lookup f=some v/\Rep K F d v
 | [],_,_,_,e=>by simp at e
 |_::_,[],_,_,e=>by simp at e
 |n::ns,x::xs,_,h,e=>by
  obtain⟨v,r,rfl,h1,h2⟩:=h.uncons
  simp only[List.zip_cons_cons,List.lookup_cons]at e⊢
  by_cases q:f==n
  .simp only[q]at e⊢
   cases e;exact⟨v,rfl,h1⟩
  .simp only[q]at e⊢
   exact QfU h2 e
theorem Qck {f:Str}:∀{ns:List Str} {vs:List V},f∉ns->(ns.zip vs).lookup f=none
 | [],_,_=>by simp
 |_::_,[],_=>by simp
 |n::ns,v::vs,h=>by
  simp only[List.zip_cons_cons,List.lookup_cons]
  have q:(f==n)=false:=by
   rw[beq_eq_false_iff_ne]
   rintro rfl;exact h List.mem_cons_self
  simp only[q]
  exact Qck fun m=>h (List.mem_cons_of_mem _ m)
noncomputable def fldR (cs:List Str)(f:Str):R->R
 | .ok _ (.obj c ns xs)=>if c∈cs then(match (ns.zip xs).lookup f with
  |some d=> .ok .fz d
  |none=> .no)else .no
 | .ok _ _=> .no
 | .ex C=> .ex C
 | .no=> .no
noncomputable def eFld (cs:List Str)(f:Str)(g:Ev->R)(ev:Ev):R:=fldR cs f (g ev)
noncomputable def QdA (K:PySem.W.Frag)(cs:List Str)(f:Str):Prop:=∀c∈cs,∃C,PySem.W.nsIn K mainGlobals c=some (some (.ref C))/\Cls K C/\NoAttr K C f
theorem Qe1 {K:PySem.W.Frag}{f:Str}:QdA K [] f:=fun _ h=>by simp at h
theorem QdB {K:PySem.W.Frag}{cs:List Str}{c f:Str}{C:Addr}(h:PySem.W.nsIn K mainGlobals c=some (some (.ref C)))(k:Cls K C)(n:NoAttr K C f)(r:QdA K cs f):QdA K (c::cs) f:=fun c' m=>by
 rcases List.mem_cons.mp m with rfl|m
 .exact⟨C,h,k,n⟩
 .exact r c' m
section
variable {X:Cx}{F0 H0:Hp}{Ψ:Psi}{e o:Expr}{es:List Expr}{f:Str}{cs:List Str}{g:Ev->R}{fs:Ev->RA}{pos p apos:Pos}
theorem Qiq (h:QdA X.K cs f)(he:VE X F0 H0 Ψ e g)(hb:attributeBase e f X.env (eval e X.env)=eval e X.env:=by rfl):VE X F0 H0 Ψ (.Attribute e f pos) (eFld cs f g):=by
 refine(QqU he hb).mono fun σ H Q q=>?_
 obtain⟨F,ev,fi,m⟩:=q
 refine⟨F,ev,fi,?_⟩
 unfold eFld at m
 cases h1:g ev with
 |no=>rw[h1]at m;exact m
 |ex C=>rw[h1]at m;exact m
 |ok k d=>
  rw[h1]at m
  intro F1 x H1 p1
  cases d with
  |obj c ns xs=>
   simp only[fldR]at m
   by_cases hc:c∈cs
   .rw[if_pos hc]at m
    obtain⟨a,C,dx,vs,rfl,hC,ha,hl,rs⟩:=p1.val.rd.obj p1.st.sub
    obtain⟨C',hC',cl,na⟩:=h c hc
    rw[hC]at hC';cases hC'
    cases q:(ns.zip xs).lookup f with
    |none=>rw[q]at m;exact m.elim
    |some d=>
     rw[q]at m
     obtain⟨v,e1,rv⟩:=QfU rs q
     exact⟨a,C,dx,_,v,rfl,ha,cl,na,e1,m F1 v H1 ⟨p1.st,rv⟩⟩
   .rw[if_neg hc]at m;exact m.elim
  |_=>exact m.elim
theorem QrK {K : PySem.W.Frag} {n : Nat} {φ : List D → R} {F H F1 H1 : Hp} {l : List (Kd × D)} {vs : List V} {Q : VK} {E : XK} (s : Step F H F1 H1) (va : ValA K F1 H H1 l vs) (m : match fnR n φ (.ok l) with
      | .ok k d=>∀F' v H',Post K F H k d F' v H'->Q v H'
      | .ex C=>∀F' H',Step F0 H0 F' H'->Ψ C H'
      | .no=>False):spV0 K φ n vs H1 Q E:=by
 simp only[fnR]at m
 by_cases hn:l.length=n
 .rw[if_pos hn]at m
  cases h2:QaS l with
  |some ds=>
   rw[h2]at m
   dsimp only at m
   have rs:=va.fz h2
   refine⟨F1,ds,s.sub,rs,by rw[rs.length,←va.length];exact hn,?_⟩
   cases h3:φ ds with
   |no=>rw[h3]at m;exact m
   |ex C=>rw[h3]at m;exact m.elim
   |ok k' d=>
    rw[h3]at m
    cases k' with
    |bo=>exact m.elim
    |fz=>exact⟨by simp,fun F' v H' p=>m F' v H' ⟨s.trans p.st,p.val.early s.keep⟩⟩
    |ow=>exact⟨by simp,fun F' v H' p=>m F' v H' ⟨s.trans p.st,p.val.early s.keep⟩⟩
  |none=>
   rw[h2]at m
   dsimp only at m
   have rs:=va.rds s.sub
   refine⟨H1,l.map (·.2), .refl _,rs,by simpa using hn,?_⟩
   cases h3:φ (l.map (·.2))with
   |no=>rw[h3]at m;exact m
   |ex C=>rw[h3]at m;exact m.elim
   |ok k' d=>
    rw[h3]at m
    have go:k'≠ .bo->(match (if Qih d=true then R.ok .fz d else .no)with
     | .ok k d=>∀F' v H',Post K F H k d F' v H'->Q v H'
     | .ex C=>∀F' H',Step F0 H0 F' H'->Ψ C H'
     | .no=>False)->k'≠ .bo/\∀F' v H',Post K H1 H1 k' d F' v H'->Q v H':=fun nb m=>by
     by_cases hs:Qih d=true
     .rw[if_pos hs]at m
      exact⟨nb,fun F' v H' p=>m F1 v H' ⟨s.trans ⟨.refl _,s.sub.trans p.st.keep,p.st.keep,fun a o e=> .inl e⟩,Qi7 hs p.val.rd⟩⟩
     .rw[if_neg hs]at m;exact m.elim
    cases k' with
    |bo=>exact m.elim
    |fz=>exact go al m
    |ow=>exact go al m
 .rw[if_neg hn]at m;exact m.elim
noncomputable abbrev MTab:=List (Str×(List D->R))
noncomputable def QcZ (m:Str)(n:Nat)(tab:MTab)(r:R)(ra:RA):R:=match r with
 | .ok .fz (.obj c ns xs)=>if m∈ns then .no else match tab.lookup c with
  |some φ=>fnR n φ (Qhp (.ok .fz (.obj c ns xs)) ra)
  |none=> .no
 | .ex C=> .ex C
 |_=> .no
noncomputable def Qir (m:Str)(n:Nat)(tab:MTab)(g:Ev->R)(fs:Ev->RA)(ev:Ev):R:=QcZ m n tab (g ev) (fs ev)
noncomputable def Qbg (P:Program)(w:World)(K:PySem.W.Frag)(mg:Str->Option Value)(base:Heap)(k:Nat)(m:Str)(n:Nat)(tab:MTab):Prop:=
 ∀c φ,(c,φ)∈tab->∃C f fd ps,PySem.W.nsIn K mainGlobals c=some (some (.ref C))/\Cls K C/\Meth K C m f/\FnOk P w K mg base CX0 k f fd ps (spV0 K φ n)/\Binds K fd ps []
section
variable {P:Program}{w:World}{K:PySem.W.Frag}{mg:Str->Option Value}{base:Heap}
theorem Qgv {k n:Nat}{m:Str}:Qbg P w K mg base k m n []:=fun _ _ h=>by simp at h
theorem Qlk {k j n:Nat}{m c:Str}{φ:List D->R}{tab:MTab}{C f:Addr}{fd:FuncData}{ps:List Str}(h:PySem.W.nsIn K mainGlobals c=some (some (.ref C)))(cl:Cls K C)(me:Meth K C m f)(F:FnOk P w K mg base CX0 j f fd ps (spV0 K φ n))(hj:j<=k)(hb:Binds K fd ps [])
  (r:Qbg P w K mg base k m n tab):Qbg P w K mg base k m n ((c,φ)::tab):=fun c' φ' q=>by
 rcases List.mem_cons.mp q with q|q
 .cases q;exact⟨C,f,fd,ps,h,cl,me,F.mono hj,hb⟩
 .exact r c' φ' q
end
theorem QfV {α:Type}{c:Str}{φ:α}:∀{tab:List (Str×α)},tab.lookup c=some φ->(c,φ)∈tab
 | [],h=>by simp at h
 |(d,ψ)::tab,h=>by
  simp only[List.lookup_cons]at h
  by_cases q:c==d
  .simp only[q]at h
   cases h
   rw[beq_iff_eq.mp q];exact List.mem_cons_self
  .simp only[q]at h
   exact List.mem_cons_of_mem _ (QfV h)
noncomputable def QrL (G:Addr->Sp->Prop)(m:Str)(ta:TE)(t:TA):TE:=fun σ H Q=>ta σ H fun x H1=>∃a C dx fs sp,x= .ref a/\H1 a=some (.ins C dx fs)/\fs.lookup m=none/\G C sp/\t σ H1 fun vs H2=>sp (x::vs) H2 Q E0
theorem Qm7 {G:Addr->Sp->Prop}{k:Nat}{m:Str}{ta:TE}{t:TA}{pl:Sem Bool}(he:PE X o ta)(hr:Room k X.A)(hG:∀C sp,G C sp->Cls X.K C/\∃f fd ps,Meth X.K C m f/\FnOk X.prog X.w X.K X.mg X.base CX0 k f fd ps sp/\Binds X.K fd ps [])(ha:PA X aO t)
  (hst:starEach aO X.env=(false,eval e X.env)::starEach es X.env:=by rfl) (hpl:(backTo pos aM).any (·.1)=false:=by rfl)
  (ht:eval (.Call (.Attribute o m apos) aO [] pos) X.env=(do
   let ov←eval o X.env
   standAt apos.atName
   let (f,first)←holding [ov] (getMethod ov m pl)
   callWith pos f first (backTo pos (starEach aO X.env)) (backToKw pos (keywordEach [] X.env))):=by rfl):
  PE X (.Call (.Attribute o m apos) aO [] pos) (QrL G m ta t):=by
 intro pins s σ H Q I h
 refine PySem.W.methodCall_KW (pl:=pl) (thn (he pins s σ H _ I h) fun u s1 ⟨x,H1,I1,rx,a,C,dx,fs,sp,ex,ea,l,gq,q⟩=>?_) ht
 subst ex
 obtain rfl:u=Value.ref a:=rx
 obtain⟨c,f,fd,ps,hm,F,hb⟩:=hG C sp gq
 refine Qj0 I1 ea c hm l ?_
 refine PySem.W.callWith_K (first:= [.ref a]) (h₀:=X.base) I.ok.mod.kin hm.kp (thn (ha pos pins s1 σ H1 _ I1 q) fun us s2 ⟨vs,H2,I2,r,q2⟩=>⟨I2.kIn,?_⟩) hst hpl
 exact QnP (us:= .ref a::us) (vs:= .ref a::vs) (dvs:= []) (ds:= []) F hr hb .nil QoF I2 (.cons rfl r) (by rw[List.append_nil];exact q2)
theorem Qji {k n:Nat}{m:Str}{tab:MTab}{pl:Sem Bool}(D0:Qbg X.prog X.w X.K X.mg X.base k m n tab)(hr:Room k X.A)(he:VE X F0 H0 Ψ o g)(ha:VA X F0 H0 Ψ aO fs)
  (hst:starEach aO X.env=(false,eval e X.env)::starEach es X.env:=by rfl) (hpl:(backTo pos aM).any (·.1)=false:=by rfl)
  (ht:eval (.Call (.Attribute o m apos) aO [] pos) X.env=(do
   let ov←eval o X.env
   standAt apos.atName
   let (f,first)←holding [ov] (getMethod ov m pl)
   callWith pos f first (backTo pos (starEach aO X.env)) (backToKw pos (keywordEach [] X.env))):=by rfl):
  VE X F0 H0 Ψ (.Call (.Attribute o m apos) aO [] pos) (Qir m n tab g fs):=by
 refine(Qm7 (G:=fun C sp=>∃c φ,(c,φ)∈tab/\PySem.W.nsIn X.K mainGlobals c=some (some (.ref C))/\sp=spV0 X.K φ n) he hr (fun C sp ⟨c,φ,q,hC,hs⟩=>?_) ha hst hpl ht).mono fun σ H Q q=>?_
 .obtain⟨C',f,fd,ps,h1,h2,h3,h4,h5⟩:=D0 c φ q
  rw[hC]at h1;cases h1
  subst hs
  exact⟨h2,f,fd,ps,h3,h4,h5⟩
 .obtain⟨F,ev,fi,mm⟩:=q
  refine⟨F,ev,fi,?_⟩
  unfold Qir QcZ at mm
  cases h1:g ev with
  |no=>rw[h1]at mm;exact mm
  |ex C=>rw[h1]at mm;exact mm
  |ok k' d=>
   rw[h1]at mm
   intro F1 x H1 p1
   cases k' with
   |ow=>exact mm.elim
   |bo=>exact mm.elim
   |fz=>
    cases d with
    |obj c ns xs=>
     dsimp only at mm
     by_cases hm:m∈ns
     .rw[if_pos hm]at mm;exact mm.elim
     .rw[if_neg hm]at mm
      cases q:tab.lookup c with
      |none=>rw[q]at mm;exact mm.elim
      |some φ=>
       rw[q]at mm
       have mm:match fnR n φ (Qhp (.ok .fz (.obj c ns xs)) (fs ev))with
        | .ok k d=>∀F' v H',Post X.K F H k d F' v H'->Q v H'
        | .ex C=>∀F' H',Step F0 H0 F' H'->Ψ C H'
        | .no=>False:=mm
       obtain⟨a,C,dx,vs,rfl,hC,ha',hl,rs⟩:=p1.val.rd.obj p1.st.sub
       refine⟨a,C,dx,_,spV0 X.K φ n,rfl,ha',Qck hm,⟨c,φ,QfV q,hC,rfl⟩,F1,ev,fi.later p1.st,?_⟩
       cases h2:fs ev with
       |no=>rw[h2]at mm;exact mm
       |ex C=>rw[h2]at mm;exact mm
       |ok l=>
        rw[h2]at mm
        intro F2 us H2 s2 va
        exact QrK (F0:=F0) (H0:=H0) (Ψ:=Ψ) (l:=(frzK .fz, .obj c ns xs)::l) (p1.st.trans s2) ⟨_,us,rfl,by simp[frzK],p1.val.later s2,va.early p1.st.keep⟩ mm
    |_=>exact mm.elim
end
noncomputable def Qac (ev:Ev):List (Ev->R)->Option (List D)
 | []=>some []
 |f::fs=>match f ev with
  | .ok .bo _=>none
  | .ok _ d=>(Qac ev fs).map (d:: ·)
  |_=>none
noncomputable def Qis (fs:List (Ev->R))(ds:List D):Option (List D):=Qac (none::ds.map fun d=>some (.fz,d)) fs
noncomputable def spI (K:PySem.W.Frag)(ns:List Str)(fs:List (Ev->R))(n:Nat):Sp:=fun vs H Q _=>∃F0 H0 x C dx ds rest ds',vs= .ref x::rest/\H=upd (upd H0 dx (.own x)) x (.ins C dx [])/\H0 x=none/\H0 dx=none/\dx≠x/\Same F0 H0/\Reps K F0 ds rest/\ds.length+1=n/\
 Cls K C/\(∀f∈ns,NoAttr K C f)/\Qis fs ds=some ds'/\∀F' H' vs',Step F0 H0 F' H'->F' x=none->H' x=some (.ins C dx (ns.zip vs'))->Reps K F' ds' vs'->Q .non H'
noncomputable def tI (K:PySem.W.Frag)(F0 H0:Hp)(x C dx:Addr)(ns:List Str)(fs:List (Ev->R)):TS:=fun D σ H=>∃F ev ns0 vs0 ds',FI K F0 H0 F H ev σ/\(∀(i:Nat) k d,ev[i]?=some (some (k,d))->k= .fz)/\σ[0]?=some (some (.ref x))/\F x=none/\H0 x=none/\
 H x=some (.ins C dx (ns0.zip vs0))/\ns0.length=vs0.length/\Cls K C/\(∀f∈ns,NoAttr K C f)/\(ns0++ns).Nodup/\(ns0++ns).length<1000/\Qac ev fs=some ds'/\
 ∀F' H' σ' vs',Step F0 H0 F' H'->F' x=none->Same F F'->H' x=some (.ins C dx ((ns0++ns).zip (vs0++vs')))->Reps K F' ds' vs'->D.nx σ' H'
section
variable {X:Cx}{F0 H0:Hp}{x C dx:Addr}{ns:List Str}{fs:List (Ev->R)}{f:Ev->R}{fld sl:Str}{e:Expr}{rest:List Stmt}{p apos pos:Pos}
theorem QnZ:PSs X [] (tI X.K F0 H0 x C dx [] []):=pss_nil.mono fun D σ H q=>by
 obtain⟨F,ev,ns0,vs0,ds',fi,hf,h0,hF,hH,hx,hl,cl,na,nd,hlen,e,m⟩:=q
 cases e
 exact m F H σ [] fi.st hF (.refl _) (by rw[List.append_nil,List.append_nil];exact hx) .nil
theorem Qjj {f:Str}{y:V}:∀{ns:List Str} {vs:List V},f∉ns->ns.length=vs.length->putF f y (ns.zip vs)=(ns++ [f]).zip (vs++ [y])
 | [],[],_,_=>rfl
 | [],_::_,_,h=>by simp at h
 |_::_,[],_,h=>by simp at h
 |n::ns,v::vs,h,hl=>by
  have q:¬n=f:=by rintro rfl;exact h List.mem_cons_self
  have i:=Qjj (f:=f) (y:=y) (ns:=ns) (vs:=vs) (fun m=>h (List.mem_cons_of_mem _ m)) (by simpa using hl)
  simp only[List.zip_cons_cons,List.cons_append,putF,q,if_false,i]
theorem Qe2 (he:VE X F0 H0 Psi0 e f)(hr:PSs X rest (tI X.K F0 H0 x C dx ns fs))(hN:X.N[0]?=some sl:=by rfl)(hv:Vis X.env.scope sl:=by first|exact Or.inl rfl|exact Or.inr (Or.inl rfl)|exact Or.inr (Or.inr rfl))(hd:(sl==("__debug__":Str))=false:=by decide)
  (hcd:(sl==("__classdict__":Str))=false:=by decide) (hs:swapsWith e (some (.Attribute (.Name sl p) fld apos)) pos.line X.env=pure false:=by rfl):
  PSs X (.Assign [.Attribute (.Name sl p) fld apos] e pos::rest) (tI X.K F0 H0 x C dx (fld::ns) (f::fs)):=by
 refine(Qi1 (QqV (QeJ hN hv hd hcd) he hs) hr).mono fun D σ H q=>?_
 obtain⟨F,ev,ns0,vs0,ds',fi,hf,h0,hF,hH,hx,hl,cl,na,nd,hlen,e,m⟩:=q
 refine⟨F,ev,fi,?_⟩
 unfold Qac at e
 cases h1:f ev with
 |no=>rw[h1]at e;cases e
 |ex C=>rw[h1]at e;cases e
 |ok k d=>
  rw[h1]at e
  intro F1 y H1 p1
  have key:∀F1,Post X.K F H .fz d F1 y H1->(Qac ev fs).map (d:: ·)=some ds'->tVar 0 σ H1 fun x' H2=>∃a C1 dx1 gs,x'= .ref a/\H2 a=some (.ins C1 dx1 gs)/\Cls X.K C1/\NoAttr X.K C1 fld/\gs.length<1000/\
    tI X.K F0 H0 x C dx ns fs D σ (upd H2 a (.ins C1 dx1 (putF fld y gs))):=fun F1 p1 e=>by
   have hF1:F1 x=none:=p1.st.unfz hx hF
   have hx1:H1 x=some (.ins C dx (ns0.zip vs0)):=p1.st.keep _ _ hx
   have fi1:=fi.later p1.st
   have hfn:fld∉ns0:=fun z=>(List.nodup_append.mp nd).2.2 fld z fld List.mem_cons_self rfl
   have hlen':(ns0.zip vs0).length<1000:=by
    rw[List.length_zip];simp only[List.length_append]at hlen;omega
   refine⟨.ref x,h0,x,C,dx,_,rfl,hx1,cl,na fld List.mem_cons_self,hlen',?_⟩
   cases e2:Qac ev fs with
   |none=>rw[e2]at e;cases e
   |some ds2=>
    rw[e2]at e;cases e
    refine⟨F1,ev,ns0++ [fld],vs0++ [y],ds2,⟨⟨fi1.st.up,fun b o q=>?_,fun b o q=>?_,fi1.st.new⟩,fun i k' d' q=>?_,fun i j d1 d2 hij q1 _=>?_,fi1.len⟩,hf,h0,hF1,hH,?_,by simp[hl],cl,fun g hg=>na g (List.mem_cons_of_mem _ hg),?_,?_,e2,fun F' H' σ' vs' st hn sm hh rs=>?_⟩
    .rw[Ql];exact fi1.sub _ _ q
     rintro rfl;rw[hF1]at q;cases q
    .rw[Ql];exact fi1.st.keep _ _ q
     rintro rfl;rw[hH]at q;cases q
    .obtain⟨nb,v,e3,hv'⟩:=fi1.at_ i k' d' q
     refine⟨nb,v,e3,?_⟩
     have:=hf i k' d' q;subst this
     exact hv'
    .have:=hf i _ _ q1;cases this
    .rw[Qs,Qjj hfn hl]
    .rw[List.append_assoc];exact nd
    .rw[List.append_assoc];exact hlen
    .refine m F' H' σ' (y::vs') st hn (p1.st.up.trans sm) ?_ (.cons (p1.val.mono sm) rs)
     rw[List.append_assoc,List.append_assoc]at hh
     exact hh
  cases k with
  |bo=>cases e
  |fz=>exact key F1 p1 e
  |ow=>obtain⟨F2,p2⟩:=p1.frz;exact key F2 p2 e
end
section
variable {P:Program}{w:World}{K:PySem.W.Frag}{mg:Str->Option Value}{base:Heap}
structure FunD (K:PySem.W.Frag)(x qual:Str)(st:Stmt)(f:Addr)(dV:Value)(fd:FuncData):Prop where
 ex:∃(oc:Value) (od:Option Addr) (kV doc pm:Value) (an:Option Addr) (cdv ct:Value) (osl:Array (Option Value)),
  fd=PySem.W.fnOf x qual (Qaz st) (QX st) (Qg st) dV kV doc pm an cdv ct/\K.lookup f=some ⟨oc,od, .func fd,osl⟩/\PySem.W.codeIn K cdv qual=true
theorem Qpt {x qual:Str}{st:Stmt}{f:Addr}{oc:Value}{od an:Option Addr}{osl:Array (Option Value)}{dV kV doc pm cdv ct:Value}(l:K.lookup f=some ⟨oc,od, .func (PySem.W.fnOf x qual (Qaz st) (QX st) (Qg st) dV kV doc pm an cdv ct),osl⟩)
  (c:PySem.W.codeIn K cdv qual=true):FunD K x qual st f dV (PySem.W.fnOf x qual (Qaz st) (QX st) (Qg st) dV kV doc pm an cdv ct):=⟨⟨oc,od,kV,doc,pm,an,cdv,ct,osl,rfl,l,c⟩⟩
theorem FunD.ok {x qual:Str}{st:Stmt}{f:Addr}{dV:Value}{fd:FuncData}{N ps:List Str}{k:Nat}{sp:Sp}(F:FunD K x qual st f dV fd)(S:FnScope N ps (Qg st))(len:∀vs H Q E,sp vs H Q E->vs.length=ps.length)
  (hbody:∀(cdv:Value) (A:Around) (outer:List Env) (s:Shared) (H:Hp) (vs:List V) (Q:VK) (E:XK),Room k (A.deeper (PyProof.Rows.envOfC qual (Qg st) s.heap.objs.size f cdv))->sp vs H Q E->
   ∃t,PSs (cxOf CX0 P w K mg base N qual (Qg st) f cdv A outer s H E).nox (QX st) t/\t {nx:=fun _ H'=>Q .non H',rt:=Q} (start N vs) H):FnOk P w K mg base CX0 (k+1) f fd ps sp:=by
 obtain⟨oc,od,kV,doc,pm,an,cdv,ct,osl,rfl,lk,hcd⟩:=F.ex
 refine QqY lk hcd S len fun A outer s H vs Q E hr hsp=>?_
 obtain⟨t,h,q⟩:=hbody cdv A outer s H vs Q E hr hsp
 exact⟨t,h.nox,q⟩
theorem Qll {x qual:Str}{st:Stmt}{f:Addr}{dV:Value}{fd:FuncData}{ps ns:List Str}{k:Nat}{fs:List (Ev->R)}(F:FunD K x qual st f dV fd)(S:FnScope ps ps (Qg st))(hnd:ns.Nodup)(hlen:ns.length<1000)
  (hb:∀(cdv:Value) (A:Around) (outer:List Env) (s:Shared) (H:Hp) (E:XK) (F0 H0:Hp) (o C dx:Addr),Room k (A.deeper (PyProof.Rows.envOfC qual (Qg st) s.heap.objs.size f cdv))->
   PSs (cxOf CX0 P w K mg base ps qual (Qg st) f cdv A outer s H E).nox (QX st) (tI K F0 H0 o C dx ns fs)):
  FnOk P w K mg base CX0 (k+1) f fd ps (spI K ns fs ps.length):=by
 refine F.ok S (fun vs H Q E h=>?_) (fun cdv A outer s H vs Q E hr h=>?_)
 .obtain⟨F0,H0,x,C,dx,ds,rest,ds',rfl,_,_,_,_,_,r,hl,_⟩:=h
  rw[List.length_cons,←r.length];exact hl
 .obtain⟨F0,H0,x,C,dx,ds,rest,ds',rfl,hH,hx,hdx,hne,sub,r,hl,cl,na,e,m⟩:=h
  refine⟨_,hb cdv A outer s H E F0 H0 x C dx hr,F0,none::ds.map (fun d=>some (.fz,d)),[],[],ds',⟨⟨.refl _,fun b o q=>?_,fun b o q=>?_,fun a o q=> .inl q⟩,fun i k' d q=>?_,fun i j d1 d2 hij q1 _=>?_,?_⟩,fun i k' d q=>?_,?_,?_,hx,?_,rfl,cl,na,hnd,hlen,e,fun F' H' σ' vs' st hn _ hh rs=>m F' H' vs' st hn hh rs⟩
  .have:=sub _ _ q
   subst hH
   rw[Ql,Ql];exact this
   .rintro rfl;rw[hdx]at this;cases this
   .rintro rfl;rw[hx]at this;cases this
  .subst hH
   rw[Ql,Ql];exact q
   .rintro rfl;rw[hdx]at q;cases q
   .rintro rfl;rw[hx]at q;cases q
  .cases i with
   |zero=>simp at q
   |succ i=>
    rw[List.getElem?_cons_succ,List.getElem?_map]at q
    cases z:ds[i]? with
    |none=>rw[z]at q;cases q
    |some d0=>
     rw[z]at q;cases q
     obtain⟨v,e1,rv⟩:=r.get z
     refine⟨by simp,v,?_,rv⟩
     unfold L2.start
     have hi:i+1<((V.ref x::rest).map some).length:=by
      simp only[List.map_cons,List.length_cons,List.length_map]
      have:=(List.getElem?_eq_some_iff.mp e1).1;omega
     rw[List.getElem?_append_left hi,List.map_cons,List.getElem?_cons_succ,List.getElem?_map,e1]
     rfl
  .cases i with
   |zero=>simp at q1
   |succ i=>
    rw[List.getElem?_cons_succ,List.getElem?_map]at q1
    cases z:ds[i]? with
    |none=>rw[z]at q1;cases q1
    |some d0=>rw[z]at q1;cases q1
  .have:=r.length
   unfold L2.start
   simp only[List.length_cons,List.length_append,List.length_map,List.length_replicate];omega
  .cases i with
   |zero=>simp at q
   |succ i=>
    rw[List.getElem?_cons_succ,List.getElem?_map]at q
    cases z:ds[i]? with
    |none=>rw[z]at q;cases q
    |some d0=>rw[z]at q;cases q;rfl
  .unfold L2.start;rfl
  .exact sub.free hx
  .subst hH;rw[Qs];rfl
structure MkOk (P:Program)(w:World)(K:PySem.W.Frag)(mg:Str->Option Value)(base:Heap)(k:Nat)(c:Str)(ns:List Str)(fs:List (Ev->R))(n:Nat)(dv:List D):Prop where
 ex:∃C f fd ps dvs ds,PySem.W.nsIn K mainGlobals c=some (some (.ref C))/\mg c=some (.ref C)/\Cls K C/\(∀f∈ns,NoAttr K C f)/\Mk K C f/\FnOk P w K mg base CX0 k f fd ps (spI K ns fs n)/\Binds K fd ps ds/\Vals dvs ds/\(∀F,Reps K F dv dvs)/\ns.length=fs.length
end
noncomputable def Qit (c:Str)(ns:List Str)(fs:List (Ev->R))(n:Nat)(dv:List D):RA->R
 | .ok l=>match QaS l with
  |some ds=>if ds.length+dv.length+1=n then(match Qis fs (ds++dv)with
   |some ds'=> .ok .fz (.obj c ns ds')
   |none=> .no)else .no
  |none=> .no
 | .ex C=> .ex C
 | .no=> .no
noncomputable def Qlm (c:Str)(ns:List Str)(fs:List (Ev->R))(n:Nat)(dv:List D)(as:Ev->RA)(ev:Ev):R:=Qit c ns fs n dv (as ev)
theorem QcP {ev:Ev}:∀{fs:List (Ev->R)} {ds:List D},Qac ev fs=some ds->ds.length=fs.length
 | [],_,h=>by cases h;rfl
 |f::fs,ds,h=>by
  unfold Qac at h
  have go:∀d,(Qac ev fs).map (d:: ·)=some ds->ds.length=(f::fs).length:=fun d h=>by
   cases q:Qac ev fs with
   |none=>rw[q]at h;cases h
   |some ds'=>rw[q]at h;cases h;simp[QcP q]
  cases q:f ev with
  |no=>rw[q]at h;cases h
  |ex C=>rw[q]at h;cases h
  |ok k d=>
   rw[q]at h
   cases k with
   |bo=>cases h
   |fz=>exact go d h
   |ow=>exact go d h
section
variable {X:Cx}{F0 H0:Hp}{Ψ:Psi}{k n:Nat}{c:Str}{ns:List Str}{fs:List (Ev->R)}{dv:List D}{as:Ev->RA}{e:Expr}{es:List Expr}{p pos:Pos}
theorem Qpu {K:PySem.W.Frag}{F H F1 H1 F' H':Hp}{x C dx:Addr}{ds':List D}{vs':List V}(s:Step F H F1 H1)(hx:H1 x=none)(st:Step F1 H1 F' H')(hn:F' x=none)(hC:PySem.W.nsIn K mainGlobals c=some (some (.ref C)))(hl:ns.length=vs'.length)
  (hh:H' x=some (.ins C dx (ns.zip vs'))) (rs:Reps K F' ds' vs'):∃F2,Post K F H .fz (.obj c ns ds') F2 (.ref x) H':=by
 have up:Same F' (upd F' x (.ins C dx (ns.zip vs'))):=fun b o q=>by
  rw[Ql];exact q
  rintro rfl;rw[hn]at q;cases q
 have s':=s.trans st
 refine⟨upd F' x (.ins C dx (ns.zip vs')),⟨s'.up.trans up,fun b o q=>?_,s'.keep,fun b o q=>?_⟩,?_⟩
 .by_cases hb:b=x
  .subst hb;rw[Qs]at q;cases q;exact hh
  .rw[Ql hb]at q;exact s'.sub _ _ q
 .by_cases hb:b=x
  .subst hb;exact .inr (s.keep.free hx)
  .rw[Ql hb]at q;exact s'.new _ _ q
 .show Rep _ _ _ _
  rw[Rep]
  exact⟨x,C,dx,vs',rfl,hC,Qs,hl,rs.mono up⟩
theorem Qn0 (M:MkOk X.prog X.w X.K X.mg X.base k c ns fs n dv)(hr:Room (k+1) X.A)(ha:VA X F0 H0 Ψ aO as)(hg:Gl X c:=by rfl)(hdb:(c==("__debug__":Str))=false:=by decide)
  (he:starEach aO X.env=(false,eval e X.env)::starEach es X.env:=by rfl) (hpl:(backTo pos aM).any (·.1)=false:=by rfl):
  VE X F0 H0 Ψ (.Call (.Name c p) aO [] pos) (Qlm c ns fs n dv as):=by
 obtain⟨C,f,fd,ps,dvs,dsv,hC,hm,cl,na,mk,Fk,hb,hd,rd,hnf⟩:=M.ex
 refine(Qox (E:=E0) mk Fk hr hg hm hb hd QoF ha hdb he hpl).mono fun σ H Q h=>?_
 obtain⟨F,ev,fi,m⟩:=h
 refine⟨F,ev,fi,?_⟩
 unfold Qlm at m
 cases h1:as ev with
 |no=>rw[h1]at m;exact m
 |ex C=>rw[h1]at m;exact m
 |ok l=>
  rw[h1]at m
  intro F1 vs H1 s va x dx hx hdx hne
  simp only[Qit]at m
  cases h2:QaS l with
  |none=>rw[h2]at m;exact m.elim
  |some ds=>
   rw[h2]at m
   dsimp only at m
   by_cases hn:ds.length+dv.length+1=n
   .rw[if_pos hn]at m
    cases h3:Qis fs (ds++dv)with
    |none=>rw[h3]at m;exact m.elim
    |some ds'=>
     rw[h3]at m
     refine⟨F1,H1,x,C,dx,ds++dv,vs++dvs,ds',rfl,rfl,hx,hdx,hne,s.sub,(va.fz h2).app (rd F1),by rw[List.length_append];exact hn,cl,na,h3,fun F' H' vs' st hn' hh rs=>⟨rfl,?_⟩⟩
     obtain⟨F2,p2⟩:=Qpu (K:=X.K) (ns:=ns) s hx st hn' hC (by rw[←rs.length,QcP h3];exact hnf) hh rs
     exact m F2 _ _ p2
   .rw[if_neg hn]at m;exact m.elim
end
end L3
namespace L3
open PySem L2 PySem.W
section
variable {X:Cx}{C:Addr}{x:Str}{p pos:Pos}
end
section
variable {X:Cx}{F0 H0:Hp}{Ψ:Psi}{e:Expr}{g:Ev->R}{s:Str}{p p2 pos:Pos}{tab:List (Str×Bool)}
end
section
variable {P:Program}{w:World}{K:PySem.W.Frag}{mg:Str->Option Value}{base:Heap}
end
section
variable {X:Cx}{F0 H0:Hp}{Ψ:Psi}{k n:Nat}{c:Str}{ns ks:List Str}{fs:List (Ev->R)}{as ka:Ev->RA}{g:Ev->R}{e:Expr}{es:List Expr}{kws:List Keyword}{p pos kpos:Pos}{nm:Option Str}
end
theorem Qhy {K:PySem.W.Frag}{fd:FuncData}{ps:List Str}{ds:List Value}(k:Nat)(hk:k+ds.length=ps.length)(h:∀(s:Shared) (us:List Value),K.In s.heap->us.length=k->BindsTo s fd ⟨us,[]⟩ (ps.zip (us++ds))):Binds K fd ps ds:=
 fun s us kin hl=>h s us kin (by rw[List.length_append]at hl;omega)
end L3
namespace L3
open PySem L2
section
variable {X:Cx}{F0 H0:Hp}{Ψ:Psi}{a b e:Expr}{f f1 f2:Ev->R}{p2 pos pos':Pos}
noncomputable def truR:R->R
 | .ok _ (.bl b)=> .ok .fz (.bl b)
 | .ok _ (.lst xs)=> .ok .fz (.bl (!xs.isEmpty))
 | .ok _ .non=> .ok .fz (.bl false)
 | .ok _ _=> .no
 | .ex C=> .ex C
 | .no=> .no
noncomputable def eTru (f:Ev->R)(ev:Ev):R:=truR (f ev)
theorem QrM (he:VE X F0 H0 Ψ e f)(ht:∀whole,isTrue e X.env whole=(do let v←whole;standAt e.pos;holding [v] (truthy v)):=by intro _;rfl):VT X F0 H0 Ψ e (eTru f):=
 (Qmo he ht).mono fun σ H Q h=>by
  obtain⟨F,ev,fi,m⟩:=h
  refine⟨F,ev,fi,?_⟩
  unfold eTru at m
  cases h1:f ev with
  |no=>rw[h1]at m;exact m
  |ex C=>rw[h1]at m;exact m
  |ok k d=>
   rw[h1]at m
   intro F1 x H1 p1
   cases d with
   |bl b=>rw[p1.val.rd.bl];exact⟨b,rfl,m F1 H1 p1.st⟩
   |non=>rw[p1.val.rd.non];exact⟨false,rfl,m F1 H1 p1.st⟩
   |lst xs=>
    obtain⟨o,vs,rfl,ha,rs⟩:=p1.val.rd.lst p1.st.sub
    refine⟨!xs.isEmpty, .inl ⟨vs, .inl (.inl ha),?_⟩,m F1 H1 p1.st⟩
    have:=rs.length
    cases xs<;>cases vs<;>first|rfl|simp at this
   |_=>exact m.elim
noncomputable def augG (i:Nat)(f:Ev->R)(ev:Ev):Fl:=match ev[i]? with
 |some (some (.fz, .int a))=>match f ev with
  | .ok _ (.int b)=> .nx (ev.set i (some (.fz, .int (a+b))))
  | .ex C=> .ex C
  |_=> .no
 |_=> .no
theorem QrN (i:Nat){x:Str}(nd:X.N.Nodup)(he:VE X F0 H0 Ψ e f)(hN:X.N[i]?=some x:=by rfl)(hx:Loc X.env.scope x:=by first|exact Or.inl rfl|exact Or.inr rfl)(hf:X.fn x=true\/X.env.scope.names.lookup x=some .local:=by first|exact .inl rfl|exact .inr rfl):
  VS X F0 H0 Ψ (.AugAssign (.Name x pos') .Add e pos) (augG i f):=
 (QqH nd hN hx he QqI hf).mono fun E σ H q=>by
  obtain⟨F,ev,fi,m⟩:=q
  unfold augG at m
  split at m
  .rename_i n h0
   obtain⟨_,v,e1,hv⟩:=fi.at_ _ _ _ h0
   have hv':v= .int n:=by have:Rep X.K F (.int n) v:=hv;rw[Rep]at this;exact this
   subst hv'
   refine⟨_,e1,F,ev,fi,?_⟩
   cases h1:f ev with
   |no=>rw[h1]at m;exact m
   |ex C=>rw[h1]at m;exact m
   |ok k d=>
    rw[h1]at m
    intro F1 y H1 p1
    cases d with
    |int j=>
     refine⟨n,j,rfl,p1.val.rd.int,m F1 H1 _ p1.st.up (FI.set (k:= .fz) (fi.later p1.st) ⟨.refl p1.st.sub,by rw[Val,Rep]⟩ al)⟩
    |_=>exact m.elim
  .exact m.elim
end
end L3
namespace L2
open PySem PySem.Spec PyProof.Rows
noncomputable def Ite (K:PySem.W.Frag)(a:Addr):It:=
 ⟨fun i H => ∃ xs x, SqL K H a xs ∧ xs[i]? = some x,
  fun i H v H'=>∃x p,(∀xs,SqL K H a xs->xs[i]?=some x)/\H p=none/\v= .ref p/\H'=upd H p (.tup [.int (i:Nat),x]),
  fun i H=>∃xs,SqL K H a xs/\xs.length<=i⟩
noncomputable def QrO (e it a:Addr)(i:Nat)(h:Heap):Prop:=(∃old,IsEnum h e it (i:Nat) old)/\h.IsListIter it a i
theorem Qln {P:Program}{w:World}{K:PySem.W.Frag}{elts:List Expr}{k1}{pos:Pos}(e it a:Addr)(hne:e≠it):
  Turn P w K (.Tuple elts k1 pos) (Ite K a) [e,it] e (QrO e it a) where
 mem:=by simp
 obj:=fun i h st c hc=>by
  obtain⟨⟨old,h1⟩,⟨o4,h4,c4,d4⟩⟩:=st
  simp at hc
  rcases hc with rfl|rfl
  .exact⟨_,h1,fun v q=>by cases q⟩
  .exact⟨_,h4,fun v q=>by rw[d4]at q;cases q⟩
 keep:=fun i h h' st k=>by
  obtain⟨⟨old,h1⟩,h4⟩:=st
  exact⟨⟨old,k e al _ h1⟩,h4.at fun o q=>k it al o q⟩
 item:=by
  intro X hP hw hK hc i pins s σ H E I hf st hg
  subst hP hw hK
  obtain⟨xs,x,hqa,hx⟩:=hg
  obtain⟨⟨old,h1⟩,h4⟩:=st
  obtain⟨ita,rva,pa,hza⟩:=I.list hqa
  obtain⟨ux,hux,rux⟩:=rva.get hx
  refine wpAny_pyNext_enum_item h1 h4 pa.isList (x:=ux) (by simpa using hux) hne fun h' a1 a2 a3 a4 hk=>?_
  refine⟨_,rfl,wpAny_letOwnedTupleGo_enum a1 fun h'' hz'' hs''=>?_⟩
  have fr:∀c∈ [e,it],s.heap.objs.size≠c:=fun c hc q=>by
   simp at hc
   have lt:∀{o},s.heap.get? c=some o->False:=fun e2=>by have:=Heap.lt_size e2;rw[←q]at this;exact Nat.lt_irrefl _ this
   rcases hc with rfl|rfl
   .exact lt h1
   .obtain⟨_,e4,_⟩:=h4;exact lt e4
  have hfz:H s.heap.objs.size=none:=I.hok.fresh am
  have zs:s.heap.objs.size≠e:=fr e al
  have I1:Inv X pins σ (upd H s.heap.objs.size (.tup [.int (i:Nat),x])) {s with heap:=s.heap.push {cls:= .type "tuple",data:= .seq #[.int (i:Nat) s.toks,ux]},toks:=s.toks+1}:=
   I.laid (t':=s.toks+1) (fun _ _ q=>Heap.get?_push_of_some _ q) am ⟨by show 2<=sizeLine;decide,[.int (i:Nat) s.toks,ux], .cons ⟨_,rfl⟩ (.cons rux .nil),⟨_,Heap.get?_push_size _ rfl,rfl,_,rfl⟩⟩
  have hf1:∀c∈ [e,it],FpOk X pins (upd H s.heap.objs.size (.tup [.int (i:Nat),x])) c:=fun c hc=>by
   obtain⟨f0,f⟩:=hf c hc
   exact⟨by rw[Ql (fun q=>fr c hc q.symm)];exact f0,f⟩
  have I2:Inv X pins σ (upd H s.heap.objs.size (.tup [.int (i:Nat),x])) {s with heap:=h'',toks:=s.toks+1}:=by
   have key:∀c o,c∉ [e,it]->(s.heap.push {cls:= .type "tuple",data:= .seq #[.int (i:Nat) s.toks,ux]}).get? c=some o->h''.get? c=some o:=?_
   .exact Inv.turnedL (s:={s with heap:=s.heap.push {cls:= .type "tuple",data:= .seq #[.int (i:Nat) s.toks,ux]},toks:=s.toks+1}) (t':=s.toks+1) (h':=h'') (fp:= [e,it]) I1 key hf1
   intro c o hc q
   simp at hc
   rcases Heap.get?_push_cases q with⟨rfl,rfl⟩|q'
   .exact hs''.extBut _ _ zs a3
   .exact hs''.extBut _ _ hc.1 (hk c o hc.1 hc.2 q')
  refine⟨.ref s.heap.objs.size,_,I2,rfl,⟨x,s.heap.objs.size,fun xs' hq=>by rw[I.list_inj hq hqa];exact hx,hfz,rfl,rfl⟩,?_,fun c hc=>(hf1 c hc).1⟩
  exact⟨⟨_,by simpa using hz''⟩,a2.extBut hs''.extBut (Ne.symm hne)⟩
 done:=by
  intro X hP hw hK hc i pins s σ H E I hf st hg
  subst hP hw hK
  obtain⟨xs,hqa,hl⟩:=hg
  obtain⟨⟨old,h1⟩,h4⟩:=st
  obtain⟨ita,rva,pa,hza⟩:=I.list hqa
  have hla:=rva.length
  refine wpAny_pyNext_enum_end (I.ok.hd hc) h1 h4 pa.isList (by simp;omega) fun h' hk=>⟨rfl,I.turnedL (t':=s.toks) (fp:= [e,it]) (fun c o hc q=>?_) hf⟩
  simp at hc
  exact hk c o hc.2 q
 self:=fun _ _ _ _ _ st h=>by
  obtain⟨⟨old,h1⟩,h4⟩:=st
  exact wpAny_pyIter_enum h1 h
section
variable {X:Cx}
noncomputable def iEnm (K:PySem.W.Frag)(tl:TE):TI:=fun σ H R=>tl σ H fun x H1=>∃a xs,x= .ref a/\SqL K H1 a xs/\R (Ite K a) H1
noncomputable def on1 (P:V->Hp->Prop):List V->Hp->Prop
 | [x],H=>P x H
 |_,_=>False
theorem QrP {P:V->Hp->Prop}{vs:List V}{H:Hp}(q:on1 P vs H):∃x,vs= [x]/\P x H:=by
 cases vs with
 |nil=>exact q.elim
 |cons x l=>cases l with
  |nil=>exact⟨x,rfl,q⟩
  |cons y l=>exact False.elim q
theorem Qpv {elts:List Expr}{k1:Nat}{tp:Pos}{a:Expr}{ta:TE}{p pos:Pos}(hg:Gl X "enumerate")(hm:X.mg "enumerate"=none)(ha:PE X a ta)(hs:starEach [a] X.env= [(false,eval a X.env)]:=by rfl):
  PI X (.Tuple elts k1 tp) (.Call (.Name "enumerate" p) [a] [] pos) (iEnm X.K ta):=by
 intro pins s σ H R I h
 refine Call_ (Qdu I hg hm (by rfl) (PyProof.Rows.callWith_type1 (thn ((Qbl ha pa_nil hs) pos pins s σ H (on1 fun x H1=>∃a xs,x= .ref a/\SqL X.K H1 a xs/\R (Ite X.K a) H1) I h) fun us s1 ⟨vs,H1,I1,r1,q1⟩=>?_) hs rfl))
 obtain⟨x0,rfl,q1⟩:=QrP q1
 obtain⟨u,rfl,r⟩:=Qdw r1
 obtain⟨a',xs,e,hqa,q⟩:=q1
 subst e
 obtain rfl:u= .ref a':=r
 obtain⟨ita,rva,pa,hza⟩:=I1.list hqa
 refine call_enumerate_list pa.isList fun h' g1 g2 g3 g4=>?_
 have I2:Inv X pins σ H1 {s1 with heap:=h'}:=I1.kept (t':=s1.toks) g4
 refine wpAny_pyIter_enum g1 ?_
 refine⟨s1.heap.objs.size+1,[s1.heap.objs.size+1,s1.heap.objs.size],_,_,H1,rfl,I2,Qln _ _ a' (Nat.succ_ne_self _),⟨⟨_,g1⟩,g2⟩,fun c hc=>?_,q⟩
 have hle: @LE.le Nat _ s1.heap.objs.size c:=by simp at hc;rcases hc with rfl|rfl<;>omega
 exact I1.fpOk hle (I1.hok.fresh hle)
end
end L2
namespace L3
open PySem L2
section
variable {X:Cx}{F0 H0:Hp}{Ψ:Psi}
noncomputable def Qhz (xs:List D):List D:=xs.zipIdx.map fun p=> .tup [.int (p.2:Nat),p.1]
theorem QhA {xs:List D}{i:Nat}(h:i<xs.length):(Qhz xs)[i]?=some (.tup [.int (i:Nat),xs[i]]):=by
 unfold Qhz
 rw[List.getElem?_map,List.getElem?_zipIdx,List.getElem?_eq_getElem h];simp
theorem QdC {xs:List D}:(Qhz xs).length=xs.length:=by simp[Qhz]
theorem Qiu {K:PySem.W.Frag}{F:Hp}{a:Addr}{vs:List V}{ds:List D}(h:SqL K F a vs)(r:Reps K F ds vs):Yields K F (Ite K a) (Qhz ds) where
 go:=fun i H s hi=>by
  rw[QdC]at hi
  have hi':i<vs.length:=by rw[←r.length];exact hi
  exact⟨vs,vs[i],Same.seq s h,List.getElem?_eq_getElem hi'⟩
 stop:=fun i H s hi=>⟨vs,Same.seq s h,by rw[QdC]at hi;rw[←r.length];exact hi⟩
 yld:=fun i F1 H x H' s1 s2 hi y=>by
  rw[QdC]at hi
  obtain⟨x',p',g1,hp',rfl,rfl⟩:=y
  obtain⟨vx,e1,r1⟩:=r.get (List.getElem?_eq_getElem hi)
  have e3:=g1 vs (Same.seq (s1.trans s2) h)
  rw[e1]at e3;cases e3
  obtain⟨F3,p3⟩:=Post.made (K:=K) (F:=F1) (H:=H) (d:= .tup [.int (i:Nat),ds[i]]) (o:= .tup [.int (i:Nat),x']) (.refl s2) hp' fun F4 up e=>by
   rw[Rep];exact⟨p',_,rfl,e, .cons (by rw[Rep]) (.cons ((r1.mono s1).mono up) .nil)⟩
  exact⟨F3,_,p3.st,QhA hi,p3.val⟩
noncomputable def mapI (g:List D->List D):RI->RI
 | .ok ds=> .ok (g ds)
 | .ex C=> .ex C
 | .no=> .no
theorem Qpw {K:PySem.W.Frag}{σ:St}{H:Hp}{f:Ev->R}{g:List D->List D}{J:Addr->Nat->It}{Q:It->Hp->Prop}(hy:∀F a vs ds,SqL K F a vs->Reps K F ds vs->Yields K F (J a vs.length) (g ds))
  (h:tVI K F0 H0 Ψ (fun ev=>mapI g (itR (f ev))) σ H Q):tV K F0 H0 Ψ f σ H (fun x H1=>∃a xs,x= .ref a/\SqL K H1 a xs/\Q (J a xs.length) H1):=by
 obtain⟨F,ev,fi,m⟩:=h
 dsimp only at m
 refine⟨F,ev,fi,?_⟩
 cases h1:f ev with
 |no=>rw[h1]at m;exact m
 |ex C=>rw[h1]at m;exact m
 |ok k d=>
  rw[h1]at m
  intro F1 v H1 p
  have go:∀F2,Post K F H .fz d F2 v H1->(∀ds,itR (.ok .fz d)= .ok ds->∀F' H' J,Step F H F' H'->Yields K F' J (g ds)->Q J H')->(∀ds,d= .lst ds\/d= .scr ds->∃a xs,v= .ref a/\SqL K H1 a xs/\Q (J a xs.length) H1):=fun F2 p2 m ds hd=>by
   rcases hd with rfl|rfl
   .have r:=p2.val
    rw[Val,Rep]at r
    obtain⟨a,vs,e1,e2,e3⟩:=r
    exact⟨a,vs,e1,SqL.of (p2.st.sub _ _ e2),m ds rfl F2 H1 _ p2.st (hy _ _ _ _ (SqL.of e2) e3)⟩
   .have r:=p2.val
    rw[Val,Rep]at r
    obtain⟨a,vs,e1,e2,e3⟩:=r
    exact⟨a,vs,e1,Same.seq p2.st.sub e2,m ds rfl F2 H1 _ p2.st (hy _ _ _ _ e2 e3)⟩
  cases k with
  |bo=>cases d<;>exact m.elim
  |fz=>
   cases d with
   |lst ds=>exact go F1 p (fun ds' e=>by cases e;exact m) ds (.inl rfl)
   |scr ds=>exact go F1 p (fun ds' e=>by cases e;exact m) ds (.inr rfl)
   |_=>exact m.elim
  |ow=>
   obtain⟨F2,p2⟩:=p.frz
   cases d with
   |lst ds=>exact go F2 p2 (fun ds' e=>by cases e;exact m) ds (.inl rfl)
   |scr ds=>exact go F2 p2 (fun ds' e=>by cases e;exact m) ds (.inr rfl)
   |_=>exact m.elim
noncomputable def Qpx (f:Ev->R)(ev:Ev):RI:=mapI Qhz (itR (f ev))
theorem Qpy {elts:List Expr}{k1:Nat}{tp:Pos}{a:Expr}{f:Ev->R}{p pos:Pos}(hm:X.mg "enumerate"=none)(ha:VE X F0 H0 Ψ a f)(hg:Gl X "enumerate":=by rfl)(hs:starEach [a] X.env= [(false,eval a X.env)]:=by rfl):
  VI X F0 H0 Ψ (.Tuple elts k1 tp) (.Call (.Name "enumerate" p) [a] [] pos) (Qpx f):=(Qpv hg hm ha hs).mono fun σ H R h=>Qpw (J:=fun a _=>Ite X.K a) (fun _ _ _ _ h r=>Qiu h r) h
end
end L3
namespace L3
open PySem L2
section
variable {X:Cx}{K:PySem.W.Frag}{F0 H0 Fb Hb F H F' H':Hp}{Ψ:Psi}{i:Nat}{l:List D}{ev:Ev}{σ:St}
variable {k n:Nat}{x y:Str}{φ:List D->R}{p p' pos pos':Pos}{e:Expr}{es:List Expr}{fs:Ev->RA}{sts body:List Stmt}{h g:Ev->Fl}
variable {ji:Int}{kk:Nat}{q1 q2 q3 q4 q5 apos cpos:Pos}
end
noncomputable def QfA:List D->Option (List Int)
 | []=>some []
 | .int n::l=>(QfA l).map (n:: ·)
 |_=>none
noncomputable def maxL:Int->List Int->Int
 |m,[]=>m
 |m,n::l=>maxL (if n>m then n else m) l
noncomputable def Qiv:GN
 | [.lst ds]=>match QfA ds with
  |some (n::l)=>some (.fz, .int (maxL n l))
  |_=>none
 |_=>none
section
variable {X:Cx}{K:PySem.W.Frag}
open PySem
theorem Qjk {xs:Array (Int×Tok)}:∀m,m<xs.size->(∀i,i<=m->numAt xs i<=numAt xs (argBest (fun i j=>decide (numAt xs i>numAt xs j)) m))/\argBest (fun i j=>decide (numAt xs i>numAt xs j)) m<=m
 |0,_=>by
  refine⟨fun i hi=>?_,Nat.le_refl _⟩
  have:i=0:=by omega
  subst this;exact Int.le_refl _
 |m+1,h=>by
  obtain⟨h1,h2⟩:=Qjk (xs:=xs) m aa
  simp only[argBest]
  split
  .rename_i hc
   have hc:numAt xs (m+1)>numAt xs (argBest (fun i j=>decide (numAt xs i>numAt xs j)) m):=by simpa using hc
   refine⟨fun i hi=>?_,Nat.le_refl _⟩
   by_cases q:i=m+1
   .subst q;exact Int.le_refl _
   .have:=h1 i aa;omega
  .rename_i hc
   have hc:¬numAt xs (m+1)>numAt xs (argBest (fun i j=>decide (numAt xs i>numAt xs j)) m):=by simpa using hc
   refine⟨fun i hi=>?_,by omega⟩
   by_cases q:i=m+1
   .subst q;omega
   .exact h1 i aa
theorem Qgw:∀(l:List Int) (m:Int),m<=maxL m l/\∀x∈l,x<=maxL m l
 | [],m=>⟨Int.le_refl _,fun x h=>by cases h⟩
 |n::l,m=>by
  obtain⟨h1,h2⟩:=Qgw l (if n>m then n else m)
  have h3:m<=(if n>m then n else m)/\n<=(if n>m then n else m):=by split<;>omega
  unfold maxL
  refine⟨by omega,fun x hx=>?_⟩
  rcases List.mem_cons.mp hx with rfl|hx
  .omega
  .exact h2 x hx
theorem Qgx:∀(l:List Int) (m:Int),maxL m l=m\/maxL m l∈l
 | [],m=> .inl rfl
 |n::l,m=>by
  unfold maxL
  rcases Qgx l (if n>m then n else m)with h|h
  .rw[h];split
   .exact .inr al
   .exact .inl rfl
  .exact .inr (List.mem_cons_of_mem _ h)
theorem vals_ints:∀{ns:List Int} {us:List Value},Vals (ns.map V.int) us->∃ps:List (Int×Tok),us=ps.map (fun p=> .int p.1 p.2)/\ps.map (·.1)=ns
 | [],_,r=>by cases r;exact⟨[],rfl,rfl⟩
 |n::ns,_,r=>by
  cases r with
  |cons r1 r2=>
   obtain⟨t,rfl⟩:=r1
   obtain⟨ps,rfl,h⟩:=vals_ints r2
   exact⟨(n,t)::ps,rfl,by rw[List.map_cons,h]⟩
theorem Qlo (hc:X.calm=true):Qdv X (.builtin "max") (fun xs H Q=>∃a n ns,xs= [.ref a]/\SqL X.K H a ((n::ns).map V.int)/\Q (.int (maxL n ns)) H):=by
 intro pins s σ H xs us Q I r h
 obtain⟨a,n,ns,rfl,hq,q⟩:=h
 obtain⟨u,rfl,rx⟩:=Qdw r
 obtain rfl:u= .ref a:=rx
 obtain⟨its,rv,p,hz⟩:=I.list hq
 obtain⟨ps,rfl,hps⟩:=vals_ints rv
 have hl:ps.length=ns.length+1:=by rw[←List.length_map (·.1),hps];rfl
 have na:∀i,i<ps.length->numAt ps.toArray i=(n::ns).getD i 0:=fun i hi=>by
  rw[←hps];simp[numAt,hi]
 refine max_intList (xs:=ps.toArray) (I.ok.hd hc) (by have:=p.isList;simpa[intItems]using this) (by simp;omega) fun v h' tk hv k=>?_
 obtain⟨t,rfl⟩:=intItems_at hv
 refine⟨.int (maxL n ns),H,I.kept k,⟨t,?_⟩,q⟩
 obtain⟨b1,b2⟩:=Qjk (xs:=ps.toArray) (ps.toArray.size-1) (by simp;omega)
 rw[List.size_toArray]at *
 generalize argBest (fun i j=>decide (numAt ps.toArray i>numAt ps.toArray j)) (ps.length-1)=w at *
 obtain⟨g1,g2⟩:=Qgw ns n
 have le1:numAt ps.toArray w<=maxL n ns:=by
  rw[na w aa]
  cases w with
  |zero=>exact g1
  | succ w => have hw : w < ns.length := by omega
              have:(n::ns).getD (w+1) 0=ns[w]:=by simp[hw]
              rw[this];exact g2 _ (List.getElem_mem hw)
 have ge1:maxL n ns<=numAt ps.toArray w:=by
  rcases Qgx ns n with z|z
  .have:=b1 0 aa;rw[na 0 aa]at this;rw[z];exact this
  .obtain⟨i,hi,e⟩:=List.getElem_of_mem z
   have:=b1 (i+1) aa;rw[na (i+1) aa]at this
   have e2:(n::ns).getD (i+1) 0=ns[i]:=by simp[hi]
   rw[e2,e]at this;exact this
 rw[Int.le_antisymm le1 ge1]
theorem QeE:∀{ds:List D} {ns:List Int},QfA ds=some ns->ds=ns.map D.int
 | [],_,h=>by cases h;rfl
 |d::ds,ns,h=>by
  cases d with
  |int n=>
   simp only[QfA]at h
   cases q:QfA ds with
   |none=>rw[q]at h;cases h
   |some l=>rw[q]at h;cases h;rw[QeE q];rfl
  |_=>cases h
theorem QdD {F:Hp}:∀{ns:List Int} {vs:List V},Reps K F aI vs->vs=ns.map V.int
 | [],_,r=>by rw[List.map_nil,Reps]at r;exact r
 |n::ns,_,r=>by
  rw[List.map_cons,Reps]at r
  obtain⟨v,l,rfl,r1,r2⟩:=r
  rw[Rep]at r1;subst r1;rw[QdD r2];rfl
theorem Qpz:Qb8 K (fun xs H Q=>∃a n ns,xs= [.ref a]/\SqL K H a ((n::ns).map V.int)/\Q (.int (maxL n ns)) H) Qiv:=by
 intro F H ds vs k d Q s r e q
 unfold Qiv at e
 split at e
 .rename_i l
  split at e
  .rename_i n ns hn
   cases e
   obtain⟨v,_,rfl,rx,rfl⟩:=r
   obtain⟨a,us,rfl,h1,h2⟩:=rx.lst s
   rw[QeE hn]at h2
   rw[QdD h2]at h1
   exact⟨a,n,ns,rfl,SqL.of h1,q F _ H aq⟩
  .cases e
 .cases e
variable {F0 H0:Hp}{Ψ:Psi}{a b c e:Expr}{es:List Expr}{f f1 f2 f3:Ev->R}{fs:Ev->RA}{pos p:Pos}
theorem Qn1 (hc:X.calm=true)(hm:X.mg "max"=none)(ha:VA X F0 H0 Ψ aO fs)(hgl:Gl X "max":=by rfl)(he:starEach aO X.env=(false,eval e X.env)::starEach es X.env:=by rfl)(hpl:(backTo pos aM).any (·.1)=false:=by rfl):VE X F0 H0 Ψ (.Call (.Name "max" p) aO [] pos) (QV Qiv fs):=QdT (Qlo hc) Qpz hm (by rfl) ha hgl aj aj he hpl
noncomputable def intD:GN
 | [.int i]=>some (.fz, .int i)
 | [.bl k]=>some (.fz, .int (if k then 1 else 0))
 |_=>none
theorem QpA:Qb8 K (fun xs H Q=>(∃i,xs= [.int i]/\Q (.int i) H)\/∃k,xs= [.bl k]/\Q (.int (if k then 1 else 0)) H) intD:=by
 intro F H ds vs k d Q s r e q
 unfold intD at e
 split at e
 .cases e
  obtain⟨v,_,rfl,rx,rfl⟩:=r
  exact .inl ⟨_,by rw[rx.int],q F _ H aq⟩
 .cases e
  obtain⟨v,_,rfl,rx,rfl⟩:=r
  exact .inr ⟨_,by rw[rx.bl],q F _ H aq⟩
 .cases e
theorem QrQ (hm:X.mg "int"=none)(ha:VA X F0 H0 Ψ aO fs)(hgl:Gl X "int":=by rfl)(he:starEach aO X.env=(false,eval e X.env)::starEach es X.env:=by rfl)(hpl:(backTo pos aM).any (·.1)=false:=by rfl):VE X F0 H0 Ψ (.Call (.Name "int" p) aO [] pos) (QV intD fs):=Qk2 QkJ QpA hm (by rfl) ha hgl aj aj he hpl
end
end L3
namespace L3
open PySem L2
section
variable {h:Heap}{og:Addr->Option Obj}{F G H:Hp}{a:Addr}
variable {P:Program}{w:World}{K:PySem.W.Frag}
end
end L3
namespace L3
open PySem L2
section
variable {ev e:Ev}{f f1 f2 c:Ev->R}{fs:Ev->RA}{g h body:Ev->Fl}{k k1 k2:Kd}{d d1 d2:D}{C:Addr}{i n:Nat}
@[simp] theorem Qu8 {α:Type}{a:α}{l:List α}:(a::l)[0]?=some a:=(rfl)
noncomputable def QbE (r:Fl)(h:Ev->Fl):Fl:=match r with
 | .nx e=>h e
 |r=>r
@[simp] theorem QtR:seqG g h ev=QbE (g ev) h:=(rfl)
@[simp] theorem QtS:QbE (.nx e) h=h e:=(rfl)
@[simp] theorem QtT:QbE (.rt k d) h= .rt k d:=(rfl)
@[simp] theorem QtU:QbE (.ct e) h= .ct e:=(rfl)
noncomputable def setR (i:Nat)(r:R)(ev:Ev):Fl:=match r with
 | .ok .bo _=> .no
 | .ok k d=> .nx (ev.set i (some (k,d)))
 | .ex C=> .ex C
 | .no=> .no
@[simp] theorem QtV:setG i f ev=setR i (f ev) ev:=(rfl)
@[simp] theorem QtW:setR i (.ok .fz d) ev= .nx (ev.set i (some (.fz,d))):=(rfl)
@[simp] theorem QtX:setR i (.ok .ow d) ev= .nx (ev.set i (some (.ow,d))):=(rfl)
noncomputable def retR (r:R):Fl:=match r with
 | .ok .bo _=> .no
 | .ok k d=> .rt k d
 | .ex C=> .ex C
 | .no=> .no
@[simp] theorem QtY:retG f ev=retR (f ev):=(rfl)
@[simp] theorem QtZ:retR (.ok .fz d)= .rt .fz d:=(rfl)
@[simp] theorem Qt0:retR (.ok .ow d)= .rt .ow d:=(rfl)
noncomputable def QrR (o:Option (Option (Kd×D))):Fl:=match o with
 |some (some (.fz,d))=> .rt .fz d
 |some (some (.ow,d))=> .rt .ow d
 |_=> .no
@[simp] theorem Qqi:Qbm i ev=QrR ev[i]?:=(rfl)
@[simp] theorem QsC:QrR (some (some (.ow,d)))= .rt .ow d:=(rfl)
noncomputable def ifFl (r:R)(g h:Ev->Fl)(ev:Ev):Fl:=match r with
 | .ok _ (.bl b)=>if b then g ev else h ev
 | .ex C=> .ex C
 |_=> .no
@[simp] theorem Qu9:ifG c g h ev=ifFl (c ev) g h ev:=(rfl)
@[simp] theorem Qva:ifFl (.ok k (.bl true)) g h ev=g ev:=(rfl)
@[simp] theorem Qvb:ifFl (.ok k (.bl false)) g h ev=h ev:=(rfl)
@[simp] theorem Qt1:frzG i g ev=g (Qj6 i ev):=(rfl)
noncomputable def frzO (i:Nat)(o:Option (Option (Kd×D)))(ev:Ev):Ev:=match o with
 |some (some (.ow,d))=>ev.set i (some (.fz,d))
 |_=>ev
@[simp] theorem QsD:Qj6 i ev=frzO i ev[i]? ev:=(rfl)
@[simp] theorem Qt2:frzO i (some (some (.ow,d))) ev=ev.set i (some (.fz,d)):=(rfl)
@[simp] theorem Qt3:frzO i (some (some (.fz,d))) ev=ev:=(rfl)
noncomputable def appR (i:Nat)(o:Option (Option (Kd×D)))(f:Ev->R)(ev:Ev):Fl:=match o with
 |some (some (.ow, .lst ds))=>match f ev with
  | .ok .bo _=> .no
  | .ok _ d=>if ds.length<LIM then .nx (ev.set i (some (.ow, .lst (ds++ [d]))))else .no
  | .ex C=> .ex C
  | .no=> .no
 |_=> .no
noncomputable def QrS (i:Nat)(ds:List D)(r:R)(ev:Ev):Fl:=match r with
  | .ok .bo _=> .no
  | .ok _ d=>if ds.length<LIM then .nx (ev.set i (some (.ow, .lst (ds++ [d]))))else .no
  | .ex C=> .ex C
  | .no=> .no
@[simp] theorem Qt4:appG i f ev=appR i ev[i]? f ev:=(rfl)
@[simp] theorem Qt5 {ds:List D}:appR i (some (some (.ow, .lst ds))) f ev=QrS i ds (f ev) ev:=(rfl)
@[simp] theorem QsE {ds:List D}:QrS i ds (.ok .fz d) ev=if ds.length<LIM then .nx (ev.set i (some (.ow, .lst (ds++ [d]))))else .no:=(rfl)
noncomputable def QpB (i:Nat)(ds:List D)(d:D)(o:Option Nat)(ev:Ev):Fl:=match o with
 |some j=> .nx (ev.set i (some (.ow, .lst (ds.set j d))))
 |none=> .no
noncomputable def QpC (i:Nat)(ds:List D)(d:D)(r:R)(ev:Ev):Fl:=match r with
 | .ok _ (.int k)=>QpB i ds d (ixN ds.length k) ev
 | .ex C=> .ex C
 |_=> .no
noncomputable def sitK (i:Nat)(ks:List Key)(xs:List D)(d:D)(o:Option Key)(ev:Ev):Fl:=match o with
 |some k=>if ks.length<LIM then .nx (ev.set i (some (.ow, .dK (QW ks k) (QbC ks xs k d))))else .no
 |none=> .no
noncomputable def sitD (i:Nat)(ks:List Key)(xs:List D)(d:D)(r:R)(ev:Ev):Fl:=match r with
 | .ok _ kd=>sitK i ks xs d (keyD kd) ev
 | .ex C=> .ex C
 | .no=> .no
noncomputable def QpD (i:Nat)(ks:List (List Key))(xs:List D)(d:D)(o:Option (List Key))(ev:Ev):Fl:=match o with
 |some k=>if ks.length<LIM then .nx (ev.set i (some (.ow, .dT (QW ks k) (QbC ks xs k d))))else .no
 |none=> .no
noncomputable def sitT (i:Nat)(ks:List (List Key))(xs:List D)(d:D)(r:R)(ev:Ev):Fl:=match r with
 | .ok _ (.tup l)=>QpD i ks xs d (Qbf l) ev
 | .ex C=> .ex C
 |_=> .no
noncomputable def Qkf (i:Nat)(d:D)(o:Option (Option (Kd×D)))(f:Ev->R)(ev:Ev):Fl:=match o with
 |some (some (.ow, .lst ds))=>QpC i ds d (f ev) ev
 |some (some (.ow, .dK ks xs))=>sitD i ks xs d (f ev) ev
 |some (some (.ow, .dT ks xs))=>sitT i ks xs d (f ev) ev
 |_=> .no
noncomputable def sitR (i:Nat)(f:Ev->R)(r:R)(ev:Ev):Fl:=match r with
 | .ok .bo _=> .no
 | .ok _ d=>Qkf i d ev[i]? f ev
 | .ex C=> .ex C
 | .no=> .no
@[simp] theorem QrT:Qcf i f f2 ev=sitR i f (f2 ev) ev:=by
 unfold Qcf
 by_cases c:Qk6 ev[i]?=true
 .rw[if_pos c]
  unfold Qk6 at c
  split at c
  .rename_i ds e
   unfold QmM sitR
   rw[e]
   generalize f2 ev=r
   cases r with
   |ok k d=>cases k<;>rfl
   |ex C=>rfl
   |no=>rfl
  .cases c
 .rw[if_neg c]
  have key:∀o:Option (Option (Kd×D)),Qk6 o≠true->∀d,(match o with
   |some (some (.ow, .dK ks xs))=>match f ev with
    | .ok _ kd=>match keyD kd with
     |some k=>if ks.length<LIM then Fl.nx (ev.set i (some (.ow, .dK (QW ks k) (QbC ks xs k d))))else .no
     |none=> .no
    | .ex C=> .ex C
    | .no=> .no
   |some (some (.ow, .dT ks xs))=>match f ev with
    | .ok _ (.tup l)=>match Qbf l with
     |some k=>if ks.length<LIM then Fl.nx (ev.set i (some (.ow, .dT (QW ks k) (QbC ks xs k d))))else .no
     |none=> .no
    | .ex C=> .ex C
    |_=> .no
   |_=> .no)=Qkf i d o f ev:=fun o ho d=>by
   cases o with
   |none=>rfl
   |some o=>
    cases o with
    |none=>rfl
    |some z=>
     obtain⟨k,z⟩:=z
     cases k<;>try rfl
     cases z<;>first|rfl|exact absurd rfl ho
  unfold QmV sitR
  generalize f2 ev=r
  cases r with
  |ok k d=>cases k with
   |bo=>rfl
   |fz=>exact key _ c d
   |ow=>exact key _ c d
  |ex C=>rfl
  |no=>rfl
@[simp] theorem Qt6:sitR i f (.ok .fz d) ev=Qkf i d ev[i]? f ev:=(rfl)
@[simp] theorem QsF {ds:List D}:Qkf i d (some (some (.ow, .lst ds))) f ev=QpC i ds d (f ev) ev:=(rfl)
@[simp] theorem QsG {ks:List Key}{xs:List D}:Qkf i d (some (some (.ow, .dK ks xs))) f ev=sitD i ks xs d (f ev) ev:=(rfl)
@[simp] theorem QsH {ks:List (List Key)}{xs:List D}:Qkf i d (some (some (.ow, .dT ks xs))) f ev=sitT i ks xs d (f ev) ev:=(rfl)
@[simp] theorem Qt7 {ks:List Key}{xs:List D}{kd:D}:sitD i ks xs d (.ok k kd) ev=sitK i ks xs d (keyD kd) ev:=(rfl)
@[simp] theorem Qt8 {ks:List (List Key)}{xs:List D}{l:List D}:sitT i ks xs d (.ok k (.tup l)) ev=QpD i ks xs d (Qbf l) ev:=(rfl)
theorem Qgy {ks:List Key}{xs:List D}{q:Key}(h:ks.length<LIM):sitK i ks xs d (some q) ev= .nx (ev.set i (some (.ow, .dK (QW ks q) (QbC ks xs q d)))):=if_pos h
theorem Qm8 {ks:List (List Key)}{xs:List D}{q:List Key}(h:ks.length<LIM):QpD i ks xs d (some q) ev= .nx (ev.set i (some (.ow, .dT (QW ks q) (QbC ks xs q d)))):=if_pos h
@[simp] theorem QsI {x:Int}:keyD (.int x)=some (.inl x):=(rfl)
@[simp] theorem QrU:Qbf []=some []:=(rfl)
@[simp] theorem Qqj {l:List D}:Qbf (d::l)=(keyD d).bind fun k=>(Qbf l).map (k:: ·):=(rfl)
@[simp] theorem QrV {ds:List D}{x:Int}:QpC i ds d (.ok k (.int x)) ev=QpB i ds d (ixN ds.length x) ev:=(rfl)
@[simp] theorem Qqk {ds:List D}{j:Nat}:QpB i ds d (some j) ev= .nx (ev.set i (some (.ow, .lst (ds.set j d)))):=(rfl)
noncomputable def varO (o:Option (Option (Kd×D))):R:=match o with
 |some (some (.fz,d))=> .ok .fz d
 |some (some (.ow,d))=> .ok .bo d
 |_=> .no
@[simp] theorem Qt9:varR i ev=varO ev[i]?:=(rfl)
@[simp] theorem Qua:varO (some (some (.fz,d)))= .ok .fz d:=(rfl)
@[simp] theorem Qub:varO (some (some (.ow,d)))= .ok .bo d:=(rfl)
@[simp] theorem Quc:conR d ev= .ok .fz d:=(rfl)
@[simp] theorem Qvc {g:G2}:eOp g f1 f2 ev=op2 g (f1 ev) (f2 ev):=(rfl)
@[simp] theorem Qvd {g:G2}:op2 g (.ok k1 d1) (.ok k2 d2)=toR (g d1 d2):=(rfl)
@[simp] theorem QsJ:toR (some (k,d))= .ok k d:=(rfl)
@[simp] theorem Qud:eAnd f1 f2 ev=andR (f1 ev) (f2 ev):=(rfl)
@[simp] theorem Qve:eOr f1 f2 ev=orR (f1 ev) (f2 ev):=(rfl)
@[simp] theorem Que:eNot f ev=notR (f ev):=(rfl)
@[simp] theorem Qvf {r:R}:andR (.ok k (.bl false)) r= .ok .fz (.bl false):=(rfl)
@[simp] theorem QvC {r:R}:orR (.ok k (.bl true)) r= .ok .fz (.bl true):=(rfl)
@[simp] theorem Qvg {b c:Bool}:andR (.ok k (.bl b)) (.ok .fz (.bl c))= .ok .fz (.bl (b&&c)):=by cases b<;>rfl
@[simp] theorem QvD {b c:Bool}:orR (.ok k (.bl b)) (.ok .fz (.bl c))= .ok .fz (.bl (b||c)):=by cases b<;>rfl
@[simp] theorem Qvh {b:Bool}:notR (.ok k (.bl b))= .ok .fz (.bl (!b)):=(rfl)
noncomputable def ifE (r:R)(f1 f2:Ev->R)(ev:Ev):R:=match r with
 | .ok _ (.bl b)=>if b then f1 ev else f2 ev
 | .ex C=> .ex C
 |_=> .no
@[simp] theorem Qvi:eIf c f1 f2 ev=ifE (c ev) f1 f2 ev:=by
 show ifR (c ev) (f1 ev) (f2 ev)=ifE (c ev) f1 f2 ev
 generalize c ev=r
 cases r with
 |ok k d=>cases d<;>rfl
 |ex C=>rfl
 |no=>rfl
@[simp] theorem QvE:ifE (.ok k (.bl true)) f1 f2 ev=f1 ev:=(rfl)
@[simp] theorem QvF:ifE (.ok k (.bl false)) f1 f2 ev=f2 ev:=(rfl)
@[simp] theorem Quf:aNil ev= .ok []:=(rfl)
@[simp] theorem QsK:Qc f fs ev=Qhp (f ev) (fs ev):=(rfl)
@[simp] theorem QsL {l:List (Kd×D)}:Qhp (.ok .fz d) (.ok l)= .ok ((.fz,d)::l):=(rfl)
@[simp] theorem QsM {l:List (Kd×D)}:Qhp (.ok .ow d) (.ok l)= .ok ((.fz,d)::l):=(rfl)
@[simp] theorem QsN {l:List (Kd×D)}:Qhp (.ok .bo d) (.ok l)= .ok ((.bo,d)::l):=(rfl)
@[simp] theorem Qug:eTup fs ev=tupR (fs ev):=(rfl)
@[simp] theorem Quh:eLst fs ev=lstR (fs ev):=(rfl)
noncomputable def tupO (o:Option (List D)):R:=match o with
 |some ds=>if ds.length<=LIM then .ok .fz (.tup ds)else .no
 |none=> .no
noncomputable def lstO (o:Option (List D)):R:=match o with
 |some ds=>if ds.length<=LIM then .ok .ow (.lst ds)else .no
 |none=> .no
@[simp] theorem Qui {l:List (Kd×D)}:tupR (.ok l)=tupO (QaS l):=(rfl)
@[simp] theorem Quj {l:List (Kd×D)}:lstR (.ok l)=lstO (QaS l):=(rfl)
@[simp] theorem QrW:QaS []=some []:=(rfl)
@[simp] theorem Qql {l:List (Kd×D)}:QaS ((.fz,d)::l)=(QaS l).map (d:: ·):=(rfl)
@[simp] theorem Qvj {a b:D}:tupO (some [a,b])= .ok .fz (.tup [a,b]):=(rfl)
@[simp] theorem Qvk {a b c:D}:tupO (some [a,b,c])= .ok .fz (.tup [a,b,c]):=(rfl)
@[simp] theorem Qvl {a b c e:D}:tupO (some [a,b,c,e])= .ok .fz (.tup [a,b,c,e]):=(rfl)
@[simp] theorem Qvm:lstO (some [])= .ok .ow (.lst []):=(rfl)
@[simp] theorem Qvn {a:D}:lstO (some [a])= .ok .ow (.lst [a]):=(rfl)
@[simp] theorem Qvo {a b:D}:lstO (some [a,b])= .ok .ow (.lst [a,b]):=(rfl)
@[simp] theorem Qvp {a b c e:D}:lstO (some [a,b,c,e])= .ok .ow (.lst [a,b,c,e]):=(rfl)
@[simp] theorem Qvq {a0 a1 a2 a3 a4:D}:lstO (some [a0,a1,a2,a3,a4])= .ok .ow (.lst [a0,a1,a2,a3,a4]):=(rfl)
@[simp] theorem Qvr {a0 a1 a2 a3 a4 a5 a6 a7:D}:lstO (some [a0,a1,a2,a3,a4,a5,a6,a7])= .ok .ow (.lst [a0,a1,a2,a3,a4,a5,a6,a7]):=(rfl)
@[simp] theorem QsO {g:GN}:QV g fs ev=QmE g (fs ev):=(rfl)
@[simp] theorem QsP {g:GN}{l:List (Kd×D)}:QmE g (.ok l)=toR (g (l.map (·.2))):=(rfl)
noncomputable def outK (r:R):R:=match r with
 | .ok .fz d=> .ok .fz d
 | .ok .ow d=> .ok .ow d
 |_=> .no
noncomputable def outS (r:R):R:=match r with
 | .ok .bo _=> .no
 | .ok _ d=>if Qih d then .ok .fz d else .no
 |_=> .no
noncomputable def fnO (φ:List D->R)(o:Option (List D))(l:List (Kd×D)):R:=match o with
 |some ds=>outK (φ ds)
 |none=>outS (φ (l.map (·.2)))
@[simp] theorem Qvs {φ:List D->R}:eFn n φ fs ev=fnR n φ (fs ev):=(rfl)
theorem Qjl {φ:List D->R}{l:List (Kd×D)}(h:l.length=n):fnR n φ (.ok l)=fnO φ (QaS l) l:=by
 simp only[fnR,if_pos h]
 unfold fnO outK outS
 cases QaS l<;>rfl
@[simp] theorem QvG {φ:List D->R}{a:Kd×D}:fnR 1 φ (.ok [a])=fnO φ (QaS [a]) [a]:=(Qjl rfl)
@[simp] theorem QvH {φ:List D->R}{a b:Kd×D}:fnR 2 φ (.ok [a,b])=fnO φ (QaS [a,b]) [a,b]:=(Qjl rfl)
@[simp] theorem QvI {φ:List D->R}{a b c:Kd×D}:fnR 3 φ (.ok [a,b,c])=fnO φ (QaS [a,b,c]) [a,b,c]:=(Qjl rfl)
@[simp] theorem QvJ {φ:List D->R}{a b c u:Kd×D}:fnR 4 φ (.ok [a,b,c,u])=fnO φ (QaS [a,b,c,u]) [a,b,c,u]:=(Qjl rfl)
@[simp] theorem QsQ {φ:List D->R}{ds:List D}{l:List (Kd×D)}:fnO φ (some ds) l=outK (φ ds):=(rfl)
@[simp] theorem Quk:outK (.ok .fz d)= .ok .fz d:=(rfl)
@[simp] theorem Qul:outK (.ok .ow d)= .ok .ow d:=(rfl)
noncomputable def forO (r:RI)(b:B1)(body:Ev->Fl)(ev:Ev):Fl:=match r with
 | .ok ds=>forE b body ds ev
 | .ex C=> .ex C
 | .no=> .no
@[simp] theorem Qum {fi:Ev->RI}{b:B1}:forG fi b body ev=forO (fi ev) b body ev:=(rfl)
@[simp] theorem Qun {ds:List D}{b:B1}:forO (.ok ds) b body ev=forE b body ds ev:=(rfl)
@[simp] theorem Quo:iLst f ev=itR (f ev):=(rfl)
@[simp] theorem Qvt {ds:List D}:itR (.ok .fz (.lst ds))= .ok ds:=(rfl)
@[simp] theorem Qvu {ds:List D}:itR (.ok .ow (.lst ds))= .ok ds:=(rfl)
@[simp] theorem QsR:QdX fs ev=rngW (fs ev):=(rfl)
@[simp] theorem Qiw {j:Int}(h:j<4611686018427387904):rngW (.ok [(k, .int j)])= .ok (Qai 0 j.toNat):=(if_pos h)
noncomputable def Qet (b:B1)(c e:Ev->R)(ev:Ev)(r:RI):R:=match r with
 | .ok ds=>if ds.length<LIM then(match Qes b c e ev ds with
  |some l=> .ok .ow (.lst l)
  |none=> .no)else .no
 | .ex C=> .ex C
 | .no=> .no
@[simp] theorem QsS {cap:List aw}{fi:Ev->RI}{b:B1}{c e:Ev->R}:Qbp cap fi b c e ev=Qet b c e (capE cap ev) (fi ev):=by unfold Qbp Qo3 Qet;rfl
theorem Qjm {b:B1}{c e:Ev->R}{α:Type}{enc:α->D}{p:α->Bool}{v:α->D}:∀{l:List α},(∀x∈l,∃ev1,b (enc x) ev=some ev1/\(∃k,c ev1= .ok k (.bl (p x)))/\(p x=true->∃k,k≠Kd.bo/\e ev1= .ok k (v x)))->
  Qes b c e ev (l.map enc)=some ((l.filter p).map v)
 | [],_=>rfl
 |x::l,hl=>by
  obtain⟨ev1,h1,⟨k,h2⟩,h3⟩:=hl x al
  have ih:=Qjm (b:=b) (c:=c) (e:=e) (enc:=enc) (p:=p) (v:=v) (l:=l) fun y hy=>hl y (by simp[hy])
  rw[List.map_cons,Qes]
  simp only[h1,h2]
  by_cases hp:p x=true
  .obtain⟨k',hk,h4⟩:=h3 hp
   rw[if_pos hp,h4,List.filter_cons_of_pos hp,List.map_cons,ih]
   cases k' with
   |bo=>exact absurd rfl hk
   |fz=>rfl
   |ow=>rfl
  .rw[if_neg hp,List.filter_cons_of_neg hp,ih]
theorem QaZ {b:B1}{c e:Ev->R}{α:Type}{enc:α->D}{l:List α}(p:α->Bool)(v:α->D)(hn:l.length<LIM)(h:∀x∈l,∃ev1,b (enc x) ev=some ev1/\(∃k,c ev1= .ok k (.bl (p x)))/\(p x=true->∃k,k≠Kd.bo/\e ev1= .ok k (v x))):
  Qet b c e ev (.ok (l.map enc))= .ok .ow (.lst ((l.filter p).map v)):=by
 simp only[Qet]
 rw[Qjm h]
 simp[hn]
@[simp] theorem QsT:capE [] ev= []:=(rfl)
@[simp] theorem QrX {cap:List aw}:capE (none::cap) ev=none::capE cap ev:=(rfl)
noncomputable def capO (o:Option (Option (Kd×D))):Option (Kd×D):=match o.join with
 |some (.fz,d)=>some (.fz,d)
 |_=>none
@[simp] theorem QrY {cap:List aw}{j:Nat}:capE (some j::cap) ev=capO ev[j]?::capE cap ev:=(rfl)
@[simp] theorem Qup:capO (some (some (.fz,d)))=some (.fz,d):=(rfl)
noncomputable def runO (r:Fl):R:=match r with
 | .rt .bo _=> .no
 | .rt k d=> .ok k d
 | .nx _=> .ok .fz .non
 | .ex C=> .ex C
 |_=> .no
theorem Qgz {ds:List D}:runF n g ds=runO (g (ev0 n ds)):=rfl
@[simp] theorem Quq:runO (.rt .fz d)= .ok .fz d:=(rfl)
@[simp] theorem QsU {x y:Int}:addD (.int x) (.int y)=some (.fz, .int (x+y)):=(rfl)
@[simp] theorem QsV {x y:List D}:addD (.lst x) (.lst y)=if x.length+y.length<=LIM then some (.ow, .lst (x++y))else none:=(rfl)
@[simp] theorem QsW {x y:Str}(h:x.length+y.length<=1000000):addD (.str x) (.str y)=some (.fz, .str (x++y)):=(if_pos h)
@[simp] theorem QsX {x y:Int}:subD (.int x) (.int y)=some (.fz, .int (x-y)):=(rfl)
@[simp] theorem Qe3 {x y:Int}(h:(-(2^64)<x/\x<2^64)\/(-(2^64)<y/\y<2^64)):mulD (.int x) (.int y)=some (.fz, .int (x*y)):=by
 have:mulL (.int x) (.int y)=some (.fz, .int (x*y)):=if_pos h
 simp[mulD,this]
@[simp] theorem Qjn {x:List D}{y:Int}(h: -(2^63)<=y/\y<2^63/\x.length*y.toNat<=LIM):mulD (.lst x) (.int y)=some (.ow, .lst (List.replicate y.toNat x).flatten):=by
 have:mulL (.lst x) (.int y)=some (.ow, .lst (List.replicate y.toNat x).flatten):=if_pos h
 simp[mulD,this]
@[simp] theorem QgA {x:Str}{y:Int}(h:0<=y/\y<=1000/\x.length<=1000):mulD (.str x) (.int y)=some (.fz, .str (Txt.mul x y)):=by
 have:mulS (.str x) (.int y)=some (.fz, .str (Txt.mul x y)):=if_pos h
 simp[mulD,this,mulL]
@[simp] theorem Qm9 {x y:Int}(h:0<y/\y<2^200):QaX (.int x) (.int y)=some (.fz, .int (x/y)):=(if_pos h)
@[simp] theorem Qix {x y:Int}(h:0<y):modD (.int x) (.int y)=some (.fz, .int (x %y)):=(if_pos h)
@[simp] theorem Qur {x y:Int}(h:0<=y/\y<=1000000/\x.natAbs<2^64):powD (.int x) (.int y)=some (.fz, .int (x^y.toNat)):=(if_pos h)
@[simp] theorem Qus {x y:Int}:ltD (.int x) (.int y)=some (.fz, .bl (decide (x<y))):=(rfl)
@[simp] theorem Qut {x y:Int}:leD (.int x) (.int y)=some (.fz, .bl (decide (x<=y))):=(rfl)
@[simp] theorem Quu {x y:Int}:gtD (.int x) (.int y)=some (.fz, .bl (decide (y<x))):=(rfl)
@[simp] theorem Quv {x y:Int}:geD (.int x) (.int y)=some (.fz, .bl (decide (y<=x))):=(rfl)
@[simp] theorem Quw:isND .non .non=some (.fz, .bl true):=(rfl)
@[simp] theorem QsY {x:Int}:isND (.int x) .non=some (.fz, .bl false):=(rfl)
@[simp] theorem QsZ {x:List D}:isND (.tup x) .non=some (.fz, .bl false):=(rfl)
@[simp] theorem Qs0:Qb9 .non .non=some (.fz, .bl false):=(rfl)
@[simp] theorem QrZ {x:Int}:Qb9 (.int x) .non=some (.fz, .bl true):=(rfl)
@[simp] theorem Qr0 {x:List D}:Qb9 (.tup x) .non=some (.fz, .bl true):=(rfl)
@[simp] theorem Qs1 {x:List D}{j:Int}:idxD (.lst x) (.int j)=(atI x j).map fun d=>(.fz,d):=by
 simp[idxD,getK,QbM,idxL]
@[simp] theorem Qs2 {x:List D}{j:Int}:idxD (.scr x) (.int j)=(atI x j).map fun d=>(.fz,d):=by
 simp[idxD,getK,QbM,idxL]
@[simp] theorem Qs3 {x:List D}{j:Int}:idxD (.tup x) (.int j)=(atI x j).map fun d=>(.fz,d):=by
 simp[idxD,getK,QbM,idxL]
@[simp] theorem Qux {ks:List Key}{xs:List D}{y:Int}:idxD (.dK ks xs) (.int y)=(dGet ks xs (.inl y)).map fun d=>(.fz,d):=by
 simp only[idxD,getK,QbM,idxL,keyD,Option.map_some,Option.or]
 cases dGet ks xs (.inl y)<;>rfl
@[simp] theorem Qvv {g:G1}:eUn g f ev=un1 g (f ev):=(rfl)
@[simp] theorem Qvw {g:G1}:un1 g (.ok k d)=toR (g d):=(rfl)
@[simp] theorem Qs4 {x:Int}:negD (.int x)=some (.fz, .int (-x)):=(rfl)
@[simp] theorem Qr1:Qht f1 f2 ev=QmY (f1 ev) (f2 ev):=(rfl)
@[simp] theorem Qr2 {x:Int}:QmY (.ok k (.int x)) (.ok .fz d)= .ok .ow (.dK [.inl x] [d]):=(rfl)
@[simp] theorem Quy {xs:List D}:stepD (.lst xs) (.int 1)=some (.ow, .lst xs):=(rfl)
@[simp] theorem Quz {xs:List D}:stepD (.lst xs) (.int (-1))=some (.ow, .lst xs.reverse):=(rfl)
@[simp] theorem Qs5 {x:Int}:absD [.int x]=some (.fz, .int (if x<0 then-x else x)):=(rfl)
@[simp] theorem Qs6 {x:List D}:lenD [.lst x]=some (.fz, .int x.length):=(rfl)
@[simp] theorem Qs7 {x:List D}:lenD [.scr x]=some (.fz, .int x.length):=(rfl)
@[simp] theorem Qr3 {x:List D}:Qhq [.lst x]=some (.ow, .lst x):=(rfl)
@[simp] theorem QuA {x y:Int}:Qk1 [.int x, .int y]=some (.fz, .int (min x y)):=by
 show some (Kd.fz,D.int (if y<x then y else x))=_
 congr 3;split<;>omega
end
section
variable {b:B1}{body:Ev->Fl}
theorem QgB (Q : Fl → Prop) (I : List D → Ev → Prop) (step : ∀ d ds ev, I (d :: ds) ev → ∃ ev1, b d ev = some ev1 ∧ match body ev1 with
      | .nx e=>I ds e
      | .ct e=>I ds e
      | .bk e=>Q (.nx e)
      |r=>Q r) (fin:∀ev,I [] ev->Q (.nx ev)):∀{ds:List D} {ev:Ev},I ds ev->Q (forE b body ds ev)
 | [],ev,h=>fin ev h
 |d::ds,ev,h=>by
  obtain⟨ev1,e1,m⟩:=step d ds ev h
  rw[forE,e1]
  dsimp only
  cases q:body ev1 with
  |nx e=>rw[q]at m;exact QgB Q I step fin m
  |ct e=>rw[q]at m;exact QgB Q I step fin m
  |bk e=>rw[q]at m;exact m
  |rt k d=>rw[q]at m;exact m
  |ex C=>rw[q]at m;exact m
  |no=>rw[q]at m;exact m
theorem QaN (lo:Int)(n:Nat):Qai lo n=(List.range n).map fun(i:Nat)=>D.int (lo+i):=rfl
end
theorem Qr4 {K:PySem.W.Frag}{H:Hp}{a:Addr}{ns:List Int}{φ:List D->R}{E:XK}(hS:SqL K H a (ns.map V.int))(h:φ [.scr aI]= .ok .fz (.bl true)):spV0 K φ 1 [.ref a] H (fun v _=>v= .bl true) E:=by
 refine⟨H,[.scr aI], .refl _, .cons ?_ .nil,rfl,?_⟩
 .rw[Rep]
  refine⟨a,_,rfl,hS,?_⟩
  clear hS h
  induction ns with
  |nil=>exact .nil
  |cons x l ih=>exact .cons (by rw[Rep]) ih
 .rw[h]
  refine⟨by simp,fun F' v H' p=>p.val.rd.bl⟩
end L3
namespace L3
open PySem L2
mutual
noncomputable def pl:Nat->D->Bool
 |_, .non=>true
 |_, .int _=>true
 |_, .str x=>PyData.strOk x
 |n+1, .tup xs=>plL n xs
 |n+1, .lst xs=>plL n xs
 |_,_=>false
noncomputable def plL:Nat->List D->Bool
 |_,[]=>true
 |n,d::ds=>pl n d&&plL n ds
end
theorem Qcl {n:Nat}:∀{l:List D},plL n l=true↔∀d∈l,pl n d=true
 | []=>by simp[plL]
 |d::l=>by simp[plL,Qcl (l:=l)]
mutual
theorem QuB:∀{n:Nat} {d:D},pl n d=true->pl (n+1) d=true
 |_, .non,_=>rfl
 |_, .int _,_=>rfl
 |_, .str _,h=>by simp only[pl]at h⊢;exact h
 |n+1, .tup xs,h=>by simp only[pl]at h⊢;exact Qe4 h
 |n+1, .lst xs,h=>by simp only[pl]at h⊢;exact Qe4 h
 |0, .tup _,h=>by simp[pl]at h
 |0, .lst _,h=>by simp[pl]at h
 |_, .bl _,h=>by simp[pl]at h
 |_, .dK _ _,h=>by simp[pl]at h
 |_, .dT _ _,h=>by simp[pl]at h
 |_, .obj _ _ _,h=>by simp[pl]at h
 |_, .scr _,h=>by simp[pl]at h
 |_, .ty _,h=>by simp[pl]at h
theorem Qe4:∀{n:Nat} {l:List D},plL n l=true->plL (n+1) l=true
 |_,[],_=>by simp[plL]
 |_,d::l,h=>by
  simp only[plL,Bool.and_eq_true]at h⊢
  exact⟨QuB h.1,Qe4 h.2⟩
end
mutual
theorem QfB:∀{n:Nat} {d:D},pl n d=true->∃p,py d=some p/\p.depth<=n
 |_, .non,_=>⟨.none,rfl,by simp[PyData.depth]⟩
 |_, .int i,_=>⟨.int i,rfl,by simp[PyData.depth]⟩
 |_, .str x,h=>⟨.str x,by simp only[pl]at h;simp[py,h],by simp[PyData.depth]⟩
 |n+1, .tup xs,h=>by
  simp only[pl]at h
  obtain⟨ps,e,hd⟩:=Qeq h
  exact⟨.tuple ps,by simp[py,e],by simp only[PyData.depth];omega⟩
 |n+1, .lst xs,h=>by
  simp only[pl]at h
  obtain⟨ps,e,hd⟩:=Qeq h
  exact⟨.list ps,by simp[py,e],by simp only[PyData.depth];omega⟩
 |0, .tup _,h=>by simp[pl]at h
 |0, .lst _,h=>by simp[pl]at h
 |_, .bl _,h=>by simp[pl]at h
 |_, .dK _ _,h=>by simp[pl]at h
 |_, .dT _ _,h=>by simp[pl]at h
 |_, .obj _ _ _,h=>by simp[pl]at h
 |_, .scr _,h=>by simp[pl]at h
 |_, .ty _,h=>by simp[pl]at h
theorem Qeq:∀{n:Nat} {l:List D},plL n l=true->∃ps,pyL l=some ps/\PyData.depthAll ps<=n
 |n,[],_=>⟨[],rfl,by simp[PyData.depthAll]⟩
 |n,d::l,h=>by
  simp only[plL,Bool.and_eq_true]at h
  obtain⟨p,e1,h1⟩:=QfB h.1
  obtain⟨ps,e2,h2⟩:=Qeq h.2
  exact⟨p::ps,by simp[pyL,e1,e2],by simp only[PyData.depthAll];omega⟩
end
inductive PlS:Nat->D->PyData->Prop
 |non {n}:PlS n .non .none
 |int {n} (i):PlS n (.int i) (.int i)
 |str {n} (x):PlS n (.str x) (.str x)
 |tup {n l p} (h:plL n l=true) (e:pyL l=some p):PlS (n+1) (.tup l) (.tuple p)
 |lst {n l p} (h:plL n l=true) (e:pyL l=some p):PlS (n+1) (.lst l) (.list p)
theorem Qn2 {n:Nat}{a:D}{p:PyData}(h:pl n a=true)(e:py a=some p):PlS n a p:=by
 cases a with
 |non=>cases e;exact .non
 |int i=>cases e;exact .int i
 |str x=>simp only[pl]at h;simp only[py,h,if_true]at e;cases e;exact .str x
 |tup l=>cases n with
  |zero=>simp[pl]at h
  |succ n=>
   simp only[py,Option.map_eq_some_iff]at e
   obtain⟨ps,e1,rfl⟩:=e
   exact .tup h e1
 |lst l=>cases n with
  |zero=>simp[pl]at h
  |succ n=>
   simp only[py,Option.map_eq_some_iff]at e
   obtain⟨ps,e1,rfl⟩:=e
   exact .lst h e1
 |_=>simp[pl]at h
mutual
theorem Qjo:∀{n m:Nat} {a b:D} {p q:PyData},pl n a=true->pl m b=true->py a=some p->py b=some q->(p.eqv q=true↔a=b)
 |n,m,a,b,p,q,ha,hb,ea,eb=>by
  have A:=Qn2 ha ea
  have B:=Qn2 hb eb
  clear ha hb ea eb
  cases A with
  |non=>cases B<;>simp[PyData.eqv]
  |int=>cases B<;>simp[PyData.eqv]
  |str=>cases B<;>simp[PyData.eqv]
  |tup h e=>cases B with
   |tup h2 e2=>simp only[PyData.eqv,Qiy h h2 e e2,D.tup.injEq]
   |_=>simp[PyData.eqv]
  |lst h e=>cases B with
   |lst h2 e2=>simp only[PyData.eqv,Qiy h h2 e e2,D.lst.injEq]
   |_=>simp[PyData.eqv]
theorem Qiy:∀{n m:Nat} {a b:List D} {p q:List PyData},plL n a=true->plL m b=true->pyL a=some p->pyL b=some q->(PyData.eqvAll p q=true↔a=b)
 |n,m,[],[],p,q,_,_,ea,eb=>by cases ea;cases eb;simp[PyData.eqvAll]
 |n,m,[],y::b,p,q,_,hb,ea,eb=>by
  cases ea
  simp only[pyL]at eb
  cases e1:py y with
  |none=>rw[e1]at eb;cases eb
  |some u=>rw[e1]at eb;cases e2:pyL b with
   |none=>rw[e2]at eb;cases eb
   |some us=>rw[e2]at eb;cases eb;simp[PyData.eqvAll]
 |n,m,x::a,[],p,q,ha,_,ea,eb=>by
  cases eb
  simp only[pyL]at ea
  cases e1:py x with
  |none=>rw[e1]at ea;cases ea
  |some u=>rw[e1]at ea;cases e2:pyL a with
   |none=>rw[e2]at ea;cases ea
   |some us=>rw[e2]at ea;cases ea;simp[PyData.eqvAll]
 |n,m,x::a,y::b,p,q,ha,hb,ea,eb=>by
  simp only[plL,Bool.and_eq_true]at ha hb
  obtain⟨p1,e1,_⟩:=QfB ha.1
  obtain⟨ps,e2,_⟩:=Qeq ha.2
  obtain⟨q1,e3,_⟩:=QfB hb.1
  obtain⟨qs,e4,_⟩:=Qeq hb.2
  simp only[pyL,e1,e2,Option.bind_some,Option.map_some,Option.some.injEq]at ea
  simp only[pyL,e3,e4,Option.bind_some,Option.map_some,Option.some.injEq]at eb
  subst ea;subst eb
  simp only[PyData.eqvAll,Bool.and_eq_true,Qjo ha.1 hb.1 e1 e3,Qiy ha.2 hb.2 e2 e4,List.cons.injEq]
end
noncomputable instance instDecD:DecidableEq D:=fun a b=>Classical.propDecidable (a=b)
theorem QhB {a b:D}(ha:pl 60 a=true)(hb:pl 60 b=true):eqD a b=some (.fz, .bl (decide (a=b))):=by
 obtain⟨p,e1,h1⟩:=QfB ha
 obtain⟨q,e2,_⟩:=QfB hb
 have h1':p.depth<=DEEP:=h1
 simp only[eqD,e1,e2,if_pos h1']
 congr 3
 rw[Bool.eq_iff_iff,Qjo ha hb e1 e2,decide_eq_true_iff]
theorem Qlp {a b:D}(ha:pl 60 a=true)(hb:pl 60 b=true):neD a b=some (.fz, .bl (decide (a≠b))):=by
 obtain⟨p,e1,h1⟩:=QfB ha
 obtain⟨q,e2,_⟩:=QfB hb
 have h1':p.depth<=DEEP:=h1
 simp only[neD,e1,e2,if_pos h1']
 congr 3
 rw[Bool.eq_iff_iff,decide_eq_true_iff,Bool.not_eq_true',←Bool.not_eq_true,Qjo ha hb e1 e2]
theorem Qlq {n m:Nat}{a:D}{p:PyData}(ha:pl n a=true)(ea:py a=some p):∀{l:List D} {qs:List PyData},plL m l=true->pyL l=some qs->((qs.any fun q=>q.eqv p)=true↔a∈l)
 | [],_,_,e=>by cases e;simp
 |d::l,qs,h,e=>by
  simp only[plL,Bool.and_eq_true]at h
  obtain⟨q1,e3,_⟩:=QfB h.1
  obtain⟨qs',e4,_⟩:=Qeq h.2
  simp only[pyL,e3,e4,Option.bind_some,Option.map_some,Option.some.injEq]at e
  subst e
  rw[List.any_cons,Bool.or_eq_true,Qjo h.1 ha e3 ea,Qlq ha ea h.2 e4,List.mem_cons]
  exact or_congr eq_comm Iff.rfl
theorem Qr5 {a b:D}{xs:List D}(hx:Qcd b=some xs)(ha:pl 60 a=true)(hb:plL 60 xs=true):inD a b=some (.fz, .bl (decide (a∈xs))):=by
 obtain⟨p,e1,h1⟩:=QfB ha
 obtain⟨qs,e2,_⟩:=Qeq hb
 have h1':p.depth<=DEEP:=h1
 have:inL a b=some (.fz, .bl (decide (a∈xs))):=by
  simp only[inL,e1,hx,Option.bind_some,e2,if_pos h1']
  congr 3
  rw[Bool.eq_iff_iff,Qlq ha e1 hb e2,decide_eq_true_iff]
 simp[inD,this]
theorem Qlr {a b:D}{xs:List D}(hx:Qcd b=some xs)(ha:pl 60 a=true)(hb:plL 60 xs=true):Qb1 a b=some (.fz, .bl (decide (a∉xs))):=by
 obtain⟨p,e1,h1⟩:=QfB ha
 obtain⟨qs,e2,_⟩:=Qeq hb
 have h1':p.depth<=DEEP:=h1
 have:Qce a b=some (.fz, .bl (decide (a∉xs))):=by
  simp only[Qce,e1,hx,Option.bind_some,e2,if_pos h1']
  congr 3
  rw[Bool.eq_iff_iff,decide_eq_true_iff,Bool.not_eq_true',←Bool.not_eq_true,Qlq ha e1 hb e2]
 simp[Qb1,this]
@[simp] theorem Qvx {ks:List Key}{xs:List D}{y:Int}:inD (.int y) (.dK ks xs)=some (.fz, .bl (dGet ks xs (.inl y)).isSome):=by
 simp[inD,inL,Qcd,hasK,QbM,keyD,py]
@[simp] theorem Qr6 {ks:List Key}{xs:List D}{y:Int}:Qb1 (.int y) (.dK ks xs)=some (.fz, .bl !(dGet ks xs (.inl y)).isSome):=by
 simp[Qb1,Qce,Qcd,QeW,QbM,keyD,py]
theorem Qls {ks:List (List Key)}{xs l:List D}{q:List Key}(h:Qbf l=some q):Qb1 (.tup l) (.dT ks xs)=some (.fz, .bl !(dGet ks xs q).isSome):=by
 have:Qce (.tup l) (.dT ks xs)=none:=by simp only[Qce,Qcd,Option.bind_none];split<;>simp_all
 simp[Qb1,this,QeW,QbM,h]
@[simp] theorem QuC {x y:Int}:eqD (.int x) (.int y)=some (.fz, .bl (decide (x=y))):=by
 rw[QhB (by simp[pl]) (by simp[pl])]
 congr 3
 rw[Bool.eq_iff_iff,decide_eq_true_iff,decide_eq_true_iff];simp
@[simp] theorem QuD {x y:Int}:neD (.int x) (.int y)=some (.fz, .bl (decide (x≠y))):=by
 rw[Qlp (by simp[pl]) (by simp[pl])]
 congr 3
 rw[Bool.eq_iff_iff,decide_eq_true_iff,decide_eq_true_iff];simp
@[simp] theorem QuE {x:Int}:isiD [.int x, .ty "int"]=some (.fz, .bl true):=(rfl)
@[simp] theorem Qs8 {x:Int}:isiD [.int x, .ty "bool"]=some (.fz, .bl false):=(rfl)
theorem QfW {xs:List D}{i:Nat}{d:D}(h:xs[i]?=some d):atI xs (i:Int)=some d:=QeN h
@[simp] theorem QvK {d:D}{l:List D}:atI (d::l) 0=some d:=QeN (j:=0) rfl
@[simp] theorem QvL {a d:D}{l:List D}:atI (a::d::l) 1=some d:=QeN (j:=1) rfl
@[simp] theorem QvM {a b d:D}{l:List D}:atI (a::b::d::l) 2=some d:=QeN (j:=2) rfl
@[simp] theorem QvN {a b c d:D}{l:List D}:atI (a::b::c::d::l) 3=some d:=QeN (j:=3) rfl
theorem Qjp {n i:Nat}(h:i<n):ixN n (i:Int)=some i:=by
 simp[ixN];omega
end L3
namespace L3
open PySem L2
noncomputable def Wp (r:Fl)(Q:Fl->Prop):Prop:=Q r
section
variable {r:Fl}{Q:Fl->Prop}{ev e:Ev}{g h h':Ev->Fl}{k:Kd}{d:D}{C:Addr}{b:B1}{body:Ev->Fl}{ds:List D}
@[simp] theorem Qna:QbE r .nx=r:=by cases r<;>rfl
noncomputable def Qc0 (I:Ev->Prop)(h:Ev->Fl)(Q:Fl->Prop):Fl->Prop
 | .nx e=>I e
 | .ct e=>I e
 | .bk e=>Wp (h e) Q
 |r=>Q r
@[simp] theorem QuF {I:Ev->Prop}:Wp (.nx e) (Qc0 I h Q)=I e:=(rfl)
@[simp] theorem QuG {I:Ev->Prop}:Wp (.ct e) (Qc0 I h Q)=I e:=(rfl)
@[simp] theorem QuH {I:Ev->Prop}:Wp (.rt k d) (Qc0 I h Q)=Wp (.rt k d) Q:=(rfl)
theorem Qn3 (I:List D->Ev->Prop)(step:∀d ds ev,I (d::ds) ev->∃ev1,b d ev=some ev1/\Wp (body ev1) (Qc0 (I ds) h Q))(fin:∀ev,I [] ev->Wp (h ev) Q)(h0:I ds ev):Wp (QbE (forE b body ds ev) h) Q:=by
 refine QgB (fun r=>Wp (QbE r h) Q) I (fun d ds ev hi=>?_) (fun ev hi=>fin ev hi) h0
 obtain⟨ev1,e1,m⟩:=step d ds ev hi
 refine⟨ev1,e1,?_⟩
 cases q:body ev1<;>rw[q]at m<;>exact m
theorem QaA {β:Type}{enc:β->D}{l:List β}(I:List β->Ev->Prop)(step:∀x xs ev,(∃pre,l=pre++x::xs)->I (x::xs) ev->∃ev1,b (enc x) ev=some ev1/\Wp (body ev1) (Qc0 (I xs) h Q))(fin:∀ev,I [] ev->Wp (h ev) Q)(h0:I l ev):Wp (QbE (forE b body (l.map enc) ev) h) Q:=by
 refine Qn3 (fun ds ev=>∃xs,ds=xs.map enc/\(∃pre,l=pre++xs)/\I xs ev) ?_ ?_ ⟨l,rfl,⟨[],rfl⟩,h0⟩
 .rintro d ds ev ⟨xs,e,⟨pre,hp⟩,hi⟩
  cases xs with
  |nil=>simp at e
  |cons x xs=>
   simp at e
   obtain⟨rfl,rfl⟩:=e
   obtain⟨ev1,e1,w⟩:=step x xs ev ⟨pre,hp⟩ hi
   refine⟨ev1,e1,?_⟩
   revert w
   cases body ev1 with
   |nx e=>exact fun w=>⟨xs,rfl,⟨pre++ [x],by simp[hp]⟩,w⟩
   |ct e=>exact fun w=>⟨xs,rfl,⟨pre++ [x],by simp[hp]⟩,w⟩
   |_=>exact id
 .rintro ev ⟨xs,e,_,hi⟩
  cases xs with
  |nil=>exact fin ev hi
  |cons x xs=>simp at e
theorem QdE {β:Type}{enc:β->D}{l:List β}(I:List β->Ev->Prop)(step:∀x xs ev,(∃pre,l=pre++x::xs)->I (x::xs) ev->∃ev1,b (enc x) ev=some ev1/\Wp (body ev1) (Qc0 (I xs) .nx Q))(fin:∀ev,I [] ev->Wp (.nx ev) Q)(h0:I l ev):Wp (forE b body (l.map enc) ev) Q:=by
 have:=QaA (b:=b) (body:=body) (enc:=enc) (l:=l) (ev:=ev) (h:= .nx) (Q:=Q) I step fin h0
 rwa [Qna]at this
theorem Qd0 {t:Bool}(h1:t=true->Wp (QbE (g ev) h') Q)(h2:t=false->Wp (QbE (h ev) h') Q):Wp (QbE (ifFl (.ok k (.bl t)) g h ev) h') Q:=by
 cases t with
 |true=>exact h1 rfl
 |false=>exact h2 rfl
theorem Qjq {t:Bool}(h1:t=true->Wp (g ev) Q)(h2:t=false->Wp (h ev) Q):Wp (ifFl (.ok k (.bl t)) g h ev) Q:=by
 cases t with
 |true=>exact h1 rfl
 |false=>exact h2 rfl
theorem QdF {c:Ev->R}(I:Nat->Ev->Prop)(step:∀m ev,I m ev->(∃k,c ev= .ok k (.bl true)/\Wp (body ev) (Qc0 (fun e=>∃m',m'<m/\I m' e) h Q))\/(∃k,c ev= .ok k (.bl false)/\Wp (h ev) Q)):
  ∀{n m:Nat} {ev:Ev},I m ev->m<n->Wp (QbE (whlE c body n ev) h) Q
 |0,m,ev,_,hm=>by omega
 |n+1,m,ev,hi,hm=>by
  rcases step m ev hi with⟨k,e,w⟩|⟨k,e,w⟩
  .rw[whlE,e]
   dsimp only
   rw[if_pos rfl]
   cases q:body ev with
   |nx e=>rw[q]at w;obtain⟨m',h1,h2⟩:=w;exact QdF (n:=n) I step h2 aa
   |ct e=>rw[q]at w;obtain⟨m',h1,h2⟩:=w;exact QdF (n:=n) I step h2 aa
   |bk e=>rw[q]at w;exact w
   |rt k d=>rw[q]at w;exact w
   |ex C=>rw[q]at w;exact w
   |no=>rw[q]at w;exact w
  .rw[whlE,e];exact w
noncomputable def runQ (P:R->Prop)(r:Fl):Prop:=P (runO r)
@[simp] theorem Qvy {P:R->Prop}:Wp (.rt .fz d) (runQ P)=P (.ok .fz d):=(rfl)
@[simp] theorem Qvz {P:R->Prop}:Wp (.rt .ow d) (runQ P)=P (.ok .ow d):=(rfl)
@[elab_as_elim] theorem QD {motive:R->Prop}(r:R){n:Nat}(e:r=runF n g ds)(w:Wp (g (ev0 n ds)) (runQ motive)):motive r:=e▸w
noncomputable def isR (k:Kd)(d:D)(r:R):Prop:=r= .ok k d
end
theorem Qa0 {b:B1}{e:Ev->R}{ev:Ev}{α:Type}{enc:α->D}{l:List α}(v:α->D)(hn:l.length<LIM)(h:∀x∈l,∃ev1,b (enc x) ev=some ev1/\∃k,k≠Kd.bo/\e ev1= .ok k (v x)):
  Qet b aV e ev (.ok (l.map enc))= .ok .ow (.lst (l.map v)):=by
 have:=QaZ (b:=b) (c:=conR (.bl true)) (e:=e) (ev:=ev) (enc:=enc) (l:=l) (fun _=>true) v hn fun x hx=>by
  obtain⟨ev1,h1,h2⟩:=h x hx
  exact⟨ev1,h1,⟨.fz,rfl⟩,fun _=>h2⟩
 rwa [List.filter_eq_self.2 al]at this
end L3
namespace L3
open PySem L2
section
variable {κ:Type} [DecidableEq κ]
theorem QhC {k:κ}:∀{ks:List κ} {xs:List D},k∉ks->dGet ks xs k=none
 | [],_,_=>by cases‹List D›<;>rfl
 |q::ks,[],_=>rfl
 |q::ks,x::xs,h=>by
  rw[dGet,if_neg (fun e=>h (by simp[e]))]
  exact QhC fun z=>h (by simp[z])
theorem Qjr {k q:κ}{d:D}:∀{ks:List κ} {xs:List D},ks.length=xs.length->k∉ks->dGet (ks++ [k]) (xs++ [d]) q=if q=k then some d else dGet ks xs q
 | [],[],_,_=>by simp[dGet,eq_comm]
 | [],x::xs,h,_=>by simp at h
 |p::ks,[],h,_=>by simp at h
 |p::ks,x::xs,h,hk=>by
  simp only[List.cons_append,dGet]
  rw[Qjr (by simpa using h) (fun z=>hk (by simp[z]))]
  by_cases e:p=q
  .subst e
   have:¬p=k:=fun z=>hk (by simp[z])
   simp[this]
  .simp[e]
theorem Qjs {k q:κ}{d:D}:∀{ks:List κ} {xs:List D},ks.length=xs.length->dGet ks (List.zipWith (fun k' x=>if k'=k then d else x) ks xs) q=if q=k/\k∈ks then some d else dGet ks xs q
 | [],_,_=>by simp[dGet]
 |p::ks,[],h=>by simp at h
 |p::ks,x::xs,h=>by
  simp only[List.zipWith_cons_cons,dGet]
  rw[Qjs (by simpa using h)]
  by_cases e:p=q
  .subst e
   by_cases e2:p=k
   .simp[e2]
   .simp[e2]
  .by_cases e2:q=k
   .subst e2
    have:¬q=p:=fun z=>e z.symm
    simp[e,this]
   .simp[e,e2]
theorem Qjt {k q:κ}{d:D}{ks:List κ}{xs:List D}(h:ks.length=xs.length):dGet (QW ks k) (QbC ks xs k d) q=if q=k then some d else dGet ks xs q:=by
 unfold QW QbC
 by_cases hk:k∈ks
 .rw[if_pos hk,if_pos hk,Qjs h];simp[hk]
 .rw[if_neg hk,if_neg hk,Qjr h hk]
theorem Qju {k:κ}{d:D}{ks:List κ}{xs:List D}(h:ks.length=xs.length):(QW ks k).length=(QbC ks xs k d).length:=by
 unfold QW QbC
 by_cases hk:k∈ks
 .rw[if_pos hk,if_pos hk];simp[h]
 .rw[if_neg hk,if_neg hk];simp[h]
theorem Qiz {k:κ}{ks:List κ}(h:ks.Nodup):(QW ks k).Nodup:=by
 unfold QW
 split
 .exact h
 .rename_i hk
  rw[List.nodup_append]
  exact⟨h,by simp,fun a ha b hb=>by simp at hb;subst hb;rintro rfl;exact hk ha⟩
theorem Qlt {k q:κ}{ks:List κ}:q∈QW ks k↔q=k\/q∈ks:=by
 unfold QW
 split
 .rename_i hk;constructor
  .exact .inr
  .rintro(rfl|h);exact hk;exact h
 .simp;exact or_comm
end
@[simp] theorem Qs9 {f1 f2 f3:Ev->R}{ev:Ev}:eGet f1 f2 f3 ev=getR (f1 ev) (f2 ev) (f3 ev):=(rfl)
@[simp] theorem QuI {k k':Kd}{ks:List Key}{xs:List D}{y:Int}{c:D}:getR (.ok k (.dK ks xs)) (.ok k' (.int y)) (.ok .fz c)= .ok .fz ((dGet ks xs (.inl y)).getD c):=(rfl)
end L3
namespace L3
open PySem L2 TSrt
@[simp] theorem Qqm {φ:List D->R}{b:Bool}{f:Ev->R}{ev:Ev}:Qjg φ b f ev=Qjf φ b (f ev):=(rfl)
@[simp] theorem Qqn {φ:List D->R}{b:Bool}{k:Kd}{ds:List D}:Qjf φ b (.ok k (.lst ds))=Qe0 φ b ds:=(rfl)
theorem Qr7 {κ:Type}{lt:κ->κ->Bool}{ks:Nat->κ}{i j:Nat}(h:cN lt ks i j=false):lt (ks i) (ks j)=false:=by
 unfold cN at h
 simp only[Bool.or_eq_false_iff]at h
 exact h.1
theorem Qlu {κ:Type}(lt:κ->κ->Bool)(b:Bool)(ks:Nat->κ)(n:Nat):(srtB lt b ks n).Perm (List.range n):=by
 unfold srtB
 split
 .refine(List.reverse_perm _).trans (((QaG ..).map _).trans ?_)
  have e:(List.range n).map (fun i=>n-1-i)=(List.range n).reverse:=by
   apply List.ext_getElem al
   intro i h1 h2
   simp at h1⊢
  rw[e]
  exact List.reverse_perm _
 .exact QaG ..
theorem Qlv {κ:Type}{lt:κ->κ->Bool}(o:Swk lt)(ks:Nat->κ)(n:Nat):(srtB lt true ks n).Pairwise fun i j=>lt (ks i) (ks j)=false:=by
 show((srt lt (fun i=>ks (n-1-i)) n).map (fun i=>n-1-i)).reverse.Pairwise _
 rw[List.pairwise_reverse,List.pairwise_map]
 exact(Qin o (fun i=>ks (n-1-i)) n).imp fun h=>Qr7 h
theorem Qjv {α:Type}(x0:α)(enc:α->D)(l:List α)(is:List Nat)(h:∀i∈is,i<l.length):Qio is (l.map enc)=(is.map fun i=>l.getD i x0).map enc:=by
 unfold Qio
 rw[List.map_map]
 refine List.map_congr_left fun i hi=>?_
 have:=h i hi
 simp[this]
theorem QhD {α:Type}(x0:α)(l:List α){is:List Nat}(h:is.Perm (List.range l.length)):(is.map fun i=>l.getD i x0).Perm l:=by
 refine(h.map _).trans ?_
 have:(List.range l.length).map (fun i=>l.getD i x0)=l:=by
  apply List.ext_getElem al
  intro i h1 h2
  simp[h2]
 rw[this]
theorem QfX {α:Type}{f:α->Option Int}{key:α->Int}:∀{l:List α},(∀x∈l,f x=some (key x))->Qcg (l.map f)=some (l.map key)
 | [],_=>rfl
 |x::l,h=>by
  simp only[List.map_cons,h x al,Qcg,QfX (l:=l) fun y hy=>h y (by simp[hy])]
  rfl
theorem Qlw {α:Type}(x0:α){enc:α->D}{φ:List D->R}{key:α->Int}{kl:List (List Key)}{l:List α}(hk:∀x∈l,φ [enc x]= .ok .fz (.int (key x)))(hq:QcY (l.map enc)=some kl)(nd:kl.Nodup)(hn:l.length<=100000):
  ∃l':List α,l'.Perm l/\l'.Pairwise (fun a b=>key b<=key a)/\Qe0 φ true (l.map enc)= .ok .ow (.lst (l'.map enc)):=by
 refine⟨(srtB ltI true (fun i=>(l.map key).getD i 0) l.length).map fun i=>l.getD i x0,QhD x0 l (Qlu ..),?_,?_⟩
 .rw[List.pairwise_map]
  refine List.Pairwise.imp_of_mem (fun{i j} hi hj h=>?_) (Qlv swI _ _)
  have hi:=Qgu hi
  have hj:=Qgu hj
  simp only[ltI,decide_eq_false_iff_not]at h
  simp[hi,hj]at h⊢
  exact h
 .unfold Qe0
  rw[List.map_map,QfX (f:=intK φ∘enc) (key:=key) fun x hx=>by simp[intK,hk x hx],hq]
  dsimp only
  rw[if_pos ⟨nd,by simpa using hn⟩,List.length_map,Qjv x0 enc l _ fun i hi=>Qgu hi]
@[simp] theorem Qqo {f:Ev->R}{ev:Ev}:Qci f ev=Qhx (f ev):=(rfl)
@[simp] theorem Qqp {k:Kd}{ds:List D}:Qhx (.ok k (.lst ds))=Qch ds:=(rfl)
noncomputable def extO (i:Nat)(f:Ev->R)(o:Option (Option (Kd×D)))(ev:Ev):Fl:=match o with
 |some (some (.ow, .lst ds))=>extR i ds ev (f ev)
 |_=> .no
@[simp] theorem Qta {i:Nat}{f:Ev->R}{ev:Ev}:extG i f ev=extO i f ev[i]? ev:=(rfl)
@[simp] theorem QuJ {i:Nat}{f:Ev->R}{ev:Ev}{ds:List D}:extO i f (some (some (.ow, .lst ds))) ev=extR i ds ev (f ev):=(rfl)
@[simp] theorem QuK {i:Nat}{ds es:List D}{ev:Ev}{k:Kd}:extR i ds ev (.ok k (.lst es))=if ds.length+es.length<LIM then .nx (ev.set i (some (.ow, .lst (ds++es))))else .no:=(rfl)
theorem Qe5:∀{x y:List Key},lexK x y=false->lexK y x=false->x=y
 | [],[],_,_=>rfl
 | [],_::_,h,_=>by simp[lexK]at h
 |_::_,[],_,h=>by simp[lexK]at h
 |x::xs,y::ys,h1,h2=>by
  simp only[lexK]at h1 h2
  by_cases e:x=y
  .subst e
   rw[if_pos rfl]at h1 h2
   rw[Qe5 h1 h2]
  .rw[if_neg e]at h1
   rw[if_neg (fun z=>e z.symm)]at h2
   exact absurd (Qip h1 h2) e
noncomputable def srtA {α:Type}(x0:α)(kf:α->List Key)(l:List α):List α:=(srt lexK (fun i=>(l.map kf).getD i []) l.length).map fun i=>l.getD i x0
theorem srtA_perm {α:Type}{x0:α}{kf:α->List Key}{l:List α}:(srtA x0 kf l).Perm l:=QhD x0 l (QaG ..)
theorem QgC {α:Type}{x0:α}{kf:α->List Key}{l:List α}:(srtA x0 kf l).Pairwise fun a b=>lexK (kf b) (kf a)=false:=by
 unfold srtA
 rw[List.pairwise_map]
 refine List.Pairwise.imp_of_mem (fun{i j} hi hj h=>?_) (Qin swL (fun i=>(l.map kf).getD i []) l.length)
 have hi:=Qep hi
 have hj:=Qep hj
 have h:=Qr7 h
 simp[hi,hj]at h⊢
 exact h
theorem QhE {α:Type}{x0:α}{kf:α->List Key}(inj:∀x y,kf x=kf y->x=y){l m:List α}(h:l.Perm m):srtA x0 kf l=srtA x0 kf m:=
 List.Perm.eq_of_pairwise (fun a b _ _ h1 h2=>inj _ _ (Qe5 h2 h1)) QgC QgC (srtA_perm.trans (h.trans srtA_perm.symm))
theorem QhF {α:Type}(x0:α){enc:α->D}{kf:α->List Key}{l:List α}(hq:QcY (l.map enc)=some (l.map kf))(nd:(l.map kf).Nodup)(hs:okSh (l.map kf)=true)(hn:l.length<=100000):Qch (l.map enc)= .ok .ow (.lst ((srtA x0 kf l).map enc)):=by
 unfold Qch
 rw[hq]
 dsimp only
 rw[if_pos ⟨nd,hs,by simpa using hn⟩,List.length_map,Qjv x0 enc l _ fun i hi=>Qep hi]
 rfl
theorem Qlx {α:Type}{kf:α->List Key}{sh:List Bool}(hh:sh.head?=some true)(h:∀x,(kf x).map kin=sh)(l:List α):okSh (l.map kf)=true:=by
 cases l with
 |nil=>rfl
 |cons x l=>
  simp only[List.map_cons,okSh,Bool.and_eq_true,decide_eq_true_eq,List.all_eq_true,List.mem_map]
  refine⟨by rw[←List.head?_map,h];exact hh,?_⟩
  rintro _ ⟨y,_,rfl⟩
  rw[h,h]
end L3
namespace L3
open PySem L2
section
variable {ev:Ev}{f f1 f2:Ev->R}{i j n:Nat}{d:D}{l:List D}{k:Kd}{C:Addr}
end
end L3
namespace L3
open PySem L2
section
variable {ev e:Ev}{f f1 f2 c:Ev->R}{fs ks:Ev->RA}{g h body:Ev->Fl}{k k1 k2:Kd}{d d1 d2:D}{C:Addr}{i n m:Nat}
@[simp] theorem QuL {cs:List Str}{x:Str}:eFld cs x f ev=fldR cs x (f ev):=(rfl)
@[simp] theorem Qtb {x:Str}{tab:MTab}:Qir x n tab f fs ev=QcZ x n tab (f ev) (fs ev):=(rfl)
@[simp] theorem Qtc {x:Str}{ns:List Str}{is:List (Ev->R)}{dv:List D}:Qlm x ns is n dv fs ev=Qit x ns is n dv (fs ev):=(rfl)
noncomputable def Qnb (x:Str)(ns:List Str)(o:Option (List D)):R:=match o with
 |some ds'=> .ok .fz (.obj x ns ds')
 |none=> .no
@[simp] theorem Qqq {x:Str}{ns:List Str}{ds:List D}:Qnb x ns (some ds)= .ok .fz (.obj x ns ds):=(rfl)
theorem Qjw {x:Str}{ns:List Str}{is:List (Ev->R)}{dv:List D}{l:List (Kd×D)}{ds:List D}(h:QaS l=some ds)(hn:ds.length+dv.length+1=n):Qit x ns is n dv (.ok l)=Qnb x ns (Qis is (ds++dv)):=by
 simp only[Qit,h,if_pos hn];rfl
@[simp] theorem Qtd {x:Str}{ns:List Str}{is:List (Ev->R)}{a b:D}:Qit x ns is 3 [b] (.ok [(.fz,a)])=Qnb x ns (Qis is [a,b]):=Qjw (ds:= [a]) (dv:= [b]) rfl rfl
@[simp] theorem QuM {x:Str}{ns:List Str}{is:List (Ev->R)}{a b c:D}:Qit x ns is 4 [] (.ok [(.fz,a),(.fz,b),(.fz,c)])=Qnb x ns (Qis is [a,b,c]):=Qjw (ds:= [a,b,c]) (dv:= []) rfl rfl
@[simp] theorem Qte {is:List (Ev->R)}{ds:List D}:Qis is ds=Qac (none::ds.map fun d=>some (.fz,d)) is:=(rfl)
@[simp] theorem QpE:Qac ev []=some []:=(rfl)
noncomputable def Qjx (r:R)(o:Option (List D)):Option (List D):=match r with
 | .ok .bo _=>none
 | .ok _ d=>o.map (d:: ·)
 |_=>none
@[simp] theorem Qn4 {is:List (Ev->R)}:Qac ev (f::is)=Qjx (f ev) (Qac ev is):=by
 conv=>lhs;unfold Qac
 unfold Qjx
 cases f ev with
 |ok k d=>cases k<;>rfl
 |ex C=>rfl
 |no=>rfl
@[simp] theorem Qr8 {o:Option (List D)}:Qjx (.ok .fz d) o=o.map (d:: ·):=(rfl)
@[simp] theorem Qr9 {o:Option (List D)}:Qjx (.ok .ow d) o=o.map (d:: ·):=(rfl)
theorem QhG {cs:List Str}{y x:Str}{ns:List Str}{xs:List D}(h:x∈cs)(e:(ns.zip xs).lookup y=some d):fldR cs y (.ok k (.obj x ns xs))= .ok .fz d:=by simp only[fldR,if_pos h,e]
theorem QiA {x y:Str}{tab:MTab}{ns:List Str}{xs:List D}{l:List (Kd×D)}{φ:List D->R}(h:y∉ns)(e:tab.lookup x=some φ):QcZ y n tab (.ok .fz (.obj x ns xs)) (.ok l)=fnR n φ (.ok ((.fz, .obj x ns xs)::l)):=by
 simp only[QcZ,if_neg h,e];rfl
@[simp] theorem QuN:eTru f ev=truR (f ev):=(rfl)
@[simp] theorem Qtf {l:List D}:truR (.ok k (.lst l))= .ok .fz (.bl (!l.isEmpty)):=(rfl)
noncomputable def augR (i:Nat)(o:Option (Option (Kd×D)))(f:Ev->R)(ev:Ev):Fl:=match o with
 |some (some (.fz, .int a))=>match f ev with
  | .ok _ (.int b)=> .nx (ev.set i (some (.fz, .int (a+b))))
  | .ex C=> .ex C
  |_=> .no
 |_=> .no
noncomputable def Qsa (i:Nat)(a:Int)(r:R)(ev:Ev):Fl:=match r with
  | .ok _ (.int b)=> .nx (ev.set i (some (.fz, .int (a+b))))
  | .ex C=> .ex C
  |_=> .no
@[simp] theorem QuO:augG i f ev=augR i ev[i]? f ev:=(rfl)
@[simp] theorem QuP {a:Int}:augR i (some (some (.fz, .int a))) f ev=Qsa i a (f ev) ev:=(rfl)
@[simp] theorem Qsb {a b:Int}:Qsa i a (.ok k (.int b)) ev= .nx (ev.set i (some (.fz, .int (a+b)))):=(rfl)
end
end L3
namespace L3
open PySem L2
section
variable {ev e:Ev}{f f1 f2 c:Ev->R}{fs ks:Ev->RA}{g h body:Ev->Fl}{k k1 k2:Kd}{d d1 d2:D}{C:Addr}{i j n m:Nat}
@[simp] theorem Qtg:Qpx f ev=mapI Qhz (itR (f ev)):=(rfl)
@[simp] theorem QuQ {q:List D->List D}{ds:List D}:mapI q (.ok ds)= .ok (q ds):=(rfl)
theorem Qe6 {l:List Int}:QfA (l.map D.int)=some l:=by
 induction l with
 |nil=>rfl
 |cons n l ih=>simp only[List.map_cons,QfA,ih,Option.map_some]
theorem Qly {n:Int}{l:List Int}:Qiv [.lst ((n::l).map D.int)]=some (.fz, .int (maxL n l)):=by simp only[Qiv,Qe6]
@[simp] theorem QuR {b:Bool}:intD [.bl b]=some (.fz, .int (if b then 1 else 0)):=(rfl)
end
end L3
namespace Net
noncomputable abbrev Stp:=Nat×Nat×Int
noncomputable abbrev B:=List (Option (Int×List Nat))
noncomputable def at_ (b:B)(v:Nat):Option (Int×List Nat):=(b[v]?).join
noncomputable def val (b:B)(v:Nat):Option Int:=(at_ b v).map (·.1)
noncomputable def relax (b:B)(st:Stp):B:=match at_ b st.1 with
 |none=>b
 |some (t,w)=>match at_ b st.2.1 with
  |none=>b.set st.2.1 (some (t+st.2.2,w++ [st.2.1]))
  |some (u,_)=>if t+st.2.2<u then b.set st.2.1 (some (t+st.2.2,w++ [st.2.1]))else b
noncomputable def lap (steps:List Stp)(b:B):B:=steps.foldl relax b
noncomputable def laps (steps:List Stp):Nat->B->B
 |0,b=>b
 |k+1,b=>laps steps k (lap steps b)
noncomputable def start (n h:Nat):B:=(List.replicate n none).set h (some (0,[h]))
noncomputable def leastWays (n:Nat)(steps:List Stp)(h:Nat):B:=laps steps (n-1) (start n h)
inductive W (steps:List Stp)(h:Nat):List Nat->Int->Prop
 |one:W steps h [h] 0
 |more {s g:Nat} {p:List Nat} {t c:Int}:W steps h (s::p) t->(s,g,c)∈steps->W steps h (g::s::p) (t+c)
structure Good (n:Nat)(steps:List Stp):Prop where
 s:∀x∈steps,x.1<n
 g:∀x∈steps,x.2.1<n
 c:∀x∈steps,0<x.2.2
section
variable {n h:Nat}{steps:List Stp}{b:B}
theorem at_set {v w:Nat}{x:Option (Int×List Nat)}(hw:w<b.length):at_ (b.set w x) v=if v=w then x else at_ b v:=by
 unfold at_
 by_cases e:v=w
 .subst e;rw[if_pos rfl,List.getElem?_set_self hw];rfl
 .rw[if_neg e,List.getElem?_set_ne (fun z=>e z.symm)]
theorem relax_length (st:Stp):(relax b st).length=b.length:=by
 unfold relax
 split
 .rfl
 .split
  .simp
  .split<;>simp
theorem QfY:∀(l:List Stp) (b:B),(lap l b).length=b.length
 | [],_=>rfl
 |x::l,b=>by show(lap l (relax b x)).length=_;rw[QfY l,relax_length]
theorem laps_length:∀(k:Nat) (b:B),(laps steps k b).length=b.length
 |0,_=>rfl
 |k+1,b=>by show(laps steps k (lap steps b)).length=_;rw[laps_length k,QfY]
theorem relax_at {st:Stp}(hg:st.2.1<b.length)(v:Nat):at_ (relax b st) v=at_ b v\/
  (v=st.2.1/\∃t w,at_ b st.1=some (t,w)/\at_ (relax b st) v=some (t+st.2.2,w++ [st.2.1])/\∀u,val b v=some u->t+st.2.2<u):=by
 unfold relax
 cases e:at_ b st.1 with
 |none=>exact .inl rfl
 |some z=>
  obtain⟨t,w⟩:=z
  dsimp only
  cases e2:at_ b st.2.1 with
  |none=>
   dsimp only
   rw[at_set hg]
   by_cases hv:v=st.2.1
   .subst hv
    refine .inr ⟨rfl,t,w,rfl,by simp,fun u hu=>?_⟩
    simp[val,e2]at hu
   .rw[if_neg hv];exact .inl rfl
  |some y=>
   obtain⟨u,w'⟩:=y
   dsimp only
   by_cases hlt:t+st.2.2<u
   .rw[if_pos hlt,at_set hg]
    by_cases hv:v=st.2.1
    .subst hv
     refine .inr ⟨rfl,t,w,rfl,by simp,fun u' hu=>?_⟩
     simp[val,e2]at hu;omega
    .rw[if_neg hv];exact .inl rfl
   .rw[if_neg hlt];exact .inl rfl
theorem Qjy {st:Stp}(hg:st.2.1<b.length){v:Nat}{t:Int}(e:val b v=some t):∃u,val (relax b st) v=some u/\u<=t:=by
 rcases relax_at hg v with q|⟨rfl,t',w,_,q,k⟩
 .exact⟨t,by unfold val at e⊢;rw[q];exact e,Int.le_refl _⟩
 .exact⟨_,by unfold val;rw[q];rfl,Int.le_of_lt (k _ e)⟩
theorem Qlz {st:Stp}(hg:st.2.1<b.length){t:Int}(e:val b st.1=some t):∃u,val (relax b st) st.2.1=some u/\u<=t+st.2.2:=by
 obtain⟨⟨t',w⟩,e1,e2⟩:∃z,at_ b st.1=some z/\z.1=t:=by
  unfold val at e;cases q:at_ b st.1 with
  |none=>rw[q]at e;cases e
  |some z=>rw[q]at e;exact⟨z,rfl,by simpa using e⟩
 have e2:t'=t:=e2
 subst e2
 unfold val relax
 rw[e1]
 dsimp only
 cases e3:at_ b st.2.1 with
 |none=>dsimp only;rw[at_set hg,if_pos rfl];exact⟨_,rfl,Int.le_refl _⟩
 |some y=>
  obtain⟨u,w'⟩:=y
  dsimp only
  by_cases hlt:t'+st.2.2<u
  .rw[if_pos hlt,at_set hg,if_pos rfl];exact⟨_,rfl,Int.le_refl _⟩
  .rw[if_neg hlt,e3];exact⟨u,rfl,by omega⟩
theorem QlA:∀(l:List Stp) (b:B),(∀x∈l,x.2.1<b.length)->∀{v:Nat} {t:Int},val b v=some t->∃u,val (lap l b) v=some u/\u<=t
 | [],_,_,_,t,e=>⟨t,e,Int.le_refl _⟩
 |x::l,b,hl,v,t,e=>by
  obtain⟨u,e1,h1⟩:=Qjy (hl x al) e
  obtain⟨u',e2,h2⟩:=QlA l (relax b x) (fun y hy=>by rw[relax_length];exact hl y (by simp[hy])) e1
  exact⟨u',e2,by omega⟩
theorem QlB:∀(l:List Stp) (b:B),(∀x∈l,x.2.1<b.length)->∀{s g:Nat} {c t:Int},(s,g,c)∈l->val b s=some t->∃u,val (lap l b) g=some u/\u<=t+c
 | [],_,_,_,_,_,_,hm,_=>by simp at hm
 |x::l,b,hl,s,g,c,t,hm,e=>by
  have hl':∀y∈l,y.2.1<(relax b x).length:=fun y hy=>by rw[relax_length];exact hl y (by simp[hy])
  rcases List.mem_cons.mp hm with rfl|hm
  .obtain⟨u,e1,h1⟩:=Qlz (st:=(s,g,c)) (hl _ al) e
   obtain⟨u',e2,h2⟩:=QlA l _ hl' e1
   exact⟨u',e2,by dsimp only at h1;omega⟩
  .obtain⟨u,e1,h1⟩:=Qjy (hl x al) e
   obtain⟨u',e2,h2⟩:=QlB l _ hl' hm e1
   exact⟨u',e2,by omega⟩
theorem laps_succ (k:Nat):∀b,laps steps (k+1) b=lap steps (laps steps k b):=by
 induction k with
 |zero=>intro b;rfl
 |succ k ih=>intro b;show laps steps (k+1) (lap steps b)=_;rw[ih];rfl
theorem QiB (hl:∀x∈steps,x.2.1<b.length)(h0:val b h=some 0):∀(k:Nat) {p:List Nat} {t:Int},W steps h p t->p.length<=k+1->∃v,p.head?=some v/\∃u,val (laps steps k b) v=some u/\u<=t
 |0,_,_, .one,_=>⟨h,rfl,0,h0,Int.le_refl _⟩
 |0,_,_, .more _ _,hk=>by simp at hk
 |k+1,_,_,w,hk=>by
  have hl':∀x∈steps,x.2.1<(laps steps k b).length:=fun x hx=>by rw[laps_length];exact hl x hx
  rw[laps_succ]
  cases w with
  |one=>
   obtain⟨v,e,u,e1,h1⟩:=QiB hl h0 k (W.one (steps:=steps) (h:=h)) al
   simp at e;subst e
   obtain⟨u',e2,h2⟩:=QlA steps _ hl' e1
   exact⟨h,rfl,u',e2,by omega⟩
  |more w hm=>
   obtain⟨v,e,u,e1,h1⟩:=QiB hl h0 k w (by simp at hk⊢;omega)
   simp at e;subst e
   obtain⟨u',e2,h2⟩:=QlB steps _ hl' hm e1
   exact⟨_,rfl,u',e2,by omega⟩
noncomputable def Real (steps:List Stp)(h:Nat)(b:B):Prop:=∀v t w,at_ b v=some (t,w)->w.reverse.head?=some v/\W steps h w.reverse t
theorem Qkg {st:Stp}(hg:st.2.1<b.length)(hm:st∈steps)(r:Real steps h b):Real steps h (relax b st):=fun v t w e=>by
 rcases relax_at hg v with q|⟨rfl,t',w',e1,q,_⟩
 .rw[q]at e;exact r v t w e
 .rw[q]at e
  cases e
  obtain⟨h1,h2⟩:=r _ _ _ e1
  refine⟨by simp,?_⟩
  rw[List.reverse_append]
  show W steps h (st.2.1::w'.reverse) _
  cases q:w'.reverse with
  |nil=>rw[q]at h1;cases h1
  |cons x p=>
   rw[q]at h1 h2
   simp at h1;subst h1
   exact .more h2 hm
theorem Qjz:∀(l:List Stp) (b:B),(∀x∈l,x.2.1<b.length/\x∈steps)->Real steps h b->Real steps h (lap l b)
 | [],_,_,r=>r
 |x::l,b,hl,r=>Qjz l _ (fun y hy=>⟨by rw[relax_length];exact(hl y (by simp[hy])).1,(hl y (by simp[hy])).2⟩) (Qkg (hl x al).1 (hl x al).2 r)
theorem QhH (hl:∀x∈steps,x.2.1<b.length)(r:Real steps h b):∀k,Real steps h (laps steps k b)
 |0=>r
 |k+1=>by rw[laps_succ];exact Qjz steps _ (fun x hx=>⟨by rw[laps_length];exact hl x hx,hx⟩) (QhH hl r k)
theorem W.cut (gd:∀x∈steps,0<x.2.2){v:Nat}{p:List Nat}:∀{q:List Nat} {t:Int},W steps h (q++v::p) t->∃t',W steps h (v::p) t'/\t'<=t
 | [],t,w=>⟨t,w,Int.le_refl _⟩
 |x::q,t,w=>by
  cases hq:q++v::p with
  |nil=>simp at hq
  |cons y r=>
   have w':W steps h (x::y::r) t:=by rw[←hq];exact w
   cases w' with
   |more w2 hm=>
    rw[←hq]at w2
    obtain⟨t',h1,h2⟩:=W.cut gd w2
    have:=gd _ hm
    exact⟨t',h1,by dsimp only at this;omega⟩
theorem W.short (gd:∀x∈steps,0<x.2.2){p:List Nat}{t:Int}(w:W steps h p t):∃p' t',W steps h p' t'/\p'.head?=p.head?/\p'.Nodup/\t'<=t:=by
 induction w with
 |one=>exact⟨[h],0, .one,rfl,by simp,Int.le_refl _⟩
 | @more s g p t c w hm ih=>
  obtain⟨p',t',w',e,nd,hle⟩:=ih
  have hc:=gd _ hm
  dsimp only at hc
  cases p' with
  |nil=>cases e
  |cons x r=>
   simp at e;subst e
   by_cases hg:g∈x::r
   .obtain⟨q,r',hq⟩:=List.append_of_mem hg
    rw[hq]at w' nd
    obtain⟨t'',w'',h2⟩:=W.cut gd w'
    exact⟨g::r',t'',w'',rfl,(List.nodup_append.mp nd).2.1,by omega⟩
   .exact⟨g::x::r,t'+c, .more w' hm,rfl,List.nodup_cons.mpr ⟨hg,nd⟩,by omega⟩
theorem nodup_len:∀(n:Nat) (l:List Nat),l.Nodup->(∀x∈l,x<n)->l.length<=n
 |0,l,_,hl=>by
  cases l with
  |nil=>simp
  |cons x _=>exact absurd (hl x al) aa
 |n+1,l,nd,hl=>by
  have key:∀l:List Nat,l.Nodup->(l.filter (· !=n)).length+1≥l.length:=fun l nd=>by
   induction l with
   |nil=>simp
   |cons x r ih=>
    obtain⟨h1,h2⟩:=List.nodup_cons.mp nd
    by_cases e:x=n
    .subst e
     have:r.filter (· !=x)=r:=List.filter_eq_self.mpr fun y hy=>by
      simp;rintro rfl;exact h1 hy
     simp[this]
    .have:=ih h2
     simp[List.filter_cons,e]
     omega
  have:=nodup_len n (l.filter (· !=n)) (nd.sublist List.filter_sublist) fun x hx=>by
   have h1:=List.mem_filter.mp hx
   have h2:=hl x h1.1
   have h3:x≠n:=by simpa using h1.2
   omega
  have:=key l nd
  omega
theorem W.bound (gd:∀x∈steps,x.2.1<n)(hn:h<n){p:List Nat}{t:Int}(w:W steps h p t):∀x∈p,x<n:=by
 induction w with
 |one=>simpa using hn
 |more w hm ih=>
  intro x hx
  rcases List.mem_cons.mp hx with rfl|hx
  .exact gd _ hm
  .exact ih x hx
theorem start_length:(start n h).length=n:=by simp[start]
theorem start_at (hn:h<n)(v:Nat):at_ (start n h) v=if v=h then some (0,[h])else none:=by
 unfold start
 rw[at_set (by simpa using hn)]
 split
 .rfl
 .unfold at_
  rw[List.getElem?_replicate]
  split<;>rfl
theorem Qkh (hn:h<n):Real steps h (start n h):=fun v t w e=>by
 rw[start_at hn]at e
 split at e
 .rename_i hv;cases e;subst hv;exact⟨rfl, .one⟩
 .cases e
theorem QlC (hn:h<n):val (start n h) h=some 0:=by unfold val;rw[start_at hn,if_pos rfl];rfl
theorem lw_length:(leastWays n steps h).length=n:=by unfold leastWays;rw[laps_length,start_length]
theorem lw_real (gd:Good n steps)(hn:h<n):Real steps h (leastWays n steps h):=QhH (fun x hx=>by rw[start_length];exact gd.g x hx) (Qkh hn) _
theorem Qsc (gd:Good n steps)(hn:h<n){p:List Nat}{t:Int}(w:W steps h p t):∃v,p.head?=some v/\∃u,val (leastWays n steps h) v=some u/\u<=t:=by
 obtain⟨p',t',w',e,nd,hle⟩:=w.short gd.c
 have hlen:=nodup_len n p' nd (w'.bound gd.g hn)
 obtain⟨v,e1,u,e2,h2⟩:=QiB (b:=start n h) (fun x hx=>by rw[start_length];exact gd.g x hx) (QlC hn) (n-1) w' aa
 exact⟨v,by rw[←e];exact e1,u,e2,by omega⟩
theorem val_some {v:Nat}{t:Int}(e:val b v=some t):∃w,at_ b v=some (t,w):=by
 unfold val at e
 cases q:at_ b v with
 |none=>rw[q]at e;cases e
 |some z=>obtain⟨t',w⟩:=z;rw[q]at e;simp at e;subst e;exact⟨w,rfl⟩
theorem lw_self (gd:Good n steps)(hn:h<n):val (leastWays n steps h) h=some 0:=by
 obtain⟨v,e,u,e1,h1⟩:=Qsc gd hn (W.one (steps:=steps) (h:=h))
 simp at e;subst e
 obtain⟨w,e2⟩:=val_some e1
 obtain⟨_,hw⟩:=lw_real gd hn _ _ _ e2
 have:0<=u:=by
  have pos:∀{p:List Nat} {t:Int},W steps h p t->0<=t:=fun w=>by
   induction w with
   |one=>exact Int.le_refl _
   |more w hm ih=>have:=gd.c _ hm;dsimp only at this;omega
  exact pos hw
 rw[e1];congr 1;omega
theorem lw_tri (gd:Good n steps)(hn:h<n){s g:Nat}{c t:Int}(hm:(s,g,c)∈steps)(e:val (leastWays n steps h) s=some t):∃u,val (leastWays n steps h) g=some u/\u<=t+c:=by
 obtain⟨w,e1⟩:=val_some e
 obtain⟨h1,h2⟩:=lw_real gd hn _ _ _ e1
 cases q:w.reverse with
 |nil=>rw[q]at h1;cases h1
 |cons x p=>
  rw[q]at h1 h2
  simp at h1;subst h1
  obtain⟨v,e2,u,e3,h3⟩:=Qsc gd hn (W.more h2 hm)
  simp at e2;subst e2
  exact⟨u,e3,h3⟩
end
end Net
namespace L3
open PySem L2
section
variable {X:Cx}{pins:List (Addr×Obj)}{σ:St}{H:Hp}{s:Shared}{a:Addr}{c:Value}
structure Turn (fs:List Addr)(a T:Addr)(h h':Heap):Prop where
 keep:∀b o,b∉fs->b≠a->b≠T->h.get? b=some o->h'.get? b=some o
 slot:∀b o,b∈fs->h.get? b=some o->(∀vs,o.data≠ .fields vs)->∃sl,h'.get? b=some {o with slots:=sl}
end
end L3
namespace L3
open PySem L2
section
variable {X:Cx}{pins:List (Addr×Obj)}{σ:St}{H:Hp}{s:Shared}{a:Addr}{c:Value}
end
section
variable {X:Cx}{F0 H0:Hp}{Ψ:Psi}{cls:Addr->Addr}{k n:Nat}{x:Str}{φ:List D->R}{p pos:Pos}{e:Expr}{es:List Expr}{fs:Ev->RA}
end
section
variable {P:Program}{w:World}{K:PySem.W.Frag}{mg:Str->Option Value}{base:Heap}{cls:Addr->Addr}
end
end L3
namespace L3
open PySem L2
section
variable {X:Cx}{pins:List (Addr×Obj)}{σ:St}{H:Hp}{s:Shared}
end
end L3
namespace L3
open PySem L2
section
variable {prog:Program}{w:World}{A:Around}{E:Value->Shared->Prop}{K:PySem.W.Frag}{a C:Addr}{o:Obj}
end
section
variable {X:Cx}{F0 H0:Hp}{Ψ:Psi}{s:Str}{p p2 pos:Pos}
end
end L3
namespace L3
open PySem L2
section
variable {X:Cx}{F0 H0:Hp}{Ψ:Psi}{cls:Addr->Addr}{e e2:Expr}{es:List Expr}{p q:Ev->Bool}{f:Ev->R}{m l:Nat}{pos:Pos}
end
end L3
namespace L3
open PySem L2
section
variable {K:PySem.W.Frag}{mg:Str->Option Value}{cls:Addr->Addr}{c1 c2 c3 c4 HE C0:Addr}{φ:List D->R}{F H:Hp}{d:D}{v:V}
end
end L3
namespace L3
open PySem L2 PySem.SeqAt
section
variable {X:Cx}
end
end L3
namespace L3
open PySem L2
section
variable {K:PySem.W.Frag}{mg:Str->Option Value}{cls:Addr->Addr}{c1 c2 c3 c4 HE C0:Addr}{φ:List D->R}{F H:Hp}{d1 d2:D}{v1 v2:V}
end
end L3
namespace L3
open PySem L2
section
variable {K:PySem.W.Frag}{F:Hp}{a:Addr}{o:Obj}{z:HO}
variable {P:Program}{w:World}
end
section
variable {X:Cx}{F0 H0:Hp}{Ψ:Psi}{k n:Nat}{c:Str}{ns:List Str}{fs:List (Ev->R)}{as:Ev->RA}{e:Expr}{es:List Expr}{p pos:Pos}
end
end L3
namespace L3
open PySem L2
section
variable {n:Nat}{φ:List D->R}{fs:Ev->RA}{ev:Ev}{i:Addr}
end
section
variable {x:Str}{ns:List Str}{is:List (Ev->R)}{n:Nat}{as:Ev->RA}{ev:Ev}
end
end L3
namespace L3
open PySem L2
noncomputable def Tf (K:PySem.W.Frag)(x q:Str)(st:Stmt)(f:Addr)(dV:Value):Prop:=∃fd,FunD K x q st f dV fd
noncomputable def Mf (K:PySem.W.Frag)(x q:Str)(st:Stmt)(f:Addr):Prop:=∃fd,Fun K x q st f fd
noncomputable def Gf (K:PySem.W.Frag)(x:Str)(st:Stmt)(f:Addr):Prop:=PySem.W.nsIn K mainGlobals x=some (some (.ref f))/\Mf K x x st f
section
variable {P:Program}{w:World}{K:PySem.W.Frag}{mg:Str->Option Value}{base h:Heap}{x q c:Str}{st:Stmt}{f C:Addr}{k n:Nat}{φ:List D->R}{ps ns:List Str}{fs:List (Ev->R)}
theorem QlD {oc:Value}{od an:Option Addr}{osl:Array (Option Value)}{kV doc pm cdv ct:Value}(l:K.lookup f=some ⟨oc,od, .func (PySem.W.fnOf x q (Qaz st) (QX st) (Qg st) .none kV doc pm an cdv ct),osl⟩)
  (c:PySem.W.codeIn K cdv q=true) (k:PySem.W.keepIn K (.ref f)=true):Mf K x q st f:=⟨_,Qq7 l c k⟩
theorem Qsd {oc:Value}{od an:Option Addr}{osl:Array (Option Value)}{dV kV doc pm cdv ct:Value}(l:K.lookup f=some ⟨oc,od, .func (PySem.W.fnOf x q (Qaz st) (QX st) (Qg st) dV kV doc pm an cdv ct),osl⟩)
  (c:PySem.W.codeIn K cdv q=true):Tf K x q st f dV:=⟨_,Qpt l c⟩
theorem cal (X:K.In h)(G:h.Ns mainGlobals mg)(a:Gf K x st f)(ok:∀fd,Fun K x x st f fd->FnOk P w K mg base CX0 k f fd ps (spV0 K φ n))
  (b:∀(kV doc pm:Value) (an:Option Addr) (cdv ct:Value) (us:List Value),us.length=ps.length->bindArgs (PySem.W.fnOf x x (Qaz st) (QX st) (Qg st) .none kV doc pm an cdv ct) ⟨us,[]⟩=pure (ps.zip us):=by intro _ _ _ _ _ _;repeat' (first|exact Qrp rfl|refine Qro fun _=>?_)):Callee P w K mg base k x n φ:=by
 obtain⟨a,fd,F⟩:=a
 exact⟨f,fd,ps,ok fd F,F.binds b,PySem.W.mg_of X G a,F.kp⟩
theorem Qki {j:Nat}{m:Str}{tab:MTab}(hc:PySem.W.nsIn K mainGlobals c=some (some (.ref C)))(cl:Cls K C)(me:Meth K C m f)(t:Mf K m q st f)(ok:∀fd,Fun K m q st f fd->FnOk P w K mg base CX0 j f fd ps (spV0 K φ n))(r:Qbg P w K mg base k m n tab)(hj:j<=k:=by omega)
  (b:∀(kV doc pm:Value) (an:Option Addr) (cdv ct:Value) (us:List Value),us.length=ps.length->bindArgs (PySem.W.fnOf m q (Qaz st) (QX st) (Qg st) .none kV doc pm an cdv ct) ⟨us,[]⟩=pure (ps.zip us):=by intro _ _ _ _ _ _;repeat' (first|exact Qrp rfl|refine Qro fun _=>?_)):Qbg P w K mg base k m n ((c,φ)::tab):=by
 obtain⟨fd,F⟩:=t
 exact Qlk hc cl me (ok fd F) hj (F.binds b) r
theorem Qn5:∀g∈([]:List Str),NoAttr K C g:=fun _ h=>nomatch h
theorem Qe7 {g:Str}(h:PySem.W.findIn K (.ref C) g=some none)(r:∀g∈ns,NoAttr K C g):∀g'∈g::ns,NoAttr K C g':=List.forall_mem_cons.mpr ⟨h,r⟩
theorem mko {dV:Value}{dv:List D}{dvs:List V}{ds:List Value}(X:K.In h)(G:h.Ns mainGlobals mg)(hc:PySem.W.nsIn K mainGlobals c=some (some (.ref C)))(cl:Cls K C)(na:∀g∈ns,NoAttr K C g)(M:Mk K C f)(t:Tf K x q st f dV)(ok:∀fd,FunD K x q st f dV fd->FnOk P w K mg base CX0 k f fd ps (spI K ns fs n))
  (b:∀(kV doc pm:Value) (an:Option Addr) (cdv ct:Value),Binds K (PySem.W.fnOf x q (Qaz st) (QX st) (Qg st) dV kV doc pm an cdv ct) ps ds) (vl:Vals dvs ds) (rp:∀F,Reps K F dv dvs) (hl:ns.length=fs.length:=by rfl):MkOk P w K mg base k c ns fs n dv:=by
 obtain⟨fd,F⟩:=t
 have ok:=ok fd F
 obtain⟨oc,od,kV,doc,pm,an,cdv,ct,osl,rfl,lk,hcd⟩:=F.ex
 exact⟨C,f,_,ps,dvs,ds,hc,PySem.W.mg_of X G hc,cl,na,M,ok,b kV doc pm an cdv ct,vl,rp,hl⟩
theorem Qse {fa:Addr}{y:Str}(X:K.In h)(G:h.Ns mainGlobals mg)(hfa:mg "law"=some (.ref fa))(a:Gf K "law" st f)(ok:∀base fd,Fun K "law" "law" st f fd->FnOk P w K mg base CX0 k f fd [y] (spV0 K φ n))
  (b:∀(kV doc pm:Value) (an:Option Addr) (cdv ct v:Value),bindArgs (PySem.W.fnOf "law" "law" (Qaz st) (QX st) (Qg st) .none kV doc pm an cdv ct) ⟨[v],[]⟩=pure [(y,v)]:=by intros;rfl):
  ∃fd:FuncData,(∀(s:Shared) (v:Value),BindsTo s fd ⟨[v],[]⟩ [(y,v)])/\∀base:Heap,K.In base->base.Ns mainGlobals mg->FnOk P w K mg base CX0 k fa fd [y] (spV0 K φ n):=by
 obtain⟨a,fd,F⟩:=a
 have e:=hfa.symm.trans (PySem.W.mg_of X G a)
 cases e
 have F':=F
 obtain⟨⟨oc,od,kV,doc,pm,an,cdv,ct,osl,rfl,lk,hcd⟩,_⟩:=F'
 exact⟨_,fun s v=> .of_eq (b kV doc pm an cdv ct v),fun base _ _=>ok base _ F⟩
end
end L3
namespace L2
open PySem PyProof.Rows
section
variable {X:Cx}{a:Expr}{ta:TA}{p p2 pos pos2:Pos}
noncomputable def tRng (ta:TA):TE:=fun σ H Q=>ta σ H fun vs H1=>∃j:Int,vs= [.int j]/\∀r,H1 r=none->Q (.ref r) (upd H1 r (.rng 0 j))
theorem QlE (hg:Gl X "range")(hm:X.mg "range"=none)(ha:PA X [a] ta)(hs:starEach [a] X.env= [(false,eval a X.env)]:=by rfl):PE X (.Call (.Name "range" p) [a] [] pos) (tRng ta):=by
 intro pins s σ H Q I h
 refine wpAny_Call_Name_kw (Qdu I hg hm boot_range (callWith_type1 (thn (ha pos pins s σ H _ I h) fun us s1 ⟨vs,H1,I1,r1,q1⟩=>?_) hs rfl))
 obtain⟨j,rfl,q⟩:=q1
 obtain⟨u,rfl,t,rfl⟩:=Qdw r1
 exact call_range_1 ⟨.ref s1.heap.objs.size,_,I1.laid (t':=_) (fun b o e=>Heap.get?_push_of_some _ e) am (show ObjOk X.prog X.w _ _ _ (.rng 0 j)from⟨_,_,_,Heap.get?_push_size _ rfl⟩),rfl,q _ (I1.hok.fresh am)⟩
theorem QfZ:∀{n:Nat} {its:List Value} (k:Nat),its.length=n->(∀(i:Nat) v,its[i]?=some v->∃t,v=Value.int ((k:Int)+i) t)->Vals ((List.range' k n).map fun(i:Nat)=>V.int (i:Int)) its
 |0,[],_,_,_=> .nil
 |n+1,v::its,k,hl,h=>by
  obtain⟨t,rfl⟩:=h 0 v rfl
  rw[List.range'_succ,List.map_cons]
  refine .cons ⟨t,by simp⟩ (QfZ (k+1) (Nat.succ.inj hl) fun i v e=>?_)
  obtain⟨t,rfl⟩:=h (i+1) v (by simpa using e)
  exact⟨t,by congr 1;omega⟩
theorem QgD (hc:X.calm=true):Qdv X (.type "list") (fun xs H Q=>∃r j,xs= [.ref r]/\H r=some (.rng 0 j)/\-(2^62)<=j/\j<=100000/\∀l,H l=none->Q (.ref l) (upd H l (.lst ((List.range' 0 j.toNat).map fun(i:Nat)=>V.int (i:Int))))):=by
 intro pins s σ H xs us Q I r h
 obtain⟨p,j,rfl,hH,h1,h2,q⟩:=h
 obtain⟨u,rfl,rx⟩:=Qdw r
 cases rx
 obtain⟨t,u,v,ho⟩:=I.hok p _ hH
 refine call_list_range (n:=j.toNat) (I.ok.hd hc) ho (small_one aj aj h1 aa) (by rw[rangeSize_one];split<;>omega) aa fun h' tk acc c kp e it=>?_
 refine⟨.ref s.heap.objs.size,_,I.laid (t':=tk) kp am (show ObjOk X.prog X.w _ h' _ (.lst _)from⟨?_,acc.toList,c,QfZ 0 (by simpa using it.1) (fun i v e=>?_),by simpa using e⟩),rfl,q _ (I.hok.fresh am)⟩
 .have:=QB
  simp;omega
 .obtain⟨t,rfl⟩:=it.2 i v (by simpa using e)
  exact⟨t,by simp⟩
end
end L2
namespace L3
open PySem L2
section
variable {X:Cx}{F0 H0:Hp}{Ψ:Psi}{a:Expr}{fs:Ev->RA}{p p2 pos pos2:Pos}
noncomputable def QlF:RA->R
 | .ok [(_, .int j)]=>if-(2^62)<=j/\j<=100000 then .ok .ow (.lst (Qai 0 j.toNat))else .no
 | .ex C=> .ex C
 |_=> .no
noncomputable def Qnc (fs:Ev->RA)(ev:Ev):R:=QlF (fs ev)
theorem Qf0 {K:PySem.W.Frag}{F:Hp}:∀(n k:Nat),Reps K F ((List.range' k n).map fun(i:Nat)=>D.int (i:Int)) ((List.range' k n).map fun(i:Nat)=>V.int (i:Int))
 |0,_=> .nil
 |n+1,k=>by rw[List.range'_succ];exact .cons (by rw[Rep]) (Qf0 n (k+1))
theorem Qnd (n:Nat):Qai 0 n=(List.range' 0 n).map fun(i:Nat)=>D.int (i:Int):=by
 rw[QaN,List.range_eq_range'];simp
theorem Qsf (hc:X.calm=true)(hm1:X.mg "list"=none)(hm2:X.mg "range"=none)(ha:VA X F0 H0 Ψ [a] fs)(hg1:Gl X "list":=by rfl)(hg2:Gl X "range":=by rfl)(hs:starEach [a] X.env= [(false,eval a X.env)]:=by rfl)
  (he:starEach [.Call (.Name "range" p2) [a] [] pos2] X.env=(false,eval (.Call (.Name "range" p2) [a] [] pos2) X.env)::starEach [] X.env:=by rfl):VE X F0 H0 Ψ (.Call (.Name "list" p) [.Call (.Name "range" p2) [a] [] pos2] [] pos) (Qnc fs):=
 (Qhi (QgD hc) hg1 hm1 (by rfl) (Qbl (QlE hg2 hm2 ha hs) pa_nil he) aj aj he).mono fun σ H Q h=>by
  obtain⟨F,ev,fi,m⟩:=h
  refine⟨F,ev,fi,?_⟩
  unfold Qnc at m
  cases h1:fs ev with
  |no=>rw[h1]at m;exact m
  |ex C=>rw[h1]at m;exact m
  |ok l=>
   rw[h1]at m
   intro F1 vs H1 st va
   unfold QlF at m
   split at m
   .rename_i k' d' hm'
    split at hm'
    .rename_i k j he
     cases he
     split at hm'
     .rename_i hb
      cases hm'
      obtain⟨v,r,rfl,hk,hv,hr⟩:=va
      obtain rfl:r= []:=hr
      obtain rfl:=hv.rd.int
      refine⟨j,rfl,fun r hr=>?_⟩
      refine⟨r,j,rfl,Qs,hb.1,hb.2,fun l hl=>?_⟩
      have k2:Same H1 (upd H1 r (.rng 0 j)):=fun b u e=>by
       rw[Ql];exact e
       rintro rfl;rw[hr]at e;cases e
      refine m F1 (.ref l) _ (Post.own (st.trans ⟨.refl _,st.sub.trans k2,k2,fun _ _ e=> .inl e⟩) hl fun H2 e=>?_)
      exact⟨_,e,by rw[Qnd];exact Qf0 _ _⟩
     .cases hm'
    .cases hm'
    .cases hm'
   .rename_i C hm'
    split at hm'
    .split at hm'<;>cases hm'
    .rename_i he;cases he
    .cases hm'
   .exact m.elim
@[simp] theorem Qth {ev:Ev}:Qnc fs ev=QlF (fs ev):=(rfl)
theorem Qne {k:Kd}{j:Int}(h: -(2^62)<=j/\j<=100000):QlF (.ok [(k, .int j)])= .ok .ow (.lst (Qai 0 j.toNat)):=if_pos h
end
end L3
namespace PySem
open Sem (wp)
section
variable {prog:Program}{w:World}{A:Around}{R:Result->Shared->Prop}{I:Addr}{fp wr:List Addr}{n:Nat}{P:Nat->Value->Prop}{St:Nat->Heap->Prop}{kw:List (Str×Value)}
theorem QiC (W:Walks prog w A.in1 I fp wr n P St)(bt:Nat->Nat->Bool)(hcmp:CmpOf prog w A.in1 .Lt P bt)(S:Addr)(hSf:S∉fp):∀(k j:Nat) (s:Shared) (vb:Value) (c:Nat),n-(j+1)=k->j+1<=n->St (j+1) s.heap->P (argBest bt j) vb->s.heap.get? S=some {cls:= .type "list",dict:=none,data:= .seq #[vb,vb] c,slots:= #[]}->
  (∀v h' tk,P (argBest bt (n-1)) v->(∀b o,b∉wr->b≠S->s.heap.get? b=some o->h'.get? b=some o)->R (.ok (.ret v)) {s with heap:=h',toks:=tk})->codeAny aF A (.builtin "min.loop" ⟨[.ref I, .none, .ref S],kw⟩) R s
 |0,j,s,vb,c,hk,hj,hst,hPb,hS,hR=>by
  have nw:S∉wr:=fun h=>hSf (W.sub _ h)
  obtain rfl:n=j+1:=by omega
  refine codeAny_builtin F.entry_min_loop (by
   rw[Around.under_plainId F.plain_min_loop _]
   exact wpAny_bind (wpAny_seqItems hS rfl (wpAny_bind (wpAny_tryCatch (W.done s _ _ hst fun h' tk hk'=>wpAny_bind (wpAny_updateSeq (hk' S _ nw hS) rfl (wpAny_bind (wpAny_letGo (wpAny_pure (hR vb _ tk hPb fun b o hbw hbS e=>(Heap.get?_update_other _ _ (Ne.symm hbS)).trans (hk' b o hbw e)))))))))))
 |k+1,j,s,vb,c,hk,hj,hst,hPb,hS,hR=>by
  have nw:S∉wr:=fun h=>hSf (W.sub _ h)
  have nme:(toString "min"++toString ".loop":String)="min.loop":=by decide
  refine codeAny_builtin F.entry_min_loop ?_
  rw[Around.under_plainId F.plain_min_loop _]
  refine wpAny_bind (wpAny_seqItems hS rfl (wpAny_bind (wpAny_tryCatch (W.item (j+1) s _ _ aa hst fun v h' tk hP hst' hk'=>?_))))
  have hS':=hk' S _ nw hS
  refine wpAny_bind (wpAny_pure (wpAny_bind (wpAny_tryCatch (wpAny_holding (wpAny_bind (hcmp (j+1) (argBest bt j) v vb _ _ _ hP hPb (wpAny_bind (wpAny_holding (wpAny_truthy_bool (wpAny_bind (wpAny_letGo (wpAny_pure ?_))))))))))))
  cases hb:bt (j+1) (argBest bt j)with
  |true=>
   refine wpAny_bind (wpAny_updateSeq hS' rfl (wpAny_bind (wpAny_letGo ?_)))
   rw[nme]
   exact wpAny_pure ⟨plainId_quiet F.plain_min_loop _,QiC W bt hcmp S hSf k (j+1) _ v _ aa aa (W.frame _ _ _ hst' fun b hbf o e=>(Heap.get?_update_other _ _ (fun h:S=b=>hSf (by rw[h];exact hbf))).trans e) (by simp only[argBest,hb,if_true];exact hP) (Heap.get?_update_self _ hS' rfl) fun v' h'' tk'' hP' hk''=>hR v' h'' tk'' hP' fun b o hbw hbS e=>hk'' b o hbw hbS ((Heap.get?_update_other _ _ (Ne.symm hbS)).trans (hk' b o hbw e))⟩
  |false=>
   refine wpAny_bind (wpAny_letGo ?_)
   rw[nme]
   exact wpAny_pure ⟨plainId_quiet F.plain_min_loop _,QiC W bt hcmp S hSf k (j+1) _ vb c aa aa hst' (by simp only[argBest,hb,Bool.false_eq_true,if_false];exact hPb) hS' fun v' h'' tk'' hP' hk''=>hR v' h'' tk'' hP' fun b o hbw hbS e=>hk'' b o hbw hbS (hk' b o hbw e)⟩
theorem Qkj {d:Value}(W:Walks prog w A.in1 I fp wr n P St)(bt:Nat->Nat->Bool)(hcmp:CmpOf prog w A.in1 .Lt P bt)(S:Addr)(hSf:S∉fp){s:Shared}{c:Nat}(hst:St 0 s.heap)(hS:s.heap.get? S=some {cls:= .type "list",dict:=none,data:= .seq #[] c,slots:= #[]})
  (hR:∀v h' tk,(if n=0 then v=d else P (argBest bt (n-1)) v)->(∀b o,b∉wr->b≠S->s.heap.get? b=some o->h'.get? b=some o)->R (.ok (.ret v)) {s with heap:=h',toks:=tk}):codeAny aF A (.builtin "min.loop" ⟨[.ref I, .none, .ref S],[(Str.ofString "default",d)]⟩) R s:=by
 have nw:S∉wr:=fun h=>hSf (W.sub _ h)
 have nme:(toString "min"++toString ".loop":String)="min.loop":=by decide
 refine codeAny_builtin F.entry_min_loop ?_
 rw[Around.under_plainId F.plain_min_loop _]
 by_cases h0:n=0
 .subst h0
  refine wpAny_bind (wpAny_seqItems hS rfl (wpAny_bind (wpAny_tryCatch (W.done s _ _ hst fun h' tk hk'=>?_))))
  exact wpAny_bind (wpAny_rule (wpAny_pure (hR d h' tk al fun b o hbw hbS e=>hk' b o hbw e)))
 .refine wpAny_bind (wpAny_seqItems hS rfl (wpAny_bind (wpAny_tryCatch (W.item 0 s _ _ aa hst fun v h' tk hP hst' hk'=>?_))))
  have hS':=hk' S _ nw hS
  refine wpAny_bind (wpAny_pure (wpAny_bind (wpAny_updateSeq hS' rfl ?_)))
  rw[nme]
  exact wpAny_pure ⟨plainId_quiet F.plain_min_loop _,QiC W bt hcmp S hSf _ 0 _ v _ rfl aa (W.frame _ _ _ hst' fun b hbf o e=>(Heap.get?_update_other _ _ (fun h:S=b=>hSf (by rw[h];exact hbf))).trans e) hP (Heap.get?_update_self _ hS' rfl) fun v' h'' tk'' hP' hk''=>hR v' h'' tk'' (by rw[if_neg h0];exact hP') fun b o hbw hbS e=>hk'' b o hbw hbS ((Heap.get?_update_other _ _ (Ne.symm hbS)).trans (hk' b o hbw e))⟩
end
section
variable {prog:Program}{w:World}{A:Around}{E:Value->Shared->Prop}{s:Shared}{l:Addr}{xs:Array (Int×Tok)}
theorem F.args_minD (a d:Value):argsOk "min" ⟨[a],[(Str.ofString "default",d)]⟩:=by unfold argsOk;kernel_rfl
theorem QlG {d:Value}{Q:Value->Shared->Prop}(hh:A.handled=none)(hl:s.heap.IsList l (intItems xs))
  (h:∀v h' tk,(if xs.size=0 then v=d else(intItems xs)[argBest (fun i j=>decide (numAt xs i<numAt xs j)) (xs.size-1)]?=some v)->(∀b o,s.heap.get? b=some o->h'.get? b=some o)->Q v {s with heap:=h',toks:=tk}):
  wpAny aF A (call (.builtin "min") [.ref l] [(Str.ofString "default",d)]) Q E s:=by
 have nme:(toString "min"++toString ".loop":String)="min.loop":=by decide
 refine PyProof.Rows.kmb_tree F.kind_min F.plain_min F.entry_min (F.args_minD _ _) ?_
 show wpAny _ A.in1 (Builtin.Builtins.bindParams "min" ["key","default"] 0 ⟨[],[(Str.ofString "default",d)]⟩>>=_) _ _ s
 refine wpAny_bind (wpAny_of_eq (show Builtin.Builtins.bindParams "min" ["key","default"] 0 ⟨[],[(Str.ofString "default",d)]⟩=pure [none,some d]from rfl) (wpAny_bind (wpAny_pure (wpAny_bind (iter_intList hl fun s₂ e st hfp hlI=>?_)))))
 subst e
 refine wpAny_bind (wpAny_newObj_type ?_)
 rw[nme]
 have W:=Walks.list (prog:=prog) (w:=w) (A:=A.in1) hh s.heap.objs.size l hlI (intItems xs)
 refine wpAny_pure ⟨plainId_quiet F.plain_min_loop _,Qkj W _ (CmpOf.ints_lt (numAt xs) (fun _ _=>intItems_at)) _ (fun hm=>Nat.lt_irrefl _ (hfp _ hm)) (W.frame _ _ _ st fun b _ o e=>Heap.get?_push_of_some _ e) (Heap.get?_push_size _ rfl) fun v h' tk hP hk=>?_⟩
 refine h v h' tk (by simpa[intItems]using hP) (old_kept fun b o hb e=>hk b o hb (Nat.ne_of_lt (Heap.lt_size e)) (Heap.get?_push_of_some _ e))
end
end PySem
namespace L3
open PySem L2
noncomputable def minL:Int->List Int->Int
 |m,[]=>m
 |m,n::l=>minL (if n<m then n else m) l
noncomputable def QiD:GN
 | [.lst ds]=>match QfA ds with
  |some (n::l)=>some (.fz, .int (minL n l))
  |_=>none
 |_=>none
section
variable {X:Cx}{K:PySem.W.Frag}
theorem QjA {xs:Array (Int×Tok)}:∀m,m<xs.size->(∀i,i<=m->numAt xs (argBest (fun i j=>decide (numAt xs i<numAt xs j)) m)<=numAt xs i)/\argBest (fun i j=>decide (numAt xs i<numAt xs j)) m<=m
 |0,_=>by
  refine⟨fun i hi=>?_,Nat.le_refl _⟩
  obtain rfl:i=0:=by omega
  exact Int.le_refl _
 |m+1,h=>by
  obtain⟨h1,h2⟩:=QjA (xs:=xs) m aa
  simp only[argBest]
  split
  .rename_i hc
   have hc:numAt xs (m+1)<numAt xs (argBest (fun i j=>decide (numAt xs i<numAt xs j)) m):=by simpa using hc
   refine⟨fun i hi=>?_,Nat.le_refl _⟩
   by_cases q:i=m+1
   .subst q;exact Int.le_refl _
   .have:=h1 i aa;omega
  .rename_i hc
   have hc:¬numAt xs (m+1)<numAt xs (argBest (fun i j=>decide (numAt xs i<numAt xs j)) m):=by simpa using hc
   refine⟨fun i hi=>?_,by omega⟩
   by_cases q:i=m+1
   .subst q;omega
   .exact h1 i aa
theorem Qe8:∀(l:List Int) (m:Int),minL m l<=m/\∀x∈l,minL m l<=x
 | [],m=>⟨Int.le_refl _,fun x h=>by cases h⟩
 |n::l,m=>by
  obtain⟨h1,h2⟩:=Qe8 l (if n<m then n else m)
  have h3:(if n<m then n else m)<=m/\(if n<m then n else m)<=n:=by split<;>omega
  unfold minL
  refine⟨by omega,fun x hx=>?_⟩
  rcases List.mem_cons.mp hx with rfl|hx
  .omega
  .exact h2 x hx
theorem QgE:∀(l:List Int) (m:Int),minL m l=m\/minL m l∈l
 | [],m=> .inl rfl
 |n::l,m=>by
  unfold minL
  rcases QgE l (if n<m then n else m)with h|h
  .rw[h];split
   .exact .inr al
   .exact .inl rfl
  .exact .inr (List.mem_cons_of_mem _ h)
theorem Qn6 {n:Int}{ns:List Int}{ps:List (Int×Tok)}(hps:ps.map (·.1)=n::ns){v:Value}(hv:(intItems ps.toArray)[argBest (fun i j=>decide (numAt ps.toArray i<numAt ps.toArray j)) (ps.toArray.size-1)]?=some v):∃t,v= .int (minL n ns) t:=by
 have hl:ps.length=ns.length+1:=by rw[←List.length_map (·.1),hps];rfl
 have na:∀i,i<ps.length->numAt ps.toArray i=(n::ns).getD i 0:=fun i hi=>by
  rw[←hps];simp[numAt,hi]
 obtain⟨t,rfl⟩:=intItems_at hv
 refine⟨t,?_⟩
 obtain⟨b1,b2⟩:=QjA (xs:=ps.toArray) (ps.toArray.size-1) (by simp;omega)
 rw[List.size_toArray]at *
 generalize argBest (fun i j=>decide (numAt ps.toArray i<numAt ps.toArray j)) (ps.length-1)=w at *
 obtain⟨g1,g2⟩:=Qe8 ns n
 have le1:minL n ns<=numAt ps.toArray w:=by
  rw[na w aa]
  cases w with
  |zero=>exact g1
  |succ w=>
   have hw:w<ns.length:=by omega
   have:(n::ns).getD (w+1) 0=ns[w]:=by simp[hw]
   rw[this];exact g2 _ (List.getElem_mem hw)
 have ge1:numAt ps.toArray w<=minL n ns:=by
  rcases QgE ns n with z|z
  .have:=b1 0 aa;rw[na 0 aa]at this;rw[z];exact this
  .obtain⟨i,hi,e⟩:=List.getElem_of_mem z
   have:=b1 (i+1) aa;rw[na (i+1) aa]at this
   have e2:(n::ns).getD (i+1) 0=ns[i]:=by simp[hi]
   rw[e2,e]at this;exact this
 rw[Int.le_antisymm le1 ge1]
theorem QlH (hc:X.calm=true):Qdv X (.builtin "min") (fun xs H Q=>∃a n ns,xs= [.ref a]/\SqL X.K H a ((n::ns).map V.int)/\Q (.int (minL n ns)) H):=by
 intro pins s σ H xs us Q I r h
 obtain⟨a,n,ns,rfl,hq,q⟩:=h
 obtain⟨u,rfl,rx⟩:=Qdw r
 obtain rfl:u= .ref a:=rx
 obtain⟨its,rv,p,hz⟩:=I.list hq
 obtain⟨ps,rfl,hps⟩:=vals_ints rv
 have hl:ps.length=ns.length+1:=by rw[←List.length_map (·.1),hps];rfl
 refine min_intList (xs:=ps.toArray) (I.ok.hd hc) (by have:=p.isList;simpa[intItems]using this) (by simp;omega) fun v h' tk hv k=>?_
 obtain⟨t,rfl⟩:=Qn6 hps hv
 exact⟨.int (minL n ns),H,I.kept k,⟨t,rfl⟩,q⟩
theorem QpF:Qb8 K (fun xs H Q=>∃a n ns,xs= [.ref a]/\SqL K H a ((n::ns).map V.int)/\Q (.int (minL n ns)) H) QiD:=by
 intro F H ds vs k d Q s r e q
 unfold QiD at e
 split at e
 .split at e
  .rename_i n ns hn
   cases e
   obtain⟨v,_,rfl,rx,rfl⟩:=r
   obtain⟨a,us,rfl,h1,h2⟩:=rx.lst s
   rw[QeE hn]at h2
   rw[QdD h2]at h1
   exact⟨a,n,ns,rfl,SqL.of h1,q F _ H aq⟩
  .cases e
 .cases e
end
section
variable {X:Cx}{F0 H0:Hp}{Ψ:Psi}{e:Expr}{es:List Expr}{f:Ev->R}{fs:Ev->RA}{p pos kp pc:Pos}{cj}
theorem Qn7 (hc:X.calm=true)(hm:X.mg "min"=none)(ha:VA X F0 H0 Ψ aO fs)(hgl:Gl X "min":=by rfl)(he:starEach aO X.env=(false,eval e X.env)::starEach es X.env:=by rfl)(hpl:(backTo pos aM).any (·.1)=false:=by rfl):VE X F0 H0 Ψ (.Call (.Name "min" p) aO [] pos) (QV QiD fs):=QdT (QlH hc) QpF hm (by rfl) ha hgl aj aj he hpl
noncomputable def Qkk:R->R
 | .ok _ (.lst ds)=>match QfA ds with
  |some []=> .ok .fz .non
  |some (n::l)=> .ok .fz (.int (minL n l))
  |none=> .no
 | .ex C=> .ex C
 |_=> .no
noncomputable def QjB (f:Ev->R)(ev:Ev):R:=Qkk (f ev)
theorem QpG (hc:X.calm=true)(hm:X.mg "min"=none)(he:VE X F0 H0 Ψ e f)(hg:Gl X "min":=by rfl)(hs:starEach [e] X.env=(false,eval e X.env)::starEach [] X.env:=by rfl):
  VE X F0 H0 Ψ (.Call (.Name "min" p) [e] [⟨some (Str.ofString "default"), .Constant .none cj pc,kp⟩] pos) (QjB f):=by
 intro pins s σ H Q I h
 obtain⟨F,ev,fi,m⟩:=h
 unfold QjB at m
 refine wpAny_Call_Name_kw (Qdu I hg hm (by rfl) ?_)
 cases h1:f ev with
 |no=>rw[h1]at m;exact m.elim
 |ex C=>
  rw[h1]at m
  exact PyProof.Rows.callWith_kw (thn ((Qbl he pa_nil hs) pos pins s σ H (fun _ _=>False) I ⟨F,ev,fi,by rw[h1];exact m⟩) fun us s1 ⟨vs,H1,I1,r,z⟩=>z.elim) (by rw[hs];rfl) (by rw[hs];rfl)
 |ok kd d=>
  rw[h1]at m
  refine PyProof.Rows.callWith_kw (thn ((Qbl he pa_nil hs) pos pins s σ H (fun us H1=>∃x F1,us= [x]/\Post X.K F H kd d F1 x H1) I ⟨F,ev,fi,by rw[h1];exact fun F1 x H1 p1=>⟨x,F1,rfl,p1⟩⟩) fun us s1 ⟨vs,H1,I1,r,x',F1,e1,p1⟩=>?_) (by rw[hs];rfl) (by rw[hs];rfl)
  subst e1
  obtain⟨u,rfl,ru⟩:=Qdw r
  refine PyProof.Rows.kws_cons (PyProof.Rows.Constant_none (PyProof.Rows.kws_nil ?_))
  show wpAny ah X.A (PySem.call (.builtin "min") [u] [(Str.ofString "default", .none)]) _ _ s1
  unfold Qkk at m
  cases d with
  |lst ds=>
   obtain⟨a,vs,rfl,hH,hrs⟩:=p1.val.rd.lst p1.st.sub
   obtain rfl:u= .ref a:=ru
   dsimp only at m
   cases q1:QfA ds with
   |none=>rw[q1]at m;exact m.elim
   |some ns=>
    rw[q1]at m
    rw[QeE q1]at hrs
    have hv:=QdD hrs
    subst hv
    obtain⟨its,rv,pl,hz⟩:=I1.list (SqL.of hH)
    obtain⟨ps,rfl,hps⟩:=vals_ints rv
    refine QlG (xs:=ps.toArray) (I1.ok.hd hc) (by have:=pl.isList;simpa[intItems]using this) fun v h' tk hv k=>?_
    cases ns with
    |nil=>
     have hp0:ps= []:=by simpa using hps
     subst hp0
     have hv:v= .none:=by simpa using hv
     subst hv
     exact⟨.non,H1,I1.kept k,rfl,m F1 .non H1 ⟨p1.st,by rw[Val,Rep]⟩⟩
    |cons n ns=>
     have hl:ps.length=ns.length+1:=by rw[←List.length_map (·.1),hps];rfl
     rw[if_neg (by rw[List.size_toArray];omega)]at hv
     obtain⟨t,rfl⟩:=Qn6 hps hv
     exact⟨.int (minL n ns),H1,I1.kept k,⟨t,rfl⟩,m F1 (.int (minL n ns)) H1 ⟨p1.st,by rw[Val,Rep]⟩⟩
  |_=>exact m.elim
@[simp] theorem Qsg {ev:Ev}:QjB f ev=Qkk (f ev):=(rfl)
theorem QlI {k:Kd}:Qkk (.ok k (.lst []))= .ok .fz .non:=rfl
theorem Qkl {k:Kd}{n:Int}{l:List Int}:Qkk (.ok k (.lst ((n::l).map D.int)))= .ok .fz (.int (minL n l)):=by simp only[Qkk,Qe6]
theorem QpH {n:Int}{l:List Int}:QiD [.lst ((n::l).map D.int)]=some (.fz, .int (minL n l)):=by simp only[QiD,Qe6]
end
end L3
namespace L2
open PySem PySem.Spec PyProof.Rows
noncomputable def Itd (a:Addr)(o:Obj)(kvs:List (Key×V)):It:=
 ⟨fun i H => H a = some (.frz o (.dK kvs)) ∧ i < kvs.length,
  fun i H v H'=>∃k x p,kvs[i]?=some (k,x)/\H p=none/\v= .ref p/\H'=upd H p (.tup [kV k,x]),
  fun i H=>H a=some (.frz o (.dK kvs))/\kvs.length<=i⟩
theorem Qsh {κ:Type}:∀{kvs:List (κ×V)} {vs:List (κ×Value)},KV kvs vs->∀{i:Nat} {k:κ} {x:V},kvs[i]?=some (k,x)->∃u,vs[i]?=some (k,u)/\RelV x u:=by
 intro kvs vs r
 unfold KV at r
 induction r with
 |nil=>intro i k x e;simp at e
 | @cons p q l1 l2 h t ih=>
  intro i k x e
  cases i with
  |zero=>
   obtain⟨qk,qv⟩:=q
   simp at e;subst e
   obtain⟨h1,h2⟩:=h
   simp at h1 h2
   exact⟨qv,by simp[h1],h2⟩
  |succ i=>simp at e;simpa using ih e
theorem QpI {P:Program}{w:World}{k:Key}{u:Value}(h:(QL P w).is k u=true):RelV (kV k) u:=by
 rcases QK (k:=k) (v:=u) h with⟨i,t,rfl,rfl⟩|⟨x,t,rfl,rfl⟩
 .exact⟨t,rfl⟩
 .exact⟨t,rfl⟩
theorem Qf1 {P:Program}{w:World}{H:Hp}{h:Heap}{a:Addr}{o:Obj}{kvs:List (Key×V)}{es}{ep:Nat}(ok:HOk P w H h)(e:H a=some (.frz o (.dK kvs)))(hd:o.data= .dict es ep):∃vs,KV kvs vs/\h.DictAt (QL P w) a vs ep:=by
 obtain⟨h1,_,_,vs,r,o',es',ep',h2,h3,h4,h5⟩:=ok a _ e
 rw[h1]at h2;cases h2
 rw[hd]at h4;cases h4
 exact⟨vs,r,o,es,h1,h3,hd,h5⟩
theorem Qkm {P:Program}{w:World}{K:PySem.W.Frag}{elts:List Expr}{k1}{pos:Pos}(it a:Addr)(o:Obj)(kvs:List (Key×V))(es)(ep:Nat)(hd:o.data= .dict es ep):
  Turn P w K (.Tuple elts k1 pos) (Itd a o kvs) [it] it (fun i h=>∃ok ov,IsItemIter h it a i kvs.length ep ok ov) where
 mem:=by simp
 obj:=fun i h st c hc=>by
  obtain⟨ok,ov,h1⟩:=st
  obtain rfl:c=it:=by simpa using hc
  exact⟨_,h1,fun v q=>by cases q⟩
 keep:=fun i h h' st k=>by
  obtain⟨ok,ov,h1⟩:=st
  exact⟨ok,ov,k it al _ h1⟩
 item:=by
  intro X hP hw hK hc i pins s σ H E I hf st hg
  subst hP hw hK
  obtain⟨ha,hi⟩:=hg
  obtain⟨ok,ov,h1⟩:=st
  obtain⟨vs,rel,dm⟩:=Qf1 I.hok ha hd
  have hl:=rel.length
  obtain⟨⟨k,x⟩,hx⟩:∃p,kvs[i]?=some p:=⟨_,List.getElem?_eq_getElem hi⟩
  obtain⟨u,hu,ru⟩:=Qsh rel hx
  rw[hl]at h1
  refine wpAny_pyNext_items_item h1 dm hu fun key h' hkey heo ht hz hk=>?_
  refine⟨_,rfl,wpAny_letOwnedTupleGo_items heo fun h'' he'' hs''=>?_⟩
  have lt:=Heap.lt_size h1
  have hfz:H s.heap.objs.size=none:=I.hok.fresh am
  have zs:s.heap.objs.size≠it:=Nat.ne_of_gt lt
  have I1:Inv X pins σ (upd H s.heap.objs.size (.tup [kV k,x])) {s with heap:=s.heap.push {cls:= .type "tuple",data:= .seq #[key,u]},toks:=s.toks}:=
   I.laid (t':=s.toks) (fun _ _ q=>Heap.get?_push_of_some _ q) am ⟨by show 2<=sizeLine;decide,[key,u], .cons (QpI hkey) (.cons ru .nil),⟨_,Heap.get?_push_size _ rfl,rfl,_,rfl⟩⟩
  have hf1:∀c∈ [it],FpOk X pins (upd H s.heap.objs.size (.tup [kV k,x])) c:=fun c hc=>by
   obtain⟨f0,f⟩:=hf c hc
   obtain rfl:c=it:=by simpa using hc
   exact⟨by rw[Ql (fun q=>zs q.symm)];exact f0,f⟩
  have I2:Inv X pins σ (upd H s.heap.objs.size (.tup [kV k,x])) {s with heap:=h''}:=by
   have key:∀c o,c∉ [it]->(s.heap.push {cls:= .type "tuple",data:= .seq #[key,u]}).get? c=some o->h''.get? c=some o:=?_
   .exact Inv.turnedL (s:={s with heap:=s.heap.push {cls:= .type "tuple",data:= .seq #[_,u]},toks:=s.toks}) (t':=s.toks) (h':=h'') (fp:= [it]) I1 key hf1
   intro c o hc e
   simp at hc
   rcases Heap.get?_push_cases e with⟨rfl,rfl⟩|e'
   .exact hs''.extBut _ _ zs ht
   .exact hs''.extBut _ _ hc (hk c o hc e')
  refine⟨.ref s.heap.objs.size,_,I2,rfl,⟨k,x,s.heap.objs.size,hx,hfz,rfl,rfl⟩,?_,fun c hc=>(hf1 c hc).1⟩
  exact⟨_,_,by rw[hl];exact he''⟩
 done:=by
  intro X hP hw hK hc i pins s σ H E I hf st hg
  subst hP hw hK
  obtain⟨ha,hi⟩:=hg
  obtain⟨ok,ov,h1⟩:=st
  obtain⟨vs,rel,dm⟩:=Qf1 I.hok ha hd
  have hl:=rel.length
  rw[hl]at h1
  refine wpAny_pyNext_items_end (I.ok.hd hc) h1 dm (by simp;omega) fun h' hk=>⟨rfl,I.turnedL (t':=s.toks) (fp:= [it]) (fun c o hc e=>?_) hf⟩
  simp at hc
  exact hk c o hc e
 self:=fun _ _ _ _ _ st h=>by
  obtain⟨ok,ov,h1⟩:=st
  exact PySem.W.kcp_self h1 h
end L2
namespace L3
open PySem L2
section
variable {X:Cx}{F0 H0:Hp}{Ψ:Psi}
noncomputable def kyD:Key->D
 | .inl i=> .int i
 | .inr x=> .str x
theorem QpJ {K:PySem.W.Frag}{F:Hp}(k:Key):Rep K F (kyD k) (kV k):=by
 cases k with
 |inl i=>show Rep K F (.int i) (.int i);rw[Rep]
 |inr x=>show Rep K F (.str x) (.str x);rw[Rep]
noncomputable def QhI (ks:List Key)(xs:List D):List D:=List.zipWith (fun k x=> .tup [kyD k,x]) ks xs
noncomputable def itmR:R->RI
 | .ok .ow (.dK ks xs)=> .ok (QhI ks xs)
 | .ex C=> .ex C
 |_=> .no
noncomputable def QjC (f:Ev->R)(ev:Ev):RI:=itmR (f ev)
@[simp] theorem Qsi {f:Ev->R}{ev:Ev}:QjC f ev=itmR (f ev):=(rfl)
@[simp] theorem QuS {ks:List Key}{xs:List D}:itmR (.ok .ow (.dK ks xs))= .ok (QhI ks xs):=(rfl)
theorem Qnf {elts:List Expr}{k1:Nat}{tp:Pos}{e:Expr}{f:Ev->R}{apos pos:Pos}(he:VE X F0 H0 Ψ e f)
  (h1:attributeBase e "items" X.env (eval e X.env)=eval e X.env:=by rfl) (h3:(apos.endLine==pos.line)=true:=by rfl):
  VI X F0 H0 Ψ (.Tuple elts k1 tp) (.Call (.Attribute e "items" apos) [] [] pos) (QjC f):=by
 intro pins s σ H R I h
 obtain⟨F,ev,fi,m⟩:=h
 unfold QjC at m
 refine wpAny_Call_method (T:="dict") (id:="dict.items") h1 rfl h3 PySem.F.plainAttrs_dict PySem.F.slot_dict_items PySem.F.type_dict_items ?_
 cases hf:f ev with
 |no=>rw[hf]at m;exact m.elim
 |ex C=>
  rw[hf]at m
  exact thn (he pins s σ H (fun _ _=>False) I ⟨F,ev,fi,by rw[hf];exact m⟩) fun u s1 ⟨x,H1,I1,r,z⟩=>z.elim
 |ok kd d=>
  rw[hf]at m
  refine thn (he pins s σ H (fun x H1=>∃F1,Post X.K F H kd d F1 x H1) I ⟨F,ev,fi,by rw[hf];exact fun F1 x H1 p1=>⟨F1,p1⟩⟩) fun u s1 ⟨x,H1,I1,r,F1,p1⟩=>?_
  cases kd with
  |fz=>exact m.elim
  |bo=>exact m.elim
  |ow=>
   cases d with
   |dK ks xs=>
    obtain⟨st,a,rfl,ha,hF,vs,hc,hlen,hr⟩:=p1
    obtain rfl:u=Value.ref a:=r
    obtain⟨hz,hS,ws,rel,dd⟩:=QoA I1.hok hc
    obtain⟨ep,dm⟩:=dd.dictAt
    obtain⟨o,es,ho,hx,hdat,hrest⟩:=id dm
    refine⟨dd.typeIs,fun b q=>by cases q;exact⟨o,ho,hx.2.1⟩,?_⟩
    show wpAny _ _ (callWith pos (.builtin "dict.items") [.ref a] [] []) _ _ s1
    refine method_meetsIn PySem.F.slot_dict_items PySem.F.entry_dict_items rfl (evalArgs_none ⟨rfl,dd.typeIs,PySem.F.args_dict_items_1 _,_,meets_dict_items (QL X.prog X.w) a hS,⟨ws,dd⟩,?_⟩)
    have iv:Heap.IsItemsView (s1.heap.push {cls:= .type "dict_items",data:= .fields #[.ref a]}) s1.heap.objs.size a:=⟨_,Heap.get?_push_size _ rfl,rfl,rfl⟩
    refine wpAny_pyIter_items (s:={s1 with heap:=s1.heap.push {cls:= .type "dict_items",data:= .fields #[.ref a]}}) iv (dm.push _) ?_
    have I2:Inv X pins σ (upd H1 a (.frz o (.dK (ks.zip vs)))) s1:=
     I1.write (t':=s1.toks) (h':=s1.heap) (x:=a) (e:=a) (o:= .frz o (.dK (ks.zip vs))) (by rw[hc];trivial) (.inl rfl) (fun b u _ q=>q) ⟨o,ho⟩ ⟨ho,hz,hS,ws,rel,dd⟩
    have I3:Inv X pins σ (upd H1 a (.frz o (.dK (ks.zip vs)))) {s1 with heap:=(s1.heap.push {cls:= .type "dict_items",data:= .fields #[.ref a]}).push {cls:= .type "dict_itemiterator",data:= .fields #[.none, .bool false, .ref a, .int 0 0, .int ws.length 0, .int ep 0, .none, .none]}}:=
     I2.kept (t':=s1.toks) fun b u q=>Heap.get?_push_of_some _ (Heap.get?_push_of_some _ q)
    have hsz:(s1.heap.push {cls:= .type "dict_items",data:= .fields #[.ref a]}).objs.size=s1.heap.objs.size+1:=by rw[Heap.size_push]
    have hup:Same F1 (upd F1 a (.frz o (.dK (ks.zip vs)))):=fun b u q=>by
     rw[Ql];exact q
     rintro rfl;rw[hF]at q;cases q
    refine⟨_,[_],_,Itd a o (ks.zip vs),_,rfl,I3,Qkm _ a o (ks.zip vs) es ep hdat,⟨.none, .none,?_⟩,fun c hc'=>?_,?_⟩
    .show Heap.get? _ _=_
     rw[rel.length]
     exact Heap.get?_push_size _ rfl
    .obtain rfl:=List.mem_singleton.mp hc'
     refine I2.fpOk (by rw[hsz];exact Nat.le_succ _) (I2.hok.fresh (by rw[hsz];exact Nat.le_succ _))
    .refine m (upd F1 a (.frz o (.dK (ks.zip vs)))) _ _ ⟨st.up.trans hup,fun b u q=>?_,fun b u q=>?_,fun b u q=>?_⟩ ⟨fun i H hs hi=>?_,fun i H hs hi=>?_,fun i F2 H x H' u1 u2 hi hy=>?_⟩
     .by_cases hb:b=a
      .subst hb;rw[Qs]at q⊢;exact q
      .rw[Ql hb]at q⊢;exact st.sub b u q
     .rw[Ql];exact st.keep b u q
      rintro rfl;rw[ha]at q;cases q
     .by_cases hb:b=a
      .subst hb;exact .inr ha
      .rw[Ql hb]at q;exact st.new b u q
     .refine⟨hs _ _ Qs,?_⟩
      have:=hr.length
      simp[QhI]at hi⊢;omega
     .refine⟨hs _ _ Qs,?_⟩
      have:=hr.length
      simp[QhI]at hi⊢;omega
     .obtain⟨k,x',p',hk,hp',rfl,rfl⟩:=hy
      have hl:=hr.length
      simp[QhI]at hi
      have h2:i<xs.length:=by omega
      have h3:i<ks.length:=by omega
      obtain⟨vx,e1,r1⟩:=hr.get (List.getElem?_eq_getElem h2)
      rw[List.getElem?_zip_eq_some]at hk
      obtain⟨hk1,hk2⟩:=hk
      rw[e1]at hk2;cases hk2
      obtain⟨F3,p3⟩:=Post.made (K:=X.K) (F:=F2) (H:=H) (d:= .tup [kyD k,xs[i]]) (o:= .tup [kV k,x']) (.refl u2) hp' fun F4 up e=>by
       rw[Rep];exact⟨p',_,rfl,e, .cons (QpJ k) (.cons (((r1.mono hup).mono u1).mono up) .nil)⟩
      refine⟨F3, .tup [kyD k,xs[i]],p3.st,?_,p3.val⟩
      unfold QhI
      rw[List.getElem?_zipWith,List.getElem?_eq_getElem h2,hk1]
   |_=>exact m.elim
end
end L3
namespace My
open PySem L2 L3
noncomputable def top (i : Nat) : Stmt := PySem.Challenge.pw_hearsay_k73_whole_soonest.main.body.getD i (.Pass ⟨0, 0, 0, 0⟩)
noncomputable abbrev Qc1:Stmt:=top 29
noncomputable abbrev Qe9:List Str:= ["_law_script","_law_k"]
noncomputable abbrev Qcm:List Str:= ["_law_script","_law_k"]
noncomputable def QbQ:Ev->Fl:=(seqG (ifG (eOp ltD av (QV lenD (Qc ao aNil))) (retG (eOp idxD ao av)) (.nx))
  (retG au))
noncomputable def Qj:List D->R:=runF 0 QbQ
noncomputable abbrev Qd1:Stmt:=top 36
noncomputable abbrev Qf2:List Str:= ["_law_net_here","_law_house","_law_least","_law_busy","_law_start","_law_goal","_law_most"]
noncomputable abbrev Qc2:List Str:= ["_law_net_here","_law_house"]
noncomputable def Q4:Ev->Fl:=(ifG (eAnd (eOp inD (varR 4) aG) (eOp ltD (eOp addD (eOp idxD aG (varR 4)) ak) (eGet aG (varR 5) (conR (.int 99))))) (seqG (Qcf 2 (varR 5) (eOp addD (eOp idxD aG (varR 4)) ak))
  (setG 3 aV)) (.nx))
noncomputable def QdG:Ev->Fl:=(seqG (setG 3 (conR (.bl false)))
  (forG (iLst (eOp idxD ao ak)) (bTup 3 (QaM (Qq 4) (QaM (Qq 5) (QaM (Qq 6) bNil)))) Q4))
noncomputable def Qd2:Ev->Fl:=(seqG (setG 2 (Qht av au))
  (seqG (setG 3 aV)
  (seqG (whlE (varR 3) QdG 100000)
  (Qbm 2))))
noncomputable def Qa1:List D->R:=runF 5 Qd2
noncomputable abbrev QgF:Stmt:=top 35
noncomputable abbrev QjD:List Str:= ["_law_net_here","_law_sure_here","_law_house","_law_least","_law_busy","_law_start","_law_goal","_law_most"]
noncomputable abbrev Qfa:List Str:= ["_law_net_here"]
noncomputable def Qad:Ev->Fl:=(ifG (eAnd (eOp Qb9 (varR 7) aK) (eOp inD (varR 5) (varR 3))) (ifG (eOr (eOp Qb1 (varR 6) (varR 3)) (eOp ltD (eOp addD (eOp idxD (varR 3) (varR 5)) (varR 7)) (eOp idxD (varR 3) (varR 6)))) (seqG (Qcf 3 (varR 6) (eOp addD (eOp idxD (varR 3) (varR 5)) (varR 7)))
  (setG 4 aV)) (.nx)) (.nx))
noncomputable def Qfb:Ev->Fl:=(seqG (setG 4 (conR (.bl false)))
  (forG (iLst (eOp idxD ao ak)) (bTup 3 (QaM (Qq 5) (QaM (Qq 6) (QaM (Qq 7) bNil)))) Qad))
noncomputable def Qc3:Ev->Fl:=(seqG (setG 3 (Qht aG au))
  (seqG (setG 4 aV)
  (seqG (whlE (varR 4) Qfb 100000)
  (frzG 3 (appG 1 (varR 3))))))
noncomputable def QgG:Ev->Fl:=(seqG (setG 1 (eLst aNil))
  (seqG (forG (QdX (Qc (eOp idxD ao au) aNil)) (Qq 2) Qc3)
  (Qbm 1)))
noncomputable def Qcn:List D->R:=runF 7 QgG
noncomputable abbrev QgH:Stmt:=top 37
noncomputable abbrev QiE:List Str:= ["_law_net_here","_law_house","_law_houses","_law_last","_law_sure_here","_law_sums","_law_other","_law_count","_law_far"]
noncomputable abbrev QgI:List Str:= ["_law_net_here","_law_house","_law_houses","_law_last"]
noncomputable def QbF:Ev->Fl:=(frzG 4 (seqG (setG 8 (Qbp ([some 4,some 6,none]:List aw) (iLst aG) (Qq 2) (eOp inD aG (eOp idxD ao av)) (eOp idxD (eOp idxD ao av) aG)))
  (ifG (eOp eqD (QV lenD (Qc (varR 8) aNil)) (QV lenD (Qc aG aNil))) (appG 5 (eOp addD (varR 7) (QV Qiv (Qc (varR 8) aNil)))) (.nx))))
noncomputable def QcD:Ev->Fl:=(seqG (ifG (eOr (eOp eqD (QV lenD (Qc (varR 5) aNil)) au) (eOp gtD (QV QiD (Qc (varR 5) aNil)) (varR 3))) (retG aK) (.nx))
  (retG (QV QiD (Qc (varR 5) aNil))))
noncomputable def QiF:Ev->Fl:=(seqG (setG 4 (eFn 1 Qcn (Qc ao aNil)))
  (seqG (setG 5 (eLst aNil))
  (seqG (forG (QjC (eFn 2 Qa1 (Qc ao (Qc av aNil)))) (bTup 2 (QaM (Qq 6) (QaM (Qq 7) bNil))) QbF)
  QcD)))
noncomputable def QdH:List D->R:=runF 5 QiF
noncomputable abbrev QgJ:Stmt:=top 34
noncomputable abbrev QiG:List Str:= ["_law_many","_law_number","_law_lot_here"]
noncomputable abbrev QgK:List Str:= ["_law_many","_law_number"]
noncomputable def QcE:Ev->Fl:=(retG (eOp stepD aG (eOp idxD (eLst (Qc ak (Qc (eUn negD ak) aNil))) (eOp modD (eOp QaX av (conR (.int 2048))) aD))))
noncomputable def QiH:Ev->Fl:=(seqG (setG 2 (Qbp ([some 1,none]:List aw) (QdX (Qc ao aNil)) (Qq 1) (eOp eqD (eOp modD (eOp QaX ao (eOp idxD (eLst (Qc ak (Qc aD (Qc (conR (.int 4)) (Qc (conR (.int 8)) (Qc (conR (.int 16)) (Qc (conR (.int 32)) (Qc (conR (.int 64)) (Qc (conR (.int 128)) aNil))))))))) av)) aD) ak) av))
  (seqG (ifG (eOp eqD aG (eLst aNil)) (setG 2 (eLst (Qc (eOp modD (eOp QaX av (conR (.int 256))) ao) aNil))) (.nx))
  QcE))
noncomputable def QcF:List D->R:=runF 1 QiH
noncomputable abbrev QiI:Stmt:=top 30
noncomputable abbrev QlJ:List Str:= ["_law_cell","_law_k","_law_turn","_law_number"]
noncomputable abbrev QgL:List Str:= ["_law_cell","_law_k"]
noncomputable def Qd3:Ev->Fl:=(setG 0 (eOp QaX ao (conR (.int 2147483648))))
noncomputable def Qf3:Ev->Fl:=(seqG (setG 3 (eOp modD (eOp mulD (eOp addD (eOp addD (eOp modD ao (conR (.int 1000003))) (eOp mulD (eOp mulD av av) (conR (.int 7919)))) av) (conR (.int 48271))) (conR (.int 2147483629))))
  (seqG (setG 3 (eOp modD (eOp mulD (varR 3) (varR 3)) (conR (.int 2147483587))))
  (retG (eOp QaX (eOp modD (eOp mulD (varR 3) (eOp addD (varR 3) aD)) (conR (.int 2147483579))) (conR (.int 7))))))
noncomputable def QgM:Ev->Fl:=(seqG (ifG (eOp geD ao (eOp powD (conR (.int 10)) (conR (.int 12)))) (seqG (setG 0 (eOp subD (eOp QaX ao (eOp powD (conR (.int 10)) (conR (.int 12)))) ak))
  (seqG (forG (QdX (Qc (eOp modD av (conR (.int 61))) aNil)) (Qq 2) Qd3)
  (retG (eOp modD ao (conR (.int 2147483648)))))) (.nx))
  Qf3)
noncomputable def QH:List D->R:=runF 2 QgM
noncomputable abbrev QiJ:Stmt:=top 31
noncomputable abbrev QlK:List Str:= ["_law_script","_law_number","_law_houses","_law_paths","_law_start","_law_goal","_law_drawn","_law_far","_law_most"]
noncomputable abbrev QgN:List Str:= ["_law_script"]
noncomputable def Qd4:Ev->Fl:=(seqG (setG 8 (eOp idxD (eLst (Qc aK (Qc ak (Qc aD (Qc (eOp addD ak (eOp modD (eOp QaX (varR 6) (conR (.int 6))) (conR (.int 6)))) (Qc (eOp addD (eOp powD (conR (.int 10)) (conR (.int 50))) (varR 6)) aNil)))))) (eOp subD (eOp modD (varR 6) (conR (.int 6))) ak)))
  (appG 3 (eTup (Qc (varR 4) (Qc (varR 5) (Qc (varR 8) aNil))))))
noncomputable def Qd5:Ev->Fl:=(seqG (setG 6 (eFn 2 QH (Qc (eFn 2 Qj (Qc ao (Qc ak aNil))) (Qc (eOp addD (eOp mulD (conR (.int 10)) (varR 4)) (varR 5)) aNil))))
  (seqG (setG 7 (eAnd (eOp gtD (QV absD (Qc (eOp subD (varR 5) (varR 4)) aNil)) ak) (eOr (eOp eqD (eOp modD av (conR (.int 4))) ak) (eOp gtD aG (conR (.int 4))))))
  (seqG (ifG (eOr (eOp eqD (varR 4) (varR 5)) (eOr (varR 7) (eOp eqD (eOp modD (varR 6) (conR (.int 6))) au))) (.ct) (.nx))
  Qd4)))
noncomputable def Qf4:Ev->Fl:=(forG (QdX (Qc aG aNil)) (Qq 5) Qd5)
noncomputable def Qf5:Ev->Fl:=(frzG 3 (frzG 2 (retG (eTup (Qc aG (Qc (varR 3) aNil))))))
noncomputable def Qf6:Ev->Fl:=(seqG (ifG (eOp eqD (eOp modD (eOp QaX av (conR (.int 4))) aD) ak) (setG 3 (eOp stepD (varR 3) (eUn negD ak))) (.nx))
  Qf5)
noncomputable def Qd6:Ev->Fl:=(seqG (setG 3 (eLst aNil))
  (seqG (forG (QdX (Qc aG aNil)) (Qq 4) Qf4)
  Qf6))
noncomputable def Qf7:Ev->Fl:=(seqG (ifG (eOp eqD (eOp modD (eOp QaX av (conR (.int 8))) (conR (.int 8))) aD) (setG 2 aD) (.nx))
  Qd6)
noncomputable def QiK:Ev->Fl:=(seqG (setG 1 (eFn 2 QH (Qc (eFn 2 Qj (Qc ao (Qc au aNil))) (Qc ak aNil))))
  (seqG (setG 2 (eOp addD ak (eOp modD (eFn 2 Qj (Qc ao (Qc au aNil))) (conR (.int 4)))))
  (seqG (ifG (eOp eqD (eOp modD (eOp QaX av (conR (.int 8))) (conR (.int 8))) ak) (setG 2 (eOp addD (conR (.int 5)) (eOp modD (eOp QaX av (conR (.int 64))) (conR (.int 4))))) (.nx))
  Qf7)))
noncomputable def QdI:List D->R:=runF 8 QiK
noncomputable abbrev Qfc:Stmt:=top 32
noncomputable abbrev QhJ:List Str:= ["_law_script","_law_net_here","_law_last","_law_signs_here","_law_at","_law_names","_law_k","_law_number","_law_sign"]
noncomputable abbrev Qd7:List Str:= ["_law_script","_law_net_here","_law_last"]
noncomputable def Qer:Ev->Fl:=(seqG (setG 7 (eFn 2 QH (Qc (eFn 2 Qj (Qc ao (Qc (eOp addD (conR (.int 3)) (varR 6)) aNil))) (Qc (eOp addD (conR (.int 500)) (varR 6)) aNil))))
  (seqG (setG 8 (eTup (Qc (eOp modD (varR 7) (eOp idxD av au)) (Qc (eOp modD (eOp QaX (varR 7) (conR (.int 5))) (eOp addD aG ak)) (Qc (eOp idxD (varR 5) (eOp modD (eOp QaX (varR 7) (conR (.int 300))) (conR (.int 4)))) aNil)))))
  (ifG (eOp Qb1 (varR 8) (varR 3)) (appG 3 (varR 8)) (.nx))))
noncomputable def Qco:Ev->Fl:=(seqG (forG (QdX (Qc (eOp modD (eFn 2 QH (Qc (eFn 2 Qj (Qc ao (Qc aD aNil))) (Qc aD aNil))) (conR (.int 5))) aNil)) (Qq 6) Qer)
  (Qbm 3))
noncomputable def Qfd:Ev->Fl:=(seqG (setG 3 (eLst aNil))
  (seqG (setG 4 (eOp modD (eOp QaX (eFn 2 Qj (Qc ao (Qc aD aNil))) (conR (.int 25))) (conR (.int 12))))
  (seqG (setG 5 (eLst (Qc (conR (.str (Str.ofString "a"))) (Qc (conR (.str (Str.ofString "ab"))) (Qc (conR (.str (Str.ofString "ba"))) (Qc (conR (.str (Str.ofString "zzzzzzzzzzzz"))) aNil))))))
  (seqG (ifG (eOp eqD (eOp modD (eOp QaX (eFn 2 Qj (Qc ao (Qc aD aNil))) (conR (.int 300))) aD) ak) (setG 5 (eLst (Qc (conR (.str (Str.ofString "aaaaaaaaaaaa"))) (Qc (eOp addD (eOp addD (eOp mulD (conR (.str (Str.ofString "a"))) (varR 4)) (conR (.str (Str.ofString "b")))) (eOp mulD (conR (.str (Str.ofString "a"))) (eOp subD (conR (.int 11)) (varR 4)))) (Qc (eOp addD (eOp addD (eOp mulD (conR (.str (Str.ofString "a"))) (varR 4)) (conR (.str (Str.ofString "c")))) (eOp mulD (conR (.str (Str.ofString "a"))) (eOp subD (conR (.int 11)) (varR 4)))) (Qc (eOp mulD (conR (.str (Str.ofString "a"))) (conR (.int 11))) aNil)))))) (.nx))
  Qco))))
noncomputable def QbG:List D->R:=runF 6 Qfd
noncomputable abbrev QgO:Stmt:=top 33
noncomputable abbrev QjE:List Str:= ["_law_script","_law_net_here","_law_last","_law_runs","_law_k","_law_start","_law_goal","_law_most","_law_left","_law_number","_law_come"]
noncomputable abbrev Qfe:List Str:= ["_law_script","_law_net_here"]
noncomputable def Qc4:Ev->Fl:=(ifG (eOp leD (varR 10) aG) (frzG 10 (appG 3 (eTup (Qc (varR 5) (Qc (varR 6) (Qc (varR 8) (Qc (varR 10) aNil))))))) (.nx))
noncomputable def Qc5:Ev->Fl:=(seqG (ifG (eAnd (eOp Qb9 (varR 7) aK) (eOp eqD (eOp modD (varR 9) (conR (.int 3))) au)) (setG 10 (eOp addD (varR 8) (varR 7))) (.nx))
  Qc4)
noncomputable def Qc6:Ev->Fl:=(seqG (ifG (eOp Qb9 (varR 7) aK) (setG 10 (eOp addD (eOp addD (varR 8) ak) (eOp modD (eOp QaX (varR 9) (conR (.int 3))) (QV Qk1 (Qc (varR 7) (Qc (conR (.int 4)) aNil)))))) (.nx))
  Qc5)
noncomputable def QbR:Ev->Fl:=(seqG (setG 4 (eOp addD (varR 4) ak))
  (seqG (setG 9 (eFn 2 QH (Qc (eFn 2 Qj (Qc ao (Qc (eOp addD (conR (.int 3)) (eOp modD (varR 4) (conR (.int 60)))) aNil))) (Qc (varR 4) aNil))))
  (seqG (setG 10 (eOp addD (eOp addD (varR 8) ak) (eOp modD (eOp QaX (varR 9) (conR (.int 3))) (conR (.int 4)))))
  (seqG (ifG (eAnd (eOp isND (varR 7) aK) (eOp eqD (eOp modD (varR 9) (conR (.int 3))) au)) (.ct) (.nx))
  Qc6))))
noncomputable def Qff:Ev->Fl:=(forG (QdX (Qc aG aNil)) (Qq 8) QbR)
noncomputable def Qfg:Ev->Fl:=(frzG 3 (retG (eTup (Qc aG (Qc (varR 3) (Qc (eFn 3 QbG (Qc ao (Qc av (Qc aG aNil)))) aNil))))))
noncomputable def Qfh:Ev->Fl:=(seqG (ifG (eOp eqD (eOp modD aG aD) ak) (setG 3 (eOp stepD (varR 3) (eUn negD ak))) (.nx))
  Qfg)
noncomputable def Qc7:Ev->Fl:=(seqG (setG 3 (eLst aNil))
  (seqG (setG 4 au)
  (seqG (forG (iLst (eOp idxD av ak)) (bTup 3 (QaM (Qq 5) (QaM (Qq 6) (QaM (Qq 7) bNil)))) Qff)
  Qfh)))
noncomputable def QgP:Ev->Fl:=(seqG (setG 2 (eOp modD (eFn 2 Qj (Qc ao (Qc aD aNil))) (conR (.int 9))))
  (seqG (ifG (eOp eqD (eOp modD (eOp QaX (eFn 2 QH (Qc (eFn 2 Qj (Qc ao (Qc au aNil))) (Qc ak aNil))) (conR (.int 8))) (conR (.int 8))) aD) (setG 2 (eOp modD (eFn 2 Qj (Qc ao (Qc aD aNil))) (conR (.int 25)))) (.nx))
  Qc7))
noncomputable def Qcp:List D->R:=runF 9 QgP
noncomputable abbrev QbS:Stmt:=top 8
noncomputable abbrev Qc8:List Str:= ["net","last","signs","runs","path"]
noncomputable abbrev Qcq:List Str:= ["net","last","signs"]
noncomputable def QcQ:Ev->Fl:=(extG 3 (Qbp ([some 4,none]:List aw) (QdX (Qc av aNil)) (Qq 1) aV (eTup (Qc (eOp idxD ao au) (Qc (eOp idxD ao ak) (Qc av (Qc (eOp addD av ak) aNil)))))))
noncomputable def QcR:Ev->Fl:=(retG (eTup (Qc av (Qc (Qci (varR 3)) (Qc (Qci aG) aNil)))))
noncomputable def Qc9:Ev->Fl:=(seqG (setG 3 (eLst aNil))
  (seqG (forG (iLst (eOp idxD ao ak)) (Qq 4) QcQ)
  QcR))
noncomputable def Qaj:List D->R:=runF 2 Qc9
noncomputable abbrev Qda:Stmt:=top 5
noncomputable abbrev Qfi:List Str:= ["total","best"]
noncomputable abbrev Qcr:List Str:= ["total","best"]
noncomputable def QbT:Ev->Fl:=(retG (eOr (eOp isND av aK) (eOp ltD ao (eOp idxD av au))))
noncomputable def QaO:List D->R:=runF 0 QbT
noncomputable abbrev Qbr:Stmt:=top 4
noncomputable abbrev QcS:List Str:= ["houses","steps","house","bests","lap","start","goal","cost","ahead"]
noncomputable abbrev Qa2:List Str:= ["houses","steps","house"]
noncomputable def Q5:Ev->Fl:=(seqG (setG 8 (eOp idxD (varR 3) (varR 5)))
  (ifG (eAnd (eOp Qb9 (varR 8) aK) (eFn 2 QaO (Qc (eOp addD (eOp idxD (varR 8) au) (varR 7)) (Qc (eOp idxD (varR 3) (varR 6)) aNil)))) (Qcf 3 (varR 6) (eTup (Qc (eOp addD (eOp idxD (varR 8) au) (varR 7)) (Qc (eOp addD (eOp idxD (varR 8) ak) (eLst (Qc (varR 6) aNil))) aNil)))) (.nx)))
noncomputable def QbH:Ev->Fl:=(forG (iLst av) (bTup 3 (QaM (Qq 5) (QaM (Qq 6) (QaM (Qq 7) bNil)))) Q5)
noncomputable def Qbs:Ev->Fl:=(seqG (setG 3 (eOp mulD (eLst (Qc aK aNil)) ao))
  (seqG (Qcf 3 aG (eTup (Qc au (Qc (eLst (Qc aG aNil)) aNil))))
  (seqG (forG (QdX (Qc (eOp subD ao ak) aNil)) (Qq 4) QbH)
  (Qbm 3))))
noncomputable def QE:List D->R:=runF 6 Qbs
noncomputable abbrev QbI:Stmt:=top 2
noncomputable abbrev QcG:List Str:= ["net","house","steps"]
noncomputable abbrev Qdb:List Str:= ["net","house"]
noncomputable def Qd8:Ev->Fl:=(seqG (setG 2 (Qbp ([none]:List aw) (iLst (eOp idxD ao ak)) (Qq 0) aV (eTup (Qc (eOp idxD ao au) (Qc (eOp idxD ao ak) (Qc ak aNil))))))
  (frzG 2 (retG (Qbp ([none]:List aw) (iLst (eFn 3 QE (Qc (eOp idxD ao au) (Qc aG (Qc av aNil))))) (Qq 0) aV (eIf (eOp isND ao aK) aK (eOp idxD ao au))))))
noncomputable def Qa3:List D->R:=runF 1 Qd8
noncomputable abbrev QaH:Stmt:=top 3
noncomputable abbrev Qbt:List Str:= ["net","house","steps"]
noncomputable abbrev Qa4:List Str:= ["net","house"]
noncomputable def Qbu:Ev->Fl:=(seqG (setG 2 (Qbp ([none]:List aw) (iLst (eOp idxD ao ak)) (Qq 0) (eOp Qb9 (eOp idxD ao aD) aK) ao))
  (frzG 2 (retG (eFn 3 QE (Qc (eOp idxD ao au) (Qc aG (Qc av aNil)))))))
noncomputable def QZ:List D->R:=runF 1 Qbu
noncomputable abbrev QaI:Stmt:=top 1
noncomputable abbrev Qbv:List Str:= ["net","house"]
noncomputable abbrev Qa5:List Str:= ["net","house"]
noncomputable def Qbw:Ev->Fl:=(retG (Qbp ([none]:List aw) (iLst (eFn 2 QZ (Qc ao (Qc av aNil)))) (Qq 0) aV (eIf (eOp isND ao aK) aK (eOp idxD ao au))))
noncomputable def Q0:List D->R:=runF 0 Qbw
noncomputable abbrev QcH:Stmt:=top 7
noncomputable abbrev Qd9:List Str:= ["net","house","houses","times","wanted"]
noncomputable abbrev Qdc:List Str:= ["net","house","houses"]
noncomputable def QcI:Ev->Fl:=(seqG (setG 3 (eFn 2 Q0 (Qc ao (Qc av aNil))))
  (frzG 3 (seqG (setG 4 (Qbp ([some 3,none]:List aw) (iLst aG) (Qq 1) aV (eOp idxD ao av)))
  (retG (eIf (eOp inD aK (varR 4)) aK (QV Qiv (Qc (varR 4) aNil)))))))
noncomputable def QaB:List D->R:=runF 2 QcI
noncomputable abbrev Qdd:Stmt:=top 9
noncomputable abbrev Qfj:List Str:= ["net","house","houses","last","turns","middle","ahead","behind"]
noncomputable abbrev Qcs:List Str:= ["net","house","houses","last"]
noncomputable def Q8:Ev->Fl:=(seqG (setG 7 (eFn 3 QaB (Qc ao (Qc (varR 5) (Qc aG aNil)))))
  (ifG (eAnd (eOp Qb9 (varR 6) aK) (eAnd (eOp Qb9 (varR 7) aK) (eOp leD (eOp addD (varR 6) (varR 7)) (varR 3)))) (appG 4 (eOp addD (varR 6) (varR 7))) (.nx)))
noncomputable def Qde:Ev->Fl:=(seqG (setG 4 (eLst aNil))
  (seqG (forG (Qpx (eFn 2 Qa3 (Qc ao (Qc av aNil)))) (bTup 2 (QaM (Qq 5) (QaM (Qq 6) bNil))) Q8)
  (retG (QjB (varR 4)))))
noncomputable def QaP:List D->R:=runF 4 Qde
noncomputable abbrev Qdf:Stmt:=top 27
noncomputable abbrev Qfk:List Str:= ["tale"]
noncomputable abbrev Qct:List Str:= ["tale"]
noncomputable def Qdg:Ev->Fl:=(retG (eTup (Qc (eOp idxD ao au) (Qc (Qci (eOp idxD ao ak)) (Qc (Qci (eOp idxD ao aD)) aNil)))))
noncomputable def QaQ:List D->R:=runF 0 Qdg
noncomputable abbrev Qdh:Stmt:=top 13
noncomputable abbrev Qfl:List Str:= ["run"]
noncomputable abbrev Qcu:List Str:= ["run"]
noncomputable def Qdi:Ev->Fl:=(retG (eOp idxD ao (conR (.int 3))))
noncomputable def Q1:List D->R:=runF 0 Qdi
noncomputable abbrev QbU:Stmt:=top 12
noncomputable abbrev QdJ:List Str:= ["net","tale","spot","bests","start","goal","left","come"]
noncomputable abbrev Qbx:List Str:= ["net","tale","spot"]
noncomputable def Qb2:Ev->Fl:=(ifG (eAnd (eOp leD (varR 7) (eOp idxD (eOp idxD (varR 3) (varR 5)) au)) (eOp gtD (varR 6) (eOp idxD (eOp idxD (varR 3) (varR 4)) au))) (Qcf 3 (varR 4) (eTup (Qc (varR 6) (Qc (eTup (Qc (varR 4) (Qc (varR 5) (Qc (varR 6) (Qc (varR 7) aNil))))) aNil)))) (.nx))
noncomputable def QbV:Ev->Fl:=(seqG (setG 3 (eOp mulD (eLst (Qc (eTup (Qc (eUn negD ak) (Qc aK aNil))) aNil)) (eOp idxD ao au)))
  (seqG (Qcf 3 (eOp idxD aG au) (eTup (Qc (eOp idxD aG ak) (Qc aK aNil))))
  (seqG (forG (iLst (Qjg Q1 true (eOp idxD av ak))) (bTup 4 (QaM (Qq 4) (QaM (Qq 5) (QaM (Qq 6) (QaM (Qq 7) bNil))))) Qb2)
  (Qbm 3))))
noncomputable def Q9:List D->R:=runF 5 QbV
noncomputable abbrev Qbh:Stmt:=top 11
noncomputable abbrev Qcv:List Str:= ["net","tale","spot"]
noncomputable abbrev QbW:List Str:= ["net","tale","spot"]
noncomputable def Qcw:Ev->Fl:=(retG (Qbp ([none]:List aw) (iLst (eFn 3 Q9 (Qc ao (Qc av (Qc aG aNil))))) (Qq 0) aV (eOp idxD ao au)))
noncomputable def Qar:List D->R:=runF 0 Qcw
noncomputable abbrev QdK:Stmt:=top 17
noncomputable abbrev QeF:List Str:= ["net","tale","spot","heard","runs","signs"]
noncomputable abbrev Qfm:List Str:= ["net","tale","spot"]
noncomputable def QgQ:Ev->Fl:=(seqG (setG 3 (eFn 3 Qar (Qc ao (Qc av (Qc aG aNil)))))
  (frzG 3 (seqG (setG 4 (Qbp ([some 3,none]:List aw) (iLst (eOp idxD av ak)) (Qq 1) (eOp leD (eOp idxD av (conR (.int 3))) (eOp idxD ao (eOp idxD av ak))) av))
  (frzG 3 (seqG (setG 5 (Qbp ([some 3,none]:List aw) (iLst (eOp idxD av aD)) (Qq 1) (eOp leD (eOp idxD av ak) (eOp idxD ao (eOp idxD av au))) av))
  (retG (eTup (Qc aG (Qc (Qci (varR 4)) (Qc (Qci (varR 5)) aNil))))))))))
noncomputable def Qcx:List D->R:=runF 3 QgQ
noncomputable abbrev Qas:Stmt:=top 19
noncomputable abbrev Qa6:List Str:= ["path","last","most"]
noncomputable abbrev QaT:List Str:= ["path","last"]
noncomputable def Qa7:Ev->Fl:=(seqG (setG 2 (eOp idxD ao aD))
  (retG (Qbp ([some 0,some 2,none]:List aw) (QdX (Qc (eOp addD (eOp subD av aG) ak) aNil)) (Qq 2) aV (eTup (Qc (eOp idxD ao au) (Qc (eOp idxD ao ak) (Qc aG (Qc (eOp addD aG av) aNil))))))))
noncomputable def QS:List D->R:=runF 1 Qa7
noncomputable abbrev Qdj:Stmt:=top 15
noncomputable abbrev Qfn:List Str:= ["run"]
noncomputable abbrev Qcy:List Str:= ["run"]
noncomputable def Qdk:Ev->Fl:=(retG (eTup (Qc (eOp idxD ao au) (Qc (eOp idxD ao ak) (Qc (eOp idxD ao aD) aNil)))))
noncomputable def Q2:List D->R:=runF 0 Qdk
noncomputable abbrev QbX:Stmt:=top 18
noncomputable abbrev Qdl:List Str:= ["net","view","last","told","run","runs","path"]
noncomputable abbrev Qcz:List Str:= ["net","view","last"]
noncomputable def QcT:Ev->Fl:=(Qcf 3 (eFn 1 Q2 (Qc (varR 4) aNil)) aV)
noncomputable def QaJ:Ev->Fl:=(ifG (eOp Qb9 (eOp idxD (varR 6) aD) aK) (frzG 3 (extG 5 (Qbp ([some 3,none]:List aw) (iLst (eFn 2 QS (Qc (varR 6) (Qc aG aNil)))) (Qq 1) (eOp Qb1 (eFn 1 Q2 (Qc av aNil)) ao) av))) (.nx))
noncomputable def QcU:Ev->Fl:=(retG (eTup (Qc aG (Qc (Qci (varR 5)) (Qc (Qci (eOp idxD av aD)) aNil)))))
noncomputable def QcV:Ev->Fl:=(seqG (setG 5 (QV Qhq (Qc (eOp idxD av ak) aNil)))
  (seqG (forG (iLst (eOp idxD ao ak)) (Qq 6) QaJ)
  QcU))
noncomputable def Qdm:Ev->Fl:=(seqG (setG 3 (fun _=> .ok .ow (.dT [] [])))
  (seqG (forG (iLst (eOp idxD av ak)) (Qq 4) QcT)
  QcV))
noncomputable def QaR:List D->R:=runF 4 Qdm
noncomputable abbrev Qea:Stmt:=top 20
noncomputable abbrev Qf8:List Str:= ["net","tale","spot"]
noncomputable abbrev Qdn:List Str:= ["net","tale","spot"]
noncomputable def Qeb:Ev->Fl:=(retG (eFn 3 QaR (Qc ao (Qc (eFn 3 Qcx (Qc ao (Qc av (Qc aG aNil)))) (Qc (eOp idxD av au) aNil)))))
noncomputable def Qa8:List D->R:=runF 0 Qeb
noncomputable abbrev QaU:Stmt:=top 25
noncomputable abbrev Qb3:List Str:= ["net","tale","houses","turn","steps","current","place","same_for","house","slow"]
noncomputable abbrev QaC:List Str:= ["net","tale","houses","turn"]
noncomputable def Qae:Ev->Fl:=(setG 6 (eOp modD (eOp addD (varR 6) ak) (QV lenD (Qc aG aNil))))
noncomputable def QQ:Ev->Fl:=(seqG (setG 8 (eOp idxD aG (varR 6)))
  (frzG 5 (seqG (setG 9 (eFn 3 Qa8 (Qc ao (Qc (varR 5) (Qc (eTup (Qc (varR 8) (Qc (varR 3) aNil))) aNil)))))
  (seqG (ifG (eOp eqD (varR 9) (varR 5)) (augG 7 ak) (frzG 9 (seqG (appG 4 (eTup (Qc (varR 8) (Qc (varR 9) aNil))))
  (frzG 9 (seqG (setG 5 (varR 9))
  (setG 7 ak))))))
  Qae))))
noncomputable def QaV:Ev->Fl:=(seqG (setG 4 (eLst aNil))
  (seqG (setG 5 (eFn 1 QaQ (Qc av aNil)))
  (seqG (setG 6 au)
  (seqG (setG 7 au)
  (seqG (whlE (eOp ltD (varR 7) (QV lenD (Qc aG aNil))) QQ 100000)
  (Qbm 4))))))
noncomputable def QP:List D->R:=runF 6 QaV
noncomputable abbrev Qec:Stmt:=top 26
noncomputable abbrev Qf9:List Str:= ["steps","tale"]
noncomputable abbrev Qdo:List Str:= ["steps","tale"]
noncomputable def QcJ:Ev->Fl:=(retG (eIf (eTru ao) (eOp idxD (eOp idxD ao (eUn negD ak)) ak) av))
noncomputable def Qa9:List D->R:=runF 0 QcJ
noncomputable abbrev Qat:Stmt:=QdS (top 22) 1
noncomputable abbrev Qbi:List Str:= ["self","net","tale"]
noncomputable abbrev Qaf:List Str:= ["self","net","tale"]
noncomputable def Qau (t:MTab):Ev->Fl:=(retG (eTup (Qc (conR (.str (Str.ofString "no"))) (Qc (conR (.str (Str.ofString ""))) aNil))))
noncomputable abbrev Qby:Stmt:=QdS (top 23) 1
noncomputable abbrev QcW:List Str:= ["self","net","tale","house","turn","name"]
noncomputable abbrev Qba:List Str:= ["self","net","tale"]
noncomputable def QaD (t:MTab):Ev->Fl:=(ifG (eAnd (eOp eqD (varR 5) (eFld ["Came"] "name" ao)) (eOr (eOp isND (eFld ["Came"] "by" ao) aK) (eOp leD (varR 4) (eFld ["Came"] "by" ao)))) (retG aK) (.nx))
noncomputable def QbJ (t:MTab):Ev->Fl:=(retG (eTup (Qc (conR (.str (Str.ofString "no"))) (Qc (eFld ["Came"] "name" ao) aNil))))
noncomputable def QN (t:MTab):Ev->Fl:=(seqG (forG (iLst (eOp idxD aG aD)) (bTup 3 (QaM (Qq 3) (QaM (Qq 4) (QaM (Qq 5) bNil)))) (QaD t))
  (QbJ t))
noncomputable abbrev QaW:Stmt:=QdS (top 24) 1
noncomputable abbrev Qb4:List Str:= ["self","net","tale","steps","inner"]
noncomputable abbrev QaE:List Str:= ["self","net","tale"]
noncomputable def Qw (t:MTab):Ev->Fl:=(seqG (setG 3 (eFn 4 QP (Qc av (Qc aG (Qc (eFld ["Shared"] "houses" ao) (Qc (eFld ["Shared"] "turn" ao) aNil))))))
  (frzG 3 (seqG (setG 4 (Qir "doubt" 3 t (eFld ["Shared"] "inside" ao) (Qc av (Qc (eFn 2 Qa9 (Qc (varR 3) (Qc aG aNil))) aNil))))
  (frzG 4 (frzG 3 (retG (eIf (eOp isND (varR 4) aK) aK (eTup (Qc (conR (.str (Str.ofString "row"))) (Qc (varR 3) (Qc (varR 4) aNil)))))))))))
noncomputable def Qu:Nat->MTab
 |0=> []
 |n+1=> [("Sentence",runF 0 (Qau (Qu n))),("Came",runF 3 (QN (Qu n))),("Shared",runF 2 (Qw (Qu n)))]
noncomputable abbrev Qav:Stmt:=QdS (top 22) 0
noncomputable abbrev Qbj:List Str:= ["self","net","tale"]
noncomputable abbrev Qag:List Str:= ["self","net","tale"]
noncomputable def Qaw:Ev->Fl:=(retG (eOp isND (Qir "doubt" 3 (Qu 12) ao (Qc av (Qc aG aNil))) aK))
noncomputable def Qt:List D->R:=runF 0 Qaw
noncomputable def Qax:MTab:= [("Sentence",Qt),("Came",Qt),("Shared",Qt)]
noncomputable abbrev QbY:Stmt:=QdS (top 23) 0
noncomputable abbrev QaK:List Str:= ["self","name","by"]
noncomputable abbrev QgR:List (Ev->R):= [(varR 1),(varR 2)]
noncomputable abbrev Qbb:Stmt:=QdS (top 24) 0
noncomputable abbrev Qaa:List Str:= ["self","houses","turn","inside"]
noncomputable abbrev QdL:List (Ev->R):= [(QV Qhq (Qc av aNil)),(varR 2),(varR 3)]
noncomputable abbrev Qng:Stmt:=top 38
noncomputable abbrev QpK:List Str:= ["_law_script","_law_net_here","_law_tale_here","_law_number","_law_last","_law_house","_law_houses","_law_sign","_law_handed","_law_found","_law_fast","_law_turns","_law_turn","_law_sentence"]
noncomputable abbrev QlL:List Str:= ["_law_script"]
noncomputable def QeG:Ev->Fl:=(frzG 1 (ifG (eAnd (Qir "holds" 3 Qax (varR 13) (Qc av (Qc (eTup (Qc (varR 4) (Qc (eOp idxD aG ak) (Qc (eLst (Qc (varR 7) aNil)) aNil)))) aNil))) (eOr (eOp isND (varR 9) aK) (eOp ltD (varR 12) (varR 9)))) (retG (conR (.bl false))) (.nx)))
noncomputable def QcK:Ev->Fl:=(frzG 6 (seqG (setG 13 (Qlm "Shared" ["houses","turn","inside"] QdL 4 [] (Qc (varR 6) (Qc (varR 12) (Qc (Qlm "Came" ["name","by"] QgR 3 [.non] (Qc (conR (.str (Str.ofString "ab"))) aNil)) aNil)))))
  (frzG 10 (frzG 1 (seqG (ifG (eOp neD (Qir "holds" 3 Qax (varR 13) (Qc av (Qc (varR 10) aNil))) (eAnd (eOp Qb9 (varR 9) aK) (eOp leD (varR 9) (varR 12)))) (retG (conR (.bl false))) (.nx))
  QeG)))))
noncomputable def QeH:Ev->Fl:=(frzG 11 (seqG (forG (iLst (varR 11)) (Qq 12) QcK)
  (retG aV)))
noncomputable def QgS:Ev->Fl:=(frzG 1 (seqG (setG 10 (eFn 3 Qaj (Qc av (Qc (varR 4) (Qc (eLst (Qc (varR 7) aNil)) aNil)))))
  (seqG (setG 11 (Qnc (Qc (eOp addD (varR 4) ak) aNil)))
  (seqG (ifG (eOp gtD (eOp idxD av au) (conR (.int 4))) (frzG 11 (frzG 9 (setG 11 (Qbp ([some 4,some 9,none]:List aw) (iLst (varR 11)) (Qq 2) aR aG)))) (.nx))
  QeH))))
noncomputable def QgT:Ev->Fl:=(frzG 6 (frzG 1 (seqG (ifG (eOr (eOp neD (varR 9) (eFn 4 QdH (Qc av (Qc (varR 5) (Qc (varR 6) (Qc (varR 4) aNil)))))) (eOp neD (varR 8) (eTup (Qc av (Qc (varR 6) aNil))))) (retG (conR (.bl false))) (.nx))
  QgS)))
noncomputable def QpL:Ev->Fl:=(seqG (setG 1 (eFn 1 QdI (Qc ao aNil)))
  (frzG 1 (seqG (setG 2 (eFn 2 Qcp (Qc ao (Qc av aNil))))
  (seqG (setG 3 (eFn 2 QH (Qc (eFn 2 Qj (Qc ao (Qc (conR (.int 5)) aNil))) (Qc (conR (.int 12)) aNil))))
  (seqG (setG 4 (eOp idxD aG au))
  (seqG (setG 5 (eOp modD (varR 3) (eOp idxD av au)))
  (seqG (setG 6 (eFn 2 QcF (Qc (eOp idxD av au) (Qc (eOp QaX (varR 3) (conR (.int 8))) aNil))))
  (seqG (setG 7 (eTup (Qc (varR 5) (Qc au (Qc (conR (.str (Str.ofString "ab"))) aNil)))))
  (seqG (setG 8 (eTup (Qc (eTup (Qc (eOp idxD av au) (Qc (QV Qhq (Qc (eOp idxD av ak) aNil)) aNil))) (Qc (QV Qhq (Qc (varR 6) aNil)) aNil))))
  (seqG (setG 9 (eFn 4 QaP (Qc (eOp idxD (varR 8) au) (Qc (varR 5) (Qc (eOp idxD (varR 8) ak) (Qc (varR 4) aNil))))))
  (seqG (ifG (eAnd (eOp Qb9 (varR 9) aK) (eOr (eNot (QV isiD (Qc (varR 9) (Qc (conR (.ty "int")) aNil)))) (QV isiD (Qc (varR 9) (Qc (conR (.ty "bool")) aNil))))) (retG (conR (.bl false))) (.nx))
  QgT)))))))))))
noncomputable def Qga:List D->R:=runF 13 QpL
section
variable {P:Program}{w:World}{K:PySem.W.Frag}{mg:Str->Option Value}{base:Heap}
theorem QhK:FnScope Qe9 Qcm (Qg Qc1):=ae
theorem QhL {f:Addr}{fd:FuncData}(Fn:Fun K "_law_cell_at" "_law_cell_at" Qc1 f fd)(m_len:mg "len"=none):FnOk P w K mg base CX0 1 f fd Qcm (spV0 K Qj 2):=
 Q6 (N:=Qe9) (ps:=Qcm) (k:=0) (g:=QbQ) Fn QhK (fun cdv A outer s H E F0 hr=>let hu:=QO hr;(Qd (Qab (Qm c_lt aQ (Qkb m_len (Qa (Qb 0) Qe))) (Qh (Qz (Qn hu (Qb 0) aQ))) QF)
  (Qh (Qz Qf))))
theorem sc_L_counts:FnScope Qf2 Qc2 (Qg Qd1):=ae
theorem QiL {f:Addr}{fd:FuncData}(Fn:Fun K "_law_counts" "_law_counts" Qd1 f fd):FnOk P w K mg base CX0 1 f fd Qc2 (spV0 K Qa1 2):=
 Q6 (N:=Qf2) (ps:=Qc2) (k:=0) (g:=Qd2) Fn sc_L_counts (fun cdv A outer s H E F0 hr=>let hu:=QO hr;(Qd (Qi 2 sc_L_counts.nd (Qk7 aQ Qf))
  (Qd (Qi 3 sc_L_counts.nd v_bl)
  (Qd (Qgp 100000 .never (QeQ (Qb 3)) (Qd (Qi 3 sc_L_counts.nd v_bl)
  (Qh (Qap .never rfl (QM aB) (Qen rfl (QC (Qk 4 sc_L_counts.nd) (QC (Qk 5 sc_L_counts.nd) (QC (Qk 6 sc_L_counts.nd) Qem))))
  (Qh (Qab (vt_w (Qca (Qm (c_in hu) (Qb 4) (Qb 2)) (Qbn (Qm c_lt (QU (Qn hu (Qb 2) (Qb 4)) Qf) (QtG hu (Qb 2) (Qb 5) Qf))))) (Qd (QbN hu 2 (QU (Qn hu (Qb 2) (Qb 4)) Qf) (Qb 5))
  (Qh (Qi 3 sc_L_counts.nd v_bl))) QF))))))
  (Qh (QdU 2))))))
theorem sc_L_sure:FnScope QjD Qfa (Qg QgF):=ae
theorem QlM {f:Addr}{fd:FuncData}(Fn:Fun K "_law_sure" "_law_sure" QgF f fd)(m_range:mg "range"=none):FnOk P w K mg base CX0 1 f fd Qfa (spV0 K Qcn 1):=
 Q6 (N:=QjD) (ps:=Qfa) (k:=0) (g:=QgG) Fn sc_L_sure (fun cdv A outer s H E F0 hr=>let hu:=QO hr;(Qd (Qi 1 sc_L_sure.nd (Qbe Qe))
  (Qd (Qap .never rfl (Qbq m_range (Qa aB Qe)) (Qk 2 sc_L_sure.nd)
  (Qd (Qi 3 sc_L_sure.nd (Qk7 (Qb 2) Qf))
  (Qd (Qi 4 sc_L_sure.nd v_bl)
  (Qd (Qgp 100000 .never (QeQ (Qb 4)) (Qd (Qi 4 sc_L_sure.nd v_bl)
  (Qh (Qap .never rfl (QM aB) (Qen rfl (QC (Qk 5 sc_L_sure.nd) (QC (Qk 6 sc_L_sure.nd) (QC (Qk 7 sc_L_sure.nd) Qem))))
  (Qh (Qab (vt_w (Qca (Qm QcO (Qb 7) Qal) (Qbn (Qm (c_in hu) (Qb 5) (Qb 3))))) (Qh (Qab (vt_w (Qgo (Qm (Qil hu) (Qb 6) (Qb 3)) (Qel (Qm c_lt (QU (Qn hu (Qb 3) (Qb 5)) (Qb 7)) (Qn hu (Qb 3) (Qb 6)))))) (Qd (QbN hu 3 (QU (Qn hu (Qb 3) (Qb 5)) (Qb 7)) (Qb 6))
  (Qh (Qi 4 sc_L_sure.nd v_bl))) QF)) QF))))))
  (QG 3 (Qh (QeS 1 (Qb 3))))))))
  (Qh (QdU 1)))))
theorem sc_L_due:FnScope QiE QgI (Qg QgH):=ae
theorem Qnh {f:Addr}{fd:FuncData}(Fn:Fun K "_law_due" "_law_due" QgH f fd)(m_len:mg "len"=none)(m_max:mg "max"=none)(m_min:mg "min"=none)(C_L_counts:Callee P w K mg base 1 "_law_counts" 2 Qa1)(C_L_sure:Callee P w K mg base 1 "_law_sure" 1 Qcn):FnOk P w K mg base CX0 2 f fd QgI (spV0 K QdH 4):=
 Q6 (N:=QiE) (ps:=QgI) (k:=1) (g:=QiF) Fn sc_L_due (fun cdv A outer s H E F0 hr=>let hu:=QO hr;(Qd (Qi 4 sc_L_due.nd (v_fn C_L_sure az (Qa (Qb 0) Qe)))
  (Qd (Qi 5 sc_L_due.nd (Qbe Qe))
  (Qd (Qap .never rfl (Qnf (v_fn C_L_counts az (Qa (Qb 0) (Qa aQ Qe)))) (Qen rfl (QC (Qk 6 sc_L_due.nd) (QC (Qk 7 sc_L_due.nd) Qem)))
  (QG 4 (Qd (Qcc 8 (osc:=Qg QgH) (N:=QiE) ["_law_sure_here","_law_other","_law_goal"] ([some 4,some 6,none]:List aw) [2] rfl rfl sc_L_due.nd af rfl (QM (Qb 2)) (Qaq 2) (fun _ _ _ _=>⟨(Qk 2 (show(["_law_sure_here","_law_other","_law_goal"]:List Str).Nodup by decide+kernel)),(QeU (Qm (c_in hu) (Qb 2) (Qn hu (Qb 0) aQ))),(Qn hu (Qn hu (Qb 0) aQ) (Qb 2))⟩))
  (Qh (Qab (Qm (c_eq hu) (Qkb m_len (Qa (Qb 8) Qe)) (Qkb m_len (Qa (Qb 2) Qe))) (Qh (QeS 5 (QU (Qb 7) (Qn1 rfl m_max (Qa (Qb 8) Qe))))) QF)))))
  (Qd (Qab (vt_w (Qgo (Qm (c_eq hu) (Qkb m_len (Qa (Qb 5) Qe)) Qf) (Qel (Qm c_gt (Qn7 rfl m_min (Qa (Qb 5) Qe)) (Qb 3))))) (Qh (Qz Qal)) QF)
  (Qh (Qz (Qn7 rfl m_min (Qa (Qb 5) Qe)))))))))
theorem sc_L_lot:FnScope QiG QgK (Qg QgJ):=ae
theorem Qni {f:Addr}{fd:FuncData}(Fn:Fun K "_law_lot" "_law_lot" QgJ f fd)(m_range:mg "range"=none):FnOk P w K mg base CX0 1 f fd QgK (spV0 K QcF 2):=
 Q6 (N:=QiG) (ps:=QgK) (k:=0) (g:=QiH) Fn sc_L_lot (fun cdv A outer s H E F0 hr=>let hu:=QO hr;(Qd (Qcc 2 (osc:=Qg QgJ) (N:=QiG) ["_law_number","_law_house"] ([some 1,none]:List aw) [1] rfl rfl sc_L_lot.nd af rfl (Qbq m_range (Qa (Qb 0) Qe)) (Qaq 1) (fun _ _ _ _=>⟨(Qk 1 (show(["_law_number","_law_house"]:List Str).Nodup by decide+kernel)),(QeU (Qm (c_eq hu) (QY (Qan (Qb 0) (Qn hu (Qbe (Qa Qf (Qa Qf (Qa Qf (Qa Qf (Qa Qf (Qa Qf (Qa Qf (Qa Qf Qe))))))))) aQ)) Qf) Qf)),aQ⟩))
  (Qd (Qab (Qm (c_eq hu) (Qb 2) (Qbe Qe)) (Qh (Qi 2 sc_L_lot.nd (Qbe (Qa (QY (Qan aQ Qf) (Qb 0)) Qe)))) QF)
  (Qh (Qz (Qk9 (Qb 2) (Qn hu (Qbe (Qa Qf (Qa (Qk8 Qf) Qe))) (QY (Qan aQ Qf) Qf))))))))
theorem sc_L_mix:FnScope QlJ QgL (Qg QiI):=ae
theorem Qnj {f:Addr}{fd:FuncData}(Fn:Fun K "_law_mix" "_law_mix" QiI f fd)(m_range:mg "range"=none):FnOk P w K mg base CX0 1 f fd QgL (spV0 K QH 2):=
 Q6 (N:=QlJ) (ps:=QgL) (k:=0) (g:=QgM) Fn sc_L_mix (fun cdv A outer s H E F0 hr=>(Qd (Qab (Qm c_ge (Qb 0) (Qo1 Qf Qf)) (Qd (Qi 0 sc_L_mix.nd (Qhr (Qan (Qb 0) (Qo1 Qf Qf)) Qf))
  (Qd (Qap .never rfl (Qbq m_range (Qa (QY aQ Qf) Qe)) (Qk 2 sc_L_mix.nd)
  (Qh (Qi 0 sc_L_mix.nd (Qan (Qb 0) Qf))))
  (Qh (Qz (QY (Qb 0) Qf))))) QF)
  (Qd (Qi 3 sc_L_mix.nd (QY (QdW (QU (QU (QY (Qb 0) Qf) (QdW (QdW aQ aQ) Qf)) aQ) Qf) Qf))
  (Qd (Qi 3 sc_L_mix.nd (QY (QdW (Qb 3) (Qb 3)) Qf))
  (Qh (Qz (Qan (QY (QdW (Qb 3) (QU (Qb 3) Qf)) Qf) Qf)))))))
theorem sc_L_net:FnScope QlK QgN (Qg QiJ):=ae
theorem Qnk {f:Addr}{fd:FuncData}(Fn:Fun K "_law_net" "_law_net" QiJ f fd)(m_abs:mg "abs"=none)(m_range:mg "range"=none)(C_L_cell_at:Callee P w K mg base 1 "_law_cell_at" 2 Qj)(C_L_mix:Callee P w K mg base 1 "_law_mix" 2 QH):FnOk P w K mg base CX0 2 f fd QgN (spV0 K QdI 1):=
 Q6 (N:=QlK) (ps:=QgN) (k:=1) (g:=QiK) Fn sc_L_net (fun cdv A outer s H E F0 hr=>let hu:=QO hr;(Qd (Qi 1 sc_L_net.nd (v_fn C_L_mix az (Qa aH (Qa Qf Qe))))
  (Qd (Qi 2 sc_L_net.nd (QU Qf (QY aH Qf)))
  (Qd (Qab (Qm (c_eq hu) (QY (Qan aQ Qf) Qf) Qf) (Qh (Qi 2 sc_L_net.nd (QU Qf (QY (Qan aQ Qf) Qf)))) QF)
  (Qd (Qab (Qm (c_eq hu) (QY (Qan aQ Qf) Qf) Qf) (Qh (Qi 2 sc_L_net.nd Qf)) QF)
  (Qd (Qi 3 sc_L_net.nd (Qbe Qe))
  (Qd (Qap .never rfl (Qbq m_range (Qa (Qb 2) Qe)) (Qk 4 sc_L_net.nd)
  (Qh (Qap .never rfl (Qbq m_range (Qa (Qb 2) Qe)) (Qk 5 sc_L_net.nd)
  (Qd (Qi 6 sc_L_net.nd (v_fn C_L_mix az (Qa aH (Qa (QU (QdW Qf (Qb 4)) (Qb 5)) Qe))))
  (Qd (Qi 7 sc_L_net.nd (Qrj (Qgn c_gt (Qrw m_abs (Qa (Qhr (Qb 5) (Qb 4)) Qe)) Qf) (QmN (v_or (Qgn (c_eq hu) (QY aQ Qf) Qf) (QmN (Qgn c_gt (Qb 2) Qf))))))
  (Qd (Qab (vt_w (Qgo (Qm (c_eq hu) (Qb 4) (Qb 5)) (Qgo (QeQ (Qb 7)) (Qel (Qm (c_eq hu) (QY (Qb 6) Qf) Qf))))) (Qh QeR) QF)
  (Qd (Qi 8 sc_L_net.nd (Qn hu (Qbe (Qa Qal (Qa Qf (Qa Qf (Qa (QU Qf (QY (Qan (Qb 6) Qf) Qf)) (Qa (QU (Qo1 Qf Qf) (Qb 6)) Qe)))))) (Qhr (QY (Qb 6) Qf) Qf)))
  (Qh (QeS 3 (Qao (Qa (Qb 4) (Qa (Qb 5) (Qa (Qb 8) Qe)))))))))))))
  (Qd (Qab (Qm (c_eq hu) (QY (Qan aQ Qf) Qf) Qf) (Qh (Qi 3 sc_L_net.nd (Qk9 (Qb 3) (Qk8 Qf)))) QF)
  (QG 3 (QG 2 (Qh (Qz (Qao (Qa (Qb 2) (Qa (Qb 3) Qe)))))))))))))))
theorem sc_L_signs:FnScope QhJ Qd7 (Qg Qfc):=ae
theorem Qkn {f:Addr}{fd:FuncData}(Fn:Fun K "_law_signs" "_law_signs" Qfc f fd)(m_range:mg "range"=none)(C_L_cell_at:Callee P w K mg base 1 "_law_cell_at" 2 Qj)(C_L_mix:Callee P w K mg base 1 "_law_mix" 2 QH):FnOk P w K mg base CX0 2 f fd Qd7 (spV0 K QbG 3):=
 Q6 (N:=QhJ) (ps:=Qd7) (k:=1) (g:=Qfd) Fn sc_L_signs (fun cdv A outer s H E F0 hr=>let hu:=QO hr;(Qd (Qi 3 sc_L_signs.nd (Qbe Qe))
  (Qd (Qi 4 sc_L_signs.nd (QY (Qan aH Qf) Qf))
  (Qd (Qi 5 sc_L_signs.nd (Qbe (Qa Qb5 (Qa Qb5 (Qa Qb5 (Qa Qb5 Qe))))))
  (Qd (Qab (Qm (c_eq hu) (QY (Qan aH Qf) Qf) Qf) (Qh (Qi 5 sc_L_signs.nd (Qbe (Qa Qb5 (Qa (QU (QU (QdW Qb5 (Qb 4)) Qb5) (QdW Qb5 (Qhr Qf (Qb 4)))) (Qa (QU (QU (QdW Qb5 (Qb 4)) Qb5) (QdW Qb5 (Qhr Qf (Qb 4)))) (Qa (QdW Qb5 Qf) Qe))))))) QF)
  (Qd (Qap .never rfl (Qbq m_range (Qa (QY (v_fn C_L_mix az (Qa aH (Qa Qf Qe))) Qf) Qe)) (Qk 6 sc_L_signs.nd)
  (Qd (Qi 7 sc_L_signs.nd (v_fn C_L_mix az (Qa (v_fn C_L_cell_at az (Qa (Qb 0) (Qa (QU Qf (Qb 6)) Qe))) (Qa (QU Qf (Qb 6)) Qe))))
  (Qd (Qi 8 sc_L_signs.nd (Qao (Qa (QY (Qb 7) (Qn hu aQ Qf)) (Qa (QY (Qan (Qb 7) Qf) (QU (Qb 2) Qf)) (Qa (Qn hu (Qb 5) (QY (Qan (Qb 7) Qf) Qf)) Qe)))))
  (Qh (Qab (Qm (Qil hu) (Qb 8) (Qb 3)) (Qh (QeS 3 (Qb 8))) QF)))))
  (Qh (QdU 3))))))))
theorem sc_L_tale:FnScope QjE Qfe (Qg QgO):=ae
theorem QlN {f:Addr}{fd:FuncData}(Fn:Fun K "_law_tale" "_law_tale" QgO f fd)(m_min:mg "min"=none)(m_range:mg "range"=none)(C_L_cell_at:Callee P w K mg base 1 "_law_cell_at" 2 Qj)(C_L_mix:Callee P w K mg base 1 "_law_mix" 2 QH)(C_L_signs:Callee P w K mg base 2 "_law_signs" 3 QbG):FnOk P w K mg base CX0 3 f fd Qfe (spV0 K Qcp 2):=
 Q6 (N:=QjE) (ps:=Qfe) (k:=2) (g:=QgP) Fn sc_L_tale (fun cdv A outer s H E F0 hr=>let hu:=QO hr;(Qd (Qi 2 sc_L_tale.nd (QY aH Qf))
  (Qd (Qab (Qm (c_eq hu) (QY (Qan (v_fn C_L_mix az (Qa aH (Qa Qf Qe))) Qf) Qf) Qf) (Qh (Qi 2 sc_L_tale.nd (QY aH Qf))) QF)
  (Qd (Qi 3 sc_L_tale.nd (Qbe Qe))
  (Qd (Qi 4 sc_L_tale.nd Qf)
  (Qd (Qap .never rfl (QM (Qn hu aQ Qf)) (Qen rfl (QC (Qk 5 sc_L_tale.nd) (QC (Qk 6 sc_L_tale.nd) (QC (Qk 7 sc_L_tale.nd) Qem))))
  (Qh (Qap .never rfl (Qbq m_range (Qa (Qb 2) Qe)) (Qk 8 sc_L_tale.nd)
  (Qd (Qi 4 sc_L_tale.nd (QU (Qb 4) Qf))
  (Qd (Qi 9 sc_L_tale.nd (v_fn C_L_mix az (Qa (v_fn C_L_cell_at az (Qa (Qb 0) (Qa (QU Qf (QY (Qb 4) Qf)) Qe))) (Qa (Qb 4) Qe))))
  (Qd (Qi 10 sc_L_tale.nd (QU (QU (Qb 8) Qf) (QY (Qan (Qb 9) Qf) Qf)))
  (Qd (Qab (vt_w (Qca (Qm Qgm (Qb 7) Qal) (Qbn (Qm (c_eq hu) (QY (Qb 9) Qf) Qf)))) (Qh QeR) QF)
  (Qd (Qab (Qm QcO (Qb 7) Qal) (Qh (Qi 10 sc_L_tale.nd (QU (QU (Qb 8) Qf) (QY (Qan (Qb 9) Qf) (Qrt rfl m_min (Qa (Qb 7) (Qa Qf Qe))))))) QF)
  (Qd (Qab (vt_w (Qca (Qm QcO (Qb 7) Qal) (Qbn (Qm (c_eq hu) (QY (Qb 9) Qf) Qf)))) (Qh (Qi 10 sc_L_tale.nd (QU (Qb 8) (Qb 7)))) QF)
  (Qh (Qab (Qm c_le (Qb 10) (Qb 2)) (QG 10 (Qh (QeS 3 (Qao (Qa (Qb 5) (Qa (Qb 6) (Qa (Qb 8) (Qa (Qb 10) Qe)))))))) QF)))))))))))
  (Qd (Qab (Qm (c_eq hu) (QY (Qb 2) Qf) Qf) (Qh (Qi 3 sc_L_tale.nd (Qk9 (Qb 3) (Qk8 Qf)))) QF)
  (QG 3 (Qh (Qz (Qao (Qa (Qb 2) (Qa (Qb 3) (Qa (v_fn C_L_signs az (Qa (Qb 0) (Qa aQ (Qa (Qb 2) Qe)))) Qe))))))))))))))
theorem sc_P_fastest:FnScope Qc8 Qcq (Qg QbS):=ae
theorem QhM {f:Addr}{fd:FuncData}(Fn:Fun K "fastest" "fastest" QbS f fd)(m_range:mg "range"=none)(m_sorted:mg "sorted"=none):FnOk P w K mg base CX0 1 f fd Qcq (spV0 K Qaj 3):=
 Q6 (N:=Qc8) (ps:=Qcq) (k:=0) (g:=Qc9) Fn sc_P_fastest (fun cdv A outer s H E F0 hr=>let hu:=QO hr;(Qd (Qi 3 sc_P_fastest.nd (Qbe Qe))
  (Qd (Qap .never rfl (QM aB) (Qk 4 sc_P_fastest.nd)
  (Qh (QnY 3 (QfO (osc:=Qg QbS) (N:=Qc8) ["path","left"] ([some 4,none]:List aw) [1] rfl rfl af rfl (Qbq m_range (Qa aQ Qe)) (Qaq 1) (fun _ _ _ _=>⟨(Qk 1 (show(["path","left"]:List Str).Nodup by decide+kernel)),QeT,(Qao (Qa aB (Qa aB (Qa aQ (Qa (QU aQ Qf) Qe)))))⟩)))))
  (Qh (Qz (Qao (Qa aQ (Qa (Qcj m_sorted (Qb 3)) (Qa (Qcj m_sorted (Qb 2)) Qe)))))))))
theorem QhN:FnScope Qfi Qcr (Qg Qda):=ae
theorem QhO {f:Addr}{fd:FuncData}(Fn:Fun K "is_less" "is_less" Qda f fd):FnOk P w K mg base CX0 1 f fd Qcr (spV0 K QaO 2):=
 Q6 (N:=Qfi) (ps:=Qcr) (k:=0) (g:=QbT) Fn QhN (fun cdv A outer s H E F0 hr=>let hu:=QO hr;(Qh (Qz (v_or (Qgn Qgm aQ Qal) (QmN (Qgn c_lt (Qb 0) (Qn hu aQ Qf)))))))
theorem sc_P_least_ways:FnScope QcS Qa2 (Qg Qbr):=ae
theorem Qfo {f:Addr}{fd:FuncData}(Fn:Fun K "least_ways" "least_ways" Qbr f fd)(m_range:mg "range"=none)(C_P_is_less:Callee P w K mg base 1 "is_less" 2 QaO):FnOk P w K mg base CX0 2 f fd Qa2 (spV0 K QE 3):=
 Q6 (N:=QcS) (ps:=Qa2) (k:=1) (g:=Qbs) Fn sc_P_least_ways (fun cdv A outer s H E F0 hr=>let hu:=QO hr;(Qd (Qi 3 sc_P_least_ways.nd (QdW (Qbe (Qa Qal Qe)) (Qb 0)))
  (Qd (QbN hu 3 (Qao (Qa Qf (Qa (Qbe (Qa (Qb 2) Qe)) Qe))) (Qb 2))
  (Qd (Qap .never rfl (Qbq m_range (Qa (Qhr (Qb 0) Qf) Qe)) (Qk 4 sc_P_least_ways.nd)
  (Qh (Qap .never rfl (QM aQ) (Qen rfl (QC (Qk 5 sc_P_least_ways.nd) (QC (Qk 6 sc_P_least_ways.nd) (QC (Qk 7 sc_P_least_ways.nd) Qem))))
  (Qd (Qi 8 sc_P_least_ways.nd (Qn hu (Qb 3) (Qb 5)))
  (Qh (Qab (vt_w (Qca (Qm QcO (Qb 8) Qal) (Qbn (QeQ (v_fn C_P_is_less az (Qa (QU (Qn hu (Qb 8) Qf) (Qb 7)) (Qa (Qn hu (Qb 3) (Qb 6)) Qe))))))) (Qh (QbN hu 3 (Qao (Qa (QU (Qn hu (Qb 8) Qf) (Qb 7)) (Qa (QU (Qn hu (Qb 8) Qf) (Qbe (Qa (Qb 6) Qe))) Qe))) (Qb 6))) QF))))))
  (Qh (QdU 3))))))
theorem sc_P_fewest:FnScope QcG Qdb (Qg QbI):=ae
theorem QiM {f:Addr}{fd:FuncData}(Fn:Fun K "fewest" "fewest" QbI f fd)(C_P_least_ways:Callee P w K mg base 2 "least_ways" 3 QE):FnOk P w K mg base CX0 3 f fd Qdb (spV0 K Qa3 2):=
 Q6 (N:=QcG) (ps:=Qdb) (k:=2) (g:=Qd8) Fn sc_P_fewest (fun cdv A outer s H E F0 hr=>let hu:=QO hr;(Qd (Qcc 2 (osc:=Qg QbI) (N:=QcG) ["path"] ([none]:List aw) [0] rfl rfl sc_P_fewest.nd af rfl (QM aB) (Qaq 0) (fun _ _ _ _=>⟨(Qk 0 (show(["path"]:List Str).Nodup by decide+kernel)),QeT,(Qao (Qa aB (Qa aB (Qa Qf Qe))))⟩))
  (QG 2 (Qh (Qz (QfO (osc:=Qg QbI) (N:=QcG) ["best"] ([none]:List aw) [0] rfl rfl af rfl (QM (v_fn C_P_least_ways az (Qa aB (Qa (Qb 2) (Qa aQ Qe))))) (Qaq 0) (fun _ _ _ _=>⟨(Qk 0 (show(["best"]:List Str).Nodup by decide+kernel)),QeT,(v_if (Qm Qgm (Qb 0) Qal) Qal aB)⟩)))))))
theorem sc_P_sure_bests:FnScope Qbt Qa4 (Qg QaH):=ae
theorem Qfp {f:Addr}{fd:FuncData}(Fn:Fun K "sure_bests" "sure_bests" QaH f fd)(C_P_least_ways:Callee P w K mg base 2 "least_ways" 3 QE):FnOk P w K mg base CX0 3 f fd Qa4 (spV0 K QZ 2):=
 Q6 (N:=Qbt) (ps:=Qa4) (k:=2) (g:=Qbu) Fn sc_P_sure_bests (fun cdv A outer s H E F0 hr=>let hu:=QO hr;(Qd (Qcc 2 (osc:=Qg QaH) (N:=Qbt) ["path"] ([none]:List aw) [0] rfl rfl sc_P_sure_bests.nd af rfl (QM aB) (Qaq 0) (fun _ _ _ _=>⟨(Qk 0 (show(["path"]:List Str).Nodup by decide+kernel)),(QeU (Qm QcO aB Qal)),(Qb 0)⟩))
  (QG 2 (Qh (Qz (v_fn C_P_least_ways az (Qa aB (Qa (Qb 2) (Qa aQ Qe)))))))))
theorem Qfq:FnScope Qbv Qa5 (Qg QaI):=ae
theorem Qfr {f:Addr}{fd:FuncData}(Fn:Fun K "sure_times" "sure_times" QaI f fd)(C_P_sure_bests:Callee P w K mg base 3 "sure_bests" 2 QZ):FnOk P w K mg base CX0 4 f fd Qa5 (spV0 K Q0 2):=
 Q6 (N:=Qbv) (ps:=Qa5) (k:=3) (g:=Qbw) Fn Qfq (fun cdv A outer s H E F0 hr=>let hu:=QO hr;(Qh (Qz (QfO (osc:=Qg QaI) (N:=Qbv) ["best"] ([none]:List aw) [0] rfl rfl af rfl (QM (v_fn C_P_sure_bests az (Qa (Qb 0) (Qa aQ Qe)))) (Qaq 0) (fun _ _ _ _=>⟨(Qk 0 (show(["best"]:List Str).Nodup by decide+kernel)),QeT,(v_if (Qm Qgm (Qb 0) Qal) Qal aB)⟩)))))
theorem sc_P_surely:FnScope Qd9 Qdc (Qg QcH):=ae
theorem QiN {f:Addr}{fd:FuncData}(Fn:Fun K "surely" "surely" QcH f fd)(m_max:mg "max"=none)(C_P_sure_times:Callee P w K mg base 4 "sure_times" 2 Q0):FnOk P w K mg base CX0 5 f fd Qdc (spV0 K QaB 3):=
 Q6 (N:=Qd9) (ps:=Qdc) (k:=4) (g:=QcI) Fn sc_P_surely (fun cdv A outer s H E F0 hr=>let hu:=QO hr;(Qd (Qi 3 sc_P_surely.nd (v_fn C_P_sure_times az (Qa (Qb 0) (Qa aQ Qe))))
  (QG 3 (Qd (Qcc 4 (osc:=Qg QcH) (N:=Qd9) ["times","other"] ([some 3,none]:List aw) [1] rfl rfl sc_P_surely.nd af rfl (QM (Qb 2)) (Qaq 1) (fun _ _ _ _=>⟨(Qk 1 (show(["times","other"]:List Str).Nodup by decide+kernel)),QeT,(Qn hu (Qb 0) aQ)⟩))
  (Qh (Qz (v_if (Qm (c_in hu) Qal (Qb 4)) Qal (Qn1 rfl m_max (Qa (Qb 4) Qe)))))))))
theorem sc_P_soonest:FnScope Qfj Qcs (Qg Qdd):=ae
theorem QhP {f:Addr}{fd:FuncData}(Fn:Fun K "soonest" "soonest" Qdd f fd)(m_enumerate:mg "enumerate"=none)(m_min:mg "min"=none)(C_P_fewest:Callee P w K mg base 3 "fewest" 2 Qa3)(C_P_surely:Callee P w K mg base 5 "surely" 3 QaB):FnOk P w K mg base CX0 6 f fd Qcs (spV0 K QaP 4):=
 Q6 (N:=Qfj) (ps:=Qcs) (k:=5) (g:=Qde) Fn sc_P_soonest (fun cdv A outer s H E F0 hr=>(Qd (Qi 4 sc_P_soonest.nd (Qbe Qe))
  (Qd (Qap .never rfl (Qpy m_enumerate (v_fn C_P_fewest az (Qa (Qb 0) (Qa aQ Qe)))) (Qen rfl (QC (Qk 5 sc_P_soonest.nd) (QC (Qk 6 sc_P_soonest.nd) Qem)))
  (Qd (Qi 7 sc_P_soonest.nd (v_fn C_P_surely az (Qa (Qb 0) (Qa (Qb 5) (Qa (Qb 2) Qe)))))
  (Qh (Qab (vt_w (Qca (Qm QcO (Qb 6) Qal) (Qca (Qm QcO (Qb 7) Qal) (Qbn (Qm c_le (QU (Qb 6) (Qb 7)) (Qb 3)))))) (Qh (QeS 4 (QU (Qb 6) (Qb 7)))) QF))))
  (Qh (Qz (QpG rfl m_min (Qb 4)))))))
theorem QhQ:FnScope Qfk Qct (Qg Qdf):=ae
theorem QhR {f:Addr}{fd:FuncData}(Fn:Fun K "ordered" "ordered" Qdf f fd)(m_sorted:mg "sorted"=none):FnOk P w K mg base CX0 1 f fd Qct (spV0 K QaQ 1):=
 Q6 (N:=Qfk) (ps:=Qct) (k:=0) (g:=Qdg) Fn QhQ (fun cdv A outer s H E F0 hr=>let hu:=QO hr;(Qh (Qz (Qao (Qa aB (Qa (Qcj m_sorted aB) (Qa (Qcj m_sorted aB) Qe)))))))
theorem QhS:FnScope Qfl Qcu (Qg Qdh):=ae
theorem QhT {f:Addr}{fd:FuncData}(Fn:Fun K "come_of" "come_of" Qdh f fd):FnOk P w K mg base CX0 1 f fd Qcu (spV0 K Q1 1):=
 Q6 (N:=Qfl) (ps:=Qcu) (k:=0) (g:=Qdi) Fn QhS (fun cdv A outer s H E F0 hr=>let hu:=QO hr;(Qh (Qz aB)))
theorem sc_P_walk_back:FnScope QdJ Qbx (Qg QbU):=ae
theorem QfC {f:Addr}{fd:FuncData}(Fn:Fun K "walk_back" "walk_back" QbU f fd)(m_sorted:mg "sorted"=none)(C_P_come_of:Callee P w K mg base 1 "come_of" 1 Q1):FnOk P w K mg base CX0 3 f fd Qbx (spV0 K Q9 3):=
 Q6 (N:=QdJ) (ps:=Qbx) (k:=2) (g:=QbV) Fn sc_P_walk_back (fun cdv A outer s H E F0 hr=>let hu:=QO hr;(Qd (Qi 3 sc_P_walk_back.nd (QdW (Qbe (Qa (Qao (Qa (Qk8 Qf) (Qa Qal Qe))) Qe)) aB))
  (Qd (QbN hu 3 (Qao (Qa (Qn hu (Qb 2) Qf) (Qa Qal Qe))) (Qn hu (Qb 2) Qf))
  (Qd (Qap .never rfl (QM (Qpp C_P_come_of az m_sorted (Qn hu aQ Qf))) (Qen rfl (QC (Qk 4 sc_P_walk_back.nd) (QC (Qk 5 sc_P_walk_back.nd) (QC (Qk 6 sc_P_walk_back.nd) (QC (Qk 7 sc_P_walk_back.nd) Qem)))))
  (Qh (Qab (vt_w (Qca (Qm c_le (Qb 7) (Qn hu (Qn hu (Qb 3) (Qb 5)) Qf)) (Qbn (Qm c_gt (Qb 6) (Qn hu (Qn hu (Qb 3) (Qb 4)) Qf))))) (Qh (QbN hu 3 (Qao (Qa (Qb 6) (Qa (Qao (Qa (Qb 4) (Qa (Qb 5) (Qa (Qb 6) (Qa (Qb 7) Qe))))) Qe))) (Qb 4))) QF)))
  (Qh (QdU 3))))))
theorem QgU:FnScope Qcv QbW (Qg Qbh):=ae
theorem QgV {f:Addr}{fd:FuncData}(Fn:Fun K "heard_by" "heard_by" Qbh f fd)(C_P_walk_back:Callee P w K mg base 3 "walk_back" 3 Q9):FnOk P w K mg base CX0 4 f fd QbW (spV0 K Qar 3):=
 Q6 (N:=Qcv) (ps:=QbW) (k:=3) (g:=Qcw) Fn QgU (fun cdv A outer s H E F0 hr=>let hu:=QO hr;(Qh (Qz (QfO (osc:=Qg Qbh) (N:=Qcv) ["best"] ([none]:List aw) [0] rfl rfl af rfl (QM (v_fn C_P_walk_back az (Qa (Qb 0) (Qa aQ (Qa (Qb 2) Qe))))) (Qaq 0) (fun _ _ _ _=>⟨(Qk 0 (show(["best"]:List Str).Nodup by decide+kernel)),QeT,aB⟩)))))
theorem sc_P_seen:FnScope QeF Qfm (Qg QdK):=ae
theorem QlO {f:Addr}{fd:FuncData}(Fn:Fun K "seen" "seen" QdK f fd)(m_sorted:mg "sorted"=none)(C_P_heard_by:Callee P w K mg base 4 "heard_by" 3 Qar):FnOk P w K mg base CX0 5 f fd Qfm (spV0 K Qcx 3):=
 Q6 (N:=QeF) (ps:=Qfm) (k:=4) (g:=QgQ) Fn sc_P_seen (fun cdv A outer s H E F0 hr=>let hu:=QO hr;(Qd (Qi 3 sc_P_seen.nd (v_fn C_P_heard_by az (Qa (Qb 0) (Qa aQ (Qa (Qb 2) Qe)))))
  (QG 3 (Qd (Qcc 4 (osc:=Qg QdK) (N:=QeF) ["heard","run"] ([some 3,none]:List aw) [1] rfl rfl sc_P_seen.nd af rfl (QM (Qn hu aQ Qf)) (Qaq 1) (fun _ _ _ _=>⟨(Qk 1 (show(["heard","run"]:List Str).Nodup by decide+kernel)),(QeU (Qm c_le (Qn hu aQ Qf) (Qn hu (Qb 0) (Qn hu aQ Qf)))),aQ⟩))
  (QG 3 (Qd (Qcc 5 (osc:=Qg QdK) (N:=QeF) ["heard","sign"] ([some 3,none]:List aw) [1] rfl rfl sc_P_seen.nd af rfl (QM (Qn hu aQ Qf)) (Qaq 1) (fun _ _ _ _=>⟨(Qk 1 (show(["heard","sign"]:List Str).Nodup by decide+kernel)),(QeU (Qm c_le (Qn hu aQ Qf) (Qn hu (Qb 0) (Qn hu aQ Qf)))),aQ⟩))
  (Qh (Qz (Qao (Qa (Qb 2) (Qa (Qcj m_sorted (Qb 4)) (Qa (Qcj m_sorted (Qb 5)) Qe))))))))))))
theorem sc_P_latest_runs:FnScope Qa6 QaT (Qg Qas):=ae
theorem Qeu {f:Addr}{fd:FuncData}(Fn:Fun K "latest_runs" "latest_runs" Qas f fd)(m_range:mg "range"=none):FnOk P w K mg base CX0 1 f fd QaT (spV0 K QS 2):=
 Q6 (N:=Qa6) (ps:=QaT) (k:=0) (g:=Qa7) Fn sc_P_latest_runs (fun cdv A outer s H E F0 hr=>let hu:=QO hr;(Qd (Qi 2 sc_P_latest_runs.nd aB)
  (Qh (Qz (QfO (osc:=Qg Qas) (N:=Qa6) ["path","most","left"] ([some 0,some 2,none]:List aw) [2] rfl rfl af rfl (Qbq m_range (Qa (QU (Qhr aQ (Qb 2)) Qf) Qe)) (Qaq 2) (fun _ _ _ _=>⟨(Qk 2 (show(["path","most","left"]:List Str).Nodup by decide+kernel)),QeT,(Qao (Qa aB (Qa aB (Qa (Qb 2) (Qa (QU (Qb 2) aQ) Qe)))))⟩))))))
theorem QhU:FnScope Qfn Qcy (Qg Qdj):=ae
theorem QhV {f:Addr}{fd:FuncData}(Fn:Fun K "run_key" "run_key" Qdj f fd):FnOk P w K mg base CX0 1 f fd Qcy (spV0 K Q2 1):=
 Q6 (N:=Qfn) (ps:=Qcy) (k:=0) (g:=Qdk) Fn QhU (fun cdv A outer s H E F0 hr=>let hu:=QO hr;(Qh (Qz (Qao (Qa aB (Qa aB (Qa aB Qe)))))))
theorem sc_P_slowest:FnScope Qdl Qcz (Qg QbX):=ae
theorem QhW {f:Addr}{fd:FuncData}(Fn:Fun K "slowest" "slowest" QbX f fd)(m_list:mg "list"=none)(m_sorted:mg "sorted"=none)(C_P_latest_runs:Callee P w K mg base 1 "latest_runs" 2 QS)(C_P_run_key:Callee P w K mg base 1 "run_key" 1 Q2):FnOk P w K mg base CX0 2 f fd Qcz (spV0 K QaR 3):=
 Q6 (N:=Qdl) (ps:=Qcz) (k:=1) (g:=Qdm) Fn sc_P_slowest (fun cdv A outer s H E F0 hr=>let hu:=QO hr;(Qd (Qi 3 sc_P_slowest.nd v_dT)
  (Qd (Qap .never rfl (QM (Qn hu aQ Qf)) (Qk 4 sc_P_slowest.nd)
  (Qh (QbN hu 3 v_bl (v_fn C_P_run_key az (Qa (Qb 4) Qe)))))
  (Qd (Qi 5 sc_P_slowest.nd (Qi6 m_list (Qa (Qn hu aQ Qf) Qe)))
  (Qd (Qap .never rfl (QM aB) (Qk 6 sc_P_slowest.nd)
  (Qh (Qab (Qm QcO (Qn hu (Qb 6) Qf) Qal) (QG 3 (Qh (QnY 5 (QfO (osc:=Qg QbX) (N:=Qdl) ["told","run"] ([some 3,none]:List aw) [1] rfl rfl af rfl (QM (v_fn C_P_latest_runs az (Qa (Qb 6) (Qa (Qb 2) Qe)))) (Qaq 1) (fun _ _ _ _=>⟨(Qk 1 (show(["told","run"]:List Str).Nodup by decide+kernel)),(QeU (Qm (Qil hu) (v_fn C_P_run_key az (Qa aQ Qe)) (Qb 0))),aQ⟩))))) QF)))
  (Qh (Qz (Qao (Qa (Qb 2) (Qa (Qcj m_sorted (Qb 5)) (Qa (Qcj m_sorted (Qn hu aQ Qf)) Qe)))))))))))
theorem QiO:FnScope Qf8 Qdn (Qg Qea):=ae
theorem QiP {f:Addr}{fd:FuncData}(Fn:Fun K "slowed" "slowed" Qea f fd)(C_P_seen:Callee P w K mg base 5 "seen" 3 Qcx)(C_P_slowest:Callee P w K mg base 2 "slowest" 3 QaR):FnOk P w K mg base CX0 6 f fd Qdn (spV0 K Qa8 3):=
 Q6 (N:=Qf8) (ps:=Qdn) (k:=5) (g:=Qeb) Fn QiO (fun cdv A outer s H E F0 hr=>let hu:=QO hr;(Qh (Qz (v_fn C_P_slowest az (Qa (Qb 0) (Qa (v_fn C_P_seen az (Qa (Qb 0) (Qa aQ (Qa (Qb 2) Qe)))) (Qa (Qn hu aQ Qf) Qe)))))))
theorem sc_P_common_steps:FnScope Qb3 QaC (Qg QaU):=ae
theorem Qed {f:Addr}{fd:FuncData}(Fn:Fun K "common_steps" "common_steps" QaU f fd)(m_len:mg "len"=none)(C_P_ordered:Callee P w K mg base 1 "ordered" 1 QaQ)(C_P_slowed:Callee P w K mg base 6 "slowed" 3 Qa8):FnOk P w K mg base CX0 7 f fd QaC (spV0 K QP 4):=
 Q6 (N:=Qb3) (ps:=QaC) (k:=6) (g:=QaV) Fn sc_P_common_steps (fun cdv A outer s H E F0 hr=>let hu:=QO hr;(Qd (Qi 4 sc_P_common_steps.nd (Qbe Qe))
  (Qd (Qi 5 sc_P_common_steps.nd (v_fn C_P_ordered az (Qa aQ Qe)))
  (Qd (Qi 6 sc_P_common_steps.nd Qf)
  (Qd (Qi 7 sc_P_common_steps.nd Qf)
  (Qd (Qgp 100000 .never (Qm c_lt (Qb 7) (Qkb m_len (Qa (Qb 2) Qe))) (Qd (Qi 8 sc_P_common_steps.nd (Qn hu (Qb 2) (Qb 6)))
  (QG 5 (Qd (Qi 9 sc_P_common_steps.nd (v_fn C_P_slowed az (Qa (Qb 0) (Qa (Qb 5) (Qa (Qao (Qa (Qb 8) (Qa (Qb 3) Qe))) Qe)))))
  (Qd (Qab (Qm (c_eq hu) (Qb 9) (Qb 5)) (Qh (QrN 7 sc_P_common_steps.nd Qf)) (QG 9 (Qd (QeS 4 (Qao (Qa (Qb 8) (Qa (Qb 9) Qe))))
  (QG 9 (Qd (Qi 5 sc_P_common_steps.nd (Qb 9))
  (Qh (Qi 7 sc_P_common_steps.nd Qf)))))))
  (Qh (Qi 6 sc_P_common_steps.nd (QY (QU (Qb 6) Qf) (Qkb m_len (Qa (Qb 2) Qe))))))))))
  (Qh (QdU 4))))))))
theorem QiQ:FnScope Qf9 Qdo (Qg Qec):=ae
theorem QiR {f:Addr}{fd:FuncData}(Fn:Fun K "end_of" "end_of" Qec f fd):FnOk P w K mg base CX0 1 f fd Qdo (spV0 K Qa9 2):=
 Q6 (N:=Qf9) (ps:=Qdo) (k:=0) (g:=QcJ) Fn QiQ (fun cdv A outer s H E F0 hr=>let hu:=QO hr;(Qh (Qz (v_if (QrM (Qb 0)) (Qn hu (Qn hu (Qb 0) (Qk8 Qf)) Qf) aQ))))
theorem Qdp:FnScope Qbi Qaf (Qg Qat):=ae
theorem Qdq {f:Addr}{fd:FuncData}(Fn:Fun K "doubt" "Sentence.doubt" Qat f fd){n:Nat}{t:MTab}(D_t:Qbg P w K mg base (7+n) "doubt" 3 t):FnOk P w K mg base CX0 (7+n+1) f fd Qaf (spV0 K (runF 0 (Qau t)) 3):=
 Q6 (N:=Qbi) (ps:=Qaf) (k:=7+n) (g:=Qau t) Fn Qdp (fun cdv A outer s H E F0 hr=>(Qh (Qz (Qao (Qa Qb5 (Qa Qb5 Qe))))))
theorem sc_M_Came_doubt:FnScope QcW Qba (Qg Qby):=ae
theorem Qfs {f:Addr}{fd:FuncData}(Fn:Fun K "doubt" "Came.doubt" Qby f fd)(FO_Came_by:QdA K ["Came"] "by")(FO_Came_name:QdA K ["Came"] "name"){n:Nat}{t:MTab}(D_t:Qbg P w K mg base (7+n) "doubt" 3 t):FnOk P w K mg base CX0 (7+n+1) f fd Qba (spV0 K (runF 3 (QN t)) 3):=
 Q6 (N:=QcW) (ps:=Qba) (k:=7+n) (g:=QN t) Fn sc_M_Came_doubt (fun cdv A outer s H E F0 hr=>let hu:=QO hr;(Qd (Qap .never rfl (QM (Qn hu (Qb 2) Qf)) (Qen rfl (QC (Qk 3 sc_M_Came_doubt.nd) (QC (Qk 4 sc_M_Came_doubt.nd) (QC (Qk 5 sc_M_Came_doubt.nd) Qem))))
  (Qh (Qab (vt_w (Qca (Qm (c_eq hu) (Qb 5) (Qiq FO_Came_name (Qb 0))) (Qbn (vt_w (Qgo (Qm Qgm (Qiq FO_Came_by (Qb 0)) Qal) (Qel (Qm c_le (Qb 4) (Qiq FO_Came_by (Qb 0))))))))) (Qh (Qz Qal)) QF)))
  (Qh (Qz (Qao (Qa Qb5 (Qa (Qiq FO_Came_name (Qb 0)) Qe)))))))
theorem sc_M_Shared_doubt:FnScope Qb4 QaE (Qg QaW):=ae
theorem Qee {f:Addr}{fd:FuncData}(Fn:Fun K "doubt" "Shared.doubt" QaW f fd)(C_P_common_steps:Callee P w K mg base 7 "common_steps" 4 QP)(C_P_end_of:Callee P w K mg base 1 "end_of" 2 Qa9)(FO_Shared_houses:QdA K ["Shared"] "houses")(FO_Shared_inside:QdA K ["Shared"] "inside")(FO_Shared_turn:QdA K ["Shared"] "turn"){n:Nat}{t:MTab}(D_t:Qbg P w K mg base (7+n) "doubt" 3 t):FnOk P w K mg base CX0 (7+n+1) f fd QaE (spV0 K (runF 2 (Qw t)) 3):=
 Q6 (N:=Qb4) (ps:=QaE) (k:=7+n) (g:=Qw t) Fn sc_M_Shared_doubt (fun cdv A outer s H E F0 hr=>(Qd (Qi 3 sc_M_Shared_doubt.nd (v_fn C_P_common_steps (hr.mono aa) (Qa aQ (Qa (Qb 2) (Qa (Qiq FO_Shared_houses (Qb 0)) (Qa (Qiq FO_Shared_turn (Qb 0)) Qe))))))
  (QG 3 (Qd (Qi 4 sc_M_Shared_doubt.nd (Qji D_t (hr.mono aa) (Qiq FO_Shared_inside (Qb 0)) (Qa aQ (Qa (v_fn C_P_end_of (hr.mono aa) (Qa (Qb 3) (Qa (Qb 2) Qe))) Qe))))
  (QG 4 (QG 3 (Qh (Qz (v_if (Qm Qgm (Qb 4) Qal) Qal (Qao (Qa Qb5 (Qa (Qb 3) (Qa (Qb 4) Qe)))))))))))))
theorem Qdr:FnScope Qbj Qag (Qg Qav):=ae
theorem Qah {f:Addr}{fd:FuncData}(Fn:Fun K "holds" "Sentence.holds" Qav f fd)(D_doubt:Qbg P w K mg base 19 "doubt" 3 (Qu 12)):FnOk P w K mg base CX0 20 f fd Qag (spV0 K Qt 3):=
 Q6 (N:=Qbj) (ps:=Qag) (k:=19) (g:=Qaw) Fn Qdr (fun cdv A outer s H E F0 hr=>(Qh (Qz (Qgn Qgm (Qji D_doubt az (Qb 0) (Qa aQ (Qa (Qb 2) Qe))) Qal))))
theorem QfD:FnScope QaK QaK (Qg QbY):=ae
theorem QfE {f:Addr}{dV:Value}{fd:FuncData}(Fn:FunD K "__init__" "Came.__init__" QbY f dV fd):FnOk P w K mg base CX0 1 f fd QaK (spI K ["name","by"] QgR 3):=
 Qll (ps:=QaK) (k:=0) Fn QfD (by decide+kernel) aj (fun cdv A outer s H E F0 H0 o C dx hr=>(Qe2 aQ (Qe2 (Qb 2) QnZ)))
theorem Qev:FnScope Qaa Qaa (Qg Qbb):=ae
theorem Qew {f:Addr}{dV:Value}{fd:FuncData}(Fn:FunD K "__init__" "Shared.__init__" Qbb f dV fd)(m_list:mg "list"=none):FnOk P w K mg base CX0 1 f fd Qaa (spI K ["houses","turn","inside"] QdL 4):=
 Qll (ps:=Qaa) (k:=0) Fn Qev (by decide+kernel) aj (fun cdv A outer s H E F0 H0 o C dx hr=>(Qe2 (Qi6 m_list (Qa aQ Qe)) (Qe2 (Qb 2) (Qe2 (Qb 3) QnZ))))
theorem sc_law:FnScope QpK QlL (Qg Qng):=ae
theorem Qsj {f:Addr}{fd:FuncData}(Fn:Fun K "law" "law" Qng f fd)(m_abs:mg "abs"=none)(m_bool:mg "bool"=none)(m_int:mg "int"=none)(m_isinstance:mg "isinstance"=none)(m_list:mg "list"=none)(m_range:mg "range"=none)(C_L_cell_at:Callee P w K mg base 1 "_law_cell_at" 2 Qj)(C_L_due:Callee P w K mg base 2 "_law_due" 4 QdH)(C_L_lot:Callee P w K mg base 1 "_law_lot" 2 QcF)(C_L_mix:Callee P w K mg base 1 "_law_mix" 2 QH)(C_L_net:Callee P w K mg base 2 "_law_net" 1 QdI)(C_L_tale:Callee P w K mg base 3 "_law_tale" 2 Qcp)(C_P_fastest:Callee P w K mg base 1 "fastest" 3 Qaj)(C_P_soonest:Callee P w K mg base 6 "soonest" 4 QaP)(D_holds:Qbg P w K mg base 20 "holds" 3 Qax)(M_Came_1:MkOk P w K mg base 1 "Came" ["name","by"] QgR 3 [.non])(M_Shared_0:MkOk P w K mg base 1 "Shared" ["houses","turn","inside"] QdL 4 []):FnOk P w K mg base CX0 21 f fd QlL (spV0 K Qga 1):=
 Q6 (N:=QpK) (ps:=QlL) (k:=20) (g:=QpL) Fn sc_law (fun cdv A outer s H E F0 hr=>let hu:=QO hr;(Qd (Qi 1 sc_law.nd (v_fn C_L_net az (Qa (Qb 0) Qe)))
  (QG 1 (Qd (Qi 2 sc_law.nd (v_fn C_L_tale az (Qa (Qb 0) (Qa aQ Qe))))
  (Qd (Qi 3 sc_law.nd (v_fn C_L_mix az (Qa aH (Qa Qf Qe))))
  (Qd (Qi 4 sc_law.nd (Qn hu (Qb 2) Qf))
  (Qd (Qi 5 sc_law.nd (QY (Qb 3) (Qn hu aQ Qf)))
  (Qd (Qi 6 sc_law.nd (v_fn C_L_lot az (Qa (Qn hu aQ Qf) (Qa (Qan (Qb 3) Qf) Qe))))
  (Qd (Qi 7 sc_law.nd (Qao (Qa (Qb 5) (Qa Qf (Qa Qb5 Qe)))))
  (Qd (Qi 8 sc_law.nd (Qao (Qa (Qao (Qa (Qn hu aQ Qf) (Qa (Qi6 m_list (Qa (Qn hu aQ Qf) Qe)) Qe))) (Qa (Qi6 m_list (Qa (Qb 6) Qe)) Qe))))
  (Qd (Qi 9 sc_law.nd (v_fn C_P_soonest az (Qa (Qn hu (Qb 8) Qf) (Qa (Qb 5) (Qa (Qn hu (Qb 8) Qf) (Qa (Qb 4) Qe))))))
  (Qd (Qab (vt_w (Qca (Qm QcO (Qb 9) Qal) (Qbn (vt_w (Qgo (Qri (QeQ (Qrs m_isinstance (Qa (Qb 9) (Qa (v_ty m_int) Qe))))) (Qel (QeQ (Qrs m_isinstance (Qa (Qb 9) (Qa (v_ty m_bool) Qe)))))))))) (Qh (Qz v_bl)) QF)
  (QG 6 (QG 1 (Qd (Qab (vt_w (Qgo (Qm (c_ne hu) (Qb 9) (v_fn C_L_due az (Qa aQ (Qa (Qb 5) (Qa (Qb 6) (Qa (Qb 4) Qe)))))) (Qel (Qm (c_ne hu) (Qb 8) (Qao (Qa aQ (Qa (Qb 6) Qe))))))) (Qh (Qz v_bl)) QF)
  (QG 1 (Qd (Qi 10 sc_law.nd (v_fn C_P_fastest az (Qa aQ (Qa (Qb 4) (Qa (Qbe (Qa (Qb 7) Qe)) Qe)))))
  (Qd (Qi 11 sc_law.nd (Qsf rfl m_list m_range (Qa (QU (Qb 4) Qf) Qe)))
  (Qd (Qab (Qm c_gt (Qn hu aQ Qf) Qf) (QG 11 (QG 9 (Qh (Qcc 11 (osc:=Qg Qng) (N:=QpK) ["_law_last","_law_found","_law_turn"] ([some 4,some 9,none]:List aw) [2] rfl rfl sc_law.nd af rfl (QM (Qb 11)) (Qaq 2) (fun _ _ _ _=>⟨(Qk 2 (show(["_law_last","_law_found","_law_turn"]:List Str).Nodup by decide+kernel)),(QeU (vt_w (Qgo (Qm (c_eq hu) (Qb 2) (Qb 0)) (Qel (Qm c_lt (Qrw m_abs (Qa (Qhr (Qb 2) (Qn hu (Qbe (Qa aQ (Qa (Qb 0) Qe))) (QrQ m_int (Qa (Qgn Qgm aQ Qal) Qe)))) Qe)) Qf))))),(Qb 2)⟩))))) QF)
  (QG 11 (Qd (Qap .never rfl (QM (Qb 11)) (Qk 12 sc_law.nd)
  (QG 6 (Qd (Qi 13 sc_law.nd (Qn0 M_Shared_0 az (Qa (Qb 6) (Qa (Qb 12) (Qa (Qn0 M_Came_1 az (Qa Qb5 Qe)) Qe)))))
  (QG 10 (QG 1 (Qd (Qab (Qm (c_ne hu) (Qji D_holds az (Qb 13) (Qa aQ (Qa (Qb 10) Qe))) (Qrj (Qgn QcO (Qb 9) Qal) (QmN (Qgn c_le (Qb 9) (Qb 12))))) (Qh (Qz v_bl)) QF)
  (QG 1 (Qh (Qab (vt_w (Qca (QeQ (Qji D_holds az (Qb 13) (Qa aQ (Qa (Qao (Qa (Qb 4) (Qa (Qn hu (Qb 2) Qf) (Qa (Qbe (Qa (Qb 7) Qe)) Qe)))) Qe)))) (Qbn (vt_w (Qgo (Qm Qgm (Qb 9) Qal) (Qel (Qm c_lt (Qb 12) (Qb 9)))))))) (Qh (Qz v_bl)) QF)))))))))
  (Qh (Qz v_bl)))))))))))))))))))))))
end
noncomputable def Qam (ns:List Int)(i:Nat):Int:=(ns[i]?).getD 0
theorem QgW {ns:List Int}{i:Nat}:Qj [.scr aI, .int i]= .ok .fz (.int (Qam ns i)):=by
 unfold Qam
 cases q:ns[i]? with
 |some x=>
  have hi:i<ns.length:=(List.getElem?_eq_some_iff.mp q).1
  have:=QfW (xs:=ns.map D.int) (i:=i) (d:= .int x) (by simp[q])
  simp[Qj,Qgz,ev0,QbQ,hi,this]
 |none=>
  have hi:¬((i:Int)<ns.length):=by have:=List.getElem?_eq_none_iff.mp q;omega
  simp[Qj,Qgz,ev0,QbQ,hi]
theorem QjF {ns:List Int}:Qj [.scr aI, .int 0]= .ok .fz (.int (Qam ns 0)):=QgW (i:=0)
theorem Qnl {ns:List Int}:Qj [.scr aI, .int 1]= .ok .fz (.int (Qam ns 1)):=QgW (i:=1)
theorem QgX {ns:List Int}:Qj [.scr aI, .int 2]= .ok .fz (.int (Qam ns 2)):=QgW (i:=2)
theorem QgY {ns:List Int}{j:Int}{i:Nat}(h:j=i):Qj [.scr aI, .int j]= .ok .fz (.int (Qam ns i)):=by rw[h];exact QgW
noncomputable def mixF (c k:Int):Int:=match QH [.int c, .int k]with
 | .ok _ (.int x)=>x
 |_=>0
theorem Qn8 (c k:Int)(h0:0<=k)(h1:k<2^20):∃x,QH [.int c, .int k]= .ok .fz (.int x)/\0<=x/\x<2^31:=by
 by_cases hc:1000000000000<=c
 .have hm: -(2^62)<=k %61/\k %61<2^62:=by omega
  have key:∃x y,forE (Qq 2) Qd3 (Qai 0 (k %61).toNat) [some (.fz, .int (c/1000000000000-1)),some (.fz, .int k),none,none]= .nx [some (.fz, .int x),some (.fz, .int k),y,none]:=by
   refine QgB (fun r=>∃x y,r= .nx [some (.fz, .int x),some (.fz, .int k),y,none]) (fun _ ev=>∃x y,ev= [some (.fz, .int x),some (.fz, .int k),y,none]) ?_ ?_ ⟨_,_,rfl⟩
   .rintro d ds _ ⟨x,y,rfl⟩
    refine⟨_,rfl,?_⟩
    simp[Qd3]
   .rintro _ ⟨x,y,rfl⟩
    exact⟨x,y,rfl⟩
  obtain⟨x,y,e⟩:=key
  refine⟨x %2147483648,?_,by omega,by omega⟩
  simp(disch:=first|omega|rfl) [QH,Qgz,ev0,QgM,hc,e]
 .have k2:k*k<2^40:=by
   have:=Int.mul_le_mul (show k<=2^20-1 by omega) (show k<=2^20-1 by omega) h0 aj
   omega
  have k0:0<=k*k:=Int.mul_nonneg h0 h0
  have e1:mulD (.int k) (.int k)=some (.fz, .int (k*k)):=Qe3 aa
  have e2:mulD (.int (k*k)) (.int 7919)=some (.fz, .int (k*k*7919)):=Qe3 aa
  have e3:mulD (.int (c %1000003+k*k*7919+k)) (.int 48271)=some (.fz, .int ((c %1000003+k*k*7919+k)*48271)):=Qe3 aa
  generalize hn:(c %1000003+k*k*7919+k)*48271 %2147483629=n
  have n0:0<=n/\n<2147483629:=by omega
  have e4:mulD (.int n) (.int n)=some (.fz, .int (n*n)):=Qe3 aa
  generalize hp:n*n %2147483587=p
  have p0:0<=p/\p<2147483587:=by omega
  have e5:mulD (.int p) (.int (p+2))=some (.fz, .int (p*(p+2))):=Qe3 aa
  refine⟨p*(p+2) %2147483579/7,?_,by omega,by omega⟩
  simp[QH,Qgz,ev0,QgM,Qf3,hc,e1,e2,e3,hn,e4,hp,e5]
theorem Qft (c k:Int)(h0:0<=k)(h1:k<2^20):QH [.int c, .int k]= .ok .fz (.int (mixF c k)):=by
 obtain⟨x,e,_⟩:=Qn8 c k h0 h1
 unfold mixF;rw[e]
theorem QjG (c k:Int)(h0:0<=k)(h1:k<2^20):0<=mixF c k/\mixF c k<2^31:=by
 obtain⟨x,e,h⟩:=Qn8 c k h0 h1
 unfold mixF;rw[e];exact h
noncomputable abbrev Path:=Nat×Nat×Option Int
noncomputable def optD:Option Int->D
 |none=> .non
 |some m=> .int m
noncomputable def QR (p:Path):D:= .tup [.int p.1, .int p.2.1,optD p.2.2]
noncomputable def ends (p:Path):Nat×Nat:=(p.1,p.2.1)
structure NetOk (n:Nat)(ps:List Path):Prop where
 n1:1<=n
 n8:n<=8
 s:∀p∈ps,p.1<n
 g:∀p∈ps,p.2.1<n
 ne:∀p∈ps,p.1≠p.2.1
 m:∀p∈ps,∀m,p.2.2=some m->1<=m/\m<=10^60
 nd:(ps.map ends).Nodup
theorem QaL (a:Int){n:Nat}(h:0<n):∃s:Nat,a %(n:Int)=s/\s<n:=by
 have h1:=Int.emod_nonneg a (b:=n) aa
 have h2:=Int.emod_lt_of_pos a (b:=n) aa
 exact⟨(a %n).toNat,by omega,by omega⟩
theorem NetOk.add {n:Nat}{ps:List Path}(h:NetOk n ps){s g:Nat}{o:Option Int}(hs:s<n)(hg:g<n)(hne:s≠g)(hm:∀m,o=some m->1<=m/\m<=10^60)(hn:(s,g)∉ps.map ends):NetOk n (ps++ [(s,g,o)]):=by
 have spl:∀{P:Path->Prop},(∀p∈ps,P p)->P (s,g,o)->∀p∈ps++ [(s,g,o)],P p:=fun h1 h2 p hp=>by
  rcases List.mem_append.1 hp with hp|hp
  .exact h1 p hp
  .simp at hp;subst hp;exact h2
 refine⟨h.n1,h.n8,spl h.s hs,spl h.g hg,spl h.ne hne,spl h.m hm,?_⟩
 rw[List.map_append,List.nodup_append]
 refine⟨h.nd,by simp,fun x hx y hy=>?_⟩
 simp[ends]at hy
 subst hy
 rintro rfl
 exact hn hx
theorem NetOk.reverse {n:Nat}{ps:List Path}(h:NetOk n ps):NetOk n ps.reverse:=
 ⟨h.n1,h.n8,fun p hp=>h.s p (by simpa using hp),fun p hp=>h.g p (by simpa using hp),fun p hp=>h.ne p (by simpa using hp),fun p hp=>h.m p (by simpa using hp),by rw[List.map_reverse];exact(List.reverse_perm _).nodup_iff.2 h.nd⟩
noncomputable def netD (n:Nat)(ps:List Path):D:= .tup [.int n, .lst (ps.map QR)]
@[simp] theorem QvA:optD none= .non:=(rfl)
@[simp] theorem QvB {m:Int}:optD (some m)= .int m:=(rfl)
theorem QpM (T:List (Option Int)):plL 59 (T.map optD)=true:=Qcl.2 fun d hd=>by
 obtain⟨o,_,rfl⟩:=List.mem_map.1 hd
 cases o<;>simp[pl]
theorem QuT (i a b:Int)(h0:0<=i)(h1:i<5)(ha:1<=a/\a<=10^60)(hb:1<=b/\b<=10^60):∃o:Option Int,(∀m,o=some m->1<=m/\m<=10^60)/\atI [.non, .int 1, .int 2, .int a, .int b] i=some (optD o):=by
 have:i=0\/i=1\/i=2\/i=3\/i=4:=by omega
 rcases this with rfl|rfl|rfl|rfl|rfl
 .exact⟨none,by simp,by simp[optD]⟩
 .exact⟨some 1,by rintro m ⟨⟩;decide,by simp[optD]⟩
 .exact⟨some 2,by rintro m ⟨⟩;decide,by simp[optD]⟩
 .exact⟨some a,by rintro m ⟨⟩;exact ha,by simp[optD]⟩
 .exact⟨some b,by rintro m ⟨⟩;exact hb,by rw[show(4:Int)=((4:Nat):Int)from rfl];exact QfW rfl⟩
noncomputable abbrev evN (S:List D)(num:Int)(n:Nat)(ps:List Path)(l:Ev):Ev:=some (.fz, .scr S)::some (.fz, .int num)::some (.fz, .int n)::some (.ow, .lst (ps.map QR))::l
noncomputable def QlP (s g:Nat)(ps:List Path):Prop:=∀p∈ps,p.1<s\/(p.1=s/\p.2.1<g)
noncomputable def Qnm (ns:List Int)(num:Int)(n s:Nat)(xs:List Nat)(ev:Ev):Prop:=∃ps x5 x6 x7 x8,ev=evN aI num n ps [some (.fz, .int s),x5,x6,x7,x8]/\NetOk n ps/\∃g,xs=List.range' g (n-g)/\g<=n/\QlP s g ps/\ps.length<=s*n+g
noncomputable def QuU (ns:List Int)(num:Int)(n:Nat)(xs:List Nat)(ev:Ev):Prop:=∃ps x4 x5 x6 x7 x8,ev=evN aI num n ps [x4,x5,x6,x7,x8]/\NetOk n ps/\∃s,xs=List.range' s (n-s)/\s<=n/\QlP s 0 ps/\ps.length<=s*n
theorem Qfu (n:Nat):List.range n=List.range' 0 (n-0):=by rw[List.range_eq_range'];rfl
theorem Qds {s n x:Nat}{xs:List Nat}(h:x::xs=List.range' s (n-s)):x=s/\s<n/\xs=List.range' (s+1) (n-(s+1)):=by
 by_cases hs:s<n
 .rw[show n-s=(n-(s+1))+1 by omega,List.range'_succ]at h
  cases h
  exact⟨rfl,hs,rfl⟩
 .rw[show n-s=0 by omega]at h;simp at h
theorem Qsk {ns:List Int}{num dr:Int}{n s g:Nat}{xs:List Nat}{ps:List Path}{x7 x8:Option (Kd×D)}{h:Ev->Fl}{Q:Fl->Prop}(ok:NetOk n ps)(hs:s<n)(hg:g<n)(hb:QlP s g ps)(hl:ps.length<=s*n+g)(hx:xs=List.range' (g+1) (n-(g+1)))(hne:s≠g)(hd:0<=dr/\dr<2^31)(h6:dr %6≠0):
  Wp (Qd4 (evN aI num n ps [some (.fz, .int s),some (.fz, .int g),some (.fz, .int dr),x7,x8])) (Qc0 (Qnm ns num n s xs) h Q):=by
 obtain⟨o,ho,eo⟩:=QuT (dr %6-1) (1+dr/6 %6) (10^50+dr) aa aa aa aa
 simp at eo
 have n8:=ok.n8
 have hsn:s*n<=7*8:=Nat.mul_le_mul aa n8
 have hL:ps.length<LIM:=by simp[LIM];omega
 simp(disch:=first|omega|rfl) [Qd4,eo,hL]
 have h1:List.map QR ps++ [D.tup [.int s, .int g,optD o]]=(ps++ [(s,g,o)]).map QR:=by simp[QR]
 rw[h1]
 refine⟨ps++ [(s,g,o)],_,_,_,_,rfl,ok.add hs hg hne ho (fun z=>?_),g+1,hx,by omega,fun p hp=>?_,by simp;omega⟩
 .obtain⟨p,hp,e⟩:=List.mem_map.1 z
  simp[ends]at e
  have:=hb p hp
  omega
 .rcases List.mem_append.1 hp with hp|hp
  .have:=hb p hp;omega
  .simp at hp;subst hp;simp
theorem Qsl {ns:List Int}{num:Int}{n s g:Nat}{xs:List Nat}{ps:List Path}{x6 x7 x8:Option (Kd×D)}{h:Ev->Fl}{Q:Fl->Prop}(ok:NetOk n ps)(hs:s<n)(hg:g<n)(hb:QlP s g ps)(hl:ps.length<=s*n+g)(hx:xs=List.range' (g+1) (n-(g+1))):
  Wp (Qd5 (evN aI num n ps [some (.fz, .int s),some (.fz, .int g),x6,x7,x8])) (Qc0 (Qnm ns num n s xs) h Q):=by
 have hc:=Qnl (ns:=ns)
 have n8:=ok.n8
 have hm:=Qft (Qam ns 1) (10*s+g) aa aa
 have hd:=QjG (Qam ns 1) (10*s+g) aa aa
 generalize mixF (Qam ns 1) (10 * s+g)=dr at *
 have skip:∀x6 x7 x8,Qnm ns num n s xs (evN aI num n ps [some (.fz, .int s),some (.fz, .int g),x6,x7,x8]):=fun x6 x7 x8=>⟨ps,_,_,_,_,rfl,ok,g+1,hx,by omega,fun p hp=>by have:=hb p hp;omega,by omega⟩
 simp(disch:=first|omega|rfl) [Qd5,hc,hm]
 by_cases hne:s=g
 .subst hne
  refine Qd0 ?_ ?_<;>intro hq<;>simp(disch:=first|omega|rfl) []
  .exact skip _ _ _
  .simp at hq
 .have hne':¬((s:Int)=g):=by omega
  refine Qd0 ?_ ?_<;>intro hq<;>simp(disch:=first|omega|rfl) []
  .exact skip _ _ _
  .simp at hq
   exact Qsk ok hs hg hb hl hx hne hd aa
theorem Qsm (ns:List Int):∃n ps,NetOk n ps/\ps.length<=64/\QdI [.scr aI]= .ok .fz (netD n ps):=by
 have hc:=QjF (ns:=ns)
 have hm:=Qft (Qam ns 0) 1 aj aj
 have hnn:=QjG (Qam ns 0) 1 aj aj
 refine QD (QdI [.scr aI]) rfl ?_
 generalize mixF (Qam ns 0) 1=num at *
 generalize Qam ns 0=c0 at *
 have j4:∀(n:Nat) (Q:Fl->Prop),1<=n->n<=8->Q=runQ (fun x=>∃n ps,NetOk n ps/\ps.length<=64/\x= .ok .fz (netD n ps))->Wp (Qd6 [some (.fz, .scr aI),some (.fz, .int num),some (.fz, .int n),none,none,none,none,none,none]) Q:=fun n Q n1 n8 hQ=>by
  simp(disch:=first|omega|rfl) [Qd6]
  rw[QaN,Qfu]
  refine QaA (QuU ns num n) ?_ ?_ ⟨[],none,none,none,none,none,rfl,⟨n1,n8,by simp,by simp,by simp,by simp,by simp⟩,0,rfl,by omega,by simp[QlP],by simp⟩
  .rintro s xs _ _ ⟨ps,x4,x5,x6,x7,x8,rfl,ok,s',hxs,hs',hb,hl⟩
   obtain⟨rfl,hs,hx'⟩:=Qds hxs
   refine⟨_,rfl,?_⟩
   simp(disch:=first|omega|rfl) [Qf4]
   rw[QaN,Qfu]
   refine QdE (Qnm ns num n s) ?_ ?_ ⟨ps,_,_,_,_,rfl,ok,0,rfl,by omega,hb,by omega⟩
   .rintro g ys _ _ ⟨ps,x5,x6,x7,x8,rfl,ok,g',hys,hg',hb,hl⟩
    obtain⟨rfl,hg,hy'⟩:=Qds hys
    refine⟨_,rfl,?_⟩
    simp only[Int.zero_add]
    exact Qsl (x6:=x6) (x7:=x7) (x8:=x8) ok hs hg hb hl hy'
   .rintro _ ⟨ps,x5,x6,x7,x8,rfl,ok,g',hys,hg',hb,hl⟩
    have:g'=n:=by
     have:=congrArg List.length hys
     simp at this;omega
    subst this
    refine⟨ps,_,_,_,_,_,rfl,ok,s+1,hx',by omega,fun p hp=>?_,by rw[Nat.succ_mul];omega⟩
    have h1:=hb p hp
    have h2:=ok.g p hp
    omega
  .rintro _ ⟨ps,x4,x5,x6,x7,x8,rfl,ok,s',hxs,hs',hb,hl⟩
   have hlen:ps.length<=64:=Nat.le_trans hl (by have:=Nat.mul_le_mul (show s'<=8 by omega) n8;omega)
   simp(disch:=first|omega|rfl) [Qf6]
   refine Qd0 ?_ ?_<;>intro hq<;>simp(disch:=first|omega|rfl) [Qf5]
   .subst hQ
    simp(disch:=first|omega|rfl) []
    refine⟨n,ps.reverse,ok.reverse,by simpa using hlen,?_⟩
    simp[netD]
   .subst hQ
    simp(disch:=first|omega|rfl) []
    exact⟨n,ps,ok,hlen,rfl⟩
 obtain⟨a,ea,ha⟩:=QaL c0 (n:=4) aj
 have ea:(1:Int)+c0 %4=((1+a:Nat):Int):=by rw[show c0 %4=(a:Int)from ea];omega
 obtain⟨b,eb,hb⟩:=QaL (num/64) (n:=4) aj
 have eb:(5:Int)+num/64 %4=((5+b:Nat):Int):=by rw[show num/64 %4=(b:Int)from eb];omega
 simp(disch:=first|omega|rfl) [ev0,QiK,hc,hm]
 rw[ea]
 refine Qd0 ?_ ?_<;>intro hq<;>simp(disch:=first|omega|rfl) [Qf7]
 .rw[eb]
  refine Qd0 ?_ ?_<;>intro hq2<;>simp(disch:=first|omega|rfl) []
  .exact j4 2 _ aa aa rfl
  .exact j4 (5+b) _ aa aa rfl
 .refine Qd0 ?_ ?_<;>intro hq2<;>simp(disch:=first|omega|rfl) []
  .exact j4 2 _ aa aa rfl
  .exact j4 (1+a) _ aa aa rfl
noncomputable abbrev Run:=Nat×Nat×Nat×Nat
noncomputable abbrev Sign:=Nat×Nat×Str
noncomputable def runD (r:Run):D:= .tup [.int r.1, .int r.2.1, .int r.2.2.1, .int r.2.2.2]
noncomputable def QI (x:Sign):D:= .tup [.int x.1, .int x.2.1, .str x.2.2]
noncomputable def Qv (last:Nat)(rs:List Run)(ss:List Sign):D:= .tup [.int last, .lst (rs.map runD), .lst (ss.map QI)]
noncomputable def rkey (r:Run):Nat×Nat×Nat:=(r.1,r.2.1,r.2.2.1)
noncomputable def nmOk (x:Str):Bool:=PyData.strOk x&&decide (x.length<=12)&&decide (x≠Str.ofString "more")
structure SignsOk (n last:Nat)(ss:List Sign):Prop where
 h:∀x∈ss,x.1<n
 t:∀x∈ss,x.2.1<=last
 nm:∀x∈ss,nmOk x.2.2=true
 nd:ss.Nodup
structure RunsOk (ps:List Path)(last:Nat)(rs:List Run):Prop where
 path:∀r∈rs,∃o,(r.1,r.2.1,o)∈ps/\∀m,o=some m->(r.2.2.2:Int)<=r.2.2.1+m
 turn:∀r∈rs,r.2.2.1<r.2.2.2/\r.2.2.2<=last
 nd:(rs.map rkey).Nodup
structure GoodT (n:Nat)(ps:List Path)(last:Nat)(rs:List Run)(ss:List Sign):Prop where
 runs:RunsOk ps last rs
 due:∀s g m (l:Nat),(s,g,some m)∈ps->(l:Int)+m<=last->∃c,(s,g,l,c)∈rs
 signs:SignsOk n last ss
theorem Qnn {n last:Nat}{ss:List Sign}(h:SignsOk n last ss):plL 59 (ss.map QI)=true:=Qcl.2 fun d hd=>by
 obtain⟨x,hx,rfl⟩:=List.mem_map.1 hd
 have:=h.nm x hx
 simp[nmOk]at this
 simp[QI,pl,plL,this.1.1]
theorem QhX {x y:Sign}:QI x=QI y↔x=y:=by
 obtain⟨a,b,c⟩:=x
 obtain⟨a',b',c'⟩:=y
 simp[QI]
 constructor
 .rintro⟨h1,h2,h3⟩;exact⟨by omega,by omega,h3⟩
 .rintro⟨h1,h2,h3⟩;exact⟨by omega,by omega,h3⟩
theorem QlQ {x:Sign}{ss:List Sign}:QI x∈ss.map QI↔x∈ss:=by
 simp only[List.mem_map,QhX]
 exact⟨fun⟨a,h,e⟩=>e▸h,fun h=>⟨x,h,rfl⟩⟩
noncomputable def cA:Str:=Str.ofString "a"
noncomputable def cB:Str:=Str.ofString "b"
noncomputable def cC:Str:=Str.ofString "c"
theorem Qno:∀a:Fin 12,(Txt.mul cA (a:Nat)).length<=12/\(Txt.mul cA (11-(a:Nat):Int)).length<=12/\(Txt.mul cA (a:Nat)++cB).length<=13/\(Txt.mul cA (a:Nat)++cC).length<=13/\
  nmOk (Txt.mul cA (a:Nat)++cB++Txt.mul cA (11-(a:Nat):Int))=true/\nmOk (Txt.mul cA (a:Nat)++cC++Txt.mul cA (11-(a:Nat):Int))=true:=by decide+kernel
theorem QuV (i:Int)(a b c d:Str)(h0:0<=i)(h1:i<4)(ha:nmOk a=true)(hb:nmOk b=true)(hc:nmOk c=true)(hd:nmOk d=true):∃x:Str,nmOk x=true/\atI [D.str a,D.str b,D.str c,D.str d] i=some (D.str x):=by
 have:i=0\/i=1\/i=2\/i=3:=by omega
 rcases this with rfl|rfl|rfl|rfl
 .exact⟨a,ha,by simp⟩
 .exact⟨b,hb,by simp⟩
 .exact⟨c,hc,by simp⟩
 .exact⟨d,hd,by simp⟩
noncomputable def InvS (ns:List Int)(n last:Nat)(net:D)(a b c d:Str)(xs:List Nat)(ev:Ev):Prop:=∃ss x4 x6 x7 x8,ev= [some (.fz, .scr aI),some (.fz,net),some (.fz, .int last),some (.ow, .lst (ss.map QI)),x4,some (.ow, .lst [.str a, .str b, .str c, .str d]),x6,x7,x8]/\SignsOk n last ss/\ss.length+xs.length<=4
theorem QjH {ns:List Int}{n last:Nat}{ps:List Path}{a b c d:Str}{x4:Option (Kd×D)}(hn:0<n)(hl:last<1000)(ha:nmOk a=true)(hb:nmOk b=true)(hc:nmOk c=true)(hd:nmOk d=true):
  Wp (Qco [some (.fz, .scr aI),some (.fz,netD n ps),some (.fz, .int last),some (.ow, .lst []),x4,some (.ow, .lst [.str a, .str b, .str c, .str d]),none,none,none]) (runQ fun x=>∃ss,SignsOk n last ss/\ss.length<=4/\x= .ok .ow (.lst (ss.map QI))):=by
 have hc2:=QgX (ns:=ns)
 have hm:=Qft (Qam ns 2) 2 aj aj
 have e0:idxD (netD n ps) (.int 0)=some (.fz, .int n):=by simp[netD]
 simp(disch:=first|omega|rfl) [Qco,hc2,hm]
 rw[QaN]
 refine QaA (InvS ns n last (netD n ps) a b c d) ?_ ?_ ⟨[],_,_,_,_,rfl,⟨by simp,by simp,by simp,by simp⟩,by simp;omega⟩
 .rintro k xs _ ⟨p2,hp2⟩ ⟨ss,x4,x6,x7,x8,rfl,so,hlen⟩
  have hk:k<5:=by
   have:k∈List.range (mixF (Qam ns 2) 2 %5).toNat:=by rw[hp2];simp
   simp at this;omega
  simp only[List.length_cons]at hlen
  refine⟨_,rfl,?_⟩
  simp only[Int.zero_add]
  have hck:=QgY (ns:=ns) (j:=3+k) (i:=3+k) al
  have hmk:=Qft (Qam ns (3+k)) (500+k) aa aa
  have hnk:=QjG (Qam ns (3+k)) (500+k) aa aa
  generalize mixF (Qam ns (3+k)) (500+k)=nu at *
  obtain⟨h,eh,hh⟩:=QaL nu hn
  obtain⟨t,et,ht⟩:=QaL (nu/5) (n:=last+1) aa
  have et:nu/5 %((last:Int)+1)=t:=by rw[←et];simp
  obtain⟨x,hx,ex⟩:=QuV (nu/300 %4) a b c d aa aa ha hb hc hd
  have hx2:PyData.strOk x=true:=by simp[nmOk]at hx;exact hx.1.1
  have hin:Qb1 (.tup [.int h, .int t, .str x]) (.lst (ss.map QI))=some (.fz, .bl (decide (QI (h,t,x)∉ss.map QI))):=Qlr rfl (by simp[pl,plL,hx2]) (Qe4 (Qnn so))
  have hL:ss.length<LIM:=by simp[LIM];omega
  simp(disch:=first|omega|rfl) [Qer,hck,hmk,e0,eh,et,ex,hin]
  refine Qjq ?_ ?_<;>intro hq<;>simp(disch:=first|omega|rfl) [hL]
  .have hq:(h,t,x)∉ss:=by simpa[QlQ]using hq
   have h1:ss.map QI++ [D.tup [.int h, .int t, .str x]]=(ss++ [(h,t,x)]).map QI:=by simp[QI]
   rw[h1]
   refine⟨ss++ [(h,t,x)],_,_,_,_,rfl,⟨fun y hy=>?_,fun y hy=>?_,fun y hy=>?_,?_⟩,by simp;omega⟩
   .rcases List.mem_append.1 hy with hy|hy
    .exact so.h y hy
    .simp at hy;subst hy;exact hh
   .rcases List.mem_append.1 hy with hy|hy
    .exact so.t y hy
    .simp at hy;subst hy;show t<=last;omega
   .rcases List.mem_append.1 hy with hy|hy
    .exact so.nm y hy
    .simp at hy;subst hy;exact hx
   .rw[List.nodup_append]
    exact⟨so.nd,by simp,fun y hy z hz=>by simp at hz;subst hz;rintro rfl;exact hq hy⟩
  .exact⟨ss,_,_,_,_,rfl,so,by omega⟩
 .rintro _ ⟨ss,x4,x6,x7,x8,rfl,so,hlen⟩
  simp(disch:=first|omega|rfl) []
  exact⟨ss,so,by simpa using hlen,rfl⟩
theorem Qnp (ns:List Int){n last:Nat}{ps:List Path}(hn:0<n)(hl:last<1000):∃ss,SignsOk n last ss/\ss.length<=4/\QbG [.scr aI,netD n ps, .int last]= .ok .ow (.lst (ss.map QI)):=by
 refine QD (QbG [.scr aI,netD n ps, .int last]) rfl ?_
 have hc2:=QgX (ns:=ns)
 obtain⟨a,ea,ha⟩:=QaL (Qam ns 2/25) (n:=12) aj
 have ea:Qam ns 2/25 %12=(a:Int):=ea
 obtain⟨f1,f2,f3,f4,f5,f6⟩:=Qno ⟨a,ha⟩
 dsimp only at f1 f2 f3 f4 f5 f6
 have lA:cA.length=1:=by decide+kernel
 have lB:cB.length=1:=by decide+kernel
 have lC:cC.length=1:=by decide+kernel
 have sA:Str.ofString "a"=cA:=rfl
 have sB:Str.ofString "b"=cB:=rfl
 have sC:Str.ofString "c"=cC:=rfl
 simp(disch:=first|omega|rfl) [ev0,Qfd,hc2,ea,sA,sB,sC]
 refine Qd0 ?_ ?_<;>intro hq
 .have m1:mulD (.str cA) (.int a)=some (.fz, .str (Txt.mul cA a)):=QgA aa
  have m2:mulD (.str cA) (.int (11-a))=some (.fz, .str (Txt.mul cA (11-a))):=QgA aa
  have m3:mulD (.str cA) (.int 11)=some (.fz, .str (Txt.mul cA 11)):=QgA aa
  simp(disch:=first|omega|rfl) [m1,m2,m3,sA,sB,sC,hc2]
  exact QjH hn hl (by decide+kernel) f5 f6 (by decide+kernel)
 .simp(disch:=first|omega|rfl) []
  exact QjH hn hl (by decide+kernel) (by decide+kernel) (by decide+kernel) (by decide+kernel)
noncomputable def QpN (ps1:List Path)(p:Path)(l:Nat)(rs:List Run):Prop:=∀r∈rs,(r.1,r.2.1)∈ps1.map ends\/((r.1,r.2.1)=ends p/\r.2.2.1<l)
noncomputable abbrev evT (S:List D)(net:D)(last:Nat)(rs:List Run)(k:Nat)(l:Ev):Ev:=some (.fz, .scr S)::some (.fz,net)::some (.fz, .int last)::some (.ow, .lst (rs.map runD))::some (.fz, .int k)::l
noncomputable def DueB (ps1:List Path)(last:Nat)(rs:List Run):Prop:=∀s g m (l:Nat),(s,g,some m)∈ps1->(l:Int)+m<=last->∃c,(s,g,l,c)∈rs
noncomputable def QpO (ns:List Int)(net:D)(ps:List Path)(last:Nat)(ps1:List Path)(p:Path)(xs:List Nat)(ev:Ev):Prop:=∃rs k x8 x9 x10,ev=evT aI net last rs k [some (.fz, .int p.1),some (.fz, .int p.2.1),some (.fz,optD p.2.2),x8,x9,x10]/\RunsOk ps last rs/\DueB ps1 last rs/\
 ∃l,xs=List.range' l (last-l)/\l<=last/\QpN ps1 p l rs/\k=ps1.length*last+l/\rs.length<=k/\∀m (l':Nat),p.2.2=some m->l'<l->(l':Int)+m<=last->∃c,(p.1,p.2.1,l',c)∈rs
noncomputable def QuW (ns:List Int)(net:D)(ps:List Path)(last:Nat)(xs:List Path)(ev:Ev):Prop:=∃rs k ps1 x5 x6 x7 x8 x9 x10,ev=evT aI net last rs k [x5,x6,x7,x8,x9,x10]/\ps=ps1++xs/\RunsOk ps last rs/\DueB ps1 last rs/\(∀r∈rs,(r.1,r.2.1)∈ps1.map ends)/\k=ps1.length*last/\rs.length<=k
theorem QiS {ns:List Int}{net:D}{ps ps1:List Path}{p:Path}{last k l c:Nat}{rs:List Run}{xs:List Nat}{x9:Option (Kd×D)}{h:Ev->Fl}{Q:Fl->Prop}(hp:p∈ps)(hnot:ends p∉ps1.map ends)(hl:l<last)(hk:k=ps1.length*last+l+1)(hk2:k<=10000)(ro:RunsOk ps last rs)(du:DueB ps1 last rs)(kb:QpN ps1 p l rs)(hx:xs=List.range' (l+1) (last-(l+1)))(hlen:rs.length<k)
  (hd:∀m (l':Nat),p.2.2=some m->l'<l->(l':Int)+m<=last->∃c,(p.1,p.2.1,l',c)∈rs) (hlc:l<c) (hm:∀m,p.2.2=some m->(c:Int)<=l+m):
  Wp (Qc4 (evT aI net last rs k [some (.fz, .int p.1),some (.fz, .int p.2.1),some (.fz,optD p.2.2),some (.fz, .int l),x9,some (.fz, .int c)])) (Qc0 (QpO ns net ps last ps1 p xs) h Q):=by
 have kb':∀r∈rs,(r.1,r.2.1)∈ps1.map ends\/((r.1,r.2.1)=ends p/\r.2.2.1<l+1):=fun r hr=>by
  rcases kb r hr with z|z
  .exact .inl z
  .exact .inr ⟨z.1,by omega⟩
 have hL:rs.length<LIM:=by simp[LIM];omega
 simp(disch:=first|omega|rfl) [Qc4]
 refine Qjq ?_ ?_<;>intro hq<;>simp(disch:=first|omega|rfl) [hL]
 .simp at hq
  have h1:rs.map runD++ [D.tup [.int p.1, .int p.2.1, .int l, .int c]]=(rs++ [(p.1,p.2.1,l,c)]).map runD:=by simp[runD]
  rw[h1]
  refine⟨rs++ [(p.1,p.2.1,l,c)],k,_,_,_,rfl,⟨fun r hr=>?_,fun r hr=>?_,?_⟩,fun s g m l' h1 h2=>?_,l+1,hx,by omega,fun r hr=>?_,by omega,by simp;omega,fun m l' e1 h2 h3=>?_⟩
  .rcases List.mem_append.1 hr with hr|hr
   .exact ro.path r hr
   .simp at hr;subst hr;exact⟨p.2.2,hp,hm⟩
  .rcases List.mem_append.1 hr with hr|hr
   .exact ro.turn r hr
   .simp at hr;subst hr;exact⟨hlc,by show c<=last;omega⟩
  .rw[List.map_append,List.nodup_append]
   refine⟨ro.nd,by simp,fun a ha b hb=>?_⟩
   simp at hb;subst hb
   obtain⟨r,hr,rfl⟩:=List.mem_map.1 ha
   intro e
   simp[rkey]at e
   rcases kb r hr with z|z
   .refine hnot ?_
    have:(r.1,r.2.1)=ends p:=by simp[ends,e.1,e.2.1]
    rw[←this];exact z
   .omega
  .obtain⟨c',hc'⟩:=du s g m l' h1 h2
   exact⟨c',by simp[hc']⟩
  .rcases List.mem_append.1 hr with hr|hr
   .exact kb' r hr
   .simp at hr;subst hr;exact .inr ⟨rfl,by show l<l+1;omega⟩
  .by_cases e:l'=l
   .subst e;exact⟨c,by simp⟩
   .obtain⟨c',hc'⟩:=hd m l' e1 aa h3
    exact⟨c',by simp[hc']⟩
 .simp at hq
  refine⟨rs,k,_,_,_,rfl,ro,du,l+1,hx,by omega,kb',by omega,by omega,fun m l' e1 h2 h3=>?_⟩
  by_cases e:l'=l
  .subst e;have:=hm m e1;omega
  .exact hd m l' e1 aa h3
theorem QpP {ns:List Int}{net:D}{ps ps1:List Path}{p:Path}{last k l:Nat}{rs:List Run}{xs:List Nat}{x9 x10:Option (Kd×D)}{h:Ev->Fl}{Q:Fl->Prop}(hp:p∈ps)(hpm:∀m,p.2.2=some m->1<=m)(hnot:ends p∉ps1.map ends)(hl:l<last)(hk:k=ps1.length*last+l)(hk2:k+1<=10000)(ro:RunsOk ps last rs)(du:DueB ps1 last rs)(kb:QpN ps1 p l rs)(hx:xs=List.range' (l+1) (last-(l+1)))(hlen:rs.length<=k)
  (hd:∀m (l':Nat),p.2.2=some m->l'<l->(l':Int)+m<=last->∃c,(p.1,p.2.1,l',c)∈rs):
  Wp (QbR (evT aI net last rs k [some (.fz, .int p.1),some (.fz, .int p.2.1),some (.fz,optD p.2.2),some (.fz, .int l),x9,x10])) (Qc0 (QpO ns net ps last ps1 p xs) h Q):=by
 have hck:=QgY (ns:=ns) (j:=3+((k:Int)+1) %60) (i:=3+(k+1) %60) aa
 have hmk:=Qft (Qam ns (3+(k+1) %60)) ((k:Int)+1) aa aa
 have hnk:=QjG (Qam ns (3+(k+1) %60)) ((k:Int)+1) aa aa
 generalize mixF (Qam ns (3+(k+1) %60)) ((k:Int)+1)=nu at *
 have ek:(k:Int)+1=((k+1:Nat):Int):=by omega
 cases o:p.2.2 with
 |none=>
  obtain⟨c,ec,hc⟩:=QaL (nu/3) (n:=4) aj
  have ec:(l:Int)+1+nu/3 %4=((l+1+c:Nat):Int):=by rw[show nu/3 %4=(c:Int)from ec];omega
  simp(disch:=first|omega|rfl) [QbR,hck,hmk,optD]
  refine Qd0 ?_ ?_<;>intro hq<;>simp(disch:=first|omega|rfl) [Qc6,Qc5]
  .rw[ek]
   refine⟨rs,k+1,_,_,_,by rw[o];rfl,ro,du,l+1,hx,by omega,fun r hr=>?_,by omega,by omega,by simp[o]⟩
   rcases kb r hr with z|z
   .exact .inl z
   .exact .inr ⟨z.1,by omega⟩
  .rw[ec,ek]
   have:=QiS (ns:=ns) (net:=net) (x9:=some (.fz, .int nu)) (h:=h) (Q:=Q) (k:=k+1) (c:=l+1+c) hp hnot hl aa aa ro du kb hx aa hd aa (by simp[o])
   rw[o]at this
   exact this
 |some m=>
  have m1:=hpm m o
  have hmin:(0:Int)<min m 4:=by omega
  have e1:=Int.emod_nonneg (nu/3) (b:=min m 4) aa
  have e2:=Int.emod_lt_of_pos (nu/3) hmin
  obtain⟨c,ec,hc1,hc2⟩:∃c:Nat,(l:Int)+1+nu/3 %min m 4=c/\l<c/\(c:Int)<=l+m:=by
   refine⟨((l:Int)+1+nu/3 %min m 4).toNat,?_,?_,?_⟩
   .generalize nu/3 %min m 4=z at *;omega
   .generalize nu/3 %min m 4=z at *;omega
   .generalize nu/3 %min m 4=z at *;omega
  obtain⟨c',ec',hc'⟩:∃c':Nat,(l:Int)+m=c'/\l<c':=⟨((l:Int)+m).toNat,by omega,by omega⟩
  simp(disch:=first|omega|rfl) [QbR,hck,hmk,optD,Qc6,Qc5]
  refine Qd0 ?_ ?_<;>intro hq<;>simp(disch:=first|omega|rfl) []
  .rw[ec',ek]
   have:=QiS (ns:=ns) (net:=net) (x9:=some (.fz, .int nu)) (h:=h) (Q:=Q) (k:=k+1) (c:=c') hp hnot hl aa aa ro du kb hx aa hd hc' (by rintro m' e;rw[o]at e;cases e;omega)
   rw[o]at this
   exact this
  .rw[ec,ek]
   have:=QiS (ns:=ns) (net:=net) (x9:=some (.fz, .int nu)) (h:=h) (Q:=Q) (k:=k+1) (c:=c) hp hnot hl aa aa ro du kb hx aa hd hc1 (by rintro m' e;rw[o]at e;cases e;omega)
   rw[o]at this
   exact this
theorem RunsOk.reverse {ps:List Path}{last:Nat}{rs:List Run}(h:RunsOk ps last rs):RunsOk ps last rs.reverse:=
 ⟨fun r hr=>h.path r (by simpa using hr),fun r hr=>h.turn r (by simpa using hr),by rw[List.map_reverse];exact(List.reverse_perm _).nodup_iff.2 h.nd⟩
theorem QpQ (ns:List Int){n:Nat}{ps:List Path}(ok:NetOk n ps)(hps:ps.length<=64):∃last rs ss,GoodT n ps last rs ss/\last<=24/\rs.length<=1600/\ss.length<=4/\Qcp [.scr aI,netD n ps]= .ok .fz (Qv last rs ss):=by
 have hc0:=QjF (ns:=ns)
 have hc2:=QgX (ns:=ns)
 have hm:=Qft (Qam ns 0) 1 aj aj
 refine QD (Qcp [.scr aI,netD n ps]) rfl ?_
 have e1:idxD (netD n ps) (.int 1)=some (.fz, .lst (ps.map QR)):=by simp[netD]
 have j6:∀(last:Nat) (Q:Fl->Prop),last<=24->Q=runQ (fun x=>∃last rs ss,GoodT n ps last rs ss/\last<=24/\rs.length<=1600/\ss.length<=4/\x= .ok .fz (Qv last rs ss))->Wp (Qc7 [some (.fz, .scr aI),some (.fz,netD n ps),some (.fz, .int last),none,none,none,none,none,none,none,none]) Q:=fun last Q hlast hQ=>by
  simp(disch:=first|omega|rfl) [Qc7,e1]
  refine QaA (QuW ns (netD n ps) ps last) ?_ ?_ ⟨[],0,[],_,_,_,_,_,_,rfl,rfl,⟨by simp,by simp,by simp⟩,by simp[DueB],by simp,by simp,by simp⟩
  .rintro⟨s,g,o⟩ xs _ _ ⟨rs,k,ps1,x5,x6,x7,x8,x9,x10,rfl,hp,ro,du,kb,hk,hlen⟩
   have hmem:(s,g,o)∈ps:=by rw[hp];simp
   have hnot:ends (s,g,o)∉ps1.map ends:=by
    have:=ok.nd
    rw[hp,List.map_append,List.nodup_append]at this
    intro z
    exact this.2.2 _ z _ al rfl
   have hb:ps1.length<64:=by have:=congrArg List.length hp;simp at this;omega
   have hkb:ps1.length*last<=63*24:=Nat.mul_le_mul aa hlast
   refine⟨_,rfl,?_⟩
   simp(disch:=first|omega|rfl) [Qff]
   rw[QaN,Qfu]
   refine QdE (QpO ns (netD n ps) ps last ps1 (s,g,o)) ?_ ?_ ⟨rs,k,_,_,_,rfl,ro,du,0,rfl,by omega,fun r hr=> .inl (kb r hr),by omega,hlen,by intro m l' _ h;omega⟩
   .rintro l ys _ _ ⟨rs,k,y8,y9,y10,rfl,ro,du,l',hys,hl',kb,hk,hlen,hd⟩
    obtain⟨rfl,hl,hy'⟩:=Qds hys
    refine⟨_,rfl,?_⟩
    simp only[Int.zero_add]
    exact QpP (x9:=y9) (x10:=y10) hmem (fun m e=>(ok.m _ hmem m e).1) hnot hl hk aa ro du kb hy' hlen hd
   .rintro _ ⟨rs,k,y8,y9,y10,rfl,ro,du,l',hys,hl',kb,hk,hlen,hd⟩
    have:l'=last:=by
     have:=congrArg List.length hys
     simp at this;omega
    subst this
    refine⟨rs,k,ps1++ [(s,g,o)],_,_,_,_,_,_,rfl,by rw[hp];simp,ro,fun s' g' m l h1 h2=>?_,fun r hr=>?_,by simp[Nat.succ_mul];omega,hlen⟩
    .rcases List.mem_append.1 h1 with h1|h1
     .exact du s' g' m l h1 h2
     .simp at h1
      obtain⟨rfl,rfl,rfl⟩:=h1
      have:=(ok.m _ hmem m rfl).1
      exact hd m l rfl aa h2
    .rcases kb r hr with z|z
     .simp at z⊢;exact .inl z
     .simp[z.1]
  .rintro _ ⟨rs,k,ps1,x5,x6,x7,x8,x9,x10,rfl,hp,ro,du,kb,hk,hlen⟩
   simp at hp
   subst hp
   have hkb:ps.length*last<=64*24:=Nat.mul_le_mul hps hlast
   obtain⟨ss,so,hss,hs⟩:=Qnp ns (n:=n) (last:=last) (ps:=ps) (by have:=ok.n1;omega) aa
   simp(disch:=first|omega|rfl) [Qfh]
   refine Qd0 ?_ ?_<;>intro hq<;>simp(disch:=first|omega|rfl) [Qfg,hs]
   .subst hQ
    simp(disch:=first|omega|rfl) []
    refine⟨last,rs.reverse,ss,⟨ro.reverse,fun s g m l h1 h2=>?_,so⟩,hlast,by simp;omega,hss,by simp[Qv]⟩
    obtain⟨c,hc⟩:=du s g m l h1 h2
    exact⟨c,by simpa using hc⟩
   .subst hQ
    simp(disch:=first|omega|rfl) []
    exact⟨last,rs,ss,⟨ro,du,so⟩,hlast,by omega,hss,rfl⟩
 obtain⟨a,ea,ha⟩:=QaL (Qam ns 2) (n:=9) aj
 obtain⟨b,eb,hb⟩:=QaL (Qam ns 2) (n:=25) aj
 have ea:Qam ns 2 %9=(a:Int):=ea
 have eb:Qam ns 2 %25=(b:Int):=eb
 simp(disch:=first|omega|rfl) [ev0,QgP,hc0,hc2,hm,ea]
 refine Qd0 ?_ ?_<;>intro hq<;>simp(disch:=first|omega|rfl) [hc2,eb]
 .exact j6 b _ aa rfl
 .exact j6 a _ aa rfl
section
variable {n last:Nat}{ps:List Path}{rs:List Run}{ss:List Sign}
theorem Qfv:idxD (Qv last rs ss) (.int 1)=some (.fz, .lst (rs.map runD)):=by simp[Qv]
theorem Qef:idxD (Qv last rs ss) (.int 2)=some (.fz, .lst (ss.map QI)):=by simp[Qv]
theorem Qfw:idxD (Qv last rs ss) (.int 0)=some (.fz, .int last):=by simp[Qv]
theorem Qnq:idxD (netD n ps) (.int 0)=some (.fz, .int n):=by simp[netD]
theorem Qn9:idxD (netD n ps) (.int 1)=some (.fz, .lst (ps.map QR)):=by simp[netD]
end
theorem RunsOk.all {n last:Nat}{ps:List Path}{rs:List Run}(ok:NetOk n ps)(ro:RunsOk ps last rs):∀r∈rs,r.1<n/\r.2.1<n/\r.2.2.1<r.2.2.2/\r.2.2.2<=last:=fun r hr=>by
 obtain⟨o,ho,_⟩:=ro.path r hr
 exact⟨ok.s _ ho,ok.g _ ho,ro.turn r hr⟩
inductive Hears (rs:List Run)(h t:Nat):Nat->Nat->Prop
 |self {u:Nat}:u<=t->Hears rs h t h u
 |run {r:Run} {u:Nat}:r∈rs->Hears rs h t r.2.1 r.2.2.2->u<=r.2.2.1->Hears rs h t r.1 u
theorem Hears.le {rs:List Run}{h t v u w:Nat}(x:Hears rs h t v u)(hw:w<=u):Hears rs h t v w:=by
 cases x with
 |self h1=>exact .self aa
 |run h1 h2 h3=>exact .run h1 h2 aa
noncomputable def eAt (E:List Int)(v:Nat):Int:=(E[v]?).getD (-1)
structure EndsOk (rs:List Run)(n h t:Nat)(E:List Int):Prop where
 len:E.length=n
 low:∀v,-1<=eAt E v
 iff:∀v u:Nat,v<n->((u:Int)<=eAt E v↔Hears rs h t v u)
theorem EndsOk.uniq {rs:List Run}{n h t:Nat}{E E':List Int}(a:EndsOk rs n h t E)(b:EndsOk rs n h t E'):E=E':=by
 refine List.ext_getElem (by rw[a.len,b.len]) fun v h1 h2=>?_
 have e1:eAt E v=E[v]:=by simp[eAt,h1]
 have e2:eAt E' v=E'[v]:=by simp[eAt,h2]
 rw[←e1,←e2]
 have l1:=a.low v
 have l2:=b.low v
 have hv:v<n:=by rw[←a.len];exact h1
 by_cases c1:0<=eAt E v
 .have q:=(b.iff v (eAt E v).toNat hv).2 ((a.iff v (eAt E v).toNat hv).1 aa)
  have q2:=(a.iff v (eAt E' v).toNat hv).2 ((b.iff v (eAt E' v).toNat hv).1 aa)
  omega
 .by_cases c2:0<=eAt E' v
  .have q2:=(a.iff v (eAt E' v).toNat hv).2 ((b.iff v (eAt E' v).toNat hv).1 aa)
   omega
  .omega
theorem QlR {E:List Int}{v:Nat}(h:v<E.length):atI (E.map D.int) (v:Int)=some (.int (eAt E v)):=QfW (by simp[eAt,h])
noncomputable def Qdt (h t:Nat):D:= .tup [.int h, .int t]
theorem Hears.trans {rs:List Run}{v u a l h t:Nat}(x:Hears rs v u a l)(y:Hears rs a l h t):Hears rs v u h t:=by
 induction y with
 |self h1=>exact x.le h1
 |run h1 _ h3 ih=>exact .run h1 ih h3
theorem Qko {rs:List Run}{h t v u:Nat}(hr:∀r∈rs,r.2.2.1<r.2.2.2)(x:Hears rs h t v u):u<=t:=by
 induction x with
 |self z=>exact z
 | @run r u h1 _ h3 ih=>have:=hr r h1;omega
theorem Qoa {P:Nat->Prop}(dn:∀u w,P u->w<=u->P w):∀t:Nat,(∀u,P u->u<=t)->∃e:Int,-1<=e/\∀u:Nat,(u:Int)<=e↔P u
 |0,b=>by
  by_cases z:P 0
  .exact⟨0,by omega,fun u=>⟨fun y=>dn 0 u z aa,fun y=>by have:=b u y;omega⟩⟩
  .exact⟨-1,by omega,fun u=>⟨fun y=>by omega,fun y=>absurd (dn u 0 y (Nat.zero_le _)) z⟩⟩
 |t+1,b=>by
  by_cases z:P (t+1)
  .exact⟨(t+1:Nat),by omega,fun u=>⟨fun y=>dn _ u z aa,fun y=>by have:=b u y;omega⟩⟩
  .exact Qoa dn t fun u y=>by
    have:=b u y
    have:u≠t+1:=fun e=>z (e▸y)
    omega
theorem QpR {n h t last:Nat}{ps:List Path}{rs:List Run}{ss:List Sign}(h1:1<=n)(h8:n<=8)(hl:last<=60)(ht:t<=last)(hh:h<n)(hr:∀r∈rs,r.1<n/\r.2.1<n/\r.2.2.1<r.2.2.2/\r.2.2.2<=last):∃E,EndsOk rs n h t E/\True:=by
 have ex:∀v:Nat,∃e:Int,-1<=e/\∀u:Nat,(u:Int)<=e↔Hears rs h t v u:=fun v=>Qoa (fun u w x y=>x.le y) t fun u x=>Qko (fun r z=>(hr r z).2.2.1) x
 have ch:=fun v=>Classical.choose_spec (ex v)
 have at_:∀v,v<n->eAt ((List.range n).map fun v=>Classical.choose (ex v)) v=Classical.choose (ex v):=fun v hv=>by simp[eAt,hv]
 refine⟨(List.range n).map fun v=>Classical.choose (ex v),⟨by simp,fun v=>?_,fun v u hv=>?_⟩,trivial⟩
 .by_cases hv:v<n
  .rw[at_ v hv];exact(ch v).1
  .have:n<=v:=by omega
   simp[eAt,this]
 .rw[at_ v hv];exact(ch v).2 u
noncomputable def keyR (r:Run):List Key:= [.inl (r.1:Int), .inl (r.2.1:Int), .inl (r.2.2.1:Int), .inl (r.2.2.2:Int)]
theorem Qeg:∀rs:List Run,QcY (rs.map runD)=some (rs.map keyR)
 | []=>rfl
 |r::rs=>by
  show(Qbf [.int r.1, .int r.2.1, .int r.2.2.1, .int r.2.2.2]).bind (fun k=>(QcY (rs.map runD)).map (k:: ·))=_
  rw[Qeg rs];rfl
theorem QeI {x y:Run}(h:keyR x=keyR y):x=y:=by
 obtain⟨a,b,c,d⟩:=x
 obtain⟨a',b',c',d'⟩:=y
 simp[keyR]at h
 obtain⟨h1,h2,h3,h4⟩:=h
 simp only[Prod.mk.injEq]
 omega
theorem Qay {α β:Type}{f:α->β}(hf:∀x y,f x=f y->x=y):∀{l:List α},l.Nodup->(l.map f).Nodup
 | [],_=>List.Pairwise.nil
 |x::l,h=>by
  obtain⟨h1,h2⟩:=List.nodup_cons.1 h
  refine List.nodup_cons.2 ⟨fun z=>?_,Qay hf h2⟩
  obtain⟨y,hy,e⟩:=List.mem_map.1 z
  exact h1 (hf _ _ e▸hy)
theorem Qbz {rs:List Run}(h:(rs.map rkey).Nodup):rs.Nodup:=by
 have h:=List.pairwise_map.1 h
 exact h.imp fun h e=>h (by rw[e])
structure NetX (n:Nat)(ps:List Path)(N:D):Prop where
 n0:idxD N (.int 0)=some (.fz, .int n)
 n1:∃L,idxD N (.int 1)=some (.fz,L)/\itR (.ok .fz L)= .ok (ps.map QR)
theorem Qob {n:Nat}{ps:List Path}:NetX n ps (netD n ps):=⟨Qnq,_,Qn9,rfl⟩
theorem Hears.le_t {rs:List Run}{h t v u:Nat}(hr:∀r∈rs,r.2.2.1<r.2.2.2)(x:Hears rs h t v u):u<=t:=by
 induction x with
 |self h1=>exact h1
 |run h1 _ h3 ih=>have:=hr _ h1;omega
theorem Hears.sub {rs rs':List Run}{h t v u:Nat}(hs:∀r∈rs,r∈rs')(x:Hears rs h t v u):Hears rs' h t v u:=by
 induction x with
 |self h1=>exact .self h1
 |run h1 _ h3 ih=>exact .run (hs _ h1) ih h3
theorem Qgb {pre:List Run}{r:Run}{h t v u:Nat}(h1:r.2.2.1<r.2.2.2)(h2:∀q∈pre,r.2.2.2<=q.2.2.2):Hears (pre++ [r]) h t v u↔Hears pre h t v u\/(Hears pre h t r.2.1 r.2.2.2/\v=r.1/\u<=r.2.2.1):=by
 constructor
 .intro x
  induction x with
  |self h3=>exact .inl (.self h3)
  |run h3 _ h4 ih=>
   rcases List.mem_append.1 h3 with h3|h3
   .rcases ih with ih|⟨_,ih,ih2⟩
    .exact .inl (.run h3 ih h4)
    .have:=h2 _ h3;omega
   .obtain rfl:=List.mem_singleton.1 h3
    rcases ih with ih|⟨_,ih,ih2⟩
    .exact .inr ⟨ih,rfl,h4⟩
    .omega
 .rintro(x|⟨x,rfl,hu⟩)
  .exact x.sub fun q hq=>List.mem_append_left _ hq
  .exact .run (List.mem_append_right _ (List.mem_singleton.2 rfl)) (x.sub fun q hq=>List.mem_append_left _ hq) hu
noncomputable def Qnr:Option Run->D
 |none=> .non
 |some r=>runD r
noncomputable def bstD (x:Int×Option Run):D:= .tup [.int x.1,Qnr x.2]
noncomputable def wAt (B:List (Int×Option Run))(v:Nat):Int×Option Run:=(B[v]?).getD (-1,none)
theorem QbA {B:List (Int×Option Run)}{j v:Nat}{x:Int×Option Run}(hj:j<B.length):wAt (B.set j x) v=if v=j then x else wAt B v:=by
 unfold wAt
 by_cases h:v=j
 .subst h;rw[List.getElem?_set_self hj,if_pos rfl];rfl
 .rw[List.getElem?_set_ne (fun z=>h z.symm),if_neg h]
structure WB (rs:List Run)(n h t:Nat)(B:List (Int×Option Run)):Prop where
 len:B.length=n
 low:∀v,-1<=(wAt B v).1
 iff:∀v u:Nat,v<n->((u:Int)<=(wAt B v).1↔Hears rs h t v u)
 own:wAt B h=((t:Int),none)
 via:∀v,v<n->v≠h->0<=(wAt B v).1->∃r,(wAt B v).2=some r/\r∈rs/\r.1=v/\(r.2.2.1:Int)=(wAt B v).1/\(r.2.2.2:Int)<=(wAt B r.2.1).1
theorem WB.sub {rs rs':List Run}{n h t:Nat}{B:List (Int×Option Run)}(w:WB rs n h t B)(e:∀r,r∈rs↔r∈rs'):WB rs' n h t B:=
 ⟨w.len,w.low,fun v u hv=>(w.iff v u hv).trans ⟨fun x=>x.sub fun r hr=>(e r).1 hr,fun x=>x.sub fun r hr=>(e r).2 hr⟩,w.own,fun v hv hn h0=>by
  obtain⟨r,h1,h2,h3⟩:=w.via v hv hn h0;exact⟨r,h1,(e r).1 h2,h3⟩⟩
theorem WB.put {pre:List Run}{n h t:Nat}{B:List (Int×Option Run)}{r:Run}(w:WB pre n h t B)(hp:∀q∈pre,q.2.2.1<q.2.2.2)(hs:r.1<n)(hg:r.2.1<n)(h1:r.2.2.1<r.2.2.2)(h2:∀q∈pre,r.2.2.2<=q.2.2.2)
  (c1:(r.2.2.2:Int)<=(wAt B r.2.1).1) (c2:(wAt B r.1).1<r.2.2.1):WB (pre++ [r]) n h t (B.set r.1 ((r.2.2.1:Int),some r)):=by
 have hl:r.1<B.length:=by rw[w.len];exact hs
 have hh:=(w.iff r.2.1 r.2.2.2 hg).1 c1
 have nh:r.1≠h:=fun z=>by
  have:=hh.le_t hp
  rw[z,w.own]at c2
  have c2:(t:Int)<r.2.2.1:=c2
  omega
 have ng:r.2.1≠r.1:=fun z=>by rw[z]at c1;omega
 refine⟨by rw[List.length_set];exact w.len,fun v=>?_,fun v u hv=>?_,?_,fun v hv hn h0=>?_⟩
 .rw[QbA hl];split
  .show-1<=(r.2.2.1:Int);omega
  .exact w.low v
 .rw[QbA hl,Qgb h1 h2,←w.iff v u hv]
  split
  .rename_i e
   subst e
   show(u:Int)<=(r.2.2.1:Int)↔_
   constructor
   .intro z;exact .inr ⟨hh,rfl,by omega⟩
   .rintro(z|⟨_,_,z⟩)<;>omega
  .rename_i e
   constructor
   .exact .inl
   .rintro(z|⟨_,z,_⟩)
    .exact z
    .exact absurd z e
 .rw[QbA hl,if_neg (fun z=>nh z.symm)];exact w.own
 .rw[QbA hl]at h0⊢
  by_cases e:v=r.1
  .rw[if_pos e]
   refine⟨r,rfl,List.mem_append_right _ (List.mem_singleton.2 rfl),e.symm,rfl,?_⟩
   rw[QbA hl,if_neg ng];exact c1
  .rw[if_neg e]at h0⊢
   obtain⟨q,q1,q2,q3,q4,q5⟩:=w.via v hv hn h0
   refine⟨q,q1,List.mem_append_left _ q2,q3,q4,?_⟩
   rw[QbA hl]
   split
   .rename_i z;rw[z]at q5;show(q.2.2.2:Int)<=(r.2.2.1:Int);omega
   .exact q5
theorem WB.skip {pre:List Run}{n h t:Nat}{B:List (Int×Option Run)}{r:Run}(w:WB pre n h t B)(hs:r.1<n)(hg:r.2.1<n)(h1:r.2.2.1<r.2.2.2)(h2:∀q∈pre,r.2.2.2<=q.2.2.2)
  (c:(r.2.2.2:Int)<=(wAt B r.2.1).1->(r.2.2.1:Int)<=(wAt B r.1).1):WB (pre++ [r]) n h t B:=by
 refine⟨w.len,w.low,fun v u hv=>?_,w.own,fun v hv hn h0=>?_⟩
 .rw[Qgb h1 h2,←w.iff v u hv]
  constructor
  .exact .inl
  .rintro(z|⟨z1,rfl,z2⟩)
   .exact z
   .have:=c ((w.iff _ _ hg).2 z1);omega
 .obtain⟨q,q1,q2,q3⟩:=w.via v hv hn h0
  exact⟨q,q1,List.mem_append_left _ q2,q3⟩
theorem QpS (r:Run):Q1 [runD r]= .ok .fz (.int r.2.2.2):=by
 have r3:idxD (runD r) (.int 3)=some (.fz, .int r.2.2.2):=by simp[runD]
 refine QD (Q1 [runD r]) rfl ?_
 simp(disch:=first|omega|rfl) [ev0,Qdi,r3]
theorem QiT {rs:List Run}(nd:rs.Nodup)(hn:rs.length<=5000):∃rs':List Run,rs'.Perm rs/\rs'.Pairwise (fun a b=>b.2.2.2<=a.2.2.2)/\Qe0 Q1 true (rs.map runD)= .ok .ow (.lst (rs'.map runD)):=by
 obtain⟨l,h1,h2,h3⟩:=Qlw (0,0,0,0) (φ:=Q1) (enc:=runD) (key:=fun r=>(r.2.2.2:Int)) (l:=rs) (fun r _=>QpS r) (Qeg rs) (Qay (fun _ _=>QeI) nd) aa
 exact⟨l,h1,h2.imp fun h=>by omega,h3⟩
theorem Qoc {B:List (Int×Option Run)}{v:Nat}(h:v<B.length):atI (B.map bstD) (v:Int)=some (bstD (wAt B v)):=QfW (by simp[wAt,h])
theorem Qsn (x:Int×Option Run):idxD (bstD x) (.int 0)=some (.fz, .int x.1):=by simp[bstD]
section
variable {n h t last:Nat}{ps:List Path}{N:D}{rs:List Run}{ss:List Sign}
noncomputable abbrev evWb (N:D)(last:Nat)(rs:List Run)(ss:List Sign)(h t:Nat)(B:List (Int×Option Run))(l:Ev):Ev:=some (.fz,N)::some (.fz,Qv last rs ss)::some (.fz,Qdt h t)::some (.ow, .lst (B.map bstD))::l
noncomputable def QuX (n:Nat)(N:D)(last:Nat)(rs:List Run)(ss:List Sign)(h t:Nat)(all xs:List Run)(ev:Ev):Prop:=∃B pre x5 x6 x7 x8,ev=evWb N last rs ss h t B [x5,x6,x7,x8]/\all=pre++xs/\WB pre n h t B
theorem QpT (hN:NetX n ps N)(hn:1<=n)(h8:n<=8)(ht:t<=last)(hh:h<n)(hr:∀r∈rs,r.1<n/\r.2.1<n/\r.2.2.1<r.2.2.2/\r.2.2.2<=last)(nd:rs.Nodup)(hz:rs.length<=5000):
  ∃B,WB rs n h t B/\Q9 [N,Qv last rs ss,Qdt h t]= .ok .ow (.lst (B.map bstD)):=by
 obtain⟨all,hp,hpw,hsort⟩:=QiT nd hz
 have hm:∀r,r∈all↔r∈rs:=fun r=>hp.mem_iff
 refine QD (Q9 [N,Qv last rs ss,Qdt h t]) rfl ?_
 have e0:=hN.n0
 have e1:idxD (Qv last rs ss) (.int 1)=some (.fz, .lst (rs.map runD)):=by simp[Qv]
 have e2:idxD (Qdt h t) (.int 0)=some (.fz, .int h):=by simp[Qdt]
 have e3:idxD (Qdt h t) (.int 1)=some (.fz, .int t):=by simp[Qdt]
 have em:mulD (.lst [.tup [.int (-1), .non]]) (.int n)=some (.ow, .lst ((List.replicate n ((-1:Int),(none:Option Run))).map bstD)):=by
  rw[Qjn (by simp[LIM];omega)]
  simp[bstD,Qnr]
 have ei:=Qjp (n:=n) (i:=h) hh
 simp(disch:=first|omega|rfl) [ev0,QbV,e0,em,e2,e3,ei,e1,hsort]
 have W0:WB [] n h t ((List.replicate n ((-1:Int),(none:Option Run))).set h ((t:Int),none)):=by
  have hl:h<(List.replicate n ((-1:Int),(none:Option Run))).length:=by simpa using hh
  have r0:∀v,wAt (List.replicate n ((-1:Int),(none:Option Run))) v=(-1,none):=fun v=>by
   unfold wAt
   rw[List.getElem?_replicate]
   split<;>rfl
  refine⟨by simp,fun v=>?_,fun v u hv=>?_,?_,fun v hv hn h0=>?_⟩
  .rw[QbA hl,r0];split
   .show-1<=(t:Int);omega
   .exact Int.le_refl _
  .rw[QbA hl,r0]
   split
   .rename_i e
    subst e
    show(u:Int)<=t↔_
    exact⟨fun z=> .self aa,fun z=>by have:=z.le_t al;omega⟩
   .rename_i e
    show(u:Int)<= -1↔_
    refine⟨fun z=>by omega,fun z=>?_⟩
    cases z with
    |self _=>exact absurd rfl e
    |run h1 _ _=>simp at h1
  .rw[QbA hl,if_pos rfl]
  .rw[QbA hl,r0,if_neg hn]at h0
   have h0:(0:Int)<= -1:=h0
   omega
 refine QaA (QuX n N last rs ss h t all) ?_ ?_ ⟨_,[],none,none,none,none,by simp[List.map_set,bstD,Qnr],rfl,W0⟩
 .rintro r xs _-⟨B,pre,x5,x6,x7,x8,rfl,ha,W⟩
  have hmr:r∈rs:=(hm r).1 (by rw[ha];simp)
  obtain⟨h1,h2,h3,h4⟩:=hr r hmr
  have hpre:∀q∈pre,q.2.2.1<q.2.2.2:=fun q hq=>(hr q ((hm q).1 (by rw[ha];simp[hq]))).2.2.1
  have hle:∀q∈pre,r.2.2.2<=q.2.2.2:=fun q hq=>by
   rw[ha]at hpw
   exact(List.pairwise_append.1 hpw).2.2 q hq r al
  have a1:=Qoc (B:=B) (v:=r.1) (by rw[W.len];exact h1)
  have a2:=Qoc (B:=B) (v:=r.2.1) (by rw[W.len];exact h2)
  have ei:=Qjp (n:=n) (i:=r.1) h1
  refine⟨_,rfl,?_⟩
  simp(disch:=first|omega|rfl) [Qb2,a1,a2,Qsn]
  refine Qjq (fun c=>?_) fun c=>?_
  .simp at c
   simp(disch:=first|omega|rfl) [W.len,ei]
   exact⟨B.set r.1 ((r.2.2.1:Int),some r),pre++ [r],some (.fz, .int r.1),some (.fz, .int r.2.1),some (.fz, .int r.2.2.1),some (.fz, .int r.2.2.2),by simp[List.map_set,bstD,Qnr,runD],by simp[ha],W.put hpre h1 h2 h3 hle c.1 aa⟩
  .simp at c
   simp(disch:=first|omega|rfl) []
   exact⟨B,pre++ [r],_,_,_,_,rfl,by simp[ha],W.skip h1 h2 h3 hle fun z=>by have:=c z;omega⟩
 .rintro _ ⟨B,pre,x5,x6,x7,x8,rfl,ha,W⟩
  rw[List.append_nil]at ha
  subst ha
  simp(disch:=first|omega|rfl) []
  exact⟨B,W.sub hm,rfl⟩
end
theorem WB.ends {rs:List Run}{n h t:Nat}{B:List (Int×Option Run)}(w:WB rs n h t B):EndsOk rs n h t (B.map (·.1)):=by
 have e:∀v,eAt (B.map (·.1)) v=(wAt B v).1:=fun v=>by
  unfold eAt wAt
  rw[List.getElem?_map]
  cases B[v]?<;>rfl
 exact⟨by simp[w.len],fun v=>by rw[e];exact w.low v,fun v u hv=>by rw[e];exact w.iff v u hv⟩
theorem Qns {n h t last:Nat}{ps:List Path}{N:D}{rs:List Run}{ss:List Sign}(hN:NetX n ps N)(h1:1<=n)(h8:n<=8)(hl:last<=60)(ht:t<=last)(hh:h<n)(hr:∀r∈rs,r.1<n/\r.2.1<n/\r.2.2.1<r.2.2.2/\r.2.2.2<=last)(nd:(rs.map rkey).Nodup)(hn:rs.length<=5000):
  ∃E,EndsOk rs n h t E/\Qar [N,Qv last rs ss,Qdt h t]= .ok .ow (.lst (E.map D.int)):=by
 obtain⟨B,w,hw⟩:=QpT (ss:=ss) hN h1 h8 ht hh hr (Qbz nd) hn
 refine⟨B.map (·.1),w.ends,?_⟩
 have hc:=Qa0 (b:=Qq 0) (e:=eOp idxD ao au) (ev:= [none]) (enc:=bstD) (l:=B) (fun x=> .int x.1) (by rw[w.len];simp[LIM];omega) (fun x _=>by
  refine⟨_,rfl, .fz,by simp,?_⟩
  simp(disch:=first|omega|rfl) [Qsn])
 refine QD (Qar [N,Qv last rs ss,Qdt h t]) rfl ?_
 simp(disch:=first|omega|rfl) [ev0,Qcw,hw,hc]
noncomputable def keyS (x:Sign):List Key:= [.inl (x.1:Int), .inl (x.2.1:Int), .inr x.2.2]
theorem QjI {x y:Sign}(h:keyS x=keyS y):x=y:=by
 obtain⟨a,b,c⟩:=x
 obtain⟨a',b',c'⟩:=y
 simp[keyS]at h
 obtain⟨h1,h2,h3⟩:=h
 subst h3
 simp only[Prod.mk.injEq,and_true]
 omega
theorem Qfx:∀ss:List Sign,QcY (ss.map QI)=some (ss.map keyS)
 | []=>rfl
 |r::rs=>by
  show(Qbf [.int r.1, .int r.2.1, .str r.2.2]).bind (fun k=>(QcY (rs.map QI)).map (k:: ·))=_
  rw[Qfx rs];rfl
noncomputable def srtR (l:List Run):List Run:=srtA (0,0,0,0) keyR l
noncomputable def srtS (l:List Sign):List Sign:=srtA (0,0,cA) keyS l
theorem srtR_perm {l:List Run}:(srtR l).Perm l:=srtA_perm
theorem srtS_perm {l:List Sign}:(srtS l).Perm l:=srtA_perm
theorem QgZ {l m:List Run}(h:l.Perm m):srtR l=srtR m:=QhE (fun _ _=>QeI) h
theorem Qg0 {l m:List Sign}(h:l.Perm m):srtS l=srtS m:=QhE (fun _ _=>QjI) h
theorem QdM {l:List Run}(nd:l.Nodup)(hn:l.length<=5000):Qch (l.map runD)= .ok .ow (.lst ((srtR l).map runD)):=
 QhF _ (Qeg l) (Qay (fun _ _=>QeI) nd) (Qlx (sh:= [true,true,true,true]) rfl (fun _=>rfl) l) aa
theorem QcL {l:List Sign}(nd:l.Nodup)(hn:l.length<=5000):Qch (l.map QI)= .ok .ow (.lst ((srtS l).map QI)):=
 QhF _ (Qfx l) (Qay (fun _ _=>QjI) nd) (Qlx (sh:= [true,true,false]) rfl (fun _=>rfl) l) aa
noncomputable def hR (E:List Int)(r:Run):Bool:=decide ((r.2.2.2:Int)<=eAt E r.2.1)
noncomputable def hS (E:List Int)(x:Sign):Bool:=decide ((x.2.1:Int)<=eAt E x.1)
noncomputable def QhY (h t:Nat)(R:List Run)(S:List Sign):D:= .tup [Qdt h t, .lst (R.map runD), .lst (S.map QI)]
noncomputable def Qod (h t:Nat)(E:List Int)(rs:List Run)(ss:List Sign):D:=QhY h t (srtR (rs.filter (hR E))) (srtS (ss.filter (hS E)))
theorem Qbk {α:Type}{p:α->Bool}{l:List α}(h:l.Nodup):(l.filter p).Nodup:=List.Pairwise.sublist List.filter_sublist h
theorem QlS {E:List Int}{rs:List Run}{n:Nat}(hl:E.length=n)(hr:∀r∈rs,r.2.1<n)(hn:rs.length<=5000):
  Qet (Qq 1) (eOp leD (eOp idxD av (conR (.int 3))) (eOp idxD ao (eOp idxD av ak))) av [some (.fz, .lst (E.map D.int)),none] (.ok (rs.map runD))= .ok .ow (.lst ((rs.filter (hR E)).map runD)):=
 QaZ (hR E) runD (by simp[LIM];omega) fun r hm=>by
  have r1:idxD (runD r) (.int 1)=some (.fz, .int r.2.1):=by simp[runD]
  have r3:idxD (runD r) (.int 3)=some (.fz, .int r.2.2.2):=by simp[runD]
  have a1:=QlR (E:=E) (v:=r.2.1) (by rw[hl];exact hr r hm)
  refine⟨_,rfl,⟨.fz,?_⟩,fun _=>⟨.fz,by simp,?_⟩⟩
  .simp(disch:=first|omega|rfl) [r1,r3,a1,hR]
  .simp(disch:=first|omega|rfl) []
theorem Qkp {E:List Int}{ss:List Sign}{n:Nat}(hl:E.length=n)(hs:∀x∈ss,x.1<n)(hn:ss.length<=5000):
  Qet (Qq 1) (eOp leD (eOp idxD av ak) (eOp idxD ao (eOp idxD av au))) av [some (.fz, .lst (E.map D.int)),none] (.ok (ss.map QI))= .ok .ow (.lst ((ss.filter (hS E)).map QI)):=
 QaZ (hS E) QI (by simp[LIM];omega) fun x hm=>by
  have r0:idxD (QI x) (.int 0)=some (.fz, .int x.1):=by simp[QI]
  have r1:idxD (QI x) (.int 1)=some (.fz, .int x.2.1):=by simp[QI]
  have a1:=QlR (E:=E) (v:=x.1) (by rw[hl];exact hs x hm)
  refine⟨_,rfl,⟨.fz,?_⟩,fun _=>⟨.fz,by simp,?_⟩⟩
  .simp(disch:=first|omega|rfl) [r0,r1,a1,hS]
  .simp(disch:=first|omega|rfl) []
section
variable {n h t last:Nat}{ps:List Path}{rs:List Run}{ss:List Sign}{E:List Int}
structure TaleOk (n last:Nat)(rs:List Run)(ss:List Sign):Prop where
 all:∀r∈rs,r.1<n/\r.2.1<n/\r.2.2.1<r.2.2.2/\r.2.2.2<=last
 nd:(rs.map rkey).Nodup
 len:rs.length<=5000
 sh:∀x∈ss,x.1<n
 snd:ss.Nodup
 slen:ss.length<=100
end
section
variable {n h t last:Nat}{ps:List Path}{N:D}{rs:List Run}{ss:List Sign}{E:List Int}
theorem QpU (hN:NetX n ps N)(h1:1<=n)(h8:n<=8)(hl:last<=60)(ht:t<=last)(hh:h<n)(tk:TaleOk n last rs ss)(eo:EndsOk rs n h t E):
  Qcx [N,Qv last rs ss,Qdt h t]= .ok .fz (Qod h t E rs ss):=by
 obtain⟨E',eo',hw⟩:=Qns (ss:=ss) hN h1 h8 hl ht hh tk.all tk.nd tk.len
 obtain rfl:=eo'.uniq eo
 have c1:=QlS (rs:=rs) eo'.len (fun r hr=>(tk.all r hr).2.1) (by have:=tk.len;omega)
 have c2:=Qkp (ss:=ss) eo'.len tk.sh (by have:=tk.slen;omega)
 have l1:(rs.filter (hR E')).length<=5000:=Nat.le_trans (List.length_filter_le ..) (by have:=tk.len;omega)
 have l2:(ss.filter (hS E')).length<=5000:=Nat.le_trans (List.length_filter_le ..) (by have:=tk.slen;omega)
 have s1:=QdM (Qbk (p:=hR E') (Qbz tk.nd)) l1
 have s2:=QcL (Qbk (p:=hS E') tk.snd) l2
 refine QD (Qcx [N,Qv last rs ss,Qdt h t]) rfl ?_
 simp(disch:=first|omega|rfl) [ev0,QgQ,hw,Qfv,Qef,c1,c2,s1,s2]
 rfl
end
noncomputable def kR3 (r:Run):List Key:= [.inl (r.1:Int), .inl (r.2.1:Int), .inl (r.2.2.1:Int)]
theorem QlT {r q:Run}:kR3 r=kR3 q↔rkey r=rkey q:=by
 obtain⟨a,b,c,d⟩:=r;obtain⟨a',b',c',d'⟩:=q
 simp[kR3,rkey];omega
theorem Qgc (r:Run):Q2 [runD r]= .ok .fz (.tup [.int r.1, .int r.2.1, .int r.2.2.1]):=by
 refine QD (Q2 [runD r]) rfl ?_
 simp(disch:=first|omega|rfl) [ev0,Qdk,runD]
noncomputable def latR (p:Path)(m:Int)(last:Nat):List Run:=(List.range ((last:Int)-m+1).toNat).map fun l=>(p.1,p.2.1,l,l+m.toNat)
theorem Qg1 {p:Path}{m:Int}{last:Nat}{r:Run}(hm:1<=m):r∈latR p m last↔r.1=p.1/\r.2.1=p.2.1/\(r.2.2.2:Int)=r.2.2.1+m/\r.2.2.2<=last:=by
 obtain⟨a,b,l,c⟩:=r
 unfold latR
 simp only[List.mem_map,List.mem_range,Prod.mk.injEq]
 constructor
 .rintro⟨i,h1,rfl,rfl,rfl,rfl⟩
  exact⟨rfl,rfl,by omega,by omega⟩
 .rintro⟨rfl,rfl,h3,h4⟩
  exact⟨l,by omega,rfl,rfl,rfl,by omega⟩
theorem QjJ {p:Path}{m:Int}{last:Nat}(hm:1<=m):(latR p m last).length<=last:=by
 unfold latR;rw[List.length_map,List.length_range];omega
theorem QpV {p:Path}{m:Int}{last:Nat}:((latR p m last).map rkey).Nodup:=by
 unfold latR
 rw[List.map_map]
 exact Qay (fun x y e=>by simp[rkey]at e;exact e) List.nodup_range
theorem QlU {p:Path}{m:Int}{last:Nat}(hp:p.2.2=some m)(hm:1<=m)(hl:last<=60):QS [QR p, .int last]= .ok .ow (.lst ((latR p m last).map runD)):=by
 have p0:idxD (QR p) (.int 0)=some (.fz, .int p.1):=by simp[QR]
 have p1:idxD (QR p) (.int 1)=some (.fz, .int p.2.1):=by simp[QR]
 have p2:idxD (QR p) (.int 2)=some (.fz, .int m):=by simp[QR,hp,optD]
 have lim:(last:Int)-m+1<2^62:=by omega
 have hc:=Qa0 (b:=Qq 2) (e:=eTup (Qc (eOp idxD ao au) (Qc (eOp idxD ao ak) (Qc aG (Qc (eOp addD aG av) aNil))))) (ev:= [some (.fz,QR p),some (.fz, .int m),none]) (enc:=fun l:Nat=>D.int (0+(l:Int))) (l:=List.range ((last:Int)-m+1).toNat) (fun l=>runD (p.1,p.2.1,l,l+m.toNat)) (by simp[LIM];omega) (fun l _=>by
  refine⟨_,rfl, .fz,by simp,?_⟩
  have e:(l:Int)+m=((l+m.toNat:Nat):Int):=by omega
  simp(disch:=first|omega|rfl) [p0,p1,runD,e])
 refine QD (QS [QR p, .int last]) rfl ?_
 simp(disch:=first|omega|rfl) [ev0,Qa7,p2,lim]
 rw[QaN,hc]
 simp(disch:=first|omega|rfl) [latR]
noncomputable def newR (R:List Run)(r:Run):Bool:=decide (rkey r∉R.map rkey)
theorem QjK {R:List Run}{r:Run}:newR R r=true↔rkey r∉R.map rkey:=by simp[newR]
noncomputable def exP (ps:List Path)(last:Nat)(R:List Run):List Run:=ps.flatMap fun p=>match p.2.2 with
 |none=> []
 |some m=>(latR p m last).filter (newR R)
theorem Qg2 {ps:List Path}{last:Nat}{R:List Run}{r:Run}(hm:∀p∈ps,∀m,p.2.2=some m->1<=m):r∈exP ps last R↔∃m,(r.1,r.2.1,some m)∈ps/\(r.2.2.2:Int)=r.2.2.1+m/\r.2.2.2<=last/\rkey r∉R.map rkey:=by
 unfold exP
 rw[List.mem_flatMap]
 constructor
 .rintro⟨p,hp,hr⟩
  cases e:p.2.2 with
  |none=>rw[e]at hr;simp at hr
  |some m=>
   rw[e]at hr
   obtain⟨h1,h2⟩:=List.mem_filter.1 hr
   obtain⟨h3,h4,h5,h6⟩:=(Qg1 (hm p hp m e)).1 h1
   refine⟨m,?_,h5,h6,QjK.1 h2⟩
   rw[h3,h4,←e];exact hp
 .rintro⟨m,hp,h5,h6,h7⟩
  refine⟨_,hp,?_⟩
  exact List.mem_filter.2 ⟨(Qg1 (hm _ hp m rfl)).2 ⟨rfl,rfl,h5,h6⟩,QjK.2 h7⟩
theorem QiU {last:Nat}{R:List Run}:∀{ps:List Path},(∀p∈ps,∀m,p.2.2=some m->1<=m)->(exP ps last R).length<=ps.length*last
 | [],_=>by simp[exP]
 |p::ps,hm=>by
  have ih:=QiU (last:=last) (R:=R) (ps:=ps) fun q hq=>hm q (by simp[hq])
  have e:exP (p::ps) last R=(match p.2.2 with|none=> []|some m=>(latR p m last).filter (newR R))++exP ps last R:=by simp[exP]
  rw[e,List.length_append,List.length_cons,Nat.add_mul]
  cases q:p.2.2 with
  |none=>simp;omega
  |some m=>
   have:=QjJ (p:=p) (last:=last) (hm p al m q)
   have:=List.length_filter_le (newR R) (latR p m last)
   dsimp only;omega
theorem QlV {last:Nat}{R:List Run}:∀{ps:List Path},(∀p∈ps,∀m,p.2.2=some m->1<=m)->(ps.map ends).Nodup->((exP ps last R).map rkey).Nodup
 | [],_,_=>by simp[exP]
 |p::ps,hm,nd=>by
  rw[List.map_cons,List.nodup_cons]at nd
  have ih:=QlV (last:=last) (R:=R) (ps:=ps) (fun q hq=>hm q (by simp[hq])) nd.2
  have e:exP (p::ps) last R=(match p.2.2 with|none=> []|some m=>(latR p m last).filter (newR R))++exP ps last R:=by simp[exP]
  rw[e,List.map_append,List.nodup_append]
  cases q:p.2.2 with
  |none=>exact⟨by simp,ih,by simp⟩
  |some m=>
   refine⟨List.Pairwise.sublist (List.Sublist.map _ List.filter_sublist) QpV,ih,fun a ha b hb z=>?_⟩
   subst z
   obtain⟨r,hr,rfl⟩:=List.mem_map.1 ha
   obtain⟨r',hr',e'⟩:=List.mem_map.1 hb
   obtain⟨h1,h2,_,_⟩:=(Qg1 (hm p al m q)).1 (List.mem_filter.1 hr).1
   obtain⟨m',hp',_⟩:=(Qg2 fun q hq=>hm q (by simp[hq])).1 hr'
   simp only[rkey,Prod.mk.injEq]at e'
   refine nd.1 (List.mem_map.2 ⟨_,hp',?_⟩)
   simp only[ends,Prod.mk.injEq]
   exact⟨by rw[e'.1,h1],by rw[e'.2.1,h2]⟩
noncomputable def TD (l:List Run)(ks:List (List Key))(vs:List D):Prop:=ks.length=vs.length/\ks.length<=l.length/\∀r:Run,(dGet ks vs (kR3 r)).isSome=decide (rkey r∈l.map rkey)
theorem TD.put {l:List Run}{ks:List (List Key)}{vs:List D}{r:Run}(h:TD l ks vs):TD (l++ [r]) (QW ks (kR3 r)) (QbC ks vs (kR3 r) (.bl true)):=by
 refine⟨Qju h.1,?_,fun q=>?_⟩
 .have:(QW ks (kR3 r)).length<=ks.length+1:=by unfold QW;split<;>simp
  have:=h.2.1
  simp;omega
 .rw[Qjt h.1]
  by_cases e:kR3 q=kR3 r
  .rw[if_pos e]
   have:=QlT.1 e
   simp[this]
  .rw[if_neg e,h.2.2 q]
   have:¬rkey q=rkey r:=fun z=>e (QlT.2 z)
   simp[this]
section
variable {n h t last:Nat}{ps:List Path}{N:D}{R:List Run}{S:List Sign}
noncomputable abbrev evV (N:D)(h t last:Nat)(R:List Run)(S:List Sign)(kd:Kd)(ks:List (List Key))(vs:List D)(l:Ev):Ev:=some (.fz,N)::some (.fz,QhY h t R S)::some (.fz, .int last)::some (kd, .dT ks vs)::l
noncomputable def QuY (N:D)(h t last:Nat)(R:List Run)(S:List Sign)(xs:List Run)(ev:Ev):Prop:=∃ks vs pre x4,ev=evV N h t last R S .ow ks vs [x4,none,none]/\R=pre++xs/\TD pre ks vs
noncomputable def QuZ (N:D)(ps:List Path)(h t last:Nat)(R:List Run)(S:List Sign)(ks:List (List Key))(vs:List D)(xs:List Path)(ev:Ev):Prop:=∃kd pre L x4 x6,(kd= .ow\/kd= .fz)/\ev=evV N h t last R S kd ks vs [x4,some (.ow, .lst (L.map runD)),x6]/\ps=pre++xs/\L=R++exP pre last R
theorem Qkq (hN:NetX n ps N)(ok:NetOk n ps)(hps:ps.length<=64)(hl:last<=60)(hR:R.length+ps.length*last<=5000)(nd:(R.map rkey).Nodup)(hS:S.length<=1000)(snd:S.Nodup):
  QaR [N,QhY h t R S, .int last]= .ok .fz (Qv last (srtR (R++exP ps last R)) (srtS S)):=by
 have hm:∀p∈ps,∀m,p.2.2=some m->1<=m:=fun p hp m e=>(ok.m p hp m e).1
 have v1:idxD (QhY h t R S) (.int 1)=some (.fz, .lst (R.map runD)):=by simp[QhY]
 have v2:idxD (QhY h t R S) (.int 2)=some (.fz, .lst (S.map QI)):=by simp[QhY]
 have xl:=QiU (last:=last) (R:=R) hm
 have xl2:ps.length*last<=64*60:=Nat.mul_le_mul hps hl
 have ndA:((R++exP ps last R).map rkey).Nodup:=by
  rw[List.map_append,List.nodup_append]
  refine⟨nd,QlV hm ok.nd,fun a ha b hb z=>?_⟩
  subst z
  obtain⟨r',hr',e'⟩:=List.mem_map.1 hb
  obtain⟨m',_,_,_,h4⟩:=(Qg2 hm).1 hr'
  exact h4 (e'▸ha)
 have s1:=QdM (Qbz ndA) (by rw[List.length_append];omega)
 have s2:=QcL snd aa
 refine QD (QaR [N,QhY h t R S, .int last]) rfl ?_
 simp(disch:=first|omega|rfl) [ev0,Qdm,v1]
 refine QaA (QuY N h t last R S) ?_ ?_ ⟨[],[],[],_,rfl,rfl,rfl,by simp,fun r=>by simp[dGet]⟩
 .rintro r xs _-⟨ks,vs,pre,x4,rfl,hp,td⟩
  have lim:ks.length<LIM:=by
   have:=td.2.1
   have:pre.length<=R.length:=by rw[hp];simp
   simp[LIM];omega
  have kq:Qbf [.int r.1, .int r.2.1, .int r.2.2.1]=some (kR3 r):=by simp[kR3]
  refine⟨_,rfl,?_⟩
  simp(disch:=first|omega|rfl) [QcT,Qgc]
  have kk:([.inl (r.1:Int), .inl (r.2.1:Int), .inl (r.2.2.1:Int)]:List Key)=kR3 r:=rfl
  rw[kk,Qm8 lim]
  exact⟨_,_,pre++ [r],_,rfl,by simp[hp],td.put⟩
 .rintro _ ⟨ks,vs,pre,x4,rfl,hp,td⟩
  rw[List.append_nil]at hp
  subst hp
  obtain⟨NL,hn1,hn2⟩:=hN.n1
  simp(disch:=first|omega|rfl) [QcV,v1,hn1,hn2]
  refine QaA (QuZ N ps h t last R S ks vs) ?_ ?_ ⟨.ow,[],R,x4,none, .inl rfl,rfl,rfl,by simp[exP]⟩
  .rintro p xs _-⟨kd,pre,L,x4,x6,hkd,rfl,hp,hL⟩
   have hpm:p∈ps:=by rw[hp];simp
   refine⟨_,rfl,?_⟩
   have e:exP (pre++ [p]) last R=exP pre last R++(match p.2.2 with|none=> []|some m=>(latR p m last).filter (newR R)):=by simp[exP]
   cases q:p.2.2 with
   |none=>
    have p2:idxD (QR p) (.int 2)=some (.fz, .non):=by simp[QR,q,optD]
    simp(disch:=first|omega|rfl) [QaJ,p2]
    exact⟨kd,pre++ [p],L,_,_,hkd,rfl,by simp[hp],by rw[e,q];simpa using hL⟩
   |some m=>
    have p2:idxD (QR p) (.int 2)=some (.fz, .int m):=by simp[QR,q,optD]
    have lt:=QlU (p:=p) (m:=m) q (hm p hpm m q) hl
    have ll:=QjJ (p:=p) (last:=last) (hm p hpm m q)
    have hc:=QaZ (b:=Qq 1) (c:=eOp Qb1 (eFn 1 Q2 (Qc av aNil)) ao) (e:=varR 1) (ev:= [some (.fz, .dT ks vs),none]) (enc:=runD) (l:=latR p m last) (newR R) runD (by simp[LIM];omega) (fun r _=>by
     have kq:Qbf [.int r.1, .int r.2.1, .int r.2.2.1]=some (kR3 r):=by simp[kR3]
     have hn:=Qls (ks:=ks) (xs:=vs) kq
     refine⟨_,rfl,⟨.fz,?_⟩,fun _=>⟨.fz,by simp,?_⟩⟩
     .simp(disch:=first|omega|rfl) [Qgc,hn,td.2.2 r,newR]
     .simp(disch:=first|omega|rfl) [])
    have len:L.length+((latR p m last).filter (newR R)).length<LIM:=by
     have a1:=QiU (last:=last) (R:=R) (ps:=pre) fun p' hp'=>hm p' (by rw[hp];simp[hp'])
     have a2:pre.length*last<=64*60:=Nat.mul_le_mul (by rw[hp]at hps;simp at hps;omega) hl
     have a3:=List.length_filter_le (newR R) (latR p m last)
     rw[hL,List.length_append]
     simp only[LIM];omega
    have fin:R++exP (pre++ [p]) last R=L++(latR p m last).filter (newR R):=by rw[e,q,hL,List.append_assoc]
    rcases hkd with rfl|rfl
    .simp(disch:=first|omega|rfl) [QaJ,p2,lt,hc,len]
     exact⟨.fz,pre++ [p],L++(latR p m last).filter (newR R),x4,some (.fz,QR p), .inr rfl,by simp,by simp[hp],fin.symm⟩
    .simp(disch:=first|omega|rfl) [QaJ,p2,lt,hc,len]
     exact⟨.fz,pre++ [p],L++(latR p m last).filter (newR R),x4,some (.fz,QR p), .inr rfl,by simp,by simp[hp],fin.symm⟩
  .rintro _ ⟨kd,pre,L,x4,x6,hkd,rfl,hp,hL⟩
   rw[List.append_nil]at hp
   subst hp
   rw[←hL]at s1⊢
   simp(disch:=first|omega|rfl) [QcU,s1,v2,s2]
   rfl
end
structure GdT (n:Nat)(ps:List Path)(last:Nat)(rs:List Run)(ss:List Sign):Prop where
 runs:RunsOk ps last rs
 due:∀s g m (l:Nat),(s,g,some m)∈ps->(l:Int)+m<=last->∃c,(s,g,l,c)∈rs
 sh:∀x∈ss,x.1<n
 snd:ss.Nodup
 snm:∀x∈ss,PyData.strOk x.2.2=true
 slen:ss.length<=100
structure Le (rs:List Run)(ss:List Sign)(rs':List Run)(ss':List Sign):Prop where
 r:∀x∈rs,∃c,c<=x.2.2.2/\(x.1,x.2.1,x.2.2.1,c)∈rs'
 s:∀x∈ss,x∈ss'
theorem Le.trans {r1 r2 r3:List Run}{s1 s2 s3:List Sign}(a:Le r1 s1 r2 s2)(b:Le r2 s2 r3 s3):Le r1 s1 r3 s3:=
 ⟨fun x hx=>by
  obtain⟨c,hc,h1⟩:=a.r x hx
  obtain⟨c',hc',h2⟩:=b.r _ h1
  exact⟨c',Nat.le_trans hc' hc,h2⟩,fun x hx=>b.s x (a.s x hx)⟩
theorem Le.of_mem {r1 r2:List Run}{s1 s2:List Sign}(h1:∀x∈r1,x∈r2)(h2:∀x∈s1,x∈s2):Le r1 s1 r2 s2:=⟨fun x hx=>⟨_,Nat.le_refl _,h1 x hx⟩,h2⟩
theorem Le.hears {rs rs':List Run}{ss ss':List Sign}(l:Le rs ss rs' ss'){h t v u:Nat}(x:Hears rs h t v u):Hears rs' h t v u:=by
 induction x with
 |self z=>exact .self z
 | @run r u hr _ hu ih=>
  obtain⟨c,hc,hm⟩:=l.r r hr
  exact Hears.run (r:=(r.1,r.2.1,r.2.2.1,c)) hm (ih.le hc) hu
noncomputable def QA (ps:List Path)(last:Nat)(E:List Int)(rs:List Run):List Run:=srtR (srtR (rs.filter (hR E))++exP ps last (srtR (rs.filter (hR E))))
noncomputable def Qr (E:List Int)(ss:List Sign):List Sign:=srtS (srtS (ss.filter (hS E)))
theorem Qak {E:List Int}{ss:List Sign}{x:Sign}:x∈Qr E ss↔x∈ss/\hS E x=true:=by
 unfold Qr
 rw[srtS_perm.mem_iff,srtS_perm.mem_iff,List.mem_filter]
section
variable {n h t last:Nat}{ps:List Path}{rs:List Run}{ss:List Sign}{E:List Int}
theorem Qx (hm:∀p∈ps,∀m,p.2.2=some m->1<=m){r:Run}:r∈QA ps last E rs↔(r∈rs/\hR E r=true)\/∃m,(r.1,r.2.1,some m)∈ps/\(r.2.2.2:Int)=r.2.2.1+m/\r.2.2.2<=last/\∀q∈rs,hR E q=true->rkey q≠rkey r:=by
 unfold QA
 rw[srtR_perm.mem_iff,List.mem_append,srtR_perm.mem_iff,List.mem_filter,Qg2 hm]
 refine or_congr .rfl (exists_congr fun m=>?_)
 refine and_congr .rfl (and_congr .rfl (and_congr .rfl ?_))
 constructor
 .intro z q hq hh e
  exact z (List.mem_map.2 ⟨q,srtR_perm.mem_iff.2 (List.mem_filter.2 ⟨hq,hh⟩),e⟩)
 .intro z hk
  obtain⟨q,hq,e⟩:=List.mem_map.1 hk
  obtain⟨h1,h2⟩:=List.mem_filter.1 (srtR_perm.mem_iff.1 hq)
  exact z q h1 h2 e
theorem Qgd (eo:EndsOk rs n h t E){r:Run}(hr:r.2.1<n):hR E r=true↔Hears rs h t r.2.1 r.2.2.2:=by
 simp only[hR,decide_eq_true_eq];exact eo.iff _ _ hr
theorem QjL (eo:EndsOk rs n h t E){x:Sign}(hx:x.1<n):hS E x=true↔Hears rs h t x.1 x.2.1:=by
 simp only[hS,decide_eq_true_eq];exact eo.iff _ _ hx
theorem GdT.all (g:GdT n ps last rs ss)(ok:NetOk n ps):∀r∈rs,r.1<n/\r.2.1<n/\r.2.2.1<r.2.2.2/\r.2.2.2<=last:=RunsOk.all ok g.runs
theorem QdN (ro:RunsOk ps last rs){a b:Run}(ha:a∈rs)(hb:b∈rs)(e:rkey a=rkey b):a=b:=by
 have nd:=ro.nd
 clear ro
 induction rs with
 |nil=>simp at ha
 |cons x xs ih=>
  rw[List.map_cons,List.nodup_cons]at nd
  rcases List.mem_cons.1 ha with rfl|ha
  .rcases List.mem_cons.1 hb with rfl|hb
   .rfl
   .exact absurd (List.mem_map.2 ⟨b,hb,e.symm⟩) nd.1
  .rcases List.mem_cons.1 hb with rfl|hb
   .exact absurd (List.mem_map.2 ⟨a,‹_›,e⟩) nd.1
   .exact ih ‹_› hb nd.2
theorem QhZ (ok:NetOk n ps){s g:Nat}{o o':Option Int}(h1:(s,g,o)∈ps)(h2:(s,g,o')∈ps):o=o':=by
 have nd:=ok.nd
 clear ok
 induction ps with
 |nil=>simp at h1
 |cons x xs ih=>
  rw[List.map_cons,List.nodup_cons]at nd
  rcases List.mem_cons.1 h1 with e1|h1
  .rcases List.mem_cons.1 h2 with e2|h2
   .rw[←e1]at e2;simpa using e2.symm
   .exact absurd (List.mem_map.2 ⟨_,h2,by rw[←e1];rfl⟩) nd.1
  .rcases List.mem_cons.1 h2 with e2|h2
   .exact absurd (List.mem_map.2 ⟨_,h1,by rw[←e2];rfl⟩) nd.1
   .exact ih h1 h2 nd.2
theorem GdT.by_ (ok:NetOk n ps)(g:GdT n ps last rs ss){s e l:Nat}{m:Int}(hp:(s,e,some m)∈ps)(hl:(l:Int)+m<=last):∃c:Nat,(c:Int)<=l+m/\(s,e,l,c)∈rs:=by
 obtain⟨c,hc⟩:=g.due s e m l hp hl
 obtain⟨o,ho,hle⟩:=g.runs.path _ hc
 exact⟨c,hle m (QhZ ok ho hp),hc⟩
theorem Qg3 (ok:NetOk n ps)(g:GdT n ps last rs ss):Le aL (Qr E ss) rs ss:=by
 have hm:∀p∈ps,∀m,p.2.2=some m->1<=m:=fun p hp m e=>(ok.m p hp m e).1
 refine⟨fun r hr=>?_,fun x hx=>(Qak.1 hx).1⟩
 rcases(Qx hm).1 hr with⟨h1,_⟩|⟨m,hp,e1,e2,_⟩
 .exact⟨_,Nat.le_refl _,h1⟩
 .obtain⟨c,hc,hm⟩:=g.by_ ok hp (l:=r.2.2.1) aa
  exact⟨c,by omega,hm⟩
theorem QlW {rs':List Run}{ss':List Sign}{E':List Int}(ok:NetOk n ps)(g:GdT n ps last rs ss)(g':GdT n ps last rs' ss')(eo:EndsOk rs n h t E)(eo':EndsOk rs' n h t E')(l:Le rs ss rs' ss'):Le aL (Qr E ss) (QA ps last E' rs') (Qr E' ss'):=by
 have hm:∀p∈ps,∀m,p.2.2=some m->1<=m:=fun p hp m e=>(ok.m p hp m e).1
 refine⟨fun r hr=>?_,fun x hx=>?_⟩
 .rcases(Qx hm).1 hr with⟨h1,h2⟩|⟨m,hp,e1,e2,_⟩
  .obtain⟨c,hc,h3⟩:=l.r r h1
   have hn:=(g.all ok r h1).2.1
   refine⟨c,hc,(Qx hm).2 (.inl ⟨h3,(Qgd (r:=(r.1,r.2.1,r.2.2.1,c)) eo' hn).2 ?_⟩)⟩
   exact Hears.le (l.hears ((Qgd eo hn).1 h2)) hc
  .obtain⟨c,hc,h3⟩:=g'.by_ ok hp (l:=r.2.2.1) aa
   by_cases z:hR E' (r.1,r.2.1,r.2.2.1,c)=true
   .exact⟨c,by omega,(Qx hm).2 (.inl ⟨h3,z⟩)⟩
   .refine⟨r.2.2.2,Nat.le_refl _,(Qx hm).2 (.inr ⟨m,hp,e1,e2,fun q hq hh e=>z ?_⟩)⟩
    have:=QdN g'.runs hq h3 (by rw[e];rfl)
    rw[←this];exact hh
 .obtain⟨h1,h2⟩:=Qak.1 hx
  exact Qak.2 ⟨l.s x h1,(QjL eo' (g.sh x h1)).2 (l.hears ((QjL eo (g.sh x h1)).1 h2))⟩
theorem Qoe {α:Type} [DecidableEq α]:∀{l m:List α},l.Nodup->(∀x∈l,x∈m)->l.length<=m.length
 | [],_,_,_=>Nat.zero_le _
 |x::l,m,nd,h=>by
  rw[List.nodup_cons]at nd
  have hx:x∈m:=h x List.mem_cons_self
  have:=Qoe (l:=l) (m:=m.erase x) nd.2 fun y hy=>(List.mem_erase_of_ne (by rintro rfl;exact nd.1 hy)).2 (h y (List.mem_cons_of_mem _ hy))
  rw[List.length_erase_of_mem hx]at this
  have:0<m.length:=List.length_pos_of_mem hx
  simp only[List.length_cons];omega
noncomputable def QbK (ps:List Path)(last:Nat):List (Nat×Nat×Nat):=ps.flatMap fun p=>(List.range last).map fun l=>(p.1,p.2.1,l)
theorem Qge:(QbK ps last).length=ps.length*last:=by
 unfold QbK
 induction ps with
 |nil=>simp
 |cons p ps ih=>simp only[List.flatMap_cons,List.length_append,List.length_map,List.length_range,ih,List.length_cons,Nat.add_mul];omega
theorem Qeh (ro:RunsOk ps last rs){r:Run}(hr:r∈rs):rkey r∈QbK ps last:=by
 obtain⟨o,ho,_⟩:=ro.path r hr
 have:=ro.turn r hr
 unfold QbK
 exact List.mem_flatMap.2 ⟨_,ho,List.mem_map.2 ⟨r.2.2.1,List.mem_range.2 aa,rfl⟩⟩
theorem Qnt (ro:RunsOk ps last rs):rs.length<=ps.length*last:=by
 rw[←Qge,←List.length_map (f:=rkey)]
 exact Qoe ro.nd fun k hk=>by
  obtain⟨r,hr,rfl⟩:=List.mem_map.1 hk
  exact Qeh ro hr
theorem QcA (ok:NetOk n ps)(g:GdT n ps last rs ss):GdT n ps last aL (Qr E ss):=by
 have hm:∀p∈ps,∀m,p.2.2=some m->1<=m:=fun p hp m e=>(ok.m p hp m e).1
 have pm:(Qr E ss).Perm (ss.filter (hS E)):=srtS_perm.trans srtS_perm
 have pv:(srtR (rs.filter (hR E))).Perm (rs.filter (hR E)):=srtR_perm
 refine⟨⟨fun r hr=>?_,fun r hr=>?_,?_⟩,fun s e m l hp hl=>?_,fun x hx=>g.sh x (Qak.1 hx).1,pm.nodup_iff.2 (Qbk g.snd),fun x hx=>g.snm x (Qak.1 hx).1,?_⟩
 .rcases(Qx hm).1 hr with⟨h1,h2⟩|⟨m,hp,e1,e2,_⟩
  .exact g.runs.path r h1
  .exact⟨_,hp,fun m' e=>by cases e;omega⟩
 .rcases(Qx hm).1 hr with⟨h1,h2⟩|⟨m,hp,e1,e2,_⟩
  .exact g.runs.turn r h1
  .have:=hm _ hp m rfl
   exact⟨by omega,e2⟩
 .unfold QA
  rw[(srtR_perm.map rkey).nodup_iff,List.map_append,List.nodup_append]
  refine⟨(pv.map rkey).nodup_iff.2 (List.Pairwise.sublist (List.Sublist.map _ List.filter_sublist) g.runs.nd),QlV hm ok.nd,fun a ha b hb z=>?_⟩
  subst z
  obtain⟨r',hr',e'⟩:=List.mem_map.1 hb
  obtain⟨m',_,_,_,h4⟩:=(Qg2 hm).1 hr'
  exact h4 (e'▸ha)
 .by_cases z:∃q∈rs,hR E q=true/\rkey q=(s,e,l)
  .obtain⟨q,hq,hh,ek⟩:=z
   simp only[rkey,Prod.mk.injEq]at ek
   obtain⟨rfl,rfl,rfl⟩:=ek
   exact⟨q.2.2.2,(Qx hm).2 (.inl ⟨hq,hh⟩)⟩
  .have:=hm _ hp m rfl
   refine⟨l+m.toNat,(Qx hm).2 (.inr ⟨m,hp,by simp;omega,by simp;omega,fun q hq hh ek=>z ⟨q,hq,hh,ek⟩⟩)⟩
 .rw[pm.length_eq];exact Nat.le_trans (List.length_filter_le ..) g.slen
end
theorem QlX {α:Type} [DecidableEq α]{l m:List α}(hl:l.Nodup)(hm:m.Nodup)(h:∀x,x∈l↔x∈m):l.Perm m:=(List.perm_ext_iff_of_nodup hl hm).2 h
theorem Qg4 {α:Type}{f g:α->Nat}:∀{l:List α},(∀k∈l,f k<=g k)->(l.map f).sum<=(l.map g).sum
 | [],_=>Nat.le_refl _
 |x::l,h=>by
  have:=Qg4 (l:=l) fun k hk=>h k (by simp[hk])
  have:=h x al
  simp only[List.map_cons,List.sum_cons];omega
theorem QlY {α:Type}{f g:α->Nat}:∀{l:List α},(∀k∈l,f k<=g k)->(∃k∈l,f k<g k)->(l.map f).sum<(l.map g).sum
 | [],_,⟨k,hk,_⟩=>by cases hk
 |x::l,h,⟨k,hk,hlt⟩=>by
  have a:=h x al
  simp only[List.map_cons,List.sum_cons]
  rcases List.mem_cons.1 hk with rfl|hk
  .have:=Qg4 (l:=l) fun k hk=>h k (by simp[hk])
   omega
  .have:=QlY (l:=l) (fun k hk=>h k (by simp[hk])) ⟨k,hk,hlt⟩
   omega
noncomputable def QpW (ps:List Path)(r:Run):Prop:=∃m,(r.1,r.2.1,some m)∈ps/\(r.2.2.2:Int)=r.2.2.1+m
open Classical in
noncomputable def wtR (ps:List Path)(rs:List Run)(k:Nat×Nat×Nat):Nat:=if∃r∈rs,rkey r=k then(if∃r∈rs,rkey r=k/\QpW ps r then 1 else 2)else 0
noncomputable def potR (ps:List Path)(last:Nat)(rs:List Run)(ss:List Sign):Nat:=((QbK ps last).map (wtR ps rs)).sum+ss.length
section
variable {n h t last:Nat}{ps:List Path}{rs rs':List Run}{ss ss':List Sign}{E:List Int}
theorem Qso {k:Nat×Nat×Nat}:wtR ps rs k<=2:=by unfold wtR;split<;>(try split)<;>omega
theorem QpX (hs:ss.length<=100):potR ps last rs ss<=2*(ps.length*last)+100:=by
 have a:((QbK ps last).map (wtR ps rs)).sum<=((QbK ps last).map fun _=>2).sum:=Qg4 fun k _=>Qso
 have b:((QbK ps last).map fun _=>2).sum=2*(QbK ps last).length:=by
  induction QbK ps last with
  |nil=>rfl
  |cons x l ih=>simp only[List.map_cons,List.sum_cons,List.length_cons,ih];omega
 rw[b,Qge]at a
 unfold potR;omega
noncomputable def Srt (rs:List Run)(ss:List Sign):Prop:=srtR rs=rs/\srtS ss=ss
theorem QiV {a b:List Run}(ha:srtR a=a)(hb:srtR b=b)(na:a.Nodup)(nb:b.Nodup)(h:∀x,x∈a↔x∈b):a=b:=by
 have:=QgZ (QlX na nb h)
 rw[ha,hb]at this;exact this
theorem Qnu {a b:List Sign}(ha:srtS a=a)(hb:srtS b=b)(na:a.Nodup)(nb:b.Nodup)(h:∀x,x∈a↔x∈b):a=b:=by
 have:=Qg0 (QlX na nb h)
 rw[ha,hb]at this;exact this
theorem QcM:Srt aL (Qr E ss):=⟨QgZ srtR_perm,Qg0 srtS_perm⟩
theorem QpY (ok:NetOk n ps)(g:GdT n ps last rs ss){k:Nat×Nat×Nat}:wtR ps aL k<=wtR ps rs k:=by
 have hm:∀p∈ps,∀m,p.2.2=some m->1<=m:=fun p hp m e=>(ok.m p hp m e).1
 unfold wtR
 by_cases c:∃r∈QA ps last E rs,rkey r=k
 .rw[if_pos c]
  obtain⟨r,hr,rfl⟩:=c
  obtain⟨c',hc',hy⟩:=(Qg3 (E:=E) ok g).r r hr
  rw[if_pos (c:=∃q∈rs,rkey q=rkey r) ⟨_,hy,rfl⟩]
  by_cases l:∃q∈QA ps last E rs,rkey q=rkey r/\QpW ps q
  .rw[if_pos l];split<;>omega
  .rw[if_neg l,if_neg]
   .omega
   .rintro⟨q,hq,e,hl⟩
    rcases(Qx hm).1 hr with⟨h1,_⟩|⟨m,hp,e1,e2,_⟩
    .obtain rfl:=QdN g.runs hq h1 e
     exact l ⟨q,hr,rfl,hl⟩
    .exact l ⟨r,hr,rfl,m,hp,e1⟩
 .rw[if_neg c];exact Nat.zero_le _
theorem Qnv (ok:NetOk n ps)(g:GdT n ps last rs ss)(st:Srt rs ss)(ne:¬(QA ps last E rs=rs/\Qr E ss=ss)):potR ps last aL (Qr E ss)<potR ps last rs ss:=by
 have hm:∀p∈ps,∀m,p.2.2=some m->1<=m:=fun p hp m e=>(ok.m p hp m e).1
 have g':=QcA (E:=E) ok g
 have hle:=fun k (_:k∈QbK ps last)=>QpY (E:=E) (k:=k) ok g
 have sl:(Qr E ss).length<=ss.length:=by
  rw[show(Qr E ss).length=(ss.filter (hS E)).length from(srtS_perm.trans srtS_perm).length_eq]
  exact List.length_filter_le ..
 by_cases c:Qr E ss=ss
 .have ne:¬QA ps last E rs=rs:=fun z=>ne ⟨z,c⟩
  have:∃k∈QbK ps last,wtR ps aL k<wtR ps rs k:=by
   apply Classical.byContradiction
   intro no
   have no:∀r,r∈rs\/r∈QA ps last E rs->wtR ps aL (rkey r)=wtR ps rs (rkey r):=fun r hr=>by
    have hk:rkey r∈QbK ps last:=hr.elim (fun z=>Qeh g.runs z) (fun z=>Qeh g'.runs z)
    have a:=hle _ hk
    have b:¬wtR ps aL (rkey r)<wtR ps rs (rkey r):=fun z=>no ⟨_,hk,z⟩
    omega
   refine ne ?_
   refine QiV (QcM (ss:=ss)).1 st.1 (Qbz g'.runs.nd) (Qbz g.runs.nd) fun r=>?_
   have sub:∀r,r∈QA ps last E rs->r∈rs:=fun r hr=>by
    rcases(Qx hm).1 hr with⟨h1,_⟩|⟨m,hp,e1,e2,_⟩
    .exact h1
    .obtain⟨c',hc',hy⟩:=(Qg3 (E:=E) ok g).r r hr
     have w:=no r (.inr hr)
     unfold wtR at w
     rw[if_pos ⟨r,hr,rfl⟩,if_pos ⟨r,hr,rfl,m,hp,e1⟩,if_pos ⟨_,hy,rfl⟩]at w
     split at w
     .rename_i l
      obtain⟨q,hq,e,m',hp',e'⟩:=l
      simp only[rkey,Prod.mk.injEq]at e
      obtain⟨z1,z2,z3⟩:=e
      rw[z1,z2]at hp'
      have:=QhZ ok hp hp'
      cases this
      have:q=r:=by
       obtain⟨q1,q2,q3,q4⟩:=q
       obtain⟨r1,r2,r3,r4⟩:=r
       simp only at z1 z2 z3 e1 e'
       subst z1;subst z2;subst z3
       have:q4=r4:=by omega
       rw[this]
      exact this▸hq
     .omega
   refine⟨sub r,fun hr=>?_⟩
   have w:=no r (.inl hr)
   unfold wtR at w
   rw[if_pos (c:=∃q∈rs,rkey q=rkey r) ⟨r,hr,rfl⟩]at w
   by_cases c2:∃q∈QA ps last E rs,rkey q=rkey r
   .obtain⟨q,hq,e⟩:=c2
    exact QdN g.runs (sub q hq) hr e▸hq
   .rw[if_neg c2]at w
    split at w<;>omega
  have a:=QlY hle this
  unfold potR;omega
 .have lt:(Qr E ss).length<ss.length:=by
   rcases Nat.lt_or_ge (Qr E ss).length ss.length with z|z
   .exact z
   .refine absurd ?_ c
    have e1:(Qr E ss).length=(ss.filter (hS E)).length:=(srtS_perm.trans srtS_perm).length_eq
    have e2:ss.filter (hS E)=ss:=List.filter_sublist.eq_of_length (by have:=List.length_filter_le (hS E) ss;omega)
    unfold Qr
    rw[e2,st.2,st.2]
  have a:=Qg4 hle
  unfold potR;omega
theorem QlZ (ok:NetOk n ps)(g:GdT n ps last rs ss)(eo:EndsOk rs n h t E){v u w l:Nat}(x:Hears rs h t v u)(y:Hears rs v u w l):Hears aL v u w l:=by
 have hm:∀p∈ps,∀m,p.2.2=some m->1<=m:=fun p hp m e=>(ok.m p hp m e).1
 induction y with
 |self h=>exact .self h
 | @run r l h1 h2 h3 ih=>exact .run ((Qx hm).2 (.inl ⟨h1,(Qgd eo (g.all ok _ h1).2.1).2 (x.trans h2)⟩)) ih h3
theorem Ql0 (ok:NetOk n ps)(g:GdT n ps last rs ss)(eo:EndsOk rs n h t E):EndsOk aL n h t E:=
 ⟨eo.len,eo.low,fun v u hv=>(eo.iff v u hv).trans ⟨fun x=>QlZ ok g eo (.self am) x,fun x=>(Qg3 (ss:=ss) ok g).hears x⟩⟩
theorem Ql1 (ok:NetOk n ps)(g:GdT n ps last rs ss)(eo:EndsOk rs n h t E){r:Run}(hr:r∈QA ps last E rs)(hh:hR E r=true):r∈rs:=by
 have hm:∀p∈ps,∀m,p.2.2=some m->1<=m:=fun p hp m e=>(ok.m p hp m e).1
 rcases(Qx hm).1 hr with⟨h1,_⟩|⟨m,hp,e1,e2,e3⟩
 .exact h1
 .obtain⟨c,hc,hq⟩:=g.by_ ok hp (l:=r.2.2.1) aa
  have hg:=(g.all ok _ hq).2.1
  refine absurd rfl (e3 (r.1,r.2.1,r.2.2.1,c) hq ?_)
  have z:=(Qgd eo (r:=r) hg).1 hh
  exact(Qgd eo (r:=(r.1,r.2.1,r.2.2.1,c)) hg).2 (z.le (by show c<=_;omega))
theorem Qkr (ok:NetOk n ps)(g:GdT n ps last rs ss)(eo:EndsOk rs n h t E):QA ps last E aL=QA ps last E rs/\Qr E (Qr E ss)=Qr E ss:=by
 have hm:∀p∈ps,∀m,p.2.2=some m->1<=m:=fun p hp m e=>(ok.m p hp m e).1
 have g':=QcA (E:=E) ok g
 have g'':=QcA (E:=E) ok g'
 constructor
 .refine QiV (QcM (ss:=ss)).1 (QcM (ss:=ss)).1 (Qbz g''.runs.nd) (Qbz g'.runs.nd) fun r=>?_
  rw[Qx hm]
  constructor
  .rintro(⟨h1,_⟩|⟨m,hp,e1,e2,e3⟩)
   .exact h1
   .exact(Qx hm).2 (.inr ⟨m,hp,e1,e2,fun q hq hh=>e3 q ((Qx hm).2 (.inl ⟨hq,hh⟩)) hh⟩)
  .intro hr
   by_cases z:hR E r=true
   .exact .inl ⟨hr,z⟩
   .rcases(Qx hm).1 hr with⟨_,h2⟩|⟨m,hp,e1,e2,e3⟩
    .exact absurd h2 z
    .exact .inr ⟨m,hp,e1,e2,fun q hq hh=>e3 q (Ql1 ok g eo hq hh) hh⟩
 .have e:(Qr E ss).filter (hS E)=Qr E ss:=List.filter_eq_self.2 fun x hx=>(Qak.1 hx).2
  show srtS (srtS ((Qr E ss).filter (hS E)))=_
  rw[e,(QcM (ps:=ps) (last:=last) (E:=E) (rs:=rs) (ss:=ss)).2,(QcM (ps:=ps) (last:=last) (E:=E) (rs:=rs) (ss:=ss)).2]
noncomputable def Fx (n:Nat)(ps:List Path)(last t:Nat)(rs:List Run)(ss:List Sign)(h:Nat):Prop:=∀E,EndsOk rs n h t E->QA ps last E rs=rs/\Qr E ss=ss
theorem QpZ (ok:NetOk n ps)(g:GdT n ps last rs ss)(eo:EndsOk rs n h t E):Fx n ps last t aL (Qr E ss) h:=fun E' eo'=>by
 obtain rfl:=eo'.uniq (Ql0 ok g eo)
 exact Qkr ok g eo
theorem Le.anti (st:Srt rs ss)(st':Srt rs' ss')(g:GdT n ps last rs ss)(g':GdT n ps last rs' ss')(a:Le rs ss rs' ss')(b:Le rs' ss' rs ss):rs=rs'/\ss=ss':=by
 have key:∀{r1 r2:List Run} {s1 s2:List Sign},GdT n ps last r1 s1->Le r1 s1 r2 s2->Le r2 s2 r1 s1->∀x∈r1,x∈r2:=fun{r1 r2 s1 s2} g a b x hx=>by
  obtain⟨c,hc,hm⟩:=a.r x hx
  obtain⟨c',hc',hm'⟩:=b.r _ hm
  have e:=QdN g.runs hm' hx rfl
  have:c=x.2.2.2:=by rw[←e]at hc⊢;simp only at hc hc'⊢;omega
  rw[this]at hm;exact hm
 constructor
 .exact QiV st.1 st'.1 (Qbz g.runs.nd) (Qbz g'.runs.nd) fun x=>⟨key g a b x,key g' b a x⟩
 .exact Qnu st.2 st'.2 g.snd g'.snd fun x=>⟨a.s x,b.s x⟩
end
section
variable {n h t last:Nat}{ps:List Path}{N T H:D}{rs rs' rs0:List Run}{ss ss' ss0:List Sign}{E:List Int}{hs:List Nat}
structure TaleX (last:Nat)(rs:List Run)(ss:List Sign)(T:D):Prop where
 t0:idxD T (.int 0)=some (.fz, .int last)
 t1:∃L,idxD T (.int 1)=some (.fz,L)/\Qhx (.ok .fz L)=Qch (rs.map runD)
 t2:∃L,idxD T (.int 2)=some (.fz,L)/\Qhx (.ok .fz L)=Qch (ss.map QI)
theorem Ql2:TaleX last rs ss (Qv last rs ss):=⟨Qfw,⟨_,Qfv,rfl⟩,⟨_,Qef,rfl⟩⟩
structure HsX (hs:List Nat)(H:D):Prop where
 len:lenD [H]=some (.fz, .int (hs.length:Nat))
 at_:∀(p h:Nat),hs[p]?=some h->idxD H (.int (p:Nat))=some (.fz, .int (h:Nat))
theorem Qsp:HsX hs (.lst (hs.map fun(h:Nat)=>D.int h)):=⟨by simp,fun p h e=>by
 have:=QfW (xs:=hs.map fun(h:Nat)=>D.int h) (i:=p) (d:= .int (h:Nat)) (by rw[List.getElem?_map,e];rfl)
 simp[this]⟩
theorem GdT.len (g:GdT n ps last rs ss)(hps:ps.length<=64)(hl:last<=24):rs.length<=1536:=Nat.le_trans (Qnt g.runs) (Nat.mul_le_mul hps hl)
theorem GdT.tok (g:GdT n ps last rs ss)(ok:NetOk n ps)(hps:ps.length<=64)(hl:last<=24):TaleOk n last rs ss:=⟨g.all ok,g.runs.nd,by have:=g.len hps hl;omega,g.sh,g.snd,g.slen⟩
theorem GdT.ends (g:GdT n ps last rs ss)(ok:NetOk n ps)(hl:last<=24)(ht:t<=last)(hh:h<n):∃E,EndsOk rs n h t E:=by
 obtain⟨E,e,_⟩:=QpR (ps:=ps) (ss:=ss) ok.n1 ok.n8 aa ht hh (g.all ok)
 exact⟨E,e⟩
theorem Ql3 (hN:NetX n ps N)(ok:NetOk n ps)(hps:ps.length<=64)(hl:last<=24)(ht:t<=last)(hh:h<n)(g:GdT n ps last rs ss)(eo:EndsOk rs n h t E):
  Qa8 [N,Qv last rs ss,Qdt h t]= .ok .fz (Qv last aL (Qr E ss)):=by
 have tk:=g.tok ok hps hl
 have s1:=QpU hN ok.n1 ok.n8 aa ht hh tk eo
 have l0:=g.len hps hl
 have l1:ps.length*last<=64*24:=Nat.mul_le_mul hps hl
 have pv:(srtR (rs.filter (hR E))).Perm (rs.filter (hR E)):=srtR_perm
 have pw:(srtS (ss.filter (hS E))).Perm (ss.filter (hS E)):=srtS_perm
 have l2:=List.length_filter_le (hR E) rs
 have l3:=List.length_filter_le (hS E) ss
 have l4:=g.slen
 have s2:=Qkq (h:=h) (t:=t) (R:=srtR (rs.filter (hR E))) (S:=srtS (ss.filter (hS E))) hN ok hps (by omega:last<=60) (by rw[pv.length_eq];omega) ((pv.map rkey).nodup_iff.2 (List.Pairwise.sublist (List.Sublist.map _ List.filter_sublist) g.runs.nd)) (by rw[pw.length_eq];omega) (pw.nodup_iff.2 (Qbk g.snd))
 refine QD (Qa8 [N,Qv last rs ss,Qdt h t]) rfl ?_
 simp(disch:=first|omega|rfl) [ev0,Qeb,s1,Qfw]
 unfold Qod
 rw[s2]
 simp(disch:=first|omega|rfl) []
 rfl
theorem Qks (x:TaleX last rs ss T)(nd:(rs.map rkey).Nodup)(hn:rs.length<=5000)(snd:ss.Nodup)(hs:ss.length<=5000):QaQ [T]= .ok .fz (Qv last (srtR rs) (srtS ss)):=by
 obtain⟨L1,a1,a2⟩:=x.t1
 obtain⟨L2,b1,b2⟩:=x.t2
 have s1:=QdM (Qbz nd) hn
 have s2:=QcL snd hs
 refine QD (QaQ [T]) rfl ?_
 simp(disch:=first|omega|rfl) [ev0,Qdg,x.t0,a1,b1,a2,b2,s1,s2]
 rfl
theorem QjM (hn:∀x∈ss,PyData.strOk x.2.2=true):pl 60 (Qv last rs ss)=true:=by
 have h1:plL 58 (rs.map runD)=true:=Qcl.2 fun d hd=>by
  obtain⟨x,hx,rfl⟩:=List.mem_map.1 hd
  simp[runD,pl,plL]
 have h2:plL 58 (ss.map QI)=true:=Qcl.2 fun d hd=>by
  obtain⟨x,hx,rfl⟩:=List.mem_map.1 hd
  simp[QI,pl,plL,hn x hx]
 simp[Qv,pl,plL,h1,h2]
theorem Qnw {a b:Run}(e:runD a=runD b):a=b:=by
 obtain⟨a1,a2,a3,a4⟩:=a
 obtain⟨b1,b2,b3,b4⟩:=b
 simp[runD]at e
 simp only[Prod.mk.injEq];omega
theorem Qh0:Qv last rs ss=Qv last rs' ss'↔rs=rs'/\ss=ss':=by
 constructor
 .intro e
  simp only[Qv,D.tup.injEq,List.cons.injEq,D.lst.injEq,and_true,true_and]at e
  exact⟨List.map_inj_right (fun _ _=>Qnw)|>.1 e.1,List.map_inj_right (fun _ _=>QhX.1)|>.1 e.2⟩
 .rintro⟨rfl,rfl⟩;rfl
structure Cm (n:Nat)(ps:List Path)(last t:Nat)(rs0:List Run)(ss0:List Sign)(hs:List Nat)(rs:List Run)(ss:List Sign):Prop where
 gd:GdT n ps last rs ss
 st:Srt rs ss
 le:Le rs ss rs0 ss0
 fx:∀h∈hs,Fx n ps last t rs ss h
 top:∀rs' ss',GdT n ps last rs' ss'->Le rs' ss' rs0 ss0->(∀h∈hs,Fx n ps last t rs' ss' h)->Le rs' ss' rs ss
theorem Cm.uniq {hs':List Nat}(a:Cm n ps last t rs0 ss0 hs rs ss)(b:Cm n ps last t rs0 ss0 hs' rs' ss')(e:∀h,h∈hs↔h∈hs'):rs=rs'/\ss=ss':=
 Le.anti a.st b.st a.gd b.gd (b.top _ _ a.gd a.le fun h hh=>a.fx h ((e h).2 hh)) (a.top _ _ b.gd b.le fun h hh=>b.fx h ((e h).1 hh))
structure Way (n:Nat)(ps:List Path)(last t:Nat)(rs0:List Run)(ss0:List Sign)(hs:List Nat)(p k:Nat)(rs:List Run)(ss:List Sign):Prop where
 gd:GdT n ps last rs ss
 st:Srt rs ss
 le:Le rs ss rs0 ss0
 pl:p<hs.length
 kl:k<=hs.length
 fx:∀(q j h:Nat),hs[q]?=some h->j<k->(q+j+1=p\/q+j+1=p+hs.length)->Fx n ps last t rs ss h
 top:∀rs' ss',GdT n ps last rs' ss'->Le rs' ss' rs0 ss0->(∀h∈hs,Fx n ps last t rs' ss' h)->Le rs' ss' rs ss
theorem Way.end_ {p:Nat}(w:Way n ps last t rs0 ss0 hs p hs.length rs ss):Cm n ps last t rs0 ss0 hs rs ss:=
 ⟨w.gd,w.st,w.le,fun h hh=>by
  obtain⟨q,hq⟩:=List.mem_iff_getElem?.1 hh
  have:=(List.getElem?_eq_some_iff.1 hq).1
  have:=w.pl
  by_cases c:q<p
  .exact w.fx q (p-1-q) h hq aa aa
  .exact w.fx q (p+hs.length-1-q) h hq aa aa,w.top⟩
theorem Qof {p L:Nat}(h:p<L):((p:Int)+1) %(L:Int)=(((p+1) %L:Nat):Int)/\(p+1) %L<L/\((p+1<L/\(p+1) %L=p+1)\/(p+1=L/\(p+1) %L=0)):=by
 refine⟨by simp,Nat.mod_lt _ aa,?_⟩
 by_cases c:p+1=L
 .exact .inr ⟨c,by rw[c,Nat.mod_self]⟩
 .exact .inl ⟨by omega,Nat.mod_eq_of_lt aa⟩
theorem Way.same {p k:Nat}(w:Way n ps last t rs0 ss0 hs p k rs ss)(hk:k<hs.length)(hq:hs[p]?=some h)(f:Fx n ps last t rs ss h):Way n ps last t rs0 ss0 hs ((p+1) %hs.length) (k+1) rs ss:=by
 obtain⟨_,a,b⟩:=Qof w.pl
 refine⟨w.gd,w.st,w.le,a,hk,fun q j h' hq' hj e=>?_,w.top⟩
 have ql:=(List.getElem?_eq_some_iff.1 hq').1
 by_cases c:j=0
 .have:q=p:=by omega
  subst this
  rw[hq]at hq';cases hq'
  exact f
 .exact w.fx q (j-1) h' hq' aa aa
theorem Way.less {p k:Nat}(ok:NetOk n ps)(hl:last<=24)(ht:t<=last)(hn:∀h∈hs,h<n)(w:Way n ps last t rs0 ss0 hs p k rs ss)(hq:hs[p]?=some h)(eo:EndsOk rs n h t E):Way n ps last t rs0 ss0 hs ((p+1) %hs.length) 1 aL (Qr E ss):=by
 obtain⟨_,a,b⟩:=Qof w.pl
 have hm:h∈hs:=List.mem_iff_getElem?.2 ⟨_,hq⟩
 refine⟨QcA ok w.gd,QcM,(Qg3 ok w.gd).trans w.le,a,by have:=w.pl;omega,fun q j h' hq' hj e=>?_,fun rs' ss' g' l' f'=>?_⟩
 .have ql:=(List.getElem?_eq_some_iff.1 hq').1
  have:q=p:=by omega
  subst this
  rw[hq]at hq';cases hq'
  exact QpZ ok w.gd eo
 .obtain⟨E',eo'⟩:=g'.ends ok hl ht (hn h hm)
  have m:=QlW ok g' w.gd eo' eo (w.top rs' ss' g' l' f')
  rw[(f' h hm E' eo').1,(f' h hm E' eo').2]at m
  exact m
noncomputable def StE (S0:D)(St:List D)(c:D):Prop:=(St= []/\c=S0)\/∃P,∃h:Int,St=P++ [.tup [.int h,c]]
theorem Ql4 (g:GdT n ps last rs ss):GdT n ps last (srtR rs) (srtS ss):=by
 have pr:(srtR rs).Perm rs:=srtR_perm
 have pq:(srtS ss).Perm ss:=srtS_perm
 refine⟨⟨fun r hr=>g.runs.path r (pr.mem_iff.1 hr),fun r hr=>g.runs.turn r (pr.mem_iff.1 hr),(pr.map rkey).nodup_iff.2 g.runs.nd⟩,fun s e m l h1 h2=>?_,fun x hx=>g.sh x (pq.mem_iff.1 hx),pq.nodup_iff.2 g.snd,fun x hx=>g.snm x (pq.mem_iff.1 hx),by rw[pq.length_eq];exact g.slen⟩
 obtain⟨c,hc⟩:=g.due s e m l h1 h2
 exact⟨c,pr.mem_iff.2 hc⟩
theorem way0 (g:GdT n ps last rs ss)(hp:0<hs.length):Way n ps last t rs ss hs 0 0 (srtR rs) (srtS ss):=
 ⟨Ql4 g,⟨QgZ srtR_perm,Qg0 srtS_perm⟩,Le.of_mem (fun x hx=>srtR_perm.mem_iff.1 hx) (fun x hx=>srtS_perm.mem_iff.1 hx),hp,by omega,fun q j h _ hj _=>by omega,fun rs' ss' g' l f=>l.trans (Le.of_mem (fun x hx=>srtR_perm.mem_iff.2 hx) (fun x hx=>srtS_perm.mem_iff.2 hx))⟩
end
section
variable {n t last:Nat}{ps:List Path}{N T H:D}{rs0:List Run}{ss0:List Sign}{hs:List Nat}
noncomputable def InvQ (Q:List D->List Run->List Sign->Prop)(N T H:D)(n:Nat)(ps:List Path)(last t:Nat)(rs0:List Run)(ss0:List Sign)(hs:List Nat)(m:Nat)(ev:Ev):Prop:=∃rs ss p k St x8 x9,ev= [some (.fz,N),some (.fz,T),some (.fz,H),some (.fz, .int t),some (.ow, .lst St),some (.fz,Qv last rs ss),some (.fz, .int (p:Nat)),some (.fz, .int (k:Nat)),x8,x9]/\Way n ps last t rs0 ss0 hs p k rs ss/\Q St rs ss/\m=potR ps last rs ss*(hs.length+1)+(hs.length-k)/\St.length+potR ps last rs ss<=4000
noncomputable def StQ (Q:List D->List Run->List Sign->Prop)(n:Nat)(ps:List Path)(last t:Nat)(rs0:List Run)(ss0:List Sign)(hs:List Nat)(r:R):Prop:=∃St rs ss,r= .ok .ow (.lst St)/\Cm n ps last t rs0 ss0 hs rs ss/\Q St rs ss
theorem Qh1 {Q:List D->List Run->List Sign->Prop}(q0:Q [] (srtR rs0) (srtS ss0))(qs:∀St rs ss h E,Q St rs ss->GdT n ps last rs ss->Srt rs ss->h∈hs->EndsOk rs n h t E->Q (St++ [.tup [.int (h:Nat),Qv last aL (Qr E ss)]]) aL (Qr E ss))(hN:NetX n ps N)(hT:TaleX last rs0 ss0 T)(hH:HsX hs H)(ok:NetOk n ps)(hps:ps.length<=64)(hl:last<=24)(ht:t<=last)(hn:∀h∈hs,h<n)(h0:0<hs.length)(h8:hs.length<=8)(g:GdT n ps last rs0 ss0):
  StQ Q n ps last t rs0 ss0 hs (QP [N,T,H, .int t]):=by
 have od:=Qks hT g.runs.nd (by have:=g.len hps hl;omega) g.snd (by have:=g.slen;omega)
 have hlen:=hH.len
 have L0:(0:Int)<hs.length:=by omega
 refine QD (motive:=StQ Q n ps last t rs0 ss0 hs) (QP [N,T,H, .int t]) rfl ?_
 obtain⟨gg,hgg⟩:∃gg,gg=QQ:=⟨_,rfl⟩
 simp(disch:=first|omega|rfl) [ev0,QaV,od]
 rw[←hgg]
 have g0:=Ql4 g
 have pt:=QpX (ps:=ps) (last:=last) (rs:=srtR rs0) g0.slen
 have l1:ps.length*last<=64*24:=Nat.mul_le_mul hps hl
 have pb:potR ps last (srtR rs0) (srtS ss0)<=3172:=by omega
 refine QdF (InvQ Q N T H n ps last t rs0 ss0 hs) ?_ (m:=potR ps last (srtR rs0) (srtS ss0)*(hs.length+1)+(hs.length-0)) ⟨srtR rs0,srtS ss0,0,0,[],none,none,rfl,way0 g h0,q0,rfl,by simp;omega⟩ ?_
 .rintro m _ ⟨rs,ss,p,k,St,x8,x9,rfl,w,se,rfl,hS⟩
  by_cases c:k=hs.length
  .subst c
   refine .inr ⟨.fz,by simp(disch:=first|omega|rfl) [hlen],?_⟩
   simp(disch:=first|omega|rfl) []
   exact⟨St,rs,ss,rfl,w.end_,se⟩
  .have hk:k<hs.length:=by have:=w.kl;omega
   obtain⟨h,hq⟩:∃h,hs[p]?=some h:=⟨_,List.getElem?_eq_getElem w.pl⟩
   have hm:h∈hs:=List.mem_iff_getElem?.2 ⟨_,hq⟩
   obtain⟨E,eo⟩:=w.gd.ends ok hl ht (hn h hm)
   have sl:=Ql3 hN ok hps hl ht (hn h hm) w.gd eo
   have g':=QcA (E:=E) ok w.gd
   have eq:=QhB (QjM (last:=last) (rs:=QA ps last E rs) g'.snm) (QjM (last:=last) (rs:=rs) w.gd.snm)
   have ix:=hH.at_ p h hq
   have sp:D.tup [.int h, .int t]=Qdt h t:=rfl
   refine .inl ⟨.fz,by simp(disch:=first|omega|rfl) [hlen,hk],?_⟩
   rw[hgg]
   by_cases d:QA ps last E rs=rs/\Qr E ss=ss
   .have de:decide (Qv last aL (Qr E ss)=Qv last rs ss)=true:=by simpa using Qh0.2 d
    rw[de]at eq
    simp(disch:=first|omega|rfl) [QQ,ix,sp,sl,eq,Qae,hlen,Qix L0]
    refine⟨_,?_,rs,ss,(p+1) %hs.length,k+1,St,some (.fz, .int (h:Nat)),some (.fz,Qv last aL (Qr E ss)),by simp,w.same hk hq fun E' eo'=>by obtain rfl:=eo'.uniq eo;exact d,se,rfl,hS⟩
    omega
   .have de:decide (Qv last aL (Qr E ss)=Qv last rs ss)=false:=by simpa using fun z=>d (Qh0.1 z)
    have lt:=Qnv ok w.gd w.st d
    have lim:St.length<LIM:=by simp only[LIM];omega
    rw[de]at eq
    simp(disch:=first|omega|rfl) [QQ,ix,sp,sl,eq,Qae,hlen,Qix L0,lim]
    refine⟨_,?_,QA ps last E rs,Qr E ss,(p+1) %hs.length,1,St++ [.tup [.int h,Qv last aL (Qr E ss)]],some (.fz, .int (h:Nat)),some (.fz,Qv last aL (Qr E ss)),by simp,w.less ok hl ht hn hq eo,qs _ _ _ _ _ se w.gd w.st hm eo,rfl,by simp;omega⟩
    have:=Nat.mul_le_mul_right (hs.length+1) (show potR ps last aL (Qr E ss)+1<=potR ps last rs ss by omega)
    rw[Nat.add_mul]at this
    omega
 .have:=Nat.mul_le_mul pb (show hs.length+1<=9 by omega)
  omega
theorem Qsq {St:List D}{S0 c:D}(h:StE S0 St c):Qa9 [.lst St,S0]= .ok .fz c:=by
 refine QD (Qa9 [.lst St,S0]) rfl ?_
 rcases h with⟨rfl,rfl⟩|⟨P,h,rfl⟩
 .simp(disch:=first|omega|rfl) [ev0,QcJ]
 .have:atI (P++ [D.tup [.int h,c]]) (-1)=some (.tup [.int h,c]):=by
   have e:ixN (P.length+1) (-1)=some P.length:=by simp[ixN];omega
   simp[atI,e]
  have ne:(P++ [D.tup [.int h,c]]).isEmpty=false:=List.isEmpty_eq_false_iff.2 al
  generalize P++ [D.tup [.int h,c]]=L at *
  simp(disch:=first|omega|rfl) [ev0,QcJ,this,ne]
end
noncomputable def stepD (x:Net.Stp):D:= .tup [.int x.1, .int x.2.1, .int x.2.2]
noncomputable def QbZ:Option (Int×List Nat)->D
 |none=> .non
 |some (t,w)=> .tup [.int t, .lst (w.map fun(x:Nat)=> .int x)]
@[simp] theorem Qu0:QbZ none= .non:=(rfl)
@[simp] theorem Qu1 {t:Int}{w:List Nat}:QbZ (some (t,w))= .tup [.int t, .lst (w.map fun(x:Nat)=> .int x)]:=(rfl)
noncomputable def Qkt (t:Int):Option (Int×List Nat)->Bool
 |none=>true
 |some (u,_)=>decide (t<u)
theorem Qku (t:Int)(o:Option (Int×List Nat)):QaO [.int t,QbZ o]= .ok .fz (.bl (Qkt t o)):=by
 refine QD (QaO [.int t,QbZ o]) rfl ?_
 cases o with
 |none=>simp(disch:=first|omega|rfl) [ev0,QbT,Qkt]
 |some z=>obtain⟨u,w⟩:=z;simp(disch:=first|omega|rfl) [ev0,QbT,Qkt]
noncomputable def Lw (b:Net.B)(K:Nat):Prop:=∀v t w,Net.at_ b v=some (t,w)->w.length<=K
theorem Lw.relax {b:Net.B}{K:Nat}{x:Net.Stp}(h:Lw b K)(hg:x.2.1<b.length):Lw (Net.relax b x) (K+1):=fun v t w e=>by
 rcases Net.relax_at hg v with q|⟨rfl,t',w',e1,q,_⟩
 .rw[q]at e;have:=h v t w e;omega
 .rw[q]at e;cases e;have:=h _ _ _ e1;simp;omega
noncomputable def evW (n:Nat)(steps:List Net.Stp)(h:Nat)(b:Net.B)(l:Ev):Ev:=some (.fz, .int n)::some (.fz, .lst (steps.map stepD))::some (.fz, .int h)::some (.ow, .lst (b.map QbZ))::l
noncomputable def Qp0 (n:Nat)(steps:List Net.Stp)(h:Nat)(x4:Option (Kd×D))(K:Nat)(B:Net.B)(xs:List Net.Stp)(ev:Ev):Prop:=∃b x5 x6 x7 x8,ev=evW n steps h b [x4,x5,x6,x7,x8]/\b.length=n/\Net.lap xs b=B/\Lw B K/\∃K',Lw b K'/\K'+xs.length<=10000
theorem Qog {b:Net.B}{s:Nat}(h:s<b.length):atI (b.map QbZ) (s:Int)=some (QbZ (Net.at_ b s)):=by
 refine QfW ?_
 rw[List.getElem?_map,List.getElem?_eq_getElem h]
 simp[Net.at_,List.getElem?_eq_getElem h]
theorem Qp1 {n:Nat}{steps:List Net.Stp}{h:Nat}{x4 x5 x6 x7 x8:Option (Kd×D)}{K K':Nat}{B b:Net.B}{x:Net.Stp}{xs:List Net.Stp}{r:Ev->Fl}{Q:Fl->Prop}(hb:b.length=n)(hx:x.1<n/\x.2.1<n)(hB:Net.lap (x::xs) b=B)(hK:Lw B K)(hL:Lw b K')(hKx:K'+(x::xs).length<=10000):
  Wp (Q5 (evW n steps h b [x4,some (.fz, .int x.1),some (.fz, .int x.2.1),some (.fz, .int x.2.2),x8])) (Qc0 (Qp0 n steps h x4 K B xs) r Q):=by
 obtain⟨s,g,c⟩:=x
 dsimp only at hx⊢
 have e1:atI (b.map QbZ) (s:Int)=some (QbZ (Net.at_ b s)):=Qog aa
 have e2:atI (b.map QbZ) (g:Int)=some (QbZ (Net.at_ b g)):=Qog aa
 have hB':Net.lap xs (Net.relax b (s,g,c))=B:=hB
 have stay:Net.relax b (s,g,c)=b->Qp0 n steps h x4 K B xs (evW n steps h b [x4,some (.fz, .int s),some (.fz, .int g),some (.fz, .int c),some (.fz,QbZ (Net.at_ b s))]):=fun e=>⟨b,_,_,_,_,rfl,hb,by rw[←hB',e],hK,K',hL,by simp at hKx;omega⟩
 cases q:Net.at_ b s with
 |none=>
  simp(disch:=first|omega|rfl) [Q5,evW,e1,q]
  have:=stay (by simp[Net.relax,q])
  rw[q]at this
  simpa[evW]using this
 |some z=>
  obtain⟨t,w⟩:=z
  have hl:=Qku (t+c) (Net.at_ b g)
  simp(disch:=first|omega|rfl) [Q5,evW,e1,e2,q,hl]
  refine Qjq ?_ ?_<;>intro hq
  .have hw:w.length<=K':=hL _ _ _ q
   have hg':ixN b.length (g:Int)=some g:=Qjp aa
   have hwl:w.length+1<=LIM:=by simp[LIM];simp at hKx;omega
   simp(disch:=first|omega|rfl) [hg',hwl]
   have er:Net.relax b (s,g,c)=b.set g (some (t+c,w++ [g])):=by
    simp only[Net.relax,q]
    cases q2:Net.at_ b g with
    |none=>rfl
    |some z=>obtain⟨u,w'⟩:=z;rw[q2]at hq;simp[Qkt]at hq;simp[hq]
   have es:(b.map QbZ).set g (.tup [.int (t+c), .lst (w.map (fun(x:Nat)=>D.int x)++ [.int g])])=(b.set g (some (t+c,w++ [g]))).map QbZ:=by rw[List.map_set];simp
   rw[es]
   exact⟨_,_,_,_,_,rfl,by simpa using hb,by rw[←hB',er],hK,K'+1,by rw[←er];exact hL.relax (by simpa using(by omega:g<b.length)),by simp at hKx;omega⟩
  .simp(disch:=first|omega|rfl) []
   have er:Net.relax b (s,g,c)=b:=by
    simp only[Net.relax,q]
    cases q2:Net.at_ b g with
    |none=>rw[q2]at hq;simp[Qkt]at hq
    |some z=>obtain⟨u,w'⟩:=z;rw[q2]at hq;simp[Qkt]at hq;simp;omega
   have:=stay er
   rw[q]at this
   simpa[evW]using this
theorem Lw.lap:∀{l:List Net.Stp} {b:Net.B} {K:Nat},Lw b K->(∀x∈l,x.2.1<b.length)->Lw (Net.lap l b) (K+l.length)
 | [],_,_,h,_=>h
 |x::l,b,K,h,hl=>by
  have:=Lw.lap (l:=l) (h.relax (hl x al)) (fun y hy=>by rw[Net.relax_length];exact hl y (by simp[hy]))
  simp only[List.length_cons]
  rwa [show K+(l.length+1)=K+1+l.length by omega]
noncomputable def Qu2 (n:Nat)(steps:List Net.Stp)(h:Nat)(B:Net.B)(ds:List D)(ev:Ev):Prop:=∃b x4 x5 x6 x7 x8,ev=evW n steps h b [x4,x5,x6,x7,x8]/\b.length=n/\Net.laps steps ds.length b=B/\∃K,Lw b K/\K+steps.length*ds.length<=1+steps.length*(n-1)
theorem QdO {n h:Nat}{steps:List Net.Stp}(n1:1<=n)(n8:n<=8)(hh:h<n)(gd:Net.Good n steps)(hl:steps.length<=1000):QE [.int n, .lst (steps.map stepD), .int h]= .ok .ow (.lst ((Net.leastWays n steps h).map QbZ)):=by
 refine QD (QE [.int n, .lst (steps.map stepD), .int h]) rfl ?_
 have hm:mulD (.lst [.non]) (.int n)=some (.ow, .lst (List.replicate n D.non)):=by
  rw[Qjn (by simp[LIM];omega)]
  congr 3
  simp
 have hi:ixN n (h:Int)=some h:=Qjp hh
 simp(disch:=first|omega|rfl) [ev0,Qbs,hm,hi]
 have es:(List.replicate n D.non).set h (.tup [.int 0, .lst [.int h]])=(Net.start n h).map QbZ:=by
  unfold Net.start
  rw[List.map_set,List.map_replicate];rfl
 rw[es]
 refine Qn3 (Qu2 n steps h (Net.leastWays n steps h)) ?_ ?_ ⟨Net.start n h,_,_,_,_,_,rfl,Net.start_length,?_,1,?_,?_⟩
 .rintro d rest _ ⟨b,x4,x5,x6,x7,x8,rfl,hb,hB,K,hK,hKr⟩
  refine⟨_,rfl,?_⟩
  have hlap:Net.laps steps rest.length (Net.lap steps b)=Net.leastWays n steps h:=hB
  have hmul:steps.length*(rest.length+1)=steps.length*rest.length+steps.length:=by rw[Nat.mul_add,Nat.mul_one]
  simp only[List.length_cons]at hKr
  have hbd:steps.length*(n-1)<=7000:=by have:=Nat.mul_le_mul hl (by omega:n-1<=7);omega
  simp(disch:=first|omega|rfl) [QbH,evW]
  refine QdE (Qp0 n steps h (some (.fz,d)) (K+steps.length) (Net.lap steps b)) ?_ ?_ ⟨b,_,_,_,_,rfl,hb,rfl,hK.lap (fun x hx=>by rw[hb];exact gd.g x hx),K,hK,by omega⟩
  .rintro x xs _ ⟨pre,hp⟩ ⟨b',y5,y6,y7,y8,rfl,hb',hB',hK',K2,hL,hK2⟩
   have hx:x∈steps:=by rw[hp];simp
   exact⟨_,rfl,Qp1 (x5:=y5) (x6:=y6) (x7:=y7) hb' ⟨gd.s x hx,gd.g x hx⟩ hB' hK' hL hK2⟩
  .rintro _ ⟨b',y5,y6,y7,y8,rfl,hb',hB',hK',_⟩
   have hB':b'=Net.lap steps b:=hB'
   exact⟨b',_,_,_,_,_,rfl,hb',by rw[hB'];exact hlap,K+steps.length,by rw[hB'];exact hK',by omega⟩
 .rintro _ ⟨b,x4,x5,x6,x7,x8,rfl,hb,hB,_⟩
  have hB:b=Net.leastWays n steps h:=hB
  simp(disch:=first|omega|rfl) [evW,isR,hB]
 .simp[Qai,Net.leastWays]
 .intro v t w e
  rw[Net.start_at hh]at e
  split at e
  .cases e;simp
  .cases e
 .simp[Qai]
noncomputable def Qo (ps:List Path):List Net.Stp:=ps.filterMap fun p=>p.2.2.map fun m=>(p.1,p.2.1,m)
theorem Q3 {n:Nat}{ps:List Path}(ok:NetOk n ps):Net.Good n (Qo ps):=by
 have key:∀x∈Qo ps,∃p∈ps,p.1=x.1/\p.2.1=x.2.1/\p.2.2=some x.2.2:=fun x hx=>by
  obtain⟨p,hp,e⟩:=List.mem_filterMap.1 hx
  cases q:p.2.2 with
  |none=>rw[q]at e;cases e
  |some m=>rw[q]at e;cases e;exact⟨p,hp,rfl,rfl,q⟩
 refine⟨fun x hx=>?_,fun x hx=>?_,fun x hx=>?_⟩<;>obtain⟨p,hp,h1,h2,h3⟩:=key x hx
 .rw[←h1];exact ok.s p hp
 .rw[←h2];exact ok.g p hp
 .have:=ok.m p hp _ h3;omega
theorem Qb0 {ps:List Path}{s g:Nat}{m:Int}:(s,g,m)∈Qo ps↔(s,g,some m)∈ps:=by
 unfold Qo
 rw[List.mem_filterMap]
 constructor
 .rintro⟨⟨s',g',o⟩,hp,e⟩
  cases o with
  |none=>cases e
  |some m'=>cases e;exact hp
 .intro h;exact⟨_,h,rfl⟩
theorem QiW (ps:List Path):(Qo ps).length<=ps.length:=List.length_filterMap_le _ _
theorem QiX (ps:List Path):(ps.filter fun p=>p.2.2.isSome).map QR=(Qo ps).map stepD:=by
 induction ps with
 |nil=>rfl
 |cons p ps ih=>
  obtain⟨s,g,o⟩:=p
  cases o with
  |none=>simpa[Qo]using ih
  |some m=>simp[Qo,QR,stepD,optD]at ih⊢;exact ih
theorem Qg5 {n h:Nat}{ps:List Path}(ok:NetOk n ps)(hl:ps.length<=64)(hh:h<n):QZ [netD n ps, .int h]= .ok .ow (.lst ((Net.leastWays n (Qo ps) h).map QbZ)):=by
 refine QD (QZ [netD n ps, .int h]) rfl ?_
 have hc:=QaZ (b:=Qq 0) (c:=eOp Qb9 (eOp idxD ao aD) aK) (e:=varR 0) (ev:= [none]) (enc:=QR) (l:=ps) (fun p=>p.2.2.isSome) QR (by simp[LIM];omega) (fun p hp=>by
  obtain⟨s,g,o⟩:=p
  refine⟨_,rfl,?_,fun _=>⟨.fz,by simp,by simp⟩⟩
  cases o<;>exact⟨.fz,by simp[QR]⟩)
 rw[QiX]at hc
 have hw:=QdO ok.n1 ok.n8 hh (Q3 ok) (by have:=QiW ps;omega)
 simp(disch:=first|omega|rfl) [ev0,Qbu,netD,hc,hw]
noncomputable def Qgf (n:Nat)(ps:List Path)(h:Nat):List (Option Int):=(Net.leastWays n (Qo ps) h).map (·.map (·.1))
theorem Qg6 {n h:Nat}{ps:List Path}(ok:NetOk n ps)(hl:ps.length<=64)(hh:h<n):Q0 [netD n ps, .int h]= .ok .ow (.lst ((Qgf n ps h).map optD)):=by
 refine QD (Q0 [netD n ps, .int h]) rfl ?_
 have hb:=Qg5 ok hl hh
 have hc:=Qa0 (b:=Qq 0) (e:=eIf (eOp isND ao aK) aK (eOp idxD ao au)) (ev:= [none]) (enc:=QbZ) (l:=Net.leastWays n (Qo ps) h) (fun o=>optD (o.map (·.1))) (by rw[Net.lw_length];have:=ok.n8;simp[LIM];omega) (fun o _=>by
  refine⟨_,rfl, .fz,by simp,?_⟩
  cases o with
  |none=>simp
  |some z=>obtain⟨t,w⟩:=z;simp)
 simp(disch:=first|omega|rfl) [ev0,Qbw,hb,hc]
 simp[Qgf]
theorem Ql5 {n h v:Nat}{ps:List Path}(hv:v<n):(Qgf n ps h)[v]?=some (Net.val (Net.leastWays n (Qo ps) h) v):=by
 have hl:v<(Net.leastWays n (Qo ps) h).length:=by rw[Net.lw_length];exact hv
 simp[Qgf,Net.val,Net.at_,List.getElem?_eq_getElem hl]
theorem Qoh {α:Type}{l:List α}{k:Nat}{c:α}(h:l[k]?=some c):atI l (k:Int)=some c:=by
 have hl:k<l.length:=(List.getElem?_eq_some_iff.mp h).1
 unfold atI ixN
 rw[List.getElem?_eq_getElem hl]at h
 simp[hl];exact Option.some.inj h
noncomputable def tmF (n:Nat)(ps:List Path)(h x:Nat):Option Int:=Net.val (Net.leastWays n (Qo ps) h) x
theorem Qnx {n:Nat}{ps:List Path}{h x:Nat}(hx:x<n):atI ((Qgf n ps h).map optD) (x:Int)=some (optD (tmF n ps h x)):=Qoh (by rw[List.getElem?_map,Ql5 hx];rfl)
section
variable {n last a v:Nat}{ps:List Path}{rs:List Run}{ss:List Sign}
theorem Ql6 (ok:NetOk n ps)(gt:GdT n ps last rs ss){p:List Nat}{s:Int}(w:Net.W (Qo ps) a p s):
  0<=s/\∀v,p.head?=some v->∀t u:Nat,(u:Int)=t+s->u<=last->Hears rs v u a t:=by
 induction w with
 |one=>exact⟨by omega,fun v e t u hu _=>by simp at e;subst e;exact .self aa⟩
 | @more s g p t0 c w hm ih=>
  obtain⟨h0,ih⟩:=ih
  have hp:=Qb0.1 hm
  have hc:=ok.m _ hp c rfl
  refine⟨by omega,fun v e t u hu hul=>?_⟩
  simp at e
  subst e
  obtain⟨l,hl⟩:=Int.eq_ofNat_of_zero_le (show 0<=(t:Int)+t0 by omega)
  have x:=ih s al t l aa aa
  obtain⟨c',hle,hr⟩:=gt.by_ ok hp (l:=l) aa
  exact Hears.trans (Hears.run hr (.self (by dsimp only;omega)) am) x
theorem Qp2 (ok:NetOk n ps)(ha:a<n){s:Int}(e:tmF n ps a v=some s):∃p,p.head?=some v/\Net.W (Qo ps) a p s:=by
 obtain⟨w,e1⟩:=Net.val_some e
 exact⟨_,Net.lw_real (Q3 ok) ha v s w e1⟩
noncomputable def Sr (n:Nat)(ps:List Path)(a l v u:Nat):Prop:=∃m,tmF n ps a v=some m/\(l:Int)+m<=u
theorem Sr.hears (ok:NetOk n ps)(gt:GdT n ps last rs ss){l u:Nat}(ha:a<n)(hu:u<=last)(x:Sr n ps a l v u):Hears rs v u a l:=by
 obtain⟨m,e,hm⟩:=x
 obtain⟨p,hp,w⟩:=Qp2 ok ha e
 obtain⟨h0,hk⟩:=Ql6 ok gt w
 obtain⟨u',hu'⟩:=Int.eq_ofNat_of_zero_le (show 0<=(l:Int)+m by omega)
 exact Hears.trans (.self aa) (hk v hp l u' aa aa)
theorem Sr.self (ok:NetOk n ps)(ha:a<n){l u:Nat}(h:l<=u):Sr n ps a l a u:=⟨0,Net.lw_self (Q3 ok) ha,by omega⟩
theorem tri (ok:NetOk n ps)(ha:a<n){b:Nat}{t:Int}(e:tmF n ps a b=some t){p:List Nat}{s:Int}(w:Net.W (Qo ps) b p s):∃v,p.head?=some v/\∃u,tmF n ps a v=some u/\u<=t+s:=by
 induction w with
 |one=>exact⟨b,rfl,t,e,by omega⟩
 | @more s g p t0 c w hm ih=>
  obtain⟨v,hv,u,hu,hle⟩:=ih
  simp at hv
  subst hv
  obtain⟨u',h1,h2⟩:=Net.lw_tri (Q3 ok) ha hm hu
  exact⟨g,rfl,u',h1,by omega⟩
theorem Sr.trans (ok:NetOk n ps){b l k u:Nat}(ha:a<n)(hb:b<n)(x:Sr n ps a l b k)(y:Sr n ps b k v u):Sr n ps a l v u:=by
 obtain⟨m,e,hm⟩:=x
 obtain⟨m',e',hm'⟩:=y
 obtain⟨p,hp,w⟩:=Qp2 ok hb e'
 obtain⟨v',hv,u',h1,h2⟩:=tri ok ha e w
 rw[hp]at hv;cases hv
 exact⟨u',h1,by omega⟩
theorem Sr.path (ok:NetOk n ps)(ha:a<n){l c:Nat}{m:Int}(hp:(a,v,some m)∈ps)(hc:(c:Int)=l+m):Sr n ps a l v c:=by
 obtain⟨u,h1,h2⟩:=Net.lw_tri (Q3 ok) ha (Qb0.2 hp) (Net.lw_self (Q3 ok) ha)
 exact⟨u,h1,by omega⟩
theorem Sr.early {l l' u:Nat}(h:l'<=l)(x:Sr n ps a l v u):Sr n ps a l' v u:=by
 obtain⟨m,e,hm⟩:=x
 exact⟨m,e,by omega⟩
end
noncomputable def nmS (nm:Str)(ss:List Sign):List Sign:=ss.filter fun x=>decide (x.2.2=nm)
theorem Qfy {nm:Str}{ss:List Sign}{x:Sign}:x∈nmS nm ss↔x∈ss/\x.2.2=nm:=by simp[nmS]
noncomputable def byD:Option Int->D
 |none=> .non
 |some i=> .int i
noncomputable abbrev hsD (hs:List Nat):D:= .lst (hs.map fun(h:Nat)=>D.int h)
noncomputable def QcN (n:Str)(u:Option Int):D:= .obj "Came" ["name","by"] [.str n,byD u]
noncomputable def Qex (hs:List Nat)(t:Nat)(a:D):D:= .obj "Shared" ["houses","turn","inside"] [hsD hs, .int (t:Nat),a]
noncomputable abbrev HsG (n:Nat)(hs:List Nat):Prop:=0<hs.length/\hs.length<=8/\∀h∈hs,h<n
theorem eqW {x y:Str}(hx:PyData.strOk x=true)(hy:PyData.strOk y=true):eqD (.str x) (.str y)=some (.fz, .bl (decide (x=y))):=by
 rw[QhB (by simp only[pl];exact hx) (by simp only[pl];exact hy)]
 congr 3
 rw[Bool.eq_iff_iff,decide_eq_true_iff,decide_eq_true_iff];simp
section
variable {n last:Nat}{ps:List Path}{rs:List Run}{ss:List Sign}
theorem fCn {a b:D}{k:Kd}:fldR ["Came"] "name" (.ok k (.obj "Came" ["name","by"] [a,b]))= .ok .fz a:=QhG aj (by rfl)
theorem fCb {a b:D}{k:Kd}:fldR ["Came"] "by" (.ok k (.obj "Came" ["name","by"] [a,b]))= .ok .fz b:=QhG aj (by rfl)
theorem fSh {a b c:D}{k:Kd}:fldR ["Shared"] "houses" (.ok k (.obj "Shared" ["houses","turn","inside"] [a,b,c]))= .ok .fz a:=QhG aj (by rfl)
theorem fSt {a b c:D}{k:Kd}:fldR ["Shared"] "turn" (.ok k (.obj "Shared" ["houses","turn","inside"] [a,b,c]))= .ok .fz b:=QhG aj (by rfl)
theorem fSi {a b c:D}{k:Kd}:fldR ["Shared"] "inside" (.ok k (.obj "Shared" ["houses","turn","inside"] [a,b,c]))= .ok .fz c:=QhG aj (by rfl)
noncomputable def QfF (nm:Str)(ss:List Sign):D:=if nmS nm ss= []then .tup [.str (Str.ofString "no"), .str nm]else .non
noncomputable def Qu3 (N t:D)(nm:Str)(last:Nat)(rs:List Run)(ss:List Sign)(xs:List Sign)(ev:Ev):Prop:=∃pre x2 x3 x4,ev= [some (.fz,t),some (.fz,N),some (.fz,Qv last rs ss),x2,x3,x4]/\ss=pre++xs/\nmS nm pre= []
theorem Qkv (hs:∀x∈ss,PyData.strOk x.2.2=true){nm:Str}(hn:PyData.strOk nm=true){t:MTab}{N:D}:runF 3 (QN t) [QcN nm none,N,Qv last rs ss]= .ok .fz (QfF nm ss):=by
 refine QD (runF 3 (QN t) [QcN nm none,N,Qv last rs ss]) rfl ?_
 have e1:∀k,fldR ["Came"] "name" (.ok k (QcN nm none))= .ok .fz (.str nm):=fun _=>fCn
 have e2:∀k,fldR ["Came"] "by" (.ok k (QcN nm none))= .ok .fz .non:=fun _=>fCb
 generalize ht:QcN nm none=o at *
 simp(disch:=first|omega|rfl) [ev0,QN,Qef]
 refine QaA (Qu3 N o nm last rs ss) ?_ ?_ ⟨[],_,_,_,rfl,rfl,rfl⟩
 .rintro x xs _ ⟨pre0,hp0⟩ ⟨pre,x2,x3,x4,rfl,hp,hc⟩
  have hx:x∈ss:=by rw[hp];simp
  have hq:=eqW (hs x hx) hn
  refine⟨_,rfl,?_⟩
  by_cases c:x.2.2=nm
  .have hit:QfF nm ss= .non:=if_neg (List.ne_nil_of_mem (Qfy.2 ⟨hx,c⟩))
   have hq:eqD (.str x.2.2) (.str nm)=some (.fz, .bl true):=by rw[hq];simp[c]
   simp(disch:=first|omega|rfl) [QaD,QI,e1,e2,hq,hit]
  .have hq:eqD (.str x.2.2) (.str nm)=some (.fz, .bl false):=by rw[hq];simp[c]
   simp(disch:=first|omega|rfl) [QaD,QI,e1,e2,hq]
   exact⟨pre++ [x],_,_,_,rfl,by rw[hp];simp,by unfold nmS at hc⊢;rw[List.filter_append,hc];simp[c]⟩
 .rintro _ ⟨pre,x2,x3,x4,rfl,hp,hc⟩
  simp at hp
  subst hp
  simp(disch:=first|omega|rfl) [QbJ,e1,QfF,hc]
theorem lkC {n:Nat}:(Qu (n+1)).lookup (Str.ofString "Came")=some (runF 3 (QN (Qu n))):=by rfl
theorem lkS {n:Nat}:(Qu (n+1)).lookup (Str.ofString "Shared")=some (runF 2 (Qw (Qu n))):=by rfl
theorem Qny {m:Nat}(hs:∀x∈ss,PyData.strOk x.2.2=true){nm:Str}(hn:PyData.strOk nm=true){N:D}:QcZ "doubt" 3 (Qu (m+1)) (.ok .fz (QcN nm none)) (.ok [(.fz,N),(.fz,Qv last rs ss)])= .ok .fz (QfF nm ss):=by
 have e:=Qkv (last:=last) (rs:=rs) hs hn (t:=Qu m) (N:=N)
 show QcZ "doubt" 3 (Qu (m+1)) (.ok .fz (.obj "Came" _ _)) _=_
 rw[QiA aj lkC]
 simp(disch:=first|omega|rfl) []
 unfold QcN at e
 rw[e]
 unfold QfF
 split<;>rfl
end
section
variable {n t last:Nat}{ps:List Path}{rs R:List Run}{ss S:List Sign}{hs:List Nat}
theorem Qp3 (ok:NetOk n ps)(hl:last<=24)(ht:t<=last)(hn:∀h∈hs,h<n)(gd:GdT n ps last R S)(fx:∀h∈hs,Fx n ps last t R S h){r:Run}(hr:r∈R):(∀h∈hs,Hears R h t r.2.1 r.2.2.2)\/QpW ps r:=by
 by_cases c:∀h∈hs,Hears R h t r.2.1 r.2.2.2
 .exact .inl c
 .obtain⟨h,hc⟩:=Classical.not_forall.1 c
  obtain⟨hm,nh⟩:=Classical.not_imp.1 hc
  obtain⟨E,eo⟩:=gd.ends ok hl ht (hn h hm)
  have hg:=(gd.all ok r hr).2.1
  have hr':r∈QA ps last E R:=by rw[(fx h hm E eo).1];exact hr
  rcases(Qx fun p hp m e=>(ok.m p hp m e).1).1 hr' with⟨_,h2⟩|⟨m,hp,e1,_⟩
  .exact absurd ((Qgd eo hg).1 h2) nh
  .exact .inr ⟨m,hp,e1⟩
theorem Qu4 (ok:NetOk n ps)(hl:last<=24)(ht:t<=last)(hn:∀h∈hs,h<n)(gd:GdT n ps last R S)(fx:∀h∈hs,Fx n ps last t R S h){h v u:Nat}(hh:h<n)(y:Hears R h t v u):
  (∃r∈R,u<r.2.2.2/\(∀h'∈hs,Hears R h' t r.2.1 r.2.2.2)/\Hears R r.2.1 r.2.2.2 v u)\/Sr n ps v u h t:=by
 induction y with
 |self h1=>exact .inr (Sr.self ok hh h1)
 | @run r u h1 h2 h3 ih=>
  have q:=gd.all ok r h1
  rcases ih with⟨r',a1,a2,a3,a4⟩|s
  .exact .inl ⟨r',a1,by omega,a3, .run h1 a4 h3⟩
  .rcases Qp3 ok hl ht hn gd fx h1 with z|⟨m,hp,e⟩
   .exact .inl ⟨r,h1,by omega,z, .run h1 (.self am) h3⟩
   .exact .inr (((Sr.path ok q.1 hp e).trans ok q.1 q.2.1 s).early h3)
theorem QjN (ok:NetOk n ps)(hl:last<=24)(ht:t<=last)(hn:∀h∈hs,h<n)(h0:0<hs.length)(gd:GdT n ps last R S)(fx:∀h∈hs,Fx n ps last t R S h){x:Sign}:∀(k v s:Nat),t+1-s<=k->v<n->Hears R v s x.1 x.2.1->(∀h∈hs,Hears R h t v s)->∃v s,v<n/\(∀h∈hs,Sr n ps v s h t)/\Hears R v s x.1 x.2.1
 |k,v,s,hk,hv,hx,ha=>by
  obtain⟨h1,m1⟩:=List.exists_mem_of_length_pos h0
  have st:s<=t:=(ha h1 m1).le_t fun r hr=>(gd.all ok r hr).2.2.1
  by_cases c:∀h∈hs,Sr n ps v s h t
  .exact⟨v,s,hv,c,hx⟩
  .obtain⟨h,hc⟩:=Classical.not_forall.1 c
   obtain⟨hm,nh⟩:=Classical.not_imp.1 hc
   rcases Qu4 ok hl ht hn gd fx (hn h hm) (ha h hm)with⟨r,a1,a2,a3,a4⟩|z
   .cases k with
    |zero=>omega
    |succ k=>exact QjN ok hl ht hn h0 gd fx k r.2.1 r.2.2.2 aa (gd.all ok r a1).2.1 (a4.trans hx) a3
   .exact absurd z nh
noncomputable def Hb (n:Nat)(ps:List Path)(rs:List Run)(A:List Sign)(t:Nat)(hs:List Nat):Prop:=∃v s x,v<n/\(∀h∈hs,Sr n ps v s h t)/\x∈A/\Hears rs v s x.1 x.2.1
theorem Qsr (ok:NetOk n ps)(hps:ps.length<=64)(hl:last<=24)(ht:t<=last)(o:0<hs.length/\hs.length<=8/\∀h∈hs,h<n)(g:GdT n ps last rs ss)(cm:Cm n ps last t rs ss hs R S){v s:Nat}{x:Sign}(hv:v<n)(sr:∀h∈hs,Sr n ps v s h t)(hx:x∈ss)(hr:Hears rs v s x.1 x.2.1):x∈S:=by
 obtain⟨St,R',S',e1,cm',q⟩:=Qh1 (Q:=fun _ R S=>x∈S/\Hears R v s x.1 x.2.1) ⟨srtS_perm.mem_iff.2 hx,hr.sub fun r hr=>srtR_perm.mem_iff.2 hr⟩ (fun St R S h E q gd st hm eo=>
  ⟨Qak.2 ⟨q.1,(QjL eo (gd.sh x q.1)).2 (((sr h hm).hears ok gd hv ht).trans q.2)⟩,QlZ ok gd eo ((sr h hm).hears ok gd hv ht) q.2⟩) (Qob (n:=n) (ps:=ps)) (Ql2 (last:=last) (rs:=rs) (ss:=ss)) (Qsp (hs:=hs)) ok hps hl ht o.2.2 o.1 o.2.1 g
 obtain⟨rfl,rfl⟩:=cm'.uniq cm fun _=> .rfl
 exact q.1
theorem Qp4 (ok:NetOk n ps)(hl:last<=24)(ht:t<=last)(o:0<hs.length/\hs.length<=8/\∀h∈hs,h<n)(cm:Cm n ps last t rs ss hs R S){x:Sign}(hx:x∈S):∃v s,v<n/\(∀h∈hs,Sr n ps v s h t)/\Hears rs v s x.1 x.2.1:=by
 obtain⟨v,s,hv,sr,z⟩:=QjN ok hl ht o.2.2 o.1 cm.gd cm.fx (x:=x) (t+1) x.1 x.2.1 aa (cm.gd.sh x hx) (.self am) fun h hm=>by
  obtain⟨E,eo⟩:=cm.gd.ends ok hl ht (o.2.2 h hm)
  have hx':x∈Qr E S:=by rw[(cm.fx h hm E eo).2];exact hx
  exact(QjL eo (cm.gd.sh x hx)).1 (Qak.1 hx').2
 exact⟨v,s,hv,sr,cm.le.hears z⟩
theorem Qss (ok:NetOk n ps)(hps:ps.length<=64)(hl:last<=24)(ht:t<=last)(o:0<hs.length/\hs.length<=8/\∀h∈hs,h<n)(g:GdT n ps last rs ss)(cm:Cm n ps last t rs ss hs R S){nm:Str}:(∃x∈S,x.2.2=nm)↔Hb n ps rs (nmS nm ss) t hs:=by
 constructor
 .rintro⟨x,hx,e⟩
  obtain⟨v,s,hv,sr,z⟩:=Qp4 ok hl ht o cm hx
  exact⟨v,s,x,hv,sr,Qfy.2 ⟨cm.le.s x hx,e⟩,z⟩
 .rintro⟨v,s,x,hv,sr,hx,z⟩
  obtain⟨h1,e⟩:=Qfy.1 hx
  exact⟨x,Qsr ok hps hl ht o g cm hv sr h1 z,e⟩
end
section
variable {n t last:Nat}{ps:List Path}{rs:List Run}{ss:List Sign}{hs:List Nat}{nm:Str}
theorem Qp5:∀(l:List Int) (m k:Int),maxL m l<=k↔m<=k/\∀x∈l,x<=k:=fun l m k=>by
 obtain⟨h1,h2⟩:=Qgw l m
 constructor
 .exact fun h=>⟨by omega,fun x hx=>by have:=h2 x hx;omega⟩
 .rintro⟨a,b⟩
  rcases Qgx l m with e|e
  .omega
  .exact b _ e
theorem Qg7 {α:Type}:∀{l:List (Option α)},none∉l->∃vs:List α,l=vs.map some
 | [],_=>⟨[],rfl⟩
 |none::l,h=>absurd al h
 |some v::l,h=>by
  obtain⟨vs,e⟩:=Qg7 (l:=l) fun z=>h (by simp[z])
  exact⟨v::vs,by rw[e];rfl⟩
structure SrO (n:Nat)(ps:List Path)(h:Nat)(hs:List Nat)(o:Option Int):Prop where
 iff:∀s t:Nat,(∃m,o=some m/\(s:Int)+m<=t)↔∀x∈hs,Sr n ps h s x t
 nn:∀m,o=some m->0<=m
theorem Qu5 (ok:NetOk n ps){a v:Nat}(ha:a<n){m:Int}(e:tmF n ps a v=some m):0<=m:=by
 obtain⟨p,hp,w⟩:=Qp2 ok ha e
 clear e hp
 induction w with
 |one=>omega
 | @more s g p t0 c w hm ih=>
  have:=(ok.m _ (Qb0.1 hm) c rfl).1
  omega
theorem QjO {h:Nat}(q:none∈hs.map (tmF n ps h)):SrO n ps h hs none:=⟨fun s t=>⟨fun⟨m,e,_⟩=>(by cases e),fun z=>by
 obtain⟨x,hx,e⟩:=List.mem_map.1 q
 obtain⟨m,e',_⟩:=z x hx
 rw[e]at e';cases e'⟩,fun m e=>(by cases e)⟩
theorem QjP {h:Nat}{v:Int}{vs:List Int}(ok:NetOk n ps)(hh:h<n)(e:hs.map (tmF n ps h)=(v::vs).map some):SrO n ps h hs (some (maxL v vs)):=by
 refine⟨fun s t=>?_,fun m em=>?_⟩
 .have key:(∀x∈hs,Sr n ps h s x t)↔∀m∈v::vs,(s:Int)+m<=t:=by
   constructor
   .intro z m hm
    have:some m∈hs.map (tmF n ps h):=by rw[e];exact List.mem_map.2 ⟨m,hm,rfl⟩
    obtain⟨x,hx,ex⟩:=List.mem_map.1 this
    obtain⟨m',e',h'⟩:=z x hx
    rw[ex]at e';cases e';exact h'
   .intro z x hx
    have:tmF n ps h x∈(v::vs).map some:=by rw[←e];exact List.mem_map.2 ⟨x,hx,rfl⟩
    obtain⟨m,hm,em⟩:=List.mem_map.1 this
    exact⟨m,em.symm,z m hm⟩
  rw[key]
  have:=Qp5 vs v ((t:Int)-s)
  constructor
  .rintro⟨m,em,hle⟩
   cases em
   obtain⟨a,b⟩:=this.1 aa
   intro m hm
   rcases List.mem_cons.1 hm with rfl|hm
   .omega
   .have:=b m hm;omega
  .intro z
   have:=this.2 ⟨by have:=z v al;omega,fun x hx=>by have:=z x (by simp[hx]);omega⟩
   exact⟨_,rfl,by omega⟩
 .cases em
  have:some v∈hs.map (tmF n ps h):=by rw[e];simp
  obtain⟨x,hx,ex⟩:=List.mem_map.1 this
  have:=Qu5 ok hh ex
  have:=(Qgw vs v).1
  omega
theorem SrO.uniq {h:Nat}{o1 o2:Option Int}(a:SrO n ps h hs o1)(b:SrO n ps h hs o2):o1=o2:=by
 have go:∀{o1 o2:Option Int},SrO n ps h hs o1->SrO n ps h hs o2->∀m,o1=some m->∃k,o2=some k/\k<=m:=fun{o1 o2} a b m e=>by
  have hm:=a.nn m e
  obtain⟨k,e2,h2⟩:=(b.iff 0 m.toNat).2 ((a.iff 0 m.toNat).1 ⟨m,e,by omega⟩)
  exact⟨k,e2,by omega⟩
 cases o1 with
 |none=>cases o2 with
  |none=>rfl
  |some k=>obtain⟨_,e,_⟩:=go b a k rfl;cases e
 |some m=>
  obtain⟨k,rfl,h1⟩:=go a b m rfl
  obtain⟨m',e,h2⟩:=go b a k rfl
  cases e
  rw[Int.le_antisymm h1 h2]
theorem Qh2 {h:Nat}(ok:NetOk n ps)(hp:ps.length<=64)(hh:h<n)(o:0<hs.length/\hs.length<=8/\∀h∈hs,h<n):∃r,QaB [netD n ps, .int h,hsD hs]= .ok .fz (optD r)/\SrO n ps h hs r:=by
 have ht:=Qg6 (h:=h) ok hp hh
 have hc:=Qa0 (b:=Qq 1) (e:=eOp idxD ao av) (ev:= [some (.fz, .lst ((Qgf n ps h).map optD)),none]) (enc:=fun(h:Nat)=>D.int h) (l:=hs) (fun x=>optD (tmF n ps h x)) (by have:=o.2.1;simp[LIM];omega) (fun x hm=>by
  refine⟨_,rfl, .fz,by simp,?_⟩
  have e2:=Qnx (ps:=ps) (h:=h) (o.2.2 x hm)
  simp[e2])
 have hm:hs.map (fun x=>optD (tmF n ps h x))=(hs.map (tmF n ps h)).map optD:=by simp
 rw[hm]at hc
 have hpl:=Qe4 (QpM (hs.map (tmF n ps h)))
 have hin:inD .non (.lst ((hs.map (tmF n ps h)).map optD))=some (.fz, .bl (decide (none∈hs.map (tmF n ps h)))):=by
  rw[Qr5 (b:= .lst ((hs.map (tmF n ps h)).map optD)) rfl (by simp[pl]) hpl]
  congr 3
  rw[decide_eq_decide,List.mem_map]
  constructor
  .rintro⟨o,ho,e⟩
   cases o with
   |none=>exact ho
   |some v=>cases e
  .intro h;exact⟨none,h,rfl⟩
 by_cases q:none∈hs.map (tmF n ps h)
 .refine⟨none,?_,QjO q⟩
  .refine QD (QaB [netD n ps, .int h,hsD hs]) rfl ?_
   have q2:decide (none∈hs.map (tmF n ps h))=true:=decide_eq_true q
   rw[q2]at hin
   generalize (hs.map (tmF n ps h)).map optD=W at hc hin
   simp(disch:=first|omega|rfl) [ev0,QcI,ht,hc,hin]
 .obtain⟨vs,e⟩:=Qg7 q
  cases vs with
  |nil=>
   have q1:hs.length=0:=by simpa using congrArg List.length e
   have q2:=o.1
   omega
  |cons v vs=>
   refine⟨some (maxL v vs),?_,QjP ok hh e⟩
   .refine QD (QaB [netD n ps, .int h,hsD hs]) rfl ?_
    have q2:decide (none∈hs.map (tmF n ps h))=false:=decide_eq_false q
    rw[q2]at hin
    have e3:(hs.map (tmF n ps h)).map optD=(v::vs).map D.int:=by rw[e];simp
    rw[e3]at hin hc
    have e4:=Qly (n:=v) (l:=vs)
    simp only[List.map_cons]at hin hc e4
    simp(disch:=first|omega|rfl) [ev0,QcI,ht,hc,hin,e4]
end
section
variable {n t last:Nat}{ps:List Path}{hs:List Nat}{rs:List Run}{ss:List Sign}{E:List Int}
theorem Ql7:QA ps last E (srtR rs)=QA ps last E rs:=by
 unfold QA
 rw[QgZ ((srtR_perm (l:=rs)).filter (hR E))]
theorem Qkw:Qr E (srtS ss)=Qr E ss:=by
 unfold Qr
 rw[Qg0 ((srtS_perm (l:=ss)).filter (hS E))]
noncomputable abbrev Stp:=Nat×List Run×List Sign
noncomputable def stD (last:Nat)(x:Stp):D:= .tup [.int (x.1:Nat),Qv last x.2.1 x.2.2]
noncomputable def ChS (n:Nat)(ps:List Path)(last t:Nat)(hs:List Nat):List Run->List Sign->List Stp->List Run->List Sign->Prop
 |R,S,[],R',S'=>R'=R/\S'=S
 |R,S,x::L,R',S'=>x.1∈hs/\GdT n ps last R S/\(∃E,EndsOk R n x.1 t E/\x.2.1=QA ps last E R/\x.2.2=Qr E S)/\ChS n ps last t hs x.2.1 x.2.2 L R' S'
theorem ChS.snoc {h:Nat}{R':List Run}{S':List Sign}(hm:h∈hs)(g:GdT n ps last R' S')(eo:EndsOk R' n h t E):∀{L:List Stp} {R:List Run} {S:List Sign},ChS n ps last t hs R S L R' S'->ChS n ps last t hs R S (L++ [(h,QA ps last E R',Qr E S')]) (QA ps last E R') (Qr E S')
 | [],_,_,⟨e1,e2⟩=>by subst e1;subst e2;exact⟨hm,g,⟨E,eo,rfl,rfl⟩,rfl,rfl⟩
 |_::_,_,_,⟨a,b,c,d⟩=>⟨a,b,c,d.snoc hm g eo⟩
theorem ChS.unsrt {R':List Run}{S':List Sign}{x:Stp}{L:List Stp}(g:GdT n ps last rs ss)(c:ChS n ps last t hs (srtR rs) (srtS ss) (x::L) R' S'):ChS n ps last t hs rs ss (x::L) R' S':=by
 obtain⟨a,b,⟨E,eo,e1,e2⟩,d⟩:=c
 exact⟨a,g,⟨E,⟨eo.len,eo.low,fun v u hv=>(eo.iff v u hv).trans ⟨fun z=>z.sub fun r hr=>srtR_perm.mem_iff.1 hr,fun z=>z.sub fun r hr=>srtR_perm.mem_iff.2 hr⟩⟩,by rw[e1,Ql7],by rw[e2,Qkw]⟩,d⟩
noncomputable def ShD (n:Nat)(ps:List Path)(last t:Nat)(hs:List Nat)(nm:Str)(rs:List Run)(ss:List Sign)(d:D):Prop:=(Hb n ps rs (nmS nm ss) t hs/\d= .non)\/(¬Hb n ps rs (nmS nm ss) t hs/\∃L R S,d= .tup [.str (Str.ofString "row"), .lst (L.map (stD last)), .tup [.str (Str.ofString "no"), .str nm]]/\ChS n ps last t hs rs ss L R S/\nmS nm S= [])
theorem Qst {nm:Str}(ok:NetOk n ps)(hps:ps.length<=64)(hl:last<=24)(ht:t<=last)(o:HsG n hs)(g:GdT n ps last rs ss)(hn:PyData.strOk nm=true):
  ∃d,QcZ "doubt" 3 (Qu 12) (.ok .fz (Qex hs t (QcN nm none))) (.ok [(.fz,netD n ps),(.fz,Qv last rs ss)])= .ok .fz d/\ShD n ps last t hs nm rs ss d:=by
 obtain⟨St,R,S,e1,cm,se,L,el,ch⟩:=Qh1 (Q:=fun St R S=>StE (Qv last (srtR rs) (srtS ss)) St (Qv last R S)/\∃L:List Stp,St=L.map (stD last)/\ChS n ps last t hs (srtR rs) (srtS ss) L R S) ⟨.inl ⟨rfl,rfl⟩,[],rfl,rfl,rfl⟩ (fun St R S h E q gd st hm eo=>by
  obtain⟨_,L,el,ch⟩:=q
  exact⟨.inr ⟨St,h,rfl⟩,L++ [(h,QA ps last E R,Qr E S)],by rw[el,List.map_append];rfl,ch.snoc hm gd eo⟩) (Qob (n:=n) (ps:=ps)) (Ql2 (last:=last) (rs:=rs) (ss:=ss)) (Qsp (hs:=hs)) ok hps hl ht o.2.2 o.1 o.2.1 g
 have hb:=Qss ok hps hl ht o g cm (nm:=nm)
 have nb:nmS nm S= []↔¬Hb n ps rs (nmS nm ss) t hs:=by
  rw[←hb]
  constructor
  .rintro e ⟨x,hx,en⟩
   have:=Qfy.2 ⟨hx,en⟩
   rw[e]at this;cases this
  .intro h
   cases q:nmS nm S with
   |nil=>rfl
   |cons x l=>exact absurd ⟨x,Qfy.1 (show x∈nmS nm S by rw[q];simp)⟩ h
 have ti:∃rs' ss' L',GdT n ps last rs' ss'/\St=L'.map (stD last)/\ChS n ps last t hs rs ss L' rs' ss'/\StE (Qv last rs ss) St (Qv last rs' ss')/\(nmS nm ss'= []↔nmS nm S= []):=by
  cases L with
  |nil=>
   obtain⟨rfl,rfl⟩:=ch
   refine⟨rs,ss,[],g,el,⟨rfl,rfl⟩, .inl ⟨el,rfl⟩,?_⟩
   have hp:(nmS nm (srtS ss)).Perm (nmS nm ss):=(srtS_perm (l:=ss)).filter _
   constructor
   .intro e;rw[e]at hp;exact hp.eq_nil
   .intro e;rw[e]at hp;exact hp.symm.eq_nil
  |cons x L=>
   refine⟨R,S,x::L,cm.gd,el,ch.unsrt g,?_, .rfl⟩
   rcases se with⟨e,_⟩|⟨P,h,e⟩
   .rw[el]at e;cases e
   .exact .inr ⟨P,h,e⟩
 obtain⟨rs',ss',L',g',el',ch',se',hi⟩:=ti
 have en:=Qsq se'
 have ha:=Qny (m:=10) (last:=last) (rs:=rs') g'.snm hn (N:=netD n ps)
 have run:∀d,(QfF nm ss'= .non/\d= .non)\/((∃l,QfF nm ss'= .tup l)/\d= .tup [.str (Str.ofString "row"), .lst St,QfF nm ss'])->QcZ "doubt" 3 (Qu 12) (.ok .fz (Qex hs t (QcN nm none))) (.ok [(.fz,netD n ps),(.fz,Qv last rs ss)])= .ok .fz d:=fun d hd=>by
  have e:runF 2 (Qw (Qu 11)) [Qex hs t (QcN nm none),netD n ps,Qv last rs ss]= .ok .fz d:=by
   simp only[Qex]
   refine QD (runF 2 (Qw (Qu 11)) _) rfl ?_
   rcases hd with⟨e,rfl⟩|⟨⟨l,e⟩,rfl⟩
   .rw[e]at ha
    simp(disch:=first|omega|rfl) [ev0,Qw,fSh,fSt,fSi,e1,en,ha]
   .rw[e]at ha⊢
    simp(disch:=first|omega|rfl) [ev0,Qw,fSh,fSt,fSi,e1,en,ha]
  show QcZ "doubt" 3 (Qu (11+1)) (.ok .fz (.obj "Shared" _ _)) _=_
  rw[QiA aj lkS]
  simp(disch:=first|omega|rfl) []
  unfold Qex at e
  rw[e];rfl
 by_cases c:nmS nm ss'= []
 .have e:QfF nm ss'= .tup [.str (Str.ofString "no"), .str nm]:=if_pos c
  refine⟨_,run _ (.inr ⟨⟨_,e⟩,rfl⟩), .inr ⟨nb.1 (hi.1 c),L',rs',ss',by rw[e,el'],ch',c⟩⟩
 .have e:QfF nm ss'= .non:=if_neg c
  exact⟨.non,run _ (.inl ⟨e,rfl⟩), .inl ⟨Classical.byContradiction fun z=>c (hi.2 (nb.2 z)),rfl⟩⟩
end
section
variable {n t last:Nat}{ps:List Path}{hs:List Nat}{rs:List Run}{ss:List Sign}{E:List Int}
theorem lhS:(Qax).lookup (Str.ofString "Shared")=some Qt:=by rfl
theorem Ql8 {o N T d:D}(h:QcZ "doubt" 3 (Qu 12) (.ok .fz o) (.ok [(.fz,N),(.fz,T)])= .ok .fz d){b:Bool}(hb:isND d .non=some (.fz, .bl b)):Qt [o,N,T]= .ok .fz (.bl b):=by
 refine QD (Qt [o,N,T]) rfl ?_
 simp(disch:=first|omega|rfl) [ev0,Qaw,h,hb]
theorem Qoi {nm:Str}(ok:NetOk n ps)(hps:ps.length<=64)(hl:last<=24)(ht:t<=last)(o:HsG n hs)(g:GdT n ps last rs ss)(hn:PyData.strOk nm=true):
  ∃z:Bool,QcZ "holds" 3 Qax (.ok .fz (Qex hs t (QcN nm none))) (.ok [(.fz,netD n ps),(.fz,Qv last rs ss)])= .ok .fz (.bl z)/\(z=true↔Hb n ps rs (nmS nm ss) t hs):=by
 obtain⟨d,e,v⟩:=Qst ok hps hl ht o g hn
 have key:∀b:Bool,isND d .non=some (.fz, .bl b)->QcZ "holds" 3 Qax (.ok .fz (Qex hs t (QcN nm none))) (.ok [(.fz,netD n ps),(.fz,Qv last rs ss)])= .ok .fz (.bl b):=fun b hb=>by
  have e:=Ql8 e hb
  simp only[Qex]at e⊢
  rw[QiA aj lhS]
  simp(disch:=first|omega|rfl) [e]
 rcases v with⟨h,rfl⟩|⟨h,L,R,S,rfl,_⟩
 .exact⟨true,key true rfl,by simp[h]⟩
 .exact⟨false,key false rfl,by simp[h]⟩
end
noncomputable def pw8 (h:Nat):Int:= [1,2,4,8,16,32,64,128].getD h 1
noncomputable def lot1 (n:Nat)(m:Int):List Nat:=(List.range n).filter fun h=>decide (m/pw8 h %2=1)
noncomputable def natD (x:Nat):D:= .int x
noncomputable def lotF (n:Nat)(m:Int):List Nat:=
 let l:=if lot1 n m= []then [(m/256 %n).toNat]else lot1 n m
 if m/2048 %2=0 then l else l.reverse
theorem Qp6 {n:Nat}{m:Int}(n1:1<=n):∀x∈lotF n m,x<n:=by
 have h1:∀x∈(if lot1 n m= []then [(m/256 %n).toNat]else lot1 n m),x<n:=fun x hx=>by
  split at hx
  .simp at hx;subst hx
   have:=Int.emod_lt_of_pos (m/256) (show(0:Int)<n by omega)
   have:=Int.emod_nonneg (m/256) (show(n:Int)≠0 by omega)
   omega
  .have:=List.mem_filter.1 hx;simpa using this.1
 intro x hx
 unfold lotF at hx
 dsimp only at hx
 split at hx
 .exact h1 x hx
 .exact h1 x (List.mem_reverse.1 hx)
theorem Qp7 {n:Nat}{m:Int}:lotF n m≠ []:=by
 unfold lotF
 dsimp only
 split<;>split<;>simp_all
theorem Qnz {n:Nat}{m:Int}(n1:1<=n):(lotF n m).length<=n:=by
 unfold lotF lot1
 dsimp only
 have h1:=List.length_filter_le (fun h=>decide (m/pw8 h %2=1)) (List.range n)
 simp only[List.length_range]at h1
 split<;>split<;>simp<;>omega
theorem Qp8 (l:List Nat):plL 59 (l.map natD)=true:=Qcl.2 fun d hd=>by
 obtain⟨x,hx,rfl⟩:=List.mem_map.1 hd
 simp[natD,pl]
theorem Qsu {h:Nat}(h8:h<8):∃p:Int,atI ([1,2,4,8,16,32,64,128].map D.int) (h:Int)=some (.int p)/\p=pw8 h/\0<p/\p<1000:=by
 match h,h8 with
 |0,_=>exact⟨1,rfl,rfl,by decide,by decide⟩
 |1,_=>exact⟨2,rfl,rfl,by decide,by decide⟩
 |2,_=>exact⟨4,rfl,rfl,by decide,by decide⟩
 |3,_=>exact⟨8,rfl,rfl,by decide,by decide⟩
 |4,_=>exact⟨16,rfl,rfl,by decide,by decide⟩
 |5,_=>exact⟨32,rfl,rfl,by decide,by decide⟩
 |6,_=>exact⟨64,rfl,rfl,by decide,by decide⟩
 |7,_=>exact⟨128,rfl,rfl,by decide,by decide⟩
theorem Qsv {n:Nat}{m:Int}(n1:1<=n)(n8:n<=8):QcF [.int n, .int m]= .ok .ow (.lst ((lotF n m).map natD)):=by
 refine QD (QcF [.int n, .int m]) rfl ?_
 have hc:=QaZ (b:=Qq 1) (c:=eOp eqD (eOp modD (eOp QaX ao (eOp idxD (eLst (Qc ak (Qc aD (Qc (conR (.int 4)) (Qc (conR (.int 8)) (Qc (conR (.int 16)) (Qc (conR (.int 32)) (Qc (conR (.int 64)) (Qc (conR (.int 128)) aNil))))))))) av)) aD) ak) (e:=varR 1) (ev:= [some (.fz, .int m),none]) (enc:=fun(i:Nat)=>D.int (0+i)) (l:=List.range n) (fun h=>decide (m/pw8 h %2=1)) natD (by simp[LIM];omega) (fun h hh=>by
  have hh:h<n:=by simpa using hh
  obtain⟨p,e1,e2,e3,e4⟩:=Qsu (h:=h) aa
  have e1:atI [D.int 1, .int 2, .int 4, .int 8, .int 16, .int 32, .int 64, .int 128] (h:Int)=some (.int p):=e1
  have e5:eqD (.int (m/p %2)) (.int 1)=some (.fz, .bl (decide (m/p %2=1))):=by
   rw[QhB (by simp[pl]) (by simp[pl])];simp
  refine⟨_,rfl,⟨.fz,?_⟩,fun _=>⟨.fz,by simp,by simp[natD]⟩⟩
  have e6:0<p/\p<2^200:=⟨e3,by omega⟩
  simp[e1,Qm9 e6,e5]
  rw[e2])
 have hc:Qet (Qq 1) _ _ _ (.ok (Qai 0 n))=_:=hc
 have e0:eqD (.lst ((lot1 n m).map natD)) (.lst [])=some (.fz, .bl (decide (lot1 n m= []))):=by
  rw[QhB (by simp only[pl];exact Qp8 _) (by simp[pl,plL])];simp
 have hr:rngW (.ok [(.fz, .int (n:Int))])= .ok (Qai 0 n):=by simp[Qiw (j:=n) (k:= .fz) aa]
 have hr:rngW (.ok [(.fz, .int (n:Int))])= .ok (Qai 0 n):=by simp[Qiw (j:=n) (k:= .fz) aa]
 have hm0:m/2048 %2=0\/m/2048 %2=1:=by omega
 have e0':eqD (.lst (((List.range n).filter fun h=>decide (m/pw8 h %2=1)).map natD)) (.lst [])=some (.fz, .bl (decide (lot1 n m= []))):=e0
 have hn0:(0:Int)<n:=by omega
 have fin:∀l:List Nat,(if m/2048 %2=0 then l else l.reverse)=lotF n m->Wp (QcE [some (.fz, .int n),some (.fz, .int m),some (.ow, .lst (l.map natD))]) (runQ fun r=>r= .ok .ow (.lst ((lotF n m).map natD))):=fun l hl=>by
  rcases hm0 with z|z
  .rw[if_pos z]at hl
   simp(disch:=first|omega|rfl) [QcE,z,hl]
  .rw[if_neg aa]at hl
   simp(disch:=first|omega|rfl) [QcE,z,←hl]
 simp(disch:=first|omega|rfl) [ev0,QiH,hr,hc,e0']
 by_cases hq:lot1 n m= []
 .have e1:decide (lot1 n m= [])=true:=by simpa using hq
  obtain⟨x,hx,hx2⟩:=QaL (m/256) (n:=n) aa
  have e2:(m/256 %(n:Int)).toNat=x:=by omega
  simp(disch:=first|omega|rfl) [e1,hx]
  exact fin [x] (by unfold lotF;rw[if_pos hq,e2])
 .have e1:decide (lot1 n m= [])=false:=by simpa using hq
  simp(disch:=first|omega|rfl) [e1]
  exact fin (lot1 n m) (by unfold lotF;rw[if_neg hq])
noncomputable def QT (ps:List Path):List Net.Stp:=ps.map fun p=>(p.1,p.2.1,1)
theorem Qbc {n:Nat}{ps:List Path}(ok:NetOk n ps):Net.Good n (QT ps):=by
 refine⟨fun x hx=>?_,fun x hx=>?_,fun x hx=>?_⟩<;>obtain⟨p,hp,rfl⟩:=List.mem_map.1 hx
 .exact ok.s p hp
 .exact ok.g p hp
 .exact Int.one_pos
theorem Qgg {ps:List Path}{p:Path}(h:p∈ps):(p.1,p.2.1,1)∈QT ps:=List.mem_map.2 ⟨p,h,rfl⟩
noncomputable def fewF (n:Nat)(ps:List Path)(h:Nat):List (Option Int):=(Net.leastWays n (QT ps) h).map (·.map (·.1))
theorem QjQ {n h:Nat}{ps:List Path}:(fewF n ps h).length=n:=by simp[fewF,Net.lw_length]
theorem Qp9 {n h v:Nat}{ps:List Path}(hv:v<n):(fewF n ps h)[v]?=some (Net.val (Net.leastWays n (QT ps) h) v):=by
 have hl:v<(Net.leastWays n (QT ps) h).length:=by rw[Net.lw_length];exact hv
 simp[fewF,Net.val,Net.at_,List.getElem?_eq_getElem hl]
theorem Ql9 {n h:Nat}{ps:List Path}(ok:NetOk n ps)(hl:ps.length<=64)(hh:h<n):Qa3 [netD n ps, .int h]= .ok .ow (.lst ((fewF n ps h).map optD)):=by
 refine QD (Qa3 [netD n ps, .int h]) rfl ?_
 have hc:=Qa0 (b:=Qq 0) (e:=eTup (Qc (eOp idxD ao au) (Qc (eOp idxD ao ak) (Qc ak aNil)))) (ev:= [none]) (enc:=QR) (l:=ps) (fun p=>stepD (p.1,p.2.1,1)) (by simp[LIM];omega) (fun p hp=>by
  refine⟨_,rfl, .fz,by simp,by simp[QR,stepD]⟩)
 have hm:ps.map (fun p=>stepD (p.1,p.2.1,1))=(QT ps).map stepD:=by simp[QT,Function.comp_def]
 rw[hm]at hc
 have hw:=QdO ok.n1 ok.n8 hh (Qbc ok) (by simp[QT];omega)
 have hc2:=Qa0 (b:=Qq 0) (e:=eIf (eOp isND ao aK) aK (eOp idxD ao au)) (ev:= [none]) (enc:=QbZ) (l:=Net.leastWays n (QT ps) h) (fun o=>optD (o.map (·.1))) (by rw[Net.lw_length];have:=ok.n8;simp[LIM];omega) (fun o _=>by
  refine⟨_,rfl, .fz,by simp,?_⟩
  cases o with
  |none=>simp
  |some z=>obtain⟨t,w⟩:=z;simp)
 simp(disch:=first|omega|rfl) [ev0,Qd8,netD,hc,hw,hc2]
 simp[fewF]
noncomputable def Qqa (steps:List Net.Stp)(b:Net.B):Prop:=∀x∈steps,Net.relax b x=b
theorem Qma {steps:List Net.Stp}{b:Net.B}(h:Qqa steps b):Net.lap steps b=b:=by
 have:∀l:List Net.Stp,(∀x∈l,Net.relax b x=b)->Net.lap l b=b:=fun l=>by
  induction l with
  |nil=>intro _;rfl
  |cons x l ih=>intro hl;show Net.lap l (Net.relax b x)=b;rw[hl x al];exact ih fun y hy=>hl y (by simp[hy])
 exact this steps h
theorem Qgh {steps:List Net.Stp}{b:Net.B}(h:Qqa steps b):∀k,Net.laps steps k b=b
 |0=>rfl
 |k+1=>by show Net.laps steps k (Net.lap steps b)=b;rw[Qma h];exact Qgh h k
theorem Qg8 {steps:List Net.Stp}{b:Net.B}:∀j k,Net.laps steps (j+k) b=Net.laps steps k (Net.laps steps j b)
 |0,k=>by simp[Net.laps]
 |j+1,k=>by rw[show j+1+k=(j+k)+1 by omega];show Net.laps steps (j+k) (Net.lap steps b)=Net.laps steps k (Net.laps steps j (Net.lap steps b));exact Qg8 j k
theorem Qg9 {n h:Nat}{steps:List Net.Stp}(gd:Net.Good n steps)(hn:h<n):Qqa steps (Net.leastWays n steps h):=fun x hx=>by
 obtain⟨s,g,c⟩:=x
 unfold Net.relax
 cases q:Net.at_ (Net.leastWays n steps h) s with
 |none=>rfl
 |some z=>
  obtain⟨t,w⟩:=z
  obtain⟨u,e1,h1⟩:=Net.lw_tri gd hn hx (t:=t) (by show Option.map _ (Net.at_ _ s)=_;rw[q];rfl)
  obtain⟨w',e2⟩:=Net.val_some e1
  simp only[e2]
  rw[if_neg aa]
theorem QjR {n h k:Nat}{steps:List Net.Stp}(gd:Net.Good n steps)(hn:h<n)(hf:Net.lap steps (Net.laps steps k (Net.start n h))=Net.laps steps k (Net.start n h)):Net.laps steps k (Net.start n h)=Net.leastWays n steps h:=by
 have all:∀j,Net.laps steps j (Net.laps steps k (Net.start n h))=Net.laps steps k (Net.start n h):=fun j=>by
  induction j with
  |zero=>rfl
  |succ j ih=>show Net.laps steps j (Net.lap steps _)=_;rw[hf];exact ih
 unfold Net.leastWays
 by_cases hk:k<=n-1
 .rw[show n-1=k+(n-1-k)by omega,Qg8,all]
 .have:=Qg9 gd hn
  rw[show k=(n-1)+(k-(n-1))by omega,Qg8]
  exact Qgh this _
noncomputable def kN (v:Nat):Key:= .inl (v:Int)
theorem Qmb {u v:Nat}:kN u=kN v↔u=v:=by simp[kN];omega
structure DB (n:Nat)(ks:List Key)(xs:List D)(b:Net.B):Prop where
 len:ks.length=xs.length
 keys:∃us:List Nat,ks=us.map kN/\us.Nodup/\∀v∈us,v<n
 at_:∀v:Nat,v<n->dGet ks xs (.inl (v:Int))=(Net.val b v).map D.int
theorem DB.small {n:Nat}{ks:List Key}{xs:List D}{b:Net.B}(h:DB n ks xs b):ks.length<=n:=by
 obtain⟨us,rfl,nd,hu⟩:=h.keys
 simpa using Net.nodup_len n us nd hu
theorem QnA (us:List Nat)(g:Nat):QW (us.map kN) (kN g)=(QW us g).map kN:=by
 unfold QW
 have:kN g∈us.map kN↔g∈us:=by
  simp only[List.mem_map,Qmb]
  exact⟨fun⟨a,h,e⟩=>e▸h,fun h=>⟨g,h,rfl⟩⟩
 by_cases h:g∈us
 .rw[if_pos (this.2 h),if_pos h]
 .rw[if_neg (fun z=>h (this.1 z)),if_neg h];simp
theorem QdP {b:Net.B}{s g:Nat}{c t:Int}(hg:g<b.length)(e:Net.val b s=some t)(hc:Net.val b g=none\/∃u,Net.val b g=some u/\t+c<u)(v:Nat):Net.val (Net.relax b (s,g,c)) v=if v=g then some (t+c)else Net.val b v:=by
 obtain⟨w,e1⟩:=Net.val_some e
 have:Net.relax b (s,g,c)=b.set g (some (t+c,w++ [g])):=by
  simp only[Net.relax,e1]
  rcases hc with hc|⟨u,hc,hlt⟩
  .have:Net.at_ b g=none:=by
    unfold Net.val at hc
    cases q:Net.at_ b g with
    |none=>rfl
    |some z=>rw[q]at hc;cases hc
   simp only[this]
  .obtain⟨w',e2⟩:=Net.val_some hc
   simp only[e2,if_pos hlt]
 rw[this]
 unfold Net.val
 rw[Net.at_set hg]
 by_cases hv:v=g<;>simp[hv]
theorem QdQ {b:Net.B}{s g:Nat}{c:Int}(hc:Net.val b s=none\/∃t u,Net.val b s=some t/\Net.val b g=some u/\¬t+c<u):Net.relax b (s,g,c)=b:=by
 rcases hc with hc|⟨t,u,h1,h2,h3⟩
 .have:Net.at_ b s=none:=by
   unfold Net.val at hc
   cases q:Net.at_ b s with
   |none=>rfl
   |some z=>rw[q]at hc;cases hc
  simp only[Net.relax,this]
 .obtain⟨w,e1⟩:=Net.val_some h1
  obtain⟨w',e2⟩:=Net.val_some h2
  simp only[Net.relax,e1,e2,if_neg h3]
theorem DB.put {n:Nat}{ks:List Key}{xs:List D}{b:Net.B}{s g:Nat}{c t:Int}(h:DB n ks xs b)(hgn:g<n)(hg:g<b.length)(e:Net.val b s=some t)(hc:Net.val b g=none\/∃u,Net.val b g=some u/\t+c<u):
  DB n (QW ks (.inl (g:Int))) (QbC ks xs (.inl (g:Int)) (.int (t+c))) (Net.relax b (s,g,c)):=by
 refine⟨Qju h.len,?_,fun v hv=>?_⟩
 .obtain⟨us,e,nd,hu⟩:=h.keys
  refine⟨QW us g,by rw[e];exact QnA us g,Qiz nd,fun v hv=>?_⟩
  rcases Qlt.1 hv with rfl|hv
  .exact hgn
  .exact hu v hv
 .rw[Qjt h.len,QdP hg e hc]
  by_cases hvg:v=g
  .simp[hvg]
  .have:¬((Sum.inl (v:Int):Key)= .inl (g:Int)):=by simp;omega
   rw[if_neg this,if_neg hvg];exact h.at_ v hv
theorem Qh3 (p:Path)(xs:List Path):Qo (p::xs)=match p.2.2 with
  |none=>Qo xs
  |some m=>(p.1,p.2.1,m)::Qo xs:=by
 unfold Qo
 rw[List.filterMap_cons]
 cases p.2.2<;>rfl
section
variable {n h:Nat}{ps:List Path}
noncomputable def QnB (n h:Nat)(ps:List Path)(ds:List D)(b:Net.B)(xs:List Path)(ev:Ev):Prop:=∃ks vs b' f x4 x5 x6,ev= [some (.fz,netD n ps),some (.ow, .lst ds),some (.fz, .int h),some (.ow, .dK ks vs),some (.fz, .bl f),x4,x5,x6]/\DB n ks vs b'/\b'.length=n/\Net.lap (Qo xs) b'=Net.lap (Qo ps) b/\(f=false->b'=b)/\(f=true->∃x∈Qo ps,Net.relax b x≠b)
noncomputable def Qu6 (n h:Nat)(ps:List Path)(ds:List D)(m:Nat)(ev:Ev):Prop:=∃ks vs b f x4 x5 x6 k,ev= [some (.fz,netD n ps),some (.ow, .lst ds),some (.fz, .int h),some (.ow, .dK ks vs),some (.fz, .bl f),x4,x5,x6]/\DB n ks vs b/\b=Net.laps (Qo ps) k (Net.start n h)/\(f=true->k<n/\m=n-k)/\(f=false->m=0/\b=Net.leastWays n (Qo ps) h)
noncomputable def Qsw (n:Nat)(ps:List Path)(xs:List Nat)(ev:Ev):Prop:=∃ds x2 x3 x4 x5 x6 x7,ev= [some (.fz,netD n ps),some (.ow, .lst ds),x2,x3,x4,x5,x6,x7]/\ds.length+xs.length=n/\∀i,i<ds.length->∃ks vs,ds[i]?=some (.dK ks vs)/\DB n ks vs (Net.leastWays n (Qo ps) i)
theorem Qqb {ds:List D}{ks:List Key}{vs:List D}{b b':Net.B}{f:Bool}{s g:Nat}{o:Option Int}{xs:List Path}{r:Ev->Fl}{Q:Fl->Prop}(n8:n<=8)(hm:(s,g,o)∈ps)(hs:s<n)(hg:g<n)(db:DB n ks vs b')(hl:b'.length=n)(hlap:Net.lap (Qo ((s,g,o)::xs)) b'=Net.lap (Qo ps) b)(hff:f=false->b'=b)(hft:f=true->∃x∈Qo ps,Net.relax b x≠b):
  Wp (Qad [some (.fz,netD n ps),some (.ow, .lst ds),some (.fz, .int h),some (.ow, .dK ks vs),some (.fz, .bl f),some (.fz, .int s),some (.fz, .int g),some (.fz,optD o)]) (Qc0 (QnB n h ps ds b xs) r Q):=by
 rw[Qh3]at hlap
 cases o with
 |none=>
  simp(disch:=first|omega|rfl) [Qad]
  exact⟨ks,vs,b',f,_,_,_,rfl,db,hl,hlap,hff,hft⟩
 |some mo=>
  have hlap:Net.lap (Qo xs) (Net.relax b' (s,g,mo))=Net.lap (Qo ps) b:=hlap
  have es:=db.at_ s hs
  have eg:=db.at_ g hg
  have keep:Net.relax b' (s,g,mo)=b'->∀x4 x5 x6,QnB n h ps ds b xs [some (.fz,netD n ps),some (.ow, .lst ds),some (.fz, .int h),some (.ow, .dK ks vs),some (.fz, .bl f),x4,x5,x6]:=fun e x4 x5 x6=>⟨ks,vs,b',f,x4,x5,x6,rfl,db,hl,by rw[e]at hlap;exact hlap,hff,hft⟩
  cases q:Net.val b' s with
  |none=>
   rw[q]at es
   simp(disch:=first|omega|rfl) [Qad,es]
   exact keep (QdQ (.inl q)) _ _ _
  |some t=>
   rw[q]at es
   have change:(Net.val b' g=none\/∃u,Net.val b' g=some u/\t+mo<u)->∀x4 x5 x6,QnB n h ps ds b xs [some (.fz,netD n ps),some (.ow, .lst ds),some (.fz, .int h),some (.ow, .dK (QW ks (.inl (g:Int))) (QbC ks vs (.inl (g:Int)) (.int (t+mo)))),some (.fz, .bl true),x4,x5,x6]:=fun hc x4 x5 x6=>by
    refine⟨_,_,Net.relax b' (s,g,mo),true,x4,x5,x6,rfl,db.put hg aa q hc,by rw[Net.relax_length];exact hl,hlap,by simp,fun _=>?_⟩
    cases f with
    |true=>exact hft rfl
    |false=>
     have e:=hff rfl
     subst e
     refine⟨(s,g,mo),Qb0.2 hm,fun e=>?_⟩
     have v1:=QdP (c:=mo) (by omega:g<b'.length) q hc g
     rw[e,if_pos rfl]at v1
     rcases hc with hc|⟨u,hc,hlt⟩
     .rw[hc]at v1;cases v1
     .rw[hc]at v1;cases v1;omega
   have hL:ks.length<LIM:=by have:=db.small;simp[LIM];omega
   cases q2:Net.val b' g with
   |none=>
    rw[q2]at eg
    simp(disch:=first|omega|rfl) [Qad,es,eg,Qgy hL]
    exact change (.inl q2) _ _ _
   |some u=>
    rw[q2]at eg
    by_cases hlt:t+mo<u
    .simp(disch:=first|omega|rfl) [Qad,es,eg,Qgy hL,hlt]
     exact change (.inr ⟨u,q2,hlt⟩) _ _ _
    .simp(disch:=first|omega|rfl) [Qad,es,eg,hlt]
     exact keep (QdQ (.inr ⟨t,u,q,q2,hlt⟩)) _ _ _
theorem Qqc {ds:List D}{x3 x4 x5 x6 x7:Option (Kd×D)}{xs:List Nat}{r:Ev->Fl}{Q:Fl->Prop}(ok:NetOk n ps)(hh:h<n)(hd:ds.length=h)(hx:ds.length+1+xs.length=n)(hi:∀i,i<ds.length->∃ks vs,ds[i]?=some (.dK ks vs)/\DB n ks vs (Net.leastWays n (Qo ps) i)):
  Wp (Qc3 [some (.fz,netD n ps),some (.ow, .lst ds),some (.fz, .int h),x3,x4,x5,x6,x7]) (Qc0 (Qsw n ps xs) r Q):=by
 have gd:=Q3 ok
 have n1:=ok.n1
 have n8:=ok.n8
 simp(disch:=first|omega|rfl) [Qc3]
 have DB0:DB n [.inl (h:Int)] [.int 0] (Net.start n h):=by
  refine⟨rfl,⟨[h],rfl,by simp,by simpa using hh⟩,fun v hv=>?_⟩
  unfold Net.val
  rw[Net.start_at hh]
  by_cases hv:v=h
  .simp[dGet,hv]
  .have:¬((Sum.inl (h:Int):Key)= .inl (v:Int)):=by simp;omega
   simp[dGet,hv,this]
 refine QdF (Qu6 n h ps ds) ?_ (m:=n) ⟨_,_,_,_,_,_,_,0,rfl,DB0,rfl,fun _=>⟨by omega,by omega⟩,by simp⟩ aa
 rintro m _ ⟨ks,vs,b,f,x4,x5,x6,k,rfl,db,hb,ht,hf⟩
 cases f with
 |false=>
  refine .inr ⟨.fz,by simp,?_⟩
  obtain⟨_,e⟩:=hf rfl
  rw[e]at db
  have hL:ds.length<LIM:=by simp[LIM];omega
  simp(disch:=first|omega|rfl) [hL]
  refine⟨ds++ [.dK ks vs],_,_,_,_,_,_,rfl,by simp;omega,fun i hi'=>?_⟩
  by_cases q:i<ds.length
  .obtain⟨ks',vs',e1,e2⟩:=hi i q
   exact⟨ks',vs',by rw[List.getElem?_append_left q];exact e1,e2⟩
  .have q:i=ds.length:=by simp at hi';omega
   subst q
   exact⟨ks,vs,by simp,by rw[hd];exact db⟩
 |true=>
  obtain⟨hk,rfl⟩:=ht rfl
  refine .inl ⟨.fz,by simp,?_⟩
  simp(disch:=first|omega|rfl) [Qfb]
  have e1:idxD (netD n ps) (.int 1)=some (.fz, .lst (ps.map QR)):=by simp[netD]
  simp(disch:=first|omega|rfl) [e1]
  have hbl:b.length=n:=by rw[hb,Net.laps_length,Net.start_length]
  refine QdE (QnB n h ps ds b) ?_ ?_ ⟨_,_,b,_,_,_,_,rfl,db,hbl,rfl,fun _=>rfl,by simp⟩
  .rintro⟨s,g,o⟩ xs _ ⟨pre,hp⟩ ⟨ks,vs,b',f,x4,x5,x6,rfl,db,hl,hlap,hff,hft⟩
   have hm:(s,g,o)∈ps:=by rw[hp];simp
   refine⟨_,rfl,?_⟩
   exact Qqb n8 hm (ok.s _ hm) (ok.g _ hm) db hl hlap hff hft
  .rintro _ ⟨ks,vs,b',f,x4,x5,x6,rfl,db,hl,hlap,hff,hft⟩
   have hlap:b'=Net.lap (Qo ps) b:=hlap
   have hb':b'=Net.laps (Qo ps) (k+1) (Net.start n h):=by rw[Net.laps_succ,←hb];exact hlap
   cases f with
   |false=>
    have e:=hff rfl
    refine⟨0,by omega,ks,vs,b',false,_,_,_,k+1,rfl,db,hb',by simp,fun _=>⟨rfl,?_⟩⟩
    rw[e,hb]
    refine QjR gd hh ?_
    rw[←hb,←hlap,e]
   |true=>
    obtain⟨x,hx,hne⟩:=hft rfl
    have hk2:k+1<n:=by
     apply Classical.byContradiction
     intro hge
     have:b=Net.leastWays n (Qo ps) h:=by rw[hb];unfold Net.leastWays;congr 1;omega
     rw[this]at hne
     exact hne (Qg9 gd hh x hx)
    exact⟨n-(k+1),by omega,ks,vs,b',true,_,_,_,k+1,rfl,db,hb',fun _=>⟨hk2,rfl⟩,by simp⟩
theorem QiY {n x:Nat}{pre xs:List Nat}(h:List.range n=pre++x::xs):x=pre.length/\pre.length+1+xs.length=n:=by
 have h1:=congrArg List.length h
 have h2:=congrArg (fun l=>l[pre.length]?) h
 simp at h1
 have:pre.length<n:=by omega
 simp[this]at h2
 exact⟨h2.symm,by omega⟩
theorem Qqd (ok:NetOk n ps):∃ds,Qcn [netD n ps]= .ok .ow (.lst ds)/\ds.length=n/\∀i,i<n->∃ks vs,ds[i]?=some (.dK ks vs)/\DB n ks vs (Net.leastWays n (Qo ps) i):=by
 have n8:=ok.n8
 refine QD (motive:=fun r=>∃ds,r= .ok .ow (.lst ds)/\ds.length=n/\∀i,i<n->∃ks vs,ds[i]?=some (.dK ks vs)/\DB n ks vs (Net.leastWays n (Qo ps) i)) (Qcn [netD n ps]) rfl ?_
 have h4:idxD (netD n ps) (.int 0)=some (.fz, .int n):=by simp[netD]
 simp(disch:=first|omega|rfl) [ev0,QgG,h4]
 rw[QaN]
 refine QaA (Qsw n ps) ?_ ?_ ⟨[],_,_,_,_,_,_,rfl,by simp,by simp⟩
 .rintro x xs _ ⟨pre,hp⟩ ⟨ds,x2,x3,x4,x5,x6,x7,rfl,hl,hi⟩
  obtain⟨hx,hn⟩:=QiY hp
  refine⟨_,rfl,?_⟩
  simp only[Int.zero_add]
  simp at hl
  exact Qqc ok aa aa aa hi
 .rintro _ ⟨ds,x2,x3,x4,x5,x6,x7,rfl,hl,hi⟩
  simp(disch:=first|omega|rfl) []
  simp at hl
  exact⟨hl,fun i hi'=>hi i aa⟩
end
noncomputable def Qbd (s g last:Nat):List Run:=(List.range last).map fun l=>(s,g,l,l+1)
noncomputable def QJ (ps:List Path)(last:Nat):List Run:=ps.flatMap fun p=>Qbd p.1 p.2.1 last
noncomputable def Qgi (ps:List Path)(s g:Nat):Bool:=ps.any fun p=>decide (ends p=(s,g))
noncomputable def QdR (ps:List Path)(last s:Nat)(gs:List Nat):List Run:=gs.flatMap fun g=>if Qgi ps s g then Qbd s g last else []
noncomputable def QcB (n:Nat)(ps:List Path)(last:Nat)(l:List Nat):List Run:=l.flatMap fun s=>QdR ps last s (List.range n)
theorem Qei {ps:List Path}{s g:Nat}:Qgi ps s g=true↔(s,g)∈ps.map ends:=by
 simp[Qgi,List.mem_map]
theorem QaF {s g last:Nat}{r:Run}:r∈Qbd s g last↔r.1=s/\r.2.1=g/\r.2.2.1<last/\r.2.2.2=r.2.2.1+1:=by
 obtain⟨a,b,c,d⟩:=r
 simp only[Qbd,List.mem_map,List.mem_range,Prod.mk.injEq]
 constructor
 .rintro⟨l,h,rfl,rfl,rfl,rfl⟩;exact⟨rfl,rfl,h,rfl⟩
 .rintro⟨rfl,rfl,h,rfl⟩;exact⟨c,h,rfl,rfl,rfl,rfl⟩
theorem Qej {s g last:Nat}:(Qbd s g last).length=last:=by simp[Qbd]
theorem QjS (ps:List Path)(last:Nat):(QJ ps last).length=ps.length*last:=by
 induction ps with
 |nil=>simp[QJ]
 |cons p ps ih=>
  have:QJ (p::ps) last=Qbd p.1 p.2.1 last++QJ ps last:=by simp[QJ]
  rw[this,List.length_append,ih,Qej,List.length_cons,Nat.add_mul];omega
noncomputable def ascR (a b:Run):Prop:=TSrt.lexK (keyR b) (keyR a)=false/\a≠b
theorem asc1 {a b:Run}(h:a.1<b.1):ascR a b:=by
 refine⟨?_,fun e=>by subst e;omega⟩
 unfold keyR
 rw[TSrt.lexK,if_neg (by simp;omega)]
 simp[TSrt.ltK];omega
theorem asc2 {a b:Run}(h0:a.1=b.1)(h:a.2.1<b.2.1):ascR a b:=by
 refine⟨?_,fun e=>by subst e;omega⟩
 unfold keyR
 rw[TSrt.lexK,if_pos (by simp;omega),TSrt.lexK,if_neg (by simp;omega)]
 simp[TSrt.ltK];omega
theorem asc3 {a b:Run}(h0:a.1=b.1)(h1:a.2.1=b.2.1)(h:a.2.2.1<b.2.2.1):ascR a b:=by
 refine⟨?_,fun e=>by subst e;omega⟩
 unfold keyR
 rw[TSrt.lexK,if_pos (by simp;omega),TSrt.lexK,if_pos (by simp;omega),TSrt.lexK,if_neg (by simp;omega)]
 simp[TSrt.ltK];omega
theorem Qgj (s g last:Nat):(Qbd s g last).Pairwise ascR:=by
 unfold Qbd
 rw[List.pairwise_map]
 exact List.pairwise_lt_range.imp fun{a b} h=>asc3 (a:=(s,g,a,a+1)) (b:=(s,g,b,b+1)) rfl rfl h
theorem Qha {ps:List Path}{last s:Nat}{gs:List Nat}{r:Run}:r∈QdR ps last s gs↔r.1=s/\r.2.1∈gs/\Qgi ps s r.2.1=true/\r.2.2.1<last/\r.2.2.2=r.2.2.1+1:=by
 simp only[QdR,List.mem_flatMap]
 constructor
 .rintro⟨g,hg,h⟩
  split at h
  .rename_i hp
   obtain⟨h1,h2,h3,h4⟩:=QaF.1 h
   subst h2
   exact⟨h1,hg,hp,h3,h4⟩
  .cases h
 .rintro⟨h1,h2,h3,h4,h5⟩
  exact⟨r.2.1,h2,by rw[if_pos h3];exact QaF.2 ⟨h1,rfl,h4,h5⟩⟩
theorem Qmc {n:Nat}{ps:List Path}{last:Nat}{l:List Nat}{r:Run}:r∈QcB n ps last l↔r.1∈l/\r.2.1<n/\Qgi ps r.1 r.2.1=true/\r.2.2.1<last/\r.2.2.2=r.2.2.1+1:=by
 simp only[QcB,List.mem_flatMap,Qha,List.mem_range]
 constructor
 .rintro⟨s,hs,h1,h2,h3,h4⟩;subst h1;exact⟨hs,h2,h3,h4⟩
 .rintro⟨h1,h2,h3,h4⟩;exact⟨r.1,h1,rfl,h2,h3,h4⟩
theorem QnC (ps:List Path)(last s n:Nat):(QdR ps last s (List.range n)).Pairwise ascR:=by
 unfold QdR
 rw[List.pairwise_flatMap]
 refine⟨fun g _=>?_,List.pairwise_lt_range.imp fun{a b} h x hx y hy=>?_⟩
 .split
  .exact Qgj ..
  .exact List.Pairwise.nil
 .split at hx
  .split at hy
   .obtain⟨h1,h2,_⟩:=QaF.1 hx
    obtain⟨h3,h4,_⟩:=QaF.1 hy
    exact asc2 aa aa
   .cases hy
  .cases hx
theorem QiZ (n:Nat)(ps:List Path)(last:Nat):(QcB n ps last (List.range n)).Pairwise ascR:=by
 unfold QcB
 rw[List.pairwise_flatMap]
 refine⟨fun s _=>QnC ..,List.pairwise_lt_range.imp fun{a b} h x hx y hy=>?_⟩
 have h1:=(Qha.1 hx).1
 have h2:=(Qha.1 hy).1
 exact asc1 aa
theorem QnD {ps:List Path}{last:Nat}{r:Run}:r∈QJ ps last↔Qgi ps r.1 r.2.1=true/\r.2.2.1<last/\r.2.2.2=r.2.2.1+1:=by
 simp only[QJ,List.mem_flatMap,QaF,Qei,List.mem_map,ends,Prod.mk.injEq]
 constructor
 .rintro⟨p,hp,h1,h2,h3,h4⟩;exact⟨⟨p,hp,h1.symm,h2.symm⟩,h3,h4⟩
 .rintro⟨⟨p,hp,h1,h2⟩,h3,h4⟩;exact⟨p,hp,h1.symm,h2.symm,h3,h4⟩
theorem Qmd {n:Nat}{ps:List Path}(ok:NetOk n ps)(last:Nat):(QJ ps last).Nodup:=by
 unfold QJ List.Nodup
 rw[List.pairwise_flatMap]
 refine⟨fun p _=>(Qgj _ _ _).imp fun h=>h.2,?_⟩
 have h:=List.pairwise_map.1 ok.nd
 exact h.imp fun{a b} h x hx y hy e=>by
  subst e
  obtain⟨h1,h2,_⟩:=QaF.1 hx
  obtain⟨h3,h4,_⟩:=QaF.1 hy
  exact h (by simp[ends];omega)
theorem Qme {α:Type} [DecidableEq α]:∀{l m:List α},l.Nodup->m.Nodup->(∀x,x∈l↔x∈m)->l.Perm m
 | [],m,_,_,h=>by
  cases m with
  |nil=>exact .nil
  |cons y m=>exact absurd ((h y).2 al) al
 |x::l,m,h1,h2,h=>by
  obtain⟨h3,h4⟩:=List.nodup_cons.1 h1
  have hx:=(h x).1 al
  refine .trans (.cons x (Qme h4 (h2.erase x) fun y=>?_)) (List.perm_cons_erase hx).symm
  rw[h2.mem_erase_iff]
  constructor
  .intro hy
   exact⟨fun e=>h3 (e▸hy),(h y).1 (by simp[hy])⟩
  .rintro⟨hne,hy⟩
   rcases List.mem_cons.1 ((h y).2 hy)with e|e
   .exact absurd e hne
   .exact e
theorem Qqe {n:Nat}{ps:List Path}(ok:NetOk n ps)(last:Nat):srtR (QJ ps last)=QcB n ps last (List.range n):=by
 have pa:(QcB n ps last (List.range n)).Pairwise fun a b=>TSrt.lexK (keyR b) (keyR a)=false:=(QiZ n ps last).imp fun h=>h.1
 refine List.Perm.eq_of_pairwise (fun a b _ _ h1 h2=>QeI (Qe5 h2 h1)) QgC pa (srtA_perm.trans ?_)
 refine Qme (Qmd ok last) ((QiZ n ps last).imp fun h=>h.2) fun r=>?_
 rw[QnD,Qmc]
 constructor
 .rintro⟨h1,h2⟩
  obtain⟨p,hp,e⟩:=List.mem_map.1 (Qei.1 h1)
  have e1:p.1=r.1:=congrArg (·.1) e
  have e2:p.2.1=r.2.1:=congrArg (·.2) e
  exact⟨by have:=ok.s p hp;simp;omega,by have:=ok.g p hp;omega,h1,h2⟩
 .rintro⟨_,_,h1,h2⟩;exact⟨h1,h2⟩
theorem Qfz {κ:Type} [DecidableEq κ]{k:κ}:∀{ks:List κ} {xs:List D},ks.length=xs.length->k∈ks->dGet ks xs k≠none
 | [],_,_,h=>by simp at h
 |_::_,[],e,_=>by simp at e
 |a::ks,x::xs,e,h=>by
  unfold dGet
  by_cases q:a=k
  .simp[q]
  .rw[if_neg q]
   exact Qfz (by simpa using e) ((List.mem_cons.1 h).resolve_left fun z=>q z.symm)
noncomputable def Low (n m:Nat)(b:Net.B):Prop:=∀v,v<n->∀t,Net.val b v=some t->t<m
section
variable {n h:Nat}{ps:List Path}
noncomputable def QnE (n h:Nat)(ps:List Path)(b:Net.B)(xs:List Path)(ev:Ev):Prop:=∃ks vs b' f x4 x5 x6,ev= [some (.fz,netD n ps),some (.fz, .int h),some (.ow, .dK ks vs),some (.fz, .bl f),x4,x5,x6]/\DB n ks vs b'/\Low n ks.length b'/\b'.length=n/\Net.lap (QT xs) b'=Net.lap (QT ps) b/\(f=false->b'=b)/\(f=true->∃x∈QT ps,Net.relax b x≠b)
noncomputable def Qu7 (n h:Nat)(ps:List Path)(m:Nat)(ev:Ev):Prop:=∃ks vs b f x4 x5 x6 k,ev= [some (.fz,netD n ps),some (.fz, .int h),some (.ow, .dK ks vs),some (.fz, .bl f),x4,x5,x6]/\DB n ks vs b/\Low n ks.length b/\b=Net.laps (QT ps) k (Net.start n h)/\(f=true->k<n/\m=n-k)/\(f=false->m=0/\b=Net.leastWays n (QT ps) h)
theorem QnF {ks:List Key}{vs:List D}{b:Net.B}{g:Nat}(hg:g<n)(db:DB n ks vs b)(q:Net.val b g=none):(QW ks (.inl (g:Int))).length=ks.length+1:=by
 have:=db.at_ g hg
 rw[q]at this
 unfold QW
 rw[if_neg]
 .simp
 .intro hm
  exact Qfz db.len hm this
theorem Qqf {ks:List Key}{vs:List D}{b:Net.B}{s g:Nat}{t:Int}(hs:s<n)(hg:g<n)(db:DB n ks vs b)(hl:b.length=n)(lo:Low n ks.length b)(q:Net.val b s=some t)(hc:Net.val b g=none\/∃u,Net.val b g=some u/\t+1<u):Low n (QW ks (.inl (g:Int))).length (Net.relax b (s,g,1)):=fun v hv x hx=>by
 rw[QdP aa q hc]at hx
 have:=lo s hs t q
 have h2:ks.length<=(QW ks (.inl (g:Int))).length:=by unfold QW;split<;>simp
 split at hx
 .cases hx
  rcases hc with hc|⟨u,hu,hlt⟩
  .rw[QnF hg db hc];omega
  .have:=lo g hg u hu;omega
 .have:=lo v hv x hx;omega
theorem Qmf {ks:List Key}{vs:List D}{b b':Net.B}{f:Bool}{s g:Nat}{o:Option Int}{xs:List Path}{r:Ev->Fl}{Q:Fl->Prop}(n8:n<=8)(hm:(s,g,o)∈ps)(hs:s<n)(hg:g<n)(db:DB n ks vs b')(lo:Low n ks.length b')(hl:b'.length=n)(hlap:Net.lap (QT ((s,g,o)::xs)) b'=Net.lap (QT ps) b)(hff:f=false->b'=b)(hft:f=true->∃x∈QT ps,Net.relax b x≠b):
  Wp (Q4 [some (.fz,netD n ps),some (.fz, .int h),some (.ow, .dK ks vs),some (.fz, .bl f),some (.fz, .int s),some (.fz, .int g),some (.fz,optD o)]) (Qc0 (QnE n h ps b xs) r Q):=by
 have hlap:Net.lap (QT xs) (Net.relax b' (s,g,1))=Net.lap (QT ps) b:=hlap
 have es:=db.at_ s hs
 have eg:=db.at_ g hg
 have keep:Net.relax b' (s,g,1)=b'->∀x4 x5 x6,QnE n h ps b xs [some (.fz,netD n ps),some (.fz, .int h),some (.ow, .dK ks vs),some (.fz, .bl f),x4,x5,x6]:=fun e x4 x5 x6=>⟨ks,vs,b',f,x4,x5,x6,rfl,db,lo,hl,by rw[e]at hlap;exact hlap,hff,hft⟩
 cases q:Net.val b' s with
 |none=>
  rw[q]at es
  simp(disch:=first|omega|rfl) [Q4,es]
  exact keep (QdQ (.inl q)) _ _ _
 |some t=>
  rw[q]at es
  have ht:=lo s hs t q
  have hL:ks.length<=8:=by have:=db.small;omega
  have change:(Net.val b' g=none\/∃u,Net.val b' g=some u/\t+1<u)->∀x4 x5 x6,QnE n h ps b xs [some (.fz,netD n ps),some (.fz, .int h),some (.ow, .dK (QW ks (.inl (g:Int))) (QbC ks vs (.inl (g:Int)) (.int (t+1)))),some (.fz, .bl true),x4,x5,x6]:=fun hc x4 x5 x6=>by
   refine⟨_,_,Net.relax b' (s,g,1),true,x4,x5,x6,rfl,db.put hg aa q hc,Qqf hs hg db hl lo q hc,by rw[Net.relax_length];exact hl,hlap,by simp,fun _=>?_⟩
   cases f with
   |true=>exact hft rfl
   |false=>
    have e:=hff rfl
    subst e
    refine⟨(s,g,1),Qgg hm,fun e=>?_⟩
    have v1:=QdP (c:=1) (by omega:g<b'.length) q hc g
    rw[e,if_pos rfl]at v1
    rcases hc with hc|⟨u,hc,hlt⟩
    .rw[hc]at v1;cases v1
    .rw[hc]at v1;cases v1;omega
  have hL':ks.length<LIM:=by simp[LIM];omega
  cases q2:Net.val b' g with
  |none=>
   rw[q2]at eg
   have hlt:t+1<99:=by omega
   simp(disch:=first|omega|rfl) [Q4,es,eg,Qgy hL',hlt]
   exact change (.inl q2) _ _ _
  |some u=>
   rw[q2]at eg
   by_cases hlt:t+1<u
   .simp(disch:=first|omega|rfl) [Q4,es,eg,Qgy hL',hlt]
    exact change (.inr ⟨u,q2,hlt⟩) _ _ _
   .simp(disch:=first|omega|rfl) [Q4,es,eg,hlt]
    exact keep (QdQ (.inr ⟨t,u,q,q2,hlt⟩)) _ _ _
theorem Qmg (ok:NetOk n ps)(hh:h<n):∃ks vs,Qa1 [netD n ps, .int h]= .ok .ow (.dK ks vs)/\DB n ks vs (Net.leastWays n (QT ps) h):=by
 refine QD (motive:=fun r=>∃ks vs,r= .ok .ow (.dK ks vs)/\DB n ks vs (Net.leastWays n (QT ps) h)) (Qa1 [netD n ps, .int h]) rfl ?_
 have gd:=Qbc ok
 have n1:=ok.n1
 have n8:=ok.n8
 simp(disch:=first|omega|rfl) [ev0,Qd2]
 have DB0:DB n [.inl (h:Int)] [.int 0] (Net.start n h):=by
  refine⟨rfl,⟨[h],rfl,by simp,by simpa using hh⟩,fun v hv=>?_⟩
  unfold Net.val
  rw[Net.start_at hh]
  by_cases hv:v=h
  .simp[dGet,hv]
  .have:¬((Sum.inl (h:Int):Key)= .inl (v:Int)):=by simp;omega
   simp[dGet,hv,this]
 have L0:Low n [(Sum.inl (h:Int):Key)].length (Net.start n h):=fun v hv t e=>by
  unfold Net.val at e
  rw[Net.start_at hh]at e
  split at e
  .simp at e;subst e;simp
  .simp at e
 refine QdF (Qu7 n h ps) ?_ (m:=n) ⟨_,_,_,_,_,_,_,0,rfl,DB0,L0,rfl,fun _=>⟨by omega,by omega⟩,by simp⟩ aa
 rintro m _ ⟨ks,vs,b,f,x4,x5,x6,k,rfl,db,lo,hb,ht,hf⟩
 cases f with
 |false=>
  refine .inr ⟨.fz,by simp,?_⟩
  obtain⟨_,e⟩:=hf rfl
  rw[e]at db
  simp(disch:=first|omega|rfl) []
  exact⟨_,_,⟨rfl,rfl⟩,db⟩
 |true=>
  obtain⟨hk,rfl⟩:=ht rfl
  refine .inl ⟨.fz,by simp,?_⟩
  simp(disch:=first|omega|rfl) [QdG]
  have e1:idxD (netD n ps) (.int 1)=some (.fz, .lst (ps.map QR)):=by simp[netD]
  simp(disch:=first|omega|rfl) [e1]
  have hbl:b.length=n:=by rw[hb,Net.laps_length,Net.start_length]
  refine QdE (QnE n h ps b) ?_ ?_ ⟨_,_,b,_,_,_,_,rfl,db,lo,hbl,rfl,fun _=>rfl,by simp⟩
  .rintro⟨s,g,o⟩ xs _ ⟨pre,hp⟩ ⟨ks,vs,b',f,x4,x5,x6,rfl,db,lo,hl,hlap,hff,hft⟩
   have hm:(s,g,o)∈ps:=by rw[hp];simp
   refine⟨_,rfl,?_⟩
   exact Qmf n8 hm (ok.s _ hm) (ok.g _ hm) db lo hl hlap hff hft
  .rintro _ ⟨ks,vs,b',f,x4,x5,x6,rfl,db,lo,hl,hlap,hff,hft⟩
   have hlap:b'=Net.lap (QT ps) b:=hlap
   have hb':b'=Net.laps (QT ps) (k+1) (Net.start n h):=by rw[Net.laps_succ,←hb];exact hlap
   cases f with
   |false=>
    have e:=hff rfl
    refine⟨0,by omega,ks,vs,b',false,_,_,_,k+1,rfl,db,lo,hb',by simp,fun _=>⟨rfl,?_⟩⟩
    rw[e,hb]
    refine QjR gd hh ?_
    rw[←hb,←hlap,e]
   |true=>
    obtain⟨x,hx,hne⟩:=hft rfl
    have hk2:k+1<n:=by
     apply Classical.byContradiction
     intro hge
     have:b=Net.leastWays n (QT ps) h:=by rw[hb];unfold Net.leastWays;congr 1;omega
     rw[this]at hne
     exact hne (Qg9 gd hh x hx)
    exact⟨n-(k+1),by omega,ks,vs,b',true,_,_,_,k+1,rfl,db,lo,hb',fun _=>⟨hk2,rfl⟩,by simp⟩
end
section
variable {n a last:Nat}{ps:List Path}{hs:List Nat}
noncomputable def fwF (n:Nat)(ps:List Path)(a v:Nat):Option Int:=Net.val (Net.leastWays n (QT ps) a) v
noncomputable def SumR (n:Nat)(ps:List Path)(a:Nat)(hs:List Nat)(v:Nat)(y:Int):Prop:=∃c m,fwF n ps a v=some c/\SrO n ps v hs (some m)/\y=c+m
structure Soon (n:Nat)(ps:List Path)(a:Nat)(hs:List Nat)(last:Nat)(r:Option Int):Prop where
 mem:∀y,r=some y->y<=last/\∃v,v<n/\SumR n ps a hs v y
 le:∀v,v<n->∀y,SumR n ps a hs v y->y<=last->∃x,r=some x/\x<=y
theorem Soon.uniq {r1 r2:Option Int}(x:Soon n ps a hs last r1)(z:Soon n ps a hs last r2):r1=r2:=by
 have go:∀{r1 r2:Option Int},Soon n ps a hs last r1->Soon n ps a hs last r2->∀m,r1=some m->∃k,r2=some k/\k<=m:=fun{r1 r2} x z m e=>by
  obtain⟨h1,v,hv,s⟩:=x.mem m e
  exact z.le v hv m s h1
 cases r1 with
 |none=>cases r2 with
  |none=>rfl
  |some k=>obtain⟨_,e,_⟩:=go z x k rfl;cases e
 |some m=>
  obtain⟨k,rfl,h1⟩:=go x z m rfl
  obtain⟨m',e,h2⟩:=go z x k rfl
  cases e
  rw[Int.le_antisymm h1 h2]
theorem Qhb (h:∀v,v<n->∀y,SumR n ps a hs v y->¬y<=last):Soon n ps a hs last none:=⟨fun y e=>by(cases e),fun v hv y s hy=>absurd hy (h v hv y s)⟩
theorem QjT {x:Int}{l:List Int}(h1:∀y∈x::l,∃v,v<n/\SumR n ps a hs v y)(h2:∀v,v<n->∀y,SumR n ps a hs v y->y<=last->y∈x::l)(h3:minL x l<=last):Soon n ps a hs last (some (minL x l)):=by
 refine⟨fun y e=>?_,fun v hv y s hy=>?_⟩
 .cases e
  refine⟨h3,h1 _ ?_⟩
  rcases QgE l x with e|e
  .rw[e];simp
  .exact List.mem_cons_of_mem _ e
 .refine⟨_,rfl,?_⟩
  obtain⟨g1,g2⟩:=Qe8 l x
  rcases List.mem_cons.1 (h2 v hv y s hy)with rfl|hm
  .exact g1
  .exact g2 y hm
theorem QnG:Qhz ((fewF n ps a).map optD)=(List.range n).map fun(v:Nat)=> .tup [.int (v:Int),optD (fwF n ps a v)]:=by
 refine List.ext_getElem? fun i=>?_
 by_cases hi:i<n
 .have h1:i<((fewF n ps a).map optD).length:=by rw[List.length_map,QjQ];exact hi
  have h2:=Qp9 (h:=a) (ps:=ps) hi
  rw[QhA h1]
  have h3:((fewF n ps a).map optD)[i]=optD (fwF n ps a i):=by
   have:((fewF n ps a).map optD)[i]?=some (optD (fwF n ps a i)):=by rw[List.getElem?_map,h2];rfl
   rw[List.getElem?_eq_getElem h1]at this
   exact Option.some.inj this
  rw[h3,List.getElem?_map,List.getElem?_range hi];rfl
 .rw[List.getElem?_eq_none (by rw[QdC,List.length_map,QjQ];omega),List.getElem?_eq_none (by simp;omega)]
noncomputable def Qsx (n:Nat)(ps:List Path)(a:Nat)(hs:List Nat)(last:Nat)(xs:List Nat)(ev:Ev):Prop:=∃(l:List Int) (x5 x6 x7:_),ev= [some (.fz,netD n ps),some (.fz, .int a),some (.fz,hsD hs),some (.fz, .int (last:Nat)),some (.ow, .lst (l.map D.int)),x5,x6,x7]/\l.length+xs.length<=n/\(∀y∈l,y<=last/\∃v,v<n/\SumR n ps a hs v y)/\∀v,v<n->v∉xs->∀y,SumR n ps a hs v y->y<=last->y∈l
theorem Qkx (ok:NetOk n ps)(hp:ps.length<=64)(ha:a<n)(o:HsG n hs):∃r,QaP [netD n ps, .int a,hsD hs, .int last]= .ok .fz (optD r)/\Soon n ps a hs last r:=by
 refine QD (motive:=fun x=>∃r,x= .ok .fz (optD r)/\Soon n ps a hs last r) (QaP [netD n ps, .int a,hsD hs, .int last]) rfl ?_
 have hf:=Ql9 (h:=a) ok hp ha
 have n8:=ok.n8
 simp(disch:=first|omega|rfl) [ev0,Qde,hf]
 rw[QnG]
 refine QaA (Qsx n ps a hs last) ?_ ?_ ⟨[],_,_,_,rfl,by simp,by simp,fun v hv hx=>absurd (List.mem_range.2 hv) hx⟩
 .rintro v xs _ ⟨pre,hpre⟩ ⟨l,x5,x6,x7,rfl,hl,hm,hc⟩
  have hv:v<n:=List.mem_range.1 (by rw[hpre];simp)
  refine⟨_,rfl,?_⟩
  obtain⟨r,hr,so⟩:=Qh2 (h:=v) ok aa hv o
  have hL:l.length<LIM:=by simp at hl;simp[LIM];omega
  have keep:(∀y,SumR n ps a hs v y->¬y<=last)->∀x5 x6 x7,Qsx n ps a hs last xs [some (.fz,netD n ps),some (.fz, .int a),some (.fz,hsD hs),some (.fz, .int (last:Nat)),some (.ow, .lst (l.map D.int)),x5,x6,x7]:=fun hno x5 x6 x7=>by
   refine⟨l,_,_,_,rfl,by simp at hl;omega,hm,fun w hw hx y s hy=>?_⟩
   by_cases q:w=v
   .subst q;exact absurd hy (hno y s)
   .exact hc w hw (by simp[q,hx]) y s hy
  generalize hF:fwF n ps a v=F
  cases F with
  |none=>
   simp(disch:=first|omega|rfl) [Q8,hr]
   exact keep (fun y ⟨c,m,e,_⟩=>by rw[hF]at e;cases e) _ _ _
  |some c=>
   cases r with
   |none=>
    simp(disch:=first|omega|rfl) [Q8,hr]
    exact keep (fun y ⟨c,m,_,e,_⟩=>by cases so.uniq e) _ _ _
   |some m=>
    by_cases hle:c+m<=last
    .simp(disch:=first|omega|rfl) [Q8,hr,hle,hL]
     refine⟨l++ [c+m],some (.fz, .int v),some (.fz, .int c),some (.fz, .int m),by simp,by simp at hl⊢;omega,fun y hy=>?_,fun w hw hx y s hy=>?_⟩
     .rcases List.mem_append.1 hy with hy|hy
      .exact hm y hy
      .rw[List.mem_singleton.1 hy];exact⟨hle,v,hv,c,m,hF,so,rfl⟩
     .by_cases q:w=v
      .subst q
       obtain⟨c',m',e1,e2,rfl⟩:=s
       rw[hF]at e1;cases e1
       cases so.uniq e2
       simp
      .exact List.mem_append_left _ (hc w hw (by simp[q,hx]) y s hy)
    .simp(disch:=first|omega|rfl) [Q8,hr,hle]
     refine keep (fun y ⟨c',m',e1,e2,e3⟩=>?_) _ _ _
     rw[hF]at e1;cases e1
     cases so.uniq e2
     rw[e3];exact hle
 .rintro _ ⟨l,x5,x6,x7,rfl,hl,hm,hc⟩
  have hc:∀v,v<n->∀y,SumR n ps a hs v y->y<=last->y∈l:=fun v hv y s hy=>hc v hv al y s hy
  cases l with
  |nil=>
   simp(disch:=first|omega|rfl) [QlI]
   exact⟨none,rfl,Qhb fun v hv y s hy=>by simpa using hc v hv y s hy⟩
  |cons x l=>
   have e:=fun k=>Qkl (k:=k) (n:=x) (l:=l)
   simp only[List.map_cons]at e
   simp(disch:=first|omega|rfl) [e]
   refine⟨some (minL x l),rfl,QjT (fun y hy=>(hm y hy).2) hc ?_⟩
   have:=(Qe8 l x).1
   have:=(hm x al).1
   omega
end
noncomputable abbrev Qsy (p:Nat×Int):D:= .tup [.int (p.1:Nat), .int p.2]
theorem QjU:∀(us:List Nat) (xs:List D),us.length=xs.length->us.Nodup->(∀u∈us,∃c,dGet (us.map kN) xs (kN u)=some (.int c))->∃l:List (Nat×Int),QhI (us.map kN) xs=l.map Qsy/\l.map (·.1)=us/\∀p∈l,dGet (us.map kN) xs (kN p.1)=some (.int p.2)
 | [],[],_,_,_=>⟨[],rfl,rfl,by simp⟩
 | [],_::_,e,_,_=>by simp at e
 |_::_,[],e,_,_=>by simp at e
 |u::us,x::xs,e,nd,h=>by
  obtain⟨nu,nd⟩:=List.nodup_cons.1 nd
  have away:∀w∈us,dGet ((u::us).map kN) (x::xs) (kN w)=dGet (us.map kN) xs (kN w):=fun w hw=>by
   rw[List.map_cons,dGet,if_neg fun z=>nu (by rw[Qmb.1 z];exact hw)]
  obtain⟨l,h1,h2,h3⟩:=QjU us xs (by simpa using e) nd fun w hw=>by
   obtain⟨c,hc⟩:=h w (by simp[hw])
   exact⟨c,by rw[←away w hw];exact hc⟩
  obtain⟨c,hc⟩:=h u al
  have hx:x= .int c:=by rw[List.map_cons,dGet,if_pos rfl]at hc;exact Option.some.inj hc
  subst hx
  refine⟨(u,c)::l,?_,by simp[h2],fun p hp=>?_⟩
  .rw[List.map_cons,List.map_cons,←h1];rfl
  .rcases List.mem_cons.1 hp with rfl|hp
   .exact hc
   .rw[away p.1 (by rw[←h2];exact List.mem_map.2 ⟨p,hp,rfl⟩)];exact h3 p hp
theorem DB.items {n:Nat}{ks:List Key}{xs:List D}{b:Net.B}(h:DB n ks xs b):∃l:List (Nat×Int),QhI ks xs=l.map Qsy/\l.length<=n/\(∀p∈l,p.1<n/\Net.val b p.1=some p.2)/\∀v,v<n->∀c,Net.val b v=some c->(v,c)∈l:=by
 have hs:=h.small
 obtain⟨us,rfl,nd,hu⟩:=h.keys
 have val:∀u∈us,∃c,Net.val b u=some c/\dGet (us.map kN) xs (kN u)=some (.int c):=fun u hm=>by
  have e:=h.at_ u (hu u hm)
  cases q:Net.val b u with
  |none=>rw[q]at e;exact absurd e (Qfz h.len (List.mem_map.2 ⟨u,hm,rfl⟩))
  |some c=>rw[q]at e;exact⟨c,rfl,e⟩
 obtain⟨l,h1,h2,h3⟩:=QjU us xs (by simpa using h.len) nd fun u hm=>let ⟨c,_,e⟩:=val u hm;⟨c,e⟩
 have mem:∀p∈l,p.1∈us:=fun p hp=>by rw[←h2];exact List.mem_map.2 ⟨p,hp,rfl⟩
 have at_:∀p∈l,Net.val b p.1=some p.2:=fun p hp=>by
  obtain⟨c,e1,e2⟩:=val p.1 (mem p hp)
  rw[h3 p hp]at e2;cases e2;exact e1
 refine⟨l,h1,?_,fun p hp=>⟨hu _ (mem p hp),at_ p hp⟩,fun v hv c e=>?_⟩
 .have:=congrArg List.length h2;simp at this hs;omega
 .have hm:v∈us:=by
   apply Classical.byContradiction
   intro hn
   have:=h.at_ v hv
   rw[e]at this
   rw[QhC (fun z=>by obtain⟨w,hw,ew⟩:=List.mem_map.1 z;exact hn (by rw[←Qmb.1 ew];exact hw))]at this
   cases this
  obtain⟨p,hp,rfl⟩:=List.mem_map.1 (by rw[h2];exact hm:v∈l.map (·.1))
  rw[at_ p hp]at e;cases e;exact hp
section
variable {n a last:Nat}{ps:List Path}{hs:List Nat}
theorem Qsz {ds:List D}{v:Nat}{ks:List Key}{vs:List D}(o:HsG n hs)(hv:ds[v]?=some (.dK ks vs))(db:DB n ks vs (Net.leastWays n (Qo ps) v)):
  Qet (Qq 2) (eOp inD aG (eOp idxD ao av)) (eOp idxD (eOp idxD ao av) aG) [some (.fz, .lst ds),some (.fz, .int v),none] (.ok (hs.map fun(h:Nat)=>D.int h))= .ok .ow (.lst (((hs.filter fun x=>(tmF n ps v x).isSome).map fun x=>(tmF n ps v x).getD 0).map D.int)):=by
 rw[List.map_map]
 refine QaZ (enc:=fun(h:Nat)=>D.int h) (fun x=>(tmF n ps v x).isSome) _ (by have:=o.2.1;simp[LIM];omega) fun x hx=>?_
 have e1:atI ds (v:Int)=some (.dK ks vs):=Qoh hv
 have e2:=db.at_ x (o.2.2 x hx)
 have e3:Net.val (Net.leastWays n (Qo ps) v) x=tmF n ps v x:=rfl
 rw[e3]at e2
 refine⟨_,rfl,⟨.fz,?_⟩,fun hp=>⟨.fz,by simp,?_⟩⟩
 .simp(disch:=first|omega|rfl) [e1,e2]
  try (cases tmF n ps v x<;>simp)
 .obtain⟨m,em⟩:=Option.isSome_iff_exists.1 hp
  rw[em]at e2
  simp(disch:=first|omega|rfl) [e1,e2,em]
noncomputable def Qqg (n:Nat)(ps:List Path)(a:Nat)(hs:List Nat)(last:Nat)(ds:List D)(xs:List (Nat×Int))(ev:Ev):Prop:=∃(k4:Kd) (l:List Int) (x6 x7 x8:_),ev= [some (.fz,netD n ps),some (.fz, .int a),some (.fz,hsD hs),some (.fz, .int (last:Nat)),some (k4, .lst ds),some (.ow, .lst (l.map D.int)),x6,x7,x8]/\(k4= .ow\/k4= .fz)/\l.length+xs.length<=n/\(∀y∈l,∃v,v<n/\SumR n ps a hs v y)/\∀v,v<n->(∀c,(v,c)∉xs)->∀y,SumR n ps a hs v y->y∈l
theorem QsA (ok:NetOk n ps)(ha:a<n)(o:HsG n hs):∃r,QdH [netD n ps, .int a,hsD hs, .int last]= .ok .fz (optD r)/\Soon n ps a hs last r:=by
 refine QD (motive:=fun x=>∃r,x= .ok .fz (optD r)/\Soon n ps a hs last r) (QdH [netD n ps, .int a,hsD hs, .int last]) rfl ?_
 obtain⟨ds,hd,dl,dat⟩:=Qqd ok
 obtain⟨ks,vs,hc,db⟩:=Qmg ok ha
 obtain⟨l0,hit,ll,lm,lc⟩:=db.items
 have n8:=ok.n8
 simp(disch:=first|omega|rfl) [ev0,QiF,hd,hc,hit]
 refine QaA (Qqg n ps a hs last ds) ?_ ?_ ⟨_,[],_,_,_,rfl, .inl rfl,by simpa using ll,by simp,fun v hv hx y ⟨c,m,e,_⟩=>absurd (lc v hv c e) (hx c)⟩
 .rintro⟨v,c⟩ xs _ ⟨pre,hpre⟩ ⟨k4,l,x6,x7,x8,rfl,hk,hl,hm,hcv⟩
  obtain⟨hv,hF⟩:=lm (v,c) (by rw[hpre];simp)
  have hF:fwF n ps a v=some c:=hF
  refine⟨_,rfl,?_⟩
  obtain⟨ks',vs',hdv,db'⟩:=dat v hv
  have far:=Qsz o hdv db'
  have hL:l.length<LIM:=by simp at hl;simp[LIM];omega
  have hlen:hs.length<=LIM:=by have:=o.2.1;simp[LIM];omega
  have keep:(∀y,¬SumR n ps a hs v y)->∀x6 x7 x8,Qqg n ps a hs last ds xs [some (.fz,netD n ps),some (.fz, .int a),some (.fz,hsD hs),some (.fz, .int (last:Nat)),some (.fz, .lst ds),some (.ow, .lst (l.map D.int)),x6,x7,x8]:=fun hno x6 x7 x8=>by
   refine⟨.fz,l,_,_,_,rfl, .inr rfl,by simp at hl;omega,hm,fun w hw hx y s=>?_⟩
   by_cases q:w=v
   .subst q;exact absurd s (hno y)
   .exact hcv w hw (fun c' z=>by
     rcases List.mem_cons.1 z with e|z
     .cases e;exact q rfl
     .exact hx c' z) y s
  by_cases q:none∈hs.map (tmF n ps v)
  .have hlt:¬((((hs.filter fun x=>(tmF n ps v x).isSome).map fun x=>(tmF n ps v x).getD 0).map D.int).length:Int)=(hs.length:Int):=by
    obtain⟨x,hx,e⟩:=List.mem_map.1 q
    have:(hs.filter fun x=>(tmF n ps v x).isSome).length<hs.length:=List.length_filter_lt_length_iff_exists.2 ⟨x,hx,by simp[e]⟩
    simp;omega
   have hno:∀y,¬SumR n ps a hs v y:=fun y ⟨c',m',_,e2,_⟩=>by cases(QjO q).uniq e2
   generalize ((hs.filter fun x=>(tmF n ps v x).isSome).map fun x=>(tmF n ps v x).getD 0).map D.int=W at *
   rcases hk with rfl|rfl
   .simp(disch:=first|omega|rfl) [QbF,far,hlt]
    exact keep hno _ _ _
   .simp(disch:=first|omega|rfl) [QbF,far,hlt]
    exact keep hno _ _ _
  .obtain⟨ws,e⟩:=Qg7 q
   have hall:∀x∈hs,(tmF n ps v x).isSome=true:=fun x hx=>by
    cases z:tmF n ps v x with
    |none=>exact absurd (List.mem_map.2 ⟨x,hx,z⟩) q
    |some m=>rfl
   have ew:((hs.filter fun x=>(tmF n ps v x).isSome).map fun x=>(tmF n ps v x).getD 0)=ws:=by
    rw[List.filter_eq_self.2 hall]
    have:(hs.map (tmF n ps v)).map (fun o=>o.getD 0)=ws:=by rw[e,List.map_map];exact List.map_id ws
    rw[←this,List.map_map];rfl
   rw[ew]at far
   have hwl:ws.length=hs.length:=by simpa using(congrArg List.length e).symm
   cases ws with
   |nil=>have:=o.1;simp at hwl;omega
   |cons w ws=>
    have so:=QjP ok hv e
    have mx:=Qly (n:=w) (l:=ws)
    have hle:((((w::ws).map D.int).length:Nat):Int)=(hs.length:Int):=by rw[List.length_map,hwl]
    have next:∀x6 x7 x8,Qqg n ps a hs last ds xs [some (.fz,netD n ps),some (.fz, .int a),some (.fz,hsD hs),some (.fz, .int (last:Nat)),some (.fz, .lst ds),some (.ow, .lst (l.map D.int++ [.int (c+maxL w ws)])),x6,x7,x8]:=fun x6 x7 x8=>by
     refine⟨.fz,l++ [c+maxL w ws],x6,x7,x8,by simp, .inr rfl,by simp at hl⊢;omega,fun y hy=>?_,fun u hu hx y s=>?_⟩
     .rcases List.mem_append.1 hy with hy|hy
      .exact hm y hy
      .rw[List.mem_singleton.1 hy];exact⟨v,hv,c,_,hF,so,rfl⟩
     .by_cases q:u=v
      .subst q
       obtain⟨c',m',e1,e2,rfl⟩:=s
       rw[hF]at e1;cases e1
       cases so.uniq e2
       simp
      .exact List.mem_append_left _ (hcv u hu (fun c' z=>by
        rcases List.mem_cons.1 z with e|z
        .cases e;exact q rfl
        .exact hx c' z) y s)
    generalize (w::ws).map D.int=W at *
    rcases hk with rfl|rfl
    .simp(disch:=first|omega|rfl) [QbF,far,hle,mx,hL]
     exact next _ _ _
    .simp(disch:=first|omega|rfl) [QbF,far,hle,mx,hL]
     exact next _ _ _
 .rintro _ ⟨k4,l,x6,x7,x8,rfl,hk,hl,hm,hcv⟩
  have hcv:∀v,v<n->∀y,SumR n ps a hs v y->y∈l:=fun v hv y s=>hcv v hv al y s
  cases l with
  |nil=>
   simp(disch:=first|omega|rfl) [QcD]
   exact⟨none,rfl,Qhb fun v hv y s hy=>by simpa using hcv v hv y s⟩
  |cons x l=>
   have e:=QpH (n:=x) (l:=l)
   have hz:¬(x::l).map D.int= []:=by simp
   have key:∀b:Bool,(b=true↔last<minL x l)->Soon n ps a hs last (if b then none else some (minL x l)):=fun b hb=>by
    cases b with
    |true=>
     refine Qhb fun v hv y s hy=>?_
     have h1:=hb.1 rfl
     obtain⟨g1,g2⟩:=Qe8 l x
     rcases List.mem_cons.1 (hcv v hv y s)with rfl|hm
     .omega
     .have:=g2 y hm;omega
    |false=>exact QjT hm (fun v hv y s _=>hcv v hv y s) (by have:=mt hb.2 al;omega)
   generalize hW:(x::l).map D.int=W at *
   by_cases hgt:last<minL x l
   .simp(disch:=first|omega|rfl) [QcD,e,hz,hgt]
    exact⟨none,rfl,key true (by simp[hgt])⟩
   .simp(disch:=first|omega|rfl) [QcD,e,hz,hgt]
    exact⟨some _,rfl,key false (by simp;omega)⟩
end
section
variable {n last:Nat}{ps:List Path}{ss:List Sign}
theorem Qky (ok:NetOk n ps)(hp:ps.length<=64)(hl:last<=60)(nd:ss.Nodup)(hs:ss.length<=100):
  Qaj [netD n ps, .int last, .lst (ss.map QI)]= .ok .fz (.tup [.int last, .lst ((QcB n ps last (List.range n)).map runD), .lst ((srtS ss).map QI)]):=by
 refine QD (Qaj [netD n ps, .int last, .lst (ss.map QI)]) rfl ?_
 have e1:idxD (netD n ps) (.int 1)=some (.fz, .lst (ps.map QR)):=by simp[netD]
 simp(disch:=first|omega|rfl) [ev0,Qc9,e1]
 refine QaA (fun xs ev=>∃R x4,ev= [some (.fz,netD n ps),some (.fz, .int last),some (.fz, .lst (ss.map QI)),some (.ow, .lst (R.map runD)),x4]/\R++QJ xs last=QJ ps last) ?_ ?_ ⟨[],_,rfl,rfl⟩
 .rintro p xs _ _ ⟨R,x4,rfl,hR⟩
  refine⟨_,rfl,?_⟩
  have hr:rngW (.ok [(.fz, .int (last:Int))])= .ok (Qai 0 last):=by simp[Qiw (j:=last) (k:= .fz) aa]
  have hc:Qet (Qq 1) aV (eTup (Qc (eOp idxD ao au) (Qc (eOp idxD ao ak) (Qc av (Qc (eOp addD av ak) aNil))))) [some (.fz,QR p),none] (.ok (Qai 0 last))= .ok .ow (.lst ((Qbd p.1 p.2.1 last).map runD)):=by
   have h:=Qa0 (b:=Qq 1) (e:=eTup (Qc (eOp idxD ao au) (Qc (eOp idxD ao ak) (Qc av (Qc (eOp addD av ak) aNil))))) (ev:= [some (.fz,QR p),none]) (enc:=fun(i:Nat)=>D.int (0+i)) (l:=List.range last) (fun i=>runD (p.1,p.2.1,i,i+1)) (by simp[LIM];omega) (fun i hi=>by
    refine⟨_,rfl, .fz,by simp,?_⟩
    simp[runD,QR])
   rw[show(Qbd p.1 p.2.1 last).map runD=(List.range last).map fun i=>runD (p.1,p.2.1,i,i+1)by simp[Qbd]]
   exact h
  have hlen:=congrArg List.length hR
  have fc:QJ (p::xs) last=Qbd p.1 p.2.1 last++QJ xs last:=by simp[QJ]
  rw[fc]at hR hlen
  rw[QjS]at hlen
  simp only[List.length_append,Qej]at hlen
  have:ps.length*last<=64*60:=Nat.mul_le_mul hp hl
  have hL:R.length+(Qbd p.1 p.2.1 last).length<LIM:=by simp[LIM,Qej];omega
  simp(disch:=first|omega|rfl) [QcQ,hr,hc,hL]
  exact⟨R++Qbd p.1 p.2.1 last,by simp,by rw[List.append_assoc];exact hR⟩
 .rintro _ ⟨R,x4,rfl,hR⟩
  have hR:R=QJ ps last:=by simpa[QJ]using hR
  subst hR
  have:ps.length*last<=64*60:=Nat.mul_le_mul hp hl
  have s1:=QdM (Qmd ok last) (by rw[QjS];omega)
  rw[Qqe ok]at s1
  have s2:=QcL nd aa
  simp(disch:=first|omega|rfl) [QcR,s1,s2]
end
section
variable {n a last t:Nat}{ps:List Path}{rs:List Run}{hs:List Nat}{nm:Str}
noncomputable abbrev QfG (n:Nat)(ps:List Path)(last:Nat):List Run:=QcB n ps last (List.range n)
theorem QbL (ok:NetOk n ps){r:Run}:r∈QfG n ps last↔(r.1,r.2.1)∈ps.map ends/\r.2.2.1<last/\r.2.2.2=r.2.2.1+1:=by
 rw[Qmc,Qei]
 constructor
 .exact fun⟨_,_,h1,h2,h3⟩=>⟨h1,h2,h3⟩
 .intro⟨h1,h2,h3⟩
  obtain⟨p,hp,e⟩:=List.mem_map.1 h1
  have e1:p.1=r.1:=congrArg Prod.fst e
  have e2:p.2.1=r.2.1:=congrArg Prod.snd e
  exact⟨List.mem_range.2 (e1▸ok.s p hp),e2▸ok.g p hp,h1,h2,h3⟩
theorem Qmh {ss:List Sign}(ok:NetOk n ps)(sh:∀x∈ss,x.1<n)(snd:ss.Nodup)(snm:∀x∈ss,PyData.strOk x.2.2=true)(sl:ss.length<=100):GdT n ps last (QfG n ps last) ss:=by
 refine⟨⟨fun r hr=>?_,fun r hr=>?_,?_⟩,fun s g m l hp hle=>?_,sh,snd,snm,sl⟩
 .obtain⟨h1,h2,h3⟩:=(QbL ok).1 hr
  obtain⟨p,hp,e⟩:=List.mem_map.1 h1
  obtain⟨s,g,o⟩:=p
  cases e
  exact⟨o,hp,fun m e=>by have:=(ok.m _ hp m e).1;omega⟩
 .obtain⟨h1,h2,h3⟩:=(QbL ok).1 hr
  exact⟨by omega,by omega⟩
 .refine List.pairwise_map.2 ((QiZ n ps last).imp_of_mem fun{x y} hx hy h e=>h.2 ?_)
  obtain⟨_,_,h3⟩:=(QbL ok).1 hx
  obtain⟨_,_,h4⟩:=(QbL ok).1 hy
  obtain⟨x1,x2,x3,x4⟩:=x
  obtain⟨y1,y2,y3,y4⟩:=y
  simp only[rkey,Prod.mk.injEq]at e h3 h4⊢
  omega
 .have:=(ok.m _ hp m rfl).1
  exact⟨l+1,(QbL ok).2 ⟨List.mem_map.2 ⟨_,hp,rfl⟩,by dsimp only;omega,rfl⟩⟩
theorem Qmi (ok:NetOk n ps)(ha:a<n)(R:RunsOk ps last rs){v s w l:Nat}(y:Hears rs v s w l):∀c,fwF n ps a w=some c->c<=l->∃c',fwF n ps a v=some c'/\c'<=s:=by
 induction y with
 |self h=>exact fun c e hc=>⟨c,e,by omega⟩
 | @run r l h1 h2 h3 ih=>
  intro c e hc
  obtain⟨o,hp,_⟩:=R.path r h1
  have:=(R.turn r h1).1
  obtain⟨u,e2,h4⟩:=Net.lw_tri (Qbc ok) ha (Qgg hp) e
  exact ih u e2 aa
theorem Qh4 (ok:NetOk n ps)(ha:a<n){v s:Nat}{c:Int}(e:fwF n ps a v=some c)(hc:c<=s)(hs:s<=last):0<=c/\Hears (QfG n ps last) v s a 0:=by
 obtain⟨w0,e1⟩:=Net.val_some e
 obtain⟨hp,w⟩:=Net.lw_real (Qbc ok) ha v c w0 e1
 generalize w0.reverse=p at hp w
 have key:0<=c/\∀v,p.head?=some v->∀u:Nat,(u:Int)=c->u<=last->Hears (QfG n ps last) v u a 0:=by
  clear e e1 hp hc
  induction w with
  |one=>exact⟨by omega,fun v e u hu _=>by simp at e;subst e;exact .self aa⟩
  | @more s' g p t0 c w hm ih=>
   obtain⟨h0,ih⟩:=ih
   obtain⟨q,hq,eq⟩:=List.mem_map.1 hm
   cases eq
   refine⟨by omega,fun v e u hu hul=>?_⟩
   simp at e
   subst e
   obtain⟨l,hl⟩:=Int.eq_ofNat_of_zero_le h0
   have x:=ih q.1 al l aa aa
   have hr:(q.1,q.2.1,l,l+1)∈QfG n ps last:=(QbL ok).2 ⟨List.mem_map.2 ⟨q,hq,rfl⟩,by dsimp only;omega,rfl⟩
   exact Hears.trans (Hears.run hr (.self (by dsimp only;omega)) am) x
 refine⟨key.1,?_⟩
 obtain⟨u,hu⟩:=Int.eq_ofNat_of_zero_le key.1
 exact Hears.trans (.self aa) (key.2 v hp u aa aa)
theorem QjV {r:Option Int}(ok:NetOk n ps)(hp:ps.length<=64)(ha:a<n)(o:HsG n hs)(ht:t<=last)(R:RunsOk ps last rs)(so:Soon n ps a hs last r)(h:Hb n ps rs [((a,0,nm):Sign)] t hs):∃y,r=some y/\y<=t:=by
 obtain⟨v,s,x,hv,sr,hx,y⟩:=h
 obtain rfl:=List.mem_singleton.1 hx
 obtain⟨c,e,hc⟩:=Qmi ok ha R y 0 (Net.lw_self (Qbc ok) ha) al
 obtain⟨rv,_,sv⟩:=Qh2 (h:=v) ok hp hv o
 obtain⟨m,rfl,hm⟩:=(sv.iff s t).2 sr
 obtain⟨x,e,hx⟩:=so.le v hv (c+m) ⟨c,m,e,sv,rfl⟩ aa
 exact⟨x,e,by omega⟩
theorem Qqh {r:Option Int}(ok:NetOk n ps)(ha:a<n)(ht:t<=last)(so:Soon n ps a hs last r)(h:∃y,r=some y/\y<=t):Hb n ps (QfG n ps last) [((a,0,nm):Sign)] t hs:=by
 obtain⟨y,e,hy⟩:=h
 obtain⟨h1,v,hv,c,m,ec,sv,rfl⟩:=so.mem y e
 have hm:=sv.nn m rfl
 obtain⟨h0,_⟩:=Qh4 ok ha ec (s:=last) (last:=last) aa am
 obtain⟨s,hs'⟩:=Int.eq_ofNat_of_zero_le h0
 obtain⟨_,z⟩:=Qh4 ok ha ec (s:=s) (last:=last) aa aa
 exact⟨v,s,_,hv,(sv.iff s t).1 ⟨m,rfl,by omega⟩,List.mem_singleton.2 rfl,z⟩
end
theorem QnH (a b:Bool):neD (.bl a) (.bl b)=some (.fz, .bl (decide (a≠b))):=by cases a<;>cases b<;>rfl
noncomputable abbrev ab:Str:=Str.ofString "ab"
theorem QnI:PyData.strOk ab=true:=by decide+kernel
noncomputable abbrev evZ (ns:List Int)(n:Nat)(ps:List Path)(T:D)(nu:Int)(last a:Nat)(hs:List Nat)(x:Sign)(Y:D)(r:Option Int)(U:D)(l:Ev):Ev:=
 some (.fz, .scr aI)::some (.fz,netD n ps)::some (.fz,T)::some (.fz, .int nu)::some (.fz, .int (last:Nat))::some (.fz, .int (a:Nat))::some (.fz,hsD hs)::some (.fz,QI x)::some (.fz,Y)::some (.fz,optD r)::some (.fz,U)::l
noncomputable def InvZ (ns:List Int)(n:Nat)(ps:List Path)(T:D)(nu:Int)(last a:Nat)(hs:List Nat)(x:Sign)(Y:D)(r:Option Int)(U:D)(s11:Option (Kd×D))(_:List Nat)(ev:Ev):Prop:=∃x12 x13,ev=evZ ns n ps T nu last a hs x Y r U [s11,x12,x13]
theorem law_ok (ns:List Int)(hl:ns.length<=63):Qga [.scr aI]= .ok .fz (.bl true):=by
 obtain⟨n,ps,ok,hps,hnet⟩:=Qsm ns
 obtain⟨last,rs,ss0,gt,hlast,hrs,hss,htale⟩:=QpQ ns ok hps
 have n1:=ok.n1
 have n8:=ok.n8
 have hc5:=QgY (ns:=ns) (j:=5) (i:=5) rfl
 have hm5:=Qft (Qam ns 5) 12 aj aj
 generalize mixF (Qam ns 5) 12=nu at *
 obtain⟨a,ea,ha⟩:=QaL nu (n:=n) aa
 have hn0:(0:Int)<n:=by omega
 have hlot:=Qsv (n:=n) (m:=nu/8) n1 n8
 obtain⟨hs,ehs⟩:∃hs,hs=lotF n (nu/8):=⟨_,rfl⟩
 have o:HsG n hs:=by rw[ehs];exact⟨List.length_pos_iff.2 Qp7,by have:=Qnz (m:=nu/8) n1;omega,Qp6 n1⟩
 have hlot:QcF [.int n, .int (nu/8)]= .ok .ow (hsD hs):=by rw[hlot,ehs];rfl
 clear ehs
 have sx:∀y∈ [((a,0,ab):Sign)],y=(a,0,ab):=fun y hy=>by simpa using hy
 have g1:GdT n ps last rs [(a,0,ab)]:=⟨gt.runs,gt.due,fun y hy=>by rw[sx y hy];exact ha,by simp,fun y hy=>by rw[sx y hy];exact QnI,by simp⟩
 have g2:GdT n ps last (QfG n ps last) [(a,0,ab)]:=Qmh ok (fun y hy=>by rw[sx y hy];exact ha) al (fun y hy=>by rw[sx y hy];exact QnI) al
 obtain⟨r,hr,so⟩:=Qkx (last:=last) ok hps ha o
 obtain⟨r',hr',so'⟩:=QsA (last:=last) ok ha o
 obtain rfl:=so.uniq so'
 have hfast:=Qky (last:=last) (ss:= [((a,0,ab):Sign)]) ok hps aa al al
 have hfast:Qaj [netD n ps, .int last, .lst [QI (a,0,ab)]]= .ok .fz (Qv last (QfG n ps last) [(a,0,ab)]):=by
  have e:srtS [((a,0,ab):Sign)]= [(a,0,ab)]:=List.perm_singleton.1 srtS_perm
  rw[e]at hfast;exact hfast
 have nS:nmS ab [((a,0,ab):Sign)]= [(a,0,ab)]:=by simp[nmS]
 have each:∀t,t<=last->∃b z:Bool,(b=true↔∃y,r=some y/\y<=t)/\QcZ "holds" 3 Qax (.ok .fz (Qex hs t (QcN ab none))) (.ok [(.fz,netD n ps),(.fz,Qv last (QfG n ps last) [(a,0,ab)])])= .ok .fz (.bl b)/\QcZ "holds" 3 Qax (.ok .fz (Qex hs t (QcN ab none))) (.ok [(.fz,netD n ps),(.fz,Qv last rs [(a,0,ab)])])= .ok .fz (.bl z)/\(z=true->b=true):=fun t ht=>by
  obtain⟨b,hb,ib⟩:=Qoi ok hps hlast ht o g2 QnI
  obtain⟨z,hz,iz⟩:=Qoi ok hps hlast ht o g1 QnI
  rw[nS]at ib iz
  have ib:b=true↔∃y,r=some y/\y<=t:=ib.trans ⟨QjV ok aa ha o ht g2.runs so,Qqh ok ha ht so⟩
  exact⟨b,z,ib,hb,hz,fun e=>ib.2 (QjV ok aa ha o ht g1.runs so (iz.1 e))⟩
 have eS:D.tup [.int a, .int 0, .str ab]=QI (a,0,ab):=rfl
 have v0:=Qfw (last:=last) (rs:=rs) (ss:=ss0)
 have v1:=Qfv (last:=last) (rs:=rs) (ss:=ss0)
 have t1:D.tup [.int last, .lst (rs.map runD), .lst [QI (a,0,ab)]]=Qv last rs [(a,0,ab)]:=rfl
 have sp:∀t:Nat,D.obj "Shared" ["houses","turn","inside"] [hsD hs, .int (t:Nat), .obj "Came" ["name","by"] [.str ab, .non]]=Qex hs t (QcN ab none):=fun _=>rfl
 have nz:∀a:Bool,neD (.bl a) (.bl a)=some (.fz, .bl false):=fun a=>by rw[QnH];simp
 have lh:hs.length<=LIM:=by have:=o.2.1;simp[LIM];omega
 have rg:QlF (.ok [(.fz, .int ((last:Int)+1))])= .ok .ow (.lst ((List.range (last+1)).map fun(i:Nat)=>D.int (i:Int))):=by
  have e:((last:Int)+1).toNat=last+1:=by omega
  rw[Qne aa,QaN,e];simp
 have nn:D.tup [.int n, .lst (ps.map QR)]=netD n ps:=rfl
 have pq:pl 60 (D.tup [netD n ps,hsD hs])=true:=by
  have h5:plL 57 (ps.map QR)=true:=Qcl.2 fun d hd=>by
   obtain⟨⟨s,g,o⟩,_,rfl⟩:=List.mem_map.1 hd
   cases o<;>simp[QR,pl,plL]
  have h6:plL 58 (hs.map fun(h:Nat)=>D.int h)=true:=Qcl.2 fun d hd=>by
   obtain⟨x,hx,rfl⟩:=List.mem_map.1 hd
   simp[pl]
  simp[netD,pl,plL,h5,h6]
 have nh:neD (.tup [netD n ps,hsD hs]) (.tup [netD n ps,hsD hs])=some (.fz, .bl false):=by rw[Qlp pq pq];simp
 have nr:neD .non .non=some (.fz, .bl false):=by rw[Qlp (by simp[pl]) (by simp[pl])];simp
 have y0:idxD (.tup [netD n ps,hsD hs]) (.int 0)=some (.fz,netD n ps):=by simp
 have y1:idxD (.tup [netD n ps,hsD hs]) (.int 1)=some (.fz,hsD hs):=by simp
 have np:=Qn9 (n:=n) (ps:=ps)
 obtain⟨gg,hgg⟩:∃gg,gg=QcK:=⟨_,rfl⟩
 generalize Qv last (QfG n ps last) [(a,0,ab)]=U at *
 generalize hT1:Qv last rs [(a,0,ab)]=T1 at *
 generalize hT:Qv last rs ss0=T at *
 have tail_:∀(Y:D) (L:List Nat),(∀t∈L,t<=last)->∀{k11:Kd},(k11= .ow\/k11= .fz)->Wp (QeH (evZ ns n ps T nu last a hs (a,0,ab) Y r U [some (k11, .lst (L.map fun(i:Nat)=>D.int (i:Int))),none,none])) (runQ fun x=>x=R.ok Kd.fz (D.bl true)):=fun Y L hL {k11} hk=>by
  have go:Wp (QbE (forE (Qq 12) QcK (L.map fun(i:Nat)=>D.int (i:Int)) (evZ ns n ps T nu last a hs (a,0,ab) Y r U [some (.fz, .lst (L.map fun(i:Nat)=>D.int (i:Int))),none,none])) (retG aV)) (runQ fun x=>x=R.ok Kd.fz (D.bl true)):=by
   rw[←hgg]
   generalize hs11:some (Kd.fz,D.lst (L.map fun(i:Nat)=>D.int (i:Int)))=s11
   refine QaA (InvZ ns n ps T nu last a hs (a,0,ab) Y r U s11) ?_ ?_ ⟨_,_,rfl⟩
   .rintro t xs _ ⟨pre,hp⟩ ⟨x12,x13,rfl⟩
    obtain⟨b,z,ib,e1,e2,e3⟩:=each t (hL t (by rw[hp];simp))
    have hsp:=sp t
    generalize Qex hs t (QcN ab none)=SO at *
    refine⟨_,rfl,?_⟩
    cases r with
    |none=>
     obtain rfl:b=false:=by rw[Bool.eq_false_iff];intro e;obtain⟨m,e,_⟩:=ib.1 e;cases e
     obtain rfl:z=false:=by rw[Bool.eq_false_iff];intro e;cases e3 e
     simp(disch:=first|omega|rfl) [hgg,QcK,hsp,lh,e1,nz,QeG,v1,t1,e2]
     exact⟨_,_,rfl⟩
    |some m=>
     have eb:decide (m<=(t:Int))=b:=by
      rw[Bool.eq_iff_iff,ib,decide_eq_true_iff]
      exact⟨fun h=>⟨m,rfl,h⟩,fun⟨m',e,h⟩=>by cases e;exact h⟩
     cases z with
     |true=>
      obtain rfl:=e3 rfl
      have hlt:¬(t:Int)<m:=by have:=of_decide_eq_true eb;omega
      simp(disch:=first|omega|rfl) [hgg,QcK,hsp,lh,eb,e1,nz,QeG,v1,t1,e2,hlt]
      exact⟨_,_,rfl⟩
     |false=>
      simp(disch:=first|omega|rfl) [hgg,QcK,hsp,lh,eb,e1,nz,QeG,v1,t1,e2]
      exact⟨_,_,rfl⟩
   .rintro _ ⟨x12,x13,rfl⟩
    simp(disch:=first|omega|rfl) []
  rcases hk with rfl|rfl
  .simp(disch:=first|omega|rfl) [QeH];exact go
  .simp(disch:=first|omega|rfl) [QeH];exact go
 have hcN:Qet (Qq 2) aR aG [some (.fz, .int (last:Nat)),some (.fz, .non),none] (.ok ((List.range (last+1)).map fun(i:Nat)=>D.int (i:Int)))= .ok .ow (.lst (((List.range (last+1)).filter fun(t:Nat)=>decide ((t:Int)=last)||decide ((if(t:Int)-last<0 then-((t:Int)-last)else(t:Int)-last)<2)).map fun(i:Nat)=>D.int (i:Int))):=
  QaZ (enc:=fun(i:Nat)=>D.int (i:Int)) _ (fun(i:Nat)=>D.int (i:Int)) (by simp[LIM];omega) fun t _=>⟨_,rfl,⟨.fz,by simp(disch:=first|omega|rfl) []⟩,fun _=>⟨.fz,by simp,by simp(disch:=first|omega|rfl) []⟩⟩
 have hcS:∀f:Int,Qet (Qq 2) aR aG [some (.fz, .int (last:Nat)),some (.fz, .int f),none] (.ok ((List.range (last+1)).map fun(i:Nat)=>D.int (i:Int)))= .ok .ow (.lst (((List.range (last+1)).filter fun(t:Nat)=>decide ((t:Int)=last)||decide ((if(t:Int)-f<0 then-((t:Int)-f)else(t:Int)-f)<2)).map fun(i:Nat)=>D.int (i:Int))):=fun f=>
  QaZ (enc:=fun(i:Nat)=>D.int (i:Int)) _ (fun(i:Nat)=>D.int (i:Int)) (by simp[LIM];omega) fun t _=>⟨_,rfl,⟨.fz,by simp(disch:=first|omega|rfl) []⟩,fun _=>⟨.fz,by simp,by simp(disch:=first|omega|rfl) []⟩⟩
 have hfin:∀f:Int,∀t∈(List.range (last+1)).filter fun(t:Nat)=>decide ((t:Int)=last)||decide ((if(t:Int)-f<0 then-((t:Int)-f)else(t:Int)-f)<2),t<=last:=fun f t ht=>by
  have:=(List.mem_filter.1 ht).1
  simp at this;omega
 have hall:∀t∈List.range (last+1),t<=last:=fun t ht=>by simp at ht;omega
 refine QD (Qga [.scr aI]) rfl ?_
 simp(disch:=first|omega|rfl) [ev0,QpL,hnet,htale,hc5,hm5,v0,Qnq,Qix hn0,ea,eS,hlot,np,nn,y0,y1,hr]
 cases r with
 |none=>
  simp(disch:=first|omega|rfl) [QgT,hr',nr,nh,QgS,hfast,rg,Qnq]
  refine Qd0 (fun hq=>?_) (fun hq=>?_)
  .simp(disch:=first|omega|rfl) []
   rw[hcN]
   exact tail_ _ _ (hfin _) (.inl rfl)
  .exact tail_ _ _ hall (.inl rfl)
 |some m=>
  simp(disch:=first|omega|rfl) [QgT,hr',nr,nh,QgS,hfast,rg,Qnq]
  refine Qd0 (fun hq=>?_) (fun hq=>?_)
  .simp(disch:=first|omega|rfl) []
   rw[hcS]
   exact tail_ _ _ (hfin _) (.inl rfl)
  .exact tail_ _ _ hall (.inl rfl)
theorem QsB {P:Program}{w:World}{K:PySem.W.Frag}{h:Heap}{mg:Str->Option Value}{fa f0 f1 f2 f3 f4 f5 f6 f7 f8 f9 f10 f11 f12 f13 f14 f15 f16 f17 f18 f19 f20 f21 f22 f23 f24 f25 f26 f27 f28:Addr}(X:K.In h)(G:h.Ns mainGlobals mg)(hfa:mg "law"=some (.ref fa))
  (a0:Gf K "_law_cell_at" Qc1 f0)
  (a1:Gf K "_law_counts" Qd1 f1)
  (a2:Gf K "_law_sure" QgF f2)
  (a3:Gf K "_law_due" QgH f3)
  (a4:Gf K "_law_lot" QgJ f4)
  (a5:Gf K "_law_mix" QiI f5)
  (a6:Gf K "_law_net" QiJ f6)
  (a7:Gf K "_law_signs" Qfc f7)
  (a8:Gf K "_law_tale" QgO f8)
  (a9:Gf K "fastest" QbS f9)
  (a10:Gf K "is_less" Qda f10)
  (a11:Gf K "least_ways" Qbr f11)
  (a12:Gf K "fewest" QbI f12)
  (a13:Gf K "sure_bests" QaH f13)
  (a14:Gf K "sure_times" QaI f14)
  (a15:Gf K "surely" QcH f15)
  (a16:Gf K "soonest" Qdd f16)
  (a17:Gf K "ordered" Qdf f17)
  (a18:Gf K "come_of" Qdh f18)
  (a19:Gf K "walk_back" QbU f19)
  (a20:Gf K "heard_by" Qbh f20)
  (a21:Gf K "seen" QdK f21)
  (a22:Gf K "latest_runs" Qas f22)
  (a23:Gf K "run_key" Qdj f23)
  (a24:Gf K "slowest" QbX f24)
  (a25:Gf K "slowed" Qea f25)
  (a26:Gf K "common_steps" QaU f26)
  (a27:Gf K "end_of" Qec f27)
  (a28:Gf K "law" Qng f28)
  (z_abs:PySem.W.nsIn K mainGlobals "abs"=some none)
  (z_bool:PySem.W.nsIn K mainGlobals "bool"=some none)
  (z_enumerate:PySem.W.nsIn K mainGlobals "enumerate"=some none)
  (z_int:PySem.W.nsIn K mainGlobals "int"=some none)
  (z_isinstance:PySem.W.nsIn K mainGlobals "isinstance"=some none)
  (z_len:PySem.W.nsIn K mainGlobals "len"=some none)
  (z_list:PySem.W.nsIn K mainGlobals "list"=some none)
  (z_max:PySem.W.nsIn K mainGlobals "max"=some none)
  (z_min:PySem.W.nsIn K mainGlobals "min"=some none)
  (z_range:PySem.W.nsIn K mainGlobals "range"=some none)
  (z_sorted:PySem.W.nsIn K mainGlobals "sorted"=some none)
  {K_Sentence:Addr}
  (n_Sentence:PySem.W.nsIn K mainGlobals "Sentence"=some (some (.ref K_Sentence)))
  {K_Came:Addr}
  (n_Came:PySem.W.nsIn K mainGlobals "Came"=some (some (.ref K_Came)))
  {K_Shared:Addr}
  (n_Shared:PySem.W.nsIn K mainGlobals "Shared"=some (some (.ref K_Shared)))
  (Cl_Sentence:Cls K K_Sentence)
  (Cl_Came:Cls K K_Came)
  (na_Came_name:PySem.W.findIn K (.ref K_Came) "name"=some none)
  (na_Came_by:PySem.W.findIn K (.ref K_Came) "by"=some none)
  (Cl_Shared:Cls K K_Shared)
  (na_Shared_houses:PySem.W.findIn K (.ref K_Shared) "houses"=some none)
  (na_Shared_turn:PySem.W.findIn K (.ref K_Shared) "turn"=some none)
  (na_Shared_inside:PySem.W.findIn K (.ref K_Shared) "inside"=some none)
  {f_M_Sentence_doubt:Addr}
  (me_Sentence_doubt:Meth K K_Sentence "doubt" f_M_Sentence_doubt)
  (t_M_Sentence_doubt:Mf K "doubt" "Sentence.doubt" Qat f_M_Sentence_doubt)
  {f_M_Came_doubt:Addr}
  (me_Came_doubt:Meth K K_Came "doubt" f_M_Came_doubt)
  (t_M_Came_doubt:Mf K "doubt" "Came.doubt" Qby f_M_Came_doubt)
  {f_M_Shared_doubt:Addr}
  (me_Shared_doubt:Meth K K_Shared "doubt" f_M_Shared_doubt)
  (t_M_Shared_doubt:Mf K "doubt" "Shared.doubt" QaW f_M_Shared_doubt)
  {f_M_Sentence_holds:Addr}
  (me_Sentence_holds:Meth K K_Sentence "holds" f_M_Sentence_holds)
  (t_M_Sentence_holds:Mf K "holds" "Sentence.holds" Qav f_M_Sentence_holds)
  (me_Came_holds:Meth K K_Came "holds" f_M_Sentence_holds)
  (me_Shared_holds:Meth K K_Shared "holds" f_M_Sentence_holds)
  {f_M_Came_init:Addr}
  (mk_Came:Mk K K_Came f_M_Came_init)
  {T_M_Came_init:Addr}
  (t_M_Came_init:Tf K "__init__" "Came.__init__" QbY f_M_Came_init (.ref T_M_Came_init))
  {tc_M_Came_init:Value} {td_M_Came_init:Option Addr} {tn_M_Came_init:Nat} {ts_M_Came_init:Array (Option Value)}
  (dt_M_Came_init:K.lookup T_M_Came_init=some ⟨tc_M_Came_init,td_M_Came_init, .seq #[Value.none] tn_M_Came_init,ts_M_Came_init⟩)
  {f_M_Shared_init:Addr}
  (mk_Shared:Mk K K_Shared f_M_Shared_init)
  (t_M_Shared_init:Tf K "__init__" "Shared.__init__" Qbb f_M_Shared_init .none)
  :∃fd:FuncData,(∀(s:Shared) (v:Value),BindsTo s fd ⟨[v],[]⟩ [("_law_script",v)])/\∀base:Heap,K.In base->base.Ns mainGlobals mg->FnOk P w K mg base CX0 21 fa fd ["_law_script"] (spV0 K Qga 1):=by
 have m_abs:=PySem.W.mg_none_of X G z_abs
 have m_bool:=PySem.W.mg_none_of X G z_bool
 have m_enumerate:=PySem.W.mg_none_of X G z_enumerate
 have m_int:=PySem.W.mg_none_of X G z_int
 have m_isinstance:=PySem.W.mg_none_of X G z_isinstance
 have m_len:=PySem.W.mg_none_of X G z_len
 have m_list:=PySem.W.mg_none_of X G z_list
 have m_max:=PySem.W.mg_none_of X G z_max
 have m_min:=PySem.W.mg_none_of X G z_min
 have m_range:=PySem.W.mg_none_of X G z_range
 have m_sorted:=PySem.W.mg_none_of X G z_sorted
 have FO_Came_by:QdA K ["Came"] "by":=(QdB n_Came Cl_Came na_Came_by Qe1)
 have FO_Came_name:QdA K ["Came"] "name":=(QdB n_Came Cl_Came na_Came_name Qe1)
 have FO_Shared_houses:QdA K ["Shared"] "houses":=(QdB n_Shared Cl_Shared na_Shared_houses Qe1)
 have FO_Shared_inside:QdA K ["Shared"] "inside":=(QdB n_Shared Cl_Shared na_Shared_inside Qe1)
 have FO_Shared_turn:QdA K ["Shared"] "turn":=(QdB n_Shared Cl_Shared na_Shared_turn Qe1)
 refine Qse X G hfa a28 fun base _ F=>?_
 have z:= @cal P w K mg base h
 have C_L_cell_at:=z X G a0 fun _ F=>QhL F m_len
 have C_L_counts:=z X G a1 fun _ F=>QiL F
 have C_L_sure:=z X G a2 fun _ F=>QlM F m_range
 have C_L_due:=z X G a3 fun _ F=>Qnh F m_len m_max m_min C_L_counts C_L_sure
 have C_L_lot:=z X G a4 fun _ F=>Qni F m_range
 have C_L_mix:=z X G a5 fun _ F=>Qnj F m_range
 have C_L_net:=z X G a6 fun _ F=>Qnk F m_abs m_range C_L_cell_at C_L_mix
 have C_L_signs:=z X G a7 fun _ F=>Qkn F m_range C_L_cell_at C_L_mix
 have C_L_tale:=z X G a8 fun _ F=>QlN F m_min m_range C_L_cell_at C_L_mix C_L_signs
 have C_P_fastest:=z X G a9 fun _ F=>QhM F m_range m_sorted
 have C_P_is_less:=z X G a10 fun _ F=>QhO F
 have C_P_least_ways:=z X G a11 fun _ F=>Qfo F m_range C_P_is_less
 have C_P_fewest:=z X G a12 fun _ F=>QiM F C_P_least_ways
 have C_P_sure_bests:=z X G a13 fun _ F=>Qfp F C_P_least_ways
 have C_P_sure_times:=z X G a14 fun _ F=>Qfr F C_P_sure_bests
 have C_P_surely:=z X G a15 fun _ F=>QiN F m_max C_P_sure_times
 have C_P_soonest:=z X G a16 fun _ F=>QhP F m_enumerate m_min C_P_fewest C_P_surely
 have C_P_ordered:=z X G a17 fun _ F=>QhR F m_sorted
 have C_P_come_of:=z X G a18 fun _ F=>QhT F
 have C_P_walk_back:=z X G a19 fun _ F=>QfC F m_sorted C_P_come_of
 have C_P_heard_by:=z X G a20 fun _ F=>QgV F C_P_walk_back
 have C_P_seen:=z X G a21 fun _ F=>QlO F m_sorted C_P_heard_by
 have C_P_latest_runs:=z X G a22 fun _ F=>Qeu F m_range
 have C_P_run_key:=z X G a23 fun _ F=>QhV F
 have C_P_slowest:=z X G a24 fun _ F=>QhW F m_list m_sorted C_P_latest_runs C_P_run_key
 have C_P_slowed:=z X G a25 fun _ F=>QiP F C_P_seen C_P_slowest
 have C_P_common_steps:=z X G a26 fun _ F=>Qed F m_len C_P_ordered C_P_slowed
 have C_P_end_of:=z X G a27 fun _ F=>QiR F
 have D_doubt:∀n,Qbg P w K mg base (7+n) "doubt" 3 (Qu n):=by
  intro n;induction n with
  |zero=>exact Qgv
  |succ n ih=>exact(Qki n_Sentence Cl_Sentence me_Sentence_doubt t_M_Sentence_doubt (fun _ F=>Qdq F ih) (Qki n_Came Cl_Came me_Came_doubt t_M_Came_doubt (fun _ F=>Qfs F FO_Came_by FO_Came_name ih) (Qki n_Shared Cl_Shared me_Shared_doubt t_M_Shared_doubt (fun _ F=>Qee F C_P_common_steps C_P_end_of FO_Shared_houses FO_Shared_inside FO_Shared_turn ih) Qgv)))
 have D_doubt:Qbg P w K mg base 19 "doubt" 3 (Qu 12):=D_doubt 12
 have D_holds:Qbg P w K mg base 20 "holds" 3 Qax:=(Qki n_Sentence Cl_Sentence me_Sentence_holds t_M_Sentence_holds (fun _ F=>Qah F D_doubt) (Qki n_Came Cl_Came me_Came_holds t_M_Sentence_holds (fun _ F=>Qah F D_doubt) (Qki n_Shared Cl_Shared me_Shared_holds t_M_Sentence_holds (fun _ F=>Qah F D_doubt) Qgv)))
 have M_Came_1:MkOk P w K mg base 1 "Came" ["name","by"] QgR 3 [.non]:=mko (dvs:= [V.non]) (ds:= [Value.none]) X G n_Came Cl_Came (Qe7 na_Came_name (Qe7 na_Came_by Qn5)) mk_Came t_M_Came_init (fun _ F=>QfE F) (fun _ _ _ _ _ _=>Qhy 2 rfl fun s us kin hl=>match us,hl with| [_,_],_=>PySem.W.binds_K kin rfl dt_M_Came_init rfl rfl rfl) (.cons rfl .nil) fun F=>(.cons (by rw[Rep]) .nil)
 have M_Shared_0:MkOk P w K mg base 1 "Shared" ["houses","turn","inside"] QdL 4 []:=mko (dvs:= []) (ds:= []) X G n_Shared Cl_Shared (Qe7 na_Shared_houses (Qe7 na_Shared_turn (Qe7 na_Shared_inside Qn5))) mk_Shared t_M_Shared_init (fun _ F=>Qew F m_list) (fun _ _ _ _ _ _=>Qhy 4 rfl fun s us kin hl=>match us,hl with| [_,_,_,_],_=> .of_eq rfl) .nil fun F=> .nil
 exact Qsj F m_abs m_bool m_int m_isinstance m_list m_range C_L_cell_at C_L_due C_L_lot C_L_mix C_L_net C_L_tale C_P_fastest C_P_soonest D_holds M_Came_1 M_Shared_0
theorem walk {l:PySem.W.OpenLaw}{q:Program}{loose:List Str}{XP:(Str->Option Value)->Heap->Prop}{YP:World->Heap->Prop}{d:DefRec}{K:Params->PySem.W.Frag}(hn:l.most=some 63)(hdf:d.params.defaults= [])
  (hY:∀(w:World) (h:Heap),YP w h->(K w.params).In h)
  (F:∀(w:World) (mg:Str->Option Value) (fa:Addr) (h:Heap),(K w.params).In h->h.Ns mainGlobals mg->mg d.name=some (.ref fa)->
   ∃fd:FuncData,(∀(s:Shared) (u:Value),BindsTo s fd ⟨[u],[]⟩ [("_law_script",u)])/\∀base:Heap,(K w.params).In base->base.Ns mainGlobals mg->FnOk l.prog w (K w.params) mg base CX0 21 fa fd ["_law_script"] (spV0 (K w.params) Qga 1)):
  PySem.W.WalkO q loose XP YP l.row.toRowW d [] (fun f vs=>PySem.call f vs):=
 L2.QmB (n:=63) (k:=21) (x:="_law_script") (CX:=CX0) (sp:=fun K=>spV0 K Qga 1) hn aj hdf ⟨rfl,by decide,by decide,rfl⟩ hY F
  (fun K H a ns hl _ hS=>L3.Qr4 hS (law_ok ns hl)) fun _ _ _ _ z=>z
end My
open PySem PySem.W PyProof.Rows
set_option maxRecDepth 100000 in
set_option maxHeartbeats 0 in
theorem PySem.Challenge.cw_hearsay_k73_whole_soonest_holds : PySem.Challenge.rw_hearsay_k73_whole_soonest.Holds := by
 w_on;refine holds_law (by decide+kernel) fun said=>?_
 refine holds_open (q := My.view) (loose := [PySem.Str.ofString "Came"]) (Xt := fun s => xlAt My.view [] s && recOk PySem.Challenge.rw_hearsay_k73_whole_soonest.row.records s) (XP := XL My.view []) (Yf := Hook.obs (kHook My.fr.heap_1 My.as My.hke)) (Ya := Hook.val (kHook My.fr.heap_1 My.as My.hke)) (YP := Hook.says (kHook My.fr.heap_1 My.as My.hke)) (N := 3664) My.left (Hook.of _) (Hook.keeps _) (fun s e => xl_of s (Bool.and_eq_true_iff.mp e).1) XL.keeps (by rfl) (by rfl) (by rfl) (fun s e => recFacts_of (Bool.and_eq_true_iff.mp e).2) (by rfl) (by assumption) (by decide +kernel) ⟨rfl, rfl, rfl, rfl, rfl, by decide +kernel⟩ ?hw ?hc
 (case hw=>w_witness2)
 k_fill
 refine My.walk (l := PySem.Challenge.rw_hearsay_k73_whole_soonest) rfl rfl (fun w h Y => PySem.W.kIn_of Y) ?F
 case F=>
  intro w mg fa h KX G hmg
  refine' My.QsB KX G hmg ?a0 ?a1 ?a2 ?a3 ?a4 ?a5 ?a6 ?a7 ?a8 ?a9 ?a10 ?a11 ?a12 ?a13 ?a14 ?a15 ?a16 ?a17 ?a18 ?a19 ?a20 ?a21 ?a22 ?a23 ?a24 ?a25 ?a26 ?a27 ?a28 ?z_abs ?z_bool ?z_enumerate ?z_int ?z_isinstance ?z_len ?z_list ?z_max ?z_min ?z_range ?z_sorted ?n_Sentence ?n_Came ?n_Shared ?Cl_Sentence ?Cl_Came ?na_Came_name ?na_Came_by ?Cl_Shared ?na_Shared_houses ?na_Shared_turn ?na_Shared_inside ?me_Sentence_doubt ?t_M_Sentence_doubt ?me_Came_doubt ?t_M_Came_doubt ?me_Shared_doubt ?t_M_Shared_doubt ?me_Sentence_holds ?t_M_Sentence_holds ?me_Came_holds ?me_Shared_holds ?mk_Came ?t_M_Came_init ?dt_M_Came_init ?mk_Shared ?t_M_Shared_init
  (case a0|a1|a2|a3|a4|a5|a6|a7|a8|a9|a10|a11|a12|a13|a14|a15|a16|a17|a18|a19|a20|a21|a22|a23|a24|a25|a26|a27|a28=>(refine' ⟨?x,L3.QlD ?l ?c ?k⟩;(case x=>k_is);(case l=>k_is);(case c=>k_is);(case k=>k_is)))
  (case z_abs|z_bool|z_enumerate|z_int|z_isinstance|z_len|z_list|z_max|z_min|z_range|z_sorted|n_Sentence|n_Came|n_Shared=>k_is)
  (case Cl_Sentence|Cl_Came=>(refine' ⟨?a,?b,?c,?d⟩;(case a=>k_is);(case b=>k_is);(case c=>k_is);(case d=>k_is)))
  (case na_Came_name|na_Came_by=>k_is)
  (case Cl_Shared=>(refine' ⟨?a,?b,?c,?d⟩;(case a=>k_is);(case b=>k_is);(case c=>k_is);(case d=>k_is)))
  (case na_Shared_houses|na_Shared_turn|na_Shared_inside=>k_is)
  (case me_Sentence_doubt=>(refine' ⟨?a,?b,?c⟩;(case a=>k_is);(case b=>k_is);(case c=>k_is)))
  (case t_M_Sentence_doubt=>(refine' L3.QlD ?l ?c ?k;(case l=>k_is);(case c=>k_is);(case k=>k_is)))
  (case me_Came_doubt=>(refine' ⟨?a,?b,?c⟩;(case a=>k_is);(case b=>k_is);(case c=>k_is)))
  (case t_M_Came_doubt=>(refine' L3.QlD ?l ?c ?k;(case l=>k_is);(case c=>k_is);(case k=>k_is)))
  (case me_Shared_doubt=>(refine' ⟨?a,?b,?c⟩;(case a=>k_is);(case b=>k_is);(case c=>k_is)))
  (case t_M_Shared_doubt=>(refine' L3.QlD ?l ?c ?k;(case l=>k_is);(case c=>k_is);(case k=>k_is)))
  (case me_Sentence_holds=>(refine' ⟨?a,?b,?c⟩;(case a=>k_is);(case b=>k_is);(case c=>k_is)))
  (case t_M_Sentence_holds=>(refine' L3.QlD ?l ?c ?k;(case l=>k_is);(case c=>k_is);(case k=>k_is)))
  (case me_Came_holds|me_Shared_holds=>(refine' ⟨?a,?b,?c⟩;(case a=>k_is);(case b=>k_is);(case c=>k_is)))
  (case mk_Came=>(refine' ⟨?a,?b,?c,?d⟩;(case a=>k_is);(case b=>k_is);(case c=>k_is);(case d=>k_is)))
  (case t_M_Came_init=>(refine' L3.Qsd ?l ?c;(case l=>k_is);(case c=>k_is)))
  (case dt_M_Came_init=>k_is)
  (case mk_Shared=>(refine' ⟨?a,?b,?c,?d⟩;(case a=>k_is);(case b=>k_is);(case c=>k_is);(case d=>k_is)))
  (case t_M_Shared_init=>(refine' L3.Qsd ?l ?c;(case l=>k_is);(case c=>k_is)))
