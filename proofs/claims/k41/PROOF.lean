import PyProof.Rows.All
import Wide.All
import OpenK.AllK
import Wide.FinOn
import Lean
import PyProof.EqAt
import PyProof.EqKinds
import PyProof.TupleCall
import KE.KSortTup
import PyProof.Rows.CountFlat
import PyProof.SliceStr2
import KE.RegKIsAll
import PyProof.ListRange
import PySem.Challenge.RW_hearsay_k41_whole_doubts_walked
set_option maxRecDepth 100000
namespace Lean
def zA (c:Array Term):Term:=if c.size==1 then c[0]! else Syntax.mkApp c[0]! (c.extract 1 c.size)
def zO (o:String)(d c:Array Term):MacroM (Array Term):=do
 if c.isEmpty then return d
 let r:=zA c
 if o=="" then return d.push r
 let l:=d.back!
 let v<-match o with
  |"+"=>`($l + $r)
  |"-"=>`($l - $r)
  |"×"=>`($l × $r)
  |"::"=>`($l :: $r)
  |"++"=>`($l ++ $r)
  |"=="=>`($l == $r)
  |_=>`($l → $r)
 return d.pop.push v
def zB (s:String):MacroM Term:=do
 let mut D:Array (Array Term):=#[#[]]
 let mut C:Array (Array Term):=#[#[]]
 let mut O:Array String:=#[""]
 for t in s.splitOn " " do
  if t=="("||t=="["||t=="⟨" then
   D:=D.push #[];C:=C.push #[];O:=O.push ""
  else if t==")"||t=="]"||t=="⟩" then
   let a<-zO O.back! D.back! C.back!
   D:=D.pop;C:=C.pop;O:=O.pop
   let v<-if t=="]" then `([$a,*]) else if t=="⟩" then `(⟨$a,*⟩) else if a.size==1 then `(($(a[0]!))) else let b:=a.extract 1 a.size;`(($(a[0]!),$b,*))
   C:=C.set! (C.size-1) (C.back!.push v)
  else if t=="," then
   D:=D.set! (D.size-1) (<-zO O.back! D.back! C.back!);C:=C.set! (C.size-1) #[];O:=O.set! (O.size-1) ""
  else if ["+","-","×","::","++","==","->"].contains t then
   D:=D.set! (D.size-1) (D.back!.push (zA C.back!));C:=C.set! (C.size-1) #[];O:=O.set! (O.size-1) t
  else
   let c:=t.front
   let v:Term<-if c=='"' then pure (Syntax.mkStrLit (t.splitOn "\"")[1]!) else if c.isDigit then pure (Syntax.mkNumLit t) else if t=="_" then `(_) else if c=='.' then let i:=mkIdent (t.drop 1).toName;`(.$i:ident) else pure (mkIdent t.toName)
   C:=C.set! (C.size-1) (C.back!.push v)
 let a<-zO O.back! D.back! C.back!
 `(($(a[0]!)))
def zt:String:="
af conR ( .int 1 )
aj conR ( .int 0 )
ak Qh hu ( Qb 0 ) Qd
am model X.prog X.w
ap varR 0
au conR ( .int 2 )
av s.heap.objs.size + 1
aw Nat.le_refl _
ax varR 1
ay arrOf st
az Qh hu ( Qb 1 ) Qd
aB Addr × Obj
aC Option Nat
aD hr.mono ah
aE .ListComp elt [ ⟨ target , iter , ifs , 0 ⟩ ] scope pos
aF QA ps last E rs
aG varR 2
aH .lst xs
aI ns.map D.int
aK hr.mono aa
aL arrOf st'
aM retG ( conR ( .bl false ) )
aN cxC X N' scope s3.heap.objs.size s3 ( upd H2 s₂.heap.objs.size ( .lst [ ] ) ) fp
aO model prog w
aP .builtin \"object.__class__\"
aQ varR 3
aR eOp idxD ap aj
aS conR ( .int 3 )
aT .bl true
aU eOp idxD ap af
aV cxC X N' scope C s H fp
aW conR .non
aX Qa ( Qb 2 ) Qe
aY Str.ofString \"either\"
aZ starEach es X.env
bd e :: es
bf Str.ofString \"both\"
bj Qc aG aNil
bm Kd × D
bp v_fn C_r aK ( Qa ak ( Qa ( Qb 1 ) ( Qa ( Qb 2 ) ( Qa ( Qh hu ( Qb 3 ) Qd ) Qe ) ) ) )
bq Str.ofString \"first\"
br Qb 0
bu seqObj \"list\" its.toArray 0
bv .ref a
bw Qi ( Qn v_bl )
bx varR 4
bz .Name x p
bA c_eq hu
bB .str ( Str.ofString \"came\" )
bC some ( .fz , d )
bD eOp idxD ap au
bE varR 5
bF Str.ofString \"knows\"
bG varR 7
bH tV K F0 H0 Ψ f
bI v_fn C_L_cell_at aD ( Qa br ( Qa Qd Qe ) )
bJ Qb 3
bK eOp idxD ax af
bL Str.ofString \"shared\"
bM Str.ofString \"second\"
bN Qh hu ( Qb 2 ) Qd
bO Qb 1
bP .done ( some r , u )
bQ arrOf st''
bR List Key
bS f ev
bT EP X pins σ Q
bU A.deeper ( PyProof.Rows.envOfC qual ( Qg st ) s.heap.objs.size f cdv )
bV .ref C
bW .yield ( none , u )
bX sIx items.size items.size hi - sIx items.size 0 lo
bY eOp idxD ax aj
bZ .Call ( .Attribute o m apos ) bd [ ] pos
b5 ha pins s σ H _ I h
b6 rs.map runD
b7 List.mem_append_right _ ( List.mem_append_right _ ( Qdm hb e ) )
b8 varR 6
b9 conR ( .str ( Str.ofString \"a\" ) )
ca .ref f
cb Qq E ss
cc .builtin \"type.__call__\" ⟨ .ref C :: us , kw ⟩
cg Array Keyed
cn ss.map Qx
cp .bl false
cq he pins s σ H _ I h
cr Str.ofString \"row\"
cu Qb 4
cw .inl rfl
cx Qb 5
cy v_fn C_r aK ( Qa br ( Qa bO ( Qa ( Qb 2 ) ( Qa ( Qet bJ Qd ) ( Qa ( Qae ( QcV Qd cu ) Qd ) Qe ) ) ) ) )
cz .ok [ ( .fz , netD n ps ) , ( .fz , Qp last rs ss ) ]
cD Str.ofString \"no\"
cE HT.sIx xs.length xs.length hi - HT.sIx xs.length 0 lo
cF ev.set i ( some ( .ow , .dT ( QbB ks k ) ( QcM ks xs k d ) ) )
cG ev.set i ( some ( .ow , .dK ( QbB ks k ) ( QcM ks xs k d ) ) )
cH .done ( none , u )
cI Qp last rs ss
cJ Nat.zero_le _
cK ev.set i ( some ( .ow , .lst ( ds ++ [ d ] ) ) )
cL QJ 4 ( QJ 3 ( Qi ( Qn ( v_if ( Qk Qeu cu Qao ) Qao ( QX ( Qa QL ( Qa bJ ( Qa cu Qe ) ) ) ) ) ) ) )
cM Qb 7
cO Heap.lt_size e
cP .tup xs
cQ .int 0
cR PySem.W.fnOf x qual ( QaJ st ) ( Q4 st ) ( Qg st ) .none kV doc pm an cdv ct
cS conR aT
cT Qk bA ak QL
cU .int 1
cV sa' + na'
cW Str.ofString \"neither\"
cX rs.filter ( hR E )
cY .shared hs t a
cZ minRun' a0.size a0.size 0
dc capE cap ev
df ha pos pins s σ H _ I h
dg .ref K_Sentence
dh keywordEach [ ] X.env
di List Key × V
dk Qb 6
dl conR ( .int 4 )
dm some v
dq .int x
dt some ( .fz , d3 )
dw ev.set i ( some ( .ow , .lst ( ds.set j d ) ) )
dz apos.endLine == cpos.line
dA Str.ofString s
dB Nat.ne_of_lt ( Nat.lt_of_lt_of_le cO ( I.ok.cab x c hfn hc ) )
dC Qh hu bJ Qd
dD .Name x pos
dE v_fn C_r aK ( Qa ak Qe )
dF ks.zip vs
dG cxOf CX P w K mg base N qual scope f cdv A outer s H E
dH Str × Value
dI Qa ( Qh hu cx Qd ) ( Qa ( Qh hu cx Qd ) Qe )
dJ .knows h t a
dL .Call bz bd [ ] pos
dM some ( k , d )
dN Str.ofString \"may\"
dO Qc ( conR ( .ty \"tuple\" ) ) aNil
dP Qg st
dQ .refl s
dR Int × Option Run
dS .tup ( k.map kV )
dU lo + n
dW lo + k
dX PySem.W.instObj C s.heap.objs.size
dY .str x
dZ Qc aQ aNil
ee Qb 2
ef .bl b
eg wpAny_pure ⟨ _ , rfl , wpAny_pure h ⟩
er netD n ps
eA c_ne hu
eB Qc ax bj
eC Qa bO aX
eD Nat.lt_of_lt_of_le cO I.ok.above
eE .type \"object\"
eF .int y
eG .ins C dx fs
eI ss.filter ( hS E )
eJ Qa QL ( Qa QL Qe )
eK Ev -> R
eL ats arr ( base + i )
eM some bV
eN ps.map Qan
eO fs ev
eP ev.set i ( some ( .fz , .int ( a + b ) ) )
eQ arrOf st2
eR Option bm
eS Nat.lt_irrefl _
eT List D
eU .ok k ( .obj \"Shared\" [ \"houses\" , \"turn\" , \"inside\" ] [ a , b , c ] )
eV .int 2
eW Str × NameKind
eX spV0 K φ n
eY bTup 3 ( Qbz ( QC 3 ) ( Qbz ( QC 4 ) ( Qbz ( QC 5 ) bNil ) ) )
eZ .builtin id
fb QgZ ( Qk c_le az ( Qh hu br az ) )
fc Qc ( eOp idxD bE aj ) ( Qc ( eOp idxD bE af ) aNil )
fe .ok k ( .obj \"Knows\" [ \"house\" , \"turn\" , \"inside\" ] [ a , b , c ] )
ff Nat.not_lt_zero _
fg ns.map V.int
fj eOp idxD aQ af
fk eOp idxD aG aj
fm Option Value
fo .dK kvs
fq eFn 2 Qo ( Qc ap ( Qc au aNil ) )
ft ats ( arrOf st4 ) j
fu some ( .builtin \"getset_descriptor.__get__\" )
fv upd H a o
fw l.map enc
fy some ( .ow , d )
fA Qds hN hv hd hcd
fB Qa bJ Qe
fC Or.inr rfl
fE Or.inl rfl
fF Str.ofString \"aaaaaaaaaaaa\"
fG varR 8
fH envOfC qual scope s.heap.objs.size f cd
fI eOp leD ( eOp idxD ax aS ) ( eOp idxD ap bK )
fJ eFn 5 r ( Qc ap ( Qc ax ( Qc aG ( Qc ( eOp subD aQ af ) ( Qc ( eOp addD ( eOp mulD au bx ) af ) aNil ) ) ) ) )
fL Qa ( v_ty m_tuple ) Qe
fM L.map ( stD last )
fN a == sysModules
fO List.Sublist.map _ List.filter_sublist
fP Q4 st
fQ QgX rfl ( QY ( Qr 3 sc_L_good.nd ) ( QY ( Qr 4 sc_L_good.nd ) ( QY ( Qr 5 sc_L_good.nd ) QgW ) ) )
fR .BoolOp .And ( b :: rest ) pos
fS PyData.depthAll qs
fT .ref s₂.heap.objs.size
fU .ok .fz d
fV .int i
fW .frz o aH
fX eOp idxD ax au
fY eOp idxD aQ aj
fZ Qc ax aNil
ga K w.params
gh .str bf
gi ats a ( na - 1 )
gj List.foldl _ ay _
gk tVar i
gl QeD CR hr ( Qc5 0 )
gm .either a b
gr .builtin \"sorted\"
gu .ref K_Shared
gv .ins C dx ( ns.zip vs' )
gw varR 10
gy tupleKind_room_in1 hu
gz spZ K m
gA sa' + k
gB ps.zip us
gC model P w
gE ev.set i ( some ( .ow , .lst ( ds ++ es ) ) )
gF QaI P w
gG PySem.W.fnOf name qual params body scope dV kV doc pm an cdv ct
gH HT.sIx xs.length 0 lo
gI .tup vs
gJ .str aY
gL .ref fa
gM .lst ys
gN .dT kvs
gO .lst [ ]
gP .Call ( .Name \"range\" p ) [ a ] [ ] pos
gQ start N vs
gR rkey r
gS newR R
gT eval e X.env
gU ats a ( a.size - 1 )
gW Qc bx aNil
gX QaJ st
gY I.ok.hd hc
gZ .ref p
g7 .ref K_Knows
g8 .obj c ns xs
g9 .came nm u
hE .bool true
hJ eOp modD ( eOp Qbg ( eOp Qbg ap ( conR ( .int 140 ) ) ) ( eOp addD ax af ) ) aS
hU eFn 2 Qo ( Qc ap ( Qc ( eOp addD aS ( eOp modD bx ( conR ( .int 60 ) ) ) ) aNil ) )
hV v_sl cM Qex ( Qey Qd )
hW kasC_modify ( kasC_pure ( hy _ _ _ I2 ⟨ gs.kd , gs.ar , gs.pe , gs.fd ⟩ g2 ) )
hZ backTo pos ( starEach bd X.env )
h9 .UnaryOp .Not a pos
ic eOp idxD ap aS
ie ats xs j
ig ats b ( nb - 1 )
ii Qj m
ij Qa ak Qe
ik QF [ sd , netD n ps , Qp last rs ss ]
il I.hok.fresh aw
im .tup [ netD n ps , Qp last rs ss ]
io .str bF
ip .Slice none none ( some st ) p2
iq recT sp ( px1 K 0 2 )
ir recT sp ( px1 K 0 1 )
iu ev.set i bC
iw eUn negD af
iy Qi ( Qn ( QX ( Qa ee ( Qa ( QcZ m_sorted cu ) ( Qa ( QcZ m_sorted cx ) Qe ) ) ) ) )
iB Qh hu dk Qd
iC Qh hu cM Qd
iD QcN z
iE E.map D.int
iF some ( .ow , .lst ds )
iG conR ( .int 10 )
iH ats aL dW
iI QaE cx Qd
iJ .both a b
iK hi - lo
iL κ × Value
iM kvs.toArray.zip vs.toArray
iN ks j
iO g ev
iP eOp leD bK ( eOp idxD ap bY )
iQ Str × Addr
iR Qb 8
iS .ref K_Either
iT tVA K F0 H0 Ψ fs
iU PySem.W.fnOf x x gX fP dP .none kV doc pm an cdv ct
iV PySem.W.fnOf x qual gX fP dP dV kV doc pm an cdv ct
iW starEach [ ] X.env
iX i σ H Q q
iY g i j
iZ f2 ev
i4 conR ( .int 6 )
i5 Qc bD aNil
i6 QZ az
i7 I.base.keep b o e n hb hx
i8 .tup [ w0 , .ref l1 , .ref l2 ]
i9 .ok l
jc srtS ss
jd srtR rs
je some bv
jf some aP
jg Str -> Option Value
jh .type T
jj .lst vs
jl varR 9
jm hb pins s1 σ H1 _ I1 q1
jo evN aI num n ps [ some ( .fz , .int s ) , some ( .fz , .int g ) , x6 , x7 , x8 ]
jp ds.drop ( i + 1 )
jq ats xs i
ju ats a ia
jv a0.size - lo
jw Qc ax ( Qc aG ( Qc fj aNil ) )
jx Qc aR ( Qc aU ( Qc aW aNil ) )
jy Qc ( conR ( .ty \"list\" ) ) aNil
jz PySem.W.fnOf x q gX fP dP dV kV doc pm an cdv ct
jA ForInStep β
jB ForInStep W2
jC ForInStep T2
jD .own a
jE .int n
jF .int 3
jG Shared.mk ( h2.push bh ) s.gens s.drawn s.toks s.os
jH Nat.le_trans ( Nat.le_add_right _ i ) ( Nat.le_succ _ )
jI lo + m
jJ Qc ( eOp idxD aQ au ) aNil
jK k.pl ok hd' o g
jL f1 ev
jM Qs 12
jN Qb 10
jO Nat.le_of_eq hn
jP .ok .ow d
jQ .ok .fz L
jR .dT mk mv
jS .dT ks xs
jT .call gL ⟨ [ .ref a ] , [ ] ⟩
jU σ.set i dm
jV hS E
jW ev11 a none dt x9 none
jX ats b ( b.size - 1 )
jY Qm 4 sc_L_ends.nd v_bl
jZ Qk eA ( QfJ m_len fB ) Qd
j2 Qj n
j3 I.base.free b o e n hx
j4 .ref K_Came
j5 .ref K_Both
j6 Str × Bool
j7 runD r
j8 lo + i
j9 iLst bK
kc gs.kd.trans kd
kg f ( .int i t ) ( .int j u )
kh eOp isND bx aW
ki eOp isND bG aW
km eOp idxD aG au
kr eOp idxD aG af
ku binaryOp .Mult
kx TP X pins σ Q
ky Str.ofString x
kA Qa8 g'.runs.nd
kB I.tok _
kC .tup l
kD .tup [ a , b , c ]
kF .str bq
kG .ref x
kH .ref s.heap.objs.size
kI .ref it
kJ .Compare a [ op ] [ b ] pos
kK vs ++ dvs
kL retG ( eTup ( Qc aG ( Qc ( QcY bx ) ( Qc ( QcY bE ) aNil ) ) ) )
kM na - at_
kN ho pins s σ H _ I h
kO ev11 a bC dt x9 none
kP Str × V
kQ Qj 12
kR Qe7 m_isinstance ( Qa ak ( Qa ( v_ty m_list ) Qe ) )
kU Qc aU aNil
kW Qc aR ( Qc aU ( Qc aG ( Qc ( eOp addD aG ax ) aNil ) ) )
kX PySem.W.instObj C dx
kY .ins C dx ( ns.zip vs )
kZ .builtin \"isinstance\"
k6 .Slice lo hi none p2
k7 .Name y py
k8 .Call ( .Attribute bz \"extend\" apos ) [ e ] [ ] cpos
k9 .Call ( .Attribute bz \"append\" apos ) [ e ] [ ] cpos
ld cutV xs lo hi
lf binaryOp .Add
lg Shared.mk h2 s.gens s.drawn s.toks s.os
lh ( p , w ) :: P.zip vs
li sIx items.size 0 lo
ln ksB b ks its.length
lq ho pins s2 σ H2 x y v u _ I2 r1 r2 q2
lr eOp eqD aR ( conR gh )
lv eOp eqD aR ( conR bB )
lw Qc aU ( Qc bD ( Qc ( eFn 1 r ( Qc ic aNil ) ) aNil ) )
ly .Call ( .Attribute e \"clear\" apos ) [ ] [ ] cpos
lD conR ( .int 7 )
lE Qae ( Qae ( QcV QL cu ) QL ) ( QcV QL ( Qet Qd cu ) )
lF Nat.succ_le_succ ( Nat.le_add_right _ _ )
lG Nat.le_of_lt ( Nat.lt_of_le_of_lt hD hk )
lH putK kvs k v
lI p2.val.later p3.st
lJ neC b o e hx
lK jn F G
lL gV K F0 H0 b
lM eOp mulD b9 ( eOp subD ( conR ( .int 11 ) ) bx )
lN eOp modD ( eOp Qbg bE ( conR ( .int 140 ) ) ) bY
lO eLst aNil
lP compareOp op
lQ Str.ofString \"none\"
lR Str.ofString \"came\"
lS Qiw I.hok eb
lT QdE hu
lU Qbl bO ( Qbl ee QiJ )
lV Nat.lt_succ_self _
lW List.range n
lX .ref D
lY .own x
lZ .Name x pos'
l5 .Attribute e f pos
l6 QfR ( Qqg ns net ps last ps1 p xs ) h Q
l7 QdD i
l8 QcQ \"holds\" 3 Qz ( eFn 1 jM bj ) ( Qc ap fZ )
l9 QcO z
md QaO na_Came_name ( QaO na_Came_by Qg8 )
mf Gs.rf _
mh lo + l
mj getMethod ov m pl
mn Nat.ne_of_lt ( Nat.lt_succ_of_lt hlt )
mo N.length - ps.length
mq List.Pairwise.sublist fO g.runs.nd
mr Key × V
ms x.above y c ( PySem.mem_of_lookup h )
mt tOp r ta tb
mw .pure dQ rv
mx truthy v
my tVT K F0 H0 Ψ f
mB tVT K F0 H0 Ψ c
mC tV K F0 H0 Ψ f2
mD tV K F0 H0 Ψ f1
mE some ( .ow , x )
mF some ( .builtin \"object.__setattr__\" )
mG if_pos h
mH hidT s₁.heap H
mI ats b ib
mJ ats ay j
mK ats ay i
mL QcJ h t E2 rs ss
mM Qc ap eB
mN Qc ( eFn 1 r kU ) ( Qc ( eFn 1 r i5 ) aNil )
mO Qb6 q hn
mP Qb 9
mQ Qa br eC
mR Qa bO Qe
mS Qa Qd Qe
mT .tup ( .str dA :: ds )
mU .frz o u
mV eLst ( Qc ( conR gh ) ( Qc ( conR gJ ) aNil ) )
mW Qbz ( QC 5 ) ( Qbz ( QC 6 ) ( Qbz ( QC 7 ) bNil ) )
mX valV kvs k
mY runF 2 ( Qw ii ) _
mZ runF 2 ( QB ii ) _
m7 k == NameKind.free
m8 h1.trans z
m9 eval iter X.env
nk backToKw pos dh
np Qk8 Qd
nq Qc gw aNil
nr Nat.ne_of_lt eD
nt I2.hok.fresh aw
nv I1.hok.fresh aw
ny .ok [ ( .fz , N ) , ( .fz , T ) ]
nA .int j
nB upd H2 s₂.heap.objs.size gO
nC QP [ N , T , H , .int t ]
nE xs.extract i j
nF us ++ ds
nG stD last ( h , QA ps last E R , Qq E S )
nH some ca
nI k.sh aa
nJ eOp idxD bG au
nK eOp idxD bG aS
nL eOp idxD b8 aj
nM ats b 0
nN Str.ofString y
nO Sn.d dJ
nP Sn.d cY
nQ Qm 7 sc_P_common_steps.nd Qd
nR QiL rfl
nS Qci m_range aX
nT Qa br ( Qa ( Qae Qd ( Qad cu Qd ) ) Qe )
nU QC 8
nV QC 1
nW .str bL
nX .refl _
nY .lst ds
nZ ats bQ dW
n5 ats aL j8
n6 Qnp Qd Qd
n9 PySem.W.methodObj ca ( .ref y )
oe Nat.sub_lt I.h0 Nat.one_pos
oh .ok k2 d2
oi .ok k ( .obj \"Either\" [ \"one\" , \"other\" ] [ a , b ] )
oj .int iN t
ol .dT ck cv
om wpAny_newObj_type eg htake
on seqObj \"tuple\" its.toArray 0
oq eval bz X.env
ot ev11 a none none none none
ou eOp Qd6 bG aW
oz cutG xs lo hi
oG conR ( .str cD )
oH conR ( .int 12 )
oI Qk QfF cM Qao
oJ QcA 0 j.toNat
oK Qa8 g.runs.nd
oM I.freeC x c e
oN seqObj \"list\" kvs.toArray e
oO kR3 r
oP eOp eqD ( eOp modD jl aS ) aj
oQ eFn 2 Qo ( Qc ap ( Qc aj aNil ) )
oR QfR ( QnW ns num n s xs ) h Q
oT QbA 1
oU Nat.sub_lt hj Nat.one_pos
oV List.mem_cons_of_mem _ hw
oW .ok k ( .obj \"Both\" [ \"one\" , \"other\" ] [ a , b ] )
oX .dT [ ] [ ]
oY .Call ( .Name \"len\" p ) [ e ] [ ] pos
oZ v_fn C_L_mix aD ( Qa bI mS )
o1 tupleKind gF
o2 srtS ss0
o3 srtR rs0
o4 some k
o5 h pos pins s σ H _ I hq
o6 eval o X.env
o7 ev11 a bC none none none
o8 eOp powD iG ( conR ( .int 50 ) )
o9 Qx x
ph QcK Qe
px Qc aQ gW
pz Qa7 ns 2
pG Qa7 ns 1
pH Qa7 ns 0
pI Qa jN Qe
pJ Qa dE Qe
pK Qa cu Qe
pL Qa az Qe
pM Nat.lt_of_lt_of_le hl QS
pN List.mem_cons_of_mem _ m
pO List.mem_append_left _ z
pP .ref b
pQ .ref S
pR .ok k cp
pS .obj x ns xs
pT .lst l
pU upd H p ( .lst ( xs.set j v ) )
pV p + len
pW letOwnedTupleGo tg kI u
pX ifFl ( .ok k ( .bl t ) ) g h ev
pY eOp Qbg bE ( conR ( .int 70 ) )
pZ QcT X.env scope.names [ ]
p7 .type \"method_descriptor\"
p8 .ok k ( .obj \"Came\" [ \"name\" , \"by\" ] [ a , b ] )
p9 .ins C dx [ ]
qa .For tg iter body [ ] pos
qb lo + min jv cZ
qc hint - ofs
qd hint - lastofs
qe fs.lookup f
qf ev.set i dM
qg capS cap σ
qh Qk eA dC QL
qi QgQ h t R S
qj Qcg ( Qk bA ( Qad mP Qd ) Qd )
qk Option Bool
qm Nat × Nat
qo List.mem_reverse.mp hx
qp .type \"list\"
qq .tup [ x , .lst rs , .lst ss ]
qr .ref s3.heap.objs.size
qt .ok .fz s.o
qu .lst [ .bl true , .bl true ]
qv .Constant ( .int l ) kk q2
qw .Attribute o name apos
qx v_fn C_L_object aD fB
qy p1.val.rd.later p2.st
qz ixOf vs
qA iLst fX
qB eOp neD ( Q5 lenD dZ ) aS
qC dbtT X.K m n tab g fs
qD ats a 0
qE Sn.d g9
qF Qc ( conR ( .ty \"bool\" ) ) aNil
qG QaH h t
qH QH I.hb
qI QH I.bi
qJ QH I.ai
qK QH I.a1
qL Nat.le_of_eq sz2.symm
qM Itl K a
qN .str bM
qO .ref sl
qP .ins C dx ( putF f y fs )
qQ .ins C dx ( ns0.zip vs0 )
qR .bool b
qS .Subscript bz i' apos
qT .Constant .none j pos
qU .Compare a [ op , op' ] [ b , c ] pos
qV .BoolOp .Or ( b :: rest ) pos
qW upd H5 Dd ( .lst ( ys ++ [ v ] ) )
qX upd H' a o
qY upd H l gM
qZ setG 3 ( eOp QjB aQ iw )
rc s.trans s2
re ks i
rg hs.length + 1
rh hl pins s σ H _ I h
rj hi pins s σ H _ I h
rq hc pins s σ H _ I h
rz ha pins s σ H Q I h
rA hR E
rB h.eq _ _ aa aa aa aa
rC h pins s σ H _ I hw
rD enc x
rE conR ( .int 2147483648 )
rF c ev
rG ats ( mirror _ _ _ _ ) _
rH R.map runD
rJ Qj ( m + 1 )
rK QcQ \"holds\" 3 Qz bx fc
rL Qc fG aNil
rM Qc bG aNil
rN Qc ap aNil
rO Qb8 D_holds aD cu dI
rQ Qan p
rR Qa7 ns ( 3 + k )
rS QC 2
rT Nat.sub_pos_of_lt hb
rV Nat.sub_pos_of_lt ha
rW List.range vs.length
rX B.map bstD
rY .tup [ .str cr , .lst fM , x ]
rZ .ok .fz g8
r6 .lst [ .str bq , .str bM ]
r8 x.u2.trans x.f2.sub
r9 tSv K F0 H0 Ψ body
sf storeName X.env x u
sg intBits_le_64 h1 h2
si Str.ofString \"Shared\"
sk Str.ofString \"Either\"
sn QiA m_list ( Qa bN Qe )
sq Qea FO_Came_name br
sr PySem.W.mg_of X G a
su .While c body [ ] pos
sv .Subscript e k6 pos
sw upd H x o
sy tVT X.K F0 H0 Ψ f
sD tVT K F0 H0 Psi0 c
sE tSv X.K F0 H0 Ψ g
sF tLC cap wi g tc te
sG some w
sI some e
sJ some ( .ow , .dT ks xs )
sK setG 3 lO
sL px1 K 0 1
sM out ++ a.extract ia ( ia + k )
sN lo + min k n
sO ks.map kV
sP eOp eqD aR ( conR io )
sQ eOp eqD aR ( conR gJ )
sR d :: ds
sS clrT K ( px2 K i 1 2 )
sT clrT K ( px2 K i 1 1 )
sU ats ay dU
sV a == b
sW Str.ofString \"Knows\"
sX SqL.of h1
sY QlK ry
sZ Qi ( Qhx 3 )
tf QfR I h Q
tj QfJ m_len ( Qa dk Qe )
tm QfJ m_len ( Qa br Qe )
tp QcK eJ
tq Qby gl
tt Qa Qao Qe
tu Q5 lenD ( Qc b8 aNil )
tw PIE X pins σ tg R
tz ForInStep.yield ok
tD E.set j x
tE .str dA :: t
tF .ref l
tG .lst x
tH .lst [ .bl za , .bl zb ]
tJ .inr ⟨ o , QhI h1 ho ⟩
tK .dT dF
tL .dK dF
tM .came x u
tN .Subscript o i pos
tO .Subscript a b pos
tP .Name \"isinstance\" p
tQ .Constant nA kk q2
tR .Constant fV j pos
tS .BoolOp .And [ a ] pos
tT tVI K F0 H0 Ψ fi
tU tV K F0 H0 Psi0 e
tW hm _ _ _ _ x mf y
tX hm _ _ _ _ x gs y
tY forE b body fw ev
tZ forE b body ds ev
t5 eSl bG oNo ( QhB au )
t6 eSl bG oNo ( QhB aS )
t7 eFld [ \"Came\" ] \"name\" ap
t8 Str.ofString \"Came\"
t9 Str.ofString \"Both\"
uc QfI g g' f1 f2 f3
ud Qea FO_Came_by br
ue Qbl ee ( Qbl bJ QiJ )
uf Qa ( v_ty m_bool ) Qe
ug Q5 Qhv ( Qc bK aNil )
uh Nat.le_of_lt I.a1
ui ForInStep.yield r
uj .BoolOp .Or [ a ] pos
uk .BinOp a op b pos
ul whlE c body n ev
um unH F F1
uo tVT K F0 H0 Ψ g
uq tSv K F0 H0 Ψ h
ur tSv K F0 H0 Ψ g
ut starEach [ e ] X.env
uu q _ _ _ z1 z2 z3
uv ns.map WData.int
uw nD b _ e
uy l.map kf
uz inplaceOp op v u
uA h ev
uB ev0 n ds
uC eFn 4 r ( Qc aU jw )
uD body ev1
uE ats gj j
uF anyT K f
uG a2.trans c2.symm
uH X.wish E
uI S.map Qx
uJ Qk2 i ev
uK QcL cap fi b f e
uL QcL cap fi b c e
uM Qc aU i5
uN QbV he pa_nil hs
uO Qad iI ( Qae bN Qd )
uP Qad ( QaE bI Qd ) Qd
uQ Qa iR Qe
uR Qa cM Qe
uS Qa ak ij
uT QO g.snd
uU Nat.ne_of_lt hlt
uV .str s :: t
uW .ok k ef
uX .ok k aT
uY .list ps
uZ .int i t
u3 .inr ⟨ o , e _ _ h ⟩
u4 .inr rfl
u5 .Tuple es x1 pos
u6 .IfExp c a b pos
u7 .Call bz [ e ] [ ] pos
u8 .BoolOp op [ a ] pos
"
def zC (n:String):MacroM Term:=do
 if n.length>3 then Macro.throwUnsupported
 let [_,r]:=zt.splitOn ("\n"++n++" ")|Macro.throwUnsupported
 zB (r.splitOn "\n").head!
end Lean
local macro_rules
|`($x:ident)=>Lean.zC x.getId.toString
set_option hygiene false
set_option compiler.extract_closed false
local macro_rules|`(aa)=>`((by omega))
local macro_rules|`(ae)=>`(⟨rfl,rfl,rfl,by decide+kernel,rfl,by decide+kernel,by decide+kernel⟩)
local macro_rules|`(ah)=>`((by decide))
local macro_rules|`(al)=>`((by simp))
local macro_rules|`(ao)=>`((by decide+kernel))
local macro_rules|`(aq)=>`(⟨rfl,by decide+kernel,by decide+kernel,by decide+kernel,rfl,by decide+kernel⟩)
local macro_rules|`(aA)=>`((.pure (.refl s) (by rw[Rep])))
local macro_rules|`(aJ)=>`((x==("__debug__":Str)))
local macro_rules|`(bh)=>`((seqObj "list" #[] 0))
set_option hygiene true
set_option compiler.extract_closed true
local macro_rules
|`(def $i:declId $s:optDeclSig $v:declVal)=>`(noncomputable def $i:declId $s:optDeclSig $v:declVal)
|`(abbrev $i:declId $s:optDeclSig $v:declVal)=>`(noncomputable abbrev $i:declId $s:optDeclSig $v:declVal)
set_option Elab.async false
set_option linter.all false
set_option maxHeartbeats 4000000
set_option maxRecDepth 100000
section
open PySem PySem.W PyProof.Rows
def My.view : Program := { PySem.Challenge.pw_hearsay_k41_whole_doubts_walked with main := { PySem.Challenge.pw_hearsay_k41_whole_doubts_walked.main with body := [1,2,3,5,7,8,9,10,12,13,14,15,16,17,18,19,20,22,23,24,25,26,27,28,29,30,31,32,33,34,35,36,37,38,39].filterMap fun i => PySem.Challenge.pw_hearsay_k41_whole_doubts_walked.main.body[i]? } }
theorem My.left_boot {p q:Program}{loose:List Str}{Xt:Shared->Bool}{α:Type}{Yf:Shared->α}{Ya:World->α}{N:Nat}(e:opening p=plainProg p.main.scope.names)(hN:Nat.ble 600 N=true)(f:∀s,fenceModules? p s=some s)
  (h:∀(w:World) (os:OsState),(topFrom treeTable p w N ⟨boot_heap w.params,Array.mk [],boot_drawn,boot_toks,os⟩).map (fun s=>(openSeen q loose (importedModules p.main.body) Xt true s,Yf s))=some (openGood q loose,Ya w)):LeftO p q loose Xt Yf Ya N:=fun w=>by
 obtain⟨⟨h0,gs,d,k,os⟩,e1,e2⟩:=Option.map_eq_some_iff.mp (boot_open e hN f w)
 obtain⟨rfl,rfl,rfl,rfl⟩:h0=boot_heap w.params/\gs=Array.mk []/\d=boot_drawn/\k=boot_toks:=by simpa using e2
 unfold openEnds
 rw[e1]
 exact h w os
local macro_rules | `(tactic| o_head $H) => `(tactic| contradiction)
set_option maxHeartbeats 0 in
theorem My.fr (_ : False) : PySem.Challenge.rw_hearsay_k41_whole_doubts_walked.Holds := by
 w_on;refine holds_law ao fun said=>?_;k_head
def My.as:List Addr:= [2,3,15,18,19,20,22,23,25,26,27,29,30,32,33,34,36,37,39,40,41,44,45,46,49,50,51,54,55,56,58,59,61,62,70,72,73,75,76,77,79,80,82,83,84,85,86,87,88,91,98,99,101,102,104,105,106,108,109,111,112,113,114,115,118,125,127,128,130,131,132,134,135,137,138,139,140,141,144,151,153,154,156,157,158,160,161,163,164,165,166,167,170,177,179,180,182,183,184,186,187,189,190,191,192,193,196,203,205,206,208,209,210,212,213,215,216,217,218,219,222,224,225,227,228,229,231,232,234,235,236,238,239,241,242,243,245,246,248,249,250,252,253,255,256,257,259,260,262,263,264,266,267,269,270,271,273,274,276,277,278,280,281,283,284,285,287,288,290,291,292,295,296,297,299,300,302,303,304,306,307,309,310,311,314,315,316,318,319,321,322,323,325,326,328,329,330,332,333,335,336,337,339,340,342,343,344,346,347,349,350,351,354,355,356,359,360]
theorem My.hke:∀P,My.as=(My.fr.heap_1 P).map (·.1):=fun _=>by kernel_rfl
set_option maxHeartbeats 0 in
theorem My.left : LeftO PySem.Challenge.pw_hearsay_k41_whole_doubts_walked My.view [PySem.Str.ofString "Came"] (fun s => xlAt My.view [] s && recOk PySem.Challenge.rw_hearsay_k41_whole_doubts_walked.row.records s) (Hook.obs (kHook My.fr.heap_1 My.as My.hke)) (Hook.val (kHook My.fr.heap_1 My.as My.hke)) 5350 :=
 My.left_boot (by kernel_rfl) ah (fun s=>by kernel_rfl) (fun w os=>by unfold topFrom;rw[PySem.W.Fast.te14082659384304107361,PySem.W.Fast.te4187177175401517315];kernel_rfl)
end
namespace L2
open PySem PySem.Spec PyProof.Rows
abbrev Key:=Sum Int Str
def QkN:Key->Value->Bool
 | .inl k,v=>Value.isInt k v
 | .inr x,v=>Value.isStrOf x v
def keyH (w:World):Key->Int
 | .inl k=>hashInt k
 | .inr x=>hashStr w x
theorem Q3:∀{k:Key} {v:Value},QkN k v=true->(∃i t,k=Sum.inl i/\v=Value.int i t)\/(∃x t,k=Sum.inr x/\v=Value.str x t)
 | .inl i,v,h=>by
  obtain⟨t,e⟩:=Value.isInt_shape (k:=i) (v:=v) h
  exact .inl ⟨i,t,rfl,e⟩
 | .inr x,v,h=>by
  obtain⟨t,e⟩:=Value.isStrOf_shape (x:=x) (v:=v) h
  exact .inr ⟨x,t,rfl,e⟩
theorem Qlo (i:Int)(t:Tok):QkN (.inl i) uZ=true:=by simp[QkN,Value.isInt]
theorem Qlp (x:Str)(t:Tok):QkN (.inr x) (.str x t)=true:=by simp[QkN,Value.isStrOf]
theorem QqH (a b:Int):decide ((Sum.inl a:Key)=Sum.inl b)=sV:=by
 by_cases e:a=b
 .subst e;simp
 .have h:¬(Sum.inl a:Key)=Sum.inl b:=fun q=>e (Sum.inl.inj q)
  rw[decide_eq_false h]
  exact(beq_eq_false_iff_ne.mpr e).symm
theorem QqI (a b:Str):decide ((Sum.inr a:Key)=Sum.inr b)=decide (a=b):=by
 by_cases e:a=b
 .subst e;simp
 .have h:¬(Sum.inr a:Key)=Sum.inr b:=fun q=>e (Sum.inr.inj q)
  rw[decide_eq_false h,decide_eq_false e]
theorem QqJ (a:Int)(b:Str):decide ((Sum.inl a:Key)=Sum.inr b)=false:=decide_eq_false (fun q=>nomatch q)
theorem QqK (a:Str)(b:Int):decide ((Sum.inr a:Key)=Sum.inl b)=false:=decide_eq_false (fun q=>nomatch q)
def QaI (prog:Program)(w:World):PySem.KeyKind prog w Key where
 is:=QkN
 hash:=keyH w
 inj:=fun v a b ha hb=>by
  rcases Q3 ha with⟨i,t,rfl,rfl⟩|⟨x,t,rfl,rfl⟩
  .rcases Q3 hb with⟨j,u,rfl,e⟩|⟨y,u,rfl,e⟩
   .injection e with e1 _;rw[e1]
   .exact nomatch e
  .rcases Q3 hb with⟨j,u,rfl,e⟩|⟨y,u,rfl,e⟩
   .exact nomatch e
   .injection e with e1 _;rw[e1]
 byValue:=fun k v h=>by
  rcases Q3 h with⟨i,t,rfl,rfl⟩|⟨x,t,rfl,rfl⟩<;>rfl
 pyHash:=fun hv h=>by
  rcases Q3 hv with⟨i,t,rfl,rfl⟩|⟨x,t,rfl,rfl⟩
  .exact wpAny_pyHash_int h
  .exact wpAny_pyHash_str h
 eqBool:=fun hu hv h=>by
  rcases Q3 hu with⟨i,t,rfl,rfl⟩|⟨x,t,rfl,rfl⟩
  .rcases Q3 hv with⟨j,u,rfl,rfl⟩|⟨y,u,rfl,rfl⟩
   .rw[QqH]at h;exact wpAny_eqBool_int h
   .rw[QqJ]at h;exact SeqAt.EqAt.int_str i t y u _ _ _ _ h
  .rcases Q3 hv with⟨j,u,rfl,rfl⟩|⟨y,u,rfl,rfl⟩
   .rw[QqK]at h;exact SeqAt.EqAt.str_int x t j u _ _ _ _ h
   .rw[QqI]at h;exact wpAny_eqBool_str h
 «strs»:=fun k x t v h=>by
  rcases Q3 h with⟨i,u,rfl,e⟩|⟨y,u,rfl,e⟩
  .exact nomatch e
  .injection e with e1 _
   subst e1
   cases v<;>rfl
theorem Qjo (prog:Program)(w:World)(i:Int)(t:Tok):(QaI prog w).is (.inl i) uZ=true:=Qlo i t
theorem Qjp (prog:Program)(w:World)(x:Str)(t:Tok):(QaI prog w).is (.inr x) (.str x t)=true:=Qlp x t
end L2
namespace L2
open PySem PySem.Spec PyProof.Rows
inductive V where
 |non|bl (b:Bool)|int (i:Int)|str (x:Str)|byt (b:Array UInt8)|flt (b:UInt64)|ref (a:Addr)|ty (n:String)
 deriving DecidableEq
def RelV:V->Value->Prop
 | .non,u=>u=Value.none
 | .bl b,u=>u=Value.bool b
 | .int i,u=>∃t,u=Value.int i t
 | .str x,u=>∃t,u=Value.str x t
 | .byt b,u=>∃t,u=Value.bytes b t
 | .flt b,u=>∃t,u=Value.float b t
 | .ref a,u=>u=Value.ref a
 | .ty n,u=>u=Value.type n
abbrev Vals:List V->List Value->Prop:=Paired RelV
theorem Vals.length {xs:List V}{us:List Value}(r:Vals xs us):xs.length=us.length:=Paired.length r
theorem Vals.get:∀{xs:List V} {us:List Value} {i:Nat} {x:V},Vals xs us->xs[i]?=some x->∃u,us[i]?=some u/\RelV x u
 |_,_,_,_, .nil,e=>by simp at e
 |_,_,0,_, .cons r _,e=>by simp at e;subst e;exact⟨_,rfl,r⟩
 |_,_,i+1,x, .cons _ t,e=>by
  obtain⟨u,h1,h2⟩:=Vals.get (i:=i) (x:=x) t (by simpa using e)
  exact⟨u,by simpa using h1,h2⟩
theorem Vals.set {x:V}{u:Value}(r:RelV x u):∀{xs:List V} {us:List Value} (i:Nat),Vals xs us->Vals (xs.set i x) (us.set i u)
 |_,_,_, .nil=> .nil
 |_,_,0, .cons _ t=> .cons r t
 |_,_,i+1, .cons q t=> .cons q (Vals.set r i t)
theorem Vals.append:∀{xs ys:List V} {us ws:List Value},Vals xs us->Vals ys ws->Vals (xs++ys) (us++ws)
 |_,_,_,_, .nil,s=>s
 |_,_,_,_, .cons r t,s=> .cons r (Vals.append t s)
theorem Vals.take:∀{xs:List V} {us:List Value} (n:Nat),Vals xs us->Vals (xs.take n) (us.take n)
 |_,_,0,_=> .nil
 |_,_,_+1, .nil=> .nil
 |_,_,n+1, .cons r t=> .cons r (Vals.take n t)
theorem Vals.drop:∀{xs:List V} {us:List Value} (n:Nat),Vals xs us->Vals (xs.drop n) (us.drop n)
 |_,_,0,r=>r
 |_,_,_+1, .nil=> .nil
 |_,_,n+1, .cons _ t=>Vals.drop n t
def RelO:Option V->Option Value->Prop
 |some v,some u=>RelV v u
 |none,none=>True
 |_,_=>False
def KV {κ:Type}:List (κ×V)->List iL->Prop:=Paired fun(p:κ×V) (q:κ×Value)=>p.1=q.1/\RelV p.2 q.2
def kV:Key->V
 | .inl i=> .int i
 | .inr x=> .str x
inductive HO where
 |lst (xs:List V)
 |tup (xs:List V)
 |dK (kvs:List mr)|dT (kvs:List di)
 |set (S:Int->Bool) (n:Nat)
 |ins (C dx:Addr) (fs:List kP)
 |own (x:Addr)
 |xd (fs:List kP)
 |met (f x:Addr)
 |rng (lo hi:Int)
 |frz (o:Obj) (u:HO)
 |tbl (ps:Array Value)
 |ext (φ:Heap->Prop)
abbrev Hp:=Addr->Option HO
def upd (H:Hp)(a:Addr)(o:HO):Hp:=fun b=>if b=a then some o else H b
theorem QN {H:Hp}{a:Addr}{o:HO}:upd H a o a=some o:=by unfold upd;rw[if_pos rfl]
theorem Qv {H:Hp}{a b:Addr}{o:HO}(h:b≠a):upd H a o b=H b:=by unfold upd;rw[if_neg h]
theorem Qtw {H:Hp}{a b:Addr}{o u:HO}(h:H a=some o)(h':H b=some u)(d:o≠u):a≠b:=by
 intro e;subst e;rw[h]at h';exact d (Option.some.inj h')
theorem Qb6 {H:Hp}{a b:Addr}{o:HO}(h:H a=some o)(h':H b=none):a≠b:=by
 intro e;subst e;rw[h]at h';cases h'
section
variable (P:Program)(w:World)
def ObjOk (H:Hp)(h:Heap)(a:Addr):HO->Prop
 | .lst xs=>xs.length<=sizeLine/\∃(its:List Value) (n:Nat),Vals xs its/\h.get? a=some {cls:= .type "list",data:= .seq its.toArray n}
 | .tup xs=>xs.length<=sizeLine/\∃its:List Value,Vals xs its/\IsTup h a its.toArray
 | .dK kvs=>kvs.length<=sizeLine/\fN=false/\∃vs,KV kvs vs/\h.DictOf gF a vs
 | .dT kvs=>kvs.length<=sizeLine/\fN=false/\∃xs:List (List Key×Addr×Value),
   Paired (fun(p:List Key×V) (q:List Key×Addr×Value)=>p.1=q.1/\H q.2.1=some (.tup (p.1.map kV))/\RelV p.2 q.2.2) kvs xs/\
   ∃o es ep,h.get? a=some o/\o.ExactDict/\o.data= .dict es ep/\es.toList=xs.map (entryOfKey o1)/\(xs.map (·.1)).Nodup
 | .set S n=>h.SetOf (intKind P w) a S n
 | .ins C dx fs=>H dx=some jD/\fs.length<=1000/\dx≠a/\h.get? a=some kX/\
   ∃mA,h.Ns1 dx mA/\(∀f,RelO qe (mA f))/\PySem.Within mA (fs.map (·.1))
 | .own _=>∃o,h.get? a=some o
 | .xd fs=>∃mA,h.Ns1 a mA/\∀f,RelO qe (mA f)
 | .rng lo hi=>∃t u v,h.get? a=some {cls:= .type "range",data:= .fields #[.int lo t, .int hi u, .int 1 v]}
 | .frz o u=>h.get? a=some o/\ObjOk H h a u
 | .tbl ps=>h.get? a=some {cls:= .none,data:= .fields ps}
 | .met f x=>h.get? a=some (PySem.W.methodObj ca kG)
 | .ext φ=>φ h/\(∃o,h.get? a=some o)/\∀h1 h2:Heap,φ h1->(∀o,h1.get? a=some o->h2.get? a=some o)->φ h2
def HOk (H:Hp)(h:Heap):Prop:=∀a o,H a=some o->ObjOk P w H h a o
end
section
variable {P:Program}{w:World}{H H':Hp}{h h':Heap}{a:Addr}{o:HO}
theorem ObjOk.lt (x:ObjOk P w H h a o):a<h.objs.size:=by
 cases o with
 |lst xs=>obtain⟨_,_,_,_,e⟩:=x;exact Heap.lt_size e
 |tup xs=>obtain⟨_,_,_,p⟩:=x;exact p.lt
 |dK kvs=>obtain⟨_,_,_,_,o,_,_,e,_⟩:=x;exact Heap.lt_size e
 |dT kvs=>obtain⟨_,_,_,_,o,_,_,e,_⟩:=x;exact Heap.lt_size e
 |set S n=>obtain⟨o,_,_,_,e,_⟩:=x;exact Heap.lt_size e
 |ins C dx fs=>obtain⟨_,_,_,e,_⟩:=x;exact Heap.lt_size e
 |own y=>obtain⟨_,e⟩:=x;exact Heap.lt_size e
 |xd fs=>obtain⟨_,⟨_,_,_,e,_⟩,_⟩:=x;exact Heap.lt_size e
 |rng lo hi=>obtain⟨_,_,_,e⟩:=x;exact Heap.lt_size e
 |frz ob u=>obtain⟨e,_⟩:=x;exact Heap.lt_size e
 |tbl ps=>exact Heap.lt_size (show h.get? a=some _ from x)
 |met f y=>exact Heap.lt_size (show h.get? a=some _ from x)
 |ext φ=>obtain⟨_,⟨_,e⟩,_⟩:=x;exact Heap.lt_size e
theorem Paired.mapP {α β:Type}{F G:α->β->Prop}:∀{l₁:List α} {l₂:List β},Paired F l₁ l₂->(∀a b,F a b->G a b)->Paired G l₁ l₂
 |_,_, .nil,_=> .nil
 |_,_, .cons r t,f=> .cons (f _ _ r) (Paired.mapP t f)
theorem ObjOk.stay (x:ObjOk P w H h a o)(k:∀b u,(b=a\/H b=some jD)->h.get? b=some u->h'.get? b=some u)
  (ho:∀b,H b=some jD->H' b=some jD) (ht:∀b xs,H b=some cP->H' b=some cP):ObjOk P w H' h' a o:=by
 induction o with
 |lst xs=>obtain⟨z,its,n,r,e⟩:=x;exact⟨z,its,n,r,k _ _ cw e⟩
 |tup xs=>obtain⟨z,its,r,ob,e,c⟩:=x;exact⟨z,its,r,ob,k _ _ cw e,c⟩
 |dK kvs=>obtain⟨z,y,vs,r,ob,es,ep,e,c⟩:=x;exact⟨z,y,vs,r,ob,es,ep,k _ _ cw e,c⟩
 |dT kvs=>
  obtain⟨z,y,xs,r,ob,es,ep,e,c⟩:=x
  exact⟨z,y,xs,Paired.mapP r fun p q z=>⟨z.1,ht _ _ z.2.1,z.2.2⟩,ob,es,ep,k _ _ cw e,c⟩
 |set S n=>obtain⟨ob,es,ep,t,e,c⟩:=x;exact⟨ob,es,ep,t,k _ _ cw e,c⟩
 |ins C dx fs=>
  obtain⟨d,z,ne,e,mA,⟨od,es,ep,e2,c⟩,r⟩:=x
  exact⟨ho _ d,z,ne,k _ _ cw e,mA,⟨od,es,ep,k _ _ (.inr d) e2,c⟩,r⟩
 |own y=>obtain⟨ob,e⟩:=x;exact⟨ob,k _ _ cw e⟩
 |xd fs=>obtain⟨mA,⟨od,es,ep,e,c⟩,r⟩:=x;exact⟨mA,⟨od,es,ep,k _ _ cw e,c⟩,r⟩
 |rng lo hi=>obtain⟨t,u,v,e⟩:=x;exact⟨t,u,v,k _ _ cw e⟩
 |frz ob u ih=>obtain⟨e,q⟩:=x;exact⟨k _ _ cw e,ih q⟩
 |tbl ps=>
  have e:h.get? a=some {cls:= .none,data:= .fields ps}:=x
  show h'.get? a=some {cls:= .none,data:= .fields ps}
  exact k a _ cw e
 |met f y=>
  have e:h.get? a=some n9:=x
  show h'.get? a=some n9
  exact k a _ cw e
 |ext φ=>obtain⟨p,⟨o,e⟩,st⟩:=x;exact⟨st _ _ p fun o q=>k _ _ cw q,⟨o,k _ _ cw e⟩,st⟩
theorem HOk.lt (x:HOk P w H h)(e:H a=some o):a<h.objs.size:=(x a o e).lt
theorem HOk.fresh (x:HOk P w H h)(e:h.objs.size<=a):H a=none:=by
 cases q:H a with
 |none=>rfl
 |some u=>exact absurd (Nat.lt_of_lt_of_le (x.lt q) e) eS
theorem HOk.kept (x:HOk P w H h)(k:∀b u,h.get? b=some u->h'.get? b=some u):HOk P w H h':=fun a o e=>
 (x a o e).stay (fun b u _ q=>k b u q) (fun _ q=>q) fun _ _ q=>q
theorem HOk.laid (x:HOk P w H h)(k:∀b u,h.get? b=some u->h'.get? b=some u)(hp:h.objs.size<=a)(new:ObjOk P w fv h' a o):HOk P w fv h':=fun b u e=>by
 have hn:=x.fresh hp
 by_cases hb:b=a
 .subst hb;rw[QN]at e;cases e;exact new
 .rw[Qv hb]at e
  exact(x b u e).stay (fun c v _ q=>k c v q) (fun c q=>by rw[Qv mO];exact q) fun c xs q=>by rw[Qv mO];exact q
end
def Rd (H:Hp)(a:Addr)(u:HO):Prop:=H a=some u\/∃o,H a=some mU
theorem Rd.ok {P:Program}{w:World}{H:Hp}{h:Heap}{a:Addr}{u:HO}(r:Rd H a u)(x:HOk P w H h):ObjOk P w H h a u:=by
 rcases r with r|⟨o,r⟩
 .exact x a u r
 .obtain⟨_,q⟩:=x a _ r
  exact q
def Mut:Option HO->Prop
 |some (.lst _)=>True
 |some (.dK _)=>True
 |some (.dT _)=>True
 |some (.set _ _)=>True
 |some (.ins _ _ _)=>True
 |some (.ext _)=>True
 |_=>False
section
variable {P:Program}{w:World}{H:Hp}{h h':Heap}{x e:Addr}{o':HO}
theorem HOk.write (ok:HOk P w H h)(mu:Mut (H x))(he:e=x\/H e=some lY)(k:∀b u,b≠e->h.get? b=some u->h'.get? b=some u)(heo:∃u,h'.get? e=some u)
  (new:ObjOk P w (upd H x o') h' x o'):HOk P w (upd H x o') h':=fun b u q=>by
 have nown:∀c y,H c=some (.own y)->c≠x:=fun c y r z=>by subst z;rw[r]at mu;exact mu
 have ntup:∀c xs,H c=some cP->c≠x:=fun c xs r z=>by subst z;rw[r]at mu;exact mu
 by_cases hb:b=x
 .subst hb;rw[QN]at q;cases q;exact new
 .rw[Qv hb]at q
  by_cases hbe:b=e
  .have q':H b=some lY:=by
    rcases he with z|z
    .exact absurd (hbe.trans z) hb
    .rw[hbe];exact z
   rw[q]at q';cases q'
   obtain⟨v,hv⟩:=heo
   exact⟨v,by rw[hbe];exact hv⟩
  .refine(ok b u q).stay (fun c v hc r=>k c v ?_ r) (fun c r=>by rw[Qv (nown c b r)];exact r) fun c xs r=>by rw[Qv (ntup c xs r)];exact r
   rcases hc with rfl|hc
   .exact hbe
   .rintro rfl
    rcases he with z|z
    .exact nown c b hc z
    .rw[hc]at z;cases z;exact hb rfl
end
structure Un (fs ex:List Addr)(H H':Hp)(h h':Heap):Prop where
 keep:∀b o,h.get? b=some o->H b=none->b∉fs->b∉ex->h'.get? b=some o
 slot:∀b o,h.get? b=some o->H b=none->b∈fs->b∉ex->∃sl,h'.get? b=some {o with slots:=sl}
 free:∀b o,h.get? b=some o->H b=none->b∉ex->H' b=none
 there:∀b o,h.get? b=some o->b∉ex->∃o',h'.get? b=some o'
 tups:∀b xs,H b=some cP->H' b=some cP
 frzs:∀b o u,H b=some mU->H' b=some mU
 tbls:∀b ps,H b=some (.tbl ps)->∃more,H' b=some (.tbl (ps++more))
section
variable {fs fs' ex ex':List Addr}{H H1 H2:Hp}{h h1 h2 h':Heap}{a x e:Addr}{o:HO}
theorem Un.any (u:Un fs ex H H1 h h1){b:Addr}{ob:Obj}(q:h.get? b=some ob)(n:H b=none)(hx:b∉ex):∃sl,h1.get? b=some {ob with slots:=sl}:=by
 by_cases hb:b∈fs
 .exact u.slot b ob q n hb hx
 .exact⟨ob.slots,u.keep b ob q n hb hx⟩
theorem Un.kept (k:∀b u,h.get? b=some u->h'.get? b=some u):Un fs ex H H h h':=
 ⟨fun b ob q _ _ _=>k b ob q,fun b ob q _ _ _=>⟨ob.slots,k b ob q⟩,fun _ _ _ n _=>n,fun b ob q _=>⟨ob,k b ob q⟩,fun _ _ q=>q,fun _ _ _ q=>q,fun _ ps q=>⟨#[],by rw[q];simp⟩⟩
theorem Un.refl:Un fs ex H H h h:=Un.kept fun _ _ q=>q
theorem Un.laid (k:∀b u,h.get? b=some u->h'.get? b=some u)(hp:h.objs.size<=a)(hn:H a=none):Un fs ex H fv h h' where
 keep:=fun b u q _ _ _=>k b u q
 slot:=fun b u q _ _ _=>⟨u.slots,k b u q⟩
 free:=fun b u q n _=>by rw[Qv (Nat.ne_of_lt (Nat.lt_of_lt_of_le (Heap.lt_size q) hp))];exact n
 there:=fun b u q _=>⟨u,k b u q⟩
 tups:=fun b xs q=>by rw[Qv mO];exact q
 frzs:=fun b u xs q=>by rw[Qv mO];exact q
 tbls:=fun b ps q=>⟨#[],by rw[Qv mO,q];simp⟩
theorem Un.write (mu:Mut (H x))(he:e=x\/H e=some lY)(k:∀b u,b≠e->h.get? b=some u->h'.get? b=some u)(heo:∃u,h'.get? e=some u):Un fs ex H sw h h':=by
 have hx:∀b,H b=none->b≠x:=fun b n z=>by subst z;rw[n]at mu;exact mu
 have hb:∀b,H b=none->b≠e:=fun b n z=>by
  subst z
  rcases he with r|r
  .exact hx b n r
  .rw[n]at r;cases r
 have hm:∀b u,H b=some u->¬Mut (some u)->b≠x:=fun b u q nm z=>by subst z;rw[q]at mu;exact nm mu
 refine⟨fun b u q n _ _=>k b u (hb b n) q,fun b u q n _ _=>⟨u.slots,k b u (hb b n) q⟩,fun b u q n _=>by rw[Qv (hx b n)];exact n,fun b u q _=>?_,
  fun b xs q=>by rw[Qv (hm b _ q fun z=>z)];exact q,fun b u xs q=>by rw[Qv (hm b _ q fun z=>z)];exact q,fun b ps q=>⟨#[],by rw[Qv (hm b _ q fun z=>z),q];simp⟩⟩
 by_cases hbe:b=e
 .subst hbe;exact heo
 .exact⟨u,k b u hbe q⟩
end
def trk (h:Heap)(H:Hp):List Addr:=(List.range h.objs.size).filter fun a=>(H a).isSome
def hidT (h:Heap)(H:Hp):Heap:=PySem.W.hideAll h (trk h H)
theorem Qlq (h:Heap)(H:Hp):(hidT h H).objs.size=h.objs.size:=PySem.W.hideAll_size _ _
theorem QmS {h:Heap}{H:Hp}{b:Addr}{o:Obj}(e:h.get? b=some o)(n:H b=none):(hidT h H).get? b=some o:=
 PySem.W.hideAll_get _ e fun hm=>by
  have q:(H b).isSome=true:=(List.mem_filter.mp hm).2
  rw[n]at q;simp at q
theorem QoG {h:Heap}{H:Hp}{b:Addr}{o:Obj}(e:(hidT h H).get? b=some o):h.get? b=some o/\H b=none:=by
 have e':h.get? b=some o:=PySem.W.of_hideAll (trk h H) e
 refine⟨e',?_⟩
 cases q:H b with
 |none=>rfl
 |some x=>
  have hm:b∈trk h H:=List.mem_filter.mpr ⟨List.mem_range.mpr (Heap.lt_size e'),by simp[q]⟩
  have z:(hidT h H).get? b=none:=PySem.W.hideAll_none (trk h H) hm
  rw[z]at e;cases e
def QoH (g h:Heap)(L:Addr):List aB:=(List.range h.objs.size).filterMap fun a=>if a=L\/(g.get? a).isSome=true then none else(h.get? a).map fun o=>(a,o)
def rest (g h:Heap)(L d:Addr):List aB:=(QoH g h L).filter fun p=>decide (p.1≠d)
end L2
namespace L2
open PySem PySem.Spec PyProof.Rows
structure Mod (K:PySem.W.Frag)(mg:Str->Option Value)(base:Heap):Prop where
 kin:K.In base
 glob:base.Ns mainGlobals mg
 blt:∃mb,base.Ns builtinsNs mb/\∀x:Str,x≠"__name__"->mb x=bootBuiltins x
 nolimit:base.NoLimit
structure Cx where
 prog:Program
 w:World
 K:PySem.W.Frag
 mg:Str->Option Value
 base:Heap
 A:Around
 N:List Str
 s₀:Shared
 H₀:Hp
 env:Env
 outer:List Env
 stack:List Env
 ex:List Addr
 fn:Str->Bool
 calm:Bool
 pn:List aB
 xe:Value->Shared->Prop
def frs (l:List Env):List Addr:=l.filterMap (·.frame)
abbrev Cx.fs (X:Cx):List Addr:=frs X.outer
def Vis (sc:Scope)(x:Str):Prop:=sc.names.lookup x=some .local\/sc.names.lookup x=some .cell\/sc.names.lookup x=some .free
def Loc (sc:Scope)(x:Str):Prop:=sc.names.lookup x=some .local\/sc.names.lookup x=some .cell
def Look (env:Env)(h:Heap)(m:Str->Option Value)(x:Str)(u:Value):Prop:=
 (env.kindOf x=some .local/\m x=some u)\/((env.kindOf x=some .cell\/env.kindOf x=some .free)/\∃c,env.cells.lookup x=some c/\h.IsCell c (some u))
structure Cx.Ok (X:Cx):Prop where
 mod:Mod X.K X.mg X.base
 kind:X.env.scope.kind= .function
 glob:X.env.globals=mainGlobals
 blt:X.env.builtins=builtinsNs
 above:X.s₀.heap.objs.size<=X.env.locals
 inj:∀x y c,X.env.cells.lookup x=some c->X.env.cells.lookup y=some c->x=y
 has:∀x,(X.env.kindOf x=some .cell\/X.env.kindOf x=some .free)->∃c,X.env.cells.lookup x=some c
 cab:∀x c,X.fn x=true->X.env.cells.lookup x=some c->X.s₀.heap.objs.size<=c
 hd:X.calm=true->X.A.handled=none
 frames:X.A.frames=some X.stack
 stk:X.stack=X.outer\/(X.stack=X.env::X.outer/\X.env.frame=some X.env.locals)
 exf:∀b∈X.ex,b≠X.env.locals/\∀x c,X.env.cells.lookup x=some c->c≠b
 bs:∀b o,X.base.get? b=some o->X.s₀.heap.get? b=some o/\X.H₀ b=none
 bsz:X.base.objs.size<=X.s₀.heap.objs.size
 noex:∀b o,X.base.get? b=some o->b∉X.ex
 exfs:∀b∈X.ex,b∉X.fs
 funs:X.s₀.heap.FunFrames X.base X.outer
 frf:∀b∈X.fs,X.H₀ b=none
structure Inv (X:Cx)(pins:List (Addr×Obj))(σ:List (Option V))(H:Hp)(s:Shared):Prop where
 ok:X.Ok
 os:s.os=X.s₀.os
 bare:AllBare s.gens
 base:Un X.fs X.ex X.H₀ H X.s₀.heap s.heap
 loc:∃m,s.heap.Ns X.env.locals m/\∀(i:Nat) (x:Str) (v:V),X.N[i]?=some x->σ[i]?=some dm->Vis X.env.scope x->∃u,RelV v u/\Look X.env s.heap m x u
 cell:∀x c,X.env.cells.lookup x=some c->∃v,s.heap.IsCell c v
 free:H X.env.locals=none
 freeC:∀x c,X.env.cells.lookup x=some c->H c=none
 pin:∀p∈X.pn++pins,s.heap.get? p.1=some p.2/\H p.1=none/\p.1≠X.env.locals/\p.1∉X.fs/\∀v,p.2.data≠ .cell v
 hok:HOk X.prog X.w H s.heap
 len:σ.length=X.N.length
section
variable {X:Cx}{pins:List (Addr×Obj)}{σ:List (Option V)}{H H':Hp}{s:Shared}{h':Heap}
theorem Cx.Ok.nofr (ok:X.Ok){b:Addr}{o:Obj}(e:X.base.get? b=some o):b∉X.fs:=fun hb=>by
 have:=(ok.funs.mem hb).1
 rw[e]at this;cases this
theorem Inv.bs (I:Inv X pins σ H s):∀b o,X.base.get? b=some o->s.heap.get? b=some o/\H b=none:=fun b o e=>
 ⟨I.base.keep b o (I.ok.bs b o e).1 (I.ok.bs b o e).2 (I.ok.nofr e) (I.ok.noex b o e),I.base.free b o (I.ok.bs b o e).1 (I.ok.bs b o e).2 (I.ok.noex b o e)⟩
theorem Inv.bk (I:Inv X pins σ H s):∀b o,X.base.get? b=some o->s.heap.get? b=some o:=fun b o e=>(I.bs b o e).1
theorem Inv.mod (I:Inv X pins σ H s):Mod X.K X.mg X.base:=I.ok.mod
theorem Inv.kIn (I:Inv X pins σ H s):X.K.In s.heap:=I.ok.mod.kin.keeps I.bk
theorem Inv.lt (I:Inv X pins σ H s):X.env.locals<s.heap.objs.size:=let ⟨_,hn,_⟩:=I.loc;hn.lt
theorem Inv.sz (I:Inv X pins σ H s):X.s₀.heap.objs.size<=s.heap.objs.size:=Nat.le_trans I.ok.above (Nat.le_of_lt I.lt)
theorem Inv.nofs (I:Inv X pins σ H s){a:Addr}(h:s.heap.objs.size<=a):a∉X.fs:=fun hb=>by
 obtain⟨_,o,ho,_⟩:=I.ok.funs.mem hb
 exact absurd (Nat.lt_of_lt_of_le (Heap.lt_size ho) (Nat.le_trans I.sz h)) eS
theorem Inv.cne (I:Inv X pins σ H s):∀x c,X.env.cells.lookup x=some c->c≠X.env.locals:=fun x c e z=>by
 obtain⟨v,o,ho,hd⟩:=I.cell x c e
 obtain⟨m,⟨o',es,ep,ho',hd',_⟩,_⟩:=I.loc
 rw[z,ho']at ho;cases ho;rw[hd']at hd;cases hd
theorem Inv.funs (I:Inv X pins σ H s):s.heap.FunFrames X.base X.outer:=by
 have all:∀(l:List Env),(∀b∈frs l,b∈X.fs)->X.s₀.heap.FunFrames X.base l->s.heap.FunFrames X.base l:=by
  intro l
  induction l with
  |nil=>intro _ _;trivial
  |cons env r ih=>
   intro hs hl
   obtain⟨hk,⟨L,o,hf,hn,ho,hd⟩,hr⟩:=hl
   have hL:L∈X.fs:=hs L (by unfold frs;rw[List.filterMap_cons,hf];exact List.mem_cons_self)
   obtain⟨sl,e⟩:=I.base.slot L o ho (I.ok.frf L hL) hL fun z=>I.ok.exfs L z hL
   exact⟨hk,⟨L,_,hf,hn,e,hd⟩,ih (fun b hb=>hs b (by unfold frs;rw[List.filterMap_cons,hf];exact List.mem_cons_of_mem _ hb)) hr⟩
 exact all X.outer (fun _ hb=>hb) I.ok.funs
theorem Inv.stack (I:Inv X pins σ H s):s.heap.FunFrames X.base X.stack:=by
 rcases I.ok.stk with e|⟨e,hf⟩
 .rw[e];exact I.funs
 .rw[e]
  obtain⟨m,hn,_⟩:=I.loc
  refine .cons (by rw[I.ok.kind];decide) hf hn ?_ I.funs
  exact Heap.get?_none_of_le (Nat.le_trans I.ok.bsz I.ok.above)
theorem Inv.stkSub (I:Inv X pins σ H s):∀b∈frs X.stack,b∈X.env.locals::X.fs:=fun b hb=>by
 rcases I.ok.stk with e|⟨e,hf⟩
 .rw[e]at hb;exact List.mem_cons_of_mem _ hb
 .rw[e]at hb
  unfold frs at hb
  rw[List.filterMap_cons,hf]at hb
  exact hb
theorem Inv.stkFree (I:Inv X pins σ H s):∀b∈frs X.stack,H b=none:=fun b hb=>by
 rcases List.mem_cons.mp (I.stkSub b hb)with e|hb
 .rw[e];exact I.free
 .obtain⟨_,o,ho,_⟩:=I.ok.funs.mem hb
  exact I.base.free b o ho (I.ok.frf b hb) fun z=>I.ok.exfs b z hb
theorem Inv.step {g':Array GenState}{t':Nat}{d':Drawn}{ch:List Addr}(I:Inv X pins σ H s)
  (hch:∀b∈ch,(b∈X.ex\/X.s₀.heap.objs.size<=b)/\b≠X.env.locals/\(∀x c,X.env.cells.lookup x=some c->c≠b)/\∀p∈X.pn++pins,p.1≠b)
  (keep:∀b o,b≠X.env.locals->b∉X.fs->b∉ch->s.heap.get? b=some o->H b=none->h'.get? b=some o)
  (slot:∀b o,b≠X.env.locals->b∈X.fs->b∉ch->s.heap.get? b=some o->H b=none->∃sl,h'.get? b=some {o with slots:=sl}) (free:∀b o,b∉ch->s.heap.get? b=some o->H b=none->H' b=none)
  (there:∀b o,b∉ch->s.heap.get? b=some o->∃o',h'.get? b=some o')
  (tups:∀b xs,H b=some cP->H' b=some cP) (frzs:∀b o u,H b=some mU->H' b=some mU) (tbls:∀b ps,H b=some (.tbl ps)->∃more,H' b=some (.tbl (ps++more)))
  (ns:∀m,s.heap.Ns X.env.locals m->h'.Ns X.env.locals m) (hok:HOk X.prog X.w H' h') (hg:AllBare g'):
  Inv X pins σ H' {s with heap:=h',gens:=g',drawn:=d',toks:=t'}:=by
 have neL:∀b o,X.s₀.heap.get? b=some o->b≠X.env.locals:=fun b o e=>Nat.ne_of_lt eD
 have neC:∀b o,X.s₀.heap.get? b=some o->b∉X.ex->b∉ch:=fun b o e hx hb=>by
  rcases(hch b hb).1 with z|z
  .exact hx z
  .exact absurd (Nat.lt_of_lt_of_le cO z) eS
 have cellK:∀x c,X.env.cells.lookup x=some c->∀v,s.heap.IsCell c v->h'.IsCell c v:=fun x c e v ⟨o,ho,hd⟩=>by
  have nch:c∉ch:=fun z=>(hch c z).2.2.1 x c e rfl
  by_cases hc:c∈X.fs
  .obtain⟨sl,q⟩:=slot c o (I.cne x c e) hc nch ho oM
   exact⟨_,q,hd⟩
  .exact⟨o,keep c o (I.cne x c e) hc nch ho oM,hd⟩
 refine⟨I.ok,I.os,hg,⟨fun b o e n hb hx=>?_,fun b o e n hb hx=>?_,fun b o e n hx=>?_,fun b o e hx=>?_,fun b xs e=>tups b xs (I.base.tups b xs e),fun b o xs e=>frzs b o xs (I.base.frzs b o xs e),fun b ps e=>?_⟩,?_,fun x c e=>?_,?_,fun x c e=>?_,fun p hp=>?_,hok,I.len⟩
 .exact keep b o (neL b o e) hb lJ i7 j3
 .obtain⟨sl,e1⟩:=I.base.slot b o e n hb hx
  obtain⟨sl',e2⟩:=slot b _ (neL b o e) hb lJ e1 j3
  exact⟨sl',e2⟩
 .obtain⟨o',e1⟩:=I.base.there b o e hx
  exact free b o' lJ e1 j3
 .obtain⟨o',e1⟩:=I.base.there b o e hx
  exact there b o' lJ e1
 .obtain⟨m1,e1⟩:=I.base.tbls b ps e
  obtain⟨m2,e2⟩:=tbls b _ e1
  exact⟨m1++m2,by rw[e2,Array.append_assoc]⟩
 .obtain⟨m,hn,hl⟩:=I.loc
  refine⟨m,ns m hn,fun i x v e1 e2 e3=>?_⟩
  obtain⟨u,r,l⟩:=hl i x v e1 e2 e3
  refine⟨u,r,?_⟩
  rcases l with l|⟨k,c,e,z⟩
  .exact .inl l
  .exact .inr ⟨k,c,e,cellK x c e _ z⟩
 .obtain⟨v,z⟩:=I.cell x c e
  exact⟨v,cellK x c e v z⟩
 .obtain⟨m,⟨o,_,_,ho,_⟩,_⟩:=I.loc
  exact free _ o (fun z=>(hch _ z).2.1 rfl) ho I.free
 .obtain⟨v,o,ho,hd⟩:=I.cell x c e
  exact free c o (fun z=>(hch c z).2.2.1 x c e rfl) ho oM
 .obtain⟨e,n,ne,nf,d⟩:=I.pin p hp
  have nch:p.1∉ch:=fun z=>(hch p.1 z).2.2.2 p hp rfl
  exact⟨keep p.1 p.2 ne nf nch e n,free p.1 p.2 nch e n,ne,nf,d⟩
theorem Inv.un {t':Nat}(I:Inv X pins σ H s)(u:Un X.fs [] H H' s.heap h')(hok:HOk X.prog X.w H' h'):Inv X pins σ H' {s with heap:=h',toks:=t'}:=by
 obtain⟨m,⟨o,es,ep,ho,r⟩,_⟩:=id I.loc
 obtain⟨sl,hL⟩:=u.any ho I.free al
 exact I.step (g':=s.gens) (d':=s.drawn) (ch:= []) (fun _ z=>nomatch z) (fun b o _ hb _ e n=>u.keep b o e n hb al) (fun b o _ hb _ e n=>u.slot b o e n hb al) (fun b o _ e n=>u.free b o e n al) (fun b o _ e=>u.there b o e al) u.tups u.frzs u.tbls (fun m' hm=>by
  obtain⟨o',es',ep',ho',r'⟩:=hm
  rw[ho]at ho';cases ho'
  exact⟨_,es',ep',hL,r'⟩) hok I.bare
theorem Inv.call {g':Array GenState}{t':Nat}{d':Drawn}{ch:List Addr}(I:Inv X pins σ H s)(u:Un (frs X.stack) ch H H' s.heap h')(hok:HOk X.prog X.w H' h')(hg:AllBare g')
  (hch:∀b∈ch,(b∈X.ex\/X.s₀.heap.objs.size<=b)/\b≠X.env.locals/\(∀x c,X.env.cells.lookup x=some c->c≠b)/\∀p∈X.pn++pins,p.1≠b):
  Inv X pins σ H' {s with heap:=h',gens:=g',drawn:=d',toks:=t'}:=by
 obtain⟨m,⟨o,es,ep,ho,r⟩,_⟩:=id I.loc
 obtain⟨sl,hL⟩:=u.any ho I.free fun z=>(hch _ z).2.1 rfl
 exact I.step (ch:=ch) hch (fun b o hL hb hc e n=>u.keep b o e n (fun z=>(List.mem_cons.mp (I.stkSub b z)).elim hL hb) hc) (fun b o _ _ hc e n=>u.any e n hc) (fun b o hc e n=>u.free b o e n hc) (fun b o hc e=>u.there b o e hc) u.tups u.frzs u.tbls (fun m' hm=>by
  obtain⟨o',es',ep',ho',r'⟩:=hm
  rw[ho]at ho';cases ho'
  exact⟨_,es',ep',hL,r'⟩) hok hg
theorem Inv.turned {t':Nat}{it:Addr}(I:Inv X pins σ H s)(k:∀b o,b≠it->s.heap.get? b=some o->h'.get? b=some o)(hn:H it=none)(hL:it≠X.env.locals)
  (h1:it∈X.ex\/X.s₀.heap.objs.size<=it) (h2:∀x c,X.env.cells.lookup x=some c->c≠it) (h3:∀p∈X.pn++pins,p.1≠it):Inv X pins σ H {s with heap:=h',toks:=t'}:=by
 have nit:∀b u,H b=some u->b≠it:=fun b u e z=>by rw[z,hn]at e;cases e
 refine I.step (g':=s.gens) (d':=s.drawn) (ch:= [it]) (fun b hb=>?_) (fun b o _ _ hc e _=>k b o (fun z=>hc (by simp[z])) e) (fun b o _ _ hc e _=>⟨o.slots,k b o (fun z=>hc (by simp[z])) e⟩) (fun _ _ _ _ n=>n)
  (fun b o hc e=>⟨o,k b o (fun z=>hc (by simp[z])) e⟩) (fun _ _ e=>e) (fun _ _ _ e=>e) (fun b ps e=>⟨#[],by rw[e];simp⟩) (fun m hm=>?_) (fun b u e=>?_) I.bare
 .have e:b=it:=by simpa using hb
  subst e
  exact⟨h1,hL,h2,h3⟩
 .obtain⟨o,es,ep,ho,r⟩:=hm
  exact⟨o,es,ep,k _ o (Ne.symm hL) ho,r⟩
 .refine(I.hok b u e).stay (fun c v hc q=>k c v ?_ q) (fun _ q=>q) fun _ _ q=>q
  rcases hc with z|z
  .rw[z];exact nit b u e
  .exact nit c _ z
theorem Inv.tok (I:Inv X pins σ H s)(t:Nat):Inv X pins σ H {s with toks:=t}:=I.un (h':=s.heap) (t':=t) Un.refl I.hok
theorem Inv.kept {t':Nat}(I:Inv X pins σ H s)(k:∀b u,s.heap.get? b=some u->h'.get? b=some u):Inv X pins σ H {s with heap:=h',toks:=t'}:=I.un (Un.kept k) (I.hok.kept k)
theorem Inv.laid {a:Addr}{o:HO}{t':Nat}(I:Inv X pins σ H s)(k:∀b u,s.heap.get? b=some u->h'.get? b=some u)(hp:s.heap.objs.size<=a)(new:ObjOk X.prog X.w fv h' a o):
  Inv X pins σ fv {s with heap:=h',toks:=t'}:=I.un (Un.laid k hp (I.hok.fresh hp)) (I.hok.laid k hp new)
theorem Inv.write {x e:Addr}{o:HO}{t':Nat}(I:Inv X pins σ H s)(mu:Mut (H x))(he:e=x\/H e=some lY)(k:∀b u,b≠e->s.heap.get? b=some u->h'.get? b=some u)(heo:∃u,h'.get? e=some u)
  (new:ObjOk X.prog X.w sw h' x o):Inv X pins σ sw {s with heap:=h',toks:=t'}:=I.un (Un.write mu he k heo) (I.hok.write mu he k heo new)
theorem Inv.pins_of {pins':List aB}(I:Inv X pins σ H s)(h:∀p∈pins',s.heap.get? p.1=some p.2/\H p.1=none/\p.1≠X.env.locals/\p.1∉X.fs/\∀v,p.2.data≠ .cell v):Inv X pins' σ H s:=
 ⟨I.ok,I.os,I.bare,I.base,I.loc,I.cell,I.free,I.freeC,fun p hp=>(List.mem_append.mp hp).elim (fun z=>I.pin p pO) (h p),I.hok,I.len⟩
theorem Qj2 {N:List Str}(hN:N.Nodup){i j:Nat}{x:Str}(a:N[i]?=some x)(b:N[j]?=some x):i=j:=by
 obtain⟨h1,e1⟩:=List.getElem?_eq_some_iff.mp a
 obtain⟨h2,e2⟩:=List.getElem?_eq_some_iff.mp b
 exact(List.getElem_inj hN).mp (e1.trans e2.symm)
theorem Qlr {M:Model}{A:Around}{E:Value->Shared->Prop}{i:Nat}{x:Str}{v:V}{u:Value}{Q:Unit->Shared->Prop}(I:Inv X pins σ H s)(hN:X.N.Nodup)(hi:X.N[i]?=some x)(hx:Loc X.env.scope x)(r:RelV v u)
  (h:∀s',Inv X pins jU H s'->(∃a,Heap.SameBut a s.heap s'.heap/\(a=X.env.locals\/X.env.cells.lookup x=some a))->Q () s') (hf:X.fn x=true\/X.env.scope.names.lookup x=some .local:=by first|exact .inl rfl|exact .inr rfl|assumption):wpAny M A sf Q E s:=by
 obtain⟨m,hn,hl⟩:=id I.loc
 have hcls:(X.env.scope.kind== .class||(X.env.scope.kind== .module&&X.env.locals !=X.env.globals))=false:=by rw[I.ok.kind];rfl
 have hiσ:i<σ.length:=by rw[I.len];exact(List.getElem?_eq_some_iff.mp hi).1
 have cne:=I.cne
 have tracked:∀{a:Addr} {h':Heap},(∃o,s.heap.get? a=some o/\H a=none)->Heap.SameBut a s.heap h'->HOk X.prog X.w H h':=fun{a h'} ha hs b ob e=>by
  obtain⟨_,_,hfree⟩:=ha
  refine(I.hok b ob e).stay (fun c w' hc q=>(hs.2 c ?_).trans q) (fun _ q=>q) fun _ _ q=>q
  rintro rfl
  rcases hc with rfl|hc
  .rw[hfree]at e;cases e
  .rw[hfree]at hc;cases hc
 rcases hx with hk|hk
 .refine wpAny_storeName_local hk hn (fun h' hn' hs=>?_) hcls
  obtain⟨oL,_,_,hoL,_⟩:=id hn
  refine h _ ⟨I.ok,I.os,I.bare,⟨fun b o e n hb hx=>?_,fun b o e n hb hx=>?_,I.base.free,fun b o e hx=>?_,I.base.tups,I.base.frzs,I.base.tbls⟩,⟨_,hn',fun j y v' e1 e2 e3=>?_⟩,fun y c e=>?_,I.free,I.freeC,fun p hp=>?_,tracked ⟨oL,hoL,I.free⟩ hs,by simpa using I.len⟩ ⟨_,hs, .inl rfl⟩
  .exact(hs.2 b nr).trans i7
  .obtain⟨sl,e1⟩:=I.base.slot b o e n hb hx
   exact⟨sl,(hs.2 b nr).trans e1⟩
  .obtain⟨o',e1⟩:=I.base.there b o e hx
   exact⟨o',(hs.2 b nr).trans e1⟩
  .by_cases hj:j=i
   .subst hj
    rw[hi]at e1;cases e1
    rw[List.getElem?_set_self hiσ]at e2
    cases e2
    exact⟨u,r, .inl ⟨hk,by simp⟩⟩
   .rw[List.getElem?_set_ne (Ne.symm hj)]at e2
    obtain⟨u',r',q⟩:=hl j y v' e1 e2 e3
    refine⟨u',r',?_⟩
    rcases q with⟨k,e⟩|⟨k,c,e,z⟩
    .refine .inl ⟨k,?_⟩
     have:y≠x:=fun e=>hj (Qj2 hN e1 (e▸hi))
     simp[this,e]
    .exact .inr ⟨k,c,e,z.sameBut hs (cne y c e)⟩
  .obtain⟨w',z⟩:=I.cell y c e
   exact⟨w',z.sameBut hs (cne y c e)⟩
  .obtain⟨e,n,ne,nf,d⟩:=I.pin p hp
   exact⟨(hs.2 p.1 ne).trans e,n,ne,nf,d⟩
 .have hfn:X.fn x=true:=by
   rcases hf with z|z
   .exact z
   .rw[z]at hk;cases hk
  obtain⟨c,hc⟩:=I.ok.has x (.inl hk)
  obtain⟨w',z⟩:=I.cell x c hc
  refine wpAny_storeName_cell I.ok.kind hk hc z (fun h' hc' hs=>?_)
  obtain⟨oc,hoc,hocd⟩:=id z
  refine h {s with heap:=h'} ⟨I.ok,I.os,I.bare,⟨fun b o e n hb hx=>?_,fun b o e n hb hx=>?_,I.base.free,fun b o e hx=>?_,I.base.tups,I.base.frzs,I.base.tbls⟩,⟨m,hn.sameBut hs (Ne.symm (cne x c hc)),fun j y v' e1 e2 e3=>?_⟩,fun y c' e=>?_,I.free,I.freeC,fun p hp=>?_,tracked ⟨oc,hoc,I.freeC x c hc⟩ hs,by simpa using I.len⟩ ⟨c,hs, .inr hc⟩
  .exact(hs.2 b dB).trans i7
  .obtain⟨sl,e1⟩:=I.base.slot b o e n hb hx
   exact⟨sl,(hs.2 b dB).trans e1⟩
  .obtain⟨o',e1⟩:=I.base.there b o e hx
   exact⟨o',(hs.2 b dB).trans e1⟩
  .by_cases hj:j=i
   .subst hj
    rw[hi]at e1;cases e1
    rw[List.getElem?_set_self hiσ]at e2
    cases e2
    exact⟨u,r, .inr ⟨.inl hk,c,hc,hc'⟩⟩
   .rw[List.getElem?_set_ne (Ne.symm hj)]at e2
    obtain⟨u',r',q⟩:=hl j y v' e1 e2 e3
    refine⟨u',r',?_⟩
    rcases q with q|⟨k,c',e,z'⟩
    .exact .inl q
    .refine .inr ⟨k,c',e,z'.sameBut hs ?_⟩
     rintro rfl
     exact hj (Qj2 hN e1 (I.ok.inj _ _ _ e hc▸hi))
  .by_cases hcc:c'=c
   .subst hcc;exact⟨_,hc'⟩
   .obtain⟨w2,z2⟩:=I.cell y c' e
    exact⟨w2,z2.sameBut hs hcc⟩
  .obtain⟨e,n,ne,nf,d⟩:=I.pin p hp
   refine⟨(hs.2 p.1 ?_).trans e,n,ne,nf,d⟩
   intro q
   rw[q,hoc]at e
   have q':oc=p.2:=Option.some.inj e
   exact d w' (by rw[←q'];exact hocd)
theorem Qho {M:Model}{A:Around}{E:Value->Shared->Prop}{i:Nat}{x:Str}{v:V}{u:Value}{Q:Unit->Shared->Prop}(I:Inv X pins σ H s)(hN:X.N.Nodup)(hi:X.N[i]?=some x)(hx:Loc X.env.scope x)(r:RelV v u)
  (h:∀s',Inv X pins jU H s'->Q () s') (hf:X.fn x=true\/X.env.scope.names.lookup x=some .local:=by first|exact .inl rfl|exact .inr rfl|assumption):wpAny M A sf Q E s:=
 Qlr I hN hi hx r (fun s' I' _=>h s' I') hf
theorem Inv.call' {s':Shared}{ch:List Addr}(I:Inv X pins σ H s)(ho:s'.os=s.os)(u:Un (frs X.stack) ch H H' s.heap s'.heap)(hok:HOk X.prog X.w H' s'.heap)(hg:AllBare s'.gens)
  (hch:∀b∈ch,(b∈X.ex\/X.s₀.heap.objs.size<=b)/\b≠X.env.locals/\(∀x c,X.env.cells.lookup x=some c->c≠b)/\∀p∈X.pn++pins,p.1≠b):Inv X pins σ H' s':=by
 obtain⟨h',g',d',t',o'⟩:=s'
 have e:o'=s.os:=ho
 subst e
 exact I.call (g':=g') (t':=t') (d':=d') u hok hg hch
end
abbrev XK:=Value->Option Addr->Hp->Prop
abbrev St:=List (Option V)
abbrev VK:=V->Hp->Prop
abbrev TE:=St->Hp->VK->Prop
abbrev TT:=St->Hp->(Bool->Hp->Prop)->Prop
abbrev TA:=St->Hp->(List V->Hp->Prop)->Prop
structure Ends where
 nx:St->Hp->Prop
 rt:VK
 bk:St->Hp->Prop:=fun _ _=>False
 ct:St->Hp->Prop:=fun _ _=>False
abbrev TS:=Ends->St->Hp->Prop
def EP (X:Cx)(pins:List aB)(σ:St)(Q:VK)(u:Value)(s':Shared):Prop:=∃v H',Inv X pins σ H' s'/\RelV v u/\Q v H'
def TP (X:Cx)(pins:List aB)(σ:St)(Q:Bool->Hp->Prop)(b:Bool)(s':Shared):Prop:=∃H',Inv X pins σ H' s'/\Q b H'
def AP (X:Cx)(pins:List aB)(σ:St)(Q:List V->Hp->Prop)(us:List Value)(s':Shared):Prop:=∃vs H',Inv X pins σ H' s'/\Vals vs us/\Q vs H'
def SP (X:Cx)(pins:List aB)(D:Ends)(f:Flow)(s':Shared):Prop:=
 match f with
 | .next=>∃σ' H',Inv X pins σ' H' s'/\D.nx σ' H'
 | .brk=>∃σ' H',Inv X pins σ' H' s'/\D.bk σ' H'
 | .cont=>∃σ' H',Inv X pins σ' H' s'/\D.ct σ' H'
 | .ret u=>∃v σ' H',Inv X pins σ' H' s'/\RelV v u/\D.rt v H'
def PE (X:Cx)(e:Expr)(t:TE):Prop:=
 ∀(pins:List aB) (s:Shared) (σ:St) (H:Hp) (Q:VK),Inv X pins σ H s->t σ H Q->wpAny am X.A gT bT X.xe s
def PT (X:Cx)(e:Expr)(t:TT):Prop:=
 ∀(pins:List aB) (s:Shared) (σ:St) (H:Hp) (Q:Bool->Hp->Prop),Inv X pins σ H s->t σ H Q->wpAny am X.A (isTrue e X.env gT) kx X.xe s
def PW (X:Cx)(e:Expr)(t:TT):Prop:=
 ∀(whole:Sem Value) (pins:List aB) (s:Shared) (σ:St) (H:Hp) (Q:Bool->Hp->Prop),Inv X pins σ H s->t σ H Q->wpAny am X.A (isTrue e X.env whole) kx X.xe s
theorem PW.pt {X:Cx}{e:Expr}{t:TT}(h:PW X e t):PT X e t:=h _
def PA (X:Cx)(es:List Expr)(t:TA):Prop:=
 ∀(pos:Pos) (pins:List aB) (s:Shared) (σ:St) (H:Hp) (Q:List V->Hp->Prop),Inv X pins σ H s->t σ H Q->wpAny am X.A (spliced (backTo pos aZ)) (AP X pins σ Q) X.xe s
def PS (X:Cx)(st:Stmt)(t:TS):Prop:=
 ∀(pins:List aB) (s:Shared) (σ:St) (H:Hp) (D:Ends),Inv X pins σ H s->t D σ H->wpAny am X.A (exec st X.env) (SP X pins D) X.xe s
def PSs (X:Cx)(st:List Stmt)(t:TS):Prop:=
 ∀(pins:List aB) (s:Shared) (σ:St) (H:Hp) (D:Ends),Inv X pins σ H s->t D σ H->wpAny am X.A (execs st X.env) (SP X pins D) X.xe s
theorem thn {α:Type}{t:Sem α}{Q Q':α->Shared->Prop}{M:Model}{A:Around}{E:Value->Shared->Prop}{s:Shared}(h:wpAny M A t Q E s)(hQ:∀a s,Q a s->Q' a s):wpAny M A t Q' E s:=wpAny_mono h hQ fun _ _ x=>x
end L2
namespace L2
open PySem PySem.Spec PyProof.Rows
section
variable {X:Cx}
def tVar (i:Nat):TE:=fun σ H Q=>∃v,σ[i]?=some dm/\Q v H
def tC (v:V):TE:=fun _ H Q=>Q v H
theorem Qds {i:Nat}{x:Str}{pos:Pos}(hN:X.N[i]?=some x)(hv:Vis X.env.scope x)(hd:aJ=false:=by decide)(hcd:(x==("__classdict__":Str))=false:=by decide):PE X dD gk:=by
 intro pins s σ H Q I h
 obtain⟨v,e,h⟩:=h
 obtain⟨m,hn,hl⟩:=I.loc
 obtain⟨u,r,l⟩:=hl i x v hN e hv
 have fin:EP X pins σ Q u s:=⟨v,H,I,r,h⟩
 rcases l with⟨hk,hm⟩|⟨hk,c,hc,hcell⟩
 .exact wpAny_Name (wpAny_loadName_local I.ok.kind hk hn hm fin) hd
 .rcases hk with hk|hk
  .exact wpAny_Name (wpAny_loadName_cell I.ok.kind hk hc hcell fin) hd
  .exact wpAny_Name (wpAny_loadName_free I.ok.kind hk hc hcell fin hcd) hd
theorem pe_int {i j pos}:PE X tR (tC fV):=fun _ _ _ H _ I h=>wpAny_Constant_int ⟨.int i,H,I.tok _,⟨_,rfl⟩,h⟩
theorem pe_bl {b j pos}:PE X (.Constant qR j pos) (tC ef):=fun _ _ _ H _ I h=>Constant_bool ⟨.bl b,H,I,rfl,h⟩
theorem pe_non {j pos}:PE X qT (tC .non):=fun _ _ _ H _ I h=>Constant_none ⟨.non,H,I,rfl,h⟩
theorem pe_str {x j pos}:PE X (.Constant dY j pos) (tC dY):=fun _ _ _ H _ I h=>Calls.Constant_str ⟨.str x,H,I.tok _,⟨_,rfl⟩,h⟩
def Gl (X:Cx)(x:Str):Prop:=X.env.kindOf x=some .globalImplicit
theorem Qhp {E:Value->Shared->Prop}{pins:List aB}{s:Shared}{σ:St}{H:Hp}{x:Str}{u:Value}{pos:Pos}{Q:Value->Shared->Prop}(I:Inv X pins σ H s)(hg:Gl X x)(hm:X.mg x=some u)(h:Q u s)
  (hd:aJ=false:=by decide):wpAny am X.A (eval dD X.env) Q E s:=
 Calls.Name_function_global I.ok.kind hg (Calls.loadGlobal_global (by rw[I.ok.glob];exact I.mod.glob.keeps I.bk) hm h) hd
theorem QgR {E:Value->Shared->Prop}{pins:List aB}{s:Shared}{σ:St}{H:Hp}{x:Str}{u:Value}{pos:Pos}{Q:Value->Shared->Prop}(I:Inv X pins σ H s)(hg:Gl X x)(hm:X.mg x=none)(hv:bootBuiltins x=some u)(h:Q u s)
  (hn:x≠"__name__":=by decide) (hd:aJ=false:=by decide):wpAny am X.A (eval dD X.env) Q E s:=by
 obtain⟨mb,h1,h2⟩:=I.mod.blt
 exact Calls.Name_function_global I.ok.kind hg (Calls.loadGlobal_builtin (by rw[I.ok.glob];exact I.mod.glob.keeps I.bk) hm (by rw[I.ok.blt];exact h1.keeps I.bk) ((h2 x hn).trans hv) h) hd
theorem QoI {x:Str}{v:V}{u:Value}{pos:Pos}(hg:Gl X x)(hm:X.mg x=some u)(r:RelV v u)(hd:aJ=false:=by decide):PE X dD (tC v):=
 fun _ _ _ H _ I h=>Qhp I hg hm ⟨v,H,I,r,h⟩ hd
theorem QoJ {x:Str}{v:V}{u:Value}{pos:Pos}(hg:Gl X x)(hm:X.mg x=none)(hv:bootBuiltins x=some u)(r:RelV v u)(hn:x≠"__name__":=by decide)(hd:aJ=false:=by decide):PE X dD (tC v):=
 fun _ _ _ H _ I h=>QgR I hg hm hv ⟨v,H,I,r,h⟩ hn hd
variable {a b:Expr}{ta tb:TE}{pos:Pos}
def tB (t:TE):TT:=fun σ H Q=>t σ H fun x H1=>∃c,x= .bl c/\Q c H1
theorem QqL {e:Expr}{t:TE}(h:PE X e t)(he:∀whole,isTrue e X.env whole=(do let v←whole;standAt e.pos;holding [v] mx):=by intro _;rfl):PT X e (tB t):=by
 intro pins s σ H Q I hw
 refine isTrue_plain (thn rC fun v s1 ⟨x,H1,I1,r1,q1⟩=>?_) (he _)
 obtain⟨d,rfl,q⟩:=q1
 cases r1
 exact wpAny_truthy_bool ⟨H1,I1,q⟩
variable {tA tB':TT}{rest:List Expr}
def tAnd (t u:TT):TT:=fun σ H Q=>t σ H fun c H1=>if c=true then u σ H1 Q else Q false H1
def tOr (t u:TT):TT:=fun σ H Q=>t σ H fun c H1=>if c=true then Q true H1 else u σ H1 Q
def tNot (t:TT):TT:=fun σ H Q=>t σ H fun c H1=>Q (!c) H1
theorem QoK (ha:PT X a tA):PW X tS tA:=by
 intro wh pins s σ H Q I h
 refine isTrue_and (thn rz fun c s1 e=>?_)
 cases c with
 |true=>exact isTrue_and_nil e
 |false=>exact e
theorem QqM (ha:PT X a tA):PW X uj tA:=by
 intro wh pins s σ H Q I h
 refine isTrue_or (thn rz fun c s1 e=>?_)
 cases c with
 |false=>exact isTrue_or_nil e
 |true=>exact e
theorem QqN (ha:PT X a tA)(hb:PW X fR tB'):PW X (.BoolOp .And (a::b::rest) pos) (tAnd tA tB'):=by
 intro wh pins s σ H Q I h
 refine isTrue_and (thn b5 fun c s1 ⟨H1,I1,q1⟩=>?_)
 cases c with
 |true=>exact hb wh pins s1 σ H1 Q I1 q1
 |false=>exact⟨H1,I1,q1⟩
theorem Qtx (ha:PT X a tA)(hb:PW X qV tB'):PW X (.BoolOp .Or (a::b::rest) pos) (tOr tA tB'):=by
 intro wh pins s σ H Q I h
 refine isTrue_or (thn b5 fun c s1 ⟨H1,I1,q1⟩=>?_)
 cases c with
 |true=>exact⟨H1,I1,q1⟩
 |false=>exact hb wh pins s1 σ H1 Q I1 q1
theorem QqO (ha:PT X a tA):PT X h9 (tNot tA):=by
 intro pins s σ H Q I h
 exact isTrue_not (ha pins s σ H (fun c H1=>Q (!c) H1) I h)
def QqP (ta tb:TE):TE:=fun σ H Q=>ta σ H fun x H1=>∃c,x= .bl c/\if c=true then tb σ H1 Q else Q cp H1
def QqQ (ta:TE):TE:=fun σ H Q=>ta σ H fun x H1=>∃c,x= .bl c/\Q (.bl (!c)) H1
theorem QqR {op}{t:TE}(h:PE X a t):PE X u8 t:=fun pins s σ H Q I hw=>BoolOp_one (h pins s σ H Q I hw)
theorem QqS (ha:PE X a ta)(hb:PE X fR tb):PE X (.BoolOp .And (a::b::rest) pos) (QqP ta tb):=by
 intro pins s σ H Q I h
 refine BoolOp_and (thn b5 fun v s1 ⟨x,H1,I1,r1,q1⟩=>?_)
 obtain⟨c,rfl,q1⟩:=q1
 cases r1
 refine wpAny_truthy_bool ?_
 cases c with
 |true=>exact hb pins s1 σ H1 Q I1 q1
 |false=>exact⟨.bl false,H1,I1,rfl,q1⟩
theorem QqT (ha:PE X a ta):PE X h9 (QqQ ta):=by
 intro pins s σ H Q I h
 refine UnaryOp_ (thn b5 fun v s1 ⟨x,H1,I1,r1,q1⟩=>?_)
 obtain⟨c,rfl,q1⟩:=q1
 cases r1
 exact not_of (wpAny_truthy_bool ⟨.bl (!c),H1,I1,rfl,q1⟩)
def tIf (t:TT)(ta tb:TE):TE:=fun σ H Q=>t σ H fun c H1=>if c=true then ta σ H1 Q else tb σ H1 Q
theorem QmT {c:Expr}(hc:PT X c tA)(ha:PE X a ta)(hb:PE X b tb):PE X u6 (tIf tA ta tb):=by
 intro pins s σ H Q I h
 refine wpAny_IfExp (thn rq fun d s1 ⟨H1,I1,q1⟩=>?_)
 cases d with
 |true=>exact ha pins s1 σ H1 Q I1 q1
 |false=>exact hb pins s1 σ H1 Q I1 q1
end
end L2
namespace L2
open PySem PySem.Spec PyProof.Rows
def SqL (K:PySem.W.Frag)(H:Hp)(a:Addr)(xs:List V):Prop:=
 Rd H a aH\/
  ∃(o:Obj) (its:Array Value) (n:Nat),K.lookup a=some o/\o.cls= .type "list"/\o.dict=none/\o.data= .seq its n/\its.size<=sizeLine/\Vals xs its.toList
def SqT (K:PySem.W.Frag)(H:Hp)(a:Addr)(xs:List V):Prop:=
 Rd H a cP\/
  ∃(o:Obj) (its:Array Value) (n:Nat),K.lookup a=some o/\o.cls= .type "tuple"/\o.data= .seq its n/\its.size<=sizeLine/\Vals xs its.toList
def absV:Value->Option V
 | .none=>some .non
 | .bool b=>some ef
 | .int i _=>some fV
 | .str x _=>some dY
 | .bytes b _=>some (.byt b)
 | .float b _=>some (.flt b)
 | .ref a=>some bv
 | .type n=>some (.ty n)
 |_=>none
theorem RelV.abs {x:V}{u:Value}(r:RelV x u):absV u=some x:=by
 cases x with
 |non=>cases r;rfl
 |bl _=>cases r;rfl
 |int _=>obtain⟨t,rfl⟩:=r;rfl
 |str _=>obtain⟨t,rfl⟩:=r;rfl
 |byt _=>obtain⟨t,rfl⟩:=r;rfl
 |flt _=>obtain⟨t,rfl⟩:=r;rfl
 |ref _=>cases r;rfl
 |ty _=>cases r;rfl
theorem RelV.inj {x y:V}{u:Value}(r:RelV x u)(q:RelV y u):x=y:=Option.some.inj (r.abs.symm.trans q.abs)
theorem Vals.inj:∀{xs ys:List V} {us:List Value},Vals xs us->Vals ys us->xs=ys
 |_,_,_, .nil, .nil=>rfl
 |_,_,_, .cons r t, .cons r' t'=>by rw[r.inj r',Vals.inj t t']
section
variable {X:Cx}{pins:List (Addr×Obj)}{σ:St}{H:Hp}{s:Shared}{a:Addr}{xs ys:List V}
theorem SqL.of {K:PySem.W.Frag}(h:H a=some aH):SqL K H a xs:= .inl (.inl h)
theorem SqT.of {K:PySem.W.Frag}(h:H a=some cP):SqT K H a xs:= .inl (.inl h)
theorem Inv.list (I:Inv X pins σ H s)(h:SqL X.K H a xs):∃its:List Value,Vals xs its/\PlainL s.heap a its.toArray/\xs.length<=sizeLine:=by
 rcases h with h|⟨o,its,n,hk,hc,hd,hs,hz,r⟩
 .obtain⟨z,its,n,r,e⟩:=h.ok I.hok
  exact⟨its,r,⟨_,n,e,rfl,rfl,rfl⟩,z⟩
 .refine⟨its.toList,r,⟨o,n,I.kIn a o hk,hc,hd,by simpa using hs⟩,?_⟩
  have e:=r.length
  simp only[Array.length_toList]at e
  omega
theorem Inv.tuple (I:Inv X pins σ H s)(h:SqT X.K H a xs):∃its:List Value,Vals xs its/\IsTup s.heap a its.toArray/\xs.length<=sizeLine:=by
 rcases h with h|⟨o,its,n,hk,hc,hs,hz,r⟩
 .obtain⟨z,its,r,p⟩:=h.ok I.hok
  exact⟨its,r,p,z⟩
 .refine⟨its.toList,r,⟨o,I.kIn a o hk,hc,n,by simpa using hs⟩,?_⟩
  have e:=r.length
  simp only[Array.length_toList]at e
  omega
theorem Inv.list_inj (I:Inv X pins σ H s)(h:SqL X.K H a xs)(h':SqL X.K H a ys):xs=ys:=by
 obtain⟨its,r,⟨o,n,e,_,_,d⟩,_⟩:=I.list h
 obtain⟨its',r',⟨o',n',e',_,_,d'⟩,_⟩:=I.list h'
 rw[e]at e';cases e'
 rw[d]at d'
 injection d' with d1 _
 have:its=its':=by simpa using congrArg Array.toList d1
 subst this
 exact r.inj r'
theorem Inv.tuple_inj (I:Inv X pins σ H s)(h:SqT X.K H a xs)(h':SqT X.K H a ys):xs=ys:=by
 obtain⟨its,r,⟨o,e,_,n,d⟩,_⟩:=I.tuple h
 obtain⟨its',r',⟨o',e',_,n',d'⟩,_⟩:=I.tuple h'
 rw[e]at e';cases e'
 rw[d]at d'
 injection d' with d1 _
 have:its=its':=by simpa using congrArg Array.toList d1
 subst this
 exact r.inj r'
end
abbrev Cx.wish (X:Cx)(E:Value->Shared->Prop):Cx:={X with xe:=E}
abbrev Cx.nox (X:Cx):Cx:=X.wish fun _ _=>False
theorem Cx.Ok.wish {X:Cx}(ok:X.Ok)(E:Value->Shared->Prop):(X.wish E).Ok:=
 ⟨ok.mod,ok.kind,ok.glob,ok.blt,ok.above,ok.inj,ok.has,ok.cab,ok.hd,ok.frames,ok.stk,ok.exf,ok.bs,ok.bsz,ok.noex,ok.exfs,ok.funs,ok.frf⟩
theorem Cx.Ok.unwish {X:Cx}{E:Value->Shared->Prop}(ok:(X.wish E).Ok):X.Ok:=
 ⟨ok.mod,ok.kind,ok.glob,ok.blt,ok.above,ok.inj,ok.has,ok.cab,ok.hd,ok.frames,ok.stk,ok.exf,ok.bs,ok.bsz,ok.noex,ok.exfs,ok.funs,ok.frf⟩
section
variable {X:Cx}{pins:List (Addr×Obj)}{σ:St}{H:Hp}{s:Shared}{E:Value->Shared->Prop}
theorem Inv.wish (I:Inv X pins σ H s)(E:Value->Shared->Prop):Inv uH pins σ H s:=⟨I.ok.wish E,I.os,I.bare,I.base,I.loc,I.cell,I.free,I.freeC,I.pin,I.hok,I.len⟩
theorem Inv.unwish (I:Inv uH pins σ H s):Inv X pins σ H s:=⟨I.ok.unwish,I.os,I.bare,I.base,I.loc,I.cell,I.free,I.freeC,I.pin,I.hok,I.len⟩
theorem SP.unwish {D:Ends}{f:Flow}{s':Shared}(h:SP uH pins D f s'):SP X pins D f s':=by
 cases f with
 |next=>obtain⟨σ',H',I,q⟩:=h;exact⟨σ',H',I.unwish,q⟩
 |brk=>obtain⟨σ',H',I,q⟩:=h;exact⟨σ',H',I.unwish,q⟩
 |cont=>obtain⟨σ',H',I,q⟩:=h;exact⟨σ',H',I.unwish,q⟩
 |ret u=>obtain⟨v,σ',H',I,r,q⟩:=h;exact⟨v,σ',H',I.unwish,r,q⟩
theorem PSs.nox {st:List Stmt}{t:TS}(h:PSs X.nox st t):PSs X st t:=fun pins s σ H D I hw=>
 wpAny_mono (h pins s σ H D (I.wish _) hw) (fun _ _ q=>q.unwish) fun _ _ z=>False.elim z
end
section
variable {X:Cx}{st:Stmt}{rest:List Stmt}{t u:TS}{e:Expr}{te:TE}{pos:Pos}
def Qe3:TS:=fun D σ H=>D.nx σ H
def tSeq (t u:TS):TS:=fun D σ H=>t {D with nx:=u D} σ H
theorem pss_nil:PSs X [] Qe3:=fun _ _ σ H _ I h=>wpAny_execs_nil ⟨σ,H,I,h⟩
theorem QM (h1:PS X st t)(h2:PSs X rest u):PSs X (st::rest) (tSeq t u):=by
 intro pins s σ H D I h
 refine wpAny_execs_cons (thn (h1 pins s σ H {D with nx:=u D} I h) fun f s1 q=>?_)
 cases f with
 |next=>
  obtain⟨σ',H',I',q⟩:=q
  exact h2 pins s1 σ' H' D I' q
 |ret v=>exact q
 |brk=>exact q
 |cont=>exact q
theorem Qby (h1:PS X st t):PSs X [st] t:=by
 intro pins s σ H D I h
 refine wpAny_execs_cons (thn (h1 pins s σ H D I h) fun f s1 q=>?_)
 cases f with
 |next=>exact wpAny_execs_nil q
 |ret v=>exact q
 |brk=>exact q
 |cont=>exact q
def QqU:TS:=fun D σ H=>D.ct σ H
theorem ps_continue:PS X (.Continue pos) QqU:=fun _ _ σ H _ I h=>wpAny_Continue ⟨σ,H,I,h⟩
theorem Inv.quiet {pins:List aB}{σ:St}{H:Hp}{s:Shared}(I:Inv X pins σ H s):interactive X.env=false:=by simp[interactive,I.ok.kind]
def Qls (te:TE):TS:=fun D σ H=>te σ H fun _ H1=>D.nx σ H1
theorem Qhq (he:PE X e te)(hs:swapsWith e none pos.line X.env=pure false:=by rfl):PS X (.Expr e pos) (Qls te):=by
 intro pins s σ H D I h
 exact wpAny_Expr_any (thn cq fun v s1 ⟨x,H1,I1,r1,q1⟩=>⟨σ,H1,I1,q1⟩) I.quiet hs
def tRet (te:TE):TS:=fun D σ H=>te σ H D.rt
theorem Qj3 (he:PE X e te):PS X (.Return sI pos) (tRet te):=by
 intro pins s σ H D I h
 exact wpAny_Return_some (thn cq fun v s1 ⟨x,H1,I1,r1,q1⟩=>⟨x,σ,H1,I1,r1,q1⟩)
def tIfS (c:TT)(t u:TS):TS:=fun D σ H=>c σ H fun b H1=>if b=true then t D σ H1 else u D σ H1
theorem Qjq {c:Expr}{a b:List Stmt}{tc:TT}(hc:PT X c tc)(ha:PSs X a t)(hb:PSs X b u):PS X (.If c a b pos) (tIfS tc t u):=by
 intro pins s σ H D I h
 refine wpAny_If (thn rq fun d s1 ⟨H1,I1,q1⟩=>?_)
 cases d with
 |true=>exact ha pins s1 σ H1 D I1 q1
 |false=>exact hb pins s1 σ H1 D I1 q1
end
abbrev TG:=V->St->Hp->(St->Hp->Prop)->Prop
abbrev TGs:=List V->St->Hp->(St->Hp->Prop)->Prop
def PG (X:Cx)(target:Expr)(t:TG):Prop:=
 ∀(pins:List aB) (s:Shared) (σ:St) (H:Hp) (v:V) (u:Value) (Q:St->Hp->Prop),Inv X pins σ H s->RelV v u->t v σ H Q->
  wpAny am X.A (assign target X.env u) (fun _ s'=>∃σ' H',Inv X pins σ' H' s'/\Q σ' H') X.xe s
def PGs (X:Cx)(ts:List Expr)(t:TGs):Prop:=
 ∀(pins:List aB) (s:Shared) (σ:St) (H:Hp) (vs:List V) (us:List Value) (Q:St->Hp->Prop),Inv X pins σ H s->Vals vs us->t vs σ H Q->
  wpAny am X.A (assignInOrder ((assignEach ts X.env).map (·.2)) us) (fun _ s'=>∃σ' H',Inv X pins σ' H' s'/\Q σ' H') X.xe s
abbrev TSet:=V->V->V->Hp->(Hp->Prop)->Prop
def PSet (X:Cx)(t:TSet):Prop:=
 ∀(pins:List aB) (s:Shared) (σ:St) (H:Hp) (o i v:V) (ov iv u:Value) (Q:Hp->Prop),Inv X pins σ H s->RelV o ov->RelV i iv->RelV v u->t o i v H Q->
  wpAny am X.A (setItem ov iv u) (fun _ s'=>∃H',Inv X pins σ H' s'/\Q H') X.xe s
abbrev TIp:=V->V->Hp->VK->Prop
def PIp (X:Cx)(op:Operator)(t:TIp):Prop:=
 ∀(pins:List aB) (s:Shared) (σ:St) (H:Hp) (x y:V) (v u:Value) (Q:VK),Inv X pins σ H s->RelV x v->RelV y u->t x y H Q->
  wpAny am X.A uz bT X.xe s
section
variable {X:Cx}{pos:Pos}
def QdD (i:Nat):TG:=fun v σ H Q=>Q jU H
theorem Qjr {i:Nat}{x:Str}(hN:X.N.Nodup)(hi:X.N[i]?=some x)(hx:Loc X.env.scope x)(hf:X.fn x=true\/X.env.scope.names.lookup x=some .local:=by first|exact .inl rfl|exact .inr rfl|assumption):PG X dD l7:=by
 intro pins s σ H v u Q I r h
 exact wpAny_assign_Name (Qho I hN hi hx r (fun s' I'=>⟨_,H,I',h⟩) hf)
def gNil:TGs:=fun vs σ H Q=>vs= []/\Q σ H
def QqV (t:TG)(u:TGs):TGs:=fun vs σ H Q=>∃v r,vs=v::r/\t v σ H fun σ' H'=>u r σ' H' Q
theorem pgs_nil:PGs X [] gNil:=by
 intro pins s σ H vs us Q I r h
 obtain⟨e,h⟩:=h
 subst e
 cases r
 exact assignInOrder_nil ⟨σ,H,I,h⟩
theorem QmU {e:Expr}{es:List Expr}{t:TG}{u:TGs}(h1:PG X e t)(h2:PGs X es u)
  (hs:(assignEach bd X.env).map (·.2)=assign e X.env::(assignEach es X.env).map (·.2):=by rfl):PGs X bd (QqV t u):=by
 intro pins s σ H vs us Q I r h
 obtain⟨v,vr,e1,h⟩:=h
 subst e1
 cases r with
 |cons r rr=>
  rw[hs]
  refine assignInOrder_cons (thn (h1 pins s σ H _ _ _ I r h) fun _ s1 ⟨σ1,H1,I1,q1⟩=>?_)
  exact h2 pins s1 σ1 H1 _ _ Q I1 rr q1
def gTup (K:PySem.W.Frag)(n:Nat)(t:TGs):TG:=fun v σ H Q=>∃a xs,v= .ref a/\SqT K H a xs/\xs.length=n/\t xs σ H Q
theorem QqW {es:List Expr}{k:Nat}{t:TGs}{n:Nat}(hc:X.calm=true)(h:PGs X es t)
  (hn:(assignEach es X.env).length=n:=by rfl) (hst:(assignEach es X.env).findIdx? (·.1)=none:=by rfl):PG X (.Tuple es k pos) (gTup X.K n t):=by
 intro pins s σ H v u Q I r hw
 obtain⟨a,xs,e1,hq,hl,hw⟩:=hw
 subst e1
 cases r
 obtain⟨its,rv,ht,hz⟩:=I.tuple hq
 refine assign_Tuple_tuple gY ht (by simp[hn,←hl,rv.length]) hst fun h' hx=>?_
 have I1:Inv X pins σ H {s with heap:=h'}:=I.kept (t':=s.toks) fun b o e=>hx b o (Nat.ne_of_lt cO) e
 exact h pins _ σ H xs _ Q I1 (by simpa using rv) hw
def gSub (to ti:TE)(t:TSet):TG:=fun v σ H Q=>to σ H fun o H1=>ti σ H1 fun i H2=>t o i v H2 fun H3=>Q σ H3
theorem Qod {o i:Expr}{to ti:TE}{t:TSet}(ho:PE X o to)(hi:PE X i ti)(hs:PSet X t)
  (ha:∀v,assign tN X.env v=(do
   let ov←holding [v] o6
   let iv←holding [v,ov] (eval i X.env)
   standAt pos
   holding [v,ov,iv] (setItem ov iv v)
   release [v,ov,iv] []):=by intro _;rfl):PG X tN (gSub to ti t):=by
 intro pins s σ H v u Q I r h
 rw[ha]
 refine wpAny_bind (wpAny_holding (thn kN fun ov s1 ⟨x,H1,I1,r1,q1⟩=>?_))
 refine wpAny_bind (wpAny_holding (thn (hi pins s1 σ H1 _ I1 q1) fun iv s2 ⟨y,H2,I2,r2,q2⟩=>?_))
 refine wpAny_bind (wpAny_standAt (wpAny_bind (wpAny_holding (thn (hs pins s2 σ H2 x y v ov iv u _ I2 r1 r2 r q2) fun _ s3 ⟨H3,I3,q3⟩=>?_))))
 exact wpAny_release ⟨σ,H3,I3,q3⟩
def tAsg (te:TE)(g:TG):TS:=fun D σ H=>te σ H fun x H1=>g x σ H1 D.nx
theorem Qoe {tg e:Expr}{te:TE}{g:TG}(he:PE X e te)(hg:PG X tg g)(hs:swapsWithSole [tg] e pos.line X.env=pure false:=by rfl)(hw:swappedStores [tg] e X.env=pure none:=by rfl)
  (h1:(assignEach [tg] X.env).map (·.2)= [assign tg X.env]:=by rfl):PS X (.Assign [tg] e pos) (tAsg te g):=by
 intro pins s σ H D I h
 refine wpAny_Assign_stores (thn cq fun v s1 ⟨x,H1,I1,r1,q1⟩=>?_) hs hw
 rw[h1]
 exact thn (hg pins s1 σ H1 x v _ I1 r1 q1) fun _ s2 q=>q
theorem Qof {i:Nat}{x:Str}{e:Expr}{te:TE}{pos':Pos}(hN:X.N.Nodup)(hi:X.N[i]?=some x)(hx:Loc X.env.scope x)(he:PE X e te)(hs:swapsWith e (some lZ) pos.line X.env=pure false:=by rfl)(hf:X.fn x=true\/X.env.scope.names.lookup x=some .local:=by first|exact .inl rfl|exact .inr rfl|assumption):
  PS X (.Assign [.Name x pos'] e pos) (tAsg te l7):=by
 intro pins s σ H D I h
 refine wpAny_Assign_Name (thn cq fun v s1 ⟨y,H1,I1,r1,q1⟩=>?_) hs
 exact Qho I1 hN hi hx r1 (fun s2 I2=>⟨_,H1,I2,q1⟩) hf
def tAug (i:Nat)(te:TE)(ti:TIp):TS:=fun D σ H=>∃x,σ[i]?=some (some x)/\te σ H fun y H1=>ti x y H1 fun z H2=>D.nx (σ.set i (some z)) H2
theorem QqX {i:Nat}{x:Str}{e:Expr}{te:TE}{op:Operator}{ti:TIp}{pos':Pos}(hN:X.N.Nodup)(hi:X.N[i]?=some x)(hx:Loc X.env.scope x)(he:PE X e te)(ho:PIp X op ti)(hf:X.fn x=true\/X.env.scope.names.lookup x=some .local:=by first|exact .inl rfl|exact .inr rfl|assumption):
  PS X (.AugAssign lZ op e pos) (tAug i te ti):=by
 intro pins s σ H D I h
 obtain⟨v,e1,h⟩:=h
 obtain⟨m,hn,hl⟩:=I.loc
 have vis:Vis X.env.scope x:=by rcases hx with k|k;exact .inl k;exact .inr (.inl k)
 obtain⟨u,r,l⟩:=hl i x v hi e1 vis
 refine wpAny_AugAssign_Name ?_
 have go:wpAny am X.A gT (fun w s₂=>wpAny am X.A (inplaceOp op u w) (fun r s₃=>wpAny am X.A (storeName X.env x r) (fun _=>SP X pins D .next) X.xe s₃) X.xe s₂) X.xe s:=by
  refine thn cq fun w s1 ⟨y,H1,I1,r1,q1⟩=>?_
  refine thn (ho pins s1 σ H1 v y u w _ I1 r r1 q1) fun z s2 ⟨zv,H2,I2,r2,q2⟩=>?_
  exact Qho I2 hN hi hx r2 (fun s3 I3=>⟨_,H2,I3,q2⟩) hf
 rcases l with⟨hk,hm⟩|⟨hk,c,hc,hcell⟩
 .exact wpAny_loadName_local I.ok.kind hk hn hm go
 .rcases hk with hk|hk
  .exact wpAny_loadName_cell I.ok.kind hk hc hcell go
  .rcases hx with k|k
   .have:X.env.scope.names.lookup x=some .free:=hk
    rw[k]at this;cases this
   .have:X.env.scope.names.lookup x=some .free:=hk
    rw[k]at this;cases this
def ipI (f:Int->Int->Int):TIp:=fun x y H Q=>∃i j,x= .int i/\y= .int j/\Q (.int (f i j)) H
theorem QqY:PIp X .Add (ipI fun i j=>i+j):=by
 intro pins s σ H x y v u Q I r1 r2 h
 obtain⟨i,j,e1,e2,q⟩:=h
 subst e1;subst e2
 obtain⟨t,rfl⟩:=r1
 obtain⟨t',rfl⟩:=r2
 exact iadd_int ⟨.int _,H,I.tok _,⟨_,rfl⟩,q⟩
end
section
variable {X:Cx}{pos:Pos}
def Qog (c:TT)(tb:TS):TS:=fun D σ H=>∃W:Nat->St->Hp->Prop,(∃m,W m σ H)/\∀m σ H,W m σ H->
 c σ H fun b H1=>if b=true then∃N:St->Hp->Prop,(∀σ' H',N σ' H'->∃m',m'<m/\W m' σ' H')/\tb {D with nx:=N,ct:=N,bk:=D.nx} σ H1 else D.nx σ H1
theorem QmV {c:Expr}{body:List Stmt}{tc:TT}{tb:TS}(hp:PassesOwn am X.A X.env X.xe)(hc:PT X c tc)(hb:PSs X body tb):PS X su (Qog tc tb):=by
 intro pins s σ H D I h
 obtain⟨W,⟨m0,w0⟩,turn⟩:=h
 refine wpAny_While (codeAny_whileLoop (fun n s'=>∃σ' H',Inv X pins σ' H' s'/\W n σ' H') ?_ m0 ⟨σ,H,I,w0⟩)
 rintro n s1 ⟨σ1,H1,I1,w1⟩
 refine wpAny_passesOwn hp (thn (hc pins s1 σ1 H1 _ I1 (turn n σ1 H1 w1)) fun b s2 ⟨H2,I2,q2⟩=>?_)
 cases b with
 |true=>
  obtain⟨N,hN,q2⟩:=q2
  rw[if_pos rfl]
  refine wpAny_passesOwn hp (thn (hb pins s2 σ1 H2 _ I2 q2) fun f s3 q3=>?_)
  cases f with
  |next=>
   obtain⟨σ3,H3,I3,n3⟩:=q3
   obtain⟨m',hm,w3⟩:=hN σ3 H3 n3
   exact⟨m',hm,σ3,H3,I3,w3⟩
  |cont=>
   obtain⟨σ3,H3,I3,n3⟩:=q3
   obtain⟨m',hm,w3⟩:=hN σ3 H3 n3
   exact⟨m',hm,σ3,H3,I3,w3⟩
  |brk=>exact q3
  |ret v=>exact q3
 |false=>
  rw[if_neg Bool.false_ne_true]
  exact wpAny_execs_nil ⟨σ1,H2,I2,q2⟩
end
structure It where
 go:Nat->Hp->Prop
 yld:Nat->Hp->V->Hp->Prop
 stop:Nat->Hp->Prop
def FpOk (X:Cx)(pins:List aB)(H:Hp)(b:Addr):Prop:=
 H b=none/\b≠X.env.locals/\b∉X.fs/\(b∈X.ex\/X.s₀.heap.objs.size<=b)/\(∀x c,X.env.cells.lookup x=some c->c≠b)/\∀p∈X.pn++pins,p.1≠b
theorem Inv.fpOk {X:Cx}{pins:List aB}{σ:St}{H H':Hp}{s:Shared}{b:Addr}(I:Inv X pins σ H s)(hb:s.heap.objs.size<=b)(hn:H' b=none):FpOk X pins H' b:=by
 refine⟨hn,Nat.ne_of_gt (Nat.lt_of_lt_of_le I.lt hb),I.nofs hb, .inr (Nat.le_trans I.sz hb),fun x c e z=>?_,fun p hp z=>?_⟩
 .obtain⟨v,q⟩:=I.cell x c e
  exact absurd (Nat.lt_of_lt_of_le q.lt (by rw[z];exact hb)) eS
 .exact absurd (Nat.lt_of_lt_of_le (Heap.lt_size (I.pin p hp).1) (by rw[z];exact hb)) eS
structure Turn (P:Program)(w:World)(K:PySem.W.Frag)(tg:Expr)(J:It)(fp:List Addr)(it:Addr)(tn:Nat->Heap->Prop):Prop where
 mem:it∈fp
 obj:∀i h,tn i h->∀b∈fp,∃o,h.get? b=some o/\∀v,o.data≠ .cell v
 keep:∀i h h',tn i h->(∀b∈fp,∀o,h.get? b=some o->h'.get? b=some o)->tn i h'
 item:∀(X:Cx),X.prog=P->X.w=w->X.K=K->X.calm=true->∀(i:Nat) (pins:List aB) (s:Shared) (σ:St) (H:Hp) (E:Value->Shared->Prop),Inv X pins σ H s->(∀b∈fp,FpOk X pins H b)->tn i s.heap->J.go i H->
  wpAny gC X.A (pyNext kI) (fun r s1=>∃u,r=some u/\
   wpAny gC X.A pW (fun _ s2=>∃x H',Inv X pins σ H' s2/\RelV x u/\J.yld i H x H'/\tn (i+1) s2.heap/\∀b∈fp,H' b=none) E s1) E s
 done:∀(X:Cx),X.prog=P->X.w=w->X.K=K->X.calm=true->∀(i:Nat) (pins:List aB) (s:Shared) (σ:St) (H:Hp) (E:Value->Shared->Prop),Inv X pins σ H s->(∀b∈fp,FpOk X pins H b)->tn i s.heap->J.stop i H->
  wpAny gC X.A (pyNext kI) (fun r s1=>r=none/\Inv X pins σ H s1) E s
 self:∀(A:Around) (i:Nat) (s:Shared) (Q:Value->Shared->Prop) (E:Value->Shared->Prop),tn i s.heap->Q kI s->wpAny gC A (pyIter kI) Q E s
abbrev TI:=St->Hp->(It->Hp->Prop)->Prop
def PIE (X:Cx)(pins:List aB)(σ:St)(tg:Expr)(R:It->Hp->Prop)(itv:Value)(s2:Shared):Prop:=
 ∃(it:Addr) (fp:List Addr) (tn:Nat->Heap->Prop) (J:It) (H':Hp),itv= .ref it/\Inv X pins σ H' s2/\Turn X.prog X.w X.K tg J fp it tn/\tn 0 s2.heap/\(∀b∈fp,FpOk X pins H' b)/\R J H'
def PI (X:Cx)(tg iter:Expr)(wi:TI):Prop:=
 ∀(pins:List aB) (s:Shared) (σ:St) (H:Hp) (R:It->Hp->Prop),Inv X pins σ H s->wi σ H R->
  wpAny am X.A m9 (fun v s1=>wpAny am X.A (pyIter v) tw X.xe s1) X.xe s
theorem QoL {M:Model}{A:Around}{E:Value->Shared->Prop}{s:Shared}{tg:Expr}{it:Addr}{u:Value}{o:Obj}{n:String}{vs:Array Value}{Q:Unit->Shared->Prop}(ho:s.heap.get? it=some o)(hc:o.cls= .type n)(hd:o.data= .fields vs)
  (hn: ["enumerate","zip","dict_itemiterator","dict_reverseitemiterator","odict_iterator","itertools.zip_longest","itertools.pairwise"].contains n=false) (hQ:Q () s):wpAny M A pW Q E s:=by
 unfold letOwnedTupleGo
 cases tg<;>first
  |exact wpAny_pure hQ
  |(cases u<;>first
    |exact wpAny_pure hQ
    | (refine wpAny_bind (wpAny_load ho ?_)
       rw[hc,hd]
       show wpAny M A (if(["enumerate","zip","dict_itemiterator","dict_reverseitemiterator","odict_iterator","itertools.zip_longest","itertools.pairwise"].contains n&&vs[0]?==some (rawInt _))=true then _ else _) Q E s
       rw[if_neg (by intro h;rw[hn,Bool.false_and]at h;cases h)]
       exact wpAny_pure hQ))
def Itl (K:PySem.W.Frag)(a:Addr):It:=
 ⟨fun i H=>∃xs x,SqL K H a xs/\xs[i]?=some x,fun i H x H'=>H'=H/\∀xs,SqL K H a xs->xs[i]?=some x,fun i H=>∃xs,SqL K H a xs/\xs.length<=i⟩
def Itt (K:PySem.W.Frag)(a:Addr):It:=
 ⟨fun i H=>∃xs x,SqT K H a xs/\xs[i]?=some x,fun i H x H'=>H'=H/\∀xs,SqT K H a xs->xs[i]?=some x,fun i H=>∃xs,SqT K H a xs/\xs.length<=i⟩
def Itr (lo:Int)(n:Nat):It:=⟨fun i _=>i<n,fun i H x H'=>H'=H/\x= .int j8,fun i _=>n<=i⟩
theorem Qlt {P:Program}{w:World}{K:PySem.W.Frag}{tg:Expr}(a it:Addr):Turn P w K tg qM [it] it (fun i h=>h.IsListIter it a i) where
 mem:=by simp
 obj:=fun i h st b hb=>by
  have e:b=it:=by simpa using hb
  subst e
  obtain⟨o,e,c,d⟩:=st
  exact⟨o,e,fun v z=>by rw[d]at z;cases z⟩
 keep:=fun i h h' st k=>st.at fun o e=>k it al o e
 item:=by
  intro X hP hw hK hc i pins s σ H E I hf st hg
  subst hP hw hK
  obtain⟨xs,x,hq,hx⟩:=hg
  obtain⟨its,rv,p,hz⟩:=I.list hq
  obtain⟨u,hu,ru⟩:=rv.get hx
  obtain⟨f0,f1,f2,f3,f4,f5⟩:=hf it al
  refine wpAny_pyNext_list_item st p.isList (x:=u) (by simpa using hu) fun h' st' sb=>?_
  have I1:Inv X pins σ H {s with heap:=h'}:=I.turned (t':=s.toks) (fun b o hb e=>(sb.2 b hb).trans e) f0 f1 f3 f4 f5
  obtain⟨o,e,c,d⟩:=id st'
  exact⟨u,rfl,QoL (s:={s with heap:=h'}) e c d ah ⟨x,H,I1,ru,⟨rfl,fun ys hy=>by rw[I.list_inj hy hq];exact hx⟩,st',fun b hb=>(hf b hb).1⟩⟩
 done:=by
  intro X hP hw hK hc i pins s σ H E I hf st hg
  subst hP hw hK
  obtain⟨xs,hq,hx⟩:=hg
  obtain⟨its,rv,p,hz⟩:=I.list hq
  obtain⟨f0,f1,f2,f3,f4,f5⟩:=hf it al
  have hl:=rv.length
  exact wpAny_pyNext_list_end gY st p.isList (by simp;omega) fun h' eb=>⟨rfl,I.turned (t':=s.toks) (fun b o hb e=>eb b o hb e) f0 f1 f3 f4 f5⟩
 self:=fun _ _ _ _ _ st h=>wpAny_pyIter_listiter st h
theorem QkO {P:Program}{w:World}{K:PySem.W.Frag}{tg:Expr}(a it:Addr):Turn P w K tg (Itt K a) [it] it (fun i h=>h.IsTupleIter it a i) where
 mem:=by simp
 obj:=fun i h st b hb=>by
  have e:b=it:=by simpa using hb
  subst e
  obtain⟨o,e,c,d⟩:=st
  exact⟨o,e,fun v z=>by rw[d]at z;cases z⟩
 keep:=fun i h h' st k=>st.at fun o e=>k it al o e
 item:=by
  intro X hP hw hK hc i pins s σ H E I hf st hg
  subst hP hw hK
  obtain⟨xs,x,hq,hx⟩:=hg
  obtain⟨its,rv,p,hz⟩:=I.tuple hq
  obtain⟨u,hu,ru⟩:=rv.get hx
  obtain⟨f0,f1,f2,f3,f4,f5⟩:=hf it al
  refine wpAny_pyNext_tuple_item st (show s.heap.IsTuple a its.toArray from p) (x:=u) (by simpa using hu) fun h' st' sb=>?_
  have I1:Inv X pins σ H {s with heap:=h'}:=I.turned (t':=s.toks) (fun b o hb e=>(sb.2 b hb).trans e) f0 f1 f3 f4 f5
  obtain⟨o,e,c,d⟩:=id st'
  exact⟨u,rfl,QoL (s:={s with heap:=h'}) e c d ah ⟨x,H,I1,ru,⟨rfl,fun ys hy=>by rw[I.tuple_inj hy hq];exact hx⟩,st',fun b hb=>(hf b hb).1⟩⟩
 done:=by
  intro X hP hw hK hc i pins s σ H E I hf st hg
  subst hP hw hK
  obtain⟨xs,hq,hx⟩:=hg
  obtain⟨its,rv,p,hz⟩:=I.tuple hq
  obtain⟨f0,f1,f2,f3,f4,f5⟩:=hf it al
  have hl:=rv.length
  exact wpAny_pyNext_tuple_end gY st (show s.heap.IsTuple a its.toArray from p) (by simp;omega) fun h' eb=>⟨rfl,I.turned (t':=s.toks) (fun b o hb e=>eb b o hb e) f0 f1 f3 f4 f5⟩
 self:=fun _ _ _ _ _ st h=>wpAny_pyIter_tupleiter st h
theorem QgS {P:Program}{w:World}{K:PySem.W.Frag}{tg:Expr}(it:Addr)(lo:Int)(n:Nat):Turn P w K tg (Itr lo n) [it] it (fun i h=>IsRangeIter h it (lo+(i:Nat)*1) ((n:Int)-(i:Nat)) 1) where
 mem:=by simp
 obj:=fun i h st b hb=>by
  have e:b=it:=by simpa using hb
  subst e
  exact⟨_,st,fun v z=>by
   have z':Data.fields _=Data.cell v:=z
   cases z'⟩
 keep:=fun i h h' st k=>k it al _ st
 item:=by
  intro X hP hw hK hc i pins s σ H E I hf st hg
  subst hP hw hK
  obtain⟨f0,f1,f2,f3,f4,f5⟩:=hf it al
  have W:=Walks.range (prog:=X.prog) (w:=X.w) gY it lo 1 n
  refine W.item i s _ _ hg st fun v h' tk hv st' kk=>?_
  obtain⟨t,rfl⟩:=hv
  have I1:Inv X pins σ H {s with heap:=h',toks:=tk}:=I.turned (fun b o hb e=>kk b o (by simpa using hb) e) f0 f1 f3 f4 f5
  refine⟨_,rfl,QoL (s:={s with heap:=h',toks:=tk}) (n:="range_iterator") st' rfl rfl ah ⟨.int j8,H,I1,⟨t,?_⟩,⟨rfl,rfl⟩,st',fun b hb=>(hf b hb).1⟩⟩
  rw[Int.mul_one]
 done:=by
  intro X hP hw hK hc i pins s σ H E I hf st hg
  subst hP hw hK
  obtain⟨f0,f1,f2,f3,f4,f5⟩:=hf it al
  exact wpAny_pyNext_range_end gY st (by have:n<=i:=hg;omega) fun h' eb=>⟨rfl,I.turned (t':=s.toks) (fun b o hb e=>eb b o hb e) f0 f1 f3 f4 f5⟩
 self:=fun _ _ _ _ _ st h=>wpAny_pyIter_rangeiter st h
end L2
namespace L2
open PySem PySem.Spec PyProof.Rows
section
variable {X:Cx}{tg:Expr}
def QoM (K:PySem.W.Frag)(tl:TE):TI:=fun σ H R=>tl σ H fun x H1=>∃a,x= .ref a/\(∃xs,SqL K H1 a xs)/\R qM H1
def iTup (K:PySem.W.Frag)(tl:TE):TI:=fun σ H R=>tl σ H fun x H1=>∃a,x= .ref a/\(∃xs,SqT K H1 a xs)/\R (Itt K a) H1
theorem Qlu {l:Expr}{tl:TE}(hl:PE X l tl):PI X tg l (QoM X.K tl):=by
 intro pins s σ H R I h
 refine thn rh fun v s1 ⟨x,H1,I1,r1,q1⟩=>?_
 obtain⟨a,e,⟨xs,hq⟩,q⟩:=q1
 subst e
 cases r1
 obtain⟨its,rv,p,hz⟩:=I1.list hq
 refine wpAny_pyIter_list p.isList ?_
 refine⟨s1.heap.objs.size,[s1.heap.objs.size],_,_,H1,rfl,I1.kept (t':=s1.toks) fun b o e=>Heap.get?_push_of_some _ e,Qlt a _,⟨_,Heap.get?_push_size _ rfl,rfl,rfl⟩,fun b hb=>?_,q⟩
 have e:b=s1.heap.objs.size:=by simpa using hb
 subst e
 exact I1.fpOk aw nv
theorem QqZ {l:Expr}{tl:TE}(hl:PE X l tl):PI X tg l (iTup X.K tl):=by
 intro pins s σ H R I h
 refine thn rh fun v s1 ⟨x,H1,I1,r1,q1⟩=>?_
 obtain⟨a,e,⟨xs,hq⟩,q⟩:=q1
 subst e
 cases r1
 obtain⟨its,rv,p,hz⟩:=I1.tuple hq
 refine wpAny_pyIter_tuple (show s1.heap.IsTuple a its.toArray from p) ?_
 refine⟨s1.heap.objs.size,[s1.heap.objs.size],_,_,H1,rfl,I1.kept (t':=s1.toks) fun b o e=>Heap.get?_push_of_some _ e,QkO a _,⟨_,Heap.get?_push_size _ rfl,rfl,rfl⟩,fun b hb=>?_,q⟩
 have e:b=s1.heap.objs.size:=by simpa using hb
 subst e
 exact I1.fpOk aw nv
theorem QmW {pins:List aB}{σ:St}{H:Hp}{s:Shared}{R:It->Hp->Prop}{E:Value->Shared->Prop}{lo hi:Int}{t u v:Tok}{tk:Nat}(I:Inv X pins σ H s)(h1: -(2^62)<=lo)(h2:lo<2^62)(h3: -(2^62)<=hi)(h4:hi<2^62)
  (q:R (Itr lo (hi-lo).toNat) H):wpAny am X.A (pyIter kH) tw E {s with heap:=s.heap.push {cls:= .type "range",data:= .fields #[.int lo t, .int hi u, .int 1 v]},toks:=tk}:=by
 refine wpAny_pyIter_range (IsRange.new ..) (small_one h1 h2 h3 h4) ?_
 have I1:Inv X pins σ H {s with heap:=s.heap.push {cls:= .type "range",data:= .fields #[.int lo t, .int hi u, .int 1 v]},toks:=tk}:=I.kept fun b o e=>Heap.get?_push_of_some _ e
 refine⟨(s.heap.push {cls:= .type "range",data:= .fields #[.int lo t, .int hi u, .int 1 v]}).objs.size,[(s.heap.push {cls:= .type "range",data:= .fields #[.int lo t, .int hi u, .int 1 v]}).objs.size],_,_,H,rfl,
  I1.kept (t':=tk) fun b o e=>Heap.get?_push_of_some _ e,QgS _ lo (hi-lo).toNat,?_,fun b hb=>?_,q⟩
 .have e1:lo+((0:Nat):Int)*1=lo:=by simp
  have e2:(((hi-lo).toNat:Nat):Int)-((0:Nat):Int)=Builtin.Range.rangeSize lo hi 1:=by rw[rangeSize_one];split<;>omega
  show IsRangeIter _ _ (lo+((0:Nat):Int)*1) ((((hi-lo).toNat:Nat):Int)-((0:Nat):Int)) 1
  rw[e1,e2]
  exact Heap.get?_push_size _ rfl
 .have e:b=(s.heap.push {cls:= .type "range",data:= .fields #[.int lo t, .int hi u, .int 1 v]}).objs.size:=by simpa using hb
  subst e
  exact I1.fpOk aw nv
def Qq0 (ta:TA):TI:=fun σ H R=>ta σ H fun vs H1=>∃j:Int,vs= [.int j]/\-(2^62)<=j/\j<2^62/\R (Itr 0 j.toNat) H1
theorem Qlv {a:Expr}{ta:TA}{p pos:Pos}(hg:Gl X "range")(hm:X.mg "range"=none)(ha:PA X [a] ta)(hs:starEach [a] X.env= [(false,eval a X.env)]:=by rfl):PI X tg gP (Qq0 ta):=by
 intro pins s σ H R I h
 refine Call_ (QgR I hg hm boot_range (PyProof.Rows.callWith_type1 (thn df fun us s1 ⟨vs,H1,I1,r1,q1⟩=>?_) hs rfl))
 obtain⟨j,e,q1,q2,q⟩:=q1
 subst e
 cases r1 with
 |cons r rr=>
  cases rr
  obtain⟨t,rfl⟩:=r
  exact call_range_1 (QmW I1 aa aa q1 q2 (by simpa using q))
def tFor (wi:TI)(g:TG)(tb:TS):TS:=fun D σ H=>wi σ H fun J H1=>∃W:Nat->Nat->St->Hp->Prop,(∃m,W 0 m σ H1)/\∀i m σ H,W i m σ H->
 (J.stop i H/\D.nx σ H)\/(J.go i H/\∃N:St->Hp->Prop,(∀σ' H',N σ' H'->∃m',m'<m/\W (i+1) m' σ' H')/\∀x H',J.yld i H x H'->g x σ H' fun σ2 H2=>tb {D with nx:=N,ct:=N,bk:=D.nx} σ2 H2)
def Qij (fp:List Addr)(h:Heap):List aB:=fp.filterMap fun b=>(h.get? b).map fun o=>(b,o)
theorem Qdm {fp:List Addr}{h:Heap}{b:Addr}{o:Obj}(hb:b∈fp)(e:h.get? b=some o):(b,o)∈Qij fp h:=List.mem_filterMap.mpr ⟨b,hb,by rw[e];rfl⟩
theorem Qlw {fp:List Addr}{h:Heap}{p:Addr×Obj}(hp:p∈Qij fp h):p.1∈fp/\h.get? p.1=some p.2:=by
 obtain⟨b,hb,e⟩:=List.mem_filterMap.mp hp
 cases q:h.get? b with
 |none=>rw[q]at e;cases e
 |some o=>
  rw[q]at e
  have e':(b,o)=p:=Option.some.inj e
  subst e'
  exact⟨hb,q⟩
theorem Inv.pinned {pins:List aB}{σ:St}{H:Hp}{s:Shared}{fp:List Addr}(I:Inv X pins σ H s)(hf:∀b∈fp,FpOk X pins H b)(ho:∀b∈fp,∃o,s.heap.get? b=some o/\∀v,o.data≠ .cell v):Inv X (pins++Qij fp s.heap) σ H s:=
 I.pins_of fun p hp=>(List.mem_append.mp hp).elim (fun z=>I.pin p (List.mem_append_right _ z)) fun z=>by
  obtain⟨hb,e⟩:=Qlw z
  obtain⟨f0,f1,f2,_⟩:=hf p.1 hb
  obtain⟨o,e',d⟩:=ho p.1 hb
  rw[e]at e';cases e'
  exact⟨e,f0,f1,f2,d⟩
theorem Inv.unpinned {pins pl:List aB}{σ:St}{H:Hp}{s:Shared}(I:Inv X (pins++pl) σ H s):Inv X pins σ H s:=I.pins_of fun p hp=>I.pin p (List.mem_append_right _ (List.mem_append_left _ hp))
theorem Qlx {iter:Expr}{body:List Stmt}{wi:TI}{g:TG}{tb:TS}{pos:Pos}(hp:PassesOwn am X.A X.env X.xe)(hc:X.calm=true)(hi:PI X tg iter wi)(hg:PG X tg g)(hb:PSs X body tb)
  (hs:∀x,foldedSetIterable iter X.env x=pure x:=by intro _;rfl):PS X qa (tFor wi g tb):=by
 intro pins s σ H D I h
 refine wpAny_For (thn rj fun v s1 h1=>thn h1 fun itv s2 h2=>?_) hs
 obtain⟨it,fp,tn,J,H2,e,I2,T,st2,f2,W,⟨m0,w0⟩,turn⟩:=h2
 subst e
 have stat:∀{H':Hp},(∀b∈fp,H' b=none)->∀b∈fp,FpOk X pins H' b:=fun hn b hb=>⟨hn b hb,(f2 b hb).2⟩
 refine codeAny_forLoop_any (fun n s'=>∃i σ' H',Inv X pins σ' H' s'/\tn i s'.heap/\(∀b∈fp,H' b=none)/\W i n σ' H') ?_ m0 ⟨0,σ,H2,I2,st2,fun b hb=>(f2 b hb).1,w0⟩
 rintro n s3 ⟨i,σ3,H3,I3,st3,fr3,w3⟩
 rcases turn i n σ3 H3 w3 with⟨stop,qn⟩|⟨go,N,hN,step⟩
 .refine wpAny_passesOwn hp (thn (T.done X rfl rfl rfl hc i pins s3 σ3 H3 X.xe I3 (stat fr3) st3 stop) fun r s4 ⟨hr,I4⟩=>?_)
  subst hr
  exact wpAny_execs_nil ⟨σ3,H3,I4,qn⟩
 .refine wpAny_passesOwn hp (thn (T.item X rfl rfl rfl hc i pins s3 σ3 H3 X.xe I3 (stat fr3) st3 go) fun r s4 ⟨u,hr,h4⟩=>?_)
  subst hr
  refine wpAny_passesOwn hp (thn h4 fun _ s5 ⟨x,H5,I5,r5,y5,st5,fr5⟩=>?_)
  have I5':=I5.pinned (stat fr5) (T.obj _ _ st5)
  refine wpAny_passesOwn hp (thn (hg _ s5 σ3 H5 x u _ I5' r5 (step x H5 y5)) fun _ s6 ⟨σ6,H6,I6,q6⟩=>?_)
  refine wpAny_passesOwn hp (thn (hb _ s6 σ6 H6 _ I6 q6) fun f s7 q7=>?_)
  have again:∀{σ7:St} {H7:Hp},Inv X (pins++Qij fp s5.heap) σ7 H7 s7->N σ7 H7->∃m,m<n/\∃i σ' H',Inv X pins σ' H' s7/\tn i s7.heap/\(∀b∈fp,H' b=none)/\W i m σ' H':=fun{σ7 H7} I7 n7=>by
   obtain⟨m',hm,w7⟩:=hN σ7 H7 n7
   refine⟨m',hm,i+1,σ7,H7,I7.unpinned,T.keep _ _ _ st5 fun b hb o e=>(I7.pin (b,o) b7).1,fun b hb=>?_,w7⟩
   obtain⟨o,e,d⟩:=T.obj _ _ st5 b hb
   exact(I7.pin (b,o) b7).2.1
  cases f with
  |next=>obtain⟨σ7,H7,I7,n7⟩:=q7;exact again I7 n7
  |cont=>obtain⟨σ7,H7,I7,n7⟩:=q7;exact again I7 n7
  |brk=>obtain⟨σ7,H7,I7,q7⟩:=q7;exact⟨σ7,H7,I7.unpinned,q7⟩
  |ret v=>obtain⟨x7,σ7,H7,I7,r7,q7⟩:=q7;exact⟨x7,σ7,H7,I7.unpinned,r7,q7⟩
end
end L2
namespace L2
open PySem PySem.Spec PyProof.Rows
abbrev R2:=V->V->Hp->VK->Prop
def OpR (X:Cx)(f:Value->Value->Sem Value)(r:R2):Prop:=
 ∀(pins:List aB) (s:Shared) (σ:St) (H:Hp) (x y:V) (v u:Value) (Q:VK),Inv X pins σ H s->RelV x v->RelV y u->r x y H Q->
  wpAny am X.A (f v u) bT X.xe s
def UnR (X:Cx)(f:Value->Sem Value)(r:V->Hp->VK->Prop):Prop:=
 ∀(pins:List aB) (s:Shared) (σ:St) (H:Hp) (x:V) (v:Value) (Q:VK),Inv X pins σ H s->RelV x v->r x H Q->
  wpAny am X.A (f v) bT X.xe s
def Qfw (X:Cx)(f:Value)(r:List V->Hp->VK->Prop):Prop:=
 ∀(pins:List aB) (s:Shared) (σ:St) (H:Hp) (xs:List V) (us:List Value) (Q:VK),Inv X pins σ H s->Vals xs us->r xs H Q->
  wpAny am X.A (call f us) bT X.xe s
def TruR (X:Cx)(r:V->Hp->(Bool->Hp->Prop)->Prop):Prop:=
 ∀(pins:List aB) (s:Shared) (σ:St) (H:Hp) (x:V) (v:Value) (Q:Bool->Hp->Prop),Inv X pins σ H s->RelV x v->r x H Q->
  wpAny am X.A mx kx X.xe s
def tOp (r:R2)(ta tb:TE):TE:=fun σ H Q=>ta σ H fun x H1=>tb σ H1 fun y H2=>r x y H2 Q
def tUn (r:V->Hp->VK->Prop)(ta:TE):TE:=fun σ H Q=>ta σ H fun x H1=>r x H1 Q
def rI (C:Int->Int->Prop)(g:Int->Int->V):R2:=fun x y H Q=>∃i j,x= .int i/\y= .int j/\C i j/\Q iY H
def rI0 (g:Int->Int->V):R2:=fun x y H Q=>∃i j,x= .int i/\y= .int j/\Q iY H
def rU (g:Int->V):V->Hp->VK->Prop:=fun x H Q=>∃i,x= .int i/\Q (g i) H
section
variable {X:Cx}{a b c:Expr}{ta tb tc:TE}{pos:Pos}
theorem binT (ha:PE X a ta)(hb:PE X b tb){pins:List aB}{s:Shared}{σ:St}{H:Hp}{R:V->V->Hp->Prop}(I:Inv X pins σ H s)
  (h:ta σ H fun x H1=>tb σ H1 fun y H2=>R x y H2) {Q:Value->Shared->Prop} {f:Value->Value->Sem Value}
  (hf:∀v u s2 x y H2,Inv X pins σ H2 s2->RelV x v->RelV y u->R x y H2->wpAny am X.A (f v u) Q X.xe s2):
  wpAny am X.A (eval a X.env) (fun v s₁=>wpAny am X.A (eval b X.env) (fun u s₂=>wpAny am X.A (f v u) Q X.xe s₂) X.xe s₁) X.xe s:=by
 refine thn b5 fun v s1 ⟨x,H1,I1,r1,q1⟩=>?_
 refine thn jm fun u s2 ⟨y,H2,I2,r2,q2⟩=>?_
 exact hf v u s2 x y H2 I2 r1 r2 q2
theorem Qty {op:Operator}{r:R2}(ho:OpR X (binaryOp op) r)(ha:PE X a ta)(hb:PE X b tb):PE X uk mt:=by
 intro pins s σ H Q I h
 exact wpAny_BinOp (binT ha hb I h fun v u s2 x y H2 I2 rx ry q=>ho pins s2 σ H2 x y v u Q I2 rx ry q)
theorem Qtz {op:UnaryOp}{r:V->Hp->VK->Prop}(ho:UnR X (unaryOp op) r)(ha:PE X a ta):PE X (.UnaryOp op a pos) (tUn r ta):=by
 intro pins s σ H Q I h
 exact UnaryOp_ (thn b5 fun v s1 ⟨x,H1,I1,r1,q1⟩=>ho pins s1 σ H1 x v Q I1 r1 q1)
theorem augR {op:Operator}{r:R2}(ho:OpR X (inplaceOp op) r){pins:List aB}{s:Shared}{σ:St}{H:Hp}{x y:V}{v u:Value}{Q:VK}(I:Inv X pins σ H s)
  (rx:RelV x v) (ry:RelV y u) (q:r x y H Q):wpAny am X.A uz bT X.xe s:=ho pins s σ H x y v u Q I rx ry q
theorem opI {f:Value->Value->Sem Value}{C:Int->Int->Prop}{g:Int->Int->Int}
  (rule:∀(i j:Int) (t u:Tok) (s:Shared) (Q:Value->Shared->Prop) (E:Value->Shared->Prop),C i j->Q (.int iY s.toks) {s with toks:=s.toks+1}->wpAny am X.A kg Q E s):
  OpR X f (rI C fun i j=> .int iY):=by
 intro pins s σ H x y v u Q I rx ry h
 obtain⟨i,j,rfl,rfl,hc,q⟩:=h
 obtain⟨t,rfl⟩:=rx
 obtain⟨t',rfl⟩:=ry
 exact rule i j t t' s _ _ hc ⟨.int iY,H,I.tok _,⟨_,rfl⟩,q⟩
theorem opI0 {f:Value->Value->Sem Value}{g:Int->Int->Int}
  (rule:∀(i j:Int) (t u:Tok) (s:Shared) (Q:Value->Shared->Prop) (E:Value->Shared->Prop),Q (.int iY s.toks) {s with toks:=s.toks+1}->wpAny am X.A kg Q E s):
  OpR X f (rI0 fun i j=> .int iY):=by
 intro pins s σ H x y v u Q I rx ry h
 obtain⟨i,j,rfl,rfl,q⟩:=h
 obtain⟨t,rfl⟩:=rx
 obtain⟨t',rfl⟩:=ry
 exact rule i j t t' s _ _ ⟨.int iY,H,I.tok _,⟨_,rfl⟩,q⟩
theorem opB0 {f:Value->Value->Sem Value}{g:Int->Int->Bool}
  (rule:∀(i j:Int) (t u:Tok) (s:Shared) (Q:Value->Shared->Prop) (E:Value->Shared->Prop),Q (.bool iY) s->wpAny am X.A kg Q E s):
  OpR X f (rI0 fun i j=> .bl iY):=by
 intro pins s σ H x y v u Q I rx ry h
 obtain⟨i,j,rfl,rfl,q⟩:=h
 obtain⟨t,rfl⟩:=rx
 obtain⟨t',rfl⟩:=ry
 exact rule i j t t' s _ _ ⟨.bl iY,H,I,rfl,q⟩
def CPow (i j:Int):Prop:=0<=j/\j<=1000000/\i.natAbs<2^64
def CMul (i j:Int):Prop:=(-(2^64)<i/\i<2^64)\/(-(2^64)<j/\j<2^64)
theorem CMul.ok {i j:Int}(h:CMul i j):IntMulOk i j:=by
 rcases h with⟨h1,h2⟩|⟨h1,h2⟩
 .exact .of_left sg
 .exact .of_right sg
theorem op_add:OpR X lf (rI0 fun i j=> .int (i+j)):=opI0 fun _ _ _ _ _ _ _ q=>add_int q
theorem Qq1:OpR X (binaryOp .Sub) (rI0 fun i j=> .int (i-j)):=opI0 fun _ _ _ _ _ _ _ q=>sub_int q
theorem op_mul:OpR X ku (rI CMul fun i j=> .int (i*j)):=opI fun _ _ _ _ _ _ _ hc q=>mul_int q hc.ok
theorem Qq2:OpR X (binaryOp .Mod) (rI (fun _ j=>0<j) fun i j=> .int (i %j)):=opI fun i j _ _ _ _ _ hc q=>by
 have h1:(0:Int)<j:=hc
 exact mod_int' aa (by rw[Int.fmod_eq_emod_of_nonneg i aa];exact q)
theorem Qq3:OpR X (binaryOp .Pow) (rI CPow fun i j=> .int (i^j.toNat)):=opI fun _ _ _ _ _ _ _ hc q=>pow_int_small hc.1 hc.2.1 hc.2.2 q
theorem unI {f:Value->Sem Value}{g:Int->Int}
  (rule:∀(i:Int) (t:Tok) (s:Shared) (Q:Value->Shared->Prop) (E:Value->Shared->Prop),Q (.int (g i) s.toks) {s with toks:=s.toks+1}->wpAny am X.A (f uZ) Q E s):
  UnR X f (rU fun i=> .int (g i)):=by
 intro pins s σ H x v Q I rx h
 obtain⟨i,rfl,q⟩:=h
 obtain⟨t,rfl⟩:=rx
 exact rule i t s _ _ ⟨.int (g i),H,I.tok _,⟨_,rfl⟩,q⟩
theorem Qq4:UnR X (unaryOp .USub) (rU fun i=> .int (-i)):=unI fun _ _ _ _ _ q=>neg_int q
end
section
variable {X:Cx}{a b c:Expr}{ta tb tc:TE}{pos:Pos}
theorem Qly {pins:List aB}{σ:St}{H:Hp}{s:Shared}{Q:VK}{k k':Bool}(I:Inv X pins σ H s)(q:Q (.bl k) H)(e:k=k'):EP X pins σ Q (.bool k') s:=by
 subst e
 exact⟨.bl k,H,I,rfl,q⟩
theorem QtA:OpR X (compareOp .Lt) (rI0 fun i j=> .bl (decide (i<j))):=opB0 fun _ _ _ _ _ _ _ q=>lt_int q
theorem QtB:OpR X (compareOp .LtE) (rI0 fun i j=> .bl (decide (i<=j))):=opB0 fun _ _ _ _ _ _ _ q=>le_int q
theorem QtC:OpR X (compareOp .Gt) (rI0 fun i j=> .bl (decide (j<i))):=opB0 fun _ _ _ _ _ _ _ q=>gt_int q
theorem QtD:OpR X (compareOp .GtE) (rI0 fun i j=> .bl (decide (j<=i))):=opB0 fun _ _ _ _ _ _ _ q=>ge_int q
theorem Qq5:OpR X (compareOp .Is) (fun x y H Q=>y= .non/\Q (.bl (decide (x= .non))) H):=by
 intro pins s σ H x y v u Q I rx ry h
 obtain⟨rfl,q⟩:=h
 cases ry
 refine is_none_gen (Qly I q ?_)
 cases x<;>first
  |(cases rx;rfl)
  |(obtain⟨t,rfl⟩:=rx;rfl)
theorem QoN:OpR X (compareOp .IsNot) (fun x y H Q=>y= .non/\Q (.bl (!decide (x= .non))) H):=by
 intro pins s σ H x y v u Q I rx ry h
 obtain⟨rfl,q⟩:=h
 cases ry
 refine isnot_none_gen (Qly I q ?_)
 cases x<;>first
  |(cases rx;rfl)
  |(obtain⟨t,rfl⟩:=rx;rfl)
theorem OpR.or {f:Value->Value->Sem Value}{r r':R2}(h:OpR X f r)(h':OpR X f r'):OpR X f (fun x y H Q=>r x y H Q\/r' x y H Q):=by
 intro pins s σ H x y v u Q I rx ry q
 rcases q with q|q
 .exact h pins s σ H x y v u Q I rx ry q
 .exact h' pins s σ H x y v u Q I rx ry q
theorem Qoh (b:Expr){op:CmpOp}(h:op≠ .In:=by decide)(h2:op≠ .NotIn:=by decide):behindInMarks op b=false:=by
 have e1:(op==CmpOp.In)=false:=by cases op<;>first|rfl|exact absurd rfl h
 have e2:(op==CmpOp.NotIn)=false:=by cases op<;>first|rfl|exact absurd rfl h2
 cases b<;>simp[behindInMarks,e1,e2]
theorem QoO {op:CmpOp}{r:R2}(ho:OpR X lP r)(ha:PE X a ta)(hb:PE X b tb)(hm:behindInMarks op b=false):PE X kJ mt:=by
 intro pins s σ H Q I h
 exact wpAny_Compare1 (binT ha hb I h fun v u s2 x y H2 I2 rx ry q=>ho pins s2 σ H2 x y v u Q I2 rx ry q) hm
def Qq6 (t:TE):TT:=fun σ H Q=>t σ H fun x H'=>∃k,x= .bl k/\Q k H'
theorem QoP {op:CmpOp}{r:R2}(ho:OpR X lP r)(ha:PE X a ta)(hb:PE X b tb)(hm:behindInMarks op b=false):PT X kJ (Qq6 mt):=by
 intro pins s σ H Q I h
 refine wpAny_isTrue_Compare1 (thn b5 fun v s1 ⟨x,H1,I1,r1,q1⟩=>thn jm fun u s2 ⟨y,H2,I2,r2,q2⟩=>
  thn lq fun c s3 ⟨z,H3,I3,r3,k,e,q3⟩=>?_) hm
 subst e
 cases r3
 exact wpAny_truthy_bool ⟨H3,I3,q3⟩
def Qoi (r r':R2)(ta tb tc:TE):TE:=fun σ H Q=>ta σ H fun x H1=>tb σ H1 fun y H2=>r x y H2 fun z H3=>∃k,z= .bl k/\
 (if k=true then tc σ H3 fun w' H4=>r' y w' H4 Q else Q cp H3)
theorem QmX {op op':CmpOp}{r r':R2}(ho:OpR X lP r)(ho':OpR X (compareOp op') r')(ha:PE X a ta)(hb:PE X b tb)(hc:PE X c tc)
  (hm:lastMarks [op,op'] [b,c]=false:=by with_unfolding_all rfl):PT X qU (Qq6 (Qoi r r' ta tb tc)):=by
 intro pins s σ H Q I h
 refine isTrue_chain (thn b5 fun v s1 ⟨x,H1,I1,r1,q1⟩=>test_link (thn jm fun u s2 ⟨y,H2,I2,r2,q2⟩=>
  thn lq fun d s3 ⟨z,H3,I3,r3,k,e,q3⟩=>?_)) hm
 subst e
 cases r3
 refine wpAny_truthy_bool ?_
 cases k with
 |false=>
  obtain⟨k',e',q'⟩:=q3
  cases e'
  exact ite_ff ⟨H3,I3,q'⟩
 |true=>
  refine ite_tt (test_last (thn (hc pins s3 σ H3 _ I3 q3) fun w' s4 ⟨z',H4,I4,r4,q4⟩=>thn (ho' pins s4 σ H4 y z' u w' _ I4 r2 r4 q4) fun d' s5 ⟨z2,H5,I5,r5,k2,e2,q5⟩=>?_))
  subst e2
  cases r5
  exact wpAny_truthy_bool ⟨H5,I5,q5⟩
def TruV (K:PySem.W.Frag)(x:V)(H:Hp)(k:Bool):Prop:=
 match x with
 | .non=>k=false
 | .bl b=>k=b
 | .int i=>k=(i !=0)
 | .str y=>y.length<=sizeLine/\k=((y.length:Int) !=0)
 | .byt y=>y.size<=sizeLine/\k=((y.size:Int) !=0)
 | .ref p=>(∃xs,SqL K H p xs/\k= !xs.isEmpty)\/(∃xs,SqT K H p xs/\k= !xs.isEmpty)\/∃kvs,H p=some fo/\k= !kvs.isEmpty
 |_=>False
theorem QkP {κ:Type}{kvs:List (κ×V)}{vs:List iL}(r:KV kvs vs):(!vs.isEmpty)= !kvs.isEmpty:=by
 cases r<;>rfl
theorem QgT {xs:List V}{its:List Value}(r:Vals xs its):(!its.toArray.isEmpty)= !xs.isEmpty:=by
 cases r<;>simp
theorem QgU:(sizeLine:Nat)<2^63:=by rw[sizeLine_eq];decide
theorem Qq7:TruR X (fun x H Q=>∃k,TruV X.K x H k/\Q k H):=by
 intro pins s σ H x v Q I rx h
 obtain⟨k,e,q⟩:=h
 have hl:=QgU
 have hs:sizeLine=16777216:=sizeLine_eq
 cases x with
 |non=>
  cases rx
  have e':k=false:=e
  subst e'
  exact truthy_none ⟨H,I,q⟩
 |bl b=>
  cases rx
  have e':k=b:=e
  subst e'
  exact wpAny_truthy_bool ⟨H,I,q⟩
 |int i=>
  obtain⟨t,rfl⟩:=rx
  have e':k=(i !=0):=e
  subst e'
  exact PySem.P.truthy_int ⟨H,I,q⟩
 |str y=>
  obtain⟨t,rfl⟩:=rx
  obtain⟨hy,e'⟩:y.length<=sizeLine/\k=((y.length:Int) !=0):=e
  subst e'
  exact PySem.P.truthy_str aa ⟨H,I.tok _,q⟩
 |byt y=>
  obtain⟨t,rfl⟩:=rx
  obtain⟨hy,e'⟩:y.size<=sizeLine/\k=((y.size:Int) !=0):=e
  subst e'
  exact PySem.W.truthy_bytes aa ⟨H,I.tok _,q⟩
 |ref p=>
  cases rx
  have e':(∃xs,SqL X.K H p xs/\k= !xs.isEmpty)\/(∃xs,SqT X.K H p xs/\k= !xs.isEmpty)\/∃kvs,H p=some fo/\k= !kvs.isEmpty:=e
  rcases e' with⟨xs,hx,e'⟩|⟨xs,hx,e'⟩|⟨kvs,hx,e'⟩
  .subst e'
   obtain⟨its,r,pl,hz⟩:=I.list hx
   have hlen:=r.length
   exact wpAny_truthy_list pl.isList (by simp only[List.size_toArray];omega) ⟨H,I.tok _,by rw[QgT r];exact q⟩
  .subst e'
   obtain⟨its,r,pl,hz⟩:=I.tuple hx
   have hlen:=r.length
   exact truthy_tuple pl (by simp only[List.size_toArray];omega) ⟨H,I.tok _,by rw[QgT r];exact q⟩
  .subst e'
   obtain⟨hz,hS,vs,r,m⟩:kvs.length<=sizeLine/\(p==sysModules)=false/\∃vs,KV kvs vs/\s.heap.DictOf (QaI X.prog X.w) p vs:=I.hok p _ hx
   have hlen:kvs.length=vs.length:=Paired.length r
   exact wpAny_truthy_dict hS m aa ⟨H,I.tok _,by rw[QkP r];exact q⟩
 |_=>exact(show False from e).elim
theorem QmY (ha:PE X a ta)(he:∀whole,isTrue a X.env whole=(do let v←whole;standAt a.pos;holding [v] mx)):
  PT X a (fun σ H Q=>ta σ H fun x H'=>∃k,TruV X.K x H' k/\Q k H'):=by
 intro pins s σ H Q I h
 exact isTrue_plain (thn b5 fun v s1 ⟨x,H1,I1,r1,q1⟩=>Qq7 pins s1 σ H1 x v Q I1 r1 q1) (he _)
theorem QkQ:OpR X lf (fun x y H Q=>∃i j,x= .str i/\y= .str j/\i.length+j.length<=sizeLine/\Q (.str (i++j)) H):=by
 intro pins s σ H x y v u Q I rx ry h
 obtain⟨i,j,rfl,rfl,hz,q⟩:=h
 obtain⟨t,rfl⟩:=rx
 obtain⟨t',rfl⟩:=ry
 exact add_str (fun t' tk=>⟨.str (i++j),H,I.tok _,⟨_,rfl⟩,q⟩) hz
theorem QkR {x:V}{us:List Value}(r:Vals [x] us):∃u,us= [u]/\RelV x u:=by
 cases r with
 |cons r1 r2=>cases r2;exact⟨_,rfl,r1⟩
theorem QoQ {x y:V}{us:List Value}(r:Vals [x,y] us):∃u w',us= [u,w']/\RelV x u/\RelV y w':=by
 cases r with
 |cons r1 r2=>
  cases r2 with
  |cons r3 r4=>cases r4;exact⟨_,_,rfl,r1,r3⟩
theorem QmZ:Qfw X (.builtin "abs") (fun xs H Q=>∃i,xs= [.int i]/\Q (.int (if i<0 then-i else i)) H):=by
 intro pins s σ H xs us Q I r h
 obtain⟨i,rfl,q⟩:=h
 obtain⟨u,rfl,t,rfl⟩:=QkR r
 exact call_abs_int fun u tk=>⟨.int (if i<0 then-i else i),H,I.tok _,⟨_,rfl⟩,q⟩
theorem Qlz (hc:X.calm=true):Qfw X (.builtin "min") (fun xs H Q=>∃i j,xs= [.int i, .int j]/\Q (.int (if j<i then j else i)) H):=by
 intro pins s σ H xs us Q I r h
 obtain⟨i,j,rfl,q⟩:=h
 obtain⟨u,w',rfl,⟨t,rfl⟩,⟨t',rfl⟩⟩:=QoQ r
 refine min_two_ints gY fun h' tk k=>⟨_,H,I.kept k,?_,q⟩
 by_cases hj:j<i
 .rw[if_pos hj,if_pos hj];exact⟨_,rfl⟩
 .rw[if_neg hj,if_neg hj];exact⟨_,rfl⟩
end
end L2
namespace L2
open PySem PySem.Spec PyProof.Rows
structure ObjM (h:Heap)(x dx C:Addr)(mA:Str->Option Value):Prop where
 obj:h.get? x=some kX
 ns:h.Ns1 dx mA
 ne:dx≠x
theorem QlA {h:Heap}{dx:Addr}{mA:Str->Option Value}(n:h.Ns1 dx mA):∃od,h.get? dx=some od/\∀name,PySem.W.lookIn name od=some (mA name):=by
 obtain⟨o,es,ep,ho,hd,hk,_,hm⟩:=n
 refine⟨o,ho,fun name=>?_⟩
 have e:=hm name
 unfold nsFind findBy at e
 rw[←Array.find?_toList]at e
 unfold PySem.W.lookIn
 rw[hd]
 dsimp only
 split
 .rename_i y q
  rw[q]at e
  exact congrArg some e
 .rename_i q
  rw[q]at e
  have a:es.toList.any (·.refKey)=false:=by
   rw[List.any_eq_false]
   intro y hy
   obtain⟨z,t,hkey⟩:=hk y (Array.mem_toList_iff.mp hy)
   simp[DictEntry.refKey,hkey]
  have a':¬es.toList.any (·.refKey)=true:=by rw[a];exact Bool.false_ne_true
  rw[if_neg a']
  exact congrArg some e
theorem ObjM.look {h:Heap}{x dx C:Addr}{mA:Str->Option Value}(I:ObjM h x dx C mA):∃od,PySem.W.InstAt h x kX C (some od)/\∀name,PySem.W.lookIn name od=some (mA name):=
 let ⟨od,ho,hl⟩:=QlA I.ns
 ⟨od,⟨I.obj,rfl,rfl,ho⟩,hl⟩
section
variable {prog:Program}{w:World}{A:Around}{E:Value->Shared->Prop}{s:Shared}{K:PySem.W.Frag}{x dx C f:Addr}{mA:Str->Option Value}{name:Str}{v:Value}
theorem QoR {expr:Bool}{Q:Value->Shared->Prop}(X:K.In s.heap)(I:ObjM s.heap x dx C mA)(hg:PySem.W.plainGet K C name=true)(hh:PySem.W.hasDictIn K C=true)
  (ha:PySem.W.findIn K bV name=some none) (hv:mA name=some v) (hv':PySem.W.handedIn v=true) (h:Q v {s with toks:=s.toks+1}):
  wpAny aO A (getAttr kG name expr) Q E s:=by
 obtain⟨od,J,hl⟩:=I.look
 exact PySem.W.get_value X J (PySem.W.plainGet_of hg).1 (PySem.W.findObj_own hh ha rfl (by rw[hl,hv])) hv' h
theorem Qm0 {pl:Sem Bool}{Q:Value×List Value->Shared->Prop}(X:K.In s.heap)(I:ObjM s.heap x dx C mA)(hg:PySem.W.plainGet K C name=true)
  (hf:PySem.W.findIn K bV name=some nH) (ht:PySem.W.isFn K ca=true) (hv:mA name=none) (h:Q (.ref f,[.ref x]) s):
  wpAny aO A (getMethod kG name pl) Q E s:=by
 obtain⟨od,J,hl⟩:=I.look
 exact PySem.W.method_fn X J (PySem.W.plainGet_of hg).1 (PySem.W.plainGet_of hg).2 hf (beq_iff_eq.mp ht) (by show(PySem.W.lookIn name od).map (·.isSome)=some false;rw[hl,hv];rfl) h
theorem QoS {ns:List Str}{Q:Unit->Shared->Prop}(X:K.In s.heap)(I:ObjM s.heap x dx C mA)
  (hs:PySem.W.findIn K bV "__setattr__"=some mF) (hp:PySem.W.plainOver K C=true) (ht:PySem.W.takerIn K C name=some none) (hh:PySem.W.hasDictIn K C=true)
  (hw:PySem.Within mA ns) (hsz:ns.length<=sizeLine)
  (h:∀h',ObjM h' x dx C (fun y=>if y=name then some v else mA y)->Heap.SameBut dx s.heap h'->Q () {s with heap:=h',toks:=s.toks+2}):
  wpAny aO A (setAttr kG name v) Q E s:=by
 obtain⟨od,J,hl⟩:=I.look
 refine PySem.W.set_plain X J hs (PySem.W.osa_open (s:={s with toks:=s.toks+1}) (r:=none) X J hp ht fun b=>?_)
 obtain⟨cd,hc,hd'⟩:=PySem.W.any_some hh
 have hx:s.heap.get? x=some ⟨.ref C,some dx, .plain, #[]⟩:=I.obj
 refine wpAny_bind (wpAny_pure (wpAny_bind (wpAny_bind (wpAny_loadPart hx (wpAny_bind (PySem.W.Looks.here (s:={s with toks:=s.toks+1}) (PySem.W.looks_clsIn X hc) ?_))))))
 rw[hd']
 refine wpAny_pure (a:=some dx) (wpAny_bind (wpAny_pure (wpAny_bind ?_)))
 refine wpAny_nsSet1 (s:={s with toks:=s.toks+1}) I.ns fun h' hn2 hs2=>?_
 obtain⟨oD,esD,epD,hoD,hdD,hcD⟩:=hn2.count (PySem.Within.cons name v hw)
 refine wpAny_bind (wpAny_lookBehind hoD (by rw[hdD];exact pastItsLine_dict (Nat.le_trans hcD (by rw[List.length_cons];omega))) ?_)
 exact wpAny_pure (h _ ⟨(hs2.2 _ (Ne.symm I.ne)).trans I.obj,hn2,I.ne⟩ hs2)
theorem Qm1 {R:Result->Shared->Prop}{vs:List Value}{kw:List dH}(X:K.In s.heap)(hm:PySem.W.makesIn K C=true)
  (hi:PySem.W.findIn K bV "__init__"=some nH) (hf:PySem.W.typeIn K ca=some (.type "function"))
  (h:codeAny aO (A.under (.builtin "type.__call__" ⟨.ref C::vs,kw⟩)) (.call ca ⟨.ref av::vs,kw⟩) (PySem.W.InitBack av R)
   {s with heap:=(s.heap.push PySem.W.emptyDict).push dX}):
  codeAny aO A (.call bV ⟨vs,kw⟩) R s:=by
 obtain⟨hh,g,d,t,os⟩:=s
 exact PySem.W.make_core (PySem.W.makes_of X hm) (PySem.W.looks_findIn X hi) (fun self=>PySem.W.bind_fn X self hf) cw h
end
def putF (f:Str)(v:V):List kP->List kP
 | []=> [(f,v)]
 |(g,x)::r=>if g=f then(g,v)::r else(g,x)::putF f v r
theorem Qfx (f g:Str)(v:V):∀fs:List kP,(putF f v fs).lookup g=if g=f then some v else fs.lookup g
 | []=>by
  show List.lookup g [(f,v)]=_
  by_cases h:g=f
  .have hb:(g==f)=true:=beq_iff_eq.mpr h
   simp only[List.lookup,hb,if_pos h]
  .have hb:(g==f)=false:=beq_eq_false_iff_ne.mpr h
   simp only[List.lookup,hb,if_neg h]
 |(k,x)::r=>by
  have ih:=Qfx f g v r
  rw[show putF f v ((k,x)::r)=(if k=f then(k,v)::r else(k,x)::putF f v r)from rfl]
  by_cases hk:k=f
  .rw[if_pos hk]
   by_cases h:g=k
   .have hb:(g==k)=true:=beq_iff_eq.mpr h
    simp only[List.lookup,hb,if_pos (h.trans hk)]
   .have hb:(g==k)=false:=beq_eq_false_iff_ne.mpr h
    simp only[List.lookup,hb,if_neg (fun e:g=f=>h (e.trans hk.symm))]
  .rw[if_neg hk]
   by_cases h:g=k
   .have hb:(g==k)=true:=beq_iff_eq.mpr h
    simp only[List.lookup,hb,if_neg (fun e:g=f=>hk (h.symm.trans e))]
   .have hb:(g==k)=false:=beq_eq_false_iff_ne.mpr h
    simp only[List.lookup,hb]
    exact ih
theorem Qfy (f:Str)(v:V):∀fs:List kP,f∈(putF f v fs).map (·.1)/\∀g,g∈fs.map (·.1)->g∈(putF f v fs).map (·.1)
 | []=>⟨by simp[putF],fun g h=>by simp at h⟩
 |(k,x)::r=>by
  obtain⟨i1,i2⟩:=Qfy f v r
  rw[show putF f v ((k,x)::r)=(if k=f then(k,v)::r else(k,x)::putF f v r)from rfl]
  by_cases hk:k=f
  .rw[if_pos hk]
   subst hk
   exact⟨by simp,fun g h=>by simpa using h⟩
  .rw[if_neg hk]
   refine⟨?_,fun g h=>?_⟩
   .rw[List.map_cons]
    exact List.mem_cons_of_mem _ i1
   .rw[List.map_cons]at h⊢
    rcases List.mem_cons.mp h with e|e
    .exact List.mem_cons.mpr (.inl e)
    .exact List.mem_cons_of_mem _ (i2 g e)
theorem Qfz (f:Str)(v:V):∀fs:List kP,(putF f v fs).length<=fs.length+1
 | []=>by simp[putF]
 |(k,x)::r=>by
  have ih:=Qfz f v r
  rw[show putF f v ((k,x)::r)=(if k=f then(k,v)::r else(k,x)::putF f v r)from rfl]
  by_cases hk:k=f
  .rw[if_pos hk,List.length_cons,List.length_cons];omega
  .rw[if_neg hk,List.length_cons,List.length_cons];omega
theorem RelO.some_of {v:V}{o:Option Value}(r:RelO dm o):∃u,o=some u/\RelV v u:=by
 cases o with
 |none=>exact(show False from r).elim
 |some u=>exact⟨u,rfl,r⟩
theorem RelO.none_of {o:Option Value}(r:RelO none o):o=none:=by
 cases o with
 |none=>rfl
 |some u=>exact(show False from r).elim
theorem QlB {v:V}{u:Value}(r:RelV v u):PySem.W.handedIn u=true:=by
 cases v with
 |non=>cases(show u=Value.none from r);rfl
 |bl b=>cases(show u=Value.bool b from r);rfl
 |int i=>obtain⟨t,e⟩:=(show∃t,u=Value.int i t from r);cases e;rfl
 |str x=>obtain⟨t,e⟩:=(show∃t,u=Value.str x t from r);cases e;rfl
 |byt b=>obtain⟨t,e⟩:=(show∃t,u=Value.bytes b t from r);cases e;rfl
 |flt b=>obtain⟨t,e⟩:=(show∃t,u=Value.float b t from r);cases e;rfl
 |ref a=>cases(show u=Value.ref a from r);rfl
 |ty n=>cases(show u=Value.type n from r);rfl
section
variable {P:Program}{w:World}{H H':Hp}{h h':Heap}{a C dx:Addr}{fs fs':List (Str×V)}
theorem Qhr (hok:HOk P w H h)(e:H a=some eG):∃mA,ObjM h a dx C mA/\(∀f,RelO qe (mA f))/\PySem.Within mA (fs.map (·.1))/\fs.length<=1000/\H dx=some jD:=by
 obtain⟨d,z,ne,ob,mA,n,r,q⟩:=(show ObjOk P w H h a eG from hok a _ e)
 exact⟨mA,⟨ob,n,ne⟩,r,q,z,d⟩
end
structure Cls (K:PySem.W.Frag)(C:Addr):Prop where
 pg:PySem.W.plainGet K C Str.empty=true
 hd:PySem.W.hasDictIn K C=true
 po:PySem.W.plainOver K C=true
 sa:PySem.W.findIn K bV "__setattr__"=some mF
theorem Cls.get {K:PySem.W.Frag}{C:Addr}(c:Cls K C)(f:Str):PySem.W.plainGet K C f=true:=c.pg
def NoAttr (K:PySem.W.Frag)(C:Addr)(f:Str):Prop:=PySem.W.findIn K bV f=some none
theorem NoAttr.taker {K:PySem.W.Frag}{C:Addr}{f:Str}(n:NoAttr K C f):PySem.W.takerIn K C f=some none:=by
 unfold PySem.W.takerIn
 rw[show PySem.W.findIn K bV f=some none from n]
 rfl
structure Meth (K:PySem.W.Frag)(C:Addr)(m:Str)(f:Addr):Prop where
 at_:PySem.W.findIn K bV m=some nH
 fn:PySem.W.isFn K ca=true
 kp:PySem.W.keepIn K ca=true
section
variable {X:Cx}{pins:List (Addr×Obj)}{σ:St}{H:Hp}{s:Shared}{a C dx:Addr}{fs:List (Str×V)}{f:Str}{v:V}{A:Around}{E:Value->Shared->Prop}
theorem QkS {b:Bool}{Q:Value->Shared->Prop}(I:Inv X pins σ H s)(e:H a=some eG)(c:Cls X.K C)(n:NoAttr X.K C f)(l:fs.lookup f=some v)
  (h:∀u s',Inv X pins σ H s'->RelV v u->Q u s'):wpAny am A (getAttr bv f b) Q E s:=by
 obtain⟨mA,O,r,_,_,_⟩:=Qhr I.hok e
 obtain⟨u,hu,ru⟩:=RelO.some_of (v:=v) (o:=mA f) (by rw[←l];exact r f)
 exact QoR I.kIn O (c.get f) c.hd n hu (QlB ru) (h u _ kB ru)
theorem QkT {m:Str}{g:Addr}{pl:Sem Bool}{Q:Value×List Value->Shared->Prop}(I:Inv X pins σ H s)(e:H a=some eG)(c:Cls X.K C)(k:Meth X.K C m g)(l:fs.lookup m=none)
  (h:Q (.ref g,[.ref a]) s):wpAny am A (getMethod bv m pl) Q E s:=by
 obtain⟨mA,O,r,_,_,_⟩:=Qhr I.hok e
 have hn:mA m=none:=RelO.none_of (by rw[←l];exact r m)
 exact Qm0 I.kIn O (c.get m) k.at_ k.fn hn h
theorem QkU {y:V}{u:Value}{Q:Unit->Shared->Prop}(I:Inv X pins σ H s)(e:H a=some eG)(c:Cls X.K C)(n:NoAttr X.K C f)(hl:fs.length<1000)(ry:RelV y u)
  (h:∀s',Inv X pins σ (upd H a qP) s'->Q () s'):wpAny am A (setAttr bv f u) Q E s:=by
 obtain⟨mA,O,r,wi,_,ho⟩:=Qhr I.hok e
 have hz:(fs.map (·.1)).length<=sizeLine:=by rw[List.length_map,sizeLine_eq];omega
 refine QoS I.kIn O c.sa c.po n.taker c.hd wi hz fun h' O' sb=>h _ ?_
 have hd:∃o,h'.get? dx=some o:=let ⟨o,_,_,e',_⟩:=O'.ns;⟨o,e'⟩
 refine I.write (x:=a) (e:=dx) (by rw[e];exact True.intro) (.inr ho) (fun b q hb z=>(sb.2 b hb).trans z) hd ?_
 refine⟨by rw[Qv O.ne];exact ho,?_,O.ne,O'.obj,_,O'.ns,fun g=>?_,fun g hg=>?_⟩
 .have:=Qfz f y fs;omega
 .show RelO ((putF f y fs).lookup g) (if g=f then some u else mA g)
  rw[Qfx]
  by_cases q:g=f
  .rw[if_pos q,if_pos q];exact ry
  .rw[if_neg q,if_neg q];exact r g
 .by_cases q:g=f
  .rw[q];exact(Qfy f y fs).1
  .refine(Qfy f y fs).2 g (wi g fun z=>hg ?_)
   show(if g=f then some u else mA g)=none
   rw[if_neg q];exact z
theorem Inv.made (I:Inv X pins σ H s):Inv X pins σ (upd (upd H s.heap.objs.size (.own av)) av (.ins C s.heap.objs.size []))
  {s with heap:=(s.heap.push PySem.W.emptyDict).push dX}:=by
 have e1:(s.heap.push PySem.W.emptyDict).get? s.heap.objs.size=some PySem.W.emptyDict:=Heap.get?_push_size s.heap rfl
 have e2:((s.heap.push PySem.W.emptyDict).push dX).get? av=some dX:=by
  have:=Heap.get?_push_size (s.heap.push PySem.W.emptyDict) (o:=PySem.W.instObj C s.heap.objs.size) rfl
  rwa [Heap.size_push]at this
 have e3:(s.heap.push PySem.W.emptyDict).Ns s.heap.objs.size (fun _=>none):=⟨PySem.W.emptyDict, #[],_,e1,rfl,(fun e he=>absurd he al),fun _=>rfl⟩
 have I1:=I.laid (a:=s.heap.objs.size) (o:= .own av) (h':=s.heap.push PySem.W.emptyDict) (t':=s.toks) (fun b u q=>Heap.get?_push_of_some _ q) aw ⟨_,e1⟩
 refine I1.laid (a:=s.heap.objs.size+1) (o:= .ins C s.heap.objs.size []) (t':=s.toks) (fun b u q=>Heap.get?_push_of_some _ q) (Nat.le_of_eq (Heap.size_push _ _)) ?_
 have ne:s.heap.objs.size≠s.heap.objs.size+1:=Nat.ne_of_lt lV
 refine⟨by rw[Qv ne,QN],Nat.zero_le _,ne,e2,fun _=>none,(Heap.Ns1.of_empty e3).at fun o q=>Heap.get?_push_of_some _ q,fun _=>True.intro,fun y hy=>absurd rfl hy⟩
theorem QoT {prog:Program}{w:World}{env:Env}{e:Expr}{f:Str}{pos:Pos}{s:Shared}{Q:Value->Shared->Prop}(hb:attributeBase e f env (eval e env)=eval e env)
  (h:wpAny aO A (eval e env) (fun o s₁=>wpAny aO A (getAttr o f true) Q E s₁) E s):wpAny aO A (eval l5 env) Q E s:=
 Attribute_any_ h (by rw[arm_eval_Attribute,hb])
end
def tFld (K:PySem.W.Frag)(ta:TE)(f:Str):TE:=fun σ H Q=>ta σ H fun x H1=>∃a C dx fs v,x= .ref a/\H1 a=some eG/\Cls K C/\NoAttr K C f/\fs.lookup f=some v/\Q v H1
def sFld (K:PySem.W.Frag)(ta tv:TE)(f:Str):TS:=fun D σ H=>tv σ H fun y H1=>ta σ H1 fun x H2=>∃a C dx fs,x= .ref a/\H2 a=some eG/\Cls K C/\NoAttr K C f/\fs.length<1000/\
 D.nx σ (upd H2 a qP)
section
variable {X:Cx}{o e value:Expr}{f:Str}{pos pos' tpos:Pos}{ta tv:TE}
theorem Qq8 (he:PE X e ta)(hb:attributeBase e f X.env gT=eval e X.env):PE X l5 (tFld X.K ta f):=by
 intro pins s σ H Q I h
 refine QoT hb (thn cq fun u s1 ⟨x,H1,I1,rx,a,C,dx,fs,v,ex,ea,c,n,l,q⟩=>?_)
 subst ex
 obtain rfl:u=Value.ref a:=rx
 exact QkS I1 ea c n l fun u' s2 I2 ru=>⟨v,H1,I2,ru,q⟩
theorem Qq9 (ha:PE X o ta)(hv:PE X value tv)(hs:swapsWith value (some (.Attribute o f pos')) pos.line X.env=pure false):PS X (.Assign [.Attribute o f pos'] value pos) (sFld X.K ta tv f):=by
 intro pins s σ H D I h
 refine plainObj_wpAny_Assign_Attribute (thn (hv pins s σ H _ I h) fun u s1 ⟨y,H1,I1,ry,q⟩=>thn (ha pins s1 σ H1 _ I1 q) fun ov s2 ⟨x,H2,I2,rx,a,C,dx,fs,ex,ea,c,n,l,q2⟩=>?_) hs
 subst ex
 obtain rfl:ov=Value.ref a:=rx
 exact QkU I2 ea c n l ry fun s3 I3=>⟨σ,_,I3,q2⟩
end
section
variable {X:Cx}{pins:List (Addr×Obj)}{σ:St}{H:Hp}{s:Shared}{A:Around}{E:Value->Shared->Prop}{Q:Value->Shared->Prop}{c:Value}{b:Bool}
inductive TyOf (K:PySem.W.Frag)(H:Hp):V->Value->Prop where
 |non:TyOf K H .non (.type "NoneType")
 |bl (x:Bool):TyOf K H (.bl x) (.type "bool")
 |int (i:Int):TyOf K H fV (.type "int")
 |str (x:Str):TyOf K H dY (.type "str")
 |flt (x:UInt64):TyOf K H (.flt x) (.type "float")
 |lst {a:Addr} {xs:List V} (e:H a=some aH):TyOf K H bv qp
 |frz {a:Addr} {o:Obj} {xs:List V} (e:H a=some fW):TyOf K H bv qp
 |tup {a:Addr} {xs:List V} (e:H a=some cP):TyOf K H bv (.type "tuple")
 |dK {a:Addr} {kvs:List mr} (e:H a=some fo):TyOf K H bv (.type "dict")
 |dT {a:Addr} {kvs:List di} (e:H a=some gN):TyOf K H bv (.type "dict")
 |ins {a C dx:Addr} {fs:List kP} (e:H a=some eG) (cl:Cls K C) (ha:PySem.W.findIn K bV "__class__"=some jf)
   (hn:PySem.W.specialIn K aP "__get__"=some fu) (htk:PySem.W.takesIn K aP=some true)
   (hm:PySem.W.mroIn K C eE=some true):TyOf K H bv bV
theorem Qik {x:V}{u t:Value}(I:Inv X pins σ H s)(rx:RelV x u)(ty:TyOf X.K H x t)(e:PySem.W.kitOne X.K t c=some b)(h:∀tk,Q qR {s with toks:=tk}):
  wpAny am A (call kZ [u,c]) Q E s:=by
 cases ty with
 |non=>cases(show u=Value.none from rx);exact PySem.W.kia_one PySem.W.kitx_none I.kIn True.intro e (fun z=>nomatch z) h
 |bl y=>cases(show u=Value.bool y from rx);exact PySem.W.kia_one PySem.W.kitx_bool I.kIn True.intro e (fun z=>nomatch z) h
 |int i=>obtain⟨t,q⟩:=(show∃t,u=Value.int i t from rx);cases q;exact PySem.W.kia_one PySem.W.kitx_int I.kIn True.intro e (fun z=>nomatch z) h
 |str y=>obtain⟨t,q⟩:=(show∃t,u=Value.str y t from rx);cases q;exact PySem.W.kia_one PySem.W.kitx_str I.kIn True.intro e (fun z=>nomatch z) h
 |flt y=>obtain⟨t,q⟩:=(show∃t,u=Value.float y t from rx);cases q;exact PySem.W.kia_one PySem.W.kitx_float I.kIn True.intro e (fun z=>nomatch z) h
 | @lst a xs ea=>
  cases(show u=Value.ref a from rx)
  obtain⟨_,_,n,_,h1⟩:=(show ObjOk X.prog X.w H s.heap a aH from I.hok a _ ea)
  exact PySem.W.kia_one PySem.W.kitx_list I.kIn ⟨_,h1,rfl⟩ e (fun z=>nomatch z) h
 | @frz a ob xs ea=>
  cases(show u=Value.ref a from rx)
  obtain⟨_,_,_,n,_,h1⟩:=(show ObjOk X.prog X.w H s.heap a (.frz ob aH)from I.hok a _ ea)
  exact PySem.W.kia_one PySem.W.kitx_list I.kIn ⟨_,h1,rfl⟩ e (fun z=>nomatch z) h
 | @tup a xs ea=>
  cases(show u=Value.ref a from rx)
  obtain⟨_,_,_,p⟩:=(show ObjOk X.prog X.w H s.heap a cP from I.hok a _ ea)
  obtain⟨o,h1,h2,_⟩:=p
  exact PySem.W.kia_one PySem.W.kitx_tuple I.kIn ⟨o,h1,h2⟩ e (fun z=>nomatch z) h
 | @dK a kvs ea=>
  cases(show u=Value.ref a from rx)
  obtain⟨_,_,vs,_,p⟩:=(show ObjOk X.prog X.w H s.heap a fo from I.hok a _ ea)
  obtain⟨o,es,ep,h1,h2,_⟩:=p
  exact PySem.W.kia_one PySem.W.kitx_dict I.kIn ⟨o,h1,h2.1⟩ e (fun z=>nomatch z) h
 | @dT a kvs ea=>
  cases(show u=Value.ref a from rx)
  obtain⟨_,_,xs,_,o,es,ep,h1,h2,_⟩:=(show ObjOk X.prog X.w H s.heap a gN from I.hok a _ ea)
  exact PySem.W.kia_one PySem.W.kitx_dict I.kIn ⟨o,h1,h2.1⟩ e (fun z=>nomatch z) h
 | @ins a C dx fs ea cl ha hn htk hm=>
  cases(show u=Value.ref a from rx)
  obtain⟨mA,O,_⟩:=Qhr I.hok ea
  obtain⟨od,J,_⟩:=O.look
  exact PySem.W.kia_one (PySem.W.kitx_own (cl.get _) cl.hd ha hn htk hm) I.kIn J e (fun z=>nomatch z) h
end
end L2
namespace L2
open PySem PySem.Spec PyProof.Rows
structure Room (k:Nat)(A:Around):Prop where
 hd:A.handled=none
 dp:A.depth+3*k+5<recursionLimit
 un:A.units+16*k+200<cLine
 gd:A.guards=some []
theorem Room.mono {j k:Nat}{A:Around}(r:Room k A)(h:j<=k):Room j A:=⟨r.hd,by have:=r.dp;omega,by have:=r.un;omega,r.gd⟩
theorem Room.deeper {k:Nat}{A:Around}(r:Room (k+1) A)(env:Env):Room k (A.deeper env):=
 ⟨r.hd,by have:=r.dp;show A.depth+1+3*k+5<_;omega,by have:=r.un;show A.units+3+16*k+200<_;omega,r.gd⟩
theorem QkV {A:Around}{C:Addr}{us:List Value}{kw:List dH}:(A.under cc).depth=A.depth+1:=by
 first|rfl|simp[Around.under,Code.weight,Code.isCreation,Code.isGuard,Code.isCaller,Code.frames,Code.isFrame,guardIds]
theorem QkW {A:Around}{C:Addr}{us:List Value}{kw:List dH}:(A.under cc).units=A.units+1:=by
 first|rfl|simp[Around.under,Code.cUnits,Code.frames,Code.isFrame]
theorem Qjs {A:Around}{C:Addr}{us:List Value}{kw:List dH}:(A.under cc).guards=A.guards:=by
 first|rfl|simp[Around.under,Code.guards,Code.isGuard,guardIds,pushGuards]
theorem Room.make {k:Nat}{A:Around}(r:Room (k+1) A)(C:Addr)(us:List Value)(kw:List dH):Room k (A.under cc):=
 ⟨r.hd,by have:=r.dp;rw[QkV];omega,by have:=r.un;rw[QkW];omega,by rw[Qjs];exact r.gd⟩
theorem Room.depth {k:Nat}{A:Around}(r:Room k A):A.depth<recursionLimit:=by have:=r.dp;omega
def tNil:TA:=fun _ H Q=>Q [] H
def QkX (ta:TE)(tr:TA):TA:=fun σ H Q=>ta σ H fun x H1=>tr σ H1 fun xs H2=>Q (x::xs) H2
section
variable {X:Cx}{e:Expr}{es:List Expr}{te:TE}{t:TA}{pos:Pos}
theorem pa_nil:PA X [] tNil:=fun _ _ _ _ H Q I h=>Calls.spliced_nil ⟨[],H,I, .nil,h⟩
theorem QbV (ha:PE X e te)(hr:PA X es t)(hs:starEach bd X.env=(false,eval e X.env)::starEach es X.env:=by rfl):PA X bd (QkX te t):=by
 intro pos pins s σ H Q I h
 rw[hs]
 show wpAny _ _ (spliced ((false,eval e X.env)::backTo pos aZ)) _ _ s
 refine Calls.spliced_cons (thn b5 fun u s1 ⟨x,H1,I1,r1,q1⟩=>?_)
 exact thn (hr pos pins s1 σ H1 _ I1 q1) fun us s2 ⟨xs,H2,I2,r2,q2⟩=>⟨x::xs,H2,I2, .cons r1 r2,q2⟩
def tTup (t:TA):TE:=fun σ H Q=>t σ H fun xs H1=>xs.length<=sizeLine/\∀p,H1 p=none->Q gZ (upd H1 p cP)
def tLst (t:TA):TE:=fun σ H Q=>t σ H fun xs H1=>xs.length<=sizeLine/\∀p,H1 p=none->Q gZ (upd H1 p aH)
theorem Qra {x1}(h:PA X es t):PE X u5 (tTup t):=by
 intro pins s σ H Q I hq
 refine wpAny_Tuple_spliced (thn o5 fun us s1 ⟨xs,H1,I1,r,z,q⟩=>⟨by rw[←r.length];exact z,?_⟩)
 have hf:H1 s1.heap.objs.size=none:=I1.hok.fresh aw
 refine⟨.ref s1.heap.objs.size,upd H1 s1.heap.objs.size cP,I1.laid (t':=s1.toks) (fun b u e=>Heap.get?_push_of_some _ e) aw ?_,rfl,q _ hf⟩
 exact⟨z,us,r,⟨_,Heap.get?_push_size _ rfl,rfl,_,rfl⟩⟩
theorem Qrb (h:PA X es t):PE X (.List es pos) (tLst t):=by
 intro pins s σ H Q I hq
 refine wpAny_List_spliced (thn o5 fun us s1 ⟨xs,H1,I1,r,z,q⟩=>⟨by rw[←r.length];exact z,?_⟩)
 have hf:H1 s1.heap.objs.size=none:=I1.hok.fresh aw
 refine⟨.ref s1.heap.objs.size,upd H1 s1.heap.objs.size aH,I1.laid (t':=s1.toks) (fun b u e=>Heap.get?_push_of_some _ e) aw ?_,rfl,q _ hf⟩
 exact⟨z,us,0,r,Heap.get?_push_size _ rfl⟩
end
abbrev Sp:=List V->Hp->VK->XK->Prop
abbrev CXT:=List Env->Hp->Shared->XK->Value->Shared->Prop
structure Env0 (P:Program)(w:World)(K:PySem.W.Frag)(mg:Str->Option Value)(base:Heap)(A:Around)(outer:List Env)(s:Shared)(H:Hp):Prop where
 frames:A.frames=some outer
 mod:Mod K mg base
 bs:∀b o,base.get? b=some o->s.heap.get? b=some o/\H b=none
 bsz:base.objs.size<=s.heap.objs.size
 funs:s.heap.FunFrames base outer
 frf:∀b∈frs outer,H b=none
 hok:HOk P w H s.heap
 bare:AllBare s.gens
def CE (outer:List Env)(P:Program)(w:World)(H:Hp)(s:Shared)(Q:VK)(u:Value)(s':Shared):Prop:=
 ∃v H',s'.os=s.os/\AllBare s'.gens/\Un (frs outer) [] H H' s.heap s'.heap/\HOk P w H' s'.heap/\RelV v u/\Q v H'
def CR (CX:CXT)(outer:List Env)(P:Program)(w:World)(H:Hp)(s:Shared)(Q:VK)(E:XK)(r:Result)(s':Shared):Prop:=
 match r with
 | .ok (.ret u)=>CE outer P w H s Q u s'
 | .ok _=>False
 | .error e=>CX outer H s E e s'
structure FnOk (P:Program)(w:World)(K:PySem.W.Frag)(mg:Str->Option Value)(base:Heap)(CX:CXT)(k:Nat)(f:Addr)(fd:FuncData)(ps:List Str)(sp:Sp):Prop where
 len:∀vs H Q E,sp vs H Q E->vs.length=ps.length
 run:∀(A:Around) (outer:List Env) (s:Shared) (H:Hp) (args:Args) (us:List Value) (vs:List V) (Q:VK) (E:XK),Room k A->Env0 P w K mg base A outer s H->BindsTo s fd args gB->Vals vs us->sp vs H Q E->
  codeAny gC A (.call ca args) (CR CX outer P w H s Q E) s
theorem FnOk.mono {P:Program}{w:World}{K:PySem.W.Frag}{mg:Str->Option Value}{base:Heap}{CX:CXT}{j k:Nat}{f:Addr}{fd:FuncData}{ps:List Str}{sp:Sp}(F:FnOk P w K mg base CX j f fd ps sp)(h:j<=k):
  FnOk P w K mg base CX k f fd ps sp:=⟨F.len,fun A outer s H args us vs Q E hr=>F.run A outer s H args us vs Q E (hr.mono h)⟩
theorem Env0.make {P:Program}{w:World}{K:PySem.W.Frag}{mg:Str->Option Value}{base:Heap}{A:Around}{outer:List Env}{s:Shared}{H:Hp}(e:Env0 P w K mg base A outer s H)(C:Addr)(us:List Value)(kw:List dH):
  Env0 P w K mg base (A.under cc) outer s H:=⟨by first|exact e.frames|(simpa[Around.under,Code.envs,Code.isFrame,pushEnvs]using e.frames),e.mod,e.bs,e.bsz,e.funs,e.frf,e.hok,e.bare⟩
theorem Env0.in1 {P:Program}{w:World}{K:PySem.W.Frag}{mg:Str->Option Value}{base:Heap}{A:Around}{outer:List Env}{s:Shared}{H:Hp}(e:Env0 P w K mg base A outer s H):
  Env0 P w K mg base A.in1 outer s H:=⟨e.frames,e.mod,e.bs,e.bsz,e.funs,e.frf,e.hok,e.bare⟩
section
variable {X:Cx}{pins:List (Addr×Obj)}{σ:St}{H:Hp}{s s':Shared}
theorem Inv.env0 (I:Inv X pins σ H s):Env0 X.prog X.w X.K X.mg X.base X.A X.stack s H:=
 ⟨I.ok.frames,I.ok.mod,I.bs,Nat.le_trans I.ok.bsz I.sz,I.stack,I.stkFree,I.hok,I.bare⟩
theorem Inv.after {Q:VK}{u:Value}(I:Inv X pins σ H s)(h:CE X.stack X.prog X.w H s Q u s'):EP X pins σ Q u s':=by
 obtain⟨v,H',os,bare,un,hok,r,q⟩:=h
 obtain⟨hh,g,d,t,os'⟩:=s'
 obtain rfl:os'=s.os:=os
 exact⟨v,H',I.call (h':=hh) (g':=g) (d':=d) (t':=t) (ch:= []) un hok bare (fun b z=>absurd z al),r,q⟩
end
def Qrc (sp:Sp)(dvs:List V)(E:XK)(t:TA):TE:=fun σ H Q=>t σ H fun vs H1=>sp kK H1 Q E
def QtE (C:Addr)(sp:Sp)(dvs:List V)(E:XK)(t:TA):TE:=fun σ H Q=>t σ H fun vs H1=>∀x dx,H1 x=none->H1 dx=none->dx≠x->
 sp (.ref x::kK) (upd (upd H1 dx lY) x p9) (fun v H2=>v= .non/\Q kG H2) E
def Binds (K:PySem.W.Frag)(fd:FuncData)(ps:List Str)(ds:List Value):Prop:=
 ∀(s:Shared) (us:List Value),K.In s.heap->(us++ds).length=ps.length->BindsTo s fd ⟨us,[]⟩ (ps.zip nF)
theorem Binds.all {K:PySem.W.Frag}{fd:FuncData}{ps:List Str}(h:∀us:List Value,us.length=ps.length->bindArgs fd ⟨us,[]⟩=pure gB):Binds K fd ps []:=fun s us _ hl=>by
 rw[List.append_nil]at hl⊢
 exact .of_eq (h us hl)
def Qil (CX:CXT)(X:Cx)(E:XK):Prop:=∀(pins:List aB) (σ:St) (H:Hp) (s:Shared) (e:Value) (s':Shared),Inv X pins σ H s->CX X.stack H s E e s'->X.xe e s'
section
variable {X:Cx}{CX:CXT}{k:Nat}{f C:Addr}{fd:FuncData}{ps:List Str}{sp:Sp}{dvs:List V}{ds:List Value}{E:XK}{x m:Str}{p pos apos:Pos}{e o:Expr}{es:List Expr}{ta:TE}{t:TA}
theorem Qoj {pins:List aB}{σ:St}{H:Hp}{s:Shared}{Q:VK}{us:List Value}{vs:List V}(F:FnOk X.prog X.w X.K X.mg X.base CX k f fd ps sp)(hr:Room k X.A)(hb:Binds X.K fd ps ds)(hd:Vals dvs ds)(hx:Qil CX X E)
  (I:Inv X pins σ H s) (r:Vals vs us) (h:sp kK H Q E):wpAny am X.A (call ca us) bT X.xe s:=by
 have r2:Vals kK nF:=r.append hd
 have hl:(us++ds).length=ps.length:=by rw[←r2.length];exact F.len _ _ _ _ h
 refine wpAny_call (codeAny_mono (F.run X.A X.stack s H ⟨us,[]⟩ nF kK Q E hr I.env0 (hb s us I.kIn hl) r2 h) fun r s' hq=>?_)
 cases r with
 |error e=>exact hx pins σ H s e s' I hq
 |ok fl=>
  cases fl with
  |ret u=>exact I.after hq
  |next=>exact False.elim hq
  |brk=>exact False.elim hq
  |cont=>exact False.elim hq
theorem QlC (F:FnOk X.prog X.w X.K X.mg X.base CX k f fd ps sp)(hr:Room k X.A)(hg:Gl X x)(hm:X.mg x=some ca)(hk:PySem.W.keepIn X.K ca=true)(hb:Binds X.K fd ps ds)(hd:Vals dvs ds)(hx:Qil CX X E)
  (ha:PA X bd t) (hdb:aJ=false:=by decide) (he:starEach bd X.env=(false,eval e X.env)::starEach es X.env:=by rfl) (hpl:(backTo pos aZ).any (·.1)=false:=by rfl):
  PE X dL (Qrc sp dvs E t):=by
 intro pins s σ H Q I h
 refine wpAny_Call_Name_kw (Qhp I hg hm ?_ hdb)
 refine PySem.W.callWith_K (h₀:=X.base) I.ok.mod.kin hk (thn df fun us s1 ⟨vs,H1,I1,r,q⟩=>⟨I1.kIn,?_⟩) he hpl
 exact Qoj F hr hb hd hx I1 r q
structure Mk (K:PySem.W.Frag)(C f:Addr):Prop where
 makes:PySem.W.makesIn K C=true
 init:PySem.W.findIn K bV "__init__"=some nH
 fn:PySem.W.isFn K ca=true
 kp:PySem.W.keepIn K bV=true
theorem Qm2 {pins:List aB}{σ:St}{H:Hp}{s:Shared}{Q:VK}{us:List Value}{vs:List V}(M:Mk X.K C f)(F:FnOk X.prog X.w X.K X.mg X.base CX k f fd ps sp)(hr:Room (k+1) X.A)(hb:Binds X.K fd ps ds)(hd:Vals dvs ds)
  (hx:Qil CX X E) (I:Inv X pins σ H s) (r:Vals vs us)
  (h:∀x dx,H x=none->H dx=none->dx≠x->sp (.ref x::kK) (upd (upd H dx lY) x p9) (fun v H2=>v= .non/\Q kG H2) E):
  wpAny am X.A (call bV us) bT X.xe s:=by
 have hq:=h av s.heap.objs.size (I.hok.fresh (Nat.le_succ _)) il (Nat.ne_of_lt lV)
 have I2:=Inv.made (C:=C) I
 have r2:Vals (V.ref av::kK) (Value.ref av::nF):= .cons rfl (r.append hd)
 have hl:(Value.ref av::us++ds).length=ps.length:=by
  have e:=r2.length
  rw[F.len _ _ _ _ hq]at e
  exact e.symm
 refine wpAny_call (Qm1 (f:=f) I.kIn M.makes M.init (beq_iff_eq.mp M.fn) (codeAny_mono (F.run _ X.stack _ _ ⟨Value.ref av::us,[]⟩ (Value.ref av::nF) _ _ E (hr.make C us [])
  (I2.env0.make C us []) (hb _ (Value.ref av::us) I2.kIn hl) r2 hq) fun r s' hq'=>?_))
 cases r with
 |error e=>exact hx pins σ _ _ e s' I2 hq'
 |ok fl=>
  cases fl with
  |ret u=>
   obtain⟨v,H',I3,rv,ev,q3⟩:=I2.after hq'
   subst ev
   exact⟨rv,⟨V.ref av,H',I3,rfl,q3⟩⟩
  |next=>exact False.elim hq'
  |brk=>exact False.elim hq'
  |cont=>exact False.elim hq'
theorem QoU (M:Mk X.K C f)(F:FnOk X.prog X.w X.K X.mg X.base CX k f fd ps sp)(hr:Room (k+1) X.A)(hg:Gl X x)(hm:X.mg x=some bV)(hb:Binds X.K fd ps ds)(hd:Vals dvs ds)(hx:Qil CX X E)
  (ha:PA X bd t) (hdb:aJ=false:=by decide) (he:starEach bd X.env=(false,eval e X.env)::starEach es X.env:=by rfl) (hpl:(backTo pos aZ).any (·.1)=false:=by rfl):
  PE X dL (QtE C sp dvs E t):=by
 intro pins s σ H Q I h
 refine wpAny_Call_Name_kw (Qhp I hg hm ?_ hdb)
 refine PySem.W.callWith_K (h₀:=X.base) I.ok.mod.kin M.kp (thn df fun us s1 ⟨vs,H1,I1,r,q⟩=>⟨I1.kIn,?_⟩) he hpl
 exact Qm2 M F hr hb hd hx I1 r q
end
section
variable {X:Cx}{CX:CXT}{k:Nat}{f C:Addr}{fd:FuncData}{ps ks:List Str}{sp:Sp}{E:XK}{x m:Str}{p pos apos kpos:Pos}{e o:Expr}{es:List Expr}{kws:List Keyword}{te ta:TE}{t tk:TA}{nm:Option Str}
variable {g:List Value->List Value->List Value}{gV:List V->List V->List V}
end
structure FnScope (N P:List Str)(sc:Scope):Prop where
 kind:sc.kind= .function
 co:sc.isCoroutine=false
 gen:sc.isGenerator=false
 nd:N.Nodup
 pre:N.take P.length=P
 par:∀x∈P,sc.names.lookup x=some .local\/sc.names.lookup x=some .cell
 nofree:∀y∈sc.names,y.2≠ .free
theorem Qim {kindOf:Str->Option NameKind}{x:Str}:∀{binds:List dH} {m:Str->Option Value},(∀v,(x,v)∉binds)->bindL kindOf binds m x=m x
 | [],_,_=>rfl
 |(n,v)::r,m,h=>by
  unfold bindL
  rw[Qim fun w hw=>h w oV]
  split
  .have:x≠n:=by rintro rfl;exact h v List.mem_cons_self
   simp[this]
  .rfl
theorem Qin {kindOf:Str->Option NameKind}{x:Str}:∀{binds:List dH} {m:Str->Option Value},(∀v,(x,v)∉binds)->bindC kindOf binds m x=m x
 | [],_,_=>rfl
 |(n,v)::r,m,h=>by
  unfold bindC
  rw[Qin fun w hw=>h w oV]
  split
  .rfl
  .have:x≠n:=by rintro rfl;exact h v List.mem_cons_self
   simp[this]
theorem Qio {kindOf:Str->Option NameKind}{x:Str}{v:Value}:∀{P:List Str} {vs:List Value} {i:Nat} {m:Str->Option Value},P.Nodup->P[i]?=some x->vs[i]?=some v->kindOf x=some .local->
  bindL kindOf (P.zip vs) m x=some v
 | [],_,_,_,_,h,_,_=>by simp at h
 |_::_,[],_,_,_,_,h,_=>by simp at h
 |p::P,w::vs,0,m,nd,h1,h2,hk=>by
  simp at h1 h2;subst h1;subst h2
  show bindL kindOf lh m p=_
  unfold bindL
  rw[Qim fun v hv=>(List.nodup_cons.mp nd).1 (List.of_mem_zip hv).1,if_pos hk]
  simp
 |p::P,w::vs,i+1,m,nd,h1,h2,hk=>by
  show bindL kindOf lh m x=_
  unfold bindL
  exact Qio (i:=i) (List.nodup_cons.mp nd).2 (by simpa using h1) (by simpa using h2) hk
theorem Qip {kindOf:Str->Option NameKind}{x:Str}{v:Value}:∀{P:List Str} {vs:List Value} {i:Nat} {m:Str->Option Value},P.Nodup->P[i]?=some x->vs[i]?=some v->kindOf x≠some .local->
  bindC kindOf (P.zip vs) m x=some v
 | [],_,_,_,_,h,_,_=>by simp at h
 |_::_,[],_,_,_,_,h,_=>by simp at h
 |p::P,w::vs,0,m,nd,h1,h2,hk=>by
  simp at h1 h2;subst h1;subst h2
  show bindC kindOf lh m p=_
  unfold bindC
  rw[Qin fun v hv=>(List.nodup_cons.mp nd).1 (List.of_mem_zip hv).1,if_neg hk]
  simp
 |p::P,w::vs,i+1,m,nd,h1,h2,hk=>by
  show bindC kindOf lh m x=_
  unfold bindC
  exact Qip (i:=i) (List.nodup_cons.mp nd).2 (by simpa using h1) (by simpa using h2) hk
def start (N:List Str)(vs:List V):St:=vs.map some++List.replicate (N.length-vs.length) none
def cxOf (CX:CXT)(P:Program)(w:World)(K:PySem.W.Frag)(mg:Str->Option Value)(base:Heap)(N:List Str)(qual:Str)(scope:Scope)(f:Addr)(cd:Value)(A:Around)(outer:List Env)(s:Shared)(H:Hp)(E:XK):Cx where
 prog:=P
 w:=w
 K:=K
 mg:=mg
 base:=base
 A:=A.deeper fH
 N:=N
 s₀:=s
 H₀:=H
 env:=envOfC qual scope s.heap.objs.size f cd
 outer:=outer
 stack:=envOfC qual scope s.heap.objs.size f cd::outer
 ex:= []
 calm:=true
 fn:=fun _=>true
 pn:= []
 xe:=fun e s'=>wpAny gC (A.deeper fH) (leaving fH e) (fun _ s''=>CX outer H s E e s'') (fun e' s''=>CX outer H s E e' s'') s'
theorem Qj4 {sc:Scope}{n:Nat}{x:Str}(h:sc.names.lookup x=some .cell):∃c,(cellsFrom n sc.names []).lookup x=some c:=by
 have q:=PySem.W.cellsFrom_some sc.names n [] (.inl h)
 exact Option.isSome_iff_exists.mp q
theorem QlD {CX:CXT}{P:Program}{w:World}{K:PySem.W.Frag}{mg:Str->Option Value}{base:Heap}{N ps:List Str}{qual:Str}{scope:Scope}{f:Addr}{cd:Value}{A:Around}{outer:List Env}{s s1:Shared}{H:Hp}{E:XK}{us:List Value}{vs:List V}
  (S:FnScope N ps scope) (hd:A.handled=none) (e0:Env0 P w K mg base A outer s H) (hl:vs.length=ps.length) (r:Vals vs us)
  (x:InCallC s s.heap.objs.size (bindL (envOfC qual scope s.heap.objs.size f cd).kindOf gB fun _=>none) (cellsFrom av scope.names []) (bindC (envOfC qual scope s.heap.objs.size f cd).kindOf gB fun _=>none) s1):
  Inv (cxOf CX P w K mg base N qual scope f cd A outer s H E) [] gQ H s1:=by
 have hpl:ps.length<=N.length:=by have:=congrArg List.length S.pre;rw[List.length_take]at this;omega
 obtain⟨h1,tk,rfl,hk⟩:=x.done
 have noA:∀b:Addr,b∉(cxOf CX P w K mg base N qual scope f cd A outer s H E).ex:=fun b z=>absurd (show b∈([]:List Addr)from z) al
 refine⟨⟨e0.mod,S.kind,rfl,rfl,Nat.le_refl _,fun y z c h1 h2=>?_,fun y hy=>?_,fun y c _ h=>?_,fun _=>hd,Around.frames_deeper e0.frames, .inr ⟨rfl,rfl⟩,fun b z=>absurd z (noA b),e0.bs,e0.bsz,fun b _ _=>noA b,fun b z=>absurd z (noA b),e0.funs,e0.frf⟩,
  rfl,e0.bare,Un.kept hk,⟨_,x.toInCall.ns,fun i y v h1 h2 h3=>?_⟩,fun y c h=>⟨_,x.cell y c h⟩,e0.hok.fresh aw,fun y c h=>?_,fun p hp=>absurd (show p∈([]:List aB)from hp) al,e0.hok.kept hk,?_⟩
 .exact name_of_addr x.apart (PySem.mem_of_lookup h1) (PySem.mem_of_lookup h2)
 .have hy:scope.names.lookup y=some .cell\/scope.names.lookup y=some .free:=hy
  rcases hy with hy|hy
  .exact Qj4 hy
  .exact absurd rfl (S.nofree _ (PySem.mem_of_lookup hy))
 .exact Nat.le_of_lt ms
 .have hi:i<vs.length:=by
   unfold start at h2
   by_cases hi:i<vs.length
   .exact hi
   .rw[List.getElem?_append_right (by simpa using hi)]at h2
    rw[List.getElem?_replicate]at h2
    split at h2<;>cases h2
  have ha:vs[i]?=some v:=by
   unfold start at h2
   rw[List.getElem?_append_left (by simpa using hi),List.getElem?_map]at h2
   cases e:vs[i]? with
   |none=>rw[e]at h2;cases h2
   |some a=>rw[e]at h2;cases h2;rfl
  obtain⟨u,hu,rv⟩:=r.get ha
  have hp:ps[i]?=some y:=by
   rw[←S.pre,List.getElem?_take_of_lt aa];exact h1
  have ndP:ps.Nodup:=by rw[←S.pre];exact S.nd.sublist (List.take_sublist _ _)
  refine⟨u,rv,?_⟩
  rcases S.par y (List.mem_of_getElem? hp)with k|k
  .exact .inl ⟨k,Qio ndP hp hu k⟩
  .obtain⟨c,e⟩:=Qj4 (n:=s.heap.objs.size+1) k
   refine .inr ⟨.inl k,c,e,?_⟩
   have q:=x.cell y c e
   rw[Qip ndP hp hu (by show scope.names.lookup y≠_;rw[k];decide)]at q
   exact q
 .exact e0.hok.fresh (Nat.le_of_lt ms)
 .unfold start
  show _=N.length
  rw[List.length_append,List.length_map,List.length_replicate]
  omega
theorem Qrd {CX:CXT}{P:Program}{w:World}{K:PySem.W.Frag}{mg:Str->Option Value}{base:Heap}{k:Nat}{f:Addr}{name qual:Str}{params:Arguments}{body:List Stmt}{scope:Scope}{dV kV doc pm cdv ct oc:Value}{an od:Option Addr}
  {osl:Array fm} {N ps:List Str} {sp:Sp} (lk:K.lookup f=some ⟨oc,od, .func gG,osl⟩) (hcd:PySem.W.codeIn K cdv qual=true) (S:FnScope N ps scope)
  (len:∀vs H Q E,sp vs H Q E->vs.length=ps.length)
  (hbody:∀(A:Around) (outer:List Env) (s:Shared) (H:Hp) (vs:List V) (Q:VK) (E:XK),Room k (A.deeper (envOfC qual scope s.heap.objs.size f cdv))->sp vs H Q E->
   ∃t,PSs dG body t/\t {nx:=fun _ H'=>Q .non H',rt:=Q} gQ H):
  FnOk P w K mg base CX (k+1) f gG ps sp:=by
 refine⟨len,fun A outer s H args us vs Q E hr e0 hb r hsp=>?_⟩
 have hl:=len _ _ _ _ hsp
 have KX:K.In s.heap:=e0.mod.kin.keeps fun b o e=>(e0.bs b o e).1
 have lim:s.heap.NoLimit:=e0.mod.nolimit.keeps fun b o e=>(e0.bs b o e).1
 have hkind:∀y∈ps.zip us,scope.names.lookup y.1=some .local\/(scope.names.lookup y.1=some .cell/\((cellsFrom av scope.names []).lookup y.1).isSome=true):=fun⟨n,v⟩ hy=>by
  rcases S.par n (List.of_mem_zip hy).1 with q|q
  .exact .inl q
  .exact .inr ⟨q,PySem.W.cellsFrom_some _ _ _ (.inl q)⟩
 refine codeAny_call_function hr.depth (KX _ _ lk) rfl S.co S.gen rfl (PySem.W.codeRec_of KX hcd) (hb _ _ _ _ ?_)
 refine wpAny_newFunctionEnv_cells S.kind hkind fun env he s1 x=>?_
 subst he
 refine⟨lim.keeps x.toInCall.keep,codeAny_func ?_⟩
 obtain⟨t,ht,hq⟩:=hbody A outer s H vs Q E (hr.deeper _) hsp
 have I:Inv dG [] gQ H s1:=QlD S hr.hd e0 hl r x
 refine wpAny_mono (ht [] s1 gQ H _ I hq) (fun fl s' hs=>?_) fun e s' hs=>hs
 have fin:∀{σ':St} {H':Hp} {v:V} {u:Value},Inv dG [] σ' H' s'->RelV v u->Q v H'->CE outer P w H s Q u s':=
  fun{σ' H' v u} J rv q=>⟨v,H',J.os,J.bare,J.base,J.hok,rv,q⟩
 cases fl with
 |ret u=>
  obtain⟨v,σ',H',J,rv,q⟩:=hs
  exact fin J rv q
 |next=>
  obtain⟨σ',H',J,q⟩:=hs
  exact fin (v:=V.non) (u:=Value.none) J rfl q
 |brk=>
  obtain⟨_,_,_,q⟩:=hs
  exact False.elim q
 |cont=>
  obtain⟨_,_,_,q⟩:=hs
  exact False.elim q
end L2
namespace L2
open PySem PySem.Spec PyProof.Rows
section
variable {X:Cx}{x:Str}{p pos:Pos}{e:Expr}{es:List Expr}{t:TA}{id T:String}{r:List V->Hp->VK->Prop}
def tCB (r:List V->Hp->VK->Prop)(t:TA):TE:=fun σ H Q=>t σ H fun vs H1=>r vs H1 Q
theorem Qhs (hc:Qfw X eZ r)(hg:Gl X x)(hm:X.mg x=none)(hv:bootBuiltins x=some eZ)(ha:PA X bd t)(hn:x≠"__name__":=by decide)(hdb:aJ=false:=by decide)
  (he:starEach bd X.env=(false,eval e X.env)::starEach es X.env:=by rfl) (hpl:(backTo pos aZ).any (·.1)=false:=by rfl):PE X dL (tCB r t):=by
 intro pins s σ H Q I h
 refine wpAny_Call_Name_kw (QgR I hg hm hv ?_ hn hdb)
 exact PyProof.Rows.callWith_builtin1 (thn df fun us s1 ⟨vs,H1,I1,r1,q1⟩=>hc pins s1 σ H1 vs us Q I1 r1 q1) he hpl
theorem QlE (hc:Qfw X jh r)(hg:Gl X x)(hm:X.mg x=none)(hv:bootBuiltins x=some jh)(ha:PA X bd t)(hn:x≠"__name__":=by decide)(hdb:aJ=false:=by decide)
  (he:starEach bd X.env=(false,eval e X.env)::starEach es X.env:=by rfl) (hpl:(backTo pos aZ).any (·.1)=false:=by rfl):PE X dL (tCB r t):=by
 intro pins s σ H Q I h
 refine wpAny_Call_Name_kw (QgR I hg hm hv ?_ hn hdb)
 exact PyProof.Rows.callWith_type1 (thn df fun us s1 ⟨vs,H1,I1,r1,q1⟩=>hc pins s1 σ H1 vs us Q I1 r1 q1) he hpl
end
end L2
namespace HT
open PySem PyProof.Rows
section
open PySem.SeqAt
open PySem.AutoSeq1 (wpAny_loadPart')
open PySem.MeetsSeq PySem.MeetsSeq2 PySem.MeetsSeq3
end
section
variable {prog:Program}{w:World}{A:Around}{E:Value->Shared->Prop}{s:Shared}
def sIx (n d:Nat):Option Int->Nat
 |none=>d
 |some v=>if v<0 then(v+(n:Int)).toNat else min v.toNat n
theorem sIx_nat (n d k:Nat):sIx n d (some (k:Int))=min k n:=by
 show(if(k:Int)<0 then((k:Int)+(n:Int)).toNat else min (k:Int).toNat n)=min k n
 rw[if_neg aa,Int.toNat_natCast]
theorem Qre (n d:Nat)(hd:d<=n)(o:Option Int):sIx n d o<=n:=by
 cases o with
 |none=>exact hd
 |some v=>
  show(if v<0 then(v+(n:Int)).toNat else min v.toNat n)<=n
  by_cases hv:v<0
  .rw[if_pos hv];omega
  .rw[if_neg hv];exact Nat.min_le_right _ _
theorem QlF (v:Int)(n d:Nat):(if v<0 then max (v+(n:Int)) 0 else min v (n:Int))=((sIx n d dm:Nat):Int):=by
 show(if v<0 then max (v+(n:Int)) 0 else min v (n:Int))=(((if v<0 then(v+(n:Int)).toNat else min v.toNat n):Nat):Int)
 by_cases hv:v<0
 .simp only[if_pos hv];omega
 .simp only[if_neg hv];omega
theorem QkY (lo hi:Option Int)(n:Nat):Builtin.Slice.sliceAdjust lo hi 1 (n:Int)=(((sIx n 0 lo:Nat):Int),((sIx n n hi:Nat):Int)):=by
 have h1:¬((1:Int)<0):=by omega
 unfold Builtin.Slice.sliceAdjust
 simp only[h1,if_false]
 refine Prod.ext ?_ ?_
 .cases lo with
  |none=>rfl
  |some v=>exact QlF v n 0
 .cases hi with
  |none=>rfl
  |some v=>exact QlF v n n
theorem QkZ (i j:Nat):Builtin.Slice.slicePlaces (i:Int) (j:Int) 1=j-i:=by
 unfold Builtin.Slice.slicePlaces
 have h1:(1:Int)>0:=by omega
 simp only[h1,if_true,Int.ediv_one]
 split<;>omega
theorem QgV {v:Value}{o:Option Int}{Q:Option Int->Shared->Prop}(p:IsPart v o)(h:Q o s):wpAny aO A (Builtin.Slice.slicePartIndex v) Q E s:=by
 cases p with
 |none=>exact slicePart_none h
 |int i t=>exact slicePart_int h
theorem Qe4 {sl:Addr}{vl vu:Value}{lo hi:Option Int}{n:Nat}{Q:Int×Int×Nat->Shared->Prop}(hs:s.heap.IsSliceOf sl vl vu .none)(pl:IsPart vl lo)(pu:IsPart vu hi)
  (h:Q (((sIx n 0 lo:Nat):Int),1,sIx n n hi-sIx n 0 lo) s):wpAny aO A (Builtin.Slice.sliceApplied qO (pure (n:Int))) Q E s:=by
 obtain⟨os,hos,hcs,hds⟩:=id hs
 unfold Builtin.Slice.sliceApplied Builtin.Slice.sliceFields
 refine wpAny_bind (wpAny_bind (wpAny_field hos hds (x:=vl) rfl (wpAny_bind (wpAny_field hos hds (x:=vu) rfl (wpAny_bind (wpAny_field hos hds (x:= .none) rfl (wpAny_pure ?_)))))))
 refine wpAny_bind (slicePart_none ?_)
 show wpAny _ _ (if((1:Int)==0)=true then _ else _) _ _ s
 rw[if_neg ah]
 refine wpAny_bind (QgV pl (wpAny_bind (QgV pu (wpAny_bind (wpAny_pure ?_)))))
 show wpAny _ _ (match Builtin.Slice.sliceAdjust lo hi 1 (n:Int)with|(lo,hi)=>pure (lo,(1:Int),Builtin.Slice.slicePlaces lo hi 1)) _ _ s
 rw[QkY lo hi n]
 show wpAny _ _ (pure (((sIx n 0 lo:Nat):Int),(1:Int),Builtin.Slice.slicePlaces ((sIx n 0 lo:Nat):Int) ((sIx n n hi:Nat):Int) 1)) _ _ s
 rw[QkZ]
 exact wpAny_pure h
theorem Qm3 (xs:Array Value)(i k:Nat):((List.range k).filterMap fun(m:Nat)=>xs[((i:Int)+(m:Int)*1).toNat]?).toArray=((xs.toList.drop i).take k).toArray:=by
 have e:(fun(m:Nat)=>xs[((i:Int)+(m:Int)*1).toNat]?)=fun m=>xs[i+m]?:=by
  funext m
  have:((i:Int)+(m:Int)*1).toNat=i+m:=by omega
  rw[this]
 rw[e]
 have:=pick_run xs i k
 rw[List.filterMap_map]at this
 have e2:((fun x=>xs[x]?)∘fun x=>i+x)=fun m=>xs[i+m]?:=rfl
 rw[e2]at this
 rw[this]
theorem getItem_tuple_cut {t sl:Addr}{items:Array Value}{vl vu:Value}{lo hi:Option Int}{Q:Value->Shared->Prop}(ht:IsTup s.heap t items)(hs:s.heap.IsSliceOf sl vl vu .none)(pl:IsPart vl lo)(pu:IsPart vu hi)
  (hw:¬(sIx items.size 0 lo=0/\sIx items.size items.size hi=items.size))
  (h:Q kH {s with heap:=s.heap.push {cls:= .type "tuple",data:= .seq ((items.toList.drop li).take bX).toArray}})
  (hsz:items.size<=sizeLine):wpAny aO A (getItem (.ref t) qO) Q E s:=by
 have htake:sizeOk (.seq ((items.toList.drop li).take bX).toArray):=by
  show((items.toList.drop li).take bX).toArray.size<=sizeLine
  rw[List.size_toArray,List.length_take,List.length_drop,Array.length_toList]
  omega
 have hj:sIx items.size items.size hi<=items.size:=Qre _ _ aw hi
 obtain⟨os,hos,hcs,hds⟩:=id hs
 have hTs:s.TypeIs qO "slice":=⟨os,hos,hcs⟩
 unfold getItem
 try with_reducible refine wpAny_holding ?_
 first|refine wpAny_bind (wpAny_pure ?_)|skip
 refine wpAny_bind (wpAny_sequenceKey ht.typeIs ah ?_)
 refine wpAny_bind (wpAny_callSpecial?_slot (name:=Str.ofString "__getitem__") ht.typeIs PyProof.Rows.slot_tuple_getitem
  (wpAny_call_entry PyProof.Rows.slot_tuple_getitem ht.typeIs entry_tuple_getitem ?_ (args_tuple_getitem _ _)))
 show wpAny _ _ (Builtin.Tuple.tupleItemsOf (.ref t)>>=_) _ _ s
 refine wpAny_bind (tupleItemsOf_ ht ?_)
 refine wpAny_bind (wpAny_typeOf hTs ?_)
 rw[if_pos ah]
 refine wpAny_bind (Qe4 hs pl pu ?_)
 have hno:¬((((sIx items.size 0 lo:Nat):Int)==0&&(1:Int)==1&&bX==items.size)=true):=by
  intro q
  rw[Bool.and_eq_true,Bool.and_eq_true]at q
  have q1:((sIx items.size 0 lo:Nat):Int)=0:=eq_of_beq q.1.1
  have q2:sIx items.size items.size hi-sIx items.size 0 lo=items.size:=eq_of_beq q.2
  exact hw ⟨by omega,by omega⟩
 show wpAny _ _ (if(((sIx items.size 0 lo:Nat):Int)==0&&(1:Int)==1&&bX==items.size)=true then _ else _) _ _ s
 rw[if_neg hno,Qm3]
 first
  |exact wpAny_bind (m:=Builtin.Tuple.tupleExact _) om
  |exact wpAny_bind (m:=Builtin.Tuple.tupleExact _) (wpAny_newObj_type (wpAny_bind (wpAny_pure eg)) htake)
  |exact wpAny_bind (wpAny_bind (m:=Builtin.Tuple.tupleExact _) (wpAny_newObj_type (wpAny_pure eg) htake))
  |exact wpAny_bind (wpAny_bind (m:=Builtin.Tuple.tupleExact _) om)
end
end HT
namespace L2
open PySem PySem.Spec PyProof.Rows
abbrev TO:=St->Hp->(Option Int->Hp->Prop)->Prop
def PO (X:Cx)(e:Option Expr)(t:TO):Prop:=
 ∀(pins:List aB) (s:Shared) (σ:St) (H:Hp) (Q:Option Int->Hp->Prop),Inv X pins σ H s->t σ H Q->
  wpAny am X.A (evalPart e X.env) (fun u s'=>∃o H',Inv X pins σ H' s'/\IsPart u o/\Q o H') X.xe s
def QoV:TO:=fun _ H Q=>Q none H
def QtF (t:TE):TO:=fun σ H Q=>t σ H fun x H1=>∃i,x= .int i/\Q (some i) H1
section
variable {X:Cx}{e:Expr}{te:TE}{lo hi:Option Expr}{tl th:TO}{pos p2:Pos}
theorem QoW:PO X none QoV:=by
 intro pins s σ H Q I h
 rw[evalPart_none]
 exact wpAny_pure ⟨none,H,I, .none,h⟩
theorem QoX (h:PE X e te):PO X sI (QtF te):=by
 intro pins s σ H Q I hw
 rw[evalPart_some]
 refine thn rC fun u s1 ⟨x,H1,I1,r1,q1⟩=>?_
 obtain⟨i,rfl,q⟩:=q1
 obtain⟨t,rfl⟩:=r1
 exact⟨some i,H1,I1, .int i t,q⟩
def SlR (X:Cx)(r:V->Option Int->Option Int->Hp->VK->Prop):Prop:=
 ∀(pins:List aB) (s:Shared) (σ:St) (H:Hp) (x:V) (v vl vu:Value) (lo hi:Option Int) (sl:Addr) (Q:VK),Inv X pins σ H s->RelV x v->s.heap.IsSliceOf sl vl vu .none->IsPart vl lo->IsPart vu hi->r x lo hi H Q->
  ∃T id,typeLookup jh "__getitem__"=pure (some eZ)/\s.TypeIs v T/\wpAny am X.A (getItem v qO) bT X.xe s
theorem SlR.or {r r':V->Option Int->Option Int->Hp->VK->Prop}(h:SlR X r)(h':SlR X r'):SlR X (fun x lo hi H Q=>r x lo hi H Q\/r' x lo hi H Q):=by
 intro pins s σ H x v vl vu lo hi sl Q I rx hs pl pu q
 rcases q with q|q
 .exact h pins s σ H x v vl vu lo hi sl Q I rx hs pl pu q
 .exact h' pins s σ H x v vl vu lo hi sl Q I rx hs pl pu q
def tSl (r:V->Option Int->Option Int->Hp->VK->Prop)(te:TE)(tl th:TO):TE:=fun σ H Q=>te σ H fun x H1=>tl σ H1 fun l H2=>th σ H2 fun u H3=>r x l u H3 Q
theorem Qm4 {r:V->Option Int->Option Int->Hp->VK->Prop}(hr:SlR X r)(he:PE X e te)(hl:PO X lo tl)(hu:PO X hi th):PE X sv (tSl r te tl th):=by
 intro pins s σ H Q I h
 refine Subscript_ (thn cq fun v s1 ⟨x,H1,I1,r1,q1⟩=>?_)
 refine wpAny_Slice (thn (hl pins s1 σ H1 _ I1 q1) fun vl s2 ⟨l,H2,I2,pl,q2⟩=>thn (hu pins s2 σ H2 _ I2 q2) fun vu s3 ⟨u,H3,I3,pu,q3⟩=>?_)
 rw[evalPart_none]
 refine wpAny_pure ?_
 have I4:Inv X pins σ H3 {s3 with heap:=s3.heap.push {cls:= .type "slice",data:= .fields #[vl,vu, .none]}}:=I3.kept (t':=s3.toks) fun b ob q=>Heap.get?_push_of_some _ q
 obtain⟨T,id,hT,ht,hg⟩:=hr pins {s3 with heap:=s3.heap.push {cls:= .type "slice",data:= .fields #[vl,vu, .none]}} σ H3 x v vl vu l u s3.heap.objs.size Q I4 r1 (Heap.IsSliceOf.new ..) pl pu q3
 show wpAny am X.A (subscriptTail e k6 v qr) bT X.xe {s3 with heap:=s3.heap.push {cls:= .type "slice",data:= .fields #[vl,vu, .none]}}
 exact tail_any (ops:= [.ref s3.heap.objs.size,v]) ht hT hg (by with_unfolding_all rfl)
def cutV (xs:List V)(lo hi:Option Int):List V:=(xs.drop gH).take cE
theorem QfA (xs:List V)(lo hi:Option Int):(cutV xs lo hi).length<=xs.length:=by
 unfold cutV
 rw[List.length_take,List.length_drop]
 omega
def rSlT (K:PySem.W.Frag):V->Option Int->Option Int->Hp->VK->Prop:=fun x lo hi H Q=>∃a xs,x= .ref a/\SqT K H a xs/\
 ¬(HT.sIx xs.length 0 lo=0/\HT.sIx xs.length xs.length hi=xs.length)/\∀p,H p=none->Q gZ (upd H p (.tup ld))
theorem Qrf:SlR X (rSlT X.K):=by
 intro pins s σ H x v vl vu lo hi sl Q I rx hs pl pu h
 obtain⟨a,xs,rfl,hx,hw,q⟩:=h
 cases rx
 obtain⟨its,r,ht,hz⟩:=I.tuple hx
 have hlen:its.toArray.size=xs.length:=by rw[List.size_toArray];exact r.length.symm
 refine⟨"tuple",_,PyProof.Rows.slot_tuple_getitem.lookup,ht.typeIs,?_⟩
 refine HT.getItem_tuple_cut ht hs pl pu (by rw[hlen];exact hw) ?_ (by rw[hlen];exact hz)
 rw[hlen]
 refine⟨.ref s.heap.objs.size,_,I.laid (t':=s.toks) (o:= .tup ld) (fun b ob q=>Heap.get?_push_of_some _ q) aw ?_,rfl,q _ il⟩
 exact⟨Nat.le_trans (QfA xs lo hi) hz,_,(r.drop gH).take cE,IsTup.new _ _⟩
end
end L2
namespace L2
open PySem PySem.Spec PyProof.Rows
def ixN (n:Nat)(i:Int):Option Nat:=if 0<=i then(if i<n then some i.toNat else none)else if-(n:Int)<=i then some (i+n).toNat else none
def atI {α:Type}(xs:List α)(i:Int):Option α:=(ixN xs.length i).bind fun j=>xs[j]?
theorem QlG {n:Nat}{i:Int}{j:Nat}(h:ixN n i=some j):seqIndex? i n=some j/\j<n/\-(n:Int)<=i/\i<n:=by
 unfold ixN at h
 by_cases h0:0<=i
 .rw[if_pos h0]at h
  by_cases h1:i<n
  .rw[if_pos h1]at h
   have e:i.toNat=j:=Option.some.inj h
   exact⟨by rw[seqIndex_of h0 h1,e],by omega,by omega,h1⟩
  .rw[if_neg h1]at h;cases h
 .rw[if_neg h0]at h
  by_cases h1: -(n:Int)<=i
  .rw[if_pos h1]at h
   have e:(i+n).toNat=j:=Option.some.inj h
   exact⟨by rw[seqIndex_neg aa h1,e],by omega,h1,by omega⟩
  .rw[if_neg h1]at h;cases h
theorem Qjt {α:Type}{xs:List α}{i:Int}{v:α}(h:atI xs i=some v):∃j,seqIndex? i xs.length=some j/\xs[j]?=some v/\j<xs.length/\-(xs.length:Int)<=i/\i<xs.length:=by
 unfold atI at h
 cases e:ixN xs.length i with
 |none=>rw[e]at h;cases h
 |some j=>
  rw[e]at h
  obtain⟨h1,h2,h3,h4⟩:=QlG e
  exact⟨j,h1,h,h2,h3,h4⟩
theorem QfB {α:Type}{xs:List α}{j:Nat}{v:α}(h:xs[j]?=some v):atI xs (j:Int)=some v:=by
 have hj:j<xs.length:=(List.getElem?_eq_some_iff.mp h).1
 have e:ixN xs.length (j:Int)=some j:=by
  unfold ixN
  rw[if_pos aa,if_pos aa];simp
 unfold atI;rw[e];exact h
def Qht (b:Expr):Prop:=∀o i,subscripted b false o i=operate [o,i] (getItem o i)
def IxR (X:Cx)(r:R2):Prop:=
 ∀(value slice:Expr) (pins:List aB) (s:Shared) (σ:St) (H:Hp) (x y:V) (v u:Value) (Q:VK),Inv X pins σ H s->RelV x v->RelV y u->r x y H Q->
  subscripted slice false v u=operate [v,u] (getItem v u)->wpAny am X.A (subscriptTail value slice v u) bT X.xe s
def MtR (X:Cx)(id:String)(r:V->List V->Hp->VK->Prop):Prop:=
 ∀(pins:List aB) (s:Shared) (σ:St) (H:Hp) (x:V) (xs:List V) (v:Value) (us:List Value) (Q:VK),Inv X pins σ H s->RelV x v->Vals xs us->r x xs H Q->
  wpAny am X.A (call eZ (v::us)) bT X.xe s
section
variable {X:Cx}{a b:Expr}{ta tb:TE}{pos:Pos}
theorem IxR.or {r r':R2}(h:IxR X r)(h':IxR X r'):IxR X (fun x y H Q=>r x y H Q\/r' x y H Q):=by
 intro value slice pins s σ H x y v u Q I rx ry q hs
 rcases q with q|q
 .exact h value slice pins s σ H x y v u Q I rx ry q hs
 .exact h' value slice pins s σ H x y v u Q I rx ry q hs
theorem QoY {r:R2}(hr:IxR X r)(ha:PE X a ta)(hb:PE X b tb)(hs:Qht b):PE X tO mt:=by
 intro pins s σ H Q I h
 exact Subscript_ (binT ha hb I h fun v u s2 x y H2 I2 rx ry q=>hr a b pins s2 σ H2 x y v u Q I2 rx ry q (hs _ _))
def rIxL (K:PySem.W.Frag):R2:=fun x y H Q=>∃p xs i v,x= .ref p/\y= .int i/\SqL K H p xs/\atI xs i=some v/\Q v H
def rIxT (K:PySem.W.Frag):R2:=fun x y H Q=>∃p xs i v,x= .ref p/\y= .int i/\SqT K H p xs/\atI xs i=some v/\Q v H
def rIxS:R2:=fun x y H Q=>∃z i c,x= .str z/\y= .int i/\z.length<=sizeLine/\atI z.cps.toList i=some c/\Q (.str ⟨#[c]⟩) H
theorem ix_list:IxR X (rIxL X.K):=by
 intro value slice pins s σ H x y v u Q I rx ry h hs
 obtain⟨p,xs,i,z,rfl,rfl,hq,he,q⟩:=h
 cases rx
 obtain⟨t,rfl⟩:=ry
 obtain⟨its,r,pl,hz⟩:=I.list hq
 obtain⟨j,h1,h2,h3,h4,h5⟩:=Qjt he
 obtain⟨w,ew,rw'⟩:=r.get h2
 have hl:=r.length
 have hn:=QgU
 have fin:EP X pins σ Q w s:=⟨z,H,I,rw',q⟩
 by_cases h0:0<=i
 .have hj:i.toNat=j:=by
   rw[seqIndex_of h0 h5]at h1
   exact Option.some.inj h1
  exact item_listR pl.isList h0 aa (by rw[hj];simpa using ew) fin hs
 .have hj:(i+(its.toArray.size:Int)).toNat=j:=by
   rw[seqIndex_neg aa h4]at h1
   rw[List.size_toArray,←hl]
   exact Option.some.inj h1
  exact subscriptTail_builtinR (x:=w) pl.isList.typeIs slot_list_getitem.lookup
   (wpAny_getItem_list_neg (Q:=fun r s'=>r=w/\EP X pins σ Q r s') pl.isList aa (by rw[List.size_toArray]<;>omega) aa (by rw[hj];simpa using ew) ⟨rfl,fin⟩) hs
theorem ix_tup:IxR X (rIxT X.K):=by
 intro value slice pins s σ H x y v u Q I rx ry h hs
 obtain⟨p,xs,i,z,rfl,rfl,hq,he,q⟩:=h
 cases rx
 obtain⟨t,rfl⟩:=ry
 obtain⟨its,r,pl,hz⟩:=I.tuple hq
 obtain⟨j,h1,h2,h3,h4,h5⟩:=Qjt he
 obtain⟨w,ew,rw'⟩:=r.get h2
 have hl:=r.length
 have hn:=QgU
 have fin:EP X pins σ Q w s:=⟨z,H,I,rw',q⟩
 exact subscriptTail_builtinR (x:=w) pl.typeIs slot_tuple_getitem.lookup
  (getItem_tuple (j:=j) (Q:=fun r s'=>r=w/\EP X pins σ Q r s') pl aa aa (by rw[List.size_toArray,←hl];exact h1) (by simpa using ew) ⟨rfl,fin⟩) hs
theorem Qrg:IxR X rIxS:=by
 intro value slice pins s σ H x y v u Q I rx ry h hs
 obtain⟨z,i,c,rfl,rfl,hz,he,q⟩:=h
 obtain⟨t,rfl⟩:=rx
 obtain⟨t',rfl⟩:=ry
 obtain⟨j,h1,h2,h3,h4,h5⟩:=Qjt he
 have hl:z.cps.toList.length=z.length:=by simp[Str.length]
 rw[hl]at h1 h4 h5
 have hn:=QgU
 exact tail_any (typeIs_str s z t) slot_str_getitem.lookup (getItem_str (c:=c) (by
  have e1:decide (i< -(2^63:Int))=false:=decide_eq_false aa
  have e2:decide (i≥2^63)=false:=decide_eq_false aa
  rw[e1,e2,Bool.or_false]) (by rw[h1];simpa using h2) ⟨.str ⟨#[c]⟩,H,I.tok _,⟨_,rfl⟩,q⟩) hs
def rIx (K:PySem.W.Frag):R2:=fun x y H Q=>rIxL K x y H Q\/rIxT K x y H Q\/rIxS x y H Q
theorem ix_seq:IxR X (rIx X.K):=ix_list.or (ix_tup.or Qrg)
theorem Qk0 (its:List Value)(n j:Nat)(u:Value):Obj.mapSeq (·.setIfInBounds j u) {cls:= .type "list",data:= .seq its.toArray n}={cls:= .type "list",data:= .seq (its.set j u).toArray n}:=by
 simp[Obj.mapSeq]
theorem Inv.lst {pins:List aB}{σ:St}{H:Hp}{s:Shared}{p:Addr}{xs:List V}(I:Inv X pins σ H s)(h:H p=some aH):
  ∃(its:List Value) (n:Nat),Vals xs its/\s.heap.get? p=some {cls:= .type "list",data:= .seq its.toArray n}/\xs.length<=sizeLine:=by
 obtain⟨z,its,n,r,e⟩:=I.hok p _ h
 exact⟨its,n,r,e,z⟩
theorem Inv.lstUpd {pins:List aB}{σ:St}{H:Hp}{s:Shared}{p:Addr}{xs ys:List V}{its its':List Value}{n n':Nat}{f:Obj->Obj}(I:Inv X pins σ H s)(h:H p=some aH)
  (ho:s.heap.get? p=some {cls:= .type "list",data:= .seq its.toArray n}) (hf:f {cls:= .type "list",data:= .seq its.toArray n}={cls:= .type "list",data:= .seq its'.toArray n'}) (r:Vals ys its') (hz:ys.length<=sizeLine) (t:Nat):
  Inv X pins σ (upd H p gM) {s with heap:=s.heap.update p f,toks:=t}:=by
 have e:(s.heap.update p f).get? p=some {cls:= .type "list",data:= .seq its'.toArray n'}:=by
  rw[Heap.get?_update_self f ho (by rw[hf]<;>rfl),hf]
 refine I.write (x:=p) (e:=p) (by rw[h];trivial) cw (fun b u hb q=>(Heap.get?_update_other _ _ (Ne.symm hb)).trans q) ⟨_,e⟩ ?_
 exact⟨hz,its',n',r,e⟩
def QoZ:V->V->V->Hp->(Hp->Prop)->Prop:=fun o i v H Q=>∃p xs k j,o= .ref p/\i= .int k/\H p=some aH/\ixN xs.length k=some j/\Q pU
theorem Qm5:PSet X QoZ:=by
 intro pins s σ H o i v ov iv u Q I ro ri rv h
 obtain⟨p,xs,k,j,rfl,rfl,hp,hj,q⟩:=h
 cases ro
 obtain⟨t,rfl⟩:=ri
 obtain⟨its,n,r,ho,hz⟩:=I.lst hp
 obtain⟨h1,h2,h3,h4⟩:=QlG hj
 have hl:=r.length
 have hn:=QgU
 have I':Inv X pins σ pU {s with heap:=s.heap.update p (Obj.mapSeq (·.setIfInBounds j u))}:=
  I.lstUpd hp ho (Qk0 its n j u) (r.set rv j) (by rw[List.length_set];exact hz) s.toks
 by_cases h0:0<=k
 .have hk:k.toNat=j:=by
   rw[seqIndex_of h0 h4]at h1
   exact Option.some.inj h1
  exact PySem.W.ki_setAt ho h0 aa (by rw[List.size_toArray,←hl];exact h4) (by rw[hk];exact⟨_,I',q⟩)
 .have hk:(k+(its.toArray.size:Int)).toNat=j:=by
   rw[seqIndex_neg aa h3]at h1
   rw[List.size_toArray,←hl]
   exact Option.some.inj h1
  exact PySem.W.ki_setBack ho aa (by rw[List.size_toArray,←hl];exact h3) aa (by rw[hk];exact⟨_,I',q⟩)
theorem Qiq (lo hi:Option Int)(n:Nat):(sliceBounds lo hi none n).1=((HT.sIx n 0 lo:Nat):Int)/\(sliceBounds lo hi none n).2.1=((HT.sIx n n hi:Nat):Int)/\(sliceBounds lo hi none n).2.2=1:=by
 refine⟨?_,?_,rfl⟩
 .cases lo with
  |none=>simp[sliceBounds,HT.sIx]
  |some i=>
   simp only[sliceBounds,HT.sIx,Option.getD_none,show(1:Int)>0 by decide,if_true]
   by_cases h:i<0
   .simp only[h,if_true]<;>omega
   .simp only[h,if_false]<;>omega
 .cases hi with
  |none=>simp[sliceBounds,HT.sIx]
  |some i=>
   simp only[sliceBounds,HT.sIx,Option.getD_none,show(1:Int)>0 by decide,if_true]
   by_cases h:i<0
   .simp only[h,if_true]<;>omega
   .simp only[h,if_false]<;>omega
theorem Qhu (its:List Value)(lo hi:Option Int):slicePick its.toArray lo hi none=((its.drop (HT.sIx its.length 0 lo)).take (HT.sIx its.length its.length hi-HT.sIx its.length 0 lo)).toArray:=by
 obtain⟨h1,h2,h3⟩:=Qiq lo hi its.toArray.size
 unfold slicePick
 rw[h1,h2,h3]
 simp only[sliceRange_one,pick_run,List.size_toArray]<;>rfl
def rSlL (K:PySem.W.Frag):V->Option Int->Option Int->Hp->VK->Prop:=fun x lo hi H Q=>∃a xs,x= .ref a/\SqL K H a xs/\∀p,H p=none->Q gZ (upd H p (.lst ld))
theorem sl_list:SlR X (rSlL X.K):=by
 intro pins s σ H x v vl vu lo hi sl Q I rx hs pl pu h
 obtain⟨a,xs,rfl,hx,q⟩:=h
 cases rx
 obtain⟨its,r,ht,hz⟩:=I.list hx
 have hlen:=r.length
 refine⟨"list",_,slot_list_getitem.lookup,ht.isList.typeIs,?_⟩
 refine wpAny_getItem_list_slice ht.isList hs pl pu .none al ?_ (by rw[List.size_toArray]<;>omega)
 rw[Qhu,←hlen]
 refine⟨.ref s.heap.objs.size,_,I.laid (t':=s.toks) (o:= .lst ld) (fun b ob q=>Heap.get?_push_of_some _ q) aw ?_,rfl,q _ il⟩
 exact⟨Nat.le_trans (QfA xs lo hi) hz,_,0,(r.drop gH).take cE,Heap.get?_push_size _ rfl⟩
theorem Qir:Qfw X (.builtin "len") (fun xs H Q=>∃p ys,xs= [.ref p]/\(SqL X.K H p ys\/SqT X.K H p ys)/\Q (.int ys.length) H):=by
 intro pins s σ H xs us Q I r h
 obtain⟨p,ys,rfl,hq,q⟩:=h
 obtain⟨u,rfl,rx⟩:=QkR r
 cases rx
 have hn:=QgU
 rcases hq with hq|hq
 .obtain⟨its,r',pl,hz⟩:=I.list hq
  have hlen:=r'.length
  exact Calls.call_len_list pl.isList (by simp only[List.size_toArray]<;>omega) ⟨.int ys.length,H,I.tok _,⟨s.toks+1,by rw[List.size_toArray,hlen]⟩,q⟩
 .obtain⟨its,r',pl,hz⟩:=I.tuple hq
  have hlen:=r'.length
  exact len_tuple pl (by simp only[List.size_toArray]<;>omega) ⟨.int ys.length,H,I.tok _,⟨s.toks+1,by rw[List.size_toArray,hlen]⟩,q⟩
theorem Qis:Qfw X qp (fun xs H Q=>∃p ys,xs= [.ref p]/\(SqL X.K H p ys\/SqT X.K H p ys)/\∀l,H l=none->Q tF qY):=by
 intro pins s σ H xs us Q I r h
 obtain⟨p,ys,rfl,hq,q⟩:=h
 obtain⟨u,rfl,rx⟩:=QkR r
 cases rx
 have fin:∀(its:List Value),Vals ys its->ys.length<=sizeLine->∀(h':Heap) (c':Nat),(∀b o',s.heap.get? b=some o'->h'.get? b=some o')->
   h'.get? s.heap.objs.size=some {cls:= .type "list",dict:=none,data:= .seq its.toArray c',slots:= #[]}->EP X pins σ Q kH {s with heap:=h'}:=fun its r' hz h' c' kp e=>
  ⟨.ref s.heap.objs.size,_,I.laid (t':=s.toks) kp aw (show ObjOk X.prog X.w _ h' _ gM from⟨hz,its,c',r',e⟩),rfl,q _ il⟩
 rcases hq with hq|hq
 .obtain⟨its,r',pl,hz⟩:=I.list hq
  have hlen:=r'.length
  obtain⟨o,ho,hc,n,hd⟩:=pl.isList
  exact call_list_seq p cw ho hc hd (fun h' c' kp e=>fin its r' hz h' c' kp e) (by simp only[List.size_toArray]<;>omega)
 .obtain⟨its,r',pl,hz⟩:=I.tuple hq
  have hlen:=r'.length
  obtain⟨o,ho,hc,n,hd⟩:=pl
  exact call_list_seq p u4 ho hc hd (fun h' c' kp e=>fin its r' hz h' c' kp e) (by simp only[List.size_toArray]<;>omega)
def tyV (K:PySem.W.Frag)(T:String)(x:V)(H:Hp):Prop:=match x with
 | .str _=>T="str"
 | .int _=>T="int"
 | .ref p=>(T="list"/\∃xs,SqL K H p xs)\/(T="tuple"/\∃o,K.lookup p=some o/\o.cls= .type "tuple"/\o.dict=none)\/
   (T="dict"/\((∃kvs,H p=some fo)\/∃kvs,H p=some gN))\/(T="set"/\∃S n,H p=some (.set S n))
 |_=>False
theorem Qok {pins:List aB}{σ:St}{H:Hp}{s:Shared}{T:String}{x:V}{v:Value}(I:Inv X pins σ H s)(r:RelV x v)(ty:tyV X.K T x H):
  s.TypeIs v T/\∀a,v= .ref a->∃ob,s.heap.get? a=some ob/\ob.dict=none:=by
 cases x with
 |str z=>
  obtain⟨t,rfl⟩:=r
  cases(show T="str" from ty)
  exact⟨typeIs_str s z t,fun _ e=>nomatch e⟩
 |int i=>
  obtain⟨t,rfl⟩:=r
  cases(show T="int" from ty)
  exact⟨typeIs_int s i t,fun _ e=>nomatch e⟩
 |ref p=>
  cases r
  rcases ty with⟨rfl,xs,hq⟩|⟨rfl,o,hk,hc,hd⟩|⟨rfl,hk⟩|⟨rfl,S,n,hk⟩
  .obtain⟨its,_,pl,_⟩:=I.list hq
   refine⟨pl.isList.typeIs,fun a e=>?_⟩
   cases e
   obtain⟨o,n,e,c,hd,_⟩:=pl
   exact⟨o,e,hd⟩
  .refine⟨⟨o,I.kIn p o hk,hc⟩,fun a e=>?_⟩
   cases e
   exact⟨o,I.kIn _ o hk,hd⟩
  .have z:∃o,s.heap.get? p=some o/\o.ExactDict:=by
    rcases hk with⟨kvs,hk⟩|⟨kvs,hk⟩
    .obtain⟨_,_,_,_,o,_,_,e,ex,_⟩:=I.hok p _ hk
     exact⟨o,e,ex⟩
    .obtain⟨_,_,_,_,o,_,_,e,ex,_⟩:=I.hok p _ hk
     exact⟨o,e,ex⟩
   obtain⟨o,e,ex⟩:=z
   refine⟨⟨o,e,ex.1⟩,fun a e2=>?_⟩
   cases e2
   exact⟨o,e,ex.2.1⟩
  .obtain⟨o,_,_,_,e,ex,_⟩:=I.hok p _ hk
   refine⟨⟨o,e,ex.1⟩,fun a e2=>?_⟩
   cases e2
   exact⟨o,e,ex.2.1⟩
 |_=>exact False.elim ty
def tBM0 (K:PySem.W.Frag)(T:String)(r:V->List V->Hp->VK->Prop)(to:TE):TE:=fun σ H Q=>to σ H fun x H1=>tyV K T x H1/\r x [] H1 Q
def tBM (K:PySem.W.Frag)(T:String)(r:V->List V->Hp->VK->Prop)(to:TE)(t:TA):TE:=fun σ H Q=>to σ H fun x H1=>tyV K T x H1/\t σ H1 fun xs H2=>r x xs H2 Q
variable {o e:Expr}{es:List Expr}{to:TE}{t:TA}{name:Str}{apos cpos:Pos}{T id:String}{r:V->List V->Hp->VK->Prop}
theorem Qrh (pa:PlainAttrs T)(slot:Slot T name id)(hty:typeOf eZ=pure p7)(hm:MtR X id r)(ho:PE X o to)
  (hbase:attributeBase o name X.env o6=eval o X.env:=by rfl) (hline:dz=true:=by rfl):PE X (.Call qw [] [] cpos) (tBM0 X.K T r to):=by
 intro pins s σ H Q I h
 refine wpAny_Call_method0_late hbase hline (thn kN fun v s1 ⟨x,H1,I1,r1,ty,q1⟩=>?_)
 obtain⟨h1,h2⟩:=Qok I1 r1 ty
 exact⟨T,id,pa,slot,hty,h1,h2,Calls.callWith_builtin rfl (PySem.evalArgs_none (hm pins s1 σ H1 x [] v [] Q I1 r1 .nil q1))⟩
theorem Qo0 (pa:PlainAttrs T)(slot:Slot T name id)(hty:typeOf eZ=pure p7)(hm:MtR X id r)(ho:PE X o to)(ha:PA X bd t)
  (hbase:attributeBase o name X.env o6=eval o X.env:=by rfl)
  (hfew:((backTo cpos (starEach bd X.env)).all (fun x=> !x.1)&&(backToKw cpos dh).all (fun x=>x.1.isSome)
   &&decide ((e::es).length+([]:List Keyword).length+(if([]:List Keyword).isEmpty then 0 else 1)<30))=true:=by rfl)
  (hline:dz=true:=by rfl) (hs:starEach bd X.env=(false,eval e X.env)::starEach es X.env:=by rfl) (hplain:(backTo cpos aZ).any (·.1)=false:=by rfl):
  PE X (.Call qw bd [] cpos) (tBM X.K T r to t):=by
 intro pins s σ H Q I h
 refine wpAny_Call_method_late hbase hfew hline rfl (thn kN fun v s1 ⟨x,H1,I1,r1,ty,q1⟩=>?_)
 obtain⟨h1,h2⟩:=Qok I1 r1 ty
 refine⟨T,id,pa,slot,hty,h1,h2,?_⟩
 have hA:=ha cpos pins s1 σ H1 _ I1 q1
 rw[hs]at hA⊢
 refine Calls.callWith_builtin (by show(false||(backTo cpos aZ).any (·.1))=false;rw[hplain]<;>rfl) (Calls.evalArgs_plain ?_)
 exact thn hA fun us s2 ⟨vs,H2,I2,r2,q2⟩=>hm pins s2 σ H2 x vs v us Q I2 r1 r2 q2
end
end L2
namespace L2
open PySem PySem.Spec PyProof.Rows
def MtM (X:Cx)(id:String)(r:V->List V->Hp->VK->Prop):Prop:=
 ∀(pins:List aB) (s:Shared) (σ:St) (H:Hp) (x:V) (xs:List V) (v:Value) (us:List Value) (Q:VK),Inv X pins σ H s->RelV x v->Vals xs us->r x xs H Q->
  wpAny am X.A (call eZ (v::us)) bT X.xe s
theorem Vals.one:∀{x:V} {us:List Value},Vals [x] us->∃u,us= [u]/\RelV x u
 |_,_,h=>QkR h
theorem Vals.zero:∀{us:List Value},Vals [] us->us= []
 |_, .nil=>rfl
theorem Vals.reverse {xs:List V}{us:List Value}(h:Vals xs us):Vals xs.reverse us.reverse:=by
 induction h with
 |nil=>exact .nil
 |cons r t ih=>rw[List.reverse_cons,List.reverse_cons];exact Vals.append ih (.cons r .nil)
theorem Vals.rep {xs:List V}{us:List Value}(h:Vals xs us):∀k:Nat,Vals (List.replicate k xs).flatten (List.replicate k us).flatten
 |0=> .nil
 |k+1=>by
  rw[List.replicate_succ,List.replicate_succ,List.flatten_cons,List.flatten_cons]
  exact Vals.append h (Vals.rep h k)
theorem Qit (its:List Value):∀(k:Nat) (acc:List Value),
  List.foldl (fun x1 x2=>x1++x2) acc.toArray (List.replicate k its.toArray)=(acc++(List.replicate k its).flatten).toArray
 |0,acc=>by simp
 |k+1,acc=>by
  have e:acc.toArray++its.toArray=(acc++its).toArray:=by simp
  have e2:(acc++its)++(List.replicate k its).flatten=acc++(List.replicate (k+1) its).flatten:=by
   rw[List.replicate_succ,List.flatten_cons,List.append_assoc]
  rw[←e2,←Qit its k (acc++its),←e,List.replicate_succ,List.foldl_cons]
section
variable {X:Cx}{pins:List (Addr×Obj)}{σ:St}{H:Hp}{s:Shared}{l b:Addr}{xs ys zs:List V}
theorem Inv.lset {its its':List Value}{n:Nat}{f:Array Value->Array Value}{t':Nat}(I:Inv X pins σ H s)(hH:H l=some aH)
  (e:s.heap.get? l=some {cls:= .type "list",data:= .seq its.toArray n}) (hf:f its.toArray=its'.toArray) (hv:Vals ys its') (hz:ys.length<=sizeLine):
  Inv X pins σ qY {s with heap:=s.heap.update l (Obj.mapSeq f),toks:=t'}:=by
 have q:=PySem.IsL.update e f
 rw[hf]at q
 refine I.write (x:=l) (e:=l) (by rw[hH];exact trivial) cw (fun b' u hb hu=>(Heap.get?_update_other s.heap (Obj.mapSeq f) (Ne.symm hb)).trans hu) ⟨_,q⟩ ?_
 exact⟨hz,its',_,hv,q⟩
theorem Inv.lnew {its:List Value}{t':Nat}(I:Inv X pins σ H s)(hv:Vals ys its)(hz:ys.length<=sizeLine):
  Inv X pins σ (upd H s.heap.objs.size gM) {s with heap:=s.heap.push {cls:= .type "list",data:= .seq its.toArray},toks:=t'}:=
 I.laid (fun _ _ q=>Heap.get?_push_of_some _ q) aw ⟨hz,its,0,hv,Heap.get?_push_size _ rfl⟩
theorem Inv.fresh (I:Inv X pins σ H s):H s.heap.objs.size=none:=I.hok.fresh aw
theorem Inv.lstM (I:Inv X pins σ H s)(hH:H l=some aH):xs.length<=sizeLine/\∃(its:List Value) (n:Nat),Vals xs its/\xs.length=its.length/\s.heap.get? l=some {cls:= .type "list",data:= .seq its.toArray n}:=by
 obtain⟨z,its,n,r,e⟩:=I.hok l _ hH
 exact⟨z,its,n,r,r.length,e⟩
theorem Qj5 {n:Nat}(h:n<=sizeLine):Builtin.List.listTooLong n=false:=by
 unfold Builtin.List.listTooLong
 exact decide_eq_false aa
end
section
variable {X:Cx}
def Qju:V->List V->Hp->VK->Prop:=fun x vs H Q=>∃l xs y,x= .ref l/\vs= [y]/\H l=some aH/\xs.length<sizeLine/\Q .non (upd H l (.lst (xs++ [y])))
theorem Qiu:MtM X "list.append" Qju:=by
 intro pins s σ H x vs v us Q I rx rv h
 obtain⟨l,xs,y,rfl,rfl,hH,hz,q⟩:=h
 cases rx
 obtain⟨u,rfl,ru⟩:=rv.one
 obtain⟨z,its,n,r,hl,e⟩:=I.lstM hH
 refine call_meets F.slot_list_append ⟨_,e,rfl⟩ F.entry_list_append (F.args_list_append_2 _ _) (PySem.list_append l its.toArray n u (by rw[List.size_toArray];omega)) ⟨e,?_⟩
 refine⟨.non,_,I.lset (its':=its++ [u]) hH e al (r.append (.cons ru .nil)) ?_,rfl,q⟩
 rw[List.length_append,List.length_singleton]
 omega
def QlH:V->List V->Hp->VK->Prop:=fun x vs H Q=>∃l b xs zs,x= .ref l/\vs= [.ref b]/\H l=some aH/\H b=some (.lst zs)/\xs.length+zs.length<=sizeLine/\Q .non (upd H l (.lst (xs++zs)))
theorem QlI:MtM X "list.extend" QlH:=by
 intro pins s σ H x vs v us Q I rx rv h
 obtain⟨l,b,xs,zs,rfl,rfl,hH,hB,hz,q⟩:=h
 cases rx
 obtain⟨u,rfl,ru⟩:=rv.one
 cases ru
 obtain⟨z,its,n,r,hl,e⟩:=I.lstM hH
 obtain⟨z2,its2,n2,r2,hl2,e2⟩:=I.lstM hB
 have hsz:its.toArray.size+its2.toArray.size<=sizeLine:=by rw[List.size_toArray,List.size_toArray];omega
 have hlong:¬(!its.toArray.isEmpty&&Builtin.List.listTooLong (its.toArray.size+its2.toArray.size))=true:=by
  rw[Qj5 hsz,Bool.and_false]
  exact Bool.false_ne_true
 refine call_meets F.slot_list_extend ⟨_,e,rfl⟩ F.entry_list_extend (F.args_list_extend_2 _ _)
  (AutoSeq1.list_extend_list_list_0 l its.toArray n b its2.toArray n2 hlong (by rw[List.size_toArray];omega) aa) ⟨e,e2,?_⟩
 refine⟨.non,_,I.lset (its':=its++its2) hH e al (r.append r2) ?_,rfl,q⟩
 rw[List.length_append]
 omega
def QlJ:V->List V->Hp->VK->Prop:=fun x vs H Q=>∃l xs,x= .ref l/\vs= []/\H l=some aH/\Q .non (upd H l gO)
theorem Qm6:MtM X "list.clear" QlJ:=by
 intro pins s σ H x vs v us Q I rx rv h
 obtain⟨l,xs,rfl,rfl,hH,q⟩:=h
 cases rx
 have hus:=rv.zero
 subst hus
 obtain⟨z,its,n,r,hl,e⟩:=I.lstM hH
 refine call_meets F.slot_list_clear ⟨_,e,rfl⟩ F.entry_list_clear (F.args_list_clear_1 _) (AutoSeq1.list_clear_list_0 l its.toArray n (by rw[List.size_toArray];omega)) ⟨e,?_⟩
 exact⟨.non,_,I.lset (its':= []) (ys:= []) hH e rfl .nil cJ,rfl,q⟩
def rCat:R2:=fun x y H Q=>∃l b xs zs,x= .ref l/\y= .ref b/\H l=some aH/\H b=some (.lst zs)/\xs.length+zs.length<=sizeLine/\∀p,H p=none->Q gZ (upd H p (.lst (xs++zs)))
theorem op_cat:OpR X lf rCat:=by
 intro pins s σ H x y v u Q I rx ry h
 obtain⟨l,b,xs,zs,rfl,rfl,hH,hB,hz,q⟩:=h
 cases rx
 cases ry
 obtain⟨z,its,n,r,hl,e⟩:=I.lstM hH
 obtain⟨z2,its2,n2,r2,hl2,e2⟩:=I.lstM hB
 refine PySem.P.add_list e e2 ?_ (by rw[List.size_toArray,List.size_toArray];omega)
 have ea:its.toArray++its2.toArray=(its++its2).toArray:=by simp
 rw[ea]
 exact⟨.ref _,_,I.lnew (t':=s.toks) (r.append r2) (by rw[List.length_append];omega),rfl,q _ I.fresh⟩
def rRep:R2:=fun x y H Q=>∃l k xs,x= .ref l/\y= .int k/\H l=some aH/\-(2^63)<=k/\k<2^63/\xs.length*k.toNat<=sizeLine/\
 ∀p,H p=none->Q gZ (upd H p (.lst (List.replicate k.toNat xs).flatten))
theorem Qo1 {α:Type}(xs:List α)(k:Nat):(List.replicate k xs).flatten.length=k*xs.length:=by
 induction k with
 |zero=>simp
 |succ k ih=>rw[List.replicate_succ,List.flatten_cons,List.length_append,ih,Nat.succ_mul,Nat.add_comm]
theorem Qri:OpR X ku rRep:=by
 intro pins s σ H x y v u Q I rx ry h
 obtain⟨l,k,xs,rfl,rfl,hH,h1,h2,hz,q⟩:=h
 cases rx
 obtain⟨t,rfl⟩:=ry
 obtain⟨z,its,n,r,hl,e⟩:=I.lstM hH
 have hlen:its.toArray.size*k.toNat<=sizeLine:=by rw[List.size_toArray,←hl];exact hz
 have hcap:¬its.toArray.size*k.toNat>(2^63-1)/8:=by
  have:(sizeLine:Nat)<=(2^63-1)/8:=by decide
  omega
 have hfit:¬(!Builtin.List.listFitsIndex k)=true:=by
  rw[fitsIndex_both h1 h2]
  exact Bool.false_ne_true
 have hlong:¬Builtin.List.listTooLong (its.toArray.size*k.toNat)=true:=by
  rw[Qj5 hlen]
  exact Bool.false_ne_true
 have hnew:List.foldl (fun x1 x2=>x1++x2) #[] (List.replicate (if its.toArray.isEmpty=true then 0 else k.toNat) its.toArray)=(List.replicate k.toNat its).flatten.toArray:=by
  have f0:∀m:Nat,List.foldl (fun x1 x2=>x1++x2) #[] (List.replicate m its.toArray)=(List.replicate m its).flatten.toArray:=fun m=>by
   have:=Qit its m []
   rw[List.nil_append]at this
   exact this
  rw[f0]
  cases its with
  |nil=>simp
  |cons a r'=>rw[if_neg al]
 refine wpAny_binaryOp_repeat_ref (T:="list") (U:="int") ah ⟨_,e,rfl⟩ (fun s'=>typeIs_int s' k t) noFill_list_mul F.fills_int_mul F.slot_int_rmul repeat_list F.slot_int_index.lookup
  (call_meets F.slot_int_rmul (typeIs_int s k t) F.entry_int_rmul (F.args_int_rmul_2 _ _) (int___rmul___int_list k t l its.toArray n)
   ⟨e,rfl,⟨_,e,rfl⟩,call_meets F.slot_list_mul ⟨_,e,rfl⟩ F.entry_list_mul (F.args_list_mul_2 _ _) (AutoListH.list___mul___list_int_3 l its.toArray n k t hfit hcap hlong) ⟨e,?_⟩⟩)
 rw[hnew]
 exact⟨.ref _,_,I.lnew (t':=s.toks) (r.rep k.toNat) (by rw[Qo1,Nat.mul_comm];exact hz),rfl,q _ I.fresh⟩
end
section
variable {prog:Program}{w:World}{A:Around}{E:Value->Shared->Prop}{s:Shared}
end
section
variable {X:Cx}
end
end L2
namespace L2
open PySem PySem.Spec PyProof.Rows
section
variable {κ:Type} [DecidableEq κ]
def valV (kvs:List (κ×V))(k:κ):Option V:=(kvs.find? fun kv=>decide (kv.1=k)).map (·.2)
def putK (kvs:List (κ×V))(k:κ)(v:V):List (κ×V):=
 if(kvs.any fun kv=>decide (kv.1=k))=true then kvs.map (fun kv=>if kv.1=k then(kv.1,v)else kv)else kvs++ [(k,v)]
theorem Qm7 {k:κ}:valV ([]:List (κ×V)) k=none:=rfl
theorem Qfi {p:κ×V}{r:List (κ×V)}{k:κ}(e:p.1=k):valV (p::r) k=some p.2:=by simp[valV,List.find?_cons,e]
theorem Qfj {p:κ×V}{r:List (κ×V)}{k:κ}(e:¬p.1=k):valV (p::r) k=valV r k:=by simp[valV,List.find?_cons,e]
theorem Qj6 (k:κ):∀kvs:List (κ×V),(kvs.any fun kv=>decide (kv.1=k))=(valV kvs k).isSome
 | []=>rfl
 |p::r=>by
  rw[List.any_cons]
  by_cases e:p.1=k
  .simp only[Qfi e,decide_eq_true e,Bool.true_or,Option.isSome_some]
  .rw[Qfj e,decide_eq_false e,Bool.false_or];exact Qj6 k r
theorem QfC (kvs:List (κ×V))(k:κ)(v:V):(putK kvs k v).length<=kvs.length+1:=by
 unfold putK
 split
 .rw[List.length_map];omega
 .rw[List.length_append,List.length_cons,List.length_nil];omega
theorem RelO.isSome_eq {o:Option V}{u:Option Value}(r:RelO o u):o.isSome=u.isSome:=by
 cases o with
 |none=>cases u with
  |none=>rfl
  |some _=>exact(show False from r).elim
 |some _=>cases u with
  |none=>exact(show False from r).elim
  |some _=>rfl
theorem KV.val {kvs:List (κ×V)}{vs:List iL}(r:KV kvs vs)(k:κ):RelO mX (valueAt vs k):=by
 unfold KV at r
 induction r with
 |nil=>exact True.intro
 | @cons p q ps qs h t ih=>
  obtain⟨h1,h2⟩:=h
  by_cases e:p.1=k
  .have e':q.1=k:=h1.symm.trans e
   have b:valueAt (q::qs) k=some q.2:=by simp[valueAt,List.find?_cons,e']
   rw[Qfi e,b];exact h2
  .have e':¬q.1=k:=fun z=>e m8
   have b:valueAt (q::qs) k=valueAt qs k:=by simp[valueAt,List.find?_cons,e']
   rw[Qfj e,b];exact ih
theorem KV.any {kvs:List (κ×V)}{vs:List iL}(r:KV kvs vs)(k:κ):(kvs.any fun kv=>decide (kv.1=k))=vs.any fun kv=>decide (kv.1=k):=by
 unfold KV at r
 induction r with
 |nil=>rfl
 |cons h t ih=>rw[List.any_cons,List.any_cons,ih,h.1]
theorem KV.repl {kvs:List (κ×V)}{vs:List iL}(r:KV kvs vs)(k:κ){y:V}{u:Value}(ry:RelV y u):
  KV (kvs.map fun kv=>if kv.1=k then(kv.1,y)else kv) (vs.map fun kv=>if kv.1=k then(kv.1,u)else kv):=by
 unfold KV at r⊢
 induction r with
 |nil=>exact .nil
 | @cons p q ps qs h t ih=>
  rw[List.map_cons,List.map_cons]
  refine .cons ?_ ih
  obtain⟨h1,h2⟩:=h
  by_cases e:p.1=k
  .rw[if_pos e,if_pos (h1.symm.trans e)];exact⟨h1,ry⟩
  .rw[if_neg e,if_neg (fun z=>e m8)];exact⟨h1,h2⟩
theorem KV.put {kvs:List (κ×V)}{vs:List iL}(r:KV kvs vs)(k:κ){y:V}{u:Value}(ry:RelV y u):KV (putK kvs k y) (stored vs k u):=by
 unfold putK stored
 rw[r.any k]
 by_cases e:(vs.any fun kv=>decide (kv.1=k))=true
 .rw[if_pos e,if_pos e];exact r.repl k ry
 .rw[if_neg e,if_neg e];exact Paired.snoc r ⟨rfl,ry⟩
theorem KV.length {kvs:List (κ×V)}{vs:List iL}(r:KV kvs vs):kvs.length=vs.length:=Paired.length r
end
theorem QlK {P:Program}{w:World}{k:Key}{u:Value}(r:RelV (kV k) u):(QaI P w).is k u=true:=by
 cases k with
 |inl i=>obtain⟨t,e⟩:=(show∃t,u=Value.int i t from r);subst e;exact Qjo P w i t
 |inr x=>obtain⟨t,e⟩:=(show∃t,u=Value.str x t from r);subst e;exact Qjp P w x t
theorem Qiv {P:Program}{w:World}:∀{ks:List Key} {us:List Value},Vals sO us->ItemsAre gF ks us
 | [],_,r=>by rw[List.map_nil]at r;cases r;exact .nil
 |k::ks,_,r=>by
  rw[List.map_cons]at r
  cases r with
  |cons h t=>exact .cons (QlK h) (Qiv t)
abbrev KT (H:Hp):List di->List (List Key×Addr×Value)->Prop:=Paired fun p q=>p.1=q.1/\H q.2.1=some (.tup (p.1.map kV))/\RelV p.2 q.2.2
theorem KT.val {H:Hp}{kvs:List di}{xs:List (List Key×Addr×Value)}(r:KT H kvs xs)(k:List Key):RelO mX ((atKey xs k).map (·.2)):=by
 induction r with
 |nil=>exact True.intro
 | @cons p q ps qs h t ih=>
  obtain⟨h1,_,h2⟩:=h
  by_cases e:p.1=k
  .have e':q.1=k:=h1.symm.trans e
   have b:atKey (q::qs) k=some q.2:=by simp[atKey,List.find?_cons,e']
   rw[Qfi e,b];exact h2
  .have e':¬q.1=k:=fun z=>e m8
   have b:atKey (q::qs) k=atKey qs k:=by simp[atKey,List.find?_cons,e']
   rw[Qfj e,b];exact ih
theorem KT.repl {H:Hp}{kvs:List di}{xs:List (List Key×Addr×Value)}(r:KT H kvs xs)(k:List Key){y:V}{u:Value}(ry:RelV y u):
  KT H (kvs.map fun kv=>if kv.1=k then(kv.1,y)else kv) (xs.map (putAt k u)):=by
 induction r with
 |nil=>exact .nil
 | @cons p q ps qs h t ih=>
  rw[List.map_cons,List.map_cons]
  refine .cons ?_ ih
  obtain⟨h1,h2,h3⟩:=h
  unfold putAt
  by_cases e:p.1=k
  .rw[if_pos e,if_pos (h1.symm.trans e)];exact⟨h1,h2,ry⟩
  .rw[if_neg e,if_neg (fun z=>e m8)];exact⟨h1,h2,h3⟩
theorem KT.put {H:Hp}{kvs:List di}{xs:List (List Key×Addr×Value)}(r:KT H kvs xs)(k:List Key){b:Addr}{y:V}{u:Value}(hb:H b=some dS)(ry:RelV y u):
  KT H (putK kvs k y) (storedH xs k b u):=by
 have e:(kvs.any fun kv=>decide (kv.1=k))=(atKey xs k).isSome:=by
  rw[Qj6,(r.val k).isSome_eq,Option.isSome_map]
 unfold putK storedH
 rw[e]
 by_cases q:(atKey xs k).isSome=true
 .rw[if_pos q,if_pos q];exact r.repl k ry
 .rw[if_neg q,if_neg q];exact Paired.snoc r ⟨rfl,hb,ry⟩
theorem KT.keeps {H H':Hp}{kvs:List di}{xs:List (List Key×Addr×Value)}(r:KT H kvs xs)(ht:∀b ys,H b=some (.tup ys)->H' b=some (.tup ys)):KT H' kvs xs:=
 Paired.mapP r fun _ _ z=>⟨z.1,ht _ _ z.2.1,z.2.2⟩
section
variable {P:Program}{w:World}{H:Hp}{h:Heap}{a:Addr}
theorem Qrj {u:HO}(ok:HOk P w H h)(e:Rd H a u):ObjOk P w H h a u:=e.ok ok
theorem QlL {kvs:List mr}(ok:HOk P w H h)(e:Rd H a fo):kvs.length<=sizeLine/\fN=false/\∃vs,KV kvs vs/\h.DictOf gF a vs:=
 show ObjOk P w H h a fo from Qrj ok e
theorem QtG {kvs:List mr}(ok:HOk P w H h)(e:H a=some fo):kvs.length<=sizeLine/\fN=false/\∃vs,KV kvs vs/\h.DictOf gF a vs:=QlL ok (.inl e)
theorem Qiw {ks:List Key}(ok:HOk P w H h)(e:H a=some (.tup sO)):(tupleKind gF).is h ks a:=by
 obtain⟨_,its,r,o,h1,h2,n,h3⟩:=(show ObjOk P w H h a (.tup sO)from ok a _ e)
 exact⟨o,its.toArray,n,h1,h2,h3,by simpa using Qiv r⟩
theorem QlM {kvs:List di}(ok:HOk P w H h)(e:Rd H a gN):kvs.length<=sizeLine/\fN=false/\
  ∃xs,KT H kvs xs/\h.DictOfH o1 a xs:=by
 obtain⟨z,y,xs,r,o,es,ep,h1,h2,h3,h4,h5⟩:=(show ObjOk P w H h a gN from Qrj ok e)
 refine⟨z,y,xs,r,o,es,ep,h1,h2,h3,h4,fun x hx=>?_,h5⟩
 have all:∀{l:List di} {m:List (List Key×Addr×Value)},KT H l m->∀x∈m,(tupleKind gF).is h x.1 x.2.1:=by
  intro l m q
  induction q with
  |nil=>intro x hx;exact nomatch hx
  | @cons p q ps qs hq t ih=>
   intro x hx
   rcases List.mem_cons.mp hx with e|hx
   .subst e
    exact Qiw ok (by rw[←hq.1];exact hq.2.1)
   .exact ih x hx
 exact all r x hx
theorem QtH {kvs:List di}(ok:HOk P w H h)(e:H a=some gN):kvs.length<=sizeLine/\fN=false/\
  ∃xs,KT H kvs xs/\h.DictOfH o1 a xs:=QlM ok (.inl e)
end
def DGet (H:Hp)(a:Addr)(y:V)(r:Option V):Prop:=
 (∃kvs k,Rd H a fo/\y=kV k/\r=valV kvs k)\/∃kvs k b,Rd H a gN/\y= .ref b/\H b=some dS/\r=valV kvs k
def DPut (H:Hp)(a:Addr)(y v:V)(H':Hp):Prop:=
 (∃kvs k,H a=some fo/\y=kV k/\kvs.length<sizeLine/\H'=upd H a (.dK lH))\/
 ∃kvs k b,H a=some gN/\y= .ref b/\H b=some dS/\kvs.length<sizeLine/\H'=upd H a (.dT lH)
theorem DGet.k {H:Hp}{a:Addr}{kvs:List mr}{k:Key}(e:H a=some fo):DGet H a (kV k) mX:= .inl ⟨kvs,k, .inl e,rfl,rfl⟩
theorem DGet.t {H:Hp}{a b:Addr}{kvs:List di}{k:List Key}(e:H a=some gN)(eb:H b=some dS):DGet H a pP mX:= .inr ⟨kvs,k,b, .inl e,rfl,eb,rfl⟩
theorem DPut.k {H:Hp}{a:Addr}{kvs:List mr}{k:Key}{v:V}(e:H a=some fo)(hl:kvs.length<sizeLine):DPut H a (kV k) v (upd H a (.dK lH)):= .inl ⟨kvs,k,e,rfl,hl,rfl⟩
theorem DPut.t {H:Hp}{a b:Addr}{kvs:List di}{k:List Key}{v:V}(e:H a=some gN)(eb:H b=some dS)(hl:kvs.length<sizeLine):
  DPut H a pP v (upd H a (.dT lH)):= .inr ⟨kvs,k,b,e,rfl,eb,hl,rfl⟩
section
variable {X:Cx}{pins:List (Addr×Obj)}{σ:St}{H:Hp}{s:Shared}{a:Addr}{y v:V}{u r:Value}{o:Option V}{A:Around}{E:Value->Shared->Prop}
theorem Inv.big (I:Inv X pins σ H s):sysModules<s.heap.objs.size:=by
 have h:mainGlobals<s.heap.objs.size:=(I.mod.glob.keeps I.bk).lt
 exact Nat.lt_trans ah h
theorem QlN {Q:Value->Shared->Prop}(hu:A.units+1<cLine)(I:Inv X pins σ H s)(g:DGet H a y dm)(ry:RelV y u)(h:∀w' s',Inv X pins σ H s'->RelV v w'->Q w' s'):
  wpAny am A (getItem bv u) Q E s:=by
 rcases g with⟨kvs,k,e,ey,l⟩|⟨kvs,k,b,e,ey,eb,l⟩
 .subst ey
  obtain⟨z,hd,vs,rel,dd⟩:=QlL I.hok e
  obtain⟨w',hw,rw'⟩:=RelO.some_of (v:=v) (o:=valueAt vs k) (by rw[l];exact rel.val k)
  exact wpAny_getItem_of sY dd.mapOf hw (h w' _ kB rw')
 .subst ey
  cases(show u=Value.ref b from ry)
  obtain⟨z,hd,xs,rel,dd⟩:=QlM I.hok e
  obtain⟨w',hw,rw'⟩:=RelO.some_of (v:=v) (o:=(atKey xs k).map (·.2)) (by rw[l];exact rel.val k)
  obtain⟨p,hp,hp2⟩:=Option.map_eq_some_iff.mp hw
  refine wpAny_getItem_heap gy lS dd hp ?_
  rw[hp2]
  exact h w' _ kB rw'
theorem d_in {Q:Value->Shared->Prop}(hu:A.units+1<cLine)(I:Inv X pins σ H s)(g:DGet H a y o)(ry:RelV y u)(h:∀s',Inv X pins σ H s'->Q (.bool o.isSome) s'):
  wpAny am A (compareOp .In u bv) Q E s:=by
 rcases g with⟨kvs,k,e,ey,l⟩|⟨kvs,k,b,e,ey,eb,l⟩
 .subst ey
  obtain⟨z,hd,vs,rel,dd⟩:=QlL I.hok e
  refine wpAny_in_of sY hd dd.mapOf ?_
  rw[←(rel.val k).isSome_eq,←l]
  exact h _ kB
 .subst ey
  cases(show u=Value.ref b from ry)
  obtain⟨z,hd,xs,rel,dd⟩:=QlM I.hok e
  refine wpAny_in_heap gy lS hd dd ?_
  have q:=(rel.val k).isSome_eq
  rw[Option.isSome_map]at q
  rw[←q,←l]
  exact h _ kB
theorem Qo2 {Q:Value->Shared->Prop}(hu:A.units+1<cLine)(I:Inv X pins σ H s)(g:DGet H a y o)(ry:RelV y u)(h:∀s',Inv X pins σ H s'->Q (.bool (!o.isSome)) s'):
  wpAny am A (compareOp .NotIn u bv) Q E s:=by
 rcases g with⟨kvs,k,e,ey,l⟩|⟨kvs,k,b,e,ey,eb,l⟩
 .subst ey
  obtain⟨z,hd,vs,rel,dd⟩:=QlL I.hok e
  refine wpAny_notIn_of sY hd dd.mapOf ?_
  rw[←(rel.val k).isSome_eq,←l]
  exact h _ kB
 .subst ey
  cases(show u=Value.ref b from ry)
  obtain⟨z,hd,xs,rel,dd⟩:=QlM I.hok e
  refine wpAny_notIn_heap gy lS hd dd ?_
  have q:=(rel.val k).isSome_eq
  rw[Option.isSome_map]at q
  rw[←q,←l]
  exact h _ kB
theorem QlO {h':Heap}{t':Nat}{ob:HO}(I:Inv X pins σ H s)(mu:Mut (H a))(hs:Heap.SameBut a s.heap h')(he:∃q,h'.get? a=some q)(new:ObjOk X.prog X.w (upd H a ob) h' a ob):
  Inv X pins σ (upd H a ob) {s with heap:=h',toks:=t'}:=
 I.write (x:=a) (e:=a) mu cw (fun b q hb z=>(hs.2 b hb).trans z) he new
theorem Qrk {P:Program}{w:World}{H':Hp}{h':Heap}{kvs:List mr}{vs:List (Key×Value)}(z:kvs.length<=sizeLine)(hd:fN=false)(rel:KV kvs vs)(dd:h'.DictOf gF a vs):
  ObjOk P w H' h' a fo:=⟨z,hd,vs,rel,dd⟩
theorem QlP {H':Hp}{Q:Unit->Shared->Prop}(hu:A.units+1<cLine)(I:Inv X pins σ H s)(g:DPut H a y v H')(ry:RelV y u)(rv:RelV v r)(h:∀s',Inv X pins σ H' s'->Q () s'):
  wpAny am A (setItem bv u r) Q E s:=by
 rcases g with⟨kvs,k,e,ey,l,eH⟩|⟨kvs,k,b,e,ey,eb,l,eH⟩
 .subst ey eH
  obtain⟨z,hd,vs,rel,dd⟩:=QtG I.hok e
  have hz:vs.length<=sizeLine:=by rw[←rel.length];exact z
  have hl:(putK kvs k v).length<=sizeLine:=by have:=QfC kvs k v;omega
  refine wpAny_setItem_pairs (hsz:=hz) sY dd fun h' dd' hs=>h _ ?_
  have he:∃q,h'.get? a=some q:=let ⟨q,_,_,hq,_⟩:=dd';⟨q,hq⟩
  exact QlO I (by rw[e];exact True.intro) hs he (Qrk hl hd (rel.put k rv) dd')
 .subst ey eH
  cases(show u=Value.ref b from ry)
  obtain⟨z,hd,xs,rel,dd⟩:=QtH I.hok e
  have hz:xs.length<=sizeLine:=by rw[←Paired.length rel];exact z
  have hl:(putK kvs k v).length<=sizeLine:=by have:=QfC kvs k v;omega
  refine wpAny_setItem_heap (hsz:=hz) gy lS dd fun h' dd' hs=>h _ ?_
  obtain⟨q,es,ep,hq,h2,h3,h4,_,h5⟩:=dd'
  refine QlO I (by rw[e];exact True.intro) hs ⟨q,hq⟩ ⟨hl,hd,_,(rel.put k eb rv).keeps fun c ys ec=>?_,q,es,ep,hq,h2,h3,h4,h5⟩
  rw[Qv (Qtw ec e (fun z=>nomatch z))]
  exact ec
end
section
variable {X:Cx}{pins:List (Addr×Obj)}{σ:St}{H:Hp}{s:Shared}{a:Addr}{kvs:List (Key×V)}{k:Key}{u:Value}{A:Around}{E:Value->Shared->Prop}
end
theorem Qjv {X:Cx}{pins:List aB}{σ:St}{H:Hp}{s:Shared}{a:Addr}{y:V}{o:Option V}(I:Inv X pins σ H s)(g:DGet H a y o):s.TypeIs bv "dict":=by
 rcases g with⟨kvs,k,e,_,_⟩|⟨kvs,k,b,e,_,_,_⟩
 .obtain⟨_,_,vs,_,dd⟩:=QlL I.hok e
  exact dd.typeIs
 .obtain⟨_,_,xs,_,dd⟩:=QlM I.hok e
  exact dd.typeIs
section
variable {X:Cx}{o i e value:Expr}{pos pos' tpos:Pos}{td ty tv:TE}
end
theorem Qm8 {P:Program}{w:World}{H:Hp}(h:Heap)(hb:sysModules<h.objs.size):ObjOk P w H (h.push {cls:= .type "dict",data:= .dict #[]}) h.objs.size (.dT []):=
 ⟨Nat.zero_le _,beq_eq_false_iff_ne.mpr (Ne.symm (Nat.ne_of_lt hb)),[], .nil,_, #[],0,Heap.get?_push_size _ rfl,⟨rfl,rfl,rfl⟩,rfl,rfl,List.nodup_nil⟩
def Qrl:TE:=fun _ H Q=>∀p,H p=none->Q gZ (upd H p (.dT []))
section
variable {X:Cx}{pos:Pos}
theorem pe_dnewT:PE X (.Dict [] [] pos) Qrl:=fun pins s σ H Q I h=>
 wpAny_Dict_empty ⟨.ref s.heap.objs.size,_,I.laid (a:=s.heap.objs.size) (o:= .dT []) (t':=s.toks) (fun _ _ q=>Heap.get?_push_of_some _ q) aw (Qm8 s.heap I.big),rfl,h _ il⟩
end
section
variable {X:Cx}{pins:List (Addr×Obj)}{σ:St}{H:Hp}{s:Shared}{a:Addr}{y d:V}{u r:Value}{o:Option V}{A:Around}{E:Value->Shared->Prop}
end
section
variable {X:Cx}{o e f:Expr}{apos cpos:Pos}{td ty tx:TE}
end
section
variable {X:Cx}{pins:List (Addr×Obj)}{σ:St}{H:Hp}{s:Shared}{a:Addr}{kvs:List (Key×V)}{A:Around}{E:Value->Shared->Prop}
end
section
variable {X:Cx}{pins:List (Addr×Obj)}{σ:St}{H:Hp}{s:Shared}{a:Addr}{y:V}{u:Value}{A:Around}{E:Value->Shared->Prop}
end
end L2
namespace Att
open PySem PySem.W PySem.Calls PyProof.Rows
theorem QfD {P:Params}{h:Heap}:∀(ns:List Int) (vs:List Value),WellAll P h vs uv->IntsAre vs ns:=by
 intro ns
 induction ns with
 |nil=>
  intro vs w
  rw[List.map_nil]at w
  cases w
  exact .nil
 |cons n ns ih=>
  intro vs w
  rw[List.map_cons]at w
  cases w with
  |cons a b=>
   cases a
   exact .cons _ _ (ih _ b)
theorem QlQ {l:OpenLaw}{n:Nat}(hn:l.most=some n){P:Params}{h:Heap}{args:List WData}{vals:List Value}
  (hpre:l.row.toRowW.claim.pre args=true) (hwl:WellAll P h vals args):
  ∃a vs ns,vals= [Value.ref a]/\args= [WData.list uv]/\h.get? a=some {cls:= .type "list",data:= .seq vs.toArray}/\IntsAre vs ns/\ns.length<=n:=by
 have hsh:WShape.hasAll [] args [.list .int]=true:=(pre_splitW hpre).1
 have hc:l.pre.holds [] {args:=args}=true:=(pre_splitW hpre).2
 obtain⟨d,r,rfl,h1,h2⟩:=hasAllW_cons hsh
 obtain rfl:=hasAllW_nil h2
 obtain⟨xs,rfl,h3⟩:=hasW_list h1
 obtain⟨ns,rfl⟩:=items_int h3
 have hlen:ns.length<=n:=by
  unfold OpenLaw.pre at hc
  have h4:(WTm.not (.lt (.lit (.int (n:Int))) (.len (.arg 0)))).holds [] {args:= [.list (ns.map .int)]}=true:=by
   have h4:=(holds_andW hc).1
   rw[hn]at h4
   exact h4
  have h5:=condW_of h4 (w_not (w_lt w_lit (w_len_list (w_arg rfl))))
  rw[List.length_map]at h5
  refine Nat.le_of_not_lt fun q=>?_
  have q':(n:Int)<((ns.length:Nat):Int):=by omega
  first
   |(rw[decide_eq_true q']at h5;exact absurd h5 ah)
   |(simp at h5;omega)
 cases hwl with
 |cons w1 w2=>
  cases w2
  cases w1 with
  |list ho hall=>exact⟨_,_,ns,rfl,rfl,ho,QfD ns _ hall,hlen⟩
theorem QlR (l:OpenLaw)(args:List WData):l.row.toRowW.claim.post args hE args=true:=
 postW_of (r:=l.row.toRowW) (X:=(true==true))
  (show WShape.has [] hE .bool=true by first|rfl|decide|simp[WShape.has,WShape.arms,WShape.armsAll])
  (show(WTm.eq .res (.lit hE)).value [] {args:=args,res:=some hE,after:=args}=some (.bool (true==true))from w_eq_bool (w_res rfl) w_lit) rfl
theorem attach_call {l:OpenLaw}{n:Nat}{q:Program}{loose:List Str}{XP:jg->Heap->Prop}{YP:World->Heap->Prop}{d:DefRec}
  (hn:l.most=some n) (hdf:d.params.defaults= [])
  (call:∀(w:World) (s₀ s₁:Shared) (mg mb:Str->Option Value) (fa:Addr) (o:Obj) (pm cd doc:Value) (a:Addr) (vs:List Value) (ns:List Int),
   Ground q loose [] XP w s₀ mg mb s₁.heap->YP w s₁.heap->
   s₁.heap.get? fa=some o->o.data= .func (docDef d.name d.params d.body d.scope pm cd doc)->s₁.heap.CodeRec cd d.name->mg d.name=some gL->
   s₁.heap.get? a=some {cls:= .type "list",data:= .seq vs.toArray}->IntsAre vs ns->ns.length<=n->s₁.gens= #[]->
   codeAny (model l.prog w) callerA jT (fun r s'=>r= .ok (.ret hE)/\OldK s₁.heap s'.heap/\s'.os=s₁.os/\AllBare s'.gens) s₁):
  WalkO q loose XP YP l.row.toRowW d [] (fun f vs=>PySem.call f vs):=by
 intro w s₀ s₁ mg mb G Y fa o pm cd doc dV kV ho hd hcd hD hmg hg args vals as hpre hlay hrd hwl hlo
 obtain rfl:dV= .none:=Dflts.none hD hdf
 obtain rfl:kV= .none:=Dflts.noKw hD
 obtain⟨a,vs,ns,rfl,rfl,hobj,hints,hlen⟩:=QlQ hn hpre hwl
 refine enter_call (codeAny_mono (call w s₀ s₁ mg mb fa o pm cd doc a vs ns G Y ho (fd_plain hd) hcd hmg hobj hints hlen hg) fun r s' hq=>?_)
 obtain⟨rfl,h2,h3,h4⟩:=hq
 exact⟨.inl ⟨.bool true, .bool true,[],rfl,fun _=>rfl, .bool true,QlR l _,fun _=>⟨List.Pairwise.nil,fun _ hm=>(nomatch hm)⟩⟩,h2,h3,h4⟩
section
variable {prog:Program}{w:World}{A:Around}{E:Value->Shared->Prop}{s:Shared}{K:Frag}
end
end Att
namespace L2
open PySem PySem.Spec PyProof.Rows
theorem vals_ints:∀{vs:List Value} {ns:List Int},IntsAre vs ns->Vals fg vs
 |_,_, .nil=> .nil
 |_,_, .cons n t h=> .cons ⟨t,rfl⟩ (vals_ints h)
def Only (H:Hp):Prop:=∀b,H b=none\/∃o xs,H b=some fW
theorem Qm9 {P:Program}{w:World}{K:PySem.W.Frag}{mg mb:Str->Option Value}{CX:CXT}{k:Nat}{fa a:Addr}{fd:FuncData}{x:Str}{sp:Sp}{s₁:Shared}{vs:List Value}{ns:List Int}
  (KX:K.In s₁.heap) (hns:s₁.heap.Ns mainGlobals mg) (hb:s₁.heap.Ns builtinsNs mb) (hbb:∀x:Str,x≠"__name__"->mb x=bootBuiltins x) (hlim:s₁.heap.NoLimit) (hg:s₁.gens= #[])
  (ha:s₁.heap.get? a=some {cls:= .type "list",data:= .seq vs.toArray}) (hi:IntsAre vs ns) (hl:ns.length<=sizeLine) (hr:Room k callerA)
  (F:∀base:Heap,K.In base->base.Ns mainGlobals mg->FnOk P w K mg base CX k fa fd [x] sp) (hbind:∀(s:Shared) (u:Value),BindsTo s fd ⟨[u],[]⟩ [(x,u)])
  (hsp:∀H:Hp,Only H->SqL K H a fg->sp [.ref a] H (fun v _=>v= .bl true) fun _ _ _=>False)
  (hCX:∀H e s',CX [] H s₁ (fun _ _ _=>False) e s'->False):
  codeAny gC callerA jT (fun r s'=>r= .ok (.ret hE)/\OldK s₁.heap s'.heap/\s'.os=s₁.os/\AllBare s'.gens) s₁:=by
 have rv:=vals_ints hi
 have lenV:=hi.length
 have core:∀H:Hp,Only H->SqL K H a fg->HOk P w H s₁.heap->(∀b,H b≠none->b=a)->(H a≠none->K.lookup a=none)->
   codeAny gC callerA jT (fun r s'=>r= .ok (.ret hE)/\OldK s₁.heap s'.heap/\s'.os=s₁.os/\AllBare s'.gens) s₁:=by
  intro H hO hS hok hA hK
  have base_of:∀{b:Addr} {o:Obj},s₁.heap.get? b=some o->H b=none->(hidT s₁.heap H).get? b=some o:=fun e n=>QmS e n
  have noA:∀{b:Addr} {o:Obj} {es:Array DictEntry} {ep:Nat},s₁.heap.get? b=some o->o.data= .dict es ep->H b=none:=fun{b o es ep} e d=>by
   cases q:H b with
   |none=>rfl
   |some u=>
    have e':b=a:=hA b (by rw[q];simp)
    subst e'
    rw[ha]at e;cases e
    have d':Data.seq vs.toArray _=Data.dict es ep:=d
    cases d'
  have nsK:∀{b:Addr} {m:Str->Option Value},s₁.heap.Ns b m->(hidT s₁.heap H).Ns b m:=fun{b m} ⟨o,es,ep,e,d,r⟩=>⟨o,es,ep,base_of e (noA e d),d,r⟩
  have hKb:K.In mH:=fun b o e=>base_of (KX b o e) (by
   cases q:H b with
   |none=>rfl
   |some u=>
    have e':b=a:=hA b (by rw[q];simp)
    subst e'
    rw[hK (by rw[q];simp)]at e;cases e)
  have hM:Mod K mg mH:=⟨hKb,nsK hns,⟨mb,nsK hb,hbb⟩,let ⟨mc,h1,h2⟩:=hlim;⟨mc,nsK h1,h2⟩⟩
  have e0:Env0 P w K mg mH callerA [] s₁ H:=⟨rfl,hM,fun b o e=>QoG e,Nat.le_of_eq (Qlq _ _),trivial,fun b hb=>absurd (show b∈([]:List Addr)from hb) al,hok, .of_eq hg⟩
  refine codeAny_mono ((F _ hKb (nsK hns)).run callerA [] s₁ H ⟨[.ref a],[]⟩ [.ref a] [.ref a] _ _ hr e0 (hbind s₁ bv) (.cons rfl .nil) (hsp H hO hS)) fun r s' h=>?_
  cases r with
  |error e=>exact(hCX H e s' h).elim
  |ok fl=>
   cases fl with
   |next=>exact False.elim h
   |brk=>exact False.elim h
   |cont=>exact False.elim h
   |ret u=>
    obtain⟨v,H',os,bare,un,hok',r',q⟩:=h
    have q':v= .bl true:=q
    subst q'
    obtain rfl:u=Value.bool true:=r'
    refine⟨rfl,OldK.of_keep fun b o e=>?_,os,bare⟩
    cases q:H b with
    |none=>exact un.keep b o e q (by intro z;exact absurd (show b∈([]:List Addr)from z) al) al
    |some u=>
     rcases hO b with z|⟨ob,xs,z⟩
     .rw[q]at z;cases z
     .have z2:=un.frzs b ob _ z
      obtain⟨e1,_⟩:=hok b _ z
      obtain⟨e2,_⟩:=hok' b _ z2
      rw[e]at e1;cases e1
      exact e2
 cases hk:K.lookup a with
 |some o=>
  have e:=KX a o hk
  rw[ha]at e
  cases e
  refine core (fun _=>none) (fun _=> .inl rfl) (.inr ⟨_,vs.toArray,_,hk,rfl,rfl,rfl,by rw[List.size_toArray,lenV];exact hl,by simpa using rv⟩) (fun b u z=>by have z':(none:Option HO)=some u:=z;cases z') (fun b z=>absurd rfl z) fun z=>absurd rfl z
 |none=>
  refine core (fun b=>if b=a then some (.frz {cls:= .type "list",data:= .seq vs.toArray} (.lst fg))else none) (fun b=>?_) (.inl (.inr ⟨{cls:= .type "list",data:= .seq vs.toArray},if_pos rfl⟩)) (fun b u z=>?_) (fun b z=>?_) fun _=>hk
  .by_cases hb:b=a
   .exact .inr ⟨_,_,if_pos hb⟩
   .exact .inl (if_neg hb)
  .by_cases hb:b=a
   .have z':=(if_pos hb).symm.trans z
    cases z'
    subst hb
    exact⟨ha,by rw[List.length_map];exact hl,vs,_,rv,ha⟩
   .have z':=(if_neg hb).symm.trans z
    cases z'
  .by_cases hb:b=a
   .exact hb
   .exact absurd (if_neg hb) z
end L2
namespace L2
open PySem PySem.Spec PyProof.Rows
theorem Qo3 {l:PySem.W.OpenLaw}{n k:Nat}{q:Program}{loose:List Str}{XP:jg->Heap->Prop}{YP:World->Heap->Prop}{d:DefRec}{K:Params->PySem.W.Frag}{CX:World->CXT}{sp:World->Sp}{x:Str}
  (hn:l.most=some n) (hn2:n<=sizeLine) (hdf:d.params.defaults= []) (hr:Room k callerA)
  (hY:∀(w:World) (h:Heap),YP w h->(K w.params).In h)
  (F:∀(w:World) (mg:Str->Option Value) (fa:Addr) (h:Heap),(K w.params).In h->h.Ns mainGlobals mg->mg d.name=some gL->
   ∃fd:FuncData,(∀(s:Shared) (u:Value),BindsTo s fd ⟨[u],[]⟩ [(x,u)])/\
    ∀base:Heap,(K w.params).In base->base.Ns mainGlobals mg->FnOk l.prog w ga mg base (CX w) k fa fd [x] (sp w))
  (hsp:∀(w:World) (H:Hp) (a:Addr) (ns:List Int),ns.length<=n->Only H->SqL ga H a fg->sp w [.ref a] H (fun v _=>v= .bl true) fun _ _ _=>False)
  (hCX:∀(w:World) (H:Hp) (s:Shared) (e:Value) (s':Shared),CX w [] H s (fun _ _ _=>False) e s'->False):
  PySem.W.WalkO q loose XP YP l.row.toRowW d [] (fun f vs=>PySem.call f vs):=by
 refine Att.attach_call hn hdf fun w s₀ s₁ mg mb fa o pm cd doc a vs ns G Y ho hd hcd hmg hobj hints hlen hg=>?_
 have KX:=hY w _ Y
 obtain⟨fd,hb,hF⟩:=F w mg fa _ KX G.T.g hmg
 exact Qm9 KX G.T.g G.T.b G.T.builtins G.T.nolimit hg hobj hints (Nat.le_trans hlen hn2) hr hF hb (fun H hO hS=>hsp w H a ns hlen hO hS) fun H e s'=>hCX w H s₁ e s'
theorem Qna {l:PySem.W.OpenLaw}{n k:Nat}{q:Program}{loose:List Str}{XP:jg->Heap->Prop}{YP:World->Heap->Prop}{d:DefRec}{K:Params->PySem.W.Frag}{CX:CXT}{sp:PySem.W.Frag->Sp}{x:Str}
  (hn:l.most=some n) (hn2:n<=sizeLine) (hdf:d.params.defaults= []) (hr:Room k callerA)
  (hY:∀(w:World) (h:Heap),YP w h->(K w.params).In h)
  (F:∀(w:World) (mg:Str->Option Value) (fa:Addr) (h:Heap),(K w.params).In h->h.Ns mainGlobals mg->mg d.name=some gL->
   ∃fd:FuncData,(∀(s:Shared) (u:Value),BindsTo s fd ⟨[u],[]⟩ [(x,u)])/\
    ∀base:Heap,(K w.params).In base->base.Ns mainGlobals mg->FnOk l.prog w ga mg base CX k fa fd [x] (sp ga))
  (hsp:∀(K:PySem.W.Frag) (H:Hp) (a:Addr) (ns:List Int),ns.length<=n->Only H->SqL K H a fg->sp K [.ref a] H (fun v _=>v= .bl true) fun _ _ _=>False)
  (hCX:∀(H:Hp) (s:Shared) (e:Value) (s':Shared),CX [] H s (fun _ _ _=>False) e s'->False):
  PySem.W.WalkO q loose XP YP l.row.toRowW d [] (fun f vs=>PySem.call f vs):=
 Qo3 (K:=K) (CX:=fun _=>CX) (sp:=fun w=>sp ga) hn hn2 hdf hr hY F (fun w H a ns h1 h2 h3=>hsp ga H a ns h1 h2 h3) fun _ H s e s'=>hCX H s e s'
end L2
namespace L2
open PySem PySem.Spec PyProof.Rows
def Qbj (s:Stmt)(j:Nat):Stmt:=match s with
 | .ClassDef _ _ _ body _ _ _ _ _ _ _=>body.getD j (.Pass ⟨0,0,0,0⟩)
 |_=> .Pass ⟨0,0,0,0⟩
def QaJ (s:Stmt):Arguments:=match s with
 | .FunctionDef _ a _ _ _ _ _ _ _ _=>a
 |_=>{posonlyargs:= [],args:= [],vararg:=none,kwonlyargs:= [],kw_defaults:= [],kwarg:=none,defaults:= []}
def Q4 (s:Stmt):List Stmt:=match s with
 | .FunctionDef _ _ b _ _ _ _ _ _ _=>b
 |_=> []
def Qg (s:Stmt):Scope:=match s with
 | .FunctionDef _ _ _ _ _ _ sc _ _ _=>sc
 |_=>{kind:= .function,names:= [],isGenerator:=false,isCoroutine:=false}
abbrev CX0:CXT:=fun _ _ _ _ _ _=>False
abbrev E0:XK:=fun _ _ _=>False
theorem Qnb {X:Cx}:Qil CX0 X E0:=fun _ _ _ _ _ _ _ h=>h.elim
structure Fun (K:PySem.W.Frag)(x qual:Str)(st:Stmt)(f:Addr)(fd:FuncData):Prop where
 ex:∃(oc:Value) (od:Option Addr) (kV doc pm:Value) (an:Option Addr) (cdv ct:Value) (osl:Array fm),
  fd=PySem.W.fnOf x qual gX fP dP .none kV doc pm an cdv ct/\K.lookup f=some ⟨oc,od, .func fd,osl⟩/\PySem.W.codeIn K cdv qual=true
 kp:PySem.W.keepIn K ca=true
section
variable {P:Program}{w:World}{K:PySem.W.Frag}{mg:Str->Option Value}{base:Heap}
theorem Fun.ok {x qual:Str}{st:Stmt}{f:Addr}{fd:FuncData}{N ps:List Str}{k:Nat}{sp:Sp}(F:Fun K x qual st f fd)(S:FnScope N ps dP)(len:∀vs H Q E,sp vs H Q E->vs.length=ps.length)
  (hbody:∀(cdv:Value) (A:Around) (outer:List Env) (s:Shared) (H:Hp) (vs:List V) (Q:VK) (E:XK),Room k (A.deeper (envOfC qual dP s.heap.objs.size f cdv))->sp vs H Q E->
   ∃t,PSs (cxOf CX0 P w K mg base N qual dP f cdv A outer s H E).nox fP t/\t {nx:=fun _ H'=>Q .non H',rt:=Q} gQ H):FnOk P w K mg base CX0 (k+1) f fd ps sp:=by
 obtain⟨oc,od,kV,doc,pm,an,cdv,ct,osl,rfl,lk,hcd⟩:=F.ex
 refine Qrd lk hcd S len fun A outer s H vs Q E hr hsp=>?_
 obtain⟨t,h,q⟩:=hbody cdv A outer s H vs Q E hr hsp
 exact⟨t,h.nox,q⟩
theorem Fun.binds {x qual:Str}{st:Stmt}{f:Addr}{fd:FuncData}{ps:List Str}(F:Fun K x qual st f fd)
  (h:∀(kV doc pm:Value) (an:Option Addr) (cdv ct:Value) (us:List Value),us.length=ps.length->bindArgs cR ⟨us,[]⟩=pure gB):Binds K fd ps []:=by
 obtain⟨oc,od,kV,doc,pm,an,cdv,ct,osl,rfl,lk,hcd⟩:=F.ex
 exact .all (h kV doc pm an cdv ct)
theorem Qrm {x qual:Str}{st:Stmt}{f:Addr}{oc:Value}{od an:Option Addr}{osl:Array fm}{kV doc pm cdv ct:Value}(l:K.lookup f=some ⟨oc,od, .func cR,osl⟩)
  (c:PySem.W.codeIn K cdv qual=true) (k:PySem.W.keepIn K ca=true):Fun K x qual st f cR:=⟨⟨oc,od,kV,doc,pm,an,cdv,ct,osl,rfl,l,c⟩,k⟩
end
section
variable {X:Cx}
theorem pv (i:Nat){x:Str}{pos:Pos}(hN:X.N[i]?=some x:=by rfl)(hv:Vis X.env.scope x:=by first|exact Or.inl rfl|exact Or.inr fE|exact Or.inr fC)(hd:aJ=false:=by decide)
  (hcd:(x==("__classdict__":Str))=false:=by decide):PE X dD gk:=Qds hN hv hd hcd
end
def Same (H H':Hp):Prop:=∀b o,H b=some o->H' b=some o
theorem Same.refl (H:Hp):Same H H:=fun _ _ h=>h
theorem Same.trans {H H1 H2:Hp}(a:Same H H1)(b:Same H1 H2):Same H H2:=fun c o h=>b c o (a c o h)
theorem Same.free {H H':Hp}(e:Same H H'){l:Addr}(h:H' l=Option.none):H l=Option.none:=by
 cases q:H l with
 |none=>rfl
 |some o=>
  rw[e l o q]at h
  cases h
theorem Same.seq {K:PySem.W.Frag}{H H':Hp}{a:Addr}{xs:List V}(e:Same H H')(h:SqL K H a xs):SqL K H' a xs:=by
 rcases h with(h|⟨o,h⟩)|h
 .exact .inl (.inl (e _ _ h))
 .exact .inl u3
 .exact .inr h
section
variable {κ:Type} [DecidableEq κ]
end
end L2
namespace L2
open PySem PySem.Spec PyProof.Rows
section
variable {X:Cx}
theorem PE.mono {e:Expr}{t t':TE}(h:PE X e t)(i:∀σ H Q,t' σ H Q->t σ H Q):PE X e t':=fun pins s σ H Q I q=>h pins s σ H Q I iX
theorem PT.mono {e:Expr}{t t':TT}(h:PT X e t)(i:∀σ H Q,t' σ H Q->t σ H Q):PT X e t':=fun pins s σ H Q I q=>h pins s σ H Q I iX
theorem PW.mono {e:Expr}{t t':TT}(h:PW X e t)(i:∀σ H Q,t' σ H Q->t σ H Q):PW X e t':=fun wh pins s σ H Q I q=>h wh pins s σ H Q I iX
theorem PA.mono {e:List Expr}{t t':TA}(h:PA X e t)(i:∀σ H Q,t' σ H Q->t σ H Q):PA X e t':=fun pos pins s σ H Q I q=>h pos pins s σ H Q I iX
theorem PS.mono {e:Stmt}{t t':TS}(h:PS X e t)(i:∀D σ H,t' D σ H->t D σ H):PS X e t':=fun pins s σ H D I q=>h pins s σ H D I (i D σ H q)
theorem PSs.mono {e:List Stmt}{t t':TS}(h:PSs X e t)(i:∀D σ H,t' D σ H->t D σ H):PSs X e t':=fun pins s σ H D I q=>h pins s σ H D I (i D σ H q)
theorem PG.mono {e:Expr}{t t':TG}(h:PG X e t)(i:∀v σ H Q,t' v σ H Q->t v σ H Q):PG X e t':=fun pins s σ H v u Q I r q=>h pins s σ H v u Q I r (i v σ H Q q)
theorem PGs.mono {e:List Expr}{t t':TGs}(h:PGs X e t)(i:∀v σ H Q,t' v σ H Q->t v σ H Q):PGs X e t':=fun pins s σ H v u Q I r q=>h pins s σ H v u Q I r (i v σ H Q q)
theorem PI.mono {g e:Expr}{t t':TI}(h:PI X g e t)(i:∀σ H Q,t' σ H Q->t σ H Q):PI X g e t':=fun pins s σ H Q I q=>h pins s σ H Q I iX
end
theorem QS:1000000<=sizeLine:=by decide
end L2
namespace L3
open PySem L2
inductive D where
 |non|bl (b:Bool)|int (i:Int)|str (x:Str)
 |tup (xs:List D)|lst (xs:List D)
 |dK (ks:List Key) (xs:List D)|dT (ks:List bR) (xs:List D)
 |obj (c:Str) (ns:List Str) (xs:List D)
 |scr (xs:List D)
 |ty (n:String)
mutual
def Rep (K:PySem.W.Frag)(F:Hp):D->V->Prop
 | .non,v=>v= .non
 | .bl b,v=>v= .bl b
 | .int i,v=>v= .int i
 | .str x,v=>v= .str x
 | .tup xs,v=>∃a vs,v= .ref a/\F a=some gI/\Reps K F xs vs
 | .lst xs,v=>∃a vs,v= .ref a/\F a=some jj/\Reps K F xs vs
 | .dK ks xs,v=>∃a vs,v= .ref a/\F a=some tL/\ks.length=vs.length/\Reps K F xs vs
 | .dT ks xs,v=>∃a vs,v= .ref a/\F a=some tK/\ks.length=vs.length/\Reps K F xs vs
 | .obj c ns xs,v=>∃a C dx vs,v= .ref a/\PySem.W.nsIn K PySem.mainGlobals c=some eM/\F a=some kY/\ns.length=vs.length/\Reps K F xs vs
 | .scr xs,v=>∃a vs,v= .ref a/\SqL K F a vs/\Reps K F xs vs
 | .ty n,v=>v= .ty n
def Reps (K:PySem.W.Frag)(F:Hp):List D->List V->Prop
 | [],vs=>vs= []
 |d::ds,vs=>∃v r,vs=v::r/\Rep K F d v/\Reps K F ds r
end
theorem Same.seqT {K:PySem.W.Frag}{H H':Hp}{a:Addr}{xs:List V}(e:Same H H')(h:SqT K H a xs):SqT K H' a xs:=by
 rcases h with(h|⟨o,h⟩)|h
 .exact .inl (.inl (e _ _ h))
 .exact .inl u3
 .exact .inr h
section
variable {K:PySem.W.Frag}{F F' H H' H0 F0:Hp}
mutual
theorem Rep.mono (e:Same F F'):∀{d:D} {v:V},Rep K F d v->Rep K F' d v
 | .non,_,h=>h
 | .bl _,_,h=>h
 | .int _,_,h=>h
 | .str _,_,h=>h
 | .ty _,_,h=>by rw[Rep]at h⊢;exact h
 | .tup _,_,h=>by
  rw[Rep]at h⊢
  obtain⟨a,vs,h1,h2,h3⟩:=h
  exact⟨a,vs,h1,e _ _ h2,Reps.mono e h3⟩
 | .lst _,_,h=>by
  rw[Rep]at h⊢
  obtain⟨a,vs,h1,h2,h3⟩:=h
  exact⟨a,vs,h1,e _ _ h2,Reps.mono e h3⟩
 | .dK _ _,_,h=>by
  rw[Rep]at h⊢
  obtain⟨a,vs,h1,h2,h3,h4⟩:=h
  exact⟨a,vs,h1,e _ _ h2,h3,Reps.mono e h4⟩
 | .dT _ _,_,h=>by
  rw[Rep]at h⊢
  obtain⟨a,vs,h1,h2,h3,h4⟩:=h
  exact⟨a,vs,h1,e _ _ h2,h3,Reps.mono e h4⟩
 | .obj _ _ _,_,h=>by
  rw[Rep]at h⊢
  obtain⟨a,C,dx,vs,h1,hc,h2,h3,h4⟩:=h
  exact⟨a,C,dx,vs,h1,hc,e _ _ h2,h3,Reps.mono e h4⟩
 | .scr _,_,h=>by
  rw[Rep]at h⊢
  obtain⟨a,vs,h1,h2,h3⟩:=h
  exact⟨a,vs,h1,Same.seq e h2,Reps.mono e h3⟩
theorem Reps.mono (e:Same F F'):∀{ds:List D} {vs:List V},Reps K F ds vs->Reps K F' ds vs
 | [],_,h=>by rw[Reps]at h⊢;exact h
 |_::_,_,h=>by
  rw[Reps]at h⊢
  obtain⟨v,r,h1,h2,h3⟩:=h
  exact⟨v,r,h1,Rep.mono e h2,Reps.mono e h3⟩
end
theorem Reps.nil:Reps K F [] []:=by rw[Reps]
theorem Reps.cons {d:D}{ds:List D}{v:V}{vs:List V}(h:Rep K F d v)(t:Reps K F ds vs):Reps K F sR (v::vs):=by rw[Reps];exact⟨v,vs,rfl,h,t⟩
theorem Reps.uncons {d:D}{ds:List D}{vs:List V}(h:Reps K F sR vs):∃v r,vs=v::r/\Rep K F d v/\Reps K F ds r:=by rw[Reps]at h;exact h
theorem Reps.unnil {vs:List V}(h:Reps K F [] vs):vs= []:=by rw[Reps]at h;exact h
theorem Reps.length:∀{ds:List D} {vs:List V},Reps K F ds vs->ds.length=vs.length
 | [],_,h=>by rw[h.unnil];rfl
 |_::_,_,h=>by obtain⟨v,r,rfl,_,t⟩:=h.uncons;simp[Reps.length t]
theorem Reps.get:∀{ds:List D} {vs:List V} {i:Nat} {d:D},Reps K F ds vs->ds[i]?=some d->∃v,vs[i]?=some v/\Rep K F d v
 | [],_,_,_,_,e=>by simp at e
 |_::_,_,0,_,h,e=>by
  obtain⟨v,r,rfl,h1,_⟩:=h.uncons
  simp at e;subst e;exact⟨v,rfl,h1⟩
 |_::_,_,i+1,_,h,e=>by
  obtain⟨v,r,rfl,_,t⟩:=h.uncons
  obtain⟨u,e1,h1⟩:=Reps.get (i:=i) t (by simpa using e)
  exact⟨u,by simpa using e1,h1⟩
theorem Reps.app:∀{ds es:List D} {vs us:List V},Reps K F ds vs->Reps K F es us->Reps K F (ds++es) (vs++us)
 | [],_,_,_,h,g=>by rw[h.unnil];exact g
 |_::_,_,_,_,h,g=>by obtain⟨v,r,rfl,h1,t⟩:=h.uncons;exact .cons h1 (Reps.app t g)
theorem Reps.set {d:D}{v:V}(r:Rep K F d v):∀{ds:List D} {vs:List V} (i:Nat),Reps K F ds vs->Reps K F (ds.set i d) (vs.set i v)
 | [],_,_,h=>by rw[h.unnil];exact .nil
 |_::_,_,0,h=>by obtain⟨u,t,rfl,_,h2⟩:=h.uncons;exact .cons r h2
 |_::_,_,i+1,h=>by obtain⟨u,t,rfl,h1,h2⟩:=h.uncons;exact .cons h1 (Reps.set r i h2)
theorem Reps.drop:∀{ds:List D} {vs:List V} (n:Nat),Reps K F ds vs->Reps K F (ds.drop n) (vs.drop n)
 |_,_,0,h=>h
 | [],_,_+1,h=>by rw[h.unnil];exact .nil
 |_::_,_,n+1,h=>by obtain⟨u,t,rfl,_,h2⟩:=h.uncons;exact Reps.drop n h2
theorem Reps.take:∀{ds:List D} {vs:List V} (n:Nat),Reps K F ds vs->Reps K F (ds.take n) (vs.take n)
 |_,_,0,_=> .nil
 | [],_,_+1,h=>by rw[h.unnil];exact .nil
 |_::_,_,n+1,h=>by obtain⟨u,t,rfl,h1,h2⟩:=h.uncons;exact .cons h1 (Reps.take n h2)
theorem Reps.rep {ds:List D}{vs:List V}(h:Reps K F ds vs):∀k:Nat,Reps K F (List.replicate k ds).flatten (List.replicate k vs).flatten
 |0=> .nil
 |k+1=>by rw[List.replicate_succ,List.replicate_succ,List.flatten_cons,List.flatten_cons];exact .app h (Reps.rep h k)
def Cell (K:PySem.W.Frag)(F H:Hp)(a:Addr):D->Prop
 | .lst xs=>∃vs,H a=some jj/\Reps K F xs vs
 | .dK ks xs=>∃vs,H a=some tL/\ks.length=vs.length/\Reps K F xs vs
 | .dT ks xs=>∃vs,H a=some tK/\ks.length=vs.length/\Reps K F xs vs
 | .obj c ns xs=>∃C dx vs,PySem.W.nsIn K PySem.mainGlobals c=some eM/\H a=some kY/\ns.length=vs.length/\Reps K F xs vs
 |_=>False
theorem Cell.some {a:Addr}{d:D}(h:Cell K F H a d):∃o,H a=some o:=by
 cases d<;>first|exact h.elim|(obtain⟨vs,h,_⟩:=h;exact⟨_,h⟩)|(obtain⟨C,dx,vs,_,h,_⟩:=h;exact⟨_,h⟩)
theorem Cell.mono {a:Addr}{d:D}(h:Cell K F H a d)(e:Same F F')(k:∀o,H a= .some o->H' a= .some o):Cell K F' H' a d:=by
 cases d with
 |lst xs=>obtain⟨vs,h1,h2⟩:=h;exact⟨vs,k _ h1,h2.mono e⟩
 |dK ks xs=>obtain⟨vs,h1,h2,h3⟩:=h;exact⟨vs,k _ h1,h2,h3.mono e⟩
 |dT ks xs=>obtain⟨vs,h1,h2,h3⟩:=h;exact⟨vs,k _ h1,h2,h3.mono e⟩
 |obj c ns xs=>obtain⟨C,dx,vs,hc,h1,h2,h3⟩:=h;exact⟨C,dx,vs,hc,k _ h1,h2,h3.mono e⟩
 |_=>exact h.elim
theorem Cell.rep {a:Addr}{d:D}(h:Cell K F H a d)(e:Same F F')(k:∀o,H a= .some o->F' a= .some o):Rep K F' d bv:=by
 cases d with
 |lst xs=>obtain⟨vs,h1,h2⟩:=h;rw[Rep];exact⟨a,vs,rfl,k _ h1,h2.mono e⟩
 |dK ks xs=>obtain⟨vs,h1,h2,h3⟩:=h;rw[Rep];exact⟨a,vs,rfl,k _ h1,h2,h3.mono e⟩
 |dT ks xs=>obtain⟨vs,h1,h2,h3⟩:=h;rw[Rep];exact⟨a,vs,rfl,k _ h1,h2,h3.mono e⟩
 |obj c ns xs=>obtain⟨C,dx,vs,hc,h1,h2,h3⟩:=h;rw[Rep];exact⟨a,C,dx,vs,rfl,hc,k _ h1,h2,h3.mono e⟩
 |_=>exact h.elim
def RdV (K:PySem.W.Frag)(F H:Hp)(d:D)(v:V):Prop:=Rep K F d v\/∃a,v= .ref a/\Cell K F H a d
structure Step (F H F' H':Hp):Prop where
 up:Same F F'
 sub:Same F' H'
 keep:Same H H'
 new:∀a o,F' a=some o->F a=some o\/H a=none
theorem Step.refl (h:Same F H):Step F H F H:=⟨.refl _,h, .refl _,fun _ _ e=> .inl e⟩
theorem Step.trans {F1 H1 F2 H2:Hp}(a:Step F H F1 H1)(b:Step F1 H1 F2 H2):Step F H F2 H2:=
 ⟨a.up.trans b.up,b.sub,a.keep.trans b.keep,fun c o e=>by
  rcases b.new c o e with e1|e1
  .exact a.new c o e1
  .exact .inr (a.keep.free e1)⟩
theorem Step.unfz {a:Addr}{o:HO}(s:Step F H F' H')(h:H a=some o)(n:F a=none):F' a=none:=by
 cases q:F' a with
 |none=>rfl
 |some u=>
  rcases s.new a u q with e|e
  .rw[n]at e;cases e
  .rw[h]at e;cases e
inductive Kd where|fz|ow|bo
def Val (K:PySem.W.Frag)(F' H H':Hp):Kd->D->V->Prop
 | .fz,d,v=>Rep K F' d v
 | .ow,d,v=>∃a,v= .ref a/\H a=none/\F' a=none/\Cell K F' H' a d
 | .bo,d,v=>∃a,v= .ref a/\F' a=none/\Cell K F' H' a d
theorem Val.rd {k:Kd}{d:D}{v:V}(h:Val K F' H H' k d v):RdV K F' H' d v:=by
 cases k with
 |fz=>exact .inl h
 |ow=>obtain⟨a,h1,_,_,h2⟩:=h;exact .inr ⟨a,h1,h2⟩
 |bo=>obtain⟨a,h1,_,h2⟩:=h;exact .inr ⟨a,h1,h2⟩
theorem Val.later {k:Kd}{d:D}{v:V}{F1 H1:Hp}(h:Val K F' H H' k d v)(s:Step F' H' F1 H1):Val K F1 H H1 k d v:=by
 cases k with
 |fz=>exact Rep.mono s.up h
 |ow=>obtain⟨a,h1,h2,h3,h4⟩:=h;obtain⟨o,ho⟩:=h4.some;exact⟨a,h1,h2,s.unfz ho h3,h4.mono s.up fun o e=>s.keep _ _ e⟩
 |bo=>obtain⟨a,h1,h3,h4⟩:=h;obtain⟨o,ho⟩:=h4.some;exact⟨a,h1,s.unfz ho h3,h4.mono s.up fun o e=>s.keep _ _ e⟩
theorem Val.early {k:Kd}{d:D}{v:V}{H1:Hp}(h:Val K F' H1 H' k d v)(e:Same H H1):Val K F' H H' k d v:=by
 cases k with
 |fz=>exact h
 |ow=>obtain⟨a,h1,h2,h3,h4⟩:=h;exact⟨a,h1,e.free h2,h3,h4⟩
 |bo=>exact h
theorem RdV.later {d:D}{v:V}{F1 H1:Hp}(h:RdV K F H d v)(s:Step F H F1 H1):RdV K F1 H1 d v:=by
 rcases h with h|⟨a,h1,h2⟩
 .exact .inl (h.mono s.up)
 .exact .inr ⟨a,h1,h2.mono s.up fun o e=>s.keep _ _ e⟩
theorem RdV.rep {d:D}{v:V}(h:RdV K F H d v)(s:Same F H):Rep K H d v:=by
 rcases h with h|⟨a,rfl,h2⟩
 .exact h.mono s
 .exact h2.rep s fun o e=>e
theorem RdV.non {v:V}(h:RdV K F H .non v):v= .non:=by
 rcases h with h|⟨a,_,h⟩
 .rw[Rep]at h;exact h
 .exact h.elim
theorem RdV.bl {b:Bool}{v:V}(h:RdV K F H ef v):v= .bl b:=by
 rcases h with h|⟨a,_,h⟩
 .rw[Rep]at h;exact h
 .exact h.elim
theorem RdV.int {i:Int}{v:V}(h:RdV K F H fV v):v= .int i:=by
 rcases h with h|⟨a,_,h⟩
 .rw[Rep]at h;exact h
 .exact h.elim
theorem RdV.str {x:Str}{v:V}(h:RdV K F H dY v):v= .str x:=by
 rcases h with h|⟨a,_,h⟩
 .rw[Rep]at h;exact h
 .exact h.elim
theorem RdV.ty {n:String}{v:V}(h:RdV K F H (.ty n) v):v= .ty n:=by
 rcases h with h|⟨a,_,h⟩
 .rw[Rep]at h;exact h
 .exact h.elim
theorem RdV.tup {xs:List D}{v:V}(s:Same F H)(h:RdV K F H cP v):∃a vs,v= .ref a/\H a=some gI/\Reps K F xs vs:=by
 rcases h with h|⟨a,_,h⟩
 .rw[Rep]at h
  obtain⟨a,vs,h1,h2,h3⟩:=h
  exact⟨a,vs,h1,s _ _ h2,h3⟩
 .exact h.elim
theorem RdV.lst {xs:List D}{v:V}(s:Same F H)(h:RdV K F H aH v):∃a vs,v= .ref a/\H a=some jj/\Reps K F xs vs:=by
 rcases h with h|⟨a,h1,h⟩
 .rw[Rep]at h
  obtain⟨a,vs,h1,h2,h3⟩:=h
  exact⟨a,vs,h1,s _ _ h2,h3⟩
 .obtain⟨vs,h2,h3⟩:=h
  exact⟨a,vs,h1,h2,h3⟩
theorem RdV.scr {xs:List D}{v:V}(s:Same F H)(h:RdV K F H (.scr xs) v):∃a vs,v= .ref a/\SqL K H a vs/\Reps K F xs vs:=by
 rcases h with h|⟨a,_,h⟩
 .rw[Rep]at h
  obtain⟨a,vs,h1,h2,h3⟩:=h
  exact⟨a,vs,h1,Same.seq s h2,h3⟩
 .exact h.elim
structure Post (K:PySem.W.Frag)(F H:Hp)(k:Kd)(d:D)(F':Hp)(v:V)(H':Hp):Prop where
 st:Step F H F' H'
 val:Val K F' H H' k d v
theorem Post.frz {d:D}{v:V}(p:Post K F H .ow d F' v H'):∃F'',Post K F H .fz d F'' v H':=by
 obtain⟨s,a,rfl,h1,h2,h3⟩:=p
 obtain⟨o,ho⟩:=h3.some
 have up:Same F' (upd F' a o):=fun b u e=>by
  rw[Qv];exact e
  rintro rfl;rw[h2]at e;cases e
 refine⟨upd F' a o,⟨s.up.trans up,fun b u e=>?_,s.keep,fun b u e=>?_⟩,h3.rep up fun o' e=>?_⟩
 .by_cases hb:b=a
  .subst hb;rw[QN]at e;cases e;exact ho
  .rw[Qv hb]at e;exact s.sub _ _ e
 .by_cases hb:b=a
  .subst hb;exact .inr h1
  .rw[Qv hb]at e;exact s.new _ _ e
 .rw[ho]at e;cases e;exact QN
theorem Post.own {a:Addr}{o:HO}{d:D}(s:Step F H F' H')(n:H' a=none)(c:∀H2,H2 a=some o->Cell K F' H2 a d):Post K F H .ow d F' bv qX:=by
 have up:Same H' qX:=fun b u e=>by
  rw[Qv];exact e
  rintro rfl;rw[n]at e;cases e
 exact⟨⟨s.up,s.sub.trans up,s.keep.trans up,s.new⟩,a,rfl,s.keep.free n,s.sub.free n,c _ QN⟩
theorem Post.made {a:Addr}{o:HO}{d:D}(s:Step F H F' H')(n:H' a=none)(c:∀F2,Same F' F2->F2 a=some o->Rep K F2 d bv):∃F2,Post K F H .fz d F2 bv qX:=by
 have up:∀G:Hp,G a=none->Same G (upd G a o):=fun G n b u e=>by
  rw[Qv];exact e
  rintro rfl;rw[n]at e;cases e
 have nf:F' a=none:=s.sub.free n
 refine⟨upd F' a o,⟨s.up.trans (up _ nf),fun b u e=>?_,s.keep.trans (up _ n),fun b u e=>?_⟩,c _ (up _ nf) QN⟩
 .by_cases hb:b=a
  .subst hb;rw[QN]at e⊢;exact e
  .rw[Qv hb]at e⊢;exact s.sub _ _ e
 .by_cases hb:b=a
  .subst hb;exact .inr (s.keep.free n)
  .rw[Qv hb]at e;exact s.new _ _ e
theorem Post.pure {d:D}{v:V}(s:Step F H F' H')(h:Rep K F' d v):Post K F H .fz d F' v H':=⟨s,h⟩
abbrev Ev:=List eR
structure FI (K:PySem.W.Frag)(F0 H0 F H:Hp)(ev:Ev)(σ:St):Prop where
 st:Step F0 H0 F H
 at_:∀(i:Nat) k d,ev[i]?=some dM->k≠ .bo/\∃v,σ[i]?=some dm/\Val K F H0 H k d v
 apart:∀(i j:Nat) d e,i≠j->ev[i]?=some fy->ev[j]?=some (some (.ow,e))->σ[i]?≠σ[j]?
 len:ev.length=σ.length
variable {ev:Ev}{σ:St}
theorem FI.later {F1 H1:Hp}(f:FI K F0 H0 F H ev σ)(s:Step F H F1 H1):FI K F0 H0 F1 H1 ev σ:=
 ⟨f.st.trans s,fun i k d e=>by obtain⟨n,v,e1,h⟩:=f.at_ i k d e;exact⟨n,v,e1,h.later s⟩,f.apart,f.len⟩
theorem FI.sub (f:FI K F0 H0 F H ev σ):Same F H:=f.st.sub
theorem FI.refl (f:FI K F0 H0 F H ev σ):Step F H F H:= .refl f.sub
theorem FI.set {i:Nat}{k:Kd}{d:D}{v:V}(f:FI K F0 H0 F H ev σ)(p:Post K F H k d F' v H')(nb:k≠ .bo):FI K F0 H0 F' H' qf jU:=by
 have f':=f.later p.st
 refine⟨f'.st,fun j k' d' e=>?_,fun j l d1 d2 hjl e1 e2=>?_,by simpa using f.len⟩
 .by_cases hj:i=j
  .subst hj
   rw[List.getElem?_set_self']at e
   cases q:ev[i]? with
   |none=>rw[q]at e;cases e
   |some z=>
    rw[q]at e
    cases e
    have hi:i<σ.length:=by rw[←f.len];exact(List.getElem?_eq_some_iff.mp q).1
    exact⟨nb,v,by rw[List.getElem?_set_self hi],p.val.early f.st.keep⟩
  .rw[List.getElem?_set_ne hj]at e⊢
   exact f'.at_ j k' d' e
 ·
  have key:∀(j:Nat) (e':D),i≠j->k= .ow->ev[j]?=some (some (.ow,e'))->σ[j]?≠some dm:=fun j e' hij hk ej z=>by
   subst hk
   obtain⟨_,u,ej',b,hb,_,_,c⟩:=f.at_ j _ _ ej
   obtain⟨a,ha,hn,_,_⟩:=p.val
   rw[z]at ej'
   have ej'':v=u:=by simpa using ej'
   subst ej'';subst ha;cases hb
   obtain⟨o,ho⟩:=c.some
   rw[hn]at ho;cases ho
  have inEv:∀{m:Nat} {x:Option bm},(ev.set i dM)[i]?=some x->(σ.set i dm)[i]?=some dm:=fun{m x} e=>by
   rw[List.getElem?_set_self']at e
   cases q:ev[i]? with
   |none=>rw[q]at e;cases e
   |some z=>
    have hi:i<σ.length:=by rw[←f.len];exact(List.getElem?_eq_some_iff.mp q).1
    rw[List.getElem?_set_self hi]
  have kow:∀{x:D},(ev.set i dM)[i]?=some mE->k= .ow:=fun{x} e=>by
   rw[List.getElem?_set_self']at e
   cases q:ev[i]? with
   |none=>rw[q]at e;cases e
   |some z=>
    rw[q]at e
    have:some (k,d)=some (Kd.ow,x):=Option.some.inj e
    cases this;rfl
  by_cases hj:i=j
  .subst hj
   rw[List.getElem?_set_ne hjl]at e2
   rw[inEv (m:=i) e1,List.getElem?_set_ne hjl]
   exact fun z=>key l d2 hjl (kow e1) e2 z.symm
  .by_cases hl:i=l
   .subst hl
    rw[List.getElem?_set_ne hj]at e1
    rw[inEv (m:=i) e2,List.getElem?_set_ne hj]
    exact fun z=>key j d1 hj (kow e2) e1 z
   .rw[List.getElem?_set_ne hj]at e1⊢
    rw[List.getElem?_set_ne hl]at e2⊢
    exact f.apart j l d1 d2 hjl e1 e2
theorem FI.weak {ev':Ev}(f:FI K F0 H0 F H ev σ)(hl:ev'.length=ev.length)(w:∀(i:Nat) k d,ev'[i]?=some dM->ev[i]?=some dM):FI K F0 H0 F H ev' σ:=
 ⟨f.st,fun i k d e=>f.at_ i k d (w i k d e),fun i j d e h a b=>f.apart i j d e h (w _ _ _ a) (w _ _ _ b),hl.trans f.len⟩
end
end L3
namespace L3
open PySem L2
inductive R where|ok (k:Kd) (d:D)|ex (C:Addr)|no
inductive RA where|ok (l:List (Kd×D))|ex (C:Addr)|no
inductive Fl where|nx (ev:Ev)|rt (k:Kd) (d:D)|bk (ev:Ev)|ct (ev:Ev)|ex (C:Addr)|no
abbrev Psi:=Addr->Hp->Prop
def ValA (K:PySem.W.Frag)(F' H H':Hp):List bm->List V->Prop
 | [],vs=>vs= []
 |(k,d)::l,vs=>∃v r,vs=v::r/\k≠ .ow/\Val K F' H H' k d v/\ValA K F' H H' l r
def tV (K:PySem.W.Frag)(F0 H0:Hp)(Ψ:Psi)(f:Ev->R):TE:=fun σ H Q=>∃F ev,FI K F0 H0 F H ev σ/\match f ev with
 | .ok k d=>∀F' v H',Post K F H k d F' v H'->Q v H'
 | .ex C=>∀F' H',Step F0 H0 F' H'->Ψ C H'
 | .no=>False
def tVT (K:PySem.W.Frag)(F0 H0:Hp)(Ψ:Psi)(f:Ev->R):TT:=fun σ H Q=>∃F ev,FI K F0 H0 F H ev σ/\match f ev with
 | .ok _ (.bl b)=>∀F' H',Step F H F' H'->Q b H'
 | .ex C=>∀F' H',Step F0 H0 F' H'->Ψ C H'
 |_=>False
def tVA (K:PySem.W.Frag)(F0 H0:Hp)(Ψ:Psi)(f:Ev->RA):TA:=fun σ H Q=>∃F ev,FI K F0 H0 F H ev σ/\match f ev with
 | .ok l=>∀F' vs H',Step F H F' H'->ValA K F' H H' l vs->Q vs H'
 | .ex C=>∀F' H',Step F0 H0 F' H'->Ψ C H'
 | .no=>False
def FlowTo (K:PySem.W.Frag)(F0 H0:Hp)(Ψ:Psi)(F:Hp)(D:Ends):Fl->Prop
 | .nx ev=>∀F' H' σ',Same F F'->FI K F0 H0 F' H' ev σ'->D.nx σ' H'
 | .rt k d=>∀F' v H',Post K F0 H0 k d F' v H'->D.rt v H'
 | .bk ev=>∀F' H' σ',Same F F'->FI K F0 H0 F' H' ev σ'->D.bk σ' H'
 | .ct ev=>∀F' H' σ',Same F F'->FI K F0 H0 F' H' ev σ'->D.ct σ' H'
 | .ex C=>∀F' H',Step F0 H0 F' H'->Ψ C H'
 | .no=>False
def tSv (K:PySem.W.Frag)(F0 H0:Hp)(Ψ:Psi)(g:Ev->Fl):TS:=fun D σ H=>∃F ev,FI K F0 H0 F H ev σ/\FlowTo K F0 H0 Ψ F D iO
def VE (X:Cx)(F0 H0:Hp)(Ψ:Psi)(e:Expr)(f:Ev->R):Prop:=PE X e (tV X.K F0 H0 Ψ f)
def VT (X:Cx)(F0 H0:Hp)(Ψ:Psi)(e:Expr)(f:Ev->R):Prop:=PT X e sy
def VW (X:Cx)(F0 H0:Hp)(Ψ:Psi)(e:Expr)(f:Ev->R):Prop:=PW X e sy
def VA (X:Cx)(F0 H0:Hp)(Ψ:Psi)(es:List Expr)(f:Ev->RA):Prop:=PA X es (tVA X.K F0 H0 Ψ f)
def VS (X:Cx)(F0 H0:Hp)(Ψ:Psi)(st:Stmt)(g:Ev->Fl):Prop:=PS X st sE
def VSs (X:Cx)(F0 H0:Hp)(Ψ:Psi)(sts:List Stmt)(g:Ev->Fl):Prop:=PSs X sts sE
section
variable {X:Cx}{K:PySem.W.Frag}{F0 H0 F H F' H':Hp}{Ψ:Psi}{σ:St}{ev:Ev}
def varR (i:Nat)(ev:Ev):R:=match ev[i]? with
 |some (some (.fz,d))=> .ok .fz d
 |some (some (.ow,d))=> .ok .bo d
 |_=> .no
theorem Qo4 {i:Nat}{Q:VK}(h:tV K F0 H0 Ψ (varR i) σ H Q):tVar i σ H Q:=by
 obtain⟨F,ev,fi,m⟩:=h
 unfold varR at m
 split at m
 .rename_i k d hm
  split at hm
  .rename_i d' e
   cases hm
   obtain⟨_,v,e1,hv⟩:=fi.at_ _ _ _ e
   exact⟨v,e1,m F v H ⟨fi.refl,hv⟩⟩
  .rename_i d' e
   cases hm
   obtain⟨_,v,e1,a,h1,h2,h3,h4⟩:=fi.at_ _ _ _ e
   exact⟨v,e1,m F v H ⟨fi.refl,a,h1,h3,h4⟩⟩
  .cases hm
 .rename_i C hm
  split at hm<;>cases hm
 .exact m.elim
def conR (d:D)(_:Ev):R:= .ok .fz d
theorem QlS {v:V}{d:D}{Q:VK}(r:Rep K F0 d v)(h:tV K F0 H0 Ψ (conR d) σ H Q):tC v σ H Q:=by
 obtain⟨F,ev,fi,m⟩:=h
 exact m F v H ⟨fi.refl,r.mono fi.st.up⟩
abbrev G2:=D->D->Option bm
def toR:Option bm->R
 |some (k,d)=> .ok k d
 |none=> .no
def op2 (g:G2):R->R->R
 | .ok _ a, .ok _ b=>toR (g a b)
 | .ok _ _,r=>r
 |r,_=>r
def OkOp (K:PySem.W.Frag)(r:R2)(g:G2):Prop:=∀(F H:Hp) dx dy x y k d (Q:VK),Same F H->RdV K F H dx x->RdV K F H dy y->g dx dy=some (k,d)->(∀F' v H',Post K F H k d F' v H'->Q v H')->r x y H Q
theorem OkOp.or {r r':R2}{g g':G2}(h:OkOp K r g)(h':OkOp K r' g'):OkOp K (fun x y H Q=>r x y H Q\/r' x y H Q) (fun a b=>(g a b).or (g' a b)):=by
 intro F H dx dy x y k d Q s rx ry e q
 dsimp only at e
 cases e1:g dx dy with
 |some z=>obtain⟨k',d'⟩:=z;rw[e1]at e;cases e;exact .inl (h F H dx dy x y k d Q s rx ry e1 q)
 |none=>rw[e1]at e;exact .inr (h' F H dx dy x y k d Q s rx ry e q)
theorem Qix {r:R2}{g:G2}{f1 f2:Ev->R}{Q:VK}(ho:OkOp K r g)(h:tV K F0 H0 Ψ (fun ev=>op2 g jL iZ) σ H Q):tOp r mD mC σ H Q:=by
 obtain⟨F,ev,fi,m⟩:=h
 try dsimp only at m
 refine⟨F,ev,fi,?_⟩
 cases h1:f1 ev with
 |no=>rw[h1]at m;exact m
 |ex C=>rw[h1]at m;exact m
 |ok k1 d1=>
  rw[h1]at m
  intro F1 x H1 p1
  refine⟨F1,ev,fi.later p1.st,?_⟩
  cases h2:f2 ev with
  |no=>rw[h2]at m;exact m
  |ex C=>rw[h2]at m;exact m
  |ok k2 d2=>
   rw[h2]at m
   intro F2 y H2 p2
   have m:match toR (g d1 d2)with
    | .ok k d=>∀F' v H',Post K F H k d F' v H'->Q v H'
    | .ex C=>∀F' H',Step F0 H0 F' H'->Ψ C H'
    | .no=>False:=m
   cases e:g d1 d2 with
   |none=>rw[e]at m;exact m.elim
   |some z=>
    obtain⟨k,d⟩:=z
    rw[e]at m
    have s:=p1.st.trans p2.st
    exact ho F2 H2 d1 d2 x y k d Q p2.st.sub qy p2.val.rd e fun F3 v H3 p3=>m F3 v H3 ⟨s.trans p3.st,p3.val.early s.keep⟩
theorem QtI {f:Ev->R}{Q:Bool->Hp->Prop}(h:tVT K F0 H0 Ψ f σ H Q):tB bH σ H Q:=by
 obtain⟨F,ev,fi,m⟩:=h
 try dsimp only at m
 refine⟨F,ev,fi,?_⟩
 cases h1:f ev with
 |no=>rw[h1]at m;exact m
 |ex C=>rw[h1]at m;exact m
 |ok k d=>
  rw[h1]at m
  intro F1 v H1 p
  cases d with
  |bl b=>exact⟨b,p.val.rd.bl,m F1 H1 p.st⟩
  |_=>exact m.elim
def andR:R->R->R
 | .ok _ (.bl b),r=>if b then r else .ok .fz cp
 | .ex C,_=> .ex C
 |_,_=> .no
def orR:R->R->R
 | .ok _ (.bl b),r=>if b then .ok .fz aT else r
 | .ex C,_=> .ex C
 |_,_=> .no
def notR:R->R
 | .ok _ (.bl b)=> .ok .fz (.bl !b)
 | .ex C=> .ex C
 |_=> .no
theorem Qo5 {f g:Ev->R}{Q:Bool->Hp->Prop}(h:tVT K F0 H0 Ψ (fun ev=>andR bS iO) σ H Q):tAnd my uo σ H Q:=by
 obtain⟨F,ev,fi,m⟩:=h
 try dsimp only at m
 refine⟨F,ev,fi,?_⟩
 cases h1:f ev with
 |no=>rw[h1]at m;exact m
 |ex C=>rw[h1]at m;exact m
 |ok k d=>
  rw[h1]at m
  cases d with
  |bl b=>
   intro F1 H1 p
   cases b with
   |true=>
    rw[if_pos rfl]
    refine⟨F1,ev,fi.later p,?_⟩
    have m:match g ev with
     | .ok _ (.bl b)=>∀F' H',Step F H F' H'->Q b H'
     | .ex C=>∀F' H',Step F0 H0 F' H'->Ψ C H'
     |_=>False:=m
    cases h2:g ev with
    |no=>rw[h2]at m;exact m
    |ex C=>rw[h2]at m;exact m
    |ok k2 d2=>
     rw[h2]at m
     cases d2 with
     |bl b=>exact fun F2 H2 p2=>m F2 H2 (p.trans p2)
     |_=>exact m.elim
   |false=>rw[if_neg Bool.false_ne_true];exact m F1 H1 p
  |_=>exact m.elim
theorem Qrn {f g:Ev->R}{Q:Bool->Hp->Prop}(h:tVT K F0 H0 Ψ (fun ev=>orR bS iO) σ H Q):tOr my uo σ H Q:=by
 obtain⟨F,ev,fi,m⟩:=h
 try dsimp only at m
 refine⟨F,ev,fi,?_⟩
 cases h1:f ev with
 |no=>rw[h1]at m;exact m
 |ex C=>rw[h1]at m;exact m
 |ok k d=>
  rw[h1]at m
  cases d with
  |bl b=>
   intro F1 H1 p
   cases b with
   |false=>
    rw[if_neg Bool.false_ne_true]
    refine⟨F1,ev,fi.later p,?_⟩
    have m:match g ev with
     | .ok _ (.bl b)=>∀F' H',Step F H F' H'->Q b H'
     | .ex C=>∀F' H',Step F0 H0 F' H'->Ψ C H'
     |_=>False:=m
    cases h2:g ev with
    |no=>rw[h2]at m;exact m
    |ex C=>rw[h2]at m;exact m
    |ok k2 d2=>
     rw[h2]at m
     cases d2 with
     |bl b=>exact fun F2 H2 p2=>m F2 H2 (p.trans p2)
     |_=>exact m.elim
   |true=>rw[if_pos rfl];exact m F1 H1 p
  |_=>exact m.elim
theorem Qo6 {f:Ev->R}{Q:Bool->Hp->Prop}(h:tVT K F0 H0 Ψ (fun ev=>notR bS) σ H Q):tNot my σ H Q:=by
 obtain⟨F,ev,fi,m⟩:=h
 try dsimp only at m
 refine⟨F,ev,fi,?_⟩
 cases h1:f ev with
 |no=>rw[h1]at m;exact m
 |ex C=>rw[h1]at m;exact m
 |ok k d=>
  rw[h1]at m
  cases d with
  |bl b=>exact fun F1 H1 p=>m F1 H1 p
  |_=>exact m.elim
theorem Qnc {f g:Ev->R}{Q:VK}(h:tV K F0 H0 Ψ (fun ev=>andR bS iO) σ H Q):QqP bH (tV K F0 H0 Ψ g) σ H Q:=by
 obtain⟨F,ev,fi,m⟩:=h
 try dsimp only at m
 refine⟨F,ev,fi,?_⟩
 cases h1:f ev with
 |no=>rw[h1]at m;exact m
 |ex C=>rw[h1]at m;exact m
 |ok k d=>
  rw[h1]at m
  intro F1 x H1 p
  cases d with
  |bl b=>
   refine⟨b,p.val.rd.bl,?_⟩
   cases b with
   |true=>
    rw[if_pos rfl]
    refine⟨F1,ev,fi.later p.st,?_⟩
    have m:match g ev with
     | .ok k d=>∀F' v H',Post K F H k d F' v H'->Q v H'
     | .ex C=>∀F' H',Step F0 H0 F' H'->Ψ C H'
     | .no=>False:=m
    cases h2:g ev with
    |no=>rw[h2]at m;exact m
    |ex C=>rw[h2]at m;exact m
    |ok k2 d2=>rw[h2]at m;exact fun F2 y H2 p2=>m F2 y H2 ⟨p.st.trans p2.st,p2.val.early p.st.keep⟩
   |false=>rw[if_neg Bool.false_ne_true];exact m F1 _ H1 ⟨p.st,by rw[Val,Rep]⟩
  |_=>exact m.elim
theorem Qnd {f:Ev->R}{Q:VK}(h:tV K F0 H0 Ψ (fun ev=>notR bS) σ H Q):QqQ bH σ H Q:=by
 obtain⟨F,ev,fi,m⟩:=h
 try dsimp only at m
 refine⟨F,ev,fi,?_⟩
 cases h1:f ev with
 |no=>rw[h1]at m;exact m
 |ex C=>rw[h1]at m;exact m
 |ok k d=>
  rw[h1]at m
  intro F1 x H1 p
  cases d with
  |bl b=>exact⟨b,p.val.rd.bl,m F1 _ H1 ⟨p.st,by rw[Val,Rep]⟩⟩
  |_=>exact m.elim
def ifR:R->R->R->R
 | .ok _ (.bl b),x,y=>if b then x else y
 | .ex C,_,_=> .ex C
 |_,_,_=> .no
theorem Qro {c f g:Ev->R}{Q:VK}(h:tV K F0 H0 Ψ (fun ev=>ifR rF bS iO) σ H Q):tIf mB bH (tV K F0 H0 Ψ g) σ H Q:=by
 obtain⟨F,ev,fi,m⟩:=h
 try dsimp only at m
 refine⟨F,ev,fi,?_⟩
 have go : ∀ (r : Ev → R), (match r ev with
         | .ok k d=>∀F' v H',Post K F H k d F' v H'->Q v H'
         | .ex C=>∀F' H',Step F0 H0 F' H'->Ψ C H'
         | .no=>False)->∀F1 H1,Step F H F1 H1->tV K F0 H0 Ψ r σ H1 Q:=fun r m F1 H1 p=>by
  refine⟨F1,ev,fi.later p,?_⟩
  cases h2:r ev with
  |no=>rw[h2]at m;exact m
  |ex C=>rw[h2]at m;exact m
  |ok k2 d2=>rw[h2]at m;exact fun F2 y H2 p2=>m F2 y H2 ⟨p.trans p2.st,p2.val.early p.keep⟩
 cases h1:c ev with
 |no=>rw[h1]at m;exact m
 |ex C=>rw[h1]at m;exact m
 |ok k d=>
  rw[h1]at m
  cases d with
  |bl b=>
   intro F1 H1 p
   cases b with
   |true=>rw[if_pos rfl];exact go f m F1 H1 p
   |false=>rw[if_neg Bool.false_ne_true];exact go g m F1 H1 p
  |_=>exact m.elim
def frzK:Kd->Kd
 | .ow=> .fz
 |k=>k
def Qiy:R->RA->RA
 | .ok k d, .ok l=> .ok ((frzK k,d)::l)
 | .ok _ _,r=>r
 | .ex C,_=> .ex C
 | .no,_=> .no
theorem ValA.early {H1:Hp}:∀{l:List bm} {vs:List V},ValA K F' H1 H' l vs->Same H H1->ValA K F' H H' l vs
 | [],_,h,_=>h
 |(k,d)::l,_,h,s=>by
  obtain⟨v,r,h1,h2,h3,h4⟩:=h
  exact⟨v,r,h1,h2,h3.early s,ValA.early h4 s⟩
theorem Post.frzK {k:Kd}{d:D}{v:V}(p:Post K F H k d F' v H'):∃F'',Post K F H (frzK k) d F'' v H'/\L3.frzK k≠ .ow:=by
 cases k with
 |fz=>exact⟨F',p,by simp[L3.frzK]⟩
 |bo=>exact⟨F',p,by simp[L3.frzK]⟩
 |ow=>obtain⟨F'',q⟩:=p.frz;exact⟨F'',q,by simp[L3.frzK]⟩
theorem Qo7 {Q:List V->Hp->Prop}(h:tVA K F0 H0 Ψ (fun _=> .ok []) σ H Q):tNil σ H Q:=by
 obtain⟨F,ev,fi,m⟩:=h
 exact m F [] H fi.refl rfl
theorem Qne {f:Ev->R}{fs:Ev->RA}{Q:List V->Hp->Prop}(h:tVA K F0 H0 Ψ (fun ev=>Qiy bS eO) σ H Q):QkX bH iT σ H Q:=by
 obtain⟨F,ev,fi,m⟩:=h
 try dsimp only at m
 refine⟨F,ev,fi,?_⟩
 cases h1:f ev with
 |no=>rw[h1]at m;exact m
 |ex C=>rw[h1]at m;exact m
 |ok k d=>
  rw[h1]at m
  intro F1 x H1 p
  obtain⟨F1,p,nw⟩:=p.frzK
  refine⟨F1,ev,fi.later p.st,?_⟩
  cases h2:fs ev with
  |no=>rw[h2]at m;exact m
  |ex C=>rw[h2]at m;exact m
  |ok l=>
   rw[h2]at m
   exact fun F2 vs H2 s v=>m F2 (x::vs) H2 (p.st.trans s) ⟨x,vs,rfl,nw,p.val.later s,v.early p.st.keep⟩
def Qbf:List bm->Option eT
 | []=>some []
 |(.fz,d)::l=>(Qbf l).map (d:: ·)
 |_=>none
theorem ValA.fz:∀{l:List bm} {vs:List V} {ds:List D},ValA K F' H H' l vs->Qbf l=some ds->Reps K F' ds vs
 | [],_,_,h,e=>by cases e;cases h;exact .nil
 |(k,d)::l,_,ds,h,e=>by
  obtain⟨v,r,rfl,h2,h3,h4⟩:=h
  cases k with
  |fz=>
   simp only[Qbf]at e
   cases q:Qbf l with
   |none=>rw[q]at e;cases e
   |some ds'=>rw[q]at e;cases e;exact .cons h3 (ValA.fz h4 q)
  |_=>cases e
theorem ValA.rds:∀{l:List bm} {vs:List V},ValA K F' H H' l vs->Same F' H'->Reps K H' (l.map (·.2)) vs
 | [],_,h,_=>by cases h;exact .nil
 |(k,d)::l,_,h,s=>by
  obtain⟨v,r,rfl,h2,h3,h4⟩:=h
  exact .cons (h3.rd.rep s) (ValA.rds h4 s)
theorem ValA.length:∀{l:List bm} {vs:List V},ValA K F' H H' l vs->l.length=vs.length
 | [],_,h=>by cases h;rfl
 |(k,d)::l,_,h=>by obtain⟨v,r,rfl,h2,h3,h4⟩:=h;simp[ValA.length h4]
def LIM:Nat:=1000000
def tupR:RA->R
 | .ok l=>match Qbf l with
  |some ds=>if ds.length<=LIM then .ok .fz (.tup ds)else .no
  |none=> .no
 | .ex C=> .ex C
 | .no=> .no
def lstR:RA->R
 | .ok l=>match Qbf l with
  |some ds=>if ds.length<=LIM then .ok .ow nY else .no
  |none=> .no
 | .ex C=> .ex C
 | .no=> .no
theorem Qo8 {fs:Ev->RA}{Q:VK}(h:tV K F0 H0 Ψ (fun ev=>tupR eO) σ H Q):tTup iT σ H Q:=by
 obtain⟨F,ev,fi,m⟩:=h
 try dsimp only at m
 refine⟨F,ev,fi,?_⟩
 cases h1:fs ev with
 |no=>rw[h1]at m;exact m
 |ex C=>rw[h1]at m;exact m
 |ok l=>
  rw[h1]at m
  intro F1 vs H1 s va
  simp only[tupR]at m
  cases q:Qbf l with
  |none=>rw[q]at m;exact m.elim
  |some ds=>
   rw[q]at m
   by_cases hl:ds.length<=LIM
   .simp only[hl,if_true]at m
    have rs:=va.fz q
    refine⟨by rw[←rs.length];exact Nat.le_trans hl QS,fun p hp=>?_⟩
    obtain⟨F2,p2⟩:=Post.made (K:=K) (d:= .tup ds) (o:= .tup vs) s hp fun F2 up e=>by rw[Rep];exact⟨p,vs,rfl,e,rs.mono up⟩
    exact m F2 _ _ p2
   .simp only[hl,if_false]at m
theorem Qo9 {fs:Ev->RA}{Q:VK}(h:tV K F0 H0 Ψ (fun ev=>lstR eO) σ H Q):tLst iT σ H Q:=by
 obtain⟨F,ev,fi,m⟩:=h
 try dsimp only at m
 refine⟨F,ev,fi,?_⟩
 cases h1:fs ev with
 |no=>rw[h1]at m;exact m
 |ex C=>rw[h1]at m;exact m
 |ok l=>
  rw[h1]at m
  intro F1 vs H1 s va
  simp only[lstR]at m
  cases q:Qbf l with
  |none=>rw[q]at m;exact m.elim
  |some ds=>
   rw[q]at m
   by_cases hl:ds.length<=LIM
   .simp only[hl,if_true]at m
    have rs:=va.fz q
    refine⟨by rw[←rs.length];exact Nat.le_trans hl QS,fun p hp=>?_⟩
    exact m F1 _ _ (Post.own s hp fun H2 e=>⟨vs,e,rs⟩)
   .simp only[hl,if_false]at m
abbrev GN:=List D->Option bm
def RdA (K:PySem.W.Frag)(F H:Hp):List D->List V->Prop
 | [],vs=>vs= []
 |d::l,vs=>∃v r,vs=v::r/\RdV K F H d v/\RdA K F H l r
theorem ValA.rda:∀{l:List bm} {vs:List V},ValA K F' H H' l vs->RdA K F' H' (l.map (·.2)) vs
 | [],_,h=>h
 |(k,d)::l,_,h=>by
  obtain⟨v,r,rfl,h2,h3,h4⟩:=h
  exact⟨v,r,rfl,h3.rd,ValA.rda h4⟩
def QeU (K:PySem.W.Frag)(r:List V->Hp->VK->Prop)(g:GN):Prop:=∀(F H:Hp) ds vs k d (Q:VK),Same F H->RdA K F H ds vs->g ds=some (k,d)->(∀F' v H',Post K F H k d F' v H'->Q v H')->r vs H Q
def Qnf (g:GN):RA->R
 | .ok l=>toR (g (l.map (·.2)))
 | .ex C=> .ex C
 | .no=> .no
theorem Qol {r:List V->Hp->VK->Prop}{g:GN}{fs:Ev->RA}{Q:VK}(ho:QeU K r g)(h:tV K F0 H0 Ψ (fun ev=>Qnf g eO) σ H Q):tCB r iT σ H Q:=by
 obtain⟨F,ev,fi,m⟩:=h
 try dsimp only at m
 refine⟨F,ev,fi,?_⟩
 cases h1:fs ev with
 |no=>rw[h1]at m;exact m
 |ex C=>rw[h1]at m;exact m
 |ok l=>
  rw[h1]at m
  intro F1 vs H1 s va
  have m:match toR (g (l.map (·.2)))with
    | .ok k d=>∀F' v H',Post K F H k d F' v H'->Q v H'
    | .ex C=>∀F' H',Step F0 H0 F' H'->Ψ C H'
    | .no=>False:=m
  cases e:g (l.map (·.2))with
  |none=>rw[e]at m;exact m.elim
  |some z=>
   obtain⟨k,d⟩:=z
   rw[e]at m
   exact ho F1 H1 _ vs k d Q s.sub va.rda e fun F3 v H3 p3=>m F3 v H3 ⟨s.trans p3.st,p3.val.early s.keep⟩
theorem FlowTo.mono {E:Ends}{r:Fl}(h:FlowTo K F0 H0 Ψ F E r)(s:Same F F'):FlowTo K F0 H0 Ψ F' E r:=by
 cases r with
 |nx ev=>exact fun F2 H2 σ2 s2 fi=>h F2 H2 σ2 rc fi
 |bk ev=>exact fun F2 H2 σ2 s2 fi=>h F2 H2 σ2 rc fi
 |ct ev=>exact fun F2 H2 σ2 s2 fi=>h F2 H2 σ2 rc fi
 |rt k d=>exact h
 |ex C=>exact h
 |no=>exact h
def seqG (g h:Ev->Fl)(ev:Ev):Fl:=match g ev with
 | .nx ev'=>h ev'
 |r=>r
theorem Qpa {g h:Ev->Fl}{E:Ends}(q:tSv K F0 H0 Ψ (seqG g h) E σ H):tSeq ur uq E σ H:=by
 obtain⟨F,ev,fi,m⟩:=q
 refine⟨F,ev,fi,?_⟩
 unfold seqG at m
 cases h1:g ev with
 |nx ev'=>rw[h1]at m;exact fun F' H' σ' s fi'=>⟨F',ev',fi',m.mono s⟩
 |_=>rw[h1]at m;exact m
theorem Qng {E:Ends}(q:tSv K F0 H0 Ψ .nx E σ H):Qe3 E σ H:=by
 obtain⟨F,ev,fi,m⟩:=q
 exact m F H σ nX fi
theorem Qnh {E:Ends}(q:tSv K F0 H0 Ψ .ct E σ H):QqU E σ H:=by
 obtain⟨F,ev,fi,m⟩:=q
 exact m F H σ nX fi
def retG (f:Ev->R)(ev:Ev):Fl:=match f ev with
 | .ok .bo _=> .no
 | .ok k d=> .rt k d
 | .ex C=> .ex C
 | .no=> .no
theorem Qpb {f:Ev->R}{E:Ends}(q:tSv K F0 H0 Ψ (retG f) E σ H):tRet bH E σ H:=by
 obtain⟨F,ev,fi,m⟩:=q
 refine⟨F,ev,fi,?_⟩
 unfold retG at m
 cases h1:f ev with
 |no=>rw[h1]at m;exact m
 |ex C=>rw[h1]at m;exact m
 |ok k d=>
  rw[h1]at m
  intro F1 x H1 p
  cases k with
  |bo=>exact m.elim
  |fz=>exact m F1 x H1 ⟨fi.st.trans p.st,p.val.early fi.st.keep⟩
  |ow=>exact m F1 x H1 ⟨fi.st.trans p.st,p.val.early fi.st.keep⟩
def QcR (i:Nat)(ev:Ev):Fl:=match ev[i]? with
 |some (some (.fz,d))=> .rt .fz d
 |some (some (.ow,d))=> .rt .ow d
 |_=> .no
theorem Qk1 {i:Nat}{E:Ends}(q:tSv K F0 H0 Ψ (QcR i) E σ H):tRet gk E σ H:=by
 obtain⟨F,ev,fi,m⟩:=q
 unfold QcR at m
 split at m
 .rename_i d e
  obtain⟨_,v,e1,hv⟩:=fi.at_ _ _ _ e
  exact⟨v,e1,m F v H ⟨fi.st,hv⟩⟩
 .rename_i d e
  obtain⟨_,v,e1,hv⟩:=fi.at_ _ _ _ e
  exact⟨v,e1,m F v H ⟨fi.st,hv⟩⟩
 .exact m.elim
def ifG (c:Ev->R)(g h:Ev->Fl)(ev:Ev):Fl:=match c ev with
 | .ok _ (.bl b)=>if b then g ev else h ev
 | .ex C=> .ex C
 |_=> .no
theorem Qpc {c:Ev->R}{g h:Ev->Fl}{E:Ends}(q:tSv K F0 H0 Ψ (ifG c g h) E σ H):tIfS mB ur uq E σ H:=by
 obtain⟨F,ev,fi,m⟩:=q
 refine⟨F,ev,fi,?_⟩
 unfold ifG at m
 cases h1:c ev with
 |no=>rw[h1]at m;exact m
 |ex C=>rw[h1]at m;exact m
 |ok k d=>
  rw[h1]at m
  cases d with
  |bl b=>
   intro F1 H1 p
   cases b with
   |true=>rw[if_pos rfl];exact⟨F1,ev,fi.later p,FlowTo.mono m p.up⟩
   |false=>rw[if_neg Bool.false_ne_true];exact⟨F1,ev,fi.later p,FlowTo.mono m p.up⟩
  |_=>exact m.elim
abbrev B1:=D->Ev->Option Ev
abbrev BN:=List D->Ev->Option Ev
def gV (K:PySem.W.Frag)(F0 H0:Hp)(b:B1):TG:=fun v σ H Q=>∃F ev d ev',FI K F0 H0 F H ev σ/\Rep K F d v/\b d ev=some ev'/\∀H' σ',H'=H->FI K F0 H0 F H ev' σ'->Q σ' H'
def gVs (K:PySem.W.Frag)(F0 H0:Hp)(b:BN):TGs:=fun vs σ H Q=>∃F ev ds ev',FI K F0 H0 F H ev σ/\Reps K F ds vs/\b ds ev=some ev'/\∀H' σ',H'=H->FI K F0 H0 F H ev' σ'->Q σ' H'
def QC (i:Nat):B1:=fun d ev=>some iu
theorem Qni {i:Nat}{v:V}{Q:St->Hp->Prop}(q:gV K F0 H0 (QC i) v σ H Q):QdD i v σ H Q:=by
 obtain⟨F,ev,d,ev',fi,r,e,m⟩:=q
 cases e
 exact m H _ rfl (fi.set ⟨fi.refl,r⟩ al)
def bNil:BN:=fun ds ev=>match ds with
 | []=>some ev
 |_=>none
def Qbz (b:B1)(c:BN):BN:=fun ds ev=>match ds with
 |d::r=>(b d ev).bind (c r)
 | []=>none
theorem Qpd {vs:List V}{Q:St->Hp->Prop}(q:gVs K F0 H0 bNil vs σ H Q):gNil vs σ H Q:=by
 obtain⟨F,ev,ds,ev',fi,r,e,m⟩:=q
 cases ds with
 |nil=>cases e;exact⟨r.unnil,m H σ rfl fi⟩
 |cons d ds=>cases e
theorem Qnj {b:B1}{c:BN}{vs:List V}{Q:St->Hp->Prop}(q:gVs K F0 H0 (Qbz b c) vs σ H Q):QqV lL (gVs K F0 H0 c) vs σ H Q:=by
 obtain⟨F,ev,ds,ev',fi,r,e,m⟩:=q
 cases ds with
 |nil=>cases e
 |cons d ds=>
  obtain⟨v,t,rfl,h1,h2⟩:=r.uncons
  refine⟨v,t,rfl,?_⟩
  simp only[Qbz]at e
  cases q1:b d ev with
  |none=>rw[q1]at e;cases e
  |some ev1=>
   rw[q1]at e
   refine⟨F,ev,d,ev1,fi,h1,q1,fun H' σ' hH fi'=>?_⟩
   subst hH
   exact⟨F,ev1,ds,ev',fi',h2,e,m⟩
def bTup (n:Nat)(c:BN):B1:=fun d ev=>match d with
 | .tup ds=>if ds.length=n then c ds ev else none
 |_=>none
theorem Qpe {n:Nat}{c:BN}{v:V}{Q:St->Hp->Prop}(q:gV K F0 H0 (bTup n c) v σ H Q):gTup K n (gVs K F0 H0 c) v σ H Q:=by
 obtain⟨F,ev,d,ev',fi,r,e,m⟩:=q
 cases d with
 |tup ds=>
  rw[Rep]at r
  obtain⟨a,vs,h1,h2,h3⟩:=r
  simp only[bTup]at e
  by_cases hn:ds.length=n
  .rw[if_pos hn]at e
   exact⟨a,vs,h1,SqT.of (fi.sub _ _ h2),by rw[←h3.length];exact hn,F,ev,ds,ev',fi,h3,e,m⟩
  .rw[if_neg hn]at e;cases e
 |_=>cases e
def setG (i:Nat)(f:Ev->R)(ev:Ev):Fl:=match f ev with
 | .ok .bo _=> .no
 | .ok k d=> .nx qf
 | .ex C=> .ex C
 | .no=> .no
theorem QlT {i:Nat}{f:Ev->R}{E:Ends}(q:tSv K F0 H0 Ψ (setG i f) E σ H):tAsg bH l7 E σ H:=by
 obtain⟨F,ev,fi,m⟩:=q
 refine⟨F,ev,fi,?_⟩
 unfold setG at m
 cases h1:f ev with
 |no=>rw[h1]at m;exact m
 |ex C=>rw[h1]at m;exact m
 |ok k d=>
  rw[h1]at m
  intro F1 x H1 p
  cases k with
  |bo=>exact m.elim
  |fz=>exact m F1 H1 _ p.st.up (fi.set p al)
  |ow=>exact m F1 H1 _ p.st.up (fi.set p al)
def Qk2 (i:Nat)(ev:Ev):Ev:=match ev[i]? with
 |some (some (.ow,d))=>ev.set i bC
 |_=>ev
theorem FI.frz (i:Nat)(f:FI K F0 H0 F H ev σ):∃F',Same F F'/\FI K F0 H0 F' H uJ σ:=by
 unfold Qk2
 split
 .rename_i d e
  obtain⟨_,v,ev1,hv⟩:=f.at_ i _ _ e
  obtain⟨a,rfl,h1,h2,h3⟩:=hv
  obtain⟨o,ho⟩:=h3.some
  have hi:i<σ.length:=(List.getElem?_eq_some_iff.mp ev1).1
  have hie:i<ev.length:=by rw[f.len];exact hi
  have up:Same F (upd F a o):=fun b u e=>by
   rw[Qv];exact e
   rintro rfl;rw[h2]at e;cases e
  have ne:∀{m:Nat} {x:D},(ev.set i (some (Kd.fz,d)))[m]?=some mE->i≠m/\ev[m]?=some mE:=fun{m x} q=>by
   by_cases hm:i=m
   .subst hm;rw[List.getElem?_set_self hie]at q;cases q
   .rw[List.getElem?_set_ne hm]at q;exact⟨hm,q⟩
  refine⟨upd F a o,up,⟨f.st.up.trans up,fun b u q=>?_,f.st.keep,fun b u q=>?_⟩,fun j k d' q=>?_,fun j l d1 d2 hjl e1 e2=>?_,by simpa using f.len⟩
  .by_cases hb:b=a
   .subst hb;rw[QN]at q;cases q;exact ho
   .rw[Qv hb]at q;exact f.sub _ _ q
  .by_cases hb:b=a
   .subst hb;exact .inr h1
   .rw[Qv hb]at q;exact f.st.new _ _ q
  .by_cases hj:i=j
   .subst hj
    rw[List.getElem?_set_self hie]at q
    cases q
    exact⟨by simp,_,ev1,h3.rep up fun o' e=>by rw[ho]at e;cases e;exact QN⟩
   .rw[List.getElem?_set_ne hj]at q
    obtain⟨n,u,e3,hu⟩:=f.at_ j k d' q
    refine⟨n,u,e3,?_⟩
    cases k with
    |bo=>exact absurd rfl n
    |fz=>exact Rep.mono up hu
    |ow=>
     obtain⟨b,rfl,g1,g2,g3⟩:=hu
     have hba:b≠a:=by
      rintro rfl
      exact f.apart i j d d' hj e q (by rw[ev1,e3])
     exact⟨b,rfl,g1,by rw[Qv hba];exact g2,g3.mono up fun o e=>e⟩
  .exact f.apart j l d1 d2 hjl (ne e1).2 (ne e2).2
 .exact⟨F, .refl _,f⟩
end
end L3
namespace L3
open PySem L2
inductive RI where|ok (ds:List D)|ex (C:Addr)|no
structure Yields (K:PySem.W.Frag)(F:Hp)(J:It)(ds:List D):Prop where
 go:∀(i:Nat) H,Same F H->i<ds.length->J.go i H
 stop:∀(i:Nat) H,Same F H->ds.length<=i->J.stop i H
 yld:∀(i:Nat) F1 H x H',Same F F1->Same F1 H->i<ds.length->J.yld i H x H'->∃F2 d,Step F1 H F2 H'/\ds[i]?=some d/\Rep K F2 d x
def tVI (K:PySem.W.Frag)(F0 H0:Hp)(Ψ:Psi)(f:Ev->RI):TI:=fun σ H R=>∃F ev,FI K F0 H0 F H ev σ/\match f ev with
 | .ok ds=>∀F' H' J,Step F H F' H'->Yields K F' J ds->R J H'
 | .ex C=>∀F' H',Step F0 H0 F' H'->Ψ C H'
 | .no=>False
def VI (X:Cx)(F0 H0:Hp)(Ψ:Psi)(tg e:Expr)(f:Ev->RI):Prop:=PI X tg e (tVI X.K F0 H0 Ψ f)
def forE (b:B1)(body:Ev->Fl):List D->Ev->Fl
 | [],ev=> .nx ev
 |d::ds,ev=>match b d ev with
  |none=> .no
  |some ev1=>match body ev1 with
   | .nx ev2=>forE b body ds ev2
   | .ct ev2=>forE b body ds ev2
   | .bk ev2=> .nx ev2
   |r=>r
def forG (f:Ev->RI)(b:B1)(body:Ev->Fl)(ev:Ev):Fl:=match f ev with
 | .ok ds=>forE b body ds ev
 | .ex C=> .ex C
 | .no=> .no
section
variable {X:Cx}{K:PySem.W.Frag}{F0 H0 F H F' H':Hp}{Ψ:Psi}{σ:St}{ev:Ev}
theorem Qpf {f:Ev->RI}{b:B1}{body:Ev->Fl}{E:Ends}(q:tSv K F0 H0 Ψ (forG f b body) E σ H):tFor (tVI K F0 H0 Ψ f) lL r9 E σ H:=by
 obtain⟨F,ev,fi,m⟩:=q
 refine⟨F,ev,fi,?_⟩
 unfold forG at m
 cases h1:f ev with
 |no=>rw[h1]at m;exact m
 |ex C=>rw[h1]at m;exact m
 |ok ds=>
  rw[h1]at m
  intro F1 H1 J s y
  refine⟨fun i m σ H=>m=ds.length-i/\i<=ds.length/\∃F ev,FI K F0 H0 F H ev σ/\Same F1 F/\FlowTo K F0 H0 Ψ F E (forE b body (ds.drop i) ev),
   ⟨ds.length,by simp,Nat.zero_le _,F1,ev,fi.later s, .refl _,FlowTo.mono m s.up⟩,?_⟩
  rintro i m σ H ⟨rfl,hi,F,ev,fi,up,fl⟩
  have sH:Same F1 H:=up.trans fi.sub
  by_cases hlt:i<ds.length
  .refine .inr ⟨y.go i H sH hlt,fun σ' H'=>∃F ev,FI K F0 H0 F H' ev σ'/\Same F1 F/\FlowTo K F0 H0 Ψ F E (forE b body jp ev),fun σ' H' n=>⟨ds.length-(i+1),by omega,rfl,hlt,n⟩,fun x H' yl=>?_⟩
   obtain⟨F2,d,s2,ed,r⟩:=y.yld i F H x H' up fi.sub hlt yl
   have e:ds.drop i=d::ds.drop (i+1):=by
    obtain⟨h,e'⟩:=List.getElem?_eq_some_iff.mp ed
    rw[←e']
    exact List.drop_eq_getElem_cons h
   rw[e]at fl
   simp only[forE]at fl
   cases q1:b d ev with
   |none=>rw[q1]at fl;exact fl.elim
   |some ev1=>
    rw[q1]at fl
    dsimp only at fl
    refine⟨F2,ev,d,ev1,fi.later s2,r,q1,fun H'' σ' hH fi'=>?_⟩
    subst hH
    refine⟨F2,ev1,fi',?_⟩
    have fl2:=FlowTo.mono fl s2.up
    cases q2:body ev1 with
    |nx ev2=>rw[q2]at fl2;exact fun F' H' σ' s' fi''=>⟨F',ev2,fi'',(up.trans s2.up).trans s',FlowTo.mono fl2 s'⟩
    |ct ev2=>rw[q2]at fl2;exact fun F' H' σ' s' fi''=>⟨F',ev2,fi'',(up.trans s2.up).trans s',FlowTo.mono fl2 s'⟩
    |bk ev2=>rw[q2]at fl2;exact fl2
    |rt k d=>rw[q2]at fl2;exact fl2
    |ex C=>rw[q2]at fl2;exact fl2
    |no=>rw[q2]at fl2;exact fl2
  .have e:i=ds.length:=by omega
   subst e
   rw[List.drop_length]at fl
   exact .inl ⟨y.stop _ H sH aw,fl F H σ nX fi⟩
def itR:R->RI
 | .ok .bo _=> .no
 | .ok _ (.lst ds)=> .ok ds
 | .ok _ (.scr ds)=> .ok ds
 | .ex C=> .ex C
 |_=> .no
def itT:R->RI
 | .ok .fz (.tup ds)=> .ok ds
 | .ex C=> .ex C
 |_=> .no
theorem QfE {a:Addr}{vs:List V}{ds:List D}(h:SqL K F a vs)(r:Reps K F ds vs):Yields K F qM ds where
 go:=fun i H s hi=>⟨vs,vs[i]'(by rw[←r.length];exact hi),Same.seq s h,by simp[←r.length,hi]⟩
 stop:=fun i H s hi=>⟨vs,Same.seq s h,by rw[←r.length];exact hi⟩
 yld:=fun i F1 H x H' s1 s2 hi y=>by
  obtain⟨rfl,y⟩:=y
  have e:=y vs (Same.seq (s1.trans s2) h)
  obtain⟨d,ed⟩:∃d,ds[i]?=some d:=⟨ds[i],by simp[hi]⟩
  obtain⟨v,ev,rv⟩:=r.get ed
  rw[e]at ev
  cases ev
  exact⟨F1,d, .refl s2,ed,rv.mono s1⟩
theorem Qk3 {a:Addr}{vs:List V}{ds:List D}(h:SqT K F a vs)(r:Reps K F ds vs):Yields K F (Itt K a) ds where
 go:=fun i H s hi=>⟨vs,vs[i]'(by rw[←r.length];exact hi),Same.seqT s h,by simp[←r.length,hi]⟩
 stop:=fun i H s hi=>⟨vs,Same.seqT s h,by rw[←r.length];exact hi⟩
 yld:=fun i F1 H x H' s1 s2 hi y=>by
  obtain⟨rfl,y⟩:=y
  have e:=y vs (Same.seqT (s1.trans s2) h)
  obtain⟨d,ed⟩:∃d,ds[i]?=some d:=⟨ds[i],by simp[hi]⟩
  obtain⟨v,ev,rv⟩:=r.get ed
  rw[e]at ev
  cases ev
  exact⟨F1,d, .refl s2,ed,rv.mono s1⟩
def QcA (lo:Int)(n:Nat):List D:=(List.range n).map fun(i:Nat)=> .int j8
theorem QeV {lo:Int}{n:Nat}:Yields K F (Itr lo n) (QcA lo n) where
 go:=fun i H s hi=>by show i<n;simpa[QcA]using hi
 stop:=fun i H s hi=>by show n<=i;simpa[QcA]using hi
 yld:=fun i F1 H x H' s1 s2 hi y=>by
  obtain⟨rfl,rfl⟩:=y
  have hi:i<n:=by simpa[QcA]using hi
  exact⟨F1, .int j8, .refl s2,by simp[QcA,hi],by rw[Rep]⟩
theorem Qnk {f:Ev->R}{Q:It->Hp->Prop}(h:tVI K F0 H0 Ψ (fun ev=>itR bS) σ H Q):QoM K bH σ H Q:=by
 obtain⟨F,ev,fi,m⟩:=h
 dsimp only at m
 refine⟨F,ev,fi,?_⟩
 cases h1:f ev with
 |no=>rw[h1]at m;exact m
 |ex C=>rw[h1]at m;exact m
 |ok k d=>
  rw[h1]at m
  intro F1 v H1 p
  have go:∀F2,Post K F H .fz d F2 v H1->(∀ds,itR fU= .ok ds->∀F' H' J,Step F H F' H'->Yields K F' J ds->Q J H')->(∀ds,d= .lst ds\/d= .scr ds->∃a,v= .ref a/\(∃xs,SqL K H1 a xs)/\Q qM H1):=fun F2 p2 m ds hd=>by
   rcases hd with rfl|rfl
   .have r:=p2.val
    rw[Val,Rep]at r
    obtain⟨a,vs,e1,e2,e3⟩:=r
    exact⟨a,e1,⟨vs,SqL.of (p2.st.sub _ _ e2)⟩,m ds rfl F2 H1 _ p2.st (QfE (SqL.of e2) e3)⟩
   .have r:=p2.val
    rw[Val,Rep]at r
    obtain⟨a,vs,e1,e2,e3⟩:=r
    exact⟨a,e1,⟨vs,Same.seq p2.st.sub e2⟩,m ds rfl F2 H1 _ p2.st (QfE e2 e3)⟩
  cases k with
  |bo=>cases d<;>exact m.elim
  |fz=>
   cases d with
   |lst ds=>exact go F1 p (fun ds' e=>by cases e;exact m) ds cw
   |scr ds=>exact go F1 p (fun ds' e=>by cases e;exact m) ds u4
   |_=>exact m.elim
  |ow=>
   obtain⟨F2,p2⟩:=p.frz
   cases d with
   |lst ds=>exact go F2 p2 (fun ds' e=>by cases e;exact m) ds cw
   |scr ds=>exact go F2 p2 (fun ds' e=>by cases e;exact m) ds u4
   |_=>exact m.elim
theorem Qpg {f:Ev->R}{Q:It->Hp->Prop}(h:tVI K F0 H0 Ψ (fun ev=>itT bS) σ H Q):iTup K bH σ H Q:=by
 obtain⟨F,ev,fi,m⟩:=h
 dsimp only at m
 refine⟨F,ev,fi,?_⟩
 cases h1:f ev with
 |no=>rw[h1]at m;exact m
 |ex C=>rw[h1]at m;exact m
 |ok k d=>
  rw[h1]at m
  intro F1 v H1 p
  cases k with
  |bo=>cases d<;>exact m.elim
  |ow=>cases d<;>exact m.elim
  |fz=>
   cases d with
   |tup ds=>
    have r:=p.val
    rw[Val,Rep]at r
    obtain⟨a,vs,e1,e2,e3⟩:=r
    exact⟨a,e1,⟨vs,SqT.of (p.st.sub _ _ e2)⟩,m F1 H1 _ p.st (Qk3 (SqT.of e2) e3)⟩
   |_=>exact m.elim
def Qph:RA->RI
 | .ok [(_, .int j)]=>if-(2^62)<=j/\j<2^62 then .ok oJ else .no
 | .ex C=> .ex C
 |_=> .no
theorem Qnl {f:Ev->RA}{Q:It->Hp->Prop}(h:tVI K F0 H0 Ψ (fun ev=>Qph bS) σ H Q):Qq0 (tVA K F0 H0 Ψ f) σ H Q:=by
 obtain⟨F,ev,fi,m⟩:=h
 dsimp only at m
 refine⟨F,ev,fi,?_⟩
 unfold Qph at m
 cases h1:f ev with
 |no=>rw[h1]at m;exact m
 |ex C=>rw[h1]at m;exact m
 |ok l=>
  rw[h1]at m
  intro F1 vs H1 s va
  split at m
  .rename_i ds hm
   split at hm
   .rename_i k j he
    cases he
    split at hm
    .rename_i hb
     cases hm
     obtain⟨v,r,rfl,_,hv,hr⟩:=va
     obtain rfl:r= []:=hr
     exact⟨j,by rw[hv.rd.int],hb.1,hb.2,m F1 H1 _ s QeV⟩
    .cases hm
   .rename_i he;cases he
   .cases hm
  .rename_i C hm
   split at hm
   .split at hm<;>cases hm
   .rename_i he;cases he
   .cases hm
  .exact m.elim
def whlE (c:Ev->R)(body:Ev->Fl):Nat->Ev->Fl
 |0,_=> .no
 |n+1,ev=>match c ev with
  | .ok _ (.bl b)=>if b then(match body ev with
   | .nx ev2=>whlE c body n ev2
   | .ct ev2=>whlE c body n ev2
   | .bk ev2=> .nx ev2
   |r=>r)else .nx ev
  | .ex C=> .ex C
  |_=> .no
theorem QlU {n:Nat}{c:Ev->R}{body:Ev->Fl}{E:Ends}(q:tSv K F0 H0 Ψ (whlE c body n) E σ H):Qog mB r9 E σ H:=by
 obtain⟨F,ev,fi,m⟩:=q
 refine⟨fun m σ H=>∃F ev,FI K F0 H0 F H ev σ/\FlowTo K F0 H0 Ψ F E (whlE c body m ev),⟨n,F,ev,fi,m⟩,?_⟩
 rintro n σ H ⟨F,ev,fi,m⟩
 refine⟨F,ev,fi,?_⟩
 cases n with
 |zero=>exact m.elim
 |succ n=>
  simp only[whlE]at m
  cases h1:c ev with
  |no=>rw[h1]at m;exact m
  |ex C=>rw[h1]at m;exact m
  |ok k d=>
   rw[h1]at m
   cases d with
   |bl b=>
    intro F1 H1 p
    cases b with
    |false=>
     rw[if_neg Bool.false_ne_true]
     simp only[Bool.false_eq_true,if_false]at m
     exact m F1 H1 σ p.up (fi.later p)
    |true=>
     rw[if_pos rfl]
     simp only[if_true]at m
     refine⟨fun σ' H'=>∃F ev,FI K F0 H0 F H' ev σ'/\FlowTo K F0 H0 Ψ F E ul,fun σ' H' h=>⟨n,Nat.lt_succ_self _,h⟩,F1,ev,fi.later p,?_⟩
     have m2:=FlowTo.mono m p.up
     cases q2:body ev with
     |nx ev2=>rw[q2]at m2;exact fun F' H' σ' s' fi''=>⟨F',ev2,fi'',FlowTo.mono m2 s'⟩
     |ct ev2=>rw[q2]at m2;exact fun F' H' σ' s' fi''=>⟨F',ev2,fi'',FlowTo.mono m2 s'⟩
     |bk ev2=>rw[q2]at m2;exact m2
     |rt k d=>rw[q2]at m2;exact m2
     |ex C=>rw[q2]at m2;exact m2
     |no=>rw[q2]at m2;exact m2
   |_=>exact m.elim
theorem FI.mut {i:Nat}{d d':D}{a:Addr}{o:HO}(f:FI K F0 H0 F H ev σ)(e:ev[i]?=some fy)(hs:σ[i]?=some je)(c:∀H2,H2 a=some o->Cell K F H2 a d'):
  FI K F0 H0 F fv (ev.set i (some (.ow,d'))) σ:=by
 obtain⟨_,v,e1,b,hb,h1,h2,h3⟩:=f.at_ i _ _ e
 rw[hs]at e1
 have:V.ref a=v:=by simpa using e1
 subst this
 cases hb
 have hie:i<ev.length:=(List.getElem?_eq_some_iff.mp e).1
 have ne:∀{G:Hp},G a=none->Same G H->Same G fv:=fun{G} n s b u q=>by
  rw[Qv];exact s b u q
  rintro rfl;rw[n]at q;cases q
 have own:∀{m:Nat} {x:D},(ev.set i (some (Kd.ow,d')))[m]?=some mE->∃y,ev[m]?=some (some (.ow,y)):=fun{m x} q=>by
  by_cases hm:i=m
  .subst hm;exact⟨d,e⟩
  .rw[List.getElem?_set_ne hm]at q;exact⟨x,q⟩
 refine⟨⟨f.st.up,ne h2 f.sub,ne h1 f.st.keep,f.st.new⟩,fun j k d2 q=>?_,fun j l d1 d2 hjl e1 e2=>?_,by simpa using f.len⟩
 .by_cases hj:i=j
  .subst hj
   rw[List.getElem?_set_self hie]at q
   cases q
   exact⟨by simp,_,hs,a,rfl,h1,h2,c _ QN⟩
  .rw[List.getElem?_set_ne hj]at q
   obtain⟨n,u,e3,hu⟩:=f.at_ j k d2 q
   refine⟨n,u,e3,?_⟩
   cases k with
   |bo=>exact absurd rfl n
   |fz=>exact hu
   |ow=>
    obtain⟨b,rfl,g1,g2,g3⟩:=hu
    have hba:b≠a:=by
     rintro rfl
     exact f.apart i j d d2 hj e q (by rw[hs,e3])
    exact⟨b,rfl,g1,g2,g3.mono nX fun o' z=>by rw[Qv hba];exact z⟩
 .obtain⟨y1,z1⟩:=own e1
  obtain⟨y2,z2⟩:=own e2
  exact f.apart j l y1 y2 hjl z1 z2
end
end L3
namespace L3
open PySem L2
def addD:G2
 | .int i, .int j=>some (.fz, .int (i+j))
 | .lst xs, .lst ys=>if xs.length+ys.length<=LIM then some (.ow, .lst (xs++ys))else none
 | .str x, .str y=>if x.length+y.length<=LIM then some (.fz, .str (x++y))else none
 |_,_=>none
def subD:G2
 | .int i, .int j=>some (.fz, .int (i-j))
 |_,_=>none
def mulL:G2
 | .int i, .int j=>if(-(2^64)<i/\i<2^64)\/(-(2^64)<j/\j<2^64)then some (.fz, .int (i*j))else none
 | .lst xs, .int k=>if-(2^63)<=k/\k<2^63/\xs.length*k.toNat<=LIM then some (.ow, .lst (List.replicate k.toNat xs).flatten)else none
 |_,_=>none
def Qbg:G2
 | .int i, .int j=>if 0<j/\j<2^200 then some (.fz, .int (i/j))else none
 |_,_=>none
def modD:G2
 | .int i, .int j=>if 0<j then some (.fz, .int (i %j))else none
 |_,_=>none
def powD:G2
 | .int i, .int j=>if 0<=j/\j<=1000000/\i.natAbs<2^64 then some (.fz, .int (i^j.toNat))else none
 |_,_=>none
def ltD:G2
 | .int i, .int j=>some (.fz, .bl (decide (i<j)))
 |_,_=>none
def leD:G2
 | .int i, .int j=>some (.fz, .bl (decide (i<=j)))
 |_,_=>none
def gtD:G2
 | .int i, .int j=>some (.fz, .bl (decide (j<i)))
 |_,_=>none
def geD:G2
 | .int i, .int j=>some (.fz, .bl (decide (j<=i)))
 |_,_=>none
def isND:G2
 | .non, .non=>some (.fz, .bl true)
 |_, .non=>some (.fz, .bl false)
 |_,_=>none
def Qd6:G2
 | .non, .non=>some (.fz, .bl false)
 |_, .non=>some (.fz, .bl true)
 |_,_=>none
def idxL:G2
 | .lst xs, .int i=>(atI xs i).map fun d=>(.fz,d)
 | .scr xs, .int i=>(atI xs i).map fun d=>(.fz,d)
 | .tup xs, .int i=>(atI xs i).map fun d=>(.fz,d)
 |_,_=>none
section
variable {K:PySem.W.Frag}{X:Cx}
abbrev Qrp:R2:=fun x y H Q=>rI0 (fun i j=> .int (i+j)) x y H Q\/(rCat x y H Q\/∃i j,x= .str i/\y= .str j/\i.length+j.length<=sizeLine/\Q (.str (i++j)) H)
theorem Qpi:OpR X lf Qrp:=op_add.or (op_cat.or QkQ)
theorem QlV {n:Nat}(h:n<=LIM):n<=sizeLine:=Nat.le_trans h QS
theorem Qrq:OkOp K Qrp addD:=by
 intro F H dx dy x y k d Q s rx ry e q
 unfold addD at e
 split at e<;>first|(cases e;done)|skip
 .rename_i i j
  cases e
  exact .inl ⟨i,j,rx.int,ry.int,q F _ H aA⟩
 rotate_left
 .rename_i i j
  split at e
  .rename_i hl
   cases e
   exact .inr (.inr ⟨i,j,rx.str,ry.str,QlV hl,q F _ H aA⟩)
  .cases e
 .rename_i xs ys
  split at e
  .rename_i hl
   cases e
   obtain⟨a,vs,rfl,h1,h2⟩:=rx.lst s
   obtain⟨b,us,rfl,g1,g2⟩:=ry.lst s
   refine .inr (.inl ⟨a,b,vs,us,rfl,rfl,h1,g1,by rw[←h2.length,←g2.length];exact QlV hl,fun p hp=>?_⟩)
   exact q F _ _ (Post.own dQ hp fun H2 e=>⟨_,e,h2.app g2⟩)
  .cases e
theorem Qrr:OkOp K (rI0 fun i j=> .int (i-j)) subD:=by
 intro F H dx dy x y k d Q s rx ry e q
 unfold subD at e
 split at e<;>first|(cases e;done)|skip
 rename_i i j
 cases e
 exact⟨i,j,rx.int,ry.int,q F _ H aA⟩
abbrev Qrs:R2:=fun x y H Q=>rI CMul (fun i j=> .int (i*j)) x y H Q\/rRep x y H Q
theorem Qpj:OpR X ku Qrs:=op_mul.or Qri
theorem ok_mulL:OkOp K Qrs mulL:=by
 intro F H dx dy x y k d Q s rx ry e q
 unfold mulL at e
 split at e<;>first|(cases e;done)|skip
 .rename_i i j
  split at e
  .rename_i hc
   cases e
   exact .inl ⟨i,j,rx.int,ry.int,hc,q F _ H aA⟩
  .cases e
 .rename_i xs j
  split at e
  .rename_i hc
   cases e
   obtain⟨a,vs,rfl,h1,h2⟩:=rx.lst s
   refine .inr ⟨a,j,vs,rfl,ry.int,h1,hc.1,hc.2.1,by rw[←h2.length];exact QlV hc.2.2,fun p hp=>?_⟩
   exact q F _ _ (Post.own dQ hp fun H2 e=>⟨_,e,h2.rep _⟩)
  .cases e
def Qrt (i j:Int):Prop:=0<j/\j<2^200
theorem Qnm {X:Cx}:OpR X (binaryOp .FloorDiv) (rI Qrt fun i j=> .int (i/j)):=opI fun i j _ _ _ _ _ hc q=>by
 have h1:(0:Int)<j:=hc.1
 have h2:j<2^200:=hc.2
 refine PyProof.Rows.floordiv_int aa (by rw[Int.fdiv_eq_ediv_of_nonneg i aa];exact q) (.inl (PyProof.noPylong_of_log2 ?_))
 have h3:j.natAbs<2^200:=by omega
 have h4:j.natAbs.log2<200:=(Nat.log2_lt aa).2 h3
 omega
theorem Qpk:OkOp K (rI Qrt fun i j=> .int (i/j)) Qbg:=by
 intro F H dx dy x y k d Q s rx ry e q
 unfold Qbg at e
 split at e<;>first|(cases e;done)|skip
 rename_i i j
 split at e
 .rename_i hc
  cases e
  exact⟨i,j,rx.int,ry.int,hc,q F _ H aA⟩
 .cases e
theorem Qru:OkOp K (rI (fun _ j=>0<j) fun i j=> .int (i %j)) modD:=by
 intro F H dx dy x y k d Q s rx ry e q
 unfold modD at e
 split at e<;>first|(cases e;done)|skip
 rename_i i j
 split at e
 .rename_i hc
  cases e
  exact⟨i,j,rx.int,ry.int,hc,q F _ H aA⟩
 .cases e
theorem Qrv:OkOp K (rI CPow fun i j=> .int (i^j.toNat)) powD:=by
 intro F H dx dy x y k d Q s rx ry e q
 unfold powD at e
 split at e<;>first|(cases e;done)|skip
 rename_i i j
 split at e
 .rename_i hc
  cases e
  exact⟨i,j,rx.int,ry.int,hc,q F _ H aA⟩
 .cases e
theorem QtJ:OkOp K (rI0 fun i j=> .bl (decide (i<j))) ltD:=by
 intro F H dx dy x y k d Q s rx ry e q
 unfold ltD at e
 split at e<;>first|(cases e;done)|skip
 rename_i i j
 cases e
 exact⟨i,j,rx.int,ry.int,q F _ H aA⟩
theorem QtK:OkOp K (rI0 fun i j=> .bl (decide (i<=j))) leD:=by
 intro F H dx dy x y k d Q s rx ry e q
 unfold leD at e
 split at e<;>first|(cases e;done)|skip
 rename_i i j
 cases e
 exact⟨i,j,rx.int,ry.int,q F _ H aA⟩
theorem QtL:OkOp K (rI0 fun i j=> .bl (decide (j<i))) gtD:=by
 intro F H dx dy x y k d Q s rx ry e q
 unfold gtD at e
 split at e<;>first|(cases e;done)|skip
 rename_i i j
 cases e
 exact⟨i,j,rx.int,ry.int,q F _ H aA⟩
theorem QtM:OkOp K (rI0 fun i j=> .bl (decide (j<=i))) geD:=by
 intro F H dx dy x y k d Q s rx ry e q
 unfold geD at e
 split at e<;>first|(cases e;done)|skip
 rename_i i j
 cases e
 exact⟨i,j,rx.int,ry.int,q F _ H aA⟩
theorem RdV.isn {F H:Hp}{d:D}{v:V}(h:RdV K F H d v):decide (v= .non)=(match d with| .non=>true|_=>false):=by
 rcases h with h|⟨a,rfl,h⟩
 .cases d<;>rw[Rep]at h
  all_goals first
   |(subst h;rfl)
   |(obtain⟨a,vs,rfl,_⟩:=h;rfl)
   |(obtain⟨a,C,dx,vs,rfl,_⟩:=h;rfl)
 .cases d<;>first|rfl|exact h.elim
theorem Qrw:OkOp K (fun x y H Q=>y= .non/\Q (.bl (decide (x= .non))) H) isND:=by
 intro F H dx dy x y k d Q s rx ry e q
 have hn:=rx.isn
 unfold isND at e
 split at e
 .cases e;exact⟨ry.non,by rw[hn];exact q F _ H aA⟩
 .rename_i h
  cases e
  refine⟨ry.non,?_⟩
  have:decide (x= .non)=false:=by
   rw[hn];split
   .exact(h rfl).elim
   .rfl
  rw[this];exact q F _ H aA
 .cases e
theorem Qpl:OkOp K (fun x y H Q=>y= .non/\Q (.bl (!decide (x= .non))) H) Qd6:=by
 intro F H dx dy x y k d Q s rx ry e q
 have hn:=rx.isn
 unfold Qd6 at e
 split at e
 .cases e;exact⟨ry.non,by rw[hn];exact q F _ H (.pure dQ (by rw[Rep];rfl))⟩
 .rename_i h
  cases e
  refine⟨ry.non,?_⟩
  have:decide (x= .non)=false:=by
   rw[hn];split
   .exact(h rfl).elim
   .rfl
  rw[this];exact q F _ H (.pure dQ (by rw[Rep];rfl))
 .cases e
theorem Reps.atI {F:Hp}{ds:List D}{vs:List V}{i:Int}{d:D}(r:Reps K F ds vs)(e:atI ds i=some d):∃v,atI vs i=some v/\Rep K F d v:=by
 unfold L2.atI at e⊢
 rw[←r.length]
 cases q:ixN ds.length i with
 |none=>rw[q]at e;cases e
 |some j=>rw[q]at e;exact r.get e
theorem ok_idxL:OkOp K (rIx K) idxL:=by
 intro F H dx dy x y k d Q s rx ry e q
 unfold idxL at e
 split at e<;>first|(cases e;done)|skip
 rotate_right
 .rename_i xs i
  obtain⟨a,vs,rfl,h1,h2⟩:=rx.tup s
  cases q1:atI xs i with
  |none=>rw[q1]at e;cases e
  |some z=>
   rw[q1]at e;cases e
   obtain⟨v,e1,rv⟩:=h2.atI q1
   exact .inr (.inl ⟨a,vs,i,v,rfl,ry.int,SqT.of h1,e1,q F _ H mw⟩)
 .rename_i xs i
  obtain⟨a,vs,rfl,h1,h2⟩:=rx.lst s
  cases q1:atI xs i with
  |none=>rw[q1]at e;cases e
  |some z=>
   rw[q1]at e;cases e
   obtain⟨v,e1,rv⟩:=h2.atI q1
   exact .inl ⟨a,vs,i,v,rfl,ry.int,SqL.of h1,e1,q F _ H mw⟩
 .rename_i xs i
  obtain⟨a,vs,rfl,h1,h2⟩:=rx.scr s
  cases q1:atI xs i with
  |none=>rw[q1]at e;cases e
  |some z=>
   rw[q1]at e;cases e
   obtain⟨v,e1,rv⟩:=h2.atI q1
   exact .inl ⟨a,vs,i,v,rfl,ry.int,h1,e1,q F _ H mw⟩
end
def lenL:GN
 | [.lst xs]=>some (.fz, .int xs.length)
 | [.scr xs]=>some (.fz, .int xs.length)
 | [.tup xs]=>some (.fz, .int xs.length)
 |_=>none
def QlW:GN
 | [.int i, .int j]=>some (.fz, .int (if j<i then j else i))
 |_=>none
def Qhv:GN
 | [.lst xs]=>some (.ow, .lst xs)
 | [.scr xs]=>some (.ow, .lst xs)
 | [.tup xs]=>some (.ow, .lst xs)
 |_=>none
section
variable {K:PySem.W.Frag}{X:Cx}
theorem Qpm:QeU K (fun xs H Q=>∃p ys,xs= [.ref p]/\(SqL K H p ys\/SqT K H p ys)/\Q (.int ys.length) H) lenL:=by
 intro F H ds vs k d Q s r e q
 unfold lenL at e
 split at e
 .obtain⟨v,_,rfl,rx,rfl⟩:=r
  cases e
  obtain⟨a,us,rfl,h1,h2⟩:=rx.lst s
  exact⟨a,us,rfl, .inl sX,q F _ H (.pure dQ (by rw[Rep,h2.length]))⟩
 .obtain⟨v,_,rfl,rx,rfl⟩:=r
  cases e
  obtain⟨a,us,rfl,h1,h2⟩:=rx.scr s
  exact⟨a,us,rfl, .inl h1,q F _ H (.pure dQ (by rw[Rep,h2.length]))⟩
 .obtain⟨v,_,rfl,rx,rfl⟩:=r
  cases e
  obtain⟨a,us,rfl,h1,h2⟩:=rx.tup s
  exact⟨a,us,rfl, .inr (SqT.of h1),q F _ H (.pure dQ (by rw[Rep,h2.length]))⟩
 .cases e
theorem Qpn:QeU K (fun xs H Q=>∃i j,xs= [.int i, .int j]/\Q (.int (if j<i then j else i)) H) QlW:=by
 intro F H ds vs k d Q s r e q
 unfold QlW at e
 split at e
 .rename_i i j
  obtain⟨v,_,rfl,rx,u,_,rfl,ry,rfl⟩:=r
  cases e
  exact⟨i,j,by rw[rx.int,ry.int],q F _ H aA⟩
 .cases e
theorem Qpo:QeU K (fun xs H Q=>∃p ys,xs= [.ref p]/\(SqL K H p ys\/SqT K H p ys)/\∀l,H l=none->Q tF qY) Qhv:=by
 intro F H ds vs k d Q s r e q
 unfold Qhv at e
 split at e
 .obtain⟨v,_,rfl,rx,rfl⟩:=r
  cases e
  obtain⟨a,us,rfl,h1,h2⟩:=rx.lst s
  exact⟨a,us,rfl, .inl sX,fun l hl=>q F _ _ (Post.own dQ hl fun H2 e=>⟨_,e,h2⟩)⟩
 .obtain⟨v,_,rfl,rx,rfl⟩:=r
  cases e
  obtain⟨a,us,rfl,h1,h2⟩:=rx.scr s
  exact⟨a,us,rfl, .inl h1,fun l hl=>q F _ _ (Post.own dQ hl fun H2 e=>⟨_,e,h2⟩)⟩
 .obtain⟨v,_,rfl,rx,rfl⟩:=r
  cases e
  obtain⟨a,us,rfl,h1,h2⟩:=rx.tup s
  exact⟨a,us,rfl, .inr (SqT.of h1),fun l hl=>q F _ _ (Post.own dQ hl fun H2 e=>⟨_,e,h2⟩)⟩
 .cases e
end
end L3
namespace L3
open PySem L2
def eOp (g:G2)(f1 f2:Ev->R)(ev:Ev):R:=op2 g jL iZ
def eAnd (f g:Ev->R)(ev:Ev):R:=andR bS iO
def eOr (f g:Ev->R)(ev:Ev):R:=orR bS iO
def eNot (f:Ev->R)(ev:Ev):R:=notR bS
def eIf (c f g:Ev->R)(ev:Ev):R:=ifR rF bS iO
def aNil (_:Ev):RA:= .ok []
def Qc (f:Ev->R)(fs:Ev->RA)(ev:Ev):RA:=Qiy bS eO
def eTup (fs:Ev->RA)(ev:Ev):R:=tupR eO
def eLst (fs:Ev->RA)(ev:Ev):R:=lstR eO
def Q5 (g:GN)(fs:Ev->RA)(ev:Ev):R:=Qnf g eO
def iLst (f:Ev->R)(ev:Ev):RI:=itR bS
def Qnn (f:Ev->R)(ev:Ev):RI:=itT bS
def Qjw:D->Bool
 | .non=>true
 | .bl _=>true
 | .int _=>true
 | .str _=>true
 |_=>false
def fnR (n:Nat)(φ:List D->R):RA->R
 | .ok l=>if l.length=n then(match Qbf l with
  |some ds=>match φ ds with
   | .ok .fz d=> .ok .fz d
   | .ok .ow d=> .ok .ow d
   |_=> .no
  |none=>match φ (l.map (·.2))with
   | .ok .bo _=> .no
   | .ok _ d=>if Qjw d then .ok .fz d else .no
   |_=> .no)else .no
 | .ex C=> .ex C
 | .no=> .no
def eFn (n:Nat)(φ:List D->R)(fs:Ev->RA)(ev:Ev):R:=fnR n φ eO
def ev0 (n:Nat)(ds:List D):Ev:=ds.map (fun d=>some (.fz,d))++List.replicate n none
def runF (n:Nat)(g:Ev->Fl)(ds:List D):R:=match g uB with
 | .rt .bo _=> .no
 | .rt k d=> .ok k d
 | .nx _=> .ok .fz .non
 | .ex C=> .ex C
 |_=> .no
def appG (i:Nat)(f:Ev->R)(ev:Ev):Fl:=match ev[i]? with
 |some (some (.ow, .lst ds))=>match f ev with
  | .ok .bo _=> .no
  | .ok _ d=>if ds.length<LIM then .nx cK else .no
  | .ex C=> .ex C
  | .no=> .no
 |_=> .no
def Qno (i:Nat)(f v:Ev->R)(ev:Ev):Fl:=match v ev with
 | .ok .bo _=> .no
 | .ok _ d=>match ev[i]? with
  |some (some (.ow, .lst ds))=>match f ev with
   | .ok _ (.int k)=>match ixN ds.length k with
    |some j=> .nx dw
    |none=> .no
   | .ex C=> .ex C
   |_=> .no
  |_=> .no
 | .ex C=> .ex C
 | .no=> .no
def frzG (i:Nat)(g:Ev->Fl)(ev:Ev):Fl:=g uJ
section
variable {X:Cx}{F0 H0:Hp}{Ψ:Psi}{a b c e:Expr}{es:List Expr}{f f1 f2 f3:Ev->R}{fs:Ev->RA}{pos:Pos}
theorem Qb (i:Nat){x:Str}(hN:X.N[i]?=some x:=by rfl)(hv:Vis X.env.scope x:=by first|exact Or.inl rfl|exact Or.inr fE|exact Or.inr fC)(hd:aJ=false:=by decide)
  (hcd:(x==("__classdict__":Str))=false:=by decide):VE X F0 H0 Ψ dD (varR i):=(Qds hN hv hd hcd).mono fun _ _ _ h=>Qo4 h
theorem Qd {i j}:VE X F0 H0 Ψ tR (conR fV):=pe_int.mono fun _ _ _ h=>QlS (by rw[Rep]) h
theorem v_bl {i j}:VE X F0 H0 Ψ (.Constant (.bool i) j pos) (conR (.bl i)):=pe_bl.mono fun _ _ _ h=>QlS (by rw[Rep]) h
theorem Qao {j}:VE X F0 H0 Ψ qT aW:=pe_non.mono fun _ _ _ h=>QlS (by rw[Rep]) h
theorem QL {i j}:VE X F0 H0 Ψ (.Constant (.str i) j pos) (conR (.str i)):=pe_str.mono fun _ _ _ h=>QlS (by rw[Rep]) h
theorem Qk4 {op:Operator}{r:R2}{g:G2}(ho:OpR X (binaryOp op) r)(hg:OkOp X.K r g)(ha:VE X F0 H0 Ψ a f1)(hb:VE X F0 H0 Ψ b f2):VE X F0 H0 Ψ uk (eOp g f1 f2):=(Qty ho ha hb).mono fun _ _ _ h=>Qix hg h
theorem Qae (ha:VE X F0 H0 Ψ a f1)(hb:VE X F0 H0 Ψ b f2):VE X F0 H0 Ψ (.BinOp a .Add b pos) (eOp addD f1 f2):=Qk4 Qpi Qrq ha hb
theorem Qet (ha:VE X F0 H0 Ψ a f1)(hb:VE X F0 H0 Ψ b f2):VE X F0 H0 Ψ (.BinOp a .Sub b pos) (eOp subD f1 f2):=Qk4 Qq1 Qrr ha hb
theorem QaE (ha:VE X F0 H0 Ψ a f1)(hb:VE X F0 H0 Ψ b f2):VE X F0 H0 Ψ (.BinOp a .FloorDiv b pos) (eOp Qbg f1 f2):=Qk4 Qnm Qpk ha hb
theorem Qad (ha:VE X F0 H0 Ψ a f1)(hb:VE X F0 H0 Ψ b f2):VE X F0 H0 Ψ (.BinOp a .Mod b pos) (eOp modD f1 f2):=Qk4 Qq2 Qru ha hb
theorem Qnp (ha:VE X F0 H0 Ψ a f1)(hb:VE X F0 H0 Ψ b f2):VE X F0 H0 Ψ (.BinOp a .Pow b pos) (eOp powD f1 f2):=Qk4 Qq3 Qrv ha hb
def QcS (X:Cx)(op:CmpOp)(g:G2):Prop:=∃r:R2,OpR X lP r/\OkOp X.K r g
theorem c_lt:QcS X .Lt ltD:=⟨_,QtA,QtJ⟩
theorem c_le:QcS X .LtE leD:=⟨_,QtB,QtK⟩
theorem c_gt:QcS X .Gt gtD:=⟨_,QtC,QtL⟩
theorem c_ge:QcS X .GtE geD:=⟨_,QtD,QtM⟩
theorem Qeu:QcS X .Is isND:=⟨_,Qq5,Qrw⟩
theorem QfF:QcS X .IsNot Qd6:=⟨_,QoN,Qpl⟩
theorem Qe5 {op:CmpOp}{g:G2}(hc:QcS X op g)(ha:VE X F0 H0 Ψ a f1)(hb:VE X F0 H0 Ψ b f2)(hm:behindInMarks op b=false:=by first|exact Qoh _|rfl):VE X F0 H0 Ψ (.Compare a [op] [b] pos) (eOp g f1 f2):=let ⟨_,ho,hg⟩:=hc;(QoO ho ha hb hm).mono fun _ _ _ h=>Qix hg h
theorem Qk {op:CmpOp}{g:G2}(hc:QcS X op g)(ha:VE X F0 H0 Ψ a f1)(hb:VE X F0 H0 Ψ b f2)(hm:behindInMarks op b=false:=by first|exact Qoh _|rfl):VT X F0 H0 Ψ kJ (eOp g f1 f2):=
 let ⟨_,ho,hg⟩:=hc;(QoP ho ha hb hm).mono fun σ H Q h=>by
  obtain⟨F,ev,fi,m⟩:=h
  exact Qix (K:=X.K) (F0:=F0) (H0:=H0) (Ψ:=Ψ) (f1:=f1) (f2:=f2) hg (Q:=fun x H'=>∃k,x= .bl k/\Q k H') (by
   refine⟨F,ev,fi,?_⟩
   show match eOp g f1 f2 ev with
    | .ok k d=>∀F' v H',Post X.K F H k d F' v H'->∃k,v= .bl k/\Q k H'
    | .ex C=>∀F' H',Step F0 H0 F' H'->Ψ C H'
    | .no=>False
   cases q:eOp g f1 f2 ev with
   |no=>rw[q]at m;exact m
   |ex C=>rw[q]at m;exact m
   |ok k d=>
    rw[q]at m
    intro F' v H' p
    cases d with
    |bl b=>exact⟨b,p.val.rd.bl,m F' H' p.st⟩
    |_=>exact m.elim)
theorem QaK (h:VE X F0 H0 Ψ e f)(he:∀whole,isTrue e X.env whole=(do let v←whole;standAt e.pos;holding [v] mx):=by intro _;rfl):VT X F0 H0 Ψ e f:=(QqL h he).mono fun _ _ _ q=>QtI q
theorem Qcg (h:VT X F0 H0 Ψ a f):VW X F0 H0 Ψ tS f:=QoK h
theorem Qa0 (h:VT X F0 H0 Ψ a f):VW X F0 H0 Ψ uj f:=QqM h
theorem Qd7 {rest:List Expr}(ha:VT X F0 H0 Ψ a f1)(hb:VW X F0 H0 Ψ fR f2):VW X F0 H0 Ψ (.BoolOp .And (a::b::rest) pos) (eAnd f1 f2):=(QqN ha hb).mono fun _ _ _ q=>Qo5 q
theorem QaY {rest:List Expr}(ha:VT X F0 H0 Ψ a f1)(hb:VW X F0 H0 Ψ qV f2):VW X F0 H0 Ψ (.BoolOp .Or (a::b::rest) pos) (eOr f1 f2):=(Qtx ha hb).mono fun _ _ _ q=>Qrn q
theorem vt_w (h:VW X F0 H0 Ψ e f):VT X F0 H0 Ψ e f:=PW.pt h
theorem QaL (h:VT X F0 H0 Ψ a f):VT X F0 H0 Ψ h9 (eNot f):=(QqO h).mono fun _ _ _ q=>Qo6 q
theorem Qjx {op}(h:VE X F0 H0 Ψ a f):VE X F0 H0 Ψ u8 f:=QqR h
theorem Qiz {rest:List Expr}(ha:VE X F0 H0 Ψ a f1)(hb:VE X F0 H0 Ψ fR f2):VE X F0 H0 Ψ (.BoolOp .And (a::b::rest) pos) (eAnd f1 f2):=(QqS ha hb).mono fun _ _ _ q=>Qnc q
theorem QtN (h:VE X F0 H0 Ψ a f):VE X F0 H0 Ψ h9 (eNot f):=(QqT h).mono fun _ _ _ q=>Qnd q
theorem v_if (hc:VT X F0 H0 Ψ c f1)(ha:VE X F0 H0 Ψ a f2)(hb:VE X F0 H0 Ψ b f3):VE X F0 H0 Ψ u6 (eIf f1 f2 f3):=(QmT hc ha hb).mono fun _ _ _ q=>Qro q
theorem Qe:VA X F0 H0 Ψ [] aNil:=pa_nil.mono fun _ _ _ q=>Qo7 q
theorem Qa (ha:VE X F0 H0 Ψ e f)(hr:VA X F0 H0 Ψ es fs)(hs:starEach bd X.env=(false,eval e X.env)::starEach es X.env:=by rfl):VA X F0 H0 Ψ bd (Qc f fs):=(QbV ha hr hs).mono fun _ _ _ q=>Qne q
theorem QX {x1}(h:VA X F0 H0 Ψ es fs):VE X F0 H0 Ψ u5 (eTup fs):=(Qra h).mono fun _ _ _ q=>Qo8 q
theorem QcK (h:VA X F0 H0 Ψ es fs):VE X F0 H0 Ψ (.List es pos) (eLst fs):=(Qrb h).mono fun _ _ _ q=>Qo9 q
theorem Qhw {x:Str}{p:Pos}{id:String}{r:List V->Hp->VK->Prop}{g:GN}(hc:Qfw X eZ r)(hg:QeU X.K r g)(hm:X.mg x=none)(hv:bootBuiltins x=some eZ)(ha:VA X F0 H0 Ψ bd fs)(hgl:Gl X x:=by rfl)
  (hn:x≠"__name__":=by decide) (hdb:aJ=false:=by decide)
  (he:starEach bd X.env=(false,eval e X.env)::starEach es X.env:=by rfl) (hpl:(backTo pos aZ).any (·.1)=false:=by rfl):VE X F0 H0 Ψ dL (Q5 g fs):=(Qhs hc hgl hm hv ha hn hdb he hpl).mono fun _ _ _ q=>Qol hg q
theorem Qpp {x:Str}{p:Pos}{T:String}{r:List V->Hp->VK->Prop}{g:GN}(hc:Qfw X jh r)(hg:QeU X.K r g)(hm:X.mg x=none)(hv:bootBuiltins x=some jh)(ha:VA X F0 H0 Ψ bd fs)(hgl:Gl X x:=by rfl)
  (hn:x≠"__name__":=by decide) (hdb:aJ=false:=by decide)
  (he:starEach bd X.env=(false,eval e X.env)::starEach es X.env:=by rfl) (hpl:(backTo pos aZ).any (·.1)=false:=by rfl):VE X F0 H0 Ψ dL (Q5 g fs):=(QlE hc hgl hm hv ha hn hdb he hpl).mono fun _ _ _ q=>Qol hg q
theorem Qrx {p:Pos}(hm:X.mg "len"=none)(ha:VA X F0 H0 Ψ [e] fs)(hgl:Gl X "len":=by rfl)(he:starEach [e] X.env=(false,eval e X.env)::starEach [] X.env:=by rfl):VE X F0 H0 Ψ oY (Q5 lenL fs):=Qhw Qir Qpm hm PySem.boot_len ha hgl ah ah he
theorem QiA {p:Pos}(hm:X.mg "list"=none)(ha:VA X F0 H0 Ψ [e] fs)(hgl:Gl X "list":=by rfl)(he:starEach [e] X.env=(false,eval e X.env)::starEach [] X.env:=by rfl):VE X F0 H0 Ψ (.Call (.Name "list" p) [e] [] pos) (Q5 Qhv fs):=Qpp Qis Qpo hm (by rfl) ha hgl ah ah he
variable {st:Stmt}{rest body orelse:List Stmt}{g h:Ev->Fl}
theorem Qu:VSs X F0 H0 Ψ [] .nx:=pss_nil.mono fun _ _ _ q=>Qng q
theorem Qf (h1:VS X F0 H0 Ψ st g)(h2:VSs X F0 H0 Ψ rest h):VSs X F0 H0 Ψ (st::rest) (seqG g h):=(QM h1 h2).mono fun _ _ _ q=>Qpa q
theorem Qi (h1:VS X F0 H0 Ψ st g):VSs X F0 H0 Ψ [st] g:=Qby h1
theorem QfG:VS X F0 H0 Ψ (.Continue pos) .ct:=ps_continue.mono fun _ _ _ q=>Qnh q
theorem Qn (he:VE X F0 H0 Ψ e f):VS X F0 H0 Ψ (.Return sI pos) (retG f):=(Qj3 he).mono fun _ _ _ q=>Qpb q
theorem Qhx (i:Nat){x:Str}{p:Pos}(hN:X.N[i]?=some x:=by rfl)(hv:Vis X.env.scope x:=by first|exact Or.inl rfl|exact Or.inr fE|exact Or.inr fC)(hd:aJ=false:=by decide)
  (hcd:(x==("__classdict__":Str))=false:=by decide):VS X F0 H0 Ψ (.Return (some bz) pos) (QcR i):=(Qj3 fA).mono fun _ _ _ q=>Qk1 q
theorem QK (hc:VT X F0 H0 Ψ c f)(ha:VSs X F0 H0 Ψ body g)(hb:VSs X F0 H0 Ψ orelse h):VS X F0 H0 Ψ (.If c body orelse pos) (ifG f g h):=(Qjq hc ha hb).mono fun _ _ _ q=>Qpc q
theorem Qm (i:Nat){x:Str}{pos':Pos}(hN:X.N.Nodup)(he:VE X F0 H0 Ψ e f)(hi:X.N[i]?=some x:=by rfl)(hx:Loc X.env.scope x:=by first|exact Or.inl rfl|exact Or.inr rfl)(hs:swapsWith e (some lZ) pos.line X.env=pure false:=by rfl)
  (hf:X.fn x=true\/X.env.scope.names.lookup x=some .local:=by first|exact .inl rfl|exact .inr rfl):VS X F0 H0 Ψ (.Assign [.Name x pos'] e pos) (setG i f):=(Qof hN hi hx he hs hf).mono fun _ _ _ q=>QlT q
def VG (X:Cx)(F0 H0:Hp)(t:Expr)(b:B1):Prop:=PG X t (gV X.K F0 H0 b)
def VGs (X:Cx)(F0 H0:Hp)(ts:List Expr)(b:BN):Prop:=PGs X ts (gVs X.K F0 H0 b)
theorem Qr (i:Nat){x:Str}(hN:X.N.Nodup)(hi:X.N[i]?=some x:=by rfl)(hx:Loc X.env.scope x:=by first|exact Or.inl rfl|exact Or.inr rfl)
  (hf:X.fn x=true\/X.env.scope.names.lookup x=some .local:=by first|exact .inl rfl|exact .inr rfl):VG X F0 H0 (.Name x pos) (QC i):=(Qjr hN hi hx hf).mono fun _ _ _ _ q=>Qni q
theorem QgW:VGs X F0 H0 [] bNil:=pgs_nil.mono fun _ _ _ _ q=>Qpd q
theorem QY {t:Expr}{ts:List Expr}{b1:B1}{bn:BN}(h1:VG X F0 H0 t b1)(h2:VGs X F0 H0 ts bn)(hs:(assignEach (t::ts) X.env).map (·.2)=assign t X.env::(assignEach ts X.env).map (·.2):=by rfl):VGs X F0 H0 (t::ts) (Qbz b1 bn):=(QmU h1 h2 hs).mono fun _ _ _ _ q=>Qnj q
theorem QgX {ts:List Expr}{k n:Nat}{bn:BN}(hc:X.calm=true)(h:VGs X F0 H0 ts bn)(hn:(assignEach ts X.env).length=n:=by rfl)(hst:(assignEach ts X.env).findIdx? (·.1)=none:=by rfl):VG X F0 H0 (.Tuple ts k pos) (bTup n bn):=(QqW hc h hn hst).mono fun _ _ _ _ q=>Qpe q
variable {tg iter:Expr}{fi:Ev->RI}
theorem QZ (h:VE X F0 H0 Ψ e f):VI X F0 H0 Ψ tg e (iLst f):=(Qlu h).mono fun _ _ _ q=>Qnk q
theorem Qom (h:VE X F0 H0 Ψ e f):VI X F0 H0 Ψ tg e (Qnn f):=(QqZ h).mono fun _ _ _ q=>Qpg q
theorem QaM {b1:B1}(hp:PassesOwn am X.A X.env X.xe)(hc:X.calm=true)(hi:VI X F0 H0 Ψ tg iter fi)(hg:VG X F0 H0 tg b1)(hb:VSs X F0 H0 Ψ body g)(hs:∀x,foldedSetIterable iter X.env x=pure x:=by intro _;rfl):
  VS X F0 H0 Ψ qa (forG fi b1 g):=(Qlx hp hc hi hg hb hs).mono fun _ _ _ q=>Qpf q
theorem Qj7 (n:Nat)(hp:PassesOwn am X.A X.env X.xe)(hc:VT X F0 H0 Ψ c f)(hb:VSs X F0 H0 Ψ body g):VS X F0 H0 Ψ su (whlE f g n):=(QmV hp hc hb).mono fun _ _ _ q=>QlU q
theorem QJ (i:Nat){sts:List Stmt}(h:VSs X F0 H0 Ψ sts g):VSs X F0 H0 Ψ sts (frzG i g):=h.mono fun E σ H q=>by
 obtain⟨F,ev,fi,m⟩:=q
 obtain⟨F',s,fi'⟩:=fi.frz i
 exact⟨F',Qk2 i ev,fi',FlowTo.mono m s⟩
end
end L3
namespace L3
open PySem L2
section
variable {X:Cx}{K:PySem.W.Frag}{F0 H0 F H F' H':Hp}{Ψ:Psi}{σ:St}{ev:Ev}
theorem FI.ow {i:Nat}{ds:List D}(fi:FI K F0 H0 F H ev σ)(e:ev[i]?=some iF):∃a vs,σ[i]?=some je/\H a=some jj/\Reps K F ds vs:=by
 obtain⟨_,v,e1,a,rfl,h1,h2,vs,h3,h4⟩:=fi.at_ i _ _ e
 exact⟨a,vs,e1,h3,h4⟩
theorem Qpq {i:Nat}{f:Ev->R}{E:Ends}(q:tSv K F0 H0 Ψ (appG i f) E σ H):Qls (tBM K "list" Qju gk (QkX bH tNil)) E σ H:=by
 obtain⟨F,ev,fi,m⟩:=q
 unfold appG at m
 split at m
 .rename_i ds e
  obtain⟨a,vs,e1,h1,h2⟩:=fi.ow e
  refine⟨.ref a,e1, .inl ⟨rfl,vs,SqL.of h1⟩,F,ev,fi,?_⟩
  cases h3:f ev with
  |no=>rw[h3]at m;exact m
  |ex C=>rw[h3]at m;exact m
  |ok k d=>
   rw[h3]at m
   intro F1 y H1 p
   have go:∀F2,Post K F H .fz d F2 y H1->FlowTo K F0 H0 Ψ F E (if ds.length<LIM then .nx cK else .no)->Qju bv [y] H1 fun _ H1=>E.nx σ H1:=fun F2 p2 m=>by
    by_cases hl:ds.length<LIM
    .rw[if_pos hl]at m
     refine⟨a,vs,y,rfl,rfl,p2.st.keep _ _ h1,by rw[←h2.length];exact Nat.lt_of_lt_of_le hl QS,?_⟩
     exact m F2 _ σ p2.st.up ((fi.later p2.st).mut e e1 fun H2 z=>⟨_,z,(h2.mono p2.st.up).app (.cons p2.val .nil)⟩)
    .rw[if_neg hl]at m;exact m.elim
   cases k with
   |bo=>exact m.elim
   |fz=>exact go F1 p m
   |ow=>obtain⟨F2,p2⟩:=p.frz;exact go F2 p2 m
 .exact m.elim
theorem Qk5 {i:Nat}{f v:Ev->R}{E:Ends}(q:tSv K F0 H0 Ψ (Qno i f v) E σ H):tAsg (tV K F0 H0 Ψ v) (gSub gk bH QoZ) E σ H:=by
 obtain⟨F,ev,fi,m⟩:=q
 refine⟨F,ev,fi,?_⟩
 unfold Qno at m
 cases h3:v ev with
 |no=>rw[h3]at m;exact m
 |ex C=>rw[h3]at m;exact m
 |ok k d=>
  rw[h3]at m
  intro F1 y H1 p
  have go:∀F2,Post K F H .fz d F2 y H1->FlowTo K F0 H0 Ψ F E (match ev[i]? with
   |some (some (.ow, .lst ds))=>match f ev with
    | .ok _ (.int k)=>match ixN ds.length k with
     |some j=> .nx dw
     |none=> .no
    | .ex C=> .ex C
    |_=> .no
   |_=> .no)->gSub gk bH QoZ y σ H1 E.nx:=fun F2 p2 m=>by
   split at m
   .rename_i ds e
    obtain⟨a,vs,e1,h1,h2⟩:=fi.ow e
    refine⟨.ref a,e1,F2,ev,fi.later p2.st,?_⟩
    cases h4:f ev with
    |no=>rw[h4]at m;exact m
    |ex C=>rw[h4]at m;exact m
    |ok k' d'=>
     rw[h4]at m
     intro F3 z H3 p3
     cases d' with
     |int n=>
      dsimp only at m
      cases h5:ixN ds.length n with
      |none=>rw[h5]at m;exact m.elim
      |some j=>
       rw[h5]at m
       have st:=p2.st.trans p3.st
       refine⟨a,vs,n,j,rfl,p3.val.rd.int,st.keep _ _ h1,by rw[←h2.length];exact h5,?_⟩
       exact m F3 _ σ st.up ((fi.later st).mut e e1 fun H2 z=>⟨_,z,(h2.mono st.up).set lI j⟩)
     |_=>exact m.elim
   .exact m.elim
  cases k with
  |bo=>exact m.elim
  |fz=>exact go F1 p m
  |ow=>obtain⟨F2,p2⟩:=p.frz;exact go F2 p2 m
variable {e i':Expr}{f v:Ev->R}{x:Str}{p apos cpos pos:Pos}
theorem Qj8 (i:Nat)(he:VE X F0 H0 Ψ e f)(hN:X.N[i]?=some x:=by rfl)(hv:Vis X.env.scope x:=by first|exact Or.inl rfl|exact Or.inr fE|exact Or.inr fC)(hd:aJ=false:=by decide)
  (hcd:(x==("__classdict__":Str))=false:=by decide) (hbase:attributeBase bz "append" X.env oq=eval bz X.env:=by rfl)
  (hfew:((backTo cpos ut).all (fun x=> !x.1)&&(backToKw cpos dh).all (fun x=>x.1.isSome)
   &&decide ([e].length+([]:List Keyword).length+(if([]:List Keyword).isEmpty then 0 else 1)<30))=true:=by rfl)
  (hline:dz=true:=by rfl) (hs:starEach [e] X.env=(false,eval e X.env)::starEach [] X.env:=by rfl) (hplain:(backTo cpos iW).any (·.1)=false:=by rfl)
  (hsw:swapsWith k9 none pos.line X.env=pure false:=by rfl):
  VS X F0 H0 Ψ (.Expr k9 pos) (appG i f):=
 (Qhq (Qo0 PySem.F.plainAttrs_list PySem.F.slot_list_append PySem.F.type_list_append Qiu fA uN hbase hfew hline hs hplain) hsw).mono fun _ _ _ q=>Qpq q
end
def spV0 (K:PySem.W.Frag)(φ:List D->R)(n:Nat):Sp:=fun vs H Q _=>∃F ds,Same F H/\Reps K F ds vs/\ds.length=n/\match φ ds with
 | .ok k d=>k≠ .bo/\∀F' v H',Post K F H k d F' v H'->Q v H'
 |_=>False
abbrev Psi0:Psi:=fun _ _=>False
structure Callee (P:Program)(w:World)(K:PySem.W.Frag)(mg:Str->Option Value)(base:Heap)(k:Nat)(x:Str)(n:Nat)(φ:List D->R):Prop where
 ex:∃f fd ps,FnOk P w K mg base CX0 k f fd ps eX/\Binds K fd ps []/\mg x=some ca/\PySem.W.keepIn K ca=true
section
variable {X:Cx}{F0 H0:Hp}{Ψ:Psi}{k n:Nat}{x:Str}{φ:List D->R}{p pos:Pos}{e:Expr}{es:List Expr}{fs:Ev->RA}
theorem Qj9 {K:PySem.W.Frag}{F F' H:Hp}{d:D}{v:V}(s:Qjw d=true)(h:RdV K F H d v):Rep K F' d v:=by
 cases d<;>first|cases s|skip
 .rw[Rep];exact h.non
 .rw[Rep];exact h.bl
 .rw[Rep];exact h.int
 .rw[Rep];exact h.str
theorem v_fn (C:Callee X.prog X.w X.K X.mg X.base k x n φ)(hr:Room k X.A)(ha:VA X F0 H0 Ψ bd fs)(hg:Gl X x:=by rfl)(hdb:aJ=false:=by decide)
  (he:starEach bd X.env=(false,eval e X.env)::starEach es X.env:=by rfl) (hpl:(backTo pos aZ).any (·.1)=false:=by rfl):
  VE X F0 H0 Ψ dL (eFn n φ fs):=by
 obtain⟨f,fd,ps,Fk,hb,hm,hk⟩:=C.ex
 refine(QlC (E:=E0) (dvs:= []) (ds:= []) Fk hr hg hm hk hb .nil Qnb ha hdb he hpl).mono fun σ H Q h=>?_
 obtain⟨F,ev,fi,m⟩:=h
 refine⟨F,ev,fi,?_⟩
 unfold eFn at m
 cases h1:fs ev with
 |no=>rw[h1]at m;exact m
 |ex C=>rw[h1]at m;exact m
 |ok l=>
  rw[h1]at m
  intro F1 vs H1 s va
  rw[List.append_nil]
  simp only[fnR]at m
  by_cases hn:l.length=n
  .rw[if_pos hn]at m
   cases h2:Qbf l with
   |some ds=>
    rw[h2]at m
    dsimp only at m
    have rs:=va.fz h2
    refine⟨F1,ds,s.sub,rs,by rw[rs.length,←va.length];exact hn,?_⟩
    cases h3:φ ds with
    |no=>rw[h3]at m;exact m
    |ex C=>rw[h3]at m;exact m
    |ok k' d=>
     rw[h3]at m
     cases k' with
     |bo=>exact m.elim
     |fz=>exact⟨by simp,fun F' v H' p=>m F' v H' ⟨s.trans p.st,p.val.early s.keep⟩⟩
     |ow=>exact⟨by simp,fun F' v H' p=>m F' v H' ⟨s.trans p.st,p.val.early s.keep⟩⟩
   |none=>
    rw[h2]at m
    dsimp only at m
    have rs:=va.rds s.sub
    refine⟨H1,l.map (·.2), .refl _,rs,by simpa using hn,?_⟩
    cases h3:φ (l.map (·.2))with
    |no=>rw[h3]at m;exact m
    |ex C=>rw[h3]at m;exact m
    |ok k' d=>
     rw[h3]at m
     have go:k'≠ .bo->(match (if Qjw d=true then R.ok .fz d else .no)with
      | .ok k d=>∀F' v H',Post X.K F H k d F' v H'->Q v H'
      | .ex C=>∀F' H',Step F0 H0 F' H'->Ψ C H'
      | .no=>False)->k'≠ .bo/\∀F' v H',Post X.K H1 H1 k' d F' v H'->Q v H':=fun nb m=>by
      by_cases hs:Qjw d=true
      .rw[if_pos hs]at m
       exact⟨nb,fun F' v H' p=>m F1 v H' ⟨s.trans ⟨.refl _,s.sub.trans p.st.keep,p.st.keep,fun a o e=> .inl e⟩,Qj9 hs p.val.rd⟩⟩
      .rw[if_neg hs]at m;exact m.elim
     cases k' with
     |bo=>exact m.elim
     |fz=>exact go al m
     |ow=>exact go al m
  .rw[if_neg hn]at m;exact m.elim
end
section
variable {P:Program}{w:World}{K:PySem.W.Frag}{mg:Str->Option Value}{base:Heap}
theorem FI.start {F H:Hp}{N:List Str}{ds:List D}{vs:List V}(s:Same F H)(r:Reps K F ds vs):FI K F H F H (ev0 (N.length-ds.length) ds) gQ:=by
 refine⟨.refl s,fun i k d e=>?_,fun i j d e hij e1 e2=>?_,?_⟩
 .unfold ev0 at e
  by_cases hi:i<ds.length
  .rw[List.getElem?_append_left (by simpa using hi),List.getElem?_map]at e
   cases q:ds[i]? with
   |none=>rw[q]at e;cases e
   |some z=>
    rw[q]at e;cases e
    obtain⟨v,e1,rv⟩:=r.get q
    refine⟨by simp,v,?_,rv⟩
    unfold L2.start
    rw[List.getElem?_append_left (by rw[List.length_map,←r.length];exact hi),List.getElem?_map,e1]
    rfl
  .rw[List.getElem?_append_right (by simpa using hi),List.getElem?_replicate]at e
   split at e<;>cases e
 .exfalso
  unfold ev0 at e1
  by_cases hi:i<ds.length
  .rw[List.getElem?_append_left (by simpa using hi),List.getElem?_map]at e1
   cases q:ds[i]? with
   |none=>rw[q]at e1;cases e1
   |some z=>rw[q]at e1;cases e1
  .rw[List.getElem?_append_right (by simpa using hi),List.getElem?_replicate]at e1
   split at e1<;>cases e1
 .unfold ev0 L2.start
  simp only[List.length_append,List.length_map,List.length_replicate,r.length]
theorem Qaf {x qual:Str}{st:Stmt}{f:Addr}{fd:FuncData}{N ps:List Str}{k:Nat}{g:Ev->Fl}(F:Fun K x qual st f fd)(S:FnScope N ps dP)
  (hb:∀(cdv:Value) (A:Around) (outer:List Env) (s:Shared) (H:Hp) (E:XK) (F0:Hp),Room k bU->
   VSs (cxOf CX0 P w K mg base N qual dP f cdv A outer s H E).nox F0 H Psi0 fP g):
  FnOk P w K mg base CX0 (k+1) f fd ps (spV0 K (runF mo g) ps.length):=by
 refine F.ok S (fun vs H Q E h=>?_) (fun cdv A outer s H vs Q E hr h=>?_)
 .obtain⟨F,ds,_,r,hl,_⟩:=h
  rw[←r.length];exact hl
 .obtain⟨F,ds,sub,r,hl,m⟩:=h
  refine⟨_,hb cdv A outer s H E F hr,F,ev0 mo ds,by rw[←hl];exact .start sub r,?_⟩
  unfold runF at m
  cases q:g (ev0 mo ds)with
  |nx ev=>rw[q]at m;exact fun F' H' σ' _ fi=>m.2 F' .non H' ⟨fi.st,by rw[Val,Rep]⟩
  |rt k d=>
   rw[q]at m
   cases k with
   |bo=>exact m.elim
   |fz=>exact m.2
   |ow=>exact m.2
  |bk ev=>rw[q]at m;exact m.elim
  |ct ev=>rw[q]at m;exact m.elim
  |ex C=>rw[q]at m;exact m.elim
  |no=>rw[q]at m;exact m.elim
end
end L3
namespace L2
open PySem PySem.Spec PyProof.Rows
section
variable {prog:Program}{w:World}{A:Around}{R:Result->Shared->Prop}{s:Shared}
theorem QiB {elt target iter:Expr}{ifs:List Expr}{scope:Scope}{pos:Pos}{it acc:Value}{env:Env}(I:Nat->Shared->Prop)
  (turn:∀n s,I n s->wpAny aO A (pyNext it) (fun r s₁=>match r with
   |none=>R (.ok .next) s₁
   |some v=>wpAny aO A (letOwnedTupleGo target it v) (fun _ s₂=>wpAny aO A (assign target env v) (fun _ s₃=>
     wpAny aO A (forIn ifs true fun c r=>if r=true then do let ok←isTrue c env (eval c env);pure tz else pure ui) (fun ok s₄=>
      if ok=true then wpAny aO A (eval elt env) (fun x s₅=>
       wpAny aO A (call (.builtin "list.append") [acc,x]) (fun _ s₆=>∃m,m<n/\I m s₆) (fun _ _=>False) s₅) (fun _ _=>False) s₄
      else∃m,m<n/\I m s₄) (fun _ _=>False) s₃) (fun _ _=>False) s₂) (fun _ _=>False) s₁) (fun _ _=>False) s)
  (n:Nat) (h:I n s):codeAny aO A (.compLoop aE 0 it acc env) R s:=by
 refine codeAny_loop rfl I (fun n s hI=>?_) n h
 show wpAny _ A ((compTurn aE 0 it acc env).onRaise (fun x=>do noteFrame x env;theTreesLotGoes x)) _ _ s
 refine wpAny_noted ?_
 rw[compTurn_list]
 refine wpAny_bind (wpAny_standAt (wpAny_bind (wpAny_mono (turn n s hI) (fun r s₁ h₁=>?_) fun _ _ h'=>h'.elim)))
 cases r with
 |none=>exact wpAny_pure h₁
 |some v=>
  refine wpAny_bind (wpAny_mono h₁ (fun _ s₂ h₂=>?_) fun _ _ h'=>h'.elim)
  refine wpAny_bind (wpAny_mono h₂ (fun _ s₃ h₃=>wpAny_bind (wpAny_mono h₃ (fun ok s₄ h₄=>?_) fun _ _ h'=>h'.elim)) fun _ _ h'=>h'.elim)
  cases ok with
  |false=>exact wpAny_pure ⟨rfl,h₄⟩
  |true=>
   exact wpAny_bind (wpAny_bind (wpAny_mono h₄ (fun x s₅ h₅=>wpAny_bind (wpAny_mono h₅ (fun _ s₆ h₆=>wpAny_pure (wpAny_pure ⟨rfl,h₆⟩)) fun _ _ h'=>h'.elim)) fun _ _ h'=>h'.elim))
end
def PIfs (X:Cx)(ifs:List Expr)(t:TT):Prop:=
 ∀(pins:List aB) (s:Shared) (σ:St) (H:Hp) (Q:Bool->Hp->Prop),Inv X pins σ H s->t σ H Q->
  wpAny am X.A (forIn ifs true fun c r=>if r=true then do let ok←isTrue c X.env (eval c X.env);pure tz else pure ui) kx X.xe s
theorem Qnq {X:Cx}:PIfs X [] (fun _ H Q=>Q true H):=fun _ _ _ H _ I h=>wpAny_tests_nil ⟨H,I,h⟩
theorem Qnr {X:Cx}{c:Expr}{t:TT}(h:PT X c t):PIfs X [c] t:=fun pins s σ H Q I q=>wpAny_tests_one (h pins s σ H Q I q)
def QcT (env:Env):List eW->List iQ->List iQ
 | [],acc=>acc
 |(n,k)::r,acc=>QcT env r (if k== .free then(n,(env.cells.lookup n).getD 0)::acc else acc)
theorem Qd8 {env:Env}{x:Str}{c:Addr}:∀(l:List eW) (acc:List iQ),(QcT env l acc).lookup x=some c->
  (∃k,(x,k)∈l/\k= .free/\(env.cells.lookup x).getD 0=c)\/acc.lookup x=some c
 | [],acc,h=> .inr h
 |(n,k)::r,acc,h=>by
  rcases Qd8 r _ h with⟨k',h1,h2,h3⟩|h1
  .exact .inl ⟨k', .tail _ h1,h2,h3⟩
  .by_cases hk:m7=true
   .rw[if_pos hk,List.lookup_cons]at h1
    by_cases hx:(x==n)=true
    .simp only[hx]at h1
     have e:x=n:=by simpa using hx
     subst e
     exact .inl ⟨k, .head _,by simpa using hk,Option.some.inj h1⟩
    .simp only[hx]at h1;exact .inr h1
   .rw[if_neg hk]at h1;exact .inr h1
theorem Qev {env:Env}{x:Str}:∀(l:List eW) (acc:List iQ),(x,NameKind.free)∈l\/(acc.lookup x).isSome=true->∃c,(QcT env l acc).lookup x=some c
 | [],acc,h=>by
  rcases h with h|h
  .cases h
  .exact Option.isSome_iff_exists.mp h
 |(n,k)::r,acc,h=>by
  refine Qev r _ ?_
  rcases h with h|h
  .rcases List.mem_cons.mp h with e|h
   .cases e
    right
    simp[List.lookup_cons]
   .exact .inl h
  .right
   by_cases hk:m7=true
   .rw[if_pos hk,List.lookup_cons]
    by_cases hx:(x==n)=true
    .simp[hx]
    .simp only[hx];exact h
   .rw[if_neg hk];exact h
theorem Qhy {scope:Scope}{env:Env}(h:∀y∈scope.names,y.2= .free->∃c,env.cells.lookup y.1=some c):closureFor scope env=pure (QcT env scope.names []):=by
 have key:∀(l:List eW) (acc:List iQ),(∀y∈l,y.2= .free->∃c,env.cells.lookup y.1=some c)->
   (forIn l acc fun(x:Str×NameKind) (cs:List iQ)=>(match x with|(name,kind)=>if(kind==NameKind.free)=true then(do let c←cellOf env name;pure (ForInStep.yield ((name,c)::cs)))else pure (ForInStep.yield cs):Sem (ForInStep (List iQ))))=pure (QcT env l acc):=by
  intro l
  induction l with
  |nil=>intro acc _;rfl
  |cons x r ih=>
   intro acc hl
   obtain⟨n,k⟩:=x
   rw[List.forIn_cons]
   by_cases hk:m7=true
   .obtain⟨c,hc⟩:=hl (n,k) (.head _) (by simpa using hk)
    have e:cellOf env n=pure c:=by unfold cellOf;rw[hc]
    simp only[hk,if_true,e,pure_bind,QcT]
    rw[ih _ fun y hy=>hl y (.tail _ hy)]
    dsimp only at hc
    rw[hc]
    rfl
   .simp only[hk,Bool.false_eq_true,if_false,pure_bind,QcT]
    exact ih _ fun y hy=>hl y (.tail _ hy)
 unfold closureFor
 have:=key scope.names [] h
 exact(congrArg (fun m=>m>>=fun cs=>pure cs) this).trans rfl
theorem QbW {env:Env}{x:Str}:∀{names:List eW} {k:NameKind},(names.map fun(n,k)=>if(k==NameKind.free&&env.scope.kind== .function&&env.kindOf n==some .cell)then(n,NameKind.cell)else(n,k)).lookup x=some k->
  names.lookup x=some k\/(k= .cell/\names.lookup x=some .free)
 | [],_,h=>by simp at h
 |(n,k0)::r,k,h=>by
  have ih:= @QbW env x r k
  rw[List.map_cons]at h
  by_cases hx:(x==n)=true
  .by_cases hc:(k0==NameKind.free&&env.scope.kind== .function&&env.kindOf n==some .cell)=true
   .simp only[hc,if_true,List.lookup_cons,hx]at h
    have hf:k0= .free:=by simp at hc;exact hc.1.1
    exact .inr ⟨(Option.some.inj h).symm,by simp[List.lookup_cons,hx,hf]⟩
   .simp only[hc,if_false,List.lookup_cons,hx]at h
    exact .inl (by simpa[List.lookup_cons,hx]using h)
  .by_cases hc:(k0==NameKind.free&&env.scope.kind== .function&&env.kindOf n==some .cell)=true
   .rw[show(match ((n,k0):Str×NameKind)with|(n,k)=>if(k==NameKind.free&&env.scope.kind== .function&&env.kindOf n==some .cell)=true then(n,NameKind.cell)else(n,k))=(n, .cell)from if_pos hc]at h
    rw[List.lookup_cons]at h
    simp only[hx]at h
    simpa[List.lookup_cons,hx]using ih h
   .rw[show(match ((n,k0):Str×NameKind)with|(n,k)=>if(k==NameKind.free&&env.scope.kind== .function&&env.kindOf n==some .cell)=true then(n,NameKind.cell)else(n,k))=(n,k0)from if_neg hc]at h
    rw[List.lookup_cons]at h
    simp only[hx]at h
    simpa[List.lookup_cons,hx]using ih h
theorem QeW {env:Env}{x:Str}:∀{names:List eW},names.lookup x=some .free->
  (names.map fun(n,k)=>if(k==NameKind.free&&env.scope.kind== .function&&env.kindOf n==some .cell)then(n,NameKind.cell)else(n,k)).lookup x=some .cell\/
  (names.map fun(n,k)=>if(k==NameKind.free&&env.scope.kind== .function&&env.kindOf n==some .cell)then(n,NameKind.cell)else(n,k)).lookup x=some .free
 | [],h=>by simp at h
 |(n,k0)::r,h=>by
  have ih:= @QeW env x r
  rw[List.map_cons,List.lookup_cons]at *
  by_cases hx:(x==n)=true
  .simp only[hx]at h
   cases h
   by_cases hc:(NameKind.free==NameKind.free&&env.scope.kind== .function&&env.kindOf n==some .cell)=true
   .left;simp only[if_pos hc,hx]
   .right;simp only[if_neg hc,hx]
  .simp only[hx]at h
   by_cases hc:(k0==NameKind.free&&env.scope.kind== .function&&env.kindOf n==some .cell)=true
   .simp only[if_pos hc,hx];exact ih h
   .simp only[if_neg hc,hx];exact ih h
def cxC (X:Cx)(N':List Str)(scope:Scope)(C:Addr)(s:Shared)(H:Hp)(fp:List Addr):Cx where
 prog:=X.prog
 w:=X.w
 K:=X.K
 mg:=X.mg
 base:=X.base
 A:=X.A
 N:=N'
 s₀:=s
 H₀:=H
 env:=compEnvC scope pZ C X.env
 outer:=X.stack
 stack:=X.stack
 ex:=fp
 fn:=fun _=>false
 calm:=X.calm
 pn:= []
 xe:=fun _ _=>False
def capS (cap:List aC)(σ:St):St:=cap.map fun o=>o.bind fun j=>(σ[j]?).join
structure CompScope (X:Cx)(N':List Str)(cap:List (Option Nat))(scope:Scope):Prop where
 kind:scope.kind= .function
 nocell:∀y∈scope.names,y.2≠ .cell
 names:∀y∈scope.names,y.2= .local->scope.names.lookup y.1=some .local
 fr:∀y∈scope.names,y.2= .free->X.env.kindOf y.1=some .cell\/X.env.kindOf y.1=some .free
 len:cap.length=N'.length
 cap:∀(i j:Nat),cap[i]?=some (some j)->∃x,N'[i]?=some x/\X.N[j]?=some x/\scope.names.lookup x=some .free
section
variable {X:Cx}{pins:List (Addr×Obj)}{σ:St}{H:Hp}{s:Shared}{N':List Str}{cap:List (Option Nat)}{scope:Scope}{fp:List Addr}
theorem Qap {x:Str}{k:NameKind}{l:List eW}(h:l.lookup x=some k):(x,k)∈l:=PySem.mem_of_lookup h
theorem CompScope.cells (S:CompScope X N' cap scope)(ok:X.Ok):∀y∈scope.names,y.2= .free->∃c,X.env.cells.lookup y.1=some c:=fun y hy hf=>ok.has y.1 (S.fr y hy hf)
theorem CompScope.cl (S:CompScope X N' cap scope)(ok:X.Ok){x:Str}{c:Addr}(h:(QcT X.env scope.names []).lookup x=some c):X.env.cells.lookup x=some c:=by
 rcases Qd8 _ _ h with⟨k,h1,h2,h3⟩|h1
 .subst h2
  obtain⟨c',e⟩:=S.cells ok (x, .free) h1 rfl
  rw[e]at h3
  rw[e];exact congrArg some h3
 .simp at h1
theorem CompScope.inv (S:CompScope X N' cap scope)(I:Inv X pins σ H s)(hfp:∀b∈fp,FpOk X pins H b){h':Heap}{t':Nat}(hk:∀b o,s.heap.get? b=some o->h'.get? b=some o)(hn:h'.Ns s.heap.objs.size fun _=>none)(hfs:∀b∈fp,b<s.heap.objs.size):
  Inv (cxC X N' scope s.heap.objs.size s H fp) [] qg H {s with heap:=h',toks:=t'}:=by
 have scl:∀{x:Str} {c:Addr},(QcT X.env scope.names []).lookup x=some c->X.env.cells.lookup x=some c:=fun h=>S.cl I.ok h
 refine⟨⟨I.ok.mod,by simpa[cxC,compEnvC,relabel]using S.kind,I.ok.glob,I.ok.blt,Nat.le_refl _,fun x y c h1 h2=>I.ok.inj x y c (scl h1) (scl h2),fun x hx=>?_,fun x c hf h=>?_,I.ok.hd,I.ok.frames, .inl rfl,fun b hb=>⟨Nat.ne_of_lt (hfs b hb),fun x c h=>(hfp b hb).2.2.2.2.1 x c (scl h)⟩,
  I.bs,Nat.le_trans I.ok.bsz I.sz,fun b o e hb=>?_,fun b hb hf=>?_,I.stack,I.stkFree⟩,rfl,I.bare,Un.kept hk,⟨_,hn,fun i x v e1 e2 e3=>?_⟩,fun x c h=>?_,I.hok.fresh aw,fun x c h=>I.freeC x c (scl h),fun p hp=>absurd (show p∈([]:List aB)from hp) al,I.hok.kept hk,?_⟩
 ·
  have hx:(scope.names.map fun(n,k)=>if(k==NameKind.free&&X.env.scope.kind== .function&&X.env.kindOf n==some .cell)then(n,NameKind.cell)else(n,k)).lookup x=some .cell\/(scope.names.map fun(n,k)=>if(k==NameKind.free&&X.env.scope.kind== .function&&X.env.kindOf n==some .cell)then(n,NameKind.cell)else(n,k)).lookup x=some .free:=hx
  have:(x,NameKind.free)∈scope.names:=by
   rcases hx with hx|hx
   .rcases QbW hx with q|⟨_,q⟩
    .exact absurd rfl (S.nocell _ (Qap q))
    .exact Qap q
   .rcases QbW hx with q|⟨q,_⟩
    .exact Qap q
    .cases q
  exact Qev _ _ (.inl this)
 .exact absurd (show false=true from hf) ah
 ·
  have hb':=hfp b hb
  rcases hb'.2.2.2.1 with z|z
  .exact I.ok.noex b o e z
  .exact absurd (Nat.lt_of_lt_of_le (Heap.lt_size (I.ok.bs b o e).1) z) eS
 ·
  rcases List.mem_cons.mp (I.stkSub b hf)with e|e
  .exact(hfp b hb).2.1 e
  .exact(hfp b hb).2.2.1 e
 ·
  obtain⟨j,hj,hv⟩:∃j,cap[i]?=some (some j)/\σ[j]?=some dm:=by
   unfold capS at e2
   rw[List.getElem?_map]at e2
   cases q:cap[i]? with
   |none=>rw[q]at e2;cases e2
   |some o=>
    rw[q]at e2
    cases o with
    |none=>cases e2
    |some j=>
     refine⟨j,rfl,?_⟩
     have e2:(σ[j]?).join=some v:=Option.some.inj e2
     cases q2:σ[j]? with
     |none=>rw[q2]at e2;cases e2
     |some z=>rw[q2]at e2;rw[show z=some v from e2]
  obtain⟨y,g1,g2,g3⟩:=S.cap i j hj
  have exy:x=y:=Option.some.inj (e1.symm.trans g1)
  subst exy
  have hk2:=S.fr (x, .free) (Qap g3) rfl
  obtain⟨m,hm,hl⟩:=I.loc
  obtain⟨u,r,l⟩:=hl j x v g2 hv (hk2.elim (fun z=> .inr (.inl z)) fun z=> .inr (.inr z))
  refine⟨u,r, .inr ⟨QeW g3,?_⟩⟩
  rcases l with⟨z,_⟩|⟨_,c,e,q⟩
  .rcases hk2 with z'|z'<;>(rw[z]at z';cases z')
  .obtain⟨c',e'⟩:=Qev (env:=X.env) (x:=x) scope.names [] (.inl (Qap g3))
   have:=scl e'
   rw[e]at this
   cases this
   exact⟨c,e',q.keeps hk⟩
 .obtain⟨v,q⟩:=I.cell x c (scl h)
  exact⟨v,q.keeps hk⟩
 .show(capS cap σ).length=N'.length
  unfold capS;rw[List.length_map];exact S.len
end
end L2
namespace L2
open PySem PySem.Spec PyProof.Rows
def tLC (cap:List aC)(wi:TI)(g:TG)(tc:TT)(te:TE):TE:=fun σ H Q=>wi σ H fun J H1=>∀D,H1 D=none->∃W:Nat->Nat->List V->L2.St->Hp->Prop,
 (∃m,W 0 m [] qg (upd H1 D gO))/\∀i m ys σ' H',W i m ys σ' H'->H' D=some gM/\ys.length<sizeLine/\
  ((J.stop i H'/\Q lX H')\/(J.go i H'/\∀x H2,J.yld i H' x H2->g x σ' H2 fun σ3 H3=>tc σ3 H3 fun b H4=>
   if b=true then te σ3 H4 fun y H5=>H5 D=some gM/\∃m',m'<m/\W (i+1) m' (ys++ [y]) σ3 (upd H5 D (.lst (ys++ [y])))else∃m',m'<m/\W (i+1) m' ys σ3 H4))
section
variable {X:Cx}{pins:List (Addr×Obj)}{σ:L2.St}{H:Hp}{s:Shared}{N':List Str}{cap:List (Option Nat)}{scope:Scope}{elt target iter:Expr}{ifs:List Expr}{wi:TI}{g:TG}{tc:TT}{te:TE}{pos p0:Pos}
theorem Qka {use:Option (Value->Sem Unit)}{Q':VK}{Q:Value->Shared->Prop}(hcalm:X.calm=true)(S:CompScope X N' cap scope)(hi:PI X target iter wi)
  (hb:∀C s H fp,PG aV target g/\PIfs aV ifs tc/\PE aV elt te) (hs:∀x,foldedSetIterable iter X.env x=pure x)
  (I:Inv X pins σ H s) (h:tLC cap wi g tc te σ H Q')
  (fin:∀(D C:Addr) (o:Obj) (H':Hp) (s':Shared),Inv X (pins++ [(C,o)]) σ H' s'->FpOk X pins H' C->(∃m,∀h:Heap,h.get? C=some o->h.Ns C m)->Q' lX H'->compPost am X.A X.xe use Q lX C (.ok .next) s'):
  wpAny am X.A (comprehension aE scope X.env p0 (newList []) false m9 use) Q X.xe s:=by
 refine wpAny_comprehension_free rfl hs (Qhy (S.cells I.ok)) S.kind S.names ?_
 refine thn rj fun xv s₁ h₁=>thn h₁ fun itv s₂ h₂=>?_
 obtain⟨it,fp,tn,J,H2,rfl,I2,T,st2,f2,h2⟩:=h₂
 have hlt:∀b∈fp,b<s₂.heap.objs.size:=fun b hb=>by obtain⟨o,e,_⟩:=T.obj 0 _ st2 b hb;exact Heap.lt_size e
 refine wpAny_newObj_type (wpAny_newFunctionEnv S.nocell (by intro y hy;simp at hy) (fun h4 hns4 hsb4=>?_) S.kind)
 have I3:=I2.lnew (ys:= []) (its:= []) (t':=s₂.toks) .nil cJ
 obtain⟨W,⟨m0,w0⟩,turn⟩:=h2 s₂.heap.objs.size nt
 have f3:∀b∈fp,FpOk X pins nB b:=fun b hb=>by
  obtain⟨q0,q⟩:=f2 b hb
  exact⟨by rw[Qv (Nat.ne_of_lt (hlt b hb))];exact q0,q⟩
 generalize hs3:({s₂ with heap:=s₂.heap.push {cls:= .type "list",dict:=none,data:= .seq ([]:List Value).toArray}}:Shared)=s3 at *
 have hk:∀b o,s3.heap.get? b=some o->h4.get? b=some o:=fun b o e=>hsb4.extBut b o (Nat.ne_of_lt cO) (Heap.get?_push_of_some _ e)
 have hsz:s₂.heap.objs.size<=s3.heap.objs.size:=by rw[←hs3];show _<=(s₂.heap.push _).objs.size;rw[Heap.size_push];exact Nat.le_succ _
 have hlt3:∀b∈fp,b<s3.heap.objs.size:=fun b hb=>Nat.lt_of_lt_of_le (hlt b hb) hsz
 have kept23:∀b o,s₂.heap.get? b=some o->s3.heap.get? b=some o:=fun b o e=>by rw[←hs3];exact Heap.get?_push_of_some _ e
 have Ic:=S.inv (t':=s3.toks+([]:List dH).length) I3 f3 hk hns4 hlt3
 have st4:tn 0 h4:=T.keep 0 _ _ st2 fun b hb o e=>hk b o (kept23 b o e)
 obtain⟨bg,bi,be⟩:=hb s3.heap.objs.size s3 nB fp
 have statC:∀{H':Hp},(∀b∈fp,H' b=none)->∀b∈fp,FpOk aN [] H' b:=fun hn b hb=>
  ⟨hn b hb,Nat.ne_of_lt (hlt3 b hb),fun hf=>by
   rcases List.mem_cons.mp (I3.stkSub b hf)with e|e
   .exact(f3 b hb).2.1 e
   .exact(f3 b hb).2.2.1 e, .inl hb,fun x c e=>(f3 b hb).2.2.2.2.1 x c (S.cl I3.ok e),fun p hp=>absurd (show p∈([]:List aB)from hp) al⟩
 have loop:codeAny am X.A (.compLoop aE 0 kI fT (compEnvC scope pZ s3.heap.objs.size X.env))
   (compPost am X.A X.xe use Q fT s3.heap.objs.size) {s3 with heap:=h4,toks:=s3.toks+([]:List dH).length}:=by
  refine QiB (fun n s'=>∃i ys σ' H',Inv aN [] σ' H' s'/\tn i s'.heap/\(∀b∈fp,H' b=none)/\W i n ys σ' H') ?_ m0
   ⟨0,[],_,_,Ic,st4,fun b hb=>(f3 b hb).1,w0⟩
  rintro n s5 ⟨i,ys,σ5,H5,I5,st5,fr5,w5⟩
  obtain⟨hD,hl,alt⟩:=turn i n ys σ5 H5 w5
  rcases alt with⟨stop,q⟩|⟨go,step⟩
  .refine thn (T.done aN rfl rfl rfl hcalm i [] s5 σ5 H5 _ I5 (statC fr5) st5 stop) fun r s6 ⟨hr,I6⟩=>?_
   subst hr
   have I7:Inv X pins σ H5 s6:=I3.call' (ch:=fp) I6.os I6.base I6.hok I6.bare fun b hb=>⟨(f3 b hb).2.2.2.1,(f3 b hb).2.1,(f3 b hb).2.2.2.2.1,(f3 b hb).2.2.2.2.2⟩
   obtain⟨m,⟨o,es,ep,ho,hd,hrest⟩,_⟩:=id I6.loc
   have hC:FpOk X pins H5 s3.heap.objs.size:=I3.fpOk aw I6.free
   refine fin _ _ o H5 s6 (I7.pins_of fun p hp=>?_) hC ⟨m,fun h e=>⟨o,es,ep,e,hd,hrest⟩⟩ q
   rcases List.mem_append.mp hp with hp|hp
   .exact I7.pin p (List.mem_append_right _ hp)
   .have e:p=(s3.heap.objs.size,o):=by simpa using hp
    subst e
    exact⟨ho,hC.1,hC.2.1,hC.2.2.1,fun v=>by rw[hd];intro z;cases z⟩
  .refine thn (T.item aN rfl rfl rfl hcalm i [] s5 σ5 H5 _ I5 (statC fr5) st5 go) fun r s6 ⟨u,hr,h6⟩=>?_
   subst hr
   refine thn h6 fun _ s7 ⟨x,H7,I7,r7,y7,st7,fr7⟩=>?_
   have I7':=I7.pinned (statC fr7) (T.obj _ _ st7)
   refine thn (bg _ s7 σ5 H7 x u _ I7' r7 (step x H7 y7)) fun _ s8 ⟨σ8,H8,I8,q8⟩=>?_
   refine thn (bi _ s8 σ8 H8 _ I8 q8) fun ok s9 ⟨H9,I9,q9⟩=>?_
   have again:∀{ys':List V} {H':Hp} {s':Shared} {m':Nat},Inv aN ([]++Qij fp s7.heap) σ8 H' s'->m'<n->W (i+1) m' ys' σ8 H'->
     ∃m,m<n/\∃i ys σ' H',Inv aN [] σ' H' s'/\tn i s'.heap/\(∀b∈fp,H' b=none)/\W i m ys σ' H':=fun{ys' H' s' m'} I' hm w'=>by
    refine⟨m',hm,i+1,ys',σ8,H',I'.unpinned,T.keep _ _ _ st7 fun b hb o e=>(I'.pin (b,o) b7).1,fun b hb=>?_,w'⟩
    obtain⟨o,e,d⟩:=T.obj _ _ st7 b hb
    exact(I'.pin (b,o) b7).2.1
   cases ok with
   |false=>
    rw[if_neg Bool.false_ne_true]at q9⊢
    obtain⟨m',hm,w'⟩:=q9
    exact again I9 hm w'
   |true=>
    rw[if_pos rfl]at q9⊢
    refine thn (be _ s9 σ8 H9 _ I9 q9) fun v s10 ⟨y,H10,I10,r10,hD10,m',hm,w'⟩=>?_
    refine thn (Qiu _ s10 σ8 H10 fT [y] fT [v] (fun _ H'=>H'=upd H10 s₂.heap.objs.size (.lst (ys++ [y]))) I10 rfl (.cons r10 .nil) ⟨_,ys,y,rfl,rfl,hD10,hl,rfl⟩) fun _ s11 ⟨_,H11,I11,_,e11⟩=>?_
    subst e11
    exact again I11 hm w'
 exact codeAny_compStart_list loop (T.self _ 0 _ _ _ st4 loop)
theorem QgY {C:Addr}{o:Obj}{H':Hp}{s':Shared}{σ':L2.St}(I:Inv X (pins++ [(C,o)]) σ' H' s')(f:FpOk X pins H' C){h':Heap}(sb:Heap.SameBut C s'.heap h'):Inv X pins σ' H' {s' with heap:=h'}:=
 (I.unpinned).turned (t':=s'.toks) (fun b ob hb e=>sb.extBut b ob hb e) f.1 f.2.1 f.2.2.2.1 f.2.2.2.2.1 f.2.2.2.2.2
theorem Qns (hcalm:X.calm=true)(S:CompScope X N' cap scope)(hi:PI X target iter wi)
  (hb:∀C s H fp,PG aV target g/\PIfs aV ifs tc/\PE aV elt te) (hs:∀x,foldedSetIterable iter X.env x=pure x:=by intro _;rfl):
  PE X aE sF:=by
 intro pins s σ H Q I h
 rw[eval_ListComp]
 refine Qka (use:=none) (Q':=Q) hcalm S hi hb hs I h fun D C o H' s' I' f ⟨m,hm⟩ q=>?_
 have ho:=(I'.pin (C,o) al).1
 exact⟨m,hm _ ho,fun h' sb=>⟨.ref D,H',QgY I' f sb,rfl,q⟩⟩
theorem Qnt {i:Nat}{y:Str}{py spos:Pos}(hcalm:X.calm=true)(S:CompScope X N' cap scope)(hi:PI X target iter wi)
  (hb:∀C s H fp,PG aV target g/\PIfs aV ifs tc/\PE aV elt te) (hpg:PG X k7 l7)
  (hsw:swapsWith aE (some k7) spos.line X.env=pure true) (hs:∀x,foldedSetIterable iter X.env x=pure x:=by intro _;rfl):
  PS X (.Assign [.Name y py] aE spos) (tAsg sF l7):=by
 intro pins s σ H D I h
 rw[exec_Assign_Name_used _ _ _ _ hsw]
 refine wpAny_bind (wpAny_standAt (wpAny_bind ?_))
 show wpAny _ X.A (do let _←comprehension aE scope X.env _ (newList []) false m9 (some (assign k7 X.env))) _ _ s
 refine wpAny_bind (wpAny_mono (Qka (use:=some (assign k7 X.env)) (Q:=fun _ s'=>SP X pins D .next s') hcalm S hi hb hs I h fun A C o H' s' I' f ⟨m,hm⟩ q=>?_) (fun _ s' hq=>wpAny_pure (wpAny_pure hq)) fun _ _ e=>e)
 show wpAny _ X.A (assign k7 X.env (.ref A)) _ _ s'
 refine thn (hpg _ s' σ H' (.ref A) (.ref A) (fun σ' H''=>H''=H'/\D.nx σ' H'') I' rfl ⟨rfl,q⟩) fun _ s'' ⟨σ2,H2,I2,e2,q2⟩=>?_
 subst e2
 exact⟨m,hm _ (I2.pin (C,o) al).1,fun h' sb=>⟨σ2,H2,QgY I2 f sb,q2⟩⟩
end
end L2
namespace L3
open PySem L2
def capE (cap:List aC)(ev:Ev):Ev:=cap.map fun o=>o.bind fun j=>match (ev[j]?).join with
 |some (.fz,d)=>some (.fz,d)
 |_=>none
def Qe6 (b:B1)(c e:Ev->R)(ev:Ev):List D->Option eT
 | []=>some []
 |d::ds=>match b d ev with
  |none=>none
  |some ev1=>match c ev1 with
   | .ok _ (.bl t)=>if t then(match e ev1 with
    | .ok .bo _=>none
    | .ok _ x=>(Qe6 b c e ev ds).map (x:: ·)
    |_=>none)else Qe6 b c e ev ds
   |_=>none
def Qpr (cap:List aC)(b:B1)(c e:Ev->R)(ev:Ev):RI->R
 | .ok ds=>if ds.length<LIM then(match Qe6 b c e dc ds with
  |some l=> .ok .ow pT
  |none=> .no)else .no
 | .ex C=> .ex C
 | .no=> .no
def QcL (cap:List aC)(fi:Ev->RI)(b:B1)(c e:Ev->R)(ev:Ev):R:=Qpr cap b c e ev (fi ev)
def QlX (S:List Nat)(b:B1):Prop:=∀d ev ev',b d ev=some ev'->ev'.length=ev.length/\∀i,i∉S->ev'[i]?=ev[i]?
theorem QbA (i:Nat):QlX [i] (QC i):=fun d ev ev' e=>by
 cases e
 exact⟨by simp,fun j hj=>by rw[List.getElem?_set_ne];simp at hj;exact fun z=>hj z.symm⟩
section
variable {X:Cx}{K:PySem.W.Frag}{F0 H0 F H F' H':Hp}{Ψ:Psi}{σ:L2.St}{ev:Ev}
theorem Qjy (cap:List aC)(ev:Ev){i:Nat}{d:D}:(capE cap ev)[i]?≠some fy:=fun e=>by
 unfold capE at e
 rw[List.getElem?_map]at e
 cases q:cap[i]? with
 |none=>rw[q]at e;cases e
 |some o=>
  rw[q]at e
  cases o with
  |none=>cases e
  |some j=>
   have e:(match (ev[j]?).join with|some (.fz,d)=>some (Kd.fz,d)|_=>none)=some (.ow,d):=Option.some.inj e
   split at e<;>cases e
theorem FI.cap (cap:List aC)(f:FI K F0 H0 F H ev σ):FI K F0 H0 F H dc qg:=by
 refine⟨f.st,fun i k d e=>?_,fun i j d e _ e1 _=>absurd e1 (Qjy cap ev),by simp[capE,capS]⟩
 have e':=e
 unfold capE at e
 rw[List.getElem?_map]at e
 cases q:cap[i]? with
 |none=>rw[q]at e;cases e
 |some o=>
  rw[q]at e
  cases o with
  |none=>cases e
  |some j=>
   have e:(match (ev[j]?).join with|some (.fz,d)=>some (Kd.fz,d)|_=>none)=some (k,d):=Option.some.inj e
   split at e
   .rename_i d' hj
    cases e
    have hj':ev[j]?=some bC:=by
     cases q2:ev[j]? with
     |none=>rw[q2]at hj;cases hj
     |some z=>rw[q2]at hj;rw[show z=some (.fz,d)from hj]
    obtain⟨n,v,e1,hv⟩:=f.at_ j _ _ hj'
    refine⟨n,v,?_,hv⟩
    unfold capS
    rw[List.getElem?_map,q]
    show some ((σ[j]?).join)=_
    rw[e1];rfl
   .cases e
theorem FI.hid {a:Addr}{o:HO}(f:FI K F0 H0 F H ev σ)(no:∀(i:Nat) d,ev[i]?≠some fy)(h0:H0 a=none)(hf:F a=none):FI K F0 H0 F fv ev σ:=by
 have ne:∀{G:Hp},G a=none->Same G H->Same G fv:=fun{G} n s b u q=>by
  rw[Qv];exact s b u q
  rintro rfl;rw[n]at q;cases q
 refine⟨⟨f.st.up,ne hf f.sub,ne h0 f.st.keep,f.st.new⟩,fun i k d e=>?_,f.apart,f.len⟩
 obtain⟨n,v,e1,hv⟩:=f.at_ i k d e
 cases k with
 |bo=>exact absurd rfl n
 |ow=>exact absurd e (no i d)
 |fz=>exact⟨n,v,e1,hv⟩
structure LCI (K:PySem.W.Frag)(F0 H0 F H F1:Hp)(ce:Ev)(cf:List D->Option (List D))(ds l:List D)(Dd:Addr)(i m:Nat)(ys:List V)(σ':St)(H' F2:Hp)(es rest:List D):Prop where
 em:m=ds.length-i
 hi:i<=ds.length
 f2:FI K F0 H0 F2 H' ce σ'
 u2:Same F1 F2
 st:Step F H F2 H'
 hd:H' Dd=some gM
 hf:F2 Dd=none
 rs:Reps K F2 es ys
 cs:cf (ds.drop i)=some rest
 el:es++rest=l
 hel:es.length<=i
theorem LCI.same {F0 H0 F H F1:Hp}{ce:Ev}{cf:List D->Option eT}{ds l:List D}{Dd:Addr}{i m:Nat}{ys:List V}{σ' σ3:St}{H' F2 F4 H4:Hp}{es rest:List D}(x:LCI K F0 H0 F H F1 ce cf ds l Dd i m ys σ' H' F2 es rest)(hlt:i<ds.length)(s:Step F2 H' F4 H4)(f:FI K F0 H0 F4 H4 ce σ3)
  (cs:cf jp=some rest):LCI K F0 H0 F H F1 ce cf ds l Dd (i+1) (ds.length-(i+1)) ys σ3 H4 F4 es rest:=
 ⟨rfl,hlt,f,x.u2.trans s.up,x.st.trans s,s.keep _ _ x.hd,s.unfz x.hd x.hf,x.rs.mono s.up,cs,x.el,Nat.le_succ_of_le x.hel⟩
theorem Qfk {G H5:Hp}{Dd:Addr}{o:HO}(n:G Dd=none)(s:Same G H5):Same G (upd H5 Dd o):=fun b u q=>by
 rw[Qv];exact s b u q
 rintro rfl;rw[n]at q;cases q
theorem LCI.more {F0 H0 F H F1:Hp}{ce:Ev}{cf:List D->Option eT}{ds l:List D}{Dd:Addr}{i m:Nat}{ys:List V}{σ' σ3:St}{H' F2 F6 H5:Hp}{es rest rest':List D}{d:D}{v:V}(x:LCI K F0 H0 F H F1 ce cf ds l Dd i m ys σ' H' F2 es rest)(hlt:i<ds.length)(s:Step F2 H' F6 H5)(hD:H Dd=none)
  (f:FI K F0 H0 F6 qW ce σ3) (r:Rep K F6 d v) (cs:cf jp=some rest') (e:d::rest'=rest):LCI K F0 H0 F H F1 ce cf ds l Dd (i+1) (ds.length-(i+1)) (ys++ [v]) σ3 qW F6 (es++ [d]) rest':=
 have S:=x.st.trans s
 have hf:=s.unfz x.hd x.hf
 ⟨rfl,hlt,f,x.u2.trans s.up,⟨S.up,Qfk hf S.sub,Qfk hD S.keep,S.new⟩,QN,hf,(x.rs.mono s.up).app (.cons r .nil),cs,by rw[←x.el,←e];simp,by simpa using x.hel⟩
theorem Qon {cap:List aC}{fi:Ev->RI}{b:B1}{c e:Ev->R}{S:List Nat}{Q:VK}(hB:QlX S b)(hS:∀i∈S,cap[i]?=some none)(h:tV K F0 H0 Ψ uL σ H Q):
  tLC cap tT lL sD tU σ H Q:=by
 obtain⟨F,ev,fi',m⟩:=h
 refine⟨F,ev,fi',?_⟩
 unfold QcL at m
 cases h1:fi ev with
 |no=>rw[h1]at m;exact m
 |ex C=>rw[h1]at m;exact m
 |ok ds=>
  rw[h1]at m
  intro F1 H1 J s y Dd hD
  simp only[Qpr]at m
  by_cases hl:ds.length<LIM
  .rw[if_pos hl]at m
   cases h2:Qe6 b c e dc ds with
   |none=>rw[h2]at m;exact m.elim
   |some l=>
    rw[h2]at m
    have hD0:H0 Dd=none:=(fi'.st.trans s).keep.free hD
    have hDH:H Dd=none:=s.keep.free hD
    have hDF:F1 Dd=none:=s.sub.free hD
    refine⟨fun i m ys σ' H'=>∃F2 es rest,LCI K F0 H0 F H F1 dc (Qe6 b c e dc) ds l Dd i m ys σ' H' F2 es rest,?_,?_⟩
    .exact⟨ds.length,F1,[],l,by simp,Nat.zero_le _,((fi'.later s).cap cap).hid (fun i d=>Qjy cap ev) hD0 hDF, .refl _,⟨s.up,Qfk hDF s.sub,Qfk hDH s.keep,s.new⟩,QN,hDF, .nil,h2,rfl,Nat.zero_le _⟩
    .rintro i m' ys σ' H' ⟨F2,es,rest,x⟩
     refine⟨x.hd,by rw[←x.rs.length];exact Nat.lt_of_le_of_lt (Nat.le_trans x.hel x.hi) pM,?_⟩
     have ce:=x.cs
     by_cases hlt:i<ds.length
     .have hm:ds.length-(i+1)<m':=by rw[x.em];exact Nat.sub_lt_sub_left hlt lV
      refine .inr ⟨y.go i H' r8 hlt,fun v H2 yl=>?_⟩
      obtain⟨F3,d,s3,ed,r⟩:=y.yld i F2 H' v H2 x.u2 x.f2.sub hlt yl
      have edr:ds.drop i=d::ds.drop (i+1):=by
       obtain⟨h,e'⟩:=List.getElem?_eq_some_iff.mp ed
       rw[←e']
       exact List.drop_eq_getElem_cons h
      rw[edr]at ce
      simp only[Qe6]at ce
      cases q1:b d dc with
      |none=>rw[q1]at ce;cases ce
      |some ev1=>
       rw[q1]at ce
       dsimp only at ce
       refine⟨F3,capE cap ev,d,ev1,x.f2.later s3,r,q1,fun H'' σ3 hH f3=>?_⟩
       subst hH
       obtain⟨lb,gb⟩:=hB _ _ _ q1
       have weak:∀{F4 H4:Hp},FI K F0 H0 F4 H4 ev1 σ3->FI K F0 H0 F4 H4 dc σ3:=fun f4=>f4.weak lb.symm fun j k d' e'=>by
        by_cases hj:j∈S
        .have:=hS j hj
         unfold capE at e'
         rw[List.getElem?_map,this]at e'
         cases e'
        .rw[gb j hj];exact e'
       refine⟨F3,ev1,f3,?_⟩
       cases q2:c ev1 with
       |no=>rw[q2]at ce;cases ce
       |ex C=>rw[q2]at ce;cases ce
       |ok k2 d2=>
        rw[q2]at ce
        cases d2 with
        |bl t=>
         intro F4 H4 s4
         have st34:=s3.trans s4
         cases t with
         |false=>
          rw[if_neg Bool.false_ne_true]
          simp only[Bool.false_eq_true,if_false]at ce
          exact⟨_,hm,F4,es,rest,x.same hlt st34 (weak (f3.later s4)) ce⟩
         |true=>
          rw[if_pos rfl]
          simp only[if_true]at ce
          refine⟨F4,ev1,f3.later s4,?_⟩
          cases q3:e ev1 with
          |no=>rw[q3]at ce;cases ce
          |ex C=>rw[q3]at ce;cases ce
          |ok k3 x3=>
           rw[q3]at ce
           intro F5 v5 H5 p5
           have go:∀F6,Post K F4 H4 .fz x3 F6 v5 H5->((Qe6 b c e dc jp).map (x3:: ·))=some rest->H5 Dd=some gM/\∃m'',m''<m'/\∃F2 es rest,LCI K F0 H0 F H F1 dc (Qe6 b c e dc) ds l Dd (i+1) m'' (ys++ [v5]) σ3 (upd H5 Dd (.lst (ys++ [v5]))) F2 es rest:=fun F6 p6 ce=>by
            have st:=st34.trans p6.st
            cases q4:Qe6 b c e dc jp with
            |none=>rw[q4]at ce;cases ce
            |some rest'=>
             rw[q4]at ce
             exact⟨st.keep _ _ x.hd,_,hm,F6,es++ [x3],rest',x.more hlt st hDH ((weak ((f3.later s4).later p6.st)).hid (fun i d=>Qjy cap ev) hD0 (st.unfz x.hd x.hf)) p6.val q4 (Option.some.inj ce)⟩
           cases k3 with
           |bo=>cases ce
           |fz=>exact go F5 p5 ce
           |ow=>obtain⟨F6,p6⟩:=p5.frz;exact go F6 p6 ce
        |_=>cases ce
     .have e2:i=ds.length:=Nat.le_antisymm x.hi (Nat.le_of_not_lt hlt)
      subst e2
      rw[List.drop_length]at ce
      cases ce
      refine .inl ⟨y.stop _ H' r8 aw,?_⟩
      have el:=x.el
      rw[List.append_nil]at el
      subst el
      exact m F2 _ H' ⟨x.st,Dd,rfl,hDH,x.hf,ys,x.hd,x.rs⟩
  .rw[if_neg hl]at m;exact m.elim
end
end L3
namespace L3
open PySem L2
def QtO (N N':List Str)(cap:List aC)(names:List eW):Bool:=(List.range cap.length).all fun i=>match cap[i]? with
 |some (some j)=>(match N'[i]?,N[j]? with
  |some x,some y=>decide (x=y)&&decide (names.lookup x=some .free)
  |_,_=>false)
 |_=>true
structure CompSc (osc:Scope)(N N':List Str)(cap:List (Option Nat))(scope:Scope):Prop where
 kind:scope.kind= .function
 nocell:∀y∈scope.names,y.2≠ .cell
 names:∀y∈scope.names,y.2= .local->scope.names.lookup y.1=some .local
 fr:∀y∈scope.names,y.2= .free->osc.names.lookup y.1=some .cell\/osc.names.lookup y.1=some .free
 len:cap.length=N'.length
 cap:QtO N N' cap scope.names=true
theorem CompSc.to {X:Cx}{osc:Scope}{N N':List Str}{cap:List aC}{scope:Scope}(h:CompSc osc N N' cap scope)(h1:X.env.scope=osc)(h2:X.N=N):CompScope X N' cap scope:=by
 subst h1;subst h2
 refine⟨h.kind,h.nocell,h.names,h.fr,h.len,fun i j e=>?_⟩
 have hi:i<cap.length:=(List.getElem?_eq_some_iff.mp e).1
 have:=List.all_eq_true.mp h.cap i (by simpa using hi)
 rw[e]at this
 dsimp only at this
 split at this
 .rename_i x y e1 e2
  rw[Bool.and_eq_true]at this
  have e3:x=y:=of_decide_eq_true this.1
  subst e3
  exact⟨x,e1,e2,of_decide_eq_true this.2⟩
 .cases this
section
variable {X:Cx}{F0 H0:Hp}{Ψ:Psi}{N N':List Str}{osc scope:Scope}{cap:List (Option Nat)}{elt target iter c:Expr}{ifs:List Expr}{fi:Ev->RI}{b:B1}{f e:Ev->R}{S:List Nat}{pos:Pos}
def VF (X:Cx)(F0 H0:Hp)(ifs:List Expr)(f:Ev->R):Prop:=PIfs X ifs (tVT X.K F0 H0 Psi0 f)
theorem QiC:VF X F0 H0 [] cS:=fun pins s σ H Q I h=>by
 obtain⟨F,ev,fi,m⟩:=h
 exact Qnq pins s σ H Q I (m F H fi.refl)
theorem QgZ (h:VT X F0 H0 Psi0 c f):VF X F0 H0 [c] f:=Qnr h
theorem QiD (N':List Str)(cap:List aC)(S:List Nat)(hX:X.env.scope=osc)(hN:X.N=N)(C:CompSc osc N N' cap scope)(hcalm:X.calm=true)(hi:VI X F0 H0 Ψ target iter fi)(hB:QlX S b)
  (hb:∀C s H fp,VG aV F0 H0 target b/\VF aV F0 H0 ifs f/\VE aV F0 H0 Psi0 elt e) (hS:∀i∈S,cap[i]?=some none:=by decide)
  (hs:∀x,foldedSetIterable iter X.env x=pure x:=by intro _;rfl):VE X F0 H0 Ψ aE uK:=
 (Qns (g:=gV X.K F0 H0 b) (tc:=tVT X.K F0 H0 Psi0 f) (te:=tV X.K F0 H0 Psi0 e) hcalm (C.to hX hN) hi hb hs).mono fun _ _ _ q=>Qon hB hS q
theorem Qnu {K:PySem.W.Frag}{i:Nat}{cap:List aC}{fi:Ev->RI}{b:B1}{c e:Ev->R}{S:List Nat}{E:Ends}{σ:L2.St}{H:Hp}(hB:QlX S b)(hS:∀i∈S,cap[i]?=some none)(h:tSv K F0 H0 Ψ (setG i uL) E σ H):
  tAsg (tLC cap tT lL sD tU) l7 E σ H:=Qon hB hS (QlT h)
theorem Qew (i:Nat){x:Str}{py spos:Pos}(N':List Str)(cap:List aC)(S:List Nat)(hX:X.env.scope=osc)(hN:X.N=N)(nd:X.N.Nodup)(C:CompSc osc N N' cap scope)(hcalm:X.calm=true)(hi:VI X F0 H0 Ψ target iter fi)(hB:QlX S b)
  (hb:∀C s H fp,VG aV F0 H0 target b/\VF aV F0 H0 ifs f/\VE aV F0 H0 Psi0 elt e) (hS:∀i∈S,cap[i]?=some none:=by decide)
  (hix:X.N[i]?=some x:=by rfl) (hx:Loc X.env.scope x:=by first|exact Or.inl rfl|exact Or.inr rfl) (hf:X.fn x=true\/X.env.scope.names.lookup x=some .local:=by first|exact .inl rfl|exact .inr rfl)
  (hsw:swapsWith aE (some (.Name x py)) spos.line X.env=pure true:=by rfl)
  (hs:∀x,foldedSetIterable iter X.env x=pure x:=by intro _;rfl):VS X F0 H0 Ψ (.Assign [.Name x py] aE spos) (setG i uK):=
 (Qnt (g:=gV X.K F0 H0 b) (tc:=tVT X.K F0 H0 Psi0 f) (te:=tV X.K F0 H0 Psi0 e) hcalm (C.to hX hN) hi hb (Qjr nd hix hx hf) hsw hs).mono fun _ _ _ q=>Qnu hB hS q
end
mutual
def py:D->Option PyData
 | .non=>some .none
 | .bl b=>some qR
 | .int i=>some fV
 | .str x=>if PyData.strOk x=true then some dY else none
 | .tup xs=>(pyL xs).map .tuple
 | .lst xs=>(pyL xs).map .list
 | .scr xs=>(pyL xs).map .list
 | .dK _ _=>none
 | .dT _ _=>none
 | .obj _ _ _=>none
 | .ty _=>none
def pyL:List D->Option (List PyData)
 | []=>some []
 |d::ds=>(py d).bind fun p=>(pyL ds).map (p:: ·)
end
section
variable {X:Cx}{pins:List (Addr×Obj)}{σ:L2.St}{H:Hp}{s:Shared}
mutual
theorem Rep.reads (I:Inv X pins σ H s):∀{d:D} {v:V} {u:Value} {p:PyData},Rep X.K H d v->RelV v u->py d=some p->∃as,Reads s.heap u p as/\p.canLay0=true
 | .non,_,_,_,h,r,e=>by rw[Rep]at h;subst h;rw[py]at e;cases e;cases r;exact⟨[], .none,rfl⟩
 | .bl b,_,_,_,h,r,e=>by rw[Rep]at h;subst h;rw[py]at e;cases e;cases r;exact⟨[], .bool b,rfl⟩
 | .int i,_,_,_,h,r,e=>by rw[Rep]at h;subst h;rw[py]at e;cases e;obtain⟨t,rfl⟩:=r;exact⟨[], .int i t,rfl⟩
 | .str x,_,_,_,h,r,e=>by
  rw[Rep]at h;subst h;rw[py]at e
  split at e
  .rename_i hs;cases e;obtain⟨t,rfl⟩:=r;exact⟨[], .str x t,by simpa[PyData.canLay0]using hs⟩
  .cases e
 | .tup xs,_,_,_,h,r,e=>by
  rw[Rep]at h;obtain⟨a,vs,rfl,h2,h3⟩:=h
  rw[py]at e
  cases q:pyL xs with
  |none=>rw[q]at e;cases e
  |some ps=>
   rw[q]at e;cases e
   cases r
   obtain⟨its,rv,⟨o,ho,hc,n,hd⟩,hz⟩:=I.tuple (SqT.of h2)
   obtain⟨as,h4,h5⟩:=Reps.reads I h3 rv q
   exact⟨as, .tuple ho hc hd (by simpa using h4),by simpa[PyData.canLay0]using h5⟩
 | .lst xs,_,_,_,h,r,e=>by
  rw[Rep]at h;obtain⟨a,vs,rfl,h2,h3⟩:=h
  rw[py]at e
  cases q:pyL xs with
  |none=>rw[q]at e;cases e
  |some ps=>
   rw[q]at e;cases e
   cases r
   obtain⟨its,rv,pl,hz⟩:=I.list (SqL.of h2)
   obtain⟨o,ho,hc,n,hd⟩:=pl.isList
   obtain⟨as,h4,h5⟩:=Reps.reads I h3 rv q
   exact⟨a::as, .list ho hc hd (by simpa using h4),by simpa[PyData.canLay0]using h5⟩
 | .scr xs,_,_,_,h,r,e=>by
  rw[Rep]at h;obtain⟨a,vs,rfl,h2,h3⟩:=h
  rw[py]at e
  cases q:pyL xs with
  |none=>rw[q]at e;cases e
  |some ps=>
   rw[q]at e;cases e
   cases r
   obtain⟨its,rv,pl,hz⟩:=I.list h2
   obtain⟨o,ho,hc,n,hd⟩:=pl.isList
   obtain⟨as,h4,h5⟩:=Reps.reads I h3 rv q
   exact⟨a::as, .list ho hc hd (by simpa using h4),by simpa[PyData.canLay0]using h5⟩
 | .dK _ _,_,_,_,_,_,e=>by rw[py]at e;cases e
 | .dT _ _,_,_,_,_,_,e=>by rw[py]at e;cases e
 | .obj _ _ _,_,_,_,_,_,e=>by rw[py]at e;cases e
 | .ty _,_,_,_,_,_,e=>by rw[py]at e;cases e
theorem Reps.reads (I:Inv X pins σ H s):∀{ds:List D} {vs:List V} {us:List Value} {ps:List PyData},Reps X.K H ds vs->Vals vs us->pyL ds=some ps->∃as,ReadsAll s.heap us ps as/\PyData.canLayAll0 ps=true
 | [],_,_,_,h,r,e=>by rw[h.unnil]at r;cases r;rw[pyL]at e;cases e;exact⟨[], .nil,rfl⟩
 |d::ds,_,_,_,h,r,e=>by
  obtain⟨v,t,rfl,h1,h2⟩:=h.uncons
  cases r with
  |cons r1 r2=>
   rw[pyL]at e
   cases q1:py d with
   |none=>rw[q1]at e;cases e
   |some p=>
    rw[q1]at e
    cases q2:pyL ds with
    |none=>rw[q2]at e;cases e
    |some ps=>
     rw[q2]at e
     cases e
     obtain⟨as,g1,g2⟩:=Rep.reads I h1 r1 q1
     obtain⟨bs,g3,g4⟩:=Reps.reads I h2 r2 q2
     exact⟨as++bs, .cons g1 g3,by simp[PyData.canLayAll0,g2,g4]⟩
end
end
def DEEP:Nat:=60
def eqD:G2:=fun a b=>match py a,py b with
 |some p,some q=>if p.depth<=DEEP then some (.fz, .bl (p.eqv q))else none
 |_,_=>none
def neD:G2:=fun a b=>match py a,py b with
 |some p,some q=>if p.depth<=DEEP then some (.fz, .bl (!p.eqv q))else none
 |_,_=>none
def Qdt:D->Option eT
 | .lst xs=>some xs
 | .scr xs=>some xs
 | .tup xs=>some xs
 |_=>none
def inL:G2:=fun a b=>match py a,(Qdt b).bind pyL with
 |some p,some qs=>if p.depth<=DEEP then some (.fz, .bl (qs.any fun q=>q.eqv p))else none
 |_,_=>none
def Qdu:G2:=fun a b=>match py a,(Qdt b).bind pyL with
 |some p,some qs=>if p.depth<=DEEP then some (.fz, .bl (!qs.any fun q=>q.eqv p))else none
 |_,_=>none
section
variable {X:Cx}
def rP (K:PySem.W.Frag)(g:G2):R2:=fun x y H Q=>∃dx dy d,Rep K H dx x/\Rep K H dy y/\g dx dy=some (.fz, .bl d)/\Q (.bl d) H
theorem ok_P {K:PySem.W.Frag}{g:G2}(hg:∀a b k d,g a b=some (k,d)->∃t,k= .fz/\d= .bl t):OkOp K (rP K g) g:=by
 intro F H dx dy x y k d Q s rx ry e q
 obtain⟨t,rfl,rfl⟩:=hg _ _ _ _ e
 exact⟨dx,dy,t,rx.rep s,ry.rep s,e,q F _ H aA⟩
theorem Qry (a b:D)(k:Kd)(d:D)(e:eqD a b=some (k,d)):∃t,k= .fz/\d= .bl t:=by
 unfold eqD at e;split at e
 .split at e
  .cases e;exact⟨_,rfl,rfl⟩
  .cases e
 .cases e
theorem Qrz (a b:D)(k:Kd)(d:D)(e:neD a b=some (k,d)):∃t,k= .fz/\d= .bl t:=by
 unfold neD at e;split at e
 .split at e
  .cases e;exact⟨_,rfl,rfl⟩
  .cases e
 .cases e
theorem QrA (a b:D)(k:Kd)(d:D)(e:inL a b=some (k,d)):∃t,k= .fz/\d= .bl t:=by
 unfold inL at e;split at e
 .split at e
  .cases e;exact⟨_,rfl,rfl⟩
  .cases e
 .cases e
theorem QlY (a b:D)(k:Kd)(d:D)(e:Qdu a b=some (k,d)):∃t,k= .fz/\d= .bl t:=by
 unfold Qdu at e;split at e
 .split at e
  .cases e;exact⟨_,rfl,rfl⟩
  .cases e
 .cases e
theorem c_eq (hu:X.A.units+100<cLine):QcS X .Eq eqD:=by
 refine⟨rP X.K eqD,fun pins s σ H x y v u Q I rx ry h=>?_,ok_P Qry⟩
 obtain⟨dx,dy,t,hx,hy,e,q⟩:=h
 unfold eqD at e
 split at e
 .rename_i p q' e1 e2
  split at e
  .rename_i hd
   have e':PyData.eqv p q'=t:=by injection e with e;injection e with _ e;injection e
   obtain⟨as,r1,c1⟩:=hx.reads I rx e1
   obtain⟨bs,r2,c2⟩:=hy.reads I ry e2
   refine SeqAt.compareEq_reads r1 r2 c1 c2 (by have:=Nat.min_le_left p.depth q'.depth;unfold DEEP at hd;omega) ?_
   rw[e']
   exact⟨.bl t,H,I,rfl,q⟩
  .cases e
 .cases e
theorem c_ne (hu:X.A.units+100<cLine):QcS X .NotEq neD:=by
 refine⟨rP X.K neD,fun pins s σ H x y v u Q I rx ry h=>?_,ok_P Qrz⟩
 obtain⟨dx,dy,t,hx,hy,e,q⟩:=h
 unfold neD at e
 split at e
 .rename_i p q' e1 e2
  split at e
  .rename_i hd
   have e':(!PyData.eqv p q')=t:=by injection e with e;injection e with _ e;injection e
   obtain⟨as,r1,c1⟩:=hx.reads I rx e1
   obtain⟨bs,r2,c2⟩:=hy.reads I ry e2
   refine SeqAt.compareNe_reads r1 r2 c1 c2 (by have:=Nat.min_le_left p.depth q'.depth;unfold DEEP at hd;omega) ?_
   rw[e']
   exact⟨.bl t,H,I,rfl,q⟩
  .cases e
 .cases e
theorem QfH {pins:List aB}{σ:L2.St}{H:Hp}{s:Shared}(I:Inv X pins σ H s){d:D}{v:V}{u:Value}{xs:List D}{ps:List PyData}(h:Rep X.K H d v)(r:RelV v u)(e:Qdt d=some xs)(ep:pyL xs=some ps):
  PyData.canLayAll0 ps=true/\((∃as,Reads s.heap u uY as)\/∃as,Reads s.heap u (.tuple ps) as):=by
 cases d<;>simp only[Qdt]at e<;>first|cases e|skip
 .obtain⟨as,h1,h2⟩:=h.reads I r (show py cP=some (.tuple ps)by rw[py,ep];rfl)
  exact⟨by simpa[PyData.canLay0]using h2, .inr ⟨as,h1⟩⟩
 .obtain⟨as,h1,h2⟩:=h.reads I r (show py aH=some uY by rw[py,ep];rfl)
  exact⟨by simpa[PyData.canLay0]using h2, .inl ⟨as,h1⟩⟩
 .obtain⟨as,h1,h2⟩:=h.reads I r (show py (.scr xs)=some uY by rw[py,ep];rfl)
  exact⟨by simpa[PyData.canLay0]using h2, .inl ⟨as,h1⟩⟩
theorem QtP (hu:X.A.units+100<cLine):QcS X .In inL:=by
 refine⟨rP X.K inL,fun pins s σ H x y v u Q I rx ry h=>?_,ok_P QrA⟩
 obtain⟨dx,dy,t,hx,hy,e,q⟩:=h
 unfold inL at e
 split at e
 .rename_i p qs e1 e2
  split at e
  .rename_i hd
   have e':(qs.any fun q=>q.eqv p)=t:=by injection e with e;injection e with _ e;injection e
   cases q1:Qdt dy with
   |none=>rw[q1]at e2;cases e2
   |some xs=>
    rw[q1]at e2
    obtain⟨as,r1,c1⟩:=hx.reads I rx e1
    obtain⟨c2,r2⟩:=QfH I hy ry q1 e2
    have hu':X.A.units+1+min fS p.depth<cLine:=by have:=Nat.min_le_right fS p.depth;unfold DEEP at hd;omega
    rcases r2 with⟨bs,r2⟩|⟨bs,r2⟩
    .exact SeqAt.in_list_reads r2 r1 c2 c1 hu' (by rw[e'];exact⟨.bl t,H,I,rfl,q⟩)
    .exact SeqAt.in_tuple_reads r2 r1 c2 c1 hu' (by rw[e'];exact⟨.bl t,H,I,rfl,q⟩)
  .cases e
 .cases e
theorem Qnv (hu:X.A.units+100<cLine):QcS X .NotIn Qdu:=by
 refine⟨rP X.K Qdu,fun pins s σ H x y v u Q I rx ry h=>?_,ok_P QlY⟩
 obtain⟨dx,dy,t,hx,hy,e,q⟩:=h
 unfold Qdu at e
 split at e
 .rename_i p qs e1 e2
  split at e
  .rename_i hd
   have e':(!qs.any fun q=>q.eqv p)=t:=by injection e with e;injection e with _ e;injection e
   cases q1:Qdt dy with
   |none=>rw[q1]at e2;cases e2
   |some xs=>
    rw[q1]at e2
    obtain⟨as,r1,c1⟩:=hx.reads I rx e1
    obtain⟨c2,r2⟩:=QfH I hy ry q1 e2
    have hu':X.A.units+1+min fS p.depth<cLine:=by have:=Nat.min_le_right fS p.depth;unfold DEEP at hd;omega
    rcases r2 with⟨bs,r2⟩|⟨bs,r2⟩
    .exact SeqAt.notIn_list_reads r2 r1 c2 c1 hu' (by rw[e'];exact⟨.bl t,H,I,rfl,q⟩)
    .exact SeqAt.notIn_tuple_reads r2 r1 c2 c1 hu' (by rw[e'];exact⟨.bl t,H,I,rfl,q⟩)
  .cases e
 .cases e
end
theorem QV {k:Nat}{A:Around}(hr:Room k A):A.units+100<cLine:=by have:=hr.un;omega
theorem Qps {P:List Value->Prop}{p:Str}{ps:List Str}(k:∀a l,l.length=ps.length->P (a::l))(us:List Value)(h:us.length=(p::ps).length):P us:=by
 cases us with
 |nil=>cases h
 |cons a l=>exact k a l (Nat.succ.inj h)
theorem Qpt {P:List Value->Prop}(k:P [])(us:List Value)(h:us.length=([]:List Str).length):P us:=by
 cases us with
 |nil=>exact k
 |cons a l=>cases h
end L3
namespace L3
open PySem L2
def tyN:D->Option String
 | .non=>some "NoneType"
 | .bl _=>some "bool"
 | .int _=>some "int"
 | .str _=>some "str"
 | .tup _=>some "tuple"
 | .lst _=>some "list"
 | .dK _ _=>some "dict"
 | .dT _ _=>some "dict"
 |_=>none
def isT (T:String):D->Bool
 | .bl _=>T=="bool"||T=="int"
 | .int _=>T=="int"
 | .str _=>T=="str"
 | .tup _=>T=="tuple"
 | .lst _=>T=="list"
 | .dK _ _=>T=="dict"
 | .dT _ _=>T=="dict"
 |_=>false
def Qpu:List String:= ["int","bool","str","tuple","list","dict"]
def isiD:GN
 | [d, .ty T]=>if(tyN d).isSome=true/\T∈Qpu then some (.fz, .bl (isT T d))else none
 |_=>none
section
variable {K:PySem.W.Frag}{X:Cx}
theorem QrB {d:D}{t T:String}(h:tyN d=some t)(hT:T∈Qpu):PySem.W.kitOne K (.type t) jh=some (isT T d):=by
 simp only[Qpu,List.mem_cons,List.not_mem_nil,or_false]at hT
 cases d<;>simp only[tyN]at h<;>cases h<;>(rcases hT with rfl|rfl|rfl|rfl|rfl|rfl<;>rfl)
def rIsi (K:PySem.W.Frag):List V->Hp->VK->Prop:=fun xs H Q=>∃x tn T b,xs= [x, .ty T]/\TyOf K H x (.type tn)/\PySem.W.kitOne K (.type tn) jh=some b/\Q ef H
theorem Qnw:Qfw X kZ (rIsi X.K):=by
 intro pins s σ H xs us Q I r h
 obtain⟨x,tn,T,b,rfl,ty,e,q⟩:=h
 obtain⟨u,w',rfl,rx,rw'⟩:=QoQ r
 cases rw'
 exact Qik I rx ty e fun tk=>⟨.bl b,H,I.tok tk,rfl,q⟩
theorem RdV.tyOf {F H:Hp}{d:D}{v:V}{t:String}(s:Same F H)(h:RdV K F H d v)(e:tyN d=some t):TyOf K H v (.type t):=by
 cases d<;>simp only[tyN]at e<;>cases e
 .rw[h.non];exact .non
 .rw[h.bl];exact .bl _
 .rw[h.int];exact .int _
 .rw[h.str];exact .str _
 .obtain⟨a,vs,rfl,h1,_⟩:=h.tup s;exact .tup h1
 .obtain⟨a,vs,rfl,h1,_⟩:=h.lst s;exact .lst h1
 .rcases h with h|⟨a,rfl,vs,h1,_⟩
  .rw[Rep]at h;obtain⟨a,vs,rfl,h1,_⟩:=h;exact .dK (s _ _ h1)
  .exact .dK h1
 .rcases h with h|⟨a,rfl,vs,h1,_⟩
  .rw[Rep]at h;obtain⟨a,vs,rfl,h1,_⟩:=h;exact .dT (s _ _ h1)
  .exact .dT h1
theorem QrC:QeU K (rIsi K) isiD:=by
 intro F H ds vs k d Q s r e q
 unfold isiD at e
 split at e
 .rename_i d0 T
  split at e
  .rename_i hc
   cases e
   obtain⟨v,_,rfl,rx,u,_,rfl,ry,rfl⟩:=r
   obtain⟨t,ht⟩:=Option.isSome_iff_exists.mp hc.1
   exact⟨v,t,T,_,by rw[ry.ty],rx.tyOf s ht,QrB ht hc.2,q F _ H aA⟩
  .cases e
 .cases e
variable {F0 H0:Hp}{Ψ:Psi}{a b c e:Expr}{es:List Expr}{f f1 f2 f3:Ev->R}{fs:Ev->RA}{pos p:Pos}
theorem v_ty {T:String}{x:Str}(hm:X.mg x=none)(hv:bootBuiltins x=some jh:=by rfl)(hg:Gl X x:=by rfl)(hn:x≠"__name__":=by decide)(hd:aJ=false:=by decide):VE X F0 H0 Ψ dD (conR (.ty T)):=
 (QoJ (v:= .ty T) hg hm hv rfl hn hd).mono fun _ _ _ h=>QlS (by rw[Rep]) h
theorem Qe7 (hm:X.mg "isinstance"=none)(ha:VA X F0 H0 Ψ bd fs)(hgl:Gl X "isinstance":=by rfl)(he:starEach bd X.env=(false,eval e X.env)::starEach es X.env:=by rfl)(hpl:(backTo pos aZ).any (·.1)=false:=by rfl):VE X F0 H0 Ψ (.Call tP bd [] pos) (Q5 isiD fs):=Qhw Qnw QrC hm (by rfl) ha hgl ah ah he hpl
theorem QrD (hc:X.calm=true)(hm:X.mg "min"=none)(ha:VA X F0 H0 Ψ bd fs)(hgl:Gl X "min":=by rfl)(he:starEach bd X.env=(false,eval e X.env)::starEach es X.env:=by rfl)(hpl:(backTo pos aZ).any (·.1)=false:=by rfl):VE X F0 H0 Ψ (.Call (.Name "min" p) bd [] pos) (Q5 QlW fs):=Qhw (Qlz hc) Qpn hm (by rfl) ha hgl ah ah he hpl
end
end L3
namespace L3
open PySem L2
section
variable {κ:Type} [DecidableEq κ]
def dGet:List κ->List D->κ->Option D
 |k::ks,x::xs,q=>if k=q then some x else dGet ks xs q
 |_,_,_=>none
def QbB (ks:List κ)(k:κ):List κ:=if k∈ks then ks else ks++ [k]
def QcM (ks:List κ)(xs:List D)(k:κ)(d:D):List D:=if k∈ks then List.zipWith (fun k' x=>if k'=k then d else x) ks xs else xs++ [d]
variable {K:PySem.W.Frag}{F:Hp}
theorem Qjz {k:κ}:∀{ks:List κ} {xs:List D} {vs:List V},Reps K F xs vs->ks.length=vs.length->match dGet ks xs k with
  |some d=>∃v,valV dF k=some v/\Rep K F d v
  |none=>valV dF k=none
 | [],xs,vs,_,_=>by simp[dGet,Qm7]
 |q::ks,[],vs,r,h=>by rw[r.unnil]at h;simp at h
 |q::ks,x::xs,_,r,h=>by
  obtain⟨v,vs,rfl,rv,rs⟩:=r.uncons
  rw[dGet,List.zip_cons_cons]
  by_cases e:q=k
  .rw[if_pos e,Qfi e];exact⟨v,rfl,rv⟩
  .rw[if_neg e,Qfj e];exact Qjz rs (by simpa using h)
theorem val_some {k:κ}{ks:List κ}{xs:List D}{vs:List V}{d:D}(r:Reps K F xs vs)(h:ks.length=vs.length)(e:dGet ks xs k=some d):∃v,valV dF k=some v/\Rep K F d v:=by
 have:=Qjz (k:=k) r h
 rw[e]at this;exact this
theorem Qg0 {k:κ}{ks:List κ}{xs:List D}{vs:List V}(r:Reps K F xs vs)(h:ks.length=vs.length):(valV dF k).isSome=(dGet ks xs k).isSome:=by
 have:=Qjz (k:=k) r h
 cases e:dGet ks xs k with
 |none=>rw[e]at this;rw[this];rfl
 |some d=>rw[e]at this;obtain⟨v,e,_⟩:=this;rw[e];rfl
theorem QjA {k:κ}:∀{ks:List κ} {vs:List V},ks.length=vs.length->((ks.zip vs).any (fun kv=>decide (kv.1=k))=true↔k∈ks)
 | [],_,_=>by simp
 |q::ks,[],h=>by simp at h
 |q::ks,v::vs,h=>by
  rw[List.zip_cons_cons,List.any_cons,Bool.or_eq_true,QjA (by simpa using h),List.mem_cons,decide_eq_true_iff]
  exact or_congr eq_comm Iff.rfl
theorem QlZ {k:κ}{ks:List κ}{xs:List D}{vs:List V}{d:D}{v:V}(r:Reps K F xs vs)(h:ks.length=vs.length)(rv:Rep K F d v):
  ∃vs',putK dF k v=(QbB ks k).zip vs'/\(QbB ks k).length=vs'.length/\Reps K F (QcM ks xs k d) vs':=by
 unfold putK QbB QcM
 by_cases hk:k∈ks
 .rw[if_pos ((QjA h).2 hk),if_pos hk,if_pos hk]
  clear hk
  refine⟨List.zipWith (fun k' x=>if k'=k then v else x) ks vs,?_,by simp[h],?_⟩
  .clear r
   induction ks generalizing vs with
   |nil=>rfl
   |cons q ks ih=>
    cases vs with
    |nil=>simp at h
    |cons u vs=>
     simp only[List.zip_cons_cons,List.map_cons,List.zipWith_cons_cons]
     rw[ih (by simpa using h)]
     by_cases e:q=k<;>simp[e]
  .induction ks generalizing vs xs with
   |nil=>exact .nil
   |cons q ks ih=>
    cases xs with
    |nil=>rw[r.unnil];exact .nil
    |cons x xs=>
     obtain⟨u,vs',rfl,ru,rs⟩:=r.uncons
     simp only[List.zipWith_cons_cons]
     refine .cons ?_ (ih rs (by simpa using h))
     by_cases e:q=k<;>simp[e]<;>assumption
 .have hk':¬((ks.zip vs).any (fun kv=>decide (kv.1=k))=true):=fun z=>hk ((QjA h).1 z)
  rw[if_neg hk',if_neg hk,if_neg hk]
  exact⟨vs++ [v],by rw[List.zip_append h];rfl,by simp[h],r.app (.cons rv .nil)⟩
end
def keyD:D->Option Key
 | .int i=>some (.inl i)
 | .str x=>some (.inr x)
 |_=>none
def Qbt:List D->Option bR
 | []=>some []
 |d::ds=>(keyD d).bind fun k=>(Qbt ds).map (k:: ·)
section
variable {K:PySem.W.Frag}{F H:Hp}
theorem Ql0 {d:D}{k:Key}{v:V}(e:keyD d=some k)(r:RdV K F H d v):v=kV k:=by
 cases d<;>simp only[keyD]at e<;>cases e
 .rw[r.int];rfl
 .rw[r.str];rfl
theorem Qfl:∀{ds:List D} {ks:List Key} {vs:List V},Qbt ds=some ks->Reps K F ds vs->vs=ks.map kV
 | [],_,_,e,r=>by cases e;rw[r.unnil];rfl
 |d::ds,ks,_,e,r=>by
  obtain⟨v,vs,rfl,rv,rs⟩:=r.uncons
  simp only[Qbt]at e
  cases e1:keyD d with
  |none=>rw[e1]at e;cases e
  |some k=>
   rw[e1]at e
   cases e2:Qbt ds with
   |none=>rw[e2]at e;cases e
   |some ks'=>
    rw[e2]at e;cases e
    rw[Qfl e2 rs,Ql0 (H:=F) e1 (.inl rv)];rfl
theorem RdV.dK {ks:List Key}{xs:List D}{v:V}(s:Same F H)(h:RdV K F H (.dK ks xs) v):∃a vs,v= .ref a/\H a=some tL/\ks.length=vs.length/\Reps K F xs vs:=by
 rcases h with h|⟨a,h1,vs,h⟩
 .rw[Rep]at h
  obtain⟨a,vs,h1,h2,h3⟩:=h
  exact⟨a,vs,h1,s _ _ h2,h3⟩
 .exact⟨a,vs,h1,h⟩
theorem RdV.dT {ks:List bR}{xs:List D}{v:V}(s:Same F H)(h:RdV K F H jS v):∃a vs,v= .ref a/\H a=some tK/\ks.length=vs.length/\Reps K F xs vs:=by
 rcases h with h|⟨a,h1,vs,h⟩
 .rw[Rep]at h
  obtain⟨a,vs,h1,h2,h3⟩:=h
  exact⟨a,vs,h1,s _ _ h2,h3⟩
 .exact⟨a,vs,h1,h⟩
def Qd9:D->D->Option (Option D)
 | .dK ks xs,d=>(keyD d).map (dGet ks xs)
 | .dT ks xs, .tup l=>(Qbt l).map (dGet ks xs)
 |_,_=>none
theorem Qhz {a b:D}{o:Option D}{x y:V}(s:Same F H)(e:Qd9 a b=some o)(rx:RdV K F H a x)(ry:RdV K F H b y):∃p ov,x= .ref p/\DGet H p y ov/\(∀d,o=some d->∃v,ov=some v/\Rep K F d v)/\ov.isSome=o.isSome:=by
 cases a with
 |dK ks xs=>
  obtain⟨p,vs,rfl,h1,h2,h3⟩:=rx.dK s
  simp only[Qd9]at e
  cases e1:keyD b with
  |none=>rw[e1]at e;cases e
  |some k=>
   rw[e1]at e;cases e
   rw[Ql0 e1 ry]
   exact⟨p,_,rfl, .k h1,fun d e=>val_some h3 h2 e,Qg0 h3 h2⟩
 |dT ks xs=>
  obtain⟨p,vs,rfl,h1,h2,h3⟩:=rx.dT s
  cases b with
  |tup l=>
   simp only[Qd9]at e
   cases e1:Qbt l with
   |none=>rw[e1]at e;cases e
   |some k=>
    rw[e1]at e;cases e
    obtain⟨q,us,rfl,g1,g2⟩:=ry.tup s
    rw[Qfl e1 g2]at g1
    exact⟨p,_,rfl, .t h1 g1,fun d e=>val_some h3 h2 e,Qg0 h3 h2⟩
  |_=>cases e
 |_=>cases e
def getK:G2:=fun a b=>match Qd9 a b with
 |some (some d)=>some (.fz,d)
 |_=>none
def QrE:R2:=fun x y H Q=>∃a v,x= .ref a/\DGet H a y dm/\Q v H
theorem Qpv:OkOp K QrE getK:=by
 intro F H dx dy x y k d Q s rx ry e q
 unfold getK at e
 split at e
 .rename_i d' e1
  cases e
  obtain⟨p,ov,rfl,g,h,_⟩:=Qhz s e1 rx ry
  obtain⟨v,rfl,rv⟩:=h d rfl
  exact⟨p,v,rfl,g,q F v H mw⟩
 .cases e
variable {X:Cx}
open PySem.Spec PyProof.Rows in
theorem Qpw (hu:X.A.units+1<cLine):IxR X QrE:=by
 intro value slice pins s σ H x y v u Q I rx ry h hs
 obtain⟨a,w',rfl,g,q⟩:=h
 obtain rfl:v=Value.ref a:=rx
 have hT:=Qjv I g
 unfold subscriptTail
 refine wpAny_bind ?_
 rw[getitemInPython_of_ne hT.not_modules]
 refine wpAny_bind (wpAny_specialOf hT PySem.F.slot_dict_getitem.lookup ?_)
 have fin:wpAny am X.A (subscripted slice false bv u) (fun r s₃=>wpAny am X.A (letTemporaryGo value bv r>>=fun _=>pure r) bT X.xe s₃) X.xe s:=by
  rw[hs]
  exact wpAny_operating (wpAny_mono (QlN hu I g ry fun w'' s' I' rw'=>(⟨w',H,I',rw',q⟩:EP X pins σ Q w'' s')) (fun r s₃ h₃=>wpAny_bind (wpAny_letTemporaryGo (wpAny_pure h₃))) fun _ _ x=>x)
 first
  |exact wpAny_pure (wpAny_bind fin)
  |exact wpAny_bind (wpAny_pure (wpAny_bind fin))
  |exact wpAny_bind fin
def idxD:G2:=fun a b=>(idxL a b).or (getK a b)
theorem Qh {F0 H0:Hp}{Ψ:Psi}{a b:Expr}{f1 f2:Ev->R}{pos:Pos}(hu:X.A.units+100<cLine)(ha:VE X F0 H0 Ψ a f1)(hb:VE X F0 H0 Ψ b f2)(hs:Qht b:=by exact fun _ _=>rfl):VE X F0 H0 Ψ tO (eOp idxD f1 f2):=(QoY (ix_seq.or (Qpw aa)) ha hb hs).mono fun _ _ _ h=>Qix (ok_idxL.or Qpv) h
def hasK:G2:=fun a b=>(Qd9 b a).map fun o=>(.fz, .bl o.isSome)
def QhA:G2:=fun a b=>(Qd9 b a).map fun o=>(.fz, .bl !o.isSome)
theorem Qpx:OkOp K (fun y x H Q=>∃a o,x= .ref a/\DGet H a y o/\Q (.bl o.isSome) H) hasK:=by
 intro F H dx dy x y k d Q s rx ry e q
 unfold hasK at e
 cases e1:Qd9 dy dx with
 |none=>rw[e1]at e;cases e
 |some o=>
  rw[e1]at e;cases e
  obtain⟨p,ov,rfl,g,_,h⟩:=Qhz s e1 ry rx
  exact⟨p,ov,rfl,g,by rw[h];exact q F _ H aA⟩
theorem Qk6:OkOp K (fun y x H Q=>∃a o,x= .ref a/\DGet H a y o/\Q (.bl (!o.isSome)) H) QhA:=by
 intro F H dx dy x y k d Q s rx ry e q
 unfold QhA at e
 cases e1:Qd9 dy dx with
 |none=>rw[e1]at e;cases e
 |some o=>
  rw[e1]at e;cases e
  obtain⟨p,ov,rfl,g,_,h⟩:=Qhz s e1 ry rx
  exact⟨p,ov,rfl,g,by rw[h];exact q F _ H aA⟩
theorem OpR.or' {f:Value->Value->Sem Value}{r r':R2}(h:OpR X f r)(h':OpR X f r'):OpR X f (fun x y H Q=>r x y H Q\/r' x y H Q):=by
 intro pins s σ H x y v u Q I rx ry q
 rcases q with q|q
 .exact h pins s σ H x y v u Q I rx ry q
 .exact h' pins s σ H x y v u Q I rx ry q
theorem Qpy (hu:X.A.units+1<cLine):OpR X (compareOp .In) (fun y x H Q=>∃a o,x= .ref a/\DGet H a y o/\Q (.bl o.isSome) H):=by
 intro pins s σ H x y v u Q I rx ry h
 obtain⟨a,o,rfl,g,q⟩:=h
 obtain rfl:u=Value.ref a:=ry
 exact d_in hu I g rx fun s' I'=>⟨.bl o.isSome,H,I',rfl,q⟩
theorem Qk7 (hu:X.A.units+1<cLine):OpR X (compareOp .NotIn) (fun y x H Q=>∃a o,x= .ref a/\DGet H a y o/\Q (.bl (!o.isSome)) H):=by
 intro pins s σ H x y v u Q I rx ry h
 obtain⟨a,o,rfl,g,q⟩:=h
 obtain rfl:u=Value.ref a:=ry
 exact Qo2 hu I g rx fun s' I'=>⟨.bl (!o.isSome),H,I',rfl,q⟩
def inD:G2:=fun a b=>(inL a b).or (hasK a b)
def QaF:G2:=fun a b=>(Qdu a b).or (QhA a b)
theorem c_in (hu:X.A.units+100<cLine):QcS X .In inD:=let ⟨_,h1,h2⟩:=QtP hu;⟨_,OpR.or' h1 (Qpy aa),h2.or Qpx⟩
theorem QdE (hu:X.A.units+100<cLine):QcS X .NotIn QaF:=let ⟨_,h1,h2⟩:=Qnv hu;⟨_,OpR.or' h1 (Qk7 aa),h2.or Qk6⟩
variable {F0 H0:Hp}{Ψ:Psi}{σ:St}{pos:Pos}
theorem v_dT:VE X F0 H0 Ψ (.Dict [] [] pos) (fun _=> .ok .ow oX):=pe_dnewT.mono fun σ H Q h=>by
 obtain⟨F,ev,fi,m⟩:=h
 intro p hp
 exact m F gZ _ (Post.own (.refl fi.sub) hp fun H2 e=>⟨[],e,rfl, .nil⟩)
end
end L3
namespace L3
open PySem L2
section
variable {X:Cx}{K:PySem.W.Frag}{F0 H0 F H F' H':Hp}{Ψ:Psi}{σ:St}{ev:Ev}
def Qnx (i:Nat)(f v:Ev->R)(ev:Ev):Fl:=match v ev with
 | .ok .bo _=> .no
 | .ok _ d=>match ev[i]? with
  |some (some (.ow, .dK ks xs))=>match f ev with
   | .ok _ kd=>match keyD kd with
    |some k=>if ks.length<LIM then .nx cG else .no
    |none=> .no
   | .ex C=> .ex C
   | .no=> .no
  |some (some (.ow, .dT ks xs))=>match f ev with
   | .ok _ (.tup l)=>match Qbt l with
    |some k=>if ks.length<LIM then .nx cF else .no
    |none=> .no
   | .ex C=> .ex C
   |_=> .no
  |_=> .no
 | .ex C=> .ex C
 | .no=> .no
def Qpz:V->V->V->Hp->(Hp->Prop)->Prop:=fun o i v H Q=>∃a H',o= .ref a/\DPut H a i v H'/\Q H'
theorem Qny (hu:X.A.units+1<cLine):PSet X Qpz:=by
 intro pins s σ H o i v ov iv u Q I ro ri rv h
 obtain⟨a,H',rfl,g,q⟩:=h
 obtain rfl:ov=Value.ref a:=ro
 exact QlP hu I g ri rv fun s' I'=>⟨H',I',q⟩
theorem FI.owD {i:Nat}{ks:List Key}{xs:List D}(fi:FI K F0 H0 F H ev σ)(e:ev[i]?=some (some (.ow, .dK ks xs))):∃a vs,σ[i]?=some je/\H a=some tL/\ks.length=vs.length/\Reps K F xs vs:=by
 obtain⟨_,v,e1,a,rfl,h1,h2,vs,h3,h4⟩:=fi.at_ i _ _ e
 exact⟨a,vs,e1,h3,h4⟩
theorem FI.owT {i:Nat}{ks:List bR}{xs:List D}(fi:FI K F0 H0 F H ev σ)(e:ev[i]?=some sJ):∃a vs,σ[i]?=some je/\H a=some tK/\ks.length=vs.length/\Reps K F xs vs:=by
 obtain⟨_,v,e1,a,rfl,h1,h2,vs,h3,h4⟩:=fi.at_ i _ _ e
 exact⟨a,vs,e1,h3,h4⟩
theorem Qnz {i:Nat}{f v:Ev->R}{E:Ends}(q:tSv K F0 H0 Ψ (Qnx i f v) E σ H):tAsg (tV K F0 H0 Ψ v) (gSub gk bH Qpz) E σ H:=by
 obtain⟨F,ev,fi,m⟩:=q
 refine⟨F,ev,fi,?_⟩
 unfold Qnx at m
 cases h3:v ev with
 |no=>rw[h3]at m;exact m
 |ex C=>rw[h3]at m;exact m
 |ok k d=>
  rw[h3]at m
  intro F1 y H1 p
  have go:∀F2,Post K F H .fz d F2 y H1->FlowTo K F0 H0 Ψ F E (match ev[i]? with
   |some (some (.ow, .dK ks xs))=>match f ev with
    | .ok _ kd=>match keyD kd with
     |some k=>if ks.length<LIM then .nx cG else .no
     |none=> .no
    | .ex C=> .ex C
    | .no=> .no
   |some (some (.ow, .dT ks xs))=>match f ev with
    | .ok _ (.tup l)=>match Qbt l with
     |some k=>if ks.length<LIM then .nx cF else .no
     |none=> .no
    | .ex C=> .ex C
    |_=> .no
   |_=> .no)->gSub gk bH Qpz y σ H1 E.nx:=fun F2 p2 m=>by
   split at m
   .rename_i ks xs e
    obtain⟨a,vs,e1,h1,h2,h2'⟩:=fi.owD e
    refine⟨.ref a,e1,F2,ev,fi.later p2.st,?_⟩
    cases h4:f ev with
    |no=>rw[h4]at m;exact m
    |ex C=>rw[h4]at m;exact m
    |ok k' d'=>
     rw[h4]at m
     intro F3 z H3 p3
     dsimp only at m
     cases h5:keyD d' with
     |none=>rw[h5]at m;exact m.elim
     |some kk=>
      rw[h5]at m
      dsimp only at m
      by_cases hl:ks.length<LIM
      .rw[if_pos hl]at m
       have st:=p2.st.trans p3.st
       obtain⟨vs',g1,g2,g3⟩:=QlZ (k:=kk) (h2'.mono st.up) h2 lI
       refine⟨a,_,rfl,?_,m F3 _ σ st.up ((fi.later st).mut e e1 fun H2 z=>⟨vs',z,g2,g3⟩)⟩
       rw[Ql0 h5 p3.val.rd,←g1]
       exact .k (st.keep _ _ h1) (by rw[List.length_zip,←h2,Nat.min_self];exact Nat.lt_of_lt_of_le hl QS)
      .rw[if_neg hl]at m;exact m.elim
   .rename_i ks xs e
    obtain⟨a,vs,e1,h1,h2,h2'⟩:=fi.owT e
    refine⟨.ref a,e1,F2,ev,fi.later p2.st,?_⟩
    cases h4:f ev with
    |no=>rw[h4]at m;exact m
    |ex C=>rw[h4]at m;exact m
    |ok k' d'=>
     rw[h4]at m
     intro F3 z H3 p3
     cases d' with
     |tup l=>
      dsimp only at m
      cases h5:Qbt l with
      |none=>rw[h5]at m;exact m.elim
      |some kk=>
       rw[h5]at m
       dsimp only at m
       by_cases hl:ks.length<LIM
       .rw[if_pos hl]at m
        have st:=p2.st.trans p3.st
        obtain⟨vs',g1,g2,g3⟩:=QlZ (k:=kk) (h2'.mono st.up) h2 lI
        obtain⟨b,us,rfl,hb,hus⟩:=p3.val.rd.tup p3.st.sub
        rw[Qfl h5 hus]at hb
        refine⟨a,_,rfl,?_,m F3 _ σ st.up ((fi.later st).mut e e1 fun H2 z=>⟨vs',z,g2,g3⟩)⟩
        rw[←g1]
        exact .t (st.keep _ _ h1) hb (by rw[List.length_zip,←h2,Nat.min_self];exact Nat.lt_of_lt_of_le hl QS)
       .rw[if_neg hl]at m;exact m.elim
     |_=>exact m.elim
   .exact m.elim
  cases k with
  |bo=>exact m.elim
  |fz=>exact go F1 p m
  |ow=>obtain⟨F2,p2⟩:=p.frz;exact go F2 p2 m
def Ql1:Option eR->Bool
 |some (some (.ow, .lst _))=>true
 |_=>false
def QcU (i:Nat)(f v:Ev->R)(ev:Ev):Fl:=if Ql1 ev[i]?=true then Qno i f v ev else Qnx i f v ev
variable {e i':Expr}{f v:Ev->R}{x:Str}{p apos cpos pos:Pos}
theorem PS.or {st:Stmt}{t t':TS}(h:PS X st t)(h':PS X st t'):PS X st (fun D σ H=>t D σ H\/t' D σ H):=fun pins s σ H D I q=>by
 rcases q with q|q
 .exact h pins s σ H D I q
 .exact h' pins s σ H D I q
theorem Qch (hu:X.A.units+100<cLine)(i:Nat)(he:VE X F0 H0 Ψ e v)(hi:VE X F0 H0 Ψ i' f)(hN:X.N[i]?=some x:=by rfl)(hv:Vis X.env.scope x:=by first|exact Or.inl rfl|exact Or.inr fE|exact Or.inr fC)(hd:aJ=false:=by decide)
  (hcd:(x==("__classdict__":Str))=false:=by decide)
  (ha:∀v,assign qS X.env v=(do
   let ov←holding [v] oq
   let iv←holding [v,ov] (eval i' X.env)
   standAt apos
   holding [v,ov,iv] (setItem ov iv v)
   release [v,ov,iv] []):=by intro _;rfl)
  (hs:swapsWithSole [.Subscript bz i' apos] e pos.line X.env=pure false:=by rfl) (hw:swappedStores [.Subscript bz i' apos] e X.env=pure none:=by rfl)
  (h1:(assignEach [.Subscript bz i' apos] X.env).map (·.2)= [assign qS X.env]:=by rfl):
  VS X F0 H0 Ψ (.Assign [.Subscript bz i' apos] e pos) (QcU i f v):=
 (PS.or (Qoe he (Qod fA hi Qm5 ha) hs hw h1) (Qoe he (Qod fA hi (Qny aa) ha) hs hw h1)).mono fun E σ H q=>by
  obtain⟨F,ev,fi,m⟩:=q
  unfold QcU at m
  by_cases c:Ql1 ev[i]?=true
  .rw[if_pos c]at m;exact .inl (Qk5 ⟨F,ev,fi,m⟩)
  .rw[if_neg c]at m;exact .inr (Qnz ⟨F,ev,fi,m⟩)
abbrev G1:=D->Option bm
def un1 (g:G1):R->R
 | .ok _ a=>toR (g a)
 |r=>r
def eUn (g:G1)(f:Ev->R)(ev:Ev):R:=un1 g bS
def negD:G1
 | .int i=>some (.fz, .int (-i))
 |_=>none
theorem Qk8 {a:Expr}(ha:VE X F0 H0 Ψ a f):VE X F0 H0 Ψ (.UnaryOp .USub a pos) (eUn negD f):=(Qtz Qq4 ha).mono fun σ H Q h=>by
 obtain⟨F,ev,fi,m⟩:=h
 refine⟨F,ev,fi,?_⟩
 simp only[eUn]at m
 cases h1:f ev with
 |no=>rw[h1]at m;exact m
 |ex C=>rw[h1]at m;exact m
 |ok k d=>
  rw[h1]at m
  intro F1 x H1 p1
  simp only[un1]at m
  cases d with
  |int i=>exact⟨i,p1.val.rd.int,m F1 _ H1 ⟨p1.st,by rw[Val,Rep]⟩⟩
  |_=>exact m.elim
def chnR (g g':G2)(r1 r2:R)(r3:R):R:=match r1 with
 | .ok _ a=>match r2 with
  | .ok _ b=>match g a b with
   |some (_, .bl t)=>if t then op2 g' r2 r3 else .ok .fz cp
   |_=> .no
  |r=>r
 |r=>r
def QfI (g g':G2)(f1 f2 f3:Ev->R)(ev:Ev):R:=chnR g g' jL iZ (f3 ev)
theorem Ql2 {r r':R2}{g g':G2}{f1 f2 f3:Ev->R}{Q:VK}(ho:OkOp K r g)(ho':OkOp K r' g')(h:tV K F0 H0 Ψ uc σ H Q):Qoi r r' mD mC (tV K F0 H0 Ψ f3) σ H Q:=by
 obtain⟨F,ev,fi,m⟩:=h
 refine⟨F,ev,fi,?_⟩
 simp only[QfI]at m
 cases h1:f1 ev with
 |no=>rw[h1]at m;exact m
 |ex C=>rw[h1]at m;exact m
 |ok k1 d1=>
  rw[h1]at m
  intro F1 x H1 p1
  refine⟨F1,ev,fi.later p1.st,?_⟩
  cases h2:f2 ev with
  |no=>rw[h2]at m;exact m
  |ex C=>rw[h2]at m;exact m
  |ok k2 d2=>
   rw[h2]at m
   intro F2 y H2 p2
   simp only[chnR]at m
   have s12:=p1.st.trans p2.st
   cases e:g d1 d2 with
   |none=>rw[e]at m;exact m.elim
   |some z=>
    obtain⟨k,d⟩:=z
    rw[e]at m
    cases d with
    |bl t=>
     refine ho F2 H2 d1 d2 x y k (.bl t) _ p2.st.sub qy p2.val.rd e fun F3 v3 H3 p3=>⟨t,p3.val.rd.bl,?_⟩
     have s3:=s12.trans p3.st
     cases t with
     |false=>
      rw[if_neg Bool.false_ne_true]
      exact m F3 _ H3 ⟨s3,by rw[Val,Rep]⟩
     |true=>
      rw[if_pos rfl]
      refine⟨F3,ev,fi.later s3,?_⟩
      have m:match op2 g' oh (f3 ev)with
       | .ok k d=>∀F' v H',Post K F H k d F' v H'->Q v H'
       | .ex C=>∀F' H',Step F0 H0 F' H'->Ψ C H'
       | .no=>False:=m
      cases h3:f3 ev with
      |no=>rw[h3]at m;exact m
      |ex C=>rw[h3]at m;exact m
      |ok k4 d4=>
       rw[h3]at m
       intro F4 w' H4 p4
       have m:match toR (g' d2 d4)with
        | .ok k d=>∀F' v H',Post K F H k d F' v H'->Q v H'
        | .ex C=>∀F' H',Step F0 H0 F' H'->Ψ C H'
        | .no=>False:=m
       cases e':g' d2 d4 with
       |none=>rw[e']at m;exact m.elim
       |some z=>
        obtain⟨k5,d5⟩:=z
        rw[e']at m
        have s4:=s3.trans p4.st
        exact ho' F4 H4 d2 d4 y w' k5 d5 Q p4.st.sub ((p2.val.rd.later p3.st).later p4.st) p4.val.rd e' fun F5 v5 H5 p5=>m F5 v5 H5 ⟨s4.trans p5.st,p5.val.early s4.keep⟩
    |_=>exact m.elim
theorem Qkb {a b c:Expr}{op op':CmpOp}{g g':G2}{f1 f2 f3:Ev->R}(hc:QcS X op g)(hc':QcS X op' g')(ha:VE X F0 H0 Ψ a f1)(hb:VE X F0 H0 Ψ b f2)(hd:VE X F0 H0 Ψ c f3)(hm:lastMarks [op,op'] [b,c]=false:=by with_unfolding_all rfl):
  VT X F0 H0 Ψ qU uc:=let ⟨_,ho,hg⟩:=hc;let ⟨_,ho',hg'⟩:=hc';(QmX ho ho' ha hb hd hm).mono fun σ H Q h=>by
  obtain⟨F,ev,fi,m⟩:=h
  exact Ql2 (K:=X.K) (F0:=F0) (H0:=H0) (Ψ:=Ψ) (f1:=f1) (f2:=f2) (f3:=f3) hg hg' (Q:=fun x H'=>∃k,x= .bl k/\Q k H') (by
   refine⟨F,ev,fi,?_⟩
   cases q:QfI g g' f1 f2 f3 ev with
   |no=>rw[q]at m;exact m
   |ex C=>rw[q]at m;exact m
   |ok k d=>
    rw[q]at m
    intro F' v H' p
    cases d with
    |bl b=>exact⟨b,p.val.rd.bl,m F' H' p.st⟩
    |_=>exact m.elim)
def absD:GN
 | [.int i]=>some (.fz, .int (if i<0 then-i else i))
 |_=>none
theorem QrF:QeU K (fun xs H Q=>∃i,xs= [.int i]/\Q (.int (if i<0 then-i else i)) H) absD:=by
 intro F H ds vs k d Q s r e q
 unfold absD at e
 split at e
 .rename_i i
  cases e
  obtain⟨v,_,rfl,rx,rfl⟩:=r
  exact⟨i,by rw[rx.int],q F _ H aA⟩
 .cases e
theorem QtQ {es:List Expr}{fs:Ev->RA}{p:Pos}(hm:X.mg "abs"=none)(ha:VA X F0 H0 Ψ bd fs)(hgl:Gl X "abs":=by rfl)(he:starEach bd X.env=(false,eval e X.env)::starEach es X.env:=by rfl)(hpl:(backTo pos aZ).any (·.1)=false:=by rfl):VE X F0 H0 Ψ (.Call (.Name "abs" p) bd [] pos) (Q5 absD fs):=Qhw QmZ QrF hm (by rfl) ha hgl ah ah he hpl
end
end L3
namespace L2
open PySem PySem.Spec PyProof.Rows
section
variable {X:Cx}{e st:Expr}{te ts:TE}{pos p2:Pos}
def QpA (K:PySem.W.Frag):V->V->Hp->VK->Prop:=fun x k H Q=>∃a xs,x= .ref a/\SqL K H a xs/\((k= .int 1/\∀p,H p=none->Q gZ (upd H p aH))\/(k= .int (-1)/\∀p,H p=none->Q gZ (upd H p (.lst xs.reverse))))
theorem QnA (items:Array Value):slicePick items none none (some 1)=items:=by
 have h:=slicePick_plain items none none
 have e:slicePick items none none (some 1)=slicePick items none none none:=rfl
 rw[e,h]
 simp
 rw[List.take_of_length_le al]
theorem QpB (he:PE X e te)(hk:PE X st ts):PE X (.Subscript e ip pos) (tOp (QpA X.K) te ts):=by
 intro pins s σ H Q I h
 refine Subscript_ (thn cq fun v s1 ⟨x,H1,I1,r1,q1⟩=>?_)
 refine wpAny_Slice ?_
 rw[evalPart_none]
 refine wpAny_pure (wpAny_pure ?_)
 rw[evalPart_some]
 refine thn (hk pins s1 σ H1 _ I1 q1) fun vk s3 ⟨k,H3,I3,rk,q3⟩=>?_
 have I4:Inv X pins σ H3 {s3 with heap:=s3.heap.push {cls:= .type "slice",data:= .fields #[.none, .none,vk]}}:=I3.kept (t':=s3.toks) fun b ob q=>Heap.get?_push_of_some _ q
 obtain⟨a,xs,rfl,hx,q⟩:=q3
 cases r1
 obtain⟨its,r,ht,hz⟩:=I4.list hx
 have hlen:=r.length
 show wpAny am X.A (subscriptTail e ip bv qr) bT X.xe {s3 with heap:=s3.heap.push {cls:= .type "slice",data:= .fields #[.none, .none,vk]}}
 refine tail_any (ops:= [.ref a, .ref s3.heap.objs.size]) ht.isList.typeIs slot_list_getitem.lookup ?_ (by with_unfolding_all rfl)
 rcases q with⟨rfl,q⟩|⟨rfl,q⟩<;>obtain⟨t,rfl⟩:=rk
 .refine wpAny_getItem_list_slice ht.isList (Heap.IsSliceOf.new ..) .none .none (.int 1 t) al ?_ (by rw[List.size_toArray]<;>omega)
  rw[QnA]
  refine⟨.ref _,_,I4.laid (t':=s3.toks) (o:= .lst xs) (fun b ob q=>Heap.get?_push_of_some _ q) aw ?_,rfl,q _ (I4.hok.fresh aw)⟩
  exact⟨hz,_,0,r,Heap.get?_push_size _ rfl⟩
 .refine wpAny_getItem_list_slice ht.isList (Heap.IsSliceOf.new ..) .none .none (.int (-1) t) al ?_ (by rw[List.size_toArray]<;>omega)
  rw[PySem.W.krv_pick]
  refine⟨.ref _,_,I4.laid (t':=s3.toks) (o:= .lst xs.reverse) (fun b ob q=>Heap.get?_push_of_some _ q) aw ?_,rfl,q _ (I4.hok.fresh aw)⟩
  exact⟨by simpa using hz,_,0,r.reverse,Heap.get?_push_size _ rfl⟩
end
end L2
namespace L3
open PySem L2
section
variable {X:Cx}{K:PySem.W.Frag}{F0 H0 F H F' H':Hp}{Ψ:Psi}{σ:St}{ev:Ev}
theorem Reps.rev:∀{ds:List D} {vs:List V},Reps K F ds vs->Reps K F ds.reverse vs.reverse
 | [],_,h=>by rw[h.unnil];exact .nil
 |_::_,_,h=>by obtain⟨v,r,rfl,h1,h2⟩:=h.uncons;rw[List.reverse_cons,List.reverse_cons];exact h2.rev.app (.cons h1 .nil)
def QjB:G2
 | .lst xs, .int k=>if k=1 then some (.ow, .lst xs)else if k= -1 then some (.ow, .lst xs.reverse)else none
 | .scr xs, .int k=>if k=1 then some (.ow, .lst xs)else if k= -1 then some (.ow, .lst xs.reverse)else none
 |_,_=>none
theorem QpC:OkOp K (QpA K) QjB:=by
 intro F H dx dy x y k d Q s rx ry e q
 have go:∀(xs:List D) (i:Int) (a:Addr) (vs:List V),SqL K H a vs->Reps K F xs vs->y= .int i->(if i=1 then some (Kd.ow,D.lst xs)else if i= -1 then some (.ow, .lst xs.reverse)else none)=some (k,d)->QpA K bv y H Q:=fun xs i a vs hs hr hy e=>by
  split at e
  .rename_i h1;cases e;subst h1
   exact⟨a,vs,rfl,hs, .inl ⟨hy,fun p hp=>q F _ _ (Post.own dQ hp fun H2 e=>⟨_,e,hr⟩)⟩⟩
  .split at e
   .rename_i h1;cases e;subst h1
    exact⟨a,vs,rfl,hs, .inr ⟨hy,fun p hp=>q F _ _ (Post.own dQ hp fun H2 e=>⟨_,e,hr.rev⟩)⟩⟩
   .cases e
 unfold QjB at e
 split at e<;>first|(cases e;done)|skip
 .obtain⟨a,vs,rfl,h1,h2⟩:=rx.lst s
  exact go _ _ a vs sX h2 ry.int e
 .obtain⟨a,vs,rfl,h1,h2⟩:=rx.scr s
  exact go _ _ a vs h1 h2 ry.int e
theorem Ql3 {a st:Expr}{f1 f2:Ev->R}{p2 pos:Pos}(ha:VE X F0 H0 Ψ a f1)(hb:VE X F0 H0 Ψ st f2):VE X F0 H0 Ψ (.Subscript a ip pos) (eOp QjB f1 f2):=(QpB ha hb).mono fun _ _ _ h=>Qix QpC h
def cutG {α:Type}(xs:List α)(lo hi:Option Int):List α:=(xs.drop gH).take cE
theorem Reps.cut {ds:List D}{vs:List V}(r:Reps K F ds vs)(lo hi:Option Int):Reps K F (cutG ds lo hi) (cutV vs lo hi):=by
 unfold cutG cutV
 rw[r.length]
 exact(r.drop _).take _
def slD:D->Option Int->Option Int->Option bm
 | .lst xs,lo,hi=>some (.ow, .lst oz)
 | .scr xs,lo,hi=>some (.ow, .lst oz)
 | .tup xs,lo,hi=>if¬(HT.sIx xs.length 0 lo=0/\HT.sIx xs.length xs.length hi=xs.length)then some (.fz, .tup oz)else none
 |_,_,_=>none
inductive RO where|ok (o:Option Int)|ex (C:Addr)|no
def oNo (_:Ev):RO:= .ok none
def oS:R->RO
 | .ok _ (.int i)=> .ok (some i)
 | .ex C=> .ex C
 |_=> .no
def QhB (f:Ev->R)(ev:Ev):RO:=oS bS
def tVO (K:PySem.W.Frag)(F0 H0:Hp)(Ψ:Psi)(f:Ev->RO):TO:=fun σ H Q=>∃F ev,FI K F0 H0 F H ev σ/\match f ev with
 | .ok o=>∀F' H',Step F H F' H'->Q o H'
 | .ex C=>∀F' H',Step F0 H0 F' H'->Ψ C H'
 | .no=>False
def VO (X:Cx)(F0 H0:Hp)(Ψ:Psi)(e:Option Expr)(f:Ev->RO):Prop:=PO X e (tVO X.K F0 H0 Ψ f)
theorem PO.mono' {e:Option Expr}{t t':TO}(h:PO X e t)(i:∀σ H Q,t' σ H Q->t σ H Q):PO X e t':=fun pins s σ H Q I q=>h pins s σ H Q I iX
theorem Qex:VO X F0 H0 Ψ none oNo:=PO.mono' QoW fun σ H Q h=>by
 obtain⟨F,ev,fi,m⟩:=h
 exact m F H fi.refl
theorem Qey {e:Expr}{f:Ev->R}(h:VE X F0 H0 Ψ e f):VO X F0 H0 Ψ sI (QhB f):=PO.mono' (QoX h) fun σ H Q h=>by
 obtain⟨F,ev,fi,m⟩:=h
 refine⟨F,ev,fi,?_⟩
 simp only[QhB]at m
 cases h1:f ev with
 |no=>rw[h1]at m;exact m
 |ex C=>rw[h1]at m;exact m
 |ok k d=>
  rw[h1]at m
  intro F1 x H1 p
  cases d with
  |int i=>exact⟨i,p.val.rd.int,m F1 H1 p.st⟩
  |_=>exact m.elim
def slR (r:R)(lo hi:RO):R:=match r with
 | .ok _ d=>match lo with
  | .ok l=>match hi with
   | .ok h=>toR (slD d l h)
   | .ex C=> .ex C
   | .no=> .no
  | .ex C=> .ex C
  | .no=> .no
 |r=>r
def eSl (f:Ev->R)(fl fh:Ev->RO)(ev:Ev):R:=slR bS (fl ev) (fh ev)
theorem v_sl {e:Expr}{lo hi:Option Expr}{f:Ev->R}{fl fh:Ev->RO}{p2 pos:Pos}(he:VE X F0 H0 Ψ e f)(hl:VO X F0 H0 Ψ lo fl)(hh:VO X F0 H0 Ψ hi fh):VE X F0 H0 Ψ sv (eSl f fl fh):=
 (Qm4 (sl_list.or Qrf) he hl hh).mono fun σ H Q h=>by
  obtain⟨F,ev,fi,m⟩:=h
  refine⟨F,ev,fi,?_⟩
  simp only[eSl]at m
  cases h1:f ev with
  |no=>rw[h1]at m;exact m
  |ex C=>rw[h1]at m;exact m
  |ok k d=>
   rw[h1]at m
   intro F1 x H1 p1
   refine⟨F1,ev,fi.later p1.st,?_⟩
   simp only[slR]at m
   cases h2:fl ev with
   |no=>rw[h2]at m;exact m
   |ex C=>rw[h2]at m;exact m
   |ok l=>
    rw[h2]at m
    intro F2 H2 s2
    refine⟨F2,ev,(fi.later p1.st).later s2,?_⟩
    cases h3:fh ev with
    |no=>rw[h3]at m;exact m
    |ex C=>rw[h3]at m;exact m
    |ok hh'=>
     rw[h3]at m
     intro F3 H3 s3
     have m:match toR (slD d l hh')with
      | .ok k d=>∀F' v H',Post X.K F H k d F' v H'->Q v H'
      | .ex C=>∀F' H',Step F0 H0 F' H'->Ψ C H'
      | .no=>False:=m
     have st:=(p1.st.trans s2).trans s3
     have rx:=(p1.val.rd.later s2).later s3
     cases d with
     |lst xs=>
      obtain⟨a,vs,rfl,h4,h5⟩:=rx.lst st.sub
      refine .inl ⟨a,vs,rfl,SqL.of h4,fun p hp=>m F3 _ _ (Post.own st hp fun H2 e=>⟨_,e,h5.cut _ _⟩)⟩
     |scr xs=>
      obtain⟨a,vs,rfl,h4,h5⟩:=rx.scr st.sub
      refine .inl ⟨a,vs,rfl,h4,fun p hp=>m F3 _ _ (Post.own st hp fun H2 e=>⟨_,e,h5.cut _ _⟩)⟩
     |tup xs=>
      obtain⟨a,vs,rfl,h4,h5⟩:=rx.tup st.sub
      simp only[slD]at m
      split at m
      .rename_i k' d' e'
       split at e'
       .rename_i hw
        cases e'
        refine .inr ⟨a,vs,rfl,SqT.of h4,by rw[←h5.length];exact hw,fun p hp=>?_⟩
        obtain⟨F4,p4⟩:=Post.made (K:=X.K) (d:= .tup (cutG xs l hh')) (o:= .tup (cutV vs l hh')) st hp fun F2 up e=>by rw[Rep];exact⟨p,_,rfl,e,(h5.cut l hh').mono up⟩
        exact m F4 _ _ p4
       .cases e'
      .rename_i e';split at e'<;>cases e'
      .exact m.elim
     |_=>exact m.elim
def mulS:G2
 | .str x, .int n=>if 0<=n/\n<=1000/\x.length<=1000 then some (.fz, .str (Txt.mul x n))else none
 |_,_=>none
def QrG:R2:=fun x y H Q=>∃z n,x= .str z/\y= .int n/\0<=n/\n<=1000/\z.length<=1000/\Q (.str (Txt.mul z n)) H
theorem QjC {x:Str}{n:Int}(h0:0<=n)(h1:n<=1000)(hx:x.length<=1000):MulOk x n:=by
 refine⟨?_,fun hn _=>?_,fun hn _=>?_⟩
 .simp;omega
 .have h2:(x.length:Int)<=1000:=by omega
  have h3:(2^63-1:Int)/n≥1000:=by
   refine Int.le_ediv_of_mul_le aa ?_
   have:(1000:Int)*n<=1000*1000:=Int.mul_le_mul_of_nonneg_left h1 ah
   omega
  omega
 .have h2:x.length*n.toNat<=1000*1000:=Nat.mul_le_mul hx aa
  simp only[Builtin.Str.tooLong]
  have:=QS
  simp
  omega
theorem QpD:OpR X ku QrG:=by
 intro pins s σ H x y v u Q I rx ry h
 obtain⟨z,n,rfl,rfl,h0,h1,hz,q⟩:=h
 obtain⟨t,rfl⟩:=rx
 obtain⟨t',rfl⟩:=ry
 exact SB.mul (QjC h0 h1 hz) fun t'' k=>⟨.str (Txt.mul z n),H,I.tok k,⟨t'',rfl⟩,q⟩
theorem QpE:OkOp K QrG mulS:=by
 intro F H dx dy x y k d Q s rx ry e q
 unfold mulS at e
 split at e<;>first|(cases e;done)|skip
 rename_i z n
 split at e
 .rename_i hc
  cases e
  exact⟨z,n,rx.str,ry.int,hc.1,hc.2.1,hc.2.2,q F _ H aA⟩
 .cases e
def mulD:G2:=fun a b=>(mulL a b).or (mulS a b)
theorem QcV {a b:Expr}{f1 f2:Ev->R}{pos:Pos}(ha:VE X F0 H0 Ψ a f1)(hb:VE X F0 H0 Ψ b f2):VE X F0 H0 Ψ (.BinOp a .Mult b pos) (eOp mulD f1 f2):=Qk4 (OpR.or' Qpj QpD) (ok_mulL.or QpE) ha hb
def lenD:GN:=lenL
theorem QfJ {e:Expr}{fs:Ev->RA}{p pos:Pos}(hm:X.mg "len"=none)(ha:VA X F0 H0 Ψ [e] fs)(hgl:Gl X "len":=by rfl)(he:starEach [e] X.env=(false,eval e X.env)::starEach [] X.env:=by rfl):VE X F0 H0 Ψ oY (Q5 lenD fs):=Qrx hm ha hgl he
end
end L3
namespace L2
open PySem PySem.Spec PyProof.Rows
section
variable {X:Cx}{pins:List (Addr×Obj)}{σ:St}{H:Hp}{s:Shared}{h':Heap}
theorem Inv.turnedL {t':Nat}{fp:List Addr}(I:Inv X pins σ H s)(k:∀b o,b∉fp->s.heap.get? b=some o->h'.get? b=some o)(hf:∀b∈fp,FpOk X pins H b):Inv X pins σ H {s with heap:=h',toks:=t'}:=by
 have nit:∀b u,H b=some u->b∉fp:=fun b u e z=>by rw[(hf b z).1]at e;cases e
 refine I.step (g':=s.gens) (d':=s.drawn) (ch:=fp) (fun b hb=>?_) (fun b o _ _ hc e _=>k b o hc e) (fun b o _ _ hc e _=>⟨o.slots,k b o hc e⟩) (fun _ _ _ _ n=>n)
  (fun b o hc e=>⟨o,k b o hc e⟩) (fun _ _ e=>e) (fun _ _ _ e=>e) (fun b ps e=>⟨#[],by rw[e];simp⟩) (fun m hm=>?_) (fun b u e=>?_) I.bare
 .obtain⟨f0,f1,f2,f3,f4,f5⟩:=hf b hb
  exact⟨f3,f1,f4,f5⟩
 .obtain⟨o,es,ep,ho,r⟩:=hm
  exact⟨o,es,ep,k _ o (fun z=>(hf _ z).2.1 rfl) ho,r⟩
 .refine(I.hok b u e).stay (fun c v hc q=>k c v ?_ q) (fun _ q=>q) fun _ _ q=>q
  rcases hc with z|z
  .rw[z];exact nit b u e
  .exact nit c _ z
end
section
variable {X:Cx}
end
end L2
namespace L3
open PySem L2
section
variable {X:Cx}{F0 H0:Hp}{Ψ:Psi}
end
end L3
namespace ST
open PySem PySem.SetTable
def it (f:Nat->Nat):Nat->Nat->Nat
 |0,x=>x
 |n+1,x=>it f n (f x)
def adv (m:Nat)(p:Probe):Probe:=
 if p.more>0 then{p with j:=p.j+1,more:=p.more-1}else
 {p with j:=(leap m p.i p.perturb).1,more:=runEnd m (leap m p.i p.perturb).1-(leap m p.i p.perturb).1,i:=(leap m p.i p.perturb).1,perturb:=(leap m p.i p.perturb).2}
def st0 (m:Nat)(h:Int):Probe:={j:=bits h %(m+1),more:=runEnd m (bits h %(m+1))-bits h %(m+1),i:=bits h %(m+1),perturb:=bits h,dummy:=none}
def st (m:Nat)(h:Int):Nat->Probe
 |0=>st0 m h
 |n+1=>adv m (st m h n)
def pos (m:Nat)(h:Int)(n:Nat):Nat:=(st m h n).j
def hd (m:Nat)(h:Int):Nat->Nat×Nat
 |0=>(bits h %(m+1),bits h)
 |n+1=>leap m (hd m h n).1 (hd m h n).2
def head (m:Nat)(h:Int)(k:Nat):Probe:={j:=(hd m h k).1,more:=runEnd m (hd m h k).1-(hd m h k).1,i:=(hd m h k).1,perturb:=(hd m h k).2,dummy:=none}
abbrev El:=Nat×(Int×Value)
section
variable {t:SetTable}{es:Array (Int×Value)}{L:List El}
def cnt (j:Nat):List Nat->Nat
 | []=>0
 |x::l=>if x<j then cnt j l+1 else 0
end
end ST
namespace ST
open PySem PySem.SetTable
section
variable {t:SetTable}{es:Array (Int×Value)}{L:List El}
def ins (L:List El)(e:El):List El:=L.take (cnt e.1 (L.map (·.1)))++e::L.drop (cnt e.1 (L.map (·.1)))
end
end ST
namespace ST
open PySem PySem.SetTable
section
variable {prog:Program}{w:World}{K:Type} [DecidableEq K]{knd:KeyKind prog w K}{A:Around}{E:Value->Shared->Prop}{s:Shared}
end
end ST
namespace ST
open PySem PySem.SetTable
section
variable {prog:Program}{w:World}{K:Type} [DecidableEq K]{knd:KeyKind prog w K}{A:Around}{E:Value->Shared->Prop}{s:Shared}
end
end ST
namespace ST
open PySem PySem.SetTable
def dd {κ:Type} [DecidableEq κ](l:List κ):List κ:=l.foldl (fun ds k=>if k∈ds then ds else ds++ [k]) []
section
variable {prog:Program}{w:World}{K:Type} [DecidableEq K]{knd:KeyKind prog w K}{A:Around}{R:Result->Shared->Prop}{E:Value->Shared->Prop}{s:Shared}
def Keyed (knd:KeyKind prog w K)(h:Heap)(vs:List Value)(ks:List (List K)):Prop:=vs.length=ks.length/\∀(i:Nat) v,vs[i]?=some v->∃ad k,v= .ref ad/\ks[i]?=some k/\IsTupleKey knd h k ad
end
end ST
namespace ST
open PySem PySem.SetTable
section
variable {prog:Program}{w:World}{K:Type} [DecidableEq K]{knd:KeyKind prog w K}{A:Around}{E:Value->Shared->Prop}{s:Shared}
end
end ST
namespace L3
open PySem L2
section
variable {X:Cx}
def QdF:List D->Option (List bR)
 | []=>some []
 | .tup l::ds=>(Qbt l).bind fun k=>(QdF ds).map (k:: ·)
 |_=>none
theorem QhC {K:PySem.W.Frag}{F:Hp}:∀{ds:List D} {ks:List bR} {vs:List V},QdF ds=some ks->Reps K F ds vs->vs.length=ks.length/\∀(i:Nat) v,vs[i]?=some v->∃b k,v= .ref b/\ks[i]?=some k/\F b=some dS
 | [],_,_,e,r=>by cases e;rw[r.unnil];simp
 |d::ds,ks,_,e,r=>by
  obtain⟨v,vs,rfl,rv,rs⟩:=r.uncons
  cases d with
  |tup l=>
   simp only[QdF]at e
   cases e1:Qbt l with
   |none=>rw[e1]at e;cases e
   |some k=>
    rw[e1]at e
    cases e2:QdF ds with
    |none=>rw[e2]at e;cases e
    |some ks'=>
     rw[e2]at e;cases e
     obtain⟨h1,h2⟩:=QhC e2 rs
     refine⟨by simp[h1],fun i v' hv=>?_⟩
     cases i with
     |zero=>
      simp at hv;subst hv
      rw[Rep]at rv
      obtain⟨b,us,rfl,hb,hr⟩:=rv
      rw[Qfl e1 hr]at hb
      exact⟨b,k,rfl,rfl,hb⟩
     |succ i=>
      obtain⟨b,k',a1,a2,a3⟩:=h2 i v' (by simpa using hv)
      exact⟨b,k',a1,by simpa using a2,a3⟩
  |_=>cases e
variable {F0 H0:Hp}{Ψ:Psi}
end
end L3
namespace L2
open PySem PySem.Spec PyProof.Rows
section
variable {X:Cx}{a b c d:Expr}{ta tb tc td:TE}{pos:Pos}
end
end L2
namespace L3
open PySem L2
section
variable {X:Cx}{K:PySem.W.Frag}{F0 H0 F H F' H':Hp}{Ψ:Psi}{σ:St}{ev:Ev}
end
end L3
namespace L2
open PySem PySem.Spec PyProof.Rows
theorem Ql4 {P:Program}{w:World}{K:PySem.W.Frag}{tg:Expr}(it:Addr)(lo:Int):Turn P w K tg (Itr lo 0) [it] it (fun i h=>∃x left step,IsLongIter h it x left step/\left<=0) where
 mem:=by simp
 obj:=fun i h st b hb=>by
  have e:b=it:=by simpa using hb
  subst e
  obtain⟨x,l,sp,st,_⟩:=st
  exact⟨_,st,fun v z=>by cases z⟩
 keep:=fun i h h' st k=>by
  obtain⟨x,l,sp,st,hl⟩:=st
  exact⟨x,l,sp,k it al _ st,hl⟩
 item:=by
  intro X hP hw hK hc i pins s σ H E I hf st hg
  have:i<0:=hg
  omega
 done:=by
  intro X hP hw hK hc i pins s σ H E I hf st hg
  subst hP hw hK
  obtain⟨x,l,sp,st,hl⟩:=st
  obtain⟨f0,f1,f2,f3,f4,f5⟩:=hf it al
  exact wpAny_pyNext_long_end gY st hl fun h' eb=>⟨rfl,I.turned (t':=s.toks) (fun b o hb e=>eb b o hb e) f0 f1 f3 f4 f5⟩
 self:=fun _ _ _ _ _ st h=>by
  obtain⟨x,l,sp,st,hl⟩:=st
  exact wpAny_pyIter_longiter st h
section
variable {X:Cx}{tg:Expr}
def QtR (ta:TA):TI:=fun σ H R=>ta σ H fun vs H1=>∃j:Int,vs= [.int j]/\j< -(2^62)/\R (Itr 0 0) H1
theorem Ql5 {a:Expr}{ta:TA}{p pos:Pos}(hg:Gl X "range")(hm:X.mg "range"=none)(ha:PA X [a] ta)(hs:starEach [a] X.env= [(false,eval a X.env)]:=by rfl):PI X tg gP (QtR ta):=by
 intro pins s σ H R I h
 refine Call_ (QgR I hg hm boot_range (PyProof.Rows.callWith_type1 (thn df fun us s1 ⟨vs,H1,I1,r1,q1⟩=>?_) hs rfl))
 obtain⟨j,e,hj,q⟩:=q1
 subst e
 cases r1 with
 |cons r rr=>
  cases rr
  obtain⟨t,rfl⟩:=r
  refine call_range_1 ?_
  have sz:Builtin.Range.rangeSize 0 j 1=0:=by rw[rangeSize_one,if_neg aa]
  cases hsm:Builtin.Range.small 0 j 1 with
  |true=>
   refine wpAny_pyIter_range (IsRange.new ..) hsm ?_
   have I2:=I1.kept (t':=s1.toks+2) (h':=s1.heap.push {cls:= .type "range",data:= .fields #[.int 0 s1.toks, .int j t, .int 1 (s1.toks+1)]}) fun b o e=>Heap.get?_push_of_some _ e
   refine⟨_,[_],_,_,H1,rfl,I2.kept (t':=s1.toks+2) fun b o e=>Heap.get?_push_of_some _ e,QgS _ 0 0,?_,fun b hb=>?_,q⟩
   .rw[sz]
    exact Heap.get?_push_size _ rfl
   .have e:=List.mem_singleton.1 hb
    subst e
    exact I2.fpOk aw nt
  |false=>
   refine wpAny_pyIter_longrange (IsRange.new ..) hsm ?_
   have I2:=I1.kept (t':=s1.toks+2) (h':=s1.heap.push {cls:= .type "range",data:= .fields #[.int 0 s1.toks, .int j t, .int 1 (s1.toks+1)]}) fun b o e=>Heap.get?_push_of_some _ e
   refine⟨_,[_],_,_,H1,rfl,I2.kept (t':=s1.toks+2) fun b o e=>Heap.get?_push_of_some _ e,Ql4 _ 0,?_,fun b hb=>?_,q⟩
   .rw[sz]
    exact⟨_,_,_,Heap.get?_push_size _ rfl,Int.le_refl _⟩
   .have e:=List.mem_singleton.1 hb
    subst e
    exact I2.fpOk aw nt
theorem PI.or {g e:Expr}{t t':TI}(h:PI X g e t)(h':PI X g e t'):PI X g e (fun σ H R=>t σ H R\/t' σ H R):=fun pins s σ H R I q=>by
 rcases q with q|q
 .exact h pins s σ H R I q
 .exact h' pins s σ H R I q
end
end L2
namespace L3
open PySem L2
section
variable {X:Cx}{F0 H0:Hp}{Ψ:Psi}{tg a:Expr}{fs:Ev->RA}{pos:Pos}
def rngW:RA->RI
 | .ok [(_, .int j)]=>if j<2^62 then .ok oJ else .no
 | .ex C=> .ex C
 |_=> .no
def Qe8 (f:Ev->RA)(ev:Ev):RI:=rngW bS
theorem Qci {p:Pos}(hm:X.mg "range"=none)(ha:VA X F0 H0 Ψ [a] fs)(hg:Gl X "range":=by rfl)(hs:starEach [a] X.env= [(false,eval a X.env)]:=by rfl):VI X F0 H0 Ψ tg gP (Qe8 fs):=
 ((Qlv hg hm ha hs).or (Ql5 hg hm ha hs)).mono fun σ H R h=>by
  obtain⟨F,ev,fi,m⟩:=h
  unfold Qe8 at m
  cases h1:fs ev with
  |no=>rw[h1]at m;exact m.elim
  |ex C=>rw[h1]at m;exact .inl ⟨F,ev,fi,by rw[h1];exact m⟩
  |ok l=>
   rw[h1]at m
   unfold rngW at m
   split at m
   .rename_i ds hm'
    split at hm'
    .rename_i k j he
     cases he
     split at hm'
     .rename_i hb
      cases hm'
      by_cases hlow: -(2^62)<=j
      .left
       refine Qnl ⟨F,ev,fi,?_⟩
       dsimp only
       rw[h1]
       simp only[Qph,if_pos (show-(2^62)<=j/\j<2^62 from⟨hlow,hb⟩)]
       exact m
      .right
       refine⟨F,ev,fi,?_⟩
       rw[h1]
       intro F1 vs H1 s va
       obtain⟨v,r,rfl,_,hv,hr⟩:=va
       obtain rfl:r= []:=hr
       refine⟨j,by rw[hv.rd.int],by omega,?_⟩
       have:j.toNat=0:=by omega
       rw[this]at m
       exact m F1 H1 _ s QeV
     .cases hm'
    .cases hm'
    .cases hm'
   .rename_i C hm'
    split at hm'<;>first|(split at hm'<;>cases hm')|cases hm'
    rename_i he;cases he
   .exact m.elim
end
end L3
namespace L3
open PySem L2
end L3
namespace L3
open PySem L2
section
variable {X:Cx}{K:PySem.W.Frag}{F0 H0:Hp}{Ψ:Psi}{σ:St}{H:Hp}
variable {a b c:Expr}{f1 f2 f3:Ev->R}{apos cpos:Pos}
end
end L3
namespace L3
open PySem L2
section
variable {X:Cx}{K:PySem.W.Frag}{F0 H0:Hp}{Ψ:Psi}{σ:St}{H:Hp}
variable {c:Expr}{f:Ev->R}{g:Ev->Fl}{body:List Stmt}{x y:Str}{p1 p2 pi pos:Pos}
end
end L3
namespace TSrt
open PySem PySem.W PyProof.Rows
def QhD:Bool->Keyed->Array Keyed->Nat->Nat->Nat->StateT SortSt Sem aC:=sortPriv%PySem.Builtin.gallop
section
variable {M:Model}{A:Around}{E:Value->Shared->Prop}{σ:Type}
theorem Qy {α:Type}{m:StateT σ Sem α}{Q Q':α->σ->Shared->Prop}{st:σ}{s:Shared}(h:kasC M A E m Q st s)(i:∀a st' s',Q a st' s'->Q' a st' s'):kasC M A E m Q' st s:=by
 unfold kasC at h⊢
 exact wpAny_mono h (fun r s' q=>i _ _ _ q) fun _ _ e=>e
theorem QiE {β:Type}{f:Nat->β->StateT σ Sem jA}{Q:β->σ->Shared->Prop}{st:σ}(I:Nat->β->Shared->Prop)(J:β->Shared->Prop):
  ∀{n k a:Nat} {b:β} {s:Shared},(∀j b s,I j b s->∀x,j<k+n->kasC M A E (f x b) (fun r st' s'=>st'=st/\match r with| .done b'=>J b' s'| .yield b'=>I (j+1) b' s') st s)->(∀b s,I (k+n) b s->J b s)->(∀b s,J b s->Q b st s)->I k b s->
   kasC M A E (forIn (List.range' a n) b f) Q st s
 |0,k,a,b,s,_,fin,out,h=>by
  show kasC M A E (forIn ([]:List Nat) b f) Q st s
  exact kasC_nil (out _ _ (fin _ _ h))
 |n+1,k,a,b,s,step,fin,out,h=>by
  rw[List.range'_succ]
  refine kasC_cons (Qy (step k b s h a aa) fun r st' s' q=>?_)
  obtain⟨rfl,q⟩:=q
  cases r with
  |done b'=>exact out _ _ q
  |yield b'=>exact QiE I J (n:=n) (k:=k+1) (fun j b s hj x hx=>step j b s hj x aa) (fun b s z=>fin b s (by rw[show k+(n+1)=k+1+n by omega];exact z)) out q
theorem QhE {β:Type}{n:Nat}{b:β}{f:Nat->β->StateT σ Sem jA}{Q:β->σ->Shared->Prop}{st:σ}{s:Shared}(I:Nat->β->Shared->Prop)(J:β->Shared->Prop)
  (step:∀j b s,I j b s->∀x,j<n->kasC M A E (f x b) (fun r st' s'=>st'=st/\match r with| .done b'=>J b' s'| .yield b'=>I (j+1) b' s') st s) (fin:∀b s,I n b s->J b s) (out:∀b s,J b s->Q b st s) (h:I 0 b s):
  kasC M A E (forIn [0:n] b f) Q st s:=by
 refine kasC_range ?_
 rw[Nat.sub_zero]
 exact QiE I J (n:=n) (k:=0) (fun j b s hj x hx=>step j b s hj x aa) (fun b s z=>fin b s (by rw[Nat.zero_add]at z;exact z)) out h
end
section
variable {M:Model}{A:Around}{E:Value->Shared->Prop}
def Ql6 (left:Bool)(key:Keyed)(arr:Array Keyed)(base i:Nat):StateT SortSt Sem qk:=elem' arr (base+i)>>=fun x=>if left=true then lt' x key else lt' key x>>=fun r=>pure (r.map fun x=> !x)
structure Edge (B:Nat->Bool)(n k:Nat):Prop where
 le:k<=n
 lo:∀i,i<k->B i=true
 hi:k<n->B k=false
theorem QiF {left:Bool}{key:Keyed}{arr:Array Keyed}{base n hint:Nat}{st:SortSt}{s:Shared}{Q:Option Nat->SortSt->Shared->Prop}{G:Shared->Prop}{B:Nat->Bool}
  (hB:∀i,i<n->∀s,G s->kasC M A E (Ql6 left key arr base i) (fun r st' s'=>r=some (B i)/\st'=st/\G s') st s) (mono:∀i j,i<=j->j<n->B j=true->B i=true) (hh:hint<n) (g:G s)
  (q:∀k s',Edge B n k->G s'->Q o4 st s'):kasC M A E (QhD left key arr base n hint) Q st s:=by
 have search:∀(lo hi:Nat) (s:Shared),G s->lo<=hi->hi<=n->(∀i,i<lo->B i=true)->(hi<n->B hi=false)->∀f:Nat->Option aC×Nat×Nat->StateT SortSt Sem (ForInStep (Option aC×Nat×Nat)),
   (∀x lo hi s,G s->lo<hi->hi<=n->kasC M A E (f x (none,lo,hi)) (fun r st' s'=>st'=st/\G s'/\r= .yield (if B (lo+iK/2)then(none,lo+iK/2+1,hi)else(none,lo,lo+iK/2))) st s)->
   (∀x lo hi s,G s->hi<=lo->kasC M A E (f x (none,lo,hi)) (fun r st' s'=>st'=st/\G s'/\r= .done (none,lo,hi)) st s)->
   kasC M A E (forIn [0:n] (none,lo,hi) f) (fun b st' s'=>st'=st/\G s'/\∃k,b=(none,k,k)/\Edge B n k) st s:=fun lo hi s g h1 h2 h3 h4 f f1 f2=>by
  refine QhE (fun j b s=>G s/\∃lo hi,b=(none,lo,hi)/\lo<=hi/\hi<=n/\(∀i,i<lo->B i=true)/\(hi<n->B hi=false)/\hi<=lo+(n-j)) (fun b s=>G s/\∃k,b=(none,k,k)/\Edge B n k) ?_ ?_ (fun b s z=>⟨rfl,z⟩) ⟨g,lo,hi,rfl,h1,h2,h3,h4,by omega⟩
  .rintro j _ s ⟨g,lo,hi,rfl,h1,h2,h3,h4,h5⟩ x hj
   by_cases c:lo<hi
   .refine Qy (f1 x lo hi s g c h2) fun r st' s' z=>?_
    obtain⟨rfl,g',rfl⟩:=z
    refine⟨rfl,?_⟩
    cases e:B (lo+iK/2)with
    |true=>exact⟨g',lo+iK/2+1,hi,by simp,by omega,h2,fun i hi'=>mono i _ aa aa e,h4,by omega⟩
    |false=>exact⟨g',lo,lo+iK/2,by simp,by omega,by omega,h3,fun _=>e,by omega⟩
   .refine Qy (f2 x lo hi s g aa) fun r st' s' z=>?_
    obtain⟨rfl,g',rfl⟩:=z
    obtain rfl:lo=hi:=by omega
    exact⟨rfl,g',lo,rfl,h2,h3,h4⟩
  .rintro _ s ⟨g,lo,hi,rfl,h1,h2,h3,h4,h5⟩
   obtain rfl:lo=hi:=by omega
   exact⟨g,lo,rfl,h2,h3,h4⟩
 unfold QhD
 refine kasC_bind (Qy (hB hint hh s g) fun r st' s' z=>?_)
 obtain⟨rfl,rfl,g'⟩:=z
 cases hb:B hint with
 |true=>
  dsimp only
  rw[if_pos rfl]
  refine kasC_bind ?_
  refine QhE (fun j b s=>G s/\∃lastofs ofs,b=(none,lastofs,ofs)/\lastofs<ofs/\j<ofs/\hint+lastofs<n/\B (hint+lastofs)=true) (fun b s=>G s/\∃lastofs ofs,b=(none,lastofs,ofs)/\lastofs<ofs/\hint+lastofs<n/\B (hint+lastofs)=true/\(hint+ofs<n->B (hint+ofs)=false)) ?_ ?_ ?_ ⟨g',0,1,rfl,by omega,by omega,hh,hb⟩
  .rintro j _ s ⟨g,lastofs,ofs,rfl,h1,h2,h3,h4⟩ x hj
   dsimp only
   by_cases c:ofs≥n-hint
   .rw[if_pos c]
    exact kasC_pure ⟨rfl,g,lastofs,ofs,rfl,h1,h3,h4,fun z=>by omega⟩
   .rw[if_neg c]
    refine kasC_bind (Qy (hB (hint+ofs) aa s g) fun r st' s' z=>?_)
    obtain⟨rfl,rfl,g'⟩:=z
    dsimp only
    cases e:B (hint+ofs)with
    |true=>exact kasC_pure ⟨rfl,g',ofs,2*ofs+1,rfl,by omega,by omega,by omega,e⟩
    |false=>exact kasC_pure ⟨rfl,g',lastofs,ofs,rfl,h1,h3,h4,fun _=>e⟩
  .rintro _ s ⟨g,lastofs,ofs,rfl,h1,h2,h3,h4⟩
   exact⟨g,lastofs,ofs,rfl,h1,h3,h4,fun z=>by omega⟩
  .rintro _ s ⟨g,lastofs,ofs,rfl,h1,h3,h4,h5⟩
   dsimp only
   refine kasC_bind (Qy (search (hint+lastofs+1) (hint+min ofs (n-hint)) s g aa aa (fun i hi=>mono i _ aa h3 h4) (fun z=>?_) _ ?_ ?_) fun b st' s' z=>?_)
   .have:min ofs (n-hint)=ofs:=by omega
    rw[this]at z⊢;exact h5 z
   .intro x lo hi s g h1 h2
    dsimp only
    rw[if_neg aa]
    refine kasC_bind (Qy (hB (lo+iK/2) aa s g) fun r st' s' z=>?_)
    obtain⟨rfl,rfl,g'⟩:=z
    dsimp only
    cases e:B (lo+iK/2)with
    |true=>exact kasC_pure ⟨rfl,g',rfl⟩
    |false=>exact kasC_pure ⟨rfl,g',rfl⟩
   .intro x lo hi s g h1
    dsimp only
    rw[if_pos aa]
    exact kasC_pure ⟨rfl,g,rfl⟩
   .obtain⟨rfl,g',k,rfl,ed⟩:=z
    exact kasC_pure (q k s' ed g')
 |false=>
  dsimp only
  rw[if_neg Bool.false_ne_true]
  refine kasC_bind ?_
  refine QhE (fun j b s=>G s/\∃lastofs ofs,b=(none,lastofs,ofs)/\lastofs<ofs/\j<ofs/\lastofs<=hint/\B qd=false) (fun b s=>G s/\∃lastofs ofs,b=(none,lastofs,ofs)/\lastofs<ofs/\lastofs<=hint/\B qd=false/\(ofs<=hint->B qc=true)) ?_ ?_ ?_ ⟨g',0,1,rfl,by omega,by omega,by omega,hb⟩
  .rintro j _ s ⟨g,lastofs,ofs,rfl,h1,h2,h3,h4⟩ x hj
   dsimp only
   by_cases c:ofs≥hint+1
   .rw[if_pos c]
    exact kasC_pure ⟨rfl,g,lastofs,ofs,rfl,h1,h3,h4,fun z=>by omega⟩
   .rw[if_neg c]
    refine kasC_bind (Qy (hB qc aa s g) fun r st' s' z=>?_)
    obtain⟨rfl,rfl,g'⟩:=z
    dsimp only
    cases e:B qc with
    |true=>exact kasC_pure ⟨rfl,g',lastofs,ofs,rfl,h1,h3,h4,fun _=>e⟩
    |false=>exact kasC_pure ⟨rfl,g',ofs,2*ofs+1,rfl,by omega,by omega,by omega,e⟩
  .rintro _ s ⟨g,lastofs,ofs,rfl,h1,h2,h3,h4⟩
   exact⟨g,lastofs,ofs,rfl,h1,h3,h4,fun z=>by omega⟩
  .rintro _ s ⟨g,lastofs,ofs,rfl,h1,h3,h4,h5⟩
   dsimp only
   refine kasC_bind (Qy (search (hint+1-min ofs (hint+1)) qd s g aa aa (fun i hi=>mono i qc aa aa (h5 aa)) (fun _=>h4) _ ?_ ?_) fun b st' s' z=>?_)
   .intro x lo hi s g h1 h2
    dsimp only
    rw[if_neg aa]
    refine kasC_bind (Qy (hB (lo+iK/2) aa s g) fun r st' s' z=>?_)
    obtain⟨rfl,rfl,g'⟩:=z
    dsimp only
    cases e:B (lo+iK/2)with
    |true=>exact kasC_pure ⟨rfl,g',rfl⟩
    |false=>exact kasC_pure ⟨rfl,g',rfl⟩
   .intro x lo hi s g h1
    dsimp only
    rw[if_pos aa]
    exact kasC_pure ⟨rfl,g,rfl⟩
   .obtain⟨rfl,g',k,rfl,ed⟩:=z
    exact kasC_pure (q k s' ed g')
end
end TSrt
namespace TSrt
open PySem PySem.W PyProof.Rows
section
variable {M:Model}{A:Around}{E:Value->Shared->Prop}{σ:Type}
theorem Ql7 {β:Type}{f:Nat->β->StateT σ Sem jA}{Q:β->σ->Shared->Prop}(I:Nat->β->σ->Shared->Prop){b:Nat}(fin:∀c st s,I b c st s->Q c st s):
  ∀{n a:Nat} {c:β} {st:σ} {s:Shared},a+n=b->(∀i c st s,a<=i->i<b->I i c st s->kasC M A E (f i c) (fun r st' s'=>match r with| .done c'=>Q c' st' s'| .yield c'=>I (i+1) c' st' s') st s)->I a c st s->kasC M A E (forIn (List.range' a n) c f) Q st s
 | 0, a, c, st, s, e, _, h => kasC_nil (fin _ _ _ (by have : a = b := by omega
                                                      rw[←this];exact h))
 |n+1,a,c,st,s,e,step,h=>by
  rw[List.range'_succ]
  refine kasC_cons (Qy (step a c st s aw aa h) fun r st' s' q=>?_)
  cases r with
  |done b'=>exact q
  |yield b'=>exact Ql7 I fin aa (fun i c st s h1 h2 h3=>step i c st s aa h2 h3) q
theorem Qcj {β:Type}{a b:Nat}{c:β}{f:Nat->β->StateT σ Sem jA}{Q:β->σ->Shared->Prop}{st:σ}{s:Shared}(I:Nat->β->σ->Shared->Prop)
  (step:∀i c st s,a<=i->i<b->I i c st s->kasC M A E (f i c) (fun r st' s'=>match r with| .done c'=>Q c' st' s'| .yield c'=>I (i+1) c' st' s') st s)
  (fin:∀c st s,I (max a b) c st s->Q c st s) (h:I a c st s):kasC M A E (forIn [a:b] c f) Q st s:=by
 refine kasC_range ?_
 by_cases hab:a<=b
 .have e:max a b=b:=by omega
  rw[e]at fin
  exact Ql7 I fin aa step h
 .have e:max a b=a:=by omega
  rw[e]at fin
  rw[show b-a=0 by omega]
  exact kasC_nil (fin _ _ _ h)
theorem QnB {x:σ}{Q:PUnit->σ->Shared->Prop}{st:σ}{s:Shared}(h:Q ⟨⟩ x s):kasC M A E (set x:StateT σ Sem PUnit) Q st s:=by
 unfold kasC;rw[StateT.run_set];exact wpAny_pure h
end
def ats (xs:Array Keyed)(i:Nat):Keyed:=(xs[i]?).getD (.none, .none)
theorem Qg1 {xs ys:Array Keyed}{i j:Nat}(h:xs[i]?=ys[j]?):ats xs i=ats ys j:=by unfold ats;rw[h]
theorem Qoo {xs:Array Keyed}{i:Nat}(h:i<xs.size):xs[i]?=some jq:=by
 unfold ats;rw[getElem?_pos xs i h];rfl
theorem QH {xs:Array Keyed}{i:Nat}(h:i<xs.size):ats xs i∈xs.toList:=by
 have e:=Qoo h
 rw[←Array.getElem?_toList]at e
 exact List.mem_of_getElem? e
theorem Qck {xs:Array Keyed}{i j:Nat}(hj:j<=xs.size)(k:Nat):ats (mirror xs i j ((j-i)/2)) k=if i<=k/\k<j then ats xs (i+j-1-k)else ats xs k:=by
 have e:=getElem?_mirror_all (i:=i) hj k
 split at e
 .rename_i h;rw[if_pos h];exact Qg1 e
 .rename_i h;rw[if_neg h];exact Qg1 e
theorem QpF {xs:Array Keyed}{p d:Nat}(hs:p<xs.size)(hd:d<=p)(k:Nat):ats (bubble xs p d) k=if k=p-d then ats xs p else if p-d<k/\k<=p then ats xs (k-1)else ats xs k:=by
 have e:=getElem?_bubble hs d hd k
 split at e
 .rename_i h;rw[if_pos h];exact Qg1 e
 .rename_i h;rw[if_neg h]
  split at e
  .rename_i h;rw[if_pos h];exact Qg1 e
  .rename_i h;rw[if_neg h];exact Qg1 e
structure Sw (c:Keyed->Keyed->Bool):Prop where
 asym:∀{x y},c x y=true->c y x=false
 tr:∀{x y z},c y x=false->c z y=false->c z x=false
theorem Sw.rf {c:Keyed->Keyed->Bool}(o:Sw c)(x:Keyed):c x x=false:=by
 cases e:c x x with
 |false=>rfl
 |true=>exact(o.asym e).symm.trans e|>.symm▸rfl
theorem Sw.le {c:Keyed->Keyed->Bool}(o:Sw c){x y z:Keyed}(h:c x y=true)(g:c z y=false):c x z=true:=by
 cases e:c x z with
 |true=>rfl
 |false=>have:=o.tr g e;rw[h]at this;exact this.symm
structure Od (c0 c:Keyed->Keyed->Bool)(ix:Keyed->Nat):Prop where
 o0:Sw c0
 o:Sw c
 ag:∀{x y},ix y<ix x->c x y=c0 x y
 wk:∀{x y},c0 x y=true->c x y=true
 eq:∀{x y},c0 x y=false->c0 y x=false->ix x<ix y->c x y=true
theorem Od.of0 {c0 c:Keyed->Keyed->Bool}{ix:Keyed->Nat}(o:Od c0 c ix){x y:Keyed}(h:c x y=false):c0 x y=false:=by
 cases e:c0 x y with
 |false=>rfl
 |true=>rw[o.wk e]at h;exact h
def Loc (ix:Keyed->Nat)(xs:Array Keyed)(p q:Nat):Prop:=∀j,p<=j->j<q->p<=ix ie/\ix ie<q
def Raw (ix:Keyed->Nat)(xs:Array Keyed)(q:Nat):Prop:=∀j,q<=j->j<xs.size->ix ie=j
theorem Loc.more {ix:Keyed->Nat}{xs:Array Keyed}{p q q':Nat}(h:Loc ix xs p q)(r:Raw ix xs q)(h1:p<=q)(h2:q<=q')(h3:q'<=xs.size):Loc ix xs p q':=fun j z1 z2=>by
 by_cases e:j<q
 .have:=h j z1 e;omega
 .have:=r j aa aa;omega
theorem Raw.mono {ix:Keyed->Nat}{xs:Array Keyed}{q q':Nat}(r:Raw ix xs q)(h:q<=q'):Raw ix xs q':=fun j z1 z2=>r j aa z2
def Up (c:Keyed->Keyed->Bool)(xs:Array Keyed)(lo hi:Nat):Prop:=∀i j,lo<=i->i<=j->j<hi->c ie jq=false
def Dn (c:Keyed->Keyed->Bool)(xs:Array Keyed)(lo hi:Nat):Prop:=∀i j,lo<=i->i<=j->j<hi->c jq ie=false
def Keep (xs ys:Array Keyed)(lo:Nat):Prop:=∀i,i<lo->ats ys i=ats xs i
structure SB (κ:SortKind)(a0:Array Keyed)(st:SortSt):Prop where
 pm:(arrOf st).Perm a0
 kd:kindOf st=κ
 fd:failedOf st=none
theorem SB.sz {κ:SortKind}{a0:Array Keyed}{st:SortSt}(h:SB κ a0 st):(arrOf st).size=a0.size:=h.pm.size_eq
theorem SB.mem {κ:SortKind}{a0:Array Keyed}{st:SortSt}(h:SB κ a0 st){i:Nat}(hi:i<a0.size):ats ay i∈a0.toList:=
 (Array.perm_iff_toList_perm.mp h.pm).mem_iff.mp (QH (by rw[h.sz];exact hi))
theorem SB.put {κ:SortKind}{a0:Array Keyed}{st:SortSt}(h:SB κ a0 st){xs:Array Keyed}(hp:xs.Perm ay):SB κ a0 (setArr st xs):=⟨hp.trans h.pm,h.kd,h.fd⟩
def Cmp (M:Model)(A:Around)(κ:SortKind)(a0:Array Keyed)(c:Keyed->Keyed->Bool)(G:Shared->Prop):Prop:=
 ∀x y,x∈a0.toList->y∈a0.toList->∀s,G s->wpAny M A (keyLt' κ x.1 y.1) (fun b s'=>b=c x y/\G s') (fun _ _=>False) s
section
variable {M:Model}{A:Around}{E:Value->Shared->Prop}{κ:SortKind}{a0:Array Keyed}{c0 c:Keyed->Keyed->Bool}{ix:Keyed->Nat}{G:Shared->Prop}
theorem Qbu {xs:Array Keyed}{i:Nat}{st:SortSt}{s:Shared}{Q:Keyed->SortSt->Shared->Prop}(hi:i<xs.size)(h:Q jq st s):kasC M A E (elem' xs i) Q st s:=by
 rw[elem'_eq,Qoo hi];exact kasC_pure h
theorem QrH (H:Cmp M A κ a0 c0 G){x y:Keyed}{st:SortSt}{s:Shared}{Q:Option Bool->SortSt->Shared->Prop}(hk:kindOf st=κ)(hx:x∈a0.toList)(hy:y∈a0.toList)(g:G s)(h:∀s',G s'->Q (some (c0 x y)) st s'):
  kasC M A E (lt' x y) Q st s:=by
 rw[lt'_eq]
 refine kasC_bind (kasC_get ?_)
 rw[hk]
 refine kasC_bind (kasC_lift (wpAny_attempt (wpAny_mono (H x y hx hy s g) (fun b s' z=>?_) fun _ _ z=>z.elim)))
 obtain⟨rfl,g'⟩:=z
 exact kasC_pure (h s' g')
theorem QnC (H:Cmp M A κ a0 c0 G)(o:Od c0 c ix){x y:Keyed}{st:SortSt}{s:Shared}{Q:Option Bool->SortSt->Shared->Prop}(hi:ix y<ix x)(hk:kindOf st=κ)(hx:x∈a0.toList)(hy:y∈a0.toList)(g:G s)(h:∀s',G s'->Q (some (c x y)) st s'):
  kasC M A E (lt' x y) Q st s:=QrH H hk hx hy g fun s' g'=>by rw[←o.ag hi];exact h s' g'
theorem Qg2 (H:Cmp M A κ a0 c0 G){i j:Nat}{st:SortSt}{s:Shared}{Q:Option Bool->SortSt->Shared->Prop}(b:SB κ a0 st)(hi:i<a0.size)(hj:j<a0.size)(g:G s)
  (h:∀s',G s'->Q (some (c0 mK mJ)) st s'):kasC M A E (ltAt' i j) Q st s:=by
 rw[ltAt'_eq]
 refine kasC_bind (kasC_get ?_)
 refine kasC_bind (Qbu (by rw[b.sz];exact hi) ?_)
 refine kasC_bind (Qbu (by rw[b.sz];exact hj) ?_)
 exact QrH H b.kd (b.mem hi) (b.mem hj) g h
theorem QrI (H:Cmp M A κ a0 c0 G)(oo:Od c0 c ix){st:SortSt}{s:Shared}{lo n ok:Nat}{Q:Bool->SortSt->Shared->Prop}(hn:lo+n<=a0.size)(hok:ok<=n)(b:SB κ a0 st)(hs:Up c ay lo (lo+ok))(hl:Loc ix ay lo (lo+ok))(hr:Raw ix ay (lo+ok))(g:G s)
  (h:∀st' s',SB κ a0 st'->pendingOf st'=pendingOf st->Up c aL lo dU->Loc ix aL lo dU->Raw ix aL dU->Keep ay aL lo->G s'->Q true st' s'):kasC M A E (binarySort' lo n ok) Q st s:=by
 have o:=oo.o
 rw[binarySort'_eq]
 refine kasC_bind (Qcj (fun k d st' s'=>d=(none,())/\SB κ a0 st'/\pendingOf st'=pendingOf st/\Keep ay aL lo/\Up c aL lo sN/\Loc ix aL lo sN/\Raw ix aL sN/\G s') ?_ ?_ ?_)
 .rintro k _ st' s' hk1 hk2 ⟨rfl,b',p',kp,up,lc,rw',g'⟩
  rw[show min k n=k by omega]at up lc rw'
  have hsz:=b'.sz
  refine kasC_bind (Qy (Q:=fun d st'' s''=>st''=st'/\G s''/\∃l r,d=(none,l,r)/\l<=k/\
   (∀i,i<l->c iH n5=false)/\(∀i,l<=i->i<k->c iH n5=true))
   (Qcj (fun x d st'' s''=>st''=st'/\G s''/\∃l r,d=(none,l,r)/\l<=r/\r<=k/\r-l<=k-x/\
   (∀i,i<l->c iH n5=false)/\(∀i,r<=i->i<k->c iH n5=true)) ?_ ?_ ?_) ?_)
  .rintro x _ st'' s'' _ hx ⟨rfl,g'',l,r,rfl,h1,h2,h3,h4,h5⟩
   dsimp only
   by_cases e:l≥r
   .rw[if_pos e]
    have e':l=r:=by omega
    subst e'
    exact kasC_pure ⟨rfl,g'',l,l,rfl,h2,h4,h5⟩
   .rw[if_neg e]
    refine kasC_bind (Qg2 H b' aa aa g'' fun s3 g3=>?_)
    dsimp only
    have ag:=oo.ag (x:=ats bQ dW) (y:=ats bQ (lo+(l+r)/2)) (by
     have z1:=rw' dW aw aa
     have z2:=lc (lo+(l+r)/2) aa aa
     omega)
    rw[←ag]
    cases q:c nZ (ats bQ (lo+(l+r)/2))with
    |true=>
     refine kasC_pure ⟨rfl,g3,l,(l+r)/2,rfl,by omega,by omega,by omega,h4,fun i z1 z2=>?_⟩
     cases q2:c nZ (ats bQ j8)with
     |true=>rfl
     |false=>
      have:=o.tr (up (lo+(l+r)/2) j8 aa aa aa) q2
      rw[q]at this;exact this.symm
    |false=>
     refine kasC_pure ⟨rfl,g3,(l+r)/2+1,r,rfl,by omega,by omega,by omega,fun i z1=>?_,h5⟩
     exact o.tr (up j8 (lo+(l+r)/2) aa aa aa) q
  .rintro _ st'' s'' ⟨rfl,g'',l,r,rfl,h1,h2,h3,h4,h5⟩
   have e':l=r:=by omega
   subst e'
   exact⟨rfl,g'',l,l,rfl,h2,h4,h5⟩
  .exact⟨rfl,g',0,k,rfl,by omega,by omega,by omega,fun i z=>by omega,fun i z1 z2=>by omega⟩
  .rintro _ st'' s'' ⟨rfl,g'',l,r,rfl,h2,h4,h5⟩
   show kasC M A E (moveDown' dW mh>>=fun _=>pure (ForInStep.yield (none,()))) _ _ _
   rw[moveDown'_eq]
   have bub:∀j,ats (bubble bQ dW (lo+k-mh)) j=if j=lo+l then ats bQ dW else if lo+l<j/\j<=lo+k then ats bQ (j-1)else ats bQ j:=fun j=>by
    rw[QpF aa aa,show lo+k-(lo+k-mh)=lo+l by omega]
   have rk:=rw' dW aw aa
   refine kasC_bind (kasC_modify (kasC_pure ⟨rfl,b'.put (bubble_perm _ _ _),p',?_,?_,?_,?_,g''⟩))
   .intro i hi
    show ats (bubble bQ dW (lo+k-mh)) i=_
    rw[bub,if_neg aa,if_neg aa]
    exact kp i hi
   .rw[show min (k+1) n=k+1 by omega]
    intro i j hi hij hj
    show c (ats (bubble bQ dW (lo+k-mh)) j) (ats (bubble bQ dW (lo+k-mh)) i)=false
    rw[bub,bub]
    have w1:∀t,lo<=t->t<lo+l->c nZ (ats bQ t)=false:=fun t z1 z2=>by
     have:=h4 (t-lo) aa;rwa [show lo+(t-lo)=t by omega]at this
    have w2:∀t,lo+l<=t->t<lo+k->c nZ (ats bQ t)=true:=fun t z1 z2=>by
     have:=h5 (t-lo) aa aa;rwa [show lo+(t-lo)=t by omega]at this
    clear rk hsz hk2 hk1 hok hn h4 h5
    repeat' split
    all_goals first
     |(exfalso;omega)
     |exact o.rf _
     |exact w1 _ aa aa
     |exact o.asym (w2 _ aa aa)
     |exact up _ _ aa aa aa
   .rw[show min (k+1) n=k+1 by omega]
    intro j z1 z2
    show lo<=ix (ats (bubble bQ dW (lo+k-mh)) j)/\ix (ats (bubble bQ dW (lo+k-mh)) j)<lo+(k+1)
    rw[bub]
    split
    .omega
    .split
     .have:=lc (j-1) aa aa;omega
     .have:=lc j aa aa;omega
   .rw[show min (k+1) n=k+1 by omega]
    intro j z1 z2
    have z2:j<(bubble bQ dW (lo+k-mh)).size:=z2
    rw[bubble_size]at z2
    show ix (ats (bubble bQ dW (lo+k-mh)) j)=j
    rw[bub,if_neg aa,if_neg aa]
    exact rw' j aa z2
 .rintro _ st' s' ⟨rfl,b',p',kp,up,lc,rw',g'⟩
  rw[show min (max (max ok 1) n) n=n by omega]at up lc rw'
  exact kasC_pure (h st' s' b' p' up lc rw' kp g')
 .have hsz:=b.sz
  refine⟨rfl,b,rfl,fun i _=>rfl,?_,?_,?_,g⟩
  .intro i j hi hij hj
   by_cases z:ok=0
   .have:i=j:=by omega
    subst this;exact o.rf _
   .exact hs i j hi hij aa
  .exact hl.more hr aa aa aa
  .exact hr.mono aa
theorem Qop (o:Sw c){f:Nat->Option aC×Nat->StateT SortSt Sem (ForInStep (Option aC×Nat))}{st:SortSt}{s:Shared}{lo nrem a:Nat}{Q:Option aC×Nat->SortSt->Shared->Prop}(ha:1<=a)(han:a<=nrem)(g:G s)
  (up:Up c ay lo (lo+a))
  (hf:∀x n s,G s->a<=n->n<nrem->kasC M A E (f x (none,n)) (fun r st' s'=>st'=st/\G s'/\r=if c sU (ats ay (lo+n-1))=true then .done (none,n)else .yield (none,n+1)) st s)
  (h:∀n s',a<=n->n<=nrem->Up c ay lo dU->(n<nrem->c sU (ats ay (lo+n-1))=true)->G s'->Q (none,n) st s'):kasC M A E (forIn [a:nrem] (none,a) f) Q st s:=by
 refine Qcj (fun k d st' s'=>d=(none,k)/\st'=st/\G s'/\Up c ay lo dW) ?_ ?_ ⟨rfl,rfl,g,up⟩
 .rintro k _ _ s' h1 h2 ⟨rfl,rfl,g',up'⟩
  refine Qy (hf k k s' g' h1 h2) fun r st2 s2 z=>?_
  obtain⟨rfl,g2,rfl⟩:=z
  cases q:c (ats eQ dW) (ats eQ (lo+k-1))with
  |true=>rw[if_pos rfl];exact h k s2 h1 aa up' (fun _=>q) g2
  |false=>
   rw[if_neg al]
   refine⟨rfl,rfl,g2,fun i j z1 z2 z3=>?_⟩
   by_cases e:j=lo+k
   .subst e
    by_cases e2:i=lo+k
    .subst e2;exact o.rf _
    .exact o.tr (up' i (lo+k-1) z1 aa aa) q
   .exact up' i j z1 z2 aa
 .rintro _ _ s' ⟨rfl,rfl,g',up'⟩
  rw[show max a nrem=nrem by omega]at up'⊢
  exact h nrem s' han aw up' (fun z=>absurd z eS) g'
theorem QrJ {xs:Array Keyed}{lo hi:Nat}(hj:hi<=xs.size)(d:Dn c xs lo hi):Up c (mirror xs lo hi (iK/2)) lo hi:=fun i j h1 h2 h3=>by
 rw[Qck hj,Qck hj,if_pos aa,if_pos aa]
 exact d _ _ aa aa aa
theorem Qfm {xs:Array Keyed}{lo hi l0:Nat}(hj:hi<=xs.size)(h:l0<=lo):Keep xs (mirror xs lo hi (iK/2)) l0:=fun i h1=>by
 rw[Qck hj,if_neg aa]
theorem Keep.trans {xs ys zs:Array Keyed}{l:Nat}(h:Keep xs ys l)(k:Keep ys zs l):Keep xs zs l:=fun i z=>(k i z).trans (h i z)
theorem QtS {xs:Array Keyed}{lo m m':Nat}(oo:Od c0 c ix)(l:Loc ix xs lo jI)(r:Raw ix xs jI)(h:m<=m')(h1:1<=m')(hz:lo+m'<xs.size):c (ats xs (lo+m')) (ats xs (lo+m'-1))=c0 (ats xs (lo+m')) (ats xs (lo+m'-1)):=by
 refine oo.ag ?_
 have z1:=r (lo+m') aa hz
 by_cases q:m'=m
 .subst q;have:=l (lo+m'-1) aa aa;omega
 .have:=r (lo+m'-1) aa aa;omega
structure Blk (c0 c:Keyed->Keyed->Bool)(ix:Keyed->Nat)(xs:Array Keyed)(lo p m:Nat):Prop where
 lp:lo<=p
 pm:p<m
 mz:m<=xs.size
 dn:Dn c xs lo p
 lc:Loc ix xs lo p
 gt:∀i j,lo<=i->i<p->p<=j->j<m->c0 ie jq=true
 eq:∀i j,p<=i->i<m->p<=j->j<m->c0 jq ie=false
 raw:Raw ix xs p
theorem Blk.turn {xs:Array Keyed}{lo p m:Nat}(oo:Od c0 c ix)(h:Blk c0 c ix xs lo p m):Dn c (mirror xs p m ((m-p)/2)) lo m/\Loc ix (mirror xs p m ((m-p)/2)) lo m/\Raw ix (mirror xs p m ((m-p)/2)) m:=by
 have e:=Qck (i:=p) h.mz
 have lp:=h.lp;have pm:=h.pm;have mz:=h.mz
 refine⟨fun i j z1 z2 z3=>?_,fun j z1 z2=>?_,fun j z1 z2=>?_⟩
 .rw[e,e]
  by_cases c1:p<=i/\i<m
  .rw[if_pos c1,if_pos aa]
   by_cases q:i=j
   .subst q;exact oo.o.rf _
   .refine oo.o.asym (oo.eq rB rB ?_)
    rw[h.raw _ aa aa,h.raw _ aa aa];omega
  .rw[if_neg c1]
   by_cases c2:p<=j/\j<m
   .rw[if_pos c2]
    exact oo.o.asym (oo.wk (h.gt _ _ z1 aa aa aa))
   .rw[if_neg c2];exact h.dn i j z1 z2 aa
 .rw[e]
  by_cases c1:p<=j/\j<m
  .rw[if_pos c1,h.raw _ aa aa];omega
  .rw[if_neg c1];have:=h.lc j z1 aa;omega
 .rw[mirror_size]at z2
  rw[e,if_neg aa]
  exact h.raw j aa z2
theorem Blk.one {xs:Array Keyed}{lo p m:Nat}(oo:Od c0 c ix)(h:Blk c0 c ix xs lo p m)(e:m=p+1):Dn c xs lo m/\Loc ix xs lo m/\Raw ix xs m:=by
 have lp:=h.lp;have pm:=h.pm;have mz:=h.mz
 subst e
 refine⟨fun i j z1 z2 z3=>?_,h.lc.more h.raw lp aa mz,h.raw.mono aa⟩
 by_cases q:j=p
 .subst q
  by_cases q2:i=j
  .subst q2;exact oo.o.rf _
  .exact oo.o.asym (oo.wk (h.gt i j z1 aa aa aa))
 .exact h.dn i j z1 z2 aa
theorem Blk.new {xs:Array Keyed}{lo m:Nat}(oo:Od c0 c ix)(lm:lo<m)(mz:m<xs.size)(dn:Dn c xs lo m)(lc:Loc ix xs lo m)(raw:Raw ix xs m)(g:c0 (ats xs m) (ats xs (m-1))=true):Blk c0 c ix xs lo m (m+1):=
 ⟨by omega,by omega,mz,dn,lc,fun i j z1 z2 z3 z4=>by
  obtain rfl:j=m:=by omega
  exact oo.o0.le g (oo.of0 (dn i (j-1) z1 aa aa)),fun i j z1 z2 z3 z4=>by
  obtain rfl:i=j:=by omega
  exact oo.o0.rf _,raw⟩
theorem QnD (H:Cmp M A κ a0 c0 G)(oo:Od c0 c ix){st:SortSt}{s:Shared}{lo nrem:Nat}{Q:Option Nat->SortSt->Shared->Prop}(hn:lo+nrem<=a0.size)(h1:1<=nrem)(b:SB κ a0 st)(hr:Raw ix ay lo)(g:G s)
  (h:∀n st' s',1<=n->n<=nrem->SB κ a0 st'->pendingOf st'=pendingOf st->Up c aL lo dU->Loc ix aL lo dU->Raw ix aL dU->Keep ay aL lo->G s'->Q (some n) st' s'):kasC M A E (countRun' lo nrem) Q st s:=by
 have o:=oo.o
 have hsz:=b.sz
 rw[countRun'_eq]
 refine kasC_bind (Qop (lo:=lo) o (Nat.le_refl 1) h1 g (fun i j z1 z2 z3=>?_) (fun x m s g y1 y2=>by
   refine kasC_bind (Qg2 H b aa aa g fun s' g'=>?_)
   dsimp only
   rw[←oo.ag (by
    have z1:=hr jI aa aa
    have z2:=hr (lo+m-1) aa aa
    omega)]
   split<;>exact kasC_pure ⟨rfl,g',rfl⟩) fun n s1 n1 n2 up dn g1=>?_)
 .have:i=j:=by omega
  subst this;exact o.rf _
 dsimp only
 have lc:Loc ix ay lo dU:=fun j z1 z2=>by have:=hr j z1 aa;omega
 by_cases e:(n==nrem)=true
 .rw[if_pos e];exact kasC_pure (h n st s1 n1 n2 b rfl up lc aK (fun _ _=>rfl) g1)
 rw[if_neg e]
 have lt:n<nrem:=by
  rcases Nat.lt_or_ge n nrem with z|z
  .exact z
  .exact absurd (by rw[show n=nrem by omega];exact beq_self_eq_true _) e
 have dn0:=dn lt
 have dn:c0 sU (ats ay (lo+n-1))=true:=by
  rw[oo.ag (by
    have z1:=hr dU aa aa
    have z2:=hr (lo+n-1) aa aa
    omega)]at dn0
  exact dn0
 refine' (fun(key:∀(st':SortSt) (s':Shared),SB κ a0 st'->pendingOf st'=pendingOf st->Keep ay aL lo->Blk c0 c ix aL lo dU (lo+n+1)->G s'->kasC M A E (_:StateT SortSt Sem aC) Q st' s')=>?rest) ?key
 case rest=>
  by_cases e2:n>1
  .rw[if_pos e2]
   refine kasC_bind (Qg2 H b aa aa g1 fun s2 g2=>?_)
   dsimp only
   cases ro:c0 (ats ay lo) (ats ay (lo+n-1))with
   |true=>rw[if_pos rfl];exact kasC_pure (h n st s2 n1 n2 b rfl up lc aK (fun _ _=>rfl) g2)
   |false=>
    rw[if_neg al,reverseSlice'_eq]
    refine kasC_bind (kasC_modify ?_)
    have hz0:lo+n<=(arrOf st).size:=by rw[b.sz];omega
    have up0:∀i j,lo<=i->i<=j->j<lo+n->c0 mJ mK=false:=fun i j z1 z2 z3=>oo.of0 (up i j z1 z2 z3)
    have all:∀i j,lo<=i->i<lo+n->lo<=j->j<lo+n->c0 mK mJ=false:=fun i j z1 z2 z3 z4=>
     oo.o0.tr (oo.o0.tr (up0 j (lo+n-1) aa aa aa) ro) (up0 lo i aa aa aa)
    have bb:=b.put (mirror_perm ay lo dU ((lo+n-lo)/2))
    have bl0:Blk c0 c ix ay lo lo dU:=⟨Nat.le_refl _,by omega,hz0,fun i j z1 z2 z3=>by omega,fun j z1 z2=>by omega,fun i j z1 z2=>by omega,fun i j z1 z2 z3 z4=>all i j z1 z2 z3 z4,hr⟩
    obtain⟨t1,t2,t3⟩:=bl0.turn oo
    have bl1:Blk c0 c ix (mirror ay lo dU ((lo+n-lo)/2)) lo dU (lo+n+1):=Blk.new oo aa (by rw[mirror_size];omega) t1 t2 t3 (by
     rw[Qck hz0,Qck hz0,if_neg aa,if_pos aa]
     exact oo.o0.le dn (all _ _ aa aa aa aa))
    exact key _ _ bb rfl (Qfm hz0 aw) bl1 g2
  .rw[if_neg e2]
   have bl1:Blk c0 c ix ay lo dU (lo+n+1):=Blk.new oo aa aa (fun i j z1 z2 z3=>by
    have:i=j:=by omega
    subst this;exact o.rf _) lc aK dn
   exact key _ _ b rfl (fun _ _=>rfl) bl1 g1
 intro st0 s0 b0 p0 kp0 bl0 g0
 refine kasC_bind (kasC_lift (wpAny_rule ?_))
 refine kasC_bind (Qy (Q:=fun d st' s'=>∃m q,d=(none,m,q)/\n+1<=m/\m<=nrem/\q<m/\SB κ a0 st'/\pendingOf st'=pendingOf st/\Keep ay aL lo/\Blk c0 c ix aL lo (lo+m-(q+1)) jI/\G s')
  (Qcj (fun k d st' s'=>∃q,d=(none,k,q)/\k<=nrem/\q<k/\SB κ a0 st'/\pendingOf st'=pendingOf st/\Keep ay aL lo/\Blk c0 c ix aL lo (lo+k-(q+1)) dW/\G s') ?_ ?_ ?_) ?_)
 .rintro k _ st' s' k1 k2 ⟨q,rfl,_,q2,b',p',kp',bl,g'⟩
  dsimp only
  refine kasC_bind (Qg2 H b' aa aa g' fun s3 g3=>?_)
  dsimp only
  have hz0:=b'.sz
  cases sm:c0 iH (ats aL (lo+k-1))with
  |true=>
   rw[if_pos rfl]
   by_cases hq:q>0
   .rw[if_pos hq,reverseSlice'_eq]
    refine kasC_bind (kasC_modify (kasC_pure ?_))
    have hz:lo+k<=(arrOf st').size:=by omega
    obtain⟨t1,t2,t3⟩:=bl.turn oo
    refine⟨0,rfl,by omega,by omega,b'.put (mirror_perm _ _ _ _),p',kp'.trans (Qfm hz aa),?_,g3⟩
    refine Blk.new oo aa (by show _<(mirror _ _ _ _).size;rw[mirror_size];omega) t1 t2 t3 ?_
    show c0 rG rG=true
    rw[Qck hz,Qck hz,if_neg aa,if_pos aa]
    exact oo.o0.le sm (bl.eq _ _ aa aa aa aa)
   .rw[if_neg hq]
    obtain⟨t1,t2,t3⟩:=bl.one oo aa
    exact kasC_pure ⟨0,rfl,by omega,by omega,b',p',kp',Blk.new oo aa aa t1 t2 t3 sm,g3⟩
  |false=>
   rw[if_neg al]
   refine kasC_bind (Qg2 H b' aa aa g3 fun s4 g4=>?_)
   dsimp only
   cases la:c0 (ats aL (lo+k-1)) iH with
   |true=>
    rw[if_pos rfl]
    exact kasC_pure ⟨k,q,rfl,k1,by omega,q2,b',p',kp',bl,g4⟩
   |false=>
    rw[if_neg al]
    refine kasC_pure ⟨q+1,rfl,by omega,by omega,b',p',kp',?_,g4⟩
    have ep:lo+(k+1)-(q+1+1)=lo+k-(q+1):=by omega
    rw[ep]
    have o0:=oo.o0
    refine⟨bl.lp,by omega,by omega,bl.dn,bl.lc,fun i j z1 z2 z3 z4=>?_,fun i j z1 z2 z3 z4=>?_,bl.raw⟩
    .by_cases e1:j=lo+k
     .subst e1
      cases e2:c0 iH (ats aL i)with
      |true=>rfl
      |false=>
       have:=o0.tr e2 la
       rw[bl.gt i (lo+k-1) z1 z2 aa aa]at this;exact this.symm
     .exact bl.gt i j z1 z2 z3 aa
    .by_cases e1:i=lo+k
     .by_cases e2:j=lo+k
      .subst e1;subst e2;exact o0.rf _
      .subst e1
       exact o0.tr (bl.eq (lo+k-1) j aa aa aa aa) sm
     .by_cases e2:j=lo+k
      .subst e2
       exact o0.tr la (bl.eq i (lo+k-1) aa aa aa aa)
      .exact bl.eq i j aa aa aa aa
 .rintro _ st' s' ⟨q,rfl,q1,q2,b',p',kp',bl,g'⟩
  rw[show max (n+1) nrem=nrem by omega]at *
  exact⟨nrem,q,rfl,by omega,by omega,q2,b',p',kp',bl,g'⟩
 .refine⟨0,rfl,by omega,by omega,b0,p0,kp0,bl0,g0⟩
 .rintro _ st' s' ⟨m,q,rfl,m1,m2,q2,b',p',kp',bl,g'⟩
  dsimp only
  refine' (fun(key:∀(st2:SortSt),SB κ a0 st2->pendingOf st2=pendingOf st->Keep ay eQ lo->Dn c eQ lo jI->Loc ix eQ lo jI->Raw ix eQ jI->kasC M A E (_:StateT SortSt Sem aC) Q st2 s')=>?rest2) ?key2
  case rest2=>
   by_cases hq:q>0
   .rw[if_pos hq,reverseSlice'_eq]
    refine kasC_bind (kasC_modify ?_)
    have hz0:lo+m<=(arrOf st').size:=by rw[b'.sz];omega
    have b3:=b'.put (mirror_perm aL (lo+m-(q+1)) jI ((lo+m-(lo+m-(q+1)))/2))
    have kp3:=kp'.trans (Qfm (lo:=lo+m-(q+1)) hz0 (show lo<=_ by omega))
    obtain⟨t1,t2,t3⟩:=bl.turn oo
    exact key _ b3 p' kp3 t1 t2 t3
   .rw[if_neg hq]
    obtain⟨t1,t2,t3⟩:=bl.one oo aa
    exact key _ b' p' kp' t1 t2 t3
  intro st2 bt pt kt t1 t2 t3
  rw[reverseSlice'_eq]
  refine kasC_bind (kasC_modify ?_)
  have b2:=bt.put (mirror_perm _ lo jI ((lo+m-lo)/2))
  have hz:lo+m<=(arrOf _).size:=Nat.le_trans (show lo+m<=a0.size by omega) (Nat.le_of_eq bt.sz.symm)
  have rv:=Qck (i:=lo) hz
  have l2:Loc ix (mirror _ lo jI ((lo+m-lo)/2)) lo jI:=fun j z1 z2=>by
   rw[rv,if_pos aa];exact t2 _ aa aa
  have r2:Raw ix (mirror _ lo jI ((lo+m-lo)/2)) jI:=fun j z1 z2=>by
   rw[mirror_size]at z2
   rw[rv,if_neg aa];exact t3 j z1 z2
  have sz2:=b2.sz
  refine kasC_bind (Qop (lo:=lo) o aa m2 g' (QrJ hz t1) (fun x m' s g y1 y2=>by
    refine kasC_bind (Qg2 H b2 aa aa g fun s' g'=>?_)
    dsimp only
    rw[←QtS oo l2 r2 y1 aa (Nat.lt_of_lt_of_le (show lo+m'<a0.size by omega) qL)]
    split<;>exact kasC_pure ⟨rfl,g',rfl⟩) fun m' s2 y1 y2 y3 _ g2=>?_)
  exact kasC_pure (h m' _ s2 aa y2 b2 pt y3 (l2.more r2 aa aa (Nat.le_trans (show lo+m'<=a0.size by omega) qL)) (r2.mono aa) (Keep.trans kt (Qfm hz aw)) g2)
end
end TSrt
namespace TSrt
open PySem PySem.W PyProof.Rows
section pure
variable {c:Keyed->Keyed->Bool}
def Asc (c:Keyed->Keyed->Bool)(l:List Keyed):Prop:=l.Pairwise fun x y=>c y x=false
theorem Asc.app {l m:List Keyed}(h1:Asc c l)(h2:Asc c m)(h:∀x∈l,∀y∈m,c y x=false):Asc c (l++m):=List.pairwise_append.mpr ⟨h1,h2,h⟩
theorem Asc.split {l:List Keyed}(h:Asc c l)(k:Nat):Asc c (l.take k)/\Asc c (l.drop k)/\∀x∈l.take k,∀y∈l.drop k,c y x=false:=by
 have h':=h
 rw[←List.take_append_drop k l]at h'
 exact List.pairwise_append.mp h'
theorem Qb7 {xs:Array Keyed}{i:Nat}:ats xs i=(xs.toList[i]?).getD (.none, .none):=by unfold ats;rw[Array.getElem?_toList]
theorem Asc.at {xs:Array Keyed}(h:Asc c xs.toList)(o:Sw c){i j:Nat}(hij:i<=j)(hj:j<xs.size):c ie jq=false:=by
 by_cases e:i=j
 .subst e;exact o.rf _
 .have hj':j<xs.toList.length:=by simpa using hj
  have hi':i<xs.toList.length:=by omega
  have:=List.pairwise_iff_getElem.mp h i j hi' hj' aa
  rw[Qb7,Qb7,List.getElem?_eq_getElem hj',List.getElem?_eq_getElem hi']
  exact this
theorem QfK {xs:Array Keyed}{i:Nat}(h:i<xs.size):xs.toList.drop i=ats xs i::xs.toList.drop (i+1):=by
 have h':i<xs.toList.length:=by simpa using h
 rw[List.drop_eq_getElem_cons h',Qb7,List.getElem?_eq_getElem h'];rfl
theorem QfL {xs:Array Keyed}{i k:Nat}{y:Keyed}(h:y∈(xs.toList.drop i).take k):∃t,t<k/\i+t<xs.size/\y=ats xs (i+t):=by
 obtain⟨t,ht,rfl⟩:=List.mem_iff_getElem.mp h
 have e:=ht
 rw[List.length_take,List.length_drop]at e
 have e2:i+t<xs.size:=by rw[Array.length_toList]at e;omega
 refine⟨t,by omega,e2,?_⟩
 rw[List.getElem_take,List.getElem_drop,Qb7,List.getElem?_eq_getElem];rfl
structure ML (c:Keyed->Keyed->Bool)(a b:Array Keyed)(out:Array Keyed)(ia ib:Nat):Prop where
 so:Asc c out.toList
 pm:out.toList.Perm (a.toList.take ia++b.toList.take ib)
 oa:∀x∈out.toList,∀y∈a.toList.drop ia,c y x=false
 ob:∀x∈out.toList,∀y∈b.toList.drop ib,c y x=false
theorem ML.swap {a b out:Array Keyed}{ia ib:Nat}(h:ML c a b out ia ib):ML c b a out ib ia:=⟨h.so,h.pm.trans List.perm_append_comm,h.ob,h.oa⟩
theorem ML.size {a b out:Array Keyed}{ia ib:Nat}(h:ML c a b out ia ib)(ha:ia<=a.size)(hb:ib<=b.size):out.size=ia+ib:=by
 have:=h.pm.length_eq
 simp only[List.length_append,List.length_take,Array.length_toList]at this
 omega
theorem ML.add {a b out:Array Keyed}{ia ib k:Nat}(o:Sw c)(sa:Asc c a.toList)(sb:Asc c b.toList)(h:ML c a b out ia ib)(hb:ib<b.size)(q:∀t,t<k->ia+t<a.size->c mI (ats a (ia+t))=false):
  ML c a b sM (ia+k) ib:=by
 have e:(out++a.extract ia (ia+k)).toList=out.toList++(a.toList.drop ia).take k:=by
  rw[Array.toList_append,Array.toList_extract,List.extract_eq_drop_take]
  congr 2;omega
 have hd:a.toList.drop (ia+k)=(a.toList.drop ia).drop k:=by rw[List.drop_drop]
 obtain⟨-,sd,-⟩:=sa.split ia
 obtain⟨s1,-,s2⟩:=Asc.split sd k
 constructor
 .rw[e];exact h.so.app s1 fun x hx y hy=>h.oa x hx y (List.mem_of_mem_take hy)
 .rw[e,List.take_add]
  refine(h.pm.append_right _).trans ?_
  rw[List.append_assoc,List.append_assoc]
  exact List.Perm.append_left _ List.perm_append_comm
 .rw[e,hd]
  intro x hx y hy
  rcases List.mem_append.mp hx with hx|hx
  .exact h.oa x hx y (List.mem_of_mem_drop hy)
  .exact s2 x hx y hy
 .rw[e]
  intro x hx y hy
  rcases List.mem_append.mp hx with hx|hx
  .exact h.ob x hx y hy
  .obtain⟨t,t1,t2,rfl⟩:=QfL hx
   have z:=q t t1 t2
   rw[QfK hb]at hy
   rcases List.mem_cons.mp hy with rfl|hy
   .exact z
   .obtain⟨-,s4,-⟩:=sb.split ib
    rw[QfK hb]at s4
    exact o.tr z ((List.pairwise_cons.mp s4).1 y hy)
theorem ML.push {a b out:Array Keyed}{ia ib:Nat}(o:Sw c)(sa:Asc c a.toList)(sb:Asc c b.toList)(h:ML c a b out ia ib)(ha:ia<a.size)(hb:ib<b.size)(q:c mI ju=false):
  ML c a b (out.push ju) (ia+1) ib:=by
 have:=h.add (k:=1) o sa sb hb fun t t1 t2=>by
  obtain rfl:t=0:=by omega
  exact q
 have e:out++a.extract ia (ia+1)=out.push ju:=by
  apply Array.toList_inj.mp
  rw[Array.toList_append,Array.toList_extract,List.extract_eq_drop_take,Array.toList_push,QfK ha]
  rw[show ia+1-ia=1 by omega];rfl
 rwa [e]at this
def Merged (c:Keyed->Keyed->Bool)(a b r:Array Keyed):Prop:=Asc c r.toList/\r.toList.Perm (a.toList++b.toList)
theorem Merged.swap {a b r:Array Keyed}(h:Merged c a b r):Merged c b a r:=⟨h.1,h.2.trans List.perm_append_comm⟩
theorem ML.fin {a b out:Array Keyed}{ia ib:Nat}(sa:Asc c a.toList)(sb:Asc c b.toList)(h:ML c a b out ia ib)(q:∀x∈a.toList.drop ia,∀y∈b.toList.drop ib,c y x=false):Merged c a b (out++a.extract ia a.size++b.extract ib b.size):=by
 have e:(out++a.extract ia a.size++b.extract ib b.size).toList=out.toList++a.toList.drop ia++b.toList.drop ib:=by
  rw[Array.toList_append,Array.toList_append,Array.toList_extract,Array.toList_extract,List.extract_eq_drop_take,List.extract_eq_drop_take,List.take_of_length_le al,List.take_of_length_le al]
 refine⟨?_,?_⟩
 .rw[e]
  refine(h.so.app (sa.split ia).2.1 h.oa).app (sb.split ib).2.1 fun x hx y hy=>?_
  rcases List.mem_append.mp hx with hx|hx
  .exact h.ob x hx y hy
  .exact q x hx y hy
 .rw[e]
  have p1:=(h.pm.append_right (a.toList.drop ia++b.toList.drop ib))
  rw[←List.append_assoc]at p1
  refine p1.trans ?_
  conv=>rhs;rw[←List.take_append_drop ia a.toList,←List.take_append_drop ib b.toList]
  rw[List.append_assoc,List.append_assoc]
  refine List.Perm.append_left _ ?_
  rw[←List.append_assoc,←List.append_assoc]
  exact List.perm_append_comm.append_right _
theorem ML.fin_a {a b out:Array Keyed}{ia ib:Nat}(sa:Asc c a.toList)(sb:Asc c b.toList)(h:ML c a b out ia ib)(e:ia=a.size):Merged c a b (out++a.extract ia a.size++b.extract ib b.size):=h.fin sa sb fun x hx=>by
 rw[e,List.drop_of_length_le al]at hx;simp at hx
theorem ML.fin_b {a b out:Array Keyed}{ia ib:Nat}(sa:Asc c a.toList)(sb:Asc c b.toList)(h:ML c a b out ia ib)(e:ib=b.size):Merged c a b (out++a.extract ia a.size++b.extract ib b.size):=h.fin sa sb fun x _ y hy=>by
 rw[e,List.drop_of_length_le al]at hy;simp at hy
theorem ML.fin_l {a b out:Array Keyed}{ia ib:Nat}(o:Sw c)(sa:Asc c a.toList)(sb:Asc c b.toList)(h:ML c a b out ia ib)(e:ia+1=a.size)(hb:0<b.size)(q:c jX gU=true):Merged c a b (out++b.extract ib b.size++a.extract ia a.size):=
 (h.swap.fin sb sa fun x hx y hy=>by
  rw[QfK aa,List.drop_of_length_le (by simp;omega)]at hy
  obtain rfl:=List.mem_singleton.mp hy
  have hm:=List.mem_of_mem_drop hx
  rw[←List.drop_zero (l:=b.toList),←List.take_of_length_le (l:=b.toList.drop 0) (i:=b.size) al]at hm
  obtain⟨t,t1,t2,rfl⟩:=QfL hm
  rw[Nat.zero_add]
  rw[show ia=a.size-1 by omega]
  exact o.tr (sb.at o (show t<=b.size-1 by omega) aa) (o.asym q)).swap
end pure
end TSrt
namespace TSrt
open PySem PySem.W PyProof.Rows
def Qkc:Array Keyed->Array Keyed->StateT SortSt Sem cg:=sortPriv%PySem.Builtin.mergeLo
structure Bd {α:Type}(β:Type)(m:StateT SortSt Sem α) where
 x:StateT SortSt Sem β
 f:β->StateT SortSt Sem α
 h:m=x>>=f
structure It {α:Type}(m:StateT SortSt Sem α) where
 p:Prop
 d:Decidable p
 t:StateT SortSt Sem α
 e:StateT SortSt Sem α
 h:m= @ite _ p d t e
structure Lp {β:Type}(m:StateT SortSt Sem β) where
 lo:Nat
 hi:Nat
 c:β
 f:Nat->β->StateT SortSt Sem jA
 h:m=forIn [lo:hi] c f
section
abbrev U0:=Array Keyed×Nat×Nat×Nat
abbrev U1:=Array Keyed×Nat×Nat×Nat×Nat
abbrev U2:=Array Keyed×Nat×Nat×Nat×Nat×Nat
abbrev T0:=Option cg×U0
abbrev T1:=Option cg×U1
abbrev T2:=Option cg×U2
variable (a b:Array Keyed)
def lo1:Bd Unit (Qkc a b):=⟨_,_,rfl⟩
def lo2:Bd Keyed ((lo1 a b).f ()):=⟨_,_,rfl⟩
def lo3 (v:Keyed):It ((lo2 a b).f v):=⟨_,_,_,_,rfl⟩
def lo4 (v:Keyed):It (lo3 a b v).e:=⟨_,_,_,_,rfl⟩
def lo5 (v:Keyed):Bd SortSt (lo4 a b v).e:=⟨_,_,rfl⟩
def lo6 (v:Keyed)(st:SortSt):Bd T0 ((lo5 a b v).f st):=⟨_,_,rfl⟩
def lo7 (v:Keyed)(st:SortSt):Lp (lo6 a b v st).x:=⟨_,_,_,_,rfl⟩
def loO:{f:Nat->T0->StateT SortSt Sem (ForInStep T0)//∀v st,(lo7 a b v st).f=f}:=⟨_,fun _ _=>rfl⟩
section
variable (j:Nat)(t:T0)
def oA:Bd T1 ((loO a b).1 j t):=⟨_,_,rfl⟩
def oB:Lp (oA a b j t).x:=⟨_,_,_,_,rfl⟩
def oC (d:U1):Bd Unit ((oA a b j t).f (none,d)):=⟨_,_,rfl⟩
def oD (d:U1):Bd T2 ((oC a b j t d).f ()):=⟨_,_,rfl⟩
def oE (d:U1):Lp (oD a b j t d).x:=⟨_,_,_,_,rfl⟩
def oF (d:U1)(e:U2):Bd Unit ((oD a b j t d).f (none,e)):=⟨_,_,rfl⟩
end
def loB1 (t:T0):{f:Nat->T1->StateT SortSt Sem (ForInStep T1)//∀j,(oB a b j t).f=f}:=⟨_,fun _=>rfl⟩
def loB2:{f:Nat->T2->StateT SortSt Sem jC//∀j t d,(oE a b j t d).f=f}:=⟨_,fun _ _ _=>rfl⟩
section
variable (t0:T0)(i:Nat)(t:T1)
def c1:Bd Keyed ((loB1 a b t0).1 i t):=⟨_,_,rfl⟩
def c2 (x:Keyed):Bd Keyed ((c1 a b t0 i t).f x):=⟨_,_,rfl⟩
def c3 (x y:Keyed):Bd qk ((c2 a b t0 i t x).f y):=⟨_,_,rfl⟩
def c4 (x y:Keyed)(w:Bool):It ((c3 a b t0 i t x y).f sG):=⟨_,_,_,_,rfl⟩
def c5 (x y:Keyed)(w:Bool):Bd Keyed (c4 a b t0 i t x y w).t:=⟨_,_,rfl⟩
def c6 (x y:Keyed)(w:Bool)(z:Keyed):It ((c5 a b t0 i t x y w).f z):=⟨_,_,_,_,rfl⟩
def c7 (x y:Keyed)(w:Bool)(z:Keyed):It (c6 a b t0 i t x y w z).e:=⟨_,_,_,_,rfl⟩
def c8 (x y:Keyed)(w:Bool):Bd Keyed (c4 a b t0 i t x y w).e:=⟨_,_,rfl⟩
def c9 (x y:Keyed)(w:Bool)(z:Keyed):It ((c8 a b t0 i t x y w).f z):=⟨_,_,_,_,rfl⟩
def c10 (x y:Keyed)(w:Bool)(z:Keyed):It (c9 a b t0 i t x y w z).e:=⟨_,_,_,_,rfl⟩
end
section
variable (i:Nat)(r:Option (Array Keyed))(out:Array Keyed)(ia ib ac bc mg:Nat)
def g0:It ((loB2 a b).1 i (r,out,ia,ib,mg,ac,bc)):=⟨_,_,_,_,rfl⟩
def gK:{K:Nat->StateT SortSt Sem jC//∀mg,(g0 a b i r out ia ib ac bc mg).e=K mg}:=⟨_,fun _=>rfl⟩
theorem gK_t:(g0 a b i r out ia ib ac bc mg).t=(gK a b i r out ia ib ac bc).1 (mg-1):=rfl
def g1:Bd Unit ((gK a b i r out ia ib ac bc).1 mg):=⟨_,_,rfl⟩
def g2:Bd Keyed ((g1 a b i r out ia ib ac bc mg).f ()):=⟨_,_,rfl⟩
def g3 (x:Keyed):Bd aC ((g2 a b i r out ia ib ac bc mg).f x):=⟨_,_,rfl⟩
def g4 (x:Keyed)(k:Nat):It ((g3 a b i r out ia ib ac bc mg x).f o4):=⟨_,_,_,_,rfl⟩
def g5 (x:Keyed)(k:Nat):It (g4 a b i r out ia ib ac bc mg x k).t:=⟨_,_,_,_,rfl⟩
def g6 (x:Keyed)(k:Nat):It (g5 a b i r out ia ib ac bc mg x k).e:=⟨_,_,_,_,rfl⟩
end
section
variable (i:Nat)(r:Option (Array Keyed))(ib ac bc mg:Nat)(x:Keyed)(k:Nat)
def J1:{K:Array Keyed->Nat->StateT SortSt Sem jC//∀out ia,(g4 a b i r out ia ib ac bc mg x k).e=K out ia}:=⟨_,fun _ _=>rfl⟩
theorem J1_t (out:Array Keyed)(ia:Nat):(g6 a b i r out ia ib ac bc mg x k).e=(J1 a b i r ib ac bc mg x k).1 sM (ia+k):=rfl
def h1 (out:Array Keyed)(ia:Nat):Bd Keyed ((J1 a b i r ib ac bc mg x k).1 out ia):=⟨_,_,rfl⟩
def h2 (out:Array Keyed)(ia:Nat)(y:Keyed):It ((h1 a b i r ib ac bc mg x k out ia).f y):=⟨_,_,_,_,rfl⟩
def K3 (ia:Nat):{K:Array Keyed->Nat->StateT SortSt Sem jC//∀out y,(h2 a b i r ib ac bc mg x k out ia y).e=K (out.push y) (ib+1)}:=by
 refine⟨?K,?_⟩
 rotate_left
 .intro out y
  dsimp only[h2]
  generalize out.push y=o
  generalize ib+1=j
  rfl
section
variable (ia:Nat)(o:Array Keyed)(j:Nat)
def k2:Bd Keyed ((K3 a b i r ib ac bc mg x k ia).1 o j):=⟨_,_,rfl⟩
def k3 (z:Keyed):Bd aC ((k2 a b i r ib ac bc mg x k ia o j).f z):=⟨_,_,rfl⟩
def k4 (z:Keyed)(l:Nat):It ((k3 a b i r ib ac bc mg x k ia o j z).f (some l)):=⟨_,_,_,_,rfl⟩
def k5 (z:Keyed)(l:Nat):It (k4 a b i r ib ac bc mg x k ia o j z l).t:=⟨_,_,_,_,rfl⟩
end
def K2 (ia:Nat)(z:Keyed)(l:Nat):{K:Array Keyed->Nat->StateT SortSt Sem jC//∀o j,(k4 a b i r ib ac bc mg x k ia o j z l).e=K o j}:=⟨_,fun _ _=>rfl⟩
theorem K2_t (ia:Nat)(z:Keyed)(l:Nat)(o:Array Keyed)(j:Nat):(k5 a b i r ib ac bc mg x k ia o j z l).e=(K2 a b i r ib ac bc mg x k ia z l).1 (o++b.extract j (j+l)) (j+l):=rfl
def q1 (ia:Nat)(z:Keyed)(l:Nat)(o:Array Keyed)(j:Nat):Bd Keyed ((K2 a b i r ib ac bc mg x k ia z l).1 o j):=⟨_,_,rfl⟩
def q2 (ia:Nat)(z:Keyed)(l:Nat)(o:Array Keyed)(j:Nat)(w:Keyed):It ((q1 a b i r ib ac bc mg x k ia z l o j).f w):=⟨_,_,_,_,rfl⟩
def q3 (ia:Nat)(z:Keyed)(l:Nat)(o:Array Keyed)(j:Nat)(w:Keyed):It (q2 a b i r ib ac bc mg x k ia z l o j w).e:=⟨_,_,_,_,rfl⟩
end
end
def Qkd:Array Keyed->Array Keyed->StateT SortSt Sem cg:=sortPriv%PySem.Builtin.mergeHi
structure Gs (st st':SortSt):Prop where
 kd:kindOf st'=kindOf st
 ar:arrOf st'=arrOf st
 pe:pendingOf st'=pendingOf st
 fd:failedOf st'=failedOf st
theorem Gs.rf (st:SortSt):Gs st st:=⟨rfl,rfl,rfl,rfl⟩
theorem Up.of {c:Keyed->Keyed->Bool}{xs:Array Keyed}(o:Sw c)(h:Asc c xs.toList){lo hi:Nat}(hz:hi<=xs.size):Up c xs lo hi:=fun i j _ h2 h3=>h.at o h2 aa
section
variable {M:Model}{A:Around}{E:Value->Shared->Prop}{κ:SortKind}{a0:Array Keyed}{c0 c:Keyed->Keyed->Bool}{ix:Keyed->Nat}{G:Shared->Prop}
theorem galR (H:Cmp M A κ a0 c0 G)(oo:Od c0 c ix){arr:Array Keyed}{key:Keyed}{base n hint:Nat}{st:SortSt}{s:Shared}{Q:Option Nat->SortSt->Shared->Prop}(hx:∀i,i<n->ix eL<ix key)(up:Up c arr base (base+n))(mem:∀x∈arr.toList,x∈a0.toList)(hk:key∈a0.toList)(hz:base+n<=arr.size)(hh:hint<n)(kd:kindOf st=κ)(g:G s)
  (q:∀k s',k<=n->(∀i,i<k->c key eL=false)->(k<n->c key (ats arr (base+k))=true)->G s'->Q o4 st s'):kasC M A E (QhD false key arr base n hint) Q st s:=by
 have o:=oo.o
 refine QiF (G:=G) (B:=fun i=> !(c key eL)) (fun i hi s g=>?_) (fun i j hij hj e=>?_) hh g fun k s' ed g'=>q k s' ed.le (fun i hi=>?_) (fun hk=>?_) g'
 .unfold Ql6
  refine kasC_bind (Qbu aa ?_)
  rw[if_neg al]
  refine kasC_bind (QnC H oo (hx i hi) kd hk (mem _ (QH aa)) g fun s' g'=>?_)
  exact kasC_pure ⟨rfl,rfl,g'⟩
 .simp only[Bool.not_eq_true']at e⊢
  exact o.tr (up _ _ aa aa aa) e
 .simpa using ed.lo i hi
 .simpa using ed.hi hk
theorem galL (H:Cmp M A κ a0 c0 G)(oo:Od c0 c ix){arr:Array Keyed}{key:Keyed}{base n hint:Nat}{st:SortSt}{s:Shared}{Q:Option Nat->SortSt->Shared->Prop}(hx:∀i,i<n->ix key<ix eL)(up:Up c arr base (base+n))(mem:∀x∈arr.toList,x∈a0.toList)(hk:key∈a0.toList)(hz:base+n<=arr.size)(hh:hint<n)(kd:kindOf st=κ)(g:G s)
  (q:∀k s',k<=n->(∀i,i<k->c eL key=true)->(k<n->c (ats arr (base+k)) key=false)->G s'->Q o4 st s'):kasC M A E (QhD true key arr base n hint) Q st s:=by
 have o:=oo.o
 refine QiF (G:=G) (B:=fun i=>c eL key) (fun i hi s g=>?_) (fun i j hij hj e=>?_) hh g fun k s' ed g'=>q k s' ed.le ed.lo ed.hi g'
 .unfold Ql6
  refine kasC_bind (Qbu aa ?_)
  rw[if_pos rfl]
  exact QnC H oo (hx i hi) kd (mem _ (QH aa)) hk g fun s' g'=>⟨rfl,rfl,g'⟩
 .cases z:c eL key with
  |true=>rfl
  |false=>
   have z2:=up (base+i) (base+j) aa aa aa
   exact absurd e (by rw[o.tr z z2];simp)
theorem Bd.go {α β:Type}{m:StateT SortSt Sem α}(d:Bd β m){Q:α->SortSt->Shared->Prop}{st:SortSt}{s:Shared}(h:kasC M A E d.x (fun v st' s'=>kasC M A E (d.f v) Q st' s') st s):kasC M A E m Q st s:=by
 rw[d.h];exact kasC_bind h
theorem It.go {α:Type}{m:StateT SortSt Sem α}(d:It m){Q:α->SortSt->Shared->Prop}{st:SortSt}{s:Shared}(h1:d.p->kasC M A E d.t Q st s)(h2:¬d.p->kasC M A E d.e Q st s):kasC M A E m Q st s:=by
 rw[d.h];split
 .rename_i z;exact h1 z
 .rename_i z;exact h2 z
theorem Lp.go {β:Type}{m:StateT SortSt Sem β}(d:Lp m){Q:β->SortSt->Shared->Prop}{st:SortSt}{s:Shared}(I:Nat->β->SortSt->Shared->Prop)
  (step:∀i c st s,i<d.hi->I i c st s->kasC M A E (d.f i c) (fun r st' s'=>match r with| .done c'=>Q c' st' s'| .yield c'=>I (i+1) c' st' s') st s)
  (fin:∀c st s,I (max d.lo d.hi) c st s->Q c st s) (h:I d.lo d.c st s):kasC M A E m Q st s:=by
 rw[d.h];exact Qcj I (fun i c st s _ h2 h3=>step i c st s h2 h3) fin h
structure LC (M:Model)(A:Around)(κ:SortKind)(a0:Array Keyed)(c0 c:Keyed->Keyed->Bool)(ix:Keyed->Nat)(G:Shared->Prop)(a b:Array Keyed):Prop where
 H:Cmp M A κ a0 c0 G
 oo:Od c0 c ix
 sa:Asc c a.toList
 sb:Asc c b.toList
 ma:∀x∈a.toList,x∈a0.toList
 mb:∀x∈b.toList,x∈a0.toList
 hx:∀x∈a.toList,∀y∈b.toList,ix x<ix y
 ha:0<a.size
 hb:0<b.size
 f1:c nM qD=true
 f2:c jX gU=true
structure LI (c:Keyed->Keyed->Bool)(a b:Array Keyed)(k:Nat)(o:Array Keyed)(ia ib:Nat):Prop where
 ml:ML c a b o ia ib
 ha:ia+1<a.size
 hb:ib<b.size
 sz:k<=o.size
theorem LI.a1 {a b o:Array Keyed}{k ia ib:Nat}(x:LI c a b k o ia ib):ia<a.size:=Nat.lt_of_succ_lt x.ha
theorem LI.eq {a b o:Array Keyed}{k ia ib:Nat}(x:LI c a b k o ia ib):o.size=ia+ib:=x.ml.size (Nat.le_of_lt x.a1) (Nat.le_of_lt x.hb)
section
variable {a b:Array Keyed}{st:SortSt}{s:Shared}
theorem QcN {m n:Nat}(h:(m==n)=true):m=n:=by simpa using h
theorem QcO {m n:Nat}(h:¬(m==n)=true):m≠n:=by simpa using h
theorem QtT (L:LC M A κ a0 c0 c ix G a b){t0:T0}{i k:Nat}{t:T1}{Q:ForInStep T1->SortSt->Shared->Prop}(I:LI c a b k t.2.1 t.2.2.1 t.2.2.2.1)(kd:kindOf st=κ)(g:G s)
  (hm:∀r u s',Merged c a b r->G s'->Q bP st s') (hd:∀u s',LI c a b (k+1) u.1 u.2.1 u.2.2.1->G s'->Q cH st s') (hy:∀u s',LI c a b (k+1) u.1 u.2.1 u.2.2.1->G s'->Q bW st s'):
  kasC M A E ((loB1 a b t0).1 i t) Q st s:=by
 have o:=L.oo.o
 refine(c1 a b t0 i t).go (Qbu (xs:=b) (i:=t.2.2.2.1) I.hb ?_)
 refine(c2 a b t0 i t _).go (Qbu (xs:=a) (i:=t.2.2.1) I.a1 ?_)
 refine(c3 a b t0 i t _ _).go (QnC L.H L.oo (L.hx _ qK _ qH) kd (L.mb _ qH) (L.ma _ qK) g fun s3 g3=>?_)
 refine(c4 a b t0 i t _ _ _).go (fun w=>?_) (fun w=>?_)
 .refine(c5 a b t0 i t _ _ _).go (Qbu (xs:=b) (i:=t.2.2.2.1) I.hb ?_)
  have ml':=(I.ml.swap.push o L.sb L.sa I.hb I.a1 (o.asym w)).swap
  have sz:=ml'.size uh I.hb
  have hs:k+1<=(t.2.1.push (ats b t.2.2.2.1)).size:=by rw[Array.size_push];exact Nat.succ_le_succ I.sz
  refine(c6 a b t0 i t _ _ _ _).go (fun z=>kasC_pure (hm _ _ _ (ml'.fin_b L.sa L.sb iD) g3)) (fun z=>?_)
  have z':t.2.2.2.1+1<b.size:=Nat.lt_of_le_of_ne I.hb l9
  exact(c7 a b t0 i t _ _ _ _).go (fun _=>kasC_pure (hd _ _ ⟨ml',I.ha,z',hs⟩ g3)) (fun _=>kasC_pure (hy _ _ ⟨ml',I.ha,z',hs⟩ g3))
 .refine(c8 a b t0 i t _ _ _).go (Qbu (xs:=a) (i:=t.2.2.1) I.a1 ?_)
  have w':c (ats b t.2.2.2.1) (ats a t.2.2.1)=false:=Bool.eq_false_iff.mpr w
  have ml':=I.ml.push o L.sa L.sb I.a1 I.hb w'
  have hs:k+1<=(t.2.1.push (ats a t.2.2.1)).size:=by rw[Array.size_push];exact Nat.succ_le_succ I.sz
  refine(c9 a b t0 i t _ _ _ _).go (fun z=>kasC_pure (hm _ _ _ (ml'.fin_l o L.sa L.sb iD L.hb L.f2) g3)) (fun z=>?_)
  have z':t.2.2.1+1+1<a.size:=Nat.lt_of_le_of_ne I.ha l9
  exact(c10 a b t0 i t _ _ _ _).go (fun _=>kasC_pure (hd _ _ ⟨ml',z',I.hb,hs⟩ g3)) (fun _=>kasC_pure (hy _ _ ⟨ml',z',I.hb,hs⟩ g3))
theorem LI.le {o:Array Keyed}{k k' ia ib:Nat}(x:LI c a b k o ia ib)(h:k'<=k):LI c a b k' o ia ib:=⟨x.ml,x.ha,x.hb,Nat.le_trans h x.sz⟩
theorem QrK (L:LC M A κ a0 c0 c ix G a b){i ib ac bc mg kk ia l k j:Nat}{r:Option cg}{x z:Keyed}{o:Array Keyed}{Q:ForInStep T2->SortSt->Shared->Prop}(I:LI c a b k o ia j)(w:c (ats b j) ju=false)(g:G s)
  (hm:∀r u s',Merged c a b r->G s'->Q bP st s') (hd:∀u s',LI c a b (k+1) u.1 u.2.1 u.2.2.1->G s'->Q cH st s') (hy:∀u s',LI c a b (k+1) u.1 u.2.1 u.2.2.1->G s'->Q bW st s'):
  kasC M A E ((K2 a b i r ib ac bc mg x kk ia z l).1 o j) Q st s:=by
 have oc:=L.oo.o
 refine(q1 a b i r ib ac bc mg x kk ia z l o j).go (Qbu (xs:=a) (i:=ia) I.a1 ?_)
 have ml:=I.ml.push oc L.sa L.sb I.a1 I.hb w
 have hs:k+1<=(o.push ju).size:=by rw[Array.size_push];exact Nat.succ_le_succ I.sz
 refine(q2 a b i r ib ac bc mg x kk ia z l o j _).go (fun z=>kasC_pure (hm _ _ _ (ml.fin_l oc L.sa L.sb iD L.hb L.f2) g)) (fun z=>?_)
 have z':ia+1+1<a.size:=Nat.lt_of_le_of_ne I.ha l9
 exact(q3 a b i r ib ac bc mg x kk ia _ l o j _).go (fun _=>kasC_pure (hd _ _ ⟨ml,z',I.hb,hs⟩ g)) (fun _=>kasC_pure (hy _ _ ⟨ml,z',I.hb,hs⟩ g))
theorem QtU (L:LC M A κ a0 c0 c ix G a b){i ib ac bc mg kk ia k j:Nat}{r:Option cg}{x:Keyed}{o:Array Keyed}{Q:ForInStep T2->SortSt->Shared->Prop}(I:LI c a b k o ia j)(kd:kindOf st=κ)(g:G s)
  (hm:∀r u s',Merged c a b r->G s'->Q bP st s') (hd:∀u s',LI c a b (k+1) u.1 u.2.1 u.2.2.1->G s'->Q cH st s') (hy:∀u s',LI c a b (k+1) u.1 u.2.1 u.2.2.1->G s'->Q bW st s'):
  kasC M A E ((K3 a b i r ib ac bc mg x kk ia).1 o j) Q st s:=by
 have oc:=L.oo.o
 have hb:=I.hb
 have hn:j+(b.size-j)=b.size:=by omega
 refine(k2 a b i r ib ac bc mg x kk ia o j).go (Qbu (xs:=a) (i:=ia) I.a1 ?_)
 refine(k3 a b i r ib ac bc mg x kk ia o j _).go (galL (arr:=b) (key:=ats a ia) (base:=j) (n:=b.size-j) (hint:=0) L.H L.oo (fun i hi=>L.hx _ qK _ (QH aa)) (Up.of oc L.sb jO) L.mb (L.ma _ qK) jO rT kd g fun l s5 l1 l2 l3 g5=>?_)
 refine(k4 a b i r ib ac bc mg x kk ia o j _ l).go (fun lz=>?_) (fun lz=>?_)
 .have ml3:=(I.ml.swap.add (k:=l) oc L.sb L.sa I.a1 fun t t1 t2=>oc.asym (l2 t t1)).swap
  have sz3:=ml3.size uh (show j+l<=b.size by omega)
  have sz:=I.eq
  have hk:=I.sz
  refine(k5 a b i r ib ac bc mg x kk ia o j _ l).go (fun z=>kasC_pure (hm _ _ _ (ml3.fin_b L.sa L.sb iD) g5)) (fun z=>?_)
  have z':j+l<b.size:=Nat.lt_of_le_of_ne aa l9
  rw[K2_t]
  exact QrK L ⟨ml3,I.ha,z',by omega⟩ (l3 aa) g5 hm hd hy
 .have l0:l=0:=Nat.eq_zero_of_not_pos lz
  subst l0
  rw[(K2 a b i r ib ac bc mg x kk ia ju 0).2 o j]
  exact QrK L I (l3 rT) g5 hm hd hy
theorem QrL (L:LC M A κ a0 c0 c ix G a b){i ib ac bc mg kk ia k:Nat}{r:Option cg}{x:Keyed}{o:Array Keyed}{Q:ForInStep T2->SortSt->Shared->Prop}(I:LI c a b k o ia ib)(w:c ju mI=false)(kd:kindOf st=κ)(g:G s)
  (hm:∀r u s',Merged c a b r->G s'->Q bP st s') (hd:∀u s',LI c a b (k+1) u.1 u.2.1 u.2.2.1->G s'->Q cH st s') (hy:∀u s',LI c a b (k+1) u.1 u.2.1 u.2.2.1->G s'->Q bW st s'):
  kasC M A E ((J1 a b i r ib ac bc mg x kk).1 o ia) Q st s:=by
 have oc:=L.oo.o
 refine(h1 a b i r ib ac bc mg x kk o ia).go (Qbu (xs:=b) (i:=ib) I.hb ?_)
 have ml2:=(I.ml.swap.push oc L.sb L.sa I.hb I.a1 w).swap
 have hs:k<=(o.push mI).size:=by rw[Array.size_push];exact Nat.le_succ_of_le I.sz
 refine(h2 a b i r ib ac bc mg x kk o ia _).go (fun z=>kasC_pure (hm _ _ _ (ml2.fin_b L.sa L.sb iD) g)) (fun z=>?_)
 have z':ib+1<b.size:=Nat.lt_of_le_of_ne I.hb l9
 rw[(K3 a b i r ib ac bc mg x kk ia).2]
 exact QtU L ⟨ml2,I.ha,z',hs⟩ kd g hm hd hy
theorem QrM (L:LC M A κ a0 c0 c ix G a b){i ib ac bc mg ia k:Nat}{r:Option cg}{o:Array Keyed}{Q:ForInStep T2->SortSt->Shared->Prop}(I:LI c a b k o ia ib)(kd:kindOf st=κ)(g:G s)
  (hm:∀r u st' s',Merged c a b r->Gs st st'->G s'->Q bP st' s') (hd:∀u st' s',LI c a b (k+1) u.1 u.2.1 u.2.2.1->Gs st st'->G s'->Q cH st' s') (hy:∀u st' s',LI c a b (k+1) u.1 u.2.1 u.2.2.1->Gs st st'->G s'->Q bW st' s'):
  kasC M A E ((gK a b i r o ia ib ac bc).1 mg) Q st s:=by
 have oc:=L.oo.o
 have ha:=I.a1
 have hn:ia+(a.size-ia)=a.size:=by omega
 refine(g1 a b i r o ia ib ac bc mg).go (kasC_modify ?_)
 refine(g2 a b i r o ia ib ac bc mg).go (Qbu (xs:=b) (i:=ib) I.hb ?_)
 refine(g3 a b i r o ia ib ac bc mg _).go (galR (arr:=a) (key:=ats b ib) (base:=ia) (n:=a.size-ia) (hint:=0) L.H L.oo (fun i hi=>L.hx _ (QH aa) _ qH) (Up.of oc L.sa jO) L.ma (L.mb _ qH) jO rV kd g fun n s4 v1 v2 v3 gg=>?_)
 refine(g4 a b i r o ia ib ac bc mg _ n).go (fun kz=>?_) (fun kz=>?_)
 .have mlx:=I.ml.add (k:=n) oc L.sa L.sb I.hb fun t t1 t2=>v2 t t1
  have szx:=mlx.size (show ia+n<=a.size by omega) (Nat.le_of_lt I.hb)
  have sz:=I.eq
  have hk:=I.sz
  refine(g5 a b i r o ia ib ac bc mg _ n).go (fun z=>kasC_pure (hm _ _ _ _ (mlx.fin_l oc L.sa L.sb iD L.hb L.f2) ⟨rfl,rfl,rfl,rfl⟩ gg)) (fun z=>?_)
  refine(g6 a b i r o ia ib ac bc mg _ n).go (fun z1=>kasC_pure (hm _ _ _ _ (mlx.fin_a L.sa L.sb (QcN z1)) ⟨rfl,rfl,rfl,rfl⟩ gg)) (fun z1=>?_)
  have zz:ia+n+1≠a.size:=QcO z
  have zz1:ia+n≠a.size:=QcO z1
  have vx:ia+n+1<a.size:=by omega
  rw[J1_t]
  exact QrL L ⟨mlx,vx,I.hb,by omega⟩ (oc.asym (v3 aa)) kd gg (fun r u s' a b=>hm r u _ s' a ⟨rfl,rfl,rfl,rfl⟩ b) (fun u s' a b=>hd u _ s' a ⟨rfl,rfl,rfl,rfl⟩ b) (fun u s' a b=>hy u _ s' a ⟨rfl,rfl,rfl,rfl⟩ b)
 .have k0:n=0:=Nat.eq_zero_of_not_pos kz
  subst k0
  rw[(J1 a b i r ib ac bc mg mI 0).2 o ia]
  exact QrL L I (oc.asym (v3 rV)) kd gg (fun r u s' a b=>hm r u _ s' a ⟨rfl,rfl,rfl,rfl⟩ b) (fun u s' a b=>hd u _ s' a ⟨rfl,rfl,rfl,rfl⟩ b) (fun u s' a b=>hy u _ s' a ⟨rfl,rfl,rfl,rfl⟩ b)
theorem QtV (L:LC M A κ a0 c0 c ix G a b){i k:Nat}{t:T2}{Q:ForInStep T2->SortSt->Shared->Prop}(I:LI c a b k t.2.1 t.2.2.1 t.2.2.2.1)(kd:kindOf st=κ)(g:G s)
  (hm:∀r u st' s',Merged c a b r->Gs st st'->G s'->Q bP st' s') (hd:∀u st' s',LI c a b (k+1) u.1 u.2.1 u.2.2.1->Gs st st'->G s'->Q cH st' s') (hy:∀u st' s',LI c a b (k+1) u.1 u.2.1 u.2.2.1->Gs st st'->G s'->Q bW st' s'):
  kasC M A E ((loB2 a b).1 i t) Q st s:=by
 obtain⟨r,o,ia,ib,mg,ac,bc⟩:=t
 refine(g0 a b i r o ia ib ac bc mg).go (fun _=>?_) (fun _=>?_)
 .rw[gK_t];exact QrM L I kd g hm hd hy
 .rw[(gK a b i r o ia ib ac bc).2 mg];exact QrM L I kd g hm hd hy
theorem Gs.tr {st st1 st2:SortSt}(x:Gs st st1)(y:Gs st1 st2):Gs st st2:=⟨y.kd.trans x.kd,y.ar.trans x.ar,y.pe.trans x.pe,y.fd.trans x.fd⟩
theorem lo_O (L:LC M A κ a0 c0 c ix G a b){j k:Nat}{t:T0}{Q:ForInStep T0->SortSt->Shared->Prop}(I:LI c a b k t.2.1 t.2.2.1 t.2.2.2.1)(kd:kindOf st=κ)(g:G s)
  (hm:∀r u st' s',Merged c a b r->Gs st st'->G s'->Q bP st' s') (hy:∀u st' s',LI c a b (k+1) u.1 u.2.1 u.2.2.1->Gs st st'->G s'->Q bW st' s'):
  kasC M A E ((loO a b).1 j t) Q st s:=by
 refine(oA a b j t).go (Qy (Q:=fun d st' s'=>st'=st/\((∃r u,d=(some r,u)/\Merged c a b r/\G s')\/∃u,d=(none,u)/\LI c a b (k+1) u.1 u.2.1 u.2.2.1/\G s')) ((oB a b j t).go (fun i d st' s'=>st'=st/\∃u,d=(none,u)/\LI c a b (k+i) u.1 u.2.1 u.2.2.1/\G s') ?_ ?_ ?_) ?_)
 .rintro i _ st1 s1 _ ⟨e0,u,rfl,I1,g1⟩
  have e1:=e0.symm
  subst e1
  exact QtT (i:=i) (t0:=t) (t:=(none,u)) L I1 kd g1 (fun r u s' x y=>⟨rfl, .inl ⟨r,u,rfl,x,y⟩⟩) (fun u s' x y=>⟨rfl, .inr ⟨u,rfl,x.le lF,y⟩⟩) (fun u s' x y=>⟨rfl,u,rfl,x,y⟩)
 .rintro _ st1 s1 ⟨e0,u,rfl,I1,g1⟩
  exfalso
  have sz:=I1.eq
  have h1:=I1.sz
  have h2:=I1.a1
  have h3:=I1.hb
  have h4:(oB a b j t).hi=a.size+b.size:=rfl
  rw[h4]at h1
  omega
 .exact⟨rfl,_,rfl,I.le aw,g⟩
 .rintro _ st1 s1 ⟨e0,⟨r,u,rfl,x,y⟩|⟨u,rfl,I1,g1⟩⟩<;>(have e1:=e0.symm;subst e1)
  .exact kasC_pure tW
  .refine(oC a b j t u).go (kasC_lift (wpAny_rule ?_))
   refine(oD a b j t u).go (Qy (Q:=fun d st' s'=>Gs st st'/\((∃r u,d=(some r,u)/\Merged c a b r/\G s')\/∃u,d=(none,u)/\LI c a b (k+1) u.1 u.2.1 u.2.2.1/\G s')) ((oE a b j t u).go (fun i d st' s'=>Gs st st'/\∃u,d=(none,u)/\LI c a b (k+1+i) u.1 u.2.1 u.2.2.1/\G s') ?_ ?_ ?_) ?_)
   .rintro i _ st2 s2 _ ⟨gs,e,rfl,I2,g2⟩
    exact QtV (i:=i) (t:=(none,e)) L I2 kc g2 (fun r u st' s' x q y=>⟨gs.tr q, .inl ⟨r,u,rfl,x,y⟩⟩) (fun u st' s' x q y=>⟨gs.tr q, .inr ⟨u,rfl,x.le jH,y⟩⟩) (fun u st' s' x q y=>⟨gs.tr q,u,rfl,x,y⟩)
   .rintro _ st2 s2 ⟨gs,e,rfl,I2,g2⟩
    exfalso
    have sz:=I2.eq
    have h1:=I2.sz
    have h2:=I2.a1
    have h3:=I2.hb
    have h4:(oE a b j t u).hi=a.size+b.size:=rfl
    rw[h4]at h1
    omega
   .exact⟨Gs.rf _,_,rfl,I1,g1⟩
   .rintro _ st2 s2 ⟨gs,⟨r,e,rfl,x,y⟩|⟨e,rfl,I2,g2⟩⟩
    .exact kasC_pure tX
    .exact(oF a b j t u e).go hW
end
theorem QtW (H:Cmp M A κ a0 c0 G)(oo:Od c0 c ix){a b:Array Keyed}{st:SortSt}{s:Shared}{Q:Array Keyed->SortSt->Shared->Prop}(sa:Asc c a.toList)(sb:Asc c b.toList)(ma:∀x∈a.toList,x∈a0.toList)(mb:∀x∈b.toList,x∈a0.toList)
  (hx:∀x∈a.toList,∀y∈b.toList,ix x<ix y) (ha:0<a.size) (hb:0<b.size) (f1:c nM qD=true) (f2:c jX gU=true) (kd:kindOf st=κ) (g:G s)
  (q:∀r st' s',Merged c a b r->Gs st st'->G s'->Q r st' s'):kasC M A E (Qkc a b) Q st s:=by
 have L:LC M A κ a0 c0 c ix G a b:=⟨H,oo,sa,sb,ma,mb,hx,ha,hb,f1,f2⟩
 have o:=oo.o
 refine(lo1 a b).go (kasC_lift (wpAny_rule ?_))
 refine(lo2 a b).go (Qbu (xs:=b) (i:=0) hb ?_)
 have ml0:ML c a b #[ats b 0] 0 1:=(ML.push (out:= #[]) (a:=b) (b:=a) (ia:=0) (ib:=0) o sb sa ⟨List.Pairwise.nil,List.Perm.refl _,fun x hx=>by simp at hx,fun x hx=>by simp at hx⟩ hb ha (o.asym f1)).swap
 refine(lo3 a b _).go (fun e1=>kasC_pure (q _ st s (ml0.fin_b sa sb (QcN e1)) mf g)) (fun e1=>?_)
 refine(lo4 a b _).go (fun e2=>kasC_pure (q _ st s (ml0.fin_l o sa sb (QcN e2) hb f2) mf g)) (fun e2=>?_)
 have e1':1<b.size:=Nat.lt_of_le_of_ne hb (QcO e1)
 have e2':0+1<a.size:=Nat.lt_of_le_of_ne ha (QcO e2)
 refine(lo5 a b _).go (kasC_get ?_)
 refine(lo6 a b _ st).go (Qy (Q:=fun d st' s'=>∃r u,d=(some r,u)/\Merged c a b r/\Gs st st'/\G s')
  ((lo7 a b _ st).go (fun j d st' s'=>∃u,d=(none,u)/\LI c a b (1+j) u.1 u.2.1 u.2.2.1/\Gs st st'/\G s') ?_ ?_ ?_) ?_)
 .rintro j _ st1 s1 _ ⟨u,rfl,I1,gs,g1⟩
  exact lo_O (j:=j) (t:=(none,u)) L I1 kc g1 (fun r u st' s' x q y=>⟨r,u,rfl,x,gs.tr q,y⟩) (fun u st' s' x q y=>⟨u,rfl,x,gs.tr q,y⟩)
 .rintro _ st1 s1 ⟨u,rfl,I1,gs,g1⟩
  exfalso
  have sz:=I1.eq
  have h1:=I1.sz
  have h2:=I1.a1
  have h3:=I1.hb
  have h4:(lo7 a b nM st).hi=a.size+b.size:=rfl
  rw[h4]at h1
  omega
 .exact⟨_,rfl,⟨ml0,e2',e1',Nat.le_refl 1⟩,Gs.rf _,g⟩
 .rintro _ st1 s1 ⟨r,u,rfl,z1,z2,z3⟩
  exact kasC_pure uu
end
end TSrt
namespace TSrt
open PySem PySem.W PyProof.Rows
section pure
variable {c:Keyed->Keyed->Bool}
structure MH (c:Keyed->Keyed->Bool)(a b:Array Keyed)(out:Array Keyed)(na nb:Nat):Prop where
 so:out.toList.Pairwise fun x y=>c x y=false
 pm:out.toList.Perm (a.toList.drop na++b.toList.drop nb)
 oa:∀x∈out.toList,∀y∈a.toList.take na,c x y=false
 ob:∀x∈out.toList,∀y∈b.toList.take nb,c x y=false
theorem MH.swap {a b out:Array Keyed}{ia ib:Nat}(h:MH c a b out ia ib):MH c b a out ib ia:=⟨h.so,h.pm.trans List.perm_append_comm,h.ob,h.oa⟩
theorem MH.size {a b out:Array Keyed}{ia ib:Nat}(h:MH c a b out ia ib)(ha:ia<=a.size)(hb:ib<=b.size):out.size=a.size-ia+(b.size-ib):=by
 have:=h.pm.length_eq
 simp only[List.length_append,List.length_drop,Array.length_toList]at this
 omega
theorem QfM {xs:Array Keyed}{k:Nat}{y:Keyed}(h:y∈xs.toList.take k):∃t,t<k/\t<xs.size/\y=ats xs t:=by
 have:y∈(xs.toList.drop 0).take k:=h
 obtain⟨t,t1,t2,e⟩:=QfL this
 rw[Nat.zero_add]at t2 e
 exact⟨t,t1,t2,e⟩
theorem MH.add {a b out:Array Keyed}{na nb at_:Nat}(o:Sw c)(sa:Asc c a.toList)(sb:Asc c b.toList)(h:MH c a b out na nb)(hat:at_<=na)(hna:na<=a.size)(hb:0<nb)(hnb:nb<=b.size)(q:∀t,at_<=t->t<na->c (ats a t) ig=false):
  MH c a b (out++(a.extract at_ na).reverse) at_ nb:=by
 have e:(out++(a.extract at_ na).reverse).toList=out.toList++((a.toList.drop at_).take kM).reverse:=by
  rw[Array.toList_append,Array.toList_reverse,Array.toList_extract,List.extract_eq_drop_take]
 have hd:a.toList.take na=a.toList.take at_++(a.toList.drop at_).take kM:=by
  conv=>lhs;rw[show na=at_+kM by omega,List.take_add]
 have hd2:a.toList.drop at_=(a.toList.drop at_).take kM++a.toList.drop na:=by
  conv=>lhs;rw[←List.take_append_drop kM (a.toList.drop at_)]
  rw[List.drop_drop,show at_+kM=na by omega]
 have sd:=(sa.split na).1
 rw[hd]at sd
 obtain⟨-,s1,s2⟩:=List.pairwise_append.mp sd
 have hin:∀y,y∈(a.toList.drop at_).take kM->y∈a.toList.take na:=fun y hy=>by rw[hd];exact List.mem_append_right _ hy
 constructor
 .rw[e]
  refine List.pairwise_append.mpr ⟨h.so,?_,fun x hx y hy=>h.oa x hx y (hin y (List.mem_reverse.mp hy))⟩
  rw[List.pairwise_reverse];exact s1
 .rw[e]
  have key:∀(u x y z:List Keyed),z.Perm (x++y)->(z++u.reverse).Perm (u++x++y):=fun u x y z p=>by
   refine((p.append (List.reverse_perm u))).trans ?_
   rw[List.append_assoc u]
   exact List.perm_append_comm
  have p:=key ((a.toList.drop at_).take kM) _ _ _ h.pm
  rw[←hd2]at p
  exact p
 .rw[e]
  intro x hx y hy
  rcases List.mem_append.mp hx with hx|hx
  .exact h.oa x hx y (by rw[hd];exact List.mem_append_left _ hy)
  .exact s2 y hy x qo
 .rw[e]
  intro x hx y hy
  rcases List.mem_append.mp hx with hx|hx
  .exact h.ob x hx y hy
  .obtain⟨t,t1,t2,rfl⟩:=QfL qo
   obtain⟨u,u1,u2,rfl⟩:=QfM hy
   exact o.tr (sb.at o (show u<=nb-1 by omega) aa) (q (at_+t) aa aa)
theorem MH.push {a b out:Array Keyed}{na nb:Nat}(o:Sw c)(sa:Asc c a.toList)(sb:Asc c b.toList)(h:MH c a b out na nb)(h0:0<na)(hna:na<=a.size)(hb:0<nb)(hnb:nb<=b.size)(q:c gi ig=false):
  MH c a b (out.push gi) (na-1) nb:=by
 have:=h.add (at_:=na-1) o sa sb aa hna hb hnb fun t t1 t2=>by
  obtain rfl:t=na-1:=by omega
  exact q
 have e:out++(a.extract (na-1) na).reverse=out.push gi:=by
  apply Array.toList_inj.mp
  rw[Array.toList_append,Array.toList_reverse,Array.toList_extract,List.extract_eq_drop_take,Array.toList_push,QfK aa]
  rw[show na-(na-1)=1 by omega];rfl
 rwa [e]at this
theorem MH.fin {a b out:Array Keyed}{na nb:Nat}(sa:Asc c a.toList)(sb:Asc c b.toList)(h:MH c a b out na nb)(q:∀x∈a.toList.take na,∀y∈b.toList.take nb,c y x=false):Merged c a b (a.extract 0 na++b.extract 0 nb++out.reverse):=by
 have e:(a.extract 0 na++b.extract 0 nb++out.reverse).toList=a.toList.take na++b.toList.take nb++out.toList.reverse:=by
  rw[Array.toList_append,Array.toList_append,Array.toList_reverse,Array.toList_extract,Array.toList_extract,List.extract_eq_drop_take,List.extract_eq_drop_take];rfl
 refine⟨?_,?_⟩
 .rw[e]
  refine((sa.split na).1.app (sb.split nb).1 q).app (by unfold Asc;rw[List.pairwise_reverse];exact h.so) fun x hx y hy=>?_
  have hy:=List.mem_reverse.mp hy
  rcases List.mem_append.mp hx with hx|hx
  .exact h.oa y hy x hx
  .exact h.ob y hy x hx
 .rw[e]
  refine(List.Perm.append_left _ ((List.reverse_perm _).trans h.pm)).trans ?_
  conv=>rhs;rw[←List.take_append_drop na a.toList,←List.take_append_drop nb b.toList]
  rw[List.append_assoc,List.append_assoc]
  refine List.Perm.append_left _ ?_
  rw[←List.append_assoc,←List.append_assoc]
  exact List.perm_append_comm.append_right _
theorem MH.fin_a {a b out:Array Keyed}{na nb:Nat}(sa:Asc c a.toList)(sb:Asc c b.toList)(h:MH c a b out na nb)(e:na=0):Merged c a b (a.extract 0 na++b.extract 0 nb++out.reverse):=h.fin sa sb fun x hx=>by
 rw[e]at hx;simp at hx
theorem MH.fin_b {a b out:Array Keyed}{na nb:Nat}(sa:Asc c a.toList)(sb:Asc c b.toList)(h:MH c a b out na nb)(e:nb=0):Merged c a b (a.extract 0 na++b.extract 0 nb++out.reverse):=h.fin sa sb fun x _ y hy=>by
 rw[e]at hy;simp at hy
theorem MH.fin_l {a b out:Array Keyed}{na nb:Nat}(o:Sw c)(sa:Asc c a.toList)(sb:Asc c b.toList)(h:MH c a b out na nb)(e:nb=1)(ha:0<a.size)(hb:0<b.size)(q:c nM qD=true):Merged c a b (b.extract 0 nb++a.extract 0 na++out.reverse):=
 (h.swap.fin sb sa fun x hx y hy=>by
  obtain⟨t,t1,t2,rfl⟩:=QfM hx
  obtain⟨u,u1,u2,rfl⟩:=QfM hy
  obtain rfl:t=0:=by omega
  exact o.tr (o.asym q) (sa.at o (Nat.zero_le u) u2)).swap
end pure
abbrev V0:=Nat×Nat×Array Keyed×Nat
abbrev V1:=Nat×Nat×Array Keyed×Nat×Nat
abbrev V2:=Nat×Nat×Array Keyed×Nat×Nat×Nat
abbrev W0:=Option cg×V0
abbrev W1:=Option cg×V1
abbrev W2:=Option cg×V2
section
variable (a b:Array Keyed)
def hi1:Bd Unit (Qkd a b):=⟨_,_,rfl⟩
def hi2:Bd Keyed ((hi1 a b).f ()):=⟨_,_,rfl⟩
def hi3 (v:Keyed):It ((hi2 a b).f v):=⟨_,_,_,_,rfl⟩
def hi4 (v:Keyed):It (hi3 a b v).e:=⟨_,_,_,_,rfl⟩
def hi5 (v:Keyed):Bd SortSt (hi4 a b v).e:=⟨_,_,rfl⟩
def hi6 (v:Keyed)(st:SortSt):Bd W0 ((hi5 a b v).f st):=⟨_,_,rfl⟩
def hi7 (v:Keyed)(st:SortSt):Lp (hi6 a b v st).x:=⟨_,_,_,_,rfl⟩
def hiO:{f:Nat->W0->StateT SortSt Sem (ForInStep W0)//∀v st,(hi7 a b v st).f=f}:=⟨_,fun _ _=>rfl⟩
section
variable (j:Nat)(t:W0)
def pA:Bd W1 ((hiO a b).1 j t):=⟨_,_,rfl⟩
def pB:Lp (pA a b j t).x:=⟨_,_,_,_,rfl⟩
def pC (d:V1):Bd Unit ((pA a b j t).f (none,d)):=⟨_,_,rfl⟩
def pD (d:V1):Bd W2 ((pC a b j t d).f ()):=⟨_,_,rfl⟩
def pE (d:V1):Lp (pD a b j t d).x:=⟨_,_,_,_,rfl⟩
def pF (d:V1)(e:V2):Bd Unit ((pD a b j t d).f (none,e)):=⟨_,_,rfl⟩
end
def hiB1 (t:W0):{f:Nat->W1->StateT SortSt Sem (ForInStep W1)//∀j,(pB a b j t).f=f}:=⟨_,fun _=>rfl⟩
def hiB2:{f:Nat->W2->StateT SortSt Sem jB//∀j t d,(pE a b j t d).f=f}:=⟨_,fun _ _ _=>rfl⟩
section
variable (t0:W0)(i:Nat)(t:W1)
def d1:Bd Keyed ((hiB1 a b t0).1 i t):=⟨_,_,rfl⟩
def d2 (x:Keyed):Bd Keyed ((d1 a b t0 i t).f x):=⟨_,_,rfl⟩
def d3 (x y:Keyed):Bd qk ((d2 a b t0 i t x).f y):=⟨_,_,rfl⟩
def d4 (x y:Keyed)(w:Bool):It ((d3 a b t0 i t x y).f sG):=⟨_,_,_,_,rfl⟩
def d5 (x y:Keyed)(w:Bool):Bd Keyed (d4 a b t0 i t x y w).t:=⟨_,_,rfl⟩
def d6 (x y:Keyed)(w:Bool)(z:Keyed):It ((d5 a b t0 i t x y w).f z):=⟨_,_,_,_,rfl⟩
def d7 (x y:Keyed)(w:Bool)(z:Keyed):It (d6 a b t0 i t x y w z).e:=⟨_,_,_,_,rfl⟩
def d8 (x y:Keyed)(w:Bool):Bd Keyed (d4 a b t0 i t x y w).e:=⟨_,_,rfl⟩
def d9 (x y:Keyed)(w:Bool)(z:Keyed):It ((d8 a b t0 i t x y w).f z):=⟨_,_,_,_,rfl⟩
def d10 (x y:Keyed)(w:Bool)(z:Keyed):It (d9 a b t0 i t x y w z).e:=⟨_,_,_,_,rfl⟩
end
section
variable (i:Nat)(r:Option (Array Keyed))(na nb:Nat)(out:Array Keyed)(ac bc mg:Nat)
def f0:It ((hiB2 a b).1 i (r,na,nb,out,mg,ac,bc)):=⟨_,_,_,_,rfl⟩
def fK:{K:Nat->StateT SortSt Sem jB//∀mg,(f0 a b i r na nb out ac bc mg).e=K mg}:=⟨_,fun _=>rfl⟩
theorem fK_t:(f0 a b i r na nb out ac bc mg).t=(fK a b i r na nb out ac bc).1 (mg-1):=rfl
def f1:Bd Unit ((fK a b i r na nb out ac bc).1 mg):=⟨_,_,rfl⟩
def f2:Bd Keyed ((f1 a b i r na nb out ac bc mg).f ()):=⟨_,_,rfl⟩
def f3 (x:Keyed):Bd aC ((f2 a b i r na nb out ac bc mg).f x):=⟨_,_,rfl⟩
def f4 (x:Keyed)(k:Nat):It ((f3 a b i r na nb out ac bc mg x).f o4):=⟨_,_,_,_,rfl⟩
def f5 (x:Keyed)(k:Nat):It (f4 a b i r na nb out ac bc mg x k).t:=⟨_,_,_,_,rfl⟩
end
section
variable (i:Nat)(r:Option (Array Keyed))(nb ac bc mg:Nat)(x:Keyed)(k:Nat)
def JA:{K:Nat->Nat->Array Keyed->StateT SortSt Sem jB//∀na out,(f4 a b i r na nb out ac bc mg x k).e=K (na-k) na out}:=by
 refine⟨?K,?_⟩
 rotate_left
 .intro na out
  dsimp only[f4]
  generalize na-k=q
  rfl
theorem JA_t (na:Nat)(out:Array Keyed):(f5 a b i r na nb out ac bc mg x k).e=(JA a b i r nb ac bc mg x k).1 (na-k) k (out++(a.extract k na).reverse):=rfl
variable (q:Nat)
def e1 (na:Nat)(out:Array Keyed):Bd Keyed ((JA a b i r nb ac bc mg x k).1 q na out):=⟨_,_,rfl⟩
def e2 (na:Nat)(out:Array Keyed)(y:Keyed):It ((e1 a b i r nb ac bc mg x k q na out).f y):=⟨_,_,_,_,rfl⟩
def KA (na:Nat):{K:Nat->Array Keyed->StateT SortSt Sem jB//∀out y,(e2 a b i r nb ac bc mg x k q na out y).e=K (nb-1) (out.push y)}:=by
 refine⟨?K,?_⟩
 rotate_left
 .intro out y
  dsimp only[e2]
  generalize out.push y=o
  generalize nb-1=j
  rfl
section
variable (na:Nat)(j:Nat)(o:Array Keyed)
def m2:Bd Keyed ((KA a b i r nb ac bc mg x k q na).1 j o):=⟨_,_,rfl⟩
def m3 (z:Keyed):Bd aC ((m2 a b i r nb ac bc mg x k q na j o).f z):=⟨_,_,rfl⟩
def m4 (z:Keyed)(l:Nat):It ((m3 a b i r nb ac bc mg x k q na j o z).f (some l)):=⟨_,_,_,_,rfl⟩
def m5 (z:Keyed)(l:Nat):It (m4 a b i r nb ac bc mg x k q na j o z l).t:=⟨_,_,_,_,rfl⟩
def m6 (z:Keyed)(l:Nat):It (m5 a b i r nb ac bc mg x k q na j o z l).e:=⟨_,_,_,_,rfl⟩
end
def KB (na:Nat)(z:Keyed)(l:Nat):{K:Nat->Nat->Array Keyed->StateT SortSt Sem jB//∀j o,(m4 a b i r nb ac bc mg x k q na j o z l).e=K (j-l) j o}:=by
 refine⟨?K,?_⟩
 rotate_left
 .intro j o
  dsimp only[m4]
  generalize j-l=v
  rfl
theorem KB_t (na:Nat)(z:Keyed)(l:Nat)(j:Nat)(o:Array Keyed):(m6 a b i r nb ac bc mg x k q na j o z l).e=(KB a b i r nb ac bc mg x k q na z l).1 (j-l) l (o++(b.extract l j).reverse):=rfl
variable (v:Nat)
def n1 (na:Nat)(z:Keyed)(l:Nat)(j:Nat)(o:Array Keyed):Bd Keyed ((KB a b i r nb ac bc mg x k q na z l).1 v j o):=⟨_,_,rfl⟩
def n2 (na:Nat)(z:Keyed)(l:Nat)(j:Nat)(o:Array Keyed)(w:Keyed):It ((n1 a b i r nb ac bc mg x k q v na z l j o).f w):=⟨_,_,_,_,rfl⟩
def n3 (na:Nat)(z:Keyed)(l:Nat)(j:Nat)(o:Array Keyed)(w:Keyed):It (n2 a b i r nb ac bc mg x k q v na z l j o w).e:=⟨_,_,_,_,rfl⟩
end
end
section
variable {M:Model}{A:Around}{E:Value->Shared->Prop}{κ:SortKind}{a0:Array Keyed}{c0 c:Keyed->Keyed->Bool}{ix:Keyed->Nat}{G:Shared->Prop}{a b:Array Keyed}{st:SortSt}{s:Shared}
structure HI (c:Keyed->Keyed->Bool)(a b:Array Keyed)(k na nb:Nat)(o:Array Keyed):Prop where
 ml:MH c a b o na nb
 h0:0<na
 ha:na<=a.size
 h1:1<nb
 hb:nb<=b.size
 sz:k<=o.size
theorem HI.ai {k na nb:Nat}{o:Array Keyed}(x:HI c a b k na nb o):na-1<a.size:=Nat.lt_of_lt_of_le (Nat.sub_lt x.h0 Nat.one_pos) x.ha
theorem HI.b0 {k na nb:Nat}{o:Array Keyed}(x:HI c a b k na nb o):0<nb:=Nat.lt_of_succ_lt x.h1
theorem HI.bi {k na nb:Nat}{o:Array Keyed}(x:HI c a b k na nb o):nb-1<b.size:=Nat.lt_of_lt_of_le (Nat.sub_lt x.b0 Nat.one_pos) x.hb
theorem HI.eq {k na nb:Nat}{o:Array Keyed}(x:HI c a b k na nb o):o.size=a.size-na+(b.size-nb):=x.ml.size x.ha x.hb
theorem HI.le {k k' na nb:Nat}{o:Array Keyed}(x:HI c a b k na nb o)(h:k'<=k):HI c a b k' na nb o:=⟨x.ml,x.h0,x.ha,x.h1,x.hb,Nat.le_trans h x.sz⟩
theorem QtX (L:LC M A κ a0 c0 c ix G a b){t0:W0}{i k:Nat}{t:W1}{Q:ForInStep W1->SortSt->Shared->Prop}(I:HI c a b k t.2.1 t.2.2.1 t.2.2.2.1)(kd:kindOf st=κ)(g:G s)
  (hm:∀r u s',Merged c a b r->G s'->Q bP st s') (hd:∀u s',HI c a b (k+1) u.1 u.2.1 u.2.2.1->G s'->Q cH st s') (hy:∀u s',HI c a b (k+1) u.1 u.2.1 u.2.2.1->G s'->Q bW st s'):
  kasC M A E ((hiB1 a b t0).1 i t) Q st s:=by
 have o:=L.oo.o
 refine(d1 a b t0 i t).go (Qbu (xs:=b) (i:=t.2.2.1-1) I.bi ?_)
 refine(d2 a b t0 i t _).go (Qbu (xs:=a) (i:=t.2.1-1) I.ai ?_)
 refine(d3 a b t0 i t _ _).go (QnC L.H L.oo (L.hx _ qJ _ qI) kd (L.mb _ qI) (L.ma _ qJ) g fun s3 g3=>?_)
 refine(d4 a b t0 i t _ _ _).go (fun w=>?_) (fun w=>?_)
 .refine(d5 a b t0 i t _ _ _).go (Qbu (xs:=a) (i:=t.2.1-1) I.ai ?_)
  have ml':=I.ml.push o L.sa L.sb I.h0 I.ha I.b0 I.hb (o.asym w)
  have hs:k+1<=(t.2.2.2.1.push (ats a (t.2.1-1))).size:=by rw[Array.size_push];exact Nat.succ_le_succ I.sz
  refine(d6 a b t0 i t _ _ _ _).go (fun z=>kasC_pure (hm _ _ _ (ml'.fin_a L.sa L.sb iD) g3)) (fun z=>?_)
  have z':0<t.2.1-1:=Nat.pos_of_ne_zero l9
  exact(d7 a b t0 i t _ _ _ _).go (fun _=>kasC_pure (hd _ _ ⟨ml',z',Nat.le_of_lt I.ai,I.h1,I.hb,hs⟩ g3)) (fun _=>kasC_pure (hy _ _ ⟨ml',z',Nat.le_of_lt I.ai,I.h1,I.hb,hs⟩ g3))
 .refine(d8 a b t0 i t _ _ _).go (Qbu (xs:=b) (i:=t.2.2.1-1) I.bi ?_)
  have w':c (ats b (t.2.2.1-1)) (ats a (t.2.1-1))=false:=Bool.eq_false_iff.mpr w
  have ml':=(I.ml.swap.push o L.sb L.sa I.b0 I.hb I.h0 I.ha w').swap
  have hs:k+1<=(t.2.2.2.1.push (ats b (t.2.2.1-1))).size:=by rw[Array.size_push];exact Nat.succ_le_succ I.sz
  refine(d9 a b t0 i t _ _ _ _).go (fun z=>kasC_pure (hm _ _ _ (ml'.fin_l o L.sa L.sb iD L.ha L.hb L.f1) g3)) (fun z=>?_)
  have z':1<t.2.2.1-1:=by
   have h:=I.h1
   have h2:t.2.2.1-1≠1:=QcO z
   omega
  exact(d10 a b t0 i t _ _ _ _).go (fun _=>kasC_pure (hd _ _ ⟨ml',I.h0,I.ha,z',Nat.le_of_lt I.bi,hs⟩ g3)) (fun _=>kasC_pure (hy _ _ ⟨ml',I.h0,I.ha,z',Nat.le_of_lt I.bi,hs⟩ g3))
theorem QrN (L:LC M A κ a0 c0 c ix G a b){i nb ac bc mg kk q v na l k j:Nat}{r:Option cg}{x z:Keyed}{o:Array Keyed}{Q:ForInStep W2->SortSt->Shared->Prop}(I:HI c a b k na j o)(w:c gi (ats b (j-1))=false)(g:G s)
  (hm:∀r u s',Merged c a b r->G s'->Q bP st s') (hd:∀u s',HI c a b (k+1) u.1 u.2.1 u.2.2.1->G s'->Q cH st s') (hy:∀u s',HI c a b (k+1) u.1 u.2.1 u.2.2.1->G s'->Q bW st s'):
  kasC M A E ((KB a b i r nb ac bc mg x kk q na z l).1 v j o) Q st s:=by
 have oc:=L.oo.o
 refine(n1 a b i r nb ac bc mg x kk q v na z l j o).go (Qbu (xs:=a) (i:=na-1) I.ai ?_)
 have ml:=I.ml.push oc L.sa L.sb I.h0 I.ha I.b0 I.hb w
 have hs:k+1<=(o.push gi).size:=by rw[Array.size_push];exact Nat.succ_le_succ I.sz
 refine(n2 a b i r nb ac bc mg x kk q v na z l j o _).go (fun z=>kasC_pure (hm _ _ _ (ml.fin_a L.sa L.sb iD) g)) (fun z=>?_)
 have z':0<na-1:=Nat.pos_of_ne_zero l9
 exact(n3 a b i r nb ac bc mg x kk q v na _ l j o _).go (fun _=>kasC_pure (hd _ _ ⟨ml,z',Nat.le_of_lt I.ai,I.h1,I.hb,hs⟩ g)) (fun _=>kasC_pure (hy _ _ ⟨ml,z',Nat.le_of_lt I.ai,I.h1,I.hb,hs⟩ g))
theorem QtY (L:LC M A κ a0 c0 c ix G a b){i nb ac bc mg kk q na k j:Nat}{r:Option cg}{x:Keyed}{o:Array Keyed}{Q:ForInStep W2->SortSt->Shared->Prop}(I:HI c a b k na j o)(kd:kindOf st=κ)(g:G s)
  (hm:∀r u s',Merged c a b r->G s'->Q bP st s') (hd:∀u s',HI c a b (k+1) u.1 u.2.1 u.2.2.1->G s'->Q cH st s') (hy:∀u s',HI c a b (k+1) u.1 u.2.1 u.2.2.1->G s'->Q bW st s'):
  kasC M A E ((KA a b i r nb ac bc mg x kk q na).1 j o) Q st s:=by
 have oc:=L.oo.o
 have hb:=I.hb
 have hj:=I.b0
 refine(m2 a b i r nb ac bc mg x kk q na j o).go (Qbu (xs:=a) (i:=na-1) I.ai ?_)
 refine(m3 a b i r nb ac bc mg x kk q na j o _).go (galL (arr:=b) (key:=ats a (na-1)) (base:=0) (n:=j) (hint:=j-1) L.H L.oo (fun i hi=>L.hx _ qJ _ (QH (by rw[Nat.zero_add];exact Nat.lt_of_lt_of_le hi hb))) (Up.of oc L.sb (by rw[Nat.zero_add];exact hb)) L.mb (L.ma _ qJ) (by rw[Nat.zero_add];exact hb) oU kd g fun l s5 l1 l2 l3 g5=>?_)
 simp only[Nat.zero_add]at l2 l3
 refine(m4 a b i r nb ac bc mg x kk q na j o _ l).go (fun lz=>?_) (fun lz=>?_)
 .have lj:l<j:=Nat.lt_of_sub_pos lz
  have l3':=l3 lj
  have ml3:=(I.ml.swap.add (at_:=l) oc L.sb L.sa l1 hb I.h0 I.ha fun t t1 t2=>oc.tr l3' (L.sb.at oc t1 (Nat.lt_of_lt_of_le t2 hb))).swap
  have sz3:=ml3.size I.ha (Nat.le_trans l1 hb)
  have sz:=I.eq
  have hk:=I.sz
  refine(m5 a b i r nb ac bc mg x kk q na j o _ l).go (fun z=>kasC_pure (hm _ _ _ (ml3.fin_l oc L.sa L.sb iD L.ha L.hb L.f1) g5)) (fun z=>?_)
  refine(m6 a b i r nb ac bc mg x kk q na j o _ l).go (fun z5=>kasC_pure (hm _ _ _ (ml3.fin_b L.sa L.sb (QcN z5)) g5)) (fun z5=>?_)
  have zz:l≠1:=QcO z
  have zz5:l≠0:=QcO z5
  have z3:1<l:=by omega
  rw[KB_t]
  exact QrN L ⟨ml3,I.h0,I.ha,z3,Nat.le_trans l1 hb,by omega⟩ (oc.asym (l2 (l-1) (Nat.sub_lt (Nat.lt_of_succ_lt z3) Nat.one_pos))) g5 hm hd hy
 .have l0:l=j:=Nat.le_antisymm l1 (Nat.le_of_sub_eq_zero (Nat.eq_zero_of_not_pos lz))
  subst l0
  rw[(KB a b i r nb ac bc mg x kk q na gi l).2 l o]
  exact QrN L I (oc.asym (l2 (l-1) oU)) g5 hm hd hy
theorem QrO (L:LC M A κ a0 c0 c ix G a b){i nb ac bc mg kk q na k:Nat}{r:Option cg}{x:Keyed}{o:Array Keyed}{Q:ForInStep W2->SortSt->Shared->Prop}(I:HI c a b k na nb o)(w:c ig gi=false)(kd:kindOf st=κ)(g:G s)
  (hm:∀r u s',Merged c a b r->G s'->Q bP st s') (hd:∀u s',HI c a b (k+1) u.1 u.2.1 u.2.2.1->G s'->Q cH st s') (hy:∀u s',HI c a b (k+1) u.1 u.2.1 u.2.2.1->G s'->Q bW st s'):
  kasC M A E ((JA a b i r nb ac bc mg x kk).1 q na o) Q st s:=by
 have oc:=L.oo.o
 refine(e1 a b i r nb ac bc mg x kk q na o).go (Qbu (xs:=b) (i:=nb-1) I.bi ?_)
 have ml2:=(I.ml.swap.push oc L.sb L.sa I.b0 I.hb I.h0 I.ha w).swap
 have hs:k<=(o.push ig).size:=by rw[Array.size_push];exact Nat.le_succ_of_le I.sz
 refine(e2 a b i r nb ac bc mg x kk q na o _).go (fun z=>kasC_pure (hm _ _ _ (ml2.fin_l oc L.sa L.sb iD L.ha L.hb L.f1) g)) (fun z=>?_)
 have z':1<nb-1:=by
  have h:=I.h1
  have h2:nb-1≠1:=QcO z
  omega
 rw[(KA a b i r nb ac bc mg x kk q na).2]
 exact QtY L ⟨ml2,I.h0,I.ha,z',Nat.le_of_lt I.bi,hs⟩ kd g hm hd hy
theorem QrP (L:LC M A κ a0 c0 c ix G a b){i nb ac bc mg na k:Nat}{r:Option cg}{o:Array Keyed}{Q:ForInStep W2->SortSt->Shared->Prop}(I:HI c a b k na nb o)(kd:kindOf st=κ)(g:G s)
  (hm:∀r u st' s',Merged c a b r->Gs st st'->G s'->Q bP st' s') (hd:∀u st' s',HI c a b (k+1) u.1 u.2.1 u.2.2.1->Gs st st'->G s'->Q cH st' s') (hy:∀u st' s',HI c a b (k+1) u.1 u.2.1 u.2.2.1->Gs st st'->G s'->Q bW st' s'):
  kasC M A E ((fK a b i r na nb o ac bc).1 mg) Q st s:=by
 have oc:=L.oo.o
 have ha:=I.ha
 refine(f1 a b i r na nb o ac bc mg).go (kasC_modify ?_)
 refine(f2 a b i r na nb o ac bc mg).go (Qbu (xs:=b) (i:=nb-1) I.bi ?_)
 refine(f3 a b i r na nb o ac bc mg _).go (galR (arr:=a) (key:=ats b (nb-1)) (base:=0) (n:=na) (hint:=na-1) L.H L.oo (fun i hi=>L.hx _ (QH (by rw[Nat.zero_add];exact Nat.lt_of_lt_of_le hi ha)) _ qI) (Up.of oc L.sa (by rw[Nat.zero_add];exact ha)) L.ma (L.mb _ qI) (by rw[Nat.zero_add];exact ha) oe kd g fun n s4 v1 v2 v3 gg=>?_)
 simp only[Nat.zero_add]at v2 v3
 refine(f4 a b i r na nb o ac bc mg _ n).go (fun kz=>?_) (fun kz=>?_)
 .have nj:n<na:=Nat.lt_of_sub_pos kz
  have k3':=v3 nj
  have mlx:=I.ml.add (at_:=n) oc L.sa L.sb v1 ha I.b0 I.hb fun t t1 t2=>by
   refine oc.asym ?_
   cases w:c ig (ats a t)with
   |true=>rfl
   |false=>exact absurd k3' (by rw[oc.tr (L.sa.at oc t1 (Nat.lt_of_lt_of_le t2 ha)) w];simp)
  have szx:=mlx.size (Nat.le_trans v1 ha) I.hb
  have sz:=I.eq
  have hk:=I.sz
  refine(f5 a b i r na nb o ac bc mg _ n).go (fun z=>kasC_pure (hm _ _ _ _ (mlx.fin_a L.sa L.sb iD) ⟨rfl,rfl,rfl,rfl⟩ gg)) (fun z=>?_)
  have vx:0<n:=Nat.pos_of_ne_zero l9
  rw[JA_t]
  exact QrO L ⟨mlx,vx,Nat.le_trans v1 ha,I.h1,I.hb,by omega⟩ (v2 (n-1) (Nat.sub_lt vx Nat.one_pos)) kd gg (fun r u s' a b=>hm r u _ s' a ⟨rfl,rfl,rfl,rfl⟩ b) (fun u s' a b=>hd u _ s' a ⟨rfl,rfl,rfl,rfl⟩ b) (fun u s' a b=>hy u _ s' a ⟨rfl,rfl,rfl,rfl⟩ b)
 .have k0:n=na:=Nat.le_antisymm v1 (Nat.le_of_sub_eq_zero (Nat.eq_zero_of_not_pos kz))
  subst k0
  rw[(JA a b i r nb ac bc mg ig n).2 n o]
  exact QrO L I (v2 (n-1) oe) kd gg (fun r u s' a b=>hm r u _ s' a ⟨rfl,rfl,rfl,rfl⟩ b) (fun u s' a b=>hd u _ s' a ⟨rfl,rfl,rfl,rfl⟩ b) (fun u s' a b=>hy u _ s' a ⟨rfl,rfl,rfl,rfl⟩ b)
theorem QtZ (L:LC M A κ a0 c0 c ix G a b){i k:Nat}{t:W2}{Q:ForInStep W2->SortSt->Shared->Prop}(I:HI c a b k t.2.1 t.2.2.1 t.2.2.2.1)(kd:kindOf st=κ)(g:G s)
  (hm:∀r u st' s',Merged c a b r->Gs st st'->G s'->Q bP st' s') (hd:∀u st' s',HI c a b (k+1) u.1 u.2.1 u.2.2.1->Gs st st'->G s'->Q cH st' s') (hy:∀u st' s',HI c a b (k+1) u.1 u.2.1 u.2.2.1->Gs st st'->G s'->Q bW st' s'):
  kasC M A E ((hiB2 a b).1 i t) Q st s:=by
 obtain⟨r,na,nb,o,mg,ac,bc⟩:=t
 refine(f0 a b i r na nb o ac bc mg).go (fun _=>?_) (fun _=>?_)
 .rw[fK_t];exact QrP L I kd g hm hd hy
 .rw[(fK a b i r na nb o ac bc).2 mg];exact QrP L I kd g hm hd hy
theorem hi_O (L:LC M A κ a0 c0 c ix G a b){j k:Nat}{t:W0}{Q:ForInStep W0->SortSt->Shared->Prop}(I:HI c a b k t.2.1 t.2.2.1 t.2.2.2.1)(kd:kindOf st=κ)(g:G s)
  (hm:∀r u st' s',Merged c a b r->Gs st st'->G s'->Q bP st' s') (hy:∀u st' s',HI c a b (k+1) u.1 u.2.1 u.2.2.1->Gs st st'->G s'->Q bW st' s'):
  kasC M A E ((hiO a b).1 j t) Q st s:=by
 have no:∀{k na nb:Nat} {o:Array Keyed},HI c a b (k+(a.size+b.size)) na nb o->False:=fun x=>by
  have sz:=x.eq
  have h1:=x.sz
  have h2:=x.h0
  have h3:=x.b0
  have h4:=x.ha
  have h5:=x.hb
  omega
 refine(pA a b j t).go (Qy (Q:=fun d st' s'=>st'=st/\((∃r u,d=(some r,u)/\Merged c a b r/\G s')\/∃u,d=(none,u)/\HI c a b (k+1) u.1 u.2.1 u.2.2.1/\G s')) ((pB a b j t).go (fun i d st' s'=>st'=st/\∃u,d=(none,u)/\HI c a b (k+i) u.1 u.2.1 u.2.2.1/\G s') ?_ ?_ ?_) ?_)
 .rintro i _ st1 s1 _ ⟨e0,u,rfl,I1,g1⟩
  have e1:=e0.symm
  subst e1
  exact QtX (i:=i) (t0:=t) (t:=(none,u)) L I1 kd g1 (fun r u s' x y=>⟨rfl, .inl ⟨r,u,rfl,x,y⟩⟩) (fun u s' x y=>⟨rfl, .inr ⟨u,rfl,x.le lF,y⟩⟩) (fun u s' x y=>⟨rfl,u,rfl,x,y⟩)
 .rintro _ st1 s1 ⟨e0,u,rfl,I1,g1⟩
  have h4:max (pB a b j t).lo (pB a b j t).hi=a.size+b.size:=Nat.max_eq_right cJ
  rw[h4]at I1
  exact(no I1).elim
 .exact⟨rfl,_,rfl,I.le aw,g⟩
 .rintro _ st1 s1 ⟨e0,⟨r,u,rfl,x,y⟩|⟨u,rfl,I1,g1⟩⟩<;>(have e1:=e0.symm;subst e1)
  .exact kasC_pure tW
  .refine(pC a b j t u).go (kasC_lift (wpAny_rule ?_))
   refine(pD a b j t u).go (Qy (Q:=fun d st' s'=>Gs st st'/\((∃r u,d=(some r,u)/\Merged c a b r/\G s')\/∃u,d=(none,u)/\HI c a b (k+1) u.1 u.2.1 u.2.2.1/\G s')) ((pE a b j t u).go (fun i d st' s'=>Gs st st'/\∃u,d=(none,u)/\HI c a b (k+1+i) u.1 u.2.1 u.2.2.1/\G s') ?_ ?_ ?_) ?_)
   .rintro i _ st2 s2 _ ⟨gs,e,rfl,I2,g2⟩
    exact QtZ (i:=i) (t:=(none,e)) L I2 kc g2 (fun r u st' s' x q y=>⟨gs.tr q, .inl ⟨r,u,rfl,x,y⟩⟩) (fun u st' s' x q y=>⟨gs.tr q, .inr ⟨u,rfl,x.le jH,y⟩⟩) (fun u st' s' x q y=>⟨gs.tr q,u,rfl,x,y⟩)
   .rintro _ st2 s2 ⟨gs,e,rfl,I2,g2⟩
    have h4:max (pE a b j t u).lo (pE a b j t u).hi=a.size+b.size:=Nat.max_eq_right cJ
    rw[h4]at I2
    exact(no I2).elim
   .exact⟨Gs.rf _,_,rfl,I1,g1⟩
   .rintro _ st2 s2 ⟨gs,⟨r,e,rfl,x,y⟩|⟨e,rfl,I2,g2⟩⟩
    .exact kasC_pure tX
    .exact(pF a b j t u e).go hW
theorem Qt0 (H:Cmp M A κ a0 c0 G)(oo:Od c0 c ix){a b:Array Keyed}{st:SortSt}{s:Shared}{Q:Array Keyed->SortSt->Shared->Prop}(sa:Asc c a.toList)(sb:Asc c b.toList)(ma:∀x∈a.toList,x∈a0.toList)(mb:∀x∈b.toList,x∈a0.toList)
  (hx:∀x∈a.toList,∀y∈b.toList,ix x<ix y) (ha:0<a.size) (hb:0<b.size) (f1:c nM qD=true) (f2:c jX gU=true) (kd:kindOf st=κ) (g:G s)
  (q:∀r st' s',Merged c a b r->Gs st st'->G s'->Q r st' s'):kasC M A E (Qkd a b) Q st s:=by
 have L:LC M A κ a0 c0 c ix G a b:=⟨H,oo,sa,sb,ma,mb,hx,ha,hb,f1,f2⟩
 have o:=oo.o
 refine(hi1 a b).go (kasC_lift (wpAny_rule ?_))
 refine(hi2 a b).go (Qbu (xs:=a) (i:=a.size-1) (Nat.sub_lt ha Nat.one_pos) ?_)
 have ml0:MH c a b #[ats a (a.size-1)] (a.size-1) b.size:=MH.push (out:= #[]) (a:=a) (b:=b) (na:=a.size) (nb:=b.size) o sa sb ⟨List.Pairwise.nil,by simp,fun x hx=>by simp at hx,fun x hx=>by simp at hx⟩ ha aw hb aw (o.asym f2)
 refine(hi3 a b _).go (fun e1=>kasC_pure (q _ st s (ml0.fin_a sa sb (QcN e1)) mf g)) (fun e1=>?_)
 refine(hi4 a b _).go (fun e2=>kasC_pure (q _ st s (ml0.fin_l o sa sb (QcN e2) ha hb f1) mf g)) (fun e2=>?_)
 have e1':0<a.size-1:=Nat.pos_of_ne_zero (QcO e1)
 have e2':1<b.size:=Nat.lt_of_le_of_ne hb (Ne.symm (QcO e2))
 refine(hi5 a b _).go (kasC_get ?_)
 refine(hi6 a b _ st).go (Qy (Q:=fun d st' s'=>∃r u,d=(some r,u)/\Merged c a b r/\Gs st st'/\G s')
  ((hi7 a b _ st).go (fun j d st' s'=>∃u,d=(none,u)/\HI c a b (1+j) u.1 u.2.1 u.2.2.1/\Gs st st'/\G s') ?_ ?_ ?_) ?_)
 .rintro j _ st1 s1 _ ⟨u,rfl,I1,gs,g1⟩
  exact hi_O (j:=j) (t:=(none,u)) L I1 kc g1 (fun r u st' s' x q y=>⟨r,u,rfl,x,gs.tr q,y⟩) (fun u st' s' x q y=>⟨u,rfl,x,gs.tr q,y⟩)
 .rintro _ st1 s1 ⟨u,rfl,I1,gs,g1⟩
  exfalso
  have sz:=I1.eq
  have h1:=I1.sz
  have h2:=I1.ha
  have h3:=I1.hb
  have h5:=I1.h0
  have h6:=I1.b0
  have h4:(hi7 a b gU st).hi=a.size+b.size:=rfl
  rw[h4]at h1
  omega
 .exact⟨_,rfl,⟨ml0,e1',Nat.sub_le _ _,e2',Nat.le_refl _,Nat.le_refl 1⟩,Gs.rf _,g⟩
 .rintro _ st1 s1 ⟨r,u,rfl,z1,z2,z3⟩
  exact kasC_pure uu
end
end TSrt
namespace TSrt
open PySem PySem.W PyProof.Rows
theorem QpG {xs:Array Keyed}{i j:Nat}{v:Keyed}(hi:i<xs.size):ats (xs.setIfInBounds i v) j=if j=i then v else ats xs j:=by
 unfold ats
 rw[Array.getElem?_setIfInBounds]
 by_cases e:i=j
 .subst e;rw[if_pos rfl,if_pos rfl,if_pos hi];rfl
 .rw[if_neg e,if_neg (fun z=>e z.symm)]
theorem Ql8 (p:Nat):∀(r:List Keyed) (xs:Array Keyed) (m:Nat),p+m+r.length<=xs.size->
  ((r.zipIdx m).foldl (fun a x=>a.setIfInBounds (p+x.2) x.1) xs).size=xs.size/\
  ∀j,ats ((r.zipIdx m).foldl (fun a x=>a.setIfInBounds (p+x.2) x.1) xs) j=if p+m<=j/\j<p+m+r.length then(r[j-(p+m)]?).getD (.none, .none)else ats xs j
 | [],xs,m,h=>⟨rfl,fun j=>by rw[if_neg (by rw[List.length_nil];omega)];rfl⟩
 |x::r,xs,m,h=>by
  rw[List.length_cons]at h
  rw[List.zipIdx_cons,List.foldl_cons]
  obtain⟨h1,h2⟩:=Ql8 p r (xs.setIfInBounds (p+m) x) (m+1) (by rw[Array.size_setIfInBounds];omega)
  refine⟨h1.trans (Array.size_setIfInBounds ..),fun j=>?_⟩
  rw[h2 j,QpG aa,List.length_cons]
  by_cases e:j=p+m
  .subst e
   rw[if_neg aa,if_pos rfl,if_pos aa,Nat.sub_self];rfl
  .by_cases e2:p+(m+1)<=j/\j<p+(m+1)+r.length
   .rw[if_pos e2,if_pos aa]
    obtain⟨t,ht⟩:∃t,j-(p+m)=t+1:=⟨j-(p+m)-1,by omega⟩
    rw[ht,show j-(p+(m+1))=t by omega,List.getElem?_cons_succ]
   .rw[if_neg e2,if_neg e,if_neg aa]
theorem QpH {xs:Array Keyed}{l:List Keyed}(hl:l.length=xs.size)(h:∀j,j<xs.size->ats xs j=(l[j]?).getD (.none, .none)):xs.toList=l:=by
 apply List.ext_getElem (by simpa using hl.symm)
 intro j h1 h2
 have h1':j<xs.size:=by simpa using h1
 have:=h j h1'
 rw[Qb7,List.getElem?_eq_getElem h1,List.getElem?_eq_getElem h2]at this
 exact this
theorem QnE {xs ys:Array Keyed}{r x:List Keyed}{p:Nat}(hz:ys.size=xs.size)(hp:p+r.length<=xs.size)(hy:∀j,ats ys j=if p<=j/\j<p+r.length then(r[j-p]?).getD (.none, .none)else ats xs j)(hr:r.Perm x)(hx:x=(xs.toList.drop p).take r.length):ys.Perm xs:=by
 have e:ys.toList=xs.toList.take p++(r++xs.toList.drop (p+r.length)):=by
  refine QpH ?_ fun j hj=>?_
  .simp only[List.length_append,List.length_take,List.length_drop,Array.length_toList];omega
  .rw[hy j]
   have hl:(xs.toList.take p).length=p:=by simp;omega
   by_cases e1:j<p
   .rw[if_neg aa,List.getElem?_append_left aa,List.getElem?_take,if_pos e1,Qb7]
   .rw[List.getElem?_append_right aa,hl]
    by_cases e2:j<p+r.length
    .rw[if_pos aa,List.getElem?_append_left aa]
    .rw[if_neg aa,List.getElem?_append_right aa,List.getElem?_drop,show p+r.length+(j-p-r.length)=j by omega,Qb7]
 rw[Array.perm_iff_toList_perm,e]
 conv=>rhs;rw[←List.take_append_drop p xs.toList,←List.take_append_drop r.length (xs.toList.drop p),List.drop_drop]
 rw[←hx]
 exact List.Perm.append_left _ (hr.append_right _)
theorem Qez {xs:Array Keyed}{i j t:Nat}(h:i+t<j)(hj:j<=xs.size):ats nE t=ats xs (i+t):=by
 refine Qg1 ?_
 rw[Array.getElem?_extract,if_pos aa]
theorem Asc.ext {c:Keyed->Keyed->Bool}{xs:Array Keyed}{i j:Nat}(h:Up c xs i j)(hj:j<=xs.size):Asc c (xs.extract i j).toList:=by
 refine List.pairwise_iff_getElem.mpr fun t u ht hu htu=>?_
 have z:(xs.extract i j).size=j-i:=by rw[Array.size_extract];omega
 have hu':u<j-i:=by have:=hu;rw[Array.length_toList,z]at this;exact this
 have e1:(xs.extract i j).toList[t]=ats nE t:=by rw[Qb7,List.getElem?_eq_getElem ht];rfl
 have e2:(xs.extract i j).toList[u]=ats nE u:=by rw[Qb7,List.getElem?_eq_getElem hu];rfl
 rw[e1,e2,Qez aa hj,Qez aa hj]
 exact h _ _ aa aa aa
theorem QeA {xs:Array Keyed}{i j:Nat}{y:Keyed}(h:y∈(xs.extract i j).toList):∃t,i<=t/\t<j/\t<xs.size/\y=ats xs t:=by
 rw[Array.toList_extract,List.extract_eq_drop_take]at h
 obtain⟨t,t1,t2,e⟩:=QfL h
 exact⟨i+t,by omega,by omega,t2,e⟩
section
variable {M:Model}{A:Around}{E:Value->Shared->Prop}{κ:SortKind}{a0:Array Keyed}{c0 c:Keyed->Keyed->Bool}{ix:Keyed->Nat}{G:Shared->Prop}
theorem Qt1 (H:Cmp M A κ a0 c0 G)(oo:Od c0 c ix){i sa na pw sb nb pv:Nat}{st:SortSt}{s:Shared}{Q:Bool->SortSt->Shared->Prop}(b:SB κ a0 st)(p1:(pendingOf st)[i]?=some (sa,na,pw))(p2:(pendingOf st)[i+1]?=some (sb,nb,pv))
  (hs:sb=sa+na) (hz:sb+nb<=a0.size) (hna:0<na) (hnb:0<nb) (ua:Up c ay sa sb) (ub:Up c ay sb (sb+nb)) (la:Loc ix ay sa sb) (lb:Loc ix ay sb (sb+nb)) (g:G s)
  (q:∀st' s',SB κ a0 st'->pendingOf st'=((pendingOf st).setIfInBounds i (sa,na+nb,pw)).eraseIdxIfInBounds (i+1)->Up c aL sa (sb+nb)->Loc ix aL sa (sb+nb)->(∀j,j<sa\/sb+nb<=j->ats aL j=ats ay j)->G s'->Q true st' s'):kasC M A E (mergeAt' i) Q st s:=by
 have o:=oo.o
 have hsz:=b.sz
 have mem:∀x∈(arrOf st).toList,x∈a0.toList:=fun x hx=>(Array.perm_iff_toList_perm.mp b.pm).mem_iff.mp hx
 unfold mergeAt'
 refine kasC_bind (kasC_get ?_)
 have e:((pendingOf st)[i]?,(pendingOf st)[i+1]?)=(some (sa,na,pw),some (sb,nb,pv)):=by rw[p1,p2]
 split
 case h_2 x ne=>exact absurd e (ne _ _ _ _ _ _)
 rename_i sa' na' pw' sb' nb' pv' e'
 have e2:=e'.symm.trans e
 simp only[Prod.mk.injEq,Option.some.injEq]at e2
 obtain⟨⟨rfl,rfl,rfl⟩,rfl,rfl,rfl⟩:=e2
 refine kasC_bind (QnB ?_)
 refine kasC_bind (Qbu (show sb'<(arrOf st).size by omega) ?_)
 subst hs
 refine kasC_bind (galR H oo (fun i hi=>by have z1:=la (sa'+i) aa aa;have z2:=lb cV aa aa;exact Nat.lt_of_lt_of_le z1.2 z2.1) ua mem (mem _ (QH (show sa'+na'<(arrOf st).size by omega))) (show sa'+na'<=(arrOf st).size by omega) hna b.kd g fun k s1 k1 k2 k3 g1=>?_)
 dsimp only
 have same:∀(mid:∀i j,sa'<=i->i<sa'+na'->sa'+na'<=j->j<sa'+na'+nb'->c mJ mK=false),Up c ay sa' (sa'+na'+nb'):=fun mid i j z1 z2 z3=>by
  by_cases y1:j<sa'+na'
  .exact ua i j z1 z2 y1
  .by_cases y2:i<sa'+na'
   .exact mid i j z1 y2 aa z3
   .exact ub i j aa z2 z3
 have lall:Loc ix ay sa' (sa'+na'+nb'):=fun j z1 z2=>by
  by_cases z:j<sa'+na'
  .have:=la j z1 z;omega
  .have:=lb j aa z2;omega
 by_cases z1:(na'-k==0)=true
 .rw[if_pos z1]
  have z1':k=na':=by simp at z1;omega
  refine kasC_pure (q _ s1 ⟨b.pm,b.kd,b.fd⟩ rfl (same fun i j y1 y2 y3 y4=>?_) lall (fun _ _=>rfl) g1)
  have w:=k2 (i-sa') aa
  rw[show sa'+(i-sa')=i by omega]at w
  exact o.tr w (ub _ _ aa y3 y4)
 rw[if_neg z1]
 have z1':k<na':=by simp at z1;omega
 have k3:=k3 z1'
 refine kasC_bind (Qbu (show sa'+k+(na'-k)-1<(arrOf st).size by omega) ?_)
 rw[show sa'+k+(na'-k)-1=sa'+na'-1 by omega]
 refine kasC_bind (galL H oo (fun i hi=>by have z1:=la (sa'+na'-1) aa aa;have z2:=lb (sa'+na'+i) aa aa;exact Nat.lt_of_lt_of_le z1.2 z2.1) ub mem (mem _ (QH (show sa'+na'-1<(arrOf st).size by omega))) (show sa'+na'+nb'<=(arrOf st).size by omega) aa b.kd g1 fun l s2 l1 l2 l3 g2=>?_)
 dsimp only
 by_cases z2:(l==0)=true
 .rw[if_pos z2]
  have z2':l=0:=by simpa using z2
  subst z2'
  refine kasC_pure (q _ s2 ⟨b.pm,b.kd,b.fd⟩ rfl (same fun i j y1 y2 y3 y4=>?_) lall (fun _ _=>rfl) g2)
  exact o.tr (o.tr (ua i (sa'+na'-1) y1 aa aa) (l3 hnb)) (ub _ _ aa y3 y4)
 rw[if_neg z2]
 have z2':0<l:=by simp at z2;omega
 have xz:((arrOf st).extract gA cV).size=na'-k:=by rw[Array.size_extract];omega
 have yz:((arrOf st).extract cV (sa'+na'+l)).size=l:=by rw[Array.size_extract];omega
 have xa:Asc c ((arrOf st).extract gA cV).toList:=Asc.ext (fun i j y1 y2 y3=>ua i j aa y2 y3) aa
 have ya:Asc c ((arrOf st).extract cV (sa'+na'+l)).toList:=Asc.ext (fun i j y1 y2 y3=>ub i j y1 y2 aa) aa
 have xm:∀x∈((arrOf st).extract gA cV).toList,x∈a0.toList:=fun x hx=>by
  obtain⟨t,_,_,t3,rfl⟩:=QeA hx;exact mem _ (QH t3)
 have ym:∀x∈((arrOf st).extract cV (sa'+na'+l)).toList,x∈a0.toList:=fun x hx=>by
  obtain⟨t,_,_,t3,rfl⟩:=QeA hx;exact mem _ (QH t3)
 have f1:c (ats ((arrOf st).extract cV (sa'+na'+l)) 0) (ats ((arrOf st).extract gA cV) 0)=true:=by
  rw[Qez aa aa,Qez aa aa];exact k3
 have f2:c (ats ((arrOf st).extract cV (sa'+na'+l)) (((arrOf st).extract cV (sa'+na'+l)).size-1)) (ats ((arrOf st).extract gA cV) (((arrOf st).extract gA cV).size-1))=true:=by
  rw[xz,yz,Qez aa aa,Qez aa aa,show sa'+k+(na'-k-1)=sa'+na'-1 by omega]
  exact l2 (l-1) aa
 have fin:∀(r:Array Keyed) (st2:SortSt) (s3:Shared),Merged c ((arrOf st).extract gA cV) ((arrOf st).extract cV (sa'+na'+l)) r->
   Gs (SortSt.mk' (kindOf st) ay (((pendingOf st).setIfInBounds i (sa',na'+nb',pw')).eraseIdxIfInBounds (i+1)) (gallopOf st) (failedOf st)) st2->G s3->
   Q (failedOf st2).isNone (SortSt.mk' (kindOf st2) ((r.toList.zipIdx).foldl (fun a x=>a.setIfInBounds (sa'+k+x.2) x.1) eQ) (pendingOf st2) (gallopOf st2) (failedOf st2)) s3:=fun r st2 s3 mg gs g3=>by
  have hr:r.toList.length=na'-k+l:=by
   have:=mg.2.length_eq
   simp only[List.length_append,Array.length_toList,xz,yz]at this
   rw[Array.length_toList];exact this
  have ar:arrOf st2=arrOf st:=gs.ar
  obtain⟨u1,u2⟩:=Ql8 gA r.toList eQ 0 (by rw[hr,ar];omega)
  simp only[Nat.add_zero]at u2
  rw[ar]at u1 u2
  have fd:failedOf st2=none:=gs.fd.trans b.fd
  rw[fd]
  have hx:((arrOf st).extract gA cV).toList++((arrOf st).extract cV (sa'+na'+l)).toList=((arrOf st).toList.drop gA).take r.toList.length:=by
   rw[hr,List.take_add,Array.toList_extract,Array.toList_extract,List.extract_eq_drop_take,List.extract_eq_drop_take,List.drop_drop]
   rw[show sa'+na'-gA=na'-k by omega,show sa'+na'+l-cV=l by omega,show sa'+k+(na'-k)=sa'+na' by omega]
  rw[ar]
  have from_:∀j,sa'+k<=j->j<sa'+k+r.toList.length->∃u,sa'+k<=u/\u<sa'+na'+l/\(r.toList[j-gA]?).getD (.none, .none)=ats ay u:=fun j y1 y2=>by
   have hj:j-gA<r.toList.length:=by omega
   rw[List.getElem?_eq_getElem hj]
   have hm:=mg.2.mem_iff.mp (List.getElem_mem hj)
   rcases List.mem_append.mp hm with hm|hm
   .obtain⟨t,t1,t2,_,t3⟩:=QeA hm;exact⟨t,t1,by omega,t3⟩
   .obtain⟨t,t1,t2,_,t3⟩:=QeA hm;exact⟨t,by omega,t2,t3⟩
  refine q _ s3 ⟨(QnE (p:=sa'+k) (r:=r.toList) u1 (by rw[hr];omega) u2 mg.2 hx).trans b.pm,gs.kd.trans b.kd,rfl⟩ gs.pe ?_ ?_ ?_ g3
  .intro i j y1 y2 y3
   show c uE (ats gj i)=false
   rw[u2 j,u2 i]
   have lo:∀i u,sa'<=i->i<sa'+k->sa'+k<=u->u<sa'+na'+nb'->c (ats ay u) mK=false:=fun i u v1 v2 v3 v4=>by
    by_cases v5:u<sa'+na'
    .exact ua i u v1 aa v5
    .have w:=k2 (i-sa') aa
     rw[show sa'+(i-sa')=i by omega]at w
     exact o.tr w (ub _ _ aa aa v4)
   have hi:∀u j,sa'+k<=u->u<sa'+na'+l->sa'+na'+l<=j->j<sa'+na'+nb'->c mJ (ats ay u)=false:=fun u j v1 v2 v3 v4=>by
    by_cases v5:u<sa'+na'
    .exact o.tr (o.tr (ua u (sa'+na'-1) aa aa aa) (l3 aa)) (ub _ _ aa v3 v4)
    .exact ub u j aa aa v4
   by_cases c1:sa'+k<=i/\i<sa'+k+r.toList.length
   .rw[if_pos c1]
    by_cases c2:sa'+k<=j/\j<sa'+k+r.toList.length
    .rw[if_pos c2,←Qb7,←Qb7]
     exact mg.1.at o aa (by rw[←Array.length_toList];omega)
    .rw[if_neg c2]
     obtain⟨u,v1,v2,v3⟩:=from_ i c1.1 c1.2
     rw[v3]
     exact hi u j v1 v2 aa aa
   .rw[if_neg c1]
    by_cases c2:sa'+k<=j/\j<sa'+k+r.toList.length
    .rw[if_pos c2]
     obtain⟨u,v1,v2,v3⟩:=from_ j c2.1 c2.2
     rw[v3]
     exact lo i u y1 aa v1 aa
    .rw[if_neg c2]
     by_cases c3:i<sa'+k
     .by_cases c4:j<sa'+k
      .exact ua i j y1 y2 aa
      .exact lo i j y1 c3 aa aa
     .exact ub i j aa y2 aa
  .intro j y1 y2
   show sa'<=ix uE/\ix uE<sa'+na'+nb'
   rw[u2 j]
   by_cases c2:sa'+k<=j/\j<sa'+k+r.toList.length
   .rw[if_pos c2]
    obtain⟨u,v1,v2,v3⟩:=from_ j c2.1 c2.2
    rw[v3]
    exact lall u aa aa
   .rw[if_neg c2];exact lall j y1 y2
  .intro j hj
   show ats gj j=_
   rw[u2 j,if_neg aa]
 have hxy:∀x∈((arrOf st).extract gA cV).toList,∀y∈((arrOf st).extract cV (sa'+na'+l)).toList,ix x<ix y:=fun x hx y hy=>by
  obtain⟨t,t1,t2,_,rfl⟩:=QeA hx
  obtain⟨u,u1,u2,_,rfl⟩:=QeA hy
  have z1:=la t aa aa
  have z2:=lb u aa aa
  omega
 by_cases z3:na'-k<=l
 .rw[if_pos z3]
  refine kasC_bind (QtW H oo xa ya xm ym hxy (by rw[xz];omega) (by rw[yz];omega) f1 f2 b.kd g2 fun r st2 s3 mg gs g3=>?_)
  refine kasC_bind (kasC_modify (kasC_bind (kasC_get (kasC_pure ?_))))
  exact fin r st2 s3 mg gs g3
 .rw[if_neg z3]
  refine kasC_bind (Qt0 H oo xa ya xm ym hxy (by rw[xz];omega) (by rw[yz];omega) f1 f2 b.kd g2 fun r st2 s3 mg gs g3=>?_)
  refine kasC_bind (kasC_modify (kasC_bind (kasC_get (kasC_pure ?_))))
  exact fin r st2 s3 mg gs g3
end
end TSrt
namespace TSrt
open PySem PySem.W PyProof.Rows
def Cov (c:Keyed->Keyed->Bool)(ix:Keyed->Nat)(xs:Array Keyed):List qm->Nat->Nat->Prop
 | [],p,q=>p=q
 |(st,len)::r,p,q=>st=p/\0<len/\Up c xs p pV/\Loc ix xs p pV/\Cov c ix xs r pV q
theorem Cov.app {c:Keyed->Keyed->Bool}{ix:Keyed->Nat}{xs:Array Keyed}:∀{l m:List qm} {p q:Nat},Cov c ix xs (l++m) p q↔∃t,Cov c ix xs l p t/\Cov c ix xs m t q
 | [],m,p,q=>⟨fun h=>⟨p,rfl,h⟩,fun⟨t,e,h⟩=>by cases e;exact h⟩
 |(st,len)::l,m,p,q=>by
  show(st=p/\0<len/\Up c xs p pV/\Loc ix xs p pV/\Cov c ix xs (l++m) pV q)↔_
  rw[Cov.app]
  constructor
  .rintro⟨h1,h2,h3,h0,t,h4,h5⟩;exact⟨t,⟨h1,h2,h3,h0,h4⟩,h5⟩
  .rintro⟨t,⟨h1,h2,h3,h0,h4⟩,h5⟩;exact⟨h1,h2,h3,h0,t,h4,h5⟩
theorem Cov.le {c:Keyed->Keyed->Bool}{ix:Keyed->Nat}{xs:Array Keyed}:∀{l:List qm} {p q:Nat},Cov c ix xs l p q->p+l.length<=q
 | [],p,q,h=>by cases h;simp
 |(st,len)::l,p,q,h=>by
  have:=Cov.le h.2.2.2.2
  have:=h.2.1
  rw[List.length_cons];omega
theorem Cov.same {c:Keyed->Keyed->Bool}{ix:Keyed->Nat}{xs ys:Array Keyed}:∀{l:List qm} {p q:Nat},(∀j,p<=j->j<q->ats ys j=ats xs j)->Cov c ix xs l p q->Cov c ix ys l p q
 | [],p,q,_,h=>h
 |(st,len)::l,p,q,e,h=>by
  have h1:=Cov.le h.2.2.2.2
  refine⟨h.1,h.2.1,fun i j z1 z2 z3=>?_,fun j z1 z2=>?_,Cov.same (fun j z1 z2=>e j aa z2) h.2.2.2.2⟩
  .rw[e i z1 aa,e j aa aa]
   exact h.2.2.1 i j z1 z2 z3
  .rw[e j z1 aa];exact h.2.2.2.1 j z1 z2
def two (x:Nat×Nat×Nat):Nat×Nat:=(x.1,x.2.1)
section
variable {M:Model}{A:Around}{E:Value->Shared->Prop}{κ:SortKind}{a0:Array Keyed}{c0 c:Keyed->Keyed->Bool}{ix:Keyed->Nat}{G:Shared->Prop}
structure Ru (κ:SortKind)(a0:Array Keyed)(c:Keyed->Keyed->Bool)(ix:Keyed->Nat)(st:SortSt)(q r:Nat):Prop where
 sb:SB κ a0 st
 cov:Cov c ix ay ((pendingOf st).toList.map two) 0 q
 raw:Raw ix ay r
 le:q<=r
theorem small (p:Prop) [Decidable p](m:Nat)(h:1<m):(if p then m-2-1 else m-2)+1<m:=by split<;>omega
theorem QpI (H:Cmp M A κ a0 c0 G)(oo:Od c0 c ix){i q r0:Nat}{st:SortSt}{s:Shared}{Q:Bool->SortSt->Shared->Prop}(r:Ru κ a0 c ix st q r0)(hq:q<=a0.size)(hi:i+1<(pendingOf st).size)(g:G s)
  (h:∀st' s',Ru κ a0 c ix st' q r0->(pendingOf st').size+1=(pendingOf st).size->(∀j,q<=j->ats aL j=ats ay j)->G s'->Q true st' s'):kasC M A E (mergeAt' i) Q st s:=by
 obtain⟨b,cov,raw,rle⟩:=r
 have hz0:=b.sz
 have hl:i+1<(pendingOf st).toList.length:=by simpa using hi
 obtain⟨⟨sa,na,pw⟩,e1⟩:∃x,(pendingOf st)[i]=x:=⟨_,rfl⟩
 obtain⟨⟨sb,nb,pv⟩,e2⟩:∃x,(pendingOf st)[i+1]=x:=⟨_,rfl⟩
 have q1:(pendingOf st)[i]?=some (sa,na,pw):=by rw[getElem?_pos _ i aa,e1]
 have q2:(pendingOf st)[i+1]?=some (sb,nb,pv):=by rw[getElem?_pos _ (i+1) hi,e2]
 have sp:(pendingOf st).toList=(pendingOf st).toList.take i++(sa,na,pw)::(sb,nb,pv)::(pendingOf st).toList.drop (i+2):=by
  conv=>lhs;rw[←List.take_append_drop i (pendingOf st).toList,List.drop_eq_getElem_cons aa,List.drop_eq_getElem_cons aa]
  rw[Array.getElem_toList,Array.getElem_toList,e1,e2]
 rw[sp,List.map_append,Cov.app]at cov
 obtain⟨t,c1,h1,c2,c3,c3l,h2,c4,c5,c5l,c6⟩:=cov
 have h1:sa=t:=h1
 subst h1
 have h2:sb=sa+na:=h2
 subst h2
 have c3:Up c ay sa (sa+na):=c3
 have c5:Up c ay (sa+na) (sa+na+nb):=c5
 have c6:Cov c ix ay (((pendingOf st).toList.drop (i+2)).map two) (sa+na+nb) q:=c6
 have c6':sa+na+nb+_<=q:=c6.le
 have c1':=c1.le
 have c2':0<na:=c2
 have c4':0<nb:=c4
 refine Qt1 H oo b q1 q2 rfl aa c2 c4 c3 c5 c3l c5l g fun st' s' b' pe up lc ke g'=>?_
 have pl:(pendingOf st').toList=(pendingOf st).toList.take i++(sa,na+nb,pw)::(pendingOf st).toList.drop (i+2):=by
  rw[pe,Array.toList_eraseIdxIfInBounds,Array.toList_setIfInBounds]
  conv=>lhs;rw[sp]
  have hli:((pendingOf st).toList.take i).length=i:=by simp;omega
  rw[List.set_append_right _ _ aa,hli,Nat.sub_self,List.set_cons_zero,List.eraseIdx_append_of_length_le aa,hli,show i+1-i=1 by omega]
  rfl
 refine h st' s' ⟨b',?_,fun j z1 z2=>by rw[ke j (.inr aa)];exact raw j z1 (Nat.lt_of_lt_of_le z2 (Nat.le_of_eq (b'.sz.trans hz0.symm))),rle⟩ ?_ (fun j hj=>ke j (.inr aa)) g'
 .rw[pl,List.map_append,Cov.app]
  refine⟨sa,Cov.same (fun j z1 z2=>ke j (.inl z2)) c1,rfl,(show 0<na+nb by omega),?_,?_,?_⟩
  .show Up c aL sa (sa+(na+nb))
   rw[←Nat.add_assoc];exact up
  .show Loc ix aL sa (sa+(na+nb))
   rw[←Nat.add_assoc];exact lc
  .show Cov c ix aL _ (sa+(na+nb)) q
   rw[←Nat.add_assoc]
   exact Cov.same (fun j z1 z2=>ke j (.inr z1)) c6
 .have z1:=congrArg List.length pl
  have z2:=congrArg List.length sp
  simp only[List.length_append,List.length_cons,Array.length_toList]at z1 z2
  omega
theorem Ru.more {st:SortSt}{lo n k:Nat}(r:Ru κ a0 c ix st lo dU)(h1:1<=n)(up:Up c ay lo dU)(lc:Loc ix ay lo dU):Ru κ a0 c ix (setPending st ((pendingOf st).push (lo,n,k))) dU dU:=by
 refine⟨⟨r.sb.pm,r.sb.kd,r.sb.fd⟩,?_,r.raw,Nat.le_refl _⟩
 show Cov c ix ay (((pendingOf st).push (lo,n,k)).toList.map two) 0 dU
 rw[Array.toList_push,List.map_append,Cov.app]
 exact⟨lo,r.cov,rfl,h1,up,lc,rfl⟩
theorem Ru.pow {st:SortSt}{lo i r0:Nat}{f:Nat×Nat×Nat->Nat×Nat×Nat}(hf:∀x,two (f x)=two x)(r:Ru κ a0 c ix st lo r0):Ru κ a0 c ix (setPending st ((pendingOf st).modify i f)) lo r0:=by
 refine⟨⟨r.sb.pm,r.sb.kd,r.sb.fd⟩,?_,r.raw,r.le⟩
 show Cov c ix ay (((pendingOf st).modify i f).toList.map two) 0 lo
 have e:((pendingOf st).modify i f).toList.map two=(pendingOf st).toList.map two:=by
  rw[Array.toList_modify]
  apply List.ext_getElem?
  intro j
  rw[List.getElem?_map,List.getElem?_map,List.getElem?_modify]
  cases(pendingOf st).toList[j]? with
  |none=>rfl
  |some x=>
   show some (two (if i=j then f x else x))=some (two x)
   by_cases e:i=j
   .rw[if_pos e,hf]
   .rw[if_neg e]
 rw[e]
 exact r.cov
theorem QpJ (H:Cmp M A κ a0 c0 G)(oo:Od c0 c ix){st:SortSt}{s:Shared}{Q:Unit->SortSt->Shared->Prop}(b:SB κ a0 st)(pe:pendingOf st= #[])(ra:Raw ix ay 0)(g:G s)
  (h:∀st' s',SB κ a0 st'->Up c aL 0 a0.size->G s'->Q () st' s'):kasC M A E sortRuns' Q st s:=by
 rw[sortRuns'_eq]
 refine kasC_bind (kasC_get ?_)
 dsimp only
 rw[b.sz]
 refine kasC_bind (Qy (Q:=fun d st' s'=>d=(none,a0.size)/\Ru κ a0 c ix st' a0.size a0.size/\G s') (Qcj (fun x d st' s'=>∃lo,d=(none,lo)/\x<=lo/\lo<=a0.size/\Ru κ a0 c ix st' lo lo/\G s') ?_ ?_ ?_) ?_)
 .rintro x _ st1 s1 _ hx ⟨lo,rfl,x1,x2,r1,g1⟩
  dsimp only
  by_cases z:lo≥a0.size
  .rw[if_pos z]
   have:lo=a0.size:=by omega
   subst this
   exact kasC_pure ⟨rfl,r1,g1⟩
  rw[if_neg z]
  refine kasC_bind (QnD H oo aa aa r1.sb r1.raw g1 fun n st2 s2 n1 n2 b2 p2 up2 lc2 rw2 ke2 g2=>?_)
  have c2:Cov c ix eQ ((pendingOf st2).toList.map two) 0 lo:=by rw[p2];exact Cov.same (fun j _ z2=>ke2 j z2) r1.cov
  dsimp only
  by_cases zm:n<minRun' a0.size a0.size 0
  .rw[if_pos zm]
   refine kasC_bind (kasC_lift (wpAny_rule ?_))
   have hf:n<=min jv cZ:=by omega
   refine kasC_bind (QrI H oo aa hf b2 up2 lc2 rw2 g2 fun st3 s3 b3 p3 ux lx wx ke3 gx=>?_)
   have rx:Ru κ a0 c ix st3 lo qb:=⟨b3,by rw[p3];exact Cov.same (fun j _ z2=>ke3 j z2) c2,wx,by omega⟩
   rw[if_neg al]
   refine kasC_bind (kasC_get ?_)
   split
   .rename_i s1' n1' k1' _
    refine kasC_bind (Qy (Q:=fun d st' s'=>d=(none,())/\Ru κ a0 c ix st' lo qb/\(∀j,lo<=j->ats aL j=ats (arrOf st3) j)/\G s') (Qcj (fun x d st' s'=>d=(none,())/\Ru κ a0 c ix st' lo qb/\(∀j,lo<=j->ats aL j=ats (arrOf st3) j)/\G s') ?_ (fun _ _ _ z=>z) ⟨rfl,rx,fun _ _=>rfl,gx⟩) ?_)
    .rintro y _ st4 s4 _ hy ⟨rfl,r4,ke4,g4⟩
     refine kasC_bind (kasC_get ?_)
     split
     .rename_i hsome
      split
      .exact kasC_pure ⟨rfl,r4,ke4,g4⟩
      .have hp:(pendingOf st4).size>1:=by
        rcases Nat.lt_or_ge 1 (pendingOf st4).size with w|w
        .exact w
        .rw[if_neg aa]at hsome;exact absurd hsome al
       refine kasC_bind (QpI H oo r4 x2 aa g4 fun st5 s5 r5 _ ke5 g5=>?_)
       rw[if_neg al]
       exact kasC_pure ⟨rfl,r5,fun j hj=>(ke5 j hj).trans (ke4 j hj),g5⟩
     .exact kasC_pure ⟨rfl,r4,ke4,g4⟩
    .rintro _ st4 s4 ⟨rfl,r4,ke4,g4⟩
     dsimp only
     refine kasC_bind (kasC_modify (kasC_bind (kasC_modify (kasC_pure ?_))))
     refine⟨_,rfl,by omega,by omega,Ru.more (Ru.pow (fun x=>rfl) r4) (show 1<=min jv cZ by omega) (fun i j z1 z2 z3=>?_) (fun j z1 z2=>?_),g4⟩
     .show c ft (ats (arrOf st4) i)=false
      rw[ke4 i z1,ke4 j aa]
      exact ux i j z1 z2 z3
     .show lo<=ix ft/\ix ft<_
      rw[ke4 j z1]
      exact lx j z1 z2
   .refine kasC_bind (kasC_modify (kasC_pure ?_))
    exact⟨_,rfl,by omega,by omega,Ru.more rx (show 1<=min jv cZ by omega) ux lx,gx⟩
  .rw[if_neg zm]
   have rx:Ru κ a0 c ix st2 lo dU:=⟨b2,c2,rw2,by omega⟩
   have lx:=lc2
   have ux:=up2
   have gx:=g2
   refine kasC_bind (kasC_get ?_)
   split
   .rename_i s1' n1' k1' _
    refine kasC_bind (Qy (Q:=fun d st' s'=>d=(none,())/\Ru κ a0 c ix st' lo dU/\(∀j,lo<=j->ats aL j=ats eQ j)/\G s') (Qcj (fun x d st' s'=>d=(none,())/\Ru κ a0 c ix st' lo dU/\(∀j,lo<=j->ats aL j=ats eQ j)/\G s') ?_ (fun _ _ _ z=>z) ⟨rfl,rx,fun _ _=>rfl,gx⟩) ?_)
    .rintro y _ st4 s4 _ hy ⟨rfl,r4,ke4,g4⟩
     refine kasC_bind (kasC_get ?_)
     split
     .rename_i hsome
      split
      .exact kasC_pure ⟨rfl,r4,ke4,g4⟩
      .have hp:(pendingOf st4).size>1:=by
        rcases Nat.lt_or_ge 1 (pendingOf st4).size with w|w
        .exact w
        .rw[if_neg aa]at hsome;exact absurd hsome al
       refine kasC_bind (QpI H oo r4 x2 aa g4 fun st5 s5 r5 _ ke5 g5=>?_)
       rw[if_neg al]
       exact kasC_pure ⟨rfl,r5,fun j hj=>(ke5 j hj).trans (ke4 j hj),g5⟩
     .exact kasC_pure ⟨rfl,r4,ke4,g4⟩
    .rintro _ st4 s4 ⟨rfl,r4,ke4,g4⟩
     dsimp only
     refine kasC_bind (kasC_modify (kasC_bind (kasC_modify (kasC_pure ?_))))
     refine⟨_,rfl,by omega,by omega,Ru.more (Ru.pow (fun x=>rfl) r4) n1 (fun i j z1 z2 z3=>?_) (fun j z1 z2=>?_),g4⟩
     .show c ft (ats (arrOf st4) i)=false
      rw[ke4 i z1,ke4 j aa]
      exact ux i j z1 z2 z3
     .show lo<=ix ft/\ix ft<_
      rw[ke4 j z1]
      exact lx j z1 z2
   .refine kasC_bind (kasC_modify (kasC_pure ?_))
    exact⟨_,rfl,by omega,by omega,Ru.more rx n1 ux lx,gx⟩
 .rintro _ st1 s1 ⟨lo,rfl,x1,x2,r1,g1⟩
  have:lo=a0.size:=by omega
  subst this
  exact⟨rfl,r1,g1⟩
 .exact⟨0,rfl,Nat.le_refl _,Nat.zero_le _,⟨b,by rw[pe];rfl,ra,Nat.le_refl _⟩,g⟩
 .rintro _ st1 s1 ⟨rfl,r1,g1⟩
  dsimp only
  refine kasC_bind (Qy (Q:=fun d st' s'=>d=(none,())/\(pendingOf st').size<=1/\Ru κ a0 c ix st' a0.size a0.size/\G s') (Qcj (fun x d st' s'=>d=(none,())/\((pendingOf st').size<=1\/(pendingOf st').size+x<=a0.size)/\Ru κ a0 c ix st' a0.size a0.size/\G s') ?_ ?_ ?_) ?_)
  .rintro x _ st2 s2 _ hx ⟨rfl,x1,r2,g2⟩
   refine kasC_bind (kasC_get ?_)
   by_cases z:(pendingOf st2).size<=1
   .rw[if_pos z]
    exact kasC_pure ⟨rfl,z,r2,g2⟩
   rw[if_neg z]
   refine kasC_bind (QpI H oo r2 aw (small _ _ aa) g2 fun st3 s3 r3 z3 _ g3=>?_)
   rw[if_neg al]
   exact kasC_pure ⟨rfl,by omega,r3,g3⟩
  .rintro _ st2 s2 ⟨rfl,x1,r2,g2⟩
   exact⟨rfl,by omega,r2,g2⟩
  .refine⟨rfl,?_,r1,g1⟩
   have:=r1.cov.le
   rw[List.length_map,Array.length_toList]at this
   omega
  .rintro _ st2 s2 ⟨rfl,x1,r2,g2⟩
   refine kasC_pure (h st2 s2 r2.sb ?_ g2)
   have cv:=r2.cov
   cases e:(pendingOf st2).toList with
   |nil=>
    rw[e]at cv
    have:0=a0.size:=cv
    intro i j _ _ z;omega
   |cons y l=>
    cases l with
    |nil=>
     rw[e]at cv
     obtain⟨_,_,u,_,w⟩:=cv
     have w:0+y.2.1=a0.size:=w
     rw[←w];exact u
    |cons y' l=>
     have:=congrArg List.length e
     rw[Array.length_toList]at this
     simp at this;omega
end
end TSrt
namespace TSrt
open PySem PySem.W PyProof.Rows
structure Swk {κ:Type}(lt:κ->κ->Bool):Prop where
 asym:∀{x y},lt x y=true->lt y x=false
 tr:∀{x y z},lt y x=false->lt z y=false->lt z x=false
def cN {κ:Type}(lt:κ->κ->Bool)(ks:Nat->κ)(i j:Nat):Bool:=lt re iN||(!(lt iN re)&&decide (i<j))
theorem QrQ {κ:Type}{lt:κ->κ->Bool}(o:Swk lt){ks:Nat->κ}{x y z:Nat}(h1:cN lt ks y x=false)(h2:cN lt ks z y=false):cN lt ks z x=false:=by
 unfold cN at *
 simp only[Bool.or_eq_false_iff,Bool.and_eq_false_iff,Bool.not_eq_false',decide_eq_false_iff_not,Nat.not_lt]at *
 refine⟨o.tr h1.1 h2.1,?_⟩
 cases e:lt (ks x) (ks z)with
 |true=>exact .inl rfl
 |false=>
  right
  have e1:lt (ks x) (ks y)=false:=o.tr h2.1 e
  have e2:lt (ks y) (ks z)=false:=o.tr e h1.1
  rw[e1]at h1;rw[e2]at h2
  have a1:=h1.2.resolve_left al
  have a2:=h2.2.resolve_left al
  omega
theorem Ql9 {κ:Type}{lt:κ->κ->Bool}(o:Swk lt){ks:Nat->κ}{x y:Nat}(h:cN lt ks x y=true):cN lt ks y x=false:=by
 unfold cN at *
 simp only[Bool.or_eq_true,Bool.and_eq_true,Bool.not_eq_true',decide_eq_true_eq,Bool.or_eq_false_iff,Bool.and_eq_false_iff,Bool.not_eq_false',decide_eq_false_iff_not,Nat.not_lt]at *
 rcases h with h|⟨h1,h2⟩
 .exact⟨o.asym h, .inl h⟩
 .exact⟨h1, .inr aa⟩
theorem QpK {κ:Type}{lt:κ->κ->Bool}{ks:Nat->κ}{x y:Nat}(h1:cN lt ks x y=false)(h2:cN lt ks y x=false):x=y:=by
 unfold cN at *
 simp only[Bool.or_eq_false_iff,Bool.and_eq_false_iff,Bool.not_eq_false',decide_eq_false_iff_not,Nat.not_lt]at *
 have a1:=h1.2.resolve_left (by rw[h2.1];simp)
 have a2:=h2.2.resolve_left (by rw[h1.1];simp)
 omega
def srt {κ:Type}(lt:κ->κ->Bool)(ks:Nat->κ)(n:Nat):List Nat:=(List.range n).mergeSort fun i j=> !(cN lt ks j i)
theorem Qba {κ:Type}(lt:κ->κ->Bool)(ks:Nat->κ)(n:Nat):(srt lt ks n).Perm lW:=List.mergeSort_perm ..
theorem QjD {κ:Type}{lt:κ->κ->Bool}(o:Swk lt)(ks:Nat->κ)(n:Nat):(srt lt ks n).Pairwise fun i j=>cN lt ks j i=false:=by
 have:=List.pairwise_mergeSort (le:=fun i j=> !(cN lt ks j i)) (fun a b c h1 h2=>by simp only[Bool.not_eq_true']at *;exact QrQ o h1 h2) (fun a b=>by
  cases e:cN lt ks b a with
  |false=>simp
  |true=>simp[Ql9 o e]) lW
 exact this.imp fun h=>by simpa using h
theorem QnF {κ:Type}{lt:κ->κ->Bool}(o:Swk lt){ks:Nat->κ}{n:Nat}{l:List Nat}(hp:l.Perm lW)(ha:l.Pairwise fun i j=>cN lt ks j i=false):l=srt lt ks n:=
 List.Perm.eq_of_pairwise (fun a b _ _ h1 h2=>QpK h2 h1) ha (QjD o ks n) (hp.trans (Qba lt ks n).symm)
def ixOf (vs:List Value)(x:Keyed):Nat:=Classical.epsilon fun i=>vs[i]?=some x.2
theorem QpL {vs:List Value}(nd:vs.Nodup){x:Keyed}{i:Nat}(h:vs[i]?=some x.2):ixOf vs x=i:=by
 have e:vs[ixOf vs x]?=some x.2:=Classical.epsilon_spec (p:=fun i=>vs[i]?=some x.2) ⟨i,h⟩
 have hi:=(List.getElem?_eq_some_iff.mp h).1
 exact((List.getElem?_inj hi nd).mp (h.trans e.symm)).symm
section
variable {M:Model}{A:Around}{E:Value->Shared->Prop}{κ:SortKind}{G:Shared->Prop}{κt:Type}{lt:κt->κt->Bool}{ks:Nat->κt}{kvs vs:List Value}
theorem Qke (ok:Swk lt)(hl:kvs.length=vs.length)(nd:vs.Nodup)
  (cmp:∀i j,i<vs.length->j<vs.length->∀s,G s->wpAny M A (keyLt' κ (kvs.getD i .none) (kvs.getD j .none)) (fun b s'=>b=lt re iN/\G s') (fun _ _=>False) s) {s:Shared} (g:G s) {Q:Unit->SortSt->Shared->Prop}
  (q:∀st' s',failedOf st'=none->(arrOf st').map (·.2)=((srt lt ks vs.length).map fun i=>vs.getD i .none).toArray->G s'->Q () st' s'):
  kasC M A E sortRuns' Q (SortSt.mk' κ iM #[] 7 none) s:=by
 have hz:(kvs.toArray.zip vs.toArray).size=vs.length:=by simp[hl]
 have at_:∀i,i<vs.length->(kvs.toArray.zip vs.toArray)[i]?=some (kvs.getD i .none,vs.getD i .none):=fun i hi=>by
  have:=kat_item hl (ks:=kvs) (vs:=vs) i
  unfold kas_item at this
  have h':i<(kvs.toArray.zip vs.toArray).size:=by omega
  rw[←this,Array.getElem?_eq_getElem h',Array.getD,dif_pos h']
  rfl
 have ixa:∀i,i<vs.length->ixOf vs (kvs.getD i .none,vs.getD i .none)=i:=fun i hi=>QpL nd (by simp[hi])
 have mem:∀x,x∈(kvs.toArray.zip vs.toArray).toList->∃i,i<vs.length/\x=(kvs.getD i .none,vs.getD i .none):=fun x hx=>by
  obtain⟨i,hi⟩:=List.mem_iff_getElem?.mp hx
  rw[Array.getElem?_toList]at hi
  have hlt:i<vs.length:=by
   rcases Nat.lt_or_ge i vs.length with z|z
   .exact z
   .rw[Array.getElem?_eq_none aa]at hi;cases hi
  rw[at_ i hlt]at hi
  cases hi
  exact⟨i,hlt,rfl⟩
 have oo:Od (fun x y=>lt (ks (ixOf vs x)) (ks (ixOf vs y))) (fun x y=>cN lt ks (ixOf vs x) (ixOf vs y)) qz:=
  ⟨⟨fun h=>ok.asym h,fun h1 h2=>ok.tr h1 h2⟩,⟨fun h=>Ql9 ok h,fun h1 h2=>QrQ ok h1 h2⟩,fun{x y} h=>by
   have:decide (ixOf vs x<ixOf vs y)=false:=by simp;omega
   simp[cN,this],fun{x y} h=>by simp[cN,h],fun{x y} h1 h2 h3=>by simp[cN,h1,h2,h3]⟩
 refine QpJ (κ:=κ) (a0:=kvs.toArray.zip vs.toArray) (G:=G) (fun x y hx hy s g=>?_) oo (st:=SortSt.mk' κ iM #[] 7 none) ⟨Array.Perm.refl _,rfl,rfl⟩ rfl (fun j _ hj=>?_) g fun st' s' b up g'=>?_
 .obtain⟨i,hi,rfl⟩:=mem x hx
  obtain⟨j,hj,rfl⟩:=mem y hy
  have:=cmp i j hi hj s g
  rw[←ixa i hi,←ixa j hj]at this
  rw[ixa i hi,ixa j hj]at this⊢
  exact this
 .have hj':j<vs.length:=by
   have:j<(kvs.toArray.zip vs.toArray).size:=hj
   omega
  show ixOf vs (ats iM j)=j
  unfold ats
  rw[at_ j hj']
  exact ixa j hj'
 .refine q st' s' b.fd ?_ g'
  have pm:=Array.perm_iff_toList_perm.mp b.pm
  have e0:(kvs.toArray.zip vs.toArray).toList=(List.range vs.length).map fun i=>(kvs.getD i .none,vs.getD i .none):=by
   apply List.ext_getElem?
   intro i
   rw[Array.getElem?_toList,List.getElem?_map]
   by_cases hi:i<vs.length
   .rw[at_ i hi,List.getElem?_range hi];rfl
   .rw[Array.getElem?_eq_none aa,List.getElem?_eq_none (by simp;omega)];rfl
  have e1:(kvs.toArray.zip vs.toArray).toList.map qz=List.range vs.length:=by
   rw[e0,List.map_map]
   conv=>rhs;rw[←List.map_id rW]
   exact List.map_congr_left fun i hi=>ixa i (List.mem_range.mp hi)
  have hp:((arrOf st').toList.map qz).Perm rW:=by rw[←e1];exact pm.map _
  have ha:((arrOf st').toList.map qz).Pairwise fun i j=>cN lt ks j i=false:=by
   rw[List.pairwise_map]
   refine List.pairwise_iff_getElem.mpr fun i j hi hj hij=>?_
   have hj':j<(kvs.toArray.zip vs.toArray).size:=by rw[←b.sz];simpa using hj
   have:=up i j cJ aa hj'
   rw[Qb7,Qb7,List.getElem?_eq_getElem hi,List.getElem?_eq_getElem hj]at this
   exact this
  rw[←QnF ok hp ha,List.map_map]
  apply Array.toList_inj.mp
  rw[Array.toList_map]
  refine List.map_congr_left fun x hx=>?_
  obtain⟨i,hi,rfl⟩:=mem x (pm.mem_iff.mp hx)
  show vs.getD i .none=vs.getD (ixOf vs (kvs.getD i .none,vs.getD i .none)) .none
  rw[ixa i hi]
end
end TSrt
namespace TSrt
open PySem PySem.W PyProof.Rows PySem.Calls
def ltI (x y:Int):Bool:=decide (x<y)
theorem swI:Swk ltI:=⟨fun{x y} h=>by simp only[ltI,decide_eq_true_eq,decide_eq_false_iff_not]at *;omega,fun{x y z} h1 h2=>by simp only[ltI,decide_eq_false_iff_not]at *;omega⟩
theorem QeX {κ:Type}{lt:κ->κ->Bool}{ks:Nat->κ}{n i:Nat}(h:i∈srt lt ks n):i<n:=List.mem_range.mp ((Qba lt ks n).mem_iff.mp h)
def srtB {κ:Type}(lt:κ->κ->Bool)(b:Bool)(ks:Nat->κ)(n:Nat):List Nat:=if b then((srt lt (fun i=>ks (n-1-i)) n).map (fun i=>n-1-i)).reverse else srt lt ks n
theorem QhF {κ:Type}{lt:κ->κ->Bool}{b:Bool}{ks:Nat->κ}{n i:Nat}(h:i∈srtB lt b ks n):i<n:=by
 unfold srtB at h
 split at h
 .obtain⟨j,hj,rfl⟩:=List.mem_map.mp (List.mem_reverse.mp h)
  have:=QeX hj;omega
 .exact QeX h
def ksB {κ:Type}(b:Bool)(ks:Nat->κ)(n i:Nat):κ:=if b then ks (n-1-i)else ks i
theorem Qkf {its:List Value}{i:Nat}(h:i<its.length):its.reverse.getD i .none=its.getD (its.length-1-i) .none:=by
 simp[List.getD,List.getElem?_reverse h]
theorem Qkg {κ:Type}{lt:κ->κ->Bool}{b:Bool}{ks:Nat->κ}{its:List Value}:katRev b ((srt lt ln its.length).map fun i=>(katRev b its).getD i .none)=(srtB lt b ks its.length).map fun i=>its.getD i .none:=by
 cases b with
 |false=>rfl
 |true=>
  show((srt lt (fun i=>ks (its.length-1-i)) its.length).map fun i=>its.reverse.getD i .none).reverse=(((srt lt (fun i=>ks (its.length-1-i)) its.length).map (fun i=>its.length-1-i)).reverse).map fun i=>its.getD i .none
  rw[←List.map_reverse,←List.map_reverse,List.map_map]
  exact List.map_congr_left fun i hi=>Qkf (QeX (List.mem_reverse.mp hi))
theorem QiG {κ:Type}{lt:κ->κ->Bool}{ks:Nat->κ}{n:Nat}(h:n<2):srt lt ks n=List.range n:=by
 match n,h with
 |0,_=>simp[srt]
 |1,_=>simp[srt,List.range_succ]
theorem Qg3 (l:List Value):(List.range l.length).map (fun i=>l.getD i .none)=l:=by
 apply List.ext_getElem?
 intro i
 rw[List.getElem?_map]
 by_cases h:i<l.length
 .rw[List.getElem?_range h];simp[h]
 .rw[List.getElem?_eq_none (by simp;omega),List.getElem?_eq_none aa];rfl
section
variable {prog:Program}{w:World}{A:Around}{E:Value->Shared->Prop}{s:Shared}{l q:Addr}{its:List Value}{b:Bool}{ks:Nat->Int}
theorem QpM {P:PySem.Fin->Shared->Prop}{D kS:Addr}{kvs:List Value}{e e1:Nat}(nd:its.Nodup)(hz:its.length<=1000000)(hl:kvs.length=its.length)(hk:∀j,j<its.length->∃t,kvs.getD j .none= .int iN t)
  (ne:D≠kS) (h1:s.heap.get? kS=some oN) (h2:s.heap.get? D=some (seqObj "list" #[] e1))
  (fin:∀h' c,(∀x o,x≠kS->x≠D->s.heap.get? x=some o->h'.get? x=some o)->h'.get? D=some (seqObj "list" ((srtB ltI b ks its.length).map fun i=>its.getD i .none).toArray c)->P (.done (.ret .none)) {s with heap:=h'}):
  wpAny aO A (ksk_end D b its.toArray e1 (.ref kS) kvs.toArray) P E s:=by
 have iA:IntsAre kvs ((List.range its.length).map ks):=by
  have go:∀(r:List Value) (m:Nat),(∀j,j<r.length->∃t,r.getD j .none= .int (ks (m+j)) t)->IntsAre r ((List.range' m r.length).map ks):=by
   intro r
   induction r with
   |nil=>intro m _;exact .nil
   |cons v r ih=>
    intro m h
    obtain⟨t,e⟩:=h 0 al
    have e':v= .int (ks m) t:=e
    subst e'
    rw[List.length_cons,List.range'_succ,List.map_cons]
    exact .cons _ t (ih (m+1) fun j hj=>by
     obtain⟨t,e⟩:=h (j+1) (by simpa using hj)
     exact⟨t,by rw[show m+1+j=m+(j+1)by omega];exact e⟩)
  have:=go kvs 0 fun j hj=>by rw[Nat.zero_add];exact hk j aa
  rwa [hl,←List.range_eq_range']at this
 have tail:∀st:SortSt,failedOf st=none->(arrOf st).map (·.2)=((srt ltI ln its.length).map fun i=>(katRev b its).getD i .none).toArray->wpAny aO A (ksk_tail D b e1 (.ref kS) st) P E s:=fun st hf hout=>by
  have s1:=Heap.SameBut.update s.heap kS (Obj.mapSeq fun _=>(#[]:Array Value))
  have na:=(s1.2 D ne).trans h2
  unfold ksk_tail
  try dsimp only
  rw[hout,kat_outs,Qkg]
  have hlen:((srtB ltI b ks its.length).map fun i=>its.getD i .none).length=its.length:=by
   rw[←Qkg,kat_len,List.length_map,(Qba ..).length_eq,List.length_range]
  obtain⟨c2,hc2⟩:∃c2,((s.heap.update kS (Obj.mapSeq fun _=>(#[]:Array Value))).update D (Obj.mapSeq fun _=>((srtB ltI b ks its.length).map fun i=>its.getD i .none).toArray)).get? D=some (seqObj "list" ((srtB ltI b ks its.length).map fun i=>its.getD i .none).toArray c2):=⟨_,get?_update_seq na fun _=>_⟩
  have s2:=Heap.SameBut.update (s.heap.update kS (Obj.mapSeq fun _=>(#[]:Array Value))) D (Obj.mapSeq fun _=>((srtB ltI b ks its.length).map fun i=>its.getD i .none).toArray)
  refine wpAny_bind (listUpdate_at h1 rfl (wpAny_bind (wpAny_letGo (wpAny_bind (seqEpoch_at na rfl ?_)))) (by rw[List.size_toArray,sizeLine_eq];omega) cJ)
  refine wpAny_bind (listUpdate_at na rfl ?_ cJ (by rw[List.size_toArray,hlen,sizeLine_eq];omega))
  rw[hf]
  simp only[bne_self_eq_false,Bool.false_eq_true,if_false]
  exact wpAny_pure (fin _ c2 (fun x o x1 x2 ho=>(s2.2 x x2).trans ((s1.2 x x1).trans ho)) hc2)
 have step:∀t:Sem PySem.Fin,wpAny aO A t P E s->wpAny aO A (if b=true then rule "list.sort.reverse">>=fun _=>t else t) P E s:=fun t ht=>by
  split
  .exact wpAny_bind (wpAny_rule ht)
  .exact ht
 unfold ksk_end
 try dsimp only
 refine step _ ?_
 rw[kat_pairs b hl]
 have hlr:(katRev b kvs).length=(katRev b its).length:=by rw[kat_len,kat_len,hl]
 by_cases hs:its.toArray.size<2
 .rw[if_pos hs,if_pos hs]
  rw[List.size_toArray]at hs
  refine wpAny_bind (wpAny_pure ?_)
  rw[StateT.run_pure]
  refine wpAny_bind (wpAny_pure (tail _ rfl ?_))
  show(((katRev b kvs).toArray.zip (katRev b its).toArray).map (·.2))=_
  rw[QiG hs]
  conv=>rhs;rw[show its.length=(katRev b its).length from(kat_len ..).symm,Qg3]
  apply Array.toList_inj.mp
  rw[Array.toList_map,ksk_zip]
  exact List.map_snd_zip (by rw[hlr];exact Nat.le_refl _)
 .rw[if_neg hs,if_neg hs,ksk_kind (kz:=(List.range its.length).map ks) (by simpa using iA) (by rw[List.size_toArray]at *;omega)]
  refine wpAny_bind (wpAny_pure ?_)
  refine wpAny_bind (wpAny_mono (Qke (lt:=ltI) (ks:=ksB b ks its.length) (κ:=oneType') (G:=fun s'=>s'=s) swI hlr ?_ (fun i j hi hj s' g=>?_) rfl (Q:=fun _ st' s'=>failedOf st'=none/\(arrOf st').map (·.2)=((srt ltI ln its.length).map fun i=>(katRev b its).getD i .none).toArray/\s'=s) fun st' s' z1 z2 z3=>⟨z1,by rw[kat_len]at z2;exact z2,z3⟩) (fun r s' z=>?_) fun _ _ z=>z)
  .unfold katRev;split
   .exact List.pairwise_reverse.mpr (List.Pairwise.imp (fun h=>Ne.symm h) nd)
   .exact nd
  .subst g
   rw[kat_len]at hi hj
   have at_:∀i,i<its.length->∃t,(katRev b kvs).getD i .none= .int (ksB b ks its.length i) t:=fun i hi=>by
    cases b with
    |false=>exact hk i hi
    |true=>
     show∃t,kvs.reverse.getD i .none= .int (ks (its.length-1-i)) t
     rw[Qkf aa,hl]
     exact hk _ aa
   obtain⟨t1,e1⟩:=at_ i hi
   obtain⟨t2,e2⟩:=at_ j hj
   rw[e1,e2]
   exact kat_lt_int ⟨rfl,rfl⟩
  .obtain⟨⟨⟩,st⟩:=r
   obtain⟨z1,z2,z3⟩:=z
   have z3:s'=s:=z3
   subst z3
   exact tail st z1 z2
theorem Qk9 {Q:Value->Shared->Prop}{kw:List dH}(hs1:argsOk "sorted" ⟨[.ref l],kw⟩)(hs2:∀a:Addr,argsOk "list.sort" ⟨[.ref a],kw⟩)(hs3:∀a:Addr,Builtin.«list.sort» ⟨[.ref a],kw⟩=ksk_tree a (.ref q) b)(hl:s.heap.IsList l its.toArray)(hz:its.length<=1000000)(nd:its.Nodup)(J:Nat->Addr->Addr->Shared->Prop)
  (j0:∀D kS h',s.heap.objs.size<=D->D<kS->(∀x o,s.heap.get? x=some o->h'.get? x=some o)->J 0 D kS {s with heap:=h'})
  (jt:∀i D kS u s' ok od,its[i]?=some u->J i D kS s'->s'.heap.get? kS=some ok->s'.heap.get? D=some od->
   wpAny aO A.in1.in1 (call (.ref q) [u]) (fun k s''=>(∃t,k= .int re t)/\J (i+1) D kS s''/\s''.heap.get? kS=some ok/\s''.heap.get? D=some od) (fun _ _=>False) s')
  (jk:∀i D kS s' h',J i D kS s'->(∀x o,x≠kS->s'.heap.get? x=some o->h'.get? x=some o)->J i D kS {s' with heap:=h'})
  (fin:∀D kS s' h' c,J its.length D kS s'->(∀x o,x≠kS->x≠D->s'.heap.get? x=some o->h'.get? x=some o)->h'.get? D=some (seqObj "list" ((srtB ltI b ks its.length).map fun i=>its.getD i .none).toArray c)->Q lX {s' with heap:=h'}):
  wpAny aO A (call gr [.ref l] kw) Q E s:=by
 have hz':its.length<=sizeLine:=by rw[sizeLine_eq];omega
 have hsz:((s.heap.push bh).update s.heap.objs.size (Obj.mapSeq (· ++its.toArray))).objs.size=s.heap.objs.size+1:=(Heap.size_update ..).trans (size_push' ..)
 have hoL:(((s.heap.push bh).update s.heap.objs.size (Obj.mapSeq (· ++its.toArray))).push bu).get? av=some bu:=hsz▸Heap.get?_push_size _ rfl
 have keep:∀x o,s.heap.get? x=some o->(((s.heap.push bh).update s.heap.objs.size (Obj.mapSeq (· ++its.toArray))).push bu).get? x=some o:=fun x o e=>by
  have hlt:x<s.heap.objs.size:=Heap.lt_size e
  exact Heap.get?_push_of_some _ ((Heap.get?_update_ne _ _ _ _ uU).trans (Heap.get?_push_of_some _ e))
 refine call_function_entry_kw kind_sorted plain_sorted entry_sorted hs1 ?_
 unfold Builtin.«sorted»
 refine wpAny_bind (m:=checkCount "sorted" 1 1 _) (wpAny_pure (wpAny_bind (collect_list hl (wpAny_bind (wpAny_newList ?_ hz')) hz')))
 show wpAny _ _ _ _ _ (Shared.mk (((s.heap.push bh).update s.heap.objs.size (Obj.mapSeq (· ++its.toArray))).push bu) s.gens s.drawn s.toks s.os)
 rw[hsz]
 refine wpAny_bind (wpAny_holding (wpAny_call_entry_kw slot_list_sort ⟨_,hoL,rfl⟩ entry_list_sort ?_ (hs2 _)))
 show wpAny aO A.in1.in1 (Builtin.«list.sort» ⟨[.ref av],_⟩) _ _ _
 rw[hs3]
 generalize hH:((s.heap.push bh).update s.heap.objs.size (Obj.mapSeq (· ++its.toArray))).push bu=h1 at *
 have hz1:h1.objs.size=s.heap.objs.size+2:=by rw[←hH,size_push',hsz]
 clear hH
 obtain⟨e1,ho1⟩:∃e1,(h1.update av (Obj.mapSeq fun _=>(#[]:Array Value))).get? av=some (seqObj "list" #[] e1):=⟨_,get?_update_seq hoL fun _=> #[]⟩
 have s1:=Heap.SameBut.update h1 av (Obj.mapSeq fun _=>(#[]:Array Value))
 unfold ksk_tree
 refine wpAny_bind (listItems_at hoL rfl (wpAny_bind (listUpdate_at hoL rfl (wpAny_bind (seqEpoch_at ho1 rfl ?_)) (by rw[List.size_toArray];exact hz') cJ)))
 refine wpAny_bind (wpAny_newTuple (wpAny_bind (wpAny_newList (wpAny_holding ?_) cJ)) (by show its.length<=_;exact hz'))
 generalize hH:((h1.update av (Obj.mapSeq fun _=>(#[]:Array Value))).push on)=h2
 have hz2:h2.objs.size=s.heap.objs.size+3:=by rw[←hH,size_push',Heap.size_update,hz1]
 have keep2:∀x o,s.heap.get? x=some o->(h2.push bh).get? x=some o:=fun x o e=>by
  have hlt:x<s.heap.objs.size:=Heap.lt_size e
  rw[←hH]
  exact Heap.get?_push_of_some _ (Heap.get?_push_of_some _ ((s1.2 x mn).trans (keep x o e)))
 have gD:(h2.push bh).get? av=some (seqObj "list" #[] e1):=by
  rw[←hH];exact Heap.get?_push_of_some _ (Heap.get?_push_of_some _ ho1)
 have gK:(h2.push bh).get? h2.objs.size=some bh:=Heap.get?_push_size _ rfl
 show wpAny aO A.in1.in1 (ksk_rest av (.ref q) b its.toArray e1 (.ref h2.objs.size)) _ _ jG
 have J0:J 0 av h2.objs.size jG:=j0 av h2.objs.size _ aa aa keep2
 have ne:s.heap.objs.size+1≠h2.objs.size:=by omega
 generalize h2.objs.size=kS at *
 generalize s.heap.objs.size+1=D at *
 unfold ksk_rest
 refine wpAny_bind (wpAny_rule ?_)
 rw[List.forIn_toArray]
 refine wpAny_bind (ksk_fold (fun i s'=>J i D kS s'/\∃kvs e,kvs.length=i/\(∀j,j<i->∃t,kvs.getD j .none= .int iN t)/\s'.heap.get? kS=some oN/\s'.heap.get? D=some (seqObj "list" #[] e1)) its 0 _ ⟨J0,[],0,rfl,fun j hj=>by omega,gK,gD⟩ (fun j u s' hu hI=>?_) (fun s' hI=>?_))
 .obtain⟨Jj,kvs,e,k1,k2,k3,k4⟩:=hI
  rw[Nat.zero_add]at *
  have hju:j<its.length:=(List.getElem?_eq_some_iff.mp hu).1
  refine wpAny_bind (wpAny_attempt (wpAny_mono (jt j D kS u s' _ _ hu Jj k3 k4) (fun k s'' z=>?_) fun _ _ z=>z.elim))
  obtain⟨⟨t,rfl⟩,J1,g3,g4⟩:=z
  try dsimp only
  have s3:=Heap.SameBut.update s''.heap kS (Obj.mapSeq (·.push oj))
  obtain⟨e3,he3⟩:∃e3,(s''.heap.update kS (Obj.mapSeq (·.push oj))).get? kS=some (seqObj "list" (kvs++ [Value.int iN t]).toArray e3):=by
   have:=get?_update_seq g3 (·.push oj)
   rw[show kvs.toArray.push oj=(kvs++ [Value.int iN t]).toArray by simp]at this
   exact⟨_,this⟩
  refine wpAny_bind (listUpdate_at g3 rfl (wpAny_pure ⟨rfl,jk _ _ _ _ _ J1 (fun x o hx ho=>(s3.2 x hx).trans ho),kvs++ [Value.int iN t],e3,by simp[k1],fun i hi=>?_,he3,(s3.2 D ne).trans g4⟩) (by rw[List.size_toArray,sizeLine_eq];omega) (by rw[Array.size_push,List.size_toArray,sizeLine_eq];omega))
  .by_cases q:i=j
   .subst q
    exact⟨t,by simp[List.getD,List.getElem?_append_right (Nat.le_of_eq k1),k1]⟩
   .obtain⟨t',e'⟩:=k2 i aa
    exact⟨t',by rw[←e'];simp[List.getD,List.getElem?_append_left (show i<kvs.length by omega)]⟩
 .obtain⟨Jn,kvs,e,k1,k2,k3,k4⟩:=hI
  rw[Nat.zero_add]at *
  try dsimp only
  refine wpAny_bind (listItems_at k3 rfl ?_)
  exact QpM nd hz k1 k2 ne k3 k4 fun h' c kp hc=>⟨_,rfl,wpAny_pure ⟨_,rfl,fin D kS s' h' c Jn kp hc⟩⟩
end
end TSrt
namespace L2
open PySem PySem.Spec PyProof.Rows
section
variable {X:Cx}{pins:List (Addr×Obj)}{σ:St}{H:Hp}{s:Shared}{h':Heap}
theorem Inv.track {t':Nat}{fp:List Addr}{D:Addr}{o:HO}(I:Inv X pins σ H s)(hD:D∈fp)(k:∀b u,b∉fp->s.heap.get? b=some u->h'.get? b=some u)(hf:∀b∈fp,FpOk X pins H b)
  (new:ObjOk X.prog X.w (upd H D o) h' D o):Inv X pins σ (upd H D o) {s with heap:=h',toks:=t'}:=by
 have nit:∀b u,H b=some u->b∉fp:=fun b u e z=>by rw[(hf b z).1]at e;cases e
 have nD:∀b u,H b=some u->b≠D:=fun b u e z=>nit b u e (z▸hD)
 refine I.step (g':=s.gens) (d':=s.drawn) (ch:=fp) (fun b hb=>?_) (fun b u _ _ hc e _=>k b u hc e) (fun b u _ _ hc e _=>⟨u.slots,k b u hc e⟩) (fun b u hc _ n=>by rw[Qv (fun z:b=D=>hc (by rw[z];exact hD))];exact n)
  (fun b u hc e=>⟨u,k b u hc e⟩) (fun b _ e=>by rw[Qv uw];exact e) (fun b _ _ e=>by rw[Qv uw];exact e) (fun b ps e=>⟨#[],by rw[Qv uw,e];simp⟩) (fun m hm=>?_) (fun b u e=>?_) I.bare
 .obtain⟨f0,f1,f2,f3,f4,f5⟩:=hf b hb
  exact⟨f3,f1,f4,f5⟩
 .obtain⟨ob,es,ep,ho,r⟩:=hm
  exact⟨ob,es,ep,k _ ob (fun z=>(hf _ z).2.1 rfl) ho,r⟩
 .by_cases hb:b=D
  .subst hb;rw[QN]at e;cases e;exact new
  .rw[Qv hb]at e
   refine(I.hok b u e).stay (fun c v hc q=>k c v ?_ q) (fun c q=>by rw[Qv (nD c _ q)];exact q) fun c xs q=>by rw[Qv (nD c _ q)];exact q
   rcases hc with z|z
   .rw[z];exact nit b u e
   .exact nit c _ z
end
end L2
namespace L3
open PySem L2 TSrt
open PyProof.Rows (boot_sorted callWith_kw kws_cons kws_nil Constant_bool)
section
variable {X:Cx}{K:PySem.W.Frag}{F0 H0:Hp}{Ψ:Psi}
theorem QnG {k:Nat}{f:Addr}{fd:FuncData}{ps:List Str}{φ:List D->R}(Fk:FnOk X.prog X.w X.K X.mg X.base CX0 k f fd ps (spV0 X.K φ 1))(hr:Room (k+1) X.A)(hb:Binds X.K fd ps [])
  {pins:List aB} {σ:St} {F H:Hp} {s:Shared} {x:Value} {v:V} {d:D} {n:Int} (I:Inv X pins σ H s) (sub:Same F H) (rv:Rep X.K F d v) (rel:RelV v x) (hφ:φ [d]= .ok .fz jE):
  wpAny am X.A.in1.in1 (PySem.call ca [x]) (fun u s'=>∃t F' H',u= .int n t/\Inv X pins σ H' s'/\Step F H F' H'/\∀b o,s.heap.get? b=some o->FpOk X pins H b->s'.heap.get? b=some o/\FpOk X pins H' b) (fun _ _=>False) s:=by
 have hr':Room k X.A.in1.in1:=⟨hr.hd,by have:=hr.dp;show X.A.depth+3*k+5<_;omega,by have:=hr.un;show X.A.units+1+1+16*k+200<_;omega,hr.gd⟩
 have sp:spV0 X.K φ 1 [v] H (fun u H'=>u= .int n/\∃F',Step F H F' H') E0:=⟨F,[d],sub, .cons rv .nil,rfl,by rw[hφ];exact⟨by simp,fun F' v H' p=>⟨p.val.rd.int,F',p.st⟩⟩⟩
 have hl:=Fk.len _ _ _ _ sp
 refine wpAny_call (codeAny_mono (Fk.run X.A.in1.in1 X.stack s H ⟨[x],[]⟩ [x] [v] _ E0 hr' I.env0.in1.in1 (by simpa using hb s [x] I.kIn (by simpa using hl)) (.cons rel .nil) sp) fun r s' hq=>?_)
 cases r with
 |error e=>exact hq
 |ok fl=>
  cases fl with
  |next=>exact hq
  |brk=>exact hq
  |cont=>exact hq
  |ret u=>
   obtain⟨v',H',os,bare,un,hok,r,rfl,F',st⟩:=hq
   obtain⟨t,rfl⟩:=r
   refine⟨t,F',H',rfl,I.call' (ch:= []) os un hok bare (fun b z=>absurd z al),st,fun b o hb fp=>?_⟩
   have nfr:b∉frs X.stack:=fun z=>by
    rcases List.mem_cons.mp (I.stkSub b z)with e|z
    .exact fp.2.1 e
    .exact fp.2.2.1 z
   exact⟨un.keep b o hb fp.1 nfr al,un.free b o hb fp.1 al,fp.2⟩
def intK (φ:List D->R)(d:D):Option Int:=match φ [d]with
 | .ok .fz (.int n)=>some n
 |_=>none
theorem QpN {φ:List D->R}{d:D}{n:Int}(h:intK φ d=some n):φ [d]= .ok .fz jE:=by
 unfold intK at h
 split at h
 .cases h;assumption
 .cases h
def QcW:List (Option Int)->Option (List Int)
 | []=>some []
 |some x::l=>(QcW l).map (x:: ·)
 |none::_=>none
theorem Qg4:∀{l:List (Option Int)} {ks:List Int} {i:Nat} {x:Option Int},QcW l=some ks->l[i]?=some x->x=some (ks.getD i 0)
 | [],_,_,_,_,h=>by simp at h
 |none::_,_,_,_,e,_=>by cases e
 |some y::l,ks,i,x,e,h=>by
  simp only[QcW]at e
  cases e1:QcW l with
  |none=>rw[e1]at e;cases e
  |some ks'=>
   rw[e1]at e;cases e
   cases i with
   |zero=>simp at h;subst h;rfl
   |succ i=>exact Qg4 (l:=l) (i:=i) e1 (by simpa using h)
def QjE (l:List Nat)(ds:List D):List D:=l.map fun i=>ds.getD i .non
def QeY (φ:List D->R)(b:Bool)(ds:List D):R:=match QcW (ds.map (intK φ)),QdF ds with
 |some ks,some kl=>if kl.Nodup/\ds.length<=100000 then .ok .ow (.lst (QjE (srtB ltI b (fun i=>ks.getD i 0) ds.length) ds))else .no
 |_,_=> .no
def Qkh (φ:List D->R)(b:Bool):R->R
 | .ok _ (.lst ds)=>QeY φ b ds
 | .ok _ (.scr ds)=>QeY φ b ds
 | .ex C=> .ex C
 |_=> .no
def Qki (φ:List D->R)(b:Bool)(f:Ev->R)(ev:Ev):R:=Qkh φ b bS
theorem Reps.pick {F:Hp}{ds:List D}{vs:List V}(r:Reps K F ds vs):∀{l:List Nat},(∀i∈l,i<ds.length)->Reps K F (QjE l ds) (l.map fun i=>vs.getD i .non)
 | [],_=> .nil
 |i::l,h=>by
  have hi:=h i al
  obtain⟨v,e,rv⟩:=r.get (List.getElem?_eq_getElem hi)
  refine .cons ?_ (Reps.pick r fun j hj=>h j (by simp[hj]))
  have e1:ds.getD i .non=ds[i]:=by simp[hi]
  have e2:vs.getD i .non=v:=by simp[e]
  show Rep K F (ds.getD i .non) (vs.getD i .non)
  rw[e1,e2];exact rv
theorem Vals.pick {vs:List V}{us:List Value}(r:Vals vs us):∀{l:List Nat},(∀i∈l,i<vs.length)->Vals (l.map fun i=>vs.getD i .non) (l.map fun i=>us.getD i .none)
 | [],_=> .nil
 |i::l,h=>by
  have hi:=h i al
  obtain⟨u,e,rv⟩:=r.get (List.getElem?_eq_getElem hi)
  refine .cons ?_ (Vals.pick r fun j hj=>h j (by simp[hj]))
  have e1:vs.getD i .non=vs[i]:=by simp[hi]
  have e2:us.getD i .none=u:=by simp[e]
  show L2.RelV (vs.getD i .non) (us.getD i .none)
  rw[e1,e2];exact rv
theorem Qla {F:Hp}{ds:List D}{kl:List bR}{vs:List V}{us:List Value}(hk:QdF ds=some kl)(nd:kl.Nodup)(r:Reps K F ds vs)(rv:Vals vs us):us.Nodup:=by
 obtain⟨h1,h2⟩:=QhC hk r
 have inj:∀a b:Key,kV a=kV b->a=b:=fun a b e=>by
  cases a<;>cases b<;>first|(cases e;rfl)|cases e
 refine List.pairwise_iff_getElem.mpr fun i j hi hj hij e=>?_
 have hiv:i<vs.length:=by rw[rv.length];exact hi
 have hjv:j<vs.length:=by rw[rv.length];exact hj
 obtain⟨b1,k1,a1,a2,a3⟩:=h2 i vs[i] (List.getElem?_eq_getElem hiv)
 obtain⟨b2,k2,c1,c2,c3⟩:=h2 j vs[j] (List.getElem?_eq_getElem hjv)
 obtain⟨u1,e1,r1⟩:=rv.get (List.getElem?_eq_getElem hiv)
 obtain⟨u2,e2,r2⟩:=rv.get (List.getElem?_eq_getElem hjv)
 rw[a1]at r1
 rw[c1]at r2
 have r1:u1= .ref b1:=r1
 have r2:u2= .ref b2:=r2
 rw[List.getElem?_eq_getElem hi]at e1
 rw[List.getElem?_eq_getElem hj]at e2
 have e1:us[i]=u1:=Option.some.inj e1
 have e2:us[j]=u2:=Option.some.inj e2
 rw[e1,e2,r1,r2]at e
 have eb:b1=b2:=by injection e
 subst eb
 rw[a3]at c3
 have ek:k1.map kV=k2.map kV:=by injection c3 with z;injection z
 have ek:k1=k2:=List.map_inj_right inj|>.mp ek
 subst ek
 have hik:i<kl.length:=by omega
 exact absurd ((List.getElem?_inj hik nd).mp uG) aa
theorem Qlb {k:Nat}{φ:List D->R}{b:Bool}{kd:Kd}{d:D}{kw:List dH}{fa:Addr}{fd:FuncData}{ps:List Str}(Fk:FnOk X.prog X.w X.K X.mg X.base CX0 k fa fd ps (spV0 X.K φ 1))(hb:Binds X.K fd ps [])(hr:Room (k+1) X.A)
  (hs1:∀a:Addr,argsOk "sorted" ⟨[.ref a],kw⟩) (hs2:∀a:Addr,argsOk "list.sort" ⟨[.ref a],kw⟩) (hs3:∀a:Addr,Builtin.«list.sort» ⟨[.ref a],kw⟩=PyProof.Rows.ksk_tree a gL b)
  {pins:List aB} {s1:Shared} {σ:St} {F H F1 H1:Hp} {Q:VK} {x':V} {u:Value} (I1:Inv X pins σ H1 s1) (p1:Post X.K F H kd d F1 x' H1) (ru:L2.RelV x' u)
  (m:match Qkh φ b (.ok kd d)with
    | .ok k d=>∀F' v H',Post X.K F H k d F' v H'->Q v H'
    | .ex C=>∀F' H',Step F0 H0 F' H'->Ψ C H'
    | .no=>False):
  wpAny am X.A (PySem.call gr [u] kw) (fun v s2=>∃y H',Inv X pins σ H' s2/\L2.RelV y v/\Q y H') X.xe s1:=by
 obtain⟨ds,a,vs,rfl,ha,hrs,m⟩:∃(ds:List D) (a:Addr) (vs:List V),x'= .ref a/\SqL X.K H1 a vs/\Reps X.K F1 ds vs/\(match QeY φ b ds with
   | .ok k d=>∀F' v H',Post X.K F H k d F' v H'->Q v H'
   | .ex C=>∀F' H',Step F0 H0 F' H'->Ψ C H'
   | .no=>False):=by
  cases d with
  |lst ds=>
   obtain⟨a,vs,ex,ha,hr⟩:=p1.val.rd.lst p1.st.sub
   exact⟨ds,a,vs,ex,SqL.of ha,hr,m⟩
  |scr ds=>
   obtain⟨a,vs,ex,ha,hr⟩:=p1.val.rd.scr p1.st.sub
   exact⟨ds,a,vs,ex,ha,hr,m⟩
  |_=>exact m.elim
 unfold QeY at m
 cases q1:QcW (ds.map (intK φ))with
 |none=>rw[q1]at m;exact m.elim
 |some ks=>
  rw[q1]at m
  cases q2:QdF ds with
  |none=>rw[q2]at m;exact m.elim
  |some kl=>
   rw[q2]at m
   dsimp only at m
   by_cases hc:kl.Nodup/\ds.length<=100000
   .rw[if_pos hc]at m
    have ru:u= .ref a:=ru
    subst ru
    obtain⟨its,rv,pl,hz⟩:=I1.list ha
    have hn:its.length=ds.length:=by rw[←rv.length,hrs.length]
    have nd:=Qla q2 hc.1 hrs rv
    refine Qk9 (hs1 _) hs2 hs3 (ks:=fun i=>ks.getD i 0) pl.isList aa nd (fun i D kS s'=>∃F' H',Inv X pins σ H' s'/\Step F1 H1 F' H'/\FpOk X pins H' D/\FpOk X pins H' kS) ?_ ?_ ?_ ?_
    .intro D kS h' hD hk kp
     have hDf:H1 D=none:=I1.hok.fresh hD
     have hKf:H1 kS=none:=I1.hok.fresh lG
     exact⟨F1,H1,I1.kept (t':=s1.toks) kp, .refl p1.st.sub,I1.fpOk hD hDf,I1.fpOk lG hKf⟩
    .rintro i D kS u s' ok od hu ⟨F',H',I',st',fD,fK⟩ gK gD
     have hi:i<ds.length:=by rw[←hn];exact(List.getElem?_eq_some_iff.mp hu).1
     have hiv:i<vs.length:=by rw[←hrs.length];exact hi
     obtain⟨v,ev1,rvv⟩:=hrs.get (List.getElem?_eq_getElem hi)
     obtain⟨u',eu,rel⟩:=rv.get ev1
     rw[hu]at eu
     cases eu
     have hφ:=QpN (Qg4 q1 (i:=i) (x:=intK φ ds[i]) (by simp[hi]))
     refine wpAny_mono (QnG Fk hr hb I' st'.sub (rvv.mono st'.up) rel hφ) (fun kv s'' z=>?_) fun _ _ z=>z
     obtain⟨t,F2,H2,rfl,I2,st2,kp⟩:=z
     obtain⟨k1,k2⟩:=kp kS ok gK fK
     obtain⟨k3,k4⟩:=kp D od gD fD
     exact⟨⟨t,rfl⟩,⟨F2,H2,I2,st'.trans st2,k4,k2⟩,k1,k3⟩
    .rintro i D kS s' h' ⟨F',H',I',st',fD,fK⟩ kp
     refine⟨F',H',I'.turnedL (t':=s'.toks) (fp:= [kS]) (fun b o hb e=>kp b o (by simpa using hb) e) (fun b hb=>?_),st',fD,fK⟩
     obtain rfl:b=kS:=by simpa using hb
     exact fK
    .rintro D kS s' h' c ⟨F',H',I',st',fD,fK⟩ kp hD
     rw[hn]at hD
     have lt:∀i∈srtB ltI b (fun i=>ks.getD i 0) ds.length,i<ds.length:=fun i hi=>QhF hi
     have vv:=Vals.pick rv (l:=srtB ltI b (fun i=>ks.getD i 0) ds.length) (fun i hi=>by rw[←hrs.length];exact lt i hi)
     have rr:=(hrs.mono st'.up).pick lt
     have I2:=I'.track (t':=s'.toks) (fp:= [D,kS]) (D:=D) (o:= .lst ((srtB ltI b (fun i=>ks.getD i 0) ds.length).map fun i=>vs.getD i .non)) al (fun b u hb e=>kp b u (fun z:b=kS=>hb (by simp[z])) (fun z:b=D=>hb (by simp[z])) e) (fun b hb=>by
      rcases List.mem_cons.mp hb with rfl|hb
      .exact fD
      .obtain rfl:b=kS:=by simpa using hb
       exact fK) ⟨by rw[List.length_map,show(srtB ltI b (fun i=>ks.getD i 0) ds.length).length=ds.length by
        unfold srtB;split
        .rw[List.length_reverse,List.length_map,(Qba ..).length_eq,List.length_range]
        .rw[(Qba ..).length_eq,List.length_range]];have:=QS;omega,_,_,vv,hD⟩
     refine⟨.ref D,_,I2,rfl,m F' lX _ ?_⟩
     have po:Post X.K F1 H1 .ow (.lst (QjE (srtB ltI b (fun i=>ks.getD i 0) ds.length) ds)) F' lX _:=Post.own st' fD.1 fun H2 hh=>⟨_,hh,rr⟩
     exact⟨p1.st.trans po.st,po.val.early p1.st.keep⟩
   .rw[if_neg hc]at m;exact m.elim
theorem QpO {k:Nat}{x:Str}{φ:List D->R}{b:Bool}{e:Expr}{f:Ev->R}{p pf kp1 kp2 pos pb:Pos}{cj}(C:Callee X.prog X.w X.K X.mg X.base k x 1 φ)(hr:Room (k+1) X.A)(hm:X.mg "sorted"=none)(he:VE X F0 H0 Ψ e f)
  (hg:Gl X "sorted":=by rfl) (hgx:Gl X x:=by rfl) (hdb:aJ=false:=by decide)
  (hs:starEach [e] X.env=(false,eval e X.env)::starEach [] X.env:=by rfl):
  VE X F0 H0 Ψ (.Call (.Name "sorted" p) [e] [⟨some (Str.ofString "key"), .Name x pf,kp1⟩,⟨some (Str.ofString "reverse"), .Constant qR cj pb,kp2⟩] pos) (Qki φ b f):=by
 obtain⟨fa,fd,ps,Fk,hb,hmx,hk⟩:=C.ex
 intro pins s σ H Q I h
 obtain⟨F,ev,fi,m⟩:=h
 unfold Qki at m
 refine wpAny_Call_Name_kw (QgR I hg hm boot_sorted ?_)
 cases h1:f ev with
 |no=>rw[h1]at m;exact m.elim
 |ex C=>
  rw[h1]at m
  refine callWith_kw (thn ((QbV he pa_nil hs) pos pins s σ H (fun _ _=>False) I ⟨F,ev,fi,by rw[h1];exact m⟩) fun us s1 ⟨vs,H1,I1,r,z⟩=>z.elim) (by rw[hs];rfl) (by rw[hs];rfl)
 |ok kd d=>
  rw[h1]at m
  refine callWith_kw (thn ((QbV he pa_nil hs) pos pins s σ H (fun us H1=>∃x F1,us= [x]/\Post X.K F H kd d F1 x H1) I ⟨F,ev,fi,by rw[h1];exact fun F1 x H1 p1=>⟨x,F1,rfl,p1⟩⟩) fun us s1 ⟨vs,H1,I1,r,x',F1,e1,p1⟩=>?_) (by rw[hs];rfl) (by rw[hs];rfl)
  subst e1
  obtain⟨u,rfl,ru⟩:=QkR r
  refine kws_cons (Qhp I1 hgx hmx (kws_cons (Constant_bool (kws_nil ?_))) hdb)
  show wpAny am X.A (PySem.call gr [u] [(Str.ofString "key", .ref fa),(Str.ofString "reverse", .bool b)]) _ _ s1
  exact Qlb Fk hb hr (fun _=>PyProof.Rows.ksk_s2 _ _ _) (fun _=>PyProof.Rows.ksk_l2 _ _ _) (fun _=>PyProof.Rows.ksk_t2 _ _ _) I1 p1 ru m
end
end L3
namespace TSrt
open PySem PySem.W PyProof.Rows PySem.Calls
def ltK:L2.Key->L2.Key->Bool
 | .inl x, .inl y=>decide (x<y)
 | .inr x, .inr y=>decide (x.cps.toList<y.cps.toList)
 | .inl _, .inr _=>true
 | .inr _, .inl _=>false
theorem QrR (x:L2.Key):ltK x x=false:=by
 cases x with
 |inl x=>simp[ltK]
 |inr x=>simp only[ltK,decide_eq_false_iff_not];exact List.lt_irrefl _
theorem Qoq {x y:L2.Key}(h:ltK x y=true):ltK y x=false:=by
 cases x<;>cases y<;>simp only[ltK,decide_eq_true_eq,decide_eq_false_iff_not,Bool.false_eq_true]at *
 .omega
 .exact List.lt_asymm h
theorem QjF {x y:L2.Key}(h1:ltK x y=false)(h2:ltK y x=false):x=y:=by
 cases x<;>cases y<;>simp only[ltK,decide_eq_false_iff_not,Bool.true_eq_false]at *
 .congr 1;omega
 .rename_i a b
  have:=List.le_antisymm (List.not_lt.mp h2) (List.not_lt.mp h1)
  obtain⟨a⟩:=a
  obtain⟨b⟩:=b
  have e:a=b:=Array.toList_inj.mp this
  rw[e]
theorem QrS {x y z:L2.Key}(h1:ltK x y=true)(h2:ltK y z=true):ltK x z=true:=by
 cases x<;>cases y<;>cases z<;>simp only[ltK,decide_eq_true_eq,Bool.false_eq_true]at *
 .omega
 .exact List.lt_trans h1 h2
def lexK:List L2.Key->List L2.Key->Bool
 |x::xs,y::ys=>if x=y then lexK xs ys else ltK x y
 | [],_::_=>true
 |_,[]=>false
theorem Qma:∀{x y:List L2.Key},lexK x y=true->lexK y x=false
 | [],[],h=>by simp[lexK]at h
 | [],_::_,_=>rfl
 |_::_,[],h=>by simp[lexK]at h
 |x::xs,y::ys,h=>by
  simp only[lexK]at h⊢
  by_cases e:x=y
  .rw[if_pos e]at h;rw[if_pos e.symm];exact Qma h
  .rw[if_neg e]at h;rw[if_neg (fun z=>e z.symm)];exact Qoq h
theorem Qmb:∀{x y z:List L2.Key},lexK y x=false->lexK z y=false->lexK z x=false
 | [],[],[],_,_=>rfl
 | [],[],_::_,_,_=>rfl
 | [],_::_,[],_,h=>by simp[lexK]at h
 | [],_::_,_::_,_,_=>rfl
 |_::_,[],_,h,_=>by simp[lexK]at h
 |_::_,_::_,[],_,h=>by simp[lexK]at h
 |x::xs,y::ys,z::zs,h1,h2=>by
  simp only[lexK]at h1 h2⊢
  by_cases e1:y=x
  .subst e1
   rw[if_pos rfl]at h1
   by_cases e2:z=y
   .rw[if_pos e2]at h2⊢;exact Qmb h1 h2
   .rw[if_neg e2]at h2⊢;exact h2
  .rw[if_neg e1]at h1
   by_cases e2:z=y
   .subst e2;rw[if_neg e1];exact h1
   .rw[if_neg e2]at h2
    have l1:ltK x y=true:=by
     cases q:ltK x y with
     |true=>rfl
     |false=>exact absurd (QjF h1 q) e1
    have l2:ltK y z=true:=by
     cases q:ltK y z with
     |true=>rfl
     |false=>exact absurd (QjF h2 q) e2
    have l3:=QrS l1 l2
    rw[if_neg (fun e=>by rw[e,QrR]at l3;cases l3)]
    exact Qoq l3
theorem swL:Swk lexK:=⟨Qma,Qmb⟩
def kin:L2.Key->Bool
 | .inl _=>true
 | .inr _=>false
def KRel (k:L2.Key)(u:Value):Prop:=L2.RelV (L2.kV k) u
def KRels:List L2.Key->List Value->Prop
 | [],us=>us= []
 |k::ks,us=>∃u r,us=u::r/\KRel k u/\KRels ks r
section
variable {prog:Program}{w:World}{A:Around}{s:Shared}
theorem Qor {Q:Bool->Shared->Prop}{b:Bool}:∀{ks js:List L2.Key} {us vs:List Value} (i:Nat),KRels ks us->KRels js vs->ks.map kin=js.map kin->(b=true->i=0->ks.head?.map kin=some true)->Q (lexK ks js) s->KatLex prog w A b false Q (us.zip vs) i s
 | [],[],us,vs,i,h1,h2,_,_,q=>by
  have:us= []:=h1
  subst this
  exact q
 | [],_::_,_,_,_,_,_,e,_,_=>by simp at e
 |_::_,[],_,_,_,_,_,e,_,_=>by simp at e
 |k::ks,j::js,us,vs,i,h1,h2,e,hb,q=>by
  obtain⟨u,us,rfl,r1,h1⟩:=h1
  obtain⟨v,vs,rfl,r2,h2⟩:=h2
  simp only[List.map_cons,List.cons.injEq]at e
  have next:k=j->KatLex prog w A b false Q (us.zip vs) (i+1) s:=fun z=>Qor (i+1) h1 h2 e.2 (fun _ z=>by omega) (by simp only[lexK,if_pos z]at q;exact q)
  have stop:k≠j->Q (ltK k j) s:=fun z=>by simp only[lexK,if_neg z]at q;exact q
  rw[List.zip_cons_cons]
  refine kat_cons ?_
  cases k with
  |inl x=>
   cases j with
   |inr y=>simp[kin]at e
   |inl y=>
    obtain⟨t1,rfl⟩:=r1
    obtain⟨t2,rfl⟩:=r2
    refine wpAny_eqBool_int ?_
    by_cases z:x=y
    .subst z
     rw[beq_self_eq_true]
     exact kat_yes (next rfl)
    .rw[beq_eq_false_iff_ne.mpr z]
     refine kat_no ?_
     have st:=stop (fun q=>z (by injection q))
     cases hbi:(b&&i==0)with
     |true=>exact oneLt_int st
     |false=>exact kat_one _ _ (PyProof.Rows.lt_int st)
  |inr x=>
   cases j with
   |inl y=>simp[kin]at e
   |inr y=>
    obtain⟨t1,rfl⟩:=r1
    obtain⟨t2,rfl⟩:=r2
    refine wpAny_eqBool_str ?_
    by_cases z:x=y
    .subst z
     rw[decide_eq_true rfl]
     exact kat_yes (next rfl)
    .rw[decide_eq_false z]
     refine kat_no ?_
     have st:=stop (fun q=>z (by injection q))
     have hbi:(b&&i==0)=false:=by
      cases b with
      |false=>rfl
      |true=>
       by_cases i0:i=0
       .have:=hb rfl i0;simp[kin]at this
       .simp[i0]
     rw[hbi]
     exact kat_one _ _ (PySem.P.lt_str st)
def IsT (h:Heap)(u:Value)(k:List L2.Key):Prop:=∃a o us n,u= .ref a/\h.get? a=some o/\o.cls= .type "tuple"/\o.data= .seq (List.toArray us) n/\KRels k us
theorem IsT.keep {h h':Heap}{u:Value}{k:List L2.Key}(x:IsT h u k)(e:∀a o,h.get? a=some o->h'.get? a=some o):IsT h' u k:=by
 obtain⟨a,o,us,n,h1,h2,h3⟩:=x;exact⟨a,o,us,n,h1,e a o h2,h3⟩
theorem KRels.len:∀{ks:List L2.Key} {us:List Value},KRels ks us->us.length=ks.length
 | [],_,h=>by have:_= []:=h;subst this;rfl
 |_::_,_,h=>by obtain⟨u,r,rfl,_,h⟩:=h;simp[h.len]
theorem QpP {u v:Value}{k j:List L2.Key}{E:Value->Shared->Prop}(h1:IsT s.heap u k)(h2:IsT s.heap v j)(e:k.map kin=j.map kin)(hh:k.head?.map kin=some true):
  wpAny aO A (keyLt' (tuples' true) u v) (fun b s'=>b=lexK k j/\s'=s) E s:=by
 obtain⟨a,oa,us,n,rfl,ha,_,hda,ra⟩:=h1
 obtain⟨b,ob,vs,m,rfl,hb,_,hdb,rb⟩:=h2
 refine kat_lt ha hda hb hdb ?_
 have el:us.length=vs.length:=by
  have:=congrArg List.length e
  rw[List.length_map,List.length_map]at this
  rw[ra.len,rb.len,this]
 have:decide ((List.toArray us).size<(List.toArray vs).size)=false:=by simp[el]
 rw[this]
 exact Qor 0 ra rb e (fun _ _=>hh) ⟨rfl,rfl⟩
theorem Qmc {its:List Value}{kl:Nat->List L2.Key}{E:Value->Shared->Prop}{Q:SortKind->Shared->Prop}(hn:0<its.length)(hk:∀i u,its[i]?=some u->IsT s.heap u (kl i)/\(kl i).head?.map kin=some true)(q:Q (tuples' true) s):
  wpAny aO A (keyKind' its.toArray) Q E s:=by
 have go:∀(r:List Value) (m:Nat),(∀i u,r[i]?=some u->IsT s.heap u (kl (m+i))/\(kl (m+i)).head?.map kin=some true)->∃fs:List Value,fs.length=r.length/\KatTups s.heap r fs/\∀v∈fs,∃x t,v= .int x t:=by
  intro r
  induction r with
  |nil=>intro m _;exact⟨[],rfl, .nil,fun v hv=>by simp at hv⟩
  |cons u r ih=>
   intro m h
   obtain⟨fs,f1,f2,f3⟩:=ih (m+1) fun i v hv=>by
    rw[show m+1+i=m+(i+1)by omega];exact h (i+1) v (by simpa using hv)
   obtain⟨⟨a,o,us,n,rfl,ho,hc,hd,hr⟩,hh⟩:=h 0 u rfl
   rw[Nat.add_zero]at hr hh
   cases q:kl m with
   |nil=>rw[q]at hh;simp at hh
   |cons k ks=>
    rw[q]at hr hh
    obtain⟨u0,us0,rfl,hu0,_⟩:=hr
    cases k with
    |inr _=>simp[kin]at hh
    |inl x=>
     obtain⟨t,rfl⟩:=hu0
     exact⟨.int x t::fs,by simp[f1], .cons ho hc hd rfl f2,fun v hv=>by
      rcases List.mem_cons.mp hv with rfl|hv
      .exact⟨x,t,rfl⟩
      .exact f3 v hv⟩
 obtain⟨fs,f1,f2,f3⟩:=go its 0 fun i u hu=>by rw[Nat.zero_add];exact hk i u hu
 refine kat_kind (T:= .type "int") f2 aa (fun v hv=>?_) rfl q
 obtain⟨x,t,rfl⟩:=f3 v hv
 exact Looks.of_pure rfl
theorem Qmd {E:Value->Shared->Prop}{l:Addr}{its:List Value}{kl:Nat->List L2.Key}{sh:List Bool}{Q:Value->Shared->Prop}(hl:s.heap.IsList l its.toArray)(hz:its.length<=1000000)(nd:its.Nodup)
  (hk:∀i u,its[i]?=some u->IsT s.heap u (kl i)/\(kl i).map kin=sh) (hh:sh.head?=some true)
  (fin:∀D h' c,s.heap.objs.size<=D->(∀x o,s.heap.get? x=some o->h'.get? x=some o)->h'.get? D=some (seqObj "list" ((srt lexK kl its.length).map fun i=>its.getD i .none).toArray c)->Q lX {s with heap:=h'}):
  wpAny aO A (call gr [.ref l]) Q E s:=by
 have hz':its.length<=sizeLine:=by rw[sizeLine_eq];omega
 have hd:∀i u,its[i]?=some u->(kl i).head?.map kin=some true:=fun i u hu=>by
  rw[←(hk i u hu).2]at hh
  rw[←List.head?_map];exact hh
 have hsz:((s.heap.push bh).update s.heap.objs.size (Obj.mapSeq (· ++its.toArray))).objs.size=s.heap.objs.size+1:=(Heap.size_update ..).trans (size_push' ..)
 have hoL:(((s.heap.push bh).update s.heap.objs.size (Obj.mapSeq (· ++its.toArray))).push bu).get? av=some bu:=hsz▸Heap.get?_push_size _ rfl
 have keep:∀x o,s.heap.get? x=some o->(((s.heap.push bh).update s.heap.objs.size (Obj.mapSeq (· ++its.toArray))).push bu).get? x=some o:=fun x o e=>by
  have hlt:x<s.heap.objs.size:=Heap.lt_size e
  exact Heap.get?_push_of_some _ ((Heap.get?_update_ne _ _ _ _ uU).trans (Heap.get?_push_of_some _ e))
 refine Calls.call_function_entry kind_sorted plain_sorted entry_sorted (args_sorted1 _) (show _ from ?_)
 unfold Builtin.«sorted»
 refine wpAny_bind (m:=checkCount "sorted" 1 1 _) (wpAny_pure (wpAny_bind (collect_list hl (wpAny_bind (wpAny_newList ?_ hz')) hz')))
 show wpAny _ _ _ _ _ (Shared.mk (((s.heap.push bh).update s.heap.objs.size (Obj.mapSeq (· ++its.toArray))).push bu) s.gens s.drawn s.toks s.os)
 rw[hsz]
 refine wpAny_bind (wpAny_holding (wpAny_call_entry slot_list_sort ⟨_,hoL,rfl⟩ entry_list_sort ?_ (args_list_sort _)))
 generalize hH:((s.heap.push bh).update s.heap.objs.size (Obj.mapSeq (· ++its.toArray))).push bu=h1 at *
 clear hH
 obtain⟨e1,ho1⟩:∃e1,(h1.update av (Obj.mapSeq fun _=>(#[]:Array Value))).get? av=some (seqObj "list" #[] e1):=⟨_,get?_update_seq hoL fun _=> #[]⟩
 have s1:=Heap.SameBut.update h1 av (Obj.mapSeq fun _=>(#[]:Array Value))
 rw[list_sort_plain]
 refine wpAny_bind (listItems_at hoL rfl (wpAny_bind (listUpdate_at hoL rfl (wpAny_bind (seqEpoch_at ho1 rfl ?_)) (by rw[List.size_toArray];exact hz') cJ)))
 refine wpAny_bind (wpAny_newTuple (wpAny_bind (wpAny_newList (wpAny_holding ?_) cJ)) (by show its.length<=_;exact hz'))
 generalize hH:((h1.update av (Obj.mapSeq fun _=>(#[]:Array Value))).push on).push bh=h2
 have keep2:∀x o,s.heap.get? x=some o->h2.get? x=some o:=fun x o e=>by
  have hlt:x<s.heap.objs.size:=Heap.lt_size e
  rw[←hH]
  exact Heap.get?_push_of_some _ (Heap.get?_push_of_some _ ((s1.2 x mn).trans (keep x o e)))
 have gD:h2.get? av=some (seqObj "list" #[] e1):=by
  rw[←hH];exact Heap.get?_push_of_some _ (Heap.get?_push_of_some _ ho1)
 clear hH
 have tail:∀st:SortSt,failedOf st=none->(arrOf st).map (·.2)=((srt lexK kl its.length).map fun i=>its.getD i .none).toArray->
   wpAny aO A.in1.in1 (do
    let touched:=(←seqEpoch av) !=e1
    Builtin.List.listUpdate (.ref av) fun _=>(arrOf st).map (·.2)
    if let some e:=failedOf st then rule "list.sort.comparison-raised";throw e
    if touched then
     rule "list.sort.modified"
     raiseError "ValueError" "list modified during sort"
    ret .none) (fun fin s'=>∃v,fin= .done (.ret v)/\(wpAny aO A.in1 (pure (.done (.ret (.ref av))):Sem PySem.Fin) (fun fin s'=>∃v,fin= .done (.ret v)/\Q v s') E s')) E lg:=fun st hf hout=>by
  have hlen:((srt lexK kl its.length).map fun i=>its.getD i .none).length=its.length:=by
   rw[List.length_map,(Qba ..).length_eq,List.length_range]
  rw[hout]
  obtain⟨c2,hc2⟩:∃c2,(h2.update av (Obj.mapSeq fun _=>((srt lexK kl its.length).map fun i=>its.getD i .none).toArray)).get? av=some (seqObj "list" ((srt lexK kl its.length).map fun i=>its.getD i .none).toArray c2):=⟨_,get?_update_seq gD fun _=>_⟩
  have s2:=Heap.SameBut.update h2 av (Obj.mapSeq fun _=>((srt lexK kl its.length).map fun i=>its.getD i .none).toArray)
  refine wpAny_bind (seqEpoch_at gD rfl (wpAny_bind (listUpdate_at gD rfl ?_ cJ (by rw[List.size_toArray,hlen,sizeLine_eq];omega))))
  rw[hf]
  simp only[bne_self_eq_false,Bool.false_eq_true,if_false]
  exact wpAny_pure ⟨_,rfl,wpAny_pure ⟨_,rfl,fin _ _ c2 (Nat.le_succ _) (fun x o e=>(s2.2 x (Nat.ne_of_lt (Nat.lt_succ_of_lt cO))).trans (keep2 x o e)) hc2⟩⟩
 show wpAny aO A.in1.in1 _ _ _ lg
 dsimp only
 by_cases hs:its.toArray.size<2
 .rw[if_pos hs,if_pos hs]
  rw[List.size_toArray]at hs
  refine wpAny_bind (wpAny_pure ?_)
  rw[StateT.run_pure]
  refine wpAny_bind (wpAny_pure (tail _ rfl ?_))
  rw[QiG hs,Qg3]
  apply Array.toList_inj.mp
  show((its.toArray.zip its.toArray).map (·.2)).toList=_
  rw[Array.toList_map,ksk_zip]
  exact List.map_snd_zip al
 .rw[if_neg hs,if_neg hs]
  rw[List.size_toArray]at hs
  refine wpAny_bind (Qmc (kl:=kl) aa (fun i u hu=>⟨(hk i u hu).1.keep keep2,hd i u hu⟩) ?_)
  refine wpAny_bind (wpAny_mono (Qke (lt:=lexK) (ks:=kl) (κ:=tuples' true) (G:=fun s'=>s'=Shared.mk h2 s.gens s.drawn s.toks s.os) swL rfl nd (fun i j hi hj s' g=>?_) rfl (Q:=fun _ st' s'=>failedOf st'=none/\(arrOf st').map (·.2)=((srt lexK kl its.length).map fun i=>its.getD i .none).toArray/\s'=Shared.mk h2 s.gens s.drawn s.toks s.os) fun st' s' z1 z2 z3=>⟨z1,z2,z3⟩) (fun r s' z=>?_) fun _ _ z=>z)
  .subst g
   have at_:∀i,i<its.length->its[i]?=some (its.getD i .none):=fun i hi=>by simp[hi]
   have a1:=hk i _ (at_ i hi)
   have a2:=hk j _ (at_ j hj)
   exact QpP (a1.1.keep keep2) (a2.1.keep keep2) (a1.2.trans a2.2.symm) (hd i _ (at_ i hi))
  .obtain⟨⟨⟩,st⟩:=r
   obtain⟨z1,z2,z3⟩:=z
   have z3:s'=Shared.mk h2 s.gens s.drawn s.toks s.os:=z3
   subst z3
   exact tail st z1 z2
end
end TSrt
namespace L3
open PySem L2 TSrt
def okSh:List bR->Bool
 | []=>true
 |k::r=>decide (k.head?.map kin=some true)&&r.all fun j=>decide (j.map kin=k.map kin)
theorem QpQ {kl:List bR}(h:okSh kl=true):∃sh:List Bool,sh.head?=some true/\∀(i:Nat) (k:List Key),kl[i]?=some k->k.map kin=sh:=by
 cases kl with
 |nil=>exact⟨[true],rfl,fun i k e=>by simp at e⟩
 |cons k r=>
  simp only[okSh,Bool.and_eq_true,decide_eq_true_eq,List.all_eq_true]at h
  refine⟨k.map kin,by rw[List.head?_map];exact h.1,fun i j e=>?_⟩
  cases i with
  |zero=>simp at e;rw[e]
  |succ i=>exact h.2 j (List.mem_of_getElem? (by simpa using e))
theorem Qkj:∀{k:List Key} {us:List Value},Vals (k.map kV) us->KRels k us
 | [],_,h=>by cases h;rfl
 |_::_,_, .cons r h=>⟨_,_,rfl,r,Qkj h⟩
section
variable {X:Cx}
def rSrt (K:PySem.W.Frag):List V->Hp->VK->Prop:=fun xs H Q=>∃(a:Addr) (vs:List V) (kl:List bR),xs= [.ref a]/\SqL K H a vs/\vs.length=kl.length/\vs.length<=100000/\(∀(i:Nat) v,vs[i]?=some v->∃b k,v= .ref b/\kl[i]?=some k/\H b=some dS)/\kl.Nodup/\okSh kl=true/\
 ∀p,H p=none->Q gZ (upd H p (.lst ((srt lexK (fun i=>kl.getD i []) vs.length).map fun i=>vs.getD i .non)))
theorem QnH:Qfw X gr (rSrt X.K):=by
 intro pins s σ H xs us Q I r h
 obtain⟨a,vs,kl,rfl,hq,hl,hb,hk,nd,hs,q⟩:=h
 obtain⟨u,rfl,ru⟩:=QkR r
 cases ru
 obtain⟨its,rv,pl,hz⟩:=I.list hq
 have hlen:=rv.length
 obtain⟨sh,s1,s2⟩:=QpQ hs
 have inj:∀a b:Key,kV a=kV b->a=b:=fun a b e=>by
  cases a<;>cases b<;>first|(cases e;rfl)|cases e
 have at_:∀(i:Nat) (u:Value),its[i]?=some u->∃b k,u= .ref b/\kl[i]?=some k/\H b=some dS:=fun i u hu=>by
  have hi:i<vs.length:=by rw[hlen];exact(List.getElem?_eq_some_iff.mp hu).1
  obtain⟨b,k,e1,e2,e3⟩:=hk i vs[i] (List.getElem?_eq_getElem hi)
  obtain⟨u',hu',r'⟩:=rv.get (List.getElem?_eq_getElem hi)
  rw[hu]at hu'
  cases hu'
  rw[e1]at r'
  exact⟨b,k,r',e2,e3⟩
 have ndv:its.Nodup:=by
  refine List.pairwise_iff_getElem.mpr fun i j hi hj hij e=>?_
  obtain⟨b1,k1,a1,a2,a3⟩:=at_ i its[i] (List.getElem?_eq_getElem hi)
  obtain⟨b2,k2,c1,c2,c3⟩:=at_ j its[j] (List.getElem?_eq_getElem hj)
  rw[a1,c1]at e
  have eb:b1=b2:=by injection e
  subst eb
  rw[a3]at c3
  have ek:k1.map kV=k2.map kV:=by injection c3 with z;injection z
  have ek:k1=k2:=List.map_inj_right inj|>.mp ek
  subst ek
  exact absurd ((List.getElem?_inj aa nd).mp uG) aa
 refine Qmd (kl:=fun i=>kl.getD i []) (sh:=sh) pl.isList aa ndv (fun i u hu=>?_) s1 fun D h' c hD kp hc=>?_
 .obtain⟨b,k,e1,e2,e3⟩:=at_ i u hu
  have ek:kl.getD i []=k:=by simp[e2]
  rw[ek]
  obtain⟨_,its',r',o,ho,hcl,n,hd⟩:=I.hok b _ e3
  exact⟨⟨b,o,its',n,e1,ho,hcl,hd,Qkj r'⟩,s2 i k e2⟩
 .rw[←hlen]at hc
  have vv:=Vals.pick rv (l:=srt lexK (fun i=>kl.getD i []) vs.length) fun i hi=>QeX hi
  have I2:=I.laid (t':=s.toks) (a:=D) (o:= .lst ((srt lexK (fun i=>kl.getD i []) vs.length).map fun i=>vs.getD i .non)) kp hD ⟨by rw[List.length_map,(Qba ..).length_eq,List.length_range];exact hz,_,_,vv,hc⟩
  exact⟨.ref D,_,I2,rfl,q D (I.hok.fresh hD)⟩
def QcX (ds:List D):R:=match QdF ds with
 |some kl=>if kl.Nodup/\okSh kl=true/\ds.length<=100000 then .ok .ow (.lst (QjE (srt lexK (fun i=>kl.getD i []) ds.length) ds))else .no
 |_=> .no
def QiH:R->R
 | .ok _ (.lst ds)=>QcX ds
 | .ok _ (.scr ds)=>QcX ds
 | .ex C=> .ex C
 |_=> .no
def QcY (f:Ev->R)(ev:Ev):R:=QiH bS
variable {F0 H0:Hp}{Ψ:Psi}
theorem QcZ {e:Expr}{f:Ev->R}{p pos:Pos}(hm:X.mg "sorted"=none)(he:VE X F0 H0 Ψ e f)
  (hg:Gl X "sorted":=by rfl) (h1:starEach [e] X.env=(false,eval e X.env)::starEach [] X.env:=by rfl):
  VE X F0 H0 Ψ (.Call (.Name "sorted" p) [e] [] pos) (QcY f):=
 (Qhs QnH hg hm PyProof.Rows.boot_sorted (QbV he pa_nil h1) ah ah h1).mono fun σ H Q h=>by
  obtain⟨F,ev,fi,m⟩:=h
  refine⟨F,ev,fi,?_⟩
  unfold QcY at m
  cases q1:f ev with
  |no=>rw[q1]at m;exact m
  |ex C=>rw[q1]at m;exact m
  |ok k d=>
   rw[q1]at m
   intro F1 x H1 p1
   obtain⟨ds,a,vs,rfl,ha,hr,m⟩:∃(ds:List D) (a:Addr) (vs:List V),x= .ref a/\SqL X.K H1 a vs/\Reps X.K F1 ds vs/\(match QcX ds with
     | .ok k d=>∀F' v H',Post X.K F H k d F' v H'->Q v H'
     | .ex C=>∀F' H',Step F0 H0 F' H'->Ψ C H'
     | .no=>False):=by
    cases d with
    |lst ds=>
     obtain⟨a,vs,ex,ha,hr⟩:=p1.val.rd.lst p1.st.sub
     exact⟨ds,a,vs,ex,SqL.of ha,hr,m⟩
    |scr ds=>
     obtain⟨a,vs,ex,ha,hr⟩:=p1.val.rd.scr p1.st.sub
     exact⟨ds,a,vs,ex,ha,hr,m⟩
    |_=>exact m.elim
   unfold QcX at m
   cases e1:QdF ds with
   |none=>rw[e1]at m;exact m.elim
   |some kl=>
    rw[e1]at m
    dsimp only at m
    by_cases hb:kl.Nodup/\okSh kl=true/\ds.length<=100000
    .rw[if_pos hb]at m
     obtain⟨g1,g2⟩:=QhC e1 hr
     have hl:=hr.length
     refine⟨a,vs,kl,rfl,ha,g1,by omega,fun i v hv=>?_,hb.1,hb.2.1,fun pp hp=>?_⟩
     .obtain⟨b,k',a1,a2,a3⟩:=g2 i v hv
      exact⟨b,k',a1,a2,p1.st.sub _ _ a3⟩
     .rw[←hl]
      have po:Post X.K F1 H1 .ow (.lst (QjE (srt lexK (fun i=>kl.getD i []) ds.length) ds)) F1 (.ref pp) (upd H1 pp (.lst ((srt lexK (fun i=>kl.getD i []) ds.length).map fun i=>vs.getD i .non))):=Post.own (.refl p1.st.sub) hp fun H2 hh=>⟨_,hh,hr.pick fun i hi=>QeX hi⟩
      exact m F1 (.ref pp) _ ⟨p1.st.trans po.st,po.val.early p1.st.keep⟩
    .rw[if_neg hb]at m;exact m.elim
end
end L3
namespace L3
open PySem L2 TSrt
def extR (i:Nat)(ds:List D)(ev:Ev):R->Fl
 | .ok _ (.lst es)=>if ds.length+es.length<LIM then .nx gE else .no
 | .ex C=> .ex C
 |_=> .no
def extG (i:Nat)(f:Ev->R)(ev:Ev):Fl:=match ev[i]? with
 |some (some (.ow, .lst ds))=>extR i ds ev bS
 |_=> .no
section
variable {X:Cx}{K:PySem.W.Frag}{F0 H0:Hp}{Ψ:Psi}{σ:St}{H:Hp}
theorem QpR {i:Nat}{f:Ev->R}{E:Ends}(q:tSv K F0 H0 Ψ (extG i f) E σ H):Qls (tBM K "list" QlH gk (QkX bH tNil)) E σ H:=by
 obtain⟨F,ev,fi,m⟩:=q
 unfold extG at m
 split at m
 .rename_i ds e
  obtain⟨a,vs,e1,h1,h2⟩:=fi.ow e
  refine⟨.ref a,e1, .inl ⟨rfl,vs,SqL.of h1⟩,F,ev,fi,?_⟩
  cases h3:f ev with
  |no=>rw[h3]at m;exact m
  |ex C=>rw[h3]at m;exact m
  |ok k d=>
   rw[h3]at m
   intro F1 y H1 p
   cases d with
   |lst es=>
    have m:FlowTo K F0 H0 Ψ F E (if ds.length+es.length<LIM then .nx gE else .no):=m
    by_cases hl:ds.length+es.length<LIM
    .rw[if_pos hl]at m
     obtain⟨b,ws,rfl,hb,hr⟩:=p.val.rd.lst p.st.sub
     refine⟨a,b,vs,ws,rfl,rfl,p.st.keep _ _ h1,hb,by rw[←h2.length,←hr.length];exact Nat.le_of_lt pM,?_⟩
     exact m F1 _ σ p.st.up ((fi.later p.st).mut e e1 fun H2 z=>⟨_,z,(h2.mono p.st.up).app hr⟩)
    .rw[if_neg hl]at m;exact m.elim
   |_=>exact m.elim
 .exact m.elim
variable {e:Expr}{f:Ev->R}{x:Str}{p apos cpos pos:Pos}
theorem QrT (i:Nat)(he:VE X F0 H0 Ψ e f)(hN:X.N[i]?=some x:=by rfl)(hv:Vis X.env.scope x:=by first|exact Or.inl rfl|exact Or.inr fE|exact Or.inr fC)(hd:aJ=false:=by decide)
  (hcd:(x==("__classdict__":Str))=false:=by decide) (hbase:attributeBase bz "extend" X.env oq=eval bz X.env:=by rfl)
  (hfew:((backTo cpos ut).all (fun x=> !x.1)&&(backToKw cpos dh).all (fun x=>x.1.isSome)
   &&decide ([e].length+([]:List Keyword).length+(if([]:List Keyword).isEmpty then 0 else 1)<30))=true:=by rfl)
  (hline:dz=true:=by rfl) (hs:starEach [e] X.env=(false,eval e X.env)::starEach [] X.env:=by rfl) (hplain:(backTo cpos iW).any (·.1)=false:=by rfl)
  (hsw:swapsWith k8 none pos.line X.env=pure false:=by rfl):
  VS X F0 H0 Ψ (.Expr k8 pos) (extG i f):=
 (Qhq (Qo0 PySem.F.plainAttrs_list PySem.F.slot_list_extend PySem.F.type_list_extend QlI fA uN hbase hfew hline hs hplain) hsw).mono fun _ _ _ q=>QpR q
theorem QrU:OpR X (compareOp .Is) (fun x y H Q=>∃a b,x= .bl a/\y= .bl b/\Q (.bl sV) H):=by
 intro pins s σ H x y v u Q I rx ry h
 obtain⟨a,b,rfl,rfl,q⟩:=h
 cases rx;cases ry
 refine wpAny_is_plain rfl (Qly I q ?_)
 cases a<;>cases b<;>rfl
def isBD:G2
 | .bl a, .bl b=>some (.fz, .bl sV)
 |_,_=>none
def Qt2:G2
 | .bl a, .bl b=>some (.fz, .bl (! sV))
 |_,_=>none
theorem QrV:OkOp K (fun x y H Q=>∃a b,x= .bl a/\y= .bl b/\Q (.bl sV) H) isBD:=by
 intro F H dx dy x y k d Q s rx ry e q
 first|unfold isBD at e|unfold Qt2 at e
 split at e<;>first|(cases e;done)|skip
 cases e
 exact⟨_,_,rx.bl,ry.bl,q F _ H ⟨.refl s,by rw[Val,Rep]⟩⟩
theorem Qt3:QcS X .Is isBD:=⟨_,QrU,QrV⟩
end
end L3
namespace L3
open PySem L2 TSrt
def less (F:Hp)(a:Addr):Hp:=fun b=>if b=a then none else F b
section
variable {X:Cx}{K:PySem.W.Frag}{F0 H0:Hp}{Ψ:Psi}{σ:St}{H:Hp}
end
section
variable {X:Cx}{F0 H0:Hp}{Ψ:Psi}{osc scope:Scope}{N:List Str}{target iter elt:Expr}{ifs:List Expr}{pos:Pos}{fi:Ev->RI}{b:B1}{f e:Ev->R}
end
end L3
namespace L3
open PySem L2
section
variable {X:Cx}{F0 H0:Hp}{g h:Ev->Fl}{st:Stmt}{sts rest:List Stmt}{pos:Pos}
variable {e0 e1 e2:Expr}{f0 f1 f2:Ev->R}{x1:ExprCtx}
end
section
variable {P:Program}{w:World}{K:PySem.W.Frag}{mg:Str->Option Value}{base:Heap}
end
section
variable {X:Cx}{K:PySem.W.Frag}{F0 H0 Fb Hb F H F' H':Hp}{Ψ:Psi}{i:Nat}{l:List D}{ev:Ev}{σ:St}
variable {k n:Nat}{x y:Str}{φ:List D->R}{p p' pos pos':Pos}{e:Expr}{es:List Expr}{fs:Ev->RA}{sts body:List Stmt}{h g:Ev->Fl}
theorem QrW {vs:List V}{j:Nat}{v:V}(h:vs[j]?=some v):atI vs (j:Int)=some v:=by
 have hl:j<vs.length:=(List.getElem?_eq_some_iff.mp h).1
 unfold atI ixN
 rw[List.getElem?_eq_getElem hl]at h
 simp[hl];exact Option.some.inj h
variable {ji:Int}{kk:Nat}{q1 q2 q3 q4 q5 apos cpos:Pos}
end
end L3
namespace L3
open PySem L2 PySem.SeqAt
def cntD (xs:List D)(b:D):Option bm:=match pyL xs,py b with
 |some qs,some p=>if p.depth<=DEEP then some (.fz, .int ((qs.countP fun q=>q.eqv p:Nat):Int))else none
 |_,_=>none
def QpS (xs:List D):R->R
 | .ok _ d=>toR (cntD xs d)
 | .ex C=> .ex C
 | .no=> .no
def cntR:R->R->R
 | .ok _ (.lst xs),r=>QpS xs r
 | .ex C,_=> .ex C
 |_,_=> .no
def eCnt (f1 f2:Ev->R)(ev:Ev):R:=cntR jL iZ
section
variable {X:Cx}{F0 H0:Hp}{Ψ:Psi}{a b:Expr}{f1 f2:Ev->R}{apos cpos:Pos}
def rCnt (K:PySem.W.Frag):V->List V->Hp->VK->Prop:=fun x vs H Q=>∃xs dy y n,vs= [y]/\Rep K H aH x/\Rep K H dy y/\cntD xs dy=some (.fz, .int n)/\Q jE H
theorem QrX (hu:X.A.units+100<cLine):MtR X "list.count" (rCnt X.K):=by
 intro pins s σ H x vs v us Q I rx rv h
 obtain⟨xs,dy,y,n,rfl,hx,hy,e,q⟩:=h
 obtain⟨u,rfl,ru⟩:=rv.one
 unfold cntD at e
 split at e
 .rename_i qs p e1 e2
  split at e
  .rename_i hd
   have e':((qs.countP fun q=>q.eqv p:Nat):Int)=n:=by injection e with e;injection e with _ e;injection e
   obtain⟨as,r1,c1⟩:=hx.reads I rx (show py aH=some (.list qs)by rw[py,e1];rfl)
   obtain⟨bs,r2,c2⟩:=hy.reads I ru e2
   have c1:PyData.canLayAll0 qs=true:=by simpa[PyData.canLay0]using c1
   cases r1 with
   |list h1 h2 h3 h4=>
    rename_i l o n' its as'
    obtain⟨cls,dd,data,sl⟩:=o
    simp only at h2 h3
    subst h2 h3
    refine call_meets PySem.F.slot_list_count ⟨_,h1,rfl⟩ PySem.F.entry_list_count (PySem.F.args_list_count_2 _ _) (list_countAt _ _ _ dd sl u (fun y=>PyData.eqv (SeqAt.readOf s.heap y) p)) ⟨h1,?_,?_⟩
    .exact items_eqAt h4 r2 c1 c2 (by have:=Nat.min_le_right fS p.depth;unfold DEEP at hd;show _+1+_<_;first|omega|(simp only[Around.under,Around.units]at *;omega))
    .have ec:((n'.toList.countP (fun y=>PyData.eqv (readOf s.heap y) p):Nat):Int)=n:=by
      rw[←e',←readsAll_map qs _ _ c1 h4,List.countP_map];rfl
     rw[ec]
     exact⟨.int n,H,I.tok _,⟨_,rfl⟩,q⟩
  .cases e
 .cases e
theorem QpT {K:PySem.W.Frag}{σ:St}{H:Hp}{Q:VK}(h:tV K F0 H0 Ψ (eCnt f1 f2) σ H Q):tBM K "list" (rCnt K) mD (QkX mC tNil) σ H Q:=by
 obtain⟨F,ev,fi,m⟩:=h
 unfold eCnt at m
 refine⟨F,ev,fi,?_⟩
 cases h1:f1 ev with
 |no=>rw[h1]at m;exact m
 |ex C=>rw[h1]at m;exact m
 |ok k1 a=>
  rw[h1]at m
  intro F1 x H1 p1
  cases a with
  |lst xs=>
   obtain⟨l,vs,rfl,hl,rs⟩:=p1.val.rd.lst p1.st.sub
   refine⟨.inl ⟨rfl,vs,SqL.of hl⟩,F1,ev,fi.later p1.st,?_⟩
   cases h2:f2 ev with
   |no=>rw[h2]at m;exact m
   |ex C=>rw[h2]at m;exact m
   |ok k2 b=>
    rw[h2]at m
    intro F2 y H2 p2
    have m:match toR (cntD xs b)with
     | .ok k d=>∀F' v H',Post K F H k d F' v H'->Q v H'
     | .ex C=>∀F' H',Step F0 H0 F' H'->Ψ C H'
     | .no=>False:=m
    cases h3:cntD xs b with
    |none=>rw[h3]at m;exact m.elim
    |some r=>
     have:∃n,r=(.fz, .int n):=by
      unfold cntD at h3
      split at h3
      .split at h3
       .cases h3;exact⟨_,rfl⟩
       .cases h3
      .cases h3
     obtain⟨n,rfl⟩:=this
     rw[h3]at m
     have st:=p1.st.trans p2.st
     refine⟨xs,b,y,n,rfl,?_,(p2.val.rd).rep p2.st.sub,h3,m F2 jE H2 ⟨st,by rw[Val,Rep]⟩⟩
     rw[Rep]
     exact⟨l,vs,rfl,p2.st.keep _ _ hl,rs.mono (p2.st.up.trans p2.st.sub)⟩
  |_=>exact m.elim
theorem Qt4 (hu:X.A.units+100<cLine)(ha:VE X F0 H0 Ψ a f1)(hb:VE X F0 H0 Ψ b f2)
  (hbase:attributeBase a "count" X.env (eval a X.env)=eval a X.env:=by rfl)
  (hfew:((backTo cpos (starEach [b] X.env)).all (fun x=> !x.1)&&(backToKw cpos dh).all (fun x=>x.1.isSome)
   &&decide ([b].length+([]:List Keyword).length+(if([]:List Keyword).isEmpty then 0 else 1)<30))=true:=by rfl)
  (hline:dz=true:=by rfl) (hs:starEach [b] X.env=(false,eval b X.env)::starEach [] X.env:=by rfl) (hplain:(backTo cpos iW).any (·.1)=false:=by rfl):
  VE X F0 H0 Ψ (.Call (.Attribute a "count" apos) [b] [] cpos) (eCnt f1 f2):=
 (Qo0 PySem.F.plainAttrs_list PySem.F.slot_list_count PySem.F.type_list_count (QrX hu) ha (QbV hb pa_nil hs) hbase hfew hline hs hplain).mono fun _ _ _ h=>QpT h
end
end L3
namespace L3
open PySem L2
section
variable {X:Cx}{F0 H0:Hp}{Ψ:Psi}{a b:Expr}{f1 f2:Ev->R}{p2 pos:Pos}
end
end L3
namespace L3
open PySem L2
theorem RdV.obj {K:PySem.W.Frag}{F H:Hp}{c:Str}{ns:List Str}{xs:List D}{v:V}(s:Same F H)(h:RdV K F H g8 v):
  ∃a C dx vs,v= .ref a/\PySem.W.nsIn K mainGlobals c=some eM/\H a=some kY/\ns.length=vs.length/\Reps K F xs vs:=by
 rcases h with h|⟨a,h1,h⟩
 .rw[Rep]at h
  obtain⟨a,C,dx,vs,h1,hc,h2,h3,h4⟩:=h
  exact⟨a,C,dx,vs,h1,hc,s _ _ h2,h3,h4⟩
 .obtain⟨C,dx,vs,hc,h2,h3,h4⟩:=h
  exact⟨a,C,dx,vs,h1,hc,h2,h3,h4⟩
theorem Qg5 {K:PySem.W.Frag}{F:Hp}{f:Str}{d:D}:∀{ns:List Str} {xs:List D} {vs:List V},Reps K F xs vs->(ns.zip xs).lookup f=some d->∃v,(ns.zip vs).lookup f=some v/\Rep K F d v
 | [],_,_,_,e=>by simp at e
 |_::_,[],_,_,e=>by simp at e
 |n::ns,x::xs,_,h,e=>by
  obtain⟨v,r,rfl,h1,h2⟩:=h.uncons
  simp only[List.zip_cons_cons,List.lookup_cons]at e⊢
  by_cases q:f==n
  .simp only[q]at e⊢
   cases e;exact⟨v,rfl,h1⟩
  .simp only[q]at e⊢
   exact Qg5 h2 e
theorem QbC {f:Str}:∀{ns:List Str} {vs:List V},f∉ns->(ns.zip vs).lookup f=none
 | [],_,_=>by simp
 |_::_,[],_=>by simp
 |n::ns,v::vs,h=>by
  simp only[List.zip_cons_cons,List.lookup_cons]
  have q:(f==n)=false:=by
   rw[beq_eq_false_iff_ne]
   rintro rfl;exact h List.mem_cons_self
  simp only[q]
  exact QbC fun m=>h pN
def fldR (cs:List Str)(f:Str):R->R
 | .ok _ (.obj c ns xs)=>if c∈cs then(match (ns.zip xs).lookup f with
  |some d=> .ok .fz d
  |none=> .no)else .no
 | .ok _ _=> .no
 | .ex C=> .ex C
 | .no=> .no
def eFld (cs:List Str)(f:Str)(g:Ev->R)(ev:Ev):R:=fldR cs f iO
def QaZ (K:PySem.W.Frag)(cs:List Str)(f:Str):Prop:=∀c∈cs,∃C,PySem.W.nsIn K mainGlobals c=some eM/\Cls K C/\NoAttr K C f
theorem Qbk {K:PySem.W.Frag}{f:Str}:QaZ K [] f:=fun _ h=>by simp at h
theorem Qau {K:PySem.W.Frag}{cs:List Str}{c f:Str}{C:Addr}(h:PySem.W.nsIn K mainGlobals c=some eM)(k:Cls K C)(n:NoAttr K C f)(r:QaZ K cs f):QaZ K (c::cs) f:=fun c' m=>by
 rcases List.mem_cons.mp m with rfl|m
 .exact⟨C,h,k,n⟩
 .exact r c' m
section
variable {X:Cx}{F0 H0:Hp}{Ψ:Psi}{e o:Expr}{es:List Expr}{f:Str}{cs:List Str}{g:Ev->R}{fs:Ev->RA}{pos p apos:Pos}
theorem Qea (h:QaZ X.K cs f)(he:VE X F0 H0 Ψ e g)(hb:attributeBase e f X.env gT=eval e X.env:=by rfl):VE X F0 H0 Ψ l5 (eFld cs f g):=by
 refine(Qq8 he hb).mono fun σ H Q q=>?_
 obtain⟨F,ev,fi,m⟩:=q
 refine⟨F,ev,fi,?_⟩
 unfold eFld at m
 cases h1:g ev with
 |no=>rw[h1]at m;exact m
 |ex C=>rw[h1]at m;exact m
 |ok k d=>
  rw[h1]at m
  intro F1 x H1 p1
  cases d with
  |obj c ns xs=>
   simp only[fldR]at m
   by_cases hc:c∈cs
   .rw[if_pos hc]at m
    obtain⟨a,C,dx,vs,rfl,hC,ha,hl,rs⟩:=p1.val.rd.obj p1.st.sub
    obtain⟨C',hC',cl,na⟩:=h c hc
    rw[hC]at hC';cases hC'
    cases q:(ns.zip xs).lookup f with
    |none=>rw[q]at m;exact m.elim
    |some d=>
     rw[q]at m
     obtain⟨v,e1,rv⟩:=Qg5 rs q
     exact⟨a,C,dx,_,v,rfl,ha,cl,na,e1,m F1 v H1 ⟨p1.st,rv⟩⟩
   .rw[if_neg hc]at m;exact m.elim
  |_=>exact m.elim
theorem QrY {K : PySem.W.Frag} {n : Nat} {φ : List D → R} {F H F1 H1 : Hp} {l : List (Kd × D)} {vs : List V} {Q : VK} {E : XK} (s : Step F H F1 H1) (va : ValA K F1 H H1 l vs) (m : match fnR n φ i9 with
      | .ok k d=>∀F' v H',Post K F H k d F' v H'->Q v H'
      | .ex C=>∀F' H',Step F0 H0 F' H'->Ψ C H'
      | .no=>False):spV0 K φ n vs H1 Q E:=by
 simp only[fnR]at m
 by_cases hn:l.length=n
 .rw[if_pos hn]at m
  cases h2:Qbf l with
  |some ds=>
   rw[h2]at m
   dsimp only at m
   have rs:=va.fz h2
   refine⟨F1,ds,s.sub,rs,by rw[rs.length,←va.length];exact hn,?_⟩
   cases h3:φ ds with
   |no=>rw[h3]at m;exact m
   |ex C=>rw[h3]at m;exact m.elim
   |ok k' d=>
    rw[h3]at m
    cases k' with
    |bo=>exact m.elim
    |fz=>exact⟨by simp,fun F' v H' p=>m F' v H' ⟨s.trans p.st,p.val.early s.keep⟩⟩
    |ow=>exact⟨by simp,fun F' v H' p=>m F' v H' ⟨s.trans p.st,p.val.early s.keep⟩⟩
  |none=>
   rw[h2]at m
   dsimp only at m
   have rs:=va.rds s.sub
   refine⟨H1,l.map (·.2), .refl _,rs,by simpa using hn,?_⟩
   cases h3:φ (l.map (·.2))with
   |no=>rw[h3]at m;exact m
   |ex C=>rw[h3]at m;exact m.elim
   |ok k' d=>
    rw[h3]at m
    have go:k'≠ .bo->(match (if Qjw d=true then R.ok .fz d else .no)with
     | .ok k d=>∀F' v H',Post K F H k d F' v H'->Q v H'
     | .ex C=>∀F' H',Step F0 H0 F' H'->Ψ C H'
     | .no=>False)->k'≠ .bo/\∀F' v H',Post K H1 H1 k' d F' v H'->Q v H':=fun nb m=>by
     by_cases hs:Qjw d=true
     .rw[if_pos hs]at m
      exact⟨nb,fun F' v H' p=>m F1 v H' ⟨s.trans ⟨.refl _,s.sub.trans p.st.keep,p.st.keep,fun a o e=> .inl e⟩,Qj9 hs p.val.rd⟩⟩
     .rw[if_neg hs]at m;exact m.elim
    cases k' with
    |bo=>exact m.elim
    |fz=>exact go al m
    |ow=>exact go al m
 .rw[if_neg hn]at m;exact m.elim
abbrev MTab:=List (Str×(List D->R))
def QcP (m:Str)(n:Nat)(tab:MTab)(r:R)(ra:RA):R:=match r with
 | .ok .fz (.obj c ns xs)=>if m∈ns then .no else match tab.lookup c with
  |some φ=>fnR n φ (Qiy rZ ra)
  |none=> .no
 | .ex C=> .ex C
 |_=> .no
def QcQ (m:Str)(n:Nat)(tab:MTab)(g:Ev->R)(fs:Ev->RA)(ev:Ev):R:=QcP m n tab iO eO
def Qaq (P:Program)(w:World)(K:PySem.W.Frag)(mg:Str->Option Value)(base:Heap)(k:Nat)(m:Str)(n:Nat)(tab:MTab):Prop:=
 ∀c φ,(c,φ)∈tab->∃C f fd ps,PySem.W.nsIn K mainGlobals c=some eM/\Cls K C/\Meth K C m f/\FnOk P w K mg base CX0 k f fd ps eX/\Binds K fd ps []
section
variable {P:Program}{w:World}{K:PySem.W.Frag}{mg:Str->Option Value}{base:Heap}
theorem QhG {k n:Nat}{m:Str}:Qaq P w K mg base k m n []:=fun _ _ h=>by simp at h
theorem Qme {k j n:Nat}{m c:Str}{φ:List D->R}{tab:MTab}{C f:Addr}{fd:FuncData}{ps:List Str}(h:PySem.W.nsIn K mainGlobals c=some eM)(cl:Cls K C)(me:Meth K C m f)(F:FnOk P w K mg base CX0 j f fd ps eX)(hj:j<=k)(hb:Binds K fd ps [])
  (r:Qaq P w K mg base k m n tab):Qaq P w K mg base k m n ((c,φ)::tab):=fun c' φ' q=>by
 rcases List.mem_cons.mp q with q|q
 .cases q;exact⟨C,f,fd,ps,h,cl,me,F.mono hj,hb⟩
 .exact r c' φ' q
end
theorem Qdn {α:Type}{c:Str}{φ:α}:∀{tab:List (Str×α)},tab.lookup c=some φ->(c,φ)∈tab
 | [],h=>by simp at h
 |(d,ψ)::tab,h=>by
  simp only[List.lookup_cons]at h
  by_cases q:c==d
  .simp only[q]at h
   cases h
   rw[beq_iff_eq.mp q];exact List.mem_cons_self
  .simp only[q]at h
   exact List.mem_cons_of_mem _ (Qdn h)
def QrZ (G:Addr->Sp->Prop)(m:Str)(ta:TE)(t:TA):TE:=fun σ H Q=>ta σ H fun x H1=>∃a C dx fs sp,x= .ref a/\H1 a=some eG/\fs.lookup m=none/\G C sp/\t σ H1 fun vs H2=>sp (x::vs) H2 Q E0
theorem Qkk {G:Addr->Sp->Prop}{k:Nat}{m:Str}{ta:TE}{t:TA}{pl:Sem Bool}(he:PE X o ta)(hr:Room k X.A)(hG:∀C sp,G C sp->Cls X.K C/\∃f fd ps,Meth X.K C m f/\FnOk X.prog X.w X.K X.mg X.base CX0 k f fd ps sp/\Binds X.K fd ps [])(ha:PA X bd t)
  (hst:starEach bd X.env=(false,eval e X.env)::starEach es X.env:=by rfl) (hpl:(backTo pos aZ).any (·.1)=false:=by rfl)
  (ht:eval bZ X.env=(do
   let ov←eval o X.env
   standAt apos.atName
   let (f,first)←holding [ov] mj
   callWith pos f first hZ nk):=by rfl):
  PE X bZ (QrZ G m ta t):=by
 intro pins s σ H Q I h
 refine PySem.W.methodCall_KW (pl:=pl) (thn cq fun u s1 ⟨x,H1,I1,rx,a,C,dx,fs,sp,ex,ea,l,gq,q⟩=>?_) ht
 subst ex
 obtain rfl:u=Value.ref a:=rx
 obtain⟨c,f,fd,ps,hm,F,hb⟩:=hG C sp gq
 refine QkT I1 ea c hm l ?_
 refine PySem.W.callWith_K (first:= [.ref a]) (h₀:=X.base) I.ok.mod.kin hm.kp (thn (ha pos pins s1 σ H1 _ I1 q) fun us s2 ⟨vs,H2,I2,r,q2⟩=>⟨I2.kIn,?_⟩) hst hpl
 exact Qoj (us:= .ref a::us) (vs:= .ref a::vs) (dvs:= []) (ds:= []) F hr hb .nil Qnb I2 (.cons rfl r) (by rw[List.append_nil];exact q2)
theorem Qb8 {k n:Nat}{m:Str}{tab:MTab}{pl:Sem Bool}(D0:Qaq X.prog X.w X.K X.mg X.base k m n tab)(hr:Room k X.A)(he:VE X F0 H0 Ψ o g)(ha:VA X F0 H0 Ψ bd fs)
  (hst:starEach bd X.env=(false,eval e X.env)::starEach es X.env:=by rfl) (hpl:(backTo pos aZ).any (·.1)=false:=by rfl)
  (ht:eval bZ X.env=(do
   let ov←eval o X.env
   standAt apos.atName
   let (f,first)←holding [ov] mj
   callWith pos f first hZ nk):=by rfl):
  VE X F0 H0 Ψ bZ (QcQ m n tab g fs):=by
 refine(Qkk (G:=fun C sp=>∃c φ,(c,φ)∈tab/\PySem.W.nsIn X.K mainGlobals c=some eM/\sp=spV0 X.K φ n) he hr (fun C sp ⟨c,φ,q,hC,hs⟩=>?_) ha hst hpl ht).mono fun σ H Q q=>?_
 .obtain⟨C',f,fd,ps,h1,h2,h3,h4,h5⟩:=D0 c φ q
  rw[hC]at h1;cases h1
  subst hs
  exact⟨h2,f,fd,ps,h3,h4,h5⟩
 .obtain⟨F,ev,fi,mm⟩:=q
  refine⟨F,ev,fi,?_⟩
  unfold QcQ QcP at mm
  cases h1:g ev with
  |no=>rw[h1]at mm;exact mm
  |ex C=>rw[h1]at mm;exact mm
  |ok k' d=>
   rw[h1]at mm
   intro F1 x H1 p1
   cases k' with
   |ow=>exact mm.elim
   |bo=>exact mm.elim
   |fz=>
    cases d with
    |obj c ns xs=>
     dsimp only at mm
     by_cases hm:m∈ns
     .rw[if_pos hm]at mm;exact mm.elim
     .rw[if_neg hm]at mm
      cases q:tab.lookup c with
      |none=>rw[q]at mm;exact mm.elim
      |some φ=>
       rw[q]at mm
       have mm:match fnR n φ (Qiy rZ eO)with
        | .ok k d=>∀F' v H',Post X.K F H k d F' v H'->Q v H'
        | .ex C=>∀F' H',Step F0 H0 F' H'->Ψ C H'
        | .no=>False:=mm
       obtain⟨a,C,dx,vs,rfl,hC,ha',hl,rs⟩:=p1.val.rd.obj p1.st.sub
       refine⟨a,C,dx,_,spV0 X.K φ n,rfl,ha',QbC hm,⟨c,φ,Qdn q,hC,rfl⟩,F1,ev,fi.later p1.st,?_⟩
       cases h2:fs ev with
       |no=>rw[h2]at mm;exact mm
       |ex C=>rw[h2]at mm;exact mm
       |ok l=>
        rw[h2]at mm
        intro F2 us H2 s2 va
        exact QrY (F0:=F0) (H0:=H0) (Ψ:=Ψ) (l:=(frzK .fz, .obj c ns xs)::l) (p1.st.trans s2) ⟨_,us,rfl,by simp[frzK],p1.val.later s2,va.early p1.st.keep⟩ mm
    |_=>exact mm.elim
end
theorem QpU {P:Program}{w:World}{K:PySem.W.Frag}{mg:Str->Option Value}{base:Heap}{k n:Nat}{f:Addr}{fd:FuncData}{ps:List Str}{φ:List D->R}(h:∀ds,φ ds= .no):FnOk P w K mg base CX0 k f fd ps eX:=by
 refine⟨fun vs H Q E q=>?_,fun A outer s H args us vs Q E _ _ _ _ q=>?_⟩<;>
 .obtain⟨F,ds,_,_,_,m⟩:=q
  rw[h ds]at m
  exact m.elim
def Qay (ev:Ev):List eK->Option eT
 | []=>some []
 |f::fs=>match f ev with
  | .ok .bo _=>none
  | .ok _ d=>(Qay ev fs).map (d:: ·)
  |_=>none
def QiI (fs:List eK)(ds:List D):Option eT:=Qay (none::ds.map fun d=>some (.fz,d)) fs
def spI (K:PySem.W.Frag)(ns:List Str)(fs:List eK)(n:Nat):Sp:=fun vs H Q _=>∃F0 H0 x C dx ds rest ds',vs= .ref x::rest/\H=upd (upd H0 dx lY) x p9/\H0 x=none/\H0 dx=none/\dx≠x/\Same F0 H0/\Reps K F0 ds rest/\ds.length+1=n/\
 Cls K C/\(∀f∈ns,NoAttr K C f)/\QiI fs ds=some ds'/\∀F' H' vs',Step F0 H0 F' H'->F' x=none->H' x=some gv->Reps K F' ds' vs'->Q .non H'
def tI (K:PySem.W.Frag)(F0 H0:Hp)(x C dx:Addr)(ns:List Str)(fs:List eK):TS:=fun D σ H=>∃F ev ns0 vs0 ds',FI K F0 H0 F H ev σ/\(∀(i:Nat) k d,ev[i]?=some dM->k= .fz)/\σ[0]?=some (some kG)/\F x=none/\H0 x=none/\
 H x=some qQ/\ns0.length=vs0.length/\Cls K C/\(∀f∈ns,NoAttr K C f)/\(ns0++ns).Nodup/\(ns0++ns).length<1000/\Qay ev fs=some ds'/\
 ∀F' H' σ' vs',Step F0 H0 F' H'->F' x=none->Same F F'->H' x=some (.ins C dx ((ns0++ns).zip (vs0++vs')))->Reps K F' ds' vs'->D.nx σ' H'
section
variable {X:Cx}{F0 H0:Hp}{x C dx:Addr}{ns:List Str}{fs:List (Ev->R)}{f:Ev->R}{fld sl:Str}{e:Expr}{rest:List Stmt}{p apos pos:Pos}
theorem QiJ:PSs X [] (tI X.K F0 H0 x C dx [] []):=pss_nil.mono fun D σ H q=>by
 obtain⟨F,ev,ns0,vs0,ds',fi,hf,h0,hF,hH,hx,hl,cl,na,nd,hlen,e,m⟩:=q
 cases e
 exact m F H σ [] fi.st hF nX (by rw[List.append_nil,List.append_nil];exact hx) .nil
theorem Qkl {f:Str}{y:V}:∀{ns:List Str} {vs:List V},f∉ns->ns.length=vs.length->putF f y (ns.zip vs)=(ns++ [f]).zip (vs++ [y])
 | [],[],_,_=>rfl
 | [],_::_,_,h=>by simp at h
 |_::_,[],_,h=>by simp at h
 |n::ns,v::vs,h,hl=>by
  have q:¬n=f:=by rintro rfl;exact h List.mem_cons_self
  have i:=Qkl (f:=f) (y:=y) (ns:=ns) (vs:=vs) (fun m=>h pN) (by simpa using hl)
  simp only[List.zip_cons_cons,List.cons_append,putF,q,if_false,i]
theorem Qbl (he:VE X F0 H0 Psi0 e f)(hr:PSs X rest (tI X.K F0 H0 x C dx ns fs))(hN:X.N[0]?=some sl:=by rfl)(hv:Vis X.env.scope sl:=by first|exact Or.inl rfl|exact Or.inr fE|exact Or.inr fC)(hd:(sl==("__debug__":Str))=false:=by decide)
  (hcd:(sl==("__classdict__":Str))=false:=by decide) (hs:swapsWith e (some (.Attribute (.Name sl p) fld apos)) pos.line X.env=pure false:=by rfl):
  PSs X (.Assign [.Attribute (.Name sl p) fld apos] e pos::rest) (tI X.K F0 H0 x C dx (fld::ns) (f::fs)):=by
 refine(QM (Qq9 fA he hs) hr).mono fun D σ H q=>?_
 obtain⟨F,ev,ns0,vs0,ds',fi,hf,h0,hF,hH,hx,hl,cl,na,nd,hlen,e,m⟩:=q
 refine⟨F,ev,fi,?_⟩
 unfold Qay at e
 cases h1:f ev with
 |no=>rw[h1]at e;cases e
 |ex C=>rw[h1]at e;cases e
 |ok k d=>
  rw[h1]at e
  intro F1 y H1 p1
  have key:∀F1,Post X.K F H .fz d F1 y H1->(Qay ev fs).map (d:: ·)=some ds'->tVar 0 σ H1 fun x' H2=>∃a C1 dx1 gs,x'= .ref a/\H2 a=some (.ins C1 dx1 gs)/\Cls X.K C1/\NoAttr X.K C1 fld/\gs.length<1000/\
    tI X.K F0 H0 x C dx ns fs D σ (upd H2 a (.ins C1 dx1 (putF fld y gs))):=fun F1 p1 e=>by
   have hF1:F1 x=none:=p1.st.unfz hx hF
   have hx1:H1 x=some qQ:=p1.st.keep _ _ hx
   have fi1:=fi.later p1.st
   have hfn:fld∉ns0:=fun z=>(List.nodup_append.mp nd).2.2 fld z fld List.mem_cons_self rfl
   have hlen':(ns0.zip vs0).length<1000:=by
    rw[List.length_zip];simp only[List.length_append]at hlen;omega
   refine⟨.ref x,h0,x,C,dx,_,rfl,hx1,cl,na fld List.mem_cons_self,hlen',?_⟩
   cases e2:Qay ev fs with
   |none=>rw[e2]at e;cases e
   |some ds2=>
    rw[e2]at e;cases e
    refine⟨F1,ev,ns0++ [fld],vs0++ [y],ds2,⟨⟨fi1.st.up,fun b o q=>?_,fun b o q=>?_,fi1.st.new⟩,fun i k' d' q=>?_,fun i j d1 d2 hij q1 _=>?_,fi1.len⟩,hf,h0,hF1,hH,?_,by simp[hl],cl,fun g hg=>na g (List.mem_cons_of_mem _ hg),?_,?_,e2,fun F' H' σ' vs' st hn sm hh rs=>?_⟩
    .rw[Qv];exact fi1.sub _ _ q
     rintro rfl;rw[hF1]at q;cases q
    .rw[Qv];exact fi1.st.keep _ _ q
     rintro rfl;rw[hH]at q;cases q
    .obtain⟨nb,v,e3,hv'⟩:=fi1.at_ i k' d' q
     refine⟨nb,v,e3,?_⟩
     have:=hf i k' d' q;subst this
     exact hv'
    .have:=hf i _ _ q1;cases this
    .rw[QN,Qkl hfn hl]
    .rw[List.append_assoc];exact nd
    .rw[List.append_assoc];exact hlen
    .refine m F' H' σ' (y::vs') st hn (p1.st.up.trans sm) ?_ (.cons (p1.val.mono sm) rs)
     rw[List.append_assoc,List.append_assoc]at hh
     exact hh
  cases k with
  |bo=>cases e
  |fz=>exact key F1 p1 e
  |ow=>obtain⟨F2,p2⟩:=p1.frz;exact key F2 p2 e
end
section
variable {P:Program}{w:World}{K:PySem.W.Frag}{mg:Str->Option Value}{base:Heap}
structure FunD (K:PySem.W.Frag)(x qual:Str)(st:Stmt)(f:Addr)(dV:Value)(fd:FuncData):Prop where
 ex:∃(oc:Value) (od:Option Addr) (kV doc pm:Value) (an:Option Addr) (cdv ct:Value) (osl:Array fm),
  fd=PySem.W.fnOf x qual gX fP dP dV kV doc pm an cdv ct/\K.lookup f=some ⟨oc,od, .func fd,osl⟩/\PySem.W.codeIn K cdv qual=true
theorem QpV {x qual:Str}{st:Stmt}{f:Addr}{oc:Value}{od an:Option Addr}{osl:Array fm}{dV kV doc pm cdv ct:Value}(l:K.lookup f=some ⟨oc,od, .func iV,osl⟩)
  (c:PySem.W.codeIn K cdv qual=true):FunD K x qual st f dV iV:=⟨⟨oc,od,kV,doc,pm,an,cdv,ct,osl,rfl,l,c⟩⟩
theorem FunD.ok {x qual:Str}{st:Stmt}{f:Addr}{dV:Value}{fd:FuncData}{N ps:List Str}{k:Nat}{sp:Sp}(F:FunD K x qual st f dV fd)(S:FnScope N ps dP)(len:∀vs H Q E,sp vs H Q E->vs.length=ps.length)
  (hbody:∀(cdv:Value) (A:Around) (outer:List Env) (s:Shared) (H:Hp) (vs:List V) (Q:VK) (E:XK),Room k bU->sp vs H Q E->
   ∃t,PSs (cxOf CX0 P w K mg base N qual dP f cdv A outer s H E).nox fP t/\t {nx:=fun _ H'=>Q .non H',rt:=Q} gQ H):FnOk P w K mg base CX0 (k+1) f fd ps sp:=by
 obtain⟨oc,od,kV,doc,pm,an,cdv,ct,osl,rfl,lk,hcd⟩:=F.ex
 refine Qrd lk hcd S len fun A outer s H vs Q E hr hsp=>?_
 obtain⟨t,h,q⟩:=hbody cdv A outer s H vs Q E hr hsp
 exact⟨t,h.nox,q⟩
theorem QfN {x qual:Str}{st:Stmt}{f:Addr}{dV:Value}{fd:FuncData}{ps ns:List Str}{k:Nat}{fs:List eK}(F:FunD K x qual st f dV fd)(S:FnScope ps ps dP)(hnd:ns.Nodup)(hlen:ns.length<1000)
  (hb:∀(cdv:Value) (A:Around) (outer:List Env) (s:Shared) (H:Hp) (E:XK) (F0 H0:Hp) (o C dx:Addr),Room k bU->
   PSs (cxOf CX0 P w K mg base ps qual dP f cdv A outer s H E).nox fP (tI K F0 H0 o C dx ns fs)):
  FnOk P w K mg base CX0 (k+1) f fd ps (spI K ns fs ps.length):=by
 refine F.ok S (fun vs H Q E h=>?_) (fun cdv A outer s H vs Q E hr h=>?_)
 .obtain⟨F0,H0,x,C,dx,ds,rest,ds',rfl,_,_,_,_,_,r,hl,_⟩:=h
  rw[List.length_cons,←r.length];exact hl
 .obtain⟨F0,H0,x,C,dx,ds,rest,ds',rfl,hH,hx,hdx,hne,sub,r,hl,cl,na,e,m⟩:=h
  refine⟨_,hb cdv A outer s H E F0 H0 x C dx hr,F0,none::ds.map (fun d=>some (.fz,d)),[],[],ds',⟨⟨.refl _,fun b o q=>?_,fun b o q=>?_,fun a o q=> .inl q⟩,fun i k' d q=>?_,fun i j d1 d2 hij q1 _=>?_,?_⟩,fun i k' d q=>?_,?_,?_,hx,?_,rfl,cl,na,hnd,hlen,e,fun F' H' σ' vs' st hn _ hh rs=>m F' H' vs' st hn hh rs⟩
  .have:=sub _ _ q
   subst hH
   rw[Qv,Qv];exact this
   .rintro rfl;rw[hdx]at this;cases this
   .rintro rfl;rw[hx]at this;cases this
  .subst hH
   rw[Qv,Qv];exact q
   .rintro rfl;rw[hdx]at q;cases q
   .rintro rfl;rw[hx]at q;cases q
  .cases i with
   |zero=>simp at q
   |succ i=>
    rw[List.getElem?_cons_succ,List.getElem?_map]at q
    cases z:ds[i]? with
    |none=>rw[z]at q;cases q
    |some d0=>
     rw[z]at q;cases q
     obtain⟨v,e1,rv⟩:=r.get z
     refine⟨by simp,v,?_,rv⟩
     unfold L2.start
     have hi:i+1<((V.ref x::rest).map some).length:=by
      simp only[List.map_cons,List.length_cons,List.length_map]
      have:=(List.getElem?_eq_some_iff.mp e1).1;omega
     rw[List.getElem?_append_left hi,List.map_cons,List.getElem?_cons_succ,List.getElem?_map,e1]
     rfl
  .cases i with
   |zero=>simp at q1
   |succ i=>
    rw[List.getElem?_cons_succ,List.getElem?_map]at q1
    cases z:ds[i]? with
    |none=>rw[z]at q1;cases q1
    |some d0=>rw[z]at q1;cases q1
  .have:=r.length
   unfold L2.start
   simp only[List.length_cons,List.length_append,List.length_map,List.length_replicate];omega
  .cases i with
   |zero=>simp at q
   |succ i=>
    rw[List.getElem?_cons_succ,List.getElem?_map]at q
    cases z:ds[i]? with
    |none=>rw[z]at q;cases q
    |some d0=>rw[z]at q;cases q;rfl
  .unfold L2.start;rfl
  .exact sub.free hx
  .subst hH;rw[QN];rfl
structure MkOk (P:Program)(w:World)(K:PySem.W.Frag)(mg:Str->Option Value)(base:Heap)(k:Nat)(c:Str)(ns:List Str)(fs:List (Ev->R))(n:Nat)(dv:List D):Prop where
 ex:∃C f fd ps dvs ds,PySem.W.nsIn K mainGlobals c=some eM/\mg c=some bV/\Cls K C/\(∀f∈ns,NoAttr K C f)/\Mk K C f/\FnOk P w K mg base CX0 k f fd ps (spI K ns fs n)/\Binds K fd ps ds/\Vals dvs ds/\(∀F,Reps K F dv dvs)/\ns.length=fs.length
end
def QiK (c:Str)(ns:List Str)(fs:List eK)(n:Nat)(dv:List D):RA->R
 | .ok l=>match Qbf l with
  |some ds=>if ds.length+dv.length+1=n then(match QiI fs (ds++dv)with
   |some ds'=> .ok .fz (.obj c ns ds')
   |none=> .no)else .no
  |none=> .no
 | .ex C=> .ex C
 | .no=> .no
def QhH (c:Str)(ns:List Str)(fs:List eK)(n:Nat)(dv:List D)(as:Ev->RA)(ev:Ev):R:=QiK c ns fs n dv (as ev)
theorem Qdv {ev:Ev}:∀{fs:List eK} {ds:List D},Qay ev fs=some ds->ds.length=fs.length
 | [],_,h=>by cases h;rfl
 |f::fs,ds,h=>by
  unfold Qay at h
  have go:∀d,(Qay ev fs).map (d:: ·)=some ds->ds.length=(f::fs).length:=fun d h=>by
   cases q:Qay ev fs with
   |none=>rw[q]at h;cases h
   |some ds'=>rw[q]at h;cases h;simp[Qdv q]
  cases q:f ev with
  |no=>rw[q]at h;cases h
  |ex C=>rw[q]at h;cases h
  |ok k d=>
   rw[q]at h
   cases k with
   |bo=>cases h
   |fz=>exact go d h
   |ow=>exact go d h
section
variable {X:Cx}{F0 H0:Hp}{Ψ:Psi}{k n:Nat}{c:Str}{ns:List Str}{fs:List (Ev->R)}{dv:List D}{as:Ev->RA}{e:Expr}{es:List Expr}{p pos:Pos}
theorem QpW {K:PySem.W.Frag}{F H F1 H1 F' H':Hp}{x C dx:Addr}{ds':List D}{vs':List V}(s:Step F H F1 H1)(hx:H1 x=none)(st:Step F1 H1 F' H')(hn:F' x=none)(hC:PySem.W.nsIn K mainGlobals c=some eM)(hl:ns.length=vs'.length)
  (hh:H' x=some gv) (rs:Reps K F' ds' vs'):∃F2,Post K F H .fz (.obj c ns ds') F2 kG H':=by
 have up:Same F' (upd F' x gv):=fun b o q=>by
  rw[Qv];exact q
  rintro rfl;rw[hn]at q;cases q
 have s':=s.trans st
 refine⟨upd F' x gv,⟨s'.up.trans up,fun b o q=>?_,s'.keep,fun b o q=>?_⟩,?_⟩
 .by_cases hb:b=x
  .subst hb;rw[QN]at q;cases q;exact hh
  .rw[Qv hb]at q;exact s'.sub _ _ q
 .by_cases hb:b=x
  .subst hb;exact .inr (s.keep.free hx)
  .rw[Qv hb]at q;exact s'.new _ _ q
 .show Rep _ _ _ _
  rw[Rep]
  exact⟨x,C,dx,vs',rfl,hC,QN,hl,rs.mono up⟩
theorem Qg6 (M:MkOk X.prog X.w X.K X.mg X.base k c ns fs n dv)(hr:Room (k+1) X.A)(ha:VA X F0 H0 Ψ bd as)(hg:Gl X c:=by rfl)(hdb:(c==("__debug__":Str))=false:=by decide)
  (he:starEach bd X.env=(false,eval e X.env)::starEach es X.env:=by rfl) (hpl:(backTo pos aZ).any (·.1)=false:=by rfl):
  VE X F0 H0 Ψ (.Call (.Name c p) bd [] pos) (QhH c ns fs n dv as):=by
 obtain⟨C,f,fd,ps,dvs,dsv,hC,hm,cl,na,mk,Fk,hb,hd,rd,hnf⟩:=M.ex
 refine(QoU (E:=E0) mk Fk hr hg hm hb hd Qnb ha hdb he hpl).mono fun σ H Q h=>?_
 obtain⟨F,ev,fi,m⟩:=h
 refine⟨F,ev,fi,?_⟩
 unfold QhH at m
 cases h1:as ev with
 |no=>rw[h1]at m;exact m
 |ex C=>rw[h1]at m;exact m
 |ok l=>
  rw[h1]at m
  intro F1 vs H1 s va x dx hx hdx hne
  simp only[QiK]at m
  cases h2:Qbf l with
  |none=>rw[h2]at m;exact m.elim
  |some ds=>
   rw[h2]at m
   dsimp only at m
   by_cases hn:ds.length+dv.length+1=n
   .rw[if_pos hn]at m
    cases h3:QiI fs (ds++dv)with
    |none=>rw[h3]at m;exact m.elim
    |some ds'=>
     rw[h3]at m
     refine⟨F1,H1,x,C,dx,ds++dv,vs++dvs,ds',rfl,rfl,hx,hdx,hne,s.sub,(va.fz h2).app (rd F1),by rw[List.length_append];exact hn,cl,na,h3,fun F' H' vs' st hn' hh rs=>⟨rfl,?_⟩⟩
     obtain⟨F2,p2⟩:=QpW (K:=X.K) (ns:=ns) s hx st hn' hC (by rw[←rs.length,Qdv h3];exact hnf) hh rs
     exact m F2 _ _ p2
   .rw[if_neg hn]at m;exact m.elim
end
end L3
namespace L3
open PySem L2 PySem.W
section
variable {X:Cx}{C:Addr}{x:Str}{p pos:Pos}
end
def isCD (tab:List j6):R->R
 | .ok _ (.obj c _ _)=>match tab.lookup c with
  |some b=> .ok .fz ef
  |none=> .no
 | .ok _ _=> .no
 | .ex C=> .ex C
 | .no=> .no
def eIsC (tab:List j6)(g:Ev->R)(ev:Ev):R:=isCD tab iO
structure IsOne (K:PySem.W.Frag)(S:Addr)(c:Str)(b:Bool)(C:Addr):Prop where
 ns:PySem.W.nsIn K mainGlobals c=some eM
 cl:Cls K C
 ha:PySem.W.findIn K bV "__class__"=some jf
 hn:PySem.W.specialIn K aP "__get__"=some fu
 htk:PySem.W.takesIn K aP=some true
 hm:PySem.W.mroIn K C eE=some true
 kit:PySem.W.kitOne K bV pQ=some b
def IsOk (K:PySem.W.Frag)(S:Addr)(tab:List j6):Prop:=∀c b,(c,b)∈tab->∃C,IsOne K S c b C
theorem Qr0 {K:PySem.W.Frag}{S:Addr}:IsOk K S []:=fun _ _ h=>by simp at h
theorem QeB {K:PySem.W.Frag}{S C:Addr}{c:Str}{b:Bool}{tab:List j6}(h:IsOne K S c b C)(r:IsOk K S tab):IsOk K S ((c,b)::tab):=fun c' b' q=>by
 rcases List.mem_cons.mp q with q|q
 .cases q;exact⟨C,h⟩
 .exact r c' b' q
section
variable {X:Cx}{F0 H0:Hp}{Ψ:Psi}{e:Expr}{g:Ev->R}{s:Str}{p p2 pos:Pos}{tab:List (Str×Bool)}
def rIsC (K:PySem.W.Frag):List V->Hp->VK->Prop:=fun xs H Q=>∃x t S b,xs= [x, .ref S]/\TyOf K H x t/\PySem.W.kitOne K t pQ=some b/\Q ef H
theorem QnI:Qfw X kZ (rIsC X.K):=by
 intro pins s σ H xs us Q I r h
 obtain⟨x,t,S,b,rfl,ty,e,q⟩:=h
 obtain⟨u,w',rfl,rx,rw'⟩:=QoQ r
 cases rw'
 exact Qik I rx ty e fun tk=>⟨.bl b,H,I.tok tk,rfl,q⟩
theorem Qt5 (hm:X.mg "isinstance"=none)(hS:∃S,X.mg s=some pQ/\IsOk X.K S tab)(he:VE X F0 H0 Ψ e g)(hgl:Gl X "isinstance":=by rfl)(hgs:Gl X s:=by rfl)(hds:(s==("__debug__":Str))=false:=by decide)
  (hst:starEach (e:: [.Name s p2]) X.env=(false,eval e X.env)::starEach [.Name s p2] X.env:=by rfl) (hst2:starEach [.Name s p2] X.env=(false,eval (.Name s p2) X.env)::starEach [] X.env:=by rfl) (hpl:(backTo pos (starEach [.Name s p2] X.env)).any (·.1)=false:=by rfl):
  VE X F0 H0 Ψ (.Call tP [e, .Name s p2] [] pos) (eIsC tab g):=by
 obtain⟨S,hS,ok⟩:=hS
 refine(Qhs QnI hgl hm (by rfl) (QbV he (QbV (QoI (v:= .ref S) hgs hS rfl hds) pa_nil hst2) hst) ah ah hst hpl).mono fun σ H Q q=>?_
 obtain⟨F,ev,fi,m⟩:=q
 refine⟨F,ev,fi,?_⟩
 unfold eIsC at m
 cases h1:g ev with
 |no=>rw[h1]at m;exact m
 |ex C=>rw[h1]at m;exact m
 |ok k d=>
  rw[h1]at m
  intro F1 x H1 p1
  cases d with
  |obj c ns xs=>
   simp only[isCD]at m
   cases q:tab.lookup c with
   |none=>rw[q]at m;exact m.elim
   |some b=>
    rw[q]at m
    obtain⟨a,C,dx,vs,rfl,hC,ha,hl,rs⟩:=p1.val.rd.obj p1.st.sub
    obtain⟨C',O⟩:=ok c b (Qdn q)
    have hC':=O.ns
    rw[hC]at hC';cases hC'
    exact⟨_,_,S,b,rfl, .ins ha O.cl O.ha O.hn O.htk O.hm,O.kit,m F1 _ H1 (.pure p1.st (by rw[Rep]))⟩
  |_=>exact m.elim
end
section
variable {P:Program}{w:World}{K:PySem.W.Frag}{mg:Str->Option Value}{base:Heap}
end
section
variable {X:Cx}{F0 H0:Hp}{Ψ:Psi}{k n:Nat}{c:Str}{ns ks:List Str}{fs:List (Ev->R)}{as ka:Ev->RA}{g:Ev->R}{e:Expr}{es:List Expr}{kws:List Keyword}{p pos kpos:Pos}{nm:Option Str}
end
theorem Qb9 {K:PySem.W.Frag}{fd:FuncData}{ps:List Str}{ds:List Value}(k:Nat)(hk:k+ds.length=ps.length)(h:∀(s:Shared) (us:List Value),K.In s.heap->us.length=k->BindsTo s fd ⟨us,[]⟩ (ps.zip nF)):Binds K fd ps ds:=
 fun s us kin hl=>h s us kin (by rw[List.length_append]at hl;omega)
end L3
namespace L3
open PySem L2
section
variable {X:Cx}{F0 H0:Hp}{Ψ:Psi}{a b e:Expr}{f f1 f2:Ev->R}{p2 pos pos':Pos}
def truR:R->R
 | .ok _ (.bl b)=> .ok .fz ef
 | .ok _ (.lst xs)=> .ok .fz (.bl (!xs.isEmpty))
 | .ok _ .non=> .ok .fz cp
 | .ok _ _=> .no
 | .ex C=> .ex C
 | .no=> .no
def eTru (f:Ev->R)(ev:Ev):R:=truR bS
theorem Qr1 (he:VE X F0 H0 Ψ e f)(ht:∀whole,isTrue e X.env whole=(do let v←whole;standAt e.pos;holding [v] mx):=by intro _;rfl):VT X F0 H0 Ψ e (eTru f):=
 (QmY he ht).mono fun σ H Q h=>by
  obtain⟨F,ev,fi,m⟩:=h
  refine⟨F,ev,fi,?_⟩
  unfold eTru at m
  cases h1:f ev with
  |no=>rw[h1]at m;exact m
  |ex C=>rw[h1]at m;exact m
  |ok k d=>
   rw[h1]at m
   intro F1 x H1 p1
   cases d with
   |bl b=>rw[p1.val.rd.bl];exact⟨b,rfl,m F1 H1 p1.st⟩
   |non=>rw[p1.val.rd.non];exact⟨false,rfl,m F1 H1 p1.st⟩
   |lst xs=>
    obtain⟨o,vs,rfl,ha,rs⟩:=p1.val.rd.lst p1.st.sub
    refine⟨!xs.isEmpty, .inl ⟨vs, .inl (.inl ha),?_⟩,m F1 H1 p1.st⟩
    have:=rs.length
    cases xs<;>cases vs<;>first|rfl|simp at this
   |_=>exact m.elim
def augG (i:Nat)(f:Ev->R)(ev:Ev):Fl:=match ev[i]? with
 |some (some (.fz, .int a))=>match f ev with
  | .ok _ (.int b)=> .nx eP
  | .ex C=> .ex C
  |_=> .no
 |_=> .no
theorem Qr2 (i:Nat){x:Str}(nd:X.N.Nodup)(he:VE X F0 H0 Ψ e f)(hN:X.N[i]?=some x:=by rfl)(hx:Loc X.env.scope x:=by first|exact Or.inl rfl|exact Or.inr rfl)(hf:X.fn x=true\/X.env.scope.names.lookup x=some .local:=by first|exact .inl rfl|exact .inr rfl):
  VS X F0 H0 Ψ (.AugAssign lZ .Add e pos) (augG i f):=
 (QqX nd hN hx he QqY hf).mono fun E σ H q=>by
  obtain⟨F,ev,fi,m⟩:=q
  unfold augG at m
  split at m
  .rename_i n h0
   obtain⟨_,v,e1,hv⟩:=fi.at_ _ _ _ h0
   have hv':v= .int n:=by have:Rep X.K F jE v:=hv;rw[Rep]at this;exact this
   subst hv'
   refine⟨_,e1,F,ev,fi,?_⟩
   cases h1:f ev with
   |no=>rw[h1]at m;exact m
   |ex C=>rw[h1]at m;exact m
   |ok k d=>
    rw[h1]at m
    intro F1 y H1 p1
    cases d with
    |int j=>
     refine⟨n,j,rfl,p1.val.rd.int,m F1 H1 _ p1.st.up (FI.set (k:= .fz) (fi.later p1.st) ⟨.refl p1.st.sub,by rw[Val,Rep]⟩ al)⟩
    |_=>exact m.elim
  .exact m.elim
end
end L3
namespace L2
open PySem PySem.Spec PyProof.Rows
section
variable {X:Cx}
end
end L2
namespace L3
open PySem L2
section
variable {X:Cx}{F0 H0:Hp}{Ψ:Psi}
end
end L3
namespace L3
open PySem L2
section
variable {X:Cx}{K:PySem.W.Frag}{F0 H0 Fb Hb F H F' H':Hp}{Ψ:Psi}{i:Nat}{l:List D}{ev:Ev}{σ:St}
variable {k n:Nat}{x y:Str}{φ:List D->R}{p p' pos pos':Pos}{e:Expr}{es:List Expr}{fs:Ev->RA}{sts body:List Stmt}{h g:Ev->Fl}
variable {ji:Int}{kk:Nat}{q1 q2 q3 q4 q5 apos cpos:Pos}
end
section
variable {X:Cx}{K:PySem.W.Frag}
open PySem
theorem vals_ints:∀{ns:List Int} {us:List Value},Vals fg us->∃ps:List (Int×Tok),us=ps.map (fun p=> .int p.1 p.2)/\ps.map (·.1)=ns
 | [],_,r=>by cases r;exact⟨[],rfl,rfl⟩
 |n::ns,_,r=>by
  cases r with
  |cons r1 r2=>
   obtain⟨t,rfl⟩:=r1
   obtain⟨ps,rfl,h⟩:=vals_ints r2
   exact⟨(n,t)::ps,rfl,by rw[List.map_cons,h]⟩
variable {F0 H0:Hp}{Ψ:Psi}{a b c e:Expr}{es:List Expr}{f f1 f2 f3:Ev->R}{fs:Ev->RA}{pos p:Pos}
end
end L3
namespace L3
open PySem L2
mutual
def Qca:D->Option D
 | .non=>some .non
 | .bl b=>some ef
 | .int i=>some fV
 | .str x=>some dY
 | .tup xs=>(Qa1 xs).map .tup
 | .lst xs=>(Qa1 xs).map .scr
 | .scr xs=>(Qa1 xs).map .scr
 | .dK _ _=>none
 | .dT _ _=>none
 | .obj c ns xs=>(Qa1 xs).map (.obj c ns)
 | .ty _=>none
def Qa1:List D->Option eT
 | []=>some []
 |d::ds=>(Qca d).bind fun d'=>(Qa1 ds).map fun l=>d'::l
end
def slH (og:Addr->Option Obj)(F G:Hp):Hp:=fun a=>match F a,og a with
 |some (.lst xs),some o=>some fW
 |_,_=>G a
def unH (F G:Hp):Hp:=fun a=>match F a with
 |some (.lst xs)=>some aH
 |_=>G a
section
variable {h:Heap}{og:Addr->Option Obj}{F G H:Hp}{a:Addr}
theorem QhI {xs:List V}{o:Obj}(e:F a=some aH)(e2:og a=some o):slH og F G a=some fW:=by simp only[slH,e,e2]
theorem Qc0 (e:∀xs,F a≠some aH):slH og F G a=G a:=by
 unfold slH
 split
 .rename_i xs o e1 e2;exact absurd e1 (e xs)
 .rfl
theorem Qlc {xs:List V}(e:F a=some aH):unH F G a=some aH:=by simp only[unH,e]
theorem Qdr (e:∀xs,F a≠some aH):unH F G a=G a:=by
 unfold unH
 split
 .rename_i xs e1;exact absurd e1 (e xs)
 .rfl
theorem isl (F:Hp)(a:Addr):(∃xs,F a=some aH)\/∀xs,F a≠some aH:=by
 by_cases c:∃xs,F a=some aH
 .exact .inl c
 .exact .inr fun xs e=>c ⟨xs,e⟩
theorem Qeb (s:Same F H){o:HO}(e:H a=some o)(n:∀xs,o≠ .lst xs):∀xs,F a≠some aH:=fun xs z=>by
 rw[s _ _ z]at e;cases e;exact n xs rfl
theorem Qfn (s:Same F H)(e:H a=none):F a=none:=by
 cases q:F a with
 |none=>rfl
 |some o=>rw[s _ _ q]at e;cases e
variable {P:Program}{w:World}{K:PySem.W.Frag}
theorem QjG (x:HOk P w H h)(s:Same F H){xs:List V}(e:F a=some aH):∃o,h.get? a=some o:=by
 obtain⟨_,its,n,_,q⟩:=x a _ (s _ _ e)
 exact⟨_,q⟩
theorem Qr3 (x:HOk P w H h)(s:Same F H):HOk P w (slH h.get? F H) h:=fun a o e=>by
 have ho:∀b,H b=some jD->slH h.get? F H b=some jD:=fun b z=>by rw[Qc0 (Qeb s z fun _ q=>by cases q)];exact z
 have ht:∀b xs,H b=some cP->slH h.get? F H b=some cP:=fun b xs z=>by rw[Qc0 (Qeb s z fun _ q=>by cases q)];exact z
 rcases isl F a with⟨xs,q⟩|q
 .obtain⟨ob,g⟩:=QjG x s q
  rw[QhI q g]at e
  cases e
  exact⟨g,(x a _ (s _ _ q)).stay (fun b u _ z=>z) ho ht⟩
 .rw[Qc0 q]at e
  exact(x a o e).stay (fun b u _ z=>z) ho ht
mutual
theorem Rep.sl (g:∀a xs,F a=some aH->∃o,og a=some o):∀{d d':D} {v:V},Rep K F d v->Qca d=some d'->Rep K (slH og F F) d' v
 | .non,_,_,r,e=>by cases e;exact r
 | .bl _,_,_,r,e=>by cases e;exact r
 | .int _,_,_,r,e=>by cases e;exact r
 | .str _,_,_,r,e=>by cases e;exact r
 | .tup xs,_,_,r,e=>by
  rw[Rep]at r
  obtain⟨a,vs,rfl,h1,h2⟩:=r
  simp only[Qca,Option.map_eq_some_iff]at e
  obtain⟨l,e,rfl⟩:=e
  rw[Rep]
  exact⟨a,vs,rfl,by rw[Qc0 (fun xs z=>by rw[h1]at z;cases z)];exact h1,Reps.sl g h2 e⟩
 | .lst xs,_,_,r,e=>by
  rw[Rep]at r
  obtain⟨a,vs,rfl,h1,h2⟩:=r
  simp only[Qca,Option.map_eq_some_iff]at e
  obtain⟨l,e,rfl⟩:=e
  obtain⟨o,ho⟩:=g _ _ h1
  rw[Rep]
  exact⟨a,vs,rfl, .inl tJ,Reps.sl g h2 e⟩
 | .scr xs,_,_,r,e=>by
  rw[Rep]at r
  obtain⟨a,vs,rfl,h1,h2⟩:=r
  simp only[Qca,Option.map_eq_some_iff]at e
  obtain⟨l,e,rfl⟩:=e
  rw[Rep]
  refine⟨a,vs,rfl,?_,Reps.sl g h2 e⟩
  rcases h1 with(h1|⟨o,h1⟩)|h1
  .obtain⟨o,ho⟩:=g _ _ h1
   exact .inl tJ
  .exact .inl (.inr ⟨o,by rw[Qc0 (fun xs z=>by rw[h1]at z;cases z)];exact h1⟩)
  .exact .inr h1
 | .dK _ _,_,_,_,e=>by cases e
 | .dT _ _,_,_,_,e=>by cases e
 | .obj c ns xs,_,_,r,e=>by
  rw[Rep]at r
  obtain⟨a,C,dx,vs,rfl,h0,h1,h3,h2⟩:=r
  simp only[Qca,Option.map_eq_some_iff]at e
  obtain⟨l,e,rfl⟩:=e
  rw[Rep]
  exact⟨a,C,dx,vs,rfl,h0,by rw[Qc0 (fun xs z=>by rw[h1]at z;cases z)];exact h1,h3,Reps.sl g h2 e⟩
 | .ty _,_,_,_,e=>by cases e
theorem Reps.sl (g:∀a xs,F a=some aH->∃o,og a=some o):∀{ds ds':List D} {vs:List V},Reps K F ds vs->Qa1 ds=some ds'->Reps K (slH og F F) ds' vs
 | [],_,_,r,e=>by cases e;exact r
 |d::ds,_,_,r,e=>by
  rw[Reps]at r
  obtain⟨v,rest,rfl,h1,h2⟩:=r
  simp only[Qa1,Option.bind_eq_some_iff,Option.map_eq_some_iff]at e
  obtain⟨d',e1,l,e2,rfl⟩:=e
  rw[Reps]
  exact⟨v,rest,rfl,Rep.sl g h1 e1,Reps.sl g h2 e2⟩
end
theorem QfO:∀{ds ds':List D},Qa1 ds=some ds'->ds'.length=ds.length
 | [],_,e=>by cases e;rfl
 |d::ds,_,e=>by
  simp only[Qa1,Option.bind_eq_some_iff,Option.map_eq_some_iff]at e
  obtain⟨d',e1,l,e2,rfl⟩:=e
  simp[QfO e2]
mutual
theorem Rep.un {F1:Hp}(g:∀a xs,F a=some aH->∃o,F1 a=some fW):∀{d:D} {v:V},Rep K F1 d v->Rep K um d v
 | .non,_,r=>r
 | .bl _,_,r=>r
 | .int _,_,r=>r
 | .str _,_,r=>r
 | .ty _,_,r=>r
 | .tup xs,_,r=>by
  rw[Rep]at r⊢
  obtain⟨a,vs,rfl,h1,h2⟩:=r
  exact⟨a,vs,rfl,by rw[Qdr (fun xs z=>by obtain⟨o,q⟩:=g _ _ z;rw[h1]at q;cases q)];exact h1,Reps.un g h2⟩
 | .lst xs,_,r=>by
  rw[Rep]at r⊢
  obtain⟨a,vs,rfl,h1,h2⟩:=r
  exact⟨a,vs,rfl,by rw[Qdr (fun xs z=>by obtain⟨o,q⟩:=g _ _ z;rw[h1]at q;cases q)];exact h1,Reps.un g h2⟩
 | .dK ks xs,_,r=>by
  rw[Rep]at r⊢
  obtain⟨a,vs,rfl,h1,h3,h2⟩:=r
  exact⟨a,vs,rfl,by rw[Qdr (fun xs z=>by obtain⟨o,q⟩:=g _ _ z;rw[h1]at q;cases q)];exact h1,h3,Reps.un g h2⟩
 | .dT ks xs,_,r=>by
  rw[Rep]at r⊢
  obtain⟨a,vs,rfl,h1,h3,h2⟩:=r
  exact⟨a,vs,rfl,by rw[Qdr (fun xs z=>by obtain⟨o,q⟩:=g _ _ z;rw[h1]at q;cases q)];exact h1,h3,Reps.un g h2⟩
 | .obj c ns xs,_,r=>by
  rw[Rep]at r⊢
  obtain⟨a,C,dx,vs,rfl,h0,h1,h3,h2⟩:=r
  exact⟨a,C,dx,vs,rfl,h0,by rw[Qdr (fun xs z=>by obtain⟨o,q⟩:=g _ _ z;rw[h1]at q;cases q)];exact h1,h3,Reps.un g h2⟩
 | .scr xs,_,r=>by
  rw[Rep]at r⊢
  obtain⟨a,vs,rfl,h1,h2⟩:=r
  refine⟨a,vs,rfl,?_,Reps.un g h2⟩
  rcases h1 with(h1|⟨o,h1⟩)|h1
  .exact .inl (.inl (by rw[Qdr (fun xs z=>by obtain⟨o,q⟩:=g _ _ z;rw[h1]at q;cases q)];exact h1))
  .rcases isl F a with⟨ys,q⟩|q
   .obtain⟨o',q'⟩:=g _ _ q
    rw[h1]at q';cases q'
    exact .inl (.inl (Qlc q))
   .exact .inl (.inr ⟨o,by rw[Qdr q];exact h1⟩)
  .exact .inr h1
theorem Reps.un {F1:Hp}(g:∀a xs,F a=some aH->∃o,F1 a=some fW):∀{ds:List D} {vs:List V},Reps K F1 ds vs->Reps K um ds vs
 | [],_,r=>r
 |d::ds,_,r=>by
  rw[Reps]at r⊢
  obtain⟨v,rest,rfl,h1,h2⟩:=r
  exact⟨v,rest,rfl,Rep.un g h1,Reps.un g h2⟩
end
theorem Step.un {F1 H1:Hp}(x:HOk P w H h)(s:Same F H)(st:Step (slH h.get? F F) (slH h.get? F H) F1 H1):Step F H um (unH F H1):=by
 have g:∀{G:Hp} a xs,F a=some aH->∃o,slH h.get? F G a=some fW:=fun a xs e=>by
  obtain⟨o,ho⟩:=QjG x s e
  exact⟨o,QhI e ho⟩
 refine⟨fun a o e=>?_,fun a o e=>?_,fun a o e=>?_,fun a o e=>?_⟩
 .rcases isl F a with⟨xs,q⟩|q
  .rw[Qlc q,←q];exact e
  .rw[Qdr q];exact st.up _ _ (by rw[Qc0 q];exact e)
 .rcases isl F a with⟨xs,q⟩|q
  .rw[Qlc q]at e⊢;exact e
  .rw[Qdr q]at e⊢;exact st.sub _ _ e
 .rcases isl F a with⟨xs,q⟩|q
  .rw[Qlc q,←s _ _ q];exact e
  .rw[Qdr q];exact st.keep _ _ (by rw[Qc0 q];exact e)
 .rcases isl F a with⟨xs,q⟩|q
  .rw[Qlc q]at e;cases e;exact .inl q
  .rw[Qdr q]at e
   rcases st.new _ _ e with e1|e1
   .rw[Qc0 q]at e1;exact .inl e1
   .rw[Qc0 q]at e1;exact .inr e1
end
end L3
namespace L3
open PySem L2
section
variable {ev e:Ev}{f f1 f2 c:Ev->R}{fs:Ev->RA}{g h body:Ev->Fl}{k k1 k2:Kd}{d d1 d2:D}{C:Addr}{i n:Nat}
@[simp] theorem Qvw {α:Type}{a:α}{l:List α}:(a::l)[0]?=some a:=(rfl)
def QcB (r:Fl)(h:Ev->Fl):Fl:=match r with
 | .nx e=>h e
 |r=>r
@[simp] theorem Qt6:seqG g h ev=QcB iO h:=(rfl)
@[simp] theorem Qt7:QcB (.nx e) h=h e:=(rfl)
@[simp] theorem Qt8:QcB (.rt k d) h= .rt k d:=(rfl)
@[simp] theorem Qt9:QcB (.ct e) h= .ct e:=(rfl)
def setR (i:Nat)(r:R)(ev:Ev):Fl:=match r with
 | .ok .bo _=> .no
 | .ok k d=> .nx qf
 | .ex C=> .ex C
 | .no=> .no
@[simp] theorem Qua:setG i f ev=setR i bS ev:=(rfl)
@[simp] theorem Qub:setR i fU ev= .nx iu:=(rfl)
@[simp] theorem Quc:setR i jP ev= .nx (ev.set i fy):=(rfl)
def retR (r:R):Fl:=match r with
 | .ok .bo _=> .no
 | .ok k d=> .rt k d
 | .ex C=> .ex C
 | .no=> .no
@[simp] theorem Qud:retG f ev=retR bS:=(rfl)
@[simp] theorem Que:retR fU= .rt .fz d:=(rfl)
@[simp] theorem Quf:retR jP= .rt .ow d:=(rfl)
def Qr4 (o:Option eR):Fl:=match o with
 |some (some (.fz,d))=> .rt .fz d
 |some (some (.ow,d))=> .rt .ow d
 |_=> .no
@[simp] theorem Qqz:QcR i ev=Qr4 ev[i]?:=(rfl)
@[simp] theorem QsQ:Qr4 (some fy)= .rt .ow d:=(rfl)
def ifFl (r:R)(g h:Ev->Fl)(ev:Ev):Fl:=match r with
 | .ok _ (.bl b)=>if b then g ev else h ev
 | .ex C=> .ex C
 |_=> .no
@[simp] theorem Qvx:ifG c g h ev=ifFl rF g h ev:=(rfl)
@[simp] theorem Qvy:ifFl uX g h ev=g ev:=(rfl)
@[simp] theorem Qvz:ifFl pR g h ev=h ev:=(rfl)
@[simp] theorem Qug:frzG i g ev=g uJ:=(rfl)
def frzO (i:Nat)(o:Option eR)(ev:Ev):Ev:=match o with
 |some (some (.ow,d))=>ev.set i bC
 |_=>ev
@[simp] theorem QsR:Qk2 i ev=frzO i ev[i]? ev:=(rfl)
@[simp] theorem Quh:frzO i (some fy) ev=ev.set i bC:=(rfl)
@[simp] theorem Qui:frzO i (some bC) ev=ev:=(rfl)
def appR (i:Nat)(o:Option eR)(f:Ev->R)(ev:Ev):Fl:=match o with
 |some (some (.ow, .lst ds))=>match f ev with
  | .ok .bo _=> .no
  | .ok _ d=>if ds.length<LIM then .nx cK else .no
  | .ex C=> .ex C
  | .no=> .no
 |_=> .no
def Qr5 (i:Nat)(ds:List D)(r:R)(ev:Ev):Fl:=match r with
  | .ok .bo _=> .no
  | .ok _ d=>if ds.length<LIM then .nx cK else .no
  | .ex C=> .ex C
  | .no=> .no
@[simp] theorem Quj:appG i f ev=appR i ev[i]? f ev:=(rfl)
@[simp] theorem Quk {ds:List D}:appR i (some iF) f ev=Qr5 i ds bS ev:=(rfl)
@[simp] theorem QsS {ds:List D}:Qr5 i ds fU ev=if ds.length<LIM then .nx cK else .no:=(rfl)
def QpX (i:Nat)(ds:List D)(d:D)(o:Option Nat)(ev:Ev):Fl:=match o with
 |some j=> .nx dw
 |none=> .no
def QpY (i:Nat)(ds:List D)(d:D)(r:R)(ev:Ev):Fl:=match r with
 | .ok _ (.int k)=>QpX i ds d (ixN ds.length k) ev
 | .ex C=> .ex C
 |_=> .no
def sitK (i:Nat)(ks:List Key)(xs:List D)(d:D)(o:Option Key)(ev:Ev):Fl:=match o with
 |some k=>if ks.length<LIM then .nx cG else .no
 |none=> .no
def sitD (i:Nat)(ks:List Key)(xs:List D)(d:D)(r:R)(ev:Ev):Fl:=match r with
 | .ok _ kd=>sitK i ks xs d (keyD kd) ev
 | .ex C=> .ex C
 | .no=> .no
def QpZ (i:Nat)(ks:List bR)(xs:List D)(d:D)(o:Option bR)(ev:Ev):Fl:=match o with
 |some k=>if ks.length<LIM then .nx cF else .no
 |none=> .no
def sitT (i:Nat)(ks:List bR)(xs:List D)(d:D)(r:R)(ev:Ev):Fl:=match r with
 | .ok _ (.tup l)=>QpZ i ks xs d (Qbt l) ev
 | .ex C=> .ex C
 |_=> .no
def Qmf (i:Nat)(d:D)(o:Option eR)(f:Ev->R)(ev:Ev):Fl:=match o with
 |some (some (.ow, .lst ds))=>QpY i ds d bS ev
 |some (some (.ow, .dK ks xs))=>sitD i ks xs d bS ev
 |some (some (.ow, .dT ks xs))=>sitT i ks xs d bS ev
 |_=> .no
def sitR (i:Nat)(f:Ev->R)(r:R)(ev:Ev):Fl:=match r with
 | .ok .bo _=> .no
 | .ok _ d=>Qmf i d ev[i]? f ev
 | .ex C=> .ex C
 | .no=> .no
@[simp] theorem Qr6:QcU i f f2 ev=sitR i f iZ ev:=by
 unfold QcU
 by_cases c:Ql1 ev[i]?=true
 .rw[if_pos c]
  unfold Ql1 at c
  split at c
  .rename_i ds e
   unfold Qno sitR
   rw[e]
   generalize f2 ev=r
   cases r with
   |ok k d=>cases k<;>rfl
   |ex C=>rfl
   |no=>rfl
  .cases c
 .rw[if_neg c]
  have key:∀o:Option eR,Ql1 o≠true->∀d,(match o with
   |some (some (.ow, .dK ks xs))=>match f ev with
    | .ok _ kd=>match keyD kd with
     |some k=>if ks.length<LIM then Fl.nx cG else .no
     |none=> .no
    | .ex C=> .ex C
    | .no=> .no
   |some (some (.ow, .dT ks xs))=>match f ev with
    | .ok _ (.tup l)=>match Qbt l with
     |some k=>if ks.length<LIM then Fl.nx cF else .no
     |none=> .no
    | .ex C=> .ex C
    |_=> .no
   |_=> .no)=Qmf i d o f ev:=fun o ho d=>by
   cases o with
   |none=>rfl
   |some o=>
    cases o with
    |none=>rfl
    |some z=>
     obtain⟨k,z⟩:=z
     cases k<;>try rfl
     cases z<;>first|rfl|exact absurd rfl ho
  unfold Qnx sitR
  generalize f2 ev=r
  cases r with
  |ok k d=>cases k with
   |bo=>rfl
   |fz=>exact key _ c d
   |ow=>exact key _ c d
  |ex C=>rfl
  |no=>rfl
@[simp] theorem Qul:sitR i f fU ev=Qmf i d ev[i]? f ev:=(rfl)
@[simp] theorem QsT {ds:List D}:Qmf i d (some iF) f ev=QpY i ds d bS ev:=(rfl)
@[simp] theorem QsU {ks:List bR}{xs:List D}:Qmf i d (some sJ) f ev=sitT i ks xs d bS ev:=(rfl)
@[simp] theorem Qum {ks:List bR}{xs:List D}{l:List D}:sitT i ks xs d (.ok k kC) ev=QpZ i ks xs d (Qbt l) ev:=(rfl)
theorem Qfo {ks:List bR}{xs:List D}{q:List Key}(h:ks.length<LIM):QpZ i ks xs d (some q) ev= .nx (ev.set i (some (.ow, .dT (QbB ks q) (QcM ks xs q d)))):=if_pos h
@[simp] theorem QsV {x:Int}:keyD dq=some (.inl x):=(rfl)
@[simp] theorem Qr7:Qbt []=some []:=(rfl)
@[simp] theorem QqA {l:List D}:Qbt (d::l)=(keyD d).bind fun k=>(Qbt l).map (k:: ·):=(rfl)
@[simp] theorem Qr8 {ds:List D}{x:Int}:QpY i ds d (.ok k dq) ev=QpX i ds d (ixN ds.length x) ev:=(rfl)
@[simp] theorem QqB {ds:List D}{j:Nat}:QpX i ds d (some j) ev= .nx dw:=(rfl)
def varO (o:Option eR):R:=match o with
 |some (some (.fz,d))=> .ok .fz d
 |some (some (.ow,d))=> .ok .bo d
 |_=> .no
@[simp] theorem Qun:varR i ev=varO ev[i]?:=(rfl)
@[simp] theorem Quo:varO (some bC)= .ok .fz d:=(rfl)
@[simp] theorem Qup:varO (some fy)= .ok .bo d:=(rfl)
@[simp] theorem Quq:conR d ev= .ok .fz d:=(rfl)
@[simp] theorem QvA {g:G2}:eOp g f1 f2 ev=op2 g jL iZ:=(rfl)
@[simp] theorem QvB {g:G2}:op2 g (.ok k1 d1) oh=toR (g d1 d2):=(rfl)
@[simp] theorem QsW:toR dM= .ok k d:=(rfl)
@[simp] theorem Qur:eAnd f1 f2 ev=andR jL iZ:=(rfl)
@[simp] theorem QvC:eOr f1 f2 ev=orR jL iZ:=(rfl)
@[simp] theorem Qus:eNot f ev=notR bS:=(rfl)
@[simp] theorem QvD {r:R}:andR pR r= .ok .fz cp:=(rfl)
@[simp] theorem Qv5 {r:R}:orR uX r= .ok .fz aT:=(rfl)
@[simp] theorem Qv6 {r:R}:orR pR r=r:=(rfl)
@[simp] theorem QvE {b c:Bool}:andR uW (.ok .fz (.bl c))= .ok .fz (.bl (b&&c)):=by cases b<;>rfl
@[simp] theorem Qv7 {b c:Bool}:orR uW (.ok .fz (.bl c))= .ok .fz (.bl (b||c)):=by cases b<;>rfl
@[simp] theorem QvF {b:Bool}:notR uW= .ok .fz (.bl (!b)):=(rfl)
def ifE (r:R)(f1 f2:Ev->R)(ev:Ev):R:=match r with
 | .ok _ (.bl b)=>if b then f1 ev else f2 ev
 | .ex C=> .ex C
 |_=> .no
@[simp] theorem QvG:eIf c f1 f2 ev=ifE rF f1 f2 ev:=by
 show ifR rF jL iZ=ifE rF f1 f2 ev
 generalize c ev=r
 cases r with
 |ok k d=>cases d<;>rfl
 |ex C=>rfl
 |no=>rfl
@[simp] theorem Qv8:ifE uX f1 f2 ev=f1 ev:=(rfl)
@[simp] theorem Qv9:ifE pR f1 f2 ev=f2 ev:=(rfl)
@[simp] theorem Qut:aNil ev= .ok []:=(rfl)
@[simp] theorem QsX:Qc f fs ev=Qiy bS eO:=(rfl)
@[simp] theorem QsY {l:List bm}:Qiy fU i9= .ok ((.fz,d)::l):=(rfl)
@[simp] theorem QsZ {l:List bm}:Qiy jP i9= .ok ((.fz,d)::l):=(rfl)
@[simp] theorem Qs0 {l:List bm}:Qiy (.ok .bo d) i9= .ok ((.bo,d)::l):=(rfl)
@[simp] theorem Quu:eTup fs ev=tupR eO:=(rfl)
@[simp] theorem Quv:eLst fs ev=lstR eO:=(rfl)
def tupO (o:Option eT):R:=match o with
 |some ds=>if ds.length<=LIM then .ok .fz (.tup ds)else .no
 |none=> .no
def lstO (o:Option eT):R:=match o with
 |some ds=>if ds.length<=LIM then .ok .ow nY else .no
 |none=> .no
@[simp] theorem Quw {l:List bm}:tupR i9=tupO (Qbf l):=(rfl)
@[simp] theorem Qux {l:List bm}:lstR i9=lstO (Qbf l):=(rfl)
@[simp] theorem Qr9:Qbf []=some []:=(rfl)
@[simp] theorem QqC {l:List bm}:Qbf ((.fz,d)::l)=(Qbf l).map (d:: ·):=(rfl)
@[simp] theorem QvH:tupO (some [])= .ok .fz (.tup []):=(rfl)
@[simp] theorem QvI {a b:D}:tupO (some [a,b])= .ok .fz (.tup [a,b]):=(rfl)
@[simp] theorem QvJ {a b c:D}:tupO (some [a,b,c])= .ok .fz kD:=(rfl)
@[simp] theorem QvK {a b c e:D}:tupO (some [a,b,c,e])= .ok .fz (.tup [a,b,c,e]):=(rfl)
@[simp] theorem QvL:lstO (some [])= .ok .ow gO:=(rfl)
@[simp] theorem QvM {a:D}:lstO (some [a])= .ok .ow (.lst [a]):=(rfl)
@[simp] theorem QvN {a b:D}:lstO (some [a,b])= .ok .ow (.lst [a,b]):=(rfl)
@[simp] theorem QvO {a b c:D}:lstO (some [a,b,c])= .ok .ow (.lst [a,b,c]):=(rfl)
@[simp] theorem QvP {a b c e:D}:lstO (some [a,b,c,e])= .ok .ow (.lst [a,b,c,e]):=(rfl)
@[simp] theorem QvQ {a0 a1 a2 a3 a4:D}:lstO (some [a0,a1,a2,a3,a4])= .ok .ow (.lst [a0,a1,a2,a3,a4]):=(rfl)
@[simp] theorem Qs1 {g:GN}:Q5 g fs ev=Qnf g eO:=(rfl)
@[simp] theorem Qs2 {g:GN}{l:List bm}:Qnf g i9=toR (g (l.map (·.2))):=(rfl)
def outK (r:R):R:=match r with
 | .ok .fz d=> .ok .fz d
 | .ok .ow d=> .ok .ow d
 |_=> .no
def outS (r:R):R:=match r with
 | .ok .bo _=> .no
 | .ok _ d=>if Qjw d then .ok .fz d else .no
 |_=> .no
def fnO (φ:List D->R)(o:Option eT)(l:List bm):R:=match o with
 |some ds=>outK (φ ds)
 |none=>outS (φ (l.map (·.2)))
@[simp] theorem QvR {φ:List D->R}:eFn n φ fs ev=fnR n φ eO:=(rfl)
theorem QiL {φ:List D->R}{l:List bm}(h:l.length=n):fnR n φ i9=fnO φ (Qbf l) l:=by
 simp only[fnR,if_pos h]
 unfold fnO outK outS
 cases Qbf l<;>rfl
@[simp] theorem Qwa {φ:List D->R}{a:Kd×D}:fnR 1 φ (.ok [a])=fnO φ (Qbf [a]) [a]:=nR
@[simp] theorem Qwb {φ:List D->R}{a b:Kd×D}:fnR 2 φ (.ok [a,b])=fnO φ (Qbf [a,b]) [a,b]:=nR
@[simp] theorem Qwc {φ:List D->R}{a b c:Kd×D}:fnR 3 φ (.ok [a,b,c])=fnO φ (Qbf [a,b,c]) [a,b,c]:=nR
@[simp] theorem Qwd {φ:List D->R}{a b c u:Kd×D}:fnR 4 φ (.ok [a,b,c,u])=fnO φ (Qbf [a,b,c,u]) [a,b,c,u]:=nR
@[simp] theorem Qwe {φ:List D->R}{a b c u v:Kd×D}:fnR 5 φ (.ok [a,b,c,u,v])=fnO φ (Qbf [a,b,c,u,v]) [a,b,c,u,v]:=nR
@[simp] theorem Qs3 {φ:List D->R}{ds:List D}{l:List bm}:fnO φ (some ds) l=outK (φ ds):=(rfl)
@[simp] theorem Quy:outK fU= .ok .fz d:=(rfl)
@[simp] theorem Quz:outK jP= .ok .ow d:=(rfl)
def forO (r:RI)(b:B1)(body:Ev->Fl)(ev:Ev):Fl:=match r with
 | .ok ds=>forE b body ds ev
 | .ex C=> .ex C
 | .no=> .no
@[simp] theorem QuA {fi:Ev->RI}{b:B1}:forG fi b body ev=forO (fi ev) b body ev:=(rfl)
@[simp] theorem QuB {ds:List D}{b:B1}:forO (.ok ds) b body ev=forE b body ds ev:=(rfl)
@[simp] theorem QuC:iLst f ev=itR bS:=(rfl)
@[simp] theorem QvS {ds:List D}:itR (.ok .fz nY)= .ok ds:=(rfl)
@[simp] theorem QvT {ds:List D}:itR (.ok .ow nY)= .ok ds:=(rfl)
@[simp] theorem Qs4:Qe8 fs ev=rngW eO:=(rfl)
@[simp] theorem Qp0 {j:Int}(h:j<4611686018427387904):rngW (.ok [(k, .int j)])= .ok oJ:=mG
def QgI (b:B1)(c e:Ev->R)(ev:Ev)(r:RI):R:=match r with
 | .ok ds=>if ds.length<LIM then(match Qe6 b c e ev ds with
  |some l=> .ok .ow pT
  |none=> .no)else .no
 | .ex C=> .ex C
 | .no=> .no
@[simp] theorem Qs5 {cap:List aC}{fi:Ev->RI}{b:B1}{c e:Ev->R}:QcL cap fi b c e ev=QgI b c e dc (fi ev):=by unfold QcL Qpr QgI;rfl
theorem Qkm {b:B1}{c e:Ev->R}{α:Type}{enc:α->D}{p:α->Bool}{v:α->D}:∀{l:List α},(∀x∈l,∃ev1,b rD ev=some ev1/\(∃k,c ev1= .ok k (.bl (p x)))/\(p x=true->∃k,k≠Kd.bo/\e ev1= .ok k (v x)))->
  Qe6 b c e ev fw=some ((l.filter p).map v)
 | [],_=>rfl
 |x::l,hl=>by
  obtain⟨ev1,h1,⟨k,h2⟩,h3⟩:=hl x al
  have ih:=Qkm (b:=b) (c:=c) (e:=e) (enc:=enc) (p:=p) (v:=v) (l:=l) fun y hy=>hl y (by simp[hy])
  rw[List.map_cons,Qe6]
  simp only[h1,h2]
  by_cases hp:p x=true
  .obtain⟨k',hk,h4⟩:=h3 hp
   rw[if_pos hp,h4,List.filter_cons_of_pos hp,List.map_cons,ih]
   cases k' with
   |bo=>exact absurd rfl hk
   |fz=>rfl
   |ow=>rfl
  .rw[if_neg hp,List.filter_cons_of_neg hp,ih]
theorem Qec {b:B1}{c e:Ev->R}{α:Type}{enc:α->D}{l:List α}(p:α->Bool)(v:α->D)(hn:l.length<LIM)(h:∀x∈l,∃ev1,b rD ev=some ev1/\(∃k,c ev1= .ok k (.bl (p x)))/\(p x=true->∃k,k≠Kd.bo/\e ev1= .ok k (v x))):
  QgI b c e ev (.ok fw)= .ok .ow (.lst ((l.filter p).map v)):=by
 simp only[QgI]
 rw[Qkm h]
 simp[hn]
@[simp] theorem Qs6:capE [] ev= []:=(rfl)
@[simp] theorem Qsa {cap:List aC}:capE (none::cap) ev=none::capE cap ev:=(rfl)
def capO (o:Option eR):Option bm:=match o.join with
 |some (.fz,d)=>some (.fz,d)
 |_=>none
@[simp] theorem Qsb {cap:List aC}{j:Nat}:capE (some j::cap) ev=capO ev[j]?::capE cap ev:=(rfl)
@[simp] theorem QuD:capO (some bC)=some (.fz,d):=(rfl)
def runO (r:Fl):R:=match r with
 | .rt .bo _=> .no
 | .rt k d=> .ok k d
 | .nx _=> .ok .fz .non
 | .ex C=> .ex C
 |_=> .no
theorem QhJ {ds:List D}:runF n g ds=runO (g uB):=rfl
@[simp] theorem QuE:runO (.rt .fz d)= .ok .fz d:=(rfl)
@[simp] theorem Qs7 {x y:Int}:addD dq eF=some (.fz, .int (x+y)):=(rfl)
@[simp] theorem Qs8 {x y:List D}:addD tG (.lst y)=if x.length+y.length<=LIM then some (.ow, .lst (x++y))else none:=(rfl)
@[simp] theorem Qs9 {x y:Str}(h:x.length+y.length<=1000000):addD dY (.str y)=some (.fz, .str (x++y)):=mG
@[simp] theorem Qta {x y:Int}:subD dq eF=some (.fz, .int (x-y)):=(rfl)
@[simp] theorem QeC {x y:Int}(h:(-(2^64)<x/\x<2^64)\/(-(2^64)<y/\y<2^64)):mulD dq eF=some (.fz, .int (x*y)):=by
 have:mulL dq eF=some (.fz, .int (x*y)):=if_pos h
 simp[mulD,this]
@[simp] theorem Qkn {x:List D}{y:Int}(h: -(2^63)<=y/\y<2^63/\x.length*y.toNat<=LIM):mulD tG eF=some (.ow, .lst (List.replicate y.toNat x).flatten):=by
 have:mulL tG eF=some (.ow, .lst (List.replicate y.toNat x).flatten):=if_pos h
 simp[mulD,this]
@[simp] theorem QhK {x:Str}{y:Int}(h:0<=y/\y<=1000/\x.length<=1000):mulD dY eF=some (.fz, .str (Txt.mul x y)):=by
 have:mulS dY eF=some (.fz, .str (Txt.mul x y)):=if_pos h
 simp[mulD,this,mulL]
@[simp] theorem QnJ {x y:Int}(h:0<y/\y<2^200):Qbg dq eF=some (.fz, .int (x/y)):=mG
@[simp] theorem QhL {x y:Int}(h:0<y):modD dq eF=some (.fz, .int (x %y)):=mG
@[simp] theorem QuF {x y:Int}(h:0<=y/\y<=1000000/\x.natAbs<2^64):powD dq eF=some (.fz, .int (x^y.toNat)):=mG
@[simp] theorem QuG {x y:Int}:ltD dq eF=some (.fz, .bl (decide (x<y))):=(rfl)
@[simp] theorem QuH {x y:Int}:leD dq eF=some (.fz, .bl (decide (x<=y))):=(rfl)
@[simp] theorem QuI {x y:Int}:gtD dq eF=some (.fz, .bl (decide (y<x))):=(rfl)
@[simp] theorem QuJ {x y:Int}:geD dq eF=some (.fz, .bl (decide (y<=x))):=(rfl)
@[simp] theorem QuK:isND .non .non=some (.fz, .bl true):=(rfl)
@[simp] theorem Qtb {x:Int}:isND dq .non=some (.fz, .bl false):=(rfl)
@[simp] theorem Qtc {x:List D}:isND (.tup x) .non=some (.fz, .bl false):=(rfl)
@[simp] theorem Qtd:Qd6 .non .non=some (.fz, .bl false):=(rfl)
@[simp] theorem Qsc {x:Int}:Qd6 dq .non=some (.fz, .bl true):=(rfl)
@[simp] theorem Qsd {x:List D}:Qd6 (.tup x) .non=some (.fz, .bl true):=(rfl)
@[simp] theorem Qte {x:List D}{j:Int}:idxD tG nA=(atI x j).map fun d=>(.fz,d):=by
 simp[idxD,getK,Qd9,idxL]
@[simp] theorem Qtf {x:List D}{j:Int}:idxD (.scr x) nA=(atI x j).map fun d=>(.fz,d):=by
 simp[idxD,getK,Qd9,idxL]
@[simp] theorem Qtg {x:List D}{j:Int}:idxD (.tup x) nA=(atI x j).map fun d=>(.fz,d):=by
 simp[idxD,getK,Qd9,idxL]
@[simp] theorem Qp1 {ks:List bR}{xs l:List D}{q:List Key}(h:Qbt l=some q):idxD jS kC=(dGet ks xs q).map fun d=>(.fz,d):=by
 simp only[idxD,getK,Qd9,idxL,h,Option.map_some,Option.or]
 cases dGet ks xs q<;>rfl
@[simp] theorem QvU {g:G1}:eUn g f ev=un1 g bS:=(rfl)
@[simp] theorem QvV {g:G1}:un1 g (.ok k d)=toR (g d):=(rfl)
@[simp] theorem Qth {x:Int}:negD dq=some (.fz, .int (-x)):=(rfl)
@[simp] theorem Qse {g g':G2}{f3:Ev->R}:QfI g g' f1 f2 f3 ev=chnR g g' jL iZ (f3 ev):=(rfl)
def chn2 (g':G2)(o:Option bm)(r2 r3:R):R:=match o with
 |some (_, .bl t)=>if t then op2 g' r2 r3 else .ok .fz cp
 |_=> .no
@[simp] theorem QuL {g g':G2}{r3:R}:chnR g g' (.ok k1 d1) oh r3=chn2 g' (g d1 d2) oh r3:=(rfl)
@[simp] theorem QvW {g':G2}{r2 r3:R}:chn2 g' (some (k, .bl true)) r2 r3=op2 g' r2 r3:=(rfl)
@[simp] theorem QuM {xs:List D}:QjB aH (.int (-1))=some (.ow, .lst xs.reverse):=(rfl)
@[simp] theorem QvX {fl fh:Ev->RO}:eSl f fl fh ev=slR bS (fl ev) (fh ev):=(rfl)
@[simp] theorem QvY:oNo ev= .ok none:=(rfl)
@[simp] theorem Qti:QhB f ev=oS bS:=(rfl)
@[simp] theorem QvZ {x:Int}:oS (.ok k dq)= .ok (some x):=(rfl)
@[simp] theorem Qv0 {l h:Option Int}:slR (.ok k d) i9 (.ok h)=toR (slD d l h):=(rfl)
@[simp] theorem QuN {xs:List D}{l h:Option Int}:slD aH l h=some (.ow, .lst (cutG xs l h)):=(rfl)
@[simp] theorem Qtj {x:Int}:absD [.int x]=some (.fz, .int (if x<0 then-x else x)):=(rfl)
@[simp] theorem Qtk {x:List D}:lenD [.lst x]=some (.fz, .int x.length):=(rfl)
@[simp] theorem Qtl {x:List D}:lenD [.scr x]=some (.fz, .int x.length):=(rfl)
@[simp] theorem Qtm {x:List D}:lenD [.tup x]=some (.fz, .int x.length):=(rfl)
@[simp] theorem Qsf {x:List D}:Qhv [.lst x]=some (.ow, .lst x):=(rfl)
@[simp] theorem QuO {x y:Int}:QlW [.int x, .int y]=some (.fz, .int (min x y)):=by
 show some (Kd.fz,D.int (if y<x then y else x))=_
 congr 3;split<;>omega
end
section
variable {b:B1}{body:Ev->Fl}
theorem QhM (Q : Fl → Prop) (I : List D → Ev → Prop) (step : ∀ d ds ev, I (d :: ds) ev → ∃ ev1, b d ev = some ev1 ∧ match body ev1 with
      | .nx e=>I ds e
      | .ct e=>I ds e
      | .bk e=>Q (.nx e)
      |r=>Q r) (fin:∀ev,I [] ev->Q (.nx ev)):∀{ds:List D} {ev:Ev},I ds ev->Q tZ
 | [],ev,h=>fin ev h
 |d::ds,ev,h=>by
  obtain⟨ev1,e1,m⟩:=step d ds ev h
  rw[forE,e1]
  dsimp only
  cases q:body ev1 with
  |nx e=>rw[q]at m;exact QhM Q I step fin m
  |ct e=>rw[q]at m;exact QhM Q I step fin m
  |bk e=>rw[q]at m;exact m
  |rt k d=>rw[q]at m;exact m
  |ex C=>rw[q]at m;exact m
  |no=>rw[q]at m;exact m
theorem Qcb (lo:Int)(n:Nat):QcA lo n=(List.range n).map fun(i:Nat)=>D.int j8:=rfl
end
theorem Qsg {K:PySem.W.Frag}{H:Hp}{a:Addr}{ns:List Int}{φ:List D->R}{E:XK}(hS:SqL K H a fg)(h:φ [.scr aI]= .ok .fz aT):spV0 K φ 1 [.ref a] H (fun v _=>v= .bl true) E:=by
 refine⟨H,[.scr aI], .refl _, .cons ?_ .nil,rfl,?_⟩
 .rw[Rep]
  refine⟨a,_,rfl,hS,?_⟩
  clear hS h
  induction ns with
  |nil=>exact .nil
  |cons x l ih=>exact .cons (by rw[Rep]) ih
 .rw[h]
  refine⟨by simp,fun F' v H' p=>p.val.rd.bl⟩
end L3
namespace L3
open PySem L2
mutual
def pl:Nat->D->Bool
 |_, .non=>true
 |_, .int _=>true
 |_, .str x=>PyData.strOk x
 |n+1, .tup xs=>plL n xs
 |n+1, .lst xs=>plL n xs
 |_,_=>false
def plL:Nat->List D->Bool
 |_,[]=>true
 |n,d::ds=>pl n d&&plL n ds
end
theorem Qaz {n:Nat}:∀{l:List D},plL n l=true↔∀d∈l,pl n d=true
 | []=>by simp[plL]
 |d::l=>by simp[plL,Qaz (l:=l)]
mutual
theorem Qsh:∀{n:Nat} {d:D},pl n d=true->pl (n+1) d=true
 |_, .non,_=>rfl
 |_, .int _,_=>rfl
 |_, .str _,h=>by simp only[pl]at h⊢;exact h
 |n+1, .tup xs,h=>by simp only[pl]at h⊢;exact QfP h
 |n+1, .lst xs,h=>by simp only[pl]at h⊢;exact QfP h
 |0, .tup _,h=>by simp[pl]at h
 |0, .lst _,h=>by simp[pl]at h
 |_, .bl _,h=>by simp[pl]at h
 |_, .dK _ _,h=>by simp[pl]at h
 |_, .dT _ _,h=>by simp[pl]at h
 |_, .obj _ _ _,h=>by simp[pl]at h
 |_, .scr _,h=>by simp[pl]at h
 |_, .ty _,h=>by simp[pl]at h
theorem QfP:∀{n:Nat} {l:List D},plL n l=true->plL (n+1) l=true
 |_,[],_=>by simp[plL]
 |_,d::l,h=>by
  simp only[plL,Bool.and_eq_true]at h⊢
  exact⟨Qsh h.1,QfP h.2⟩
end
mutual
theorem Qe9:∀{n:Nat} {d:D},pl n d=true->∃p,py d=some p/\p.depth<=n
 |_, .non,_=>⟨.none,rfl,by simp[PyData.depth]⟩
 |_, .int i,_=>⟨.int i,rfl,by simp[PyData.depth]⟩
 |_, .str x,h=>⟨.str x,by simp only[pl]at h;simp[py,h],by simp[PyData.depth]⟩
 |n+1, .tup xs,h=>by
  simp only[pl]at h
  obtain⟨ps,e,hd⟩:=Qdw h
  exact⟨.tuple ps,by simp[py,e],by simp only[PyData.depth];omega⟩
 |n+1, .lst xs,h=>by
  simp only[pl]at h
  obtain⟨ps,e,hd⟩:=Qdw h
  exact⟨.list ps,by simp[py,e],by simp only[PyData.depth];omega⟩
 |0, .tup _,h=>by simp[pl]at h
 |0, .lst _,h=>by simp[pl]at h
 |_, .bl _,h=>by simp[pl]at h
 |_, .dK _ _,h=>by simp[pl]at h
 |_, .dT _ _,h=>by simp[pl]at h
 |_, .obj _ _ _,h=>by simp[pl]at h
 |_, .scr _,h=>by simp[pl]at h
 |_, .ty _,h=>by simp[pl]at h
theorem Qdw:∀{n:Nat} {l:List D},plL n l=true->∃ps,pyL l=some ps/\PyData.depthAll ps<=n
 |n,[],_=>⟨[],rfl,by simp[PyData.depthAll]⟩
 |n,d::l,h=>by
  simp only[plL,Bool.and_eq_true]at h
  obtain⟨p,e1,h1⟩:=Qe9 h.1
  obtain⟨ps,e2,h2⟩:=Qdw h.2
  exact⟨p::ps,by simp[pyL,e1,e2],by simp only[PyData.depthAll];omega⟩
end
inductive PlS:Nat->D->PyData->Prop
 |non {n}:PlS n .non .none
 |int {n} (i):PlS n fV fV
 |str {n} (x):PlS n dY dY
 |tup {n l p} (h:plL n l=true) (e:pyL l=some p):PlS (n+1) kC (.tuple p)
 |lst {n l p} (h:plL n l=true) (e:pyL l=some p):PlS (n+1) pT (.list p)
theorem Qos {n:Nat}{a:D}{p:PyData}(h:pl n a=true)(e:py a=some p):PlS n a p:=by
 cases a with
 |non=>cases e;exact .non
 |int i=>cases e;exact .int i
 |str x=>simp only[pl]at h;simp only[py,h,if_true]at e;cases e;exact .str x
 |tup l=>cases n with
  |zero=>simp[pl]at h
  |succ n=>
   simp only[py,Option.map_eq_some_iff]at e
   obtain⟨ps,e1,rfl⟩:=e
   exact .tup h e1
 |lst l=>cases n with
  |zero=>simp[pl]at h
  |succ n=>
   simp only[py,Option.map_eq_some_iff]at e
   obtain⟨ps,e1,rfl⟩:=e
   exact .lst h e1
 |_=>simp[pl]at h
mutual
theorem QiM:∀{n m:Nat} {a b:D} {p q:PyData},pl n a=true->pl m b=true->py a=some p->py b=some q->(p.eqv q=true↔a=b)
 |n,m,a,b,p,q,ha,hb,ea,eb=>by
  have A:=Qos ha ea
  have B:=Qos hb eb
  clear ha hb ea eb
  cases A with
  |non=>cases B<;>simp[PyData.eqv]
  |int=>cases B<;>simp[PyData.eqv]
  |str=>cases B<;>simp[PyData.eqv]
  |tup h e=>cases B with
   |tup h2 e2=>simp only[PyData.eqv,QjH h h2 e e2,D.tup.injEq]
   |_=>simp[PyData.eqv]
  |lst h e=>cases B with
   |lst h2 e2=>simp only[PyData.eqv,QjH h h2 e e2,D.lst.injEq]
   |_=>simp[PyData.eqv]
theorem QjH:∀{n m:Nat} {a b:List D} {p q:List PyData},plL n a=true->plL m b=true->pyL a=some p->pyL b=some q->(PyData.eqvAll p q=true↔a=b)
 |n,m,[],[],p,q,_,_,ea,eb=>by cases ea;cases eb;simp[PyData.eqvAll]
 |n,m,[],y::b,p,q,_,hb,ea,eb=>by
  cases ea
  simp only[pyL]at eb
  cases e1:py y with
  |none=>rw[e1]at eb;cases eb
  |some u=>rw[e1]at eb;cases e2:pyL b with
   |none=>rw[e2]at eb;cases eb
   |some us=>rw[e2]at eb;cases eb;simp[PyData.eqvAll]
 |n,m,x::a,[],p,q,ha,_,ea,eb=>by
  cases eb
  simp only[pyL]at ea
  cases e1:py x with
  |none=>rw[e1]at ea;cases ea
  |some u=>rw[e1]at ea;cases e2:pyL a with
   |none=>rw[e2]at ea;cases ea
   |some us=>rw[e2]at ea;cases ea;simp[PyData.eqvAll]
 |n,m,x::a,y::b,p,q,ha,hb,ea,eb=>by
  simp only[plL,Bool.and_eq_true]at ha hb
  obtain⟨p1,e1,_⟩:=Qe9 ha.1
  obtain⟨ps,e2,_⟩:=Qdw ha.2
  obtain⟨q1,e3,_⟩:=Qe9 hb.1
  obtain⟨qs,e4,_⟩:=Qdw hb.2
  simp only[pyL,e1,e2,Option.bind_some,Option.map_some,Option.some.injEq]at ea
  simp only[pyL,e3,e4,Option.bind_some,Option.map_some,Option.some.injEq]at eb
  subst ea;subst eb
  simp only[PyData.eqvAll,Bool.and_eq_true,QiM ha.1 hb.1 e1 e3,QjH ha.2 hb.2 e2 e4,List.cons.injEq]
end
noncomputable instance instDecD:DecidableEq D:=fun a b=>Classical.propDecidable (a=b)
theorem QcC {a b:D}(ha:pl 60 a=true)(hb:pl 60 b=true):eqD a b=some (.fz, .bl (decide (a=b))):=by
 obtain⟨p,e1,h1⟩:=Qe9 ha
 obtain⟨q,e2,_⟩:=Qe9 hb
 have h1':p.depth<=DEEP:=h1
 simp only[eqD,e1,e2,if_pos h1']
 congr 3
 rw[Bool.eq_iff_iff,QiM ha hb e1 e2,decide_eq_true_iff]
theorem Qed {a b:D}(ha:pl 60 a=true)(hb:pl 60 b=true):neD a b=some (.fz, .bl (decide (a≠b))):=by
 obtain⟨p,e1,h1⟩:=Qe9 ha
 obtain⟨q,e2,_⟩:=Qe9 hb
 have h1':p.depth<=DEEP:=h1
 simp only[neD,e1,e2,if_pos h1']
 congr 3
 rw[Bool.eq_iff_iff,decide_eq_true_iff,Bool.not_eq_true',←Bool.not_eq_true,QiM ha hb e1 e2]
theorem Qmg {n m:Nat}{a:D}{p:PyData}(ha:pl n a=true)(ea:py a=some p):∀{l:List D} {qs:List PyData},plL m l=true->pyL l=some qs->((qs.any fun q=>q.eqv p)=true↔a∈l)
 | [],_,_,e=>by cases e;simp
 |d::l,qs,h,e=>by
  simp only[plL,Bool.and_eq_true]at h
  obtain⟨q1,e3,_⟩:=Qe9 h.1
  obtain⟨qs',e4,_⟩:=Qdw h.2
  simp only[pyL,e3,e4,Option.bind_some,Option.map_some,Option.some.injEq]at e
  subst e
  rw[List.any_cons,Bool.or_eq_true,QiM h.1 ha e3 ea,Qmg ha ea h.2 e4,List.mem_cons]
  exact or_congr eq_comm Iff.rfl
theorem Qsi {a b:D}{xs:List D}(hx:Qdt b=some xs)(ha:pl 60 a=true)(hb:plL 60 xs=true):inD a b=some (.fz, .bl (decide (a∈xs))):=by
 obtain⟨p,e1,h1⟩:=Qe9 ha
 obtain⟨qs,e2,_⟩:=Qdw hb
 have h1':p.depth<=DEEP:=h1
 have:inL a b=some (.fz, .bl (decide (a∈xs))):=by
  simp only[inL,e1,hx,Option.bind_some,e2,if_pos h1']
  congr 3
  rw[Bool.eq_iff_iff,Qmg ha e1 hb e2,decide_eq_true_iff]
 simp[inD,this]
theorem Qc1 {a b:D}{xs:List D}(hx:Qdt b=some xs)(ha:pl 60 a=true)(hb:plL 60 xs=true):QaF a b=some (.fz, .bl (decide (a∉xs))):=by
 obtain⟨p,e1,h1⟩:=Qe9 ha
 obtain⟨qs,e2,_⟩:=Qdw hb
 have h1':p.depth<=DEEP:=h1
 have:Qdu a b=some (.fz, .bl (decide (a∉xs))):=by
  simp only[Qdu,e1,hx,Option.bind_some,e2,if_pos h1']
  congr 3
  rw[Bool.eq_iff_iff,decide_eq_true_iff,Bool.not_eq_true',←Bool.not_eq_true,Qmg ha e1 hb e2]
 simp[QaF,this]
theorem Qsj {ks:List bR}{xs l:List D}{q:List Key}(h:Qbt l=some q):inD kC jS=some (.fz, .bl (dGet ks xs q).isSome):=by
 have:inL kC jS=none:=by simp only[inL,Qdt,Option.bind_none];split<;>simp_all
 simp[inD,this,hasK,Qd9,h]
theorem QfQ {ks:List bR}{xs l:List D}{q:List Key}(h:Qbt l=some q):QaF kC jS=some (.fz, .bl !(dGet ks xs q).isSome):=by
 have:Qdu kC jS=none:=by simp only[Qdu,Qdt,Option.bind_none];split<;>simp_all
 simp[QaF,this,QhA,Qd9,h]
@[simp] theorem QuP {x y:Int}:eqD dq eF=some (.fz, .bl (decide (x=y))):=by
 rw[QcC (by simp[pl]) (by simp[pl])]
 congr 3
 rw[Bool.eq_iff_iff,decide_eq_true_iff,decide_eq_true_iff];simp
@[simp] theorem QuQ {x y:Int}:neD dq eF=some (.fz, .bl (decide (x≠y))):=by
 rw[Qed (by simp[pl]) (by simp[pl])]
 congr 3
 rw[Bool.eq_iff_iff,decide_eq_true_iff,decide_eq_true_iff];simp
@[simp] theorem QuR {x:List D}:isiD [.lst x, .ty "list"]=some (.fz, .bl true):=(rfl)
@[simp] theorem QuS {x:List D}:isiD [.tup x, .ty "tuple"]=some (.fz, .bl true):=(rfl)
@[simp] theorem QuT {x:Str}:isiD [.str x, .ty "str"]=some (.fz, .bl true):=(rfl)
theorem Qc2 {xs:List D}{i:Nat}{d:D}(h:xs[i]?=some d):atI xs (i:Int)=some d:=QfB h
@[simp] theorem Qwf {d:D}{l:List D}:atI (d::l) 0=some d:=QfB (j:=0) rfl
@[simp] theorem Qwg {a d:D}{l:List D}:atI (a::d::l) 1=some d:=QfB (j:=1) rfl
@[simp] theorem Qwh {a b d:D}{l:List D}:atI (a::b::d::l) 2=some d:=QfB (j:=2) rfl
@[simp] theorem Qwi {a b c d:D}{l:List D}:atI (a::b::c::d::l) 3=some d:=QfB (j:=3) rfl
theorem Qko {n i:Nat}(h:i<n):ixN n (i:Int)=some i:=by
 simp[ixN];omega
end L3
namespace L3
open PySem L2
def Wp (r:Fl)(Q:Fl->Prop):Prop:=Q r
section
variable {r:Fl}{Q:Fl->Prop}{ev e:Ev}{g h h':Ev->Fl}{k:Kd}{d:D}{C:Addr}{b:B1}{body:Ev->Fl}{ds:List D}
@[simp] theorem QnK:QcB r .nx=r:=by cases r<;>rfl
def QfR (I:Ev->Prop)(h:Ev->Fl)(Q:Fl->Prop):Fl->Prop
 | .nx e=>I e
 | .ct e=>I e
 | .bk e=>Wp (h e) Q
 |r=>Q r
@[simp] theorem QuU {I:Ev->Prop}:Wp (.nx e) tf=I e:=(rfl)
@[simp] theorem QuV {I:Ev->Prop}:Wp (.ct e) tf=I e:=(rfl)
@[simp] theorem QuW {I:Ev->Prop}:Wp (.rt k d) tf=Wp (.rt k d) Q:=(rfl)
theorem Qsk (I:List D->Ev->Prop)(step:∀d ds ev,I sR ev->∃ev1,b d ev=some ev1/\Wp uD (QfR (I ds) h Q))(fin:∀ev,I [] ev->Wp uA Q)(h0:I ds ev):Wp (QcB tZ h) Q:=by
 refine QhM (fun r=>Wp (QcB r h) Q) I (fun d ds ev hi=>?_) (fun ev hi=>fin ev hi) h0
 obtain⟨ev1,e1,m⟩:=step d ds ev hi
 refine⟨ev1,e1,?_⟩
 cases q:body ev1<;>rw[q]at m<;>exact m
theorem QaN {β:Type}{enc:β->D}{l:List β}(I:List β->Ev->Prop)(step:∀x xs ev,(∃pre,l=pre++x::xs)->I (x::xs) ev->∃ev1,b rD ev=some ev1/\Wp uD (QfR (I xs) h Q))(fin:∀ev,I [] ev->Wp uA Q)(h0:I l ev):Wp (QcB tY h) Q:=by
 refine Qsk (fun ds ev=>∃xs,ds=xs.map enc/\(∃pre,l=pre++xs)/\I xs ev) ?_ ?_ ⟨l,rfl,⟨[],rfl⟩,h0⟩
 .rintro d ds ev ⟨xs,e,⟨pre,hp⟩,hi⟩
  cases xs with
  |nil=>simp at e
  |cons x xs=>
   simp at e
   obtain⟨rfl,rfl⟩:=e
   obtain⟨ev1,e1,w⟩:=step x xs ev ⟨pre,hp⟩ hi
   refine⟨ev1,e1,?_⟩
   revert w
   cases body ev1 with
   |nx e=>exact fun w=>⟨xs,rfl,⟨pre++ [x],by simp[hp]⟩,w⟩
   |ct e=>exact fun w=>⟨xs,rfl,⟨pre++ [x],by simp[hp]⟩,w⟩
   |_=>exact id
 .rintro ev ⟨xs,e,_,hi⟩
  cases xs with
  |nil=>exact fin ev hi
  |cons x xs=>simp at e
theorem Qfp {β:Type}{enc:β->D}{l:List β}(I:List β->Ev->Prop)(step:∀x xs ev,(∃pre,l=pre++x::xs)->I (x::xs) ev->∃ev1,b rD ev=some ev1/\Wp uD (QfR (I xs) .nx Q))(fin:∀ev,I [] ev->Wp (.nx ev) Q)(h0:I l ev):Wp tY Q:=by
 have:=QaN (b:=b) (body:=body) (enc:=enc) (l:=l) (ev:=ev) (h:= .nx) (Q:=Q) I step fin h0
 rwa [QnK]at this
theorem QjI {t:Bool}(h1:t=true->Wp (QcB iO h') Q)(h2:t=false->Wp (QcB uA h') Q):Wp (QcB pX h') Q:=by
 cases t with
 |true=>exact h1 rfl
 |false=>exact h2 rfl
theorem QeZ {t:Bool}(h1:t=true->Wp iO Q)(h2:t=false->Wp uA Q):Wp pX Q:=by
 cases t with
 |true=>exact h1 rfl
 |false=>exact h2 rfl
theorem Qfq {c:Ev->R}(I:Nat->Ev->Prop)(step:∀m ev,I m ev->(∃k,c ev= .ok k aT/\Wp (body ev) (QfR (fun e=>∃m',m'<m/\I m' e) h Q))\/(∃k,c ev= .ok k cp/\Wp uA Q)):
  ∀{n m:Nat} {ev:Ev},I m ev->m<n->Wp (QcB ul h) Q
 |0,m,ev,_,hm=>by omega
 |n+1,m,ev,hi,hm=>by
  rcases step m ev hi with⟨k,e,w⟩|⟨k,e,w⟩
  .rw[whlE,e]
   dsimp only
   rw[if_pos rfl]
   cases q:body ev with
   |nx e=>rw[q]at w;obtain⟨m',h1,h2⟩:=w;exact Qfq (n:=n) I step h2 aa
   |ct e=>rw[q]at w;obtain⟨m',h1,h2⟩:=w;exact Qfq (n:=n) I step h2 aa
   |bk e=>rw[q]at w;exact w
   |rt k d=>rw[q]at w;exact w
   |ex C=>rw[q]at w;exact w
   |no=>rw[q]at w;exact w
  .rw[whlE,e];exact w
def runQ (P:R->Prop)(r:Fl):Prop:=P (runO r)
@[simp] theorem Qv1 {P:R->Prop}:Wp (.rt .fz d) (runQ P)=P fU:=(rfl)
@[simp] theorem Qv2 {P:R->Prop}:Wp (.rt .ow d) (runQ P)=P jP:=(rfl)
@[elab_as_elim] theorem Qt {motive:R->Prop}(r:R){n:Nat}(e:r=runF n g ds)(w:Wp (g uB) (runQ motive)):motive r:=e▸w
end
theorem Qc3 {b:B1}{e:Ev->R}{ev:Ev}{α:Type}{enc:α->D}{l:List α}(v:α->D)(hn:l.length<LIM)(h:∀x∈l,∃ev1,b rD ev=some ev1/\∃k,k≠Kd.bo/\e ev1= .ok k (v x)):
  QgI b cS e ev (.ok fw)= .ok .ow (.lst (l.map v)):=by
 have:=Qec (b:=b) (c:=conR aT) (e:=e) (ev:=ev) (enc:=enc) (l:=l) (fun _=>true) v hn fun x hx=>by
  obtain⟨ev1,h1,h2⟩:=h x hx
  exact⟨ev1,h1,⟨.fz,rfl⟩,fun _=>h2⟩
 rwa [List.filter_eq_self.2 al]at this
end L3
namespace L3
open PySem L2
section
variable {κ:Type} [DecidableEq κ]
theorem Qkp {k q:κ}{d:D}:∀{ks:List κ} {xs:List D},ks.length=xs.length->k∉ks->dGet (ks++ [k]) (xs++ [d]) q=if q=k then some d else dGet ks xs q
 | [],[],_,_=>by simp[dGet,eq_comm]
 | [],x::xs,h,_=>by simp at h
 |p::ks,[],h,_=>by simp at h
 |p::ks,x::xs,h,hk=>by
  simp only[List.cons_append,dGet]
  rw[Qkp (by simpa using h) (fun z=>hk (by simp[z]))]
  by_cases e:p=q
  .subst e
   have:¬p=k:=fun z=>hk (by simp[z])
   simp[this]
  .simp[e]
theorem Qkq {k q:κ}{d:D}:∀{ks:List κ} {xs:List D},ks.length=xs.length->dGet ks (List.zipWith (fun k' x=>if k'=k then d else x) ks xs) q=if q=k/\k∈ks then some d else dGet ks xs q
 | [],_,_=>by simp[dGet]
 |p::ks,[],h=>by simp at h
 |p::ks,x::xs,h=>by
  simp only[List.zipWith_cons_cons,dGet]
  rw[Qkq (by simpa using h)]
  by_cases e:p=q
  .subst e
   by_cases e2:p=k
   .simp[e2]
   .simp[e2]
  .by_cases e2:q=k
   .subst e2
    have:¬q=p:=fun z=>e z.symm
    simp[e,this]
   .simp[e,e2]
theorem Qfr {k q:κ}{d:D}{ks:List κ}{xs:List D}(h:ks.length=xs.length):dGet (QbB ks k) (QcM ks xs k d) q=if q=k then some d else dGet ks xs q:=by
 unfold QbB QcM
 by_cases hk:k∈ks
 .rw[if_pos hk,if_pos hk,Qkq h];simp[hk]
 .rw[if_neg hk,if_neg hk,Qkp h hk]
theorem QhN {k:κ}{d:D}{ks:List κ}{xs:List D}(h:ks.length=xs.length):(QbB ks k).length=(QcM ks xs k d).length:=by
 unfold QbB QcM
 by_cases hk:k∈ks
 .rw[if_pos hk,if_pos hk];simp[h]
 .rw[if_neg hk,if_neg hk];simp[h]
end
theorem sIx_nat (n d k:Nat):HT.sIx n d (some (k:Int))=min k n:=by
 show(if(k:Int)<0 then((k:Int)+(n:Int)).toNat else min (k:Int).toNat n)=_
 rw[if_neg aa];simp
theorem QnL {α:Type}(xs:List α)(k:Nat):cutG xs none (some (k:Int))=xs.take k:=by
 unfold cutG
 rw[sIx_nat]
 show(xs.drop 0).take (min k xs.length-0)=_
 by_cases h:k<=xs.length
 .rw[Nat.min_eq_left h];simp
 .rw[Nat.min_eq_right aa,List.take_of_length_le al,List.take_of_length_le aa];simp
end L3
namespace L3
open PySem L2 TSrt
@[simp] theorem QqD {φ:List D->R}{b:Bool}{f:Ev->R}{ev:Ev}:Qki φ b f ev=Qkh φ b bS:=(rfl)
theorem Qsl {κ:Type}{lt:κ->κ->Bool}{ks:Nat->κ}{i j:Nat}(h:cN lt ks i j=false):lt re iN=false:=by
 unfold cN at h
 simp only[Bool.or_eq_false_iff]at h
 exact h.1
theorem Qmh {κ:Type}(lt:κ->κ->Bool)(b:Bool)(ks:Nat->κ)(n:Nat):(srtB lt b ks n).Perm lW:=by
 unfold srtB
 split
 .refine(List.reverse_perm _).trans (((Qba ..).map _).trans ?_)
  have e:(List.range n).map (fun i=>n-1-i)=(List.range n).reverse:=by
   apply List.ext_getElem al
   intro i h1 h2
   simp at h1⊢
  rw[e]
  exact List.reverse_perm _
 .exact Qba ..
theorem Qmi {κ:Type}{lt:κ->κ->Bool}(o:Swk lt)(ks:Nat->κ)(n:Nat):(srtB lt true ks n).Pairwise fun i j=>lt re iN=false:=by
 show((srt lt (fun i=>ks (n-1-i)) n).map (fun i=>n-1-i)).reverse.Pairwise _
 rw[List.pairwise_reverse,List.pairwise_map]
 exact(QjD o (fun i=>ks (n-1-i)) n).imp fun h=>Qsl h
theorem Qkr {α:Type}(x0:α)(enc:α->D)(l:List α)(is:List Nat)(h:∀i∈is,i<l.length):QjE is fw=(is.map fun i=>l.getD i x0).map enc:=by
 unfold QjE
 rw[List.map_map]
 refine List.map_congr_left fun i hi=>?_
 have:=h i hi
 simp[this]
theorem QiN {α:Type}(x0:α)(l:List α){is:List Nat}(h:is.Perm (List.range l.length)):(is.map fun i=>l.getD i x0).Perm l:=by
 refine(h.map _).trans ?_
 have:(List.range l.length).map (fun i=>l.getD i x0)=l:=by
  apply List.ext_getElem al
  intro i h1 h2
  simp[h2]
 rw[this]
theorem Qg7 {α:Type}{f:α->Option Int}{key:α->Int}:∀{l:List α},(∀x∈l,f x=some (key x))->QcW (l.map f)=some (l.map key)
 | [],_=>rfl
 |x::l,h=>by
  simp only[List.map_cons,h x al,QcW,Qg7 (l:=l) fun y hy=>h y (by simp[hy])]
  rfl
theorem Qmj {α:Type}(x0:α){enc:α->D}{φ:List D->R}{key:α->Int}{kl:List bR}{l:List α}(hk:∀x∈l,φ [enc x]= .ok .fz (.int (key x)))(hq:QdF fw=some kl)(nd:kl.Nodup)(hn:l.length<=100000):
  ∃l':List α,l'.Perm l/\l'.Pairwise (fun a b=>key b<=key a)/\QeY φ true fw= .ok .ow (.lst (l'.map enc)):=by
 refine⟨(srtB ltI true (fun i=>(l.map key).getD i 0) l.length).map fun i=>l.getD i x0,QiN x0 l (Qmh ..),?_,?_⟩
 .rw[List.pairwise_map]
  refine List.Pairwise.imp_of_mem (fun{i j} hi hj h=>?_) (Qmi swI _ _)
  have hi:=QhF hi
  have hj:=QhF hj
  simp only[ltI,decide_eq_false_iff_not]at h
  simp[hi,hj]at h⊢
  exact h
 .unfold QeY
  rw[List.map_map,Qg7 (f:=intK φ∘enc) (key:=key) fun x hx=>by simp[intK,hk x hx],hq]
  dsimp only
  rw[if_pos ⟨nd,by simpa using hn⟩,List.length_map,Qkr x0 enc l _ fun i hi=>QhF hi]
@[simp] theorem QqE {f:Ev->R}{ev:Ev}:QcY f ev=QiH bS:=(rfl)
@[simp] theorem QqF {k:Kd}{ds:List D}:QiH (.ok k nY)=QcX ds:=(rfl)
def extO (i:Nat)(f:Ev->R)(o:Option eR)(ev:Ev):Fl:=match o with
 |some (some (.ow, .lst ds))=>extR i ds ev bS
 |_=> .no
@[simp] theorem Qtn {i:Nat}{f:Ev->R}{ev:Ev}:extG i f ev=extO i f ev[i]? ev:=(rfl)
@[simp] theorem QuX {i:Nat}{f:Ev->R}{ev:Ev}{ds:List D}:extO i f (some iF) ev=extR i ds ev bS:=(rfl)
@[simp] theorem QuY {i:Nat}{ds es:List D}{ev:Ev}{k:Kd}:extR i ds ev (.ok k (.lst es))=if ds.length+es.length<LIM then .nx gE else .no:=(rfl)
@[simp] theorem QuZ {a b:Bool}:isBD (.bl a) ef=some (.fz, .bl sV):=(rfl)
theorem QiO:∀{x y:List Key},lexK x y=false->lexK y x=false->x=y
 | [],[],_,_=>rfl
 | [],_::_,h,_=>by simp[lexK]at h
 |_::_,[],_,h=>by simp[lexK]at h
 |x::xs,y::ys,h1,h2=>by
  simp only[lexK]at h1 h2
  by_cases e:x=y
  .subst e
   rw[if_pos rfl]at h1 h2
   rw[QiO h1 h2]
  .rw[if_neg e]at h1
   rw[if_neg (fun z=>e z.symm)]at h2
   exact absurd (QjF h1 h2) e
def srtA {α:Type}(x0:α)(kf:α->List Key)(l:List α):List α:=(srt lexK (fun i=>(l.map kf).getD i []) l.length).map fun i=>l.getD i x0
theorem srtA_perm {α:Type}{x0:α}{kf:α->List Key}{l:List α}:(srtA x0 kf l).Perm l:=QiN x0 l (Qba ..)
theorem Qks {α:Type}{x0:α}{kf:α->List Key}{l:List α}:(srtA x0 kf l).Pairwise fun a b=>lexK (kf b) (kf a)=false:=by
 unfold srtA
 rw[List.pairwise_map]
 refine List.Pairwise.imp_of_mem (fun{i j} hi hj h=>?_) (QjD swL (fun i=>(l.map kf).getD i []) l.length)
 have hi:=QeX hi
 have hj:=QeX hj
 have h:=Qsl h
 simp[hi,hj]at h⊢
 exact h
theorem QiP {α:Type}{x0:α}{kf:α->List Key}(inj:∀x y,kf x=kf y->x=y){l m:List α}(h:l.Perm m):srtA x0 kf l=srtA x0 kf m:=
 List.Perm.eq_of_pairwise (fun a b _ _ h1 h2=>inj _ _ (QiO h2 h1)) Qks Qks (srtA_perm.trans (h.trans srtA_perm.symm))
theorem QiQ {α:Type}(x0:α){enc:α->D}{kf:α->List Key}{l:List α}(hq:QdF fw=some uy)(nd:(l.map kf).Nodup)(hs:okSh uy=true)(hn:l.length<=100000):QcX fw= .ok .ow (.lst ((srtA x0 kf l).map enc)):=by
 unfold QcX
 rw[hq]
 dsimp only
 rw[if_pos ⟨nd,hs,by simpa using hn⟩,List.length_map,Qkr x0 enc l _ fun i hi=>QeX hi]
 rfl
theorem Qmk {α:Type}{kf:α->List Key}{sh:List Bool}(hh:sh.head?=some true)(h:∀x,(kf x).map kin=sh)(l:List α):okSh uy=true:=by
 cases l with
 |nil=>rfl
 |cons x l=>
  simp only[List.map_cons,okSh,Bool.and_eq_true,decide_eq_true_eq,List.all_eq_true,List.mem_map]
  refine⟨by rw[←List.head?_map,h];exact hh,?_⟩
  rintro _ ⟨y,_,rfl⟩
  rw[h,h]
end L3
namespace L3
open PySem L2
section
variable {ev:Ev}{f f1 f2:Ev->R}{i j n:Nat}{d:D}{l:List D}{k:Kd}{C:Addr}
@[simp] theorem Qto:Qnn f ev=itT bS:=(rfl)
@[simp] theorem Qu0:itT (.ok .fz kC)= .ok l:=(rfl)
@[simp] theorem Qu1:eCnt f1 f2 ev=cntR jL iZ:=(rfl)
@[simp] theorem Qtp {r:R}:cntR (.ok k pT) r=QpS l r:=(rfl)
@[simp] theorem Qtq:QpS l (.ok k d)=toR (cntD l d):=(rfl)
end
theorem Qot {n m:Nat}{a:D}{p:PyData}(ha:pl n a=true)(ea:py a=some p):∀{l:List D} {qs:List PyData},plL m l=true->pyL l=some qs->(qs.countP fun q=>q.eqv p)=l.countP fun x=>decide (x=a)
 | [],_,_,e=>by cases e;rfl
 |d::l,qs,h,e=>by
  simp only[plL,Bool.and_eq_true]at h
  obtain⟨q1,e3,_⟩:=Qe9 h.1
  obtain⟨qs',e4,_⟩:=Qdw h.2
  simp only[pyL,e3,e4,Option.bind_some,Option.map_some,Option.some.injEq]at e
  subst e
  have:q1.eqv p=decide (d=a):=by rw[Bool.eq_iff_iff,QiM h.1 ha e3 ea,decide_eq_true_iff]
  rw[List.countP_cons,List.countP_cons,Qot ha ea h.2 e4,this]
theorem Qp2 {a:D}{xs:List D}(ha:pl 60 a=true)(hb:plL 60 xs=true):cntD xs a=some (.fz, .int ((xs.countP fun x=>decide (x=a):Nat):Int)):=by
 obtain⟨p,e1,h1⟩:=Qe9 ha
 obtain⟨qs,e2,_⟩:=Qdw hb
 have h1':p.depth<=DEEP:=h1
 simp only[cntD,e1,e2,if_pos h1',Qot ha e1 hb e2]
end L3
namespace L3
open PySem L2
section
variable {ev e:Ev}{f f1 f2 c:Ev->R}{fs ks:Ev->RA}{g h body:Ev->Fl}{k k1 k2:Kd}{d d1 d2:D}{C:Addr}{i n m:Nat}
@[simp] theorem Qu2 {cs:List Str}{x:Str}:eFld cs x f ev=fldR cs x bS:=(rfl)
@[simp] theorem Qtr {x:Str}{tab:MTab}:QcQ x n tab f fs ev=QcP x n tab bS eO:=(rfl)
@[simp] theorem Qts {x:Str}{ns:List Str}{is:List eK}{dv:List D}:QhH x ns is n dv fs ev=QiK x ns is n dv eO:=(rfl)
def Qml (x:Str)(ns:List Str)(o:Option eT):R:=match o with
 |some ds'=> .ok .fz (.obj x ns ds')
 |none=> .no
@[simp] theorem QqG {x:Str}{ns:List Str}{ds:List D}:Qml x ns (some ds)= .ok .fz (.obj x ns ds):=(rfl)
theorem QhO {x:Str}{ns:List Str}{is:List eK}{dv:List D}{l:List bm}{ds:List D}(h:Qbf l=some ds)(hn:ds.length+dv.length+1=n):QiK x ns is n dv i9=Qml x ns (QiI is (ds++dv)):=by
 simp only[QiK,h,if_pos hn];rfl
@[simp] theorem Qu3 {x:Str}{ns:List Str}{is:List eK}{a b:D}:QiK x ns is 3 [] (.ok [(.fz,a),(.fz,b)])=Qml x ns (QiI is [a,b]):=QhO (ds:= [a,b]) (dv:= []) rfl rfl
@[simp] theorem Qtt {x:Str}{ns:List Str}{is:List eK}{a b:D}:QiK x ns is 3 [b] (.ok [(.fz,a)])=Qml x ns (QiI is [a,b]):=QhO (ds:= [a]) (dv:= [b]) rfl rfl
@[simp] theorem Qu4 {x:Str}{ns:List Str}{is:List eK}{a b c:D}:QiK x ns is 4 [] (.ok [(.fz,a),(.fz,b),(.fz,c)])=Qml x ns (QiI is [a,b,c]):=QhO (ds:= [a,b,c]) (dv:= []) rfl rfl
@[simp] theorem Qtu {is:List eK}{ds:List D}:QiI is ds=Qay (none::ds.map fun d=>some (.fz,d)) is:=(rfl)
@[simp] theorem Qp3:Qay ev []=some []:=(rfl)
def Qkt (r:R)(o:Option eT):Option eT:=match r with
 | .ok .bo _=>none
 | .ok _ d=>o.map (d:: ·)
 |_=>none
@[simp] theorem Qou {is:List eK}:Qay ev (f::is)=Qkt bS (Qay ev is):=by
 conv=>lhs;unfold Qay
 unfold Qkt
 cases f ev with
 |ok k d=>cases k<;>rfl
 |ex C=>rfl
 |no=>rfl
@[simp] theorem Qsm {o:Option eT}:Qkt fU o=o.map (d:: ·):=(rfl)
@[simp] theorem Qsn {o:Option eT}:Qkt jP o=o.map (d:: ·):=(rfl)
@[simp] theorem Qu5 {tab:List j6}:eIsC tab f ev=isCD tab bS:=(rfl)
theorem Qso {tab:List j6}{x:Str}{ns:List Str}{xs:List D}{b:Bool}(h:tab.lookup x=some b):isCD tab (.ok k pS)= .ok .fz ef:=by simp only[isCD,h]
theorem QcD {cs:List Str}{y x:Str}{ns:List Str}{xs:List D}(h:x∈cs)(e:(ns.zip xs).lookup y=some d):fldR cs y (.ok k pS)= .ok .fz d:=by simp only[fldR,if_pos h,e]
theorem QbX {x y:Str}{tab:MTab}{ns:List Str}{xs:List D}{l:List bm}{φ:List D->R}(h:y∉ns)(e:tab.lookup x=some φ):QcP y n tab (.ok .fz pS) i9=fnR n φ (.ok ((.fz, .obj x ns xs)::l)):=by
 simp only[QcP,if_neg h,e];rfl
@[simp] theorem Qu6:eTru f ev=truR bS:=(rfl)
@[simp] theorem Qtv {l:List D}:truR (.ok k pT)= .ok .fz (.bl (!l.isEmpty)):=(rfl)
def augR (i:Nat)(o:Option eR)(f:Ev->R)(ev:Ev):Fl:=match o with
 |some (some (.fz, .int a))=>match f ev with
  | .ok _ (.int b)=> .nx eP
  | .ex C=> .ex C
  |_=> .no
 |_=> .no
def Qsp (i:Nat)(a:Int)(r:R)(ev:Ev):Fl:=match r with
  | .ok _ (.int b)=> .nx eP
  | .ex C=> .ex C
  |_=> .no
@[simp] theorem Qu7:augG i f ev=augR i ev[i]? f ev:=(rfl)
@[simp] theorem Qu8 {a:Int}:augR i (some (some (.fz, .int a))) f ev=Qsp i a bS ev:=(rfl)
@[simp] theorem Qsq {a b:Int}:Qsp i a (.ok k (.int b)) ev= .nx eP:=(rfl)
end
end L3
namespace L3
open PySem L2
section
variable {ev e:Ev}{f f1 f2 c:Ev->R}{fs ks:Ev->RA}{g h body:Ev->Fl}{k k1 k2:Kd}{d d1 d2:D}{C:Addr}{i j n m:Nat}
end
end L3
namespace Net
abbrev Stp:=Nat×Nat×Int
abbrev B:=List (Option (Int×List Nat))
def at_ (b:B)(v:Nat):Option (Int×List Nat):=(b[v]?).join
def val (b:B)(v:Nat):Option Int:=(at_ b v).map (·.1)
def start (n h:Nat):B:=(List.replicate n none).set h (some (0,[h]))
inductive W (steps:List Stp)(h:Nat):List Nat->Int->Prop
 |one:W steps h [h] 0
 |more {s g:Nat} {p:List Nat} {t c:Int}:W steps h (s::p) t->(s,g,c)∈steps->W steps h (g::s::p) (t+c)
section
variable {n h:Nat}{steps:List Stp}{b:B}
theorem val_some {v:Nat}{t:Int}(e:val b v=some t):∃w,at_ b v=some (t,w):=by
 unfold val at e
 cases q:at_ b v with
 |none=>rw[q]at e;cases e
 |some z=>obtain⟨t',w⟩:=z;rw[q]at e;simp at e;subst e;exact⟨w,rfl⟩
end
end Net
namespace L3
open PySem L2
section
variable {X:Cx}{pins:List (Addr×Obj)}{σ:St}{H:Hp}{s:Shared}{a:Addr}{c:Value}
structure Turn (fs:List Addr)(a T:Addr)(h h':Heap):Prop where
 keep:∀b o,b∉fs->b≠a->b≠T->h.get? b=some o->h'.get? b=some o
 slot:∀b o,b∈fs->h.get? b=some o->(∀vs,o.data≠ .fields vs)->∃sl,h'.get? b=some {o with slots:=sl}
end
end L3
namespace L3
open PySem L2
section
variable {X:Cx}{pins:List (Addr×Obj)}{σ:St}{H:Hp}{s:Shared}{a:Addr}{c:Value}
end
section
variable {X:Cx}{F0 H0:Hp}{Ψ:Psi}{cls:Addr->Addr}{k n:Nat}{x:Str}{φ:List D->R}{p pos:Pos}{e:Expr}{es:List Expr}{fs:Ev->RA}
end
section
variable {P:Program}{w:World}{K:PySem.W.Frag}{mg:Str->Option Value}{base:Heap}{cls:Addr->Addr}
end
end L3
namespace L3
open PySem L2
section
variable {X:Cx}{pins:List (Addr×Obj)}{σ:St}{H:Hp}{s:Shared}
end
end L3
namespace L3
open PySem L2
section
variable {prog:Program}{w:World}{A:Around}{E:Value->Shared->Prop}{K:PySem.W.Frag}{a C:Addr}{o:Obj}
end
section
variable {X:Cx}{F0 H0:Hp}{Ψ:Psi}{s:Str}{p p2 pos:Pos}
end
end L3
namespace L3
open PySem L2
section
variable {X:Cx}{F0 H0:Hp}{Ψ:Psi}{cls:Addr->Addr}{e e2:Expr}{es:List Expr}{p q:Ev->Bool}{f:Ev->R}{m l:Nat}{pos:Pos}
end
end L3
namespace L3
open PySem L2
section
variable {K:PySem.W.Frag}{mg:Str->Option Value}{cls:Addr->Addr}{c1 c2 c3 c4 HE C0:Addr}{φ:List D->R}{F H:Hp}{d:D}{v:V}
end
end L3
namespace L3
open PySem L2 PySem.SeqAt
section
variable {X:Cx}
end
end L3
namespace L3
open PySem L2
section
variable {K:PySem.W.Frag}{mg:Str->Option Value}{cls:Addr->Addr}{c1 c2 c3 c4 HE C0:Addr}{φ:List D->R}{F H:Hp}{d1 d2:D}{v1 v2:V}
end
end L3
namespace L3
open PySem L2
section
variable {K:PySem.W.Frag}{F:Hp}{a:Addr}{o:Obj}{z:HO}
variable {P:Program}{w:World}
end
section
variable {X:Cx}{F0 H0:Hp}{Ψ:Psi}{k n:Nat}{c:Str}{ns:List Str}{fs:List (Ev->R)}{as:Ev->RA}{e:Expr}{es:List Expr}{p pos:Pos}
end
end L3
namespace L3
open PySem L2
section
variable {n:Nat}{φ:List D->R}{fs:Ev->RA}{ev:Ev}{i:Addr}
end
section
variable {x:Str}{ns:List Str}{is:List (Ev->R)}{n:Nat}{as:Ev->RA}{ev:Ev}
end
end L3
namespace L3
open PySem L2
def Tf (K:PySem.W.Frag)(x q:Str)(st:Stmt)(f:Addr)(dV:Value):Prop:=∃fd,FunD K x q st f dV fd
def Mf (K:PySem.W.Frag)(x q:Str)(st:Stmt)(f:Addr):Prop:=∃fd,Fun K x q st f fd
def Gf (K:PySem.W.Frag)(x:Str)(st:Stmt)(f:Addr):Prop:=PySem.W.nsIn K mainGlobals x=some nH/\Mf K x x st f
section
variable {P:Program}{w:World}{K:PySem.W.Frag}{mg:Str->Option Value}{base h:Heap}{x q c:Str}{st:Stmt}{f C:Addr}{k n:Nat}{φ:List D->R}{ps ns:List Str}{fs:List (Ev->R)}
theorem QiR {oc:Value}{od an:Option Addr}{osl:Array fm}{kV doc pm cdv ct:Value}(l:K.lookup f=some ⟨oc,od, .func (PySem.W.fnOf x q gX fP dP .none kV doc pm an cdv ct),osl⟩)
  (c:PySem.W.codeIn K cdv q=true) (k:PySem.W.keepIn K ca=true):Mf K x q st f:=⟨_,Qrm l c k⟩
theorem Qmm {oc:Value}{od an:Option Addr}{osl:Array fm}{dV kV doc pm cdv ct:Value}(l:K.lookup f=some ⟨oc,od, .func jz,osl⟩)
  (c:PySem.W.codeIn K cdv q=true):Tf K x q st f dV:=⟨_,QpV l c⟩
theorem cal (X:K.In h)(G:h.Ns mainGlobals mg)(a:Gf K x st f)(ok:∀fd,Fun K x x st f fd->FnOk P w K mg base CX0 k f fd ps eX)
  (b:∀(kV doc pm:Value) (an:Option Addr) (cdv ct:Value) (us:List Value),us.length=ps.length->bindArgs iU ⟨us,[]⟩=pure gB:=by intro _ _ _ _ _ _;repeat' (first|exact Qpt rfl|refine Qps fun _=>?_)):Callee P w K mg base k x n φ:=by
 obtain⟨a,fd,F⟩:=a
 exact⟨f,fd,ps,ok fd F,F.binds b,PySem.W.mg_of X G a,F.kp⟩
theorem Qfa {j:Nat}{m:Str}{tab:MTab}(hc:PySem.W.nsIn K mainGlobals c=some eM)(cl:Cls K C)(me:Meth K C m f)(t:Mf K m q st f)(ok:∀fd,Fun K m q st f fd->FnOk P w K mg base CX0 j f fd ps eX)(r:Qaq P w K mg base k m n tab)(hj:j<=k:=by omega)
  (b:∀(kV doc pm:Value) (an:Option Addr) (cdv ct:Value) (us:List Value),us.length=ps.length->bindArgs (PySem.W.fnOf m q gX fP dP .none kV doc pm an cdv ct) ⟨us,[]⟩=pure gB:=by intro _ _ _ _ _ _;repeat' (first|exact Qpt rfl|refine Qps fun _=>?_)):Qaq P w K mg base k m n ((c,φ)::tab):=by
 obtain⟨fd,F⟩:=t
 exact Qme hc cl me (ok fd F) hj (F.binds b) r
theorem Qg8:∀g∈([]:List Str),NoAttr K C g:=fun _ h=>nomatch h
theorem QaO {g:Str}(h:PySem.W.findIn K bV g=some none)(r:∀g∈ns,NoAttr K C g):∀g'∈g::ns,NoAttr K C g':=List.forall_mem_cons.mpr ⟨h,r⟩
theorem mko {dV:Value}{dv:List D}{dvs:List V}{ds:List Value}(X:K.In h)(G:h.Ns mainGlobals mg)(hc:PySem.W.nsIn K mainGlobals c=some eM)(cl:Cls K C)(na:∀g∈ns,NoAttr K C g)(M:Mk K C f)(t:Tf K x q st f dV)(ok:∀fd,FunD K x q st f dV fd->FnOk P w K mg base CX0 k f fd ps (spI K ns fs n))
  (b:∀(kV doc pm:Value) (an:Option Addr) (cdv ct:Value),Binds K jz ps ds) (vl:Vals dvs ds) (rp:∀F,Reps K F dv dvs) (hl:ns.length=fs.length:=by rfl):MkOk P w K mg base k c ns fs n dv:=by
 obtain⟨fd,F⟩:=t
 have ok:=ok fd F
 obtain⟨oc,od,kV,doc,pm,an,cdv,ct,osl,rfl,lk,hcd⟩:=F.ex
 exact⟨C,f,_,ps,dvs,ds,hc,PySem.W.mg_of X G hc,cl,na,M,ok,b kV doc pm an cdv ct,vl,rp,hl⟩
theorem Qsr {fa:Addr}{y:Str}(X:K.In h)(G:h.Ns mainGlobals mg)(hfa:mg "law"=some gL)(a:Gf K "law" st f)(ok:∀base fd,Fun K "law" "law" st f fd->FnOk P w K mg base CX0 k f fd [y] eX)
  (b:∀(kV doc pm:Value) (an:Option Addr) (cdv ct v:Value),bindArgs (PySem.W.fnOf "law" "law" gX fP dP .none kV doc pm an cdv ct) ⟨[v],[]⟩=pure [(y,v)]:=by intros;rfl):
  ∃fd:FuncData,(∀(s:Shared) (v:Value),BindsTo s fd ⟨[v],[]⟩ [(y,v)])/\∀base:Heap,K.In base->base.Ns mainGlobals mg->FnOk P w K mg base CX0 k fa fd [y] eX:=by
 obtain⟨a,fd,F⟩:=a
 have e:=hfa.symm.trans sr
 cases e
 have F':=F
 obtain⟨⟨oc,od,kV,doc,pm,an,cdv,ct,osl,rfl,lk,hcd⟩,_⟩:=F'
 exact⟨_,fun s v=> .of_eq (b kV doc pm an cdv ct v),fun base _ _=>ok base _ F⟩
end
end L3
namespace L2
open PySem PyProof.Rows
section
variable {X:Cx}{a:Expr}{ta:TA}{p p2 pos pos2:Pos}
end
end L2
namespace L3
open PySem L2
section
variable {X:Cx}{F0 H0:Hp}{Ψ:Psi}{a:Expr}{fs:Ev->RA}{p p2 pos pos2:Pos}
end
end L3
namespace PySem
open Sem (wp)
section
variable {prog:Program}{w:World}{A:Around}{R:Result->Shared->Prop}{I:Addr}{fp wr:List Addr}{n:Nat}{P:Nat->Value->Prop}{St:Nat->Heap->Prop}{kw:List (Str×Value)}
end
section
variable {prog:Program}{w:World}{A:Around}{E:Value->Shared->Prop}{s:Shared}{l:Addr}{xs:Array (Int×Tok)}
end
end PySem
namespace L3
open PySem L2
section
variable {X:Cx}{K:PySem.W.Frag}
end
section
variable {X:Cx}{F0 H0:Hp}{Ψ:Psi}{e:Expr}{es:List Expr}{f:Ev->R}{fs:Ev->RA}{p pos kp pc:Pos}{cj}
end
end L3
namespace L2
open PySem PySem.Spec PyProof.Rows
end L2
namespace L3
open PySem L2
section
variable {X:Cx}{F0 H0:Hp}{Ψ:Psi}
end
end L3
namespace L3
open PySem L2
section
variable {X:Cx}{K:PySem.W.Frag}{F H G F' H':Hp}{d:D}{v:V}{ev:Ev}{σ:St}{f:Ev->R}{e:Expr}
def anyE (K:PySem.W.Frag)(f:Ev->R):TE:=fun σ H Q=>∃F0 H0,tV K F0 H0 Psi0 f σ H Q
def anyT (K:PySem.W.Frag)(f:Ev->R):TT:=fun σ H Q=>∃F0 H0,tVT K F0 H0 Psi0 f σ H Q
theorem Qku (h:∀F0 H0,VE X F0 H0 Psi0 e f):PE X e (anyE X.K f):=fun pins s σ H Q I ⟨F0,H0,q⟩=>h F0 H0 pins s σ H Q I q
theorem Qg9 (h:∀F0 H0,VT X F0 H0 Psi0 e f):PT X e (anyT X.K f):=fun pins s σ H Q I ⟨F0,H0,q⟩=>h F0 H0 pins s σ H Q I q
def jn (F G:Hp):Hp:=fun a=>match F a with
 |some o=>some o
 |none=>G a
theorem jn_l {a:Addr}{o:HO}(e:F a=some o):jn F G a=some o:=by simp only[jn,e]
theorem jn_r {a:Addr}(e:F a=none):jn F G a=G a:=by simp only[jn,e]
theorem Qov (s:Same F H)(t:Same G H):Same lK H:=fun a o e=>by
 cases q:F a with
 |some u=>rw[jn_l q]at e;cases e;exact s _ _ q
 |none=>rw[jn_r q]at e;exact t _ _ e
theorem Qu9:Same F lK:=fun a o e=>jn_l e
theorem Qp4 (s:Same F F')(n:∀a o,G a=some o->F' a=none):Same lK (jn F' G):=fun a o e=>by
 cases q:F a with
 |some u=>rw[jn_l q]at e;cases e;exact jn_l (s _ _ q)
 |none=>rw[jn_r q]at e;rw[jn_r (n a o e)];exact e
mutual
def Lin (F:Hp)(L:Addr->Prop):D->V->Prop
 | .lst xs,v=>∃a vs,v= .ref a/\F a=some jj/\L a/\Lins F L xs vs
 | .tup xs,v=>∃a vs,v= .ref a/\F a=some gI/\Lins F L xs vs
 |_,_=>True
def Lins (F:Hp)(L:Addr->Prop):List D->List V->Prop
 | [],_=>True
 |d::ds,vs=>∃v r,vs=v::r/\Lin F L d v/\Lins F L ds r
end
mutual
theorem Lin.mono {L L':Addr->Prop}(s:∀a o,F a=some o->(∀u w,o≠ .frz u w)->F' a=some o)(l:∀a vs,F a=some jj->L a->L' a):∀{d:D} {v:V},Lin F L d v->Lin F' L' d v
 | .lst xs,v,h=>by
  rw[Lin]at h⊢
  obtain⟨a,vs,h1,h2,h3,h4⟩:=h
  exact⟨a,vs,h1,s _ _ h2 (fun _ _ z=>by cases z),l _ _ h2 h3,Lins.mono s l h4⟩
 | .tup xs,v,h=>by
  rw[Lin]at h⊢
  obtain⟨a,vs,h1,h2,h4⟩:=h
  exact⟨a,vs,h1,s _ _ h2 (fun _ _ z=>by cases z),Lins.mono s l h4⟩
 | .non,_,_| .bl _,_,_| .int _,_,_| .str _,_,_| .dK _ _,_,_| .dT _ _,_,_| .obj _ _ _,_,_| .scr _,_,_| .ty _,_,_=>by simp[Lin]
theorem Lins.mono {L L':Addr->Prop}(s:∀a o,F a=some o->(∀u w,o≠ .frz u w)->F' a=some o)(l:∀a vs,F a=some jj->L a->L' a):∀{ds:List D} {vs:List V},Lins F L ds vs->Lins F' L' ds vs
 | [],_,_=>by simp[Lins]
 |d::ds,_,h=>by
  rw[Lins]at h⊢
  obtain⟨v,r,h1,h2,h3⟩:=h
  exact⟨v,r,h1,Lin.mono s l h2,Lins.mono s l h3⟩
end
mutual
theorem Rep.lin {L:Addr->Prop}(h:∀a xs,F a=some aH->L a):∀{d:D} {v:V},Rep K F d v->Lin F L d v
 | .lst xs,v,r=>by
  rw[Rep]at r;rw[Lin]
  obtain⟨a,vs,h1,h2,h3⟩:=r
  exact⟨a,vs,h1,h2,h _ _ h2,Reps.lin h h3⟩
 | .tup xs,v,r=>by
  rw[Rep]at r;rw[Lin]
  obtain⟨a,vs,h1,h2,h3⟩:=r
  exact⟨a,vs,h1,h2,Reps.lin h h3⟩
 | .non,_,_| .bl _,_,_| .int _,_,_| .str _,_,_| .dK _ _,_,_| .dT _ _,_,_| .obj _ _ _,_,_| .scr _,_,_| .ty _,_,_=>by simp[Lin]
theorem Reps.lin {L:Addr->Prop}(h:∀a xs,F a=some aH->L a):∀{ds:List D} {vs:List V},Reps K F ds vs->Lins F L ds vs
 | [],_,_=>by simp[Lins]
 |d::ds,_,r=>by
  rw[Reps]at r;rw[Lins]
  obtain⟨v,t,h1,h2,h3⟩:=r
  exact⟨v,t,h1,Rep.lin h h2,Reps.lin h h3⟩
end
structure Hid (K:PySem.W.Frag)(F H G:Hp)(d:D)(v:V):Prop where
 out:∀a o,G a=some o->F a=none
 sub:Same G H
 rep:Rep K lK d v
 lin:Lin lK (fun a=>∃xs,G a=some aH) d v
theorem Hid.later (h:Hid K F H G d v)(s:Step F H F' H'):Hid K F' H' G d v:=by
 have n:∀a o,G a=some o->F' a=none:=fun a o e=>s.unfz (h.sub _ _ e) (h.out a o e)
 have m:=Qp4 s.up n
 exact⟨n,h.sub.trans s.keep,h.rep.mono m,h.lin.mono (fun a o e _=>m a o e) fun _ _ _ z=>z⟩
structure Fz (K:PySem.W.Frag)(F H:Hp)(ev:Ev)(σ:St):Prop where
 sub:Same F H
 at_:∀(i:Nat) k d,ev[i]?=some dM->k= .fz/\∃v,σ[i]?=some dm/\Rep K F d v
 len:ev.length=σ.length
theorem Fz.fi (z:Fz K F H ev σ):FI K F H F H ev σ:=by
 refine⟨.refl z.sub,fun i k d e=>?_,fun i j d e _ e1 _=>?_,z.len⟩
 .obtain⟨rfl,v,e1,r⟩:=z.at_ i k d e
  exact⟨by simp,v,e1,r⟩
 .cases(z.at_ i _ _ e1).1
theorem Fz.later (z:Fz K F H ev σ)(s:Step F H F' H'):Fz K F' H' ev σ:=⟨s.sub,fun i k d e=>by
 obtain⟨a,v,e1,r⟩:=z.at_ i k d e
 exact⟨a,v,e1,r.mono s.up⟩,z.len⟩
theorem Fz.set {i:Nat}(z:Fz K F H ev σ)(r:Rep K F d v):Fz K F H iu jU:=by
 refine⟨z.sub,fun j k d' e=>?_,by simpa using z.len⟩
 by_cases hj:i=j
 .subst hj
  rw[List.getElem?_set_self']at e
  cases q:ev[i]? with
  |none=>rw[q]at e;cases e
  |some y=>
   rw[q]at e
   cases e
   have hi:i<σ.length:=by rw[←z.len];exact(List.getElem?_eq_some_iff.mp q).1
   exact⟨rfl,v,by rw[List.getElem?_set_self hi],r⟩
 .rw[List.getElem?_set_ne hj]at e⊢
  exact z.at_ j k d' e
theorem Fz.drop {i:Nat}{w:Option V}(z:Fz K F H ev σ):Fz K F H (ev.set i none) (σ.set i w):=by
 refine⟨z.sub,fun j k d' e=>?_,by simpa using z.len⟩
 by_cases hj:i=j
 .subst hj
  rw[List.getElem?_set_self']at e
  cases q:ev[i]? with
  |none=>rw[q]at e;cases e
  |some y=>rw[q]at e;cases e
 .rw[List.getElem?_set_ne hj]at e⊢
  exact z.at_ j k d' e
theorem QnM {i:Nat}{x:Option V}(e:σ[i]?=some x):σ.set i x=σ:=by
 refine List.ext_getElem? fun j=>?_
 by_cases hj:i=j
 .subst hj
  have hi:i<σ.length:=(List.getElem?_eq_some_iff.mp e).1
  rw[List.getElem?_set_self hi,e]
 .rw[List.getElem?_set_ne hj]
theorem Fz.open {i:Nat}(z:Fz K F H ev σ)(h:Hid K F H G d v)(e:σ[i]?=some dm):Fz K lK H iu σ:=by
 have z1:Fz K lK H ev σ:=⟨Qov z.sub h.sub,fun j k d' e'=>by
  obtain⟨a,u,e1,r⟩:=z.at_ j k d' e'
  exact⟨a,u,e1,r.mono Qu9⟩,z.len⟩
 have:=z1.set (i:=i) h.rep
 rw[QnM e]at this;exact this
theorem Qss {b:Bool}{k:Kd}{Q:Bool->Hp->Prop}(z:Fz K F H ev σ)(m:f ev= .ok k ef)(q:∀H',Same H H'->Q b H'):anyT K f σ H Q:=
 ⟨F,H,F,ev,z.fi,by rw[m];exact fun F' H' s=>q H' s.keep⟩
theorem Qp5 {Q:VK}(z:Fz K F H ev σ)(m:f ev= .ok .fz d)(q:∀F' v H',Step F H F' H'->Rep K F' d v->Q v H'):anyE K f σ H Q:=
 ⟨F,H,F,ev,z.fi,by rw[m];exact fun F' v H' p=>q F' v H' p.st p.val⟩
end
end L3
namespace L3
open PySem L2
def spD (K:PySem.W.Frag)(φ:List D->R)(n:Nat):Sp:=fun vs H Q _=>∃F ds ds' d,Same F H/\Reps K F ds vs/\ds.length=n/\Qa1 ds=some ds'/\φ ds'= .ok .fz d/\∀F' v H',Post K F H .fz d F' v H'->Lin F' (fun a=>H a=none) d v->Q v H'
section
variable {P:Program}{w:World}{K:PySem.W.Frag}
theorem QnN {mg:Str->Option Value}{base:Heap}{k n:Nat}{f:Addr}{fd:FuncData}{ps:List Str}{φ:List D->R}(Fk:FnOk P w K mg base CX0 k f fd ps eX):FnOk P w K mg base CX0 k f fd ps (spD K φ n):=by
 refine⟨fun vs H Q E h=>?_,fun A outer s H args us vs Q E hr en hb hv h=>?_⟩
 .obtain⟨F,ds,ds',d,sm,r,hl,e1,e2,m⟩:=h
  refine Fk.len vs (slH (fun _=>some {cls:= .none,data:= .seq #[] 0}) F F) (fun _ _=>True) E ⟨_,ds', .refl _,r.sl (fun _ _ _=>⟨_,rfl⟩) e1,by rw[QfO e1];exact hl,?_⟩
  rw[e2]
  exact⟨by simp,fun _ _ _ _=>trivial⟩
 .obtain⟨F,ds,ds',d,sm,r,hl,e1,e2,m⟩:=h
  have x:=en.hok
  have go:∀a xs,F a=some aH->∃o,s.heap.get? a=some o:=fun a xs e=>QjG x sm e
  have nn:∀{b},H b=none->slH s.heap.get? F H b=none:=fun{b} e=>by rw[Qc0 (fun xs z=>by rw[Qfn sm e]at z;cases z)];exact e
  have ss:Same (slH s.heap.get? F F) (slH s.heap.get? F H):=fun a o e=>by
   rcases isl F a with⟨xs,q⟩|q
   .obtain⟨ob,ho⟩:=go _ _ q
    rw[QhI q ho]at e⊢;exact e
   .rw[Qc0 q]at e⊢;exact sm _ _ e
  have en':Env0 P w K mg base A outer s (slH s.heap.get? F H):=⟨en.frames,en.mod,fun b o e=>⟨(en.bs b o e).1,nn (en.bs b o e).2⟩,en.bsz,en.funs,fun b hb=>nn (en.frf b hb),Qr3 x sm,en.bare⟩
  refine codeAny_mono (Fk.run A outer s (slH s.heap.get? F H) args us vs (fun v H1=>Q v (unH F H1)) E hr en' hb hv ⟨_,ds',ss,r.sl go e1,by rw[QfO e1];exact hl,?_⟩) ?_
  .rw[e2]
   refine⟨by simp,fun F1 v H1 p=>?_⟩
   have g1:∀a xs,F a=some aH->∃o,F1 a=some fW:=fun a xs e=>by
    obtain⟨o,ho⟩:=go _ _ e
    exact⟨o,p.st.up _ _ (QhI e ho)⟩
   have st:=Step.un x sm p.st
   refine m _ v _ ⟨st,Rep.un g1 p.val⟩ ((Rep.lin (L:=fun a=>H a=none) (fun b xs hb'=>?_) p.val).mono (fun a o e n=>?_) fun _ _ _ z=>z)
   .rcases p.st.new _ _ hb' with z|z
    .rcases isl F b with⟨ys,q⟩|q
     .obtain⟨o,ho⟩:=go _ _ q
      rw[QhI q ho]at z;cases z
     .rw[Qc0 q]at z;exact absurd z (q xs)
    .rcases isl F b with⟨ys,q⟩|q
     .obtain⟨o,ho⟩:=go _ _ q
      rw[QhI q ho]at z;cases z
     .rw[Qc0 q]at z;exact z
   .rw[Qdr (fun xs z=>by obtain⟨o',q⟩:=g1 _ _ z;rw[e]at q;cases q;exact n _ _ rfl)];exact e
  .intro r s' hq
   cases r with
   |error e=>exact hq
   |ok fl=>
    cases fl with
    |ret u=>
     obtain⟨v,H1,h1,h2,u1,hk,rv,q⟩:=hq
     have g1:∀a xs,F a=some aH->∃o,H1 a=some fW:=fun a xs e=>by
      obtain⟨o,ho⟩:=go _ _ e
      exact⟨o,u1.frzs _ _ _ (QhI e ho)⟩
     have un:∀{b o},H1 b=some o->(∀o' u,o≠ .frz o' u)->unH F H1 b=some o:=fun{b o} e n=>by
      rw[Qdr (fun xs z=>by obtain⟨o',q⟩:=g1 _ _ z;rw[e]at q;cases q;exact n _ _ rfl)];exact e
     refine⟨v,unH F H1,h1,h2,⟨fun b o e n f x'=>u1.keep b o e (nn n) f x',fun b o e n f x'=>u1.slot b o e (nn n) f x',fun b o e n x'=>?_,u1.there,fun b xs e=>?_,fun b o z e=>?_,fun b pp e=>?_⟩,fun a o e=>?_,rv,q⟩
     .rw[Qdr (fun xs z=>by rw[Qfn sm n]at z;cases z)];exact u1.free b o e (nn n) x'
     .exact un (u1.tups b xs (by rw[Qc0 (Qeb sm e fun _ q=>by cases q)];exact e)) (fun _ _ z=>by cases z)
     .have nl:=Qeb sm e fun _ q=>by cases q
      rw[Qdr nl];exact u1.frzs b o z (by rw[Qc0 nl];exact e)
     .obtain⟨more,hm⟩:=u1.tbls b pp (by rw[Qc0 (Qeb sm e fun _ q=>by cases q)];exact e)
      exact⟨more,un hm (fun _ _ z=>by cases z)⟩
     .have ho:∀b,H1 b=some jD->unH F H1 b=some jD:=fun b z=>un z fun _ _ z=>by cases z
      have ht:∀b xs,H1 b=some cP->unH F H1 b=some cP:=fun b xs z=>un z fun _ _ z=>by cases z
      rcases isl F a with⟨xs,q⟩|q
      .obtain⟨ob,q1⟩:=g1 _ _ q
       rw[Qlc q]at e;cases e
       exact(hk a _ q1).2.stay (fun b u _ z=>z) ho ht
      .rw[Qdr q]at e
       exact(hk a o e).stay (fun b u _ z=>z) ho ht
    |_=>exact hq
end
end L3
namespace L3
open PySem L2
inductive Dsh:Nat->D->Prop
 |no {m:Nat} {x:D}:Dsh (m+1) (.tup [.str cD,x])
 |first {m:Nat} {d:D}:Dsh m d->Dsh (m+1) (.tup [.str bq,d])
 |second {m:Nat} {d:D}:Dsh m d->Dsh (m+1) (.tup [.str bM,d])
 |neither {m:Nat} {d e:D}:Dsh m d->Dsh m e->Dsh (m+1) (.tup [.str cW,d,e])
 |may {m:Nat} {x d:D} {rs ss:List D}:Dsh m d->Dsh (m+1) (.tup [.str dN, .tup [x, .lst rs, .lst ss],d])
 |row {m:Nat} {d:D} {l:List D}:(∀s∈l,∃h x rs ss,s= .tup [h, .tup [x, .lst rs, .lst ss]])->Dsh m d->Dsh (m+1) (.tup [.str cr, .lst l,d])
section
variable {K:PySem.W.Frag}{Z H H' H0:Hp}{L:Addr->Prop}
def Rl (Z:Hp)(L:Addr->Prop)(H:Hp):Prop:=∀a o,Z a=some o->H a=some o\/(L a/\(∃xs,o= .lst xs)/\H a=some gO)
def KO (L:Addr->Prop)(H H':Hp):Prop:=∀a o,¬L a->H a=some o->H' a=some o
theorem Rl.up (r:Rl Z L H)(s:Same H H'):Rl Z L H':=fun a o e=>(r a o e).imp (s _ _) fun⟨h1,h2,h3⟩=>⟨h1,h2,s _ _ h3⟩
theorem Rl.at (r:Rl Z L H){a:Addr}{o:HO}(e:Z a=some o)(n:∀xs,o≠ .lst xs):H a=some o:=by
 rcases r a o e with h|⟨_,⟨xs,h⟩,_⟩
 .exact h
 .exact absurd h (n xs)
theorem Rl.lst (r:Rl Z L H){a:Addr}{xs:List V}(e:Z a=some aH):H a=some aH\/H a=some gO:=(r a _ e).imp id fun⟨_,_,h⟩=>h
theorem Rl.clr (r:Rl Z L H){a:Addr}{xs:List V}(e:Z a=some aH)(l:L a):Rl Z L (upd H a gO):=fun b o q=>by
 by_cases hb:b=a
 .subst hb
  rw[e]at q;cases q
  exact .inr ⟨l,⟨_,rfl⟩,QN⟩
 .rw[Qv hb];exact r b o q
theorem KO.clr (k:KO L H0 H){a:Addr}(l:L a){o:HO}:KO L H0 fv:=fun b u n e=>by
 rw[Qv (fun z=>n (by rw[z];exact l))];exact k b u n e
theorem KO.up (k:KO L H0 H)(s:Same H H'):KO L H0 H':=fun b u n e=>s _ _ (k b u n e)
mutual
theorem Qst (r:Rl Z L H):∀{d:D} {v:V},Rep K Z d v->∃d',Rep K H d' v/\∀s,d= .str s->d'= .str s
 | .non,v,h=>⟨.non,by rw[Rep]at h⊢;exact h,fun _ z=>by cases z⟩
 | .bl b,v,h=>⟨.bl b,by rw[Rep]at h⊢;exact h,fun _ z=>by cases z⟩
 | .int b,v,h=>⟨.int b,by rw[Rep]at h⊢;exact h,fun _ z=>by cases z⟩
 | .str b,v,h=>⟨.str b,by rw[Rep]at h⊢;exact h,fun _ z=>by cases z;rfl⟩
 | .ty b,v,h=>⟨.ty b,by rw[Rep]at h⊢;exact h,fun _ z=>by cases z⟩
 | .tup xs,v,h=>by
  rw[Rep]at h
  obtain⟨a,vs,rfl,h1,h2⟩:=h
  obtain⟨xs',r',_⟩:=Qc4 r h2
  exact⟨.tup xs',by rw[Rep];exact⟨a,vs,rfl,r.at h1 fun _ z=>by(cases z),r'⟩,fun _ z=>by cases z⟩
 | .lst xs,v,h=>by
  rw[Rep]at h
  obtain⟨a,vs,rfl,h1,h2⟩:=h
  obtain⟨xs',r',_⟩:=Qc4 r h2
  rcases r.lst h1 with q|q
  .exact⟨.lst xs',by rw[Rep];exact⟨a,vs,rfl,q,r'⟩,fun _ z=>by cases z⟩
  .exact⟨.lst [],by rw[Rep];exact⟨a,[],rfl,q, .nil⟩,fun _ z=>by cases z⟩
 | .scr xs,v,h=>by
  rw[Rep]at h
  obtain⟨a,vs,rfl,h1,h2⟩:=h
  obtain⟨xs',r',_⟩:=Qc4 r h2
  rcases h1 with(h1|⟨o,h1⟩)|h1
  .rcases r.lst h1 with q|q
   .exact⟨.scr xs',by rw[Rep];exact⟨a,vs,rfl, .inl (.inl q),r'⟩,fun _ z=>by cases z⟩
   .exact⟨.scr [],by rw[Rep];exact⟨a,[],rfl, .inl (.inl q), .nil⟩,fun _ z=>by cases z⟩
  .exact⟨.scr xs',by rw[Rep];exact⟨a,vs,rfl, .inl (.inr ⟨o,r.at h1 fun _ z=>by(cases z)⟩),r'⟩,fun _ z=>by cases z⟩
  .exact⟨.scr xs',by rw[Rep];exact⟨a,vs,rfl, .inr h1,r'⟩,fun _ z=>by cases z⟩
 | .dK ks xs,v,h=>by
  rw[Rep]at h
  obtain⟨a,vs,rfl,h1,h3,h2⟩:=h
  obtain⟨xs',r',_⟩:=Qc4 r h2
  exact⟨.dK ks xs',by rw[Rep];exact⟨a,vs,rfl,r.at h1 fun _ z=>by(cases z),h3,r'⟩,fun _ z=>by cases z⟩
 | .dT ks xs,v,h=>by
  rw[Rep]at h
  obtain⟨a,vs,rfl,h1,h3,h2⟩:=h
  obtain⟨xs',r',_⟩:=Qc4 r h2
  exact⟨.dT ks xs',by rw[Rep];exact⟨a,vs,rfl,r.at h1 fun _ z=>by(cases z),h3,r'⟩,fun _ z=>by cases z⟩
 | .obj c ns xs,v,h=>by
  rw[Rep]at h
  obtain⟨a,C,dx,vs,rfl,h0,h1,h3,h2⟩:=h
  obtain⟨xs',r',_⟩:=Qc4 r h2
  exact⟨.obj c ns xs',by rw[Rep];exact⟨a,C,dx,vs,rfl,h0,r.at h1 fun _ z=>by(cases z),h3,r'⟩,fun _ z=>by cases z⟩
theorem Qc4 (r:Rl Z L H):∀{ds:List D} {vs:List V},Reps K Z ds vs->∃ds',Reps K H ds' vs/\∀s t,ds= .str s::t->∃t',ds'= .str s::t'
 | [],vs,h=>⟨[],by rw[Reps]at h⊢;exact h,fun _ _ z=>by cases z⟩
 |d::ds,_,h=>by
  rw[Reps]at h
  obtain⟨v,t,rfl,h1,h2⟩:=h
  obtain⟨d',r1,e1⟩:=Qst r h1
  obtain⟨ds',r2,_⟩:=Qc4 r h2
  exact⟨d'::ds',by rw[Reps];exact⟨v,t,rfl,r1,r2⟩,fun s t z=>by cases z;exact⟨ds',by rw[e1 s rfl]⟩⟩
end
def px1 (K:PySem.W.Frag)(i:Nat)(j:Int):TE:=tOp (rIx K) gk (tC nA)
def px2 (K:PySem.W.Frag)(i:Nat)(j k:Int):TE:=tOp (rIx K) (px1 K i j) (tC (.int k))
def clrT (K:PySem.W.Frag)(t:TE):TS:=Qls (tBM0 K "list" QlJ t)
def recT (sp:Sp)(t:TE):TS:=Qls (Qrc sp [] E0 (QkX t tNil))
theorem ix_t {a:Addr}{vs:List V}{j:Nat}{w:V}{Q:VK}(h:H a=some gI)(e:vs[j]?=some w)(q:Q w H):rIx K bv (.int (j:Int)) H Q:= .inr (.inl ⟨a,vs,(j:Int),w,rfl,rfl,SqT.of h,QrW e,q⟩)
theorem Qmn {σ:St}{i j:Nat}{a:Addr}{vs:List V}{w:V}{Q:VK}(hs:σ[i]?=some je)(h:H a=some gI)(e:vs[j]?=some w)(q:Q w H):px1 K i (j:Int) σ H Q:=⟨_,hs,ix_t h e q⟩
theorem Qkv {σ:St}{i j k:Nat}{a b:Addr}{vs us:List V}{w:V}{Q:VK}(hs:σ[i]?=some je)(h:H a=some gI)(e:vs[j]?=some pP)(h2:H b=some (.tup us))(e2:us[k]?=some w)(q:Q w H):px2 K i (j:Int) (k:Int) σ H Q:=⟨_,hs,ix_t h e (ix_t h2 e2 q)⟩
theorem Qmo {l:Addr}{us:List V}{σ:St}{E:Ends}(h:H l=some (.lst us))(q:E.nx σ (upd H l gO)):tyV K "list" tF H/\QlJ tF [] H fun _ H1=>E.nx σ H1:=⟨.inl ⟨rfl,us,SqL.of h⟩,l,us,rfl,rfl,h,q⟩
structure Zt (Z:Hp)(L:Addr->Prop)(H0:Hp)(v:V)(σ:St)(H:Hp):Prop where
 rl:Rl Z L H
 ko:KO L H0 H
 s0:σ[0]?=some dm
 len:σ.length=2
def spZ (K:PySem.W.Frag)(m:Nat):Sp:=fun vs H Q _=>∃Z L v d,vs= [v]/\Dsh m d/\Rep K Z d v/\Lin Z L d v/\Rl Z L H/\∀H',Rl Z L H'->KO L H H'->Q .non H'
variable {v:V}{σ:St}
theorem Zt.clr (z:Zt Z L H0 v σ H){a:Addr}{xs:List V}(e:Z a=some aH)(l:L a):Zt Z L H0 v σ (upd H a gO):=⟨z.rl.clr e l,z.ko.clr l,z.s0,z.len⟩
theorem Zt.up (z:Zt Z L H0 v σ H)(s:Same H H'):Zt Z L H0 v σ H':=⟨z.rl.up s,z.ko.up s,z.s0,z.len⟩
theorem Zt.sub (z:Zt Z L H0 v σ H){m:Nat}{d:D}{w:V}{E:Ends}(hd:Dsh m d)(r:Rep K Z d w)(l:Lin Z L d w)(q:∀H',Zt Z L H0 v σ H'->E.nx σ H'):spZ K m ([w]++ []) H (fun _ H1=>E.nx σ H1) E0:=
 ⟨Z,L,w,d,rfl,hd,r,l,z.rl,fun H' r' k=>q H' ⟨r',fun a o n e=>k a o n (z.ko a o n e),z.s0,z.len⟩⟩
theorem Zt.test (z:Zt Z L H0 v σ H){s:Str}{ds:List D}{f:Ev->R}{b:Bool}{Q:Bool->Hp->Prop}(r:Rep K Z (.tup (.str s::ds)) v)(m:∀t,f [some (.fz, .tup uV),none]= .ok .fz ef)(q:∀H',Zt Z L H0 v σ H'->Q b H'):anyT K f σ H Q:=by
 rw[Rep]at r
 obtain⟨a,vs,rfl,h1,h2⟩:=r
 obtain⟨ds',r',e⟩:=Qc4 z.rl h2
 obtain⟨t,rfl⟩:=e s ds rfl
 have hr:Rep K H (.tup uV) bv:=by rw[Rep];exact⟨a,vs,rfl,z.rl.at h1 fun _ z=>by(cases z),r'⟩
 have fz:Fz K H H [some (.fz, .tup uV),none] σ:=by
  refine⟨fun _ _ e=>e,fun i k d e=>?_,by rw[z.len];rfl⟩
  match i,e with
  |0,e=>simp at e;obtain⟨rfl,rfl⟩:=e;exact⟨rfl,_,z.s0,hr⟩
  |1,e=>simp at e
  |i+2,e=>simp at e
 exact Qss fz (m t) fun H' s=>q H' (z.up s)
def empT (K:PySem.W.Frag)(f1 f2 f3 f4:Ev->R)(sp:Sp):TS:=
 tSeq (tIfS (anyT K f1) (tSeq (clrT K (px2 K 0 1 1)) (tSeq (clrT K (px2 K 0 1 2)) iq)) Qe3)
 (tSeq (tIfS (anyT K f2) (tSeq (tFor (QoM K sL) (QdD 1) (tSeq (clrT K (px2 K 1 1 1)) (clrT K (px2 K 1 1 2)))) (tSeq (clrT K sL) iq)) Qe3)
 (tSeq (tIfS (anyT K f3) ir Qe3)
 (tIfS (anyT K f4) (tSeq ir iq) Qe3)))
def Qee (f:Ev->R)(y:List String):Prop:=∀s∈ ["no","first","second","neither","may","row"],∀t,f [some (.fz, .tup tE),none]= .ok .fz (.bl (decide (s∈y)))
theorem QfS {xs:List D}{v:V}(r:Rep K Z cP v)(l:Lin Z L cP v):∃a vs,v= .ref a/\Z a=some gI/\Reps K Z xs vs/\Lins Z L xs vs:=by
 rw[Rep]at r;rw[Lin]at l
 obtain⟨a,vs,rfl,h1,h2⟩:=r
 obtain⟨a',vs',e,h3,h4⟩:=l
 cases e
 rw[h1]at h3;cases h3
 exact⟨a,vs,rfl,h1,h2,h4⟩
theorem Qmp {xs:List D}{v:V}(r:Rep K Z aH v)(l:Lin Z L aH v):∃a vs,v= .ref a/\Z a=some jj/\L a/\Reps K Z xs vs/\Lins Z L xs vs:=by
 rw[Rep]at r;rw[Lin]at l
 obtain⟨a,vs,rfl,h1,h2⟩:=r
 obtain⟨a',vs',e,h3,h5,h4⟩:=l
 cases e
 rw[h1]at h3;cases h3
 exact⟨a,vs,rfl,h1,h5,h2,h4⟩
theorem Q6 {d:D}{ds:List D}{vs:List V}(r:Reps K Z sR vs)(l:Lins Z L sR vs):∃v t,vs=v::t/\Rep K Z d v/\Lin Z L d v/\Reps K Z ds t/\Lins Z L ds t:=by
 rw[Reps]at r;rw[Lins]at l
 obtain⟨v,t,rfl,h1,h2⟩:=r
 obtain⟨v',t',e,h3,h4⟩:=l
 cases e
 exact⟨v,t,rfl,h1,h3,h2,h4⟩
theorem Qow:∀{ds:List D} {vs:List V} {i:Nat} {w:V},Reps K Z ds vs->Lins Z L ds vs->vs[i]?=some w->∃d,d∈ds/\Rep K Z d w/\Lin Z L d w
 | [],vs,i,w,r,_,e=>by rw[r.unnil]at e;simp at e
 |d::ds,vs,i,w,r,l,e=>by
  obtain⟨v,t,rfl,r1,l1,r2,l2⟩:=Q6 r l
  cases i with
  |zero=>simp at e;subst e;exact⟨d,by simp,r1,l1⟩
  |succ i=>
   obtain⟨d',h1,h2⟩:=Qow r2 l2 (by simpa using e)
   exact⟨d',by simp[h1],h2⟩
theorem Qmq {x:D}{rs ss:List D}{v:V}(r:Rep K Z qq v)(l:Lin Z L qq v):∃b w0 l1 l2 u1 u2,v= .ref b/\Z b=some i8/\Z l1=some (.lst u1)/\L l1/\Z l2=some (.lst u2)/\L l2:=by
 obtain⟨b,vs,rfl,h1,r,l⟩:=QfS r l
 obtain⟨w0,t,rfl,_,_,r,l⟩:=Q6 r l
 obtain⟨w1,t,rfl,r1,l1,r,l⟩:=Q6 r l
 obtain⟨w2,t,rfl,r2,l2,r,l⟩:=Q6 r l
 obtain rfl:=r.unnil
 obtain⟨a1,u1,rfl,e1,k1,_⟩:=Qmp r1 l1
 obtain⟨a2,u2,rfl,e2,k2,_⟩:=Qmp r2 l2
 exact⟨b,w0,a1,a2,u1,u2,rfl,h1,e1,k1,e2,k2⟩
theorem Rl.some (r:Rl Z L H){a:Addr}{xs:List V}(e:Z a=some aH):∃us,H a=some (.lst us):=by
 rcases r.lst e with h|h
 .exact⟨_,h⟩
 .exact⟨_,h⟩
theorem Qp6 {i a b l1 l2:Nat}{w0:V}{vs u1 u2:List V}{E:Ends}(z:Zt Z L H0 v σ H)(hs:σ[i]?=some je)(ha:Z a=some gI)(hb:vs[1]?=some pP)(h1:Z b=some i8)(e1:Z l1=some (.lst u1))(k1:L l1)(e2:Z l2=some (.lst u2))(k2:L l2){t:TS}
  (q:∀H',Zt Z L H0 v σ H'->t E σ H'):tSeq sT (tSeq sS t) E σ H:=by
 obtain⟨x1,q1⟩:=z.rl.some e1
 have z1:=z.clr e1 k1
 obtain⟨x2,q2⟩:=z1.rl.some e2
 have z2:=z1.clr e2 k2
 refine Qkv (j:=1) (k:=1) hs (z.rl.at ha fun _ z=>by(cases z)) hb (z.rl.at h1 fun _ z=>by(cases z)) rfl (Qmo q1 ?_)
 refine Qkv (j:=1) (k:=2) hs (z1.rl.at ha fun _ z=>by(cases z)) hb (z1.rl.at h1 fun _ z=>by(cases z)) rfl (Qmo q2 ?_)
 exact q _ z2
end
end L3
namespace L3
open PySem L2
section
variable {K:PySem.W.Frag}{Z H H' H0:Hp}{L:Addr->Prop}{v:V}{σ:St}{f f1 f2 f3 f4:Ev->R}{y:List String}{s:String}{ds:List D}{E:Ends}{t:TS}{m:Nat}
theorem QbD (h:Qee f y)(hs:s∈ ["no","first","second","neither","may","row"])(hy:s∉y)(r:Rep K Z mT v)(z:Zt Z L H0 v σ H)(q:∀H',Zt Z L H0 v σ H'->E.nx σ H'):tIfS uF t Qe3 E σ H:=
 z.test r (h s hs) fun H' z'=>by rw[decide_eq_false hy,if_neg al];exact q H' z'
theorem QiS (h:Qee f y)(hs:s∈ ["no","first","second","neither","may","row"])(hy:s∈y)(r:Rep K Z mT v)(z:Zt Z L H0 v σ H)(q:∀H',Zt Z L H0 v σ H'->t E σ H'):tIfS uF t Qe3 E σ H:=
 z.test r (h s hs) fun H' z'=>by rw[decide_eq_true hy,if_pos rfl];exact q H' z'
abbrev row3 (K:PySem.W.Frag)(f3:Ev->R)(sp:Sp):TS:=tIfS (anyT K f3) ir Qe3
abbrev row4 (K:PySem.W.Frag)(f4:Ev->R)(sp:Sp):TS:=tIfS (anyT K f4) (tSeq ir iq) Qe3
theorem Qha {a:Addr}{vs:List V}{d1:D}{w:V}(j:Nat)(ha:Z a=some gI)(e:vs[j]?=some w)(h:Dsh m d1)(r:Rep K Z d1 w)(l:Lin Z L d1 w)(z:Zt Z L H0 bv σ H)(q:∀H',Zt Z L H0 bv σ H'->E.nx σ H'):recT gz (px1 K 0 (j:Int)) E σ H:=
 Qmn z.s0 (z.rl.at ha fun _ z=>by(cases z)) e (z.sub h r l q)
theorem Qp7 (t3:Qee f3 ["first","second"])(t4:Qee f4 ["neither"])(hk:s∈ ["no","first","second","neither","may","row"])(h3:s∉ ["first","second"])(h4:s∉ ["neither"])(r:Rep K Z mT v)(z:Zt Z L H0 v σ H)(q:∀σ' H',Zt Z L H0 v σ' H'->E.nx σ' H'):tSeq (row3 K f3 gz) (row4 K f4 gz) E σ H:=
 QbD t3 hk h3 r z fun H' z'=>QbD t4 hk h4 r z' fun H'' z''=>q σ H'' z''
theorem QnO {i a b l1 l2:Nat}{w0:V}{vs u1 u2:List V}(z:Zt Z L H0 v σ H)(hs:σ[i]?=some je)(ha:Z a=some gI)(hb:vs[1]?=some pP)(h1:Z b=some i8)(e1:Z l1=some (.lst u1))(k1:L l1)(e2:Z l2=some (.lst u2))(k2:L l2)
  (q:∀H',Zt Z L H0 v σ H'->E.nx σ H'):tSeq sT sS E σ H:=by
 obtain⟨x1,q1⟩:=z.rl.some e1
 have z1:=z.clr e1 k1
 obtain⟨x2,q2⟩:=z1.rl.some e2
 refine Qkv (j:=1) (k:=1) hs (z.rl.at ha fun _ z=>by(cases z)) hb (z.rl.at h1 fun _ z=>by(cases z)) rfl (Qmo q1 ?_)
 refine Qkv (j:=1) (k:=2) hs (z1.rl.at ha fun _ z=>by(cases z)) hb (z1.rl.at h1 fun _ z=>by(cases z)) rfl (Qmo q2 ?_)
 exact q _ (z1.clr e2 k2)
theorem Qp8 {d:D}(t1:Qee f1 ["may"])(t2:Qee f2 ["row"])(t3:Qee f3 ["first","second"])(t4:Qee f4 ["neither"])(hd:Dsh (m+1) d)(r:Rep K Z d v)(l:Lin Z L d v)(z:Zt Z L H0 v σ H)(q:∀σ' H',Zt Z L H0 v σ' H'->E.nx σ' H'):empT K f1 f2 f3 f4 gz E σ H:=by
 cases hd with
 |no=>exact QbD t1 al al r z fun H1 z1=>QbD t2 al al r z1 fun H2 z2=>Qp7 t3 t4 al al al r z2 q
 |first hd=>
  obtain⟨a,vs,rfl,ha,rs,ls⟩:=QfS r l
  obtain⟨w0,ws,rfl,_,_,rs,ls⟩:=Q6 rs ls
  obtain⟨w1,ws,rfl,r1,l1,rs,ls⟩:=Q6 rs ls
  exact QbD t1 al al r z fun H1 z1=>QbD t2 al al r z1 fun H2 z2=>QiS t3 al al r z2 fun H3 z3=>Qha 1 ha rfl hd r1 l1 z3 fun H4 z4=>QbD t4 al al r z4 fun H5 z5=>q _ _ z5
 |second hd=>
  obtain⟨a,vs,rfl,ha,rs,ls⟩:=QfS r l
  obtain⟨w0,ws,rfl,_,_,rs,ls⟩:=Q6 rs ls
  obtain⟨w1,ws,rfl,r1,l1,rs,ls⟩:=Q6 rs ls
  exact QbD t1 al al r z fun H1 z1=>QbD t2 al al r z1 fun H2 z2=>QiS t3 al al r z2 fun H3 z3=>Qha 1 ha rfl hd r1 l1 z3 fun H4 z4=>QbD t4 al al r z4 fun H5 z5=>q _ _ z5
 |neither hd he=>
  obtain⟨a,vs,rfl,ha,rs,ls⟩:=QfS r l
  obtain⟨w0,ws,rfl,_,_,rs,ls⟩:=Q6 rs ls
  obtain⟨w1,ws,rfl,r1,l1,rs,ls⟩:=Q6 rs ls
  obtain⟨w2,ws,rfl,r2,l2,rs,ls⟩:=Q6 rs ls
  exact QbD t1 al al r z fun H1 z1=>QbD t2 al al r z1 fun H2 z2=>QbD t3 al al r z2 fun H3 z3=>QiS t4 al al r z3 fun H4 z4=>Qha 1 ha rfl hd r1 l1 z4 fun H5 z5=>Qha 2 ha rfl he r2 l2 z5 fun H6 z6=>q _ _ z6
 |may hd=>
  obtain⟨a,vs,rfl,ha,rs,ls⟩:=QfS r l
  obtain⟨w0,ws,rfl,_,_,rs,ls⟩:=Q6 rs ls
  obtain⟨w1,ws,rfl,r1,l1,rs,ls⟩:=Q6 rs ls
  obtain⟨w2,ws,rfl,r2,l2,rs,ls⟩:=Q6 rs ls
  obtain⟨b,u0,k1,k2,x1,x2,rfl,hb,e1,g1,e2,g2⟩:=Qmq r1 l1
  exact QiS t1 al al r z fun H1 z1=>Qp6 z1 z1.s0 ha rfl hb e1 g1 e2 g2 fun H2 z2=>Qha 2 ha rfl hd r2 l2 z2 fun H3 z3=>QbD t2 al al r z3 fun H4 z4=>Qp7 t3 t4 al al al r z4 q
 | @row _ d2 l hl hd=>
  obtain⟨a,vs,rfl,ha,rs,ls⟩:=QfS r l
  obtain⟨w0,ws,rfl,_,_,rs,ls⟩:=Q6 rs ls
  obtain⟨w1,ws,rfl,r1,l1,rs,ls⟩:=Q6 rs ls
  obtain⟨w2,ws,rfl,r2,l2,rs,ls⟩:=Q6 rs ls
  obtain⟨p,us,rfl,hp,gp,ru,lu⟩:=Qmp r1 l1
  refine QbD t1 al al r z fun H1 z1=>QiS t2 al al r z1 fun H2 z2=>?_
  obtain⟨us2,e2⟩:=z2.rl.some hp
  refine Qmn (j:=1) z2.s0 (z2.rl.at ha fun _ z=>by(cases z)) rfl ⟨p,rfl,⟨us2,SqL.of e2⟩,fun i k σ H=>k=us.length-i/\Zt Z L H0 bv σ H,⟨_,rfl,z2⟩,fun i k σ H ⟨hm,zi⟩=>?_⟩
  have after:∀σ H,Zt Z L H0 bv σ H->tSeq (clrT K sL) (recT gz (px1 K 0 2)) {E with nx:=tSeq (row3 K f3 gz) (row4 K f4 gz) E} σ H:=fun σ H z=>by
   obtain⟨x,e⟩:=z.rl.some hp
   exact Qmn (j:=1) z.s0 (z.rl.at ha fun _ z=>by(cases z)) rfl (Qmo e (Qha 2 ha rfl hd r2 l2 (z.clr hp gp) fun H' z'=>Qp7 t3 t4 al al al r z' q))
  rcases zi.rl.lst hp with e|e
  .by_cases hi:i<us.length
   .refine .inr ⟨⟨us,us[i],SqL.of e,List.getElem?_eq_getElem hi⟩,fun σ' H'=>Zt Z L H0 bv σ' H',fun σ' H' z'=>⟨us.length-(i+1),by omega,rfl,z'⟩,?_⟩
    rintro x H' ⟨rfl,hx⟩
    obtain⟨d3,hd3,r3,l3⟩:=Qow ru lu (hx us (SqL.of e))
    obtain⟨h,x0,rs3,ss3,rfl⟩:=hl d3 hd3
    obtain⟨a3,vs3,rfl,ha3,rs,ls⟩:=QfS r3 l3
    obtain⟨y0,ys,rfl,_,_,rs,ls⟩:=Q6 rs ls
    obtain⟨y1,ys,rfl,r4,l4,rs,ls⟩:=Q6 rs ls
    obtain⟨b,u0,k1,k2,x1,x2,rfl,hb,e1,g1,e3,g2⟩:=Qmq r4 l4
    have h1:1<σ.length:=by rw[zi.len];decide
    have z3:Zt Z L H0 bv (σ.set 1 (some (.ref a3))) H':=⟨zi.rl,zi.ko,by rw[List.getElem?_set_ne ah];exact zi.s0,by rw[List.length_set];exact zi.len⟩
    exact QnO (i:=1) z3 (List.getElem?_set_self h1) ha3 rfl hb e1 g1 e3 g2 fun H2 z4=>z4
   .exact .inl ⟨⟨us,SqL.of e,by omega⟩,after σ H zi⟩
  .exact .inl ⟨⟨[],SqL.of e,by simp⟩,after σ H zi⟩
end
end L3
namespace L3
open PySem L2
section
variable {P:Program}{w:World}{K:PySem.W.Frag}{mg:Str->Option Value}{base:Heap}
theorem Qox {x qual:Str}{st:Stmt}{f:Addr}{fd:FuncData}{N ps:List Str}{f1 f2 f3 f4:Ev->R}(F:Fun K x qual st f fd)(S:FnScope N ps dP)(hps:ps.length=1)(hN:N.length=2)
  (t1:Qee f1 ["may"]) (t2:Qee f2 ["row"]) (t3:Qee f3 ["first","second"]) (t4:Qee f4 ["neither"])
  (hb:∀(k:Nat) (sp:Sp),FnOk P w K mg base CX0 k f fd ps sp->∀(cdv:Value) (A:Around) (outer:List Env) (s:Shared) (H:Hp) (E:XK),Room k bU->
   PSs (cxOf CX0 P w K mg base N qual dP f cdv A outer s H E).nox fP (empT K f1 f2 f3 f4 sp)):∀m,FnOk P w K mg base CX0 (m+1) f fd ps gz
 |0=>F.ok S (fun vs H Q E ⟨_,_,_,_,e,_⟩=>by rw[e,hps];rfl) fun cdv A outer s H vs Q E hr ⟨_,_,_,_,_,h,_⟩=>by cases h
 |m+1=>F.ok S (fun vs H Q E ⟨_,_,_,_,e,_⟩=>by rw[e,hps];rfl) fun cdv A outer s H vs Q E hr h=>by
  obtain⟨Z,L,v,d,rfl,hd,r,l,rl,q⟩:=h
  exact⟨_,hb (m+1) gz (Qox F S hps hN t1 t2 t3 t4 hb m) cdv A outer s H E hr,Qp8 t1 t2 t3 t4 hd r l ⟨rl,fun _ _ _ e=>e,by simp[L2.start],by simp[L2.start,hN]⟩ fun σ' H' z=>q H' z.rl z.ko⟩
end
section
variable {X:Cx}{o e:Expr}{es:List Expr}{g:Ev->R}{fs:Ev->RA}{pos apos:Pos}
def anyA (K:PySem.W.Frag)(f:Ev->RA):TA:=fun σ H Q=>∃F0 H0,tVA K F0 H0 Psi0 f σ H Q
theorem Qsu (h:∀F0 H0,VA X F0 H0 Psi0 es fs):PA X es (anyA X.K fs):=fun p pins s σ H Q I ⟨F0,H0,q⟩=>h F0 H0 p pins s σ H Q I q
structure Tells (m:Str)(n:Nat)(tab:MTab)(g:Ev->R)(fs:Ev->RA)(ev:Ev)(d:D):Prop where
 ex:∃c ns xs φ ds ds',g ev= .ok .fz g8/\m∉ns/\tab.lookup c=some φ/\fs ev= .ok (ds.map fun d=>(.fz,d))/\ds.length+1=n/\Qa1 (.obj c ns xs::ds)=some ds'/\φ ds'= .ok .fz d
def dbtT (K:PySem.W.Frag)(m:Str)(n:Nat)(tab:MTab)(g:Ev->R)(fs:Ev->RA):TE:=fun σ H Q=>∃F ev d,Fz K F H ev σ/\Tells m n tab g fs ev d/\∀F' v H',Step F H F' H'->Rep K F' d v->Lin F' (fun a=>H a=none) d v->Q v H'
theorem Qmr {K:PySem.W.Frag}{F H H':Hp}:∀{ds:List D} {vs:List V},ValA K F H H' (ds.map fun d=>(.fz,d)) vs->Reps K F ds vs
 | [],_,h=>by rw[Reps];exact h
 |d::ds,_,h=>by
  obtain⟨v,r,rfl,_,h1,h2⟩:=h
  rw[Reps];exact⟨v,r,rfl,h1,Qmr h2⟩
theorem Qkw {k n:Nat}{m:Str}{tab:MTab}{pl:Sem Bool}(D0:Qaq X.prog X.w X.K X.mg X.base k m n tab)(hr:Room k X.A)(he:∀F0 H0,VE X F0 H0 Psi0 o g)(ha:∀F0 H0,VA X F0 H0 Psi0 bd fs)
  (hst:starEach bd X.env=(false,eval e X.env)::starEach es X.env:=by rfl) (hpl:(backTo pos aZ).any (·.1)=false:=by rfl)
  (ht:eval bZ X.env=(do
   let ov←eval o X.env
   standAt apos.atName
   let (f,first)←holding [ov] mj
   callWith pos f first hZ nk):=by rfl):
  PE X bZ qC:=by
 refine(Qkk (G:=fun C sp=>∃c φ,(c,φ)∈tab/\PySem.W.nsIn X.K mainGlobals c=some eM/\sp=spD X.K φ n) (Qku he) hr (fun C sp ⟨c,φ,q,hC,hs⟩=>?_) (Qsu ha) hst hpl ht).mono fun σ H Q q=>?_
 .obtain⟨C',f,fd,ps,h1,h2,h3,h4,h5⟩:=D0 c φ q
  rw[hC]at h1;cases h1
  subst hs
  exact⟨h2,f,fd,ps,h3,QnN h4,h5⟩
 .obtain⟨F,ev,d,z,⟨c,ns,xs,φ,ds,ds',e1,e2,e3,e4,e5,e6,e7⟩,q⟩:=q
  refine Qp5 z e1 fun F1 x H1 s1 r1=>?_
  obtain⟨a,C,dx,vs,rfl,hC,ha',hl,rs⟩:=RdV.obj s1.sub (show RdV X.K F1 H1 g8 x from .inl r1)
  have z1:=z.later s1
  refine⟨a,C,dx,_,spD X.K φ n,rfl,ha',QbC e2,⟨c,φ,Qdn e3,hC,rfl⟩,F1,H1,F1,ev,z1.fi,?_⟩
  rw[e4]
  intro F2 us H2 s2 va
  refine⟨F2, .obj c ns xs::ds,ds',d,s2.sub,?_,by simpa using e5,e6,e7,fun F' v H' p l=>q F' v H' (s1.trans (s2.trans p.st)) p.val (l.mono (fun _ _ e _=>e) fun b _ _ hb=>(s1.keep.trans s2.keep).free hb)⟩
  rw[Reps]
  exact⟨_,us,rfl,r1.mono s2.up,Qmr va⟩
end
end L3
namespace L3
open PySem L2
section
variable {X:Cx}{K:PySem.W.Frag}{F F' H H' G H00 F1:Hp}{A ev:Ev}{d:D}{v:V}{σ:St}
theorem Qsv (z:Fz K F H ev σ)(s:Step F H F' H')(r:Rep K F' d v)(l:Lin F' (fun a=>H a=none) d v):∃G,Hid K F H' G d v/\∀a o,G a=some o->H a=none:=by
 refine⟨fun a=>match F a with|none=>F' a|some _=>none,?_⟩
 have jr:Same F' (jn F fun a=>match F a with|none=>F' a|some _=>none):=fun a o e=>by
  cases q:F a with
  |some u=>rw[jn_l q,←e,s.up _ _ q]
  |none=>rw[jn_r q];simp only[q];exact e
 have g:∀a o,(match F a with|none=>F' a|some _=>none)=some o->F a=none/\F' a=some o:=fun a o e=>by
  cases q:F a with
  |some u=>rw[q]at e;cases e
  |none=>rw[q]at e;exact⟨rfl,e⟩
 refine⟨⟨fun a o e=>(g a o e).1,fun a o e=>s.sub _ _ (g a o e).2,r.mono jr,l.mono (fun a o e _=>jr a o e) fun a vs e h=>⟨vs,?_⟩⟩,fun a o e=>?_⟩
 .obtain⟨e1,e2⟩:=g a o e
  rcases s.new a o e2 with h|h
  .rw[e1]at h;cases h
  .exact h
 .have q:F a=none:=Qfn z.sub h
  simp only[q];exact e
structure Dst (K:PySem.W.Frag)(F1 H00:Hp)(i:Nat)(ev:Ev)(d:D)(FJ:Hp)(σ:St)(H:Hp):Prop where
 ex:∃F G v,Fz K F H ev σ/\Same F1 F/\Same FJ F/\Hid K F H G d v/\σ[i]?=some dm/\Same H00 H/\∀a o,G a=some o->H00 a=none
variable {i:Nat}{FJ:Hp}
theorem Dst.test {f:Ev->R}{b:Bool}{k:Kd}{Q:Bool->Hp->Prop}(h:Dst K F1 H00 i ev d FJ σ H)(m:f iu= .ok k ef)(q:∀H',Dst K F1 H00 i ev d FJ σ H'->Q b H'):anyT K f σ H Q:=by
 obtain⟨F,G,v,z,s1,sj,hid,e,s0,g0⟩:=h
 exact Qss (z.open hid e) m fun H' s=>q H' ⟨F,G,v,⟨z.sub.trans s,z.at_,z.len⟩,s1,sj,⟨hid.out,hid.sub.trans s,hid.rep,hid.lin⟩,e,s0.trans s,g0⟩
theorem Dst.tell {f:Ev->R}{b:Bool}{Q:VK}(h:Dst K F1 H00 i ev d FJ σ H)(m:f iu= .ok .fz ef)(q:∀H',Dst K F1 H00 i ev d FJ σ H'->Q ef H'):anyE K f σ H Q:=by
 obtain⟨F,G,v,z,s1,sj,hid,e,s0,g0⟩:=h
 refine Qp5 (z.open hid e) m fun F' w H' s r=>?_
 rw[Rep]at r
 subst r
 have s:=s.keep
 exact q H' ⟨F,G,v,⟨z.sub.trans s,z.at_,z.len⟩,s1,sj,⟨hid.out,hid.sub.trans s,hid.rep,hid.lin⟩,e,s0.trans s,g0⟩
theorem Dst.put {f:Ev->R}{j:Nat}{d3:D}{Q:St->Hp->Prop}(h:Dst K F1 H00 i ev d FJ σ H)(hj:j≠i)(m:f ev= .ok .fz d3)(q:∀σ' H',Dst K F1 H00 i (ev.set j dt) d FJ σ' H'->Q σ' H'):anyE K f σ H fun w H1=>Q (σ.set j sG) H1:=by
 obtain⟨F,G,v,z,s1,sj,hid,e,s0,g0⟩:=h
 exact Qp5 z m fun F' w H' s r=>q _ _ ⟨F',G,v,(z.later s).set r,s1.trans s.up,sj.trans s.up,hid.later s,by rw[List.getElem?_set_ne hj];exact e,s0.trans s.keep,g0⟩
theorem QiT {m:Str}{n:Nat}{tab:MTab}{g:Ev->R}{fs:Ev->RA}{Q:St->Hp->Prop}(z:Fz K F H ev σ)(s1:Same F1 F)(sj:Same FJ F)(s0:Same H00 H)(hi:i<ev.length)(t:Tells m n tab g fs ev d)(q:∀σ' H',Dst K F1 H00 i (ev.set i none) d FJ σ' H'->Q σ' H'):dbtT K m n tab g fs σ H fun w H1=>Q (σ.set i sG) H1:=
 ⟨F,ev,d,z,t,fun F' w H' s r l=>by
  obtain⟨G,hid,gn⟩:=Qsv z s r l
  have z':Fz K F H' ev σ:=⟨z.sub.trans s.keep,z.at_,z.len⟩
  exact q _ _ ⟨F,G,w,z'.drop,s1,sj,hid,List.getElem?_set_self (by rw[←z.len];exact hi),s0.trans s.keep,fun a o e=>Qfn s0 (gn a o e)⟩⟩
theorem Dst.emp {m:Nat}{E:Ends}(h:Dst K F1 H00 i ev d FJ σ H)(hd:Dsh m d)(q:∀F H',Fz K F H' ev σ->Same F1 F->Same FJ F->Same H00 H'->E.nx σ H'):recT gz gk E σ H:=by
 obtain⟨F,G,v,z,s1,sj,hid,e,s0,g0⟩:=h
 refine⟨v,e,jn F G,fun a=>∃xs,G a=some aH,v,d,rfl,hd,hid.rep,hid.lin,fun a o q=> .inl (Qov z.sub hid.sub _ _ q),fun H' _ ko=>q F H' ⟨fun a o q=>ko a o (fun⟨xs,g⟩=>?_) (z.sub _ _ q),z.at_,z.len⟩ s1 sj fun a o q=>ko a o (fun⟨xs,g⟩=>?_) (s0 _ _ q)⟩
 .rw[hid.out a _ g]at q;cases q
 .rw[g0 a _ g]at q;cases q
end
end L3
namespace L3
open PySem L2
def anyI (K:PySem.W.Frag)(f:Ev->RI):TI:=fun σ H Q=>∃F0 H0,tVI K F0 H0 Psi0 f σ H Q
section
variable {X:Cx}{K:PySem.W.Frag}
theorem Qsw {tg it:Expr}{f:Ev->RI}(h:∀F0 H0,VI X F0 H0 Psi0 tg it f):PI X tg it (anyI X.K f):=fun pins s σ H Q I ⟨F0,H0,q⟩=>h F0 H0 pins s σ H Q I q
abbrev noT (K:PySem.W.Frag)(f:Ev->R):TS:=tIfS uF (tRet (tC cp)) Qe3
def Qva (K:PySem.W.Frag)(dT:TE)(sp:Sp)(f5 f6 f7:Ev->R):TS:=tSeq (noT K f5) (tIfS (anyT K f6) (tSeq (noT K f7) (tSeq (recT sp (tVar 7)) (tAsg dT (QdD 7)))) Qe3)
def Qsx (K:PySem.W.Frag)(dT:TE)(sp:Sp)(fi:Ev->RI)(f1 f2 f3 f5 f6 f7 f8 f9:Ev->R):TS:=
 tSeq (tAsg dT (QdD 7)) (tSeq (noT K f1) (tSeq (noT K f2) (tSeq (tAsg (anyE K f3) (QdD 8)) (tSeq (tFor (anyI K fi) (QdD 9) (Qva K dT sp f5 f6 f7)) (tSeq (tAsg (anyE K f8) (QdD 10)) (tRet (anyE K f9)))))))
abbrev ev11 (a:Option bm×Option bm×Option bm×Option bm×Option bm×Option bm×Option bm)(x7 x8 x9 x10:Option bm):Ev:= [a.1,a.2.1,a.2.2.1,a.2.2.2.1,a.2.2.2.2.1,a.2.2.2.2.2.1,a.2.2.2.2.2.2,x7,x8,x9,x10]
structure TailOk (m:Str)(n:Nat)(tab:MTab)(g:Ev->R)(fs:Ev->RA)(M:Nat)(fi:Ev->RI)(f1 f2 f3 f5 f6 f7 f8 f9:Ev->R)(ev:Ev):Prop where
 ex:∃a d d3 d8 b,ev=ev11 a none none none none/\(∀(i:Nat) k d,ev[i]?=some dM->k= .fz)/\
  (∀x8 x9,Tells m n tab g fs (ev11 a none x8 x9 none) d)/\
  f1 o7= .ok .fz cp/\f2 o7= .ok .fz cp/\
  f3 ev= .ok .fz d3/\fi (ev11 a none dt none none)= .ok [.int 0, .int 1]/\
  (∀x9,f5 kO= .ok .fz cp)/\
  (∀x9,f6 kO= .ok .fz ef)/\
  (b=true->(∀x9,f7 kO= .ok .fz cp)/\Dsh M d)/\
  (∀x9,f8 jW= .ok .fz d8)/\
  (∀x9,f9 (ev11 a bC dt x9 (some (.fz,d8)))= .ok .fz aT)
variable {m:Str}{n M:Nat}{tab:MTab}{g:Ev->R}{fs:Ev->RA}{fi:Ev->RI}{f1 f2 f3 f5 f6 f7 f8 f9:Ev->R}{F H F0 H0:Hp}{ev:Ev}{σ:St}{E:Ends}
theorem no_t {F1 H00 FJ:Hp}{d:D}{f:Ev->R}(h:Dst K F1 H00 7 ev d FJ σ H)(e:f (ev.set 7 bC)= .ok .fz cp)(q:∀H',Dst K F1 H00 7 ev d FJ σ H'->E.nx σ H'):noT K f E σ H:=
 h.test e fun H' h'=>by rw[if_neg al];exact q H' h'
theorem Qp9 (fi0:FI K F0 H0 F H ev σ)(t:TailOk m n tab g fs M fi f1 f2 f3 f5 f6 f7 f8 f9 ev)(q:∀F' v H',Post K F0 H0 .fz aT F' v H'->E.rt v H'):Qsx K (dbtT K m n tab g fs) (spZ K M) fi f1 f2 f3 f5 f6 f7 f8 f9 E σ H:=by
 obtain⟨a,d,d3,d8,b,rfl,hfz,td,e1,e2,e3,ei,e5,e6,e7,e8,e9⟩:=t
 have z:Fz K F H ot σ:=⟨fi0.sub,fun i k d e=>by
  obtain⟨_,v,e1,r⟩:=fi0.at_ i k d e
  obtain rfl:=hfz i k d e
  exact⟨rfl,v,e1,r⟩,fi0.len⟩
 refine QiT (F1:=F) (H00:=H0) (FJ:=F) (i:=7) z (fun _ _ e=>e) (fun _ _ e=>e) fi0.st.keep al (td none none) fun σ1 H1 s1=>?_
 refine no_t s1 e1 fun H2 s2=>no_t s2 e2 fun H3 s3=>?_
 refine Dst.put (j:=8) s3 ah e3 fun σ4 H4 s4=>?_
 obtain⟨F4,G,v,z4,p1,pj,hid,ev4,p0,g0⟩:=s4
 refine⟨F4,H4,F4,_,z4.fi,?_⟩
 rw[show fi ((List.set ot 7 none).set 8 (some (Kd.fz,d3)))=RI.ok [.int 0, .int 1]from ei]
 intro F5 H5 J st y
 refine⟨fun i k σ H=>k=2-i/\∃x9,Dst K F H0 7 jW d F5 σ H,⟨_,rfl,none,F5,G,v,z4.later st,p1.trans st.up,fun _ _ e=>e,hid.later st,ev4,p0.trans st.keep,g0⟩,?_⟩
 rintro i k σ H ⟨rfl,x9,hd⟩
 have hd0:=hd
 obtain⟨Fc,Gc,vc,zc,c1,cj,hidc,evc,c0,gc⟩:=hd
 by_cases hi:i<2
 .refine .inr ⟨y.go i H (cj.trans zc.sub) (by simpa using hi),fun σ' H'=>∃x9,Dst K F H0 7 jW d F5 σ' H',fun σ' H' h=>⟨2-(i+1),by omega,rfl,h⟩,fun x H' hy=>?_⟩
  obtain⟨F2,dx,sx,ex,rx⟩:=y.yld i Fc H x H' cj zc.sub (by simpa using hi) hy
  have hb:Dst K F H0 7 (ev11 a none dt (some (.fz,dx)) none) d F5 (σ.set 9 (some x)) H':=⟨F2,Gc,vc,(zc.later sx).set (i:=9) rx,c1.trans sx.up,cj.trans sx.up,hidc.later sx,by rw[List.getElem?_set_ne ah];exact evc,c0.trans sx.keep,gc⟩
  refine no_t hb (e5 _) fun H2 h2=>?_
  refine h2.test (e6 _) fun H3 h3=>?_
  cases b with
  |false=>rw[if_neg al];exact⟨_,h3⟩
  |true=>
   rw[if_pos rfl]
   obtain⟨e7,hsh⟩:=e7 rfl
   refine no_t h3 (e7 _) fun H4 h4=>?_
   refine h4.emp hsh fun Fd H5 zd d1 dj d0=>?_
   exact QiT zd d1 dj d0 al (td _ _) fun σ6 H6 h6=>⟨_,h6⟩
 .refine .inl ⟨y.stop i H (cj.trans zc.sub) (by simpa using hi),?_⟩
  refine Dst.put (j:=10) hd0 ah (e8 _) fun σ7 H7 h7=>?_
  refine h7.tell (e9 _) fun H8 h8=>?_
  obtain⟨Fe,Ge,ve,ze,k1,kj,hide,eve,k0,ge⟩:=h8
  exact q F _ H8 ⟨⟨fi0.st.up,k1.trans ze.sub,k0,fi0.st.new⟩,by rw[Val,Rep]⟩
open Classical in
def QnP (m:Str)(n:Nat)(tab:MTab)(g:Ev->R)(fs:Ev->RA)(M:Nat)(fi:Ev->RI)(f1 f2 f3 f5 f6 f7 f8 f9:Ev->R)(ev:Ev):Fl:=if TailOk m n tab g fs M fi f1 f2 f3 f5 f6 f7 f8 f9 ev then .rt .fz aT else .no
theorem Qqa {sts:List Stmt}(h:PSs X sts (Qsx X.K qC (spZ X.K M) fi f1 f2 f3 f5 f6 f7 f8 f9)):VSs X F0 H0 Psi0 sts (QnP m n tab g fs M fi f1 f2 f3 f5 f6 f7 f8 f9):=h.mono fun E σ H q=>by
 obtain⟨F,ev,fi0,mm⟩:=q
 unfold QnP at mm
 split at mm
 .rename_i t;exact Qp9 fi0 t mm
 .exact mm.elim
end
end L3
namespace L3
open PySem L2
structure CalleeS (P:Program)(w:World)(K:PySem.W.Frag)(mg:Str->Option Value)(base:Heap)(k:Nat)(x:Str)(sp:Sp):Prop where
 ex:∃f fd ps,FnOk P w K mg base CX0 k f fd ps sp/\Binds K fd ps []/\mg x=some ca/\PySem.W.keepIn K ca=true
section
variable {X:Cx}{e c:Expr}{f:Ev->R}{pos p p':Pos}{x:Str}{k:Nat}{sp:Sp}{te:TE}
theorem QnQ {j}(h:∀F0 H0,VT X F0 H0 Psi0 c f):PS X (.If c [.Return (some (.Constant (.bool false) j p)) p'] [] pos) (noT X.K f):=Qjq (Qg9 h) (Qby (Qj3 pe_bl)) pss_nil
theorem QhP (i:Nat)(hN:X.N.Nodup)(he:PE X e te)(hi:X.N[i]?=some x:=by rfl)(hx:Loc X.env.scope x:=by first|exact Or.inl rfl|exact Or.inr rfl)(hs:swapsWith e (some (.Name x p')) pos.line X.env=pure false:=by rfl)
  (hf:X.fn x=true\/X.env.scope.names.lookup x=some .local:=by first|exact .inl rfl|exact .inr rfl):PS X (.Assign [.Name x p'] e pos) (tAsg te l7):=Qof hN hi hx he hs hf
theorem QeD (C:CalleeS X.prog X.w X.K X.mg X.base k x sp)(hr:Room k X.A)(he:PE X e te)(hg:Gl X x:=by rfl)(hdb:aJ=false:=by decide)(hst:starEach [e] X.env=(false,eval e X.env)::starEach [] X.env:=by rfl)(hpl:(backTo pos iW).any (·.1)=false:=by rfl)
  {q:Pos} (hs:swapsWith u7 none q.line X.env=pure false:=by rfl):PS X (.Expr u7 q) (recT sp te):=by
 obtain⟨f,fd,ps,Fk,hb,hm,hk⟩:=C.ex
 exact Qhq (QlC (E:=E0) (dvs:= []) (ds:= []) Fk hr hg hm hk hb .nil Qnb (QbV he pa_nil hst) hdb hst hpl) hs
theorem Qc5 {q1 q2:Pos}{j:Int}{kk}(i:Nat)(hN:X.N[i]?=some x:=by rfl)(hv:Vis X.env.scope x:=by first|exact Or.inl rfl|exact Or.inr fE|exact Or.inr fC)(hdb:aJ=false:=by decide)
  (hcd:(x==("__classdict__":Str))=false:=by decide) (hs:Qht tQ:=by exact fun _ _=>rfl):PE X (.Subscript (.Name x q1) tQ pos) (px1 X.K i j):=QoY ix_seq (Qds hN hv hdb hcd) pe_int hs
theorem Qkx {q2:Pos}{j l:Int}{kk}{i:Nat}(h:PE X e (px1 X.K i j))(hs:Qht qv:=by exact fun _ _=>rfl):PE X (.Subscript e qv pos) (px2 X.K i j l):=QoY ix_seq h pe_int hs
theorem QiU {apos cpos:Pos}(h:PE X e te)(hbase:attributeBase e "clear" X.env gT=eval e X.env:=by rfl)(hline:dz=true:=by rfl)
  (hsw:swapsWith ly none pos.line X.env=pure false:=by rfl):PS X (.Expr ly pos) (clrT X.K te):=
 Qhq (Qrh PySem.F.plainAttrs_list PySem.F.slot_list_clear PySem.F.type_list_clear Qm6 h hbase hline) hsw
theorem Qvb (i:Nat)(hN:X.N[i]?=some x:=by rfl)(hv:Vis X.env.scope x:=by first|exact Or.inl rfl|exact Or.inr fE|exact Or.inr fC)(hdb:aJ=false:=by decide)
  (hcd:(x==("__classdict__":Str))=false:=by decide):PE X dD gk:=Qds hN hv hdb hcd
theorem Qsy (i:Nat)(hN:X.N.Nodup)(hi:X.N[i]?=some x:=by rfl)(hx:Loc X.env.scope x:=by first|exact Or.inl rfl|exact Or.inr rfl)(hf:X.fn x=true\/X.env.scope.names.lookup x=some .local:=by first|exact .inl rfl|exact .inr rfl):PG X dD l7:=Qjr hN hi hx hf
end
section
variable {P:Program}{w:World}{K:PySem.W.Frag}{mg:Str->Option Value}{base h:Heap}{x:Str}{st:Stmt}{f:Addr}{ps:List Str}{k:Nat}{sp:Sp}
theorem calS (X:K.In h)(G:h.Ns mainGlobals mg)(a:Gf K x st f)(ok:∀fd,Fun K x x st f fd->Binds K fd ps []->mg x=some ca->PySem.W.keepIn K ca=true->FnOk P w K mg base CX0 k f fd ps sp)
  (b:∀(kV doc pm:Value) (an:Option Addr) (cdv ct:Value) (us:List Value),us.length=ps.length->bindArgs iU ⟨us,[]⟩=pure gB:=by intro _ _ _ _ _ _;repeat' (first|exact Qpt rfl|refine Qps fun _=>?_)):CalleeS P w K mg base k x sp:=by
 obtain⟨a,fd,F⟩:=a
 exact⟨f,fd,ps,ok fd F (F.binds b) sr F.kp,F.binds b,PySem.W.mg_of X G a,F.kp⟩
end
theorem pl_k {s:String}(hs:s∈ ["no","first","second","neither","may","row"]):pl 60 (.str dA)=true:=by
 simp only[List.mem_cons,List.not_mem_nil,or_false]at hs
 rcases hs with rfl|rfl|rfl|rfl|rfl|rfl<;>decide+kernel
theorem Qqb {s x:String}(hs:s∈ ["no","first","second","neither","may","row"])(hx:x∈ ["no","first","second","neither","may","row"]):(Str.ofString s=Str.ofString x)↔s=x:=by
 constructor
 .intro h
  simp only[List.mem_cons,List.not_mem_nil,or_false]at hs hx
  rcases hs with rfl|rfl|rfl|rfl|rfl|rfl<;>rcases hx with rfl|rfl|rfl|rfl|rfl|rfl<;>first|rfl|exact absurd h ao
 .rintro rfl;rfl
theorem QjJ {x:String}(hx:x∈ ["no","first","second","neither","may","row"]):Qee (eOp eqD aR (conR (.str ky))) [x]:=fun s hs t=>by
 have e0:idxD (.tup tE) cQ=some (.fz, .str dA):=by simp
 have e1:=QcC (pl_k hs) (pl_k hx)
 simp[e0,e1,Qqb hs hx]
theorem Qqc {x y:String}(hx:x∈ ["no","first","second","neither","may","row"])(hy:y∈ ["no","first","second","neither","may","row"]):Qee (eOp inD aR (eLst (Qc (conR (.str ky)) (Qc (conR (.str nN)) aNil)))) [x,y]:=fun s hs t=>by
 have e0:idxD (.tup tE) cQ=some (.fz, .str dA):=by simp
 have hl:plL 60 [.str ky, .str nN]=true:=Qaz.2 fun d hd=>by
  simp only[List.mem_cons,List.not_mem_nil,or_false]at hd
  rcases hd with rfl|rfl
  .exact pl_k hx
  .exact pl_k hy
 have e1:=Qsi (b:= .lst [.str ky, .str nN]) rfl (pl_k hs) hl
 simp[e0,e1,Qqb hs hx,Qqb hs hy]
end L3
namespace My
open PySem L2 L3
def top (i : Nat) : Stmt := PySem.Challenge.pw_hearsay_k41_whole_doubts_walked.main.body.getD i (.Pass ⟨0, 0, 0, 0⟩)
abbrev QdG:Stmt:=top 37
abbrev QfT:List Str:= ["_law_doubt","_law_step"]
abbrev QbO:List Str:= ["_law_doubt"]
abbrev QdH:Stmt:=top 22
abbrev QfU:List Str:= ["_law_script","_law_k"]
abbrev Qc6:List Str:= ["_law_script","_law_k"]
def Qcl:Ev->Fl:=(seqG (ifG (eOp ltD ax (Q5 lenD rN)) (retG (eOp idxD ap ax)) (.nx))
  (retG aj))
def Qo:List D->R:=runF 0 Qcl
abbrev QjK:Stmt:=top 23
abbrev Qms:List Str:= ["_law_cell","_law_k","_law_turn","_law_number"]
abbrev QhQ:List Str:= ["_law_cell","_law_k"]
def QeE:Ev->Fl:=(setG 0 (eOp Qbg ap rE))
def Qhb:Ev->Fl:=(seqG (setG 3 (eOp modD (eOp mulD (eOp addD (eOp addD (eOp modD ap (conR (.int 1000003))) (eOp mulD (eOp mulD ax ax) (conR (.int 7919)))) ax) (conR (.int 48271))) (conR (.int 2147483629))))
  (seqG (setG 3 (eOp modD (eOp mulD aQ aQ) (conR (.int 2147483587))))
  (retG (eOp Qbg (eOp modD (eOp mulD aQ (eOp addD aQ au)) (conR (.int 2147483579))) lD))))
def QhR:Ev->Fl:=(seqG (ifG (eOp geD ap (eOp powD iG oH)) (seqG (setG 0 (eOp subD (eOp Qbg ap (eOp powD iG oH)) af))
  (seqG (forG (Qe8 (Qc (eOp modD ax (conR (.int 61))) aNil)) rS QeE)
  (retG (eOp modD ap rE)))) (.nx))
  Qhb)
def QW:List D->R:=runF 2 QhR
abbrev QjL:Stmt:=top 25
abbrev Qmt:List Str:= ["_law_script","_law_number","_law_houses","_law_paths","_law_start","_law_goal","_law_drawn","_law_far","_law_most"]
abbrev QhS:List Str:= ["_law_script"]
def QeF:Ev->Fl:=(seqG (setG 8 (eOp idxD (eLst (Qc aW (Qc af (Qc au (Qc (eOp addD af (eOp modD (eOp Qbg b8 i4) i4)) (Qc (eOp addD o8 b8) aNil)))))) (eOp subD (eOp modD b8 i4) af)))
  (appG 3 (eTup (Qc bx (Qc bE rL)))))
def QeG:Ev->Fl:=(seqG (setG 6 (eFn 2 QW (Qc (eFn 2 Qo (Qc ap (Qc af aNil))) (Qc (eOp addD (eOp mulD iG bx) bE) aNil))))
  (seqG (setG 7 (eAnd (eOp gtD (Q5 absD (Qc (eOp subD bE bx) aNil)) af) (eOp eqD (eOp modD ax dl) af)))
  (seqG (ifG (eOr (eOp eqD bx bE) (eOr bG (eOp eqD (eOp modD b8 i4) aj))) (.ct) (.nx))
  QeF)))
def Qhc:Ev->Fl:=(forG (Qe8 bj) (QC 5) QeG)
def Qhd:Ev->Fl:=(frzG 3 (frzG 2 (retG (eTup (Qc aG dZ)))))
def Qhe:Ev->Fl:=(seqG (ifG (eOp eqD (eOp modD (eOp Qbg ax dl) au) af) qZ (.nx))
  Qhd)
def QjM:Ev->Fl:=(seqG (setG 1 (eFn 2 QW (Qc oQ (Qc af aNil))))
  (seqG (setG 2 (eOp addD af (eOp modD oQ dl)))
  (seqG sK
  (seqG (forG (Qe8 bj) (QC 4) Qhc)
  Qhe))))
def Qef:List D->R:=runF 8 QjM
abbrev Qcm:Stmt:=Qbj (top 14) 0
abbrev Qbb:List Str:= ["self","one","other"]
abbrev QhT:List eK:= [(varR 1),(varR 2)]
abbrev Qcn:Stmt:=Qbj (top 13) 0
abbrev Qbc:List Str:= ["self","name","by"]
abbrev QdI:List eK:= [(varR 1),(varR 2)]
abbrev QbE:Stmt:=Qbj (top 15) 0
abbrev Qav:List Str:= ["self","one","other"]
abbrev Qeg:List eK:= [(varR 1),(varR 2)]
abbrev QbY:Stmt:=Qbj (top 16) 0
abbrev QaP:List Str:= ["self","house","turn","inside"]
abbrev Qfs:List eK:= [(varR 1),(varR 2),(varR 3)]
abbrev QbF:Stmt:=Qbj (top 17) 0
abbrev Qaw:List Str:= ["self","houses","turn","inside"]
abbrev Qeh:List eK:= [(Q5 Qhv fZ),(varR 2),(varR 3)]
abbrev QeH:Stmt:=top 33
abbrev Qhf:List Str:= ["_law_tree_here"]
abbrev Qco:List Str:= ["_law_tree_here"]
def Qei (r:List D->R):Ev->Fl:=(retG (QhH "Shared" ["houses","turn","inside"] Qeh 4 [] lw))
def Qcp (r:List D->R):Ev->Fl:=(seqG (ifG sP (retG (QhH "Knows" ["house","turn","inside"] Qfs 4 [] lw)) (.nx))
  (Qei r))
def Qbv (r:List D->R):Ev->Fl:=(seqG (ifG sQ (retG (QhH "Either" ["one","other"] Qeg 3 [] mN)) (.nx))
  (Qcp r))
def QaQ (r:List D->R):Ev->Fl:=(seqG (ifG lr (retG (QhH "Both" ["one","other"] QhT 3 [] mN)) (.nx))
  (Qbv r))
def Qaj (r:List D->R):Ev->Fl:=(seqG (ifG lv (retG (QhH "Came" ["name","by"] QdI 3 [] uM)) (.nx))
  (QaQ r))
def Qak (r:List D->R):Ev->Fl:=(seqG (ifG (eAnd lv (eOp isND bD aW)) (retG (QhH "Came" ["name","by"] QdI 3 [.non] kU)) (.nx))
  (Qaj r))
def Qs:Nat->List D->R
 |0=>fun _=> .no
 |n+1=>runF 0 (Qak (Qs n))
abbrev QdJ:Stmt:=top 3
abbrev QfV:List Str:= ["run"]
abbrev Qc7:List Str:= ["run"]
def QdK:Ev->Fl:=(retG ic)
def Qag:List D->R:=runF 0 QdK
abbrev Qcq:Stmt:=top 2
abbrev Qej:List Str:= ["net","tale","spot","bests","start","goal","left","come"]
abbrev QbZ:List Str:= ["net","tale","spot"]
def QcE:Ev->Fl:=(ifG (eAnd (eOp leD bG (eOp idxD (eOp idxD aQ bE) aj)) (eOp gtD b8 (eOp idxD (eOp idxD aQ bx) aj))) (QcU 3 bx (eTup (Qc b8 (Qc (eTup (Qc bx (Qc bE (Qc b8 rM)))) aNil)))) (.nx))
def Qcr:Ev->Fl:=(seqG (setG 3 (eOp mulD (eLst (Qc (eTup (Qc iw (Qc aW aNil))) aNil)) aR))
  (seqG (QcU 3 fk (eTup (Qc kr (Qc aW aNil))))
  (seqG (forG (iLst (Qki Qag true bK)) (bTup 4 (Qbz (QC 4) mW)) QcE)
  (QcR 3))))
def Qar:List D->R:=runF 5 Qcr
abbrev QbP:Stmt:=top 1
abbrev Qc8:List Str:= ["net","tale","spot"]
abbrev Qcs:List Str:= ["net","tale","spot"]
def Qc9:Ev->Fl:=(retG (QcL ([none]:List aC) (iLst (eFn 3 Qar mM)) (QC 0) cS aR))
def QaR:List D->R:=runF 0 Qc9
abbrev Qek:Stmt:=top 7
abbrev Qft:List Str:= ["net","tale","spot","heard","runs","signs"]
abbrev QfW:List Str:= ["net","tale","spot"]
def QhU:Ev->Fl:=(seqG (setG 3 (eFn 3 QaR mM))
  (frzG 3 (seqG (setG 4 (QcL ([some 3,none]:List aC) j9 nV fI ax))
  (frzG 3 (seqG (setG 5 (QcL ([some 3,none]:List aC) qA nV iP ax))
  kL)))))
def Qda:List D->R:=runF 3 QhU
abbrev QaS:Stmt:=top 9
abbrev QbG:List Str:= ["path","last","most"]
abbrev Qbm:List Str:= ["path","last"]
def QbH:Ev->Fl:=(seqG (setG 2 bD)
  (retG (QcL ([some 0,some 2,none]:List aC) (Qe8 (Qc (eOp addD (eOp subD ax aG) af) aNil)) rS cS (eTup kW))))
def Qaa:List D->R:=runF 1 QbH
abbrev QdL:Stmt:=top 5
abbrev QfX:List Str:= ["run"]
abbrev Qdb:List Str:= ["run"]
def QdM:Ev->Fl:=(retG (eTup (Qc aR uM)))
def Qah:List D->R:=runF 0 QdM
abbrev Qct:Stmt:=top 8
abbrev QdN:List Str:= ["net","view","last","told","run","runs","path"]
abbrev Qdc:List Str:= ["net","view","last"]
def Qdx:Ev->Fl:=(QcU 3 (eFn 1 Qah gW) cS)
def Qbd:Ev->Fl:=(ifG (eOp Qd6 (eOp idxD b8 au) aW) (frzG 3 (extG 5 (QcL ([some 3,none]:List aC) (iLst (eFn 2 Qaa (Qc b8 bj))) nV (eOp QaF (eFn 1 Qah fZ) ap) ax))) (.nx))
def Qdy:Ev->Fl:=(retG (eTup (Qc aG (Qc (QcY bE) (Qc (QcY fX) aNil)))))
def Qdz:Ev->Fl:=(seqG (setG 5 ug)
  (seqG (forG (iLst aU) (QC 6) Qbd)
  Qdy))
def QdO:Ev->Fl:=(seqG (setG 3 (fun _=> .ok .ow oX))
  (seqG (forG j9 (QC 4) Qdx)
  Qdz))
def Qbh:List D->R:=runF 4 QdO
abbrev QeI:Stmt:=top 10
abbrev Qhg:List Str:= ["net","tale","spot"]
abbrev QdP:List Str:= ["net","tale","spot"]
def QeJ:Ev->Fl:=(retG (eFn 3 Qbh (Qc ap (Qc (eFn 3 Qda mM) (Qc bY aNil)))))
def QaA:List D->R:=runF 0 QeJ
abbrev QdQ:Stmt:=top 20
abbrev QfY:List Str:= ["tale"]
abbrev Qdd:List Str:= ["tale"]
def QdR:Ev->Fl:=(retG (eTup (Qc aR (Qc (QcY aU) (Qc (QcY bD) aNil)))))
def Qbi:List D->R:=runF 0 QdR
abbrev Qbn:Stmt:=top 18
abbrev QcF:List Str:= ["net","tale","houses","turn","steps","current","place","same_for","house","slow"]
abbrev Qa2:List Str:= ["net","tale","houses","turn"]
def QaB:Ev->Fl:=(setG 6 (eOp modD (eOp addD b8 af) (Q5 lenD bj)))
def Q7:Ev->Fl:=(seqG (setG 8 (eOp idxD aG b8))
  (frzG 5 (seqG (setG 9 (eFn 3 QaA (Qc ap (Qc bE (Qc (eTup (Qc fG dZ)) aNil)))))
  (seqG (ifG (eOp eqD jl bE) (augG 7 af) (frzG 9 (seqG (appG 4 (eTup (Qc fG (Qc jl aNil))))
  (frzG 9 (seqG (setG 5 jl)
  (setG 7 af))))))
  QaB))))
def Qbo:Ev->Fl:=(seqG (setG 4 lO)
  (seqG (setG 5 (eFn 1 Qbi fZ))
  (seqG (setG 6 aj)
  (seqG (setG 7 aj)
  (seqG (whlE (eOp ltD bG (Q5 lenD bj)) Q7 100000)
  (QcR 4))))))
def QP:List D->R:=runF 6 Qbo
abbrev QeK:Stmt:=top 19
abbrev Qhh:List Str:= ["steps","tale"]
abbrev QdS:List Str:= ["steps","tale"]
def Qdo:Ev->Fl:=(retG (eIf (eTru ap) (eOp idxD (eOp idxD ap iw) af) ax))
def QbI:List D->R:=runF 0 Qdo
abbrev QaT:Stmt:=Qbj (top 12) 1
abbrev QbQ:List Str:= ["self","net","tale"]
abbrev QaC:List Str:= ["self","net","tale"]
def QaU (t:MTab):Ev->Fl:=(retG (eTup (Qc oG (Qc (conR (.str (Str.ofString ""))) aNil))))
abbrev Qb0:Stmt:=Qbj (top 13) 1
abbrev QdA:List Str:= ["self","net","tale","house","turn","name"]
abbrev QbJ:List Str:= ["self","net","tale"]
def Qa3 (t:MTab):Ev->Fl:=(ifG (eAnd (eOp eqD bE t7) (eOr (eOp isND (eFld ["Came"] "by" ap) aW) (eOp leD bx (eFld ["Came"] "by" ap)))) (retG aW) (.nx))
def Qcc (t:MTab):Ev->Fl:=(retG (eTup (Qc oG (Qc t7 aNil))))
def QT (t:MTab):Ev->Fl:=(seqG (forG (iLst km) eY (Qa3 t))
  (Qcc t))
abbrev Qb1:Stmt:=Qbj (top 14) 1
abbrev QdB:List Str:= ["self","net","tale","first","second"]
abbrev QbK:List Str:= ["self","net","tale"]
def Qal (t:MTab):Ev->Fl:=(seqG (setG 4 (QcQ "doubt" 3 t (eFld ["Both"] "other" ap) eB))
  (frzG 4 (retG (eIf kh aW (eTup (Qc (conR qN) gW))))))
def QB (t:MTab):Ev->Fl:=(seqG (setG 3 (QcQ "doubt" 3 t (eFld ["Both"] "one" ap) eB))
  (seqG (ifG (eOp Qd6 aQ aW) (frzG 3 (retG (eTup (Qc (conR kF) dZ)))) (.nx))
  (Qal t)))
abbrev Qbp:Stmt:=Qbj (top 15) 1
abbrev QcG:List Str:= ["self","net","tale","first","second"]
abbrev Qa4:List Str:= ["self","net","tale"]
def Q8 (t:MTab):Ev->Fl:=(seqG (setG 4 (QcQ "doubt" 3 t (eFld ["Either"] "other" ap) eB))
  (frzG 4 (frzG 3 (retG (eIf kh aW (eTup (Qc (conR (.str cW)) px)))))))
def Qw (t:MTab):Ev->Fl:=(seqG (setG 3 (QcQ "doubt" 3 t (eFld ["Either"] "one" ap) eB))
  (seqG (ifG (eOp isND aQ aW) (retG aW) (.nx))
  (Q8 t)))
abbrev QbL:Stmt:=Qbj (top 16) 1
abbrev Qde:List Str:= ["self","net","tale","slow","inner"]
abbrev Qbq:List Str:= ["self","net","tale"]
def QE (t:MTab):Ev->Fl:=(seqG (setG 3 (eFn 3 QaA (Qc ax (Qc aG (Qc (eTup (Qc (eFld ["Knows"] "house" ap) (Qc (eFld ["Knows"] "turn" ap) aNil))) aNil)))))
  (frzG 3 (seqG (setG 4 (QcQ "doubt" 3 t (eFld ["Knows"] "inside" ap) (Qc ax dZ)))
  (frzG 4 (frzG 3 (retG (eIf kh aW (eTup (Qc (conR (.str dN)) px)))))))))
abbrev Qbr:Stmt:=Qbj (top 17) 1
abbrev QcH:List Str:= ["self","net","tale","steps","inner"]
abbrev Qa5:List Str:= ["self","net","tale"]
def QD (t:MTab):Ev->Fl:=(seqG (setG 3 (eFn 4 QP (Qc ax (Qc aG (Qc (eFld ["Shared"] "houses" ap) (Qc (eFld ["Shared"] "turn" ap) aNil))))))
  (frzG 3 (seqG (setG 4 (QcQ "doubt" 3 t (eFld ["Shared"] "inside" ap) (Qc ax (Qc (eFn 2 QbI (Qc aQ bj)) aNil))))
  (frzG 4 (frzG 3 (retG (eIf kh aW (eTup (Qc (conR (.str cr)) px)))))))))
def Qj:Nat->MTab
 |0=> []
 |n+1=> [("Sentence",runF 0 (QaU j2)),("Came",runF 3 (QT j2)),("Both",runF 2 (QB j2)),("Either",runF 2 (Qw j2)),("Knows",runF 2 (QE j2)),("Shared",runF 2 (QD j2))]
abbrev QaV:Stmt:=Qbj (top 12) 0
abbrev QbR:List Str:= ["self","net","tale"]
abbrev QaD:List Str:= ["self","net","tale"]
def QaW:Ev->Fl:=(retG (eOp isND (QcQ "doubt" 3 kQ ap eB) aW))
def Ql:List D->R:=runF 0 QaW
def Qz:MTab:= [("Sentence",Ql),("Came",Ql),("Both",Ql),("Either",Ql),("Knows",Ql),("Shared",Ql)]
abbrev Qbe:Stmt:=top 38
abbrev Qb2:List Str:= ["_law_tree_here","_law_net_here","_law_tale_here","_law_held"]
abbrev QbM:List Str:= ["_law_tree_here","_law_net_here","_law_tale_here"]
def Qa6:Ev->Fl:=(seqG (setG 3 (QcL ([some 1,some 2,none]:List aC) (Qnn (eSl ap (QhB af) oNo)) rS cS l8))
  (seqG (ifG lr (retG (eOp eqD aQ (eLst (Qc cS (Qc cS aNil))))) (.nx))
  (retG (eOp inD cS aQ))))
def QU:Ev->Fl:=(seqG (ifG (eOp QaF aR mV) (retG cS) (.nx))
  Qa6)
def QF:List D->R:=runF 1 QU
abbrev QfZ:Stmt:=top 26
abbrev QiV:List Str:= ["_law_script","_law_net_here","_law_last","_law_signs_here","_law_at","_law_names","_law_k","_law_number","_law_sign"]
abbrev QeL:List Str:= ["_law_script","_law_net_here","_law_last"]
def Qe0:Ev->Fl:=(seqG (setG 7 (eFn 2 QW (Qc (eFn 2 Qo (Qc ap (Qc (eOp addD aS b8) aNil))) (Qc (eOp addD (conR (.int 500)) b8) aNil))))
  (seqG (setG 8 (eTup (Qc (eOp modD bG bY) (Qc (eOp modD (eOp Qbg bG (conR (.int 5))) (eOp addD aG af)) (Qc (eOp idxD bE (eOp modD (eOp Qbg bG (conR (.int 300))) dl)) aNil)))))
  (ifG (eOp QaF fG aQ) (appG 3 fG) (.nx))))
def Qdf:Ev->Fl:=(seqG (forG (Qe8 (Qc (eOp modD (eFn 2 QW (Qc fq (Qc au aNil))) (conR (.int 5))) aNil)) (QC 6) Qe0)
  (QcR 3))
def Qf0:Ev->Fl:=(seqG sK
  (seqG (setG 4 (eOp modD (eOp Qbg fq (conR (.int 25))) oH))
  (seqG (setG 5 (eLst (Qc b9 (Qc (conR (.str (Str.ofString "ab"))) (Qc (conR (.str (Str.ofString "ba"))) (Qc (conR (.str (Str.ofString "zzzzzzzzzzzz"))) aNil))))))
  (seqG (ifG (eOp eqD (eOp modD (eOp Qbg fq (conR (.int 300))) au) af) (setG 5 (eLst (Qc (conR (.str fF)) (Qc (eOp addD (eOp addD (eOp mulD b9 bx) (conR (.str (Str.ofString "b")))) lM) (Qc (eOp addD (eOp addD (eOp mulD b9 bx) (conR (.str (Str.ofString "c")))) lM) (Qc (eOp mulD b9 (conR (.int 11))) aNil)))))) (.nx))
  Qdf))))
def Qcd:List D->R:=runF 6 Qf0
abbrev QhV:Stmt:=top 27
abbrev Qky:List Str:= ["_law_script","_law_net_here","_law_last","_law_runs","_law_k","_law_start","_law_goal","_law_most","_law_left","_law_number","_law_come"]
abbrev Qf1:List Str:= ["_law_script","_law_net_here"]
def QdT:Ev->Fl:=(ifG (eOp leD gw aG) (frzG 10 (appG 3 (eTup (Qc bE (Qc b8 (Qc fG nq)))))) (.nx))
def QdU:Ev->Fl:=(seqG (ifG (eAnd ou oP) (setG 10 (eOp addD fG bG)) (.nx))
  QdT)
def QdV:Ev->Fl:=(seqG (ifG ou (setG 10 (eOp addD (eOp addD fG af) (eOp modD (eOp Qbg jl aS) (Q5 QlW (Qc bG (Qc dl aNil)))))) (.nx))
  QdU)
def Qcu:Ev->Fl:=(seqG (setG 4 (eOp addD bx af))
  (seqG (setG 9 (eFn 2 QW (Qc hU gW)))
  (seqG (setG 10 (eOp addD (eOp addD fG af) (eOp modD (eOp Qbg jl aS) dl)))
  (seqG (ifG (eAnd ki oP) (.ct) (.nx))
  QdV))))
def Qf2:Ev->Fl:=(forG (Qe8 bj) nU Qcu)
def Qf3:Ev->Fl:=(frzG 3 (retG (eTup (Qc aG (Qc aQ (Qc (eFn 3 Qcd mM) aNil))))))
def Qf4:Ev->Fl:=(seqG (ifG (eOp eqD (eOp modD aG au) af) qZ (.nx))
  Qf3)
def QhW:Ev->Fl:=(seqG (setG 2 (eOp modD fq (conR (.int 9))))
  (seqG sK
  (seqG (setG 4 aj)
  (seqG (forG j9 (bTup 3 mW) Qf2)
  Qf4))))
def Qdg:List D->R:=runF 9 QhW
abbrev Qel:Stmt:=top 32
abbrev Qfu:List Str:= ["_law_script","_law_net_here","_law_tale_here","_law_depth","_law_k","_law_number","_law_names","_law_way","_law_by","_law_one","_law_inside","_law_turn","_law_houses"]
abbrev Qem:List Str:= ["_law_script","_law_net_here","_law_tale_here","_law_depth","_law_k"]
def QdW (r:List D->R):Ev->Fl:=(frzG 10 (retG (eTup (Qc (conR nW) (Qc (eOp QjB (eSl (varR 12) oNo (QhB dl)) iw) (Qc (varR 11) nq))))))
def QdX (r:List D->R):Ev->Fl:=(frzG 5 (seqG (setG 12 (QcL ([some 5,none]:List aC) (Qe8 (Qc bY aNil)) nV (eOp gtD hJ aj) ax))
  (seqG (ifG (eOp eqD (varR 12) lO) (setG 12 (eLst (Qc lN aNil))) (.nx))
  (QdW r))))
def QdY (r:List D->R):Ev->Fl:=(seqG (setG 10 fJ)
  (seqG (setG 11 (eOp subD fk (eOp mulD (eOp modD (eOp Qbg bE lD) (eOp addD fk af)) (eOp modD pY au))))
  (seqG (ifG (eOp ltD bG i4) (frzG 10 (retG (eTup (Qc (conR io) (Qc lN (Qc (varR 11) nq)))))) (.nx))
  (QdX r))))
def QbN (r:List D->R):Ev->Fl:=(seqG (ifG (eOp ltD bG aS) (seqG (setG 9 fJ)
  (frzG 9 (retG (eTup (Qc (eOp idxD mV (eOp subD bG af)) (Qc jl (Qc (eFn 5 r (Qc ap (Qc ax (Qc aG (Qc (eOp subD aQ af) (Qc (eOp addD (eOp mulD au bx) au) aNil)))))) aNil))))))) (.nx))
  (QdY r))
def QbS (r:List D->R):Ev->Fl:=(seqG (setG 5 (eFn 2 QW (Qc hU (Qc (eOp addD (conR (.int 40)) bx) aNil))))
  (seqG (setG 6 (eOp addD (QcL ([none]:List aC) (iLst km) (QC 0) cS bD) (eLst (Qc b9 (Qc (conR (.str lQ)) (Qc (conR (.str fF)) aNil))))))
  (seqG (setG 7 (eOp modD bE lD))
  (seqG (ifG (eOr (eOp eqD aQ aj) (eOp eqD bG aj)) (seqG (setG 8 (eOp idxD (eLst (Qc aW (Qc aW (Qc (eOp subD (eOp modD (eOp Qbg bE lD) (eOp addD fk au)) af) (Qc o8 aNil))))) (eOp modD pY dl)))
  (retG (eTup (Qc (conR bB) (Qc (eOp idxD b8 (eOp modD (eOp Qbg bE (conR (.int 280))) tu)) rL))))) (.nx))
  (QbN r)))))
def Q0:Nat->List D->R
 |0=>fun _=> .no
 |n+1=>runF 8 (QbS (Q0 n))
abbrev Qf5:Stmt:=top 24
abbrev QiW:List Str:= ["_law_found"]
abbrev QeM:List Str:= ["_law_found"]
def Qf6:Ev->Fl:=(retG (eAnd (Q5 isiD (Qc ap (Qc (conR (.ty "int")) aNil))) (eNot (Q5 isiD (Qc ap qF)))))
def Qam:List D->R:=runF 0 Qf6
abbrev QhX:Stmt:=top 30
abbrev Qkz:List Str:= ["_law_net_here","_law_tale_here","_law_mosts","_law_start","_law_goal","_law_most","_law_come","_law_run","_law_part","_law_left","_law_sign"]
abbrev Qf7:List Str:= ["_law_net_here","_law_tale_here"]
def Qf8:Ev->Fl:=(QcU 2 (eTup px) bE)
def Q9:Ev->Fl:=(ifG (eNot (eFn 1 Qam rL)) aM (.nx))
def QdZ:Ev->Fl:=(QcU 6 t6 cS)
def Qf9:Ev->Fl:=(seqG (ifG (eOr (eOp ltD nJ aj) (eOr (eOp leD nK nJ) (eOr (eOp gtD nK bY) (eAnd (eOp Qd6 bE aW) (eOp gtD nK (eOp addD nJ bE)))))) aM (.nx))
  QdZ)
def Qga:Ev->Fl:=(seqG (setG 5 (eOp idxD aG t5))
  (seqG (forG (Qnn bG) nU Q9)
  Qf9))
def Qgb:Ev->Fl:=(seqG (ifG (eOr (eNot (Q5 isiD (Qc bG dO))) (eOr (eOp neD (Q5 lenD rM) dl) (eOr (eOp QaF t5 aG) (eOp inD t6 b8)))) aM (.nx))
  Qga)
def Qgc:Ev->Fl:=(ifG (eOp QaF (eTup (Qc aQ (Qc bx (Qc jl aNil)))) b8) aM (.nx))
def Qd0:Ev->Fl:=(ifG (eOp Qd6 bE aW) (forG (Qe8 (Qc (eOp addD (eOp subD bY bE) af) aNil)) (QC 9) Qgc) (.nx))
def Qgd:Ev->Fl:=(ifG (eOr (eNot (QfI leD leD aj (eOp idxD gw af) bY)) (eOp neD (eCnt fX gw) af)) aM (.nx))
def Qge:Ev->Fl:=(seqG (ifG (eOr (eNot (Q5 isiD (Qc gw dO))) (eOr (eOp neD (Q5 lenD nq) aS) (eNot (QfI leD ltD aj (eOp idxD gw aj) aR)))) aM (.nx))
  Qgd)
def Qgf:Ev->Fl:=(seqG (forG qA (QC 10) Qge)
  (retG cS))
def Qgg:Ev->Fl:=(seqG (forG (iLst aU) eY Qd0)
  Qgf)
def Qgh:Ev->Fl:=(seqG (setG 6 (fun _=> .ok .ow oX))
  (seqG (forG j9 (QC 7) Qgb)
  Qgg))
def QhY:Ev->Fl:=(seqG (setG 2 (fun _=> .ok .ow oX))
  (seqG (forG (iLst aU) eY Qf8)
  Qgh))
def Qdh:List D->R:=runF 9 QhY
abbrev QhZ:Stmt:=top 28
abbrev QkA:List Str:= ["_law_net_here","_law_tale_here","_law_spot","_law_ends_here","_law_busy","_law_start","_law_goal","_law_left","_law_come"]
abbrev Qgi:List Str:= ["_law_net_here","_law_tale_here","_law_spot"]
def Qgj:Ev->Fl:=(ifG (eAnd (eOp leD fG (eOp idxD aQ b8)) (eOp gtD bG (eOp idxD aQ bE))) (seqG (QcU 3 bE bG)
  (setG 4 cS)) (.nx))
def Qgk:Ev->Fl:=(seqG (setG 4 (conR cp))
  (forG j9 (bTup 4 (Qbz (QC 5) (Qbz (QC 6) (Qbz (QC 7) (Qbz nU bNil))))) Qgj))
def Qh0:Ev->Fl:=(seqG (setG 3 (eOp mulD (eLst (Qc iw aNil)) aR))
  (seqG (QcU 3 fk kr)
  (seqG (setG 4 cS)
  (seqG (whlE bx Qgk 100000)
  (QcR 3)))))
def Qdi:List D->R:=runF 6 Qh0
abbrev Qen:Stmt:=top 29
abbrev Qfv:List Str:= ["_law_net_here","_law_tale_here","_law_spot","_law_ends_here","_law_runs","_law_signs_here"]
abbrev Qgl:List Str:= ["_law_net_here","_law_tale_here","_law_spot"]
def Qh1:Ev->Fl:=(seqG (setG 3 (eFn 3 Qdi mM))
  (frzG 3 (seqG (setG 4 (QcL ([some 3,none]:List aC) j9 nV fI ax))
  (frzG 3 (seqG (setG 5 (QcL ([some 3,none]:List aC) qA nV iP ax))
  kL)))))
def Qce:List D->R:=runF 3 Qh1
abbrev Qcv:Stmt:=top 31
abbrev Qeo:List Str:= ["_law_tale_here"]
abbrev Qb3:List Str:= ["_law_tale_here"]
def QcI:Ev->Fl:=(retG (eAnd (Q5 isiD (Qc aU jy)) (Q5 isiD (Qc bD jy))))
def Qcw:Ev->Fl:=(seqG (ifG (eOr (eNot (Q5 isiD (Qc ap dO))) (eOr (eOp neD (Q5 lenD rN) aS) (eNot (eFn 1 Qam (Qc aR aNil))))) aM (.nx))
  QcI)
def Qas:List D->R:=runF 0 Qcw
abbrev Qgm:Stmt:=top 34
abbrev QiX:List Str:= ["_law_net_here","_law_tale_here","_law_other","_law_spot"]
abbrev QeN:List Str:= ["_law_net_here","_law_tale_here","_law_other","_law_spot"]
def Qe1:Ev->Fl:=(retG (eOp eqD (eFn 3 Qce (Qc ap (Qc aG dZ))) (eFn 3 Qce (Qc ap (Qc ax dZ)))))
def Qgn:Ev->Fl:=(seqG (ifG (eOr (eNot (eFn 1 Qas bj)) (eOr (eOp neD fk bY) (eNot (eFn 2 Qdh (Qc ap bj))))) aM (.nx))
  Qe1)
def Qbx:List D->R:=runF 0 Qgn
abbrev Qcx:Stmt:=top 35
abbrev Qep:List Str:= ["_law_tree_here","_law_tale_here","_law_sign"]
abbrev Qb4:List Str:= ["_law_tree_here","_law_tale_here"]
def Qbs:Ev->Fl:=(ifG (eAnd (eOp eqD km aU) (eOr (eOp isND bD aW) (eOp leD kr bD))) aM (.nx))
def Qcy:Ev->Fl:=(seqG (forG qA rS Qbs)
  (retG cS))
def Qat:List D->R:=runF 1 Qcy
abbrev Qh2:Stmt:=top 36
abbrev QkB:List Str:= ["_law_tree_here","_law_net_here","_law_tale_here","_law_doubt","_law_first","_law_spot","_law_step"]
abbrev Qeq:List Str:= ["_law_tree_here","_law_net_here","_law_tale_here","_law_doubt"]
def Qgo (r:List D->R):Ev->Fl:=(retG (eAnd (eOp isBD (QcQ "holds" 3 Qz (eFn 1 jM kU) eB) cS) (eFn 4 r (Qc bD jw))))
def Qd1 (r:List D->R):Ev->Fl:=(seqG (ifG (eOp eqD fY (conR kF)) (retG uC) (.nx))
  (Qgo r))
def Qgp (r:List D->R):Ev->Fl:=(seqG (setG 4 uC)
  (retG (eAnd bx (eFn 4 r (Qc bD (Qc ax (Qc aG jJ)))))))
def Qgq (r:List D->R):Ev->Fl:=(retG (eFn 4 r (Qc ic (Qc ax (Qc fj jJ)))))
def Qgr (r:List D->R):Ev->Fl:=(seqG (setG 5 (eTup (Qc nL i5)))
  (seqG (ifG (eNot (eFn 4 Qbx (Qc ax (Qc aG (Qc (eOp idxD b8 af) (Qc bE aNil)))))) aM (.nx))
  (setG 2 (eOp idxD b8 af))))
def Qgs (r:List D->R):Ev->Fl:=(seqG (ifG (eOr (eNot (eFn 1 Qam (Qc nL aNil))) (eOp QaF nL aU)) aM (.nx))
  (Qgr r))
def Qgt (r:List D->R):Ev->Fl:=(seqG (ifG (eOr (eNot (Q5 isiD (Qc b8 dO))) (eOp neD tu au)) aM (.nx))
  (Qgs r))
def Qgu (r:List D->R):Ev->Fl:=(retG (eFn 4 r (Qc ic (Qc ax (Qc aG jJ)))))
def Qgv (r:List D->R):Ev->Fl:=(seqG (forG (iLst fj) (QC 6) (Qgt r))
  (Qgu r))
def Qgw (r:List D->R):Ev->Fl:=(seqG (ifG (eOr (eOp neD fY (conR (.str cr))) (eNot (Q5 isiD (Qc fj jy)))) aM (.nx))
  (Qgv r))
def Qdj (r:List D->R):Ev->Fl:=(seqG (ifG sP (seqG (setG 5 (eTup uM))
  (seqG (ifG (eOr (eOp neD fY (conR (.str dN))) (eNot (eFn 4 Qbx (Qc ax (Qc aG (Qc fj (Qc bE aNil))))))) aM (.nx))
  (Qgq r))) (.nx))
  (Qgw r))
def Qdk (r:List D->R):Ev->Fl:=(seqG (ifG qB aM (.nx))
  (Qdj r))
def QbT (r:List D->R):Ev->Fl:=(seqG (ifG sQ (seqG (ifG (eOr qB (eOp neD fY (conR (.str cW)))) aM (.nx))
  (Qgp r)) (.nx))
  (Qdk r))
def QaG (r:List D->R):Ev->Fl:=(seqG (ifG lr (seqG (ifG (eOr (eOp neD (Q5 lenD dZ) au) (eOp QaF fY (eLst (Qc (conR kF) (Qc (conR qN) aNil))))) aM (.nx))
  (Qd1 r)) (.nx))
  (QbT r))
def Qai (r:List D->R):Ev->Fl:=(seqG (ifG lv (retG (eAnd (eOp eqD aQ (eTup (Qc oG kU))) (eFn 2 Qat (Qc ap bj)))) (.nx))
  (QaG r))
def Qbw (r:List D->R):Ev->Fl:=(seqG (ifG (eOr (eNot (Q5 isiD (Qc aQ dO))) (eOr (eOp eqD aQ (eTup aNil)) (eNot (Q5 isiD (Qc fY (Qc (conR (.ty "str")) aNil)))))) aM (.nx))
  (Qai r))
def Qab:Nat->List D->R
 |0=>fun _=> .no
 |n+1=>runF 3 (Qbw (Qab n))
abbrev QnR:Stmt:=top 39
abbrev Qqd:List Str:= ["_law_script","_law_net_here","_law_tale_here","_law_tree_here","_law_sentence","_law_handed","_law_found","_law_doubt","_law_loose","_law_k","_law_again"]
abbrev Qmu:List Str:= ["_law_script"]
def t_g:Ev->R:=bx
def t_s:Ev->RA:=fc
def t_i:Ev->RI:=(Qe8 (Qc au aNil))
def t_1:Ev->R:=(eOr (eNot (Q5 isiD (Qc b8 qF))) (eOr (eOp neD b8 ki) (eOp neD bE (eTup eB))))
def t_2:Ev->R:=(eAnd ki (eNot (eFn 3 QF (Qc aQ eB))))
def t_3:Ev->R:=(eTup (Qc bY (Qc (QcL ([none]:List aC) j9 (QC 0) cS (eTup jx)) aNil)))
def t_5:Ev->R:=(eOp neD (QcQ "holds" 3 Qz bx (Qc fG bj)) (QcQ "holds" 3 Qz (eFn 1 jM dZ) (Qc fG bj)))
def t_6:Ev->R:=ou
def t_7:Ev->R:=(eNot (eFn 4 (Qab 12) (Qc aQ (Qc ax (Qc aG rM)))))
def t_8:Ev->R:=rK
def t_9:Ev->R:=(eAnd (eIsC [("Sentence",true),("Came",true),("Both",true),("Either",true),("Knows",true),("Shared",true)] bx) (eAnd (eOp eqD gw b8) (eOp eqD b8 ki)))
def Qqe:Ev->Fl:=(seqG (setG 1 (eFn 1 Qef rN))
  (frzG 1 (seqG (setG 2 (eFn 2 Qdg (Qc ap fZ)))
  (frzG 2 (frzG 1 (seqG (setG 3 (eFn 5 (Q0 12) (Qc ap (Qc ax (Qc aG (Qc dl (Qc aj aNil)))))))
  (frzG 3 (seqG (setG 4 (eFn 1 jM dZ))
  (seqG (setG 5 (eTup (Qc (eTup (Qc bY (Qc ug aNil))) (Qc (eTup (Qc fk (Qc (Q5 Qhv (Qc kr aNil)) (Qc (Q5 Qhv (Qc km aNil)) aNil)))) aNil))))
  (seqG (setG 6 rK)
  (frzG 1 (frzG 2 (frzG 3 (frzG 4 (frzG 5 (frzG 6 (QnP "doubt" 3 kQ t_g t_s 12 t_i t_1 t_2 t_3 t_5 t_6 t_7 t_8 t_9)))))))))))))))))
def Qhi:List D->R:=runF 10 Qqe
section
variable {P:Program}{w:World}{K:PySem.W.Frag}{mg:Str->Option Value}{base:Heap}
theorem sc_L_emptied:FnScope QfT QbO (Qg QdG):=ae
theorem QiY {f:Addr}{fd:FuncData}(Fn:Fun K "_law_emptied" "_law_emptied" QdG f fd)(hbi:Binds K fd QbO [])(hmg:mg "_law_emptied"=some ca)(hkp:PySem.W.keepIn K ca=true):FnOk P w K mg base CX0 13 f fd QbO (spZ K 12):=
 Qox (N:=QfT) (ps:=QbO) Fn sc_L_emptied rfl rfl (QjJ al) (QjJ al) (Qqc al al) (QjJ al) (fun k sp FK cdv A outer s H E hr=>let hu:=QV hr;have CR:CalleeS P w K mg base k "_law_emptied" sp:=⟨f,fd,_,FK,hbi,hmg,hkp⟩;(QM (Qjq (Qg9 fun F0 H0=>cT) (QM (QiU (Qkx (Qc5 0))) (QM (QiU (Qkx (Qc5 0))) tq)) pss_nil) (QM (Qjq (Qg9 fun F0 H0=>cT) (QM (Qlx .never rfl (Qlu (Qc5 0)) (Qsy 1 sc_L_emptied.nd) (QM (QiU (Qkx (Qc5 1))) (Qby (QiU (Qkx (Qc5 1)))))) (QM (QiU (Qc5 0)) tq)) pss_nil) (QM (Qjq (Qg9 fun F0 H0=>(Qk (c_in hu) ak tp)) tq pss_nil) (Qby (Qjq (Qg9 fun F0 H0=>cT) (QM gl tq) pss_nil)))))) 12
theorem QiZ:FnScope QfU Qc6 (Qg QdH):=ae
theorem Qi0 {f:Addr}{fd:FuncData}(Fn:Fun K "_law_cell_at" "_law_cell_at" QdH f fd)(m_len:mg "len"=none):FnOk P w K mg base CX0 1 f fd Qc6 (spV0 K Qo 2):=
 Qaf (N:=QfU) (ps:=Qc6) (k:=0) (g:=Qcl) Fn QiZ (fun cdv A outer s H E F0 hr=>let hu:=QV hr;(Qf (QK (Qk c_lt bO tm) (Qi (Qn (Qh hu br bO))) Qu)
  (Qi (Qn Qd))))
theorem sc_L_mix:FnScope Qms QhQ (Qg QjK):=ae
theorem QnS {f:Addr}{fd:FuncData}(Fn:Fun K "_law_mix" "_law_mix" QjK f fd)(m_range:mg "range"=none):FnOk P w K mg base CX0 1 f fd QhQ (spV0 K QW 2):=
 Qaf (N:=Qms) (ps:=QhQ) (k:=0) (g:=QhR) Fn sc_L_mix (fun cdv A outer s H E F0 hr=>(Qf (QK (Qk c_ge br n6) (Qf (Qm 0 sc_L_mix.nd (Qet (QaE br n6) Qd))
  (Qf (QaM .never rfl (Qci m_range (Qa (Qad bO Qd) Qe)) (Qr 2 sc_L_mix.nd)
  (Qi (Qm 0 sc_L_mix.nd (QaE br Qd))))
  (Qi (Qn (Qad br Qd))))) Qu)
  (Qf (Qm 3 sc_L_mix.nd (Qad (QcV (Qae (Qae (Qad br Qd) (QcV (QcV bO bO) Qd)) bO) Qd) Qd))
  (Qf (Qm 3 sc_L_mix.nd (Qad (QcV bJ bJ) Qd))
  (Qi (Qn (QaE (Qad (QcV bJ (Qae bJ Qd)) Qd) Qd)))))))
theorem sc_L_net:FnScope Qmt QhS (Qg QjL):=ae
theorem QnT {f:Addr}{fd:FuncData}(Fn:Fun K "_law_net" "_law_net" QjL f fd)(m_abs:mg "abs"=none)(m_range:mg "range"=none)(C_L_cell_at:Callee P w K mg base 1 "_law_cell_at" 2 Qo)(C_L_mix:Callee P w K mg base 1 "_law_mix" 2 QW):FnOk P w K mg base CX0 2 f fd QhS (spV0 K Qef 1):=
 Qaf (N:=Qmt) (ps:=QhS) (k:=1) (g:=QjM) Fn sc_L_net (fun cdv A outer s H E F0 hr=>let hu:=QV hr;(Qf (Qm 1 sc_L_net.nd oZ)
  (Qf (Qm 2 sc_L_net.nd (Qae Qd (Qad bI Qd)))
  (Qf (Qm 3 sc_L_net.nd ph)
  (Qf (QaM .never rfl nS (Qr 4 sc_L_net.nd)
  (Qi (QaM .never rfl nS (Qr 5 sc_L_net.nd)
  (Qf (Qm 6 sc_L_net.nd (v_fn C_L_mix aD (Qa bI (Qa (Qae (QcV Qd cu) cx) Qe))))
  (Qf (Qm 7 sc_L_net.nd (Qiz (Qe5 c_gt (QtQ m_abs (Qa (Qet cx cu) Qe)) Qd) (Qjx (Qe5 bA (Qad bO Qd) Qd))))
  (Qf (QK (vt_w (QaY (Qk bA cu cx) (QaY (QaK cM) (Qa0 (Qk bA (Qad dk Qd) Qd))))) (Qi QfG) Qu)
  (Qf (Qm 8 sc_L_net.nd (Qh hu (QcK (Qa Qao (Qa Qd (Qa Qd (Qa (Qae Qd (Qad (QaE dk Qd) Qd)) (Qa (Qae n6 dk) Qe)))))) (Qet (Qad dk Qd) Qd)))
  (Qi (Qj8 3 (QX (Qa cu (Qa cx uQ))))))))))))
  (Qf (QK (Qk bA (Qad (QaE bO Qd) Qd) Qd) (Qi (Qm 3 sc_L_net.nd (Ql3 bJ np))) Qu)
  (QJ 3 (QJ 2 (Qi (Qn (QX (Qa ee fB))))))))))))
theorem QgJ:FnScope Qbb Qbb (Qg Qcm):=ae
theorem QgK {f:Addr}{dV:Value}{fd:FuncData}(Fn:FunD K "__init__" "Both.__init__" Qcm f dV fd):FnOk P w K mg base CX0 1 f fd Qbb (spI K ["one","other"] QhT 3):=
 QfN (ps:=Qbb) (k:=0) Fn QgJ ao ah (fun cdv A outer s H E F0 H0 o C dx hr=>lU)
theorem QgL:FnScope Qbc Qbc (Qg Qcn):=ae
theorem QdC {f:Addr}{dV:Value}{fd:FuncData}(Fn:FunD K "__init__" "Came.__init__" Qcn f dV fd):FnOk P w K mg base CX0 1 f fd Qbc (spI K ["name","by"] QdI 3):=
 QfN (ps:=Qbc) (k:=0) Fn QgL ao ah (fun cdv A outer s H E F0 H0 o C dx hr=>lU)
theorem Qfb:FnScope Qav Qav (Qg QbE):=ae
theorem Qfc {f:Addr}{dV:Value}{fd:FuncData}(Fn:FunD K "__init__" "Either.__init__" QbE f dV fd):FnOk P w K mg base CX0 1 f fd Qav (spI K ["one","other"] Qeg 3):=
 QfN (ps:=Qav) (k:=0) Fn Qfb ao ah (fun cdv A outer s H E F0 H0 o C dx hr=>lU)
theorem Qgx:FnScope QaP QaP (Qg QbY):=ae
theorem Qgy {f:Addr}{dV:Value}{fd:FuncData}(Fn:FunD K "__init__" "Knows.__init__" QbY f dV fd):FnOk P w K mg base CX0 1 f fd QaP (spI K ["house","turn","inside"] Qfs 4):=
 QfN (ps:=QaP) (k:=0) Fn Qgx ao ah (fun cdv A outer s H E F0 H0 o C dx hr=>(Qbl bO ue))
theorem Qfd:FnScope Qaw Qaw (Qg QbF):=ae
theorem Qfe {f:Addr}{dV:Value}{fd:FuncData}(Fn:FunD K "__init__" "Shared.__init__" QbF f dV fd)(m_list:mg "list"=none):FnOk P w K mg base CX0 1 f fd Qaw (spI K ["houses","turn","inside"] Qeh 4):=
 QfN (ps:=Qaw) (k:=0) Fn Qfd ao ah (fun cdv A outer s H E F0 H0 o C dx hr=>(Qbl (QiA m_list mR) ue))
theorem QjN:FnScope Qhf Qco (Qg QeH):=ae
theorem QjO {f:Addr}{fd:FuncData}(Fn:Fun K "_law_object" "_law_object" QeH f fd)(M_Both_0:MkOk P w K mg base 1 "Both" ["one","other"] QhT 3 [])(M_Came_0:MkOk P w K mg base 1 "Came" ["name","by"] QdI 3 [])(M_Came_1:MkOk P w K mg base 1 "Came" ["name","by"] QdI 3 [.non])(M_Either_0:MkOk P w K mg base 1 "Either" ["one","other"] Qeg 3 [])(M_Knows_0:MkOk P w K mg base 1 "Knows" ["house","turn","inside"] Qfs 4 [])(M_Shared_0:MkOk P w K mg base 1 "Shared" ["houses","turn","inside"] Qeh 4 []){n:Nat}{r:List D->R}(C_r:Callee P w K mg base (2+n) "_law_object" 1 r):FnOk P w K mg base CX0 (2+n+1) f fd Qco (spV0 K (runF 0 (Qak r)) 1):=
 Qaf (N:=Qhf) (ps:=Qco) (k:=2+n) (g:=Qak r) Fn QjN (fun cdv A outer s H E F0 hr=>let hu:=QV hr;(Qf (QK (vt_w (Qd7 cT (Qcg (Qk Qeu ak Qao)))) (Qi (Qn (Qg6 M_Came_1 aK ij))) Qu)
  (Qf (QK cT (Qi (Qn (Qg6 M_Came_0 aK uS))) Qu)
  (Qf (QK cT (Qi (Qn (Qg6 M_Both_0 aK (Qa dE pJ)))) Qu)
  (Qf (QK cT (Qi (Qn (Qg6 M_Either_0 aK (Qa dE pJ)))) Qu)
  (Qf (QK cT (Qi (Qn (Qg6 M_Knows_0 aK (Qa ak (Qa ak pJ))))) Qu)
  (Qi (Qn (Qg6 M_Shared_0 aK (Qa ak (Qa ak pJ)))))))))))
theorem Qi1:FnScope QfV Qc7 (Qg QdJ):=ae
theorem Qi2 {f:Addr}{fd:FuncData}(Fn:Fun K "come_of" "come_of" QdJ f fd):FnOk P w K mg base CX0 1 f fd Qc7 (spV0 K Qag 1):=
 Qaf (N:=QfV) (ps:=Qc7) (k:=0) (g:=QdK) Fn Qi1 (fun cdv A outer s H E F0 hr=>let hu:=QV hr;(Qi (Qn ak)))
theorem sc_P_walk_back:FnScope Qej QbZ (Qg Qcq):=ae
theorem QgM {f:Addr}{fd:FuncData}(Fn:Fun K "walk_back" "walk_back" Qcq f fd)(m_sorted:mg "sorted"=none)(C_P_come_of:Callee P w K mg base 1 "come_of" 1 Qag):FnOk P w K mg base CX0 3 f fd QbZ (spV0 K Qar 3):=
 Qaf (N:=Qej) (ps:=QbZ) (k:=2) (g:=Qcr) Fn sc_P_walk_back (fun cdv A outer s H E F0 hr=>let hu:=QV hr;(Qf (Qm 3 sc_P_walk_back.nd (QcV (QcK (Qa (QX (Qa np tt)) Qe)) ak))
  (Qf (Qch hu 3 (QX (Qa bN tt)) bN)
  (Qf (QaM .never rfl (QZ (QpO C_P_come_of aD m_sorted az)) (QgX rfl (QY (Qr 4 sc_P_walk_back.nd) (QY (Qr 5 sc_P_walk_back.nd) (QY (Qr 6 sc_P_walk_back.nd) (QY (Qr 7 sc_P_walk_back.nd) QgW)))))
  (Qi (QK (vt_w (Qd7 (Qk c_le cM (Qh hu (Qh hu bJ cx) Qd)) (Qcg (Qk c_gt dk (Qh hu (Qh hu bJ cu) Qd))))) (Qi (Qch hu 3 (QX (Qa dk (Qa (QX (Qa cu (Qa cx (Qa dk uR)))) Qe))) cu)) Qu)))
  sZ))))
theorem Qh3:FnScope Qc8 Qcs (Qg QbP):=ae
theorem Qh4 {f:Addr}{fd:FuncData}(Fn:Fun K "heard_by" "heard_by" QbP f fd)(C_P_walk_back:Callee P w K mg base 3 "walk_back" 3 Qar):FnOk P w K mg base CX0 4 f fd Qcs (spV0 K QaR 3):=
 Qaf (N:=Qc8) (ps:=Qcs) (k:=3) (g:=Qc9) Fn Qh3 (fun cdv A outer s H E F0 hr=>let hu:=QV hr;(Qi (Qn (QiD (osc:=Qg QbP) (N:=Qc8) ["best"] ([none]:List aC) [0] rfl rfl aq rfl (QZ (v_fn C_P_walk_back aD mQ)) (QbA 0) (fun _ _ _ _=>⟨(Qr 0 (show(["best"]:List Str).Nodup by decide+kernel)),QiC,ak⟩)))))
theorem sc_P_seen:FnScope Qft QfW (Qg Qek):=ae
theorem Qmv {f:Addr}{fd:FuncData}(Fn:Fun K "seen" "seen" Qek f fd)(m_sorted:mg "sorted"=none)(C_P_heard_by:Callee P w K mg base 4 "heard_by" 3 QaR):FnOk P w K mg base CX0 5 f fd QfW (spV0 K Qda 3):=
 Qaf (N:=Qft) (ps:=QfW) (k:=4) (g:=QhU) Fn sc_P_seen (fun cdv A outer s H E F0 hr=>let hu:=QV hr;(Qf (Qm 3 sc_P_seen.nd (v_fn C_P_heard_by aD mQ))
  (QJ 3 (Qf (Qew 4 (osc:=Qg Qek) (N:=Qft) ["heard","run"] ([some 3,none]:List aC) [1] rfl rfl sc_P_seen.nd aq rfl i6 oT (fun _ _ _ _=>⟨(Qr 1 (show(["heard","run"]:List Str).Nodup by decide+kernel)),fb,bO⟩))
  (QJ 3 (Qf (Qew 5 (osc:=Qg Qek) (N:=Qft) ["heard","sign"] ([some 3,none]:List aC) [1] rfl rfl sc_P_seen.nd aq rfl i6 oT (fun _ _ _ _=>⟨(Qr 1 (show(["heard","sign"]:List Str).Nodup by decide+kernel)),fb,bO⟩))
  iy))))))
theorem sc_P_latest_runs:FnScope QbG Qbm (Qg QaS):=ae
theorem Qff {f:Addr}{fd:FuncData}(Fn:Fun K "latest_runs" "latest_runs" QaS f fd)(m_range:mg "range"=none):FnOk P w K mg base CX0 1 f fd Qbm (spV0 K Qaa 2):=
 Qaf (N:=QbG) (ps:=Qbm) (k:=0) (g:=QbH) Fn sc_P_latest_runs (fun cdv A outer s H E F0 hr=>let hu:=QV hr;(Qf (Qm 2 sc_P_latest_runs.nd ak)
  (Qi (Qn (QiD (osc:=Qg QaS) (N:=QbG) ["path","most","left"] ([some 0,some 2,none]:List aC) [2] rfl rfl aq rfl (Qci m_range (Qa (Qae (Qet bO ee) Qd) Qe)) (QbA 2) (fun _ _ _ _=>⟨(Qr 2 (show(["path","most","left"]:List Str).Nodup by decide+kernel)),QiC,(QX (Qa ak (Qa ak (Qa ee (Qa (Qae ee bO) Qe)))))⟩))))))
theorem Qi3:FnScope QfX Qdb (Qg QdL):=ae
theorem Qi4 {f:Addr}{fd:FuncData}(Fn:Fun K "run_key" "run_key" QdL f fd):FnOk P w K mg base CX0 1 f fd Qdb (spV0 K Qah 1):=
 Qaf (N:=QfX) (ps:=Qdb) (k:=0) (g:=QdM) Fn Qi3 (fun cdv A outer s H E F0 hr=>let hu:=QV hr;(Qi (Qn (QX (Qa ak uS)))))
theorem sc_P_slowest:FnScope QdN Qdc (Qg Qct):=ae
theorem Qi5 {f:Addr}{fd:FuncData}(Fn:Fun K "slowest" "slowest" Qct f fd)(m_list:mg "list"=none)(m_sorted:mg "sorted"=none)(C_P_latest_runs:Callee P w K mg base 1 "latest_runs" 2 Qaa)(C_P_run_key:Callee P w K mg base 1 "run_key" 1 Qah):FnOk P w K mg base CX0 2 f fd Qdc (spV0 K Qbh 3):=
 Qaf (N:=QdN) (ps:=Qdc) (k:=1) (g:=QdO) Fn sc_P_slowest (fun cdv A outer s H E F0 hr=>let hu:=QV hr;(Qf (Qm 3 sc_P_slowest.nd v_dT)
  (Qf (QaM .never rfl i6 (Qr 4 sc_P_slowest.nd)
  (Qi (Qch hu 3 v_bl (v_fn C_P_run_key aD pK))))
  (Qf (Qm 5 sc_P_slowest.nd (QiA m_list pL))
  (Qf (QaM .never rfl (QZ ak) (Qr 6 sc_P_slowest.nd)
  (Qi (QK (Qk QfF iB Qao) (QJ 3 (Qi (QrT 5 (QiD (osc:=Qg Qct) (N:=QdN) ["told","run"] ([some 3,none]:List aC) [1] rfl rfl aq rfl (QZ (v_fn C_P_latest_runs aD (Qa dk aX))) oT (fun _ _ _ _=>⟨(Qr 1 (show(["told","run"]:List Str).Nodup by decide+kernel)),(QgZ (Qk lT (v_fn C_P_run_key aD mR) br)),bO⟩))))) Qu)))
  (Qi (Qn (QX (Qa ee (Qa (QcZ m_sorted cx) (Qa (QcZ m_sorted az) Qe)))))))))))
theorem QjP:FnScope Qhg QdP (Qg QeI):=ae
theorem QjQ {f:Addr}{fd:FuncData}(Fn:Fun K "slowed" "slowed" QeI f fd)(C_P_seen:Callee P w K mg base 5 "seen" 3 Qda)(C_P_slowest:Callee P w K mg base 2 "slowest" 3 Qbh):FnOk P w K mg base CX0 6 f fd QdP (spV0 K QaA 3):=
 Qaf (N:=Qhg) (ps:=QdP) (k:=5) (g:=QeJ) Fn QjP (fun cdv A outer s H E F0 hr=>let hu:=QV hr;(Qi (Qn (v_fn C_P_slowest aD (Qa br (Qa (v_fn C_P_seen aD mQ) pL))))))
theorem Qi6:FnScope QfY Qdd (Qg QdQ):=ae
theorem Qi7 {f:Addr}{fd:FuncData}(Fn:Fun K "ordered" "ordered" QdQ f fd)(m_sorted:mg "sorted"=none):FnOk P w K mg base CX0 1 f fd Qdd (spV0 K Qbi 1):=
 Qaf (N:=QfY) (ps:=Qdd) (k:=0) (g:=QdR) Fn Qi6 (fun cdv A outer s H E F0 hr=>let hu:=QV hr;(Qi (Qn (QX (Qa ak (Qa (QcZ m_sorted ak) (Qa (QcZ m_sorted ak) Qe)))))))
theorem sc_P_common_steps:FnScope QcF Qa2 (Qg Qbn):=ae
theorem QeO {f:Addr}{fd:FuncData}(Fn:Fun K "common_steps" "common_steps" Qbn f fd)(m_len:mg "len"=none)(C_P_ordered:Callee P w K mg base 1 "ordered" 1 Qbi)(C_P_slowed:Callee P w K mg base 6 "slowed" 3 QaA):FnOk P w K mg base CX0 7 f fd Qa2 (spV0 K QP 4):=
 Qaf (N:=QcF) (ps:=Qa2) (k:=6) (g:=Qbo) Fn sc_P_common_steps (fun cdv A outer s H E F0 hr=>let hu:=QV hr;(Qf (Qm 4 sc_P_common_steps.nd ph)
  (Qf (Qm 5 sc_P_common_steps.nd (v_fn C_P_ordered aD mR))
  (Qf (Qm 6 sc_P_common_steps.nd Qd)
  (Qf nQ
  (Qf (Qj7 100000 .never (Qk c_lt cM (QfJ m_len aX)) (Qf (Qm 8 sc_P_common_steps.nd (Qh hu ee dk))
  (QJ 5 (Qf (Qm 9 sc_P_common_steps.nd (v_fn C_P_slowed aD (Qa br (Qa cx (Qa (QX (Qa iR fB)) Qe)))))
  (Qf (QK (Qk bA mP cx) (Qi (Qr2 7 sc_P_common_steps.nd Qd)) (QJ 9 (Qf (Qj8 4 (QX (Qa iR (Qa mP Qe))))
  (QJ 9 (Qf (Qm 5 sc_P_common_steps.nd mP)
  (Qi nQ))))))
  (Qi (Qm 6 sc_P_common_steps.nd (Qad (Qae dk Qd) (QfJ m_len aX)))))))))
  (Qi (Qhx 4))))))))
theorem QjR:FnScope Qhh QdS (Qg QeK):=ae
theorem QjS {f:Addr}{fd:FuncData}(Fn:Fun K "end_of" "end_of" QeK f fd):FnOk P w K mg base CX0 1 f fd QdS (spV0 K QbI 2):=
 Qaf (N:=Qhh) (ps:=QdS) (k:=0) (g:=Qdo) Fn QjR (fun cdv A outer s H E F0 hr=>let hu:=QV hr;(Qi (Qn (v_if (Qr1 br) (Qh hu (Qh hu br np) Qd) bO))))
theorem Qd2:FnScope QbQ QaC (Qg QaT):=ae
theorem Qd3 {f:Addr}{fd:FuncData}(Fn:Fun K "doubt" "Sentence.doubt" QaT f fd){n:Nat}{t:MTab}(D_t:Qaq P w K mg base (7+n) "doubt" 3 t):FnOk P w K mg base CX0 (7+n+1) f fd QaC (spV0 K (runF 0 (QaU t)) 3):=
 Qaf (N:=QbQ) (ps:=QaC) (k:=7+n) (g:=QaU t) Fn Qd2 (fun cdv A outer s H E F0 hr=>(Qi (Qn (QX eJ))))
theorem sc_M_Came_doubt:FnScope QdA QbJ (Qg Qb0):=ae
theorem Qgz {f:Addr}{fd:FuncData}(Fn:Fun K "doubt" "Came.doubt" Qb0 f fd)(FO_Came_by:QaZ K ["Came"] "by")(FO_Came_name:QaZ K ["Came"] "name"){n:Nat}{t:MTab}(D_t:Qaq P w K mg base (7+n) "doubt" 3 t):FnOk P w K mg base CX0 (7+n+1) f fd QbJ (spV0 K (runF 3 (QT t)) 3):=
 Qaf (N:=QdA) (ps:=QbJ) (k:=7+n) (g:=QT t) Fn sc_M_Came_doubt (fun cdv A outer s H E F0 hr=>let hu:=QV hr;(Qf (QaM .never rfl (QZ bN) (QgX rfl (QY (Qr 3 sc_M_Came_doubt.nd) (QY (Qr 4 sc_M_Came_doubt.nd) (QY (Qr 5 sc_M_Came_doubt.nd) QgW))))
  (Qi (QK (vt_w (Qd7 (Qk bA cx sq) (Qcg (vt_w (QaY (Qk Qeu ud Qao) (Qa0 (Qk c_le cu ud))))))) (Qi (Qn Qao)) Qu)))
  (Qi (Qn (QX (Qa QL (Qa sq Qe)))))))
theorem sc_M_Both_doubt:FnScope QdB QbK (Qg Qb1):=ae
theorem QgA {f:Addr}{fd:FuncData}(Fn:Fun K "doubt" "Both.doubt" Qb1 f fd)(FO_Both_one:QaZ K ["Both"] "one")(FO_Both_other:QaZ K ["Both"] "other"){n:Nat}{t:MTab}(D_t:Qaq P w K mg base (7+n) "doubt" 3 t):FnOk P w K mg base CX0 (7+n+1) f fd QbK (spV0 K (runF 2 (QB t)) 3):=
 Qaf (N:=QdB) (ps:=QbK) (k:=7+n) (g:=QB t) Fn sc_M_Both_doubt (fun cdv A outer s H E F0 hr=>(Qf (Qm 3 sc_M_Both_doubt.nd (Qb8 D_t aK (Qea FO_Both_one br) eC))
  (Qf (QK (Qk QfF bJ Qao) (QJ 3 (Qi (Qn (QX (Qa QL fB))))) Qu)
  (Qf (Qm 4 sc_M_Both_doubt.nd (Qb8 D_t aK (Qea FO_Both_other br) eC))
  (QJ 4 (Qi (Qn (v_if (Qk Qeu cu Qao) Qao (QX (Qa QL pK))))))))))
theorem sc_M_Either_doubt:FnScope QcG Qa4 (Qg Qbp):=ae
theorem QeP {f:Addr}{fd:FuncData}(Fn:Fun K "doubt" "Either.doubt" Qbp f fd)(FO_Either_one:QaZ K ["Either"] "one")(FO_Either_other:QaZ K ["Either"] "other"){n:Nat}{t:MTab}(D_t:Qaq P w K mg base (7+n) "doubt" 3 t):FnOk P w K mg base CX0 (7+n+1) f fd Qa4 (spV0 K (runF 2 (Qw t)) 3):=
 Qaf (N:=QcG) (ps:=Qa4) (k:=7+n) (g:=Qw t) Fn sc_M_Either_doubt (fun cdv A outer s H E F0 hr=>(Qf (Qm 3 sc_M_Either_doubt.nd (Qb8 D_t aK (Qea FO_Either_one br) eC))
  (Qf (QK (Qk Qeu bJ Qao) (Qi (Qn Qao)) Qu)
  (Qf (Qm 4 sc_M_Either_doubt.nd (Qb8 D_t aK (Qea FO_Either_other br) eC))
  cL))))
theorem sc_M_Knows_doubt:FnScope Qde Qbq (Qg QbL):=ae
theorem Qfg {f:Addr}{fd:FuncData}(Fn:Fun K "doubt" "Knows.doubt" QbL f fd)(C_P_slowed:Callee P w K mg base 6 "slowed" 3 QaA)(FO_Knows_house:QaZ K ["Knows"] "house")(FO_Knows_inside:QaZ K ["Knows"] "inside")(FO_Knows_turn:QaZ K ["Knows"] "turn"){n:Nat}{t:MTab}(D_t:Qaq P w K mg base (7+n) "doubt" 3 t):FnOk P w K mg base CX0 (7+n+1) f fd Qbq (spV0 K (runF 2 (QE t)) 3):=
 Qaf (N:=Qde) (ps:=Qbq) (k:=7+n) (g:=QE t) Fn sc_M_Knows_doubt (fun cdv A outer s H E F0 hr=>(Qf (Qm 3 sc_M_Knows_doubt.nd (v_fn C_P_slowed aK (Qa bO (Qa ee (Qa (QX (Qa (Qea FO_Knows_house br) (Qa (Qea FO_Knows_turn br) Qe))) Qe)))))
  (QJ 3 (Qf (Qm 4 sc_M_Knows_doubt.nd (Qb8 D_t aK (Qea FO_Knows_inside br) (Qa bO fB)))
  cL))))
theorem sc_M_Shared_doubt:FnScope QcH Qa5 (Qg Qbr):=ae
theorem QeQ {f:Addr}{fd:FuncData}(Fn:Fun K "doubt" "Shared.doubt" Qbr f fd)(C_P_common_steps:Callee P w K mg base 7 "common_steps" 4 QP)(C_P_end_of:Callee P w K mg base 1 "end_of" 2 QbI)(FO_Shared_houses:QaZ K ["Shared"] "houses")(FO_Shared_inside:QaZ K ["Shared"] "inside")(FO_Shared_turn:QaZ K ["Shared"] "turn"){n:Nat}{t:MTab}(D_t:Qaq P w K mg base (7+n) "doubt" 3 t):FnOk P w K mg base CX0 (7+n+1) f fd Qa5 (spV0 K (runF 2 (QD t)) 3):=
 Qaf (N:=QcH) (ps:=Qa5) (k:=7+n) (g:=QD t) Fn sc_M_Shared_doubt (fun cdv A outer s H E F0 hr=>(Qf (Qm 3 sc_M_Shared_doubt.nd (v_fn C_P_common_steps aK (Qa bO (Qa ee (Qa (Qea FO_Shared_houses br) (Qa (Qea FO_Shared_turn br) Qe))))))
  (QJ 3 (Qf (Qm 4 sc_M_Shared_doubt.nd (Qb8 D_t aK (Qea FO_Shared_inside br) (Qa bO (Qa (v_fn C_P_end_of aK (Qa bJ aX)) Qe))))
  cL))))
theorem Qd4:FnScope QbR QaD (Qg QaV):=ae
theorem QI {f:Addr}{fd:FuncData}(Fn:Fun K "holds" "Sentence.holds" QaV f fd)(D_doubt:Qaq P w K mg base 19 "doubt" 3 kQ):FnOk P w K mg base CX0 20 f fd QaD (spV0 K Ql 3):=
 Qaf (N:=QbR) (ps:=QaD) (k:=19) (g:=QaW) Fn Qd4 (fun cdv A outer s H E F0 hr=>(Qi (Qn (Qe5 Qeu (Qb8 D_doubt aD br eC) Qao))))
theorem sc_L_parts_hold:FnScope Qb2 QbM (Qg Qbe):=ae
theorem QgB {f:Addr}{fd:FuncData}(Fn:Fun K "_law_parts_hold" "_law_parts_hold" Qbe f fd)(C_L_object:Callee P w K mg base 14 "_law_object" 1 jM)(D_holds:Qaq P w K mg base 20 "holds" 3 Qz):FnOk P w K mg base CX0 21 f fd QbM (spV0 K QF 3):=
 Qaf (N:=Qb2) (ps:=QbM) (k:=20) (g:=QU) Fn sc_L_parts_hold (fun cdv A outer s H E F0 hr=>let hu:=QV hr;(Qf (QK (Qk lT ak tp) bw Qu)
  (Qf (Qew 3 (osc:=Qg Qbe) (N:=Qb2) ["_law_net_here","_law_tale_here","_law_part"] ([some 1,some 2,none]:List aC) [2] rfl rfl sc_L_parts_hold.nd aq rfl (Qom (v_sl br (Qey Qd) Qex)) (QbA 2) (fun _ _ _ _=>⟨(Qr 2 (show(["_law_net_here","_law_tale_here","_law_part"]:List Str).Nodup by decide+kernel)),QiC,(Qb8 D_holds aD (v_fn C_L_object aD aX) (Qa br mR))⟩))
  (Qf (QK cT (Qi (Qn (Qe5 bA bJ (QcK (Qa v_bl (Qa v_bl Qe)))))) Qu)
  (Qi (Qn (Qe5 (c_in hu) v_bl bJ)))))))
theorem sc_L_signs:FnScope QiV QeL (Qg QfZ):=ae
theorem Qld {f:Addr}{fd:FuncData}(Fn:Fun K "_law_signs" "_law_signs" QfZ f fd)(m_range:mg "range"=none)(C_L_cell_at:Callee P w K mg base 1 "_law_cell_at" 2 Qo)(C_L_mix:Callee P w K mg base 1 "_law_mix" 2 QW):FnOk P w K mg base CX0 2 f fd QeL (spV0 K Qcd 3):=
 Qaf (N:=QiV) (ps:=QeL) (k:=1) (g:=Qf0) Fn sc_L_signs (fun cdv A outer s H E F0 hr=>let hu:=QV hr;(Qf (Qm 3 sc_L_signs.nd ph)
  (Qf (Qm 4 sc_L_signs.nd uP)
  (Qf (Qm 5 sc_L_signs.nd (QcK (Qa QL (Qa QL eJ))))
  (Qf (QK (Qk bA uP Qd) (Qi (Qm 5 sc_L_signs.nd (QcK (Qa QL (Qa lE (Qa lE (Qa (QcV QL Qd) Qe))))))) Qu)
  (Qf (QaM .never rfl (Qci m_range (Qa (Qad oZ Qd) Qe)) (Qr 6 sc_L_signs.nd)
  (Qf (Qm 7 sc_L_signs.nd (v_fn C_L_mix aD (Qa (v_fn C_L_cell_at aD (Qa br (Qa (Qae Qd dk) Qe))) (Qa (Qae Qd dk) Qe))))
  (Qf (Qm 8 sc_L_signs.nd (QX (Qa (Qad cM az) (Qa (Qad (QaE cM Qd) (Qae ee Qd)) (Qa (Qh hu cx (Qad (QaE cM Qd) Qd)) Qe)))))
  (Qi (QK (Qk lT iR bJ) (Qi (Qj8 3 iR)) Qu)))))
  sZ))))))
theorem sc_L_tale:FnScope Qky Qf1 (Qg QhV):=ae
theorem Qmw {f:Addr}{fd:FuncData}(Fn:Fun K "_law_tale" "_law_tale" QhV f fd)(m_min:mg "min"=none)(m_range:mg "range"=none)(C_L_cell_at:Callee P w K mg base 1 "_law_cell_at" 2 Qo)(C_L_mix:Callee P w K mg base 1 "_law_mix" 2 QW)(C_L_signs:Callee P w K mg base 2 "_law_signs" 3 Qcd):FnOk P w K mg base CX0 3 f fd Qf1 (spV0 K Qdg 2):=
 Qaf (N:=Qky) (ps:=Qf1) (k:=2) (g:=QhW) Fn sc_L_tale (fun cdv A outer s H E F0 hr=>let hu:=QV hr;(Qf (Qm 2 sc_L_tale.nd (Qad bI Qd))
  (Qf (Qm 3 sc_L_tale.nd ph)
  (Qf (Qm 4 sc_L_tale.nd Qd)
  (Qf (QaM .never rfl i6 (QgX rfl (QY (Qr 5 sc_L_tale.nd) (QY (Qr 6 sc_L_tale.nd) (QY (Qr 7 sc_L_tale.nd) QgW))))
  (Qi (QaM .never rfl nS (Qr 8 sc_L_tale.nd)
  (Qf (Qm 4 sc_L_tale.nd (Qae cu Qd))
  (Qf (Qm 9 sc_L_tale.nd (v_fn C_L_mix aD (Qa (v_fn C_L_cell_at aD nT) pK)))
  (Qf (Qm 10 sc_L_tale.nd (Qae (Qae iR Qd) (Qad (QaE mP Qd) Qd)))
  (Qf (QK (vt_w (Qd7 (Qk Qeu cM Qao) qj)) (Qi QfG) Qu)
  (Qf (QK oI (Qi (Qm 10 sc_L_tale.nd (Qae (Qae iR Qd) (Qad (QaE mP Qd) (QrD rfl m_min (Qa cM mS)))))) Qu)
  (Qf (QK (vt_w (Qd7 oI qj)) (Qi (Qm 10 sc_L_tale.nd (Qae iR cM))) Qu)
  (Qi (QK (Qk c_le jN ee) (QJ 10 (Qi (Qj8 3 (QX (Qa cx (Qa dk (Qa iR pI))))))) Qu)))))))))))
  (Qf (QK (Qk bA (Qad ee Qd) Qd) (Qi (Qm 3 sc_L_tale.nd (Ql3 bJ np))) Qu)
  (QJ 3 (Qi (Qn (QX (Qa ee (Qa bJ (Qa (v_fn C_L_signs aD mQ) Qe)))))))))))))
theorem sc_L_tree:FnScope Qfu Qem (Qg Qel):=ae
theorem Qmx {f:Addr}{fd:FuncData}(Fn:Fun K "_law_tree" "_law_tree" Qel f fd)(m_len:mg "len"=none)(m_range:mg "range"=none)(C_L_cell_at:Callee P w K mg base 1 "_law_cell_at" 2 Qo)(C_L_mix:Callee P w K mg base 1 "_law_mix" 2 QW){n:Nat}{r:List D->R}(C_r:Callee P w K mg base (1+n) "_law_tree" 5 r):FnOk P w K mg base CX0 (1+n+1) f fd Qem (spV0 K (runF 8 (QbS r)) 5):=
 Qaf (N:=Qfu) (ps:=Qem) (k:=1+n) (g:=QbS r) Fn sc_L_tree (fun cdv A outer s H E F0 hr=>let hu:=QV hr;(Qf (Qm 5 sc_L_tree.nd (v_fn C_L_mix aK (Qa (v_fn C_L_cell_at aK nT) (Qa (Qae Qd cu) Qe))))
  (Qf (Qm 6 sc_L_tree.nd (Qae (QiD (osc:=Qg Qel) (N:=Qfu) ["_law_sign"] ([none]:List aC) [0] rfl rfl aq rfl (QZ bN) (QbA 0) (fun _ _ _ _=>⟨(Qr 0 (show(["_law_sign"]:List Str).Nodup by decide+kernel)),QiC,ak⟩)) (QcK (Qa QL eJ))))
  (Qf (Qm 7 sc_L_tree.nd (Qad cx Qd))
  (Qf (QK (vt_w (QaY (Qk bA bJ Qd) (Qa0 (Qk bA cM Qd)))) (Qf (Qm 8 sc_L_tree.nd (Qh hu (QcK (Qa Qao (Qa Qao (Qa (Qet uO Qd) (Qa n6 Qe))))) (Qad iI Qd)))
  (Qi (Qn (QX (Qa QL (Qa (Qh hu dk (Qad iI tj)) uQ)))))) Qu)
  (Qf (QK (Qk c_lt cM Qd) (Qf (Qm 9 sc_L_tree.nd cy)
  (QJ 9 (Qi (Qn (QX (Qa (Qh hu tp (Qet cM Qd)) (Qa mP (Qa cy Qe)))))))) Qu)
  (Qf (Qm 10 sc_L_tree.nd cy)
  (Qf (Qm 11 sc_L_tree.nd (Qet bN (QcV uO (Qad iI Qd))))
  (Qf (QK (Qk c_lt cM Qd) (QJ 10 (Qi (Qn (QX (Qa QL (Qa (Qad iI az) (Qa (Qb 11) pI))))))) Qu)
  (QJ 5 (Qf (Qew 12 (osc:=Qg Qel) (N:=Qfu) ["_law_number","_law_house"] ([some 5,none]:List aC) [1] rfl rfl sc_L_tree.nd aq rfl (Qci m_range pL) oT (fun _ _ _ _=>⟨(Qr 1 (show(["_law_number","_law_house"]:List Str).Nodup by decide+kernel)),(QgZ (Qk c_gt (Qad (QaE (QaE br Qd) (Qae bO Qd)) Qd) Qd)),bO⟩))
  (Qf (QK (Qk bA (Qb 12) ph) (Qi (Qm 12 sc_L_tree.nd (QcK (Qa (Qad iI az) Qe)))) Qu)
  (QJ 10 (Qi (Qn (QX (Qa QL (Qa (Ql3 (v_sl (Qb 12) Qex (Qey Qd)) np) (Qa (Qb 11) pI)))))))))))))))))))
theorem Qle:FnScope QiW QeM (Qg Qf5):=ae
theorem Qlf {f:Addr}{fd:FuncData}(Fn:Fun K "_law_whole" "_law_whole" Qf5 f fd)(m_bool:mg "bool"=none)(m_int:mg "int"=none)(m_isinstance:mg "isinstance"=none):FnOk P w K mg base CX0 1 f fd QeM (spV0 K Qam 1):=
 Qaf (N:=QiW) (ps:=QeM) (k:=0) (g:=Qf6) Fn Qle (fun cdv A outer s H E F0 hr=>(Qi (Qn (Qiz (Qe7 m_isinstance (Qa br (Qa (v_ty m_int) Qe))) (Qjx (QtN (Qe7 m_isinstance (Qa br uf))))))))
theorem sc_L_good:FnScope Qkz Qf7 (Qg QhX):=ae
theorem Qmy {f:Addr}{fd:FuncData}(Fn:Fun K "_law_good" "_law_good" QhX f fd)(m_isinstance:mg "isinstance"=none)(m_len:mg "len"=none)(m_range:mg "range"=none)(m_tuple:mg "tuple"=none)(C_L_whole:Callee P w K mg base 1 "_law_whole" 1 Qam):FnOk P w K mg base CX0 2 f fd Qf7 (spV0 K Qdh 2):=
 Qaf (N:=Qkz) (ps:=Qf7) (k:=1) (g:=QhY) Fn sc_L_good (fun cdv A outer s H E F0 hr=>let hu:=QV hr;(Qf (Qm 2 sc_L_good.nd v_dT)
  (Qf (QaM .never rfl (QZ ak) fQ
  (Qi (Qch hu 2 cx (QX (Qa bJ pK)))))
  (Qf (Qm 6 sc_L_good.nd v_dT)
  (Qf (QaM .never rfl i6 (Qr 7 sc_L_good.nd)
  (Qf (QK (vt_w (QaY (QaL (QaK (Qe7 m_isinstance (Qa cM fL)))) (QaY (Qk eA (QfJ m_len uR) Qd) (QaY (Qk lT hV ee) (Qa0 (Qk (c_in hu) hV dk)))))) bw Qu)
  (Qf (Qm 5 sc_L_good.nd (Qh hu ee hV))
  (Qf (QaM .never rfl (Qom cM) (Qr 8 sc_L_good.nd)
  (Qi (QK (QaL (QaK (v_fn C_L_whole aD uQ))) bw Qu)))
  (Qf (QK (vt_w (QaY (Qk c_lt iC Qd) (QaY (Qk c_le iC iC) (QaY (Qk c_gt iC az) (Qa0 (vt_w (Qd7 (Qk QfF cx Qao) (Qcg (Qk c_gt iC (Qae iC cx)))))))))) bw Qu)
  (Qi (Qch hu 6 v_bl hV)))))))
  (Qf (QaM .never rfl (QZ ak) fQ
  (Qi (QK (Qk QfF cx Qao) (Qi (QaM .never rfl (Qci m_range (Qa (Qae (Qet az cx) Qd) Qe)) (Qr 9 sc_L_good.nd)
  (Qi (QK (Qk lT (QX (Qa bJ (Qa cu (Qa mP Qe)))) dk) bw Qu)))) Qu)))
  (Qf (QaM .never rfl i6 (Qr 10 sc_L_good.nd)
  (Qf (QK (vt_w (QaY (QaL (QaK (Qe7 m_isinstance (Qa jN fL)))) (QaY (Qk eA (QfJ m_len pI) Qd) (Qa0 (QaL (Qkb c_le c_lt Qd (Qh hu jN Qd) ak)))))) bw Qu)
  (Qi (QK (vt_w (QaY (QaL (Qkb c_le c_le Qd (Qh hu jN Qd) az)) (Qa0 (Qk eA (Qt4 hu az jN) Qd)))) bw Qu))))
  bw)))))))
theorem sc_L_ends:FnScope QkA Qgi (Qg QhZ):=ae
theorem Qmz {f:Addr}{fd:FuncData}(Fn:Fun K "_law_ends" "_law_ends" QhZ f fd):FnOk P w K mg base CX0 1 f fd Qgi (spV0 K Qdi 3):=
 Qaf (N:=QkA) (ps:=Qgi) (k:=0) (g:=Qh0) Fn sc_L_ends (fun cdv A outer s H E F0 hr=>let hu:=QV hr;(Qf (Qm 3 sc_L_ends.nd (QcV (QcK (Qa np Qe)) ak))
  (Qf (Qch hu 3 bN bN)
  (Qf jY
  (Qf (Qj7 100000 .never (QaK cu) (Qf jY
  (Qi (QaM .never rfl i6 (QgX rfl (QY (Qr 5 sc_L_ends.nd) (QY (Qr 6 sc_L_ends.nd) (QY (Qr 7 sc_L_ends.nd) (QY (Qr 8 sc_L_ends.nd) QgW)))))
  (Qi (QK (vt_w (Qd7 (Qk c_le iR (Qh hu bJ dk)) (Qcg (Qk c_gt cM (Qh hu bJ cx))))) (Qf (Qch hu 3 cM cx)
  (Qi jY)) Qu))))))
  sZ)))))
theorem sc_L_seen:FnScope Qfv Qgl (Qg Qen):=ae
theorem QmA {f:Addr}{fd:FuncData}(Fn:Fun K "_law_seen" "_law_seen" Qen f fd)(m_sorted:mg "sorted"=none)(C_L_ends:Callee P w K mg base 1 "_law_ends" 3 Qdi):FnOk P w K mg base CX0 2 f fd Qgl (spV0 K Qce 3):=
 Qaf (N:=Qfv) (ps:=Qgl) (k:=1) (g:=Qh1) Fn sc_L_seen (fun cdv A outer s H E F0 hr=>let hu:=QV hr;(Qf (Qm 3 sc_L_seen.nd (v_fn C_L_ends aD mQ))
  (QJ 3 (Qf (Qew 4 (osc:=Qg Qen) (N:=Qfv) ["_law_ends_here","_law_run"] ([some 3,none]:List aC) [1] rfl rfl sc_L_seen.nd aq rfl i6 oT (fun _ _ _ _=>⟨(Qr 1 (show(["_law_ends_here","_law_run"]:List Str).Nodup by decide+kernel)),fb,bO⟩))
  (QJ 3 (Qf (Qew 5 (osc:=Qg Qen) (N:=Qfv) ["_law_ends_here","_law_sign"] ([some 3,none]:List aC) [1] rfl rfl sc_L_seen.nd aq rfl i6 oT (fun _ _ _ _=>⟨(Qr 1 (show(["_law_ends_here","_law_sign"]:List Str).Nodup by decide+kernel)),fb,bO⟩))
  iy))))))
theorem QgN:FnScope Qeo Qb3 (Qg Qcv):=ae
theorem QgO {f:Addr}{fd:FuncData}(Fn:Fun K "_law_tale_kind" "_law_tale_kind" Qcv f fd)(m_isinstance:mg "isinstance"=none)(m_len:mg "len"=none)(m_list:mg "list"=none)(m_tuple:mg "tuple"=none)(C_L_whole:Callee P w K mg base 1 "_law_whole" 1 Qam):FnOk P w K mg base CX0 2 f fd Qb3 (spV0 K Qas 1):=
 Qaf (N:=Qeo) (ps:=Qb3) (k:=1) (g:=Qcw) Fn QgN (fun cdv A outer s H E F0 hr=>let hu:=QV hr;(Qf (QK (vt_w (QaY (QaL (QaK (Qe7 m_isinstance (Qa br fL)))) (QaY (Qk eA tm Qd) (Qa0 (QaL (QaK (v_fn C_L_whole aD ij))))))) bw Qu)
  (Qi (Qn (Qiz kR (Qjx kR))))))
theorem Qlg:FnScope QiX QeN (Qg Qgm):=ae
theorem Qlh {f:Addr}{fd:FuncData}(Fn:Fun K "_law_looks" "_law_looks" Qgm f fd)(C_L_good:Callee P w K mg base 2 "_law_good" 2 Qdh)(C_L_seen:Callee P w K mg base 2 "_law_seen" 3 Qce)(C_L_tale_kind:Callee P w K mg base 2 "_law_tale_kind" 1 Qas):FnOk P w K mg base CX0 3 f fd QeN (spV0 K Qbx 4):=
 Qaf (N:=QiX) (ps:=QeN) (k:=2) (g:=Qgn) Fn Qlg (fun cdv A outer s H E F0 hr=>let hu:=QV hr;(Qf (QK (vt_w (QaY (QaL (QaK (v_fn C_L_tale_kind aD aX))) (QaY (Qk eA bN az) (Qa0 (QaL (QaK (v_fn C_L_good aD (Qa br aX)))))))) bw Qu)
  (Qi (Qn (Qe5 bA (v_fn C_L_seen aD (Qa br (Qa ee fB))) (v_fn C_L_seen aD (Qa br (Qa bO fB))))))))
theorem sc_L_none_came:FnScope Qep Qb4 (Qg Qcx):=ae
theorem QgP {f:Addr}{fd:FuncData}(Fn:Fun K "_law_none_came" "_law_none_came" Qcx f fd):FnOk P w K mg base CX0 1 f fd Qb4 (spV0 K Qat 2):=
 Qaf (N:=Qep) (ps:=Qb4) (k:=0) (g:=Qcy) Fn sc_L_none_came (fun cdv A outer s H E F0 hr=>let hu:=QV hr;(Qf (QaM .never rfl i6 (Qr 2 sc_L_none_came.nd)
  (Qi (QK (vt_w (Qd7 (Qk bA bN ak) (Qcg (vt_w (QaY (Qk Qeu ak Qao) (Qa0 (Qk c_le bN ak))))))) bw Qu)))
  bw))
theorem sc_L_walk:FnScope QkB Qeq (Qg Qh2):=ae
theorem QmB {f:Addr}{fd:FuncData}(Fn:Fun K "_law_walk" "_law_walk" Qh2 f fd)(m_isinstance:mg "isinstance"=none)(m_len:mg "len"=none)(m_list:mg "list"=none)(m_str:mg "str"=none)(m_tuple:mg "tuple"=none)(C_L_looks:Callee P w K mg base 3 "_law_looks" 4 Qbx)(C_L_none_came:Callee P w K mg base 1 "_law_none_came" 2 Qat)(C_L_object:Callee P w K mg base 14 "_law_object" 1 jM)(C_L_whole:Callee P w K mg base 1 "_law_whole" 1 Qam)(D_holds:Qaq P w K mg base 20 "holds" 3 Qz){n:Nat}{r:List D->R}(C_r:Callee P w K mg base (20+n) "_law_walk" 4 r):FnOk P w K mg base CX0 (20+n+1) f fd Qeq (spV0 K (runF 3 (Qbw r)) 4):=
 Qaf (N:=QkB) (ps:=Qeq) (k:=20+n) (g:=Qbw r) Fn sc_L_walk (fun cdv A outer s H E F0 hr=>let hu:=QV hr;(Qf (QK (vt_w (QaY (QaL (QaK (Qe7 m_isinstance (Qa bJ fL)))) (QaY (Qk bA bJ (QX Qe)) (Qa0 (QaL (QaK (Qe7 m_isinstance (Qa dC (Qa (v_ty m_str) Qe))))))))) bw Qu)
  (Qf (QK cT (Qi (Qn (Qiz (Qe5 bA bJ (QX (Qa QL ij))) (Qjx (v_fn C_L_none_came aK (Qa br aX)))))) Qu)
  (Qf (QK cT (Qf (QK (vt_w (QaY jZ (Qa0 (Qk lT dC tp)))) bw Qu)
  (Qf (QK (Qk bA dC QL) (Qi (Qn bp)) Qu)
  (Qi (Qn (Qiz (Qe5 Qt3 (Qb8 D_holds aK (v_fn C_L_object aK ij) eC) v_bl) (Qjx bp)))))) Qu)
  (Qf (QK cT (Qf (QK (vt_w (QaY jZ (Qa0 qh))) bw Qu)
  (Qf (Qm 4 sc_L_walk.nd bp)
  (Qi (Qn (Qiz cu (Qjx bp)))))) Qu)
  (Qf (QK jZ bw Qu)
  (Qf (QK cT (Qf (Qm 5 sc_L_walk.nd (QX uS))
  (Qf (QK (vt_w (QaY qh (Qa0 (QaL (QaK (v_fn C_L_looks aK (Qa bO (Qa ee (Qa dC (Qa cx Qe)))))))))) bw Qu)
  (Qi (Qn (v_fn C_r aK (Qa ak (Qa bO (Qa dC (Qa dC Qe))))))))) Qu)
  (Qf (QK (vt_w (QaY qh (Qa0 (QaL (QaK (Qe7 m_isinstance (Qa dC (Qa (v_ty m_list) Qe)))))))) bw Qu)
  (Qf (QaM .never rfl (QZ dC) (Qr 6 sc_L_walk.nd)
  (Qf (QK (vt_w (QaY (QaL (QaK (Qe7 m_isinstance (Qa dk fL)))) (Qa0 (Qk eA tj Qd)))) bw Qu)
  (Qf (QK (vt_w (QaY (QaL (QaK (v_fn C_L_whole aK (Qa iB Qe)))) (Qa0 (Qk lT iB ak)))) bw Qu)
  (Qf (Qm 5 sc_L_walk.nd (QX (Qa iB ij)))
  (Qf (QK (QaL (QaK (v_fn C_L_looks aK (Qa bO (Qa ee (Qa iB (Qa cx Qe))))))) bw Qu)
  (Qi (Qm 2 sc_L_walk.nd iB)))))))
  (Qi (Qn bp)))))))))))
theorem sc_law:FnScope Qqd Qmu (Qg QnR):=ae
theorem Qsz {f:Addr}{fd:FuncData}(Fn:Fun K "law" "law" QnR f fd)(m_bool:mg "bool"=none)(m_isinstance:mg "isinstance"=none)(m_list:mg "list"=none)(m_range:mg "range"=none)(C_L_net:Callee P w K mg base 2 "_law_net" 1 Qef)(C_L_object:Callee P w K mg base 14 "_law_object" 1 jM)(C_L_parts_hold:Callee P w K mg base 21 "_law_parts_hold" 3 QF)(C_L_tale:Callee P w K mg base 3 "_law_tale" 2 Qdg)(C_L_tree:Callee P w K mg base 13 "_law_tree" 5 (Q0 12))(C_L_walk:Callee P w K mg base 32 "_law_walk" 4 (Qab 12))(CZ:CalleeS P w K mg base 13 "_law_emptied" (spZ K 12))(D_doubt:Qaq P w K mg base 19 "doubt" 3 kQ)(D_holds:Qaq P w K mg base 20 "holds" 3 Qz)(IS_Sentence:∃S,mg "Sentence"=some pQ/\IsOk K S [("Sentence",true),("Came",true),("Both",true),("Either",true),("Knows",true),("Shared",true)]):FnOk P w K mg base CX0 33 f fd Qmu (spV0 K Qhi 1):=
 Qaf (N:=Qqd) (ps:=Qmu) (k:=32) (g:=Qqe) Fn sc_law (fun cdv A outer s H E F0 hr=>let hu:=QV hr;(Qf (Qm 1 sc_law.nd (v_fn C_L_net aD (Qa br Qe)))
  (QJ 1 (Qf (Qm 2 sc_law.nd (v_fn C_L_tale aD (Qa br mR)))
  (QJ 2 (QJ 1 (Qf (Qm 3 sc_law.nd (v_fn C_L_tree aD (Qa br (Qa bO (Qa ee (Qa Qd mS))))))
  (QJ 3 (Qf (Qm 4 sc_law.nd qx)
  (Qf (Qm 5 sc_law.nd (QX (Qa (QX (Qa az (Qa (QiA m_list pL) Qe))) (Qa (QX (Qa bN (Qa sn (Qa sn Qe)))) Qe))))
  (Qf (Qm 6 sc_law.nd rO)
  (QJ 1 (QJ 2 (QJ 3 (QJ 4 (QJ 5 (QJ 6 (Qqa (QM (QhP 7 sc_law.nd (Qkw (n:=3) (tab:=kQ) (g:=t_g) (fs:=t_s) D_doubt aD (fun F0 H0=>cu) (fun F0 H0=>dI)))
  (QM (QnQ (fun F0 H0=>(vt_w (QaY (QaL (QaK (Qe7 m_isinstance (Qa dk uf)))) (QaY (Qk eA dk (Qe5 Qeu cM Qao)) (Qa0 (Qk eA cx (QX eC))))))))
  (QM (QnQ (fun F0 H0=>(vt_w (Qd7 (Qk Qeu cM Qao) (Qcg (QaL (QaK (v_fn C_L_parts_hold aD (Qa bJ eC)))))))))
  (QM (QhP 8 sc_law.nd (Qku (fun F0 H0=>(QX (Qa az (Qa (QiD (osc:=Qg QnR) (N:=Qqd) ["_law_path"] ([none]:List aC) [0] rfl rfl aq rfl i6 (QbA 0) (fun _ _ _ _=>⟨(Qr 0 (show(["_law_path"]:List Str).Nodup by decide+kernel)),QiC,(QX (Qa ak (Qa ak tt)))⟩)) Qe))))))
  (QM (Qlx .never rfl (Qsw (fun F0 H0=>(Qci m_range mS))) (Qsy 9 sc_law.nd) (QM (QnQ (fun F0 H0=>(Qk eA (Qb8 D_holds aD cu (Qa iR aX)) (Qb8 D_holds aD qx (Qa iR aX))))) (Qby (Qjq (Qg9 (fun F0 H0=>oI)) (QM (QnQ (fun F0 H0=>(QaL (QaK (v_fn C_L_walk aD (Qa bJ (Qa bO (Qa ee uR)))))))) (QM (QeD CZ aD (Qvb 7)) (Qby (QhP 7 sc_law.nd (Qkw (n:=3) (tab:=kQ) (g:=t_g) (fs:=t_s) D_doubt aD (fun F0 H0=>cu) (fun F0 H0=>dI)))))) pss_nil))))
  (QM (QhP 10 sc_law.nd (Qku (fun F0 H0=>rO)))
  (Qby (Qj3 (Qku (fun F0 H0=>(Qiz (Qt5 m_isinstance IS_Sentence cu) (Qiz (Qe5 bA jN dk) (Qjx (Qe5 bA dk (Qe5 Qeu cM Qao)))))))))))))))))))))))))))))))))
end
def Qa7 (ns:List Int)(i:Nat):Int:=(ns[i]?).getD 0
theorem Qh5 {ns:List Int}{i:Nat}:Qo [.scr aI, .int i]= .ok .fz (.int (Qa7 ns i)):=by
 unfold Qa7
 cases q:ns[i]? with
 |some x=>
  have hi:i<ns.length:=(List.getElem?_eq_some_iff.mp q).1
  have:=Qc2 (xs:=ns.map D.int) (i:=i) (d:= .int x) (by simp[q])
  simp[Qo,QhJ,ev0,Qcl,hi,this]
 |none=>
  have hi:¬((i:Int)<ns.length):=by have:=List.getElem?_eq_none_iff.mp q;omega
  simp[Qo,QhJ,ev0,Qcl,hi]
theorem QnU {ns:List Int}:Qo [.scr aI, .int 0]= .ok .fz (.int pH):=Qh5 (i:=0)
theorem QnV {ns:List Int}:Qo [.scr aI, .int 1]= .ok .fz (.int pG):=Qh5 (i:=1)
theorem Qh6 {ns:List Int}:Qo [.scr aI, .int 2]= .ok .fz (.int pz):=Qh5 (i:=2)
theorem Qh7 {ns:List Int}{j:Int}{i:Nat}(h:j=i):Qo [.scr aI, .int j]= .ok .fz (.int (Qa7 ns i)):=by rw[h];exact Qh5
def mixF (c k:Int):Int:=match QW [.int c, .int k]with
 | .ok _ (.int x)=>x
 |_=>0
theorem Qoy (c k:Int)(h0:0<=k)(h1:k<2^20):∃x,QW [.int c, .int k]= .ok .fz dq/\0<=x/\x<2^31:=by
 by_cases hc:1000000000000<=c
 .have hm: -(2^62)<=k %61/\k %61<2^62:=by omega
  have key:∃x y,forE rS QeE (QcA 0 (k %61).toNat) [some (.fz, .int (c/1000000000000-1)),some (.fz, .int k),none,none]= .nx [some (.fz, .int x),some (.fz, .int k),y,none]:=by
   refine QhM (fun r=>∃x y,r= .nx [some (.fz, .int x),some (.fz, .int k),y,none]) (fun _ ev=>∃x y,ev= [some (.fz, .int x),some (.fz, .int k),y,none]) ?_ ?_ ⟨_,_,rfl⟩
   .rintro d ds _ ⟨x,y,rfl⟩
    refine⟨_,rfl,?_⟩
    simp[QeE]
   .rintro _ ⟨x,y,rfl⟩
    exact⟨x,y,rfl⟩
  obtain⟨x,y,e⟩:=key
  refine⟨x %2147483648,?_,by omega,by omega⟩
  simp(disch:=first|omega|rfl) [QW,QhJ,ev0,QhR,hc,e]
 .have k2:k*k<2^40:=by
   have:=Int.mul_le_mul (show k<=2^20-1 by omega) (show k<=2^20-1 by omega) h0 ah
   omega
  have k0:0<=k*k:=Int.mul_nonneg h0 h0
  have e1:mulD (.int k) (.int k)=some (.fz, .int (k*k)):=QeC aa
  have e2:mulD (.int (k*k)) (.int 7919)=some (.fz, .int (k*k*7919)):=QeC aa
  have e3:mulD (.int (c %1000003+k*k*7919+k)) (.int 48271)=some (.fz, .int ((c %1000003+k*k*7919+k)*48271)):=QeC aa
  generalize hn:(c %1000003+k*k*7919+k)*48271 %2147483629=n
  have n0:0<=n/\n<2147483629:=by omega
  have e4:mulD jE jE=some (.fz, .int (n*n)):=QeC aa
  generalize hp:n*n %2147483587=p
  have p0:0<=p/\p<2147483587:=by omega
  have e5:mulD (.int p) (.int (p+2))=some (.fz, .int (p*(p+2))):=QeC aa
  refine⟨p*(p+2) %2147483579/7,?_,by omega,by omega⟩
  simp[QW,QhJ,ev0,QhR,Qhb,hc,e1,e2,e3,hn,e4,hp,e5]
theorem Qhj (c k:Int)(h0:0<=k)(h1:k<2^20):QW [.int c, .int k]= .ok .fz (.int (mixF c k)):=by
 obtain⟨x,e,_⟩:=Qoy c k h0 h1
 unfold mixF;rw[e]
theorem QkC (c k:Int)(h0:0<=k)(h1:k<2^20):0<=mixF c k/\mixF c k<2^31:=by
 obtain⟨x,e,h⟩:=Qoy c k h0 h1
 unfold mixF;rw[e];exact h
abbrev Path:=Nat×Nat×Option Int
def optD:Option Int->D
 |none=> .non
 |some m=> .int m
def Qan (p:Path):D:= .tup [.int p.1, .int p.2.1,optD p.2.2]
def ends (p:Path):Nat×Nat:=(p.1,p.2.1)
structure NetOk (n:Nat)(ps:List Path):Prop where
 n1:1<=n
 n8:n<=8
 s:∀p∈ps,p.1<n
 g:∀p∈ps,p.2.1<n
 ne:∀p∈ps,p.1≠p.2.1
 m:∀p∈ps,∀m,p.2.2=some m->1<=m/\m<=10^60
 nd:(ps.map ends).Nodup
theorem Qax (a:Int){n:Nat}(h:0<n):∃s:Nat,a %(n:Int)=s/\s<n:=by
 have h1:=Int.emod_nonneg a (b:=n) aa
 have h2:=Int.emod_lt_of_pos a (b:=n) aa
 exact⟨(a %n).toNat,by omega,by omega⟩
theorem NetOk.add {n:Nat}{ps:List Path}(h:NetOk n ps){s g:Nat}{o:Option Int}(hs:s<n)(hg:g<n)(hne:s≠g)(hm:∀m,o=some m->1<=m/\m<=10^60)(hn:(s,g)∉ps.map ends):NetOk n (ps++ [(s,g,o)]):=by
 have spl:∀{P:Path->Prop},(∀p∈ps,P p)->P (s,g,o)->∀p∈ps++ [(s,g,o)],P p:=fun h1 h2 p hp=>by
  rcases List.mem_append.1 hp with hp|hp
  .exact h1 p hp
  .simp at hp;subst hp;exact h2
 refine⟨h.n1,h.n8,spl h.s hs,spl h.g hg,spl h.ne hne,spl h.m hm,?_⟩
 rw[List.map_append,List.nodup_append]
 refine⟨h.nd,by simp,fun x hx y hy=>?_⟩
 simp[ends]at hy
 subst hy
 rintro rfl
 exact hn hx
theorem NetOk.reverse {n:Nat}{ps:List Path}(h:NetOk n ps):NetOk n ps.reverse:=
 ⟨h.n1,h.n8,fun p hp=>h.s p (by simpa using hp),fun p hp=>h.g p (by simpa using hp),fun p hp=>h.ne p (by simpa using hp),fun p hp=>h.m p (by simpa using hp),by rw[List.map_reverse];exact(List.reverse_perm _).nodup_iff.2 h.nd⟩
def netD (n:Nat)(ps:List Path):D:= .tup [.int n, .lst eN]
@[simp] theorem Qv3:optD none= .non:=(rfl)
@[simp] theorem Qv4 {m:Int}:optD (some m)= .int m:=(rfl)
theorem Qvc (i a b:Int)(h0:0<=i)(h1:i<5)(ha:1<=a/\a<=10^60)(hb:1<=b/\b<=10^60):∃o:Option Int,(∀m,o=some m->1<=m/\m<=10^60)/\atI [.non, .int 1, .int 2, .int a, .int b] i=some (optD o):=by
 have:i=0\/i=1\/i=2\/i=3\/i=4:=by omega
 rcases this with rfl|rfl|rfl|rfl|rfl
 .exact⟨none,by simp,by simp[optD]⟩
 .exact⟨some 1,by rintro m ⟨⟩;decide,by simp[optD]⟩
 .exact⟨some 2,by rintro m ⟨⟩;decide,by simp[optD]⟩
 .exact⟨some a,by rintro m ⟨⟩;exact ha,by simp[optD]⟩
 .exact⟨some b,by rintro m ⟨⟩;exact hb,by rw[show(4:Int)=((4:Nat):Int)from rfl];exact Qc2 rfl⟩
abbrev evN (S:List D)(num:Int)(n:Nat)(ps:List Path)(l:Ev):Ev:=some (.fz, .scr S)::some (.fz, .int num)::some (.fz, .int n)::some (.ow, .lst eN)::l
def QmC (s g:Nat)(ps:List Path):Prop:=∀p∈ps,p.1<s\/(p.1=s/\p.2.1<g)
def QnW (ns:List Int)(num:Int)(n s:Nat)(xs:List Nat)(ev:Ev):Prop:=∃ps x5 x6 x7 x8,ev=evN aI num n ps [some (.fz, .int s),x5,x6,x7,x8]/\NetOk n ps/\∃g,xs=List.range' g (n-g)/\g<=n/\QmC s g ps/\ps.length<=s*n+g
def Qvd (ns:List Int)(num:Int)(n:Nat)(xs:List Nat)(ev:Ev):Prop:=∃ps x4 x5 x6 x7 x8,ev=evN aI num n ps [x4,x5,x6,x7,x8]/\NetOk n ps/\∃s,xs=List.range' s (n-s)/\s<=n/\QmC s 0 ps/\ps.length<=s*n
theorem QgC (n:Nat):List.range n=List.range' 0 (n-0):=by rw[List.range_eq_range'];rfl
theorem Qd5 {s n x:Nat}{xs:List Nat}(h:x::xs=List.range' s (n-s)):x=s/\s<n/\xs=List.range' (s+1) (n-(s+1)):=by
 by_cases hs:s<n
 .rw[show n-s=(n-(s+1))+1 by omega,List.range'_succ]at h
  cases h
  exact⟨rfl,hs,rfl⟩
 .rw[show n-s=0 by omega]at h;simp at h
theorem QsA {ns:List Int}{num dr:Int}{n s g:Nat}{xs:List Nat}{ps:List Path}{x7 x8:Option bm}{h:Ev->Fl}{Q:Fl->Prop}(ok:NetOk n ps)(hs:s<n)(hg:g<n)(hb:QmC s g ps)(hl:ps.length<=s*n+g)(hx:xs=List.range' (g+1) (n-(g+1)))(hne:s≠g)(hd:0<=dr/\dr<2^31)(h6:dr %6≠0):
  Wp (QeF (evN aI num n ps [some (.fz, .int s),some (.fz, .int g),some (.fz, .int dr),x7,x8])) oR:=by
 obtain⟨o,ho,eo⟩:=Qvc (dr %6-1) (1+dr/6 %6) (10^50+dr) aa aa aa aa
 simp at eo
 have n8:=ok.n8
 have hsn:s*n<=7*8:=Nat.mul_le_mul aa n8
 have hL:ps.length<LIM:=by simp[LIM];omega
 simp(disch:=first|omega|rfl) [QeF,eo,hL]
 have h1:List.map Qan ps++ [D.tup [.int s, .int g,optD o]]=(ps++ [(s,g,o)]).map Qan:=by simp[Qan]
 rw[h1]
 refine⟨ps++ [(s,g,o)],_,_,_,_,rfl,ok.add hs hg hne ho (fun z=>?_),g+1,hx,by omega,fun p hp=>?_,by simp;omega⟩
 .obtain⟨p,hp,e⟩:=List.mem_map.1 z
  simp[ends]at e
  have:=hb p hp
  omega
 .rcases List.mem_append.1 hp with hp|hp
  .have:=hb p hp;omega
  .simp at hp;subst hp;simp
theorem QsB {ns:List Int}{num:Int}{n s g:Nat}{xs:List Nat}{ps:List Path}{x6 x7 x8:Option bm}{h:Ev->Fl}{Q:Fl->Prop}(ok:NetOk n ps)(hs:s<n)(hg:g<n)(hb:QmC s g ps)(hl:ps.length<=s*n+g)(hx:xs=List.range' (g+1) (n-(g+1))):
  Wp (QeG jo) oR:=by
 have hc:=QnV (ns:=ns)
 have n8:=ok.n8
 have hm:=Qhj pG (10*s+g) aa aa
 have hd:=QkC pG (10*s+g) aa aa
 generalize mixF pG (10 * s+g)=dr at *
 have skip:∀x6 x7 x8,QnW ns num n s xs jo:=fun x6 x7 x8=>⟨ps,_,_,_,_,rfl,ok,g+1,hx,by omega,fun p hp=>by have:=hb p hp;omega,by omega⟩
 simp(disch:=first|omega|rfl) [QeG,hc,hm]
 by_cases hne:s=g
 .subst hne
  refine QjI ?_ ?_<;>intro hq<;>simp(disch:=first|omega|rfl) []
  .exact skip _ _ _
  .simp at hq
 .have hne':¬((s:Int)=g):=by omega
  refine QjI ?_ ?_<;>intro hq<;>simp(disch:=first|omega|rfl) []
  .exact skip _ _ _
  .simp at hq
   exact QsA ok hs hg hb hl hx hne hd aa
theorem QsC (ns:List Int):∃n ps,NetOk n ps/\ps.length<=64/\n<=4/\Qef [.scr aI]= .ok .fz er:=by
 have hc:=QnU (ns:=ns)
 have hm:=Qhj pH 1 ah ah
 have hnn:=QkC pH 1 ah ah
 refine Qt (motive:=fun x=>∃n ps,NetOk n ps/\ps.length<=64/\n<=4/\x= .ok .fz er) (Qef [.scr aI]) rfl ?_
 generalize mixF pH 1=num at *
 generalize Qa7 ns 0=c0 at *
 obtain⟨a,ea,ha⟩:=Qax c0 (n:=4) ah
 obtain⟨n,hn⟩:∃n:Nat,n=1+a:=⟨_,rfl⟩
 have ea:(1:Int)+c0 %4=(n:Int):=by rw[show c0 %4=(a:Int)from ea];omega
 have n1:1<=n:=by omega
 have n8:n<=8:=by omega
 have n4:n<=4:=by omega
 simp(disch:=first|omega|rfl) [ev0,QjM,hc,hm,ea]
 rw[Qcb,QgC]
 refine QaN (Qvd ns num n) ?_ ?_ ⟨[],none,none,none,none,none,rfl,⟨n1,n8,by simp,by simp,by simp,by simp,by simp⟩,0,rfl,by omega,by simp[QmC],by simp⟩
 .rintro s xs _ _ ⟨ps,x4,x5,x6,x7,x8,rfl,ok,s',hxs,hs',hb,hl⟩
  obtain⟨rfl,hs,hx'⟩:=Qd5 hxs
  refine⟨_,rfl,?_⟩
  simp(disch:=first|omega|rfl) [Qhc]
  rw[Qcb,QgC]
  refine Qfp (QnW ns num n s) ?_ ?_ ⟨ps,_,_,_,_,rfl,ok,0,rfl,by omega,hb,by omega⟩
  .rintro g ys _ _ ⟨ps,x5,x6,x7,x8,rfl,ok,g',hys,hg',hb,hl⟩
   obtain⟨rfl,hg,hy'⟩:=Qd5 hys
   refine⟨_,rfl,?_⟩
   simp only[Int.zero_add]
   exact QsB (x6:=x6) (x7:=x7) (x8:=x8) ok hs hg hb hl hy'
  .rintro _ ⟨ps,x5,x6,x7,x8,rfl,ok,g',hys,hg',hb,hl⟩
   have:g'=n:=by
    have:=congrArg List.length hys
    simp at this;omega
   subst this
   refine⟨ps,_,_,_,_,_,rfl,ok,s+1,hx',by omega,fun p hp=>?_,by rw[Nat.succ_mul];omega⟩
   have h1:=hb p hp
   have h2:=ok.g p hp
   omega
 .rintro _ ⟨ps,x4,x5,x6,x7,x8,rfl,ok,s',hxs,hs',hb,hl⟩
  have hlen:ps.length<=64:=Nat.le_trans hl (by have:=Nat.mul_le_mul (show s'<=8 by omega) n8;omega)
  simp(disch:=first|omega|rfl) [Qhe]
  refine QjI ?_ ?_<;>intro hq<;>simp(disch:=first|omega|rfl) [Qhd]
  .refine⟨n,ps.reverse,ok.reverse,by simpa using hlen,n4,?_⟩
   simp[netD]
  .exact⟨n,ps,ok,hlen,n4,rfl⟩
abbrev Run:=Nat×Nat×Nat×Nat
abbrev Sign:=Nat×Nat×Str
def runD (r:Run):D:= .tup [.int r.1, .int r.2.1, .int r.2.2.1, .int r.2.2.2]
def Qx (x:Sign):D:= .tup [.int x.1, .int x.2.1, .str x.2.2]
def Qp (last:Nat)(rs:List Run)(ss:List Sign):D:= .tup [.int last, .lst b6, .lst cn]
def rkey (r:Run):Nat×Nat×Nat:=(r.1,r.2.1,r.2.2.1)
def nmOk (x:Str):Bool:=PyData.strOk x&&decide (x.length<=12)&&decide (x≠Str.ofString "more")
structure SignsOk (n last:Nat)(ss:List Sign):Prop where
 h:∀x∈ss,x.1<n
 t:∀x∈ss,x.2.1<=last
 nm:∀x∈ss,nmOk x.2.2=true
 nd:ss.Nodup
structure RunsOk (ps:List Path)(last:Nat)(rs:List Run):Prop where
 path:∀r∈rs,∃o,(r.1,r.2.1,o)∈ps/\∀m,o=some m->(r.2.2.2:Int)<=r.2.2.1+m
 turn:∀r∈rs,r.2.2.1<r.2.2.2/\r.2.2.2<=last
 nd:(rs.map rkey).Nodup
structure GoodT (n:Nat)(ps:List Path)(last:Nat)(rs:List Run)(ss:List Sign):Prop where
 runs:RunsOk ps last rs
 due:∀s g m (l:Nat),(s,g,some m)∈ps->(l:Int)+m<=last->∃c,(s,g,l,c)∈rs
 signs:SignsOk n last ss
theorem QnX {n last:Nat}{ss:List Sign}(h:SignsOk n last ss):plL 59 cn=true:=Qaz.2 fun d hd=>by
 obtain⟨x,hx,rfl⟩:=List.mem_map.1 hd
 have:=h.nm x hx
 simp[nmOk]at this
 simp[Qx,pl,plL,this.1.1]
theorem Qi8 {x y:Sign}:Qx x=Qx y↔x=y:=by
 obtain⟨a,b,c⟩:=x
 obtain⟨a',b',c'⟩:=y
 simp[Qx]
 constructor
 .rintro⟨h1,h2,h3⟩;exact⟨by omega,by omega,h3⟩
 .rintro⟨h1,h2,h3⟩;exact⟨by omega,by omega,h3⟩
theorem QmD {x:Sign}{ss:List Sign}:Qx x∈ss.map Qx↔x∈ss:=by
 simp only[List.mem_map,Qi8]
 exact⟨fun⟨a,h,e⟩=>e▸h,fun h=>⟨x,h,rfl⟩⟩
def cA:Str:=Str.ofString "a"
def cB:Str:=Str.ofString "b"
def cC:Str:=Str.ofString "c"
theorem QnY:∀a:Fin 12,(Txt.mul cA (a:Nat)).length<=12/\(Txt.mul cA (11-(a:Nat):Int)).length<=12/\(Txt.mul cA (a:Nat)++cB).length<=13/\(Txt.mul cA (a:Nat)++cC).length<=13/\
  nmOk (Txt.mul cA (a:Nat)++cB++Txt.mul cA (11-(a:Nat):Int))=true/\nmOk (Txt.mul cA (a:Nat)++cC++Txt.mul cA (11-(a:Nat):Int))=true:=by decide+kernel
theorem Qve (i:Int)(a b c d:Str)(h0:0<=i)(h1:i<4)(ha:nmOk a=true)(hb:nmOk b=true)(hc:nmOk c=true)(hd:nmOk d=true):∃x:Str,nmOk x=true/\atI [D.str a,D.str b,D.str c,D.str d] i=some (D.str x):=by
 have:i=0\/i=1\/i=2\/i=3:=by omega
 rcases this with rfl|rfl|rfl|rfl
 .exact⟨a,ha,by simp⟩
 .exact⟨b,hb,by simp⟩
 .exact⟨c,hc,by simp⟩
 .exact⟨d,hd,by simp⟩
def InvS (ns:List Int)(n last:Nat)(net:D)(a b c d:Str)(xs:List Nat)(ev:Ev):Prop:=∃ss x4 x6 x7 x8,ev= [some (.fz, .scr aI),some (.fz,net),some (.fz, .int last),some (.ow, .lst cn),x4,some (.ow, .lst [.str a, .str b, .str c, .str d]),x6,x7,x8]/\SignsOk n last ss/\ss.length+xs.length<=4
theorem QkD {ns:List Int}{n last:Nat}{ps:List Path}{a b c d:Str}{x4:Option bm}(hn:0<n)(hl:last<1000)(ha:nmOk a=true)(hb:nmOk b=true)(hc:nmOk c=true)(hd:nmOk d=true):
  Wp (Qdf [some (.fz, .scr aI),some (.fz,netD n ps),some (.fz, .int last),some (.ow, .lst []),x4,some (.ow, .lst [.str a, .str b, .str c, .str d]),none,none,none]) (runQ fun x=>∃ss,SignsOk n last ss/\ss.length<=4/\x= .ok .ow (.lst cn)):=by
 have hc2:=Qh6 (ns:=ns)
 have hm:=Qhj pz 2 ah ah
 have e0:idxD er cQ=some (.fz, .int n):=by simp[netD]
 simp(disch:=first|omega|rfl) [Qdf,hc2,hm]
 rw[Qcb]
 refine QaN (InvS ns n last er a b c d) ?_ ?_ ⟨[],_,_,_,_,rfl,⟨by simp,by simp,by simp,by simp⟩,by simp;omega⟩
 .rintro k xs _ ⟨p2,hp2⟩ ⟨ss,x4,x6,x7,x8,rfl,so,hlen⟩
  have hk:k<5:=by
   have:k∈List.range (mixF pz 2 %5).toNat:=by rw[hp2];simp
   simp at this;omega
  simp only[List.length_cons]at hlen
  refine⟨_,rfl,?_⟩
  simp only[Int.zero_add]
  have hck:=Qh7 (ns:=ns) (j:=3+k) (i:=3+k) al
  have hmk:=Qhj rR (500+k) aa aa
  have hnk:=QkC rR (500+k) aa aa
  generalize mixF rR (500+k)=nu at *
  obtain⟨h,eh,hh⟩:=Qax nu hn
  obtain⟨t,et,ht⟩:=Qax (nu/5) (n:=last+1) aa
  have et:nu/5 %((last:Int)+1)=t:=by rw[←et];simp
  obtain⟨x,hx,ex⟩:=Qve (nu/300 %4) a b c d aa aa ha hb hc hd
  have hx2:PyData.strOk x=true:=by simp[nmOk]at hx;exact hx.1.1
  have hin:QaF (.tup [.int h, .int t, .str x]) (.lst cn)=some (.fz, .bl (decide (Qx (h,t,x)∉ss.map Qx))):=Qc1 rfl (by simp[pl,plL,hx2]) (QfP (QnX so))
  have hL:ss.length<LIM:=by simp[LIM];omega
  simp(disch:=first|omega|rfl) [Qe0,hck,hmk,e0,eh,et,ex,hin]
  refine QeZ ?_ ?_<;>intro hq<;>simp(disch:=first|omega|rfl) [hL]
  .have hq:(h,t,x)∉ss:=by simpa[QmD]using hq
   have h1:ss.map Qx++ [D.tup [.int h, .int t, .str x]]=(ss++ [(h,t,x)]).map Qx:=by simp[Qx]
   rw[h1]
   refine⟨ss++ [(h,t,x)],_,_,_,_,rfl,⟨fun y hy=>?_,fun y hy=>?_,fun y hy=>?_,?_⟩,by simp;omega⟩
   .rcases List.mem_append.1 hy with hy|hy
    .exact so.h y hy
    .simp at hy;subst hy;exact hh
   .rcases List.mem_append.1 hy with hy|hy
    .exact so.t y hy
    .simp at hy;subst hy;show t<=last;omega
   .rcases List.mem_append.1 hy with hy|hy
    .exact so.nm y hy
    .simp at hy;subst hy;exact hx
   .rw[List.nodup_append]
    exact⟨so.nd,by simp,fun y hy z hz=>by simp at hz;subst hz;rintro rfl;exact hq hy⟩
  .exact⟨ss,_,_,_,_,rfl,so,by omega⟩
 .rintro _ ⟨ss,x4,x6,x7,x8,rfl,so,hlen⟩
  simp(disch:=first|omega|rfl) []
  exact⟨ss,so,by simpa using hlen,rfl⟩
theorem QnZ (ns:List Int){n last:Nat}{ps:List Path}(hn:0<n)(hl:last<1000):∃ss,SignsOk n last ss/\ss.length<=4/\Qcd [.scr aI,netD n ps, .int last]= .ok .ow (.lst cn):=by
 refine Qt (Qcd [.scr aI,netD n ps, .int last]) rfl ?_
 have hc2:=Qh6 (ns:=ns)
 obtain⟨a,ea,ha⟩:=Qax (Qa7 ns 2/25) (n:=12) ah
 have ea:Qa7 ns 2/25 %12=(a:Int):=ea
 obtain⟨f1,f2,f3,f4,f5,f6⟩:=QnY ⟨a,ha⟩
 dsimp only at f1 f2 f3 f4 f5 f6
 have lA:cA.length=1:=by decide+kernel
 have lB:cB.length=1:=by decide+kernel
 have lC:cC.length=1:=by decide+kernel
 have sA:Str.ofString "a"=cA:=rfl
 have sB:Str.ofString "b"=cB:=rfl
 have sC:Str.ofString "c"=cC:=rfl
 simp(disch:=first|omega|rfl) [ev0,Qf0,hc2,ea,sA,sB,sC]
 refine QjI ?_ ?_<;>intro hq
 .have m1:mulD (.str cA) (.int a)=some (.fz, .str (Txt.mul cA a)):=QhK aa
  have m2:mulD (.str cA) (.int (11-a))=some (.fz, .str (Txt.mul cA (11-a))):=QhK aa
  have m3:mulD (.str cA) (.int 11)=some (.fz, .str (Txt.mul cA 11)):=QhK aa
  simp(disch:=first|omega|rfl) [m1,m2,m3,sA,sB,sC,hc2]
  exact QkD hn hl ao f5 f6 ao
 .simp(disch:=first|omega|rfl) []
  exact QkD hn hl ao ao ao ao
def Qqf (ps1:List Path)(p:Path)(l:Nat)(rs:List Run):Prop:=∀r∈rs,(r.1,r.2.1)∈ps1.map ends\/((r.1,r.2.1)=ends p/\r.2.2.1<l)
abbrev evT (S:List D)(net:D)(last:Nat)(rs:List Run)(k:Nat)(l:Ev):Ev:=some (.fz, .scr S)::some (.fz,net)::some (.fz, .int last)::some (.ow, .lst b6)::some (.fz, .int k)::l
def DueB (ps1:List Path)(last:Nat)(rs:List Run):Prop:=∀s g m (l:Nat),(s,g,some m)∈ps1->(l:Int)+m<=last->∃c,(s,g,l,c)∈rs
def Qqg (ns:List Int)(net:D)(ps:List Path)(last:Nat)(ps1:List Path)(p:Path)(xs:List Nat)(ev:Ev):Prop:=∃rs k x8 x9 x10,ev=evT aI net last rs k [some (.fz, .int p.1),some (.fz, .int p.2.1),some (.fz,optD p.2.2),x8,x9,x10]/\RunsOk ps last rs/\DueB ps1 last rs/\
 ∃l,xs=List.range' l (last-l)/\l<=last/\Qqf ps1 p l rs/\k=ps1.length*last+l/\rs.length<=k/\∀m (l':Nat),p.2.2=some m->l'<l->(l':Int)+m<=last->∃c,(p.1,p.2.1,l',c)∈rs
def Qvf (ns:List Int)(net:D)(ps:List Path)(last:Nat)(xs:List Path)(ev:Ev):Prop:=∃rs k ps1 x5 x6 x7 x8 x9 x10,ev=evT aI net last rs k [x5,x6,x7,x8,x9,x10]/\ps=ps1++xs/\RunsOk ps last rs/\DueB ps1 last rs/\(∀r∈rs,(r.1,r.2.1)∈ps1.map ends)/\k=ps1.length*last/\rs.length<=k
theorem QjT {ns:List Int}{net:D}{ps ps1:List Path}{p:Path}{last k l c:Nat}{rs:List Run}{xs:List Nat}{x9:Option bm}{h:Ev->Fl}{Q:Fl->Prop}(hp:p∈ps)(hnot:ends p∉ps1.map ends)(hl:l<last)(hk:k=ps1.length*last+l+1)(hk2:k<=10000)(ro:RunsOk ps last rs)(du:DueB ps1 last rs)(kb:Qqf ps1 p l rs)(hx:xs=List.range' (l+1) (last-(l+1)))(hlen:rs.length<k)
  (hd:∀m (l':Nat),p.2.2=some m->l'<l->(l':Int)+m<=last->∃c,(p.1,p.2.1,l',c)∈rs) (hlc:l<c) (hm:∀m,p.2.2=some m->(c:Int)<=l+m):
  Wp (QdT (evT aI net last rs k [some (.fz, .int p.1),some (.fz, .int p.2.1),some (.fz,optD p.2.2),some (.fz, .int l),x9,some (.fz, .int c)])) l6:=by
 have kb':∀r∈rs,(r.1,r.2.1)∈ps1.map ends\/((r.1,r.2.1)=ends p/\r.2.2.1<l+1):=fun r hr=>by
  rcases kb r hr with z|z
  .exact .inl z
  .exact .inr ⟨z.1,by omega⟩
 have hL:rs.length<LIM:=by simp[LIM];omega
 simp(disch:=first|omega|rfl) [QdT]
 refine QeZ ?_ ?_<;>intro hq<;>simp(disch:=first|omega|rfl) [hL]
 .simp at hq
  have h1:rs.map runD++ [D.tup [.int p.1, .int p.2.1, .int l, .int c]]=(rs++ [(p.1,p.2.1,l,c)]).map runD:=by simp[runD]
  rw[h1]
  refine⟨rs++ [(p.1,p.2.1,l,c)],k,_,_,_,rfl,⟨fun r hr=>?_,fun r hr=>?_,?_⟩,fun s g m l' h1 h2=>?_,l+1,hx,by omega,fun r hr=>?_,by omega,by simp;omega,fun m l' e1 h2 h3=>?_⟩
  .rcases List.mem_append.1 hr with hr|hr
   .exact ro.path r hr
   .simp at hr;subst hr;exact⟨p.2.2,hp,hm⟩
  .rcases List.mem_append.1 hr with hr|hr
   .exact ro.turn r hr
   .simp at hr;subst hr;exact⟨hlc,by show c<=last;omega⟩
  .rw[List.map_append,List.nodup_append]
   refine⟨ro.nd,by simp,fun a ha b hb=>?_⟩
   simp at hb;subst hb
   obtain⟨r,hr,rfl⟩:=List.mem_map.1 ha
   intro e
   simp[rkey]at e
   rcases kb r hr with z|z
   .refine hnot ?_
    have:(r.1,r.2.1)=ends p:=by simp[ends,e.1,e.2.1]
    rw[←this];exact z
   .omega
  .obtain⟨c',hc'⟩:=du s g m l' h1 h2
   exact⟨c',by simp[hc']⟩
  .rcases List.mem_append.1 hr with hr|hr
   .exact kb' r hr
   .simp at hr;subst hr;exact .inr ⟨rfl,by show l<l+1;omega⟩
  .by_cases e:l'=l
   .subst e;exact⟨c,by simp⟩
   .obtain⟨c',hc'⟩:=hd m l' e1 aa h3
    exact⟨c',by simp[hc']⟩
 .simp at hq
  refine⟨rs,k,_,_,_,rfl,ro,du,l+1,hx,by omega,kb',by omega,by omega,fun m l' e1 h2 h3=>?_⟩
  by_cases e:l'=l
  .subst e;have:=hm m e1;omega
  .exact hd m l' e1 aa h3
theorem Qqh {ns:List Int}{net:D}{ps ps1:List Path}{p:Path}{last k l:Nat}{rs:List Run}{xs:List Nat}{x9 x10:Option bm}{h:Ev->Fl}{Q:Fl->Prop}(hp:p∈ps)(hpm:∀m,p.2.2=some m->1<=m)(hnot:ends p∉ps1.map ends)(hl:l<last)(hk:k=ps1.length*last+l)(hk2:k+1<=10000)(ro:RunsOk ps last rs)(du:DueB ps1 last rs)(kb:Qqf ps1 p l rs)(hx:xs=List.range' (l+1) (last-(l+1)))(hlen:rs.length<=k)
  (hd:∀m (l':Nat),p.2.2=some m->l'<l->(l':Int)+m<=last->∃c,(p.1,p.2.1,l',c)∈rs):
  Wp (Qcu (evT aI net last rs k [some (.fz, .int p.1),some (.fz, .int p.2.1),some (.fz,optD p.2.2),some (.fz, .int l),x9,x10])) l6:=by
 have hck:=Qh7 (ns:=ns) (j:=3+((k:Int)+1) %60) (i:=3+(k+1) %60) aa
 have hmk:=Qhj (Qa7 ns (3+(k+1) %60)) ((k:Int)+1) aa aa
 have hnk:=QkC (Qa7 ns (3+(k+1) %60)) ((k:Int)+1) aa aa
 generalize mixF (Qa7 ns (3+(k+1) %60)) ((k:Int)+1)=nu at *
 have ek:(k:Int)+1=((k+1:Nat):Int):=by omega
 cases o:p.2.2 with
 |none=>
  obtain⟨c,ec,hc⟩:=Qax (nu/3) (n:=4) ah
  have ec:(l:Int)+1+nu/3 %4=((l+1+c:Nat):Int):=by rw[show nu/3 %4=(c:Int)from ec];omega
  simp(disch:=first|omega|rfl) [Qcu,hck,hmk,optD]
  refine QjI ?_ ?_<;>intro hq<;>simp(disch:=first|omega|rfl) [QdV,QdU]
  .rw[ek]
   refine⟨rs,k+1,_,_,_,by rw[o];rfl,ro,du,l+1,hx,by omega,fun r hr=>?_,by omega,by omega,by simp[o]⟩
   rcases kb r hr with z|z
   .exact .inl z
   .exact .inr ⟨z.1,by omega⟩
  .rw[ec,ek]
   have:=QjT (ns:=ns) (net:=net) (x9:=some (.fz, .int nu)) (h:=h) (Q:=Q) (k:=k+1) (c:=l+1+c) hp hnot hl aa aa ro du kb hx aa hd aa (by simp[o])
   rw[o]at this
   exact this
 |some m=>
  have m1:=hpm m o
  have hmin:(0:Int)<min m 4:=by omega
  have e1:=Int.emod_nonneg (nu/3) (b:=min m 4) aa
  have e2:=Int.emod_lt_of_pos (nu/3) hmin
  obtain⟨c,ec,hc1,hc2⟩:∃c:Nat,(l:Int)+1+nu/3 %min m 4=c/\l<c/\(c:Int)<=l+m:=by
   refine⟨((l:Int)+1+nu/3 %min m 4).toNat,?_,?_,?_⟩
   .generalize nu/3 %min m 4=z at *;omega
   .generalize nu/3 %min m 4=z at *;omega
   .generalize nu/3 %min m 4=z at *;omega
  obtain⟨c',ec',hc'⟩:∃c':Nat,(l:Int)+m=c'/\l<c':=⟨((l:Int)+m).toNat,by omega,by omega⟩
  simp(disch:=first|omega|rfl) [Qcu,hck,hmk,optD,QdV,QdU]
  refine QjI ?_ ?_<;>intro hq<;>simp(disch:=first|omega|rfl) []
  .rw[ec',ek]
   have:=QjT (ns:=ns) (net:=net) (x9:=some (.fz, .int nu)) (h:=h) (Q:=Q) (k:=k+1) (c:=c') hp hnot hl aa aa ro du kb hx aa hd hc' (by rintro m' e;rw[o]at e;cases e;omega)
   rw[o]at this
   exact this
  .rw[ec,ek]
   have:=QjT (ns:=ns) (net:=net) (x9:=some (.fz, .int nu)) (h:=h) (Q:=Q) (k:=k+1) (c:=c) hp hnot hl aa aa ro du kb hx aa hd hc1 (by rintro m' e;rw[o]at e;cases e;omega)
   rw[o]at this
   exact this
theorem RunsOk.reverse {ps:List Path}{last:Nat}{rs:List Run}(h:RunsOk ps last rs):RunsOk ps last rs.reverse:=
 ⟨fun r hr=>h.path r (by simpa using hr),fun r hr=>h.turn r (by simpa using hr),by rw[List.map_reverse];exact(List.reverse_perm _).nodup_iff.2 h.nd⟩
theorem Qqi (ns:List Int){n:Nat}{ps:List Path}(ok:NetOk n ps)(hps:ps.length<=64):∃last rs ss,GoodT n ps last rs ss/\last<=24/\rs.length<=1600/\ss.length<=4/\Qdg [.scr aI,netD n ps]= .ok .fz cI:=by
 have hc2:=Qh6 (ns:=ns)
 refine Qt (motive:=fun x=>∃last rs ss,GoodT n ps last rs ss/\last<=24/\rs.length<=1600/\ss.length<=4/\x= .ok .fz cI) (Qdg [.scr aI,netD n ps]) rfl ?_
 have e1:idxD er cU=some (.fz, .lst eN):=by simp[netD]
 obtain⟨last,el,hl8⟩:=Qax pz (n:=9) ah
 have el:Qa7 ns 2 %9=(last:Int):=el
 have hlast:last<=24:=by omega
 simp(disch:=first|omega|rfl) [ev0,QhW,hc2,el,e1]
 refine QaN (Qvf ns er ps last) ?_ ?_ ⟨[],0,[],_,_,_,_,_,_,rfl,rfl,⟨by simp,by simp,by simp⟩,by simp[DueB],by simp,by simp,by simp⟩
 .rintro⟨s,g,o⟩ xs _ _ ⟨rs,k,ps1,x5,x6,x7,x8,x9,x10,rfl,hp,ro,du,kb,hk,hlen⟩
  have hmem:(s,g,o)∈ps:=by rw[hp];simp
  have hnot:ends (s,g,o)∉ps1.map ends:=by
   have:=ok.nd
   rw[hp,List.map_append,List.nodup_append]at this
   intro z
   exact this.2.2 _ z _ al rfl
  have hb:ps1.length<64:=by have:=congrArg List.length hp;simp at this;omega
  have hkb:ps1.length*last<=63*24:=Nat.mul_le_mul aa hlast
  refine⟨_,rfl,?_⟩
  simp(disch:=first|omega|rfl) [Qf2]
  rw[Qcb,QgC]
  refine Qfp (Qqg ns er ps last ps1 (s,g,o)) ?_ ?_ ⟨rs,k,_,_,_,rfl,ro,du,0,rfl,by omega,fun r hr=> .inl (kb r hr),by omega,hlen,by intro m l' _ h;omega⟩
  .rintro l ys _ _ ⟨rs,k,y8,y9,y10,rfl,ro,du,l',hys,hl',kb,hk,hlen,hd⟩
   obtain⟨rfl,hl,hy'⟩:=Qd5 hys
   refine⟨_,rfl,?_⟩
   simp only[Int.zero_add]
   exact Qqh (x9:=y9) (x10:=y10) hmem (fun m e=>(ok.m _ hmem m e).1) hnot hl hk aa ro du kb hy' hlen hd
  .rintro _ ⟨rs,k,y8,y9,y10,rfl,ro,du,l',hys,hl',kb,hk,hlen,hd⟩
   have:l'=last:=by
    have:=congrArg List.length hys
    simp at this;omega
   subst this
   refine⟨rs,k,ps1++ [(s,g,o)],_,_,_,_,_,_,rfl,by rw[hp];simp,ro,fun s' g' m l h1 h2=>?_,fun r hr=>?_,by simp[Nat.succ_mul];omega,hlen⟩
   .rcases List.mem_append.1 h1 with h1|h1
    .exact du s' g' m l h1 h2
    .simp at h1
     obtain⟨rfl,rfl,rfl⟩:=h1
     have:=(ok.m _ hmem m rfl).1
     exact hd m l rfl aa h2
   .rcases kb r hr with z|z
    .simp at z⊢;exact .inl z
    .simp[z.1]
 .rintro _ ⟨rs,k,ps1,x5,x6,x7,x8,x9,x10,rfl,hp,ro,du,kb,hk,hlen⟩
  simp at hp
  subst hp
  have hkb:ps.length*last<=64*24:=Nat.mul_le_mul hps hlast
  obtain⟨ss,so,hss,hs⟩:=QnZ ns (n:=n) (last:=last) (ps:=ps) (by have:=ok.n1;omega) aa
  simp(disch:=first|omega|rfl) [Qf4]
  refine QjI ?_ ?_<;>intro hq<;>simp(disch:=first|omega|rfl) [Qf3,hs]
  .refine⟨last,rs.reverse,ss,⟨ro.reverse,fun s g m l h1 h2=>?_,so⟩,hlast,by simp;omega,hss,by simp[Qp]⟩
   obtain⟨c,hc⟩:=du s g m l h1 h2
   exact⟨c,by simpa using hc⟩
  .exact⟨last,rs,ss,⟨ro,du,so⟩,hlast,by omega,hss,rfl⟩
section
variable {n last:Nat}{ps:List Path}{rs:List Run}{ss:List Sign}
theorem Qdl:idxD cI cU=some (.fz, .lst b6):=by simp[Qp]
theorem QQ:idxD cI eV=some (.fz, .lst cn):=by simp[Qp]
theorem Q1:idxD cI cQ=some (.fz, .int last):=by simp[Qp]
theorem QjU:idxD er cQ=some (.fz, .int n):=by simp[netD]
theorem Qi9:idxD er cU=some (.fz, .lst eN):=by simp[netD]
end
theorem Qqj (rs:List Run):plL 57 b6=true:=Qaz.2 fun d hd=>by
 obtain⟨r,_,rfl⟩:=List.mem_map.1 hd
 simp[runD,pl,plL]
theorem QmE {n last:Nat}{ps:List Path}{rs:List Run}{ss:List Sign}(so:SignsOk n last ss):pl 60 im=true:=by
 have h2:=Qqj rs
 have h5:plL 57 eN=true:=Qaz.2 fun d hd=>by
  obtain⟨⟨s,g,o⟩,_,rfl⟩:=List.mem_map.1 hd
  cases o<;>simp[Qan,pl,plL]
 have h6:plL 57 cn=true:=Qaz.2 fun d hd=>by
  obtain⟨x,hx,rfl⟩:=List.mem_map.1 hd
  have:=so.nm x hx
  simp[nmOk]at this
  simp[Qx,pl,plL,this.1.1]
 simp[netD,Qp,pl,plL,h2,h5,h6]
theorem RunsOk.all {n last:Nat}{ps:List Path}{rs:List Run}(ok:NetOk n ps)(ro:RunsOk ps last rs):∀r∈rs,r.1<n/\r.2.1<n/\r.2.2.1<r.2.2.2/\r.2.2.2<=last:=fun r hr=>by
 obtain⟨o,ho,_⟩:=ro.path r hr
 exact⟨ok.s _ ho,ok.g _ ho,ro.turn r hr⟩
inductive Hears (rs:List Run)(h t:Nat):Nat->Nat->Prop
 |self {u:Nat}:u<=t->Hears rs h t h u
 |run {r:Run} {u:Nat}:r∈rs->Hears rs h t r.2.1 r.2.2.2->u<=r.2.2.1->Hears rs h t r.1 u
theorem Hears.le {rs:List Run}{h t v u w:Nat}(x:Hears rs h t v u)(hw:w<=u):Hears rs h t v w:=by
 cases x with
 |self h1=>exact .self aa
 |run h1 h2 h3=>exact .run h1 h2 aa
def eAt (E:List Int)(v:Nat):Int:=(E[v]?).getD (-1)
theorem QeR {E:List Int}{j v:Nat}{x:Int}(hj:j<E.length):eAt tD v=if v=j then x else eAt E v:=by
 unfold eAt
 by_cases h:v=j
 .subst h;rw[List.getElem?_set_self hj,if_pos rfl];rfl
 .rw[List.getElem?_set_ne (fun z=>h z.symm),if_neg h]
structure EndsOk (rs:List Run)(n h t:Nat)(E:List Int):Prop where
 len:E.length=n
 low:∀v,-1<=eAt E v
 iff:∀v u:Nat,v<n->((u:Int)<=eAt E v↔Hears rs h t v u)
theorem EndsOk.uniq {rs:List Run}{n h t:Nat}{E E':List Int}(a:EndsOk rs n h t E)(b:EndsOk rs n h t E'):E=E':=by
 refine List.ext_getElem (by rw[a.len,b.len]) fun v h1 h2=>?_
 have e1:eAt E v=E[v]:=by simp[eAt,h1]
 have e2:eAt E' v=E'[v]:=by simp[eAt,h2]
 rw[←e1,←e2]
 have l1:=a.low v
 have l2:=b.low v
 have hv:v<n:=by rw[←a.len];exact h1
 by_cases c1:0<=eAt E v
 .have q:=(b.iff v (eAt E v).toNat hv).2 ((a.iff v (eAt E v).toNat hv).1 aa)
  have q2:=(a.iff v (eAt E' v).toNat hv).2 ((b.iff v (eAt E' v).toNat hv).1 aa)
  omega
 .by_cases c2:0<=eAt E' v
  .have q2:=(a.iff v (eAt E' v).toNat hv).2 ((b.iff v (eAt E' v).toNat hv).1 aa)
   omega
  .omega
theorem Qh8 {E:List Int}{v:Nat}(h:v<E.length):atI iE (v:Int)=some (.int (eAt E v)):=Qc2 (by simp[eAt,h])
def QaH (h t:Nat):D:= .tup [.int h, .int t]
theorem Hears.trans {rs:List Run}{v u a l h t:Nat}(x:Hears rs v u a l)(y:Hears rs a l h t):Hears rs v u h t:=by
 induction y with
 |self h1=>exact x.le h1
 |run h1 _ h3 ih=>exact .run h1 ih h3
def pot (last:Nat):List Int->Nat
 | []=>0
 |x::E=>((last:Int)+1-x).toNat+pot last E
theorem QjV {last:Nat}{x:Int}:∀{E:List Int} {j:Nat},j<E.length->eAt E j<x->x<=last->pot last tD<pot last E
 | [],_,h,_,_=>by simp at h
 |y::E,0,_,h1,h2=>by
  have:y<x:=by simpa[eAt]using h1
  show((last:Int)+1-x).toNat+pot last E<((last:Int)+1-y).toNat+pot last E
  omega
 |y::E,j+1,h,h1,h2=>by
  have:=QjV (E:=E) (j:=j) (by simpa using h) (by simpa[eAt]using h1) h2
  show((last:Int)+1-y).toNat+pot last tD<((last:Int)+1-y).toNat+pot last E
  omega
theorem Qoz {last:Nat}:∀{E:List Int},(∀v,-1<=eAt E v)->pot last E<=E.length*(last+2)
 | [],_=>by simp[pot]
 |x::E,h=>by
  have h0: -1<=x:=by simpa[eAt]using h 0
  have:=Qoz (last:=last) (E:=E) fun v=>by simpa[eAt]using h (v+1)
  show((last:Int)+1-x).toNat+pot last E<=(E.length+1)*(last+2)
  rw[Nat.add_mul]
  omega
structure EndsB (rs:List Run)(n h t:Nat)(E:List Int):Prop where
 len:E.length=n
 low:∀v,-1<=eAt E v
 snd:∀v u:Nat,(u:Int)<=eAt E v->Hears rs h t v u
 own:(t:Int)<=eAt E h
def Qqk (E:List Int)(r:Run):Prop:=(r.2.2.2:Int)<=eAt E r.2.1->(r.2.2.1:Int)<=eAt E r.1
def Qh9 (E:List Int)(rs:List Run):Prop:=∀r∈rs,Qqk E r
theorem EndsB.ok {rs:List Run}{n h t:Nat}{E:List Int}(b:EndsB rs n h t E)(c:Qh9 E rs):EndsOk rs n h t E:=
 ⟨b.len,b.low,fun v u hv=>⟨b.snd v u,fun x=>by
  clear hv
  induction x with
  |self h1=>have:=b.own;omega
  |run h1 h2 h3 ih=>have:=c _ h1 ih;omega⟩⟩
theorem EndsB.put {rs:List Run}{n h t:Nat}{E:List Int}{r:Run}(b:EndsB rs n h t E)(hr:r∈rs)(hs:r.1<n)(h1:(r.2.2.2:Int)<=eAt E r.2.1)(h2:eAt E r.1<r.2.2.1):EndsB rs n h t (E.set r.1 (r.2.2.1:Int)):=by
 have hl:r.1<E.length:=by rw[b.len];exact hs
 refine⟨by rw[List.length_set];exact b.len,fun v=>?_,fun v u=>?_,?_⟩
 .rw[QeR hl];have:=b.low v;split<;>omega
 .rw[QeR hl]
  split
  .rename_i e
   intro hu
   rw[e]
   exact .run hr (b.snd _ _ h1) aa
  .exact b.snd v u
 .rw[QeR hl]
  have:=b.own
  split
  .rename_i e;rw[←e]at h2;omega
  .exact this
section
variable {n h t last:Nat}{ps:List Path}{rs:List Run}{ss:List Sign}
abbrev evE (n:Nat)(ps:List Path)(last:Nat)(rs:List Run)(ss:List Sign)(h t:Nat)(E:List Int)(f:Bool)(l:Ev):Ev:=some (.fz,netD n ps)::some (.fz,Qp last rs ss)::some (.fz,QaH h t)::some (.ow, .lst iE)::some (.fz, .bl f)::l
def InvE (n:Nat)(ps:List Path)(last:Nat)(rs:List Run)(ss:List Sign)(h t:Nat)(p0:Nat)(xs:List Run)(ev:Ev):Prop:=∃E f pre x5 x6 x7 x8,ev=evE n ps last rs ss h t E f [x5,x6,x7,x8]/\rs=pre++xs/\EndsB rs n h t E/\(f=false->Qh9 E pre)/\(f=true->pot last E<p0)/\pot last E<=p0
def Qvg (n:Nat)(ps:List Path)(last:Nat)(rs:List Run)(ss:List Sign)(h t:Nat)(m:Nat)(ev:Ev):Prop:=∃E f x5 x6 x7 x8,ev=evE n ps last rs ss h t E f [x5,x6,x7,x8]/\EndsB rs n h t E/\(f=false->m=0/\Qh9 E rs)/\(f=true->m=pot last E+1)
theorem QmF (hn:1<=n)(h8:n<=8)(hl:last<=60)(ht:t<=last)(hh:h<n)(hr:∀r∈rs,r.1<n/\r.2.1<n/\r.2.2.1<r.2.2.2/\r.2.2.2<=last):
  ∃E,EndsOk rs n h t E/\Qdi [netD n ps,Qp last rs ss,QaH h t]= .ok .ow (.lst iE):=by
 refine Qt (Qdi [netD n ps,Qp last rs ss,QaH h t]) rfl ?_
 have e0:idxD er cQ=some (.fz, .int n):=by simp[netD]
 have e1:idxD cI cU=some (.fz, .lst b6):=by simp[Qp]
 have e2:idxD qG cQ=some (.fz, .int h):=by simp[QaH]
 have e3:idxD qG cU=some (.fz, .int t):=by simp[QaH]
 have em:mulD (.lst [.int (-1)]) jE=some (.ow, .lst ((List.replicate n (-1:Int)).map D.int)):=by
  rw[Qkn (by simp[LIM];omega)]
  simp
 have ei:=Qko (n:=n) (i:=h) hh
 simp(disch:=first|omega|rfl) [ev0,Qh0,e0,em,e2,e3,ei]
 have B0:EndsB rs n h t ((List.replicate n (-1:Int)).set h (t:Int)):=by
  have hl:h<(List.replicate n (-1:Int)).length:=by simpa using hh
  have r0:∀v,eAt (List.replicate n (-1:Int)) v= -1:=fun v=>by
   unfold eAt
   rw[List.getElem?_replicate]
   split<;>rfl
  refine⟨by simp,fun v=>?_,fun v u=>?_,?_⟩
  .rw[QeR hl,r0];split<;>omega
  .rw[QeR hl,r0]
   split
   .rename_i e;intro hu;rw[e];exact .self aa
   .intro hu;omega
  .rw[QeR hl,if_pos rfl];omega
 have p0:=Qoz (last:=last) B0.low
 rw[B0.len]at p0
 have p1:n*(last+2)<=8*62:=Nat.mul_le_mul h8 aa
 refine Qfq (Qvg n ps last rs ss h t) ?_ (m:=pot last ((List.replicate n (-1:Int)).set h (t:Int))+1) ⟨_,true,none,none,none,none,by simp[List.map_set],B0,by simp,fun _=>rfl⟩ aa
 rintro m _ ⟨E,f,x5,x6,x7,x8,rfl,B,hf,ht'⟩
 cases f with
 |false=>
  refine .inr ⟨.fz,by simp,?_⟩
  obtain⟨_,c⟩:=hf rfl
  simp(disch:=first|omega|rfl) []
  exact⟨E,B.ok c,rfl⟩
 |true=>
  obtain rfl:=ht' rfl
  refine .inl ⟨.fz,by simp,?_⟩
  simp(disch:=first|omega|rfl) [Qgk,e1]
  refine Qfp (InvE n ps last rs ss h t (pot last E)) ?_ ?_ ⟨E,false,[],_,_,_,_,rfl,rfl,B,by simp[Qh9],by simp,Nat.le_refl _⟩
  .rintro r xs _-⟨E',f,pre,x5,x6,x7,x8,rfl,hp,B',hff,hft,hle⟩
   have hm:r∈rs:=by rw[hp];simp
   obtain⟨h1,h2,h3,h4⟩:=hr r hm
   have a1:=Qh8 (E:=E') (v:=r.1) (by rw[B'.len];exact h1)
   have a2:=Qh8 (E:=E') (v:=r.2.1) (by rw[B'.len];exact h2)
   have ei:=Qko (n:=n) (i:=r.1) h1
   refine⟨_,rfl,?_⟩
   simp(disch:=first|omega|rfl) [Qgj,a1,a2]
   refine QeZ (fun c=>?_) fun c=>?_
   .simp at c
    simp(disch:=first|omega|rfl) [B'.len,ei]
    refine⟨E'.set r.1 (r.2.2.1:Int),true,pre++ [r],some (.fz, .int r.1),some (.fz, .int r.2.1),some (.fz, .int r.2.2.1),some (.fz, .int r.2.2.2),by simp[List.map_set],by simp[hp],B'.put hm h1 c.1 aa,by simp,fun _=>?_,?_⟩
    .have:=QjV (last:=last) (E:=E') (j:=r.1) (x:=(r.2.2.1:Int)) (by rw[B'.len];exact h1) aa aa
     omega
    .have:=QjV (last:=last) (E:=E') (j:=r.1) (x:=(r.2.2.1:Int)) (by rw[B'.len];exact h1) aa aa
     omega
   .simp at c
    simp(disch:=first|omega|rfl) []
    refine⟨E',f,pre++ [r],_,_,_,_,rfl,by simp[hp],B',fun hf=>?_,hft,hle⟩
    have cl:=hff hf
    intro q hq
    rcases List.mem_append.1 hq with hq|hq
    .exact cl q hq
    .obtain rfl:=List.mem_singleton.1 hq
     exact fun z=>c z
  .rintro _ ⟨E',f,pre,x5,x6,x7,x8,rfl,hp,B',hff,hft,hle⟩
   rw[List.append_nil]at hp
   simp(disch:=first|omega|rfl) []
   cases f with
   |false=>exact⟨0,by omega,E',false,_,_,_,_,rfl,B',fun _=>⟨rfl,by rw[hp];exact hff rfl⟩,by simp⟩
   |true=>exact⟨pot last E'+1,by have:=hft rfl;omega,E',true,_,_,_,_,rfl,B',by simp,fun _=>rfl⟩
end
def keyR (r:Run):List Key:= [.inl (r.1:Int), .inl (r.2.1:Int), .inl (r.2.2.1:Int), .inl (r.2.2.2:Int)]
theorem QeS:∀rs:List Run,QdF b6=some (rs.map keyR)
 | []=>rfl
 |r::rs=>by
  show(Qbt [.int r.1, .int r.2.1, .int r.2.2.1, .int r.2.2.2]).bind (fun k=>(QdF b6).map (k:: ·))=_
  rw[QeS rs];rfl
theorem Qia {x y:Run}(h:keyR x=keyR y):x=y:=by
 obtain⟨a,b,c,d⟩:=x
 obtain⟨a',b',c',d'⟩:=y
 simp[keyR]at h
 obtain⟨h1,h2,h3,h4⟩:=h
 simp only[Prod.mk.injEq]
 omega
theorem QaX {α β:Type}{f:α->β}(hf:∀x y,f x=f y->x=y):∀{l:List α},l.Nodup->(l.map f).Nodup
 | [],_=>List.Pairwise.nil
 |x::l,h=>by
  obtain⟨h1,h2⟩:=List.nodup_cons.1 h
  refine List.nodup_cons.2 ⟨fun z=>?_,QaX hf h2⟩
  obtain⟨y,hy,e⟩:=List.mem_map.1 z
  exact h1 (hf _ _ e▸hy)
theorem Qa8 {rs:List Run}(h:(rs.map rkey).Nodup):rs.Nodup:=by
 have h:=List.pairwise_map.1 h
 exact h.imp fun h e=>h (by rw[e])
structure NetX (n:Nat)(ps:List Path)(N:D):Prop where
 n0:idxD N cQ=some (.fz, .int n)
 n1:∃L,idxD N cU=some (.fz,L)/\itR jQ= .ok eN
theorem QoA {n:Nat}{ps:List Path}:NetX n ps er:=⟨QjU,_,Qi9,rfl⟩
def netS (n:Nat)(ps:List Path):D:= .tup [.int n, .scr eN]
theorem QsD {n:Nat}{ps:List Path}:NetX n ps (netS n ps):=⟨by simp[netS], .scr eN,by simp[netS],rfl⟩
theorem Hears.le_t {rs:List Run}{h t v u:Nat}(hr:∀r∈rs,r.2.2.1<r.2.2.2)(x:Hears rs h t v u):u<=t:=by
 induction x with
 |self h1=>exact h1
 |run h1 _ h3 ih=>have:=hr _ h1;omega
theorem Hears.sub {rs rs':List Run}{h t v u:Nat}(hs:∀r∈rs,r∈rs')(x:Hears rs h t v u):Hears rs' h t v u:=by
 induction x with
 |self h1=>exact .self h1
 |run h1 _ h3 ih=>exact .run (hs _ h1) ih h3
theorem Qhk {pre:List Run}{r:Run}{h t v u:Nat}(h1:r.2.2.1<r.2.2.2)(h2:∀q∈pre,r.2.2.2<=q.2.2.2):Hears (pre++ [r]) h t v u↔Hears pre h t v u\/(Hears pre h t r.2.1 r.2.2.2/\v=r.1/\u<=r.2.2.1):=by
 constructor
 .intro x
  induction x with
  |self h3=>exact .inl (.self h3)
  |run h3 _ h4 ih=>
   rcases List.mem_append.1 h3 with h3|h3
   .rcases ih with ih|⟨_,ih,ih2⟩
    .exact .inl (.run h3 ih h4)
    .have:=h2 _ h3;omega
   .obtain rfl:=List.mem_singleton.1 h3
    rcases ih with ih|⟨_,ih,ih2⟩
    .exact .inr ⟨ih,rfl,h4⟩
    .omega
 .rintro(x|⟨x,rfl,hu⟩)
  .exact x.sub fun q hq=>List.mem_append_left _ hq
  .exact .run (List.mem_append_right _ (List.mem_singleton.2 rfl)) (x.sub fun q hq=>List.mem_append_left _ hq) hu
def Qn0:Option Run->D
 |none=> .non
 |some r=>runD r
def bstD (x:Int×Option Run):D:= .tup [.int x.1,Qn0 x.2]
def wAt (B:List dR)(v:Nat):Int×Option Run:=(B[v]?).getD (-1,none)
theorem Qb5 {B:List dR}{j v:Nat}{x:Int×Option Run}(hj:j<B.length):wAt (B.set j x) v=if v=j then x else wAt B v:=by
 unfold wAt
 by_cases h:v=j
 .subst h;rw[List.getElem?_set_self hj,if_pos rfl];rfl
 .rw[List.getElem?_set_ne (fun z=>h z.symm),if_neg h]
structure WB (rs:List Run)(n h t:Nat)(B:List (Int×Option Run)):Prop where
 len:B.length=n
 low:∀v,-1<=(wAt B v).1
 iff:∀v u:Nat,v<n->((u:Int)<=(wAt B v).1↔Hears rs h t v u)
 own:wAt B h=((t:Int),none)
 via:∀v,v<n->v≠h->0<=(wAt B v).1->∃r,(wAt B v).2=some r/\r∈rs/\r.1=v/\(r.2.2.1:Int)=(wAt B v).1/\(r.2.2.2:Int)<=(wAt B r.2.1).1
theorem WB.sub {rs rs':List Run}{n h t:Nat}{B:List dR}(w:WB rs n h t B)(e:∀r,r∈rs↔r∈rs'):WB rs' n h t B:=
 ⟨w.len,w.low,fun v u hv=>(w.iff v u hv).trans ⟨fun x=>x.sub fun r hr=>(e r).1 hr,fun x=>x.sub fun r hr=>(e r).2 hr⟩,w.own,fun v hv hn h0=>by
  obtain⟨r,h1,h2,h3⟩:=w.via v hv hn h0;exact⟨r,h1,(e r).1 h2,h3⟩⟩
theorem WB.put {pre:List Run}{n h t:Nat}{B:List dR}{r:Run}(w:WB pre n h t B)(hp:∀q∈pre,q.2.2.1<q.2.2.2)(hs:r.1<n)(hg:r.2.1<n)(h1:r.2.2.1<r.2.2.2)(h2:∀q∈pre,r.2.2.2<=q.2.2.2)
  (c1:(r.2.2.2:Int)<=(wAt B r.2.1).1) (c2:(wAt B r.1).1<r.2.2.1):WB (pre++ [r]) n h t (B.set r.1 ((r.2.2.1:Int),some r)):=by
 have hl:r.1<B.length:=by rw[w.len];exact hs
 have hh:=(w.iff r.2.1 r.2.2.2 hg).1 c1
 have nh:r.1≠h:=fun z=>by
  have:=hh.le_t hp
  rw[z,w.own]at c2
  have c2:(t:Int)<r.2.2.1:=c2
  omega
 have ng:r.2.1≠r.1:=fun z=>by rw[z]at c1;omega
 refine⟨by rw[List.length_set];exact w.len,fun v=>?_,fun v u hv=>?_,?_,fun v hv hn h0=>?_⟩
 .rw[Qb5 hl];split
  .show-1<=(r.2.2.1:Int);omega
  .exact w.low v
 .rw[Qb5 hl,Qhk h1 h2,←w.iff v u hv]
  split
  .rename_i e
   subst e
   show(u:Int)<=(r.2.2.1:Int)↔_
   constructor
   .intro z;exact .inr ⟨hh,rfl,by omega⟩
   .rintro(z|⟨_,_,z⟩)<;>omega
  .rename_i e
   constructor
   .exact .inl
   .rintro(z|⟨_,z,_⟩)
    .exact z
    .exact absurd z e
 .rw[Qb5 hl,if_neg (fun z=>nh z.symm)];exact w.own
 .rw[Qb5 hl]at h0⊢
  by_cases e:v=r.1
  .rw[if_pos e]
   refine⟨r,rfl,List.mem_append_right _ (List.mem_singleton.2 rfl),e.symm,rfl,?_⟩
   rw[Qb5 hl,if_neg ng];exact c1
  .rw[if_neg e]at h0⊢
   obtain⟨q,q1,q2,q3,q4,q5⟩:=w.via v hv hn h0
   refine⟨q,q1,List.mem_append_left _ q2,q3,q4,?_⟩
   rw[Qb5 hl]
   split
   .rename_i z;rw[z]at q5;show(q.2.2.2:Int)<=(r.2.2.1:Int);omega
   .exact q5
theorem WB.skip {pre:List Run}{n h t:Nat}{B:List dR}{r:Run}(w:WB pre n h t B)(hs:r.1<n)(hg:r.2.1<n)(h1:r.2.2.1<r.2.2.2)(h2:∀q∈pre,r.2.2.2<=q.2.2.2)
  (c:(r.2.2.2:Int)<=(wAt B r.2.1).1->(r.2.2.1:Int)<=(wAt B r.1).1):WB (pre++ [r]) n h t B:=by
 refine⟨w.len,w.low,fun v u hv=>?_,w.own,fun v hv hn h0=>?_⟩
 .rw[Qhk h1 h2,←w.iff v u hv]
  constructor
  .exact .inl
  .rintro(z|⟨z1,rfl,z2⟩)
   .exact z
   .have:=c ((w.iff _ _ hg).2 z1);omega
 .obtain⟨q,q1,q2,q3⟩:=w.via v hv hn h0
  exact⟨q,q1,List.mem_append_left _ q2,q3⟩
theorem Qql (r:Run):Qag [runD r]= .ok .fz (.int r.2.2.2):=by
 have r3:idxD j7 jF=some (.fz, .int r.2.2.2):=by simp[runD]
 refine Qt (Qag [runD r]) rfl ?_
 simp(disch:=first|omega|rfl) [ev0,QdK,r3]
theorem QjW {rs:List Run}(nd:rs.Nodup)(hn:rs.length<=5000):∃rs':List Run,rs'.Perm rs/\rs'.Pairwise (fun a b=>b.2.2.2<=a.2.2.2)/\QeY Qag true b6= .ok .ow (.lst (rs'.map runD)):=by
 obtain⟨l,h1,h2,h3⟩:=Qmj (0,0,0,0) (φ:=Qag) (enc:=runD) (key:=fun r=>(r.2.2.2:Int)) (l:=rs) (fun r _=>Qql r) (QeS rs) (QaX (fun _ _=>Qia) nd) aa
 exact⟨l,h1,h2.imp fun h=>by omega,h3⟩
theorem QoB {B:List dR}{v:Nat}(h:v<B.length):atI rX (v:Int)=some (bstD (wAt B v)):=Qc2 (by simp[wAt,h])
theorem QsE (x:Int×Option Run):idxD (bstD x) cQ=some (.fz, .int x.1):=by simp[bstD]
structure TaleX (last:Nat)(rs:List Run)(ss:List Sign)(T:D):Prop where
 t0:idxD T cQ=some (.fz, .int last)
 t1:∃L,idxD T cU=some (.fz,L)/\QiH jQ=QcX b6/\itR jQ= .ok b6/\∀f b,Qkh f b jQ=QeY f b b6
 t2:∃L,idxD T eV=some (.fz,L)/\QiH jQ=QcX cn/\itR jQ= .ok cn
section
variable {last:Nat}{rs:List Run}{ss:List Sign}
theorem QgD:TaleX last rs ss cI:=⟨Q1,⟨_,Qdl,rfl,rfl,fun _ _=>rfl⟩,⟨_,QQ,rfl,rfl⟩⟩
def QjX (last:Nat)(rs:List Run)(ss:List Sign):D:= .tup [.int last, .scr b6, .scr cn]
theorem Qqm:TaleX last rs ss (QjX last rs ss):=⟨by simp[QjX],⟨.scr b6,by simp[QjX],rfl,rfl,fun _ _=>rfl⟩,⟨.scr cn,by simp[QjX],rfl,rfl⟩⟩
end
section
variable {n h t last:Nat}{ps:List Path}{N T:D}{rs:List Run}{ss:List Sign}
abbrev evWb (N T:D)(h t:Nat)(B:List dR)(l:Ev):Ev:=some (.fz,N)::some (.fz,T)::some (.fz,QaH h t)::some (.ow, .lst rX)::l
def Qvh (n:Nat)(N T:D)(h t:Nat)(all xs:List Run)(ev:Ev):Prop:=∃B pre x5 x6 x7 x8,ev=evWb N T h t B [x5,x6,x7,x8]/\all=pre++xs/\WB pre n h t B
theorem Qqn (hN:NetX n ps N)(hT:TaleX last rs ss T)(hn:1<=n)(h8:n<=8)(ht:t<=last)(hh:h<n)(hr:∀r∈rs,r.1<n/\r.2.1<n/\r.2.2.1<r.2.2.2/\r.2.2.2<=last)(nd:rs.Nodup)(hz:rs.length<=5000):
  ∃B,WB rs n h t B/\Qar [N,T,QaH h t]= .ok .ow (.lst rX):=by
 obtain⟨all,hp,hpw,hsort⟩:=QjW nd hz
 have hm:∀r,r∈all↔r∈rs:=fun r=>hp.mem_iff
 refine Qt (Qar [N,T,QaH h t]) rfl ?_
 have e0:=hN.n0
 obtain⟨L1,e1,_,_,hk⟩:=hT.t1
 have e2:idxD qG cQ=some (.fz, .int h):=by simp[QaH]
 have e3:idxD qG cU=some (.fz, .int t):=by simp[QaH]
 have em:mulD (.lst [.tup [.int (-1), .non]]) jE=some (.ow, .lst ((List.replicate n ((-1:Int),(none:Option Run))).map bstD)):=by
  rw[Qkn (by simp[LIM];omega)]
  simp[bstD,Qn0]
 have ei:=Qko (n:=n) (i:=h) hh
 simp(disch:=first|omega|rfl) [ev0,Qcr,e0,em,e2,e3,ei,e1,hk,hsort]
 have W0:WB [] n h t ((List.replicate n ((-1:Int),(none:Option Run))).set h ((t:Int),none)):=by
  have hl:h<(List.replicate n ((-1:Int),(none:Option Run))).length:=by simpa using hh
  have r0:∀v,wAt (List.replicate n ((-1:Int),(none:Option Run))) v=(-1,none):=fun v=>by
   unfold wAt
   rw[List.getElem?_replicate]
   split<;>rfl
  refine⟨by simp,fun v=>?_,fun v u hv=>?_,?_,fun v hv hn h0=>?_⟩
  .rw[Qb5 hl,r0];split
   .show-1<=(t:Int);omega
   .exact Int.le_refl _
  .rw[Qb5 hl,r0]
   split
   .rename_i e
    subst e
    show(u:Int)<=t↔_
    exact⟨fun z=> .self aa,fun z=>by have:=z.le_t al;omega⟩
   .rename_i e
    show(u:Int)<= -1↔_
    refine⟨fun z=>by omega,fun z=>?_⟩
    cases z with
    |self _=>exact absurd rfl e
    |run h1 _ _=>simp at h1
  .rw[Qb5 hl,if_pos rfl]
  .rw[Qb5 hl,r0,if_neg hn]at h0
   have h0:(0:Int)<= -1:=h0
   omega
 refine QaN (Qvh n N T h t all) ?_ ?_ ⟨_,[],none,none,none,none,by simp[List.map_set,bstD,Qn0],rfl,W0⟩
 .rintro r xs _-⟨B,pre,x5,x6,x7,x8,rfl,ha,W⟩
  have hmr:r∈rs:=(hm r).1 (by rw[ha];simp)
  obtain⟨h1,h2,h3,h4⟩:=hr r hmr
  have hpre:∀q∈pre,q.2.2.1<q.2.2.2:=fun q hq=>(hr q ((hm q).1 (by rw[ha];simp[hq]))).2.2.1
  have hle:∀q∈pre,r.2.2.2<=q.2.2.2:=fun q hq=>by
   rw[ha]at hpw
   exact(List.pairwise_append.1 hpw).2.2 q hq r al
  have a1:=QoB (B:=B) (v:=r.1) (by rw[W.len];exact h1)
  have a2:=QoB (B:=B) (v:=r.2.1) (by rw[W.len];exact h2)
  have ei:=Qko (n:=n) (i:=r.1) h1
  refine⟨_,rfl,?_⟩
  simp(disch:=first|omega|rfl) [QcE,a1,a2,QsE]
  refine QeZ (fun c=>?_) fun c=>?_
  .simp at c
   simp(disch:=first|omega|rfl) [W.len,ei]
   exact⟨B.set r.1 ((r.2.2.1:Int),some r),pre++ [r],some (.fz, .int r.1),some (.fz, .int r.2.1),some (.fz, .int r.2.2.1),some (.fz, .int r.2.2.2),by simp[List.map_set,bstD,Qn0,runD],by simp[ha],W.put hpre h1 h2 h3 hle c.1 aa⟩
  .simp at c
   simp(disch:=first|omega|rfl) []
   exact⟨B,pre++ [r],_,_,_,_,rfl,by simp[ha],W.skip h1 h2 h3 hle fun z=>by have:=c z;omega⟩
 .rintro _ ⟨B,pre,x5,x6,x7,x8,rfl,ha,W⟩
  rw[List.append_nil]at ha
  subst ha
  simp(disch:=first|omega|rfl) []
  exact⟨B,W.sub hm,rfl⟩
end
theorem WB.ends {rs:List Run}{n h t:Nat}{B:List dR}(w:WB rs n h t B):EndsOk rs n h t (B.map (·.1)):=by
 have e:∀v,eAt (B.map (·.1)) v=(wAt B v).1:=fun v=>by
  unfold eAt wAt
  rw[List.getElem?_map]
  cases B[v]?<;>rfl
 exact⟨by simp[w.len],fun v=>by rw[e];exact w.low v,fun v u hv=>by rw[e];exact w.iff v u hv⟩
theorem Qn1 {n h t last:Nat}{ps:List Path}{N T:D}{rs:List Run}{ss:List Sign}(hN:NetX n ps N)(hT:TaleX last rs ss T)(h1:1<=n)(h8:n<=8)(hl:last<=60)(ht:t<=last)(hh:h<n)(hr:∀r∈rs,r.1<n/\r.2.1<n/\r.2.2.1<r.2.2.2/\r.2.2.2<=last)(nd:(rs.map rkey).Nodup)(hn:rs.length<=5000):
  ∃E,EndsOk rs n h t E/\QaR [N,T,QaH h t]= .ok .ow (.lst iE):=by
 obtain⟨B,w,hw⟩:=Qqn hN hT h1 h8 ht hh hr (Qa8 nd) hn
 refine⟨B.map (·.1),w.ends,?_⟩
 have hc:=Qc3 (b:=QC 0) (e:=eOp idxD ap aj) (ev:= [none]) (enc:=bstD) (l:=B) (fun x=> .int x.1) (by rw[w.len];simp[LIM];omega) (fun x _=>by
  refine⟨_,rfl, .fz,by simp,?_⟩
  simp(disch:=first|omega|rfl) [QsE])
 refine Qt (QaR [N,T,QaH h t]) rfl ?_
 simp(disch:=first|omega|rfl) [ev0,Qc9,hw,hc]
def keyS (x:Sign):List Key:= [.inl (x.1:Int), .inl (x.2.1:Int), .inr x.2.2]
theorem QkE {x y:Sign}(h:keyS x=keyS y):x=y:=by
 obtain⟨a,b,c⟩:=x
 obtain⟨a',b',c'⟩:=y
 simp[keyS]at h
 obtain⟨h1,h2,h3⟩:=h
 subst h3
 simp only[Prod.mk.injEq,and_true]
 omega
theorem QgE:∀ss:List Sign,QdF cn=some (ss.map keyS)
 | []=>rfl
 |r::rs=>by
  show(Qbt [.int r.1, .int r.2.1, .str r.2.2]).bind (fun k=>(QdF (rs.map Qx)).map (k:: ·))=_
  rw[QgE rs];rfl
def srtR (l:List Run):List Run:=srtA (0,0,0,0) keyR l
def srtS (l:List Sign):List Sign:=srtA (0,0,cA) keyS l
theorem srtR_perm {l:List Run}:(srtR l).Perm l:=srtA_perm
theorem srtS_perm {l:List Sign}:(srtS l).Perm l:=srtA_perm
theorem QgF {l m:List Run}(h:l.Perm m):srtR l=srtR m:=QiP (fun _ _=>Qia) h
theorem QgG {l m:List Sign}(h:l.Perm m):srtS l=srtS m:=QiP (fun _ _=>QkE) h
theorem Qer {l:List Run}(nd:l.Nodup)(hn:l.length<=5000):QcX (l.map runD)= .ok .ow (.lst ((srtR l).map runD)):=
 QiQ _ (QeS l) (QaX (fun _ _=>Qia) nd) (Qmk (sh:= [true,true,true,true]) rfl (fun _=>rfl) l) aa
theorem Qdp {l:List Sign}(nd:l.Nodup)(hn:l.length<=5000):QcX (l.map Qx)= .ok .ow (.lst ((srtS l).map Qx)):=
 QiQ _ (QgE l) (QaX (fun _ _=>QkE) nd) (Qmk (sh:= [true,true,false]) rfl (fun _=>rfl) l) aa
def hR (E:List Int)(r:Run):Bool:=decide ((r.2.2.2:Int)<=eAt E r.2.1)
def hS (E:List Int)(x:Sign):Bool:=decide ((x.2.1:Int)<=eAt E x.1)
def QgQ (h t:Nat)(R:List Run)(S:List Sign):D:= .tup [QaH h t, .lst rH, .lst uI]
def QcJ (h t:Nat)(E:List Int)(rs:List Run)(ss:List Sign):D:=QgQ h t (srtR cX) (srtS eI)
theorem QO {α:Type}{p:α->Bool}{l:List α}(h:l.Nodup):(l.filter p).Nodup:=List.Pairwise.sublist List.filter_sublist h
theorem Qja {E:List Int}{rs:List Run}{n:Nat}(hl:E.length=n)(hr:∀r∈rs,r.2.1<n)(hn:rs.length<=5000):
  QgI nV fI ax [some (.fz, .lst iE),none] (.ok b6)= .ok .ow (.lst ((rs.filter rA).map runD)):=
 Qec rA runD (by simp[LIM];omega) fun r hm=>by
  have r1:idxD j7 cU=some (.fz, .int r.2.1):=by simp[runD]
  have r3:idxD j7 jF=some (.fz, .int r.2.2.2):=by simp[runD]
  have a1:=Qh8 (E:=E) (v:=r.2.1) (by rw[hl];exact hr r hm)
  refine⟨_,rfl,⟨.fz,?_⟩,fun _=>⟨.fz,by simp,?_⟩⟩
  .simp(disch:=first|omega|rfl) [r1,r3,a1,hR]
  .simp(disch:=first|omega|rfl) []
theorem Qhl {E:List Int}{ss:List Sign}{n:Nat}(hl:E.length=n)(hs:∀x∈ss,x.1<n)(hn:ss.length<=5000):
  QgI nV iP ax [some (.fz, .lst iE),none] (.ok cn)= .ok .ow (.lst ((ss.filter jV).map Qx)):=
 Qec jV Qx (by simp[LIM];omega) fun x hm=>by
  have r0:idxD o9 cQ=some (.fz, .int x.1):=by simp[Qx]
  have r1:idxD o9 cU=some (.fz, .int x.2.1):=by simp[Qx]
  have a1:=Qh8 (E:=E) (v:=x.1) (by rw[hl];exact hs x hm)
  refine⟨_,rfl,⟨.fz,?_⟩,fun _=>⟨.fz,by simp,?_⟩⟩
  .simp(disch:=first|omega|rfl) [r0,r1,a1,hS]
  .simp(disch:=first|omega|rfl) []
section
variable {n h t last:Nat}{ps:List Path}{rs:List Run}{ss:List Sign}{E:List Int}
structure TaleOk (n last:Nat)(rs:List Run)(ss:List Sign):Prop where
 all:∀r∈rs,r.1<n/\r.2.1<n/\r.2.2.1<r.2.2.2/\r.2.2.2<=last
 nd:(rs.map rkey).Nodup
 len:rs.length<=5000
 sh:∀x∈ss,x.1<n
 snd:ss.Nodup
 slen:ss.length<=100
end
section
variable {n h t last:Nat}{ps:List Path}{N T:D}{rs:List Run}{ss:List Sign}{E:List Int}
theorem Qqo (hN:NetX n ps N)(hT:TaleX last rs ss T)(h1:1<=n)(h8:n<=8)(hl:last<=60)(ht:t<=last)(hh:h<n)(tk:TaleOk n last rs ss)(eo:EndsOk rs n h t E):
  Qda [N,T,QaH h t]= .ok .fz (QcJ h t E rs ss):=by
 obtain⟨E',eo',hw⟩:=Qn1 hN hT h1 h8 hl ht hh tk.all tk.nd tk.len
 obtain rfl:=eo'.uniq eo
 have c1:=Qja (rs:=rs) eo'.len (fun r hr=>(tk.all r hr).2.1) (by have:=tk.len;omega)
 have c2:=Qhl (ss:=ss) eo'.len tk.sh (by have:=tk.slen;omega)
 have l1:(rs.filter (hR E')).length<=5000:=Nat.le_trans (List.length_filter_le ..) (by have:=tk.len;omega)
 have l2:(ss.filter (hS E')).length<=5000:=Nat.le_trans (List.length_filter_le ..) (by have:=tk.slen;omega)
 have s1:=Qer (QO (p:=hR E') (Qa8 tk.nd)) l1
 have s2:=Qdp (QO (p:=hS E') tk.snd) l2
 obtain⟨L1,a1,_,a2,_⟩:=hT.t1
 obtain⟨L2,b1,_,b2⟩:=hT.t2
 refine Qt (Qda [N,T,QaH h t]) rfl ?_
 simp(disch:=first|omega|rfl) [ev0,QhU,hw,a1,a2,b1,b2,c1,c2,s1,s2]
 rfl
end
theorem QmG {h t:Nat}{E:List Int}{rs rs':List Run}{ss ss':List Sign}(hr:(rs'.filter rA).Perm cX)(hs:(ss'.filter jV).Perm eI):QcJ h t E rs' ss'=QcJ h t E rs ss:=by
 unfold QcJ;rw[QgF hr,QgG hs]
theorem QkF {n h t last:Nat}{ps:List Path}{rs:List Run}{ss:List Sign}(h1:1<=n)(h8:n<=8)(hl:last<=60)(ht:t<=last)(hh:h<n)(tk:TaleOk n last rs ss):
  ∃E,EndsOk rs n h t E/\Qce [netD n ps,Qp last rs ss,QaH h t]= .ok .fz (QcJ h t E rs ss):=by
 obtain⟨E,eo,hw⟩:=QmF (ps:=ps) (ss:=ss) h1 h8 hl ht hh tk.all
 refine⟨E,eo,?_⟩
 have c1:=Qja (rs:=rs) eo.len (fun r hr=>(tk.all r hr).2.1) (by have:=tk.len;omega)
 have c2:=Qhl (ss:=ss) eo.len tk.sh (by have:=tk.slen;omega)
 have l1:(rs.filter rA).length<=5000:=Nat.le_trans (List.length_filter_le ..) (by have:=tk.len;omega)
 have l2:(ss.filter jV).length<=5000:=Nat.le_trans (List.length_filter_le ..) (by have:=tk.slen;omega)
 have s1:=Qer (QO (p:=hR E) (Qa8 tk.nd)) l1
 have s2:=Qdp (QO (p:=hS E) tk.snd) l2
 refine Qt (Qce [netD n ps,Qp last rs ss,QaH h t]) rfl ?_
 simp(disch:=first|omega|rfl) [ev0,Qh1,hw,Qdl,QQ,c1,c2,s1,s2]
 rfl
def kR3 (r:Run):List Key:= [.inl (r.1:Int), .inl (r.2.1:Int), .inl (r.2.2.1:Int)]
theorem QmH {r q:Run}:kR3 r=kR3 q↔rkey r=rkey q:=by
 obtain⟨a,b,c,d⟩:=r;obtain⟨a',b',c',d'⟩:=q
 simp[kR3,rkey];omega
theorem Qhm (r:Run):Qah [runD r]= .ok .fz (.tup [.int r.1, .int r.2.1, .int r.2.2.1]):=by
 refine Qt (Qah [runD r]) rfl ?_
 simp(disch:=first|omega|rfl) [ev0,QdM,runD]
def latR (p:Path)(m:Int)(last:Nat):List Run:=(List.range ((last:Int)-m+1).toNat).map fun l=>(p.1,p.2.1,l,l+m.toNat)
theorem Qib {p:Path}{m:Int}{last:Nat}{r:Run}(hm:1<=m):r∈latR p m last↔r.1=p.1/\r.2.1=p.2.1/\(r.2.2.2:Int)=r.2.2.1+m/\r.2.2.2<=last:=by
 obtain⟨a,b,l,c⟩:=r
 unfold latR
 simp only[List.mem_map,List.mem_range,Prod.mk.injEq]
 constructor
 .rintro⟨i,h1,rfl,rfl,rfl,rfl⟩
  exact⟨rfl,rfl,by omega,by omega⟩
 .rintro⟨rfl,rfl,h3,h4⟩
  exact⟨l,by omega,rfl,rfl,rfl,by omega⟩
theorem QkG {p:Path}{m:Int}{last:Nat}(hm:1<=m):(latR p m last).length<=last:=by
 unfold latR;rw[List.length_map,List.length_range];omega
theorem Qqp {p:Path}{m:Int}{last:Nat}:((latR p m last).map rkey).Nodup:=by
 unfold latR
 rw[List.map_map]
 exact QaX (fun x y e=>by simp[rkey]at e;exact e) List.nodup_range
theorem QmI {p:Path}{m:Int}{last:Nat}(hp:p.2.2=some m)(hm:1<=m)(hl:last<=60):Qaa [Qan p, .int last]= .ok .ow (.lst ((latR p m last).map runD)):=by
 have p0:idxD rQ cQ=some (.fz, .int p.1):=by simp[Qan]
 have p1:idxD rQ cU=some (.fz, .int p.2.1):=by simp[Qan]
 have p2:idxD rQ eV=some (.fz, .int m):=by simp[Qan,hp,optD]
 have lim:(last:Int)-m+1<2^62:=by omega
 have hc:=Qc3 (b:=QC 2) (e:=eTup kW) (ev:= [some (.fz,Qan p),some (.fz, .int m),none]) (enc:=fun l:Nat=>D.int (0+(l:Int))) (l:=List.range ((last:Int)-m+1).toNat) (fun l=>runD (p.1,p.2.1,l,l+m.toNat)) (by simp[LIM];omega) (fun l _=>by
  refine⟨_,rfl, .fz,by simp,?_⟩
  have e:(l:Int)+m=((l+m.toNat:Nat):Int):=by omega
  simp(disch:=first|omega|rfl) [p0,p1,runD,e])
 refine Qt (Qaa [Qan p, .int last]) rfl ?_
 simp(disch:=first|omega|rfl) [ev0,QbH,p2,lim]
 rw[Qcb,hc]
 simp(disch:=first|omega|rfl) [latR]
def newR (R:List Run)(r:Run):Bool:=decide (rkey r∉R.map rkey)
theorem QkH {R:List Run}{r:Run}:newR R r=true↔rkey r∉R.map rkey:=by simp[newR]
def exP (ps:List Path)(last:Nat)(R:List Run):List Run:=ps.flatMap fun p=>match p.2.2 with
 |none=> []
 |some m=>(latR p m last).filter gS
theorem Qic {ps:List Path}{last:Nat}{R:List Run}{r:Run}(hm:∀p∈ps,∀m,p.2.2=some m->1<=m):r∈exP ps last R↔∃m,(r.1,r.2.1,some m)∈ps/\(r.2.2.2:Int)=r.2.2.1+m/\r.2.2.2<=last/\rkey r∉R.map rkey:=by
 unfold exP
 rw[List.mem_flatMap]
 constructor
 .rintro⟨p,hp,hr⟩
  cases e:p.2.2 with
  |none=>rw[e]at hr;simp at hr
  |some m=>
   rw[e]at hr
   obtain⟨h1,h2⟩:=List.mem_filter.1 hr
   obtain⟨h3,h4,h5,h6⟩:=(Qib (hm p hp m e)).1 h1
   refine⟨m,?_,h5,h6,QkH.1 h2⟩
   rw[h3,h4,←e];exact hp
 .rintro⟨m,hp,h5,h6,h7⟩
  refine⟨_,hp,?_⟩
  exact List.mem_filter.2 ⟨(Qib (hm _ hp m rfl)).2 ⟨rfl,rfl,h5,h6⟩,QkH.2 h7⟩
theorem QjY {last:Nat}{R:List Run}:∀{ps:List Path},(∀p∈ps,∀m,p.2.2=some m->1<=m)->(exP ps last R).length<=ps.length*last
 | [],_=>by simp[exP]
 |p::ps,hm=>by
  have ih:=QjY (last:=last) (R:=R) (ps:=ps) fun q hq=>hm q (by simp[hq])
  have e:exP (p::ps) last R=(match p.2.2 with|none=> []|some m=>(latR p m last).filter gS)++exP ps last R:=by simp[exP]
  rw[e,List.length_append,List.length_cons,Nat.add_mul]
  cases q:p.2.2 with
  |none=>simp;omega
  |some m=>
   have:=QkG (p:=p) (last:=last) (hm p al m q)
   have:=List.length_filter_le gS (latR p m last)
   dsimp only;omega
theorem QmJ {last:Nat}{R:List Run}:∀{ps:List Path},(∀p∈ps,∀m,p.2.2=some m->1<=m)->(ps.map ends).Nodup->((exP ps last R).map rkey).Nodup
 | [],_,_=>by simp[exP]
 |p::ps,hm,nd=>by
  rw[List.map_cons,List.nodup_cons]at nd
  have ih:=QmJ (last:=last) (R:=R) (ps:=ps) (fun q hq=>hm q (by simp[hq])) nd.2
  have e:exP (p::ps) last R=(match p.2.2 with|none=> []|some m=>(latR p m last).filter gS)++exP ps last R:=by simp[exP]
  rw[e,List.map_append,List.nodup_append]
  cases q:p.2.2 with
  |none=>exact⟨by simp,ih,by simp⟩
  |some m=>
   refine⟨List.Pairwise.sublist fO Qqp,ih,fun a ha b hb z=>?_⟩
   subst z
   obtain⟨r,hr,rfl⟩:=List.mem_map.1 ha
   obtain⟨r',hr',e'⟩:=List.mem_map.1 hb
   obtain⟨h1,h2,_,_⟩:=(Qib (hm p al m q)).1 (List.mem_filter.1 hr).1
   obtain⟨m',hp',_⟩:=(Qic fun q hq=>hm q (by simp[hq])).1 hr'
   simp only[rkey,Prod.mk.injEq]at e'
   refine nd.1 (List.mem_map.2 ⟨_,hp',?_⟩)
   simp only[ends,Prod.mk.injEq]
   exact⟨by rw[e'.1,h1],by rw[e'.2.1,h2]⟩
def TD (l:List Run)(ks:List bR)(vs:List D):Prop:=ks.length=vs.length/\ks.length<=l.length/\∀r:Run,(dGet ks vs oO).isSome=decide (rkey r∈l.map rkey)
theorem TD.put {l:List Run}{ks:List bR}{vs:List D}{r:Run}(h:TD l ks vs):TD (l++ [r]) (QbB ks oO) (QcM ks vs oO aT):=by
 refine⟨QhN h.1,?_,fun q=>?_⟩
 .have:(QbB ks oO).length<=ks.length+1:=by unfold QbB;split<;>simp
  have:=h.2.1
  simp;omega
 .rw[Qfr h.1]
  by_cases e:kR3 q=kR3 r
  .rw[if_pos e]
   have:=QmH.1 e
   simp[this]
  .rw[if_neg e,h.2.2 q]
   have:¬rkey q=rkey r:=fun z=>e (QmH.2 z)
   simp[this]
section
variable {n h t last:Nat}{ps:List Path}{N:D}{R:List Run}{S:List Sign}
abbrev evV (N:D)(h t last:Nat)(R:List Run)(S:List Sign)(kd:Kd)(ks:List bR)(vs:List D)(l:Ev):Ev:=some (.fz,N)::some (.fz,QgQ h t R S)::some (.fz, .int last)::some (kd, .dT ks vs)::l
def Qvi (N:D)(h t last:Nat)(R:List Run)(S:List Sign)(xs:List Run)(ev:Ev):Prop:=∃ks vs pre x4,ev=evV N h t last R S .ow ks vs [x4,none,none]/\R=pre++xs/\TD pre ks vs
def Qvj (N:D)(ps:List Path)(h t last:Nat)(R:List Run)(S:List Sign)(ks:List bR)(vs:List D)(xs:List Path)(ev:Ev):Prop:=∃kd pre L x4 x6,(kd= .ow\/kd= .fz)/\ev=evV N h t last R S kd ks vs [x4,some (.ow, .lst (L.map runD)),x6]/\ps=pre++xs/\L=R++exP pre last R
theorem Qli (hN:NetX n ps N)(ok:NetOk n ps)(hps:ps.length<=64)(hl:last<=60)(hR:R.length+ps.length*last<=5000)(nd:(R.map rkey).Nodup)(hS:S.length<=1000)(snd:S.Nodup):
  Qbh [N,QgQ h t R S, .int last]= .ok .fz (Qp last (srtR (R++exP ps last R)) (srtS S)):=by
 have hm:∀p∈ps,∀m,p.2.2=some m->1<=m:=fun p hp m e=>(ok.m p hp m e).1
 have v1:idxD qi cU=some (.fz, .lst rH):=by simp[QgQ]
 have v2:idxD qi eV=some (.fz, .lst uI):=by simp[QgQ]
 have xl:=QjY (last:=last) (R:=R) hm
 have xl2:ps.length*last<=64*60:=Nat.mul_le_mul hps hl
 have ndA:((R++exP ps last R).map rkey).Nodup:=by
  rw[List.map_append,List.nodup_append]
  refine⟨nd,QmJ hm ok.nd,fun a ha b hb z=>?_⟩
  subst z
  obtain⟨r',hr',e'⟩:=List.mem_map.1 hb
  obtain⟨m',_,_,_,h4⟩:=(Qic hm).1 hr'
  exact h4 (e'▸ha)
 have s1:=Qer (Qa8 ndA) (by rw[List.length_append];omega)
 have s2:=Qdp snd aa
 refine Qt (Qbh [N,QgQ h t R S, .int last]) rfl ?_
 simp(disch:=first|omega|rfl) [ev0,QdO,v1]
 refine QaN (Qvi N h t last R S) ?_ ?_ ⟨[],[],[],_,rfl,rfl,rfl,by simp,fun r=>by simp[dGet]⟩
 .rintro r xs _-⟨ks,vs,pre,x4,rfl,hp,td⟩
  have lim:ks.length<LIM:=by
   have:=td.2.1
   have:pre.length<=R.length:=by rw[hp];simp
   simp[LIM];omega
  have kq:Qbt [.int r.1, .int r.2.1, .int r.2.2.1]=some oO:=by simp[kR3]
  refine⟨_,rfl,?_⟩
  simp(disch:=first|omega|rfl) [Qdx,Qhm]
  have kk:([.inl (r.1:Int), .inl (r.2.1:Int), .inl (r.2.2.1:Int)]:List Key)=kR3 r:=rfl
  rw[kk,Qfo lim]
  exact⟨_,_,pre++ [r],_,rfl,by simp[hp],td.put⟩
 .rintro _ ⟨ks,vs,pre,x4,rfl,hp,td⟩
  rw[List.append_nil]at hp
  subst hp
  obtain⟨NL,hn1,hn2⟩:=hN.n1
  simp(disch:=first|omega|rfl) [Qdz,v1,hn1,hn2]
  refine QaN (Qvj N ps h t last R S ks vs) ?_ ?_ ⟨.ow,[],R,x4,none, .inl rfl,rfl,rfl,by simp[exP]⟩
  .rintro p xs _-⟨kd,pre,L,x4,x6,hkd,rfl,hp,hL⟩
   have hpm:p∈ps:=by rw[hp];simp
   refine⟨_,rfl,?_⟩
   have e:exP (pre++ [p]) last R=exP pre last R++(match p.2.2 with|none=> []|some m=>(latR p m last).filter gS):=by simp[exP]
   cases q:p.2.2 with
   |none=>
    have p2:idxD rQ eV=some (.fz, .non):=by simp[Qan,q,optD]
    simp(disch:=first|omega|rfl) [Qbd,p2]
    exact⟨kd,pre++ [p],L,_,_,hkd,rfl,by simp[hp],by rw[e,q];simpa using hL⟩
   |some m=>
    have p2:idxD rQ eV=some (.fz, .int m):=by simp[Qan,q,optD]
    have lt:=QmI (p:=p) (m:=m) q (hm p hpm m q) hl
    have ll:=QkG (p:=p) (last:=last) (hm p hpm m q)
    have hc:=Qec (b:=QC 1) (c:=eOp QaF (eFn 1 Qah fZ) ap) (e:=varR 1) (ev:= [some (.fz, .dT ks vs),none]) (enc:=runD) (l:=latR p m last) gS runD (by simp[LIM];omega) (fun r _=>by
     have kq:Qbt [.int r.1, .int r.2.1, .int r.2.2.1]=some oO:=by simp[kR3]
     have hn:=QfQ (ks:=ks) (xs:=vs) kq
     refine⟨_,rfl,⟨.fz,?_⟩,fun _=>⟨.fz,by simp,?_⟩⟩
     .simp(disch:=first|omega|rfl) [Qhm,hn,td.2.2 r,newR]
     .simp(disch:=first|omega|rfl) [])
    have len:L.length+((latR p m last).filter gS).length<LIM:=by
     have a1:=QjY (last:=last) (R:=R) (ps:=pre) fun p' hp'=>hm p' (by rw[hp];simp[hp'])
     have a2:pre.length*last<=64*60:=Nat.mul_le_mul (by rw[hp]at hps;simp at hps;omega) hl
     have a3:=List.length_filter_le gS (latR p m last)
     rw[hL,List.length_append]
     simp only[LIM];omega
    have fin:R++exP (pre++ [p]) last R=L++(latR p m last).filter gS:=by rw[e,q,hL,List.append_assoc]
    rcases hkd with rfl|rfl
    .simp(disch:=first|omega|rfl) [Qbd,p2,lt,hc,len]
     exact⟨.fz,pre++ [p],L++(latR p m last).filter gS,x4,some (.fz,Qan p), .inr rfl,by simp,by simp[hp],fin.symm⟩
    .simp(disch:=first|omega|rfl) [Qbd,p2,lt,hc,len]
     exact⟨.fz,pre++ [p],L++(latR p m last).filter gS,x4,some (.fz,Qan p), .inr rfl,by simp,by simp[hp],fin.symm⟩
  .rintro _ ⟨kd,pre,L,x4,x6,hkd,rfl,hp,hL⟩
   rw[List.append_nil]at hp
   subst hp
   rw[←hL]at s1⊢
   simp(disch:=first|omega|rfl) [Qdy,s1,v2,s2]
   rfl
end
structure GdT (n:Nat)(ps:List Path)(last:Nat)(rs:List Run)(ss:List Sign):Prop where
 runs:RunsOk ps last rs
 due:∀s g m (l:Nat),(s,g,some m)∈ps->(l:Int)+m<=last->∃c,(s,g,l,c)∈rs
 sh:∀x∈ss,x.1<n
 snd:ss.Nodup
 snm:∀x∈ss,PyData.strOk x.2.2=true
 slen:ss.length<=100
structure Le (rs:List Run)(ss:List Sign)(rs':List Run)(ss':List Sign):Prop where
 r:∀x∈rs,∃c,c<=x.2.2.2/\(x.1,x.2.1,x.2.2.1,c)∈rs'
 s:∀x∈ss,x∈ss'
theorem Le.trans {r1 r2 r3:List Run}{s1 s2 s3:List Sign}(a:Le r1 s1 r2 s2)(b:Le r2 s2 r3 s3):Le r1 s1 r3 s3:=
 ⟨fun x hx=>by
  obtain⟨c,hc,h1⟩:=a.r x hx
  obtain⟨c',hc',h2⟩:=b.r _ h1
  exact⟨c',Nat.le_trans hc' hc,h2⟩,fun x hx=>b.s x (a.s x hx)⟩
theorem Le.of_mem {r1 r2:List Run}{s1 s2:List Sign}(h1:∀x∈r1,x∈r2)(h2:∀x∈s1,x∈s2):Le r1 s1 r2 s2:=⟨fun x hx=>⟨_,Nat.le_refl _,h1 x hx⟩,h2⟩
theorem Le.hears {rs rs':List Run}{ss ss':List Sign}(l:Le rs ss rs' ss'){h t v u:Nat}(x:Hears rs h t v u):Hears rs' h t v u:=by
 induction x with
 |self z=>exact .self z
 | @run r u hr _ hu ih=>
  obtain⟨c,hc,hm⟩:=l.r r hr
  exact Hears.run (r:=(r.1,r.2.1,r.2.2.1,c)) hm (ih.le hc) hu
def QA (ps:List Path)(last:Nat)(E:List Int)(rs:List Run):List Run:=srtR (srtR cX++exP ps last (srtR cX))
def Qq (E:List Int)(ss:List Sign):List Sign:=srtS (srtS eI)
theorem Qac {E:List Int}{ss:List Sign}{x:Sign}:x∈Qq E ss↔x∈ss/\hS E x=true:=by
 unfold Qq
 rw[srtS_perm.mem_iff,srtS_perm.mem_iff,List.mem_filter]
section
variable {n h t last:Nat}{ps:List Path}{rs:List Run}{ss:List Sign}{E:List Int}
theorem QG (hm:∀p∈ps,∀m,p.2.2=some m->1<=m){r:Run}:r∈QA ps last E rs↔(r∈rs/\hR E r=true)\/∃m,(r.1,r.2.1,some m)∈ps/\(r.2.2.2:Int)=r.2.2.1+m/\r.2.2.2<=last/\∀q∈rs,hR E q=true->rkey q≠rkey r:=by
 unfold QA
 rw[srtR_perm.mem_iff,List.mem_append,srtR_perm.mem_iff,List.mem_filter,Qic hm]
 refine or_congr .rfl (exists_congr fun m=>?_)
 refine and_congr .rfl (and_congr .rfl (and_congr .rfl ?_))
 constructor
 .intro z q hq hh e
  exact z (List.mem_map.2 ⟨q,srtR_perm.mem_iff.2 (List.mem_filter.2 ⟨hq,hh⟩),e⟩)
 .intro z hk
  obtain⟨q,hq,e⟩:=List.mem_map.1 hk
  obtain⟨h1,h2⟩:=List.mem_filter.1 (srtR_perm.mem_iff.1 hq)
  exact z q h1 h2 e
theorem Qjb (eo:EndsOk rs n h t E){r:Run}(hr:r.2.1<n):hR E r=true↔Hears rs h t r.2.1 r.2.2.2:=by
 simp only[hR,decide_eq_true_eq];exact eo.iff _ _ hr
theorem QoC (eo:EndsOk rs n h t E){x:Sign}(hx:x.1<n):hS E x=true↔Hears rs h t x.1 x.2.1:=by
 simp only[hS,decide_eq_true_eq];exact eo.iff _ _ hx
theorem GdT.all (g:GdT n ps last rs ss)(ok:NetOk n ps):∀r∈rs,r.1<n/\r.2.1<n/\r.2.2.1<r.2.2.2/\r.2.2.2<=last:=RunsOk.all ok g.runs
theorem Qes (ro:RunsOk ps last rs){a b:Run}(ha:a∈rs)(hb:b∈rs)(e:rkey a=rkey b):a=b:=by
 have nd:=ro.nd
 clear ro
 induction rs with
 |nil=>simp at ha
 |cons x xs ih=>
  rw[List.map_cons,List.nodup_cons]at nd
  rcases List.mem_cons.1 ha with rfl|ha
  .rcases List.mem_cons.1 hb with rfl|hb
   .rfl
   .exact absurd (List.mem_map.2 ⟨b,hb,e.symm⟩) nd.1
  .rcases List.mem_cons.1 hb with rfl|hb
   .exact absurd (List.mem_map.2 ⟨a,‹_›,e⟩) nd.1
   .exact ih ‹_› hb nd.2
theorem Qjc (ok:NetOk n ps){s g:Nat}{o o':Option Int}(h1:(s,g,o)∈ps)(h2:(s,g,o')∈ps):o=o':=by
 have nd:=ok.nd
 clear ok
 induction ps with
 |nil=>simp at h1
 |cons x xs ih=>
  rw[List.map_cons,List.nodup_cons]at nd
  rcases List.mem_cons.1 h1 with e1|h1
  .rcases List.mem_cons.1 h2 with e2|h2
   .rw[←e1]at e2;simpa using e2.symm
   .exact absurd (List.mem_map.2 ⟨_,h2,by rw[←e1];rfl⟩) nd.1
  .rcases List.mem_cons.1 h2 with e2|h2
   .exact absurd (List.mem_map.2 ⟨_,h1,by rw[←e2];rfl⟩) nd.1
   .exact ih h1 h2 nd.2
theorem GdT.by_ (ok:NetOk n ps)(g:GdT n ps last rs ss){s e l:Nat}{m:Int}(hp:(s,e,some m)∈ps)(hl:(l:Int)+m<=last):∃c:Nat,(c:Int)<=l+m/\(s,e,l,c)∈rs:=by
 obtain⟨c,hc⟩:=g.due s e m l hp hl
 obtain⟨o,ho,hle⟩:=g.runs.path _ hc
 exact⟨c,hle m (Qjc ok ho hp),hc⟩
theorem Qid (ok:NetOk n ps)(g:GdT n ps last rs ss):Le aF cb rs ss:=by
 have hm:∀p∈ps,∀m,p.2.2=some m->1<=m:=fun p hp m e=>(ok.m p hp m e).1
 refine⟨fun r hr=>?_,fun x hx=>(Qac.1 hx).1⟩
 rcases(QG hm).1 hr with⟨h1,_⟩|⟨m,hp,e1,e2,_⟩
 .exact⟨_,Nat.le_refl _,h1⟩
 .obtain⟨c,hc,hm⟩:=g.by_ ok hp (l:=r.2.2.1) aa
  exact⟨c,by omega,hm⟩
theorem Qjd {rs':List Run}{ss':List Sign}{E':List Int}(ok:NetOk n ps)(g:GdT n ps last rs ss)(g':GdT n ps last rs' ss')(eo:EndsOk rs n h t E)(eo':EndsOk rs' n h t E')(l:Le rs ss rs' ss'):Le aF cb (QA ps last E' rs') (Qq E' ss'):=by
 have hm:∀p∈ps,∀m,p.2.2=some m->1<=m:=fun p hp m e=>(ok.m p hp m e).1
 refine⟨fun r hr=>?_,fun x hx=>?_⟩
 .rcases(QG hm).1 hr with⟨h1,h2⟩|⟨m,hp,e1,e2,_⟩
  .obtain⟨c,hc,h3⟩:=l.r r h1
   have hn:=(g.all ok r h1).2.1
   refine⟨c,hc,(QG hm).2 (.inl ⟨h3,(Qjb (r:=(r.1,r.2.1,r.2.2.1,c)) eo' hn).2 ?_⟩)⟩
   exact Hears.le (l.hears ((Qjb eo hn).1 h2)) hc
  .obtain⟨c,hc,h3⟩:=g'.by_ ok hp (l:=r.2.2.1) aa
   by_cases z:hR E' (r.1,r.2.1,r.2.2.1,c)=true
   .exact⟨c,by omega,(QG hm).2 (.inl ⟨h3,z⟩)⟩
   .refine⟨r.2.2.2,Nat.le_refl _,(QG hm).2 (.inr ⟨m,hp,e1,e2,fun q hq hh e=>z ?_⟩)⟩
    have:=Qes g'.runs hq h3 (by rw[e];rfl)
    rw[←this];exact hh
 .obtain⟨h1,h2⟩:=Qac.1 hx
  exact Qac.2 ⟨l.s x h1,(QoC eo' (g.sh x h1)).2 (l.hears ((QoC eo (g.sh x h1)).1 h2))⟩
theorem QoD {α:Type} [DecidableEq α]:∀{l m:List α},l.Nodup->(∀x∈l,x∈m)->l.length<=m.length
 | [],_,_,_=>Nat.zero_le _
 |x::l,m,nd,h=>by
  rw[List.nodup_cons]at nd
  have hx:x∈m:=h x List.mem_cons_self
  have:=QoD (l:=l) (m:=m.erase x) nd.2 fun y hy=>(List.mem_erase_of_ne (by rintro rfl;exact nd.1 hy)).2 (h y (List.mem_cons_of_mem _ hy))
  rw[List.length_erase_of_mem hx]at this
  have:0<m.length:=List.length_pos_of_mem hx
  simp only[List.length_cons];omega
def Qcf (ps:List Path)(last:Nat):List (Nat×Nat×Nat):=ps.flatMap fun p=>(List.range last).map fun l=>(p.1,p.2.1,l)
theorem Qhn:(Qcf ps last).length=ps.length*last:=by
 unfold Qcf
 induction ps with
 |nil=>simp
 |cons p ps ih=>simp only[List.flatMap_cons,List.length_append,List.length_map,List.length_range,ih,List.length_cons,Nat.add_mul];omega
theorem QeT (ro:RunsOk ps last rs){r:Run}(hr:r∈rs):rkey r∈Qcf ps last:=by
 obtain⟨o,ho,_⟩:=ro.path r hr
 have:=ro.turn r hr
 unfold Qcf
 exact List.mem_flatMap.2 ⟨_,ho,List.mem_map.2 ⟨r.2.2.1,List.mem_range.2 aa,rfl⟩⟩
theorem Qn2 (ro:RunsOk ps last rs):rs.length<=ps.length*last:=by
 rw[←Qhn,←List.length_map (f:=rkey)]
 exact QoD ro.nd fun k hk=>by
  obtain⟨r,hr,rfl⟩:=List.mem_map.1 hk
  exact QeT ro hr
theorem QR (ok:NetOk n ps)(g:GdT n ps last rs ss):GdT n ps last aF cb:=by
 have hm:∀p∈ps,∀m,p.2.2=some m->1<=m:=fun p hp m e=>(ok.m p hp m e).1
 have pm:(Qq E ss).Perm eI:=srtS_perm.trans srtS_perm
 have pv:(srtR cX).Perm cX:=srtR_perm
 refine⟨⟨fun r hr=>?_,fun r hr=>?_,?_⟩,fun s e m l hp hl=>?_,fun x hx=>g.sh x (Qac.1 hx).1,pm.nodup_iff.2 uT,fun x hx=>g.snm x (Qac.1 hx).1,?_⟩
 .rcases(QG hm).1 hr with⟨h1,h2⟩|⟨m,hp,e1,e2,_⟩
  .exact g.runs.path r h1
  .exact⟨_,hp,fun m' e=>by cases e;omega⟩
 .rcases(QG hm).1 hr with⟨h1,h2⟩|⟨m,hp,e1,e2,_⟩
  .exact g.runs.turn r h1
  .have:=hm _ hp m rfl
   exact⟨by omega,e2⟩
 .unfold QA
  rw[(srtR_perm.map rkey).nodup_iff,List.map_append,List.nodup_append]
  refine⟨(pv.map rkey).nodup_iff.2 mq,QmJ hm ok.nd,fun a ha b hb z=>?_⟩
  subst z
  obtain⟨r',hr',e'⟩:=List.mem_map.1 hb
  obtain⟨m',_,_,_,h4⟩:=(Qic hm).1 hr'
  exact h4 (e'▸ha)
 .by_cases z:∃q∈rs,hR E q=true/\rkey q=(s,e,l)
  .obtain⟨q,hq,hh,ek⟩:=z
   simp only[rkey,Prod.mk.injEq]at ek
   obtain⟨rfl,rfl,rfl⟩:=ek
   exact⟨q.2.2.2,(QG hm).2 (.inl ⟨hq,hh⟩)⟩
  .have:=hm _ hp m rfl
   refine⟨l+m.toNat,(QG hm).2 (.inr ⟨m,hp,by simp;omega,by simp;omega,fun q hq hh ek=>z ⟨q,hq,hh,ek⟩⟩)⟩
 .rw[pm.length_eq];exact Nat.le_trans (List.length_filter_le ..) g.slen
end
theorem Qie {α:Type} [DecidableEq α]{l m:List α}(hl:l.Nodup)(hm:m.Nodup)(h:∀x,x∈l↔x∈m):l.Perm m:=(List.perm_ext_iff_of_nodup hl hm).2 h
theorem Qif {α:Type}{f g:α->Nat}:∀{l:List α},(∀k∈l,f k<=g k)->(l.map f).sum<=(l.map g).sum
 | [],_=>Nat.le_refl _
 |x::l,h=>by
  have:=Qif (l:=l) fun k hk=>h k (by simp[hk])
  have:=h x al
  simp only[List.map_cons,List.sum_cons];omega
theorem QmK {α:Type}{f g:α->Nat}:∀{l:List α},(∀k∈l,f k<=g k)->(∃k∈l,f k<g k)->(l.map f).sum<(l.map g).sum
 | [],_,⟨k,hk,_⟩=>by cases hk
 |x::l,h,⟨k,hk,hlt⟩=>by
  have a:=h x al
  simp only[List.map_cons,List.sum_cons]
  rcases List.mem_cons.1 hk with rfl|hk
  .have:=Qif (l:=l) fun k hk=>h k (by simp[hk])
   omega
  .have:=QmK (l:=l) (fun k hk=>h k (by simp[hk])) ⟨k,hk,hlt⟩
   omega
def QsF (ps:List Path)(r:Run):Prop:=∃m,(r.1,r.2.1,some m)∈ps/\(r.2.2.2:Int)=r.2.2.1+m
open Classical in
def wtR (ps:List Path)(rs:List Run)(k:Nat×Nat×Nat):Nat:=if∃r∈rs,rkey r=k then(if∃r∈rs,rkey r=k/\QsF ps r then 1 else 2)else 0
def potR (ps:List Path)(last:Nat)(rs:List Run)(ss:List Sign):Nat:=((Qcf ps last).map (wtR ps rs)).sum+ss.length
section
variable {n h t last:Nat}{ps:List Path}{rs rs':List Run}{ss ss':List Sign}{E:List Int}
theorem QsG {k:Nat×Nat×Nat}:wtR ps rs k<=2:=by unfold wtR;split<;>(try split)<;>omega
theorem Qqq (hs:ss.length<=100):potR ps last rs ss<=2*(ps.length*last)+100:=by
 have a:((Qcf ps last).map (wtR ps rs)).sum<=((Qcf ps last).map fun _=>2).sum:=Qif fun k _=>QsG
 have b:((Qcf ps last).map fun _=>2).sum=2*(Qcf ps last).length:=by
  induction Qcf ps last with
  |nil=>rfl
  |cons x l ih=>simp only[List.map_cons,List.sum_cons,List.length_cons,ih];omega
 rw[b,Qhn]at a
 unfold potR;omega
def Srt (rs:List Run)(ss:List Sign):Prop:=srtR rs=rs/\srtS ss=ss
theorem QjZ {a b:List Run}(ha:srtR a=a)(hb:srtR b=b)(na:a.Nodup)(nb:b.Nodup)(h:∀x,x∈a↔x∈b):a=b:=by
 have:=QgF (Qie na nb h)
 rw[ha,hb]at this;exact this
theorem Qn3 {a b:List Sign}(ha:srtS a=a)(hb:srtS b=b)(na:a.Nodup)(nb:b.Nodup)(h:∀x,x∈a↔x∈b):a=b:=by
 have:=QgG (Qie na nb h)
 rw[ha,hb]at this;exact this
theorem Qdq:Srt aF cb:=⟨QgF srtR_perm,QgG srtS_perm⟩
theorem Qqr (ok:NetOk n ps)(g:GdT n ps last rs ss){k:Nat×Nat×Nat}:wtR ps aF k<=wtR ps rs k:=by
 have hm:∀p∈ps,∀m,p.2.2=some m->1<=m:=fun p hp m e=>(ok.m p hp m e).1
 unfold wtR
 by_cases c:∃r∈QA ps last E rs,rkey r=k
 .rw[if_pos c]
  obtain⟨r,hr,rfl⟩:=c
  obtain⟨c',hc',hy⟩:=(Qid (E:=E) ok g).r r hr
  rw[if_pos (c:=∃q∈rs,rkey q=rkey r) ⟨_,hy,rfl⟩]
  by_cases l:∃q∈QA ps last E rs,rkey q=rkey r/\QsF ps q
  .rw[if_pos l];split<;>omega
  .rw[if_neg l,if_neg]
   .omega
   .rintro⟨q,hq,e,hl⟩
    rcases(QG hm).1 hr with⟨h1,_⟩|⟨m,hp,e1,e2,_⟩
    .obtain rfl:=Qes g.runs hq h1 e
     exact l ⟨q,hr,rfl,hl⟩
    .exact l ⟨r,hr,rfl,m,hp,e1⟩
 .rw[if_neg c];exact Nat.zero_le _
theorem Qn4 (ok:NetOk n ps)(g:GdT n ps last rs ss)(st:Srt rs ss)(ne:¬(QA ps last E rs=rs/\Qq E ss=ss)):potR ps last aF cb<potR ps last rs ss:=by
 have hm:∀p∈ps,∀m,p.2.2=some m->1<=m:=fun p hp m e=>(ok.m p hp m e).1
 have g':=QR (E:=E) ok g
 have hle:=fun k (_:k∈Qcf ps last)=>Qqr (E:=E) (k:=k) ok g
 have sl:(Qq E ss).length<=ss.length:=by
  rw[show(Qq E ss).length=(ss.filter jV).length from(srtS_perm.trans srtS_perm).length_eq]
  exact List.length_filter_le ..
 by_cases c:Qq E ss=ss
 .have ne:¬QA ps last E rs=rs:=fun z=>ne ⟨z,c⟩
  have:∃k∈Qcf ps last,wtR ps aF k<wtR ps rs k:=by
   apply Classical.byContradiction
   intro no
   have no:∀r,r∈rs\/r∈QA ps last E rs->wtR ps aF gR=wtR ps rs gR:=fun r hr=>by
    have hk:rkey r∈Qcf ps last:=hr.elim (fun z=>QeT g.runs z) (fun z=>QeT g'.runs z)
    have a:=hle _ hk
    have b:¬wtR ps aF gR<wtR ps rs gR:=fun z=>no ⟨_,hk,z⟩
    omega
   refine ne ?_
   refine QjZ (Qdq (ss:=ss)).1 st.1 kA oK fun r=>?_
   have sub:∀r,r∈QA ps last E rs->r∈rs:=fun r hr=>by
    rcases(QG hm).1 hr with⟨h1,_⟩|⟨m,hp,e1,e2,_⟩
    .exact h1
    .obtain⟨c',hc',hy⟩:=(Qid (E:=E) ok g).r r hr
     have w:=no r (.inr hr)
     unfold wtR at w
     rw[if_pos ⟨r,hr,rfl⟩,if_pos ⟨r,hr,rfl,m,hp,e1⟩,if_pos ⟨_,hy,rfl⟩]at w
     split at w
     .rename_i l
      obtain⟨q,hq,e,m',hp',e'⟩:=l
      simp only[rkey,Prod.mk.injEq]at e
      obtain⟨z1,z2,z3⟩:=e
      rw[z1,z2]at hp'
      have:=Qjc ok hp hp'
      cases this
      have:q=r:=by
       obtain⟨q1,q2,q3,q4⟩:=q
       obtain⟨r1,r2,r3,r4⟩:=r
       simp only at z1 z2 z3 e1 e'
       subst z1;subst z2;subst z3
       have:q4=r4:=by omega
       rw[this]
      exact this▸hq
     .omega
   refine⟨sub r,fun hr=>?_⟩
   have w:=no r (.inl hr)
   unfold wtR at w
   rw[if_pos (c:=∃q∈rs,rkey q=rkey r) ⟨r,hr,rfl⟩]at w
   by_cases c2:∃q∈QA ps last E rs,rkey q=rkey r
   .obtain⟨q,hq,e⟩:=c2
    exact Qes g.runs (sub q hq) hr e▸hq
   .rw[if_neg c2]at w
    split at w<;>omega
  have a:=QmK hle this
  unfold potR;omega
 .have lt:(Qq E ss).length<ss.length:=by
   rcases Nat.lt_or_ge (Qq E ss).length ss.length with z|z
   .exact z
   .refine absurd ?_ c
    have e1:(Qq E ss).length=(ss.filter jV).length:=(srtS_perm.trans srtS_perm).length_eq
    have e2:ss.filter jV=ss:=List.filter_sublist.eq_of_length (by have:=List.length_filter_le jV ss;omega)
    unfold Qq
    rw[e2,st.2,st.2]
  have a:=Qif hle
  unfold potR;omega
theorem Qqs (ok:NetOk n ps)(g:GdT n ps last rs ss)(eo:EndsOk rs n h t E){v u w l:Nat}(x:Hears rs h t v u)(y:Hears rs v u w l):Hears aF v u w l:=by
 have hm:∀p∈ps,∀m,p.2.2=some m->1<=m:=fun p hp m e=>(ok.m p hp m e).1
 induction y with
 |self h=>exact .self h
 | @run r l h1 h2 h3 ih=>exact .run ((QG hm).2 (.inl ⟨h1,(Qjb eo (g.all ok _ h1).2.1).2 (x.trans h2)⟩)) ih h3
theorem Qje (ok:NetOk n ps)(g:GdT n ps last rs ss)(eo:EndsOk rs n h t E):EndsOk aF n h t E:=
 ⟨eo.len,eo.low,fun v u hv=>(eo.iff v u hv).trans ⟨fun x=>Qqs ok g eo (.self aw) x,fun x=>(Qid (ss:=ss) ok g).hears x⟩⟩
theorem Qjf (ok:NetOk n ps)(g:GdT n ps last rs ss)(eo:EndsOk rs n h t E){r:Run}(hr:r∈QA ps last E rs)(hh:hR E r=true):r∈rs:=by
 have hm:∀p∈ps,∀m,p.2.2=some m->1<=m:=fun p hp m e=>(ok.m p hp m e).1
 rcases(QG hm).1 hr with⟨h1,_⟩|⟨m,hp,e1,e2,e3⟩
 .exact h1
 .obtain⟨c,hc,hq⟩:=g.by_ ok hp (l:=r.2.2.1) aa
  have hg:=(g.all ok _ hq).2.1
  refine absurd rfl (e3 (r.1,r.2.1,r.2.2.1,c) hq ?_)
  have z:=(Qjb eo (r:=r) hg).1 hh
  exact(Qjb eo (r:=(r.1,r.2.1,r.2.2.1,c)) hg).2 (z.le (by show c<=_;omega))
theorem Qlj (ok:NetOk n ps)(g:GdT n ps last rs ss)(eo:EndsOk rs n h t E):QA ps last E aF=QA ps last E rs/\Qq E cb=Qq E ss:=by
 have hm:∀p∈ps,∀m,p.2.2=some m->1<=m:=fun p hp m e=>(ok.m p hp m e).1
 have g':=QR (E:=E) ok g
 have g'':=QR (E:=E) ok g'
 constructor
 .refine QjZ (Qdq (ss:=ss)).1 (Qdq (ss:=ss)).1 (Qa8 g''.runs.nd) kA fun r=>?_
  rw[QG hm]
  constructor
  .rintro(⟨h1,_⟩|⟨m,hp,e1,e2,e3⟩)
   .exact h1
   .exact(QG hm).2 (.inr ⟨m,hp,e1,e2,fun q hq hh=>e3 q ((QG hm).2 (.inl ⟨hq,hh⟩)) hh⟩)
  .intro hr
   by_cases z:hR E r=true
   .exact .inl ⟨hr,z⟩
   .rcases(QG hm).1 hr with⟨_,h2⟩|⟨m,hp,e1,e2,e3⟩
    .exact absurd h2 z
    .exact .inr ⟨m,hp,e1,e2,fun q hq hh=>e3 q (Qjf ok g eo hq hh) hh⟩
 .have e:(Qq E ss).filter jV=Qq E ss:=List.filter_eq_self.2 fun x hx=>(Qac.1 hx).2
  show srtS (srtS ((Qq E ss).filter jV))=_
  rw[e,(Qdq (ps:=ps) (last:=last) (E:=E) (rs:=rs) (ss:=ss)).2,(Qdq (ps:=ps) (last:=last) (E:=E) (rs:=rs) (ss:=ss)).2]
def Fx (n:Nat)(ps:List Path)(last t:Nat)(rs:List Run)(ss:List Sign)(h:Nat):Prop:=∀E,EndsOk rs n h t E->QA ps last E rs=rs/\Qq E ss=ss
theorem Qqt (ok:NetOk n ps)(g:GdT n ps last rs ss)(eo:EndsOk rs n h t E):Fx n ps last t aF cb h:=fun E' eo'=>by
 obtain rfl:=eo'.uniq (Qje ok g eo)
 exact Qlj ok g eo
theorem Le.anti (st:Srt rs ss)(st':Srt rs' ss')(g:GdT n ps last rs ss)(g':GdT n ps last rs' ss')(a:Le rs ss rs' ss')(b:Le rs' ss' rs ss):rs=rs'/\ss=ss':=by
 have key:∀{r1 r2:List Run} {s1 s2:List Sign},GdT n ps last r1 s1->Le r1 s1 r2 s2->Le r2 s2 r1 s1->∀x∈r1,x∈r2:=fun{r1 r2 s1 s2} g a b x hx=>by
  obtain⟨c,hc,hm⟩:=a.r x hx
  obtain⟨c',hc',hm'⟩:=b.r _ hm
  have e:=Qes g.runs hm' hx rfl
  have:c=x.2.2.2:=by rw[←e]at hc⊢;simp only at hc hc'⊢;omega
  rw[this]at hm;exact hm
 constructor
 .exact QjZ st.1 st'.1 oK kA fun x=>⟨key g a b x,key g' b a x⟩
 .exact Qn3 st.2 st'.2 g.snd g'.snd fun x=>⟨a.s x,b.s x⟩
end
section
variable {n h t last:Nat}{ps:List Path}{N T H:D}{rs rs' rs0:List Run}{ss ss' ss0:List Sign}{E:List Int}{hs:List Nat}
structure HsX (hs:List Nat)(H:D):Prop where
 len:lenD [H]=some (.fz, .int (hs.length:Nat))
 at_:∀(p h:Nat),hs[p]?=some h->idxD H (.int (p:Nat))=some (.fz, .int (h:Nat))
theorem QsH:HsX hs (.lst (hs.map fun(h:Nat)=>D.int h)):=⟨by simp,fun p h e=>by
 have:=Qc2 (xs:=hs.map fun(h:Nat)=>D.int h) (i:=p) (d:= .int (h:Nat)) (by rw[List.getElem?_map,e];rfl)
 simp[this]⟩
theorem Qvk:HsX hs (.scr (hs.map fun(h:Nat)=>D.int h)):=⟨by simp,fun p h e=>by
 have:=Qc2 (xs:=hs.map fun(h:Nat)=>D.int h) (i:=p) (d:= .int (h:Nat)) (by rw[List.getElem?_map,e];rfl)
 simp[this]⟩
theorem GdT.len (g:GdT n ps last rs ss)(hps:ps.length<=64)(hl:last<=24):rs.length<=1536:=Nat.le_trans (Qn2 g.runs) (Nat.mul_le_mul hps hl)
theorem GdT.tok (g:GdT n ps last rs ss)(ok:NetOk n ps)(hps:ps.length<=64)(hl:last<=24):TaleOk n last rs ss:=⟨g.all ok,g.runs.nd,by have:=g.len hps hl;omega,g.sh,g.snd,g.slen⟩
theorem GdT.ends (g:GdT n ps last rs ss)(ok:NetOk n ps)(hl:last<=24)(ht:t<=last)(hh:h<n):∃E,EndsOk rs n h t E:=by
 obtain⟨E,e,_⟩:=QmF (ps:=ps) (ss:=ss) ok.n1 ok.n8 aa ht hh (g.all ok)
 exact⟨E,e⟩
theorem Qjg (hN:NetX n ps N)(hT:TaleX last rs ss T)(ok:NetOk n ps)(hps:ps.length<=64)(hl:last<=24)(ht:t<=last)(hh:h<n)(g:GdT n ps last rs ss)(eo:EndsOk rs n h t E):
  QaA [N,T,QaH h t]= .ok .fz (Qp last aF cb):=by
 have tk:=g.tok ok hps hl
 have s1:=Qqo hN hT ok.n1 ok.n8 aa ht hh tk eo
 have l0:=g.len hps hl
 have l1:ps.length*last<=64*24:=Nat.mul_le_mul hps hl
 have pv:(srtR cX).Perm cX:=srtR_perm
 have pw:(srtS eI).Perm eI:=srtS_perm
 have l2:=List.length_filter_le rA rs
 have l3:=List.length_filter_le jV ss
 have l4:=g.slen
 have s2:=Qli (h:=h) (t:=t) (R:=srtR cX) (S:=srtS eI) hN ok hps (by omega:last<=60) (by rw[pv.length_eq];omega) ((pv.map rkey).nodup_iff.2 mq) (by rw[pw.length_eq];omega) (pw.nodup_iff.2 uT)
 refine Qt (QaA [N,T,QaH h t]) rfl ?_
 simp(disch:=first|omega|rfl) [ev0,QeJ,s1,hT.t0]
 unfold QcJ
 rw[s2]
 simp(disch:=first|omega|rfl) []
 rfl
theorem Qlk (x:TaleX last rs ss T)(nd:(rs.map rkey).Nodup)(hn:rs.length<=5000)(snd:ss.Nodup)(hs:ss.length<=5000):Qbi [T]= .ok .fz (Qp last jd jc):=by
 obtain⟨L1,a1,a2,_⟩:=x.t1
 obtain⟨L2,b1,b2,_⟩:=x.t2
 have s1:=Qer (Qa8 nd) hn
 have s2:=Qdp snd hs
 refine Qt (Qbi [T]) rfl ?_
 simp(disch:=first|omega|rfl) [ev0,QdR,x.t0,a1,b1,a2,b2,s1,s2]
 rfl
theorem QkI (hn:∀x∈ss,PyData.strOk x.2.2=true):pl 60 cI=true:=by
 have h1:plL 58 b6=true:=Qaz.2 fun d hd=>by
  obtain⟨x,hx,rfl⟩:=List.mem_map.1 hd
  simp[runD,pl,plL]
 have h2:plL 58 cn=true:=Qaz.2 fun d hd=>by
  obtain⟨x,hx,rfl⟩:=List.mem_map.1 hd
  simp[Qx,pl,plL,hn x hx]
 simp[Qp,pl,plL,h1,h2]
theorem Qn5 {a b:Run}(e:runD a=runD b):a=b:=by
 obtain⟨a1,a2,a3,a4⟩:=a
 obtain⟨b1,b2,b3,b4⟩:=b
 simp[runD]at e
 simp only[Prod.mk.injEq];omega
theorem Qjh:Qp last rs ss=Qp last rs' ss'↔rs=rs'/\ss=ss':=by
 constructor
 .intro e
  simp only[Qp,D.tup.injEq,List.cons.injEq,D.lst.injEq,and_true,true_and]at e
  exact⟨List.map_inj_right (fun _ _=>Qn5)|>.1 e.1,List.map_inj_right (fun _ _=>Qi8.1)|>.1 e.2⟩
 .rintro⟨rfl,rfl⟩;rfl
structure Cm (n:Nat)(ps:List Path)(last t:Nat)(rs0:List Run)(ss0:List Sign)(hs:List Nat)(rs:List Run)(ss:List Sign):Prop where
 gd:GdT n ps last rs ss
 st:Srt rs ss
 le:Le rs ss rs0 ss0
 fx:∀h∈hs,Fx n ps last t rs ss h
 top:∀rs' ss',GdT n ps last rs' ss'->Le rs' ss' rs0 ss0->(∀h∈hs,Fx n ps last t rs' ss' h)->Le rs' ss' rs ss
theorem Cm.uniq {hs':List Nat}(a:Cm n ps last t rs0 ss0 hs rs ss)(b:Cm n ps last t rs0 ss0 hs' rs' ss')(e:∀h,h∈hs↔h∈hs'):rs=rs'/\ss=ss':=
 Le.anti a.st b.st a.gd b.gd (b.top _ _ a.gd a.le fun h hh=>a.fx h ((e h).2 hh)) (a.top _ _ b.gd b.le fun h hh=>b.fx h ((e h).1 hh))
structure Way (n:Nat)(ps:List Path)(last t:Nat)(rs0:List Run)(ss0:List Sign)(hs:List Nat)(p k:Nat)(rs:List Run)(ss:List Sign):Prop where
 gd:GdT n ps last rs ss
 st:Srt rs ss
 le:Le rs ss rs0 ss0
 pl:p<hs.length
 kl:k<=hs.length
 fx:∀(q j h:Nat),hs[q]?=some h->j<k->(q+j+1=p\/q+j+1=p+hs.length)->Fx n ps last t rs ss h
 top:∀rs' ss',GdT n ps last rs' ss'->Le rs' ss' rs0 ss0->(∀h∈hs,Fx n ps last t rs' ss' h)->Le rs' ss' rs ss
theorem Way.end_ {p:Nat}(w:Way n ps last t rs0 ss0 hs p hs.length rs ss):Cm n ps last t rs0 ss0 hs rs ss:=
 ⟨w.gd,w.st,w.le,fun h hh=>by
  obtain⟨q,hq⟩:=List.mem_iff_getElem?.1 hh
  have:=(List.getElem?_eq_some_iff.1 hq).1
  have:=w.pl
  by_cases c:q<p
  .exact w.fx q (p-1-q) h hq aa aa
  .exact w.fx q (p+hs.length-1-q) h hq aa aa,w.top⟩
theorem QoE {p L:Nat}(h:p<L):((p:Int)+1) %(L:Int)=(((p+1) %L:Nat):Int)/\(p+1) %L<L/\((p+1<L/\(p+1) %L=p+1)\/(p+1=L/\(p+1) %L=0)):=by
 refine⟨by simp,Nat.mod_lt _ aa,?_⟩
 by_cases c:p+1=L
 .exact .inr ⟨c,by rw[c,Nat.mod_self]⟩
 .exact .inl ⟨by omega,Nat.mod_eq_of_lt aa⟩
theorem Way.same {p k:Nat}(w:Way n ps last t rs0 ss0 hs p k rs ss)(hk:k<hs.length)(hq:hs[p]?=some h)(f:Fx n ps last t rs ss h):Way n ps last t rs0 ss0 hs ((p+1) %hs.length) (k+1) rs ss:=by
 obtain⟨_,a,b⟩:=QoE w.pl
 refine⟨w.gd,w.st,w.le,a,hk,fun q j h' hq' hj e=>?_,w.top⟩
 have ql:=(List.getElem?_eq_some_iff.1 hq').1
 by_cases c:j=0
 .have:q=p:=by omega
  subst this
  rw[hq]at hq';cases hq'
  exact f
 .exact w.fx q (j-1) h' hq' aa aa
theorem Way.less {p k:Nat}(ok:NetOk n ps)(hl:last<=24)(ht:t<=last)(hn:∀h∈hs,h<n)(w:Way n ps last t rs0 ss0 hs p k rs ss)(hq:hs[p]?=some h)(eo:EndsOk rs n h t E):Way n ps last t rs0 ss0 hs ((p+1) %hs.length) 1 aF cb:=by
 obtain⟨_,a,b⟩:=QoE w.pl
 have hm:h∈hs:=List.mem_iff_getElem?.2 ⟨_,hq⟩
 refine⟨QR ok w.gd,Qdq,(Qid ok w.gd).trans w.le,a,by have:=w.pl;omega,fun q j h' hq' hj e=>?_,fun rs' ss' g' l' f'=>?_⟩
 .have ql:=(List.getElem?_eq_some_iff.1 hq').1
  have:q=p:=by omega
  subst this
  rw[hq]at hq';cases hq'
  exact Qqt ok w.gd eo
 .obtain⟨E',eo'⟩:=g'.ends ok hl ht (hn h hm)
  have m:=Qjd ok g' w.gd eo' eo (w.top rs' ss' g' l' f')
  rw[(f' h hm E' eo').1,(f' h hm E' eo').2]at m
  exact m
def StE (S0:D)(St:List D)(c:D):Prop:=(St= []/\c=S0)\/∃P,∃h:Int,St=P++ [.tup [.int h,c]]
theorem Qig (g:GdT n ps last rs ss):GdT n ps last jd jc:=by
 have pr:(srtR rs).Perm rs:=srtR_perm
 have pq:(srtS ss).Perm ss:=srtS_perm
 refine⟨⟨fun r hr=>g.runs.path r (pr.mem_iff.1 hr),fun r hr=>g.runs.turn r (pr.mem_iff.1 hr),(pr.map rkey).nodup_iff.2 g.runs.nd⟩,fun s e m l h1 h2=>?_,fun x hx=>g.sh x (pq.mem_iff.1 hx),pq.nodup_iff.2 g.snd,fun x hx=>g.snm x (pq.mem_iff.1 hx),by rw[pq.length_eq];exact g.slen⟩
 obtain⟨c,hc⟩:=g.due s e m l h1 h2
 exact⟨c,pr.mem_iff.2 hc⟩
theorem way0 (g:GdT n ps last rs ss)(hp:0<hs.length):Way n ps last t rs ss hs 0 0 jd jc:=
 ⟨Qig g,⟨QgF srtR_perm,QgG srtS_perm⟩,Le.of_mem (fun x hx=>srtR_perm.mem_iff.1 hx) (fun x hx=>srtS_perm.mem_iff.1 hx),hp,by omega,fun q j h _ hj _=>by omega,fun rs' ss' g' l f=>l.trans (Le.of_mem (fun x hx=>srtR_perm.mem_iff.2 hx) (fun x hx=>srtS_perm.mem_iff.2 hx))⟩
end
section
variable {n t last:Nat}{ps:List Path}{N T H:D}{rs0:List Run}{ss0:List Sign}{hs:List Nat}
def InvQ (Q:List D->List Run->List Sign->Prop)(N T H:D)(n:Nat)(ps:List Path)(last t:Nat)(rs0:List Run)(ss0:List Sign)(hs:List Nat)(m:Nat)(ev:Ev):Prop:=∃rs ss p k St x8 x9,ev= [some (.fz,N),some (.fz,T),some (.fz,H),some (.fz, .int t),some (.ow, .lst St),some (.fz,Qp last rs ss),some (.fz, .int (p:Nat)),some (.fz, .int (k:Nat)),x8,x9]/\Way n ps last t rs0 ss0 hs p k rs ss/\Q St rs ss/\m=potR ps last rs ss*rg+(hs.length-k)/\St.length+potR ps last rs ss<=4000
def StQ (Q:List D->List Run->List Sign->Prop)(n:Nat)(ps:List Path)(last t:Nat)(rs0:List Run)(ss0:List Sign)(hs:List Nat)(r:R):Prop:=∃St rs ss,r= .ok .ow (.lst St)/\Cm n ps last t rs0 ss0 hs rs ss/\Q St rs ss
theorem Qji {Q:List D->List Run->List Sign->Prop}(q0:Q [] o3 o2)(qs:∀St rs ss h E,Q St rs ss->GdT n ps last rs ss->Srt rs ss->h∈hs->EndsOk rs n h t E->Q (St++ [.tup [.int (h:Nat),Qp last aF cb]]) aF cb)(hN:NetX n ps N)(hT:TaleX last rs0 ss0 T)(hH:HsX hs H)(ok:NetOk n ps)(hps:ps.length<=64)(hl:last<=24)(ht:t<=last)(hn:∀h∈hs,h<n)(h0:0<hs.length)(h8:hs.length<=8)(g:GdT n ps last rs0 ss0):
  StQ Q n ps last t rs0 ss0 hs nC:=by
 have od:=Qlk hT g.runs.nd (by have:=g.len hps hl;omega) g.snd (by have:=g.slen;omega)
 have hlen:=hH.len
 have L0:(0:Int)<hs.length:=by omega
 refine Qt (motive:=StQ Q n ps last t rs0 ss0 hs) nC rfl ?_
 obtain⟨gg,hgg⟩:∃gg,gg=Q7:=⟨_,rfl⟩
 simp(disch:=first|omega|rfl) [ev0,Qbo,od]
 rw[←hgg]
 have g0:=Qig g
 have pt:=Qqq (ps:=ps) (last:=last) (rs:=srtR rs0) g0.slen
 have l1:ps.length*last<=64*24:=Nat.mul_le_mul hps hl
 have pb:potR ps last o3 o2<=3172:=by omega
 refine Qfq (InvQ Q N T H n ps last t rs0 ss0 hs) ?_ (m:=potR ps last o3 o2*rg+(hs.length-0)) ⟨srtR rs0,srtS ss0,0,0,[],none,none,rfl,way0 g h0,q0,rfl,by simp;omega⟩ ?_
 .rintro m _ ⟨rs,ss,p,k,St,x8,x9,rfl,w,se,rfl,hS⟩
  by_cases c:k=hs.length
  .subst c
   refine .inr ⟨.fz,by simp(disch:=first|omega|rfl) [hlen],?_⟩
   simp(disch:=first|omega|rfl) []
   exact⟨St,rs,ss,rfl,w.end_,se⟩
  .have hk:k<hs.length:=by have:=w.kl;omega
   obtain⟨h,hq⟩:∃h,hs[p]?=some h:=⟨_,List.getElem?_eq_getElem w.pl⟩
   have hm:h∈hs:=List.mem_iff_getElem?.2 ⟨_,hq⟩
   obtain⟨E,eo⟩:=w.gd.ends ok hl ht (hn h hm)
   have sl:=Qjg hN QgD ok hps hl ht (hn h hm) w.gd eo
   have g':=QR (E:=E) ok w.gd
   have eq:=QcC (QkI (last:=last) (rs:=QA ps last E rs) g'.snm) (QkI (last:=last) (rs:=rs) w.gd.snm)
   have ix:=hH.at_ p h hq
   have sp:D.tup [.int h, .int t]=QaH h t:=rfl
   refine .inl ⟨.fz,by simp(disch:=first|omega|rfl) [hlen,hk],?_⟩
   rw[hgg]
   by_cases d:QA ps last E rs=rs/\Qq E ss=ss
   .have de:decide (Qp last aF cb=Qp last rs ss)=true:=by simpa using Qjh.2 d
    rw[de]at eq
    simp(disch:=first|omega|rfl) [Q7,ix,sp,sl,eq,QaB,hlen,QhL L0]
    refine⟨_,?_,rs,ss,(p+1) %hs.length,k+1,St,some (.fz, .int (h:Nat)),some (.fz,Qp last aF cb),by simp,w.same hk hq fun E' eo'=>by obtain rfl:=eo'.uniq eo;exact d,se,rfl,hS⟩
    omega
   .have de:decide (Qp last aF cb=Qp last rs ss)=false:=by simpa using fun z=>d (Qjh.1 z)
    have lt:=Qn4 ok w.gd w.st d
    have lim:St.length<LIM:=by simp only[LIM];omega
    rw[de]at eq
    simp(disch:=first|omega|rfl) [Q7,ix,sp,sl,eq,QaB,hlen,QhL L0,lim]
    refine⟨_,?_,QA ps last E rs,Qq E ss,(p+1) %hs.length,1,St++ [.tup [.int h,Qp last aF cb]],some (.fz, .int (h:Nat)),some (.fz,Qp last aF cb),by simp,w.less ok hl ht hn hq eo,qs _ _ _ _ _ se w.gd w.st hm eo,rfl,by simp;omega⟩
    have:=Nat.mul_le_mul_right rg (show potR ps last aF cb+1<=potR ps last rs ss by omega)
    rw[Nat.add_mul]at this
    omega
 .have:=Nat.mul_le_mul pb (show hs.length+1<=9 by omega)
  omega
theorem Qn6 (hN:NetX n ps N)(hT:TaleX last rs0 ss0 T)(hH:HsX hs H)(ok:NetOk n ps)(hps:ps.length<=64)(hl:last<=24)(ht:t<=last)(hn:∀h∈hs,h<n)(h0:0<hs.length)(h8:hs.length<=8)(g:GdT n ps last rs0 ss0):
  StQ (fun St rs ss=>StE (Qp last o3 o2) St cI) n ps last t rs0 ss0 hs nC:=
 Qji (.inl ⟨rfl,rfl⟩) (fun St _ _ h _ _ _ _ _ _=> .inr ⟨St,h,rfl⟩) hN hT hH ok hps hl ht hn h0 h8 g
theorem QsI {St:List D}{S0 c:D}(h:StE S0 St c):QbI [.lst St,S0]= .ok .fz c:=by
 refine Qt (QbI [.lst St,S0]) rfl ?_
 rcases h with⟨rfl,rfl⟩|⟨P,h,rfl⟩
 .simp(disch:=first|omega|rfl) [ev0,Qdo]
 .have:atI (P++ [D.tup [.int h,c]]) (-1)=some (.tup [.int h,c]):=by
   have e:ixN (P.length+1) (-1)=some P.length:=by simp[ixN];omega
   simp[atI,e]
  have ne:(P++ [D.tup [.int h,c]]).isEmpty=false:=List.isEmpty_eq_false_iff.2 al
  generalize P++ [D.tup [.int h,c]]=L at *
  simp(disch:=first|omega|rfl) [ev0,Qdo,this,ne]
end
inductive Sn where|came (n:Str) (u:Option Int)|both (a b:Sn)|either (a b:Sn)|knows (h t:Nat) (a:Sn)|shared (hs:List Nat) (t:Nat) (a:Sn)
def byD:Option Int->D
 |none=> .non
 |some i=> .int i
abbrev hsD (hs:List Nat):D:= .lst (hs.map fun(h:Nat)=>D.int h)
def Sn.d:Sn->D
 | .came n u=> .tup [.str lR, .str n,byD u]
 | .both a b=> .tup [.str bf,a.d,b.d]
 | .either a b=> .tup [.str aY,a.d,b.d]
 | .knows h t a=> .tup [.str bF, .int (h:Nat), .int (t:Nat),a.d]
 | .shared hs t a=> .tup [.str bL,hsD hs, .int (t:Nat),a.d]
def Qfh (n:Str)(u:Option Int):D:= .obj "Came" ["name","by"] [.str n,byD u]
def Qjj (a b:D):D:= .obj "Both" ["one","other"] [a,b]
def Qjk (a b:D):D:= .obj "Either" ["one","other"] [a,b]
def Qjl (h t:Nat)(a:D):D:= .obj "Knows" ["house","turn","inside"] [.int (h:Nat), .int (t:Nat),a]
def Qn7 (hs:List Nat)(t:Nat)(a:D):D:= .obj "Shared" ["houses","turn","inside"] [hsD hs, .int (t:Nat),a]
def Sn.o:Sn->D
 | .came n u=>Qfh n u
 | .both a b=>Qjj a.o b.o
 | .either a b=>Qjk a.o b.o
 | .knows h t a=>Qjl h t a.o
 | .shared hs t a=>Qn7 hs t a.o
def Sn.dep:Sn->Nat
 | .came _ _=>0
 | .both a b=>max a.dep b.dep+1
 | .either a b=>max a.dep b.dep+1
 | .knows _ _ a=>a.dep+1
 | .shared _ _ a=>a.dep+1
def Sn.ok (n last:Nat):Sn->Prop
 | .came nm _=>PyData.strOk nm=true
 | .both a b=>a.ok n last/\b.ok n last
 | .either a b=>a.ok n last/\b.ok n last
 | .knows h t a=>h<n/\t<=last/\a.ok n last
 | .shared hs t a=>(0<hs.length/\hs.length<=8/\∀h∈hs,h<n)/\t<=last/\a.ok n last
theorem eqW {x y:Str}(hx:PyData.strOk x=true)(hy:PyData.strOk y=true):eqD dY (.str y)=some (.fz, .bl (decide (x=y))):=by
 rw[QcC (by simp only[pl];exact hx) (by simp only[pl];exact hy)]
 congr 3
 rw[Bool.eq_iff_iff,decide_eq_true_iff,decide_eq_true_iff];simp
theorem wcc:eqD bB bB=some (.fz, .bl true):=by rw[eqW ao ao,decide_eq_true rfl]
theorem wbc:eqD gh bB=some (.fz, .bl false):=by rw[eqW ao ao,decide_eq_false ah]
theorem wec:eqD gJ bB=some (.fz, .bl false):=by rw[eqW ao ao,decide_eq_false ah]
theorem wkc:eqD io bB=some (.fz, .bl false):=by rw[eqW ao ao,decide_eq_false ah]
theorem wsc:eqD nW bB=some (.fz, .bl false):=by rw[eqW ao ao,decide_eq_false ah]
theorem wbb:eqD gh gh=some (.fz, .bl true):=by rw[eqW ao ao,decide_eq_true rfl]
theorem web:eqD gJ gh=some (.fz, .bl false):=by rw[eqW ao ao,decide_eq_false ah]
theorem wkb:eqD io gh=some (.fz, .bl false):=by rw[eqW ao ao,decide_eq_false ah]
theorem wsb:eqD nW gh=some (.fz, .bl false):=by rw[eqW ao ao,decide_eq_false ah]
theorem wee:eqD gJ gJ=some (.fz, .bl true):=by rw[eqW ao ao,decide_eq_true rfl]
theorem wke:eqD io gJ=some (.fz, .bl false):=by rw[eqW ao ao,decide_eq_false ah]
theorem wse:eqD nW gJ=some (.fz, .bl false):=by rw[eqW ao ao,decide_eq_false ah]
theorem wkk:eqD io io=some (.fz, .bl true):=by rw[eqW ao ao,decide_eq_true rfl]
theorem wsk:eqD nW io=some (.fz, .bl false):=by rw[eqW ao ao,decide_eq_false ah]
theorem Q2 {n last:Nat}:∀(t:Sn) (m:Nat),t.dep<m->t.ok n last->Qs m [t.d]= .ok .fz t.o
 |_,0,h,_=>absurd h ff
 | .came x u,m+1,_,_=>by
  have e1:∀{a b c:D},idxD kD cQ=some (.fz,a):=by intros;simp
  have e2:∀{a b c:D},idxD kD cU=some (.fz,b):=by intros;simp
  have e3:∀{a b c:D},idxD kD eV=some (.fz,c):=by intros;simp
  refine Qt (Qs (m+1) [Sn.d tM]) rfl ?_
  cases u with
  |none=>
   simp only[Sn.d,Sn.o,Qfh,byD]
   simp(disch:=first|omega|rfl) [ev0,Qak,e1,e2,e3,wcc]
  |some i=>
   simp only[Sn.d,Sn.o,Qfh,byD]
   simp(disch:=first|omega|rfl) [ev0,Qak,e1,e2,e3,wcc,Qaj]
 | .both a b,m+1,h,o=>by
  have ha:=Q2 a m (by simp[Sn.dep]at h;omega) o.1
  have hb:=Q2 b m (by simp[Sn.dep]at h;omega) o.2
  refine Qt (Qs (m+1) [Sn.d iJ]) rfl ?_
  simp only[Sn.d,Sn.o,Qjj]
  simp(disch:=first|omega|rfl) [ev0,Qak,wbc,wbb,Qaj,QaQ,ha,hb]
 | .either a b,m+1,h,o=>by
  have ha:=Q2 a m (by simp[Sn.dep]at h;omega) o.1
  have hb:=Q2 b m (by simp[Sn.dep]at h;omega) o.2
  refine Qt (Qs (m+1) [Sn.d gm]) rfl ?_
  simp only[Sn.d,Sn.o,Qjk]
  simp(disch:=first|omega|rfl) [ev0,Qak,wec,web,wee,Qaj,QaQ,Qbv,ha,hb]
 | .knows h t a,m+1,hd,o=>by
  have ha:=Q2 a m (by simp[Sn.dep]at hd;omega) o.2.2
  refine Qt (Qs (m+1) [Sn.d dJ]) rfl ?_
  simp only[Sn.d,Sn.o,Qjl]
  simp(disch:=first|omega|rfl) [ev0,Qak,wkc,wkb,wke,wkk,Qaj,QaQ,Qbv,Qcp,ha]
 | .shared hs t a,m+1,hd,o=>by
  have ha:=Q2 a m (by simp[Sn.dep]at hd;omega) o.2.2
  have hl:hs.length<=LIM:=by have:=o.1.2.1;simp[LIM];omega
  refine Qt (Qs (m+1) [Sn.d cY]) rfl ?_
  simp only[Sn.d,Sn.o,Qn7]
  simp(disch:=first|omega|rfl) [ev0,Qak,wsc,wsb,wse,wsk,Qaj,QaQ,Qbv,Qcp,Qei,ha,hl]
def hitB (n:Str)(u:Option Int)(x:Sign):Bool:=decide (x.2.2=n)&&(match u with
 |some i=>decide ((x.2.1:Int)<=i)
 |none=>true)
def Qjm (n:Str)(u:Option Int)(ss:List Sign):Bool:=ss.any (hitB n u)
def Hd (n:Nat)(ps:List Path)(last:Nat):Sn->List Run->List Sign->Prop
 | .came nm u,_,ss=>Qjm nm u ss=true
 | .both a b,rs,ss=>Hd n ps last a rs ss/\Hd n ps last b rs ss
 | .either a b,rs,ss=>Hd n ps last a rs ss\/Hd n ps last b rs ss
 | .knows h t a,rs,ss=>∀E,EndsOk rs n h t E->Hd n ps last a aF cb
 | .shared hs t a,rs,ss=>∀R S,Cm n ps last t rs ss hs R S->Hd n ps last a R S
section
variable {n last:Nat}{ps:List Path}
theorem Qvl {t:Nat}{hs:List Nat}{rs:List Run}{ss:List Sign}(ok:NetOk n ps)(hps:ps.length<=64)(hl:last<=24)(ht:t<=last)(hn:0<hs.length/\hs.length<=8/\∀h∈hs,h<n)(g:GdT n ps last rs ss):∃R S,Cm n ps last t rs ss hs R S:=by
 obtain⟨St,R,S,_,cm,_⟩:=Qn6 (QoA (n:=n) (ps:=ps)) (QgD (last:=last) (rs:=rs) (ss:=ss)) (QsH (hs:=hs)) ok hps hl ht hn.2.2 hn.1 hn.2.1 g
 exact⟨R,S,cm⟩
theorem Hd.mono (ok:NetOk n ps)(hps:ps.length<=64)(hl:last<=24):∀{s:Sn} {rs:List Run} {ss:List Sign} {rs':List Run} {ss':List Sign},s.ok n last->GdT n ps last rs ss->GdT n ps last rs' ss'->Le rs ss rs' ss'->Hd n ps last s rs ss->Hd n ps last s rs' ss'
 | .came nm u,rs,ss,rs',ss',_,_,_,l,h=>by
  obtain⟨x,hx,e⟩:=List.any_eq_true.1 h
  exact List.any_eq_true.2 ⟨x,l.s x hx,e⟩
 | .both a b,_,_,_,_,o,g,g',l,h=>⟨Hd.mono ok hps hl o.1 g g' l h.1,Hd.mono ok hps hl o.2 g g' l h.2⟩
 | .either a b,_,_,_,_,o,g,g',l,h=>h.elim (fun h=> .inl (Hd.mono ok hps hl o.1 g g' l h)) fun h=> .inr (Hd.mono ok hps hl o.2 g g' l h)
 | .knows h t a,_,_,_,_,o,g,g',l,z=>fun E' eo'=>by
  obtain⟨E,eo⟩:=g.ends ok hl o.2.1 o.1
  exact Hd.mono ok hps hl o.2.2 (QR ok g) (QR ok g') (Qjd ok g g' eo eo' l) (z E eo)
 | .shared hs t a,_,_,_,_,o,g,g',l,z=>fun R' S' cm'=>by
  obtain⟨R,S,cm⟩:=Qvl ok hps hl o.2.1 o.1 g
  exact Hd.mono ok hps hl o.2.2 cm.gd cm'.gd (cm'.top R S cm.gd (cm.le.trans l) cm.fx) (z R S cm)
theorem Hd.knows_iff {h t:Nat}{a:Sn}{rs:List Run}{ss:List Sign}{E:List Int}(eo:EndsOk rs n h t E):Hd n ps last dJ rs ss↔Hd n ps last a aF cb:=
 ⟨fun z=>z E eo,fun z E' eo'=>by obtain rfl:=eo'.uniq eo;exact z⟩
theorem Hd.shared_iff {t:Nat}{hs:List Nat}{a:Sn}{rs R:List Run}{ss S:List Sign}(cm:Cm n ps last t rs ss hs R S):Hd n ps last cY rs ss↔Hd n ps last a R S:=
 ⟨fun z=>z R S cm,fun z R' S' cm'=>by obtain⟨rfl,rfl⟩:=cm'.uniq cm fun _=> .rfl;exact z⟩
theorem Hd.srt (ok:NetOk n ps)(hps:ps.length<=64)(hl:last<=24){s:Sn}{rs:List Run}{ss:List Sign}(o:s.ok n last)(g:GdT n ps last rs ss):Hd n ps last s jd jc↔Hd n ps last s rs ss:=
 ⟨Hd.mono ok hps hl o (Qig g) g (Le.of_mem (fun _ hx=>srtR_perm.mem_iff.1 hx) fun _ hx=>srtS_perm.mem_iff.1 hx),Hd.mono ok hps hl o g (Qig g) (Le.of_mem (fun _ hx=>srtR_perm.mem_iff.2 hx) fun _ hx=>srtS_perm.mem_iff.2 hx)⟩
end
section
variable {n t last:Nat}{ps:List Path}{hs:List Nat}{rs:List Run}{ss:List Sign}{E:List Int}
theorem QmL:QA ps last E jd=QA ps last E rs:=by
 unfold QA
 rw[QgF ((srtR_perm (l:=rs)).filter rA)]
theorem Qll:Qq E jc=Qq E ss:=by
 unfold Qq
 rw[QgG ((srtS_perm (l:=ss)).filter jV)]
abbrev Stp:=Nat×List Run×List Sign
def stD (last:Nat)(x:Stp):D:= .tup [.int (x.1:Nat),Qp last x.2.1 x.2.2]
def ChS (n:Nat)(ps:List Path)(last t:Nat)(hs:List Nat):List Run->List Sign->List Stp->List Run->List Sign->Prop
 |R,S,[],R',S'=>R'=R/\S'=S
 |R,S,x::L,R',S'=>x.1∈hs/\GdT n ps last R S/\(∃E,EndsOk R n x.1 t E/\x.2.1=QA ps last E R/\x.2.2=Qq E S)/\ChS n ps last t hs x.2.1 x.2.2 L R' S'
theorem ChS.snoc {h:Nat}{R':List Run}{S':List Sign}(hm:h∈hs)(g:GdT n ps last R' S')(eo:EndsOk R' n h t E):∀{L:List Stp} {R:List Run} {S:List Sign},ChS n ps last t hs R S L R' S'->ChS n ps last t hs R S (L++ [(h,QA ps last E R',Qq E S')]) (QA ps last E R') (Qq E S')
 | [],_,_,⟨e1,e2⟩=>by subst e1;subst e2;exact⟨hm,g,⟨E,eo,rfl,rfl⟩,rfl,rfl⟩
 |_::_,_,_,⟨a,b,c,d⟩=>⟨a,b,c,d.snoc hm g eo⟩
theorem ChS.unsrt {R':List Run}{S':List Sign}{x:Stp}{L:List Stp}(g:GdT n ps last rs ss)(c:ChS n ps last t hs jd jc (x::L) R' S'):ChS n ps last t hs rs ss (x::L) R' S':=by
 obtain⟨a,b,⟨E,eo,e1,e2⟩,d⟩:=c
 exact⟨a,g,⟨E,⟨eo.len,eo.low,fun v u hv=>(eo.iff v u hv).trans ⟨fun z=>z.sub fun r hr=>srtR_perm.mem_iff.1 hr,fun z=>z.sub fun r hr=>srtR_perm.mem_iff.2 hr⟩⟩,by rw[e1,QmL],by rw[e2,Qll]⟩,d⟩
end
section
variable {n last:Nat}{ps:List Path}{N T:D}{rs:List Run}{ss:List Sign}
theorem fCn {a b:D}{k:Kd}:fldR ["Came"] "name" p8= .ok .fz a:=QcD ah (by rfl)
theorem fCb {a b:D}{k:Kd}:fldR ["Came"] "by" p8= .ok .fz b:=QcD ah (by rfl)
theorem fBo {a b:D}{k:Kd}:fldR ["Both"] "one" oW= .ok .fz a:=QcD ah (by rfl)
theorem fBt {a b:D}{k:Kd}:fldR ["Both"] "other" oW= .ok .fz b:=QcD ah (by rfl)
theorem fEo {a b:D}{k:Kd}:fldR ["Either"] "one" oi= .ok .fz a:=QcD ah (by rfl)
theorem fEt {a b:D}{k:Kd}:fldR ["Either"] "other" oi= .ok .fz b:=QcD ah (by rfl)
theorem fKh {a b c:D}{k:Kd}:fldR ["Knows"] "house" fe= .ok .fz a:=QcD ah (by rfl)
theorem fKt {a b c:D}{k:Kd}:fldR ["Knows"] "turn" fe= .ok .fz b:=QcD ah (by rfl)
theorem fKi {a b c:D}{k:Kd}:fldR ["Knows"] "inside" fe= .ok .fz c:=QcD ah (by rfl)
theorem fSh {a b c:D}{k:Kd}:fldR ["Shared"] "houses" eU= .ok .fz a:=QcD ah (by rfl)
theorem fSt {a b c:D}{k:Kd}:fldR ["Shared"] "turn" eU= .ok .fz b:=QcD ah (by rfl)
theorem fSi {a b c:D}{k:Kd}:fldR ["Shared"] "inside" eU= .ok .fz c:=QcD ah (by rfl)
def QmM (nm:Str)(u:Option Int)(ss:List Sign):D:=if Qjm nm u ss=true then .non else .tup [.str cD, .str nm]
def QsJ (N T t:D)(nm:Str)(u:Option Int)(ss:List Sign)(xs:List Sign)(ev:Ev):Prop:=∃pre x2 x3 x4,ev= [some (.fz,t),some (.fz,N),some (.fz,T),x2,x3,x4]/\ss=pre++xs/\Qjm nm u pre=false
theorem Qlm (hT:TaleX last rs ss T)(hs:∀x∈ss,PyData.strOk x.2.2=true){nm:Str}{u:Option Int}(hn:PyData.strOk nm=true){t:MTab}:runF 3 (QT t) [Qfh nm u,N,T]= .ok .fz (QmM nm u ss):=by
 refine Qt (runF 3 (QT t) [Qfh nm u,N,T]) rfl ?_
 have e1:∀k,fldR ["Came"] "name" (.ok k (Qfh nm u))= .ok .fz (.str nm):=fun _=>fCn
 have e2:∀k,fldR ["Came"] "by" (.ok k (Qfh nm u))= .ok .fz (byD u):=fun _=>fCb
 generalize ht:Qfh nm u=o at *
 obtain⟨L2,b1,_,b2⟩:=hT.t2
 simp(disch:=first|omega|rfl) [ev0,QT,b1,b2]
 refine QaN (QsJ N T o nm u ss) ?_ ?_ ⟨[],_,_,_,rfl,rfl,rfl⟩
 .rintro x xs _ ⟨pre0,hp0⟩ ⟨pre,x2,x3,x4,rfl,hp,hc⟩
  have hx:x∈ss:=by rw[hp];simp
  have hq:=eqW (hs x hx) hn
  have nx:hitB nm u x=false->QsJ N T o nm u ss xs [some (Kd.fz,o),some (.fz,N),some (.fz,T),some (.fz,D.int x.1),some (.fz, .int x.2.1),some (.fz, .str x.2.2)]:=fun h=>
   ⟨pre++ [x],_,_,_,rfl,by rw[hp];simp,by simp only[Qjm,List.any_append,Bool.or_eq_false_iff]at hc⊢;exact⟨hc,by simp[h]⟩⟩
  have hit:hitB nm u x=true->QmM nm u ss= .non:=fun h=>if_pos (List.any_eq_true.2 ⟨x,hx,h⟩)
  refine⟨_,rfl,?_⟩
  cases u with
  |some i=>
   simp(disch:=first|omega|rfl) [Qa3,Qx,e1,e2,hq,byD]
   refine QeZ (fun h=>?_) fun h=>?_
   .simp(disch:=first|omega|rfl) [hit (by simpa[hitB]using h)]
   .simp(disch:=first|omega|rfl) []
    exact nx (by simpa[hitB]using h)
  |none=>
   simp(disch:=first|omega|rfl) [Qa3,Qx,e1,e2,hq,byD]
   refine QeZ (fun h=>?_) fun h=>?_
   .simp(disch:=first|omega|rfl) [hit (by simpa[hitB]using h)]
   .simp(disch:=first|omega|rfl) []
    exact nx (by simpa[hitB]using h)
 .rintro _ ⟨pre,x2,x3,x4,rfl,hp,hc⟩
  simp at hp
  subst hp
  simp(disch:=first|omega|rfl) [Qcc,e1,QmM,hc]
theorem lkC {n:Nat}:(Qj (n+1)).lookup t8=some (runF 3 (QT j2)):=by rfl
theorem lkB {n:Nat}:(Qj (n+1)).lookup t9=some (runF 2 (QB j2)):=by rfl
theorem lkE {n:Nat}:(Qj (n+1)).lookup sk=some (runF 2 (Qw j2)):=by rfl
theorem lkK {n:Nat}:(Qj (n+1)).lookup sW=some (runF 2 (QE j2)):=by rfl
theorem lkS {n:Nat}:(Qj (n+1)).lookup si=some (runF 2 (QD j2)):=by rfl
end
def OX:Sn->D->Prop
 | .came n u,o=>o=Qfh n u
 | .both a b,o=>∃x y,OX a x/\OX b y/\o=Qjj x y
 | .either a b,o=>∃x y,OX a x/\OX b y/\o=Qjk x y
 | .knows h t a,o=>∃x,OX a x/\o=Qjl h t x
 | .shared hs t a,o=>∃H x,HsX hs H/\OX a x/\o= .obj "Shared" ["houses","turn","inside"] [H, .int (t:Nat),x]
theorem ox_o:∀s:Sn,OX s s.o
 | .came _ _=>rfl
 | .both a b=>⟨_,_,ox_o a,ox_o b,rfl⟩
 | .either a b=>⟨_,_,ox_o a,ox_o b,rfl⟩
 | .knows _ _ a=>⟨_,ox_o a,rfl⟩
 | .shared _ _ a=>⟨_,_,QsH,ox_o a,rfl⟩
theorem QmN (hs:List Nat):Qa1 (hs.map fun(h:Nat)=>D.int h)=some (hs.map fun(h:Nat)=>D.int h):=by
 induction hs with
 |nil=>rfl
 |cons h hs ih=>rw[List.map_cons,Qa1,Qca,ih];rfl
theorem Qqu (u:Option Int):Qca (byD u)=some (byD u):=by cases u<;>rfl
theorem QgH:∀s:Sn,∃o,Qca s.o=some o/\OX s o
 | .came n u=>⟨_,by simp only[Sn.o,Qfh,Qca,Qa1,Qqu,Option.bind_some,Option.map_some],rfl⟩
 | .both a b=>by
  obtain⟨x,hx,ox⟩:=QgH a
  obtain⟨y,hy,oy⟩:=QgH b
  exact⟨_,by simp only[Sn.o,Qjj,Qca,Qa1,hx,hy,Option.bind_some,Option.map_some],x,y,ox,oy,rfl⟩
 | .either a b=>by
  obtain⟨x,hx,ox⟩:=QgH a
  obtain⟨y,hy,oy⟩:=QgH b
  exact⟨_,by simp only[Sn.o,Qjk,Qca,Qa1,hx,hy,Option.bind_some,Option.map_some],x,y,ox,oy,rfl⟩
 | .knows h t a=>by
  obtain⟨x,hx,ox⟩:=QgH a
  exact⟨_,by simp only[Sn.o,Qjl,Qca,Qa1,hx,Option.bind_some,Option.map_some],x,ox,rfl⟩
 | .shared hs t a=>by
  obtain⟨x,hx,ox⟩:=QgH a
  exact⟨_,by simp only[Sn.o,Qn7,hsD,Qca,Qa1,hx,QmN,Option.bind_some,Option.map_some],_,x,Qvk,ox,rfl⟩
def Dk (n:Nat)(ps:List Path)(last:Nat):Sn->List Run->List Sign->D->Prop
 | .came nm u,_,ss,d=>Qjm nm u ss=false/\d= .tup [.str cD, .str nm]
 | .both a b,rs,ss,d=>(∃x,Dk n ps last a rs ss x/\d= .tup [.str bq,x])\/(Hd n ps last a rs ss/\∃x,Dk n ps last b rs ss x/\d= .tup [.str bM,x])
 | .either a b,rs,ss,d=>∃x y,Dk n ps last a rs ss x/\Dk n ps last b rs ss y/\d= .tup [.str cW,x,y]
 | .knows h t a,rs,ss,d=>∃E x,EndsOk rs n h t E/\Dk n ps last a aF cb x/\d= .tup [.str dN,Qp last aF cb,x]
 | .shared hs t a,rs,ss,d=>∃L R S x,ChS n ps last t hs rs ss L R S/\GdT n ps last R S/\Dk n ps last a R S x/\d= .tup [.str cr, .lst fM,x]
def Dv (n:Nat)(ps:List Path)(last:Nat)(s:Sn)(rs:List Run)(ss:List Sign)(d:D):Prop:=(Hd n ps last s rs ss/\d= .non)\/(¬Hd n ps last s rs ss/\Dk n ps last s rs ss d)
section
variable {n last:Nat}{ps:List Path}
theorem Dk.tup:∀{s:Sn} {rs:List Run} {ss:List Sign} {d:D},Dk n ps last s rs ss d->∃l,d= .tup l
 | .came _ _,_,_,_,h=>⟨_,h.2⟩
 | .both _ _,_,_,_,h=>by
  rcases h with⟨_,_,h⟩|⟨_,_,_,h⟩
  .exact⟨_,h⟩
  .exact⟨_,h⟩
 | .either _ _,_,_,_,⟨_,_,_,_,h⟩=>⟨_,h⟩
 | .knows _ _ _,_,_,_,⟨_,_,_,_,h⟩=>⟨_,h⟩
 | .shared _ _ _,_,_,_,⟨_,_,_,_,_,_,_,h⟩=>⟨_,h⟩
theorem Dk.sh:∀{s:Sn} {m:Nat} {rs:List Run} {ss:List Sign} {d:D},s.dep<m->Dk n ps last s rs ss d->Dsh m d
 |_,0,_,_,_,h,_=>absurd h ff
 | .came _ _,m+1,_,_,_,_,⟨_,h⟩=>by rw[h];exact .no
 | .both _ _,m+1,_,_,_,hd,h=>by
  simp only[Sn.dep]at hd
  rcases h with⟨_,k,h⟩|⟨_,_,k,h⟩
  .rw[h];exact .first nI
  .rw[h];exact .second nI
 | .either _ _,m+1,_,_,_,hd,⟨_,_,k,l,h⟩=>by
  simp only[Sn.dep]at hd
  rw[h];exact .neither nI (l.sh aa)
 | .knows _ _ _,m+1,_,_,_,hd,⟨_,_,_,k,h⟩=>by
  simp only[Sn.dep]at hd
  rw[h];exact .may nI
 | .shared _ _ _,m+1,_,_,_,hd,⟨_,_,_,_,_,_,k,h⟩=>by
  simp only[Sn.dep]at hd
  rw[h]
  refine .row (fun s hs=>?_) nI
  obtain⟨x,_,rfl⟩:=List.mem_map.1 hs
  exact⟨_,_,_,_,rfl⟩
theorem Dv.isN {s:Sn}{rs:List Run}{ss:List Sign}{d:D}(h:Dv n ps last s rs ss d):∃z:Bool,isND d .non=some (.fz, .bl z)/\(z=true↔Hd n ps last s rs ss):=by
 rcases h with⟨h,rfl⟩|⟨h,k⟩
 .exact⟨true,rfl,by simp[h]⟩
 .obtain⟨l,rfl⟩:=k.tup
  exact⟨false,rfl,by simp[h]⟩
theorem QbU (ok:NetOk n ps)(hps:ps.length<=64)(hl:last<=24){N:D}(hN:NetX n ps N):∀(s:Sn) (m:Nat) {rs:List Run} {ss:List Sign} {T o:D},s.dep<m->s.ok n last->GdT n ps last rs ss->TaleX last rs ss T->OX s o->∃d,QcP "doubt" 3 ii (.ok .fz o) ny= .ok .fz d/\Dv n ps last s rs ss d
 |_,0,_,_,_,_,h,_,_,_,_=>absurd h ff
 | .came x u,m+1,rs,ss,T,o,_,ho,g,hT,hO=>by
  have e:=Qlm hT g.snm (nm:=x) (u:=u) ho (t:=Qj m) (N:=N)
  subst hO
  refine⟨QmM x u ss,?_,?_⟩
  .show QcP "doubt" 3 rJ (.ok .fz (.obj "Came" _ _)) _=_
   rw[QbX ah lkC]
   simp(disch:=first|omega|rfl) []
   unfold Qfh at e
   rw[e];rfl
  .unfold QmM
   by_cases c:Qjm x u ss=true
   .rw[if_pos c];exact .inl ⟨c,rfl⟩
   .rw[if_neg c];exact .inr ⟨c,by simpa using c,rfl⟩
 | .both a b,m+1,rs,ss,T,o,h,ho,g,hT,hO=>by
  obtain⟨oa,ob,xa,xb,rfl⟩:=hO
  obtain⟨da,ha,va⟩:=QbU ok hps hl hN a m (by simp[Sn.dep]at h;omega) ho.1 g hT xa
  obtain⟨db,hb,vb⟩:=QbU ok hps hl hN b m (by simp[Sn.dep]at h;omega) ho.2 g hT xb
  have e:∃d,runF 2 (QB ii) [Qjj oa ob,N,T]= .ok .fz d/\Dv n ps last iJ rs ss d:=by
   simp only[Qjj,Dv,Hd,Dk]
   rcases va with⟨ja,rfl⟩|⟨ja,ka⟩
   .rcases vb with⟨jb,rfl⟩|⟨jb,kb⟩
    .refine⟨.non,Qt mZ rfl ?_, .inl ⟨⟨ja,jb⟩,rfl⟩⟩
     simp(disch:=first|omega|rfl) [ev0,QB,Qal,fBo,fBt,ha,hb]
    .refine⟨.tup [.str bM,db],Qt mZ rfl ?_, .inr ⟨fun z=>jb z.2, .inr ⟨ja,_,kb,rfl⟩⟩⟩
     obtain⟨lb,rfl⟩:=kb.tup
     simp(disch:=first|omega|rfl) [ev0,QB,Qal,fBo,fBt,ha,hb]
   .refine⟨.tup [.str bq,da],Qt mZ rfl ?_, .inr ⟨fun z=>ja z.1, .inl ⟨_,ka,rfl⟩⟩⟩
    obtain⟨la,rfl⟩:=ka.tup
    simp(disch:=first|omega|rfl) [ev0,QB,Qal,fBo,fBt,ha,hb]
  obtain⟨d,e,v⟩:=e
  refine⟨d,?_,v⟩
  show QcP "doubt" 3 rJ (.ok .fz (.obj "Both" _ _)) _=_
  rw[QbX ah lkB]
  simp(disch:=first|omega|rfl) []
  unfold Qjj at e
  rw[e];rfl
 | .either a b,m+1,rs,ss,T,o,h,ho,g,hT,hO=>by
  obtain⟨oa,ob,xa,xb,rfl⟩:=hO
  obtain⟨da,ha,va⟩:=QbU ok hps hl hN a m (by simp[Sn.dep]at h;omega) ho.1 g hT xa
  obtain⟨db,hb,vb⟩:=QbU ok hps hl hN b m (by simp[Sn.dep]at h;omega) ho.2 g hT xb
  have e:∃d,runF 2 (Qw ii) [Qjk oa ob,N,T]= .ok .fz d/\Dv n ps last gm rs ss d:=by
   simp only[Qjk,Dv,Hd,Dk]
   rcases va with⟨ja,rfl⟩|⟨ja,ka⟩
   .refine⟨.non,Qt mY rfl ?_, .inl ⟨.inl ja,rfl⟩⟩
    simp(disch:=first|omega|rfl) [ev0,Qw,Q8,fEo,fEt,ha,hb]
   .obtain⟨la,hla⟩:=ka.tup
    rcases vb with⟨jb,rfl⟩|⟨jb,kb⟩
    .refine⟨.non,Qt mY rfl ?_, .inl ⟨.inr jb,rfl⟩⟩
     rw[hla]at ha
     simp(disch:=first|omega|rfl) [ev0,Qw,Q8,fEo,fEt,ha,hb]
    .refine⟨.tup [.str cW,da,db],Qt mY rfl ?_, .inr ⟨fun z=>z.elim ja jb,_,_,ka,kb,rfl⟩⟩
     obtain⟨lb,hlb⟩:=kb.tup
     rw[hla]at ha⊢
     rw[hlb]at hb⊢
     simp(disch:=first|omega|rfl) [ev0,Qw,Q8,fEo,fEt,ha,hb]
  obtain⟨d,e,v⟩:=e
  refine⟨d,?_,v⟩
  show QcP "doubt" 3 rJ (.ok .fz (.obj "Either" _ _)) _=_
  rw[QbX ah lkE]
  simp(disch:=first|omega|rfl) []
  unfold Qjk at e
  rw[e];rfl
 | .knows h t a,m+1,rs,ss,T,o,hd,ho,g,hT,hO=>by
  obtain⟨oa,xa,rfl⟩:=hO
  obtain⟨E,eo⟩:=g.ends ok hl ho.2.1 ho.1
  have sl:=Qjg hN hT ok hps hl ho.2.1 ho.1 g eo
  obtain⟨da,ha,va⟩:=QbU ok hps hl hN a m (by simp[Sn.dep]at hd;omega) ho.2.2 (QR (E:=E) ok g) QgD xa
  have sp:D.tup [.int h, .int t]=QaH h t:=rfl
  have e:∃d,runF 2 (QE ii) [Qjl h t oa,N,T]= .ok .fz d/\Dv n ps last dJ rs ss d:=by
   unfold Dv
   rw[Hd.knows_iff eo]
   simp only[Qjl,Dk]
   rcases va with⟨ja,rfl⟩|⟨ja,ka⟩
   .refine⟨.non,Qt (runF 2 (QE ii) _) rfl ?_, .inl ⟨ja,rfl⟩⟩
    simp(disch:=first|omega|rfl) [ev0,QE,fKh,fKt,fKi,sp,sl,ha]
   .refine⟨.tup [.str dN,Qp last aF cb,da],Qt (runF 2 (QE ii) _) rfl ?_, .inr ⟨ja,E,da,eo,ka,rfl⟩⟩
    obtain⟨la,rfl⟩:=ka.tup
    simp(disch:=first|omega|rfl) [ev0,QE,fKh,fKt,fKi,sp,sl,ha]
  obtain⟨d,e,v⟩:=e
  refine⟨d,?_,v⟩
  show QcP "doubt" 3 rJ (.ok .fz (.obj "Knows" _ _)) _=_
  rw[QbX ah lkK]
  simp(disch:=first|omega|rfl) []
  unfold Qjl at e
  rw[e];rfl
 | .shared hs t a,m+1,rs,ss,T,o,hd,ho,g,hT,hO=>by
  obtain⟨H,oa,hH,xa,rfl⟩:=hO
  obtain⟨St,R,S,e1,cm,se,L,el,ch⟩:=Qji (Q:=fun St R S=>StE (Qp last jd jc) St (Qp last R S)/\∃L:List Stp,St=L.map (stD last)/\ChS n ps last t hs jd jc L R S) ⟨.inl ⟨rfl,rfl⟩,[],rfl,rfl,rfl⟩ (fun St R S h E q gd st hm eo=>by
   obtain⟨_,L,el,ch⟩:=q
   exact⟨.inr ⟨St,h,rfl⟩,L++ [(h,QA ps last E R,Qq E S)],by rw[el,List.map_append];rfl,ch.snoc hm gd eo⟩) hN hT hH ok hps hl ho.2.1 ho.1.2.2 ho.1.1 ho.1.2.1 g
  have ti:∃rs' ss' L' T',GdT n ps last rs' ss'/\TaleX last rs' ss' T'/\St=L'.map (stD last)/\ChS n ps last t hs rs ss L' rs' ss'/\StE T St T'/\(Hd n ps last a R S↔Hd n ps last a rs' ss'):=by
   cases L with
   |nil=>
    obtain⟨rfl,rfl⟩:=ch
    exact⟨rs,ss,[],T,g,hT,el,⟨rfl,rfl⟩, .inl ⟨el,rfl⟩,Hd.srt ok hps hl ho.2.2 g⟩
   |cons x L=>
    refine⟨R,S,x::L,_,cm.gd,QgD,el,ch.unsrt g,?_, .rfl⟩
    rcases se with⟨e,_⟩|⟨P,h,e⟩
    .rw[el]at e;cases e
    .exact .inr ⟨P,h,e⟩
  obtain⟨rs',ss',L',T',g',hT',el',ch',se',hi⟩:=ti
  have en:=QsI se'
  obtain⟨da,ha,va⟩:=QbU ok hps hl hN a m (by simp[Sn.dep]at hd;omega) ho.2.2 g' hT' xa
  have e:∃d,runF 2 (QD ii) [.obj "Shared" ["houses","turn","inside"] [H, .int (t:Nat),oa],N,T]= .ok .fz d/\Dv n ps last cY rs ss d:=by
   unfold Dv
   rw[Hd.shared_iff cm,hi]
   simp only[Dk]
   rcases va with⟨ja,rfl⟩|⟨ja,ka⟩
   .refine⟨.non,Qt (runF 2 (QD ii) _) rfl ?_, .inl ⟨ja,rfl⟩⟩
    simp(disch:=first|omega|rfl) [ev0,QD,fSh,fSt,fSi,e1,en,ha]
   .refine⟨.tup [.str cr, .lst St,da],Qt (runF 2 (QD ii) _) rfl ?_, .inr ⟨ja,L',rs',ss',da,ch',g',ka,by rw[el']⟩⟩
    obtain⟨la,rfl⟩:=ka.tup
    simp(disch:=first|omega|rfl) [ev0,QD,fSh,fSt,fSi,e1,en,ha]
  obtain⟨d,e,v⟩:=e
  refine⟨d,?_,v⟩
  rw[QbX ah lkS]
  simp(disch:=first|omega|rfl) []
  rw[e];rfl
end
section
variable {ns:List Int}{n last:Nat}{ps:List Path}{rs:List Run}{ss:List Sign}
def nmsD (ss:List Sign):List D:=(ss.map fun x=>D.str x.2.2)++ [.str (Str.ofString "a"), .str lQ, .str fF]
theorem QsK (hs:∀x∈ss,PyData.strOk x.2.2=true){j:Nat}(hj:j<(nmsD ss).length):∃x,PyData.strOk x=true/\atI (nmsD ss) (j:Int)=some dY:=by
 have hm:(nmsD ss)[j]∈nmsD ss:=List.getElem_mem hj
 have:∀d∈nmsD ss,∃x,PyData.strOk x=true/\d= .str x:=fun d hd=>by
  unfold nmsD at hd
  rcases List.mem_append.1 hd with h|h
  .obtain⟨x,hx,rfl⟩:=List.mem_map.1 h;exact⟨_,hs x hx,rfl⟩
  .simp only[List.mem_cons,List.not_mem_nil,or_false]at h
   rcases h with rfl|rfl|rfl<;>exact⟨_,by decide+kernel,rfl⟩
 obtain⟨x,hx,e⟩:=this _ hm
 exact⟨x,hx,Qc2 (by rw[List.getElem?_eq_getElem hj,e])⟩
theorem Qj0 (n1:1<=n)(n8:n<=8){nu:Int}{r:List D->R}{T a:D}{t m k:Nat}{x6 x8 x9:Option bm}{w:Int}:
  Wp (QdX r [some (.fz, .scr aI),some (.fz,netD n ps),some (.fz,T),some (.fz, .int m),some (.fz, .int k),some (.fz, .int nu),x6,some (.fz, .int w),x8,x9,some (.fz,a),some (.fz, .int (t:Nat)),none]) (runQ fun q=>∃hs:List Nat,q= .ok .fz (.tup [.str bL,hsD hs, .int (t:Nat),a])/\0<hs.length/\hs.length<=8/\∀h∈hs,h<n):=by
 generalize hb:nu/140=bits
 have hc:=Qec (b:=QC 1) (c:=eOp gtD hJ aj) (e:=varR 1) (ev:= [some (.fz, .int nu),none]) (enc:=fun(i:Nat)=>D.int (0+i)) (l:=List.range n) (fun h=>decide (0<bits/((h:Int)+1) %3)) (fun(h:Nat)=>D.int h) (by simp[LIM];omega) (fun h hh=>by
  have hh:h<n:=by simpa using hh
  refine⟨_,rfl,⟨.fz,?_⟩,fun _=>⟨.fz,by simp,?_⟩⟩
  .simp(disch:=first|omega|rfl) [hb,QnJ (x:=bits) (y:=(h:Int)+1) ⟨by omega,by omega⟩]
  .simp(disch:=first|omega|rfl) [])
 have hr:rngW (.ok [(.fz, .int (n:Int))])= .ok (QcA 0 n):=by simp[Qp0 (j:=n) (k:= .fz) aa]
 generalize hL:(List.range n).filter (fun(h:Nat)=>decide (0<bits/((h:Int)+1) %3))=L at hc
 have hLn:∀h∈L,h<n:=fun h hm=>by rw[←hL]at hm;simpa using(List.mem_filter.1 hm).1
 have hLl:L.length<=8:=by rw[←hL];exact Nat.le_trans (List.length_filter_le ..) (by simpa using n8)
 have hc:QgI _ _ _ [some (.fz, .int nu),none] (.ok (QcA 0 n))=_:=hc
 have hp:pl 60 (.lst (L.map fun(h:Nat)=>D.int h))=true:=by
  have:plL 59 (L.map fun(h:Nat)=>D.int h)=true:=Qaz.2 fun d hd=>by
   obtain⟨x,hx,rfl⟩:=List.mem_map.1 hd
   simp[pl]
  simpa[pl]using this
 have he:=QcC hp (b:= .lst []) (by simp[pl,plL])
 have n0:(0:Int)<n:=by omega
 obtain⟨j,ej,hj⟩:=Qax bits (n:=n) aa
 have c4:∀hs:List Nat,cutG (hs.map fun(h:Nat)=>D.int h) none (some 4)=(hs.take 4).map fun(h:Nat)=>D.int h:=fun hs=>by rw[List.map_take];exact QnL _ 4
 have fin:∀hs:List Nat,0<hs.length->(∀h∈hs,h<n)->∃hs':List Nat,((hs.take 4).map fun(h:Nat)=>D.int h).reverse=(hs'.map fun(h:Nat)=>D.int h)/\0<hs'.length/\hs'.length<=8/\∀h∈hs',h<n:=fun hs h0 hn=>
  ⟨(hs.take 4).reverse,by rw[List.map_reverse],by simp;omega,by simp;omega,fun h hm=>hn h (List.mem_of_mem_take (by simpa using hm))⟩
 clear hL
 simp(disch:=first|omega|rfl) [QdX,QjU,hr,hc]
 rw[he]
 by_cases c:L= []
 .subst c
  simp(disch:=first|omega|rfl) [hb,QhL n0,ej,QjU,QdW]
  have:=fin [j] al (by simpa using hj)
  have c5:=c4 [j]
  simp only[List.map_cons,List.map_nil]at c5
  rw[c5]
  exact this
 .have c':D.lst (L.map fun(h:Nat)=>D.int h)≠ .lst []:=by simpa using c
  simp(disch:=first|omega|rfl) [c,QdW]
  rw[c4]
  exact fin L (List.length_pos_iff.2 c) hLn
theorem Qj1 (n1:1<=n)(n8:n<=8)(hs:∀x∈ss,PyData.strOk x.2.2=true)(hl:ss.length<=4):∀(fuel m k:Nat),m<fuel->(k+2)*2^m<=1024->∃t:Sn,t.dep<=m/\t.ok n last/\Q0 fuel [.scr aI,netD n ps,Qp last rs ss, .int m, .int k]= .ok .fz t.d
 |0,m,k,h,_=>absurd h ff
 |f+1,m,k,h,hk=>by
  have k1:k<=1024:=by
   have:(k+2)*1<=(k+2)*2^m:=Nat.mul_le_mul_left _ (Nat.one_le_two_pow)
   omega
  obtain⟨j,ej,hj⟩:=Qax (k:Int) (n:=60) ah
  have hc:=Qh7 (ns:=ns) (j:=3+(k:Int) %60) (i:=3+j) aa
  have hm:=Qhj (Qa7 ns (3+j)) (40+(k:Int)) aa aa
  have hc2:=Qc3 (b:=QC 0) (e:=eOp idxD ap au) (ev:= [none]) (enc:=Qx) (l:=ss) (fun x=> .str x.2.2) (by simp[LIM];omega) (fun x _=>by
   refine⟨_,rfl, .fz,by simp,?_⟩
   simp(disch:=first|omega|rfl) [Qx])
  generalize mixF (Qa7 ns (3+j)) (40+(k:Int))=nu at *
  have hlen:ss.length+3<=LIM:=by simp[LIM];omega
  have p50:powD (.int 10) (.int 50)=some (.fz, .int 100000000000000000000000000000000000000000000000000):=by rfl
  obtain⟨q,eq,hq⟩:=Qax (nu/280) (n:=(nmsD ss).length) (by simp[nmsD])
  obtain⟨x,hx,hat⟩:=QsK hs hq
  obtain⟨z,ez,hz⟩:=Qax (nu/70) (n:=4) ah
  have leaf:∃u:Option Int,∃d,atI [D.non, .non, .int (nu/7 %((last:Int)+2)-1), .int 100000000000000000000000000000000000000000000000000] (z:Int)=some d/\d=byD u:=by
   match z,hz with
   |0,_=>exact⟨none,_,Qc2 rfl,rfl⟩
   |1,_=>exact⟨none,_,Qc2 rfl,rfl⟩
   |2,_=>exact⟨some _,_,Qc2 rfl,rfl⟩
   |3,_=>exact⟨some _,_,Qc2 rfl,rfl⟩
  obtain⟨u,d,hu,rfl⟩:=leaf
  have ez':nu/70 %4=z:=by simpa using ez
  have eq':nu/280 %((ss.length:Int)+3)=q:=by simpa[nmsD]using eq
  have hat':atI (List.map (fun x=>D.str x.2.2) ss++ [D.str (Str.ofString "a"),D.str lQ,D.str fF]) (q:Int)=some dY:=hat
  by_cases lc:m=0\/nu %7=0
  .refine⟨.came x u,by simp[Sn.dep],hx,?_⟩
   refine Qt (Q0 (f+1) [.scr aI,netD n ps,Qp last rs ss, .int m, .int k]) rfl ?_
   have lc':(decide (m=0)||decide (nu %7=0))=true:=by simpa using lc
   simp(disch:=first|omega|rfl) [ev0,QbS,hc,hm,QQ,Q1,hc2,hlen,p50,ez',hu,lc',eq',hat',Sn.d]
  .obtain⟨m',rfl⟩:∃m',m=m'+1:=⟨m-1,by omega⟩
   have a0:¬((m':Int)+1=0):=by omega
   have lc2:(decide ((m':Int)+1=0)||decide (nu %7=0))=false:=by
    have a1:¬((m':Int)+1=0):=by omega
    have a2:¬nu %7=0:=fun z=>lc (.inr z)
    simp[a1,a2]
   have pw:2^(m'+1)=2*2^m':=by rw[Nat.pow_succ,Nat.mul_comm]
   have b1:(2*k+1+2)*2^m'<=1024:=Nat.le_trans (Nat.mul_le_mul_right _ (by omega:2*k+1+2<=(k+2)*2)) (by rw[Nat.mul_assoc,←pw];exact hk)
   have b2:(2*k+2+2)*2^m'<=1024:=Nat.le_trans (Nat.mul_le_mul_right _ (by omega:2*k+2+2<=(k+2)*2)) (by rw[Nat.mul_assoc,←pw];exact hk)
   obtain⟨ta,da,oa,ha⟩:=Qj1 n1 n8 hs hl f m' (2*k+1) aa b1
   obtain⟨tb,db,ob,hb⟩:=Qj1 n1 n8 hs hl f m' (2*k+2) aa b2
   have i1:((m'+1:Nat):Int)-1=m':=by omega
   have i2:((2*k+1:Nat):Int)=2*(k:Int)+1:=by omega
   have i3:((2*k+2:Nat):Int)=2*(k:Int)+2:=by omega
   rw[i2]at ha
   rw[i3]at hb
   have mu:mulD eV (.int (k:Int))=some (.fz, .int (2*(k:Int))):=QeC aa
   obtain⟨v,ev,hv⟩:=Qax (nu/7) (n:=last+1) aa
   have ev:nu/7 %((last:Int)+1)=v:=by rw[←ev];simp
   obtain⟨t,et,ht⟩:∃t:Nat,(last:Int)-(v:Int)*(nu/70 %2)=t/\t<=last:=by
    rcases(show nu/70 %2=0\/nu/70 %2=1 by omega)with e|e
    .exact⟨last,by rw[e];omega,by omega⟩
    .exact⟨last-v,by rw[e];omega,by omega⟩
   have n0:(0:Int)<n:=by omega
   obtain⟨hh,eh,hhn⟩:=Qax (nu/140) (n:=n) aa
   have key:(nu %7=1\/nu %7=2)\/(nu %7=3\/nu %7=4\/nu %7=5)\/nu %7=6:=by omega
   rcases key with e|e|e
   .rcases e with e|e
    .refine⟨.both ta tb,by simp only[Sn.dep];omega,⟨oa,ob⟩,?_⟩
     refine Qt (Q0 (f+1) [.scr aI,netD n ps,Qp last rs ss, .int ((m'+1:Nat):Int), .int k]) rfl ?_
     simp(disch:=first|omega|rfl) [ev0,QbS,hc,hm,QQ,Q1,hc2,hlen,e,a0,QbN,mu,ha,hb,Sn.d]
    .refine⟨.either ta tb,by simp only[Sn.dep];omega,⟨oa,ob⟩,?_⟩
     refine Qt (Q0 (f+1) [.scr aI,netD n ps,Qp last rs ss, .int ((m'+1:Nat):Int), .int k]) rfl ?_
     simp(disch:=first|omega|rfl) [ev0,QbS,hc,hm,QQ,Q1,hc2,hlen,e,a0,QbN,mu,ha,hb,Sn.d]
   .refine⟨.knows hh t ta,by simp only[Sn.dep];omega,⟨hhn,ht,oa⟩,?_⟩
    refine Qt (Q0 (f+1) [.scr aI,netD n ps,Qp last rs ss, .int ((m'+1:Nat):Int), .int k]) rfl ?_
    have w3:¬nu %7<3:=by omega
    have w6:nu %7<6:=by omega
    simp(disch:=first|omega|rfl) [ev0,QbS,hc,hm,QQ,Q1,hc2,hlen,lc2,w3,w6,QbN,QdY,mu,ha,ev,et,QjU,QhL n0,eh,Sn.d]
   .have w3:¬nu %7<3:=by omega
    have w6:¬nu %7<6:=by omega
    have rn:∃hs:List Nat,Q0 (f+1) [.scr aI,netD n ps,Qp last rs ss, .int ((m'+1:Nat):Int), .int k]= .ok .fz (.tup [.str bL,hsD hs, .int (t:Nat),ta.d])/\0<hs.length/\hs.length<=8/\∀h∈hs,h<n:=by
     refine Qt (motive:=fun q=>∃hs:List Nat,q= .ok .fz (.tup [.str bL,hsD hs, .int (t:Nat),ta.d])/\0<hs.length/\hs.length<=8/\∀h∈hs,h<n) (Q0 (f+1) [.scr aI,netD n ps,Qp last rs ss, .int ((m'+1:Nat):Int), .int k]) rfl ?_
     simp(disch:=first|omega|rfl) [ev0,QbS,hc,hm,QQ,Q1,hc2,hlen,lc2,w3,w6,QbN,QdY,mu,ha,ev,et]
     exact Qj0 (m:=m'+1) n1 n8
    obtain⟨hs',e',o'⟩:=rn
    exact⟨.shared hs' t ta,by simp only[Sn.dep];omega,⟨o',ht,oa⟩,e'⟩
end
theorem lhC:(Qz).lookup t8=some Ql:=by rfl
theorem lhB:(Qz).lookup t9=some Ql:=by rfl
theorem lhE:(Qz).lookup sk=some Ql:=by rfl
theorem lhK:(Qz).lookup sW=some Ql:=by rfl
theorem lhS:(Qz).lookup si=some Ql:=by rfl
theorem QmO {o N T d:D}(h:QcP "doubt" 3 kQ (.ok .fz o) ny= .ok .fz d){b:Bool}(hb:isND d .non=some (.fz, .bl b)):Ql [o,N,T]= .ok .fz ef:=by
 refine Qt (Ql [o,N,T]) rfl ?_
 simp(disch:=first|omega|rfl) [ev0,QaW,h,hb]
theorem Qcz {n last:Nat}{ps:List Path}{rs:List Run}{ss:List Sign}(ok:NetOk n ps)(hps:ps.length<=64)(hl:last<=24)(s:Sn)(hd:s.dep<12)(ho:s.ok n last)(g:GdT n ps last rs ss):∃z:Bool,QcP "holds" 3 Qz qt cz= .ok .fz (.bl z)/\(z=true↔Hd n ps last s rs ss):=by
 obtain⟨d,e,v⟩:=QbU ok hps hl QoA s 12 hd ho g QgD (ox_o s)
 obtain⟨z,hz,hi⟩:=v.isN
 have e:=QmO e hz
 refine⟨z,?_,hi⟩
 cases s with
 |came x u=>
  simp only[Sn.o,Qfh]at e⊢
  rw[QbX ah lhC]
  simp(disch:=first|omega|rfl) [e]
 |both a b=>
  simp only[Sn.o,Qjj]at e⊢
  rw[QbX ah lhB]
  simp(disch:=first|omega|rfl) [e]
 |either a b=>
  simp only[Sn.o,Qjk]at e⊢
  rw[QbX ah lhE]
  simp(disch:=first|omega|rfl) [e]
 |knows h t a=>
  simp only[Sn.o,Qjl]at e⊢
  rw[QbX ah lhK]
  simp(disch:=first|omega|rfl) [e]
 |shared hs t a=>
  simp only[Sn.o,Qn7]at e⊢
  rw[QbX ah lhS]
  simp(disch:=first|omega|rfl) [e]
def kE (a b:Nat):List Key:= [.inl (a:Int), .inl (b:Int)]
def kT (t:Nat×Nat×Nat):List Key:= [.inl (t.1:Int), .inl (t.2.1:Int), .inl (t.2.2:Int)]
theorem QoF {a b c d:Nat}:kE a b=kE c d↔a=c/\b=d:=by simp[kE];omega
theorem QsL {t u:Nat×Nat×Nat}:kT t=kT u↔t=u:=by
 obtain⟨a,b,c⟩:=t;obtain⟨a',b',c'⟩:=u
 simp[kT];omega
theorem Qjn {κ:Type} [DecidableEq κ]{k:κ}{ks:List κ}:(QbB ks k).length<=ks.length+1:=by unfold QbB;split<;>simp
theorem QsM {x:Str}(h:nmOk x=true):PyData.strOk x=true:=by simp[nmOk]at h;exact h.1.1
structure GoodB (n:Nat)(ps:List Path)(last:Nat)(rs:List Run)(ss:List Sign):Prop where
 runs:RunsOk ps last rs
 due:DueB ps last rs
 sh:∀x∈ss,x.1<n
 st:∀x∈ss,x.2.1<=last
 snd:ss.Nodup
structure MoI (ps1:List Path)(ks:List (List Key))(vs:List D):Prop where
 len:ks.length=vs.length
 few:ks.length<=ps1.length
 has:∀p∈ps1,dGet ks vs (kE p.1 p.2.1)=some (optD p.2.2)
 hasn:∀a b,(∀o,(a,b,o)∉ps1)->dGet ks vs (kE a b)=none
structure CoI (rs1:List Run)(ks:List (List Key))(vs:List D):Prop where
 len:ks.length=vs.length
 few:ks.length<=rs1.length
 has:∀t,(dGet ks vs (kT t)).isSome=true↔t∈rs1.map rkey
theorem CoI.put {rs1:List Run}{ks:List bR}{vs:List D}{d:D}(h:CoI rs1 ks vs)(r:Run):CoI (rs1++ [r]) (QbB ks (kT gR)) (QcM ks vs (kT gR) d):=
 ⟨QhN h.len,by have:=Qjn (k:=kT gR) (ks:=ks);have:=h.few;simp;omega,fun t=>by
  rw[Qfr h.len]
  by_cases e:kT t=kT gR
  .rw[if_pos e,QsL.1 e];simp
  .rw[if_neg e,h.has t,List.map_append]
   have:t≠rkey r:=fun z=>e (by rw[z])
   simp[this]⟩
theorem MoI.put {n:Nat}{ps ps1 xs:List Path}{ks:List bR}{vs:List D}{p:Path}(ok:NetOk n ps)(hp:ps=ps1++p::xs)(h:MoI ps1 ks vs):MoI (ps1++ [p]) (QbB ks (kE p.1 p.2.1)) (QcM ks vs (kE p.1 p.2.1) (optD p.2.2)):=by
 refine⟨QhN h.len,by have:=Qjn (k:=kE p.1 p.2.1) (ks:=ks);have:=h.few;simp;omega,fun q hq=>?_,fun a b hn=>?_⟩
 .rw[Qfr h.len]
  rcases List.mem_append.1 hq with hq|hq
  .have:¬kE q.1 q.2.1=kE p.1 p.2.1:=fun z=>by
    obtain⟨z1,z2⟩:=QoF.1 z
    have nd:=ok.nd
    rw[hp,List.map_append,List.nodup_append]at nd
    exact nd.2.2 _ (List.mem_map.2 ⟨q,hq,rfl⟩) _ (List.mem_map.2 ⟨p,by simp,rfl⟩) (by simp[ends,z1,z2])
   rw[if_neg this];exact h.has q hq
  .simp at hq;subst hq;rw[if_pos rfl]
 .rw[Qfr h.len,if_neg,h.hasn a b fun o z=>hn o pO]
  intro z
  obtain⟨z1,z2⟩:=QoF.1 z
  exact hn p.2.2 (by rw[z1,z2];simp)
theorem sl3 {r:Run}:slD j7 none (some 3)=some (.fz, .tup [.int r.1, .int r.2.1, .int r.2.2.1]):=(rfl)
theorem sl2 {r:Run}:slD j7 none (some 2)=some (.fz, .tup [.int r.1, .int r.2.1]):=(rfl)
theorem QmP {ss:List Sign}{x:Sign}(hn:∀x∈ss,PyData.strOk x.2.2=true)(hx:x∈ss):cntD cn o9=some (.fz, .int (ss.count x:Nat)):=by
 have p1:∀y∈ss,pl 59 (Qx y)=true:=fun y hy=>by
  have:=hn y hy
  simp[Qx,pl,plL,this]
 have p2:∀y∈ss,pl 60 (Qx y)=true:=fun y hy=>by
  have:=hn y hy
  simp[Qx,pl,plL,this]
 have e:=Qp2 (a:=Qx x) (xs:=ss.map Qx) (p2 x hx) (Qaz.2 fun d hd=>by
  obtain⟨y,hy,rfl⟩:=List.mem_map.1 hd
  exact p2 y hy)
 rw[e]
 have:List.countP (fun y=>decide (y=Qx x)) cn=ss.count x:=by
  rw[List.countP_map,List.count]
  congr 1
  funext y
  have:Qx y=Qx x↔y=x:=by
   obtain⟨a,b,c⟩:=y;obtain⟨a',b',c'⟩:=x
   simp[Qx]
   constructor
   .rintro⟨h1,h2,h3⟩;exact⟨by omega,by omega,h3⟩
   .rintro⟨h1,h2,h3⟩;exact⟨by omega,by omega,h3⟩
  by_cases h:y=x
  .subst h;simp
  .have h':¬Qx y=Qx x:=fun z=>h (this.1 z)
   simp[h,h']
 rw[this]
theorem Qih (i:Int):Qam [.int i]= .ok .fz aT:=by
 have k0:isiD [.int i, .ty "int"]=some (.fz, .bl true):=(rfl)
 have k1:isiD [.int i, .ty "bool"]=some (.fz, .bl false):=(rfl)
 refine Qt (Qam [.int i]) rfl ?_
 simp(disch:=first|omega|rfl) [ev0,Qf6,k0,k1]
theorem Qn8 {a b c d:Int}{e0 e1 e2 e3 e4 e5 e6 e7 e8 e9 e10:Option bm}:forE nU Q9 [.int a, .int b, .int c, .int d] [e0,e1,e2,e3,e4,e5,e6,e7,e8,e9,e10]= .nx [e0,e1,e2,e3,e4,e5,e6,e7,some (.fz, .int d),e9,e10]:=by
 have step:∀(i:Int) (l:List D) (e8:Option bm),forE nU Q9 (.int i::l) [e0,e1,e2,e3,e4,e5,e6,e7,e8,e9,e10]=forE nU Q9 l [e0,e1,e2,e3,e4,e5,e6,e7,some (.fz, .int i),e9,e10]:=fun i l e8=>by
  have:Q9 [e0,e1,e2,e3,e4,e5,e6,e7,some (.fz, .int i),e9,e10]= .nx [e0,e1,e2,e3,e4,e5,e6,e7,some (.fz, .int i),e9,e10]:=by simp(disch:=first|omega|rfl) [Q9,Qih]
  show(match Q9 [e0,e1,e2,e3,e4,e5,e6,e7,some (.fz, .int i),e9,e10]with
   | .nx ev2=>forE nU Q9 l ev2
   | .ct ev2=>forE nU Q9 l ev2
   | .bk ev2=> .nx ev2
   |r=>r)=_
  rw[this]
 rw[step,step,step,step];rfl
section
variable {n last:Nat}{ps:List Path}{rs:List Run}{ss:List Sign}
abbrev evG (n:Nat)(ps:List Path)(last:Nat)(rs:List Run)(ss:List Sign)(m:D)(l:Ev):Ev:=some (.fz,netD n ps)::some (.fz,Qp last rs ss)::some (.ow,m)::l
def Qvm (n:Nat)(ps:List Path)(last:Nat)(rs:List Run)(ss:List Sign)(xs:List Path)(ev:Ev):Prop:=∃ps1 ks vs x3 x4 x5 x6 x7 x8 x9 x10,ev=evG n ps last rs ss (.dT ks vs) [x3,x4,x5,x6,x7,x8,x9,x10]/\ps=ps1++xs/\MoI ps1 ks vs
def Qvn (n:Nat)(ps:List Path)(last:Nat)(rs:List Run)(ss:List Sign)(m:D)(xs:List Run)(ev:Ev):Prop:=∃rs1 ks vs x3 x4 x5 x7 x8 x9 x10,ev=evG n ps last rs ss m [x3,x4,x5,some (.ow, .dT ks vs),x7,x8,x9,x10]/\rs=rs1++xs/\CoI rs1 ks vs
def Qvo (n:Nat)(ps:List Path)(last:Nat)(rs:List Run)(ss:List Sign)(m c:D)(xs:List Path)(ev:Ev):Prop:=∃ps1 x3 x4 x5 x7 x8 x9 x10,ev=evG n ps last rs ss m [x3,x4,x5,some (.ow,c),x7,x8,x9,x10]/\ps=ps1++xs
def Qvp (n:Nat)(ps:List Path)(last:Nat)(rs:List Run)(ss:List Sign)(m c:D)(s g:Nat)(o:Int)(xs:List Nat)(ev:Ev):Prop:=∃x7 x8 x9 x10,ev=evG n ps last rs ss m [some (.fz, .int s),some (.fz, .int g),some (.fz, .int o),some (.ow,c),x7,x8,x9,x10]
def Qvq (n:Nat)(ps:List Path)(last:Nat)(rs:List Run)(ss:List Sign)(m c:D)(xs:List Sign)(ev:Ev):Prop:=∃ss1 x3 x4 x5 x7 x8 x9 x10,ev=evG n ps last rs ss m [x3,x4,x5,some (.ow,c),x7,x8,x9,x10]/\ss=ss1++xs
theorem QsN (ok:NetOk n ps)(hl:ps.length<=200)(hrl:rs.length<=5000)(hsl:ss.length<=5000)(hnm:∀x∈ss,PyData.strOk x.2.2=true)(hlast:last<=100)(gb:GoodB n ps last rs ss):Qdh [netD n ps,Qp last rs ss]= .ok .fz aT:=by
 refine Qt (Qdh [netD n ps,Qp last rs ss]) rfl ?_
 simp(disch:=first|omega|rfl) [ev0,QhY,Qi9]
 refine QaN (Qvm n ps last rs ss) ?_ ?_ ⟨[],[],[],_,_,_,_,_,_,_,_,rfl,rfl,rfl,by simp,by simp,fun _ _ _=>rfl⟩
 .rintro⟨s,g,o⟩ xs _ _ ⟨ps1,ks,vs,x3,x4,x5,x6,x7,x8,x9,x10,rfl,hp,mi⟩
  have hL:ks.length<LIM:=by
   have a:=mi.few
   have b:=congrArg List.length hp
   simp[LIM]at b⊢;omega
  refine⟨_,rfl,?_⟩
  simp(disch:=first|omega|rfl) [Qf8,Qfo hL]
  exact⟨ps1++ [(s,g,o)],_,_,_,_,_,_,_,_,_,_,rfl,by rw[hp];simp,mi.put ok hp⟩
 rintro _ ⟨ps1,mk,mv,x3,x4,x5,x6,x7,x8,x9,x10,rfl,hp,mi⟩
 simp at hp
 subst hp
 simp(disch:=first|omega|rfl) [Qgh,Qdl]
 refine QaN (Qvn n ps last rs ss jR) ?_ ?_ ⟨[],[],[],_,_,_,_,_,_,_,rfl,rfl,rfl,by simp,fun t=>by simp[dGet]⟩
 .rintro r xs _ _ ⟨rs1,ks,vs,x3,x4,x5,x7,x8,x9,x10,rfl,hp,ci⟩
  have hL:ks.length<LIM:=by
   have a:=ci.few
   have b:=congrArg List.length hp
   simp[LIM]at b⊢;omega
  have rm:r∈rs:=by rw[hp];simp
  obtain⟨o,ho,hm⟩:=gb.runs.path r rm
  obtain⟨t1,t2⟩:=gb.runs.turn r rm
  have e1:=mi.has _ ho
  simp only at e1
  have hk:rkey r∉rs1.map rkey:=fun z=>by
   have:=gb.runs.nd
   rw[hp,List.map_append,List.nodup_append]at this
   exact this.2.2 _ z _ (List.mem_map.2 ⟨r,by simp,rfl⟩) rfl
  have e2:(dGet ks vs (kT gR)).isSome=false:=by
   cases q:(dGet ks vs (kT gR)).isSome with
   |false=>rfl
   |true=>exact absurd ((ci.has _).1 q) hk
  have i2:QaF (.tup [.int r.1, .int r.2.1]) jR=some (.fz, .bl false):=by rw[QfQ (q:=kE r.1 r.2.1) (by simp[kE]),e1];rfl
  have i3:inD (.tup [.int r.1, .int r.2.1, .int r.2.2.1]) (.dT ks vs)=some (.fz, .bl false):=by rw[Qsj (q:=kT gR) (by simp[kT,rkey]),e2]
  have k0:isiD [runD r, .ty "tuple"]=some (.fz, .bl true):=(rfl)
  have k1:lenD [runD r]=some (.fz, .int 4):=(rfl)
  have k2:neD (.int 4) (.int 4)=some (.fz, .bl false):=by rw[Qed rfl rfl];simp
  have r2:idxD j7 eV=some (.fz, .int r.2.2.1):=by simp[runD]
  have r3:idxD j7 jF=some (.fz, .int r.2.2.2):=by simp[runD]
  have d2:idxD jR (.tup [.int r.1, .int r.2.1])=some (.fz,optD o):=by
   rw[Qp1 (q:=kE r.1 r.2.1) (by simp[kE]),e1];rfl
  have hz:¬((r.2.2.1:Int)<0):=by omega
  have hit:itT (.ok .fz j7)= .ok [.int r.1, .int r.2.1, .int r.2.2.1, .int r.2.2.2]:=(rfl)
  have h1:¬r.2.2.2<=r.2.2.1:=by omega
  have h2:¬last<r.2.2.2:=by omega
  have nx:(∃m,o=some m/\¬(r.2.2.1:Int)+m<r.2.2.2)\/o=none:=by
   cases o with
   |none=>exact .inr rfl
   |some m=>exact .inl ⟨m,rfl,by have:=hm m rfl;omega⟩
  refine⟨_,rfl,?_⟩
  simp(disch:=first|omega|rfl) [Qgb,k0,k1,k2,sl2,sl3,i2,i3,Qga,hit,Qn8,Qf9,r2,r3,d2,hz,h1,Q1,h2]
  rcases nx with⟨m,rfl,h3⟩|rfl
  .simp(disch:=first|omega|rfl) [optD,h3,QdZ,sl3,Qfo hL]
   exact⟨rs1++ [r],_,_,_,_,_,_,_,_,_,rfl,by rw[hp];simp,ci.put r⟩
  .simp(disch:=first|omega|rfl) [optD,QdZ,sl3,Qfo hL]
   exact⟨rs1++ [r],_,_,_,_,_,_,_,_,_,rfl,by rw[hp];simp,ci.put r⟩
 rintro _ ⟨rs1,ck,cv,x3,x4,x5,x7,x8,x9,x10,rfl,hp,ci⟩
 simp at hp
 subst hp
 simp(disch:=first|omega|rfl) [Qgg,Qi9]
 refine QaN (Qvo n ps last rs ss jR ol) ?_ ?_ ⟨[],_,_,_,_,_,_,_,rfl,rfl⟩
 .rintro⟨s,g,o⟩ xs _ _ ⟨ps1,x3,x4,x5,x7,x8,x9,x10,rfl,hp⟩
  have hm:(s,g,o)∈ps:=by rw[hp];simp
  refine⟨_,rfl,?_⟩
  cases o with
  |none=>
   simp(disch:=first|omega|rfl) [Qd0,optD]
   exact⟨ps1++ [(s,g,none)],_,_,_,_,_,_,_,rfl,by rw[hp];simp⟩
  |some m=>
   have m1:=(ok.m _ hm m rfl).1
   simp(disch:=first|omega|rfl) [Qd0,optD,Q1]
   rw[Qcb]
   refine Qfp (Qvp n ps last rs ss jR ol s g m) ?_ ?_ ⟨_,_,_,_,rfl⟩
   .rintro l ys _ ⟨pre,hp'⟩ ⟨x7,x8,x9,x10,rfl⟩
    have hl':l<((last:Int)-m+1).toNat:=by
     have:l∈List.range ((last:Int)-m+1).toNat:=by rw[hp'];simp
     simpa using this
    obtain⟨c,hc⟩:=gb.due s g m l hm aa
    have i3:QaF (.tup [.int s, .int g, .int l]) ol=some (.fz, .bl false):=by rw[QfQ (q:=kT (s,g,l)) (by simp[kT]),(ci.has (s,g,l)).2 (List.mem_map.2 ⟨_,hc,rfl⟩)];rfl
    refine⟨_,rfl,?_⟩
    simp only[Int.zero_add]
    simp(disch:=first|omega|rfl) [Qgc,i3]
    exact⟨_,_,_,_,rfl⟩
   .rintro _ ⟨x7,x8,x9,x10,rfl⟩
    simp(disch:=first|omega|rfl) []
    exact⟨ps1++ [(s,g,some m)],_,_,_,_,_,_,_,rfl,by rw[hp];simp⟩
 rintro _ ⟨ps1,x3,x4,x5,x7,x8,x9,x10,rfl,hp⟩
 clear hp
 simp(disch:=first|omega|rfl) [Qgf,QQ]
 refine QaN (Qvq n ps last rs ss jR ol) ?_ ?_ ⟨[],_,_,_,_,_,_,_,rfl,rfl⟩
 .rintro x xs _ _ ⟨ss1,x3,x4,x5,x7,x8,x9,x10,rfl,hp⟩
  have xm:x∈ss:=by rw[hp];simp
  have k0:isiD [Qx x, .ty "tuple"]=some (.fz, .bl true):=(rfl)
  have k1:lenD [Qx x]=some (.fz, .int 3):=(rfl)
  have k2:neD jF jF=some (.fz, .bl false):=by rw[Qed rfl rfl];simp
  have q0:idxD o9 cQ=some (.fz, .int x.1):=by simp[Qx]
  have q1:idxD o9 cU=some (.fz, .int x.2.1):=by simp[Qx]
  have z0:(0:Int)<=x.1:=Int.natCast_nonneg _
  have z1:(0:Int)<=x.2.1:=Int.natCast_nonneg _
  have h1:=gb.sh x xm
  have h2:=gb.st x xm
  have h3:ss.count x=1:=by
   have c1:=List.nodup_iff_count.1 gb.snd x
   have c2:=List.count_pos_iff.2 xm
   omega
  have ct:=QmP hnm xm
  have n1:neD (.int (ss.count x:Nat)) cU=some (.fz, .bl false):=by rw[h3,Qed rfl rfl];simp
  refine⟨_,rfl,?_⟩
  simp(disch:=first|omega|rfl) [Qge,k0,k1,k2,q0,q1,z0,z1,h1,QjU,Qgd,Q1,h2,QQ,ct,n1]
  exact⟨ss1++ [x],_,_,_,_,_,_,_,rfl,by rw[hp];simp⟩
 .rintro _ ⟨ss1,x3,x4,x5,x7,x8,x9,x10,rfl,hp⟩
  simp(disch:=first|omega|rfl) []
end
theorem Qqv {last:Nat}{rs:List Run}{ss:List Sign}:Qas [Qp last rs ss]= .ok .fz aT:=by
 have k0:isiD [Qp last rs ss, .ty "tuple"]=some (.fz, .bl true):=(rfl)
 have k1:lenD [Qp last rs ss]=some (.fz, .int 3):=(rfl)
 have k2:neD jF jF=some (.fz, .bl false):=by rw[Qed rfl rfl];simp
 have k3:∀l:List D,isiD [.lst l, .ty "list"]=some (.fz, .bl true):=fun _=>(rfl)
 refine Qt (Qas [Qp last rs ss]) rfl ?_
 simp(disch:=first|omega|rfl) [ev0,Qcw,k0,k1,k2,Q1,Qih,QcI,Qdl,QQ,k3]
section
variable {n h t last:Nat}{ps:List Path}{hs:List Nat}{rs:List Run}{ss:List Sign}{E:List Int}
theorem Qn9 {R:List Run}{S:List Sign}(hs:∀x∈S,PyData.strOk x.2.2=true):pl 60 qi=true:=by
 have h1:plL 58 rH=true:=Qaz.2 fun d hd=>by
  obtain⟨x,hx,rfl⟩:=List.mem_map.1 hd
  simp[runD,pl,plL]
 have h2:plL 58 uI=true:=Qaz.2 fun d hd=>by
  obtain⟨x,hx,rfl⟩:=List.mem_map.1 hd
  simp[Qx,pl,plL,hs x hx]
 simp[QgQ,pl,plL,QaH,h1,h2]
theorem QmQ (ok:NetOk n ps)(g:GdT n ps last rs ss)(eo:EndsOk rs n h t E):QcJ h t E aF cb=QcJ h t E rs ss:=by
 have hm:∀p∈ps,∀m,p.2.2=some m->1<=m:=fun p hp m e=>(ok.m p hp m e).1
 have g':=QR (E:=E) ok g
 refine QmG (Qie (QO kA) (QO oK) fun r=>?_) (Qie (QO g'.snd) uT fun x=>?_)
 .rw[List.mem_filter,List.mem_filter]
  exact⟨fun⟨a,b⟩=>⟨Qjf ok g eo a b,b⟩,fun⟨a,b⟩=>⟨(QG hm).2 (.inl ⟨a,b⟩),b⟩⟩
 .rw[List.mem_filter,List.mem_filter,Qac]
  exact⟨fun⟨⟨a,b⟩,_⟩=>⟨a,b⟩,fun⟨a,b⟩=>⟨⟨a,b⟩,b⟩⟩
theorem QkJ (ok:NetOk n ps)(hps:ps.length<=64)(hl:last<=24)(ht:t<=last)(hh:h<n)(g:GdT n ps last rs ss)(st:∀x∈ss,x.2.1<=last)(eo:EndsOk rs n h t E):
  Qbx [netD n ps,Qp last rs ss,Qp last aF cb,QaH h t]= .ok .fz aT:=by
 have g':=QR (E:=E) ok g
 have gd:=QsN (rs:=QA ps last E rs) (ss:=Qq E ss) ok aa (by have:=g'.len hps hl;omega) (by have:=g'.slen;omega) g'.snm aa ⟨g'.runs,g'.due,g'.sh,fun x hx=>st x (Qac.1 hx).1,g'.snd⟩
 obtain⟨E1,eo1,es1⟩:=QkF (ps:=ps) (h:=h) (t:=t) ok.n1 ok.n8 aa ht hh (g.tok ok hps hl)
 obtain⟨E2,eo2,es2⟩:=QkF (ps:=ps) (h:=h) (t:=t) ok.n1 ok.n8 aa ht hh (g'.tok ok hps hl)
 obtain rfl:=eo1.uniq eo
 obtain rfl:=eo2.uniq (Qje ok g eo)
 rw[QmQ ok g eo]at es2
 have pv:pl 60 mL=true:=Qn9 fun x hx=>g.snm x (List.mem_filter.1 (srtS_perm.mem_iff.1 hx)).1
 have ev:eqD mL mL=some (.fz, .bl true):=by rw[QcC pv pv];simp
 have kd:=Qqv (last:=last) (rs:=QA ps last E2 rs) (ss:=Qq E2 ss)
 have u0:=Q1 (last:=last) (rs:=QA ps last E2 rs) (ss:=Qq E2 ss)
 have v0:=Q1 (last:=last) (rs:=rs) (ss:=ss)
 have ne:neD (.int last) (.int last)=some (.fz, .bl false):=by rw[Qed rfl rfl];simp
 generalize Qp last (QA ps last E2 rs) (Qq E2 ss)=U at *
 generalize Qp last rs ss=T at *
 generalize QcJ h t E2 rs ss=V at *
 refine Qt (Qbx [netD n ps,T,U,QaH h t]) rfl ?_
 simp(disch:=first|omega|rfl) [ev0,Qgn,kd,u0,v0,ne,gd,Qe1,es1,es2,ev]
end
theorem QkK {n k:Nat}{d:D}(h:pl n d=true):pl (n+k) d=true:=by
 induction k with
 |zero=>exact h
 |succ k ih=>exact Qsh ih
section
variable {n last:Nat}{ps:List Path}
theorem QkL {m:Nat}{rs:List Run}{ss:List Sign}(hn:∀x∈ss,PyData.strOk x.2.2=true):pl (m+3) cI=true:=by
 have h1:plL (m+1) b6=true:=Qaz.2 fun d hd=>by
  obtain⟨x,hx,rfl⟩:=List.mem_map.1 hd
  simp[runD,pl,plL]
 have h2:plL (m+1) cn=true:=Qaz.2 fun d hd=>by
  obtain⟨x,hx,rfl⟩:=List.mem_map.1 hd
  simp[Qx,pl,plL,hn x hx]
 simp[Qp,pl,plL,h1,h2]
theorem ChS.pl {t m:Nat}{hs:List Nat}(ok:NetOk n ps):∀{L:List Stp} {R:List Run} {S:List Sign} {R':List Run} {S':List Sign},ChS n ps last t hs R S L R' S'->plL (m+4) fM=true
 | [],_,_,_,_,_=>by simp[plL]
 |x::L,R,S,_,_,⟨_,g,⟨E,_,e1,e2⟩,c⟩=>by
  have g':=QR (E:=E) ok g
  rw[←e1,←e2]at g'
  have a:=QkL (last:=last) (m:=m) (rs:=x.2.1) g'.snm
  have b:=ChS.pl (m:=m) ok c
  simp only[List.map_cons,plL,stD,L3.pl,a,b,Bool.and_self]
theorem Dk.pl (ok:NetOk n ps):∀{s:Sn} {m:Nat} {rs:List Run} {ss:List Sign} {d:D},s.dep<m->s.ok n last->GdT n ps last rs ss->Dk n ps last s rs ss d->pl (m+6) d=true
 |_,0,_,_,_,h,_,_,_=>absurd h ff
 | .came _ _,m+1,_,_,_,_,o,_,⟨_,h⟩=>by
  have k:PyData.strOk cD=true:=by decide+kernel
  have o:PyData.strOk _=true:=o
  rw[h];simp only[L3.pl,plL,k,o,Bool.and_self]
 | .both _ _,m+1,_,_,_,hd,o,g,h=>by
  simp only[Sn.dep]at hd
  have k1:PyData.strOk bq=true:=by decide+kernel
  have k2:PyData.strOk bM=true:=by decide+kernel
  rcases h with⟨_,k,h⟩|⟨_,_,k,h⟩
  .have:=k.pl ok (m:=m) aa o.1 g
   rw[h];simp only[L3.pl,plL,k1,this,Bool.and_self,Nat.add_right_comm]
  .have:=k.pl ok (m:=m) aa o.2 g
   rw[h];simp only[L3.pl,plL,k2,this,Bool.and_self,Nat.add_right_comm]
 | .either _ _,m+1,_,_,_,hd,o,g,⟨_,_,k,l,h⟩=>by
  simp only[Sn.dep]at hd
  have k1:PyData.strOk cW=true:=by decide+kernel
  have a:=k.pl ok (m:=m) aa o.1 g
  have b:=l.pl ok (m:=m) aa o.2 g
  rw[h];simp only[L3.pl,plL,k1,a,b,Bool.and_self,Nat.add_right_comm]
 | .knows _ _ _,m+1,rs,_,_,hd,o,g,⟨E,_,_,k,h⟩=>by
  simp only[Sn.dep]at hd
  have k1:PyData.strOk dN=true:=by decide+kernel
  have g':=QR (E:=E) ok g
  have a:=k.pl ok (m:=m) aa o.2.2 g'
  have b:=QkL (last:=last) (m:=m+3) (rs:=QA ps last E rs) g'.snm
  rw[h]
  show(PyData.strOk _&&(L3.pl (m+6) _&&(L3.pl (m+6) _&&true)))=true
  rw[k1,a,b];rfl
 | .shared _ _ _,m+1,_,_,_,hd,o,g,⟨_,_,_,_,c,g',k,h⟩=>by
  simp only[Sn.dep]at hd
  have k1:PyData.strOk cr=true:=by decide+kernel
  have a:=k.pl ok (m:=m) aa o.2.2 g'
  have b:=c.pl (m:=m+1) ok
  rw[h]
  show(PyData.strOk _&&(plL (m+5) _&&(L3.pl (m+6) _&&true)))=true
  rw[k1,a,b];rfl
def Qvr (d T:D)(ss:List Sign)(xs:List Sign)(ev:Ev):Prop:=∃x2,ev= [some (.fz,d),some (.fz,T),x2]
theorem Qqw {nm:Str}{u:Option Int}{rs:List Run}{ss:List Sign}(hs:∀x∈ss,PyData.strOk x.2.2=true)(hn:PyData.strOk nm=true)(c:Qjm nm u ss=false):Qat [Sn.d g9,Qp last rs ss]= .ok .fz aT:=by
 have e1:idxD qE cU=some (.fz, .str nm):=by simp[Sn.d]
 have e2:idxD qE eV=some (.fz,byD u):=by simp[Sn.d]
 generalize Sn.d g9=d at *
 refine Qt (Qat [d,Qp last rs ss]) rfl ?_
 simp(disch:=first|omega|rfl) [ev0,Qcy,QQ]
 refine QaN (Qvr d cI ss) ?_ ?_ ⟨_,rfl⟩
 .rintro x xs _ ⟨pre,hp⟩ ⟨x2,rfl⟩
  have hx:x∈ss:=by rw[hp];simp
  have hq:=eqW (hs x hx) hn
  have hh:hitB nm u x=false:=by
   cases q:hitB nm u x with
   |false=>rfl
   |true=>rw[Qjm,List.any_eq_true.2 ⟨x,hx,q⟩]at c;cases c
  have s1:idxD o9 cU=some (.fz, .int x.2.1):=by simp[Qx]
  have s2:idxD o9 eV=some (.fz, .str x.2.2):=by simp[Qx]
  refine⟨_,rfl,?_⟩
  generalize Qx x=X at *
  cases u with
  |some i=>
   have hh:(decide (x.2.2=nm)&&decide ((x.2.1:Int)<=i))=false:=hh
   simp(disch:=first|omega|rfl) [Qbs,s1,s2,e1,e2,hq,byD]
   refine QeZ (fun h=>?_) fun h=>?_
   .rw[hh]at h;cases h
   .simp(disch:=first|omega|rfl) []
    exact⟨_,rfl⟩
  |none=>
   have hh:(decide (x.2.2=nm)&&true)=false:=hh
   simp(disch:=first|omega|rfl) [Qbs,s1,s2,e1,e2,hq,byD]
   refine QeZ (fun h=>?_) fun h=>?_
   .simp[h]at hh
   .simp(disch:=first|omega|rfl) []
    exact⟨_,rfl⟩
 .rintro _ ⟨x2,rfl⟩
  simp(disch:=first|omega|rfl) []
end
section
variable {n last:Nat}{ps:List Path}{hs:List Nat}
theorem Qvs (hs:List Nat):plL 59 (hs.map fun(h:Nat)=>D.int h)=true:=Qaz.2 fun d hd=>by
 obtain⟨x,hx,rfl⟩:=List.mem_map.1 hd
 simp[pl]
theorem Qvt {h:Nat}(hm:h∈hs):QaF (.int (h:Nat)) (hsD hs)=some (.fz, .bl false):=by
 rw[Qc1 (b:=hsD hs) rfl (by simp[pl]) (QfP (Qvs hs))]
 congr 3
 rw[decide_eq_false_iff_not]
 exact fun z=>z (List.mem_map.2 ⟨h,hm,rfl⟩)
theorem QsO:QaF kF r6=some (.fz, .bl false):=by
 rw[Qc1 rfl ao ao];simp
theorem Qqx:QaF qN r6=some (.fz, .bl false):=by
 rw[Qc1 rfl ao ao];simp
theorem wff:eqD kF kF=some (.fz, .bl true):=by rw[eqW ao ao,decide_eq_true rfl]
theorem wsf:eqD qN kF=some (.fz, .bl false):=by rw[eqW ao ao,decide_eq_false ah]
theorem neI (i:Int):neD fV fV=some (.fz, .bl false):=by rw[Qed rfl rfl];simp
theorem neW {x:Str}(h:PyData.strOk x=true):neD dY dY=some (.fz, .bl false):=by
 rw[Qed (by simp only[pl];exact h) (by simp only[pl];exact h)];simp
theorem ktup (l:List D):isiD [.tup l, .ty "tuple"]=some (.fz, .bl true):=(rfl)
theorem kstr (x:Str):isiD [.str x, .ty "str"]=some (.fz, .bl true):=(rfl)
theorem klst (l:List D):isiD [.lst l, .ty "list"]=some (.fz, .bl true):=(rfl)
def Qvu (n:Nat)(ps:List Path)(last t:Nat)(hs:List Nat)(s d:D)(Rf:List Run)(Sf:List Sign)(xs:List Stp)(ev:Ev):Prop:=∃R S x5 x6,ev= [some (.fz,s),some (.fz,netD n ps),some (.fz,Qp last R S),some (.fz,d),none,x5,x6]/\ChS n ps last t hs R S xs Rf Sf/\GdT n ps last R S/\∀x∈S,x.2.1<=last
theorem Qa9 (ok:NetOk n ps)(hps:ps.length<=64)(hl:last<=24):∀(s:Sn) (f:Nat) {rs:List Run} {ss:List Sign} {d:D},s.dep<f->f<=12->s.ok n last->GdT n ps last rs ss->(∀x∈ss,x.2.1<=last)->Dk n ps last s rs ss d->Qab f [s.d,netD n ps,Qp last rs ss,d]= .ok .fz aT
 |_,0,_,_,_,h,_,_,_,_,_=>absurd h ff
 | .came nm u,f+1,rs,ss,d,_,_,o,g,st,k=>by
  obtain⟨c,rfl⟩:=k
  have o:PyData.strOk nm=true:=o
  have nc:=Qqw (last:=last) (rs:=rs) g.snm o c
  have kn:PyData.strOk cD=true:=by decide+kernel
  have pd:pl 60 (.tup [.str cD, .str nm])=true:=by simp[pl,plL,o,kn]
  have e0:=QcC pd (b:= .tup []) rfl
  rw[decide_eq_false al]at e0
  have e1:=QcC pd pd
  rw[decide_eq_true rfl]at e1
  have i0:idxD qE cQ=some (.fz, .str lR):=by simp[Sn.d]
  have i1:idxD qE cU=some (.fz, .str nm):=by simp[Sn.d]
  generalize Sn.d g9=sd at *
  refine Qt (Qab (f+1) [sd,netD n ps,Qp last rs ss, .tup [.str cD, .str nm]]) rfl ?_
  simp(disch:=first|omega|rfl) [ev0,Qbw,ktup,e0,kstr,Qai,i0,wcc,i1,e1,nc]
 | .both a b,f+1,rs,ss,d,hd,hf,o,g,st,k=>by
  have hd':=hd
  simp only[Sn.dep]at hd
  have pd:=QkK (k:=60-(f+1+6)) jK
  rw[show f+1+6+(60-(f+1+6))=60 by omega]at pd
  have i0:idxD (Sn.d iJ) cQ=some (.fz, .str bf):=by simp[Sn.d]
  have i1:idxD (Sn.d iJ) cU=some (.fz,a.d):=by simp[Sn.d]
  have i2:idxD (Sn.d iJ) eV=some (.fz,b.d):=by simp[Sn.d]
  generalize Sn.d iJ=sd at *
  have e0:=QcC pd (b:= .tup []) rfl
  rcases k with⟨x,k,rfl⟩|⟨ha,x,k,rfl⟩
  .have r:=Qa9 ok hps hl a f aa aa o.1 g st k
   rw[decide_eq_false al]at e0
   refine Qt (Qab (f+1) [sd,netD n ps,Qp last rs ss, .tup [.str bq,x]]) rfl ?_
   simp(disch:=first|omega|rfl) [ev0,Qbw,ktup,e0,kstr,Qai,i0,wbc,wbb,QaG,neI,QsO,Qd1,wff,i1,r]
  .have r:=Qa9 ok hps hl b f aa aa o.2 g st k
   rw[decide_eq_false al]at e0
   have ob:=Q2 (n:=n) (last:=last) a 12 aa o.1
   obtain⟨z,hz,iz⟩:=Qcz ok hps hl a aa o.1 g
   obtain rfl:=iz.2 ha
   refine Qt (Qab (f+1) [sd,netD n ps,Qp last rs ss, .tup [.str bM,x]]) rfl ?_
   simp(disch:=first|omega|rfl) [ev0,Qbw,ktup,e0,kstr,Qai,i0,wbc,wbb,QaG,neI,Qqx,Qd1,wsf,Qgo,i1,i2,ob,hz,r]
 | .either a b,f+1,rs,ss,d,hd,hf,o,g,st,k=>by
  have hd':=hd
  simp only[Sn.dep]at hd
  have pd:=QkK (k:=60-(f+1+6)) jK
  rw[show f+1+6+(60-(f+1+6))=60 by omega]at pd
  have i0:idxD (Sn.d gm) cQ=some (.fz, .str aY):=by simp[Sn.d]
  have i1:idxD (Sn.d gm) cU=some (.fz,a.d):=by simp[Sn.d]
  have i2:idxD (Sn.d gm) eV=some (.fz,b.d):=by simp[Sn.d]
  generalize Sn.d gm=sd at *
  have e0:=QcC pd (b:= .tup []) rfl
  obtain⟨x,y,k,l,rfl⟩:=k
  rw[decide_eq_false al]at e0
  have r:=Qa9 ok hps hl a f aa aa o.1 g st k
  have r':=Qa9 ok hps hl b f aa aa o.2 g st l
  have nw:=neW (x:=Str.ofString "neither") ao
  refine Qt (Qab (f+1) [sd,netD n ps,Qp last rs ss, .tup [.str cW,x,y]]) rfl ?_
  simp(disch:=first|omega|rfl) [ev0,Qbw,ktup,e0,kstr,Qai,i0,wec,web,wee,QaG,QbT,neI,nw,Qgp,i1,i2,r,r']
 | .knows h t a,f+1,rs,ss,d,hd,hf,o,g,st,k=>by
  have hd':=hd
  simp only[Sn.dep]at hd
  have pd:=QkK (k:=60-(f+1+6)) jK
  rw[show f+1+6+(60-(f+1+6))=60 by omega]at pd
  have i0:idxD nO cQ=some (.fz, .str bF):=by simp[Sn.d]
  have i1:idxD nO cU=some (.fz, .int h):=by simp[Sn.d]
  have i2:idxD nO eV=some (.fz, .int t):=by simp[Sn.d]
  have i3:idxD nO jF=some (.fz,a.d):=by simp[Sn.d]
  generalize Sn.d dJ=sd at *
  have e0:=QcC pd (b:= .tup []) rfl
  obtain⟨E,x,eo,k,rfl⟩:=k
  rw[decide_eq_false al]at e0
  have g':=QR (E:=E) ok g
  have r:=Qa9 ok hps hl a f aa aa o.2.2 g' (fun x hx=>st x (Qac.1 hx).1) k
  have lk:=QkJ ok hps hl o.2.1 o.1 g st eo
  have nw:=neW (x:=Str.ofString "may") ao
  have sp:D.tup [.int (h:Nat), .int (t:Nat)]=QaH h t:=rfl
  generalize Qp last aF cb=U at *
  refine Qt (Qab (f+1) [sd,netD n ps,Qp last rs ss, .tup [.str dN,U,x]]) rfl ?_
  simp(disch:=first|omega|rfl) [ev0,Qbw,ktup,e0,kstr,Qai,i0,wkc,wkb,wke,wkk,QaG,QbT,Qdk,Qdj,neI,nw,Qgq,i1,i2,i3,sp,lk,r]
 | .shared hs t a,f+1,rs,ss,d,hd,hf,o,g,st,k=>by
  have hd':=hd
  simp only[Sn.dep]at hd
  have pd:=QkK (k:=60-(f+1+6)) jK
  rw[show f+1+6+(60-(f+1+6))=60 by omega]at pd
  have i0:idxD nP cQ=some (.fz, .str bL):=by simp[Sn.d]
  have i1:idxD nP cU=some (.fz,hsD hs):=by simp[Sn.d]
  have i2:idxD nP eV=some (.fz, .int t):=by simp[Sn.d]
  have i3:idxD nP jF=some (.fz,a.d):=by simp[Sn.d]
  generalize Sn.d cY=sd at *
  have e0:=QcC pd (b:= .tup []) rfl
  obtain⟨L,Rf,Sf,x,ch,gf,k,rfl⟩:=k
  rw[decide_eq_false al]at e0
  have nw:=neW (x:=Str.ofString "row") ao
  have hr:idxD rY eV=some (.fz,x):=by simp
  refine Qt (Qab (f+1) [sd,netD n ps,Qp last rs ss, .tup [.str cr, .lst fM,x]]) rfl ?_
  simp(disch:=first|omega|rfl) [ev0,Qbw,ktup,e0,kstr,Qai,i0,wsc,wsb,wse,wsk,QaG,QbT,Qdk,Qdj,neI,nw,klst,Qgw,Qgv]
  refine QaN (Qvu n ps last t hs sd rY Rf Sf) ?_ ?_ ⟨rs,ss,_,_,rfl,ch,g,st⟩
  .rintro⟨h,R',S'⟩ xs _ _ ⟨R,S,x5,x6,rfl,⟨hm,gd,⟨E,eo,e1,e2⟩,ch⟩,g,st⟩
   dsimp only at hm eo e1 e2 ch
   subst e1;subst e2
   have hh:=o.1.2.2 h hm
   have lk:=QkJ ok hps hl o.2.1 hh gd st eo
   have j0:idxD nG cQ=some (.fz, .int (h:Nat)):=by simp[stD]
   have j1:idxD nG cU=some (.fz,Qp last (QA ps last E R) (Qq E S)):=by simp[stD]
   have kt:isiD [stD last (h,QA ps last E R,Qq E S), .ty "tuple"]=some (.fz, .bl true):=(rfl)
   have kl:lenD [stD last (h,QA ps last E R,Qq E S)]=some (.fz, .int 2):=(rfl)
   have sp:D.tup [.int (h:Nat), .int (t:Nat)]=QaH h t:=rfl
   have hi:=Qvt hm
   refine⟨_,rfl,?_⟩
   generalize hx:stD last (h,QA ps last E R,Qq E S)=X at *
   simp(disch:=first|omega|rfl) [Qgt,kt,kl,neI,j0,Qih,i1,hi,Qgs,i2,Qgr,j1,sp,lk]
   exact⟨_,_,_,_,rfl,ch,QR ok gd,fun x hx=>st x (Qac.1 hx).1⟩
  .rintro _ ⟨R,S,x5,x6,rfl,ch,g,st⟩
   obtain⟨rfl,rfl⟩:=ch
   have r:=Qa9 ok hps hl a f aa aa o.2.2 g st k
   generalize hD:D.tup [.str cr, .lst fM,x]=dd at *
   simp(disch:=first|omega|rfl) [Qgu,i3,hr,r]
end
theorem Qoa {m c:Str}{ns:List Str}{xs:List D}{tab:MTab}{N T d:D}(h:QcP m 3 tab rZ ny= .ok .fz d):m∉ns/\∃φ,tab.lookup c=some φ/\φ [.obj c ns xs,N,T]= .ok .fz d:=by
 unfold QcP at h
 dsimp only at h
 split at h
 .cases h
 .rename_i hm
  refine⟨hm,?_⟩
  split at h
  .rename_i φ e
   refine⟨φ,e,?_⟩
   have h:(match φ [.obj c ns xs,N,T]with
    | .ok .fz d=>R.ok .fz d
    | .ok .ow d=> .ok .ow d
    |_=> .no)= .ok .fz d:=h
   split at h
   .rename_i q;rw[q];exact h
   .cases h
   .cases h
  .cases h
theorem Qvv (s:Sn):∃c ns xs,s.o= .obj c ns xs/\isCD [("Sentence",true),("Came",true),("Both",true),("Either",true),("Knows",true),("Shared",true)] qt= .ok .fz aT:=by
 cases s<;>exact⟨_,_,_,rfl,Qso rfl⟩
theorem Qii {α:Type}{f:α->D}(h:∀x,Qca (f x)=some (f x))(l:List α):Qa1 (l.map f)=some (l.map f):=by
 induction l with
 |nil=>rfl
 |cons x l ih=>rw[List.map_cons,Qa1,h,ih];rfl
theorem Qob {n:Nat}{ps:List Path}:Qca er=some (netS n ps):=by
 have h:=Qii (f:=Qan) (fun p=>by obtain⟨a,b,o⟩:=p;cases o<;>rfl) ps
 simp only[netD,netS,Qca,Qa1,h,Option.bind_some,Option.map_some]
theorem QmR {last:Nat}{rs:List Run}{ss:List Sign}:Qca cI=some (QjX last rs ss):=by
 have h:=Qii (f:=runD) (fun p=>rfl) rs
 have h':=Qii (f:=Qx) (fun p=>rfl) ss
 simp only[Qp,QjX,Qca,Qa1,h,h',Option.bind_some,Option.map_some]
theorem QkM (a b:Bool):neD (.bl a) ef=some (.fz, .bl (decide (a≠b))):=by cases a<;>cases b<;>rfl
def Qe2 (ps:List Path):List Path:=ps.map fun p=>(p.1,p.2.1,none)
section
variable {n last:Nat}{ps:List Path}{rs:List Run}{ss:List Sign}{s:Sn}{z:Bool}{d:D}
theorem NetOk.loose (ok:NetOk n ps):NetOk n (Qe2 ps):=by
 have m:∀{P:Nat->Nat->Prop},(∀p∈ps,P p.1 p.2.1)->∀p∈Qe2 ps,P p.1 p.2.1:=fun h p hp=>by
  obtain⟨q,hq,rfl⟩:=List.mem_map.1 hp
  exact h q hq
 refine⟨ok.n1,ok.n8,m (P:=fun a _=>a<n) ok.s,m (P:=fun _ a=>a<n) ok.g,m (P:=fun a b=>a≠b) ok.ne,fun p hp m e=>?_,?_⟩
 .obtain⟨q,hq,rfl⟩:=List.mem_map.1 hp
  cases e
 .unfold Qe2
  rw[List.map_map]
  exact ok.nd
theorem GdT.loose (g:GdT n ps last rs ss):GdT n (Qe2 ps) last rs ss:=
 ⟨⟨fun r hr=>by
  obtain⟨o,ho,_⟩:=g.runs.path r hr
  exact⟨none,List.mem_map.2 ⟨_,ho,rfl⟩,fun _ e=>by cases e⟩,g.runs.turn,g.runs.nd⟩,fun a b m l h=>by
  obtain⟨q,_,e⟩:=List.mem_map.1 h
  simp at e,g.sh,g.snd,g.snm,g.slen⟩
theorem Qln (hps:ps.length<=64):QgI (QC 0) cS (eTup jx) [none] (.ok eN)= .ok .ow (.lst ((Qe2 ps).map Qan)):=by
 have:=Qc3 (b:=QC 0) (e:=eTup jx) (ev:= [none]) (enc:=Qan) (l:=ps) (fun p=>Qan (p.1,p.2.1,none)) (by simp[LIM];omega) (fun p _=>by
  refine⟨_,rfl, .fz,by simp,?_⟩
  simp(disch:=first|omega|rfl) [Qan])
 rw[this,Qe2,List.map_map];rfl
theorem Qqy (ok:NetOk n ps)(hps:ps.length<=64)(hl:last<=24)(hd:s.dep<12)(o:s.ok n last)(g:GdT n ps last rs ss)(hy:Hd n ps last s rs ss):QF [s.d,netD n ps,Qp last rs ss]= .ok .fz aT:=by
 have nin:∀{x:Str} {b:Bool},PyData.strOk x=true->decide (x∉ [Str.ofString "both",Str.ofString "either"])=b->QaF dY (.lst [.str bf, .str aY])=some (.fz, .bl b):=fun hx hb=>by
  rw[Qc1 rfl (by simp only[pl];exact hx) ao,←hb]
  congr 3
  rw[decide_eq_decide];simp
 have el:=wbb
 have cut2:∀a b c:D,slD kD (some 1) none=some (.fz, .tup [b,c]):=fun _ _ _=>rfl
 have cmp:∀(a b:Sn) (za zb:Bool),Qs 12 [a.d]= .ok .fz a.o->Qs 12 [b.d]= .ok .fz b.o->QcP "holds" 3 Qz (.ok .fz a.o) cz= .ok .fz (.bl za)->QcP "holds" 3 Qz (.ok .fz b.o) cz= .ok .fz (.bl zb)->QgI rS cS l8 [some (.fz,netD n ps),some (.fz,Qp last rs ss),none] (.ok [a.d,b.d])= .ok .ow tH:=fun a b za zb oa ob ha hb=>
  Qc3 (b:=QC 2) (e:=QcQ "holds" 3 Qz (eFn 1 jM bj) (Qc ap fZ)) (ev:= [some (.fz,netD n ps),some (.fz,Qp last rs ss),none]) (enc:=fun x:Sn×Bool=>x.1.d) (l:= [(a,za),(b,zb)]) (fun x=> .bl x.2) (by simp[LIM]) (fun x hx=>by
   have hh:Qs 12 [x.1.d]= .ok .fz x.1.o/\QcP "holds" 3 Qz (.ok .fz x.1.o) cz= .ok .fz (.bl x.2):=by
    simp only[List.mem_cons,List.not_mem_nil,or_false]at hx
    rcases hx with rfl|rfl
    .exact⟨oa,ha⟩
    .exact⟨ob,hb⟩
   refine⟨_,rfl, .fz,by simp,?_⟩
   simp(disch:=first|omega|rfl) [hh.1,hh.2])
 cases s with
 |came x u=>
  have i0:idxD (Sn.d tM) cQ=some (.fz, .str lR):=by simp[Sn.d]
  have ni:=nin (x:=Str.ofString "came") (b:=true) ao ah
  generalize Sn.d tM=sd at *
  refine Qt ik rfl ?_
  simp(disch:=first|omega|rfl) [ev0,QU,i0,ni]
 |knows h t a=>
  have i0:idxD nO cQ=some (.fz, .str bF):=by simp[Sn.d]
  have ni:=nin (x:=Str.ofString "knows") (b:=true) ao ah
  generalize Sn.d dJ=sd at *
  refine Qt ik rfl ?_
  simp(disch:=first|omega|rfl) [ev0,QU,i0,ni]
 |shared hs t a=>
  have i0:idxD nP cQ=some (.fz, .str bL):=by simp[Sn.d]
  have ni:=nin (x:=Str.ofString "shared") (b:=true) ao ah
  generalize Sn.d cY=sd at *
  refine Qt ik rfl ?_
  simp(disch:=first|omega|rfl) [ev0,QU,i0,ni]
 |both a b=>
  simp only[Sn.dep]at hd
  have oa:=Q2 (n:=n) (last:=last) a 12 aa o.1
  have ob:=Q2 (n:=n) (last:=last) b 12 aa o.2
  obtain⟨za,ha,ia⟩:=Qcz ok hps hl a aa o.1 g
  obtain⟨zb,hb,ib⟩:=Qcz ok hps hl b aa o.2 g
  obtain rfl:=ia.2 hy.1
  obtain rfl:=ib.2 hy.2
  have ni:=nin (x:=Str.ofString "both") (b:=false) ao ah
  have eq:eqD qu qu=some (.fz, .bl true):=by rfl
  have sd:Sn.d iJ= .tup [.str bf,a.d,b.d]:=rfl
  have hc:=cmp a b true true oa ob ha hb
  rw[sd]
  refine Qt (QF [.tup [.str bf,a.d,b.d],netD n ps,Qp last rs ss]) rfl ?_
  simp(disch:=first|omega|rfl) [ev0,QU,ni,Qa6,cut2,hc,el,eq]
 |either a b=>
  simp only[Sn.dep]at hd
  have oa:=Q2 (n:=n) (last:=last) a 12 aa o.1
  have ob:=Q2 (n:=n) (last:=last) b 12 aa o.2
  obtain⟨za,ha,ia⟩:=Qcz ok hps hl a aa o.1 g
  obtain⟨zb,hb,ib⟩:=Qcz ok hps hl b aa o.2 g
  have ni:=nin (x:=Str.ofString "either") (b:=false) ao ah
  have hz:za=true\/zb=true:=hy.imp ia.2 ib.2
  have inb:inD aT tH=some (.fz, .bl true):=by
   cases za<;>cases zb<;>first|rfl|(simp at hz)
  have sd:Sn.d gm= .tup [.str aY,a.d,b.d]:=rfl
  have hc:=cmp a b za zb oa ob ha hb
  rw[sd]
  refine Qt (QF [.tup [.str aY,a.d,b.d],netD n ps,Qp last rs ss]) rfl ?_
  simp(disch:=first|omega|rfl) [ev0,QU,ni,Qa6,cut2,hc,web,inb]
theorem Qoc (ok:NetOk n ps)(hps:ps.length<=64)(hl:last<=24)(hd:s.dep<12)(o:s.ok n last)(so:SignsOk n last ss)(g:GdT n ps last rs ss)(st:∀x∈ss,x.2.1<=last){S:D}(hz:QcP "holds" 3 Qz qt cz= .ok .fz (.bl z))(iz:z=true↔Hd n ps last s rs ss):
  TailOk "doubt" 3 kQ t_g t_s 12 t_i t_1 t_2 t_3 t_5 t_6 t_7 t_8 t_9 (ev11 (some (.fz,S),some (.fz,netD n ps),some (.fz,Qp last rs ss),some (.fz,s.d),some (.fz,s.o),some (.fz, .tup [netD n ps,Qp last rs ss]),some (.fz, .bl z)) none none none none):=by
 obtain⟨o',hs,ox⟩:=QgH s
 obtain⟨d,e,v⟩:=QbU ok hps hl (QsD (n:=n) (ps:=ps)) s 12 hd o g (Qqm (last:=last) (rs:=rs) (ss:=ss)) ox
 obtain⟨z',hz',iz'⟩:=v.isN
 obtain rfl:z'=z:=by rw[Bool.eq_iff_iff,iz,iz']
 obtain⟨c,ns,xs,ho,isc⟩:=Qvv s
 have hob:=Q2 (n:=n) (last:=last) s 12 hd o
 obtain⟨zl,hzl,_⟩:=Qcz ok.loose (by simpa[Qe2]using hps) hl s hd o g.loose
 have lc:=Qln hps
 have hh:=QmE (n:=n) (last:=last) (ps:=ps) (rs:=rs) so
 have nh:neD im im=some (.fz, .bl false):=by rw[Qed hh hh];simp
 have k0:∀b:Bool,isiD [.bl b, .ty "bool"]=some (.fz, .bl true):=fun _=>(rfl)
 have nz:=QkM z' z'
 have nl:=QkM zl zl
 have ez:eqD (.bl z') (.bl z')=some (.fz, .bl true):=by cases z'<;>rfl
 have nn:Qd6 d .non=some (.fz, .bl (!z')):=by
  rcases v with⟨h,rfl⟩|⟨h,k⟩
  .rw[iz'.2 h];rfl
  .obtain⟨l,rfl⟩:=k.tup
   have:z'=false:=by cases z' with
    |false=>rfl
    |true=>exact absurd (iz'.1 rfl) h
   rw[this];rfl
 have ex:∃c ns xs φ ds ds',s.o= .obj c ns xs/\(Str.ofString "doubt")∉ns/\(Qj 12).lookup c=some φ/\ds= [netD n ps,Qp last rs ss]/\Qa1 (.obj c ns xs::ds)=some ds'/\φ ds'= .ok .fz d:=by
  have hs':=hs
  rw[ho]at hs'
  rw[Qca]at hs'
  cases q:Qa1 xs with
  |none=>rw[q]at hs';cases hs'
  |some xs'=>
   rw[q]at hs'
   cases hs'
   obtain⟨hm,φ,e1,e2⟩:=Qoa e
   refine⟨c,ns,xs,φ,_,[.obj c ns xs',netS n ps,QjX last rs ss],ho,hm,e1,rfl,?_,e2⟩
   rw[Qa1,←ho,hs,Qa1,Qob,Qa1,QmR];rfl
 obtain⟨c,ns,xs,φ,ds,ds',f1,f2,f3,rfl,f5,f6⟩:=ex
 refine⟨_,d,netD n (Qe2 ps), .bl z', !z',rfl,?_,fun x8 x9=>⟨c,ns,xs,φ,_,ds',?_,f2,f3,?_,rfl,f5,f6⟩,?_,?_,?_,?_,fun x9=>?_,fun x9=>?_,fun hb=>⟨fun x9=>?_,?_⟩,fun x9=>?_,fun x9=>?_⟩
 .intro i k d h
  match i,h with
  |0,h=>cases h;rfl
  |1,h=>cases h;rfl
  |2,h=>cases h;rfl
  |3,h=>cases h;rfl
  |4,h=>cases h;rfl
  |5,h=>cases h;rfl
  |6,h=>cases h;rfl
  |7,h=>cases h
  |8,h=>cases h
  |9,h=>cases h
  |10,h=>cases h
  |i+11,h=>simp at h
 .rw[←f1]
  simp(disch:=first|omega|rfl) [t_g]
 .simp(disch:=first|omega|rfl) [t_s]
 .simp(disch:=first|omega|rfl) [t_1,k0,hz',nz,nh]
 .rcases v with⟨h,rfl⟩|⟨h,k⟩
  .have pk:=Qqy ok hps hl hd o g h
   have:z'=true:=iz'.2 h
   subst this
   simp(disch:=first|omega|rfl) [t_2,pk]
  .have:z'=false:=by cases z' with
    |false=>rfl
    |true=>exact absurd (iz'.1 rfl) h
   subst this
   simp(disch:=first|omega|rfl) [t_2,hz']
 .simp(disch:=first|omega|rfl) [t_3,QjU,Qi9,lc]
  rfl
 .simp(disch:=first|omega|rfl) [t_i]
  rfl
 .simp(disch:=first|omega|rfl) [t_5,hob,hzl,nl]
 .simp(disch:=first|omega|rfl) [t_6,nn]
 .have hn:¬Hd n ps last s rs ss:=fun q=>by rw[iz'.2 q]at hb;cases hb
  rcases v with⟨h,_⟩|⟨_,k⟩
  .exact absurd h hn
  .have w:=Qa9 ok hps hl s 12 hd aa o g st k
   simp(disch:=first|omega|rfl) [t_7,w]
 .have hn:¬Hd n ps last s rs ss:=fun q=>by rw[iz'.2 q]at hb;cases hb
  rcases v with⟨h,_⟩|⟨_,k⟩
  .exact absurd h hn
  .exact k.sh hd
 .simp(disch:=first|omega|rfl) [t_8,hz]
 .simp(disch:=first|omega|rfl) [t_9,isc,ez,hz']
end
theorem law_ok (ns:List Int)(hl:ns.length<=63):Qhi [.scr aI]= .ok .fz aT:=by
 obtain⟨n,ps,ok,hps,_,hnet⟩:=QsC ns
 obtain⟨last,rs,ss,gt,hlast,hrs,hss,htale⟩:=Qqi ns ok hps
 have so:=gt.signs
 have g:GdT n ps last rs ss:=⟨gt.runs,gt.due,so.h,so.nd,fun x hx=>QsM (so.nm x hx),by omega⟩
 obtain⟨s,sd,sok,hst⟩:=Qj1 (ns:=ns) (ps:=ps) (last:=last) (rs:=rs) ok.n1 ok.n8 g.snm hss 12 4 0 aa ah
 have hst:Q0 12 [.scr aI,netD n ps,Qp last rs ss, .int 4, .int 0]= .ok .fz s.d:=hst
 have hob:=Q2 (n:=n) (last:=last) s 12 aa sok
 have hd:s.dep<12:=by omega
 obtain⟨z,hz,iz⟩:=Qcz ok hps hlast s hd sok g
 have tl:=Qoc (S:= .scr aI) ok hps hlast hd sok so g so.t hz iz
 have hN:D.tup [.int n, .lst eN]=netD n ps:=rfl
 have hT:D.tup [.int last, .lst b6, .lst cn]=Qp last rs ss:=rfl
 have l1:ps.length<=LIM:=by simp[LIM];omega
 have l2:rs.length<=LIM:=by simp[LIM];omega
 have l3:ss.length<=LIM:=by simp[LIM];omega
 have v0:=Q1 (last:=last) (rs:=rs) (ss:=ss)
 have v1:=Qdl (last:=last) (rs:=rs) (ss:=ss)
 have v2:=QQ (last:=last) (rs:=rs) (ss:=ss)
 generalize Qp last rs ss=T at *
 refine Qt (Qhi [.scr aI]) rfl ?_
 simp(disch:=first|omega|rfl) [ev0,Qqe,hnet,htale,hst,hob,QjU,Qi9,l1,l2,l3,v0,v1,v2,hN,hT,hz]
 rw[QnP,if_pos tl]
 simp(disch:=first|omega|rfl) []
theorem QsP {P:Program}{w:World}{K:PySem.W.Frag}{h:Heap}{mg:Str->Option Value}{fa f0 f1 f2 f3 f4 f5 f6 f7 f8 f9 f10 f11 f12 f13 f14 f15 f16 f17 f18 f19 f20 f21 f22 f23 f24 f25 f26 f27 f28:Addr}(X:K.In h)(G:h.Ns mainGlobals mg)(hfa:mg "law"=some gL)
  (a0:Gf K "_law_emptied" QdG f0)
  (a1:Gf K "_law_cell_at" QdH f1)
  (a2:Gf K "_law_mix" QjK f2)
  (a3:Gf K "_law_net" QjL f3)
  (a4:Gf K "_law_object" QeH f4)
  (a5:Gf K "come_of" QdJ f5)
  (a6:Gf K "walk_back" Qcq f6)
  (a7:Gf K "heard_by" QbP f7)
  (a8:Gf K "seen" Qek f8)
  (a9:Gf K "latest_runs" QaS f9)
  (a10:Gf K "run_key" QdL f10)
  (a11:Gf K "slowest" Qct f11)
  (a12:Gf K "slowed" QeI f12)
  (a13:Gf K "ordered" QdQ f13)
  (a14:Gf K "common_steps" Qbn f14)
  (a15:Gf K "end_of" QeK f15)
  (a16:Gf K "_law_parts_hold" Qbe f16)
  (a17:Gf K "_law_signs" QfZ f17)
  (a18:Gf K "_law_tale" QhV f18)
  (a19:Gf K "_law_tree" Qel f19)
  (a20:Gf K "_law_whole" Qf5 f20)
  (a21:Gf K "_law_good" QhX f21)
  (a22:Gf K "_law_ends" QhZ f22)
  (a23:Gf K "_law_seen" Qen f23)
  (a24:Gf K "_law_tale_kind" Qcv f24)
  (a25:Gf K "_law_looks" Qgm f25)
  (a26:Gf K "_law_none_came" Qcx f26)
  (a27:Gf K "_law_walk" Qh2 f27)
  (a28:Gf K "law" QnR f28)
  (z_abs:PySem.W.nsIn K mainGlobals "abs"=some none)
  (z_bool:PySem.W.nsIn K mainGlobals "bool"=some none)
  (z_int:PySem.W.nsIn K mainGlobals "int"=some none)
  (z_isinstance:PySem.W.nsIn K mainGlobals "isinstance"=some none)
  (z_len:PySem.W.nsIn K mainGlobals "len"=some none)
  (z_list:PySem.W.nsIn K mainGlobals "list"=some none)
  (z_min:PySem.W.nsIn K mainGlobals "min"=some none)
  (z_range:PySem.W.nsIn K mainGlobals "range"=some none)
  (z_sorted:PySem.W.nsIn K mainGlobals "sorted"=some none)
  (z_str:PySem.W.nsIn K mainGlobals "str"=some none)
  (z_tuple:PySem.W.nsIn K mainGlobals "tuple"=some none)
  {K_Sentence:Addr}
  (n_Sentence:PySem.W.nsIn K mainGlobals "Sentence"=some (some dg))
  {K_Came:Addr}
  (n_Came:PySem.W.nsIn K mainGlobals "Came"=some (some j4))
  {K_Both:Addr}
  (n_Both:PySem.W.nsIn K mainGlobals "Both"=some (some j5))
  {K_Either:Addr}
  (n_Either:PySem.W.nsIn K mainGlobals "Either"=some (some iS))
  {K_Knows:Addr}
  (n_Knows:PySem.W.nsIn K mainGlobals "Knows"=some (some g7))
  {K_Shared:Addr}
  (n_Shared:PySem.W.nsIn K mainGlobals "Shared"=some (some gu))
  (Cl_Sentence:Cls K K_Sentence)
  (Cl_Came:Cls K K_Came)
  (na_Came_name:PySem.W.findIn K j4 "name"=some none)
  (na_Came_by:PySem.W.findIn K j4 "by"=some none)
  (Cl_Both:Cls K K_Both)
  (na_Both_one:PySem.W.findIn K j5 "one"=some none)
  (na_Both_other:PySem.W.findIn K j5 "other"=some none)
  (Cl_Either:Cls K K_Either)
  (na_Either_one:PySem.W.findIn K iS "one"=some none)
  (na_Either_other:PySem.W.findIn K iS "other"=some none)
  (Cl_Knows:Cls K K_Knows)
  (na_Knows_house:PySem.W.findIn K g7 "house"=some none)
  (na_Knows_turn:PySem.W.findIn K g7 "turn"=some none)
  (na_Knows_inside:PySem.W.findIn K g7 "inside"=some none)
  (Cl_Shared:Cls K K_Shared)
  (na_Shared_houses:PySem.W.findIn K gu "houses"=some none)
  (na_Shared_turn:PySem.W.findIn K gu "turn"=some none)
  (na_Shared_inside:PySem.W.findIn K gu "inside"=some none)
  {f_M_Both_init:Addr}
  (mk_Both:Mk K K_Both f_M_Both_init)
  (t_M_Both_init:Tf K "__init__" "Both.__init__" Qcm f_M_Both_init .none)
  {f_M_Came_init:Addr}
  (mk_Came:Mk K K_Came f_M_Came_init)
  {T_M_Came_init:Addr}
  (t_M_Came_init:Tf K "__init__" "Came.__init__" Qcn f_M_Came_init (.ref T_M_Came_init))
  {tc_M_Came_init:Value} {td_M_Came_init:Option Addr} {tn_M_Came_init:Nat} {ts_M_Came_init:Array fm}
  (dt_M_Came_init:K.lookup T_M_Came_init=some ⟨tc_M_Came_init,td_M_Came_init, .seq #[Value.none] tn_M_Came_init,ts_M_Came_init⟩)
  {f_M_Either_init:Addr}
  (mk_Either:Mk K K_Either f_M_Either_init)
  (t_M_Either_init:Tf K "__init__" "Either.__init__" QbE f_M_Either_init .none)
  {f_M_Knows_init:Addr}
  (mk_Knows:Mk K K_Knows f_M_Knows_init)
  (t_M_Knows_init:Tf K "__init__" "Knows.__init__" QbY f_M_Knows_init .none)
  {f_M_Shared_init:Addr}
  (mk_Shared:Mk K K_Shared f_M_Shared_init)
  (t_M_Shared_init:Tf K "__init__" "Shared.__init__" QbF f_M_Shared_init .none)
  {f_M_Sentence_doubt:Addr}
  (me_Sentence_doubt:Meth K K_Sentence "doubt" f_M_Sentence_doubt)
  (t_M_Sentence_doubt:Mf K "doubt" "Sentence.doubt" QaT f_M_Sentence_doubt)
  {f_M_Came_doubt:Addr}
  (me_Came_doubt:Meth K K_Came "doubt" f_M_Came_doubt)
  (t_M_Came_doubt:Mf K "doubt" "Came.doubt" Qb0 f_M_Came_doubt)
  {f_M_Both_doubt:Addr}
  (me_Both_doubt:Meth K K_Both "doubt" f_M_Both_doubt)
  (t_M_Both_doubt:Mf K "doubt" "Both.doubt" Qb1 f_M_Both_doubt)
  {f_M_Either_doubt:Addr}
  (me_Either_doubt:Meth K K_Either "doubt" f_M_Either_doubt)
  (t_M_Either_doubt:Mf K "doubt" "Either.doubt" Qbp f_M_Either_doubt)
  {f_M_Knows_doubt:Addr}
  (me_Knows_doubt:Meth K K_Knows "doubt" f_M_Knows_doubt)
  (t_M_Knows_doubt:Mf K "doubt" "Knows.doubt" QbL f_M_Knows_doubt)
  {f_M_Shared_doubt:Addr}
  (me_Shared_doubt:Meth K K_Shared "doubt" f_M_Shared_doubt)
  (t_M_Shared_doubt:Mf K "doubt" "Shared.doubt" Qbr f_M_Shared_doubt)
  {f_M_Sentence_holds:Addr}
  (me_Sentence_holds:Meth K K_Sentence "holds" f_M_Sentence_holds)
  (t_M_Sentence_holds:Mf K "holds" "Sentence.holds" QaV f_M_Sentence_holds)
  (me_Came_holds:Meth K K_Came "holds" f_M_Sentence_holds)
  (me_Both_holds:Meth K K_Both "holds" f_M_Sentence_holds)
  (me_Either_holds:Meth K K_Either "holds" f_M_Sentence_holds)
  (me_Knows_holds:Meth K K_Knows "holds" f_M_Sentence_holds)
  (me_Shared_holds:Meth K K_Shared "holds" f_M_Sentence_holds)
  (hcn:PySem.W.specialIn K aP "__get__"=some fu)
  (hct:PySem.W.takesIn K aP=some true)
  (ha_Sentence:PySem.W.findIn K dg "__class__"=some jf)
  (hm_Sentence:PySem.W.mroIn K K_Sentence eE=some true)
  (kt_Sentence_Sentence:PySem.W.kitOne K dg dg=some true)
  (ha_Came:PySem.W.findIn K j4 "__class__"=some jf)
  (hm_Came:PySem.W.mroIn K K_Came eE=some true)
  (kt_Sentence_Came:PySem.W.kitOne K j4 dg=some true)
  (ha_Both:PySem.W.findIn K j5 "__class__"=some jf)
  (hm_Both:PySem.W.mroIn K K_Both eE=some true)
  (kt_Sentence_Both:PySem.W.kitOne K j5 dg=some true)
  (ha_Either:PySem.W.findIn K iS "__class__"=some jf)
  (hm_Either:PySem.W.mroIn K K_Either eE=some true)
  (kt_Sentence_Either:PySem.W.kitOne K iS dg=some true)
  (ha_Knows:PySem.W.findIn K g7 "__class__"=some jf)
  (hm_Knows:PySem.W.mroIn K K_Knows eE=some true)
  (kt_Sentence_Knows:PySem.W.kitOne K g7 dg=some true)
  (ha_Shared:PySem.W.findIn K gu "__class__"=some jf)
  (hm_Shared:PySem.W.mroIn K K_Shared eE=some true)
  (kt_Sentence_Shared:PySem.W.kitOne K gu dg=some true)
  :∃fd:FuncData,(∀(s:Shared) (v:Value),BindsTo s fd ⟨[v],[]⟩ [("_law_script",v)])/\∀base:Heap,K.In base->base.Ns mainGlobals mg->FnOk P w K mg base CX0 33 fa fd ["_law_script"] (spV0 K Qhi 1):=by
 have m_abs:=PySem.W.mg_none_of X G z_abs
 have m_bool:=PySem.W.mg_none_of X G z_bool
 have m_int:=PySem.W.mg_none_of X G z_int
 have m_isinstance:=PySem.W.mg_none_of X G z_isinstance
 have m_len:=PySem.W.mg_none_of X G z_len
 have m_list:=PySem.W.mg_none_of X G z_list
 have m_min:=PySem.W.mg_none_of X G z_min
 have m_range:=PySem.W.mg_none_of X G z_range
 have m_sorted:=PySem.W.mg_none_of X G z_sorted
 have m_str:=PySem.W.mg_none_of X G z_str
 have m_tuple:=PySem.W.mg_none_of X G z_tuple
 have FO_Both_one:QaZ K ["Both"] "one":=(Qau n_Both Cl_Both na_Both_one Qbk)
 have FO_Both_other:QaZ K ["Both"] "other":=(Qau n_Both Cl_Both na_Both_other Qbk)
 have FO_Came_by:QaZ K ["Came"] "by":=(Qau n_Came Cl_Came na_Came_by Qbk)
 have FO_Came_name:QaZ K ["Came"] "name":=(Qau n_Came Cl_Came na_Came_name Qbk)
 have FO_Either_one:QaZ K ["Either"] "one":=(Qau n_Either Cl_Either na_Either_one Qbk)
 have FO_Either_other:QaZ K ["Either"] "other":=(Qau n_Either Cl_Either na_Either_other Qbk)
 have FO_Knows_house:QaZ K ["Knows"] "house":=(Qau n_Knows Cl_Knows na_Knows_house Qbk)
 have FO_Knows_inside:QaZ K ["Knows"] "inside":=(Qau n_Knows Cl_Knows na_Knows_inside Qbk)
 have FO_Knows_turn:QaZ K ["Knows"] "turn":=(Qau n_Knows Cl_Knows na_Knows_turn Qbk)
 have FO_Shared_houses:QaZ K ["Shared"] "houses":=(Qau n_Shared Cl_Shared na_Shared_houses Qbk)
 have FO_Shared_inside:QaZ K ["Shared"] "inside":=(Qau n_Shared Cl_Shared na_Shared_inside Qbk)
 have FO_Shared_turn:QaZ K ["Shared"] "turn":=(Qau n_Shared Cl_Shared na_Shared_turn Qbk)
 have IS_Sentence:∃S,mg "Sentence"=some pQ/\IsOk K S [("Sentence",true),("Came",true),("Both",true),("Either",true),("Knows",true),("Shared",true)]:=⟨K_Sentence,PySem.W.mg_of X G n_Sentence,(QeB ⟨n_Sentence,Cl_Sentence,ha_Sentence,hcn,hct,hm_Sentence,kt_Sentence_Sentence⟩ (QeB ⟨n_Came,Cl_Came,ha_Came,hcn,hct,hm_Came,kt_Sentence_Came⟩ (QeB ⟨n_Both,Cl_Both,ha_Both,hcn,hct,hm_Both,kt_Sentence_Both⟩ (QeB ⟨n_Either,Cl_Either,ha_Either,hcn,hct,hm_Either,kt_Sentence_Either⟩ (QeB ⟨n_Knows,Cl_Knows,ha_Knows,hcn,hct,hm_Knows,kt_Sentence_Knows⟩ (QeB ⟨n_Shared,Cl_Shared,ha_Shared,hcn,hct,hm_Shared,kt_Sentence_Shared⟩ Qr0))))))⟩
 refine Qsr X G hfa a28 fun base _ F=>?_
 have z:= @cal P w K mg base h
 have CZ:=calS (P:=P) (w:=w) (base:=base) X G a0 fun _ F b m k=>QiY F b m k
 have C_L_cell_at:=z X G a1 fun _ F=>Qi0 F m_len
 have C_L_mix:=z X G a2 fun _ F=>QnS F m_range
 have C_L_net:=z X G a3 fun _ F=>QnT F m_abs m_range C_L_cell_at C_L_mix
 have M_Both_0:MkOk P w K mg base 1 "Both" ["one","other"] QhT 3 []:=mko (dvs:= []) (ds:= []) X G n_Both Cl_Both (QaO na_Both_one (QaO na_Both_other Qg8)) mk_Both t_M_Both_init (fun _ F=>QgK F) (fun _ _ _ _ _ _=>Qb9 3 rfl fun s us kin hl=>match us,hl with| [_,_,_],_=> .of_eq rfl) .nil fun F=> .nil
 have M_Came_0:MkOk P w K mg base 1 "Came" ["name","by"] QdI 3 []:=mko (dvs:= []) (ds:= []) X G n_Came Cl_Came md mk_Came t_M_Came_init (fun _ F=>QdC F) (fun _ _ _ _ _ _=>Qb9 3 rfl fun s us kin hl=>match us,hl with| [_,_,_],_=>PySem.W.binds_K kin rfl dt_M_Came_init rfl rfl rfl) .nil fun F=> .nil
 have M_Came_1:MkOk P w K mg base 1 "Came" ["name","by"] QdI 3 [.non]:=mko (dvs:= [V.non]) (ds:= [Value.none]) X G n_Came Cl_Came md mk_Came t_M_Came_init (fun _ F=>QdC F) (fun _ _ _ _ _ _=>Qb9 2 rfl fun s us kin hl=>match us,hl with| [_,_],_=>PySem.W.binds_K kin rfl dt_M_Came_init rfl rfl rfl) (.cons rfl .nil) fun F=>(.cons (by rw[Rep]) .nil)
 have M_Either_0:MkOk P w K mg base 1 "Either" ["one","other"] Qeg 3 []:=mko (dvs:= []) (ds:= []) X G n_Either Cl_Either (QaO na_Either_one (QaO na_Either_other Qg8)) mk_Either t_M_Either_init (fun _ F=>Qfc F) (fun _ _ _ _ _ _=>Qb9 3 rfl fun s us kin hl=>match us,hl with| [_,_,_],_=> .of_eq rfl) .nil fun F=> .nil
 have M_Knows_0:MkOk P w K mg base 1 "Knows" ["house","turn","inside"] Qfs 4 []:=mko (dvs:= []) (ds:= []) X G n_Knows Cl_Knows (QaO na_Knows_house (QaO na_Knows_turn (QaO na_Knows_inside Qg8))) mk_Knows t_M_Knows_init (fun _ F=>Qgy F) (fun _ _ _ _ _ _=>Qb9 4 rfl fun s us kin hl=>match us,hl with| [_,_,_,_],_=> .of_eq rfl) .nil fun F=> .nil
 have M_Shared_0:MkOk P w K mg base 1 "Shared" ["houses","turn","inside"] Qeh 4 []:=mko (dvs:= []) (ds:= []) X G n_Shared Cl_Shared (QaO na_Shared_houses (QaO na_Shared_turn (QaO na_Shared_inside Qg8))) mk_Shared t_M_Shared_init (fun _ F=>Qfe F m_list) (fun _ _ _ _ _ _=>Qb9 4 rfl fun s us kin hl=>match us,hl with| [_,_,_,_],_=> .of_eq rfl) .nil fun F=> .nil
 have C_L_object:∀n,Callee P w K mg base (2+n) "_law_object" 1 (Qs n):=by
  intro n;induction n with
  |zero=>exact z (ps:=Qco) X G a4 fun _ _=>QpU fun _=>rfl
  |succ n ih=>exact z X G a4 fun _ F=>QjO F M_Both_0 M_Came_0 M_Came_1 M_Either_0 M_Knows_0 M_Shared_0 ih
 have C_L_object:Callee P w K mg base 14 "_law_object" 1 jM:=C_L_object 12
 have C_P_come_of:=z X G a5 fun _ F=>Qi2 F
 have C_P_walk_back:=z X G a6 fun _ F=>QgM F m_sorted C_P_come_of
 have C_P_heard_by:=z X G a7 fun _ F=>Qh4 F C_P_walk_back
 have C_P_seen:=z X G a8 fun _ F=>Qmv F m_sorted C_P_heard_by
 have C_P_latest_runs:=z X G a9 fun _ F=>Qff F m_range
 have C_P_run_key:=z X G a10 fun _ F=>Qi4 F
 have C_P_slowest:=z X G a11 fun _ F=>Qi5 F m_list m_sorted C_P_latest_runs C_P_run_key
 have C_P_slowed:=z X G a12 fun _ F=>QjQ F C_P_seen C_P_slowest
 have C_P_ordered:=z X G a13 fun _ F=>Qi7 F m_sorted
 have C_P_common_steps:=z X G a14 fun _ F=>QeO F m_len C_P_ordered C_P_slowed
 have C_P_end_of:=z X G a15 fun _ F=>QjS F
 have D_doubt:∀n,Qaq P w K mg base (7+n) "doubt" 3 j2:=by
  intro n;induction n with
  |zero=>exact QhG
  |succ n ih=>exact(Qfa n_Sentence Cl_Sentence me_Sentence_doubt t_M_Sentence_doubt (fun _ F=>Qd3 F ih) (Qfa n_Came Cl_Came me_Came_doubt t_M_Came_doubt (fun _ F=>Qgz F FO_Came_by FO_Came_name ih) (Qfa n_Both Cl_Both me_Both_doubt t_M_Both_doubt (fun _ F=>QgA F FO_Both_one FO_Both_other ih) (Qfa n_Either Cl_Either me_Either_doubt t_M_Either_doubt (fun _ F=>QeP F FO_Either_one FO_Either_other ih) (Qfa n_Knows Cl_Knows me_Knows_doubt t_M_Knows_doubt (fun _ F=>Qfg F C_P_slowed FO_Knows_house FO_Knows_inside FO_Knows_turn ih) (Qfa n_Shared Cl_Shared me_Shared_doubt t_M_Shared_doubt (fun _ F=>QeQ F C_P_common_steps C_P_end_of FO_Shared_houses FO_Shared_inside FO_Shared_turn ih) QhG))))))
 have D_doubt:Qaq P w K mg base 19 "doubt" 3 kQ:=D_doubt 12
 have D_holds:Qaq P w K mg base 20 "holds" 3 Qz:=(Qfa n_Sentence Cl_Sentence me_Sentence_holds t_M_Sentence_holds (fun _ F=>QI F D_doubt) (Qfa n_Came Cl_Came me_Came_holds t_M_Sentence_holds (fun _ F=>QI F D_doubt) (Qfa n_Both Cl_Both me_Both_holds t_M_Sentence_holds (fun _ F=>QI F D_doubt) (Qfa n_Either Cl_Either me_Either_holds t_M_Sentence_holds (fun _ F=>QI F D_doubt) (Qfa n_Knows Cl_Knows me_Knows_holds t_M_Sentence_holds (fun _ F=>QI F D_doubt) (Qfa n_Shared Cl_Shared me_Shared_holds t_M_Sentence_holds (fun _ F=>QI F D_doubt) QhG))))))
 have C_L_parts_hold:=z X G a16 fun _ F=>QgB F C_L_object D_holds
 have C_L_signs:=z X G a17 fun _ F=>Qld F m_range C_L_cell_at C_L_mix
 have C_L_tale:=z X G a18 fun _ F=>Qmw F m_min m_range C_L_cell_at C_L_mix C_L_signs
 have C_L_tree:∀n,Callee P w K mg base (1+n) "_law_tree" 5 (Q0 n):=by
  intro n;induction n with
  |zero=>exact z (ps:=Qem) X G a19 fun _ _=>QpU fun _=>rfl
  |succ n ih=>exact z X G a19 fun _ F=>Qmx F m_len m_range C_L_cell_at C_L_mix ih
 have C_L_tree:Callee P w K mg base 13 "_law_tree" 5 (Q0 12):=C_L_tree 12
 have C_L_whole:=z X G a20 fun _ F=>Qlf F m_bool m_int m_isinstance
 have C_L_good:=z X G a21 fun _ F=>Qmy F m_isinstance m_len m_range m_tuple C_L_whole
 have C_L_ends:=z X G a22 fun _ F=>Qmz F
 have C_L_seen:=z X G a23 fun _ F=>QmA F m_sorted C_L_ends
 have C_L_tale_kind:=z X G a24 fun _ F=>QgO F m_isinstance m_len m_list m_tuple C_L_whole
 have C_L_looks:=z X G a25 fun _ F=>Qlh F C_L_good C_L_seen C_L_tale_kind
 have C_L_none_came:=z X G a26 fun _ F=>QgP F
 have C_L_walk:∀n,Callee P w K mg base (20+n) "_law_walk" 4 (Qab n):=by
  intro n;induction n with
  |zero=>exact z (ps:=Qeq) X G a27 fun _ _=>QpU fun _=>rfl
  |succ n ih=>exact z X G a27 fun _ F=>QmB F m_isinstance m_len m_list m_str m_tuple C_L_looks C_L_none_came C_L_object C_L_whole D_holds ih
 have C_L_walk:Callee P w K mg base 32 "_law_walk" 4 (Qab 12):=C_L_walk 12
 exact Qsz F m_bool m_isinstance m_list m_range C_L_net C_L_object C_L_parts_hold C_L_tale C_L_tree C_L_walk CZ D_doubt D_holds IS_Sentence
theorem walk {l:PySem.W.OpenLaw}{q:Program}{loose:List Str}{XP:jg->Heap->Prop}{YP:World->Heap->Prop}{d:DefRec}{K:Params->PySem.W.Frag}(hn:l.most=some 63)(hdf:d.params.defaults= [])
  (hY:∀(w:World) (h:Heap),YP w h->(K w.params).In h)
  (F:∀(w:World) (mg:Str->Option Value) (fa:Addr) (h:Heap),(K w.params).In h->h.Ns mainGlobals mg->mg d.name=some gL->
   ∃fd:FuncData,(∀(s:Shared) (u:Value),BindsTo s fd ⟨[u],[]⟩ [("_law_script",u)])/\∀base:Heap,(K w.params).In base->base.Ns mainGlobals mg->FnOk l.prog w ga mg base CX0 33 fa fd ["_law_script"] (spV0 ga Qhi 1)):
  PySem.W.WalkO q loose XP YP l.row.toRowW d [] (fun f vs=>PySem.call f vs):=
 L2.Qna (n:=63) (k:=33) (x:="_law_script") (CX:=CX0) (sp:=fun K=>spV0 K Qhi 1) hn ah hdf ⟨rfl,by decide,by decide,rfl⟩ hY F
  (fun K H a ns hl _ hS=>L3.Qsg hS (law_ok ns hl)) fun _ _ _ _ z=>z
end My
open PySem PySem.W PyProof.Rows
set_option maxRecDepth 100000 in
set_option maxHeartbeats 0 in
theorem PySem.Challenge.cw_hearsay_k41_whole_doubts_walked_holds : PySem.Challenge.rw_hearsay_k41_whole_doubts_walked.Holds := by
 w_on;refine holds_law ao fun said=>?_
 refine holds_open (q := My.view) (loose := [PySem.Str.ofString "Came"]) (Xt := fun s => xlAt My.view [] s && recOk PySem.Challenge.rw_hearsay_k41_whole_doubts_walked.row.records s) (XP := XL My.view []) (Yf := Hook.obs (kHook My.fr.heap_1 My.as My.hke)) (Ya := Hook.val (kHook My.fr.heap_1 My.as My.hke)) (YP := Hook.says (kHook My.fr.heap_1 My.as My.hke)) (N := 5350) My.left (Hook.of _) (Hook.keeps _) (fun s e => xl_of s (Bool.and_eq_true_iff.mp e).1) XL.keeps (by rfl) (by rfl) (by rfl) (fun s e => recFacts_of (Bool.and_eq_true_iff.mp e).2) (by rfl) (by assumption) (by decide +kernel) ⟨rfl, rfl, rfl, rfl, rfl, by decide +kernel⟩ ?hw ?hc
 (case hw=>w_witness2)
 k_fill
 refine My.walk (l := PySem.Challenge.rw_hearsay_k41_whole_doubts_walked) rfl rfl (fun w h Y => PySem.W.kIn_of Y) ?F
 case F=>
  intro w mg fa h KX G hmg
  refine' My.QsP KX G hmg ?a0 ?a1 ?a2 ?a3 ?a4 ?a5 ?a6 ?a7 ?a8 ?a9 ?a10 ?a11 ?a12 ?a13 ?a14 ?a15 ?a16 ?a17 ?a18 ?a19 ?a20 ?a21 ?a22 ?a23 ?a24 ?a25 ?a26 ?a27 ?a28 ?z_abs ?z_bool ?z_int ?z_isinstance ?z_len ?z_list ?z_min ?z_range ?z_sorted ?z_str ?z_tuple ?n_Sentence ?n_Came ?n_Both ?n_Either ?n_Knows ?n_Shared ?Cl_Sentence ?Cl_Came ?na_Came_name ?na_Came_by ?Cl_Both ?na_Both_one ?na_Both_other ?Cl_Either ?na_Either_one ?na_Either_other ?Cl_Knows ?na_Knows_house ?na_Knows_turn ?na_Knows_inside ?Cl_Shared ?na_Shared_houses ?na_Shared_turn ?na_Shared_inside ?mk_Both ?t_M_Both_init ?mk_Came ?t_M_Came_init ?dt_M_Came_init ?mk_Either ?t_M_Either_init ?mk_Knows ?t_M_Knows_init ?mk_Shared ?t_M_Shared_init ?me_Sentence_doubt ?t_M_Sentence_doubt ?me_Came_doubt ?t_M_Came_doubt ?me_Both_doubt ?t_M_Both_doubt ?me_Either_doubt ?t_M_Either_doubt ?me_Knows_doubt ?t_M_Knows_doubt ?me_Shared_doubt ?t_M_Shared_doubt ?me_Sentence_holds ?t_M_Sentence_holds ?me_Came_holds ?me_Both_holds ?me_Either_holds ?me_Knows_holds ?me_Shared_holds ?hcn ?hct ?ha_Sentence ?hm_Sentence ?kt_Sentence_Sentence ?ha_Came ?hm_Came ?kt_Sentence_Came ?ha_Both ?hm_Both ?kt_Sentence_Both ?ha_Either ?hm_Either ?kt_Sentence_Either ?ha_Knows ?hm_Knows ?kt_Sentence_Knows ?ha_Shared ?hm_Shared ?kt_Sentence_Shared
  (case a0|a1|a2|a3|a4|a5|a6|a7|a8|a9|a10|a11|a12|a13|a14|a15|a16|a17|a18|a19|a20|a21|a22|a23|a24|a25|a26|a27|a28=>(refine' ⟨?x,L3.QiR ?l ?c ?k⟩;(case x=>k_is);(case l=>k_is);(case c=>k_is);(case k=>k_is)))
  (case z_abs|z_bool|z_int|z_isinstance|z_len|z_list|z_min|z_range|z_sorted|z_str|z_tuple|n_Sentence|n_Came|n_Both|n_Either|n_Knows|n_Shared=>k_is)
  (case Cl_Sentence|Cl_Came=>(refine' ⟨?a,?b,?c,?d⟩;(case a=>k_is);(case b=>k_is);(case c=>k_is);(case d=>k_is)))
  (case na_Came_name|na_Came_by=>k_is)
  (case Cl_Both=>(refine' ⟨?a,?b,?c,?d⟩;(case a=>k_is);(case b=>k_is);(case c=>k_is);(case d=>k_is)))
  (case na_Both_one|na_Both_other=>k_is)
  (case Cl_Either=>(refine' ⟨?a,?b,?c,?d⟩;(case a=>k_is);(case b=>k_is);(case c=>k_is);(case d=>k_is)))
  (case na_Either_one|na_Either_other=>k_is)
  (case Cl_Knows=>(refine' ⟨?a,?b,?c,?d⟩;(case a=>k_is);(case b=>k_is);(case c=>k_is);(case d=>k_is)))
  (case na_Knows_house|na_Knows_turn|na_Knows_inside=>k_is)
  (case Cl_Shared=>(refine' ⟨?a,?b,?c,?d⟩;(case a=>k_is);(case b=>k_is);(case c=>k_is);(case d=>k_is)))
  (case na_Shared_houses|na_Shared_turn|na_Shared_inside=>k_is)
  (case mk_Both=>(refine' ⟨?a,?b,?c,?d⟩;(case a=>k_is);(case b=>k_is);(case c=>k_is);(case d=>k_is)))
  (case t_M_Both_init=>(refine' L3.Qmm ?l ?c;(case l=>k_is);(case c=>k_is)))
  (case mk_Came=>(refine' ⟨?a,?b,?c,?d⟩;(case a=>k_is);(case b=>k_is);(case c=>k_is);(case d=>k_is)))
  (case t_M_Came_init=>(refine' L3.Qmm ?l ?c;(case l=>k_is);(case c=>k_is)))
  (case dt_M_Came_init=>k_is)
  (case mk_Either=>(refine' ⟨?a,?b,?c,?d⟩;(case a=>k_is);(case b=>k_is);(case c=>k_is);(case d=>k_is)))
  (case t_M_Either_init=>(refine' L3.Qmm ?l ?c;(case l=>k_is);(case c=>k_is)))
  (case mk_Knows=>(refine' ⟨?a,?b,?c,?d⟩;(case a=>k_is);(case b=>k_is);(case c=>k_is);(case d=>k_is)))
  (case t_M_Knows_init=>(refine' L3.Qmm ?l ?c;(case l=>k_is);(case c=>k_is)))
  (case mk_Shared=>(refine' ⟨?a,?b,?c,?d⟩;(case a=>k_is);(case b=>k_is);(case c=>k_is);(case d=>k_is)))
  (case t_M_Shared_init=>(refine' L3.Qmm ?l ?c;(case l=>k_is);(case c=>k_is)))
  (case me_Sentence_doubt=>(refine' ⟨?a,?b,?c⟩;(case a=>k_is);(case b=>k_is);(case c=>k_is)))
  (case t_M_Sentence_doubt=>(refine' L3.QiR ?l ?c ?k;(case l=>k_is);(case c=>k_is);(case k=>k_is)))
  (case me_Came_doubt=>(refine' ⟨?a,?b,?c⟩;(case a=>k_is);(case b=>k_is);(case c=>k_is)))
  (case t_M_Came_doubt=>(refine' L3.QiR ?l ?c ?k;(case l=>k_is);(case c=>k_is);(case k=>k_is)))
  (case me_Both_doubt=>(refine' ⟨?a,?b,?c⟩;(case a=>k_is);(case b=>k_is);(case c=>k_is)))
  (case t_M_Both_doubt=>(refine' L3.QiR ?l ?c ?k;(case l=>k_is);(case c=>k_is);(case k=>k_is)))
  (case me_Either_doubt=>(refine' ⟨?a,?b,?c⟩;(case a=>k_is);(case b=>k_is);(case c=>k_is)))
  (case t_M_Either_doubt=>(refine' L3.QiR ?l ?c ?k;(case l=>k_is);(case c=>k_is);(case k=>k_is)))
  (case me_Knows_doubt=>(refine' ⟨?a,?b,?c⟩;(case a=>k_is);(case b=>k_is);(case c=>k_is)))
  (case t_M_Knows_doubt=>(refine' L3.QiR ?l ?c ?k;(case l=>k_is);(case c=>k_is);(case k=>k_is)))
  (case me_Shared_doubt=>(refine' ⟨?a,?b,?c⟩;(case a=>k_is);(case b=>k_is);(case c=>k_is)))
  (case t_M_Shared_doubt=>(refine' L3.QiR ?l ?c ?k;(case l=>k_is);(case c=>k_is);(case k=>k_is)))
  (case me_Sentence_holds=>(refine' ⟨?a,?b,?c⟩;(case a=>k_is);(case b=>k_is);(case c=>k_is)))
  (case t_M_Sentence_holds=>(refine' L3.QiR ?l ?c ?k;(case l=>k_is);(case c=>k_is);(case k=>k_is)))
  (case me_Came_holds|me_Both_holds|me_Either_holds|me_Knows_holds|me_Shared_holds=>(refine' ⟨?a,?b,?c⟩;(case a=>k_is);(case b=>k_is);(case c=>k_is)))
  (case hcn|hct|ha_Sentence|hm_Sentence=>k_is)
  (case kt_Sentence_Sentence=>kit_is)
  (case ha_Came|hm_Came=>k_is)
  (case kt_Sentence_Came=>kit_is)
  (case ha_Both|hm_Both=>k_is)
  (case kt_Sentence_Both=>kit_is)
  (case ha_Either|hm_Either=>k_is)
  (case kt_Sentence_Either=>kit_is)
  (case ha_Knows|hm_Knows=>k_is)
  (case kt_Sentence_Knows=>kit_is)
  (case ha_Shared|hm_Shared=>k_is)
  (case kt_Sentence_Shared=>kit_is)
