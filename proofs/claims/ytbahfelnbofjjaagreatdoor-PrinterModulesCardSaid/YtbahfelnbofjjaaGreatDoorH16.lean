/- Types, tables, features and catalogs that. -/
import Derived.ProofKit
import Derived.LaidMore
import Derived.Stop.Joined
import Derived.Stop.LaidErr
import Derived.SevenTiedAt
import Derived.Laws.BytesArg
import Derived.Test.YtbahfelnbofjjaaGreatDoorCards
import Derived.Test.YtbahfelnbofjjaaGreatDoorH15
import Derived.Test.YtbahfelnbofjjaaGreatDoorTie
set_option maxRecDepth 100000
set_option maxHeartbeats 16000000
namespace Go.Proofs.YtbahfelnbofjjaaGreatDoor
namespace ch
open Go.ChangeShapes Go.WideShapes Go.ChangeAt Go.RowKit Go.Joins dec
section
variable {H:Type} {enc:TypeId × Value→H} {w:World} {m:Nat} {y:DataW H × List MemPlace}
theorem one_le (d:DataW H):1≤Rows.uptoBulk d:=by
 cases d with
 | lit l=>cases l <;> simp [Rows.uptoBulk]
 | nil=>simp [Rows.uptoBulk]
 | ptr d=>simp [Rows.uptoBulk]
 | slice elems spare=>simp [Rows.uptoBulk]
 | agg parts=>simp [Rows.uptoBulk]
 | iface t d=>simp [Rows.uptoBulk]
 | map entries=>simp [Rows.uptoBulk]
 | held h=>simp [Rows.uptoBulk]
theorem uJ:∀ l:List (DataW H),l.length≤Rows.uptoBulkAll l
 | []=>Nat.zero_le _
 | d :: l=>by
  have:=one_le d
  have:=uJ l
  simp only [L_b,Rows.uptoBulkAll]
  omega
theorem NI {cs:List Value} (h:Rd enc w m 31 cs y) (hk:Wk 31 y.1):∃ (ds:Array Value) (t:Ty),cs=ds.toList∧ds.size=3∧TyV w ds t∧t.ln∧t.of.size≤140737488355328:=by
 obtain ⟨y0,y1,y2,k,rfl,hl,g0,g1,g2⟩:=Go.Deep.trod_struct3 dec.uy31 h;rw [cTy] at hl
 match cs,hl with
 | [c0,c1,c2],_ =>
   simp only [cSt,cI,U7,List.drop_zero,List.take_succ_cons,List.take_zero,List.drop_succ_cons] at g0 g1 g2
   obtain ⟨n0,e0,d0,_⟩:=DataW.trod_int dec.uy3 g0
   obtain ⟨n2,e2,d2,_⟩:=DataW.trod_string dec.uy9 g2
   simp only [List.cons.injEq,and_true] at e0 e2
   have k1:=dH dec.uy31 hk (j:=1) (t:=24) rfl rfl
   have k2:=dH dec.uy31 hk (j:=2) (t:=9) rfl rfl
   rw [d2] at k2
   obtain ⟨ua,uc,u,rfl,hU,hul,_⟩:=NH g1 k1
   subst e0 e2
   exact ⟨tyC ⟨n0,u,n2⟩ ua uc,⟨n0,u,n2⟩,rfl,rfl,⟨ua,uc,rfl,hU⟩,hul,jc k2⟩
theorem WO {cs:List Value} (h:Rd enc w m 88 cs y) (hk:Wk 88 y.1):∃ (ds:Array Value) (f:Fi),cs=ds.toList∧ds.size=4∧FiV w ds f∧f.sz∧f.ty.ln:=by
 obtain ⟨y0,y1,k,rfl,hl,g0,g1⟩:=trod_struct2 dec.uy88 h;rw [cFi] at hl
 match cs,hl with
 | [c0,c1,c2,c3],_ =>
   simp only [cSt,cTy,List.drop_zero,List.take_succ_cons,List.take_zero,List.drop_succ_cons] at g0 g1
   obtain ⟨n0,e0,d0,_⟩:=DataW.trod_string dec.uy9 g0
   simp only [List.cons.injEq,and_true] at e0
   have k0:=dH dec.uy88 hk (j:=0) (t:=9) rfl rfl
   have k1:=dH dec.uy88 hk (j:=1) (t:=31) rfl rfl
   rw [d0] at k0
   obtain ⟨ds,t,e1,_,⟨ua,uc,rfl,hU⟩,hln,hof⟩:=NI g1 k1
   subst e0
   refine ⟨fiC ⟨n0,t⟩ ua uc,⟨n0,t⟩,?_,rfl,⟨ua,uc,rfl,hU⟩,⟨jc k0,hof⟩,hln⟩
   show _=Value.string n0 :: (tyC t ua uc).toList
   rw [← e1]
structure TbQ (t:Tb):Prop where
 sz:t.sz
 ln:∀ f ∈ t.fs,f.ty.ln
theorem Vu {cs:List Value} (h:Rd enc w m 48 cs y) (hk:Wk 48 y.1):∃ (ds:Array Value) (t:Tb),cs=ds.toList∧ds.size=4∧TbV w ds t∧TbQ t:=by
 obtain ⟨y0,y1,y2,y3,k,rfl,hl,g0,g1,g2,g3⟩:=trod_struct4 dec.uy48 h;rw [cTb] at hl
 match cs,hl with
 | [c0,c1,c2,c3],_ =>
   simp only [cSt,XL,cI,List.drop_zero,List.take_succ_cons,List.take_zero,List.drop_succ_cons] at g0 g1 g2 g3
   obtain ⟨n0,e0,d0,_⟩:=DataW.trod_string dec.uy9 g0
   obtain ⟨n1,e1,d1,_⟩:=DataW.trod_string dec.uy9 g1
   obtain ⟨n3,e3,d3,_⟩:=DataW.trod_int dec.uy3 g3
   simp only [List.cons.injEq,and_true] at e0 e1 e3
   have k0:=dH dec.uy48 hk (j:=0) (t:=9) rfl rfl
   have k1:=dH dec.uy48 hk (j:=1) (t:=9) rfl rfl
   have k2:=dH dec.uy48 hk (j:=2) (t:=46) rfl rfl
   rw [d0] at k0
   rw [d1] at k1
   obtain ⟨a,n,cap,l,el,sp,rfl,S,_,hel,hq,_⟩:=vN (Q:=fun _ (f:Fi)=>f.sz∧f.ty.ln) Tryz.underlying46 cFi (by decide) g2 k2 (fun k cs z _ h1 h2=>WO h1 h2)
   have hn:=S.hn
   subst hn
   subst e0 e1 e3
   have hm:∀ f ∈ l,f.sz∧f.ty.ln:=fun f hf=>by
     obtain ⟨j,hj,rfl⟩:=List.getElem_of_mem hf
     exact hq j (by omega) hj
   exact ⟨tbC ⟨n0,n1,l,n3⟩ a cap,⟨n0,n1,l,n3⟩,rfl,rfl,⟨a,cap,rfl,S⟩,⟨⟨jc k0,jc k1,fun f hf=>(hm f hf).1⟩,fun f hf=>(hm f hf).2⟩⟩
structure FeQ (d:DataW H) (f:Fe):Prop where
 sz:f.szs
 ln:f.ty.ln
 bulk:f.bo.ar.sz+1≤Rows.uptoBulk d
theorem WQ {cs:List Value} (h:Rd enc w m 51 cs y) (hk:Wk 51 y.1):∃ (ds:Array Value) (f:Fe),cs=ds.toList∧ds.size=18∧FeV w ds f∧FeQ y.1 f:=by
 obtain ⟨y0,y1,y2,y3,y4,n,rfl,hy,hl,g0,g1,g2,g3,g4⟩:=Ap dec.uy51 h;rw [cFe] at hl;rw [hy] at hk ⊢
 match cs,hl with
 | [c0,c1,c2,c3,c4,c5,c6,c7,c8,c9,c10,c11,c12,c13,c14,c15,c16,c17],_ =>
   simp only [cI,cSt,cTy,cX,List.drop_zero,List.take_succ_cons,List.take_zero,List.drop_succ_cons] at g0 g1 g2 g3 g4
   obtain ⟨n0,e0,d0,_⟩:=DataW.trod_string dec.uy9 g0
   obtain ⟨n1,e1,d1,_⟩:=DataW.trod_string dec.uy9 g1
   obtain ⟨n4,e4,d4,_⟩:=DataW.trod_int dec.uy3 g4
   simp only [List.cons.injEq,and_true] at e0 e1 e4
   have k0:=dH dec.uy51 hk (j:=0) (t:=9) rfl rfl
   have k1:=dH dec.uy51 hk (j:=1) (t:=9) rfl rfl
   have k2:=dH dec.uy51 hk (j:=2) (t:=31) rfl rfl
   have k3:=dH dec.uy51 hk (j:=3) (t:=29) rfl rfl
   rw [d0] at k0
   rw [d1] at k1
   obtain ⟨ds,t,e2,_,⟨ta,tc,rfl,hT⟩,hln,hof⟩:=NI g2 k2
   obtain ⟨es,x,e3,_,⟨ua,uc,aa,ac,rfl,hE⟩,hQ⟩:=WS _ _ _ g3 k3
   subst e0 e1 e4
   simp only [tyC,exC,List.cons.injEq,and_true] at e2 e3
   obtain ⟨rfl,rfl,rfl⟩:=e2
   obtain ⟨rfl,rfl,rfl,rfl,rfl,rfl,rfl,rfl,rfl,rfl,rfl,rfl⟩:=e3
   refine ⟨feC ⟨n0,n1,t,x,n4⟩ ta tc ua uc aa ac,⟨n0,n1,t,x,n4⟩,rfl,rfl,⟨ta,tc,ua,uc,aa,ac,rfl,hT,hE⟩,⟨jc k0,jc k1,hof,hQ.sz,hQ.ln⟩,hln,?_⟩
   have hb:=hQ.bulk
   have hp:Rows.uptoBulk y3.1≤Rows.uptoBulkAll [y0.1,y1.1,y2.1,y3.1,y4.1]:=zF (by simp)
   show x.ar.sz+1≤Rows.uptoBulkAll [y0.1,y1.1,y2.1,y3.1,y4.1]+1
   omega
theorem UG {c:Value} (h:Rd enc w m 41 [c] y) (hk:Wk 41 y.1):∃ a cap l,c=.slice a l.length cap∧Fes w a l.length cap l∧l.length≤Rows.uptoBulk y.1∧(∀ f ∈ l,f.szs∧f.ty.ln)∧l.length * Tryz.prog.bytesOf 51≤140737488351232:=by
 obtain ⟨a,n,cap,l,el,sp,rfl,S,hz,hel,hq,hb⟩:=vN (Q:=FeQ) Tryz.underlying41 cFe (by decide) h hk (fun k cs z _ h1 h2=>WQ h1 h2);have hn:=S.hn;subst hn;refine ⟨a,cap,l,rfl,S,by have:=uJ el;omega,fun f hf=>?_,L_f (Nat.mul_le_mul_right _ (by omega)) hz⟩;obtain ⟨j,hj,rfl⟩:=List.getElem_of_mem hf;exact ⟨(hq j (by omega) hj).sz,(hq j (by omega) hj).ln⟩
theorem Sb {c:Value} (h:Rd enc w m 40 [c] y) (hk:Wk 40 y.1):∃ a cap l,c=.slice a l.length cap∧Tbs' w a l.length cap l∧l.length≤Rows.uptoBulk y.1∧∀ t ∈ l,TbQ t:=by
 obtain ⟨a,n,cap,l,el,sp,rfl,S,hz,hel,hq,hb⟩:=vN (Q:=fun _ (t:Tb)=>TbQ t) Tryz.underlying40 cTb (by decide) h hk (fun k cs z _ h1 h2=>Vu h1 h2);have hn:=S.hn;subst hn;refine ⟨a,cap,l,rfl,S,by have:=uJ el;omega,fun t ht=>?_⟩;obtain ⟨j,hj,rfl⟩:=List.getElem_of_mem ht;exact hq j (by omega) hj
variable {H:Type} {enc:TypeId × Value→H} {Z:World} {r:Reach} {b0':Nat} {v:Value} {d:DataW H} {p:List MemPlace}
theorem Vn {ts:List TypeId} {ds:List (DataW H)} (h:(DataW.weightsEach Tryz.prog ts ds).all (·≤reachBytes)=true) {j:Nat} {t:TypeId} {d:DataW H} (ht:ts[j]? = some t) (hd:ds[j]? = some d):Wk t d:=fun n hn=>by
 have:=List.all_eq_true.1 h n (DataW.weights_mem_each ht hd n hn)
 have hb:reachBytes=140737488351232:=rfl
 simpa [hb] using this
end
end ch
section
open Go.ChangeShapes Go.WideShapes Go.ChangeAt Go.RowKit Go.Joins dec ch
theorem own:ownKnob Tryz.prog.godebug=none:=by kernel_rfl
theorem laidOut:laidOutB Tryz.prog=true:=by kernel_rfl
section
variable {H:Type} {enc':TypeId × Value→H} {P:Program}
end
theorem Xt:Tryz.prog.globalNamed "internal/strconv.uint64pow10" = some 5:=by kernel_rfl
theorem Xc:(Tryz.prog.globals[5]?).map (·.type)=some 269:=by kernel_rfl
theorem Xf:(Tryz.prog.globals[2]?).map (·.type)=some 223:=by kernel_rfl
theorem Xd:(Tryz.prog.globals[7]?).map (·.type)=some 154:=by kernel_rfl
theorem Xe:(Tryz.prog.globals[8]?).map (·.type)=some 154:=by kernel_rfl
theorem Xh:(Tryz.prog.globals[1]?).map (·.type)=some 213:=by kernel_rfl
theorem XU:Tryz.prog.cellsOf 213=126:=by kernel_rfl
theorem cC1:Tryz.prog.cellsOf 172=1:=by kernel_rfl
theorem XE:(Rows.laid_asof_lexer_classes:DataW Unit)=Lib.tabData .u8 rQ:=by kernel_rfl
theorem XJ:Tryz.prog.cellsOf 269=20:=by kernel_rfl
theorem XP:Tryz.prog.cellsOf 223=7:=by kernel_rfl
theorem cU:Tryz.prog.cellsOf 212=1:=by kernel_rfl
theorem cI3:Tryz.prog.cellsOf 3=1:=by kernel_rfl
theorem cS9:Tryz.prog.cellsOf 9=1:=by kernel_rfl
theorem cE:Tryz.prog.cellsOf 296=1:=by kernel_rfl
theorem Xx:(Rows.laid_internal_strconv_uint64pow10:DataW Unit)=Lib.tabData .u64 Lib.pow10Tab:=by kernel_rfl
theorem Xy:(Rows.laid_asof_decimal_powers:DataW Unit)=Lib.tabData .i64 lH:=by kernel_rfl
theorem star : "*"++ "errors.errorString" = "*errors.errorString":=by decide
theorem SN (u:TypeId) (h:Tryz.prog.typeName? 3 u=some "*errors.errorString"):u=294 :=
 typeName_ptr_named (nm:= "errors.errorString") (by rw [star];kernel_rfl) (by kernel_rfl) (by decide) u (by rw [star];exact h)
theorem Cy {H:Type} {enc:TypeId × Value→H} {P:Program} {w:World} {base:Nat} {sp:Nat→Bool} {held:Bool} {fuel:Nat} {t e:TypeId} {n:Nat} {cs:List Value} {ss:List ByteArray} {p:List MemPlace}
    (ht:P.underlying t=some (.array n e)) (he:P.underlying e=some .string) (hce:P.cellsOf e=1) (hct:P.cellsOf t=n)
    (h:DataW.trod enc P w base sp held fuel t cs=some (.agg (ss.map fun s=>.lit (.string s.data.toList)),p)):cs=ss.map fun s=>Value.string s:=by
 cases fuel with
 | zero=>simp [DataW.trod] at h
 | succ fuel =>
   simp only [DataW.trod,ht,hce,hct,Nat.mul_one] at h
   split at h
   · rename_i hl
     obtain ⟨xs,hm,hx⟩:=Option.map_eq_some_iff.1 h
     have hxs:xs.map (·.1)=ss.map fun s=>(DataW.lit (.string s.data.toList):DataW H):=by
       have:=congrArg Prod.fst hx
       simpa using this
     have hxl:xs.length=n:=by simpa using Lib.mapM_length hm
     have hzl:ss.length=n:=by
       have:=congrArg List.length hxs
       simp at this
       omega
     apply List.ext_getElem?
     intro i
     by_cases hi:i<n
     · obtain ⟨b,hb,hf⟩:=Lib.mapM_at hm i i (by simp [hi])
       obtain ⟨z,hc,hz,_⟩:=DataW.trod_string he hf
       have h1:cs[i]? = some (.string z):=by
         have:=congrArg (·[0]?) hc
         simpa [List.getElem?_take,List.getElem?_drop] using this
       have h2:(xs.map (·.1))[i]? = some (DataW.lit (.string z.data.toList):DataW H):=by simp [hb,hz]
       rw [hxs] at h2
       simp only [List.getElem?_map,Option.map_eq_some_iff,DataW.lit.injEq,Lit.string.injEq] at h2
       obtain ⟨z',hz',e⟩:=h2
       have e2:z'=z:=ByteArray.ext (Array.toList_inj.1 e)
       simp [h1,hz',e2]
     · rw [List.getElem?_eq_none (by omega),List.getElem?_eq_none (by simp;omega)]
   · cases h
theorem qL {P:Program} {W:World} {name:String} {ss:List ByteArray} {rest:List (String × DataW Unit)} {g:Nat} {t e:TypeId} {n:Nat}
    (hg:P.globalNamed name=some g) (hty:(P.globals[g]?).map (·.type)=some t) (ht:P.underlying t=some (.array n e)) (he:P.underlying e=some .string) (hce:P.cellsOf e=1) (hct:P.cellsOf t=n)
    (h:laidMet P ((name,.agg (ss.map fun s=>.lit (.string s.data.toList))) :: rest) W) (i:Nat) (hi:i<ss.length):W.cell? ⟨g,i,none⟩=some (.string (ss.getD i .empty)):=by
 obtain ⟨ps,⟨g',t',cs,fuel,p,q,hg',ht',hvar,hd,_,_⟩,_⟩:=h;obtain rfl:=Option.some.inj (hg.symm.trans hg');obtain rfl:=Option.some.inj (hty.symm.trans ht');obtain rfl:cs=(ss.map fun s=>Value.string s).toArray:=by rw [← Cy ht he hce hct hd]
 have:=World.var?_cell hg hvar i;simpa [List.getD,hi] using this
theorem Xr:Tryz.prog.globalNamed "asof/printer.typeWords" = some 0:=by kernel_rfl
theorem Xq:Tryz.prog.globalNamed "asof/printer.windowWords" = some 3:=by kernel_rfl
theorem Xb:(Tryz.prog.globals[0]?).map (·.type)=some 147:=by kernel_rfl
theorem Xa:(Tryz.prog.globals[3]?).map (·.type)=some 231:=by kernel_rfl
theorem XI:Tryz.prog.cellsOf 147=6:=by kernel_rfl
theorem XG:Tryz.prog.cellsOf 231=5:=by kernel_rfl
def tyL:List ByteArray:=[.empty,⟨#[98,111,111,108]⟩,⟨#[105,110,116]⟩,⟨#[100,101,99]⟩,⟨#[116,101,120,116]⟩,⟨#[107,101,121]⟩]
def wiL:List ByteArray:=[.empty,⟨#[97,108,108]⟩,⟨#[115,108,105,100,105,110,103]⟩,⟨#[116,117,109,98,108,105,110,103]⟩,⟨#[115,101,115,115,105,111,110]⟩]
theorem Xw:(Rows.laid_asof_printer_typeWords:DataW Unit)=.agg (tyL.map fun s=>.lit (.string s.data.toList)):=by kernel_rfl
theorem Xv:(Rows.laid_asof_printer_windowWords:DataW Unit)=.agg (wiL.map fun s=>.lit (.string s.data.toList)):=by kernel_rfl
theorem RS:∀ j,1≤j→j<6→tyL.getD j .empty=nT j
 | 0,h,_=>absurd h (by decide)
 | 1,_,_=>rfl
 | 2,_,_=>rfl
 | 3,_,_=>rfl
 | 4,_,_=>rfl
 | 5,_,_=>rfl
 | j+6,_,h=>absurd h (by omega)
theorem RG:∀ j,1≤j→j<5→wiL.getD j .empty=mM j
 | 0,h,_=>absurd h (by decide)
 | 1,_,_=>rfl
 | 2,_,_=>rfl
 | 3,_,_=>rfl
 | 4,_,_=>rfl
 | j+5,_,h=>absurd h (by omega)
end
section
open Go.RowKit dec
structure Fe where
 nm:ByteArray
 en:ByteArray
 ty:Ty
 bo:Ex
inductive Rs (α:Type) where
 | out
 | ok (v:α) (r:List Tk)
 | no (a c:Int) (r:List Tk)
def Rs.bind {α β:Type} (x:Rs α) (g:α→List Tk→Rs β):Rs β :=
 match x with
 | .out=>.out
 | .ok v r=>g v r
 | .no a c r=>.no a c r
def hd (l:List Tk):Tk:=l.headD ⟨6,.empty,0⟩
def wrg {α:Type} (l:List Tk):Rs α:=.no (hd l).a 90 l
def isT (s:ByteArray) (l:List Tk):Bool:=(decide ((hd l).k=1) || decide ((hd l).k=5)) && decide ((hd l).t=s)
def need (s:ByteArray) (l:List Tk):Rs Unit:=if isT s l=true then .ok () l.tail else wrg l
def tak (k:Int) (l:List Tk):Rs ByteArray:=if (hd l).k=k then .ok (hd l).t l.tail else wrg l
def nam (l:List Tk):Rs ByteArray:=if name (hd l).t=true then tak 1 l else wrg l
def nma (s:ByteArray) (l:List Tk):Rs ByteArray:=(need s l).bind fun _ r=>nam r
def int (l:List Tk):Rs Int:=(tak 2 l).bind fun s r=>.ok (kL s.data.toList) r
def nI (l:List Tk):Rs Int:=(tak 3 l).bind fun s r=>.ok (paX s.data.toList) r
def more {α:Type} (one:List Tk→Rs α) (s:ByteArray):Nat→List α→List Tk→Rs (List α)
 | 0,_,_=>.out
 | f+1,x,l=>if isT s l=true then (one l.tail).bind fun y r=>more one s f (x++[y]) r else .ok x l
def lst {α:Type} (one:List Tk→Rs α) (s:ByteArray) (l:List Tk):Rs (List α):=(one l).bind fun y r=>more one s (r.length+1) [y] r
def fac (l:List Tk):Rs un.Fa :=
 (nam l).bind fun n r=>if isT ⟨#[94]⟩ r=true then
  (if isT ⟨#[45]⟩ r.tail=true then (int r.tail.tail).bind fun x r=>.ok (n,IntKind.i64.wrap (-1 * min x 1099511627776)) r else (int r.tail).bind fun x r=>.ok (n,IntKind.i64.wrap (1 * min x 1099511627776)) r)
  else .ok (n,1) r
def uni (l:List Tk):Rs (List un.Fa) :=
 if isT ⟨#[91]⟩ l=true then (lst fac ⟨#[42]⟩ l.tail).bind fun u r=>(need ⟨#[93]⟩ r).bind fun _ r=>if un.nE u=0 then .ok (un.nL u) r else .no (hd l).a (un.nE u) r
 else .ok [] l
def typ (l:List Tk):Rs Ty :=
 if isT ⟨#[98,111,111,108]⟩ l=true then .ok ⟨1,[],.empty⟩ l.tail
 else if isT ⟨#[116,101,120,116]⟩ l=true then .ok ⟨4,[],.empty⟩ l.tail
 else if isT ⟨#[107,101,121]⟩ l=true then (nam l.tail).bind fun n r=>.ok ⟨5,[],n⟩ r
 else if isT ⟨#[105,110,116]⟩ l=true then (uni l.tail).bind fun u r=>.ok ⟨2,u,.empty⟩ r
 else if isT ⟨#[100,101,99]⟩ l=true then (uni l.tail).bind fun u r=>.ok ⟨3,u,.empty⟩ r
 else wrg l
def win (l:List Tk):Rs (Int × Int) :=
 if isT ⟨#[97,108,108]⟩ l=true then .ok (1,0) l.tail
 else if isT ⟨#[115,108,105,100,105,110,103]⟩ l=true then (int l.tail).bind fun n r=>.ok (2,n) r
 else if isT ⟨#[116,117,109,98,108,105,110,103]⟩ l=true then (int l.tail).bind fun n r=>.ok (3,n) r
 else if isT ⟨#[115,101,115,115,105,111,110]⟩ l=true then (int l.tail).bind fun n r=>.ok (4,n) r
 else wrg l
def agg (s:ByteArray):Bool:=[(⟨#[99,111,117,110,116]⟩:ByteArray),⟨#[115,117,109]⟩,⟨#[109,101,97,110]⟩,⟨#[109,105,110]⟩,⟨#[109,97,120]⟩,⟨#[102,105,114,115,116]⟩,⟨#[108,97,115,116]⟩,⟨#[100,105,115,116,105,110,99,116]⟩,⟨#[113,117,97,110,116,105,108,101]⟩,⟨#[100,101,99,97,121]⟩].any fun t=>decide (s=t)
def bX (n:Int):Ex:=⟨{ h0 with k:=1,vk:=1,vn:=n },.nil⟩
def fM (op:ByteArray) (x:Ex):Ex:=⟨{ h0 with k:=6,op:=op },.cons x.h x.ar .nil⟩
def bC (op:ByteArray) (x y:Ex):Ex:=if op=⟨#[100,101,102,97,117,108,116]⟩ then ⟨{ h0 with k:=9 },.cons x.h x.ar (.cons y.h y.ar .nil)⟩ else ⟨{ h0 with k:=7,op:=op },.cons x.h x.ar (.cons y.h y.ar .nil)⟩
def ifE (x y z:Ex):Ex:=⟨{ h0 with k:=8 },.cons x.h x.ar (.cons y.h y.ar (.cons z.h z.ar .nil))⟩
def Hw (vk vn:Int) (u:List un.Fa):Ex:=⟨{ h0 with k:=1,vk:=vk,vn:=vn,un:=u },.nil⟩
def R9 (s:ByteArray):Ex:=⟨{ h0 with k:=1,vk:=4,vs:=s },.nil⟩
def HV (n s:ByteArray):Ex:=⟨{ h0 with k:=1,nm:=n,vk:=5,vs:=s },.nil⟩
def Ik (n:ByteArray):Ex:=⟨{ h0 with k:=2,nm:=n },.nil⟩
def Il (n:ByteArray):Ex:=⟨{ h0 with k:=3,nm:=n },.nil⟩
def uF (n:ByteArray) (x:Ex):Ex:=⟨{ h0 with k:=4,nm:=n },.cons x.h x.ar .nil⟩
def Db (op t:ByteArray) (p:Int) (w:Int × Int) (x y:Ex):Ex:=⟨{ h0 with k:=5,op:=op,tb:=t,pa:=p,wk:=w.1,ws:=w.2 },.cons x.h x.ar (.cons y.h y.ar .nil)⟩
def opL:Nat→List ByteArray
 | 0=>[⟨#[100,101,102,97,117,108,116]⟩]
 | 1=>[⟨#[111,114]⟩]
 | 2=>[⟨#[97,110,100]⟩]
 | 3=>[⟨#[61,61]⟩,⟨#[33,61]⟩,⟨#[60]⟩,⟨#[60,61]⟩]
 | 4=>[⟨#[43]⟩,⟨#[45]⟩]
 | _=>[⟨#[42]⟩,⟨#[47]⟩]
def opr (n:Nat) (l:List Tk):ByteArray:=((opL n).find? fun s=>isT s l).getD .empty
def key (l:List Tk):Rs Ex :=
 (nma ⟨#[64]⟩ l).bind fun n r=>(tak 4 r).bind fun s r' => if ck ⟨5,0,s⟩=0 then .ok (HV n s) r' else .no (hd r).a 3 r'
inductive Md where
 | ex | op (least:Nat) | tl (least n:Nat) (x:Ex) | ng | pr | pa | ag | rf
def pz:Nat→Bool→Md→List Tk→Rs Ex
 | 0,_,_,_=>.out
 | f+1,i,.ex,l =>
  if isT ⟨#[105,102]⟩ l=true then
   (pz f i .ex l.tail).bind fun x r=>(need ⟨#[116,104,101,110]⟩ r).bind fun _ r=>(pz f i .ex r).bind fun y r=>(need ⟨#[101,108,115,101]⟩ r).bind fun _ r=>(pz f i .ex r).bind fun z r=>.ok (ifE x y z) r
  else pz f i (.op 0) l
 | f+1,i,.op least,l =>
  if least≤3∧isT ⟨#[110,111,116]⟩ l=true then (pz f i (.op 3) l.tail).bind fun x r=>pz f i (.tl least 3 (fM ⟨#[110,111,116]⟩ x)) r
  else (pz f i .ng l).bind fun x r=>pz f i (.tl least 6 x) r
 | f+1,i,.tl least n x,l =>
  if n≤least then .ok x l
  else if opr (n - 1) l=.empty then pz f i (.tl least (n - 1) x) l
  else (pz f i (.op n) l.tail).bind fun y r=>pz f i (.tl least (if n=4 then 3 else n) (bC (opr (n - 1) l) x y)) r
 | f+1,i,.ng,l=>if isT ⟨#[45]⟩ l=true then (pz f i .ng l.tail).bind fun x r=>.ok (fM ⟨#[45]⟩ x) r else pz f i .pr l
 | f+1,i,.pa,l=>(need ⟨#[40]⟩ l).bind fun _ r=>(pz f i .ex r).bind fun x r=>(need ⟨#[41]⟩ r).bind fun _ r=>.ok x r
 | f+1,i,.rf,l=>(nam l).bind fun n r=>if isT ⟨#[111,102]⟩ r=true then (pz f i .pa r.tail).bind fun x r=>.ok (uF n x) r else .ok (Il n) r
 | f+1,_,.ag,l =>
  (tak 1 l).bind fun op r=>(need ⟨#[40]⟩ r).bind fun _ r=>(nam r).bind fun t r=>(need ⟨#[44]⟩ r).bind fun _ r =>
  (if op=⟨#[99,111,117,110,116]⟩ then .ok (bX 1) r else (pz f true .ex r).bind fun x r=>(need ⟨#[44]⟩ r).bind fun _ r=>.ok x r).bind fun x r =>
  (if op=⟨#[113,117,97,110,116,105,108,101]⟩∨op=⟨#[100,101,99,97,121]⟩ then (int r).bind fun n r=>(need ⟨#[44]⟩ r).bind fun _ r=>.ok n r else .ok 0 r).bind fun p r =>
  (win r).bind fun w r=>(if isT ⟨#[119,104,101,114,101]⟩ r=true then pz f true .ex r.tail else .ok (bX 1) r).bind fun y r=>(need ⟨#[41]⟩ r).bind fun _ r=>.ok (Db op t p w x y) r
 | f+1,i,.pr,l =>
  if (hd l).k=2 then (int l).bind fun n r=>(uni r).bind fun u r=>.ok (Hw 2 n u) r
  else if (hd l).k=3 then (nI l).bind fun n r=>(uni r).bind fun u r=>.ok (Hw 3 n u) r
  else if (hd l).k=4 then (tak 4 l).bind fun s r=>.ok (R9 s) r
  else if isT ⟨#[116,114,117,101]⟩ l=true then .ok (bX 1) l.tail
  else if isT ⟨#[102,97,108,115,101]⟩ l=true then .ok (bX 0) l.tail
  else if isT ⟨#[64]⟩ l=true then key l
  else if isT ⟨#[110,117,108,108]⟩ l=true then (pz f i .pa l.tail).bind fun x r=>.ok (fM ⟨#[110,117,108,108]⟩ x) r
  else if isT ⟨#[40]⟩ l=true then pz f i .pa l
  else if i=true then (nam l).bind fun n r=>.ok (Ik n) r
  else if agg (hd l).t=true then pz f i .ag l
  else pz f i .rf l
def Opt (w:World):Prop:=∀ n,n<6→∃ b off cap,w.cell? ⟨4,n,none⟩=some (.slice (some ⟨b,off,none⟩) (opL n).length cap)∧∀ j (hj:j<(opL n).length),w.cell? ⟨b,off+j,none⟩=some (.string (opL n)[j])
theorem Opt.keeps {w w':World} (h:Opt w) (hb:Below w.heap.size w w'):Opt w':=fun n hn=>by
 obtain ⟨b,off,cap,c,hc⟩:=h n hn
 exact ⟨b,off,cap,dec.keeps hb c,fun j hj=>dec.keeps hb (hc j hj)⟩
structure Tabo (w:World):Prop where
 t:Tabs w
 ops:Opt w
theorem Tabo.stays {w w':World} (h:Tabo w) (hb:Below w.heap.size w w'):Tabo w':=⟨h.t.stays hb,h.ops.keeps hb⟩
end
section
open Go.ChangeShapes Go.WideShapes Go.ChangeAt Go.RowKit Go.Joins dec ch
def vX:List (String × DataW Unit):=[("math/bits.deBruijn32tab",Rows.laid_math_bits_deBruijn32tab),("math/bits.deBruijn64tab",Rows.laid_math_bits_deBruijn64tab),("internal/strconv.uint64pow10",Rows.laid_internal_strconv_uint64pow10),("strconv.ErrRange",Rows.laid_strconv_ErrRange),("strconv.ErrSyntax",Rows.laid_strconv_ErrSyntax),("asof/decimal.powers",Rows.laid_asof_decimal_powers),("asof/lexer.classes",Rows.laid_asof_lexer_classes),("asof/parser.operators",Rows.laid_asof_parser_operators),("asof/printer.windowWords",Rows.laid_asof_printer_windowWords),("asof/printer.typeWords",Rows.laid_asof_printer_typeWords)]
theorem Uy:Tryz.prog.globalNamed "asof/parser.operators" = some 4:=by kernel_rfl
theorem Xg:(Tryz.prog.globals[4]?).map (·.type)=some 243:=by kernel_rfl
theorem XR:Tryz.prog.cellsOf 243=6:=by kernel_rfl
theorem cSs:Tryz.prog.cellsOf 97=1:=by kernel_rfl
theorem Xz:(Rows.laid_asof_parser_operators:DataW Unit)=.agg ((List.range 6).map fun n=>.slice ((opL n).map fun s=>.lit (.string s.data.toList)) []):=by kernel_rfl
theorem EL (n:Nat):(opL n).length≤4:=by
 match n with
 | 0=>decide
 | 1=>decide
 | 2=>decide
 | 3=>decide
 | 4=>decide
 | n+5=>show ([_,_]:List ByteArray).length≤4;simp
theorem Dw {W:World} {rest:List (String × DataW Unit)} (h:laidMet Tryz.prog (("asof/parser.operators",.agg ((List.range 6).map fun n=>.slice ((opL n).map fun s=>.lit (.string s.data.toList)) [])) :: rest) W):Opt W:=by
 obtain ⟨ps,⟨g',t',cs,fuel,p,q,hg',ht',hvar,hd,_,_⟩,_⟩:=h;obtain rfl:=Option.some.inj (Uy.symm.trans hg');obtain rfl:=Option.some.inj (Xg.symm.trans ht')
 cases fuel with
 | zero=>simp [DataW.trod] at hd
 | succ fuel =>
   simp only [DataW.trod,Tryz.underlying243,cSs,XR,Nat.mul_one] at hd
   split at hd
   · rename_i hl
     obtain ⟨xs,hm,hx⟩:=Option.map_eq_some_iff.1 hd
     have hxs:xs.map (·.1)=(List.range 6).map fun n=>(DataW.slice ((opL n).map fun s=>.lit (.string s.data.toList)) []:DataW Unit):=by
       have:=congrArg Prod.fst hx
       simpa using this
     intro n hn
     obtain ⟨y,hy,hf⟩:=Lib.mapM_at hm n n (by simp [hn])
     have h2:(xs.map (·.1))[n]? = some y.1:=by simp [hy]
     rw [hxs,List.getElem?_map,List.getElem?_range hn] at h2
     have h3:y.1=DataW.slice ((opL n).map fun s=>.lit (.string s.data.toList)) []:=(Option.some.inj h2).symm
     have hlt:n<cs.toList.length:=by
       have:cs.toList.length=6:=by simpa using hl
       omega
     have hcs:(cs.toList.drop n).take 1=[cs.toList[n]]:=by
       rw [List.drop_eq_getElem_cons hlt,List.take_succ_cons,List.take_zero]
     rw [hcs] at hf
     rcases Go.Deep.open_slice1 dec.uy97 cS9 hf with ⟨_,h4⟩ | ⟨a,len,cap,m,k,V,D,Pl,h4,_,_,_,h5,h6,h7⟩
     · rw [h4] at h3
       cases h3
     · have h8:cs.toList[n]=.slice (some a) len cap:=by simpa using h4
       rw [h6] at h3
       injection h3 with h9 h10
       have hlen:len=(opL n).length:=by
         have:=congrArg List.length h9
         simpa using this
       have hc:W.cell? ⟨4,n,none⟩=some (.slice (some a) len cap):=by
         have:=World.var?_cell Uy hvar n
         rw [this,← h8,← Array.getElem?_toList,List.getElem?_eq_getElem hlt]
       obtain ⟨b,off,spot⟩:=a
       have hel:∀ j (hj:j<(opL n).length),W.cell? ((⟨b,off,spot⟩:Addr).add j)=some (.string (opL n)[j]):=fun j hj=>by
         have hjm:j<m:=by rw [h5];split <;> omega
         obtain ⟨g1,g2⟩:=h7 j hjm
         obtain ⟨s,g3,g4,_⟩:=DataW.trod_string dec.uy9 g2
         have g5:V j=.string s:=by simpa using g3
         have g6:((opL n).map fun s=>(DataW.lit (.string s.data.toList):DataW Unit))[j]? = some (D j):=by
           rw [← h9,List.getElem?_map,List.getElem?_range (by omega)]
           rfl
         rw [List.getElem?_map,List.getElem?_eq_getElem hj] at g6
         have g7:D j=.lit (.string s.data.toList):=congrArg Prod.fst g4
         rw [g7] at g6
         have g8:(opL n)[j].data.toList=s.data.toList:=by
           have:=Option.some.inj g6
           injection this with this
           injection this
         have g9:s=(opL n)[j]:=by
           rw [← yR s,← yR (opL n)[j],g8]
         rw [g1,g5,g9]
       have hsp:spot=none:=by
         have h0:0<(opL n).length:=by
           match n with
           | 0=>decide
           | 1=>decide
           | 2=>decide
           | 3=>decide
           | 4=>decide
           | n+5=>show 0<([_,_]:List ByteArray).length;simp
         simpa [Addr.add] using World.cell?_spot (hel 0 h0)
       subst hsp
       refine ⟨b,off,cap,by rw [hc,hlen],fun j hj=>?_⟩
       have:=hel j hj
       unfold Addr.add at this
       by_cases h1:j=0
       · subst h1;simpa using this
       · simpa [h1] using this
   · cases hd
theorem qJ {W:World} (h:laidMetH Tryz.prog vX W):Tabq W∧Opt W:=by
 rw [MakeChecks.laidMetH_plain _ _ _ (by kernel_rfl)] at h;have h3:=h.tail.tail;have h4:=h3.tail;have h5:=h4.tail;have h6:=h5.tail;have h7:=h6.tail;have h8:=h7.tail;have h9:=h8.tail;have h10:=h9.tail;rw [Xx] at h3;rw [Xy] at h6;rw [XE] at h7;rw [Xz] at h8;rw [Xv] at h9;rw [Xw] at h10;obtain ⟨a0,s0,hv0,-,-,-⟩:=laid_sentinel h4 Ii Xe Tryz.underlying154 SN Tryz.underlying294 Tryz.underlying296 rfl rfl dec.uy9 cE cS9;obtain ⟨a1,s1,hv1,-,-,-⟩:=laid_sentinel h5 Ih Xd Tryz.underlying154 SN Tryz.underlying294 Tryz.underlying296 rfl rfl dec.uy9 cE cS9;refine ⟨⟨⟨Lib.tabIs_of_head Ux Xf Tryz.underlying223 dec.uy3 cI3 XP h6,Lib.tabIs_of_head Xt Xc Tryz.underlying269 Tryz.underlying212 cU XJ h3,⟨_,_,hv1⟩,⟨_,_,hv0⟩,Lib.tabIs_of_head Uz Xh Tryz.underlying213 Tryz.underlying172 cC1 XU h7⟩,fun j h1 h2=>?_,fun j h1 h2=>?_⟩,Dw h8⟩
 ·rw [← RS j h1 h2];exact qL Xr Xb Tryz.underlying147 dec.uy9 cS9 XI h10 j h2
 rw [← RG j h1 h2];exact qL Xq Xa Tryz.underlying231 dec.uy9 cS9 XG h9 j h2
theorem KS (os:Os) (args:Array Value):laidMetH Tryz.prog vX ((World.doorLaid Tryz.prog 93 os).forCall (fun _ _=>0) ⟨#[],args,[]⟩).memory :=
 laidMetH_of_parts3 (fuel:=8) (laidMet_of_run' 8 (by kernel_rfl) (by kernel_rfl)) (by kernel_rfl) (by kernel_rfl)
end
namespace un
open Go.RowKit dec
theorem Oc:(Tryz.prog.info? 5).map (fun i=>(i.zero,i.size,i.bytes))=some (some (.int .u8 0),1,1):=by kernel_rfl
def bv (l:List UInt8):List Value:=l.map fun c=>Value.int .u8 (c.toNat:Int)
theorem K8 (l:List UInt8):(bv l).length=l.length:=by unfold bv;rw [List.length_map]
theorem zD (l r:List UInt8):bv (l++r)=bv l++bv r:=by unfold bv;rw [List.map_append]
theorem tC (s:ByteArray):Lib.strCells s=bv s.data.toList:=by
 unfold Lib.strCells bv;simp
theorem nu {n d:Nat} (h:d<n):n - (intOf (Value.int .i64 ((d:Int)+1))).toNat<n - (intOf (Value.int .i64 (d:Int))).toNat:=by
 show n - (((d:Int)+1)).toNat<n - ((d:Nat):Int).toNat;omega
theorem aI (s:ByteArray):s.data.toList.length=s.size:=by rw [Array.length_toList];rfl
end un
section
open Go.RowKit dec
theorem zN (lo:Nat) (s:ByteArray) (hs:s.size≤9223372036854775806) (w:World):Calls Tryz.prog 303 #[.string s,.int .u8 (lo:Nat)] w fun e w' => e=.returned (.bool (pB lo s.data.toList))∧w=w':=by
 go_enter Tryz.func303,Tryz.ntmps303
 go_wp2
 go_loopw [5] (fun x wr => ∃ i:Nat,x=.int .i64 (i:Nat)∧i≤s.size∧Hid (pB lo s.data.toList=pB lo (s.data.toList.drop i))∧wr=w) (fun x _=>s.size - (intOf x).toNat)
 case atStart=>exact ⟨0,rfl,by omega,rfl,rfl⟩
 case round =>
  obtain ⟨i,rfl,hi,hp,rfl⟩:=hrel;go_wp2
  case roundEnd =>
   have h1:i<s.size:=by omega
   rename_i h2;simp only [L_m] at h2;refine ⟨⟨i+1,rfl,by omega,?_,trivial⟩,?_⟩
   ·exact Hy (hp.o.trans ((mD lo s h1).2 ((EP lo s[i]).2 (by omega))))
   show s.size - ((i:Int)+1).toNat<s.size - ((i:Nat):Int).toNat;omega
  all_goals go_ret
  all_goals refine ⟨congrArg (fun b=>Ending.returned (Value.bool b)) (Eq.symm ?_),rfl⟩
  all_goals rw [hp.o]
  all_goals first
    | exact JA lo s (by omega)
    | exact (mD lo s (by omega)).1 ((vR lo _).2 (by omega))
    | (rename_i h2;simp only [beq_iff_eq] at h2;exact (mD lo s (by omega)).1 ((vR lo _).2 (by omega)))
theorem FD (s:ByteArray) (hs:s.size≤140737488355328) (w:World):Calls Tryz.prog 277 #[.string s] w fun e w' => e=.returned (.bool (!decide (s.size=0) && decide (s.size≤32) && pB 33 s.data.toList))∧w=w':=by
 have C1:=Hy (fun w=>zN 33 s (by omega) w);by_cases hz:s.size=0
 ·have hz2:=nN hz;subst hz2;clear C1
  go_enter Tryz.func277,Tryz.ntmps277
  go_wp2_with fail;go_ret;exact ⟨rfl,rfl⟩
 have he:s.toList.isEmpty=false:=by rw [emp];exact dF hz
 rw [dF hz];clear hz;by_cases h:s.size≤32
 ·rw [dT h]
  go_enter Tryz.func277,Tryz.ntmps277
  go_wp2_with fail;refine (C1.o _).mono ?_;rintro e w' ⟨rfl,rfl⟩;go_wp2;go_ret;exact ⟨rfl,rfl⟩
 rw [dF h];clear C1
 go_enter Tryz.func277,Tryz.ntmps277
 go_wp2_with fail;go_ret;exact ⟨rfl,rfl⟩
end
namespace ch
open Go.RowKit dec
def flR (h g:Hd):Bool:=decide (h.k=g.k) && same h g
theorem Nb (h g:Hd) (n m:Nat) (ua ub aa ab:Option Addr) (uc ud ac ad:Nat) (w:World) (hU:un.Sl w ua h.un.length uc h.un) (hV:un.Sl w ub g.un.length ud g.un) :
    Calls Tryz.prog 70 #[.agg (exC h n ua uc aa ac),.agg (exC g m ub ud ab ad)] w (Bl (flR h g) w):=by
 have bb:=bB w (.cells (exC h n ua uc aa ac) 29) (.cells (exC g m ub ud ab ad) 29);have B0:=Hy bb;have GG:=eH w (exC h n ua uc aa ac) (exC g m ub ud ab ad) 29 29;have G1:=Hy GG.1;have G2:=Hy GG.2;have CS:=Hy (un.ze _ _ _ _ _ _ _ _ _ (hU.keeps bb) (hV.keeps bb));have hE:flR h g=flR h g:=rfl
 conv at hE=>rhs;unfold flR same
 replace hE:=Hy hE;clear hU hV bb GG;unfold exC at *;by_cases hk:h.k=g.k
 ·have qn:=dG hk;replace hE:=hE.o;simp only [dT hk,L_l] at hE;replace hE:=Hy hE;clear hk;by_cases e0:h.op=g.op
  ·have qhop:=nS e0;replace hE:=hE.o;simp only [dT e0,L_l] at hE;replace hE:=Hy hE;clear e0;by_cases e1:h.nm=g.nm
   ·have qhnm:=nS e1;replace hE:=hE.o;simp only [dT e1,L_l] at hE;replace hE:=Hy hE;clear e1;by_cases e2:h.tb=g.tb
    ·have qhtb:=nS e2;replace hE:=hE.o;simp only [dT e2,L_l] at hE;replace hE:=Hy hE;clear e2;by_cases e3:h.vk=g.vk
     ·have qhvk:=dG e3;replace hE:=hE.o;simp only [dT e3,L_l] at hE;replace hE:=Hy hE;clear e3;by_cases e4:h.vn=g.vn
      ·have qhvn:=dG e4;replace hE:=hE.o;simp only [dT e4,L_l] at hE;replace hE:=Hy hE;clear e4;by_cases e5:h.vs=g.vs
       ·have qhvs:=nS e5;replace hE:=hE.o;simp only [dT e5,L_l] at hE;replace hE:=Hy hE;clear e5
        go_enter Tryz.func70,Tryz.ntmps70
        go_wp2_with fail;refine (CS.o).mono ?_;rintro e w1 ⟨rfl,b1⟩;have B1:=Hy (ak B0.o b1);replace G1:=Hy (G1.o.keeps b1);replace G2:=Hy (G2.o.keeps b1);have c8:=G1.o.cell 8;have c9:=G1.o.cell 9;have c10:=G1.o.cell 10;simp only [sz2,sz3,sz4] at c8 c9 c10;have d8:=G2.o.cell 8;have d9:=G2.o.cell 9;have d10:=G2.o.cell 10;simp only [sz2,sz3,sz4] at d8 d9 d10;clear b1 CS;have hu:decide (h.un=g.un)=un.jK h.un g.un:=rfl;replace hE:=hE.o;rw [hu] at hE;replace hE:=Hy hE;clear hu;generalize un.jK h.un g.un=u at *;cases u
        ·replace hE:=hE.o;simp only [L_k] at hE;replace hE:=Hy hE;go_wp2_with fail;go_ret;exact aL (by rw [hE.o]) B1.o
        replace hE:=hE.o;simp only [L_l] at hE;replace hE:=Hy hE;by_cases e0:h.pa=g.pa
        ·have qhpa:=dG e0;replace hE:=hE.o;simp only [dT e0,L_l] at hE;replace hE:=Hy hE;clear e0;by_cases e1:h.wk=g.wk
         ·have qhwk:=dG e1;replace hE:=hE.o;simp only [dT e1,L_l] at hE;replace hE:=Hy hE;clear e1;by_cases e2:h.ws=g.ws
          ·have qhws:=dG e2;replace hE:=hE.o;simp only [dT e2] at hE;replace hE:=Hy hE;clear e2;go_wp2_with fail;go_ret;exact aL (by rw [hE.o]) B1.o
          have qhws:=dB e2;replace hE:=hE.o;simp only [dF e2] at hE;replace hE:=Hy hE;clear e2;go_wp2_with fail;go_ret;exact aL (by rw [hE.o]) B1.o
         have qhwk:=dB e1;replace hE:=hE.o;simp only [dF e1,L_k] at hE;replace hE:=Hy hE;clear e1;go_wp2_with fail;go_ret;exact aL (by rw [hE.o]) B1.o
        have qhpa:=dB e0;replace hE:=hE.o;simp only [dF e0,L_k] at hE;replace hE:=Hy hE;clear e0;go_wp2_with fail;go_ret;exact aL (by rw [hE.o]) B1.o
       have qhvs:=nR e5;replace hE:=hE.o;simp only [dF e5,L_k] at hE;replace hE:=Hy hE;clear e5
       go_enter Tryz.func70,Tryz.ntmps70
       go_wp2_with fail;go_ret;exact aL (by rw [hE.o]) B0.o
      have qhvn:=dB e4;replace hE:=hE.o;simp only [dF e4,L_k] at hE;replace hE:=Hy hE;clear e4
      go_enter Tryz.func70,Tryz.ntmps70
      go_wp2_with fail;go_ret;exact aL (by rw [hE.o]) B0.o
     have qhvk:=dB e3;replace hE:=hE.o;simp only [dF e3,L_k] at hE;replace hE:=Hy hE;clear e3
     go_enter Tryz.func70,Tryz.ntmps70
     go_wp2_with fail;go_ret;exact aL (by rw [hE.o]) B0.o
    have qhtb:=nR e2;replace hE:=hE.o;simp only [dF e2,L_k] at hE;replace hE:=Hy hE;clear e2
    go_enter Tryz.func70,Tryz.ntmps70
    go_wp2_with fail;go_ret;exact aL (by rw [hE.o]) B0.o
   have qhnm:=nR e1;replace hE:=hE.o;simp only [dF e1,L_k] at hE;replace hE:=Hy hE;clear e1
   go_enter Tryz.func70,Tryz.ntmps70
   go_wp2_with fail;go_ret;exact aL (by rw [hE.o]) B0.o
  have qhop:=nR e0;replace hE:=hE.o;simp only [dF e0,L_k] at hE;replace hE:=Hy hE;clear e0
  go_enter Tryz.func70,Tryz.ntmps70
  go_wp2_with fail;go_ret;exact aL (by rw [hE.o]) B0.o
 have qn:=dB hk;replace hE:=hE.o;simp only [dF hk,L_k] at hE;replace hE:=Hy hE;clear hk
 go_enter Tryz.func70,Tryz.ntmps70
 go_wp2_with fail;go_ret;exact aL (by rw [hE.o]) B0.o
end ch
namespace un
open Go.RowKit dec
def bef (l:List Fa) (j:Nat):ByteArray:=if j=0 then .empty else (gt l (j - 1)).1
end un
namespace ch
open Go.RowKit dec
def No (k:Int) (b:Bool) (w:World) (e:Ending) (w':World):Prop:=e=.returned (.tuple #[.int .i64 k,.bool b])∧Below w.heap.size w w'
end ch
end Go.Proofs.YtbahfelnbofjjaaGreatDoor
