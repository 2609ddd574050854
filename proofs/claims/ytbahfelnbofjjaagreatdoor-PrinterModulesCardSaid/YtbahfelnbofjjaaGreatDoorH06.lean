/- Texts of units as plain data. -/
import Derived.Test.YtbahfelnbofjjaaGreatDoorH05
set_option maxRecDepth 100000
set_option maxHeartbeats 16000000
namespace Go.Proofs.YtbahfelnbofjjaaGreatDoor
namespace un
def kL (l:List UInt8):Int :=
 match Lib.atoiAll l with
 | .ok v=>v
 | Lib.NumEnd.syntax=>0
 | .range=>Lib.atoiSat l
def f1 (x:Fa):List UInt8:=if x.2=1 then x.1.data.toList else x.1.data.toList++94 :: Lib.itoa x.2
def fT (l:List Fa):List UInt8:=Lib.join (l.map f1) [42]
def fac (l:List UInt8):Fa:=if Lib.indexByte l 94 = -1 then (⟨l.toArray⟩,1) else (⟨(l.take (Lib.indexByte l 94).toNat).toArray⟩,kL (l.drop ((Lib.indexByte l 94).toNat+1)))
theorem zA {u:Nat} (h:u<10):Lib.decDigits u=[UInt8.ofNat (48+u)]:=by
 rw [Lib.decDigits,dif_pos h]
theorem KO {n:Int} (h:far n=false):n = -8∨n = -7∨n = -6∨n = -5∨n = -4∨n = -3∨n = -2∨n = -1∨n=0∨n=1∨n=2∨n=3∨n=4∨n=5∨n=6∨n=7∨n=8:=by
 unfold far at h;rw [decide_eq_false_iff_not] at h;omega
theorem ML {n:Int} (h:far n=false):(42:UInt8) ∉ Lib.itoa n∧kL (Lib.itoa n)=n∧(Lib.itoa n).length≤2:=by
 rcases KO h with rfl | rfl | rfl | rfl | rfl | rfl | rfl | rfl | rfl | rfl | rfl | rfl | rfl | rfl | rfl | rfl | rfl
 all_goals unfold Lib.itoa
 all_goals first
   | rw [if_pos (by decide),zA (by decide)]
   | rw [if_neg (by decide),zA (by decide)]
 all_goals decide
theorem UK {x:Fa} (h1:word x.1=true) (h2:far x.2=false):1≤(f1 x).length∧(f1 x).length≤27:=by
 have hs:=nK h1;rw [Lib.size_eq] at hs;have:=(ML h2).2.2;unfold f1;split
 ·omega
 rw [L_a,L_b];omega
theorem KM {u:List Fa} (h:Ok u):(fT u).length≤200:=by
 have hg:∀ (l:List Fa),(∀ x ∈ l,word x.1=true∧far x.2=false)→(fT l).length≤28 * l.length:=by
  intro l
  induction l with
  | nil=>intro _;exact Nat.le_refl _
  | cons x l ih =>
    intro hl
    have hx:=hl x (L_e ..)
    have h1:=(UK hx.1 hx.2).2
    have h2:=ih fun y hy=>hl y (L_h _ hy)
    cases l with
    | nil =>
      unfold fT
      rw [L_p,List.map_nil,Lib.join_one]
      simp;omega
    | cons y l =>
      have e:fT (x :: y :: l)=f1 x++42 :: fT (y :: l):=by
        unfold fT
        rw [L_p,L_p,Lib.join_cons,Lib.join_cons]
        simp [Lib.joinTail]
      rw [e,L_a,L_b]
      simp only [L_b] at *
      omega
 have:=hg u fun x hx=>⟨(h.good x hx).1,(h.good x hx).2.2⟩;have:=h.le;omega
end un
namespace ch
open Go.RowKit dec
def uT (u:List un.Fa):List UInt8:=if u=[] then [] else 32 :: 91 :: (un.fT u++[93])
def tyT (t:Ty):List UInt8 :=
 if t.k=1 then [98,111,111,108] else if t.k=4 then [116,101,120,116] else if t.k=5 then [107,101,121,32]++t.of.data.toList else if t.k=2 then [105,110,116]++uT t.un else [100,101,99]++uT t.un
def wiT (k n:Int):List UInt8 :=
 if k=2 then [115,108,105,100,105,110,103,32]++Lib.itoa n else if k=3 then [116,117,109,98,108,105,110,103,32]++Lib.itoa n else if k=4 then [115,101,115,115,105,111,110,32]++Lib.itoa n else [97,108,108]
def liT (h:Hd):List UInt8:=if h.vk=5 then 64 :: (h.nm.data.toList++32 :: 34 :: (h.vs.data.toList++[34])) else fm ⟨h.vk,h.vn,h.vs⟩++uT h.un
def rkO (op:ByteArray):Int:=if op=⟨#[111,114]⟩ then 2 else if op=⟨#[97,110,100]⟩ then 3 else if op=⟨#[43]⟩∨op=⟨#[45]⟩ then 6 else if op=⟨#[42]⟩∨op=⟨#[47]⟩ then 7 else 5
def rk (h:Hd):Int :=
 if h.k=8 then 0 else if h.k=9 then 1 else if h.k=7 then rkO h.op else if h.k=6 then (if h.op=⟨#[110,111,116]⟩ then 4 else if h.op=⟨#[45]⟩ then 8 else 9) else 9
def lef (r:Int):Int:=if r=5 then 6 else r
def par (r q:Int) (t:List UInt8):List UInt8:=if r<q then 40 :: (t++[41]) else t
abbrev Od:=List UInt8 × Hd
def od (l:List Od) (j:Nat):Od:=l.getD j ([],h0)
def odT (l:List Od) (j:Nat):List UInt8:=(od l j).1
def odP (l:List Od) (j:Nat) (q:Int):List UInt8:=par (rk (od l j).2) q (od l j).1
def agT (h:Hd) (l:List Od):List UInt8 :=
 h.op.data.toList++40 :: (h.tb.data.toList++((if h.op=⟨#[99,111,117,110,116]⟩ then [] else 44 :: 32 :: odT l 0)++((if h.op=⟨#[113,117,97,110,116,105,108,101]⟩∨h.op=⟨#[100,101,99,97,121]⟩ then 44 :: 32 :: Lib.itoa h.pa else []) ++
  (44 :: 32 :: wiT h.wk h.ws++((if bY (od l 1).2=true then [] else [32,119,104,101,114,101,32]++odT l 1)++[41])))))
def eF (h:Hd) (l:List Od):List UInt8 :=
 if h.k=1 then liT h
 else if h.k=4 then h.nm.data.toList++([32,111,102,32,40]++(odT l 0++[41]))
 else if h.k=5 then agT h l
 else if h.k=6 then (if h.op=⟨#[45]⟩ then 45 :: odP l 0 8 else if h.op=⟨#[110,111,116]⟩ then [110,111,116,32]++odP l 0 4 else [110,117,108,108,40]++(odT l 0++[41]))
 else if h.k=7 then odP l 0 (lef (rkO h.op))++(32 :: (h.op.data.toList++32 :: odP l 1 (rkO h.op+1)))
 else if h.k=8 then [105,102,32]++(odT l 0++([32,116,104,101,110,32]++(odT l 1++([32,101,108,115,101,32]++odT l 2))))
 else if h.k=9 then odP l 0 1++([32,100,101,102,97,117,108,116,32]++odP l 1 2)
 else h.nm.data.toList
def txF:Fo→List Od
 | .nil=>[]
 | .cons h ar r=>(eF h (txF ar),h) :: txF r
def txE (x:Ex):List UInt8:=eF x.h (txF x.ar)
theorem kP:∀ F:Fo,(txF F).length=F.len
 | .nil=>rfl
 | .cons h ar r=>by simp only [txF,L_b,Fo.len,kP r]
theorem IW:∀ (F:Fo) (j:Nat),j<F.len→od (txF F) j=(txE (F.nth j),(F.nth j).h)
 | .nil,_,h=>absurd h (Nat.not_lt_zero _)
 | .cons h ar r,0,_=>rfl
 | .cons h ar r,j+1,hj=>by
  have:=IW r j (by simpa [Fo.len] using hj)
  simpa [txF,od,Fo.nth] using this
def fiT (f:Fi):List UInt8:=f.nm.data.toList++58 :: 32 :: tyT f.ty
def fsT:List Fi→List UInt8
 | []=>[]
 | f :: r=>32 :: (fiT f++(r.map fun g=>44 :: 32 :: fiT g).flatten)
def tbT (t:Tb):List UInt8 :=
 [116,97,98,108,101,32]++(t.nm.data.toList++([32,111,102,32]++(t.en.data.toList++([32,123]++(fsT t.fs++([32,125]++((if t.kp=0 then [] else [32,107,101,101,112,32]++Lib.itoa t.kp)++[59])))))))
def feT (f:Fe):List UInt8 :=
 [102,101,97,116,117,114,101,32]++(f.nm.data.toList++([32,111,102,32]++(f.en.data.toList++(58 :: 32 :: (tyT f.ty++([32,61,32]++(txE f.bo++[59])))))))
def pfE (f:Fe):Int:=if name f.nm=false then 3 else if name f.en=false then 3 else if tyE f.ty≠0 then tyE f.ty else shE f.bo
def lnR {α:Type} (e:α→Int) (t:α→List UInt8):List α→Int × List UInt8
 | []=>(0,[])
 | x :: r=>if e x≠0 then (e x,[]) else if (lnR e t r).1≠0 then ((lnR e t r).1,[]) else (0,t x++10 :: (lnR e t r).2)
def moR (ts:List Tb) (gs:List Fe):Int × List UInt8 :=
 if (lnR tbE tbT ts).1≠0 then ((lnR tbE tbT ts).1,[])
 else if (lnR pfE feT gs).1≠0 then ((lnR pfE feT gs).1,[])
 else if 16384<((lnR tbE tbT ts).2++(lnR pfE feT gs).2).length then (2,[])
 else (0,(lnR tbE tbT ts).2++(lnR pfE feT gs).2)
theorem iV (n:Int) (h0:0≤n) (h1:n≤1152921504606846976):(Lib.itoa n).length≤20:=by
 have hd:∀ (k u:Nat),u<10 ^ (k+1)→(Lib.decDigits u).length≤k+1:=by
  intro k
  induction k with
  | zero=>intro u hu;rw [Lib.decDigits_one (by simpa using hu)];simp
  | succ k ih =>
    intro u hu
    by_cases h:u<10
    · rw [Lib.decDigits_one h];simp
    · rw [Lib.decDigits,dif_neg h,L_a]
      have:=ih (u / 10) (by rw [Nat.pow_succ] at hu;omega)
      simp only [List.length_singleton]
      omega
 unfold Lib.itoa;rw [if_neg (by omega)];exact hd 19 n.toNat (by omega)
end ch
namespace un
open Go.RowKit dec
structure Tabs (w:World):Prop where
 ten:Lib.TabIs Tryz.prog w "internal/strconv.uint64pow10" .u64 Lib.pow10Tab
 syn:∃ tp p,w.var? Tryz.prog "strconv.ErrSyntax" = some #[.iface tp p]
 ran:∃ tp p,w.var? Tryz.prog "strconv.ErrRange" = some #[.iface tp p]
theorem Ih:Tryz.prog.globalNamed "strconv.ErrSyntax" = some 7:=by kernel_rfl
theorem Ii:Tryz.prog.globalNamed "strconv.ErrRange" = some 8:=by kernel_rfl
theorem I5 {W W':World} {nm:String} {q:IntKind} {tab:List Int} (h:Lib.TabIs Tryz.prog W nm q tab) (hb:Below W.heap.size W W'):Lib.TabIs Tryz.prog W' nm q tab:=by
 unfold Lib.TabIs at *
 cases hg:Tryz.prog.globalNamed nm with
 | none=>unfold World.var? at h;simp [hg] at h
 | some g=>exact Go.Joins.var_stays hg h hb lr
theorem Tabs.stays {w w':World} (h:Tabs w) (hb:Below w.heap.size w w'):Tabs w':=by
 obtain ⟨tp,p,h1⟩:=h.syn;obtain ⟨tq,q,h2⟩:=h.ran;exact ⟨I5 h.ten hb,⟨tp,p,Go.Joins.var_stays Ih h1 hb lr⟩,⟨tq,q,Go.Joins.var_stays Ii h2 hb lr⟩⟩
theorem iW (w:World) (e:TypeId) (s:ByteArray):Below w.heap.size w (Lib.bytesWorld w e s):=by
 refine ⟨rfl,rfl,rfl,?_,fun j hj=>Lib.bytesWorld_at_old w e s j hj⟩;rw [Lib.bytesWorld_size];omega
theorem CY (s:ByteArray) (hs:s.size≤281474976710656) (w:World) (T:Tabs w) :
    Calls Tryz.prog 143 #[.string s] w fun e w' => ∃ x,e=.returned (.tuple #[.int .i64 (kL s.data.toList),x])∧Below w.heap.size w w':=by
 unfold kL;rcases h:Lib.atoiAll s.data.toList with v | _ | _
 ·refine (Tryz.strconv_Atoi_ok s (by omega) v h w).mono ?_;rintro e w' ⟨rfl,rfl | ⟨t,rfl⟩⟩
  ·exact ⟨_,rfl,b0 _⟩
  exact ⟨_,rfl,iW _ _ _⟩
 ·obtain ⟨tp,p,h1⟩:=T.syn;refine (Tryz.strconv_Atoi_syntax_var s (by omega) h tp p w h1).mono ?_;rintro e w' ⟨N,rfl,h2⟩;exact ⟨_,rfl,h2.2.2⟩
 obtain ⟨tp,p,h1⟩:=T.ran;refine (Tryz.strconv_Atoi_range_var s (by omega) h tp p w h1).mono ?_;rintro e w' ⟨N,rfl,h2⟩;exact ⟨_,rfl,h2.2.2⟩
theorem qg (n:Int) (h0 : -9223372036854775808≤n) (h1:n≤9223372036854775807) (w:World) (T:Tabs w) :
    Calls Tryz.prog 56 #[.int .i64 n] w fun e w' => e=.returned (.string ⟨(Lib.itoa n).toArray⟩)∧Below w.heap.size w w':=by
 refine (Tryz.strconv_Itoa n h0 h1 w T.ten).mono ?_;rintro e w' ⟨rfl,k,os,rfl⟩;exact ⟨rfl,below_regrown w (w.drewN k).drawn os⟩
theorem pK (x y:List UInt8) (hx:x.length≤2097152) (hy:y.length≤2097152) (W:World):(Op.stringOp .add ⟨x.toArray⟩ ⟨y.toArray⟩).run Tryz.prog W=.ok (.string ⟨(x++y).toArray⟩) W:=run_string_add_lists W x y (by omega) (by omega)
theorem NV:∀ (k u:Nat),u<10 ^ (k+1)→Lib.nDigits u≤k+1
 | 0,u,h=>by rw [Lib.nDigits_small (by simpa using h)];omega
 | k+1,u,h=>by
  by_cases h9:u<10
  ·rw [Lib.nDigits_small h9];omega
  ·rw [Lib.nDigits_big h9]
   have:=NV k (u / 10) (by rw [Nat.pow_succ] at h;omega)
   omega
theorem MK (n:Int) (h0 : -9223372036854775808≤n) (h1:n≤9223372036854775807):(Lib.itoa n).length≤20:=by
 have hd:∀ u:Nat,u<10000000000000000000→(Lib.decDigits u).length≤19:=fun u hu=>by
  rw [Lib.decDigits_eq,List.length_map,List.length_range];rcases Nat.lt_or_ge (Lib.nDigits u) 20 with h | h
  ·omega
  exfalso;have:=NV 18 u (by omega);omega
 unfold Lib.itoa;split
 ·rw [L_b];have:=hd n.natAbs (by omega);omega
 have:=hd n.toNat (by omega);omega
theorem Io (x:Fa) (hs:x.1.size≤1048576) (h0 : -9223372036854775808≤x.2) (h1:x.2≤9223372036854775807) (w:World) (T:Tabs w) :
    Calls Tryz.prog 230 #[.agg #[.string x.1,.int .i64 x.2]] w fun e w' => e=.returned (.string ⟨(f1 x).toArray⟩)∧Below w.heap.size w w':=by
 have I:=Hy (fun W (h:Below w.heap.size w W)=>qg x.2 h0 h1 W (T.stays h));have L:=MK x.2 h0 h1;by_cases hx:x.2=1
 ·have q1:(x.2==1)=true:=beq_iff_eq.2 hx;have hr:=Hy (show f1 x=x.1.data.toList by unfold f1;rw [if_pos hx]);clear I hx L h0 h1 T hs;generalize x.2=y at *
  go_enter Tryz.func230,Tryz.ntmps230
  go_wp2_with fail;go_ret;exact ⟨by rw [hr.o];rfl,aj (b0 w) _⟩
 have q1:(x.2==1)=false:=bF hx;have hr:=Hy (show (⟨(f1 x).toArray⟩:ByteArray)=⟨(x.1.data.toList++94 :: Lib.itoa x.2).toArray⟩ by unfold f1;rw [if_neg hx]);have hsz:x.1.data.toList.length≤1048576:=by rw [← Lib.size_eq];exact hs
 have A:=pK x.1.data.toList [94] (by omega) (by simp);replace A:∀ W,(Op.stringOp .add x.1 ⟨#[94]⟩).run Tryz.prog W=.ok (.string ⟨(x.1.data.toList++[94]).toArray⟩) W:=A;have B:=pK (x.1.data.toList++[94]) (Lib.itoa x.2) (by rw [L_a];simp;omega) (by omega);rw [show x.1.data.toList++[94]++Lib.itoa x.2=x.1.data.toList++94 :: Lib.itoa x.2 by simp] at B;have C0:=Hy ((Bw.new w x 82).c0);have C1:=Hy ((Bw.new w x 82).c1);have BB:=Hy (aj (b0 w) (.cells #[.string x.1,.int .i64 x.2] 82));clear hx L h0 h1 T hs hsz;generalize x.1.data.toList++94 :: Lib.itoa x.2=l3 at *;generalize (⟨(x.1.data.toList++[94]).toArray⟩:ByteArray)=s1 at *;generalize (⟨(Lib.itoa x.2).toArray⟩:ByteArray)=s2 at *;generalize (⟨l3.toArray⟩:ByteArray)=s3 at *
 go_enter Tryz.func230,Tryz.ntmps230
 go_wp2_with fail;generalize w.alloc (.cells #[.string x.1,.int .i64 x.2] 82)=W1 at *;have c0:=cell_regrown C0.o;have c1:=cell_regrown C1.o;have K1:=Hy (fun d os=>Calls.regrown_of (I.o (Sort.grow (redrawn W1 d) os) (ak BB.o (below_regrown W1 d os))));clear C0 C1 I;refine wp_region_quiet_below (by kernel_rfl) (by kernel_rfl) ?_
 repeat (first | go_big_quiet_skip | (go_big_quiet_want;go_big_quiet_op;go_big_quiet_on) | quiet_step ((first | (go_at_call 56;exact K1.o _ _))))
 refine wpQuiet_nil ?_;intro w9 hw9;have hb9:=CG hw9;clear hw9 K1 c0 c1;go_wp2_with fail;go_ret;exact ⟨by rw [hr.o];rfl,ak BB.o hb9⟩
theorem wo:(Tryz.prog.info? 9).map (fun i=>(i.zero,i.size,i.bytes))=some (some (.string ByteArray.empty),1,16):=by kernel_rfl
def OS (w:World) (base:Nat) (v:Value) (l:List ByteArray):Prop:=w.ownsRow base 9 1 v l.length (l.map Value.string)
theorem OS.nil (w:World) (base:Nat):OS w base (.slice none 0 0) []:=World.ownsRow_nil _ _ _ _
theorem OS.keeps {w w1:World} {base:Nat} {v:Value} {l:List ByteArray} (h:OS w base v l) (hb:Below w.heap.size w w1):OS w1 base v l:=by
 obtain ⟨h1,h2⟩:=h;refine ⟨h1,?_⟩;rcases h2 with h0 | ⟨g,cap,cur,e,hbg,hh,r⟩
 ·exact .inl h0
 refine .inr ⟨g,cap,cur,e,hbg,?_,r⟩;have:g<w.heap.size:=by
  rcases Nat.lt_or_ge g w.heap.size with h' | h'
  ·exact h'
  rw [Array.getElem?_eq_none h'] at hh;cases hh
 rw [hb.block _ this];exact hh
theorem fC (w:World) {ops:Array Oper} {rest:List Oper} {o:Oper} {a:Act} {Q:Exit→Act→World→Prop} (hgd:o.guard=none) (s x:Operand)
    (ho:o.op=.call { callee:=.builtin .append,args:=#[s,x],argTypes:=#[97,97] })
    (base:Nat) (v:Value) (l:List ByteArray) (hs:a.eval s=v) (hown:OS w base v l) (b:Nat) (t:ByteArray) (hx:a.eval x=.slice (some ⟨b,0,none⟩) 1 1) (hB:w.cell? ⟨b,0,none⟩=some (.string t))
    (hn:l.length<5864062014805) (hbase:base≤w.heap.size)
    (h:∀ v' w',OS w' base v' (l++[t])→Below base w w'→wpList Tryz.prog ops Q rest (a.put o.dst v') w'):wpList Tryz.prog ops Q (o :: rest) a w:=by
 refine wpList_plain hgd fun _ hK=>?_;obtain ⟨i,hi,hz0,hz1,hz2⟩:=info_parts wo
 refine wp_append_own w s x 97 ho base 9 i (.string ByteArray.empty) 1 16 uy97 hi hz0 hz1 hz2 rfl (by decide) v l.length (l.map Value.string) hs hown ⟨b,0,none⟩ 1 1 [.string t] hx rfl ?_ (fun u hu=>by simp at hu;subst hu;rfl)
   (by unfold maxLen;omega) (by omega) hbase fun v' w' h1 h2 _=>hK _ _ (h v' w' (by unfold OS;rw [List.map_append,L_a];exact h1) ((Below.refl base w).grown h2 hbase fun k hk=>(hown.lt k hk).1))
 intro j u hu
 match j,hu with
 | 0,hu=>simp at hu;subst hu;exact hB
 | j+1,hu=>simp at hu
theorem jX {w:World} {ops:Array Oper} {rest:List Oper} {o:Oper} {a:Act} {Q:Exit→Act→World→Prop} (s x:Operand) (_:o.op=.call { callee:=.builtin .append,args:=#[s,x],argTypes:=#[97,97] })
  (k:wpList Tryz.prog ops Q (o :: rest) a w):wpList Tryz.prog ops Q (o :: rest) a w:=k
theorem kV (v:Value) (l:List ByteArray) (base:Nat) (w:World) (hO:OS w base v l) (hn:l.length<5864062014805) (hl:(Lib.join (l.map (·.data.toList)) [42]).length≤140737488355328) :
    Calls Tryz.prog 57 #[v,.string ⟨#[42]⟩] w fun e w' => e=.returned (.string ⟨(Lib.join (l.map (·.data.toList)) [42]).toArray⟩)∧Below w.heap.size w w':=by
 obtain ⟨h1,h2⟩:=id hO;rcases h2 with ⟨rfl,h0⟩ | ⟨g,cap,cur,rfl,hbg,hh,hc,hm,hs,ht⟩
 ·have hz:l=[]:=List.eq_nil_of_length_eq_zero h0;subst hz;refine (Tryz.strings_Join_none none 0 ⟨#[42]⟩ w).mono ?_;rintro e w' ⟨rfl,rfl⟩;exact ⟨rfl,b0 _⟩
 refine (Tryz.strings_Join g 0 cap l ⟨#[42]⟩ w (fun j x hx=>?_) (hO.lt g rfl).2 (by omega) hc hl).mono ?_
 ·have hj:j<l.length:=(List.getElem?_eq_some_iff.1 hx).1;rw [Nat.zero_add,World.ownsRow.cellAt hO j (by simpa using hj),List.getElem?_map,hx];rfl
 rintro e w' ⟨rfl,hb⟩;exact ⟨rfl,hb⟩
theorem KN (l:List Fa):(l.map fun x=>(⟨(f1 x).toArray⟩:ByteArray)).map (·.data.toList)=l.map f1:=by
 rw [List.map_map];rfl
theorem qh (a:Option Addr) (n cap:Nat) (l:List Fa) (w:World) (hS:Sl w a n cap l) (hx:∀ x ∈ l,-9223372036854775808≤x.2∧x.2≤9223372036854775807) (hz:∀ x ∈ l,x.1.size≤1048576) (hlen:l.length<5864062014805) (ht:(fT l).length≤140737488355328) (T:Tabs w) :
    Calls Tryz.prog 163 #[.slice a n cap] w fun e w' => e=.returned (.string ⟨(fT l).toArray⟩)∧Below w.heap.size w w':=by
 have S0:=Hy hS;have X0:=Hy hx;have Z0:=Hy hz;have N0:=Hy hlen;have T0:=Hy T;have J0:=Hy (fun v W h=>kV v (l.map fun x=>(⟨(f1 x).toArray⟩:ByteArray)) w.heap.size W h (by rw [List.length_map];exact hlen) (by rw [KN];exact ht));rw [KN] at J0;clear hS hx hz hlen T ht
 go_enter Tryz.func163,Tryz.ntmps163
 go_wp2_with fail
 go_loopw [3,8] (fun vu vi wr => ∃ j:Nat,vi=.int .i64 (j:Nat)∧Hid (j≤n)∧Hid (OS wr w.heap.size vu ((l.take j).map fun x=>(⟨(f1 x).toArray⟩:ByteArray)))∧Hid (Below w.heap.size w wr)) (fun _ vi _=>n - (intOf vi).toNat)
 case atStart=>exact ⟨0,rfl,Hy zl,Hy (OS.nil _ _),Hy (b0 w)⟩
 case round =>
  obtain ⟨j,rfl,hj,hO,hb⟩:=hrel;by_cases hc:j<n
  ·have hln:=Hy (show j<l.length by have:=S0.o.hn;omega);obtain ⟨bk,off,rfl,hC⟩:=(S0.o.keeps hb.o).hat.resolve_left (by have:=hln.o;omega);obtain ⟨c0,c1⟩:=hC j hln.o;have q2:decide ((j:Int)<(n:Int))=true:=dT (by omega);have q3:j<n:=hc;have f4:=Hy (aP (j:=j) (by have:=S0.o.hcap;have:=S0.o.hmax;omega));have hm:=jH hln.o;have FC:=Hy (fun W (h:Below w.heap.size w W)=>Io (gt l j) (Z0.o _ hm) (X0.o _ hm).1 (X0.o _ hm).2 W (T0.o.stays h));have hn:=Hy (gY hln.o);have hl8:=Hy (show ((l.take j).map fun x=>(⟨(f1 x).toArray⟩:ByteArray)).length<5864062014805 by have:=N0.o;simp;omega);clear hC hm;generalize gt l j=x at c0 c1 hn FC;have BB:=Hy (aj hb.o (.cells #[.string x.1,.int .i64 x.2] 82));have OO:=Hy (hO.o.keeps (aj (b0 wr) (.cells #[.string x.1,.int .i64 x.2] 82)));generalize hs1:(⟨(f1 x).toArray⟩:ByteArray)=s1 at FC;replace hs1:=Hy hs1;go_wp2_with fail;refine (FC.o _ BB.o).mono ?_;rintro e w3 ⟨rfl,b3⟩;have B3:=Hy (ak BB.o b3);have O3:=Hy (OO.o.keeps b3);clear b3 BB OO;go_wp2_with (at_builtin;refine jX (.tmp 12) (.tmp 15) rfl ?_;refine fC _ rfl (.tmp 12) (.tmp 15) rfl w.heap.size _ _ rfl (O3.o.keeps (aj (b0 w3) _)) w3.heap.size s1 rfl (by simp [go_sem]) hl8.o (by have:=B3.o.size;simp;omega) ?_;intro v2 w6 O6 b6);have B6:=Hy ((aj B3.o (.cells #[.string s1] 9)).trans b6);have O7:=Hy (show OS w6 w.heap.size v2 ((l.take (j+1)).map fun x=>(⟨(f1 x).toArray⟩:ByteArray)) by rw [hn.o,List.map_append,List.map_singleton,hs1.o];exact O6);clear b6 O6;go_wp2_with fail;refine ⟨⟨j+1,congrArg (Value.int .i64) f4.o,Hy hc,O7,B6⟩,aU hc f4.o⟩
  have q2:decide ((j:Int)<(n:Int))=false:=dF (by omega);have hO2:=Hy hO.o;rw [show l.take j=l from L_q (by have:=S0.o.hn;omega)] at hO2;clear hO;go_wp2_with fail;refine (J0.o _ _ hO2.o).mono ?_;rintro e w7 ⟨rfl,b7⟩;have B7:=Hy (ak hb.o b7);clear b7;go_wp2_with fail;go_ret;exact ⟨rfl,B7.o⟩
end un
namespace ch
open Go.RowKit dec
def Sr (s:ByteArray) (w:World) (e:Ending) (w':World):Prop:=e=.returned (.string s)∧Below w.heap.size w w'
theorem nM {a b:ByteArray} {w w':World} (h:a=b) (hb:Below w.heap.size w w'):Sr b w (.returned (.string a)) w':=⟨by rw [h],hb⟩
def B8 (l:List UInt8):ByteArray:=⟨l.toArray⟩
theorem bZ (l:List UInt8):(B8 l).data.toList=l:=rfl
theorem mJ (l:List UInt8):(B8 l).size=l.length:=by rw [← aI];rfl
theorem dz (x y:List UInt8) (hx:x.length≤1000000000000000000) (hy:y.length≤1000000000000000000) (W:World):(Op.stringOp .add (B8 x) (B8 y)).run Tryz.prog W=.ok (.string (B8 (x++y))) W:=by
 rw [run_string_add_sum W _ _ (by rw [mJ,mJ];omega)];rfl
structure Ss (w:World) (a:Option Addr) (n cap:Nat) (l:List ByteArray):Prop where
 hat:l.length=0∨∃ b off,a=some ⟨b,off,none⟩∧∀ j (h:j<l.length),w.cell? ⟨b,off+j,none⟩=some (.string l[j])
 hn:l.length=n
 hcap:n≤cap
 hmax:cap≤9223372036854775807
theorem Ss.keeps {w w':World} {a:Option Addr} {n cap:Nat} {l:List ByteArray} (h:Ss w a n cap l) (hb:Below w.heap.size w w'):Ss w' a n cap l :=
 { h with hat:=h.hat.imp id fun ⟨b,off,e,hc⟩=>⟨b,off,e,fun j hj=>dec.keeps hb (hc j hj)⟩ }
theorem Ss.new (w:World) (l:List ByteArray) (n:Nat) (cs:Array Value) (hn:l.length=n) (hcs:cs=(l.map Value.string).toArray) (hm:n≤1000000) (T:TypeId):Ss (w.alloc (.cells cs T)) (some ⟨w.heap.size,0,none⟩) n n l:=by
 refine ⟨.inr ⟨w.heap.size,0,rfl,fun j hj=>?_⟩,hn,Nat.le_refl _,by omega⟩;have:=(Blk.new w T cs).cell (0+j);rw [this,hcs];simp [hj]
def nel (l:List ByteArray):List ByteArray:=l.filter fun s=>decide (s≠.empty)
def wrd (l:List ByteArray):List UInt8:=Lib.join ((nel l).map (·.data.toList)) [32]
theorem vT (a b:List ByteArray):nel (a++b)=nel a++nel b:=List.filter_append ..
theorem uK (sep:ByteArray) (v:Value) (l:List ByteArray) (base:Nat) (w:World) (hO:un.OS w base v l) (hn:l.length<5864062014805) (hl:(Lib.join (l.map (·.data.toList)) sep.data.toList).length≤140737488355328) :
    Calls Tryz.prog 57 #[v,.string sep] w (Sr (B8 (Lib.join (l.map (·.data.toList)) sep.data.toList)) w):=by
 obtain ⟨h1,h2⟩:=id hO;rcases h2 with ⟨rfl,h0⟩ | ⟨g,cap,cur,rfl,hbg,hh,hc,hm,hs,ht⟩
 ·have hz:l=[]:=List.eq_nil_of_length_eq_zero h0;subst hz;refine (Tryz.strings_Join_none none 0 sep w).mono ?_;rintro e w' ⟨rfl,rfl⟩;exact ⟨rfl,b0 _⟩
 refine (Tryz.strings_Join g 0 cap l sep w (fun j x hx=>?_) (hO.lt g rfl).2 (by omega) hc hl).mono ?_
 ·have hj:j<l.length:=(List.getElem?_eq_some_iff.1 hx).1;rw [Nat.zero_add,World.ownsRow.cellAt hO j (by simpa using hj),List.getElem?_map,hx];rfl
 rintro e w' ⟨rfl,hb⟩;exact ⟨rfl,hb⟩
theorem Bq {l:List ByteArray} {j:Nat} (hj:j<l.length) (h:l[j]≠.empty):nel (l.take (j+1))=nel (l.take j)++[l[j]]:=by
 rw [List.take_succ_eq_append_getElem hj,vT];congr 1;unfold nel;simp [h]
theorem Dx {l:List ByteArray} {j:Nat} (hj:j<l.length) (h:l[j]=.empty):nel (l.take (j+1))=nel (l.take j):=by
 rw [List.take_succ_eq_append_getElem hj,vT];unfold nel;simp [h]
theorem fE (a:Option Addr) (n cap:Nat) (l:List ByteArray) (w:World) (hS:Ss w a n cap l) (hm:n≤1000000) (hz:(wrd l).length≤100000000):Calls Tryz.prog 55 #[.slice a n cap] w (Sr (B8 (wrd l)) w):=by
 have S0:=Hy hS;have HM:=Hy hm;have J0:=Hy (fun v W h=>uK ⟨#[32]⟩ v (nel l) w.heap.size W h (by have:=List.length_filter_le (fun s:ByteArray=>decide (s≠.empty)) l;have:=hS.hn;unfold nel;omega) (show (wrd l).length≤_ by omega));have hJ:=Hy (show B8 (Lib.join ((nel l).map (·.data.toList)) (⟨#[32]⟩:ByteArray).data.toList)=B8 (wrd l) from rfl);rw [hJ.o] at J0;generalize B8 (wrd l)=r at *;clear hS hm hz hJ
 go_enter Tryz.func55,Tryz.ntmps55
 go_wp2_with fail
 go_loopw [3,8] (fun vu vi wr => ∃ j:Nat,vi=.int .i64 (j:Nat)∧Hid (j≤n)∧Hid (un.OS wr w.heap.size vu (nel (l.take j)))∧Hid (Below w.heap.size w wr)) (fun _ vi _=>n - (intOf vi).toNat)
 case atStart=>exact ⟨0,rfl,Hy zl,Hy (un.OS.nil _ _),Hy (b0 w)⟩
 case round =>
  obtain ⟨j,rfl,hj,hO,hb⟩:=hrel;by_cases hc:j<n
  ·have hln:=Hy (show j<l.length by have:=S0.o.hn;omega);obtain ⟨bk,off,rfl,hC⟩:=(S0.o.keeps hb.o).hat.resolve_left (by have:=hln.o;omega);have c0:=hC j hln.o;have q2:decide ((j:Int)<(n:Int))=true:=dT (by omega);have q3:j<n:=hc;have f4:=Hy (aP (j:=j) (by have:=S0.o.hcap;have:=S0.o.hmax;omega));have hl8:=Hy (show (nel (l.take j)).length<5864062014805 by have h1:=List.length_filter_le (fun s:ByteArray=>decide (s≠.empty)) (l.take j);have h2:=HM.o;rw [List.length_take] at h1;unfold nel;omega);clear hC;by_cases he:l[j]'hln.o=.empty
   ·have hn:=Hy (Dx hln.o he);have q5:=eqE (l[j]'hln.o);rw [dT he] at q5;replace he:=Hy he;replace hO:=Hy (show un.OS wr w.heap.size u3 (nel (l.take (j+1))) by rw [hn.o];exact hO.o);clear hn hl8;generalize l[j]'hln.o=x at *;go_wp2_with fail;refine ⟨⟨j+1,congrArg (Value.int .i64) f4.o,Hy hc,hO,hb⟩,aU hc f4.o⟩
   have hn:=Hy (Bq hln.o he);have q5:=eqE (l[j]'hln.o);rw [dF he] at q5;replace he:=Hy he;generalize l[j]'hln.o=x at *;go_wp2_with (at_builtin;refine un.jX (.tmp 14) (.tmp 16) rfl ?_;refine un.fC _ rfl (.tmp 14) (.tmp 16) rfl w.heap.size _ _ rfl (hO.o.keeps (aj (b0 wr) _)) wr.heap.size x rfl (by simp [go_sem]) hl8.o (by have:=hb.o.size;simp;omega) ?_;intro v2 w6 O6 b6);have B6:=Hy ((aj hb.o (.cells #[.string x] 9)).trans b6);have O7:=Hy (show un.OS w6 w.heap.size v2 (nel (l.take (j+1))) by rw [hn.o];exact O6);clear b6 O6;go_wp2_with fail;refine ⟨⟨j+1,congrArg (Value.int .i64) f4.o,Hy hc,O7,B6⟩,aU hc f4.o⟩
  have q2:decide ((j:Int)<(n:Int))=false:=dF (by omega);have hO2:=Hy hO.o;rw [show l.take j=l from L_q (by have:=S0.o.hn;omega)] at hO2;clear hO;go_wp2_with fail;refine (J0.o _ _ hO2.o).mono ?_;rintro e w7 ⟨rfl,b7⟩;have B7:=Hy (ak hb.o b7);clear b7;go_wp2_with fail;go_ret;exact nM rfl B7.o
abbrev Pc:=Bool × Int × ByteArray
def tk0 (p:Pc):Tk:=⟨p.2.1,p.2.2,0⟩
def pcB:List Pc→List UInt8
 | []=>[]
 | p :: l=>(if p.1=true then [32] else [])++(so (tk0 p)++pcB l)
theorem gN (p:Pc) (l:List Pc):pcB (p :: l)=(if p.1=true then [32] else [])++(so (tk0 p)++pcB l):=rfl
theorem gG:∀ a b:List Pc,pcB (a++b)=pcB a++pcB b
 | [],_=>rfl
 | p :: a,b=>by rw [L_g,gN,gN,gG a b];simp only [L_i]
def Hf (l:List Pc):Prop:=∃ q t,l=(false,q) :: t
def sp:List Pc→List Pc
 | []=>[]
 | p :: l=>(true,p.2) :: l
theorem mY {l:List Pc} (h:Hf l):pcB (sp l)=32 :: pcB l:=by
 obtain ⟨q,t,rfl⟩:=h;rfl
def clo (p:Pc):Bool:=decide (p.2.1=5) && !decide (p.2.2.data.toList.head? = some 61)
def opn (p:Pc):Bool:=decide (p.2.1=5) && [(⟨#[40]⟩:ByteArray),⟨#[45]⟩,⟨#[64]⟩,⟨#[91]⟩,⟨#[94]⟩,⟨#[42]⟩].any fun s=>decide (p.2.2=s)
def wf:Bool→List Pc→Bool
 | _,[]=>true
 | o,p :: l=>(p.1 || (o || clo p)) && (pr (tk0 p) && wf (opn p) l)
theorem gX {o:Bool} {p:Pc} {l:List Pc} : wf o (p :: l)=true↔(p.1=true∨o=true∨clo p=true)∧pr (tk0 p)=true∧wf (opn p) l=true:=by
 show ((p.1 || (o || clo p)) && (pr (tk0 p) && wf (opn p) l))=true↔_;simp only [L_d,Bool.or_eq_true]
theorem IQ {o:Bool} {l:List Pc} (h:wf false l=true):wf o l=true:=by
 cases l with
 | nil=>rfl
 | cons p l =>
   rw [gX] at h ⊢
   exact ⟨h.1.imp id fun h=>.inr (h.resolve_left (by decide)),h.2⟩
theorem qF:∀ (a b:List Pc) (o:Bool),wf o a=true→wf false b=true→wf o (a++b)=true
 | [],_,_,_,h=>IQ h
 | p :: a,b,o,h1,h2=>by
  rw [L_g]
  rw [gX] at h1 ⊢
  exact ⟨h1.1,h1.2.1,qF a b _ h1.2.2 h2⟩
theorem rW {l:List Pc} (h:wf true l=true):wf false (sp l)=true:=by
 cases l with
 | nil=>rfl
 | cons p l =>
   rw [gX] at h
   exact gX.2 ⟨.inl rfl,h.2⟩
def Nx (y:List UInt8):Prop:=y=[]∨∃ c r,y=c :: r∧isW c=false∧isD c=false∧c.toNat≠46∧c.toNat≠61
theorem Qi {x:Tk} (h:pr x=true) (hk:x.k=5) (h61:(so x).head?≠some 61) (y:List UInt8):Nx (so x++y):=by
 have h1:=((jh x).1 h).1;rw [hk] at h1
 cases hs:so x with
 | nil=>rw [hs] at h1;exact absurd (congrArg Prod.fst h1) (by decide)
 | cons c q =>
   rw [hs] at h1 h61
   right
   refine ⟨c,q++y,rfl,?_⟩
   have hc61:c.toNat≠61:=fun e=>h61 (by rw [List.head?_cons];congr 1;exact UInt8.toNat_inj.1 e)
   rw [aX] at h1
   by_cases hl:isL c=true
   · rw [if_pos hl] at h1;exact absurd (congrArg Prod.fst h1) (by simp)
   · rw [if_neg hl] at h1
     by_cases hd:isD c=true
     · rw [if_pos hd] at h1
       split at h1 <;> exact absurd (congrArg Prod.fst h1) (by simp)
     · rw [if_neg hd] at h1
       split at h1
       · exact absurd (congrArg Prod.fst h1) (by simp)
       · have hcs:(c.toNat=61∨c.toNat=33∨c.toNat=60)∨isS c=true:=by
           rw [dK] at h1
           split at h1
           · rename_i h;exact .inl h.1
           · split at h1
             · rename_i h;exact .inr h
             · exact absurd (congrArg Prod.fst h1) (by simp)
         have hn:c.toNat≠95∧c.toNat≠46:=by
           rcases hcs with h | h
           · omega
           · unfold isS at h
             simp only [List.mem_cons,List.not_mem_nil,or_false,L_c] at h
             omega
         refine ⟨?_,by simpa using hd,hn.2,hc61⟩
         unfold isW
         rw [Bool.eq_false_iff.2 hl,Bool.eq_false_iff.2 hd,dF hn.1]
         rfl
theorem Pp {x:Tk} (h:pr x=true) {y:List UInt8} (hy:Nx y):shp (so x++y)=(x.k,(so x).length):=by
 have h1:=((jh x).1 h).1;rcases hy with rfl | ⟨c,r,rfl,hW,hD,h46,h61⟩
 ·rw [L_n];exact h1
 have hk:=su h;generalize so x=s at h1 ⊢;generalize x.k=k at h1 hk ⊢
 cases s with
 | nil =>
   have:k=0:=(congrArg Prod.fst h1).symm
   omega
 | cons d q =>
   rw [L_g]
   rw [aX] at h1 ⊢
   by_cases hl:isL d=true
   · rw [if_pos hl] at h1 ⊢
     rw [← L_g,eT hW]
     exact h1
   · rw [if_neg hl] at h1 ⊢
     by_cases hd:isD d=true
     · rw [if_pos hd] at h1 ⊢
       rw [← L_g,eT hD]
       by_cases hp:pnt ((d :: q).drop (run isD (d :: q)))=0
       · rw [if_pos hp] at h1
         have hlen:run isD (d :: q)=(d :: q).length:=congrArg Prod.snd h1
         have e:((d :: q)++c :: r).drop (run isD (d :: q))=c :: r:=by rw [hlen];exact List.drop_left
         rw [e,gM,if_neg h46,if_pos rfl]
         exact h1
       · rw [if_neg hp] at h1
         obtain ⟨e,z,hz,he,hq⟩:=Bc hp
         have hle:=gZ isD (d :: q)
         have e1:((d :: q)++c :: r).drop (run isD (d :: q))=e :: (z++c :: r):=by
           rw [List.drop_append_of_le_length hle,hz]
           rfl
         have e2:pnt (e :: (z++c :: r))=run isD z:=by rw [gM,if_pos he,eT hD]
         rw [e1,e2,← hq,if_neg hp]
         exact h1
     · rw [if_neg hd] at h1 ⊢
       by_cases ht:d.toNat=34∧(q.drop (run isQ q)).head? = some 34
       · rw [if_pos ht] at h1
         have hs:=pU ht.2
         have e1:run isQ (q++c :: r)=run isQ q:=by
           conv=>lhs;rw [hs]
           rw [L_i,L_g,eT (by decide),uj]
           omega
         have e2:((q++c :: r).drop (run isQ q)).head? = some 34:=by
           rw [List.drop_append_of_le_length (gZ _ _)]
           cases hz:q.drop (run isQ q) with
           | nil=>rw [hz] at ht;cases ht.2
           | cons a b=>rw [hz] at ht;exact ht.2
         rw [e1,if_pos ⟨ht.1,e2⟩]
         exact h1
       · rw [if_neg ht] at h1
         have hne:¬ (d.toNat=34∧((q++c :: r).drop (run isQ (q++c :: r))).head? = some 34):=by
           intro hh
           rw [dK] at h1
           split at h1
           · rename_i hh2;exact r9 (.inr hh2.1) hh.1
           · split at h1
             · rename_i hh2;exact r9 (.inl hh2) hh.1
             · have:k=0:=(congrArg Prod.fst h1).symm
               omega
         rw [if_neg hne]
         rw [dK] at h1 ⊢
         by_cases h2:(d.toNat=61∨d.toNat=33∨d.toNat=60)∧q.head? = some 61
         · rw [if_pos h2] at h1
           rw [if_pos ⟨h2.1,by cases q with
             | nil=>cases h2.2
             | cons a b=>exact h2.2⟩]
           exact h1
         · rw [if_neg h2] at h1
           by_cases hS:isS d=true
           · rw [if_pos hS] at h1
             have hq:q=[]:=by
               have:(1:Nat)=(d :: q).length:=congrArg Prod.snd h1
               rw [L_b] at this
               exact List.eq_nil_of_length_eq_zero (by omega)
             subst hq
             rw [if_neg (by
               rintro ⟨_,hh⟩
               apply h61
               have:c=61:=by simpa using hh
               rw [this];rfl),if_pos hS]
             exact h1
           · rw [if_neg hS] at h1
             have:k=0:=(congrArg Prod.fst h1).symm
             omega
theorem Pn {p:Pc} (h:opn p=true) (y:List UInt8):shp (so (tk0 p)++y)=(5,(so (tk0 p)).length):=by
 obtain ⟨b,k,t⟩:=p;unfold opn at h;simp only [L_d,L_c,List.any_cons,List.any_nil,Bool.or_eq_true,Bool.or_false] at h;obtain ⟨rfl,h⟩:=h;have key:∀ c:UInt8,isL c=false→isD c=false→c.toNat≠34→¬ (c.toNat=61∨c.toNat=33∨c.toNat=60)→isS c=true→shp (c :: y)=(5,1):=by
  intro c h1 h2 h3 h4 h5;rw [aX,if_neg (by rw [h1];decide),if_neg (by rw [h2];decide),if_neg (fun h=>h3 h.1),dK,if_neg (fun h=>h4 h.1),if_pos h5]
 rcases h with rfl | rfl | rfl | rfl | rfl | rfl
 ·exact key 40 (by decide) (by decide) (by decide) (by decide) (by decide)
 ·exact key 45 (by decide) (by decide) (by decide) (by decide) (by decide)
 ·exact key 64 (by decide) (by decide) (by decide) (by decide) (by decide)
 ·exact key 91 (by decide) (by decide) (by decide) (by decide) (by decide)
 ·exact key 94 (by decide) (by decide) (by decide) (by decide) (by decide)
 exact key 42 (by decide) (by decide) (by decide) (by decide) (by decide)
theorem N8 {x:Tk} (h:pr x=true) {y:List UInt8} (hp:shp (so x++y)=(x.k,(so x).length)) (p:Nat) :
    lxs p false (so x++y)=(⟨x.k,x.t,(p:Nat)⟩ :: (lxs (p+(so x).length) false y).1,(lxs (p+(so x).length) false y).2):=by
 have hk:=su h;obtain ⟨h1,h2⟩:=(jh x).1 h;have hk0:(shp (so x)).1≠0:=by rw [h1];show x.k≠0;omega
 have hs:=AO hk0 y;have hne:so x++y≠[]:=by
  intro e;rw [(List.append_eq_nil_iff.1 e).1] at hk0;exact hk0 rfl
 have ht:(so x++y).take (so x).length=so x:=List.take_left;have hd:(so x++y).drop (so x).length=y:=List.drop_left;have hk1:x.k≠0:=by omega
 rw [fZ (l':=so x++y) (by rw [hs,List.drop_zero]) hne,hp,hs];simp only [ht,hd,h2,if_true,yP,Nat.add_zero,dF hk1]
theorem Qj {o:Bool} {l:List Pc} {y:List UInt8} (h:wf o l=true) (ho:o=false) (hy:Nx y):Nx (pcB l++y):=by
 cases l with
 | nil=>exact hy
 | cons p l =>
   obtain ⟨h1,h2,h3⟩:=gX.1 h
   rw [gN]
   by_cases hb:p.1=true
   · rw [if_pos hb]
     exact .inr ⟨32,_,rfl,by decide,by decide,by decide,by decide⟩
   · rw [if_neg hb]
     have hc:clo p=true:=(h1.resolve_left hb).resolve_left (by rw [ho];decide)
     unfold clo at hc
     simp only [L_d,L_c,Bool.not_eq_true',decide_eq_false_iff_not] at hc
     rw [List.nil_append,L_i]
     refine Qi h2 hc.1 ?_ _
     show (so ⟨p.2.1,p.2.2,0⟩).head?≠some 61
     unfold so
     rw [if_neg (by show ¬ p.2.1=4;omega)]
     exact hc.2
theorem sG:∀ (l:List Pc) (o:Bool) (p:Nat) (y:List UInt8),wf o l=true→Nx y →
  ∃ L,lxs p false (pcB l++y)=(L++(lxs (p+(pcB l).length) false y).1,(lxs (p+(pcB l).length) false y).2)∧L.map kt=l.map (·.2)
 | [],_,p,y,_,_=>⟨[],rfl,rfl⟩
 | q :: l,o,p,y,h,hy=>by
  obtain ⟨h1,h2,h3⟩:=gX.1 h
  have hsh:shp (so (tk0 q)++(pcB l++y))=((tk0 q).k,(so (tk0 q)).length):=by
   cases hq:opn q with
   | true =>
    rw [Pn hq]
    have:q.2.1=5:=by
     unfold opn at hq
     simp only [L_d,L_c] at hq
     exact hq.1
    rw [show (tk0 q).k=5 from this]
   | false=>exact Pp h2 (Qj h3 hq hy)
  rw [gN]
  by_cases hb:q.1=true
  ·rw [if_pos hb,L_i,QG Uw,L_i,N8 h2 hsh]
   obtain ⟨L,e,k⟩:=sG l _ (p+[(32:UInt8)].length+(so (tk0 q)).length) y h3 hy
   refine ⟨⟨q.2.1,q.2.2,((p+[(32:UInt8)].length:Nat):Int)⟩ :: L,?_,?_⟩
   ·rw [e,show p+(([32]:List UInt8)++(so (tk0 q)++pcB l)).length=p+[(32:UInt8)].length+(so (tk0 q)).length+(pcB l).length by simp only [L_a];omega]
    rfl
   ·rw [L_p,L_p,k];rfl
  ·rw [if_neg hb,List.nil_append,L_i,N8 h2 hsh]
   obtain ⟨L,e,k⟩:=sG l _ (p+(so (tk0 q)).length) y h3 hy
   refine ⟨⟨q.2.1,q.2.2,(p:Nat)⟩ :: L,?_,?_⟩
   ·rw [e,show p+(so (tk0 q)++pcB l).length=p+(so (tk0 q)).length+(pcB l).length by simp only [L_a];omega]
    rfl
   ·rw [L_p,L_p,k];rfl
theorem QI {l:List Pc} (h:wf true l=true):∃ L,lxs 0 false (pcB l)=(L,[])∧L.map kt=l.map (·.2):=by
 obtain ⟨L,e,k⟩:=sG l true 0 [] h (.inl rfl);rw [L_n,lex_nil,L_n] at e;exact ⟨L,e,k⟩
def wd (s:ByteArray):Pc:=(false,1,s)
def sg (s:ByteArray):Pc:=(false,5,s)
def bw (s:ByteArray):Pc:=(true,1,s)
def bs (s:ByteArray):Pc:=(true,5,s)
def nuK (n:Int):Pc:=(true,2,⟨(Lib.itoa n).toArray⟩)
def faK (x:un.Fa):List Pc:=wd x.1 :: (if x.2=1 then [] else sg ⟨#[94]⟩ :: ((if x.2<0 then [sg ⟨#[45]⟩] else [])++[(false,2,⟨(Lib.decDigits x.2.natAbs).toArray⟩)]))
def unK:List un.Fa→List Pc
 | []=>[]
 | x :: r=>bs ⟨#[91]⟩ :: (faK x++((r.map fun y=>sg ⟨#[42]⟩ :: faK y).flatten++[sg ⟨#[93]⟩]))
def tyK (t:Ty):List Pc :=
 if t.k=1 then [wd ⟨#[98,111,111,108]⟩] else if t.k=4 then [wd ⟨#[116,101,120,116]⟩] else if t.k=5 then [wd ⟨#[107,101,121]⟩,bw t.of] else if t.k=2 then wd ⟨#[105,110,116]⟩ :: unK t.un else wd ⟨#[100,101,99]⟩ :: unK t.un
def wiK (k n:Int):List Pc :=
 if k=2 then [wd ⟨#[115,108,105,100,105,110,103]⟩,nuK n] else if k=3 then [wd ⟨#[116,117,109,98,108,105,110,103]⟩,nuK n] else if k=4 then [wd ⟨#[115,101,115,115,105,111,110]⟩,nuK n] else [wd ⟨#[97,108,108]⟩]
def vaK (h:Hd):Pc :=
 if h.vk=1 then wd (if h.vn=1 then ⟨#[116,114,117,101]⟩ else ⟨#[102,97,108,115,101]⟩) else if h.vk=2 then (false,2,⟨(Lib.itoa h.vn).toArray⟩) else if h.vk=3 then (false,3,⟨(foX h.vn).toArray⟩) else (false,4,h.vs)
def liK (h:Hd):List Pc:=if h.vk=5 then [sg ⟨#[64]⟩,wd h.nm,(true,4,h.vs)] else vaK h :: unK h.un
def fG (r q:Int) (l:List Pc):List Pc:=if r<q then sg ⟨#[40]⟩ :: (l++[sg ⟨#[41]⟩]) else l
abbrev Ok':=List Pc × Hd
def ok' (l:List Ok') (j:Nat):Ok':=l.getD j ([],h0)
def okK (l:List Ok') (j:Nat):List Pc:=(ok' l j).1
def okP (l:List Ok') (j:Nat) (q:Int):List Pc:=fG (rk (ok' l j).2) q (ok' l j).1
def agK (h:Hd) (l:List Ok'):List Pc :=
 wd h.op :: sg ⟨#[40]⟩ :: wd h.tb :: ((if h.op=⟨#[99,111,117,110,116]⟩ then [] else sg ⟨#[44]⟩ :: sp (okK l 0))++((if h.op=⟨#[113,117,97,110,116,105,108,101]⟩∨h.op=⟨#[100,101,99,97,121]⟩ then [sg ⟨#[44]⟩,nuK h.pa] else []) ++
  (sg ⟨#[44]⟩ :: sp (wiK h.wk h.ws)++((if bY (ok' l 1).2=true then [] else bw ⟨#[119,104,101,114,101]⟩ :: sp (okK l 1))++[sg ⟨#[41]⟩]))))
def opK (op:ByteArray):Pc:=if op=⟨#[111,114]⟩∨op=⟨#[97,110,100]⟩ then bw op else bs op
def qZ (h:Hd) (l:List Ok'):List Pc :=
 if h.k=1 then liK h
 else if h.k=4 then wd h.nm :: bw ⟨#[111,102]⟩ :: bs ⟨#[40]⟩ :: (okK l 0++[sg ⟨#[41]⟩])
 else if h.k=5 then agK h l
 else if h.k=6 then (if h.op=⟨#[45]⟩ then sg ⟨#[45]⟩ :: okP l 0 8 else if h.op=⟨#[110,111,116]⟩ then wd ⟨#[110,111,116]⟩ :: sp (okP l 0 4) else wd ⟨#[110,117,108,108]⟩ :: sg ⟨#[40]⟩ :: (okK l 0++[sg ⟨#[41]⟩]))
 else if h.k=7 then okP l 0 (lef (rkO h.op))++(opK h.op :: sp (okP l 1 (rkO h.op+1)))
 else if h.k=8 then wd ⟨#[105,102]⟩ :: (sp (okK l 0)++(bw ⟨#[116,104,101,110]⟩ :: (sp (okK l 1)++(bw ⟨#[101,108,115,101]⟩ :: sp (okK l 2)))))
 else if h.k=9 then okP l 0 1++(bw ⟨#[100,101,102,97,117,108,116]⟩ :: sp (okP l 1 2))
 else [wd h.nm]
def xkF:Fo→List Ok'
 | .nil=>[]
 | .cons h ar r=>(qZ h (xkF ar),h) :: xkF r
def xkE (x:Ex):List Pc:=qZ x.h (xkF x.ar)
structure Gd (K:List Pc) (T:List UInt8):Prop where
 b:pcB K=T
 w:wf true K=true
 f:Hf K
theorem fP (s:ByteArray) (l:List Pc):pcB (wd s :: l)=s.data.toList++pcB l:=rfl
theorem ig (s:ByteArray) (l:List Pc):pcB (bw s :: l)=32 :: (s.data.toList++pcB l):=rfl
theorem fU (s:ByteArray) (l:List Pc):pcB (sg s :: l)=s.data.toList++pcB l:=rfl
theorem qX (s:ByteArray) (l:List Pc):pcB (bs s :: l)=32 :: (s.data.toList++pcB l):=rfl
theorem qW (n:Int) (l:List Pc):pcB (nuK n :: l)=32 :: (Lib.itoa n++pcB l):=rfl
theorem mq:pcB []=[]:=rfl
theorem iq {s:ByteArray} (h:name s=true):pr ⟨1,s,0⟩=true:=by
 unfold name at h;rw [L_d] at h;rw [← Jw ⟨1,s,0⟩ (s:=s) rfl];exact h.1
theorem JI {u:Nat} (hu:u≤1152921504606846976):pr ⟨2,⟨(Lib.decDigits u).toArray⟩,0⟩=true:=by
 have hne:Lib.decDigits u≠[]:=by obtain ⟨c,q,e⟩:=jT u;rw [e];exact List.cons_ne_nil _ _
 exact Tf rfl hne (kW u) (by rw [ql];exact hu) 0
theorem sK {n:Int} (h0:0≤n) (h1:n≤1152921504606846976):pr ⟨2,⟨(Lib.itoa n).toArray⟩,0⟩=true:=by
 unfold Lib.itoa;rw [if_neg (by omega)];exact JI (by omega)
theorem aT {o:Bool} {p:Pc} {l:List Pc} (h1:p.1=true∨o=true∨clo p=true) (h2:pr (tk0 p)=true) (h3:wf false l=true):wf o (p :: l)=true:=gX.2 ⟨h1,h2,IQ h3⟩
theorem lT {o:Bool} {p:Pc} {l:List Pc} (h1:p.1=true∨o=true∨clo p=true) (h2:pr (tk0 p)=true) (hp:opn p=true) (h3:wf true l=true):wf o (p :: l)=true:=gX.2 ⟨h1,h2,by rw [hp];exact h3⟩
theorem rV {K l:List Pc} (h:wf true K=true) (hl:wf false l=true):wf true (K++l)=true:=qF _ _ _ h hl
theorem iD {K l:List Pc} (h:wf true K=true) (hl:wf false l=true):wf false (sp K++l)=true:=qF _ _ _ (rW h) hl
theorem ow (s:ByteArray) (h:pr ⟨5,s,0⟩=true) (hc:clo (sg s)=true):wf false [sg s]=true:=aT (.inr (.inr hc)) h rfl
theorem RI {K:List Pc} {o:Bool} {b:Bool} (hb:b=true∨o=true∨clo (b,5,⟨#[40]⟩)=true) (h:wf true K=true) (l:List Pc) (hl:wf false l=true):wf o ((b,5,⟨#[40]⟩) :: (K++sg ⟨#[41]⟩ :: l))=true :=
 lT hb (show pr ⟨5,⟨#[40]⟩,0⟩=true by decide) (show opn (false,5,⟨#[40]⟩)=true by decide) (rV h (aT (.inr (.inr (by decide))) (by decide) hl))
theorem Tm {K:List Pc} {T:List UInt8} (h:Gd K T) (r q:Int):Gd (fG r q K) (par r q T):=by
 unfold fG par;by_cases hr:r<q
 ·rw [if_pos hr,if_pos hr];refine ⟨?_,RI (b:=false) (.inr (.inl rfl)) h.w [] rfl,⟨_,_,rfl⟩⟩;rw [fU,gG,h.b,fU];rfl
 rw [if_neg hr,if_neg hr];exact h
structure Un (u:List un.Fa):Prop where
 o:un.Ok u
 n:∀ x ∈ u,name x.1=true
theorem TA {u:List un.Fa} (h:okU u=true):Un u:=by
 unfold okU at h;rw [L_d,L_c,List.all_eq_true] at h;exact ⟨(un.K5 u).1 h.1,h.2⟩
theorem rO {x:un.Fa} {u:List un.Fa} (h:Un u) (hx:x ∈ u) : -8≤x.2∧x.2≤8∧x.2≠0:=by
 have:=(h.o.good x hx).2;have h2:=this.2;unfold un.far at h2;rw [decide_eq_false_iff_not] at h2;omega
theorem Ox (x:un.Fa) (l:List Pc):pcB (faK x++l)=un.f1 x++pcB l:=by
 unfold faK un.f1;by_cases h1:x.2=1
 ·rw [if_pos h1,if_pos h1];rfl
 rw [if_neg h1,if_neg h1];unfold Lib.itoa;by_cases h2:x.2<0
 ·rw [if_pos h2,if_pos h2,gG];show (x.1.data.toList++(94 :: 45 :: (Lib.decDigits x.2.natAbs++[])))++pcB l=_;simp
 rw [if_neg h2,if_neg h2,gG,show x.2.natAbs=x.2.toNat by omega];show (x.1.data.toList++(94 :: (Lib.decDigits x.2.toNat++[])))++pcB l=_;simp
theorem Ow {x:un.Fa} (hn:name x.1=true) (h1 : -8≤x.2) (h2:x.2≤8) (l:List Pc) (hl:wf false l=true):wf true (faK x++l)=true:=by
 unfold faK;refine qF _ _ _ (aT (.inr (.inl rfl)) (iq hn) ?_) hl;by_cases h:x.2=1
 ·rw [if_pos h];rfl
 rw [if_neg h];have hd:wf true [((false,2,⟨(Lib.decDigits x.2.natAbs).toArray⟩):Pc)]=true:=aT (.inr (.inl rfl)) (JI (by omega)) rfl;refine lT (.inr (.inr (by decide))) (by decide) (by decide) ?_;by_cases h2:x.2<0
 ·rw [if_pos h2];exact lT (.inr (.inl rfl)) (by decide) (by decide) hd
 rw [if_neg h2];exact hd
theorem Ov:∀ (r:List un.Fa) (l:List Pc),pcB ((r.map fun y=>sg ⟨#[42]⟩ :: faK y).flatten++l)=Lib.joinTail [42] (r.map un.f1)++pcB l
 | [],_=>rfl
 | y :: r,l=>by
  rw [L_p,List.flatten_cons,L_i,L_g,fU,Ox,Ov r l]
  show _=([42]++un.f1 y++Lib.joinTail [42] (r.map un.f1))++pcB l
  simp
theorem Ou:∀ (r:List un.Fa) (l:List Pc),(∀ x ∈ r,name x.1=true∧-8≤x.2∧x.2≤8)→wf false l=true→wf false ((r.map fun y=>sg ⟨#[42]⟩ :: faK y).flatten++l)=true
 | [],_,_,hl=>hl
 | y :: r,l,h,hl=>by
  rw [L_p,List.flatten_cons,L_i,L_g]
  obtain ⟨h1,h2,h3⟩:=h y (L_e ..)
  exact lT (.inr (.inr (by decide))) (by decide) (by decide) (Ow h1 h2 h3 _ (Ou r l (fun x hx=>h x (L_h _ hx)) hl))
theorem Vq (u:List un.Fa) (l:List Pc):pcB (unK u++l)=uT u++pcB l:=by
 cases u with
 | nil=>rfl
 | cons x r =>
   unfold unK uT
   rw [if_neg (List.cons_ne_nil _ _),L_g,L_i,L_i,qX,Ox,Ov]
   unfold un.fT
   rw [L_p,Lib.join_cons]
   show 32 :: ([91]++(un.f1 x++(Lib.joinTail [42] (r.map un.f1)++([93]++pcB l))))=_
   simp
theorem Vp {u:List un.Fa} (h:Un u) {l:List Pc} (hl:wf false l=true):wf false (unK u++l)=true:=by
 cases u with
 | nil=>exact hl
 | cons x r =>
   have hf:∀ y ∈ x :: r,name y.1=true∧-8≤y.2∧y.2≤8:=fun y hy=>⟨h.n y hy,(rO h hy).1,(rO h hy).2.1⟩
   unfold unK
   rw [L_g,L_i,L_i]
   obtain ⟨h1,h2,h3⟩:=hf x (L_e ..)
   exact lT (.inl rfl) (by decide) (by decide) (Ow h1 h2 h3 _ (Ou r _ (fun y hy=>hf y (L_h _ hy)) (qF _ _ _ (ow ⟨#[93]⟩ (by decide) (by decide)) hl)))
theorem CZ (l:List Pc):l=l++[]:=(L_n l).symm
theorem vE {u:List un.Fa} (h:Un u):wf false (unK u)=true:=by rw [CZ (unK u)];exact Vp h rfl
theorem vF (u:List un.Fa):pcB (unK u)=uT u:=by rw [CZ (unK u),Vq];exact L_n _
theorem fF {t:Ty} (h:tyE t=0):(t=⟨1,[],.empty⟩∨t=⟨4,[],.empty⟩)∨(∃ s,t=⟨5,[],s⟩∧name s=true)∨(∃ u,(t=⟨2,u,.empty⟩∨t=⟨3,u,.empty⟩)∧Un u):=by
 obtain ⟨k,u,s⟩:=t;unfold tyE at h;simp only at h;by_cases h1:k<1∨5<k
 ·rw [if_pos h1] at h;cases h
 rw [if_neg h1] at h;by_cases h2:k=5∧name s=false
 ·rw [if_pos h2] at h;cases h
 rw [if_neg h2] at h;by_cases h3:k≠5∧s≠.empty
 ·rw [if_pos h3] at h;cases h
 rw [if_neg h3] at h;by_cases h4:num ⟨k,u,s⟩=false∧0<u.length
 ·rw [if_pos h4] at h;cases h
 rw [if_neg h4] at h;by_cases h5:okU u=true
 ·have hu:=TA h5;have hs:k=5∨s=.empty:=by
   by_cases hk:k=5
   ·exact .inl hk
   exact .inr (Classical.byContradiction fun e=>h3 ⟨hk,e⟩)
  have hnum:k=2∨k=3∨u=[]:=by
   by_cases hk2:k=2
   ·exact .inl hk2
   by_cases hk3:k=3
   ·exact .inr (.inl hk3)
   refine .inr (.inr ?_);have hf:num ⟨k,u,s⟩=false:=by unfold num;simp [hk2,hk3]
   cases u with
   | nil=>rfl
   | cons _ _=>exact absurd ⟨hf,by simp⟩ h4
  rcases (show k=1∨k=2∨k=3∨k=4∨k=5 by omega) with rfl | rfl | rfl | rfl | rfl
  ·obtain rfl:=hs.resolve_left (by decide);obtain rfl:=(hnum.resolve_left (by decide)).resolve_left (by decide);exact .inl (.inl rfl)
  ·obtain rfl:=hs.resolve_left (by decide);exact .inr (.inr ⟨u,.inl rfl,hu⟩)
  ·obtain rfl:=hs.resolve_left (by decide);exact .inr (.inr ⟨u,.inr rfl,hu⟩)
  ·obtain rfl:=hs.resolve_left (by decide);obtain rfl:=(hnum.resolve_left (by decide)).resolve_left (by decide);exact .inl (.inr rfl)
  obtain rfl:=(hnum.resolve_left (by decide)).resolve_left (by decide);refine .inr (.inl ⟨s,rfl,?_⟩)
  cases hn:name s with
  | true=>rfl
  | false=>exact absurd ⟨rfl,hn⟩ h2
 rw [if_neg h5] at h;cases h
theorem iO {t:Ty} (h:tyE t=0):Gd (tyK t) (tyT t):=by
 rcases fF h with (rfl | rfl) | ⟨s,rfl,hs⟩ | ⟨u,rfl | rfl,hu⟩
 ·exact ⟨rfl,by decide,⟨_,_,rfl⟩⟩
 ·exact ⟨rfl,by decide,⟨_,_,rfl⟩⟩
 ·refine ⟨?_,aT (p:=wd ⟨#[107,101,121]⟩) (.inr (.inl rfl)) (by decide) (aT (p:=bw s) (.inl rfl) (iq hs) rfl),⟨_,_,rfl⟩⟩;show pcB [wd ⟨#[107,101,121]⟩,bw s]=[107,101,121,32]++s.data.toList;rw [fP,ig,mq];simp
 ·refine ⟨?_,aT (p:=wd ⟨#[105,110,116]⟩) (.inr (.inl rfl)) (by decide) (vE hu),⟨_,_,rfl⟩⟩;show pcB (wd ⟨#[105,110,116]⟩ :: unK u)=[105,110,116]++uT u;rw [fP,vF]
 refine ⟨?_,aT (p:=wd ⟨#[100,101,99]⟩) (.inr (.inl rfl)) (by decide) (vE hu),⟨_,_,rfl⟩⟩;show pcB (wd ⟨#[100,101,99]⟩ :: unK u)=[100,101,99]++uT u;rw [fP,vF]
theorem lS {k n:Int} (h:jd k n=true):(k=1∧n=0)∨((k=2∨k=3∨k=4)∧1≤n∧n≤1099511627776):=by
 unfold jd at h;by_cases h1:k=1
 ·rw [if_pos h1,L_c] at h;exact .inl ⟨h1,h⟩
 rw [if_neg h1] at h;by_cases h2:k=2∨k=3∨k=4
 ·rw [if_pos h2,L_d,L_c,L_c] at h;exact .inr ⟨h2,h⟩
 rw [if_neg h2] at h;cases h
theorem RH {k n:Int} (h:jd k n=true):Gd (wiK k n) (wiT k n):=by
 rcases lS h with ⟨rfl,rfl⟩ | ⟨h1,h2,h3⟩
 ·exact ⟨rfl,by decide,⟨_,_,rfl⟩⟩
 have hp:pr (tk0 (nuK n))=true:=sK (by omega) (by omega);rcases h1 with rfl | rfl | rfl
 ·refine ⟨?_,aT (p:=wd ⟨#[115,108,105,100,105,110,103]⟩) (.inr (.inl rfl)) (by decide) (aT (p:=nuK n) (.inl rfl) hp rfl),⟨_,_,rfl⟩⟩;show pcB [wd ⟨#[115,108,105,100,105,110,103]⟩,nuK n]=[115,108,105,100,105,110,103,32]++Lib.itoa n;rw [fP,qW,mq];simp
 ·refine ⟨?_,aT (p:=wd ⟨#[116,117,109,98,108,105,110,103]⟩) (.inr (.inl rfl)) (by decide) (aT (p:=nuK n) (.inl rfl) hp rfl),⟨_,_,rfl⟩⟩;show pcB [wd ⟨#[116,117,109,98,108,105,110,103]⟩,nuK n]=[116,117,109,98,108,105,110,103,32]++Lib.itoa n;rw [fP,qW,mq];simp
 refine ⟨?_,aT (p:=wd ⟨#[115,101,115,115,105,111,110]⟩) (.inr (.inl rfl)) (by decide) (aT (p:=nuK n) (.inl rfl) hp rfl),⟨_,_,rfl⟩⟩;show pcB [wd ⟨#[115,101,115,115,105,111,110]⟩,nuK n]=[115,101,115,115,105,111,110,32]++Lib.itoa n;rw [fP,qW,mq];simp
end ch
end Go.Proofs.YtbahfelnbofjjaaGreatDoor
