/- What example builds and asks. -/
import Derived.Deep.Slices
import Derived.SizedLaws
import Derived.Test.YtbahfelnbofjjaaGreatDoorH14
import Derived.Test.YtbahfelnbofjjaaGreatDoorRows
set_option maxRecDepth 100000
set_option maxHeartbeats 16000000
namespace Go.Proofs.YtbahfelnbofjjaaGreatDoor
namespace ch
open Go.RowKit dec
def ExR (x:Ex) (w:World) (e:Ending) (w':World):Prop:=∃ cs,e=.returned (.agg cs)∧ExV w' cs x∧Below w.heap.size w w'
theorem vQ {fn:Func} {R:Ending→World→Prop} {p:Tmp} (h:fn.results=#[.cell p 29]) (tmps:Array Value) (w:World) (g:Nat) (T':TypeId) (cells:Array Value) (hp:tmps.getD p undef=.pointer (some ⟨g,0,none⟩))
  (hB:Blk w g T' cells) (hc:cells.size=12) (hR:R (.returned (.agg cells)) w):bodyPost Tryz.prog fn R .ret ⟨tmps,[]⟩ w:=bn aN dec.uy29 rfl h tmps w g T' cells hp hB hc hR
def dh (n:ByteArray):Ex:=⟨{ h0 with k:=3,nm:=n },.nil⟩
def kK (op:ByteArray) (x y:Ex):Ex:=⟨{ h0 with k:=7,op:=op },.cons x.h x.ar (.cons y.h y.ar .nil)⟩
def gU (n:ByteArray):Ex:=⟨{ h0 with k:=2,nm:=n },.nil⟩
def uz (op:ByteArray) (x:Ex):Ex:=⟨{ h0 with k:=6,op:=op },.cons x.h x.ar .nil⟩
def jy:Ex:=⟨{ h0 with k:=1,vk:=1,vn:=1 },.nil⟩
def Ip (k:Int):List un.Fa:=[(⟨#[101,117,114]⟩,k)]
theorem uR (w:World) (h:Hd) (hu:h.un=[]):ExV w (exC h 0 none 0 none 0) ⟨h,.nil⟩:=⟨none,0,none,0,by simp [exC,hu,Fo.len],by rw [hu];exact .nil _,Fs.nil _⟩
theorem lG {w:World} {g:Nat} {T:TypeId} {cs:Array Value} {L:List Value} (h:Blk w g T cs) (hc:cs.toList=L) (o:Nat) (l:List Value) (hl:(L.drop o).take l.length=l):w.rangeAt g o l:=bV h o l (by rw [hc];exact hl)
theorem wZ {w:World} {g:Nat} {T:TypeId} {cs:Array Value} {x y:Ex} {ua aa ub ab:Option Addr} {uc ac ud ad:Nat} (hx:Ec w x ua uc aa ac) (hy:Ec w y ub ud ab ad) (hB:Blk w g T cs) (hc:cs.toList=(exC x.h x.ar.len ua uc aa ac).toList++(exC y.h y.ar.len ub ud ab ad).toList) :
    Fs w (some ⟨g,0,none⟩) 2 2 (.cons x.h x.ar (.cons y.h y.ar .nil)):=by
 have h1:w.rangeAt g 0 (exC x.h x.ar.len ua uc aa ac).toList:=lG hB hc 0 _ (by rw [List.drop_zero];exact List.take_left);have h2:w.rangeAt g (0+12) (exC y.h y.ar.len ub ud ab ad).toList:=lG hB hc 12 _ (by rw [show (12:Nat)=(exC x.h x.ar.len ua uc aa ac).toList.length from rfl,List.drop_left,List.take_length]);refine ⟨.inr ⟨g,0,rfl,?_⟩,rfl,Nat.zero_le _,by decide,trivial⟩;unfold FoV;refine ⟨⟨ua,uc,aa,ac,h1,hx.us,⟨hx.ar.hcap,hx.ar.hmax,hx.ar.hno⟩,hx.ar.hat⟩,?_⟩;unfold FoV;refine ⟨⟨ub,ud,ab,ad,h2,hy.us,⟨hy.ar.hcap,hy.ar.hmax,hy.ar.hno⟩,hy.ar.hat⟩,?_⟩;unfold FoV;trivial
theorem Kj {w:World} {g:Nat} {T:TypeId} {cs:Array Value} {x:Ex} {ua aa:Option Addr} {uc ac:Nat} (hx:Ec w x ua uc aa ac) (hB:Blk w g T cs) (hc:cs.toList=(exC x.h x.ar.len ua uc aa ac).toList) :
    Fs w (some ⟨g,0,none⟩) 1 1 (.cons x.h x.ar .nil):=by
 have h1:w.rangeAt g 0 (exC x.h x.ar.len ua uc aa ac).toList:=lG hB hc 0 _ (by rw [List.drop_zero];exact List.take_length);refine ⟨.inr ⟨g,0,rfl,?_⟩,rfl,Nat.zero_le _,by decide,trivial⟩;unfold FoV;refine ⟨⟨ua,uc,aa,ac,h1,hx.us,⟨hx.ar.hcap,hx.ar.hmax,hx.ar.hno⟩,hx.ar.hat⟩,?_⟩;unfold FoV;trivial
theorem MU {w:World} {g:Nat} {T:TypeId} {cs:Array Value} {x y z:Ex} {ua aa ub ab ue ae:Option Addr} {uc ac ud ad uf af:Nat} (hx:Ec w x ua uc aa ac) (hy:Ec w y ub ud ab ad) (hz:Ec w z ue uf ae af) (hB:Blk w g T cs) (hc:cs.toList=(exC x.h x.ar.len ua uc aa ac).toList++((exC y.h y.ar.len ub ud ab ad).toList++(exC z.h z.ar.len ue uf ae af).toList)) :
    Fs w (some ⟨g,0,none⟩) 3 3 (.cons x.h x.ar (.cons y.h y.ar (.cons z.h z.ar .nil))):=by
 have h1:w.rangeAt g 0 (exC x.h x.ar.len ua uc aa ac).toList:=lG hB hc 0 _ (by rw [List.drop_zero];exact List.take_left);have h2:w.rangeAt g (0+12) (exC y.h y.ar.len ub ud ab ad).toList:=lG hB hc 12 _ (by rw [show (12:Nat)=(exC x.h x.ar.len ua uc aa ac).toList.length from rfl,List.drop_left];exact List.take_left);have h3:w.rangeAt g (0+12+12) (exC z.h z.ar.len ue uf ae af).toList:=lG hB hc 24 _ (by rw [← L_i,show (24:Nat)=((exC x.h x.ar.len ua uc aa ac).toList++(exC y.h y.ar.len ub ud ab ad).toList).length from rfl,List.drop_left,List.take_length]);refine ⟨.inr ⟨g,0,rfl,?_⟩,rfl,Nat.zero_le _,by decide,trivial⟩;unfold FoV;refine ⟨⟨ua,uc,aa,ac,h1,hx.us,⟨hx.ar.hcap,hx.ar.hmax,hx.ar.hno⟩,hx.ar.hat⟩,?_⟩;unfold FoV;refine ⟨⟨ub,ud,ab,ad,h2,hy.us,⟨hy.ar.hcap,hy.ar.hmax,hy.ar.hno⟩,hy.ar.hat⟩,?_⟩;unfold FoV;refine ⟨⟨ue,uf,ae,af,h3,hz.us,⟨hz.ar.hcap,hz.ar.hmax,hz.ar.hno⟩,hz.ar.hat⟩,?_⟩;unfold FoV;trivial
theorem Jb {w:World} {g:Nat} {T:TypeId} {n:ByteArray} {k:Int} (hB:Blk w g T #[.string n,.int .i64 k]):un.Sl w (some ⟨g,0,none⟩) 1 1 [(n,k)] :=
 ⟨.inr ⟨g,0,rfl,fun j hj=>by
  have:j=0:=by simpa using hj
  subst this
  exact ⟨hB.cell 0,hB.cell 1⟩⟩,rfl,Nat.zero_le _,by decide,trivial⟩
theorem SH {α:Type} {sz:Nat} {V:World→Array Value→α→Prop} {w:World} {g:Nat} {T:TypeId} {cs c1 c2:Array Value} {x y:α} (hB:Blk w g T cs) (hc:cs.toList=c1.toList++c2.toList) (h1:c1.size=sz) (h2:c2.size=sz) (V1:V w c1 x) (V2:V w c2 y):Rw sz V w (some ⟨g,0,none⟩) 2 2 [x,y] :=
 ⟨.inr ⟨g,0,rfl,fun j hj=>by
  have hl:c1.toList.length=sz:=by rw [Array.length_toList,h1]
  have hj2:j<2:=hj
  rcases Nat.lt_or_ge j 1 with h | h
  ·obtain rfl:j=0:=by omega
   exact ⟨c1,h1,by rw [Nat.zero_mul];exact lG hB hc 0 _ (by rw [List.drop_zero];exact List.take_left),V1⟩
  ·obtain rfl:j=1:=by omega
   exact ⟨c2,h2,by rw [Nat.one_mul,Nat.zero_add];exact lG hB hc sz _ (by rw [← hl,List.drop_left,List.take_length]),V2⟩⟩,rfl,Nat.le_refl _,by decide,fun e=>by cases e⟩
theorem kJ (w:World) (T:TypeId) (cs:Array Value) (g:Nat) (h:g=w.heap.size):Blk (w.alloc (.cells cs T)) g T cs:=h ▸ Blk.new w T cs
theorem iY (w:World) (o:Obj):(w.alloc o).heap.size=w.heap.size+1:=by simp
theorem TN (n:ByteArray) (w:World):Calls Tryz.prog 44 #[.string n] w (ExR (dh n) w):=by
 go_enter Tryz.func44,Tryz.ntmps44
 go_wp2_with fail;exact vQ Tryz.results44 _ _ _ _ (exC (dh n).h 0 none 0 none 0) rfl (Blk.new _ _ _) rfl ⟨_,rfl,uR _ _ rfl,aj (b0 w) _⟩
theorem QV (n:ByteArray) (w:World):Calls Tryz.prog 49 #[.string n] w (ExR (gU n) w):=by
 go_enter Tryz.func49,Tryz.ntmps49
 go_wp2_with fail;exact vQ Tryz.results49 _ _ _ _ (exC (gU n).h 0 none 0 none 0) rfl (Blk.new _ _ _) rfl ⟨_,rfl,uR _ _ rfl,aj (b0 w) _⟩
theorem RU (w:World):Calls Tryz.prog 48 #[] w (ExR jy w):=by
 go_enter Tryz.func48,Tryz.ntmps48
 go_wp2_with fail;exact vQ Tryz.results48 _ _ _ _ (exC jy.h 0 none 0 none 0) rfl (Blk.new _ _ _) rfl ⟨_,rfl,uR _ _ rfl,aj (b0 w) _⟩
theorem Vr (op:ByteArray) (x y:Ex) (cs ds:Array Value) (w:World) (hx:ExV w cs x) (hy:ExV w ds y):Calls Tryz.prog 46 #[.string op,.agg cs,.agg ds] w (ExR (kK op x y) w):=by
 obtain ⟨ua,uc,aa,ac,rfl,E1⟩:=hx;obtain ⟨ub,ud,ab,ad,rfl,E2⟩:=hy;have HE1:=Hy E1;have HE2:=Hy E2;clear E1 E2;unfold exC
 go_enter Tryz.func46,Tryz.ntmps46
 go_wp2_with fail;have X1:=HE1.o;have X2:=HE2.o;have hb:=aj (aj (aj (aj (b0 w) (.cells (exC x.h x.ar.len ua uc aa ac) 29)) (.cells (exC y.h y.ar.len ub ud ab ad) 29)) (.cells (exC (kK op x y).h 2 none 0 (some ⟨w.heap.size+1+1+1,0,none⟩) 2) 29)) (.cells ((exC x.h x.ar.len ua uc aa ac)++(exC y.h y.ar.len ub ud ab ad)) 29);refine vQ Tryz.results46 _ _ (w.heap.size+1+1) _ (exC (kK op x y).h 2 none 0 (some ⟨w.heap.size+1+1+1,0,none⟩) 2) rfl ((kJ _ _ _ _ (by rw [iY,iY])).past _) rfl ⟨_,rfl,⟨none,0,some ⟨w.heap.size+1+1+1,0,none⟩,2,rfl,.nil _,?_⟩,hb⟩;exact wZ (X1.keeps hb) (X2.keeps hb) (kJ _ _ _ _ (by rw [iY,iY,iY])) rfl
theorem VU (op:ByteArray) (x:Ex) (cs:Array Value) (w:World) (hx:ExV w cs x):Calls Tryz.prog 47 #[.string op,.agg cs] w (ExR (uz op x) w):=by
 obtain ⟨ua,uc,aa,ac,rfl,E1⟩:=hx;have HE1:=Hy E1;clear E1;unfold exC
 go_enter Tryz.func47,Tryz.ntmps47
 go_wp2_with fail;have X1:=HE1.o;have hb:=aj (aj (aj (b0 w) (.cells (exC x.h x.ar.len ua uc aa ac) 29)) (.cells (exC (uz op x).h 1 none 0 (some ⟨w.heap.size+1+1,0,none⟩) 1) 29)) (.cells (exC x.h x.ar.len ua uc aa ac) 29);refine vQ Tryz.results47 _ _ (w.heap.size+1) _ (exC (uz op x).h 1 none 0 (some ⟨w.heap.size+1+1,0,none⟩) 1) rfl ((kJ _ _ _ _ (by rw [iY])).past _) rfl ⟨_,rfl,⟨none,0,some ⟨w.heap.size+1+1,0,none⟩,1,rfl,.nil _,?_⟩,hb⟩;exact Kj (X1.keeps hb) (kJ _ _ _ _ (by rw [iY,iY])) rfl
theorem iF (x:Ex) (t:ByteArray) (cs:Array Value) (w:World) (hE:ExV w cs x) (hs:x.szs) (hz:x.ar.sz≤3000) (h0:shE x=0) (ht:B8 (txE x)=t) (T:Tabq w):Calls Tryz.prog 45 #[.agg cs,.string t] w (Bl true w):=by
 obtain ⟨ua,uc,aa,ac,rfl,E1⟩:=hE;have bb:=aj (b0 w) (.cells (exC x.h x.ar.len ua uc aa ac) 29);have BB:=Hy bb;have G:=Hy (Blk.new w 29 (exC x.h x.ar.len ua uc aa ac));have C:=qV x ua aa uc ac _ hs hz (E1.keeps bb) (T.stays bb);rw [h0,txO,if_pos rfl,ht] at C;replace C:=Hy C;clear bb E1 T ht;unfold exC at *
 go_enter Tryz.func45,Tryz.ntmps45
 go_wp2_with (refine aG aN dec.uy29 rfl (.tmp 2) rfl rfl _ _ _ rfl G.o rfl ?_);refine C.o.mono ?_;rintro e w1 ⟨rfl,b1⟩;have B1:=Hy (ak BB.o b1);clear b1 C;go_wp2_with fail;go_ret;exact ⟨rfl,B1.o⟩
def qw:Ex:=⟨{ h0 with k:=1,vk:=2,vn:=2,un:=Ip 1 },.nil⟩
def rT:Ex:=⟨{ h0 with k:=8 },.cons (dh ⟨#[97]⟩).h .nil (.cons (dh ⟨#[98]⟩).h .nil (.cons (dh ⟨#[99]⟩).h .nil .nil))⟩
def Ac:Ex:=⟨{ h0 with k:=1,vk:=2 },.nil⟩
def rG:Ex:=⟨{ h0 with k:=1,nm:=⟨#[115,104,111,112]⟩,vk:=5,vs:=⟨#[115,49]⟩ },.nil⟩
def uW:Ex:=⟨{ h0 with k:=9 },.cons rT.h rT.ar (.cons Ac.h .nil .nil)⟩
def uG:Ex:=⟨{ h0 with k:=4,nm:=⟨#[114,97,110,107]⟩ },.cons rG.h .nil .nil⟩
def og:Ex:=⟨{ h0 with k:=5,op:=⟨#[99,111,117,110,116]⟩,tb:=⟨#[99,108,105,99,107,115]⟩,wk:=1 },.cons jy.h .nil (.cons jy.h .nil .nil)⟩
def nV:Ex:=⟨{ h0 with k:=5,op:=⟨#[113,117,97,110,116,105,108,101]⟩,tb:=⟨#[99,97,108,108,115]⟩,pa:=950,wk:=2,ws:=60 },.cons (gU ⟨#[109,115]⟩).h .nil (.cons (gU ⟨#[111,107]⟩).h .nil .nil)⟩
def t1X:Tb:=⟨⟨#[116]⟩,⟨#[117,115,101,114]⟩,[⟨⟨#[120]⟩,⟨3,Ip 1,.empty⟩⟩,⟨⟨#[121]⟩,⟨1,[],.empty⟩⟩],9⟩
def t2X:Tb:=⟨⟨#[116]⟩,⟨#[117,115,101,114]⟩,[],0⟩
def p1X:Ex:=kK ⟨#[43]⟩ (dh ⟨#[97]⟩) (kK ⟨#[42]⟩ (dh ⟨#[98]⟩) qw)
def p2X:Ex:=kK ⟨#[42]⟩ (kK ⟨#[43]⟩ (dh ⟨#[97]⟩) (dh ⟨#[98]⟩)) (dh ⟨#[99]⟩)
def p3X:Ex:=uz ⟨#[45]⟩ (uz ⟨#[45]⟩ (dh ⟨#[97]⟩))
def p4X:Ex:=kK ⟨#[45]⟩ (dh ⟨#[97]⟩) (kK ⟨#[45]⟩ (dh ⟨#[98]⟩) (dh ⟨#[99]⟩))
def p5X:Ex:=uz ⟨#[110,111,116]⟩ (kK ⟨#[61,61]⟩ (dh ⟨#[97]⟩) (dh ⟨#[98]⟩))
theorem e1:shE p1X=0:=by kernel_rfl
theorem e2:shE p2X=0:=by kernel_rfl
theorem e3:shE p3X=0:=by kernel_rfl
theorem e4:shE p4X=0:=by kernel_rfl
theorem e5:shE p5X=0:=by kernel_rfl
theorem e6:shE uW=0:=by kernel_rfl
theorem e7:shE uG=0:=by kernel_rfl
theorem e8:shE og=0:=by kernel_rfl
theorem e9:shE nV=0:=by kernel_rfl
theorem e10:tbE t1X=0:=by kernel_rfl
theorem e11:tbE t2X=0:=by kernel_rfl
theorem e12:shE (gU ⟨#[120]⟩)=3:=by kernel_rfl
theorem x1:B8 (txE p1X)=⟨#[97,32,43,32,98,32,42,32,50,32,91,101,117,114,93]⟩:=by kernel_rfl
theorem x2:B8 (txE p2X)=⟨#[40,97,32,43,32,98,41,32,42,32,99]⟩:=by kernel_rfl
theorem x3:B8 (txE p3X)=⟨#[45,45,97]⟩:=by kernel_rfl
theorem x4:B8 (txE p4X)=⟨#[97,32,45,32,40,98,32,45,32,99,41]⟩:=by kernel_rfl
theorem x5:B8 (txE p5X)=⟨#[110,111,116,32,97,32,61,61,32,98]⟩:=by kernel_rfl
theorem x6:B8 (txE uW)=⟨#[40,105,102,32,97,32,116,104,101,110,32,98,32,101,108,115,101,32,99,41,32,100,101,102,97,117,108,116,32,48]⟩:=by kernel_rfl
theorem x7:B8 (txE uG)=⟨#[114,97,110,107,32,111,102,32,40,64,115,104,111,112,32,34,115,49,34,41]⟩:=by kernel_rfl
theorem x8:B8 (txE og)=⟨#[99,111,117,110,116,40,99,108,105,99,107,115,44,32,97,108,108,41]⟩:=by kernel_rfl
theorem x9:B8 (txE nV)=⟨#[113,117,97,110,116,105,108,101,40,99,97,108,108,115,44,32,109,115,44,32,57,53,48,44,32,115,108,105,100,105,110,103,32,54,48,32,119,104,101,114,101,32,111,107,41]⟩:=by kernel_rfl
theorem x10:B8 (tbT t1X)=⟨#[116,97,98,108,101,32,116,32,111,102,32,117,115,101,114,32,123,32,120,58,32,100,101,99,32,91,101,117,114,93,44,32,121,58,32,98,111,111,108,32,125,32,107,101,101,112,32,57,59]⟩:=by kernel_rfl
theorem x11:B8 (tbT t2X)=⟨#[116,97,98,108,101,32,116,32,111,102,32,117,115,101,114,32,123,32,125,59]⟩:=by kernel_rfl
def hdB (h:Hd):Bool:=decide (h.op.size≤140737488355328) && decide (h.nm.size≤140737488355328) && decide (h.tb.size≤140737488355328) && decide (h.vs.size≤140737488355328)
def foB:Fo→Bool
 | .nil=>true
 | .cons h ar r=>hdB h && (foB ar && foB r)
def exB (x:Ex):Bool:=hdB x.h && foB x.ar
theorem Kh {h:Hd} (e:hdB h=true):h.sz:=by
 unfold hdB at e;simp only [L_d,L_c] at e;exact ⟨e.1.1.1,e.1.1.2,e.1.2,e.2⟩
theorem Cg:∀ (F:Fo),foB F=true→F.szs
 | .nil,_=>trivial
 | .cons h ar r,e=>by
  unfold foB at e
  rw [L_d,L_d] at e
  have a:=Kh e.1
  have b:=Cg ar e.2.1
  have c:=Cg r e.2.2
  exact ⟨a,b,c⟩
theorem jI {x:Ex} (e:exB x=true):x.szs:=by
 unfold exB at e;rw [L_d] at e;have a:=Kh e.1;have b:=Cg x.ar e.2;exact ⟨a,b⟩
theorem s1:p1X.szs:=jI (by kernel_rfl)
theorem s2:p2X.szs:=jI (by kernel_rfl)
theorem s3:p3X.szs:=jI (by kernel_rfl)
theorem s4:p4X.szs:=jI (by kernel_rfl)
theorem s5:p5X.szs:=jI (by kernel_rfl)
theorem s6:uW.szs:=jI (by kernel_rfl)
theorem s7:uG.szs:=jI (by kernel_rfl)
theorem s8:og.szs:=jI (by kernel_rfl)
theorem s9:nV.szs:=jI (by kernel_rfl)
theorem s10:(gU ⟨#[120]⟩).szs:=jI (by kernel_rfl)
theorem z1:p1X.ar.sz≤3000:=by decide
theorem z2:p2X.ar.sz≤3000:=by decide
theorem z3:p3X.ar.sz≤3000:=by decide
theorem z4:p4X.ar.sz≤3000:=by decide
theorem z5:p5X.ar.sz≤3000:=by decide
theorem z6:uW.ar.sz≤3000:=by decide
theorem z7:uG.ar.sz≤3000:=by decide
theorem z8:og.ar.sz≤3000:=by decide
theorem z9:nV.ar.sz≤3000:=by decide
theorem z10:(gU ⟨#[120]⟩).ar.sz≤3000:=by decide
theorem ExV.size {w:World} {cs:Array Value} {x:Ex} (h:ExV w cs x):cs.size=12:=by
 obtain ⟨_,_,_,_,rfl,_⟩:=h;rfl
theorem lY {ops:Array Oper} {rest:List Oper} {o:Oper} {a:Act} {w v:World} {Q:Exit→Act→World→Prop} (x y:Operand) (ho:o.op=.store 29 x y) (hgd:o.guard=none)
    (g:Nat) (T':TypeId) (cells old:Array Value) (X:Ex) (hx:a.eval x=.pointer (some ⟨g,0,none⟩)) (hy:a.eval y=.agg cells) (hE:ExV v cells X) (hB:Blk w g T' old) (hs:old.size=12)
    (h:∀ w',Blk w' g T' cells→St g w w'→wpList Tryz.prog ops Q rest (a.put o.dst undef) w'):wpList Tryz.prog ops Q (o :: rest) a w:=by
 obtain ⟨_,_,_,_,rfl,_⟩:=hE;exact aF aN x y ho hgd g T' _ old hx hy hB hs rfl (by simp [exC,Value.oneCell']) h
theorem jO {P:Program} {c:Code} {Q:Exit→Act→World→Prop} {a:Act} {w:World} (W:World) (h:W=w) (k:c.wp P Q a W):c.wp P Q a w:=h ▸ k
def c3 (ua aa ub ab ue ae:Option Addr) (uc ac ud ad uf af:Nat):Array Value:=((exC (dh ⟨#[97]⟩).h 0 ua uc aa ac).toList++((exC (dh ⟨#[98]⟩).h 0 ub ud ab ad).toList++(exC (dh ⟨#[99]⟩).h 0 ue uf ae af).toList)).toArray
theorem U3 {w:World} {g:Nat} {T:TypeId} {ua aa ub ab ue ae:Option Addr} {uc ac ud ad uf af:Nat} (hx:Ec w (dh ⟨#[97]⟩) ua uc aa ac) (hy:Ec w (dh ⟨#[98]⟩) ub ud ab ad) (hz:Ec w (dh ⟨#[99]⟩) ue uf ae af) (hB:Blk w g T (c3 ua aa ub ab ue ae uc ac ud ad uf af)) :
  Ec w rT none 0 (some ⟨g,0,none⟩) 3:=⟨.nil _,MU hx hy hz hB rfl⟩
def d2 (gi:Nat):Array Value:=((exC rT.h 3 none 0 (some ⟨gi,0,none⟩) 3).toList++(exC Ac.h 0 none 0 none 0).toList).toArray
theorem UO {w:World} {g gi:Nat} {T:TypeId} (H:Ec w rT none 0 (some ⟨gi,0,none⟩) 3) (hB:Blk w g T (d2 gi)):ExV w (exC uW.h 2 none 0 (some ⟨g,0,none⟩) 2) uW :=
 ⟨none,0,_,2,rfl,.nil _,wZ H ⟨.nil _,Fs.nil _⟩ hB rfl⟩
theorem Ub {w:World} {g:Nat} {T:TypeId} (hB:Blk w g T (exC rG.h 0 none 0 none 0)):ExV w (exC uG.h 1 none 0 (some ⟨g,0,none⟩) 1) uG :=
 ⟨none,0,_,1,rfl,.nil _,Kj (x:=rG) ⟨.nil _,Fs.nil _⟩ hB rfl⟩
def p2 (x y:Ex) (ua aa ub ab:Option Addr) (uc ac ud ad:Nat):Array Value:=((exC x.h x.ar.len ua uc aa ac).toList++(exC y.h y.ar.len ub ud ab ad).toList).toArray
theorem UU {w:World} {g:Nat} {T:TypeId} {ua aa ub ab:Option Addr} {uc ac ud ad:Nat} (hx:Ec w jy ua uc aa ac) (hy:Ec w jy ub ud ab ad) (hB:Blk w g T (p2 jy jy ua aa ub ab uc ac ud ad)):ExV w (exC og.h 2 none 0 (some ⟨g,0,none⟩) 2) og :=
 ⟨none,0,_,2,rfl,.nil _,wZ hx hy hB rfl⟩
theorem SY {w:World} {g:Nat} {T:TypeId} {ua aa ub ab:Option Addr} {uc ac ud ad:Nat} (hx:Ec w (gU ⟨#[109,115]⟩) ua uc aa ac) (hy:Ec w (gU ⟨#[111,107]⟩) ub ud ab ad) (hB:Blk w g T (p2 (gU ⟨#[109,115]⟩) (gU ⟨#[111,107]⟩) ua aa ub ab uc ac ud ad)):ExV w (exC nV.h 2 none 0 (some ⟨g,0,none⟩) 2) nV :=
 ⟨none,0,_,2,rfl,.nil _,wZ hx hy hB rfl⟩
def f2 (gu:Nat):Array Value:=((fiC ⟨⟨#[120]⟩,⟨3,Ip 1,.empty⟩⟩ (some ⟨gu,0,none⟩) 1).toList++(fiC ⟨⟨#[121]⟩,⟨1,[],.empty⟩⟩ none 0).toList).toArray
theorem UE {w:World} {g gu:Nat} {T:TypeId} (hU:un.Sl w (some ⟨gu,0,none⟩) 1 1 (Ip 1)) (hB:Blk w g T (f2 gu)):Fis w (some ⟨g,0,none⟩) 2 2 t1X.fs :=
 SH hB rfl rfl rfl ⟨_,_,rfl,hU⟩ ⟨none,0,rfl,.nil _⟩
theorem Sj {w:World} {g:Nat} (hA:Fis w (some ⟨g,0,none⟩) 2 2 t1X.fs) (T:Tabq w):Calls Tryz.prog 20 #[.agg (tbC t1X (some ⟨g,0,none⟩) 2)] w (Tx ⟨#[116,97,98,108,101,32,116,32,111,102,32,117,115,101,114,32,123,32,120,58,32,100,101,99,32,91,101,117,114,93,44,32,121,58,32,98,111,111,108,32,125,32,107,101,101,112,32,57,59]⟩ 0 w):=by
 have h:=lU t1X _ 2 w ⟨by decide,by decide,fun f hf=>by
   rcases List.mem_cons.1 hf with h | h
   · subst h;exact ⟨by decide,by decide⟩
   · rcases List.mem_cons.1 h with h | h
     · subst h;exact ⟨by decide,by decide⟩
     · cases h⟩ hA T
 rwa [e10,txO,if_pos rfl,x10] at h
theorem Si {w:World} (T:Tabq w):Calls Tryz.prog 20 #[.agg (tbC t2X none 0)] w (Tx ⟨#[116,97,98,108,101,32,116,32,111,102,32,117,115,101,114,32,123,32,125,59]⟩ 0 w):=by
 have h:=lU t2X none 0 w ⟨by decide,by decide,fun f hf=>by cases hf⟩ (Rw.nil 4 FiV w) T
 rwa [e11,txO,if_pos rfl,x11] at h
theorem WV {w:World} {cs:Array Value} (hE:ExV w cs (gU ⟨#[120]⟩)) (T:Tabq w):Calls Tryz.prog 15 #[.agg cs] w (Tx .empty 3 w):=by
 obtain ⟨ua,uc,aa,ac,rfl,E⟩:=hE;have h:=qV (gU ⟨#[120]⟩) ua aa uc ac w s10 z10 E T
 rwa [e12,txO,if_neg (by decide)] at h
theorem DT (w:World) (T:Tabq w):Calls Tryz.prog 12 #[] w (Bl true w):=by
 have HT:=Hy T;clear T;have CN:=Hy (fun (n:ByteArray) (w:World)=>TN n w)
 go_enter Tryz.func12,Tryz.ntmps12
 go_wp2_with fail;refine (CN.o _ _).mono ?_;rintro e w1 ⟨ca,rfl,X1,b1⟩;have XA:=Hy X1;have B:=Hy b1;replace HT:=Hy (HT.o.stays b1);clear X1 b1;go_wp2_with fail;refine (CN.o _ _).mono ?_;rintro e w2 ⟨cb,rfl,X2,b2⟩;have XB:=Hy X2;replace XA:=Hy (XA.o.keeps b2);replace B:=Hy (ak B.o b2);replace HT:=Hy (HT.o.stays b2);clear X2 b2;go_wp2_with fail;refine (CN.o _ _).mono ?_;rintro e w3 ⟨cc,rfl,X3,b3⟩;have XC:=Hy X3;replace XA:=Hy (XA.o.keeps b3);replace XB:=Hy (XB.o.keeps b3);replace B:=Hy (ak B.o b3);replace HT:=Hy (HT.o.stays b3);clear X3 b3 CN
 go_upto_region 2 with (first
   | (refine lY (.tmp 1) (.tmp 18) rfl rfl _ _ _ _ _ rfl rfl XA.o (((Blk.new _ _ _).past _).past _) rfl ?_;intro w4 L1 M1)
   | (refine lY (.tmp 2) (.tmp 19) rfl rfl _ _ _ _ _ rfl rfl XB.o (Blk.st ((kJ _ _ _ _ (iY _ _).symm).past _) M1 (by omega)) rfl ?_;intro w5 L2 M2)
   | (refine lY (.tmp 3) (.tmp 20) rfl rfl _ _ _ _ _ rfl rfl XC.o (Blk.st (Blk.st (kJ _ _ _ _ (by rw [iY,iY])) M1 (by omega)) M2 (by omega)) rfl ?_;intro w6 L3 M3))
 have b6:=((aj (aj (aj (b0 w3) _) _) _).trans (M1.below lr)).trans ((M2.below (Nat.le_succ _)).trans (M3.below (by omega)));have GA:=Hy (Blk.st (Blk.st L1 M2 (by omega)) M3 (by omega));have GB:=Hy (Blk.st L2 M3 (by omega));have GC:=Hy L3;replace XA:=Hy (XA.o.keeps b6);replace XB:=Hy (XB.o.keeps b6);replace XC:=Hy (XC.o.keeps b6);replace B:=Hy (ak B.o b6);replace HT:=Hy (HT.o.stays b6);clear L1 L2 L3 M1 M2 M3 b6;generalize w3.heap.size+1+1=gc at *;generalize w3.heap.size+1=gb at *;generalize w3.heap.size=ga at *
 go_upto_region 3 with fail
 have U:=Hy (Blk.new w6 82 #[.string ⟨#[101,117,114]⟩,.int .i64 1]);have b7:=aj (b0 w6) (.cells #[.string ⟨#[101,117,114]⟩,.int .i64 1] 82);replace GA:=Hy (GA.o.keeps b7);replace GB:=Hy (GB.o.keeps b7);replace GC:=Hy (GC.o.keeps b7);replace XA:=Hy (XA.o.keeps b7);replace XB:=Hy (XB.o.keeps b7);replace XC:=Hy (XC.o.keeps b7);replace B:=Hy (ak B.o b7);replace HT:=Hy (HT.o.stays b7);clear b7;obtain ⟨w7,hw⟩:∃ w7,w7=w6.alloc (.cells #[.string ⟨#[101,117,114]⟩,.int .i64 1] 82):=⟨_,rfl⟩;rw [← hw] at U GA GB GC XA XB XC B HT;refine jO w7 hw ?_;clear hw;generalize w6.heap.size=gu at *
 go_upto_region 4 with fail
 have K:=Hy (Blk.new w7 29 (exC qw.h 0 (some ⟨gu,0,none⟩) 1 none 0));have b8:=aj (b0 w7) (.cells (exC qw.h 0 (some ⟨gu,0,none⟩) 1 none 0) 29);have XK:=Hy (show ExV _ (exC qw.h 0 (some ⟨gu,0,none⟩) 1 none 0) qw from ⟨some ⟨gu,0,none⟩,1,none,0,rfl,Jb (U.o.keeps b8),Fs.nil _⟩);replace GA:=Hy (GA.o.keeps b8);replace GB:=Hy (GB.o.keeps b8);replace GC:=Hy (GC.o.keeps b8);replace XA:=Hy (XA.o.keeps b8);replace XB:=Hy (XB.o.keeps b8);replace XC:=Hy (XC.o.keeps b8);replace B:=Hy (ak B.o b8);replace HT:=Hy (HT.o.stays b8);replace U:=Hy (U.o.keeps b8);clear b8;obtain ⟨w8,hw⟩:∃ w8,w8=w7.alloc (.cells (exC qw.h 0 (some ⟨gu,0,none⟩) 1 none 0) 29):=⟨_,rfl⟩;rw [← hw] at U GA GB GC XA XB XC B HT K XK;refine jO w8 hw ?_;clear hw;generalize exC qw.h 0 (some ⟨gu,0,none⟩) 1 none 0=ck at *;generalize w7.heap.size=gk at *;have C1:=Hy (fun (op:ByteArray) (x:Ex) (cs:Array Value) (w:World) (hx:ExV w cs x)=>VU op x cs w hx);have C2:=Hy (fun (op:ByteArray) (x y:Ex) (cs ds:Array Value) (w:World) (hx:ExV w cs x) (hy:ExV w ds y)=>Vr op x y cs ds w hx hy)
 go_cut [65] from 5 (fun v65 wx=>v65=.bool false∧Hid (Below w8.heap.size w8 wx))
 case first =>
  refine wp_region_held_drew (S:=fun w' => Below w8.heap.size w8 w') (by kernel_rfl) (b0 w8).drew (fun hH=>?_);refine bg 0 26 (.agg ca) rfl (by kernel_rfl) rfl (fun _ _ _ h=>h) rfl hH (fun w' hS=>aY aN dec.uy29 rfl (.tmp 1) rfl _ _ _ rfl (GA.o.keeps hS) XA.o.size) ?_;simp only [sz];refine bg 1 27 (.agg cb) rfl (by kernel_rfl) rfl (fun _ _ _ h=>h) rfl hH (fun w' hS=>aY aN dec.uy29 rfl (.tmp 2) rfl _ _ _ rfl (GB.o.keeps hS) XB.o.size) ?_;simp only [sz];refine bg 2 28 (.agg ck) rfl (by kernel_rfl) rfl (fun _ _ _ h=>h) rfl hH (fun w' hS=>aY aN dec.uy29 rfl (.tmp 5) rfl _ _ _ rfl (K.o.keeps hS) XK.o.size) ?_;simp only [sz];generalize w8.drew=y0 at *;refine aA 3 (fun K hK=>?_);go_simp;refine (C2.o ⟨#[42]⟩ (dh ⟨#[98]⟩) qw cb ck _ (XB.o.keeps hH) (XK.o.keeps hH)).mono ?_;rintro e y1 ⟨d1,rfl,x1,b1⟩;refine hK.o _ _ (ak hH b1) (fun hH=>?_);clear hK K;have D1:=Hy x1;clear x1 b1;refine aA 4 (fun K hK=>?_);go_simp;refine (C2.o ⟨#[43]⟩ (dh ⟨#[97]⟩) (kK ⟨#[42]⟩ (dh ⟨#[98]⟩) qw) ca d1 _ (XA.o.keeps hH) D1.o).mono ?_;rintro e y2 ⟨d2,rfl,x2,b2⟩;refine hK.o _ _ (ak hH b2) (fun hH=>?_);clear hK K;have D2:=Hy x2;clear x2 b2;refine aA 5 (fun K hK=>?_);go_simp;refine (iF _ _ _ _ D2.o s1 z1 e1 x1 (HT.o.stays hH)).mono ?_;rintro e y3 ⟨rfl,b3⟩;refine hK.o _ _ (ak hH b3) (fun hH=>?_);clear hK K;clear b3;refine au 6 32 ?_ hH (fun w' hS=>?_) ?_;rotate_left;(·go_simp;try rfl);simp only [sz];refine au 7 33 ?_ hH (fun w' hS=>?_) ?_;rotate_left;(·go_simp;try rfl);simp only [sz];refine bg 8 34 (.agg ca) rfl (by kernel_rfl) rfl (fun _ _ _ h=>h) rfl hH (fun w' hS=>aY aN dec.uy29 rfl (.tmp 1) rfl _ _ _ rfl (GA.o.keeps hS) XA.o.size) ?_;simp only [sz];refine bg 9 35 (.agg cb) rfl (by kernel_rfl) rfl (fun _ _ _ h=>h) rfl hH (fun w' hS=>aY aN dec.uy29 rfl (.tmp 2) rfl _ _ _ rfl (GB.o.keeps hS) XB.o.size) ?_;simp only [sz];refine bg 11 37 (.agg cc) rfl (by kernel_rfl) rfl (fun _ _ _ h=>h) rfl hH (fun w' hS=>aY aN dec.uy29 rfl (.tmp 3) rfl _ _ _ rfl (GC.o.keeps hS) XC.o.size) ?_;simp only [sz];refine aA 10 (fun K hK=>?_);go_simp;refine (C2.o ⟨#[43]⟩ (dh ⟨#[97]⟩) (dh ⟨#[98]⟩) ca cb _ (XA.o.keeps hH) (XB.o.keeps hH)).mono ?_;rintro e y4 ⟨d4,rfl,x4,b4⟩;refine hK.o _ _ (ak hH b4) (fun hH=>?_);clear hK K;have D4:=Hy x4;clear x4 b4;refine aA 12 (fun K hK=>?_);go_simp;refine (C2.o ⟨#[42]⟩ (kK ⟨#[43]⟩ (dh ⟨#[97]⟩) (dh ⟨#[98]⟩)) (dh ⟨#[99]⟩) d4 cc _ D4.o (XC.o.keeps hH)).mono ?_;rintro e y5 ⟨d5,rfl,x5,b5⟩;refine hK.o _ _ (ak hH b5) (fun hH=>?_);clear hK K;have D5:=Hy x5;clear x5 b5;refine aA 13 (fun K hK=>?_);go_simp;refine (iF _ _ _ _ D5.o s2 z2 e2 x2 (HT.o.stays hH)).mono ?_;rintro e y6 ⟨rfl,b6⟩;refine hK.o _ _ (ak hH b6) (fun hH=>?_);clear hK K;clear b6;refine au 14 40 ?_ hH (fun w' hS=>?_) ?_;rotate_left;(·go_simp;try rfl);simp only [sz];refine au 15 41 ?_ hH (fun w' hS=>?_) ?_;rotate_left;(·go_simp;try rfl);simp only [sz];refine au 16 42 ?_ hH (fun w' hS=>?_) ?_;rotate_left;(·go_simp;try rfl);simp only [sz];refine bg 17 43 (.agg ca) rfl (by kernel_rfl) rfl (fun _ _ _ h=>h) rfl hH (fun w' hS=>aY aN dec.uy29 rfl (.tmp 1) rfl _ _ _ rfl (GA.o.keeps hS) XA.o.size) ?_;simp only [sz];refine aA 18 (fun K hK=>?_);go_simp;refine (C1.o ⟨#[45]⟩ (dh ⟨#[97]⟩) ca _ (XA.o.keeps hH)).mono ?_;rintro e y7 ⟨d7,rfl,x7,b7⟩;refine hK.o _ _ (ak hH b7) (fun hH=>?_);clear hK K;have D7:=Hy x7;clear x7 b7;refine aA 19 (fun K hK=>?_);go_simp;refine (C1.o ⟨#[45]⟩ (uz ⟨#[45]⟩ (dh ⟨#[97]⟩)) d7 _ D7.o).mono ?_;rintro e y8 ⟨d8,rfl,x8,b8⟩;refine hK.o _ _ (ak hH b8) (fun hH=>?_);clear hK K;have D8:=Hy x8;clear x8 b8;refine aA 20 (fun K hK=>?_);go_simp;refine (iF _ _ _ _ D8.o s3 z3 e3 x3 (HT.o.stays hH)).mono ?_;rintro e y9 ⟨rfl,b9⟩;refine hK.o _ _ (ak hH b9) (fun hH=>?_);clear hK K;clear b9;refine au 21 47 ?_ hH (fun w' hS=>?_) ?_;rotate_left;(·go_simp;try rfl);simp only [sz];refine au 22 48 ?_ hH (fun w' hS=>?_) ?_;rotate_left;(·go_simp;try rfl);simp only [sz];refine au 23 49 ?_ hH (fun w' hS=>?_) ?_;rotate_left;(·go_simp;try rfl);simp only [sz];refine bg 24 50 (.agg ca) rfl (by kernel_rfl) rfl (fun _ _ _ h=>h) rfl hH (fun w' hS=>aY aN dec.uy29 rfl (.tmp 1) rfl _ _ _ rfl (GA.o.keeps hS) XA.o.size) ?_;simp only [sz];refine bg 25 51 (.agg cb) rfl (by kernel_rfl) rfl (fun _ _ _ h=>h) rfl hH (fun w' hS=>aY aN dec.uy29 rfl (.tmp 2) rfl _ _ _ rfl (GB.o.keeps hS) XB.o.size) ?_;simp only [sz];refine bg 26 52 (.agg cc) rfl (by kernel_rfl) rfl (fun _ _ _ h=>h) rfl hH (fun w' hS=>aY aN dec.uy29 rfl (.tmp 3) rfl _ _ _ rfl (GC.o.keeps hS) XC.o.size) ?_;simp only [sz];refine aA 27 (fun K hK=>?_);go_simp;refine (C2.o ⟨#[45]⟩ (dh ⟨#[98]⟩) (dh ⟨#[99]⟩) cb cc _ (XB.o.keeps hH) (XC.o.keeps hH)).mono ?_;rintro e y10 ⟨d10,rfl,x10,b10⟩;refine hK.o _ _ (ak hH b10) (fun hH=>?_);clear hK K;have D10:=Hy x10;clear x10 b10;refine aA 28 (fun K hK=>?_);go_simp;refine (C2.o ⟨#[45]⟩ (dh ⟨#[97]⟩) (kK ⟨#[45]⟩ (dh ⟨#[98]⟩) (dh ⟨#[99]⟩)) ca d10 _ (XA.o.keeps hH) D10.o).mono ?_;rintro e y11 ⟨d11,rfl,x11,b11⟩;refine hK.o _ _ (ak hH b11) (fun hH=>?_);clear hK K;have D11:=Hy x11;clear x11 b11;refine aA 29 (fun K hK=>?_);go_simp;refine (iF _ _ _ _ D11.o s4 z4 e4 x4 (HT.o.stays hH)).mono ?_;rintro e y12 ⟨rfl,b12⟩;refine hK.o _ _ (ak hH b12) (fun hH=>?_);clear hK K;clear b12;refine au 30 56 ?_ hH (fun w' hS=>?_) ?_;rotate_left;(·go_simp;try rfl);simp only [sz];refine au 31 57 ?_ hH (fun w' hS=>?_) ?_;rotate_left;(·go_simp;try rfl);simp only [sz];refine au 32 58 ?_ hH (fun w' hS=>?_) ?_;rotate_left;(·go_simp;try rfl);simp only [sz];refine bg 33 59 (.agg ca) rfl (by kernel_rfl) rfl (fun _ _ _ h=>h) rfl hH (fun w' hS=>aY aN dec.uy29 rfl (.tmp 1) rfl _ _ _ rfl (GA.o.keeps hS) XA.o.size) ?_;simp only [sz];refine bg 34 60 (.agg cb) rfl (by kernel_rfl) rfl (fun _ _ _ h=>h) rfl hH (fun w' hS=>aY aN dec.uy29 rfl (.tmp 2) rfl _ _ _ rfl (GB.o.keeps hS) XB.o.size) ?_;simp only [sz];refine aA 35 (fun K hK=>?_);go_simp;refine (C2.o ⟨#[61,61]⟩ (dh ⟨#[97]⟩) (dh ⟨#[98]⟩) ca cb _ (XA.o.keeps hH) (XB.o.keeps hH)).mono ?_;rintro e y13 ⟨d13,rfl,x13,b13⟩;refine hK.o _ _ (ak hH b13) (fun hH=>?_);clear hK K;have D13:=Hy x13;clear x13 b13;refine aA 36 (fun K hK=>?_);go_simp;refine (C1.o ⟨#[110,111,116]⟩ (kK ⟨#[61,61]⟩ (dh ⟨#[97]⟩) (dh ⟨#[98]⟩)) d13 _ D13.o).mono ?_;rintro e y14 ⟨d14,rfl,x14,b14⟩;refine hK.o _ _ (ak hH b14) (fun hH=>?_);clear hK K;have D14:=Hy x14;clear x14 b14;refine aA 37 (fun K hK=>?_);go_simp;refine (iF _ _ _ _ D14.o s5 z5 e5 x5 (HT.o.stays hH)).mono ?_;rintro e y15 ⟨rfl,b15⟩;refine hK.o _ _ (ak hH b15) (fun hH=>?_);clear hK K;clear b15;refine au 38 64 ?_ hH (fun w' hS=>?_) ?_;rotate_left;(·go_simp;try rfl);simp only [sz];refine au 39 65 ?_ hH (fun w' hS=>?_) ?_;rotate_left;(·go_simp;try rfl);simp only [sz];refine wpAnyH_done (by kernel_rfl) ?_ _;go_wp2_with fail
  go_meet
  case rel=>exact ⟨rfl,Hy hH⟩
 case rest =>
  obtain ⟨rfl,BW⟩:=hcut;replace B:=Hy (ak B.o BW.o);replace HT:=Hy (HT.o.stays BW.o);replace GA:=Hy (GA.o.keeps BW.o);replace GB:=Hy (GB.o.keeps BW.o);replace GC:=Hy (GC.o.keeps BW.o);replace U:=Hy (U.o.keeps BW.o);replace XA:=Hy (XA.o.keeps BW.o);replace XB:=Hy (XB.o.keeps BW.o);replace XC:=Hy (XC.o.keeps BW.o);clear BW XK K C1 C2;generalize wc=w9 at *;obtain ⟨ua,uc,aa,ac,e1',EA⟩:=XA.o;obtain ⟨ub,ud,ab,ad,e2',EB⟩:=XB.o;obtain ⟨ue,uf,ae,af,e3',EC⟩:=XC.o;subst e1' e2' e3';have HA:=Hy EA;have HB:=Hy EB;have HC:=Hy EC;clear XA XB XC EA EB EC;unfold exC at *
  go_upto_region 7 with (first
    | (refine aG aN dec.uy29 rfl (.tmp 1) rfl rfl _ _ _ rfl GA.o rfl ?_)
    | (refine aG aN dec.uy29 rfl (.tmp 2) rfl rfl _ _ _ rfl GB.o rfl ?_)
    | (refine aG aN dec.uy29 rfl (.tmp 3) rfl rfl _ _ _ rfl GC.o rfl ?_))
  have b6:=bB w9 (.cells (c3 ua aa ub ab ue ae uc ac ud ad uf af) 29) (.cells (exC rT.h 3 none 0 (some ⟨w9.heap.size,0,none⟩) 3) 29);have XH:=Hy (U3 (HA.o.keeps b6) (HB.o.keeps b6) (HC.o.keeps b6) ((Blk.new w9 _ _).past _));have GH:=Hy (kJ (w9.alloc (.cells (c3 ua aa ub ab ue ae uc ac ud ad uf af) 29)) 29 (exC rT.h 3 none 0 (some ⟨w9.heap.size,0,none⟩) 3) (w9.heap.size+1) (iY _ _).symm);replace B:=Hy (ak B.o b6);replace HT:=Hy (HT.o.stays b6);replace U:=Hy (U.o.keeps b6);clear b6 GA GB GC HA HB HC;obtain ⟨wA,hw⟩:∃ wA,wA=(w9.alloc (.cells (c3 ua aa ub ab ue ae uc ac ud ad uf af) 29)).alloc (.cells (exC rT.h 3 none 0 (some ⟨w9.heap.size,0,none⟩) 3) 29):=⟨_,rfl⟩;rw [← hw] at U B HT XH GH;refine jO wA hw ?_;clear hw;generalize w9.heap.size+1=gh at *;generalize w9.heap.size=gi at *
  go_upto_region 8 with fail
  have b7:=aj (b0 wA) (.cells (exC Ac.h 0 none 0 none 0) 29);have GZ:=Hy (Blk.new wA 29 (exC Ac.h 0 none 0 none 0));replace GH:=Hy (GH.o.keeps b7);replace XH:=Hy (XH.o.keeps b7);replace B:=Hy (ak B.o b7);replace HT:=Hy (HT.o.stays b7);replace U:=Hy (U.o.keeps b7);clear b7;obtain ⟨wB,hw⟩:∃ wB,wB=wA.alloc (.cells (exC Ac.h 0 none 0 none 0) 29):=⟨_,rfl⟩;rw [← hw] at U B HT XH GH GZ;refine jO wB hw ?_;clear hw;generalize wA.heap.size=gz at *
  go_upto_region 9 with fail
  have b7:=aj (b0 wB) (.cells (exC rG.h 0 none 0 none 0) 29);have GY:=Hy (Blk.new wB 29 (exC rG.h 0 none 0 none 0));replace GH:=Hy (GH.o.keeps b7);replace GZ:=Hy (GZ.o.keeps b7);replace XH:=Hy (XH.o.keeps b7);replace B:=Hy (ak B.o b7);replace HT:=Hy (HT.o.stays b7);replace U:=Hy (U.o.keeps b7);clear b7;obtain ⟨wC,hw⟩:∃ wC,wC=wB.alloc (.cells (exC rG.h 0 none 0 none 0) 29):=⟨_,rfl⟩;rw [← hw] at U B HT XH GH GZ GY;refine jO wC hw ?_;clear hw;generalize wB.heap.size=gy at *;unfold exC at GH GZ GY
  go_upto_region 10 with (first
    | (refine aG aN dec.uy29 rfl (.tmp 6) rfl rfl _ _ _ rfl GH.o rfl ?_)
    | (refine aG aN dec.uy29 rfl (.tmp 7) rfl rfl _ _ _ rfl GZ.o rfl ?_)
    | (refine aG aN dec.uy29 rfl (.tmp 8) rfl rfl _ _ _ rfl GY.o rfl ?_))
  have b9:=aj (b0 wC) (.cells (d2 gi) 29);have XD:=UO (XH.o.keeps b9) (Blk.new wC 29 (d2 gi));have C:=Hy (iF uW _ _ _ XD s6 z6 e6 x6 (HT.o.stays b9));have B9:=Hy b9;clear b9 XD;refine C.o.mono ?_;rintro e wD ⟨rfl,bD⟩;have bb:=ak B9.o bD;replace B:=Hy (ak B.o bb);replace HT:=Hy (HT.o.stays bb);replace U:=Hy (U.o.keeps bb);replace GY:=Hy (GY.o.keeps bb);clear bb bD B9 C GH GZ XH;have y0:=GY.o.cell 0;have y1:=GY.o.cell 1;have y2:=GY.o.cell 2;have y3:=GY.o.cell 3;have y4:=GY.o.cell 4;have y5:=GY.o.cell 5;have y6:=GY.o.cell 6;have y7:=GY.o.cell 7;have y8:=GY.o.cell 8;have y9:=GY.o.cell 9;have y10:=GY.o.cell 10;have y11:=GY.o.cell 11;simp only [sz2,sz3,sz4] at y0 y1 y2 y3 y4 y5 y6 y7 y8 y9 y10 y11
  go_upto_region 10 with fail
  clear y0 y1 y2 y3 y4 y5 y6 y7 y8 y9 y10 y11;have b9:=aj (b0 wD) (.cells (exC rG.h 0 none 0 none 0) 29);have XD:=Ub (Blk.new wD 29 (exC rG.h 0 none 0 none 0));have C:=Hy (iF uG _ _ _ XD s7 z7 e7 x7 (HT.o.stays b9));have B9:=Hy b9;clear b9 XD;refine C.o.mono ?_;rintro e wE ⟨rfl,bE⟩;have bb:=ak B9.o bE;replace B:=Hy (ak B.o bb);replace HT:=Hy (HT.o.stays bb);replace U:=Hy (U.o.keeps bb);clear bb bE B9 C GY;have CT:=Hy (fun (w:World)=>RU w);have CF:=Hy (fun (n:ByteArray) (w:World)=>QV n w)
  go_upto_region 11 with fail
  go_wp2_with fail;refine (CT.o _).mono ?_;rintro e wF ⟨ct,rfl,XT,bF⟩;replace B:=Hy (ak B.o bF);replace HT:=Hy (HT.o.stays bF);replace U:=Hy (U.o.keeps bF);have HE:=Hy XT;clear bF XT CT
  go_upto_region 12 with (refine lY (.tmp 9) (.tmp 88) rfl rfl _ _ _ _ _ rfl rfl HE.o (Blk.new _ _ _) rfl ?_;intro wG L1 M1)
  have b7:=(aj (b0 wF) _).trans (M1.below lr);have GT:=Hy L1;replace U:=Hy (U.o.keeps b7);replace HE:=Hy (HE.o.keeps b7);replace B:=Hy (ak B.o b7);replace HT:=Hy (HT.o.stays b7);clear b7 L1 M1;generalize wF.heap.size=gt at *;obtain ⟨ua,uc,aa,ac,e1',ET⟩:=HE.o;subst e1';have XT:=Hy ET;clear ET HE;unfold exC at GT
  go_upto_region 13 with (refine aG aN dec.uy29 rfl (.tmp 9) rfl rfl _ _ _ rfl GT.o rfl ?_)
  have b6:=bB wG (.cells (p2 jy jy ua aa ua aa uc ac uc ac) 29) (.cells (exC og.h 2 none 0 (some ⟨wG.heap.size,0,none⟩) 2) 29);have XN:=Hy (UU (XT.o.keeps b6) (XT.o.keeps b6) ((Blk.new wG 29 (p2 jy jy ua aa ua aa uc ac uc ac)).past _));have GN:=Hy (kJ (wG.alloc (.cells (p2 jy jy ua aa ua aa uc ac uc ac) 29)) 29 (exC og.h 2 none 0 (some ⟨wG.heap.size,0,none⟩) 2) (wG.heap.size+1) (iY _ _).symm);replace U:=Hy (U.o.keeps b6);replace B:=Hy (ak B.o b6);replace HT:=Hy (HT.o.stays b6);clear b6 GT XT;obtain ⟨wH,hw⟩:∃ wH,wH=(wG.alloc (.cells (p2 jy jy ua aa ua aa uc ac uc ac) 29)).alloc (.cells (exC og.h 2 none 0 (some ⟨wG.heap.size,0,none⟩) 2) 29):=⟨_,rfl⟩;rw [← hw] at U B HT XN GN;refine jO wH hw ?_;clear hw;generalize wG.heap.size+1=gn at *;generalize wG.heap.size=gm at *;go_wp2_with fail;refine (CF.o _ _).mono ?_;rintro e wI ⟨cm,rfl,XM,bI⟩;replace U:=Hy (U.o.keeps bI);replace XN:=Hy (XN.o.keeps bI);replace GN:=Hy (GN.o.keeps bI);replace B:=Hy (ak B.o bI);replace HT:=Hy (HT.o.stays bI);have HM:=Hy XM;clear XM bI;go_wp2_with fail;refine (CF.o _ _).mono ?_;rintro e wJ ⟨co,rfl,XO,bJ⟩;replace U:=Hy (U.o.keeps bJ);replace XN:=Hy (XN.o.keeps bJ);replace GN:=Hy (GN.o.keeps bJ);replace HM:=Hy (HM.o.keeps bJ);replace B:=Hy (ak B.o bJ);replace HT:=Hy (HT.o.stays bJ);have HO:=Hy XO;clear XO bJ;obtain ⟨ua,uc,aa,ac,e1',EM⟩:=HM.o;subst e1';obtain ⟨ub,ud,ab,ad,e2',EO⟩:=HO.o;subst e2';clear HM HO;have HM:=Hy EM;have HO:=Hy EO;clear EM EO;unfold exC
  go_upto_region 14 with fail
  have b6:=bB wJ (.cells (p2 (gU ⟨#[109,115]⟩) (gU ⟨#[111,107]⟩) ua aa ub ab uc ac ud ad) 29) (.cells (exC nV.h 2 none 0 (some ⟨wJ.heap.size,0,none⟩) 2) 29);have XQ:=Hy (SY (HM.o.keeps b6) (HO.o.keeps b6) ((Blk.new wJ 29 (p2 (gU ⟨#[109,115]⟩) (gU ⟨#[111,107]⟩) ua aa ub ab uc ac ud ad)).past _));have GQ:=Hy (kJ (wJ.alloc (.cells (p2 (gU ⟨#[109,115]⟩) (gU ⟨#[111,107]⟩) ua aa ub ab uc ac ud ad) 29)) 29 (exC nV.h 2 none 0 (some ⟨wJ.heap.size,0,none⟩) 2) (wJ.heap.size+1) (iY _ _).symm);replace U:=Hy (U.o.keeps b6);replace XN:=Hy (XN.o.keeps b6);replace GN:=Hy (GN.o.keeps b6);replace B:=Hy (ak B.o b6);replace HT:=Hy (HT.o.stays b6);clear b6 HM HO;obtain ⟨wK,hw⟩:∃ wK,wK=(wJ.alloc (.cells (p2 (gU ⟨#[109,115]⟩) (gU ⟨#[111,107]⟩) ua aa ub ab uc ac ud ad) 29)).alloc (.cells (exC nV.h 2 none 0 (some ⟨wJ.heap.size,0,none⟩) 2) 29):=⟨_,rfl⟩;rw [← hw] at U B HT XN GN XQ GQ;refine jO wK hw ?_;clear hw;generalize wJ.heap.size+1=gq at *;generalize wJ.heap.size=gp at *;unfold exC at GN GQ;go_wp2_with (refine aG aN dec.uy29 rfl (.tmp 10) rfl rfl _ _ _ rfl GN.o rfl ?_);refine (iF og _ _ _ XN.o s8 z8 e8 x8 HT.o).mono ?_;rintro e wL ⟨rfl,bL⟩;replace U:=Hy (U.o.keeps bL);replace XQ:=Hy (XQ.o.keeps bL);replace GQ:=Hy (GQ.o.keeps bL);replace B:=Hy (ak B.o bL);replace HT:=Hy (HT.o.stays bL);clear bL XN GN;have y0:=GQ.o.cell 0;have y1:=GQ.o.cell 1;have y2:=GQ.o.cell 2;have y3:=GQ.o.cell 3;have y4:=GQ.o.cell 4;have y5:=GQ.o.cell 5;have y6:=GQ.o.cell 6;have y7:=GQ.o.cell 7;have y8:=GQ.o.cell 8;have y9:=GQ.o.cell 9;have y10:=GQ.o.cell 10;have y11:=GQ.o.cell 11;simp only [sz2,sz3,sz4] at y0 y1 y2 y3 y4 y5 y6 y7 y8 y9 y10 y11;go_wp2_with fail;clear y0 y1 y2 y3 y4 y5 y6 y7 y8 y9 y10 y11;refine (iF nV _ _ _ XQ.o s9 z9 e9 x9 HT.o).mono ?_;rintro e wM ⟨rfl,bM⟩;replace U:=Hy (U.o.keeps bM);replace B:=Hy (ak B.o bM);replace HT:=Hy (HT.o.stays bM);clear bM XQ GQ
  go_upto_region 16 with fail
  have bN:=aj (b0 wM) (.cells (f2 gu) 88);have C:=Hy (Sj (UE (Jb (U.o.keeps bN)) (Blk.new wM 88 (f2 gu))) (HT.o.stays bN));have BN:=Hy bN;clear bN U;go_wp2_with fail;refine C.o.mono ?_;rintro e wO ⟨rfl,bO⟩;have bb:=ak BN.o bO;replace B:=Hy (ak B.o bb);replace HT:=Hy (HT.o.stays bb);clear bb bO BN C;go_wp2_with fail;refine (Si HT.o).mono ?_;rintro e wP ⟨rfl,bP⟩;replace B:=Hy (ak B.o bP);replace HT:=Hy (HT.o.stays bP);clear bP;go_wp2_with fail;refine (CF.o _ _).mono ?_;rintro e wQ ⟨cx,rfl,XX,bQ⟩;replace B:=Hy (ak B.o bQ);replace HT:=Hy (HT.o.stays bQ);have HX:=Hy XX;clear bQ XX CF;go_wp2_with fail;refine (WV HX.o HT.o).mono ?_;rintro e wR ⟨rfl,bR⟩;replace B:=Hy (ak B.o bR);replace HT:=Hy (HT.o.stays bR);clear bR HX;go_wp2_with fail;go_ret;exact ⟨rfl,B.o⟩
end ch
namespace ch
open Go.ChangeShapes Go.WideShapes Go.ChangeAt Go.RowKit Go.Joins dec
def K:Nat:=5864062014634
def _root_.Go.Proofs.YtbahfelnbofjjaaGreatDoor.Fo.lns:Fo→Prop
 | .nil=>True
 | .cons h ar r=>h.un.length≤K∧ar.lns∧r.lns
def _root_.Go.Proofs.YtbahfelnbofjjaaGreatDoor.Ty.ln (t:Ty):Prop:=t.un.length≤K
structure _root_.Go.Proofs.YtbahfelnbofjjaaGreatDoor.Ex.lns (x:Ex):Prop where
 h:x.h.un.length≤K
 ar:x.ar.lns
structure Fe.szs (f:Fe):Prop where
 nm:f.nm.size≤140737488355328
 en:f.en.size≤140737488355328
 of:f.ty.of.size≤140737488355328
 bo:f.bo.szs
 ln:f.bo.lns
theorem cI:Tryz.prog.cellsOf 3=1:=by kernel_rfl
theorem cSt:Tryz.prog.cellsOf 9=1:=by kernel_rfl
theorem cVa:Tryz.prog.cellsOf 23=3:=by kernel_rfl
theorem cWi:Tryz.prog.cellsOf 26=2:=by kernel_rfl
theorem cFa:Tryz.prog.cellsOf 82=2:=by kernel_rfl
theorem U7:Tryz.prog.cellsOf 24=1:=by kernel_rfl
theorem cX:Tryz.prog.cellsOf 29=12:=by kernel_rfl
theorem cSx:Tryz.prog.cellsOf 27=1:=by kernel_rfl
theorem cTy:Tryz.prog.cellsOf 31=3:=by kernel_rfl
theorem cFi:Tryz.prog.cellsOf 88=4:=by kernel_rfl
theorem XL:Tryz.prog.cellsOf 46=1:=by kernel_rfl
theorem cTb:Tryz.prog.cellsOf 48=4:=by kernel_rfl
theorem cFe:Tryz.prog.cellsOf 51=18:=by kernel_rfl
theorem bFa:Tryz.prog.bytesOf 82=24:=by kernel_rfl
instance:Inhabited Ex:=⟨⟨h0,.nil⟩⟩
instance:Inhabited Fi:=⟨⟨.empty,t0⟩⟩
instance:Inhabited Tb:=⟨⟨.empty,.empty,[],0⟩⟩
instance:Inhabited Fe:=⟨⟨.empty,.empty,t0,⟨h0,.nil⟩,0⟩⟩
section
variable {H:Type} {enc:TypeId × Value→H} {w:World} {m:Nat} {y:DataW H × List MemPlace}
abbrev Rd (enc:TypeId × Value→H) (w:World) (m:Nat) (T:TypeId) (cs:List Value) (y:DataW H × List MemPlace):Prop:=DataW.trod enc Tryz.prog w 0 (fun _=>true) true m T cs=some y
def Wk (T:TypeId) (d:DataW H):Prop:=∀ n ∈ d.weights Tryz.prog T,n≤140737488351232
theorem dH {T:TypeId} {fs:Array Field} (hu:Tryz.prog.underlying T=some (.struct fs)) {parts:List (DataW H)} (h:Wk T (.agg parts)) {j:Nat} {t:TypeId} {d:DataW H} (ht:(fs.toList.map (·.type))[j]? = some t) (hd:parts[j]? = some d):Wk t d :=
 fun n hn=>h n (by simp only [DataW.weights,hu];exact DataW.weights_mem_each ht hd n hn)
theorem IK {e:TypeId} {n:Nat} : ∀ {l:List (DataW H)} {d:DataW H},d ∈ l→n ∈ d.weights Tryz.prog e→n ∈ DataW.weightsAll Tryz.prog e l
 | x :: l,d,h,hn=>by
  simp only [DataW.weightsAll,List.mem_append]
  rcases List.mem_cons.1 h with rfl | h
  ·exact .inl hn
  ·exact .inr (IK h hn)
theorem Lg {T e:TypeId} (hu:Tryz.prog.underlying T=some (.slice e)) {el sp:List (DataW H)} (h:Wk T (.slice el sp)):(el.length+sp.length) * Tryz.prog.bytesOf e≤140737488351232∧∀ d ∈ el,Wk e d:=by
 refine ⟨h _ (by simp [DataW.weights,hu]),fun d hd n hn=>h n ?_⟩;simp only [DataW.weights,hu,List.mem_cons,List.mem_append];exact .inr (.inl (IK hd hn))
theorem jc {T:TypeId} {s:ByteArray} (h:Wk (H:=H) T (.lit (.string s.data.toList))):s.size≤140737488355328:=by
 have:=h s.data.toList.length (by simp [DataW.weights]);have e:s.data.toList.length=s.size:=by rw [Array.length_toList];rfl
 omega
theorem vN {α:Type} [Inhabited α] {V:World→Array Value→α→Prop} {Q:DataW H→α→Prop} {sz:Nat} {T e:TypeId} (hu:Tryz.prog.underlying T=some (.slice e)) (hc:Tryz.prog.cellsOf e=sz) (h0:0<sz) {c:Value} (h:Rd enc w m T [c] y) (hk:Wk T y.1)
    (E:∀ k cs z,k<m→Rd enc w k e cs z→Wk e z.1→∃ (ds:Array Value) (x:α),cs=ds.toList∧ds.size=sz∧V w ds x∧Q z.1 x) :
    ∃ a n cap l el sp,c=.slice a n cap∧Rw sz V w a n cap l∧(el.length+sp) * Tryz.prog.bytesOf e≤140737488351232∧el.length=l.length∧(∀ j (h1:j<el.length) (h2:j<l.length),Q el[j] l[j])∧Rows.uptoBulkAll el≤Rows.uptoBulk y.1:=by
 rcases DataW.trod_slice hu h with ⟨hcs,rfl⟩ | ⟨a,n,cap,elems,rest,k,rfl,hcs,rfl,hb,hl,hm,hlen,hel,_,_⟩
 ·simp only [List.cons.injEq,and_true] at hcs;subst hcs;exact ⟨none,0,0,[],[],0,rfl,.nil _ _ _,by rw [L_j,Nat.zero_add,Nat.zero_mul];exact Nat.zero_le _,rfl,fun j h1=>absurd h1 (Nat.not_lt_zero _),Nat.zero_le _⟩
 simp only [List.cons.injEq,and_true] at hcs;subst hcs;obtain ⟨hw,hke⟩:=Lg hu hk;have hel2:∀ i,i<n→∃ x:α,∃ (ds cs':Array Value),w.cells? 0 (a.add (i * Tryz.prog.cellsOf e)) (Tryz.prog.cellsOf e)=some ds.toList∧ds.size=sz∧V w ds x∧∀ h:i<elems.length,Q elems[i].1 x:=fun i hi=>by
  have h1:=hel i hi;rw [List.getElem?_eq_getElem (by omega)] at h1;obtain ⟨cs',h2,h3⟩:=Option.bind_eq_some_iff.1 h1;obtain ⟨ds,x,rfl,h5,h6,h7⟩:=E k cs' _ ls h3 (hke _ (List.mem_map.2 ⟨_,List.getElem_mem _,rfl⟩));exact ⟨x,ds,ds,h2,h5,h6,fun _=>h7⟩
 obtain ⟨q,hq⟩:=Go.Deep.choose_lt hel2;refine ⟨some a,n,cap,(List.range n).map q,elems.map (·.1),(rest.map (·.1)).length,rfl,⟨?_,by simp,hl,by unfold maxLen at hm;omega,fun h=>by cases h⟩,hw,by simp [hlen],fun j h1 h2=>?_,L_f (Nat.le_add_right _ (Rows.uptoBulkAll (rest.map (·.1)))) (Nat.le_succ _)⟩
 ·by_cases hn:n=0
  ·exact .inl (by simp [hn])
  obtain ⟨b,off,spot⟩:=a;have hspot:spot=none:=by
   obtain ⟨ds,_,g1,g2,_⟩:=hq 0 (by omega);rw [hc] at g1;obtain ⟨_,_,g3⟩:=World.cells?_some g1;have g4:=g3 0 h0;rw [List.getElem?_eq_getElem (by rw [Array.length_toList];omega)] at g4;have:=World.cell?_spot g4;simpa [Addr.add] using this
  subst hspot;refine .inr ⟨b,off,rfl,fun j hj=>?_⟩;have hj':j<n:=by simpa using hj
  obtain ⟨ds,_,g1,g2,g3,_⟩:=hq j hj';refine ⟨ds,g2,fun i v hv=>?_,by simpa using g3⟩;rw [hc] at g1;obtain ⟨_,g4,g5⟩:=World.cells?_some g1;have hi:i<ds.toList.length:=(List.getElem?_eq_some_iff.1 hv).1;have:=g5 i (by omega);rw [Go.Addr.add_mid,Go.Addr.add_mid] at this;rw [this,hv]
 have hj':j<n:=by simpa using h2
 obtain ⟨_,_,_,_,_,g⟩:=hq j hj';have:=g (by omega);simpa using this
def FaV (_:World) (cs:Array Value) (f:un.Fa):Prop:=cs=#[.string f.1,.int .i64 f.2]
theorem Vy {a:Option Addr} {n cap:Nat} {l:List un.Fa} (h:Rw 2 FaV w a n cap l):un.Sl w a n cap l:=by
 refine ⟨h.hat.imp id fun ⟨b,off,e,hA⟩=>⟨b,off,e,fun j hj=>?_⟩,h.hn,Nat.zero_le _,L_f h.hcap h.hmax,trivial⟩;obtain ⟨cs,_,h2,rfl⟩:=hA j hj;rw [un.fJ hj];exact ⟨by simpa using h2 0 _ rfl,by simpa [Nat.add_assoc] using h2 1 _ rfl⟩
theorem WR {cs:List Value} (h:Rd enc w m 82 cs y) (hk:Wk 82 y.1):∃ (ds:Array Value) (x:un.Fa),cs=ds.toList∧ds.size=2∧FaV w ds x∧x.1.size≤140737488355328:=by
 obtain ⟨y0,y1,k,rfl,hl,g0,g1⟩:=trod_struct2 dec.uy82 h;rw [cFa] at hl
 match cs,hl with
 | [v0,v1],_ =>
   simp only [cSt,cI,List.drop_zero,List.take_succ_cons,List.take_zero,List.drop_succ_cons] at g0 g1
   obtain ⟨n0,e0,d0,_⟩:=DataW.trod_string dec.uy9 g0
   obtain ⟨n1,e1,d1,_⟩:=DataW.trod_int dec.uy3 g1
   simp only [List.cons.injEq,and_true] at e0 e1
   subst e0 e1
   have k0:=dH dec.uy82 hk (j:=0) (t:=9) rfl rfl
   rw [d0] at k0
   exact ⟨#[.string n0,.int .i64 n1],(n0,n1),rfl,rfl,rfl,jc k0⟩
theorem NH {c:Value} (h:Rd enc w m 24 [c] y) (hk:Wk 24 y.1):∃ a cap l,c=.slice a l.length cap∧un.Sl w a l.length cap l∧l.length≤K∧∀ f ∈ l,f.1.size≤140737488355328:=by
 obtain ⟨a,n,cap,l,el,sp,rfl,S,hz,hl,hq,_⟩:=vN (Q:=fun _ (x:un.Fa)=>x.1.size≤140737488355328) Tryz.underlying24 cFa (by decide) h hk (fun k cs z _ h1 h2=>WR h1 h2);rw [bFa] at hz;have hn:=S.hn;refine ⟨a,cap,l,by rw [hn],by have:=Vy S;rwa [← hn] at this,by unfold K;omega,fun f hf=>?_⟩;obtain ⟨j,hj,rfl⟩:=List.getElem_of_mem hf;exact hq j (by omega) hj
theorem Ao {P:Program} {H:Type} {enc:TypeId × Value→H} {w:World} {base:Nat} {spare:Nat→Bool} {held:Bool} {t:TypeId} {f0 f1 f2 f3 f4 f5 f6 f7 f8:Field} {fuel:Nat} {cs:List Value} {x:DataW H × List MemPlace} (ht:P.underlying t=some (.struct #[f0,f1,f2,f3,f4,f5,f6,f7,f8])) (h:DataW.trod enc P w base spare held fuel t cs=some x) :
    ∃ y0 y1 y2 y3 y4 y5 y6 y7 y8 n,fuel=n+1∧x.1=.agg [y0.1,y1.1,y2.1,y3.1,y4.1,y5.1,y6.1,y7.1,y8.1]∧cs.length=P.cellsOf t∧DataW.trod enc P w base spare held n f0.type ((cs.drop f0.offset).take (P.cellsOf f0.type))=some y0∧DataW.trod enc P w base spare held n f1.type ((cs.drop f1.offset).take (P.cellsOf f1.type))=some y1∧DataW.trod enc P w base spare held n f2.type ((cs.drop f2.offset).take (P.cellsOf f2.type))=some y2∧DataW.trod enc P w base spare held n f3.type ((cs.drop f3.offset).take (P.cellsOf f3.type))=some y3∧DataW.trod enc P w base spare held n f4.type ((cs.drop f4.offset).take (P.cellsOf f4.type))=some y4∧DataW.trod enc P w base spare held n f5.type ((cs.drop f5.offset).take (P.cellsOf f5.type))=some y5∧DataW.trod enc P w base spare held n f6.type ((cs.drop f6.offset).take (P.cellsOf f6.type))=some y6∧DataW.trod enc P w base spare held n f7.type ((cs.drop f7.offset).take (P.cellsOf f7.type))=some y7∧DataW.trod enc P w base spare held n f8.type ((cs.drop f8.offset).take (P.cellsOf f8.type))=some y8:=by
 obtain ⟨xs,n,rfl,rfl,hl,hlen,hf⟩:=DataW.trod_struct ht h
 match xs,hlen with
 | [y0,y1,y2,y3,y4,y5,y6,y7,y8],_=>exact ⟨y0,y1,y2,y3,y4,y5,y6,y7,y8,n,rfl,rfl,hl,by simpa using hf 0 f0 rfl,by simpa using hf 1 f1 rfl,by simpa using hf 2 f2 rfl,by simpa using hf 3 f3 rfl,by simpa using hf 4 f4 rfl,by simpa using hf 5 f5 rfl,by simpa using hf 6 f6 rfl,by simpa using hf 7 f7 rfl,by simpa using hf 8 f8 rfl⟩
theorem Ap {P:Program} {H:Type} {enc:TypeId × Value→H} {w:World} {base:Nat} {spare:Nat→Bool} {held:Bool} {t:TypeId} {f0 f1 f2 f3 f4:Field} {fuel:Nat} {cs:List Value} {x:DataW H × List MemPlace} (ht:P.underlying t=some (.struct #[f0,f1,f2,f3,f4])) (h:DataW.trod enc P w base spare held fuel t cs=some x) :
    ∃ y0 y1 y2 y3 y4 n,fuel=n+1∧x.1=.agg [y0.1,y1.1,y2.1,y3.1,y4.1]∧cs.length=P.cellsOf t∧DataW.trod enc P w base spare held n f0.type ((cs.drop f0.offset).take (P.cellsOf f0.type))=some y0∧DataW.trod enc P w base spare held n f1.type ((cs.drop f1.offset).take (P.cellsOf f1.type))=some y1∧DataW.trod enc P w base spare held n f2.type ((cs.drop f2.offset).take (P.cellsOf f2.type))=some y2∧DataW.trod enc P w base spare held n f3.type ((cs.drop f3.offset).take (P.cellsOf f3.type))=some y3∧DataW.trod enc P w base spare held n f4.type ((cs.drop f4.offset).take (P.cellsOf f4.type))=some y4:=by
 obtain ⟨xs,n,rfl,rfl,hl,hlen,hf⟩:=DataW.trod_struct ht h
 match xs,hlen with
 | [y0,y1,y2,y3,y4],_=>exact ⟨y0,y1,y2,y3,y4,n,rfl,rfl,hl,by simpa using hf 0 f0 rfl,by simpa using hf 1 f1 rfl,by simpa using hf 2 f2 rfl,by simpa using hf 3 f3 rfl,by simpa using hf 4 f4 rfl⟩
def foL:List Ex→Fo
 | []=>.nil
 | x :: l=>.cons x.h x.ar (foL l)
theorem sM:∀ l:List Ex,(foL l).len=l.length
 | []=>rfl
 | x :: l=>by simp [foL,Fo.len,sM l]
theorem FN:∀ (l:List Ex) (j:Nat) (h:j<l.length),(foL l).nth j=l[j]
 | x :: l,0,_=>rfl
 | x :: l,j+1,h=>FN l j (by simpa using h)
theorem FM:∀ l:List Ex,(∀ x ∈ l,x.szs)→(foL l).szs
 | [],_=>trivial
 | x :: l,h=>⟨(h x (L_e ..)).h,(h x (L_e ..)).ar,FM l fun y hy=>h y (L_h _ hy)⟩
theorem FP:∀ l:List Ex,(∀ x ∈ l,x.lns)→(foL l).lns
 | [],_=>trivial
 | x :: l,h=>⟨(h x (L_e ..)).h,(h x (L_e ..)).ar,FP l fun y hy=>h y (L_h _ hy)⟩
theorem KD:∀ (l:List Ex) (el:List (DataW H)),el.length=l.length→(∀ j (h1:j<el.length) (h2:j<l.length),l[j].ar.sz+1≤Rows.uptoBulk el[j])→(foL l).sz≤Rows.uptoBulkAll el
 | [],_,_,_=>Nat.zero_le _
 | x :: l,[],h,_=>by simp at h
 | x :: l,d :: el,h,hq=>by
  have h1:=hq 0 (by simp) (by simp)
  have h2:=KD l el (by simpa using h) fun j h1 h2=>by
   have:=hq (j+1) (by simpa using h1) (by simpa using h2)
   simpa using this
  simp only [List.getElem_cons_zero] at h1
  simp only [foL,Fo.sz,Rows.uptoBulkAll]
  omega
theorem WE {a:Option Addr} {n cap:Nat} {l:List Ex} (h:Rw 12 ExV w a n cap l):Fs w a n cap (foL l):=by
 refine ⟨?_,by rw [sM,h.hn],Nat.zero_le _,L_f h.hcap h.hmax,trivial⟩;rw [sM];refine h.hat.imp id fun ⟨b,off,e,hA⟩=>⟨b,off,e,Oj b _ off fun j hj=>?_⟩;rw [sM] at hj;obtain ⟨cs,_,h2,ua,uc,aa,ac,rfl,h4⟩:=hA j hj;rw [FN _ _ hj];exact ⟨ua,uc,aa,ac,h2,h4⟩
structure ExQ (d:DataW H) (x:Ex):Prop where
 sz:x.szs
 ln:x.lns
 bulk:x.ar.sz+1≤Rows.uptoBulk d
theorem Ru {c:Value} (E:∀ k cs z,k<m→Rd enc w k 29 cs z→Wk 29 z.1→∃ (ds:Array Value) (x:Ex),cs=ds.toList∧ds.size=12∧ExV w ds x∧ExQ z.1 x)
    (h:Rd enc w m 27 [c] y) (hk:Wk 27 y.1):∃ a cap F,c=.slice a F.len cap∧Fs w a F.len cap F∧F.szs∧F.lns∧F.sz≤Rows.uptoBulk y.1:=by
 obtain ⟨a,n,cap,l,el,sp,rfl,S,hz,hl,hq,hb⟩:=vN (Q:=ExQ) Tryz.underlying27 cX (by decide) h hk E;have hF:=WE S;have hn:(foL l).len=n:=hF.hn;have hm:∀ x ∈ l,∃ d:DataW H,ExQ d x:=fun x hx=>by
  obtain ⟨j,hj,rfl⟩:=List.getElem_of_mem hx;exact ⟨_,hq j (by omega) hj⟩
 refine ⟨a,cap,foL l,by rw [hn],by rw [hn];exact hF,FM l fun x hx=>?_,FP l fun x hx=>?_,L_f (KD l el hl fun j h1 h2=>(hq j h1 h2).bulk) hb⟩
 ·obtain ⟨_,h⟩:=hm x hx;exact h.sz
 obtain ⟨_,h⟩:=hm x hx;exact h.ln
theorem zF {d:DataW H} {l:List (DataW H)} (h:d ∈ l):Rows.uptoBulk d≤Rows.uptoBulkAll l:=by
 induction l with
 | nil=>cases h
 | cons x r ih =>
   simp only [Rows.uptoBulkAll]
   rcases List.mem_cons.1 h with rfl | e
   · omega
   · have:=ih e;omega
theorem WS:∀ (m:Nat) (cs:List Value) (y:DataW H × List MemPlace),Rd enc w m 29 cs y→Wk 29 y.1→∃ (ds:Array Value) (x:Ex),cs=ds.toList∧ds.size=12∧ExV w ds x∧ExQ y.1 x:=by
 intro m
 induction m using Nat.strongRecOn with
 | _ m IH =>
   intro cs y h hk
   obtain ⟨y0,y1,y2,y3,y4,y5,y6,y7,y8,n,rfl,hy,hl,g0,g1,g2,g3,g4,g5,g6,g7,g8⟩:=Ao dec.uy29 h
   rw [cX] at hl
   rw [hy] at hk ⊢
   match cs,hl with
   | [c0,c1,c2,c3,c4,c5,c6,c7,c8,c9,c10,c11],_ =>
     simp only [cI,cSt,cVa,U7,cWi,cSx,List.drop_zero,List.take_succ_cons,List.take_zero,List.drop_succ_cons] at g0 g1 g2 g3 g4 g5 g6 g7 g8
     obtain ⟨n0,e0,d0,_⟩:=DataW.trod_int dec.uy3 g0
     obtain ⟨n1,e1,d1,_⟩:=DataW.trod_string dec.uy9 g1
     obtain ⟨n2,e2,d2,_⟩:=DataW.trod_string dec.uy9 g2
     obtain ⟨n3,e3,d3,_⟩:=DataW.trod_string dec.uy9 g3
     obtain ⟨p0,p1,p2,_,dv,_,f0,f1,f2⟩:=Go.Deep.trod_struct3 Tryz.underlying23 g4
     simp only [cI,cSt,List.drop_zero,List.take_succ_cons,List.take_zero,List.drop_succ_cons] at f0 f1 f2
     obtain ⟨v0,e4,d4,_⟩:=DataW.trod_int dec.uy3 f0
     obtain ⟨v1,e5,d5,_⟩:=DataW.trod_int dec.uy3 f1
     obtain ⟨v2,e6,d6,_⟩:=DataW.trod_string dec.uy9 f2
     obtain ⟨n6,e8,d8,_⟩:=DataW.trod_int dec.uy3 g6
     obtain ⟨q0,q1,_,dw,_,f3,f4⟩:=trod_struct2 dec.uy26 g7
     simp only [cI,List.drop_zero,List.take_succ_cons,List.take_zero,List.drop_succ_cons] at f3 f4
     obtain ⟨w0,e9,d9,_⟩:=DataW.trod_int dec.uy3 f3
     obtain ⟨w1,e10,d10,_⟩:=DataW.trod_int dec.uy3 f4
     simp only [List.cons.injEq,and_true] at e0 e1 e2 e3 e4 e5 e6 e8 e9 e10
     have k1:=dH dec.uy29 hk (j:=1) (t:=9) rfl rfl
     have k2:=dH dec.uy29 hk (j:=2) (t:=9) rfl rfl
     have k3:=dH dec.uy29 hk (j:=3) (t:=9) rfl rfl
     have k4:=dH dec.uy29 hk (j:=4) (t:=23) rfl rfl
     have k5:=dH dec.uy29 hk (j:=5) (t:=24) rfl rfl
     have k8:=dH dec.uy29 hk (j:=8) (t:=27) rfl rfl
     rw [d1] at k1
     rw [d2] at k2
     rw [d3] at k3
     rw [dv] at k4
     have k6:=dH Tryz.underlying23 k4 (j:=2) (t:=9) rfl rfl
     rw [d6] at k6
     obtain ⟨ua,uc,u,rfl,hU,hul,_⟩:=NH g5 k5
     obtain ⟨aa,ac,F,rfl,hF,hs,hln,hfb⟩:=Ru (fun k cs z hk' h1 h2=>IH k (by omega) cs z h1 h2) g8 k8
     subst e0 e1 e2 e3 e4 e5 e6 e8 e9 e10
     refine ⟨exC ⟨n0,n1,n2,n3,v0,v1,v2,u,n6,w0,w1⟩ F.len ua uc aa ac,⟨⟨n0,n1,n2,n3,v0,v1,v2,u,n6,w0,w1⟩,F⟩,rfl,rfl,⟨ua,uc,aa,ac,rfl,hU,hF⟩,⟨⟨jc k1,jc k2,jc k3,jc k6⟩,hs⟩,⟨hul,hln⟩,?_⟩
     show F.sz+1≤_
     have hp:Rows.uptoBulk y8.1≤Rows.uptoBulkAll [y0.1,y1.1,y2.1,y3.1,y4.1,y5.1,y6.1,y7.1,y8.1]:=zF (by simp)
     show F.sz+1≤Rows.uptoBulkAll [y0.1,y1.1,y2.1,y3.1,y4.1,y5.1,y6.1,y7.1,y8.1]+1
     omega
end
end ch
end Go.Proofs.YtbahfelnbofjjaaGreatDoor
