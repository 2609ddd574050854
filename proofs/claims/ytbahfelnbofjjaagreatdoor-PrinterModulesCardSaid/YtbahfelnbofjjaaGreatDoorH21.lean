/- What the range over the map has put together. -/
import Derived.Test.YtbahfelnbofjjaaGreatDoorH20
set_option maxRecDepth 100000
set_option maxHeartbeats 16000000
namespace Go.Proofs.YtbahfelnbofjjaaGreatDoor
namespace un
open Go.RowKit dec
structure Pk (l:List Fa) (left:Lit→Bool) (o:List Fa):Prop where
 mem:∀ x,x ∈ o↔x ∈ nz l∧left (kS x.1)=false
 nd:o.Nodup
 ok:∀ s,(∃ y ∈ l,y.1=s)→left (kS s)=false→far (ex l s)=false
theorem oN {s:ByteArray} (hs:s.size≤maxLen) (t:ByteArray):(kS t).sameKey (kS s)=decide (t=s):=by
 by_cases e:t=s
 ·subst e;rw [dT rfl];exact WideAt.sameKey_self (ny hs)
 rw [dF e];exact Maps.sameKey_ne fun h=>e (vZ h)
theorem Pk.start {l:List Fa} {D:DataW Unit} (h:Says l D):Pk l (Maps.has D) []:=by
 have hh:∀ s,(∃ y ∈ l,y.1=s)→Maps.has D (kS s)=true:=fun s hs=>by
  rw [h.has,List.any_eq_true];obtain ⟨y,hy,e⟩:=hs;exact ⟨y,hy,dT e⟩
 refine ⟨fun x=>⟨fun hx=>(by cases hx),fun ⟨h1,h2⟩=>?_⟩,.nil,fun s hs h2=>?_⟩
 ·obtain ⟨a,b⟩:=ni.1 h1;rw [hh x.1 (pG (a ▸ b))] at h2;cases h2
 rw [hh s hs] at h2;cases h2
theorem Pk.skip {l:List Fa} {left:Lit→Bool} {o:List Fa} (h:Pk l left o) {s:ByteArray} (hs:s.size≤maxLen) (hf:far (ex l s)=false) (h0:ex l s=0):Pk l (fun z=>left z && !z.sameKey (kS s)) o:=by
 refine ⟨fun x=>?_,h.nd,fun t ht h2=>?_⟩
 ·rw [h.mem];constructor
  ·rintro ⟨a,b⟩;exact ⟨a,by rw [b];rfl⟩
  rintro ⟨a,b⟩;refine ⟨a,?_⟩;rw [oN hs] at b;by_cases e:x.1=s
  ·exfalso;obtain ⟨p,q⟩:=ni.1 a;rw [e,h0] at p;exact q p
  rw [dF e,Bool.not_false,Bool.and_true] at b;exact b
 rw [oN hs] at h2;by_cases e:t=s
 ·rw [e];exact hf
 rw [dF e,Bool.not_false,Bool.and_true] at h2;exact h.ok t ht h2
theorem Pk.push {l:List Fa} {left:Lit→Bool} {o:List Fa} (h:Pk l left o) {s:ByteArray} (hs:s.size≤maxLen) (hl:left (kS s)=true) (hf:far (ex l s)=false) (h0:ex l s≠0):Pk l (fun z=>left z && !z.sameKey (kS s)) (o++[(s,ex l s)]):=by
 refine ⟨fun x=>?_,?_,fun t ht h2=>?_⟩
 ·rw [List.mem_append,List.mem_singleton,h.mem];constructor
  ·rintro (⟨a,b⟩ | rfl)
   ·exact ⟨a,by rw [b];rfl⟩
   exact ⟨ni.2 ⟨rfl,h0⟩,by rw [oN hs,dT rfl];simp⟩
  rintro ⟨a,b⟩;rw [oN hs] at b;by_cases e:x.1=s
  ·refine .inr (Prod.ext e ?_);rw [(ni.1 a).1,e]
  rw [dF e,Bool.not_false,Bool.and_true] at b;exact .inl ⟨a,b⟩
 ·rw [List.nodup_append];refine ⟨h.nd,by simp,fun a ha b hb e=>?_⟩;rw [List.mem_singleton] at hb;subst e;have:=((h.mem a).1 ha).2;rw [hb] at this;rw [hl] at this;cases this
 rw [oN hs] at h2;by_cases e:t=s
 ·rw [e];exact hf
 rw [dF e,Bool.not_false,Bool.and_true] at h2;exact h.ok t ht h2
theorem I8 {l:List Fa} (h:Srt l):l.Pairwise fun x y=>x.1≠y.1:=h.imp fun h=>rE h
theorem Pk.done {l:List Fa} {left:Lit→Bool} {o s:List Fa} (h:Pk l left o) (hl:∀ z,left z=false) (hp:s.Perm o) (hs:oq s):s=nz l:=by
 have hm:∀ x,x ∈ s↔x ∈ nz l:=fun x=>by
  rw [hp.mem_iff,h.mem,hl];simp
 have hn:s.Nodup:=hp.nodup_iff.2 h.nd;have hne:s.Pairwise fun x y=>x.1≠y.1:=hn.imp_of_mem fun {a b} ha hb hab e=>by
  have e1:=(ni.1 ((hm a).1 ha)).1;have e2:=(ni.1 ((hm b).1 hb)).1;exact hab (Prod.ext e (by rw [e1,e2,e]))
 have hS:Srt s:=hs.imp₂ (fun a b h1 h2=>yu h1 (fun e=>h2 e.symm)) hne;exact xQ (hS.imp fun h=>h) (Aw l) hm
theorem Pk.len {l:List Fa} {left:Lit→Bool} {o:List Fa} (h:Pk l left o) (hl:∀ z,left z=false):o.length=(nz l).length:=by
 have hn:(nz l).Nodup:=(I8 (Aw l)).imp fun h e=>h (by rw [e]);refine ((List.perm_ext_iff_of_nodup h.nd hn).2 fun x=>?_).length_eq;rw [h.mem,hl];simp
theorem Q6 {x:Int} (h:rg x=false):far x=true:=by
 rw [NQ] at h;unfold far;exact dT (by omega)
theorem Pk.all {l:List Fa} {left:Lit→Bool} {o:List Fa} (h:Pk l left o) (hl:∀ z,left z=false):kM l=false:=by
 cases hf:kM l
 ·rfl
 obtain ⟨n,hn⟩:=(qz l).1 hf;rw [h.ok n (pG fun e=>by rw [e] at hn;cases hn) (hl _)] at hn;cases hn
theorem Co:∀ (l:List Fa) (s:ByteArray),(∀ x ∈ l,-9223372036854775808≤x.2∧x.2≤9223372036854775807)→-9223372036854775808 * (l.length:Int)≤ex l s∧ex l s≤9223372036854775808 * (l.length:Int)
 | [],s,_=>by simp [ex]
 | x :: l,s,h=>by
  have ih:=Co l s fun y hy=>h y (L_h _ hy)
  have hx:=h x (L_e ..)
  simp only [ex,L_b]
  push_cast
  split <;> omega
theorem WT {l:List Fa} (s:ByteArray) (h:∀ x ∈ l,-9223372036854775808≤x.2∧x.2≤9223372036854775807) (hl:l.length<5864062014805):In (ex l s):=by
 have:=Co l s h;unfold In;omega
theorem FB {key:Value} {kl:Lit} (h:keyOf Tryz.prog 9 key=some kl):∃ s:ByteArray,key=.string s∧kl=kS s∧s.size≤maxLen:=by
 cases key <;> simp [keyOf,mapKey] at h;rename_i s;obtain ⟨h1,h2⟩:=h;exact ⟨s,rfl,h2.symm,h1⟩
theorem vw (w:World) {ops:Array Oper} {rest:List Oper} {o:Oper} {a:Act} {Q:Exit→Act→World→Prop} (hg:o.guard=none) (it:Operand) (hop:o.op=Op.next it false) (b r n:Nat) (D:DataW Unit) (l:List Fa) (hS:Says l D) (left:Lit→Bool) (cnt:Nat)
  (hit:a.eval it=.pointer (some ⟨r,0,none⟩)) (h:w.ranges Tryz.prog 9 jq b r n D left cnt)
  (hDone:cnt=0→(∀ kl,left kl=false)→wpList Tryz.prog ops Q rest (a.put o.dst (.tuple #[.bool false])) w)
  (hMore:∀ (s:ByteArray) (w':World) (cnt':Nat),s.size≤maxLen→left (kS s)=true→w'.ranges Tryz.prog 9 jq b r n D (fun z=>left z && !z.sameKey (kS s)) cnt'→cnt'<cnt→w.grownBy w' (some r)→w'.heap.size=w.heap.size →
   (Instr.entry (.pointer (some ⟨r,0,none⟩))).run Tryz.prog w'=.ok (.tuple #[.string s,.agg #[.int .i64 (hi (ex l s)),.int .u64 (lo (ex l s))]]) w'→wpList Tryz.prog ops Q rest (a.put o.dst (.tuple #[.bool true,.string s,.agg #[.int .i64 (hi (ex l s)),.int .u64 (lo (ex l s))]])) w') :
  wpList Tryz.prog ops Q (o :: rest) a w :=
 wpList_next_ranges w hg it hop 9 K9 jq (fun s:ByteArray=>Value.string s) (fun c:Int × Int=>.agg #[.int .i64 c.1,.int .u64 c.2])
  (fun key kl hk=>by obtain ⟨s,e,_⟩:=FB hk;exact ⟨s,e⟩) (fun v y hv=>by obtain ⟨c,e,_⟩:=yV hv;exact ⟨c,e⟩) b r n D left cnt hit h hDone
  (fun x c kl y w' cnt' hkey hlk hv hat hrg hlt hgr hsz hen=>by
   obtain ⟨s,e,rfl,hs⟩:=FB hkey
   obtain rfl:x=s:=by injection e
   obtain ⟨yd,yp⟩:=y
   have hy:=hat (dW 0)
   rw [hS.at_] at hy
   have hy':yd=dW (ex l x):=hy.symm
   subst hy'
   have hc:=Ai hv
   have:(.agg #[.int .i64 c.1,.int .u64 c.2]:Value)=.agg #[.int .i64 (hi (ex l x)),.int .u64 (lo (ex l x))]:=hc
   rw [this] at hen
   have:=hMore x w' cnt' hs hlk hrg hlt hgr hsz hen
   rw [show (.agg #[.int .i64 c.1,.int .u64 c.2]:Value)=.agg #[.int .i64 (hi (ex l x)),.int .u64 (lo (ex l x))] from hc]
   exact this)
theorem kr {w w':World} {b r n:Nat} {D:DataW Unit} {left:Lit→Bool} {cnt:Nat} (h:w.ranges Tryz.prog 9 jq b r n D left cnt) (hb:Below w.heap.size w w'):w'.ranges Tryz.prog 9 jq b r n D left cnt:=h.kept (gT hb) (by simp) (by simp)
theorem Dn {w w':World} {b r n base:Nat} {D:DataW Unit} {left:Lit→Bool} {cnt:Nat} (h:w.ranges Tryz.prog 9 jq b r n D left cnt) (hb:Below base w w') (h1:b<base) (h2:r<base):w'.ranges Tryz.prog 9 jq b r n D left cnt:=by
 obtain ⟨es,clock,since,seen,c0,k1,F,hs,hD,hr,rest⟩:=h;exact ⟨es,clock,since,seen,c0,(hb.block b h1).trans k1,F,hs,hD,(hb.block r h2).trans hr,rest⟩
end un
namespace dec
open Go.RowKit
theorem WY (x y:Int) (hx:0≤x) (hy:0≤y) (w:World):(callFunc 285 #[.int .u64 x,.int .u64 y,.int .u64 0]).run Tryz.prog w =
    .ok (.value (.tuple #[.int .u64 ((x+y) % 18446744073709551616),.int .u64 ((x+y) / 18446744073709551616)])) w:=by
 rw [run_callFunc_extern Tryz.func285 (by kernel_rfl) (by kernel_rfl) (by kernel_rfl) (e:=add64Entry) (by kernel_rfl),run_add64 x y 0 hx hy (Int.le_refl 0) (by decide)];simp only [Result.andThen,Int.add_zero]
theorem Rz {x y:Value} {a b:Int} (hx:x=W a) (hy:y=W b) (w:World) :
    Calls Tryz.prog 241 #[x,y] w fun e w' => e=.returned (W (a+b))∧∃ c1 c2 c3:Array Value,w'=((w.alloc (.cells c1 221)).alloc (.cells c2 221)).alloc (.cells c3 221):=by
 subst hx hy;have ra:=kU a;have rb:=kU b;have ha:=nC a;have hb:=nC b;have k0:0≤(lo a+lo b) / 18446744073709551616:=by omega
 have k1:(lo a+lo b) / 18446744073709551616≤1:=by omega
 obtain ⟨ra1,ra2⟩:=ra;obtain ⟨rb1,rb2⟩:=rb;obtain ⟨ha1,ha2⟩:=ha;obtain ⟨hb1,hb2⟩:=hb;unfold W
 go_enter Tryz.func241,Tryz.ntmps241
 go_wp2_with (simp only [WY (lo a) (lo b) ra1 rb1]);simp [bodyPost,results,Tryz.results241,go_sem];exact ⟨⟨Vj a b,Vi a b⟩,_,_,_,rfl⟩
theorem WX {x y:Value} {a b:Int} (hx:x=W a) (hy:y=W b) (w:World) :
  Calls Tryz.prog 241 #[x,y] w fun e w' => e=.returned (W (a+b))∧Below w.heap.size w w' :=
 (Rz hx hy w).mono fun _ _ ⟨he,_,_,_,hw⟩=>⟨he,hw ▸ aj (aj (aj (b0 w) _) _) _⟩
end dec
namespace un
open Go.RowKit dec
theorem Gx (base:Nat) (v:Value) (l:List Fa) (w:World) (hO:Own w base v l) (hn:l.length<5864062014805) (hb:base≤w.heap.size) :
    Calls Tryz.prog 244 #[v,.func (.func 245) #[] #[]] w fun e w' => e=.returned (.tuple #[])∧∃ a cap s,v=.slice a l.length cap∧s.Perm l∧oq s∧Sl w' a l.length cap s∧(∀ x,a=some x→base≤x.block∧∃ cs fr,w'.heap[x.block]? = some (.cells cs 82 fr))∧Below base w w':=by
 have C:=Hy (fun W h1 h2 h3 h4=>tY base v l w.heap.size W h1 hn h2 h3 h4);have hO1:=hO.keeps (aj (b0 w) (.cells #[.func (.func 245) #[] #[]] 234));have hlt:∀ g,v.ownBlock=some g→w.heap.size≠g:=fun g hg=>by have:=(hO.lt g hg).2;omega
 have hb1:Below base w (w.alloc (.cells #[.func (.func 245) #[] #[]] 234)):=(aj (b0 w) _).mono hb;have O:=Hy hO1;have L:=Hy hlt;have B:=Hy hb1;clear hO hO1 hlt hb1
 go_enter Tryz.func244,Tryz.ntmps244
 go_wp2_with fail;refine (C.o _ O.o (by simp;omega) (by simp [go_sem]) L.o).mono ?_;rintro e w1 ⟨rfl,a,cap,s,rfl,h1,h2,h3,h4,h5⟩;go_wp2_with fail;go_end0;exact ⟨rfl,a,cap,s,rfl,h1,h2,h3,h4,B.o.trans h5⟩
def Out (base:Nat) (w:World) (v:Value) (l:List Fa):Prop:=∃ a cap,v=.slice a l.length cap∧Sl w a l.length cap l∧∀ x,a=some x→base≤x.block∧∃ cs fr,w.heap[x.block]? = some (.cells cs 82 fr)
theorem Out.nil (base:Nat) (w:World):Out base w (.slice none 0 0) []:=⟨none,0,rfl,.nil _,fun _ h=>by cases h⟩
theorem zH {mb:Nat} {w wr:World} (h:Below mb w wr) (e:w.heap.size=mb) (o:Obj):Below mb w (wr.alloc o):=h.alloc (by have:=h.size;omega) o
theorem World.qC (w:World) {row:Option Nat} : w.grownBy w.drew row:=⟨rfl,rfl,rfl,Nat.le_refl _,fun _ _ _=>rfl⟩
theorem below_grown {W w':World} {mb:Nat} (h:W.grownBy w' (some mb)) (hm:mb≤W.heap.size):Below mb W w':=⟨h.os,h.tape,h.output,h.size,fun i hi=>h.block i (by omega) (by simp;omega)⟩
theorem uZ {W w w':World} {mb:Nat} (h:Below mb W w) (hg:w.grownBy w' none) (hm:W.heap.size=mb):Below mb W w':=h.trans ⟨hg.os,hg.tape,hg.output,hg.size,fun i hi=>hg.block i (by have:=h.size;omega) (by simp)⟩
theorem Rp {W w w':World} {mb r:Nat} (h:Below mb W w) (hg:w.grownBy w' (some r)) (hm:W.heap.size=mb) (hr:mb≤r):Below mb W w':=h.trans ⟨hg.os,hg.tape,hg.output,hg.size,fun i hi=>hg.block i (by have:=h.size;omega) (by simp;omega)⟩
theorem VT {w w':World} {r:Nat} {v:Value} {l:List Fa} (h:Own w (r+1) v l) (hg:w.grownBy w' (some r)):Own w' (r+1) v l:=by
 obtain ⟨h1,h2⟩:=h;refine ⟨h1,?_⟩;rcases h2 with h0 | ⟨g,cap,cur,e,hbg,hh,r⟩
 ·exact .inl h0
 refine .inr ⟨g,cap,cur,e,hbg,?_,r⟩;have:g<w.heap.size:=by
  rcases Nat.lt_or_ge g w.heap.size with h' | h'
  ·exact h'
  rw [Array.getElem?_eq_none h'] at hh;cases hh
 rw [hg.block _ this (by simp;omega)];exact hh
theorem j5 {mb:Nat} {w wr w':World} (h:Below mb w wr) (e:w.heap.size=mb) (b:Below wr.heap.size wr w'):Below mb w w':=h.trans (b.mono (by have:=h.size;omega))
theorem Ef {w:World} {b:Nat} {l:List Fa} {j:Nat} {x:Fa} (h:j<l.length) (e:gt l j=x) (M:Mp w b (l.take j++[x])):Mp w b (l.take (j+1)):=by
 rw [gY h,e];exact M
theorem Lh {l:List Fa} {j:Nat} (h:j<l.length) (hw:word (gt l j).1=false):wds l=false:=by
 cases hv:wds l
 ·rfl
 rw [D9.1 hv _ (jH h)] at hw;cases hw
theorem Li {l:List Fa} {j:Nat} (h:j<l.length) (h1:wds (l.take j)=true) (hw:word (gt l j).1=true):wds (l.take (j+1))=true:=by
 rw [gY h,Gq,h1];simp [wds,hw]
theorem TV {l:List Fa} (h:wds l=false):nE l=1∧nL l=[]:=by
 have e:nE l=1:=by unfold nE;rw [h];rfl
 exact ⟨e,by unfold nL;rw [e];rfl⟩
theorem TW {l:List Fa} (h:wds l=true) (hf:kM l=true):nE l=70∧nL l=[]:=by
 have e:nE l=70:=by unfold nE;rw [h,hf];rfl
 exact ⟨e,by unfold nL;rw [e];rfl⟩
theorem Hl (a:Option Addr) (n cap:Nat) (l:List Fa) (w:World) (hS:Sl w a n cap l) (hx:∀ x ∈ l,-9223372036854775808≤x.2∧x.2≤9223372036854775807) (hlen:l.length<5864062014805) :
    Calls Tryz.prog 181 #[.slice a n cap] w fun e w' => ∃ v,e=.returned (.tuple #[v,.int .i64 (nE l)])∧Out w.heap.size w' v (nL l)∧Below w.heap.size w w':=by
 have W1:=Hy wh;have S0:=Hy hS;have X0:=Hy hx;have N0:=Hy hlen;have M0:=Hy (Mp.made w);have B0:=Hy (aj (b0 w) (.map #[] 0));have hmm:=@run_makeMap Tryz.prog;have hmm:=@run_makeMap Tryz.prog;have hmm:=@run_makeMap Tryz.prog;have hmm:=@run_makeMap Tryz.prog;have hmm:=@run_makeMap Tryz.prog;have hmm:=@run_makeMap Tryz.prog;have hmm:=@run_makeMap Tryz.prog;have hmm:=@run_makeMap Tryz.prog;have hmm:=@run_makeMap Tryz.prog;have hmm:=@run_makeMap Tryz.prog;have hmm:=@run_makeMap Tryz.prog;have hmm:=@run_makeMap Tryz.prog;clear hS hx hlen
 go_enter Tryz.func181,Tryz.ntmps181
 go_wp2_with fail;generalize hmb:w.heap.size=mb at *;have Mge:=Hy hmb;clear hmb
 go_loopw [2,14] (fun vu vi wr => ∃ j:Nat,vu=.slice none 0 0∧vi=.int .i64 (j:Nat)∧Hid (j≤n)∧Hid (wds (l.take j)=true)∧Hid (Mp wr mb (l.take j))∧Hid (Below mb w wr)) (fun _ vi _=>n - (intOf vi).toNat)
 case atStart=>exact ⟨0,rfl,rfl,Hy zl,Hy rfl,M0,B0⟩
 case round =>
  obtain ⟨j,rfl,rfl,hj,hd,hM,hb⟩:=hrel;by_cases hc:j<n
  ·have hln:=Hy (show j<l.length by have:=S0.o.hn;omega);obtain ⟨bk,off,rfl,hC⟩:=(S0.o.keeps (hb.o.mono (by have:=Mge.o;omega))).hat.resolve_left (by have:=hln.o;omega);obtain ⟨c0,c1⟩:=hC j hln.o;have q2:decide ((j:Int)<(n:Int))=true:=dT (by omega);have q3:j<n:=hc;have f4:=Hy (aP (j:=j) (by have:=S0.o.hcap;have:=S0.o.hmax;omega));have hwn:=Hy (Li hln.o hd.o);have hwt:=Hy (Lh hln.o);have hxr:=Hy (X0.o _ (jH hln.o));have hxx:=Hy (rfl:gt l j=gt l j);clear hC;generalize hgx:(gt l j)=x at c0 c1 hwn hwt hxr;replace hxx:=Hy hgx;clear hgx;have HX:=Hy (Bw.new wr x 82);cases hw:word x.1
   ·have hr:=Hy (TV (hwt.o hw));go_wp2_with fail;refine (W1.o _ _).mono ?_;rintro e w' ⟨rfl,rfl⟩;go_wp2_with fail
    go_ret2
    refine ⟨.slice none 0 0,by rw [hr.o.1];rfl,by rw [hr.o.2];exact Out.nil _ _,?_⟩;have:=zH hb.o Mge.o (.cells #[.string x.1,.int .i64 x.2] 82);exact Mge.o ▸ this
   have HW:=Hy (hwn.o hw);have hsz:=Hy (show x.1.size≤maxLen by have:=nK hw;unfold maxLen;omega);have OC:=Hy (fun W=>Xn x.2 W hxr.o.1 hxr.o.2);have AC:=Hy (fun W=>WX (x:=dec.W (ex (l.take j) x.1)) (y:=dec.W x.2) (a:=ex (l.take j) x.1) (b:=x.2) rfl rfl W);clear hwn hwt;go_wp2_with fail;refine (W1.o _ _).mono ?_;rintro e w' ⟨rfl,rfl⟩;go_wp2_with fail;have M7:=Hy ((hM.o.keeps (aj (b0 wr) (.cells #[.string x.1,.int .i64 x.2] 82))).grown (World.qC (row:=none) _) (by simp));have C0:=Hy (HX.o.c0);have C1:=Hy (HX.o.c1);have G0:=Hy (show wr.heap.size≠mb by have:=hM.o.lt;omega);have hbn:=Hy (zH hb.o Mge.o (.cells #[.string x.1,.int .i64 x.2] 82));replace hb:=hbn;clear hbn HX hM c0 c1 S0;generalize wr.heap.size=g6 at *;generalize wr.alloc (.cells #[.string x.1,.int .i64 x.2] 82)=W at *;have GD:=Hy (World.qC (row:=some mb) W);have MW:=Hy (show mb≤W.heap.size from Nat.le_of_lt M7.o.lt);refine wp_region_noPanic ?_;refine wp_region_held_drew (S:=fun w' => W.grownBy w' (some mb)) (by kernel_rfl) GD.o (fun hH=>?_);refine au 0 22 ?_ hH (fun w' hS=>?_) ?_;rotate_left;(·go_simp;try rfl);simp only [sz];refine au 1 23 ?_ hH (fun w' hS=>?_) ?_;rotate_left;(·go_simp;try rfl);simp only [sz];refine au 2 24 ?_ hH (fun w' hS=>?_) ?_;rotate_left;(·have e0:=Ig hS G0.o C0.o;go_simp;try rfl);simp only [sz];refine au 3 25 ?_ hH (fun w' hS=>?_) ?_;rotate_left;(·go_simp;try rfl);simp only [sz];refine au 4 26 ?_ hH (fun w' hS=>?_) ?_;rotate_left;(·go_simp;try rfl);simp only [sz];refine au 5 27 ?_ hH (fun w' hS=>?_) ?_;rotate_left;(·have e0:=Ig hS G0.o C0.o;go_simp;try rfl);simp only [sz];refine au 7 29 ?_ hH (fun w' hS=>?_) ?_;rotate_left;(·go_simp;try rfl);simp only [sz];refine au 8 30 ?_ hH (fun w' hS=>?_) ?_;rotate_left;(·have e1:=Ig hS G0.o C1.o;go_simp;try rfl);simp only [sz];refine dN (i:=6) (j:=9) rfl rfl (by kernel_rfl) rfl rfl (fun K hK=>?_) (fun K hK=>?_)
   ·have hlk:=M7.o.look x.1 hsz.o;go_simp;refine hK.o _ _ hH (fun hH=>?_);clear hK K hlk;refine aA 9 (fun K hK=>?_);go_simp;refine (OC.o _).mono ?_;rintro e w6 ⟨rfl,b6⟩;replace M7:=Hy (M7.o.keeps b6);refine hK.o _ _ (hH.andThen (gT b6) (fun j hj=>by cases hj)) (fun hH=>?_);clear hK K b6;refine aA 10 (fun K hK=>?_);go_simp;refine (AC.o _).mono ?_;rintro e w8 ⟨rfl,b8⟩;have M8:=Hy (M7.o.keeps b8);refine hK.o _ _ (hH.andThen (gT b8) (fun j hj=>by cases hj)) (fun hH=>?_);clear hK K b8;refine aA 11 (fun K hK=>?_);refine Af (.tmp 22) (.tmp 24) (.tmp 32) rfl mb (l.take j) rfl M8.o x rfl rfl hsz.o (by have:=N0.o;rw [List.length_take];unfold maxLen;omega) ?_;intro w9 M9 g9;refine hK.o _ _ (hH.andThen g9 (fun j hj=>.inr hj)) (fun hH=>?_);clear hK K g9;refine wpAnyH_done (by kernel_rfl) ?_ _;refine vS ?_;have hbn:=Hy (hb.o.trans (below_grown hH MW.o));clear hH;go_wp2_with fail;refine ⟨⟨j+1,rfl,congrArg (Value.int .i64) f4.o,Hy hc,HW,Hy (Ef hln.o hxx.o M9),hbn⟩,aU hc f4.o⟩
   go_simp;refine (OC.o _).mono ?_;rintro e w6 ⟨rfl,b6⟩;replace M7:=Hy (M7.o.keeps b6);refine hK.o _ _ (hH.andThen (gT b6) (fun j hj=>by cases hj)) (fun hH=>?_);clear hK K b6;refine aA 6 (fun K hK=>?_);have hlk:=M7.o.look x.1 hsz.o;go_simp;refine hK.o _ _ hH (fun hH=>?_);clear hK K hlk;refine aA 10 (fun K hK=>?_);go_simp;refine (AC.o _).mono ?_;rintro e w8 ⟨rfl,b8⟩;have M8:=Hy (M7.o.keeps b8);refine hK.o _ _ (hH.andThen (gT b8) (fun j hj=>by cases hj)) (fun hH=>?_);clear hK K b8;refine aA 11 (fun K hK=>?_);refine Af (.tmp 22) (.tmp 24) (.tmp 32) rfl mb (l.take j) rfl M8.o x rfl rfl hsz.o (by have:=N0.o;rw [List.length_take];unfold maxLen;omega) ?_;intro w9 M9 g9;refine hK.o _ _ (hH.andThen g9 (fun j hj=>.inr hj)) (fun hH=>?_);clear hK K g9;refine wpAnyH_done (by kernel_rfl) ?_ _;refine vS ?_;have hbn:=Hy (hb.o.trans (below_grown hH MW.o));clear hH;go_wp2_with fail;refine ⟨⟨j+1,rfl,congrArg (Value.int .i64) f4.o,Hy hc,HW,Hy (Ef hln.o hxx.o M9),hbn⟩,aU hc f4.o⟩
  have hjn:j=n:=by have:=hj.o;omega
  have htl:l.take j=l:=by rw [hjn,← S0.o.hn,List.take_length]
  have q1:decide ((j:Int)<(n:Int))=false:=dF (by omega);have hW:=Hy (show wds l=true by rw [← htl];exact hd.o);subst hjn;have hM2:=hM.o;rw [htl] at hM2;obtain ⟨D,hown0,hsay0⟩:=hM2;have hown:=Hy hown0;have hsay:=Hy hsay0;have hmr:=Hy hown0.lt;clear hown0 hsay0 hM hd htl hj hc M0 B0 hmm;go_wp2_with (first | (at_range;refine wpList_range_own _ rfl _ 244 rfl 9 221 K9 yB _ mb l.length D rfl hown.o ?_;intro w0 hrg0 hg0 hs0) | fail)
  go_frame
  have hb2:=Hy (uZ hb.o hg0 Mge.o);have hsz2:=Hy hs0;have R0:=Hy hrg0;have hcn:=Hy (hown.o.size_le);clear hrg0 hg0 hs0 hown hb;generalize wr.heap.size=r at *
  go_loopw [2] (fun vu wx => ∃ (o:List Fa) (left:Lit→Bool) (cnt:Nat),Hid (Own wx (r+1) vu o)∧Hid (wx.ranges Tryz.prog 9 jq mb r l.length D left cnt)∧Hid (Pk l left o)∧Hid (∀ z,left z=true→Maps.has D z=true)∧Hid (o.length+cnt≤l.length)∧Hid (Below mb w wx)∧Hid (r+1≤wx.heap.size)) (fun _ wx=>wx.rangeLeft mb r)
  case atStart=>exact ⟨[],_,_,Hy (Own.nil _ _),R0,Hy (Pk.start hsay.o),Hy (fun _ h=>h),Hy (by simpa using hcn.o),hb2,Hy (by have:=hsz2.o;omega)⟩
  case round =>
   obtain ⟨o,left,cnt,hO,hR,hP,hL,hC,hB,hZ⟩:=hrel;go_wp2_with (first | (at_next;refine vw _ rfl _ rfl mb r l.length D l hsay.o left cnt rfl hR.o ?_ ?_) | fail)
   ·intro hc0 hl0;have hl:=Hy hl0;have hlen:=Hy (hP.o.len hl0);have hall:=hP.o.all hl0;have hE:=Hy (show nE l=if 4<o.length then 2 else 0 by unfold nE;rw [hW.o,hall,if_pos rfl,if_neg Bool.false_ne_true,hlen.o]);have hol:=Hy (show o.length<5864062014805 by have:=N0.o;have:=hC.o;omega);have SC:=Hy (fun W (h:Below wr.heap.size wr W) h1=>Gx (r+1) u2 o W (hO.o.keeps h) hol.o h1);obtain ⟨a2,cap2,rfl,S2⟩:=hO.o.sl;have S2h:=Hy S2;clear S2 hc0 hl0 hall hR hL hC hO;by_cases h4:4<o.length
    ·have q4:decide (4<(o.length:Int))=true:=dT (by omega);rw [if_pos h4] at hE;go_wp2_with fail
     go_ret2
     exact ⟨.slice none 0 0,by rw [hE.o];rfl,by unfold nL;rw [hE.o];exact Out.nil _ _,Mge.o ▸ hB.o⟩
    have q4:decide (4<(o.length:Int))=false:=dF (by omega);rw [if_neg h4] at hE;go_wp2_with fail;refine (SC.o _ (b0 _) hZ.o).mono ?_;rintro e w9 ⟨rfl,a3,cap3,s3,hv,hp3,hs3,hS3,hfr3,hb3⟩;cases hv;have hz3:=hP.o.done hl.o hp3 hs3;have hn3:=Hy (show nL l=s3 by unfold nL;rw [if_pos hE.o,hz3]);have hl3:=Hy (show o.length=s3.length from hp3.length_eq.symm);have HS3:=Hy hS3;have HF3:=Hy (show ∀ x,a2=some x→w.heap.size≤x.block∧∃ cs fr,w9.heap[x.block]? = some (.cells cs 82 fr) from fun x hx=>⟨by have h1:=(hfr3 x hx).1;have h2:=hmr.o;have h3:=Mge.o;omega,(hfr3 x hx).2⟩);have HB3:=Hy (Mge.o ▸ hB.o.trans (hb3.mono (by have:=hmr.o;omega)):Below w.heap.size w w9);clear hS3 hfr3 hb3 hz3;go_wp2_with fail
    go_ret2
    exact ⟨.slice a2 o.length cap2,by rw [hE.o];rfl,by rw [hn3.o];exact ⟨a2,cap2,by rw [← hl3.o],by rw [← hl3.o];exact HS3.o,HF3.o⟩,HB3.o⟩
   intro s w2 cnt2 hss hls hrg2 hlt hg2 hs2 hen;have hss':=Hy hss;have hls':=Hy hls;have R2:=Hy hrg2;have hlt':=Hy hlt;have Z2:=Hy (show r+1≤w2.heap.size by rw [hs2];exact hZ.o);have B2:=Hy (Rp hB.o hg2 Mge.o (by have:=hmr.o;omega));have O2:=Hy (VT hO.o hg2);have hin:=Hy (WT s X0.o N0.o);have DC:=Hy (fun W=>xA (y:=.agg #[.int .i64 (hi (ex l s)),.int .u64 (lo (ex l s))]) (a:=ex l s) 1 rfl hin.o W (by decide) (by decide));rw [KR,uV] at DC;have HF:=Hy (fun h:far (ex l s)=true=>TW hW.o ((qz l).2 ⟨s,h⟩));have HS:=Hy (fun (h1:far (ex l s)=false) (h2:ex l s=0)=>hP.o.skip hss h1 h2);have HP:=Hy (fun (h1:far (ex l s)=false) (h2:ex l s≠0)=>hP.o.push hss hls h1 h2);have hcnt:=Hy hR.o.left_eq;have R1:=Hy zf;clear hss hls hrg2 hlt hg2 hs2 hR hB hO hZ hP;generalize hl2:(fun z=>left z && !z.sameKey (kS s))=left2 at *;have hL2:=Hy (fun z (h:left2 z=true)=>hL.o z (by rw [← hl2] at h;simp at h;exact h.1));clear hl2 hL;generalize ex l s=x at *;have R3:=Hy (kr R2.o (aj (b0 w2) (.cells #[.int .i64 (hi x),.int .u64 (lo x)] 221)));have O3:=Hy (O2.o.keeps (aj (b0 w2) (.cells #[.int .i64 (hi x),.int .u64 (lo x)] 221)));have B3:=Hy (j5 B2.o Mge.o (aj (b0 w2) (.cells #[.int .i64 (hi x),.int .u64 (lo x)] 221)));have Z3:=Hy (show r+1≤(w2.alloc (.cells #[.int .i64 (hi x),.int .u64 (lo x)] 221)).heap.size by have:=Z2.o;simp;omega);clear R2 O2 B2 Z2;have hol:=Hy (show o.length<5864062014805 by have:=N0.o;have:=hC.o;omega);cases hrg:rg x
   ·have hr:=Hy (HF.o (Q6 hrg));rw [hrg] at DC;clear HS HP HF;go_wp2_with fail;refine (DC.o _).mono ?_;rintro e w4 ⟨rfl,b4⟩;have B4:=Hy (Mge.o ▸ j5 B3.o Mge.o b4:Below w.heap.size w w4);clear b4;go_wp2_with fail
    go_ret2
    exact ⟨.slice none 0 0,by rw [hr.o.1];rfl,by rw [hr.o.2];exact Out.nil _ _,B4.o⟩
   rw [hrg,vY hrg] at DC;cases hf:far x
   ·by_cases h0:x=0
    ·have HP2:=Hy (HS.o hf h0);have q5:(x != 0)=false:=by rw [bne_eq_false_iff_eq];exact h0
     replace h0:=Hy h0;clear HS HP HF;go_wp2_with fail;refine (DC.o _).mono ?_;rintro e w4 ⟨rfl,b4⟩;have B4:=Hy (j5 B3.o Mge.o b4);have R4:=Hy (kr R3.o b4);have O4:=Hy (O3.o.keeps b4);have Z4:=Hy (L_f Z3.o b4.size);clear b4 B3 R3 O3;go_wp2_with fail;refine (R1.o _ _).mono ?_;rintro e w5 ⟨rfl,rfl⟩;go_wp2_with fail;go_roundw
     case rel =>
      exact ⟨o,left2,cnt2,O4,R4,HP2,hL2,Hy (by have:=hC.o;have:=hlt'.o;omega),B4,Z4⟩
     case measure =>
      rw [R4.o.left_eq,hcnt.o];exact hlt'.o
    have HP2:=Hy (HP.o hf h0);have q5:(x != 0)=true:=by rw [bne_iff_ne];exact h0
    replace h0:=Hy h0;clear HS HP HF;go_wp2_with fail;refine (DC.o _).mono ?_;rintro e w4 ⟨rfl,b4⟩;have B4:=Hy (j5 B3.o Mge.o b4);have R4:=Hy (kr R3.o b4);have O4:=Hy (O3.o.keeps b4);have Z4:=Hy (L_f Z3.o b4.size);clear b4 B3 R3 O3;go_wp2_with fail;refine (R1.o _ _).mono ?_;rintro e w5 ⟨rfl,rfl⟩;go_wp2_with (at_builtin;refine jF (.tmp 55) (.tmp 59) rfl ?_;refine eP _ rfl (.tmp 55) (.tmp 59) rfl (r+1) _ _ rfl (O4.o.keeps (aj (b0 _) _)) w4.heap.size s x rfl (Bw.new w4 (s,x) 82) hol.o (by have:=Z4.o;simp;omega) ?_;intro v2 w6 O6 b6);have R6:=Dn (kr R4.o (aj (b0 w4) (.cells #[.string s,.int .i64 x] 82))) b6 (by have:=hmr.o;omega) (by omega);have B6:=Hy ((j5 B4.o Mge.o (aj (b0 w4) (.cells #[.string s,.int .i64 x] 82))).trans (b6.mono (by have:=hmr.o;omega)));have Z6:=Hy (show r+1≤w6.heap.size from L_f (by have:=Z4.o;simp;omega) b6.size);have C6:=Hy (show (o++[(s,x)]).length+cnt2≤l.length by have:=hC.o;have:=hlt'.o;rw [L_a,List.length_singleton];omega);replace O6:=Hy O6;replace R6:=Hy R6;clear b6;go_wp2_with fail;go_roundw
    case rel =>
     exact ⟨o++[(s,x)],left2,cnt2,O6,R6,HP2,hL2,C6,B6,Z6⟩
    case measure =>
     rw [R6.o.left_eq,hcnt.o];exact hlt'.o
   have hr:=Hy (HF.o hf);clear HS HP HF;go_wp2_with fail;refine (DC.o _).mono ?_;rintro e w4 ⟨rfl,b4⟩;have B4:=Hy (Mge.o ▸ j5 B3.o Mge.o b4:Below w.heap.size w w4);clear b4;go_wp2_with fail;refine (R1.o _ _).mono ?_;rintro e w5 ⟨rfl,rfl⟩;go_wp2_with fail
   go_ret2
   exact ⟨.slice none 0 0,by rw [hr.o.1];rfl,by rw [hr.o.2];exact Out.nil _ _,B4.o⟩
end un
namespace pa
open Go.RowKit dec
theorem DY (n:Int) : -9223372036854775808≤IntKind.i64.wrap n∧IntKind.i64.wrap n≤9223372036854775807:=by
 rw [IntKind.wrap_i64];omega
def Inx (x:un.Fa):Prop:=-9223372036854775808≤x.2∧x.2≤9223372036854775807
theorem KL {l r:List Tk} {v:un.Fa} (h:fac l=.ok v r):Inx v:=by
 obtain ⟨_,q,h1,h2⟩:=bind_ok h;split at h2
 ·split at h2
  ·obtain ⟨_,q',h3,h4⟩:=bind_ok h2;cases h4;exact DY _
  obtain ⟨_,q',h3,h4⟩:=bind_ok h2;cases h4;exact DY _
 cases h2;exact ⟨by show (-9223372036854775808:Int)≤1;decide,by show (1:Int)≤9223372036854775807;decide⟩
theorem Fg {α:Type} {one:List Tk→Rs α} {p:α→Prop} {s:ByteArray} (h1:∀ l v r,one l=.ok v r→p v∧r.length<l.length):∀ (f:Nat) (x:List α) (l:List Tk) (v:List α) (r:List Tk),(∀ y ∈ x,p y)→more one s f x l=.ok v r→(∀ y ∈ v,p y)∧v.length+r.length≤x.length+l.length
 | 0,_,_,_,_,_,h=>by cases h
 | f+1,x,l,v,r,hx,h=>by
  unfold more at h
  split at h
  ·rename_i t
   obtain ⟨y,q,h2,h3⟩:=bind_ok h
   obtain ⟨h4,h5⟩:=h1 _ _ _ h2
   have h6:=Fg h1 f _ _ _ _ (by intro z hz;rw [List.mem_append,List.mem_singleton] at hz;rcases hz with hz | rfl <;> first | exact hx _ hz | exact h4) h3
   have:=bf t
   refine ⟨h6.1,?_⟩
   have h7:=h6.2
   rw [L_a,List.length_singleton] at h7
   omega
  ·cases h
   exact ⟨hx,Nat.le_refl _⟩
theorem Ua {l r:List Tk} {s:ByteArray} {v:List un.Fa} (h:lst fac s l=.ok v r):(∀ y ∈ v,Inx y)∧v.length+r.length≤l.length:=by
 obtain ⟨y,q,h2,h3⟩:=bind_ok h;have:=Fg (p:=Inx) (fun l v r h=>⟨KL h,nG h⟩) _ _ _ _ _ (by intro z hz;rw [List.mem_singleton] at hz;subst hz;exact KL h2) h3;refine ⟨this.1,?_⟩;have h4:=this.2;have:=nG h2;rw [List.length_singleton] at h4;omega
theorem Vo {base:Nat} {w:World} {v:Value} {l:List un.Fa} (h:un.Out base w v l):Uv base w v l:=by
 obtain ⟨a,cap,rfl,S,hf⟩:=h;refine ⟨a,cap,rfl,?_⟩;rcases S.hat with h0 | ⟨b,off,rfl,hC⟩
 ·exact .inl h0
 exact .inr ⟨b,off,rfl,(hf _ rfl).1,hC,(hf _ rfl).2⟩
theorem Uv.less {C C':Nat} {w:World} {v:Value} {l:List un.Fa} (h:Uv C w v l) (hC:C'≤C):Uv C' w v l:=by
 obtain ⟨ua,uc,e,U⟩:=h;exact ⟨ua,uc,e,U.less hC⟩
theorem EX {B:Nat} {w w':World} (M:Mv w.heap.size B w w') {b o:Nat} {v:Value} (hb:b≠B) (hc:w.cell? ⟨b,o,none⟩=some v):w'.cell? ⟨b,o,none⟩=some v:=(World.cell?_of_block (w:=w) (M.block b (block_lt_of_cell hc) hb)).trans hc
theorem Vz {B:Nat} {w w':World} {a:Option Addr} {n cap:Nat} {l:List un.Fa} {base:Nat} (h:un.Sl w a n cap l) (M:Mv w.heap.size B w w') (hB:B<base) (hf:∀ x,a=some x→base≤x.block):un.Sl w' a n cap l :=
 { h with hat:=h.hat.imp id fun ⟨b,off,e,hC⟩=>⟨b,off,e,fun j hj=>⟨EX M (by have:=hf _ e;simp only at this;omega) (hC j hj).1,EX M (by have:=hf _ e;simp only at this;omega) (hC j hj).2⟩⟩ }
theorem LY {base:Nat} {w:World} {v:Value} {l:List un.Fa} (h:un.Own w base v l):∀ a n cap,v=.slice a n cap→∀ x,a=some x→base≤x.block:=by
 intro a n cap hv x hx;rcases h.o with ⟨rfl,_⟩ | ⟨g,c,rfl,hb,_⟩
 ·cases hv;cases hx
 cases hv;cases hx;exact hb
theorem vB (B:Nat) (l:List Tk) (w:World) (h:Ps w B l) (r:Rs (List un.Fa)) (hr:uni l=r) (hne:r≠.out) :
    Calls Tryz.prog 131 #[.pointer (some ⟨B,0,none⟩)] w (Pst B Uv r w):=by
 have P:=Hy h;have M:=Hy (Mv.refl w.heap.size B w);have NE:=Hy hne;unfold uni at hr;have HR:=Hy hr;clear h hne hr;have C1:=Hy (gH B l w P.o);have F1:=tf2;have F2:=jv;cases ht:isT ⟨#[91]⟩ l
 ·replace HR:=HR.o;rw [ht,if_neg (by decide)] at HR;replace HR:=Hy HR;have HT:=Hy ht;clear ht
  go_enter Tryz.func131,Tryz.ntmps131
  go_wp2_with fail;refine (C1.o).mono ?_;rintro e w1 ⟨rfl,b⟩;have mm:=Mv.of (B:=B) b;replace M:=Hy (M.o.next mm);replace P:=Hy (P.o.keeps b);clear mm b;go_wp2_with fail;refine (aK B ⟨#[91]⟩ l w1 P.o HT.o).mono ?_;rintro e w2 ⟨rfl,pp,mm⟩;replace M:=Hy (M.o.next mm);replace P:=Hy pp;clear pp mm;go_wp2_with fail;go_ret;exact aO HR.o.symm ⟨none,0,rfl,Us.nil _ _ _⟩ P.o M.o
 replace HR:=HR.o;rw [ht,if_pos rfl] at HR;replace HR:=Hy HR;have HT:=Hy ht;clear ht;generalize (hd l).k=xk at *;generalize (hd l).t=xt at *;generalize (hd l).a=xa at *
 go_enter Tryz.func131,Tryz.ntmps131
 go_wp2_with fail;refine (C1.o).mono ?_;rintro e w1 ⟨rfl,b⟩;have mm:=Mv.of (B:=B) b;replace M:=Hy (M.o.next mm);replace P:=Hy (P.o.keeps b);clear mm b;go_wp2_with fail;refine (aV B ⟨#[91]⟩ l w1 P.o HT.o).mono ?_;rintro e w2 ⟨rfl,pp,mm⟩;replace M:=Hy (M.o.next mm);replace P:=Hy pp;clear pp mm;have HL:=Hy P.o.tl.ln;have hlt2:=Hy P.o.lt;go_wp2_with fail;refine (MF B ⟨#[42]⟩ l.tail _ P.o _ rfl (vW (fun _ _ _=>nG) pF _)).mono ?_;rintro e w3 h3;rcases hG3:lst fac ⟨#[42]⟩ l.tail with _ | ⟨v3,l3⟩ | ⟨a3,c3,l3⟩
 ·exact bou HR hG3 NE
 rotate_left
 ·rw [hG3] at h3;obtain ⟨rfl,pp,mm⟩:=h3;unfold thr;have hno:=bno HR hG3;have PP:=Hy pp;have MM:=Hy (M.o.next mm);clear pp mm hG3;go_wp2_with fail;exact ⟨rfl,aD hno.o PP.o MM.o⟩
 rw [hG3] at h3;obtain ⟨u3,rfl,vv,pp,mm⟩:=h3;replace HR:=bok HR hG3;replace M:=Hy (M.o.next mm);replace P:=Hy pp;clear pp mm;have hin:=Hy (Ua hG3);clear hG3;have V3:=Hy vv;clear vv;have hlt3:=Hy (show B<w2.heap.size from hlt2.o);have hfr0:=LY V3.o;obtain ⟨ua,uc,rfl,S3⟩:=V3.o.sl;have hfr:=Hy (fun x hx=>hfr0 ua _ uc rfl x hx);clear hfr0;replace V3:=Hy S3;clear S3;go_wp2_with fail;refine (aW B ⟨#[93]⟩ l3 _ P.o).mono ?_;rintro e w4 h4;rcases hG4:need ⟨#[93]⟩ l3 with _ | ⟨v4,l4⟩ | ⟨a4,c4,l4⟩
 ·exact bou HR hG4 NE
 rotate_left
 ·rw [hG4] at h4;obtain ⟨rfl,pp,mm⟩:=h4;unfold thr;have hno:=bno HR hG4;have PP:=Hy pp;have MM:=Hy (M.o.next mm);clear pp mm hG4;go_wp2_with fail;exact ⟨rfl,aD hno.o PP.o MM.o⟩
 rw [hG4] at h4;obtain ⟨u4,rfl,vv,pp,mm⟩:=h4;replace HR:=bok HR hG4;replace M:=Hy (M.o.next mm);replace V3:=Hy (Vz V3.o mm hlt3.o hfr.o);replace P:=Hy pp;clear pp mm hG4;obtain rfl:u4=.tuple #[]:=vv;go_wp2_with fail;refine (un.Hl ua v3.length uc v3 w4 V3.o (fun x hx=>hin.o.1 x hx) (by have:=hin.o.2;have:=HL.o;omega)).mono ?_;have HR':=HR.o;rintro e w5 ⟨u5,rfl,U5,b5⟩;have P5:=Hy (P.o.keeps b5);have hsz:=Hy (M.o.size);have M5:=Hy (M.o.bG b5);have U6:=Hy (Uv.less (Vo U5) hsz.o);clear b5 U5;by_cases hz:un.nE v3=0
 ·have q1:(un.nE v3 != 0)=false:=by simp [hz]
  rw [if_pos hz] at HR';have HR2:=Hy HR';clear HR' hz;generalize un.nE v3=ne at *;go_wp2_with fail;go_ret;exact aO HR2.o.symm U6.o P5.o M5.o
 have q1:(un.nE v3 != 0)=true:=by simp [hz]
 rw [if_neg hz] at HR';have HR2:=Hy HR';clear HR' hz;generalize un.nE v3=ne at *;go_wp2_with fail;exact ⟨rfl,aD HR2.o.symm P5.o M5.o⟩
end pa
end Go.Proofs.YtbahfelnbofjjaaGreatDoor
