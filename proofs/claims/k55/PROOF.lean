import PyProof.Rows.All
import Wide.All
import OpenK.AllK
import Wide.FinOn
import Lean
import PyProof.EqAt
import PyProof.EqKinds
import PyProof.TupleCall
import PyProof.CollectIter
import PyProof.JoinWalk
import PyProof.StrOps
import PyProof.ListOps
import PyProof.StrLawsJoin
import KE.KRevIter
import PyProof.StrLawsTight
import PyProof.StrLawsChain
import KE.KIntText
import KE.IntTextLaws
import PyProof.ListStr
import KE.KDictLaws
import KE.KDictList
import PyProof.Rows.SetFrom
import PyProof.FitsReplace
import PyProof.StrLawsFirst
import PyProof.Rows.StrNews2
import KE.KEqDict
import PyProof.Rows.SumAny
import PyProof.Rows.CallKwBuiltin
import PyProof.EnumMake
import PyProof.TupleIter
import PyProof.Rows.TupIter
import PyProof.FactsAll.range_2
import PyProof.AutoSeq1
import PyProof.Rows.Range3
import PyProof.ZipIter
import PyProof.Rows.SortRuns
import PyProof.Rows.SortPure
import PyProof.Rows.SortShell
import PyProof.Rows.SortStr
import PyProof.MeetsSeq3
import KE.KSortTup
import KE.KSortKey
import PyProof.MeetsDictList
import PyProof.CollectStr
import PySem.Challenge.RW_quiltlaw_k55_whole_sizes_and_costs
set_option bootstrap.genMatcherCode false
set_option tactic.hygienic false
def nop(x:Lean.Syntax):Lean.Syntax:=x.rewriteBottomUp λ|.atom _ v=>.atom .none v|.ident _ r n p=>.ident .none r n p|.node _ k a=>.node .none k a|y=>y
local macro_rules|`($m:declModifiers theorem $i:declId $s:declSig $v:declVal)=>do
 if i.raw.getPos?.isNone then Lean.Macro.throwUnsupported
 return nop (<-`($m:declModifiers theorem $i $s:declSig $v:declVal))
local macro_rules|`($m:declModifiers def $i:declId $s:optDeclSig $v:declVal)=>do
 if m.raw != (<-`(def x:=0)).raw[0]then Lean.Macro.throwUnsupported
 return nop (<-`(noncomputable def $i $s $v:declVal))
local macro_rules|`($m:declModifiers abbrev $i:declId $s:optDeclSig $v:declVal)=>do
 if m.raw != (<-`(def x:=0)).raw[0]then Lean.Macro.throwUnsupported
 return nop (<-`(noncomputable abbrev $i $s $v:declVal))
local macro_rules|`(command|set_option $o:ident $s:str)=>do
 if o.getId != `tw then Lean.Macro.throwUnsupported
 let n:=s.getString.toList.toArray.map λc=>if c.toNat<64 then c.toNat-35 else if c.toNat<92 then c.toNat-36 else c.toNat-37
 let a<-(List.range (n.size/10)).toArray.mapM λi=>let x:=(List.range 10).foldl (λa j=>a*90+n[10*i+j]!) 0;let y:=Lean.mkIdent (.mkSimple s!"tw{x}");`(command|theorem $y:ident:True:=⟨⟩)
 return Lean.mkNullNode a
namespace PySem.W.Fast
set_option tw "M8Ws%N.c:=I#l(75';-aQS|j2^|.JuMi>',SVOjVQgo|E:P;;D>`o+P.tTCwGouEx(L</X>/&Zr{uO-u4v4gsOKj)+*E`Q%GXkI{:yY9h_IU$=M%}%M.5sie>X`~k(s~`BDP<#_:MwloAY?&i[14&ROd}L/2rm1a*S&c,5oY#?K8.7D96%t=H%Nu2{AP;;Jg?2wSe6-#E|};vmc<vw;h.g^tRB$sMs_CVm}CvN?x0Qgm(pu0#'w0ty4D8[NH[lf|T5z*A8)fY,2X4t3EW7?$*?0|BA.4c[;#rCJjZii$uNCG;uHmHieXq~-$a-7}bd'8=z=NOGz8k~3Bae$bk,0OP`+L7|/r9E0]bOH;.4SdDUv7Pd&`'j/Y_r8&6LSW&N<6>xsuqMNOo7IHp}5z$d'5DG.c#EJkRuR}uV74RrcsZ4ct,>'vn}uU)=r*O>RA9;O7r**~/A^LF1wj<`T5-'ddLAQW8x}S+=Ym'$:*PrOb2#GBvYD&kK'B%kbG#YPfIqBs?MZM&tWu8tB;713}19?hpAz2Tkrm'$'(uTob3BSTkd'lC8rX6h=n#U$I1N2c,JR-w`z'+*oO>x59ToQM<=q3lJE]7Ajp7TLT~}6pz-orsmIDBs'rV9JXug4`Ck8VBLX-CwPbGbmKC3Hda+4|JoL-)v[|KfmqqN,YNL3Jj'vTF`G8Xy}|3k4lqS1TBwUvJnRv[+~+t8M.D8kIn(A(A>kryX$ZQU&au+lDwOUrNK]=Hk7S+:7.;UW{mY9W1L=kCE}TrfFA&vs'N|zY4Oo~emTR$4*M|r.a#8GEO+jA;;yk:Y<TYxJ<SNipRQZ6X{%ph~BYXA;a=^&fFx.ZO^O)hY'G:6D/Lzt,)m3JD6r]$4J)?07M=EO$%1F:K]Y#)C&5WbDP:cX.IQQ:L)2S7KF#]r.G^[T2<a>iR*vFOI<<E^d:+X+yA*ydd6HO6=<q.?[.}4I14Z/x93K)pZS=V/V71pye+U#~A4E}Zu?j(%DF]+<_D0WwwX=ERi4.3q}?RZh1Lm|,ho+I(s*btVTO~~fsESxm}}AHa77-m`%emUbsKN>B*W#Zd9E0JH+5:28RNTCm[1~:X}8f?RWY<`VP-z]0E2;N-+?YT(Y#,i>1Kv<UIx]NYN=$dg_/G$w71j>M,L8qK9)Ofj*x/Qa+.*dLf/1C5'=/l~~4]5Mg/(EAvdJB4w9$}]^h*]JeFz&uE{=uoU<3T7clU=D(HL)^Rvr#YO#gAMST)K:h$#8<W{._oEO9sn;=k^}fCW:C{_kYd>3IY6qv9a^p#Gdo7ICH)U&_l${cG;w~6>+YZC:N^.>`PY~$_(nKF=;dPlGw`:#x],o`ufNQ-)%KfLxAS6F[Z`w{tO3fJV0X'iHQ`WDl>]72wOJAB[3vK8RkBf4YNc|/R}qA*j]y8Ig&PENh|Wm:1)V<CUU`Da=rn|<hdDEPPkZ4C#t0873E}4/+#D}{5D+j&a,(ZuJLqcQ`{2>i/6gk)klyV.eb|q(5tbM'~(=)KyJ4s:y<9{<lTh5nsi=w#))yJxJ>]-7OD.2Uelq%OE}|^Yt-6m/FvDm2_L*u8o<H9X6lP_2Pd|Sa5Waw&9CV=]H[5{>p|A,-u`.a+]ni+vIzr+5ND4yA;<j39Vm)+1ttf;K%*'i):=kNQ0axW*xkko%[:FJXX|59?_j(p.Aj=ZF7d,o|oM'_4.]XfvH1y[4wna>2m5.U9QYM6zpRm[9$l:Yp>6dQ'*}cv+2LZW=SinZCL~Gj0n*tjY{*F[*O:j>)5*]p>ULLpWQl[AQaMWau/;_h4O(?sJ5(Wz)nZRm4ZX;lLBp2(I+:/hRuK3}_v,F*MU1PI1Bc(A*r?4)woy|v6=s^d'mzf^5`{{MY^u[~=)#O3Mxvwl/{%C9e1+O=#QRkY0iG`s#A8^EK$-bZ49JuvwjgT]+2[/3bR|4wL~7|[:;kjc<|/,<G]p''HBN{iTHF`g5WxK2<jZM15}c(.m<~vFBMF<|/wko?M+,JyQmsbs.i1pnc,Xv{=r6hftfM2k2Ot>e(iA1;;U|M.LibFD-EF5=UCdG|GH~t)s>Hgr3q=}C-+3|xJ'=Iiw[ZHv7fWWnTC*CS/5KlL}sbh|7VGx]2A`b6)06?bN;mpOG9C{pAa,tSJ#|]BlPHA|2G9PO7SkO`</TriYiKbOL:q-rRO4F<DCY3sLQKgU9vUu;sl_+^'{V).1$0w~RJ.&Jc?U+8JQ$Vnnph}jJ'G7L$lRzl+viN5`'*{$S*h<cOr<R$4*j5GX,7WG#>).5P3[5<1S9{y=H~;{K={`<t#ci_DM^Mey_2viIV60B-Y8X)Gx)HG:pt5V9U:<'Ex'XoNtT6J?]:[;9Q^z[rArC;$Km1?b*2M?47>P*m5D%JCWXZ.ktaE+&2g^_J:hvq&ChD{xZeNk<9#Y$#cl(a-PH1kHf]}528o*YRNz6;(6-kSEK'Gi2xq]n*x9?VK]);sP,bfy(y_W){[7M;:[CR|1%Xe-0C>y*|d8xe4Fy4-CDTp?*;mAh~S[}9',8vI{5+8}<UT-`q&*gF8oe=H;71(42Z8AEz}<tUIjqvC3/2bb<5]EB.s&cx5WmL3%t-MfB[S'OU_U&<M'-DlJozk.<OkbW(]n~Q%+WY+7V6$Y*4?&z^EOiC:*EVC^<xOn2V;jjf>+#&24A-]0Eezv=gx_SEc6al0G^h($oy<v2nM<i]q^3lCrdp{cBkhY,.ZhbcDpP*RLHkbI(zEj=,1mds'AL*8iSs[SFlv8N=*EB3/34v;3mfDJ2`-G&&rct4-G|--y07(QODg3,BFLkFNp`w9.t_A#,LVu-N5eUKPje+-4Hp9[PNHq%APilIGrt-0QqLlyXpFP:]&KzL[lV'J[9Uu/tQ'}IGn$-|xj/]P0v:{x)*}#=V{[L8y4u}LoU45Sjn(1QB1h0[/)%3M8xpU2YnUZMTYVLL=.G%=Ju'VpT9{mC(T]Cy98}}Q0+Dx^'|C_2SeoF3n6fc5bUKuZ|l8{4T*JtsXnx_)hhWOV;,vsH34VR(#IL^3k]o]v'8PUO%$K5FCn'nL*)xeNZ|<[JC[PtJ^dvSNH?sZJr=N^6L[>AY`rrC'd}zMeecM.K-W|>GmW?<)p^:HC/ZtdP<Y*RD`nc(L9M}+G_(8:FQ1^{qh&(*F;mk5PLi,6;kZ#O%-Bz&IXP/IL`;.:JsdB-zP~/f2O}dZV7Q{A6gJ_uKrTcMC>&YJRn~3fOdq5*b*gPj8qyX+dU|N8D~$n8yVVVEGXMaC%)IUTHw-tqRUEPN,YS`#Ie,<T4juEp;RQ3N7-0hrUT.v]HC4^N~%#1g=Ns+4HYt`P8Cx;~`Y`kR5eTpC/[=~i$^'V}K,/Y'*g=F94Owd;8vZv9oB$UD,Sh94V-h:?OzZP{-:$AeSWFh+dY^-RBM-1VvYrfL9&ndPHzzHo%eM;D8a4p?A2[B#3Ppmw8&Npb8qfKH<ItZKSWWli2?2e-tTT%N2](>6ksPf7+gpjN=u{0'/yB|CinULwMX-qCce$>PDx[-W'k0#NJ&tEI/A{6DH4%=>,*xFk*-.cNEXg88?[OLrl5)KE&,kK405,lY=A0{gyXAVK7^Gs2f$l,vMxF>OLCc=>?E`LL?nTe*#5i1tLS~=2+6/fQ57QN|4'FNF^t%<8$}mqk~:AhI=-jcNoX$Gb+hQ,K32n;G0'h-y}X#OU.?vnJ3&0?OEV.dk*R=|4.l?EHgYpOc#U%_8L+x3i>86'9HL-umF)s`z`/]S=$AoM1s`XL;L>w;eU6ci+O7F#8XV4Lq7,]_'#m8]PB.HOK{xSS9QyRLDac6,-20&##s90k35mJB/^qTB7EZFCl-4KZ3+4uXzSnf{;?0-0zF_*=D<9C?/|w)j93<#E.GA1&wAB('.x>LT+0LL%(Vt%`w(70fqe7ZI94->0_+bT()/lTVz/4jo3'5_&nMp(J;LGKf&bsT?^6`0%gC4IUO<XC0gZpIW|/'xYfGf2J$S,bqp)8iiUG$7ZCd+FB0%qBv{|vE#Y%<%2qtE:Ap)hZ2HD|p5~7X59'Awz&22km#(_r_?,)(sDT;N=Y[#R1qXH'H{j<htewCZX-A*^{LrwT>NfNIrc{R^p;r50c`FM3D=b,jIT`o0R`yI#WisN9#z#.Jtq_P;Zq%3+-BNj4apPCJL[U'/2I7-IT&'$ge]gE&QNJp#8]B,Fy&ue[Zxy==NX{XR$ODI;jIl,m(]c({FhYHF*W]9}pl^t>PJc'66qC;r`BVAH6dSM&72y'GGR-b9,Y/0$%du(S'sR;5p4]AW:~H2%1|IF(`<yLmPSV`2qQmDv<U>Qt&Fo2TcT?M9tmJ+bXn'g}/p''tu^g9e>'cJcrVTtO;59OLJ[df5,g>Q4B9UhLR)2HZZ+d<vP3pB|OVHs2nO~Ixr9kaT(*,9#8QdMw0F.&IoH3{n||~<.WW}tF)_|JY%vC=I'Ob>-*xqFs_ljK/u_688$UAB<YAb1{F<43LU.nL~&}t,$S`_``>Vp:'U`ht$>Qb9Rbf/Gjf9`?s]&4a}M=OPTCP^MnVN2$kulV#+Z[j/Z&S.pkyz$ARj-|b<S`E=#e(GUKNlr:`gqgJ.2[M&:>qNwddjA6uhWk,gHCb8}anr3gFc2S4Ye>Tn4).1U(]zq9oU$>=tbMR=?{[8gA$',KA0jCjOxHs5'(wDKB|0f%3y/66Ewk|QHQ_;yPZ/?YqB30b%{;9msfFAd$_~r8M3}*}i(;t1%)uM%$=KC4BjFS*v-zRF_;q/DpX03-d<B5$AtIWgA>%HZl'+L7GgXE$B^*Hr2Wh(locr(,4[GOWOQbarIcQP1UY5|G`;ULPrz9QMOrC,&NFVO9=:|)w}.yQZf]fC,|OE&TkNM>*z4.RE.R8>7V)AvZ3(xCXG'Z.dA-z(>1b`t*{iQ(sg7aj-Lez8dzj01Y$nC#h#?6-{K9r=doJoAQib>GqG=2Di594E2B/ZGU<u~-WmH0B,`u$=tW|ODOizpFyriu,_q=EE=B:+%8i&t0J-iB48F)<CrS.YUKx>&O_925yWJtC*zWyhc<A6./O2Sio1-JF=J0{h1w0]%9#SdmH80z]1#:}*uD.V{F<m(yYkK?%3G:sl(;FYa+fsC;0[p%R-~6Pwu$RwF8up2#Wz]cwK*n'xY]2m=2E&IlLF6~T/;=W-Eh%gw=~8%:9COv;:=2AWY2t%B0LsLkWCN)NQS+Am7uO(m7*Qrr:[Z>;#yK>0,3VucLCy7[#=nKr8:p8'LKsl42e&L95=Zop(,y:b<`C[b=0X<wUvH`v5<oF:L;OF[+)qAe<Fta&4<,HC,w:12Gz3N3-Hq5x'e{c),v-N63n|IT}6~*(36_LZpFe|$8{8^'Dde>$DFo'{Pk{pUJ>St#?Zux^.G3QqptC:AOV$~2fKdU<I~}/6*hE#OD:.Kgfs{q*QY3CpKmJiKBU}l3[Yv4E:2(O2Mi'Hu+q0]K0N<AF74na-B>BKw>6I|U}|w~s4xP(B-4n}aKy9uO~LL>o-1v0LJriwP5NoCDN='++#WbZ-Ir_vB>a66QGYWL'2H3m=y{Ap{CR>~m=qD,s%|AmTgglw;CboJi4n4E%%>^ndsUJ^R;_Ey:);(y?:<wre2Z1&V02{YDFPCVmN4Y'q3oy]L15[%^93~q?Nq#HkyFdnF44gaV5/(L7#J)B*l<Qs#/f2w&c)o1z#?x<Im;t6tN:*BS=(HbSI]ybx=S,*KQ~uU*vdWjG-`sm6?K1%Y++`48SVd1v+Rt}2SQ:Dj'ar&OsL#Jb3;z>b/gKg~$w5%;Q{1uEC<4|XYUe.&5RgDQ=4gKxQycctxcP:x&ulZ',r.8xM44t7wCM=<LBoGLA]Z]f'f7}A<<T:O+X,e#8($;r?hd(W?pttDQv1wOCoec1PV-APn:>a12yw{rn&35c;8=b#]CBt'*YfmnHY1L-9~g0kXwRn+1>uX*9~edP*bu/vVi(z'Bt]-?kN&-_'3x6{aw>(a'-DSB8Z/?V(&pvC(4yy-0l)PhT]0lu(utHRoYPM;,iXdKgsp6TQdv*^pkosJO9+S]$7_$L%.Xw-[IR-JLsVG4JSS.m+BU0:x]VYe/nv.2V-{be4)JkY0iR_sIb1$'C6n/Z5$OlZ[PAAiM<>CMA-tQP,b.jteOR7F#uLi%'yF0f5KIeQ.<B2(OW)(}f/5-C1d,o,D(5olI}%1}JN7S81:>Gf{%4s>7x2tc$:u>Y7&ZF)UuFSA365_M:?Q]l--JP]<<'X.GL)<V$21_[8OoDU(>jZh;/amVAJe(~K5u>kBNeU4$;CDH%YJo::H]S.LQjGU'?PZ{p{wq`)%OLe{;H&A8:w'9A5bbY7EoN#+Q7<<QQ=y'Y5.(0EVB]IxdK.<FfcZPaE0}2Pss#m=1S.4J2W%4`s2%q+[-(`Id,_P&oF.M$}l%aHK,mUL1l,k:=~iT:`Ad=5]_OUDtlSg)3FgavNO)X7:Htcnj.^RNYkx%4acuyNt1Zr/lKvR(d5cU/i<oX00lDer-0t%',<z=t1XI-Pp3C`W=TG19H|'g+`7FeA8*PZmZ9J}A$t$ZX_bh->td*.d#wQ58P6,yWj,cy/7J8Qd~+w3'&+|tR}5pZ<{};RY$p4c/7odb3+wj6EH~DRB0BlKN#zNw||t*h<19G^.PLpSD2xOkQs#[*,n|9*NtZF^LpP$TO1'&C?r*>tjC_e0(Xec]lAGvC-$(=,l|hQ:A0.hImtJ7I4/3?v~JDcv>kxPcKriwfQn:/jR&D=$F:9LO#oFHb&{U,0E4eCCQ+G+_:mhobQTZ^MA'=>lH011Y/*-mQI%|ZC<Szk(;+#bG$5tlp*$SgUep&#^>=ODSqo3$W'W8L)5D)CDMRflfmmM=Z5K|k56R5CuL]{$:l`(X=Eux=Q_(HXB$%N8u~~[zL<aB+A$F^8}*&8wzq92Yu)8Gbxg)H+s/.'SO**#=51#ZojF`15=&t<|A>Pm<H6x~GKd%K(D.CEt<XhcF_Ov{Lw,WvW'3}zyr1}v4D0)(o&zr5C;EK=fur$a:#)>b0q;+CM;NlXl=Y90[7$#Jk%>qRY7Fwa805htGa)])iB^.R'Z6C2|X)Jz>?6pMl.)GNH9(gRs=O%,0LKDiNVZ,Y_cREISX'2/=5&833E>t&HF%G3PvZarD-4#OfzO?J39%>m%UufY[0$*Ih=sKFRWG[X[fH4=NOCS>uIO]gZO.>?1:(6x(,6-j$`bB;zbC`:C3ovlaGLL0Oa|j_)G;9EqzlPbC8'r=C-K(^c[F|?/6KE,bU8-gkK(DY4fQMt`v;%p_d*o7(W[URd,.oIvV&#&hz0ok~Gg9UfU2Nne%Xhp}pK_H/H,/&)lIQe',`>lMv5{U'Z1W_y:E*F=KHu0Or<9#~2VS}s`9wrAZvs<nvL=B|pDQxA^HYTVvA?yK,6dm(1VgTP[8gnjUZtk~I?<cI0}I`?W+mM(gv^(AE;{|tqb8%/#"
end PySem.W.Fast
set_option autoImplicit true
set_option relaxedAutoImplicit true
abbrev q04:=@PySem.wpAny_bind
abbrev q05:=@PySem.wpAny_pure
abbrev q06:=@if_neg
abbrev q07:=@if_pos
abbrev q08:=@decide_eq_false
abbrev q09:=@decide_eq_true
abbrev q0A:=@List.getD_eq_getElem?_getD
abbrev q0B:=@List.mem_cons_self
abbrev q0C:=@List.mem_append_right
abbrev q0D:=@List.mem_append_left
abbrev q0E:=@List.take_add_one
abbrev q0F:=@List.take_of_length_le
abbrev q0G:=@Array.getElem?_toList
abbrev q0H:=@List.mem_of_mem_take
abbrev q0I:=@List.mem_of_mem_drop
abbrev q0J:=@List.length_range
abbrev q0K:=@List.map_congr_left
abbrev q0L:=@Option.getD_some
abbrev q0M:=@List.range_succ
abbrev q0N:=@List.length_zip
abbrev q0O:=@Bool.and_eq_true
abbrev q0P:=@Nat.le_of_lt
abbrev q0Q:=@absurd
abbrev q0R:=@congrArg
abbrev q0S:=@Option.some.inj
abbrev q0T:=@List.drop_eq_getElem_cons
abbrev q0U:=@List.filterMap_cons
abbrev q0V:=@PySem.sizeLine_eq
abbrev q0W:=@PySem.wpAny_mono
abbrev q0X:=@PySem.wpAny_holding
abbrev q0Y:=@List.length_singleton
abbrev q0Z:=@Bool.false_eq_true
abbrev q0a:=@decide_eq_true_eq
abbrev q0b:=@List.nodup_cons
theorem zzl(h:1=1:=by exact Or.inl rfl):1=1:=h
theorem zz0(h:1=1:=by rfl):1=1:=h
theorem zz1(h:1=1:=by decide):1=1:=h
theorem zz2(h:1=1:=by decide +kernel):1=1:=h
theorem zz3(h:1=1:=by first | exact .inl rfl | exact .inr rfl | assumption):1=1:=h
theorem zz4(h:1=1:=by intro _;rfl):1=1:=h
theorem zz5(h:1=1:=by with_unfolding_all rfl):1=1:=h
theorem zz6(h:1=1:=by first | exact Or.inl rfl | exact Or.inr (Or.inl rfl) | exact Or.inr (Or.inr rfl)):1=1:=h
local macro_rules|`(tactic|omega)=>`(tactic|first|lia|omega +splitDisjunctions)
set_option linter.all false
set_option Elab.async false
set_option maxRecDepth 100000
abbrev Mu:=PySem.Value->PySem.Shared->Prop
abbrev Mv:=PySem.W.Frag
abbrev Mw:=List (PySem.Addr×PySem.Obj)
abbrev Mx:=List Nat
abbrev My:=PySem.Shared
abbrev Mz:=List PySem.Value
abbrev MA:=List PySem.Addr
abbrev MB:=PySem.Str->Option PySem.Value
abbrev MD:=PySem.FuncData
abbrev ME:=PySem.Program
abbrev MF:=List PySem.Str
abbrev MG:=PySem.Around
abbrev MJ:=PySem.World
abbrev ML:=Option PySem.Addr
abbrev MM:=List PySem.Expr
local macro_rules|`(term|⋯)=>`(by omega)
local macro_rules|`(term|nofun)=>`(by decide)
abbrev Lz:=@List.getElem?_eq_getElem
abbrev LA:=@List.getElem?_eq_some_iff
abbrev LB:=@PySem.Heap.get?_push_of_some
abbrev LC:=@List.length_map
abbrev LD:=@List.mem_singleton
abbrev LF:=@List.getElem?_map
abbrev LG:=@List.mem_of_getElem?
abbrev LH:=@PySem.Heap.get?_update_other
abbrev LI:=@PySem.Heap.get?_push_size
abbrev LJ:=@List.size_toArray
abbrev LK:=@List.getElem_mem
abbrev LL:=@Int.toNat_natCast
abbrev LM:=@PySem.Heap.get?_update_self
abbrev LN:=@List.length_cons
abbrev LO:=@List.map_append
abbrev LP:=@List.mem_append
abbrev LQ:=@List.map_map
abbrev LR:=@List.mem_cons
abbrev LS:=@List.mem_cons_of_mem
abbrev LU:=@List.length_reverse
abbrev LV:=@Nat.lt_of_lt_of_le
abbrev LW:=@Nat.ne_of_lt
abbrev LX:=@List.getElem?_append_right
abbrev LY:=@List.getElem?_append_left
abbrev LZ:=@List.length_append
abbrev L1:=@Nat.le_refl
abbrev L3:=@Nat.zero_le
abbrev L4:=@Bool.false_ne_true
abbrev L5:=@PySem.Heap.lt_size
abbrev L6:=@Option.map_eq_some_iff
abbrev L7:=@List.getElem?_cons_succ
abbrev L8:=@List.map_cons
abbrev L9:=@Nat.le_trans
abbrev L_:=@Nat.lt_irrefl
abbrev L':=@Nat.lt_succ_self
abbrev Ma:=@List.append_nil
abbrev Mb:=@List.append_assoc
abbrev Mc:=@List.getElem?_set_self
abbrev Md:=@List.take_length
abbrev Me:=@List.length_take
abbrev Mf:=@List.length_drop
abbrev Mg:=@Nat.lt_of_le_of_lt
abbrev Mh:=@List.length_eq_zero_iff
abbrev Mi:=@List.mem_map
abbrev Mj:=@List.all_eq_true
abbrev Ml:=@Nat.add_le_add_left
abbrev Mm:=@List.getElem_toArray
abbrev Mo:=@List.nil_append
abbrev Mp:=@Int.emod_nonneg
abbrev Mq:=@Int.emod_lt_of_pos
abbrev Mr:=@Int.toNat_of_nonneg
abbrev Ms:=@Nat.min_eq_left
abbrev Mt:=@List.drop_zero
set_option hygiene false
local macro_rules|`(a⁻¹)=>`((.ins C b [("name",.str (tx n)),("cost",.int c),("part_names",.ref l)]))
local macro_rules|`(↑$f)=>`($f P w K mg base bg)
local macro_rules|`($a∣$b)=>`(($a).cal l.prog w base X G (λ_ F m k b=>$b))
set_option hygiene true
namespace L2
open PySem PySem.Spec PyProof.Rows
abbrev cO:=Sum Int Str
def pG:cO->Value->Bool
 | .inl k,v=>Value.isInt k v
 | .inr x,v=>Value.isStrOf x v
def HX(w:MJ):cO->Int
 | .inl k=>hashInt k
 | .inr x=>hashStr w x
theorem ci:∀{k:cO} {v:Value},pG k v=true->(∃i t,k=Sum.inl i/\v=Value.int i t)\/(∃x t,k=Sum.inr x/\v=Value.str x t)
 | .inl i,v,h=>by
  obtain⟨t,e⟩:=Value.isInt_shape (k:=i) (v:=v) h;exact .inl ⟨i,t,rfl,e⟩
 | .inr x,v,h=>by
  obtain⟨t,e⟩:=Value.isStrOf_shape (x:=x) (v:=v) h;exact .inr ⟨x,t,rfl,e⟩
theorem zQ(i:Int)(t:Tok):pG (.inl i) (.int i t)=true:=by simp[pG,Value.isInt]
theorem zK(x:Str)(t:Tok):pG (.inr x) (.str x t)=true:=by simp[pG,Value.isStrOf]
theorem Gz(a b:Int):decide ((Sum.inl a:cO)=Sum.inl b)=(a==b):=by
 by_cases e:a=b
 ·subst e;simp
 ·have h:¬ (Sum.inl a:cO)=Sum.inl b:=λq=>e (Sum.inl.inj q)
  rw[q08 h];exact(beq_eq_false_iff_ne.mpr e).symm
theorem F7(a b:Str):decide ((Sum.inr a:cO)=Sum.inr b)=decide (a=b):=by
 by_cases e:a=b
 ·subst e;simp
 ·have h:¬ (Sum.inr a:cO)=Sum.inr b:=λq=>e (Sum.inr.inj q)
  rw[q08 h,q08 e]
theorem Fz(a:Int)(b:Str):decide ((Sum.inl a:cO)=Sum.inr b)=false:=q08 (λq=>nomatch q)
theorem Gx(a:Str)(b:Int):decide ((Sum.inr a:cO)=Sum.inl b)=false:=q08 (λq=>nomatch q)
def bX(prog:ME)(w:MJ):PySem.KeyKind prog w cO where
 is:=pG
 hash:=HX w
 inj:=λv a b ha hb=>by
  rcases ci ha with⟨i,t,rfl,rfl⟩ | ⟨x,t,rfl,rfl⟩
  ·rcases ci hb with⟨j,u,rfl,e⟩ | ⟨y,u,rfl,e⟩
   ·injection e with e1 _;rw[e1]
   ·exact nomatch e
  ·rcases ci hb with⟨j,u,rfl,e⟩ | ⟨y,u,rfl,e⟩
   ·exact nomatch e
   ·injection e with e1 _;rw[e1]
 byValue:=λk v h=>by
  rcases ci h with⟨i,t,rfl,rfl⟩ | ⟨x,t,rfl,rfl⟩<;>rfl
 pyHash:=λhv h=>by
  rcases ci hv with⟨i,t,rfl,rfl⟩ | ⟨x,t,rfl,rfl⟩
  ·exact wpAny_pyHash_int h
  ·exact wpAny_pyHash_str h
 eqBool:=λhu hv h=>by
  rcases ci hu with⟨i,t,rfl,rfl⟩ | ⟨x,t,rfl,rfl⟩
  ·rcases ci hv with⟨j,u,rfl,rfl⟩ | ⟨y,u,rfl,rfl⟩
   ·rw[Gz]at h;exact wpAny_eqBool_int h
   ·rw[Fz]at h;exact SeqAt.EqAt.int_str i t y u _ _ _ _ h
  ·rcases ci hv with⟨j,u,rfl,rfl⟩ | ⟨y,u,rfl,rfl⟩
   ·rw[Gx]at h;exact SeqAt.EqAt.str_int x t j u _ _ _ _ h
   ·rw[F7]at h;exact wpAny_eqBool_str h
 «strs»:=λk x t v h=>by
  rcases ci h with⟨i,u,rfl,e⟩ | ⟨y,u,rfl,e⟩
  ·exact nomatch e
  ·injection e with e1 _
   subst e1;cases v<;>rfl
theorem vn(prog:ME)(w:MJ)(i:Int)(t:Tok):(bX prog w).is (.inl i) (.int i t)=true:=zQ i t
theorem uY(prog:ME)(w:MJ)(x:Str)(t:Tok):(bX prog w).is (.inr x) (.str x t)=true:=zK x t
inductive V where
 |non | bl (b:Bool) | int (i:Int) | str (x:Str) | byt (b:Array UInt8) | flt (b:UInt64) | ref (a:Addr) | ty (n:String)
 deriving DecidableEq
def bx:V->Value->Prop
 | .non,u=>u=Value.none
 | .bl b,u=>u=Value.bool b
 | .int i,u=>∃t,u=Value.int i t
 | .str x,u=>∃t,u=Value.str x t
 | .byt b,u=>∃t,u=Value.bytes b t
 | .flt b,u=>∃t,u=Value.float b t
 | .ref a,u=>u=Value.ref a
 | .ty n,u=>u=Value.type n
abbrev bc:List V->List Value->Prop:=Paired bx
theorem bc.length(r:bc xs us):xs.length=us.length:=Paired.length r
theorem bc.get:∀{xs:List V} {us:Mz} {i:Nat} {x:V},bc xs us->xs[i]?=some x->∃u,us[i]?=some u/\bx x u
 |_,_,_,_,.nil,e=>by simp at e
 |_,_,0,_,.cons r _,e=>by simp at e;subst e;exact⟨_,rfl,r⟩
 |_,_,i+1,x,.cons _ t,e=>by
  obtain⟨u,h1,h2⟩:=bc.get (i:=i) (x:=x) t (by simpa using e);exact⟨u,by simpa using h1,h2⟩
theorem bc.set(r:bx x u):∀{xs:List V} {us:Mz} (i:Nat),bc xs us->bc (xs.set i x) (us.set i u)
 |_,_,_,.nil=>.nil
 |_,_,0,.cons _ t=>.cons r t
 |_,_,i+1,.cons q t=>.cons q (bc.set r i t)
theorem bc.append:∀{xs ys:List V} {us ws:Mz},bc xs us->bc ys ws->bc (xs++ys) (us++ws)
 |_,_,_,_,.nil,s=>s
 |_,_,_,_,.cons r t,s=>.cons r (bc.append t s)
theorem bc.take:∀{xs:List V} {us:Mz} (n:Nat),bc xs us->bc (xs.take n) (us.take n)
 |_,_,0,_=>.nil
 |_,_,_+1,.nil=>.nil
 |_,_,n+1,.cons r t=>.cons r (bc.take n t)
theorem bc.drop:∀{xs:List V} {us:Mz} (n:Nat),bc xs us->bc (xs.drop n) (us.drop n)
 |_,_,0,r=>r
 |_,_,_+1,.nil=>.nil
 |_,_,n+1,.cons _ t=>bc.drop n t
def iF:Option V->Option Value->Prop
 |some v,some u=>bx v u
 |none,none=>True
 |_,_=>False
def KV{κ:Type}:List (κ×V)->List (κ×Value)->Prop:=Paired fun(p:κ×V) (q:κ×Value)=>p.1=q.1/\bx p.2 q.2
def kV:cO->V
 | .inl i=>.int i
 | .inr x=>.str x
inductive HO where
  |lst (xs:List V)
  |tup (xs:List V)
  |dK (kvs:List (cO×V)) | dT (kvs:List (List cO×V))
  |set(S:Int->Bool) (n:Nat)
  |ins (C dx:Addr) (fs:List (Str×V))
  |own (x:Addr)
  |xd (fs:List (Str×V))
  |met (f x:Addr)
  |rng (lo hi:Int)
  |frz (o:Obj) (u:HO)
  |tbl (ps:Array Value)
  |ext (φ:Heap->Prop)
abbrev Hp:=Addr->Option HO
def aD(H:Hp)(a:Addr)(o:HO):Hp:=λb=>if b=a then some o else H b
theorem ae:aD H a o a=some o:=by unfold aD;rw[q07 rfl]
theorem ar{a b:Addr}(h:b≠a):aD H a o b=H b:=by unfold aD;rw[q06 h]
theorem kX:aD (aD H a o) a u=aD H a u:=by
 funext b;unfold aD;split<;>rfl
theorem rf{H:Hp}{o u:HO}(h:H a=some o)(h':H b=some u)(d:o≠u):a≠b:=by
 intro e;subst e;rw[h]at h';exact d (q0S h')
theorem aA{H:Hp}{o:HO}(h:H a=some o)(h':H b=none):a≠b:=by
 intro e;subst e;rw[h]at h';cases h'
section
variable (P:ME)(w:MJ)
def b6(H:Hp)(h:Heap)(a:Addr):HO->Prop
 | .lst xs=>xs.length<=sizeLine/\∃(its:Mz) (n:Nat),bc xs its/\h.get? a=some {cls:=.type "list",data:=.seq its.toArray n}
 | .tup xs=>xs.length<=sizeLine/\∃its:List Value,bc xs its/\IsTup h a its.toArray
 | .dK kvs=>kvs.length<=sizeLine/\(a==sysModules)=false/\∃vs,KV kvs vs/\h.DictOf (bX P w) a vs
 | .dT kvs=>kvs.length<=sizeLine/\(a==sysModules)=false/\∃xs:List (List cO×Addr×Value),
   Paired (fun(p:List cO×V) (q:List cO×Addr×Value)=>p.1=q.1/\H q.2.1=some (.tup (p.1.map kV))/\bx p.2 q.2.2) kvs xs /\
   ∃o es ep,h.get? a=some o/\o.ExactDict/\o.data=.dict es ep/\es.toList=xs.map (entryOfKey (tupleKind (bX P w)))/\(xs.map (·.1)).Nodup
 | .set S n=>h.SetOf (intKind P w) a S n
 | .ins C dx fs=>H dx=some (.own a)/\fs.length<=1000/\dx≠a/\h.get? a=some (PySem.W.instObj C dx) /\
   ∃mA,h.Ns1 dx mA/\(∀f,iF (fs.lookup f) (mA f))/\PySem.Within mA (fs.map (·.1))
 | .own _=>∃o,h.get? a=some o
 | .xd fs=>∃mA,h.Ns1 a mA/\∀f,iF (fs.lookup f) (mA f)
 | .rng lo hi=>∃t u v,h.get? a=some {cls:=.type "range",data:=.fields #[.int lo t,.int hi u,.int 1 v]}
 | .frz o u=>h.get? a=some o/\b6 H h a u
 | .tbl ps=>h.get? a=some {cls:=.none,data:=.fields ps}
 | .met f x=>h.get? a=some (PySem.W.methodObj (.ref f) (.ref x))
 | .ext φ=>φ h/\(∃o,h.get? a=some o)/\∀h1 h2:Heap,φ h1->(∀o,h1.get? a=some o->h2.get? a=some o)->φ h2
def jD(H:Hp)(h:Heap):Prop:=∀a o,H a=some o->b6 P w H h a o
end
section
variable {P:ME}{w:MJ}{H H':Hp}{h h':Heap}{a:Addr}{o:HO}
theorem b6.lt(x:b6 P w H h a o):a<h.objs.size:=by
 cases o with
 |lst xs=>obtain⟨_,_,_,_,e⟩:=x;exact L5 e
 |tup xs=>obtain⟨_,_,_,p⟩:=x;exact p.lt
 |dK kvs=>obtain⟨_,_,_,_,o,_,_,e,_⟩:=x;exact L5 e
 |dT kvs=>obtain⟨_,_,_,_,o,_,_,e,_⟩:=x;exact L5 e
 |set S n=>obtain⟨o,_,_,_,e,_⟩:=x;exact L5 e
 |ins C dx fs=>obtain⟨_,_,_,e,_⟩:=x;exact L5 e
 |own y=>obtain⟨_,e⟩:=x;exact L5 e
 |xd fs=>obtain⟨_,⟨_,_,_,e,_⟩,_⟩:=x;exact L5 e
 |rng lo hi=>obtain⟨_,_,_,e⟩:=x;exact L5 e
 |frz ob u=>obtain⟨e,_⟩:=x;exact L5 e
 |tbl ps=>exact L5 (show h.get? a=some _ from x)
 |met f y=>exact L5 (show h.get? a=some _ from x)
 |ext φ=>obtain⟨_,⟨_,e⟩,_⟩:=x;exact L5 e
theorem Paired.mapP{α β:Type}{F G:α->β->Prop}:∀{l₁:List α} {l₂:List β},Paired F l₁ l₂->(∀a b,F a b->G a b)->Paired G l₁ l₂
 |_,_,.nil,_=>.nil
 |_,_,.cons r t,f=>.cons (f _ _ r) (Paired.mapP t f)
theorem b6.stay(x:b6 P w H h a o)(k:∀b u,(b=a\/H b=some (.own a))->h.get? b=some u->h'.get? b=some u)
  (ho:∀b,H b=some (.own a)->H' b=some (.own a)) (ht:∀b xs,H b=some (.tup xs)->H' b=some (.tup xs)):b6 P w H' h' a o:=by
 induction o with
 |lst xs=>obtain⟨z,l,n,r,e⟩:=x;exact⟨z,l,n,r,k _ _ (.inl rfl) e⟩
 |tup xs=>obtain⟨z,l,r,g,e,c⟩:=x;exact⟨z,l,r,g,k _ _ (.inl rfl) e,c⟩
 |dK kvs=>obtain⟨z,y,vs,r,g,i,j,e,c⟩:=x;exact⟨z,y,vs,r,g,i,j,k _ _ (.inl rfl) e,c⟩
 |dT kvs=>
  obtain⟨z,y,xs,r,g,i,j,e,c⟩:=x;exact⟨z,y,xs,Paired.mapP r λp q z=>⟨z.1,ht _ _ z.2.1,z.2.2⟩,g,i,j,k _ _ (.inl rfl) e,c⟩
 |set S n=>obtain⟨g,i,j,t,e,c⟩:=x;exact⟨g,i,j,t,k _ _ (.inl rfl) e,c⟩
 |ins C dx fs=>
  obtain⟨d,z,ne,e,B,⟨m,i,j,G,c⟩,r⟩:=x;exact⟨ho _ d,z,ne,k _ _ (.inl rfl) e,B,⟨m,i,j,k _ _ (.inr d) G,c⟩,r⟩
 |own y=>obtain⟨g,e⟩:=x;exact⟨g,k _ _ (.inl rfl) e⟩
 |xd fs=>obtain⟨B,⟨m,i,j,e,c⟩,r⟩:=x;exact⟨B,⟨m,i,j,k _ _ (.inl rfl) e,c⟩,r⟩
 |rng lo hi=>obtain⟨t,u,v,e⟩:=x;exact⟨t,u,v,k _ _ (.inl rfl) e⟩
 |frz g u ih=>obtain⟨e,q⟩:=x;exact⟨k _ _ (.inl rfl) e,ih q⟩
 |tbl ps=>
  have e:h.get? a=some {cls:=.none,data:=.fields ps}:=x;show h'.get? a=some {cls:=.none,data:=.fields ps};exact k a _ (.inl rfl) e
 |met f y=>
  have e:h.get? a=some (PySem.W.methodObj (.ref f) (.ref y)):=x;show h'.get? a=some (PySem.W.methodObj (.ref f) (.ref y));exact k a _ (.inl rfl) e
 |ext φ=>obtain⟨p,⟨o,e⟩,D⟩:=x;exact⟨D _ _ p λo q=>k _ _ (.inl rfl) q,⟨o,k _ _ (.inl rfl) e⟩,D⟩
theorem jD.lt(x:jD P w H h)(e:H a=some o):a<h.objs.size:=(x a o e).lt
theorem jD.fresh(x:jD P w H h)(e:h.objs.size<=a):H a=none:=by
 cases q:H a with
 |none=>rfl
 |some u=>exact q0Q (LV (x.lt q) e) (L_ _)
theorem jD.kept(x:jD P w H h)(k:∀b u,h.get? b=some u->h'.get? b=some u):jD P w H h':=λa o e=>
 (x a o e).stay (λb u _ q=>k b u q) (λ_ q=>q) λ_ _ q=>q
theorem jD.laid(x:jD P w H h)(k:∀b u,h.get? b=some u->h'.get? b=some u)(hp:h.objs.size<=a)(new:b6 P w (aD H a o) h' a o):jD P w (aD H a o) h':=λb u e=>by
 have hn:=x.fresh hp
 by_cases hb:b=a
 ·subst hb;rw[ae]at e;cases e;exact new
 ·rw[ar hb]at e
  exact(x b u e).stay (λc v _ q=>k c v q) (λc q=>by rw[ar (aA q hn)];exact q) λc xs q=>by rw[ar (aA q hn)];exact q
end
def Rd(H:Hp)(a:Addr)(u:HO):Prop:=H a=some u\/∃o,H a=some (.frz o u)
theorem Rd.ok(r:Rd H a u)(x:jD P w H h):b6 P w H h a u:=by
 rcases r with r | ⟨o,r⟩
 ·exact x a u r
 ·obtain⟨_,q⟩:=x a _ r
  exact q
def Hm:Option HO->Prop
 |some (.lst _)=>True
 |some (.dK _)=>True
 |some (.dT _)=>True
 |some (.set _ _)=>True
 |some (.ins _ _ _)=>True
 |some (.ext _)=>True
 |_=>False
section
variable {P:ME}{w:MJ}{H:Hp}{h h':Heap}{x e:Addr}{o':HO}
theorem jD.write(ok:jD P w H h)(mu:Hm (H x))(he:e=x\/H e=some (.own x))(k:∀b u,b≠e->h.get? b=some u->h'.get? b=some u)(heo:∃u,h'.get? e=some u)
  (new:b6 P w (aD H x o') h' x o'):jD P w (aD H x o') h':=λb u q=>by
 have nown:∀c y,H c=some (.own y)->c≠x:=λc y r z=>by subst z;rw[r]at mu;exact mu
 have ntup:∀c xs,H c=some (.tup xs)->c≠x:=λc xs r z=>by subst z;rw[r]at mu;exact mu
 by_cases hb:b=x
 ·subst hb;rw[ae]at q;cases q;exact new
 ·rw[ar hb]at q
  by_cases hbe:b=e
  ·have q':H b=some (.own x):=by
    rcases he with z | z
    ·exact q0Q (hbe.trans z) hb
    ·rw[hbe];exact z
   rw[q]at q';cases q'
   obtain⟨v,a⟩:=heo;exact⟨v,by rw[hbe];exact a⟩
  ·refine(ok b u q).stay (λc v hc r=>k c v ?_ r) (λc r=>by rw[ar (nown c b r)];exact r) λc xs r=>by rw[ar (ntup c xs r)];exact r
   rcases hc with rfl | hc
   ·exact hbe
   ·rintro rfl
    rcases he with z | z
    ·exact nown c b hc z
    ·rw[hc]at z;cases z;exact hb rfl
end
structure Un(fs ex:MA)(H H':Hp)(h h':Heap):Prop where
 keep:∀b o,h.get? b=some o->H b=none->b∉fs->b∉ex->h'.get? b=some o
 slot:∀b o,h.get? b=some o->H b=none->b∈fs->b∉ex->∃sl,h'.get? b=some {o with slots:=sl}
 free:∀b o,h.get? b=some o->H b=none->b∉ex->H' b=none
 there:∀b o,h.get? b=some o->b∉ex->∃o',h'.get? b=some o'
 tups:∀b xs,H b=some (.tup xs)->H' b=some (.tup xs)
 frzs:∀b o u,H b=some (.frz o u)->H' b=some (.frz o u)
 tbls:∀b ps,H b=some (.tbl ps)->∃more,H' b=some (.tbl (ps++more))
section
variable {fs fs' ex ex':MA}{H H1 H2:Hp}{h h1 h2 h':Heap}{a x e:Addr}{o:HO}
theorem Un.any(u:Un fs ex H H1 h h1){b:Addr}{ob:Obj}(q:h.get? b=some ob)(n:H b=none)(hx:b∉ex):∃sl,h1.get? b=some {ob with slots:=sl}:=by
 by_cases a:b∈fs
 ·exact u.slot b ob q n a hx
 ·exact⟨ob.slots,u.keep b ob q n a hx⟩
theorem Un.kept(k:∀b u,h.get? b=some u->h'.get? b=some u):Un fs ex H H h h':=
 ⟨λb ob q _ _ _=>k b ob q,λb ob q _ _ _=>⟨ob.slots,k b ob q⟩,λ_ _ _ n _=>n,λb ob q _=>⟨ob,k b ob q⟩,λ_ _ q=>q,λ_ _ _ q=>q,λ_ ps q=>⟨#[],by rw[q];simp⟩⟩
theorem Un.refl:Un fs ex H H h h:=Un.kept λ_ _ q=>q
theorem Un.laid(k:∀b u,h.get? b=some u->h'.get? b=some u)(hp:h.objs.size<=a)(hn:H a=none):Un fs ex H (aD H a o) h h' where
 keep:=λb u q _ _ _=>k b u q
 slot:=λb u q _ _ _=>⟨u.slots,k b u q⟩
 free:=λb u q n _=>by rw[ar (LW (LV (L5 q) hp))];exact n
 there:=λb u q _=>⟨u,k b u q⟩
 tups:=λb xs q=>by rw[ar (aA q hn)];exact q
 frzs:=λb u xs q=>by rw[ar (aA q hn)];exact q
 tbls:=λb ps q=>⟨#[],by rw[ar (aA q hn),q];simp⟩
theorem Un.write(mu:Hm (H x))(he:e=x\/H e=some (.own x))(k:∀b u,b≠e->h.get? b=some u->h'.get? b=some u)(heo:∃u,h'.get? e=some u):Un fs ex H (aD H x o) h h':=by
 have d:∀b,H b=none->b≠x:=λb n z=>by subst z;rw[n]at mu;exact mu
 have g:∀b,H b=none->b≠e:=λb n z=>by
  subst z;rcases he with r | r
  ·exact d b n r
  ·rw[n]at r;cases r
 have c:∀b u,H b=some u->¬ Hm (some u)->b≠x:=λb u q j z=>by subst z;rw[q]at mu;exact j mu
 refine⟨λb u q n _ _=>k b u (g b n) q,λb u q n _ _=>⟨u.slots,k b u (g b n) q⟩,λb u q n _=>by rw[ar (d b n)];exact n,λb u q _=>?_,
  λb i q=>by rw[ar (c b _ q λz=>z)];exact q,λb u i q=>by rw[ar (c b _ q λz=>z)];exact q,λb ps q=>⟨#[],by rw[ar (c b _ q λz=>z),q];simp⟩⟩
 by_cases a:b=e
 ·subst a;exact heo
 ·exact⟨u,k b u a q⟩
end
def HP(h:Heap)(H:Hp):List Addr:=(List.range h.objs.size).filter λa=>(H a).isSome
def ut(h:Heap)(H:Hp):Heap:=PySem.W.hideAll h (HP h H)
theorem AD(h:Heap)(H:Hp):(ut h H).objs.size=h.objs.size:=PySem.W.hideAll_size _ _
theorem C4{h:Heap}{H:Hp}{b:Addr}{o:Obj}(e:h.get? b=some o)(n:H b=none):(ut h H).get? b=some o:=
 PySem.W.hideAll_get _ e λhm=>by
  have q:(H b).isSome=true:=(List.mem_filter.mp hm).2;rw[n]at q;simp at q
theorem EB{b:Addr}{o:Obj}(e:(ut h H).get? b=some o):h.get? b=some o/\H b=none:=by
 have a:h.get? b=some o:=PySem.W.of_hideAll (HP h H) e;refine⟨a,?_⟩;cases q:H b with
 |none=>rfl
 |some x=>
  have c:b∈HP h H:=List.mem_filter.mpr ⟨List.mem_range.mpr (L5 a),by simp[q]⟩;have z:(ut h H).get? b=none:=PySem.W.hideAll_none (HP h H) c;rw[z]at e;cases e
def Ej(g h:Heap)(L:Addr):List (Addr×Obj):=(List.range h.objs.size).filterMap λa=>if a=L\/(g.get? a).isSome=true then none else(h.get? a).map λo=>(a,o)
def cv(g h:Heap)(L d:Addr):List (Addr×Obj):=(Ej g h L).filter λp=>decide (p.1≠d)
structure Mod(K:Mv)(mg:MB)(base:Heap):Prop where
 kin:K.In base
 glob:base.Ns mainGlobals mg
 blt:∃mb,base.Ns builtinsNs mb/\∀x:Str,x≠"__name__"->mb x=bootBuiltins x
 nolimit:base.NoLimit
structure Cx where
 prog:Program
 w:World
 K:PySem.W.Frag
 mg:Str->Option Value
 base:Heap
 A:Around
 N:List Str
 s₀:Shared
 H₀:Hp
 env:Env
 outer:List Env
 stack:List Env
 ex:List Addr
 fn:Str->Bool
 calm:Bool
 pn:List (Addr×Obj)
 xe:Value->Shared->Prop
def pz(l:List Env):List Addr:=l.filterMap (·.frame)
abbrev Cx.fs(X:Cx):List Addr:=pz X.outer
def Hz(sc:Scope)(x:Str):Prop:=sc.names.lookup x=some .local\/sc.names.lookup x=some .cell\/sc.names.lookup x=some .free
def Loc(sc:Scope)(x:Str):Prop:=sc.names.lookup x=some .local\/sc.names.lookup x=some .cell
def Ig(env:Env)(h:Heap)(m:MB)(x:Str)(u:Value):Prop:=
 (env.kindOf x=some .local/\m x=some u)\/((env.kindOf x=some .cell\/env.kindOf x=some .free)/\∃c,env.cells.lookup x=some c/\h.IsCell c (some u))
structure Cx.Ok(X:Cx):Prop where
 mod:Mod X.K X.mg X.base
 kind:X.env.scope.kind=.function
 glob:X.env.globals=mainGlobals
 blt:X.env.builtins=builtinsNs
 above:X.s₀.heap.objs.size<=X.env.locals
 inj:∀x y c,X.env.cells.lookup x=some c->X.env.cells.lookup y=some c->x=y
 has:∀x,(X.env.kindOf x=some .cell\/X.env.kindOf x=some .free)->∃c,X.env.cells.lookup x=some c
 cab:∀x c,X.fn x=true->X.env.cells.lookup x=some c->X.s₀.heap.objs.size<=c
 hd:X.calm=true->X.A.handled=none
 frames:X.A.frames=some X.stack
 stk:X.stack=X.outer\/(X.stack=X.env::X.outer/\X.env.frame=some X.env.locals)
 exf:∀b∈X.ex,b≠X.env.locals/\∀x c,X.env.cells.lookup x=some c->c≠b
 bs:∀b o,X.base.get? b=some o->X.s₀.heap.get? b=some o/\X.H₀ b=none
 bsz:X.base.objs.size<=X.s₀.heap.objs.size
 noex:∀b o,X.base.get? b=some o->b∉X.ex
 exfs:∀b∈X.ex,b∉X.fs
 funs:X.s₀.heap.FunFrames X.base X.outer
 frf:∀b∈X.fs,X.H₀ b=none
structure Inv(X:Cx)(pins:Mw)(σ:List (Option V))(H:Hp)(s:My):Prop where
 ok:X.Ok
 os:s.os=X.s₀.os
 bare:AllBare s.gens
 base:Un X.fs X.ex X.H₀ H X.s₀.heap s.heap
 loc:∃m,s.heap.Ns X.env.locals m/\∀(i:Nat) (x:Str) (v:V),X.N[i]?=some x->σ[i]?=some (some v)->Hz X.env.scope x->∃u,bx v u/\Ig X.env s.heap m x u
 cell:∀x c,X.env.cells.lookup x=some c->∃v,s.heap.IsCell c v
 free:H X.env.locals=none
 freeC:∀x c,X.env.cells.lookup x=some c->H c=none
 pin:∀p∈X.pn++pins,s.heap.get? p.1=some p.2/\H p.1=none/\p.1≠X.env.locals/\p.1∉X.fs/\∀v,p.2.data≠.cell v
 hok:jD X.prog X.w H s.heap
 len:σ.length=X.N.length
section
variable {X:Cx}{pins:Mw}{σ:List (Option V)}{H H':Hp}{s:My}{h':Heap}
theorem Cx.Ok.nofr(ok:X.Ok){b:Addr}{o:Obj}(e:X.base.get? b=some o):b∉X.fs:=λhb=>by
 have:=(ok.funs.mem hb).1;rw[e]at this;cases this
theorem Inv.bs(I:Inv X pins σ H s):∀b o,X.base.get? b=some o->s.heap.get? b=some o/\H b=none:=λb o e=>
 ⟨I.base.keep b o (I.ok.bs b o e).1 (I.ok.bs b o e).2 (I.ok.nofr e) (I.ok.noex b o e),I.base.free b o (I.ok.bs b o e).1 (I.ok.bs b o e).2 (I.ok.noex b o e)⟩
theorem Inv.bk(I:Inv X pins σ H s):∀b o,X.base.get? b=some o->s.heap.get? b=some o:=λb o e=>(I.bs b o e).1
theorem Inv.mod(I:Inv X pins σ H s):Mod X.K X.mg X.base:=I.ok.mod
theorem Inv.kIn(I:Inv X pins σ H s):X.K.In s.heap:=I.ok.mod.kin.keeps I.bk
theorem Inv.lt(I:Inv X pins σ H s):X.env.locals<s.heap.objs.size:=let ⟨_,hn,_⟩:=I.loc;hn.lt
theorem Inv.sz(I:Inv X pins σ H s):X.s₀.heap.objs.size<=s.heap.objs.size:=L9 I.ok.above (q0P I.lt)
theorem Inv.nofs(I:Inv X pins σ H s){a:Addr}(h:s.heap.objs.size<=a):a∉X.fs:=λhb=>by
 obtain⟨_,o,ho,_⟩:=I.ok.funs.mem hb;exact q0Q (LV (L5 ho) (L9 I.sz h)) (L_ _)
theorem Inv.cne(I:Inv X pins σ H s):∀x c,X.env.cells.lookup x=some c->c≠X.env.locals:=λx c e z=>by
 obtain⟨v,o,ho,hd⟩:=I.cell x c e;obtain⟨m,⟨o',es,ep,ho',hd',_⟩,_⟩:=I.loc;rw[z,ho']at ho;cases ho;rw[hd']at hd;cases hd
theorem Inv.funs(I:Inv X pins σ H s):s.heap.FunFrames X.base X.outer:=by
 have all:∀(l:List Env),(∀b∈pz l,b∈X.fs)->X.s₀.heap.FunFrames X.base l->s.heap.FunFrames X.base l:=by
  intro l
  induction l with
  |nil=>intro _ _;trivial
  |cons env r ih=>
   intro g m;obtain⟨n,⟨L,o,a,j,i,p⟩,hr⟩:=m;have d:L∈X.fs:=g L (by unfold pz;rw[q0U,a];exact q0B);obtain⟨sl,e⟩:=I.base.slot L o i (I.ok.frf L d) d λz=>I.ok.exfs L z d;exact⟨n,⟨L,_,a,j,e,p⟩,ih (λb c=>g b (by unfold pz;rw[q0U,a];exact LS _ c)) hr⟩
 exact all X.outer (λ_ c=>c) I.ok.funs
theorem Inv.stack(I:Inv X pins σ H s):s.heap.FunFrames X.base X.stack:=by
 rcases I.ok.stk with e | ⟨e,b⟩
 ·rw[e];exact I.funs
 ·rw[e]
  obtain⟨m,a,_⟩:=I.loc;refine .cons (by rw[I.ok.kind];decide) b a ?_ I.funs;exact Heap.get?_none_of_le (L9 I.ok.bsz I.ok.above)
theorem Inv.stkSub(I:Inv X pins σ H s):∀b∈pz X.stack,b∈X.env.locals::X.fs:=λb hb=>by
 rcases I.ok.stk with e | ⟨e,hf⟩
 ·rw[e]at hb;exact LS _ hb
 ·rw[e]at hb
  unfold pz at hb;rw[q0U,hf]at hb;exact hb
theorem Inv.stkFree(I:Inv X pins σ H s):∀b∈pz X.stack,H b=none:=λb hb=>by
 rcases LR.mp (I.stkSub b hb) with e | hb
 ·rw[e];exact I.free
 ·obtain⟨_,o,ho,_⟩:=I.ok.funs.mem hb
  exact I.base.free b o ho (I.ok.frf b hb) λz=>I.ok.exfs b z hb
theorem Inv.step{t':Nat}{d':Drawn}{ch:MA}(I:Inv X pins σ H s)
  (hch:∀b∈ch,(b∈X.ex\/X.s₀.heap.objs.size<=b)/\b≠X.env.locals/\(∀x c,X.env.cells.lookup x=some c->c≠b)/\∀p∈X.pn++pins,p.1≠b)
  (keep:∀b o,b≠X.env.locals->b∉X.fs->b∉ch->s.heap.get? b=some o->H b=none->h'.get? b=some o)
  (slot:∀b o,b≠X.env.locals->b∈X.fs->b∉ch->s.heap.get? b=some o->H b=none->∃sl,h'.get? b=some {o with slots:=sl}) (free:∀b o,b∉ch->s.heap.get? b=some o->H b=none->H' b=none)
  (there:∀b o,b∉ch->s.heap.get? b=some o->∃o',h'.get? b=some o')
  (tups:∀b xs,H b=some (.tup xs)->H' b=some (.tup xs)) (frzs:∀b o u,H b=some (.frz o u)->H' b=some (.frz o u)) (tbls:∀b ps,H b=some (.tbl ps)->∃more,H' b=some (.tbl (ps++more)))
  (ns:∀m,s.heap.Ns X.env.locals m->h'.Ns X.env.locals m) (hok:jD X.prog X.w H' h') (hg:AllBare g') :
  Inv X pins σ H' {s with heap:=h',gens:=g',drawn:=d',toks:=t' }:=by
 have D:∀b o,X.s₀.heap.get? b=some o->b≠X.env.locals:=λb o e=>LW (LV (L5 e) I.ok.above);have w:∀b o,X.s₀.heap.get? b=some o->b∉X.ex->b∉ch:=λb o e a B=>by
  rcases(hch b B).1 with z | z
  ·exact a z
  ·exact q0Q (LV (L5 e) z) (L_ _)
 have j:∀x c,X.env.cells.lookup x=some c->∀v,s.heap.IsCell c v->h'.IsCell c v:=λx c e v ⟨o,C,L⟩=>by
  have g:c∉ch:=λz=>(hch c z).2.2.1 x c e rfl
  by_cases R:c∈X.fs
  ·obtain⟨sl,q⟩:=slot c o (I.cne x c e) R g C (I.freeC x c e)
   exact⟨_,q,L⟩
  ·exact⟨o,keep c o (I.cne x c e) R g C (I.freeC x c e),L⟩
 refine⟨I.ok,I.os,hg,⟨λb o e n B a=>?_,λb o e n B a=>?_,λb o e n a=>?_,λb o e a=>?_,λb xs e=>tups b xs (I.base.tups b xs e),λb o xs e=>frzs b o xs (I.base.frzs b o xs e),λb ps e=>?_⟩,?_,λx c e=>?_,?_,λx c e=>?_,λp O=>?_,hok,I.len⟩
 ·exact keep b o (D b o e) B (w b o e a) (I.base.keep b o e n B a) (I.base.free b o e n a)
 ·obtain⟨sl,y⟩:=I.base.slot b o e n B a
  obtain⟨J,G⟩:=slot b _ (D b o e) B (w b o e a) y (I.base.free b o e n a);exact⟨J,G⟩
 ·obtain⟨o',y⟩:=I.base.there b o e a
  exact free b o' (w b o e a) y (I.base.free b o e n a)
 ·obtain⟨o',y⟩:=I.base.there b o e a
  exact there b o' (w b o e a) y
 ·obtain⟨m1,y⟩:=I.base.tbls b ps e
  obtain⟨S,G⟩:=tbls b _ y;exact⟨m1++S,by rw[G,Array.append_assoc]⟩
 ·obtain⟨m,T,U⟩:=I.loc
  refine⟨m,ns m T,λi x v y G Y=>?_⟩;obtain⟨u,r,l⟩:=U i x v y G Y;refine⟨u,r,?_⟩;rcases l with l | ⟨k,c,e,z⟩
  ·exact .inl l
  ·exact .inr ⟨k,c,e,j x c e _ z⟩
 ·obtain⟨v,z⟩:=I.cell x c e
  exact⟨v,j x c e v z⟩
 ·obtain⟨m,⟨o,_,_,C,_⟩,_⟩:=I.loc
  exact free _ o (λz=>(hch _ z).2.1 rfl) C I.free
 ·obtain⟨v,o,C,L⟩:=I.cell x c e
  exact free c o (λz=>(hch c z).2.2.1 x c e rfl) C (I.freeC x c e)
 ·obtain⟨e,n,ne,M,d⟩:=I.pin p O
  have g:p.1∉ch:=λz=>(hch p.1 z).2.2.2 p O rfl;exact⟨keep p.1 p.2 ne M g e n,free p.1 p.2 g e n,ne,M,d⟩
theorem Inv.un{t':Nat}(I:Inv X pins σ H s)(u:Un X.fs [] H H' s.heap h')(hok:jD X.prog X.w H' h'):Inv X pins σ H' {s with heap:=h',toks:=t' }:=by
 obtain⟨m,⟨o,es,ep,i,r⟩,_⟩:=id I.loc;obtain⟨sl,p⟩:=u.any i I.free (by simp);exact I.step (g':=s.gens) (d':=s.drawn) (ch:=[]) (λ_ z=>nomatch z) (λb o _ c _ e n=>u.keep b o e n c (by simp)) (λb o _ c _ e n=>u.slot b o e n c (by simp)) (λb o _ e n=>u.free b o e n (by simp)) (λb o _ e=>u.there b o e (by simp)) u.tups u.frzs u.tbls (λm' l=>by
  obtain⟨o',d,g,a,j⟩:=l;rw[i]at a;cases a
  exact⟨_,d,g,p,j⟩) hok I.bare
theorem Inv.call{t':Nat}{d':Drawn}{ch:MA}(I:Inv X pins σ H s)(u:Un (pz X.stack) ch H H' s.heap h')(hok:jD X.prog X.w H' h')(hg:AllBare g')
  (hch:∀b∈ch,(b∈X.ex\/X.s₀.heap.objs.size<=b)/\b≠X.env.locals/\(∀x c,X.env.cells.lookup x=some c->c≠b)/\∀p∈X.pn++pins,p.1≠b) :
  Inv X pins σ H' {s with heap:=h',gens:=g',drawn:=d',toks:=t' }:=by
 obtain⟨m,⟨o,es,ep,l,r⟩,_⟩:=id I.loc;obtain⟨sl,g⟩:=u.any l I.free λz=>(hch _ z).2.1 rfl;exact I.step (ch:=ch) hch (λb o g w a e n=>u.keep b o e n (λz=>(LR.mp (I.stkSub b z)).elim g w) a) (λb o _ _ a e n=>u.any e n a) (λb o a e n=>u.free b o e n a) (λb o a e=>u.there b o e a) u.tups u.frzs u.tbls (λm' v=>by
  obtain⟨o',i,j,d,q⟩:=v;rw[l]at d;cases d
  exact⟨_,i,j,g,q⟩) hok hg
theorem Inv.turned{t':Nat}{it:Addr}(I:Inv X pins σ H s)(k:∀b o,b≠it->s.heap.get? b=some o->h'.get? b=some o)(hn:H it=none)(hL:it≠X.env.locals)
  (h1:it∈X.ex\/X.s₀.heap.objs.size<=it) (h2:∀x c,X.env.cells.lookup x=some c->c≠it) (h3:∀p∈X.pn++pins,p.1≠it):Inv X pins σ H {s with heap:=h',toks:=t' }:=by
 have d:∀b u,H b=some u->b≠it:=λb u e z=>by rw[z,hn]at e;cases e
 refine I.step (g':=s.gens) (d':=s.drawn) (ch:=[it]) (λb j=>?_) (λb o _ _ a e _=>k b o (λz=>a (by simp[z])) e) (λb o _ _ a e _=>⟨o.slots,k b o (λz=>a (by simp[z])) e⟩) (λ_ _ _ _ n=>n)
  (λb o a e=>⟨o,k b o (λz=>a (by simp[z])) e⟩) (λ_ _ e=>e) (λ_ _ _ e=>e) (λb ps e=>⟨#[],by rw[e];simp⟩) (λm i=>?_) (λb u e=>?_) I.bare
 ·have e:b=it:=by simpa using j
  subst e;exact⟨h1,hL,h2,h3⟩
 ·obtain⟨o,l,w,g,r⟩:=i
  exact⟨o,l,w,k _ o (Ne.symm hL) g,r⟩
 ·refine(I.hok b u e).stay (λc v a q=>k c v ?_ q) (λ_ q=>q) λ_ _ q=>q
  rcases a with z | z
  ·rw[z];exact d b u e
  ·exact d c _ z
theorem Inv.tok(I:Inv X pins σ H s)(t:Nat):Inv X pins σ H {s with toks:=t}:=I.un (h':=s.heap) (t':=t) Un.refl I.hok
theorem Inv.kept{t':Nat}(I:Inv X pins σ H s)(k:∀b u,s.heap.get? b=some u->h'.get? b=some u):Inv X pins σ H {s with heap:=h',toks:=t' }:=I.un (Un.kept k) (I.hok.kept k)
theorem Inv.laid{a:Addr}{t':Nat}(I:Inv X pins σ H s)(k:∀b u,s.heap.get? b=some u->h'.get? b=some u)(hp:s.heap.objs.size<=a)(new:b6 X.prog X.w (aD H a o) h' a o) :
  Inv X pins σ (aD H a o) {s with heap:=h',toks:=t' }:=I.un (Un.laid k hp (I.hok.fresh hp)) (I.hok.laid k hp new)
theorem Inv.write{e:Addr}{t':Nat}(I:Inv X pins σ H s)(mu:Hm (H x))(he:e=x\/H e=some (.own x))(k:∀b u,b≠e->s.heap.get? b=some u->h'.get? b=some u)(heo:∃u,h'.get? e=some u)
  (new:b6 X.prog X.w (aD H x o) h' x o):Inv X pins σ (aD H x o) {s with heap:=h',toks:=t' }:=I.un (Un.write mu he k heo) (I.hok.write mu he k heo new)
theorem Inv.pins_of{pins':Mw}(I:Inv X pins σ H s)(h:∀p∈pins',s.heap.get? p.1=some p.2/\H p.1=none/\p.1≠X.env.locals/\p.1∉X.fs/\∀v,p.2.data≠.cell v):Inv X pins' σ H s:=
 ⟨I.ok,I.os,I.bare,I.base,I.loc,I.cell,I.free,I.freeC,λp hp=>(LP.mp hp).elim (λz=>I.pin p (q0D _ z)) (h p),I.hok,I.len⟩
theorem vt{N:MF}(hN:N.Nodup){i j:Nat}{x:Str}(a:N[i]?=some x)(b:N[j]?=some x):i=j:=by
 obtain⟨h1,d⟩:=LA.mp a;obtain⟨h2,c⟩:=LA.mp b;exact(List.getElem_inj hN).mp (d.trans c.symm)
theorem rV{i:Nat}{x:Str}{Q:Unit->Shared->Prop}(I:Inv X pins σ H s)(hN:X.N.Nodup)(hi:X.N[i]?=some x)(hx:Loc X.env.scope x)(r:bx v u)
  (h:∀s',Inv X pins (σ.set i (some v)) H s'->(∃a,Heap.SameBut a s.heap s'.heap/\(a=X.env.locals\/X.env.cells.lookup x=some a))->Q () s') (hf:autoParam (X.fn x=true\/X.env.scope.names.lookup x=some .local) zz3._auto_1):wpAny M A (storeName X.env x u) Q E s:=by
 obtain⟨m,hn,hl⟩:=id I.loc;have U:(X.env.scope.kind==.class||(X.env.scope.kind==.module&&X.env.locals != X.env.globals))=false:=by rw[I.ok.kind];rfl
 have T:i<σ.length:=by rw[I.len];exact(LA.mp hi).1
 have cne:=I.cne;have l:∀{a:Addr} {O:Heap},(∃o,s.heap.get? a=some o/\H a=none)->Heap.SameBut a s.heap O->jD X.prog X.w H O:=fun{a O} ha g b ob e=>by
  obtain⟨_,_,C⟩:=ha;refine(I.hok b ob e).stay (λc w' hc q=>(g.2 c ?_).trans q) (λ_ q=>q) λ_ _ q=>q;rintro rfl;rcases hc with rfl | hc
  ·rw[C]at e;cases e
  ·rw[C]at hc;cases hc
 rcases hx with hk | hk
 ·refine wpAny_storeName_local hk hn (λO a1 g=>?_) U
  obtain⟨oL,_,_,a0,_⟩:=id hn;refine h _ ⟨I.ok,I.os,I.bare,⟨λb o e n L hx=>?_,λb o e n L hx=>?_,I.base.free,λb o e hx=>?_,I.base.tups,I.base.frzs,I.base.tbls⟩,⟨_,a1,λj y v' B D e3=>?_⟩,λy c e=>?_,I.free,I.freeC,λp hp=>?_,l ⟨oL,a0,I.free⟩ g,by simpa using I.len⟩ ⟨_,g,.inl rfl⟩
  ·exact(g.2 b (LW (LV (L5 e) I.ok.above))).trans (I.base.keep b o e n L hx)
  ·obtain⟨sl,B⟩:=I.base.slot b o e n L hx
   exact⟨sl,(g.2 b (LW (LV (L5 e) I.ok.above))).trans B⟩
  ·obtain⟨o',B⟩:=I.base.there b o e hx
   exact⟨o',(g.2 b (LW (LV (L5 e) I.ok.above))).trans B⟩
  ·by_cases G:j=i
   ·subst G
    rw[hi]at B;cases B
    rw[Mc T]at D;cases D;exact⟨u,r,.inl ⟨hk,by simp⟩⟩
   ·rw[List.getElem?_set_ne (Ne.symm G)]at D
    obtain⟨u',r',q⟩:=hl j y v' B D e3;refine⟨u',r',?_⟩;rcases q with⟨k,e⟩ | ⟨k,c,e,z⟩
    ·refine .inl ⟨k,?_⟩
     have:y≠x:=λe=>G (vt hN B (e▸hi));simp[this,e]
    ·exact .inr ⟨k,c,e,z.sameBut g (cne y c e)⟩
  ·obtain⟨w',z⟩:=I.cell y c e
   exact⟨w',z.sameBut g (cne y c e)⟩
  ·obtain⟨e,n,ne,nf,d⟩:=I.pin p hp
   exact⟨(g.2 p.1 ne).trans e,n,ne,nf,d⟩
 ·have J:X.fn x=true:=by
   rcases hf with z | z
   ·exact z
   ·rw[z]at hk;cases hk
  obtain⟨c,hc⟩:=I.ok.has x (.inl hk);obtain⟨w',z⟩:=I.cell x c hc;refine wpAny_storeName_cell I.ok.kind hk hc z (λO Z g=>?_);obtain⟨oc,S,R⟩:=id z;refine h {s with heap:=O } ⟨I.ok,I.os,I.bare,⟨λb o e n L hx=>?_,λb o e n L hx=>?_,I.base.free,λb o e hx=>?_,I.base.tups,I.base.frzs,I.base.tbls⟩,⟨m,hn.sameBut g (Ne.symm (cne x c hc)),λj y v' B D e3=>?_⟩,λy c' e=>?_,I.free,I.freeC,λp hp=>?_,l ⟨oc,S,I.freeC x c hc⟩ g,by simpa using I.len⟩ ⟨c,g,.inr hc⟩
  ·exact(g.2 b (LW (LV (L5 e) (I.ok.cab x c J hc)))).trans (I.base.keep b o e n L hx)
  ·obtain⟨sl,B⟩:=I.base.slot b o e n L hx
   exact⟨sl,(g.2 b (LW (LV (L5 e) (I.ok.cab x c J hc)))).trans B⟩
  ·obtain⟨o',B⟩:=I.base.there b o e hx
   exact⟨o',(g.2 b (LW (LV (L5 e) (I.ok.cab x c J hc)))).trans B⟩
  ·by_cases G:j=i
   ·subst G
    rw[hi]at B;cases B
    rw[Mc T]at D;cases D;exact⟨u,r,.inr ⟨.inl hk,c,hc,Z⟩⟩
   ·rw[List.getElem?_set_ne (Ne.symm G)]at D
    obtain⟨u',r',q⟩:=hl j y v' B D e3;refine⟨u',r',?_⟩;rcases q with q | ⟨k,c',e,z'⟩
    ·exact .inl q
    ·refine .inr ⟨k,c',e,z'.sameBut g ?_⟩
     rintro rfl;exact G (vt hN B (I.ok.inj _ _ _ e hc▸hi))
  ·by_cases Y:c'=c
   ·subst Y;exact⟨_,Z⟩
   ·obtain⟨w2,z2⟩:=I.cell y c' e
    exact⟨w2,z2.sameBut g Y⟩
  ·obtain⟨e,n,ne,nf,d⟩:=I.pin p hp
   refine⟨(g.2 p.1 ?_).trans e,n,ne,nf,d⟩;intro q;rw[q,S]at e;have q':oc=p.2:=q0S e;exact d w' (by rw[<- q'];exact R)
theorem vP{i:Nat}{x:Str}{Q:Unit->Shared->Prop}(I:Inv X pins σ H s)(hN:X.N.Nodup)(hi:X.N[i]?=some x)(hx:Loc X.env.scope x)(r:bx v u)
  (h:∀s',Inv X pins (σ.set i (some v)) H s'->Q () s') (hf:autoParam (X.fn x=true\/X.env.scope.names.lookup x=some .local) zz3._auto_1):wpAny M A (storeName X.env x u) Q E s:=
 rV I hN hi hx r (λs' I' _=>h s' I') hf
theorem Inv.call'{s':My}{ch:MA}(I:Inv X pins σ H s)(ho:s'.os=s.os)(u:Un (pz X.stack) ch H H' s.heap s'.heap)(hok:jD X.prog X.w H' s'.heap)(hg:AllBare s'.gens)
  (hch:∀b∈ch,(b∈X.ex\/X.s₀.heap.objs.size<=b)/\b≠X.env.locals/\(∀x c,X.env.cells.lookup x=some c->c≠b)/\∀p∈X.pn++pins,p.1≠b):Inv X pins σ H' s':=by
 obtain⟨h',g',d',t',a⟩:=s';have e:a=s.os:=ho;subst e;exact I.call (g':=g') (t':=t') (d':=d') u hok hg hch
end
abbrev XK:=Value->Option Addr->Hp->Prop
abbrev St:=List (Option V)
abbrev VK:=V->Hp->Prop
abbrev TE:=St->Hp->VK->Prop
abbrev TT:=St->Hp->(Bool->Hp->Prop)->Prop
abbrev TA:=St->Hp->(List V->Hp->Prop)->Prop
structure fB where
 nx:St->Hp->Prop
 rt:VK
 bk:St->Hp->Prop:=λ_ _=>False
 ct:St->Hp->Prop:=λ_ _=>False
abbrev TS:=fB->St->Hp->Prop
inductive EP(X:Cx)(pins:Mw)(σ:St)(Q:VK)(u:Value)(s':My):Prop
 |mk (v:V) (H':Hp) (_:Inv X pins σ H' s') (_:bx v u) (_:Q v H')
inductive TP(X:Cx)(pins:Mw)(σ:St)(Q:Bool->Hp->Prop)(b:Bool)(s':My):Prop
 |mk (H':Hp) (_:Inv X pins σ H' s') (_:Q b H')
inductive AP(X:Cx)(pins:Mw)(σ:St)(Q:List V->Hp->Prop)(us:Mz)(s':My):Prop
 |mk (vs:List V) (H':Hp) (_:Inv X pins σ H' s') (_:bc vs us) (_:Q vs H')
inductive SN(X:Cx)(pins:Mw)(D:St->Hp->Prop)(s':My):Prop
 |mk (σ':St) (H':Hp) (_:Inv X pins σ' H' s') (_:D σ' H')
inductive SR(X:Cx)(pins:Mw)(D:V->Hp->Prop)(u:Value)(s':My):Prop
 |mk (v:V) (σ':St) (H':Hp) (_:Inv X pins σ' H' s') (_:bx v u) (_:D v H')
def SP(X:Cx)(pins:Mw)(D:fB)(f:Flow)(s':My):Prop:=
 match f with
 | .next=>SN X pins D.nx s'
 | .brk=>SN X pins D.bk s'
 | .cont=>SN X pins D.ct s'
 | .ret u=>SR X pins D.rt u s'
def PE(X:Cx)(e:Expr)(t:TE):Prop:=
 ∀(pins:Mw) (s:My) (σ:St) (H:Hp) (Q:VK),Inv X pins σ H s->t σ H Q->wpAny (model X.prog X.w) X.A (eval e X.env) (EP X pins σ Q) X.xe s
def PT(X:Cx)(e:Expr)(t:TT):Prop:=
 ∀(pins:Mw) (s:My) (σ:St) (H:Hp) (Q:Bool->Hp->Prop),Inv X pins σ H s->t σ H Q->wpAny (model X.prog X.w) X.A (isTrue e X.env (eval e X.env)) (TP X pins σ Q) X.xe s
def PW(X:Cx)(e:Expr)(t:TT):Prop:=
 ∀(whole:Sem Value) (pins:Mw) (s:My) (σ:St) (H:Hp) (Q:Bool->Hp->Prop),Inv X pins σ H s->t σ H Q->wpAny (model X.prog X.w) X.A (isTrue e X.env whole) (TP X pins σ Q) X.xe s
theorem PW.pt{t:TT}(h:PW X e t):PT X e t:=h _
def PA(X:Cx)(es:MM)(t:TA):Prop:=
 ∀(pos:Pos) (pins:Mw) (s:My) (σ:St) (H:Hp) (Q:List V->Hp->Prop),Inv X pins σ H s->t σ H Q->wpAny (model X.prog X.w) X.A (spliced (backTo pos (starEach es X.env))) (AP X pins σ Q) X.xe s
def PS(X:Cx)(st:Stmt)(t:TS):Prop:=
 ∀(pins:Mw) (s:My) (σ:St) (H:Hp) (D:fB),Inv X pins σ H s->t D σ H->wpAny (model X.prog X.w) X.A (exec st X.env) (SP X pins D) X.xe s
def uE(X:Cx)(st:List Stmt)(t:TS):Prop:=
 ∀(pins:Mw) (s:My) (σ:St) (H:Hp) (D:fB),Inv X pins σ H s->t D σ H->wpAny (model X.prog X.w) X.A (execs st X.env) (SP X pins D) X.xe s
theorem bY{α:Type}{t:Sem α}{Q Q':α->Shared->Prop}{s:My}(h:wpAny M A t Q E s)(hQ:∀a s,Q a s->Q' a s):wpAny M A t Q' E s:=q0W h hQ λ_ _ x=>x
section
variable {X:Cx}
def zR(i:Nat):TE:=λσ H Q=>∃v,σ[i]?=some (some v)/\Q v H
def tC(v:V):TE:=λ_ H Q=>Q v H
theorem Ga{i:Nat}{x:Str}{pos:Pos}(hN:X.N[i]?=some x)(hv:Hz X.env.scope x)(hd:autoParam ((x==("__debug__":Str))=false) zz1._auto_1)(hcd:autoParam ((x==("__classdict__":Str))=false) zz1._auto_1):PE X (.Name x pos) (zR i):=by
 intro b s σ H Q I h;obtain⟨v,e,h⟩:=h;obtain⟨m,g,n⟩:=I.loc;obtain⟨u,r,l⟩:=n i x v hN e hv;have dL:EP X b σ Q u s:=⟨v,H,I,r,h⟩;rcases l with⟨hk,j⟩ | ⟨hk,c,d,a⟩
 ·exact wpAny_Name (wpAny_loadName_local I.ok.kind hk g j dL) hd
 ·rcases hk with hk | hk
  ·exact wpAny_Name (wpAny_loadName_cell I.ok.kind hk d a dL) hd
  ·exact wpAny_Name (wpAny_loadName_free I.ok.kind hk d a dL hcd) hd
theorem aj{i j pos}:PE X (.Constant (.int i) j pos) (tC (.int i)):=λ_ _ _ H _ I h=>wpAny_Constant_int ⟨.int i,H,I.tok _,⟨_,rfl⟩,h⟩
theorem rZ{b j pos}:PE X (.Constant (.bool b) j pos) (tC (.bl b)):=λ_ _ _ H _ I h=>Constant_bool ⟨.bl b,H,I,rfl,h⟩
theorem jX{j pos}:PE X (.Constant .none j pos) (tC .non):=λ_ _ _ H _ I h=>Constant_none ⟨.non,H,I,rfl,h⟩
theorem kb{x j pos}:PE X (.Constant (.str x) j pos) (tC (.str x)):=λ_ _ _ H _ I h=>Calls.Constant_str ⟨.str x,H,I.tok _,⟨_,rfl⟩,h⟩
def Gl(X:Cx)(x:Str):Prop:=X.env.kindOf x=some .globalImplicit
theorem kW{pins:Mw}{σ:St}{u:Value}{pos:Pos}{Q:Mu}(I:Inv X pins σ H s)(hg:Gl X x)(hm:X.mg x=some u)(h:Q u s)
  (hd:autoParam ((x==("__debug__":Str))=false) zz1._auto_1):wpAny (model X.prog X.w) X.A (eval (.Name x pos) X.env) Q E s:=
 Calls.Name_function_global I.ok.kind hg (Calls.loadGlobal_global (by rw[I.ok.glob];exact I.mod.glob.keeps I.bk) hm h) hd
theorem eR{pins:Mw}{σ:St}{u:Value}{pos:Pos}{Q:Mu}(I:Inv X pins σ H s)(hg:Gl X x)(hm:X.mg x=none)(hv:bootBuiltins x=some u)(h:Q u s)
  (hn:autoParam (x≠"__name__") zz1._auto_1) (hd:autoParam ((x==("__debug__":Str))=false) zz1._auto_1):wpAny (model X.prog X.w) X.A (eval (.Name x pos) X.env) Q E s:=by
 obtain⟨mb,h1,h2⟩:=I.mod.blt;exact Calls.Name_function_global I.ok.kind hg (Calls.loadGlobal_builtin (by rw[I.ok.glob];exact I.mod.glob.keeps I.bk) hm (by rw[I.ok.blt];exact h1.keeps I.bk) ((h2 x hn).trans hv) h) hd
theorem cM{u:Value}{pos:Pos}(hg:Gl X x)(hm:X.mg x=some u)(r:bx v u)(hd:autoParam ((x==("__debug__":Str))=false) zz1._auto_1):PE X (.Name x pos) (tC v):=
 λ_ _ _ H _ I h=>kW I hg hm ⟨v,H,I,r,h⟩ hd
theorem zm{u:Value}{pos:Pos}(hg:Gl X x)(hm:X.mg x=none)(hv:bootBuiltins x=some u)(r:bx v u)(hn:autoParam (x≠"__name__") zz1._auto_1)(hd:autoParam ((x==("__debug__":Str))=false) zz1._auto_1):PE X (.Name x pos) (tC v):=
 λ_ _ _ H _ I h=>eR I hg hm hv ⟨v,H,I,r,h⟩ hn hd
variable {a b:Expr}{ta tb:TE}{pos:Pos}
def PC(X:Cx)(op:CmpOp)(a b:Expr)(t:TE):Prop:=
 ∀(pins:Mw) (s:My) (σ:St) (H:Hp) (Q:VK),Inv X pins σ H s->t σ H Q ->
  wpAny (model X.prog X.w) X.A (eval a X.env) (λv s₁=>wpAny (model X.prog X.w) X.A (eval b X.env) (λu s₂=>wpAny (model X.prog X.w) X.A (compareOp op v u) (EP X pins σ Q) X.xe s₂) X.xe s₁) X.xe s
theorem Dk(b:Expr){op:CmpOp}(h:op≠.In)(h2:op≠.NotIn):behindInMarks op b=false:=by
 have c:(op==CmpOp.In)=false:=by cases op<;>first | rfl | exact q0Q rfl h
 have a:(op==CmpOp.NotIn)=false:=by cases op<;>first | rfl | exact q0Q rfl h2
 cases b<;>simp[behindInMarks,c,a]
def tB(t:TE):TT:=λσ H Q=>t σ H λx H1=>∃c,x=.bl c/\Q c H1
theorem lL{op:CmpOp}{t:TE}(h:PC X op a b t)(h1:behindInMarks op b=false:=by first | exact Dk _ nofun nofun | rfl):PT X (.Compare a [op] [b] pos) (tB t):=by
 intro e s σ H Q I hw;refine wpAny_isTrue_Compare1 (bY (h e s σ H _ I hw) λv s1 h1=>bY h1 λu s2 h2=>bY h2 λc s3 ⟨x,H1,j,g,i⟩=>?_) h1;obtain⟨d,rfl,q⟩:=i;cases g;exact wpAny_truthy_bool ⟨H1,j,q⟩
variable {tA tB':TT}{cv:MM}
def FD(t u:TT):TT:=λσ H Q=>t σ H λc H1=>if c=true then u σ H1 Q else Q false H1
def IE(t u:TT):TT:=λσ H Q=>t σ H λc H1=>if c=true then Q true H1 else u σ H1 Q
def FZ(t:TT):TT:=λσ H Q=>t σ H λc H1=>Q (!c) H1
theorem fT(ha:PT X a tA):PW X (.BoolOp .And [a] pos) tA:=by
 intro wh b s σ H Q I h;refine isTrue_and (bY (ha b s σ H Q I h) λc s1 e=>?_);cases c with
 |true=>exact isTrue_and_nil e
 |false=>exact e
theorem oU(ha:PT X a tA):PW X (.BoolOp .Or [a] pos) tA:=by
 intro wh b s σ H Q I h;refine isTrue_or (bY (ha b s σ H Q I h) λc s1 e=>?_);cases c with
 |false=>exact isTrue_or_nil e
 |true=>exact e
theorem ge(ha:PT X a tA)(hb:PW X (.BoolOp .And (b::cv) pos) tB'):PW X (.BoolOp .And (a::b::cv) pos) (FD tA tB'):=by
 intro i d s σ H Q I h;refine isTrue_and (bY (ha d s σ H _ I h) λc j ⟨H1,g,e⟩=>?_);cases c with
 |true=>exact hb i d j σ H1 Q g e
 |false=>exact⟨H1,g,e⟩
theorem vw(ha:PT X a tA)(hb:PW X (.BoolOp .Or (b::cv) pos) tB'):PW X (.BoolOp .Or (a::b::cv) pos) (IE tA tB'):=by
 intro i d s σ H Q I h;refine isTrue_or (bY (ha d s σ H _ I h) λc j ⟨H1,g,e⟩=>?_);cases c with
 |true=>exact⟨H1,g,e⟩
 |false=>exact hb i d j σ H1 Q g e
theorem i7(ha:PT X a tA):PT X (.UnaryOp .Not a pos) (FZ tA):=by
 intro b s σ H Q I h;exact isTrue_not (bY (ha b s σ H (λc H1=>Q (!c) H1) I h) λ_ _ ⟨H1,d,q⟩=>⟨H1,d,q⟩)
def BH(ta tb:TE):TE:=λσ H Q=>ta σ H λx H1=>∃c,x=.bl c/\if c=true then tb σ H1 Q else Q (.bl false) H1
def Dx(ta:TE):TE:=λσ H Q=>ta σ H λx H1=>∃c,x=.bl c/\Q (.bl (!c)) H1
theorem wQ{op}{t:TE}(h:PE X a t):PE X (.BoolOp op [a] pos) t:=λpins s σ H Q I hw=>BoolOp_one (h pins s σ H Q I hw)
theorem uH(ha:PE X a ta)(hb:PE X (.BoolOp .And (b::cv) pos) tb):PE X (.BoolOp .And (a::b::cv) pos) (BH ta tb):=by
 intro d s σ H Q I h;refine BoolOp_and (bY (ha d s σ H _ I h) λv i ⟨x,H1,g,j,e⟩=>?_);obtain⟨c,rfl,e⟩:=e;cases j;refine wpAny_truthy_bool ?_;cases c with
 |true=>exact hb d i σ H1 Q g e
 |false=>exact⟨.bl false,H1,g,rfl,e⟩
theorem Gn(ha:PE X a ta):PE X (.UnaryOp .Not a pos) (Dx ta):=by
 intro b s σ H Q I h;refine UnaryOp_ (bY (ha b s σ H _ I h) λv s1 ⟨x,H1,g,e,d⟩=>?_);obtain⟨c,rfl,d⟩:=d;cases e;exact not_of (wpAny_truthy_bool ⟨.bl (!c),H1,g,rfl,d⟩)
def Ij(t:TT)(ta tb:TE):TE:=λσ H Q=>t σ H λc H1=>if c=true then ta σ H1 Q else tb σ H1 Q
theorem C6(hc:PT X c tA)(ha:PE X a ta)(hb:PE X b tb):PE X (.IfExp c a b pos) (Ij tA ta tb):=by
 intro e s σ H Q I h;refine wpAny_IfExp (bY (hc e s σ H _ I h) λd g ⟨H1,j,i⟩=>?_);cases d with
 |true=>exact ha e g σ H1 Q j i
 |false=>exact hb e g σ H1 Q j i
end
def aI(K:Mv)(H:Hp)(a:Addr)(xs:List V):Prop:=
 Rd H a (.lst xs) \/
  ∃(o:Obj) (its:Array Value) (n:Nat),K.lookup a=some o/\o.cls=.type "list"/\o.dict=none/\o.data=.seq its n/\its.size<=sizeLine/\bc xs its.toList
def cK(K:Mv)(H:Hp)(a:Addr)(xs:List V):Prop:=
 Rd H a (.tup xs) \/
  ∃(o:Obj) (its:Array Value) (n:Nat),K.lookup a=some o/\o.cls=.type "tuple"/\o.data=.seq its n/\its.size<=sizeLine/\bc xs its.toList
def Ih:Value->Option V
 | .none=>some .non
 | .bool b=>some (.bl b)
 | .int i _=>some (.int i)
 | .str x _=>some (.str x)
 | .bytes b _=>some (.byt b)
 | .float b _=>some (.flt b)
 | .ref a=>some (.ref a)
 | .type n=>some (.ty n)
 |_=>none
theorem bx.abs(r:bx x u):Ih u=some x:=by
 cases x with
 |non=>cases r;rfl
 |bl _=>cases r;rfl
 |int _=>obtain⟨t,rfl⟩:=r;rfl
 |str _=>obtain⟨t,rfl⟩:=r;rfl
 |byt _=>obtain⟨t,rfl⟩:=r;rfl
 |flt _=>obtain⟨t,rfl⟩:=r;rfl
 |ref _=>cases r;rfl
 |ty _=>cases r;rfl
theorem bx.inj(r:bx x u)(q:bx y u):x=y:=q0S (r.abs.symm.trans q.abs)
theorem bc.inj:∀{xs ys:List V} {us:Mz},bc xs us->bc ys us->xs=ys
 |_,_,_,.nil,.nil=>rfl
 |_,_,_,.cons r t,.cons r' t'=>by rw[r.inj r',bc.inj t t']
section
variable {X:Cx}{pins:Mw}{σ:St}{H:Hp}{s:My}{a:Addr}{xs ys:List V}
theorem aI.of{K:Mv}(h:H a=some (.lst xs)):aI K H a xs:=.inl (.inl h)
theorem cK.of{K:Mv}(h:H a=some (.tup xs)):cK K H a xs:=.inl (.inl h)
theorem Inv.list(I:Inv X pins σ H s)(h:aI X.K H a xs):∃its:List Value,bc xs its/\PlainL s.heap a its.toArray/\xs.length<=sizeLine:=by
 rcases h with h | ⟨o,its,n,c,g,d,b,hz,r⟩
 ·obtain⟨z,its,n,r,e⟩:=h.ok I.hok
  exact⟨its,r,⟨_,n,e,rfl,rfl,rfl⟩,z⟩
 ·refine⟨its.toList,r,⟨o,n,I.kIn a o c,g,d,by simpa using b⟩,?_⟩
  have e:=r.length;simp only[Array.length_toList]at e;omega
theorem Inv.tuple(I:Inv X pins σ H s)(h:cK X.K H a xs):∃its:List Value,bc xs its/\IsTup s.heap a its.toArray/\xs.length<=sizeLine:=by
 rcases h with h | ⟨o,its,n,c,d,b,hz,r⟩
 ·obtain⟨z,its,r,p⟩:=h.ok I.hok
  exact⟨its,r,p,z⟩
 ·refine⟨its.toList,r,⟨o,I.kIn a o c,d,n,by simpa using b⟩,?_⟩
  have e:=r.length;simp only[Array.length_toList]at e;omega
theorem Inv.list_inj(I:Inv X pins σ H s)(h:aI X.K H a xs)(h':aI X.K H a ys):xs=ys:=by
 obtain⟨c,r,⟨o,n,e,_,_,d⟩,_⟩:=I.list h;obtain⟨b,j,⟨o',n',g,_,_,i⟩,_⟩:=I.list h';rw[e]at g;cases g
 rw[d]at i
 injection i with d1 _
 have:c=b:=by simpa using q0R Array.toList d1
 subst this;exact r.inj j
theorem Inv.tuple_inj(I:Inv X pins σ H s)(h:cK X.K H a xs)(h':cK X.K H a ys):xs=ys:=by
 obtain⟨c,r,⟨o,e,_,n,d⟩,_⟩:=I.tuple h;obtain⟨b,j,⟨o',g,_,n',i⟩,_⟩:=I.tuple h';rw[e]at g;cases g
 rw[d]at i
 injection i with d1 _
 have:c=b:=by simpa using q0R Array.toList d1
 subst this;exact r.inj j
end
abbrev Cx.wish(X:Cx)(E:Mu):Cx:={X with xe:=E}
abbrev Cx.nox(X:Cx):Cx:=X.wish λ_ _=>False
theorem Cx.Ok.wish{X:Cx}(ok:X.Ok)(E:Mu):(X.wish E).Ok:=
 ⟨ok.mod,ok.kind,ok.glob,ok.blt,ok.above,ok.inj,ok.has,ok.cab,ok.hd,ok.frames,ok.stk,ok.exf,ok.bs,ok.bsz,ok.noex,ok.exfs,ok.funs,ok.frf⟩
theorem Cx.Ok.unwish{X:Cx}(ok:(X.wish E).Ok):X.Ok:=
 ⟨ok.mod,ok.kind,ok.glob,ok.blt,ok.above,ok.inj,ok.has,ok.cab,ok.hd,ok.frames,ok.stk,ok.exf,ok.bs,ok.bsz,ok.noex,ok.exfs,ok.funs,ok.frf⟩
section
variable {X:Cx}{pins:Mw}{σ:St}{H:Hp}{s:My}{E:Mu}
theorem Inv.wish(I:Inv X pins σ H s)(E:Mu):Inv (X.wish E) pins σ H s:=⟨I.ok.wish E,I.os,I.bare,I.base,I.loc,I.cell,I.free,I.freeC,I.pin,I.hok,I.len⟩
theorem Inv.unwish(I:Inv (X.wish E) pins σ H s):Inv X pins σ H s:=⟨I.ok.unwish,I.os,I.bare,I.base,I.loc,I.cell,I.free,I.freeC,I.pin,I.hok,I.len⟩
theorem SP.unwish{f:Flow}(h:SP (X.wish E) pins D f s'):SP X pins D f s':=by
 cases f with
 |next=>obtain⟨σ',a,I,q⟩:=h;exact⟨σ',a,I.unwish,q⟩
 |brk=>obtain⟨σ',a,I,q⟩:=h;exact⟨σ',a,I.unwish,q⟩
 |cont=>obtain⟨σ',a,I,q⟩:=h;exact⟨σ',a,I.unwish,q⟩
 |ret u=>obtain⟨v,σ',a,I,r,q⟩:=h;exact⟨v,σ',a,I.unwish,r,q⟩
theorem uE.nox{st:List Stmt}{t:TS}(h:uE X.nox st t):uE X st t:=λpins s σ H D I hw=>
 q0W (h pins s σ H D (I.wish _) hw) (λ_ _ q=>q.unwish) λ_ _ z=>False.elim z
end
section
variable {X:Cx}{st:Stmt}{cv:List Stmt}{t u:TS}{e:Expr}{te:TE}{pos:Pos}
def Cv:TS:=λD σ H=>D.nx σ H
def vZ(t u:TS):TS:=λD σ H=>t {D with nx:=u D} σ H
theorem aR:uE X [] Cv:=λ_ _ σ H _ I h=>wpAny_execs_nil ⟨σ,H,I,h⟩
theorem ad(h1:PS X st t)(h2:uE X cv u):uE X (st::cv) (vZ t u):=by
 intro a s σ H D I h;refine wpAny_execs_cons (bY (h1 a s σ H {D with nx:=u D} I h) λf b q=>?_);cases f with
 |next=>
  obtain⟨σ',d,c,q⟩:=q;exact h2 a b σ' d D c q
 |ret v=>exact q
 |brk=>exact q
 |cont=>exact q
theorem ai(h1:PS X st t):uE X [st] t:=by
 intro a s σ H D I h;refine wpAny_execs_cons (bY (h1 a s σ H D I h) λf s1 q=>?_);cases f with
 |next=>exact wpAny_execs_nil q
 |ret v=>exact q
 |brk=>exact q
 |cont=>exact q
theorem Inv.quiet{pins:Mw}{σ:St}(I:Inv X pins σ H s):interactive X.env=false:=by simp[interactive,I.ok.kind]
def BW(te:TE):TS:=λD σ H=>te σ H λ_ H1=>D.nx σ H1
theorem a_(he:PE X e te)(hs:autoParam (swapsWith e none pos.line X.env=pure false) zz0._auto_1):PS X (.Expr e pos) (BW te):=by
 intro a s σ H D I h;exact wpAny_Expr_any (bY (he a s σ H _ I h) λv s1 ⟨x,H1,c,r1,b⟩=>⟨σ,H1,c,b⟩) I.quiet hs
def FH(te:TE):TS:=λD σ H=>te σ H D.rt
theorem aG(he:PE X e te):PS X (.Return (some e) pos) (FH te):=by
 intro a s σ H D I h;exact wpAny_Return_some (bY (he a s σ H _ I h) λv s1 ⟨x,H1,d,b,c⟩=>⟨x,σ,H1,d,b,c⟩)
def Dc:TS:=λD _ H=>D.rt .non H
theorem nI:PS X (.Return none pos) Dc:=λ_ _ σ H _ I h=>wpAny_Return_none ⟨.non,σ,H,I,rfl,h⟩
def zI(c:TT)(t u:TS):TS:=λD σ H=>c σ H λb H1=>if b=true then t D σ H1 else u D σ H1
theorem bM{tc:TT}(hc:PT X c tc)(ha:uE X a t)(hb:uE X b u):PS X (.If c a b pos) (zI tc t u):=by
 intro e s σ H D I h;refine wpAny_If (bY (hc e s σ H _ I h) λd g ⟨H1,j,i⟩=>?_);cases d with
 |true=>exact ha e g σ H1 D j i
 |false=>exact hb e g σ H1 D j i
end
abbrev TG:=V->St->Hp->(St->Hp->Prop)->Prop
abbrev DA:=List V->St->Hp->(St->Hp->Prop)->Prop
def PG(X:Cx)(target:Expr)(t:TG):Prop:=
 ∀(pins:Mw) (s:My) (σ:St) (H:Hp) (v:V) (u:Value) (Q:St->Hp->Prop),Inv X pins σ H s->bx v u->t v σ H Q ->
  wpAny (model X.prog X.w) X.A (assign target X.env u) (λ_ s'=>SN X pins Q s') X.xe s
def GF(X:Cx)(ts:MM)(t:DA):Prop:=
 ∀(pins:Mw) (s:My) (σ:St) (H:Hp) (vs:List V) (us:Mz) (Q:St->Hp->Prop),Inv X pins σ H s->bc vs us->t vs σ H Q ->
  wpAny (model X.prog X.w) X.A (assignInOrder ((assignEach ts X.env).map (·.2)) us) (λ_ s'=>SN X pins Q s') X.xe s
section
variable {X:Cx}{pos:Pos}
def iY(i:Nat):TG:=λv σ H Q=>Q (σ.set i (some v)) H
theorem au{i:Nat}{x:Str}(hN:X.N.Nodup)(hi:X.N[i]?=some x)(hx:Loc X.env.scope x)(hf:autoParam (X.fn x=true\/X.env.scope.names.lookup x=some .local) zz3._auto_1):PG X (.Name x pos) (iY i):=by
 intro pins s σ H v u Q I r h;exact wpAny_assign_Name (vP I hN hi hx r (λs' a=>⟨_,H,a,h⟩) hf)
theorem q02(i:Nat){x:Str}(hN:X.N.Nodup)(hi:autoParam (X.N[i]?=some x) zz0._auto_1)(hx:autoParam (Loc X.env.scope x) zzl._auto_1)(hf:autoParam (X.fn x=true\/X.env.scope.names.lookup x=some .local) zz3._auto_1):PG X (.Name x pos) (iY i):=au hN hi hx hf
def EQ:DA:=λvs σ H Q=>vs=[]/\Q σ H
def yP(t:TG)(u:DA):DA:=λvs σ H Q=>∃v r,vs=v::r/\t v σ H λσ' H'=>u r σ' H' Q
theorem cW:GF X [] EQ:=by
 intro pins s σ H vs us Q I r h;obtain⟨e,h⟩:=h;subst e;cases r;exact assignInOrder_nil ⟨σ,H,I,h⟩
theorem aW{e:Expr}{es:MM}{t:TG}(h1:PG X e t)(h2:GF X es u)
  (hs:autoParam ((assignEach (e::es) X.env).map (·.2)=assign e X.env::(assignEach es X.env).map (·.2)) zz0._auto_1):GF X (e::es) (yP t u):=by
 intro a s σ H vs us Q I r h;obtain⟨v,vr,d,h⟩:=h;subst d;cases r with
 |cons r rr=>
  rw[hs];refine assignInOrder_cons (bY (h1 a s σ H _ _ _ I r h) λ_ b ⟨σ1,H1,g,c⟩=>?_);exact h2 a b σ1 H1 _ _ Q g rr c
def w8(K:Mv)(n:Nat)(t:DA):TG:=λv σ H Q=>∃a xs,v=.ref a/\cK K H a xs/\xs.length=n/\t xs σ H Q
theorem ye{es:MM}{k:Nat}{t:DA}{n:Nat}(hc:X.calm=true)(h:GF X es t)
  (hn:autoParam ((assignEach es X.env).length=n) zz0._auto_1) (hst:autoParam ((assignEach es X.env).findIdx? (·.1)=none) zz0._auto_1):PG X (.Tuple es k pos) (w8 X.K n t):=by
 intro c s σ H v u Q I r d;obtain⟨a,i,w,m,p,d⟩:=d;subst w;cases r;obtain⟨its,g,l,hz⟩:=I.tuple m;refine assign_Tuple_tuple (I.ok.hd hc) l (by simp[hn,<- p,g.length]) hst λq j=>?_;have x:Inv X c σ H {s with heap:=q }:=I.kept (t':=s.toks) λb o e=>j b o (LW (L5 e)) e;exact h c _ σ H i _ Q x (by simpa using g) d
def wX(te:TE)(g:TG):TS:=λD σ H=>te σ H λx H1=>g x σ H1 D.nx
theorem sU{tg:Expr}{te:TE}(he:PE X e te)(hg:PG X tg g)(hs:autoParam (swapsWithSole [tg] e pos.line X.env=pure false) zz0._auto_1)(hw:autoParam (swappedStores [tg] e X.env=pure none) zz0._auto_1)
  (h1:autoParam ((assignEach [tg] X.env).map (·.2)=[assign tg X.env]) zz0._auto_1):PS X (.Assign [tg] e pos) (wX te g):=by
 intro a s σ H D I h;refine wpAny_Assign_stores (bY (he a s σ H _ I h) λv b ⟨x,H1,i,c,d⟩=>?_) hs hw;rw[h1];exact bY (hg a b σ H1 x v _ i c d) λ_ s2 q=>q
theorem ay{i:Nat}{x:Str}{te:TE}{pos':Pos}(hN:X.N.Nodup)(hi:X.N[i]?=some x)(hx:Loc X.env.scope x)(he:PE X e te)(hs:autoParam (swapsWith e (some (.Name x pos')) pos.line X.env=pure false) zz0._auto_1)(hf:autoParam (X.fn x=true\/X.env.scope.names.lookup x=some .local) zz3._auto_1) :
  PS X (.Assign [.Name x pos'] e pos) (wX te (iY i)):=by
 intro a s σ H D I h;refine wpAny_Assign_Name (bY (he a s σ H _ I h) λv s1 ⟨y,H1,g,b,c⟩=>?_) hs;exact vP g hN hi hx b (λs2 d=>⟨_,H1,d,c⟩) hf
theorem q01(i:Nat){x:Str}{e:Expr}{te:TE}{pos':Pos}(hN:X.N.Nodup)(he:PE X e te)(hi:autoParam (X.N[i]?=some x) zz0._auto_1)(hx:autoParam (Loc X.env.scope x) zzl._auto_1)(hs:autoParam (swapsWith e (some (.Name x pos')) pos.line X.env=pure false) zz0._auto_1)(hf:autoParam (X.fn x=true\/X.env.scope.names.lookup x=some .local) zz3._auto_1):
  PS X (.Assign [.Name x pos'] e pos) (wX te (iY i)):=ay hN hi hx he hs hf
def yg(c:TT)(tb:TS):TS:=λD σ H=>∃W:Nat->St->Hp->Prop,(∃m,W m σ H)/\∀m σ H,W m σ H ->
 c σ H λb H1=>if b=true then ∃N:St->Hp->Prop,(∀σ' H',N σ' H'->∃m',m'<m/\W m' σ' H')/\tb {D with nx:=N,ct:=N,bk:=D.nx} σ H1 else D.nx σ H1
theorem CY{body:List Stmt}{tc:TT}(hp:PassesOwn (model X.prog X.w) X.A X.env X.xe)(hc:PT X c tc)(hb:uE X body tb):PS X (.While c body [] pos) (yg tc tb):=by
 intro a s σ H D I h;obtain⟨W,⟨m0,w⟩,d⟩:=h;refine wpAny_While (codeAny_whileLoop (λn z=>SN X a (W n) z) ?_ m0 ⟨σ,H,I,w⟩);rintro n y ⟨σ1,H1,B,u⟩;refine wpAny_passesOwn hp (bY (hc a y σ1 H1 _ B (d n σ1 H1 u)) λb x ⟨H2,r,i⟩=>?_);cases b with
 |true=>
  obtain⟨N,q,i⟩:=i;rw[q07 rfl];refine wpAny_passesOwn hp (bY (hb a x σ1 H2 _ r i) λf s3 g=>?_);cases f with
  |next=>
   obtain⟨σ3,e,p,l⟩:=g;obtain⟨m,o,j⟩:=q σ3 e l;exact⟨m,o,σ3,e,p,j⟩
  |cont=>
   obtain⟨σ3,e,p,l⟩:=g;obtain⟨m,o,j⟩:=q σ3 e l;exact⟨m,o,σ3,e,p,j⟩
  |brk=>exact g
  |ret v=>exact g
 |false=>
  rw[q06 L4];exact wpAny_execs_nil ⟨σ1,H2,r,i⟩
end
structure It where
 go:Nat->Hp->Prop
 yld:Nat->Hp->V->Hp->Prop
 stop:Nat->Hp->Prop
def mW(X:Cx)(pins:Mw)(H:Hp)(b:Addr):Prop:=
 H b=none/\b≠X.env.locals/\b∉X.fs/\(b∈X.ex\/X.s₀.heap.objs.size<=b)/\(∀x c,X.env.cells.lookup x=some c->c≠b)/\∀p∈X.pn++pins,p.1≠b
theorem Inv.fpOk{pins:Mw}{σ:St}{H':Hp}{b:Addr}(I:Inv X pins σ H s)(hb:s.heap.objs.size<=b)(hn:H' b=none):mW X pins H' b:=by
 refine⟨hn,Nat.ne_of_gt (LV I.lt hb),I.nofs hb,.inr (L9 I.sz hb),λx c e z=>?_,λp a z=>?_⟩
 ·obtain⟨v,q⟩:=I.cell x c e
  exact q0Q (LV q.lt (by rw[z];exact hb)) (L_ _)
 ·exact q0Q (LV (L5 (I.pin p a).1) (by rw[z];exact hb)) (L_ _)
structure tK(P:ME)(w:MJ)(K:Mv)(tg:Expr)(J:It)(fp:MA)(it:Addr)(tn:Nat->Heap->Prop):Prop where
 mem:it∈fp
 obj:∀i h,tn i h->∀b∈fp,∃o,h.get? b=some o/\∀v,o.data≠.cell v
 keep:∀i h h',tn i h->(∀b∈fp,∀o,h.get? b=some o->h'.get? b=some o)->tn i h'
 item:∀(X:Cx),X.prog=P->X.w=w->X.K=K->X.calm=true->∀(i:Nat) (pins:Mw) (s:My) (σ:St) (H:Hp) (E:Mu),Inv X pins σ H s->(∀b∈fp,mW X pins H b)->tn i s.heap->J.go i H ->
  wpAny (model P w) X.A (pyNext (.ref it)) (λr s1=>∃u,r=some u /\
   wpAny (model P w) X.A (letOwnedTupleGo tg (.ref it) u) (λ_ s2=>∃x H',Inv X pins σ H' s2/\bx x u/\J.yld i H x H'/\tn (i+1) s2.heap/\∀b∈fp,H' b=none) E s1) E s
 done:∀(X:Cx),X.prog=P->X.w=w->X.K=K->X.calm=true->∀(i:Nat) (pins:Mw) (s:My) (σ:St) (H:Hp) (E:Mu),Inv X pins σ H s->(∀b∈fp,mW X pins H b)->tn i s.heap->J.stop i H ->
  wpAny (model P w) X.A (pyNext (.ref it)) (λr s1=>r=none/\Inv X pins σ H s1) E s
 self:∀(A:MG) (i:Nat) (s:My) (Q:Mu) (E:Mu),tn i s.heap->Q (.ref it) s->wpAny (model P w) A (pyIter (.ref it)) Q E s
abbrev TI:=St->Hp->(It->Hp->Prop)->Prop
def IW(X:Cx)(pins:Mw)(σ:St)(tg:Expr)(R:It->Hp->Prop)(itv:Value)(s2:My):Prop:=
 ∃(it:Addr) (fp:MA) (tn:Nat->Heap->Prop) (J:It) (H':Hp),itv=.ref it/\Inv X pins σ H' s2/\tK X.prog X.w X.K tg J fp it tn/\tn 0 s2.heap/\(∀b∈fp,mW X pins H' b)/\R J H'
def PI(X:Cx)(tg iter:Expr)(wi:TI):Prop:=
 ∀(pins:Mw) (s:My) (σ:St) (H:Hp) (R:It->Hp->Prop),Inv X pins σ H s->wi σ H R ->
  wpAny (model X.prog X.w) X.A (eval iter X.env) (λv s1=>wpAny (model X.prog X.w) X.A (pyIter v) (IW X pins σ tg R) X.xe s1) X.xe s
theorem uQ{s:My}{tg:Expr}{it:Addr}{u:Value}{o:Obj}{Q:Unit->Shared->Prop}(ho:s.heap.get? it=some o)(hc:o.cls=.type n)(hd:o.data=.fields vs)
  (hn:["enumerate","zip","dict_itemiterator","dict_reverseitemiterator","odict_iterator","itertools.zip_longest","itertools.pairwise"].contains n=false) (hQ:Q () s):wpAny M A (letOwnedTupleGo tg (.ref it) u) Q E s:=by
 unfold letOwnedTupleGo;cases tg<;>first
  |exact q05 hQ
  | (cases u<;>first
    |exact q05 hQ
    | (refine q04 (wpAny_load ho ?_)
       rw[hc,hd];show wpAny M A (if(["enumerate","zip","dict_itemiterator","dict_reverseitemiterator","odict_iterator","itertools.zip_longest","itertools.pairwise"].contains n&&vs[0]?==some (rawInt _))=true then _ else _) Q E s;rw[q06 (by intro h;rw[hn,Bool.false_and]at h;cases h)];exact q05 hQ))
def zw(K:Mv)(a:Addr):It:=
 ⟨λi H=>∃xs x,aI K H a xs/\xs[i]?=some x,λi H x H'=>H'=H/\∀xs,aI K H a xs->xs[i]?=some x,λi H=>∃xs,aI K H a xs/\xs.length<=i⟩
def GN(K:Mv)(a:Addr):It:=
 ⟨λi H=>∃xs x,cK K H a xs/\xs[i]?=some x,λi H x H'=>H'=H/\∀xs,cK K H a xs->xs[i]?=some x,λi H=>∃xs,cK K H a xs/\xs.length<=i⟩
def Ay(lo:Int)(n:Nat):It:=⟨λi _=>i<n,λi H x H'=>H'=H/\x=.int (lo+i),λi _=>n<=i⟩
theorem AY{K:Mv}{tg:Expr}(a it:Addr):tK P w K tg (zw K a) [it] it (λi h=>h.IsListIter it a i) where
 mem:=by simp
 obj:=λi h g b l=>by
  have e:b=it:=by simpa using l
  subst e;obtain⟨o,e,c,d⟩:=g;exact⟨o,e,λv z=>by rw[d]at z;cases z⟩
 keep:=λi h n g k=>g.at λo e=>k it (by simp) o e
 item:=by
  intro X C B D R i j s σ H E I hf g hg;subst C B D;obtain⟨S,x,m,y⟩:=hg;obtain⟨r,q,p,Y⟩:=I.list m;obtain⟨u,hu,U⟩:=q.get y;obtain⟨O,M,f2,L,J,G⟩:=hf it (by simp);refine wpAny_pyNext_list_item g p.isList (x:=u) (by simpa using hu) λn st' T=>?_;have I1:Inv X j σ H {s with heap:=n }:=I.turned (t':=s.toks) (λb o l e=>(T.2 b l).trans e) O M L J G;obtain⟨o,e,c,d⟩:=id st';exact⟨u,rfl,uQ (s:={s with heap:=n }) e c d nofun ⟨x,H,I1,U,⟨rfl,λys Z=>by rw[I.list_inj Z m];exact y⟩,st',λb l=>(hf b l).1⟩⟩
 done:=by
  intro X C B D R i j s σ H E I hf g hg;subst C B D;obtain⟨S,m,y⟩:=hg;obtain⟨r,q,p,Y⟩:=I.list m;obtain⟨O,M,f2,L,J,G⟩:=hf it (by simp);have hl:=q.length;exact wpAny_pyNext_list_end (I.ok.hd R) g p.isList (by simp;omega) λn eb=>⟨rfl,I.turned (t':=s.toks) (λb o l e=>eb b o l e) O M L J G⟩
 self:=λ_ _ _ _ _ g h=>wpAny_pyIter_listiter g h
theorem yb{K:Mv}{tg:Expr}(a it:Addr):tK P w K tg (GN K a) [it] it (λi h=>h.IsTupleIter it a i) where
 mem:=by simp
 obj:=λi h g b m=>by
  have e:b=it:=by simpa using m
  subst e;obtain⟨o,e,c,d⟩:=g;exact⟨o,e,λv z=>by rw[d]at z;cases z⟩
 keep:=λi h q g k=>g.at λo e=>k it (by simp) o e
 item:=by
  intro X C B D R i j s σ H E I hf g hg;subst C B D;obtain⟨S,x,n,y⟩:=hg;obtain⟨l,r,p,Y⟩:=I.tuple n;obtain⟨u,hu,U⟩:=r.get y;obtain⟨O,M,f2,L,J,G⟩:=hf it (by simp);refine wpAny_pyNext_tuple_item g (show s.heap.IsTuple a l.toArray from p) (x:=u) (by simpa using hu) λq st' T=>?_;have I1:Inv X j σ H {s with heap:=q }:=I.turned (t':=s.toks) (λb o m e=>(T.2 b m).trans e) O M L J G;obtain⟨o,e,c,d⟩:=id st';exact⟨u,rfl,uQ (s:={s with heap:=q }) e c d nofun ⟨x,H,I1,U,⟨rfl,λys Z=>by rw[I.tuple_inj Z n];exact y⟩,st',λb m=>(hf b m).1⟩⟩
 done:=by
  intro X C B D R i j s σ H E I hf g hg;subst C B D;obtain⟨S,n,y⟩:=hg;obtain⟨l,r,p,Y⟩:=I.tuple n;obtain⟨O,M,f2,L,J,G⟩:=hf it (by simp);have hl:=r.length;exact wpAny_pyNext_tuple_end (I.ok.hd R) g (show s.heap.IsTuple a l.toArray from p) (by simp;omega) λq eb=>⟨rfl,I.turned (t':=s.toks) (λb o m e=>eb b o m e) O M L J G⟩
 self:=λ_ _ _ _ _ g h=>wpAny_pyIter_tupleiter g h
theorem xz{K:Mv}{tg:Expr}(it:Addr)(lo:Int)(n:Nat):tK P w K tg (Ay lo n) [it] it (λi h=>IsRangeIter h it (lo+(i:Nat)*1) ((n:Int)-(i:Nat)) 1) where
 mem:=by simp
 obj:=λi h a b d=>by
  have e:b=it:=by simpa using d
  subst e;exact⟨_,a,λv z=>by
   have C:Data.fields _=Data.cell v:=z;cases C⟩
 keep:=λi h g a k=>k it (by simp) _ a
 item:=by
  intro X m j p l i c s σ H E I hf a hg;subst m j p;obtain⟨y,x,J,u,r,q⟩:=hf it (by simp);have W:=Walks.range (prog:=X.prog) (w:=X.w) (I.ok.hd l) it lo 1 n;refine W.item i s _ _ hg a λv g B G st' D=>?_;obtain⟨t,rfl⟩:=G;have M:Inv X c σ H {s with heap:=g,toks:=B}:=I.turned (λb o d e=>D b o (by simpa using d) e) y x u r q;refine⟨_,rfl,uQ (s:={s with heap:=g,toks:=B}) (n:="range_iterator") st' rfl rfl nofun ⟨.int (lo+i),H,M,⟨t,?_⟩,⟨rfl,rfl⟩,st',λb d=>(hf b d).1⟩⟩;rw[Int.mul_one]
 done:=by
  intro X m j p l i c s σ H E I hf a hg;subst m j p;obtain⟨y,x,J,u,r,q⟩:=hf it (by simp);exact wpAny_pyNext_range_end (I.ok.hd l) a (by have:n<=i:=hg;omega) λg L=>⟨rfl,I.turned (t':=s.toks) (λb o d e=>L b o d e) y x u r q⟩
 self:=λ_ _ _ _ _ a h=>wpAny_pyIter_rangeiter a h
section
variable {X:Cx}{tg:Expr}
def Co(K:Mv)(tl:TE):TI:=λσ H R=>tl σ H λx H1=>∃a,x=.ref a/\(∃xs,aI K H1 a xs)/\R (zw K a) H1
def Fm(K:Mv)(tl:TE):TI:=λσ H R=>tl σ H λx H1=>∃a,x=.ref a/\(∃xs,cK K H1 a xs)/\R (GN K a) H1
theorem sY{tl:TE}(hl:PE X l tl):PI X tg l (Co X.K tl):=by
 intro c s σ H R I h;refine bY (hl c s σ H _ I h) λv d ⟨x,H1,g,i,j⟩=>?_;obtain⟨a,e,⟨xs,m⟩,q⟩:=j;subst e;cases i;obtain⟨its,rv,p,hz⟩:=g.list m;refine wpAny_pyIter_list p.isList ?_;refine⟨d.heap.objs.size,[d.heap.objs.size],_,_,H1,rfl,g.kept (t':=d.toks) λb o e=>LB _ e,AY a _,⟨_,LI _ rfl,rfl,rfl⟩,λb n=>?_,q⟩;have e:b=d.heap.objs.size:=by simpa using n
 subst e;exact g.fpOk (L1 _) (g.hok.fresh (L1 _))
theorem FO{tl:TE}(hl:PE X l tl):PI X tg l (Fm X.K tl):=by
 intro d s σ H R I h;refine bY (hl d s σ H _ I h) λv c ⟨x,H1,g,j,m⟩=>?_;obtain⟨a,e,⟨xs,n⟩,q⟩:=m;subst e;cases j;obtain⟨i,rv,p,hz⟩:=g.tuple n;refine wpAny_pyIter_tuple (show c.heap.IsTuple a i.toArray from p) ?_;refine⟨c.heap.objs.size,[c.heap.objs.size],_,_,H1,rfl,g.kept (t':=c.toks) λb o e=>LB _ e,yb a _,⟨_,LI _ rfl,rfl,rfl⟩,λb r=>?_,q⟩;have e:b=c.heap.objs.size:=by simpa using r
 subst e;exact g.fpOk (L1 _) (g.hok.fresh (L1 _))
theorem wf{pins:Mw}{σ:St}{s:My}{R:It->Hp->Prop}{E:Mu}{lo hi:Int}{t u v:Tok}{tk:Nat}(I:Inv X pins σ H s)(h1:-(2 ^ 62)<=lo)(h2:lo<2 ^ 62)(h3:-(2 ^ 62)<=hi)(h4:hi<2 ^ 62)
  (q:R (Ay lo (hi-lo).toNat) H):wpAny (model X.prog X.w) X.A (pyIter (.ref s.heap.objs.size)) (IW X pins σ tg R) E {s with heap:=s.heap.push {cls:=.type "range",data:=.fields #[.int lo t,.int hi u,.int 1 v]},toks:=tk}:=by
 refine wpAny_pyIter_range (IsRange.new ..) (small_one h1 h2 h3 h4) ?_;have a:Inv X pins σ H {s with heap:=s.heap.push {cls:=.type "range",data:=.fields #[.int lo t,.int hi u,.int 1 v]},toks:=tk}:=I.kept λb o e=>LB _ e;refine⟨(s.heap.push {cls:=.type "range",data:=.fields #[.int lo t,.int hi u,.int 1 v]}).objs.size,[(s.heap.push {cls:=.type "range",data:=.fields #[.int lo t,.int hi u,.int 1 v]}).objs.size],_,_,H,rfl,
  a.kept (t':=tk) λb o e=>LB _ e,xz _ lo (hi-lo).toNat,?_,λb c=>?_,q⟩
 ·have g:lo+((0:Nat):Int)*1=lo:=by simp
  have d:(((hi-lo).toNat:Nat):Int)-((0:Nat):Int)=Builtin.Range.rangeSize lo hi 1:=by rw[rangeSize_one];split<;>omega
  show IsRangeIter _ _ (lo+((0:Nat):Int)*1) ((((hi-lo).toNat:Nat):Int)-((0:Nat):Int)) 1;rw[g,d];exact LI _ rfl
 ·have e:b=(s.heap.push {cls:=.type "range",data:=.fields #[.int lo t,.int hi u,.int 1 v]}).objs.size:=by simpa using c
  subst e;exact a.fpOk (L1 _) (a.hok.fresh (L1 _))
def vU(ta:TA):TI:=λσ H R=>ta σ H λvs H1=>∃j:Int,vs=[.int j]/\-(2 ^ 62)<=j/\j<2 ^ 62/\R (Ay 0 j.toNat) H1
def BV(ta:TA):TI:=λσ H R=>ta σ H λvs H1=>∃i j:Int,vs=[.int i,.int j]/\(-(2 ^ 62)<=i/\i<2 ^ 62/\-(2 ^ 62)<=j/\j<2 ^ 62)/\R (Ay i (j-i).toNat) H1
theorem qZ{a:Expr}{ta:TA}{p pos:Pos}(hg:Gl X "range")(hm:X.mg "range"=none)(ha:PA X [a] ta)(hs:autoParam (starEach [a] X.env=[(false,eval a X.env)]) zz0._auto_1):PI X tg (.Call (.Name "range" p) [a] [] pos) (vU ta):=by
 intro b s σ H R I h;refine Call_ (eR I hg hm boot_range (PyProof.Rows.callWith_type1 (bY (ha pos b s σ H _ I h) λus s1 ⟨vs,H1,i,d,c⟩=>?_) hs rfl));obtain⟨j,e,c,g,q⟩:=c;subst e;cases d with
 |cons r rr=>
  cases rr;obtain⟨t,rfl⟩:=r;exact call_range_1 (wf i ⋯ ⋯ c g (by simpa using q))
theorem jr{a b:Expr}{ta:TA}{p pos:Pos}(hg:Gl X "range")(hm:X.mg "range"=none)(ha:PA X [a,b] ta)(hs:autoParam (starEach [a,b] X.env=[(false,eval a X.env),(false,eval b X.env)]) zz0._auto_1)(hs2:autoParam (starEach [b] X.env=[(false,eval b X.env)]) zz0._auto_1) :
  PI X tg (.Call (.Name "range" p) [a,b] [] pos) (BV ta):=by
 intro c s σ H R I h;refine Call_ (eR I hg hm boot_range (PyProof.Rows.callWith_type1 (bY (ha pos c s σ H _ I h) λus s1 ⟨vs,H1,o,g,d⟩=>?_) (by rw[hs,hs2]) (by rw[hs2];rfl)));obtain⟨i,j,e,⟨d,n,m,l⟩,q⟩:=d;subst e;cases g with
 |cons r rr=>
  cases rr with
  |cons r' rr=>
   cases rr;obtain⟨t,rfl⟩:=r;obtain⟨t',rfl⟩:=r';exact call_range_2 (wf o d n m l q)
def IS(wi:TI)(g:TG)(tb:TS):TS:=λD σ H=>wi σ H λJ H1=>∃W:Nat->Nat->St->Hp->Prop,(∃m,W 0 m σ H1)/\∀i m σ H,W i m σ H ->
 (J.stop i H/\D.nx σ H)\/(J.go i H/\∃N:St->Hp->Prop,(∀σ' H',N σ' H'->∃m',m'<m/\W (i+1) m' σ' H')/\∀x H',J.yld i H x H'->g x σ H' λσ2 H2=>tb {D with nx:=N,ct:=N,bk:=D.nx} σ2 H2)
def pS(fp:MA)(h:Heap):List (Addr×Obj):=fp.filterMap λb=>(h.get? b).map λo=>(b,o)
theorem gM{fp:MA}{h:Heap}{b:Addr}{o:Obj}(hb:b∈fp)(e:h.get? b=some o):(b,o)∈pS fp h:=List.mem_filterMap.mpr ⟨b,hb,by rw[e];rfl⟩
theorem A8{fp:MA}{p:Addr×Obj}(hp:p∈pS fp h):p.1∈fp/\h.get? p.1=some p.2:=by
 obtain⟨b,a,e⟩:=List.mem_filterMap.mp hp;cases q:h.get? b with
 |none=>rw[q]at e;cases e
 |some o=>
  rw[q]at e;have c:(b,o)=p:=q0S e;subst c;exact⟨a,q⟩
theorem Inv.pinned{pins:Mw}{σ:St}{fp:MA}(I:Inv X pins σ H s)(hf:∀b∈fp,mW X pins H b)(ho:∀b∈fp,∃o,s.heap.get? b=some o/\∀v,o.data≠.cell v):Inv X (pins++pS fp s.heap) σ H s:=
 I.pins_of λp hp=>(LP.mp hp).elim (λz=>I.pin p (q0C _ z)) λz=>by
  obtain⟨hb,e⟩:=A8 z;obtain⟨f0,f1,f2,_⟩:=hf p.1 hb;obtain⟨o,e',d⟩:=ho p.1 hb;rw[e]at e';cases e'
  exact⟨e,f0,f1,f2,d⟩
theorem Inv.unpinned{pins pl:Mw}{σ:St}(I:Inv X (pins++pl) σ H s):Inv X pins σ H s:=I.pins_of λp hp=>I.pin p (q0C _ (q0D _ hp))
theorem Gv{iter:Expr}{body:List Stmt}{wi:TI}{pos:Pos}(hp:PassesOwn (model X.prog X.w) X.A X.env X.xe)(hc:X.calm=true)(hi:PI X tg iter wi)(hg:PG X tg g)(hb:uE X body tb)
  (hs:autoParam (∀x,foldedSetIterable iter X.env x=pure x) zz4._auto_1):PS X (.For tg iter body [] pos) (IS wi g tb):=by
 intro a s σ H D I h;refine wpAny_For (bY (hi a s σ H _ I h) λv s1 h1=>bY h1 λitv s2 h2=>?_) hs;obtain⟨it,L,Y,J,H2,e,I2,T,O,f2,W,⟨m0,w0⟩,y⟩:=h2;subst e
 -- what stays true of the iterator's objects through the loop
 have c:∀{H':Hp},(∀b∈L,H' b=none)->∀b∈L,mW X a H' b:=λhn b hb=>⟨hn b hb,(f2 b hb).2⟩;refine codeAny_forLoop_any (λn s'=>∃i σ' H',Inv X a σ' H' s'/\Y i s'.heap/\(∀b∈L,H' b=none)/\W i n σ' H') ?_ m0 ⟨0,σ,H2,I2,O,λb hb=>(f2 b hb).1,w0⟩;rintro n s3 ⟨i,σ3,M,I3,B,G,w3⟩;rcases y i n σ3 M w3 with⟨z,qn⟩ | ⟨go,N,hN,step⟩
 ·refine wpAny_passesOwn hp (bY (T.done X rfl rfl rfl hc i a s3 σ3 M X.xe I3 (c G) B z) λr s4 ⟨hr,I4⟩=>?_)
  subst hr;exact wpAny_execs_nil ⟨σ3,M,I4,qn⟩
 ·refine wpAny_passesOwn hp (bY (T.item X rfl rfl rfl hc i a s3 σ3 M X.xe I3 (c G) B go) λr s4 ⟨u,hr,h4⟩=>?_)
  subst hr;refine wpAny_passesOwn hp (bY h4 λ_ Z ⟨x,H5,I5,r5,y5,w,S⟩=>?_);have U:=I5.pinned (c S) (T.obj _ _ w);refine wpAny_passesOwn hp (bY (hg _ Z σ3 H5 x u _ U r5 (step x H5 y5)) λ_ s6 ⟨σ6,H6,I6,q6⟩=>?_);refine wpAny_passesOwn hp (bY (hb _ s6 σ6 H6 _ I6 q6) λf R q=>?_);have j:∀{σ7:St} {p:Hp},Inv X (a++pS L Z.heap) σ7 p R->N σ7 p->∃m,m<n/\∃i σ' H',Inv X a σ' H' R/\Y i R.heap/\(∀b∈L,H' b=none)/\W i m σ' H':=fun{σ7 p} l C=>by
   obtain⟨m',hm,w7⟩:=hN σ7 p C;refine⟨m',hm,i+1,σ7,p,l.unpinned,T.keep _ _ _ w λb hb o e=>(l.pin (b,o) (q0C _ (q0C _ (gM hb e)))).1,λb hb=>?_,w7⟩;obtain⟨o,e,d⟩:=T.obj _ _ w b hb;exact(l.pin (b,o) (q0C _ (q0C _ (gM hb e)))).2.1
  cases f with
  |next=>obtain⟨σ7,p,l,C⟩:=q;exact j l C
  |cont=>obtain⟨σ7,p,l,C⟩:=q;exact j l C
  |brk=>obtain⟨σ7,p,l,q⟩:=q;exact⟨σ7,p,l.unpinned,q⟩
  |ret v=>obtain⟨x7,σ7,p,l,r7,q⟩:=q;exact⟨x7,σ7,p,l.unpinned,r7,q⟩
end
theorem CW{K:Mv}{xs:List V}{g:TG}{tb:TS}{D:fB}{σ:St}{H:Hp}(Pv:Nat->St->Hp->Prop)(h0:Pv 0 σ H)(hl:∀i σ H,i<=xs.length->Pv i σ H->aI K H a xs)
  (hs:∀i x σ H,xs[i]?=some x->Pv i σ H->g x σ H λσ2 H2=>tb {D with nx:=Pv (i+1),ct:=Pv (i+1),bk:=D.nx} σ2 H2) (hd:∀σ H,Pv xs.length σ H->D.nx σ H) :
  ∃W:Nat->Nat->St->Hp->Prop,(∃m,W 0 m σ H)/\∀i m σ H,W i m σ H ->
   ((zw K a).stop i H/\D.nx σ H)\/((zw K a).go i H/\∃N:St->Hp->Prop,(∀σ' H',N σ' H'->∃m',m'<m/\W (i+1) m' σ' H')/\∀x H',(zw K a).yld i H x H'->g x σ H' λσ2 H2=>tb {D with nx:=N,ct:=N,bk:=D.nx} σ2 H2):=by
 refine⟨λi m σ H=>m=xs.length-i/\i<=xs.length/\Pv i σ H,⟨xs.length,by simp,L3 _,h0⟩,?_⟩;rintro i m σ H ⟨rfl,c,p⟩;have q:=hl i σ H c p
 by_cases b:i<xs.length
 ·refine .inr ⟨⟨xs,xs[i],q,by simp[b]⟩,Pv (i+1),λσ' H' p'=>⟨xs.length-(i+1),⋯,rfl,b,p'⟩,λx H' y=>?_⟩
  obtain⟨e,y⟩:=y;subst e;exact hs i x σ _ (y xs q) p
 ·have e:i=xs.length:=by omega
  subst e;exact .inl ⟨⟨xs,q,L1 _⟩,hd σ H p⟩
theorem D0{K:Mv}{xs:List V}{g:TG}{tb:TS}{D:fB}{σ:St}{H:Hp}(Pv:Nat->St->Hp->Prop)(h0:Pv 0 σ H)(hl:∀i σ H,i<=xs.length->Pv i σ H->cK K H a xs)
  (hs:∀i x σ H,xs[i]?=some x->Pv i σ H->g x σ H λσ2 H2=>tb {D with nx:=Pv (i+1),ct:=Pv (i+1),bk:=D.nx} σ2 H2) (hd:∀σ H,Pv xs.length σ H->D.nx σ H) :
  ∃W:Nat->Nat->St->Hp->Prop,(∃m,W 0 m σ H)/\∀i m σ H,W i m σ H ->
   ((GN K a).stop i H/\D.nx σ H)\/((GN K a).go i H/\∃N:St->Hp->Prop,(∀σ' H',N σ' H'->∃m',m'<m/\W (i+1) m' σ' H')/\∀x H',(GN K a).yld i H x H'->g x σ H' λσ2 H2=>tb {D with nx:=N,ct:=N,bk:=D.nx} σ2 H2):=by
 refine⟨λi m σ H=>m=xs.length-i/\i<=xs.length/\Pv i σ H,⟨xs.length,by simp,L3 _,h0⟩,?_⟩;rintro i m σ H ⟨rfl,c,p⟩;have q:=hl i σ H c p
 by_cases b:i<xs.length
 ·refine .inr ⟨⟨xs,xs[i],q,by simp[b]⟩,Pv (i+1),λσ' H' p'=>⟨xs.length-(i+1),⋯,rfl,b,p'⟩,λx H' y=>?_⟩
  obtain⟨e,y⟩:=y;subst e;exact hs i x σ _ (y xs q) p
 ·have e:i=xs.length:=by omega
  subst e;exact .inl ⟨⟨xs,q,L1 _⟩,hd σ H p⟩
theorem Au{lo:Int}{n:Nat}{g:TG}{tb:TS}{D:fB}{σ:St}{H:Hp}(Pv:Nat->St->Hp->Prop)(h0:Pv 0 σ H)
  (hs:∀i σ H,i<n->Pv i σ H->g (.int (lo+i)) σ H λσ2 H2=>tb {D with nx:=Pv (i+1),ct:=Pv (i+1),bk:=D.nx} σ2 H2) (hd:∀σ H,Pv n σ H->D.nx σ H) :
  ∃W:Nat->Nat->St->Hp->Prop,(∃m,W 0 m σ H)/\∀i m σ H,W i m σ H ->
   ((Ay lo n).stop i H/\D.nx σ H)\/((Ay lo n).go i H/\∃N:St->Hp->Prop,(∀σ' H',N σ' H'->∃m',m'<m/\W (i+1) m' σ' H')/\∀x H',(Ay lo n).yld i H x H'->g x σ H' λσ2 H2=>tb {D with nx:=N,ct:=N,bk:=D.nx} σ2 H2):=by
 refine⟨λi m σ H=>m=n-i/\i<=n/\Pv i σ H,⟨n,by simp,L3 _,h0⟩,?_⟩;rintro i m σ H ⟨rfl,hi,p⟩
 by_cases a:i<n
 ·refine .inr ⟨a,Pv (i+1),λσ' H' p'=>⟨n-(i+1),⋯,rfl,a,p'⟩,λx H' y=>?_⟩
  obtain⟨e,y⟩:=y;subst e y;exact hs i σ _ a p
 ·have e:i=n:=by omega
  subst e;exact .inl ⟨L1 _,hd σ H p⟩
abbrev R2:=V->V->Hp->VK->Prop
def bu(X:Cx)(f:Value->Value->Sem Value)(r:R2):Prop:=
 ∀(pins:Mw) (s:My) (σ:St) (H:Hp) (x y:V) (v u:Value) (Q:VK),Inv X pins σ H s->bx x v->bx y u->r x y H Q ->
  wpAny (model X.prog X.w) X.A (f v u) (EP X pins σ Q) X.xe s
def dZ(X:Cx)(f:Value)(r:List V->Hp->VK->Prop):Prop:=
 ∀(pins:Mw) (s:My) (σ:St) (H:Hp) (xs:List V) (us:Mz) (Q:VK),Inv X pins σ H s->bc xs us->r xs H Q ->
  wpAny (model X.prog X.w) X.A (call f us) (EP X pins σ Q) X.xe s
def Fu(r:R2)(ta tb:TE):TE:=λσ H Q=>ta σ H λx H1=>tb σ H1 λy H2=>r x y H2 Q
def rI(C:Int->Int->Prop)(g:Int->Int->V):R2:=λx y H Q=>∃i j,x=.int i/\y=.int j/\C i j/\Q (g i j) H
def AF(g:Int->Int->V):R2:=λx y H Q=>∃i j,x=.int i/\y=.int j/\Q (g i j) H
section
variable {X:Cx}{a b c:Expr}{ta tb tc:TE}{pos:Pos}
theorem F4(ha:PE X a ta)(hb:PE X b tb){pins:Mw}{s:My}{σ:St}{H:Hp}{R:V->V->Hp->Prop}(I:Inv X pins σ H s)
  (h:ta σ H λx H1=>tb σ H1 λy H2=>R x y H2) {Q:Mu} {f:Value->Value->Sem Value}
  (hf:∀v u s2 x y H2,Inv X pins σ H2 s2->bx x v->bx y u->R x y H2->wpAny (model X.prog X.w) X.A (f v u) Q X.xe s2) :
  wpAny (model X.prog X.w) X.A (eval a X.env) (λv s₁=>wpAny (model X.prog X.w) X.A (eval b X.env) (λu s₂=>wpAny (model X.prog X.w) X.A (f v u) Q X.xe s₂) X.xe s₁) X.xe s:=by
 refine bY (ha pins s σ H _ I h) λv c ⟨x,H1,l,e,i⟩=>?_;refine bY (hb pins c σ H1 _ l i) λu s2 ⟨y,H2,j,d,g⟩=>?_;exact hf v u s2 x y H2 j e d g
theorem az{op:Operator}{r:R2}(ho:bu X (binaryOp op) r)(ha:PE X a ta)(hb:PE X b tb):PE X (.BinOp a op b pos) (Fu r ta tb):=by
 intro c s σ H Q I h;exact wpAny_BinOp (F4 ha hb I h λv u d x y H2 i g e q=>ho c d σ H2 x y v u Q i g e q)
theorem IN{f:Value->Value->Sem Value}{C:Int->Int->Prop}{g:Int->Int->Int}
  (rule:∀(i j:Int) (t u:Tok) (s:My) (Q:Mu) (E:Mu),C i j->Q (.int (g i j) s.toks) {s with toks:=s.toks+1}->wpAny (model X.prog X.w) X.A (f (.int i t) (.int j u)) Q E s) :
  bu X f (rI C λi j=>.int (g i j)):=by
 intro pins s σ H x y v u Q I rx ry h;obtain⟨i,j,rfl,rfl,b,q⟩:=h;obtain⟨t,rfl⟩:=rx;obtain⟨a,rfl⟩:=ry;exact rule i j t a s _ _ b ⟨.int (g i j),H,I.tok _,⟨_,rfl⟩,q⟩
theorem Hq{f:Value->Value->Sem Value}{g:Int->Int->Int}
  (rule:∀(i j:Int) (t u:Tok) (s:My) (Q:Mu) (E:Mu),Q (.int (g i j) s.toks) {s with toks:=s.toks+1}->wpAny (model X.prog X.w) X.A (f (.int i t) (.int j u)) Q E s) :
  bu X f (AF λi j=>.int (g i j)):=by
 intro pins s σ H x y v u Q I rx ry h;obtain⟨i,j,rfl,rfl,q⟩:=h;obtain⟨t,rfl⟩:=rx;obtain⟨a,rfl⟩:=ry;exact rule i j t a s _ _ ⟨.int (g i j),H,I.tok _,⟨_,rfl⟩,q⟩
theorem En{f:Value->Value->Sem Value}{g:Int->Int->Bool}
  (rule:∀(i j:Int) (t u:Tok) (s:My) (Q:Mu) (E:Mu),Q (.bool (g i j)) s->wpAny (model X.prog X.w) X.A (f (.int i t) (.int j u)) Q E s) :
  bu X f (AF λi j=>.bl (g i j)):=by
 intro pins s σ H x y v u Q I rx ry h;obtain⟨i,j,rfl,rfl,q⟩:=h;obtain⟨t,rfl⟩:=rx;obtain⟨a,rfl⟩:=ry;exact rule i j t a s _ _ ⟨.bl (g i j),H,I,rfl,q⟩
def BO(i j:Int):Prop:=(-(2 ^ 64)<i/\i<2 ^ 64)\/(-(2 ^ 64)<j/\j<2 ^ 64)
theorem BO.ok(h:BO i j):IntMulOk i j:=by
 rcases h with⟨h1,h2⟩ | ⟨h1,h2⟩
 ·exact .of_left (intBits_le_64 h1 h2)
 ·exact .of_right (intBits_le_64 h1 h2)
theorem bP:bu X (binaryOp .Add) (AF λi j=>.int (i+j)):=Hq λ_ _ _ _ _ _ _ q=>add_int q
theorem i':bu X (binaryOp .Sub) (AF λi j=>.int (i-j)):=Hq λ_ _ _ _ _ _ _ q=>sub_int q
theorem du:bu X (binaryOp .Mult) (rI BO λi j=>.int (i*j)):=IN λ_ _ _ _ _ _ _ hc q=>mul_int q hc.ok
theorem bh:bu X (binaryOp .Mod) (rI (λ_ j=>0<j) λi j=>.int (i%j)):=IN λi j _ _ _ _ _ hc q=>by
 have h1:(0:Int)<j:=hc;exact mod_int' ⋯ (by rw[Int.fmod_eq_emod_of_nonneg i ⋯];exact q)
end
def Bp:V->V->Bool
 | .non,.non=>true | .non,.int _=>true | .int _,.non=>true | .non,.bl _=>true | .bl _,.non=>true | .non,.str _=>true | .str _,.non=>true
 | .int _,.int _=>true | .bl _,.bl _=>true | .str _,.str _=>true | .byt _,.byt _=>true
 | .int _,.str _=>true | .str _,.int _=>true | .bl _,.str _=>true | .str _,.bl _=>true
 |_,_=>false
def Iv:R2:=λx y H Q=>Bp x y=true/\Q (.bl (decide (x=y))) H
def IR:R2:=λx y H Q=>Bp x y=true/\Q (.bl (!decide (x=y))) H
theorem yN{i j:Int}:decide (V.int i=V.int j)=(i==j):=by
 rw[Bool.eq_iff_iff];simp
theorem CP:decide (V.bl i=V.bl j)=(i==j):=by
 rw[Bool.eq_iff_iff];simp
theorem yW:decide (V.str i=V.str j)=(i==j):=by
 rw[Bool.eq_iff_iff];simp
theorem yL:decide (V.byt i=V.byt j)=(i.toList==j.toList):=by
 rw[Bool.eq_iff_iff];cases i;cases j;simp
section
variable {X:Cx}{a b c:Expr}{ta tb tc:TE}{pos:Pos}
theorem bF{pins:Mw}{σ:St}{Q:VK}{k k':Bool}(I:Inv X pins σ H s)(q:Q (.bl k) H)(e:k=k'):EP X pins σ Q (.bool k') s:=by
 subst e;exact⟨.bl k,H,I,rfl,q⟩
theorem dN:bu X (compareOp .Eq) Iv:=by
 intro pins s σ H x y v u Q I rx ry h;obtain⟨b,q⟩:=h;cases x with
 |non=>
  cases rx;cases y with
  |non=>cases ry;exact PySem.EqNone.eq_none_none (bF I q (by simp))
  |bl j=>cases ry;exact PySem.EqNone.eq_none_bool (bF I q (by simp))
  |int j=>obtain⟨a,rfl⟩:=ry;exact PySem.EqNone.eq_none_int (bF I q (by simp))
  |str j=>obtain⟨a,rfl⟩:=ry;exact PySem.EqNone.eq_none_str (bF I q (by simp))
  |_=>exact q0Q (show false=true from b) L4
 |bl i=>
  cases rx;cases y with
  |non=>cases ry;exact PySem.EqNone.eq_bool_none (bF I q (by simp))
  |bl j=>cases ry;exact eq_bool (bF I q CP)
  |str j=>obtain⟨a,rfl⟩:=ry;exact PySem.EqMixed.eq_bool_str (bF I q (by simp))
  |_=>exact q0Q (show false=true from b) L4
 |int i=>
  obtain⟨t,rfl⟩:=rx;cases y with
  |non=>cases ry;exact PySem.EqNone.eq_int_none (bF I q (by simp))
  |int j=>obtain⟨a,rfl⟩:=ry;exact eq_int (bF I q yN)
  |str j=>obtain⟨a,rfl⟩:=ry;exact PySem.EqMixed.eq_int_str (bF I q (by simp))
  |_=>exact q0Q (show false=true from b) L4
 |str i=>
  obtain⟨t,rfl⟩:=rx;cases y with
  |non=>cases ry;exact PySem.EqNone.eq_str_none (bF I q (by simp))
  |bl j=>cases ry;exact PySem.EqMixed.eq_str_bool (bF I q (by simp))
  |int j=>obtain⟨a,rfl⟩:=ry;exact PySem.EqMixed.eq_str_int (bF I q (by simp))
  |str j=>obtain⟨a,rfl⟩:=ry;exact eq_str (bF I q yW)
  |_=>exact q0Q (show false=true from b) L4
 |byt i=>
  obtain⟨t,rfl⟩:=rx;cases y with
  |byt j=>obtain⟨a,rfl⟩:=ry;exact PySem.W.eq_bytes (bF I q yL)
  |_=>exact q0Q (show false=true from b) L4
 |_=>cases y<;>exact q0Q (show false=true from b) L4
theorem EZ:bu X (compareOp .NotEq) IR:=by
 intro pins s σ H x y v u Q I rx ry h;obtain⟨b,q⟩:=h;cases x with
 |non=>
  cases rx;cases y with
  |non=>cases ry;exact PySem.EqNone.ne_none_none (bF I q (by simp))
  |bl j=>cases ry;exact PySem.EqNone.ne_none_bool (bF I q (by simp))
  |int j=>obtain⟨a,rfl⟩:=ry;exact PySem.EqNone.ne_none_int (bF I q (by simp))
  |str j=>obtain⟨a,rfl⟩:=ry;exact PySem.EqNone.ne_none_str (bF I q (by simp))
  |_=>exact q0Q (show false=true from b) L4
 |bl i=>
  cases rx;cases y with
  |non=>cases ry;exact PySem.EqNone.ne_bool_none (bF I q (by simp))
  |bl j=>cases ry;exact ne_bool (bF I q (q0R not CP))
  |str j=>obtain⟨a,rfl⟩:=ry;exact PySem.EqMixed.ne_bool_str (bF I q (by simp))
  |_=>exact q0Q (show false=true from b) L4
 |int i=>
  obtain⟨t,rfl⟩:=rx;cases y with
  |non=>cases ry;exact PySem.EqNone.ne_int_none (bF I q (by simp))
  |int j=>obtain⟨a,rfl⟩:=ry;exact ne_int (bF I q (q0R not yN))
  |str j=>obtain⟨a,rfl⟩:=ry;exact PySem.EqMixed.ne_int_str (bF I q (by simp))
  |_=>exact q0Q (show false=true from b) L4
 |str i=>
  obtain⟨t,rfl⟩:=rx;cases y with
  |non=>cases ry;exact PySem.EqNone.ne_str_none (bF I q (by simp))
  |bl j=>cases ry;exact PySem.EqMixed.ne_str_bool (bF I q (by simp))
  |int j=>obtain⟨a,rfl⟩:=ry;exact PySem.EqMixed.ne_str_int (bF I q (by simp))
  |str j=>obtain⟨a,rfl⟩:=ry;exact ne_str (bF I q (q0R not yW))
  |_=>exact q0Q (show false=true from b) L4
 |byt i=>
  obtain⟨t,rfl⟩:=rx;cases y with
  |byt j=>obtain⟨a,rfl⟩:=ry;exact PySem.W.ne_bytes (bF I q (q0R not yL))
  |_=>exact q0Q (show false=true from b) L4
 |_=>cases y<;>exact q0Q (show false=true from b) L4
theorem zf:bu X (compareOp .Lt) (AF λi j=>.bl (decide (i<j))):=En λ_ _ _ _ _ _ _ q=>lt_int q
theorem iw:bu X (compareOp .LtE) (AF λi j=>.bl (decide (i<=j))):=En λ_ _ _ _ _ _ _ q=>le_int q
theorem k8:bu X (compareOp .Gt) (AF λi j=>.bl (decide (j<i))):=En λ_ _ _ _ _ _ _ q=>gt_int q
theorem Ho:bu X (compareOp .GtE) (AF λi j=>.bl (decide (j<=i))):=En λ_ _ _ _ _ _ _ q=>ge_int q
theorem At:bu X (compareOp .In) (λx y H Q=>∃i j,x=.str i/\y=.str j/\Q (.bl (!(Builtin.Str.occurrences j i 0 j.length 1).isEmpty)) H):=by
 intro pins s σ H x y v u Q I rx ry h;obtain⟨i,j,rfl,rfl,q⟩:=h;obtain⟨t,rfl⟩:=rx;obtain⟨t',rfl⟩:=ry;exact in_str (bF I q rfl)
theorem Fy:bu X (compareOp .Is) (λx y H Q=>y=.non/\Q (.bl (decide (x=.non))) H):=by
 intro pins s σ H x y v u Q I rx ry h;obtain⟨rfl,q⟩:=h;cases ry;refine is_none_gen (bF I q ?_);cases x<;>first
  | (cases rx;rfl)
  | (obtain⟨t,rfl⟩:=rx;rfl)
theorem nw:bu X (compareOp .IsNot) (λx y H Q=>y=.non/\Q (.bl (!decide (x=.non))) H):=by
 intro pins s σ H x y v u Q I rx ry h;obtain⟨rfl,q⟩:=h;cases ry;refine isnot_none_gen (bF I q ?_);cases x<;>first
  | (cases rx;rfl)
  | (obtain⟨t,rfl⟩:=rx;rfl)
theorem tG:bu X (compareOp .NotIn) (λx y H Q=>∃i j,x=.str i/\y=.str j/\Q (.bl (!(!(Builtin.Str.occurrences j i 0 j.length 1).isEmpty))) H):=by
 intro pins s σ H x y v u Q I rx ry h;obtain⟨i,j,rfl,rfl,q⟩:=h;obtain⟨t,rfl⟩:=rx;obtain⟨t',rfl⟩:=ry;exact notIn_str (bF I q rfl)
theorem aZ(b:Expr){op:CmpOp}(h:autoParam (op≠.In) zz1._auto_1)(h2:autoParam (op≠.NotIn) zz1._auto_1):behindInMarks op b=false:=by
 have c:(op==CmpOp.In)=false:=by cases op<;>first | rfl | exact q0Q rfl h
 have a:(op==CmpOp.NotIn)=false:=by cases op<;>first | rfl | exact q0Q rfl h2
 cases b<;>simp[behindInMarks,c,a]
theorem jd{op:CmpOp}{r:R2}(ho:bu X (compareOp op) r)(ha:PE X a ta)(hb:PE X b tb)(hm:behindInMarks op b=false):PE X (.Compare a [op] [b] pos) (Fu r ta tb):=by
 intro c s σ H Q I h;exact wpAny_Compare1 (F4 ha hb I h λv u d x y H2 i g e q=>ho c d σ H2 x y v u Q i g e q) hm
def rJ(t:TE):TT:=λσ H Q=>t σ H λx H'=>∃k,x=.bl k/\Q k H'
theorem ny{op:CmpOp}{r:R2}(ho:bu X (compareOp op) r)(ha:PE X a ta)(hb:PE X b tb)(hm:behindInMarks op b=false):PT X (.Compare a [op] [b] pos) (rJ (Fu r ta tb)):=by
 intro d s σ H Q I h;refine wpAny_isTrue_Compare1 (bY (ha d s σ H _ I h) λv i ⟨x,H1,B,m,p⟩=>bY (hb d i σ H1 _ B p) λu g ⟨y,H2,w,l,o⟩=>
  bY (ho d g σ H2 x y v u _ w m l o) λc s3 ⟨z,C,q,j,k,e,n⟩=>?_) hm
 subst e;cases j;exact wpAny_truthy_bool ⟨C,q,n⟩
def uK(r r':R2)(ta tb tc:TE):TE:=λσ H Q=>ta σ H λx H1=>tb σ H1 λy H2=>r x y H2 λz H3=>∃k,z=.bl k /\
 (if k=true then tc σ H3 λw' H4=>r' y w' H4 Q else Q (.bl false) H3)
theorem vS{op op':CmpOp}{r r':R2}(ho:bu X (compareOp op) r)(ho':bu X (compareOp op') r')(ha:PE X a ta)(hb:PE X b tb)(hc:PE X c tc)
  (hm:autoParam (lastMarks [op,op'] [b,c]=false) zz5._auto_1):PE X (.Compare a [op,op'] [b,c] pos) (uK r r' ta tb tc):=by
 intro g s σ H Q I h;refine Compare_chain (bY (ha g s σ H _ I h) λv w ⟨x,H1,R,D,L⟩=>chain_link (bY (hb g w σ H1 _ R L) λu q ⟨y,H2,O,i,J⟩=>
  bY (ho g q σ H2 x y v u _ O D i J) λd p ⟨z,m,l,C,k,e,j⟩=>?_)) hm
 subst e;cases C;refine wpAny_truthy_bool ?_;cases k with
 |false=>exact ite_ff ⟨.bl false,m,l,rfl,j⟩
 |true=>exact ite_tt (chain_last (bY (hc g p σ m _ l j) λw' o ⟨n,S,M,B,G⟩=>ho' g o σ S y n u w' Q M i B G))
theorem u_{op op':CmpOp}{r r':R2}(ho:bu X (compareOp op) r)(ho':bu X (compareOp op') r')(ha:PE X a ta)(hb:PE X b tb)(hc:PE X c tc)
  (hm:autoParam (lastMarks [op,op'] [b,c]=false) zz5._auto_1):PT X (.Compare a [op,op'] [b,c] pos) (rJ (uK r r' ta tb tc)):=by
 intro g s σ H Q I h;refine isTrue_chain (bY (ha g s σ H _ I h) λv w ⟨x,H1,I1,G,O⟩=>test_link (bY (hb g w σ H1 _ I1 O) λu q ⟨y,H2,Z,i,M⟩=>
  bY (ho g q σ H2 x y v u _ Z G i M) λd p ⟨z,m,l,D,k,e,j⟩=>?_)) hm
 subst e;cases D;refine wpAny_truthy_bool ?_;cases k with
 |false=>
  obtain⟨k',T,R⟩:=j;cases T;exact ite_ff ⟨m,l,R⟩
 |true=>
  refine ite_tt (test_last (bY (hc g p σ m _ l j) λw' o ⟨n,H4,Y,C,L⟩=>bY (ho' g o σ H4 y n u w' _ Y i C L) λd' s5 ⟨z2,H5,U,B,k2,S,J⟩=>?_));subst S;cases B;exact wpAny_truthy_bool ⟨H5,U,J⟩
theorem o9:(sizeLine:Nat)<2 ^ 63:=by rw[q0V];decide
theorem dF:bu X (binaryOp .Add) (λx y H Q=>∃i j,x=.str i/\y=.str j/\i.length+j.length<=sizeLine/\Q (.str (i++j)) H):=by
 intro pins s σ H x y v u Q I rx ry h;obtain⟨i,j,rfl,rfl,b,q⟩:=h;obtain⟨t,rfl⟩:=rx;obtain⟨a,rfl⟩:=ry;exact add_str (λa tk=>⟨.str (i++j),H,I.tok _,⟨_,rfl⟩,q⟩) b
theorem lv{x:V}{us:Mz}(r:bc [x] us):∃u,us=[u]/\bx x u:=by
 cases r with
 |cons r1 r2=>cases r2;exact⟨_,rfl,r1⟩
end
structure wM(h:Heap)(x dx C:Addr)(mA:MB):Prop where
 obj:h.get? x=some (PySem.W.instObj C dx)
 ns:h.Ns1 dx mA
 ne:dx≠x
set_option tactic.hygienic true in
theorem zW{h:Heap}{mA:MB}(n:h.Ns1 dx mA):∃od,h.get? dx=some od/\∀name,PySem.W.lookIn name od=some (mA name):=by
 obtain⟨o,es,ep,ho,hd,hk,_,hm⟩:=n;refine⟨o,ho,λname=>?_⟩;have e:=hm name;unfold nsFind findBy at e;rw[<- Array.find?_toList]at e;unfold PySem.W.lookIn;rw[hd];dsimp only
 split
 ·rename_i y q
  rw[q]at e;exact q0R some e
 ·rename_i q
  rw[q]at e;have a:es.toList.any (·.refKey)=false:=by
   rw[List.any_eq_false];intro y hy;obtain⟨z,t,hkey⟩:=hk y (Array.mem_toList_iff.mp hy);simp[DictEntry.refKey,hkey]
  have a':¬ es.toList.any (·.refKey)=true:=by rw[a];exact L4
  rw[q06 a'];exact q0R some e
theorem wM.look{mA:MB}(I:wM h x dx C mA):∃od,PySem.W.InstAt h x (PySem.W.instObj C dx) C (some od)/\∀name,PySem.W.lookIn name od=some (mA name):=
 let ⟨od,ho,hl⟩:=zW I.ns
 ⟨od,⟨I.obj,rfl,rfl,ho⟩,hl⟩
section
variable {prog:ME}{w:MJ}{A:MG}{E:Mu}{s:My}{K:Mv}{x dx C f:Addr}{mA:MB}{name:Str}{v:Value}
theorem Eo{expr:Bool}{Q:Mu}(X:K.In s.heap)(I:wM s.heap x dx C mA)(hg:PySem.W.plainGet K C name=true)(hh:PySem.W.hasDictIn K C=true)
  (ha:PySem.W.findIn K (.ref C) name=some none) (hv:mA name=some v) (hv':PySem.W.handedIn v=true) (h:Q v {s with toks:=s.toks+1}) :
  wpAny (model prog w) A (getAttr (.ref x) name expr) Q E s:=by
 obtain⟨od,J,a⟩:=I.look;exact PySem.W.get_value X J (PySem.W.plainGet_of hg).1 (PySem.W.findObj_own hh ha rfl (by rw[a,hv])) hv' h
theorem B6{pl:Sem Bool}{Q:Value×List Value->Shared->Prop}(X:K.In s.heap)(I:wM s.heap x dx C mA)(hg:PySem.W.plainGet K C name=true)
  (hf:PySem.W.findIn K (.ref C) name=some (some (.ref f))) (ht:PySem.W.isFn K (.ref f)=true) (hv:mA name=none) (h:Q (.ref f,[.ref x]) s) :
  wpAny (model prog w) A (getMethod (.ref x) name pl) Q E s:=by
 obtain⟨a,J,b⟩:=I.look;exact PySem.W.method_fn X J (PySem.W.plainGet_of hg).1 (PySem.W.plainGet_of hg).2 hf (beq_iff_eq.mp ht) (by show(PySem.W.lookIn name a).map (·.isSome)=some false;rw[b,hv];rfl) h
theorem EN{ns:MF}{Q:Unit->Shared->Prop}(X:K.In s.heap)(I:wM s.heap x dx C mA)
  (hs:PySem.W.findIn K (.ref C) "__setattr__"=some (some (.builtin "object.__setattr__"))) (hp:PySem.W.plainOver K C=true) (ht:PySem.W.takerIn K C name=some none) (hh:PySem.W.hasDictIn K C=true)
  (hw:PySem.Within mA ns) (hsz:ns.length<=sizeLine)
  (h:∀h',wM h' x dx C (λy=>if y=name then some v else mA y)->Heap.SameBut dx s.heap h'->Q () {s with heap:=h',toks:=s.toks+2}) :
  wpAny (model prog w) A (setAttr (.ref x) name v) Q E s:=by
 obtain⟨od,J,hl⟩:=I.look;refine PySem.W.set_plain X J hs (PySem.W.osa_open (s:={s with toks:=s.toks+1}) (r:=none) X J hp ht λb=>?_);obtain⟨cd,m,i⟩:=PySem.W.any_some hh;have l:s.heap.get? x=some ⟨.ref C,some dx,.plain,#[]⟩:=I.obj;refine q04 (q05 (q04 (q04 (wpAny_loadPart l (q04 (PySem.W.Looks.here (s:={s with toks:=s.toks+1}) (PySem.W.looks_clsIn X m) ?_))))));rw[i];refine q05 (a:=some dx) (q04 (q05 (q04 ?_)));refine wpAny_nsSet1 (s:={s with toks:=s.toks+1}) I.ns λh' d c=>?_;obtain⟨oD,esD,epD,e,g,j⟩:=d.count (PySem.Within.cons name v hw);refine q04 (wpAny_lookBehind e (by rw[g];exact pastItsLine_dict (L9 j (by rw[LN];omega))) ?_);exact q05 (h _ ⟨(c.2 _ (Ne.symm I.ne)).trans I.obj,d,I.ne⟩ c)
theorem C5{R:Result->Shared->Prop}{vs:Mz}{kw:List (Str×Value)}(X:K.In s.heap)(hm:PySem.W.makesIn K C=true)
  (hi:PySem.W.findIn K (.ref C) "__init__"=some (some (.ref f))) (hf:PySem.W.typeIn K (.ref f)=some (.type "function"))
  (h:codeAny (model prog w) (A.under (.builtin "type.__call__" ⟨.ref C::vs,kw⟩)) (.call (.ref f) ⟨.ref (s.heap.objs.size+1)::vs,kw⟩) (PySem.W.InitBack (s.heap.objs.size+1) R)
   {s with heap:=(s.heap.push PySem.W.emptyDict).push (PySem.W.instObj C s.heap.objs.size)}) :
  codeAny (model prog w) A (.call (.ref C) ⟨vs,kw⟩) R s:=by
 obtain⟨hh,g,d,t,os⟩:=s;exact PySem.W.make_core (PySem.W.makes_of X hm) (PySem.W.looks_findIn X hi) (λself=>PySem.W.bind_fn X self hf) (.inl rfl) h
end
def cC(f:Str)(v:V):List (Str×V)->List (Str×V)
 | []=>[(f,v)]
 | (g,x)::r=>if g=f then(g,v)::r else(g,x)::cC f v r
theorem mU(f g:Str)(v:V):∀fs:List (Str×V),(cC f v fs).lookup g=if g=f then some v else fs.lookup g
 | []=>by
  show List.lookup g [(f,v)]=_
  by_cases h:g=f
  ·have hb:(g==f)=true:=beq_iff_eq.mpr h
   simp only[List.lookup,hb,q07 h]
  ·have hb:(g==f)=false:=beq_eq_false_iff_ne.mpr h
   simp only[List.lookup,hb,q06 h]
 | (k,x)::r=>by
  have ih:=mU f g v r;rw[show cC f v ((k,x)::r)=(if k=f then(k,v)::r else(k,x)::cC f v r) from rfl]
  by_cases hk:k=f
  ·rw[q07 hk]
   by_cases h:g=k
   ·have hb:(g==k)=true:=beq_iff_eq.mpr h
    simp only[List.lookup,hb,q07 (h.trans hk)]
   ·have hb:(g==k)=false:=beq_eq_false_iff_ne.mpr h
    simp only[List.lookup,hb,q06 (λe:g=f=>h (e.trans hk.symm))]
  ·rw[q06 hk]
   by_cases h:g=k
   ·have hb:(g==k)=true:=beq_iff_eq.mpr h
    simp only[List.lookup,hb,q06 (λe:g=f=>hk (h.symm.trans e))]
   ·have hb:(g==k)=false:=beq_eq_false_iff_ne.mpr h
    simp only[List.lookup,hb];exact ih
theorem lJ(f:Str)(v:V):∀fs:List (Str×V),f∈(cC f v fs).map (·.1)/\∀g,g∈fs.map (·.1)->g∈(cC f v fs).map (·.1)
 | []=>⟨by simp[cC],λg h=>by simp at h⟩
 | (k,x)::r=>by
  obtain⟨i1,i2⟩:=lJ f v r;rw[show cC f v ((k,x)::r)=(if k=f then(k,v)::r else(k,x)::cC f v r) from rfl]
  by_cases hk:k=f
  ·rw[q07 hk]
   subst hk;exact⟨by simp,λg h=>by simpa using h⟩
  ·rw[q06 hk]
   refine⟨?_,λg h=>?_⟩
   ·rw[L8]
    exact LS _ i1
   ·rw[L8]at h ⊢
    rcases LR.mp h with e | e
    ·exact LR.mpr (.inl e)
    ·exact LS _ (i2 g e)
theorem dg(f:Str)(v:V):∀fs:List (Str×V),(cC f v fs).length<=fs.length+1
 | []=>by simp[cC]
 | (k,x)::r=>by
  have ih:=dg f v r;rw[show cC f v ((k,x)::r)=(if k=f then(k,v)::r else(k,x)::cC f v r) from rfl]
  by_cases hk:k=f
  ·rw[q07 hk,LN,LN];omega
  ·rw[q06 hk,LN,LN];omega
theorem iF.some_of{v:V}{o:Option Value}(r:iF (some v) o):∃u,o=some u/\bx v u:=by
 cases o with
 |none=>exact(show False from r).elim
 |some u=>exact⟨u,rfl,r⟩
theorem iF.none_of(r:iF none o):o=none:=by
 cases o with
 |none=>rfl
 |some u=>exact(show False from r).elim
theorem Aj(r:bx v u):PySem.W.handedIn u=true:=by
 cases v with
 |non=>cases(show u=Value.none from r);rfl
 |bl b=>cases(show u=Value.bool b from r);rfl
 |int i=>obtain⟨t,e⟩:=(show ∃t,u=Value.int i t from r);cases e;rfl
 |str x=>obtain⟨t,e⟩:=(show ∃t,u=Value.str x t from r);cases e;rfl
 |byt b=>obtain⟨t,e⟩:=(show ∃t,u=Value.bytes b t from r);cases e;rfl
 |flt b=>obtain⟨t,e⟩:=(show ∃t,u=Value.float b t from r);cases e;rfl
 |ref a=>cases(show u=Value.ref a from r);rfl
 |ty n=>cases(show u=Value.type n from r);rfl
section
variable {P:ME}{w:MJ}{H H':Hp}{h h':Heap}{a C dx:Addr}{fs fs':List (Str×V)}
theorem nG(hok:jD P w H h)(e:H a=some (.ins C dx fs)):∃mA,wM h a dx C mA/\(∀f,iF (fs.lookup f) (mA f))/\PySem.Within mA (fs.map (·.1))/\fs.length<=1000/\H dx=some (.own a):=by
 obtain⟨d,z,ne,b,mA,n,r,q⟩:=(show b6 P w H h a (.ins C dx fs) from hok a _ e);exact⟨mA,⟨b,n,ne⟩,r,q,z,d⟩
end
structure iE(K:Mv)(C:Addr):Prop where
 pg:PySem.W.plainGet K C Str.empty=true
 hd:PySem.W.hasDictIn K C=true
 po:PySem.W.plainOver K C=true
 sa:PySem.W.findIn K (.ref C) "__setattr__"=some (some (.builtin "object.__setattr__"))
theorem iE.get{K:Mv}(c:iE K C)(f:Str):PySem.W.plainGet K C f=true:=c.pg
def aB(K:Mv)(C:Addr)(f:Str):Prop:=PySem.W.findIn K (.ref C) f=some none
theorem aB.taker{K:Mv}{f:Str}(n:aB K C f):PySem.W.takerIn K C f=some none:=by
 unfold PySem.W.takerIn;rw[show PySem.W.findIn K (.ref C) f=some none from n]
 rfl
structure iC(K:Mv)(C:Addr)(m:Str)(f:Addr):Prop where
 at_:PySem.W.findIn K (.ref C) m=some (some (.ref f))
 fn:PySem.W.isFn K (.ref f)=true
 kp:PySem.W.keepIn K (.ref f)=true
section
variable {X:Cx}{pins:Mw}{σ:St}{H:Hp}{s:My}{a C dx:Addr}{fs:List (Str×V)}{f:Str}{v:V}{A:MG}{E:Mu}
theorem wI{Q:Mu}(I:Inv X pins σ H s)(e:H a=some (.ins C dx fs))(c:iE X.K C)(n:aB X.K C f)(l:fs.lookup f=some v)
  (h:∀u s',Inv X pins σ H s'->bx v u->Q u s'):wpAny (model X.prog X.w) A (getAttr (.ref a) f b) Q E s:=by
 obtain⟨g,O,r,_,_,_⟩:=nG I.hok e;obtain⟨u,i,d⟩:=iF.some_of (v:=v) (o:=g f) (by rw[<- l];exact r f);exact Eo I.kIn O (c.get f) c.hd n i (Aj d) (h u _ (I.tok _) d)
theorem fP{pl:Sem Bool}{Q:Value×List Value->Shared->Prop}(I:Inv X pins σ H s)(e:H a=some (.ins C dx fs))(c:iE X.K C)(k:iC X.K C m g)(l:fs.lookup m=none)
  (h:Q (.ref g,[.ref a]) s):wpAny (model X.prog X.w) A (getMethod (.ref a) m pl) Q E s:=by
 obtain⟨b,O,r,_,_,_⟩:=nG I.hok e;have d:b m=none:=iF.none_of (by rw[<- l];exact r m);exact B6 I.kIn O (c.get m) k.at_ k.fn d h
theorem xQ{Q:Unit->Shared->Prop}(I:Inv X pins σ H s)(e:H a=some (.ins C dx fs))(c:iE X.K C)(n:aB X.K C f)(hl:fs.length<1000)(ry:bx y u)
  (h:∀s',Inv X pins σ (aD H a (.ins C dx (cC f y fs))) s'->Q () s'):wpAny (model X.prog X.w) A (setAttr (.ref a) f u) Q E s:=by
 obtain⟨j,O,r,i,_,l⟩:=nG I.hok e;have p:(fs.map (·.1)).length<=sizeLine:=by rw[LC,q0V];omega
 refine EN I.kIn O c.sa c.po n.taker c.hd i p λB d m=>h _ ?_;have hd:∃o,B.get? dx=some o:=let ⟨o,_,_,e',_⟩:=d.ns;⟨o,e'⟩
 refine I.write (x:=a) (e:=dx) (by rw[e];exact True.intro) (.inr l) (λb q w z=>(m.2 b w).trans z) hd ?_;refine⟨by rw[ar O.ne];exact l,?_,O.ne,d.obj,_,d.ns,λg=>?_,λg v=>?_⟩
 ·have:=dg f y fs;omega
 ·show iF ((cC f y fs).lookup g) (if g=f then some u else j g)
  rw[mU]
  by_cases q:g=f
  ·rw[q07 q,q07 q];exact ry
  ·rw[q06 q,q06 q];exact r g
 ·by_cases q:g=f
  ·rw[q];exact(lJ f y fs).1
  ·refine(lJ f y fs).2 g (i g λz=>v ?_)
   show(if g=f then some u else j g)=none;rw[q06 q];exact z
theorem Inv.made(I:Inv X pins σ H s):Inv X pins σ (aD (aD H s.heap.objs.size (.own (s.heap.objs.size+1))) (s.heap.objs.size+1) (.ins C s.heap.objs.size []))
  {s with heap:=(s.heap.push PySem.W.emptyDict).push (PySem.W.instObj C s.heap.objs.size)}:=by
 have c:(s.heap.push PySem.W.emptyDict).get? s.heap.objs.size=some PySem.W.emptyDict:=LI s.heap rfl;have j:((s.heap.push PySem.W.emptyDict).push (PySem.W.instObj C s.heap.objs.size)).get? (s.heap.objs.size+1)=some (PySem.W.instObj C s.heap.objs.size):=by
  have:=LI (s.heap.push PySem.W.emptyDict) (o:=PySem.W.instObj C s.heap.objs.size) rfl
  rwa [Heap.size_push]at this
 have i:(s.heap.push PySem.W.emptyDict).Ns s.heap.objs.size (λ_=>none):=⟨PySem.W.emptyDict,#[],_,c,rfl,(λe g=>q0Q g (by simp)),λ_=>rfl⟩;have l:=I.laid (a:=s.heap.objs.size) (o:=.own (s.heap.objs.size+1)) (h':=s.heap.push PySem.W.emptyDict) (t':=s.toks) (λb u q=>LB _ q) (L1 _) ⟨_,c⟩;refine l.laid (a:=s.heap.objs.size+1) (o:=.ins C s.heap.objs.size []) (t':=s.toks) (λb u q=>LB _ q) (Nat.le_of_eq (Heap.size_push _ _)) ?_;have ne:s.heap.objs.size≠s.heap.objs.size+1:=LW (L' _);refine⟨by rw[ar ne,ae],L3 _,ne,j,λ_=>none,(Heap.Ns1.of_empty i).at λo q=>LB _ q,λ_=>True.intro,λy d=>q0Q rfl d⟩
theorem EJ{prog:ME}{env:Env}{f:Str}{pos:Pos}{Q:Mu}(hb:attributeBase e f env (eval e env)=eval e env)
  (h:wpAny (model prog w) A (eval e env) (λo s₁=>wpAny (model prog w) A (getAttr o f true) Q E s₁) E s):wpAny (model prog w) A (eval (.Attribute e f pos) env) Q E s:=
 Attribute_any_ h (by rw[arm_eval_Attribute,hb])
end
def A3(K:Mv)(ta:TE)(f:Str):TE:=λσ H Q=>ta σ H λx H1=>∃a C dx fs v,x=.ref a/\H1 a=some (.ins C dx fs)/\iE K C/\aB K C f/\fs.lookup f=some v/\Q v H1
def Dw(K:Mv)(ta tv:TE)(f:Str):TS:=λD σ H=>tv σ H λy H1=>ta σ H1 λx H2=>∃a C dx fs,x=.ref a/\H2 a=some (.ins C dx fs)/\iE K C/\aB K C f/\fs.length<1000 /\
 D.nx σ (aD H2 a (.ins C dx (cC f y fs)))
section
variable {X:Cx}{o e value:Expr}{f:Str}{pos pos' tpos:Pos}{ta tv:TE}
theorem yi(he:PE X e ta)(hb:attributeBase e f X.env (eval e X.env)=eval e X.env):PE X (.Attribute e f pos) (A3 X.K ta f):=by
 intro b s σ H Q I h;refine EJ hb (bY (he b s σ H _ I h) λu s1 ⟨x,H1,o,d,a,C,dx,fs,v,i,j,c,n,l,q⟩=>?_);subst i;obtain rfl:u=Value.ref a:=d;exact wI o j c n l λu' s2 m g=>⟨v,H1,m,g,q⟩
theorem FA(ha:PE X o ta)(hv:PE X value tv)(hs:swapsWith value (some (.Attribute o f pos')) pos.line X.env=pure false):PS X (.Assign [.Attribute o f pos'] value pos) (Dw X.K ta tv f):=by
 intro b s σ H D I h;refine plainObj_wpAny_Assign_Attribute (bY (hv b s σ H _ I h) λu d ⟨y,H1,v,e,q⟩=>bY (ha b d σ H1 _ v q) λov s2 ⟨x,H2,r,g,a,C,dx,fs,j,m,c,n,l,i⟩=>?_) hs;subst j;obtain rfl:ov=Value.ref a:=g;exact xQ r m c n l e λs3 p=>⟨σ,_,p,i⟩
end
section
variable {X:Cx}{pins:Mw}{σ:St}{H:Hp}{s:My}{A:MG}{E:Mu}{Q:Mu}{c:Value}{b:Bool}
inductive jw(K:Mv)(H:Hp):V->Value->Prop where
 |non:jw K H .non (.type "NoneType")
 |bl (x:Bool):jw K H (.bl x) (.type "bool")
 |int (i:Int):jw K H (.int i) (.type "int")
 |str (x:Str):jw K H (.str x) (.type "str")
 |flt (x:UInt64):jw K H (.flt x) (.type "float")
 |lst {a:Addr} {xs:List V} (e:H a=some (.lst xs)):jw K H (.ref a) (.type "list")
 |frz {a:Addr} {o:Obj} {xs:List V} (e:H a=some (.frz o (.lst xs))):jw K H (.ref a) (.type "list")
 |tup {a:Addr} {xs:List V} (e:H a=some (.tup xs)):jw K H (.ref a) (.type "tuple")
 |dK {a:Addr} {kvs:List (cO×V)} (e:H a=some (.dK kvs)):jw K H (.ref a) (.type "dict")
 |dT {a:Addr} {kvs:List (List cO×V)} (e:H a=some (.dT kvs)):jw K H (.ref a) (.type "dict")
 |ins {a C dx:Addr} {fs:List (Str×V)} (e:H a=some (.ins C dx fs)) (cl:iE K C) (ha:PySem.W.findIn K (.ref C) "__class__"=some (some (.builtin "object.__class__")))
   (hn:PySem.W.specialIn K (.builtin "object.__class__") "__get__"=some (some (.builtin "getset_descriptor.__get__"))) (htk:PySem.W.takesIn K (.builtin "object.__class__")=some true)
   (hm:PySem.W.mroIn K C (.type "object")=some true):jw K H (.ref a) (.ref C)
theorem AZ{t:Value}(I:Inv X pins σ H s)(rx:bx x u)(ty:jw X.K H x t)(e:PySem.W.kitOne X.K t c=some b)(h:∀tk,Q (.bool b) {s with toks:=tk}) :
  wpAny (model X.prog X.w) A (call (.builtin "isinstance") [u,c]) Q E s:=by
 cases ty with
 |non=>cases(show u=Value.none from rx);exact PySem.W.kia_one PySem.W.kitx_none I.kIn True.intro e (λz=>nomatch z) h
 |bl y=>cases(show u=Value.bool y from rx);exact PySem.W.kia_one PySem.W.kitx_bool I.kIn True.intro e (λz=>nomatch z) h
 |int i=>obtain⟨t,q⟩:=(show ∃t,u=Value.int i t from rx);cases q;exact PySem.W.kia_one PySem.W.kitx_int I.kIn True.intro e (λz=>nomatch z) h
 |str y=>obtain⟨t,q⟩:=(show ∃t,u=Value.str y t from rx);cases q;exact PySem.W.kia_one PySem.W.kitx_str I.kIn True.intro e (λz=>nomatch z) h
 |flt y=>obtain⟨t,q⟩:=(show ∃t,u=Value.float y t from rx);cases q;exact PySem.W.kia_one PySem.W.kitx_float I.kIn True.intro e (λz=>nomatch z) h
 | @lst a d ea=>
  cases(show u=Value.ref a from rx);obtain⟨_,_,n,_,h1⟩:=(show b6 X.prog X.w H s.heap a (.lst d) from I.hok a _ ea);exact PySem.W.kia_one PySem.W.kitx_list I.kIn ⟨_,h1,rfl⟩ e (λz=>nomatch z) h
 | @frz a ob d ea=>
  cases(show u=Value.ref a from rx);obtain⟨_,_,_,n,_,h1⟩:=(show b6 X.prog X.w H s.heap a (.frz ob (.lst d)) from I.hok a _ ea);exact PySem.W.kia_one PySem.W.kitx_list I.kIn ⟨_,h1,rfl⟩ e (λz=>nomatch z) h
 | @tup a d ea=>
  cases(show u=Value.ref a from rx);obtain⟨_,_,_,p⟩:=(show b6 X.prog X.w H s.heap a (.tup d) from I.hok a _ ea);obtain⟨o,h1,h2,_⟩:=p;exact PySem.W.kia_one PySem.W.kitx_tuple I.kIn ⟨o,h1,h2⟩ e (λz=>nomatch z) h
 | @dK a kvs ea=>
  cases(show u=Value.ref a from rx);obtain⟨_,_,vs,_,p⟩:=(show b6 X.prog X.w H s.heap a (.dK kvs) from I.hok a _ ea);obtain⟨o,g,j,h1,h2,_⟩:=p;exact PySem.W.kia_one PySem.W.kitx_dict I.kIn ⟨o,h1,h2.1⟩ e (λz=>nomatch z) h
 | @dT a kvs ea=>
  cases(show u=Value.ref a from rx);obtain⟨_,_,d,_,o,g,j,h1,h2,_⟩:=(show b6 X.prog X.w H s.heap a (.dT kvs) from I.hok a _ ea);exact PySem.W.kia_one PySem.W.kitx_dict I.kIn ⟨o,h1,h2.1⟩ e (λz=>nomatch z) h
 | @ins a C dx fs ea cl ha hn htk hm=>
  cases(show u=Value.ref a from rx);obtain⟨mA,O,_⟩:=nG I.hok ea;obtain⟨od,J,_⟩:=O.look;exact PySem.W.kia_one (PySem.W.kitx_own (cl.get _) cl.hd ha hn htk hm) I.kIn J e (λz=>nomatch z) h
end
structure cT(k:Nat)(A:MG):Prop where
 hd:A.handled=none
 dp:A.depth+3*k+5<recursionLimit
 un:A.units+16*k+200<cLine
theorem cT.mono{j k:Nat}(r:cT k A)(h:j<=k):cT j A:=⟨r.hd,by have:=r.dp;omega,by have:=r.un;omega⟩
theorem cT.deeper{k:Nat}{A:MG}(r:cT (k+1) A)(env:Env):cT k (A.deeper env):=
 ⟨r.hd,by have:=r.dp;show A.depth+1+3*k+5<_;omega,by have:=r.un;show A.units+3+16*k+200<_;omega⟩
theorem cT.in1{k:Nat}{A:MG}(r:cT (k+1) A):cT k A.in1:=
 ⟨r.hd,by have:=r.dp;show A.depth+3*k+5<_;omega,by have:=r.un;show A.units+1+16*k+200<_;omega⟩
theorem w_{A:MG}{C:Addr}{us:Mz}{kw:List (Str×Value)}:(A.under (.builtin "type.__call__" ⟨.ref C::us,kw⟩)).depth=A.depth+1:=by
 first | rfl | simp[Around.under,Code.weight,Code.isCreation,Code.isGuard,Code.isCaller,Code.frames,Code.isFrame,guardIds]
theorem xS{A:MG}{C:Addr}{us:Mz}{kw:List (Str×Value)}:(A.under (.builtin "type.__call__" ⟨.ref C::us,kw⟩)).units=A.units+1:=by
 first | rfl | simp[Around.under,Code.cUnits,Code.frames,Code.isFrame]
theorem cT.make{k:Nat}{A:MG}(r:cT (k+1) A)(C:Addr)(us:Mz)(kw:List (Str×Value)):cT k (A.under (.builtin "type.__call__" ⟨.ref C::us,kw⟩)):=
 ⟨r.hd,by have:=r.dp;rw[w_];omega,by have:=r.un;rw[xS];omega⟩
theorem cT.depth{k:Nat}(r:cT k A):A.depth<recursionLimit:=by have:=r.dp;omega
theorem cT.units{k:Nat}(r:cT k A):A.units+64<cLine:=by have:=r.un;omega
def nv:TA:=λ_ H Q=>Q [] H
def iy(ta:TE)(tr:TA):TA:=λσ H Q=>ta σ H λx H1=>tr σ H1 λxs H2=>Q (x::xs) H2
section
variable {X:Cx}{e:Expr}{es:MM}{te:TE}{t:TA}{pos:Pos}
theorem ac:PA X [] nv:=λ_ _ _ _ H Q I h=>Calls.spliced_nil ⟨[],H,I,.nil,h⟩
theorem aa(ha:PE X e te)(hr:PA X es t)(hs:autoParam (starEach (e::es) X.env=(false,eval e X.env)::starEach es X.env) zz0._auto_1):PA X (e::es) (iy te t):=by
 intro b a s σ H Q I h;rw[hs];show wpAny _ _ (spliced ((false,eval e X.env)::backTo b (starEach es X.env))) _ _ s;refine Calls.spliced_cons (bY (ha a s σ H _ I h) λu d ⟨x,H1,n,i,l⟩=>?_);exact bY (hr b a d σ H1 _ n l) λus s2 ⟨c,H2,m,g,j⟩=>⟨x::c,H2,m,.cons i g,j⟩
def Et(t:TA):TE:=λσ H Q=>t σ H λxs H1=>xs.length<=sizeLine/\∀p,H1 p=none->Q (.ref p) (aD H1 p (.tup xs))
def BT(t:TA):TE:=λσ H Q=>t σ H λxs H1=>xs.length<=sizeLine/\∀p,H1 p=none->Q (.ref p) (aD H1 p (.lst xs))
theorem bz{x1}(h:PA X es t):PE X (.Tuple es x1 pos) (Et t):=by
 intro a s σ H Q I hq;refine wpAny_Tuple_spliced (bY (h pos a s σ H _ I hq) λus c ⟨g,H1,d,r,z,q⟩=>⟨by rw[<- r.length];exact z,?_⟩);have i:H1 c.heap.objs.size=none:=d.hok.fresh (L1 _);refine⟨.ref c.heap.objs.size,aD H1 c.heap.objs.size (.tup g),d.laid (t':=c.toks) (λb u e=>LB _ e) (L1 _) ?_,rfl,q _ i⟩;exact⟨z,us,r,⟨_,LI _ rfl,rfl,_,rfl⟩⟩
theorem ba(h:PA X es t):PE X (.List es pos) (BT t):=by
 intro a s σ H Q I hq;refine wpAny_List_spliced (bY (h pos a s σ H _ I hq) λus c ⟨g,H1,d,r,z,q⟩=>⟨by rw[<- r.length];exact z,?_⟩);have i:H1 c.heap.objs.size=none:=d.hok.fresh (L1 _);refine⟨.ref c.heap.objs.size,aD H1 c.heap.objs.size (.lst g),d.laid (t':=c.toks) (λb u e=>LB _ e) (L1 _) ?_,rfl,q _ i⟩;exact⟨z,us,0,r,LI _ rfl⟩
end
abbrev Sp:=List V->Hp->VK->XK->Prop
abbrev iR:=List Env->Hp->Shared->XK->Value->Shared->Prop
structure oa(P:ME)(w:MJ)(K:Mv)(mg:MB)(base:Heap)(A:MG)(outer:List Env)(s:My)(H:Hp):Prop where
 frames:A.frames=some outer
 mod:Mod K mg base
 bs:∀b o,base.get? b=some o->s.heap.get? b=some o/\H b=none
 bsz:base.objs.size<=s.heap.objs.size
 funs:s.heap.FunFrames base outer
 frf:∀b∈pz outer,H b=none
 hok:jD P w H s.heap
 bare:AllBare s.gens
def CE(outer:List Env)(P:ME)(w:MJ)(H:Hp)(s:My)(Q:VK)(u:Value)(s':My):Prop:=
 ∃v H',s'.os=s.os/\AllBare s'.gens/\Un (pz outer) [] H H' s.heap s'.heap/\jD P w H' s'.heap/\bx v u/\Q v H'
def CR(CX:iR)(outer:List Env)(P:ME)(w:MJ)(H:Hp)(s:My)(Q:VK)(E:XK)(r:Result)(s':My):Prop:=
 match r with
 | .ok (.ret u)=>CE outer P w H s Q u s'
 | .ok _=>False
 | .error e=>CX outer H s E e s'
structure aY(P:ME)(w:MJ)(K:Mv)(mg:MB)(base:Heap)(CX:iR)(k:Nat)(f:Addr)(fd:MD)(ps:MF)(sp:Sp):Prop where
 len:∀vs H Q E,sp vs H Q E->vs.length=ps.length
 run:∀(A:MG) (outer:List Env) (s:My) (H:Hp) (args:Args) (us:Mz) (vs:List V) (Q:VK) (E:XK),cT k A->oa P w K mg base A outer s H->BindsTo s fd args (ps.zip us)->bc vs us->sp vs H Q E ->
  codeAny (model P w) A (.call (.ref f) args) (CR CX outer P w H s Q E) s
theorem aY.mono{K:Mv}{mg:MB}{base:Heap}{CX:iR}{k:Nat}{f:Addr}{ps:MF}{sp:Sp}(F:aY P w K mg base CX j f fd ps sp)(h:j<=k) :
  aY P w K mg base CX k f fd ps sp:=⟨F.len,λA outer s H args us vs Q E hr=>F.run A outer s H args us vs Q E (hr.mono h)⟩
theorem oa.make{K:Mv}{mg:MB}{base:Heap}{outer:List Env}(e:oa P w K mg base A outer s H)(C:Addr)(us:Mz)(kw:List (Str×Value)) :
  oa P w K mg base (A.under (.builtin "type.__call__" ⟨.ref C::us,kw⟩)) outer s H:=⟨by first | exact e.frames | (simpa[Around.under,Code.envs,Code.isFrame,pushEnvs]using e.frames),e.mod,e.bs,e.bsz,e.funs,e.frf,e.hok,e.bare⟩
theorem oa.in1{K:Mv}{mg:MB}{base:Heap}{outer:List Env}(e:oa P w K mg base A outer s H) :
  oa P w K mg base A.in1 outer s H:=⟨e.frames,e.mod,e.bs,e.bsz,e.funs,e.frf,e.hok,e.bare⟩
section
variable {X:Cx}{pins:Mw}{σ:St}{H:Hp}{s s':My}
theorem Inv.env0(I:Inv X pins σ H s):oa X.prog X.w X.K X.mg X.base X.A X.stack s H:=
 ⟨I.ok.frames,I.ok.mod,I.bs,L9 I.ok.bsz I.sz,I.stack,I.stkFree,I.hok,I.bare⟩
theorem Inv.after(I:Inv X pins σ H s)(h:CE X.stack X.prog X.w H s Q u s'):EP X pins σ Q u s':=by
 obtain⟨v,j,os,a,un,e,r,q⟩:=h;obtain⟨i,g,d,t,c⟩:=s';obtain rfl:c=s.os:=os;exact⟨v,j,I.call (h':=i) (g':=g) (d':=d) (t':=t) (ch:=[]) un e a (λb z=>q0Q z (by simp)),r,q⟩
end
def mH(sp:Sp)(dvs:List V)(E:XK)(t:TA):TE:=λσ H Q=>t σ H λvs H1=>sp (vs++dvs) H1 Q E
def r9(C:Addr)(m:Str)(sp:Sp)(dvs:List V)(E:XK)(ta:TE)(t:TA):TE:=λσ H Q=>ta σ H λx H1=>∃a dx fs,x=.ref a/\H1 a=some (.ins C dx fs)/\fs.lookup m=none /\
 t σ H1 λvs H2=>sp (x::(vs++dvs)) H2 Q E
def yJ(C:Addr)(sp:Sp)(dvs:List V)(E:XK)(t:TA):TE:=λσ H Q=>t σ H λvs H1=>∀x dx,H1 x=none->H1 dx=none->dx≠x ->
 sp (.ref x::(vs++dvs)) (aD (aD H1 dx (.own x)) x (.ins C dx [])) (λv H2=>v=.non/\Q (.ref x) H2) E
def dW(K:Mv)(fd:MD)(ps:MF)(ds:Mz):Prop:=
 ∀(s:My) (us:Mz),K.In s.heap->(us++ds).length=ps.length->BindsTo s fd ⟨us,[]⟩ (ps.zip (us++ds))
theorem dW.all{K:Mv}{ps:MF}(h:∀us:List Value,us.length=ps.length->bindArgs fd ⟨us,[]⟩=pure (ps.zip us)):dW K fd ps []:=λs us _ hl=>by
 rw[Ma]at hl ⊢;exact .of_eq (h us hl)
def c5(CX:iR)(X:Cx)(E:XK):Prop:=∀(pins:Mw) (σ:St) (H:Hp) (s:My) (e:Value) (s':My),Inv X pins σ H s->CX X.stack H s E e s'->X.xe e s'
section
variable {X:Cx}{CX:iR}{k:Nat}{f C:Addr}{fd:MD}{ps:MF}{sp:Sp}{dvs:List V}{ds:Mz}{E:XK}{x m:Str}{p pos apos:Pos}{e o:Expr}{es:MM}{ta:TE}{t:TA}
theorem ml{pins:Mw}{σ:St}(F:aY X.prog X.w X.K X.mg X.base CX k f fd ps sp)(hr:cT k X.A)(hb:dW X.K fd ps ds)(hd:bc dvs ds)(hx:c5 CX X E)
  (I:Inv X pins σ H s) (r:bc vs us) (h:sp (vs++dvs) H Q E):wpAny (model X.prog X.w) X.A (call (.ref f) us) (EP X pins σ Q) X.xe s:=by
 have b:bc (vs++dvs) (us++ds):=r.append hd;have d:(us++ds).length=ps.length:=by rw[<- b.length];exact F.len _ _ _ _ h
 refine wpAny_call (codeAny_mono (F.run X.A X.stack s H ⟨us,[]⟩ (us++ds) (vs++dvs) Q E hr I.env0 (hb s us I.kIn d) b h) λr c a=>?_);cases r with
 |error e=>exact hx pins σ H s e c I a
 |ok fl=>
  cases fl with
  |ret u=>exact I.after a
  |next=>exact False.elim a
  |brk=>exact False.elim a
  |cont=>exact False.elim a
theorem Ed(F:aY X.prog X.w X.K X.mg X.base CX k f fd ps sp)(hr:cT k X.A)(hg:Gl X x)(hm:X.mg x=some (.ref f))(hk:PySem.W.keepIn X.K (.ref f)=true)(hb:dW X.K fd ps ds)(hd:bc dvs ds)(hx:c5 CX X E)
  (ha:PA X (e::es) t) (hdb:autoParam ((x==("__debug__":Str))=false) zz1._auto_1) (he:autoParam (starEach (e::es) X.env=(false,eval e X.env)::starEach es X.env) zz0._auto_1) (hpl:autoParam ((backTo pos (starEach es X.env)).any (·.1)=false) zz0._auto_1) :
  PE X (.Call (.Name x p) (e::es) [] pos) (mH sp dvs E t):=by
 intro a s σ H Q I h;refine wpAny_Call_Name_kw (kW I hg hm ?_ hdb);refine PySem.W.callWith_K (h₀:=X.base) I.ok.mod.kin hk (bY (ha pos a s σ H _ I h) λus s1 ⟨vs,H1,b,r,q⟩=>⟨b.kIn,?_⟩) he hpl;exact ml F hr hb hd hx b r q
theorem Em{pl:Sem Bool}(he:PE X o ta)(c:iE X.K C)(hm:iC X.K C m f)(F:aY X.prog X.w X.K X.mg X.base CX k f fd ps sp)(hr:cT k X.A)(hb:dW X.K fd ps ds)(hd:bc dvs ds)(hx:c5 CX X E)(ha:PA X (e::es) t)
  (hst:autoParam (starEach (e::es) X.env=(false,eval e X.env)::starEach es X.env) zz0._auto_1) (hpl:autoParam ((backTo pos (starEach es X.env)).any (·.1)=false) zz0._auto_1)
  (ht:autoParam (eval (.Call (.Attribute o m apos) (e::es) [] pos) X.env=(do
   let ov <- eval o X.env
   standAt apos.atName
   let (f,first) <- holding [ov] (getMethod ov m pl)
   callWith pos f first (backTo pos (starEach (e::es) X.env)) (backToKw pos (keywordEach [] X.env)))) zz0._auto_1) :
  PE X (.Call (.Attribute o m apos) (e::es) [] pos) (r9 C m sp dvs E ta t):=by
 intro b s σ H Q I h;refine PySem.W.methodCall_KW (pl:=pl) (bY (he b s σ H _ I h) λu i ⟨x,H1,g,j,a,dx,fs,p,v,l,q⟩=>?_) ht;subst p;obtain rfl:u=Value.ref a:=j;refine fP g v c hm l ?_;refine PySem.W.callWith_K (first:=[.ref a]) (h₀:=X.base) I.ok.mod.kin hm.kp (bY (ha pos b i σ H1 _ g q) λus s2 ⟨vs,H2,d,r,n⟩=>⟨d.kIn,?_⟩) hst hpl;exact ml (us:=.ref a::us) (vs:=.ref a::vs) F hr hb hd hx d (.cons rfl r) n
theorem Ct{pl:Sem Bool}(he:PE X o ta)(c:iE X.K C)(hm:iC X.K C m f)(F:aY X.prog X.w X.K X.mg X.base CX k f fd ps sp)(hr:cT k X.A)(hb:dW X.K fd ps ds)(hd:bc dvs ds)(hx:c5 CX X E)
  (ht:autoParam (eval (.Call (.Attribute o m apos) [] [] pos) X.env=(do
   let ov <- eval o X.env
   standAt apos.atName
   let (f,first) <- holding [ov] (getMethod ov m pl)
   callWith pos f first (backTo pos (starEach [] X.env)) (backToKw pos (keywordEach [] X.env)))) zz0._auto_1) :
  PE X (.Call (.Attribute o m apos) [] [] pos) (r9 C m sp dvs E ta nv):=by
 intro b s σ H Q I h;refine PySem.W.methodCall_KW (pl:=pl) (bY (he b s σ H _ I h) λu s1 ⟨x,H1,d,e,a,dx,fs,g,i,l,q⟩=>?_) ht;subst g;obtain rfl:u=Value.ref a:=e;refine fP d i c hm l ?_;exact PySem.W.callWith_K0 (first:=[.ref a]) d.kIn hm.kp (ml (us:=[.ref a]) (vs:=[.ref a]) F hr hb hd hx d (.cons rfl .nil) q)
structure Mk(K:Mv)(C f:Addr):Prop where
 makes:PySem.W.makesIn K C=true
 init:PySem.W.findIn K (.ref C) "__init__"=some (some (.ref f))
 fn:PySem.W.isFn K (.ref f)=true
 kp:PySem.W.keepIn K (.ref C)=true
theorem Bk{pins:Mw}{σ:St}{Q:VK}(M:Mk X.K C f)(F:aY X.prog X.w X.K X.mg X.base CX k f fd ps sp)(hr:cT (k+1) X.A)(hb:dW X.K fd ps ds)(hd:bc dvs ds)
  (hx:c5 CX X E) (I:Inv X pins σ H s) (r:bc vs us)
  (h:∀x dx,H x=none->H dx=none->dx≠x->sp (.ref x::(vs++dvs)) (aD (aD H dx (.own x)) x (.ins C dx [])) (λv H2=>v=.non/\Q (.ref x) H2) E) :
  wpAny (model X.prog X.w) X.A (call (.ref C) us) (EP X pins σ Q) X.xe s:=by
 have d:=h (s.heap.objs.size+1) s.heap.objs.size (I.hok.fresh (Nat.le_succ _)) (I.hok.fresh (L1 _)) (LW (L' _));have b:=Inv.made (C:=C) I;have c:bc (V.ref (s.heap.objs.size+1)::(vs++dvs)) (Value.ref (s.heap.objs.size+1)::(us++ds)):=.cons rfl (r.append hd);have l:(Value.ref (s.heap.objs.size+1)::us++ds).length=ps.length:=by
  have e:=c.length;rw[F.len _ _ _ _ d]at e;exact e.symm
 refine wpAny_call (C5 (f:=f) I.kIn M.makes M.init (beq_iff_eq.mp M.fn) (codeAny_mono (F.run _ X.stack _ _ ⟨Value.ref (s.heap.objs.size+1)::us,[]⟩ (Value.ref (s.heap.objs.size+1)::(us++ds)) _ _ E (hr.make C us [])
  (b.env0.make C us []) (hb _ (Value.ref (s.heap.objs.size+1)::us) b.kIn l) c d) λr g a=>?_))
 cases r with
 |error e=>exact hx pins σ _ _ e g b a
 |ok fl=>
  cases fl with
  |ret u=>
   obtain⟨v,o,n,i,m,j⟩:=b.after a;subst m;exact⟨i,⟨V.ref (s.heap.objs.size+1),o,n,rfl,j⟩⟩
  |next=>exact False.elim a
  |brk=>exact False.elim a
  |cont=>exact False.elim a
theorem EE(M:Mk X.K C f)(F:aY X.prog X.w X.K X.mg X.base CX k f fd ps sp)(hr:cT (k+1) X.A)(hg:Gl X x)(hm:X.mg x=some (.ref C))(hb:dW X.K fd ps ds)(hd:bc dvs ds)(hx:c5 CX X E)
  (ha:PA X (e::es) t) (hdb:autoParam ((x==("__debug__":Str))=false) zz1._auto_1) (he:autoParam (starEach (e::es) X.env=(false,eval e X.env)::starEach es X.env) zz0._auto_1) (hpl:autoParam ((backTo pos (starEach es X.env)).any (·.1)=false) zz0._auto_1) :
  PE X (.Call (.Name x p) (e::es) [] pos) (yJ C sp dvs E t):=by
 intro a s σ H Q I h;refine wpAny_Call_Name_kw (kW I hg hm ?_ hdb);refine PySem.W.callWith_K (h₀:=X.base) I.ok.mod.kin M.kp (bY (ha pos a s σ H _ I h) λus s1 ⟨vs,H1,b,r,q⟩=>⟨b.kIn,?_⟩) he hpl;exact Bk M F hr hb hd hx b r q
end
def PK(X:Cx)(kws:List Keyword)(t:TA):Prop:=
 ∀(pos:Pos) (pins:Mw) (s:My) (σ:St) (H:Hp) (Q:List V->Hp->Prop),Inv X pins σ H s->t σ H Q->wpAny (model X.prog X.w) X.A (evalAll ((backToKw pos (keywordEach kws X.env)).map (·.2))) (AP X pins σ Q) X.xe s
section
variable {X:Cx}{CX:iR}{k:Nat}{f C:Addr}{fd:MD}{ps ks:MF}{sp:Sp}{E:XK}{x m:Str}{p pos apos kpos:Pos}{e o:Expr}{es:MM}{kws:List Keyword}{te ta:TE}{t tk:TA}{nm:Option Str}
theorem F':PK X [] nv:=λ_ _ _ _ H Q I h=>wpAny_evalAll_nil ⟨[],H,I,.nil,h⟩
theorem D4(ha:PE X e te)(hr:PK X kws t):PK X (⟨nm,e,kpos⟩::kws) (iy te t):=by
 intro b a s σ H Q I h;show wpAny _ _ (evalAll ((do let v <- eval e X.env;standAt b;pure v)::(backToKw b (keywordEach kws X.env)).map (·.2))) _ _ s;refine wpAny_evalAll_cons (q04 (bY (ha a s σ H _ I h) λu d ⟨x,H1,n,i,l⟩=>q04 (wpAny_standAt (q05 ?_))));exact bY (hr b a d σ H1 _ n l) λus s2 ⟨c,H2,m,g,j⟩=>⟨x::c,H2,m,.cons i g,j⟩
variable {g:List Value->List Value->List Value}{gV:List V->List V->List V}
end
structure aC(N P:MF)(sc:Scope):Prop where
 kind:sc.kind=.function
 co:sc.isCoroutine=false
 gen:sc.isGenerator=false
 nd:N.Nodup
 pre:N.take P.length=P
 par:∀x∈P,sc.names.lookup x=some .local\/sc.names.lookup x=some .cell
 nofree:∀y∈sc.names,y.2≠.free
theorem rS{kindOf:Str->Option NameKind}{x:Str}:∀{binds:List (Str×Value)} {m:MB},(∀v,(x,v)∉binds)->bindL kindOf binds m x=m x
 | [],_,_=>rfl
 | (n,v)::r,m,h=>by
  unfold bindL;rw[rS λw hw=>h w (LS _ hw)]
  split
  ·have:x≠n:=by rintro rfl;exact h v q0B
   simp[this]
  ·rfl
theorem q8{kindOf:Str->Option NameKind}{x:Str}:∀{binds:List (Str×Value)} {m:MB},(∀v,(x,v)∉binds)->bindC kindOf binds m x=m x
 | [],_,_=>rfl
 | (n,v)::r,m,h=>by
  unfold bindC;rw[q8 λw hw=>h w (LS _ hw)]
  split
  ·rfl
  ·have:x≠n:=by rintro rfl;exact h v q0B
   simp[this]
theorem rj{kindOf:Str->Option NameKind}{x:Str}{v:Value}:∀{P:MF} {vs:Mz} {i:Nat} {m:MB},P.Nodup->P[i]?=some x->vs[i]?=some v->kindOf x=some .local ->
  bindL kindOf (P.zip vs) m x=some v
 | [],_,_,_,_,h,_,_=>by simp at h
 |_::_,[],_,_,_,_,h,_=>by simp at h
 |p::P,w::vs,0,m,nd,h1,h2,hk=>by
  simp at h1 h2;subst h1;subst h2
  show bindL kindOf ((p,w)::P.zip vs) m p=_;unfold bindL;rw[rS λv hv=>(List.nodup_cons.mp nd).1 (List.of_mem_zip hv).1,q07 hk];simp
 |p::P,w::vs,i+1,m,nd,h1,h2,hk=>by
  show bindL kindOf ((p,w)::P.zip vs) m x=_;unfold bindL;exact rj (i:=i) (List.nodup_cons.mp nd).2 (by simpa using h1) (by simpa using h2) hk
theorem q_{kindOf:Str->Option NameKind}{x:Str}{v:Value}:∀{P:MF} {vs:Mz} {i:Nat} {m:MB},P.Nodup->P[i]?=some x->vs[i]?=some v->kindOf x≠some .local ->
  bindC kindOf (P.zip vs) m x=some v
 | [],_,_,_,_,h,_,_=>by simp at h
 |_::_,[],_,_,_,_,h,_=>by simp at h
 |p::P,w::vs,0,m,nd,h1,h2,hk=>by
  simp at h1 h2;subst h1;subst h2
  show bindC kindOf ((p,w)::P.zip vs) m p=_;unfold bindC;rw[q8 λv hv=>(List.nodup_cons.mp nd).1 (List.of_mem_zip hv).1,q06 hk];simp
 |p::P,w::vs,i+1,m,nd,h1,h2,hk=>by
  show bindC kindOf ((p,w)::P.zip vs) m x=_;unfold bindC;exact q_ (i:=i) (List.nodup_cons.mp nd).2 (by simpa using h1) (by simpa using h2) hk
def start(N:MF)(vs:List V):St:=vs.map some++List.replicate (N.length-vs.length) none
def iB(CX:iR)(P:ME)(w:MJ)(K:Mv)(mg:MB)(base:Heap)(N:MF)(qual:Str)(scope:Scope)(f:Addr)(cd:Value)(A:MG)(outer:List Env)(s:My)(H:Hp)(E:XK):Cx where
 prog:=P
 w:=w
 K:=K
 mg:=mg
 base:=base
 A:=A.deeper (envOfC qual scope s.heap.objs.size f cd)
 N:=N
 s₀:=s
 H₀:=H
 env:=envOfC qual scope s.heap.objs.size f cd
 outer:=outer
 stack:=envOfC qual scope s.heap.objs.size f cd::outer
 ex:=[]
 calm:=true
 fn:=λ_=>true
 pn:=[]
 xe:=λe s'=>wpAny (model P w) (A.deeper (envOfC qual scope s.heap.objs.size f cd)) (leaving (envOfC qual scope s.heap.objs.size f cd) e) (λ_ s''=>CX outer H s E e s'') (λe' s''=>CX outer H s E e' s'') s'
theorem v_{sc:Scope}(h:sc.names.lookup x=some .cell):∃c,(cellsFrom n sc.names []).lookup x=some c:=by
 have q:=PySem.W.cellsFrom_some sc.names n [] (.inl h);exact Option.isSome_iff_exists.mp q
theorem zG{CX:iR}{K:Mv}{mg:MB}{base:Heap}{ps:MF}{qual:Str}{scope:Scope}{f:Addr}{cd:Value}{A:MG}{outer:List Env}{s1:My}{vs:List V}
  (S:aC N ps scope) (hd:A.handled=none) (e0:oa P w K mg base A outer s H) (hl:vs.length=ps.length) (r:bc vs us)
  (x:InCallC s s.heap.objs.size (bindL (envOfC qual scope s.heap.objs.size f cd).kindOf (ps.zip us) λ_=>none) (cellsFrom (s.heap.objs.size+1) scope.names []) (bindC (envOfC qual scope s.heap.objs.size f cd).kindOf (ps.zip us) λ_=>none) s1) :
  Inv (iB CX P w K mg base N qual scope f cd A outer s H E) [] (start N vs) H s1:=by
 have hpl:ps.length<=N.length:=by have:=q0R List.length S.pre;rw[Me]at this;omega
 obtain⟨h1,tk,rfl,o⟩:=x.done;have d:∀b:Addr,b∉(iB CX P w K mg base N qual scope f cd A outer s H E).ex:=λb z=>q0Q (show b∈([]:List Addr) from z) (by simp);refine⟨⟨e0.mod,S.kind,rfl,rfl,L1 _,λy z c h1 h2=>?_,λy hy=>?_,λy c _ h=>?_,λ_=>hd,Around.frames_deeper e0.frames,.inr ⟨rfl,rfl⟩,λb z=>q0Q z (d b),e0.bs,e0.bsz,λb _ _=>d b,λb z=>q0Q z (d b),e0.funs,e0.frf⟩,
  rfl,e0.bare,Un.kept o,⟨_,x.toInCall.ns,λi y v h1 h2 h3=>?_⟩,λy c h=>⟨_,x.cell y c h⟩,e0.hok.fresh (L1 _),λy c h=>?_,λp j=>q0Q (show p∈([]:List (Addr×Obj)) from j) (by simp),e0.hok.kept o,?_⟩
 ·exact name_of_addr x.apart (PySem.mem_of_lookup h1) (PySem.mem_of_lookup h2)
 ·have hy:scope.names.lookup y=some .cell\/scope.names.lookup y=some .free:=hy
  rcases hy with hy | hy
  ·exact v_ hy
  ·exact q0Q rfl (S.nofree _ (PySem.mem_of_lookup hy))
 ·exact q0P (x.above y c (PySem.mem_of_lookup h))
 ·have l:i<vs.length:=by
   unfold start at h2
   by_cases l:i<vs.length
   ·exact l
   ·rw[LX (by simpa using l)]at h2
    rw[List.getElem?_replicate]at h2
    split at h2<;>cases h2
  have C:vs[i]?=some v:=by
   unfold start at h2;rw[LY (by simpa using l),LF]at h2;cases e:vs[i]? with
   |none=>rw[e]at h2;cases h2
   |some a=>rw[e]at h2;cases h2;rfl
  obtain⟨u,m,B⟩:=r.get C;have j:ps[i]?=some y:=by
   rw[<- S.pre,List.getElem?_take_of_lt ⋯];exact h1
  have g:ps.Nodup:=by rw[<- S.pre];exact S.nd.sublist (List.take_sublist _ _)
  refine⟨u,B,?_⟩;rcases S.par y (LG j) with k | k
  ·exact .inl ⟨k,rj g j m k⟩
  ·obtain⟨c,e⟩:=v_ (n:=s.heap.objs.size+1) k
   refine .inr ⟨.inl k,c,e,?_⟩;have q:=x.cell y c e;rw[q_ g j m (by show scope.names.lookup y≠_;rw[k];decide)]at q;exact q
 ·exact e0.hok.fresh (q0P (x.above y c (PySem.mem_of_lookup h)))
 ·unfold start
  show _=N.length;rw[LZ,LC,List.length_replicate];omega
theorem BQ{CX:iR}{K:Mv}{mg:MB}{base:Heap}{k:Nat}{f:Addr}{name qual:Str}{params:Arguments}{body:List Stmt}{scope:Scope}{dV kV doc pm cdv ct oc:Value}{an od:ML}
  {osl:Array (Option Value)}{ps:MF} {sp:Sp} (lk:K.lookup f=some ⟨oc,od,.func (PySem.W.fnOf name qual params body scope dV kV doc pm an cdv ct),osl⟩) (hcd:PySem.W.codeIn K cdv qual=true) (S:aC N ps scope)
  (len:∀vs H Q E,sp vs H Q E->vs.length=ps.length)
  (hbody:∀(A:MG) (outer:List Env) (s:My) (H:Hp) (vs:List V) (Q:VK) (E:XK),cT k (A.deeper (envOfC qual scope s.heap.objs.size f cdv))->sp vs H Q E ->
   ∃t,uE (iB CX P w K mg base N qual scope f cdv A outer s H E) body t/\t {nx:=λ_ H'=>Q .non H',rt:=Q} (start N vs) H) :
  aY P w K mg base CX (k+1) f (PySem.W.fnOf name qual params body scope dV kV doc pm an cdv ct) ps sp:=by
 refine⟨len,λA outer s H args z vs Q E hr g M r d=>?_⟩;have G:=len _ _ _ _ d;have p:K.In s.heap:=g.mod.kin.keeps λb o e=>(g.bs b o e).1;have l:s.heap.NoLimit:=g.mod.nolimit.keeps λb o e=>(g.bs b o e).1;have a:∀y∈ps.zip z,scope.names.lookup y.1=some .local\/(scope.names.lookup y.1=some .cell/\((cellsFrom (s.heap.objs.size+1) scope.names []).lookup y.1).isSome=true):=λ⟨n,v⟩ B=>by
  rcases S.par n (List.of_mem_zip B).1 with q | q
  ·exact .inl q
  ·exact .inr ⟨q,PySem.W.cellsFrom_some _ _ _ (.inl q)⟩
 refine codeAny_call_function hr.depth (p _ _ lk) rfl S.co S.gen rfl (PySem.W.codeRec_of p hcd) (M _ _ _ _ ?_);refine wpAny_newFunctionEnv_cells S.kind a λenv L m x=>?_;subst L;refine⟨l.keeps x.toInCall.keep,codeAny_func ?_⟩;obtain⟨t,C,D⟩:=hbody A outer s H vs Q E (hr.deeper _) d;have I:Inv (iB CX P w K mg base N qual scope f cdv A outer s H E) [] (start N vs) H m:=zG S hr.hd g G r x;refine q0W (C [] m (start N vs) H _ I D) (λO i c=>?_) λe i c=>c;have dL:∀{σ':St} {H':Hp} {v:V} {u:Value},Inv (iB CX P w K mg base N qual scope f cdv A outer s H E) [] σ' H' i->bx v u->Q v H'->CE outer P w H s Q u i:=
  fun{σ' H' v u} J j q=>⟨v,H',J.os,J.bare,J.base,J.hok,j,q⟩
 cases O with
 |ret u=>
  obtain⟨v,σ',H',J,j,q⟩:=c;exact dL J j q
 |next=>
  obtain⟨σ',H',J,q⟩:=c;exact dL (v:=V.non) (u:=Value.none) J rfl q
 |brk=>
  obtain⟨_,_,_,q⟩:=c;exact False.elim q
 |cont=>
  obtain⟨_,_,_,q⟩:=c;exact False.elim q
section
variable {X:Cx}{x:Str}{p pos:Pos}{e:Expr}{es:MM}{t:TA}{id T:String}{r:List V->Hp->VK->Prop}
def HH(r:List V->Hp->VK->Prop)(t:TA):TE:=λσ H Q=>t σ H λvs H1=>r vs H1 Q
theorem aF(hc:dZ X (.builtin id) r)(hg:Gl X x)(hm:X.mg x=none)(hv:bootBuiltins x=some (.builtin id))(ha:PA X (e::es) t)(hn:autoParam (x≠"__name__") zz1._auto_1)(hdb:autoParam ((x==("__debug__":Str))=false) zz1._auto_1)
  (he:autoParam (starEach (e::es) X.env=(false,eval e X.env)::starEach es X.env) zz0._auto_1) (hpl:autoParam ((backTo pos (starEach es X.env)).any (·.1)=false) zz0._auto_1):PE X (.Call (.Name x p) (e::es) [] pos) (HH r t):=by
 intro a s σ H Q I h;refine wpAny_Call_Name_kw (eR I hg hm hv ?_ hn hdb);exact PyProof.Rows.callWith_builtin1 (bY (ha pos a s σ H _ I h) λus b ⟨vs,H1,g,c,d⟩=>hc a b σ H1 vs us Q g c d) he hpl
theorem b7(hc:dZ X (.type T) r)(hg:Gl X x)(hm:X.mg x=none)(hv:bootBuiltins x=some (.type T))(ha:PA X (e::es) t)(hn:autoParam (x≠"__name__") zz1._auto_1)(hdb:autoParam ((x==("__debug__":Str))=false) zz1._auto_1)
  (he:autoParam (starEach (e::es) X.env=(false,eval e X.env)::starEach es X.env) zz0._auto_1) (hpl:autoParam ((backTo pos (starEach es X.env)).any (·.1)=false) zz0._auto_1):PE X (.Call (.Name x p) (e::es) [] pos) (HH r t):=by
 intro a s σ H Q I h;refine wpAny_Call_Name_kw (eR I hg hm hv ?_ hn hdb);exact PyProof.Rows.callWith_type1 (bY (ha pos a s σ H _ I h) λus b ⟨vs,H1,g,c,d⟩=>hc a b σ H1 vs us Q g c d) he hpl
end
end L2
namespace HT
open PySem PyProof.Rows
section
variable {prog:ME}{w:MJ}{A:MG}{E:Mu}{s:My}
theorem cat_tup{t:Addr}{vs ws:Mz}{Q:Mu}(ht:IsTup s.heap t vs.toArray)(hb:IsTup s.heap b ws.toArray)(hv:vs≠[])
  (h1:ws=[]->Q (.ref t) s) (h2:ws≠[]->Q (.ref s.heap.objs.size) {s with heap:=s.heap.push {cls:=.type "tuple",data:=.seq (vs++ws).toArray} })
  (hsz:vs.length+ws.length<=sizeLine):wpAny (model prog w) A (binaryOp .Add (.ref t) (.ref b)) Q E s:=by
 obtain⟨⟨cls,r,data,m⟩,l,q,n,p⟩:=id ht;obtain⟨⟨cls2,i,data2,c⟩,a,g,o,d⟩:=id hb;simp only at q p g d;subst q p g d;have e:vs.toArray++ws.toArray=(vs++ws).toArray:=by simp
 by_cases j:ws=[]
 ·exact concat_meets ⟨_,l,rfl⟩ ⟨_,a,rfl⟩ noFill_tuple_add seq_tuple_add PySem.F.slot_tuple_add PySem.F.entry_tuple_add (PySem.F.args_tuple_add_2 _ _)
   (tuple_addW1 t b vs.toArray ws.toArray n o r i m c (by simpa using hv) (by simp[j])) ⟨l,a,h1 j⟩
 ·refine concat_meets ⟨_,l,rfl⟩ ⟨_,a,rfl⟩ noFill_tuple_add seq_tuple_add PySem.F.slot_tuple_add PySem.F.entry_tuple_add (PySem.F.args_tuple_add_2 _ _)
   (tuple_addW2 t b vs.toArray ws.toArray n o r i m c (by simpa using hv) (by simpa using j) (by rw[LJ,LJ];exact hsz)) ⟨l,a,?_⟩
  rw[e];exact h2 j
def sIx(n d:Nat):Option Int->Nat
 |none=>d
 |some v=>if v<0 then(v+(n:Int)).toNat else min v.toNat n
theorem sIx_nat(n d k:Nat):sIx n d (some (k:Int))=min k n:=by
 show(if(k:Int)<0 then((k:Int)+(n:Int)).toNat else min (k:Int).toNat n)=min k n;rw[q06 ⋯,LL]
theorem sIx_le(n d:Nat)(hd:d<=n)(o:Option Int):sIx n d o<=n:=by
 cases o with
 |none=>exact hd
 |some v=>
  show(if v<0 then(v+(n:Int)).toNat else min v.toNat n)<=n
  by_cases a:v<0
  ·rw[q07 a];omega
  ·rw[q06 a];exact Nat.min_le_right _ _
theorem yG(v:Int)(n d:Nat):(if v<0 then max (v+(n:Int)) 0 else min v (n:Int))=((sIx n d (some v):Nat):Int):=by
 show(if v<0 then max (v+(n:Int)) 0 else min v (n:Int))=(((if v<0 then(v+(n:Int)).toNat else min v.toNat n):Nat):Int)
 by_cases a:v<0
 ·simp only[q07 a];omega
 ·simp only[q06 a];omega
theorem xv(lo hi:Option Int)(n:Nat):Builtin.Slice.sliceAdjust lo hi 1 (n:Int)=(((sIx n 0 lo:Nat):Int),((sIx n n hi:Nat):Int)):=by
 have h1:¬ ((1:Int)<0):=by omega
 unfold Builtin.Slice.sliceAdjust;simp only[h1,if_false];refine Prod.ext ?_ ?_
 ·cases lo with
  |none=>rfl
  |some v=>exact yG v n 0
 ·cases hi with
  |none=>rfl
  |some v=>exact yG v n n
theorem wF(i j:Nat):Builtin.Slice.slicePlaces (i:Int) (j:Int) 1=j-i:=by
 unfold Builtin.Slice.slicePlaces;have h1:(1:Int)>0:=by omega
 simp only[h1,if_true,Int.ediv_one]
 split<;>omega
theorem pd{Q:Option Int->Shared->Prop}(p:IsPart v o)(h:Q o s):wpAny (model prog w) A (Builtin.Slice.slicePartIndex v) Q E s:=by
 cases p with
 |none=>exact slicePart_none h
 |int i t=>exact slicePart_int h
theorem gy{sl:Addr}{vl vu:Value}{lo hi:Option Int}{n:Nat}{Q:Int×Int×Nat->Shared->Prop}(hs:s.heap.IsSliceOf sl vl vu .none)(pl:IsPart vl lo)(pu:IsPart vu hi)
  (h:Q (((sIx n 0 lo:Nat):Int),1,sIx n n hi-sIx n 0 lo) s):wpAny (model prog w) A (Builtin.Slice.sliceApplied (.ref sl) (pure (n:Int))) Q E s:=by
 obtain⟨os,a,hcs,b⟩:=id hs;unfold Builtin.Slice.sliceApplied Builtin.Slice.sliceFields;refine q04 (q04 (wpAny_field a b (x:=vl) rfl (q04 (wpAny_field a b (x:=vu) rfl (q04 (wpAny_field a b (x:=.none) rfl (q05 ?_)))))));refine q04 (slicePart_none ?_);show wpAny _ _ (if((1:Int)==0)=true then _ else _) _ _ s;rw[q06 nofun];refine q04 (pd pl (q04 (pd pu (q04 (q05 ?_)))));show wpAny _ _ (match Builtin.Slice.sliceAdjust lo hi 1 (n:Int) with | (lo,hi)=>pure (lo,(1:Int),Builtin.Slice.slicePlaces lo hi 1)) _ _ s;rw[xv lo hi n];show wpAny _ _ (pure (((sIx n 0 lo:Nat):Int),(1:Int),Builtin.Slice.slicePlaces ((sIx n 0 lo:Nat):Int) ((sIx n n hi:Nat):Int) 1)) _ _ s;rw[wF];exact q05 h
theorem Dz(xs:Array Value)(i k:Nat):((List.range k).filterMap fun(m:Nat)=>xs[((i:Int)+(m:Int)*1).toNat]?).toArray=((xs.toList.drop i).take k).toArray:=by
 have e:(fun(m:Nat)=>xs[((i:Int)+(m:Int)*1).toNat]?)=λm=>xs[i+m]?:=by
  funext m
  have:((i:Int)+(m:Int)*1).toNat=i+m:=by omega
  rw[this]
 rw[e];have:=pick_run xs i k;rw[List.filterMap_map]at this;have a:((λx=>xs[x]?)∘λx=>i+x)=λm=>xs[i+m]?:=rfl;rw[a]at this;rw[this]
theorem getItem_tuple_cut{t sl:Addr}{items:Array Value}{vl vu:Value}{lo hi:Option Int}{Q:Mu}(ht:IsTup s.heap t items)(hs:s.heap.IsSliceOf sl vl vu .none)(pl:IsPart vl lo)(pu:IsPart vu hi)
  (hw:¬ (sIx items.size 0 lo=0/\sIx items.size items.size hi=items.size))
  (h:Q (.ref s.heap.objs.size) {s with heap:=s.heap.push {cls:=.type "tuple",data:=.seq ((items.toList.drop (sIx items.size 0 lo)).take (sIx items.size items.size hi-sIx items.size 0 lo)).toArray} })
  (hsz:items.size<=sizeLine):wpAny (model prog w) A (getItem (.ref t) (.ref sl)) Q E s:=by
 have a:sizeOk (.seq ((items.toList.drop (sIx items.size 0 lo)).take (sIx items.size items.size hi-sIx items.size 0 lo)).toArray):=by
  show((items.toList.drop (sIx items.size 0 lo)).take (sIx items.size items.size hi-sIx items.size 0 lo)).toArray.size<=sizeLine;rw[LJ,Me,Mf,Array.length_toList];omega
 have hj:sIx items.size items.size hi<=items.size:=sIx_le _ _ (L1 _) hi;obtain⟨g,b,d,hds⟩:=id hs;have e:s.TypeIs (.ref sl) "slice":=⟨g,b,d⟩;unfold getItem
 try with_reducible refine q0X ?_
 first | refine q04 (q05 ?_) | skip
 refine q04 (wpAny_sequenceKey ht.typeIs nofun ?_);refine q04 (wpAny_callSpecial?_slot (name:=Str.ofString "__getitem__") ht.typeIs PyProof.Rows.slot_tuple_getitem
  (wpAny_call_entry PyProof.Rows.slot_tuple_getitem ht.typeIs entry_tuple_getitem ?_ (args_tuple_getitem _ _)))
 show wpAny _ _ (Builtin.Tuple.tupleItemsOf (.ref t) >>= _) _ _ s;refine q04 (tupleItemsOf_ ht ?_);refine q04 (wpAny_typeOf e ?_);rw[q07 nofun];refine q04 (gy hs pl pu ?_);have c:¬ ((((sIx items.size 0 lo:Nat):Int)==0&&(1:Int)==1&&(sIx items.size items.size hi-sIx items.size 0 lo)==items.size)=true):=by
  intro q;rw[q0O,q0O]at q;have q1:((sIx items.size 0 lo:Nat):Int)=0:=eq_of_beq q.1.1;have q2:sIx items.size items.size hi-sIx items.size 0 lo=items.size:=eq_of_beq q.2;exact hw ⟨⋯,⋯⟩
 show wpAny _ _ (if(((sIx items.size 0 lo:Nat):Int)==0&&(1:Int)==1&&(sIx items.size items.size hi-sIx items.size 0 lo)==items.size)=true then _ else _) _ _ s;rw[q06 c,Dz]
 first
  |exact q04 (m:=Builtin.Tuple.tupleExact _) (wpAny_newObj_type (q05 ⟨_,rfl,q05 h⟩) a)
  |exact q04 (m:=Builtin.Tuple.tupleExact _) (wpAny_newObj_type (q04 (q05 (q05 ⟨_,rfl,q05 h⟩))) a)
  |exact q04 (q04 (m:=Builtin.Tuple.tupleExact _) (wpAny_newObj_type (q05 (q05 ⟨_,rfl,q05 h⟩)) a))
  |exact q04 (q04 (m:=Builtin.Tuple.tupleExact _) (wpAny_newObj_type (q05 ⟨_,rfl,q05 h⟩) a))
end
end HT
namespace L2
open PySem PySem.Spec PyProof.Rows
abbrev TO:=St->Hp->(Option Int->Hp->Prop)->Prop
def PO(X:Cx)(e:Option Expr)(t:TO):Prop:=
 ∀(pins:Mw) (s:My) (σ:St) (H:Hp) (Q:Option Int->Hp->Prop),Inv X pins σ H s->t σ H Q ->
  wpAny (model X.prog X.w) X.A (evalPart e X.env) (λu s'=>∃o H',Inv X pins σ H' s'/\IsPart u o/\Q o H') X.xe s
def sj:TO:=λ_ H Q=>Q none H
def Cf(t:TE):TO:=λσ H Q=>t σ H λx H1=>∃i,x=.int i/\Q (some i) H1
section
variable {X:Cx}{e:Expr}{te:TE}{lo hi:Option Expr}{tl th:TO}{pos p2:Pos}
theorem e_:PO X none sj:=by
 intro pins s σ H Q I h;rw[evalPart_none];exact q05 ⟨none,H,I,.none,h⟩
theorem DF(h:PE X e te):PO X (some e) (Cf te):=by
 intro a s σ H Q I hw;rw[evalPart_some];refine bY (h a s σ H _ I hw) λu s1 ⟨x,H1,d,b,c⟩=>?_;obtain⟨i,rfl,q⟩:=c;obtain⟨t,rfl⟩:=b;exact⟨some i,H1,d,.int i t,q⟩
def GM(X:Cx)(r:V->Option Int->Option Int->Hp->VK->Prop):Prop:=
 ∀(pins:Mw) (s:My) (σ:St) (H:Hp) (x:V) (v vl vu:Value) (lo hi:Option Int) (sl:Addr) (Q:VK),Inv X pins σ H s->bx x v->s.heap.IsSliceOf sl vl vu .none->IsPart vl lo->IsPart vu hi->r x lo hi H Q ->
  ∃T id,typeLookup (.type T) "__getitem__"=pure (some (.builtin id))/\s.TypeIs v T/\wpAny (model X.prog X.w) X.A (getItem v (.ref sl)) (EP X pins σ Q) X.xe s
def Ik(r:V->Option Int->Option Int->Hp->VK->Prop)(te:TE)(tl th:TO):TE:=λσ H Q=>te σ H λx H1=>tl σ H1 λl H2=>th σ H2 λu H3=>r x l u H3 Q
theorem cU(hr:GM X r)(he:PE X e te)(hl:PO X lo tl)(hu:PO X hi th):PE X (.Subscript e (.Slice lo hi none p2) pos) (Ik r te tl th):=by
 intro a s σ H Q I h;refine Subscript_ (bY (he a s σ H _ I h) λv i ⟨x,H1,L,j,o⟩=>?_);refine wpAny_Slice (bY (hl a i σ H1 _ L o) λvl g ⟨l,H2,J,y,n⟩=>bY (hu a g σ H2 _ J n) λvu c ⟨u,d,G,p,m⟩=>?_);rw[evalPart_none];refine q05 ?_;have D:Inv X a σ d {c with heap:=c.heap.push {cls:=.type "slice",data:=.fields #[vl,vu,.none]} }:=G.kept (t':=c.toks) λb ob q=>LB _ q;obtain⟨T,id,C,z,B⟩:=hr a {c with heap:=c.heap.push {cls:=.type "slice",data:=.fields #[vl,vu,.none]} } σ d x v vl vu l u c.heap.objs.size Q D j (Heap.IsSliceOf.new ..) y p m;show wpAny (model X.prog X.w) X.A (subscriptTail e (.Slice lo hi none p2) v (.ref c.heap.objs.size)) (EP X a σ Q) X.xe {c with heap:=c.heap.push {cls:=.type "slice",data:=.fields #[vl,vu,.none]} };exact tail_any (ops:=[.ref c.heap.objs.size,v]) z C B (by with_unfolding_all rfl)
def iS(xs:List V)(lo hi:Option Int):List V:=(xs.drop (HT.sIx xs.length 0 lo)).take (HT.sIx xs.length xs.length hi-HT.sIx xs.length 0 lo)
theorem i9(xs:List V)(lo hi:Option Int):(iS xs lo hi).length<=xs.length:=by
 unfold iS;rw[Me,Mf];omega
def Ee(K:Mv):V->Option Int->Option Int->Hp->VK->Prop:=λx lo hi H Q=>∃a xs,x=.ref a/\cK K H a xs /\
 ¬ (HT.sIx xs.length 0 lo=0/\HT.sIx xs.length xs.length hi=xs.length)/\∀p,H p=none->Q (.ref p) (aD H p (.tup (iS xs lo hi)))
theorem F0:GM X (Ee X.K):=by
 intro pins s σ H x v vl vu lo hi sl Q I rx hs pl pu h;obtain⟨a,d,rfl,j,l,q⟩:=h;cases rx;obtain⟨e,r,i,g⟩:=I.tuple j;have c:e.toArray.size=d.length:=by rw[LJ];exact r.length.symm
 refine⟨"tuple",_,PyProof.Rows.slot_tuple_getitem.lookup,i.typeIs,?_⟩;refine HT.getItem_tuple_cut i hs pl pu (by rw[c];exact l) ?_ (by rw[c];exact g);rw[c];refine⟨.ref s.heap.objs.size,_,I.laid (t':=s.toks) (o:=.tup (iS d lo hi)) (λb ob q=>LB _ q) (L1 _) ?_,rfl,q _ (I.hok.fresh (L1 _))⟩;exact⟨L9 (i9 d lo hi) g,_,(r.drop (HT.sIx d.length 0 lo)).take (HT.sIx d.length d.length hi-HT.sIx d.length 0 lo),IsTup.new _ _⟩
def Fe(K:Mv):R2:=λx y H Q=>∃a b xs ys,x=.ref a/\y=.ref b/\cK K H a xs/\cK K H b ys/\xs≠[]/\xs.length+ys.length<=sizeLine /\
 (ys=[]->Q (.ref a) H)/\(ys≠[]->∀p,H p=none->Q (.ref p) (aD H p (.tup (xs++ys))))
theorem bc.nil_iff(r:bc xs us):us=[]↔xs=[]:=by
 cases r with
 |nil=>simp
 |cons _ _=>simp
theorem Ek:bu X (binaryOp .Add) (Fe X.K):=by
 intro pins s σ H x y v u Q I rx ry h;obtain⟨a,b,i,g,rfl,rfl,B,r,p,e,l,j⟩:=h;cases rx;cases ry;obtain⟨its,d,n,_⟩:=I.tuple B;obtain⟨its2,c,m,_⟩:=I.tuple r;refine HT.cat_tup n m (λz=>p (d.nil_iff.mp z)) (λz=>⟨.ref a,H,I,rfl,l (c.nil_iff.mp z)⟩) (λz=>?_) (by rw[<- d.length,<- c.length];exact e);refine⟨.ref s.heap.objs.size,_,I.laid (t':=s.toks) (o:=.tup (i++g)) (λb ob q=>LB _ q) (L1 _) ?_,rfl,j (λw=>z (c.nil_iff.mpr w)) _ (I.hok.fresh (L1 _))⟩;exact⟨by rw[LZ];exact e,_,d.append c,IsTup.new _ _⟩
end
def GK(n:Nat)(i:Int):Option Nat:=if 0<=i then(if i<n then some i.toNat else none) else if -(n:Int)<=i then some (i+n).toNat else none
def ip{α:Type}(xs:List α)(i:Int):Option α:=(GK xs.length i).bind λj=>xs[j]?
theorem Ef{n:Nat}{j:Nat}(h:GK n i=some j):seqIndex? i n=some j/\j<n/\-(n:Int)<=i/\i<n:=by
 unfold GK at h
 by_cases a:0<=i
 ·rw[q07 a]at h
  by_cases h1:i<n
  ·rw[q07 h1]at h
   have e:i.toNat=j:=q0S h;exact⟨by rw[seqIndex_of a h1,e],⋯,⋯,h1⟩
  ·rw[q06 h1]at h;cases h
 ·rw[q06 a]at h
  by_cases h1:-(n:Int)<=i
  ·rw[q07 h1]at h
   have e:(i+n).toNat=j:=q0S h;exact⟨by rw[seqIndex_neg ⋯ h1,e],⋯,h1,⋯⟩
  ·rw[q06 h1]at h;cases h
theorem sw{α:Type}{xs:List α}{v:α}(h:ip xs i=some v):∃j,seqIndex? i xs.length=some j/\xs[j]?=some v/\j<xs.length/\-(xs.length:Int)<=i/\i<xs.length:=by
 unfold ip at h;cases e:GK xs.length i with
 |none=>rw[e]at h;cases h
 |some j=>
  rw[e]at h;obtain⟨h1,h2,b,a⟩:=Ef e;exact⟨j,h1,h,h2,b,a⟩
theorem bH{α:Type}{xs:List α}{j:Nat}{v:α}(h:xs[j]?=some v):ip xs (j:Int)=some v:=by
 have hj:j<xs.length:=(LA.mp h).1;have e:GK xs.length (j:Int)=some j:=by
  unfold GK;rw[q07 ⋯,q07 ⋯];simp
 unfold ip;rw[e];exact h
def D1(b:Expr):Prop:=∀o i,subscripted b false o i=operate [o,i] (getItem o i)
def Fk(X:Cx)(r:R2):Prop:=
 ∀(value slice:Expr) (pins:Mw) (s:My) (σ:St) (H:Hp) (x y:V) (v u:Value) (Q:VK),Inv X pins σ H s->bx x v->bx y u->r x y H Q ->
  subscripted slice false v u=operate [v,u] (getItem v u)->wpAny (model X.prog X.w) X.A (subscriptTail value slice v u) (EP X pins σ Q) X.xe s
def Ix(X:Cx)(id:String)(r:V->List V->Hp->VK->Prop):Prop:=
 ∀(pins:Mw) (s:My) (σ:St) (H:Hp) (x:V) (xs:List V) (v:Value) (us:Mz) (Q:VK),Inv X pins σ H s->bx x v->bc xs us->r x xs H Q ->
  wpAny (model X.prog X.w) X.A (call (.builtin id) (v::us)) (EP X pins σ Q) X.xe s
section
variable {X:Cx}{a b:Expr}{ta tb:TE}{pos:Pos}
theorem aM(hr:Fk X r)(ha:PE X a ta)(hb:PE X b tb)(hs:D1 b):PE X (.Subscript a b pos) (Fu r ta tb):=by
 intro c s σ H Q I h;exact Subscript_ (F4 ha hb I h λv u d x y H2 i g e q=>hr a b c d σ H2 x y v u Q i g e q (hs _ _))
def Az(K:Mv):R2:=λx y H Q=>∃p xs i v,x=.ref p/\y=.int i/\aI K H p xs/\ip xs i=some v/\Q v H
def yp(K:Mv):R2:=λx y H Q=>∃p xs i v,x=.ref p/\y=.int i/\cK K H p xs/\ip xs i=some v/\Q v H
def FT:R2:=λx y H Q=>∃z i c,x=.str z/\y=.int i/\z.length<=sizeLine/\ip z.cps.toList i=some c/\Q (.str ⟨#[c]⟩) H
theorem za:Fk X (Az X.K):=by
 intro value slice a s σ H x y v u Q I rx ry h hs;obtain⟨p,xs,i,z,rfl,rfl,n,B,q⟩:=h;cases rx;obtain⟨t,rfl⟩:=ry;obtain⟨d,r,c,hz⟩:=I.list n;obtain⟨j,h1,h2,h3,D,C⟩:=sw B;obtain⟨w,l,b⟩:=r.get h2;have o:=r.length;have hn:=o9;have dL:EP X a σ Q w s:=⟨z,H,I,b,q⟩
 by_cases g:0<=i
 ·have e:i.toNat=j:=by
   rw[seqIndex_of g C]at h1;exact q0S h1
  exact item_listR c.isList g ⋯ (by rw[e];simpa using l) dL hs
 ·have e:(i+(d.toArray.size:Int)).toNat=j:=by
   rw[seqIndex_neg ⋯ D]at h1;rw[LJ,<- o];exact q0S h1
  exact subscriptTail_builtinR (x:=w) c.isList.typeIs slot_list_getitem.lookup
   (wpAny_getItem_list_neg (Q:=λr m=>r=w/\EP X a σ Q r m) c.isList ⋯ (by rw[LJ]<;>omega) ⋯ (by rw[e];simpa using l) ⟨rfl,dL⟩) hs
theorem Cp:Fk X (yp X.K):=by
 intro value slice a s σ H x y v u Q I rx ry h hs;obtain⟨p,xs,i,z,rfl,rfl,e,l,q⟩:=h;cases rx;obtain⟨t,rfl⟩:=ry;obtain⟨its,r,c,hz⟩:=I.tuple e;obtain⟨j,h1,h2,h3,h4,h5⟩:=sw l;obtain⟨w,m,b⟩:=r.get h2;have g:=r.length;have hn:=o9;have dL:EP X a σ Q w s:=⟨z,H,I,b,q⟩;exact subscriptTail_builtinR (x:=w) c.typeIs slot_tuple_getitem.lookup
  (getItem_tuple (j:=j) (Q:=λr d=>r=w/\EP X a σ Q r d) c ⋯ ⋯ (by rw[LJ,<- g];exact h1) (by simpa using m) ⟨rfl,dL⟩) hs
theorem hX:Fk X FT:=by
 intro value slice pins s σ H x y v u Q I rx ry h hs;obtain⟨z,i,c,rfl,rfl,hz,b,q⟩:=h;obtain⟨t,rfl⟩:=rx;obtain⟨t',rfl⟩:=ry;obtain⟨j,h1,h2,h3,e,d⟩:=sw b;have a:z.cps.toList.length=z.length:=by simp[Str.length]
 rw[a]at h1 e d;have hn:=o9;exact tail_any (typeIs_str s z t) slot_str_getitem.lookup (getItem_str (c:=c) (by
  have l:decide (i < -(2 ^ 63:Int))=false:=q08 ⋯;have g:decide (i≥2 ^ 63)=false:=q08 ⋯;rw[l,g,Bool.or_false]) (by rw[h1];simpa using h2) ⟨.str ⟨#[c]⟩,H,I.tok _,⟨_,rfl⟩,q⟩) hs
theorem uz(lo hi:Option Int)(n:Nat):(sliceBounds lo hi none n).1=((HT.sIx n 0 lo:Nat):Int)/\(sliceBounds lo hi none n).2.1=((HT.sIx n n hi:Nat):Int)/\(sliceBounds lo hi none n).2.2=1:=by
 refine⟨?_,?_,rfl⟩
 ·cases lo with
  |none=>simp[sliceBounds,HT.sIx]
  |some i=>
   simp only[sliceBounds,HT.sIx,Option.getD_none,show(1:Int)>0 by decide,if_true]
   by_cases h:i<0
   ·simp only[h,if_true]<;>omega
   ·simp only[h,if_false]<;>omega
 ·cases hi with
  |none=>simp[sliceBounds,HT.sIx]
  |some i=>
   simp only[sliceBounds,HT.sIx,Option.getD_none,show(1:Int)>0 by decide,if_true]
   by_cases h:i<0
   ·simp only[h,if_true]<;>omega
   ·simp only[h,if_false]<;>omega
theorem qF(its:Mz)(lo hi:Option Int):slicePick its.toArray lo hi none=((its.drop (HT.sIx its.length 0 lo)).take (HT.sIx its.length its.length hi-HT.sIx its.length 0 lo)).toArray:=by
 obtain⟨h1,h2,a⟩:=uz lo hi its.toArray.size;unfold slicePick;rw[h1,h2,a];simp only[sliceRange_one,pick_run,LJ]<;>rfl
def FG(K:Mv):V->Option Int->Option Int->Hp->VK->Prop:=λx lo hi H Q=>∃a xs,x=.ref a/\aI K H a xs/\∀p,H p=none->Q (.ref p) (aD H p (.lst (iS xs lo hi)))
theorem sV:GM X (FG X.K):=by
 intro pins s σ H x v vl vu lo hi sl Q I rx hs pl pu h;obtain⟨a,c,rfl,i,q⟩:=h;cases rx;obtain⟨its,r,e,g⟩:=I.list i;have d:=r.length;refine⟨"list",_,slot_list_getitem.lookup,e.isList.typeIs,?_⟩;refine wpAny_getItem_list_slice e.isList hs pl pu .none (by simp) ?_ (by rw[LJ]<;>omega);rw[qF,<- d];refine⟨.ref s.heap.objs.size,_,I.laid (t':=s.toks) (o:=.lst (iS c lo hi)) (λb ob q=>LB _ q) (L1 _) ?_,rfl,q _ (I.hok.fresh (L1 _))⟩;exact⟨L9 (i9 c lo hi) g,_,0,(r.drop (HT.sIx c.length 0 lo)).take (HT.sIx c.length c.length hi-HT.sIx c.length 0 lo),LI _ rfl⟩
def qX:V->Bool
 | .non=>true
 | .bl _=>true
 | .int _=>true
 | .str _=>true
 |_=>false
def xi:V->V->Bool
 | .non,.non=>true
 | .bl a,.bl b=>a==b
 | .bl a,.int b=>(if a then 1 else 0)==b
 | .int a,.bl b=>a==(if b then 1 else 0)
 | .int a,.int b=>a==b
 | .str a,.str b=>a==b
 |_,_=>false
theorem gW(ry:bx y u)(rx:bx x v)(fy:qX y=true)(fx:qX x=true):SeqAt.EqAt A s u v (xi y x):=by
 cases y with
 |non=>
  cases ry;cases x with
  |non=>cases rx;exact SeqAt.EqAt.same _
  |bl b=>cases rx;exact SeqAt.EqAt.none_bool b
  |int b=>obtain⟨t,rfl⟩:=rx;exact SeqAt.EqAt.none_int b t
  |str b=>obtain⟨t,rfl⟩:=rx;exact SeqAt.EqAt.none_str b t
  |_=>exact q0Q (show false=true from fx) L4
 |bl a=>
  cases ry;cases x with
  |non=>cases rx;exact SeqAt.EqAt.bool_none a
  |bl b=>cases rx;exact SeqAt.EqAt.bool_bool a b
  |int b=>obtain⟨t,rfl⟩:=rx;exact SeqAt.EqAt.bool_int a b t
  |str b=>obtain⟨t,rfl⟩:=rx;exact SeqAt.EqAt.bool_str a b t
  |_=>exact q0Q (show false=true from fx) L4
 |int a=>
  obtain⟨c,rfl⟩:=ry;cases x with
  |non=>cases rx;exact SeqAt.EqAt.int_none a c
  |bl b=>cases rx;exact SeqAt.EqAt.int_bool a c b
  |int b=>obtain⟨t,rfl⟩:=rx;exact SeqAt.EqAt.int_int a c b t
  |str b=>obtain⟨t,rfl⟩:=rx;exact SeqAt.EqAt.int_str a c b t
  |_=>exact q0Q (show false=true from fx) L4
 |str a=>
  obtain⟨c,rfl⟩:=ry;cases x with
  |non=>cases rx;exact SeqAt.EqAt.str_none a c
  |bl b=>cases rx;exact SeqAt.EqAt.str_bool a c b
  |int b=>obtain⟨t,rfl⟩:=rx;exact SeqAt.EqAt.str_int a c b t
  |str b=>obtain⟨t,rfl⟩:=rx;exact SeqAt.EqAt.str_str a c b t
  |_=>exact q0Q (show false=true from fx) L4
 |_=>exact q0Q (show false=true from fy) L4
theorem uL:dZ X (.builtin "len") (λxs H Q=>∃p ys,xs=[.ref p]/\(aI X.K H p ys\/cK X.K H p ys)/\Q (.int ys.length) H):=by
 intro pins s σ H xs us Q I r h;obtain⟨p,ys,rfl,hq,q⟩:=h;obtain⟨u,rfl,e⟩:=lv r;cases e;have hn:=o9;rcases hq with hq | hq
 ·obtain⟨d,b,c,g⟩:=I.list hq
  have a:=b.length;exact Calls.call_len_list c.isList (by simp only[LJ]<;>omega) ⟨.int ys.length,H,I.tok _,⟨s.toks+1,by rw[LJ,a]⟩,q⟩
 ·obtain⟨d,b,c,g⟩:=I.tuple hq
  have a:=b.length;exact len_tuple c (by simp only[LJ]<;>omega) ⟨.int ys.length,H,I.tok _,⟨s.toks+1,by rw[LJ,a]⟩,q⟩
theorem um:dZ X (.builtin "len") (λxs H Q=>∃z,xs=[.str z]/\z.length<=sizeLine/\Q (.int z.length) H):=by
 intro pins s σ H xs us Q I r h;obtain⟨z,rfl,hz,q⟩:=h;obtain⟨u,rfl,t,rfl⟩:=lv r;have hn:=o9;exact len_str ⋯ ⟨.int z.length,H,I.tok _,⟨_,rfl⟩,q⟩
theorem b_:dZ X (.type "list") (λxs H Q=>∃p ys,xs=[.ref p]/\(aI X.K H p ys\/cK X.K H p ys)/\∀l,H l=none->Q (.ref l) (aD H l (.lst ys))):=by
 intro i s σ H xs us Q I r h;obtain⟨p,ys,rfl,hq,q⟩:=h;obtain⟨u,rfl,B⟩:=lv r;cases B;have dL:∀(a:Mz),bc ys a->ys.length<=sizeLine->∀(c:Heap) (g:Nat),(∀b o',s.heap.get? b=some o'->c.get? b=some o') ->
   c.get? s.heap.objs.size=some {cls:=.type "list",dict:=none,data:=.seq a.toArray g,slots:=#[]}->EP X i σ Q (.ref s.heap.objs.size) {s with heap:=c }:=λa d j c g kp e=>
  ⟨.ref s.heap.objs.size,_,I.laid (t':=s.toks) kp (L1 _) (show b6 X.prog X.w _ c _ (.lst ys) from⟨j,a,g,d,e⟩),rfl,q _ (I.hok.fresh (L1 _))⟩
 rcases hq with hq | hq
 ·obtain⟨a,d,v,j⟩:=I.list hq
  have m:=d.length;obtain⟨o,x,z,n,y⟩:=v.isList;exact call_list_seq p (.inl rfl) x z y (λc g kp e=>dL a d j c g kp e) (by simp only[LJ]<;>omega)
 ·obtain⟨a,d,v,j⟩:=I.tuple hq
  have m:=d.length;obtain⟨o,x,z,n,y⟩:=v;exact call_list_seq p (.inr rfl) x z y (λc g kp e=>dL a d j c g kp e) (by simp only[LJ]<;>omega)
theorem pZ:dZ X (.type "tuple") (λxs H Q=>∃p ys,xs=[.ref p]/\((aI X.K H p ys/\∀l,H l=none->Q (.ref l) (aD H l (.tup ys)))\/(cK X.K H p ys/\Q (.ref p) H))):=by
 intro a s σ H xs us Q I r h;obtain⟨p,ys,rfl,h⟩:=h;obtain⟨u,rfl,v⟩:=lv r;cases v;rcases h with⟨j,q⟩ | ⟨j,q⟩
 ·obtain⟨c,g,i,m⟩:=I.list j
  have hlen:=g.length;refine call_tuple_list i.isList (λd kp=>?_) (by simp only[LJ]<;>omega);have n:Inv X a σ H {s with heap:=d }:=I.kept (t':=s.toks) kp;have x:Inv X a σ (aD H d.objs.size (.tup ys)) {s with heap:=d.push {cls:=.type "tuple",data:=.seq c.toArray} }:=
   n.laid (t':=s.toks) (λb o e=>LB _ e) (L1 _) (show b6 X.prog X.w _ _ _ (.tup ys) from⟨m,c,g,IsTup.new _ _⟩)
  exact⟨.ref d.objs.size,_,x,rfl,q _ (n.hok.fresh (L1 _))⟩
 ·obtain⟨c,g,i,m⟩:=I.tuple j
  exact call_tuple_same i ⟨.ref p,H,I,rfl,q⟩
def Ja(K:Mv)(T:String)(x:V)(H:Hp):Prop:=match x with
 | .str _=>T="str"
 | .int _=>T="int"
 | .ref p=>(T="list"/\∃xs,aI K H p xs)\/(T="tuple"/\∃o,K.lookup p=some o/\o.cls=.type "tuple"/\o.dict=none) \/
   (T="dict"/\((∃kvs,H p=some (.dK kvs))\/∃kvs,H p=some (.dT kvs)))\/(T="set"/\∃S n,H p=some (.set S n))
 |_=>False
theorem Gr{pins:Mw}{σ:St}(I:Inv X pins σ H s)(r:bx x v)(ty:Ja X.K T x H) :
  s.TypeIs v T/\∀a,v=.ref a->∃ob,s.heap.get? a=some ob/\ob.dict=none:=by
 cases x with
 |str z=>
  obtain⟨t,rfl⟩:=r;cases(show T="str" from ty);exact⟨typeIs_str s z t,λ_ e=>nomatch e⟩
 |int i=>
  obtain⟨t,rfl⟩:=r;cases(show T="int" from ty);exact⟨typeIs_int s i t,λ_ e=>nomatch e⟩
 |ref p=>
  cases r;rcases ty with⟨rfl,xs,q⟩ | ⟨rfl,o,b,u,j⟩ | ⟨rfl,b⟩ | ⟨rfl,S,n,b⟩
  ·obtain⟨its,_,m,_⟩:=I.list q
   refine⟨m.isList.typeIs,λa e=>?_⟩;cases e;obtain⟨o,n,e,c,j,_⟩:=m;exact⟨o,e,j⟩
  ·refine⟨⟨o,I.kIn p o b,u⟩,λa e=>?_⟩
   cases e;exact⟨o,I.kIn _ o b,j⟩
  ·have z:∃o,s.heap.get? p=some o/\o.ExactDict:=by
    rcases b with⟨g,b⟩ | ⟨g,b⟩
    ·obtain⟨_,_,_,_,o,_,_,e,d,_⟩:=I.hok p _ b
     exact⟨o,e,d⟩
    ·obtain⟨_,_,_,_,o,_,_,e,d,_⟩:=I.hok p _ b
     exact⟨o,e,d⟩
   obtain⟨o,e,d⟩:=z;refine⟨⟨o,e,d.1⟩,λa l=>?_⟩;cases l;exact⟨o,e,d.2.1⟩
  ·obtain⟨o,_,_,_,e,d,_⟩:=I.hok p _ b
   refine⟨⟨o,e,d.1⟩,λa l=>?_⟩;cases l;exact⟨o,e,d.2.1⟩
 |_=>exact False.elim ty
def HN(K:Mv)(T:String)(r:V->List V->Hp->VK->Prop)(to:TE)(t:TA):TE:=λσ H Q=>to σ H λx H1=>Ja K T x H1/\t σ H1 λxs H2=>r x xs H2 Q
variable {o e:Expr}{es:MM}{to:TE}{t:TA}{name:Str}{apos cpos:Pos}{T id:String}{r:V->List V->Hp->VK->Prop}
theorem dy(pa:PlainAttrs T)(slot:Slot T name id)(hty:typeOf (.builtin id)=pure (.type "method_descriptor"))(hm:Ix X id r)(ho:PE X o to)(ha:PA X (e::es) t)
  (hbase:autoParam (attributeBase o name X.env (eval o X.env)=eval o X.env) zz0._auto_1)
  (hfew:autoParam (((backTo cpos (starEach (e::es) X.env)).all (λx=>!x.1)&&(backToKw cpos (keywordEach [] X.env)).all (λx=>x.1.isSome)
   && decide ((e::es).length+([]:List Keyword).length+(if([]:List Keyword).isEmpty then 0 else 1)<30))=true) zz0._auto_1)
  (hline:autoParam ((apos.endLine==cpos.line)=true) zz0._auto_1) (hs:autoParam (starEach (e::es) X.env=(false,eval e X.env)::starEach es X.env) zz0._auto_1) (hplain:autoParam ((backTo cpos (starEach es X.env)).any (·.1)=false) zz0._auto_1) :
  PE X (.Call (.Attribute o name apos) (e::es) [] cpos) (HN X.K T r to t):=by
 intro a s σ H Q I h;refine wpAny_Call_method_late hbase hfew hline rfl (bY (ho a s σ H _ I h) λv i ⟨x,H1,d,b,ty,m⟩=>?_);obtain⟨h1,h2⟩:=Gr d b ty;refine⟨T,id,pa,slot,hty,h1,h2,?_⟩;have c:=ha cpos a i σ H1 _ d m;rw[hs]at c ⊢;refine Calls.callWith_builtin (by show(false||(backTo cpos (starEach es X.env)).any (·.1))=false;rw[hplain]<;>rfl) (Calls.evalArgs_plain ?_);exact bY c λus g ⟨vs,H2,n,j,l⟩=>hm a g σ H2 x vs v us Q n b j l
end
def HF(X:Cx)(id:String)(r:V->List V->Hp->VK->Prop):Prop:=
 ∀(pins:Mw) (s:My) (σ:St) (H:Hp) (x:V) (xs:List V) (v:Value) (us:Mz) (Q:VK),Inv X pins σ H s->bx x v->bc xs us->r x xs H Q ->
  wpAny (model X.prog X.w) X.A (call (.builtin id) (v::us)) (EP X pins σ Q) X.xe s
theorem bc.one{x:V}{us:Mz}(h:bc [x] us):∃u,us=[u]/\bx x u:=by
 cases h with | cons r h=>cases h;exact⟨_,rfl,r⟩
theorem bc.two{x y:V}{us:Mz}(h:bc [x,y] us):∃u v,us=[u,v]/\bx x u/\bx y v:=by
 cases h with | cons r h=>obtain⟨u,rfl,q⟩:=bc.one h;exact⟨_,_,rfl,r,q⟩
theorem bc.zero:∀{us:Mz},bc [] us->us=[]
 |_,.nil=>rfl
theorem bc.eraseIdx:∀{xs:List V} {us:Mz} (i:Nat),bc xs us->bc (xs.eraseIdx i) (us.eraseIdx i)
 |_,_,_,.nil=>.nil
 |_,_,0,.cons _ t=>t
 |_,_,i+1,.cons r t=>.cons r (bc.eraseIdx i t)
theorem rF{α:Type}:∀(l:List α) (i:Nat),(l.eraseIdx i).length<=l.length
 | [],_=>L1 _
 |_::_,0=>Nat.le_succ _
 |_::r,i+1=>Nat.succ_le_succ (rF r i)
section
variable {X:Cx}{pins:Mw}{σ:St}{H:Hp}{s:My}{l b:Addr}{xs ys zs:List V}
theorem Inv.lset{its its':Mz}{f:Array Value->Array Value}{t':Nat}(I:Inv X pins σ H s)(hH:H l=some (.lst xs))
  (e:s.heap.get? l=some {cls:=.type "list",data:=.seq its.toArray n}) (hf:f its.toArray=its'.toArray) (hv:bc ys its') (hz:ys.length<=sizeLine) :
  Inv X pins σ (aD H l (.lst ys)) {s with heap:=s.heap.update l (Obj.mapSeq f),toks:=t' }:=by
 have q:=PySem.IsL.update e f;rw[hf]at q;refine I.write (x:=l) (e:=l) (by rw[hH];exact trivial) (.inl rfl) (λb' u b a=>(LH s.heap (Obj.mapSeq f) (Ne.symm b)).trans a) ⟨_,q⟩ ?_;exact⟨hz,its',_,hv,q⟩
theorem Inv.lnew{its:Mz}{t':Nat}(I:Inv X pins σ H s)(hv:bc ys its)(hz:ys.length<=sizeLine) :
  Inv X pins σ (aD H s.heap.objs.size (.lst ys)) {s with heap:=s.heap.push {cls:=.type "list",data:=.seq its.toArray},toks:=t' }:=
 I.laid (λ_ _ q=>LB _ q) (L1 _) ⟨hz,its,0,hv,LI _ rfl⟩
theorem Inv.fresh(I:Inv X pins σ H s):H s.heap.objs.size=none:=I.hok.fresh (L1 _)
theorem Inv.lstM(I:Inv X pins σ H s)(hH:H l=some (.lst xs)):xs.length<=sizeLine/\∃(its:Mz) (n:Nat),bc xs its/\xs.length=its.length/\s.heap.get? l=some {cls:=.type "list",data:=.seq its.toArray n}:=by
 obtain⟨z,its,n,r,e⟩:=I.hok l _ hH;exact⟨z,its,n,r,r.length,e⟩
theorem BX{n:Nat}(h:n<=sizeLine):Builtin.List.listTooLong n=false:=by
 unfold Builtin.List.listTooLong;exact q08 ⋯
end
section
variable {X:Cx}
def sG:V->List V->Hp->VK->Prop:=λx vs H Q=>∃l xs y,x=.ref l/\vs=[y]/\H l=some (.lst xs)/\xs.length<sizeLine/\Q .non (aD H l (.lst (xs++[y])))
theorem rD:HF X "list.append" sG:=by
 intro pins s σ H x vs v us Q I rx rv h;obtain⟨l,xs,y,rfl,rfl,b,hz,q⟩:=h;cases rx;obtain⟨u,rfl,c⟩:=rv.one;obtain⟨z,a,n,r,hl,e⟩:=I.lstM b;refine call_meets F.slot_list_append ⟨_,e,rfl⟩ F.entry_list_append (F.args_list_append_2 _ _) (PySem.list_append l a.toArray n u (by rw[LJ];omega)) ⟨e,?_⟩;refine⟨.non,_,I.lset (its':=a++[u]) b e (by simp) (r.append (.cons c .nil)) ?_,rfl,q⟩;rw[LZ,q0Y];omega
theorem q03{e:Expr}{es:List Expr}{to:TE}{t:TA}{apos cpos:Pos}(ho:PE X o to)(ha:PA X (e::es) t)
  (hbase:autoParam (attributeBase o "append" X.env (eval o X.env)=eval o X.env) zz0._auto_1)
  (hfew:autoParam (((backTo cpos (starEach (e::es) X.env)).all (λx=>!x.1)&&(backToKw cpos (keywordEach [] X.env)).all (λx=>x.1.isSome)
   && decide ((e::es).length+([]:List Keyword).length+(if([]:List Keyword).isEmpty then 0 else 1)<30))=true) zz0._auto_1)
  (hline:autoParam ((apos.endLine==cpos.line)=true) zz0._auto_1) (hs:autoParam (starEach (e::es) X.env=(false,eval e X.env)::starEach es X.env) zz0._auto_1) (hplain:autoParam ((backTo cpos (starEach es X.env)).any (·.1)=false) zz0._auto_1) :
  PE X (.Call (.Attribute o "append" apos) (e::es) [] cpos) (HN X.K "list" sG to t):=dy PySem.F.plainAttrs_list PySem.F.slot_list_append PySem.F.type_list_append rD ho ha hbase hfew hline hs hplain
def uf:V->List V->Hp->VK->Prop:=λx vs H Q=>∃l b xs zs,x=.ref l/\vs=[.ref b]/\H l=some (.lst xs)/\H b=some (.lst zs)/\xs.length+zs.length<=sizeLine/\Q .non (aD H l (.lst (xs++zs)))
theorem jh:HF X "list.extend" uf:=by
 intro pins s σ H x vs v us Q I rx rv h;obtain⟨l,b,xs,zs,rfl,rfl,i,p,hz,q⟩:=h;cases rx;obtain⟨u,rfl,j⟩:=rv.one;cases j;obtain⟨z,c,n,r,hl,e⟩:=I.lstM i;obtain⟨z2,a,o,m,hl2,w⟩:=I.lstM p;have g:c.toArray.size+a.toArray.size<=sizeLine:=by rw[LJ,LJ];omega
 have d:¬ (!c.toArray.isEmpty&&Builtin.List.listTooLong (c.toArray.size+a.toArray.size))=true:=by
  rw[BX g,Bool.and_false];exact L4
 refine call_meets F.slot_list_extend ⟨_,e,rfl⟩ F.entry_list_extend (F.args_list_extend_2 _ _)
  (AutoSeq1.list_extend_list_list_0 l c.toArray n b a.toArray o d (by rw[LJ];omega) ⋯) ⟨e,w,?_⟩
 refine⟨.non,_,I.lset (its':=c++a) i e (by simp) (r.append m) ?_,rfl,q⟩;rw[LZ];omega
def wV:V->List V->Hp->VK->Prop:=λx vs H Q=>∃l xs i k y,x=.ref l/\vs=[.int i]/\H l=some (.lst xs)/\-(2 ^ 63)<=i/\i<2 ^ 63/\seqIndex? i xs.length=some k/\xs[k]?=some y/\Q y (aD H l (.lst (xs.eraseIdx k)))
theorem BK:HF X "list.pop" wV:=by
 intro pins s σ H x vs v us Q I rx rv h;obtain⟨l,d,i,k,y,rfl,rfl,c,h1,h2,p,j,q⟩:=h;cases rx;obtain⟨u,rfl,g⟩:=rv.one;obtain⟨t,rfl⟩:=g;obtain⟨z,a,n,r,o,e⟩:=I.lstM c;obtain⟨w,m,b⟩:=r.get j;refine call_meets F.slot_list_pop ⟨_,e,rfl⟩ F.entry_list_pop (F.args_list_pop_2 _ _)
  (MeetsSeq.list_pop_at l a.toArray n i t k w (fitsIndex_both h1 h2) (by rw[LJ,<- o];exact p) (by rw[<- q0G];exact m) (by rw[LJ];omega)) ⟨e,?_⟩
 refine⟨y,_,I.lset (its':=a.eraseIdx k) c e ?_ (r.eraseIdx k) ?_,b,q⟩
 ·show a.toArray.eraseIdxIfInBounds k=(a.eraseIdx k).toArray
  rw[List.eraseIdxIfInBounds_toArray]
 ·have:=rF d k
  omega
def Gs:R2:=λx y H Q=>∃l b xs zs,x=.ref l/\y=.ref b/\H l=some (.lst xs)/\H b=some (.lst zs)/\xs.length+zs.length<=sizeLine/\∀p,H p=none->Q (.ref p) (aD H p (.lst (xs++zs)))
theorem yh:bu X (binaryOp .Add) Gs:=by
 intro pins s σ H x y v u Q I rx ry h;obtain⟨l,b,xs,zs,rfl,rfl,g,i,hz,q⟩:=h;cases rx;cases ry;obtain⟨z,c,n,r,hl,e⟩:=I.lstM g;obtain⟨z2,a,n2,d,hl2,m⟩:=I.lstM i;refine PySem.P.add_list e m ?_ (by rw[LJ,LJ];omega);have j:c.toArray++a.toArray=(c++a).toArray:=by simp
 rw[j];exact⟨.ref _,_,I.lnew (t':=s.toks) (r.append d) (by rw[LZ];omega),rfl,q _ I.fresh⟩
end
section
variable {κ:Type}[DecidableEq κ]
def cJ(kvs:List (κ×V))(k:κ):Option V:=(kvs.find? λkv=>decide (kv.1=k)).map (·.2)
def dl(kvs:List (κ×V))(k:κ)(v:V):List (κ×V):=
 if(kvs.any λkv=>decide (kv.1=k))=true then kvs.map (λkv=>if kv.1=k then(kv.1,v) else kv) else kvs++[(k,v)]
theorem cz{p:κ×V}{r:List (κ×V)}{k:κ}(e:p.1=k):cJ (p::r) k=some p.2:=by simp[cJ,List.find?_cons,e]
theorem cE{p:κ×V}{r:List (κ×V)}{k:κ}(e:¬ p.1=k):cJ (p::r) k=cJ r k:=by simp[cJ,List.find?_cons,e]
theorem eG(k:κ):∀kvs:List (κ×V),(kvs.any λkv=>decide (kv.1=k))=(cJ kvs k).isSome
 | []=>rfl
 |p::r=>by
  rw[List.any_cons]
  by_cases e:p.1=k
  ·simp only[cz e,q09 e,Bool.true_or,Option.isSome_some]
  ·rw[cE e,q08 e,Bool.false_or];exact eG k r
theorem we(k j:κ)(y:V):∀kvs:List (κ×V),cJ (kvs.map λkv=>if kv.1=k then(kv.1,y) else kv) j=(cJ kvs j).map λx=>if j=k then y else x
 | []=>rfl
 |p::r=>by
  have ih:=we k j y r;rw[L8]
  by_cases h:p.1=k
  ·rw[q07 h]
   by_cases e:p.1=j
   ·rw[cz (p:=(p.1,y)) e,cz e,Option.map_some,q07 (e.symm.trans h)]
   ·rw[cE (p:=(p.1,y)) e,cE e,ih]
  ·rw[q06 h]
   by_cases e:p.1=j
   ·rw[cz (p:=p) e,cz e,Option.map_some,q06 (λz=>h (e.trans z))]
   ·rw[cE (p:=p) e,cE e,ih]
theorem rQ(k j:κ)(y:V):∀kvs:List (κ×V),cJ kvs k=none->cJ (kvs++[(k,y)]) j=if j=k then some y else cJ kvs j
 | [],_=>by
  by_cases e:k=j
  ·rw[q07 e.symm];exact cz (p:=(k,y)) e
  ·rw[q06 (λz=>e z.symm)];exact cE (p:=(k,y)) e
 |p::r,hn=>by
  rw[List.cons_append];have hk:¬ p.1=k:=λz=>by rw[cz z]at hn;cases hn
  rw[cE hk]at hn;have ih:=rQ k j y r hn
  by_cases e:p.1=j
  ·rw[cz e,cz e,q06 (λz=>hk (e.trans z))]
  ·rw[cE e,cE e,ih]
theorem wb(kvs:List (κ×V))(k j:κ)(y:V):cJ (dl kvs k y) j=if j=k then some y else cJ kvs j:=by
 unfold dl
 by_cases a:(kvs.any λb=>decide (b.1=k))=true
 ·rw[q07 a,we]
  rw[eG]at a
  by_cases e:j=k
  ·obtain⟨x,c⟩:=Option.isSome_iff_exists.mp a
   rw[q07 e,e,c,Option.map_some,q07 rfl]
  ·rw[q06 e]
   cases cJ kvs j with
   |none=>rfl
   |some x=>rw[Option.map_some,q06 e]
 ·rw[q06 a]
  refine rQ k j y kvs ?_;rw[eG]at a;cases q:cJ kvs k with
  |none=>rfl
  |some x=>rw[q]at a;exact(a rfl).elim
theorem eO(kvs:List (κ×V))(k:κ)(v:V):(dl kvs k v).length<=kvs.length+1:=by
 unfold dl
 split
 ·rw[LC];omega
 ·rw[LZ,LN,List.length_nil];omega
theorem De{kvs:List (κ×V)}{k:κ}(v:V)(h:cJ kvs k=none):dl kvs k v=kvs++[(k,v)]:=by
 unfold dl;rw[eG,h];exact q06 nofun
theorem iF.isSome_eq(r:iF o u):o.isSome=u.isSome:=by
 cases o with
 |none=>cases u with
  |none=>rfl
  |some _=>exact(show False from r).elim
 |some _=>cases u with
  |none=>exact(show False from r).elim
  |some _=>rfl
theorem iF.getD(r:iF o u)(rd:bx d d'):bx (o.getD d) (u.getD d'):=by
 cases o with
 |none=>cases u with
  |none=>exact rd
  |some _=>exact(show False from r).elim
 |some _=>cases u with
  |none=>exact(show False from r).elim
  |some _=>exact r
theorem KV.val{kvs:List (κ×V)}{vs:List (κ×Value)}(r:KV kvs vs)(k:κ):iF (cJ kvs k) (valueAt vs k):=by
 unfold KV at r
 induction r with
 |nil=>exact True.intro
 | @cons p q ps qs h t ih=>
  obtain⟨h1,h2⟩:=h
  by_cases e:p.1=k
  ·have a:q.1=k:=h1.symm.trans e
   have b:valueAt (q::qs) k=some q.2:=by simp[valueAt,List.find?_cons,a]
   rw[cz e,b];exact h2
  ·have a:¬ q.1=k:=λz=>e (h1.trans z)
   have b:valueAt (q::qs) k=valueAt qs k:=by simp[valueAt,List.find?_cons,a]
   rw[cE e,b];exact ih
theorem KV.any{kvs:List (κ×V)}{vs:List (κ×Value)}(r:KV kvs vs)(k:κ):(kvs.any λkv=>decide (kv.1=k))=vs.any λkv=>decide (kv.1=k):=by
 unfold KV at r
 induction r with
 |nil=>rfl
 |cons h t ih=>rw[List.any_cons,List.any_cons,ih,h.1]
theorem KV.repl{kvs:List (κ×V)}{vs:List (κ×Value)}(r:KV kvs vs)(k:κ){y:V}{u:Value}(ry:bx y u) :
  KV (kvs.map λkv=>if kv.1=k then(kv.1,y) else kv) (vs.map λkv=>if kv.1=k then(kv.1,u) else kv):=by
 unfold KV at r ⊢
 induction r with
 |nil=>exact .nil
 | @cons p q ps qs h t ih=>
  rw[L8,L8];refine .cons ?_ ih;obtain⟨h1,h2⟩:=h
  by_cases e:p.1=k
  ·rw[q07 e,q07 (h1.symm.trans e)];exact⟨h1,ry⟩
  ·rw[q06 e,q06 (λz=>e (h1.trans z))];exact⟨h1,h2⟩
theorem KV.put{kvs:List (κ×V)}{vs:List (κ×Value)}(r:KV kvs vs)(k:κ){y:V}{u:Value}(ry:bx y u):KV (dl kvs k y) (stored vs k u):=by
 unfold dl stored;rw[r.any k]
 by_cases e:(vs.any λa=>decide (a.1=k))=true
 ·rw[q07 e,q07 e];exact r.repl k ry
 ·rw[q06 e,q06 e];exact Paired.snoc r ⟨rfl,ry⟩
theorem KV.keys{kvs:List (κ×V)}{vs:List (κ×Value)}(r:KV kvs vs):kvs.map (·.1)=vs.map (·.1):=by
 unfold KV at r
 induction r with
 |nil=>rfl
 |cons h t ih=>rw[L8,L8,ih,h.1]
theorem KV.length{kvs:List (κ×V)}{vs:List (κ×Value)}(r:KV kvs vs):kvs.length=vs.length:=Paired.length r
end
theorem mL{k:cO}{u:Value}(r:bx (kV k) u):(bX P w).is k u=true:=by
 cases k with
 |inl i=>obtain⟨t,e⟩:=(show ∃t,u=Value.int i t from r);subst e;exact vn P w i t
 |inr x=>obtain⟨t,e⟩:=(show ∃t,u=Value.str x t from r);subst e;exact uY P w x t
theorem qS:∀{ks:List cO} {us:Mz},bc (ks.map kV) us->ItemsAre (bX P w) ks us
 | [],_,r=>by rw[List.map_nil]at r;cases r;exact .nil
 |k::ks,_,r=>by
  rw[L8]at r;cases r with
  |cons h t=>exact .cons (mL h) (qS t)
abbrev KT(H:Hp):List (List cO×V)->List (List cO×Addr×Value)->Prop:=Paired λp q=>p.1=q.1/\H q.2.1=some (.tup (p.1.map kV))/\bx p.2 q.2.2
theorem KT.val(r:KT H kvs xs)(k:List cO):iF (cJ kvs k) ((atKey xs k).map (·.2)):=by
 induction r with
 |nil=>exact True.intro
 | @cons p q ps qs h t ih=>
  obtain⟨h1,_,h2⟩:=h
  by_cases e:p.1=k
  ·have a:q.1=k:=h1.symm.trans e
   have b:atKey (q::qs) k=some q.2:=by simp[atKey,List.find?_cons,a]
   rw[cz e,b];exact h2
  ·have a:¬ q.1=k:=λz=>e (h1.trans z)
   have b:atKey (q::qs) k=atKey qs k:=by simp[atKey,List.find?_cons,a]
   rw[cE e,b];exact ih
theorem KT.repl(r:KT H kvs xs)(k:List cO){y:V}{u:Value}(ry:bx y u) :
  KT H (kvs.map λkv=>if kv.1=k then(kv.1,y) else kv) (xs.map (putAt k u)):=by
 induction r with
 |nil=>exact .nil
 | @cons p q ps qs h t ih=>
  rw[L8,L8];refine .cons ?_ ih;obtain⟨h1,h2,a⟩:=h;unfold putAt
  by_cases e:p.1=k
  ·rw[q07 e,q07 (h1.symm.trans e)];exact⟨h1,h2,ry⟩
  ·rw[q06 e,q06 (λz=>e (h1.trans z))];exact⟨h1,h2,a⟩
theorem KT.put(r:KT H kvs xs)(k:List cO){b:Addr}{y:V}{u:Value}(hb:H b=some (.tup (k.map kV)))(ry:bx y u) :
  KT H (dl kvs k y) (storedH xs k b u):=by
 have e:(kvs.any λa=>decide (a.1=k))=(atKey xs k).isSome:=by
  rw[eG,(r.val k).isSome_eq,Option.isSome_map]
 unfold dl storedH;rw[e]
 by_cases q:(atKey xs k).isSome=true
 ·rw[q07 q,q07 q];exact r.repl k ry
 ·rw[q06 q,q06 q];exact Paired.snoc r ⟨rfl,hb,ry⟩
theorem KT.keeps{H':Hp}(r:KT H kvs xs)(ht:∀b ys,H b=some (.tup ys)->H' b=some (.tup ys)):KT H' kvs xs:=
 Paired.mapP r λ_ _ z=>⟨z.1,ht _ _ z.2.1,z.2.2⟩
section
variable {P:ME}{w:MJ}{H:Hp}{h:Heap}{a:Addr}
theorem Fh(ok:jD P w H h)(e:Rd H a u):b6 P w H h a u:=e.ok ok
theorem mF(ok:jD P w H h)(e:Rd H a (.dK kvs)):kvs.length<=sizeLine/\(a==sysModules)=false/\∃vs,KV kvs vs/\h.DictOf (bX P w) a vs:=
 show b6 P w H h a (.dK kvs) from Fh ok e
theorem qQ(ok:jD P w H h)(e:H a=some (.dK kvs)):kvs.length<=sizeLine/\(a==sysModules)=false/\∃vs,KV kvs vs/\h.DictOf (bX P w) a vs:=mF ok (.inl e)
theorem mq{ks:List cO}(ok:jD P w H h)(e:H a=some (.tup (ks.map kV))):(tupleKind (bX P w)).is h ks a:=by
 obtain⟨_,b,r,o,h1,h2,n,c⟩:=(show b6 P w H h a (.tup (ks.map kV)) from ok a _ e);exact⟨o,b.toArray,n,h1,h2,c,by simpa using qS r⟩
theorem pC(ok:jD P w H h)(e:Rd H a (.dT kvs)):kvs.length<=sizeLine/\(a==sysModules)=false /\
  ∃xs,KT H kvs xs/\h.DictOfH (tupleKind (bX P w)) a xs:=by
 obtain⟨z,y,xs,r,o,g,i,h1,h2,d,c,b⟩:=(show b6 P w H h a (.dT kvs) from Fh ok e);refine⟨z,y,xs,r,o,g,i,h1,h2,d,c,λx hx=>?_,b⟩;have all:∀{l:List (List cO×V)} {m:List (List cO×Addr×Value)},KT H l m->∀x∈m,(tupleKind (bX P w)).is h x.1 x.2.1:=by
  intro l m q
  induction q with
  |nil=>intro x hx;exact nomatch hx
  | @cons p q ps qs hq t ih=>
   intro x hx;rcases LR.mp hx with e | hx
   ·subst e
    exact mq ok (by rw[<- hq.1];exact hq.2.1)
   ·exact ih x hx
 exact all r x hx
theorem GU(ok:jD P w H h)(e:H a=some (.dT kvs)):kvs.length<=sizeLine/\(a==sysModules)=false /\
  ∃xs,KT H kvs xs/\h.DictOfH (tupleKind (bX P w)) a xs:=pC ok (.inl e)
end
def kJ(H:Hp)(a:Addr)(y:V)(r:Option V):Prop:=
 (∃kvs k,Rd H a (.dK kvs)/\y=kV k/\r=cJ kvs k)\/∃kvs k b,Rd H a (.dT kvs)/\y=.ref b/\H b=some (.tup (k.map kV))/\r=cJ kvs k
def tY(H:Hp)(a:Addr)(y v:V)(H':Hp):Prop:=
 (∃kvs k,H a=some (.dK kvs)/\y=kV k/\kvs.length<sizeLine/\H'=aD H a (.dK (dl kvs k v))) \/
 ∃kvs k b,H a=some (.dT kvs)/\y=.ref b/\H b=some (.tup (k.map kV))/\kvs.length<sizeLine/\H'=aD H a (.dT (dl kvs k v))
theorem kJ.t{H:Hp}{k:List cO}(e:H a=some (.dT kvs))(eb:H b=some (.tup (k.map kV))):kJ H a (.ref b) (cJ kvs k):=.inr ⟨kvs,k,b,.inl e,rfl,eb,rfl⟩
theorem tY.k{H:Hp}{k:cO}{v:V}(e:H a=some (.dK kvs))(hl:kvs.length<sizeLine):tY H a (kV k) v (aD H a (.dK (dl kvs k v))):=.inl ⟨kvs,k,e,rfl,hl,rfl⟩
theorem tY.t{H:Hp}{k:List cO}{v:V}(e:H a=some (.dT kvs))(eb:H b=some (.tup (k.map kV)))(hl:kvs.length<sizeLine) :
  tY H a (.ref b) v (aD H a (.dT (dl kvs k v))):=.inr ⟨kvs,k,b,e,rfl,eb,hl,rfl⟩
section
variable {X:Cx}{pins:Mw}{σ:St}{H:Hp}{s:My}{a:Addr}{y v:V}{u r:Value}{o:Option V}{A:MG}{E:Mu}
theorem Inv.big(I:Inv X pins σ H s):sysModules<s.heap.objs.size:=by
 have h:mainGlobals<s.heap.objs.size:=(I.mod.glob.keeps I.bk).lt;exact Nat.lt_trans nofun h
theorem Ah{Q:Mu}(hu:A.units+1<cLine)(I:Inv X pins σ H s)(g:kJ H a y (some v))(ry:bx y u)(h:∀w' s',Inv X pins σ H s'->bx v w'->Q w' s') :
  wpAny (model X.prog X.w) A (getItem (.ref a) u) Q E s:=by
 rcases g with⟨i,k,e,n,l⟩ | ⟨i,k,b,e,n,B,l⟩
 ·subst n
  obtain⟨z,x,vs,d,q⟩:=mF I.hok e;obtain⟨w',j,c⟩:=iF.some_of (v:=v) (o:=valueAt vs k) (by rw[l];exact d.val k);exact wpAny_getItem_of (mL ry) q.mapOf j (h w' _ (I.tok _) c)
 ·subst n
  cases(show u=Value.ref b from ry);obtain⟨z,x,r,d,q⟩:=pC I.hok e;obtain⟨w',j,c⟩:=iF.some_of (v:=v) (o:=(atKey r k).map (·.2)) (by rw[l];exact d.val k);obtain⟨p,w,m⟩:=L6.mp j;refine wpAny_getItem_heap (tupleKind_room_in1 hu) (mq I.hok B) q w ?_;rw[m];exact h w' _ (I.tok _) c
theorem IF{Q:Mu}(hu:A.units+1<cLine)(I:Inv X pins σ H s)(g:kJ H a y o)(ry:bx y u)(h:∀s',Inv X pins σ H s'->Q (.bool o.isSome) s') :
  wpAny (model X.prog X.w) A (compareOp .In u (.ref a)) Q E s:=by
 rcases g with⟨d,k,e,j,l⟩ | ⟨d,k,b,e,j,n,l⟩
 ·subst j
  obtain⟨z,i,vs,c,m⟩:=mF I.hok e;refine wpAny_in_of (mL ry) i m.mapOf ?_;rw[<- (c.val k).isSome_eq,<- l];exact h _ (I.tok _)
 ·subst j
  cases(show u=Value.ref b from ry);obtain⟨z,i,xs,c,m⟩:=pC I.hok e;refine wpAny_in_heap (tupleKind_room_in1 hu) (mq I.hok n) i m ?_;have q:=(c.val k).isSome_eq;rw[Option.isSome_map]at q;rw[<- q,<- l];exact h _ (I.tok _)
theorem DP{Q:Mu}(hu:A.units+1<cLine)(I:Inv X pins σ H s)(g:kJ H a y o)(ry:bx y u)(h:∀s',Inv X pins σ H s'->Q (.bool (!o.isSome)) s') :
  wpAny (model X.prog X.w) A (compareOp .NotIn u (.ref a)) Q E s:=by
 rcases g with⟨d,k,e,j,l⟩ | ⟨d,k,b,e,j,n,l⟩
 ·subst j
  obtain⟨z,i,vs,c,m⟩:=mF I.hok e;refine wpAny_notIn_of (mL ry) i m.mapOf ?_;rw[<- (c.val k).isSome_eq,<- l];exact h _ (I.tok _)
 ·subst j
  cases(show u=Value.ref b from ry);obtain⟨z,i,xs,c,m⟩:=pC I.hok e;refine wpAny_notIn_heap (tupleKind_room_in1 hu) (mq I.hok n) i m ?_;have q:=(c.val k).isSome_eq;rw[Option.isSome_map]at q;rw[<- q,<- l];exact h _ (I.tok _)
theorem nJ{t':Nat}{ob:HO}(I:Inv X pins σ H s)(mu:Hm (H a))(hs:Heap.SameBut a s.heap h')(he:∃q,h'.get? a=some q)(new:b6 X.prog X.w (aD H a ob) h' a ob) :
  Inv X pins σ (aD H a ob) {s with heap:=h',toks:=t' }:=
 I.write (x:=a) (e:=a) mu (.inl rfl) (λb q hb z=>(hs.2 b hb).trans z) he new
theorem wL{h':Heap}{kvs:List (cO×V)}(z:kvs.length<=sizeLine)(hd:(a==sysModules)=false)(rel:KV kvs vs)(dd:h'.DictOf (bX P w) a vs) :
  b6 P w H' h' a (.dK kvs):=⟨z,hd,vs,rel,dd⟩
theorem Ax{Q:Unit->Shared->Prop}(hu:A.units+1<cLine)(I:Inv X pins σ H s)(g:tY H a y v H')(ry:bx y u)(rv:bx v r)(h:∀s',Inv X pins σ H' s'->Q () s') :
  wpAny (model X.prog X.w) A (setItem (.ref a) u r) Q E s:=by
 rcases g with⟨i,k,e,x,l,B⟩ | ⟨i,k,b,e,x,J,l,B⟩
 ·subst x B
  obtain⟨z,w,vs,d,C⟩:=qQ I.hok e;have n:vs.length<=sizeLine:=by rw[<- d.length];exact z
  have p:(dl i k v).length<=sizeLine:=by have:=eO i k v;omega
  refine wpAny_setItem_pairs (hsz:=n) (mL ry) C λD j o=>h _ ?_;have M:∃q,D.get? a=some q:=let ⟨q,_,_,m,_⟩:=j;⟨q,m⟩
  exact nJ I (by rw[e];exact True.intro) o M (wL p w (d.put k rv) j)
 ·subst x B
  cases(show u=Value.ref b from ry);obtain⟨z,w,L,d,C⟩:=GU I.hok e;have n:L.length<=sizeLine:=by rw[<- Paired.length d];exact z
  have p:(dl i k v).length<=sizeLine:=by have:=eO i k v;omega
  refine wpAny_setItem_heap (hsz:=n) (tupleKind_room_in1 hu) (mq I.hok J) C λD j o=>h _ ?_;obtain⟨q,T,U,m,h2,S,R,_,O⟩:=j;refine nJ I (by rw[e];exact True.intro) o ⟨q,m⟩ ⟨p,w,_,(d.put k J rv).keeps λc ys G=>?_,q,T,U,m,h2,S,R,O⟩;rw[ar (rf G e (λz=>nomatch z))];exact G
end
section
variable {X:Cx}{pins:Mw}{σ:St}{H:Hp}{s:My}{a:Addr}{kvs:List (cO×V)}{k:cO}{u:Value}{A:MG}{E:Mu}
theorem Hr{Q:Mu}(I:Inv X pins σ H s)(e:Rd H a (.dK kvs))(h:∀t s',Inv X pins σ H s'->Q (.int kvs.length t) s'):wpAny (model X.prog X.w) A (call (.builtin "len") [.ref a]) Q E s:=by
 obtain⟨z,c,vs,b,d⟩:=mF I.hok e;refine call_len_dict c d (by rw[<- b.length];rw[q0V]at z;omega) ?_;rw[<- b.length];exact h _ _ (I.tok _)
end
def G0(i:Expr):Prop:=∀ov iv,subscripted i false ov iv=operate [ov,iv] (getItem ov iv)
theorem DX{prog:ME}{A:MG}{env:Env}{value slice:Expr}{pos:Pos}{id:String}{Q:Mu}
  (hl:typeLookup (.type T) "__getitem__"=pure (some (.builtin id))) (hs:G0 slice)
  (h:wpAny (model prog w) A (eval value env) (λo s₁=>wpAny (model prog w) A (eval slice env) (λi s₂=>s₂.TypeIs o T/\wpAny (model prog w) A (getItem o i) Q E s₂) E s₁) E s) :
  wpAny (model prog w) A (eval (.Subscript value slice pos) env) Q E s:=by
 refine Subscript_ (q0W h (λo s₁ e=>q0W e (λi s₂ a=>?_) λ_ _ x=>x) λ_ _ x=>x);obtain⟨c,a⟩:=a;unfold subscriptTail;refine q04 ?_;rw[getitemInPython_of_ne c.not_modules];refine q04 (wpAny_specialOf c hl ?_);have dL:wpAny (model prog w) A (subscripted slice false o i) (λr b=>wpAny (model prog w) A (letTemporaryGo value o r >>= λ_=>pure r) Q E b) E s₂:=by
  rw[hs o i];exact wpAny_operating (q0W a (λr b d=>q04 (wpAny_letTemporaryGo (q05 d))) λ_ _ x=>x)
 first
  |exact q05 (q04 dL)
  |exact q04 (q05 (q04 dL))
  |exact q04 dL
theorem uP{pins:Mw}{σ:St}(I:Inv X pins σ H s)(g:kJ H a y o):s.TypeIs (.ref a) "dict":=by
 rcases g with⟨c,k,e,_,_⟩ | ⟨c,k,b,e,_,_,_⟩
 ·obtain⟨_,_,vs,_,d⟩:=mF I.hok e
  exact d.typeIs
 ·obtain⟨_,_,xs,_,d⟩:=pC I.hok e
  exact d.typeIs
def C8(td ty:TE):TE:=λσ H Q=>td σ H λx H1=>ty σ H1 λy H2=>∃a v,x=.ref a/\kJ H2 a y (some v)/\Q v H2
def FU(ty td:TE):TE:=λσ H Q=>ty σ H λy H1=>td σ H1 λx H2=>∃a o,x=.ref a/\kJ H2 a y o/\Q (.bl o.isSome) H2
def tj(ty td:TE):TE:=λσ H Q=>ty σ H λy H1=>td σ H1 λx H2=>∃a o,x=.ref a/\kJ H2 a y o/\Q (.bl (!o.isSome)) H2
def C9(td ty tv:TE):TS:=λD σ H=>tv σ H λv H1=>td σ H1 λx H2=>ty σ H2 λy H3=>∃a H4,x=.ref a/\tY H3 a y v H4/\D.nx σ H4
section
variable {X:Cx}{o i e value:Expr}{pos pos' tpos:Pos}{td ty tv:TE}
theorem lh(hu:X.A.units+1<cLine)(ho:PE X o td)(hi:PE X i ty)(hs:G0 i):PE X (.Subscript o i pos) (C8 td ty):=by
 intro b s σ H Q I h;refine DX PySem.F.slot_dict_getitem.lookup hs (bY (ho b s σ H _ I h) λu e ⟨x,H1,r,l,n⟩=>bY (hi b e σ H1 _ r n) λiv s2 ⟨y,H2,d,j,a,v,p,g,m⟩=>?_);subst p;obtain rfl:u=Value.ref a:=l;exact⟨uP d g,Ah hu d g j λw' s3 q c=>⟨v,H2,q,c,m⟩⟩
theorem xq(hu:X.A.units+1<cLine)(hi:PE X i ty)(ho:PE X o td):PC X .In i o (FU ty td):=by
 intro b s σ H Q I h;refine bY (hi b s σ H _ I h) λiv c ⟨y,H1,r,d,l⟩=>bY (ho b c σ H1 _ r l) λu s2 ⟨x,H2,q,e,a,m,n,g,j⟩=>?_;subst n;obtain rfl:u=Value.ref a:=e;exact IF hu q g d λs3 p=>⟨.bl m.isSome,H2,p,rfl,j⟩
theorem lQ(hu:X.A.units+1<cLine)(hi:PE X i ty)(ho:PE X o td):PC X .NotIn i o (tj ty td):=by
 intro b s σ H Q I h;refine bY (hi b s σ H _ I h) λiv c ⟨y,H1,r,d,l⟩=>bY (ho b c σ H1 _ r l) λu s2 ⟨x,H2,q,e,a,m,n,g,j⟩=>?_;subst n;obtain rfl:u=Value.ref a:=e;exact DP hu q g d λs3 p=>⟨.bl (!m.isSome),H2,p,rfl,j⟩
theorem nO(hu:X.A.units+1<cLine)(ho:PE X o td)(hi:PE X i ty)(hv:PE X value tv)(hs:swapsWith value (some (.Subscript o i pos')) pos.line X.env=pure false) :
  PS X (.Assign [.Subscript o i pos'] value pos) (C9 td ty tv):=by
 intro b s σ H D I h;refine wpAny_Assign_Subscript (bY (hv b s σ H _ I h) λr d ⟨v,H1,C,l,p⟩=>bY (ho b d σ H1 _ C p) λu c ⟨x,H2,B,j,n⟩=>bY (hi b c σ H2 _ B n) λiv s3 ⟨y,H3,z,e,a,G,q,g,m⟩=>?_) hs;subst q;obtain rfl:u=Value.ref a:=j;exact Ax hu z g e l λs4 w=>⟨σ,G,w,m⟩
end
theorem wx(h:Heap)(hb:sysModules<h.objs.size):b6 P w H (h.push {cls:=.type "dict",data:=.dict #[]}) h.objs.size (.dK []):=
 ⟨L3 _,beq_eq_false_iff_ne.mpr (Ne.symm (LW hb)),[],.nil,Heap.DictOf.new h⟩
theorem BN(h:Heap)(hb:sysModules<h.objs.size):b6 P w H (h.push {cls:=.type "dict",data:=.dict #[]}) h.objs.size (.dT []):=
 ⟨L3 _,beq_eq_false_iff_ne.mpr (Ne.symm (LW hb)),[],.nil,_,#[],0,LI _ rfl,⟨rfl,rfl,rfl⟩,rfl,rfl,List.nodup_nil⟩
def yv:TE:=λ_ H Q=>∀p,H p=none->Q (.ref p) (aD H p (.dK []))
def yw:TE:=λ_ H Q=>∀p,H p=none->Q (.ref p) (aD H p (.dT []))
section
variable {X:Cx}{pos:Pos}
theorem lx:PE X (.Dict [] [] pos) yv:=λpins s σ H Q I h=>
 wpAny_Dict_empty ⟨.ref s.heap.objs.size,_,I.laid (a:=s.heap.objs.size) (o:=.dK []) (t':=s.toks) (λ_ _ q=>LB _ q) (L1 _) (wx s.heap I.big),rfl,h _ (I.hok.fresh (L1 _))⟩
theorem wy:PE X (.Dict [] [] pos) yw:=λpins s σ H Q I h=>
 wpAny_Dict_empty ⟨.ref s.heap.objs.size,_,I.laid (a:=s.heap.objs.size) (o:=.dT []) (t':=s.toks) (λ_ _ q=>LB _ q) (L1 _) (BN s.heap I.big),rfl,h _ (I.hok.fresh (L1 _))⟩
end
def pK:List (TE×TE)->St->Hp->(List (V×V)->Hp->Prop)->Prop
 | [],_,H,Q=>Q [] H
 | (tk,tv)::r,σ,H,Q=>tk σ H λx H1=>tv σ H1 λy H2=>pK r σ H2 λps H3=>Q ((x,y)::ps) H3
abbrev VV:List (V×V)->List (Value×Value)->Prop:=Paired λp q=>bx p.1 q.1/\bx p.2 q.2
def HJ(X:Cx)(pos:Pos)(keys:List (Option Expr))(values:MM)(trs:List (TE×TE)):Prop:=
 ∀(pins:Mw) (s:My) (σ:St) (H:Hp) (Q:List (V×V)->Hp->Prop),Inv X pins σ H s->pK trs σ H Q ->
  wpAny (model X.prog X.w) X.A (evalPairs (pairTrees keys values X.env pos)) (λvs s'=>∃ps H',Inv X pins σ H' s'/\VV ps vs/\Q ps H') X.xe s
theorem DU{pos:Pos}:HJ X pos [] [] []:=λpins s σ H Q I h=>pairTrees_nil_walk ⟨[],H,I,.nil,h⟩
theorem Dd{pos:Pos}{k v:Expr}{ks:List (Option Expr)}{tk tv:TE}{trs:List (TE×TE)}(hk:PE X k tk)(hv:PE X v tv)(hr:HJ X pos ks vs trs) :
  HJ X pos (some k::ks) (v::vs) ((tk,tv)::trs):=λpins s σ H Q I h=>
 pairTrees_cons_walk (bY (hk pins s σ H _ I h) λu s1 ⟨x,H1,I1,rx,q1⟩=>bY (hv pins s1 σ H1 _ I1 q1) λw2 s2 ⟨y,H2,I2,ry,q2⟩=>
  bY (hr pins s2 σ H2 _ I2 q2) λws s3 ⟨ps,H3,I3,rel,q3⟩=>⟨(x,y)::ps,H3,I3,.cons ⟨rx,ry⟩ rel,q3⟩)
def on(kvs more:List (cO×V)):List (cO×V):=more.foldl (λacc kv=>dl acc kv.1 kv.2) kvs
theorem KV.merge:∀{more:List (cO×V)} {rs:List (cO×Value)} {kvs:List (cO×V)} {vs:List (cO×Value)},KV more rs->KV kvs vs->KV (on kvs more) (merged vs rs):=by
 intro more rs kvs vs r;unfold KV at r
 induction r generalizing kvs vs with
 |nil=>intro q;exact q
 | @cons p q ps qs h t ih=>
  intro a;have e:KV (dl kvs p.1 p.2) (stored vs q.1 q.2):=by
   have:=a.put p.1 h.2;rw[<- h.1];exact this
  exact ih e
theorem jF:∀(more kvs:List (cO×V)),(on kvs more).length<=kvs.length+more.length
 | [],kvs=>by show kvs.length<=kvs.length+0;omega
 |p::r,kvs=>by
  have h1:=jF r (dl kvs p.1 p.2);have h2:=eO kvs p.1 p.2;show(on (dl kvs p.1 p.2) r).length<=_;rw[LN];omega
theorem pH:∀{kvs:List (cO×V)} {ws:List (Value×Value)},VV (kvs.map λkv=>(kV kv.1,kv.2)) ws->∃rs,Carries (bX P w) ws rs/\KV kvs rs
 | [],_,r=>by rw[List.map_nil]at r;cases r;exact⟨[],True.intro,.nil⟩
 |p::kvs,_,r=>by
  rw[L8]at r;cases r with
  | @cons a b as bs h t=>
   obtain⟨rs,c,q⟩:=pH (P:=P) (w:=w) t;obtain⟨b1,b2⟩:=b;exact⟨(p.1,b2)::rs,⟨mL h.1,rfl,c⟩,.cons ⟨rfl,h.2⟩ q⟩
def BL(trs:List (TE×TE)):TE:=λσ H Q=>∀p,H p=none->pK trs σ (aD H p (.dK [])) λps H2=>H2 p=some (.dK [])/\∃kvs:List (cO×V),ps=kvs.map (λkv=>(kV kv.1,kv.2))/\kvs.length<=15/\Q (.ref p) (aD H2 p (.dK (on [] kvs)))
theorem Eb{pos:Pos}{keys:List (Option Expr)}{values:MM}{trs:List (TE×TE)}(h:HJ X pos keys values trs)(hall:keys.all (·.isSome)=true)(hl:keys.length=values.length)(h0:keys≠[])
  (h15:keys.length<=15):PE X (.Dict keys values pos) (BL trs):=by
 intro b s σ H Q I q;have u:=I.hok.fresh (L1 s.heap.objs.size);have C:=I.laid (a:=s.heap.objs.size) (o:=.dK []) (h':=s.heap.push {cls:=.type "dict",data:=.dict #[]}) (t':=s.toks) (λ_ _ q=>LB _ q) (L1 _) (wx s.heap I.big);refine wpAny_Dict_walk (knd:=bX X.prog X.w) hall hl h0 h15 (bY (h b _ σ _ _ C (q _ u)) λws s2 ⟨ps,H2,j,i,e,d,y,lk,n⟩=>?_);subst y;obtain⟨l,c,rk⟩:=pH (P:=X.prog) (w:=X.w) i;obtain⟨z,x,vs0,m,B⟩:=qQ j.hok e;cases m;refine⟨l,c,B,λh' g r=>⟨.ref s.heap.objs.size,_,?_,rfl,n⟩⟩;have p:(on [] d).length<=sizeLine:=by
  have h1:=jF d [];rw[List.length_nil]at h1;rw[q0V];omega
 have v:∃q,h'.get? s.heap.objs.size=some q:=let ⟨q,_,_,hq,_⟩:=g;⟨q,hq⟩
 exact nJ j (by rw[e];exact True.intro) r v (wL p x (rk.merge .nil) g)
structure M1(X:Cx)(o:Expr)(m:Str)(apos:Pos)(e:Expr)(cpos:Pos):Prop where
 base:attributeBase o m X.env (eval o X.env)=eval o X.env
 few:((backTo cpos (starEach [e] X.env)).all (λx=>!x.1)&&(backToKw cpos (keywordEach [] X.env)).all (λx=>x.1.isSome)
  && decide (([e]:List Expr).length+([]:List Keyword).length+(if([]:List Keyword).isEmpty then 0 else 1)<30))=true
 line:(apos.endLine==cpos.line)=true
 trees:backTo cpos (starEach [e] X.env)=[(false,eval e X.env)]
structure M2(X:Cx)(o:Expr)(m:Str)(apos:Pos)(e f:Expr)(cpos:Pos):Prop where
 base:attributeBase o m X.env (eval o X.env)=eval o X.env
 few:((backTo cpos (starEach [e,f] X.env)).all (λx=>!x.1)&&(backToKw cpos (keywordEach [] X.env)).all (λx=>x.1.isSome)
  && decide (([e,f]:List Expr).length+([]:List Keyword).length+(if([]:List Keyword).isEmpty then 0 else 1)<30))=true
 line:(apos.endLine==cpos.line)=true
 trees:backTo cpos (starEach [e,f] X.env)=[(false,eval e X.env),(false,eval f X.env)]
def HM(H:Hp)(a:Addr):Prop:=(∃kvs,Rd H a (.dK kvs))\/∃kvs,Rd H a (.dT kvs)
theorem xa{pins:Mw}{σ:St}(I:Inv X pins σ H s)(d:HM H a) :
  s.TypeIs (.ref a) "dict"/\(∀b,Value.ref a=.ref b->∃ob,s.heap.get? b=some ob/\ob.dict=none)/\(a==sysModules)=false:=by
 rcases d with⟨g,e⟩ | ⟨g,e⟩
 ·obtain⟨_,i,vs,_,c⟩:=mF I.hok e
  refine⟨c.typeIs,λb q=>?_,i⟩;cases q;obtain⟨ob,_,_,h1,h2,_⟩:=c;exact⟨ob,h1,h2.2.1⟩
 ·obtain⟨_,i,xs,_,c⟩:=pC I.hok e
  refine⟨c.typeIs,λb q=>?_,i⟩;cases q;obtain⟨ob,_,_,h1,h2,_⟩:=c;exact⟨ob,h1,h2.2.1⟩
section
variable {X:Cx}{pins:Mw}{σ:St}{H:Hp}{s:My}{a:Addr}{y d:V}{u r:Value}{o:Option V}{A:MG}{E:Mu}
theorem FY{Q:Mu}(hu:A.units+1<cLine)(I:Inv X pins σ H s)(g:kJ H a y o)(ry:bx y u)(h:∀w' s',Inv X pins σ H s'->bx (o.getD .non) w'->Q w' s') :
  wpAny (model X.prog X.w) A (call (.builtin "dict.get") [.ref a,u]) Q E s:=by
 rcases g with⟨i,k,e,m,l⟩ | ⟨i,k,b,e,m,p,l⟩
 ·subst m
  obtain⟨z,j,vs,c,d⟩:=mF I.hok e;refine call_meetsIn PySem.F.slot_dict_get d.typeIs PySem.F.entry_dict_get (PySem.F.args_dict_get_2 _ _) (meets_dict_get (bX X.prog X.w) a (mL ry) j) ⟨_,d.mapOf,h _ _ (I.tok _) ?_⟩;rw[l];exact(c.val k).getD rfl
 ·subst m
  cases(show u=Value.ref b from ry);obtain⟨z,j,n,c,d⟩:=pC I.hok e;refine call_meetsIn PySem.F.slot_dict_get d.typeIs PySem.F.entry_dict_get (PySem.F.args_dict_get_2 _ _) (meetsH_dict_get (tupleKind (bX X.prog X.w)) a b j) ⟨tupleKind_room_in1 hu,k,n,mq I.hok p,d,h _ _ (I.tok _) ?_⟩;rw[l];exact(c.val k).getD rfl
end
def yu(td ty:TE):TE:=λσ H Q=>td σ H λx H1=>∃a,x=.ref a/\HM H1 a/\ty σ H1 λy H2=>∃o,kJ H2 a y o/\Q (o.getD .non) H2
section
variable {X:Cx}{o e f:Expr}{apos cpos:Pos}{td ty tx:TE}
theorem vh(hu:X.A.units+1<cLine)(ho:PE X o td)(he:PE X e ty)(m:M1 X o "get" apos e cpos):PE X (.Call (.Attribute o "get" apos) [e] [] cpos) (yu td ty):=by
 intro b s σ H Q I h;refine wpAny_Call_method m.base m.few m.line PySem.F.plainAttrs_dict PySem.F.slot_dict_get PySem.F.type_dict_get (bY (ho b s σ H _ I h) λu n ⟨x,H1,i,q,a,w,d,v⟩=>?_);subst w;obtain rfl:u=Value.ref a:=q;obtain⟨l,j,_⟩:=xa i d;refine⟨l,j,?_⟩;rw[m.trees];refine Calls.callWith_builtin rfl (Calls.evalArgs_plain (Calls.spliced_cons (bY (he b n σ H1 _ i v) λiv s2 ⟨y,H2,B,p,ov,g,r⟩=>Calls.spliced_nil ?_)));exact FY hu B g p λw' s3 z c=>⟨_,H2,z,c,r⟩
end
end L2
namespace Att
open PySem PySem.W PySem.Calls PyProof.Rows
theorem nu:∀(ns:List Int) (vs:Mz),WellAll P h vs (ns.map WData.int)->IntsAre vs ns:=by
 intro ns
 induction ns with
 |nil=>
  intro vs w;rw[List.map_nil]at w;cases w;exact .nil
 |cons n ns ih=>
  intro vs w;rw[L8]at w;cases w with
  |cons a b=>
   cases a;exact .cons _ _ (ih _ b)
theorem AB{l:OpenLaw}{n:Nat}(hn:l.most=some n){P:Params}{h:Heap}{args:List WData}{vals:Mz}
  (hpre:l.row.toRowW.claim.pre args=true) (hwl:WellAll P h vals args) :
  ∃a vs ns,vals=[Value.ref a]/\args=[WData.list (ns.map WData.int)]/\h.get? a=some {cls:=.type "list",data:=.seq vs.toArray}/\IntsAre vs ns/\ns.length<=n:=by
 have g:WShape.hasAll [] args [.list .int]=true:=(pre_splitW hpre).1;have i:l.pre.holds [] {args:=args}=true:=(pre_splitW hpre).2;obtain⟨d,r,rfl,h1,h2⟩:=hasAllW_cons g;obtain rfl:=hasAllW_nil h2;obtain⟨xs,rfl,m⟩:=hasW_list h1;obtain⟨ns,rfl⟩:=items_int m;have b:ns.length<=n:=by
  unfold OpenLaw.pre at i;have e:(WTm.not (.lt (.lit (.int (n:Int))) (.len (.arg 0)))).holds [] {args:=[.list (ns.map .int)]}=true:=by
   have e:=(holds_andW i).1;rw[hn]at e;exact e
  have c:=condW_of e (w_not (w_lt w_lit (w_len_list (w_arg rfl))));rw[LC]at c;refine Nat.le_of_not_lt λq=>?_;have j:(n:Int)<((ns.length:Nat):Int):=by omega
  first
   | (rw[q09 j]at c;exact q0Q c nofun)
   | (simp at c;omega)
 cases hwl with
 |cons w1 w2=>
  cases w2;cases w1 with
  |list ho hall=>exact⟨_,_,ns,rfl,rfl,ho,nu ns _ hall,b⟩
theorem Al(l:OpenLaw)(args:List WData):l.row.toRowW.claim.post args (.bool true) args=true:=
 postW_of (r:=l.row.toRowW) (X:=(true==true))
  (show WShape.has [] (.bool true) .bool=true by first | rfl | decide | simp[WShape.has,WShape.arms,WShape.armsAll])
  (show(WTm.eq .res (.lit (.bool true))).value [] {args:=args,res:=some (.bool true),after:=args}=some (.bool (true==true)) from w_eq_bool (w_res rfl) w_lit) rfl
theorem attach_call{l:OpenLaw}{n:Nat}{loose:MF}{XP:(Str->Option Value)->Heap->Prop}{YP:World->Heap->Prop}{d:DefRec}
  (hn:l.most=some n) (hdf:d.params.defaults=[])
  (call:∀(w:MJ) (s₀ s₁:My) (mg mb:MB) (fa:Addr) (o:Obj) (pm cd doc:Value) (a:Addr) (vs:Mz) (ns:List Int),
   Ground q loose [] XP w s₀ mg mb s₁.heap->YP w s₁.heap ->
   s₁.heap.get? fa=some o->o.data=.func (docDef d.name d.params d.body d.scope pm cd doc)->s₁.heap.CodeRec cd d.name->mg d.name=some (.ref fa) ->
   s₁.heap.get? a=some {cls:=.type "list",data:=.seq vs.toArray}->IntsAre vs ns->ns.length<=n->s₁.gens=#[] ->
   codeAny (model l.prog w) callerA (.call (.ref fa) ⟨[.ref a],[]⟩) (λr s'=>r=.ok (.ret (.bool true))/\OldK s₁.heap s'.heap/\s'.os=s₁.os/\AllBare s'.gens) s₁) :
  WalkO q loose XP YP l.row.toRowW d [] (λf vs=>PySem.call f vs):=by
 intro w s₀ s₁ mg mb G Y fa o pm cd doc D kV v z m p j y args vals as c hlay hrd i hlo;obtain rfl:D=.none:=Dflts.none p hdf;obtain rfl:kV=.none:=Dflts.noKw p;obtain⟨a,vs,ns,rfl,rfl,e,b,g⟩:=AB hn c i;refine enter_call (codeAny_mono (call w s₀ s₁ mg mb fa o pm cd doc a vs ns G Y v (fd_plain z) m j e b g y) λr s' u=>?_);obtain⟨rfl,h2,C,B⟩:=u;exact⟨.inl ⟨.bool true,.bool true,[],rfl,λ_=>rfl,.bool true,Al l _,λ_=>⟨List.Pairwise.nil,λ_ x=>(nomatch x)⟩⟩,h2,C,B⟩
section
variable {prog:ME}{w:MJ}{A:MG}{E:Mu}{s:My}{K:Frag}
end
end Att
namespace L2
open PySem PySem.Spec PyProof.Rows
theorem sf:∀{vs:Mz} {ns:List Int},IntsAre vs ns->bc (ns.map V.int) vs
 |_,_,.nil=>.nil
 |_,_,.cons n t h=>.cons ⟨t,rfl⟩ (sf h)
def Fx(H:Hp):Prop:=∀b,H b=none\/∃o xs,H b=some (.frz o (.lst xs))
theorem Cj{K:Mv}{mg mb:MB}{CX:iR}{k:Nat}{fa a:Addr}{x:Str}{sp:Sp}{s₁:My}{vs:Mz}{ns:List Int}
  (KX:K.In s₁.heap) (hns:s₁.heap.Ns mainGlobals mg) (hb:s₁.heap.Ns builtinsNs mb) (hbb:∀x:Str,x≠"__name__"->mb x=bootBuiltins x) (hlim:s₁.heap.NoLimit) (hg:s₁.gens=#[])
  (ha:s₁.heap.get? a=some {cls:=.type "list",data:=.seq vs.toArray}) (hi:IntsAre vs ns) (hl:ns.length<=sizeLine) (hr:cT k callerA)
  (F:∀base:Heap,K.In base->base.Ns mainGlobals mg->aY P w K mg base CX k fa fd [x] sp) (hbind:∀(s:My) (u:Value),BindsTo s fd ⟨[u],[]⟩ [(x,u)])
  (hsp:∀H:Hp,Fx H->aI K H a (ns.map V.int)->sp [.ref a] H (λv _=>v=.bl true) λ_ _ _=>False)
  (hCX:∀H e s',CX [] H s₁ (λ_ _ _=>False) e s'->False) :
  codeAny (model P w) callerA (.call (.ref fa) ⟨[.ref a],[]⟩) (λr s'=>r=.ok (.ret (.bool true))/\OldK s₁.heap s'.heap/\s'.os=s₁.os/\AllBare s'.gens) s₁:=by
 have J:=sf hi;have l:=hi.length
 -- from an abstract heap in which nothing but the script may be tracked
 have i:∀H:Hp,Fx H->aI K H a (ns.map V.int)->jD P w H s₁.heap->(∀b,H b≠none->b=a)->(H a≠none->K.lookup a=none) ->
   codeAny (model P w) callerA (.call (.ref fa) ⟨[.ref a],[]⟩) (λr s'=>r=.ok (.ret (.bool true))/\OldK s₁.heap s'.heap/\s'.os=s₁.os/\AllBare s'.gens) s₁:=by
  intro H L Y y M hK;have c:∀{b:Addr} {o:Obj},s₁.heap.get? b=some o->H b=none->(ut s₁.heap H).get? b=some o:=λe n=>C4 e n;have D:∀{b:Addr} {o:Obj} {es:Array DictEntry} {ep:Nat},s₁.heap.get? b=some o->o.data=.dict es ep->H b=none:=fun{b o es ep} e d=>by
   cases q:H b with
   |none=>rfl
   |some u=>
    have I:b=a:=M b (by rw[q];simp);subst I;rw[ha]at e;cases e
    have d':Data.seq vs.toArray _=Data.dict es ep:=d;cases d'
  have g:∀{b:Addr} {m:MB},s₁.heap.Ns b m->(ut s₁.heap H).Ns b m:=fun{b m} ⟨o,es,ep,e,d,r⟩=>⟨o,es,ep,c e (D e d),d,r⟩;have B:K.In (ut s₁.heap H):=λb o e=>c (KX b o e) (by
   cases q:H b with
   |none=>rfl
   |some u=>
    have I:b=a:=M b (by rw[q];simp);subst I;rw[hK (by rw[q];simp)]at e;cases e)
  have Z:Mod K mg (ut s₁.heap H):=⟨B,g hns,⟨mb,g hb,hbb⟩,let ⟨mc,h1,h2⟩:=hlim;⟨mc,g h1,h2⟩⟩;have e0:oa P w K mg (ut s₁.heap H) callerA [] s₁ H:=⟨rfl,Z,λb o e=>EB e,Nat.le_of_eq (AD _ _),trivial,λb hb=>q0Q (show b∈([]:List Addr) from hb) (by simp),y,.of_eq hg⟩;refine codeAny_mono ((F _ B (g hns)).run callerA [] s₁ H ⟨[.ref a],[]⟩ [.ref a] [.ref a] _ _ hr e0 (hbind s₁ (.ref a)) (.cons rfl .nil) (hsp H L Y)) λr s' h=>?_;cases r with
  |error e=>exact(hCX H e s' h).elim
  |ok fl=>
   cases fl with
   |next=>exact False.elim h
   |brk=>exact False.elim h
   |cont=>exact False.elim h
   |ret u=>
    obtain⟨v,H',os,C,un,p,S,q⟩:=h;have T:v=.bl true:=q;subst T;obtain rfl:u=Value.bool true:=S;refine⟨rfl,OldK.of_keep λb o e=>?_,os,C⟩;cases q:H b with
    |none=>exact un.keep b o e q (by intro z;exact q0Q (show b∈([]:List Addr) from z) (by simp)) (by simp)
    |some u=>
     rcases L b with z | ⟨U,xs,z⟩
     ·rw[q]at z;cases z
     ·have R:=un.frzs b U _ z
      obtain⟨O,_⟩:=y b _ z;obtain⟨e2,_⟩:=p b _ R;rw[e]at O;cases O
      exact e2
 cases G:K.lookup a with
 |some o=>
  -- the script is one of the module's own objects
  have e:=KX a o G;rw[ha]at e;cases e;refine i (λ_=>none) (λ_=>.inl rfl) (.inr ⟨_,vs.toArray,_,G,rfl,rfl,rfl,by rw[LJ,l];exact hl,by simpa using J⟩) (λb u z=>by have j:(none:Option HO)=some u:=z;cases j) (λb z=>q0Q rfl z) λz=>q0Q rfl z
 |none=>
  refine i (λb=>if b=a then some (.frz {cls:=.type "list",data:=.seq vs.toArray} (.lst (ns.map V.int))) else none) (λb=>?_) (.inl (.inr ⟨{cls:=.type "list",data:=.seq vs.toArray},q07 rfl⟩)) (λb u z=>?_) (λb z=>?_) λ_=>G
  ·by_cases hb:b=a
   ·exact .inr ⟨_,_,q07 hb⟩
   ·exact .inl (q06 hb)
  ·by_cases hb:b=a
   ·have j:=(q07 hb).symm.trans z
    cases j;subst hb;exact⟨ha,by rw[LC];exact hl,vs,_,J,ha⟩
   ·have j:=(q06 hb).symm.trans z
    cases j
  ·by_cases hb:b=a
   ·exact hb
   ·exact q0Q (q06 hb) z
theorem walk_of{l:PySem.W.OpenLaw}{n k:Nat}{loose:MF}{XP:(Str->Option Value)->Heap->Prop}{YP:World->Heap->Prop}{d:DefRec}{K:Params->PySem.W.Frag}{CX:World->iR}{sp:World->Sp}{x:Str}
  (hn:l.most=some n) (hn2:n<=sizeLine) (hdf:d.params.defaults=[]) (hr:cT k callerA)
  (hY:∀(w:MJ) (h:Heap),YP w h->(K w.params).In h)
  (F:∀(w:MJ) (mg:MB) (fa:Addr) (h:Heap),(K w.params).In h->h.Ns mainGlobals mg->mg d.name=some (.ref fa) ->
   ∃fd:FuncData,(∀(s:My) (u:Value),BindsTo s fd ⟨[u],[]⟩ [(x,u)]) /\
    ∀base:Heap,(K w.params).In base->base.Ns mainGlobals mg->aY l.prog w (K w.params) mg base (CX w) k fa fd [x] (sp w))
  (hsp:∀(w:MJ) (H:Hp) (a:Addr) (ns:List Int),ns.length<=n->Fx H->aI (K w.params) H a (ns.map V.int)->sp w [.ref a] H (λv _=>v=.bl true) λ_ _ _=>False)
  (hCX:∀(w:MJ) (H:Hp) (s:My) (e:Value) (s':My),CX w [] H s (λ_ _ _=>False) e s'->False) :
  PySem.W.WalkO q loose XP YP l.row.toRowW d [] (λf vs=>PySem.call f vs):=by
 refine Att.attach_call hn hdf λw s₀ r mg mb fa o pm cd doc a vs ns G Y ho hd hcd m j i c y=>?_;have p:=hY w _ Y;obtain⟨fd,z,D⟩:=F w mg fa _ p G.T.g m;exact Cj p G.T.g G.T.b G.T.builtins G.T.nolimit y j i (L9 c hn2) hr D z (λH C B=>hsp w H a ns c C B) λH e s'=>hCX w H r e s'
def cX(s:Stmt):Arguments:=match s with
 | .FunctionDef _ a _ _ _ _ _ _ _ _=>a
 |_=>{posonlyargs:=[],args:=[],vararg:=none,kwonlyargs:=[],kw_defaults:=[],kwarg:=none,defaults:=[]}
def cB(s:Stmt):List Stmt:=match s with
 | .FunctionDef _ _ b _ _ _ _ _ _ _=>b
 |_=>[]
def ao(s:Stmt):Scope:=match s with
 | .FunctionDef _ _ _ _ _ _ sc _ _ _=>sc
 |_=>{kind:=.function,names:=[],isGenerator:=false,isCoroutine:=false}
abbrev bg:iR:=λ_ _ _ _ _ _=>False
abbrev E0:XK:=λ_ _ _=>False
theorem aL:c5 bg X E0:=λ_ _ _ _ _ _ _ h=>h.elim
structure cZ(K:Mv)(x qual:Str)(st:Stmt)(f:Addr)(fd:MD):Prop where
 ex:∃(oc:Value) (od:ML) (kV doc pm:Value) (an:ML) (cdv ct:Value) (osl:Array (Option Value)),
  fd=PySem.W.fnOf x qual (cX st) (cB st) (ao st) .none kV doc pm an cdv ct/\K.lookup f=some ⟨oc,od,.func fd,osl⟩/\PySem.W.codeIn K cdv qual=true
 kp:PySem.W.keepIn K (.ref f)=true
section
variable {P:ME}{w:MJ}{K:Mv}{mg:MB}{base:Heap}
theorem cZ.ok{qual:Str}{st:Stmt}{f:Addr}{ps:MF}{k:Nat}{sp:Sp}(F:cZ K x qual st f fd)(S:aC N ps (ao st))(len:∀vs H Q E,sp vs H Q E->vs.length=ps.length)
  (hbody:∀(cdv:Value) (A:MG) (outer:List Env) (s:My) (H:Hp) (vs:List V) (Q:VK) (E:XK),cT k (A.deeper (envOfC qual (ao st) s.heap.objs.size f cdv))->sp vs H Q E ->
   ∃t,uE (iB bg P w K mg base N qual (ao st) f cdv A outer s H E).nox (cB st) t/\t {nx:=λ_ H'=>Q .non H',rt:=Q} (start N vs) H):↑aY (k+1) f fd ps sp:=by
 obtain⟨oc,od,kV,doc,pm,an,cdv,ct,osl,rfl,c,b⟩:=F.ex;refine BQ c b S len λA outer s H vs Q E hr a=>?_;obtain⟨t,h,q⟩:=hbody cdv A outer s H vs Q E hr a;exact⟨t,h.nox,q⟩
theorem cZ.binds{qual:Str}{st:Stmt}{f:Addr}{ps:MF}(F:cZ K x qual st f fd)
  (h:∀(kV doc pm:Value) (an:ML) (cdv ct:Value) (us:Mz),us.length=ps.length->bindArgs (PySem.W.fnOf x qual (cX st) (cB st) (ao st) .none kV doc pm an cdv ct) ⟨us,[]⟩=pure (ps.zip us)):dW K fd ps []:=by
 obtain⟨oc,od,kV,doc,pm,an,cdv,ct,osl,rfl,lk,hcd⟩:=F.ex;exact .all (h kV doc pm an cdv ct)
theorem cP{qual:Str}{st:Stmt}{f:Addr}{oc:Value}{od an:ML}{osl:Array (Option Value)}{kV doc pm cdv ct:Value}(l:K.lookup f=some ⟨oc,od,.func (PySem.W.fnOf x qual (cX st) (cB st) (ao st) .none kV doc pm an cdv ct),osl⟩)
  (c:PySem.W.codeIn K cdv qual=true) (k:PySem.W.keepIn K (.ref f)=true):cZ K x qual st f (PySem.W.fnOf x qual (cX st) (cB st) (ao st) .none kV doc pm an cdv ct):=⟨⟨oc,od,kV,doc,pm,an,cdv,ct,osl,rfl,l,c⟩,k⟩
end
section
variable {X:Cx}
theorem pv(i:Nat){x:Str}{pos:Pos}(hN:autoParam (X.N[i]?=some x) zz0._auto_1)(hv:autoParam (Hz X.env.scope x) zz6._auto_1)(hd:autoParam ((x==("__debug__":Str))=false) zz1._auto_1)
  (hcd:autoParam ((x==("__classdict__":Str))=false) zz1._auto_1):PE X (.Name x pos) (zR i):=Ga hN hv hd hcd
theorem AR:dZ X (.builtin "len") (λxs H Q=>∃a kvs,xs=[V.ref a]/\H a=some (.dK kvs)/\Q (.int kvs.length) H):=by
 intro pins s σ H xs us Q I r h;obtain⟨a,kvs,rfl,c,q⟩:=h;obtain⟨u,rfl,b⟩:=lv r;cases b;exact Hr I (.inl c) λt s' d=>⟨.int kvs.length,H,d,⟨t,rfl⟩,q⟩
end
def ax(H H':Hp):Prop:=∀b o,H b=some o->H' b=some o
theorem ax.refl(H:Hp):ax H H:=λ_ _ h=>h
theorem ax.trans{H1 H2:Hp}(a:ax H H1)(b:ax H1 H2):ax H H2:=λc o h=>b c o (a c o h)
theorem ax.free(e:ax H H'){l:Addr}(h:H' l=Option.none):H l=Option.none:=by
 cases q:H l with
 |none=>rfl
 |some o=>
  rw[e l o q]at h;cases h
theorem ax.seq{K:Mv}(e:ax H H')(h:aI K H a xs):aI K H' a xs:=by
 rcases h with(h | ⟨o,h⟩) | h
 ·exact .inl (.inl (e _ _ h))
 ·exact .inl (.inr ⟨o,e _ _ h⟩)
 ·exact .inr h
section
variable {κ:Type}[DecidableEq κ]
theorem Bg{kvs:List (κ×V)}{k:κ}(h:cJ kvs k=none):¬ k∈kvs.map (·.1):=by
 intro m;obtain⟨p,b,e⟩:=Mi.mp m;have q:(kvs.any λa=>decide (a.1=k))=true:=List.any_eq_true.mpr ⟨p,b,q09 e⟩;rw[eG,h]at q;exact q0Q q (by simp)
end
end L2
namespace PySem
open Sem (wp)
open Builtin Builtin.Str Builtin.Int
namespace F
theorem mv:Manifest.owners.lookup "reversed"=some Manifest.sig_reversed:=by kernel_rfl
theorem slot_rvs_next:Slot "reversed" "__next__" "reversed.__next__":=
 .of (owner:="reversed") (n:="__next__") (by rw[typeLookup_type,builtinLookup_eq_fast];kernel_rfl) (by decide +kernel) (by decide +kernel) (by decide +kernel)
  (by first | exact .inl (by decide +kernel) | exact .inr (by decide +kernel)) (by rw[isSubtype_type];kernel_rfl)
theorem entry_rvs_next:entryFor table "reversed.__next__"=some Builtin.«reversed.__next__»:=entryFor_of_tree (by kernel_rfl)
theorem slot_rvs_iter:Slot "reversed" "__iter__" "reversed.__iter__":=
 .of (owner:="reversed") (n:="__iter__") (by rw[typeLookup_type,builtinLookup_eq_fast];kernel_rfl) (by decide +kernel) (by decide +kernel) (by decide +kernel)
  (by first | exact .inl (by decide +kernel) | exact .inr (by decide +kernel)) (by rw[isSubtype_type];kernel_rfl)
theorem nolen_rvs:typeLookup (.type "reversed") "__len__"=pure none:=by rw[typeLookup_type,builtinLookup_eq_fast];kernel_rfl
theorem hint_rvs:typeLookup (.type "reversed") "__length_hint__"=pure (some (.builtin "reversed.__length_hint__")):=by rw[typeLookup_type,builtinLookup_eq_fast];kernel_rfl
theorem args_rvs_next_1(a:Value):argsOk "reversed.__next__" ⟨[a],[]⟩:=by
 unfold argsOk;rw[signature?_of (id:="reversed.__next__") (n:=['_','_','t','x','e','n','_','_']) (o:=['d','e','s','r','e','v','e','r']) (by kernel_rfl) mv];kernel_rfl
theorem args_rvs_iter_1(a:Value):argsOk "reversed.__iter__" ⟨[a],[]⟩:=by
 unfold argsOk;rw[signature?_of (id:="reversed.__iter__") (n:=['_','_','r','e','t','i','_','_']) (o:=['d','e','s','r','e','v','e','r']) (by kernel_rfl) mv];kernel_rfl
theorem entry_rvs_iter:entryFor table "reversed.__iter__"=some Builtin.«dict_keyiterator.__iter__»:=
 entryFor_alias (id':="dict_keyiterator.__iter__") (by kernel_rfl) (by first | rfl | decide +kernel | (unfold String.splitOn;simp +decide [String.splitOnAux])) (by decide +kernel) (by kernel_rfl)
theorem slot_rvs_hint:Slot "reversed" "__length_hint__" "reversed.__length_hint__":=
 .of (owner:="reversed") (n:="__length_hint__") (by rw[typeLookup_type,builtinLookup_eq_fast];kernel_rfl) (by decide +kernel) (by decide +kernel) (by decide +kernel)
  (by first | exact .inl (by decide +kernel) | exact .inr (by decide +kernel)) (by rw[isSubtype_type];kernel_rfl)
theorem entry_rvs_hint:entryFor table "reversed.__length_hint__"=some Builtin.«reversed.__length_hint__»:=entryFor_of_tree (by kernel_rfl)
theorem args_rvs_hint_1(a:Value):argsOk "reversed.__length_hint__" ⟨[a],[]⟩:=by
 unfold argsOk;rw[signature?_of (id:="reversed.__length_hint__") (n:=['_','_','t','n','i','h','_','h','t','g','n','e','l','_','_']) (o:=['d','e','s','r','e','v','e','r']) (by kernel_rfl) mv];kernel_rfl
end F
section
variable {prog:ME}{w:MJ}{A:MG}{E:Mu}{s:My}
def xx(x:Str)(t:Tok)(i:Int):Obj:={cls:=.type "reversed",data:=.fields #[.str x t,rawInt i]}
def Heap.IsRvs(h:Heap)(a:Addr)(x:Str)(t:Tok)(i:Int):Prop:=∃o,h.get? a=some o/\o.cls=.type "reversed"/\o.data=.fields #[.str x t,rawInt i]
theorem Heap.IsRvs.typeIs{t:Tok}(y:s.heap.IsRvs a x t i):s.TypeIs (.ref a) "reversed":=let ⟨o,ho,hc,_⟩:=y;⟨o,ho,hc⟩
theorem Heap.IsRvs.at{h h':Heap}{t:Tok}(y:h.IsRvs a x t i)(e:∀o,h.get? a=some o->h'.get? a=some o):h'.IsRvs a x t i:=let ⟨o,ho,r⟩:=y;⟨o,e _ ho,r⟩
theorem iA{it:Addr}{t:Tok}{i c:Nat}{Q:Option Value->Shared->Prop}(hit:s.heap.IsRvs it x t (i:Int))(hx:x.cps[i]?=some c)(hsz:i<2 ^ 63)
  (hQ:∀h' tk tk',h'.IsRvs it x t ((i:Int)-1)->Heap.SameBut it s.heap h'->Q (some (.str ⟨#[c]⟩ tk)) {s with heap:=h',toks:=tk' }):wpAny (model prog w) A (pyNext (.ref it)) Q E s:=by
 obtain⟨o,d,l,b⟩:=id hit;have g:i<x.length:=(Array.getElem?_eq_some_iff.mp hx).1;unfold pyNext;refine q04 (wpAny_attempt (wpAny_callSpecial?_slot (name:=Str.ofString "__next__") hit.typeIs F.slot_rvs_next
  (wpAny_call_entry F.slot_rvs_next hit.typeIs F.entry_rvs_next ?_ (F.args_rvs_next_1 _))))
 unfold Builtin.«reversed.__next__»;refine q04 (wpAny_of_eq (a:=(Value.ref it,[])) rfl ?_)
 try dsimp only
 refine q04 (wpAny_field d b (x:=.str x t) rfl ?_);refine q04 (wpAny_field d b (x:=rawInt (i:Int)) rfl ?_);show wpAny _ _ (if(i:Int)<0 then _ else _) _ _ s;rw[q06 ⋯];refine q04 (wpAny_specialOf (typeIs_str s x t) F.slot_str_getitem.lookup ?_)
 try dsimp only
 first
 |rw[q06 (show ¬ ((some (Value.builtin "str.__getitem__")).isNone=true) from L4)]
 |skip
 refine q04 (wpAny_mkInt ?_);refine q04 (wpAny_attempt ?_);have m:(seqIndex? (i:Int) x.length).bind (x.cps[·]?)=some c:=by
  have e:seqIndex? (i:Int) x.length=some i:=by
   have j:¬ ((i:Int)<0):=by omega
   unfold seqIndex?;simp[j,g]
  rw[e];exact hx
 refine P.getItem_str (c:=c) (by simp;omega) m ?_;dsimp only;refine q04 (wpAny_field d b (x:=rawInt (i:Int)) rfl ?_);show wpAny _ _ (setField (Value.ref it) 1 (rawInt ((i:Int)-1)) >>= λ_=>ret (Value.str ⟨#[c]⟩ _)) _ _ _;refine q04 (wpAny_setField d b (by simp) ?_);refine q05 ⟨_,rfl,q05 (hQ _ _ _ ?_ (Heap.SameBut.update ..))⟩;exact⟨_,LM _ d (Obj.isFreed_of_fields (Obj.data_mapFields b _)),(Obj.cls_mapFields ..).trans l,by
  rw[Obj.data_mapFields b];simp⟩
theorem iI{it:Addr}{t:Tok}{Q:Option Value->Shared->Prop}(hh:A.handled=none)(hit:s.heap.IsRvs it x t (-1))
  (hQ:∀h',Heap.ExtBut it s.heap h'->Q none {s with heap:=h' }):wpAny (model prog w) A (pyNext (.ref it)) Q E s:=by
 obtain⟨o,d,hc,c⟩:=id hit;unfold pyNext;refine q04 (wpAny_attempt (wpAny_callSpecial?_slot (name:=Str.ofString "__next__") hit.typeIs F.slot_rvs_next
  (wpAny_call_entry F.slot_rvs_next hit.typeIs F.entry_rvs_next ?_ (F.args_rvs_next_1 _))))
 unfold Builtin.«reversed.__next__»;refine q04 (wpAny_of_eq (a:=(Value.ref it,[])) rfl ?_)
 try dsimp only
 refine q04 (wpAny_field d c (x:=.str x t) rfl ?_);refine q04 (wpAny_field d c (x:=rawInt (-1)) rfl ?_);show wpAny _ _ (if(-1:Int)<0 then _ else _) _ _ s;rw[q07 nofun];refine q04 (wpAny_rule ?_);show wpAny _ _ ((setField (Value.ref it) 1 (rawInt (-1)) >>= λ_=>setField (Value.ref it) 0 .none) >>= _) _ _ _;refine q04 (q04 (wpAny_setField d c (by simp) ?_));have e:=LM (Obj.mapFields (·.setIfInBounds 1 (rawInt (-1)))) d (Obj.isFreed_of_fields (Obj.data_mapFields c _));refine wpAny_setField e (Obj.data_mapFields c _) (by simp) ?_;dsimp only;show wpAny _ _ (SmallTypes.stopIteration >>= _) _ _ _;refine q04 ?_;unfold SmallTypes.stopIteration
 first
 |show wpAny _ _ (newExc (.type "StopIteration") [] >>= _) _ _ _
 | (refine q04 ?_;show wpAny _ _ (newExc (.type "StopIteration") [] >>= _) _ _ _)
 refine q04 ?_;simp only[newExc,newTuple];refine q04 (wpAny_newObj_type ?_ (by size_fits));refine q04 (m:=firstArgMember _ _) (wpAny_of_eq (a:=Value.none) (by first | rfl | (simp only[firstArgMember];rfl)) ?_);refine wpAny_newObj_type ?_ (by size_fits);simp only[raiseNew];refine q04 (wpAny_handled ?_)
 first | rw[show A.in1.handled=none from hh] | rw[hh]
 refine q04 (q05 (wpAny_throw ?_));refine q04 (wpAny_isInstance (T:="StopIteration") (b:=true) ⟨_,LI _ rfl,rfl⟩ isSubtype_stop ?_);refine q05 (hQ _ ?_);intro b ob g i;exact LB _ (LB _ ((LH _ _ (Ne.symm g)).trans ((LH _ _ (Ne.symm g)).trans i)))
theorem gD{it:Addr}{t:Tok}{Q:Mu}(hit:s.heap.IsRvs it x t i)(h:Q (.ref it) s):wpAny (model prog w) A (pyIter (.ref it)) Q E s:=by
 refine wpAny_pyIter_slot hit.typeIs F.slot_rvs_iter (wpAny_call_entry F.slot_rvs_iter hit.typeIs F.entry_rvs_iter ?_ (F.args_rvs_iter_1 _));show wpAny _ _ (ret (.ref it)) _ _ s;exact q05 ⟨_,rfl,"reversed",_,hit.typeIs,F.slot_rvs_next.lookup,h⟩
theorem hint_rvs{it:Addr}{t:Tok}{Q:Mu}(hit:s.heap.IsRvs it x t i)(hi:i<x.length)(hz:x.length<=sizeLine)
  (h:∀u tk,s.toks<=tk->Q (.int (i+1) u) {s with toks:=tk}):wpAny (model prog w) A (call (.builtin "reversed.__length_hint__") [.ref it]) Q E s:=by
 obtain⟨o,b,hc,c⟩:=id hit;refine wpAny_call_entry F.slot_rvs_hint hit.typeIs F.entry_rvs_hint ?_ (F.args_rvs_hint_1 _);unfold Builtin.«reversed.__length_hint__»;refine q04 (wpAny_of_eq (a:=Value.ref it) rfl ?_);refine q04 (wpAny_field b c (x:=.str x t) rfl ?_);show wpAny _ _ (if(Value.str x t==Value.none)=true then _ else _) _ _ s;rw[q06 (show ¬ ((Value.str x t==Value.none)=true) from λz=>by cases(eq_of_beq z))];have hs:sizeLine=16777216:=q0V;refine q04 (P.len_str ⋯ ?_);refine q04 (m:=asInt? _) (q05 ?_);dsimp only;refine q04 (wpAny_field b c (x:=rawInt i) rfl ?_);show wpAny _ _ (if(x.length:Int)<i+1 then _ else _) _ _ _;rw[q06 ⋯];show wpAny _ _ (mkInt (i+1) >>= λv=>ret v) _ _ _;exact q04 (wpAny_mkInt (q05 ⟨_,rfl,h _ _ (by simp;omega)⟩))
theorem Walks.rvs{A:MG}(hh:A.handled=none)(I:Addr)(x:Str)(t:Tok)(hz:x.length<=sizeLine) :
  Walks prog w A I [I] [I] x.length (λi v=>∃c tk,x.cps[x.length-1-i]?=some c/\v=.str ⟨#[c]⟩ tk) (λi h=>i<=x.length/\h.IsRvs I x t ((x.length:Int)-1-(i:Int))) where
 sub:=λb hb=>hb
 frame:=λ_ _ _ y hk=>⟨y.1,y.2.at λo e=>hk I (by simp) o e⟩
 item:=λi s Q E hi y hQ=>by
  have e:(x.length:Int)-1-(i:Int)=((x.length-1-i:Nat):Int):=by omega
  have a:=y.2;rw[e]at a;have hb:x.length-1-i<x.cps.size:=by have:x.length=x.cps.size:=rfl;omega
  have p:x.cps[x.length-1-i]?=some (x.cps[x.length-1-i]'hb):=Array.getElem?_eq_getElem hb;have hs:sizeLine=16777216:=q0V;refine iA a p ⋯ λm tk g d j=>?_;have q:((x.length-1-i:Nat):Int)-1=(x.length:Int)-1-((i+1:Nat):Int):=by omega
  rw[q]at d;exact hQ _ m g ⟨_,tk,p,rfl⟩ ⟨hi,d⟩ λb o hb n=>j.extBut b o (λh=>hb (by simp[h])) n
 done:=λs Q E y hQ=>by
  have e:(x.length:Int)-1-(x.length:Int) = -1:=by omega
  have a:=y.2;rw[e]at a;exact iI hh a λm l=>hQ m s.toks λb o hb n=>l b o (λh=>hb (by simp[h])) n
 self:=λ_ _ _ _ y hQ=>gD y.2 hQ
theorem kr{t:Tok}{Q:List Value->Shared->Prop}(hh:A.handled=none)(hit:s.heap.IsRvs I x t ((x.length:Int)-1))(hz:x.length<=sizeLine)
  (hQ:∀s' acc,Moved [I] (λa b=>b=a) s s'->ItemsOf (λi v=>∃c tk,x.cps[x.length-1-i]?=some c/\v=.str ⟨#[c]⟩ tk) acc x.length->Q acc.toList s'):wpAny (model prog w) A (collect (.ref I)) Q E s:=by
 have W:=(Walks.rvs (prog:=prog) (w:=w) (A:=A.in1) hh I x t hz).toS;have hn:x.length<=sizeLine:=hz;have hst:(λi (s:My)=>i<=x.length/\s.heap.IsRvs I x t ((x.length:Int)-1-(i:Int))) 0 s:=⟨L3 _,by simpa using hit⟩;have hT:∀i (s:My),(i<=x.length/\s.heap.IsRvs I x t ((x.length:Int)-1-(i:Int)))->s.TypeIs (.ref I) "reversed":=λi s y=>y.2.typeIs;have hlt:I<s.heap.objs.size:=by obtain⟨o,ho,_⟩:=hit;exact L5 ho
 have hSI:s.heap.objs.size≠I:=λe=>L_ _ (e▸hlt);have hSf:s.heap.objs.size∉[I]:=λhm=>hSI (LD.mp hm);unfold collect;refine q04 (wpAny_runValue (codeAny_builtin F.entry_proto_collect ?_));rw[Around.under_plainId F.plain_proto_collect _];show wpAny _ A.in1 (newList [] >>= λl=>again (.builtin "list.__iadd__" ⟨[l,.ref I],[]⟩)) _ _ s;refine q04 (wpAny_newObj_type ?_);refine q05 ⟨plainId_quiet F.plain_list_iadd _,codeAny_builtin F.entry_list_iadd ?_⟩;rw[Around.under_plainId F.plain_list_iadd _];have hst₁:=W.frame 0 s (s.heap.push {cls:=.type "list",data:=.seq ([]:List Value).toArray}) s.toks hst (L1 _) λb _ o e=>LB _ e;have hS₁:(s.heap.push {cls:=.type "list",data:=.seq ([]:List Value).toArray}).get? s.heap.objs.size=some {cls:=.type "list",data:=.seq ([]:List Value).toArray}:=LI _ rfl;have h1:Builtin.List.listSameRef (.ref s.heap.objs.size) (.ref I)=false:=by simp[Builtin.List.listSameRef,hSI]
 show wpAny _ A.in1 (Builtin.List.listExtendWith (.ref s.heap.objs.size) (.ref I) (.ref s.heap.objs.size)) _ _ _;unfold Builtin.List.listExtendWith;refine q04 (wpAny_typeOf (hT 0 _ hst₁) ?_);rw[q06 (by rw[h1];decide)];refine q04 (W.self 0 _ _ _ hst₁ ?_);refine q04 (q0X ?_);unfold Builtin.List.listLengthHint;refine q04 (wpAny_specialOf (hT 0 _ hst₁) F.nolen_rvs ?_);show wpAny _ A.in1 (specialOf (Value.ref I) (Str.ofString "__length_hint__") >>= _) _ _ _;refine q04 (wpAny_specialOf (hT 0 _ hst₁) F.hint_rvs ?_)
 (generalize hid:("reversed.__length_hint__":String)=id0;(fail_if_success (clear hid id0));wp_delta;rw[show splitId id0=some ("reversed","__length_hint__") from by subst hid;decide +kernel];subst hid)
 refine q04 (wpAny_isInstance (b:=true) (hT 0 _ hst₁) (by rw[isSubtype_type];kernel_rfl) ?_);rw[q06 (show ¬ ((!true)=true) by decide)];dsimp only
 split
 ·rename_i hsil
  exact q0Q hsil (by decide +kernel)
 refine q04 (wpAny_rule ?_);refine q04 (wpAny_of_eq (F.slot_rvs_hint.bind _) ?_);dsimp only;refine q04 (wpAny_attempt ?_);refine hint_rvs (i:=(x.length:Int)-1-((0:Nat):Int)) hst₁.2 ⋯ hz λu tk htk=>?_;dsimp only;have hs:sizeLine=16777216:=q0V;have hk:Builtin.List.listTooLong (Int.toNat ((x.length:Int)-1-((0:Nat):Int)+1))=false:=by
  unfold Builtin.List.listTooLong;have e:Int.toNat ((x.length:Int)-1-((0:Nat):Int)+1)=x.length:=by omega
  rw[e]
  simpa using hz
 refine q04 (m:=asInt? (.int _ u)) (q05 ?_);dsimp only;have hfit:Builtin.List.listFitsIndex ((x.length:Int)-1-((0:Nat):Int)+1)=true:=by
  unfold Builtin.List.listFitsIndex;simp;omega
 rw[q06 (by rw[hfit];decide),q06 ⋯,q06 (by rw[hk];decide)];refine q05 ?_
 -- the loop,from a list that may have been touched
 have dL:∀(h₂:Heap) (c:Nat),(∀b o,b≠s.heap.objs.size->(s.heap.push {cls:=.type "list",data:=.seq ([]:List Value).toArray}).get? b=some o->h₂.get? b=some o) ->
   h₂.get? s.heap.objs.size=some {cls:=.type "list",data:=.seq ([]:List Value).toArray c} ->
   codeAny (model prog w) A (.builtin "list.extend.loop" ⟨[.ref s.heap.objs.size,.ref I,.ref s.heap.objs.size],[]⟩) (λr s'=>match r with
    | .ok (.ret v)=>wpAny (model prog w) A (match v with
     | .ref a=>do
      let __do_lift <- load a
      match __do_lift.data with
       | .seq xs _=>pure xs.toList
       |_=>unsupported "internal:collect"
     |_=>unsupported "internal:collect") Q E s'
    | .ok _=>False
    | .error e=>E e s') {s with heap:=h₂,toks:=tk}:=λh₂ c keep hS₂=>by
  have hst₂:(λi (s:My)=>i<=x.length/\s.heap.IsRvs I x t ((x.length:Int)-1-(i:Int))) 0 {s with heap:=h₂,toks:=tk}:=⟨L3 _,hst₁.2.at λo e=>keep I o (Ne.symm hSI) e⟩;refine codeAny_extend_loopS W hn _ hSf _ x.length 0 _ _ _ rfl (L3 _) hst₂ hS₂ (ItemsOf.nil _) λs' acc' c' hm hS' hacc=>?_;show wpAny _ A (load s.heap.objs.size >>= _) _ _ s';refine q04 (wpAny_load hS' ?_);refine q05 (hQ s' acc' ?_ hacc);exact⟨λb ob hb e=>hm.heap b ob (λhm'=>by
    rcases LR.mp hm' with e1 | hm'
    ·exact q0Q (e1▸L5 e) (L_ _)
    ·exact hb hm') (keep b ob (λe1=>q0Q (e1▸L5 e) (L_ _)) (LB _ e)),hm.gens,hm.drawn,hm.os,L9 htk hm.toks⟩
 have quiet:=plainId_quiet F.plain_extend_loop (⟨[.ref s.heap.objs.size,.ref I,.ref s.heap.objs.size],[]⟩:Args)
 split
 ·refine q04 (wpAny_rule ?_)
  show wpAny _ A.in1 ((updateSeq s.heap.objs.size (·.push .none) >>= λ_=>updateSeq s.heap.objs.size (·.pop)) >>= _) _ _ _;refine q04 (q04 (wpAny_updateSeq hS₁ rfl ?_ (by simp) (by simp)));have q1:=PySem.IsL.update (h:=s.heap.push {cls:=.type "list",data:=.seq ([]:List Value).toArray}) (l:=s.heap.objs.size) (items:=([]:List Value).toArray) (n:=0) hS₁ (·.push .none);refine wpAny_updateSeq q1 rfl ?_ (by simp;omega) (by simp);have q2:=PySem.IsL.update q1 (·.pop);exact q05 ⟨quiet,dL _ _ (λb o hb e=>(LH _ _ (Ne.symm hb)).trans ((LH _ _ (Ne.symm hb)).trans e)) (show _=some ({cls:=.type "list",data:=.seq ([]:List Value).toArray _}:Obj) from q2)⟩
 ·exact q05 ⟨quiet,dL _ _ (λb o hb e=>e) hS₁⟩
theorem CU{sep:Str}{t:Tok}{Q:Mu}(hh:A.handled=none)(hit:s.heap.IsRvs I x t ((x.length:Int)-1))(hz:x.length<=1000)(hsep:sep.length<=1000)
  (h:∀(s':My) (t':Tok) (k:Nat),(∀b o,b≠I->s.heap.get? b=some o->s'.heap.get? b=some o)->s'.gens=s.gens->s'.drawn=s.drawn->s'.os=s.os ->
   Q (.str (Txt.join sep (x.cps.toList.reverse.map λc=>(⟨#[c]⟩:Str))) t') {s' with toks:=k}):wpAny (model prog w) A (call (.builtin "str.join") [.str sep t0,.ref I]) Q E s:=by
 have hs:sizeLine=16777216:=q0V;refine wpAny_call (codeAny_call_builtin F.slot_str_join.plain F.entry_str_join (F.slot_str_join.check _ _ _ _ _ _ _ _ (typeIs_str _ _ _) (F.args_str_join_2 _ _) ?_));rw[join_tree_other];refine q04 (wpAny_typeOf hit.typeIs ?_);show wpAny _ A.in1 ((pyIter (.ref I)).tryCatch _ >>= λT=>collect T >>= λm=>joinTail sep m) _ _ s;refine q04 (wpAny_tryCatch (gD hit ?_));refine q04 (kr hh hit ⋯ λs' u B d=>?_);obtain⟨l,C⟩:=exists_strValues u.toList λv U=>by
  obtain⟨j,D,rfl⟩:=Array.mem_iff_getElem.mp (Array.mem_toList_iff.mp U);obtain⟨c,S,_,e⟩:=d.2 j _ (Array.getElem?_eq_getElem D);exact⟨_,_,e⟩
 have n:l.map (·.1)=x.cps.toList.reverse.map λc=>(⟨#[c]⟩:Str):=by
  have Z:l.length=x.length:=by
   have q:=q0R List.length C;simp[strValues]at q;rw[q];exact d.1
  refine List.ext_getElem (by simp[Z];rfl) λj h1 h2=>?_;simp only[List.getElem_map,List.getElem_reverse];have D:j<l.length:=by simpa using h1
  have Y:u.toList[j]?=some (Value.str (l[j]).1 (l[j]).2):=by
   rw[<- C];simp[strValues,D]
  have L:u[j]?=some (Value.str (l[j]).1 (l[j]).2):=by simpa using Y
  obtain⟨c,S,R,e⟩:=d.2 j _ L
  injection e with O _
  rw[O];have J:x.length-1-j<x.cps.size:=by have:x.length=x.cps.size:=rfl;omega
  rw[Array.getElem?_eq_getElem J]at R;have G:=q0S R;rw[<- G];simp only[Array.length_toList,Array.getElem_toList]
  rfl
 rw[<- C];have i:JoinOk sep (l.map (·.1))=true:=by
  unfold JoinOk;rw[StrLaws.joinTotal];have O:((l.map (·.1)).map (·.length)).sum=x.length:=by
   rw[n,LQ];have:((λy:Str=>y.length)∘λc=>(⟨#[c]⟩:Str))=λ_=>1:=by funext c;rfl
   rw[this,List.map_const',List.sum_replicate_nat];simp
   rfl
  have e2:(l.map (·.1)).length=x.length:=by rw[n];simp;rfl
  rw[O,e2];have:x.length*sep.length<=1000*1000:=Nat.mul_le_mul hz hsep;unfold tooLong;rw[q08 ⋯]
  rfl
 have a:=λt' k=>h s' t' k (λb o J e=>B.heap b o (λz=>J (LD.mp z)) e) B.gens B.drawn B.os;unfold JoinOk at i;rw[Bool.not_eq_true']at i;have g:Gives (joinTail sep (strValues l)) (joinMade sep l):=by
  have M:=gives_joinTail sep l i;cases l with
  |nil=>exact M
  |cons p r=>cases r with
   |nil=>exact M
   |cons q r'=>exact M
 rw[<- n]at a;exact g prog w A (wants Q E) s' (post_join l ⟨joinFit_length i,a⟩)
end
namespace F
theorem qk:Slot "reversed" "__init__" "object.__init__":=
 .of (owner:="object") (n:="__init__") (by rw[typeLookup_type,builtinLookup_eq_fast];kernel_rfl) (by decide +kernel) (by decide +kernel) (by decide +kernel)
  (by first | exact .inl (by decide +kernel) | exact .inr (by decide +kernel)) (by rw[isSubtype_type];kernel_rfl)
theorem yT:mroOf (.type "reversed")=pure [.type "reversed",.type "object"]:=by rw[mroOf_type];kernel_rfl
theorem oB:typeLookup (.type "reversed") "__new__"=pure (some (.builtin "reversed.__new__")):=by rw[typeLookup_type,builtinLookup_eq_fast];kernel_rfl
theorem rvs_called:TypeCalled "reversed" "reversed.__new__" "object.__init__":=
 ⟨by decide +kernel,by decide +kernel,⟨_,_,yT⟩,madeBy_type yT oB (by decide +kernel),by decide +kernel,by rw[isSubtype_type];kernel_rfl,qk⟩
theorem rvs_typeCall_1(a:Value):checkTypeCall "reversed" ⟨[a],[]⟩=pure ():=by kernel_rfl
theorem rvs_newCall_1(a:Value):checkBuiltinCall "reversed.__new__" ⟨[.type "reversed",a],[]⟩=pure ():=by kernel_rfl
theorem rvs_entry_new:entryFor table "reversed.__new__"=some Builtin.«reversed.__new__»:=entryFor_of_tree (by kernel_rfl)
theorem rvs_sub:isSubtype (.type "reversed") (.type "reversed")=pure true:=by rw[isSubtype_type];kernel_rfl
theorem rvs_nostr:typeLookup (.type "str") "__reversed__"=pure none:=by rw[typeLookup_type,builtinLookup_eq_fast];kernel_rfl
end F
section
variable {prog:ME}{w:MJ}{A:MG}{E:Mu}{s:My}
theorem tT(a:Value):Builtin.SmallTypes.newClass "reversed" ⟨[.type "reversed",a],[]⟩=pure (.type "reversed",[a]):=by
 unfold Builtin.SmallTypes.newClass;simp only[isType,F.rvs_sub,pure_bind,Bool.not_true,q0Z,if_false]
theorem qb(x:Str)(t:Tok)(hz:x.length<=sizeLine):Meets (Builtin.«reversed.__new__» ⟨[.type "reversed",.str x t],[]⟩)
  (λ_ R s=>R (.ok (.ret (.ref s.heap.objs.size))) {s with heap:=s.heap.push (xx x t ((x.length:Int)-1)),toks:=s.toks+1+1}):=
 .of_wp λprog w A R s h=>by
  have hs:sizeLine=16777216:=q0V;unfold Builtin.«reversed.__new__»;refine q04 (wpAny_of_eq (tT _) ?_)
  try dsimp only
  refine q04 (wpAny_of_eq (a:=()) (by first | rfl | kernel_rfl) ?_);refine q04 (wpAny_of_eq (a:=()) (by first | rfl | kernel_rfl) ?_)
  try dsimp only
  refine q04 (wpAny_specialOf (typeIs_str s x t) F.rvs_nostr ?_)
  try dsimp only
  refine q04 ?_;refine q04 (wpAny_isInstance (T:="str") (b:=false) (typeIs_str s x t) (by rw[isSubtype_type];kernel_rfl) ?_);rw[q06 nofun];refine q04 (wpAny_specialOf (typeIs_str s x t) F.slot_str_getitem.lookup ?_);dsimp only
  split
  ·refine q05 ?_
   rw[q06 nofun];refine q04 (P.len_str ⋯ ?_);refine q04 (m:=asInt? _) (q05 ?_);dsimp only;show wpAny _ _ (newObj (.type "reversed") (.fields #[.str x t,rawInt ((x.length:Int)-1)]) >>= λv=>ret v) _ _ _;exact q04 (wpAny_newObj_type (q05 ⟨_,rfl,h⟩))
  ·rename_i hn
   exact q0Q (by decide +kernel) hn
theorem kL{x:Str}{t:Tok}{Q:Mu}(hz:x.length<=sizeLine)
  (h:Q (.ref s.heap.objs.size) {s with heap:=s.heap.push (xx x t ((x.length:Int)-1)),toks:=s.toks+1+1}):wpAny (model prog w) A (call (.type "reversed") [.str x t]) Q E s:=
 callType_new F.rvs_called nofun (F.rvs_typeCall_1 _) (F.rvs_newCall_1 _) (λobj=>F.args_object_init_2 obj _) F.rvs_entry_new (qb x t hz) ⟨⟨_,LI _ rfl,rfl⟩,h⟩
end
end PySem
namespace L2
open PySem PySem.Spec PyProof.Rows
def eX(env:Env):List (Str×NameKind)->List (Str×Addr)->List (Str×Addr)
 | [],acc=>acc
 | (n,k)::r,acc=>if k==.free then eX env r ((n,(env.cells.lookup n).getD 0)::acc) else eX env r acc
theorem mR{env:Env}:∀(ns:List (Str×NameKind)) (acc:List (Str×Addr)),(∀x∈ns,x.2=.free->∃c,env.cells.lookup x.1=some c) ->
  (forIn ns acc fun(x:Str×NameKind) (cs:List (Str×Addr))=>(if x.2==.free then do
    let c <- cellOf env x.1
    pure (ForInStep.yield ((x.1,c)::cs))
   else pure (ForInStep.yield cs):Sem (ForInStep (List (Str×Addr)))))=pure (eX env ns acc)
 | [],acc,_=>rfl
 | (n,k)::r,acc,h=>by
  have ih:=λa=>mR (env:=env) r a λx hx=>h x (LS _ hx);rw[List.forIn_cons]
  by_cases hk:k=.free
  ·subst hk
   obtain⟨c,hc⟩:=h (n,.free) q0B rfl;have hc':env.cells.lookup n=some c:=hc;have e1:cellOf env n=pure c:=by unfold cellOf;rw[hc']
   simp only[eX,hc',q0L];show((do let c <- cellOf env n;pure (ForInStep.yield ((n,c)::acc))) >>= _)=_;rw[e1,pure_bind,pure_bind];exact ih _
  ·have b:(k==NameKind.free)=false:=by simpa using hk
   simp only[eX,b,q0Z,if_false];rw[pure_bind];exact ih _
theorem iK{env:Env}{scope:Scope}(h:∀x∈scope.names,x.2=.free->∃c,env.cells.lookup x.1=some c) :
  closureFor scope env=pure (eX env scope.names []):=by
 unfold closureFor;have e:=mR (env:=env) scope.names [] h;have a:(forIn scope.names ([]:List (Str×Addr)) λx b=>(match x with
   | (name,kind)=>if kind==.free then do
     let c <- cellOf env name
     pure (ForInStep.yield ((name,c)::b))
    else pure (ForInStep.yield b):Sem (ForInStep (List (Str×Addr)))))=pure (eX env scope.names []):=e
 simp only[]at a ⊢
 first
  | (rw[a];rfl)
  | (erw [a];rfl)
theorem hJ{env:Env}:∀{ns:List (Str×NameKind)} {acc:List (Str×Addr)} {x:Str} {c:Addr},(∀y∈ns,y.2=.free->∃c,env.cells.lookup y.1=some c) ->
  (∀y c,acc.lookup y=some c->env.cells.lookup y=some c)->(eX env ns acc).lookup x=some c->env.cells.lookup x=some c
 | [],_,_,_,_,ha,e=>ha _ _ e
 | (n,k)::r,acc,x,c,h,ha,e=>by
  have hr:∀y∈r,y.2=.free->∃c,env.cells.lookup y.1=some c:=λy hy=>h y (LS _ hy);unfold eX at e
  by_cases hk:k=.free
  ·subst hk
   rw[q07 (by simp)]at e;obtain⟨c',hc⟩:=h (n,.free) q0B rfl;have hc':env.cells.lookup n=some c':=hc;refine hJ hr (λy d z=>?_) e;rw[hc',q0L,List.lookup_cons]at z
   by_cases q:y=n
   ·subst q
    simp at z;subst z;exact hc'
   ·have q':(y==n)=false:=by simpa using q
    rw[q']at z;exact ha y d z
  ·rw[q06 (by simpa using hk)]at e
   exact hJ hr ha e
theorem nA{env:Env}:∀{ns:List (Str×NameKind)} {acc:List (Str×Addr)} {x:Str},((∃c,acc.lookup x=some c)\/(x,NameKind.free)∈ns)->∃c,(eX env ns acc).lookup x=some c
 | [],_,_,h=>by
  rcases h with h | h
  ·exact h
  ·exact nomatch h
 | (n,k)::r,acc,x,h=>by
  unfold eX
  by_cases hk:k=.free
  ·subst hk
   rw[q07 (by simp)];refine nA ?_
   by_cases q:x=n
   ·subst q
    left
    simp[List.lookup_cons]
   ·have q':(x==n)=false:=by simpa using q
    rcases h with⟨c,h⟩ | h
    ·exact .inl ⟨c,by rw[List.lookup_cons,q'];exact h⟩
    ·rcases LR.mp h with z | z
     ·cases z
      exact q0Q rfl q
     ·exact .inr z
  ·rw[q06 (by simpa using hk)]
   refine nA ?_;rcases h with h | h
   ·exact .inl h
   ·rcases LR.mp h with z | z
    ·cases z
     exact q0Q rfl hk
    ·exact .inr z
def vp(scope osc:Scope):Scope:=
 {scope with names:=scope.names.map fun(n,k)=>if(k==.free&&osc.kind==.function&&osc.names.lookup n==some .cell) then(n,.cell) else(n,k)}
def BI(scope osc:Scope):Bool:=
 (scope.kind==.function)&&(osc.kind==.function)&&scope.names.all fun(n,k)=>(k != .free || !scope.names.contains (n,NameKind.cell))&&(k != .local||scope.names.lookup n==some .local) &&
  (k != .free||osc.names.lookup n==some .cell||osc.names.lookup n==some .free)&&(k != .free||(vp scope osc).names.lookup n != some .local)
structure bA(scope osc:Scope):Prop where
 kind:scope.kind=.function
 sep:∀x∈scope.names,x.2=.free->(x.1,NameKind.cell)∉scope.names
 loc:∀x∈scope.names,x.2=.local->scope.names.lookup x.1=some .local
 free:∀x∈scope.names,x.2=.free->osc.names.lookup x.1=some .cell\/osc.names.lookup x.1=some .free
 nl:∀x∈scope.names,x.2=.free->(vp scope osc).names.lookup x.1≠some .local
theorem bA.of{scope osc:Scope}(h:BI scope osc=true):bA scope osc:=by
 unfold BI at h;rw[q0O,q0O,Mj]at h;obtain⟨⟨h1,h0⟩,h2⟩:=h;refine⟨by simpa using h1,λx a e=>?_,λx a e=>?_,λx a e=>?_,λx a e=>?_⟩
 all_goals
  obtain⟨n,k⟩:=x;have q:=h2 (n,k) a;simp only[q0O,Bool.or_eq_true,bne_iff_ne,beq_iff_eq]at q
 ·have z:=q.1.1.1.resolve_left (λz=>z e)
  simpa using z
 ·exact q.1.1.2.resolve_left (λz=>z e)
 ·rcases q.1.2 with(z | z) | z
  ·exact q0Q e z
  ·exact .inl z
  ·exact .inr z
 ·exact q.2.resolve_left (λz=>z e)
theorem fO{osc:Scope}:∀{ns:List (Str×NameKind)} {x:Str} {k':NameKind},
  (ns.map fun(n,k)=>if(k==NameKind.free&&osc.kind==.function&&osc.names.lookup n==some .cell) then(n,NameKind.cell) else(n,k)).lookup x=some k' ->
  (k'=.cell\/k'=.free)->(x,NameKind.free)∈ns\/(x,NameKind.cell)∈ns
 | [],_,_,h,_=>by simp at h
 | (n,k)::r,x,k',h,hk'=>by
  rw[L8]at h
  by_cases q:x=n
  ·subst q
   by_cases z:(k==NameKind.free&&osc.kind==.function&&osc.names.lookup x==some .cell)=true
   ·have:k=.free:=by
     simp only[q0O,beq_iff_eq]at z;exact z.1.1
    subst this;exact .inl q0B
   ·simp only[z,q0Z,if_false]at h
    rw[List.lookup_cons]at h;simp at h;subst h;rcases hk' with e | e
    ·subst e;exact .inr q0B
    ·subst e;exact .inl q0B
  ·have a:(x==n)=false:=by simpa using q
   refine(fO (osc:=osc) (k':=k') (ns:=r) (x:=x) ?_ hk').imp (LS _) (LS _)
   by_cases z:(k==NameKind.free&&osc.kind==.function&&osc.names.lookup n==some .cell)=true
   ·simp only[z,if_true]at h
    rw[List.lookup_cons,a]at h;exact h
   ·simp only[z,q0Z,if_false]at h
    rw[List.lookup_cons,a]at h;exact h
theorem iH:∀(ns:List (Str×NameKind)) (n:Nat) (acc:List (Str×Addr)),cellsFrom n ns acc=cellsFrom n ns []++acc
 | [],_,_=>rfl
 | (x,k)::r,n,acc=>by
  unfold cellsFrom
  split
  ·rw[iH r (n+1) ((x,n)::acc),iH r (n+1) [(x,n)],Mb];rfl
  ·exact iH r n acc
theorem sR:∀{ns:List (Str×NameKind)} {n:Nat} {x:Str} {c:Addr},(x,c)∈cellsFrom n ns []->(x,NameKind.cell)∈ns
 | [],_,_,_,h=>nomatch h
 | (y,k)::r,n,x,c,h=>by
  unfold cellsFrom at h
  split at h
  ·rename_i hk
   rw[iH]at h;rcases LP.mp h with h | h
   ·exact LS _ (sR h)
   ·cases LD.mp h
    have:k=.cell:=by simpa using hk
    subst this;exact q0B
  ·exact LS _ (sR h)
theorem tU:∀{ns:List (Str×NameKind)} {n:Nat} {x:Str} {acc:List (Str×Addr)},((x,NameKind.cell)∈ns\/∃c,acc.lookup x=some c)->∃c,(cellsFrom n ns acc).lookup x=some c
 | [],_,_,_,h=>h.elim (λz=>nomatch z) id
 | (y,k)::r,n,x,acc,h=>by
  unfold cellsFrom
  split
  ·refine tU ?_
   by_cases q:x=y
   ·subst q
    exact .inr ⟨n,by simp[List.lookup_cons]⟩
   ·have q':(x==y)=false:=by simpa using q
    rcases h with h | ⟨c,h⟩
    ·rcases LR.mp h with z | z
     ·cases z;exact q0Q rfl q
     ·exact .inl z
    ·exact .inr ⟨c,by rw[List.lookup_cons,q'];exact h⟩
  ·rename_i hk
   refine tU ?_;rcases h with h | h
   ·rcases LR.mp h with z | z
    ·cases z;exact q0Q rfl hk
    ·exact .inl z
   ·exact .inr h
def dM(env:Env)(scope:Scope)(C:Addr):List (Str×Addr):=cellsFrom (C+1) scope.names (eX env scope.names [])
theorem kM:∀{ns:List (Str×NameKind)} {n:Nat} {x:Str} {c:Addr},(x,c)∈cellsFrom n ns []->n<=c
 | [],_,_,_,h=>nomatch h
 | (y,k)::r,n,x,c,h=>by
  unfold cellsFrom at h
  split at h
  ·rw[iH]at h
   rcases LP.mp h with h | h
   ·exact L9 (Nat.le_succ _) (kM h)
   ·cases LD.mp h
    exact L1 _
  ·exact kM h
theorem oy:∀{ns:List (Str×NameKind)} {n:Nat},(cellsFrom n ns []).Pairwise λx y=>x.2≠y.2
 | [],_=>List.Pairwise.nil
 | (y,k)::r,n=>by
  unfold cellsFrom
  split
  ·rw[iH]
   refine List.pairwise_append.mpr ⟨oy,by simp,λa ha b hb e=>?_⟩;cases LD.mp hb;have:=kM (x:=a.1) (c:=a.2) ha;rw[e]at this;exact q0Q this (Nat.not_succ_le_self _)
  ·exact oy
theorem iz{env:Env}{scope:Scope}{c:Addr}(h:(dM env scope C).lookup x=some c) :
  ((x,c)∈cellsFrom (C+1) scope.names []/\C<c/\(x,NameKind.cell)∈scope.names)\/((cellsFrom (C+1) scope.names []).lookup x=none/\(eX env scope.names []).lookup x=some c):=by
 unfold dM at h;rw[iH,List.lookup_append]at h;cases q:(cellsFrom (C+1) scope.names []).lookup x with
 |none=>rw[q]at h;exact .inr ⟨rfl,h⟩
 |some d=>
  rw[q]at h;cases h;have:=mem_of_lookup q;exact .inl ⟨this,kM this,sR this⟩
theorem Dg{ns:List (Str×NameKind)}{x:Str}(h:(x,NameKind.cell)∉ns):(cellsFrom n ns []).lookup x=none:=by
 cases q:(cellsFrom n ns []).lookup x with
 |none=>rfl
 |some d=>exact q0Q (sR (mem_of_lookup q)) h
section
variable {M:Model}{A:MG}{E:Mu}{s:My}
theorem fh{scope:Scope}{globals:Addr}{closure:List (Str×Addr)}{qual:Str}{func:ML}{code:Value}{outer:Env}{builtins:Addr}{Q:Env->Shared->Prop}
  (hQ:Q (newEnv scope s.heap.objs.size globals (cellsFrom (s.heap.objs.size+1) scope.names closure) qual func code (some outer) builtins) {s with heap:=pushCells (s.heap.push {cls:=.type "dict",data:=.dict #[]}) scope.names}) :
  wpAny M A (newFunctionEnv scope globals closure [] qual func code (some outer) builtins) Q E s:=by
 simp only[newFunctionEnv,Option.isSome_some,if_true];simp only[newEnv]at hQ;refine q04 (wpAny_alloc ?_);refine q04 (wpAny_layCells _ (λname a cells=>by cases b:a==NameKind.cell<;>simp[b]) _ _ _ _ ?_);rw[show({s with heap:=s.heap.push {cls:=.type "dict",data:=.dict #[]} }:Shared).heap.objs.size=s.heap.objs.size+1 from Heap.size_push ..];rw[List.forIn_nil];exact q04 (q05 (q05 hQ))
end
def Cx.blk(X:Cx)(N':MF)(s₂:My)(H₂:Hp)(scope:Scope)(fp:MA)(C:Addr):Cx where
 prog:=X.prog
 w:=X.w
 K:=X.K
 mg:=X.mg
 base:=X.base
 A:=X.A
 N:=N'
 s₀:=s₂
 H₀:=H₂
 env:=compEnvC scope (dM X.env scope C) C X.env
 outer:=X.stack
 stack:=X.stack
 ex:=fp
 fn:=λx=>scope.names.contains (x,NameKind.cell)
 calm:=X.calm
 pn:=[]
 xe:=λ_ _=>False
def rT(k:Nat)(js:Mx)(σ:St):St:=List.replicate k none++js.map λj=>(σ[j]?).join
def pQ(own:MF)(js:Mx)(N:MF):List Str:=own++js.map λj=>N.getD j Str.empty
section
variable {X:Cx}
theorem Inv.capFree{pins:Mw}{σ:St}{scope:Scope}(I:Inv X pins σ H s)(hk:bA scope X.env.scope):∀x∈scope.names,x.2=.free->∃c,X.env.cells.lookup x.1=some c:=
 λx hx e=>I.ok.has x.1 (hk.free x hx e)
theorem Inv.capL{pins:Mw}{σ:St}{scope:Scope}{c:Addr}(I:Inv X pins σ H s)(hk:bA scope X.env.scope)(e:(eX X.env scope.names []).lookup x=some c):X.env.cells.lookup x=some c:=
 hJ (I.capFree hk) (λ_ _ z=>by simp at z) e
theorem Inv.blkL{pins:Mw}{σ:St}{scope:Scope}{c:Addr}(I:Inv X pins σ H s)(hk:bA scope X.env.scope)(e:(dM X.env scope C).lookup x=some c) :
  ((x,c)∈cellsFrom (C+1) scope.names []/\C<c/\(x,NameKind.cell)∈scope.names)\/X.env.cells.lookup x=some c:=
 (iz e).imp id λz=>I.capL hk z.2
theorem Ft{pins:Mw}{σ:St}{scope:Scope}{fp:MA}{C:Addr}(I:Inv X pins σ H s)(hk:bA scope X.env.scope)(hC:s.heap.objs.size<=C)
  (hf:∀b∈fp,mW X pins H b) (ho:∀b∈fp,∃o,s.heap.get? b=some o):(X.blk N' s H scope fp C).Ok where
 mod:=I.ok.mod
 kind:=hk.kind
 glob:=I.ok.glob
 blt:=I.ok.blt
 above:=hC
 inj:=λx y c e1 e2=>by
  have low:∀z,X.env.cells.lookup z=some c->c<C:=λz e=>by
   obtain⟨v,q⟩:=I.cell z c e;exact LV q.lt hC
  rcases I.blkL hk e1 with⟨a1,a2,_⟩ | a<;>rcases I.blkL hk e2 with⟨b1,b2,_⟩ | b
  ·exact name_of_addr oy a1 b1
  ·exact q0Q (low _ b) (Nat.not_lt.mpr (q0P a2))
  ·exact q0Q (low _ a) (Nat.not_lt.mpr (q0P b2))
  ·exact I.ok.inj x y c a b
 has:=λx h=>by
  refine tU ?_;have z:(x,NameKind.free)∈scope.names\/(x,NameKind.cell)∈scope.names:=by
   rcases h with h | h
   ·exact fO (osc:=X.env.scope) h (.inl rfl)
   ·exact fO (osc:=X.env.scope) h (.inr rfl)
  rcases z with z | z
  ·exact .inr (nA (.inr z))
  ·exact .inl z
 cab:=λx c z e=>by
  have l:(x,NameKind.cell)∈scope.names:=by
   have j:scope.names.contains (x,NameKind.cell)=true:=z
   simpa using j
  have i:(dM X.env scope C).lookup x=some c:=e;rcases iz i with⟨_,a,_⟩ | ⟨a,_⟩
  ·exact L9 hC (q0P a)
  ·obtain⟨d,q⟩:=tU (n:=C+1) (acc:=[]) (.inl l)
   rw[a]at q;cases q
 hd:=I.ok.hd
 frames:=I.ok.frames
 stk:=.inl rfl
 exf:=λb g=>⟨λe=>by
  obtain⟨o,q⟩:=ho b g;have i:b=C:=e;rw[i]at q;exact q0Q (L5 q) (Nat.not_lt.mpr hC),λx c e=>by
  rcases I.blkL hk e with⟨_,a,_⟩ | a
  ·obtain⟨o,q⟩:=ho b g
   intro z;rw[z]at a;exact q0Q (LV (L5 q) hC) (Nat.not_lt.mpr (q0P a))
  ·exact(hf b g).2.2.2.2.1 x c a⟩
 bs:=I.bs
 bsz:=L9 I.ok.bsz I.sz
 noex:=λb o e g=>by
  rcases(hf b g).2.2.2.1 with z | z
  ·exact I.ok.noex b o e z
  ·exact q0Q (L5 (I.ok.bs b o e).1) (Nat.not_lt.mpr z)
 exfs:=λb g m=>by
  rcases LR.mp (I.stkSub b m) with z | z
  ·exact(hf b g).2.1 z
  ·exact(hf b g).2.2.1 z
 funs:=I.stack
 frf:=I.stkFree
theorem AC{pins:Mw}{σ:St}{s1:My}{own:MF}{js:Mx}{scope:Scope}{fp:MA}{C:Addr}(I:Inv X pins σ H s)(hk:bA scope X.env.scope)(hC:s.heap.objs.size<=C)
  (hf:∀b∈fp,mW X pins H b) (ho:∀b∈fp,∃o,s.heap.get? b=some o) (hos:s1.os=s.os) (hg:s1.gens=s.gens) (hn:s1.heap.Ns C m) (keep:∀b o,s.heap.get? b=some o->s1.heap.get? b=some o)
  (hown:∀x c,(x,c)∈cellsFrom (C+1) scope.names []->s1.heap.IsCell c none) (hcap:(js.all λj=>scope.names.contains (X.N.getD j Str.empty,NameKind.free))=true) :
  Inv (X.blk (pQ own js X.N) s H scope fp C) [] (rT own.length js σ) H s1:=by
 have cl:=fun{x:Str} {c:Addr} (e:(eX X.env scope.names []).lookup x=some c)=>hJ (I.capFree hk) (λ_ _ z=>by simp at z) e;refine⟨Ft I hk hC hf ho,hos,hg▸I.bare,Un.kept keep,⟨m,hn,λi x v e1 e2 Z=>?_⟩,λx c e=>?_,I.hok.fresh hC,λx c e=>(I.blkL hk e).elim (λz=>I.hok.fresh (L9 hC (q0P z.2.1))) λz=>I.freeC x c z,λp R=>(nomatch R),I.hok.kept keep,?_⟩
 ·have d:(own++js.map λj=>X.N.getD j Str.empty)[i]?=some x:=e1
  have a:(List.replicate own.length none++js.map λj=>(σ[j]?).join)[i]?=some (some v):=e2
  by_cases B:i<own.length
  ·rw[LY (by rw[List.length_replicate];exact B),List.getElem?_replicate,q07 B]at a
   cases a
  ·have l:own.length<=i:=Nat.le_of_not_lt B
   rw[LX (by rw[List.length_replicate];exact l),List.length_replicate,LF]at a;rw[LX l,LF]at d;cases D:js[i-own.length]? with
   |none=>rw[D]at d;cases d
   |some j=>
    rw[D]at d a;have L:X.N.getD j Str.empty=x:=q0S d;have r:(σ[j]?).join=some v:=q0S a;have J:σ[j]?=some (some v):=by
     cases q:σ[j]? with
     |none=>rw[q]at r;cases r
     |some z=>rw[q]at r;simp at r;rw[r]
    have y:j<X.N.length:=by rw[<- I.len];exact(LA.mp J).1
    have U:X.N[j]?=some x:=by rw[<- L,q0A,Lz y];rfl
    have w:(x,NameKind.free)∈scope.names:=by
     have q:=Mj.mp hcap j (LG D);rw[L]at q
     simpa using q
    have G:=hk.free _ w rfl;obtain⟨mo,hno,S⟩:=I.loc;obtain⟨u,M,O⟩:=S j x v U J (G.elim (λz=>.inr (.inl z)) λz=>.inr (.inr z));refine⟨u,M,?_⟩;rcases O with⟨g,_⟩ | ⟨g,c,Y,T⟩
    ·rcases G with z | z
     ·rw[show X.env.kindOf x=X.env.scope.names.lookup x from rfl,z]at g;cases g
     ·rw[show X.env.kindOf x=X.env.scope.names.lookup x from rfl,z]at g;cases g
    ·obtain⟨c',n⟩:=nA (env:=X.env) (ns:=scope.names) (acc:=[]) (x:=x) (.inr w)
     have:=cl n;rw[Y]at this;cases this;refine .inr ⟨?_,c,?_,T.keeps keep⟩
     case refine_2=>
      show(dM X.env scope C).lookup x=some c;unfold dM;rw[iH,List.lookup_append,Dg (hk.sep _ w rfl)];exact n
     -- its kind within the block
     rcases Z with z | z | z
     ·exact q0Q z (hk.nl _ w rfl)
     ·exact .inl z
     ·exact .inr z
 ·rcases I.blkL hk e with z | z
  ·exact⟨none,hown x c z.1⟩
  ·obtain⟨v,z⟩:=I.cell x c z
   exact⟨v,z.keeps keep⟩
 ·show(List.replicate own.length none++js.map λj=>(σ[j]?).join).length=(own++js.map λj=>X.N.getD j Str.empty).length
  simp
def E6(env:Env)(ifs:MM):Sem Bool:=forIn ifs true λc r=>if r=true then do let ok <- isTrue c env (eval c env);pure (ForInStep.yield ok) else pure (ForInStep.yield r)
theorem sr{prog:ME}{A:MG}{R:Result->Shared->Prop}{s:My}{elt target iter:Expr}{ifs:MM}{scope:Scope}{pos:Pos}{it acc:Value}{env:Env}(I:Nat->Shared->Prop)
  (turn:∀n s,I n s->wpAny (model prog w) A (pyNext it) (λr s₁=>match r with
   |none=>R (.ok .next) s₁
   |some v=>wpAny (model prog w) A (letOwnedTupleGo target it v) (λ_ s₁'=>wpAny (model prog w) A (assign target env v) (λ_ s₂=>
     wpAny (model prog w) A (E6 env ifs) (λok s₃=>
      if ok=true then wpAny (model prog w) A (eval elt env) (λx s₄=>
       wpAny (model prog w) A (call (.builtin "list.append") [acc,x]) (λ_ s₅=>∃m,m<n/\I m s₅) (λ_ _=>False) s₄) (λ_ _=>False) s₃
      else ∃m,m<n/\I m s₃) (λ_ _=>False) s₂) (λ_ _=>False) s₁') (λ_ _=>False) s₁) (λ_ _=>False) s)
  (n:Nat) (h:I n s) :
  codeAny (model prog w) A (.compLoop (.ListComp elt [⟨target,iter,ifs,0⟩] scope pos) 0 it acc env) R s:=by
 refine codeAny_loop rfl I (λn s l=>?_) n h;show wpAny _ A ((compTurn (.ListComp elt [⟨target,iter,ifs,0⟩] scope pos) 0 it acc env).onRaise (λx=>do noteFrame x env;theTreesLotGoes x)) _ _ s;refine wpAny_noted ?_;rw[compTurn_list];have up:∀{α:Type} {t:Sem α} {Q Q':α->Shared->Prop} {E':Mu} {s:My},wpAny (model prog w) A t Q (λ_ _=>False) s->(∀a s,Q a s->Q' a s)->wpAny (model prog w) A t Q' E' s:=
  λh j=>q0W h j λ_ _ f=>f.elim
 refine q04 (wpAny_standAt (q04 (up (turn n s l) λr s₁ d=>?_)));cases r with
 |none=>exact q05 d
 |some v=>
  refine q04 (up d λ_ s₁' b=>q04 (up b λ_ s₂ i=>q04 (up i λok s₃ c=>?_)));cases ok with
  |false=>exact q05 ⟨rfl,c⟩
  |true=>
   exact q04 (q04 (up c λx s₄ g=>q04 (up g λ_ s₅ e=>q05 (q05 ⟨rfl,e⟩))))
def Hu(X:Cx)(ifs:MM)(t:TT):Prop:=
 ∀(pins:Mw) (s:My) (σ:St) (H:Hp) (Q:Bool->Hp->Prop),Inv X pins σ H s->t σ H Q->wpAny (model X.prog X.w) X.A (E6 X.env ifs) (TP X pins σ Q) X.xe s
def yS:TT:=λ_ H Q=>Q true H
theorem bT:Hu X [] yS:=λpins s σ H Q I h=>wpAny_tests_nil ⟨H,I,h⟩
theorem nV{t:TT}(h:PT X c t):Hu X [c] t:=λpins s σ H Q I q=>wpAny_tests_one (h pins s σ H Q I q)
def fN(J:It)(g:TG)(ti:TT)(te:TE)(σ:St)(H:Hp)(Q:List V->Hp->Prop):Prop:=
 ∃W:Nat->Nat->List V->St->Hp->Prop,(∃m,W 0 m [] σ H)/\∀i m acc σ' H',W i m acc σ' H' ->
  acc.length<sizeLine/\((J.stop i H'/\Q acc H') \/
   (J.go i H'/\∃N:List V->St->Hp->Prop,(∀acc' σ2 H2,N acc' σ2 H2->∃m',m'<m/\W (i+1) m' acc' σ2 H2) /\
    ∀x H2,J.yld i H' x H2->g x σ' H2 λσ2 H3=>ti σ2 H3 λb H4=>if b=true then te σ2 H4 λv H5=>N (acc++[v]) σ2 H5 else N acc σ2 H4))
def yU(k:Nat)(js:Mx)(wi:TI)(g:TG)(ti:TT)(te:TE):TE:=λσ H Q=>wi σ H λJ H1=>fN J g ti te (rT k js σ) H1 λacc H'=>∀l,H' l=none->Q (.ref l) (aD H' l (.lst acc))
abbrev gm(its:Mz)(n:Nat):Obj:={cls:=.type "list",data:=.seq its.toArray n}
theorem rK{pins:Mw}{σ:St}{H:Hp}{s:My}{elt tg iter:Expr}{ifs:MM}{scope:Scope}{pos:Pos}{own:MF}{js:Mx}{ti:TT}{te:TE}{fp:MA}{it:Addr}{tn:Nat->Heap->Prop}{E:Mu}
  {RR:Value->Addr->Result->Shared->Prop} (hc:X.calm=true) (hk:bA scope X.env.scope) (hcap:(js.all λj=>scope.names.contains (X.N.getD j Str.empty,NameKind.free))=true)
  (hg:∀s H fp C,PG (X.blk (pQ own js X.N) s H scope fp C) tg g) (hi:∀s H fp C,Hu (X.blk (pQ own js X.N) s H scope fp C) ifs ti) (he:∀s H fp C,PE (X.blk (pQ own js X.N) s H scope fp C) elt te)
  (I:Inv X pins σ H s) (T:tK X.prog X.w X.K tg J fp it tn) (st:tn 0 s.heap) (hf:∀b∈fp,mW X pins H b)
  (hW:fN J g ti te (rT own.length js σ) H Q)
  (hRR:∀(D C:Addr) (s':My) (H':Hp) (acc:List V) (m:MB),Q acc H'->H' D=none->Inv X pins σ (aD H' D (.lst acc)) s'->s'.heap.Ns C m->aD H' D (.lst acc) C=none->C≠X.env.locals->X.s₀.heap.objs.size<=C ->
   (∀x c,X.env.cells.lookup x=some c->c≠C)->(∀p∈X.pn++pins,p.1≠C)->RR (.ref D) C (.ok .next) s') :
  wpAny (model X.prog X.w) X.A (newList []) (λacc s₃=>wpAny (model X.prog X.w) X.A (newFunctionEnv scope X.env.globals (eX X.env scope.names []) [] X.env.qual none .none (some X.env)) (λcenv s₄=>
   codeAny (model X.prog X.w) X.A (.compStart (.ListComp elt [⟨tg,iter,ifs,0⟩] scope pos) 0 (.ref it) acc {cenv with scope:=relabel scope X.env}) (RR acc cenv.locals) s₄) E s₃) E s:=by
 obtain⟨W,⟨m0,w0⟩,c0⟩:=hW;refine wpAny_newObj_type (fh ?_);dsimp only;generalize b4:s.heap.push {cls:=.type "list",dict:=none,data:=.seq ([]:List Value).toArray}=H2;generalize d1:pushCells (H2.push {cls:=.type "dict",data:=.dict #[]}) scope.names=h₁;have b1:∀b o,(H2.push {cls:=.type "dict",data:=.dict #[]}).get? b=some o->h₁.get? b=some o:=λb o e=>d1▸pushCells_keeps _ _ b o e;have c6:h₁.Ns H2.objs.size λ_=>none:=by
  have q:(H2.push {cls:=.type "dict",data:=.dict #[]}).Ns H2.objs.size λ_=>none:=Heap.Ns.new ..;exact q.at' λo e=>b1 _ o e
 have b2:∀x c,(x,c)∈cellsFrom (H2.objs.size+1) scope.names []->h₁.IsCell c none:=λx c e=>by
  have ok:=cellsFrom_ok scope.names (H2.push {cls:=.type "dict",data:=.dict #[]}) (H2.objs.size+1) [] ⟨λ_ _ hm=>(nomatch hm),List.Pairwise.nil⟩ (by rw[Heap.size_push];exact L1 _);rw[Heap.size_push,d1]at ok;exact(ok.empty x c e).1
 have hC:H2.objs.size=s.heap.objs.size+1:=by rw[<- b4,Heap.size_push]
 have b5:s.heap.objs.size≠H2.objs.size:=by rw[hC];exact LW (L' _)
 have L:s.heap.objs.size<=H2.objs.size:=by rw[hC];exact Nat.le_succ _
 have b8:∀b,b<s.heap.objs.size->b≠H2.objs.size/\b≠s.heap.objs.size:=λb l=>⟨by rw[hC];exact LW (Nat.lt_succ_of_lt l),LW l⟩;have c3:∀b o,s.heap.get? b=some o->h₁.get? b=some o:=λb o e=>b1 b o (LB _ (b4▸LB _ e));have d6:h₁.get? s.heap.objs.size=some (gm [] 0):=b1 _ _ (LB _ (b4▸LI _ rfl));have a0:∀b∈fp,∃o,s.heap.get? b=some o:=λb l=>let ⟨o,e,_⟩:=T.obj 0 _ st b l;⟨o,e⟩
 have c1:tn 0 h₁:=T.keep 0 _ _ st λb _ o e=>c3 b o e;generalize B:X.blk (pQ own js X.N) s H scope fp H2.objs.size=Xb;have I₁:Inv Xb [] (rT own.length js σ) H {s with heap:=h₁}:=B▸AC I hk L hf a0 rfl rfl c6 c3 b2 hcap;have eP:Xb.prog=X.prog:=by rw[<- B];rfl
 have ew:Xb.w=X.w:=by rw[<- B];rfl
 have eK:Xb.K=X.K:=by rw[<- B];rfl
 have eA:Xb.A=X.A:=by rw[<- B];rfl
 have ec:Xb.calm=true:=by rw[<- B];exact hc
 have eE:Xb.env=compEnvC scope (dM X.env scope H2.objs.size) H2.objs.size X.env:=by rw[<- B];rfl
 have ex:Xb.xe=λ_ _=>False:=by rw[<- B];rfl
 have es:Xb.s₀=s:=by rw[<- B];rfl
 have eh:Xb.H₀=H:=by rw[<- B];rfl
 have ef:Xb.fs=pz X.stack:=by rw[<- B];rfl
 have e1:Xb.ex=fp:=by rw[<- B];rfl
 have ep:Xb.pn=[]:=by rw[<- B];rfl
 have eL:Xb.env.locals=H2.objs.size:=by rw[eE];rfl
 have f0:H s.heap.objs.size=none:=I.hok.fresh (L1 _)
 -- D is no iterator's,no frame's
 have d7:∀b∈fp,b≠s.heap.objs.size:=λb l e=>by
  obtain⟨o,q⟩:=a0 b l;rw[e]at q;exact q0Q (L5 q) (L_ _)
 have e9:s.heap.objs.size∉Xb.fs:=λz=>by
  rw[ef]at z;rcases LR.mp (I.stkSub _ z) with q | q
  ·exact q0Q I.lt (by rw[<- q];exact L_ _)
  ·exact I.nofs (L1 _) q
 have a5:∀x c,Xb.env.cells.lookup x=some c->c≠s.heap.objs.size:=λx c e q=>by
  rcases I.blkL hk (C:=H2.objs.size) (x:=x) (c:=c) (by rw[eE]at e;exact e) with⟨_,z,_⟩ | z
  ·rw[q]at z
   exact q0Q L (Nat.not_le.mpr z)
  ·obtain⟨v,o,ho,_⟩:=I.cell x c z
   rw[q]at ho;exact q0Q (L5 ho) (L_ _)
 have R:∀{pl:Mw} {H':Hp},(∀b∈fp,H' b=none)->(∀p∈pl,p.1=s.heap.objs.size)->∀b∈fp,mW Xb pl H' b:=λhn S b l=>by
  refine⟨hn b l,?_,?_,.inl (by rw[e1];exact l),λx c e=>?_,λp c4=>?_⟩
  ·rw[eL];exact(b8 b (let ⟨o,q⟩:=a0 b l;L5 q)).1
  ·rw[ef];intro z
   rcases LR.mp (I.stkSub b z) with q | q
   ·exact(hf b l).2.1 q
   ·exact(hf b l).2.2.1 q
  ·rcases I.blkL hk (C:=H2.objs.size) (x:=x) (c:=c) (by rw[eE]at e;exact e) with⟨_,z,_⟩ | z
   ·intro q
    rw[q]at z;obtain⟨o,q2⟩:=a0 b l;exact q0Q (LV (L5 q2) L) (Nat.not_lt.mpr (q0P z))
   ·exact(hf b l).2.2.2.2.1 x c z
  ·rw[ep,Mo]at c4
   rw[S p c4];exact(d7 b l).symm
 have a6:∀s₃:Shared,s₃={s with heap:=h₁} ->
   codeAny (model X.prog X.w) X.A (.compLoop (.ListComp elt [⟨tg,iter,ifs,0⟩] scope pos) 0 (.ref it) (.ref s.heap.objs.size) (compEnvC scope (dM X.env scope H2.objs.size) H2.objs.size X.env))
    (RR (.ref s.heap.objs.size) H2.objs.size) s₃:=by
  rintro s₃ rfl;refine sr (λn s'=>∃(i:Nat) (acc:List V) (a:Mz) (k:Nat) (σ':St) (H':Hp),Inv Xb [] σ' H' s'/\tn i s'.heap/\(∀b∈fp,H' b=none)/\H' s.heap.objs.size=none/\s'.heap.get? s.heap.objs.size=some (gm a k)/\bc acc a/\W i n acc σ' H')
   ?_ m0 ⟨0,[],[],0,_,H,I₁,c1,λb l=>(hf b l).1,f0,d6,.nil,w0⟩
  rintro n s' ⟨i,acc,a,k,σ',H',I',st',e0,M,e4,Z,w'⟩;obtain⟨c9,tt⟩:=c0 i n acc σ' H' w'
  -- the gathered list,pinned
  have Ip:Inv Xb [(s.heap.objs.size,gm a k)] σ' H' s':=I'.pins_of λp S=>by
   have e:p=(s.heap.objs.size,gm a k):=by simpa using S
   subst e;exact⟨e4,M,by rw[eL];exact b5,e9,λv z=>by cases z⟩
  have b0:∀p∈[(s.heap.objs.size,gm a k)],p.1=s.heap.objs.size:=λp S=>by
   have e:p=(s.heap.objs.size,gm a k):=by simpa using S
   rw[e]
  rcases tt with⟨c2,q⟩ | ⟨go,N,hN,step⟩
  ·have d:=T.done Xb eP ew eK ec i _ s' σ' H' (λ_ _=>False) Ip (R e0 b0) st' c2
   rw[eA]at d;refine q0W d (λr s1 hr=>?_) λ_ _ z=>z;obtain⟨rfl,I1⟩:=hr;have e3:s1.heap.get? s.heap.objs.size=some (gm a k):=(I1.pin _ (q0C _ (LD.mpr rfl))).1;obtain⟨mC,b3,_⟩:=I1.loc;rw[eL]at b3;obtain⟨oC,_,_,hoC,_⟩:=id b3;have f1:H' H2.objs.size=none:=by have:=I1.free;rwa [eL]at this
   have ub:Un (pz X.stack) fp H H' s.heap s1.heap:=by have:=I1.base;rwa [ef,e1,eh,es]at this
   refine hRR _ _ s1 H' acc mC q M ?_ b3 ?_ ?_ ?_ ?_ ?_
   ·-- cV outside
    refine I.call' (ch:=fp) (by have:=I1.os;rwa [es]at this) ⟨λb o e n1 h1 h2=>ub.keep b o e n1 h1 h2,λb o e n1 h1 h2=>ub.slot b o e n1 h1 h2,λb o e n1 h1=>?_,ub.there,λb xs e=>?_,λb o u e=>?_,λb ps e=>?_⟩ ?_ (by have:=I1.bare;exact this) λb l=>?_
    ·rw[ar (λz=>by rw[z]at e;exact q0Q (L5 e) (L_ _))]
     exact ub.free b o e n1 h1
    ·rw[ar (aA (ub.tups b xs e) M)]
     exact ub.tups b xs e
    ·rw[ar (aA (ub.frzs b o u e) M)]
     exact ub.frzs b o u e
    ·obtain⟨more,z⟩:=ub.tbls b ps e
     exact⟨more,by rw[ar (aA z M)];exact z⟩
    ·intro b u e
     have a7:=I1.hok;rw[eP,ew]at a7
     by_cases l:b=s.heap.objs.size
     ·subst l
      rw[ae]at e;cases e;exact⟨q0P c9,a,k,Z,e3⟩
     ·rw[ar l]at e
      refine(a7 b u e).stay (λc v _ z=>z) (λc z=>?_) λc xs z=>?_
      ·rw[ar (aA z M)];exact z
      ·rw[ar (aA z M)];exact z
    ·exact⟨(hf b l).2.2.2.1,(hf b l).2.1,(hf b l).2.2.2.2.1,(hf b l).2.2.2.2.2⟩
   ·rw[ar b5.symm];exact f1
   ·intro z;have:=I.lt;rw[<- z]at this;exact q0Q this (Nat.not_lt.mpr L)
   ·exact L9 I.sz L
   ·intro x c e z
    obtain⟨v,o,ho,_⟩:=I.cell x c e;rw[z]at ho;exact q0Q (L5 ho) (Nat.not_lt.mpr L)
   ·intro p S z
    have:=(I.pin p S).1;rw[z]at this;exact q0Q (L5 this) (Nat.not_lt.mpr L)
  ·have d:=T.item Xb eP ew eK ec i _ s' σ' H' (λ_ _=>False) Ip (R e0 b0) st' go
   rw[eA]at d;refine q0W d (λr s1 hr=>?_) λ_ _ z=>z;obtain⟨u,rfl,d2⟩:=hr;refine q0W d2 (λ_ s2 e8=>?_) λ_ _ z=>z;obtain⟨x,e2,I2,r2,y2,a9,f2⟩:=e8;have f3:=I2.pinned (R f2 b0) (T.obj _ _ a9);have G:=B▸hg s H fp H2.objs.size;have d3:=G _ s2 σ' e2 x u _ f3 r2 (step x e2 y2);rw[eP,ew,eA,ex,eE]at d3;refine q0W d3 (λ_ s3 e7=>?_) λ_ _ z=>z;obtain⟨σ3,H3,I3,q3⟩:=e7;have Gi:=B▸hi s H fp H2.objs.size;have d4:=Gi _ s3 σ3 H3 _ I3 q3;rw[eP,ew,eA,ex,eE]at d4;refine q0W d4 (λb s4 e6=>?_) λ_ _ z=>z;obtain⟨H4,I4,q4⟩:=e6;have U:∀{O:My} {Y:Hp} {σ5:St},Inv Xb ([(s.heap.objs.size,gm a k)]++pS fp s2.heap) σ5 Y O->O.heap.get? s.heap.objs.size=some (gm a k)/\Y s.heap.objs.size=none/\tn (i+1) O.heap/\∀b∈fp,Y b=none:=fun{O Y σ5} I5=>by
    have pD:=I5.pin (s.heap.objs.size,gm a k) (q0C _ (q0D _ (LD.mpr rfl)));refine⟨pD.1,pD.2.1,T.keep _ _ _ a9 λb l o e=>(I5.pin (b,o) (q0C _ (q0C _ (gM l e)))).1,λb l=>?_⟩;obtain⟨o,e,_⟩:=T.obj _ _ a9 b l;exact(I5.pin (b,o) (q0C _ (q0C _ (gM l e)))).2.1
   have bare:∀{O:My} {Y:Hp} {σ5:St} {pl:Mw},Inv Xb pl σ5 Y O->Inv Xb [] σ5 Y O:=λI5=>I5.pins_of λp S=>nomatch S;cases b with
   |false=>
    obtain⟨m',hm,w5⟩:=hN _ _ _ q4;obtain⟨a1,a2,a3,a4⟩:=U I4;exact⟨m',hm,i+1,acc,a,k,σ3,H4,bare I4,a3,a4,a2,a1,Z,w5⟩
   |true=>
    have Ge:=B▸he s H fp H2.objs.size;have d5:=Ge _ s4 σ3 H4 _ I4 q4;rw[eP,ew,eA,ex,eE]at d5;refine q0W d5 (λy O e5=>?_) λ_ _ z=>z;obtain⟨v,Y,I5,r5,q5⟩:=e5;obtain⟨m',hm,w5⟩:=hN _ _ _ q5;obtain⟨a1,a2,a3,a4⟩:=U I5;have hl:=Z.length;refine call_meets F.slot_list_append ⟨_,a1,rfl⟩ F.entry_list_append (F.args_list_append_2 _ _) (PySem.list_append s.heap.objs.size a.toArray k y (by rw[LJ];omega)) ⟨a1,?_⟩;have qu:=PySem.IsL.update a1 (λa8=>a8.push y);have qe:(a.toArray.push y)=(a++[y]).toArray:=by simp
    rw[qe]at qu;have I6:Inv Xb [] σ3 Y {O with heap:=O.heap.update s.heap.objs.size (Obj.mapSeq λa8=>a8.push y),toks:=O.toks}:=
     (bare I5).turned (λb o l e=>(LH O.heap _ (Ne.symm l)).trans e) a2 (by rw[eL];exact b5) (.inr (by rw[es];exact L1 _)) a5 (by rw[ep];intro p S;exact nomatch S)
    refine⟨m',hm,i+1,acc++[v],a++[y],_,σ3,Y,I6,T.keep _ _ _ a3 (λb l o e=>(LH O.heap _ (d7 b l).symm).trans e),a4,a2,qu,Z.append (.cons r5 .nil),w5⟩
 refine codeAny_compStart_list (a6 _ rfl) ?_;exact T.self _ 0 _ _ _ c1 (a6 _ rfl)
theorem bS{elt tg iter:Expr}{ifs:MM}{scope:Scope}{pos:Pos}(own:MF)(js:Mx){wi:TI}{g:TG}{ti:TT}{te:TE}(hc:X.calm=true)(hk:bA scope X.env.scope)
  (hcap:(js.all λj=>scope.names.contains (X.N.getD j Str.empty,NameKind.free))=true) (hw:PI X tg iter wi)
  (hg:∀s H fp C,PG (X.blk (pQ own js X.N) s H scope fp C) tg g) (hi:∀s H fp C,Hu (X.blk (pQ own js X.N) s H scope fp C) ifs ti) (he:∀s H fp C,PE (X.blk (pQ own js X.N) s H scope fp C) elt te)
  (hs:autoParam (∀x,foldedSetIterable iter X.env x=pure x) zz4._auto_1):PE X (.ListComp elt [⟨tg,iter,ifs,0⟩] scope pos) (yU own.length js wi g ti te):=by
 intro c s σ H Q I h;rw[eval_ListComp];refine wpAny_comprehension_free (use:=none) rfl hs (iK (I.capFree hk)) hk.kind hk.loc (bY (hw c s σ H _ I h) λv s1 h1=>bY h1 λitv s2 h2=>?_);obtain⟨it,fp,tn,J,H2,rfl,S,T,d,R,M⟩:=h2;refine rK (RR:=λa C=>compPost (model X.prog X.w) X.A X.xe none (EP X c σ Q) a C) (Q:=λa y=>∀l,y l=none->Q (.ref l) (aD y l (.lst a))) hc hk hcap hg hi he S T d R M ?_;intro D C B y a m q O U G u r i p n;refine⟨m,G,λh' z=>?_⟩;exact⟨.ref D,_,U.turned (t':=B.toks) (λb o L e=>(z.2 b L).trans e) u r (.inr i) p n,rfl,q D O⟩
theorem gO{i:Nat}{x:Str}{elt tg iter:Expr}{ifs:MM}{scope:Scope}{pos spos:Pos}{px:Pos}(own:MF)(js:Mx){wi:TI}{g:TG}{ti:TT}{te:TE}(hN:X.N.Nodup)(hxi:X.N[i]?=some x)(hx:Loc X.env.scope x)
  (hsw:swapsWith (.ListComp elt [⟨tg,iter,ifs,0⟩] scope pos) (some (.Name x px)) spos.line X.env=pure true)
  (hc:X.calm=true) (hk:bA scope X.env.scope)
  (hcap:(js.all λj=>scope.names.contains (X.N.getD j Str.empty,NameKind.free))=true) (hw:PI X tg iter wi)
  (hg:∀s H fp C,PG (X.blk (pQ own js X.N) s H scope fp C) tg g) (hi:∀s H fp C,Hu (X.blk (pQ own js X.N) s H scope fp C) ifs ti) (he:∀s H fp C,PE (X.blk (pQ own js X.N) s H scope fp C) elt te)
  (hs:autoParam (∀x,foldedSetIterable iter X.env x=pure x) zz4._auto_1) (hf:autoParam (X.fn x=true\/X.env.scope.names.lookup x=some .local) zz3._auto_1) :
  PS X (.Assign [.Name x px] (.ListComp elt [⟨tg,iter,ifs,0⟩] scope pos) spos) (wX (yU own.length js wi g ti te) (iY i)):=by
 intro c s σ H Dn I h;rw[exec_Assign_Name_used _ _ _ _ hsw];refine q04 (wpAny_standAt (q04 ?_));show wpAny _ _ (do let _ <- comprehension (.ListComp elt [⟨tg,iter,ifs,0⟩] scope pos) scope X.env _ (newList []) false (eval iter X.env) (some (assign (.Name x px) X.env))) _ _ s;refine q04 (q0W (wpAny_comprehension_free (use:=some (assign (.Name x px) X.env)) (Q:=λ_ n=>SP X c Dn .next n) (E:=X.xe) rfl hs (iK (I.capFree hk)) hk.kind hk.loc ?_) (λ_ n q=>q05 (q05 q)) λ_ _ z=>z);refine(bY (hw c s σ H _ I h) λv s1 h1=>bY h1 λitv s2 h2=>?_);obtain⟨it,fp,tn,J,H2,rfl,I2,T,u,f2,hW⟩:=h2;refine rK (RR:=λd C=>compPost (model X.prog X.w) X.A X.xe (some (assign (.Name x px) X.env)) (λ_ n=>SP X c Dn .next n) d C) (Q:=λd U=>∀l,U l=none->iY i (.ref l) σ (aD U l (.lst d)) Dn.nx) hc hk hcap hg hi he I2 T u f2 hW ?_;intro D C n U d m q hD I' Y R r L p M;show wpAny _ _ (assign (.Name x px) X.env (.ref D)) _ _ n;refine wpAny_assign_Name (rV I' hN hxi hx (v:=.ref D) rfl (λG S B=>?_) hf);obtain⟨a,B,ha⟩:=B;have O:C≠a:=by
  rcases ha with z | z
  ·rw[z];exact r
  ·exact(p x a z).symm
 refine⟨m,Y.sameBut B O,λh' y=>?_⟩;exact⟨_,_,S.turned (t':=G.toks) (λb o Z e=>(y.2 b Z).trans e) R r (.inr L) p M,q D hD⟩
end
section
variable {K:Mv}{g:TG}{ti:TT}{te:TE}{σ:St}{H:Hp}{Q:List V->Hp->Prop}
theorem jb{J:It}{n:Nat}(Pv:Nat->List V->St->Hp->Prop)(h0:Pv 0 [] σ H)(hz:∀i acc σ H,Pv i acc σ H->acc.length<sizeLine)(hi:∀i acc σ H,Pv i acc σ H->i<=n)
  (stop:∀acc σ H,Pv n acc σ H->J.stop n H) (go:∀i acc σ H,i<n->Pv i acc σ H->J.go i H)
  (hs:∀i x acc σ H H2,i<n->Pv i acc σ H->J.yld i H x H2->g x σ H2 λσ2 H3=>ti σ2 H3 λb H4=>if b=true then te σ2 H4 λv H5=>Pv (i+1) (acc++[v]) σ2 H5 else Pv (i+1) acc σ2 H4)
  (he:∀acc σ H,Pv n acc σ H->Q acc H) :
  fN J g ti te σ H Q:=by
 refine⟨λi m acc σ H=>Pv i acc σ H/\m=n+1-i,⟨n+1,h0,rfl⟩,?_⟩;rintro i m acc σ' a ⟨w,rfl⟩;refine⟨hz i acc σ' a w,?_⟩;have hle:=hi i acc σ' a w;rcases Nat.lt_or_ge i n with c | hge
 ·refine .inr ⟨go i acc σ' a c w,λacc' σ2 H2=>Pv (i+1) acc' σ2 H2,λacc' σ2 H2 w2=>⟨n+1-(i+1),?_,w2,rfl⟩,λx H2 y=>hs i x acc σ' a H2 c w y⟩
  have:=hi (i+1) acc' σ2 H2 w2;omega
 ·have e:i=n:=by omega
  subst e;exact .inl ⟨stop acc σ' a w,he acc σ' a w⟩
theorem dH{xs:List V}(Pv:Nat->List V->St->Hp->Prop)(h0:Pv 0 [] σ H)(hz:∀i acc σ H,Pv i acc σ H->acc.length<sizeLine)(hi:∀i acc σ H,Pv i acc σ H->i<=xs.length)
  (hl:∀i acc σ H,Pv i acc σ H->aI K H a xs)
  (hs:∀i x acc σ H,xs[i]?=some x->Pv i acc σ H->g x σ H λσ2 H3=>ti σ2 H3 λb H4=>if b=true then te σ2 H4 λv H5=>Pv (i+1) (acc++[v]) σ2 H5 else Pv (i+1) acc σ2 H4)
  (he:∀acc σ H,Pv xs.length acc σ H->Q acc H):fN (zw K a) g ti te σ H Q:=by
 exact jb (J:=zw K a) (g:=g) (ti:=ti) (te:=te) (Q:=Q) (n:=xs.length) Pv h0 hz hi (λacc σ H w=>⟨xs,hl _ _ _ _ w,L1 _⟩)
  (λi acc σ H hlt w=>⟨xs,xs[i],hl _ _ _ _ w,Lz hlt⟩) (λi x acc σ H H2 hlt w y=>by obtain⟨rfl,c⟩:=y;exact hs i x acc σ H2 (c xs (hl _ _ _ _ w)) w) he
theorem j3{lo:Int}{n:Nat}(Pv:Nat->List V->St->Hp->Prop)(h0:Pv 0 [] σ H)(hz:∀i acc σ H,Pv i acc σ H->acc.length<sizeLine)(hi:∀i acc σ H,Pv i acc σ H->i<=n)
  (hs:∀i acc σ H,i<n->Pv i acc σ H->g (.int (lo+i)) σ H λσ2 H3=>ti σ2 H3 λb H4=>if b=true then te σ2 H4 λv H5=>Pv (i+1) (acc++[v]) σ2 H5 else Pv (i+1) acc σ2 H4)
  (he:∀acc σ H,Pv n acc σ H->Q acc H):fN (Ay lo n) g ti te σ H Q:=by
 exact jb (J:=Ay lo n) (g:=g) (ti:=ti) (te:=te) (Q:=Q) (n:=n) Pv h0 hz hi (λacc σ H w=>L1 _) (λi acc σ H hlt w=>hlt) (λi x acc σ H H2 hlt w y=>by obtain⟨rfl,rfl⟩:=y;exact hs i acc σ H2 hlt w) he
end
structure dk(P:ME)(w:MJ)(K:Mv)(mg:MB)(base:Heap)(CX:iR)(k:Nat)(x:Str)(ps:MF)(sp:Sp):Prop where
 ex:∃(f:Addr) (fd:MD),aY P w K mg base CX k f fd ps sp/\mg x=some (.ref f)/\PySem.W.keepIn K (.ref f)=true/\dW K fd ps []
structure NB(mg:MB):Prop where
 len:mg "len"=none
 range:mg "range"=none
 list:mg "list"=none
 tuple:mg "tuple"=none
 isinstance:mg "isinstance"=none
 int:mg "int"=none
 bool:mg "bool"=none
 str:mg "str"=none
 reversed:mg "reversed"=none
 all:mg "all"=none
 enumerate:mg "enumerate"=none
 zip:mg "zip"=none
 sorted:mg "sorted"=none
 set:mg "set"=none
 dict:mg "dict"=none
 min:mg "min"=none
 max:mg "max"=none
 sum:mg "sum"=none
 ValueError:mg "ValueError"=none
section
variable {X:Cx}{CX:iR}{k:Nat}{x:Str}{ps:MF}{sp:Sp}{E:XK}{p pos:Pos}{e:Expr}{es:MM}{t:TA}
theorem aH(C:dk X.prog X.w X.K X.mg X.base CX k x ps sp)(hr:cT k X.A)(hg:Gl X x)(hx:c5 CX X E)(ha:PA X (e::es) t)(hdb:autoParam ((x==("__debug__":Str))=false) zz2._auto_1)
  (hst:autoParam (starEach (e::es) X.env=(false,eval e X.env)::starEach es X.env) zz0._auto_1) (hpl:autoParam ((backTo pos (starEach es X.env)).any (·.1)=false) zz0._auto_1):PE X (.Call (.Name x p) (e::es) [] pos) (mH sp [] E t):=by
 obtain⟨f,fd,F,a,b,c⟩:=C.ex;exact Ed F hr hg a b c .nil hx ha hdb hst hpl
end
section
variable {X:Cx}{tg:Expr}
def Bu(_ j:Int):Prop:=0<j/\j<18446744073709551616
theorem br:bu X (binaryOp .FloorDiv) (rI Bu λi j=>.int (i/j)):=IN λi j _ _ _ _ _ hc q=>by
 have h1:(0:Int)<j:=hc.1;have h2:j<18446744073709551616:=hc.2;refine floordiv_int ⋯ (by rw[Int.fdiv_eq_ediv_of_nonneg i ⋯];exact q) (.inl (PyProof.noPylong_of_log2 ?_));have h64:j.natAbs.log2<64:=(Nat.log2_lt ⋯).mpr ⋯;omega
theorem fG:∀{ys:MF} {us:Mz},bc (ys.map V.str) us->StrsAre us ys
 | [],_,.nil=>.nil
 |y::ys,_,.cons r t=>by
  obtain⟨tk,rfl⟩:=r;exact .cons y tk (fG t)
def y4(K:Mv):V->List V->Hp->VK->Prop:=λx xs H Q=>∃z p ys,x=.str z/\xs=[.ref p]/\(aI K H p (ys.map V.str)\/cK K H p (ys.map V.str))/\(ys.map (·.length)).sum+ys.length*z.length<=16777216/\Q (.str (Txt.join z ys)) H
theorem D6:Ix X "str.join" (y4 X.K):=by
 intro pins s σ H x xs v us Q I rx rv h;obtain⟨z,p,ys,rfl,rfl,hs,d,q⟩:=h;obtain⟨t,rfl⟩:=rx;obtain⟨u,rfl,e⟩:=rv.one;cases e;rcases hs with hs | hs
 ·obtain⟨c,r,b,_⟩:=I.list hs
  exact join_list b.isList (by simpa using fG r) d λa k=>⟨.str _,H,I.tok k,⟨a,rfl⟩,q⟩
 ·obtain⟨c,r,b,_⟩:=I.tuple hs
  exact join_tuple b (by simpa using fG r) d λa k=>⟨.str _,H,I.tok k,⟨a,rfl⟩,q⟩
def GL(x:Str):It:=⟨λi _=>i<x.cps.size,λi H v H'=>H'=H/\∃c,x.cps[i]?=some c/\v=.str ⟨#[c]⟩,λi _=>x.cps.size<=i⟩
theorem Cu{K:Mv}(x:Str)(t:Tok)(it:Addr):tK P w K tg (GL x) [it] it (λi h=>h.IsStrIter it (strIterType x) x t i) where
 mem:=by simp
 obj:=λi h g b l=>by
  have e:b=it:=by simpa using l
  subst e;obtain⟨o,e,c,d⟩:=g;exact⟨o,e,λv z=>by rw[d]at z;cases z⟩
 keep:=λi h m g k=>by
  obtain⟨o,e,c,d⟩:=g;exact⟨o,k it (by simp) o e,c,d⟩
 item:=by
  intro X L D M J i j s σ H E I hf g hg;subst L D M;obtain⟨C,B,T,y,r,q⟩:=hf it (by simp);have G:i<x.cps.size:=hg;have p:x.cps[i]?=some x.cps[i]:=Array.getElem?_eq_getElem G;have dL:∀m,m.IsStrIter it (strIterType x) x t (i+1)->Heap.SameBut it s.heap m->∃u,(some (Value.str ⟨#[x.cps[i]]⟩ s.toks))=some u /\
    wpAny (model X.prog X.w) X.A (letOwnedTupleGo tg (.ref it) u) (λ_ R=>∃v H',Inv X j σ H' R/\bx v u/\(GL x).yld i H v H'/\R.heap.IsStrIter it (strIterType x) x t (i+1)/\∀b∈[it],H' b=none) E {s with heap:=m,toks:=s.toks+1}:=λm st' S=>by
   have U:Inv X j σ H {s with heap:=m,toks:=s.toks+1}:=I.turned (λb o l e=>(S.2 b l).trans e) C B y r q;obtain⟨o,e,c,d⟩:=id st';refine⟨_,rfl,uQ (s:={s with heap:=m,toks:=s.toks+1}) e c d ?_ ⟨.str ⟨#[x.cps[i]]⟩,H,U,⟨_,rfl⟩,⟨rfl,_,p,rfl⟩,st',λb l=>(hf b l).1⟩⟩;unfold strIterType
   split<;>decide
  cases n:x.cps.all (· < 128) with
  |true=>
   have a:strIterType x="str_ascii_iterator":=by unfold strIterType;rw[n];rfl
   rw[a]at g dL ⊢;exact wpAny_pyNext_ascii_item g p dL
  |false=>
   have a:strIterType x="str_iterator":=by unfold strIterType;rw[n];rfl
   rw[a]at g dL ⊢;exact wpAny_pyNext_wide_item g p dL
 done:=by
  intro X L D M J i j s σ H E I hf g hg;subst L D M;obtain⟨C,B,T,y,r,q⟩:=hf it (by simp);have G:x.cps.size<=i:=hg;have p:x.cps[i]?=none:=Array.getElem?_eq_none G;cases n:x.cps.all (· < 128) with
  |true=>
   have a:strIterType x="str_ascii_iterator":=by unfold strIterType;rw[n];rfl
   rw[a]at g;exact wpAny_pyNext_ascii_end (I.ok.hd J) g p λm O=>⟨rfl,I.turned (t':=s.toks) (λb o l e=>O b o l e) C B y r q⟩
  |false=>
   have a:strIterType x="str_iterator":=by unfold strIterType;rw[n];rfl
   rw[a]at g;exact wpAny_pyNext_wide_end (I.ok.hd J) g p λm O=>⟨rfl,I.turned (t':=s.toks) (λb o l e=>O b o l e) C B y r q⟩
 self:=λA i s Q E g h=>by
  cases n:x.cps.all (· < 128) with
  |true=>
   have a:strIterType x="str_ascii_iterator":=by unfold strIterType;rw[n];rfl
   rw[a]at g;exact wpAny_pyIter_striter_ascii g h
  |false=>
   have a:strIterType x="str_iterator":=by unfold strIterType;rw[n];rfl
   rw[a]at g;exact wpAny_pyIter_striter_wide g h
def Fl(tl:TE):TI:=λσ H R=>tl σ H λv H1=>∃x,v=.str x/\R (GL x) H1
theorem B4{tl:TE}(hl:PE X l tl):PI X tg l (Fl tl):=by
 intro a s σ H R I h;refine bY (hl a s σ H _ I h) λv c ⟨x,H1,d,g,i⟩=>?_;obtain⟨x,rfl,q⟩:=i;obtain⟨t,rfl⟩:=g;refine wpAny_pyIter_strU ?_;refine⟨c.heap.objs.size,[c.heap.objs.size],_,_,H1,rfl,d.kept (t':=c.toks) λb o e=>LB _ e,Cu x t _,⟨_,LI _ rfl,rfl,rfl⟩,λb j=>?_,q⟩;have e:b=c.heap.objs.size:=by simpa using j
 subst e;exact d.fpOk (L1 _) (d.hok.fresh (L1 _))
def Hw(K:Mv)(a:Addr)(n:Nat):It:=
 ⟨λi H=>∃xs x,aI K H a xs/\i<n/\xs[n-1-i]?=some x,λi H x H'=>H'=H/\∀xs,aI K H a xs->xs[n-1-i]?=some x,λi _=>i=n⟩
theorem BS{K:Mv}(a it:Addr)(n:Nat):tK P w K tg (Hw K a n) [it] it (λi h=>h.IsRevIter it a ((n:Int)-1-(i:Int))) where
 mem:=by simp
 obj:=λi h g b l=>by
  have e:b=it:=by simpa using l
  subst e;obtain⟨o,e,c,d⟩:=g;exact⟨o,e,λv z=>by rw[d]at z;cases z⟩
 keep:=λi h q g k=>g.at λo e=>k it (by simp) o e
 item:=by
  intro X y r B S i j s σ H E I hf g hg;subst y r B;obtain⟨xs,x,O,R,M⟩:=hg;obtain⟨its,U,p,hz⟩:=I.list O;obtain⟨u,hu,Y⟩:=U.get M;obtain⟨L,J,f2,G,D,C⟩:=hf it (by simp);have e:(n:Int)-1-(i:Int)=((n-1-i:Nat):Int):=by omega
  have m:=g;rw[e]at m;refine wpAny_pyNext_rev_item m p.isList (x:=u) (by simpa using hu) λq st' T=>?_;have e2:((n-1-i:Nat):Int)-1=(n:Int)-1-((i+1:Nat):Int):=by omega
  rw[e2]at st';have I1:Inv X j σ H {s with heap:=q }:=I.turned (t':=s.toks) (λb o l e=>(T.2 b l).trans e) L J G D C;obtain⟨o,e,c,d⟩:=id st';exact⟨u,rfl,uQ (s:={s with heap:=q }) e c d nofun ⟨x,H,I1,Y,⟨rfl,λys Z=>by rw[I.list_inj Z O];exact M⟩,st',λb l=>(hf b l).1⟩⟩
 done:=by
  intro X y r B S i j s σ H E I hf g hg;subst y r B;obtain⟨L,J,f2,G,D,C⟩:=hf it (by simp);have R:i=n:=hg;subst R;have e:(i:Int)-1-(i:Int) = -1:=by omega
  rw[e]at g;exact wpAny_pyNext_rev_end (I.ok.hd S) g λq eb=>⟨rfl,I.turned (t':=s.toks) (λb o l e=>eb b o l e) L J G D C⟩
 self:=λ_ _ _ _ _ g h=>wpAny_pyIter_revIter g h
def F1(K:Mv)(ta:TA):TI:=λσ H R=>ta σ H λvs H1=>∃a xs,vs=[.ref a]/\aI K H1 a xs/\R (Hw K a xs.length) H1
theorem CA{a:Expr}{ta:TA}{p pos:Pos}(hg:Gl X "reversed")(hm:X.mg "reversed"=none)(ha:PA X [a] ta)(hs:autoParam (starEach [a] X.env=[(false,eval a X.env)]) zz0._auto_1):PI X tg (.Call (.Name "reversed" p) [a] [] pos) (F1 X.K ta):=by
 intro d s σ H R I h;refine Call_ (eR I hg hm boot_reversed (PyProof.Rows.callWith_type1 (bY (ha pos d s σ H _ I h) λus c ⟨vs,H1,j,w,x⟩=>?_) hs rfl));obtain⟨l,g,rfl,z,q⟩:=x;obtain⟨u,rfl,v⟩:=w.one;cases v;obtain⟨m,r,y,hz⟩:=j.list z;have i:=r.length;refine call_reversed_list y.isList ?_;have C:m.toArray.size=g.length:=by rw[LJ,i]
 rw[C];have D:Inv X d σ H1 {c with heap:=c.heap.push (revObj l ((g.length:Int)-1))}:=j.kept (t':=c.toks) λb o e=>LB _ e;have n:(c.heap.push (revObj l ((g.length:Int)-1))).IsRevIter c.heap.objs.size l ((g.length:Int)-1-((0:Nat):Int)):=⟨_,LI _ rfl,rfl,by simp[revObj]⟩;refine wpAny_pyIter_revIter n ?_;refine⟨c.heap.objs.size,[c.heap.objs.size],_,_,H1,rfl,D,BS l _ g.length,n,λb B=>?_,q⟩;have e:b=c.heap.objs.size:=by simpa using B
 subst e;exact j.fpOk (L1 _) (j.hok.fresh (L1 _))
def Fr:V->Option Int->Option Int->Hp->VK->Prop:=λx lo hi H Q=>∃z,x=.str z/\z.length<=sizeLine/\Q (.str (Txt.slice z lo hi)) H
theorem md:GM X Fr:=by
 intro a s σ H x v vl vu lo hi sl Q I rx hs pl pu h;obtain⟨z,rfl,b,q⟩:=h;obtain⟨t,rfl⟩:=rx;have dL:∀c k,EP X a σ Q (.str (Txt.slice z lo hi) c) {s with toks:=k}:=λc k=>⟨.str _,H,I.tok k,⟨c,rfl⟩,q⟩;refine⟨"str",_,F.slot_str_getitem.lookup,typeIs_str _ _ _,?_⟩;cases pl with
 |none=>
  cases pu with
  |none=>exact wpAny_getItem_str_slice (l:=none) (u:=none) (st:=none) hs rfl (post_val_or_str ⟨L9 (Txt.slice_le z _ _) b,dL⟩)
  |int j uj=>exact wpAny_getItem_str_slice (l:=none) (u:=some (j,uj)) (st:=none) hs rfl (post_val_or_str ⟨L9 (Txt.slice_le z _ _) b,dL⟩)
 |int i ui=>
  cases pu with
  |none=>exact wpAny_getItem_str_slice (l:=some (i,ui)) (u:=none) (st:=none) hs rfl (post_val_or_str ⟨L9 (Txt.slice_le z _ _) b,dL⟩)
  |int j uj=>exact wpAny_getItem_str_slice (l:=some (i,ui)) (u:=some (j,uj)) (st:=none) hs rfl (post_val_or_str ⟨L9 (Txt.slice_le z _ _) b,dL⟩)
def IM(sep:Str)(ta:TA):TE:=λσ H Q=>ta σ H λvs H1=>∃x,vs=[.str x]/\x.length<=1000/\sep.length<=1000/\Q (.str (Txt.join sep (x.cps.toList.reverse.map λc=>(⟨#[c]⟩:Str)))) H1
theorem pO{e:Expr}{ta:TA}{sep:Str}{j:Nat}{ap p1 p2 cpos:Pos}(hc:X.calm=true)(hg:Gl X "reversed")(hm:X.mg "reversed"=none)(ha:PA X [e] ta)
  (hfew:autoParam (((backTo cpos (starEach [.Call (.Name "reversed" p1) [e] [] p2] X.env)).all (λx=>!x.1)&&(backToKw cpos (keywordEach [] X.env)).all (λx=>x.1.isSome)
   && decide ([Expr.Call (.Name "reversed" p1) [e] [] p2].length+([]:List Keyword).length+(if([]:List Keyword).isEmpty then 0 else 1)<30))=true) zz0._auto_1)
  (hline:autoParam ((ap.endLine==cpos.line)=true) zz0._auto_1) (hs:autoParam (starEach [e] X.env=[(false,eval e X.env)]) zz0._auto_1) :
  PE X (.Call (.Attribute (.Constant (.str sep) j p0) "join" ap) [.Call (.Name "reversed" p1) [e] [] p2] [] cpos) (IM sep ta):=by
 intro c s σ H Q I h;refine wpAny_Call_method_late rfl hfew hline rfl (bY (kb (X:=X) c s σ H (λv H1=>v=.str sep/\H1=H) I ⟨rfl,rfl⟩) λv l ⟨x,H1,n,y,D⟩=>?_);obtain⟨rfl,rfl⟩:=D;obtain⟨t0,rfl⟩:=y;refine⟨"str",_,F.plainAttrs_str,F.slot_str_join,F.type_str_join,typeIs_str _ _ _,(λa z=>nomatch z),?_⟩;refine Calls.callWith_builtin rfl (Calls.evalArgs_plain ?_);show wpAny _ _ (spliced ((false,eval (.Call (.Name "reversed" p1) [e] [] p2) X.env)::[])) _ _ l;refine Calls.spliced_cons ?_;refine Call_ (eR n hg hm boot_reversed (PyProof.Rows.callWith_type1 (bY (ha p2 c l σ H1 _ n h) λus d ⟨vs,H2,i,w,B⟩=>?_) hs rfl));obtain⟨x,rfl,C,g,q⟩:=B;obtain⟨u,rfl,r⟩:=w.one;obtain⟨t,rfl⟩:=r;have hsl:sizeLine=16777216:=q0V;refine kL ⋯ (Calls.spliced_nil ?_);have m:Inv X c σ H2 {d with heap:=d.heap.push (xx x t ((x.length:Int)-1)),toks:=d.toks+1+1}:=i.kept λb o e=>LB _ e;have J:=i.fpOk (b:=d.heap.objs.size) (H':=H2) (L1 _) (i.hok.fresh (L1 _));obtain⟨S,R,f2,O,M,L⟩:=J;refine CU (m.ok.hd hc) (I:=d.heap.objs.size) (x:=x) (t:=t) ⟨_,LI _ rfl,rfl,rfl⟩ C g λp t' k keep U Y T=>?_;obtain⟨h',g',d',k',o'⟩:=p;cases U;cases Y;cases T;exact⟨.str _,H2,m.turned (t':=k) (λb o G e=>keep b o G e) S R O M L,⟨t',rfl⟩,q⟩
def D8:V->Value
 | .ty n=>.type n
 | .ref a=>.ref a
 |_=>.none
def ux:V->Bool
 | .ty _=>true
 | .ref _=>true
 |_=>false
theorem D7(r:bx c u)(h:ux c=true):u=D8 c:=by
 cases c with
 |ty n=>exact r
 |ref a=>exact r
 |_=>cases h
def EL(K:Mv):List V->Hp->VK->Prop:=λxs H Q=>∃x c t b,xs=[x,c]/\ux c=true/\jw K H x t/\PySem.W.kitOne K t (D8 c)=some b/\Q (.bl b) H
theorem dB:dZ X (.builtin "isinstance") (EL X.K):=by
 intro pins s σ H xs us Q I r h;obtain⟨x,c,t,b,rfl,i,ty,e,q⟩:=h;obtain⟨u,v,rfl,g,d⟩:=r.two;rw[D7 d i];exact AZ I g ty e λa=>⟨.bl b,H,I.tok a,rfl,q⟩
theorem BA(K:Mv)(n:String):PySem.W.kitOne K (.type n) (.type n)=some true:=by
 unfold PySem.W.kitOne;rw[q07 (beq_self_eq_true _)]
inductive Dt where
 |non | bl (b:Bool) | int (i:Int) | str (x:Str) | lst (ds:List Dt) | tup (ds:List Dt)
mutual
def nQ(K:Mv)(H:Hp):Dt->V->Prop
 | .non,v=>v=.non
 | .bl b,v=>v=.bl b
 | .int i,v=>v=.int i
 | .str x,v=>v=.str x
 | .lst ds,v=>∃a xs,v=.ref a/\aI K H a xs/\gS K H ds xs
 | .tup ds,v=>∃a xs,v=.ref a/\cK K H a xs/\gS K H ds xs
def gS(K:Mv)(H:Hp):List Dt->List V->Prop
 | [],xs=>xs=[]
 |d::ds,xs=>∃x r,xs=x::r/\nQ K H d x/\gS K H ds r
end
mutual
def Dt.dep:Dt->Nat
 | .lst ds=>Dt.deps ds+1
 | .tup ds=>Dt.deps ds+1
 |_=>0
def Dt.deps:List Dt->Nat
 | []=>0
 |d::ds=>max (Dt.dep d) (Dt.deps ds)
end
theorem gS.length{K:Mv}:∀{ds:List Dt} {xs:List V},gS K H ds xs->xs.length=ds.length
 | [],_,h=>by unfold gS at h;rw[h];rfl
 |d::ds,xs,h=>by
  unfold gS at h;obtain⟨x,r,rfl,_,h2⟩:=h;simp[gS.length h2]
theorem gS.get{K:Mv}:∀{ds:List Dt} {xs:List V} {j:Nat} {x:V},gS K H ds xs->xs[j]?=some x->∃d,ds[j]?=some d/\nQ K H d x
 | [],_,_,_,h,e=>by unfold gS at h;rw[h]at e;simp at e
 |d::ds,xs,j,x,h,e=>by
  unfold gS at h;obtain⟨y,r,rfl,h1,h2⟩:=h;cases j with
  |zero=>simp at e;subst e;exact⟨d,rfl,h1⟩
  |succ j=>
   obtain⟨d',e1,e2⟩:=gS.get (j:=j) h2 (by simpa using e);exact⟨d',by simpa using e1,e2⟩
theorem iQ:∀{ds:List Dt} {j:Nat} {d:Dt},ds[j]?=some d->d.dep<=Dt.deps ds
 | [],_,_,e=>by simp at e
 |d'::ds,0,d,e=>by simp at e;subst e;unfold Dt.deps;omega
 |d'::ds,j+1,d,e=>by
  have:=iQ (ds:=ds) (j:=j) (by simpa using e);unfold Dt.deps;omega
theorem gw(n:Nat):(List.range n).all (λ_=>true)=true:=by simp
theorem Be{pins:Mw}{σ:St}(I:Inv X pins σ H s):∀(n:Nat) (d:Dt) (A:MG) {v u:V} {vv uu:Value},d.dep<=n->A.units+n<cLine->nQ X.K H d v->nQ X.K H d u->bx v vv->bx u uu->SeqAt.EqAt A s vv uu true:=by
 intro n
 induction n with
 |zero=>
  intro d A v u vv uu T hA h1 h2 m l;cases d with
  |non=>unfold nQ at h1 h2;subst h1 h2;have:=gW (A:=A) (s:=s) m l rfl rfl;exact this
  |bl b=>unfold nQ at h1 h2;subst h1 h2;have:=gW (A:=A) (s:=s) m l rfl rfl;simpa[xi]using this
  |int i=>unfold nQ at h1 h2;subst h1 h2;have:=gW (A:=A) (s:=s) m l rfl rfl;simpa[xi]using this
  |str x=>unfold nQ at h1 h2;subst h1 h2;have:=gW (A:=A) (s:=s) m l rfl rfl;simpa[xi]using this
  |lst ds=>unfold Dt.dep at T;omega
  |tup ds=>unfold Dt.dep at T;omega
 |succ n ih=>
  intro d A v u vv uu T hA h1 h2 m l;cases d with
  |non=>unfold nQ at h1 h2;subst h1 h2;have:=gW (A:=A) (s:=s) m l rfl rfl;exact this
  |bl b=>unfold nQ at h1 h2;subst h1 h2;have:=gW (A:=A) (s:=s) m l rfl rfl;simpa[xi]using this
  |int i=>unfold nQ at h1 h2;subst h1 h2;have:=gW (A:=A) (s:=s) m l rfl rfl;simpa[xi]using this
  |str x=>unfold nQ at h1 h2;subst h1 h2;have:=gW (A:=A) (s:=s) m l rfl rfl;simpa[xi]using this
  |lst ds=>
   unfold nQ at h1 h2;obtain⟨a,L,rfl,ha,p⟩:=h1;obtain⟨b,G,rfl,hb,o⟩:=h2;cases m;cases l
   by_cases r:a=b
   ·subst r;exact SeqAt.EqAt.same _
   ·unfold Dt.dep at T
    obtain⟨g,R,pa,_⟩:=I.list ha;obtain⟨c,O,pb,_⟩:=I.list hb;have l1:=R.length;have l2:=O.length;have l3:=p.length;have l4:=o.length
    have a0:g.toArray.size=c.toArray.size:=by simp;omega
    have q:=SeqAt.RcAt.lists (A:=A) (s:=s) (e:=λ_=>true) pa.isList pb.isList a0 ⋯ λj g1 g2=>by
     have D:j<g.length:=by simpa using g1
     have C:j<c.length:=by simpa using g2
     have M:L[j]?=some L[j]:=Lz ⋯;have J:G[j]?=some G[j]:=Lz ⋯;obtain⟨d,e1,B⟩:=p.get M;obtain⟨d',Z,z⟩:=o.get J;rw[e1]at Z;cases Z
     obtain⟨w1,Y,y⟩:=R.get M;obtain⟨w2,U,w⟩:=O.get J;rw[Lz D]at Y;rw[Lz C]at U;cases Y;cases U
     have S:=iQ e1;simp only[Mm];exact ih d A.in1 ⋯ (by show A.units+1+n<cLine;omega) B z y w
    rw[gw]at q;exact SeqAt.EqAt.of_refs r q
  |tup ds=>
   unfold nQ at h1 h2;obtain⟨a,L,rfl,ha,p⟩:=h1;obtain⟨b,G,rfl,hb,o⟩:=h2;cases m;cases l
   by_cases r:a=b
   ·subst r;exact SeqAt.EqAt.same _
   ·unfold Dt.dep at T
    obtain⟨g,R,pa,_⟩:=I.tuple ha;obtain⟨c,O,pb,_⟩:=I.tuple hb;have l1:=R.length;have l2:=O.length;have l3:=p.length;have l4:=o.length
    have q:=SeqAt.RcAt.tuples (A:=A) (s:=s) (e:=λ_=>true) (show s.heap.IsTuple a g.toArray from pa) (show s.heap.IsTuple b c.toArray from pb) ⋯ λj g1 g2=>by
     have D:j<g.length:=by simpa using g1
     have C:j<c.length:=by simpa using g2
     have M:L[j]?=some L[j]:=Lz ⋯;have J:G[j]?=some G[j]:=Lz ⋯;obtain⟨d,e1,B⟩:=p.get M;obtain⟨d',Z,z⟩:=o.get J;rw[e1]at Z;cases Z
     obtain⟨w1,Y,y⟩:=R.get M;obtain⟨w2,U,w⟩:=O.get J;rw[Lz D]at Y;rw[Lz C]at U;cases Y;cases U
     have S:=iQ e1;simp only[Mm];exact ih d A.in1 ⋯ (by show A.units+1+n<cLine;omega) B z y w
    have e0:((List.range (min g.toArray.size c.toArray.size)).all (λ_=>true)&&g.toArray.size==c.toArray.size)=true:=by
     rw[gw,Bool.true_and];simp;omega
    rw[e0]at q;exact SeqAt.EqAt.of_refs r q
def Go(K:Mv)(neg:Bool):R2:=λx y H Q=>
 (∃ds,Dt.deps ds<=40/\((nQ K H (.lst ds) x/\nQ K H (.lst ds) y)\/(nQ K H (.tup ds) x/\nQ K H (.tup ds) y))/\Q (.bl (!neg)) H) \/
 (∃a b xs ys,x=.ref a/\y=.ref b/\aI K H a xs/\aI K H b ys/\xs.length≠ys.length/\Q (.bl neg) H)
theorem Gd(hu:X.A.units+64<cLine):bu X (compareOp .NotEq) (Go X.K true):=by
 intro r s σ H x y v u Q I rx ry h;rcases h with⟨ds,hd,h,q⟩ | ⟨a,b,p,o,rfl,rfl,C,B,hne,q⟩
 ·have dL:EP X r σ Q (.bool false) s:=⟨.bl false,H,I,rfl,q⟩
  have item:∀{p o:List V} {g c:Mz},gS X.K H ds p->gS X.K H ds o->bc p g->bc o c->∀j (h1:j<g.toArray.size) (h2:j<c.toArray.size),SeqAt.EqAt X.A.in1 s g.toArray[j] c.toArray[j] true:=fun{p o g c} l i n m j g1 g2=>by
   have O:=n.length;have M:=m.length;have Z:=l.length;have Y:=i.length
   have S:j<g.length:=by simpa using g1
   have R:j<c.length:=by simpa using g2
   have U:p[j]?=some p[j]:=Lz ⋯;have T:o[j]?=some o[j]:=Lz ⋯;obtain⟨d,e1,L⟩:=l.get U;obtain⟨d',e2,J⟩:=i.get T;rw[e1]at e2;cases e2
   obtain⟨w1,f1,G⟩:=n.get U;obtain⟨w2,f2,D⟩:=m.get T;rw[Lz S]at f1;rw[Lz R]at f2;cases f1;cases f2
   have hdep:=iQ e1;simp only[Mm];exact Be I 40 d X.A.in1 ⋯ (by show X.A.units+1+40<cLine;omega) L J G D
  rcases h with⟨h1,h2⟩ | ⟨h1,h2⟩
  ·unfold nQ at h1 h2
   obtain⟨a,p,rfl,C,l⟩:=h1;obtain⟨b,o,rfl,B,i⟩:=h2;cases rx;cases ry
   obtain⟨g,n,z,_⟩:=I.list C;obtain⟨c,m,w,_⟩:=I.list B;have O:=n.length;have M:=m.length;have Z:=l.length;have Y:=i.length
   have q:=SeqAt.RcNeAt.lists (A:=X.A) (s:=s) (e:=λ_=>true) z.isList w.isList (by simp;omega) ⋯ (item l i n m);rw[gw]at q;exact q _ _ _ _ dL
  ·unfold nQ at h1 h2
   obtain⟨a,p,rfl,C,l⟩:=h1;obtain⟨b,o,rfl,B,i⟩:=h2;cases rx;cases ry
   obtain⟨g,n,z,_⟩:=I.tuple C;obtain⟨c,m,w,_⟩:=I.tuple B;have O:=n.length;have M:=m.length;have Z:=l.length;have Y:=i.length
   have q:=SeqAt.RcNeAt.tuples (A:=X.A) (s:=s) (e:=λ_=>true) (show s.heap.IsTuple a g.toArray from z) (show s.heap.IsTuple b c.toArray from w) ⋯ (item l i n m);have e0:((List.range (min g.toArray.size c.toArray.size)).all (λ_=>true)&&g.toArray.size==c.toArray.size)=true:=by
    rw[gw,Bool.true_and];simp;omega
   rw[e0]at q;exact q _ _ _ _ dL
 ·cases rx;cases ry
  obtain⟨g,n,z,_⟩:=I.list C;obtain⟨c,m,w,_⟩:=I.list B;have O:=n.length;have M:=m.length
  exact SeqAt.RcNeAt.lists_lengths z.isList w.isList (by simp;omega) ⋯ _ _ _ _ ⟨.bl true,H,I,rfl,q⟩
end
end L2
namespace aE
abbrev H_:=List Nat
abbrev aE:=List H_
def rect(p:aE)(r c:Nat):Prop:=p.length=r/\∀x∈p,x.length=c
def zO(p:aE)(i j:Nat):Nat:=(p.getD i []).getD j 0
def mirror(p:aE):aE:=p.map List.reverse
def col(p:aE)(i:Nat):H_:=p.reverse.map λx=>x.getD i 0
def aX(p:aE):aE:=(List.range (p.headD []).length).map (col p)
def aJ:Nat->aE->aE
 |0,p=>p
 |n+1,p=>aJ n (aX p)
def turned(p:aE)(t:Nat):aE:=aJ (t%4) (if 4<=t then mirror p else p)
theorem Bc{i:Nat}(h:rect p r c)(hi:i<r):(p.getD i []).length=c:=by
 have a:i<p.length:=by rw[h.1];exact hi
 rw[q0A,Lz a];exact h.2 _ (LK a)
theorem bb(h:rect p r c)(hr:0<r):(p.headD []).length=c:=by
 have:=Bc h hr;cases p with
 |nil=>have:=h.1;simp at this;omega
 |cons x p=>simpa using this
theorem bO(h:rect p r c):rect (mirror p) r c:=by
 refine⟨by simp[mirror,h.1],λx b=>?_⟩;obtain⟨y,a,rfl⟩:=Mi.mp b;rw[LU];exact h.2 y a
theorem bG(h:rect p r c)(hr:0<r):rect (aX p) c r:=by
 refine⟨by unfold aX;rw[LC,q0J,bb h hr],λx a=>?_⟩;obtain⟨i,_,rfl⟩:=Mi.mp a;simp[col,h.1]
theorem jl{i j:Nat}(h:rect p r c)(hi:i<r)(hj:j<c):zO (mirror p) i j=zO p i (c-1-j):=by
 have a:i<p.length:=by rw[h.1];exact hi
 have b:(p[i]).length=c:=h.2 _ (LK a);unfold zO mirror;rw[q0A (l:=List.map _ _),LF,Lz a,q0A (l:=p),Lz a];simp only[Option.map_some,q0L];rw[q0A,List.getElem?_reverse (by rw[b];exact hj),b,q0A]
theorem cH{i j:Nat}(h:rect p r c)(hr:0<r)(hi:i<c)(hj:j<r):zO (aX p) i j=zO p (r-1-j) i:=by
 unfold zO aX;rw[bb h hr,q0A (l:=List.map _ _),LF,List.getElem?_range hi];simp only[Option.map_some,q0L];unfold col;rw[q0A,LF,List.getElem?_reverse (by rw[h.1];exact hj),h.1];have a:r-1-j<p.length:=by rw[h.1];omega
 rw[Lz a,q0A (l:=p),Lz a]
 rfl
theorem jc(hp:rect p r c)(hq:rect q r c)(h:∀i j,i<r->j<c->zO p i j=zO q i j):p=q:=by
 refine List.ext_getElem (by rw[hp.1,hq.1]) λi h1 h2=>?_;have a:=hp.2 _ (LK h1);have d:=hq.2 _ (LK h2);refine List.ext_getElem (by rw[a,d]) λj b g=>?_;have e:=h i j (by rw[<- hp.1];exact h1) (by rw[<- a];exact b);unfold zO at e
 simpa[q0A,Lz,h1,h2,b,g]using e
theorem Ea(p:aE):mirror (mirror p)=p:=by simp[mirror,LQ,Function.comp_def]
theorem B9(h:rect p r c)(hr:0<r)(hc:0<c):aX (aX (aX (aX p)))=p:=by
 have h1:=bG h hr;have h2:=bG h1 hc;have b:=bG h2 hr;have e:=bG b hc;refine jc e h λi j a d=>?_;rw[cH b hc a d,cH h2 hr ⋯ a,cH h1 hc ⋯ ⋯,cH h hr ⋯ ⋯]
 congr 1<;>omega
theorem oh(h:rect p r c)(hr:0<r)(hc:0<c):mirror (aX p)=aX (aX (aX (mirror p))):=by
 have m:=bO h;have h1:=bG m hr;have h2:=bG h1 hc;have d:=bG h2 hr;have q:=bG h hr;refine jc (bO q) d λi j a b=>?_;rw[jl q a b,cH h hr a ⋯,cH h2 hr a b,cH h1 hc ⋯ a,cH m hr ⋯ ⋯,jl h ⋯ ⋯]
 congr 1<;>omega
theorem cG:∀(n:Nat) {p:aE} {r c:Nat},rect p r c->0<r->0<c->rect (aJ n p) (if n%2=0 then r else c) (if n%2=0 then c else r)
 |0,_,_,_,h,_,_=>h
 |n+1,p,r,c,h,hr,hc=>by
  have:=cG n (bG h hr) hc hr;show rect (aJ n (aX p)) _ _
  by_cases e:n%2=0
  ·rw[q07 e,q07 e]at this
   rw[q06 ⋯,q06 ⋯];exact this
  ·rw[q06 e,q06 e]at this
   rw[q07 ⋯,q07 ⋯];exact this
theorem dj(h:rect p r c)(hr:0<r)(hc:0<c)(t:Nat):rect (turned p t) (if t%2=0 then r else c) (if t%2=0 then c else r):=by
 unfold turned;have e:t%4%2=t%2:=by omega
 rw[<- e]
 split
 ·exact cG _ (bO h) hr hc
 ·exact cG _ h hr hc
theorem cF(a b:Nat)(p:aE):aJ a (aJ b p)=aJ (b+a) p:=by
 induction b generalizing p with
 |zero=>rw[Nat.zero_add];rfl
 |succ b ih=>show aJ a (aJ b (aX p))=_;rw[ih,Nat.add_right_comm];rfl
theorem fj(h:rect p r c)(hr:0<r)(hc:0<c)(n:Nat):aJ n p=aJ (n%4) p:=by
 induction n using Nat.strongRecOn generalizing p r c with
 |ind n ih=>
  by_cases a:n<4
  ·rw[Nat.mod_eq_of_lt a]
  ·obtain⟨m,rfl⟩:∃m,n=m+4:=⟨n-4,⋯⟩
   have e:aJ (m+4) p=aJ m (aX (aX (aX (aX p)))):=rfl;rw[e,B9 h hr hc,ih m ⋯ h hr hc]
   congr 1
   omega
theorem iq(h:rect p r c)(hr:0<r)(hc:0<c):∀n,mirror (aJ n p)=aJ (3*n) (mirror p):=by
 intro n
 induction n generalizing p r c with
 |zero=>rfl
 |succ n ih=>
  show mirror (aJ n (aX p))=_;rw[ih (bG h hr) hc hr,oh h hr hc];have e:aX (aX (aX (mirror p)))=aJ 3 (mirror p):=rfl;rw[e,cF]
  congr 1
  omega
def after(t u:Nat):Nat:=if u<4 then t/4*4+(t+u)%4 else(1-t/4)*4+(u+8-t)%4
def cV(t:Nat):Nat:=if t<4 then(4-t)%4 else t
theorem bN(h:rect p r c)(hr:0<r)(hc:0<c){t u:Nat}(ht:t<8)(hu:u<8):turned (turned p t) u=turned p (after t u):=by
 have m:=bO h;unfold turned after
 by_cases h1:4<=t<;>by_cases h2:4<=u
 ·rw[q07 h1,q07 h2,q06 ⋯,q06 ⋯]
  rw[iq m hr hc,Ea,cF,fj h hr hc]
  congr 1;omega
 ·rw[q07 h1,q06 h2,q07 ⋯,q07 ⋯]
  rw[cF,fj m hr hc]
  congr 1;omega
 ·rw[q06 h1,q07 h2,q06 ⋯,q07 ⋯]
  rw[iq h hr hc,cF,fj m hr hc]
  congr 1;omega
 ·rw[q06 h1,q06 h2,q07 ⋯,q06 ⋯]
  rw[cF,fj h hr hc]
  congr 1;omega
theorem mE(p:aE):turned p 0=p:=rfl
theorem gJ{t u:Nat}(ht:t<8)(hu:u<8):after t u<8:=by unfold after;split<;>omega
theorem li{t:Nat}(ht:t<8):cV t<8:=by unfold cV;split<;>omega
theorem xI{t:Nat}(ht:t<8):after t (cV t)=0:=by
 unfold after cV
 by_cases h:t<4
 ·rw[q07 h,q07 ⋯];omega
 ·rw[q06 h,q06 ⋯];omega
theorem wR{t:Nat}(ht:t<8):after (cV t) t=0:=by
 unfold after cV
 by_cases h:t<4
 ·rw[q07 h,q07 ⋯];omega
 ·rw[q06 h,q06 ⋯];omega
theorem mP(h:rect p r c)(hr:0<r)(hc:0<c){t:Nat}(ht:t<8):turned (turned p t) (cV t)=p:=by
 rw[bN h hr hc ht (li ht),xI ht];rfl
end aE
namespace QL
open PySem L2 aE
def tx(r:Mx):Str:=⟨r.toArray⟩
def av(p:aE):List V:=p.map λr=>V.str (tx r)
theorem aw(r:Mx):(tx r).length=r.length:=by show r.toArray.size=r.length;simp
theorem cg(r:Mx):(tx r).cps.toList=r:=by show r.toArray.toList=r;simp
theorem aq(p:aE):(av p).length=p.length:=by unfold av;simp
theorem fK(p:aE):av p=(p.map tx).map V.str:=by unfold av;rw[LQ];rfl
theorem bC{p:aE}{i:Nat}(h:i<p.length):(av p)[i]?=some (V.str (tx p[i])):=by unfold av;rw[LF,Lz h];rfl
theorem cQ(p:aE)(r:Mx):av (p++[r])=av p++[V.str (tx r)]:=by unfold av;simp
theorem CB:∀(ys:List (List Nat)),Txt.join (Str.ofString "") (ys.map tx)=tx ys.flatten
 | []=>rfl
 |y::ys=>by
  have key:∀(zs:List (List Nat)) (a:Mx),(zs.map tx).foldl (λacc (p:Str)=>acc++(Str.ofString "").cps++p.cps) a.toArray=(a++zs.flatten).toArray:=by
   intro zs
   induction zs with
   |nil=>intro a;simp
   |cons z zs ih=>
    intro a;rw[L8,List.foldl_cons];have e:a.toArray++(Str.ofString "").cps++(tx z).cps=(a++z).toArray:=by
     have b:(Str.ofString "").cps=#[]:=rfl;rw[b];show a.toArray ++ #[]++z.toArray=_;simp
    rw[e,ih];simp
  show(⟨(ys.map tx).foldl (λacc (p:Str)=>acc++(Str.ofString "").cps++p.cps) (tx y).cps⟩:Str)=_;show(⟨(ys.map tx).foldl (λacc (p:Str)=>acc++(Str.ofString "").cps++p.cps) y.toArray⟩:Str)=_;rw[key]
  rfl
theorem gz(r:Mx):Txt.join (Str.ofString "") (r.map λc=>(⟨#[c]⟩:Str))=tx r:=by
 have e:(r.map λc=>(⟨#[c]⟩:Str))=(r.map λc=>[c]).map tx:=by rw[LQ];rfl
 rw[e,CB]
 congr 1
 clear e
 induction r with
 |nil=>rfl
 |cons c r ih=>simp[ih]
def dw(p:aE):Prop:=p.length<=64/\∀r∈p,r.length<=64
theorem dw.of(h:rect p r c)(hr:r<=64)(hc:c<=64):dw p:=⟨by rw[h.1];exact hr,λx hx=>by rw[h.2 x hx];exact hc⟩
theorem aU{n:Nat}(h:n<=1000000):n<sizeLine:=by have:=q0V;omega
theorem am{n:Nat}(h:n<=1000000):n<=sizeLine:=by have:=q0V;omega
theorem af{H:Hp}(h:H l=none):ax H (aD H l o):=λb u e=>by rw[ar (aA e h)];exact e
theorem cn{H0:Hp}(s:ax H0 H)(h:H0 l=none):ax H0 (aD H l o):=λb u e=>by rw[ar (aA e h)];exact s b u e
theorem kK{i:Nat}(h:rect p r c)(hi:i<r):∃hl:i<p.length,(p[i]).length=c:=⟨by rw[h.1];exact hi,h.2 _ (LK _)⟩
def fM(H:Hp)(p:aE)(Q:VK):Prop:=∀(l:Addr) (H':Hp),H l=none->H' l=some (.lst (av p))->ax H H'->Q (.ref l) H'
theorem tQ{α:Type}{xs:List α}{i:Int}(h0:0<=i)(h1:i<xs.length):∃v,v∈xs/\ip xs i=some v:=by
 have hb:i.toNat<xs.length:=by omega
 obtain⟨j,a⟩:∃j:Nat,i=(j:Int):=⟨i.toNat,⋯⟩;subst a;exact⟨xs[j]'⋯,LK _,bH (Lz ⋯)⟩
theorem sQ(K:Mv):PySem.W.kitOne K (.type "int") (.type "bool")=some false:=by kernel_rfl
end QL
namespace L2
open PySem PySem.Spec PyProof.Rows
section
variable {X:Cx}
theorem mz:dZ X (.builtin "len") (λxs H Q=>∃p ys,xs=[.ref p]/\aI X.K H p ys/\Q (.int ys.length) H):=λpins s σ H xs us Q I r ⟨p,ys,e,h,q⟩=>uL pins s σ H xs us Q I r ⟨p,ys,e,.inl h,q⟩
theorem vQ{K:Mv}{g:TG}{ti:TT}{te:TE}{σ:St}{H:Hp}{Q:List V->Hp->Prop}{xs:List V}(Pv:Nat->List V->St->Hp->Prop)(h0:Pv 0 [] σ H)(hz:∀i acc σ H,Pv i acc σ H->acc.length<sizeLine)(hi:∀i acc σ H,Pv i acc σ H->i<=xs.length)
  (hl:∀i acc σ H,Pv i acc σ H->aI K H a xs)
  (hs:∀i x acc σ H,xs.reverse[i]?=some x->Pv i acc σ H->g x σ H λσ2 H3=>ti σ2 H3 λb H4=>if b=true then te σ2 H4 λv H5=>Pv (i+1) (acc++[v]) σ2 H5 else Pv (i+1) acc σ2 H4)
  (he:∀acc σ H,Pv xs.length acc σ H->Q acc H):fN (Hw K a xs.length) g ti te σ H Q:=by
 have c:∀{i:Nat} {x:V},i<xs.length->xs[xs.length-1-i]?=some x->xs.reverse[i]?=some x:=fun{i x} hi e=>by rw[List.getElem?_reverse hi];exact e
 exact jb (J:=Hw K a xs.length) (g:=g) (ti:=ti) (te:=te) (Q:=Q) (n:=xs.length) Pv h0 hz hi (λacc σ H w=>rfl)
  (λi acc σ H hlt w=>⟨xs,xs[xs.length-1-i]'⋯,hl _ _ _ _ w,hlt,Lz ⋯⟩) (λi x acc σ H H2 hlt w y=>by obtain⟨rfl,d⟩:=y;exact hs i x acc σ H2 (c hlt (d xs (hl _ _ _ _ w))) w) he
theorem DC(i j:Int):(Bp (.int i) (.int j)=true)=True:=eq_true rfl
theorem Hf{ta:TE}(ha:PE X a ta)(he:∀whole,isTrue a X.env whole=(do let v <- whole;standAt a.pos;holding [v] (truthy v))):PT X a (rJ ta):=by
 intro b s σ H Q I h;rw[he];refine q04 (bY (ha b s σ H _ I h) λv s1 ⟨x,H1,d,c,k,e,q⟩=>?_);subst e;cases c;exact q04 (wpAny_standAt (q0X (wpAny_truthy_bool ⟨H1,d,q⟩)))
def AM(J:It)(g:TG)(tb:TS)(D:fB)(σ:St)(H:Hp):Prop:=∃W:Nat->Nat->St->Hp->Prop,(∃m,W 0 m σ H)/\∀i m σ H,W i m σ H ->
 (J.stop i H/\D.nx σ H)\/(J.go i H/\∃N:St->Hp->Prop,(∀σ' H',N σ' H'->∃m',m'<m/\W (i+1) m' σ' H')/\∀x H',J.yld i H x H'->g x σ H' λσ2 H2=>tb {D with nx:=N,ct:=N,bk:=D.nx} σ2 H2)
def CS(wi:TI)(g:TG)(tb:TS):TS:=λD σ H=>wi σ H λJ H1=>AM J g tb D σ H1
theorem aQ{tg iter:Expr}{body:List Stmt}{wi:TI}{pos:Pos}(hp:PassesOwn (model X.prog X.w) X.A X.env X.xe)(hc:X.calm=true)(hi:PI X tg iter wi)(hg:PG X tg g)(hb:uE X body tb)
  (hs:autoParam (∀x,foldedSetIterable iter X.env x=pure x) zz4._auto_1):PS X (.For tg iter body [] pos) (CS wi g tb):=Gv hp hc hi hg hb hs
section
variable {K:Mv}{g:TG}{tb:TS}{D:fB}{σ:St}{H:Hp}
theorem bB{xs:List V}(Pv:Nat->St->Hp->Prop)(h0:Pv 0 σ H)(hl:∀i σ H,i<=xs.length->Pv i σ H->aI K H a xs)
  (hs:∀i x σ H,xs[i]?=some x->Pv i σ H->g x σ H λσ2 H2=>tb {D with nx:=Pv (i+1),ct:=Pv (i+1),bk:=D.nx} σ2 H2) (hd:∀σ H,Pv xs.length σ H->D.nx σ H):AM (zw K a) g tb D σ H:=CW Pv h0 hl hs hd
theorem Bd{xs:List V}(Pv:Nat->St->Hp->Prop)(h0:Pv 0 σ H)(hl:∀i σ H,i<=xs.length->Pv i σ H->cK K H a xs)
  (hs:∀i x σ H,xs[i]?=some x->Pv i σ H->g x σ H λσ2 H2=>tb {D with nx:=Pv (i+1),ct:=Pv (i+1),bk:=D.nx} σ2 H2) (hd:∀σ H,Pv xs.length σ H->D.nx σ H):AM (GN K a) g tb D σ H:=D0 Pv h0 hl hs hd
theorem bv{lo:Int}{n:Nat}(Pv:Nat->St->Hp->Prop)(h0:Pv 0 σ H)
  (hs:∀i σ H,i<n->Pv i σ H->g (.int (lo+i)) σ H λσ2 H2=>tb {D with nx:=Pv (i+1),ct:=Pv (i+1),bk:=D.nx} σ2 H2) (hd:∀σ H,Pv n σ H->D.nx σ H):AM (Ay lo n) g tb D σ H:=Au Pv h0 hs hd
end
end
theorem bi:bootBuiltins "len"=some (.builtin "len"):=by decide +kernel
theorem dR:bootBuiltins "list"=some (.type "list"):=by decide +kernel
theorem Cz:bootBuiltins "tuple"=some (.type "tuple"):=by decide +kernel
theorem yx:bootBuiltins "int"=some (.type "int"):=by decide +kernel
theorem EU:bootBuiltins "bool"=some (.type "bool"):=by decide +kernel
theorem dz:bootBuiltins "isinstance"=some (.builtin "isinstance"):=by decide +kernel
theorem F6:bootBuiltins "all"=some (.builtin "all"):=by decide +kernel
theorem Bb:bootBuiltins "sorted"=some (.builtin "sorted"):=by decide +kernel
section
variable {X:Cx}{a b c d:Expr}{ta tb tc td:TE}{pos:Pos}
def Fj(K:Mv):List V->Hp->VK->Prop:=λxs H Q=>∃(p:Addr) (bs:List Bool),xs=[.ref p]/\aI K H p (bs.map V.bl)/\Q (.bl (bs.all id)) H
theorem zn:∀{bs:List Bool} {us:Mz} {i:Nat} {u:Value},bc (bs.map V.bl) us->us[i]?=some u->∃k,bs[i]?=some k/\u=.bool k
 | [],_,_,_,.nil,e=>by simp at e
 |k::bs,_,0,u,.cons r _,e=>by simp at e;subst e;exact⟨k,rfl,r⟩
 |k::bs,_,i+1,u,.cons _ t,e=>by
  obtain⟨k',h1,h2⟩:=zn (i:=i) t (by simpa using e);exact⟨k',by simpa using h1,h2⟩
theorem zM(bs:List Bool):((List.range bs.length).all λi=>(bs[i]?).getD true)=bs.all id:=by
 rw[Bool.eq_iff_iff,Mj,Mj]
 constructor
 ·intro h x c
  obtain⟨i,b,e⟩:=List.getElem_of_mem c;have q:=h i (List.mem_range.mpr b);rw[Lz b,q0L,e]at q;exact q
 ·intro h i b
  have a:=List.mem_range.mp b;rw[Lz a,q0L];exact h _ (LK a)
theorem Do(hc:X.calm=true):dZ X (.builtin "all") (Fj X.K):=by
 intro pins s σ H xs us Q I r h;obtain⟨p,bs,rfl,x,q⟩:=h;obtain⟨u,rfl,w⟩:=r.one;cases w;obtain⟨a,m,d,_⟩:=I.list x;have g:p<s.heap.objs.size:=by obtain⟨_,e,_⟩:=d.isList;exact L5 e
 have c:a.length=bs.length:=by rw[<- m.length,LC]
 refine call_all_walk (wpAny_pyIter_list d.isList ?_);refine⟨s.heap.objs.size,[s.heap.objs.size,p],[s.heap.objs.size],a.toArray.size,_,_,λi=>(bs[i]?).getD true,rfl,Walks.list (A:=X.A.in1) (I.ok.hd hc) _ p (LW g) a.toArray,
  ⟨⟨_,LI _ rfl,rfl,rfl⟩,d.isList.push _⟩,λi v s' Q' E' B j=>?_,λh' n z=>?_⟩
 ·obtain⟨k,e,rfl⟩:=zn (i:=i) m (by simpa using B)
  dsimp only at j;rw[e,q0L]at j;exact wpAny_truthy_bool j
 ·have e:((List.range a.toArray.size).all λi=>(bs[i]?).getD true)=bs.all id:=by rw[LJ,c];exact zM bs
  rw[e];exact⟨.bl _,H,I.kept (t':=n) λb o l=>z b o (λy=>by rw[LD.mp y]at l;exact L_ _ (L5 l)) (LB _ l),rfl,q⟩
end
end L2
namespace QL
open PySem L2 aE PySem.Builtin PySem.Builtin.Str
theorem yt(row:Mx)(i k:Nat)(h:i+k<=row.length):((List.range k).map λm=>i+m).filterMap (λj=>row[j]?)=(row.drop i).take k:=by
 rw[List.filterMap_map]
 induction k with
 |zero=>simp
 |succ k ih=>
  rw[q0M,List.filterMap_append,ih ⋯,q0E,List.getElem?_drop];have e:i+k<row.length:=by omega
  simp[Lz e]
def CQ(n:Nat)(d:Int):Option Int->Int
 |none=>d
 |some i=>max 0 (min (if i<0 then i+(n:Int) else i) (n:Int))
theorem vM(n d:Nat)(v:Option Int):CQ n (d:Int) v=((HT.sIx n d v:Nat):Int):=by
 cases v with
 |none=>rfl
 |some v=>
  show max 0 (min (if v<0 then v+(n:Int) else v) (n:Int))=(((if v<0 then(v+(n:Int)).toNat else min v.toNat n:Nat)):Int)
  by_cases a:v<0
  ·rw[q07 a,q07 a,Int.max_def,Int.min_def]
   split<;>split at * <;> omega
  ·rw[q06 a,q06 a,Int.max_def,Int.min_def]
   split<;>split at * <;> omega
theorem xF(lo hi:Option Int)(n:Nat):strSliceIndices lo hi 1 n=sliceRange (CQ n ((0:Nat):Int) lo) (CQ n (n:Int) hi) 1:=by cases lo<;>cases hi<;>rfl
theorem gH(row:Mx)(lo hi:Option Int):Txt.slice (tx row) lo hi=tx ((row.drop (HT.sIx row.length 0 lo)).take (HT.sIx row.length row.length hi-HT.sIx row.length 0 lo)):=by
 have hl:=HT.sIx_le row.length 0 (L3 _) lo;have hh:=HT.sIx_le row.length row.length (L1 _) hi;have key:strSliceIndices lo hi 1 (tx row).length=(List.range (HT.sIx row.length row.length hi-HT.sIx row.length 0 lo)).map λm=>HT.sIx row.length 0 lo+m:=by
  rw[aw,xF,vM,vM];generalize HT.sIx row.length 0 lo=a;generalize HT.sIx row.length row.length hi=b;unfold sliceRange;have en:(if(1:Int)>0 then(if(a:Int)<(b:Int) then((b:Int)-(a:Int)+1-1)/1 else 0) else(if(a:Int)>(b:Int) then((a:Int)-(b:Int)-1-1)/(-1) else 0)).toNat=b-a:=by
   rw[q07 nofun]
   split<;>omega
  show(List.range (if(1:Int)>0 then(if(a:Int)<(b:Int) then((b:Int)-(a:Int)+1-1)/1 else 0) else(if(a:Int)>(b:Int) then((a:Int)-(b:Int)-1-1)/(-1) else 0)).toNat).map (fun(k:Nat)=>((a:Int)+1*(k:Int)).toNat)=_;rw[en];refine q0K λm _=>?_;omega
 unfold Txt.slice;rw[key];generalize HT.sIx row.length 0 lo=a at hl ⊢;generalize HT.sIx row.length row.length hi=b at hh ⊢
 by_cases hab:a+(b-a)<=row.length
 ·have e:(((List.range (b-a)).map λm=>a+m).filterMap λj=>(tx row).cps[j]?)=(row.drop a).take (b-a):=by
   rw[<- yt row a (b-a) hab]
   congr 1
   funext j
   show row.toArray[j]?=row[j]?;simp
  rw[e]
  split
  ·rename_i hw
   simp at hw;rw[aw]at hw;have ha0:a=0:=by omega
   have hb0:b-a=row.length:=by omega
   rw[ha0,Mt];rw[ha0]at hb0;rw[hb0,Md]
  ·rfl
 ·exact q0Q hab ⋯
end QL
namespace L2
open PySem PySem.Spec PyProof.Rows
section
variable {X:Cx}{K:Mv}{tg:Expr}
theorem gC(hK:X.K=K):dZ X (.builtin "isinstance") (EL K):=hK▸dB
theorem zj(hK:X.K=K):Fk X (yp K):=hK▸Cp
theorem yH(hK:X.K=K):GM X (Ee K):=hK▸F0
end
end L2
namespace PySem
open Sem (wp)
def TrD(cp:Value->Prop)(h base:Heap)(e:Addr)(cls:Value)(od:ML)(fl:Value):Prop:=
 ∃oe vs T oT ts,h.get? e=some oe/\oe.cls=cls/\oe.dict=od/\oe.data=.fields vs/\vs[1]?=some (.ref T)/\base.get? T=none/\T≠e/\h.get? T=some oT/\oT.data=.fields ts/\ts[3]?=some fl/\∃cx,vs[2]?=some cx/\cp cx
structure lg(cp:Value->Prop)(base:Heap)(l:List Env)(e:Addr)(cls:Value)(od:ML)(fl:Value)(h:Heap):Prop where
 st:base.StaysIn h
 new:base.get? e=none
 ff:h.FunFrames base l
 tr:TrD cp h base e cls od fl
theorem oY(o:Obj)(f:Array Value->Array Value):(Obj.mapFields f o).dict=o.dict:=by unfold Obj.mapFields;split<;>rfl
section
variable {cp:Value->Prop}{M:Model}{A:MG}{E:Mu}{s:My}{base:Heap}{env:Env}{outer:List Env}{L e:Addr}{Q:Unit->Shared->Prop}
theorem zi{cls fl:Value}{od:ML}(x:lg cp base l e cls od fl s.heap)(h:∀h',lg cp base l e cls od .none h'->s.heap.UpToSlots h'->Q () {s with heap:=h' }):wpAny M A (setFlight (.ref e) none) Q E s:=by
 obtain⟨y,vs,T,oT,u,v,B,z,w,h1,m,n,r,g,C,p⟩:=x.tr;have j:3<u.size:=(Array.getElem?_eq_some_iff.mp C).1;have d:∀b,b≠T->(s.heap.update T (Obj.mapFields (·.setIfInBounds 3 Value.none))).get? b=s.heap.get? b:=λb a=>LH _ _ (Ne.symm a);have i:∀b o,s.heap.get? b=some o->(∀vs,o.data≠.fields vs)->b≠T:=λb o a c q=>by rw[q,r]at a;injection a with a;subst a;exact c u g
 unfold setFlight;refine q04 (wpAny_field v w h1 ?_);rw[q07 (show(Value.ref T != Value.none)=true from by simp)];refine wpAny_setField r g j (h _ ⟨λb o a=>(d b λq=>by rw[q,m]at a;cases a).trans (x.st b o a),x.new,x.ff.of_keeps λb o a c=>⟨o,(d b (i b o a c)).trans a,rfl⟩,?_⟩ λb o a c=>⟨o.slots,(d b (i b o a c)).trans a⟩);exact⟨y,vs,T,_,_,(d e (Ne.symm n)).trans v,B,z,w,h1,m,n,LM _ r (Obj.isFreed_of_fields (Obj.data_mapFields g _)),Obj.data_mapFields g _,by simp[j],p⟩
theorem CZ{oe:Obj}{head:Value}{hadNext:Bool}(hfr:A.frames=some (env::outer))(hl:s.heap.FunFrames base (env::outer))(hf:env.frame=some L)
  (he:s.heap.get? e=some oe) (hkb:base.StaysIn s.heap) (hen:base.get? e=none) (hd:oe.data=.fields vs) (hsz:1<vs.size) (hcx:∃cx,vs[2]?=some cx/\cp cx)
  (h:∀h',lg cp base (env::outer) e oe.cls oe.dict (rawInt L) h'->s.heap.UpToSlots h'->Q () {s with heap:=h' }) :
  wpAny M A (do let a <- frameOf env;let pl <- entryPlaceOf L hadNext;let b <- EntryCells.newEntry head a .none (rawInt L) .none pl;setField (.ref e) 1 b) Q E s:=by
 have r:e∉(env::outer).filterMap (·.frame):=λz=>by
  obtain⟨_,o,x,d⟩:=hl.mem z;rw[he]at x;injection x with x;subst x;exact d vs hd
 refine q04 (wpAny_frameOf_fun hfr hl hf λg i=>?_);refine q04 (wpAny_entryPlaceOf λpl m=>?_);unfold EntryCells.newEntry newFields;refine q04 (wpAny_newObj_type ?_ (m.sizeOk5 _ _ _ _ _));have p:g.get? e=some oe:=(i.2.1 e r).trans he;have l:base.StaysIn g:=λb o c=>(i.2.1 b λz=>by rw[(hl.mem z).1]at c;cases c).trans (hkb b o c);generalize w:({cls:=.type "traceback",dict:=none,data:=.fields ([head,.ref L,.none,rawInt L,.none]++(if pl.isEmpty then List.replicate 6 Value.none else pl)).toArray}:Obj)=To;have C:To.data=.fields ([head,.ref L,.none,rawInt L,.none]++(if pl.isEmpty then List.replicate 6 Value.none else pl)).toArray:=by rw[<- w]
 have n:=LB (h:=g) To p;have v:g.objs.size≠e:=Nat.ne_of_gt (L5 p);have keep:∀b o,b≠e->g.get? b=some o->((g.push To).update e (Obj.mapFields (·.setIfInBounds 1 (Value.ref g.objs.size)))).get? b=some o:=λb o B c=>by
  rw[LH _ _ (Ne.symm B)];exact LB _ c
 have j:∀b o,s.heap.get? b=some o->(∀vs,o.data≠.fields vs)->b≠e:=λb o c d q=>by
  rw[q,he]at c
  injection c with c
  subst c;exact d vs hd
 refine wpAny_setField n hd hsz (h _ ?_ ?_)
 ·have u:=Obj.data_mapFields hd (·.setIfInBounds 1 (Value.ref g.objs.size))
  refine⟨λb o c=>keep b o (λq=>by rw[q,hen]at c;cases c) (l b o c),hen,hl.of_keeps λb o c d=>?_,?_⟩
  ·obtain⟨D,y⟩:=i.2.2 b o c
   exact⟨_,keep b _ (j b o c d) y,rfl⟩
  ·refine⟨_,_,g.objs.size,To,_,LM _ n (Obj.isFreed_of_fields u),Obj.cls_mapFields _ _,oY _ _,u,by simp[hsz],l.fresh,v,?_,C,?_,?_⟩
   ·rw[LH _ _ (Ne.symm v)]
    refine LI _ ?_;rw[<- w];rfl
   ·first | (simp;done) | (rcases m with rfl | ⟨_,_,_,_,_,_,_,rfl⟩<;>simp)
   ·obtain⟨cx,h2,G⟩:=hcx
    exact⟨cx,by rw[Array.getElem?_setIfInBounds_ne nofun];exact h2,G⟩
 ·intro b o c d
  obtain⟨D,y⟩:=i.2.2 b o c;exact⟨D,keep b _ (j b o c d) y⟩
theorem Hb{cls:Value}{od:ML}(hfr:A.frames=some (env::outer))(hf:env.frame=some L)(x:lg cp base (env::outer) e cls od .none s.heap)
  (h:∀h',lg cp base (env::outer) e cls od (rawInt L) h'->s.heap.UpToSlots h'->Q () {s with heap:=h' }):wpAny M A (noteFrame (.ref e) env) Q E s:=by
 obtain⟨oe,vs,T,oT,v,p,z,w,r,h1,j,m,n,i,u,l⟩:=x.tr;subst z w;unfold noteFrame;simp only[hf];refine q04 (wpAny_field p r h1 ?_);rw[q07 (show(Value.ref T != Value.none)=true from by simp)];refine q04 (wpAny_field n i u ?_);rw[q06 (show ¬ ((Value.none==rawInt L)=true) from by simp[rawInt])];refine q04 (wpAny_setField n i (Array.getElem?_eq_some_iff.mp u).1 ?_);have d:∀b,b≠T->(s.heap.update T (Obj.mapFields (·.setIfInBounds 3 Value.none))).get? b=s.heap.get? b:=λb a=>LH _ _ (Ne.symm a);have g:∀b o,s.heap.get? b=some o->(∀vs,o.data≠.fields vs)->b≠T:=λb o a c q=>by rw[q,n]at a;injection a with a;subst a;exact c v i
 refine CZ hfr (x.ff.of_keeps λb o a c=>⟨o,(d b (g b o a c)).trans a,rfl⟩) hf ((d e (Ne.symm m)).trans p) (λb o a=>(d b λq=>by rw[q,j]at a;cases a).trans (x.st b o a)) x.new r (Array.getElem?_eq_some_iff.mp h1).1 l λh' y up=>h h' y λb o a c=>up b o ((d b (g b o a c)).trans a) c
theorem Gb{oe:Obj}(hfr:A.frames=some (env::outer))(hl:s.heap.FunFrames base (env::outer))(hf:env.frame=some L)(he:s.heap.get? e=some oe)(hkb:base.StaysIn s.heap)(hen:base.get? e=none)(hd:oe.data=.fields vs)(h1:vs[1]?=some .none)(hcx:∃cx,vs[2]?=some cx/\cp cx)
  (h:∀h',lg cp base (env::outer) e oe.cls oe.dict (rawInt L) h'->s.heap.UpToSlots h'->Q () {s with heap:=h' }):wpAny M A (noteFrame (.ref e) env) Q E s:=by
 unfold noteFrame;simp only[hf];refine q04 (wpAny_field he hd h1 ?_);rw[q06 nofun];exact CZ hfr hl hf he hkb hen hd (Array.getElem?_eq_some_iff.mp h1).1 hcx h
theorem lg.drop{cls fl:Value}{od:ML}(x:lg cp base (env::outer) e cls od fl h):lg cp base outer e cls od fl h:=⟨x.st,x.new,x.ff.2.2,x.tr⟩
theorem Gm{cls:Value}{od:ML}(hfr:A.frames=some (env::outer))(hf:env.frame=some L)(x:lg cp base (env::outer) e cls od .none s.heap)
  (h:∀h',lg cp base outer e cls od .none h'->s.heap.UpToSlots h'->Q () {s with heap:=h' }):wpAny M A (leaving env (.ref e)) Q E s:=by
 unfold leaving;exact q04 (Hb hfr hf x λh1 b d=>zi b λh2 a c=>h h2 a.drop (d.trans c))
theorem DR{oe:Obj}(hfr:A.frames=some (env::outer))(hl:s.heap.FunFrames base (env::outer))(hf:env.frame=some L)(he:s.heap.get? e=some oe)(hkb:base.StaysIn s.heap)(hen:base.get? e=none)(hd:oe.data=.fields vs)(h1:vs[1]?=some .none)(hcx:∃cx,vs[2]?=some cx/\cp cx)
  (h:∀h',lg cp base outer e oe.cls oe.dict .none h'->s.heap.UpToSlots h'->Q () {s with heap:=h' }):wpAny M A (leaving env (.ref e)) Q E s:=by
 unfold leaving;exact q04 (Gb hfr hl hf he hkb hen hd h1 hcx λh1 b d=>zi b λh2 a c=>h h2 a.drop (d.trans c))
end
end PySem
namespace L2
open PySem PySem.Spec PyProof.Rows
structure Fly0(P:ME)(w:MJ)(outer:List Env)(H:Hp)(s:My)(B:Heap)(H':Hp)(s':My):Prop where
 st:B.StaysIn s'.heap
 ff:s'.heap.FunFrames B outer
 un:Un (pz outer) [] H H' s.heap s'.heap
 hok:jD P w H' s'.heap
 cov:∀b o,H' b=some o->∃ob,B.get? b=some ob
 old:∀b o,s.heap.get? b=some o->b∉pz outer->∃o',B.get? b=some o'
 os:s'.os=s.os
 bare:AllBare s'.gens
structure GR(cp:Value->Prop)(P:ME)(w:MJ)(outer:List Env)(H:Hp)(s:My)(B:Heap)(H':Hp)(s':My)(ea:Addr)(cls:Value)(od:ML):Prop extends Fly0 P w outer H s B H' s' where
 fl:lg cp B outer ea cls od .none s'.heap
def HL(cp:Value->Prop)(P:ME)(w:MJ):iR:=λouter H s E e s'=>∃ea cls od B H',e=.ref ea/\GR cp P w outer H s B H' s' ea cls od/\H' ea=none/\E cls od H'
abbrev kU(P:ME)(w:MJ):iR:=HL (λv=>v=.none) P w
theorem dI{cp:Value->Prop}{X:Cx}:c5 (HL cp P w) X (λ_ _ _=>False):=λ_ _ _ _ _ _ _ h=>by
 obtain⟨_,_,_,_,_,_,_,_,f⟩:=h;exact f.elim
theorem Ae{B:Heap}(ok:jD P w H h)(cov:∀b o,H b=some o->∃ob,B.get? b=some ob)(k:B.StaysIn h)(k':B.StaysIn h'):jD P w H h':=λa o e=>
 (ok a o e).stay (λb u hb q=>by
  have hb':∃ob,B.get? b=some ob:=by
   rcases hb with rfl | hb
   ·exact cov _ _ e
   ·exact cov _ _ hb
  obtain⟨ob,c⟩:=hb';have:=k b ob c;rw[q]at this;cases this;exact k' b _ c) (λ_ q=>q) λ_ _ q=>q
theorem b6.there(x:b6 P w H h a o):∃ob,h.get? a=some ob:=by
 cases o with
 |lst xs=>obtain⟨_,_,_,_,e⟩:=x;exact⟨_,e⟩
 |tup xs=>obtain⟨_,_,_,ob,e,_⟩:=x;exact⟨_,e⟩
 |dK kvs=>obtain⟨_,_,_,_,o,_,_,e,_⟩:=x;exact⟨_,e⟩
 |dT kvs=>obtain⟨_,_,_,_,o,_,_,e,_⟩:=x;exact⟨_,e⟩
 |set S n=>obtain⟨o,_,_,_,e,_⟩:=x;exact⟨_,e⟩
 |ins C dx fs=>obtain⟨_,_,_,e,_⟩:=x;exact⟨_,e⟩
 |own y=>exact x
 |xd fs=>obtain⟨_,⟨_,_,_,e,_⟩,_⟩:=x;exact⟨_,e⟩
 |rng lo hi=>obtain⟨_,_,_,e⟩:=x;exact⟨_,e⟩
 |frz ob u=>obtain⟨e,_⟩:=x;exact⟨_,e⟩
 |tbl ps=>exact⟨_,show h.get? a=some _ from x⟩
 |met f y=>exact⟨_,show h.get? a=some _ from x⟩
 |ext φ=>obtain⟨_,e,_⟩:=x;exact e
section
variable {P:ME}{w:MJ}{K:Mv}{mg:MB}{base:Heap}{N:MF}{qual:Str}{scope:Scope}{f:Addr}{cd:Value}{A:MG}{outer:List Env}{s:My}{H:Hp}{E E1:XK}{CX:iR}
theorem Fly0.up{cp:Value->Prop}{pins:Mw}{σ:St}{H1:Hp}{s':My}{ea:Addr}{cls:Value}{od:ML}(I:Inv X pins σ H1 s1)(hex:X.ex=[])(hst:X.stack=X.env::X.outer)(hfr:X.env.frame=some X.env.locals)(hP:X.prog=P)(hw:X.w=w)
  (x:Fly0 P w X.stack H1 s1 B H' s') (fl2:lg cp B X.outer ea cls od .none h') (up:s'.heap.UpToSlots h') :
  GR cp P w X.outer X.H₀ X.s₀ B H' {s' with heap:=h' } ea cls od:=by
 have c:∀b,b∉X.ex:=λb=>by rw[hex];simp
 have l:∀b o,X.s₀.heap.get? b=some o->b∉X.fs->b∉pz X.stack:=λb o e a p=>by
  rw[hst]at p;unfold pz at p;rw[q0U,hfr]at p;rcases LR.mp p with z | z
  ·exact q0Q (L5 e) (by rw[z];exact Nat.not_lt.mpr I.ok.above)
  ·exact a z
 have j:∀b,b∈X.fs->b∈pz X.stack:=λb a=>by
  rw[hst];unfold pz;rw[q0U,hfr];exact LS _ a
 have D:∀b o,X.s₀.heap.get? b=some o->b∉X.fs->∃n,B.get? b=some n:=λb o e a=>by
  obtain⟨y,g⟩:=I.base.there b o e (c b);exact x.old b y g (l b o e a)
 have G:∀b∈X.fs,X.H₀ b=none:=I.ok.frf;have m:∀b o,X.s₀.heap.get? b=some o->X.H₀ b=none->b∈X.fs->∃m,h'.get? b=some {o with slots:=m}:=λb o e d a=>by
  obtain⟨sl1,g⟩:=I.base.slot b o e d a (c b);have C:=I.base.free b o e d (c b);obtain⟨sl2,i⟩:=x.un.slot b _ g C (j b a) (by simp);obtain⟨_,o3,L,O⟩:=x.ff.mem (j b a);rw[i]at L;cases L;obtain⟨v,T⟩:=up b _ i O;exact⟨v,T⟩
 refine⟨⟨fl2.st,fl2.ff,⟨λb o e d a _=>?_,λb o e d a _=>m b o e d a,λb o e d _=>?_,λb o e _=>?_,λb J q=>x.un.tups b J (I.base.tups b J q),λb o u q=>x.un.frzs b o u (I.base.frzs b o u q),λb M q=>?_⟩,Ae x.hok x.cov x.st fl2.st,x.cov,D,x.os.trans I.os,x.bare⟩,fl2⟩
 ·have g:=I.base.keep b o e d a (c b)
  have C:=I.base.free b o e d (c b);have i:=x.un.keep b o g C (l b o e a) (by simp);obtain⟨n,r⟩:=D b o e a;have:=x.st b n r;rw[i]at this;cases this;exact fl2.st b _ r
 ·obtain⟨y,g⟩:=I.base.there b o e (c b)
  exact x.un.free b y g (I.base.free b o e d (c b)) (by simp)
 ·by_cases a:b∈X.fs
  ·obtain⟨z,S⟩:=m b o e (G b a) a
   exact⟨_,S⟩
  ·obtain⟨n,r⟩:=D b o e a
   exact⟨_,fl2.st b _ r⟩
 ·obtain⟨m1,g⟩:=I.base.tbls b M q
  obtain⟨R,i⟩:=x.un.tbls b _ g;exact⟨m1++R,by rw[i,Array.append_assoc]⟩
theorem mB{cp:Value->Prop}(hE:∀c d H',E1 c d H'->E c d H'):c5 (HL cp P w) (iB (HL cp P w) P w K mg base N qual scope f cd A outer s H E) E1:=by
 intro pins σ H1 s1 e s' I x;obtain⟨l,g,i,B,H',rfl,a,j,q⟩:=x;refine Gm I.ok.frames rfl a.fl λh' b up=>?_;exact⟨l,g,i,B,H',rfl,Fly0.up I rfl rfl rfl rfl rfl a.toFly0 b up,j,hE _ _ _ q⟩
def B_(X:Cx)(E:XK):Prop:=∀(pins:Mw) (σ:St) (H:Hp) (s:My) (h':Heap) (e:Addr) (cls:Value) (vs:Mz),Inv X pins σ H s->Heap.MadeExcOf s.heap h' e cls vs->E cls none H->X.xe (.ref e) {s with heap:=h' }
theorem vz(hE:∀c d H',E1 c d H'->E c d H'):B_ (iB (kU P w) P w K mg base N qual scope f cd A outer s H E) E1:=by
 intro pins σ H1 s1 h1 e cls vs I x q;have m:∀i∈(iB (kU P w) P w K mg base N qual scope f cd A outer s H E).stack,∀b,i.frame=some b->b∈pz (iB (kU P w) P w K mg base N qual scope f cd A outer s H E).stack:=λi C b r=>List.mem_filterMap.mpr ⟨i,C,r⟩;obtain⟨t0,p,ht0,htt⟩:=x.there;have B:∀b,s1.heap.get? b=none->H1 b=none:=λb r=>by
  cases z:H1 b with
  |none=>rfl
  |some o=>
   obtain⟨y,g⟩:=(I.hok b o z).there;rw[r]at g;cases g
 have n:=PySem.W.funFrames_hide I.stack m;have a:Fly0 P w (iB (kU P w) P w K mg base N qual scope f cd A outer s H E).stack H1 s1 (PySem.W.hideAll s1.heap (pz (iB (kU P w) P w K mg base N qual scope f cd A outer s H E).stack)) H1 {s1 with heap:=h1}:=
  ⟨λb o e=>x.keeps b o (PySem.W.of_hideAll _ e),n.of_keeps λb o e _=>⟨o,x.keeps b o e,rfl⟩,Un.kept x.keeps,I.hok.kept x.keeps,λb o z=>by
   obtain⟨y,g⟩:=(I.hok b o z).there;exact⟨y,PySem.W.hideAll_get _ g λl=>by rw[I.stkFree b l]at z;cases z⟩,λb o e l=>⟨o,PySem.W.hideAll_get _ e l⟩,rfl,I.bare⟩
 have j:(PySem.W.hideAll s1.heap (pz (iB (kU P w) P w K mg base N qual scope f cd A outer s H E).stack)).get? e=none:=by
  cases z:(PySem.W.hideAll s1.heap (pz (iB (kU P w) P w K mg base N qual scope f cd A outer s H E).stack)).get? e with
  |none=>rfl
  |some o=>have:=PySem.W.of_hideAll _ z;rw[x.new]at this;cases this
 refine DR (cp:=λv=>v=.none) (s:={s1 with heap:=h1}) I.ok.frames a.ff rfl p a.st j rfl rfl ⟨_,rfl,rfl⟩ λh' u up=>?_;exact⟨e,cls,none,_,H1,rfl,Fly0.up I rfl rfl rfl rfl rfl a u up,B e x.new,hE _ _ _ q⟩
end
structure Ba(K:Mv)(C:Addr)(bmB:Mz)(newId:String):Prop where
 exc:PySem.W.excIn K C bmB newId=true
set_option tactic.hygienic true in
theorem Ba.obj{K:Mv}{bmB:Mz}{newId:String}(c:Ba K C bmB newId)(X:K.In h):∃bm N nm q bs hdct sn sub ab col dd k0 k1 k2 k3 k5 mN,
  h.get? C=some (excClassObj nm q C N bs bm hdct sn sub ab col dd k0 k1 k2 k3 k5 newId)/\h.Ns N mN/\mN "__init__"=none/\OwnTail h bmB bm/\∃dd' cd sl,K.lookup C=some ⟨.type "type",dd',.cls cd,sl⟩/\cd.mro=.ref C::bm:=by
 have q:=c.exc;unfold PySem.W.excIn at q;cases hl:K.lookup C with
 |none=>rw[hl]at q;cases q
 |some ob=>
  rw[hl]at q
  split at q
  ·rename_i dd cd sl e
   cases e
   split at q
   ·rename_i C' bm k0 k1 k2 k3 n k5 hm hs
    simp only[q0O,beq_iff_eq,Bool.not_eq_true']at q;obtain⟨⟨⟨⟨⟨rfl,rfl⟩,hdel⟩,ht⟩,hok⟩,hni⟩:=q;have ho:=X _ _ hl;have hsl:sl=#[k0,k1,k2,k3,some (.builtin n),k5]:=Array.toList_inj.mp hs;subst hsl;obtain⟨nm,bs,mro,ns,qn,hd,sn,sub,ab,col,del⟩:=cd;dsimp only at hm hdel hok hni ho;subst hm hdel;exact⟨bm,ns,nm,qn,bs,hd,sn,sub,ab,col,dd,k0,k1,k2,k3,k5,_,ho,.of_isNs (PySem.W.isNs_of_in X hok),PySem.W.nsMap_none_of_in X hok hni,PySem.W.tail_of_in X ht,dd,_,_,rfl,rfl⟩
   ·cases q
  ·cases q
section
variable {X:Cx}{x:Str}{np cpos pos:Pos}{e₀:Expr}{cv:MM}{t:TA}{C:Addr}{B Bn newId nid initId inN:String}{bm bmN:Mz}{E:XK}
def tR(C:Addr)(E:XK)(t:TA):TS:=λ_ σ H=>t σ H λvs H1=>vs.length<=sizeLine/\E (.ref C) none H1
theorem B7(c:Ba X.K C bm newId)(Fn:ExcBaseFacts Bn newId inN bmN)(hBn:bm.contains (.type Bn)=true)(FB:ExcBaseFacts B nid initId bm)(hc:X.calm=true)(hg:Gl X x)(hm:X.mg x=some (.ref C))(hx:B_ X E)(ha:PA X (e₀::cv) t)
  (hd:autoParam ((x==("__debug__":Str))=false) zz2._auto_1)
  (he:autoParam (starEach (e₀::cv) X.env=(false,eval e₀ X.env)::starEach cv X.env) zz0._auto_1) (hpl:autoParam ((backTo cpos (starEach cv X.env)).any (·.1)=false) zz0._auto_1) :
  PS X (.Raise (some (.Call (.Name x np) (e₀::cv) [] cpos)) none pos) (tR C E t):=by
 intro a s σ H D I h;obtain⟨j,N,nm,q,bs,hdct,sn,sub,ab,col,dd,k0,k1,k2,k3,k5,mN,p,o,i,T,_⟩:=c.obj I.mod.kin;refine wpAny_Raise_call_subU (C:=C) (nm:=nm) (q:=q) (N:=N) (bs:=bs) (bm:=j) (hdct:=hdct) (sn:=sn) (sub:=sub) (ab:=ab) (col:=col) (dd:=dd) (k0:=k0) (k1:=k1) (k2:=k2) (k3:=k3) (k5:=k5)
  Fn hBn FB (mN:=mN) (T.hasType FB.hasBase) (I.ok.hd hc) (by rw[he];show(false||(backTo cpos (starEach cv X.env)).any (·.1))=false;rw[hpl];rfl) i (kW I hg hm ⟨rfl,?_⟩ hd)
 rw[he];have b:=ha cpos a s σ H _ I h;rw[he]at b;exact Calls.evalArgs_plain (q0W b (λus l ⟨vs,H1,d,m,z,n⟩=>⟨rfl,by rw[<- m.length];exact z,d.bk _ _ p,o.keeps d.bk,T.keeps d.bk,λr e g=>hx a σ H1 l r e _ _ d g n⟩) λ_ _ y=>y)
end
end L2
namespace L2
open PySem PySem.Spec PyProof.Rows
section
variable {X:Cx}{pins:Mw}{σ:St}{H:Hp}{s:My}
theorem Inv.moved{ch:MA}{h':Heap}{tk:Nat}(I:Inv X pins σ H s)(hf:∀b∈ch,mW X pins H b)(k:∀b o,b∉ch->s.heap.get? b=some o->h'.get? b=some o):Inv X pins σ H {s with heap:=h',toks:=tk}:=by
 have a:∀b o,H b=some o->b∉ch:=λb o e z=>by rw[(hf b z).1]at e;cases e
 refine I.call' (s':={s with heap:=h',toks:=tk}) (ch:=ch) rfl ⟨λb o e _ _ hc=>k b o hc e,λb o e _ _ hc=>⟨o.slots,k b o hc e⟩,λb o e n hc=>n,λb o e hc=>⟨o,k b o hc e⟩,λb xs q=>q,λb o y q=>q,λb qs q=>⟨#[],by rw[q];simp⟩⟩
  (λb o e=>(I.hok b o e).stay (λc u hc q=>k c u (by
   rcases hc with rfl | hc
   ·exact a _ _ e
   ·exact a _ _ hc) q) (λ_ q=>q) λ_ _ q=>q) I.bare λb d=>?_
 obtain⟨f0,l,f2,j,i,g⟩:=hf b d;exact⟨j,l,i,g⟩
theorem Inv.movedT{ch:MA}{h':Heap}{tk:Nat}{T:Addr}{ob:HO}(I:Inv X pins σ H s)(hf:∀b∈ch,mW X pins H b)(k:∀b o,b∉ch->s.heap.get? b=some o->h'.get? b=some o)(hT:s.heap.objs.size<=T)(new:b6 X.prog X.w (aD H T ob) h' T ob) :
  Inv X pins σ (aD H T ob) {s with heap:=h',toks:=tk}:=by
 have g:∀b o,H b=some o->b∉ch:=λb o e z=>by rw[(hf b z).1]at e;cases e
 have a:H T=none:=I.hok.fresh hT;have j:∀b o,s.heap.get? b=some o->b≠T:=λb o e z=>by rw[z]at e;exact q0Q (L5 e) (Nat.not_lt.mpr hT)
 refine I.call' (s':={s with heap:=h',toks:=tk}) (ch:=ch) rfl ⟨λb o e _ _ hc=>k b o hc e,λb o e _ _ hc=>⟨o.slots,k b o hc e⟩,λb o e n hc=>by rw[ar (j b o e)];exact n,λb o e hc=>⟨o,k b o hc e⟩,λb i q=>by rw[ar (aA q a)];exact q,λb o y q=>by rw[ar (aA q a)];exact q,λb qs q=>⟨#[],by rw[ar (aA q a),q];simp⟩⟩
  (λb o e=>?_) I.bare λb d=>?_
 ·by_cases d:b=T
  ·subst d
   rw[ae]at e;cases e;exact new
  ·rw[ar d]at e
   exact(I.hok b o e).stay (λc u hc q=>k c u (by
    rcases hc with rfl | hc
    ·exact g _ _ e
    ·exact g _ _ hc) q) (λc q=>by rw[ar (aA q a)];exact q) λc i q=>by rw[ar (aA q a)];exact q
 ·obtain⟨f0,r,f2,p,m,l⟩:=hf b d
  exact⟨p,r,m,l⟩
end
def Hy(K:Mv)(a b:Addr):It:=
 ⟨λi H=>∃xs ys x y,aI K H a xs/\aI K H b ys/\xs[i]?=some x/\ys[i]?=some y,λi H v H'=>∃T x y,v=.ref T/\H T=none/\H'=aD H T (.tup [x,y])/\(∀xs,aI K H a xs->xs[i]?=some x)/\∀ys,aI K H b ys->ys[i]?=some y,
  λi H=>∃xs ys,aI K H a xs/\aI K H b ys/\(xs.length<=i\/ys.length<=i)⟩
theorem Di{K:Mv}{elts:MM}{tp:Pos}{TI TO:Addr}(D:ZipApart z TI TO i1 i2 l1 l2) :
  tK P w K (.Tuple elts x1 tp) (Hy K l1 l2) [z,TI,TO,i1,i2] z (λi h=>IsZip h z TI TO .none/\IsPair h TI (.ref i1) (.ref i2)/\(∃a b,IsPair h TO a b)/\h.IsListIter i1 l1 i/\h.IsListIter i2 l2 i) where
 mem:=by simp
 obj:=λi h n b L=>by
  obtain⟨p,d,⟨a,c,g⟩,⟨o1,e1,c1,d1⟩,⟨o2,e2,c2,d2⟩⟩:=n;simp only[LR,List.not_mem_nil,or_false]at L;rcases L with rfl | rfl | rfl | rfl | rfl
  ·exact⟨_,p,λv q=>by cases q⟩
  ·exact⟨_,d,λv q=>by cases q⟩
  ·exact⟨_,g,λv q=>by cases q⟩
  ·exact⟨_,e1,λv q=>by rw[d1]at q;cases q⟩
  ·exact⟨_,e2,λv q=>by rw[d2]at q;cases q⟩
 keep:=λi h h' n m=>by
  obtain⟨p,d,⟨a,b,g⟩,h1,h2⟩:=n;exact⟨m z (by simp) _ p,m TI (by simp) _ d,⟨a,b,m TO (by simp) _ g⟩,h1.at λo e=>m i1 (by simp) o e,h2.at λo e=>m i2 (by simp) o e⟩
 item:=by
  intro X hP hw hK l i M s σ H E I hf n hg;subst hP hw hK;obtain⟨xs,ys,x,y,u,r,hx,hy⟩:=hg;obtain⟨R,C,p1,a7⟩:=I.list u;obtain⟨O,B,p2,a0⟩:=I.list r;obtain⟨U,b0,Z⟩:=C.get hx;obtain⟨T,a9,Y⟩:=B.get hy;obtain⟨p,d,⟨a,b,g⟩,h1,h2⟩:=n;refine wpAny_pyNext_zip_item D p d g h1 h2 p1.isList p2.isList (x:=U) (y:=T) (by simpa using b0) (by simpa using a9) λh' a1 a2 a3 a4 a5 a6 m=>?_;refine⟨_,rfl,wpAny_letOwnedTupleGo_zip a1 λS a8 j=>?_⟩;have J:H s.heap.objs.size=none:=I.hok.fresh (L1 _);have lt:∀{c o},s.heap.get? c=some o->s.heap.objs.size≠c:=λe=>Nat.ne_of_gt (L5 e);have kk:∀c o,c∉[z,TI,TO,i1,i2]->s.heap.get? c=some o->S.get? c=some o:=λc o l e=>
   j.extBut _ _ (λq=>l (by simp[q])) (m c o (λq=>l (by simp[q])) (λq=>l (by simp[q])) (λq=>l (by simp[q])) (λq=>l (by simp[q])) e)
  have hT:S.get? s.heap.objs.size=some {cls:=.type "tuple",data:=.seq #[U,T]}:=j.extBut _ _ (lt p) a5;refine⟨.ref s.heap.objs.size,aD H s.heap.objs.size (.tup [x,y]),I.movedT (tk:=s.toks) hf kk (L1 _) ⟨show 2<=sizeLine from by decide +kernel,[U,T],.cons Z (.cons Y .nil),_,hT,rfl,_,rfl⟩,rfl,
   ⟨_,x,y,rfl,J,rfl,λzs G=>by rw[I.list_inj G u];exact hx,λzs G=>by rw[I.list_inj G r];exact hy⟩,
   ⟨a8,j.extBut _ _ D.TIz (m _ _ D.TIz D.TITO D.TIi1 D.TIi2 d),⟨_,_,j.extBut _ _ D.TOz a2⟩,a3.extBut j.extBut D.i1z,a4.extBut j.extBut D.i2z⟩,λb L=>?_⟩
  have b1:b≠s.heap.objs.size:=by
   obtain⟨o1,e1,_⟩:=h1;obtain⟨o2,e2,_⟩:=h2;simp only[LR,List.not_mem_nil,or_false]at L;rcases L with rfl | rfl | rfl | rfl | rfl
   ·exact(lt p).symm
   ·exact(lt d).symm
   ·exact(lt g).symm
   ·exact(lt e1).symm
   ·exact(lt e2).symm
  rw[ar b1];exact(hf b L).1
 done:=by
  intro X hP hw hK l i M s σ H E I hf n hg;subst hP hw hK;obtain⟨xs,ys,u,r,hx⟩:=hg;obtain⟨R,C,p1,a7⟩:=I.list u;obtain⟨O,B,p2,a0⟩:=I.list r;obtain⟨p,d,⟨a,b,g⟩,h1,h2⟩:=n;have l1':=C.length;have l2':=B.length;refine wpAny_pyNext_zip_end (I.ok.hd l) D p d g h1 h2 p1.isList p2.isList ?_ λh' m=>⟨rfl,I.moved (tk:=s.toks) hf λc o l e=>m c o (λq=>l (by simp[q])) (λq=>l (by simp[q])) (λq=>l (by simp[q])) (λq=>l (by simp[q])) e⟩;rcases hx with hx | hx
  ·exact .inl (by simp;omega)
  ·exact .inr (by simp;omega)
 self:=λ_ _ _ _ _ n h=>wpAny_pyIter_zip n.1 h
theorem AQ(n l1 l2:Nat)(h1:l1<n)(h2:l2<n):ZipApart (n+4) (n+2) (n+3) n (n+1) l1 l2:=by
 constructor<;>exact λe=>q0Q (show(_:Nat)=_ from e) ⋯
section
variable {X:Cx}{elts:MM}{x1:Nat}{tp:Pos}
def Gf(K:Mv)(ta:TA):TI:=λσ H R=>ta σ H λvs H1=>∃a b xs ys,vs=[.ref a,.ref b]/\aI K H1 a xs/\aI K H1 b ys/\R (Hy K a b) H1
theorem FQ{a b:Expr}{ta:TA}{p pos:Pos}(hg:Gl X "zip")(hm:X.mg "zip"=none)(ha:PA X [a,b] ta)(hs:autoParam (starEach [a,b] X.env=[(false,eval a X.env),(false,eval b X.env)]) zz0._auto_1)(hs2:autoParam (starEach [b] X.env=[(false,eval b X.env)]) zz0._auto_1):PI X (.Tuple elts x1 tp) (.Call (.Name "zip" p) [a,b] [] pos) (Gf X.K ta):=by
 intro d s σ H R I h;refine Call_ (eR I hg hm boot_zip (PyProof.Rows.callWith_type1 (bY (ha pos d s σ H _ I h) λus c ⟨vs,H1,i,J,L⟩=>?_) (by rw[hs,hs2]) (by rw[hs2];rfl)));obtain⟨l1,l2,xs,ys,rfl,n,m,q⟩:=L;obtain⟨u,v,rfl,G,D⟩:=J.two;cases G;cases D;obtain⟨its1,rv1,w,_⟩:=i.list n;obtain⟨its2,rv2,r,_⟩:=i.list m;refine call_zip_2 w.isList r.isList λO o C B z y z6 M=>?_;have l:l1<c.heap.objs.size:=by obtain⟨_,e,_⟩:=w.isList;exact L5 e
 have j:l2<c.heap.objs.size:=by obtain⟨_,e,_⟩:=r.isList;exact L5 e
 have S:Inv X d σ H1 {c with heap:=O }:=i.kept (t':=c.toks) M;refine wpAny_pyIter_zip o ?_;refine⟨c.heap.objs.size+4,[c.heap.objs.size+4,c.heap.objs.size+2,c.heap.objs.size+3,c.heap.objs.size,c.heap.objs.size+1],_,_,H1,rfl,S,Di (l1:=l1) (l2:=l2) ?_,⟨o,C,⟨_,_,B⟩,z,y⟩,λb x=>?_,q⟩
 ·exact AQ _ _ _ l j
 ·have g:c.heap.objs.size<=b:=by
   simp only[LR,List.not_mem_nil,or_false]at x;rcases x with e | e | e | e | e<;>(rw[e];first | exact L1 _ | exact Nat.le_add_right _ _)
  exact i.fpOk g (i.hok.fresh g)
end
end L2
namespace PySem.W
open PySem PySem.Spec PySem.Calls PyProof.Rows
section
variable {prog:ME}{w:MJ}{A:MG}{E:Mu}{s:My}{K:Frag}{x D:Addr}{ox:Obj}{odo:Option Obj}{name:Str}
structure XTy(K:Frag)(D:Addr):Prop where
 ga:findIn K (.ref D) "__getattribute__"=some (some (.builtin "BaseException.__getattribute__"))
 gh:findIn K (.ref D) "__getattr__"=some none
 mb:mroIn K D (.type "BaseException")=some true
 mo:mroIn K D (.type "object")=some true
 ha:findIn K (.ref D) "__class__"=some (some (.builtin "object.__class__"))
 hn:specialIn K (.builtin "object.__class__") "__get__"=some (some (.builtin "getset_descriptor.__get__"))
 tk:takesIn K (.builtin "object.__class__")=some true
 cl:∃dd cd sl,K.lookup D=some ⟨.type "type",dd,.cls cd,sl⟩
end
end PySem.W
namespace L2
open PySem PySem.Spec PyProof.Rows
structure XR(K:Mv)(C:Addr):Prop where
 ex:∃(bm bmN:Mz) (newId Bn inN B nid initId:String),Ba K C bm newId/\ExcBaseFacts Bn newId inN bmN/\bm.contains (.type Bn)=true/\ExcBaseFacts B nid initId bm
theorem rq{X:Cx}{np cpos pos:Pos}{e₀:Expr}{cv:MM}{t:TA}(c:XR X.K C)(hc:X.calm=true)(hg:Gl X x)(hm:X.mg x=some (.ref C))(hx:B_ X E)(ha:PA X (e₀::cv) t)
  (hd:autoParam ((x==("__debug__":Str))=false) zz2._auto_1)
  (he:autoParam (starEach (e₀::cv) X.env=(false,eval e₀ X.env)::starEach cv X.env) zz0._auto_1) (hpl:autoParam ((backTo cpos (starEach cv X.env)).any (·.1)=false) zz0._auto_1) :
  PS X (.Raise (some (.Call (.Name x np) (e₀::cv) [] cpos)) none pos) (tR C E t):=by
 obtain⟨bm,bmN,newId,Bn,inN,B,nid,initId,e,d,b,a⟩:=c.ex;exact B7 e d b a hc hg hm hx ha hd he hpl
section
variable {P:ME}{w:MJ}{K:Mv}{mg:MB}{base:Heap}
theorem cZ.okX{qual:Str}{st:Stmt}{f:Addr}{ps:MF}{k:Nat}{sp:Sp}(F:cZ K x qual st f fd)(S:aC N ps (ao st))(len:∀vs H Q E,sp vs H Q E->vs.length=ps.length)
  (hbody:∀(cdv:Value) (A:MG) (outer:List Env) (s:My) (H:Hp) (vs:List V) (Q:VK) (E:XK),cT k (A.deeper (envOfC qual (ao st) s.heap.objs.size f cdv))->sp vs H Q E ->
   ∃t,uE (iB (kU P w) P w K mg base N qual (ao st) f cdv A outer s H E) (cB st) t/\t {nx:=λ_ H'=>Q .non H',rt:=Q} (start N vs) H):aY P w K mg base (kU P w) (k+1) f fd ps sp:=by
 obtain⟨oc,od,kV,doc,pm,an,cdv,ct,osl,rfl,c,b⟩:=F.ex;exact BQ c b S len λA outer s H vs Q E hr a=>hbody cdv A outer s H vs Q E hr a
theorem aY.lift{CX:iR}{k:Nat}{f:Addr}{ps:MF}{sp:Sp}(F:↑aY k f fd ps sp):aY P w K mg base CX k f fd ps sp:=
 ⟨F.len,λA outer s H args us vs Q E hr he hb hv hs=>codeAny_mono (F.run A outer s H args us vs Q E hr he hb hv hs) λr s' hq=>by
  cases r with
  |error e=>exact False.elim hq
  |ok fl=>cases fl<;>exact hq⟩
theorem dk.lift{CX:iR}{k:Nat}{ps:MF}{sp:Sp}(c:↑dk k x ps sp):dk P w K mg base CX k x ps sp:=by
 obtain⟨f,a,F,r⟩:=c.ex;exact⟨f,a,F.lift,r⟩
end
theorem kG{X:Cx}{K:Mv}{es:MM}{k:Nat}{t:DA}{n:Nat}{pos:Pos}(hK:X.K=K)(hc:X.calm=true)(h:GF X es t)
  (hn:autoParam ((assignEach es X.env).length=n) zz0._auto_1) (hst:autoParam ((assignEach es X.env).findIdx? (·.1)=none) zz0._auto_1):PG X (.Tuple es k pos) (w8 K n t):=hK▸ye hc h hn hst
section
variable {K:Mv}{g:TG}{ti:TT}{te:TE}{σ:St}{H:Hp}{Q:List V->Hp->Prop}
theorem BJ{b:Addr}{xs ys:List V}{n:Nat}(hn:n=min xs.length ys.length)(Pv:Nat->List V->St->Hp->Prop)(h0:Pv 0 [] σ H)(hz:∀i acc σ H,Pv i acc σ H->acc.length<sizeLine)(hi:∀i acc σ H,Pv i acc σ H->i<=n)
  (hl:∀i acc σ H,Pv i acc σ H->aI K H a xs/\aI K H b ys)
  (hs:∀i x y acc σ H T,xs[i]?=some x->ys[i]?=some y->Pv i acc σ H->H T=none->g (.ref T) σ (aD H T (.tup [x,y])) λσ2 H3=>ti σ2 H3 λb H4=>if b=true then te σ2 H4 λv H5=>Pv (i+1) (acc++[v]) σ2 H5 else Pv (i+1) acc σ2 H4)
  (he:∀acc σ H,Pv n acc σ H->Q acc H):fN (Hy K a b) g ti te σ H Q:=by
 refine jb (J:=Hy K a b) (g:=g) (ti:=ti) (te:=te) (Q:=Q) (n:=n) Pv h0 hz hi (λacc σ H w=>⟨xs,ys,(hl _ _ _ _ w).1,(hl _ _ _ _ w).2,⋯⟩)
  (λi acc σ H hlt w=>⟨xs,ys,xs[i]'⋯,ys[i]'⋯,(hl _ _ _ _ w).1,(hl _ _ _ _ w).2,Lz ⋯,Lz ⋯⟩) (λi x acc σ H H2 hlt w y=>?_) he
 obtain⟨T,x,y,rfl,e,rfl,d,c⟩:=y;exact hs i x y acc σ H T (d xs (hl _ _ _ _ w).1) (c ys (hl _ _ _ _ w).2) w e
end
end L2
namespace L2
open PySem PySem.Spec PyProof.Rows
def Hj(K:Mv)(a:Addr):It:=
 ⟨λi H=>∃xs x,aI K H a xs/\xs[i]?=some x,λi H v H'=>∃T x,v=.ref T/\H T=none/\H'=aD H T (.tup [.int (i:Int),x])/\∀xs,aI K H a xs->xs[i]?=some x,λi H=>∃xs,aI K H a xs/\xs.length<=i⟩
theorem Ar{K:Mv}{elts:MM}{tp:Pos}{e it:Addr}(hei:e≠it) :
  tK P w K (.Tuple elts x1 tp) (Hj K l) [e,it] e (λi h=>(∃old,IsEnum h e it i old)/\h.IsListIter it l i) where
 mem:=by simp
 obj:=λi h d b r=>by
  obtain⟨⟨old,a⟩,⟨o1,T,c1,d1⟩⟩:=d;simp only[LR,List.not_mem_nil,or_false]at r;rcases r with rfl | rfl
  ·exact⟨_,a,λv q=>by cases q⟩
  ·exact⟨_,T,λv q=>by rw[d1]at q;cases q⟩
 keep:=λi h U d n=>by
  obtain⟨⟨old,a⟩,h1⟩:=d;exact⟨⟨old,n e (by simp) _ a⟩,h1.at λo e'=>n it (by simp) o e'⟩
 item:=by
  intro X R L S g i y s σ H E I hf d hg;subst R L S;obtain⟨Y,x,B,J⟩:=hg;obtain⟨D,C,p,hz⟩:=I.list B;obtain⟨u,hu,Z⟩:=C.get J;obtain⟨⟨old,a⟩,h1⟩:=d;obtain⟨o1,T,_⟩:=id h1;refine wpAny_pyNext_enum_item a h1 p.isList (x:=u) (by simpa using hu) hei λU a1 a2 a3 a4 n=>?_;refine⟨_,rfl,wpAny_letOwnedTupleGo_enum a1 λh2 O j=>?_⟩;have m:H s.heap.objs.size=none:=I.hok.fresh (L1 _);have lt:∀{c o},s.heap.get? c=some o->s.heap.objs.size≠c:=λe=>Nat.ne_of_gt (L5 e);have kk:∀c o,c∉[e,it]->s.heap.get? c=some o->h2.get? c=some o:=λc o g q=>
   j.extBut _ _ (λz=>g (by simp[z])) (n c o (λz=>g (by simp[z])) (λz=>g (by simp[z])) q)
  have hT:h2.get? s.heap.objs.size=some {cls:=.type "tuple",data:=.seq #[.int i s.toks,u]}:=j.extBut _ _ (lt a) a3;refine⟨.ref s.heap.objs.size,aD H s.heap.objs.size (.tup [.int i,x]),I.movedT (tk:=s.toks+1) hf kk (L1 _) ⟨show 2<=sizeLine from by decide +kernel,[.int i s.toks,u],.cons ⟨_,rfl⟩ (.cons Z .nil),_,hT,rfl,_,rfl⟩,rfl,
   ⟨_,x,rfl,m,rfl,λzs G=>by rw[I.list_inj G B];exact J⟩,⟨⟨u,by simpa using O⟩,a2.extBut j.extBut (Ne.symm hei)⟩,λb r=>?_⟩
  have M:b≠s.heap.objs.size:=by
   simp only[LR,List.not_mem_nil,or_false]at r;rcases r with rfl | rfl
   ·exact(lt a).symm
   ·exact(lt T).symm
  rw[ar M];exact(hf b r).1
 done:=by
  intro X R L S g i y s σ H E I hf d hg;subst R L S;obtain⟨Y,B,J⟩:=hg;obtain⟨D,C,p,hz⟩:=I.list B;obtain⟨⟨old,a⟩,h1⟩:=d;have l1':=C.length;refine wpAny_pyNext_enum_end (I.ok.hd g) a h1 p.isList (by simp;omega) λU n=>⟨rfl,I.moved (tk:=s.toks) hf λc o g e=>n c o (λq=>g (by simp[q])) e⟩
 self:=λ_ _ _ _ _ d h=>let ⟨⟨_,a⟩,_⟩:=d;wpAny_pyIter_enum a h
section
variable {X:Cx}{elts:MM}{x1:Nat}{tp:Pos}
def Bs(K:Mv)(ta:TA):TI:=λσ H R=>ta σ H λvs H1=>∃a xs,vs=[.ref a]/\aI K H1 a xs/\R (Hj K a) H1
theorem nR{a:Expr}{ta:TA}{p pos:Pos}(hg:Gl X "enumerate")(hm:X.mg "enumerate"=none)(ha:PA X [a] ta)(hs:autoParam (starEach [a] X.env=[(false,eval a X.env)]) zz0._auto_1):PI X (.Tuple elts x1 tp) (.Call (.Name "enumerate" p) [a] [] pos) (Bs X.K ta):=by
 intro c s σ H R I h;refine Call_ (eR I hg hm boot_enumerate (PyProof.Rows.callWith_type1 (bY (ha pos c s σ H _ I h) λus d ⟨vs,H1,i,r,v⟩=>?_) (by rw[hs];rfl) (by rfl)));obtain⟨l,xs,rfl,x,q⟩:=v;obtain⟨u,rfl,o⟩:=r.one;cases o;obtain⟨its,rv,w,_⟩:=i.list x;refine call_enumerate_list w.isList λz j n z3 y=>?_;have B:Inv X c σ H1 {d with heap:=z }:=i.kept (t':=d.toks) y;refine wpAny_pyIter_enum j ?_;refine⟨d.heap.objs.size+1,[d.heap.objs.size+1,d.heap.objs.size],_,_,H1,rfl,B,Ar (l:=l) (Nat.ne_of_gt (L' _)),⟨⟨_,j⟩,n⟩,λb m=>?_,q⟩;have g:d.heap.objs.size<=b:=by
  simp only[LR,List.not_mem_nil,or_false]at m;rcases m with e | e<;>(rw[e];first | exact L1 _ | exact Nat.le_add_right _ _)
 exact i.fpOk g (i.hok.fresh g)
end
section
variable {K:Mv}{g:TG}{tb:TS}{D:fB}{σ:St}{H:Hp}
theorem rO{xs:List V}(Pv:Nat->St->Hp->Prop)(h0:Pv 0 σ H)(hl:∀i σ H,i<=xs.length->Pv i σ H->aI K H a xs)
  (hs:∀(i:Nat) x σ H T,xs[i]?=some x->Pv i σ H->H T=none->g (.ref T) σ (aD H T (.tup [.int (i:Int),x])) λσ2 H2=>tb {D with nx:=Pv (i+1),ct:=Pv (i+1),bk:=D.nx} σ2 H2) (hd:∀σ H,Pv xs.length σ H->D.nx σ H):AM (Hj K a) g tb D σ H:=by
 refine⟨λi m σ H=>m=xs.length-i/\i<=xs.length/\Pv i σ H,⟨xs.length,by simp,L3 _,h0⟩,?_⟩;rintro i m σ H ⟨rfl,c,p⟩;have q:=hl i σ H c p
 by_cases b:i<xs.length
 ·refine .inr ⟨⟨xs,xs[i],q,by simp[b]⟩,Pv (i+1),λσ' j p'=>⟨xs.length-(i+1),⋯,rfl,b,p'⟩,λx j y=>?_⟩
  obtain⟨T,x,rfl,d,rfl,y⟩:=y;exact hs i x σ _ T (y xs q) p d
 ·have e:i=xs.length:=by omega
  subst e;exact .inl ⟨⟨xs,q,L1 _⟩,hd σ H p⟩
end
end L2
namespace PySem.W
open PySem PySem.Spec PySem.Calls PyProof.Rows
open Builtin Builtin.ObjectAttr
def E_:List Value->List Value
 | .ref _::r=>E_ r
 |l=>l
end PySem.W
namespace L2
open PySem PySem.Spec PyProof.Rows
end L2
namespace PySem.W
open PySem PySem.Spec PySem.Calls PyProof.Rows
end PySem.W
namespace SpM
open PySem
def glue(c:Nat):List (List Nat)->List Nat
 | []=>[]
 | [p]=>p
 |p::q::r=>p++c::glue c (q::r)
def step(c:Nat)(rows:List (List Nat))(d:Nat):List (List Nat):=if d=c then rows++[[]] else rows.dropLast++[rows.getLastD []++[d]]
def parts(c:Nat)(x:Mx):List (List Nat):=x.foldl (step c) [[]]
theorem yE{c:Nat}:∀{p q a b:Mx},c∉p->c∉q->p++c::a=q++c::b->p=q/\a=b
 | [],[],a,b,_,_,e=>⟨rfl,by simpa using e⟩
 | [],y::q,a,b,_,hq,e=>by simp at e;exact q0Q e.1 (λz=>hq (by simp[z]))
 |x::p,[],a,b,hp,_,e=>by simp at e;exact q0Q e.1.symm (λz=>hp (by simp[z]))
 |x::p,y::q,a,b,hp,hq,e=>by
  simp at e;obtain⟨e1,e2⟩:=yE (p:=p) (q:=q) (λz=>hp (by simp[z])) (λz=>hq (by simp[z])) e.2;exact⟨by rw[e.1,e1],e2⟩
theorem glue_inj(c:Nat):∀{rows rows':List (List Nat)},rows≠[]->rows'≠[]->(∀p∈rows,c∉p)->(∀p∈rows',c∉p)->glue c rows=glue c rows'->rows=rows'
 | [p],[q],_,_,_,_,e=>by simpa[glue]using e
 | [p],q::q'::r,_,_,hf,_,e=>by
  have:c∈p:=by rw[show p=q++c::glue c (q'::r) from e];simp
  exact q0Q this (hf p (by simp))
 |p::p'::r,[q],_,_,_,hf,e=>by
  have:c∈q:=by rw[show q=p++c::glue c (p'::r) from e.symm];simp
  exact q0Q this (hf q (by simp))
 |p::p'::r,q::q'::r',_,_,h1,h2,e=>by
  obtain⟨d,b⟩:=yE (h1 p (by simp)) (h2 q (by simp)) (show p++c::glue c (p'::r)=q++c::glue c (q'::r') from e);have:=glue_inj c (rows:=p'::r) (rows':=q'::r') (by simp) (by simp) (λz a=>h1 z (by simp[a])) (λz a=>h2 z (by simp[a])) b;rw[d,this]
theorem join_glue(c:Nat):∀(ys:MF),(Builtin.Str.glued ⟨#[c]⟩ ys).cps.toList=glue c (ys.map λy=>y.cps.toList)
 | []=>rfl
 |y::ys=>by
  have key:∀(zs:MF) (a:Array Nat),(zs.foldl (λacc (p:Str)=>acc++(⟨#[c]⟩:Str).cps++p.cps) a).toList=glue c (a.toList::zs.map λy=>y.cps.toList):=by
   intro zs
   induction zs with
   |nil=>intro a;rfl
   |cons z zs ih=>
    intro a;rw[List.foldl_cons,ih];show glue c ((a ++ #[c]++z.cps).toList::_)=a.toList++c::glue c (z.cps.toList::_);have e:(a ++ #[c]++z.cps).toList=a.toList++c::z.cps.toList:=by simp
    rw[e];cases zs with
    |nil=>simp[glue]
    |cons w ws=>simp[glue]
  exact key ys y.cps
end SpM
namespace PyProof.Rows
open PySem PySem.Spec PySem.Builtin PySem.Builtin.Str
end PyProof.Rows
namespace L2
open PySem PySem.Spec PyProof.Rows QL
structure Du(K:Mv)(C:Addr)(m:Str)(f:Addr):Prop where
 sp:PySem.W.specialIn K (.ref C) "__getattribute__"=some (some (.builtin "type.__getattribute__"))
 rd:PySem.W.readsIn K C (.type "type")=true
 fi:PySem.W.findCls K (.ref C) (.type "type") m=some (.val (.ref f))
 kp:PySem.W.keepIn K (.ref f)=true
section
variable {X:Cx}{CX:iR}{k:Nat}{f C:Addr}{fd:MD}{ps:MF}{sp:Sp}{E:XK}{x m:Str}{p pos apos:Pos}{e:Expr}{es:MM}{t:TA}
theorem CT{pl:Sem Bool}(c:Du X.K C m f)(F:aY X.prog X.w X.K X.mg X.base CX k f fd ps sp)(hr:cT k X.A)(hg:Gl X x)(hm:X.mg x=some (.ref C))(hb:dW X.K fd ps [])(hx:c5 CX X E)(ha:PA X (e::es) t)
  (hdb:autoParam ((x==("__debug__":Str))=false) zz2._auto_1) (hst:autoParam (starEach (e::es) X.env=(false,eval e X.env)::starEach es X.env) zz0._auto_1) (hpl:autoParam ((backTo pos (starEach es X.env)).any (·.1)=false) zz0._auto_1)
  (ht:autoParam (eval (.Call (.Attribute (.Name x p) m apos) (e::es) [] pos) X.env=(do
   let ov <- eval (.Name x p) X.env
   standAt apos.atName
   let (f,first) <- holding [ov] (getMethod ov m pl)
   callWith pos f first (backTo pos (starEach (e::es) X.env)) (backToKw pos (keywordEach [] X.env)))) zz0._auto_1) :
  PE X (.Call (.Attribute (.Name x p) m apos) (e::es) [] pos) (mH sp [] E t):=by
 intro a s σ H Q I h;refine PySem.W.methodCall_KW (pl:=pl) (kW I hg hm ?_ hdb) ht;refine PySem.W.method_cls I.kIn c.sp (PySem.W.cls_value I.kIn c.rd c.fi rfl ?_);have g:=I.tok (s.toks+1);refine PySem.W.callWith_K (first:=[]) (h₀:=X.base) I.ok.mod.kin c.kp (bY (ha pos a _ σ H _ g h) λus s2 ⟨vs,H2,b,r,d⟩=>⟨b.kIn,?_⟩) hst hpl;exact ml F hr hb .nil hx b r d
end
section
variable (P:ME)(w:MJ)(K:Mv)(mg:MB)(base:Heap)(CX:iR)
structure A1(k:Nat)(x m:Str)(ps:MF)(sp:Sp):Prop where
 ex:∃(C f:Addr) (fd:MD),aY P w K mg base CX k f fd ps sp/\mg x=some (.ref C)/\Du K C m f/\dW K fd ps []
structure lR(k:Nat)(x:Str)(C:Addr)(ps:MF)(sp:Sp):Prop where
 ex:∃(f:Addr) (fd:MD),aY P w K mg base CX k f fd ps sp/\mg x=some (.ref C)/\Mk K C f/\dW K fd ps []
structure ij(k:Nat)(C:Addr)(m:Str)(ps:MF)(sp:Sp):Prop where
 ex:∃(f:Addr) (fd:MD),aY P w K mg base CX k f fd ps sp/\iE K C/\iC K C m f/\dW K fd ps []
end
section
variable {X:Cx}{CX:iR}{k:Nat}{C:Addr}{ps:MF}{sp:Sp}{E:XK}{x m:Str}{p pos apos:Pos}{e o:Expr}{es:MM}{t:TA}{ta:TE}
theorem nz{pl:Sem Bool}(c:A1 X.prog X.w X.K X.mg X.base CX k x m ps sp)(hr:cT k X.A)(hg:Gl X x)(hx:c5 CX X E)(ha:PA X (e::es) t)
  (hdb:autoParam ((x==("__debug__":Str))=false) zz2._auto_1) (hst:autoParam (starEach (e::es) X.env=(false,eval e X.env)::starEach es X.env) zz0._auto_1) (hpl:autoParam ((backTo pos (starEach es X.env)).any (·.1)=false) zz0._auto_1)
  (ht:autoParam (eval (.Call (.Attribute (.Name x p) m apos) (e::es) [] pos) X.env=(do
   let ov <- eval (.Name x p) X.env
   standAt apos.atName
   let (f,first) <- holding [ov] (getMethod ov m pl)
   callWith pos f first (backTo pos (starEach (e::es) X.env)) (backToKw pos (keywordEach [] X.env)))) zz0._auto_1) :
  PE X (.Call (.Attribute (.Name x p) m apos) (e::es) [] pos) (mH sp [] E t):=by
 obtain⟨C,f,fd,F,a,d,b⟩:=c.ex;exact CT d F hr hg a b hx ha hdb hst hpl ht
theorem je(c:lR X.prog X.w X.K X.mg X.base CX k x C ps sp)(hr:cT (k+1) X.A)(hg:Gl X x)(hx:c5 CX X E)(ha:PA X (e::es) t)
  (hdb:autoParam ((x==("__debug__":Str))=false) zz2._auto_1) (hst:autoParam (starEach (e::es) X.env=(false,eval e X.env)::starEach es X.env) zz0._auto_1) (hpl:autoParam ((backTo pos (starEach es X.env)).any (·.1)=false) zz0._auto_1) :
  PE X (.Call (.Name x p) (e::es) [] pos) (yJ C sp [] E t):=by
 obtain⟨f,fd,F,a,M,b⟩:=c.ex;exact EE M F hr hg a b .nil hx ha hdb hst hpl
theorem kq{pl:Sem Bool}(c:ij X.prog X.w X.K X.mg X.base CX k C m ps sp)(hr:cT k X.A)(hx:c5 CX X E)(he:PE X o ta)(ha:PA X (e::es) t)
  (hst:autoParam (starEach (e::es) X.env=(false,eval e X.env)::starEach es X.env) zz0._auto_1) (hpl:autoParam ((backTo pos (starEach es X.env)).any (·.1)=false) zz0._auto_1)
  (ht:autoParam (eval (.Call (.Attribute o m apos) (e::es) [] pos) X.env=(do
   let ov <- eval o X.env
   standAt apos.atName
   let (f,first) <- holding [ov] (getMethod ov m pl)
   callWith pos f first (backTo pos (starEach (e::es) X.env)) (backToKw pos (keywordEach [] X.env)))) zz0._auto_1) :
  PE X (.Call (.Attribute o m apos) (e::es) [] pos) (r9 C m sp [] E ta t):=by
 obtain⟨f,fd,F,d,a,b⟩:=c.ex;exact Em he d a F hr b .nil hx ha hst hpl ht
theorem oP{pl:Sem Bool}(c:ij X.prog X.w X.K X.mg X.base CX k C m ps sp)(hr:cT k X.A)(hx:c5 CX X E)(he:PE X o ta)
  (ht:autoParam (eval (.Call (.Attribute o m apos) [] [] pos) X.env=(do
   let ov <- eval o X.env
   standAt apos.atName
   let (f,first) <- holding [ov] (getMethod ov m pl)
   callWith pos f first (backTo pos (starEach [] X.env)) (backToKw pos (keywordEach [] X.env)))) zz0._auto_1) :
  PE X (.Call (.Attribute o m apos) [] [] pos) (r9 C m sp [] E ta nv):=by
 obtain⟨f,fd,F,d,a,b⟩:=c.ex;exact Ct he d a F hr b .nil hx ht
end
section
variable {g:TG}{ti:TT}{te:TE}{σ:St}{H:Hp}{Q:List V->Hp->Prop}
theorem uZ{x:Str}(Pv:Nat->List V->St->Hp->Prop)(h0:Pv 0 [] σ H)(hz:∀i acc σ H,Pv i acc σ H->acc.length<sizeLine)(hi:∀i acc σ H,Pv i acc σ H->i<=x.cps.size)
  (hs:∀i c acc σ H,x.cps[i]?=some c->Pv i acc σ H->g (.str ⟨#[c]⟩) σ H λσ2 H3=>ti σ2 H3 λb H4=>if b=true then te σ2 H4 λv H5=>Pv (i+1) (acc++[v]) σ2 H5 else Pv (i+1) acc σ2 H4)
  (he:∀acc σ H,Pv x.cps.size acc σ H->Q acc H):fN (GL x) g ti te σ H Q:=by
 exact jb (J:=GL x) (g:=g) (ti:=ti) (te:=te) (Q:=Q) (n:=x.cps.size) Pv h0 hz hi (λacc σ H w=>L1 _) (λi acc σ H hlt w=>hlt)
  (λi v acc σ H H2 hlt w y=>by obtain⟨rfl,c,a,rfl⟩:=y;exact hs i c acc σ H2 a w) he
end
section
variable (P:ME)(w:MJ)(K:Mv)(mg:MB)(base:Heap)(CX:iR)
structure xK(k:Nat)(m:Str)(os:List (Addr×Sp)):Prop where
 ex:∀o∈os,∃ps,ij P w K mg base CX k o.1 m ps o.2
end
def tN(m:Str)(os:List (Addr×Sp))(E:XK)(ta:TE)(t:TA):TE:=λσ H Q=>ta σ H λx H1=>∃o∈os,∃a dx fs,x=.ref a/\H1 a=some (.ins o.1 dx fs)/\fs.lookup m=none /\
 t σ H1 λvs H2=>o.2 (x::(vs++[])) H2 Q E
section
variable {X:Cx}{CX:iR}{k:Nat}{os:List (Addr×Sp)}{E:XK}{m:Str}{pos apos:Pos}{e o:Expr}{es:MM}{t:TA}{ta:TE}
theorem DT{pl:Sem Bool}(c:xK X.prog X.w X.K X.mg X.base CX k m os)(hr:cT k X.A)(hx:c5 CX X E)(he:PE X o ta)(ha:PA X (e::es) t)
  (hst:autoParam (starEach (e::es) X.env=(false,eval e X.env)::starEach es X.env) zz0._auto_1) (hpl:autoParam ((backTo pos (starEach es X.env)).any (·.1)=false) zz0._auto_1)
  (ht:autoParam (eval (.Call (.Attribute o m apos) (e::es) [] pos) X.env=(do
   let ov <- eval o X.env
   standAt apos.atName
   let (f,first) <- holding [ov] (getMethod ov m pl)
   callWith pos f first (backTo pos (starEach (e::es) X.env)) (backToKw pos (keywordEach [] X.env)))) zz0._auto_1) :
  PE X (.Call (.Attribute o m apos) (e::es) [] pos) (tN m os E ta t):=by
 intro b s σ H Q I h;refine PySem.W.methodCall_KW (pl:=pl) (bY (he b s σ H _ I h) λu j ⟨x,H1,i,n,v,w,a,dx,fs,ex,z,l,q⟩=>?_) ht;subst ex;obtain rfl:u=Value.ref a:=n;obtain⟨ps,B⟩:=c.ex v w;obtain⟨f,fd,F,C,d,y⟩:=B.ex;refine fP i z C d l ?_;refine PySem.W.callWith_K (first:=[.ref a]) (h₀:=X.base) I.ok.mod.kin d.kp (bY (ha pos b j σ H1 _ i q) λus s2 ⟨vs,H2,g,r,p⟩=>⟨g.kIn,?_⟩) hst hpl;exact ml (us:=.ref a::us) (vs:=.ref a::vs) F hr y .nil hx g (.cons rfl r) p
theorem Dr{pl:Sem Bool}(c:xK X.prog X.w X.K X.mg X.base CX k m os)(hr:cT k X.A)(hx:c5 CX X E)(he:PE X o ta)
  (ht:autoParam (eval (.Call (.Attribute o m apos) [] [] pos) X.env=(do
   let ov <- eval o X.env
   standAt apos.atName
   let (f,first) <- holding [ov] (getMethod ov m pl)
   callWith pos f first (backTo pos (starEach [] X.env)) (backToKw pos (keywordEach [] X.env)))) zz0._auto_1) :
  PE X (.Call (.Attribute o m apos) [] [] pos) (tN m os E ta nv):=by
 intro b s σ H Q I h;refine PySem.W.methodCall_KW (pl:=pl) (bY (he b s σ H _ I h) λu s1 ⟨x,H1,d,g,i,j,a,dx,fs,ex,p,l,q⟩=>?_) ht;subst ex;obtain rfl:u=Value.ref a:=g;obtain⟨ps,r⟩:=c.ex i j;obtain⟨f,fd,F,v,e,n⟩:=r.ex;refine fP d p v e l ?_;exact PySem.W.callWith_K0 (first:=[.ref a]) d.kIn e.kp (ml (us:=[.ref a]) (vs:=[.ref a]) F hr n .nil hx d (.cons rfl .nil) q)
end
structure jB(K:Mv)(C:Addr):Prop where
 cl:iE K C
 ha:PySem.W.findIn K (.ref C) "__class__"=some (some (.builtin "object.__class__"))
 hn:PySem.W.specialIn K (.builtin "object.__class__") "__get__"=some (some (.builtin "getset_descriptor.__get__"))
 htk:PySem.W.takesIn K (.builtin "object.__class__")=some true
 hm:PySem.W.mroIn K C (.type "object")=some true
theorem jB.ty{K:Mv}{H:Hp}{fs:List (Str×V)}(i:jB K C)(e:H a=some (.ins C dx fs)):jw K H (.ref a) (.ref C):=.ins e i.cl i.ha i.hn i.htk i.hm
section
variable {X:Cx}{es:MM}{t:TA}
theorem eN{x j p}(hr:PA X es t):PA X (.Constant (.str x) j p::es) (iy (tC (.str x)) t):=aa kb hr rfl
theorem bL{x j p}(hr:PA X es t):PA X (.Constant (.int x) j p::es) (iy (tC (.int x)) t):=aa aj hr rfl
end
end L2
namespace PyProof.Rows
open PySem PySem.Spec PySem.Builtin PySem.Builtin.Str
end PyProof.Rows
namespace L2
open PySem PySem.Spec PyProof.Rows QL
theorem nU:∀(xs:List V) (us:Mz),xs.length=us.length->(∀(j:Nat) (x:V) (u:Value),xs[j]?=some x->us[j]?=some u->bx x u)->bc xs us
 | [],[],_,_=>.nil
 |x::xs,u::us,hl,h=>.cons (h 0 x u rfl rfl) (nU xs us (by simpa using hl) λj y v e1 e2=>h (j+1) y v (by simpa using e1) (by simpa using e2))
section
variable {X:Cx}
def xM:List V->Hp->VK->Prop:=λxs H Q=>∃z,xs=[.str z]/\z.length<=sizeLine/\∀l,H l=none->Q (.ref l) (aD H l (.lst (z.cps.toList.map λc=>V.str ⟨#[c]⟩)))
theorem wW(hc:X.calm=true):dZ X (.type "list") xM:=by
 intro pins s σ H xs us Q I r h;obtain⟨z,rfl,i,q⟩:=h;obtain⟨u,rfl,t,rfl⟩:=lv r;refine PySem.call_list_str (hn:=i) (I.ok.hd hc) z t λh' l b y o p a=>?_;have m:bc (z.cps.toList.map λc=>V.str ⟨#[c]⟩) b.toList:=by
  refine nU _ _ (by rw[LC];simp[a.1]) λj x u g w=>?_;obtain⟨c,tk2,d,rfl⟩:=a.2 j u (by simpa using w);rw[LF]at g;have v:z.cps.toList[j]?=some c:=by simpa using d
  rw[v]at g;cases g;exact⟨_,rfl⟩
 have n:(z.cps.toList.map λc=>V.str ⟨#[c]⟩).length<=sizeLine:=by
  rw[LC];have e:z.cps.toList.length=z.length:=by show z.cps.toList.length=z.cps.size;simp
  rw[e];exact i
 exact⟨.ref s.heap.objs.size,aD H s.heap.objs.size (.lst (z.cps.toList.map λc=>V.str ⟨#[c]⟩)),I.laid (t':=l) o (L1 _) ⟨n,b.toList,y,m,by simpa using p⟩,rfl,q _ (I.hok.fresh (L1 _))⟩
end
section
variable {X:Cx}{pins:Mw}{σ:St}{H:Hp}{s:My}{a:Addr}{kvs:List (cO×V)}{k:cO}{u r:Value}{d:V}{A:MG}{E:Mu}
theorem Bo{Q:Mu}(I:Inv X pins σ H s)(e:H a=some (.dK kvs))(ry:bx (kV k) u)(rd:bx d r)(hl:kvs.length<sizeLine)
  (h1:∀v w' s',cJ kvs k=some v->Inv X pins σ H s'->bx v w'->Q w' s') (h2:cJ kvs k=none->∀s',Inv X pins σ (aD H a (.dK (dl kvs k d))) s'->Q r s') :
  wpAny (model X.prog X.w) A (call (.builtin "dict.setdefault") [.ref a,u,r]) Q E s:=by
 obtain⟨z,j,vs,c,l⟩:=qQ I.hok e;have m:vs.length<=sizeLine:=by rw[<- c.length];exact z
 have i:(dl kvs k d).length<=sizeLine:=by have:=eO kvs k d;omega
 refine call_meetsIn PySem.F.slot_dict_setdefault l.typeIs PySem.F.entry_dict_setdefault (PySem.F.args_dict_setdefault_3 _ _ _) (kt_meets_setdefault (bX X.prog X.w) a (mL ry) j r) ⟨vs,l,m,λv n=>?_,λp y g o=>?_⟩
 ·have q:=c.val k
  rw[n]at q;cases b:cJ kvs k with
  |none=>rw[b]at q;exact False.elim q
  |some v0=>rw[b]at q;exact h1 v0 v _ b (I.tok _) q
 ·have q:=c.val k
  rw[p]at q;have b:cJ kvs k=none:=by
   cases b:cJ kvs k with
   |none=>rfl
   |some v0=>rw[b]at q;exact False.elim q
  have x:∃q,y.get? a=some q:=let ⟨q,_,_,hq,_⟩:=g;⟨q,hq⟩
  exact h2 b _ (nJ I (by rw[e];exact True.intro) o x (wL i j (c.put k rd) g))
end
def vX(td ty tx:TE):TE:=λσ H Q=>td σ H λx H1=>∃a,x=.ref a/\HM H1 a/\ty σ H1 λy H2=>tx σ H2 λz H3=>∃kvs k,H3 a=some (.dK kvs)/\y=kV k/\kvs.length<sizeLine /\
 (∀v,cJ kvs k=some v->Q v H3)/\(cJ kvs k=none->Q z (aD H3 a (.dK (dl kvs k z))))
section
variable {X:Cx}{o e f:Expr}{apos cpos:Pos}{td ty tx:TE}
theorem ph(ho:PE X o td)(he:PE X e ty)(hf:PE X f tx)(m:M2 X o "setdefault" apos e f cpos):PE X (.Call (.Attribute o "setdefault" apos) [e,f] [] cpos) (vX td ty tx):=by
 intro b s σ H Q I h;refine wpAny_Call_method m.base m.few m.line PySem.F.plainAttrs_dict PySem.F.slot_dict_setdefault PySem.F.type_dict_setdefault (bY (ho b s σ H _ I h) λu r ⟨x,H1,j,B,a,T,d,G⟩=>?_);subst T;obtain rfl:u=Value.ref a:=B;obtain⟨n,l,_⟩:=xa j d;refine⟨n,l,?_⟩;rw[m.trees];refine Calls.callWith_builtin rfl (Calls.evalArgs_plain (Calls.spliced_cons (bY (he b r σ H1 _ j G) λiv q ⟨y,H2,Y,w,D⟩=>
  Calls.spliced_cons (bY (hf b q σ H2 _ Y D) λfv s3 ⟨z,Z,U,i,kvs,k,M,S,c,R,O⟩=>Calls.spliced_nil ?_))))
 subst S;exact Bo U M w i c (λv w' p J g C=>⟨v,Z,g,C,R v J⟩) λL p g=>⟨z,_,g,i,O L⟩
end
theorem Ht{k:cO}(h:(bX P w).is k u=true):bx (kV k) u:=by
 rcases ci (show pG k u=true from h) with⟨i,t,rfl,rfl⟩ | ⟨x,t,rfl,rfl⟩<;>exact⟨_,rfl⟩
section
variable {X:Cx}
def xj:List V->Hp->VK->Prop:=λxs H Q=>∃a kvs,xs=[.ref a]/\H a=some (.dK kvs)/\∀l,H l=none->Q (.ref l) (aD H l (.lst (kvs.map λkv=>kV kv.1)))
theorem ym(hc:X.calm=true):dZ X (.type "list") xj:=by
 intro pins s σ H xs us Q I r h;obtain⟨a,g,rfl,e,q⟩:=h;obtain⟨u,rfl,o⟩:=lv r;obtain rfl:u=Value.ref a:=o;obtain⟨z,hd,vs,d,J⟩:=qQ I.hok e;obtain⟨ep,L⟩:=J.dictAt;have p:vs.length<=sizeLine:=by rw[<- d.length];exact z
 refine PySem.W.kdl_call (PySem.W.kdl_dict hd) (I.ok.hd hc) L p λh' n c M B D b=>?_;have v:bc (g.map λi=>kV i.1) c.toList:=by
  refine nU _ _ (by rw[LC];simp[b.1,d.length]) λj x u m G=>?_;obtain⟨k,w,l,C⟩:=b.2 j u (by simpa using G);have y:(g.map λi=>kV i.1)=(vs.map (·.1)).map kV:=by rw[<- d.keys,LQ];rfl
  rw[y,LF,LF,l]at m;cases m;exact Ht C
 exact⟨.ref s.heap.objs.size,aD H s.heap.objs.size (.lst (g.map λi=>kV i.1)),I.laid (t':=n) B (L1 _) ⟨by rw[LC];exact z,c.toList,M,v,by simpa using D⟩,rfl,q _ (I.hok.fresh (L1 _))⟩
end
section
variable {K:Type}[DecidableEq K]
def dS(σ:List K)(v:K):List K:=if v∈σ then σ else σ++[v]
def met(l:List K):List K:=l.foldl dS []
theorem v8(σ:List K)(v k:K):decide (k∈dS σ v)=(decide (k∈σ)||decide (k=v)):=by
 unfold dS
 by_cases h:v∈σ
 ·rw[q07 h]
  by_cases e:k=v
  ·subst e;simp[h]
  ·simp[e]
 ·rw[q06 h]
  simp[LP]
theorem mG(σ:List K)(v:K):(dS σ v).length=if decide (v∈σ) then σ.length else σ.length+1:=by
 unfold dS
 by_cases h:v∈σ<;>simp[h]
theorem vm(l:List K)(v:K):met (l++[v])=dS (met l) v:=by unfold met;rw[List.foldl_append];rfl
theorem yC:∀(l σ:List K),(l.foldl dS σ).length<=σ.length+l.length
 | [],σ=>L1 _
 |v::l,σ=>by
  have h:=yC l (dS σ v);have e:=mG σ v;rw[List.foldl_cons,LN]
  split at e<;>omega
theorem B8(n:Nat)(l:List K)(h:l.length=n):(met l).length<=n:=by
 have:=yC l [];rw[<- h];unfold met;simpa using this
end
section
variable {prog:ME}{w:MJ}{K:Type}[DecidableEq K]{knd:KeyKind prog w K}{A:MG}{R:Result->Shared->Prop}{I:Addr}{fp wr:MA}{G:Array GenState->Array GenState->Prop}{n:Nat}{P:Nat->Value->Prop}{St:Nat->Shared->Prop}
theorem Eu(W:WalksS prog w A.in1 I fp wr G n P St)(S:Addr)(hSf:S∉fp)(l:List K)(hl:l.length=n)
  (hval:∀i v,P i v->∃k,l[i]?=some k/\knd.is k v=true/\v.scannable=true) (hb:n+1<scanBound) :
  ∀(k i:Nat) (s:My),n-i=k->i<=n->St i s ->
   s.heap.SetOf knd S (λk'=>decide (k'∈met (l.take i))) (met (l.take i)).length ->
   (∀s',Moved (S::wr) G s s'->s'.heap.SetOf knd S (λk'=>decide (k'∈met l)) (met l).length->R (.ok (.ret .none)) s') ->
   codeAny (model prog w) A (.builtin "set.update.loop" ⟨[.ref S,.ref I],[]⟩) R s:=by
 have y:S∉wr:=λh=>hSf (W.sub _ h);have a:∀b∈wr,b∈S::wr:=λb hb=>LS _ hb;intro k
 induction k with
 |zero=>
  intro i s hk hi c B U;have L:i=n:=by omega
  subst L;rw[<- hl,Md]at B;refine codeAny_builtin F.entry_set_update_loop ?_;rw[Around.under_plainId F.plain_set_update_loop _];show wpAny _ A.in1 (pyNext (.ref I) >>= _) _ _ s;refine q04 (W.done s _ _ c λs' q=>?_);show wpAny _ A.in1 (ret Value.none) _ _ s';refine q05 (U s' (q.mono a) ?_);obtain⟨o,Y,Z,t,J,cv⟩:=B;exact⟨o,Y,Z,t,q.heap S _ y J,cv⟩
 |succ k ih=>
  intro i s hk hi c B U;have r:i<n:=by omega
  refine codeAny_builtin F.entry_set_update_loop ?_;rw[Around.under_plainId F.plain_set_update_loop _];show wpAny _ A.in1 (pyNext (.ref I) >>= _) _ _ s;refine q04 (W.item i s _ _ r c λv s' hP j q=>?_);obtain⟨g,u,x,D⟩:=hval i v hP;have T:s'.heap.SetOf knd S (λk'=>decide (k'∈met (l.take i))) (met (l.take i)).length:=by
   obtain⟨o,Y,Z,tb,J,cv⟩:=B;exact⟨o,Y,Z,tb,q.heap S _ y J,cv⟩
  show wpAny _ A.in1 (holding [v] (setAdd S v) >>= _) _ _ s';refine q04 (q0X ?_);unfold setAdd;refine q0X ?_;refine q04 (knd.pyHash (k:=g) x ?_);have d:(met (l.take i)).length+1<scanBound:=by have:=B8 i (l.take i) (by rw[Me];omega);omega
  refine wpAny_setAddHashed_of (knd:=knd) (s:={s' with toks:=s'.toks+1}) x D T d λh' m O=>?_;have ht:l.take (i+1)=l.take i++[g]:=by rw[q0E,u];rfl
  have M:h'.SetOf knd S (λk'=>decide (k'∈met (l.take (i+1)))) (met (l.take (i+1))).length:=
   SetOf_congr O (λk'=>by rw[ht,vm,v8]) (by rw[ht,vm,mG])
  refine q05 ⟨plainId_quiet F.plain_set_update_loop _,ih (i+1) _ ⋯ r (W.frame _ s' _ _ j (Nat.le_succ _) λb hb o e=>?_) M λC p z=>?_⟩
  ·rw[m.2 b (λh:b=S=>hSf (by rw[<- h];exact hb))];exact e
  ·refine U C (Moved.trans W.gtrans ((q.mono a).then_heap (Nat.le_succ _) λb o hb e=>?_) p) z
   rw[m.2 b (λh:b=S=>hb (by rw[h];exact q0B))];exact e
end
def cL(z:Str):List Str:=z.cps.toList.map λc=>(⟨#[c]⟩:Str)
section
variable {prog:ME}{w:MJ}{A:MG}{E:Mu}{s:My}
def BC(s:My)(led:Bool):Shared:={s with heap:=s.heap.push {cls:=.type "set",dict:=none,data:=.set #[] 0 (.fresh 0 0 led)} }
set_option maxHeartbeats 3200000 in
theorem si{v:Value}{R:Heap->Nat->Prop}{Q:Mu}
  (hi:∀led,(BC s led).TypeIs (.ref s.heap.objs.size) "set"->codeAny (model prog w) A.in1 (.call (.builtin "set.__init__") {pos:=[.ref s.heap.objs.size,v]})
   (wants (λr s₂=>r=.none/\∃h' tk,s₂={s with heap:=h',toks:=tk}/\R h' tk) E) (BC s led))
  (h:∀(h':Heap) (tk:Nat),R h' tk->Q (.ref s.heap.objs.size) {s with heap:=h',toks:=tk}) :
  wpAny (model prog w) A (call (.type "set") [v]) Q E s:=by
 obtain⟨c,tl,hmro⟩:=PySem.F.called_set.mro;have hmade:=PySem.F.called_set.made;have hsub:=PySem.F.called_set.sub;refine wpAny_call (codeAny_of_tree ?_);show wpAny _ _ (callAny (.type "set") _) _ _ _;refine q05 ⟨Code.quiet_builtin _ (by decide +kernel),codeAny_builtin PySem.F.entry_type_call ?_⟩;rw[Around.under_plain (weight_type_call_type "set" [v] []) rfl];have h1:=PySem.F.called_set.notType;have h2:=PySem.F.called_set.canCreate;have hct:=PySem.F.typeCall_set_1 v
 repeat (any_goals (first | with_reducible assumption | with_reducible refine q05 ?_ | with_reducible refine q04 ?_ | with_reducible refine q0X ?_ | with_reducible refine wpAny_of_eq (by assumption) ?_ | with_reducible refine wpAny_isInstance (by assumption) (by assumption) ?_ | with_reducible refine wpAny_specialOf (by assumption) (by assumption) ?_ | with_reducible refine wpAny_call ?_ | ((with_reducible apply wpAny_ite_false);focus (rfl;done)) | wp_delta))
 refine codeAny_mono (code_set_new_1 v (E:=E) (Q₁:=λobj b=>∃led:Bool,obj=.ref s.heap.objs.size/\b=BC s led) λled=>⟨led,rfl,rfl⟩) λr b hr=>?_;cases r with
 |error e=>exact hr
 |ok fl=>
  cases fl with
  |ret obj=>
   obtain⟨led,rfl,rfl⟩:=hr;have g:(BC s led).TypeIs (.ref s.heap.objs.size) "set":=⟨_,LI _ rfl,rfl⟩;have hli:=PySem.F.called_set.init.lookup;have hbi:=PySem.F.called_set.init.bind (.ref s.heap.objs.size)
   repeat (any_goals (first | with_reducible assumption | with_reducible refine q05 ?_ | with_reducible refine q04 ?_ | with_reducible refine q0X ?_ | with_reducible refine wpAny_of_eq (by assumption) ?_ | with_reducible refine wpAny_isInstance (by assumption) (by assumption) ?_ | with_reducible refine wpAny_specialOf (by assumption) (by assumption) ?_ | with_reducible refine wpAny_call ?_ | ((with_reducible apply wpAny_ite_false);focus (rfl;done)) | wp_delta))
   refine codeAny_mono (hi led g) λd s₂ a=>?_;cases d with
   |error e=>exact a
   |ok fl₂=>
    cases fl₂ with
    |ret r=>
     obtain⟨rfl,h',tk,rfl,i⟩:=a
     repeat (any_goals (first | with_reducible assumption | with_reducible refine q05 ?_ | with_reducible refine q04 ?_ | with_reducible refine q0X ?_ | with_reducible refine wpAny_of_eq (by assumption) ?_ | with_reducible refine wpAny_isInstance (by assumption) (by assumption) ?_ | with_reducible refine wpAny_specialOf (by assumption) (by assumption) ?_ | with_reducible refine wpAny_call ?_ | ((with_reducible apply wpAny_ite_false);focus (rfl;done)) | wp_delta))
     exact h _ _ i
    |_=>exact a.elim
  |_=>exact hr.elim
theorem qh{x:Str}{t:Tok}{Q:Mu}(hh:A.handled=none)(hb:x.cps.size+1<scanBound)
  (h:∀(h':Heap) (tk:Nat),h'.SetOf (strKind prog w) s.heap.objs.size (λk'=>decide (k'∈met (cL x))) (met (cL x)).length ->
   (∀b o,s.heap.get? b=some o->h'.get? b=some o)->Q (.ref s.heap.objs.size) {s with heap:=h',toks:=tk}) :
  wpAny (model prog w) A (call (.type "set") [.str x t]) Q E s:=by
 refine si (R:=λh' _=>h'.SetOf (strKind prog w) s.heap.objs.size (λk'=>decide (k'∈met (cL x))) (met (cL x)).length/\∀b o,s.heap.get? b=some o->h'.get? b=some o)
  (λa r=>?_) λh' tk hr=>h h' tk hr.1 hr.2
 refine codeAny_call_builtin PySem.F.called_set.init.plain PySem.F.entry_set_init (check_set_init_1 r ?_);unfold BC at r ⊢;have C:(s.heap.push {cls:=.type "set",dict:=none,data:=.set #[] 0 (.fresh 0 0 a)}).get? s.heap.objs.size=some {cls:=.type "set",dict:=none,data:=.set #[] 0 (.fresh 0 0 a)}:=LI _ rfl;have hsls:=PySem.F.sub_str_set;have hslf:=PySem.F.sub_str_frozenset;have hne:(Value.type "str" == Value.type "dict")=false:=by decide
 unfold Builtin.«set.__init__» noKeywords Builtin.Frozenset.updateFrom;generalize p:pyIter=PI
 wp_walk
 subst p;refine wpAny_pyIter_str λo St W l=>?_;refine q04 (wpAny_runValue ?_);have m:s.heap.objs.size∉[(s.heap.push {cls:=.type "set",dict:=none,data:=.set #[] 0 (.fresh 0 0 a)}).objs.size]:=by
  rw[Heap.size_push];simp only[LD]
  exact LW (L' _)
 refine Eu (knd:=strKind prog w) ((W _ (by simp[hh])).toS) s.heap.objs.size m (cL x) (by simp[cL])
  (λi v ⟨c,u,B,q⟩=>⟨⟨#[c]⟩,by unfold cL;rw[LF,q0G,B];rfl,by rw[q];exact strKind_is _ _ _ _,by rw[q];rfl⟩) hb (x.cps.size-0) 0 _ ⋯ (L3 _) l ?hS0 ?hR
 case hS0=>
  exact SetOf_congr ((setObjOf_fresh (knd:=strKind prog w) a).setOf (LB _ C) (by unfold scanBound;omega)) (λ_=>rfl) rfl
 case hR=>
  intro y d n;obtain⟨h',D,L,g,j⟩:=y;have I:D=s.gens:=d.gens;have J:L=s.drawn:=d.drawn;have G:j=s.os:=d.os;subst I;subst J;subst G
  show wpAny _ _ _ _ _ _;refine q05 ?_;show wpAny _ _ (ret Value.none) _ _ _;refine q05 ⟨rfl,h',g,rfl,n,λb z e=>?_⟩;have hb:=L5 e;refine d.heap b z ?_ (LB _ (LB _ e));simp only[LR,List.not_mem_nil,or_false,not_or,Heap.size_push];exact⟨LW hb,LW (Nat.lt_succ_of_lt hb)⟩
end
def tJ(t:TE):TE:=λσ H Q=>t σ H λx H1=>∃z,x=.str z/\z.cps.size+1<scanBound/\Q (.int (met (cL z)).length) H1
section
variable {X:Cx}{e:Expr}{t:TE}{p p2 pos pos2:Pos}
theorem AE(hc:X.calm=true)(ha:PE X e t)(g1:Gl X "len")(m1:X.mg "len"=none)(g2:Gl X "set")(m2:X.mg "set"=none)
  (he1:autoParam (starEach [.Call (.Name "set" p2) [e] [] pos2] X.env=[(false,eval (.Call (.Name "set" p2) [e] [] pos2) X.env)]) zz0._auto_1)
  (he2:autoParam (starEach [e] X.env=[(false,eval e X.env)]) zz0._auto_1) :
  PE X (.Call (.Name "len" p) [.Call (.Name "set" p2) [e] [] pos2] [] pos) (tJ t):=by
 intro a s σ H Q I h;have l:bootBuiltins "len"=some (.builtin "len"):=by decide +kernel
 have i:bootBuiltins "set"=some (.type "set"):=by decide +kernel
 refine wpAny_Call_Name_kw (eR I g1 m1 l ?_);refine PyProof.Rows.callWith_builtin1 ?_ he1 rfl;rw[he1];show wpAny _ _ (spliced [(false,eval (.Call (.Name "set" p2) [e] [] pos2) X.env)]) _ _ _;refine Calls.spliced_cons ?_;refine wpAny_Call_Name_kw (eR (I.tok _) g2 m2 i ?_);refine PyProof.Rows.callWith_type1 ?_ he2 rfl;rw[he2];show wpAny _ _ (spliced [(false,eval e X.env)]) _ _ _;refine Calls.spliced_cons (bY (ha a _ σ H _ (I.tok _) h) λu s1 ⟨x,H1,w,g,z,v,c,q⟩=>Calls.spliced_nil ?_);subst v;obtain⟨tk,rfl⟩:=g;refine qh (I.ok.hd hc) c λh' tk' r m=>Calls.spliced_nil ?_;obtain⟨o,j,b,es,ep,tb,hd,_,_,d,n⟩:=r.objOf;have hle:=B8 z.cps.size (cL z) (by simp[cL]);have hb:z.cps.size<4096:=by unfold scanBound at c;omega
 refine call_len_set j b hd n (by rw[d];have:((4096:Nat):Int)<2^63:=nofun;omega) ?_;rw[d];exact⟨.int _,H1,(w.kept (t':=_) m),⟨_,rfl⟩,q⟩
end
abbrev NT:=List (Str×Addr×List Nat)
def vT(t:NT):List (cO×V):=t.map λx=>(Sum.inr x.1,V.ref x.2.1)
def wz(ns:Mx):List V:=ns.map fun(n:Nat)=>V.int (n:Int)
structure dh(H:Hp)(p:Addr)(t:NT):Prop where
 dict:H p=some (.dK (vT t))
 list:∀x∈t,H x.2.1=some (.lst (wz x.2.2))
 apart:(t.map (·.2.1)).Nodup
theorem dh.grow{H':Hp}{t:NT}(N:dh H p t)(k:∀a o,H a=some o->H' a=some o):dh H' p t:=⟨k _ _ N.dict,λx hx=>k _ _ (N.list x hx),N.apart⟩
theorem wN(z:Str):∀t:NT,cJ (vT t) (.inr z)=(t.find? λx=>decide (x.1=z)).map λx=>V.ref x.2.1
 | []=>rfl
 |x::t=>by
  have ih:=wN z t;unfold vT at ih ⊢;rw[L8,List.find?_cons]
  by_cases e:x.1=z
  ·rw[cz (by rw[e])];simp[e]
  ·rw[cE (λh=>e (Sum.inr.inj h)),ih];simp[e]
theorem dh.new{t:NT}(N:dh H p t)(hl:H l=none)(hz:cJ (vT t) (.inr z)=none) :
  dh (aD (aD H l (.lst [])) p (.dK (dl (vT t) (.inr z) (.ref l)))) p (t++[(z,l,[])]):=by
 have d:p≠l:=λe=>by have:=N.dict;rw[e,hl]at this;exact nomatch this
 have c:∀x∈t,x.2.1≠l/\x.2.1≠p:=λx c=>by
  have q:=N.list x c
  constructor
  ·intro e;rw[e,hl]at q;exact nomatch q
  ·intro e;rw[e,N.dict]at q;exact nomatch q
 refine⟨?_,λx h=>?_,?_⟩
 ·rw[ae,De _ hz];unfold vT;rw[LO];rfl
 ·rcases LP.mp h with h | h
  ·rw[ar (c x h).2,ar (c x h).1];exact N.list x h
  ·rw[LD.mp h,ar (Ne.symm d),ae];rfl
 ·rw[LO]
  refine List.nodup_append.mpr ⟨N.apart,by simp,λa i b g=>?_⟩;obtain⟨x,h1,rfl⟩:=Mi.mp i;rw[List.map_singleton]at g;rw[LD.mp g];exact(c x h1).1
theorem dh.put{t:NT}{i k:Nat}{x:Str×Addr×List Nat}(N:dh H p t)(hi:t[i]?=some x) :
  dh (aD H x.2.1 (.lst (wz (x.2.2++[k])))) p (t.set i (x.1,x.2.1,x.2.2++[k])):=by
 have l:x∈t:=LG hi;have g:p≠x.2.1:=λe=>by have:=N.list x l;rw[<- e,N.dict]at this;exact nomatch this
 have a:i<t.length:=(LA.mp hi).1;have m:vT (t.set i (x.1,x.2.1,x.2.2++[k]))=vT t:=by
  unfold vT;apply List.ext_getElem?;intro j;rw[LF,LF,List.getElem?_set]
  by_cases e:i=j
  ·subst e;rw[q07 rfl,q07 a,hi];rfl
  ·rw[q06 e]
 have n:(t.set i (x.1,x.2.1,x.2.2++[k])).map (·.2.1)=t.map (·.2.1):=by
  apply List.ext_getElem?;intro j;rw[LF,LF,List.getElem?_set]
  by_cases e:i=j
  ·subst e;rw[q07 rfl,q07 a,hi];rfl
  ·rw[q06 e]
 refine⟨by rw[ar g,m];exact N.dict,λy d=>?_,by rw[n];exact N.apart⟩;obtain⟨j,b⟩:=List.mem_iff_getElem?.mp d;rw[List.getElem?_set]at b
 by_cases e:i=j
 ·rw[q07 e,q07 a]at b
  cases b;exact ae
 ·rw[q06 e]at b
  have c:y.2.1≠x.2.1:=by
   intro q;have h1:(t.map (·.2.1))[i]?=some x.2.1:=by rw[LF,hi];rfl
   have h2:(t.map (·.2.1))[j]?=some x.2.1:=by rw[LF,b];simp[q]
   exact e ((List.getElem?_inj (LA.mp h1).1 N.apart).mp (h1.trans h2.symm))
  rw[ar c];exact N.list y (LG b)
def iG(t:NT):List (Str×List Nat):=t.map λx=>(x.1,x.2.2)
def b9(m:List (Str×List Nat))(z:Str):List (Str×List Nat):=if z∈m.map (·.1) then m else m++[(z,[])]
theorem BM{t:NT}{v:V}(h:cJ (vT t) (.inr z)=some v):∃(i:Nat) (x:Str×Addr×List Nat),t[i]?=some x/\x.1=z/\v=.ref x.2.1:=by
 rw[wN]at h;cases a:t.find? (λx=>decide (x.1=z)) with
 |none=>rw[a]at h;exact nomatch h
 |some x=>
  rw[a]at h;have c:V.ref x.2.1=v:=q0S h;obtain⟨i,d⟩:=List.mem_iff_getElem?.mp (List.mem_of_find?_eq_some a);have b:=List.find?_some a;exact⟨i,x,d,of_decide_eq_true b,c.symm⟩
theorem zh(t:NT):(iG t).map (·.1)=t.map (·.1):=by unfold iG;rw[LQ];rfl
theorem GB{t:NT}(h:cJ (vT t) (.inr z)=none):¬ z∈(iG t).map (·.1):=by
 intro m;rw[zh]at m;obtain⟨x,a,e⟩:=Mi.mp m;refine Bg h (Mi.mpr ⟨(.inr x.1,.ref x.2.1),Mi.mpr ⟨x,a,rfl⟩,?_⟩);show(Sum.inr x.1:cO)=Sum.inr z;rw[e]
theorem dh.setdef{t:NT}{z:Str}{Q:VK}(N:dh H p t)(hl:H l=none)(hn:t.length<sizeLine)
  (h:∀(H':Hp) (t':NT) (i:Nat) (x:Str×Addr×List Nat),dh H' p t'->t'[i]?=some x->x.1=z->iG t'=b9 (iG t) z->(∀y∈t',y∈t\/y.2.1=l)->(∀a o,a≠p->H a=some o->H' a=some o)->Q (.ref x.2.1) H') :
  ∃kvs k,aD H l (.lst []) p=some (.dK kvs)/\V.str z=kV k/\kvs.length<sizeLine/\(∀v,cJ kvs k=some v->Q v (aD H l (.lst []))) /\
   (cJ kvs k=none->Q (.ref l) (aD (aD H l (.lst [])) p (.dK (dl kvs k (.ref l))))):=by
 have hpl:p≠l:=λe=>by have:=N.dict;rw[e,hl]at this;exact nomatch this
 have b:∀a o,H a=some o->aD H l (.lst []) a=some o:=λa o e=>by
  rw[ar (λq=>by rw[q,hl]at e;exact nomatch e)];exact e
 refine⟨vT t,.inr z,b _ _ N.dict,rfl,by unfold vT;rw[LC];exact hn,λv m=>?_,λd=>?_⟩
 ·obtain⟨i,x,j,g,rfl⟩:=BM m
  refine h _ t i x (N.grow b) j g ?_ (λy c=>.inl c) λa o _ e=>b a o e;have n:z∈(iG t).map (·.1):=by rw[zh];exact Mi.mpr ⟨x,LG j,g⟩
  unfold b9;rw[q07 n]
 ·refine h _ (t++[(z,l,[])]) t.length (z,l,[]) (N.new hl d) (by simp) rfl ?_ (λy c=>(LP.mp c).imp id λq=>by rw[LD.mp q]) λa o r e=>by rw[ar r];exact b a o e
  unfold b9;rw[q06 (GB d)];unfold iG;rw[LO];rfl
theorem DZ{t:NT}{x:Str×Addr×List Nat}(k:Nat):iG (t.set i (x.1,x.2.1,x.2.2++[k]))=(iG t).set i (x.1,x.2.2++[k]):=by
 unfold iG;rw[List.map_set]
theorem kl{m:List (Str×List Nat)}(h:(m.map (·.1)).Nodup):((b9 m z).map (·.1)).Nodup:=by
 unfold b9
 by_cases e:z∈m.map (·.1)
 ·rw[q07 e];exact h
 ·rw[q06 e,LO]
  refine List.nodup_append.mpr ⟨h,by simp,λa d b c=>?_⟩;rw[List.map_singleton]at c;rw[LD.mp c];exact λq=>e ((show a=z from q)▸d)
theorem rB{X:Cx}{e:Expr}{t:TA}{x:Str}{j:Nat}{p apos cpos:Pos}(ha:PA X [e] t)(hline:(apos.endLine==cpos.line)=true)(hs:starEach [e] X.env=[(false,eval e X.env)]) :
  PE X (.Call (.Attribute (.Constant (.str x) j p) "join" apos) [e] [] cpos) (HN X.K "str" (y4 X.K) (tC (.str x)) t):=
 dy PySem.F.plainAttrs_str PySem.F.slot_str_join PySem.F.type_str_join D6 kb ha rfl (by rw[hs];rfl) hline hs rfl
end L2
namespace L2
open PySem PySem.Spec PyProof.Rows QL
section
variable {K:Mv}{g:TG}{ti:TT}{te:TE}{σ:St}{H:Hp}{Q:List V->Hp->Prop}{α:Type}
theorem jg{as:List α}{f:α->Option V}{i:Nat}{x:α}(hx:as[i]?=some x):(as.take (i+1)).filterMap f=(as.take i).filterMap f++(f x).toList:=by
 rw[q0E,hx,List.filterMap_append];show _++List.filterMap f [x]=_;cases h:f x<;>simp[h]
theorem wT{as:List α}{f:α->Option V}(i:Nat):((as.take i).filterMap f).length<=as.length:=L9 (List.length_filterMap_le _ _) (by rw[Me];omega)
theorem nN{as:List α}(f:α->V):as.filterMap (λx=>some (f x))=as.map f:=by induction as with | nil=>rfl | cons x xs ih=>simp
theorem fw{as:List α}{emb:α->V}{f:α->Option V}(S:St->Prop)(h0:S σ)(hl:∀H',ax H H'->aI K H' a (as.map emb))(hn:as.length<=1000000)
  (hs:∀(i:Nat) x,as[i]?=some x->∀σ H' (N1:V->St->Hp->Prop) (N0:St->Hp->Prop),S σ->ax H H'->(∀v σ2 H2,f x=some v->ax H H2->S σ2->N1 v σ2 H2)->(∀σ2 H2,f x=none->ax H H2->S σ2->N0 σ2 H2) ->
   g (emb x) σ H' λσ2 H3=>ti σ2 H3 λb H4=>if b=true then te σ2 H4 λv H5=>N1 v σ2 H5 else N0 σ2 H4)
  (he:∀H',ax H H'->Q (as.filterMap f) H'):fN (zw K a) g ti te σ H Q:=by
 refine dH (xs:=as.map emb) (λi c σ H'=>ax H H'/\c=(as.take i).filterMap f/\i<=as.length/\S σ) ⟨λ_ _ e=>e,rfl,L3 _,h0⟩ ?_ ?_ ?_ ?_ ?_
 ·rintro i c σ H' ⟨_,rfl,_⟩
  have:=wT (as:=as) (f:=f) i;exact aU ⋯
 ·rintro i c σ H' ⟨_,_,h,_⟩
  rw[LC];exact h
 ·rintro i c σ H' ⟨j,_⟩
  exact hl _ j
 ·rintro i x c σ H' l ⟨j,rfl,hi,n⟩
  have d:i<as.length:=by have:=(LA.mp l).1;rwa [LC]at this
  rw[LF,Lz d]at l;cases l;have m:as[i]?=some as[i]:=Lz d;refine hs i as[i] m σ H' (λv σ2 H5=>_) (λσ2 H4=>_) n j (λv σ2 H2 hf s2 hS2=>⟨s2,?_,d,hS2⟩) (λσ2 H2 hf s2 hS2=>⟨s2,?_,d,hS2⟩)
  ·rw[jg m,hf];rfl
  ·rw[jg m,hf];simp
 ·rintro c σ H' ⟨j,rfl,_⟩
  have e:(as.take (as.map emb).length).filterMap f=as.filterMap f:=by rw[LC,Md]
  rw[e];exact he _ j
theorem pB{as:List α}{emb:α->V}{f:Nat->α->Option V}(S:St->Prop)(h0:S σ)(hl:∀H',ax H H'->aI K H' a (as.map emb))(hn:as.length<=1000000)
  (hs:∀(i:Nat) x,as[i]?=some x->∀σ H' T (N1:V->St->Hp->Prop) (N0:St->Hp->Prop),S σ->ax H H'->H' T=none->(∀v σ2 H2,f i x=some v->ax H H2->S σ2->N1 v σ2 H2)->(∀σ2 H2,f i x=none->ax H H2->S σ2->N0 σ2 H2) ->
   g (.ref T) σ (aD H' T (.tup [.int (i:Int),emb x])) λσ2 H3=>ti σ2 H3 λb H4=>if b=true then te σ2 H4 λv H5=>N1 v σ2 H5 else N0 σ2 H4)
  (he:∀H',ax H H'->Q (as.zipIdx.filterMap λx=>f x.2 x.1) H'):fN (Hj K a) g ti te σ H Q:=by
 have m:as.zipIdx.length=as.length:=List.length_zipIdx;refine jb (J:=Hj K a) (n:=as.length) (λi c σ H'=>ax H H'/\c=(as.zipIdx.take i).filterMap (λx=>f x.2 x.1)/\i<=as.length/\S σ) ⟨λ_ _ e=>e,rfl,L3 _,h0⟩ ?_ ?_ ?_ ?_ ?_ ?_
 ·rintro i c σ H' ⟨_,rfl,_⟩
  have:=wT (as:=as.zipIdx) (f:=λx=>f x.2 x.1) i;exact aU ⋯
 ·rintro i c σ H' ⟨_,_,h,_⟩
  exact h
 ·rintro c σ H' ⟨j,_⟩
  exact⟨_,hl _ j,by rw[LC];exact L1 _⟩
 ·rintro i c σ H' d ⟨j,_⟩
  exact⟨_,emb as[i],hl _ j,by rw[LF,Lz d];rfl⟩
 ·rintro i x c σ H' H2 d ⟨j,rfl,hi,r⟩ ⟨T,y,rfl,q,rfl,l⟩
  have o:as[i]?=some as[i]:=Lz d;have l:=l _ (hl _ j);rw[LF,o]at l;cases l;have p:as.zipIdx[i]?=some (as[i],i):=by rw[List.getElem?_zipIdx,o];simp
  refine hs i as[i] o σ H' T (λv σ2 H5=>_) (λσ2 H4=>_) r j q (λv σ2 H2 hf s2 hS2=>⟨s2,?_,d,hS2⟩) (λσ2 H2 hf s2 hS2=>⟨s2,?_,d,hS2⟩)
  ·rw[jg p];simp only[hf];rfl
  ·rw[jg p];simp[hf]
 ·rintro c σ H' ⟨j,rfl,_⟩
  have e:(as.zipIdx.take as.length).filterMap (λx=>f x.2 x.1)=as.zipIdx.filterMap (λx=>f x.2 x.1):=by rw[<- m,Md]
  rw[e];exact he _ j
theorem mQ{n:Nat}{f:Nat->Option V}(S:St->Prop)(h0:S σ)(hn:n<=1000000)
  (hs:∀i,i<n->∀σ H' (N1:V->St->Hp->Prop) (N0:St->Hp->Prop),S σ->ax H H'->(∀v σ2 H2,f i=some v->ax H H2->S σ2->N1 v σ2 H2)->(∀σ2 H2,f i=none->ax H H2->S σ2->N0 σ2 H2) ->
   g (.int (0+(i:Int))) σ H' λσ2 H3=>ti σ2 H3 λb H4=>if b=true then te σ2 H4 λv H5=>N1 v σ2 H5 else N0 σ2 H4)
  (he:∀H',ax H H'->Q ((List.range n).filterMap f) H'):fN (Ay 0 n) g ti te σ H Q:=by
 refine j3 (lo:=0) (n:=n) (λi a σ H'=>ax H H'/\a=(List.range i).filterMap f/\i<=n/\S σ) ⟨λ_ _ e=>e,rfl,L3 _,h0⟩ ?_ ?_ ?_ ?_
 ·rintro i a σ H' ⟨_,rfl,c,_⟩
  have:=List.length_filterMap_le f (List.range i);rw[q0J]at this;exact aU ⋯
 ·rintro i a σ H' ⟨_,_,h,_⟩
  exact h
 ·rintro i a σ H' c ⟨d,rfl,_,j⟩
  refine hs i c σ H' (λv σ2 H5=>_) (λσ2 H4=>_) j d (λv σ2 H2 hf s2 hS2=>⟨s2,?_,c,hS2⟩) (λσ2 H2 hf s2 hS2=>⟨s2,?_,c,hS2⟩)
  ·rw[q0M,List.filterMap_append];simp[hf]
  ·rw[q0M,List.filterMap_append];simp[hf]
 ·rintro a σ H' ⟨d,rfl,_⟩
  exact he _ d
theorem A7{r:Mx}{f:Nat->Option V}(S:St->Prop)(h0:S σ)(hn:r.length<=1000000)
  (hs:∀c∈r,∀σ H' (N1:V->St->Hp->Prop) (N0:St->Hp->Prop),S σ->ax H H'->(∀v σ2 H2,f c=some v->ax H H2->S σ2->N1 v σ2 H2)->(∀σ2 H2,f c=none->ax H H2->S σ2->N0 σ2 H2) ->
   g (.str ⟨#[c]⟩) σ H' λσ2 H3=>ti σ2 H3 λb H4=>if b=true then te σ2 H4 λv H5=>N1 v σ2 H5 else N0 σ2 H4)
  (he:∀H',ax H H'->Q (r.filterMap f) H'):fN (GL (tx r)) g ti te σ H Q:=by
 have d:(tx r).cps.size=r.length:=by show r.toArray.size=_;simp
 refine uZ (x:=tx r) (λi a σ H'=>ax H H'/\a=(r.take i).filterMap f/\i<=r.length/\S σ) ⟨λ_ _ e=>e,rfl,L3 _,h0⟩ ?_ ?_ ?_ ?_
 ·rintro i a σ H' ⟨_,rfl,_⟩
  have:=wT (as:=r) (f:=f) i;exact aU ⋯
 ·rintro i a σ H' ⟨_,_,h,_⟩
  rw[d];exact h
 ·rintro i c a σ H' n ⟨m,rfl,_,o⟩
  have l:r[i]?=some c:=by rw[<- n];show r[i]?=r.toArray[i]?;simp
  have j:=(LA.mp l).1;refine hs c (LG l) σ H' (λv σ2 H5=>_) (λσ2 H4=>_) o m (λv σ2 H2 hf s2 hS2=>⟨s2,?_,j,hS2⟩) (λσ2 H2 hf s2 hS2=>⟨s2,?_,j,hS2⟩)
  ·rw[jg l,hf];rfl
  ·rw[jg l,hf];simp
 ·rintro a σ H' ⟨m,rfl,_⟩
  have e:(r.take (tx r).cps.size).filterMap f=r.filterMap f:=by rw[d,Md]
  rw[e];exact he _ m
end
end L2
namespace ThM
open PySem L2
def addNew(ks:MF)(z:Str):List Str:=if z∈ks then ks else ks++[z]
theorem mem_addNew{ks:MF}{y:Str}:y∈addNew ks z↔y∈ks\/y=z:=by
 unfold addNew
 split
 ·rename_i h
  exact⟨.inl,λq=>q.elim id λe=>e▸h⟩
 ·rw[LP,LD]
def trueD(zs:MF):List (cO×V):=zs.map λz=>(Sum.inr z,V.bl true)
theorem trueD_val(z:Str):∀zs:List Str,(cJ (trueD zs) (.inr z)).isSome=decide (z∈zs)
 | []=>rfl
 |y::zs=>by
  have ih:=trueD_val z zs;unfold trueD at ih ⊢;rw[L8]
  by_cases e:y=z
  ·rw[cz (by rw[e])]
   simp[e]
  ·rw[cE (λq=>e (Sum.inr.inj q)),ih]
   have:¬ z=y:=λq=>e q.symm;simp[this]
theorem trueD_put(zs:MF)(z:Str):dl (trueD zs) (.inr z) (V.bl true)=trueD (addNew zs z):=by
 unfold dl;rw[eG,trueD_val];unfold addNew
 by_cases h:z∈zs
 ·rw[q09 h,q07 rfl,q07 h]
  unfold trueD;rw[LQ];refine q0K λy _=>?_;show(if(Sum.inr y:cO)=Sum.inr z then _ else _)=_
  split<;>rfl
 ·rw[q08 h,q06 nofun,q06 h]
  unfold trueD;rw[LO];rfl
theorem trueD_len(zs:MF):(trueD zs).length=zs.length:=by unfold trueD;rw[LC]
section
variable {α:Type}(f:List α->List α)
def IG:Nat->List α->List α
 |0,s=>s
 |n+1,s=>f (IG n s)
variable {f}
end
abbrev NR:=Str×List Str
def Ez(ks:MF)(r:NR):List Str:=if(∀z∈r.2,z∈ks) then addNew ks r.1 else ks
def CJ(rs:List NR)(ks:MF):List Str:=rs.foldl Ez ks
theorem nd_len{ks ms:MF}(hn:ks.Nodup)(h:∀z∈ks,z∈ms):ks.length<=ms.length:=by
 induction ks generalizing ms with
 |nil=>exact L3 _
 |cons k ks ih=>
  rw[q0b]at hn;have c:=h k q0B;have h1:=ih (ms:=ms.erase k) hn.2 λz b=>by
   have a:z≠k:=λe=>hn.1 (e▸b);exact(List.mem_erase_of_ne a).mpr (h z (LS _ b))
  have h2:=List.length_erase_of_mem c;have h3:=List.length_pos_of_mem c;rw[LN];omega
def Fi(rs:List NR):List Str:=IG (CJ rs) rs.length []
end ThM
namespace ThM
open PySem L2
theorem kx{y:Str}:∀(zs ks:MF),y∈zs.foldl addNew ks↔y∈ks\/y∈zs
 | [],ks=>by simp
 |z::zs,ks=>by
  rw[List.foldl_cons,kx zs,mem_addNew,LR];exact⟨λh=>h.elim (λh=>h.elim .inl λe=>.inr (.inl e)) λh=>.inr (.inr h),λh=>h.elim (λh=>.inl (.inl h)) λh=>h.elim (λe=>.inl (.inr e)) .inr⟩
def Cm(ks:MF)(r:NR):List Str:=if r.1∈ks then r.2.foldl addNew ks else ks
def AJ(rs:List NR)(ks:MF):List Str:=rs.foldl Cm ks
def GT(ks:MF)(r:NR):Prop:=r.1∈ks/\∀z∈r.2,z∈ks
noncomputable instance (ks:MF)(r:NR):Decidable (GT ks r):=by unfold GT;infer_instance
def Fw(st:Str)(rs:List NR):List Str:=IG (AJ rs) rs.length [st]
def E7(rs:List NR)(r:NR):Bool:=decide (∀z∈r.2,z∈Fi rs)
def IH(rs:List NR):List NR:=rs.filter (E7 rs)
def IC(st:Str)(rs:List NR):List Str:=Fw st (IH rs)
def keep(st:Str)(rs:List NR)(r:NR):Bool:=decide (r.1∈IC st rs)&&E7 rs r
end ThM
namespace L2
open PySem PySem.Spec PyProof.Rows
section
variable {X:Cx}{body:List Stmt}{h₀:ExceptHandler}{hs:List ExceptHandler}{tb:TS}{pos:Pos}
theorem nE{ta:TE}{f:Str}{K:Mv}(hK:X.K=K)(he:PE X e ta)(hb:attributeBase e f X.env (eval e X.env)=eval e X.env):PE X (.Attribute e f pos) (A3 K ta f):=hK▸yi he hb
theorem BZ{es' es:MM}{x1:Nat}{p:Pos}{te:TE}{t:TA}(ha:PE X (.Tuple es' x1 p) te)(hr:PA X es t):PA X (.Tuple es' x1 p::es) (iy te t):=aa ha hr rfl
theorem xw{es:MM}{t:Option Expr}{env:Env}:swapsWith (.List es p) t l env=pure false:=rfl
def jR(xs ys:List V):Bool:=(List.range (min xs.length ys.length)).all (λj=>match xs[j]?,ys[j]? with | some x,some y=>xi x y | _,_=>true)&&xs.length==ys.length
def DB(K:Mv):R2:=λx y H Q=>∃a b xs ys,x=.ref a/\y=.ref b/\cK K H a xs/\cK K H b ys/\xs.all qX=true/\ys.all qX=true/\Q (.bl (jR xs ys)) H
theorem Fp(hu:X.A.units+64<cLine):bu X (compareOp .Eq) (DB X.K):=by
 intro pins s σ H x y v u Q I rx ry h;obtain⟨a,b,l,g,rfl,rfl,R,O,Y,U,q⟩:=h;cases rx;cases ry
 obtain⟨d,z,J,_⟩:=I.tuple R;obtain⟨c,w,G,_⟩:=I.tuple O;have M:=z.length;have L:=w.length
 have D:=SeqAt.RcAt.tuples (A:=X.A) (s:=s) (e:=λj=>match l[j]?,g[j]? with | some x,some y=>xi x y | _,_=>true) (show s.heap.IsTuple a d.toArray from J) (show s.heap.IsTuple b c.toArray from G) ⋯ (λj T S=>by
  have r:j<d.length:=by simpa using T
  have p:j<c.length:=by simpa using S
  have m:l[j]?=some l[j]:=Lz ⋯;have i:g[j]?=some g[j]:=Lz ⋯;obtain⟨w1,C,o⟩:=z.get m;obtain⟨w2,B,n⟩:=w.get i;rw[Lz r]at C;rw[Lz p]at B;cases C;cases B
  simp only[Mm,m,i];exact gW o n (Mj.mp Y _ (LG m)) (Mj.mp U _ (LG i)))
 refine D _ _ _ _ ⟨.bl _,H,I,rfl,?_⟩;rw[LJ,LJ,<- M,<- L];exact q
end
section
variable {X:Cx}{es:MM}{t:TA}{te:TE}
structure WA(X:Cx)(es:MM)(t:TA):Prop where
 out:PA X es t
structure WE(X:Cx)(e:Expr)(t:TE):Prop where
 out:PE X e t
structure WB(X:Cx)(b:List Stmt)(t:TS):Prop where
 out:uE X b t
theorem gY:WA X [] nv:=⟨ac⟩
theorem jy{x:Int}{j:Nat}{p:Pos}(hr:WA X es t):WA X (.Constant (.int x) j p::es) (iy (tC (.int x)) t):=⟨bL hr.out⟩
theorem wt{es':MM}{x1:Nat}{p:Pos}(ha:WE X (.Tuple es' x1 p) te)(hr:WA X es t):WA X (.Tuple es' x1 p::es) (iy te t):=⟨BZ ha.out hr.out⟩
theorem iX(h:WA X es t):WE X (.Tuple es x1 p) (Et t):=⟨bz h.out⟩
theorem FC(h:WA X es t):WE X (.List es p) (BT t):=⟨ba h.out⟩
structure WS(X:Cx)(s:Stmt)(t:TS):Prop where
 out:PS X s t
theorem DH{st:Stmt}{cv:List Stmt}(h1:WS X st u)(h2:uE X cv v):WB X (st::cv) (vZ u v):=⟨ad h1.out h2⟩
theorem zU{st:Stmt}{cv:List Stmt}(h1:PS X st u)(h2:WB X cv v):uE X (st::cv) (vZ u v):=ad h1 h2.out
end
end L2
namespace L2
open PySem PySem.Spec PyProof.Rows
end L2
namespace L2
open PySem PySem.Spec PyProof.Rows QL
def D2(H H':Hp):Prop:=∀b xs,H b=some (.tup xs)->H' b=some (.tup xs)
theorem vC:∀{ns:List Int} {us:Mz},bc (ns.map V.int) us->∃ps:List (Int×Tok),us.toArray=intItems ps.toArray/\ps.map (·.1)=ns
 | [],us,r=>⟨[],by have:=r.zero;subst this;simp[intItems],rfl⟩
 |n::ns,us,r=>by
  cases r with
  |cons h t=>
   obtain⟨tk,rfl⟩:=h;obtain⟨ps,e1,e2⟩:=vC t;refine⟨(n,tk)::ps,?_,by rw[L8,e2]⟩;have:=q0R Array.toList e1;unfold intItems at this ⊢;simp at this ⊢;exact this
section
variable {X:Cx}
theorem Av(hc:X.calm=true):dZ X (.builtin "sum") (λxs H Q=>∃(p:Addr) (ns:List Int),xs=[.ref p]/\aI X.K H p (ns.map V.int)/\Q (.int ns.sum) H):=by
 intro pins s σ H xs us Q I r h;obtain⟨p,ns,rfl,g,q⟩:=h;obtain⟨u,rfl,d⟩:=r.one;cases d;obtain⟨its,c,e,_⟩:=I.list g;obtain⟨a,m,l⟩:=vC c;refine sum_intListG (xs:=a.toArray) (I.ok.hd hc) (by rw[<- m];exact e.isList) λh' b t' i=>?_;have j:preSum (numAt a.toArray) a.toArray.size=ns.sum:=by
  rw[preSum_eq,q0F (by simp),<- l]
 rw[j];exact⟨.int _,H,I.kept (t':=b) i,⟨_,rfl⟩,q⟩
theorem Gq:bootBuiltins "sum"=some (.builtin "sum"):=by decide +kernel
end
end L2
namespace L2
open PySem PySem.Spec PyProof.Rows QL aE
section
variable {prog:ME}{w:MJ}{A:MG}{E:Mu}{s:My}
open HT in
theorem jz{t sl:Addr}{items:Array Value}{vl vu:Value}{lo hi:Option Int}{Q:Mu}(ht:IsTup s.heap t items)(hs:s.heap.IsSliceOf sl vl vu .none)(pl:IsPart vl lo)(pu:IsPart vu hi)
  (hw:sIx items.size 0 lo=0/\sIx items.size items.size hi=items.size) (h:Q (.ref t) s):wpAny (model prog w) A (getItem (.ref t) (.ref sl)) Q E s:=by
 obtain⟨e,b,c,hds⟩:=id hs;have d:s.TypeIs (.ref sl) "slice":=⟨e,b,c⟩;unfold getItem
 try with_reducible refine q0X ?_
 first | refine q04 (q05 ?_) | skip
 refine q04 (wpAny_sequenceKey ht.typeIs nofun ?_);refine q04 (wpAny_callSpecial?_slot (name:=Str.ofString "__getitem__") ht.typeIs PyProof.Rows.slot_tuple_getitem
  (wpAny_call_entry PyProof.Rows.slot_tuple_getitem ht.typeIs entry_tuple_getitem ?_ (args_tuple_getitem _ _)))
 show wpAny _ _ (Builtin.Tuple.tupleItemsOf (.ref t) >>= _) _ _ s;refine q04 (tupleItemsOf_ ht ?_);refine q04 (wpAny_typeOf d ?_);rw[q07 nofun];refine q04 (gy hs pl pu ?_);have a:(((sIx items.size 0 lo:Nat):Int)==0&&(1:Int)==1&&(sIx items.size items.size hi-sIx items.size 0 lo)==items.size)=true:=by
  rw[hw.1,hw.2];simp
 show wpAny _ _ (if(((sIx items.size 0 lo:Nat):Int)==0&&(1:Int)==1&&(sIx items.size items.size hi-sIx items.size 0 lo)==items.size)=true then _ else _) _ _ s;rw[q07 a];refine q04 ?_;unfold Builtin.Tuple.tupleIsExact;refine q04 (wpAny_typeOf ht.typeIs ?_);refine q05 ?_;rw[q07 nofun];refine q04 (wpAny_rule ?_);exact q05 ⟨_,rfl,q05 h⟩
end
def Fo(K:Mv):V->Option Int->Option Int->Hp->VK->Prop:=λx lo hi H Q=>∃a xs,x=.ref a/\cK K H a xs/\∀p H',cK K H' p (iS xs lo hi)->ax H H'->Q (.ref p) H'
section
variable {X:Cx}
theorem DS:GM X (Fo X.K):=by
 intro pins s σ H x v vl vu lo hi sl Q I rx hs pl pu h;obtain⟨a,d,rfl,m,q⟩:=h;cases rx;obtain⟨i,r,j,l⟩:=I.tuple m;have c:i.toArray.size=d.length:=by rw[LJ];exact r.length.symm
 refine⟨"tuple",_,PyProof.Rows.slot_tuple_getitem.lookup,j.typeIs,?_⟩
 by_cases g:HT.sIx d.length 0 lo=0/\HT.sIx d.length d.length hi=d.length
 ·refine jz j hs pl pu (by rw[c];exact g) ?_
  refine⟨.ref a,H,I,rfl,q a H ?_ (ax.refl _)⟩;have e:iS d lo hi=d:=by unfold iS;rw[g.1,g.2,Mt,Nat.sub_zero,Md]
  rw[e];exact m
 ·refine HT.getItem_tuple_cut j hs pl pu (by rw[c];exact g) ?_ (by rw[c];exact l)
  rw[c];refine⟨.ref s.heap.objs.size,_,I.laid (t':=s.toks) (o:=.tup (iS d lo hi)) (λb ob q=>LB _ q) (L1 _) ?_,rfl,q _ _ (cK.of ae) (af (I.hok.fresh (L1 _)))⟩;exact⟨L9 (i9 d lo hi) l,_,(r.drop (HT.sIx d.length 0 lo)).take (HT.sIx d.length d.length hi-HT.sIx d.length 0 lo),IsTup.new _ _⟩
end
theorem ID{P:Addr->Prop}:(∃p,V.ref a=V.ref p/\P p)=P a:=by simp
theorem Iu{a:Int}{P:Int->Prop}:(∃p,V.int a=V.int p/\P p)=P a:=by simp
theorem IQ{P:Bool->Prop}:(∃p,V.bl a=V.bl p/\P p)=P a:=by simp
theorem Io{P:Str->Prop}:(∃p,V.str a=V.str p/\P p)=P a:=by simp
theorem IK{α:Type}{P:Addr->α->Prop}:(∃p,∃x,V.ref a=V.ref p/\P p x) = ∃x,P a x:=by simp
theorem HS{α:Type}{P:Addr->α->Prop}:(∃p,∃x,[V.ref a]=[V.ref p]/\P p x) = ∃x,P a x:=by simp
theorem Iy{α:Type}{v:V}{P:Addr->α->V->Prop}:(∃p,∃x,∃y,V.ref a=V.ref p/\[v]=[y]/\P p x y) = ∃x,P a x v:=by simp
theorem HU{α β:Type}{P:Addr->Addr->α->β->Prop}:(∃p,∃q,∃x,∃y,V.ref a=V.ref p/\V.ref b=V.ref q/\P p q x y) = ∃x,∃y,P a b x y:=by simp
def HG(i:Nat):TE:=λσ H Q=>match σ[i]? with
 |some (some v)=>Q v H
 |_=>False
def Ew(g:Int->Int->V):R2
 | .int i,.int j,H,Q=>Q (g i j) H
 |x,y,H,Q=>AF g x y H Q
def Hx(C:Int->Int->Prop)(g:Int->Int->V):R2
 | .int i,.int j,H,Q=>C i j/\Q (g i j) H
 |x,y,H,Q=>rI C g x y H Q
def v6(K:Mv):R2
 | .ref p,.int i,H,Q=>∃xs,aI K H p xs/\∃v,ip xs i=some v/\Q v H
 |x,y,H,Q=>Az K x y H Q
def vJ(K:Mv):R2
 | .ref p,.int i,H,Q=>∃xs,cK K H p xs/\∃v,ip xs i=some v/\Q v H
 |x,y,H,Q=>yp K x y H Q
theorem Cl:Ew g x y H Q=AF g x y H Q:=by
 unfold Ew;split
 ·simp[AF]
 ·rfl
theorem Fa:Hx C g x y H Q=rI C g x y H Q:=by
 unfold Hx;split
 ·simp[rI]
 ·rfl
theorem yZ{K:Mv}:v6 K x y H Q=Az K x y H Q:=by
 unfold v6;split
 ·simp[Az]
 ·rfl
theorem zb{K:Mv}:vJ K x y H Q=yp K x y H Q:=by
 unfold vJ;split
 ·simp[yp]
 ·rfl
theorem Er{i j:Int}{H:Hp}:Ew g (.int i) (.int j) H Q=Q (g i j) H:=rfl
theorem FW{i j:Int}{H:Hp}:Hx C g (.int i) (.int j) H Q=(C i j/\Q (g i j) H):=rfl
theorem Bh{K:Mv}{i:Int}{H:Hp}:v6 K (.ref p) (.int i) H Q = ∃xs,aI K H p xs/\∃v,ip xs i=some v/\Q v H:=rfl
theorem BE{K:Mv}{i:Int}{H:Hp}:vJ K (.ref p) (.int i) H Q = ∃xs,cK K H p xs/\∃v,ip xs i=some v/\Q v H:=rfl
theorem K8{α β:Type}{f:α->β}{a:α}{l:List α}:List.map f (a::l)=f a::List.map f l:=rfl
theorem La{α β:Type}{f:α->β}:List.map f []=[]:=rfl
theorem Lj{α:Type}{a:α}{l m:List α}:(a::l)++m=a::(l++m):=rfl
theorem Lm{α:Type}{m:List α}:[]++m=m:=rfl
theorem JM{α:Type}{a:α}{l:List α}:(a::l)[0]?=some a:=rfl
theorem JC{α:Type}{a:α}{l:List α}{n:Nat}:(a::l)[n+1]?=l[n]?:=rfl
theorem Jo{α:Type}{a b:α}{l:List α}:(a::l).set 0 b=b::l:=rfl
theorem Lp{α:Type}{a b:α}{l:List α}{n:Nat}:(a::l).set (n+1) b=a::l.set n b:=rfl
section
variable {X:Cx}
theorem al(i:Nat){x:Str}{pos:Pos}(hN:autoParam (X.N[i]?=some x) zz0._auto_1)(hv:autoParam (Hz X.env.scope x) zz6._auto_1)(hd:autoParam ((x==("__debug__":Str))=false) zz1._auto_1)
  (hc:autoParam ((x==("__classdict__":Str))=false) zz1._auto_1):PE X (.Name x pos) (HG i):=λpins s σ H Q I h=>pv i hN hv hd hc pins s σ H Q I (by
 unfold HG at h
 split at h
 ·exact⟨_,‹_›,h⟩
 ·exact h.elim)
theorem bu.m0{f:Value->Value->Sem Value}(h:bu X f (AF g)):bu X f (Ew g):=λpins s σ H x y v u Q I a b c=>h pins s σ H x y v u Q I a b (Cl▸c)
theorem bu.m1{f:Value->Value->Sem Value}(h:bu X f (rI C g)):bu X f (Hx C g):=λpins s σ H x y v u Q I a b c=>h pins s σ H x y v u Q I a b (Fa▸c)
theorem bD:Fk X (v6 X.K):=λe sl pins s σ H x y v u Q I a b c d=>za e sl pins s σ H x y v u Q I a b (yZ▸c) d
theorem aP:Fk X (vJ X.K):=λe sl pins s σ H x y v u Q I a b c d=>Cp e sl pins s σ H x y v u Q I a b (zb▸c) d
end
inductive TrD:Dt->Prop
 |mk (i:Int) (ds:List Dt):(∀d∈ds,TrD d)->TrD (.tup (.int i::ds))
theorem Ei{X:Cx}{K:Mv}(hK:X.K=K)(hu:X.A.units+64<cLine):bu X (compareOp .Eq) (DB K):=hK▸Fp hu
section
variable {β:Type}{A:Hp->Addr->β->Prop}
def aO(A:Hp->Addr->β->Prop)(H:Hp)(bs:MA)(ys:List β):Prop:=bs.length=ys.length/\∀(i:Nat) b y,bs[i]?=some b->ys[i]?=some y->A H b y
def k_(A:Hp->Addr->β->Prop)(H:Hp)(l:Addr)(ys:List β):Prop:=∃bs:List Addr,H l=some (.lst (bs.map V.ref))/\aO A H bs ys
theorem aO.nil:aO A H [] []:=⟨rfl,λi b y e=>by simp at e⟩
theorem aO.mono{A':Hp->Addr->β->Prop}{bs:MA}{ys:List β}(h:aO A H bs ys)(u:∀b y,b∈bs->y∈ys->A H b y->A' H' b y):aO A' H' bs ys:=⟨h.1,λi b y e1 e2=>u b y (LG e1) (LG e2) (h.2 i b y e1 e2)⟩
theorem aO.snoc{bs:MA}{ys:List β}{y:β}(h:aO A H bs ys)(e:A H b y):aO A H (bs++[b]) (ys++[y]):=by
 refine⟨by rw[LZ,LZ,h.1];rfl,λi c z a d=>?_⟩
 by_cases g:i<bs.length
 ·rw[LY g]at a
  rw[LY (by rw[<- h.1];exact g)]at d;exact h.2 i c z a d
 ·have nB:i=bs.length:=by
   have:=(LA.mp a).1;simp at this;omega
  subst nB;rw[LX (L1 _),Nat.sub_self]at a;rw[h.1,LX (L1 _),Nat.sub_self]at d;cases a;cases d
  exact e
theorem aO.get{bs:MA}{ys:List β}{i:Nat}{b:Addr}(h:aO A H bs ys)(e:bs[i]?=some b):∃y,ys[i]?=some y/\A H b y:=by
 have c:=(LA.mp e).1;have a:ys[i]?=some (ys[i]'(by rw[<- h.1];exact c)):=Lz _;exact⟨_,a,h.2 i b _ e a⟩
theorem aO.one{H:Hp}{b:Addr}{y:β}(e:A H b y):aO A H [b] [y]:=aO.nil.snoc e
theorem aO.two{H:Hp}{b c:Addr}{y z:β}(e:A H b y)(e2:A H c z):aO A H [b,c] [y,z]:=(aO.one e).snoc e2
theorem aO.zip{bs:MA}{ys:List β}(h:aO A H bs ys):bs.map V.ref=(bs.zip ys).map λx=>V.ref x.1:=by
 have e:=LQ (f:=Prod.fst) (g:=V.ref) (l:=bs.zip ys);rw[List.map_fst_zip (by rw[h.1];exact L1 _)]at e;exact e
theorem aO.at{bs:MA}{ys:List β}(h:aO A H bs ys){i:Nat}{x:Addr×β}(e:(bs.zip ys)[i]?=some x):ys[i]?=some x.2/\A H x.1 x.2:=by
 obtain⟨b,y⟩:=x;obtain⟨c,a⟩:=List.getElem?_zip_eq_some.mp e;exact⟨a,h.2 i b y c a⟩
end
section
variable {K:Mv}{g:TG}{ti:TT}{te:TE}{σ:St}{H:Hp}{Q:List V->Hp->Prop}{α β:Type}
theorem ib(A:Hp->Addr->β->Prop)(up:∀{H H':Hp} {b:Addr} {y:β},A H b y->ax H H'->A H' b y){a:Addr}{as:List α}{emb:α->V}{ys:List β}(hlen:as.length=ys.length)(S:St->Prop)(h0:S σ)(hl:∀H',ax H H'->aI K H' a (as.map emb))(hn:as.length<=1000000)
  (hs:∀(i:Nat) x y,as[i]?=some x->ys[i]?=some y->∀σ H' (N1:V->St->Hp->Prop) (N0:St->Hp->Prop),S σ->ax H H'->(∀b σ2 H2,A H2 b y->ax H H2->ax H' H2->S σ2->N1 (.ref b) σ2 H2) ->
   g (emb x) σ H' λσ2 H3=>ti σ2 H3 λb H4=>if b=true then te σ2 H4 λv H5=>N1 v σ2 H5 else N0 σ2 H4)
  (he:∀bs H',ax H H'->aO A H' bs ys->Q (bs.map V.ref) H'):fN (zw K a) g ti te σ H Q:=by
 refine dH (xs:=as.map emb) (λi c σ H'=>ax H H'/\(∃bs:List Addr,c=bs.map V.ref/\aO A H' bs (ys.take i))/\i<=as.length/\S σ) ⟨λ_ _ e=>e,⟨[],rfl,aO.nil⟩,L3 _,h0⟩ ?_ ?_ ?_ ?_ ?_
 ·rintro i c σ H' ⟨_,⟨bs,rfl,h⟩,_⟩
  have:=h.1;rw[Me]at this;rw[LC];exact aU ⋯
 ·rintro i c σ H' ⟨_,_,h,_⟩
  rw[LC];exact h
 ·rintro i c σ H' ⟨j,_⟩
  exact hl _ j
 ·rintro i x c σ H' m ⟨j,⟨bs,rfl,l⟩,hi,o⟩
  have d:i<as.length:=by have:=(LA.mp m).1;rwa [LC]at this
  rw[LF,Lz d]at m;cases m;have n:ys[i]?=some (ys[i]'⋯):=Lz ⋯;refine hs i as[i] _ (Lz d) n σ H' (λv σ2 H5=>_) (λσ2 H4=>_) o j (λb σ2 H2 hA s2 s3 hS2=>⟨s2,⟨bs++[b],by rw[LO];rfl,?_⟩,d,hS2⟩)
  ·rw[q0E,n]
   exact(l.mono λb y _ _ h=>up h s3).snoc hA
 ·rintro c σ H' ⟨j,⟨bs,rfl,l⟩,_⟩
  have e:ys.take (as.map emb).length=ys:=by rw[LC,hlen,Md]
  rw[e]at l;exact he _ _ j l
end
end L2
namespace L2
open PySem PySem.Spec PyProof.Rows QL PySem.Builtin
section
variable {X:Cx}
def xk(z:Str):Value->Bool
 | .str y _=>y.cps.toList==z.cps.toList
 |_=>false
theorem EM{t:Tok}(h:xk z (.str y t)=true):y=z:=by
 have h1:y.cps.toList=z.cps.toList:=by simpa[xk]using h
 cases y;cases z
 simp only[Str.mk.injEq];exact Array.toList_inj.mp h1
def uk:V->List V->Hp->VK->Prop:=λx vs H Q=>∃(l:Addr) (ts:MF) (z:Str) (j:Nat),x=.ref l/\vs=[.str z]/\H l=some (.lst (ts.map V.str))/\ts[j]?=some z/\(∀m y,m<j->ts[m]?=some y->y≠z)/\Q (.int (j:Int)) H
theorem zV:Ix X "list.index" uk:=by
 intro pins s σ H x vs v us Q I rx rv h;obtain⟨l,c,z,j,rfl,rfl,L,J,C,q⟩:=h;cases rx;obtain⟨u,rfl,O⟩:=rv.one;obtain⟨t,rfl⟩:=O;obtain⟨M,b,n,r,T,e⟩:=I.lstM L;have hjl:j<c.length:=(LA.mp J).1;have o:∀(m:Nat) y,c[m]?=some y->∃d,b[m]?=some (.str y d):=by
  intro m y B;obtain⟨w,S,p⟩:=r.get (i:=m) (x:=.str y) (by rw[LF,B];rfl);obtain⟨d,rfl⟩:=p;exact⟨d,S⟩
 have hll:b.length=c.length:=by rw[<- T,LC]
 have hsl:=I.lstM L;have R:b.length<=sizeLine:=by
  have:=M;omega
 rw[q0V]at R;refine call_meets F.slot_list_index ⟨_,e,rfl⟩ F.entry_list_index (F.args_list_index_2 _ _)
  (MeetsSeq.list_index l b.toArray n (.str z t) (xk z) (λy B=>?_) j (by rw[LJ];omega) ⋯ ?_ ?_) ⟨e,?_⟩
 ·obtain⟨m,D,Y⟩:=List.getElem_of_mem (by simpa using B)
  obtain⟨d,a⟩:=o m (c[m]'⋯) (Lz _);rw[Lz D,Y]at a
  injection a with a
  subst a;exact PySem.SeqRoads2.EqGives.str _ _ _ _
 ·obtain⟨d,a⟩:=o j z J
  rw[Lz ⋯]at a
  injection a with a
  show xk z b[j]=true;rw[a];simp[xk]
 ·intro m D G
  have g:m<c.length:=by rw[LJ]at D;omega
  obtain⟨d,a⟩:=o m (c[m]'g) (Lz _);rw[Lz ⋯]at a
  injection a with a
  show xk z b[m]=false;rw[a];cases U:xk z (.str (c[m]'g) d) with
  |false=>rfl
  |true=>exact q0Q (EM U) (C m _ G (Lz g))
 ·exact⟨.int _,H,I.tok _,⟨_,rfl⟩,q⟩
end
section
variable {K:Mv}{g:TG}{ti:TT}{te:TE}{σ:St}{H:Hp}{Q:List V->Hp->Prop}{α β:Type}
theorem vO{as:List α}{f:α->Option β}{i:Nat}{x:α}(hx:as[i]?=some x):(as.take (i+1)).filterMap f=(as.take i).filterMap f++(f x).toList:=by
 rw[q0E,hx,List.filterMap_append];show _++List.filterMap f [x]=_;cases h:f x<;>simp[h]
theorem vY(A:Hp->Addr->β->Prop)(up:∀{H H':Hp} {b:Addr} {y:β},A H b y->ax H H'->A H' b y){a:Addr}{as:List α}{emb:α->V}{f:α->Option β}(S:St->Prop)(h0:S σ)(hl:∀H',ax H H'->aI K H' a (as.map emb))(hn:as.length<=1000000)
  (hs:∀(i:Nat) x,as[i]?=some x->∀σ H' (N1:V->St->Hp->Prop) (N0:St->Hp->Prop),S σ->ax H H'->(∀b y σ2 H2,f x=some y->A H2 b y->ax H H2->ax H' H2->S σ2->N1 (.ref b) σ2 H2)->(∀σ2 H2,f x=none->ax H H2->ax H' H2->S σ2->N0 σ2 H2) ->
   g (emb x) σ H' λσ2 H3=>ti σ2 H3 λb H4=>if b=true then te σ2 H4 λv H5=>N1 v σ2 H5 else N0 σ2 H4)
  (he:∀bs H',ax H H'->aO A H' bs (as.filterMap f)->Q (bs.map V.ref) H'):fN (zw K a) g ti te σ H Q:=by
 refine dH (xs:=as.map emb) (λi c σ H'=>ax H H'/\(∃bs:List Addr,c=bs.map V.ref/\aO A H' bs ((as.take i).filterMap f))/\i<=as.length/\S σ) ⟨λ_ _ e=>e,⟨[],rfl,aO.nil⟩,L3 _,h0⟩ ?_ ?_ ?_ ?_ ?_
 ·rintro i c σ H' ⟨_,⟨bs,rfl,h⟩,_⟩
  have:=h.1;have h2:=List.length_filterMap_le f (as.take i);rw[Me]at h2;rw[LC];exact aU ⋯
 ·rintro i c σ H' ⟨_,_,h,_⟩
  rw[LC];exact h
 ·rintro i c σ H' ⟨j,_⟩
  exact hl _ j
 ·rintro i x c σ H' m ⟨j,⟨bs,rfl,l⟩,hi,o⟩
  have d:i<as.length:=by have:=(LA.mp m).1;rwa [LC]at this
  rw[LF,Lz d]at m;cases m;have n:as[i]?=some as[i]:=Lz d;refine hs i as[i] n σ H' (λv σ2 H5=>_) (λσ2 H4=>_) o j (λb y σ2 H2 hf hA s2 s3 hS2=>⟨s2,⟨bs++[b],by rw[LO];rfl,?_⟩,d,hS2⟩) (λσ2 H2 hf s2 s3 hS2=>⟨s2,⟨bs,rfl,?_⟩,d,hS2⟩)
  ·rw[vO n,hf]
   exact(l.mono λb y _ _ h=>up h s3).snoc hA
  ·rw[vO n,hf]
   show aO A H2 bs (_++[]);rw[Ma];exact l.mono λb y _ _ h=>up h s3
 ·rintro c σ H' ⟨j,⟨bs,rfl,l⟩,_⟩
  have e:(as.take (as.map emb).length).filterMap f=as.filterMap f:=by rw[LC,Md]
  rw[e]at l;exact he _ _ j l
end
end L2
namespace L2
open PySem PySem.Spec PyProof.Rows QL PySem.Builtin PySem.Builtin.Str
theorem gn{H H':Hp}(h:H l=none)(e:aD H l o=H'):ax H H'/\H' l=some o:=by subst e;exact⟨af h,ae⟩
structure D9(K:Mv)(x qual:Str)(st:Stmt)(f:Addr)(fd:MD)(dT:Addr):Prop where
 ex:∃(oc:Value) (od:ML) (kV doc pm:Value) (an:ML) (cdv ct:Value) (osl:Array (Option Value)),
  fd=PySem.W.fnOf x qual (cX st) (cB st) (ao st) (.ref dT) kV doc pm an cdv ct/\K.lookup f=some ⟨oc,od,.func fd,osl⟩/\PySem.W.codeIn K cdv qual=true
section
variable {P:ME}{w:MJ}{K:Mv}{mg:MB}{base:Heap}
theorem D9.okX{qual:Str}{st:Stmt}{f dT:Addr}{ps:MF}{k:Nat}{sp:Sp}(F:D9 K x qual st f fd dT)(S:aC N ps (ao st))(len:∀vs H Q E,sp vs H Q E->vs.length=ps.length)
  (hbody:∀(cdv:Value) (A:MG) (outer:List Env) (s:My) (H:Hp) (vs:List V) (Q:VK) (E:XK),cT k (A.deeper (envOfC qual (ao st) s.heap.objs.size f cdv))->sp vs H Q E ->
   ∃t,uE (iB (kU P w) P w K mg base N qual (ao st) f cdv A outer s H E) (cB st) t/\t {nx:=λ_ H'=>Q .non H',rt:=Q} (start N vs) H):aY P w K mg base (kU P w) (k+1) f fd ps sp:=by
 obtain⟨oc,od,kV,doc,pm,an,cdv,ct,osl,rfl,c,b⟩:=F.ex;exact BQ c b S len λA outer s H vs Q E hr a=>hbody cdv A outer s H vs Q E hr a
end
section
variable {X:Cx}
end
end L2
namespace TS
open PySem PyProof.Rows
section
variable {M:Model}{A:MG}{E:Mu}{J:Shared->Prop}{σ:Type}
def mO(M:Model)(A:MG)(E:Mu)(J:Shared->Prop){α:Type}(m:StateT σ Sem α)(Q:α->σ->Prop)(st:σ):Prop:=
 ∀s,J s->wpAny M A (m.run st) (λr s'=>J s'/\Q r.1 r.2) E s
theorem cq{α:Type}{a:α}{Q:α->σ->Prop}{st:σ}(h:Q a st):mO M A E J (pure a:StateT σ Sem α) Q st:=by
 intro s j;rw[StateT.run_pure];exact q05 ⟨j,h⟩
theorem bI{α β:Type}{m:StateT σ Sem α}{f:α->StateT σ Sem β}{Q:β->σ->Prop}{st:σ}
  (h:mO M A E J m (λa st'=>mO M A E J (f a) Q st') st):mO M A E J (m >>= f) Q st:=by
 intro s j;rw[StateT.run_bind]
 exact q04 (q0W (h s j) (λr c b=>b.2 c b.1) λ_ _ e=>e)
theorem lG{α:Type}{m:StateT σ Sem α}{Q Q':α->σ->Prop}{st:σ}(h:mO M A E J m Q st)(hq:∀a st',Q a st'->Q' a st'):mO M A E J m Q' st:=
 λs j=>q0W (h s j) (λr _ h'=>⟨h'.1,hq _ _ h'.2⟩) λ_ _ e=>e
theorem qU{Q:σ->σ->Prop}{st:σ}(h:Q st st):mO M A E J (get:StateT σ Sem σ) Q st:=by
 intro s j;rw[StateT.run_get];exact q05 ⟨j,h⟩
theorem lu{f:σ->σ}{Q:PUnit->σ->Prop}{st:σ}(h:Q ⟨⟩ (f st)):mO M A E J (modify f:StateT σ Sem PUnit) Q st:=by
 intro s j;rw[StateT.run_modify];exact q05 ⟨j,h⟩
theorem xG{α:Type}{m:Sem α}{Q:α->σ->Prop}{st:σ}(h:∀s,J s->wpAny M A m (λa s'=>J s'/\Q a st) E s) :
  mO M A E J (liftM m:StateT σ Sem α) Q st:=by
 intro s j;show wpAny M A ((StateT.lift m:StateT σ Sem α).run st) _ E s;rw[StateT.run_lift];exact q04 (q0W (h s j) (λa s' b=>q05 b) λ_ _ e=>e)
theorem Dm{β:Type}(f:Nat->β->StateT σ Sem (ForInStep β))(I:List Nat->β->σ->Prop)(Q:β->σ->Prop)
  (hs:∀x cv b st,I (x::cv) b st->mO M A E J (f x b) (λr st'=>match r with | .done b'=>Q b' st' | .yield b'=>I cv b' st') st)
  (he:∀b st,I [] b st->Q b st):∀(l:Mx) (b:β) (st:σ),I l b st->mO M A E J (forIn l b f) Q st
 | [],b,st,h=>by rw[List.forIn_nil];exact cq (he _ _ h)
 |x::cv,b,st,h=>by
  rw[List.forIn_cons];refine bI (lG (hs x cv b st h) λr st' h'=>?_);cases r with
  |done b'=>exact cq h'
  |yield b'=>exact Dm f I Q hs he cv b' st' h'
theorem qI{β:Type}{a b:Nat}{f:Nat->β->StateT σ Sem (ForInStep β)}(I:Nat->β->σ->Prop){Q:β->σ->Prop}
  (hs:∀i c st,a<=i->i<b->I i c st->mO M A E J (f i c) (λr st'=>match r with | .done c'=>Q c' st' | .yield c'=>I (i+1) c' st') st)
  (he:∀c st,I (max a b) c st->Q c st) {c:β} {st:σ} (h:I a c st):mO M A E J (forIn [a:b] c f) Q st:=by
 rw[Std.Legacy.Range.forIn_eq_forIn_range'];have p:([a:b]:Std.Legacy.Range).size=b-a:=by simp[Std.Legacy.Range.size]
 show mO M A E J (forIn (List.range' a ([a:b]:Std.Legacy.Range).size 1) c f) Q st;rw[p];refine Dm f (λl c st=>∃n,l.length=n/\∃i,a<=i/\l=List.range' i n 1/\i+n=max a b/\I i c st) Q ?_ ?_ _ c st ⟨b-a,by simp,a,L1 _,rfl,⋯,h⟩
 ·rintro x cv c st ⟨n,e,i,d,g,j,m⟩
  cases n with
  |zero=>simp at e
  |succ n=>
   rw[List.range'_succ]at g;obtain⟨rfl,rfl⟩:=List.cons.inj g;refine lG (hs x c st d ⋯ m) λr st' o=>?_;cases r with
   |done c'=>exact o
   |yield c'=>exact⟨n,by simp,x+1,⋯,rfl,⋯,o⟩
 ·rintro c st ⟨n,e,i,d,g,j,m⟩
  simp at e;subst e
  have:i=max a b:=by omega
  subst this;exact he _ _ m
end
section
variable {prog:ME}{w:MJ}{A:MG}{E:Mu}{J:Shared->Prop}{a₀:Array Keyed}{kd:SortKind}{r:Keyed->Nat}
def yk(prog:ME)(w:MJ)(A:MG)(J:Shared->Prop)(a₀:Array Keyed)(kd:SortKind)(r:Keyed->Nat):Prop:=
 ∀x,x∈a₀.toList->∀y,y∈a₀.toList->∀s,J s->wpAny (model prog w) A (keyLt' kd x.1 y.1) (λb s'=>J s'/\b=decide (r x<r y)) (λ_ _=>False) s
theorem Ie(C:yk prog w A J a₀ kd r){x y:Keyed}(hx:x∈a₀.toList)(hy:y∈a₀.toList){st:SortSt}(hk:kindOf st=kd){Q:Option Bool->SortSt->Prop}
  (h:Q (some (decide (r x<r y))) st):mO (model prog w) A E J (lt' x y) Q st:=by
 rw[lt'_eq];refine bI (qU ?_);rw[hk];refine bI (xG λs j=>wpAny_attempt (q0W (C x hx y hy s j) (λb s' c=>?_) λ_ _ e=>?_))
 ·obtain⟨a,rfl⟩:=c;exact⟨a,cq h⟩
 ·exact e.elim
theorem Dl{arr:Array Keyed}{i:Nat}{p:Keyed}(hp:arr[i]?=some p){st:SortSt}{Q:Keyed->SortSt->Prop}(h:Q p st):mO (model prog w) A E J (elem' arr i) Q st:=by
 rw[elem'_eq,hp];exact cq h
def y_:Bool->Keyed->Array Keyed->Nat->Nat->Nat->StateT SortSt Sem (Option Nat):=sortPriv% PySem.Builtin.gallop
end
structure MI{α:Type}(le:α->α->Prop)(X Y out rx ry:List α):Prop where
 ex:∃px py,X=px++rx/\Y=py++ry/\out.Perm (px++py)
 so:out.Pairwise le
 ah:∀p,p∈out->∀q,q∈rx++ry->le p q
namespace MI
variable {α:Type}{le:α->α->Prop}{X Y out rx ry:List α}
theorem start(X Y:List α):MI le X Y [] X Y:=⟨⟨[],[],rfl,rfl,List.Perm.refl _⟩,.nil,λp h=>nomatch h⟩
theorem swap(h:MI le X Y out rx ry):MI le Y X out ry rx:=by
 obtain⟨⟨d,c,j,i,g⟩,s,a⟩:=h;exact⟨⟨c,d,i,j,g.trans List.perm_append_comm⟩,s,λp e q b=>a p e q (by rw[LP]at b ⊢;exact b.symm)⟩
theorem len(h:MI le X Y out rx ry):out.length+rx.length+ry.length=X.length+Y.length:=by
 obtain⟨⟨px,py,c,b,a⟩,_,_⟩:=h;have:=a.length_eq;rw[c,b];simp at this ⊢;omega
theorem dL{l:List α}(h:MI le X Y out rx ry)(hp:l.Perm (rx++ry))(hs:l.Pairwise le):(out++l).Pairwise le/\(out++l).Perm (X++Y):=by
 obtain⟨⟨b,py,e,d,c⟩,s,a⟩:=h;refine⟨List.pairwise_append.mpr ⟨s,hs,λp h1 q h2=>a p h1 q (hp.mem_iff.mp h2)⟩,?_⟩;rw[e,d];refine(c.append hp).trans ?_;rw[Mb,Mb];refine List.Perm.append_left b ?_;rw[<- Mb,<- Mb];exact List.perm_append_comm.append_right ry
end MI
abbrev PA:=Array Keyed
abbrev SM:=StateT SortSt Sem
abbrev uG(r:Keyed->Nat):Keyed->Keyed->Prop:=λp q=>r p<=r q
def Gg:Nat->SM Unit:=sortPriv% PySem.Builtin.setMinGallop
abbrev L0:=Option PA×PA×Nat×Nat×Nat
theorem dm{α β:Type}{m m':SM α}{f g:α->SM β}(e:m=m')(h:∀x,f x=g x):(m >>= f)=(m' >>= g):=by rw[e,funext h]
theorem lA{α:Type}{c:Prop}[Decidable c]{a b a' b':α}(h:a=a')(k:b=b'):(if c then a else b)=if c then a' else b':=by rw[h,k]
section
variable {prog:ME}{w:MJ}{A:MG}{E:Mu}{J:Shared->Prop}{a₀:Array Keyed}{kd:SortKind}{r:Keyed->Nat}
def bt(r:Keyed->Nat)(left:Bool)(key p:Keyed):Prop:=if left=true then r p<r key else r p<=r key
noncomputable instance (left:Bool)(key p:Keyed):Decidable (bt r left key p):=by unfold bt;infer_instance
theorem FN{arr:PA}{base n t:Nat}(hn:base+n<=arr.toList.length)(ht:t<n):arr[base+t]?=((arr.toList.drop base).take n)[t]?:=by
 rw[List.getElem?_take,q07 ht,List.getElem?_drop,q0G]
def HV(r:Keyed->Nat)(a b z:PA):Prop:=z.toList.Pairwise (uG r)/\z.toList.Perm (a.toList++b.toList)
structure IA(r:Keyed->Nat)(a b o:PA)(i j:Nat):Prop where
 mi:MI (uG r) a.toList b.toList o.toList (a.toList.drop i) (b.toList.drop j)
 hi:i+1<a.toList.length
 hj:j<b.toList.length
def PG(r:Keyed->Nat)(a b:PA)(k:Nat)(z:Option PA)(o:PA)(i j:Nat):Prop:=match z with
 |some z=>HV r a b z
 |none=>IA r a b o i j/\k<=o.size
variable {a b:PA}
end
abbrev H1:=Option PA×Nat×Nat×PA×Nat×Nat
abbrev H2:=Option PA×Nat×Nat×PA×Nat×Nat×Nat
abbrev H0:=Option PA×Nat×Nat×PA×Nat
abbrev F3(a b:PA)(i j:Nat)(o:PA):PA:=a.extract 0 i++b.extract 0 j++o.reverse
abbrev Iw(a b:PA)(i j:Nat)(o:PA):PA:=b.extract 0 j++a.extract 0 i++o.reverse
def HQ(a b:PA)(g:Nat)(i j:Nat)(o:PA)(m n:Nat):SM (ForInStep H1):=
 elem' b (j-1) >>= λy=>elem' a (i-1) >>= λx=>lt' y x >>= λt=>match t with
 |some t=>if t=true then elem' a (i-1) >>= λx=>
   if(i-1==0)=true then pure (.done (some (F3 a b (i-1) j (o.push x)),i-1,j,o.push x,m+1,0))
   else if m+1≥g then pure (.done (none,i-1,j,o.push x,m+1,0)) else pure (.yield (none,i-1,j,o.push x,m+1,0))
  else elem' b (j-1) >>= λy=>
   if(j-1==1)=true then pure (.done (some (Iw a b i (j-1) (o.push y)),i,j-1,o.push y,0,n+1))
   else if n+1≥g then pure (.done (none,i,j-1,o.push y,0,n+1)) else pure (.yield (none,i,j-1,o.push y,0,n+1))
 |_=>pure (.done (some (F3 a b i j o),i,j,o,m,n))
def IX(a b:PA)(i j:Nat)(o:PA)(g m n:Nat):SM (ForInStep H2):=
 elem' a (i-1) >>= λx=>if(i-1==0)=true then pure (.done (some (F3 a b (i-1) j (o.push x)),i-1,j,o.push x,g,m,n))
  else if(decide (m<7)&&decide (n<7))=true then pure (.done (none,i-1,j,o.push x,g,m,n)) else pure (.yield (none,i-1,j,o.push x,g,m,n))
def I_(a b:PA)(i j:Nat)(o:PA)(g m n:Nat):SM (ForInStep H2):=
 elem' b (j-1) >>= λy=>if(j-1==1)=true then pure (.done (some (Iw a b i (j-1) (o.push y)),i,j-1,o.push y,g,m,n))
  else elem' a (i-1) >>= λx=>y_ true x b 0 (j-1) (j-1-1) >>= λt=>match t with
  |some k=>if j-1-k>0 then
    if(k==1)=true then pure (.done (some (Iw a b i k (o.push y++(b.extract k (j-1)).reverse)),i,k,o.push y++(b.extract k (j-1)).reverse,g,m,j-1-k))
    else if(k==0)=true then pure (.done (some (F3 a b i k (o.push y++(b.extract k (j-1)).reverse)),i,k,o.push y++(b.extract k (j-1)).reverse,g,m,j-1-k))
    else IX a b i k (o.push y++(b.extract k (j-1)).reverse) g m (j-1-k)
   else IX a b i (j-1) (o.push y) g m (j-1-k)
  |_=>pure (.done (some (F3 a b i (j-1) (o.push y)),i,j-1,o.push y,g,m,n))
def nB(a b:PA)(i j:Nat)(o:PA)(g m n:Nat):SM (ForInStep H2):=
 Gg g >>= λ_=>elem' b (j-1) >>= λy=>y_ false y a 0 i (i-1) >>= λt=>match t with
  |some k=>if i-k>0 then
    if(k==0)=true then pure (.done (some (F3 a b k j (o++(a.extract k i).reverse)),k,j,o++(a.extract k i).reverse,g,i-k,n))
    else I_ a b k j (o++(a.extract k i).reverse) g (i-k) n
   else I_ a b i j o g (i-k) n
  |_=>pure (.done (some (F3 a b i j o),i,j,o,g,m,n))
section
variable {prog:ME}{w:MJ}{A:MG}{E:Mu}{J:Shared->Prop}{a₀:Array Keyed}{kd:SortKind}{r:Keyed->Nat}{a b:PA}
end
section
variable {prog:ME}{w:MJ}{A:MG}{E:Mu}{J:Shared->Prop}{a₀:Array Keyed}{kd:SortKind}{r:Keyed->Nat}
structure SB(a₀:PA)(kd:SortKind)(st:SortSt):Prop where
 perm:(arrOf st).toList.Perm a₀.toList
 kind:kindOf st=kd
 failed:failedOf st=none
end
abbrev As:=Option (Option Nat)×Nat
abbrev Ds:=Option (Option Nat)×Nat×Nat
def GJ(lo a n:Nat):SM As:=forIn [a:n] ((none,a):As) λ_ s=>ltAt' (lo+s.2) (lo+s.2-1) >>= λt=>match t with
 |some t=>if t=true then pure (.done (none,s.2)) else pure (.yield (none,s.2+1))
 |_=>pure (.done (some none,s.2))
def E3(lo m n:Nat):SM (Option Nat):=reverseSlice' lo (lo+m) >>= λ_=>GJ lo m n >>= λs=>match s.1 with
 |some z=>pure z
 |none=>pure (some s.2)
def HK(lo m n:Nat):SM Ds:=forIn [m:n] ((none,m,0):Ds) λ_ s=>ltAt' (lo+s.2.1) (lo+s.2.1-1) >>= λt=>match t with
 |some t=>if t=true then
   if s.2.2>0 then reverseSlice' (lo+s.2.1-(s.2.2+1)) (lo+s.2.1) >>= λ_=>pure (.yield (none,s.2.1+1,0)) else pure (.yield (none,s.2.1+1,0))
  else ltAt' (lo+s.2.1-1) (lo+s.2.1) >>= λt=>match t with
   |some t=>if t=true then pure (.done (none,s.2.1,s.2.2)) else pure (.yield (none,s.2.1+1,s.2.2+1))
   |_=>pure (.done (some none,s.2.1,s.2.2))
 |_=>pure (.done (some none,s.2.1,s.2.2))
def GE(lo m n:Nat):SM (Option Nat):=liftM (rule "list.sort.descending-run") >>= λ_=>HK lo (m+1) n >>= λs=>match s.1 with
 |some z=>pure z
 |none=>if s.2.2>0 then reverseSlice' (lo+s.2.1-(s.2.2+1)) (lo+s.2.1) >>= λ_=>E3 lo s.2.1 n else E3 lo s.2.1 n
def CD(lo n:Nat):SM (Option Nat):=GJ lo 1 n >>= λs=>match s.1 with
 |some z=>pure z
 |none=>if(s.2==n)=true then pure (some s.2) else if s.2>1 then ltAt' lo (lo+s.2-1) >>= λt=>match t with
   |some t=>if t=true then pure (some s.2) else reverseSlice' lo (lo+s.2) >>= λ_=>GE lo s.2 n
   |_=>pure none
  else GE lo s.2 n
theorem lU{β:Type}{rg:Std.Legacy.Range}{c:β}{f g:Nat->β->SM (ForInStep β)}(h:∀x s,f x s=g x s):(forIn rg c f:SM β)=forIn rg c g:=by
 rw[show f=g from funext λx=>funext λs=>h x s]
theorem uh(lo m n:Nat){f:As->SM (Option Nat)}(h:∀s,f s=match s.1 with | some z=>pure z | none=>pure (some s.2)){F:Nat->As->SM (ForInStep As)}
  (hF:∀x s,F x s=(ltAt' (lo+s.2) (lo+s.2-1) >>= λt=>match t with
   |some t=>if t=true then pure (.done (none,s.2)) else pure (.yield (none,s.2+1))
   |_=>pure (.done (some none,s.2)))):(reverseSlice' lo (lo+m) >>= λ_=>(forIn [m:n] ((none,m):As) F:SM As) >>= f)=E3 lo m n:=by
 unfold E3 GJ;exact dm rfl λ_=>dm (lU hF) h
theorem uT(lo n:Nat):countRun' lo n=CD lo n:=by
 have a:∀(m:Nat) {G:Ds->SM (Option Nat)} {F:Nat->Ds->SM (ForInStep Ds)},
   (∀s:Ds,G s=match s.1 with
    |some z=>pure z
    |none=>if s.2.2>0 then reverseSlice' (lo+s.2.1-(s.2.2+1)) (lo+s.2.1) >>= λ_=>E3 lo s.2.1 n else E3 lo s.2.1 n) ->
   (∀x s,F x s=(ltAt' (lo+s.2.1) (lo+s.2.1-1) >>= λt=>match t with
    |some t=>if t=true then
      if s.2.2>0 then reverseSlice' (lo+s.2.1-(s.2.2+1)) (lo+s.2.1) >>= λ_=>pure (.yield (none,s.2.1+1,0)) else pure (.yield (none,s.2.1+1,0))
     else ltAt' (lo+s.2.1-1) (lo+s.2.1) >>= λt=>match t with
      |some t=>if t=true then pure (.done (none,s.2.1,s.2.2)) else pure (.yield (none,s.2.1+1,s.2.2+1))
      |_=>pure (.done (some none,s.2.1,s.2.2))
    |_=>pure (.done (some none,s.2.1,s.2.2)))) ->
   ((liftM (rule "list.sort.descending-run"):SM Unit) >>= λ_=>(forIn [m+1:n] ((none,m+1,0):Ds) F:SM Ds) >>= G)=GE lo m n:=by
  intro m G F b c;unfold GE HK;exact dm rfl λ_=>dm (lU c) b
 unfold CD GJ;refine dm (lU λx s=>rfl) λs=>?_;obtain⟨z,m⟩:=s;cases z with
 |some z=>rfl
 |none=>
  refine lA rfl (lA (dm rfl λt=>?_) ?_)
  ·cases t with
   |none=>rfl
   |some t=>
    refine lA rfl (dm rfl λ_=>a m (λs=>?_) λx s=>rfl);obtain⟨z,m,q⟩:=s;cases z with
    |some z=>rfl
    |none=>exact lA (dm rfl λ_=>uh lo m n (λs=>by obtain⟨z,m⟩:=s;cases z<;>rfl) λx s=>rfl) (uh lo m n (λs=>by obtain⟨z,m⟩:=s;cases z<;>rfl) λx s=>rfl)
  ·refine a m (λs=>?_) λx s=>rfl
   obtain⟨z,m,q⟩:=s;cases z with
   |some z=>rfl
   |none=>exact lA (dm rfl λ_=>uh lo m n (λs=>by obtain⟨z,m⟩:=s;cases z<;>rfl) λx s=>rfl) (uh lo m n (λs=>by obtain⟨z,m⟩:=s;cases z<;>rfl) λx s=>rfl)
section
variable {prog:ME}{w:MJ}{A:MG}{E:Mu}{J:Shared->Prop}{a₀:Array Keyed}{kd:SortKind}{r:Keyed->Nat}
def Kr(r:Keyed->Nat)(xs:PA)(i:Nat):Nat:=match xs[i]? with
 |some p=>r p
 |none=>0
theorem vK{xs ys:PA}{i j:Nat}(h:xs[i]?=ys[j]?):Kr r xs i=Kr r ys j:=by unfold Kr;rw[h]
def Up(r:Keyed->Nat)(xs:PA)(lo n:Nat):Prop:=∀i j,i<=j->j<n->Kr r xs (lo+i)<=Kr r xs (lo+j)
def Dn(r:Keyed->Nat)(xs:PA)(lo n:Nat):Prop:=∀i j,i<=j->j<n->Kr r xs (lo+j)<=Kr r xs (lo+i)
structure KB(a₀:PA)(kd:SortKind)(lo:Nat)(st₀ st:SortSt):Prop where
 sb:SB a₀ kd st
 pe:pendingOf st=pendingOf st₀
 be:∀i,i<lo->(arrOf st)[i]?=(arrOf st₀)[i]?
theorem SB.size{st:SortSt}(h:SB a₀ kd st):(arrOf st).size=a₀.size:=by simpa using h.perm.length_eq
theorem KB.set{lo:Nat}{st₀ st:SortSt}(h:KB a₀ kd lo st₀ st){xs:PA}(hp:xs.Perm (arrOf st))(hb:∀i,i<lo->xs[i]?=(arrOf st)[i]?):KB a₀ kd lo st₀ (setArr st xs):=
 ⟨⟨(Array.perm_iff_toList_perm.mp hp).trans h.sb.perm,h.sb.kind,h.sb.failed⟩,h.pe,λi hi=>(hb i hi).trans (h.be i hi)⟩
theorem vk(C:yk prog w A J a₀ kd r){st:SortSt}(B:SB a₀ kd st){i j:Nat}(hi:i<a₀.size)(hj:j<a₀.size){Q:Option Bool->SortSt->Prop}
  (h:Q (some (decide (Kr r (arrOf st) i<Kr r (arrOf st) j))) st):mO (model prog w) A E J (ltAt' i j) Q st:=by
 have a:∀k,k<a₀.size->∃p,(arrOf st)[k]?=some p/\p∈a₀.toList:=λk g=>by
  have b:k<(arrOf st).size:=by rw[B.size];exact g
  exact⟨(arrOf st)[k],getElem?_pos _ k b,B.perm.mem_iff.mp (by simp)⟩
 obtain⟨p,d,m1⟩:=a i hi;obtain⟨q,c,e⟩:=a j hj;rw[ltAt'_eq];refine bI (qU (bI (Dl d (bI (Dl c (Ie C m1 e B.kind ?_))))));unfold Kr at h;rw[d,c]at h;exact h
theorem lP{xs:PA}{j:Nat}(hj:j<=xs.size)(k:Nat):Kr r (mirror xs i j ((j-i)/2)) k=if i<=k/\k<j then Kr r xs (i+j-1-k) else Kr r xs k:=by
 have e:=getElem?_mirror_all (i:=i) hj k
 by_cases h1:i<=k/\k<j
 ·rw[q07 h1]at e ⊢;exact vK e
 ·rw[q06 h1]at e ⊢;exact vK e
theorem df{xs:PA}{i j:Nat}(hj:j<=xs.size)(heq:∀k,i<=k->k<j->Kr r xs k=Kr r xs (j-1))(k:Nat):Kr r (mirror xs i j ((j-i)/2)) k=Kr r xs k:=by
 rw[lP hj]
 split
 ·rw[heq _ ⋯ ⋯,heq k ⋯ ⋯]
 ·rfl
theorem yQ{lo i j:Nat}{st₀ st:SortSt}(B:KB a₀ kd lo st₀ st)(hi:lo<=i)(hj:j<=a₀.size){Q:Unit->SortSt->Prop}
  (h:KB a₀ kd lo st₀ (setArr st (mirror (arrOf st) i j ((j-i)/2)))->Q () (setArr st (mirror (arrOf st) i j ((j-i)/2)))):mO (model prog w) A E J (reverseSlice' i j) Q st:=by
 rw[reverseSlice'_eq];refine lu (h (B.set (mirror_perm _ _ _ _) λk hk=>?_));rw[getElem?_mirror_all (by rw[B.sb.size];exact hj),q06 ⋯]
theorem Fb(C:yk prog w A J a₀ kd r){st:SortSt}(B:SB a₀ kd st){lo a n:Nat}{Q:As->SortSt->Prop}(hn:lo+n<=a₀.size)(ha:1<=a)(han:a<=n)(hs:Up r (arrOf st) lo a)
  (h:∀m,a<=m->m<=n->Up r (arrOf st) lo m->(m=n\/Kr r (arrOf st) (lo+m)<Kr r (arrOf st) (lo+m-1))->Q (none,m) st):mO (model prog w) A E J (GJ lo a n) Q st:=by
 unfold GJ;refine qI (I:=λx c st'=>st'=st/\c=(none,x)/\Up r (arrOf st) lo x) ?s ?e ⟨rfl,rfl,hs⟩
 case e=>
  rintro c st' ⟨rfl,rfl,b⟩;rw[show max a n=n by omega]at b ⊢;exact h n han (L1 _) b (.inl rfl)
 case s=>
  rintro x c st' q hxn ⟨rfl,rfl,b⟩;dsimp only;refine bI (vk C B ⋯ ⋯ ?_)
  by_cases d:Kr r (arrOf st') (lo+x)<Kr r (arrOf st') (lo+x-1)
  ·simp only[d,decide_true,if_true]
   exact cq (h x q ⋯ b (.inr d))
  ·simp only[d,decide_false,q0Z,if_false]
   refine cq ⟨rfl,rfl,λi j o hj=>?_⟩
   by_cases g:j<x
   ·exact b i j o g
   ·have l:j=x:=by omega
    subst l
    by_cases p:i=j
    ·subst p;exact L1 _
    ·have:=b i (j-1) ⋯ ⋯
     rw[show lo+(j-1)=lo+j-1 by omega]at this;omega
theorem E9(C:yk prog w A J a₀ kd r){st₀ st:SortSt}{lo m n:Nat}(B:KB a₀ kd lo st₀ st){Q:Option Nat->SortSt->Prop}(hn:lo+n<=a₀.size)(h1:1<=m)(hm:m<=n)(hs:Dn r (arrOf st) lo m)
  (h:∀k st',KB a₀ kd lo st₀ st'->1<=k->k<=n->Up r (arrOf st') lo k->Q (some k) st'):mO (model prog w) A E J (E3 lo m n) Q st:=by
 unfold E3;have a:lo+m<=(arrOf st).size:=by rw[B.sb.size];omega
 refine bI (yQ B (L1 _) ⋯ λb=>?_);refine bI (Fb C b.sb hn h1 hm (λi j hij hj=>?_) λk k1 d c _=>cq (h k _ b ⋯ d c));show Kr r (mirror (arrOf st) lo (lo+m) ((lo+m-lo)/2)) (lo+i)<=Kr r (mirror (arrOf st) lo (lo+m) ((lo+m-lo)/2)) (lo+j);rw[lP a,lP a,q07 ⋯,q07 ⋯];have:=hs (m-1-j) (m-1-i) ⋯ ⋯;rw[show lo+(lo+m)-1-(lo+i)=lo+(m-1-i) by omega,show lo+(lo+m)-1-(lo+j)=lo+(m-1-j) by omega];exact this
theorem Hk(C:yk prog w A J a₀ kd r){st₀ st:SortSt}{lo m n:Nat}(B:KB a₀ kd lo st₀ st){Q:Ds->SortSt->Prop}(hn:lo+n<=a₀.size)(h1:1<=m)(hm:m<=n)(hs:Dn r (arrOf st) lo m)
  (h:∀k q st',KB a₀ kd lo st₀ st'->m<=k->k<=n->Dn r (arrOf st') lo k->q+1<=k->(∀i,k-(q+1)<=i->i<k->Kr r (arrOf st') (lo+i)=Kr r (arrOf st') (lo+k-1))->Q (none,k,q) st') :
  mO (model prog w) A E J (HK lo m n) Q st:=by
 unfold HK;refine qI (I:=λx c st'=>∃q,c=(none,x,q)/\KB a₀ kd lo st₀ st'/\Dn r (arrOf st') lo x/\q+1<=x/\(∀i,x-(q+1)<=i->i<x->Kr r (arrOf st') (lo+i)=Kr r (arrOf st') (lo+x-1))) ?s ?e
  ⟨0,rfl,B,hs,⋯,λi h1 h2=>by congr 1;omega⟩
 case e=>
  rintro c st' ⟨q,rfl,d,a,o,g⟩;rw[show max m n=n by omega]at a o g ⊢;exact h n q st' d hm (L1 _) a o g
 case s=>
  rintro x c st' M hxn ⟨q,rfl,d,a,o,g⟩;dsimp only;have S:lo+x<=(arrOf st').size:=by rw[d.sb.size];omega
  have L:∀k,lo+x-(q+1)<=k->k<lo+x->Kr r (arrOf st') k=Kr r (arrOf st') (lo+x-1):=λk k1 k2=>by
   have:=g (k-lo) ⋯ ⋯
   rwa [show lo+(k-lo)=k by omega]at this
  have b:∀{u:PA},(∀k,Kr r u k=Kr r (arrOf st') k)->Kr r (arrOf st') (lo+x)<=Kr r (arrOf st') (lo+x-1)->Dn r u lo (x+1):=by
   intro u O hle i j D hj;rw[O,O]
   by_cases v:j<x
   ·exact a i j D v
   ·have y:j=x:=by omega
    subst y
    by_cases G:i=j
    ·subst G;exact L1 _
    ·have:=a i (j-1) ⋯ ⋯
     rw[show lo+(j-1)=lo+j-1 by omega]at this;omega
  refine bI (vk C d.sb ⋯ ⋯ ?_)
  by_cases p:Kr r (arrOf st') (lo+x)<Kr r (arrOf st') (lo+x-1)
  ·simp only[p,decide_true,if_true]
   by_cases l:q>0
   ·rw[q07 l]
    refine bI (yQ d ⋯ ⋯ λU=>cq ⟨0,rfl,U,b (df S L) (q0P p),⋯,λi h1 h2=>by congr 1;omega⟩)
   ·rw[q06 l]
    exact cq ⟨0,rfl,d,b (λ_=>rfl) (q0P p),⋯,λi h1 h2=>by congr 1;omega⟩
  ·simp only[p,decide_false,q0Z,if_false]
   refine bI (vk C d.sb ⋯ ⋯ ?_)
   by_cases R:Kr r (arrOf st') (lo+x-1)<Kr r (arrOf st') (lo+x)
   ·simp only[R,decide_true,if_true]
    exact cq (h x q st' d M ⋯ a o g)
   ·simp only[R,decide_false,q0Z,if_false]
    have T:Kr r (arrOf st') (lo+x)=Kr r (arrOf st') (lo+x-1):=by omega
    refine cq ⟨q+1,rfl,d,b (λ_=>rfl) ⋯,⋯,λi h1 h2=>?_⟩;rw[show lo+(x+1)-1=lo+x by omega]
    by_cases z:i=x
    ·subst z;rfl
    ·rw[T];exact g i ⋯ ⋯
theorem E2(C:yk prog w A J a₀ kd r){st₀ st:SortSt}{lo m n:Nat}(B:KB a₀ kd lo st₀ st){Q:Option Nat->SortSt->Prop}(hn:lo+n<=a₀.size)(hm:m+1<=n)(hs:Dn r (arrOf st) lo (m+1))
  (h:∀k st',KB a₀ kd lo st₀ st'->1<=k->k<=n->Up r (arrOf st') lo k->Q (some k) st'):mO (model prog w) A E J (GE lo m n) Q st:=by
 unfold GE;refine bI (xG λs j=>wpAny_rule ⟨j,?_⟩);refine bI (Hk C B hn ⋯ hm hs λk q st' g o d a hq u=>?_);dsimp only;have l:lo+k<=(arrOf st').size:=by rw[g.sb.size];omega
 by_cases b:q>0
 ·rw[q07 b]
  refine bI (yQ g ⋯ ⋯ λv=>E9 C v hn ⋯ d (λi j e p=>?_) h);have c:∀t,lo+k-(q+1)<=t->t<lo+k->Kr r (arrOf st') t=Kr r (arrOf st') (lo+k-1):=λt o d=>by
   have:=u (t-lo) ⋯ ⋯
   rwa [show lo+(t-lo)=t by omega]at this
  show Kr r (mirror (arrOf st') _ _ _) _<=Kr r (mirror (arrOf st') _ _ _) _;rw[df l c,df l c];exact a i j e p
 ·rw[q06 b]
  exact E9 C g hn ⋯ d a h
theorem xZ(C:yk prog w A J a₀ kd r){st:SortSt}{lo n:Nat}(B:SB a₀ kd st){Q:Option Nat->SortSt->Prop}(hn:lo+n<=a₀.size)(h1:1<=n)
  (h:∀k st',KB a₀ kd lo st st'->1<=k->k<=n->Up r (arrOf st') lo k->Q (some k) st'):mO (model prog w) A E J (countRun' lo n) Q st:=by
 rw[uT];unfold CD
 have e:KB a₀ kd lo st st:=⟨B,rfl,λ_ _=>rfl⟩;refine bI (Fb C B hn (L1 1) h1 (λi j c x=>by
  have:i=j:=by omega
  subst this;exact L1 _) λm m1 u d g=>?_)
 dsimp only
 by_cases q:m=n
 ·rw[q07 (by rw[q];exact beq_self_eq_true n)]
  exact cq (h m st e m1 u d)
 ·rw[q06 (by simpa using q)]
  have b:=g.resolve_left q
  by_cases y:m>1
  ·rw[q07 y]
   refine bI (vk C B ⋯ ⋯ ?_)
   by_cases hr:Kr r (arrOf st) lo<Kr r (arrOf st) (lo+m-1)
   ·simp only[hr,decide_true,if_true]
    exact cq (h m st e m1 u d)
   ·simp only[hr,decide_false,q0Z,if_false]
    have v:lo+m<=(arrOf st).size:=by rw[B.size];omega
    have all:∀k,lo<=k->k<lo+m->Kr r (arrOf st) k=Kr r (arrOf st) (lo+m-1):=λk k1 k2=>by
     have D:=d 0 (k-lo) ⋯ ⋯;have z:=d (k-lo) (m-1) ⋯ ⋯;rw[show lo+(k-lo)=k by omega]at D z;rw[show lo+(m-1)=lo+m-1 by omega]at z;rw[show lo+0=lo by omega]at D;omega
    refine bI (yQ e (L1 _) ⋯ λI=>E2 C I hn ⋯ (λi j c x=>?_) h);show Kr r (mirror (arrOf st) _ _ _) _<=Kr r (mirror (arrOf st) _ _ _) _;rw[df v all,df v all]
    by_cases hjn:j<m
    ·rw[all (lo+i) ⋯ ⋯,all (lo+j) ⋯ ⋯];exact L1 _
    ·have o:j=m:=by omega
     subst o
     by_cases a:i=j
     ·subst a;exact L1 _
     ·rw[all (lo+i) ⋯ ⋯];exact q0P b
  ·rw[q06 y]
   have G:m=1:=by omega
   subst G;refine E2 C e hn ⋯ (λi j c x=>?_) h
   by_cases a:i=j
   ·subst a;exact L1 _
   ·have p:i=0:=by omega
    have l:j=1:=by omega
    subst p;subst l
    exact q0P b
theorem rC{xs:PA}{src d:Nat}(hs:src<xs.size)(hd:d<=src)(k:Nat) :
  Kr r (bubble xs src d) k=if k=src-d then Kr r xs src else if src-d<k/\k<=src then Kr r xs (k-1) else Kr r xs k:=by
 have e:=getElem?_bubble hs d hd k
 by_cases h1:k=src-d
 ·rw[q07 h1]at e ⊢;exact vK e
 ·rw[q06 h1]at e ⊢
  by_cases h2:src-d<k/\k<=src
  ·rw[q07 h2]at e ⊢;exact vK e
  ·rw[q06 h2]at e ⊢;exact vK e
theorem GW(C:yk prog w A J a₀ kd r){st₀ st:SortSt}{lo n ok:Nat}(B:KB a₀ kd lo st₀ st){Q:Bool->SortSt->Prop}(hn:lo+n<=a₀.size)(hok:ok<=n)(hs:Up r (arrOf st) lo ok)
  (h:∀st',KB a₀ kd lo st₀ st'->Up r (arrOf st') lo n->Q true st'):mO (model prog w) A E J (binarySort' lo n ok) Q st:=by
 rw[binarySort'_eq];refine bI (lG (qI (I:=λk c st'=>c=(none,())/\KB a₀ kd lo st₀ st'/\Up r (arrOf st') lo (min k n)) (Q:=λc st'=>c=(none,())/\KB a₀ kd lo st₀ st'/\Up r (arrOf st') lo n) ?s ?e ?i) ?p)
 case p=>
  rintro c st' ⟨rfl,d,b⟩;exact cq (h st' d b)
 case i=>
  refine⟨rfl,B,λi j o G=>?_⟩
  by_cases h1:ok=0
  ·have:i=j:=by omega
   subst this;exact L1 _
  ·exact hs i j o ⋯
 case e=>
  rintro c st' ⟨M,d,b⟩;refine⟨M,d,?_⟩
  rwa [show min (max (max ok 1) n) n=n by omega]at b
 case s=>
  rintro k c st' hak hkn ⟨rfl,d,b⟩;rw[show min k n=k by omega]at b;refine bI (lG (qI (I:=λx c a=>a=st'/\∃l u,c=(none,l,u)/\l<=u/\u<=k/\u-l<=k-x /\
    (∀i,i<l->Kr r (arrOf st') (lo+i)<=Kr r (arrOf st') (lo+k))/\(∀i,u<=i->i<k->Kr r (arrOf st') (lo+k)<Kr r (arrOf st') (lo+i)))
   (Q:=λc a=>a=st'/\∃l u,c=(none,l,u)/\l<=k /\
    (∀i,i<l->Kr r (arrOf st') (lo+i)<=Kr r (arrOf st') (lo+k))/\(∀i,l<=i->i<k->Kr r (arrOf st') (lo+k)<Kr r (arrOf st') (lo+i))) ?s2 ?e2 ?i2) ?p2)
  case i2=>exact⟨rfl,0,k,rfl,⋯,⋯,⋯,λi L=>by omega,λi h1 h2=>by omega⟩
  case e2=>
   rintro c a ⟨rfl,l,u,rfl,h1,h2,O,m,g⟩;have:l=u:=by omega
   subst this;exact⟨rfl,l,l,rfl,h2,m,g⟩
  case s2=>
   rintro x c a _ hxk ⟨rfl,l,u,rfl,h1,h2,O,m,g⟩;dsimp only
   by_cases z:l≥u
   ·rw[q07 z]
    have:l=u:=by omega
    subst this;exact cq ⟨rfl,l,l,rfl,h2,m,g⟩
   ·rw[q06 z]
    refine bI (vk C d.sb ⋯ ⋯ ?_)
    by_cases q:Kr r (arrOf a) (lo+k)<Kr r (arrOf a) (lo+(l+u)/2)
    ·simp only[q,decide_true,if_true]
     exact cq ⟨rfl,l,(l+u)/2,rfl,⋯,⋯,⋯,m,λi y D=>LV q (b _ _ y D)⟩
    ·simp only[q,decide_false,q0Z,if_false]
     exact cq ⟨rfl,(l+u)/2+1,u,rfl,⋯,⋯,⋯,λi y=>L9 (b i ((l+u)/2) ⋯ ⋯) (Nat.not_lt.mp q),g⟩
  case p2=>
   rintro c a ⟨rfl,l,u,rfl,h2,m,g⟩;show mO _ _ _ _ (moveDown' (lo+k) (lo+l) >>= λ_=>pure (ForInStep.yield (none,()))) _ _;rw[moveDown'_eq];have v:lo+k<(arrOf a).size:=by rw[d.sb.size];omega
   refine bI (lu (cq ⟨rfl,d.set (bubble_perm _ _ _) λi L=>?_,?_⟩))
   ·rw[getElem?_bubble v _ ⋯,q06 ⋯,q06 ⋯]
   ·rw[show min (k+1) n=k+1 by omega]
    intro i j o G;show Kr r (bubble (arrOf a) (lo+k) (lo+k-(lo+l))) (lo+i)<=Kr r (bubble (arrOf a) (lo+k) (lo+k-(lo+l))) (lo+j);rw[rC v ⋯,rC v ⋯,show lo+k-(lo+k-(lo+l))=lo+l by omega]
    repeat' split
    all_goals first
     | (exfalso;omega)
     |exact L1 _
     |exact m _ ⋯
     | (rw[show lo+j-1=lo+(j-1) by omega];exact q0P (g _ ⋯ ⋯))
     | (rw[show lo+i-1=lo+(i-1) by omega,show lo+j-1=lo+(j-1) by omega];exact b _ _ ⋯ ⋯)
     | (rw[show lo+j-1=lo+(j-1) by omega];exact b _ _ ⋯ ⋯)
     |exact b _ _ ⋯ ⋯
theorem Eg{xs:PA}{lo n:Nat}(hz:lo+n<=xs.size)(h:Up r xs lo n):((xs.toList.drop lo).take n).Pairwise (uG r):=by
 rw[List.pairwise_iff_getElem];intro i j g d c;have e:j<n:=by simp at d;omega
 have a:∀k (b:k<((xs.toList.drop lo).take n).length),Kr r xs (lo+k)=r ((xs.toList.drop lo).take n)[k]:=by
  intro k b;unfold Kr;rw[FN (n:=n) (by simpa using hz) (by simp at b;omega),Lz b]
 have:=h i j (q0P c) e;rw[a i g,a j d]at this;exact this
theorem KB.split{lo n:Nat}{st₀ st:SortSt}(B:KB a₀ kd lo st₀ st){u:List Keyed}{v:List Keyed}(e:(arrOf st₀).toList=u++v)(hu:u.length=lo)(hn:lo+n<=a₀.size)(hs:Up r (arrOf st) lo n) :
  ∃x v',(arrOf st).toList=u++(x++v')/\x.length=n/\x.Pairwise (uG r):=by
 have b:lo+n<=(arrOf st).size:=by rw[B.sb.size];exact hn
 refine⟨((arrOf st).toList.drop lo).take n,(arrOf st).toList.drop (lo+n),?_,by simp;omega,Eg b hs⟩;have c:(arrOf st).toList.take lo=u:=by
  apply List.ext_getElem?;intro i
  by_cases a:i<lo
  ·rw[List.getElem?_take,q07 a,q0G,B.be i a,<- q0G,e,LY ⋯]
  ·rw[List.getElem?_take,q06 a,List.getElem?_eq_none ⋯]
 rw[<- List.drop_drop,List.take_append_drop,<- c,List.take_append_drop]
abbrev Pd:=Nat×Nat×Nat
def GQ(r:Keyed->Nat):List Pd->List (List Keyed)->Nat->Prop
 | [],rs,_=>rs=[]
 |e::p,rs,k=>∃x rs',rs=x::rs'/\e.1=k/\e.2.1=x.length/\x≠[]/\x.Pairwise (uG r)/\GQ r p rs' (k+x.length)
end
def rk(O:KeyOrd)(f:Keyed->O.α)(l:List Keyed)(p:Keyed):Nat:=l.countP λq=>O.blt (f q) (f p)
theorem uN{α:Type}{f g:α->Bool}:∀{l:List α},(∀x,x∈l->f x=true->g x=true)->(∃x,x∈l/\f x=false/\g x=true)->l.countP f<l.countP g
 | [],_,h=>by obtain⟨x,hx,_⟩:=h;exact nomatch hx
 |x::l,h,⟨y,hy,e1,e2⟩=>by
  rw[List.countP_cons,List.countP_cons];have le:l.countP f<=l.countP g:=List.countP_mono_left λx hx=>h x (LS _ hx);rcases LR.mp hy with rfl | hy
  ·rw[e1,e2];simp;omega
  ·have:=uN (f:=f) (g:=g) (l:=l) (λx hx=>h x (LS _ hx)) ⟨y,hy,e1,e2⟩
   have:=h x (q0B ..);cases hf:f x<;>cases hg:g x<;>simp_all<;>omega
theorem Fc{O:KeyOrd}{f:Keyed->O.α}{l:List Keyed}{x:Keyed}(hx:x∈l):O.blt (f x) (f y)=decide (rk O f l x<rk O f l y):=by
 cases h:O.blt (f x) (f y) with
 |true=>
  refine(q09 ?_).symm;exact uN (λz _ a=>O.trans _ _ _ a h) ⟨x,hx,O.irrefl _,h⟩
 |false=>
  refine(q08 (Nat.not_lt.mpr ?_)).symm;refine List.countP_mono_left λz _ a=>?_;rcases O.negTrans _ (f x) _ a with q | q
  ·exact q
  ·rw[h]at q;exact q0Q q nofun
theorem GO{O:KeyOrd}{f:Keyed->O.α}{l:List Keyed}{y:Keyed}(hy:y∈l)(h:rk O f l x<=rk O f l y):O.blt (f y) (f x)=false:=by
 rw[Fc (f:=f) (l:=l) hy];exact q08 (Nat.not_lt.mpr h)
theorem ER{h:Heap}{a:Addr}{vs:Array Value}(ho:h.get? a=some (seqObj "list" vs n)):∃e1,(h.update a (Obj.mapSeq λ_=>#[])).get? a=some (seqObj "list" #[] e1):=⟨_,get?_update_seq ho _⟩
def sort1(h:Heap)(a:Addr)(vs:Mz):Heap:=((h.update a (Obj.mapSeq λ_=>#[])).push (seqObj "tuple" vs.toArray 0)).push (seqObj "list" #[] 0)
section
variable {prog:ME}{w:MJ}{A:MG}{E:Mu}{s s2:My}
abbrev with1(s2:My)(vs:Mz):Heap:=s2.heap.push (seqObj "list" vs.toArray 0)
theorem ranks_out{O:KeyOrd}{f:Keyed->O.α}{ps:List Keyed}(hp:ps.Perm l)(h:ps.Pairwise (uG (rk O f l))):ps.Pairwise λp q=>O.blt (f q) (f p)=false:=by
 have mem:∀p,p∈ps->p∈l:=λp b=>hp.mem_iff.mp b;clear hp
 induction ps with
 |nil=>exact .nil
 |cons p ps ih=>
  rw[List.pairwise_cons]at h ⊢;exact⟨λq a=>GO (mem q (LS _ a)) (h.1 q a),ih h.2 λq a=>mem q (LS _ a)⟩
end
end TS
namespace TS
open PySem PyProof.Rows PySem.MeetsSeq PySem.MeetsSeq3
open AutoSeq1 (wpAny_loadPart')
abbrev HI(s:My)(a:Addr)(xs:Array Value)(n:Nat)(dd:ML)(sl:Array (Option Value)):Prop:=s.heap.get? a=some {cls:=.type "list",dict:=dd,data:=.seq xs n,slots:=sl}
def kF:List Str->List Str->Bool
 | [],[]=>false
 | [],_::_=>true
 |_::_,[]=>false
 |x::xs,y::ys=>if x==y then kF xs ys else decide (x.cps.toList<y.cps.toList)
section
variable {prog:ME}{w:MJ}{A:MG}{E:Mu}{s:My}
theorem uR{x y:Str}{t:Tok}{Q:Mu}(h:Q (.bool (decide (x.cps.toList<y.cps.toList))) s):wpAny (model prog w) A (richCompare .Lt (.str x t) (.str y u)) Q E s:=
 wpAny_richCompare_same (typeIs_str s x t) (typeIs_str s y u) slot_str_lt (call_str_lt ⟨(λq=>nomatch q),h⟩)
end
set_option maxHeartbeats 1600000 in
theorem EC(l b:Addr)(items items2:Array Value)(n n2:Nat)(dd dd2:ML)(sl sl2:Array (Option Value))(k:Nat) :
  ∀(i:Nat) (ss ts:MF),ss.length+ts.length=k->i<=items.size->i<=items2.size->StrsAre (items.toList.drop i) ss->StrsAre (items2.toList.drop i) ts->Meets (Builtin.«list.__eq__.loop» ⟨[.ref l,.ref b,rawInt i,rawInt 0],[]⟩)
   (λA R s=>HI s l items n dd sl/\HI s b items2 n2 dd2 sl2 /\
    R (.ok (.ret (.bool (kF ss ts)))) s):=by
 induction k using Nat.strongRecOn with
 |_ k ih=>
 intro i ss ts T S J h1 h2 z w A R s h;obtain⟨hp,g,d,tk,os⟩:=s;obtain⟨o,p,h⟩:=h
 wp_walk using wpAny_loadPart' o,wpAny_loadPart' p
 have Y:((i:Nat):Int).toNat=i:=by simp
 rw[Y];have I:∀{xs:Array Value},xs.toList.drop i=[]->i<=xs.size->xs[i]?=none/\xs.size=i:=fun{xs} e q=>by
  have:=q0R List.length e;simp at this;exact⟨by simp;omega,⋯⟩
 have j:∀{xs:Array Value} {v:Value} {r:Mz},xs.toList.drop i=v::r->xs[i]?=some v/\i<xs.size/\xs.toList.drop (i+1)=r:=fun{xs v r} e=>by
  have m:i<xs.toList.length:=by
   have:=q0R List.length e;simp at this ⊢;omega
  have q:=q0T (l:=xs.toList) m;rw[e]at q;obtain⟨O,M⟩:=List.cons.inj q;exact⟨by rw[<- q0G,Lz m,O],by simpa using m,M.symm⟩
 generalize C:items.toList.drop i=v1 at h1;generalize c:items2.toList.drop i=v2 at h2;cases h1 with
 |nil=>
  obtain⟨D,L⟩:=I C S;rw[D];cases h2 with
  |nil=>
   obtain⟨a,G⟩:=I c J;rw[a]
   wp_walk using wpAny_loadPart' o,wpAny_loadPart' p
   show R (.ok (.ret (.bool (decide (items.size<items2.size))))) _;rw[q08 ⋯];exact h
  |cons y u h2'=>
   obtain⟨a,G,_⟩:=j c;rw[a]
   wp_walk using wpAny_loadPart' o,wpAny_loadPart' p
   show R (.ok (.ret (.bool (decide (items.size<items2.size))))) _;rw[q09 ⋯];exact h
 |cons x t h1'=>
  obtain⟨D,L,d1⟩:=j C;rw[D];cases h2 with
  |nil=>
   obtain⟨a,G⟩:=I c J;rw[a]
   wp_walk using wpAny_loadPart' o,wpAny_loadPart' p
   show R (.ok (.ret (.bool (decide (items.size<items2.size))))) _;rw[q08 ⋯];exact h
  |cons y u h2'=>
   obtain⟨a,G,Z⟩:=j c;rw[a];refine q04 (eqBool_str ?_);unfold kF at h;cases B:x==y with
   |true=>
    rw[B,q07 rfl]at h
    wp_walk
    have U:((i:Int)+1)=((i+1:Nat):Int):=by push_cast;rfl
    rw[U];exact⟨plainId_quiet plain_eq_loop _,codeAny_builtin entry_eq_loop (by
     rw[Around.under_plainId plain_eq_loop _];exact ih _ (by rw[<- T];simp;omega) (i+1) _ _ rfl ⋯ ⋯ (by rw[d1];exact h1') (by rw[Z];exact h2') z w A R _ ⟨o,p,h⟩)⟩
   |false=>
    rw[B,q06 nofun]at h
    wp_walk using wpAny_loadPart' o,wpAny_loadPart' p
    rw[D,a];exact q04 (uR (q05 h))
theorem ur(l b:Addr)(items items2:Array Value)(n n2:Nat)(dd dd2:ML)(sl sl2:Array (Option Value))(ss ts:MF)(h1:StrsAre items.toList ss)(h2:StrsAre items2.toList ts) :
  Meets (Builtin.«list.__lt__» ⟨[.ref l,.ref b],[]⟩)
   (λA R s=>HI s l items n dd sl/\HI s b items2 n2 dd2 sl2 /\
    R (.ok (.ret (.bool (kF ss ts)))) s):=by
 intro a w A R s h;obtain⟨hp,g,d,tk,os⟩:=s;obtain⟨c,e,h⟩:=h
 have f3:=AutoSeq1.sub_list_list
 wp_walk using wpAny_loadPart' c,wpAny_loadPart' e
 exact⟨plainId_quiet plain_eq_loop _,codeAny_builtin entry_eq_loop (by
  rw[Around.under_plainId plain_eq_loop _];exact EC l b items items2 n n2 dd dd2 sl sl2 _ 0 ss ts rfl (L3 _) (L3 _) h1 h2 a w A R _ ⟨c,e,h⟩)⟩
abbrev cp(x:Str):List Nat:=x.cps.toList
theorem Gk(h:cp x=cp y):x=y:=by
 cases x;cases y;exact q0R _ (Array.toList_inj.mp h)
abbrev ks(l:MF):List (List Nat):=l.map cp
theorem sX:∀(l m:MF),kF l m=decide (ks l<ks m)
 | [],[]=>by simp[kF,List.lt_irrefl]
 | [],_::_=>by simp[kF]
 |_::_,[]=>by simp[kF]
 |x::l,y::m=>by
  unfold kF;have e:(ks (x::l)<ks (y::m))↔(cp x<cp y\/cp x=cp y/\ks l<ks m):=List.cons_lt_cons_iff
  by_cases h:x=y
  ·subst h
   rw[q07 (beq_self_eq_true x),sX l m];refine decide_eq_decide.mpr (e.trans ⟨λq=>?_,λq=>.inr ⟨rfl,q⟩⟩).symm;rcases q with q | q
   ·exact q0Q q (List.lt_irrefl _)
   ·exact q.2
  ·rw[q06 (by simpa using h)]
   refine decide_eq_decide.mpr (e.trans ⟨λq=>?_,λq=>.inl q⟩).symm;rcases q with q | q
   ·exact q
   ·exact q0Q (Gk q.1) h
@[reducible] def Ks:KeyOrd where
 α:=List (List Nat)
 blt a b:=decide (a<b)
 irrefl x:=q08 (List.lt_irrefl x)
 trans x y z p q:=q09 (List.lt_trans (of_decide_eq_true p) (of_decide_eq_true q))
 negTrans a b c h:=by
  simp only[q0a]at *
  by_cases hab:a<b
  ·exact .inl hab
  ·exact .inr (List.lt_of_le_of_lt (List.not_lt.mp hab) h)
 total x y p q:=List.le_antisymm (List.not_lt.mp (of_decide_eq_false q)) (List.not_lt.mp (of_decide_eq_false p))
@[reducible] def ordI:KeyOrd where
 α:=Int×List (List Nat)
 blt a b:=decide (a.1<b.1\/a.1=b.1/\a.2<b.2)
 irrefl a:=by simp[List.lt_irrefl]
 trans a b c h1 h2:=by
  simp only[q0a]at *;rcases h1 with h1 | ⟨h1,h1'⟩<;>rcases h2 with h2 | ⟨h2,h2'⟩
  ·exact .inl ⋯
  ·exact .inl ⋯
  ·exact .inl ⋯
  ·exact .inr ⟨⋯,List.lt_trans h1' h2'⟩
 negTrans a b c h:=by
  simp only[q0a]at *
  by_cases h1:a.1<b.1
  ·exact .inl (.inl h1)
  ·by_cases h2:b.1<c.1
   ·exact .inr (.inl h2)
   ·rcases h with h | ⟨h,h'⟩
    ·omega
    ·by_cases hab:a.2<b.2
     ·exact .inl (.inr ⟨⋯,hab⟩)
     ·exact .inr (.inr ⟨⋯,List.lt_of_le_of_lt (List.not_lt.mp hab) h'⟩)
 total a b h1 h2:=by
  simp only[decide_eq_false_iff_not]at *;have e:a.1=b.1:=by
   have q1:¬ a.1<b.1:=λq=>h1 (.inl q);have q2:¬ b.1<a.1:=λq=>h2 (.inl q);omega
  have e2:a.2=b.2:=List.le_antisymm (List.not_lt.mp λq=>h2 (.inr ⟨e.symm,q⟩)) (List.not_lt.mp λq=>h1 (.inr ⟨e,q⟩));exact Prod.ext e e2
section
variable {prog:ME}{w:MJ}{A:MG}{E:Mu}{s:My}
theorem om:∀{vs:Mz} {ss:MF},StrsAre vs ss->vs.length=ss.length
 |_,_,.nil=>rfl
 |_,_,.cons x t h=>by simp[om h]
theorem sN:∀{vs:Mz} {ss:MF},StrsAre vs ss->∀j (h:j<vs.length),∃t,vs[j]=.str (ss.getD j ⟨#[]⟩) t
 |_,_,.cons x t h,0,_=>⟨t,rfl⟩
 |_,_,.cons x t h,j+1,hj=>by
  obtain⟨t',e⟩:=sN h j (by simpa using hj);exact⟨t',by simpa using e⟩
theorem Bt{ss:MF}(hl:s.heap.IsList l xs)(hb:s.heap.IsList b ys)(h1:StrsAre xs.toList ss)(h2:StrsAre ys.toList ts)(hu:A.units<cLine) :
  SeqAt.EqAt A s (.ref l) (.ref b) (decide (ss=ts)):=by
 by_cases d:l=b
 ·subst d
  have:xs=ys:=by
   obtain⟨o,B,_,n,C⟩:=hl;obtain⟨o',c,_,n',g⟩:=hb;rw[B]at c;cases c
   rw[C]at g;injection g
  subst this;have:ss=ts:=by rw[<- h1.strs,<- h2.strs]
  rw[q09 this];exact SeqAt.EqAt.same _
 ·refine SeqAt.EqAt.of_refs d ?_
  have r:=om h1;have y:=om h2;simp at r y
  by_cases p:xs.size=ys.size
  ·have q:=SeqAt.RcAt.lists (A:=A) (e:=λj=>ss.getD j ⟨#[]⟩==ts.getD j ⟨#[]⟩) hl hb p hu λj m i=>by
    obtain⟨t,x⟩:=sN h1 j (by simpa using m);obtain⟨u,v⟩:=sN h2 j (by simpa using i);rw[Array.getElem_toList]at x v;rw[x,v];exact λprog w E Q z=>eqBool_str z
   have e:((List.range xs.size).all λj=>ss.getD j ⟨#[]⟩==ts.getD j ⟨#[]⟩)=decide (ss=ts):=by
    by_cases a:ss=ts
    ·subst a;simp
    ·rw[q08 a]
     refine Bool.eq_false_iff.mpr λq=>a ?_;refine List.ext_getElem ⋯ λj m i=>?_;have:=Mj.mp q j (List.mem_range.mpr ⋯);rw[q0A,q0A,Lz m,Lz i,q0L,q0L]at this;exact eq_of_beq this
   rw[e]at q;exact q
  ·have a:¬ ss=ts:=λq=>p (by rw[q]at r;omega)
   rw[q08 a];exact SeqAt.RcAt.lists_lengths hl hb (by simpa using p) hu
theorem BU{ss:MF}{Q:Mu}(hl:s.heap.IsList l xs)(hb:s.heap.IsList b ys)(h1:StrsAre xs.toList ss)(h2:StrsAre ys.toList ts)(hu:A.units<cLine)
  (h:Q (.bool (kF ss ts)) s):wpAny (model prog w) A (richCompare .Lt (.ref l) (.ref b)) Q E s:=by
 obtain⟨⟨cls,q,data,o⟩,i,m,n,j⟩:=id hl;obtain⟨⟨cls2,g,data2,e⟩,a,d,p,c⟩:=id hb;simp only at m j d c;subst m j d c;exact richCompare_meets_room (op:=.Lt) ⟨_,i,rfl⟩ ⟨_,a,rfl⟩ PySem.F.slot_list_lt PySem.F.entry_list_lt (PySem.F.args_list_lt_2 _ _) (ur l b xs ys n p q g o e ss ts h1 h2)
  ⟨i,a,show Value.bool (kF ss ts)≠Value.notImplemented/\Q (.bool (kF ss ts)) s from⟨(λx=>nomatch x),h⟩⟩ hu
end
end TS
namespace TS
open PySem PyProof.Rows PySem.MeetsSeq PySem.MeetsSeq3 PySem.W
def D2(h:Heap)(v:Value)(ss:MF):Prop:=∃a o xs n,v=.ref a/\h.get? a=some o/\o.cls=.type "tuple"/\o.data=.seq xs n/\StrsAre xs.toList ss
def TupI(h:Heap)(v:Value)(k:Int×List Str):Prop:=∃a o n l ys t,v=.ref a/\h.get? a=some o/\o.cls=.type "tuple"/\o.data=.seq #[.int k.1 t,.ref l] n/\h.IsList l ys/\StrsAre ys.toList k.2
section
variable {prog:ME}{w:MJ}{A:MG}{E:Mu}{s:My}
theorem DG{k:Int×List Str}{Q:Bool->Shared->Prop}(hu:A.units<cLine)(hx:TupI s.heap x k)(hy:TupI s.heap y m)(h:Q (decide (k.1<m.1\/k.1=m.1/\ks k.2<ks m.2)) s) :
  wpAny (model prog w) A (keyLt' (tuples' true) x y) Q E s:=by
 obtain⟨a,o,n,l,xs,t,rfl,p,_,r,j,h1⟩:=hx;obtain⟨a2,o2,n2,l2,ys,u,rfl,d,_,g,b,h2⟩:=hy;refine kat_lt p r d g (kat_cons (wpAny_eqBool_int ?_));cases e:k.1==m.1 with
 |false=>
  refine kat_no (oneLt_int ?_);have ne:¬ k.1=m.1:=λq=>by rw[q]at e;simp at e
  rw[show decide (k.1<m.1\/k.1=m.1/\ks k.2<ks m.2)=decide (k.1<m.1) from decide_eq_decide.mpr ⟨λq=>q.elim id λq=>q0Q q.1 ne,.inl⟩]at h;exact h
 |true=>
  have v:=eq_of_beq e;have i:Q (kF k.2 m.2) s:=by
   rw[sX];rw[show decide (k.1<m.1\/k.1=m.1/\ks k.2<ks m.2)=decide (ks k.2<ks m.2) from decide_eq_decide.mpr ⟨λq=>q.elim (λq=>by omega) And.right,λq=>.inr ⟨v,q⟩⟩]at h;exact h
  refine kat_yes (kat_cons (Bt j b h1 h2 hu prog w _ _ ?_))
  by_cases c:k.2=m.2
  ·rw[q09 c]
   refine kat_yes (kat_nil ?_);have:kF k.2 m.2=false:=by rw[c,sX];exact q08 (List.lt_irrefl _)
   rw[this]at i;exact i
  ·rw[q08 c]
   refine kat_no ?_;rw[oneLt'_eq];simp only[show((true&&(1:Nat)==0)=true)=False by simp,if_false];exact q04 (BU j b h1 h2 hu (wpAny_truthy_bool i))
def keyEnd(h:Heap)(a kS:Addr)(out:Array Value):Heap:=(h.update kS (Obj.mapSeq λ_=>#[])).update a (Obj.mapSeq λ_=>out)
theorem Br{a kS:Addr}{e1:Nat}{keys:Array Value}{vs:Mz}{st:SortSt}{P:Fin->Shared->Prop}(hka:a≠kS)(hk:s.heap.get? kS=some (seqObj "list" keys e))(ha:s.heap.get? a=some (seqObj "list" #[] e1))
  (hz:keys.size<=sizeLine) (hz2:(arrOf st).size<=sizeLine) (hf:failedOf st=none) (h:P (.done (.ret .none)) {s with heap:=keyEnd s.heap a kS ((arrOf st).map (·.2))}) :
  wpAny (model prog w) A (ksk_tail a false e1 (.ref kS) st) P E s:=by
 have b:(s.heap.update kS (Obj.mapSeq λ_=>(#[]:Array Value))).get? a=some (seqObj "list" #[] e1):=((Heap.SameBut.update s.heap kS (Obj.mapSeq λ_=>(#[]:Array Value))).2 a hka).trans ha;unfold ksk_tail;dsimp only;refine q04 (listUpdate_at hk rfl ?_ hz (L3 _));refine q04 (wpAny_letGo ?_);refine q04 (seqEpoch_at b rfl ?_);refine q04 (listUpdate_at b rfl ?_ (L3 _) (by rw[q06 nofun,Array.size_map];exact Nat.le_succ_of_le hz2));rw[hf];simp only[bne_self_eq_false,q0Z,if_false];exact q05 h
end
theorem TupI.one{h:Heap}{v:Value}{k m:Int×List Str}(h1:TupI h v k)(h2:TupI h v m):k=m:=by
 obtain⟨a,o,n,l,ys,t,rfl,y,_,B,z,w⟩:=h1;obtain⟨a2,o2,n2,x,zs,u,e,d,_,b,j,r⟩:=h2;cases e;rw[y]at d;cases d
 rw[B]at b;have D:k.1=m.1:=by injection b with q;injection q with q;injection q with q _;injection q
 have C:l=x:=by injection b with q;injection q with q;injection q with _ q;injection q with q _;injection q
 subst C;obtain⟨o3,i,_,n3,p⟩:=z;obtain⟨o4,c,_,n4,g⟩:=j;rw[i]at c;cases c
 rw[p]at g;cases g
 exact Prod.ext D (by rw[<- w.strs,<- r.strs])
open Classical in
def keyI(h:Heap)(p:Keyed):Int×List (List Nat):=if q:∃k,TupI h p.1 k then(q.choose.1,ks q.choose.2) else(0,[])
theorem keyI_eq{p:Keyed}{k:Int×List Str}(q:TupI h p.1 k):keyI h p=(k.1,ks k.2):=by
 have a:∃k,TupI h p.1 k:=⟨k,q⟩;unfold keyI;rw[dif_pos a,a.choose_spec.one q]
section
variable {prog:ME}{w:MJ}{A:MG}{E:Mu}{s:My}
theorem cmp_I{a₀:PA}(hu:A.units<cLine)(h:∀p,p∈a₀.toList->∃k,TupI s.heap p.1 k):yk prog w A (· = s) a₀ (tuples' true) (rk ordI (keyI s.heap) a₀.toList):=by
 intro x c y d s' j;cases j;obtain⟨k,b⟩:=h x c;obtain⟨m,a⟩:=h y d;refine DG hu b a ⟨rfl,?_⟩;rw[<- Fc (O:=ordI) (f:=keyI s.heap) (y:=y) c,keyI_eq b,keyI_eq a]
theorem kind_I{vs:Mz}{Q:SortKind->Shared->Prop}(h:∀v,v∈vs->∃k,TupI s.heap v k)(h0:0<vs.length)(hq:Q (tuples' true) s):wpAny (model prog w) A (keyKind' vs.toArray) Q E s:=by
 have:∃fs,KatTups s.heap vs fs/\fs.length=vs.length/\∀v,v∈fs->∃x t,v=Value.int x t:=by
  clear h0 hq
  induction vs with
  |nil=>exact⟨[],trivial,rfl,λv b=>nomatch b⟩
  |cons v vs ih=>
   obtain⟨fs,t,l,q⟩:=ih λu hu=>h u (LS _ hu);obtain⟨k,a,o,n,ll,ys,c,rfl,d,g,e,hl,hs⟩:=h v (q0B ..);refine⟨.int k.1 c::fs,KatTups.cons d g e rfl t,by simp[l],λu hu=>?_⟩;rcases LR.mp hu with rfl | hu
   ·exact⟨_,_,rfl⟩
   ·exact q u hu
 obtain⟨fs,t,l,q⟩:=this;refine kat_kind (T:=.type "int") t ⋯ (λv b=>?_) (by rfl) hq;obtain⟨x,c,rfl⟩:=q v b;exact .now
end
end TS
namespace L2
open PySem PySem.Spec PyProof.Rows
theorem vd{α β:Type}{f:α->β}{l l':List β}(h:l.Perm l'):∀m:List α,l'=m.map f->∃m':List α,m'.Perm m/\l=m'.map f:=by
 induction h with
 |nil=>intro m e;exact⟨m,List.Perm.refl _,e⟩
 |cons x _ ih=>
  intro m e;cases m with
  |nil=>exact nomatch e
  |cons y m=>
   obtain⟨d,c⟩:=List.cons.inj e;obtain⟨m',p,q⟩:=ih m c;exact⟨y::m',p.cons y,by rw[q,d];rfl⟩
 |swap x y l=>
  intro m e
  match m,e with
  |a::b::m,e=>
   obtain⟨d,c⟩:=List.cons.inj e;obtain⟨u,r⟩:=List.cons.inj c;exact⟨b::a::m,List.Perm.swap a b m,by rw[d,u,r];rfl⟩
 |trans _ _ ih1 ih2=>
  intro m e;obtain⟨m1,n,i⟩:=ih2 m e;obtain⟨o,j,g⟩:=ih1 m1 i;exact⟨o,j.trans n,g⟩
theorem AL{h:Heap}{a b:Addr}{o:Obj}(hb:h.get? b=some o)(hne:b≠a):(TS.sort1 h a vs).get? b=some o:=by
 unfold TS.sort1;refine LB _ (LB _ ?_);rw[Heap.get?_update_ne _ _ _ _ hne];exact hb
def GY(K:Mv)(H:Hp)(x:V)(k:Int×List Str):Prop:=∃a l,x=.ref a/\cK K H a [.int k.1,.ref l]/\aI K H l (k.2.map V.str)
section
variable {X:Cx}
theorem Inv.pair{pins:Mw}{σ:St}(I:Inv X pins σ H s){x:V}{k:Int×List Str}{u:Value}(h:GY X.K H x k)(r:bx x u):TS.TupI s.heap u k:=by
 obtain⟨a,l,rfl,e,i⟩:=h;obtain rfl:u=Value.ref a:=r;obtain⟨its,b,⟨o,g,m,n,j⟩,_⟩:=I.tuple e;obtain⟨js,c,d,_⟩:=I.list i;cases b with
 |cons q1 b=>
  cases b with
  |cons q2 b=>
   cases b;obtain⟨t,rfl⟩:=q1;obtain rfl:=q2;exact⟨a,o,n,l,_,t,rfl,g,m,j,d.isList,by simpa using fG c⟩
abbrev kI(k:Int×List Str):Int×List (List Nat):=(k.1,TS.ks k.2)
end
@[reducible] def K3:KeyOrd where
 α:=Int
 blt a b:=decide (a<b)
 irrefl a:=by simp
 trans a b c h1 h2:=by simp only[q0a]at *;omega
 negTrans a b c h:=by simp only[q0a]at *;omega
 total a b h1 h2:=by simp only[decide_eq_false_iff_not]at *;omega
end L2
namespace TS
open PySem PyProof.Rows PySem.W
section
variable {prog:ME}{w:MJ}{A:MG}{E:Mu}{s:My}{T:String}{r d:Addr}{n:Nat}{P:Nat->Value->Prop}{OK:Heap->Prop}
theorem collect_src{Q:List Value->Shared->Prop}(K:KdlSrc prog w T r d n P OK)(hh:A.handled=none)(hok:OK s.heap)(hn:n<=sizeLine)
  (h:∀h' tk (acc':Array Value),(∀b o,s.heap.get? b=some o->h'.get? b=some o)->ItemsOf P acc' n->Q acc'.toList {s with heap:=h',toks:=tk}) :
  wpAny (model prog w) A (collect (.ref r)) Q E s:=by
 have m:=K.there _ hok;unfold collect;refine q04 (wpAny_runValue (codeAny_builtin entry_proto_collect' (show wpAny _ _ (do again (.builtin "list.__iadd__" ⟨[<- newList [],.ref r],[]⟩)) _ _ s from q04 (wpAny_newList (q05 ⟨Code.quiet_builtin _ (by decide +kernel),codeAny_builtin entry_list_iadd' ?_⟩)))));show wpAny _ _ (Builtin.List.listExtendWith (.ref s.heap.objs.size) (.ref r) (.ref s.heap.objs.size)) _ _ {s with heap:=s.heap.push (seqObj "list" #[] 0)};rw[Around.under_plainId (show plainId "list.__iadd__"=true by decide +kernel) _];refine q0W (kdl_extend (s:={s with heap:=s.heap.push (seqObj "list" #[] 0)}) (R:=λc i=>c=.ok (.ret (.ref s.heap.objs.size))/\∃h' tk acc' l,i={s with heap:=h',toks:=tk}/\(∀b o,s.heap.get? b=some o->h'.get? b=some o) /\
   h'.get? s.heap.objs.size=some {cls:=.type "list",dict:=none,data:=.seq acc' l,slots:=#[]}/\ItemsOf P acc' n) K hh (K.keep _ _ hok λb _ o e=>LB _ e) s.heap.objs.size (Nat.ne_of_gt m.1) (Nat.ne_of_gt m.2) (.ref s.heap.objs.size) 0 (LI _ rfl)
  (λh' tk acc' l p j g=>⟨rfl,h',tk,acc',l,rfl,λb o u=>p b o (LW (L5 u)) (LB _ u),j,g⟩) hn) (λdL i q=>?_) λe i B=>?_
 ·have y:∀(c:Result) (i:My),(c=.ok (.ret (.ref s.heap.objs.size))/\∃h' tk acc' l,i={s with heap:=h',toks:=tk}/\(∀b o,s.heap.get? b=some o->h'.get? b=some o) /\
    h'.get? s.heap.objs.size=some {cls:=.type "list",dict:=none,data:=.seq acc' l,slots:=#[]}/\ItemsOf P acc' n) ->
    match c with
    |Except.ok (Flow.ret v)=>wpAny (model prog w) A (match v with
      |Value.ref a=>do
       let o <- load a
       match o.data with
        |Data.seq xs epoch=>pure xs.toList
        |x=>unsupported "internal:collect"
      |x=>unsupported "internal:collect") Q E i
    |Except.ok a=>False
    |Except.error e=>E e i:=by
   rintro c i ⟨rfl,h',tk,acc',l,rfl,p,j,g⟩;exact q04 (wpAny_load j (q05 (h h' tk acc' p g)))
  cases dL with
  |done f=>exact y _ _ q
  |again l=>exact⟨q.1,codeAny_mono q.2 λc z hr=>y c z hr⟩
 ·exact nomatch B.1
end
section
variable {prog:ME}{w:MJ}{A:MG}{E:Mu}{s:My}
def KeyRun(prog:ME)(w:MJ)(A:MG)(E:Mu)(q:Addr)(Q:Mu)(vs:Mz)(s2:My):Prop:=
 vs.length<=sizeLine/\∀e1,((with1 s2 vs).update s2.heap.objs.size (Obj.mapSeq λ_=>(#[]:Array Value))).get? s2.heap.objs.size=some (seqObj "list" #[] e1)->∀kS,kS=(with1 s2 vs).objs.size+1 ->
   ∃(I:Nat->Array Value->Shared->Prop),I 0 #[] {s2 with heap:=sort1 (with1 s2 vs) s2.heap.objs.size vs} /\
  (∀i kA s',I i kA s'->kA.size=i/\s'.heap.get? s2.heap.objs.size=some (seqObj "list" #[] e1)/\∃e,s'.heap.get? kS=some (seqObj "list" kA e)) /\
  (∀i x kA s',vs[i]?=some x->I i kA s'->wpAny (model prog w) A.in1.in1 (call (.ref q) [x]) (λv s3=>(∃e,s3.heap.get? kS=some (seqObj "list" kA e))/\I (i+1) (kA.push v) {s3 with heap:=s3.heap.update kS (Obj.mapSeq (·.push v))}) (λ_ _=>False) s') /\
  (∀keys s',I vs.length keys s'->∃(kd:SortKind) (r:Keyed->Nat),(2<=vs.length->∀(Q:SortKind->Shared->Prop),Q kd s'->wpAny (model prog w) A.in1.in1 (keyKind' keys) Q E s')/\(2<=vs.length->yk prog w A.in1.in1 (· = s') (keys.zip vs.toArray) kd r) /\
   ∀ps:List Keyed,ps.Perm (keys.toList.zip vs)->ps.Pairwise (uG r)->Q (.ref s2.heap.objs.size) {s' with heap:=keyEnd s'.heap s2.heap.objs.size kS (ps.map (·.2)).toArray})
end
end TS
namespace L2
open PySem PySem.Spec PyProof.Rows QL
abbrev vG(p a:Addr):HO:=.ext λh=>h.IsValuesView p a
section
variable {X:Cx}{pins:Mw}{σ:St}{H:Hp}{s:My}{h':Heap}
theorem Inv.adopt{t':Nat}{a:Addr}(I:Inv X pins σ H s)(k:∀b u,b≠a->s.heap.get? b=some u->h'.get? b=some u)(hn:H a=none)(hL:a≠X.env.locals)
  (h1:X.s₀.heap.objs.size<=a) (h2:∀x c,X.env.cells.lookup x=some c->c≠a) (h3:∀p∈X.pn++pins,p.1≠a) (new:b6 X.prog X.w (aD H a o) h' a o):Inv X pins σ (aD H a o) {s with heap:=h',toks:=t' }:=by
 have i:∀b u,H b=some u->b≠a:=λb u e z=>by rw[z,hn]at e;cases e
 have g:∀b u,H b=some u->aD H a o b=some u:=λb u e=>by rw[ar (i b u e)];exact e
 refine I.step (g':=s.gens) (d':=s.drawn) (ch:=[a]) (λb j=>?_) (λb o _ _ d e _=>k b o (λz=>d (by simp[z])) e) (λb o _ _ d e _=>⟨o.slots,k b o (λz=>d (by simp[z])) e⟩) (λb _ d _ n=>by rw[ar (λz=>d (by simp[z]))];exact n)
  (λb o d e=>⟨o,k b o (λz=>d (by simp[z])) e⟩) (λb l e=>g _ _ e) (λb _ _ e=>g _ _ e) (λb ps e=>⟨#[],by rw[g _ _ e];simp⟩) (λm y=>?_) (λb u e=>?_) I.bare
 ·have e:b=a:=by simpa using j
  subst e;exact⟨.inr h1,hL,h2,h3⟩
 ·obtain⟨o,B,C,w,r⟩:=y
  exact⟨o,B,C,k _ o (Ne.symm hL) w,r⟩
 ·by_cases j:b=a
  ·subst j;rw[ae]at e;cases e;exact new
  ·rw[ar j]at e
   refine(I.hok b u e).stay (λc v d q=>k c v ?_ q) (λc q=>g _ _ q) λc l q=>g _ _ q;rcases d with z | z
   ·rw[z];exact j
   ·exact i c _ z
end
section
variable {X:Cx}{o:Expr}{apos cpos:Pos}{td:TE}
def wE(td:TE):TE:=λσ H Q=>td σ H λx H1=>∃a kvs,x=.ref a/\H1 a=some (.dK kvs)/\∀p,H1 p=none->Q (.ref p) (aD H1 p (vG p a))
theorem Cq(ho:PE X o td)(hb:attributeBase o "values" X.env (eval o X.env)=eval o X.env)(hl:(apos.endLine==cpos.line)=true):PE X (.Call (.Attribute o "values" apos) [] [] cpos) (wE td):=by
 intro c s σ H Q I h;refine wpAny_Call_method0_late hb hl (bY (ho c s σ H _ I h) λu d ⟨x,H1,g,q,a,i,v,l,r⟩=>?_);subst v;obtain rfl:u=Value.ref a:=q;obtain⟨p,n,t3⟩:=xa g (.inl ⟨i,.inl l⟩);refine⟨"dict",_,PySem.F.plainAttrs_dict,PySem.F.slot_dict_values,PySem.F.type_dict_values,p,n,?_⟩;refine Calls.callWith_builtin rfl (evalArgs_nil3 ?_);obtain⟨z,j,vs,rel,m⟩:=qQ g.hok l;refine call_meetsIn PySem.F.slot_dict_values m.typeIs PySem.F.entry_dict_values (PySem.F.args_dict_values_1 _) (meets_dict_values (bX X.prog X.w) a j) ⟨⟨_,m⟩,?_⟩;refine⟨.ref d.heap.objs.size,aD H1 d.heap.objs.size (vG d.heap.objs.size a),g.laid (t':=d.toks) (λb u e=>LB _ e) (L1 _) ?_,rfl,r _ (g.hok.fresh (L1 _))⟩;refine⟨⟨_,LI _ rfl,rfl,rfl⟩,⟨_,LI _ rfl⟩,?_⟩;rintro h1 h2 ⟨o,ho,x⟩ k;exact⟨o,k o ho,x⟩
end
end L2
namespace L2
open PySem PySem.Spec PyProof.Rows QL PySem.W
theorem oj{α β:Type}{F:α->β->Prop}:∀{l₁:List α} {l₂:List β} {i:Nat} {a:α},Paired F l₁ l₂->l₁[i]?=some a->∃b,l₂[i]?=some b/\F a b
 |_,_,_,_,.nil,e=>by simp at e
 |_,_,0,_,.cons r _,e=>by simp at e;subst e;exact⟨_,rfl,r⟩
 |_,_,i+1,a,.cons _ t,e=>by
  obtain⟨u,h1,h2⟩:=oj (i:=i) (a:=a) t (by simpa using e);exact⟨u,by simpa using h1,h2⟩
abbrev VE:=cO×Addr×List Str
abbrev HZ(e:VE):cO×V:=(e.1,.ref e.2.1)
abbrev Bq(e:VE):V:=.ref e.2.1
def gF(g:List Str->Int)(zs:List VE):Prop:=zs.Pairwise λa b=>TS.ordI.blt (kI (g b.2.2,b.2.2)) (kI (g a.2.2,a.2.2))=false
section
variable {X:Cx}{pins:Mw}{σ:St}{H:Hp}{s:My}{k:Nat}{f:Addr}{fd:MD}{ps:MF}{sp:Sp}{P:List Str->Prop}{g:List Str->Int}{Q:VK}{vs:Mz}{es:List VE}
theorem DJ(F:aY X.prog X.w X.K X.mg X.base bg k f fd ps sp)(hb:dW X.K fd ps [])(hr:cT (k+2) X.A)
  (hsp:∀l ss H Q E,aI X.K H l (ss.map V.str)->P ss->(∀t,H t=none->Q (.ref t) (aD H t (.tup [.int (g ss),.ref l])))->sp [.ref l] H Q E)
  (I:Inv X pins σ H s) (hl:vs.length=es.length) (hz:es.length<=sizeLine) (hit:∀(i:Nat) (x:Value),vs[i]?=some x->∃e:VE,es[i]?=some e/\x=Value.ref e.2.1)
  (hes:∀e,e∈es->aI X.K H e.2.1 (e.2.2.map V.str)/\P e.2.2)
  (q:∀zs:List VE,zs.Perm es->gF g zs->∀(H':Hp) (l:Addr),ax H H'->H l=none->H' l=some (.lst (zs.map Bq))->Q (.ref l) H') :
  TS.KeyRun X.prog X.w X.A X.xe f (EP X pins σ Q) vs s:=by
 refine⟨⋯,λe1 a6 M a4=>?_⟩;have hw:(TS.with1 s vs).objs.size=s.heap.objs.size+1:=size_push' ..;rw[hw]at a4;have nL:∀b,s.heap.objs.size<=b->b≠X.env.locals:=λb hb z=>by have h1:(X.env.locals:Nat)<s.heap.objs.size:=I.lt;rw[<- z]at h1;exact q0Q (LV h1 hb) (L_ _)
 have nF:∀b,s.heap.objs.size<=b->b∉X.fs:=λb hb=>I.nofs hb;have nC:∀b,s.heap.objs.size<=b->∀x c,X.env.cells.lookup x=some c->c≠b:=λb hb x c e z=>by
  obtain⟨v,o,ho,_⟩:=I.cell x c e;have h1:=L5 ho;rw[z]at h1;exact q0Q (LV h1 hb) (L_ _)
 have nP:∀b,s.heap.objs.size<=b->∀p∈X.pn++pins,p.1≠b:=λb hb p hp z=>by
  have h1:=L5 (I.pin p hp).1;rw[z]at h1;exact q0Q (LV h1 hb) (L_ _)
 have nS:X.s₀.heap.objs.size<=s.heap.objs.size:=I.sz;have a1:H s.heap.objs.size=none:=I.hok.fresh (L1 _);have Y:∀{L:Hp} {C:My} {pins':Mw},Inv X (pins++pins') σ L C->∀p∈pins,C.heap.get? p.1=some p.2/\L p.1=none/\p.1≠X.env.locals/\p.1∉X.fs/\∀v,p.2.data≠.cell v:=λJ p hp=>J.pin p (q0C _ (q0D _ hp));have B:∀(xs:Array Value) (n:Nat) (v),(seqObj "list" xs n).data≠.cell v:=λxs n v z=>by cases z
 refine⟨λi kA C=>∃(L:Hp) (D:MA) (e:Nat),Inv X (pins++[(s.heap.objs.size,seqObj "list" #[] e1),(M,seqObj "list" kA e)]) σ L C/\ax H L/\kA.toList=D.map Value.ref/\D.length=i /\
  (∀(j:Nat) (t:Addr) (d:VE),D[j]?=some t->es[j]?=some d->L t=some (.tup [.int (g d.2.2),.ref d.2.1])),?_,?_,?_,?_⟩
 ·have I':Inv X pins σ H {s with heap:=TS.sort1 (TS.with1 s vs) s.heap.objs.size vs}:=by
   refine I.kept (t':=s.toks) λb u e=>?_;have:=L5 e;exact AL (LB _ e) (LW this)
  refine⟨H,[],0,I'.pins_of λp hp=>?_,ax.refl _,rfl,rfl,λj t d h=>by simp at h⟩;rcases LP.mp hp with hp | hp
  ·exact I'.pin p (q0C _ hp)
  ·rcases LR.mp hp with rfl | hp
   ·exact⟨LB _ (LB _ a6),a1,nL _ (L1 _),nF _ (L1 _),B _ _⟩
   ·obtain rfl:=LD.mp hp
    refine⟨?_,I.hok.fresh ⋯,nL _ ⋯,nF _ ⋯,B _ _⟩;have a8:(((TS.with1 s vs).update s.heap.objs.size (Obj.mapSeq λ_=>(#[]:Array Value))).push (seqObj "tuple" vs.toArray 0)).objs.size=M:=by rw[size_push',Heap.size_update,hw];omega
    show(TS.sort1 (TS.with1 s vs) s.heap.objs.size vs).get? M=_;rw[<- a8];exact LI _ rfl
 ·rintro i kA C ⟨L,D,e,O,sm,hk,S,U⟩
  refine⟨by rw[<- Array.length_toList,hk,LC];exact S,(O.pin (s.heap.objs.size,_) (by simp)).1,e,(O.pin (M,_) (by simp)).1⟩
 ·rintro i x kA C hx ⟨L,D,e,O,sm,hk,S,U⟩
  obtain⟨d,T,rfl⟩:=hit i x hx;have a3:d∈es:=LG T;have hS:=sm.seq (hes d a3).1;have a2:=hsp d.2.1 d.2.2 L (λv H2=>∃t,v=.ref t/\L t=none/\H2=aD L t (.tup [.int (g d.2.2),.ref d.2.1])) E0 hS (hes d a3).2 λt Z=>⟨t,rfl,Z,rfl⟩;refine wpAny_call (codeAny_mono (F.run X.A.in1.in1 X.stack C L ⟨[.ref d.2.1],[]⟩ [.ref d.2.1] [.ref d.2.1] _ E0 (hr.in1.in1) O.env0.in1.in1 (hb C [.ref d.2.1] O.kIn (by have:=F.len _ _ _ _ a2;simpa using this)) (.cons rfl .nil) a2) λr s2 hq=>?_);cases r with
  |error e=>exact hq
  |ok fl=>
   cases fl with
   |next=>exact False.elim hq
   |brk=>exact False.elim hq
   |cont=>exact False.elim hq
   |ret u=>
    obtain⟨v,H2,I2,rv,t,rfl,Z,rfl⟩:=O.after hq;obtain rfl:u=Value.ref t:=rv;have p0:=I2.pin (s.heap.objs.size,seqObj "list" #[] e1) (by simp);have pk:=I2.pin (M,seqObj "list" kA e) (by simp);have Ia:Inv X (pins++[(s.heap.objs.size,seqObj "list" #[] e1)]) σ (aD L t (.tup [.int (g d.2.2),.ref d.2.1])) s2:=I2.pins_of λp hp=>by
     rcases LP.mp hp with hp | hp
     ·exact Y I2 p hp
     ·obtain rfl:=LD.mp hp;exact p0
    have Ib:=Ia.turned (t':=s2.toks) (h':=s2.heap.update M (Obj.mapSeq (·.push (Value.ref t)))) (λb o hb e=>(Heap.get?_update_ne _ _ _ _ hb).trans e) pk.2.1 (nL _ ⋯) (.inr ⋯) (nC _ ⋯) (λp hp=>by
     rcases LP.mp hp with hp | hp
     ·exact nP _ ⋯ p (q0D _ hp)
     ·rcases LP.mp hp with hp | hp
      ·exact nP _ ⋯ p (q0C _ hp)
      ·obtain rfl:=LD.mp hp;show s.heap.objs.size≠M;omega)
    obtain⟨e',a7⟩:∃e',(s2.heap.update M (Obj.mapSeq (·.push (Value.ref t)))).get? M=some (seqObj "list" (kA.push (Value.ref t)) e'):=⟨_,get?_update_seq pk.1 _⟩;refine⟨⟨e,pk.1⟩,aD L t (.tup [.int (g d.2.2),.ref d.2.1]),D++[t],e',Ib.pins_of λp hp=>?_,sm.trans (af Z),by simp[hk],by simp[S],λj u e2 h1 h2=>?_⟩
    rotate_right
    ·by_cases hj:j<D.length
     ·rw[LY hj]at h1
      have q1:=U j u e2 h1 h2;rw[ar (aA q1 Z)];exact q1
     ·have:j=D.length:=by have:=(LA.mp h1).1;simp at this;omega
      subst this;rw[List.getElem?_concat_length]at h1;cases h1;rw[S,T]at h2;cases h2;exact ae
    ·rcases LP.mp hp with hp | hp
     ·exact Ib.pin p (q0C _ (q0D _ hp))
     ·rcases LR.mp hp with rfl | hp
      ·exact Ib.pin (s.heap.objs.size,_) (by simp)
      ·obtain rfl:=LD.mp hp
       exact⟨a7,pk.2.1,nL _ ⋯,nF _ ⋯,B _ _⟩
 ·rintro keys C ⟨L,D,e,O,sm,hk,S,U⟩
  have ez:keys.toList.zip vs=(D.zip es).map λG=>(Value.ref G.1,Value.ref G.2.2.1):=by
   apply List.ext_getElem
   ·simp[hk];omega
   ·intro i i1 i2
    have h1:i<vs.length:=by rw[q0N]at i1;omega
    obtain⟨d,T,hx⟩:=hit i vs[i] (Lz h1);obtain⟨h3,h4⟩:=LA.mp T;simp only[List.getElem_zip,List.getElem_map,hk,hx,h4]
  have tup:∀G,G∈D.zip es->TS.TupI C.heap (Value.ref G.1) (g G.2.2.2,G.2.2.2):=λG a5=>by
   obtain⟨i,hi,e⟩:=List.mem_iff_getElem.mp a5;rw[List.getElem_zip]at e;have h1:i<D.length:=by rw[q0N]at hi;omega
   have h2:i<es.length:=by rw[q0N]at hi;omega
   have q1:=U i D[i] es[i] (Lz h1) (Lz h2);subst e;exact O.pair (x:=.ref D[i]) ⟨D[i],es[i].2.1,rfl,cK.of q1,sm.seq (hes _ (LK h2)).1⟩ rfl
  have all:∀v,v∈keys.toList->∃k,TS.TupI C.heap v k:=λv hv=>by
   rw[hk]at hv;obtain⟨t,Z,rfl⟩:=Mi.mp hv;obtain⟨i,hi,e⟩:=List.mem_iff_getElem.mp Z;refine⟨_,tup (D[i],es[i]'⋯) ?_ |> λz=>by rw[<- e];exact z⟩;refine List.mem_iff_getElem.mpr ⟨i,by rw[q0N];omega,by rw[List.getElem_zip]⟩
  refine⟨tuples' true,TS.rk TS.ordI (TS.keyI C.heap) (keys.zip vs.toArray).toList,λh2 Q hq=>?_,λ_=>TS.cmp_I (by have:=hr.un;show X.A.units+1+1<cLine;omega) λp hp=>all p.1 ?_,λps p1 p2=>?_⟩
  ·have:=TS.kind_I (prog:=X.prog) (w:=X.w) (A:=X.A.in1.in1) (E:=X.xe) (vs:=keys.toList) all (by rw[hk,LC];omega) hq
   simpa using this
  ·rw[ksk_zip]at hp
   exact(List.of_mem_zip hp).1
  ·rw[ksk_zip]at p2
   have p3:=TS.ranks_out p1 p2;obtain⟨R,pm,rfl⟩:=vd p1 _ ez;have mm:∀t,t∈R->t∈D.zip es:=λt Z=>pm.mem_iff.mp Z;rw[List.pairwise_map]at p3;have p4:gF g (R.map (·.2)):=by
    unfold gF;rw[List.pairwise_map];refine(List.Pairwise.and_mem.mp p3).imp ?_;rintro x y ⟨hx,hy,hb⟩;rw[TS.keyI_eq (p:=(Value.ref x.1,Value.ref x.2.2.1)) (tup x (mm x hx)),TS.keyI_eq (p:=(Value.ref y.1,Value.ref y.2.2.1)) (tup y (mm y hy))]at hb;exact hb
   have p5:(R.map (·.2)).Perm es:=(pm.map _).trans (by rw[List.map_snd_zip ⋯]);have qq:=q _ p5 p4;have a0:(((R.map (·.2))).map Bq).length<=sizeLine:=by rw[LC,p5.length_eq];exact hz
   have vo:bc ((R.map (·.2)).map Bq) (R.map λG=>Value.ref G.2.2.1):=by
    clear p3 p4 p5 qq a0 mm pm p1 p2
    induction R with
    |nil=>exact .nil
    |cons t m ih=>exact .cons rfl ih
   have eo:List.map (λx=>x.2) (List.map (λG:Addr×VE=>(Value.ref G.1,Value.ref G.2.2.1)) R)=R.map λG=>Value.ref G.2.2.1:=by rw[LQ];rfl
   rw[eo];generalize(R.map λG=>Value.ref G.2.2.1)=out at vo ⊢;generalize(R.map (·.2)).map Bq=zv at vo qq a0;clear p3 p4 p5 pm mm p2 p1 eo;have p0:=O.pin (s.heap.objs.size,seqObj "list" #[] e1) (by simp);have pk:=O.pin (M,seqObj "list" keys e) (by simp);have Ia:Inv X pins σ L C:=O.pins_of (Y O);have Ib:=Ia.turned (t':=C.toks) (h':=C.heap.update M (Obj.mapSeq λ_=>(#[]:Array Value))) (λb o hb e=>(Heap.get?_update_ne _ _ _ _ hb).trans e) pk.2.1 (nL _ ⋯) (.inr ⋯) (nC _ ⋯) (nP _ ⋯);have ga:(C.heap.update M (Obj.mapSeq λ_=>(#[]:Array Value))).get? s.heap.objs.size=some (seqObj "list" #[] e1):=(Heap.get?_update_ne _ _ _ _ (λz=>by have z2:(s.heap.objs.size:Nat)=s.heap.objs.size+1+1:=Eq.trans z a4;omega)).trans p0.1;have Ic:=Ib.adopt (t':=C.toks) (a:=s.heap.objs.size) (o:=.lst zv) (h':=TS.keyEnd C.heap s.heap.objs.size M out.toArray) (λb u hb e=>(Heap.get?_update_ne _ _ _ _ hb).trans e) p0.2.1 (nL _ (L1 _)) nS (nC _ (L1 _)) (nP _ (L1 _))
    (show b6 X.prog X.w _ _ _ (.lst zv) from⟨a0,out,_,vo,get?_update_seq ga _⟩)
   exact⟨.ref s.heap.objs.size,_,Ic,rfl,qq _ _ (cn sm a1) a1 ae⟩
end
end L2
namespace Win
abbrev Wn:=List Int
def wn(t l b r:Nat):Wn:=[(t:Int),(l:Int),(b:Int),(r:Int)]
def W4(t l b n:Nat):List Wn:=(List.range n).map λk=>wn t l b (l+1+k)
def W3(c t l n:Nat):List Wn:=(List.range n).flatMap λk=>W4 t l (t+1+k) (c-l)
def W2(r c t n:Nat):List Wn:=(List.range n).flatMap λl=>W3 c t l (r-t)
def W1(r c n:Nat):List Wn:=(List.range n).flatMap λt=>W2 r c t c
def dJ(r c:Nat):List Wn:=W1 r c r
theorem D'(t l b n:Nat):W4 t l b (n+1)=W4 t l b n++[wn t l b (l+1+n)]:=by unfold W4;rw[q0M,LO];rfl
theorem Ev(c t l n:Nat):W3 c t l (n+1)=W3 c t l n++W4 t l (t+1+n) (c-l):=by unfold W3;rw[q0M,List.flatMap_append];simp
theorem DK(r c t n:Nat):W2 r c t (n+1)=W2 r c t n++W3 c t n (r-t):=by unfold W2;rw[q0M,List.flatMap_append];simp
theorem Ec(r c n:Nat):W1 r c (n+1)=W1 r c n++W2 r c n c:=by unfold W1;rw[q0M,List.flatMap_append];simp
def lt:Wn->Wn->Bool
 | [],[]=>false
 | [],_::_=>true
 |_::_,[]=>false
 |x::xs,y::ys=>if x=y then lt xs ys else decide (x<y)
def good(r c:Nat):Wn->Bool
 | [t,l,b,x]=>decide (0<=t)&&decide (t<b)&&decide (b<=(r:Int))&&decide (0<=l)&&decide (l<x)&&decide (x<=(c:Int))
 |_=>false
def CH:Wn->List Wn->Bool
 |_,[]=>true
 |a,w::ws=>lt a w&&CH w ws
def check(r c:Nat):Bool:=(dJ r c).all (good r c)&&CH [-1,0,0,0] (dJ r c)&&((dJ r c).length==r*(r+1)/2*(c*(c+1)/2))&&decide ((dJ r c).length<=1000)
theorem AU:((List.range 6).all λr=>(List.range 6).all λc=>check (r+1) (c+1))=true:=by decide +kernel
theorem DV{r c:Nat}(hr0:0<r)(hr:r<=6)(hc0:0<c)(hc:c<=6):check r c=true:=by
 have h:=Mj.mp AU (r-1) (List.mem_range.mpr ⋯);have h2:=Mj.mp h (c-1) (List.mem_range.mpr ⋯);have b:r-1+1=r:=by omega
 have a:c-1+1=c:=by omega
 rw[b,a]at h2;exact h2
def cut(p:List (List Nat))(t l b x:Nat):List (List Nat):=((p.drop t).take (b-t)).map λrow=>(row.drop l).take (x-l)
end Win
namespace SnM
open PySem L2 aE QL Win
def bK(p:aE):Prop:=∀row∈p,47∉row
theorem Ac(h:bK p):bK (mirror p):=by
 intro row hr;obtain⟨x,a,rfl⟩:=Mi.mp hr;rw[List.mem_reverse];exact h x a
theorem yj(hp:rect p r c)(hr:0<r)(h:bK p):bK (aX p):=by
 intro row a;unfold aX at a;rw[bb hp hr]at a;obtain⟨i,g,rfl⟩:=Mi.mp a;have g:=List.mem_range.mp g;intro d;obtain⟨x,j,e⟩:=Mi.mp d;have b:=List.mem_reverse.mp j;have hl:=hp.2 x b;rw[q0A,Lz ⋯,q0L]at e;exact h x b (e▸LK _)
theorem iU:∀(n:Nat) {p:aE} {r c:Nat},rect p r c->0<r->0<c->bK p->bK (aJ n p)
 |0,_,_,_,_,_,_,h=>h
 |n+1,p,r,c,hp,hr,hc,h=>by
  have e:aJ (n+1) p=aX (aJ n p):=(cF 1 n p).symm;rw[e];have hq:=cG n hp hr hc;refine yj hq ?_ (iU n hp hr hc h)
  split<;>assumption
theorem zP(hp:rect p r c)(hr:0<r)(hc:0<c)(h:bK p)(t:Nat):bK (turned p t):=by
 unfold turned
 split
 ·exact iU _ (bO hp) hr hc (Ac h)
 ·exact iU _ hp hr hc h
theorem F5{t:Nat}(h:bK p):bK (cut p t l b x):=by
 intro row hr;obtain⟨y,c,rfl⟩:=Mi.mp hr;exact λa=>h y (q0I (q0H c)) (q0I (q0H a))
theorem cD{t l b x:Nat}(hp:rect p r c)(h1:t<b)(h2:b<=r)(h3:l<x)(h4:x<=c):rect (cut p t l b x) (b-t) (x-l):=by
 refine⟨?_,λrow hr=>?_⟩
 ·unfold cut;rw[LC,Me,Mf,hp.1];omega
 ·obtain⟨y,a,rfl⟩:=Mi.mp hr
  have:=hp.2 y (q0I (q0H a));rw[Me,Mf];omega
theorem ki{w:Wn}:w∈dJ r c↔∃t l b x:Nat,w=wn t l b x/\t<b/\b<=r/\l<x/\x<=c:=by
 unfold dJ W1 W2 W3 W4;simp only[List.mem_flatMap,Mi,List.mem_range]
 constructor
 ·rintro⟨t,ht,l,hl,k,hk,m,hm,rfl⟩
  exact⟨t,l,t+1+k,l+1+m,rfl,⋯,⋯,⋯,⋯⟩
 ·rintro⟨t,l,b,x,rfl,h1,h2,h3,h4⟩
  exact⟨t,⋯,l,⋯,b-t-1,⋯,x-l-1,⋯,by rw[show t+1+(b-t-1)=b by omega,show l+1+(x-l-1)=x by omega]⟩
def Aa(p:aE)(w:Wn):aE:=cut p (w.getD 0 0).toNat (w.getD 1 0).toNat (w.getD 2 0).toNat (w.getD 3 0).toNat
theorem kQ(p:aE)(t l b x:Nat):Aa p (wn t l b x)=cut p t l b x:=rfl
def bd(p:aE)(r c:Nat)(q:aE):Prop:=∃t l b x u:Nat,t<b/\b<=r/\l<x/\x<=c/\u<8/\q=turned (cut p t l b x) u
theorem mf:bd p r c q↔∃i,i<(dJ r c).length/\∃u,u<8/\q=turned (Aa p ((dJ r c).getD i [])) u:=by
 constructor
 ·rintro⟨t,l,b,x,u,h1,h2,g,d,m,rfl⟩
  obtain⟨i,a,e⟩:=List.mem_iff_getElem.mp (ki.mpr ⟨t,l,b,x,rfl,h1,h2,g,d⟩);refine⟨i,a,u,m,?_⟩;rw[q0A,Lz a,q0L,e,kQ]
 ·rintro⟨i,a,u,j,rfl⟩
  obtain⟨t,l,b,x,e,h1,h2,g,d⟩:=ki.mp (LK a);refine⟨t,l,b,x,u,h1,h2,g,d,j,?_⟩;rw[q0A,Lz a,q0L,e,kQ]
theorem yM(hp:rect p r c)(hn:bK p){t l b x u:Nat}(h1:t<b)(h2:b<=r)(h3:l<x)(h4:x<=c) :
  turned (cut p t l b x) u≠[]/\bK (turned (cut p t l b x) u)/\∃r' c',rect (turned (cut p t l b x) u) r' c'/\0<r'/\0<c'/\r'<=max r c/\c'<=max r c:=by
 have d:=cD hp h1 h2 h3 h4;have a:=dj d ⋯ ⋯ u;refine⟨λe=>?_,zP d ⋯ ⋯ (F5 hn) u,_,_,a,by split<;>omega,by split<;>omega,by split<;>omega,by split<;>omega⟩;have:=a.1;rw[e]at this;simp at this
 split at this<;>omega
abbrev AP:=Addr×aE
def FV(z:AP):VE:=(.inr (tx (SpM.glue 47 z.2)),z.1,z.2.map tx)
abbrev jA(z:AP):cO×V:=HZ (FV z)
def mw(zs:List AP)(z:AP):List AP:=if(zs.any λz0=>decide (z0.2=z.2))=true then zs.map (λz0=>if z0.2=z.2 then z else z0) else zs++[z]
theorem cN(h:tx a=tx b):a=b:=by rw[<- cg a,<- cg b,h]
theorem Ca{zs:List AP}{z:AP}(inj:∀z0∈zs,SpM.glue 47 z0.2=SpM.glue 47 z.2->z0.2=z.2):dl (zs.map jA) (.inr (tx (SpM.glue 47 z.2))) (.ref z.1)=(mw zs z).map jA:=by
 have b:∀z0∈zs,((jA z0).1=Sum.inr (tx (SpM.glue 47 z.2))↔z0.2=z.2):=λz0 c=>⟨λe=>inj z0 c (cN (Sum.inr.inj e)),λe=>by show Sum.inr (tx (SpM.glue 47 z0.2))=_;rw[e]⟩;unfold dl mw;have i:((zs.map jA).any λg=>decide (g.1=Sum.inr (tx (SpM.glue 47 z.2))))=zs.any λz0=>decide (z0.2=z.2):=by
  rw[List.any_map];clear inj
  induction zs with
  |nil=>rfl
  |cons a l ih=>
   rw[List.any_cons,List.any_cons,ih λz0 c=>b z0 (LS _ c)]
   congr 1
   exact decide_eq_decide.mpr (b a (q0B ..))
 rw[i]
 split
 ·rw[LQ,LQ]
  refine q0K λz0 c=>?_;show(if(jA z0).1=Sum.inr (tx (SpM.glue 47 z.2)) then((jA z0).1,V.ref z.1) else jA z0)=jA (if z0.2=z.2 then z else z0)
  by_cases h:z0.2=z.2
  ·have d:=(b z0 c).mpr h
   rw[q07 d,q07 h,d]
   rfl
  ·rw[q06 λq=>h ((b z0 c).mp q),q06 h]
 ·rw[LO];rfl
structure fz(H H':Hp)(d:Addr)(dn:aE->Prop)(zs:List AP)(n:Nat):Prop where
 tbl:H' d=some (.dK (zs.map jA))
 sm:ax H H'
 hd:H d=none
 each:∀z∈zs,H z.1=none/\H' z.1=some (.lst (av z.2))/\z.2≠[]/\bK z.2/\(z.2.headD []).length<=64
 nda:(zs.map (·.1)).Nodup
 ndp:(zs.map (·.2)).Nodup
 mem:∀q,q∈zs.map (·.2)↔dn q
 len:zs.length<=n
theorem fz.step{H1 H2:Hp}{dn:aE->Prop}(S:fz H H1 d dn zs n)(sm:ax H1 H2)(hb:H1 b=none)(hb2:H2 b=some (.lst (av q)))(hq:q≠[])(ns:bK q)(hl:(q.headD []).length<=64) :
  dl (zs.map jA) (.inr (tx (SpM.glue 47 q))) (.ref b)=(mw zs (b,q)).map jA/\fz H (aD H2 d (.dK ((mw zs (b,q)).map jA))) d (λx=>dn x\/x=q) (mw zs (b,q)) (n+1):=by
 refine⟨Ca (z:=(b,q)) λz0 h0 e=>SpM.glue_inj 47 (S.each z0 h0).2.2.1 hq (S.each z0 h0).2.2.2.1 ns e,?_⟩;have nbd:b≠d:=λe=>by rw[e,S.tbl]at hb;cases hb
 have nzd:∀z∈zs,z.1≠d:=λz hz=>rf (S.each z hz).2.1 S.tbl (by intro e;cases e);have nzb:∀z∈zs,z.1≠b:=λz hz=>aA (S.each z hz).2.1 hb;have old:∀z∈zs,H z.1=none/\aD H2 d (.dK ((mw zs (b,q)).map jA)) z.1=some (.lst (av z.2))/\z.2≠[]/\bK z.2/\(z.2.headD []).length<=64:=λz hz=>by
  obtain⟨h1,h2,h3⟩:=S.each z hz;exact⟨h1,by rw[ar (nzd z hz)];exact sm _ _ h2,h3⟩
 have new:H b=none/\aD H2 d (.dK ((mw zs (b,q)).map jA)) b=some (.lst (av q))/\q≠[]/\bK q/\(q.headD []).length<=64:=⟨S.sm.free hb,by rw[ar nbd];exact hb2,hq,ns,hl⟩
 by_cases h:(zs.any λz0=>decide (z0.2=q))=true
 ·have e:mw zs (b,q)=zs.map λz0=>if z0.2=q then(b,q) else z0:=by unfold mw;rw[q07 h]
  have e2:((mw zs (b,q)).map (·.2))=zs.map (·.2):=by
   rw[e,LQ];refine q0K λz0 _=>?_;show(if z0.2=q then(b,q) else z0).2=z0.2
   split
   ·rename_i hz;exact hz.symm
   ·rfl
  obtain⟨z1,hz1,hz2⟩:=List.any_eq_true.mp h;have hz2:=of_decide_eq_true hz2;refine⟨ae,cn (S.sm.trans sm) S.hd,S.hd,?_,?_,by rw[e2];exact S.ndp,λx=>?_,by rw[e,LC];exact Nat.le_succ_of_le S.len⟩
  ·intro z hz
   have hz':=hz;rw[e]at hz';obtain⟨z0,h0,ez⟩:=Mi.mp hz'
   split at ez
   ·rw[<- ez];exact new
   ·rw[<- ez];exact old z0 h0
  ·rw[e,LQ,List.Nodup,List.pairwise_map]
   have h1:=S.nda;have h2:=S.ndp;rw[List.Nodup,List.pairwise_map]at h1 h2;refine(List.Pairwise.and_mem.mp (h1.and h2)).imp ?_;rintro x y ⟨hx,hy,n1,n2⟩;show(if x.2=q then(b,q) else x).1≠(if y.2=q then(b,q) else y).1
   by_cases c1:x.2=q
   ·rw[q07 c1,q06 λc2=>n2 (c1.trans c2.symm)]
    exact(nzb y hy).symm
   ·rw[q06 c1]
    by_cases c2:y.2=q
    ·rw[q07 c2];exact nzb x hx
    ·rw[q06 c2];exact n1
  ·rw[e2,S.mem]
   refine⟨.inl,λz=>z.elim id λz=>?_⟩;rw[<- S.mem,z];exact Mi.mpr ⟨z1,hz1,hz2⟩
 ·have e:mw zs (b,q)=zs++[(b,q)]:=by unfold mw;rw[q06 h]
  refine⟨ae,cn (S.sm.trans sm) S.hd,S.hd,?_,?_,?_,λx=>?_,by rw[e,LZ];exact Nat.succ_le_succ S.len⟩
  ·intro z hz
   have hz':=hz;rw[e]at hz';rcases LP.mp hz' with hz' | hz'
   ·exact old z hz'
   ·rw[LD.mp hz'];exact new
  ·rw[e,LO,List.nodup_append]
   refine⟨S.nda,by simp,λa ha c hc=>?_⟩;obtain⟨z,hz,rfl⟩:=Mi.mp ha;have:c=b:=by simpa using hc
   rw[this];exact nzb z hz
  ·rw[e,LO,List.nodup_append]
   refine⟨S.ndp,by simp,λa ha c hc=>?_⟩;obtain⟨z,hz,rfl⟩:=Mi.mp ha;have:c=q:=by simpa using hc
   rw[this];exact λhz2=>h (List.any_eq_true.mpr ⟨z,hz,q09 hz2⟩)
  ·rw[e,LO,LP,S.mem]
   simp
theorem fz.congr{dn dn':aE->Prop}(S:fz H H' d dn zs n)(h:∀q,dn q↔dn' q):fz H H' d dn' zs n:=⟨S.tbl,S.sm,S.hd,S.each,S.nda,S.ndp,λq=>(S.mem q).trans (h q),S.len⟩
theorem fz.same{H2:Hp}{dn:aE->Prop}(S:fz H H' d dn zs n)(sm:ax H' H2):fz H H2 d dn zs n:=⟨sm _ _ S.tbl,S.sm.trans sm,S.hd,λz hz=>let ⟨h1,h2,h3⟩:=S.each z hz;⟨h1,sm _ _ h2,h3⟩,S.nda,S.ndp,S.mem,S.len⟩
def gj(ss:MF):Int:=(ss.length:Int)*((ss.headD ⟨#[]⟩).length:Int)
def bw(p:aE):Nat:=p.length*(p.headD []).length
def I8(a b:aE):Prop:=bw a<bw b\/bw a=bw b/\a<b
def Gp(p:aE)(r c:Nat)(qs:List aE):Prop:=(∀q,q∈qs↔bd p r c q)/\qs.Pairwise I8
theorem yA(p:aE):((p.map tx).headD ⟨#[]⟩).length=(p.headD []).length:=by
 cases p with
 |nil=>rfl
 |cons r p=>exact aw r
theorem AH(p:aE):gj (p.map tx)=(bw p:Int):=by
 unfold gj bw;rw[LC,yA];simp
theorem Hn(p:aE):TS.ks (p.map tx)=p:=by
 unfold TS.ks;rw[LQ];exact(q0K λr _=>cg r).trans (List.map_id _)
theorem EW(p:aE):kI (gj (p.map tx),p.map tx)=((bw p:Int),p):=by
 show(gj (p.map tx),TS.ks (p.map tx))=_;rw[AH,Hn]
theorem A6{ws:List AP}(h:gF gj (ws.map FV))(nd:(ws.map (·.2)).Nodup):(ws.map (·.2)).Pairwise I8:=by
 unfold gF at h;rw[List.pairwise_map]at h ⊢;rw[List.Nodup,List.pairwise_map]at nd;refine(h.and nd).imp ?_;rintro a b ⟨c,ne⟩;have c:TS.ordI.blt (kI (gj (b.2.map tx),b.2.map tx)) (kI (gj (a.2.map tx),a.2.map tx))=false:=c;rw[EW,EW]at c;cases d:TS.ordI.blt ((bw a.2:Int),a.2) ((bw b.2:Int),b.2) with
 |true=>
  have:=of_decide_eq_true d;rcases this with h1 | ⟨h1,h2⟩
  ·exact .inl (Int.ofNat_lt.mp h1)
  ·exact .inr ⟨Int.ofNat.inj h1,h2⟩
 |false=>
  have:=TS.ordI.total _ _ d c;exact q0Q (q0R Prod.snd this) ne
theorem j7{t l b x i j:Nat}(hp:rect p r c)(h2:b<=r)(h4:x<=c)(hi:i<b-t)(hj:j<x-l):zO (cut p t l b x) i j=zO p (t+i) (l+j):=by
 have h1:t+i<p.length:=by rw[hp.1];omega
 have h3:(p[t+i]).length=c:=hp.2 _ (LK _);have a:(cut p t l b x).getD i []=((p.getD (t+i) []).drop l).take (x-l):=by
  unfold cut;simp only[q0A];rw[LF,List.getElem?_take_of_lt hi,List.getElem?_drop,Lz h1]
  rfl
 unfold zO;rw[a];simp only[q0A];rw[List.getElem?_take_of_lt hj,List.getElem?_drop]
theorem xc{t l b x:Nat}(hp:rect p r c)(h1:t<b)(h2:b<=r)(h3:l<x)(h4:x<=c):cut (mirror p) t l b x=mirror (cut p t (c-x) b (c-l)):=by
 have d:=cD hp h1 h2 (show c-x<c-l by omega) (show c-l<=c by omega);refine jc (cD (bO hp) h1 h2 h3 h4) (r:=b-t) (c:=x-l) ?_ λi j a e=>?_
 ·have:=bO d
  rwa [show c-l-(c-x)=x-l by omega]at this
 ·rw[j7 (bO hp) h2 h4 a e,jl hp ⋯ ⋯,jl d a ⋯,j7 hp h2 ⋯ a ⋯]
  congr 1
  omega
theorem ww{t l b x:Nat}(hp:rect p r c)(h1:t<b)(h2:b<=c)(h3:l<x)(h4:x<=r):cut (aX p) t l b x=aX (cut p (r-x) t (r-l) b):=by
 have e:=cD hp (show r-x<r-l by omega) (show r-l<=r by omega) h1 h2;have a:=bG hp ⋯;refine jc (cD a h1 h2 h3 h4) (r:=b-t) (c:=x-l) ?_ λi j d g=>?_
 ·have:=bG e ⋯
  rwa [show r-l-(r-x)=x-l by omega]at this
 ·rw[j7 a h2 h4 d g,cH hp ⋯ ⋯ ⋯,cH e ⋯ d ⋯,j7 hp ⋯ h2 ⋯ ⋯]
  congr 1
  omega
theorem hZ:∀(n:Nat) {p:aE} {r c t l b x:Nat},rect p r c->t<b->b<=(if n%2=0 then r else c)->l<x->x<=(if n%2=0 then c else r)->∃t' l' b' x',t'<b'/\b'<=r/\l'<x'/\x'<=c/\cut (aJ n p) t l b x=aJ n (cut p t' l' b' x')
 |0,p,r,c,t,l,b,x,hp,h1,h2,h3,h4=>⟨t,l,b,x,h1,by simpa using h2,h3,by simpa using h4,rfl⟩
 |n+1,p,r,c,t,l,b,x,hp,h1,h2,h3,h4=>by
  have hr:0<r/\0<c:=by
   split at h2<;>split at h4<;>omega
  have e:∀q:aE,aJ (n+1) q=aJ n (aX q):=λq=>rfl;rw[e];obtain⟨t',l',b',x',g,d,m,j,i⟩:=hZ n (bG hp hr.1) (t:=t) (l:=l) (b:=b) (x:=x) h1 (by
   by_cases a:n%2=0
   ·rw[q06 ⋯]at h2;rw[q07 a];exact h2
   ·rw[q07 ⋯]at h2;rw[q06 a];exact h2) h3 (by
   by_cases a:n%2=0
   ·rw[q06 ⋯]at h4;rw[q07 a];exact h4
   ·rw[q07 ⋯]at h4;rw[q06 a];exact h4)
  refine⟨r-x',t',r-l',b',⋯,⋯,g,d,?_⟩;rw[i,ww hp g d m j,e]
theorem xC{t l b x u:Nat}(hp:rect p r c)(h1:t<b)(h2:b<=(if u%2=0 then r else c))(h3:l<x)(h4:x<=(if u%2=0 then c else r)):∃t' l' b' x',t'<b'/\b'<=r/\l'<x'/\x'<=c/\cut (turned p u) t l b x=turned (cut p t' l' b' x') u:=by
 have e:u%4%2=u%2:=by omega
 unfold turned
 by_cases h:4<=u
 ·rw[q07 h]
  obtain⟨t',l',b',x',d,a,j,i,g⟩:=hZ (u%4) (bO hp) h1 (by rw[e];exact h2) h3 (by rw[e];exact h4);refine⟨t',c-x',b',c-l',d,a,⋯,⋯,?_⟩;rw[g,xc hp d a j i,q07 h]
 ·rw[q06 h]
  obtain⟨t',l',b',x',d,a,j,i,g⟩:=hZ (u%4) hp h1 (by rw[e];exact h2) h3 (by rw[e];exact h4);refine⟨t',l',b',x',d,a,j,i,?_⟩;rw[g,q06 h]
theorem EO{t l b x t' l' b' x':Nat}(hp:rect p r c)(h1:t<b)(h2:b<=r)(h3:l<x)(h4:x<=c)(k1:t'<b')(k2:b'<=b-t)(k3:l'<x')(k4:x'<=x-l):cut (cut p t l b x) t' l' b' x'=cut p (t+t') (l+l') (t+b') (l+x'):=by
 have a:=cD hp h1 h2 h3 h4;have g:=cD hp (show t+t'<t+b' by omega) ⋯ (show l+l'<l+x' by omega) ⋯;refine jc (cD a k1 k2 k3 k4) (r:=b'-t') (c:=x'-l') ?_ λi j e d=>?_
 ·rwa [show t+b'-(t+t')=b'-t' by omega,show l+x'-(l+l')=x'-l' by omega]at g
 ·rw[j7 a k2 k4 e d,j7 hp h2 h4 ⋯ ⋯,j7 hp ⋯ ⋯ ⋯ ⋯]
  congr 1<;>omega
theorem DN(hp:rect p r c):cut p 0 0 r c=p:=by
 unfold cut;rw[Mt,Nat.sub_zero,Nat.sub_zero,q0F (by rw[hp.1];exact L1 _)]
 conv=>rhs;rw[<- List.map_id p]
 refine q0K λy a=>?_;rw[Mt,q0F (by rw[hp.2 y a];exact L1 _)];rfl
theorem qJ(hp:rect p r c):p.take n=cut p 0 0 n c:=by
 unfold cut;rw[Mt,Nat.sub_zero,Nat.sub_zero]
 conv=>lhs;rw[<- List.map_id (p.take n)]
 refine q0K λy a=>?_;rw[Mt,q0F (by rw[hp.2 y (q0H a)];exact L1 _)];rfl
theorem qL(hp:rect p r c):p.drop n=cut p n 0 r c:=by
 unfold cut;rw[Nat.sub_zero,q0F (by rw[Mf,hp.1];exact L1 _)]
 conv=>lhs;rw[<- List.map_id (p.drop n)]
 refine q0K λy a=>?_;rw[Mt,q0F (by rw[hp.2 y (q0I a)];exact L1 _)];rfl
theorem qW(hp:rect p r c):(p.map λy=>y.take n)=cut p 0 0 r n:=by
 unfold cut;rw[Mt,Nat.sub_zero,Nat.sub_zero,q0F (by rw[hp.1];exact L1 _)]
 rfl
theorem rX(hp:rect p r c):(p.map λy=>y.drop n)=cut p 0 n r c:=by
 unfold cut;rw[Mt,Nat.sub_zero,q0F (by rw[hp.1];exact L1 _)];refine q0K λy a=>?_;rw[q0F (by rw[Mf,hp.2 y a];exact L1 _)]
theorem bd.rect(hp:rect p r c)(h:bd p r c q):∃r' c',rect q r' c'/\0<r'/\0<c'/\r'<=max r c/\c'<=max r c:=by
 obtain⟨t,l,b,x,u,h1,h2,e,d,h5,rfl⟩:=h;have a:=cD hp h1 h2 e d;exact⟨_,_,dj a ⋯ ⋯ u,by split<;>omega,by split<;>omega,by split<;>omega,by split<;>omega⟩
theorem bd.ns(hp:aE.rect p r c)(hn:bK p)(h:bd p r c q):bK q:=by
 obtain⟨t,l,b,x,u,h1,h2,d,a,h5,rfl⟩:=h;exact(yM hp hn h1 h2 d a).2.1
theorem bd.self(hp:aE.rect p r c)(r0:0<r)(c0:0<c):bd p r c p:=⟨0,0,r,c,0,r0,L1 _,c0,L1 _,⋯,by rw[mE,DN hp]⟩
theorem bd.turned{u:Nat}(hp:aE.rect p r c)(h:bd p r c q)(hu:u<8):bd p r c (aE.turned q u):=by
 obtain⟨t,l,b,x,v,h1,h2,e,d,a,rfl⟩:=h;have g:=cD hp h1 h2 e d;exact⟨t,l,b,x,after v u,h1,h2,e,d,gJ a hu,bN g ⋯ ⋯ a hu⟩
theorem bd.cut{t l b x:Nat}(hp:aE.rect p r c)(h:bd p r c q)(hq:aE.rect q r' c')(h1:t<b)(h2:b<=r')(h3:l<x)(h4:x<=c'):bd p r c (Win.cut q t l b x):=by
 obtain⟨a,d,w,e,v,m,j,i,g,J,rfl⟩:=h;have o:=cD hp m j i g;have n:=dj o ⋯ ⋯ v;have L:r'=if v%2=0 then w-a else e-d:=by rw[<- hq.1,n.1]
 have M:c'=if v%2=0 then e-d else w-a:=by
  rw[<- bb hq ⋯,bb n (by split<;>omega)]
 obtain⟨z,I,O,y,m1,G,D,C,B⟩:=xC (u:=v) o h1 (by rw[<- L];exact h2) h3 (by rw[<- M];exact h4);rw[B,EO hp m j i g m1 G D C];exact⟨a+z,d+I,a+O,d+y,v,⋯,⋯,⋯,⋯,J,rfl⟩
end SnM
namespace L2
open PySem PySem.Spec PyProof.Rows QL
def jH(x:V)(P:Addr->Prop):Prop:=match x with
 | .ref a=>P a
 |y=>∃a,y=.ref a/\P a
def isInt(x:V)(P:Int->Prop):Prop:=match x with
 | .int a=>P a
 |y=>∃a,y=.int a/\P a
def FS(x:V)(P:Bool->Prop):Prop:=match x with
 | .bl a=>P a
 |y=>∃a,y=.bl a/\P a
def Gc(x:V)(P:Str->Prop):Prop:=match x with
 | .str a=>P a
 |y=>∃a,y=.str a/\P a
def GI(xs:List V)(P:V->Prop):Prop:=match xs with
 | [x]=>P x
 |y=>∃x,y=[x]/\P x
theorem fm:jH x P = ∃a,x=.ref a/\P a:=by
 unfold jH;split
 ·simp
 ·rfl
theorem kR:isInt x P = ∃a,x=.int a/\P a:=by
 unfold isInt;split
 ·simp
 ·rfl
theorem Bj:FS x P = ∃a,x=.bl a/\P a:=by
 unfold FS;split
 ·simp
 ·rfl
theorem Bm:Gc x P = ∃a,x=.str a/\P a:=by
 unfold Gc;split
 ·simp
 ·rfl
theorem u9:GI xs P = ∃x,xs=[x]/\P x:=by
 unfold GI;split
 ·simp
 ·rfl
theorem ET{K:Mv}:v6 K x y H Q=jH x λp=>isInt y λi=>∃xs,aI K H p xs/\∃v,ip xs i=some v/\Q v H:=by
 rw[yZ,fm];unfold Az;simp only[kR]
 refine propext ⟨λ⟨p,xs,i,v,a,b,c,d,e⟩=>⟨p,a,i,b,xs,c,v,d,e⟩,λ⟨p,a,i,b,xs,c,v,d,e⟩=>⟨p,xs,i,v,a,b,c,d,e⟩⟩
theorem D_{K:Mv}:vJ K x y H Q=jH x λp=>isInt y λi=>∃xs,cK K H p xs/\∃v,ip xs i=some v/\Q v H:=by
 rw[zb,fm];unfold yp;simp only[kR]
 refine propext ⟨λ⟨p,xs,i,v,a,b,c,d,e⟩=>⟨p,a,i,b,xs,c,v,d,e⟩,λ⟨p,a,i,b,xs,c,v,d,e⟩=>⟨p,xs,i,v,a,b,c,d,e⟩⟩
def lD(t:TE):TT:=λσ H Q=>t σ H λx H'=>FS x λk=>Q k H'
def s_(t:TE):TO:=λσ H Q=>t σ H λx H1=>isInt x λi=>Q (some i) H1
def uF(K:Mv)(tl:TE):TI:=λσ H R=>tl σ H λx H1=>jH x λa=>(∃xs,aI K H1 a xs)/\R (zw K a) H1
def pf(ta:TA):TI:=λσ H R=>ta σ H λvs H1=>GI vs λv=>isInt v λj=>-(2 ^ 62)<=j/\j<2 ^ 62/\R (Ay 0 j.toNat) H1
def vV(K:Mv)(ta:TE)(f:Str):TE:=λσ H Q=>ta σ H λx H1=>jH x λa=>∃C dx fs,H1 a=some (.ins C dx fs)/\iE K C/\aB K C f/\∃v,fs.lookup f=some v/\Q v H1
def vq(K:Mv)(ta tv:TE)(f:Str):TS:=λD σ H=>tv σ H λy H1=>ta σ H1 λx H2=>jH x λa=>∃C dx fs,H2 a=some (.ins C dx fs)/\iE K C/\aB K C f/\fs.length<1000 /\
 D.nx σ (aD H2 a (.ins C dx (cC f y fs)))
def ky:V->List V->Hp->VK->Prop:=λx vs H Q=>jH x λl=>GI vs λy=>∃xs,H l=some (.lst xs)/\xs.length<sizeLine/\Q .non (aD H l (.lst (xs++[y])))
def sK(K:Mv):List V->Hp->VK->Prop:=λxs H Q=>GI xs λx=>jH x λp=>∃ys,aI K H p ys/\Q (.int ys.length) H
def tZ:List V->Hp->VK->Prop:=λxs H Q=>GI xs λx=>Gc x λz=>z.length<=sizeLine/\Q (.int z.length) H
def vI(K:Mv)(n:Nat)(t:DA):TG:=λv σ H Q=>jH v λa=>∃xs,cK K H a xs/\xs.length=n/\t xs σ H Q
section
variable {X:Cx}{e a b c l:Expr}{ta tb tc te tl:TE}{pos:Pos}
theorem PT.tm{t:TE}(h:PT X e (rJ t)):PT X e (lD t):=λpins s σ H Q I q=>h pins s σ H Q I (by simp only[lD,Bj]at q;exact q)
theorem aK{op:CmpOp}{r:R2}(ho:bu X (compareOp op) r)(ha:PE X a ta)(hb:PE X b tb)(hm:behindInMarks op b=false):PT X (.Compare a [op] [b] pos) (lD (Fu r ta tb)):=(ny ho ha hb hm).tm
theorem eU(ha:PE X a ta)(he:∀whole,isTrue a X.env whole=(do let v <- whole;standAt a.pos;holding [v] (truthy v))):PT X a (lD ta):=(Hf ha he).tm
theorem cr(h:PE X e te):PO X (some e) (s_ te):=λpins s σ H Q I q=>DF h pins s σ H Q I (by simp only[s_,kR]at q;exact q)
theorem aS{tg:Expr}(hl:PE X l tl):PI X tg l (uF X.K tl):=λpins s σ H R I q=>sY hl pins s σ H R I (by simp only[uF,fm]at q;exact q)
theorem bE{tg:Expr}{ta:TA}{p:Pos}(hg:Gl X "range")(hm:X.mg "range"=none)(ha:PA X [a] ta)(hs:autoParam (starEach [a] X.env=[(false,eval a X.env)]) zz0._auto_1):PI X tg (.Call (.Name "range" p) [a] [] pos) (pf ta):=λpins s σ H R I q=>qZ hg hm ha hs pins s σ H R I (by
 have e:pf ta σ H R=vU ta σ H R:=by
  unfold pf vU;refine q0R (ta σ H) (funext λvs=>funext λH1=>?_);simp only[u9,kR];exact propext ⟨λ⟨x,e,j,b,r⟩=>⟨j,by rw[e,b],r⟩,λ⟨j,e,r⟩=>⟨_,e,j,rfl,r⟩⟩
 exact e▸q)
theorem bf:dZ X (.builtin "len") (sK X.K):=λpins s σ H xs us Q I r h=>mz pins s σ H xs us Q I r (by
 simp only[sK,u9,fm]at h;obtain⟨x,rfl,p,rfl,ys,h1,h2⟩:=h;exact⟨p,ys,rfl,h1,h2⟩)
theorem aV:dZ X (.builtin "len") tZ:=λpins s σ H xs us Q I r h=>um pins s σ H xs us Q I r (by
 simp only[tZ,u9,Bm]at h;obtain⟨x,rfl,p,rfl,h1,h2⟩:=h;exact⟨p,rfl,h1,h2⟩)
theorem bV:HF X "list.append" ky:=λpins s σ H x vs v us Q I rx rv h=>rD pins s σ H x vs v us Q I rx rv (by
 simp only[ky,u9,fm]at h;obtain⟨l,rfl,y,rfl,xs,h1,h2,h3⟩:=h;exact⟨l,xs,y,rfl,rfl,h1,h2,h3⟩)
theorem cy{f:Str}{value:Expr}{tv:TE}{pos':Pos}(ha:PE X o ta)(hv:PE X value tv)(hs:swapsWith value (some (.Attribute o f pos')) pos.line X.env=pure false):PS X (.Assign [.Attribute o f pos'] value pos) (vq X.K ta tv f):=λpins s σ H D I q=>FA ha hv hs pins s σ H D I (by
 have e:vq X.K ta tv f D σ H=Dw X.K ta tv f D σ H:=by
  unfold vq Dw;refine q0R (tv σ H) (funext λy=>funext λH1=>q0R (ta σ H1) (funext λx=>funext λH2=>?_));simp only[fm];exact propext ⟨λ⟨a,e,C,b,fs,r⟩=>⟨a,C,b,fs,e,r⟩,λ⟨a,C,b,fs,e,r⟩=>⟨a,e,C,b,fs,r⟩⟩
 exact e▸q)
theorem fX{es:MM}{k:Nat}{t:DA}{n:Nat}(hc:X.calm=true)(h:GF X es t)
  (hn:autoParam ((assignEach es X.env).length=n) zz0._auto_1) (hst:autoParam ((assignEach es X.env).findIdx? (·.1)=none) zz0._auto_1):PG X (.Tuple es k pos) (vI X.K n t):=λpins s σ H v u Q I r q=>ye hc h hn hst pins s σ H v u Q I r (by
 have e:vI X.K n t v σ H Q=w8 X.K n t v σ H Q:=by
  unfold vI w8;simp only[fm];exact propext ⟨λ⟨a,e,b,r⟩=>⟨a,b,e,r⟩,λ⟨a,b,e,r⟩=>⟨a,e,b,r⟩⟩
 exact e▸q)
theorem bJ{f:Str}(he:PE X e ta)(hb:attributeBase e f X.env (eval e X.env)=eval e X.env):PE X (.Attribute e f pos) (vV X.K ta f):=λpins s σ H Q I q=>yi he hb pins s σ H Q I (by
 have e:vV X.K ta f σ H Q=A3 X.K ta f σ H Q:=by
  unfold vV A3;refine q0R (ta σ H) (funext λx=>funext λH1=>?_);simp only[fm];exact propext ⟨λ⟨a,e,C,g,fs,h1,h2,d,v,c,b⟩=>⟨a,C,g,fs,v,e,h1,h2,d,c,b⟩,λ⟨a,C,g,fs,v,e,h1,h2,d,c,b⟩=>⟨a,e,C,g,fs,h1,h2,d,v,c,b⟩⟩
 exact e▸q)
end
section
variable {prog:ME}{w:MJ}{A:MG}{E:Mu}{s:My}
theorem kg:∀(l:MF) (p:Str),risingS p l=true->(∀q∈l,¬ q.cps.toList<p.cps.toList)/\l.Pairwise (λa b=>¬ b.cps.toList<a.cps.toList)
 | [],_,_=>⟨λ_ h=>(nomatch h),.nil⟩
 |x::r,p,h=>by
  have h':(!ltCps x.cps.toList p.cps.toList&&risingS x r)=true:=h;rw[q0O,Bool.not_eq_true',ltCps_eq,decide_eq_false_iff_not]at h';obtain⟨h1,h2⟩:=kg r x h'.2;refine⟨λq hq=>?_,.cons h1 h2⟩;rcases LR.mp hq with rfl | hq
  ·exact h'.1
  ·exact List.not_lt.mpr (List.le_trans (List.not_lt.mp h'.1) (List.not_lt.mp (h1 q hq)))
theorem xu(h:sortedS l=true):l.Pairwise (λa b=>¬ b.cps.toList<a.cps.toList):=by
 cases l with
 |nil=>exact .nil
 |cons x r=>exact .cons (kg r x h).1 (kg r x h).2
theorem kn:∀{ys:MF} {us:Mz},StrsAre us ys->bc (ys.map V.str) us
 |_,_,.nil=>.nil
 |_,_,.cons x t h=>.cons ⟨t,rfl⟩ (kn h)
theorem tM{Q:Mu}
  (hc:wpAny (model prog w) A.in1 (collect v) (λvs s2=>vs.length<64/\∃ss,StrsAre vs ss/\∀(out:Array Value) (ss':MF),StrsAre out.toList ss'->ss'.Perm ss->ss'.Pairwise (λa b=>¬ b.cps.toList<a.cps.toList)->Q (.ref s2.heap.objs.size) {s2 with heap:=sortedHeap (s2.heap.push (seqObj "list" vs.toArray 0)) s2.heap.objs.size vs out}) E s) :
  wpAny (model prog w) A (call (.builtin "sorted") [v]) Q E s:=by
 refine Calls.call_function_entry kind_sorted plain_sorted entry_sorted (args_sorted1 v) ?_;unfold Builtin.«sorted»;refine q04 (m:=checkCount "sorted" 1 1 _) (q05 ?_)
 refine q04 (q0W hc (λvs s2 ⟨g,ss,d,h⟩=>q04 (wpAny_newList ?_ (hsz:=by rw[q0V];omega))) λ_ _ e=>e);have c:(s2.heap.push (seqObj "list" vs.toArray 0)).get? s2.heap.objs.size=some (seqObj "list" vs.toArray 0):=LI _ rfl;refine q04 (q0X (wpAny_call_entry slot_list_sort ⟨_,c,rfl⟩ entry_list_sort (list_sort_treeK (s:={s2 with heap:=s2.heap.push (seqObj "list" vs.toArray 0)}) strKind_oneLt c d.keysOf (λv₁ v₂ cv e=>keyKind_strs (by rw[<- e];exact d)) g λst' j i=>⟨_,rfl,?_⟩) (args_list_sort _)));refine q05 ⟨_,rfl,?_⟩;obtain⟨ss',h1,h2,l⟩:=sorted_out_str d j i;exact h _ ss' h1 h2 (xu l)
end
section
variable {X:Cx}
def xY:List V->Hp->VK->Prop:=λxs H Q=>∃(z:Str),xs=[.str z]/\z.length<64 /\
 ∀zs:List Str,zs.Perm (z.cps.toList.map λc=>⟨#[c]⟩)->zs.Pairwise (λa b=>¬ b.cps.toList<a.cps.toList)->∀l,H l=none->Q (.ref l) (aD H l (.lst (zs.map V.str)))
theorem wD(hc:X.calm=true):dZ X (.builtin "sorted") xY:=by
 intro pins s σ H xs us Q I r h;obtain⟨z,rfl,M,q⟩:=h;obtain⟨u,rfl,t,rfl⟩:=lv r;have m:z.length<=sizeLine:=by rw[q0V];omega
 refine tM (wpAny_collect_str (A:=X.A.in1) (hn:=m) (show X.A.in1.handled=none from I.ok.hd hc) z t λi a O hg hd ho d=>?_);obtain⟨h',g,T⟩:∃h' g,i={s with heap:=h',toks:=g}:=⟨i.heap,i.toks,by cases s;cases i;simp_all⟩;subst T;have C:bc ((z.cps.toList.map λc=>(⟨#[c]⟩:Str)).map V.str) a.toList:=by
  refine nU _ _ (by rw[LC,LC];simp[d.1]) λj x u y Y=>?_;obtain⟨c,tk2,v,rfl⟩:=d.2 j u (by simpa using Y);rw[LF,LF]at y;have U:z.cps.toList[j]?=some c:=by simpa using v
  rw[U]at y;cases y;exact⟨_,rfl⟩
 have S:=fG C;have hn:a.toList.length<64:=by rw[Array.length_toList,d.1];exact M
 have G:=I.kept (t':=g) O;refine⟨hn,_,S,λout l L B J=>?_⟩;have n:(h'.push (seqObj "list" a.toList.toArray 0)).get? h'.objs.size=some (seqObj "list" a.toList.toArray 0):=LI _ rfl;obtain⟨Z,R⟩:=sortedHeap_at (out:=out) n;have p:l.length<=sizeLine:=by rw[B.length_eq];have:=C.length;rw[LC]at this;rw[q0V];omega
 refine⟨.ref h'.objs.size,_,G.laid (t':=g) (h':=sortedHeap (h'.push (seqObj "list" a.toList.toArray 0)) h'.objs.size a.toList out) (λb o D=>?_) (L1 _) (show b6 X.prog X.w _ _ _ (.lst (l.map V.str)) from⟨by rw[LC];exact p,out.toList,Z,kn L,R⟩),rfl,q l B J _ (G.hok.fresh (L1 _))⟩;have e:b<h'.objs.size:=L5 D;rw[sortedHeap_old (LW e) (by show _<(Heap.push _ _).objs.size;rw[size_push'];exact Nat.lt_succ_of_lt e)];exact LB _ D
end
end L2
namespace TS
open PySem PyProof.Rows PySem.W
section
variable {prog:ME}{w:MJ}{A:MG}{E:Mu}{J:Shared->Prop}{a₀:Array Keyed}{kd:SortKind}{r:Keyed->Nat}
structure HR(a₀:PA)(kd:SortKind)(r:Keyed->Nat)(st:SortSt):Prop where
 sb:SB a₀ kd st
 pe:(pendingOf st).size=1
 up:(arrOf st).toList.Pairwise (uG r)
theorem FR{st:SortSt}(B:SB a₀ kd st)(hu:Up r (arrOf st) 0 a₀.size):(arrOf st).toList.Pairwise (uG r):=by
 obtain⟨y,v,e,b,a⟩:=KB.split (lo:=0) (st₀:=st) ⟨B,rfl,λ_ _=>rfl⟩ (u:=[]) (v:=(arrOf st).toList) rfl rfl ⋯ hu;have:=q0R List.length e;have h2:=B.size;have:v=[]:=by
  refine Mh.mp ?_;rw[Array.length_toList]at this;simp at this b;omega
 subst this;rw[e];simpa using a
theorem HR.of{st:SortSt}(B:SB a₀ kd st)(hp:pendingOf st=#[])(hu:Up r (arrOf st) 0 a₀.size)(e:Nat×Nat×Nat):HR a₀ kd r (setPending st ((pendingOf st).push e)):=
 ⟨⟨B.perm,B.kind,B.failed⟩,by show((pendingOf st).push e).size=1;rw[hp];rfl,(FR (kd:=kd) B hu:(arrOf st).toList.Pairwise (uG r))⟩
theorem ue(C:yk prog w A J a₀ kd r){st:SortSt}{Q:Unit->SortSt->Prop}(B:SB a₀ kd st)(hp:pendingOf st=#[])(h1:1<=a₀.size)(h64:a₀.size<64)
  (h:∀st',SB a₀ kd st'->(arrOf st').toList.Pairwise (uG r)->Q () st'):mO (model prog w) A E J sortRuns' Q st:=by
 rw[sortRuns'_eq];refine bI (qU ?_);dsimp only;have l:minRun' a₀.size a₀.size 0=a₀.size:=by
  obtain⟨f,M⟩:∃f,a₀.size=f+1:=⟨a₀.size-1,⋯⟩;have:minRun' (f+1) a₀.size 0=a₀.size:=by rw[minRun'_succ,q07 h64];rfl
  rwa [<- M]at this
 simp only[B.size,l];refine bI (lG (qI (I:=λx c st'=>(x=0/\c=(none,0)/\SB a₀ kd st'/\pendingOf st'=#[])\/(1<=x/\c=(none,a₀.size)/\HR a₀ kd r st')) (Q:=λc st'=>c=(none,a₀.size)/\HR a₀ kd r st') ?cs ?ce (.inl ⟨rfl,rfl,B,hp⟩)) ?cp)
 case ce=>
  rintro c st' (⟨D,_⟩ | ⟨_,O,b⟩)
  ·omega
  ·exact⟨O,b⟩
 case cs=>
  rintro x c st' _ D (⟨rfl,rfl,R,g⟩ | ⟨hx1,rfl,b⟩)
  ·dsimp only
   rw[q06 ⋯];simp only[Nat.sub_zero,Nat.min_self,Nat.zero_add];refine bI (xZ C R (lo:=0) (n:=a₀.size) ⋯ ⋯ λm e p m1 m2 v=>?_);dsimp only;have u:pendingOf e=#[]:=by rw[p.pe];exact g
   by_cases i:m<a₀.size
   ·rw[q07 i]
    refine bI (xG λ_ z=>wpAny_rule ⟨z,?_⟩);refine bI (GW C p (n:=a₀.size) ⋯ ⋯ v λd y j=>?_);rw[q06 nofun];refine bI (qU ?_);have q:pendingOf d=#[]:=by rw[y.pe];exact g
    have o:(pendingOf d).back?=none:=by rw[q];rfl
    rw[o];dsimp only;exact bI (lu (cq (.inr ⟨⋯,rfl,.of y.sb q j _⟩)))
   ·rw[q06 i]
    have G:m=a₀.size:=by omega
    subst G;refine bI (qU ?_);have o:(pendingOf e).back?=none:=by rw[u];rfl
    rw[o];dsimp only;exact bI (lu (cq (.inr ⟨⋯,rfl,.of p.sb u v _⟩)))
  ·dsimp only
   rw[q07 (L1 _)];exact cq ⟨rfl,b⟩
 case cp=>
  rintro c st' ⟨rfl,b⟩;dsimp only;refine bI (lG (qI (I:=λ_ c a=>a=st'/\c=(none,())) (Q:=λc a=>a=st'/\c=(none,())) ?_ (λ_ _ L=>L) ⟨rfl,rfl⟩) ?_)
  ·rintro x c a _ _ ⟨rfl,rfl⟩
   refine bI (qU ?_);rw[q07 (by rw[b.pe];exact L1 1)];exact cq ⟨rfl,rfl⟩
  ·rintro c a ⟨rfl,rfl⟩
   exact cq (h _ b.sb b.up)
end
section
variable {prog:ME}{w:MJ}{A:MG}{E:Mu}{s:My}
theorem zA{a kS:Addr}{e1:Nat}{keys:Array Value}{vs:Mz}{P:Fin->Shared->Prop}(hka:a≠kS)(hk:s.heap.get? kS=some (seqObj "list" keys e))(ha:s.heap.get? a=some (seqObj "list" #[] e1))
  (h64:vs.length<64) (hz:vs.length<=sizeLine) (hkz:keys.size=vs.length) {kd:SortKind} {r:Keyed->Nat} (hkk:2<=vs.length->∀{Q:SortKind->Shared->Prop},Q kd s->wpAny (model prog w) A (keyKind' keys) Q E s)
  (C:2<=vs.length->yk prog w A (· = s) (keys.zip vs.toArray) kd r)
  (h:∀ps:List Keyed,ps.Perm (keys.toList.zip vs)->ps.Pairwise (uG r)->P (.done (.ret .none)) {s with heap:=keyEnd s.heap a kS (ps.map (·.2)).toArray}) :
  wpAny (model prog w) A (ksk_end a false vs.toArray e1 (.ref kS) keys) P E s:=by
 have i:(keys.zip vs.toArray).toList=keys.toList.zip vs:=ksk_zip keys vs;have d:(keys.zip vs.toArray).size=vs.length:=by rw[Array.size_zip,hkz,LJ,Nat.min_self]
 have dL:∀st:SortSt,(arrOf st).toList.Perm (keys.zip vs.toArray).toList->(arrOf st).toList.Pairwise (uG r)->failedOf st=none->wpAny (model prog w) A (ksk_tail a false e1 (.ref kS) st) P E s:=by
  intro st g b m;refine Br (vs:=vs) hka hk ha ⋯ (by have:=g.length_eq;simp at this;omega) m ?_;have:=h (arrOf st).toList (by rw[<- i];exact g) b
  rwa [show((arrOf st).toList.map (·.2)).toArray=(arrOf st).map (·.2) by rw[<- Array.toList_map]]at this
 have hs:vs.toArray.size=vs.length:=by simp
 unfold ksk_end;dsimp only;rw[q06 nofun]
 by_cases h2:vs.toArray.size<2
 ·rw[q07 h2,q07 h2]
  refine q04 (q05 ?_);rw[StateT.run_pure];refine q04 (q05 ?_);dsimp only;refine dL (SortSt.mk' general' (keys.zip vs.toArray) #[] 7 none) (List.Perm.refl _) ?_ rfl;have c:(keys.zip vs.toArray).toList.length<2:=by simp;omega
  show(keys.zip vs.toArray).toList.Pairwise _
  match(keys.zip vs.toArray).toList,c with
  | [],_=>exact .nil
  | [v],_=>exact List.pairwise_singleton _ _
  |_::_::_,c=>simp at c;omega
 ·rw[q06 h2,q06 h2]
  refine q04 (hkk ⋯ ?_);refine q04 (q0W (ue (a₀:=keys.zip vs.toArray) (kd:=kd) (r:=r) (C ⋯) (st:=SortSt.mk' kd (keys.zip vs.toArray) #[] 7 none)
   (Q:=λ_ st'=>SB (keys.zip vs.toArray) kd st'/\(arrOf st').toList.Pairwise (uG r)) ⟨List.Perm.refl _,rfl,rfl⟩ rfl (by rw[d];omega) (by rw[d];exact h64) (λst' l j=>⟨l,j⟩) _ rfl) ?_ λ_ _ e=>e)
  rintro⟨⟨⟩,st'⟩ s' ⟨rfl,B,b⟩;exact dL st' B.perm b B.failed
theorem wP{a:Addr}{f:Value}{vs:Mz}{P:Fin->Shared->Prop}(ho:s.heap.get? a=some (seqObj "list" vs.toArray n))(h64:vs.length<64)(hz:vs.length<=sizeLine)(I:Nat->Array Value->Shared->Prop){e1:Nat}
  (ho1:(s.heap.update a (Obj.mapSeq λ_=>(#[]:Array Value))).get? a=some (seqObj "list" #[] e1)) (h0:I 0 #[] {s with heap:=sort1 s.heap a vs})
  (hI:∀i kA s',I i kA s'->kA.size=i/\s'.heap.get? a=some (seqObj "list" #[] e1)/\∃e,s'.heap.get? (s.heap.objs.size+1)=some (seqObj "list" kA e))
  (step:∀i x kA s',vs[i]?=some x->I i kA s'->wpAny (model prog w) A (call f [x]) (λv s2=>(∃e,s2.heap.get? (s.heap.objs.size+1)=some (seqObj "list" kA e)) /\
   I (i+1) (kA.push v) {s2 with heap:=s2.heap.update (s.heap.objs.size+1) (Obj.mapSeq (·.push v))}) (λ_ _=>False) s')
  (dL:∀keys s',I vs.length keys s'->∃(kd:SortKind) (r:Keyed->Nat),(2<=vs.length->∀{Q:SortKind->Shared->Prop},Q kd s'->wpAny (model prog w) A (keyKind' keys) Q E s') /\
   (2<=vs.length->yk prog w A (· = s') (keys.zip vs.toArray) kd r) /\
   ∀ps:List Keyed,ps.Perm (keys.toList.zip vs)->ps.Pairwise (uG r)->P (.done (.ret .none)) {s' with heap:=keyEnd s'.heap a (s.heap.objs.size+1) (ps.map (·.2)).toArray}) :
  wpAny (model prog w) A (ksk_tree a f false) P E s:=by
 have p:a<s.heap.objs.size:=L5 ho;unfold ksk_tree;refine q04 (listItems_at ho rfl (q04 (listUpdate_at ho rfl ?_)));refine q04 (seqEpoch_at ho1 rfl (q04 (wpAny_newTuple (q04 (wpAny_newList (q0X ?_))))));show wpAny (model prog w) A _ P E {s with heap:=sort1 s.heap a vs};have B:((s.heap.update a (Obj.mapSeq λ_=>(#[]:Array Value))).push (seqObj "tuple" vs.toArray 0)).objs.size=s.heap.objs.size+1:=by rw[size_push',Heap.size_update]
 show wpAny (model prog w) A (ksk_rest a f false vs.toArray e1 (.ref ((s.heap.update a (Obj.mapSeq λ_=>(#[]:Array Value))).push (seqObj "tuple" vs.toArray 0)).objs.size)) P E _;rw[B];unfold ksk_rest;refine q04 (wpAny_rule ?_);rw[<- Array.forIn_toList];refine q04 (ksk_fold (λi s'=>∃kA,I i kA s') vs 0 _ ⟨#[],h0⟩ ?step ?done)
 case step=>
  rintro j x s' g ⟨kA,b⟩;simp only[Nat.zero_add]at b ⊢;have hj:j<vs.length:=(LA.mp g).1;obtain⟨d,_,_⟩:=hI _ _ _ b;refine q04 (wpAny_attempt (q0W (step j x kA s' g b) (λv s2 o=>?_) λ_ _ q=>q.elim));obtain⟨⟨e,m⟩,nB⟩:=o;dsimp only;refine q04 (listUpdate_at m rfl ?_ ⋯ (L9 (Nat.le_of_eq (Array.size_push ..)) ⋯));exact q05 ⟨rfl,_,nB⟩
 case done=>
  rintro s' ⟨kA,b⟩;rw[Nat.zero_add]at b;obtain⟨d,l,e,c⟩:=hI _ _ _ b;obtain⟨kd,r,z,y,u⟩:=dL _ _ b;refine q04 (listItems_at c rfl ?_);exact zA (LW (Nat.lt_succ_of_lt p)) c l h64 hz d z y u
theorem sorted_key64(hc:wpAny (model prog w) A.in1 (collect v) (λvs s2=>vs.length<64/\KeyRun prog w A E q Q vs s2) E s) :
  wpAny (model prog w) A (call (.builtin "sorted") [v] [(Str.ofString "key",.ref q)]) Q E s:=by
 refine call_function_entry_kw kind_sorted plain_sorted entry_sorted (ksk_s1 _ _) ?_;unfold Builtin.«sorted»;refine q04 (m:=checkCount "sorted" 1 1 _) (q05 ?_)
 refine q04 (q0W hc (λvs s2 ⟨c,o,h⟩=>?_) λ_ _ e=>e);refine q04 (wpAny_newList ?_ (hsz:=by omega));have a:(with1 s2 vs).get? s2.heap.objs.size=some (seqObj "list" vs.toArray 0):=LI _ rfl;show wpAny _ _ _ _ _ {s2 with heap:=with1 s2 vs};obtain⟨C,b⟩:=ER a;obtain⟨I,x,u,d,dL⟩:=h C b _ rfl;refine q04 (q0X (wpAny_call_entry_kw slot_list_sort ⟨_,a,rfl⟩ entry_list_sort ?body (ksk_l1 _ _)))
 case body=>
  show wpAny (model prog w) A.in1.in1 (Builtin.«list.sort» ⟨[.ref s2.heap.objs.size],[(Str.ofString "key",.ref q)]⟩) _ _ _;rw[ksk_t1];refine wP (s:={s2 with heap:=with1 s2 vs}) a c o I b x u d λkeys g p=>?_;obtain⟨n,r,B,z,y⟩:=dL keys g p;exact⟨n,r,λh2 {Q} hq=>B h2 Q hq,z,λi l j=>⟨_,rfl,q05 ⟨_,rfl,y i l j⟩⟩⟩
end
end TS
namespace L2
open PySem PySem.Spec PyProof.Rows QL PySem.W
def tE(K:Mv)(P:List Str->Prop)(g:List Str->Int)(t:TA):TE:=λσ H Q=>t σ H λxs H1=>∃(p a:Addr) (es:List VE),xs=[.ref p]/\H1 p=some (vG p a)/\H1 a=some (.dK (es.map HZ))/\es.length<64/\(∀e,e∈es->aI K H1 e.2.1 (e.2.2.map V.str)/\P e.2.2) /\
 ∀zs:List VE,zs.Perm es->gF g zs->∀(H':Hp) (l:Addr),ax H1 H'->H1 l=none->H' l=some (.lst (zs.map Bq))->Q (.ref l) H'
section
variable {X:Cx}{e:Expr}{t:TA}{p fp pos kpos:Pos}{k:Nat}{fx:Str}{ps:MF}{sp:Sp}{P:List Str->Prop}{g:List Str->Int}
theorem A5(hr:cT (k+2) X.A)(hc:X.calm=true)(hg:Gl X "sorted")(hm:X.mg "sorted"=none)(C:dk X.prog X.w X.K X.mg X.base bg k fx ps sp)(hgf:Gl X fx)
  (hsp:∀l ss H Q E,aI X.K H l (ss.map V.str)->P ss->(∀t,H t=none->Q (.ref t) (aD H t (.tup [.int (g ss),.ref l])))->sp [.ref l] H Q E) (ha:PA X [e] t) (hdb:autoParam ((fx==("__debug__":Str))=false) zz2._auto_1)
  (he:autoParam (backTo pos (starEach [e] X.env)=(false,eval e X.env)::backTo pos (starEach [] X.env)) zz0._auto_1) (hpl:autoParam ((backTo pos (starEach [e] X.env)).any (·.1)=false) zz0._auto_1)
  (hall:autoParam ((backToKw pos (keywordEach [⟨some "key",.Name fx fp,kpos⟩] X.env)).all (·.1.isSome)=true) zz0._auto_1) (hkw:autoParam ((backToKw pos (keywordEach [⟨some "key",.Name fx fp,kpos⟩] X.env)).any (·.1.isNone)=false) zz0._auto_1)
  (hks:autoParam ((backToKw pos (keywordEach [⟨some "key",.Name fx fp,kpos⟩] X.env)).filterMap (·.1)=[Str.ofString "key"]) zz0._auto_1) :
  PE X (.Call (.Name "sorted" p) [e] [⟨some "key",.Name fx fp,kpos⟩] pos) (tE X.K P g t):=by
 obtain⟨f,fd,F,G,hkf,L⟩:=C.ex;intro j s σ H Q I h;have hb:bootBuiltins "sorted"=some (.builtin "sorted"):=by decide +kernel
 refine wpAny_Call_Name_kw (eR I hg hm hb ?_);refine callWith_kw (bY (ha pos j s σ H _ I h) λus Z ⟨vs,H1,I1,r,q⟩=>?_) he hpl hall hkw;have hk:PK X [⟨some "key",.Name fx fp,kpos⟩] (iy (tC (.ref f)) nv):=D4 (cM hgf G rfl hdb) F';refine bY (hk pos j Z σ H1 (λS H2=>S=[.ref f]/\H2=H1) I1 ⟨rfl,rfl⟩) λws s2 ⟨S,H2,B,rz,ez,eh⟩=>?_;subst ez eh;rw[hks];obtain⟨T,a,y,rfl,hp,O,R,J,q3⟩:=q;obtain⟨u,rfl,ru⟩:=r.one;cases ru;obtain⟨u2,rfl,D⟩:=rz.one;cases D;show wpAny _ _ (call (.builtin "sorted") [.ref T] [(Str.ofString "key",.ref f)]) _ _ _;refine TS.sorted_key64 ?_;obtain⟨z,hd,vs,n,dd⟩:=qQ B.hok O;obtain⟨ep,da⟩:=dd.dictAt;obtain⟨hv,_⟩:=B.hok _ _ hp;have m:vs.length=y.length:=by rw[<- n.length,LC]
 have hz:y.length<=sizeLine:=by rw[LC]at z;exact z
 refine TS.collect_src (PySem.W.kdl_values (knd:=bX X.prog X.w) (r:=T) (d:=a) (kvs:=vs) (ep:=ep)) (B.ok.hd hc) ⟨hv,da⟩ ⋯ λh' Y acc' kp c=>?_;have I3:=B.kept (t':=Y) kp;refine⟨by rw[Array.length_toList,c.1,m];exact R,?_⟩;refine DJ F L hr hsp I3 (by rw[Array.length_toList,c.1,m]) hz (λi x hx=>?_) J q3;obtain⟨kk,o⟩:=c.2 i x (by simpa using hx);have U:i<y.length:=by have:=(LA.mp o).1;omega
 refine⟨y[i],Lz U,?_⟩;have:=oj n (i:=i) (a:=HZ y[i]) (by rw[LF,Lz U];rfl);obtain⟨b,v,_,M⟩:=this;rw[o]at v;cases v;exact M
end
end L2
namespace SnM
open PySem L2 aE QL Win
def Hl(p:aE)(r c:Nat):Prop:=∀qs:List aE,qs.Nodup->(∀q∈qs,bd p r c q)->qs.length<64
theorem jt{α:Type}[DecidableEq α]:∀{l L:List α},l.Nodup->(∀x∈l,x∈L)->l.length<=L.length
 | [],_,_,_=>L3 _
 |x::l,L,hn,hs=>by
  have hx:x∈L:=hs x q0B;rw[q0b]at hn;have:=jt (l:=l) (L:=L.erase x) hn.2 λy hy=>(List.mem_erase_of_ne λe=>hn.1 (by rw[<- e];exact hy)).mpr (hs y (LS _ hy));rw[List.length_erase_of_mem hx]at this;have:=List.length_pos_of_mem hx;rw[LN];omega
def mapP(f:Nat->Nat)(p:aE):aE:=p.map (List.map f)
section
variable {f:Nat->Nat}
theorem B1(f0:f 0=0)(x:H_)(i:Nat):(x.map f).getD i 0=f (x.getD i 0):=by
 rw[q0A,q0A,LF];cases x[i]? with
 |none=>exact f0.symm
 |some y=>rfl
theorem vf(f0:f 0=0)(p:aE):aX (mapP f p)=mapP f (aX p):=by
 have h:((mapP f p).headD []).length=(p.headD []).length:=by
  cases p with
  |nil=>rfl
  |cons x p=>exact LC ..
 unfold aX;rw[h];show _=List.map _ _;rw[LQ];refine q0K λi _=>?_;show col (mapP f p) i=(col p i).map f;unfold col mapP;rw[<- List.map_reverse,LQ,LQ];exact q0K λx _=>B1 f0 x i
theorem gZ(f0:f 0=0):∀(n:Nat) (p:aE),aJ n (mapP f p)=mapP f (aJ n p)
 |0,_=>rfl
 |n+1,p=>by
  show aJ n (aX (mapP f p))=mapP f (aJ n (aX p));rw[vf f0,gZ f0 n]
theorem xh(f0:f 0=0)(p:aE)(t:Nat):turned (mapP f p) t=mapP f (turned p t):=by
 unfold turned;have:mirror (mapP f p)=mapP f (mirror p):=by
  unfold mirror mapP;rw[LQ,LQ];exact q0K λx _=>(List.map_reverse ..).symm
 split
 ·rw[this];exact gZ f0 _ _
 ·exact gZ f0 _ _
theorem Eh(f0:f 0=0)(p:aE)(t l b x:Nat):cut (mapP f p) t l b x=mapP f (cut p t l b x):=by
 unfold cut mapP;rw[<- List.map_drop,<- List.map_take,LQ,LQ];exact q0K λy _=>by simp only[Function.comp_apply,List.map_take,List.map_drop]
def yX(p:aE)(r c:Nat):List aE:=((dJ r c).flatMap λw=>(List.range 8).map λu=>turned (Aa p w) u).eraseDups
theorem EG(f0:f 0=0){p:aE}{r c:Nat}(h:(yX p r c).length<64):Hl (mapP f p) r c:=by
 intro qs d e;refine Mg (jt d (L:=(yX p r c).map (mapP f)) λq a=>?_) (by rw[LC];exact h);obtain⟨t,l,b,x,u,h1,h2,j,i,g,rfl⟩:=e q a;rw[Eh f0,xh f0];refine Mi.mpr ⟨_,?_,rfl⟩;unfold yX;rw[List.mem_eraseDups];exact List.mem_flatMap.mpr ⟨_,ki.mpr ⟨t,l,b,x,rfl,h1,h2,j,i⟩,Mi.mpr ⟨u,List.mem_range.mpr g,by rw[kQ]⟩⟩
end
def EA(r c:Nat):aE:=(List.range r).map λi=>(List.range c).map λj=>i*c+j+1
theorem DW(hp:rect p r c)(hc:0<c):∃f:Nat->Nat,f 0=0/\p=mapP f (EA r c):=by
 refine⟨λk=>if k=0 then 0 else zO p ((k-1)/c) ((k-1)%c),rfl,jc hp ?_ λi j e a=>?_⟩
 ·refine⟨by simp[mapP,EA],λx d=>?_⟩
  obtain⟨y,b,rfl⟩:=Mi.mp d;obtain⟨i,_,rfl⟩:=Mi.mp b;simp
 ·have h1:(i*c+j)/c=i:=by rw[Nat.mul_comm,Nat.mul_add_div hc,Nat.div_eq_of_lt a,Nat.add_zero]
  have h2:(i*c+j)%c=j:=by rw[Nat.mul_comm,Nat.mul_add_mod,Nat.mod_eq_of_lt a]
  unfold mapP EA;show _=((List.map _ _).getD i []).getD j 0;rw[LQ,q0A (l:=List.map _ _),LF,List.getElem?_range e];simp only[Option.map_some,q0L,Function.comp_apply];rw[q0A (l:=List.map _ _),LF,LF,List.getElem?_range a];simp only[Option.map_some,q0L,Nat.add_sub_cancel,Nat.add_one_ne_zero,if_false,h1,h2]
theorem IP(hp:rect p r c)(hr:0<r)(hc:0<c)(h:r*c<=5):Hl p r c:=by
 obtain⟨f,a,e⟩:=DW hp hc;rw[e];have hr5:r<=5:=L9 (Nat.le_mul_of_pos_right r hc) h;have hc5:c<=5:=L9 (Nat.le_mul_of_pos_left c hr) h;have:∀r,r<6->∀c,c<6->r*c<=5->(yX (EA r c) r c).length<64:=by decide +kernel
 exact EG a (this r ⋯ c ⋯ h)
end SnM
set_option maxHeartbeats 4000000
namespace Q55
open PySem L2 aE QL Win SnM
local macro_rules|`(tactic|ext)=>do
 let f(s:String):Lean.MacroM _:=(s.splitOn ",").toArray.mapM λx=>let i:=Lean.mkIdent (x.splitOn "."|>.foldl .mkStr .anonymous);`(Lean.Parser.Tactic.simpLemma|$i:term)
 let g(s:String):Lean.MacroM _:=(s.splitOn ",").toArray.mapM λx=>let i:=Lean.mkIdent (x.splitOn "."|>.foldl .mkStr .anonymous);`(Lean.Parser.Tactic.simpLemma|↓$i:term)
 let c:="lD,s_,uF,pf,vV,vq,ky,sK,tZ,vI,vZ,tB,Cv,BW,FH,Dc,zI,wX,w8,yP,EQ,tC,Fu,rJ,FZ,FD,IE,BH,Dx,uK,tR,wV,uk,tE,wE,xY,Fo,DB,uf,C9,yv,yw,yu,Dw,A3,yJ,r9,tN,Bs,Gf,Ee,xM,xj,tJ,BL,pK,C8,FU,tj,Gs,Fj,HH,iy,nv,mH,Ij,BT,Et,Iv,IR,FT,Ik,sj,Cf,FG,Fr,HN,IM,y4,sG,EL,vU,BV,Co,Fm,F1,Fl,yU,CS,rT,yS,L2.start,L8,List.map_nil,LN,List.length_nil,List.replicate,List.cons_append,Mo,Nat.reduceAdd,Nat.reduceSub,List.getElem?_cons_zero,L7,List.set_cons_zero,List.set_cons_succ,iB,Cx.blk,ux,D8,BO,Bu,Cx.wish,Cx.nox,HG,iY";let d<-f (c++",K8,La,Lj,Lm,JM,JC,Jo,Lp,Er,FW,Bh,BE");let e<-f (c++",Ma,Option.some.injEq,V.int.injEq,V.str.injEq,V.ref.injEq,V.bl.injEq,List.cons.injEq,and_true,true_and,exists_and_left,exists_eq_left',exists_eq_left,decide_eq_true_eq,Bool.not_eq_true',decide_eq_false_iff_not,DC,Option.join_some,Nat.succ_eq_add_one,Nat.zero_add,exists_const,and_assoc,exists_eq,exists_eq',Int.reducePow,Int.reduceNeg,Int.reduceLT,or_true,true_or,reduceCtorEq,Int.zero_add,Bool.false_eq_true,Bool.not_true,Bool.not_false,Cl,Fa,ET,D_,zR,Az,yp,AF,rI,fm,kR,Bj,Bm,u9");let h<-g "reduceIte,ID,Iu,IQ,Io,IK,HS,Iy,HU";let e:=e++h
 `(tactic|((try dsimp only[$d,*]);(try simp only[$e,*])))
set_option hygiene false in
local macro_rules|`(tactic|grind)=>`(tactic|(clear h1;refine ak λN1 h1=>?_;ext))
set_option hygiene false in
local macro_rules|`(tactic|symm)=>`(tactic|(refine ak λN1 h1=>?_;ext))
set_option hygiene false in
local macro_rules|`(tactic|walk_at "oc")=>`(tactic|(clear h2;refine ak λN2 h2=>?_;ext))
set_option hygiene false in
local macro_rules|`(tactic|ac_nf)=>`(tactic|(refine ak λN2 h2=>?_;ext))
set_option hygiene false in
local macro_rules|`(tactic|walk_at "f")=>`(tactic|refine F.ok sc (λvs H Q E h=>by cases h<;>subst_vars<;>rfl) (λcdv A outer s H vs Q E hr h=>?_))
set_option hygiene false in
local macro_rules|`(tactic|walk_at "x")=>`(tactic|refine F.okX sc (λvs H Q E h=>?_) (λcdv A outer s H vs Q E hr h=>?_))
set_option hygiene false in
local macro_rules|`(tactic|walk_at "c")=>`(tactic|exact⟨rfl,rfl,rfl,by decide +kernel,rfl,by decide +kernel,by decide +kernel⟩)
def eY(i:Nat):Stmt:=PySem.Challenge.pw_quiltlaw_k55_whole_sizes_and_costs.main.body.getD i (.Pass ⟨0,0,0,0⟩)
def Ey:Stmt->List Stmt
 | .ClassDef (body:=b) ..=>b
 |_=>[]
def i8(i j:Nat):Stmt:=(Ey (eY i)).getD j (.Pass ⟨0,0,0,0⟩)
section
variable {P:ME}{w:MJ}{K:W.Frag}{mg:MB}{base:Heap}
abbrev GG(z:Str)(c:Nat):Bool:=!(Builtin.Str.occurrences z ⟨#[c]⟩ 0 z.length 1).isEmpty
abbrev lI:Stmt:=eY 35
def gx(r:Mx)(z:Str):Bool:=r.all (GG z)
inductive g8(vs:List V)(H:Hp)(Q:VK)(_E:XK):Prop
 |mk (r:Mx) (z:Str) (_:vs=[.str (tx r),.str z]) (_:r.length<=100000) (_:∀H',ax H H'->Q (.bl (gx r z)) H')
theorem wK:aC ["text","letters"] ["text","letters"] (ao lI):=by walk_at "c"
theorem JN{i c:Nat}(h:(tx r).cps[i]?=some c):r[i]?=some c:=by
 rw[<- h];show r[i]?=r.toArray[i]?;simp
theorem Iz(r:Mx):(tx r).cps.size=r.length:=by show r.toArray.size=_;simp
theorem wC{f:Addr}(F:cZ K "only_of" "only_of" lI f fd)(nb:NB mg):↑aY 1 f fd ["text","letters"] g8:=by
 have sc:=wK;walk_at "f"
 ·obtain⟨r,z,rfl,hr',q⟩:=h
  refine⟨_,(ai (aG (aF (Do rfl) rfl nb.all F6 (aa (bS ["sign"] [1] rfl (bA.of (by kernel_rfl)) (by kernel_rfl) (B4 (al 0))
    (λ_ _ _ _=>(au (i:=0) (by show(["sign","letters"]:List Str).Nodup;decide +kernel) rfl (Or.inl rfl))) (λ_ _ _ _=>bT) (λ_ _ _ _=>(jd At (al 0) (al 1) (by with_unfolding_all rfl)))) ac)))),?_⟩
  ext;refine uZ (x:=tx r) (λi a σ d=>d=H/\a=((r.take i).map (GG z)).map V.bl/\i<=r.length/\∃x,σ=[x,some (.str z)]) ⟨rfl,rfl,L3 _,_,rfl⟩ ?_ ?_ ?_ ?_
  ·rintro i a σ d ⟨_,rfl,m,_⟩
   rw[LC,LC,Me];exact aU ⋯
  ·rintro i a σ d ⟨_,_,h,_⟩
   rw[Iz];exact h
  ·rintro i c a σ d n ⟨rfl,rfl,m,y,rfl⟩
   have b:=JN n;have g:=(LA.mp b).1;ext;refine⟨?_,g⟩;rw[q0E,b];simp
  ·rintro a σ d ⟨rfl,rfl,_⟩ l j
   refine⟨_,aI.of ae,?_⟩;rw[Iz,Md];have e:(r.map (GG z)).all id=gx r z:=by unfold gx;rw[List.all_map];rfl
   rw[e];exact q _ (af j)
abbrev l8:Stmt:=eY 36
abbrev FM:Str:="ABCDEFGHIJKLMNOPQRSTUVWXYZ"
def di(r:Mx):Bool:=decide (1<=r.length)&&decide (r.length<=4)&&gx r FM
inductive jV(vs:List V)(H:Hp)(Q:VK)(_E:XK):Prop
 |mk (r:Mx) (_:vs=[.str (tx r)]) (_:r.length<=100000) (_:∀H',ax H H'->Q (.bl (di r)) H')
theorem yl:aC ["text"] ["text"] (ao l8):=by walk_at "c"
theorem wB{f:Addr}{t1 t2:Tok}(F:cZ K "is_name" "is_name" l8 f fd)(nb:NB mg)(yaS:mg "LONGEST_NAME"=some (.int 4 t1))(ya3:mg "CAPITALS"=some (.str "ABCDEFGHIJKLMNOPQRSTUVWXYZ" t2))(yaf:↑dk 1 "only_of" ["text","letters"] g8):↑aY 2 f fd ["text"] jV:=by
 have sc:=yl;walk_at "f"
 ·obtain⟨r,rfl,a,q⟩:=h
  refine⟨_,(ai (aG (uH (vS (bu.m0 iw) (bu.m0 iw) aj (aF aV rfl nb.len bi (aa (al 0) ac)) (cM (v:=.int 4) rfl yaS ⟨_,rfl⟩)) (wQ (aH yaf (hr.mono nofun) rfl aL (aa (al 0) (aa (cM (v:=.str "ABCDEFGHIJKLMNOPQRSTUVWXYZ") rfl ya3 ⟨_,rfl⟩) ac))))))),?_⟩;ext;refine⟨by rw[aw];exact am ⋯,?_⟩;rw[aw];unfold di at q
  by_cases h1:1<=r.length
  ·rw[q07 ⋯]
   by_cases h2:r.length<=4
   ·rw[q07 ⋯]
    refine⟨r,_,rfl,a,λc b=>?_⟩;have z:=q c b;rw[q09 h1,q09 h2]at z;exact z
   ·rw[q06 ⋯]
    have z:=q H (λ_ _ e=>e);rw[q09 h1,q08 h2]at z;exact z
  ·rw[q06 ⋯]
   have z:=q H (λ_ _ e=>e);rw[q08 h1]at z;exact z
abbrev gb:Stmt:=i8 37 0
inductive dr(K:W.Frag)(vs:List V)(H:Hp)(Q:VK)(_E:XK):Prop
 |mk (a C dx l:Addr) (n:Mx) (c:Int) (ps:aE) (_:vs=[.ref a,.str (tx n),.int c,.ref l]) (_:H a=some (.ins C dx [])) (_:iE K C) (_:aB K C "name") (_:aB K C "cost") (_:aB K C "part_names") (_:H l=some (.lst (av ps))) (_:ps.length<=1000) (_:(∀r∈n::ps,r.length<=100000)) (_:((∀r∈n::ps,di r=true)/\1<=c/\c<=9)) (_:∀H',ax H H'->Q .non (aD H' a (.ins C dx [("name",.str (tx n)),("cost",.int c),("part_names",.ref l)])))
theorem fb{st:Stmt}:PS X st (λ_ _ _=>False):=λ_ _ _ _ _ _ h=>h.elim
theorem tO:aC ["self","name","cost","part_names","text"] ["self","name","cost","part_names"] (ao gb):=by walk_at "c"
theorem tu{f:Addr}(F:cZ K "__init__" "Rule.__init__" gb f fd)(nb:NB mg)(yal:↑dk 2 "is_name" ["text"] jV):↑aY 3 f fd ["self","name","cost","part_names"] (dr K):=by
 have sc:=tO;walk_at "f"
 ·obtain⟨a,C,I,l,n,c,b,rfl,Y,J,S,R,O,U,hpl,j,ok,good⟩:=h
  refine⟨_,(ad (aQ PassesOwn.never rfl (aS (az yh (ba (aa (al 1) ac)) (al 3))) (q02 4 sc.nd)
   (ai (bM (i7 (eU (aH yal (hr.mono nofun) rfl aL (aa (al 4) ac)) λ_=>rfl))
   (ai fb)
   aR)))
   (ad (bM (PW.pt (vw (aK (bu.m0 zf) (al 2) aj (aZ _)) (oU (aK (bu.m0 k8) (al 2) aj (aZ _)))))
   (ai fb)
   aR)
   (ad (cy (al 0) (al 1) rfl)
   (ad (cy (al 0) (al 2) rfl)
   (ai (cy (al 0) (al 3) rfl)))))),?_⟩
  ext;refine⟨am ⋯,λp T=>?_⟩;have m1:ax H (aD H p (.lst [V.str (tx n)])):=af T;have M:aD H p (.lst [V.str (tx n)]) p=some (.lst [V.str (tx n)]):=ae;generalize aD H p (.lst [V.str (tx n)])=H1 at m1 M ⊢;refine⟨_,M,_,m1 _ _ U,by rw[aq];exact am (by simp;omega),λo B=>?_⟩;have G:[V.str (tx n)]++av b=av (n::b):=rfl;rw[G];have L:ax H1 (aD H1 o (.lst (av (n::b)))):=af B;have q:aD H1 o (.lst (av (n::b))) o=some (.lst (av (n::b))):=ae;generalize aD H1 o (.lst (av (n::b)))=H2 at L q ⊢;generalize hqs:n::b=qs at j ok q ⊢;have y:=m1.trans L;refine⟨⟨_,aI.of q⟩,bB (xs:=av qs) (λi σ m=>ax H2 m/\∃x,σ=[some (.ref a),some (.str (tx n)),some (.int c),some (.ref l),x]) ⟨λ_ _ e=>e,_,rfl⟩ (λi σ m _ h=>aI.of (h.1 _ _ q)) ?_ ?_⟩
  ·rintro i v σ m z ⟨u,x,rfl⟩
   have D:i<qs.length:=by have:=(LA.mp z).1;rwa [aq]at this
   rw[bC D]at z;cases z;ext;refine⟨_,rfl,j _ (LK D),λH3 r=>⟨_,rfl,?_⟩⟩;rw[q06 (by rw[ok.1 _ (LK D)];decide)];exact u.trans r
  ·rintro σ m ⟨u,x,rfl⟩
   have d:=y.trans u;ext;rw[q06 ⋯,q06 ⋯];have g:=good m d;have l1:(cC "name" (V.str (tx n)) []).length<=1:=dg _ _ _;have l2:(cC "cost" (V.int c) (cC "name" (V.str (tx n)) [])).length<=2:=L9 (dg _ _ _) ⋯;have d1:¬ (("name":Str)="cost"):=by decide +kernel
   have d2:¬ (("name":Str)="part_names"):=by decide +kernel
   have Z:¬ (("cost":Str)="part_names"):=by decide +kernel
   have e:cC "part_names" (V.ref l) (cC "cost" (V.int c) (cC "name" (V.str (tx n)) []))=[(("name":Str),V.str (tx n)),(("cost":Str),V.int c),(("part_names":Str),V.ref l)]:=by
    simp only[cC,q06 d1,q06 d2,q06 Z]
   refine⟨C,I,[],d _ _ Y,J,S,by simp,C,I,_,ae,J,R,⋯,C,I,_,ae,J,O,⋯,?_⟩;rw[kX,kX,e];exact g
def aT(a:Addr)(H H':Hp):Prop:=∀b o,b≠a->H b=some o->H' b=some o
theorem aT.of(s:ax H H'):aT a H H':=λb o _ e=>s b o e
theorem aT.put(s:aT a H H'):aT a H (aD H' a o):=λb u hb e=>by rw[ar hb];exact s b u hb e
theorem aT.then{H2:Hp}(s:aT a H H')(t:ax H' H2):aT a H H2:=λb u hb e=>t b u (s b u hb e)
theorem aT.trans{H2:Hp}(s:aT a H H')(t:aT a H' H2):aT a H H2:=λb u hb e=>t b u hb (s b u hb e)
abbrev Hv:Str:="abcdefghijklmnopqrstuvwxyz"
def lC(r:Mx):Bool:=decide (r.length=1)&&gx r Hv
def jT(n:Mx)(ps:aE)(c:Int):Prop:=(∀r∈n::ps,di r=true)/\1<=c/\c<=9
abbrev fY:Stmt:=i8 38 0
inductive gP(K:W.Frag)(vs:List V)(H:Hp)(Q:VK)(_E:XK):Prop
 |mk (a C dx:Addr) (n sg:Mx) (c:Int) (_:vs=[.ref a,.str (tx n),.int c,.str (tx sg)]) (_:H a=some (.ins C dx [])) (_:iE K C) (_:(aB K C "name"/\aB K C "cost"/\aB K C "part_names"/\aB K C "sign")) (_:n.length<=100000) (_:sg.length<=100000) (_:(jT n [] c/\lC sg=true)) (_:∀(l:Addr) (H':Hp),aT a H H'->H l=none->H' l=some (.lst [])->H' a=some (.ins C dx [("name",.str (tx n)),("cost",.int c),("part_names",.ref l),("sign",.str (tx sg))])->Q .non H')
theorem uI:aC ["self","name","cost","sign"] ["self","name","cost","sign"] (ao fY):=by walk_at "c"
theorem uA{f:Addr}{t3:Tok}(F:cZ K "__init__" "CellRule.__init__" fY f fd)(nb:NB mg)(yan:mg "SMALLS"=some (.str "abcdefghijklmnopqrstuvwxyz" t3))
  (yaf:↑dk 1 "only_of" ["text","letters"] g8) (zfa:↑A1 3 "Rule" "__init__" ["self","name","cost","part_names"] (dr K)):↑aY 4 f fd ["self","name","cost","sign"] (gP K):=by
 have sc:=uI;walk_at "f"
 ·obtain⟨a,C,d,n,i,c,rfl,x,B,⟨J,I,G,D⟩,L,p,⟨ok,o⟩,good⟩:=h
  refine⟨_,(ad (a_ (nz zfa (hr.mono nofun) rfl aL (aa (al 0) (aa (al 1) (aa (al 2) (aa (ba ac) ac))))))
   (ad (bM (PW.pt (vw (aK EZ (aF aV rfl nb.len bi (aa (al 3) ac)) aj (aZ _)) (oU (i7 (eU (aH yaf (hr.mono nofun) rfl aL (aa (al 3) (aa (cM (v:=.str "abcdefghijklmnopqrstuvwxyz") rfl yan ⟨_,rfl⟩) ac))) λ_=>rfl)))))
   (ai fb)
   aR)
   (ai (cy (al 0) (al 3) rfl)))),?_⟩
  ext;refine⟨L3 _,λl m=>?_⟩;have m1:ax H (aD H l (.lst [])):=af m;have q:aD H l (.lst []) l=some (.lst []):=ae;generalize aD H l (.lst [])=H1 at m1 q ⊢;have j:l≠a:=λe=>by rw[e,x]at m;cases m
  refine⟨a,C,d,l,n,c,[],rfl,m1 _ _ x,B,J,I,G,q,by simp,λr hr=>by rw[show r=n by simpa using hr];exact L,ok,λH2 g=>?_⟩;have u:aT a H (aD H2 a (.ins C d [("name",.str (tx n)),("cost",.int c),("part_names",.ref l)])):=(aT.of (m1.trans g)).put;have z:aD H2 a (.ins C d [("name",.str (tx n)),("cost",.int c),("part_names",.ref l)]) a=some (.ins C d [("name",.str (tx n)),("cost",.int c),("part_names",.ref l)]):=ae;have y:aD H2 a (.ins C d [("name",.str (tx n)),("cost",.int c),("part_names",.ref l)]) l=some (.lst []):=by rw[ar j];exact g _ _ q
  generalize aD H2 a (.ins C d [("name",.str (tx n)),("cost",.int c),("part_names",.ref l)])=H3 at u z y ⊢
  try dsimp only
  obtain⟨h1,M⟩:i.length=1/\gx i Hv=true:=by
   have h:=o;unfold lC at h;rw[q0O,q0a]at h;exact h
  refine⟨by rw[aw];exact am ⋯,?_⟩;rw[aw,q06 (λh=>h ⋯)];refine⟨i,_,rfl,p,λH4 b=>⟨_,rfl,?_⟩⟩;rw[q06 (by rw[M];decide)];have S:¬ (("name":Str)="sign"):=by decide +kernel
  have R:¬ (("cost":Str)="sign"):=by decide +kernel
  have O:¬ (("part_names":Str)="sign"):=by decide +kernel
  have e:cC "sign" (V.str (tx i)) [(("name":Str),V.str (tx n)),(("cost":Str),V.int c),(("part_names":Str),V.ref l)]=[(("name":Str),V.str (tx n)),(("cost":Str),V.int c),(("part_names":Str),V.ref l),(("sign":Str),V.str (tx i))]:=by
   simp only[cC,q06 S,q06 R,q06 O]
  refine⟨C,d,_,b _ _ z,B,D,by simp,?_⟩;rw[e];exact good l _ (u.then b).put m (by rw[ar j];exact b _ _ y) ae
inductive dq(K:W.Frag)(vs:List V)(H:Hp)(Q:VK)(_E:XK):Prop
 |mk (a C dx:Addr) (n o1 o2:Mx) (c:Int) (_:vs=[.ref a,.str (tx n),.int c,.str (tx o1),.str (tx o2)]) (_:H a=some (.ins C dx [])) (_:iE K C) (_:(aB K C "name"/\aB K C "cost"/\aB K C "part_names"/\aB K C "one"/\aB K C "other")) (_:n.length<=100000) (_:o1.length<=100000) (_:o2.length<=100000) (_:jT n [o1,o2] c) (_:∀(l:Addr) (H':Hp),aT a H H'->H l=none->H' l=some (.lst (av [o1,o2]))->H' a=some (.ins C dx [("name",.str (tx n)),("cost",.int c),("part_names",.ref l),("one",.str (tx o1)),("other",.str (tx o2))])->Q .non H')
theorem wd{c:Int}:cC "other" (V.str (tx o2)) (cC "one" (V.str (tx o1)) [(("name":Str),V.str (tx n)),(("cost":Str),V.int c),(("part_names":Str),V.ref l)])=[(("name":Str),V.str (tx n)),(("cost":Str),V.int c),(("part_names":Str),V.ref l),(("one":Str),V.str (tx o1)),(("other":Str),V.str (tx o2))]:=by
 have j:¬ (("name":Str)="one"):=by decide +kernel
 have i:¬ (("cost":Str)="one"):=by decide +kernel
 have g:¬ (("part_names":Str)="one"):=by decide +kernel
 have e:¬ (("name":Str)="other"):=by decide +kernel
 have d:¬ (("cost":Str)="other"):=by decide +kernel
 have b:¬ (("part_names":Str)="other"):=by decide +kernel
 have a:¬ (("one":Str)="other"):=by decide +kernel
 simp only[cC,q06 j,q06 i,q06 g,q06 e,q06 d,q06 b,q06 a]
abbrev eD:Stmt:=i8 39 0
theorem pT:aC ["self","name","cost","one","other"] ["self","name","cost","one","other"] (ao eD):=by walk_at "c"
theorem ol{f:Addr}(F:cZ K "__init__" "BesideRule.__init__" eD f fd)(nb:NB mg)
  (zfa:↑A1 3 "Rule" "__init__" ["self","name","cost","part_names"] (dr K)):↑aY 4 f fd ["self","name","cost","one","other"] (dq K):=by
 have sc:=pT;walk_at "f"
 ·obtain⟨a,C,b,n,g,d,c,rfl,x,u,⟨J,I,G,D,B⟩,L,p,o,ok,good⟩:=h
  refine⟨_,(ad (a_ (nz zfa (hr.mono nofun) rfl aL (aa (al 0) (aa (al 1) (aa (al 2) (aa (ba (aa (al 3) (aa (al 4) ac))) ac))))))
   (ad (cy (al 0) (al 3) rfl)
   (ai (cy (al 0) (al 4) rfl)))),?_⟩
  ext;refine⟨am ⋯,λl m=>?_⟩;have m1:ax H (aD H l (.lst [V.str (tx g),V.str (tx d)])):=af m;have q:aD H l (.lst [V.str (tx g),V.str (tx d)]) l=some (.lst (av [g,d])):=ae;generalize aD H l (.lst [V.str (tx g),V.str (tx d)])=H1 at m1 q ⊢;have j:l≠a:=λe=>by rw[e,x]at m;cases m
  refine⟨a,C,b,l,n,c,[g,d],rfl,m1 _ _ x,u,J,I,G,q,by simp,λr hr=>?_,ok,λH2 i=>?_⟩
  ·have M:r=n\/r=g\/r=d:=by simpa using hr
   rcases M with rfl | rfl | rfl
   ·exact L
   ·exact p
   ·exact o
  ·have v:aT a H (aD H2 a a⁻¹):=(aT.of (m1.trans i)).put
   have z:aD H2 a a⁻¹ a=some a⁻¹:=ae;have y:aD H2 a a⁻¹ l=some (.lst (av [g,d])):=by rw[ar j];exact i _ _ q
   generalize aD H2 a a⁻¹=H3 at v z y ⊢
   try dsimp only
   refine⟨C,b,_,z,u,D,by simp,C,b,_,ae,u,B,?_,?_⟩
   ·exact Mg (dg _ _ _) (by simp)
   ·rw[kX,wd]
    exact good l _ v.put m (by rw[ar j];exact y) ae
abbrev fo:Stmt:=i8 40 0
theorem qf:aC ["self","name","cost","one","other"] ["self","name","cost","one","other"] (ao fo):=by walk_at "c"
theorem qw{f:Addr}(F:cZ K "__init__" "AboveRule.__init__" fo f fd)(nb:NB mg)
  (zfa:↑A1 3 "Rule" "__init__" ["self","name","cost","part_names"] (dr K)):↑aY 4 f fd ["self","name","cost","one","other"] (dq K):=by
 have sc:=qf;walk_at "f"
 ·obtain⟨a,C,b,n,g,d,c,rfl,x,u,⟨J,I,G,D,B⟩,L,p,o,ok,good⟩:=h
  refine⟨_,(ad (a_ (nz zfa (hr.mono nofun) rfl aL (aa (al 0) (aa (al 1) (aa (al 2) (aa (ba (aa (al 3) (aa (al 4) ac))) ac))))))
   (ad (cy (al 0) (al 3) rfl)
   (ai (cy (al 0) (al 4) rfl)))),?_⟩
  ext;refine⟨am ⋯,λl m=>?_⟩;have m1:ax H (aD H l (.lst [V.str (tx g),V.str (tx d)])):=af m;have q:aD H l (.lst [V.str (tx g),V.str (tx d)]) l=some (.lst (av [g,d])):=ae;generalize aD H l (.lst [V.str (tx g),V.str (tx d)])=H1 at m1 q ⊢;have j:l≠a:=λe=>by rw[e,x]at m;cases m
  refine⟨a,C,b,l,n,c,[g,d],rfl,m1 _ _ x,u,J,I,G,q,by simp,λr hr=>?_,ok,λH2 i=>?_⟩
  ·have M:r=n\/r=g\/r=d:=by simpa using hr
   rcases M with rfl | rfl | rfl
   ·exact L
   ·exact p
   ·exact o
  ·have v:aT a H (aD H2 a a⁻¹):=(aT.of (m1.trans i)).put
   have z:aD H2 a a⁻¹ a=some a⁻¹:=ae;have y:aD H2 a a⁻¹ l=some (.lst (av [g,d])):=by rw[ar j];exact i _ _ q
   generalize aD H2 a a⁻¹=H3 at v z y ⊢
   try dsimp only
   refine⟨C,b,_,z,u,D,by simp,C,b,_,ae,u,B,?_,?_⟩
   ·exact Mg (dg _ _ _) (by simp)
   ·rw[kX,wd]
    exact good l _ v.put m (by rw[ar j];exact y) ae
inductive ig(K:W.Frag)(vs:List V)(H:Hp)(Q:VK)(_E:XK):Prop
 |mk (a C dx:Addr) (n o1:Mx) (c t:Int) (_:vs=[.ref a,.str (tx n),.int c,.str (tx o1),.int t]) (_:H a=some (.ins C dx [])) (_:iE K C) (_:(aB K C "name"/\aB K C "cost"/\aB K C "part_names"/\aB K C "part"/\aB K C "turning")) (_:n.length<=100000) (_:o1.length<=100000) (_:(jT n [o1] c/\0<=t/\t<=7)) (_:∀(l:Addr) (H':Hp),aT a H H'->H l=none->H' l=some (.lst (av [o1]))->H' a=some (.ins C dx [("name",.str (tx n)),("cost",.int c),("part_names",.ref l),("part",.str (tx o1)),("turning",.int t)])->Q .non H')
theorem Dq{c t:Int}:cC "turning" (V.int t) (cC "part" (V.str (tx o1)) [(("name":Str),V.str (tx n)),(("cost":Str),V.int c),(("part_names":Str),V.ref l)])=[(("name":Str),V.str (tx n)),(("cost":Str),V.int c),(("part_names":Str),V.ref l),(("part":Str),V.str (tx o1)),(("turning":Str),V.int t)]:=by
 have j:¬ (("name":Str)="part"):=by decide +kernel
 have i:¬ (("cost":Str)="part"):=by decide +kernel
 have g:¬ (("part_names":Str)="part"):=by decide +kernel
 have e:¬ (("name":Str)="turning"):=by decide +kernel
 have d:¬ (("cost":Str)="turning"):=by decide +kernel
 have b:¬ (("part_names":Str)="turning"):=by decide +kernel
 have a:¬ (("part":Str)="turning"):=by decide +kernel
 simp only[cC,q06 j,q06 i,q06 g,q06 e,q06 d,q06 b,q06 a]
abbrev fU:Stmt:=i8 41 0
theorem sH:aC ["self","name","cost","part","turning"] ["self","name","cost","part","turning"] (ao fU):=by walk_at "c"
theorem sZ{f:Addr}(F:cZ K "__init__" "TurnRule.__init__" fU f fd)(nb:NB mg)
  (zfa:↑A1 3 "Rule" "__init__" ["self","name","cost","part_names"] (dr K)):↑aY 4 f fd ["self","name","cost","part","turning"] (ig K):=by
 have sc:=sH;walk_at "f"
 ·obtain⟨a,C,b,n,d,c,t,rfl,u,p,⟨G,D,B,z,y⟩,I,m,⟨ok,t0,t7⟩,good⟩:=h
  refine⟨_,(ad (a_ (nz zfa (hr.mono nofun) rfl aL (aa (al 0) (aa (al 1) (aa (al 2) (aa (ba (aa (al 3) ac)) ac))))))
   (ad (bM (PW.pt (vw (aK (bu.m0 zf) (al 4) aj (aZ _)) (oU (aK (bu.m0 k8) (al 4) aj (aZ _)))))
   (ai fb)
   aR)
   (ad (cy (al 0) (al 3) rfl)
   (ai (cy (al 0) (al 4) rfl))))),?_⟩
  ext;refine⟨am ⋯,λl j=>?_⟩;have m1:ax H (aD H l (.lst [V.str (tx d)])):=af j;have o:aD H l (.lst [V.str (tx d)]) l=some (.lst (av [d])):=ae;generalize aD H l (.lst [V.str (tx d)])=H1 at m1 o ⊢;have i:l≠a:=λe=>by rw[e,u]at j;cases j
  refine⟨a,C,b,l,n,c,[d],rfl,m1 _ _ u,p,G,D,B,o,by simp,λr hr=>?_,ok,λH2 g=>?_⟩
  ·have J:r=n\/r=d:=by simpa using hr
   rcases J with rfl | rfl
   ·exact I
   ·exact m
  ·have q:aT a H (aD H2 a a⁻¹):=(aT.of (m1.trans g)).put
   have x:aD H2 a a⁻¹ a=some a⁻¹:=ae;have v:aD H2 a a⁻¹ l=some (.lst (av [d])):=by rw[ar i];exact g _ _ o
   generalize aD H2 a a⁻¹=H3 at q x v ⊢
   try dsimp only
   rw[q06 ⋯,q06 ⋯];refine⟨C,b,_,x,p,z,by simp,C,b,_,ae,p,y,?_,?_⟩
   ·exact Mg (dg _ _ _) (by simp)
   ·rw[kX,Dq]
    exact good l _ q.put j (by rw[ar i];exact v) ae
abbrev fe:Stmt:=i8 37 1
inductive cI(K:W.Frag)(vs:List V)(H:Hp)(Q:VK)(_E:XK):Prop
 |mk (a C dx l:Addr) (fs:List (Str×V)) (ps:aE) (_:vs=[.ref a]) (_:H a=some (.ins C dx fs)) (_:iE K C) (_:aB K C "part_names") (_:fs.lookup ("part_names":Str)=some (V.ref l)) (_:H l=some (.lst (av ps))) (_:fM H ps Q)
theorem qr:aC ["self"] ["self"] (ao fe):=by walk_at "c"
theorem eF{f:Addr}(F:cZ K "parts" "Rule.parts" fe f fd)(nb:NB mg):↑aY 1 f fd ["self"] (cI K):=by
 have sc:=qr;walk_at "f"
 ·obtain⟨a,C,j,l,fs,ps,rfl,i,m,c,d,g,q⟩:=h
  refine⟨_,(ai (aG (b7 b_ rfl nb.list dR (aa (bJ (al 0) rfl) ac)))),?_⟩;ext;refine⟨C,j,fs,i,m,c,V.ref l,d,l,rfl,_,.inl (aI.of g),λe b=>q e _ b ae (af b)⟩
abbrev He(n:Mx)(c:Int)(l:Addr)(sg:Mx):List (Str×V):=[("name",.str (tx n)),("cost",.int c),("part_names",.ref l),("sign",.str (tx sg))]
abbrev Fd(n:Mx)(c:Int)(l:Addr)(o1 o2:Mx):List (Str×V):=[("name",.str (tx n)),("cost",.int c),("part_names",.ref l),("one",.str (tx o1)),("other",.str (tx o2))]
abbrev E8(n:Mx)(c:Int)(l:Addr)(o1:Mx)(t:Int):List (Str×V):=[("name",.str (tx n)),("cost",.int c),("part_names",.ref l),("part",.str (tx o1)),("turning",.int t)]
theorem jf(h:di r=true):1<=r.length/\r.length<=4:=by
 unfold di at h;rw[q0O,q0O,q0a,q0a]at h;exact h.1
theorem qR(h:lC r=true):r.length=1:=by
 unfold lC at h;rw[q0O,q0a]at h;exact h.1
theorem ak{a b:TS}{D:fB}{σ:St}(h:∀N:St->Hp->Prop,(∀σ2 H2,b D σ2 H2->N σ2 H2)->a {D with nx:=N} σ H):vZ a b D σ H:=h (b D) λ_ _ z=>z
abbrev ma:Stmt:=eY 68
inductive nW(vs:List V)(H:Hp)(Q:VK)(_E:XK):Prop
 |mk (i:Int) (_:vs=[.int i]) (_:Q (.bl true) H)
theorem xT:aC ["_law_x"] ["_law_x"] (ao ma):=by walk_at "c"
theorem yd{f:Addr}(F:cZ K "_law_whole" "_law_whole" ma f fd)(nb:NB mg):↑aY 1 f fd ["_law_x"] nW:=by
 have sc:=xT;walk_at "f"
 ·obtain⟨i,rfl,q⟩:=h
  refine⟨_,(ai (aG (uH (aF dB rfl nb.isinstance dz (aa (al 0) (aa (zm (v:=.ty "int") rfl nb.int yx rfl) ac))) (wQ (Gn (aF dB rfl nb.isinstance dz (aa (al 0) (aa (zm (v:=.ty "bool") rfl nb.bool EU rfl) ac)))))))),?_⟩;ext;refine⟨_,jw.int i,_,BA K _,?_⟩;ext;refine⟨_,jw.int i,_,sQ K,?_⟩;exact q
structure RV where
 n:List Nat
 c:Int
 o1:List Nat
 o2:List Nat
 sg:List Nat
 t:Int
abbrev Yaa:=List (Nat×RV)
structure RC where
 rr:Addr
 cc:Addr
 cb:Addr
 ca:Addr
 ct:Addr
def RC.at(R:RC)(k:Nat):Addr:=match k with | 0=>R.cc | 1=>R.cb | 2=>R.ca | _=>R.ct
def v9(k:Nat)(l:Addr)(v:RV):List (Str×V):=match k with | 0=>He v.n v.c l v.sg | 1=>Fd v.n v.c l v.o1 v.o2 | 2=>Fd v.n v.c l v.o1 v.o2 | _=>E8 v.n v.c l v.o1 v.t
def cw(k:Nat)(v:RV):aE:=match k with | 0=>[] | 1=>[v.o1,v.o2] | 2=>[v.o1,v.o2] | _=>[v.o1]
def KS(k:Nat)(v:RV):Prop:=match k with | 0=>jT v.n [] v.c/\lC v.sg=true | 1=>jT v.n [v.o1,v.o2] v.c | 2=>jT v.n [v.o1,v.o2] v.c | _=>jT v.n [v.o1] v.c/\0<=v.t/\v.t<=7
structure RV.small(v:RV):Prop where
 n:v.n.length<=1000
 o1:v.o1.length<=1000
 o2:v.o2.length<=1000
 sg:v.sg.length<=1000
structure RV.good(v:RV):Prop where
 n:di v.n=true
 c1:1<=v.c
 c9:v.c<=9
 o1:di v.o1=true
 o2:di v.o2=true
 sg:lC v.sg=true
 t0:0<=v.t
 t7:v.t<=7
theorem RV.good.small{v:RV}(g:v.good):v.small:=⟨by have:=jf g.n;omega,by have:=jf g.o1;omega,by have:=jf g.o2;omega,by have:=qR g.sg;omega⟩
theorem RV.good.ok{v:RV}(g:v.good):∀k,KS k v
 |0=>⟨⟨λr hr=>by rw[show r=v.n by simpa using hr];exact g.n,g.c1,g.c9⟩,g.sg⟩
 |1=>⟨λr hr=>by rcases(show r=v.n\/r=v.o1\/r=v.o2 by simpa using hr) with rfl | rfl | rfl<;>first | exact g.n | exact g.o1 | exact g.o2,g.c1,g.c9⟩
 |2=>⟨λr hr=>by rcases(show r=v.n\/r=v.o1\/r=v.o2 by simpa using hr) with rfl | rfl | rfl<;>first | exact g.n | exact g.o1 | exact g.o2,g.c1,g.c9⟩
 |_+3=>⟨⟨λr hr=>by rcases(show r=v.n\/r=v.o1 by simpa using hr) with rfl | rfl<;>first | exact g.n | exact g.o1,g.c1,g.c9⟩,g.t0,g.t7⟩
def gv(R:RC)(H:Hp)(k:Nat)(a:Addr)(v:RV):Prop:=∃dx l,H a=some (.ins (R.at k) dx (v9 k l v))/\H l=some (.lst (av (cw k v)))
theorem gv.up{k:Nat}(r:gv R H k a v)(s:ax H H'):gv R H' k a v:=by
 obtain⟨b,l,h1,h2⟩:=r;exact⟨b,l,s _ _ h1,s _ _ h2⟩
structure lF(K:W.Frag)(R:RC):Prop where
 i0:jB K R.cc
 i1:jB K R.cb
 i2:jB K R.ca
 i3:jB K R.ct
 a0:aB K R.cc "name"/\aB K R.cc "cost"/\aB K R.cc "part_names"/\aB K R.cc "sign"
 a1:aB K R.cb "name"/\aB K R.cb "cost"/\aB K R.cb "part_names"/\aB K R.cb "one"/\aB K R.cb "other"
 a2:aB K R.ca "name"/\aB K R.ca "cost"/\aB K R.ca "part_names"/\aB K R.ca "one"/\aB K R.ca "other"
 a3:aB K R.ct "name"/\aB K R.ct "cost"/\aB K R.ct "part_names"/\aB K R.ct "part"/\aB K R.ct "turning"
 r0:W.kitOne K (.ref R.cc) (.ref R.rr)=some true
 r1:W.kitOne K (.ref R.cb) (.ref R.rr)=some true
 r2:W.kitOne K (.ref R.ca) (.ref R.rr)=some true
 r3:W.kitOne K (.ref R.ct) (.ref R.rr)=some true
 s0:W.kitOne K (.ref R.cc) (.ref R.cc)=some true
 s1:W.kitOne K (.ref R.cb) (.ref R.cb)=some true
 s2:W.kitOne K (.ref R.ca) (.ref R.ca)=some true
 s3:W.kitOne K (.ref R.ct) (.ref R.ct)=some true
theorem lF.icls(rk:lF K R):∀k,jB K (R.at k)
 |0=>rk.i0
 |1=>rk.i1
 |2=>rk.i2
 |_+3=>rk.i3
theorem lF.name(rk:lF K R):∀k,aB K (R.at k) "name"/\aB K (R.at k) "cost"/\aB K (R.at k) "part_names"
 |0=>⟨rk.a0.1,rk.a0.2.1,rk.a0.2.2.1⟩
 |1=>⟨rk.a1.1,rk.a1.2.1,rk.a1.2.2.1⟩
 |2=>⟨rk.a2.1,rk.a2.2.1,rk.a2.2.2.1⟩
 |_+3=>⟨rk.a3.1,rk.a3.2.1,rk.a3.2.2.1⟩
theorem ji(l:Addr)(v:RV):∀k,(v9 k l v).lookup ("name":Str)=some (V.str (tx v.n))/\(v9 k l v).lookup ("cost":Str)=some (V.int v.c)/\(v9 k l v).lookup ("part_names":Str)=some (V.ref l)/\(v9 k l v).lookup ("parts":Str)=none/\(v9 k l v).lookup ("told":Str)=none
 |0=>⟨rfl,rfl,rfl,rfl,rfl⟩
 |1=>⟨rfl,rfl,rfl,rfl,rfl⟩
 |2=>⟨rfl,rfl,rfl,rfl,rfl⟩
 |_+3=>⟨rfl,rfl,rfl,rfl,rfl⟩
theorem ja{H1 H2:Hp}(hx:H1 x=none)(hd:H1 dx=none)(s:aT x (aD (aD H1 dx o) x o') H2):ax H1 H2:=
 λb u e=>s b u (aA e hx) (by rw[ar (aA e hx),ar (aA e hd)];exact e)
theorem E5{CX:iR}{k:Nat}(h0:∃ps,ij P w K mg base CX k C0 m ps s0)(h1:∃ps,ij P w K mg base CX k C1 m ps s1)(h2:∃ps,ij P w K mg base CX k C2 m ps s2)(h3:∃ps,ij P w K mg base CX k C3 m ps s3) :
  xK P w K mg base CX k m [(C0,s0),(C1,s1),(C2,s2),(C3,s3)]:=⟨λo ho=>by
 simp only[LR,List.not_mem_nil,or_false]at ho;rcases ho with rfl | rfl | rfl | rfl
 ·exact h0
 ·exact h1
 ·exact h2
 ·exact h3⟩
def n9(K:W.Frag)(R:RC):List (Addr×Sp):=[(R.cc,cI K),(R.cb,cI K),(R.ca,cI K),(R.ct,cI K)]
theorem zy{R:RC}{k a}{v:RV}{Q:VK}{E:XK}(rk:lF K R)(r:gv R H k a v)(q:fM H (cw k v) Q) :
  ∃o∈n9 K R,∃dx fs,H a=some (.ins o.1 dx fs)/\fs.lookup ("parts":Str)=none/\o.2 [.ref a] H Q E:=by
 obtain⟨dx,l,h1,h2⟩:=r;have b:cI K [.ref a] H Q E:=⟨a,R.at k,dx,l,_,_,rfl,h1,(rk.icls k).cl,(rk.name k).2.2,(ji l v k).2.2.1,h2,q⟩;have mem:(R.at k,cI K)∈n9 K R:=by
  unfold n9
  match k with
  |0=>simp[RC.at]
  |1=>simp[RC.at]
  |2=>simp[RC.at]
  |_+3=>simp[RC.at]
 exact⟨_,mem,dx,_,h1,(ji l v k).2.2.2.1,b⟩
abbrev iZ:Stmt:=eY 48
abbrev iW:Str:="abcdefghijklmnopqrstuvwxyz"
def c8(r:Mx):Bool:=decide (1<=r.length)&&decide (r.length<=4)&&gx r iW&&decide ((met (cL (tx r))).length=r.length)
inductive kD(vs:List V)(H:Hp)(Q:VK)(_E:XK):Prop
 |mk (r:Mx) (_:vs=[.str (tx r)]) (_:r.length<=1000) (_:∀H',ax H H'->Q (.bl (c8 r)) H')
theorem uo:aC ["text"] ["text"] (ao iZ):=by walk_at "c"
theorem sM{f:Addr}{t1 t2:Tok}(F:cZ K "are_signs" "are_signs" iZ f fd)(nb:NB mg)(ya0:mg "MOST_SIGNS"=some (.int 4 t1))(yan:mg "SMALLS"=some (.str "abcdefghijklmnopqrstuvwxyz" t2))(yaf:↑dk 1 "only_of" ["text","letters"] g8):↑aY 2 f fd ["text"] kD:=by
 have sc:=uo;walk_at "f"
 ·obtain⟨r,rfl,hr',q⟩:=h
  refine⟨_,(ai (aG (uH (vS (bu.m0 iw) (bu.m0 iw) aj (aF aV rfl nb.len bi (aa (al 0) ac)) (cM (v:=.int 4) rfl ya0 ⟨_,rfl⟩)) (uH (aH yaf (hr.mono nofun) rfl aL (aa (al 0) (aa (cM (v:=.str "abcdefghijklmnopqrstuvwxyz") rfl yan ⟨_,rfl⟩) ac))) (wQ (jd dN (AE rfl (al 0) rfl nb.len rfl nb.set) (aF aV rfl nb.len bi (aa (al 0) ac)) (aZ _))))))),?_⟩;ext;refine⟨by rw[aw];exact am ⋯,?_⟩;rw[aw];unfold c8 at q
  by_cases h1:1<=r.length
  ·rw[q07 ⋯]
   by_cases h2:r.length<=4
   ·rw[q07 ⋯]
    refine⟨r,_,rfl,⋯,λc b=>⟨_,rfl,?_⟩⟩;have z:=q c b;rw[q09 h1,q09 h2]at z;cases a:gx r iW with
    |false=>
     rw[a]at z;rw[q06 (by simp)];exact z
    |true=>
     rw[a]at z;rw[q07 rfl];refine⟨by rw[Iz];unfold scanBound;omega,by exact am ⋯,?_⟩;have e:decide (((met (cL (tx r))).length:Int)=(r.length:Int))=decide ((met (cL (tx r))).length=r.length):=by
      apply decide_eq_decide.mpr
      constructor<;>intro h<;>omega
     rw[e];exact z
   ·rw[q06 ⋯]
    have z:=q H (λ_ _ e=>e);rw[q09 h1,q08 h2]at z;exact z
  ·rw[q06 ⋯]
   have z:=q H (λ_ _ e=>e);rw[q08 h1]at z;exact z
theorem Cs{α:Type}{l:List α}{i:Nat}{x:α}(h:l[i]?=some x):l.drop i=x::l.drop (i+1):=by
 obtain⟨a,e⟩:=LA.mp h;rw[q0T a,e]
structure BP(K:W.Frag)(R:RC):Prop where
 kit:∀i j,i<4->j<4->W.kitOne K (.ref (R.at i)) (.ref (R.at j))=some (decide (i=j))
abbrev GX(z x:Str):Bool:=!(Builtin.Str.occurrences z x 0 z.length 1).isEmpty
def fR(sg:Str):Yaa->Nat->Option Nat
 | [],_=>none
 |r::rs,j=>if r.1=0/\GX sg (tx r.2.sg)=false then some j else fR sg rs (j+1)
def il(sg st:Mx)(rs:Yaa):Option (Str×List Int):=
 if c8 sg=false then some ("signs",[]) else if di st=false then some ("start",[]) else if 24<rs.length then some ("rules",[(rs.length:Int)]) else
  match fR (tx sg) rs 0 with
  |some k=>some ("sign",[(k:Int)])
  |none=>none
abbrev eS:Stmt:=eY 47
def bR(R:RC)(H:Hp)(as:MA)(rs:Yaa):Prop:=as.length=rs.length/\∀(i:Nat) a r,as[i]?=some a->rs[i]?=some r->gv R H r.1 a r.2
theorem bR.up(h:bR R H as rs)(s:ax H H'):bR R H' as rs:=⟨h.1,λi a r e1 e2=>(h.2 i a r e1 e2).up s⟩
inductive gE(R:RC)(vs:List V)(H:Hp)(Q:VK)(_E:XK):Prop
 |mk (sg st:Mx) (a:Addr) (as:MA) (rs:Yaa) (_:vs=[.str (tx sg),.str (tx st),.ref a]) (_:sg.length<=1000) (_:st.length<=1000) (_:H a=some (.lst (as.map V.ref))) (_:bR R H as rs) (_:(∀r∈rs,r.1<4)) (_:rs.length<=100) (_:il sg st rs=none) (_:∀H',ax H H'->Q .non H')
theorem mh:aC ["signs","start","rules","k","rule"] ["signs","start","rules"] (ao eS):=by walk_at "c"
theorem lV{f:Addr}{t1:Tok}(F:cZ K "check_made_of" "check_made_of" eS f fd)(nb:NB mg)(rk:lF K R)(rk4:BP K R)(yaR:mg "MOST_RULES"=some (.int 24 t1))(zTa:mg "CellRule"=some (.ref R.cc))
  (yaJ:↑dk 2 "are_signs" ["text"] kD) (yal:↑dk 2 "is_name" ["text"] jV):↑aY 3 f fd ["signs","start","rules"] (gE R):=by
 have sc:=mh;walk_at "f"
 ·obtain⟨sg,J,a,M,g,rfl,Y,hst,ha,B,a1,hn,c,good⟩:=h
  refine⟨_,(ad (bM (i7 (eU (aH yaJ (hr.mono nofun) rfl aL (aa (al 0) ac)) λ_=>rfl))
   (ai fb)
   aR)
   (ad (bM (i7 (eU (aH yal (hr.mono nofun) rfl aL (aa (al 1) ac)) λ_=>rfl))
   (ai fb)
   aR)
   (ad (bM (aK (bu.m0 k8) (aF bf rfl nb.len bi (aa (al 2) ac)) (cM (v:=.int 24) rfl yaR ⟨_,rfl⟩) (aZ _))
   (ai fb)
   aR)
   (ai (aQ PassesOwn.never rfl (nR rfl nb.enumerate (aa (al 2) ac)) (fX (n:=2) rfl (aW (q02 3 sc.nd) (aW (q02 4 sc.nd) cW)))
   (ai (bM (PW.pt (ge (eU (aF dB rfl nb.isinstance dz (aa (al 4) (aa (cM (v:=.ref _) rfl zTa rfl) ac))) λ_=>rfl) (fT (aK tG (bJ (al 4) rfl) (al 0) (by with_unfolding_all rfl)))))
   (ai fb)
   aR))))))),?_⟩
  symm;refine⟨sg,rfl,Y,λH1 U=>⟨_,rfl,?_⟩⟩;unfold il at c;have e1:c8 sg=true:=by
   cases e:c8 sg with
   |true=>rfl
   |false=>rw[q07 e]at c;cases c
  rw[q06 (by rw[e1];decide)]at c ⊢;refine h1 _ _ ?_;clear h1;ac_nf;refine⟨J,rfl,⋯,λH2 S=>⟨_,rfl,?_⟩⟩;have m:=U.trans S;have e2:di J=true:=by
   cases e:di J with
   |true=>rfl
   |false=>rw[q07 e]at c;cases c
  rw[q06 (by rw[e2];decide)]at c ⊢;refine h2 _ _ ?_;clear h2;have I:=m _ _ ha;have G:(M.map V.ref).length=g.length:=by rw[LC];exact B.1
  refine ak λN3 h3=>?_;ext;refine⟨_,aI.of I,?_⟩;rw[G];have a2:¬ 24<g.length:=λh=>by rw[q07 h]at c;cases c
  rw[q06 ⋯];rw[q06 a2]at c;refine h3 _ _ ?_;clear h3;ext;refine⟨_,aI.of I,?_⟩;refine rO (xs:=M.map V.ref) (λi σ O=>ax H O/\fR (tx sg) (g.drop i) i=fR (tx sg) g 0/\∃x y,σ=[some (.str (tx sg)),some (.str (tx J)),some (.ref a),x,y]) ⟨m,rfl,_,_,rfl⟩ ?_ ?_ ?_
  ·rintro i σ O _ ⟨u,_⟩
   exact aI.of (u _ _ ha)
  ·rintro i x σ H3 T q ⟨u,hb,x1,y1,rfl⟩ hT
   have D:i<g.length:=by have:=(LA.mp q).1;rw[G]at this;exact this
   obtain⟨d,Z,rfl⟩:∃d,M[i]?=some d/\V.ref d=x:=by
    rw[LF]at q;cases e:M[i]? with
    |none=>rw[e]at q;cases q
    |some d=>rw[e]at q;exact⟨d,rfl,q0S q⟩
   have p:g[i]?=some g[i]:=Lz D;have C:=a1 _ (LK D);generalize g[i]=r at p C;rw[Cs p]at hb;have j:ax H (aD H3 T (.tup [V.int (i:Int),V.ref d])):=u.trans (af hT);have eT:aD H3 T (.tup [V.int (i:Int),V.ref d]) T=some (.tup [V.int (i:Int),V.ref d]):=ae;generalize aD H3 T (.tup [V.int (i:Int),V.ref d])=H4 at j eT ⊢;have rr:=(B.2 i d r Z p).up j;obtain⟨dx,pl,o,_⟩:=id rr;ext;refine⟨_,cK.of eT,rfl,_,_,rfl,_,_,rfl,rfl,?_⟩;refine⟨_,(rk.icls r.1).ty o,_,rk4.kit r.1 0 C nofun,?_⟩;have b:(if r.1=0/\GX (tx sg) (tx r.2.sg)=false then some i else fR (tx sg) (g.drop (i+1)) (i+1))=fR (tx sg) g 0:=hb
   by_cases L:r.1=0
   ·rw[q07 (by simp[L])]
    obtain⟨r0,v⟩:=r;have a3:r0=0:=L;subst a3;refine⟨d,rfl,_,_,_,o,rk.i0.cl,rk.a0.2.2.2,_,rfl,_,rfl,?_⟩;have l:GX (tx sg) (tx v.sg)=true:=by
     cases l:GX (tx sg) (tx v.sg) with
     |true=>rfl
     |false=>
      rw[q07 ⟨rfl,l⟩]at b;rw[<- b]at c;cases c
    rw[q06 (by rw[show(!(Builtin.Str.occurrences (tx sg) (tx v.sg) 0 (tx sg).length 1).isEmpty)=true from l];decide)];rw[q06 (λz=>by rw[l]at z;exact q0Q z.2 nofun)]at b;exact⟨j,b⟩
   ·rw[q06 (by simp[L])]
    rw[q06 (λz=>L z.1)]at b;exact⟨j,b⟩
  ·rintro σ O ⟨u,hb,x,y,rfl⟩
   ext;exact good O u
def io(m:List (Str×List Nat))(z:Str)(i:Nat):List (Str×List Nat):=m.map λq=>if q.1=z then(q.1,q.2++[i]) else q
structure sF(H0:Hp)(p:Addr)(t:NT)(H:Hp):Prop where
 same:ax H0 H
 at_:dh H p t
 fresh:∀x∈t,H0 x.2.1=none
 nodup:((iG t).map (·.1)).Nodup
theorem o8(t:NT):(iG t).length=t.length:=by unfold iG;rw[LC]
theorem qc(m:List (Str×List Nat))(z:Str):(b9 m z).length<=m.length+1:=by
 unfold b9;split
 ·omega
 ·rw[LZ];simp
theorem h_(m:List (Str×List Nat))(z:Str)(i:Nat):(io m z i).map (·.1)=m.map (·.1):=by
 unfold io;rw[LQ]
 apply q0K;intro q _;simp only[Function.comp]
 split<;>rfl
theorem A0{m:List (Str×List Nat)}{j i:Nat}{q:Str×List Nat}(nd:(m.map (·.1)).Nodup)(hj:m[j]?=some q):m.set j (q.1,q.2++[i])=io m q.1 i:=by
 unfold io;apply List.ext_getElem?;intro k;rw[LF,List.getElem?_set];have b:j<m.length:=(LA.mp hj).1
 by_cases e:j=k
 ·subst e
  rw[q07 rfl,q07 b,hj];simp
 ·rw[q06 e]
  cases c:m[k]? with
  |none=>rfl
  |some y=>
   have a:y.1≠q.1:=by
    intro h;have h1:(m.map (·.1))[j]?=some q.1:=by rw[LF,hj];rfl
    have h2:(m.map (·.1))[k]?=some q.1:=by rw[LF,c];simp[h]
    exact e ((List.getElem?_inj (LA.mp h1).1 nd).mp (h1.trans h2.symm))
   simp[a]
theorem sF.free{H0:Hp}{t:NT}(N:sF H0 p t H){l:Addr}(h:H l=none):H0 l=none:=N.same.free h
theorem mS{te:TE}{σ:St}{H0 H:Hp}{t:NT}{i:Nat}{Q:VK}(hp:H0 p=none)(hv:σ[i]?=some (some (.ref p)))(hte:∀R:VK,R (.str z) H->te σ H R)(N:sF H0 p t H)(hn:t.length<sizeLine)
  (h:∀(H':Hp) (t':NT) (j:Nat) (x:Str×Addr×List Nat),sF H0 p t' H'->t'[j]?=some x->x.1=z->iG t'=b9 (iG t) z->t'.length<=t.length+1->(∀a o,a≠p->H a=some o->H' a=some o)->Q (.ref x.2.1) H'):vX (zR i) te (BT nv) σ H Q:=by
 refine⟨.ref p,hv,p,rfl,.inl ⟨_,.inl N.at_.dict⟩,hte _ ⟨L3 _,λl m=>?_⟩⟩;have g:=N.free m;refine N.at_.setdef m hn λH' t' j x w v u d r n=>h H' t' j x ⟨λb o e=>n b o (λq=>by rw[q,hp]at e;exact nomatch e) (N.same b o e),w,λy c=>?_,?_⟩ v u d ?_ n
 ·rcases r y c with q | q
  ·exact N.fresh y q
  ·rw[q];exact g
 ·rw[d];exact kl N.nodup
 ·have:=qc (iG t) z
  rw[<- d,o8,o8]at this;exact this
theorem sF.put{H0:Hp}{t:NT}{j k:Nat}{x:Str×Addr×List Nat}(N:sF H0 p t H)(hj:t[j]?=some x) :
  sF H0 p (t.set j (x.1,x.2.1,x.2.2++[k])) (aD H x.2.1 (.lst (wz (x.2.2++[k]))))/\iG (t.set j (x.1,x.2.1,x.2.2++[k]))=io (iG t) x.1 k:=by
 have a:=LG hj;have e:iG (t.set j (x.1,x.2.1,x.2.2++[k]))=io (iG t) x.1 k:=by
  rw[DZ];exact A0 (q:=(x.1,x.2.2)) N.nodup (by unfold iG;rw[LF,hj];rfl)
 refine⟨⟨cn N.same (N.fresh x a),N.at_.put hj,λy b=>?_,?_⟩,e⟩
 ·rcases List.mem_or_eq_of_mem_set b with q | q
  ·exact N.fresh y q
  ·rw[q];exact N.fresh x a
 ·rw[e,h_];exact N.nodup
abbrev dX:Stmt:=eY 49
theorem jU:aC ["start","rules","numbers","k","rule","part"] ["start","rules"] (ao dX):=by walk_at "c"
def eC(m:List (Str×List Nat))(i:Nat)(r:Nat×RV):List (Str×List Nat):=((cw r.1 r.2).map tx).foldl b9 (io (b9 m (tx r.2.n)) (tx r.2.n) i)
def fF:Nat->Yaa->List (Str×List Nat)->List (Str×List Nat)
 |_,[],m=>m
 |i,r::rs,m=>fF (i+1) rs (eC m i r)
theorem jW{m:List (Str×List Nat)}{z:Str}{n:Nat}(h:∀q∈m,q.2.length<=n):∀q∈b9 m z,q.2.length<=n:=by
 unfold b9;split
 ·exact h
 ·intro q a
  rcases LP.mp a with z1 | z1
  ·exact h q z1
  ·rw[LD.mp z1];exact L3 _
theorem mI:∀{zs:MF} {m:List (Str×List Nat)} {n:Nat},(∀q∈m,q.2.length<=n)->∀q∈zs.foldl b9 m,q.2.length<=n
 | [],_,_,h=>h
 |z::zs,_,_,h=>mI (zs:=zs) (jW h)
theorem vR{m:List (Str×List Nat)}{i n:Nat}{r:Nat×RV}(h:∀q∈m,q.2.length<=n):∀q∈eC m i r,q.2.length<=n+1:=by
 unfold eC;refine mI λq b=>?_;unfold io at b;obtain⟨c,a,rfl⟩:=Mi.mp b;have:=jW h c a
 split
 ·rw[LZ];simp;exact this
 ·omega
theorem n0:∀{rs:Yaa} {i n:Nat} {m:List (Str×List Nat)},(∀q∈m,q.2.length<=n)->∀q∈fF i rs m,q.2.length<=n+rs.length
 | [],_,_,_,h=>h
 |r::rs,i,n,m,h=>λq hq=>by
  have:=n0 (rs:=rs) (i:=i+1) (vR (i:=i) (r:=r) h) q hq;rw[LN];omega
theorem fV:∀{rs:Yaa} {i:Nat} {m:List (Str×List Nat)} {r:Nat×RV},fF i (rs++[r]) m=eC (fF i rs m) (i+rs.length) r
 | [],i,m,r=>rfl
 |r0::rs,i,m,r=>by
  show fF (i+1) (rs++[r]) (eC m i r0)=eC (fF (i+1) rs (eC m i r0)) (i+(rs.length+1)) r;rw[fV,show i+1+rs.length=i+(rs.length+1) by omega]
theorem xU(k:Nat)(v:RV):(cw k v).length<=2:=by
 match k with
 |0=>simp[cw]
 |1=>simp[cw]
 |2=>simp[cw]
 |_+3=>simp[cw]
def bj(z:Str)(rs:Yaa):List (Str×List Nat):=fF 0 rs [(z,[])]
inductive fC(K:W.Frag)(R:RC)(vs:List V)(H:Hp)(Q:VK)(_E:XK):Prop
 |mk (z:Str) (a:Addr) (as:MA) (rs:Yaa) (_:vs=[.str z,.ref a]) (_:H a=some (.lst (as.map V.ref))) (_:bR R H as rs) (_:rs.length<=100) (_:∀p H' t,H p=none->dh H' p t->iG t=bj z rs->(∀x∈t,H x.2.1=none)->ax H H'->Q (.ref p) H')
theorem kc{f:Addr}(F:cZ K "numbers_by_name" "numbers_by_name" dX f fd)(nb:NB mg)(rk:lF K R)(yaY:↑xK 1 "parts" (n9 K R)):↑aY 2 f fd ["start","rules"] (fC K R):=by
 have sc:=jU;walk_at "f"
 ·obtain⟨z,a,as,rs,rfl,ha,U,hn,q⟩:=h
  refine⟨_,(ad (q01 2 sc.nd (Eb (Dd (pv 0) (ba ac) DU) rfl rfl (by simp) nofun))
   (ad (aQ PassesOwn.never rfl (nR rfl nb.enumerate (aa (pv 1) ac)) (ye (n:=2) rfl (aW (q02 3 sc.nd) (aW (q02 4 sc.nd) cW)))
   (ad (a_ (q03 (ph (pv 2) (yi (pv 4) rfl) (ba ac) ⟨rfl,rfl,rfl,rfl⟩) (aa (pv 3) ac)))
   (ai (aQ PassesOwn.never rfl (sY (Dr yaY (hr.mono nofun) aL (pv 4))) (q02 5 sc.nd)
   (ai (a_ (ph (pv 2) (pv 5) (ba ac) ⟨rfl,rfl,rfl,rfl⟩)))))))
   (ai (aG (pv 2))))),?_⟩
  ext;intro p hp;refine⟨L3 _,λl hl=>?_⟩;have g:l≠p:=λe=>by rw[e,ae]at hl;exact nomatch hl
  have a0:H l=none:=by rw[ar g]at hl;exact hl
  have a7:a≠p:=λe=>by rw[e,hp]at ha;exact nomatch ha
  have b3:a≠l:=λe=>by rw[e,a0]at ha;exact nomatch ha
  refine⟨by rw[ar (Ne.symm g),ae],[(.inr z,.ref l)],rfl,by simp,as.map V.ref,aI.of (by rw[ar a7,ar b3,ar a7];exact ha),?_⟩;refine rO (xs:=as.map V.ref) (λi σ B=>ax H B/\∃t,dh B p t/\(∀x∈t,H x.2.1=none)/\((iG t).map (·.1)).Nodup/\iG t=fF 0 (rs.take i) [(z,[])]/\t.length<=1+3*i/\∃x y u,σ=[some (.str z),some (.ref a),some (.ref p),x,y,u]) ?_ ?_ ?_ ?_
  ·refine⟨λb o e=>?_,[(z,l,[])],⟨by rw[ae];rfl,λx c=>?_,by simp⟩,λx c=>?_,by simp[iG],rfl,by simp,_,_,_,rfl⟩
   ·have h1:b≠p:=λq=>by rw[q,hp]at e;exact nomatch e
    have h2:b≠l:=λq=>by rw[q,a0]at e;exact nomatch e
    rw[ar h1,ar h2,ar h1];exact e
   ·rw[LD.mp c,ar g,ae];rfl
   ·rw[LD.mp c];exact a0
  ·rintro i σ B _ ⟨sm,_⟩
   exact aI.of (sm _ _ ha)
  ·rintro i x σ H1 T c ⟨sm,t,N,fr,nd,em,hlen,x1,y1,u1,rfl⟩ hT
   have a3:i<rs.length:=by have:=(LA.mp c).1;rw[LC,U.1]at this;exact this
   obtain⟨d,b0,rfl⟩:∃d,as[i]?=some d/\V.ref d=x:=by
    rw[LF]at c;cases e:as[i]? with
    |none=>rw[e]at c;cases c
    |some d=>rw[e]at c;exact⟨d,rfl,q0S c⟩
   have Y:rs[i]?=some rs[i]:=Lz a3;generalize rs[i]=r at Y;have rr:=U.2 i d r b0 Y;have M:ax H (aD H1 T (.tup [V.int (i:Int),V.ref d])):=sm.trans (af hT);have gT:∀b o,H1 b=some o->aD H1 T (.tup [V.int (i:Int),V.ref d]) b=some o:=af hT;have eT:cK K (aD H1 T (.tup [V.int (i:Int),V.ref d])) T [V.int (i:Int),V.ref d]:=cK.of ae;have N2:=N.grow gT;generalize aD H1 T (.tup [V.int (i:Int),V.ref d])=H2 at M gT eT N2 ⊢;clear gT N hT sm H1;simp only[w8,yP,iY,EQ];refine⟨_,_,rfl,eT,rfl,_,_,rfl,_,_,rfl,rfl,?_⟩;refine ak λN1 h1=>?_;have a2:=rr.up M;have NI:sF H p t H2:=⟨M,N2,fr,nd⟩;have hz:sizeLine>1000:=aU nofun;obtain⟨dx,pl,J,_⟩:=id a2;ext;refine mS (z:=tx r.2.n) hp rfl (λS hS=>⟨_,rfl,d,_,dx,_,_,rfl,J,(rk.icls r.1).cl,(rk.name r.1).1,(ji pl r.2 r.1).1,hS⟩) NI ⋯ λH3 t3 j x N3 hj c hm a5 hk=>?_;have O:=N3.at_.list x (LG hj);refine⟨.inl ⟨rfl,_,aI.of O⟩,_,rfl,_,O,?_,h1 _ _ ?_⟩
   ·have h2:(x.1,x.2.2)∈b9 (iG t) (tx r.2.n):=by rw[<- hm];exact Mi.mpr ⟨x,LG hj,rfl⟩
    have h3:=jW (n0 (rs:=rs.take i) (i:=0) (n:=0) (m:=[(z,[])]) (λq hq=>by rw[LD.mp hq];exact L3 _)) (z:=tx r.2.n) (x.1,x.2.2) (by rw[<- em];exact h2);rw[Me]at h3;unfold wz;rw[LC];have h4:x.2.2.length<=100:=by simp at h3;omega
    omega
   clear h1;obtain⟨I,C⟩:=N3.put (k:=i) hj;have a4:(t3.set j (x.1,x.2.1,x.2.2++[i])).length<=t.length+1:=by rw[List.length_set];exact a5
   have C:iG (t3.set j (x.1,x.2.1,x.2.2++[i]))=io (b9 (iG t) (tx r.2.n)) (tx r.2.n) i:=by rw[C,hm,c]
   have eI:wz (x.2.2++[i])=wz x.2.2++[V.int (i:Int)]:=by unfold wz;rw[LO];rfl
   rw[eI]at I;generalize t3.set j (x.1,x.2.1,x.2.2++[i])=t4 at I C a4;generalize aD H3 x.2.1 (.lst (wz x.2.2++[V.int (i:Int)]))=H4 at I ⊢;clear hk O hj N3 hm a5 c NI N2 J a2;have a9:=rr.up I.same;have hpk:=xU r.1 r.2;ext;refine zy rk a9 λlp H5 g a8 a1=>⟨lp,rfl,⟨_,aI.of a8⟩,?_⟩;have b1:lp≠p:=λe=>by rw[e,I.at_.dict]at g;exact nomatch g
   refine bB (xs:=av (cw r.1 r.2)) (λn σ B=>n<=(cw r.1 r.2).length/\∃L,sF H p L B/\iG L=(((cw r.1 r.2).take n).map tx).foldl b9 (io (b9 (iG t) (tx r.2.n)) (tx r.2.n) i)/\L.length<=t.length+1+n/\B lp=some (.lst (av (cw r.1 r.2)))/\∃u,σ=[some (.str z),some (.ref a),some (.ref p),some (.int (i:Int)),some (.ref d),u])
    ⟨L3 _,t4,⟨I.same.trans a1,I.at_.grow a1,I.fresh,I.nodup⟩,C,a4,a8,_,rfl⟩ ?_ ?_ ?_
   ·rintro n σ B _ ⟨_,L,_,_,_,G,_⟩
    exact aI.of G
   ·rintro n v σ B hv ⟨hn1,L,N',D,a6,G,u,rfl⟩
    have Z:n<(cw r.1 r.2).length:=by have:=(LA.mp hv).1;rwa [aq]at this
    rw[bC Z]at hv;cases hv;ext;refine mS (z:=tx (cw r.1 r.2)[n]) hp rfl (λS hS=>⟨_,rfl,hS⟩) N' ⋯ λH6 t6 j x N6 hj c b2 hl6 hk=>?_;refine⟨Z,t6,N6,?_,⋯,hk _ _ b1 G⟩;rw[b2,D,q0E,Lz Z,LO,List.foldl_append]
    rfl
   ·rintro σ B ⟨_,L,N',D,a6,G,u,rfl⟩
    rw[aq,Md]at D;refine⟨N'.same,L,N'.at_,N'.fresh,N'.nodup,?_,?_,_,_,_,rfl⟩
    ·rw[D,q0E,Y,em]
     show _=fF 0 (rs.take i++[r]) _;rw[fV,Me,Ms (q0P a3),Nat.zero_add]
     rfl
    ·rw[aq]at a6;omega
  ·rintro σ B ⟨sm,t,N,fr,_,em,_,x,y,u,rfl⟩
   ext;refine q p B t hp N ?_ fr sm;rw[em,LC,U.1,Md];rfl
def oZ(sg st:Mx)(rs:Yaa):Option (Str×List Int):=
 match il sg st rs with
 |some y=>some y
 |none=>if 8<(bj (tx st) rs).length then some ("names",[((bj (tx st) rs).length:Int)]) else none
def gt(sg st:Mx)(lk pn:Addr):List (Str×V):=[("signs",.str (tx sg)),("start",.str (tx st)),("kept",.ref lk),("numbers",.ref pn)]
def dv(R:RC)(H:Hp)(C dx a:Addr)(sg st:Mx)(as:MA)(rs:Yaa):Prop:=
 ∃lk pn t,H a=some (.ins C dx (gt sg st lk pn))/\H lk=some (.lst (as.map V.ref))/\bR R H as rs/\dh H pn t/\iG t=bj (tx st) rs
def tf(R:RC)(H:Hp)(C dx a:Addr)(sg st:Mx)(as:MA)(rs:Yaa)(lk pn:Addr)(t:NT):Prop:=
 H a=some (.ins C dx (gt sg st lk pn))/\H lk=some (.lst (as.map V.ref))/\bR R H as rs/\dh H pn t/\iG t=bj (tx st) rs
theorem tf.f{st:Mx}{lk pn:Addr}{t:NT}(g:tf R H C dx a sg st as rs lk pn t):dv R H C dx a sg st as rs:=⟨lk,pn,t,g⟩
theorem dv.up{st:Mx}(g:dv R H C dx a sg st as rs)(s:ax H H'):dv R H' C dx a sg st as rs:=by
 obtain⟨c,b,t,h1,h2,i,e,d⟩:=g;exact⟨c,b,t,s _ _ h1,s _ _ h2,i.up s,e.grow s,d⟩
theorem DO(k:Nat)(l:Addr)(v:RV):v9 k l v≠[]:=λe=>by
 have:=(ji l v k).1;rw[e]at this;exact nomatch this
theorem bR.upX(h:bR R H as rs)(ha:H a=some (.ins C dx []))(s:aT a H H'):bR R H' as rs:=by
 refine⟨h.1,λi b r g c=>?_⟩;obtain⟨d,l,h1,h2⟩:=h.2 i b r g c;refine⟨d,l,s _ _ (λe=>?_) h1,s _ _ (λe=>?_) h2⟩
 ·rw[e,ha]at h1
  have:=q0S h1;exact q0Q (HO.ins.inj this).2.2.symm (DO _ _ _)
 ·rw[e,ha]at h2;cases h2
abbrev f_:Stmt:=i8 46 0
inductive ie(K:W.Frag)(R:RC)(vs:List V)(H:Hp)(Q:VK)(_E:XK):Prop
 |mk (a C dx l:Addr) (sg st:Mx) (as:MA) (rs:Yaa) (_:vs=[.ref a,.str (tx sg),.str (tx st),.ref l]) (_:H a=some (.ins C dx [])) (_:iE K C) (_:(aB K C "signs"/\aB K C "start"/\aB K C "kept"/\aB K C "numbers")) (_:sg.length<=1000) (_:st.length<=1000) (_:H l=some (.lst (as.map V.ref))) (_:bR R H as rs) (_:(∀r∈rs,r.1<4)) (_:rs.length<=100) (_:oZ sg st rs=none) (_:∀H' lk pn t,aT a H H'->tf R H' C dx a sg st as rs lk pn t->H lk=none->H pn=none->(∀x∈t,H x.2.1=none)->Q .non H')
theorem tX:aC ["self","signs","start","rules"] ["self","signs","start","rules"] (ao f_):=by walk_at "c"
theorem tz{f:Addr}{t1:Tok}(F:cZ K "__init__" "Grammar.__init__" f_ f fd)(nb:NB mg)(yaZ:mg "MOST_NAMES"=some (.int 8 t1))
  (yaM:↑dk 3 "check_made_of" ["signs","start","rules"] (gE R)) (ybd:↑dk 2 "numbers_by_name" ["start","rules"] (fC K R)) :
  ↑aY 4 f fd ["self","signs","start","rules"] (ie K R):=by
 have sc:=tX;walk_at "f"
 ·obtain⟨a,C,g,l,b,c,r,J,rfl,ha,cl,⟨n1,n2,n3,n4⟩,a7,a6,hl,L,a8,hn,S,good⟩:=h
  refine⟨_,(ad (a_ (aH yaM (hr.mono nofun) rfl aL (aa (al 1) (aa (al 2) (aa (al 3) ac)))))
   (ad (cy (al 0) (al 1) rfl)
   (ad (cy (al 0) (al 2) rfl)
   (ad (cy (al 0) (b7 b_ rfl nb.list dR (aa (al 3) ac)) rfl)
   (ad (cy (al 0) (aH ybd (hr.mono nofun) rfl aL (aa (al 2) (aa (al 3) ac))) rfl)
   (ai (bM (aK (bu.m0 k8) (aF AR rfl nb.len bi (aa (bJ (al 0) rfl) ac)) (cM (v:=.int 8) rfl yaZ ⟨_,rfl⟩) (aZ _))
   (ai fb)
   aR))))))),?_⟩
  obtain⟨g0,h8⟩:il b c J=none/\¬ 8<(bj (tx c) J).length:=by
   unfold oZ at S;cases e:il b c J with
   |some y=>rw[e]at S;cases S
   |none=>
    rw[e]at S;exact⟨rfl,λh=>by simp only[]at S;rw[q07 h]at S;cases S⟩
  symm;refine⟨b,c,l,r,J,rfl,a7,a6,hl,L,a8,hn,g0,λH1 I=>h1 _ _ ?_⟩;clear h1;have a2:=I _ _ ha;have a0:l≠a:=λe=>by rw[e,ha]at hl;cases hl
  ac_nf;refine⟨C,g,_,a2,cl,n1,by simp,h2 _ _ ?_⟩;clear h2;have D:aT a H (aD H1 a (.ins C g [("signs",.str (tx b))])):=(aT.of I).put;have Y:aD H1 a (.ins C g [("signs",.str (tx b))]) a=some (.ins C g [("signs",.str (tx b))]):=ae;show _;change vZ _ _ _ _ (aD H1 a (.ins C g [("signs",.str (tx b))]));generalize aD H1 a (.ins C g [("signs",.str (tx b))])=H2 at D Y ⊢;clear I a2;refine ak λN3 h3=>?_;ext;have d1:¬ (("signs":Str)="start"):=by decide +kernel
  have e3:cC "start" (V.str (tx c)) [(("signs":Str),V.str (tx b))]=[(("signs":Str),V.str (tx b)),(("start":Str),V.str (tx c))]:=by simp only[cC,q06 d1]
  refine⟨C,g,_,Y,cl,n2,by simp,?_⟩;rw[e3];refine h3 _ _ ?_;clear h3;have o:aT a H (aD H2 a (.ins C g [(("signs":Str),V.str (tx b)),(("start":Str),V.str (tx c))])):=D.put;have U:aD H2 a (.ins C g [(("signs":Str),V.str (tx b)),(("start":Str),V.str (tx c))]) a=some (.ins C g [(("signs":Str),V.str (tx b)),(("start":Str),V.str (tx c))]):=ae;generalize aD H2 a (.ins C g [(("signs":Str),V.str (tx b)),(("start":Str),V.str (tx c))])=H3 at o U ⊢;clear D Y;have a1:=o _ _ a0 hl;refine ak λN4 h4=>?_;ext;refine⟨_,.inl (aI.of a1),λd j=>?_⟩;have O:d≠a:=λe=>by rw[e,U]at j;cases j
  have hlk0:d≠l:=λe=>by rw[e,a1]at j;cases j
  have sk:ax H3 (aD H3 d (.lst (r.map V.ref))):=af j;have ek:aD H3 d (.lst (r.map V.ref)) d=some (.lst (r.map V.ref)):=ae;have b2:H d=none:=by
   cases e:H d with
   |none=>rfl
   |some u=>rw[o _ _ O e]at j;cases j
  generalize aD H3 d (.lst (r.map V.ref))=H4 at sk ek ⊢;have d2:¬ (("signs":Str)="kept"):=by decide +kernel
  have d3:¬ (("start":Str)="kept"):=by decide +kernel
  have e4:cC "kept" (V.ref d) [(("signs":Str),V.str (tx b)),(("start":Str),V.str (tx c))]=[(("signs":Str),V.str (tx b)),(("start":Str),V.str (tx c)),(("kept":Str),V.ref d)]:=by simp only[cC,q06 d2,q06 d3]
  refine⟨C,g,_,sk _ _ U,cl,n3,by simp,?_⟩;rw[e4];refine h4 _ _ ?_;clear h4;have m:aT a H (aD H4 a (.ins C g [(("signs":Str),V.str (tx b)),(("start":Str),V.str (tx c)),(("kept":Str),V.ref d)])):=(o.then sk).put;have q:aD H4 a (.ins C g [(("signs":Str),V.str (tx b)),(("start":Str),V.str (tx c)),(("kept":Str),V.ref d)]) a=some (.ins C g [(("signs":Str),V.str (tx b)),(("start":Str),V.str (tx c)),(("kept":Str),V.ref d)]):=ae;have T:aD H4 a (.ins C g [(("signs":Str),V.str (tx b)),(("start":Str),V.str (tx c)),(("kept":Str),V.ref d)]) d=some (.lst (r.map V.ref)):=by rw[ar O];exact ek
  generalize aD H4 a (.ins C g [(("signs":Str),V.str (tx b)),(("start":Str),V.str (tx c)),(("kept":Str),V.ref d)])=H5 at m q T ⊢;refine ak λN5 h5=>?_;ext;refine⟨tx c,l,r,J,rfl,m _ _ a0 hl,L.upX ha m,hn,λi H6 t n hN hm a9 G=>?_⟩;have M:i≠a:=λe=>by rw[e,q]at n;cases n
  have hpk:i≠d:=λe=>by rw[e,T]at n;cases n
  have b1:H i=none:=by
   cases e:H i with
   |none=>rfl
   |some u=>rw[m _ _ M e]at n;cases n
  have b0:∀x∈t,H x.2.1=none:=λx hx=>by
   have p:=a9 x hx;cases e:H x.2.1 with
   |none=>rfl
   |some u=>rw[m _ _ (λz=>by rw[z,q]at p;cases p) e]at p;cases p
  have d4:¬ (("signs":Str)="numbers"):=by decide +kernel
  have d5:¬ (("start":Str)="numbers"):=by decide +kernel
  have d6:¬ (("kept":Str)="numbers"):=by decide +kernel
  have e6:cC "numbers" (V.ref i) [(("signs":Str),V.str (tx b)),(("start":Str),V.str (tx c)),(("kept":Str),V.ref d)]=gt b c d i:=by unfold gt;simp only[cC,q06 d4,q06 d5,q06 d6]
  have a5:=G _ _ q;refine⟨C,g,_,a5,cl,n4,by simp,?_⟩;rw[e6];refine h5 _ _ ?_;clear h5;have B:aT a H (aD H6 a (.ins C g (gt b c d i))):=(m.then G).put;have gf:tf R (aD H6 a (.ins C g (gt b c d i))) C g a b c r J d i t:=by
   refine⟨ae,by rw[ar O];exact G _ _ T,L.upX ha B,⟨by rw[ar M];exact hN.dict,λx hx=>?_,hN.apart⟩,hm⟩;have hq:=hN.list x hx;rw[ar (λe=>by rw[e,a5]at hq;cases hq)];exact hq
  have a4:aD H6 a (.ins C g (gt b c d i)) a=some (.ins C g (gt b c d i)):=ae;have a3:aD H6 a (.ins C g (gt b c d i)) i=some (.dK (vT t)):=by rw[ar M];exact hN.dict
  generalize aD H6 a (.ins C g (gt b c d i))=H7 at B gf a4 a3 ⊢;have Z:(vT t).length=(bj (tx c) J).length:=by rw[<- hm];unfold vT iG;rw[LC,LC]
  ext;refine⟨C,g,_,a4,cl,n4,_,rfl,i,rfl,_,a3,?_⟩;rw[Z];rw[q06 ⋯];exact good H7 d i t B gf b2 b1 b0
abbrev f':Stmt:=i8 46 2
inductive fq(R:RC)(C:Addr)(vs:List V)(H:Hp)(Q:VK)(_E:XK):Prop
 |mk (a dx:Addr) (sg st:Mx) (as:MA) (rs:Yaa) (k:Nat) (b:Addr) (_:vs=[.ref a,.int (k:Int)]) (_:dv R H C dx a sg st as rs) (_:as[k]?=some b) (_:Q (.ref b) H)
theorem tL:aC ["self","k"] ["self","k"] (ao f'):=by walk_at "c"
theorem tW{f:Addr}(F:cZ K "rule" "Grammar.rule" f' f fd)(nb:NB mg)(cl:iE K C)(na:aB K C "signs"/\aB K C "start"/\aB K C "kept"/\aB K C "numbers"):↑aY 1 f fd ["self","k"] (fq R C):=by
 have sc:=tL;walk_at "f"
 ·obtain⟨a,j,sg,st,as,rs,k,b,rfl,g,e,q⟩:=h
  obtain⟨c,pn,t,i,d,hrs,hN,hm⟩:=id g;have hu:=hr.units;refine⟨_,(ai (aG (aM bD (bJ (al 0) rfl) (al 1) (λ_ _=>rfl)))),?_⟩;ext;exact⟨C,j,_,i,cl,na.2.2.1,_,rfl,c,rfl,_,aI.of d,_,bH (by rw[LF,e];rfl),q⟩
theorem qY(z:Str):∀t:NT,(iG t).lookup z=(t.find? λx=>decide (x.1=z)).map (·.2.2)
 | []=>rfl
 |x::t=>by
  have ih:=qY z t;unfold iG at ih ⊢;rw[L8,List.lookup_cons,List.find?_cons]
  by_cases e:x.1=z
  ·simp[e]
  ·have e':(z==x.1)=false:=by simpa using λh=>e h.symm
   rw[e',ih];simp[e]
abbrev cY:Stmt:=i8 46 5
inductive cR(R:RC)(C CN:Addr)(vs:List V)(H:Hp)(Q:VK)(E:XK):Prop
 |mk (a dx:Addr) (sg st:Mx) (as:MA) (rs:Yaa) (z:Str) (_:vs=[.ref a,.str z]) (_:dv R H C dx a sg st as rs) (_:(∀ns,(bj (tx st) rs).lookup z=some ns->∀l H',H l=none->H' l=some (.lst (wz ns))->ax H H'->Q (.ref l) H')) (_:((bj (tx st) rs).lookup z=none->E (.ref CN) none H))
theorem jQ:aC ["self","name"] ["self","name"] (ao cY):=by walk_at "c"
theorem j8{f yac:Addr}(F:cZ K "numbers_of" "Grammar.numbers_of" cY f fd)(nb:NB mg)(cl:iE K C)(na:aB K C "signs"/\aB K C "start"/\aB K C "kept"/\aB K C "numbers")(yaN:mg "NoName"=some (.ref yac))(ya4:XR K yac):aY P w K mg base (kU P w) 1 f fd ["self","name"] (cR R C yac):=by
 have sc:=jQ;walk_at "x"
 ·obtain⟨a,e,p,o,B,r,z,rfl,_⟩:=h;rfl
 ·obtain⟨a,e,p,o,B,r,z,rfl,g,q,x⟩:=h
  obtain⟨lk,i,t,n,hk,hrs,d,v⟩:=id g;have j:=hr.units;refine⟨_,(ad (bM (lL (lQ (Mg (Ml (by decide:1<=64) _) j) (al 1) (bJ (al 0) rfl)) (by with_unfolding_all rfl))
   (ai (rq ya4 rfl rfl yaN (vz λ_ _ _ h=>h) (eN ac)))
   aR)
   (ai (aG (b7 b_ rfl nb.list dR (aa (lh (Mg (Ml (by decide:1<=64) _) j) (bJ (al 0) rfl) (al 1) (λ_ _=>rfl)) ac))))),?_⟩
  ext;have b:=qY z t;have val:=wN z t;rw[v]at b;refine⟨C,e,_,n,cl,na.2.2.2,_,rfl,i,rfl,?_⟩;refine⟨_,.inl ⟨_,.inr z,.inl d.dict,rfl,rfl⟩,?_⟩;cases c:t.find? (λx=>decide (x.1=z)) with
  |none=>
   rw[c]at b val;rw[val];rw[q07 (by simp)];exact⟨am ⋯,x b⟩
  |some y=>
   rw[c]at b val;rw[val];rw[q06 (by simp)];have u:=d.list y (List.mem_of_find?_eq_some c);exact⟨C,e,_,n,cl,na.2.2.2,_,rfl,i,rfl,_,.inl ⟨_,.inr z,.inl d.dict,rfl,val.symm⟩,_,rfl,_,.inl (aI.of u),λl m=>q _ b l _ m ae (af m)⟩
abbrev eZ:Stmt:=i8 46 4
inductive gg(R:RC)(C:Addr)(vs:List V)(H:Hp)(Q:VK)(_E:XK):Prop
 |mk (a dx:Addr) (sg st:Mx) (as:MA) (rs:Yaa) (_:vs=[.ref a]) (_:dv R H C dx a sg st as rs) (_:∀l H',H l=none->H' l=some (.lst ((bj (tx st) rs).map λq=>V.str q.1))->ax H H'->Q (.ref l) H')
theorem p_:aC ["self"] ["self"] (ao eZ):=by walk_at "c"
theorem pY{f:Addr}(F:cZ K "names" "Grammar.names" eZ f fd)(nb:NB mg)(cl:iE K C)(na:aB K C "signs"/\aB K C "start"/\aB K C "kept"/\aB K C "numbers"):↑aY 1 f fd ["self"] (gg R C):=by
 have sc:=p_;walk_at "f"
 ·obtain⟨a,j,sg,st,as,rs,rfl,g,q⟩:=h
  obtain⟨lk,c,t,e,hk,hrs,i,d⟩:=id g;have hu:=hr.units;refine⟨_,(ai (aG (b7 (ym rfl) rfl nb.list dR (aa (bJ (al 0) rfl) ac)))),?_⟩;ext;refine⟨C,j,_,e,cl,na.2.2.2,_,rfl,c,rfl,_,i.dict,λl b=>q l _ b ?_ (af b)⟩;rw[ae,<- d];unfold vT iG;rw[LQ,LQ]
  rfl
abbrev fu:Stmt:=i8 46 1
inductive gs(R:RC)(C:Addr)(vs:List V)(H:Hp)(Q:VK)(_E:XK):Prop
 |mk (a dx:Addr) (sg st:Mx) (as:MA) (rs:Yaa) (_:vs=[.ref a]) (_:dv R H C dx a sg st as rs) (_:∀l H',H l=none->H' l=some (.lst (as.map V.ref))->ax H H'->Q (.ref l) H')
theorem qC:aC ["self"] ["self"] (ao fu):=by walk_at "c"
theorem qA{f:Addr}(F:cZ K "rules" "Grammar.rules" fu f fd)(nb:NB mg)(cl:iE K C)(na:aB K C "signs"/\aB K C "start"/\aB K C "kept"/\aB K C "numbers"):↑aY 1 f fd ["self"] (gs R C):=by
 have sc:=qC;walk_at "f"
 ·obtain⟨a,j,sg,st,as,rs,rfl,g,q⟩:=h
  obtain⟨c,pn,t,i,e,hrs,hN,hm⟩:=id g;have hu:=hr.units;refine⟨_,(ai (aG (b7 b_ rfl nb.list dR (aa (bJ (al 0) rfl) ac)))),?_⟩;ext;exact⟨C,j,_,i,cl,na.2.2.1,_,rfl,c,rfl,_,.inl (aI.of e),λd b=>q d _ b ae (af b)⟩
abbrev nX:Stmt:=eY 19
inductive rR(K:W.Frag)(vs:List V)(H:Hp)(Q:VK)(_E:XK):Prop
 |mk (a:Addr) (p:aE) (_:vs=[.ref a]) (_:aI K H a (av p)) (_:dw p) (_:fM H (mirror p) Q)
theorem AA:aC ["picture"] ["picture"] (ao nX):=by walk_at "c"
theorem A2{f:Addr}(F:cZ K "mirror" "mirror" nX f fd)(nb:NB mg):↑aY 1 f fd ["picture"] (rR K):=by
 have sc:=AA;walk_at "f"
 ·obtain⟨a,p,rfl,j,g,q⟩:=h
  refine⟨_,(ai (aG (bS ["row"] [] rfl (bA.of (by kernel_rfl)) (by kernel_rfl) (aS (al 0))
    (λ_ _ _ _=>(au (i:=0) (by show(["row"]:List Str).Nodup;decide +kernel) rfl (Or.inl rfl))) (λ_ _ _ _=>bT) (λ_ _ _ _=>(pO rfl rfl nb.reversed (aa (al 0) ac)))))),?_⟩
  ext;refine⟨⟨_,j⟩,dH (xs:=av p) (λi b σ d=>d=H/\b=av (mirror (p.take i))/\i<=p.length/\∃x,σ=[x]) ⟨rfl,rfl,L3 _,_,rfl⟩ ?_ ?_ ?_ ?_ ?_⟩
  ·rintro i b σ d ⟨_,rfl,_⟩
   refine aU ?_;rw[aq];unfold mirror;rw[LC,Me];have:=g.1;omega
  ·rintro i b σ d ⟨_,_,h,_⟩
   rw[aq];exact h
  ·rintro i b σ d ⟨rfl,_⟩
   exact j
  ·rintro i x b σ d e ⟨rfl,rfl,hi,y,rfl⟩
   have c:i<p.length:=by have:=(LA.mp e).1;rwa [aq]at this
   rw[bC c]at e;cases e;have hr:=g.2 _ (LK c);ext;refine⟨by rw[aw];omega,nofun,?_,c⟩;rw[cg,gz,q0E,Lz c];unfold mirror;rw[LO];exact(cQ _ _).symm
  ·rintro b σ d ⟨rfl,rfl,_⟩ l c
   rw[aq,Md];exact q l _ c ae (af c)
abbrev dt:Stmt:=eY 21
inductive rU(K:W.Frag)(vs:List V)(H:Hp)(Q:VK)(_E:XK):Prop
 |mk (a:Addr) (p:aE) (i:Nat) (_:vs=[.ref a,.int (i:Int)]) (_:aI K H a (av p)) (_:dw p) (_:(∀r∈p,i<r.length)) (_:∀H',ax H H'->Q (.str (tx (col p i))) H')
theorem Ao:aC ["picture","i"] ["picture","i"] (ao dt):=by walk_at "c"
theorem AW{f:Addr}(F:cZ K "column_from_below" "column_from_below" dt f fd)(nb:NB mg):↑aY 1 f fd ["picture","i"] (rU K):=by
 have sc:=Ao;walk_at "f"
 ·obtain⟨a,p,i,rfl,z,o,B,q⟩:=h
  refine⟨_,(ai (aG (@rB _ _ _ _ _ _ _ _ (aa (bS ["row"] [1] rfl (bA.of (by kernel_rfl)) (by kernel_rfl) (CA rfl nb.reversed (aa (al 0) ac))
    (λ_ _ _ _=>(au (i:=0) (by show(["row","i"]:List Str).Nodup;decide +kernel) rfl (Or.inl rfl))) (λ_ _ _ _=>bT) (λ_ _ _ _=>(aM hX (al 0) (al 1) (λ_ _=>rfl)))) ac) rfl rfl))),?_⟩
  ext;have hd:∀n,((p.reverse.take n).map λr=>V.str ⟨#[r.getD i 0]⟩)=(((p.reverse.take n).map λr=>r.getD i 0).map λc=>(⟨#[c]⟩:Str)).map V.str:=λn=>by rw[LQ,LQ];rfl
  refine⟨rfl,_,z,vQ (xs:=av p) (λn b σ g=>g=H/\b=((p.reverse.take n).map λr=>V.str ⟨#[r.getD i 0]⟩)/\n<=p.length/\∃x,σ=[x,some (.int (i:Int))]) ⟨rfl,rfl,L3 _,_,rfl⟩ ?_ ?_ ?_ ?_ ?_⟩
  ·rintro n b σ g ⟨_,rfl,_⟩
   refine aU ?_;rw[LC,Me];have:=o.1;rw[LU];omega
  ·rintro n b σ g ⟨_,_,h,_⟩
   rw[aq];exact h
  ·rintro n b σ g ⟨rfl,_⟩
   exact z
  ·rintro n x b σ g u ⟨rfl,rfl,hn,y,rfl⟩
   have d:n<p.reverse.length:=by
    have:=(LA.mp u).1
    rwa [LU,aq,<- LU (as:=p)]at this
   have j:(av p.reverse)[n]?=some x:=by unfold av at u ⊢;rwa [List.map_reverse]
   rw[bC d]at j;cases j;have v:p.reverse[n]∈p:=List.mem_reverse.mp (LK d);have hr:=o.2 _ v;have m:=B _ v;ext;have C:(tx p.reverse[n]).cps.toList[i]?=some (p.reverse[n].getD i 0):=by rw[cg,q0A,Lz m];rfl
   refine⟨by rw[aw];exact am ⋯,_,bH C,?_,by rw[LU]at d;exact d⟩;rw[q0E,Lz d,LO]
   rfl
  ·rintro b σ g ⟨rfl,rfl,_⟩ l d
   rw[aq,<- LU (as:=p),Md]at *;refine⟨(col p i).map λc=>(⟨#[c]⟩:Str),.inl (aI.of ?_),?_,?_⟩
   ·rw[ae];unfold col;rw[LQ,LQ];rfl
   ·rw[LQ]
    have e:((λy:Str=>y.length)∘λc=>(⟨#[c]⟩:Str))=λ_=>1:=by funext c;rfl
    rw[e,List.map_const',List.sum_replicate_nat,LC];have D:(Str.ofString "").length=0:=rfl;rw[D];have:=o.1;unfold col;rw[LC,LU];omega
   ·rw[gz];exact q _ (af d)
abbrev lE:Stmt:=eY 20
inductive g_(K:W.Frag)(vs:List V)(H:Hp)(Q:VK)(_E:XK):Prop
 |mk (a:Addr) (p:aE) (r c:Nat) (_:vs=[.ref a]) (_:aI K H a (av p)) (_:rect p r c) (_:0<r) (_:r<=64) (_:c<=64) (_:fM H (aX p) Q)
theorem wS:aC ["picture"] ["picture"] (ao lE):=by walk_at "c"
theorem xy{f:Addr}(F:cZ K "quarter" "quarter" lE f fd)(nb:NB mg)(yaA:↑dk 1 "column_from_below" ["picture","i"] (rU K)):↑aY 2 f fd ["picture"] (g_ K):=by
 have sc:=wS;walk_at "f"
 ·obtain⟨a,p,r,c,rfl,D,g,e,u,v,q⟩:=h
  refine⟨_,(ai (aG (bS ["i"] [0] rfl (bA.of (by kernel_rfl)) (by kernel_rfl) (bE rfl nb.range (aa (aF aV rfl nb.len bi (aa (aM bD (al 0) aj (λ_ _=>rfl)) ac)) ac))
    (λ_ _ _ _=>(au (i:=0) (by show(["i","picture"]:List Str).Nodup;decide +kernel) rfl (Or.inl rfl))) (λ_ _ _ _=>bT) (λ_ _ _ _=>(aH yaA (hr.mono nofun) rfl aL (aa (al 1) (aa (al 0) ac))))))),?_⟩
  ext;have j:0<p.length:=by rw[g.1];exact e
  have z:(p[0]).length=c:=g.2 _ (LK j);have I:(p.headD []).length=c:=bb g e;refine⟨_,D,_,bH (bC j),_,rfl,by rw[aw];exact am ⋯,by rw[aw];omega,by rw[aw];omega,?_⟩;rw[aw,z,LL];refine j3 (lo:=0) (n:=c) (λi b σ m=>ax H m/\b=av ((List.range i).map (col p))/\i<=c/\∃x,σ=[x,some (.ref a)]) ⟨ax.refl _,rfl,L3 _,_,rfl⟩ ?_ ?_ ?_ ?_
  ·rintro i b σ m ⟨_,rfl,_⟩
   refine aU ?_;rw[aq,LC,q0J];omega
  ·rintro i b σ m ⟨_,_,h,_⟩
   exact h
  ·rintro i b σ m C ⟨d,rfl,_,y,rfl⟩
   ext;refine⟨a,p,i,by simp,d.seq D,dw.of g u v,λx G=>by rw[g.2 x G];exact C,λH2 o=>⟨d.trans o,?_,C⟩⟩;rw[q0M,LO];exact(cQ _ _).symm
  ·rintro b σ m ⟨d,rfl,_⟩ l B
   refine q l _ (d.free B) ?_ (d.trans (af B));rw[ae];unfold aX;rw[I]
abbrev pA:Stmt:=eY 18
inductive jv(K:W.Frag)(vs:List V)(H:Hp)(Q:VK)(_E:XK):Prop
 |mk (a:Addr) (p:aE) (r c t:Nat) (_:vs=[.ref a,.int (t:Int)]) (_:aI K H a (av p)) (_:rect p r c) (_:0<r) (_:0<c) (_:r<=64) (_:c<=64) (_:t<8) (_:fM H (turned p t) Q)
theorem Ad:aC ["picture","t","result","step"] ["picture","t"] (ao pA):=by walk_at "c"
theorem AK{f:Addr}(F:cZ K "turned" "turned" pA f fd)(nb:NB mg)(ya2:↑dk 1 "mirror" ["picture"] (rR K))(yaz:↑dk 2 "quarter" ["picture"] (g_ K)):↑aY 3 f fd ["picture","t"] (jv K):=by
 have sc:=Ad;walk_at "f"
 ·obtain⟨a,p,r,c,t,rfl,hS,hp,hr0,hc0,hr1,hc1,ht,q⟩:=h
  refine⟨_,(ad (q01 2 sc.nd (b7 b_ rfl nb.list dR (aa (pv 0) ac)))
   (ad (bM (ny Ho (pv 1) aj (aZ _))
   (ai (q01 2 sc.nd (aH ya2 (hr.mono nofun) rfl aL (aa (pv 2) ac))))
   aR)
   (ad (aQ PassesOwn.never rfl (qZ rfl nb.range (aa (az bh (pv 1) aj) ac)) (q02 3 sc.nd)
   (ai (q01 2 sc.nd (aH yaz (hr.mono nofun) rfl aL (aa (pv 2) ac)))))
   (ai (aG (pv 2)))))),?_⟩
  ext
  -- the aJ,from the list at l
  have loop:∀(l:Addr) (p':aE) (H1:Hp),H l=none->H1 l=some (.lst (av p'))->ax H H1->rect p' r c->turned p t=aJ (t%4) p' ->
    ∀(g:TG) (tb:TS) (D:fB),g=iY 3->tb=wX (mH (g_ K) [] E0 (iy (zR 2) nv)) (iY 2)->(∀σ' H' v,σ'[2]?=some (some v)->Q v H'->D.nx σ' H')->AM (Ay 0 ((t:Int)%4).toNat) g tb D [some (V.ref a),some (V.int t),some (V.ref l),none] H1:=by
   intro l p' H1 hl h1 sm hp' et g tb D hg htb hD;subst hg htb;have e4:((t:Int)%4).toNat=t%4:=by omega
   rw[e4];refine bv (λi σ H2=>∃(l2:Addr) (x:Option V),σ=[some (V.ref a),some (V.int t),some (V.ref l2),x]/\H l2=none/\H2 l2=some (.lst (av (aJ i p')))/\ax H H2) ⟨l,none,rfl,hl,h1,sm⟩ ?_ ?_
   ·rintro i σ H2 hi ⟨l2,x,rfl,h2,h3,sm2⟩
    ext;have hq:=cG i hp' hr0 hc0;have gp:∀r' c',rect (aJ i p') r' c'->0<r'->r'<=64->c'<=64->g_ K [V.ref l2] H2 (λx_1 H1=>∃l2,x_1=V.ref l2/\H l2=none/\H1 l2=some (HO.lst (av (aJ (i+1) p')))/\ax H H1) E0:=λr' c' h4 h5 h6 h7=>
     ⟨l2,aJ i p',r',c',rfl,aI.of h3,h4,h5,h6,h7,λl3 H3 h8 h9 sm3=>⟨l3,rfl,sm2.free h8,by rw[h9,<- cF 1 i p'];rfl,sm2.trans sm3⟩⟩
    by_cases nB:i%2=0
    ·rw[q07 nB,q07 nB]at hq
     exact gp r c hq hr0 hr1 hc1
    ·rw[q06 nB,q06 nB]at hq
     exact gp c r hq hc0 hc1 hr1
   ·rintro σ H2 ⟨l2,x,rfl,h2,h3,sm2⟩
    exact hD _ _ _ rfl (q l2 H2 h2 (by rw[h3,et]) sm2)
  refine⟨_,.inl hS,λl hl=>?_⟩
  split
  ·rename_i h4
   refine⟨l,p,rfl,aI.of ae,dw.of hp hr1 hc1,λl2 H2 h2 h3 sm2=>⟨⋯,⋯,?_⟩⟩;refine loop l2 (mirror p) H2 ((af hl).free h2) h3 ((af hl).trans sm2) (bO hp) (by unfold turned;rw[q07 ⋯]) _ _ _ rfl rfl ?_;intro σ' H' v e hq;exact⟨v,e,hq⟩
  ·rename_i h4
   refine⟨⋯,⋯,?_⟩;refine loop l p _ hl ae (af hl) hp (by unfold turned;rw[q06 ⋯]) _ _ _ rfl rfl ?_;intro σ' H' v e hq;exact⟨v,e,hq⟩
def fQ(r:Nat×RV):List V:=match r.1 with
 |0=>[.str (tx r.2.n),.int r.2.c,.int 0,.str (tx r.2.sg),.str ""]
 |1=>[.str (tx r.2.n),.int r.2.c,.int 1,.str (tx r.2.o1),.str (tx r.2.o2)]
 |2=>[.str (tx r.2.n),.int r.2.c,.int 2,.str (tx r.2.o1),.str (tx r.2.o2)]
 |_=>[.str (tx r.2.n),.int r.2.c,.int 3,.str (tx r.2.o1),.int r.2.t]
def gi(H:Hp)(l:Addr)(ts:MA)(rs:Yaa):Prop:=H l=some (.lst (ts.map V.ref))/\ts.length=rs.length/\∀(i:Nat) t r,ts[i]?=some t->rs[i]?=some r->H t=some (.tup (fQ r))
theorem gi.up(h:gi H l ts rs)(s:ax H H'):gi H' l ts rs:=⟨s _ _ h.1,h.2.1,λi t r e1 e2=>s _ _ (h.2.2 i t r e1 e2)⟩
theorem fk{k:Nat}(h:k<4):k=0\/k=1\/k=2\/k=3:=by omega
structure kH(r:Nat×RV):Prop where
 k4:r.1<4
 good:r.2.good
 small:r.2.small
abbrev oF:Stmt:=eY 72
inductive lN(R:RC)(vs:List V)(H:Hp)(Q:VK)(_E:XK):Prop
 |mk (t:Addr) (r:Nat×RV) (_:vs=[.ref t]) (_:H t=some (.tup (fQ r))) (_:kH r) (_:∀b H',gv R H' r.1 b r.2->ax H H'->Q (.ref b) H')
theorem AS:aC ["_law_rule_here"] ["_law_rule_here"] (ao oF):=by walk_at "c"
theorem Aw{f:Addr}(F:cZ K "_law_rule" "_law_rule" oF f fd)(nb:NB mg)(rk:lF K R)
  (zjb:↑lR 4 "CellRule" R.cc ["self","name","cost","sign"] (gP K)) (zPa:↑lR 4 "BesideRule" R.cb ["self","name","cost","one","other"] (dq K))
  (zUa:↑lR 4 "AboveRule" R.ca ["self","name","cost","one","other"] (dq K)) (zkb:↑lR 4 "TurnRule" R.ct ["self","name","cost","part","turning"] (ig K)):↑aY 6 f fd ["_law_rule_here"] (lN R):=by
 have sc:=AS;walk_at "f"
 ·obtain⟨t,⟨k,v⟩,rfl,B,⟨C,g,r⟩,good⟩:=h
  refine⟨_,(ad (bM (aK dN (aM aP (al 0) aj (λ_ _=>rfl)) aj (aZ _))
   (ai (aG (je zjb (hr.mono nofun) rfl aL (aa (aM aP (al 0) aj (λ_ _=>rfl)) (aa (aM aP (al 0) aj (λ_ _=>rfl)) (aa (aM aP (al 0) aj (λ_ _=>rfl)) ac))))))
   aR)
   (ad (bM (aK dN (aM aP (al 0) aj (λ_ _=>rfl)) aj (aZ _))
   (ai (aG (je zPa (hr.mono nofun) rfl aL (aa (aM aP (al 0) aj (λ_ _=>rfl)) (aa (aM aP (al 0) aj (λ_ _=>rfl)) (aa (aM aP (al 0) aj (λ_ _=>rfl)) (aa (aM aP (al 0) aj (λ_ _=>rfl)) ac)))))))
   aR)
   (ad (bM (aK dN (aM aP (al 0) aj (λ_ _=>rfl)) aj (aZ _))
   (ai (aG (je zUa (hr.mono nofun) rfl aL (aa (aM aP (al 0) aj (λ_ _=>rfl)) (aa (aM aP (al 0) aj (λ_ _=>rfl)) (aa (aM aP (al 0) aj (λ_ _=>rfl)) (aa (aM aP (al 0) aj (λ_ _=>rfl)) ac)))))))
   aR)
   (ai (aG (je zkb (hr.mono nofun) rfl aL (aa (aM aP (al 0) aj (λ_ _=>rfl)) (aa (aM aP (al 0) aj (λ_ _=>rfl)) (aa (aM aP (al 0) aj (λ_ _=>rfl)) (aa (aM aP (al 0) aj (λ_ _=>rfl)) ac)))))))))),?_⟩
  have a:=cK.of (K:=K) B;have g:v.good:=g;have r:v.small:=g.small;have u:v.n.length<=100000:=by have:=r.n;omega
  have y:v.o1.length<=100000:=by have:=r.o1;omega
  have z:v.o2.length<=100000:=by have:=r.o2;omega
  have bs:v.sg.length<=100000:=by have:=r.sg;omega
  ext;rcases fk C with rfl | rfl | rfl | rfl
  ·change cK K H t [.str (tx v.n),.int v.c,.int 0,.str (tx v.sg),.str ""]at a
   refine⟨_,a,_,rfl,rfl,?_⟩;rw[q07 rfl];refine⟨_,a,_,rfl,_,a,_,rfl,_,a,_,rfl,λx d j o m=>?_⟩;exact⟨x,R.cc,d,v.n,v.sg,v.c,rfl,ae,rk.i0.cl,rk.a0,u,bs,g.ok 0,λi q e l b p=>⟨rfl,good x q ⟨d,i,p,b⟩ (ja j o e)⟩⟩
  ·change cK K H t [.str (tx v.n),.int v.c,.int 1,.str (tx v.o1),.str (tx v.o2)]at a
   refine⟨_,a,_,rfl,rfl,?_⟩;rw[q06 nofun];refine⟨_,a,_,rfl,rfl,?_⟩;rw[q07 rfl];refine⟨_,a,_,rfl,_,a,_,rfl,_,a,_,rfl,_,a,_,rfl,λx d j o m=>?_⟩;exact⟨x,R.cb,d,v.n,v.o1,v.o2,v.c,rfl,ae,rk.i1.cl,rk.a1,u,y,z,g.ok 1,λi q e l b p=>⟨rfl,good x q ⟨d,i,p,b⟩ (ja j o e)⟩⟩
  ·change cK K H t [.str (tx v.n),.int v.c,.int 2,.str (tx v.o1),.str (tx v.o2)]at a
   refine⟨_,a,_,rfl,rfl,?_⟩;rw[q06 nofun];refine⟨_,a,_,rfl,rfl,?_⟩;rw[q06 nofun];refine⟨_,a,_,rfl,rfl,?_⟩;rw[q07 rfl];refine⟨_,a,_,rfl,_,a,_,rfl,_,a,_,rfl,_,a,_,rfl,λx d j o m=>?_⟩;exact⟨x,R.ca,d,v.n,v.o1,v.o2,v.c,rfl,ae,rk.i2.cl,rk.a2,u,y,z,g.ok 2,λi q e l b p=>⟨rfl,good x q ⟨d,i,p,b⟩ (ja j o e)⟩⟩
  ·change cK K H t [.str (tx v.n),.int v.c,.int 3,.str (tx v.o1),.int v.t]at a
   refine⟨_,a,_,rfl,rfl,?_⟩;rw[q06 nofun];refine⟨_,a,_,rfl,rfl,?_⟩;rw[q06 nofun];refine⟨_,a,_,rfl,rfl,?_⟩;rw[q06 nofun];refine⟨_,a,_,rfl,_,a,_,rfl,_,a,_,rfl,_,a,_,rfl,λx d j o m=>?_⟩;exact⟨x,R.ct,d,v.n,v.o1,v.c,v.t,rfl,ae,rk.i3.cl,rk.a3,u,y,g.ok 3,λi q e l b p=>⟨rfl,good x q ⟨d,i,p,b⟩ (ja j o e)⟩⟩
structure i4(p:aE)(sg:Mx)(r:Nat×RV):Prop where
 good:kH r
 n:r.2.n∈p
 o1:r.2.o1∈p
 o2:r.2.o2∈p
 sg:∃c∈sg,r.2.sg=[c]
theorem gi.app{t:Addr}(h:gi H l ts rs)(ht:H t=some (.tup (fQ r))):gi (aD H l (.lst (ts.map V.ref++[V.ref t]))) l (ts++[t]) (rs++[r]):=by
 obtain⟨h1,h2,m⟩:=h;refine⟨by rw[ae,LO];rfl,by rw[LZ,LZ,h2];rfl,λi c d b g=>?_⟩;have a:∀c d,H c=some (.tup (fQ d))->aD H l (.lst (ts.map V.ref++[V.ref t])) c=some (.tup (fQ d)):=λc d e=>by
  rw[ar (λz=>by rw[z,h1]at e;cases e)];exact e
 by_cases j:i<ts.length
 ·rw[LY j]at b
  rw[LY ⋯]at g;exact a _ _ (m i c d b g)
 ·rw[LX ⋯]at b
  rw[LX ⋯]at g;have nB:i=ts.length:=by
   have:=(LA.mp b).1;simp at this;omega
  subst nB;rw[Nat.sub_self]at b;rw[h2,Nat.sub_self]at g;cases b;cases g
  exact a _ _ ht
theorem v4(h:c8 r=true):gx r iW=true:=by
 unfold c8 at h;simp only[q0O,q0a]at h;exact h.1.2
theorem nK{c:Nat}(h:c8 r=true)(hc:c∈r):lC [c]=true:=by
 have:=v4 h;unfold gx at this;rw[Mj]at this;unfold lC gx;rw[List.all_cons,this c hc]
 rfl
def addNew(ks:MF)(z:Str):List Str:=if z∈ks then ks else ks++[z]
theorem qK(m:List (Str×List Nat))(z:Str):(b9 m z).map (·.1)=addNew (m.map (·.1)) z:=by
 unfold b9 addNew
 split
 ·rfl
 ·rw[LO];rfl
theorem pV:∀(zs:MF) (m:List (Str×List Nat)),(zs.foldl b9 m).map (·.1)=zs.foldl addNew (m.map (·.1))
 | [],_=>rfl
 |z::zs,m=>by rw[List.foldl_cons,List.foldl_cons,pV zs,qK]
theorem z_(m:List (Str×List Nat))(i:Nat)(r:Nat×RV):(eC m i r).map (·.1)=(tx r.2.n::(cw r.1 r.2).map tx).foldl addNew (m.map (·.1)):=by
 unfold eC;rw[pV,h_,qK,List.foldl_cons]
def jG(z:Str)(rs:Yaa):List Nat:=rs.zipIdx.filterMap λx=>if tx x.1.2.n=z then some x.2 else none
theorem w6(z:Str)(rs:Yaa)(r:Nat×RV):jG z (rs++[r])=jG z rs++if tx r.2.n=z then[rs.length] else[]:=by
 unfold jG;rw[List.zipIdx_append,List.filterMap_append]
 congr 1
 simp
 split<;>rename_i h<;>simp[h]
theorem wO{z:Str}:∀{rs:Yaa},(∀r∈rs,tx r.2.n≠z)->jG z rs=[]:=by
 intro rs h;unfold jG;rw[List.filterMap_eq_nil_iff];intro x a;rw[q06 (h x.1 (List.fst_mem_of_mem_zipIdx a))]
structure NI(rs:Yaa)(m:List (Str×List Nat)):Prop where
 nd:(m.map (·.1)).Nodup
 ix:∀q∈m,q.2=jG q.1 rs
 all:∀r∈rs,tx r.2.n∈m.map (·.1)
theorem pp{y:Str}:y∈(b9 m z).map (·.1)↔y∈m.map (·.1)\/y=z:=by
 unfold b9
 split
 ·rename_i h
  exact⟨λq=>.inl q,λq=>q.elim id λe=>e▸h⟩
 ·rw[LO,LP];simp
theorem NI.name(h:NI rs m)(z:Str):NI rs (b9 m z):=by
 refine⟨kl h.nd,λq hq=>?_,λr hr=>pp.mpr (.inl (h.all r hr))⟩;unfold b9 at hq
 split at hq
 ·exact h.ix q hq
 ·rename_i hz
  rcases LP.mp hq with q1 | q1
  ·exact h.ix q q1
  ·rw[LD.mp q1]
   exact(wO (z:=z) λr hr e=>hz (by rw[<- e];exact h.all r hr)).symm
theorem NI.names:∀(zs:MF) {m:List (Str×List Nat)},NI rs m->NI rs (zs.foldl b9 m)
 | [],_,h=>h
 |z::zs,m,h=>NI.names zs (h.name z)
theorem NI.put{r:Nat×RV}(h:NI rs m)(hn:tx r.2.n∈m.map (·.1)):NI (rs++[r]) (io m (tx r.2.n) rs.length):=by
 refine⟨by rw[h_];exact h.nd,λq b=>?_,λd a=>?_⟩
 ·unfold io at b
  obtain⟨p,c,rfl⟩:=Mi.mp b;rw[w6]
  by_cases e:p.1=tx r.2.n
  ·rw[q07 e]
   show p.2++[rs.length]=jG p.1 rs++_;rw[q07 e.symm,h.ix p c]
  ·rw[q06 e,q06 (λz=>e z.symm),Ma]
   exact h.ix p c
 ·rw[h_]
  rcases LP.mp a with q | q
  ·exact h.all d q
  ·rw[LD.mp q];exact hn
theorem jm(z:Str):∀(n:Nat) (rs:Yaa),rs.length=n->NI rs (bj z rs)
 |0,rs,h=>by
  rw[Mh.mp h];exact⟨by simp[bj,fF],λq hq=>by rw[show q=(z,[]) by simpa[bj,fF]using hq];rfl,λr hr=>nomatch hr⟩
 |n+1,rs,h=>by
  obtain⟨rs',r,rfl⟩:∃rs' r,rs=rs'++[r]:=⟨rs.dropLast,rs.getLast (by intro e;rw[e]at h;cases h),(List.dropLast_concat_getLast _).symm⟩;have hl:rs'.length=n:=by rw[LZ,q0Y]at h;omega
  have a:=jm z n rs' hl;unfold bj at a ⊢;rw[fV,Nat.zero_add];unfold eC;exact((a.name (tx r.2.n)).put (pp.mpr (.inr rfl))).names _
theorem rN:∀{m:List (Str×List Nat)} {q:Str×List Nat},(m.map (·.1)).Nodup->q∈m->m.lookup q.1=some q.2
 |p::m,q,hnd,hq=>by
  rw[L8,q0b]at hnd;rw[List.lookup_cons];rcases LR.mp hq with e | e
  ·rw[e];simp
  ·have hne:q.1≠p.1:=λz=>hnd.1 (z▸List.mem_map_of_mem e)
   have:(q.1==p.1)=false:=beq_eq_false_iff_ne.mpr hne;rw[this];exact rN hnd.2 e
theorem DM{q:Str×List Nat}(h:q∈bj z rs):(bj z rs).lookup q.1=some (jG q.1 rs)/\q.2=jG q.1 rs:=by
 have N:=jm z _ rs rfl;have e:=N.ix q h;exact⟨by rw[rN N.nd h,e],e⟩
theorem xJ{Q:List V->Hp->Prop}(hR:gi H l ts rs)(hg:∀r∈rs,kH r)(hn:rs.length<=100)(q:∀(as:MA) H',ax H H'->bR R H' as rs->Q (as.map V.ref) H') :
  fN (zw K l) (iY 0) yS (mH (lN R) [] E0 (iy (zR 0) nv)) [none] H Q:=by
 obtain⟨G,w,z⟩:=hR;refine dH (xs:=ts.map V.ref) (λi c σ H'=>ax H H'/\(∃as:List Addr,c=as.map V.ref/\bR R H' as (rs.take i))/\i<=ts.length/\∃x,σ=[x]) ⟨ax.refl _,⟨[],rfl,rfl,λi a r e=>by simp at e⟩,L3 _,_,rfl⟩ ?_ ?_ ?_ ?_ ?_
 ·rintro i c σ H' ⟨_,⟨as,rfl,h,_⟩,I,_⟩
  rw[LC,h,Me];exact aU ⋯
 ·rintro i c σ H' ⟨_,_,h,_⟩
  rw[LC];exact h
 ·rintro i c σ H' ⟨m,_⟩
  exact aI.of (m _ _ G)
 ·rintro i x c σ H' v ⟨m,⟨as,rfl,d⟩,I,y,rfl⟩
  have g:i<ts.length:=by have:=(LA.mp v).1;rwa [LC]at this
  rw[LF,Lz g]at v;cases v;have p:i<rs.length:=by omega
  have o:rs[i]?=some rs[i]:=Lz p;have D:=m _ _ (z i ts[i] rs[i] (Lz g) o);ext;refine⟨ts[i],rs[i],rfl,D,hg _ (LK p),λb H2 J B=>⟨m.trans B,⟨as++[b],by rw[LO];rfl,?_⟩,g⟩⟩;have hal:as.length=i:=by have:=d.1;rw[Me]at this;omega
  rw[q0E,o];refine⟨by rw[LZ,LZ,d.1];rfl,λj a r n u=>?_⟩
  by_cases C:j<as.length
  ·rw[LY C]at n
   rw[LY (by rw[<- d.1];exact C)]at u;exact(d.2 j a r n u).up B
  ·rw[LX ⋯]at n
   rw[LX (by rw[<- d.1];omega)]at u;have:j-as.length=0:=by
    have:=(LA.mp n).1;simp at this;omega
   rw[this]at n;rw[<- d.1,this]at u;cases n;cases u
   exact J
 ·rintro c σ H' ⟨m,⟨as,rfl,d⟩,_⟩
  rw[LC,w,Md]at d;exact q as H' m d
def GH(rs:Yaa):List ThM.NR:=rs.map λr=>(tx r.2.n,(cw r.1 r.2).map tx)
theorem xp{ks:MF}{y:Str}:y∈addNew ks z↔y∈ks\/y=z:=ThM.mem_addNew
theorem kx{y:Str}:∀(zs ks:MF),y∈zs.foldl addNew ks↔y∈ks\/y∈zs
 | [],ks=>by simp
 |z::zs,ks=>by
  rw[List.foldl_cons,kx zs,xp,LR];exact⟨λh=>h.elim (λh=>h.elim .inl λe=>.inr (.inl e)) λh=>.inr (.inr h),λh=>h.elim (λh=>.inl (.inl h)) λh=>h.elim (λe=>.inl (.inr e)) .inr⟩
theorem A9(z:Str)(rs:Yaa)(r:Nat×RV):(bj z (rs++[r])).map (·.1)=(tx r.2.n::(cw r.1 r.2).map tx).foldl addNew ((bj z rs).map (·.1)):=by
 unfold bj;rw[fV,z_]
theorem CV{α:Type}{P:List α->Prop}(h0:P [])(h1:∀rs r,P rs->P (rs++[r]))(rs:List α):P rs:=by
 have:∀(n:Nat) (rs:List α),rs.length=n->P rs:=by
  intro n
  induction n with
  |zero=>intro rs h;rw[Mh.mp h];exact h0
  |succ n ih=>
   intro rs h;have a:rs≠[]:=by intro e;rw[e]at h;cases h
   rw[<- List.dropLast_concat_getLast a];exact h1 _ _ (ih _ (by rw[List.length_dropLast];omega))
 exact this _ rs rfl
theorem n_(z:Str)(rs:Yaa):∀y,y∈(bj z rs).map (·.1)↔y=z\/∃r∈GH rs,y=r.1\/y∈r.2:=by
 refine CV (P:=λrs=>∀y,y∈(bj z rs).map (·.1)↔y=z\/∃r∈GH rs,y=r.1\/y∈r.2) ?_ ?_ rs
 ·intro y
  have e:(bj z []).map (·.1)=[z]:=rfl;rw[e];unfold GH;simp
 ·intro rs r a y
  rw[A9,kx,a y,LR];unfold GH;rw[LO]
  constructor
  ·rintro((h | ⟨q,hq,h⟩) | h)
   ·exact .inl h
   ·exact .inr ⟨q,LP.mpr (.inl hq),h⟩
   ·exact .inr ⟨_,LP.mpr (.inr (LD.mpr rfl)),h⟩
  ·rintro(h | ⟨q,hq,h⟩)
   ·exact .inl (.inl h)
   ·rcases LP.mp hq with hq | hq
    ·exact .inl (.inr ⟨q,hq,h⟩)
    ·rw[LD.mp hq]at h
     exact .inr h
theorem EF{sg:Mx}{c:Nat}(h:c∈sg):GX (tx sg) (tx [c])=true:=by
 have:=StrLaws.found_one (tx sg) c;show(!(Builtin.Str.occurrences (tx sg) ⟨#[c]⟩ 0 (tx sg).length 1).isEmpty)=true;rw[this,cg,q09 h]
theorem kO{sg:Mx}:∀{rs:Yaa} {j:Nat},(∀r∈rs,∃c∈sg,r.2.sg=[c])->fR (tx sg) rs j=none
 | [],_,_=>rfl
 |r::rs,j,h=>by
  obtain⟨c,hc,e⟩:=h r q0B;unfold fR;rw[q06 (λz=>by rw[e,EF hc]at z;exact q0Q z.2 nofun)];exact kO λr' hr'=>h r' (LS _ hr')
theorem AV{p:aE}{st:Mx}{rs:Yaa}(hsg:c8 sg=true)(hst:st∈p)(hpn:∀r∈p,di r=true)(hp:p.length<=8)(hn:rs.length<=24)(hr:∀r∈rs,i4 p sg r):oZ sg st rs=none:=by
 have i:il sg st rs=none:=by
  unfold il;rw[q06 (by rw[hsg];decide),q06 (by rw[hpn _ hst];decide),q06 ⋯,kO λr h=>(hr r h).sg]
 unfold oZ;rw[i];simp only[];rw[q06];have g:∀z∈(bj (tx st) rs).map (·.1),z∈p.map tx:=λz d=>by
  rcases(n_ _ _ _).mp d with e | ⟨q,c,e⟩
  ·rw[e];exact List.mem_map_of_mem hst
  ·unfold GH at c
   obtain⟨r,b,rfl⟩:=Mi.mp c;have R:=hr r b;rcases e with e | e
   ·rw[e];exact List.mem_map_of_mem R.n
   ·obtain⟨y,a,rfl⟩:=Mi.mp e
    refine List.mem_map_of_mem ?_;obtain⟨k,v⟩:=r;rcases fk R.good.k4 with rfl | rfl | rfl | rfl
    ·exact q0Q a List.not_mem_nil
    ·rcases(show y=v.o1\/y=v.o2 by simpa[cw]using a) with rfl | rfl
     ·exact R.o1
     ·exact R.o2
    ·rcases(show y=v.o1\/y=v.o2 by simpa[cw]using a) with rfl | rfl
     ·exact R.o1
     ·exact R.o2
    ·rw[show y=v.o1 by simpa[cw]using a];exact R.o1
 have:=ThM.nd_len (jm (tx st) _ rs rfl).nd g;rw[LC,LC]at this;omega
theorem bR.zip(h:bR R H as rs):(as.zip rs).map (λx=>V.ref x.1)=as.map V.ref/\(as.zip rs).map (·.2)=rs/\∀x∈as.zip rs,gv R H x.2.1 x.1 x.2.2:=by
 refine⟨?_,List.map_snd_zip (by have:=h.1;omega),λx b=>?_⟩
 ·have e:(as.zip rs).map (λx=>V.ref x.1)=((as.zip rs).map Prod.fst).map V.ref:=by rw[LQ];rfl
  rw[e,List.map_fst_zip (by have:=h.1;omega)]
 ·obtain⟨i,c,e⟩:=List.mem_iff_getElem.mp b
  have a:(as.zip rs)[i]?=some x:=by rw[Lz c,e]
  rw[List.getElem?_zip_eq_some]at a;exact h.2 i x.1 x.2 a.1 a.2
structure IY(K:W.Frag)(C:Addr):Prop where
 cl:jB K C
 na:aB K C "signs"/\aB K C "start"/\aB K C "kept"/\aB K C "numbers"
abbrev uB:Stmt:=eY 10
theorem GA(x:Str):x=tx x.cps.toList:=by unfold tx;simp
theorem nM(p:aE):Txt.join (Str.ofString "/") (p.map tx)=tx (SpM.glue 47 p):=by
 have e:(Txt.join (Str.ofString "/") (p.map tx)).cps.toList=SpM.glue 47 p:=by
  have h:=SpM.join_glue 47 (p.map tx);rw[LQ]at h;have a:((λy:Str=>y.cps.toList)∘tx)=id:=by funext r;exact cg r
  rw[a,List.map_id]at h;exact h
 rw[<- e];exact GA _
inductive dY(K:W.Frag)(vs:List V)(H:Hp)(Q:VK)(_E:XK):Prop
 |mk (a:Addr) (p:aE) (_:vs=[.ref a]) (_:H a=some (.lst (av p))) (_:dw p) (_:Q (.str (tx (SpM.glue 47 p))) H)
theorem BB:aC ["picture"] ["picture"] (ao uB):=by walk_at "c"
theorem jp:∀{p:aE} {n:Nat},(∀r∈p,r.length<=n)->((p.map tx).map λy:Str=>y.length).sum<=p.length*n
 | [],n,_=>by simp
 |r::p,n,h=>by
  have h1:=h r (by simp);have h2:=jp (p:=p) (n:=n) λx hx=>h x (by simp[hx]);simp only[L8,List.sum_cons,aw,LN];rw[Nat.succ_mul];omega
theorem Ci{f:Addr}(F:cZ K "shown" "shown" uB f fd):↑aY 1 f fd ["picture"] (dY K):=by
 have sc:=BB;walk_at "f"
 ·obtain⟨a,p,rfl,c,b,q⟩:=h
  refine⟨_,(ai (aG (@rB _ _ _ _ _ _ _ _ (aa (al 0) ac) rfl rfl))),?_⟩;ext;refine⟨rfl,p.map tx,.inl (by rw[<- fK];exact aI.of c),?_,?_⟩
  ·have:=jp b.2
   have h1:=b.1;have d:(Str.ofString "/").length=1:=rfl;rw[LC,d];have h2:p.length*64<=64*64:=Nat.mul_le_mul_right _ h1;omega
  ·rw[nM];exact q
abbrev oH:Stmt:=eY 15
def rL(sb:Bool)(p:aE)(n:Nat):aE:=if sb=true then p.map (List.take n) else p.take n
def mr(sb:Bool)(p:aE)(n:Nat):aE:=if sb=true then p.map (List.drop n) else p.drop n
inductive rh(K:W.Frag)(vs:List V)(H:Hp)(Q:VK)(_E:XK):Prop
 |mk (sb:Bool) (a:Addr) (p:aE) (r c n:Nat) (_:vs=[.ref a,.bl sb,.int (n:Int)]) (_:aI K H a (av p)) (_:rect p r c) (_:r<=6) (_:c<=6) (_:n<=(if sb=true then c else r)) (_:∀(t l1 l2:Addr) (H':Hp),H t=none->H l1=none->H l2=none->l1≠l2->H' t=some (.tup [.ref l1,.ref l2])->H' l1=some (.lst (av (rL sb p n)))->H' l2=some (.lst (av (mr sb p n)))->ax H H'->Q (.ref t) H')
theorem AX:aC ["picture","side_by_side","at"] ["picture","side_by_side","at"] (ao oH):=by walk_at "c"
theorem CI{row:Mx}{n:Nat}(h:n<=row.length):Txt.slice (tx row) none (some (n:Int))=tx (row.take n):=by
 rw[gH,HT.sIx_nat,Ms h];show tx ((row.drop 0).take (n-0))=_;rw[Mt,Nat.sub_zero]
theorem yr{row:Mx}{n:Nat}(h:n<=row.length):Txt.slice (tx row) (some (n:Int)) none=tx (row.drop n):=by
 rw[gH,HT.sIx_nat,Ms h];show tx ((row.drop n).take (row.length-n))=_;rw[q0F (by rw[Mf];omega)]
theorem Fs{p:aE}{n:Nat}(h:n<=p.length):iS (av p) none (some (n:Int))=av (p.take n):=by
 unfold iS;rw[HT.sIx_nat,aq,Ms h];show((av p).drop 0).take (n-0)=_;rw[Mt,Nat.sub_zero];unfold av;rw[List.map_take]
theorem Ch{p:aE}{n:Nat}(h:n<=p.length):iS (av p) (some (n:Int)) none=av (p.drop n):=by
 unfold iS;rw[HT.sIx_nat,aq,Ms h];show((av p).drop n).take (p.length-n)=_;rw[q0F (by rw[Mf,aq];omega)];unfold av;rw[List.map_drop]
theorem zD{f:Addr}(F:cZ K "parted" "parted" oH f fd)(nb:NB mg):↑aY 1 f fd ["picture","side_by_side","at"] (rh K):=by
 have sc:=AX;walk_at "f"
 ·obtain⟨M,a,p,r,c,n,rfl,D,C,hr1,hc1,I,q⟩:=h
  refine⟨_,(ad (bM (eU (al 1) λ_=>rfl)
   (ai (aG (bz (aa (bS ["row"] [2] rfl (bA.of (by kernel_rfl)) (by kernel_rfl) (aS (al 0))
    (λ_ _ _ _=>(au (i:=0) (by show(["row","at"]:List Str).Nodup;decide +kernel) rfl (Or.inl rfl))) (λ_ _ _ _=>bT) (λ_ _ _ _=>(cU md (al 0) e_ (cr (al 1))))) (aa (bS ["row"] [2] rfl (bA.of (by kernel_rfl)) (by kernel_rfl) (aS (al 0))
    (λ_ _ _ _=>(au (i:=0) (by show(["row","at"]:List Str).Nodup;decide +kernel) rfl (Or.inl rfl))) (λ_ _ _ _=>bT) (λ_ _ _ _=>(cU md (al 0) (cr (al 1)) e_))) ac)))))
   aR)
   (ai (aG (bz (aa (cU sV (al 0) e_ (cr (al 2))) (aa (cU sV (al 0) (cr (al 2)) e_) ac)))))),?_⟩
  ext;cases M with
  |true=>
   rw[q07 rfl]at I ⊢;refine⟨⟨_,D⟩,dH (xs:=av p) (λi b σ u=>u=H/\b=av ((p.take i).map (List.take n))/\i<=p.length/\∃y,σ=[y,some (V.int (n:Int))]) ⟨rfl,rfl,L3 _,_,rfl⟩ ?_ ?_ ?_ ?_ ?_⟩
   ·rintro i b σ u ⟨_,rfl,L,_⟩
    rw[aq,LC,Me];exact aU (by rw[C.1]at *;omega)
   ·rintro i b σ u ⟨_,_,h,_⟩
    rw[aq];exact h
   ·rintro i b σ u ⟨rfl,_⟩
    exact D
   ·rintro i v b σ u B ⟨rfl,rfl,L,y,rfl⟩
    have x:i<p.length:=by have:=(LA.mp B).1;rwa [aq]at this
    rw[bC x]at B;cases B;have G:=C.2 _ (LK x);ext;refine⟨by rw[aw];exact am ⋯,?_,x⟩;rw[CI ⋯,q0E,Lz x,LO];exact(cQ _ _).symm
   ·rintro b σ u ⟨rfl,rfl,_⟩ g l
    rw[aq,Md];have j:ax u (aD u g (HO.lst (av (p.map (List.take n))))):=af l;have h1:aD u g (HO.lst (av (p.map (List.take n)))) g=some (HO.lst (av (p.map (List.take n)))):=ae;generalize aD u g (HO.lst (av (p.map (List.take n))))=H1 at j h1 ⊢;refine⟨⟨_,j.seq D⟩,dH (xs:=av p) (λi b σ H2=>H2=H1/\b=av ((p.take i).map (List.drop n))/\i<=p.length/\∃y,σ=[y,some (V.int (n:Int))]) ⟨rfl,rfl,L3 _,_,rfl⟩ ?_ ?_ ?_ ?_ ?_⟩
    ·rintro i b σ H2 ⟨_,rfl,L,_⟩
     rw[aq,LC,Me];exact aU (by rw[C.1]at *;omega)
    ·rintro i b σ H2 ⟨_,_,h,_⟩
     rw[aq];exact h
    ·rintro i b σ H2 ⟨rfl,_⟩
     exact j.seq D
    ·rintro i v b σ H2 B ⟨rfl,rfl,L,y,rfl⟩
     have x:i<p.length:=by have:=(LA.mp B).1;rwa [aq]at this
     rw[bC x]at B;cases B;have G:=C.2 _ (LK x);ext;refine⟨by rw[aw];exact am ⋯,?_,x⟩;rw[yr ⋯,q0E,Lz x,LO];exact(cQ _ _).symm
    ·rintro b σ H2 ⟨rfl,rfl,_⟩ z e
     rw[aq,Md];refine⟨am ⋯,λt m=>?_⟩;have J:g≠z:=aA h1 e;have d:∀o,ax H2 (aD H2 z o):=λo=>af e;refine q t g z _ ?_ l (j.free e) J ae ?_ ?_ ((j.trans (d _)).trans (af m))
     ·exact j.free ((d _).free m)
     ·exact(af m) _ _ ((d _) _ _ h1)
     ·exact(af m) _ _ ae
  |false=>
   rw[q06 nofun]at I ⊢;refine⟨_,D,λg l=>?_⟩;rw[Fs (by rw[C.1];exact I)];have j:ax H (aD H g (HO.lst (av (p.take n)))):=af l;have h1:aD H g (HO.lst (av (p.take n))) g=some (HO.lst (av (p.take n))):=ae;generalize aD H g (HO.lst (av (p.take n)))=H1 at j h1 ⊢;refine⟨_,j.seq D,λz e=>⟨am ⋯,λt m=>?_⟩⟩;rw[Ch (by rw[C.1];exact I)]at m ⊢;have J:g≠z:=aA h1 e;have d:∀o,ax H1 (aD H1 z o):=λo=>af e;refine q t g z _ ?_ l (j.free e) J ae ?_ ?_ ((j.trans (d _)).trans (af m))
   ·exact j.free ((d _).free m)
   ·exact(af m) _ _ ((d _) _ _ h1)
   ·exact(af m) _ _ ae
abbrev xB:Stmt:=eY 23
inductive yz(vs:List V)(H:Hp)(Q:VK)(_E:XK):Prop
 |mk (t:Nat) (_:vs=[.int (t:Int)]) (_:t<8) (_:Q (.int (cV t:Nat)) H)
theorem Es:aC ["t"] ["t"] (ao xB):=by walk_at "c"
theorem D3{f:Addr}(F:cZ K "back" "back" xB f fd):↑aY 1 f fd ["t"] yz:=by
 have sc:=Es;walk_at "f"
 ·obtain⟨t,rfl,ht,q⟩:=h
  refine⟨_,(ad (bM (aK (bu.m0 zf) (al 0) aj (aZ _))
   (ai (aG (az (bu.m1 bh) (az (bu.m0 i') aj (al 0)) aj)))
   aR)
   (ai (aG (al 0)))),?_⟩
  ext
  split
  ·have e:((cV t:Nat):Int)=(4-(t:Int))%4:=by unfold cV;rw[q07 ⋯];omega
   rw[<- e];exact q
  ·have e:((cV t:Nat):Int)=(t:Int):=by unfold cV;rw[q06 ⋯]
   rw[<- e];exact q
abbrev ik:Stmt:=eY 11
def bU(H:Hp):List Addr->List Wn->Prop
 | [],[]=>True
 |b::bs,x::xs=>H b=some (.tup (x.map V.int))/\bU H bs xs
 |_,_=>False
theorem bU.same(sm:ax H H'):∀{bs:MA} {xs:List Wn},bU H bs xs->bU H' bs xs
 | [],[],_=>trivial
 |_::_,_::_,h=>⟨sm _ _ h.1,bU.same sm h.2⟩
 | [],_::_,h=>h.elim
 |_::_,[],h=>h.elim
theorem bU.snoc{H:Hp}{x:Wn}(hb:H b=some (.tup (x.map V.int))):∀{bs:MA} {xs:List Wn},bU H bs xs->bU H (bs++[b]) (xs++[x])
 | [],[],_=>⟨hb,trivial⟩
 |_::_,_::_,h=>⟨h.1,bU.snoc hb h.2⟩
 | [],_::_,h=>h.elim
 |_::_,[],h=>h.elim
theorem bU.get:∀{bs:MA} {xs:List Wn} {i:Nat} {b:Addr},bU H bs xs->bs[i]?=some b->∃x,xs[i]?=some x/\H b=some (.tup (x.map V.int))
 | [],_,_,_,_,e=>by simp at e
 |c::bs,x::xs,0,b,h,e=>by simp at e;subst e;exact⟨x,rfl,h.1⟩
 |c::bs,x::xs,i+1,b,h,e=>by
  obtain⟨y,h1,h2⟩:=bU.get (i:=i) h.2 (by simpa using e);exact⟨y,by simpa using h1,h2⟩
 |_::_,[],_,_,h,_=>h.elim
theorem bU.length:∀{bs:MA} {xs:List Wn},bU H bs xs->bs.length=xs.length
 | [],[],_=>rfl
 |_::_,_::_,h=>by simp[bU.length h.2]
 | [],_::_,h=>h.elim
 |_::_,[],h=>h.elim
inductive jK(vs:List V)(H:Hp)(Q:VK)(_E:XK):Prop
 |mk (r c:Nat) (_:vs=[.int (r:Int),.int (c:Int)]) (_:r<=8) (_:c<=8) (_:∀(l:Addr) (bs:MA) (H':Hp),H l=none->H' l=some (.lst (bs.map V.ref))->bU H' bs (dJ r c)->ax H H'->Q (.ref l) H')
theorem qm:aC ["rows","columns","windows","top","left","bottom","right"] ["rows","columns"] (ao ik):=by walk_at "c"
structure gI(H H':Hp)(l:Addr)(xs:List Wn)(n:Nat):Prop where
 ex:∃bs:List Addr,H' l=some (.lst (bs.map V.ref))/\bU H' bs xs/\bs.length<=n
 sm:ax H H'
theorem gI.more{m:Nat}(h:gI H H' l xs n)(hm:n<=m):gI H H' l xs m:=
 ⟨let ⟨bs,h1,h2,h3⟩:=h.ex;⟨bs,h1,h2,L9 h3 hm⟩,h.sm⟩
theorem gI.snoc{H H':Hp}{x:Wn}{n:Nat}{bs:MA}(hl:H l=none)(h1:H' l=some (.lst (bs.map V.ref)))(h2:bU H' bs xs)(h3:bs.length<=n)(sm:ax H H')(hp:H' p=none) :
  gI H (aD (aD H' p (.tup (x.map V.int))) l (.lst (bs.map V.ref++[V.ref p]))) l (xs++[x]) (n+1):=by
 have d:p≠l:=λe=>by rw[e,h1]at hp;cases hp
 refine⟨⟨bs++[p],?_,?_,by rw[LZ,q0Y];omega⟩,cn (cn sm (sm.free hp)) hl⟩
 ·rw[ae,LO];rfl
 ·refine bU.snoc (by rw[ar d,ae]) ?_
  -- no tuple is the list
  have i:∀{b:MA} {a:List Wn},bU H' b a->bU (aD (aD H' p (.tup (x.map V.int))) l (.lst (bs.map V.ref++[V.ref p]))) b a:=by
   intro b
   induction b with
   |nil=>intro a h;cases a with
    |nil=>trivial
    |cons _ _=>exact h.elim
   |cons c b ih=>
    intro a h;cases a with
    |nil=>exact h.elim
    |cons y a=>
     have g:c≠l:=rf h.1 h1 (by intro z;cases z);exact⟨by rw[ar g,ar (aA h.1 hp)];exact h.1,ih h.2⟩
  exact i h2
theorem qi{f:Addr}(F:cZ K "windows_of" "windows_of" ik f fd)(nb:NB mg):↑aY 1 f fd ["rows","columns"] jK:=by
 have sc:=qm;walk_at "f"
 ·obtain⟨r,c,rfl,hr1,hc1,q⟩:=h
  refine⟨_,(ad (q01 2 sc.nd (ba ac))
   (ad (aQ PassesOwn.never rfl (bE rfl nb.range (aa (al 0) ac)) (q02 3 sc.nd)
   (ai (aQ PassesOwn.never rfl (bE rfl nb.range (aa (al 1) ac)) (q02 4 sc.nd)
   (ai (aQ PassesOwn.never rfl (jr rfl nb.range (aa (az (bu.m0 bP) (al 3) aj) (aa (az (bu.m0 bP) (al 0) aj) ac))) (q02 5 sc.nd)
   (ai (aQ PassesOwn.never rfl (jr rfl nb.range (aa (az (bu.m0 bP) (al 4) aj) (aa (az (bu.m0 bP) (al 1) aj) ac))) (q02 6 sc.nd)
   (ai (a_ (dy PySem.F.plainAttrs_list PySem.F.slot_list_append PySem.F.type_list_append bV (al 2) (aa (bz (aa (al 3) (aa (al 4) (aa (al 5) (aa (al 6) ac))))) ac)))))))))))
   (ai (aG (al 2))))),?_⟩
  ext;refine⟨am ⋯,λl y=>⟨⋯,⋯,?_⟩⟩;rw[LL];refine bv (lo:=0) (n:=r) (λt σ H1=>t<=r/\gI H H1 l (W1 r c t) (t*1000)/\∃j g d b,σ=[some (V.int r),some (V.int c),some (V.ref l),j,g,d,b])
   ⟨L3 _,⟨⟨[],ae,trivial,L3 _⟩,af y⟩,_,_,_,_,rfl⟩ ?_ ?_
  ·rintro t σ H1 I ⟨_,G,j,g,d,b,rfl⟩
   ext;refine⟨⋯,⋯,?_⟩;rw[LL];refine bv (lo:=0) (n:=c) (λa σ H2=>a<=c/\gI H H2 l (W1 r c t++W2 r c t a) (t*1000+a*100)/\∃g d b,σ=[some (V.int r),some (V.int c),some (V.ref l),some (V.int t),g,d,b])
    ⟨L3 _,by show gI H H1 l (W1 r c t++[]) _;rw[Ma];exact G.more ⋯,_,_,_,rfl⟩ ?_ ?_
   ·rintro a σ H2 x ⟨_,u,g,d,b,rfl⟩
    ext;refine⟨⋯,⋯,⋯,⋯,?_⟩;rw[show((r:Int)+1-((t:Int)+1)).toNat=r-t by omega];refine bv (lo:=(t:Int)+1) (n:=r-t) (λbt σ i=>bt<=r-t/\gI H i l (W1 r c t++W2 r c t a++W3 c t a bt) (t*1000+a*100+bt*10)/\∃d b,σ=[some (V.int r),some (V.int c),some (V.ref l),some (V.int t),some (V.int a),d,b])
     ⟨L3 _,by show gI H H2 l (W1 r c t++W2 r c t a++[]) _;rw[Ma];exact u.more ⋯,_,_,rfl⟩ ?_ ?_
    ·rintro bt σ i z ⟨_,o,d,b,rfl⟩
     ext;refine⟨⋯,⋯,⋯,⋯,?_⟩;rw[show((c:Int)+1-((a:Int)+1)).toNat=c-a by omega];refine bv (lo:=(a:Int)+1) (n:=c-a) (λk σ B=>k<=c-a/\gI H B l (W1 r c t++W2 r c t a++W3 c t a bt++W4 t a (t+1+bt) k) (t*1000+a*100+bt*10+k)/\∃b,σ=[some (V.int r),some (V.int c),some (V.ref l),some (V.int t),some (V.int a),some (V.int ((t:Int)+1+bt)),b])
      ⟨L3 _,by show gI H i l (W1 r c t++W2 r c t a++W3 c t a bt++[]) _;rw[Ma];exact o.more ⋯,_,rfl⟩ ?_ ?_
     ·rintro k σ B J ⟨_,m,b,rfl⟩
      obtain⟨⟨bs,h1,h2,D⟩,v⟩:=m;ext;refine⟨.inl ⟨rfl,_,aI.of h1⟩,am ⋯,λp C=>⟨_,by rw[ar (aA h1 C)];exact h1,?_,J,?_⟩⟩
      ·rw[LC];exact aU ⋯
      ·rw[D',<- Mb]
       have e:[V.int (t:Int),V.int (a:Int),V.int ((t:Int)+1+(bt:Int)),V.int ((a:Int)+1+(k:Int))]=(wn t a (t+1+bt) (a+1+k)).map V.int:=by unfold wn;simp
       rw[e];exact gI.snoc y h1 h2 D v C
     ·rintro σ B ⟨_,m,b,rfl⟩
      refine⟨z,?_,_,_,rfl⟩;rw[Ev,<- Mb];exact m.more ⋯
    ·rintro σ i ⟨_,o,d,b,rfl⟩
     refine⟨x,?_,_,_,_,rfl⟩;rw[DK,<- Mb];exact o.more ⋯
   ·rintro σ H2 ⟨_,u,g,d,b,rfl⟩
    refine⟨I,?_,_,_,_,_,rfl⟩;rw[Ec];exact u.more ⋯
  ·rintro σ H1 ⟨_,⟨⟨bs,h1,h2,D⟩,v⟩,j,g,d,b,rfl⟩
   ext;exact q l bs H1 y h1 h2 v
abbrev lT:Stmt:=eY 12
inductive CL(K:W.Frag)(vs:List V)(H:Hp)(Q:VK)(_E:XK):Prop
 |mk (a tp:Addr) (p:aE) (r c t l b x:Nat) (_:vs=[.ref a,.ref tp]) (_:aI K H a (av p)) (_:cK K H tp ((wn t l b x).map V.int)) (_:rect p r c) (_:r<=64) (_:c<=64) (_:t<b) (_:b<=r) (_:l<x) (_:x<=c) (_:fM H (cut p t l b x) Q)
theorem yn:aC ["picture","window","top","left","bottom","right"] ["picture","window"] (ao lT):=by walk_at "c"
theorem uW{row:Mx}{l x:Nat}(h1:l<=x)(h2:x<=row.length):Txt.slice (tx row) (some (l:Int)) (some (x:Int))=tx ((row.drop l).take (x-l)):=by
 rw[gH,HT.sIx_nat,HT.sIx_nat,Ms (show l<=row.length by omega),Ms h2]
theorem Bl{p:aE}{t b:Nat}(h1:t<=b)(h2:b<=p.length):iS (av p) (some (t:Int)) (some (b:Int))=av ((p.drop t).take (b-t)):=by
 unfold iS;rw[HT.sIx_nat,HT.sIx_nat,aq,Ms (show t<=p.length by omega),Ms h2];unfold av;rw[List.map_take,List.map_drop]
theorem xm{f:Addr}(F:cZ K "cut_out" "cut_out" lT f fd)(nb:NB mg):↑aY 1 f fd ["picture","window"] (CL K):=by
 have sc:=yn;walk_at "f"
 ·obtain⟨a,tp,p,r,c,t,l,b,x,rfl,O,u,J,hr1,hc1,h1,h2,h3,h4,q⟩:=h
  refine⟨_,(ad (q01 2 sc.nd (aM aP (al 1) aj (λ_ _=>rfl)))
   (ad (ay (i:=3) sc.nd rfl (Or.inr rfl) (aM aP (al 1) aj (λ_ _=>rfl)))
   (ad (q01 4 sc.nd (aM aP (al 1) aj (λ_ _=>rfl)))
   (ad (ay (i:=5) sc.nd rfl (Or.inr rfl) (aM aP (al 1) aj (λ_ _=>rfl)))
   (ai (aG (bS ["row"] [3,5] rfl (bA.of (by kernel_rfl)) (by kernel_rfl) (aS (cU sV (al 0) (cr (al 2)) (cr (al 4))))
    (λ_ _ _ _=>(au (i:=0) (by show(["row","left","right"]:List Str).Nodup;decide +kernel) rfl (Or.inl rfl))) (λ_ _ _ _=>bT) (λ_ _ _ _=>(cU md (al 0) (cr (al 1)) (cr (al 2))))))))))),?_⟩
  ext;refine⟨_,u,V.int t,bH (j:=0) rfl,_,u,V.int l,bH (j:=1) rfl,_,u,V.int b,bH (j:=2) rfl,_,u,V.int x,bH (j:=3) rfl,_,rfl,_,rfl,_,O,λG B=>⟨⟨_,aI.of ae⟩,?_⟩⟩;rw[Bl ⋯ (by rw[J.1];omega)];have I:∀row∈(p.drop t).take (b-t),row.length=c:=λrow e=>J.2 row (q0I (q0H e));have m:((p.drop t).take (b-t)).length<=64:=by rw[Me];omega
  generalize C:(p.drop t).take (b-t)=q0 at I m ⊢;have D:ax H (aD H G (HO.lst (av q0))):=af B;refine dH (xs:=av q0) (λi d σ g=>g=aD H G (HO.lst (av q0))/\d=av ((q0.take i).map λrow=>(row.drop l).take (x-l))/\i<=q0.length/\∃y,σ=[y,some (V.int l),some (V.int x)]) ⟨rfl,rfl,L3 _,_,rfl⟩ ?_ ?_ ?_ ?_ ?_
  ·rintro i d σ g ⟨_,rfl,M,_⟩
   rw[aq,LC,Me];exact aU ⋯
  ·rintro i d σ g ⟨_,_,h,_⟩
   rw[aq];exact h
  ·rintro i d σ g ⟨rfl,_⟩
   exact aI.of ae
  ·rintro i v d σ g z ⟨rfl,rfl,M,y,rfl⟩
   have o:i<q0.length:=by have:=(LA.mp z).1;rwa [aq]at this
   rw[bC o]at z;cases z;have e:=I _ (LK o);ext;refine⟨by rw[aw];exact am ⋯,?_,o⟩;rw[uW ⋯ ⋯,q0E,Lz o,LO];exact(cQ _ _).symm
  ·rintro d σ g ⟨rfl,rfl,_⟩ L n
   rw[aq,Md];refine q L _ (D.free n) ?_ (D.trans (af n));rw[ae];unfold cut;rw[C]
abbrev dU:Stmt:=eY 25
def zq(ss:MF):Prop:=ss≠[]/\(ss.headD ⟨#[]⟩).length<=64
inductive dE(K:W.Frag)(vs:List V)(H:Hp)(Q:VK)(_E:XK):Prop
 |mk (a:Addr) (ss:MF) (_:vs=[.ref a]) (_:aI K H a (ss.map V.str)) (_:zq ss) (_:∀t,H t=none->Q (.ref t) (aD H t (.tup [.int (gj ss),.ref a])))
theorem j5:aC ["picture"] ["picture"] (ao dU):=by walk_at "c"
theorem dD(K:W.Frag):∀l ss H Q E,aI K H l (ss.map V.str)->zq ss->(∀t,H t=none->Q (.ref t) (aD H t (.tup [.int (gj ss),.ref l])))->dE K [.ref l] H Q E:=λl ss H Q E h1 h2 h3=>⟨l,ss,rfl,h1,h2,h3⟩
theorem j6{f:Addr}(F:cZ K "cells_then_rows" "cells_then_rows" dU f fd)(nb:NB mg):↑aY 1 f fd ["picture"] (dE K):=by
 have sc:=j5;walk_at "f"
 ·obtain⟨a,c,rfl,b,e,q⟩:=h
  refine⟨_,(ai (aG (bz (aa (az (bu.m1 du) (aF bf rfl nb.len bi (aa (al 0) ac)) (aF aV rfl nb.len bi (aa (aM bD (al 0) aj (λ_ _=>rfl)) ac))) (aa (al 0) ac))))),?_⟩;ext;obtain⟨g,h1⟩:=e;obtain⟨z,c,rfl⟩:=List.exists_cons_of_ne_nil g;have h2:z.length<=64:=h1;have h3:((z.length:Nat):Int)<=64:=by omega
  refine⟨_,b,_,b,_,bH (j:=0) rfl,z,rfl,am ⋯,.inr ⟨⋯,⋯⟩,am ⋯,λp d=>?_⟩;have:=q p d;unfold gj at this;rw[LC];exact this
abbrev mx:Stmt:=eY 24
inductive oI(K:W.Frag)(vs:List V)(H:Hp)(Q:VK)(_E:XK):Prop
 |mk (a:Addr) (p:aE) (r c:Nat) (_:vs=[.ref a]) (_:aI K H a (av p)) (_:rect p r c) (_:0<r) (_:0<c) (_:r<=6) (_:c<=6) (_:bK p) (_:Hl p r c) (_:∀(H':Hp) (l:Addr) (zs:List AP),ax H H'->H l=none->H' l=some (.lst (zs.map λz=>V.ref z.1))->(∀z∈zs,H z.1=none/\H' z.1=some (.lst (av z.2)))->(zs.map (·.1)).Nodup->Gp p r c (zs.map (·.2))->zs.length<=8000->Q (.ref l) H')
theorem bU.dict{H:Hp}(hd:H d=some (.dK kvs)):∀{bs:MA} {xs:List Wn},bU H bs xs->bU (aD H d o) bs xs
 | [],[],_=>trivial
 |_::_,_::_,h=>⟨by rw[ar (rf h.1 hd (by intro e;cases e))];exact h.1,bU.dict hd h.2⟩
 | [],_::_,h=>h.elim
 |_::_,[],h=>h.elim
theorem xf:aC ["picture","found","window","part","t","seen"] ["picture"] (ao mx):=by walk_at "c"
theorem yo{f:Addr}(F:cZ K "seen_in" "seen_in" mx f fd)(nb:NB mg){tkT:Tok}(yam:mg "TURNINGS"=some (.int 8 tkT))(ybc:↑dk 1 "windows_of" ["rows","columns"] jK)(yay:↑dk 1 "cut_out" ["picture","window"] (CL K))(zja:↑dk 3 "turned" ["picture","t"] (jv K))(yab:↑dk 1 "shown" ["picture"] (dY K))(ya6:↑dk 1 "cells_then_rows" ["picture"] (dE K)):↑aY 4 f fd ["picture"] (oI K):=by
 have sc:=xf;have dD:=dD K;walk_at "f"
 ·obtain⟨a,p,r,c,rfl,hS,hp,b0,d6,c9,d5,d1,b4,q⟩:=h
  have hu:=hr.units;refine⟨_,(ad (q01 1 sc.nd lx)
   (ad (aQ PassesOwn.never rfl (aS (aH ybc (hr.mono nofun) rfl aL (aa (aF bf rfl nb.len bi (aa (al 0) ac)) (aa (aF aV rfl nb.len bi (aa (aM bD (al 0) aj (λ_ _=>rfl)) ac)) ac)))) (q02 2 sc.nd)
   (ad (q01 3 sc.nd (aH yay (hr.mono nofun) rfl aL (aa (al 0) (aa (al 2) ac))))
   (ai (aQ PassesOwn.never rfl (bE rfl nb.range (aa (cM (v:=.int 8) rfl yam ⟨_,rfl⟩) ac)) (q02 4 sc.nd)
   (ad (q01 5 sc.nd (aH zja (hr.mono nofun) rfl aL (aa (al 3) (aa (al 4) ac))))
   (ai (nO (Mg (Ml (by decide:1<=64) _) hu) (al 1) (aH yab (hr.mono nofun) rfl aL (aa (al 5) ac)) (al 5) rfl)))))))
   (ai (aG (A5 (hr.mono nofun) rfl rfl nb.sorted ya6 rfl dD (aa (Cq (al 1) rfl rfl) ac)))))),?_⟩
  ext;intro d hd;have a1:ax H (aD H d (HO.dK [])):=af hd;obtain⟨d2,O⟩:=kK hp b0;refine⟨_,a1.seq hS,_,a1.seq hS,_,bH (j:=0) (bC d2),_,rfl,by rw[aw,O];exact am ⋯,?_⟩;rw[aq,hp.1,aw,O];refine⟨r,c,rfl,⋯,⋯,λwl bs H1 hwl M a9 a5=>?_⟩;have a2:=DV b0 c9 d6 d5;have hlen:(dJ r c).length<=1000:=by unfold check at a2;simp only[q0O,q0a]at a2;exact a2.2
  have c0:=a9.length;have a6:=a1.trans a5;refine⟨_,rfl,⟨_,aI.of M⟩,?_⟩
  -- the windows
  refine bB (xs:=bs.map V.ref) (λi σ H2=>i<=bs.length/\(∃J,fz H H2 d (λx=>∃j,j<i/\∃u,u<8/\x=turned (Aa p ((dJ r c).getD j [])) u) J (8*i))/\H2 wl=some (.lst (bs.map V.ref))/\bU H2 bs (dJ r c)/\∃x2 x3 Y U,σ=[some (V.ref a),some (V.ref d),x2,x3,Y,U]) ?_ ?_ ?_ ?_
  ·refine⟨L3 _,⟨[],?_⟩,M,a9,_,_,_,_,rfl⟩
   exact⟨by rw[a5 _ _ ae];rfl,a6,hd,(λz hz=>nomatch hz),List.nodup_nil,List.nodup_nil,λx=>by simp,L3 _⟩
  ·rintro i σ H2 _ ⟨_,_,h,_⟩
   exact aI.of h
  ·rintro i x σ H2 hx ⟨_,⟨J,S⟩,a3,D,x2,x3,Y,U,rfl⟩
   rw[LF]at hx;cases I:bs[i]? with
   |none=>rw[I]at hx;cases hx
   |some bt=>
    rw[I]at hx;cases hx
    have hi:i<bs.length:=(LA.mp I).1;obtain⟨w0,a8,b8⟩:=D.get I;obtain⟨t,l,b,x,rfl,h1,h2,h3,h4⟩:=ki.mp (LG a8);ext;refine⟨a,bt,p,r,c,t,l,b,x,rfl,S.sm.seq hS,cK.of b8,hp,⋯,⋯,h1,h2,h3,h4,λpl H3 b2 b1 a0=>⟨⋯,?_⟩⟩;have b5:=cD hp h1 h2 h3 h4;have S3:=S.same a0;have c1:=a0 _ _ a3;have c4:=D.same a0;have hpl0:=S.sm.free b2;clear S b2 a3 D b8;have eW:(dJ r c).getD i []=wn t l b x:=by rw[q0A,a8];rfl
    have e8:Int.toNat 8=8:=rfl;rw[e8];refine bv (lo:=0) (n:=8) (λu σ H4=>(∃J,fz H H4 d (λy=>(∃j,j<i/\∃u,u<8/\y=turned (Aa p ((dJ r c).getD j [])) u)\/∃m,m<u/\y=turned (cut p t l b x) m) J (8*i+u))/\H4 pl=some (.lst (av (cut p t l b x)))/\H4 wl=some (.lst (bs.map V.ref))/\bU H4 bs (dJ r c)/\∃Y U,σ=[some (V.ref a),some (V.ref d),some (V.ref bt),some (V.ref pl),Y,U]) ?_ ?_ ?_
    ·exact⟨⟨J,S3.congr λy=>⟨.inl,λz=>z.elim id λ⟨m,c3,_⟩=>q0Q c3 (Nat.not_lt_zero _)⟩⟩,b1,c1,c4,_,_,rfl⟩
    ·rintro u σ H4 c2 ⟨⟨B,T⟩,G,C,a4,Y,U,rfl⟩
     ext;refine⟨pl,cut p t l b x,b-t,x-l,u,by simp,aI.of G,b5,⋯,⋯,⋯,⋯,c2,λbq H5 d7 R o=>?_⟩;obtain⟨o1,o2,r',c',o3,o4,o5,o6,o7⟩:=yM (u:=u) hp d1 h1 h2 h3 h4;have c6:dw (turned (cut p t l b x) u):=dw.of o3 ⋯ ⋯;have d4:((turned (cut p t l b x) u).headD []).length<=64:=by rw[bb o3 o4];omega
     obtain⟨e1,S5⟩:=T.step o d7 R o1 o2 d4;refine⟨bq,turned (cut p t l b x) u,rfl,R,c6,aD H5 d (.dK ((mw B (bq,turned (cut p t l b x) u)).map jA)),.inl ⟨B.map jA,_,o _ _ T.tbl,rfl,by rw[LC];exact aU (by have:=T.len;omega),by rw[e1]⟩,⟨_,S5.congr λy=>?_⟩,?_,?_,(a4.same o).dict (o _ _ T.tbl)⟩
     ·constructor
      ·rintro((z | ⟨m,L,g⟩) | z)
       ·exact .inl z
       ·exact .inr ⟨m,⋯,g⟩
       ·exact .inr ⟨u,⋯,z⟩
      ·rintro(z | ⟨m,L,g⟩)
       ·exact .inl (.inl z)
       ·by_cases hq:m=u
        ·exact .inr (by rw[g,hq])
        ·exact .inl (.inr ⟨m,⋯,g⟩)
     ·rw[ar (rf G T.tbl (by intro e;cases e))];exact o _ _ G
     ·rw[ar (rf C T.tbl (by intro e;cases e))];exact o _ _ C
    ·rintro σ H4 ⟨⟨B,T⟩,G,C,a4,Y,U,rfl⟩
     refine⟨hi,⟨B,T.congr λy=>?_⟩,C,a4,_,_,_,_,rfl⟩
     constructor
     ·rintro(⟨j,L,g⟩ | ⟨m,L,g⟩)
      ·exact⟨j,⋯,g⟩
      ·exact⟨i,⋯,m,L,by rw[eW,kQ];exact g⟩
     ·rintro⟨j,L,m,g,z3⟩
      by_cases hq:j=i
      ·rw[hq,eW,kQ]at z3
       exact .inr ⟨m,g,z3⟩
      ·exact .inl ⟨j,⋯,m,g,z3⟩
  ·rintro σ H2 ⟨_,⟨J,S⟩,a3,D,x2,x3,Y,U,rfl⟩
   ext;refine⟨_,S.tbl,λv hv=>⟨d,ae,J.map FV,?_,?_,?_,?_⟩⟩
   ·rw[ar (aA S.tbl hv),S.tbl,LQ];rfl
   ·have:=b4 (J.map (·.2)) S.ndp λx hx=>by
     have h:=(S.mem x).mp hx;rw[LC,c0]at h;exact mf.mpr h
    rwa [LC]at this ⊢
   ·intro e he
    obtain⟨z,hz,rfl⟩:=Mi.mp he;obtain⟨L,g,z3,z4,z5⟩:=S.each z hz;refine⟨?_,?_,?_⟩
    ·refine aI.of ?_
     show aD H2 v (vG v d) z.1=some (.lst ((z.2.map tx).map V.str));rw[ar (aA g hv),g,fK]
    ·show z.2.map tx≠[]
     exact λe=>z3 (List.map_eq_nil_iff.mp e)
    ·show((z.2.map tx).headD ⟨#[]⟩).length<=64
     rw[yA];exact z5
   ·intro es pe se H' l' a7 d3 b3
    obtain⟨ws,pw,rfl⟩:=vd pe _ rfl;have Z:ax H2 (aD H2 v (vG v d)):=af hv;refine q H' l' ws (S.sm.trans (Z.trans a7)) (S.sm.free (Z.free d3)) ?_ ?_ ?_ ?_ (by have h1:=S.len;have h2:=pw.length_eq;rw[LC]at h1;omega)
    ·rw[b3,LQ];rfl
    ·intro z hz
     obtain⟨L,g,_⟩:=S.each z (pw.mem_iff.mp hz);exact⟨L,a7 _ _ (Z _ _ g)⟩
    ·exact(pw.map _).nodup_iff.mpr S.nda
    ·refine⟨λy=>?_,A6 se ((pw.map _).nodup_iff.mpr S.ndp)⟩
     rw[(pw.map _).mem_iff,S.mem,mf,LC,c0]
abbrev Ky:=List Nat×List Nat
def Fv(k:Ky):List V:=[.str (tx k.1),.str (tx k.2)]
def j4(k:Ky):List cO:=[.inr (tx k.1),.inr (tx k.2)]
theorem cN(h:tx a=tx b):a=b:=by
 have e:(tx a).cps.toList=(tx b).cps.toList:=by rw[h]
 rwa [cg,cg]at e
theorem wu(h:j4 a=j4 b):a=b:=by
 obtain⟨a1,a2⟩:=a;obtain⟨b1,b2⟩:=b;unfold j4 at h;simp only[List.cons.injEq,Sum.inr.injEq,and_true]at h;rw[cN h.1,cN h.2]
def bo(H:Hp)(a:Addr)(k:Ky):Prop:=H a=some (.tup (Fv k))
theorem bo.up{k:Ky}(h:bo H a k)(s:ax H H'):bo H' a k:=s _ _ h
theorem bo.put{k:Ky}(h:bo H a k)(hl:H l=some (.lst xs)):bo (aD H l o) a k:=by
 have b:H a=some (.tup (Fv k)):=h;show aD H l o a=_;rw[ar (λz=>by rw[z,hl]at b;cases b)];exact b
abbrev bp(p:aE):List Nat:=SpM.glue 47 p
theorem zg{β:Type}{A:Hp->Addr->β->Prop}(u:∀{H H':Hp} {b:Addr} {y:β},A H b y->ax H H'->A H' b y){H H':Hp}{l:Addr}{ys:List β}(h:k_ A H l ys)(s:ax H H'):k_ A H' l ys:=by
 obtain⟨bs,h1,h2⟩:=h;exact⟨bs,s _ _ h1,h2.mono λb y _ _ q=>u q s⟩
abbrev kE:Hp->Addr->List Ky->Prop:=k_ bo
theorem tV(h:kE H b y)(s:ax H H'):kE H' b y:=zg (A:=bo) bo.up h s
def bQ(sb:Bool)(p:aE)(m:Nat):List Ky:=(List.range (m-1)).map λj=>(bp (rL sb p (j+1)),bp (mr sb p (j+1)))
def eQ(CC:Addr)(H:Hp)(c:Addr)(p:aE):Prop:=∃dx lp lb la,H c=some (.ins CC dx [("picture",.ref lp),("text",.str (tx (bp p))),("beside_texts",.ref lb),("above_texts",.ref la)])/\H lp=some (.lst (av p))/\k_ bo H lb (bQ true p (p.headD []).length)/\k_ bo H la (bQ false p p.length)
theorem eQ.up(h:eQ CC H c p)(s:ax H H'):eQ CC H' c p:=by
 obtain⟨i,a,b,d,h1,h2,g,e⟩:=h;exact⟨i,a,b,d,s _ _ h1,s _ _ h2,zg (A:=bo) bo.up g s,zg (A:=bo) bo.up e s⟩
def bW(r:Nat×RV)(p:aE):List (List Ky):=match r.1 with
 |0=>if bp p=r.2.sg then[[]] else[]
 |1=>(bQ true p (p.headD []).length).map λk=>[(k.1,r.2.o1),(k.2,r.2.o2)]
 |2=>(bQ false p p.length).map λk=>[(k.1,r.2.o1),(k.2,r.2.o2)]
 |_=>[[(bp (turned p (cV r.2.t.toNat)),r.2.o1)]]
def bZ(T:Ky->Option Int):Int->List Ky->Option Int
 |c,[]=>some c
 |c,k::ks=>match T k with
  |none=>none
  |some v=>bZ T (c+v) ks
def iN(H:Hp)(d:Addr)(T:Ky->Option Int):Prop:=∃kvs,H d=some (.dT kvs)/\∀k,cJ kvs (j4 k)=(T k).map V.int
theorem iN.up(h:iN H d T)(s:ax H H'):iN H' d T:=let ⟨kvs,h1,h2⟩:=h;⟨kvs,s _ _ h1,h2⟩
theorem iN.get{k:Ky}(h:iN H d T)(hb:bo H b k):kJ H d (.ref b) ((T k).map V.int):=by
 obtain⟨kvs,h1,h2⟩:=h;rw[<- h2 k];exact kJ.t h1 hb
structure dQ(p:aE)(r c:Nat):Prop where
 rc:rect p r c
 r0:0<r
 r6:r<=6
 c0:0<c
 c6:c<=6
theorem dQ.small(h:dQ p r c):dw p:=dw.of h.rc (by have:=h.r6;omega) (by have:=h.c6;omega)
theorem uD{ks:List Ky}{fs:List (Str×V)}(h:k_ bo H l ks)(ha:H a=some (.ins C dx fs)):k_ bo (aD H a o) l ks:=by
 obtain⟨bs,h1,h2⟩:=h;exact⟨bs,by rw[ar (λz=>by rw[z,ha]at h1;cases h1)];exact h1,h2.mono λb y _ _ q=>by
  have c:H b=some (.tup (Fv y)):=q;show aD H a o b=_;rw[ar (λz=>by rw[z,ha]at c;cases c)];exact c⟩
theorem dP{c:Prop}[Decidable c]{A B:Prop}(hA:c->A)(hB:¬ c->B):if c then A else B:=by
 by_cases h:c
 ·rw[q07 h];exact hA h
 ·rw[q06 h];exact hB h
abbrev fH:Stmt:=eY 28
inductive iu(K:W.Frag)(vs:List V)(H:Hp)(Q:VK)(_E:XK):Prop
 |mk (sb:Bool) (a:Addr) (p:aE) (r c m:Nat) (_:vs=[.ref a,.bl sb,.int (m:Int)]) (_:aI K H a (av p)) (_:dQ p r c) (_:m=(if sb=true then c else r)) (_:∀l H',H l=none->k_ bo H' l (bQ sb p m)->ax H H'->Q (.ref l) H')
theorem nq:aC ["picture","side_by_side","many","texts","at","two"] ["picture","side_by_side","many"] (ao fH):=by walk_at "c"
theorem sW{sb:Bool}(h:dQ p r c):dw (rL sb p n)/\dw (mr sb p n):=by
 have:=h.small;cases sb with
 |true=>
  refine⟨⟨?_,λx a=>?_⟩,⟨?_,λx a=>?_⟩⟩
  ·show(p.map _).length<=_;rw[LC];exact this.1
  ·obtain⟨y,b,rfl⟩:=Mi.mp a
   rw[Me];exact L9 (Nat.min_le_right _ _) (this.2 y b)
  ·show(p.map _).length<=_;rw[LC];exact this.1
  ·obtain⟨y,b,rfl⟩:=Mi.mp a
   rw[Mf];exact L9 (Nat.sub_le _ _) (this.2 y b)
 |false=>
  refine⟨⟨?_,λx a=>?_⟩,⟨?_,λx a=>?_⟩⟩
  ·show(p.take n).length<=_;rw[Me];exact L9 (Nat.min_le_right _ _) this.1
  ·exact this.2 x (q0H a)
  ·show(p.drop n).length<=_;rw[Mf];exact L9 (Nat.sub_le _ _) this.1
  ·exact this.2 x (q0I a)
theorem m9{f:Addr}(F:cZ K "parted_texts" "parted_texts" fH f fd)(nb:NB mg)(yaP:↑dk 1 "parted" ["picture","side_by_side","at"] (rh K))(yab:↑dk 1 "shown" ["picture"] (dY K)):↑aY 2 f fd ["picture","side_by_side","many"] (iu K):=by
 have sc:=nq;walk_at "f"
 ·obtain⟨sb,a,p,r,c,m,rfl,hS,e,T,q⟩:=h
  have:=e.r6;have:=e.c6;have:=e.r0;have:=e.c0;have m1:1<=m/\m<=6:=by rw[T];split<;>omega
  refine⟨_,(ad (q01 3 sc.nd (ba ac))
   (ad (aQ PassesOwn.never rfl (jr rfl nb.range (bL (aa (al 2) ac))) (q02 4 sc.nd)
   (ad (q01 5 sc.nd (aH yaP (hr.mono nofun) rfl aL (aa (al 0) (aa (al 1) (aa (al 4) ac)))))
   (ai (a_ (dy PySem.F.plainAttrs_list PySem.F.slot_list_append PySem.F.type_list_append bV (al 3) (aa (bz (aa (aH yab (hr.mono nofun) rfl aL (aa (aM aP (al 5) aj (λ_ _=>rfl)) ac)) (aa (aH yab (hr.mono nofun) rfl aL (aa (aM aP (al 5) aj (λ_ _=>rfl)) ac)) ac))) ac))))))
   (ai (aG (al 3))))),?_⟩
  symm;refine⟨L3 _,λl L=>h1 _ _ ?_⟩;clear h1;generalize z:aD H l _=H1;obtain⟨U,e1⟩:=gn L z;symm;rw[show((m:Int)-1).toNat=m-1 by omega];refine⟨nofun,⋯,⋯,?_⟩;refine bv (lo:=1) (n:=m-1) (λi σ g=>ax H g/\i<=m-1/\(∃bs:List Addr,g l=some (.lst (bs.map V.ref))/\aO bo g bs ((List.range i).map λj=>(bp (rL sb p (j+1)),bp (mr sb p (j+1)))))/\∃x y,σ=[some (V.ref a),some (V.bl sb),some (V.int (m:Int)),some (V.ref l),x,y]) ⟨U,L3 _,⟨[],e1,aO.nil⟩,_,_,rfl⟩ ?_ ?_
  ·rintro i σ g hi ⟨u,_,⟨bs,O,v⟩,x,y,rfl⟩
   symm;refine⟨sb,a,p,r,c,i+1,by push_cast;rw[Int.add_comm],u.seq hS,e.rc,⋯,⋯,by rw[<- T];omega,λt Z Y H2 ht hl1 hl2 hne et S R I=>h1 _ _ ?_⟩;clear h1;obtain⟨D,C⟩:=sW (sb:=sb) (n:=i+1) e;ext;have o:=I _ _ O;refine⟨.inl ⟨rfl,_,aI.of o⟩,_,cK.of et,_,rfl,Z,rL sb p (i+1),rfl,S,D,_,cK.of et,_,rfl,Y,mr sb p (i+1),rfl,R,C,am nofun,λB J=>?_⟩;generalize z:aD H2 B _=H3;obtain⟨G,(e3:bo H3 B (bp (rL sb p (i+1)),bp (mr sb p (i+1))))⟩:=gn J z;have d:=G _ _ o;have M:=v.1;rw[LC,q0J]at M;refine⟨_,d,by rw[LC];exact aU ⋯,cn ((u.trans I).trans G) L,⋯,bs++[B],by rw[ae,LO];rfl,?_⟩;rw[q0M,LO];exact(v.mono λb y _ _ h=>((h.up I).up G).put d).snoc (e3.put d)
  ·rintro σ g ⟨u,_,⟨bs,O,v⟩,x,y,rfl⟩
   refine h1 _ _ ?_;ext;exact q l g L ⟨bs,O,v⟩ u
abbrev gc:Stmt:=i8 27 0
def Ff(K:W.Frag)(C:Addr):Prop:=aB K C "picture"/\aB K C "text"/\aB K C "beside_texts"/\aB K C "above_texts"
inductive gR(K:W.Frag)(vs:List V)(H:Hp)(Q:VK)(_E:XK):Prop
 |mk (a C dx b:Addr) (p:aE) (r c:Nat) (_:vs=[.ref a,.ref b]) (_:H a=some (.ins C dx [])) (_:iE K C) (_:Ff K C) (_:H b=some (.lst (av p))) (_:dQ p r c) (_:∀H',eQ C H' a p->aT a H H'->Q .non H')
theorem sL:aC ["self","picture"] ["self","picture"] (ao gc):=by walk_at "c"
theorem tD{f:Addr}(F:cZ K "__init__" "Cuts.__init__" gc f fd)(nb:NB mg)(yab:↑dk 1 "shown" ["picture"] (dY K))(yar:↑dk 2 "parted_texts" ["picture","side_by_side","many"] (iu K)):↑aY 3 f fd ["self","picture"] (gR K):=by
 have sc:=sL;walk_at "f"
 ·obtain⟨a,C,d,b,p,r,c,rfl,S,I,⟨n1,n2,n3,n4⟩,o,i,q⟩:=h
  refine⟨_,(ad (cy (al 0) (b7 b_ rfl nb.list dR (aa (al 1) ac)) rfl)
   (ad (cy (al 0) (aH yab (hr.mono nofun) rfl aL (aa (al 1) ac)) rfl)
   (ad (cy (al 0) (aH yar (hr.mono nofun) rfl aL (aa (al 1) (aa rZ (aa (aF aV rfl nb.len bi (aa (aM bD (al 1) aj (λ_ _=>rfl)) ac)) ac)))) rfl)
   (ai (cy (al 0) (aH yar (hr.mono nofun) rfl aL (aa (al 1) (aa rZ (aa (aF bf rfl nb.len bi (aa (al 1) ac)) ac)))) rfl))))),?_⟩
  symm;refine⟨_,.inl (aI.of o),λl B=>⟨C,d,_,af B _ _ S,I,n1,nofun,h1 _ _ ?_⟩⟩;clear h1;have j:l≠a:=λe=>by rw[e,S]at B;cases B
  have m:b≠a:=λe=>by rw[e,S]at o;cases o
  have M:aT a H (aD (aD H l (.lst (av p))) a (.ins C d [("picture",.ref l)])):=(aT.of (af B)).put;have e1:aD (aD H l (.lst (av p))) a (.ins C d [("picture",.ref l)]) a=some (.ins C d [("picture",.ref l)]):=ae;have l1:aD (aD H l (.lst (av p))) a (.ins C d [("picture",.ref l)]) l=some (.lst (av p)):=by rw[ar j,ae]
  change vZ _ _ _ _ (aD (aD H l (.lst (av p))) a (.ins C d [("picture",.ref l)]));generalize aD (aD H l (.lst (av p))) a (.ins C d [("picture",.ref l)])=H1 at M e1 l1 ⊢;have b1:=M _ _ m o;have d1:¬ (("picture":Str)="text"):=by decide +kernel
  have d2:¬ (("picture":Str)="beside_texts"):=by decide +kernel
  have d3:¬ (("picture":Str)="above_texts"):=by decide +kernel
  have d4:¬ (("text":Str)="beside_texts"):=by decide +kernel
  have d5:¬ (("text":Str)="above_texts"):=by decide +kernel
  have d6:¬ (("beside_texts":Str)="above_texts"):=by decide +kernel
  have Y:cC "text" (V.str (tx (bp p))) [(("picture":Str),V.ref l)]=[(("picture":Str),V.ref l),(("text":Str),V.str (tx (bp p)))]:=by simp only[cC,q06 d1]
  symm;refine⟨b,p,rfl,b1,i.small,C,d,_,e1,I,n2,by simp,?_⟩;rw[Y];refine h1 _ _ ?_;clear h1;have L:aT a H (aD H1 a (.ins C d [("picture",.ref l),("text",.str (tx (bp p)))])):=M.put;have G:aD H1 a (.ins C d [("picture",.ref l),("text",.str (tx (bp p)))]) a=some (.ins C d [("picture",.ref l),("text",.str (tx (bp p)))]):=ae;have l2:aD H1 a (.ins C d [("picture",.ref l),("text",.str (tx (bp p)))]) l=some (.lst (av p)):=by rw[ar j];exact l1
  generalize aD H1 a (.ins C d [("picture",.ref l),("text",.str (tx (bp p)))])=H2 at L G l2 ⊢;have b2:=L _ _ m o;have:=i.r6;have:=i.c6;obtain⟨R,u⟩:=kK i.rc i.r0;symm;refine⟨_,aI.of b2,_,(show ip _ ((0:Nat):Int)=_ from bH (bC R)),_,rfl,by rw[aw];exact am ⋯,?_⟩;rw[aw,u];refine⟨true,b,p,r,c,c,rfl,aI.of b2,i,rfl,λg y v eb z=>⟨C,d,_,z _ _ G,I,n3,by simp,?_⟩⟩;have hbl:g≠a:=λe=>by rw[e,G]at v;cases v
  have U:cC "beside_texts" (V.ref g) [(("picture":Str),V.ref l),(("text":Str),V.str (tx (bp p)))]=[(("picture":Str),V.ref l),(("text":Str),V.str (tx (bp p))),(("beside_texts":Str),V.ref g)]:=by simp only[cC,q06 d2,q06 d4]
  rw[U];refine h1 _ _ ?_;clear h1;have J:aT a H (aD y a (.ins C d [("picture",.ref l),("text",.str (tx (bp p))),("beside_texts",.ref g)])):=(L.then z).put;have D:aD y a (.ins C d [("picture",.ref l),("text",.str (tx (bp p))),("beside_texts",.ref g)]) a=some (.ins C d [("picture",.ref l),("text",.str (tx (bp p))),("beside_texts",.ref g)]):=ae;have Z:aD y a (.ins C d [("picture",.ref l),("text",.str (tx (bp p))),("beside_texts",.ref g)]) l=some (.lst (av p)):=by rw[ar j];exact z _ _ l2
  have x:k_ bo (aD y a (.ins C d [("picture",.ref l),("text",.str (tx (bp p))),("beside_texts",.ref g)])) g (bQ true p c):=uD eb (z _ _ G);generalize aD y a (.ins C d [("picture",.ref l),("text",.str (tx (bp p))),("beside_texts",.ref g)])=H4 at J D Z x ⊢;have b3:=J _ _ m o;ext;refine⟨_,aI.of b3,?_⟩;rw[aq,i.rc.1];refine⟨false,b,p,r,c,r,rfl,aI.of b3,i,rfl,λO H5 hla5 ea n=>⟨C,d,_,n _ _ D,I,n4,by simp,?_⟩⟩;have T:cC "above_texts" (V.ref O) [(("picture":Str),V.ref l),(("text":Str),V.str (tx (bp p))),(("beside_texts":Str),V.ref g)]=[(("picture":Str),V.ref l),(("text":Str),V.str (tx (bp p))),(("beside_texts":Str),V.ref g),(("above_texts":Str),V.ref O)]:=by simp only[cC,q06 d3,q06 d5,q06 d6]
  rw[T];refine q _ ⟨d,l,g,O,ae,by rw[ar j];exact n _ _ Z,?_,?_⟩ ((J.then n).put)
  ·rw[bb i.rc i.r0]
   exact uD (zg (A:=bo) bo.up x n) (n _ _ D)
  ·rw[i.rc.1]
   exact uD ea (n _ _ D)
abbrev d_:Stmt:=i8 27 1
inductive fA(CC:Addr)(vs:List V)(H:Hp)(Q:VK)(_E:XK):Prop
 |mk (a:Addr) (p:aE) (r c t:Nat) (_:vs=[.ref a,.int (t:Int)]) (_:eQ CC H a p) (_:dQ p r c) (_:t<8) (_:∀H',ax H H'->Q (.str (tx (bp (turned p t)))) H')
theorem pJ:aC ["self","t"] ["self","t"] (ao d_):=by walk_at "c"
theorem dQ.turned(h:dQ p r c)(t:Nat):∃r' c',dQ (turned p t) r' c':=by
 have:=dj h.rc h.r0 h.c0 t;have h1:=h.r0;have h2:=h.c0;have h3:=h.r6;have h4:=h.c6;exact⟨_,_,this,by split<;>omega,by split<;>omega,by split<;>omega,by split<;>omega⟩
theorem ow{f:Addr}(F:cZ K "turned_text" "Cuts.turned_text" d_ f fd)(nb:NB mg)(cl:iE K CC)(na:Ff K CC)(zja:↑dk 3 "turned" ["picture","t"] (jv K))(yab:↑dk 1 "shown" ["picture"] (dY K)):↑aY 4 f fd ["self","t"] (fA CC):=by
 have sc:=pJ;walk_at "f"
 ·obtain⟨a,p,r,c,t,rfl,⟨o,g,lb,la,m,j,_,_⟩,b,i,q⟩:=h
  refine⟨_,(ai (aG (aH yab (hr.mono nofun) rfl aL (aa (aH zja (hr.mono nofun) rfl aL (aa (bJ (al 0) rfl) (aa (al 1) ac))) ac)))),?_⟩;have:=b.r6;have:=b.c6;obtain⟨r',c',d⟩:=b.turned t;ext;refine⟨CC,o,_,m,cl,na.1,_,rfl,g,p,r,c,t,rfl,aI.of j,b.rc,b.r0,b.c0,⋯,⋯,i,λl H1 hl n e=>⟨l,turned p t,rfl,n,d.small,q H1 e⟩⟩
def o_(H0 H:Hp)(b:Addr)(y:List Ky):Prop:=H0 b=none/\kE H b y
theorem o_.up{H0:Hp}(h:o_ H0 H b y)(s:ax H H'):o_ H0 H' b y:=⟨h.1,tV h.2 s⟩
inductive dC(CC C:Addr)(t:Nat)(vs:List V)(H:Hp)(Q:VK)(_E:XK):Prop
 |mk (a dx lp cu:Addr) (v:RV) (p:aE) (r c:Nat) (_:vs=[.ref a,.ref cu]) (_:H a=some (.ins C dx (v9 t lp v))) (_:eQ CC H cu p) (_:dQ p r c) (_:0<=v.t) (_:v.t<=7) (_:∀l H',H l=none->k_ (o_ H) H' l (bW (t,v) p)->ax H H'->Q (.ref l) H')
abbrev fS:Stmt:=i8 38 4
theorem su:aC ["self","cuts"] ["self","cuts"] (ao fS):=by walk_at "c"
theorem tP{f:Addr}(F:cZ K "ways" "CellRule.ways" fS f fd)(cc:iE K CC)(nc:Ff K CC)(cl:iE K C)(na:aB K C "sign"):↑aY 1 f fd ["self","cuts"] (dC CC C 0):=by
 have sc:=su;walk_at "f"
 ·obtain⟨a,l,lp,cu,v,p,r,c,rfl,j,⟨m,b,l2,l3,i,_,_,_⟩,hp,t0,t7,q⟩:=h
  refine⟨_,(ai (aG (C6 (aK dN (bJ (al 1) rfl) (bJ (al 0) rfl) (aZ _)) (ba (aa (ba ac) ac)) (ba ac)))),?_⟩;ext;refine⟨CC,m,_,i,cc,nc.2.1,_,rfl,C,l,_,j,cl,na,_,rfl,rfl,?_⟩;refine dP (λe=>?_) (λe=>?_)
  ·rw[show bW (0,v) p=[[]] from q07 (cN (V.str.inj e))]at q
   exact⟨L3 _,λg d=>⟨am nofun,λb h1=>q b _ ((af d).free h1) ⟨[g],ae,aO.one ⟨d,[],af h1 _ _ ae,aO.nil⟩⟩ ((af d).trans (af h1))⟩⟩
  ·rw[show bW (0,v) p=[] from q06 λh=>e (by rw[h])]at q
   exact⟨L3 _,λb h1=>q b _ h1 ⟨[],ae,aO.nil⟩ (af h1)⟩
abbrev d9:Stmt:=i8 39 4
theorem pj:aC ["self","cuts"] ["self","cuts"] (ao d9):=by walk_at "c"
theorem pM{f:Addr}(F:cZ K "ways" "BesideRule.ways" d9 f fd)(cc:iE K CC)(nc:Ff K CC)(cl:iE K C)(na:aB K C "one"/\aB K C "other"):↑aY 1 f fd ["self","cuts"] (dC CC C 1):=by
 have sc:=pj;walk_at "f"
 ·obtain⟨a,Y,lp,cu,v,p,r,c,rfl,ha,⟨dc,l1,l2,l3,hc,_,⟨bs,U,O⟩,_⟩,J,t0,t7,q⟩:=h
  have hu:=hr.units;refine⟨_,(ai (aG (bS ["first","second"] [0] rfl (bA.of (by kernel_rfl)) (by kernel_rfl) (aS (bJ (al 1) rfl))
    (λ_ _ _ _=>(kG (K:=K) (n:=2) rfl rfl (aW (au (i:=0) (by show(["first","second","self"]:List Str).Nodup;decide +kernel) rfl (Or.inl rfl)) (aW (au (i:=1) (by show(["first","second","self"]:List Str).Nodup;decide +kernel) rfl (Or.inl rfl)) cW)))) (λ_ _ _ _=>bT) (λ_ _ _ _=>(ba (aa (bz (aa (al 0) (aa (nE (K:=K) rfl (al 2) rfl) ac))) (aa (bz (aa (al 1) (aa (nE (K:=K) rfl (al 2) rfl) ac))) ac))))))),?_⟩
  ext;refine⟨CC,dc,_,hc,cc,nc.2.2.1,_,rfl,_,rfl,⟨_,aI.of U⟩,?_⟩;have m:(bs.zip (bQ true p (p.headD []).length)).length=(bW (1,v) p).length:=by
   show _=((bQ true p (p.headD []).length).map _).length;rw[q0N,O.1,LC,Nat.min_self]
  have hpl:(bQ true p (p.headD []).length).length<=6:=by
   unfold bQ;rw[LC,q0J,bb J.rc J.r0];have:=J.c6;omega
  refine ib (o_ H) o_.up (as:=bs.zip (bQ true p (p.headD []).length)) (emb:=λx=>V.ref x.1) (ys:=bW (1,v) p) m (λσ=>∃x y,σ=[x,y,some (V.ref a)]) ⟨_,_,rfl⟩ (λR s=>by rw[<- O.zip];exact aI.of (s _ _ U)) (by rw[q0N];omega) ?_ ?_
  ·rintro i ⟨b,k⟩ y hx hy σ R N1 N0 ⟨x0,y0,rfl⟩ d k1
   obtain⟨L,M⟩:=O.at hx;have L:(bQ true p (p.headD []).length)[i]?=some k:=L;have j:((bQ true p (p.headD []).length).map λk=>[(k.1,v.o1),(k.2,v.o2)])[i]?=some y:=hy;rw[LF,L]at j;cases j;ext;have Z:=d _ _ ha;refine⟨_,cK.of (d _ _ M),rfl,_,_,rfl,_,_,rfl,rfl,C,Y,_,Z,cl,na.1,_,rfl,am nofun,λz I=>?_⟩;generalize D:aD R z _=H1;obtain⟨T,(e1:bo H1 z (k.1,v.o1))⟩:=gn I D;refine⟨C,Y,_,T _ _ Z,cl,na.2,_,rfl,am nofun,λu G=>⟨am nofun,λl g=>?_⟩⟩;generalize D:aD H1 u _=H2 at g ⊢;obtain⟨S,(e2:bo H2 u (k.2,v.o2))⟩:=gn G D;have B:=af (o:=.lst [V.ref z,V.ref u]) g;have e:=T.trans S;exact k1 l _ _ ⟨d.free (e.free g),[z,u],ae,aO.two ((e1.up S).up B) (e2.up B)⟩ (d.trans (e.trans B)) (e.trans B) ⟨_,_,rfl⟩
  ·intro ws R d hW l g
   exact q l _ (d.free g) ⟨ws,ae,hW.mono λb y _ _ h=>o_.up h (af g)⟩ (d.trans (af g))
abbrev ft:Stmt:=i8 40 4
theorem qt:aC ["self","cuts"] ["self","cuts"] (ao ft):=by walk_at "c"
theorem ql{f:Addr}(F:cZ K "ways" "AboveRule.ways" ft f fd)(cc:iE K CC)(nc:Ff K CC)(cl:iE K C)(na:aB K C "one"/\aB K C "other"):↑aY 1 f fd ["self","cuts"] (dC CC C 2):=by
 have sc:=qt;walk_at "f"
 ·obtain⟨a,Y,lp,cu,v,p,r,c,rfl,ha,⟨dc,l1,l2,l3,hc,_,_,⟨bs,U,M⟩⟩,T,t0,t7,q⟩:=h
  have hu:=hr.units;refine⟨_,(ai (aG (bS ["first","second"] [0] rfl (bA.of (by kernel_rfl)) (by kernel_rfl) (aS (bJ (al 1) rfl))
    (λ_ _ _ _=>(kG (K:=K) (n:=2) rfl rfl (aW (au (i:=0) (by show(["first","second","self"]:List Str).Nodup;decide +kernel) rfl (Or.inl rfl)) (aW (au (i:=1) (by show(["first","second","self"]:List Str).Nodup;decide +kernel) rfl (Or.inl rfl)) cW)))) (λ_ _ _ _=>bT) (λ_ _ _ _=>(ba (aa (bz (aa (al 0) (aa (nE (K:=K) rfl (al 2) rfl) ac))) (aa (bz (aa (al 1) (aa (nE (K:=K) rfl (al 2) rfl) ac))) ac))))))),?_⟩
  ext;refine⟨CC,dc,_,hc,cc,nc.2.2.2,_,rfl,_,rfl,⟨_,aI.of U⟩,?_⟩;have m:(bs.zip (bQ false p p.length)).length=(bW (2,v) p).length:=by
   show _=((bQ false p p.length).map _).length;rw[q0N,M.1,LC,Nat.min_self]
  have hpl:(bQ false p p.length).length<=6:=by
   unfold bQ;rw[LC,q0J,T.rc.1];have:=T.r6;omega
  refine ib (o_ H) o_.up (as:=bs.zip (bQ false p p.length)) (emb:=λx=>V.ref x.1) (ys:=bW (2,v) p) m (λσ=>∃x y,σ=[x,y,some (V.ref a)]) ⟨_,_,rfl⟩ (λO s=>by rw[<- M.zip];exact aI.of (s _ _ U)) (by rw[q0N];omega) ?_ ?_
  ·rintro i ⟨b,k⟩ y hx hy σ O N1 N0 ⟨x0,y0,rfl⟩ d k1
   obtain⟨J,L⟩:=M.at hx;have J:(bQ false p p.length)[i]?=some k:=J;have j:((bQ false p p.length).map λk=>[(k.1,v.o1),(k.2,v.o2)])[i]?=some y:=hy;rw[LF,J]at j;cases j;ext;have Z:=d _ _ ha;refine⟨_,cK.of (d _ _ L),rfl,_,_,rfl,_,_,rfl,rfl,C,Y,_,Z,cl,na.1,_,rfl,am nofun,λz I=>?_⟩;generalize D:aD O z _=H1;obtain⟨S,(e1:bo H1 z (k.1,v.o1))⟩:=gn I D;refine⟨C,Y,_,S _ _ Z,cl,na.2,_,rfl,am nofun,λu G=>⟨am nofun,λl g=>?_⟩⟩;generalize D:aD H1 u _=H2 at g ⊢;obtain⟨R,(e2:bo H2 u (k.2,v.o2))⟩:=gn G D;have B:=af (o:=.lst [V.ref z,V.ref u]) g;have e:=S.trans R;exact k1 l _ _ ⟨d.free (e.free g),[z,u],ae,aO.two ((e1.up R).up B) (e2.up B)⟩ (d.trans (e.trans B)) (e.trans B) ⟨_,_,rfl⟩
  ·intro ws O d hW l g
   exact q l _ (d.free g) ⟨ws,ae,hW.mono λb y _ _ h=>o_.up h (af g)⟩ (d.trans (af g))
abbrev fW:Stmt:=i8 41 4
theorem uJ:aC ["self","cuts"] ["self","cuts"] (ao fW):=by walk_at "c"
theorem tF{f:Addr}(F:cZ K "ways" "TurnRule.ways" fW f fd)(cc:jB K CC)(cl:iE K C)(na:aB K C "part"/\aB K C "turning")(zKa:↑ij 4 CC "turned_text" ["self","t"] (fA CC))(yaI:↑dk 1 "back" ["t"] yz):↑aY 5 f fd ["self","cuts"] (dC CC C 3):=by
 have sc:=uJ;walk_at "f"
 ·obtain⟨a,D,lp,O,v,p,r,c,rfl,z,B,I,G,t7,q⟩:=h
  refine⟨_,(ai (aG (ba (aa (ba (aa (bz (aa (kq zKa (hr.mono nofun) aL (al 1) (aa (aH yaI (hr.mono nofun) rfl aL (aa (bJ (al 0) rfl) ac)) ac)) (aa (bJ (al 0) rfl) ac))) ac)) ac)))),?_⟩;ext;obtain⟨M,g,y,l3,J,hr1⟩:=id B;refine⟨M,_,J,rfl,C,D,_,z,cl,na.2,_,rfl,v.t.toNat,?_,⋯,?_⟩
  ·rw[Mr G]
  have x:cV v.t.toNat<8:=(by decide:∀t,t<8->cV t<8) _ ⋯;refine⟨O,p,r,c,cV v.t.toNat,rfl,B,I,x,λH1 e=>⟨C,D,_,e _ _ z,cl,na.1,_,rfl,am nofun,λj u=>⟨am nofun,λg d=>⟨am nofun,λy b=>?_⟩⟩⟩⟩;generalize i:aD H1 j _=H2 at d b ⊢;obtain⟨n,(e2:bo H2 j (bp (turned p (cV v.t.toNat)),v.o1))⟩:=gn u i;generalize i:aD H2 g _=H3 at b ⊢;obtain⟨m,L⟩:=gn d i;have l:=af (o:=.lst [V.ref g]) b;exact q y _ (e.free (n.free (m.free b))) ⟨[g],ae,aO.one ⟨e.free (n.free d),[j],l _ _ L,aO.one ((e2.up m).up l)⟩⟩ (e.trans (n.trans (m.trans l)))
def pi(R:RC)(CC:Addr):List (Addr×Sp):=[(R.cc,dC CC R.cc 0),(R.cb,dC CC R.cb 1),(R.ca,dC CC R.ca 2),(R.ct,dC CC R.ct 3)]
theorem Cy{R:RC}{CC:Addr}{k cu:Addr}{Q:VK}(hk:k<4)(ra:gv R H k a v)(hC:eQ CC H cu p)(hp:dQ p r c)(t0:0<=v.t)(t7:v.t<=7)(q:∀l H',H l=none->k_ (o_ H) H' l (bW (k,v) p)->ax H H'->Q (.ref l) H') :
  ∃o∈pi R CC,∃dx fs,H a=some (.ins o.1 dx fs)/\fs.lookup ("ways":Str)=none/\o.2 [.ref a,.ref cu] H Q E:=by
 obtain⟨dx,l,h1,h2⟩:=ra;rcases fk hk with rfl | rfl | rfl | rfl
 ·exact⟨(R.cc,dC CC R.cc 0),by simp[pi],dx,_,h1,rfl,a,dx,l,cu,v,p,r,c,rfl,h1,hC,hp,t0,t7,q⟩
 ·exact⟨(R.cb,dC CC R.cb 1),by simp[pi],dx,_,h1,rfl,a,dx,l,cu,v,p,r,c,rfl,h1,hC,hp,t0,t7,q⟩
 ·exact⟨(R.ca,dC CC R.ca 2),by simp[pi],dx,_,h1,rfl,a,dx,l,cu,v,p,r,c,rfl,h1,hC,hp,t0,t7,q⟩
 ·exact⟨(R.ct,dC CC R.ct 3),by simp[pi],dx,_,h1,rfl,a,dx,l,cu,v,p,r,c,rfl,h1,hC,hp,t0,t7,q⟩
abbrev my:Stmt:=eY 29
def vg:Option Int->V
 |some c=>.int c
 |none=>.non
inductive pI(R:RC)(vs:List V)(H:Hp)(Q:VK)(_E:XK):Prop
 |mk (a lw d:Addr) (k:Nat) (v:RV) (way:List Ky) (T:Ky->Option Int) (_:vs=[.ref a,.ref lw,.ref d]) (_:gv R H k a v) (_:kE H lw way) (_:iN H d T) (_:Q (vg (bZ T v.c way)) H)
theorem xV:aC ["rule","way","told","cost","key"] ["rule","way","told"] (ao my):=by walk_at "c"
theorem yf{f:Addr}(F:cZ K "cost_by" "cost_by" my f fd)(nb:NB mg)(rk:lF K R):↑aY 1 f fd ["rule","way","told"] (pI R):=by
 have sc:=xV;walk_at "f"
 ·obtain⟨a,J,d,k,v,e,T,rfl,⟨rdx,I,n,_⟩,⟨bs,C,D⟩,O,q⟩:=h
  have B:=hr.units;refine⟨_,(ad (q01 3 sc.nd (bJ (al 0) rfl))
   (ad (aQ PassesOwn.never rfl (aS (al 1)) (q02 4 sc.nd)
   (ad (bM (lL (lQ (Mg (Ml (by decide:1<=64) _) B) (al 4) (al 2)) (by with_unfolding_all rfl))
   (ai (aG jX))
   aR)
   (ai (q01 3 sc.nd (az (bu.m0 bP) (al 3) (lh (Mg (Ml (by decide:1<=64) _) B) (al 2) (al 4) (λ_ _=>rfl)))))))
   (ai (aG (al 3))))),?_⟩
  symm;refine⟨_,_,_,n,(rk.icls k).cl,(rk.name k).2.1,_,(ji I v k).2.1,h1 _ _ ?_⟩;grind;refine⟨⟨_,aI.of C⟩,?_⟩;refine bB (xs:=bs.map V.ref) (λi σ m=>m=H/\i<=e.length/\∃(c:Int) (x:Option V),bZ T v.c e=bZ T c (e.drop i)/\σ=[some (V.ref a),some (V.ref J),some (V.ref d),some (V.int c),x]) ⟨rfl,L3 _,v.c,_,rfl,rfl⟩ (λi σ m _ h=>by rw[h.1];exact aI.of C) ?_ ?_
  ·rintro i x σ m z ⟨rfl,L,c,G,j,rfl⟩
   rw[LF]at z;obtain⟨b,y,rfl⟩:=L6.mp z;obtain⟨g,p,o⟩:=D.get y;have nB:=(LA.mp p).1;have M:e.drop i=g::e.drop (i+1):=by
    rw[q0T nB];rw[Lz nB]at p;cases p;rfl
   rw[M,show bZ T c (g::e.drop (i+1))=(match T g with | none=>none | some v=>bZ T (c+v) (e.drop (i+1))) from rfl]at j;have r:=O.get o;symm;refine⟨_,r,?_⟩;cases l:T g with
   |none=>
    rw[l]at j;rw[q07 (by rfl)];rw[show bZ T v.c e=none from j]at q;exact q
   |some u=>
    rw[l]at j r;rw[q06 (by simp)];refine h1 _ _ ?_;clear h1;ext;exact⟨_,r,_,rfl,nB,_,j,rfl⟩
  ·rintro σ m ⟨rfl,L,c,G,j,rfl⟩
   refine h1 _ _ ?_;ext;rw[LC,D.1,List.drop_length]at j;rw[j]at q;exact q
def xt(T:Ky->Option Int)(p:aE)(n:Nat)(r:Nat×RV):List (Int×Nat×List Ky):=(bW r p).filterMap λw=>(bZ T r.2.c w).map λc=>(c,n,w)
def cS(T:Ky->Option Int)(rs:Yaa)(p:aE)(n:Nat):List (Int×Nat×List Ky):=match rs[n]? with
 |none=>[]
 |some r=>xt T p n r
def tI(H:Hp)(b:Addr)(y:Int×Nat×List Ky):Prop:=∃lw,H b=some (.tup [.int y.1,.int (y.2.1:Int),.ref lw])/\kE H lw y.2.2
def i5(l:Addr)(H:Hp)(b:Addr)(y:Int×Nat×List Ky):Prop:=∃lw,lw≠l/\H b=some (.tup [.int y.1,.int (y.2.1:Int),.ref lw])/\kE H lw y.2.2
theorem i5.up(h:i5 l H b y)(s:ax H H'):i5 l H' b y:=let ⟨lw,h0,h1,h2⟩:=h;⟨lw,h0,s _ _ h1,tV h2 s⟩
theorem zo(h:kE H a y)(hl:H l=some (.lst xs))(ne:a≠l):kE (aD H l o) a y:=by
 obtain⟨bs,h1,h2⟩:=h;exact⟨bs,by rw[ar ne];exact h1,h2.mono λb k _ _ q=>q.put hl⟩
theorem i5.put(h:i5 l H b y)(hl:H l=some (.lst xs)):i5 l (aD H l o) b y:=by
 obtain⟨c,a,h1,h2⟩:=h;exact⟨c,a,by rw[ar (λz=>by rw[z,hl]at h1;cases h1)];exact h1,zo h2 hl a⟩
abbrev oG:Stmt:=eY 30
inductive qO(R:RC)(CG CC:Addr)(vs:List V)(H:Hp)(Q:VK)(_E:XK):Prop
 |mk (g dx ln cu d:Addr) (sg st:Mx) (as:MA) (rs:Yaa) (ns:Mx) (p:aE) (r c:Nat) (T:Ky->Option Int) (_:vs=[.ref g,.ref ln,.ref cu,.ref d]) (_:dv R H CG dx g sg st as rs) (_:(∀r∈rs,kH r)) (_:H ln=some (.lst (wz ns))) (_:(∀n∈ns,n<rs.length)) (_:ns.length<=100) (_:eQ CC H cu p) (_:dQ p r c) (_:iN H d T) (_:∀l H',H l=none->k_ tI H' l (ns.flatMap (cS T rs p))->ax H H'->Q (.ref l) H')
theorem zT:aC ["grammar","numbers","cuts","told","found","number","rule","way","cost"] ["grammar","numbers","cuts","told"] (ao oG):=by walk_at "c"
theorem rE{r:Nat×RV}(h4:r.1<4)(hp:dQ p a c):(bW r p).length<=6:=by
 obtain⟨k,v⟩:=r;have:=hp.r6;have:=hp.c6;rcases fk h4 with h | h | h | h<;>(simp only at h;subst h)
 ·show(if bp p=v.sg then[[]] else[]).length<=6
  split<;>simp
 ·show((bQ true p (p.headD []).length).map _).length<=6
  unfold bQ;rw[LC,LC,q0J,bb hp.rc hp.r0];omega
 ·show((bQ false p p.length).map _).length<=6
  unfold bQ;rw[LC,LC,q0J,hp.rc.1];omega
 ·show([[_]]:List (List Ky)).length<=6
  simp
theorem A_{α β:Type}(f:α->List β){xs:List α}{i:Nat}{x:α}(h:xs[i]?=some x):(xs.take (i+1)).flatMap f=(xs.take i).flatMap f++f x:=by
 rw[q0E,h,List.flatMap_append];simp
theorem Ap{f:Addr}(F:cZ K "coming" "coming" oG f fd)(nb:NB mg)(yao:↑ij 1 CG "rule" ["self","k"] (fq R CG))(ya7:↑xK 5 "ways" (pi R CC))(yba:↑dk 1 "cost_by" ["rule","way","told"] (pI R)):↑aY 6 f fd ["grammar","numbers","cuts","told"] (qO R CG CC):=by
 have sc:=zT;walk_at "f"
 ·obtain⟨g,dx,ln,cu,d,sg,st,as,M,ns,p,r,c,T,rfl,hG,hg,b1,c1,hn100,hC,hp,hT,q⟩:=h
  have hu:=hr.units;refine⟨_,(ad (q01 4 sc.nd (ba ac))
   (ad (aQ PassesOwn.never rfl (aS (al 1)) (q02 5 sc.nd)
   (ad (q01 6 sc.nd (kq yao (hr.mono nofun) aL (al 0) (aa (al 5) ac)))
   (ai (aQ PassesOwn.never rfl (aS (DT ya7 (hr.mono nofun) aL (al 6) (aa (al 2) ac))) (q02 7 sc.nd)
   (ad (q01 8 sc.nd (aH yba (hr.mono nofun) rfl aL (aa (al 6) (aa (al 7) (aa (al 3) ac)))))
   (ai (bM (aK nw (al 8) jX (aZ _))
   (ai (a_ (dy PySem.F.plainAttrs_list PySem.F.slot_list_append PySem.F.type_list_append bV (al 4) (aa (bz (aa (al 8) (aa (al 5) (aa (al 7) ac)))) ac))))
   aR)))))))
   (ai (aG (al 4))))),?_⟩
  symm;refine⟨L3 _,λl hl=>h1 _ _ ?_⟩;clear h1;generalize z0:aD H l _=H1;obtain⟨s1,e1⟩:=gn hl z0;symm;refine⟨⟨_,aI.of (s1 _ _ b1)⟩,?_⟩;refine bB (xs:=wz ns) (λi σ Z=>ax H Z/\i<=ns.length/\(∃bs:List Addr,Z l=some (.lst (bs.map V.ref))/\aO (i5 l) Z bs ((ns.take i).flatMap (cS T M p))/\bs.length<=6*i)/\∃x1 x2 x3 x4,σ=[some (V.ref g),some (V.ref ln),some (V.ref cu),some (V.ref d),some (V.ref l),x1,x2,x3,x4]) ⟨s1,L3 _,⟨[],e1,aO.nil,L3 _⟩,_,_,_,_,rfl⟩ (λi σ Z _ h=>aI.of (h.1 _ _ b1)) ?_ ?_
  ·rintro i x σ Z hx ⟨sm,_,⟨bs,Y,hA,c2⟩,x1,x2,x3,x4,rfl⟩
   rw[wz,LF]at hx;obtain⟨n,hn,rfl⟩:=L6.mp hx;have hi:=(LA.mp hn).1;have a8:=c1 n (LG hn);obtain⟨m,G⟩:∃m,M[n]?=some m:=⟨_,Lz a8⟩;have D:=hg m (LG G);have b5:=hG.up sm;obtain⟨lk,pn,t0,ha,hkk,a5,hN,hmm⟩:=id b5;obtain⟨b,U⟩:∃b,as[n]?=some b:=⟨_,Lz (by rw[a5.1];exact a8)⟩;have c0:=a5.2 n b m U G;rw[A_ _ hn,show cS T M p n=xt T p n m by unfold cS;rw[G]];symm;refine⟨dx,_,ha,rfl,g,dx,sg,st,as,M,n,b,rfl,b5,U,h1 _ _ ?_⟩;clear h1;ext;refine Cy D.k4 c0 (hC.up sm) hp D.good.t0 D.good.t7 λlw H2 b0 hW s2=>?_;obtain⟨ws,a2,b4⟩:=hW;have hwl:=rE D.k4 hp;refine⟨lw,rfl,⟨_,aI.of a2⟩,?_⟩;have a0:=sm.trans s2;have hT2:=hT.up a0;have a7:gv R H m.1 b m.2:=let ⟨_,_,_,_,_,hrs0,_,_⟩:=hG;hrs0.2 n b m U G
   have c3:=s2 _ _ Y;have a9:lw≠l:=λe=>by rw[e,Y]at b0;cases b0
   have h0:aO (i5 l) H2 bs ((ns.take i).flatMap (cS T M p)++((bW m p).take 0).filterMap λw=>(bZ T m.2.c w).map λc=>(c,n,w)):=by
    show aO (i5 l) H2 bs ((ns.take i).flatMap (cS T M p)++[]);rw[Ma];exact hA.mono λb y _ _ h=>h.up s2
   refine bB (xs:=ws.map V.ref) (λj σ L=>ax H L/\L lw=some (.lst (ws.map V.ref))/\aO kE L ws (bW m p)/\(∀a∈ws,a≠l)/\j<=ws.length/\(∃bs:List Addr,L l=some (.lst (bs.map V.ref))/\aO (i5 l) L bs ((ns.take i).flatMap (cS T M p)++((bW m p).take j).filterMap λw=>(bZ T m.2.c w).map λc=>(c,n,w))/\bs.length<=6*i+j)/\∃x1 x2,σ=[some (V.ref g),some (V.ref ln),some (V.ref cu),some (V.ref d),some (V.ref l),some (V.int (n:Int)),some (V.ref b),x1,x2])
    ⟨a0,a2,b4.mono λ_ _ _ _ h=>h.2,λa ha=>?_,L3 _,⟨bs,c3,h0,⋯⟩,_,_,rfl⟩ (λj σ L _ h=>aI.of h.2.1) ?_ ?_
   ·obtain⟨j,hj⟩:=List.mem_iff_getElem?.mp ha
    obtain⟨y,_,hy⟩:=b4.get hj;exact λe=>by have:=hy.1;rw[e,Y]at this;cases this
   ·rintro j x σ L hx ⟨u,S,o,z,_,⟨J,B,C,b2⟩,y1,y2,rfl⟩
    rw[LF]at hx;obtain⟨wa,O,rfl⟩:=L6.mp hx;obtain⟨v,a4,a1⟩:=o.get O;have hj:=(LA.mp O).1;have hwlen:=o.1;have a6:=a7.up u;symm;refine⟨b,wa,d,m.1,m.2,v,T,rfl,a6,a1,hT.up u,h1 _ _ ?_⟩;clear h1;rw[q0E,a4,List.filterMap_append,<- Mb];ext;cases b3:bZ T m.2.c v with
    |none=>
     rw[q06 (λh=>h rfl)];refine⟨u,S,o,z,hj,J,B,?_,⋯⟩;rw[show(some v).toList.filterMap (λw=>(bZ T m.2.c w).map λc=>(c,n,w))=[] by simp[b3],Ma];exact C
    |some cst=>
     rw[q07 (λh=>nomatch h)];refine⟨.inl ⟨rfl,_,aI.of B⟩,am nofun,λtp b8=>?_⟩;generalize z0:aD L tp _=H4;obtain⟨s4,(e4:H4 tp=some (.tup [.int cst,.int (n:Int),.ref wa]))⟩:=gn b8 z0;have I:=s4 _ _ B;have a3:=z wa (LG O);refine⟨_,I,by rw[LC];exact aU ⋯,cn (u.trans s4) hl,by rw[ar a9];exact s4 _ _ S,o.mono λb y Y _ h=>zo (tV h s4) I (z b Y),z,hj,J++[tp],by rw[ae,LO];rfl,?_,by rw[LZ];simp;omega⟩;rw[show(some v).toList.filterMap (λw=>(bZ T m.2.c w).map λc=>(c,n,w))=[(cst,n,v)] by simp[b3]];exact(C.mono λb y _ _ h=>(h.up s4).put I).snoc (i5.put ⟨wa,a3,e4,tV a1 s4⟩ I)
   ·rintro σ L ⟨u,S,o,z,_,⟨J,B,C,b2⟩,y1,y2,rfl⟩
    rw[LC,o.1,Md]at C;rw[LC]at b2;exact⟨u,hi,⟨J,B,C,by have:=o.1;omega⟩,_,_,_,_,rfl⟩
  ·rintro σ Z ⟨sm,_,⟨bs,Y,hA,c2⟩,x1,x2,x3,x4,rfl⟩
   refine h1 _ _ ?_;ext;rw[wz,LC,Md]at hA;exact q l Z hl ⟨bs,Y,hA.mono λb y _ _ h=>let ⟨lw,_,h1,h2⟩:=h;⟨lw,h1,h2⟩⟩ sm
def Ha:HO->Prop
 | .dT _=>True
 |_=>False
def Kp(H H':Hp):Prop:=∀x o,¬ Ha o->H x=some o->H' x=some o
theorem Kp.lst{H H':Hp}(s:Kp H H'){a:Addr}{xs:List V}(h:H a=some (.lst xs)):H' a=some (.lst xs):=s _ _ id h
theorem Kp.tup{H H':Hp}(s:Kp H H'){a:Addr}{xs:List V}(h:H a=some (.tup xs)):H' a=some (.tup xs):=s _ _ id h
theorem Kp.ins{H H':Hp}(s:Kp H H'){a C dx:Addr}{fs:List (Str×V)}(h:H a=some (.ins C dx fs)):H' a=some (.ins C dx fs):=s _ _ id h
theorem Kp.dK{H H':Hp}(s:Kp H H'){a:Addr}{fs:List (cO×V)}(h:H a=some (.dK fs)):H' a=some (.dK fs):=s _ _ id h
theorem bR.kp(h:bR R H as rs)(s:Kp H H'):bR R H' as rs:=by
 refine⟨h.1,λi a r c b=>?_⟩;obtain⟨d,l,h1,h2⟩:=h.2 i a r c b;exact⟨d,l,s.ins h1,s.lst h2⟩
theorem dv.kp{st:Mx}(g:dv R H C dx a sg st as rs)(s:Kp H H'):dv R H' C dx a sg st as rs:=by
 obtain⟨d,c,t,h1,h2,j,b,i⟩:=g;exact⟨d,c,t,s.ins h1,s.lst h2,j.kp s,⟨s.dK b.dict,λx e=>s.lst (b.list x e),b.apart⟩,i⟩
theorem aT.kp(s:aT d H H')(hd:H d=some (.dT m)):Kp H H':=λx o h e=>s x o (λz=>by rw[z,hd]at e;cases e;exact h trivial) e
theorem Bf{β:Type}{A:Hp->Addr->β->Prop}(u:∀{b:Addr} {y:β},A H b y->A H' b y)(s:Kp H H'){l:Addr}{ys:List β}(h:k_ A H l ys):k_ A H' l ys:=by
 obtain⟨bs,h1,h2⟩:=h;exact⟨bs,s.lst h1,h2.mono λb y _ _ q=>u q⟩
theorem bo.kp{k:Ky}(h:bo H a k)(s:Kp H H'):bo H' a k:=s.tup h
theorem eQ.kp(h:eQ CC H c p)(s:Kp H H'):eQ CC H' c p:=by
 obtain⟨i,a,b,d,h1,h2,g,e⟩:=h;exact⟨i,a,b,d,s.ins h1,s.lst h2,Bf (A:=bo) (λq=>q.kp s) s g,Bf (A:=bo) (λq=>q.kp s) s e⟩
theorem tI.kp(h:tI H b y)(s:Kp H H'):tI H' b y:=let ⟨lw,h1,h2⟩:=h;⟨lw,s.tup h1,Bf (A:=bo) (λq=>q.kp s) s h2⟩
abbrev Tb:=List (Ky×Int)
def qj(e:Ky×Int):List cO×V:=(j4 e.1,.int e.2)
def aN(tb:Tb)(k:Ky):Option Int:=(tb.find? λe=>decide (e.1=k)).map (·.2)
def qv(tb:Tb)(k:Ky)(v:Int):Tb:=if(aN tb k).isSome=true then tb.map (λe=>if e.1=k then(e.1,v) else e) else tb++[(k,v)]
theorem d8(e:Ky×Int)(tb:Tb)(k:Ky):aN (e::tb) k=if e.1=k then some e.2 else aN tb k:=by
 unfold aN;rw[List.find?_cons]
 by_cases h:e.1=k
 ·simp[h]
 ·simp[h]
theorem wq(tb:Tb)(k:Ky):cJ (tb.map qj) (j4 k)=(aN tb k).map V.int:=by
 induction tb with
 |nil=>rfl
 |cons e tb ih=>
  rw[L8,d8]
  by_cases h:e.1=k
  ·rw[cz (show(qj e).1=j4 k from q0R j4 h),q07 h];rfl
  ·rw[cE (λq=>h (wu q)),q06 h];exact ih
theorem Dy(tb:Tb)(k:Ky)(v:Int):dl (tb.map qj) (j4 k) (.int v)=(qv tb k v).map qj:=by
 unfold dl qv;rw[eG,wq,Option.isSome_map]
 split
 ·rw[LQ,LQ]
  refine q0K λe _=>?_;show(if j4 e.1=j4 k then(j4 e.1,V.int v) else qj e)=qj (if e.1=k then(e.1,v) else e)
  by_cases h:e.1=k
  ·rw[q07 (q0R j4 h),q07 h];rfl
  ·rw[q06 λq=>h (wu q),q06 h]
 ·rw[LO];rfl
theorem wj(k:Ky)(v:Int)(k':Ky):∀tb:Tb,aN (tb.map λe=>if e.1=k then(e.1,v) else e) k'=if k'=k then(aN tb k).map λ_=>v else aN tb k'
 | []=>by simp[aN]
 |e::tb=>by
  rw[L8,d8,d8,d8,wj k v k' tb]
  by_cases h:e.1=k
  ·by_cases h':k'=k
   ·simp[h,h']
   ·have:¬ k=k':=λq=>h' q.symm
    simp[h,h',this]
  ·by_cases h':k'=k
   ·subst h';simp[h]
   ·simp[h,h']
theorem rm(k:Ky)(v:Int)(k':Ky):∀tb:Tb,aN (tb++[(k,v)]) k'=match aN tb k' with
  |some u=>some u
  |none=>if k=k' then some v else none
 | []=>by simp[aN]
 |e::tb=>by
  rw[List.cons_append,d8,d8,rm k v k' tb]
  by_cases h:e.1=k'
  ·simp[h]
  ·simp[h]
theorem zx(tb:Tb)(k:Ky)(v:Int)(k':Ky):aN (qv tb k v) k'=if k'=k then some v else aN tb k':=by
 unfold qv
 split
 ·rename_i h
  rw[wj];obtain⟨u,hu⟩:=Option.isSome_iff_exists.mp h;rw[hu];rfl
 ·rename_i h
  rw[rm]
  by_cases e:k'=k
  ·subst e
   have:aN tb k'=none:=by simpa using h
   rw[this,q07 rfl]
  ·rw[q06 e,q06 λq=>e q.symm]
   cases aN tb k'<;>rfl
theorem Bv{k:Ky}(h:aN tb k=none):k∉tb.map (·.1):=by
 intro a;obtain⟨e,b,rfl⟩:=Mi.mp a;unfold aN at h;rw[Option.map_eq_none_iff,List.find?_eq_none]at h;exact h e b (by simp)
theorem Dp{tb:Tb}(nd:(tb.map (·.1)).Nodup){k:Ky}{v:Int}(h:(k,v)∈tb):aN tb k=some v:=by
 induction tb with
 |nil=>exact nomatch h
 |cons e tb ih=>
  rw[L8,q0b]at nd;rw[d8];rcases LR.mp h with rfl | h
  ·rw[q07 rfl]
  ·rw[q06 λq=>nd.1 (by rw[q];exact Mi.mpr ⟨_,h,rfl⟩)]
   exact ih nd.2 h
theorem r8(tb:Tb)(k:Ky)(v:Int):(qv tb k v).map (·.1)=if(aN tb k).isSome=true then tb.map (·.1) else tb.map (·.1)++[k]:=by
 unfold qv
 split
 ·rw[LQ]
  refine q0K λe _=>?_;show(if e.1=k then(e.1,v) else e).1=e.1
  split<;>rfl
 ·rw[LO];rfl
theorem DQ{tb:Tb}{k:Ky}(nd:(tb.map (·.1)).Nodup):((qv tb k v).map (·.1)).Nodup:=by
 rw[r8]
 split
 ·exact nd
 ·rename_i h
  rw[List.nodup_append];refine⟨nd,by simp,λa ha b hb e=>?_⟩;rw[LD.mp hb]at e;exact Bv (by simpa using h) (e▸ha)
theorem Cb(tb:Tb)(k:Ky)(v:Int):(qv tb k v).length=if(aN tb k).isSome=true then tb.length else tb.length+1:=by
 have:=q0R List.length (r8 tb k v);rw[LC]at this;rw[this]
 split
 ·rw[LC]
 ·rw[LZ,LC];rfl
def cj(H:Hp)(d:Addr)(tb:Tb):Prop:=H d=some (.dT (tb.map qj))
theorem cj.told(h:cj H d tb):iN H d (aN tb):=⟨_,h,λk=>wq tb k⟩
theorem cj.up(h:cj H d tb)(s:ax H H'):cj H' d tb:=s _ _ h
def gX(tb:Tb)(k:Ky)(v:Int):Bool:=match aN tb k with
 |some u=>decide (v<u)
 |none=>true
def dO(tb:Tb)(k:Ky)(v:Int):Tb:=if gX tb k v=true then qv tb k v else tb
def vB(tb tb':Tb):Prop:=∀k u,aN tb k=some u->∃u',u'<=u/\aN tb' k=some u'
theorem vB.refl(tb:Tb):vB tb tb:=λk u h=>⟨u,Int.le_refl _,h⟩
theorem vB.trans(h1:vB a b)(h2:vB b c):vB a c:=λk u h=>by
 obtain⟨u1,l1,e1⟩:=h1 k u h;obtain⟨u2,l2,e2⟩:=h2 k u1 e1;exact⟨u2,Int.le_trans l2 l1,e2⟩
theorem ju(tb:Tb)(k:Ky)(v:Int)(k':Ky):aN (dO tb k v) k'=if k'=k/\gX tb k v=true then some v else aN tb k':=by
 unfold dO
 by_cases h:gX tb k v=true
 ·rw[q07 h,zx]
  by_cases e:k'=k
  ·rw[q07 e,q07 ⟨e,h⟩]
  ·rw[q06 e,q06 λq=>e q.1]
 ·rw[q06 h,q06 λq=>h q.2]
theorem uw{k:Ky}{k':Ky}(h:k'≠k):aN (dO tb k v) k'=aN tb k':=by rw[ju,q06 λq=>h q.1]
theorem zk(tb:Tb)(k:Ky)(v:Int):∃v',v'<=v/\aN (dO tb k v) k=some v':=by
 rw[ju];cases h:gX tb k v with
 |true=>exact⟨v,Int.le_refl _,by simp⟩
 |false=>
  unfold gX at h;cases a:aN tb k with
  |none=>rw[a]at h;cases h
  |some u=>
   rw[a]at h;have:¬ v<u:=by simpa using h
   exact⟨u,⋯,by simp⟩
theorem w9(tb:Tb)(k:Ky)(v:Int):vB tb (dO tb k v):=by
 intro b u a;rw[ju]
 by_cases e:b=k/\gX tb k v=true
 ·rw[q07 e]
  obtain⟨rfl,h⟩:=e;unfold gX at h;rw[a]at h;have:v<u:=by simpa using h
  exact⟨v,⋯,rfl⟩
 ·rw[q06 e];exact⟨u,Int.le_refl _,a⟩
theorem sh{k:Ky}{k':Ky}{u:Int}(h:aN (dO tb k v) k'=some u):aN tb k'=some u\/k'=k/\u=v:=by
 rw[ju]at h
 split at h
 ·rename_i e
  exact .inr ⟨e.1,by injection h with h;exact h.symm⟩
 ·exact .inl h
theorem Ce{tb:Tb}{k:Ky}(nd:(tb.map (·.1)).Nodup):((dO tb k v).map (·.1)).Nodup:=by
 unfold dO
 split
 ·exact DQ nd
 ·exact nd
theorem yK(tb:Tb)(k:Ky)(v:Int):(dO tb k v).length<=if(aN tb k).isSome=true then tb.length else tb.length+1:=by
 unfold dO
 split
 ·rw[Cb];exact L1 _
 ·split<;>omega
def vH(p:aE):Prop:=p≠[]/\bK p
theorem vH.inj(h:vH p)(h':vH q)(e:bp p=bp q):p=q:=SpM.glue_inj 47 h.1 h'.1 h.2 h'.2 e
inductive Dv(rs:Yaa):Ky->Int->Prop
 |leaf {r:Nat×RV} {p:aE}:r∈rs->vH p->[]∈bW r p->Dv rs (bp p,r.2.n) r.2.c
 |one {r:Nat×RV} {p:aE} {k:Ky} {a:Int}:r∈rs->vH p->[k]∈bW r p->Dv rs k a->Dv rs (bp p,r.2.n) (r.2.c+a)
 |two {r:Nat×RV} {p:aE} {k1 k2:Ky} {a b:Int}:r∈rs->vH p->[k1,k2]∈bW r p->Dv rs k1 a->Dv rs k2 b->Dv rs (bp p,r.2.n) (r.2.c+a+b)
theorem qH{w:List Ky}(h:w∈bW r p):w=[]\/(∃k,w=[k])\/∃k1 k2,w=[k1,k2]:=by
 unfold bW at h
 split at h
 ·split at h
  ·exact .inl (LD.mp h)
  ·exact nomatch h
 ·obtain⟨k,_,rfl⟩:=Mi.mp h
  exact .inr (.inr ⟨_,_,rfl⟩)
 ·obtain⟨k,_,rfl⟩:=Mi.mp h
  exact .inr (.inr ⟨_,_,rfl⟩)
 ·exact .inr (.inl ⟨_,LD.mp h⟩)
theorem oM{v:Int}{k:Ky}(h:bZ T c [k]=some v):∃a,T k=some a/\v=c+a:=by
 unfold bZ at h;cases b:T k with
 |none=>rw[b]at h;cases h
 |some a=>rw[b]at h;injection h with h;exact⟨a,rfl,h.symm⟩
theorem wv{v:Int}{k1 k2:Ky}(h:bZ T c [k1,k2]=some v):∃a b,T k1=some a/\T k2=some b/\v=c+a+b:=by
 unfold bZ at h;cases d:T k1 with
 |none=>rw[d]at h;cases h
 |some a=>
  rw[d]at h;obtain⟨b,g,e⟩:=oM h;exact⟨a,b,rfl,g,e⟩
theorem DE{rs:Yaa}{r:Nat×RV}{w:List Ky}{v:Int}(hr:r∈rs)(hp:vH p)(hw:w∈bW r p)(hc:bZ T r.2.c w=some v)(hT:∀k∈w,∀u,T k=some u->Dv rs k u):Dv rs (bp p,r.2.n) v:=by
 rcases qH hw with rfl | ⟨k,rfl⟩ | ⟨g,e,rfl⟩
 ·injection hc with hc;rw[<- hc];exact .leaf hr hp hw
 ·obtain⟨a,d,rfl⟩:=oM hc
  exact .one hr hp hw (hT k (by simp) a d)
 ·obtain⟨a,b,d,i,rfl⟩:=wv hc
  exact .two hr hp hw (hT g (by simp) a d) (hT e (by simp) b i)
theorem jk{T T':Ky->Option Int}:∀{w:List Ky} {c:Int},(∀k∈w,T k=T' k)->bZ T c w=bZ T' c w
 | [],c,_=>rfl
 |k::w,c,h=>by
  show(match T k with | none=>none | some v=>bZ T (c+v) w)=(match T' k with | none=>none | some v=>bZ T' (c+v) w);rw[h k (q0B ..)];cases T' k with
  |none=>rfl
  |some v=>exact jk λk hk=>h k (LS _ hk)
def IL(rs:Yaa)(T:Ky->Option Int)(q:aE):Prop:=∀r∈rs,∀w∈bW r q,∀v,bZ T r.2.c w=some v->∃v',v'<=v/\T (bp q,r.2.n)=some v'
set_option tactic.hygienic true in
set_option tactic.hygienic true in
theorem rp(hq:rect q a c)(a0:0<a)(c0:0<c){w:List Ky}(hw:w∈bW r q){k:Ky}(hk:k∈w) :
  (∃t l b x,t<b/\b<=a/\l<x/\x<=c/\k.1=bp (cut q t l b x)/\bw (cut q t l b x)<bw q/\r.1<3)\/(3<=r.1/\w=[(bp (turned q (cV r.2.t.toNat)),r.2.o1)]):=by
 have cell:∀{t l b x:Nat},t<b->b<=a->l<x->x<=c->(b-t<a/\x-l=c\/b-t=a/\x-l<c)->bw (cut q t l b x)<bw q:=by
  intro t l b x h1 h2 h3 h4 h5;have hc:=cD hq h1 h2 h3 h4;unfold bw;rw[hc.1,bb hc ⋯,hq.1,bb hq a0];rcases h5 with⟨h,e⟩ | ⟨e,h⟩
  ·rw[e];exact Nat.mul_lt_mul_of_pos_right h c0
  ·rw[e];exact Nat.mul_lt_mul_of_pos_left h a0
 unfold bW at hw
 split at hw
 ·split at hw
  ·rw[LD.mp hw]at hk;exact nomatch hk
  ·exact nomatch hw
 ·rename_i hr
  obtain⟨k0,h0,rfl⟩:=Mi.mp hw;unfold bQ at h0;obtain⟨j,hj,rfl⟩:=Mi.mp h0;have hj:=List.mem_range.mp hj;rw[bb hq a0]at hj
  left
  rcases LR.mp hk with rfl | hk
  ·exact⟨0,0,a,j+1,a0,L1 _,⋯,⋯,q0R bp (qW hq),cell a0 (L1 _) ⋯ ⋯ (.inr ⟨⋯,⋯⟩),⋯⟩
  ·rw[LD.mp hk]
   exact⟨0,j+1,a,c,a0,L1 _,⋯,L1 _,q0R bp (rX hq),cell a0 (L1 _) ⋯ (L1 _) (.inr ⟨⋯,⋯⟩),⋯⟩
 ·rename_i hr
  obtain⟨k0,h0,rfl⟩:=Mi.mp hw;unfold bQ at h0;obtain⟨j,hj,rfl⟩:=Mi.mp h0;have hj:=List.mem_range.mp hj;rw[hq.1]at hj
  left
  rcases LR.mp hk with rfl | hk
  ·exact⟨0,0,j+1,c,⋯,⋯,c0,L1 _,q0R bp (qJ hq),cell ⋯ ⋯ c0 (L1 _) (.inl ⟨⋯,⋯⟩),⋯⟩
  ·rw[LD.mp hk]
   exact⟨j+1,0,a,c,⋯,L1 _,c0,L1 _,q0R bp (qL hq),cell ⋯ (L1 _) c0 (L1 _) (.inl ⟨⋯,⋯⟩),⋯⟩
 ·rename_i x h0 h1 h2
  right
  refine⟨?_,LD.mp hw⟩;rcases hh:r.1 with _ | _ | _ | n
  ·exact q0Q hh h0
  ·exact q0Q hh h1
  ·exact q0Q hh h2
  ·omega
theorem dA(hp:rect p r c)(hn:bK p)(h:bd p r c q):vH q:=by
 obtain⟨r',c',h1,h2,_⟩:=h.rect hp;exact⟨λe=>by rw[e]at h1;have:=h1.1;simp at this;omega,h.ns hp hn⟩
theorem kt(hp:rect p r c)(h:bd p r c q){x:Nat×RV}(t0:0<=x.2.t)(t7:x.2.t<=7){w:List Ky}(hw:w∈bW x q){k:Ky}(hk:k∈w):∃q',bd p r c q'/\k.1=bp q'/\(bw q'<bw q\/3<=x.1/\q'=turned q (cV x.2.t.toNat)):=by
 obtain⟨a,b,h1,h2,n,_⟩:=h.rect hp;rcases rp h1 h2 n hw hk with⟨t,l,b,y,d,m,j,i,g,e,_⟩ | ⟨d,rfl⟩
 ·exact⟨_,h.cut hp h1 d m j i,g,.inl e⟩
 ·rw[LD.mp hk]
  exact⟨_,h.turned hp (li ⋯),rfl,.inr ⟨d,rfl⟩⟩
theorem wc{rs:Yaa}(hp:rect p r c)(hn:bK p)(hg:∀x∈rs,0<=x.2.t/\x.2.t<=7)(hC:∀q,bd p r c q->IL rs T q){k:Ky}{v:Int}(h:Dv rs k v):∀q,bd p r c q->k.1=bp q->∃v',v'<=v/\T k=some v':=by
 induction h with
 | @leaf x q0 hr ho hw=>
  intro q d e;have e:=ho.inj (dA hp hn d) e;subst e;exact hC _ d x hr _ hw _ rfl
 | @one x q0 k a hr ho hw _ ih=>
  intro q d e;have e:=ho.inj (dA hp hn d) e;subst e;obtain⟨g,h1,j,_⟩:=kt hp d (hg x hr).1 (hg x hr).2 hw (k:=k) (by simp);obtain⟨m,o,i⟩:=ih g h1 j;obtain⟨v',u,l⟩:=hC _ d x hr _ hw (x.2.c+m) (by unfold bZ;rw[i];rfl);exact⟨v',⋯,l⟩
 | @two x q0 k1 k2 a b hr ho hw _ _ ih1 ih2=>
  intro q d e;have e:=ho.inj (dA hp hn d) e;subst e;obtain⟨g,h1,j,_⟩:=kt hp d (hg x hr).1 (hg x hr).2 hw (k:=k1) (by simp);obtain⟨n,h2,y,_⟩:=kt hp d (hg x hr).1 (hg x hr).2 hw (k:=k2) (by simp);obtain⟨m,o,i⟩:=ih1 g h1 j;obtain⟨z,lb,w⟩:=ih2 n h2 y;obtain⟨v',u,l⟩:=hC _ d x hr _ hw (x.2.c+m+z) (by unfold bZ;rw[i];show bZ T _ [k2]=_;unfold bZ;rw[w];rfl);exact⟨v',⋯,l⟩
def CK(q:aE)(ns:List (List Nat)):List Ky:=(List.range 8).flatMap λt=>ns.map λn=>(bp (turned q t),n)
theorem jY{ns:List (List Nat)}{k:Ky}:k∈CK q ns↔∃t,t<8/\∃n,n∈ns/\k=(bp (turned q t),n):=by
 unfold CK;simp only[List.mem_flatMap,List.mem_range,Mi]
 constructor
 ·rintro⟨t,a,n,b,rfl⟩;exact⟨t,a,n,b,rfl⟩
 ·rintro⟨t,a,n,b,rfl⟩;exact⟨t,a,n,b,rfl⟩
theorem sI(q:aE)(ns:List (List Nat)):(CK q ns).length=8*ns.length:=by
 unfold CK;rw[List.length_flatMap];simp only[LC];show ns.length+(ns.length+(ns.length+(ns.length+(ns.length+(ns.length+(ns.length+(ns.length+0)))))))=_;omega
def gB(q:aE)(r:Nat×RV)(t:Nat):Ky:=(bp (turned q (after t r.2.t.toNat)),r.2.n)
def Cd(trs:Yaa)(q:aE)(tb:Tb)(k:Ky)(v:Int):Prop:=∀r∈trs,r.2.o1=k.2->∀t,t<8->k.1=bp (turned q t)->∃v',v'<=v+r.2.c/\aN tb (gB q r t)=some v'
theorem Cd.le{trs:Yaa}{tb':Tb}{k:Ky}(h:Cd trs q tb k v)(l:vB tb tb'):Cd trs q tb' k v:=λr hr e t ht e'=>by
 obtain⟨v1,l1,e1⟩:=h r hr e t ht e';obtain⟨v2,l2,e2⟩:=l _ _ e1;exact⟨v2,Int.le_trans l2 l1,e2⟩
theorem uc{α:Type}{f g:α->Nat}:∀{ks:List α},(∀x∈ks,f x<=g x)->(ks.map f).sum<=(ks.map g).sum
 | [],_=>L1 _
 |k::ks,h=>by
  have h1:=h k (q0B ..);have h2:=uc (ks:=ks) λx hx=>h x (LS _ hx);rw[L8,L8,List.sum_cons,List.sum_cons];omega
theorem tH{α:Type}{f g:α->Nat}:∀{ks:List α} {x:α},(∀x∈ks,f x<=g x)->x∈ks->f x<g x->(ks.map f).sum+1<=(ks.map g).sum
 | [],_,_,h,_=>nomatch h
 |k::ks,x,h,hx,hl=>by
  have h1:=h k (q0B ..);have hr:∀x∈ks,f x<=g x:=λx hx=>h x (LS _ hx);rw[L8,L8,List.sum_cons,List.sum_cons];rcases LR.mp hx with rfl | hx
  ·have h2:=uc hr;omega
  ·have h2:=tH hr hx hl;omega
theorem oS{α:Type}{f:α->Nat}{b:Nat}:∀{ks:List α},(∀x∈ks,f x<=b)->(ks.map f).sum<=b*ks.length
 | [],_=>L3 _
 |k::ks,h=>by
  have h1:=h k (q0B ..);have h2:=oS (ks:=ks) λx hx=>h x (LS _ hx);rw[L8,List.sum_cons,LN,Nat.mul_succ];omega
def yy(tb:Tb)(k:Ky):Nat:=match aN tb k with
 |some _=>1
 |none=>0
def DL(B:Nat)(tb:Tb)(k:Ky):Nat:=match aN tb k with
 |some v=>v.toNat
 |none=>B+1
def oK(ks:List Ky)(tb:Tb):Nat:=(ks.map (yy tb)).sum
def FJ(ks:List Ky)(B:Nat)(tb:Tb):Nat:=(ks.map (DL B tb)).sum
theorem gN(ks:List Ky)(tb:Tb):oK ks tb<=ks.length:=by
 have:=oS (f:=yy tb) (b:=1) (ks:=ks) λx _=>by unfold yy;split<;>omega
 unfold oK;omega
theorem yY{tb':Tb}(l:vB tb tb')(k:Ky):yy tb k<=yy tb' k:=by
 unfold yy;cases h:aN tb k with
 |none=>exact L3 _
 |some v=>
  obtain⟨v',_,e⟩:=l k v h;rw[e];exact L1 _
theorem Fq{tb':Tb}(l:vB tb tb')(ks:List Ky):oK ks tb<=oK ks tb':=uc λx _=>yY l x
theorem D5{tb':Tb}(l:vB tb tb'){ks:List Ky}{k:Ky}{v:Int}(hk:k∈ks)(h:aN tb k=none)(h':aN tb' k=some v):oK ks tb+1<=oK ks tb':=tH (λx _=>yY l x) hk (by unfold yy;rw[h,h'];exact Nat.zero_lt_one)
structure TI(trs rs:Yaa)(q:aE)(ns:List (List Nat))(M L0:Nat)(tb0 tb:Tb)(op:Ky->Prop):Prop where
 nd:(tb.map (·.1)).Nodup
 le:vB tb0 tb
 out:∀k,k∉CK q ns->aN tb k=aN tb0 k
 snd:∀k∈CK q ns,∀v,aN tb k=some v->Dv rs k v
 sett:∀k∈CK q ns,∀v,aN tb k=some v->¬ op k->Cd trs q tb k v
 opk:∀k,op k->k∈CK q ns/\∃v,aN tb k=some v
 pos:∀k∈CK q ns,∀v,aN tb k=some v->1<=v/\v<=((M+9*oK (CK q ns) tb:Nat):Int)
 len:tb.length<=L0+oK (CK q ns) tb
theorem TI.op{trs:Yaa}{ns:List (List Nat)}{L0:Nat}{tb0:Tb}{op op':Ky->Prop}(h:TI trs rs q ns M L0 tb0 tb op)(h1:∀k,op' k->op k)(h2:∀k v,op k->¬ op' k->aN tb k=some v->Cd trs q tb k v):TI trs rs q ns M L0 tb0 tb op':=
 ⟨h.nd,h.le,h.out,h.snd,λk hk v e no=>by
  by_cases ho:op k
  ·exact h2 k v ho no e
  ·exact h.sett k hk v e ho,λk ho=>h.opk k (h1 k ho),h.pos,h.len⟩
theorem me{r:Nat×RV}(h:3<=r.1)(p:aE):bW r p=[[(bp (turned p (cV r.2.t.toNat)),r.2.o1)]]:=by
 unfold bW
 split
 ·omega
 ·omega
 ·omega
 ·rfl
structure HY(rs:Yaa)(ns:List (List Nat))(r:Nat×RV):Prop where
 mem:r∈rs
 k3:3<=r.1
 c1:1<=r.2.c
 c9:r.2.c<=9
 t0:0<=r.2.t
 t7:r.2.t<=7
 nm:r.2.n∈ns
theorem TI.low{trs:Yaa}{ns:List (List Nat)}{L0:Nat}{tb0:Tb}{op:Ky->Prop}(h:TI trs rs q ns M L0 tb0 tb op)(hq:rect q a c)(a0:0<a)(c0:0<c)(hO:∀t,t<8->vH (turned q t))(h8:ns.length<=8){r:Nat×RV}(hr:HY rs ns r){t:Nat}(ht:t<8){v:Int}(hk:(bp (turned q t),r.2.o1)∈CK q ns)(hv:aN tb (bp (turned q t),r.2.o1)=some v) :
  TI trs rs q ns M L0 tb0 (dO tb (gB q r t) (v+r.2.c)) (λx=>op x\/(gX tb (gB q r t) (v+r.2.c)=true/\x=gB q r t))/\FJ (CK q ns) (M+576) (dO tb (gB q r t) (v+r.2.c))+(if gX tb (gB q r t) (v+r.2.c)=true then 1 else 0)<=FJ (CK q ns) (M+576) tb:=by
 have B:r.2.t.toNat<8:=by have:=hr.t0;have:=hr.t7;omega
 have G:=gJ ht B;have g:gB q r t∈CK q ns:=jY.mpr ⟨_,G,_,hr.nm,rfl⟩;have m:Dv rs (gB q r t) (v+r.2.c):=by
  rw[Int.add_comm];refine Dv.one hr.mem (hO _ G) (k:=(bp (turned q t),r.2.o1)) ?_ (h.snd _ hk v hv);rw[me hr.k3];have C:=dj hq a0 c0 t;rw[<- bN hq a0 c0 ht B,mP C (by split<;>assumption) (by split<;>assumption) B];exact LD.mpr rfl
 have hc1:=hr.c1;have hc9:=hr.c9;obtain⟨p1,p2⟩:=h.pos _ hk v hv;generalize gB q r t=k' at g m ⊢;generalize hv':v+r.2.c=v' at m ⊢;cases o:gX tb k' v' with
 |false=>
  have e:dO tb k' v'=tb:=by unfold dO;rw[o];rfl
  rw[e];exact⟨h.op (λk hk=>hk.elim id λx=>q0Q x.1 (by simp)) λk v l p _=>q0Q (.inl l) p,by simp⟩
 |true=>
  have d:=w9 tb k' v';have hcl:=Fq d (CK q ns);have b:aN (dO tb k' v') k'=some v':=by rw[ju,q07 ⟨rfl,o⟩]
  have D:=gN (CK q ns) (dO tb k' v');rw[sI]at D;have j:∀w,aN tb k'=some w->v'<w:=λw i=>by
   unfold gX at o;rw[i]at o
   simpa using o
  have n:aN tb k'=none->oK (CK q ns) tb+1<=oK (CK q ns) (dO tb k' v'):=λI=>D5 d g I b;have z:v'<=((M+9*oK (CK q ns) (dO tb k' v'):Nat):Int):=by
   cases i:aN tb k' with
   |none=>have:=n i;omega
   |some w=>
    have h1:=j w i;have h2:=(h.pos _ g w i).2;omega
  refine⟨⟨Ce h.nd,h.le.trans d,λk hk=>?_,λk hk w e=>?_,λk hk w e p=>?_,λk l=>?_,λk hk w e=>?_,?_⟩,?_⟩
  ·rw[uw λe=>hk (by rw[e];exact g)];exact h.out k hk
  ·rcases sh e with e | ⟨rfl,rfl⟩
   ·exact h.snd k hk w e
   ·exact m
  ·have ne:k≠k':=λe=>p (.inr ⟨rfl,e⟩)
   rw[uw ne]at e;exact(h.sett k hk w e λl=>p (.inl l)).le d
  ·rcases l with l | ⟨_,rfl⟩
   ·obtain⟨h1,w,h2⟩:=h.opk k l
    obtain⟨y,_,J⟩:=d k w h2;exact⟨h1,y,J⟩
   ·exact⟨g,v',b⟩
  ·rcases sh e with e | ⟨rfl,rfl⟩
   ·have:=h.pos k hk w e
    exact⟨this.1,⋯⟩
   ·exact⟨⋯,z⟩
  ·have h1:=yK tb k' v'
   have h2:=h.len;cases i:aN tb k' with
   |none=>rw[i]at h1;have:=n i;simp at h1;omega
   |some w=>rw[i]at h1;simp at h1;omega
  ·rw[q07 rfl]
   refine tH (x:=k') (λx _=>?_) g ?_
   ·unfold DL
    cases u:aN tb x with
    |none=>
     by_cases e:x=k'
     ·subst e;rw[b]
      show v'.toNat<=_;simp only;omega
     ·rw[uw e,u];exact L1 _
    |some w=>
     obtain⟨y,l1,L⟩:=d x w u;rw[L];show y.toNat<=w.toNat;omega
   ·unfold DL
    rw[b];cases u:aN tb k' with
    |none=>show v'.toNat<_;simp only;omega
    |some w=>
     have:=j w u;show v'.toNat<w.toNat;omega
theorem TI.mu{trs:Yaa}{ns:List (List Nat)}{L0:Nat}{tb0:Tb}{op:Ky->Prop}(h:TI trs rs q ns M L0 tb0 tb op)(h8:ns.length<=8):FJ (CK q ns) (M+576) tb<=(M+577)*64:=by
 have h64:=gN (CK q ns) tb;have hl:=sI q ns;have h1:FJ (CK q ns) (M+576) tb<=(M+577)*(CK q ns).length:=oS λx a=>by
  unfold DL;cases b:aN tb x with
  |none=>exact L1 _
  |some v=>
   have:=(h.pos x a v b).2;show v.toNat<=_;omega
 exact L9 h1 (Nat.mul_le_mul_left _ ⋯)
theorem TI.len64{trs:Yaa}{ns:List (List Nat)}{L0:Nat}{tb0:Tb}{op:Ky->Prop}(h:TI trs rs q ns M L0 tb0 tb op)(h8:ns.length<=8):tb.length<=L0+64:=by
 have h64:=gN (CK q ns) tb;have hl:=sI q ns;have:=h.len;omega
def lS(rs:Yaa)(n:Nat):List Nat:=match rs[n]? with
 |some r=>r.2.n
 |none=>[]
def qD(rs:Yaa)(p:aE)(tb:Tb)(ys:List (Int×Nat×List Ky)):Tb:=ys.foldl (λtb y=>dO tb (bp p,lS rs y.2.1) y.1) tb
def G'(rs:Yaa)(ns:Mx)(p:aE)(tb:Tb):Tb:=qD rs p tb (ns.flatMap (cS (aN tb) rs p))
structure II(rs:Yaa)(p:aE)(tb tb':Tb)(ys:List (Int×Nat×List Ky)):Prop where
 le:vB tb tb'
 out:∀k:Ky,k.1≠bp p->aN tb' k=aN tb k
 all:∀y∈ys,∃v',v'<=y.1/\aN tb' (bp p,lS rs y.2.1)=some v'
 val:∀k v,aN tb' k=some v->aN tb k=some v\/∃y∈ys,k=(bp p,lS rs y.2.1)/\v=y.1
 len:tb'.length<=tb.length+ys.length
 nd:(tb.map (·.1)).Nodup->(tb'.map (·.1)).Nodup
theorem lZ(rs:Yaa)(p:aE):∀(ys:List (Int×Nat×List Ky)) (tb:Tb),II rs p tb (qD rs p tb ys) ys
 | [],tb=>⟨vB.refl _,λ_ _=>rfl,(λy hy=>nomatch hy),λk v h=>.inl h,L1 _,id⟩
 |y::ys,tb=>by
  have ih:=lZ rs p ys (dO tb (bp p,lS rs y.2.1) y.1);have e:qD rs p tb (y::ys)=qD rs p (dO tb (bp p,lS rs y.2.1) y.1) ys:=rfl;rw[e];refine⟨(w9 _ _ _).trans ih.le,λk hk=>?_,λz hz=>?_,λk v h=>?_,?_,λnd=>ih.nd (Ce nd)⟩
  ·rw[ih.out k hk,uw λq=>hk (by rw[q])]
  ·rcases LR.mp hz with rfl | hz
   ·obtain⟨v,l1,e1⟩:=zk tb (bp p,lS rs z.2.1) z.1
    obtain⟨v',l2,e2⟩:=ih.le _ _ e1;exact⟨v',Int.le_trans l2 l1,e2⟩
   ·exact ih.all z hz
  ·rcases ih.val k v h with h | ⟨z,hz,e1,e2⟩
   ·rcases sh h with h | ⟨e1,e2⟩
    ·exact .inl h
    ·exact .inr ⟨y,q0B ..,e1,e2⟩
   ·exact .inr ⟨z,LS _ hz,e1,e2⟩
  ·have h1:=ih.len
   have h2:=yK tb (bp p,lS rs y.2.1) y.1;rw[LN]
   split at h2<;>omega
theorem q9{ns:Mx}{y:Int×Nat×List Ky}(h:y∈ns.flatMap (cS T rs p)):y.2.1∈ns/\∃r,rs[y.2.1]?=some r/\y.2.2∈bW r p/\bZ T r.2.c y.2.2=some y.1:=by
 obtain⟨n,d,a⟩:=List.mem_flatMap.mp h;unfold cS at a;cases hr:rs[n]? with
 |none=>rw[hr]at a;exact nomatch a
 |some r=>
  rw[hr]at a;unfold xt at a;obtain⟨w,b,e⟩:=List.mem_filterMap.mp a;obtain⟨c,g,rfl⟩:=L6.mp e;exact⟨d,r,hr,b,g⟩
theorem A4{rs:Yaa}{ns:Mx}{n:Nat}{r:Nat×RV}{w:List Ky}{v:Int}(hn:n∈ns)(hr:rs[n]?=some r)(hw:w∈bW r p)(hc:bZ T r.2.c w=some v):(v,n,w)∈ns.flatMap (cS T rs p):=by
 refine List.mem_flatMap.mpr ⟨n,hn,?_⟩;unfold cS;rw[hr];exact List.mem_filterMap.mpr ⟨w,hw,by rw[hc];rfl⟩
theorem kf{rs:Yaa}(hp:dQ p a c)(hg:∀r∈rs,r.1<4):∀ns:List Nat,(ns.flatMap (cS T rs p)).length<=6*ns.length
 | []=>L1 _
 |n::ns=>by
  have ih:=kf (T:=T) hp hg ns;rw[List.flatMap_cons,LZ,LN];have:(cS T rs p n).length<=6:=by
   unfold cS;cases hr:rs[n]? with
   |none=>exact L3 _
   |some r=>exact L9 (List.length_filterMap_le _ _) (rE (hg r (LG hr)) hp)
  omega
def pta(rs:Yaa)(ns:Mx)(q:aE)(tb:Tb):Nat->Tb
 |0=>tb
 |n+1=>G' rs ns (turned q n) (pta rs ns q tb n)
def eV(rs:Yaa):List Nat:=rs.zipIdx.filterMap λx=>if x.1.1=3 then none else some x.2
theorem lB{n:Nat}:n∈eV rs↔∃r,rs[n]?=some r/\r.1≠3:=by
 unfold eV;rw[List.mem_filterMap]
 constructor
 ·rintro⟨⟨r,i⟩,hm,e⟩
  have hi:=List.mem_zipIdx_iff_getElem?.mp hm
  split at e
  ·cases e
  ·rename_i h
   injection e with e
   subst e;exact⟨r,hi,h⟩
 ·rintro⟨r,hr,h⟩
  exact⟨(r,n),List.mem_zipIdx_iff_getElem?.mpr hr,by rw[q06 h]⟩
def oX(rs:Yaa):Yaa:=rs.filter λr=>decide (r.1=3)
structure DY(rs:Yaa)(ns:Mx)(q:aE)(tb0 tb:Tb)(n:Nat):Prop where
 le:vB tb0 tb
 out:∀k:Ky,(∀t,t<8->k.1≠bp (turned q t))->aN tb k=aN tb0 k
 all:∀t,t<n->∀m∈ns,∀r,rs[m]?=some r->∀w∈bW r (turned q t),∀v,bZ (aN tb0) r.2.c w=some v->∃v',v'<=v/\aN tb (bp (turned q t),r.2.n)=some v'
 val:∀k v,aN tb k=some v->aN tb0 k=some v\/∃t,t<8/\∃r∈rs,r.1≠3/\∃w∈bW r (turned q t),bZ (aN tb0) r.2.c w=some v/\k=(bp (turned q t),r.2.n)
 len:tb.length<=tb0.length+6*ns.length*n
 nd:(tb0.map (·.1)).Nodup->(tb.map (·.1)).Nodup
theorem u0{rs:Yaa}{n:Nat}{r:Nat×RV}(h:rs[n]?=some r):lS rs n=r.2.n:=by unfold lS;rw[h]
theorem vE{rs:Yaa}{tb0:Tb}{a c:Nat}(hg:∀r∈rs,r.1<4)(h6:∀t,t<8->∃a c,dQ (turned q t) a c)
  (hK:∀t,t<8->∀r∈rs,r.1≠3->∀w∈bW r (turned q t),∀k∈w,∀t',t'<8->k.1≠bp (turned q t')):∀n,n<=8->DY rs (eV rs) q tb0 (pta rs (eV rs) q tb0 n) n
 |0,_=>⟨vB.refl _,λ_ _=>rfl,λt ht=>q0Q ht (Nat.not_lt_zero _),λk v h=>.inl h,by simp[pta],id⟩
 |n+1,hn=>by
  have ih:=vE (tb0:=tb0) (a:=a) (c:=c) hg h6 hK n ⋯;have e:pta rs (eV rs) q tb0 (n+1)=G' rs (eV rs) (turned q n) (pta rs (eV rs) q tb0 n):=rfl;rw[e];generalize pta rs (eV rs) q tb0 n=tb at ih ⊢;unfold G';have ps:=lZ rs (turned q n) ((eV rs).flatMap (cS (aN tb) rs (turned q n))) tb;obtain⟨a',c',h6'⟩:=h6 n ⋯;have hl:=kf (T:=aN tb) h6' hg (eV rs);have same:∀{r:Nat×RV},r∈rs->r.1≠3->∀{w:List Ky},w∈bW r (turned q n)->bZ (aN tb) r.2.c w=bZ (aN tb0) r.2.c w:=fun{r} hr h3 {w} hw=>jk λk hk=>ih.out k λt' ht'=>hK n ⋯ r hr h3 w hw k hk t' ht';refine⟨ih.le.trans ps.le,λk hk=>?_,λt ht m hm r hr w hw v hv=>?_,λk v h=>?_,?_,λnd=>ps.nd (ih.nd nd)⟩
  ·rw[ps.out k (hk n ⋯)];exact ih.out k hk
  ·by_cases et:t=n
   ·subst et
    obtain⟨r',hr',h3⟩:=lB.mp hm;rw[hr]at hr';cases hr'
    obtain⟨v',l',e'⟩:=ps.all _ (A4 (v:=v) hm hr hw (by rw[same (LG hr) h3 hw];exact hv));rw[show lS rs m=r.2.n from u0 hr]at e';exact⟨v',l',e'⟩
   ·obtain⟨v1,l1,e1⟩:=ih.all t ⋯ m hm r hr w hw v hv
    obtain⟨v2,l2,e2⟩:=ps.le _ _ e1;exact⟨v2,Int.le_trans l2 l1,e2⟩
  ·rcases ps.val k v h with h | ⟨y,hy,e1,e2⟩
   ·exact ih.val k v h
   ·obtain⟨h1,r,h2,h3,h4⟩:=q9 hy
    obtain⟨r',hr',h5⟩:=lB.mp h1;rw[h2]at hr';cases hr'
    have hm:=LG h2;rw[u0 h2]at e1;exact .inr ⟨n,⋯,r,hm,h5,_,h3,by rw[<- same hm h5 h3,h4,e2],e1⟩
  ·have h1:=ps.len
   have h2:=ih.len;rw[Nat.mul_add];omega
theorem hU(hq:rect q a c)(a0:0<a)(c0:0<c)(t:Nat):bw (turned q t)=bw q:=by
 have b:=dj hq a0 c0 t;unfold bw;rw[b.1,bb b (by split<;>assumption),hq.1,bb hq a0]
 split
 ·rfl
 ·rw[Nat.mul_comm]
theorem ED(hq:rect q a c)(a0:0<a)(c0:0<c){k1 k2:Ky}(hw:[k1,k2]∈bW r q):∃q1 q2,(∃t l b x,t<b/\b<=a/\l<x/\x<=c/\q1=cut q t l b x)/\(∃t l b x,t<b/\b<=a/\l<x/\x<=c/\q2=cut q t l b x)/\k1.1=bp q1/\k2.1=bp q2/\bw q1+bw q2=bw q:=by
 have d:∀{t l b x:Nat},t<b->b<=a->l<x->x<=c->bw (cut q t l b x)=(b-t)*(x-l):=by
  intro t l b x h1 h2 p o;have m:=cD hq h1 h2 p o;unfold bw;rw[m.1,bb m ⋯]
 have all:bw q=a*c:=by unfold bw;rw[hq.1,bb hq a0]
 unfold bW at hw
 split at hw
 ·split at hw
  ·exact nomatch LD.mp hw
  ·exact nomatch hw
 ·obtain⟨n,i,e⟩:=Mi.mp hw
  unfold bQ at i;obtain⟨j,g,rfl⟩:=Mi.mp i;have g:=List.mem_range.mp g;rw[bb hq a0]at g
  injection e with e1 e2
  injection e2 with e2 _
  subst e1;subst e2
  refine⟨_,_,⟨0,0,a,j+1,a0,L1 _,⋯,⋯,rfl⟩,⟨0,j+1,a,c,a0,L1 _,⋯,L1 _,rfl⟩,q0R bp (qW hq),q0R bp (rX hq),?_⟩;rw[d a0 (L1 _) ⋯ ⋯,d a0 (L1 _) ⋯ (L1 _),all,<- Nat.mul_add]
  congr 1;omega
 ·obtain⟨n,i,e⟩:=Mi.mp hw
  unfold bQ at i;obtain⟨j,g,rfl⟩:=Mi.mp i;have g:=List.mem_range.mp g;rw[hq.1]at g
  injection e with e1 e2
  injection e2 with e2 _
  subst e1;subst e2
  refine⟨_,_,⟨0,0,j+1,c,⋯,⋯,c0,L1 _,rfl⟩,⟨j+1,0,a,c,⋯,L1 _,c0,L1 _,rfl⟩,q0R bp (qJ hq),q0R bp (qL hq),?_⟩;rw[d ⋯ ⋯ c0 (L1 _),d ⋯ (L1 _) c0 (L1 _),all,<- Nat.add_mul]
  congr 1;omega
 ·exact nomatch LD.mp hw
structure ES(rs:Yaa)(nms:List (List Nat))(Sn:aE->Prop)(dn:MF)(tb:Tb):Prop where
 nd:(tb.map (·.1)).Nodup
 key:∀k v,aN tb k=some v->tx k.1∈dn/\k.2∈nms/\Dv rs k v/\1<=v
 bnd:∀k v,aN tb k=some v->∀q,Sn q->k.1=bp q->v+585<=1170*(bw q:Int)
 don:∀z∈dn,∃q,Sn q/\z=tx (bp q)
 tur:∀q,Sn q->tx (bp q)∈dn->∀t,t<8->tx (bp (turned q t))∈dn
 prt:∀q,Sn q->tx (bp q)∈dn->∀x∈rs,∀w∈bW x q,∀k∈w,tx k.1∈dn
 clo:∀q,Sn q->tx (bp q)∈dn->IL rs (aN tb) q
structure kY(rs:Yaa)(nms:List (List Nat))(p:aE)(r c:Nat):Prop where
 hp:rect p r c
 r0:0<r
 c0:0<c
 r6:r<=6
 c6:c<=6
 ns:bK p
 gd:∀x∈rs,kH x
 nm:∀x∈rs,x.2.n∈nms
 n8:nms.length<=8
 r24:rs.length<=24
 few:Hl p r c
theorem kY.turn3(E:kY rs nms p r c){x:Nat×RV}(h:x∈oX rs):HY rs nms x:=by
 obtain⟨h1,h2⟩:=List.mem_filter.mp h;have h3:x.1=3:=by simpa using h2
 have g:=(E.gd x h1).good;exact⟨h1,⋯,g.c1,g.c9,g.t0,g.t7,E.nm x h1⟩
structure sS(rs:Yaa)(p:aE)(r c:Nat)(dn:MF)(q:aE):Prop where
 sq:bd p r c q
 fr:∀t,t<8->tx (bp (turned q t))∉dn
 pt:∀q',bd p r c q'->bw q'<bw q->tx (bp q')∈dn
theorem sS.parts{dn:MF}(E:kY rs nms p r c)(N:sS rs p r c dn q){t:Nat}(ht:t<8){x:Nat×RV}(hx:x∈rs)(h3:x.1≠3){w:List Ky}(hw:w∈bW x (turned q t)){k:Ky}(hk:k∈w):∃q',bd p r c q'/\k.1=bp q'/\tx k.1∈dn:=by
 have g:=E.gd x hx;obtain⟨a,b,h1,h2,i,_⟩:=N.sq.rect E.hp;obtain⟨q',d,e,h⟩:=kt E.hp (N.sq.turned E.hp ht) g.good.t0 g.good.t7 hw hk;rcases h with h | h
 ·rw[hU h1 h2 i]at h
  exact⟨q',d,e,by rw[e];exact N.pt q' d h⟩
 ·have:=g.k4
  omega
theorem sS.notIn{nms:List (List Nat)}{dn:MF}(N:sS rs p r c dn q){k:Ky}(h:tx k.1∈dn){t:Nat}(ht:t<8):k.1≠bp (turned q t):=λe=>N.fr t ht (by rw[<- e];exact h)
theorem tS(hp:rect p r c)(r6:r<=6)(c6:c<=6)(h:bd p r c q):∃a b,dQ q a b:=by
 obtain⟨a,b,h1,h2,d,h4,h5⟩:=h.rect hp;exact⟨a,b,h1,h2,⋯,d,⋯⟩
theorem ES.pta{Sn:aE->Prop}{dn:MF}(E:kY rs nms p r c)(N:sS rs p r c dn q)(S:ES rs nms Sn dn tb):∀n,n<=8->DY rs (eV rs) q tb (pta rs (eV rs) q tb n) n:=
 vE (a:=0) (c:=0) (λx hx=>(E.gd x hx).k4) (λt ht=>tS E.hp E.r6 E.c6 (N.sq.turned E.hp ht)) λt ht x hx h3 w hw k hk t' ht'=>by
  obtain⟨_,_,_,h⟩:=N.parts E ht hx h3 hw hk;exact N.notIn (nms:=nms) h ht'
theorem rG(hp:rect p r c)(h:bd p r c q):1<=bw q:=by
 obtain⟨a,b,h1,h2,d,_⟩:=h.rect hp;unfold bw;rw[h1.1,bb h1 h2];exact Nat.mul_pos h2 d
set_option tactic.hygienic true in
set_option tactic.hygienic true in
theorem ES.start{Sn:aE->Prop}{dn:MF}{q:aE}{tb8:Tb}(E:kY rs nms p r c)(Sb:∀q,bd p r c q->Sn q)(N:sS rs p r c dn q)(S:ES rs nms Sn dn tb)(PS:DY rs (eV rs) q tb tb8 8) :
  TI (oX rs) rs q nms (1170*bw q-1161) tb8.length tb8 tb8 (λk=>k∈CK q nms/\∃v,aN tb8 k=some v):=by
 have hcp:=rG E.hp N.sq;have new:∀k∈CK q nms,∀v,aN tb8 k=some v->Dv rs k v/\1<=v/\v<=((1170*bw q-1161:Nat):Int):=by
  intro k hk v hv;rcases PS.val k v hv with h | ⟨t,ht,x,hx,h3,w,hw,hc,rfl⟩
  ·obtain⟨t,ht,n,_,rfl⟩:=jY.mp hk
   exact q0Q (S.key _ v h).1 (N.fr t ht)
  ·have g:=(E.gd x hx).good
   have hst:=N.sq.turned E.hp ht;have g1:=g.c1;have g9:=g.c9;refine⟨DE hx (dA E.hp E.ns hst) hw hc λk hk u hu=>(S.key k u hu).2.2.1,?_⟩;rcases qH hw with rfl | ⟨k,rfl⟩ | ⟨k1,k2,rfl⟩
   ·injection hc with hc
    omega
   ·obtain⟨a,b,h1,h2,h4,_⟩:=hst.rect E.hp
    rcases rp h1 h2 h4 hw (LD.mpr rfl) with⟨t,l,b,y,k1,k2,k3,k4,k5,k6,k7⟩ | ⟨k1,_⟩
    ·exfalso
     unfold bW at hw
     split at hw
     ·split at hw
      ·exact nomatch LD.mp hw
      ·exact nomatch hw
     ·obtain⟨_,_,e⟩:=Mi.mp hw;exact nomatch e
     ·obtain⟨_,_,e⟩:=Mi.mp hw;exact nomatch e
     ·rename_i y z0 z1 z2
      rcases hh:x.1 with _ | _ | _ | n
      ·exact q0Q hh z0
      ·exact q0Q hh z1
      ·exact q0Q hh z2
      ·omega
    ·have:=(E.gd x hx).k4
     omega
   ·obtain⟨u1,u2,e1,e2,rfl⟩:=wv hc
    obtain⟨a,b,h1,h2,h4,_⟩:=hst.rect E.hp;obtain⟨q1,q2,⟨t1,l1,b1,x1,m1,m2,m3,m4,rfl⟩,⟨t2,l2,b2,x2,n1,n2,n3,n4,rfl⟩,f1,f2,f3⟩:=ED h1 h2 h4 hw;rw[hU (N.sq.rect E.hp).choose_spec.choose_spec.1 (N.sq.rect E.hp).choose_spec.choose_spec.2.1 (N.sq.rect E.hp).choose_spec.choose_spec.2.2.1]at f3;have o1:=S.bnd k1 u1 e1 _ (Sb _ (hst.cut E.hp h1 m1 m2 m3 m4)) f1;have o2:=S.bnd k2 u2 e2 _ (Sb _ (hst.cut E.hp h1 n1 n2 n3 n4)) f2;have p1:=(S.key k1 u1 e1).2.2.2;have p2:=(S.key k2 u2 e2).2.2.2;omega
 refine⟨PS.nd S.nd,vB.refl _,λ_ _=>rfl,λk hk v hv=>(new k hk v hv).1,λk hk v hv no=>q0Q ⟨hk,v,hv⟩ no,λk ho=>ho,λk hk v hv=>?_,Nat.le_add_right _ _⟩;have:=new k hk v hv;exact⟨this.2.1,⋯⟩
theorem ES.enter{Sn:aE->Prop}{dn dn':MF}{q:aE}{tb8 tb':Tb}(E:kY rs nms p r c)(D:∀q,Sn q->vH q)(Sb:∀q,bd p r c q->Sn q)(N:sS rs p r c dn q)(S:ES rs nms Sn dn tb)(PS:DY rs (eV rs) q tb tb8 8)
  (h:TI (oX rs) rs q nms (1170*bw q-1161) tb8.length tb8 tb' (λ_=>False)) (hd:∀z,z∈dn'↔z∈dn\/∃t,t<8/\z=tx (bp (turned q t))):ES rs nms Sn dn' tb':=by
 have hcp:=rG E.hp N.sq;obtain⟨a0,b0,B,y,o,_⟩:=N.sq.rect E.hp;have U:∀t,t<8->vH (turned q t):=λt d=>dA E.hp E.ns (N.sq.turned E.hp d);have ck:∀k,k∉CK q nms->∀v,aN tb' k=some v->aN tb k=some v:=λk b v j=>by
  rw[h.out k b]at j;rcases PS.val k v j with e | ⟨t,d,x,C,_,w,_,_,rfl⟩
  ·exact e
  ·exact q0Q (jY.mpr ⟨t,d,_,E.nm x C,rfl⟩) b
 have O:∀k:Ky,tx k.1∈dn->aN tb' k=aN tb k:=λk b=>by
  have nc:∀t,t<8->k.1≠bp (turned q t):=λt d=>N.notIn (nms:=nms) b d;rw[h.out k λe=>by obtain⟨t,d,n,_,rfl⟩:=jY.mp e;exact nc t d rfl,PS.out k nc]
 have h64:=gN (CK q nms) tb';have hl:=sI q nms;have n8:=E.n8;have M:∀{i:aE},Sn i->tx (bp i)∈dn'->tx (bp i)∈dn\/∃t,t<8/\i=turned q t:=fun{i} l J=>by
  rcases(hd _).mp J with h | ⟨t,d,e⟩
  ·exact .inl h
  ·exact .inr ⟨t,d,(D _ l).inj (U t d) (cN e)⟩
 refine⟨h.nd,λk v j=>?_,λk v j i l e=>?_,λz J=>?_,λi l J t d=>?_,λi l J x C w G k b=>?_,λi l J x C w G v j=>?_⟩
 ·by_cases b:k∈CK q nms
  ·obtain⟨t,d,n,hn,rfl⟩:=jY.mp b
   exact⟨(hd _).mpr (.inr ⟨t,d,rfl⟩),hn,h.snd _ b v j,(h.pos _ b v j).1⟩
  ·obtain⟨k1,k2⟩:=S.key k v (ck k b v j)
   exact⟨(hd _).mpr (.inl k1),k2⟩
 ·by_cases b:k∈CK q nms
  ·have:=(h.pos _ b v j).2
   obtain⟨t,d,n,hn,rfl⟩:=jY.mp b;have Z:=(U t d).inj (D _ l) e;rw[<- Z,hU B y o];omega
  ·exact S.bnd k v (ck k b v j) i l e
 ·rcases(hd z).mp J with h1 | ⟨t,d,rfl⟩
  ·exact S.don z h1
  ·exact⟨_,Sb _ (N.sq.turned E.hp d),rfl⟩
 ·rcases M l J with h1 | ⟨u,I,rfl⟩
  ·exact(hd _).mpr (.inl (S.tur i l h1 t d))
  ·exact(hd _).mpr (.inr ⟨after u t,gJ I d,by rw[bN B y o I d]⟩)
 ·rcases M l J with h1 | ⟨u,I,rfl⟩
  ·exact(hd _).mpr (.inl (S.prt i l h1 x C w G k b))
  ·have g:=(E.gd x C).good
   by_cases Y:x.1=3
   ·rw[me ⋯]at G
    rw[LD.mp G]at b;rw[LD.mp b];have T:cV x.2.t.toNat<8:=li (by have:=g.t0;have:=g.t7;omega);exact(hd _).mpr (.inr ⟨after u (cV x.2.t.toNat),gJ I T,by rw[bN B y o I T]⟩)
   ·obtain⟨_,_,_,h5⟩:=N.parts E I C Y G b
    exact(hd _).mpr (.inl h5)
 ·rcases M l J with h1 | ⟨u,I,rfl⟩
  ·rw[jk (T':=aN tb) λk b=>O k (S.prt i l h1 x C w G k b)]at j
   rw[O (bp i,x.2.n) h1];exact S.clo i l h1 x C w G v j
  ·have g:=(E.gd x C).good
   by_cases Y:x.1=3
   ·have L:x.2.t.toNat<8:=by have:=g.t0;have:=g.t7;omega
    have T:cV x.2.t.toNat<8:=li L;rw[me ⋯]at G;rw[LD.mp G]at j;obtain⟨a,ha,rfl⟩:=oM j;have R:=gJ I T;have a1:=dj B y o u;have et:turned (turned q u) (cV x.2.t.toNat)=turned q (after u (cV x.2.t.toNat)):=bN B y o I T;rw[et]at ha
    by_cases b:(bp (turned q (after u (cV x.2.t.toNat))),x.2.o1)∈CK q nms
    ·obtain⟨v',l',Z⟩:=h.sett _ b a ha id x (List.mem_filter.mpr ⟨C,by simpa using Y⟩) rfl _ R rfl
     refine⟨v',⋯,?_⟩;have e2:turned q (after (after u (cV x.2.t.toNat)) x.2.t.toNat)=turned q u:=by
      rw[<- bN B y o R L,<- et,bN a1 (by split<;>assumption) (by split<;>assumption) T L,wR L,mE]
     unfold gB at Z;rw[e2]at Z;exact Z
    ·exact q0Q (S.key _ a (ck _ b a ha)).1 (N.fr _ R)
   ·have hc:bZ (aN tb) x.2.c w=some v:=by
     rw[<- j];exact jk λk b=>by
      obtain⟨_,_,_,h5⟩:=N.parts E I C Y G b;exact(O k h5).symm
    obtain⟨m,hm⟩:=List.mem_iff_getElem?.mp C;obtain⟨v1,l1,e1⟩:=PS.all u I m (lB.mpr ⟨x,hm,Y⟩) x hm w G v hc;obtain⟨v2,l2,e2⟩:=h.le _ _ e1;exact⟨v2,Int.le_trans l2 l1,e2⟩
abbrev uv:Stmt:=eY 57
inductive oE(vs:List V)(H:Hp)(Q:VK)(_E:XK):Prop
 |mk (d b:Addr) (tb:Tb) (k:Ky) (v:Int) (_:vs=[.ref d,.ref b,.int v]) (_:cj H d tb) (_:bo H b k) (_:tb.length<sizeLine) (_:∀H',cj H' d (dO tb k v)->aT d H H'->Q (.bl (gX tb k v)) H')
theorem Bi:aC ["told","key","cost"] ["told","key","cost"] (ao uv):=by walk_at "c"
theorem Bw{f:Addr}(F:cZ K "lower" "lower" uv f fd)(nb:NB mg):↑aY 1 f fd ["told","key","cost"] oE:=by
 have sc:=Bi;walk_at "f"
 ·obtain⟨d,b,tb,k,v,rfl,m,n,o,q⟩:=h
  have l:=m.told.get n;have j:=hr.units;have dL:gX tb k v=true->∀H2,H2=aD H d (.dT (dl (tb.map qj) (j4 k) (.int v)))->Q (.bl true) H2:=λa H2 e=>by
   have p:dO tb k v=qv tb k v:=by unfold dO;rw[q07 a]
   have:=q H2 (by rw[p,e,Dy];exact ae) (by rw[e];exact(aT.of λ_ _ h=>h).put)
   rwa [a]at this
  have c:tY H d (.ref b) (.int v) (aD H d (.dT (dl (tb.map qj) (j4 k) (.int v)))):=tY.t m n (by rw[LC];exact o);refine⟨_,(ad (bM (PW.pt (ge (lL (xq (Mg (Ml (by decide:1<=64) _) j) (al 1) (al 0)) (by with_unfolding_all rfl)) (fT (aK (bu.m0 iw) (lh (Mg (Ml (by decide:1<=64) _) j) (al 0) (al 1) (λ_ _=>rfl)) (al 2) (aZ _)))))
   (ai (aG rZ))
   aR)
   (ad (nO (Mg (Ml (by decide:1<=64) _) j) (al 0) (al 1) (al 2) rfl)
   (ai (aG rZ)))),?_⟩
  symm;refine⟨_,l,?_⟩;cases i:aN tb k with
  |none=>
   rw[q06 (by simp)];refine h1 _ _ ?_;ext;exact⟨_,c,dL (by unfold gX;rw[i]) _ rfl⟩
  |some u=>
   rw[i]at l;rw[q07 (by rfl)];refine⟨_,l,u,rfl,?_⟩
   by_cases g:u<=v
   ·rw[q07 g]
    have a:gX tb k v=false:=by unfold gX;rw[i];simp;omega
    have:=q H (by unfold dO;rw[a];exact m) (aT.of λ_ _ h=>h)
    rwa [a]at this
   ·rw[q06 g]
    refine h1 _ _ ?_;ext;exact⟨_,c,dL (by unfold gX;rw[i];simp;omega) _ rfl⟩
abbrev fE:Stmt:=eY 56
inductive ir(R:RC)(CG CC:Addr)(vs:List V)(H:Hp)(Q:VK)(_E:XK):Prop
 |mk (g dx ln cu d:Addr) (sg st:Mx) (as:MA) (rs:Yaa) (ns:Mx) (p:aE) (r c:Nat) (tb:Tb) (_:vs=[.ref g,.ref ln,.ref cu,.ref d]) (_:dv R H CG dx g sg st as rs) (_:(∀r∈rs,kH r)) (_:H ln=some (.lst (wz ns))) (_:(∀n∈ns,n<rs.length)) (_:ns.length<=100) (_:eQ CC H cu p) (_:dQ p r c) (_:cj H d tb) (_:tb.length<=10000000) (_:∀H',cj H' d (G' rs ns p tb)->aT d H H'->Q .non H')
theorem nj:aC ["grammar","numbers","cuts","told","cost","number","way"] ["grammar","numbers","cuts","told"] (ao fE):=by walk_at "c"
theorem m6{f:Addr}(F:cZ K "put_together" "put_together" fE f fd)(nb:NB mg)(rk:lF K R)(clC:iE K CC)(naC:Ff K CC)(yao:↑ij 1 CG "rule" ["self","k"] (fq R CG))(yaC:↑dk 6 "coming" ["grammar","numbers","cuts","told"] (qO R CG CC))(yak:↑dk 1 "lower" ["told","key","cost"] oE):↑aY 7 f fd ["grammar","numbers","cuts","told"] (ir R CG CC):=by
 have sc:=nj;walk_at "f"
 ·obtain⟨g,dx,ln,cu,d,sg,st,as,a,ns,p,r,c,tb,rfl,hG,hg,a6,I,u,hC,hp,hT,htl,q⟩:=h
  have hu:=hr.units;refine⟨_,(ai (aQ PassesOwn.never rfl (aS (aH yaC (hr.mono nofun) rfl aL (aa (al 0) (aa (al 1) (aa (al 2) (aa (al 3) ac)))))) (fX (n:=3) rfl (aW (q02 4 sc.nd) (aW (q02 5 sc.nd) (aW (q02 6 sc.nd) cW))))
   (ai (a_ (aH yak (hr.mono nofun) rfl aL (aa (al 3) (aa (bz (aa (bJ (al 2) rfl) (aa (bJ (kq yao (hr.mono nofun) aL (al 0) (aa (al 5) ac)) rfl) ac))) (aa (al 4) ac)))))))),?_⟩
  ext;refine⟨g,dx,ln,cu,d,sg,st,as,a,ns,p,r,c,aN tb,rfl,hG,hg,a6,I,u,hC,hp,hT.told,λl H1 hl hL O=>?_⟩;obtain⟨bs,hb,hA⟩:=hL;have v:cj H1 d tb:=hT.up O;have b0:=hG.up O;have b1:=hC.up O;have a1:=kf (T:=aN tb) hp (λr hr=>(hg r hr).k4) ns;have B:∀y∈ns.flatMap (cS (aN tb) a p),y.2.1∈ns:=λy S=>(q9 S).1;have a5:G' a ns p tb=qD a p tb (ns.flatMap (cS (aN tb) a p)):=rfl;rw[a5]at q;generalize ns.flatMap (cS (aN tb) a p)=ys at hA a1 B q;have a8:=hA.1;refine⟨l,rfl,⟨_,aI.of hb⟩,?_⟩;refine bB (xs:=bs.map V.ref) (λi σ z=>aT d H1 z/\cj z d (qD a p tb (ys.take i))/\i<=bs.length/\∃Z Y U,σ=[some (V.ref g),some (V.ref ln),some (V.ref cu),some (V.ref d),Z,Y,U]) ⟨aT.of λ_ _ h=>h,v,L3 _,_,_,_,rfl⟩ (λi σ z _ h=>aI.of ((h.1.kp v).lst hb)) ?_ ?_
  ·rintro i x σ z hx ⟨M,m,_,Z,Y,U,rfl⟩
   rw[LF]at hx;obtain⟨b,J,rfl⟩:=L6.mp hx;have hi:=(LA.mp J).1;obtain⟨y,S,a2⟩:=hA.get J;have kp:=M.kp v;obtain⟨lw,a9,_⟩:=a2.kp kp;obtain⟨j,o⟩:∃j,a[y.2.1]?=some j:=⟨_,Lz (I _ (B y (LG S)))⟩;have L:=b0.kp kp;obtain⟨dxc,lp,lb,la,a7,_⟩:=b1.kp kp;obtain⟨lk,pn,t0,ha,hkk,D,hN,hmm⟩:=id L;obtain⟨ra,G⟩:∃b,as[y.2.1]?=some b:=⟨_,Lz (by rw[D.1];exact(LA.mp o).1)⟩;obtain⟨rdx,rl,a4,_⟩:=D.2 _ ra j G o;ext;refine⟨_,cK.of a9,rfl,_,_,rfl,_,_,rfl,_,_,rfl,rfl,?_⟩;refine⟨_,_,_,a7,clC,naC.2.1,_,rfl,dx,_,ha,rfl,g,dx,sg,st,as,a,y.2.1,ra,rfl,L,G,?_⟩;refine⟨ra,rfl,_,_,_,a4,(rk.icls j.1).cl,(rk.name j.1).1,_,(ji rl j.2 j.1).1,am nofun,λtp C=>?_⟩;have hps:=(lZ a p (ys.take i) tb).len;have htk:(ys.take i).length<=ys.length:=by rw[Me];omega
   refine⟨d,tp,qD a p tb (ys.take i),(bp p,j.2.n),y.1,rfl,m.up (af C),ae,?_,λH2 a3 a0=>⟨M.trans ((aT.of (af C)).trans a0),?_,hi⟩⟩
   ·have:=q0V;omega
   ·have e:qD a p tb (ys.take (i+1))=dO (qD a p tb (ys.take i)) (bp p,j.2.n) y.1:=by
     unfold qD;rw[q0E,S,List.foldl_append];show dO _ (bp p,lS a y.2.1) y.1=_;rw[show lS a y.2.1=j.2.n by unfold lS;rw[o]]
    rw[e];exact a3
  ·rintro σ z ⟨M,m,_,Z,Y,U,rfl⟩
   rw[LC,a8,Md]at m;exact q z m ((aT.of O).trans M)
abbrev sO:Stmt:=eY 22
inductive uX(vs:List V)(H:Hp)(Q:VK)(_E:XK):Prop
 |mk (t u:Nat) (_:vs=[.int (t:Int),.int (u:Int)]) (_:t<8) (_:u<8) (_:Q (.int (after t u:Nat)) H)
theorem BR:aC ["t","u"] ["t","u"] (ao sO):=by walk_at "c"
theorem BF{f:Addr}(F:cZ K "after" "after" sO f fd):↑aY 1 f fd ["t","u"] uX:=by
 have sc:=BR;walk_at "f"
 ·obtain⟨t,u,rfl,ht,hu,q⟩:=h
  refine⟨_,(ad (bM (ny zf (pv 1) aj (aZ _))
   (ai (aG (az bP (az du (az br (pv 0) aj) aj) (az bh (az bP (pv 0) (pv 1)) aj))))
   aR)
   (ai (aG (az bP (az du (az i' aj (az br (pv 0) aj)) aj) (az bh (az i' (pv 1) (pv 0)) aj))))),?_⟩
  ext
  split
  ·have e:((after t u:Nat):Int)=(t:Int)/4*4+((t:Int)+u)%4:=by unfold after;rw[q07 ⋯];omega
   rw[<- e];exact q
  ·have e:((after t u:Nat):Int)=(1-(t:Int)/4)*4+((u:Int)-t)%4:=by unfold after;rw[q06 ⋯];omega
   rw[<- e];exact q
theorem aO.app{β:Type}{A:Hp->Addr->β->Prop}:∀{bs2:MA} {ys2:List β} {bs:MA} {ys:List β},aO A H bs ys->aO A H bs2 ys2->aO A H (bs++bs2) (ys++ys2)
 | [],[],bs,ys,h,_=>by rw[Ma,Ma];exact h
 | [],_::_,_,_,_,h2=>nomatch h2.1
 |_::_,[],_,_,_,h2=>nomatch h2.1
 |b::bs2,y::ys2,bs,ys,h,h2=>by
  have h3:aO A H bs2 ys2:=⟨Nat.succ.inj h2.1,λi c z e1 e2=>h2.2 (i+1) c z e1 e2⟩;have:=aO.app (h.snoc (h2.2 0 b y rfl rfl)) h3
  rwa [Mb,Mb]at this
theorem By{H:Hp}{Q:VK}{neg:Bool}(ha:H a=some (.lst xs))(hb:H b=some (.lst []))(q:Q (.bl (xs.isEmpty != neg)) H):Go K neg (.ref a) (.ref b) H Q:=by
 cases xs with
 |nil=>
  refine .inl ⟨[],by unfold Dt.deps;omega,.inl ⟨?_,?_⟩,by simpa using q⟩
  ·unfold nQ;exact⟨a,_,rfl,aI.of ha,by unfold gS;rfl⟩
  ·unfold nQ;exact⟨b,_,rfl,aI.of hb,by unfold gS;rfl⟩
 |cons x xs=>exact .inr ⟨a,b,_,_,rfl,rfl,aI.of ha,aI.of hb,by simp,by simpa using q⟩
def fg(q:aE):List Str:=(List.range 8).map λt=>tx (bp (turned q t))
def jJ(q:aE)(ns:List (List Nat))(tb:Tb)(n:Nat):List Ky:=((List.range n).flatMap λt=>ns.map λn=>(bp (turned q t),n)).filter λk=>(aN tb k).isSome
theorem oA(q:aE)(ns:List (List Nat))(tb:Tb)(n:Nat):jJ q ns tb (n+1)=jJ q ns tb n++ns.filterMap λm=>if(aN tb (bp (turned q n),m)).isSome=true then some (bp (turned q n),m) else none:=by
 unfold jJ;rw[q0M,List.flatMap_append,List.filter_append]
 congr 1
 rw[show([n].flatMap λt=>ns.map λn=>(bp (turned q t),n))=ns.map λm=>(bp (turned q n),m) by simp]
 induction ns with
 |nil=>rfl
 |cons m ns ih=>
  rw[L8,List.filter_cons,q0U];cases h:(aN tb (bp (turned q n),m)).isSome with
  |true=>simp only[q07];rw[ih]
  |false=>simp only[q0Z,if_false];exact ih
theorem lH(q:aE)(ns:List (List Nat))(tb:Tb):∀n,(jJ q ns tb n).length<=n*ns.length
 |0=>by simp[jJ]
 |n+1=>by
  rw[oA,LZ,Nat.add_mul,Nat.one_mul];exact Nat.add_le_add (lH q ns tb n) (List.length_filterMap_le _ _)
theorem rH{ns:List (List Nat)}{k:Ky}:k∈jJ q ns tb 8↔k∈CK q ns/\∃v,aN tb k=some v:=by
 unfold jJ;rw[List.mem_filter,Option.isSome_iff_exists];rfl
theorem wm{z:Str}:∀{ts:MF},z∈ts->∃j:Nat,ts[j]?=some z/\∀(m:Nat) (y:Str),m<j->ts[m]?=some y->y≠z
 | [],h=>nomatch h
 |x::ts,h=>by
  by_cases e:x=z
  ·exact⟨0,by rw[e];rfl,λm y hm=>q0Q hm (Nat.not_lt_zero _)⟩
  ·rcases LR.mp h with h | h
   ·exact q0Q h.symm e
   ·obtain⟨j,h1,h2⟩:=wm h
    refine⟨j+1,h1,λm y hm hy=>?_⟩;cases m with
    |zero=>rw[List.getElem?_cons_zero]at hy;cases hy;exact e
    |succ m=>exact h2 m y ⋯ hy
theorem F8{t:Nat}{z:Str}(h:(fg q)[t]?=some z):t<8/\z=tx (bp (turned q t)):=by
 unfold fg at h;rw[LF]at h;obtain⟨x,a,rfl⟩:=L6.mp h;have b:=(LA.mp a).1;rw[q0J]at b;rw[List.getElem?_range b]at a;cases a;exact⟨b,rfl⟩
theorem Df{t:Nat}(h:t<8):(fg q)[t]?=some (tx (bp (turned q t))):=by
 unfold fg;rw[LF,List.getElem?_range h];rfl
inductive Jc(H:Hp)(q:aE)(ns:List (List Nat))(tb0:Tb)(lr lt ln d l:Addr)(i:Nat)(H':Hp):St->Prop
 |mk (bs:MA) (x5 x6 x7 x8 x9:Option V) (_:ax H H') (_:H' l=some (.lst (bs.map V.ref))) (_:aO bo H' bs (jJ q ns tb0 i)):Jc H q ns tb0 lr lt ln d l i H' [some (V.ref lr),some (V.ref lt),some (V.ref ln),some (V.ref d),some (V.ref l),x5,x6,x7,x8,x9]
inductive IZ(H:Hp)(trs rs:Yaa)(q:aE)(ns:List (List Nat))(M L0:Nat)(tb0:Tb)(lr lt ln d:Addr)(m:Nat)(H':Hp):St->Prop
 |mk (tb:Tb) (chs:List Ky) (l2:Addr) (cs:MA) (x5 x6 x7 x8 x9:Option V) (_:aT d H H') (_:cj H' d tb) (_:H' l2=some (.lst (cs.map V.ref))) (_:aO bo H' cs chs) (_:TI trs rs q ns M L0 tb0 tb (λk=>k∈chs)) (_:chs.length<=8000000) (_:m=FJ (CK q ns) (M+576) tb+(if chs=[] then 0 else 1)):IZ H trs rs q ns M L0 tb0 lr lt ln d m H' [some (V.ref lr),some (V.ref lt),some (V.ref ln),some (V.ref d),some (V.ref l2),x5,x6,x7,x8,x9]
structure I9(trs rs:Yaa)(q:aE)(ns:List (List Nat))(M L0:Nat)(tb0 tb:Tb)(all:List Ky)(d l2 lw:Addr)(cs:MA)(H H':Hp)(i:Nat)(tb5:Tb)(ws:MA)(lws:List Ky):Prop where
 sx:aT d H H'
 l:H' l2=some (.lst (cs.map V.ref))
 cA:aO bo H' cs all
 T:cj H' d tb5
 w:H' lw=some (.lst (ws.map V.ref))
 wA:aO bo H' ws lws
 I:TI trs rs q ns M L0 tb0 tb5 (λk=>k∈all.drop i\/k∈lws)
 m:FJ (CK q ns) (M+576) tb5+lws.length<=FJ (CK q ns) (M+576) tb
inductive IT(trs rs:Yaa)(q:aE)(ns:List (List Nat))(M L0:Nat)(tb0 tb:Tb)(all:List Ky)(lr lt ln d l2 lw:Addr)(cs:MA)(H H':Hp)(i:Nat):St->Prop
 |mk (tb5:Tb) (ws:MA) (lws:List Ky) (x5 x7 x8 x9:Option V) (_:I9 trs rs q ns M L0 tb0 tb all d l2 lw cs H H' i tb5 ws lws):IT trs rs q ns M L0 tb0 tb all lr lt ln d l2 lw cs H H' i [some (V.ref lr),some (V.ref lt),some (V.ref ln),some (V.ref d),some (V.ref l2),x5,some (V.ref lw),x7,x8,x9]
inductive Jd(trs rs:Yaa)(q:aE)(ns:List (List Nat))(M L0:Nat)(tb0 tb:Tb)(all:List Ky)(lr lt ln d l2 lw:Addr)(cs:MA)(H:Hp)(i t:Nat)(k:Ky)(v:Int)(H':Hp)(j:Nat):St->Prop
 |mk (tb5:Tb) (ws:MA) (lws:List Ky) (x8 x9:Option V) (_:I9 trs rs q ns M L0 tb0 tb all d l2 lw cs H H' i tb5 ws lws) (_:aN tb5 k=some v) (_:∀r∈trs.take j,r.2.o1=k.2->∃v',v'<=v+r.2.c/\aN tb5 (gB q r t)=some v'):Jd trs rs q ns M L0 tb0 tb all lr lt ln d l2 lw cs H i t k v H' j [some (V.ref lr),some (V.ref lt),some (V.ref ln),some (V.ref d),some (V.ref l2),some (V.str (tx k.1)),some (V.ref lw),some (V.str (tx k.2)),x8,x9]
abbrev ic:Stmt:=eY 58
theorem va{tb:TS}{σ:St}(h:∀tb',tb'=tb->yg c tb' D σ H):yg c tb D σ H:=h tb rfl
theorem zS{n:Nat}(h:n<=8000000):n<sizeLine:=by have:=q0V;omega
inductive jN(R:RC)(vs:List V)(H:Hp)(Q:VK)(_E:XK):Prop
 |mk (lr lt ln d:Addr) (as:MA) (trs rs:Yaa) (q:aE) (a c:Nat) (ns:List (List Nat)) (M L0:Nat) (tb0:Tb) (_:vs=[.ref lr,.ref lt,.ref ln,.ref d]) (_:H lr=some (.lst (as.map V.ref))) (_:bR R H as trs) (_:H lt=some (.lst ((fg q).map V.str))) (_:H ln=some (.lst (ns.map λn=>V.str (tx n)))) (_:cj H d tb0) (_:rect q a c) (_:0<a) (_:0<c) (_:(∀t,t<8->vH (turned q t))) (_:ns.length<=8) (_:(∀r∈trs,HY rs ns r/\r.1=3)) (_:TI trs rs q ns M L0 tb0 tb0 (λk=>k∈CK q ns/\∃v,aN tb0 k=some v)) (_:M<=100000) (_:L0<=10000000) (_:∀H' tb',cj H' d tb'->TI trs rs q ns M L0 tb0 tb' (λ_=>False)->aT d H H'->Q .non H')
theorem qp:aC ["rules","texts","names","told","changed","text","lowered","name","rule","key"] ["rules","texts","names","told"] (ao ic):=by walk_at "c"
theorem qz{f:Addr}(F:cZ K "turn_about" "turn_about" ic f fd)(nb:NB mg)(rk:lF K R)(yaK:↑dk 1 "after" ["t","u"] uX)(yak:↑dk 1 "lower" ["told","key","cost"] oE):↑aY 2 f fd ["rules","texts","names","told"] (jN R):=by
 have sc:=qp;walk_at "f"
 ·obtain⟨lr,lt,ln,d,as,trs,rs,q,a,c,ns,M,L0,tb0,rfl,hlr,hrs,hlt,hln,hT,hq,a0,c0,hO,h8,hR,hTI,hM,hL0,qq⟩:=h
  have hu:=hr.units;refine⟨_,(ad (q01 4 sc.nd (ba ac))
   (ad (aQ PassesOwn.never rfl (aS (al 1)) (au (i:=5) sc.nd rfl (Or.inr rfl))
   (ai (a_ (dy PySem.F.plainAttrs_list PySem.F.slot_list_extend PySem.F.type_list_extend jh (al 4) (aa (bS ["name"] [5,3] rfl (bA.of (by kernel_rfl)) (by kernel_rfl) (aS (al 2))
    (λ_ _ _ _=>(au (i:=0) (by show(["name","text","told"]:List Str).Nodup;decide +kernel) rfl (Or.inl rfl))) (λ_ _ _ _=>(nV (lL (xq (Mg (Ml (by decide:1<=64) _) hu) (bz (aa (al 1) (aa (al 0) ac))) (al 2)) (by with_unfolding_all rfl)))) (λ_ _ _ _=>(bz (aa (al 1) (aa (al 0) ac))))) ac)))))
   (ai (CY PassesOwn.never (aK (Gd hu) (al 4) (ba ac) (aZ _)) (ad (q01 6 sc.nd (ba ac))
   (ad (aQ PassesOwn.never rfl (aS (al 4)) (fX (n:=2) rfl (aW (au (i:=5) sc.nd rfl (Or.inr rfl)) (aW (q02 7 sc.nd) cW)))
   (ai (aQ PassesOwn.never rfl (aS (al 0)) (q02 8 sc.nd)
   (ad (q01 9 sc.nd (bz (aa (aM bD (al 1) (aH yaK (hr.mono nofun) rfl aL (aa (dy PySem.F.plainAttrs_list PySem.F.slot_list_index PySem.F.type_list_index zV (al 1) (aa (al 5) ac)) (aa (bJ (al 8) rfl) ac))) (λ_ _=>rfl)) (aa (bJ (al 8) rfl) ac))))
   (ai (bM (PW.pt (ge (aK dN (bJ (al 8) rfl) (al 7) (aZ _)) (fT (eU (aH yak (hr.mono nofun) rfl aL (aa (al 3) (aa (al 9) (aa (az (bu.m0 bP) (lh (Mg (Ml (by decide:1<=64) _) hu) (al 3) (bz (aa (al 5) (aa (al 7) ac))) (λ_ _=>rfl)) (bJ (al 8) rfl)) ac)))) λ_=>rfl))))
   (ai (a_ (dy PySem.F.plainAttrs_list PySem.F.slot_list_append PySem.F.type_list_append bV (al 6) (aa (al 9) ac))))
   aR))))))
   (ai (q01 4 sc.nd (al 6))))))))),?_⟩
  symm;refine⟨L3 _,λl hl=>h1 _ _ ?_⟩;clear h1;generalize z0:aD H l _=H1;obtain⟨s1,e1⟩:=gn hl z0;symm;have hT1:cj H1 d tb0:=hT.up s1;have hcl:(fg q).length=8:=by unfold fg;rw[LC,q0J]
  refine⟨⟨_,aI.of (s1 _ _ hlt)⟩,?_⟩;refine bB (xs:=(fg q).map V.str) (λi σ H'=>Jc H q ns tb0 lr lt ln d l i H' σ) (.mk [] _ _ _ _ _ s1 e1 aO.nil) (λi σ H' _ h=>by cases h with | mk _ _ _ _ _ _ s=>exact aI.of (s _ _ hlt)) ?_ ?_
  ·rintro i x σ H' hx ⟨bs,x5,x6,x7,x8,x9,sm,hb,hA⟩
   rw[LF]at hx;obtain⟨z,hz,rfl⟩:=L6.mp hx;have hi:i<8:=by have:=(LA.mp hz).1;omega
   have hz':z=tx (bp (turned q i)):=by
    unfold fg at hz;rw[LF,List.getElem?_range hi]at hz;cases hz;rfl
   subst hz';ext;refine⟨.inl ⟨rfl,_,aI.of hb⟩,⟨_,aI.of (sm _ _ hln)⟩,?_⟩;refine vY bo bo.up (as:=ns) (emb:=λn=>V.str (tx n)) (f:=λn=>if(aN tb0 (bp (turned q i),n)).isSome=true then some (bp (turned q i),n) else none) (λσ=>∃x,σ=[x,some (V.str (tx (bp (turned q i)))),some (V.ref d)]) ⟨_,rfl⟩ (λH2 s2=>aI.of (s2 _ _ (sm _ _ hln))) ⋯ ?_ ?_
   ·rintro j n hn σ H2 M1 M0 ⟨x0,rfl⟩ s2 k1 k0
    have hT2:cj H2 d tb0:=(hT.up sm).up s2;ext;refine⟨am nofun,λtp htp=>?_⟩;generalize z0:aD H2 tp _=H3;obtain⟨s3,(hk:bo H3 tp (bp (turned q i),n))⟩:=gn htp z0;have hg:=(hT2.up s3).told.get hk;refine⟨_,hg,?_⟩;cases hv:aN tb0 (bp (turned q i),n) with
    |none=>
     rw[q06 (by simp)];exact k0 _ _ (by simp[hv]) (s2.trans s3) s3 ⟨_,rfl⟩
    |some v=>
     rw[q07 (by rfl)];exact⟨am nofun,λt2 ht2=>k1 t2 (bp (turned q i),n) _ _ (by simp[hv]) ae (s2.trans (s3.trans (af ht2))) (s3.trans (af ht2)) ⟨_,rfl⟩⟩
   ·intro bs2 H2 s2 hA2 l2 hl2
    generalize z0:aD H2 l2 _=H3;obtain⟨s3,e3⟩:=gn hl2 z0;have hb3:=s3 _ _ (s2 _ _ hb);have n1:=hA.1;have n2:=hA2.1;have n3:=lH q ns tb0 i;have n4:=List.length_filterMap_le (λn=>if(aN tb0 (bp (turned q i),n)).isSome=true then some (bp (turned q i),n) else none) ns;have n5:i*ns.length<=8*8:=Nat.mul_le_mul ⋯ h8;refine⟨_,hb3,_,e3,by rw[LC,LC];exact am ⋯,?_⟩;refine .mk (bs++bs2) _ _ _ _ _ (cn ((sm.trans s2).trans s3) hl) (by rw[ae,LO]) ?_;rw[oA];exact aO.app (hA.mono λb y _ _ h=>((h.up s2).up s3).put hb3) (hA2.mono λb y _ _ h=>(h.up s3).put hb3)
  ·rintro σ H' ⟨bs,x5,x6,x7,x8,x9,sm,hb,hA⟩
   refine h1 _ _ ?_;rw[LC,hcl]at hA;ext;have hTI0:=hTI.op (op':=λk=>k∈jJ q ns tb0 8) (λk hk=>rH.mp hk) (λk v ho no _=>q0Q (rH.mpr ho) no);have hch:(jJ q ns tb0 8).length<=8*8:=L9 (lH q ns tb0 8) (Nat.mul_le_mul_left _ h8);have hT':cj H' d tb0:=hT.up sm;refine va λtw etw=>?_;refine⟨λm σ H2=>IZ H trs rs q ns M L0 tb0 lr lt ln d m H2 σ,⟨_,.mk tb0 _ l bs _ _ _ _ _ (aT.of sm) hT' hb hA hTI0 ⋯ rfl⟩,?_⟩;rintro m σ H2 ⟨tb,chs,l2,cs,y5,y6,y7,y8,y9,sx,hT2,hc2,hcA,hI,hcl2,hm⟩;ext;refine⟨L3 _,λlz hlz=>?_⟩;generalize z0:aD H2 lz _=H3;obtain⟨s3,e3⟩:=gn hlz z0;refine By (s3 _ _ hc2) e3 ⟨_,rfl,?_⟩;cases chs with
   |nil=>
    have:cs=[]:=Mh.mp hcA.1;subst this;rw[q06 (by simp)];exact qq H3 tb (hT2.up s3) (hI.op (λk hk=>hk.elim) (λk v ho _ _=>nomatch ho)) (sx.then s3)
   |cons ch chs=>
    have hne:cs≠[]:=λe=>by rw[e]at hcA;exact nomatch hcA.1
    rw[q07 (by cases cs with | nil=>exact q0Q rfl hne | cons _ _=>rfl)];rw[etw];generalize hall:ch::chs=all at hcA hI hcl2 hm;have ybm:all≠[]:=λe=>nomatch hall.trans e;rw[q06 ybm]at hm;refine⟨_,λσ' H' h=>h,?_⟩;have hmu:=hI.mu h8;have hmu2:(M+577)*64<=8000000:=by omega
    have hT3:cj H3 d tb:=hT2.up s3;have sx3:=sx.then s3;have hc3:=s3 _ _ hc2;have hcA3:=hcA.mono λb y _ _ (h:bo H2 b y)=>h.up s3;symm;refine⟨L3 _,λlw hlw=>h1 _ _ ?_⟩;clear h1;have s4:=af (o:=.lst []) hlw;have e4:aD H3 lw (.lst []) lw=some (.lst []):=ae;have hl2w:l2≠lw:=aA hc3 hlw;have hlw0:∀o,H lw=some o->lw=d:=λo h=>by
     by_cases e:lw=d
     ·exact e
     ·have:=sx3 lw o e h
      rw[hlw]at this;cases this
    have hlwd:lw≠d:=λe=>by
     rw[e]at hlw;rw[show H3 d=_ from hT3]at hlw;cases hlw
    generalize aD H3 lw (.lst [])=H4 at s4 e4 ⊢;symm;refine⟨⟨_,aI.of (s4 _ _ hc3)⟩,?_⟩;refine bB (xs:=cs.map V.ref) (λi σ H5=>IT trs rs q ns M L0 tb0 tb all lr lt ln d l2 lw cs H H5 i σ) ?_ (λi σ H5 _ h=>by cases h with | mk _ _ _ _ _ _ _ h=>exact aI.of h.l) ?_ ?_
    ·exact .mk tb [] [] _ _ _ _ ⟨sx3.then s4,s4 _ _ hc3,hcA3.mono λb y _ _ h=>h.up s4,hT3.up s4,e4,aO.nil,hI.op (λk hk=>hk.elim id λz=>nomatch z) (λk v ho no _=>q0Q (.inl ho) no),L1 _⟩
    ·rintro i x σ H5 hx ⟨tb5,ws,lws,z5,z7,z8,z9,h5⟩
     rw[LF]at hx;obtain⟨cb,hcb,rfl⟩:=L6.mp hx;have hi:=(LA.mp hcb).1;obtain⟨k,hk,hkb⟩:=h5.cA.get hcb;have nB:=(LA.mp hk).1;have hdr:all.drop i=k::all.drop (i+1):=by
      rw[q0T nB];rw[Lz nB]at hk;cases hk;rfl
     obtain⟨hkC,v,hv⟩:=h5.I.opk k (.inl (by rw[hdr];exact q0B ..));obtain⟨t1,ht1,n1,hn1,ek⟩:=jY.mp hkC;obtain⟨t,hti,hfirst⟩:=wm (z:=tx k.1) (LG (show(fg q)[t1]?=some (tx k.1) by rw[Df ht1,ek]));obtain⟨ht,ezt⟩:=F8 hti;have ekt:k.1=bp (turned q t):=cN ezt;have kp5:=h5.sx.kp hT;ext;refine⟨_,cK.of hkb,rfl,_,_,rfl,_,_,rfl,rfl,⟨_,aI.of (kp5.lst hlr)⟩,?_⟩;refine bB (xs:=as.map V.ref) (λj σ H6=>Jd trs rs q ns M L0 tb0 tb all lr lt ln d l2 lw cs H i t k v H6 j σ) (.mk tb5 ws lws _ _ h5 hv (λr hr=>nomatch hr)) (λj σ H6 _ h=>by cases h with | mk _ _ _ _ _ h=>exact aI.of ((h.sx.kp hT).lst hlr)) ?_ ?_
     ·rintro j x σ H6 hx ⟨tb6,ws6,lws6,y8,y9,⟨sx6,hl6,hcA6,hT6,hw6,hwA6,hI6,hm6⟩,hv6,hs6⟩
      rw[LF]at hx;obtain⟨ra,hra,rfl⟩:=L6.mp hx;have hj:=(LA.mp hra).1;obtain⟨r,hr⟩:∃r,trs[j]?=some r:=⟨_,Lz (by rw[<- hrs.1];exact hj)⟩;obtain⟨r3,rk3⟩:=hR r (LG hr);have kp6:=sx6.kp hT;obtain⟨rdx,rl,hrb,_⟩:=(hrs.kp kp6).2 j ra r hra hr;rw[rk3]at hrb;have hrb':H6 ra=some (.ins R.ct rdx (E8 r.2.n r.2.c rl r.2.o1 r.2.t)):=hrb;have hu8:r.2.t.toNat<8:=by have:=r3.t0;have:=r3.t7;omega
      have hat:=gJ ht hu8;refine ak λN1 h1=>?_;have hlt6:H6 lt=some (.lst ((fg q).map V.str)):=kp6.lst hlt;ext;refine⟨.inl ⟨rfl,_,aI.of hlt6⟩,fg q,hlt6,t,hti,hfirst,_,_,_,hrb',rk.i3.cl,rk.a3.2.2.2.2,_,rfl,t,r.2.t.toNat,by rw[Mr r3.t0],ht,hu8,_,rfl,(fg q).map V.str,aI.of hlt6,_,bH (by rw[LF,Df hat];rfl),_,_,_,hrb',rk.i3.cl,rk.a3.1,_,rfl,am nofun,λtp htp=>h1 _ _ ?_⟩;clear h1;have s7:=af (o:=.tup [V.str (tx (bp (turned q (after t r.2.t.toNat)))),V.str (tx r.2.n)]) htp;have hk7:bo (aD H6 tp (.tup [V.str (tx (bp (turned q (after t r.2.t.toNat)))),V.str (tx r.2.n)])) tp (gB q r t):=ae;change zI _ _ _ _ _ (aD H6 tp (.tup [V.str (tx (bp (turned q (after t r.2.t.toNat)))),V.str (tx r.2.n)]));generalize aD H6 tp (.tup [V.str (tx (bp (turned q (after t r.2.t.toNat)))),V.str (tx r.2.n)])=H7 at s7 hk7 ⊢;have hT7:=hT6.up s7;have hrb7:=s7 _ _ hrb';ext;have htk:trs.take (j+1)=trs.take j++[r]:=by rw[q0E,hr];rfl
      have hwA7:=hwA6.mono λb y _ _ (h:bo H6 b y)=>h.up s7;have hcA7:=hcA6.mono λb y _ _ (h:bo H6 b y)=>h.up s7;refine⟨_,_,_,hrb7,rk.i3.cl,rk.a3.2.2.2.1,_,rfl,rfl,?_⟩
      by_cases e:r.2.o1=k.2
      ·rw[q07 (by rw[e])]
       refine⟨am nofun,λtq htq=>?_⟩;generalize z0:aD H7 tq _=H8;obtain⟨s8,(hk8:bo H8 tq k)⟩:=gn htq z0;have hT8:cj H8 d tb6:=hT7.up s8;have hg8:=hT8.told.get hk8;rw[hv6]at hg8;have h64:=hI6.len64 h8;have ek2:(bp (turned q t),r.2.o1)=k:=by rw[<- ekt,e]
       obtain⟨hI9,hm9⟩:=hI6.low hq a0 c0 hO h8 r3 ht (v:=v) (by rw[ek2];exact hkC) (by rw[ek2];exact hv6);refine⟨_,hg8,_,_,_,s8 _ _ hrb7,rk.i3.cl,rk.a3.2.1,_,rfl,v,rfl,r.2.c,rfl,d,tp,tb6,gB q r t,v+r.2.c,rfl,hT8,hk7.up s8,by have:=q0V;omega,λH9 hT9 sx9=>⟨_,rfl,?_⟩⟩;have kp9:=sx9.kp hT8;have hv9:aN (dO tb6 (gB q r t) (v+r.2.c)) k=some v:=by
        rw[ju]
        split
        ·rename_i hc
         obtain⟨hc1,hc2⟩:=hc;unfold gX at hc2;rw[<- hc1,hv6]at hc2;have h3:v+r.2.c<v:=by simpa using hc2
         have:=r3.c1;omega
        ·exact hv6
       have hs9:∀r'∈trs.take (j+1),r'.2.o1=k.2->∃v',v'<=v+r'.2.c/\aN (dO tb6 (gB q r t) (v+r.2.c)) (gB q r' t)=some v':=by
        intro r' hr' e';rw[htk]at hr';rcases LP.mp hr' with hr' | hr'
        ·obtain⟨v1,l1,e1⟩:=hs6 r' hr' e'
         obtain⟨v2,l2,e2⟩:=w9 tb6 (gB q r t) (v+r.2.c) _ _ e1;exact⟨v2,Int.le_trans l2 l1,e2⟩
        ·rw[LD.mp hr']
         exact zk _ _ _
       have sx9':=(sx6.then (s7.trans s8)).trans sx9;have hl9:=kp9.lst (s8 _ _ (s7 _ _ hl6));have hw9:=kp9.lst (s8 _ _ (s7 _ _ hw6));have hcA9:=hcA7.mono λb y _ _ (h:bo H7 b y)=>(h.up s8).kp kp9;have hwA9:=hwA7.mono λb y _ _ (h:bo H7 b y)=>(h.up s8).kp kp9;have hk9:=(hk7.up s8).kp kp9;cases hlb:gX tb6 (gB q r t) (v+r.2.c) with
       |false=>
        rw[hlb]at hI9 hm9;rw[q06 (by simp)];refine .mk _ ws6 lws6 _ _ ⟨sx9',hl9,hcA9,hT9,hw9,hwA9,hI9.op (λx hx=>.inl hx) (λx w ho no _=>?_),by simp at hm9;omega⟩ hv9 hs9;exact q0Q (ho.elim id λz=>nomatch z.1) no
       |true=>
        rw[hlb]at hI9 hm9;rw[q07 rfl];have hwl:=hwA6.1;simp only[q07]at hm9;refine⟨.inl ⟨rfl,_,aI.of hw9⟩,_,hw9,by rw[LC];exact zS ⋯,.mk _ (ws6++[tp]) (lws6++[gB q r t]) _ _ ⟨λb o hb h=>?_,?_,?_,?_,?_,(hwA9.mono λb y _ _ h=>h.put hw9).snoc (hk9.put hw9),hI9.op (λx hx=>?_) (λx w ho no _=>?_),?_⟩ hv9 hs9⟩
        ·rw[ar (show b≠lw from λz=>hb (z.trans (hlw0 o (z▸h))))];exact sx9' b o hb h
        ·rw[ar hl2w];exact hl9
        ·exact hcA9.mono λb y _ _ h=>h.put hw9
        ·show aD H9 lw _ d=_
         rw[ar (Ne.symm hlwd)];exact hT9
        ·rw[ae,LO];rfl
        ·rcases hx with hx | hx
         ·exact .inl (.inl hx)
         ·rcases LP.mp hx with hx | hx
          ·exact .inl (.inr hx)
          ·exact .inr ⟨rfl,LD.mp hx⟩
        ·refine q0Q ?_ no
         rcases ho with(ho | ho) | ho
         ·exact .inl ho
         ·exact .inr (q0D _ ho)
         ·exact .inr (q0C _ (LD.mpr ho.2))
        ·rw[LZ,q0Y];omega
      ·rw[q06 (λh=>e (cN (by injection h)))]
       refine .mk tb6 ws6 lws6 _ _ ⟨sx6.then s7,s7 _ _ hl6,hcA7,hT7,s7 _ _ hw6,hwA7,hI6,hm6⟩ hv6 λr' hr' e'=>?_;rw[htk]at hr';rcases LP.mp hr' with hr' | hr'
       ·exact hs6 r' hr' e'
       ·rw[LD.mp hr']at e'
        exact q0Q e' e
     ·rintro σ H6 ⟨tb6,ws6,lws6,y8,y9,h6,hv6,hs6⟩
      rw[LC,hrs.1,Md]at hs6;refine .mk tb6 ws6 lws6 _ _ _ _ ⟨h6.sx,h6.l,h6.cA,h6.T,h6.w,h6.wA,h6.I.op (λx hx=>hx.elim (λh=>.inl (by rw[hdr];exact LS _ h)) .inr) (λx w ho no e=>?_),h6.m⟩;have ex:x=k:=by
       rcases ho with ho | ho
       ·rw[hdr]at ho
        rcases LR.mp ho with ho | ho
        ·exact ho
        ·exact q0Q (.inl ho) no
       ·exact q0Q (.inr ho) no
      subst ex;rw[hv6]at e;cases e;intro r hr e1 t' ht' e2;obtain⟨v',l',e'⟩:=hs6 r hr e1;have u8:r.2.t.toNat<8:=by have:=(hR r hr).1.t0;have:=(hR r hr).1.t7;omega
      refine⟨v',l',?_⟩;have et:turned q t'=turned q t:=(hO t' ht').inj (hO t ht) (by rw[<- e2,<- ekt]);unfold gB at e' ⊢;rw[<- bN hq a0 c0 ht' u8,et,bN hq a0 c0 ht u8];exact e'
    ·rintro σ H5 ⟨tb5,ws,lws,z5,z7,z8,z9,⟨sx5,hl5,hcA5,hT5,hw5,hwA,hI5,hm5⟩⟩
     refine h1 _ _ ?_;ext;rw[LC,hcA5.1,List.drop_length]at hI5;have hI9:=hI5.op (op':=λk=>k∈lws) (λk hk=>.inr hk) (λk v ho no _=>ho.elim (λz=>nomatch z) λz=>q0Q z no);refine⟨_,?_,.mk tb5 lws lw ws _ _ _ _ _ sx5 hT5 hw5 hwA hI9 ⋯ rfl⟩;cases lws with
     |nil=>rw[q07 rfl];simp at hm5;omega
     |cons _ _=>rw[q06 (by simp)];simp at hm5;omega
theorem oR:∀{as:MA} {rs:Yaa},bR R H as rs->∃tas:List Addr,((as.zip rs).filterMap λx=>if x.2.1=3 then some (V.ref x.1) else none)=tas.map V.ref/\bR R H tas (oX rs)
 | [],[],h=>⟨[],rfl,h⟩
 | [],_::_,h=>nomatch h.1
 |_::_,[],h=>nomatch h.1
 |a::as,r::rs,h=>by
  have h2:bR R H as rs:=⟨Nat.succ.inj h.1,λi b y e1 e2=>h.2 (i+1) b y e1 e2⟩;obtain⟨tas,e,ht⟩:=oR h2;rw[List.zip_cons_cons,q0U]
  by_cases h3:r.1=3
  ·refine⟨a::tas,by simp only[q07 h3];rw[e];rfl,?_⟩
   have et:oX (r::rs)=r::oX rs:=by unfold oX;rw[List.filter_cons,q07 (by simpa using h3)]
   rw[et];refine⟨by rw[LN,LN,ht.1],λi b y e1 e2=>?_⟩;cases i with
   |zero=>
    rw[List.getElem?_cons_zero]at e1 e2;cases e1;cases e2
    exact h.2 0 _ _ rfl rfl
   |succ i=>exact ht.2 i b y e1 e2
  ·refine⟨tas,by simp only[q06 h3];exact e,?_⟩
   have et:oX (r::rs)=oX rs:=by unfold oX;rw[List.filter_cons,q06 (by simpa using h3)]
   rw[et];exact ht
theorem rW:∀{as:MA} {rs:Yaa} (k:Nat),as.length=rs.length->(((as.zip rs).zipIdx k).filterMap λx=>if x.1.2.1=3 then none else some (V.int (x.2:Int)))=wz ((rs.zipIdx k).filterMap λx=>if x.1.1=3 then none else some x.2)
 | [],[],_,_=>rfl
 | [],_::_,_,h=>nomatch h
 |_::_,[],_,h=>nomatch h
 |a::as,r::rs,k,h=>by
  have ih:=rW (as:=as) (rs:=rs) (k+1) (Nat.succ.inj h);rw[List.zip_cons_cons,List.zipIdx_cons,List.zipIdx_cons,q0U,q0U]
  by_cases h3:r.1=3
  ·simp only[q07 h3];exact ih
  ·simp only[q06 h3];rw[ih];rfl
abbrev d0:Stmt:=eY 55
inductive fZ(R:RC)(CG:Addr)(vs:List V)(H:Hp)(Q:VK)(_E:XK):Prop
 |mk (g dx a d:Addr) (sg st:Mx) (as:MA) (rs:Yaa) (nms:List (List Nat)) (p q:aE) (r c:Nat) (Sn:aE->Prop) (dn:MF) (tb:Tb) (_:vs=[.ref g,.ref a,.ref d]) (_:dv R H CG dx g sg st as rs) (_:(bj (tx st) rs).map (·.1)=nms.map tx) (_:kY rs nms p r c) (_:(∀q,Sn q->vH q)) (_:(∀q,bd p r c q->Sn q)) (_:sS rs p r c dn q) (_:ES rs nms Sn dn tb) (_:H a=some (.lst (av q))) (_:cj H d tb) (_:tb.length<=9900000) (_:∀l H' tb',H' l=some (.lst ((fg q).map V.str))->cj H' d tb'->(∀dn',(∀z,z∈dn'↔z∈dn\/∃t,t<8/\z=tx (bp (turned q t)))->ES rs nms Sn dn' tb')->tb'.length<=tb.length+1216->aT d H H'->Q (.ref l) H')
theorem k9:aC ["grammar","picture","told","turning","putting","texts","t","cuts"] ["grammar","picture","told"] (ao d0):=by walk_at "c"
theorem km{f:Addr}(F:cZ K "enter_turnings" "enter_turnings" d0 f fd)(nb:NB mg)(rk:lF K R)(rk4:BP K R)(cc:jB K CC)(nc:Ff K CC){tkT:Tok}(yam:mg "TURNINGS"=some (.int 8 tkT))(zxa:mg "TurnRule"=some (.ref R.ct))(yax:↑ij 1 CG "rules" ["self"] (gs R CG))(yaB:↑ij 1 CG "names" ["self"] (gg R CG))(yaF:↑lR 3 "Cuts" CC ["self","picture"] (gR K))(zja:↑dk 3 "turned" ["picture","t"] (jv K))(yaL:↑dk 7 "put_together" ["grammar","numbers","cuts","told"] (ir R CG CC))(yaV:↑dk 2 "turn_about" ["rules","texts","names","told"] (jN R)):↑aY 8 f fd ["grammar","picture","told"] (fZ R CG):=by
 have sc:=k9;walk_at "f"
 ·obtain⟨g,dx,a,d,sg,st,as,m,f5,p,q,r,c,Sn,dn,tb,rfl,hG,g0,z,hD,hB,hN,hS,ha,hT,htl,qq⟩:=h
  have hu:=hr.units;refine⟨_,(ad (gO (i:=3) ["rule"] [] sc.nd rfl (Or.inl rfl) rfl  rfl (bA.of (by kernel_rfl)) (by kernel_rfl) (aS (oP yax (hr.mono nofun) aL (al 0)))
    (λ_ _ _ _=>(au (i:=0) (by show(["rule"]:List Str).Nodup;decide +kernel) rfl (Or.inl rfl))) (λ_ _ _ _=>(nV (eU (aF (gC (K:=K) rfl) rfl nb.isinstance dz (aa (al 0) (aa (cM (v:=.ref _) rfl zxa rfl) ac))) λ_=>rfl))) (λ_ _ _ _=>(al 0)))
   (ad (gO (i:=4) ["k","rule"] [] sc.nd rfl (Or.inl rfl) rfl  rfl (bA.of (by kernel_rfl)) (by kernel_rfl) (nR rfl nb.enumerate (aa (oP yax (hr.mono nofun) aL (al 0)) ac))
    (λ_ _ _ _=>(kG (K:=K) (n:=2) rfl rfl (aW (au (i:=0) (by show(["k","rule"]:List Str).Nodup;decide +kernel) rfl (Or.inl rfl)) (aW (au (i:=1) (by show(["k","rule"]:List Str).Nodup;decide +kernel) rfl (Or.inl rfl)) cW)))) (λ_ _ _ _=>(nV (i7 (eU (aF (gC (K:=K) rfl) rfl nb.isinstance dz (aa (al 1) (aa (cM (v:=.ref _) rfl zxa rfl) ac))) λ_=>rfl)))) (λ_ _ _ _=>(al 0)))
   (ad (q01 5 sc.nd (ba ac))
   (ad (aQ PassesOwn.never rfl (bE rfl nb.range (aa (cM (v:=.int 8) rfl yam ⟨_,rfl⟩) ac)) (q02 6 sc.nd)
   (ad (q01 7 sc.nd (je yaF (hr.mono nofun) rfl aL (aa (aH zja (hr.mono nofun) rfl aL (aa (al 1) (aa (al 6) ac))) ac)))
   (ad (a_ (aH yaL (hr.mono nofun) rfl aL (aa (al 0) (aa (al 4) (aa (al 7) (aa (al 2) ac))))))
   (ai (a_ (dy PySem.F.plainAttrs_list PySem.F.slot_list_append PySem.F.type_list_append bV (al 5) (aa (bJ (al 7) rfl) ac)))))))
   (ad (a_ (aH yaV (hr.mono nofun) rfl aL (aa (al 3) (aa (al 5) (aa (oP yaB (hr.mono nofun) aL (al 0)) (aa (al 2) ac))))))
   (ai (aG (al 5)))))))),?_⟩
  obtain⟨lk,pn,nt,d5,hgk,B,hgN,hgm⟩:=id hG;have d3:∀x∈m,x.1<4:=λx I=>(z.gd x I).k4;have f9:=z.r24;have c3:=B.1;have c1:(as.zip m).length<=1000000:=by rw[q0N];omega
  symm;refine⟨_,_,d5,rfl,g,dx,sg,st,as,m,rfl,hG,λl1 H1 g3 e1 s1=>?_⟩;refine⟨l1,rfl,⟨_,aI.of e1⟩,?_⟩;refine fw (as:=as.zip m) (emb:=λx=>V.ref x.1) (f:=λx=>if x.2.1=3 then some (V.ref x.1) else none) (λσ=>∃x,σ=[x]) ⟨_,rfl⟩ (λH2 S=>by rw[B.zip.1];exact aI.of (S _ _ e1)) c1 ?_ ?_
  ·rintro j x I σ H2 M1 M0 ⟨x0,rfl⟩ S k1 k0
   have G:=LG I;obtain⟨f4,rl,a4,_⟩:=(((B.zip.2.2 x G).up s1).up S);have a3:x.2.1<4:=d3 x.2 (by rw[<- B.zip.2.1];exact Mi.mpr ⟨x,G,rfl⟩);ext;refine⟨_,(rk.icls x.2.1).ty a4,_,rk4.kit x.2.1 3 a3 nofun,?_⟩
   by_cases O:x.2.1=3
   ·rw[q07 (by simpa using O)]
    exact k1 _ _ _ (by rw[q07 O]) S ⟨_,rfl⟩
   ·rw[q06 (by simpa using O)]
    exact k0 _ _ (by rw[q06 O]) S ⟨_,rfl⟩
  ·intro H2 S l2 d2
   obtain⟨f3,f0,f7⟩:=oR B;rw[f0];refine h1 _ _ ?_;clear h1;generalize U:aD H2 l2 _=H3;obtain⟨s3,e3⟩:=gn d2 U;have sA:=s1.trans (S.trans s3);symm;have e5:=hG.up sA;refine⟨_,_,sA _ _ d5,rfl,g,dx,sg,st,as,m,rfl,e5,λl4 H4 g2 e4 s4=>?_⟩;refine⟨l4,rfl,_,aI.of e4,?_⟩;have sB:=sA.trans s4;refine pB (as:=as.zip m) (emb:=λx=>V.ref x.1) (f:=λi x=>if x.2.1=3 then none else some (V.int (i:Int))) (λσ=>∃x y,σ=[x,y]) ⟨_,_,rfl⟩ (λH5 L=>by rw[B.zip.1];exact aI.of (L _ _ e4)) c1 ?_ ?_
   ·rintro j x I σ H5 tp M1 M0 ⟨x0,x1,rfl⟩ L f6 k1 k0
    have G:=LG I;generalize U:aD H5 tp _=H6;obtain⟨s6,e6⟩:=gn f6 U;obtain⟨f4,rl,a4,_⟩:=((((B.zip.2.2 x G).up sB).up L).up s6);have a3:x.2.1<4:=d3 x.2 (by rw[<- B.zip.2.1];exact Mi.mpr ⟨x,G,rfl⟩);ext;refine⟨_,cK.of e6,rfl,_,_,rfl,_,_,rfl,rfl,_,(rk.icls x.2.1).ty a4,_,rk4.kit x.2.1 3 a3 nofun,?_⟩
    by_cases O:x.2.1=3
    ·rw[q06 (by simpa using O)]
     exact k0 _ _ (by rw[q07 O]) (L.trans s6) ⟨_,_,rfl⟩
    ·rw[q07 (by simpa using O)]
     exact k1 _ _ _ (by rw[q06 O]) (L.trans s6) ⟨_,_,rfl⟩
   ·intro H5 L l5 d1
    rw[show((as.zip m).zipIdx.filterMap λx=>if x.1.2.1=3 then none else some (V.int (x.2:Int)))=wz (eV m) from rW 0 c3];refine h1 _ _ ?_;clear h1;generalize U:aD H5 l5 _=H6;obtain⟨s6,e6⟩:=gn d1 U;have sC:=sB.trans (L.trans s6);have h5:=(s4.trans (L.trans s6)) _ _ e3;have c2:=f7.up sC;have e2:=hG.up sC;have g6:=sC _ _ ha;have C:cj H6 d tb:=hT.up sC;clear s6 d1 L s4 e4 g2 sB e5 sA s3 e3 d2 S s1 e1 g3;symm;refine⟨L3 _,λl7 J=>h1 _ _ ?_⟩;clear h1;generalize U:aD H6 l7 _=H7;obtain⟨s7,e7⟩:=gn J U;symm;rw[show Int.toNat 8=8 from rfl];obtain⟨a0,b0,l⟩:=tS z.hp z.r6 z.c6 hN.sq;have d7:=hS.pta z hN;have hpn:(eV m).length<=24:=by
     unfold eV;refine L9 (List.length_filterMap_le _ _) ?_;rw[List.length_zipIdx];exact f9
    have c9:l7≠d:=λe=>by
     rw[e]at J;rw[show H6 d=_ from C]at J;cases J
    refine⟨nofun,bv (lo:=0) (n:=8) (λt σ H8=>aT d H6 H8/\cj H8 d (pta m (eV m) q tb t)/\H8 l7=some (.lst (((List.range t).map λu=>tx (bp (turned q u))).map V.str))/\∃x6 x7,σ=[some (V.ref g),some (V.ref a),some (V.ref d),some (V.ref l2),some (V.ref l5),some (V.ref l7),x6,x7]) ⟨aT.of s7,C.up s7,e7,_,_,rfl⟩ ?_ ?_⟩
    ·rintro t σ H8 ht ⟨D,M,e8,x6,x7,rfl⟩
     have a2:=D.kp C;have f8:=hN.sq.turned z.hp ht;obtain⟨a1,b1,e9⟩:=tS z.hp z.r6 z.c6 f8;have:=l.r6;have:=l.c6;symm;refine⟨a,q,a0,b0,t,by simp,aI.of (a2.lst g6),l.rc,l.r0,l.c0,⋯,⋯,ht,λlq H9 hlq h2 Z=>?_⟩;intro x a5 I g4 g1;have b3:ax H9 (aD (aD H9 a5 (.own x)) x (.ins CC a5 [])):=(af g4).trans (af (by rw[ar (Ne.symm g1)];exact I));refine⟨x,CC,a5,lq,turned q t,a1,b1,rfl,ae,cc.cl,nc,b3 _ _ h2,e9,λH3 hC sx=>⟨rfl,h1 _ _ ?_⟩⟩;clear h1;have s3:ax H9 H3:=λy u e=>sx y u (aA e I) (b3 y u e);have Y:=Z.trans s3;have d6:cj H3 d (pta m (eV m) q tb t):=M.up Y;have a9:=D.then Y;have b8:=a9.kp C;have c4:=(d7 t ⋯).len;symm;refine⟨g,dx,l5,x,d,sg,st,as,m,eV m,turned q t,a1,b1,pta m (eV m) q tb t,rfl,e2.kp b8,z.gd,b8.lst e6,λn hn=>(let ⟨r',e',_⟩:=lB.mp hn;(LA.mp e').1),⋯,hC,e9,d6,?_,λH4 g9 a8=>h1 _ _ ?_⟩
     ·have:6*(eV m).length*t<=6*24*8:=Nat.mul_le_mul ⋯ ⋯
      omega
     clear h1;have b5:=a8.kp d6;obtain⟨dxc,lp,lb,la,g5,_⟩:=hC.kp b5;have f1:=b5.lst (Y _ _ e8);ext;refine⟨.inl ⟨rfl,_,aI.of f1⟩,_,_,_,g5,cc.cl,nc.2.1,_,rfl,_,f1,by rw[LC,LC,q0J];exact aU ⋯,λb o hb h=>?_,?_,?_⟩
     ·rw[ar (aA h J)];exact(a9.trans a8) b o hb h
     ·show aD H4 l7 _ d=_
      rw[ar (Ne.symm c9)];exact g9
     ·rw[ae,q0M,LO,LO];rfl
    ·rintro σ H8 ⟨D,M,e8,x6,x7,rfl⟩
     refine h1 _ _ ?_;clear h1;ext;have a2:=D.kp C;have e0:=e2.kp a2;obtain⟨lk',pn',nt',d4,_⟩:=id e0;have a6:=d7 8 (L1 _);have c4:=a6.len;have hlen2:6*(eV m).length*8<=6*24*8:=Nat.mul_le_mul ⋯ ⋯;have g7:=ES.start z hB hN hS a6;have hcell:bw q<=6*6:=by
      unfold bw;rw[l.rc.1,bb l.rc l.r0];exact Nat.mul_le_mul l.r6 l.c6
     refine⟨_,_,d4,rfl,g,dx,sg,st,as,m,rfl,e0,λln H9 hln h4 Z=>?_⟩;have a7:=D.then Z;have b4:=a7.kp C;refine⟨l2,l7,ln,d,f3,oX m,m,q,a0,b0,f5,1170*bw q-1161,(pta m (eV m) q tb 8).length,pta m (eV m) q tb 8,rfl,b4.lst h5,c2.kp b4,Z _ _ e8,?_,M.up Z,l.rc,l.r0,l.c0,λt ht=>dA z.hp z.ns (hN.sq.turned z.hp ht),z.n8,λx I=>⟨z.turn3 I,by simpa using(List.mem_filter.mp I).2⟩,g7,⋯,⋯,λH' f2 h0 T b2=>?_⟩
     ·rw[h4]
      congr 2
      have:=q0R (List.map V.str) g0;rw[LQ,LQ]at this;exact this
     ·have h64:=T.len64 z.n8
      refine qq l7 H' f2 ((b2.kp (M.up Z)).lst (Z _ _ e8)) h0 (λdn' hd=>ES.enter z hD hB hN hS a6 T hd) ⋯ ((aT.of sC).trans (a7.trans b2))
theorem ES.nil{Sn:aE->Prop}:ES rs nms Sn [] []:=⟨List.nodup_nil,(λk v h=>nomatch h),(λk v h=>nomatch h),(λz h=>nomatch h),(λq _ h=>nomatch h),(λq _ h=>nomatch h),(λq _ h=>nomatch h)⟩
theorem Dh{r c:Nat}(hr:r<=6)(hc:c<=6):64*(dJ r c).length<=990000:=by
 have h:∀r,r<7->∀c,c<7->(dJ r c).length<=1000:=by decide +kernel
 have:=h r ⋯ c ⋯;omega
structure zX(rs:Yaa)(nms:List (List Nat))(p:aE)(r c:Nat)(tb:Tb):Prop where
 nd:(tb.map (·.1)).Nodup
 key:∀k v,aN tb k=some v->(∃q,bd p r c q/\k.1=bp q)/\k.2∈nms/\Dv rs k v/\1<=v
 clo:∀q,bd p r c q->IL rs (aN tb) q
 len:tb.length<=9900000
theorem zX.min(E:kY rs nms p r c)(h:zX rs nms p r c tb){q:aE}(hq:bd p r c q){n:Mx}{v:Int}(hv:Dv rs (bp q,n) v):∃v',v'<=v/\aN tb (bp q,n)=some v':=
 wc E.hp E.ns (λx hx=>⟨(E.gd x hx).good.t0,(E.gd x hx).good.t7⟩) h.clo hv q hq rfl
def F2(d e:Addr)(H H':Hp):Prop:=∀b o,b≠d->b≠e->H b=some o->H' b=some o
def uM(dn:MF)(zs:MF):List Str:=zs.foldl ThM.addNew dn
theorem kP{z:Str}:∀{zs dn:MF},z∈uM dn zs↔z∈dn\/z∈zs
 | [],dn=>by simp[uM]
 |y::zs,dn=>by
  show z∈uM (ThM.addNew dn y) zs↔_;rw[kP,ThM.mem_addNew,LR,or_assoc]
theorem pL:∀(zs dn:MF),(uM dn zs).length<=dn.length+zs.length
 | [],dn=>L1 _
 |y::zs,dn=>by
  have h1:=pL zs (ThM.addNew dn y);have h2:(ThM.addNew dn y).length<=dn.length+1:=by unfold ThM.addNew;split<;>simp
  show(uM (ThM.addNew dn y) zs).length<=_;rw[LN];omega
theorem uU{z:Str}:z∈fg q↔∃t,t<8/\z=tx (bp (turned q t)):=by
 unfold fg;rw[Mi]
 constructor
 ·rintro⟨t,a,rfl⟩;exact⟨t,List.mem_range.mp a,rfl⟩
 ·rintro⟨t,a,rfl⟩;exact⟨t,List.mem_range.mpr a,rfl⟩
theorem ES.new{dn:MF}{Sn:aE->Prop}{qs:List aE}{i:Nat}{q:aE}(E:kY rs nms p r c)(Sb:∀q,bd p r c q->Sn q)(S:ES rs nms Sn dn tb)(hsn:Gp p r c qs)(hi:qs[i]?=some q)(hdn:∀j z,j<i->qs[j]?=some z->tx (bp z)∈dn)(hno:tx (bp q)∉dn):sS rs p r c dn q:=by
 have a:=(hsn.1 q).mp (LG hi);obtain⟨a0,b0,g,e,d,_⟩:=a.rect E.hp;refine⟨a,λt b w=>hno ?_,λo l hc=>?_⟩
 ·have:=S.tur _ (Sb _ (a.turned E.hp b)) w (cV t) (li b)
  rwa [mP g e d b]at this
 ·obtain⟨j,u⟩:=List.mem_iff_getElem?.mp ((hsn.1 o).mpr l)
  refine hdn j o ?_ u;obtain⟨HQ,v⟩:=LA.mp hi;obtain⟨m,n⟩:=LA.mp u;rcases Nat.lt_trichotomy j i with h | h | h
  ·exact h
  ·subst h
   rw[v]at n;subst n;omega
  ·have:=List.pairwise_iff_getElem.mp hsn.2 i j HQ m h
   rw[v,n]at this;rcases this with h | ⟨h,_⟩<;>omega
theorem iM{α β:Type}{f:α->List β}{n:Nat}:∀{l:List α},(∀x,(f x).length=n)->(l.flatMap f).length=l.length*n
 | [],_=>by simp
 |x::l,h=>by rw[List.flatMap_cons,LZ,h x,iM (l:=l) h,LN,Nat.add_mul];omega
theorem BY{qs:List aE}(h:Gp p r c qs):qs.length<=8*(dJ r c).length:=by
 have a:qs.Nodup:=h.2.imp λg e=>by
  subst e;rcases g with h | ⟨_,h⟩
  ·omega
  ·exact q0Q h (List.lt_irrefl _)
 have:=jt a (L:=(List.range (dJ r c).length).flatMap λi=>(List.range 8).map λu=>turned (Aa p ((dJ r c).getD i [])) u) λq d=>by
  obtain⟨i,j,u,b,e⟩:=mf.mp ((h.1 q).mp d);exact List.mem_flatMap.mpr ⟨i,List.mem_range.mpr j,Mi.mpr ⟨u,List.mem_range.mpr b,e.symm⟩⟩
 rw[iM (n:=8) (λi=>by rw[LC,q0J]),q0J]at this;omega
theorem ES.len{Sn:aE->Prop}{dn:MF}(S:ES rs nms Sn dn tb)(n8:nms.length<=8):tb.length<=8*dn.length:=by
 have nd:(tb.map λe=>(tx e.1.1,e.1.2)).Nodup:=by
  have:=S.nd;rw[List.nodup_iff_pairwise_ne,List.pairwise_map]at this ⊢;exact this.imp λh e=>h (by
   injection e with e1 e2
   exact Prod.ext (cN e1) e2)
 have:=jt nd (L:=dn.flatMap λz=>nms.map λn=>(z,n)) λx a=>by
  obtain⟨e,b,rfl⟩:=Mi.mp a;obtain⟨h1,h2,_⟩:=S.key e.1 e.2 (Dp S.nd b);exact List.mem_flatMap.mpr ⟨_,h1,Mi.mpr ⟨_,h2,rfl⟩⟩
 rw[LC,iM (n:=nms.length) (λi=>by rw[LC])]at this;have h2:=Nat.mul_le_mul_left dn.length n8;omega
abbrev gU:Stmt:=eY 54
inductive gu(K:W.Frag)(R:RC)(CG:Addr)(vs:List V)(H:Hp)(Q:VK)(_E:XK):Prop
 |mk (g dx a d e:Addr) (sg st:Mx) (as:MA) (rs:Yaa) (nms:List (List Nat)) (p:aE) (r c:Nat) (Sn:aE->Prop) (dn:MF) (tb:Tb) (H0:Hp) (_:vs=[.ref g,.ref a,.ref d,.ref e]) (_:dv R H0 CG dx g sg st as rs) (_:ax H0 H) (_:H0 d=none) (_:H0 e=none) (_:(bj (tx st) rs).map (·.1)=nms.map tx) (_:kY rs nms p r c) (_:(∀q,Sn q->vH q)) (_:(∀q,bd p r c q->Sn q)) (_:aI K H a (av p)) (_:cj H d tb) (_:H e=some (.dK (ThM.trueD dn))) (_:ES rs nms Sn dn tb) (_:dn.length+64*(dJ r c).length<=990000) (_:∀H' dn' tb',cj H' d tb'->H' e=some (.dK (ThM.trueD dn'))->ES rs nms Sn dn' tb'->dn'.length<=dn.length+64*(dJ r c).length->(∀q,bd p r c q->tx (bp q)∈dn')->F2 d e H H'->Q .non H')
theorem qo:aC ["grammar","picture","told","done","seen","text"] ["grammar","picture","told","done"] (ao gU):=by walk_at "c"
theorem qx{f:Addr}(F:cZ K "enter_seen" "enter_seen" gU f fd)(nb:NB mg)(yaU:↑dk 4 "seen_in" ["picture"] (oI K))(yab:↑dk 1 "shown" ["picture"] (dY K))(yaG:↑dk 8 "enter_turnings" ["grammar","picture","told"] (fZ R CG)):↑aY 9 f fd ["grammar","picture","told","done"] (gu K R CG):=by
 have sc:=qo;walk_at "f"
 ·obtain⟨g,dx,a,d,e,sg,st,as,rs,a3,p,r,c,Sn,b3,a1,H0,rfl,hG,s0,d1,c9,c4,n,hD,hB,d3,hT,he,d6,hl0,qq⟩:=h
  have hu:=hr.units;refine⟨_,(ai (aQ PassesOwn.never rfl (aS (aH yaU (hr.mono nofun) rfl aL (aa (al 1) ac))) (q02 4 sc.nd)
   (ai (bM (lL (lQ (Mg (Ml (by decide:1<=64) _) hu) (aH yab (hr.mono nofun) rfl aL (aa (al 4) ac)) (al 3)) (by with_unfolding_all rfl))
   (ai (aQ PassesOwn.never rfl (aS (aH yaG (hr.mono nofun) rfl aL (aa (al 0) (aa (al 4) (aa (al 2) ac))))) (q02 5 sc.nd)
   (ai (nO (Mg (Ml (by decide:1<=64) _) hu) (al 3) (al 5) rZ rfl))))
   aR)))),?_⟩
  ext;refine⟨a,p,r,c,rfl,d3,n.hp,n.r0,n.c0,n.r6,n.c6,n.ns,n.few,λH1 l Z s1 hl el hz hnd D hzl=>⟨l,rfl,⟨_,aI.of el⟩,?_⟩⟩;have b2:cj H1 d a1:=hT.up s1;have a8:=s1 _ _ he;have c2:=BY D;rw[LC]at c2;have c1:ax H0 H1:=s0.trans s1;have b1:d≠e:=λz=>by rw[z]at hT;rw[show H e=_ from hT]at he;cases he
  have b4:∀{H':Hp} {b:Addr} {xs:List V},F2 d e H1 H'->H1 b=some (.lst xs)->H' b=some (.lst xs):=fun{H' b xs} s h=>s b _ (λz=>by rw[z,show H1 d=_ from b2]at h;cases h) (λz=>by rw[z,a8]at h;cases h) h;refine bB (xs:=Z.map λz=>V.ref z.1) (λi σ H2=>F2 d e H1 H2/\i<=Z.length/\(∃(tb:Tb) (m:MF),cj H2 d tb/\H2 e=some (.dK (ThM.trueD m))/\ES rs a3 Sn m tb/\(∀j z,j<i->(Z.map (·.2))[j]?=some z->tx (bp z)∈m)/\m.length<=b3.length+8*i)/\∃x4 M,σ=[some (V.ref g),some (V.ref a),some (V.ref d),some (V.ref e),x4,M]) ?_ (λi σ H2 _ h=>aI.of (b4 h.1 el)) ?_ ?_
  ·refine⟨λb o _ _ h=>h,L3 _,⟨a1,b3,b2,a8,d6,(λj z h=>q0Q h (Nat.not_lt_zero _)),L1 _⟩,_,_,rfl⟩
  ·rintro i x σ H2 hx ⟨Y,_,⟨tb,m,J,u,U,v,a6⟩,x4,M,rfl⟩
   rw[LF]at hx;obtain⟨z,O,rfl⟩:=L6.mp hx;have hi:=(LA.mp O).1;have c3:=LG O;have a4:=b4 Y (hz z c3).2;have G:(Z.map (·.2))[i]?=some z.2:=by rw[LF,O];rfl
   have sq:=(D.1 z.2).mp (LG G);obtain⟨a0,b0,d7⟩:=tS n.hp n.r6 n.c6 sq;have a9:tx (bp z.2)∈m->∀j y,j<i+1->(Z.map (·.2))[j]?=some y->tx (bp y)∈m:=λS j y T B=>by
    by_cases ej:j=i
    ·subst ej
     rw[G]at B;cases B
     exact S
    ·exact v j y ⋯ B
   ext;refine⟨z.1,z.2,rfl,a4,d7.small,_,.inl ⟨_,.inr (tx (bp z.2)),.inl u,rfl,rfl⟩,?_⟩;rw[ThM.trueD_val]
   by_cases S:tx (bp z.2)∈m
   ·rw[q06 (by simpa using S)]
    exact⟨Y,hi,tb,J,m,u,U,a9 S,⋯⟩
   ·rw[q07 (by simpa using S)]
    have hN:=U.new n hB D G v S;have htl:=U.len n.n8;have b8:ax H0 H2:=λb o h=>Y b o (aA h d1) (aA h c9) (c1 b o h);refine⟨g,dx,z.1,d,sg,st,as,rs,a3,p,z.2,r,c,Sn,m,tb,rfl,hG.up b8,c4,n,hD,hB,hN,U,a4,J,⋯,λl3 H3 b5 L d2 d5 hl3 a2=>⟨l3,rfl,⟨_,aI.of L⟩,?_⟩⟩;have a7:=a2 _ _ (Ne.symm b1) u;have hcl:(fg z.2).length=8:=by unfold fg;rw[LC,q0J]
    refine bB (xs:=(fg z.2).map V.str) (λj σ H4=>aT e H3 H4/\j<=8/\H4 e=some (.dK (ThM.trueD (uM m ((fg z.2).take j))))/\∃M,σ=[some (V.ref g),some (V.ref a),some (V.ref d),some (V.ref e),some (V.ref z.1),M]) ⟨aT.of λ_ _ h=>h,L3 _,a7,_,rfl⟩ (λj σ H4 _ h=>aI.of (h.1 _ _ (λzz=>by rw[zz,a7]at L;cases L) L)) ?_ ?_
    ·rintro j x σ H4 hx ⟨C,_,I,M,rfl⟩
     rw[LF]at hx;obtain⟨y,B,rfl⟩:=L6.mp hx;have T:j<8:=by have:=(LA.mp B).1;omega
     have a5:=pL ((fg z.2).take j) m;rw[Me]at a5;ext;refine⟨_,.inl ⟨_,.inr y,I,rfl,by rw[ThM.trueD_len];exact aU ⋯,rfl⟩,C.put,T,?_⟩;rw[ae,ThM.trueD_put,q0E,B];show _=some (HO.dK (ThM.trueD (List.foldl ThM.addNew m (_++[y]))));rw[List.foldl_append];rfl
    ·rintro σ H4 ⟨C,_,I,M,rfl⟩
     rw[LC,Md]at I;have a5:=pL (fg z.2) m;have d4:=d5 (uM m (fg z.2)) λy=>by rw[kP,uU]
     refine⟨λb o h1 h2 h=>C b o h2 (a2 b o h1 (Y b o h1 h2 h)),hi,⟨b5,C _ _ b1 d2,uM m (fg z.2),I,d4,λj y T B=>?_,⋯⟩,_,_,rfl⟩
     by_cases ej:j=i
     ·subst ej
      rw[G]at B;cases B
      exact kP.mpr (.inr (uU.mpr ⟨0,⋯,rfl⟩))
     ·exact kP.mpr (.inl (v j y ⋯ B))
  ·rintro σ H2 ⟨Y,_,⟨tb,m,J,u,U,v,a6⟩,x4,M,rfl⟩
   have all:∀q,bd p r c q->tx (bp q)∈m:=λq hq=>by
    obtain⟨j,T⟩:=List.mem_iff_getElem?.mp ((D.1 q).mpr hq);refine v j q ?_ T;have:=(LA.mp T).1
    rwa [LC]at this ⊢
   rw[LC]at a6;exact qq H2 m tb J u U ⋯ all λb o h1 h2 h=>Y b o h1 h2 (s1 b o h)
abbrev j9:Stmt:=eY 53
inductive iJ(K:W.Frag)(R:RC)(CG:Addr)(vs:List V)(H:Hp)(Q:VK)(_E:XK):Prop
 |mk (g dx a:Addr) (sg st:Mx) (as:MA) (rs:Yaa) (nms:List (List Nat)) (p:aE) (r c:Nat) (_:vs=[.ref g,.ref a]) (_:dv R H CG dx g sg st as rs) (_:(bj (tx st) rs).map (·.1)=nms.map tx) (_:kY rs nms p r c) (_:aI K H a (av p)) (_:∀d H' tb,H d=none->cj H' d tb->zX rs nms p r c tb->ax H H'->Q (.ref d) H')
theorem vx:aC ["grammar","picture","told"] ["grammar","picture"] (ao j9):=by walk_at "c"
theorem wg{f:Addr}(F:cZ K "table_of" "table_of" j9 f fd)(nb:NB mg)(yaj:↑dk 9 "enter_seen" ["grammar","picture","told","done"] (gu K R CG)):↑aY 10 f fd ["grammar","picture"] (iJ K R CG):=by
 have sc:=vx;walk_at "f"
 ·obtain⟨g,dx,a,M,L,as,O,x,p,r,c,rfl,Y,y,i,C,S⟩:=h
  refine⟨_,(ad (q01 2 sc.nd wy)
   (ad (a_ (aH yaj (hr.mono nofun) rfl aL (aa (al 0) (aa (al 1) (aa (al 2) (aa lx ac))))))
   (ai (aG (al 2))))),?_⟩
  ext;intro d m e u;have z:H e=none:=(af (o:=.dT []) m).free u;have l:=af (o:=.dT []) m;have J:cj (aD H d (.dT [])) d []:=ae;generalize aD H d (.dT [])=H1 at l J u ⊢;have j:=af (o:=.dK []) u;have I:aD H1 e (.dK []) e=some (.dK []):=ae;generalize aD H1 e (.dK [])=H2 at j I ⊢;refine⟨g,dx,a,d,e,M,L,as,O,x,p,r,c,bd p r c,[],[],H,rfl,Y,l.trans j,m,z,y,i,λq h=>dA i.hp i.ns h,λq h=>h,(l.trans j).seq C,J.up j,I,ES.nil,(by have:=Dh i.r6 i.c6;simp only[List.length_nil];omega),λH' dn tb U _ n B all Z=>?_⟩;have T:=Dh i.r6 i.c6;have hl:=n.len i.n8;exact S d H' tb m U ⟨n.nd,λk v h=>(n.key k v h).elim λh1 h2=>(n.don _ h1).elim λq G=>⟨⟨q,G.1,cN G.2⟩,h2⟩,λq D=>n.clo q D (all q D),by simp only[List.length_nil]at B T;omega⟩ λb o h=>Z b o (aA h m) (aA (l b o h) u) (j b o (l b o h))
theorem i_{z:Str}:∀{m:List (Str×List Nat)},z∉m.map (·.1)->m.lookup z=none
 | [],_=>rfl
 |q::m,h=>by
  rw[L8,LR,not_or]at h;rw[List.lookup_cons,show(z==q.1)=false from beq_eq_false_iff_ne.mpr h.1];exact i_ h.2
theorem yD{y:Str}(h:y∈(bj z rs).map (·.1)):(bj z rs).lookup y=some (jG y rs):=by
 obtain⟨q,a,rfl⟩:=Mi.mp h;exact(DM a).1
abbrev gQ:Stmt:=eY 50
inductive jL(R:RC)(CG CN_:Addr)(vs:List V)(H:Hp)(Q:VK)(E:XK):Prop
 |mk (g dx:Addr) (sg st:Mx) (as:MA) (rs:Yaa) (v:V) (_:vs=[.ref g,v]) (_:dv R H CG dx g sg st as rs) (_:((v=.non/\Q (.str (tx st)) H)\/∃z,v=.str z/\(∀ns,(bj (tx st) rs).lookup z=some ns->∀H',ax H H'->Q (.str z) H')/\((bj (tx st) rs).lookup z=none->E (.ref CN_) none H)))
theorem qd:aC ["grammar","name"] ["grammar","name"] (ao gQ):=by walk_at "c"
theorem qB{f CN_:Addr}(F:cZ K "name_asked" "name_asked" gQ f fd)(nb:NB mg)(cl:iE K CG)(na:aB K CG "signs"/\aB K CG "start"/\aB K CG "kept"/\aB K CG "numbers")(yai:ij P w K mg base (kU P w) 1 CG "numbers_of" ["self","name"] (cR R CG CN_)):aY P w K mg base (kU P w) 2 f fd ["grammar","name"] (jL R CG CN_):=by
 have sc:=qd;walk_at "x"
 ·obtain⟨g,j,c,b,m,d,v,rfl,_⟩:=h;rfl
 ·obtain⟨g,j,c,b,m,d,v,rfl,i,h⟩:=h
  have hu:=hr.units;obtain⟨lk,pn,t,e,hk,hrs,hN,hm⟩:=id i;refine⟨_,(ad (bM (aK Fy (al 1) jX (aZ _))
   (ai (aG (bJ (al 0) rfl)))
   aR)
   (ad (a_ (kq yai (hr.mono nofun) (mB λ_ _ _ h=>h) (al 0) (aa (al 1) ac)))
   (ai (aG (al 1))))),?_⟩
  ext;rcases h with⟨rfl,q⟩ | ⟨z,rfl,p,o⟩
  ·rw[q07 rfl]
   exact⟨_,_,_,e,cl,na.2.1,_,rfl,q⟩
  ·rw[q06 (λh=>nomatch h)]
   exact⟨_,_,e,rfl,g,j,c,b,m,d,z,rfl,i,λns a l r _ _ n=>p ns a r n,o⟩
abbrev gK:Stmt:=eY 52
inductive jM(K:W.Frag)(R:RC)(CG CN_:Addr)(vs:List V)(H:Hp)(Q:VK)(E:XK):Prop
 |mk (g dx a:Addr) (sg st:Mx) (as:MA) (rs:Yaa) (nms:List (List Nat)) (p:aE) (r c:Nat) (v:V) (_:vs=[.ref g,.ref a,v]) (_:dv R H CG dx g sg st as rs) (_:(bj (tx st) rs).map (·.1)=nms.map tx) (_:kY rs nms p r c) (_:H a=some (.lst (av p))) (_:((v=.non/\∀H' tb,zX rs nms p r c tb->ax H H'->Q (vg (aN tb (bp p,st))) H')\/∃n,v=.str (tx n)/\(n∈nms->∀H' tb,zX rs nms p r c tb->ax H H'->Q (vg (aN tb (bp p,n))) H')/\(n∉nms->E (.ref CN_) none H)))
theorem qg:aC ["grammar","picture","name","asked"] ["grammar","picture","name"] (ao gK):=by walk_at "c"
theorem pX{f CN_ dT:Addr}(F:D9 K "least_cost" "least_cost" gK f fd dT)(nb:NB mg)(yaH:dk P w K mg base (kU P w) 2 "name_asked" ["grammar","name"] (jL R CG CN_))(yaW:↑dk 10 "table_of" ["grammar","picture"] (iJ K R CG))(yab:↑dk 1 "shown" ["picture"] (dY K)):aY P w K mg base (kU P w) 11 f fd ["grammar","picture","name"] (jM K R CG CN_):=by
 have sc:=qg;walk_at "x"
 ·obtain⟨g,O,a,M,l,S,y,i,p,r,c,v,rfl,_⟩:=h;rfl
 ·obtain⟨g,O,a,M,l,S,y,i,p,r,c,v,rfl,hG,j,I,Y,h⟩:=h
  have hu:=hr.units;refine⟨_,(ad (q01 3 sc.nd (aH (E:=E) yaH (hr.mono nofun) rfl (mB λ_ _ _ h=>h) (aa (al 0) (aa (al 2) ac))))
   (ai (aG (vh (Mg (Ml (by decide:1<=64) _) hu) (aH (CX:=kU P w) yaW.lift (hr.mono nofun) rfl dI (aa (al 0) (aa (al 1) ac))) (bz (aa (aH (CX:=kU P w) yab.lift (hr.mono nofun) rfl dI (aa (al 1) ac)) (aa (al 3) ac))) ⟨rfl,rfl,rfl,rfl⟩)))),?_⟩
  ext;have small:dw p:=dw.of I.hp (by have:=I.r6;omega) (by have:=I.c6;omega);have cv:∀(n:Mx) (H1:Hp),ax H H1->(∀H' tb,zX y i p r c tb->ax H H'->Q (vg (aN tb (bp p,n))) H')->iJ K R CG [V.ref g,V.ref a] H1 (λx b=>∃a_1,x=V.ref a_1/\HM b a_1/\dY K [V.ref a] b (λz H1=>2<=sizeLine/\∀(p:Addr),H1 p=none->∃o,kJ (aD H1 p (HO.tup [z,V.str (tx n)])) a_1 (V.ref p) o/\Q (o.getD V.non) (aD H1 p (HO.tup [z,V.str (tx n)]))) (λx L J=>False)) (λx L J=>False):=λn H1 u q=>by
   refine⟨g,O,a,M,l,S,y,i,p,r,c,rfl,hG.up u,j,I,aI.of (u _ _ Y),λd H2 tb hd Z hB U=>⟨d,rfl,.inr ⟨_,.inl Z⟩,a,p,rfl,(u.trans U) _ _ Y,small,am nofun,λT B=>?_⟩⟩;have hk:bo (aD H2 T (.tup [V.str (tx (bp p)),V.str (tx n)])) T (bp p,n):=ae;refine⟨_,(Z.up (af B)).told.get hk,?_⟩;rw[show((aN tb (bp p,n)).map V.int).getD V.non=vg (aN tb (bp p,n)) by cases aN tb (bp p,n)<;>rfl];exact q _ tb hB ((u.trans U).trans (af B))
  refine⟨g,O,M,l,S,y,v,rfl,hG,?_⟩;rcases h with⟨rfl,q⟩ | ⟨n,rfl,q1,q2⟩
  ·exact .inl ⟨rfl,cv l H (λ_ _ h=>h) q⟩
  ·refine .inr ⟨tx n,rfl,λns C H1 u=>cv n H1 u (q1 ?_),λD=>q2 ?_⟩
   ·have:tx n∈(bj (tx l) y).map (·.1):=Classical.byContradiction λG=>by rw[i_ G]at C;cases C
    rw[j]at this;obtain⟨m,G,e⟩:=Mi.mp this;rw[<- cN e];exact G
   ·intro G
    have:tx n∈(bj (tx l) y).map (·.1):=by rw[j];exact Mi.mpr ⟨n,G,rfl⟩
    rw[yD this]at D;cases D
abbrev j_:Stmt:=eY 62
inductive mM(vs:List V)(H:Hp)(Q:VK)(_E:XK):Prop
 |mk (z:Str) (r c:Nat) (_:vs=[.str z,.int (r:Int),.int (c:Int)]) (_:z.length<=4) (_:r<=6) (_:c<=6) (_:Q (.int ((z.length ^ (r*c):Nat):Int)) H)
theorem uS:aC ["signs","rows","columns","many","cell"] ["signs","rows","columns"] (ao j_):=by walk_at "c"
theorem vN{f:Addr}(F:cZ K "how_many" "how_many" j_ f fd)(nb:NB mg):↑aY 1 f fd ["signs","rows","columns"] mM:=by
 have sc:=uS;walk_at "f"
 ·obtain⟨z,r,c,rfl,z4,b,d,q⟩:=h
  have rc:r*c<=36:=L9 (Nat.mul_le_mul b d) nofun;refine⟨_,(ad (q01 3 sc.nd aj)
   (ad (aQ PassesOwn.never rfl (bE rfl nb.range (aa (az (bu.m1 du) (al 1) (al 2)) ac)) (q02 4 sc.nd)
   (ai (q01 3 sc.nd (az (bu.m1 du) (al 3) (aF aV rfl nb.len bi (aa (al 0) ac))))))
   (ai (aG (al 3))))),?_⟩
  symm;refine h1 _ _ ?_;grind;rw[<- Int.natCast_mul,LL];refine⟨.inl ⟨⋯,⋯⟩,⋯,⋯,?_⟩;refine bv (lo:=0) (n:=r*c) (λi σ a=>a=H/\∃x,σ=[some (V.str z),some (V.int (r:Int)),some (V.int (c:Int)),some (V.int ((z.length ^ i:Nat):Int)),x]) ⟨rfl,_,rfl⟩ ?_ ?_
  ·rintro i σ a hi ⟨rfl,x,rfl⟩
   ext;refine⟨am ⋯,.inr ⟨⋯,⋯⟩,?_⟩;rw[Nat.pow_succ,Int.natCast_mul]
  ·rintro σ a ⟨rfl,x,rfl⟩
   refine h1 _ _ ?_;ext;exact q
def kj{α:Type}(f:α->α->α)(ls:List α)(e:α):Nat->List α
 |0=>[e]
 |n+1=>(kj f ls e n).flatMap λc=>ls.map (f c)
theorem kN{α:Type}(f:α->α->α)(ls:List α)(e:α):∀n,(kj f ls e n).length=ls.length ^ n
 |0=>rfl
 |n+1=>by
  show((kj f ls e n).flatMap λc=>ls.map (f c)).length=_;rw[iM (n:=ls.length) (λc=>by rw[LC]),kN f ls e n,Nat.pow_succ]
theorem oN{α:Type}(f:α->α->α)(ls:List α)(e:α)(i j:Nat):(((kj f ls e i).take j).flatMap λc=>ls.map (f c)).length<=ls.length ^ (i+1):=by
 rw[iM (n:=ls.length) (λc=>by rw[LC]),Nat.pow_succ,<- kN f ls e i];exact Nat.mul_le_mul_right _ (by rw[Me];exact Nat.min_le_right _ _)
theorem BD(r s:Mx):tx r++tx s=tx (r++s):=by
 show(⟨(tx r).cps++(tx s).cps⟩:Str)=tx (r++s);unfold tx;simp
abbrev oV:Stmt:=eY 64
abbrev fL(r:Mx):V:=.str (tx r)
abbrev ii(H:Hp)(a:Addr)(p:aE):Prop:=H a=some (.lst (av p))
theorem yB{as:MA}(h:ii H b p)(l0:0<p.length)(hl:H l=some (.lst (as.map V.ref))):b≠l:=λe=>by
 rw[<- e]at hl;rw[show H b=_ from h]at hl;have e2:av p=as.map V.ref:=by injection hl with hl;injection hl
 have c:=q0R (λl=>l[0]?) e2;rw[bC l0,LF]at c;cases as with
 |nil=>cases c
 |cons a as=>cases c
theorem aO.both{β:Type}{A:Hp->Addr->β->Prop}{bs:MA}{xs ys:List β}(h1:aO A H as xs)(h2:aO A H bs ys):aO A H (as++bs) (xs++ys):=by
 refine⟨by rw[LZ,LZ,h1.1,h2.1],λi b y c a=>?_⟩
 by_cases d:i<as.length
 ·rw[LY d]at c
  rw[LY (by rw[<- h1.1];exact d)]at a;exact h1.2 i b y c a
 ·rw[LX ⋯]at c
  rw[LX (by rw[<- h1.1];omega),<- h1.1]at a;exact h2.2 _ b y c a
inductive r_(K:W.Frag)(vs:List V)(H:Hp)(Q:VK)(_E:XK):Prop
 |T (l:Addr) (ls:List (List Nat)) (n:Nat) (_:vs=[.ref l,.int (n:Int),.str (tx [])]) (_:H l=some (.lst (ls.map fL))) (_:n<=6) (_:∀x∈ls,x.length<=1) (_:ls.length<=4) (_:ls.length ^ n<=300) (_:∀l' H',H l'=none->H' l'=some (.lst ((kj (· ++ ·) ls [] n).map fL))->ax H H'->Q (.ref l') H')
 |L (l e:Addr) (ls:List aE) (as:MA) (n:Nat) (_:vs=[.ref l,.int (n:Int),.ref e]) (_:H l=some (.lst (as.map V.ref))) (_:aO ii H as ls) (_:H e=some (.lst [])) (_:n<=6) (_:∀x∈ls,x.length=1) (_:ls.length ^ n<=300) (_:0<ls.length) (_:∀l' H' bs,H l'=none->H' l'=some (.lst (bs.map V.ref))->aO ii H' bs (kj (· ++ ·) ls [] n)->ax H H'->Q (.ref l') H')
theorem zB:aC ["links","many","nothing","found","step","longer","chain"] ["links","many","nothing"] (ao oV):=by walk_at "c"
theorem AT{f:Addr}(F:cZ K "chains" "chains" oV f fd)(nb:NB mg):↑aY 1 f fd ["links","many","nothing"] (r_ K):=by
 have sc:=zB;walk_at "f"
 ·rcases h with⟨l,d,n,rfl,hl,n6,O,l4,pw,q⟩ | ⟨l,e,d,as,n,rfl,hl,hA,he,n6,O,pw,l0,q⟩
  ·refine⟨_,(ad (q01 3 sc.nd (ba (aa (al 2) ac)))
   (ad (aQ PassesOwn.never rfl (bE rfl nb.range (aa (al 1) ac)) (q02 4 sc.nd)
   (ad (q01 5 sc.nd (ba ac))
   (ad (aQ PassesOwn.never rfl (aS (al 3)) (au (i:=6) sc.nd rfl (Or.inr rfl))
   (ai (a_ (dy PySem.F.plainAttrs_list PySem.F.slot_list_extend PySem.F.type_list_extend jh (al 5) (aa (bS ["link"] [6] rfl (bA.of (by kernel_rfl)) (by kernel_rfl) (aS (al 0))
    (λ_ _ _ _=>(au (i:=0) (by show(["link","chain"]:List Str).Nodup;decide +kernel) rfl (Or.inl rfl))) (λ_ _ _ _=>bT) (λ_ _ _ _=>(az dF (al 1) (al 0)))) ac)))))
   (ai (q01 3 sc.nd (al 5))))))
   (ai (aG (al 3))))),?_⟩
   symm;refine⟨am nofun,λl1 Y=>h1 _ _ ?_⟩;clear h1;generalize z0:aD H l1 _=H1;obtain⟨s1,e1⟩:=gn Y z0;symm;refine⟨⋯,⋯,?_⟩;rw[LL];refine bv (lo:=0) (n:=n) (λi σ H'=>∃(M:Addr) (x4 L B:Option V),σ=[some (V.ref l),some (V.int (n:Int)),some (V.str (tx [])),some (V.ref M),x4,L,B]/\H M=none/\H' M=some (.lst ((kj (· ++ ·) d [] i).map fL))/\ax H H'/\∀y∈kj (· ++ ·) d [] i,y.length<=i) ⟨l1,_,_,_,rfl,Y,e1,s1,λy m=>by rw[LD.mp m];exact L3 _⟩ ?_ ?_
   ·rintro i σ H2 hi ⟨M,x4,L,B,rfl,U,G,C,D⟩
    ac_nf;refine⟨L3 _,λJ g=>h2 _ _ ?_⟩;clear h2;generalize z2:aD H2 J _=H3;obtain⟨Z,e3⟩:=gn g z2;have hlen:=kN (· ++ ·) d [] (i+1);have a0:d.length ^ (i+1)<=300\/d.length=0:=by
     rcases Nat.eq_zero_or_pos d.length with h | h
     ·exact .inr h
     ·exact .inl (L9 (Nat.pow_le_pow_right h hi) pw)
    ac_nf;refine⟨⟨_,aI.of (Z _ _ G)⟩,?_⟩;refine bB (xs:=(kj (· ++ ·) d [] i).map fL) (λj σ H'=>∃(L B:Option V),σ=[some (V.ref l),some (V.int (n:Int)),some (V.str (tx [])),some (V.ref M),some (V.int (i:Int)),some (V.ref J),B]/\H' J=some (.lst ((((kj (· ++ ·) d [] i).take j).flatMap λc=>d.map (c ++ ·)).map fL))/\aT J H3 H') ⟨none,_,rfl,e3,aT.of λ_ _ h=>h⟩ (λj σ H' _ h=>by
     obtain⟨_,_,_,_,I⟩:=h;exact aI.of (I _ _ (λe=>by rw[e]at G;rw[g]at G;cases G) (Z _ _ G))) ?_ ?_
    ·rintro j x σ H4 hx ⟨L,B,rfl,e4,I⟩
     rw[LF]at hx;obtain⟨c,R,rfl⟩:=L6.mp hx;ext;have a7:l≠J:=λe=>by have:=C _ _ hl;rw[e,g]at this;cases this
     have T:=I _ _ a7 (Z _ _ (C _ _ hl));have a8:=D c (LG R);have hb:=oN (· ++ ·) d [] i j;have hb2:((((kj (· ++ ·) d [] i).take j).flatMap λc=>d.map (c ++ ·)).map fL).length<=300:=by
      rw[LC];rcases a0 with h | h
      ·exact L9 hb h
      ·rw[h,Nat.pow_succ,Nat.mul_zero]at hb;omega
     refine⟨.inl ⟨rfl,_,aI.of e4⟩,⟨_,aI.of T⟩,fw (as:=d) (emb:=fL) (f:=λy=>some (fL (c++y))) (λσ=>∃x,σ=[x,some (fL c)]) ⟨_,rfl⟩ (λH5 v=>aI.of (v _ _ T)) ⋯ ?_ ?_⟩
     ·rintro k y m σ H5 M1 M0 ⟨x0,rfl⟩ v k1 k0
      have a5:=O y (LG m);ext;refine⟨by rw[aw,aw];exact am ⋯,?_⟩;rw[BD];exact k1 _ _ _ rfl v ⟨_,rfl⟩
     ·intro H5 v l4 r
      have u:=v _ _ e4;have S:J≠l4:=λe=>by rw[e,r]at u;cases u
      have ef:List.filterMap (λy=>some (fL (c++y))) d=(d.map (c ++ ·)).map fL:=by
       rw[LQ];exact congrFun (List.filterMap_eq_map (f:=λy=>fL (c++y))) d
      rw[ef];refine⟨_,by rw[ar S];exact u,_,ae,?_,?_,((I.then v).then (af r)).put⟩
      ·refine L9 (Ml (Nat.le_of_eq (by rw[LC,LC])) _) (am ⋯)
      ·rw[ae,q0E,R,List.flatMap_append,LO]
       congr 3
       simp
    ·rintro σ H4 ⟨L,B,rfl,e4,I⟩
     refine h2 _ _ ?_;ext;rw[LC,Md]at e4;have s4:ax H H4:=λb o h=>I b o (λe=>by have:=C b o h;rw[e,g]at this;cases this) (Z b o (C b o h));refine⟨C.free g,e4,s4,λy m=>?_⟩;obtain⟨c,R,m⟩:=List.mem_flatMap.mp m;obtain⟨z,hz,rfl⟩:=Mi.mp m;have:=D c R;have:=O z hz;rw[LZ];omega
   ·rintro σ H2 ⟨M,x4,L,B,rfl,U,G,C,D⟩
    refine h1 _ _ ?_;ext;exact q _ _ U G C
  ·refine⟨_,(ad (q01 3 sc.nd (ba (aa (al 2) ac)))
   (ad (aQ PassesOwn.never rfl (bE rfl nb.range (aa (al 1) ac)) (q02 4 sc.nd)
   (ad (q01 5 sc.nd (ba ac))
   (ad (aQ PassesOwn.never rfl (aS (al 3)) (au (i:=6) sc.nd rfl (Or.inr rfl))
   (ai (a_ (dy PySem.F.plainAttrs_list PySem.F.slot_list_extend PySem.F.type_list_extend jh (al 5) (aa (bS ["link"] [6] rfl (bA.of (by kernel_rfl)) (by kernel_rfl) (aS (al 0))
    (λ_ _ _ _=>(au (i:=0) (by show(["link","chain"]:List Str).Nodup;decide +kernel) rfl (Or.inl rfl))) (λ_ _ _ _=>bT) (λ_ _ _ _=>(az yh (al 1) (al 0)))) ac)))))
   (ai (q01 3 sc.nd (al 5))))))
   (ai (aG (al 3))))),?_⟩
   symm;refine⟨am nofun,λl1 Y=>h1 _ _ ?_⟩;clear h1;generalize z0:aD H l1 _=H1;obtain⟨s1,e1⟩:=gn Y z0;symm;refine⟨⋯,⋯,?_⟩;rw[LL];refine bv (lo:=0) (n:=n) (λi σ H'=>∃(M:Addr) (x4 L B:Option V) (bs:MA),σ=[some (V.ref l),some (V.int (n:Int)),some (V.ref e),some (V.ref M),x4,L,B]/\H M=none/\H' M=some (.lst (bs.map V.ref))/\aO ii H' bs (kj (· ++ ·) d [] i)/\ax H H'/\∀y∈kj (· ++ ·) d [] i,y.length<=i) ⟨l1,_,_,_,[e],rfl,Y,e1,aO.one (s1 _ _ he),s1,λy m=>by rw[LD.mp m];exact L3 _⟩ ?_ ?_
   ·rintro i σ H2 hi ⟨M,x4,L,B,bs,rfl,U,G,b2,C,D⟩
    ac_nf;refine⟨L3 _,λJ g=>h2 _ _ ?_⟩;clear h2;generalize z2:aD H2 J _=H3;obtain⟨Z,e3⟩:=gn g z2;have a0:d.length ^ (i+1)<=300:=L9 (Nat.pow_le_pow_right l0 hi) pw;have hll:d.length<=300:=by
     have:=Nat.pow_le_pow_right l0 (show 1<=i+1 by omega);rw[Nat.pow_one]at this;omega
    ac_nf;refine⟨⟨_,aI.of (Z _ _ G)⟩,?_⟩;refine bB (xs:=bs.map V.ref) (λj σ H'=>∃(L B:Option V) (cs:MA),σ=[some (V.ref l),some (V.int (n:Int)),some (V.ref e),some (V.ref M),some (V.int (i:Int)),some (V.ref J),B]/\H' J=some (.lst (cs.map V.ref))/\aO ii H' cs (((kj (· ++ ·) d [] i).take j).flatMap λc=>d.map (c ++ ·))/\aT J H3 H') ⟨none,_,[],rfl,e3,aO.nil,aT.of λ_ _ h=>h⟩ (λj σ H' _ h=>by
     obtain⟨_,_,_,_,_,_,I⟩:=h;exact aI.of (I _ _ (λe=>by rw[e]at G;rw[g]at G;cases G) (Z _ _ G))) ?_ ?_
    ·rintro j x σ H4 hx ⟨L,B,cs,rfl,e4,b4,I⟩
     rw[LF]at hx;obtain⟨b,a9,rfl⟩:=L6.mp hx;obtain⟨c,R,a1⟩:=b2.get a9;ext;have s4:ax H H4:=λb o h=>I b o (λe=>by have:=C b o h;rw[e,g]at this;cases this) (Z b o (C b o h));have T:=s4 _ _ hl;have a4:ii H4 b c:=I _ _ (λe=>by rw[e]at a1;rw[show H2 J=_ from a1]at g;cases g) (Z _ _ a1);have a8:=D c (LG R);have hb:=oN (· ++ ·) d [] i j;refine⟨.inl ⟨rfl,_,aI.of e4⟩,⟨_,aI.of T⟩,ib ii (λh s=>s _ _ h) (as:=as) (emb:=V.ref) (ys:=d.map (c ++ ·)) (by rw[LC];exact hA.1) (λσ=>∃x,σ=[x,some (V.ref b)]) ⟨_,rfl⟩ (λH5 v=>aI.of (v _ _ T)) (by rw[hA.1];omega) ?_ ?_⟩
     ·rintro k a z ha hz σ H5 M1 M0 ⟨x0,rfl⟩ v k1
      rw[LF]at hz;obtain⟨y,m,rfl⟩:=L6.mp hz;have a5:=O y (LG m);have a6:=v _ _ (s4 _ _ (hA.2 k a y ha m));have a3:=v _ _ a4;ext;refine⟨_,a3,_,a6,by rw[aq,aq];exact am ⋯,λp hp=>?_⟩;exact k1 p _ _ (by show aD _ _ _ _=_;rw[ae];unfold av;rw[LO]) (v.trans (af hp)) (af hp) ⟨_,rfl⟩
     ·intro ds H5 v hD l4 r
      have u:=v _ _ e4;have S:J≠l4:=λe=>by rw[e,r]at u;cases u
      have a2:∀y∈(kj (· ++ ·) d [] i).flatMap (λc=>d.map (c ++ ·)),0<y.length:=λy m=>by
       obtain⟨c,_,m⟩:=List.mem_flatMap.mp m;obtain⟨z,hz,rfl⟩:=Mi.mp m;rw[LZ,O z hz];omega
      have keep:∀{b:Addr} {y:aE},ii H5 b y->0<y.length->ii (aD (aD H5 l4 (.lst (ds.map V.ref))) J (.lst (cs.map V.ref++ds.map V.ref))) b y:=fun{b y} h h0=>by
       show aD _ _ _ _=_;rw[ar (yB h h0 u),ar (λe=>by rw[e]at h;rw[show H5 l4=_ from h]at r;cases r)];exact h
      refine⟨_,by rw[ar S];exact u,_,ae,?_,cs++ds,by rw[ae,LO],?_,((I.then v).then (af r)).put⟩
      ·rw[LC,LC,b4.1,hD.1,LC];exact am ⋯
      ·rw[q0E,R,List.flatMap_append]
       refine aO.both (b4.mono λb y _ m h=>keep (v _ _ h) (a2 y ?_)) ?_
       ·obtain⟨c,R,m⟩:=List.mem_flatMap.mp m
        exact List.mem_flatMap.mpr ⟨c,q0H R,m⟩
       ·have e:List.flatMap (λc=>d.map (c ++ ·)) (some c).toList=d.map (c ++ ·):=by simp
        rw[e];exact hD.mono λb y _ m h=>keep h (a2 y (List.mem_flatMap.mpr ⟨c,LG R,m⟩))
    ·rintro σ H4 ⟨L,B,cs,rfl,e4,b4,I⟩
     refine h2 _ _ ?_;ext;rw[LC,b2.1,Md]at b4;have s4:ax H H4:=λb o h=>I b o (λe=>by have:=C b o h;rw[e,g]at this;cases this) (Z b o (C b o h));refine⟨C.free g,cs,e4,b4,s4,λy m=>?_⟩;obtain⟨c,R,m⟩:=List.mem_flatMap.mp m;obtain⟨z,hz,rfl⟩:=Mi.mp m;have:=D c R;have:=O z hz;rw[LZ];omega
   ·rintro σ H2 ⟨M,x4,L,B,bs,rfl,U,G,b2,C,D⟩
    refine h1 _ _ ?_;ext;exact q _ _ _ U G b2 C
def c_(ss:Mx)(c:Nat):List (List Nat):=kj (· ++ ·) (ss.map λs=>[s]) [] c
def ia(ss:Mx)(r c:Nat):List aE:=kj (· ++ ·) ((c_ ss c).map λt=>[t]) [] r
theorem jq(ss:Mx)(c:Nat):(c_ ss c).length=ss.length ^ c:=by unfold c_;rw[kN,LC]
theorem nZ(ss:Mx)(r c:Nat):(ia ss r c).length=ss.length ^ (c*r):=by unfold ia;rw[kN,LC,jq,<- Nat.pow_mul]
theorem dG{ss:Mx}{x:Mx}:∀{c:Nat},x∈c_ ss c↔x.length=c/\∀s∈x,s∈ss
 |0=>by
  show x∈[[]]↔_;rw[LD]
  constructor
  ·rintro rfl;exact⟨rfl,λs h=>nomatch h⟩
  ·rintro⟨h,_⟩;exact Mh.mp h
 |c+1=>by
  show x∈(c_ ss c).flatMap (λt=>(ss.map λs=>[s]).map (t ++ ·))↔_;rw[List.mem_flatMap]
  constructor
  ·rintro⟨t,ht,hx⟩
   obtain⟨_,hs,rfl⟩:=Mi.mp hx;obtain⟨s,hs2,rfl⟩:=Mi.mp hs;obtain⟨h1,h2⟩:=dG.mp ht;refine⟨by rw[LZ,h1];rfl,λy hy=>?_⟩;rcases LP.mp hy with h | h
   ·exact h2 y h
   ·rw[LD.mp h];exact hs2
  ·rintro⟨h1,h2⟩
   have h0:x≠[]:=λe=>by rw[e]at h1;cases h1
   refine⟨x.dropLast,dG.mpr ⟨by rw[List.length_dropLast,h1];rfl,λs hs=>h2 s ((List.dropLast_sublist _).subset hs)⟩,Mi.mpr ⟨[x.getLast h0],Mi.mpr ⟨_,h2 _ (List.getLast_mem h0),rfl⟩,List.dropLast_concat_getLast h0⟩⟩
theorem eJ{ss:Mx}{p:aE}:∀{r:Nat},p∈ia ss r c↔rect p r c/\∀x∈p,∀s∈x,s∈ss
 |0=>by
  show p∈[[]]↔_;rw[LD]
  constructor
  ·rintro rfl;exact⟨⟨rfl,λx h=>nomatch h⟩,λx h=>nomatch h⟩
  ·rintro⟨h,_⟩;exact Mh.mp h.1
 |r+1=>by
  show p∈(ia ss r c).flatMap (λt=>((c_ ss c).map λt=>[t]).map (t ++ ·))↔_;rw[List.mem_flatMap]
  constructor
  ·rintro⟨t,ht,hx⟩
   obtain⟨_,hs,rfl⟩:=Mi.mp hx;obtain⟨s,hs2,rfl⟩:=Mi.mp hs;obtain⟨h1,h2⟩:=eJ.mp ht;obtain⟨h3,h4⟩:=dG.mp hs2;refine⟨⟨by rw[LZ,h1.1];rfl,λy hy=>?_⟩,λy hy=>?_⟩
   ·rcases LP.mp hy with h | h
    ·exact h1.2 y h
    ·rw[LD.mp h];exact h3
   ·rcases LP.mp hy with h | h
    ·exact h2 y h
    ·rw[LD.mp h];exact h4
  ·rintro⟨h1,h2⟩
   have h0:p≠[]:=λe=>by have:=h1.1;rw[e]at this;cases this
   refine⟨p.dropLast,eJ.mpr ⟨⟨by rw[List.length_dropLast,h1.1];rfl,λx hx=>h1.2 x ((List.dropLast_sublist _).subset hx)⟩,λx hx=>h2 x ((List.dropLast_sublist _).subset hx)⟩,Mi.mpr ⟨[p.getLast h0],Mi.mpr ⟨_,dG.mpr ⟨h1.2 _ (List.getLast_mem h0),h2 _ (List.getLast_mem h0)⟩,rfl⟩,List.dropLast_concat_getLast h0⟩⟩
theorem EV{zs:MF}(h:zs.Perm ((tx sg).cps.toList.map λc=>(⟨#[c]⟩:Str)))(hs:zs.Pairwise λa b=>¬ b.cps.toList<a.cps.toList):∃ss:List Nat,zs=ss.map (λc=>(⟨#[c]⟩:Str))/\ss.Perm sg/\ss.Pairwise (·<=·):=by
 rw[cg]at h;have d:zs=(zs.map λz=>z.cps.toList.headD 0).map λc=>(⟨#[c]⟩:Str):=by
  rw[LQ];refine(List.map_id _).symm.trans (q0K λz e=>?_);obtain⟨c,_,rfl⟩:=Mi.mp (h.mem_iff.mp e)
  rfl
 refine⟨zs.map λz=>z.cps.toList.headD 0,d,?_,?_⟩
 ·refine(h.map _).trans ?_
  rw[LQ];exact List.Perm.of_eq ((q0K λc _=>rfl).trans (List.map_id _))
 ·rw[d,List.pairwise_map]at hs
  rw[List.pairwise_map]at hs ⊢;refine hs.imp fun{a b} hab=>?_;have:¬ [b.cps.toList.headD 0]<[a.cps.toList.headD 0]:=hab;rw[List.cons_lt_cons_iff]at this;omega
abbrev fJ:Stmt:=eY 63
inductive im(K:W.Frag)(vs:List V)(H:Hp)(Q:VK)(_E:XK):Prop
 |mk (sg:Mx) (r c:Nat) (_:vs=[.str (tx sg),.int (r:Int),.int (c:Int)]) (_:1<=r) (_:r<=6) (_:1<=c) (_:c<=6) (_:1<=sg.length) (_:sg.length<=4) (_:sg.length ^ (r*c)<=300) (_:∀l' H' bs ss,H l'=none->ss.Perm sg->ss.Pairwise (·<=·)->H' l'=some (.lst (bs.map V.ref))->aO ii H' bs (ia ss r c)->ax H H'->Q (.ref l') H')
theorem ni:aC ["signs","rows","columns","texts"] ["signs","rows","columns"] (ao fJ):=by walk_at "c"
theorem mY{f:Addr}(F:cZ K "all_pictures" "all_pictures" fJ f fd)(nb:NB mg){tkM:Tok}(yat:mg "MOST"=some (.int 6 tkM))(yav:↑dk 1 "chains" ["links","many","nothing"] (r_ K)):↑aY 2 f fd ["signs","rows","columns"] (im K):=by
 have sc:=ni;walk_at "f"
 ·obtain⟨n,r,c,rfl,r1,r6,c1,c6,g1,g4,U,q⟩:=h
  have hu:=hr.units;refine⟨_,(ad (bM (i7 (PW.pt (ge (u_ (bu.m0 iw) (bu.m0 iw) aj (al 1) (cM (v:=.int 6) rfl yat ⟨_,rfl⟩)) (fT (u_ (bu.m0 iw) (bu.m0 iw) aj (al 2) (cM (v:=.int 6) rfl yat ⟨_,rfl⟩))))))
   (ai (aG (ba ac)))
   aR)
   (ad (q01 3 sc.nd (aH yav (hr.mono nofun) rfl aL (aa (aF (wD rfl) rfl nb.sorted Bb (aa (al 0) ac)) (aa (al 2) (eN ac)))))
   (ai (aG (aH yav (hr.mono nofun) rfl aL (aa (bS ["text"] [] rfl (bA.of (by kernel_rfl)) (by kernel_rfl) (aS (al 3))
    (λ_ _ _ _=>(au (i:=0) (by show(["text"]:List Str).Nodup;decide +kernel) rfl (Or.inl rfl))) (λ_ _ _ _=>bT) (λ_ _ _ _=>(ba (aa (al 0) ac)))) (aa (al 1) (aa (ba ac) ac)))))))),?_⟩
  symm;rw[q07 ⋯,q07 ⋯,q07 ⋯,q06 ⋯];refine h1 _ _ ?_;grind;refine⟨by rw[aw];omega,λzs C B Z M=>?_⟩;obtain⟨d,rfl,m,hs⟩:=EV C B;generalize z0:aD H Z _=H1;obtain⟨u,e1⟩:=gn M z0;have e:d.length=n.length:=m.length_eq;have O:c*r=r*c:=Nat.mul_comm _ _;have pc:n.length ^ c<=300:=L9 (Nat.pow_le_pow_right g1 (by have:=Nat.mul_le_mul_right c r1;omega)) U;refine .T Z (d.map λs=>[s]) c rfl (by rw[e1,LQ,LQ];rfl) c6 (λx D=>by obtain⟨s,_,rfl⟩:=Mi.mp D;exact L1 _) (by rw[LC];omega) (by rw[LC,e];exact pc) λl2 H2 J e2 s2=>?_;have hl20:=u.free J;refine h1 _ _ ?_;clear h1;ext;refine⟨⟨_,aI.of e2⟩,ib ii (λh s=>s _ _ h) (as:=c_ d c) (emb:=fL) (ys:=(c_ d c).map λt=>[t]) (by rw[LC]) (λσ=>∃x,σ=[x]) ⟨_,rfl⟩ (λR g=>aI.of (g _ _ e2)) (by rw[jq,e];omega) ?_ ?_⟩
  ·rintro k t z ht hz σ R M1 M0 ⟨x0,rfl⟩ g k1
   rw[LF,ht]at hz;cases hz;ext;refine⟨am nofun,λp m=>?_⟩;exact k1 p _ _ ae (g.trans (af m)) (af m) ⟨_,rfl⟩
  ·intro ds R g hD Y I
   refine⟨L3 _,λp l=>?_⟩;generalize z1:aD R Y _=H6 at l ⊢;obtain⟨S,e6⟩:=gn I z1;generalize z2:aD H6 p _=H7;obtain⟨o,e7⟩:=gn l z2;have j:ax H1 H7:=s2.trans (g.trans (S.trans o));have a:((c_ d c).map λt=>[t]).length=n.length ^ c:=by rw[LC,jq,e]
   refine .L Y p ((c_ d c).map λt=>[t]) ds r rfl (o _ _ e6) (hD.mono λb y _ _ h=>o _ _ (S _ _ h)) e7 r6 (λx D=>by obtain⟨t,_,rfl⟩:=Mi.mp D;rfl) (by rw[a,<- Nat.pow_mul,O];exact U) (by rw[a];exact Nat.pow_pos g1) λl5 H8 bs G e8 b8 s8=>?_;exact q l5 H8 bs d (u.free (j.free G)) m hs e8 b8 (u.trans (j.trans s8))
def Mn(rs:Yaa)(k:Ky)(v:Int):Prop:=Dv rs k v/\∀v',Dv rs k v'->v<=v'
theorem Mn.uniq{k:Ky}(h:Mn rs k v)(h':Mn rs k v'):v=v':=Int.le_antisymm (h.2 _ h'.1) (h'.2 _ h.1)
inductive ua(rs:Yaa)(nm:Mx):List aE->List (aE×Int)->Prop
 |nil:ua rs nm [] []
 |hit {ps fs} (p v) (_:ua rs nm ps fs) (_:Mn rs (bp p,nm) v):ua rs nm (ps++[p]) (fs++[(p,v)])
 |miss {ps fs} (p) (_:ua rs nm ps fs) (_:∀v,¬ Dv rs (bp p,nm) v):ua rs nm (ps++[p]) fs
theorem ua.len{nm:Mx}{ps:List aE}{fs:List (aE×Int)}(h:ua rs nm ps fs):fs.length<=ps.length:=by
 induction h with
 |nil=>exact L1 _
 |hit p v _ _ ih=>rw[LZ,LZ];simpa using ih
 |miss p _ _ ih=>rw[LZ];omega
theorem ua.mem{nm:Mx}{ps:List aE}{fs:List (aE×Int)}(h:ua rs nm ps fs):∀y∈fs,y.1∈ps:=by
 induction h with
 |nil=>intro y h;exact nomatch h
 |hit p v _ _ ih=>
  intro y a;rcases LP.mp a with h | h
  ·exact LP.mpr (.inl (ih y h))
  ·rw[LD.mp h];exact LP.mpr (.inr q0B)
 |miss p _ _ ih=>intro y a;exact LP.mpr (.inl (ih y a))
def qa(H:Hp)(t:Addr)(x:aE×Int):Prop:=∃b,H t=some (.tup [.ref b,.int x.2])/\ii H b x.1
theorem qa.up{t:Addr}(h:qa H t x)(s:ax H H'):qa H' t x:=let ⟨b,h1,h2⟩:=h;⟨b,s _ _ h1,s _ _ h2⟩
structure Hd(rs:Yaa)(nms:List (List Nat))(sg:Mx)(r c:Nat):Prop where
 r1:1<=r
 r6:r<=6
 c1:1<=c
 c6:c<=6
 g1:1<=sg.length
 g4:sg.length<=4
 sl:∀s∈sg,s≠47
 gd:∀x∈rs,kH x
 nm:∀x∈rs,x.2.n∈nms
 n8:nms.length<=8
 r24:rs.length<=24
 few:∀p,rect p r c->(∀x∈p,∀s∈x,s∈sg)->Hl p r c
theorem Ex{g r c:Nat}(hg:g<=4)(hr:r<=6)(hc:c<=6)(h:g ^ (r*c)<=300):g ^ (r*c)*(64*(dJ r c).length)<=990000:=by
 have:∀g,g<5->∀r,r<7->∀c,c<7->g ^ (r*c)<=300->g ^ (r*c)*(64*(dJ r c).length)<=990000:=by decide +kernel
 exact this g ⋯ r ⋯ c ⋯ h
abbrev gq:Stmt:=eY 61
inductive iO(K:W.Frag)(R:RC)(CG CN_ CM:Addr)(vs:List V)(H:Hp)(Q:VK)(E:XK):Prop
 |mk (g dx:Addr) (sg st nm:Mx) (as:MA) (rs:Yaa) (nms:List (List Nat)) (r c:Nat) (_:vs=[.ref g,.str (tx nm),.int (r:Int),.int (c:Int)]) (_:dv R H CG dx g sg st as rs) (_:(bj (tx st) rs).map (·.1)=nms.map tx) (_:Hd rs nms sg r c) (_:(nm∉nms->E (.ref CN_) none H)) (_:(nm∈nms->300<sg.length ^ (r*c)->∀H',ax H H'->E (.ref CM) none H')) (_:(nm∈nms->sg.length ^ (r*c)<=300->∀l H' ts fs ss,H l=none->ss.Perm sg->ss.Pairwise (·<=·)->ua rs nm (ia ss r c) fs->H' l=some (.lst (ts.map V.ref))->aO qa H' ts fs->ax H H'->Q (.ref l) H'))
theorem oQ:aC ["grammar","name","rows","columns","found","told","done","picture","key"] ["grammar","name","rows","columns"] (ao gq):=by walk_at "c"
theorem oi{f CN_ CM:Addr}(F:cZ K "pictures_of" "pictures_of" gq f fd)(nb:NB mg)(cl:iE K CG)(na:aB K CG "signs"/\aB K CG "start"/\aB K CG "kept"/\aB K CG "numbers"){tkM:Tok}(yaQ:mg "MOST_PICTURES"=some (.int 300 tkM))(ya5:mg "TooMany"=some (.ref CM))(ya1:XR K CM)(yai:ij P w K mg base (kU P w) 1 CG "numbers_of" ["self","name"] (cR R CG CN_))(yaO:↑dk 1 "how_many" ["signs","rows","columns"] mM)(ya9:↑dk 2 "all_pictures" ["signs","rows","columns"] (im K))(yaj:↑dk 9 "enter_seen" ["grammar","picture","told","done"] (gu K R CG))(yab:↑dk 1 "shown" ["picture"] (dY K)):aY P w K mg base (kU P w) 10 f fd ["grammar","name","rows","columns"] (iO K R CG CN_ CM):=by
 have sc:=oQ;walk_at "x"
 ·obtain⟨g,dx,M,st,nm,as,rs,O,r,c,rfl,_⟩:=h;rfl
 ·obtain⟨g,dx,M,st,nm,as,rs,O,r,c,rfl,hG,b3,a,qN,qM,q⟩:=h
  have hu:=hr.units;obtain⟨lk,pn,t,ha,hk,hrs,hN,hm⟩:=id hG;refine⟨_,(ad (a_ (kq yai (hr.mono nofun) (mB λ_ _ _ h=>h) (al 0) (aa (al 1) ac)))
   (ad (bM (aK (bu.m0 k8) (aH (CX:=kU P w) yaO.lift (hr.mono nofun) rfl dI (aa (bJ (al 0) rfl) (aa (al 2) (aa (al 3) ac)))) (cM (v:=.int 300) rfl yaQ ⟨_,rfl⟩) (aZ _))
   (ai (rq ya1 rfl rfl ya5 (vz λ_ _ _ h=>h) (eN ac)))
   aR)
   (ad (q01 4 sc.nd (ba ac))
   (ad (q01 5 sc.nd wy)
   (ad (q01 6 sc.nd lx)
   (ad (aQ PassesOwn.leaving rfl (aS (aH (CX:=kU P w) ya9.lift (hr.mono nofun) rfl dI (aa (bJ (al 0) rfl) (aa (al 2) (aa (al 3) ac))))) (q02 7 sc.nd)
   (ad (a_ (aH (CX:=kU P w) yaj.lift (hr.mono nofun) rfl dI (aa (al 0) (aa (al 7) (aa (al 5) (aa (al 6) ac))))))
   (ad (q01 8 sc.nd (bz (aa (aH (CX:=kU P w) yab.lift (hr.mono nofun) rfl dI (aa (al 7) ac)) (aa (al 1) ac))))
   (ai (bM (lL (xq (Mg (Ml (by decide:1<=64) _) hu) (al 8) (al 5)) (by with_unfolding_all rfl))
   (ai (a_ (dy PySem.F.plainAttrs_list PySem.F.slot_list_append PySem.F.type_list_append bV (al 4) (aa (bz (aa (al 7) (aa (lh (Mg (Ml (by decide:1<=64) _) hu) (al 5) (al 8) (λ_ _=>rfl)) ac))) ac))))
   aR)))))
   (ai (aG (al 4))))))))),?_⟩
  symm;refine⟨_,_,ha,rfl,g,dx,M,st,as,rs,tx nm,rfl,hG,λns e3 l0 H1 _ _ s1=>?_,λe4=>qN λhm=>?_⟩
  ·have e5:nm∈O:=by
    have:tx nm∈(bj (tx st) rs).map (·.1):=Classical.byContradiction λhm=>by rw[i_ hm]at e3;cases e3
    rw[b3]at this;obtain⟨m,hm,e⟩:=Mi.mp this;rw[<- cN e];exact hm
   refine h1 _ _ ?_;clear h1;have f1:=s1 _ _ ha;symm;refine⟨_,_,_,f1,cl,na.1,_,rfl,tx M,r,c,rfl,by rw[aw];exact a.g4,a.r6,a.c6,_,rfl,?_⟩;rw[aw]
   by_cases B:300<M.length ^ (r*c)
   ·rw[q07 (by exact_mod_cast B)]
    exact⟨am nofun,qM e5 B H1 s1⟩
   rw[q06 (by intro h;exact B (by exact_mod_cast h))];have b0:M.length ^ (r*c)<=300:=Nat.le_of_not_lt B;have q:=q e5 b0;refine h1 _ _ ?_;grind;refine⟨L3 _,λl a3=>h1 _ _ ?_⟩;clear h1;generalize z2:aD H1 l _=H2;obtain⟨s2,f4⟩:=gn a3 z2;symm;refine λd hd=>h1 _ _ ?_;clear h1;generalize z3:aD H2 d _=H3;obtain⟨s3,h0⟩:=gn hd z3;symm;refine λe he=>h1 _ _ ?_;clear h1;generalize z4:aD H3 e _=H4;obtain⟨s4,g9⟩:=gn he z4;have c9:ax H1 H4:=s2.trans (s3.trans s4);symm;refine⟨_,_,_,c9 _ _ f1,cl,na.1,_,rfl,M,r,c,rfl,a.r1,a.r6,a.c1,a.c6,a.g1,a.g4,b0,λl5 H5 bs ss b4 Y f6 I b5 s5=>⟨l5,rfl,⟨_,aI.of I⟩,?_⟩⟩;have f9:ss.length=M.length:=Y.length_eq;have hN:(ia ss r c).length=M.length ^ (r*c):=by rw[nZ,f9,Nat.mul_comm]
   have hW:M.length ^ (r*c)*(64*(dJ r c).length)<=990000:=Ex a.g4 a.r6 a.c6 b0;generalize b1:ia ss r c=ps at b5 hN q;have j:∀p∈ps,rect p r c/\bK p:=λp hp=>by
    rw[<- b1]at hp;obtain⟨h1,h2⟩:=eJ.mp hp;exact⟨h1,λrow e2 g7=>a.sl 47 (Y.mem_iff.mp (h2 row e2 47 g7)) rfl⟩
   have g6:∀p∈ps,kY rs O p r c:=λp hp=>⟨(j p hp).1,a.r1,a.c1,a.r6,a.c6,(j p hp).2,a.gd,a.nm,a.n8,a.r24,a.few p (j p hp).1 λx hx s hs=>Y.mem_iff.mp ((eJ.mp (by rw[b1];exact hp)).2 x hx s hs)⟩;have hD:∀q,(∃p∈ps,bd p r c q)->vH q:=λq ⟨p,hp,h⟩=>dA (j p hp).1 (j p hp).2 h;have n:H5 d=some (.dT []):=s5 _ _ (s4 _ _ h0);have L:H5 e=some (.dK []):=s5 _ _ g9;have J:H5 l=some (.lst []):=s5 _ _ (s4 _ _ (s3 _ _ f4));have d1:H1 d=none:=s2.free hd;have e1:H1 e=none:=(s2.trans s3).free he;have c4:ax H1 H5:=c9.trans s5;have d5:l≠d:=λz=>by rw[z,n]at J;cases J
   have d4:l≠e:=λz=>by rw[z,L]at J;cases J
   have nde:d≠e:=λz=>by rw[z,L]at n;cases n
   have fr:∀{b:Addr} {p:aE},ii H5 b p->p∈ps->b≠d/\b≠e/\b≠l:=fun{b p} h hp=>by
    refine⟨λz=>?_,λz=>?_,λz=>?_⟩
    ·rw[z]at h;rw[show H5 d=_ from h]at n;cases n
    ·rw[z]at h;rw[show H5 e=_ from h]at L;cases L
    ·exact yB (as:=[]) h (by rw[(j p hp).1.1];exact a.r1) J z
   refine bB (xs:=bs.map V.ref) (λi σ H'=>∃(x7 x8:Option V) (tb:Tb) (dn:MF) (Z:MA) (fs:List (aE×Int)),σ=[some (V.ref g),some (V.str (tx nm)),some (V.int (r:Int)),some (V.int (c:Int)),some (V.ref l),some (V.ref d),some (V.ref e),x7,x8]/\cj H' d tb/\H' e=some (.dK (ThM.trueD dn))/\ES rs O (λq=>∃p∈ps,bd p r c q) dn tb/\dn.length<=i*(64*(dJ r c).length)/\H' l=some (.lst (Z.map V.ref))/\aO qa H' Z fs/\ua rs nm (ps.take i) fs/\∀b o,b≠d->b≠e->b≠l->H5 b=some o->H' b=some o) ⟨_,_,[],[],[],[],rfl,n,L,ES.nil,L3 _,J,aO.nil,.nil,λ_ _ _ _ _ h=>h⟩ (λi σ H' _ h=>?_) ?_ ?_
   ·obtain⟨_,_,_,_,_,_,_,_,_,_,_,_,_,_,kp⟩:=h
    exact aI.of (kp _ _ (λz=>by rw[z,n]at I;cases I) (λz=>by rw[z,L]at I;cases I) (λz=>by
     rw[z]at b4;rw[s4 _ _ (s3 _ _ f4)]at b4;cases b4) I)
   ·rintro i x σ H6 hx ⟨x7,x8,tb,dn,Z,fs,rfl,hT,G,hS,g2,c2,U,hF,kp⟩
    rw[LF]at hx;obtain⟨b,hb,rfl⟩:=L6.mp hx;obtain⟨p,hp,e7⟩:=b5.get hb;have S:=LG hp;have hi:i<ps.length:=(LA.mp hp).1;obtain⟨d7,d6,f8⟩:=fr e7 S;have f0:ii H6 b p:=kp _ _ d7 d6 f8 e7;have f7:ax H1 H6:=λb o h=>kp b o (aA h d1) (aA h e1) (aA h a3) (c4 b o h);have g3:dn.length+64*(dJ r c).length<=990000:=by
     have:=Nat.mul_le_mul_right (64*(dJ r c).length) (show i+1<=M.length ^ (r*c) by omega);rw[Nat.add_mul,Nat.one_mul]at this;omega
    have Ep:=g6 p S;have small:dw p:=dw.of Ep.hp (by have:=a.r6;omega) (by have:=a.c6;omega);ac_nf;refine⟨g,dx,b,d,e,M,st,as,rs,O,p,r,c,_,dn,tb,H1,rfl,hG.up s1,f7,d1,e1,b3,Ep,hD,λq h=>⟨p,S,h⟩,aI.of f0,hT,G,hS,g3,λH7 c3 a0 g5 e6 a6 hl7 f5 T=>?_⟩;refine h2 _ _ ?_;clear h2;have b8:ii H7 b p:=T _ _ d7 d6 f0;ac_nf;refine⟨b,p,rfl,b8,small,am nofun,λtp a2=>h2 _ _ ?_⟩;clear h2;generalize z8:aD H7 tp _=H8;obtain⟨s8,e8⟩:=gn a2 z8;have hk:bo H8 tp (bp p,nm):=e8;ext;have min:∀v',Dv rs (bp p,nm) v'->∃v,v<=v'/\aN a0 (bp p,nm)=some v:=λv' a9=>wc Ep.hp Ep.ns (λx hx=>⟨(Ep.gd x hx).good.t0,(Ep.gd x hx).good.t7⟩) (λq hq=>a6.clo q ⟨p,S,hq⟩ (f5 q hq)) a9 p (bd.self Ep.hp Ep.r0 Ep.c0) rfl;have f3:=T _ _ d5 d4 c2;have D:=s8 _ _ f3;have a5:=g5.up s8;have ntb:tp≠b:=λz=>by rw[z]at a2;rw[show H7 b=_ from b8]at a2;cases a2
    have d3:∀{t:Addr} {y:aE×Int},t∈Z->y∈fs->qa H6 t y->qa H8 t y:=fun{t y} ht hy h=>by
     obtain⟨b2,C,h4⟩:=h;have a4:H6 d=some (.dT (tb.map qj)):=hT;refine⟨b2,s8 _ _ (T _ _ (λz=>?_) (λz=>?_) C),s8 _ _ (T _ _ (λz=>?_) (λz=>?_) h4)⟩
     ·rw[z]at C;rw[C]at a4;cases a4
     ·rw[z]at C;rw[C]at G;cases G
     ·rw[z]at h4;rw[show H6 d=_ from h4]at a4;cases a4
     ·rw[z]at h4;rw[show H6 e=_ from h4]at G;cases G
    have e0:∀b o,b≠d->b≠e->b≠l->H5 b=some o->H8 b=some o:=λb o h1 h2 C h=>s8 _ _ (T b o h1 h2 (kp b o h1 h2 C h));have a8:c3.length<=(i+1)*(64*(dJ r c).length):=by rw[Nat.add_mul,Nat.one_mul];omega
    have f2:ps.take (i+1)=ps.take i++[p]:=by rw[q0E,hp];rfl
    have g0:=hF.len;rw[Me]at g0;have hN3:ps.length<=300:=by omega
    refine⟨_,a5.told.get hk,?_⟩;cases hg:aN a0 (bp p,nm) with
    |none=>
     rw[q06 (by simp)];exact⟨a0,a5,c3,s8 _ _ e6,a6,a8,Z,D,fs,U.mono λt y h1 h2 h=>d3 h1 h2 h,(by rw[f2];exact .miss p hF λv hv=>by obtain⟨v2,_,h2⟩:=min v hv;rw[hg]at h2;cases h2),e0⟩
    |some v=>
     rw[q07 (by rfl)];refine⟨.inl ⟨rfl,_,aI.of D⟩,.int v,?_,am nofun,λtq a1=>?_⟩
     ·have:=a5.told.get hk
      rw[hg]at this;exact this
     have ntl:tq≠l:=λz=>by rw[z,D]at a1;cases a1
     have a7:aD H8 tq (.tup [.ref b,.int v]) l=some (.lst (Z.map V.ref)):=af a1 _ _ D;have s9:ax H8 (aD H8 tq (.tup [.ref b,.int v])):=af a1;have e9:aD H8 tq (.tup [.ref b,.int v]) tq=some (.tup [.ref b,.int v]):=ae;generalize aD H8 tq (.tup [.ref b,.int v])=H9 at a7 s9 e9 ⊢;have put:∀{b:Addr} {o:HO} {u:HO},H9 b=some o->b≠l->aD H9 l u b=some o:=fun{b o u} h hb=>by rw[ar hb];exact h
     have d2:∀{t:Addr} {y:aE×Int} {u:HO},y.1∈ps->qa H9 t y->qa (aD H9 l u) t y:=fun{t y u} hy h=>by
      obtain⟨b2,C,h4⟩:=h;refine⟨b2,put C (λz=>by rw[z,a7]at C;cases C),put h4 (yB h4 (by rw[(j y.1 hy).1.1];exact a.r1) a7)⟩
     refine⟨_,a7,by rw[LC,U.1];exact aU ⋯,a0,put (a5.up s9) (Ne.symm d5),c3,put (s9 _ _ (s8 _ _ e6)) (Ne.symm d4),a6,a8,Z++[tq],by rw[ae,LO];rfl,fs++[(p,v)],aO.snoc (U.mono λt y h1 h2 h=>d2 (q0H (hF.mem y h2)) ((d3 h1 h2 h).up s9)) (d2 S ⟨b,e9,s9 _ _ (s8 _ _ b8)⟩),?_,λb o h1 h2 C h=>put (s9 _ _ (e0 b o h1 h2 C h)) C⟩;rw[f2];refine .hit p v hF ⟨(a6.key _ _ hg).2.2.1,λv' a9=>?_⟩;obtain⟨v2,l2,h2⟩:=min v' a9;rw[hg]at h2;cases h2;exact l2
   ·rintro σ H6 ⟨x7,x8,tb,dn,Z,fs,rfl,hT,G,hS,g2,c2,U,hF,kp⟩
    refine h1 _ _ ?_;ext;rw[LC,b5.1,Md]at hF;exact q l H6 Z fs ss (s1.free a3) Y f6 (by rw[b1];exact hF) c2 U λb o h=>kp b o (aA (s1 b o h) d1) (aA (s1 b o h) e1) (aA (s1 b o h) a3) (c4 b o (s1 b o h))
  ·have:tx nm∈(bj (tx st) rs).map (·.1):=by rw[b3];exact Mi.mpr ⟨nm,hm,rfl⟩
   rw[yD this]at e4;cases e4
abbrev oO:Stmt:=eY 66
inductive l9(K:W.Frag)(vs:List V)(H:Hp)(Q:VK)(_E:XK):Prop
 |mk (a:Addr) (ns:List Int) (k:Nat) (_:vs=[.ref a,.int (k:Int)]) (_:aI K H a (ns.map V.int)) (_:k<=1000) (_:∀c:Int,Q (.int c) H)
theorem zH:aC ["_law_script","_law_k","_law_cell_here","_law_mixed"] ["_law_script","_law_k"] (ao oO):=by walk_at "c"
theorem Ai{f:Addr}(F:cZ K "_law_cell" "_law_cell" oO f fd)(nb:NB mg):↑aY 1 f fd ["_law_script","_law_k"] (l9 K):=by
 have sc:=zH;walk_at "f"
 ·obtain⟨a,ns,k,rfl,hS,hk,q⟩:=h
  refine⟨_,(ad (q01 2 sc.nd aj)
   (ad (bM (ny k8 (aF mz rfl nb.len bi (aa (pv 0) ac)) aj (aZ _))
   (ai (q01 2 sc.nd (aM za (pv 0) (az bh (pv 1) (aF mz rfl nb.len bi (aa (pv 0) ac))) (λ_ _=>rfl))))
   aR)
   (ad (q01 3 sc.nd (az bh (az du (az bP (az bP (az bh (pv 2) aj) (az du aj (pv 1))) aj) aj) aj))
   (ai (aG (az bP (az du (az br (pv 2) aj) aj) (az bh (az bP (az du (pv 3) aj) (pv 1)) aj))))))),?_⟩
  ext;refine⟨_,hS,?_⟩;rw[LC]
  split
  ·rename_i hlt
   have h0:0<=(k:Int)%(ns.length:Int):=Mp _ ⋯;have h1:(k:Int)%(ns.length:Int)<ns.length:=Mq _ ⋯;obtain⟨j,hj⟩:∃j:Nat,(k:Int)%(ns.length:Int)=(j:Int):=⟨_,(Mr h0).symm⟩;have hj2:j<ns.length:=by omega
   refine⟨_,hS,by rw[LC];omega,_,hS,V.int ns[j],?_,_,rfl,_,rfl,q _⟩;rw[LC,hj];exact bH (by rw[LF,Lz hj2];rfl)
  ·exact q _
theorem Ab:(Str.ofString "abcdefghijklmnopqrstuvwxyz").cps.toList=(List.range 26).map (97 + ·):=by decide +kernel
theorem gL(h:c8 r=true):1<=r.length/\r.length<=4:=by
 unfold c8 at h;simp only[q0O,q0a]at h;exact⟨h.1.1.1,h.1.1.2⟩
theorem BG{α:Type}[DecidableEq α]:∀(l σ:List α),(∀x∈l,x∉σ)->l.Nodup->l.foldl dS σ=σ++l
 | [],σ,_,_=>by simp
 |x::l,σ,h,nd=>by
  rw[q0b]at nd;rw[List.foldl_cons,show dS σ x=σ++[x] by unfold dS;rw[q06 (h x q0B)]];rw[BG l (σ++[x]) (λy hy hm=>?_) nd.2,Mb];rfl
  rcases LP.mp hm with hm | hm
  ·exact h y (LS _ hy) hm
  ·rw[LD.mp hm]at hy;exact nd.1 hy
theorem Da:∀n,n<26->GG iW (97+n)=true:=by decide +kernel
structure E4(r:Mx):Prop where
 sm:∀x∈r,97<=x/\x<123
 nd:r.Nodup
theorem E4.signs(h:E4 r)(h1:1<=r.length)(h4:r.length<=4):c8 r=true:=by
 have b:gx r iW=true:=Mj.mpr λx a=>by
  have:=h.sm x a;have e:=Da (x-97) ⋯
  rwa [show 97+(x-97)=x by omega]at e
 have c:(met (cL (tx r))).length=r.length:=by
  unfold met;rw[BG _ _ (λ_ _=>List.not_mem_nil) ?_]
  ·unfold cL;rw[cg];simp
  ·unfold cL
   rw[cg,List.Nodup,List.pairwise_map];exact h.nd.imp λn e=>n (by have:=q0R (λs:Str=>s.cps[0]?) e;simpa using this)
 unfold c8;rw[b,c];simp;omega
theorem ri{α β:Type}(f:α->β):∀(l:List α) (k:Nat),(l.map f).eraseIdx k=(l.eraseIdx k).map f
 | [],_=>rfl
 |_::_,0=>rfl
 |x::l,k+1=>q0R (f x :: ·) (ri f l k)
theorem oq(r s:Mx):tx r++tx s=tx (r++s):=by
 show(⟨r.toArray++s.toArray⟩:Str)=⟨(r++s).toArray⟩;simp
theorem pU{α:Type}:∀(l:List α) (k:Nat) (x:α),l[k]?=some x->(x::l.eraseIdx k).Perm l
 | [],_,_,e=>nomatch e
 |y::l,0,x,e=>by cases e;exact List.Perm.refl _
 |y::l,k+1,x,e=>(List.Perm.swap y x _).trans ((pU l k x e).cons y)
theorem E4.pop{r pl:Mx}{k ch:Nat}(h:E4 (r++pl))(e:pl[k]?=some ch):E4 ((r++[ch])++pl.eraseIdx k):=by
 have a:(r++[ch]++pl.eraseIdx k).Perm (r++pl):=by
  rw[Mb];exact(pU pl k ch e).append_left r
 exact⟨λx b=>h.sm x (a.mem_iff.mp b),a.nodup_iff.mpr h.nd⟩
abbrev mD:Stmt:=eY 69
inductive ot(vs:List V)(H:Hp)(Q:VK)(_E:XK):Prop
 |mk (c:Int) (_:vs=[.int c,.int 3]) (_:∀(r:Mx) (H':Hp),c8 r=true->ax H H'->Q (.str (tx r)) H')
theorem xX:aC ["_law_cell_here","_law_most","_law_pool","_law_rest","_law_signs_here","_law_k"] ["_law_cell_here","_law_most"] (ao mD):=by walk_at "c"
theorem xL{f:Addr}(F:cZ K "_law_signs" "_law_signs" mD f fd)(nb:NB mg):↑aY 1 f fd ["_law_cell_here","_law_most"] ot:=by
 have sc:=xX;walk_at "f"
 ·obtain⟨c,rfl,q⟩:=h
  refine⟨_,(ad (q01 2 sc.nd (b7 (wW rfl) rfl nb.list dR (eN ac)))
   (ad (q01 3 sc.nd (az (bu.m1 br) (al 0) aj))
   (ad (q01 4 sc.nd kb)
   (ad (aQ PassesOwn.never rfl (bE rfl nb.range (aa (az (bu.m0 bP) aj (az (bu.m1 bh) (az (bu.m1 bh) (al 0) aj) (al 1))) ac)) (q02 5 sc.nd)
   (ad (q01 4 sc.nd (az dF (al 4) (dy PySem.F.plainAttrs_list PySem.F.slot_list_pop PySem.F.type_list_pop BK (al 2) (aa (az (bu.m1 bh) (al 3) (aF bf rfl nb.len bi (aa (al 2) ac))) ac))))
   (ai (q01 3 sc.nd (az (bu.m1 br) (al 3) (az (bu.m0 bP) (aF bf rfl nb.len bi (aa (al 2) ac)) aj))))))
   (ai (aG (al 4))))))),?_⟩
  symm;refine⟨by decide +kernel,λd l=>h1 _ _ ?_⟩;clear h1;rw[Ab];have G:=af (o:=.lst (((List.range 26).map (97 + ·)).map λc=>V.str ⟨#[c]⟩)) l;have C:aD H d (.lst (((List.range 26).map (97 + ·)).map λc=>V.str ⟨#[c]⟩)) d=some (.lst (((List.range 26).map (97 + ·)).map λc=>V.str ⟨#[c]⟩)):=ae;generalize aD H d (.lst (((List.range 26).map (97 + ·)).map λc=>V.str ⟨#[c]⟩))=H1 at G C ⊢;have L:E4 ((List.range 26).map (97 + ·)):=⟨nofun,nofun⟩;have J:((List.range 26).map (97 + ·)).length=26:=rfl;generalize(List.range 26).map (97 + ·)=p0 at C L J;symm;refine h1 _ _ ?_;clear h1;generalize c/4=re;symm;refine h1 _ _ ?_;grind;obtain⟨m,O⟩:∃m:Nat,c%4%3=(m:Int):=⟨_,(Mr (Mp _ ⋯)).symm⟩;have m2:m<3:=by omega
  rw[O,show(1+(m:Int)).toNat=1+m by omega];refine⟨⋯,⋯,?_⟩;refine bv (lo:=0) (n:=1+m) (λi σ e=>i<=1+m/\ax H e/\∃(a r:Mx) (b:Int) (x:Option V),e d=some (.lst (a.map λc=>V.str ⟨#[c]⟩))/\a.length+i=26/\r.length=i/\E4 (r++a)/\σ=[some (V.int c),some (V.int 3),some (V.ref d),some (V.int b),some (V.str (tx r)),x]) ⟨⋯,G,p0,[],re,none,C,J,rfl,L,rfl⟩ ?_ ?_
  ·rintro i σ e hi ⟨nB,sm,a,r,b,x,v,j,I,y,rfl⟩
   symm;have S:0<=b%(a.length:Int):=Mp _ ⋯;have hl:b%(a.length:Int)<a.length:=Mq _ ⋯;obtain⟨k,R⟩:∃k:Nat,b%(a.length:Int)=(k:Int):=⟨_,(Mr S).symm⟩;have p:k<a.length:=by omega
   obtain⟨g,u⟩:∃g,a[k]?=some g:=⟨_,Lz p⟩;have z:seqIndex? (k:Int) a.length=some k:=by unfold seqIndex?;simp;omega
   have T:(a.map λc=>V.str ⟨#[c]⟩).eraseIdx k=(a.eraseIdx k).map λc=>V.str ⟨#[c]⟩:=ri ..;refine⟨.inl ⟨rfl,_,aI.of v⟩,_,aI.of v,by rw[LC];omega,_,v,by rw[LC];omega,by rw[LC];omega,k,by rw[LC,R];exact z,_,by rw[LF,u];rfl,_,rfl,?_,h1 _ _ ?_⟩
   ·rw[aw];exact am (by show _+1<=_;omega)
   clear h1;rw[T,show tx r++(⟨#[g]⟩:Str)=tx (r++[g]) from oq r [g]];have D:ax H (aD e d (.lst ((a.eraseIdx k).map λc=>V.str ⟨#[c]⟩))):=cn sm l;have B:aD e d (.lst ((a.eraseIdx k).map λc=>V.str ⟨#[c]⟩)) d=some (.lst ((a.eraseIdx k).map λc=>V.str ⟨#[c]⟩)):=ae;generalize aD e d (.lst ((a.eraseIdx k).map λc=>V.str ⟨#[c]⟩))=H2 at D B ⊢;have el:(a.eraseIdx k).length=a.length-1:=List.length_eraseIdx_of_lt p;ext;exact⟨_,aI.of B,by rw[LC];omega,by rw[LC];omega,⋯,D,a.eraseIdx k,B,⋯,r++[g],by simp[I],y.pop u,rfl⟩
  ·rintro σ e ⟨_,sm,a,r,b,x,v,j,I,y,rfl⟩
   refine h1 _ _ ?_;ext;exact q r e (E4.signs ⟨λx M=>y.sm x (q0D _ M),(List.nodup_append.mp y.nd).1⟩ ⋯ ⋯) sm
theorem AI{row:Mx}{n:Nat}(h:n<=row.length):Txt.slice (tx row) none (some (n:Int))=tx (row.take n):=by
 rw[gH,HT.sIx_nat,Ms h];show tx ((row.drop 0).take (n-0))=_;rw[Mt,Nat.sub_zero]
theorem vi{row:Mx}{n:Nat}(h:n<=row.length):Txt.slice (tx row) (some (n:Int)) none=tx (row.drop n):=by
 rw[gH,HT.sIx_nat,Ms h];show tx ((row.drop n).take (row.length-n))=_;rw[q0F (by rw[Mf];omega)]
theorem xH:∀n,n<26->(Str.ofString "ABCDEFGHIJKLMNOPQRSTUVWXYZ").cps.toList[n]?=some (65+n):=by decide +kernel
def Cw(c:Nat):Bool:=GG FM c
theorem xE:∀n,n<26->Cw (65+n)=true:=by decide +kernel
theorem EI(x:Int):∃n:Nat,n<26/\x%26=(n:Int):=⟨(x%26).toNat,⋯,⋯⟩
theorem yI{r:Mx}(h:∀x∈r,Cw x=true)(h1:1<=r.length)(h4:r.length<=4):di r=true:=by
 have a:r.all (GG FM)=true:=Mj.mpr h;unfold di gx;rw[a];simp;omega
theorem gG{c:Prop}[Decidable c]{A B:Prop}(hA:c->A)(hB:¬ c->B):if c then A else B:=by
 by_cases h:c
 ·rw[q07 h];exact hA h
 ·rw[q06 h];exact hB h
abbrev gl:Stmt:=eY 70
inductive iT(vs:List V)(H:Hp)(Q:VK)(_E:XK):Prop
 |mk (c:Int) (_:vs=[.int c]) (_:∀(l:Addr) (p:aE) (H':Hp),H l=none->H' l=some (.lst (av p))->p.length=4->(∀r∈p,di r=true)->ax H H'->Q (.ref l) H')
theorem oW:aC ["_law_rest","_law_letters","_law_names_here","_law_k","_law_name","_law_size","_law_j"] ["_law_rest"] (ao gl):=by walk_at "c"
theorem ou{f:Addr}(F:cZ K "_law_any_names" "_law_any_names" gl f fd)(nb:NB mg):↑aY 1 f fd ["_law_rest"] iT:=by
 have sc:=oW;walk_at "f"
 ·obtain⟨c,rfl,q⟩:=h
  refine⟨_,(ad (q01 1 sc.nd kb)
   (ad (q01 2 sc.nd (ba ac))
   (ad (aQ PassesOwn.never rfl (bE rfl nb.range (bL ac)) (q02 3 sc.nd)
   (ad (q01 4 sc.nd kb)
   (ad (q01 5 sc.nd (az (bu.m0 bP) aj (az (bu.m1 bh) (al 0) aj)))
   (ad (q01 0 sc.nd (az (bu.m1 br) (al 0) aj))
   (ad (aQ PassesOwn.never rfl (bE rfl nb.range (aa (al 5) ac)) (q02 6 sc.nd)
   (ad (q01 4 sc.nd (az dF (al 4) (aM hX (al 1) (az (bu.m1 bh) (al 0) aj) (λ_ _=>rfl))))
   (ai (q01 0 sc.nd (az (bu.m1 br) (al 0) aj)))))
   (ai (a_ (dy PySem.F.plainAttrs_list PySem.F.slot_list_append PySem.F.type_list_append bV (al 2) (aa (al 4) ac)))))))))
   (ai (aG (al 2)))))),?_⟩
  symm;refine h1 _ _ ?_;grind;refine⟨am nofun,λd e=>h1 _ _ ?_⟩;clear h1;have M:=af (o:=.lst []) e;have R:aD H d (.lst []) d=some (.lst []):=ae;generalize aD H d (.lst [])=H1 at M R ⊢;symm;refine⟨nofun,?_⟩;refine bv (n:=4) (λi σ g=>ax H g/\(∃p:aE,g d=some (.lst (av p))/\p.length=i/\∀r∈p,di r=true)/\∃b x y u v,σ=[some (V.int b),some (V.str (Str.ofString "ABCDEFGHIJKLMNOPQRSTUVWXYZ")),some (V.ref d),x,y,u,v]) ⟨M,⟨[],R,rfl,λr hr=>nomatch hr⟩,_,_,_,_,_,rfl⟩ ?_ ?_
  ·rintro i σ g hi ⟨a,⟨p,D,C,I⟩,b,x,y,u,v,rfl⟩
   symm;refine h1 _ _ ?_;grind;refine h1 _ _ ?_;clear h1;obtain⟨m,U⟩:∃m:Nat,b%4=(m:Int):=⟨_,(Mr (Mp _ ⋯)).symm⟩;have m2:m<4:=by omega
   rw[U];symm;refine h1 _ _ ?_;clear h1;generalize b/4=re1;symm;rw[show(1+(m:Int)).toNat=1+m by omega];refine⟨⋯,⋯,?_⟩;refine bv (n:=1+m) (λj σ H2=>H2=g/\∃(b x:Int) (r:Mx) (y:Option V),r.length=j/\(∀x∈r,Cw x=true)/\σ=[some (V.int b),some (V.str (Str.ofString "ABCDEFGHIJKLMNOPQRSTUVWXYZ")),some (V.ref d),some (V.int i),some (V.str (tx r)),some (V.int (1+(m:Int))),y]) ⟨rfl,re1,0,[],_,rfl,λx T=>(nomatch T),rfl⟩ ?_ ?_
   ·rintro j σ H2 hj ⟨rfl,l,_,r,S,O,G,rfl⟩
    ext;obtain⟨n,B,L⟩:=EI l;refine⟨nofun,65+n,by rw[L];exact bH (xH n B),?_,_,r++[65+n],by simp[O],λz J=>?_,rfl,oq r [65+n]⟩
    ·rw[aw];exact am (by show _+1<=_;omega)
    ·rcases LP.mp J with h | h
     ·exact G z h
     ·rw[LD.mp h];exact xE n B
   ·rintro σ H2 ⟨rfl,l,_,r,S,O,G,rfl⟩
    refine h1 _ _ ?_;ext;refine⟨.inl ⟨rfl,_,aI.of D⟩,_,D,by rw[aq,C];exact aU ⋯,cn a e,p++[r],?_,by rw[LZ,C];rfl,λz J=>?_⟩
    ·rw[ae];unfold av;rw[LO];rfl
    ·rcases LP.mp J with h | h
     ·exact I z h
     ·rw[LD.mp h];exact yI G ⋯ ⋯
  ·rintro σ g ⟨a,⟨p,D,C,I⟩,b,x,y,u,v,rfl⟩
   refine h1 _ _ ?_;ext;exact q d p g e D C I a
abbrev lO:Stmt:=eY 71
inductive pP(vs:List V)(H:Hp)(Q:VK)(_E:XK):Prop
 |mk (c:Int) (_:vs=[.int c]) (_:∀(l:Addr) (p:aE) (H':Hp),H l=none->H' l=some (.lst (av p))->p.length=4->(∀r∈p,di r=true)->ax H H'->Q (.ref l) H')
theorem wJ:aC ["_law_cell_here","_law_letters","_law_size","_law_at","_law_step_here","_law_base","_law_names_here","_law_k","_law_letter"] ["_law_cell_here"] (ao lO):=by walk_at "c"
theorem xR{f:Addr}(F:cZ K "_law_names" "_law_names" lO f fd)(nb:NB mg)(zQa:↑dk 1 "_law_any_names" ["_law_rest"] iT):↑aY 2 f fd ["_law_cell_here"] pP:=by
 have sc:=wJ;walk_at "f"
 ·obtain⟨c,rfl,q⟩:=h
  refine⟨_,(ad (bM (aK dN (az (bu.m1 bh) (al 0) aj) aj (aZ _))
   (ai (aG (aH zQa (hr.mono nofun) rfl aL (aa (az (bu.m1 br) (al 0) aj) ac))))
   aR)
   (ad (ay (i:=0) sc.nd rfl (Or.inr rfl) (az (bu.m1 br) (al 0) aj))
   (ad (ay (i:=1) sc.nd rfl (Or.inr rfl) kb)
   (ad (q01 2 sc.nd (az (bu.m0 bP) aj (az (bu.m1 bh) (al 0) aj)))
   (ad (q01 3 sc.nd (az (bu.m1 bh) (az (bu.m1 br) (al 0) aj) (al 2)))
   (ad (q01 4 sc.nd (az (bu.m0 bP) aj (az (bu.m1 du) aj (az (bu.m1 bh) (az (bu.m1 br) (al 0) aj) aj))))
   (ad (q01 5 sc.nd (@rB _ _ _ _ _ _ _ _ (aa (bS ["_law_k"] [1,0] rfl (bA.of (by kernel_rfl)) (by kernel_rfl) (bE rfl nb.range (aa (al 2) ac))
    (λ_ _ _ _=>(au (i:=0) (by show(["_law_k","_law_letters","_law_cell_here"]:List Str).Nodup;decide +kernel) rfl (Or.inl rfl))) (λ_ _ _ _=>bT) (λ_ _ _ _=>(aM hX (al 1) (az (bu.m1 bh) (az (bu.m0 bP) (az (bu.m1 br) (al 2) aj) (az (bu.m1 du) aj (al 0))) aj) (λ_ _=>rfl)))) ac) rfl rfl))
   (ad (q01 6 sc.nd (ba ac))
   (ad (aQ PassesOwn.never rfl (bE rfl nb.range (bL ac)) (q02 7 sc.nd)
   (ad (q01 8 sc.nd (aM hX (al 1) (az (bu.m1 bh) (az (bu.m0 bP) (az (bu.m1 br) (al 0) aj) (az (bu.m1 du) (al 4) (al 7))) aj) (λ_ _=>rfl)))
   (ai (a_ (dy PySem.F.plainAttrs_list PySem.F.slot_list_append PySem.F.type_list_append bV (al 6) (aa (az dF (az dF (cU md (al 5) e_ (cr (al 3))) (al 8)) (cU md (al 5) (cr (az (bu.m0 bP) (al 3) aj)) e_)) ac))))))
   (ai (aG (al 6)))))))))))),?_⟩
  symm;refine gG (λ_=>⟨_,rfl,λl p d h1 h2 h3 h4 h5=>q l p d h1 h2 h3 h4 h5⟩) (λ_=>h1 _ _ ?_);grind;refine h1 _ _ ?_;clear h1;generalize c/2=c;obtain⟨m,hm⟩:∃m:Nat,c%4=(m:Int):=⟨_,(Mr (Mp _ ⋯)).symm⟩;have m2:m<4:=by omega
  symm;refine h1 _ _ ?_;grind;refine h1 _ _ ?_;clear h1;rw[hm];symm;refine⟨⋯,h1 _ _ ?_⟩;clear h1;obtain⟨a,O⟩:∃k:Nat,c/4%(1+(m:Int))=(k:Int):=⟨_,(Mr (Mp _ ⋯)).symm⟩;have hat2:a<1+m:=by have:=Mq (c/4) (b:=1+(m:Int)) ⋯;omega
  rw[O];symm;refine h1 _ _ ?_;clear h1;generalize 1+2*(c/16%6)=st;symm;have en:(1+(m:Int)).toNat=1+m:=by omega
  rw[en];refine⟨rfl,⋯,⋯,?_⟩
  let fc:Nat->Nat:=λi=>65+((c/96+5*(i:Int))%26).toNat
  refine mQ (n:=1+m) (f:=λi=>some (V.str ⟨#[fc i]⟩)) (λσ=>∃x,σ=[x,some (.str "ABCDEFGHIJKLMNOPQRSTUVWXYZ"),some (.int c)]) ⟨_,rfl⟩ ⋯ ?_ ?_
  ·rintro i hi σ d N1 N0 ⟨y,rfl⟩ D Z k0
   ext;obtain⟨n,h1,h2⟩:=EI (c/96+5*(i:Int));refine⟨nofun,fc i,?_,Z _ _ _ rfl D ⟨_,rfl⟩⟩;show ip _ _=some (65+((c/96+5*(i:Int))%26).toNat);rw[h2];exact bH (xH n h1)
  ·intro d D l hl
   rw[nN];have R:(List.range (1+m)).map (λi=>V.str ⟨#[fc i]⟩)=(((List.range (1+m)).map fc).map λc=>(⟨#[c]⟩:Str)).map V.str:=by rw[LQ,LQ];rfl
   rw[R];have g:∀x∈(List.range (1+m)).map fc,Cw x=true:=λx J=>by
    obtain⟨i,_,rfl⟩:=Mi.mp J;obtain⟨n,h1,h2⟩:=EI (c/96+5*(i:Int));show Cw (65+((c/96+5*(i:Int))%26).toNat)=true;rw[h2];exact xE n h1
   have M:((List.range (1+m)).map fc).length=1+m:=by simp
   generalize(List.range (1+m)).map fc=cs at g M ⊢;refine⟨_,.inl (aI.of ae),?_,?_⟩
   ·rw[LQ]
    have e1:((λy:Str=>y.length)∘λc=>(⟨#[c]⟩:Str))=λ_=>1:=by funext c;rfl
    have R:(Str.ofString "").length=0:=rfl;rw[e1,List.map_const',List.sum_replicate_nat,LC,R];omega
   rw[gz];refine h1 _ _ ?_;clear h1;have G:=D.trans (af (o:=.lst ((cs.map λc=>(⟨#[c]⟩:Str)).map V.str)) hl);generalize aD d l (.lst ((cs.map λc=>(⟨#[c]⟩:Str)).map V.str))=H1 at G ⊢;symm;refine⟨am nofun,λj v=>h1 _ _ ?_⟩;clear h1;have z:=G.free v;have T:=G.trans (af (o:=.lst []) v);have U:aD H1 j (.lst []) j=some (.lst []):=ae;generalize aD H1 j (.lst [])=H2 at T U ⊢;symm;refine⟨nofun,?_⟩;refine bv (n:=4) (λi σ d=>ax H d/\(∃p:aE,d j=some (.lst (av p))/\p.length=i/\∀r∈p,di r=true)/\∃x y,σ=[some (V.int c),some (V.str (Str.ofString "ABCDEFGHIJKLMNOPQRSTUVWXYZ")),some (V.int (1+(m:Int))),some (V.int (a:Int)),some (V.int st),some (V.str (tx cs)),some (V.ref j),x,y]) ⟨T,⟨[],U,rfl,λr hr=>nomatch hr⟩,_,_,rfl⟩ ?_ ?_
   ·rintro i σ d hi ⟨e,⟨p,C,B,I⟩,x,y,rfl⟩
    ext;obtain⟨n,u,L⟩:=EI (c/2496+st*(i:Int));have Y:di (cs.take a++[65+n]++cs.drop (a+1))=true:=by
     refine yI (λx J=>?_) (by simp;omega) (by simp;omega);rcases LP.mp J with h | h
     ·rcases LP.mp h with h | h
      ·exact g x (q0H h)
      ·rw[LD.mp h];exact xE n u
     ·exact g x (q0I h)
    have S:((a:Int)+1)=((a+1:Nat):Int):=by push_cast;rfl
    rw[AI ⋯,S,vi ⋯];have lt1:(cs.take a).length<=4:=by rw[Me];omega
    have lt2:(cs.drop (a+1)).length<=4:=by rw[Mf];omega
    have ez:tx (cs.take a)++(⟨#[65+n]⟩:Str)++tx (cs.drop (a+1))=tx (cs.take a++[65+n]++cs.drop (a+1)):=by rw[show(⟨#[65+n]⟩:Str)=tx [65+n] from rfl,oq,oq]
    refine⟨.inr ⟨⋯,⋯⟩,nofun,65+n,by rw[L];exact bH (xH n u),.inl ⟨rfl,_,aI.of C⟩,by rw[aw];exact am ⋯,?_,by rw[aw];exact am ⋯,?_,_,C,by rw[aq,B];exact aU ⋯,?_⟩
    ·rw[aw];exact am (by show _+1<=_;omega)
    ·rw[show(⟨#[65+n]⟩:Str)=tx [65+n] from rfl,oq,aw,aw];exact am (by simp;omega)
    ·rw[ez]
     refine⟨cn e z,p++[cs.take a++[65+n]++cs.drop (a+1)],?_,by rw[LZ,B];rfl,λr hr=>?_⟩
     ·rw[ae];unfold av;rw[LO];rfl
     ·rcases LP.mp hr with h | h
      ·exact I r h
      ·rw[LD.mp h];exact Y
   ·rintro σ d ⟨e,⟨p,C,B,I⟩,x,y,rfl⟩
    refine h1 _ _ ?_;ext;exact q j p d z C B I e
abbrev lW:Stmt:=eY 67
inductive nY(K:W.Frag)(vs:List V)(H:Hp)(Q:VK)(_E:XK):Prop
 |mk (a:Addr) (ns:List Int) (b m:Nat) (_:vs=[.ref a,.int (b:Int),.int (m:Int)]) (_:aI K H a (ns.map V.int)) (_:b<=100) (_:1<=m) (_:m<=100) (_:∀(l:Addr) (cs:List Int) (H':Hp),H l=none->H' l=some (.lst (cs.map V.int))->1<=cs.length->cs.length<=m->ax H H'->Q (.ref l) H')
theorem yc:aC ["_law_script","_law_begin","_law_most","_law_many"] ["_law_script","_law_begin","_law_most"] (ao lW):=by walk_at "c"
theorem ya{f:Addr}(F:cZ K "_law_cells" "_law_cells" lW f fd)(nb:NB mg)(zka:↑dk 1 "_law_cell" ["_law_script","_law_k"] (l9 K)):↑aY 2 f fd ["_law_script","_law_begin","_law_most"] (nY K):=by
 have sc:=yc;walk_at "f"
 ·obtain⟨a,ns,b,m,rfl,x,hb,hm1,hm,q⟩:=h
  refine⟨_,(ad (q01 3 sc.nd (az (bu.m0 i') (al 2) (az (bu.m1 br) (az (bu.m1 bh) (aH zka (hr.mono nofun) rfl aL (aa (al 0) (bL ac))) (al 2)) aj)))
   (ai (aG (bS ["_law_k"] [0] rfl (bA.of (by kernel_rfl)) (by kernel_rfl) (jr rfl nb.range (aa (al 1) (aa (az (bu.m0 bP) (al 1) (al 3)) ac)))
    (λ_ _ _ _=>(au (i:=0) (by show(["_law_k","_law_script"]:List Str).Nodup;decide +kernel) rfl (Or.inl rfl))) (λ_ _ _ _=>bT) (λ_ _ _ _=>(aH zka (hr.mono nofun) rfl aL (aa (al 1) (aa (al 0) ac)))))))),?_⟩
  symm;refine⟨a,ns,62,rfl,x,⋯,λc=>⟨_,rfl,⋯,h1 _ _ ?_⟩⟩;clear h1;obtain⟨n,y⟩:∃n:Nat,(m:Int)-c%(m:Int)/2=(n:Int):=⟨((m:Int)-c%(m:Int)/2).toNat,by have:=Mp c (b:=(m:Int)) ⋯;have:=Mq c (b:=(m:Int)) ⋯;omega⟩;have hn2:1<=n/\n<=m:=by have:=Mp c (b:=(m:Int)) ⋯;have:=Mq c (b:=(m:Int)) ⋯;omega
  rw[y];ext;refine⟨⋯,⋯,⋯,⋯,?_⟩;rw[show((b:Int)+(n:Int)-(b:Int)).toNat=n by omega];refine j3 (λi d σ o=>ax H o/\i<=n/\(∃g:List Int,d=g.map V.int/\g.length=i)/\∃z,σ=[z,some (V.ref a)]) ⟨λ_ _ e=>e,L3 _,⟨[],rfl,rfl⟩,_,rfl⟩ ?_ (λi d σ o h=>h.2.1) ?_ ?_
  ·rintro i d σ o ⟨_,v,⟨g,rfl,j⟩,_⟩
   rw[LC,j];exact aU ⋯
  ·rintro i d σ o v ⟨p,_,⟨g,rfl,j⟩,z,rfl⟩
   ext;exact⟨a,ns,b+i,by simp,p.seq x,⋯,λc=>⟨p,v,⟨g++[c],by simp,by simp[j]⟩⟩⟩
  rintro d σ H4 ⟨r,_,⟨g,rfl,j⟩,_⟩;intro l u;exact q l g _ (r.free u) ae ⋯ ⋯ (r.trans (af u))
abbrev iL:Stmt:=eY 73
inductive kT(R:RC)(CG:Addr)(vs:List V)(H:Hp)(Q:VK)(_E:XK):Prop
 |mk (l:Addr) (sg st:Mx) (ts:MA) (rs:Yaa) (_:vs=[.str (tx sg),.str (tx st),.ref l]) (_:gi H l ts rs) (_:(∀r∈rs,kH r)) (_:rs.length<=24) (_:sg.length<=100) (_:st.length<=100) (_:oZ sg st rs=none) (_:∀b db as H',dv R H' CG db b sg st as rs->ax H H'->Q (.ref b) H')
theorem sP:aC ["_law_signs_here","_law_start","_law_rules"] ["_law_signs_here","_law_start","_law_rules"] (ao iL):=by walk_at "c"
theorem uC{f:Addr}(F:cZ K "_law_grammar" "_law_grammar" iL f fd)(nb:NB mg)(gk:IY K CG)(zac:↑dk 6 "_law_rule" ["_law_rule_here"] (lN R))(zub:↑lR 4 "Grammar" CG ["self","signs","start","rules"] (ie K R)):↑aY 7 f fd ["_law_signs_here","_law_start","_law_rules"] (kT R CG):=by
 have sc:=sP;walk_at "f"
 ·obtain⟨l,D,C,ts,I,rfl,o,y,hn,hsg,hst,M,q⟩:=h
  refine⟨_,(ai (aG (je zub (hr.mono nofun) rfl aL (aa (pv 0) (aa (pv 1) (aa (bS ["_law_rule_here"] [] rfl (bA.of (by kernel_rfl)) (by kernel_rfl) (sY (pv 2))
    (λ_ _ _ _=>(au (i:=0) (by show(["_law_rule_here"]:List Str).Nodup;decide +kernel) rfl (Or.inl rfl))) (λ_ _ _ _=>bT) (λ_ _ _ _=>(aH zac (hr.mono nofun) rfl aL (aa (pv 0) ac)))) ac)))))),?_⟩
  ext;refine⟨⟨_,aI.of o.1⟩,xJ o y ⋯ λg H2 G J c v x j n d p=>?_⟩;have m:ax H2 (aD H2 c (.lst (g.map V.ref))):=af v;have z:aD H2 c (.lst (g.map V.ref)) c=some (.lst (g.map V.ref)):=ae;generalize aD H2 c (.lst (g.map V.ref))=H3 at m z n d ⊢;have a:ax H3 (aD (aD H3 j (.own x)) x (.ins CG j [])):=(af d).trans (af (by rw[ar (Ne.symm p)];exact n));refine⟨x,CG,j,c,D,C,g,I,rfl,ae,gk.cl.cl,gk.na,⋯,⋯,a _ _ z,(J.up m).up a,λr hr=>(y r hr).k4,⋯,M,λO lk pn t B L _ _ _=>⟨rfl,?_⟩⟩;exact q x j _ O L.f ((G.trans m).trans λb u e=>B b u (aA e n) (a b u e))
abbrev ke:Stmt:=eY 74
inductive mT(K:W.Frag)(vs:List V)(H:Hp)(Q:VK)(_E:XK):Prop
 |mk (a:Addr) (p:aE) (r c t:Nat) (_:vs=[.ref a,.int (t:Int)]) (_:H a=some (.lst (av p))) (_:rect p r c) (_:0<r) (_:0<c) (_:r<=64) (_:c<=64) (_:t<8) (_:∀l H',H l=none->H' l=some (.lst (av (turned p t)))->ax H H'->Q (.ref l) H')
theorem ve:aC ["_law_picture","_law_t","_law_turn","_law_rows","_law_column"] ["_law_picture","_law_t"] (ao ke):=by walk_at "c"
theorem uV{f:Addr}(F:cZ K "_law_turned" "_law_turned" ke f fd)(nb:NB mg):↑aY 1 f fd ["_law_picture","_law_t"] (mT K):=by
 have sc:=ve;walk_at "f"
 ·obtain⟨a,p,r,c,t,rfl,hS,hp,hr0,hc0,hr1,hc1,ht,q⟩:=h
  refine⟨_,(ad (bM (aK (bu.m0 k8) (al 1) aj (aZ _))
   (ai (gO (i:=0) ["_law_row"] [] sc.nd rfl (Or.inl rfl) rfl  rfl (bA.of (by kernel_rfl)) (by kernel_rfl) (aS (al 0))
    (λ_ _ _ _=>(au (i:=0) (by show(["_law_row"]:List Str).Nodup;decide +kernel) rfl (Or.inl rfl))) (λ_ _ _ _=>bT) (λ_ _ _ _=>(pO rfl rfl nb.reversed (aa (al 0) ac)))))
   aR)
   (ad (aQ PassesOwn.never rfl (bE rfl nb.range (aa (az (bu.m1 bh) (al 1) aj) ac)) (q02 2 sc.nd)
   (ad (q01 3 sc.nd (ba ac))
   (ad (aQ PassesOwn.never rfl (bE rfl nb.range (aa (aF aV rfl nb.len bi (aa (aM bD (al 0) aj (λ_ _=>rfl)) ac)) ac)) (au (i:=4) sc.nd rfl (Or.inr rfl))
   (ai (a_ (dy PySem.F.plainAttrs_list PySem.F.slot_list_append PySem.F.type_list_append bV (al 3) (aa (@rB _ _ _ _ _ _ _ _ (aa (bS ["_law_row"] [4] rfl (bA.of (by kernel_rfl)) (by kernel_rfl) (CA rfl nb.reversed (aa (al 0) ac))
    (λ_ _ _ _=>(au (i:=0) (by show(["_law_row","_law_column"]:List Str).Nodup;decide +kernel) rfl (Or.inl rfl))) (λ_ _ _ _=>bT) (λ_ _ _ _=>(aM hX (al 0) (al 1) (λ_ _=>rfl)))) ac) rfl rfl) ac)))))
   (ai (q01 0 sc.nd (al 3))))))
   (ai (aG (b7 b_ rfl nb.list dR (aa (al 0) ac)))))),?_⟩
  refine ak λN2 h2=>?_;have loop:∀(l2:Addr) (p':aE) (H2:Hp) (y1 y2 y3:Option V),H2 l2=some (.lst (av p'))->ax H H2->rect p' r c->turned p t=aJ (t%4) p'->N2 [some (V.ref l2),some (V.int t),y1,y2,y3] H2:=by
   intro l2 p' H2 y1 y2 y3 hH2 sm2 hp' et;refine h2 _ _ ?_;clear h2;refine ak λN3 h3=>?_;ext;refine⟨⋯,⋯,?_⟩;have e4:((t:Int)%4).toNat=t%4:=by omega
   rw[e4];refine bv (lo:=0) (n:=t%4) (λi σ H3=>∃(l3:Addr) (x1 x2 x3:Option V),σ=[some (V.ref l3),some (V.int t),x1,x2,x3]/\H3 l3=some (.lst (av (aJ i p')))/\ax H H3) ⟨l2,_,_,_,rfl,hH2,sm2⟩ ?_ ?_
   ·rintro i σ H3 hi ⟨l3,x1,x2,x3,rfl,h4,sm3⟩
    have hq:=cG i hp' hr0 hc0;obtain⟨r',c',g3,g4,g5,g6⟩:∃r' c',rect (aJ i p') r' c'/\0<r'/\r'<=64/\c'<=64:=by
     by_cases nB:i%2=0
     ·rw[q07 nB,q07 nB]at hq;exact⟨r,c,hq,hr0,hr1,hc1⟩
     ·rw[q06 nB,q06 nB]at hq;exact⟨c,r,hq,hc0,hc1,hr1⟩
    have hqa:aJ (i+1) p'=aX (aJ i p'):=(cF 1 i p').symm;generalize aJ i p'=pq at h4 g3 hqa;have hl0:0<pq.length:=by rw[g3.1];exact g4
    have hcc:(pq[0]).length=c':=g3.2 _ (LK hl0);have hh:(pq.headD []).length=c':=bb g3 g4;rw[hqa];ext;refine⟨L3 _,λlr hlr=>?_⟩;have s4:=af (o:=.lst []) hlr;have e4:aD H3 lr (.lst []) lr=some (.lst []):=ae;generalize aD H3 lr (.lst [])=H4 at s4 e4 ⊢;have h0:ip (av pq) 0=some (V.str (tx pq[0])):=(show ip _ ((0:Nat):Int)=_ from bH (bC hl0));refine⟨_,aI.of (s4 _ _ h4),_,h0,_,rfl,by rw[aw];exact am ⋯,by rw[aw];omega,by rw[aw];omega,?_⟩;rw[aw,hcc,LL];refine bv (lo:=0) (n:=c') (λj σ H5=>ax H3 H5/\j<=c'/\H5 lr=some (.lst (av ((List.range j).map (col pq))))/\∃y,σ=[some (V.ref l3),some (V.int t),some (V.int (i:Int)),some (V.ref lr),y]) ⟨s4,L3 _,e4,_,rfl⟩ ?_ ?_
    ·rintro j σ H5 hj ⟨s5,_,e5,y,rfl⟩
     have hl35:=s5 _ _ h4;ext;have hrow:∀x∈pq,x.length=c':=g3.2;have hpq:pq.length<=64:=by rw[g3.1];exact g5
     refine⟨.inl ⟨rfl,_,aI.of e5⟩,rfl,_,aI.of hl35,vQ (xs:=av pq) (λn acc σ H'=>H'=H5/\acc=((pq.reverse.take n).map λr=>V.str ⟨#[r.getD j 0]⟩)/\n<=pq.length/\∃x,σ=[x,some (.int (j:Int))]) ⟨rfl,rfl,L3 _,_,rfl⟩ ?_ ?_ ?_ ?_ ?_⟩
     ·rintro n acc σ H' ⟨_,rfl,_⟩
      refine aU ?_;rw[LC,Me,LU];omega
     ·rintro n acc σ H' ⟨_,_,h,_⟩
      rw[aq];exact h
     ·rintro n acc σ H' ⟨rfl,_⟩
      exact aI.of hl35
     ·rintro n x acc σ H' hx ⟨rfl,rfl,hn,y,rfl⟩
      have hl:n<pq.reverse.length:=by
       have:=(LA.mp hx).1
       rwa [LU,aq,<- LU (as:=pq)]at this
      have hx':(av pq.reverse)[n]?=some x:=by unfold av at hx ⊢;rwa [List.map_reverse]
      rw[bC hl]at hx';cases hx';have hm:pq.reverse[n]∈pq:=List.mem_reverse.mp (LK hl);have hr:=hrow _ hm;ext;have hc:(tx pq.reverse[n]).cps.toList[j]?=some (pq.reverse[n].getD j 0):=by rw[cg,q0A,Lz ⋯];rfl
      refine⟨by rw[aw];exact am ⋯,_,bH hc,?_,by rw[LU]at hl;exact hl⟩;rw[q0E,Lz hl,LO]
      rfl
     ·rintro acc σ H' ⟨rfl,rfl,_⟩ l hl
      rw[aq,<- LU (as:=pq),Md]at *;refine⟨(col pq j).map λc=>(⟨#[c]⟩:Str),.inl (aI.of ?_),?_,_,af hl _ _ e5,?_,?_,hj,?_⟩
      ·rw[ae];unfold col;rw[LQ,LQ];rfl
      ·rw[LQ]
       have e:((λy:Str=>y.length)∘λc=>(⟨#[c]⟩:Str))=λ_=>1:=by funext c;rfl
       rw[e,List.map_const',List.sum_replicate_nat,LC];have e0:(Str.ofString "").length=0:=rfl;rw[e0];unfold col;rw[LC];omega
      ·rw[aq,LC,q0J];exact aU ⋯
      ·exact cn (s5.trans (af hl)) hlr
      ·rw[ae,gz,q0M,LO]
       exact q0R (λz=>some (HO.lst z)) (cQ _ _).symm
    ·rintro σ H5 ⟨s5,_,e5,y,rfl⟩
     ext;refine⟨?_,sm3.trans s5⟩;rw[e5];unfold aX;rw[hh]
   ·rintro σ H3 ⟨l3,x1,x2,x3,rfl,h4,sm3⟩
    refine h3 _ _ ?_;ext;exact⟨_,.inl (aI.of h4),λl hl=>q l _ (sm3.free hl) (by rw[ae,et]) (sm3.trans (af hl))⟩
  ext;have hpl:p.length=r:=hp.1
  split
  ·rename_i h4
   refine⟨⟨_,aI.of hS⟩,?_⟩;refine fw (as:=p) (emb:=λx=>V.str (tx x)) (f:=λx=>some (V.str (tx x.reverse))) (λσ=>∃x,σ=[x]) ⟨_,rfl⟩ (λH' sm=>aI.of (sm _ _ hS)) ⋯ ?_ ?_
   ·rintro i x hx σ H' M1 M0 ⟨y,rfl⟩ sm k1 k0
    ext;have hxl:x.length=c:=hp.2 x (LG hx);refine⟨by rw[aw];omega,nofun,k1 _ _ _ ?_ sm ⟨_,rfl⟩⟩;rw[cg,gz]
   ·intro H' sm l hl
    rw[nN];have em:p.map (λx=>V.str (tx x.reverse))=av (mirror p):=by unfold av mirror;rw[LQ];rfl
    rw[em];refine loop l (mirror p) _ _ _ _ ae (sm.trans (af hl)) (bO hp) ?_;unfold turned;rw[q07 ⋯]
  ·rename_i h4
   refine loop a p H _ _ _ hS (ax.refl _) hp ?_;unfold turned;rw[q06 ⋯]
def kZ(p q:aE):aE:=(p.zip q).map λx=>x.1++x.2
def rY(k:Nat)(v:RV)(ps:List aE):Option aE:=
 match k,ps with
 |0,_=>some [v.sg]
 |1,[p,q]=>if p.length=q.length/\(p.headD []).length+(q.headD []).length<=6 then some (kZ p q) else none
 |2,[p,q]=>if(p.headD []).length=(q.headD []).length/\p.length+q.length<=6 then some (p++q) else none
 |_,[p]=>some (turned p v.t.toNat)
 |_,_=>none
theorem CF{k:Nat}{p:aE}{r c:Nat}(hk:k=1\/k=2)(h1:dQ p1 r c)(h2:dQ p2 r' c')(m:rY k v [p1,p2]=some p):∃r c,dQ p r c:=by
 have i:=bb h1.rc h1.r0;have g:=bb h2.rc h2.r0;have d:=h1.rc.1;have b:=h2.rc.1;rcases hk with rfl | rfl
 ·have a:(if p1.length=p2.length/\(p1.headD []).length+(p2.headD []).length<=6 then some (kZ p1 p2) else none)=some p:=m
  by_cases c0:p1.length=p2.length/\(p1.headD []).length+(p2.headD []).length<=6
  ·rw[q07 c0]at a
   cases a;rw[d,b,i,g]at c0;refine⟨r,c+c',⟨?_,h1.r0,h1.r6,by have:=h1.c0;omega,c0.2⟩⟩;refine⟨by unfold kZ;rw[LC,q0N,d,b];omega,λx e=>?_⟩;unfold kZ at e;obtain⟨y,j,rfl⟩:=Mi.mp e;have:=List.of_mem_zip j;rw[LZ,h1.rc.2 _ this.1,h2.rc.2 _ this.2]
  ·rw[q06 c0]at a;cases a
 ·have a:(if(p1.headD []).length=(p2.headD []).length/\p1.length+p2.length<=6 then some (p1++p2) else none)=some p:=m
  by_cases c0:(p1.headD []).length=(p2.headD []).length/\p1.length+p2.length<=6
  ·rw[q07 c0]at a
   cases a;rw[d,b,i,g]at c0;refine⟨r+r',c,⟨⟨by rw[LZ,d,b],λx e=>?_⟩,by have:=h1.r0;omega,c0.2,h1.c0,h1.c6⟩⟩;rcases LP.mp e with h | h
   ·exact h1.rc.2 _ h
   ·rw[c0.1];exact h2.rc.2 _ h
  ·rw[q06 c0]at a;cases a
theorem Af{r c:Nat}(h:dQ p r c)(t:Nat):∃r c,dQ (turned p t) r c:=by
 have a:rect (if 4<=t then mirror p else p) r c:=by split;exact bO h.rc;exact h.rc
 have:=cG (t%4) a h.r0 h.c0;unfold turned
 by_cases e:t%4%2=0
 ·rw[q07 e,q07 e]at this;exact⟨r,c,this,h.r0,h.r6,h.c0,h.c6⟩
 ·rw[q06 e,q06 e]at this;exact⟨c,r,this,h.c0,h.c6,h.r0,h.r6⟩
theorem Ck{H:Hp}{lp:Addr}{as:MA}(h1:H l=some (.lst (as.map V.ref)))(h2:H lp=some (.lst (av p)))(h3:p≠[]):lp≠l:=λe=>by
 rw[e,h1]at h2;have h4:=HO.lst.inj (q0S h2);cases p with
 |nil=>exact h3 rfl
 |cons r p=>
  cases as with
  |nil=>exact nomatch h4
  |cons a as=>have:=(List.cons.inj h4).1;cases this
theorem lm(s:ax H H')(h:H' a=none):H a=none:=by
 cases e:H a with
 |none=>rfl
 |some o=>rw[s _ _ e]at h;cases h
theorem An{H:Hp}{Q:VK}(ha:H a=some (.tup xs))(hb:H b=some (.tup ys))(hx:xs≠[])(hz:xs.length+ys.length<=1000)(q:∀p H',H' p=some (.tup (xs++ys))->ax H H'->Q (.ref p) H'):Fe K (.ref a) (.ref b) H Q:=
 ⟨a,b,xs,ys,rfl,rfl,cK.of ha,cK.of hb,hx,am ⋯,λe=>q a H (by rw[e,Ma];exact ha) (ax.refl _),λ_ p hp=>q p _ ae (af hp)⟩
theorem xD{t u:TS}{σ:St}(h:∀t' u',t'=t->u'=u->zI c t' u' D σ H):zI c t u D σ H:=h t u rfl rfl
structure og(r' r:Nat×RV):Prop where
 k:r'.1=r.1
 sg:r.1=0->r'.2.sg=r.2.sg
 o1:r.1≠0->r'.2.o1=r.2.o1
 o2:r.1=1\/r.1=2->r'.2.o2=r.2.o2
 t:r.1=3->r'.2.t=r.2.t
theorem og.rfl'(r:Nat×RV):og r r:=⟨rfl,λ_=>rfl,λ_=>rfl,λ_=>rfl,λ_=>rfl⟩
def c7(r:Nat×RV):List V:=match r.1 with
 |0=>[.int 0,.str (tx r.2.sg),.str ""]
 |1=>[.int 1,.str (tx r.2.o1),.str (tx r.2.o2)]
 |2=>[.int 2,.str (tx r.2.o1),.str (tx r.2.o2)]
 |_=>[.int 3,.str (tx r.2.o1),.int r.2.t]
theorem qV(r:Nat×RV):iS (fQ r) (some 2) none=c7 r:=by
 obtain⟨k,v⟩:=r
 match k with
 |0=>rfl
 |1=>rfl
 |2=>rfl
 |k+3=>rfl
theorem pN(r:Nat×RV):(c7 r).all qX=true:=by
 obtain⟨k,v⟩:=r
 match k with
 |0=>rfl
 |1=>rfl
 |2=>rfl
 |k+3=>rfl
theorem vc(r:Nat×RV):¬ (HT.sIx (fQ r).length 0 (some 2)=0/\HT.sIx (fQ r).length (fQ r).length none=(fQ r).length):=by
 obtain⟨k,v⟩:=r
 match k with
 |0=>exact λh=>by cases h.1
 |1=>exact λh=>by cases h.1
 |2=>exact λh=>by cases h.1
 |k+3=>exact λh=>by cases h.1
theorem jo(h:xi (.str a) (.str b)=true):a=b:=by
 have c:(a==b)=true:=h;exact eq_of_beq c
theorem yV{a b:Int}(h:xi (.int a) (.int b)=true):a=b:=by
 have c:(a==b)=true:=h;exact eq_of_beq c
theorem fD{x y z x' y' z':V}(h:jR [x,y,z] [x',y',z']=true):xi x x'=true/\xi y y'=true/\xi z z'=true:=by
 have a:(([0,1,2]:List Nat).all (λj=>match([x,y,z]:List V)[j]?,([x',y',z']:List V)[j]? with | some x,some y=>xi x y | _,_=>true)&&true)=true:=h
 simpa using a
theorem vF(r:Nat×RV)(h4:r.1<4):∃y z,c7 r=[.int (r.1:Int),y,z]:=by
 obtain⟨k,v⟩:=r;rcases fk h4 with h | h | h | h<;>(simp only at h;subst h;exact⟨_,_,rfl⟩)
theorem Cg{r' r:Nat×RV}(h4':r'.1<4)(h4:r.1<4)(he:jR (c7 r') (c7 r)=true):og r' r:=by
 have c:r'.1=r.1:=by
  obtain⟨y,z,e⟩:=vF r h4;obtain⟨y',z',d⟩:=vF r' h4';rw[e,d]at he;have:=yV (fD he).1;omega
 obtain⟨b,a⟩:=r';obtain⟨k,v⟩:=r;have e:b=k:=c;subst e;rcases fk h4 with h | h | h | h<;>(simp only at h;subst h)
 ·have:=fD (show jR [.int 0,.str (tx a.sg),.str ""] [.int 0,.str (tx v.sg),.str ""]=true from he)
  exact⟨rfl,λ_=>cN (jo this.2.1),λh=>q0Q rfl h,λh=>(by rcases h with h | h<;>cases h),λh=>(by cases h)⟩
 ·have:=fD (show jR [.int 1,.str (tx a.o1),.str (tx a.o2)] [.int 1,.str (tx v.o1),.str (tx v.o2)]=true from he)
  exact⟨rfl,λh=>(by cases h),λ_=>cN (jo this.2.1),λ_=>cN (jo this.2.2),λh=>(by cases h)⟩
 ·have:=fD (show jR [.int 2,.str (tx a.o1),.str (tx a.o2)] [.int 2,.str (tx v.o1),.str (tx v.o2)]=true from he)
  exact⟨rfl,λh=>(by cases h),λ_=>cN (jo this.2.1),λ_=>cN (jo this.2.2),λh=>(by cases h)⟩
 ·have:=fD (show jR [.int 3,.str (tx a.o1),.int a.t] [.int 3,.str (tx v.o1),.int v.t]=true from he)
  exact⟨rfl,λh=>(by cases h),λ_=>cN (jo this.2.1),λh=>(by rcases h with h | h<;>cases h),λ_=>yV this.2.2⟩
structure SI where
 nm:List Nat
 p:aE
 c:Int
structure FI where
 a:Addr
 v:V
 lp:Addr
 x:SI
def FI.at(z:FI)(H:Hp):Prop:=H z.a=some (.tup [z.v,.str (tx z.x.nm),.ref z.lp,.int z.x.c])/\True/\H z.lp=some (.lst (av z.x.p))/\z.x.p≠[]
theorem FI.at.up{z:FI}(h:z.at H)(s:ax H H'):z.at H':=⟨s _ _ h.1,trivial,s _ _ h.2.2.1,h.2.2.2⟩
def eM(l:Addr)(H H':Hp):Prop:=∀y u,y≠l->H y=some u->H' y=some u
theorem eM.of(s:ax H H'):eM l H H':=λy u _ e=>s y u e
theorem eM.trans{H1 H2:Hp}(a:eM l H H1)(b:eM l H1 H2):eM l H H2:=λy u n e=>b y u n (a y u n e)
theorem eM.put:eM l H (aD H l o):=λy u n e=>by rw[ar n];exact e
theorem eM.tups(s:eM l H H'){as:MA}(hl:H l=some (.lst (as.map V.ref))):D2 H H':=λb xs h=>s b _ (λz=>by rw[z,hl]at h;cases h) h
theorem FI.at.keep{z:FI}{as:MA}(h:z.at H)(hl:H l=some (.lst (as.map V.ref)))(s:eM l H H'):z.at H':=
 ⟨s.tups hl _ _ h.1,trivial,s _ _ (Ck hl h.2.2.1 h.2.2.2) h.2.2.1,h.2.2.2⟩
structure HW(p:aE)(r c:Nat):Prop where
 p6:dQ p r c
theorem HW.pic{α:Prop}(h:HW p r c)(_:α):dQ p r c:=h.p6
structure Cr(rs:Yaa)(p:aE)(lim:Int)(x:SI):Prop where
 sd:∃r c,HW x.p r c
 nm:x.nm∈p
 le:x.c<=lim
 rn:0<rs.length
inductive Nx(r:Nat×RV):List SI->aE->Prop
 |cell:r.1=0->Nx r [] [r.2.sg]
 |turn {x:SI}:r.1=3->x.nm=r.2.o1->Nx r [x] (turned x.p r.2.t.toNat)
 |pair {x y:SI} {pc:aE}:(r.1=1\/r.1=2)->x.nm=r.2.o1->y.nm=r.2.o2->rY r.1 r.2 [x.p,y.p]=some pc->Nx r [x,y] pc
theorem Nx.ne{pc:aE}(h:Nx r ys pc):ys.length<=2:=by cases h<;>simp
structure GS(H:Hp)(p:aE)(sg:Mx)(lim:Int)(lr ls:Addr)(ts:MA)(rs:Yaa)(zs:List FI):Prop where
 rows:gi H lr ts rs
 ro:∀r∈rs,i4 p sg r
 st:H ls=some (.lst (zs.map λz=>V.ref z.a))
 at_:∀z∈zs,z.at H
 good:∀z∈zs,Cr rs p lim z.x
 ne:lr≠ls
theorem GS.up{lim:Int}{lr ls:Addr}(g:GS H p sg lim lr ls ts rs zs)(s:ax H H'):GS H' p sg lim lr ls ts rs zs:=
 ⟨g.rows.up s,g.ro,s _ _ g.st,λz hz=>(g.at_ z hz).up s,g.good,g.ne⟩
theorem GS.st'{lim:Int}{lr ls:Addr}(g:GS H p sg lim lr ls ts rs zs):H ls=some (.lst ((zs.map FI.a).map V.ref)):=by rw[LQ];exact g.st
theorem GS.row{lim:Int}{lr ls:Addr}(g:GS H p sg lim lr ls ts rs zs){t:Addr}{r:Nat×RV}(ht:H t=some (.tup (fQ r)))(hr:i4 p sg r):GS (aD H lr (.lst (ts.map V.ref++[V.ref t]))) p sg lim lr ls (ts++[t]) (rs++[r]) zs:=
 ⟨g.rows.app ht,λx hx=>by rcases LP.mp hx with h | h;exact g.ro x h;rw[LD.mp h];exact hr,by rw[ar g.ne.symm];exact g.st,λz hz=>(g.at_ z hz).keep g.rows.1 eM.put,λz hz=>⟨(g.good z hz).sd,(g.good z hz).nm,(g.good z hz).le,by simp⟩,g.ne⟩
theorem GS.item{lim:Int}{lr ls:Addr}(g:GS H p sg lim lr ls ts rs zs){z:FI}(hz:z.at H)(hg:Cr rs p lim z.x):GS (aD H ls (.lst (zs.map (λz=>V.ref z.a)++[V.ref z.a]))) p sg lim lr ls ts rs (zs++[z]):=by
 have b:eM ls H (aD H ls (.lst (zs.map (λz=>V.ref z.a)++[V.ref z.a]))):=eM.put;refine⟨⟨b _ _ g.ne g.rows.1,g.rows.2.1,λi t r e d=>b.tups g.st' _ _ (g.rows.2.2 i t r e d)⟩,g.ro,by rw[ae,LO];rfl,λy c=>?_,λy c=>?_,g.ne⟩
 ·rcases LP.mp c with h | h
  ·exact(g.at_ y h).keep g.st' b
  ·rw[LD.mp h];exact hz.keep g.st' b
 ·rcases LP.mp c with h | h
  ·exact g.good y h
  ·rw[LD.mp h];exact hg
def C_(lr ls:Addr)(H H':Hp):Prop:=∀y u,y≠lr->y≠ls->H y=some u->H' y=some u
abbrev jP:Stmt:=eY 75
inductive mJ(vs:List V)(H:Hp)(Q:VK)(_E:XK):Prop
 |mk (a b:Addr) (p q:aE) (r c r' c':Nat) (sd:Bool) (mo:Int) (_:vs=[.ref a,.ref b,.bl sd,.int mo]) (_:H a=some (.lst (av p))) (_:H b=some (.lst (av q))) (_:dQ p r c) (_:dQ q r' c') (_:mo<=6) (_:(∀pc,(∀v:RV,rY (if sd then 1 else 2) v [p,q]=some pc)->fM H pc Q)) (_:∀H',(mo=6->∀v:RV,rY (if sd then 1 else 2) v [p,q]=none)->ax H H'->Q .non H')
theorem vD:aC ["_law_one","_law_other","_law_side","_law_most"] ["_law_one","_law_other","_law_side","_law_most"] (ao jP):=by walk_at "c"
theorem vb{f:Addr}(F:cZ K "_law_joined" "_law_joined" jP f fd)(nb:NB mg):↑aY 1 f fd ["_law_one","_law_other","_law_side","_law_most"] mJ:=by
 have sc:=vD;walk_at "f"
 ·obtain⟨a,b,p,q,r,c,r',c',C,mo,rfl,I,G,j,g,hmo,a2,no⟩:=h
  have hp:=j.rc;have hq:=g.rc;have:=j.r6;have:=j.c6;have:=g.r6;have:=g.c6;have L:=bb hp j.r0;have J:=bb hq g.r0;refine⟨_,(ad (bM (PW.pt (ge (eU (al 2) λ_=>rfl) (ge (aK dN (aF bf rfl nb.len bi (aa (al 0) ac)) (aF bf rfl nb.len bi (aa (al 1) ac)) (aZ _)) (fT (aK (bu.m0 iw) (az (bu.m0 bP) (aF aV rfl nb.len bi (aa (aM bD (al 0) aj (λ_ _=>rfl)) ac)) (aF aV rfl nb.len bi (aa (aM bD (al 1) aj (λ_ _=>rfl)) ac))) (al 3) (aZ _))))))
   (ai (aG (bS ["_law_left","_law_right"] [] rfl (bA.of (by kernel_rfl)) (by kernel_rfl) (FQ rfl nb.zip (aa (al 0) (aa (al 1) ac)))
    (λ_ _ _ _=>(kG (K:=K) (n:=2) rfl rfl (aW (au (i:=0) (by show(["_law_left","_law_right"]:List Str).Nodup;decide +kernel) rfl (Or.inl rfl)) (aW (au (i:=1) (by show(["_law_left","_law_right"]:List Str).Nodup;decide +kernel) rfl (Or.inl rfl)) cW)))) (λ_ _ _ _=>bT) (λ_ _ _ _=>(az dF (al 0) (al 1))))))
   aR)
   (ad (bM (PW.pt (ge (i7 (eU (al 2) λ_=>rfl)) (ge (aK dN (aF aV rfl nb.len bi (aa (aM bD (al 0) aj (λ_ _=>rfl)) ac)) (aF aV rfl nb.len bi (aa (aM bD (al 1) aj (λ_ _=>rfl)) ac)) (aZ _)) (fT (aK (bu.m0 iw) (az (bu.m0 bP) (aF bf rfl nb.len bi (aa (al 0) ac)) (aF bf rfl nb.len bi (aa (al 1) ac))) (al 3) (aZ _))))))
   (ai (aG (az yh (b7 b_ rfl nb.list dR (aa (al 0) ac)) (b7 b_ rfl nb.list dR (aa (al 1) ac)))))
   aR)
   (ai (aG jX)))),?_⟩
  obtain⟨a3,a0⟩:=kK hp j.r0;obtain⟨Z,u⟩:=kK hq g.r0;have m:p.length=r:=hp.1;have O:q.length=r':=hq.1;have h0:ip (av p) 0=some (V.str (tx p[0])):=(show ip _ ((0:Nat):Int)=_ from bH (bC a3));have a1:ip (av q) 0=some (V.str (tx q[0])):=(show ip _ ((0:Nat):Int)=_ from bH (bC Z));refine ak λN1 h1=>?_;have cV:(C=true->mo=6->∀v:RV,rY (if C then 1 else 2) v [p,q]=none)->N1 [some (V.ref a),some (V.ref b),some (V.bl C),some (V.int mo)] H:=λhn=>by
   refine h1 _ _ ?_;clear h1;refine ak λN1 h1=>?_;have cV:(mo=6->∀v:RV,rY (if C then 1 else 2) v [p,q]=none)->N1 [some (V.ref a),some (V.ref b),some (V.bl C),some (V.int mo)] H:=λhn=>by
    refine h1 _ _ ?_;ext;exact no H hn (ax.refl _)
   clear h1;ext;cases C with
   |true=>rw[q06 nofun];exact cV (hn rfl)
   |false=>
    rw[q07 rfl];refine⟨_,aI.of I,_,h0,_,rfl,by rw[aw];exact am ⋯,_,aI.of G,_,a1,_,rfl,by rw[aw];exact am ⋯,?_⟩;rw[aw,aw,a0,u];refine dP (λt1=>?_) (λt9=>cV (λh6 v=>by show(if(p.headD []).length=(q.headD []).length/\p.length+q.length<=6 then some (p++q) else none)=none;rw[L,J,q06 ⋯]));refine⟨_,aI.of I,_,aI.of G,?_⟩;rw[aq,aq,m,O];refine dP (λt2=>?_) (λt9=>cV (λh6 v=>by show(if(p.headD []).length=(q.headD []).length/\p.length+q.length<=6 then some (p++q) else none)=none;rw[L,J,q06 ⋯]));refine⟨_,.inl (aI.of I),λl hl=>⟨_,.inl (aI.of (af hl _ _ G)),λl1 Y=>⟨_,af Y _ _ ae,_,ae,?_,λl2 U=>?_⟩⟩⟩
    ·rw[aq,aq];exact am ⋯
    have s3:=(af (o:=.lst (av p)) hl).trans (af (o:=.lst (av q)) Y);refine a2 (p++q) (λv=>?_) l2 _ (lm s3 U) ?_ (s3.trans (af U))
    ·show(if(p.headD []).length=(q.headD []).length/\p.length+q.length<=6 then some (p++q) else none)=some (p++q)
     rw[L,J,q07 ⋯]
    ·rw[ae];unfold av;rw[LO]
  clear h1;ext;cases C with
  |false=>rw[q06 nofun];exact cV (λh=>nomatch h)
  |true=>
   rw[q07 rfl];refine⟨_,aI.of I,_,aI.of G,?_⟩;rw[aq,aq,m,O];refine dP (λt1=>?_) (λt9=>cV (λ_ h6 v=>by show(if p.length=q.length/\(p.headD []).length+(q.headD []).length<=6 then some (kZ p q) else none)=none;rw[L,J,q06 ⋯]));refine⟨_,aI.of I,_,h0,_,rfl,by rw[aw];exact am ⋯,_,aI.of G,_,a1,_,rfl,by rw[aw];exact am ⋯,?_⟩;rw[aw,aw,a0,u];refine dP (λt2=>?_) (λt9=>cV (λ_ h6 v=>by show(if p.length=q.length/\(p.headD []).length+(q.headD []).length<=6 then some (kZ p q) else none)=none;rw[L,J,q06 ⋯]));refine⟨_,aI.of I,_,aI.of G,?_⟩;have R:q.length=r:=by omega
   have S:(kZ p q).length=r:=by unfold kZ;rw[LC,q0N,m,R,Nat.min_self]
   refine BJ (xs:=av p) (ys:=av q) (n:=r) (by rw[aq,aq,m,R,Nat.min_self]) (λi d σ M=>ax H M/\d=av ((kZ p q).take i)/\i<=r/\∃y z,σ=[y,z]) ⟨λ_ _ e=>e,rfl,L3 _,_,_,rfl⟩ ?_ ?_ ?_ ?_ ?_
   ·rintro i d σ M ⟨_,rfl,hi,_⟩
    rw[aq,Me];exact aU ⋯
   ·rintro i d σ M ⟨_,_,h,_⟩
    exact h
   ·rintro i d σ M ⟨B,_⟩
    exact⟨aI.of (B _ _ I),aI.of (B _ _ G)⟩
   ·rintro i x y d σ M T hx hy ⟨B,rfl,_,y1,z1,rfl⟩ hT
    have hi:i<p.length:=by have:=(LA.mp hx).1;rwa [aq]at this
    have D:i<q.length:=by omega
    rw[bC hi]at hx;rw[bC D]at hy;cases hx;cases hy;have hrow:=hp.2 _ (LK hi);have hrow':=hq.2 _ (LK D);ext;refine⟨_,cK.of ae,rfl,_,_,rfl,_,_,rfl,rfl,?_⟩;have e:(kZ p q)[i]?=some (p[i]++q[i]):=by
     unfold kZ;simp[List.getElem?_zip_eq_some,hi,D];exact⟨_,_,⟨rfl,rfl⟩,rfl⟩
    have et:tx p[i]++tx q[i]=tx (p[i]++q[i]):=by
     show(⟨_++_⟩:Str)=⟨_⟩;simp[tx]
    refine⟨_,rfl,_,rfl,by rw[aw,aw];exact am ⋯,B.trans (af hT),?_,⋯⟩;rw[et,q0E,e];exact(cQ _ _).symm
   ·rintro d σ M ⟨B,rfl,_⟩ l hl
    refine a2 (kZ p q) (λv=>?_) l _ (B.free hl) ?_ (B.trans (af hl))
    ·show(if p.length=q.length/\(p.headD []).length+(q.headD []).length<=6 then some (kZ p q) else none)=some (kZ p q)
     rw[L,J,q07 ⋯]
    ·rw[ae,<- S,Md]
abbrev lX:Stmt:=eY 76
inductive pW(vs:List V)(H:Hp)(Q:VK)(_E:XK):Prop
 |mk (l t:Addr) (b:Int) (ts:MA) (rs:Yaa) (r:Nat×RV) (_:vs=[.ref l,.ref t,.int b]) (_:gi H l ts rs) (_:(∀x∈rs,x.1<4)) (_:H t=some (.tup (fQ r))) (_:r.1<4) (_:rs.length<24) (_:(∀(k:Nat) r' H',0<b->rs[k]?=some r'->og r' r->ax H H'->Q (.int (k:Int)) H')) (_:(∀H0,ax H H0->Q (.int (rs.length:Int)) (aD H0 l (.lst (ts.map V.ref++[V.ref t])))))
theorem x_:aC ["_law_rules","_law_wanted","_law_again","_law_some"] ["_law_rules","_law_wanted","_law_again"] (ao lX):=by walk_at "c"
theorem xl{f:Addr}(F:cZ K "_law_noted" "_law_noted" lX f fd)(nb:NB mg):↑aY 1 f fd ["_law_rules","_law_wanted","_law_again"] pW:=by
 have sc:=x_;walk_at "f"
 ·obtain⟨l,t,b,p,j,r,rfl,c,a4,ht,a1,hl24,q1,q3⟩:=h
  have hu:=hr.units;refine⟨_,(ad (gO (i:=3) ["_law_k","_law_rule_here"] [1] sc.nd rfl (Or.inl rfl) rfl  rfl (bA.of (by kernel_rfl)) (by kernel_rfl) (nR rfl nb.enumerate (aa (al 0) ac))
    (λ_ _ _ _=>(kG (K:=K) (n:=2) rfl rfl (aW (au (i:=0) (by show(["_law_k","_law_rule_here","_law_wanted"]:List Str).Nodup;decide +kernel) rfl (Or.inl rfl)) (aW (au (i:=1) (by show(["_law_k","_law_rule_here","_law_wanted"]:List Str).Nodup;decide +kernel) rfl (Or.inl rfl)) cW)))) (λ_ _ _ _=>(nV (aK (Ei (K:=K) rfl hu) (cU (yH (K:=K) rfl) (al 1) (cr aj) e_) (cU (yH (K:=K) rfl) (al 2) (cr aj) e_) (aZ _)))) (λ_ _ _ _=>(al 0)))
   (ad (bM (PW.pt (ge (aK (bu.m0 k8) (al 2) aj (aZ _)) (fT (aK (bu.m0 k8) (aF bf rfl nb.len bi (aa (al 3) ac)) aj (aZ _)))))
   (ai (aG (aM bD (al 3) (az (bu.m1 bh) (az (bu.m0 i') (al 2) aj) (aF bf rfl nb.len bi (aa (al 3) ac))) (λ_ _=>rfl))))
   aR)
   (ad (a_ (dy PySem.F.plainAttrs_list PySem.F.slot_list_append PySem.F.type_list_append bV (al 0) (aa (al 1) ac)))
   (ai (aG (az (bu.m0 i') (aF bf rfl nb.len bi (aa (al 0) ac)) aj)))))),?_⟩
  symm;refine⟨_,aI.of c.1,?_⟩;refine pB (as:=p.zip j) (emb:=λx=>V.ref x.1) (f:=λi x=>if jR (c7 x.2) (c7 r)=true then some (V.int (i:Int)) else none) (λσ=>∃x y,σ=[x,y,some (V.ref t)]) ⟨_,_,rfl⟩ (λD s'=>?_) (by rw[q0N,c.2.1];omega) ?_ ?_
  ·have z1:(p.zip j).map (λx=>V.ref x.1)=p.map V.ref:=by
    have e:=LQ (f:=Prod.fst) (g:=V.ref) (l:=p.zip j);rw[List.map_fst_zip (by have:=c.2.1;omega)]at e;exact e.symm
   rw[z1];exact aI.of (s' _ _ c.1)
  ·rintro i ⟨C,a⟩ Y σ D T M1 M0 ⟨y,z,rfl⟩ L hT k1 k0
   obtain⟨Z,m⟩:=List.getElem?_zip_eq_some.mp Y;ext;have a0:=L _ _ (c.2.2 i C a Z m);have S:=af (o:=.tup [V.int (i:Int),V.ref C]) hT;have J:aD D T (.tup [V.int (i:Int),V.ref C]) T=some (.tup [V.int (i:Int),V.ref C]):=ae;generalize aD D T (.tup [V.int (i:Int),V.ref C])=H1 at S J ⊢;have G:=L.trans S;refine⟨_,cK.of J,rfl,_,_,rfl,_,_,rfl,rfl,C,rfl,_,cK.of (S _ _ a0),vc a,λc1 a6=>?_⟩;rw[qV];have sC:=af (o:=.tup (c7 a)) a6;refine⟨_,cK.of (sC _ _ (G _ _ ht)),vc r,λc2 a5=>?_⟩;rw[qV];have sD:=af (o:=.tup (c7 r)) a5;refine⟨_,cK.of (sD _ _ ae),_,cK.of ae,pN a,pN r,?_⟩;have sE:=(G.trans sC).trans sD
   by_cases B:jR (c7 a) (c7 r)=true
   ·rw[q07 B]
    exact k1 _ _ _ (q07 B) sE ⟨_,_,rfl⟩
   ·rw[q06 B];exact k0 _ _ (q06 B) sE ⟨_,_,rfl⟩
  ·intro D L O a2
   have q:∀y∈(p.zip j).zipIdx.filterMap (λx=>if jR (c7 x.1.2) (c7 r)=true then some (V.int (x.2:Int)) else none),∃(k:Nat) (a:Nat×RV),y=V.int (k:Int)/\j[k]?=some a/\og a r:=λy hy=>by
    obtain⟨⟨⟨t',a⟩,k⟩,Y,hf⟩:=List.mem_filterMap.mp hy;have U:=List.mem_zipIdx_iff_getElem?.mp Y;obtain⟨_,m⟩:=List.getElem?_zip_eq_some.mp U
    by_cases B:jR (c7 a) (c7 r)=true
    ·have d:(if jR (c7 a) (c7 r)=true then some (V.int (k:Int)) else none)=some y:=hf
     rw[q07 B]at d;exact⟨k,a,(q0S d).symm,m,Cg (a4 _ (LG m)) a1 B⟩
    ·have d:(if jR (c7 a) (c7 r)=true then some (V.int (k:Int)) else none)=some y:=hf
     rw[q06 B]at d;cases d
   have a3:((p.zip j).zipIdx.filterMap (λx=>if jR (c7 x.1.2) (c7 r)=true then some (V.int (x.2:Int)) else none)).length<=24:=by
    refine L9 (List.length_filterMap_le ..) ?_;rw[List.length_zipIdx,q0N];omega
   generalize(p.zip j).zipIdx.filterMap (λx=>if jR (c7 x.1.2) (c7 r)=true then some (V.int (x.2:Int)) else none)=ys at q a3 ⊢;refine h1 _ _ ?_;clear h1;have M:=L.trans (af (o:=.lst ys) a2);have R:aD D O (.lst ys) O=some (.lst ys):=ae;generalize aD D O (.lst ys)=H1 at M R ⊢;refine ak λN1 h1=>?_;have dL:N1 [some (V.ref l),some (V.ref t),some (V.int b),some (V.ref O)] H1:=by
    refine h1 _ _ ?_;ext;have I:=M _ _ c.1;have u:(p.map V.ref).length=j.length:=by rw[LC];exact c.2.1
    refine⟨.inl ⟨rfl,_,aI.of I⟩,_,I,?_,_,aI.of ae,?_⟩
    ·rw[u];exact aU ⋯
    ·have:=q3 H1 M
     rw[LZ,u];rw[show(((j.length+[V.ref t].length:Nat):Int)-1)=(j.length:Int) by simp];exact this
   ext;refine gG (λhb=>⟨_,aI.of R,gG (λhn=>?_) (λ_=>dL)⟩) (λ_=>dL);obtain⟨v,hv,ev⟩:=tQ (xs:=ys) (Mp (b-1) (show(ys.length:Int)≠0 by omega)) (Mq _ ⋯);obtain⟨k,a,rfl,hk,has⟩:=q v hv;exact⟨_,aI.of R,hn,_,aI.of R,_,ev,q1 k a _ hb hk has M⟩
abbrev sJ:Stmt:=eY 77
inductive kC(vs:List V)(H:Hp)(Q:VK)(_E:XK):Prop
 |mk (lr ls tw la tm lq:Addr) (b:Int) (ts:MA) (rs:Yaa) (zs ys:List FI) (r:Nat×RV) (pc:aE) (p:aE) (sg:Mx) (lim:Int) (_:vs=[.ref lr,.ref ls,.ref tw,.int b,.ref la,.ref tm]) (_:GS H p sg lim lr ls ts rs zs) (_:H tw=some (.tup (fQ r))) (_:i4 p sg r) (_:rs.length<24) (_:zs.length<=100) (_:H la=some (.lst (ys.map λz=>V.ref z.a))) (_:la≠lr) (_:la≠ls) (_:(∀y∈ys,y∈zs)) (_:H tm=some (.tup [.ref lq,.int lim])) (_:H lq=some (.lst (av pc))) (_:pc≠[]) (_:Nx r (ys.map FI.x) pc) (_:(∃a b,dQ pc a b)) (_:∀H' ts' rs' zs',GS H' p sg lim lr ls ts' rs' zs'->C_ lr ls H H'->rs'.length<=rs.length+1->zs'.length<=zs.length+1->(zs≠[]\/(b<=0/\r.1=0/\r.2.c<=lim)->zs'≠[])->Q .non H')
theorem Bz:aC ["_law_rules","_law_stock","_law_wanted","_law_again","_law_parts","_law_made","_law_k","_law_cost"] ["_law_rules","_law_stock","_law_wanted","_law_again","_law_parts","_law_made"] (ao sJ):=by walk_at "c"
theorem yR(r:Nat×RV):ip (fQ r) 0=some (.str (tx r.2.n))/\ip (fQ r) 1=some (.int r.2.c):=by
 obtain⟨k,v⟩:=r
 match k with
 |0=>exact⟨rfl,rfl⟩
 |1=>exact⟨rfl,rfl⟩
 |2=>exact⟨rfl,rfl⟩
 |k+3=>exact⟨rfl,rfl⟩
theorem Nx.cell0{pc:aE}(h:Nx r ys pc)(h1:r.1=0):ys=[]:=by
 cases h with
 |cell _=>rfl
 |turn e=>rw[h1]at e;cases e
 |pair e=>rw[h1]at e;rcases e with e | e<;>cases e
theorem CO{f:Addr}(F:cZ K "_law_put" "_law_put" sJ f fd)(nb:NB mg)(ybu:mg "sum"=none)(zFb:↑dk 1 "_law_noted" ["_law_rules","_law_wanted","_law_again"] pW):↑aY 2 f fd ["_law_rules","_law_stock","_law_wanted","_law_again","_law_parts","_law_made"] kC:=by
 have sc:=Bz;walk_at "f"
 ·obtain⟨Z,ls,tw,la,tm,lq,b,ts,rs,zs,C,r,pc,p,sg,a0,rfl,g,a2,a5,c4,hz100,c1,b1,nls,b3,b5,a9,a6,nx,h6,q⟩:=h
  have hu:=hr.units;refine⟨_,(ad (q01 6 sc.nd (aH zFb (hr.mono nofun) rfl aL (aa (al 0) (aa (al 2) (aa (al 3) ac)))))
   (ad (q01 7 sc.nd (az (bu.m0 bP) (aM aP (aM bD (al 0) (al 6) (λ_ _=>rfl)) aj (λ_ _=>rfl)) (aF (Av rfl) rfl ybu Gq (aa (bS ["_law_part"] [] rfl (bA.of (by kernel_rfl)) (by kernel_rfl) (aS (al 4))
    (λ_ _ _ _=>(au (i:=0) (by show(["_law_part"]:List Str).Nodup;decide +kernel) rfl (Or.inl rfl))) (λ_ _ _ _=>bT) (λ_ _ _ _=>(aM (zj (K:=K) rfl) (al 0) aj (λ_ _=>rfl)))) ac))))
   (ai (bM (aK (bu.m0 iw) (al 7) (aM aP (al 5) aj (λ_ _=>rfl)) (aZ _))
   (ai (a_ (dy PySem.F.plainAttrs_list PySem.F.slot_list_append PySem.F.type_list_append bV (al 1) (aa (bz (aa (az Ek (bz (aa (al 6) ac)) (b7 pZ rfl nb.tuple Cz (aa (bS ["_law_part"] [] rfl (bA.of (by kernel_rfl)) (by kernel_rfl) (aS (al 4))
    (λ_ _ _ _=>(au (i:=0) (by show(["_law_part"]:List Str).Nodup;decide +kernel) rfl (Or.inl rfl))) (λ_ _ _ _=>bT) (λ_ _ _ _=>(aM (zj (K:=K) rfl) (al 0) aj (λ_ _=>rfl)))) ac))) (aa (aM aP (aM bD (al 0) (al 6) (λ_ _=>rfl)) aj (λ_ _=>rfl)) (aa (aM aP (al 5) aj (λ_ _=>rfl)) (aa (al 7) ac))))) ac))))
   aR)))),?_⟩
  refine ak λN1 h1=>?_;have go:∀(k:Nat) (d:Nat×RV) (B:MA) (j:Yaa) (H1:Hp),GS H1 p sg a0 Z ls B j zs->j[k]?=some d->og d r->j.length<=rs.length+1->eM Z H H1->(b<=0->d=r)->N1 [some (V.ref Z),some (V.ref ls),some (V.ref tw),some (V.int b),some (V.ref la),some (V.ref tm),some (V.int (k:Int)),none] H1:=by
   intro k d B j H1 M S has L hE a7;refine h1 _ _ ?_;clear h1;have m:=hE _ _ b1 c1;have I:=hE.tups g.rows.1 _ _ b5;have a8:=hE _ _ (Ck g.rows.1 a9 a6) a9;have b4:=nx.ne;rw[LC]at b4;obtain⟨tk,a3⟩:∃tk,B[k]?=some tk:=⟨_,Lz (by have:=(LA.mp S).1;have:=M.rows.2.1;omega)⟩;have b0:ip (B.map V.ref) (k:Int)=some (V.ref tk):=bH (by rw[LF,a3];rfl);have J:=M.rows.2.2 k tk d a3 S;symm;have a1:∀y∈C,y.at H1:=λy hy=>M.at_ y (b3 y hy);refine⟨_,aI.of M.rows.1,_,b0,_,rfl,_,cK.of J,_,(yR d).2,⟨_,aI.of m⟩,?_⟩;refine fw (as:=C) (emb:=λz=>V.ref z.a) (f:=λz=>some (V.int z.x.c)) (λσ=>∃x,σ=[x]) ⟨_,rfl⟩ (λH' s=>aI.of (s _ _ m)) ⋯ ?_ ?_
   ·rintro i z hz σ H' M1 M0 ⟨y,rfl⟩ U k1 k0
    ext;exact⟨_,cK.of (U _ _ (a1 z (LG hz)).1),_,rfl,k1 _ _ _ rfl U ⟨_,rfl⟩⟩
   intro H2 s2 l hl;rw[nN];refine⟨C.map λz=>z.x.c,by rw[LQ];exact aI.of ae,_,rfl,h1 _ _ ?_⟩;clear h1;have Y:=s2.trans (af (o:=.lst (C.map λz=>V.int z.x.c)) hl);generalize aD H2 l (.lst (C.map λz=>V.int z.x.c))=H3 at Y ⊢;clear s2 hl H2;have g3:=M.up Y;have a4:(C.map λz=>z.x.c).sum=((C.map FI.x).map SI.c).sum:=by rw[LQ];rfl
   rw[a4];generalize R:d.2.c+((C.map FI.x).map SI.c).sum=cost;have hB:∀{H4},ax H3 H4->C_ Z ls H H4:=λs4 y u n1 _ e=>s4 _ _ (Y _ _ (hE y u n1 e));ext;refine⟨_,cK.of (Y _ _ I),_,rfl,_,rfl,?_⟩;refine dP (λt1=>?_) (λt1=>?_)
   ·refine⟨.inl ⟨rfl,_,aI.of g3.st⟩,am nofun,λp1 b8=>?_⟩
    have s4:=af (o:=.tup [V.int (k:Int)]) b8;have e4:aD H3 p1 (.tup [V.int (k:Int)]) p1=some (.tup [V.int (k:Int)]):=ae;generalize aD H3 p1 (.tup [V.int (k:Int)])=H4 at s4 e4 ⊢;have D:=Y.trans s4;refine⟨⟨_,aI.of (D _ _ m)⟩,?_⟩;refine fw (as:=C) (emb:=λz=>V.ref z.a) (f:=λz=>some z.v) (λσ=>∃x,σ=[x]) ⟨_,rfl⟩ (λH' s=>aI.of (s _ _ (D _ _ m))) ⋯ ?_ ?_
    ·rintro i z hz σ H' M1 M0 ⟨y,rfl⟩ U k1 k0
     ext;exact⟨_,cK.of (U _ _ (D _ _ (a1 z (LG hz)).1)),_,rfl,k1 _ _ _ rfl U ⟨_,rfl⟩⟩
    intro H5 s5 l hl;rw[nN];refine⟨_,.inl ⟨aI.of ae,λl4 c2=>?_⟩⟩;have sB:=(af (o:=.lst (C.map λz=>z.v)) hl).trans (af (o:=.tup (C.map λz=>z.v)) c2);refine An (sB _ _ (s5 _ _ e4)) ae (by simp) (by simp;omega) λT H6 htr s6=>?_;have G:=D.trans ((s5.trans sB).trans s6);have g6:=M.up G;refine⟨_,aI.of g6.rows.1,_,b0,_,rfl,_,cK.of (G _ _ J),_,(yR d).1,_,cK.of (G _ _ I),_,rfl,am nofun,λnp c0=>?_⟩;have s7:=af (o:=.tup [V.ref T,V.str (tx d.2.n),V.ref lq,V.int cost]) c0;have e7:aD H6 np (.tup [V.ref T,V.str (tx d.2.n),V.ref lq,V.int cost]) np=some (.tup [V.ref T,V.str (tx d.2.n),V.ref lq,V.int cost]):=ae;generalize aD H6 np (.tup [V.ref T,V.str (tx d.2.n),V.ref lq,V.int cost])=H7 at s7 e7 ⊢;have O:=G.trans s7;have g7:=M.up O;have b2:FI.at ⟨np,V.ref T,lq,⟨d.2.n,pc,cost⟩⟩ H7:=⟨e7,trivial,O _ _ a8,a6⟩;have gd:Cr j p a0 ⟨d.2.n,pc,cost⟩:=⟨let ⟨a,b,h⟩:=h6;⟨a,b,⟨h⟩⟩,(M.ro _ (LG S)).n,t1,by have:=(LA.mp S).1;omega⟩;refine⟨_,g7.st,by rw[LC];exact aU ⋯,?_⟩;exact q _ B j _ (g7.item b2 gd) (λy u n1 n2 e=>by rw[ar n2];exact O _ _ (hE y u n1 e)) L (by simp) (λ_=>by simp)
   ·refine q H3 B j zs g3 (hB (ax.refl _)) L ⋯ λh=>?_
    rcases h with h | ⟨h0,h1,h2⟩
    ·exact h
    ·refine q0Q ?_ t1
     have er:=a7 h0;subst er;rw[<- R];rw[nx.cell0 h1]
     simpa using h2
  clear h1;ext;refine⟨Z,tw,b,ts,rs,r,rfl,g.rows,λx hx=>(g.ro x hx).good.k4,a2,a5.good.k4,c4,λk d H1 c3 S has s1=>?_,λH0 s0=>?_⟩
  ·exact go k d ts rs H1 (g.up s1) S has ⋯ (.of s1) (λe=>q0Q c3 ⋯)
  ·exact go rs.length r _ _ _ ((g.up s0).row (s0 _ _ a2) a5) (by simp) (og.rfl' r) (by simp) ((eM.of s0).trans eM.put) (λ_=>rfl)
abbrev hV:Stmt:=eY 78
inductive jI(vs:List V)(H:Hp)(Q:VK)(_E:XK):Prop
 |mk (re co dear side lim:Int) (nm:Mx) (td lb:Addr) (p:aE) (sg:Mx) (_:vs=[.int re,.str (tx nm),.int co,.ref td]) (_:H td=some (.tup [.str (tx sg),.ref lb,.int dear,.int side,.int lim])) (_:H lb=some (.lst (av p))) (_:p.length=4) (_:(∀r∈p,di r=true)) (_:c8 sg=true) (_:nm∈p) (_:1<=co) (_:co<=9) (_:∀t r H',H' t=some (.tup (fQ r))->i4 p sg r->ax H H'->Q (.ref t) H')
theorem qy:aC ["_law_rest","_law_name","_law_cost","_law_drawn","_law_signs_here","_law_names_here","_law_one"] ["_law_rest","_law_name","_law_cost","_law_drawn"] (ao hV):=by walk_at "c"
theorem qG{f:Addr}(F:cZ K "_law_any_rule" "_law_any_rule" hV f fd)(nb:NB mg):↑aY 1 f fd ["_law_rest","_law_name","_law_cost","_law_drawn"] jI:=by
 have sc:=qy;walk_at "f"
 ·obtain⟨u,M,dear,side,lim,i,td,lb,p,r,rfl,Y,J,hp4,m,G,b,c1,c9,q⟩:=h
  have hu:=hr.units;refine⟨_,(ad (sU (cU DS (al 3) e_ (cr aj)) (fX (n:=2) rfl (aW (q02 4 sc.nd) (aW (q02 5 sc.nd) cW))))
   (ad (q01 6 sc.nd (aM bD (al 5) (az (bu.m1 bh) (az (bu.m1 br) (al 0) aj) aj) (λ_ _=>rfl)))
   (ad (bM (aK dN (az (bu.m1 bh) (al 0) aj) aj (aZ _))
   (ai (aG (bz (aa (al 1) (aa (al 2) (bL (aa (aM hX (al 4) (az (bu.m1 bh) (az (bu.m1 br) (al 0) aj) (aF aV rfl nb.len bi (aa (al 4) ac))) (λ_ _=>rfl)) (eN ac))))))))
   aR)
   (ad (bM (aK dN (az (bu.m1 bh) (al 0) aj) aj (aZ _))
   (ai (aG (bz (aa (al 1) (aa (al 2) (bL (aa (al 6) (aa (az (bu.m1 bh) (az (bu.m1 br) (al 0) aj) aj) ac))))))))
   aR)
   (ai (aG (bz (aa (al 1) (aa (al 2) (aa (az (bu.m1 bh) (al 0) aj) (aa (al 6) (aa (aM bD (al 5) (az (bu.m1 bh) (az (bu.m1 br) (al 0) aj) aj) (λ_ _=>rfl)) ac)))))))))))),?_⟩
  have hsl:=gL G;have e:∀x:Int,∃z∈p,ip (av p) (x%4)=some (V.str (tx z)):=λx=>by
   obtain⟨j,hj⟩:∃j:Nat,x%4=(j:Int):=⟨_,(Mr (Mp _ ⋯)).symm⟩;have:x%4<4:=Mq _ ⋯;exact⟨p[j]'⋯,LK _,by rw[hj];exact bH (bC ⋯)⟩
  have v:∀x:Int,∃c∈r,ip (tx r).cps.toList (x%(r.length:Int))=some c:=λx=>by
   rw[cg];exact tQ (Mp _ ⋯) (Mq _ ⋯)
  have gd:∀(k:Nat) (l o:Mx) (d:Nat) (y:Int),k<4->l∈p->o∈p->d∈r->0<=y->y<=7->i4 p r (k,⟨i,M,l,o,[d],y⟩):=λk l o d y hk h1 h2 h3 t0 t7=>by
   have g:RV.good ⟨i,M,l,o,[d],y⟩:=⟨m _ b,c1,c9,m _ h1,m _ h2,nK G h3,t0,t7⟩;exact⟨⟨hk,g,g.small⟩,b,h1,h2,d,h3,rfl⟩
  symm;refine⟨_,cK.of Y,λp2 H1 e1 C=>⟨_,e1,rfl,_,_,rfl,_,_,rfl,rfl,h1 _ _ ?_⟩⟩;grind;obtain⟨l,D,S⟩:=e (u/4);refine⟨_,aI.of (C _ _ J),_,S,h1 _ _ ?_⟩;clear h1;obtain⟨O,L,_⟩:=v 0;symm;refine gG (λk0=>?_) (λk0=>h1 _ _ ?_)
  ·clear h1
   obtain⟨d,a0,T⟩:=v (u/16);rw[aw];have I:r.length<=sizeLine:=am ⋯;refine⟨I,⋯,I,d,T,am nofun,λB a=>q B (0,⟨i,M,i,i,[d],0⟩) _ ae (gd 0 _ _ d _ nofun b b a0 nofun nofun) (C.trans (af a))⟩
  grind;refine gG (λk3=>?_) (λk3=>h1 _ _ ?_)
  ·clear h1
   refine⟨am nofun,λB a=>q B (3,⟨i,M,l,i,[O],u/16%8⟩) _ ae (gd 3 _ _ O _ nofun D b L ⋯ ⋯) (C.trans (af a))⟩
  clear h1;ext;obtain⟨o,U,R⟩:=e (u/16);obtain⟨k,hk,Z⟩:∃k:Nat,u%4=(k:Int)/\(k=1\/k=2):=⟨(u%4).toNat,⋯,⋯⟩;rw[hk];refine⟨_,aI.of (C _ _ J),_,R,am nofun,λB a=>q B (k,⟨i,M,l,o,[O],0⟩) _ (by rw[ae];rcases Z with rfl | rfl<;>rfl) (gd k _ _ O _ ⋯ D U L nofun nofun) (C.trans (af a))⟩
theorem qT(h:lC x=true):∃r c,dQ [x] r c:=⟨1,1,⟨rfl,λy hy=>by rw[LD.mp hy];exact qR h⟩,nofun,nofun,nofun,nofun⟩
abbrev pE:Stmt:=eY 79
inductive rA(vs:List V)(H:Hp)(Q:VK)(_E:XK):Prop
 |mk (lr ls td lb:Addr) (ts:MA) (rs:Yaa) (zs:List FI) (p:aE) (sg:Mx) (c dear side lim:Int) (_:vs=[.ref lr,.ref ls,.int c,.ref td]) (_:GS H p sg lim lr ls ts rs zs) (_:H td=some (.tup [.str (tx sg),.ref lb,.int dear,.int side,.int lim])) (_:H lb=some (.lst (av p))) (_:p.length=4) (_:(∀r∈p,di r=true)) (_:c8 sg=true) (_:1<=dear) (_:dear<=9) (_:side<=6) (_:rs.length<24) (_:zs.length<=100) (_:∀H' ts' rs' zs',GS H' p sg lim lr ls ts' rs' zs'->C_ lr ls H H'->rs'.length<=rs.length+1->zs'.length<=zs.length+1->(zs≠[]->zs'≠[])->Q .non H')
theorem zt:aC ["_law_rules","_law_stock","_law_cell_here","_law_drawn","_law_signs_here","_law_names_here","_law_dear","_law_side","_law_limit","_law_kind","_law_again","_law_name","_law_cost","_law_rest","_law_sign","_law_one","_law_made","_law_other","_law_way","_law_picture"] ["_law_rules","_law_stock","_law_cell_here","_law_drawn"] (ao pE):=by walk_at "c"
theorem zN{f:Addr}(F:cZ K "_law_step" "_law_step" pE f fd)(nb:NB mg)(zVa:↑dk 1 "_law_any_rule" ["_law_rest","_law_name","_law_cost","_law_drawn"] jI)(zva:↑dk 2 "_law_put" ["_law_rules","_law_stock","_law_wanted","_law_again","_law_parts","_law_made"] kC)(zvb:↑dk 1 "_law_turned" ["_law_picture","_law_t"] (mT K))(zwb:↑dk 1 "_law_joined" ["_law_one","_law_other","_law_side","_law_most"] mJ):↑aY 3 f fd ["_law_rules","_law_stock","_law_cell_here","_law_drawn"] rA:=by
 have sc:=zt;walk_at "f"
 ·obtain⟨lr,ls,td,lb,ts,rs,zs,p,sg,c,B,U,l,rfl,g,e9,f1,g2,a8,c1,hd1,hd9,g0,f2,a3,q⟩:=h
  have hu:=hr.units;refine⟨_,(ad (sU (al 3) (fX (n:=5) rfl (aW (q02 4 sc.nd) (aW (q02 5 sc.nd) (aW (q02 6 sc.nd) (aW (q02 7 sc.nd) (aW (q02 8 sc.nd) cW)))))))
   (ad (q01 9 sc.nd (az (bu.m1 bh) (al 2) aj))
   (ad (q01 10 sc.nd (az (bu.m1 bh) (az (bu.m1 br) (al 2) aj) aj))
   (ad (q01 11 sc.nd (aM bD (al 5) (az (bu.m1 bh) (az (bu.m1 br) (al 2) aj) aj) (λ_ _=>rfl)))
   (ad (q01 12 sc.nd (az (bu.m0 bP) aj (az (bu.m1 bh) (az (bu.m1 br) (al 2) aj) (al 6))))
   (ad (q01 13 sc.nd (az (bu.m1 br) (az (bu.m1 br) (al 2) aj) (al 6)))
   (ad (bM (aK dN (al 9) aj (aZ _))
   (ad (a_ (dy PySem.F.plainAttrs_list PySem.F.slot_list_append PySem.F.type_list_append bV (al 0) (aa (aH zVa (hr.mono nofun) rfl aL (aa (al 13) (aa (al 11) (aa (al 12) (aa (al 3) ac))))) ac)))
   (ai nI))
   aR)
   (ad (bM (PW.pt (vw (aK dN (al 9) aj (aZ _)) (oU (aK dN (aF bf rfl nb.len bi (aa (al 1) ac)) aj (aZ _)))))
   (ad (q01 14 sc.nd (aM hX (al 4) (az (bu.m1 bh) (al 13) (aF aV rfl nb.len bi (aa (al 4) ac))) (λ_ _=>rfl)))
   (ad (a_ (aH zva (hr.mono nofun) rfl aL (aa (al 0) (aa (al 1) (aa (bz (aa (al 11) (aa (al 12) (bL (aa (al 14) (eN ac)))))) (aa (al 10) (aa (ba ac) (aa (bz (aa (ba (aa (al 14) ac)) (aa (al 8) ac))) ac))))))))
   (ai nI)))
   aR)
   (ad (q01 15 sc.nd (aM bD (al 1) (az (bu.m1 bh) (al 13) (aF bf rfl nb.len bi (aa (al 1) ac))) (λ_ _=>rfl)))
   (ad (q01 13 sc.nd (az (bu.m1 br) (al 13) (aF bf rfl nb.len bi (aa (al 1) ac))))
   (ad (bM (aK dN (al 9) aj (aZ _))
   (ad (q01 16 sc.nd (bz (aa (aH zvb (hr.mono nofun) rfl aL (aa (aM aP (al 15) aj (λ_ _=>rfl)) (aa (az (bu.m1 bh) (al 13) aj) ac))) (aa (al 8) ac))))
   (ad (a_ (aH zva (hr.mono nofun) rfl aL (aa (al 0) (aa (al 1) (aa (bz (aa (al 11) (aa (al 12) (bL (aa (aM aP (al 15) aj (λ_ _=>rfl)) (aa (az (bu.m1 bh) (al 13) aj) ac)))))) (aa (al 10) (aa (ba (aa (al 15) ac)) (aa (al 16) ac))))))))
   (ai nI)))
   aR)
   (ad (q01 17 sc.nd (aM bD (al 1) (az (bu.m1 bh) (al 13) (aF bf rfl nb.len bi (aa (al 1) ac))) (λ_ _=>rfl)))
   (ai (aQ PassesOwn.never rfl (FO (bz (aa (al 9) (aa (az (bu.m0 i') aj (al 9)) ac)))) (q02 18 sc.nd)
   (ad (q01 19 sc.nd (aH zwb (hr.mono nofun) rfl aL (aa (aM aP (al 15) aj (λ_ _=>rfl)) (aa (aM aP (al 17) aj (λ_ _=>rfl)) (aa (jd dN (al 18) aj (aZ _)) (aa (al 7) ac))))))
   (ai (bM (aK nw (al 19) jX (aZ _))
   (ad (a_ (aH zva (hr.mono nofun) rfl aL (aa (al 0) (aa (al 1) (aa (bz (aa (al 11) (aa (al 12) (aa (al 18) (aa (aM aP (al 15) aj (λ_ _=>rfl)) (aa (aM aP (al 17) aj (λ_ _=>rfl)) ac)))))) (aa (al 10) (aa (ba (aa (al 15) (aa (al 17) ac))) (aa (bz (aa (al 19) (aa (al 8) ac))) ac))))))))
   (ai nI))
   aR))))))))))))))))),?_⟩
  symm;refine⟨_,cK.of e9,rfl,_,_,rfl,_,_,rfl,_,_,rfl,_,_,rfl,_,_,rfl,rfl,h1 _ _ ?_⟩;grind;refine h1 _ _ ?_;grind;refine h1 _ _ ?_;grind;have hsl:=gL c1;have e6:∀x:Int,∃z∈p,ip (av p) (x%4)=some (V.str (tx z)):=λx=>by
   obtain⟨j,hj⟩:∃j:Nat,x%4=(j:Int):=⟨_,(Mr (Mp _ ⋯)).symm⟩;have:x%4<4:=Mq _ ⋯;exact⟨p[j]'⋯,LK _,by rw[hj];exact bH (bC ⋯)⟩
  have d5:∀x:Int,∃c∈sg,ip (tx sg).cps.toList (x%(sg.length:Int))=some c:=λx=>by
   rw[cg];exact tQ (Mp _ ⋯) (Mq _ ⋯)
  have hsz:(tx sg).length<=sizeLine:=by rw[aw];exact am ⋯
  obtain⟨nm,a1,p1⟩:=e6 (c/20);refine⟨_,aI.of f1,_,p1,h1 _ _ ?_⟩;grind;have c0:0<=c/80%B:=Mp _ ⋯;have c9:c/80%B<B:=Mq _ ⋯;refine⟨⋯,h1 _ _ ?_⟩;clear h1;obtain⟨C,g4⟩:∃C,1+c/80%B=C:=⟨_,rfl⟩;rw[g4];symm;refine⟨⋯,⋯,h1 _ _ ?_⟩;clear h1;generalize c/80/B=re;have gd:∀(k:Nat) (d G:Mx) (I:Nat) (S:Int),k<4->d∈p->G∈p->I∈sg->0<=S->S<=7->i4 p sg (k,⟨nm,C,d,G,[I],S⟩):=λk d G I S hk h1 h2 h3 t0 t7=>by
   have g:RV.good ⟨nm,C,d,G,[I],S⟩:=⟨a8 _ a1,by show 1<=C;omega,by show C<=9;omega,a8 _ h1,a8 _ h2,nK c1 h3,t0,t7⟩;exact⟨⟨hk,g,g.small⟩,a1,h1,h2,I,h3,rfl⟩
  generalize c/5%4=ag;refine ak λN1 h1=>?_;refine xD λtb ub et eu=>?_;ext;refine dP (λk4=>?_) (λk4=>?_)
  ·rw[et]
   clear et eu tb ub h1;ext;refine⟨.inl ⟨rfl,_,aI.of g.rows.1⟩,re,C,B,U,l,nm,td,lb,p,sg,rfl,e9,f1,g2,a8,c1,a1,⋯,⋯,λt r H1 ht c2 Y=>⟨_,Y _ _ g.rows.1,?_,?_⟩⟩
   ·rw[LC,g.rows.2.1];exact aU ⋯
   ·exact q _ _ _ zs ((g.up Y).row ht c2) (λy u n1 n2 e=>by rw[ar n1];exact Y _ _ e) (by simp) ⋯ (λh=>h)
  rw[eu];clear et eu tb ub;ext;refine h1 _ _ ?_;clear h1;refine ak λN1 h1=>?_;refine xD λtb ub et eu=>?_;ext;have b3:∀{D:fB},D.rt=Q->tb D [some (V.ref lr),some (V.ref ls),some (V.int c),some (V.ref td),some (V.str (tx sg)),some (V.ref lb),some (V.int B),some (V.int U),some (V.int l),some (V.int (c%5)),some (V.int ag),some (V.str (tx nm)),some (V.int C),some (V.int re),none,none,none,none,none,none] H:=fun{D} hD=>by
   rw[et];ext;rw[aw];obtain⟨I,a9,pc⟩:=d5 re;have f0:sg.length<=sizeLine:=am ⋯;refine⟨f0,⋯,f0,I,pc,am nofun,λR T=>⟨L3 _,λO m=>⟨am nofun,λL a5=>⟨am nofun,λtm J=>?_⟩⟩⟩⟩;have r0:=gd 0 nm nm I 0 nofun a1 a1 a9 nofun nofun;generalize hr:(⟨nm,C,nm,nm,[I],0⟩:RV)=rv at r0;have e1:aD H R (.tup [V.str (tx nm),V.int C,V.int 0,V.str ⟨#[I]⟩,V.str (Str.ofString "")]) R=some (.tup (fQ (0,rv))):=by rw[ae,<- hr];rfl
   have Y:=af (o:=.tup [V.str (tx nm),V.int C,V.int 0,V.str ⟨#[I]⟩,V.str (Str.ofString "")]) T;generalize aD H R (.tup [V.str (tx nm),V.int C,V.int 0,V.str ⟨#[I]⟩,V.str (Str.ofString "")])=H1 at Y e1 m a5 J ⊢;have s2:=af (o:=.lst []) m;have e2:aD H1 O (.lst []) O=some (.lst []):=ae;generalize aD H1 O (.lst [])=H2 at s2 e2 a5 J ⊢;have s3:=af (o:=.lst [V.str ⟨#[I]⟩]) a5;have e3:aD H2 L (.lst [V.str ⟨#[I]⟩]) L=some (.lst (av [rv.sg])):=by rw[ae,<- hr];rfl
   generalize aD H2 L (.lst [V.str ⟨#[I]⟩])=H3 at s3 e3 J ⊢;have s4:=af (o:=.tup [V.ref L,V.int l]) J;have e4:aD H3 tm (.tup [V.ref L,V.int l]) tm=some (.tup [V.ref L,V.int l]):=ae;generalize aD H3 tm (.tup [V.ref L,V.int l])=H4 at s4 e4 ⊢;have d6:=s3.trans s4;have d7:=s2.trans d6;have e0:=Y.trans d7;have nl:∀{x u},H x=some u->O≠x:=λe z=>by rw[<- z,lm Y m]at e;cases e
   refine⟨lr,ls,R,O,tm,L,ag,ts,rs,zs,[],(0,rv),[rv.sg],p,sg,l,rfl,g.up e0,d7 _ _ e1,r0,f2,a3,d6 _ _ e2,nl g.rows.1,nl g.st,λy hy=>(nomatch hy),e4,s4 _ _ e3,by simp,Nx.cell rfl,qT r0.good.good.sg,λH' b4 b8 b0 g' sB l1 l2 c3=>?_⟩;rw[hD];exact q H' b4 b8 b0 g' (λy u n1 n2 e=>sB y u n1 n2 (e0 _ _ e)) l1 l2 (λh=>c3 (.inl h))
  refine dP (λ_=>b3 rfl) (λk0=>⟨_,aI.of g.st,?_⟩);rw[LC];refine dP (λ_=>b3 rfl) (λz0=>?_);clear b3;rw[eu];clear et eu tb ub;have e7:1<=zs.length:=by omega
  have f8:zs≠[]:=λe=>by rw[e]at e7;simp at e7
  have d4:∀x:Int,∃z∈zs,ip (zs.map λz=>V.ref z.a) (x%(zs.length:Int))=some (V.ref z.a):=λx=>by
   obtain⟨v,hv,e⟩:=tQ (xs:=zs.map λz=>V.ref z.a) (Mp x (show(zs.length:Int)≠0 by omega)) (by rw[LC];exact Mq _ ⋯);obtain⟨z,hz,rfl⟩:=Mi.mp hv;exact⟨z,hz,e⟩
  ext;refine h1 _ _ ?_;grind;obtain⟨d,Z,f7⟩:=d4 re;refine⟨_,aI.of g.st,by rw[LC];omega,_,aI.of g.st,_,by rw[LC];exact f7,h1 _ _ ?_⟩;grind;refine⟨_,aI.of g.st,by rw[LC];omega,by rw[LC];omega,h1 _ _ ?_⟩;clear h1;rw[LC];generalize re/(zs.length:Int)=re2;have a0:=g.at_ d Z;have b1:=g.good d Z;obtain⟨zr,zc,f3⟩:=b1.sd;have zp:=f3.pic λr hr=>(g.ro r hr).good;have zr6:zr<=6:=zp.r6;have zc6:zc<=6:=zp.c6;obtain⟨I,a9,_⟩:=d5 0;have dL:∀{H5:Hp} {R O tm L:Addr} {ys:List FI} {r:Nat×RV} {pc:aE},ax H H5->H5 R=some (.tup (fQ r))->i4 p sg r->r.2.c=C->H5 O=some (.lst (ys.map λz=>V.ref z.a))->H O=none->(∀y∈ys,y∈zs)->H5 tm=some (.tup [.ref L,.int l])->H5 L=some (.lst (av pc))->(∃a b,dQ pc a b)->Nx r (ys.map FI.x) pc->kC [.ref lr,.ref ls,.ref R,.int ag,.ref O,.ref tm] H5 (λ_ H1=>Q .non H1) E0:=fun{H5 R O tm L ys r pc} s5 e1 c2 hc0 e2 m hys e3 e4 a4 nx=>by
   have nl:∀{x u},H x=some u->O≠x:=λe z=>by rw[<- z,m]at e;cases e
   obtain⟨a,b,p6⟩:=a4;refine⟨lr,ls,R,O,tm,L,ag,ts,rs,zs,ys,r,pc,p,sg,l,rfl,g.up s5,e1,c2,f2,a3,e2,nl g.rows.1,nl g.st,hys,e3,e4,λe=>?_,nx,⟨a,b,p6⟩,λH' b4 b8 b0 g' sB l1 l2 c3=>?_⟩
   ·have h1:=p6.rc.1
    have h2:=p6.r0;rw[e]at h1;rw[<- h1]at h2;cases h2
   ·exact q H' b4 b8 b0 g' (λy u n1 n2 e=>sB y u n1 n2 (s5 _ _ e)) l1 l2 (λh=>c3 (.inl h))
  refine ak λN1 h1=>?_;refine xD λtb ub et eu=>?_;ext;refine dP (λk3=>?_) (λk3=>?_)
  ·rw[et]
   clear et eu tb ub h1;symm;obtain⟨S,e8,f9⟩:∃S:Nat,re2%8=(S:Int)/\S<8:=⟨(re2%8).toNat,⋯,⋯⟩;rw[e8];refine⟨_,cK.of a0.1,_,rfl,d.lp,d.x.p,zr,zc,S,rfl,a0.2.2.1,zp.rc,zp.r0,zp.c0,⋯,⋯,f9,λL H1 a5 c4 Y=>⟨am nofun,λtm J=>h1 _ _ ?_⟩⟩;clear h1;have s2:=af (o:=.tup [V.ref L,V.int l]) J;have e2:aD H1 tm (.tup [V.ref L,V.int l]) tm=some (.tup [V.ref L,V.int l]):=ae;generalize aD H1 tm (.tup [V.ref L,V.int l])=H2 at s2 e2 ⊢;have M:=Y.trans s2;ext;rw[e8];refine⟨_,cK.of (M _ _ a0.1),_,rfl,am nofun,λR T=>⟨am nofun,λO m=>?_⟩⟩;have a6:H O=none:=lm (M.trans (af T)) m;have e3:aD H2 R (.tup [V.str (tx nm),V.int C,V.int 3,V.str (tx d.x.nm),V.int (S:Int)]) R=some (.tup (fQ (3,⟨nm,C,d.x.nm,nm,[I],(S:Int)⟩))):=ae;have s3:=af (o:=.tup [V.str (tx nm),V.int C,V.int 3,V.str (tx d.x.nm),V.int (S:Int)]) T;generalize aD H2 R (.tup [V.str (tx nm),V.int C,V.int 3,V.str (tx d.x.nm),V.int (S:Int)])=H3 at s3 e3 m ⊢;have s4:=af (o:=.lst [V.ref d.a]) m;exact dL ((M.trans s3).trans s4) (s4 _ _ e3) (gd 3 _ _ I _ nofun b1.nm a1 a9 ⋯ ⋯) rfl (ys:=[d]) ae a6 (λy hy=>by rw[LD.mp hy];exact Z) (s4 _ _ (s3 _ _ e2)) (s4 _ _ (s3 _ _ (s2 _ _ c4))) (Af zp S) (Nx.turn (x:=d.x) rfl rfl)
  ·rw[eu]
   clear et eu tb ub;ext;refine h1 _ _ ?_;grind;obtain⟨G,a2,f6⟩:=d4 re2;refine⟨_,aI.of g.st,by rw[LC];omega,_,aI.of g.st,_,by rw[LC];exact f6,h1 _ _ ?_⟩;clear h1;have b2:=g.at_ G a2;have d3:=g.good G a2;obtain⟨f4,f5,d1⟩:=d3.sd;have d2:=d1.pic λr hr=>(g.ro r hr).good;ext;refine⟨am nofun,λpt g1=>?_⟩;have Y:=af (o:=.tup [V.int (c%5),V.int (3-c%5)]) g1;have e1:aD H pt (.tup [V.int (c%5),V.int (3-c%5)]) pt=some (.tup [V.int (c%5),V.int (3-c%5)]):=ae;generalize aD H pt (.tup [V.int (c%5),V.int (3-c%5)])=H1 at Y e1 ⊢;refine⟨⟨_,cK.of e1⟩,?_⟩;refine Bd (xs:=[V.int (c%5),V.int (3-c%5)]) (λi σ H'=>ax H1 H'/\∃y2 y3,σ=[some (V.ref lr),some (V.ref ls),some (V.int c),some (V.ref td),some (V.str (tx sg)),some (V.ref lb),some (V.int B),some (V.int U),some (V.int l),some (V.int (c%5)),some (V.int ag),some (V.str (tx nm)),some (V.int C),some (V.int re2),none,some (V.ref d.a),none,some (V.ref G.a),y2,y3]) ⟨ax.refl _,_,_,rfl⟩ (λi σ H' _ h=>cK.of (h.1 _ _ e1)) ?_ ?_
   ·rintro i x σ H2 hx ⟨s2,y2,y3,rfl⟩
    obtain⟨k,hk,rfl⟩:∃k:Nat,(k=1\/k=2)/\x=V.int (k:Int):=by
     have g5:c%5=1\/c%5=2:=by omega
     have hm:=LG hx;rcases g5 with e | e<;>rw[e]at hm<;>(rcases LR.mp hm with rfl | hm)
     ·exact⟨1,.inl rfl,rfl⟩
     ·rw[LD.mp hm];exact⟨2,.inr rfl,rfl⟩
     ·exact⟨2,.inr rfl,rfl⟩
     ·rw[LD.mp hm];exact⟨1,.inl rfl,rfl⟩
    have M:=Y.trans s2;have g3:(if decide ((k:Int)=1)=true then 1 else 2)=k:=by rcases hk with rfl | rfl<;>rfl
    ac_nf;refine⟨_,cK.of (M _ _ a0.1),_,rfl,_,cK.of (M _ _ b2.1),_,rfl,d.lp,G.lp,d.x.p,G.x.p,zr,zc,f4,f5,decide ((k:Int)=1),U,rfl,M _ _ a0.2.2.1,M _ _ b2.2.2.1,zp,d2,g0,λpc a4 L H3 a5 c4 s3=>h2 _ _ ?_,λH3 _ s3=>h2 _ _ ?_⟩
    ·clear h2
     rw[g3]at a4;ext;rw[q07 (by simp)];have a7:=M.trans s3;refine⟨_,cK.of (a7 _ _ a0.1),_,rfl,_,cK.of (a7 _ _ b2.1),_,rfl,am nofun,λR T=>⟨am nofun,λO m=>⟨am nofun,λtm J=>?_⟩⟩⟩;have a6:H O=none:=lm (a7.trans (af T)) m;have r0:i4 p sg (k,⟨nm,C,d.x.nm,G.x.nm,[I],0⟩):=gd k _ _ I _ ⋯ b1.nm d3.nm a9 nofun nofun;have e4:aD H3 R (.tup [V.str (tx nm),V.int C,V.int (k:Int),V.str (tx d.x.nm),V.str (tx G.x.nm)]) R=some (.tup (fQ (k,⟨nm,C,d.x.nm,G.x.nm,[I],0⟩))):=by rw[ae];rcases hk with rfl | rfl<;>rfl
     have s4:=af (o:=.tup [V.str (tx nm),V.int C,V.int (k:Int),V.str (tx d.x.nm),V.str (tx G.x.nm)]) T;generalize aD H3 R (.tup [V.str (tx nm),V.int C,V.int (k:Int),V.str (tx d.x.nm),V.str (tx G.x.nm)])=H4 at s4 e4 m J ⊢;have s5:=af (o:=.lst [V.ref d.a,V.ref G.a]) m;have e5:aD H4 O (.lst [V.ref d.a,V.ref G.a]) O=some (.lst [V.ref d.a,V.ref G.a]):=ae;generalize aD H4 O (.lst [V.ref d.a,V.ref G.a])=H5 at s5 e5 J ⊢;have s6:=af (o:=.tup [V.ref L,V.int l]) J;have b5:=s5.trans s6;exact dL ((a7.trans s4).trans b5) (b5 _ _ e4) r0 rfl (ys:=[d,G]) (s6 _ _ e5) a6 (λy hy=>by rcases LR.mp hy with rfl | hy;exact Z;rw[LD.mp hy];exact a2) ae ((s4.trans b5) _ _ c4) (CF hk zp d2 (a4 ⟨nm,C,d.x.nm,G.x.nm,[I],0⟩)) (Nx.pair (x:=d.x) (y:=G.x) hk rfl rfl (a4 _))
    ·clear h2
     ext;rw[q06 (by simp)];exact s2.trans s3
   ·rintro σ H2 ⟨s2,y2,y3,rfl⟩
    exact q H2 ts rs zs (g.up (Y.trans s2)) (λy u _ _ e=>s2 _ _ (Y _ _ e)) ⋯ ⋯ (λ_=>f8)
abbrev mj:Stmt:=eY 80
inductive pF(vs:List V)(H:Hp)(Q:VK)(_E:XK):Prop
 |mk (lc td lb:Addr) (cells:List Int) (p:aE) (sg:Mx) (dear side lim:Int) (_:vs=[.ref lc,.ref td]) (_:H lc=some (.lst (cells.map V.int))) (_:cells.length<=14) (_:H td=some (.tup [.str (tx sg),.ref lb,.int dear,.int side,.int lim])) (_:H lb=some (.lst (av p))) (_:p.length=4) (_:(∀r∈p,di r=true)) (_:c8 sg=true) (_:1<=dear) (_:dear<=9) (_:side<=6) (_:1<=lim) (_:∀tp lr ls ts rs zs H',H' tp=some (.tup [.ref lr,.ref ls])->GS H' p sg lim lr ls ts rs zs->rs.length<=15->zs≠[]->zs.length<=15->ax H H'->Q (.ref tp) H')
theorem wG:aC ["_law_cells_here","_law_drawn","_law_rules","_law_stock","_law_cell_here"] ["_law_cells_here","_law_drawn"] (ao mj):=by walk_at "c"
theorem xW{f:Addr}(F:cZ K "_law_grown" "_law_grown" mj f fd)(nb:NB mg)(zva:↑dk 2 "_law_put" ["_law_rules","_law_stock","_law_wanted","_law_again","_law_parts","_law_made"] kC)(zbc:↑dk 3 "_law_step" ["_law_rules","_law_stock","_law_cell_here","_law_drawn"] rA):↑aY 4 f fd ["_law_cells_here","_law_drawn"] pF:=by
 have sc:=wG;walk_at "f"
 ·obtain⟨lc,td,lb,j,p,sg,c0,a1,b,rfl,b2,hc14,a8,b3,c4,G,T,d4,d3,c3,d2,q⟩:=h
  have hu:=hr.units;refine⟨_,(ad (q01 2 sc.nd (ba ac))
   (ad (q01 3 sc.nd (ba ac))
   (ad (aQ PassesOwn.never rfl (aS (al 0)) (q02 4 sc.nd)
   (ai (a_ (aH zbc (hr.mono nofun) rfl aL (aa (al 2) (aa (al 3) (aa (al 4) (aa (al 1) ac))))))))
   (ad (bM (aK dN (aF bf rfl nb.len bi (aa (al 3) ac)) aj (aZ _))
   (ai (a_ (aH zva (hr.mono nofun) rfl aL (aa (al 2) (aa (al 3) (aa (bz (aa (aM bD (aM aP (al 1) aj (λ_ _=>rfl)) aj (λ_ _=>rfl)) (bL (bL (aa (aM hX (aM aP (al 1) aj (λ_ _=>rfl)) aj (λ_ _=>rfl)) (eN ac)))))) (bL (aa (ba ac) (aa (bz (aa (ba (aa (aM hX (aM aP (al 1) aj (λ_ _=>rfl)) aj (λ_ _=>rfl)) ac)) (aa (aM aP (al 1) aj (λ_ _=>rfl)) ac))) ac)))))))))
   aR)
   (ai (aG (bz (aa (al 2) (aa (al 3) ac))))))))),?_⟩
  symm;refine⟨L3 _,λm I=>h1 _ _ ?_⟩;grind;refine⟨L3 _,λl C=>h1 _ _ ?_⟩;grind;have sA:=(af (o:=.lst []) I).trans (af (o:=.lst []) C);refine⟨⟨_,aI.of (sA _ _ b2)⟩,?_⟩;have b8:aD (aD H m (.lst [])) l (.lst []) m=some (.lst []):=af C _ _ ae;have b5:aD (aD H m (.lst [])) l (.lst []) l=some (.lst []):=ae;have O:H l=none:=by
   by_cases e:l=m
   ·rw[e];exact I
   ·rwa [ar e]at C
  have c9:m≠l:=λe=>by rw[<- e,ae]at C;cases C
  generalize aD (aD H m (.lst [])) l (.lst [])=H1 at sA b8 b5 ⊢;refine bB (xs:=j.map V.int) (λi σ R=>ax H R/\i<=j.length/\(∃D B v,GS R p sg b m l D B v/\B.length<=i/\v.length<=i)/\∃z,σ=[some (V.ref lc),some (V.ref td),some (V.ref m),some (V.ref l),z])
   ⟨sA,L3 _,⟨[],[],[],⟨⟨b8,rfl,λi t r e=>by simp at e⟩,λr hr=>(nomatch hr),b5,λz hz=>(nomatch hz),λz hz=>(nomatch hz),c9⟩,L1 _,L1 _⟩,_,rfl⟩ (λi σ R _ h=>aI.of (h.1 _ _ b2)) ?_ ?_
  ·rintro i x σ R hx ⟨J,_,⟨D,B,v,g,b1,a6⟩,z,rfl⟩
   rw[LF]at hx;obtain⟨c,hc,rfl⟩:=L6.mp hx;have HQ:i<j.length:=(LA.mp hc).1;ext;refine⟨m,l,td,lb,D,B,v,p,sg,c,c0,a1,b,rfl,g,J _ _ a8,J _ _ b3,c4,G,T,d4,d3,c3,⋯,⋯,λH2 Z a5 Y g' sB l1 l2 M=>?_⟩;exact⟨λy u e=>sB y u (aA e I) (aA e O) (J y u e),HQ,Z,a5,Y,g',⋯,⋯⟩
  ·rintro σ R ⟨J,_,⟨D,B,v,g,b1,a6⟩,z,rfl⟩
   refine h1 _ _ ?_;clear h1;rw[LC]at b1 a6;refine ak λN1 h1=>?_;have dL:∀{D B v H2},GS H2 p sg b m l D B v->B.length<=15->v≠[]->v.length<=15->ax H H2->N1 [some (V.ref lc),some (V.ref td),some (V.ref m),some (V.ref l),z] H2:=fun{D B v H2} g2 r15 z0 Iq s2=>by
    refine h1 _ _ ?_;ext;exact⟨am nofun,λtp a7=>q tp m l D B v _ ae (g2.up (af a7)) r15 z0 Iq (s2.trans (af a7))⟩
   clear h1;ext;refine⟨_,aI.of g.st,?_⟩;rw[LC];refine dP (λh0=>?_) (λh0=>dL g ⋯ (λe=>h0 (by rw[e];rfl)) ⋯ J);have hz:v=[]:=Mh.mp ⋯;subst hz;have hsl:=gL T;obtain⟨a,n,c6⟩:∃a∈p,ip (av p) 0=some (V.str (tx a)):=⟨p[0]'⋯,LK _,(show ip _ ((0:Nat):Int)=_ from bH (bC ⋯))⟩;obtain⟨d,b4,b0⟩:∃d∈sg,ip (tx sg).cps.toList 0=some d:=⟨sg[0]'⋯,LK _,by rw[cg];exact(show ip _ ((0:Nat):Int)=_ from bH (Lz _))⟩;have a9:(tx sg).length<=sizeLine:=by rw[aw];exact am ⋯
   have S:=J _ _ a8;refine⟨_,cK.of S,_,rfl,_,rfl,_,aI.of (J _ _ b3),_,c6,_,cK.of S,_,rfl,_,rfl,a9,d,b0,am nofun,λtw c1=>⟨L3 _,λla U=>?_⟩⟩;have s1:=af (o:=.tup [V.str (tx a),V.int 1,V.int 0,V.str ⟨#[d]⟩,V.str (Str.ofString "")]) c1;have r0:i4 p sg (0,⟨a,1,a,a,[d],0⟩):=by
    have g:RV.good ⟨a,1,a,a,[d],0⟩:=⟨G _ n,(by decide:(1:Int)<=1),(by decide:(1:Int)<=9),G _ n,G _ n,nK T b4,(by decide:(0:Int)<=0),(by decide:(0:Int)<=7)⟩;exact⟨⟨(by decide:(0:Nat)<4),g,g.small⟩,n,n,n,d,b4,rfl⟩
   have e1:aD R tw (.tup [V.str (tx a),V.int 1,V.int 0,V.str ⟨#[d]⟩,V.str (Str.ofString "")]) tw=some (.tup (fQ (0,⟨a,1,a,a,[d],0⟩))):=ae;generalize aD R tw (.tup [V.str (tx a),V.int 1,V.int 0,V.str ⟨#[d]⟩,V.str (Str.ofString "")])=H1 at s1 e1 U ⊢;have s2:=af (o:=.lst []) U;have e2:aD H1 la (.lst []) la=some (.lst []):=ae;generalize aD H1 la (.lst [])=H2 at s2 e2 ⊢;have a0:=s2 _ _ (s1 _ _ S);refine⟨_,cK.of a0,_,rfl,_,rfl,a9,d,b0,am nofun,λL d1=>?_⟩;have s3:=af (o:=.lst [V.str ⟨#[d]⟩]) d1;have e3:aD H2 L (.lst [V.str ⟨#[d]⟩]) L=some (.lst (av [[d]])):=ae;generalize aD H2 L (.lst [V.str ⟨#[d]⟩])=H3 at s3 e3 ⊢;refine⟨_,cK.of (s3 _ _ a0),_,rfl,am nofun,λtm c2=>?_⟩;have s4:=af (o:=.tup [V.ref L,V.int b]) c2;have e4:aD H3 tm (.tup [V.ref L,V.int b]) tm=some (.tup [V.ref L,V.int b]):=ae;generalize aD H3 tm (.tup [V.ref L,V.int b])=H4 at s4 e4 ⊢;have a2:=s3.trans s4;have a3:=s2.trans a2;have a4:=s1.trans a3;have nl:∀{x u},R x=some u->la≠x:=λe z=>by rw[<- z,lm s1 U]at e;cases e
   refine⟨m,l,tw,la,tm,L,0,D,B,[],[],(0,⟨a,1,a,a,[d],0⟩),[[d]],p,sg,b,rfl,g.up a4,a3 _ _ e1,r0,⋯,by simp,a2 _ _ e2,nl g.rows.1,nl g.st,λy hy=>(nomatch hy),e4,s4 _ _ e3,by simp,Nx.cell rfl,qT r0.good.good.sg,λH5 Z a5 Y g' sB l1 l2 M=>?_⟩;refine dL g' ⋯ (M (.inr ⟨Int.le_refl _,rfl,d2⟩)) (L9 l2 (by simp)) λy u e=>sB y u (aA e I) (aA e O) (a4 _ _ (J y u e))
theorem Db{α β:Type}{l:List α}{f g:α->List β}(h:∀x∈l,f x=g x):l.flatMap f=l.flatMap g:=by rw[List.flatMap_def,List.flatMap_def,q0K h]
theorem yF{α β:Type}{f g:α->List β}(h:∀x,(f x).Perm (g x)):∀{l:List α},(l.flatMap f).Perm (l.flatMap g)
 | []=>List.Perm.refl _
 |x::l=>by rw[List.flatMap_cons,List.flatMap_cons];exact(h x).append (yF h)
theorem yO{α:Type}(f:α->α->α)(as:∀a b c,f (f a b) c=f a (f b c))(ls:List α)(e:α)(he:∀a,f a e=a)(m:Nat):∀n,kj f ls e (m+n)=(kj f ls e m).flatMap λt=>(kj f ls e n).map (f t)
 |0=>by
  show kj f ls e m=(kj f ls e m).flatMap λt=>[e].map (f t);have:(λt=>[e].map (f t))=λt=>[t]:=funext λt=>by rw[List.map_singleton,he]
  rw[this];simp
 |n+1=>by
  show(kj f ls e (m+n)).flatMap (λc=>ls.map (f c))=_;rw[yO f as ls e he m n,List.flatMap_assoc];refine q0R (λg=>List.flatMap g _) (funext λt=>?_);show((kj f ls e n).map (f t)).flatMap (λc=>ls.map (f c))=((kj f ls e n).flatMap λc=>ls.map (f c)).map (f t);rw[List.flatMap_map,List.map_flatMap];refine q0R (λg=>List.flatMap g _) (funext λu=>?_);rw[LQ];exact q0K λx _=>as t u x
theorem zL(sg:Mx)(m n:Nat):c_ sg (m+n)=(c_ sg m).flatMap λt=>(c_ sg n).map (t ++ ·):=yO _ Mb _ _ Ma m n
def qE(c:Nat)(t:Mx)(r:Nat):aE:=(List.range r).map λi=>(t.drop (i*c)).take c
theorem Ak{c r:Nat}{t u:Mx}(ht:t.length=r*c)(hu:u.length=c):qE c (t++u) (r+1)=qE c t r++[u]:=by
 unfold qE;rw[q0M,LO,List.map_singleton]
 congr 1
 ·refine q0K λi a=>?_
  have a:=List.mem_range.mp a;have h1:(i+1)*c<=r*c:=Nat.mul_le_mul_right c a;rw[Nat.add_mul,Nat.one_mul]at h1;rw[List.drop_append_of_le_length ⋯,List.take_append_of_le_length (by rw[Mf];omega)]
 ·rw[List.drop_append_of_le_length ⋯,<- ht,List.drop_length,Mo,<- hu,Md]
theorem vj(sg:Mx)(c:Nat):∀r,(c_ sg (r*c)).map (λt=>qE c t r)=ia sg r c
 |0=>by rw[Nat.zero_mul];rfl
 |r+1=>by
  rw[Nat.add_mul,Nat.one_mul,zL,List.map_flatMap];show _=(ia sg r c).flatMap (λp=>((c_ sg c).map λt=>[t]).map (p ++ ·));rw[<- vj sg c r,List.flatMap_map];refine Db λt ht=>?_;rw[LQ,LQ];refine q0K λu hu=>?_;exact Ak (dG.mp ht).1 (dG.mp hu).1
theorem pR{α:Type}(f:α->α->α){ls ls':List α}(e:α)(h:ls.Perm ls'):∀n,(kj f ls e n).Perm (kj f ls' e n)
 |0=>List.Perm.refl _
 |n+1=>by
  show((kj f ls e n).flatMap λc=>ls.map (f c)).Perm ((kj f ls' e n).flatMap λc=>ls'.map (f c));exact((pR f e h n).flatMap_right _).trans (yF λc=>h.map _)
theorem rM{ss:Mx}(h:ss.Perm sg)(r c:Nat):(ia ss r c).Perm (ia sg r c):=
 pR _ _ ((pR _ _ (h.map _) c).map _) r
abbrev ud:Stmt:=eY 81
inductive vL(vs:List V)(H:Hp)(Q:VK)(_E:XK):Prop
 |mk (sg:Mx) (r c:Nat) (_:vs=[.str (tx sg),.int (r:Int),.int (c:Int)]) (_:1<=r) (_:r<=6) (_:1<=c) (_:c<=6) (_:1<=sg.length) (_:sg.length<=4) (_:sg.length ^ (r*c)<=300) (_:∀l' H' bs,H l'=none->H' l'=some (.lst (bs.map V.ref))->aO ii H' bs (ia sg r c)->ax H H'->Q (.ref l') H')
theorem Dj:aC ["_law_signs_here","_law_rows","_law_columns","_law_texts","_law_cell_here","_law_longer","_law_text","_law_found"] ["_law_signs_here","_law_rows","_law_columns"] (ao ud):=by walk_at "c"
theorem Bx{f:Addr}(F:cZ K "_law_all" "_law_all" ud f fd)(nb:NB mg):↑aY 1 f fd ["_law_signs_here","_law_rows","_law_columns"] vL:=by
 have sc:=Dj;walk_at "f"
 ·obtain⟨a,r,c,rfl,r1,r6,c1,c6,g1,g4,pw,q⟩:=h
  have hu:=hr.units;have rc:r*c<=36:=L9 (Nat.mul_le_mul r6 c6) nofun;refine⟨_,(ad (q01 3 sc.nd (ba (eN ac)))
   (ad (aQ PassesOwn.never rfl (bE rfl nb.range (aa (az (bu.m1 du) (al 1) (al 2)) ac)) (q02 4 sc.nd)
   (ad (q01 5 sc.nd (ba ac))
   (ad (aQ PassesOwn.never rfl (aS (al 3)) (au (i:=6) sc.nd rfl (Or.inr rfl))
   (ai (a_ (dy PySem.F.plainAttrs_list PySem.F.slot_list_extend PySem.F.type_list_extend jh (al 5) (aa (bS ["_law_sign"] [6] rfl (bA.of (by kernel_rfl)) (by kernel_rfl) (B4 (al 0))
    (λ_ _ _ _=>(au (i:=0) (by show(["_law_sign","_law_text"]:List Str).Nodup;decide +kernel) rfl (Or.inl rfl))) (λ_ _ _ _=>bT) (λ_ _ _ _=>(az dF (al 1) (al 0)))) ac)))))
   (ai (q01 3 sc.nd (al 5))))))
   (ad (q01 7 sc.nd (ba ac))
   (ad (aQ PassesOwn.never rfl (aS (al 3)) (au (i:=6) sc.nd rfl (Or.inr rfl))
   (ai (a_ (dy PySem.F.plainAttrs_list PySem.F.slot_list_append PySem.F.type_list_append bV (al 7) (aa (bS ["_law_row"] [6,2] rfl (bA.of (by kernel_rfl)) (by kernel_rfl) (bE rfl nb.range (aa (al 1) ac))
    (λ_ _ _ _=>(au (i:=0) (by show(["_law_row","_law_text","_law_columns"]:List Str).Nodup;decide +kernel) rfl (Or.inl rfl))) (λ_ _ _ _=>bT) (λ_ _ _ _=>(cU md (al 1) (cr (az (bu.m1 du) (al 0) (al 2))) (cr (az (bu.m0 bP) (az (bu.m1 du) (al 0) (al 2)) (al 2)))))) ac)))))
   (ai (aG (al 7))))))),?_⟩
  symm;refine⟨am nofun,λl1 a2=>h1 _ _ ?_⟩;clear h1;generalize z0:aD H l1 _=H1;obtain⟨s1,e1⟩:=gn a2 z0;symm;rw[<- Int.natCast_mul,LL];refine⟨.inl ⟨⋯,⋯⟩,⋯,⋯,?_⟩;have hW:∀i,(c_ a i).length=a.length ^ i:=jq a;refine bv (lo:=0) (n:=r*c) (λi σ H'=>∃(M:Addr) (J I d G x8:Option V),σ=[some (V.str (tx a)),some (V.int (r:Int)),some (V.int (c:Int)),some (V.ref M),J,I,d,G]/\H M=none/\H' M=some (.lst ((c_ a i).map fL))/\ax H H') ⟨l1,_,_,_,_,none,rfl,a2,e1,s1⟩ ?_ ?_
  ·rintro i σ H2 hi ⟨M,J,I,d,G,x8,rfl,a5,l,L⟩
   ac_nf;refine⟨L3 _,λY v=>h2 _ _ ?_⟩;clear h2;generalize z2:aD H2 Y _=H3;obtain⟨s3,e3⟩:=gn v z2;have a0:a.length ^ (i+1)<=300:=L9 (Nat.pow_le_pow_right g1 hi) pw;ac_nf;refine⟨⟨_,aI.of (s3 _ _ l)⟩,?_⟩;refine bB (xs:=(c_ a i).map fL) (λj σ H'=>∃(d G:Option V),σ=[some (V.str (tx a)),some (V.int (r:Int)),some (V.int (c:Int)),some (V.ref M),some (V.int (i:Int)),some (V.ref Y),d,G]/\H' Y=some (.lst ((((c_ a i).take j).flatMap λt=>(a.map λs=>[s]).map (t ++ ·)).map fL))/\aT Y H3 H') ⟨_,_,rfl,e3,aT.of λ_ _ h=>h⟩ (λj σ H' _ h=>by
    obtain⟨_,_,_,_,g⟩:=h;exact aI.of (g _ _ (λe=>by rw[e]at l;rw[v]at l;cases l) (s3 _ _ l))) ?_ ?_
   ·rintro j x σ H4 Z ⟨d,G,rfl,R,g⟩
    rw[LF]at Z;obtain⟨t,ht,rfl⟩:=L6.mp Z;have a4:=(dG.mp (LG ht)).1;have hb:=oN (· ++ ·) (a.map λs=>[s]) [] i j;rw[LC]at hb;ext;have hf:((((c_ a i).take j).flatMap λt=>(a.map λs=>[s]).map (t ++ ·)).map fL).length<=300:=by
     rw[LC];exact L9 hb a0
    refine⟨.inl ⟨rfl,_,aI.of R⟩,A7 (r:=a) (f:=λs=>some (fL (t++[s]))) (λσ=>∃x,σ=[x,some (fL t)]) ⟨_,rfl⟩ ⋯ ?_ ?_⟩
    ·rintro s hs σ H5 M1 M0 ⟨x0,rfl⟩ s5 k1 k0
     ext;refine⟨by rw[aw];show t.length+1<=_;exact am ⋯,?_⟩;rw[show(⟨#[s]⟩:Str)=tx [s] from rfl,BD];exact k1 _ _ _ rfl s5 ⟨_,rfl⟩
    ·intro H5 s5 m D
     have O:=s5 _ _ R;have a1:Y≠m:=λe=>by rw[e,D]at O;cases O
     have ef:List.filterMap (λs=>some (fL (t++[s]))) a=((a.map λs=>[s]).map (t ++ ·)).map fL:=by
      rw[LQ,LQ];exact congrFun (List.filterMap_eq_map (f:=λs=>fL (t++[s]))) a
     rw[ef];refine⟨_,by rw[ar a1];exact O,_,ae,?_,?_,((g.then s5).then (af D)).put⟩
     ·refine L9 (Ml (Nat.le_of_eq (by rw[LC,LC,LC])) _) (am ⋯)
     ·rw[ae,q0E,ht,List.flatMap_append,LO]
      congr 3
      simp
   ·rintro σ H4 ⟨d,G,rfl,R,g⟩
    refine h2 _ _ ?_;ext;rw[LC,Md]at R;have T:ax H H4:=λb o h=>g b o (λe=>by have:=L b o h;rw[e,v]at this;cases this) (s3 b o (L b o h));exact⟨L.free v,R,T⟩
  ·rintro σ H2 ⟨M,J,I,d,G,x8,rfl,a5,l,L⟩
   refine h1 _ _ ?_;grind;refine⟨L3 _,λm u=>h1 _ _ ?_⟩;clear h1;generalize z4:aD H2 m _=H4;obtain⟨T,R⟩:=gn u z4;symm;refine⟨⟨_,aI.of (T _ _ l)⟩,?_⟩;refine bB (xs:=(c_ a (r*c)).map fL) (λj σ H'=>∃(J I d:Option V) (bs:MA),σ=[some (V.str (tx a)),some (V.int (r:Int)),some (V.int (c:Int)),some (V.ref M),J,I,d,some (V.ref m)]/\H' m=some (.lst (bs.map V.ref))/\aO ii H' bs (((c_ a (r*c)).take j).map λt=>qE c t r)/\aT m H4 H') ⟨_,_,_,[],rfl,R,aO.nil,aT.of λ_ _ h=>h⟩ (λj σ H' _ h=>by
    obtain⟨_,_,_,_,_,_,_,g⟩:=h;exact aI.of (g _ _ (λe=>by rw[e]at l;rw[u]at l;cases l) (T _ _ l))) ?_ ?_
   ·rintro j x σ H5 Z ⟨J,I,d,bs,rfl,e5,b5,g⟩
    rw[LF]at Z;obtain⟨t,ht,rfl⟩:=L6.mp Z;have a4:=(dG.mp (LG ht)).1;have hb:=b5.1;rw[LC,Me]at hb;have hWr:=hW (r*c);ext;refine⟨.inl ⟨rfl,_,aI.of e5⟩,⋯,⋯,?_⟩;rw[LL];refine mQ (n:=r) (f:=λi=>some (V.str (tx ((t.drop (i*c)).take c)))) (λσ=>∃x,σ=[x,some (V.str (tx t)),some (V.int (c:Int))]) ⟨_,rfl⟩ ⋯ ?_ ?_
    ·rintro i hi σ H6 M1 M0 ⟨y,rfl⟩ S k1 k0
     ext;have a6:(i+1)*c<=r*c:=Nat.mul_le_mul_right c hi;rw[Nat.add_mul,Nat.one_mul]at a6;refine⟨.inl ⟨⋯,⋯⟩,.inl ⟨⋯,⋯⟩,by rw[aw];exact am ⋯,?_⟩;rw[show(i:Int)*(c:Int)+(c:Int)=((i*c+c:Nat):Int) by rw[Int.natCast_add,Int.natCast_mul],<- Int.natCast_mul,uW ⋯ ⋯,show i*c+c-i*c=c by omega];exact k1 _ _ _ rfl S ⟨_,rfl⟩
    ·intro H6 S U p
     have ep:List.filterMap (λi=>some (V.str (tx (List.take c (List.drop (i*c) t))))) (List.range r)=av (qE c t r):=by
      unfold av qE;rw[LQ];exact congrFun (List.filterMap_eq_map (f:=λi=>V.str (tx (List.take c (List.drop (i*c) t))))) _
     rw[ep];have B:=S _ _ e5;have C:m≠U:=λe=>by rw[e,p]at B;cases B
     have a3:∀y∈(c_ a (r*c)).map (λt=>qE c t r),0<y.length:=λy hy=>by
      obtain⟨z,_,rfl⟩:=Mi.mp hy;unfold qE;rw[LC,q0J];exact r1
     have keep:∀{b:Addr} {y:aE},ii H6 b y->0<y.length->ii (aD (aD H6 U (.lst (av (qE c t r)))) m (.lst (bs.map V.ref++[V.ref U]))) b y:=fun{b y} h h0=>by
      show aD _ _ _ _=_;rw[ar (yB h h0 B),ar (λe=>by rw[e]at h;rw[show H6 U=_ from h]at p;cases p)];exact h
     refine⟨_,by rw[ar C];exact B,by rw[LC];exact aU ⋯,bs++[U],by rw[ae,LO];rfl,?_,((g.then S).then (af p)).put⟩;rw[q0E,ht,LO];refine aO.snoc (b5.mono λb y _ hy h=>keep (S _ _ h) (a3 y ?_)) ?_
     ·obtain⟨z,hz,rfl⟩:=Mi.mp hy
      exact List.mem_map_of_mem (q0H hz)
     ·show aD _ _ _ _=_
      rw[ar (Ne.symm C),ae]
   ·rintro σ H5 ⟨J,I,d,bs,rfl,e5,b5,g⟩
    refine h1 _ _ ?_;ext;rw[LC,Md,vj]at b5;exact q m H5 bs (L.free u) e5 b5 (λb o h=>g b o (λe=>by have:=L b o h;rw[e,u]at this;cases this) (T b o (L b o h)))
section
variable {X:Cx}
def Hh:List V->Hp->VK->Prop:=λxs H Q=>∃b,xs=[.bl b]/\Q (.int (if b=true then 1 else 0)) H
theorem mK:dZ X (.type "int") Hh:=by
 intro pins s σ H xs us Q I r h;obtain⟨b,rfl,q⟩:=h;obtain⟨u,rfl,a⟩:=lv r;obtain rfl:u=Value.bool b:=a;exact PySem.call_int_bool ⟨.int _,H,I.tok _,⟨_,rfl⟩,q⟩
end
theorem El{X:Cx}{es:MM}{te:TE}{i:Nat}{x:Str}{pos pos' lp:Pos}(hN:X.N.Nodup)(hi:X.N[i]?=some x)(hx:Loc X.env.scope x)(he:WE X (.List es lp) te)(hf:autoParam (X.fn x=true\/X.env.scope.names.lookup x=some .local) zz3._auto_1):WS X (.Assign [.Name x pos'] (.List es lp) pos) (wX te (iY i)):=⟨ay hN hi hx he.out xw hf⟩
theorem EK{p:aE}{st:Mx}{rs:Yaa}(hst:st∈p)(hr:∀r∈rs,i4 p sg r):∃nms:List (List Nat),(bj (tx st) rs).map (·.1)=nms.map tx/\(∀x∈rs,x.2.n∈nms)/\nms.length<=p.length/\∀n∈nms,n∈p:=by
 have o:∀z∈(bj (tx st) rs).map (·.1),z∈p.map tx:=λz a=>by
  rcases(n_ _ _ _).mp a with e | ⟨q,j,e⟩
  ·rw[e];exact List.mem_map_of_mem hst
  ·unfold GH at j
   obtain⟨r,d,rfl⟩:=Mi.mp j;have R:=hr r d;rcases e with e | e
   ·rw[e];exact List.mem_map_of_mem R.n
   ·obtain⟨y,b,rfl⟩:=Mi.mp e
    refine List.mem_map_of_mem ?_;obtain⟨k,v⟩:=r;have w:y=v.o1\/y=v.o2:=by
     rcases fk R.good.k4 with rfl | rfl | rfl | rfl
     ·exact q0Q b List.not_mem_nil
     ·simpa[cw]using b
     ·simpa[cw]using b
     ·exact .inl (by simpa[cw]using b)
    rcases w with rfl | rfl
    ·exact R.o1
    ·exact R.o2
 have g:=(jm (tx st) _ rs rfl).nd;have i:∀x∈rs,tx x.2.n∈(bj (tx st) rs).map (·.1):=λx c=>(n_ _ _ _).mpr (.inr ⟨_,List.mem_map_of_mem c,.inl rfl⟩);have l:=ThM.nd_len g o;rw[LC (as:=p)]at l;generalize(bj (tx st) rs).map (·.1)=ks at *;have u:∀z∈ks,tx z.cps.toList=z/\z.cps.toList∈p:=λz a=>by
  obtain⟨m,B,rfl⟩:=Mi.mp (o z a);rw[cg];exact⟨rfl,B⟩
 refine⟨ks.map λz=>z.cps.toList,?_,λx c=>Mi.mpr ⟨_,i x c,cg _⟩,by rw[LC];exact l,λn g=>?_⟩
 ·rw[LQ]
  exact((q0K (λz a=>(u z a).1)).trans (List.map_id' ks)).symm
 ·obtain⟨z,a,rfl⟩:=Mi.mp g
  exact(u z a).2
theorem Cn{q:Nat×RV}(h4:q.1<4):ip (fQ q) 0=some (V.str (tx q.2.n)):=by
 obtain⟨a,v⟩:=q;have:a=0\/a=1\/a=2\/a=3:=by simp at h4;omega
 rcases this with rfl | rfl | rfl | rfl<;>rfl
theorem ua.mn{nm:Mx}{ps:List aE}{fs:List (aE×Int)}(h:ua rs nm ps fs):∀y∈fs,Mn rs (bp y.1,nm) y.2:=by
 induction h with
 |nil=>intro y h;exact nomatch h
 |hit p v _ m ih=>
  intro y a;rcases LP.mp a with h | h
  ·exact ih y h
  ·rw[LD.mp h];exact m
 |miss p _ _ ih=>exact ih
theorem ua.has{nm:Mx}{ps:List aE}{fs:List (aE×Int)}(h:ua rs nm ps fs):∀p∈ps,(∃v,(p,v)∈fs)\/∀v,¬ Dv rs (bp p,nm) v:=by
 induction h with
 |nil=>intro p h;exact nomatch h
 |hit q v _ m ih=>
  intro p a;rcases LP.mp a with h | h
  ·exact(ih p h).imp (λ⟨v,b⟩=>⟨v,LP.mpr (.inl b)⟩) id
  ·rw[LD.mp h];exact .inl ⟨v,LP.mpr (.inr q0B)⟩
 |miss q _ m ih=>
  intro p a;rcases LP.mp a with h | h
  ·exact ih p h
  ·rw[LD.mp h];exact .inr m
def xo(fs:List (aE×Int))(p:aE):Bool:=fs.any λy=>decide (y.1=p)
theorem ua.count{nm:Mx}{ps:List aE}{fs:List (aE×Int)}(h:ua rs nm ps fs)(hit:aE->Bool):(∀p∈ps,hit p=true↔∃v,Dv rs (bp p,nm) v)->(ps.filter hit).length=fs.length:=by
 induction h with
 |nil=>intro _;rfl
 |hit q v _ m ih=>
  intro a;rw[List.filter_append,LZ,LZ,ih λp b=>a p (LP.mpr (.inl b)),List.filter_cons,q07 ((a q (LP.mpr (.inr q0B))).mpr ⟨v,m.1⟩)]
  rfl
 |miss q _ m ih=>
  intro a;rw[List.filter_append,LZ,ih λp b=>a p (LP.mpr (.inl b)),List.filter_cons,q06 (λe=>by obtain⟨v,c⟩:=(a q (LP.mpr (.inr q0B))).mp e;exact m v c)]
  rfl
theorem ua.hits{nm:Mx}{ps:List aE}{fs:List (aE×Int)}(h:ua rs nm ps fs){p:aE}(hp:p∈ps):xo fs p=true↔∃v,Dv rs (bp p,nm) v:=by
 unfold xo;rw[List.any_eq_true]
 constructor
 ·rintro⟨y,a,e⟩
  have e:y.1=p:=by simpa using e
  exact⟨y.2,by rw[<- e];exact(h.mn y a).1⟩
 ·rintro⟨v,c⟩
  rcases h.has p hp with⟨w,b⟩ | hno
  ·exact⟨_,b,by simp⟩
  ·exact q0Q c (hno v)
def Hg(kvs:List (cO×V))(fs:List (aE×Int)):Prop:=(∀y∈fs,cJ kvs (.inr (tx (bp y.1)))=some (.int y.2))/\∀z w,cJ kvs (.inr z)=some w->∃y∈fs,z=tx (bp y.1)/\w=.int y.2
abbrev rP:Stmt:=eY 82
inductive ul(K:W.Frag)(vs:List V)(H:Hp)(Q:VK)(_E:XK):Prop
 |mk (a:Addr) (ns:List Int) (_:vs=[.ref a]) (_:aI K H a (ns.map V.int)) (_:∀H',Q (.bl true) H')
theorem Gh:aC ["_law_script","_law_drawn","_law_rules","_law_stock","_law_cell_here","_law_sizes","_law_rows","_law_columns","_law_name","_law_grammar_here","_law_found","_law_told","_law_picture","_law_cost","_law_many","_law_least"] ["_law_script"] (ao rP):=by walk_at "c"
theorem F_{f CN_ CM:Addr}(F:cZ K "law" "law" rP f fd)(nb:NB mg)(zka:↑dk 1 "_law_cell" ["_law_script","_law_k"] (l9 K))(zGb:↑dk 2 "_law_cells" ["_law_script","_law_begin","_law_most"] (nY K))(zHb:↑dk 1 "_law_whole" ["_law_x"] nW)(zIb:↑dk 1 "_law_signs" ["_law_cell_here","_law_most"] ot)(zJb:↑dk 2 "_law_names" ["_law_cell_here"] pP)
  (zKb:↑dk 4 "_law_grown" ["_law_cells_here","_law_drawn"] pF) (zlb:↑dk 7 "_law_grammar" ["_law_signs_here","_law_start","_law_rules"] (kT R CG)) (yaE:dk P w K mg base (kU P w) 10 "pictures_of" ["grammar","name","rows","columns"] (iO K R CG CN_ CM)) (yaT:dk P w K mg base (kU P w) 11 "least_cost" ["grammar","picture","name"] (jM K R CG CN_)) (zAc:↑dk 1 "_law_all" ["_law_signs_here","_law_rows","_law_columns"] vL):↑aY 12 f fd ["_law_script"] (ul K):=by
 have sc:=Gh;walk_at "f"
 ·obtain⟨a,ns,rfl,ha,q⟩:=h
  have hu:=hr.units;refine⟨_,(ad (q01 1 sc.nd (bz (aa (aH zIb (hr.mono nofun) rfl aL (aa (aH zka (hr.mono nofun) rfl aL (aa (al 0) (bL ac))) (bL ac))) (aa (aH zJb (hr.mono nofun) rfl aL (aa (aH zka (hr.mono nofun) rfl aL (aa (al 0) (bL ac))) ac)) (bL (bL (bL ac)))))))
   (ad (sU (aH zKb (hr.mono nofun) rfl aL (aa (aH zGb (hr.mono nofun) rfl aL (aa (al 0) (bL (bL ac)))) (aa (al 1) ac))) (fX (n:=2) rfl (aW (q02 2 sc.nd) (aW (q02 3 sc.nd) cW))))
   (zU (q01 4 sc.nd (aH zka (hr.mono nofun) rfl aL (aa (al 0) (bL ac))))
   (DH (El (i:=5) sc.nd rfl (Or.inl rfl) (FC (wt (iX (jy (jy gY))) (wt (iX (jy (jy gY))) (wt (iX (jy (jy gY))) (wt (iX (jy (jy gY))) (wt (iX (jy (jy gY))) (wt (iX (jy (jy gY))) (wt (iX (jy (jy gY))) (wt (iX (jy (jy gY))) gY))))))))))
   (ad (sU (aM bD (al 5) (az (bu.m1 bh) (al 4) (az (bu.m0 i') aj (az (bu.m1 du) aj (b7 mK rfl nb.int yx (aa (jd dN (aF aV rfl nb.len bi (aa (aM aP (al 1) aj (λ_ _=>rfl)) ac)) aj (aZ _)) ac))))) (λ_ _=>rfl)) (fX (n:=2) rfl (aW (q02 6 sc.nd) (aW (q02 7 sc.nd) cW))))
   (ad (q01 8 sc.nd (aM aP (aM bD (al 2) (az (bu.m1 bh) (az (bu.m1 br) (al 4) aj) (aF bf rfl nb.len bi (aa (al 2) ac))) (λ_ _=>rfl)) aj (λ_ _=>rfl)))
   (ad (q01 9 sc.nd (aH zlb (hr.mono nofun) rfl aL (aa (aM aP (al 1) aj (λ_ _=>rfl)) (aa (aM bD (aM aP (al 1) aj (λ_ _=>rfl)) aj (λ_ _=>rfl)) (aa (al 2) ac)))))
   (ad (q01 10 sc.nd (aH (CX:=kU P w) yaE (hr.mono nofun) rfl dI (aa (al 9) (aa (al 8) (aa (al 6) (aa (al 7) ac))))))
   (ad (q01 11 sc.nd lx)
   (ad (aQ PassesOwn.never rfl (aS (al 10)) (fX (n:=2) rfl (aW (q02 12 sc.nd) (aW (q02 13 sc.nd) cW)))
   (ai (nO (Mg (Ml (by decide:1<=64) _) hu) (al 11) (@rB _ _ _ _ _ _ _ _ (aa (al 12) ac) rfl rfl) (al 13) rfl)))
   (ad (q01 14 sc.nd aj)
   (ad (aQ PassesOwn.never rfl (aS (aH zAc (hr.mono nofun) rfl aL (aa (aM aP (al 1) aj (λ_ _=>rfl)) (aa (al 6) (aa (al 7) ac))))) (q02 12 sc.nd)
   (ad (q01 15 sc.nd (aH (CX:=kU P w) yaT (hr.mono nofun) rfl dI (aa (al 9) (aa (al 12) (aa (al 8) ac)))))
   (ad (bM (PW.pt (vw (PW.pt (ge (aK nw (al 15) jX (aZ _)) (fT (i7 (eU (aH zHb (hr.mono nofun) rfl aL (aa (al 15) ac)) λ_=>rfl))))) (oU (aK EZ (al 15) (vh (Mg (Ml (by decide:1<=64) _) hu) (al 11) (@rB _ _ _ _ _ _ _ _ (aa (al 12) ac) rfl rfl) ⟨rfl,rfl,rfl,rfl⟩) (aZ _)))))
   (ai (aG rZ))
   aR)
   (ai (q01 14 sc.nd (az (bu.m0 bP) (al 14) (b7 mK rfl nb.int yx (aa (jd nw (al 15) jX (aZ _)) ac))))))))
   (ai (aG (jd dN (al 14) (aF bf rfl nb.len bi (aa (al 10) ac)) (aZ _)))))))))))))))),?_⟩
  symm;refine⟨a,ns,0,rfl,ha,⋯,λc0=>⟨c0,rfl,λB H5 b1 s5=>⟨a,ns,1,rfl,s5.seq ha,⋯,λc1=>⟨c1,rfl,λlb p H6 m3 hb S d4 s6=>⟨am nofun,λtd g2=>h1 _ _ ?_⟩⟩⟩⟩⟩;clear h1;have s7:=af (o:=.tup [V.str (tx B),V.ref lb,V.int 9,V.int 3,V.int 90]) g2;have e5:aD H6 td (.tup [V.str (tx B),V.ref lb,V.int 9,V.int 3,V.int 90]) td=some (.tup [V.str (tx B),V.ref lb,V.int 9,V.int 3,V.int 90]):=ae;have e3:=s7 _ _ hb;have d1:=(s5.trans s6).trans s7;generalize aD H6 td (.tup [V.str (tx B),V.ref lb,V.int 9,V.int 3,V.int 90])=H7 at d1 e5 e3 ⊢;clear s7 s6 s5 hb m3 g2;symm;refine⟨a,ns,3,14,rfl,d1.seq ha,⋯,⋯,⋯,λlc cs H8 hlc0 l3 cs1 i6 s8=>⟨lc,td,lb,cs,p,B,9,3,90,rfl,l3,i6,s8 _ _ e5,s8 _ _ e3,S,d4,b1,nofun,nofun,nofun,nofun,λtp lr ls ts rs zs H9 l2 g h14 l0 hz14 s9=>⟨tp,rfl,_,cK.of l2,rfl,_,_,rfl,_,_,rfl,rfl,h1 _ _ ?_⟩⟩⟩;clear h1;have f0:=(d1.trans s8).trans s9;have m:=s9 _ _ (s8 _ _ e5);have d7:=s9 _ _ (s8 _ _ e3);symm;refine⟨a,ns,2,rfl,f0.seq ha,⋯,λc2=>h1 _ _ ?_⟩;grind;refine⟨am nofun,λp1 g5=>⟨am nofun,λp2 d5=>⟨am nofun,λp3 b2=>⟨am nofun,λp4 S=>⟨am nofun,λp5 U=>⟨am nofun,λp6 O=>⟨am nofun,λp7 I=>⟨am nofun,λp8 C=>⟨am nofun,λlz D=>h1 _ _ ?_⟩⟩⟩⟩⟩⟩⟩⟩⟩;clear h1;generalize z1:aD H9 p1 (.tup [V.int 1,V.int 1])=G1 at d5 b2 S U O I C D ⊢;obtain⟨t1,f1⟩:=gn g5 z1;generalize z2:aD G1 p2 (.tup [V.int 1,V.int 2])=G2 at b2 S U O I C D ⊢;obtain⟨t2,f2⟩:=gn d5 z2;generalize z3:aD G2 p3 (.tup [V.int 2,V.int 1])=G3 at S U O I C D ⊢;obtain⟨t3,f3⟩:=gn b2 z3;generalize z4:aD G3 p4 (.tup [V.int 1,V.int 3])=G4 at U O I C D ⊢;obtain⟨t4,f4⟩:=gn S z4;generalize z5:aD G4 p5 (.tup [V.int 3,V.int 1])=G5 at O I C D ⊢;obtain⟨t5,f5⟩:=gn U z5;generalize z6:aD G5 p6 (.tup [V.int 2,V.int 2])=G6 at I C D ⊢;obtain⟨t6,f6⟩:=gn O z6;generalize z7:aD G6 p7 (.tup [V.int 1,V.int 4])=G7 at C D ⊢;obtain⟨t7,f7⟩:=gn I z7;generalize z8:aD G7 p8 (.tup [V.int 4,V.int 1])=G8 at  D ⊢;obtain⟨t8,f8⟩:=gn C z8;generalize z9:aD G8 lz _=G9;obtain⟨t9,f9⟩:=gn D z9;have u8:=t9;have u7:=t8.trans u8;have u6:=t7.trans u7;have u5:=t6.trans u6;have u4:=t5.trans u5;have u3:=t4.trans u4;have u2:=t3.trans u3;have u1:=t2.trans u2;have a0:=t1.trans u1;have s0z:=f0.trans a0;have e8:∀k:Nat,k<8->∃(pk:Addr) (r c:Nat),ip [V.ref p1,V.ref p2,V.ref p3,V.ref p4,V.ref p5,V.ref p6,V.ref p7,V.ref p8] (k:Int)=some (V.ref pk)/\G9 pk=some (.tup [V.int (r:Int),V.int (c:Int)])/\1<=r/\r<=4/\1<=c/\c<=4/\r*c<=4:=λk hk=>by
   have:k=0\/k=1\/k=2\/k=3\/k=4\/k=5\/k=6\/k=7:=by omega
   rcases this with rfl | rfl | rfl | rfl | rfl | rfl | rfl | rfl
   ·exact⟨p1,1,1,rfl,u1 _ _ f1,nofun,nofun,nofun,nofun,nofun⟩
   ·exact⟨p2,1,2,rfl,u2 _ _ f2,nofun,nofun,nofun,nofun,nofun⟩
   ·exact⟨p3,2,1,rfl,u3 _ _ f3,nofun,nofun,nofun,nofun,nofun⟩
   ·exact⟨p4,1,3,rfl,u4 _ _ f4,nofun,nofun,nofun,nofun,nofun⟩
   ·exact⟨p5,3,1,rfl,u5 _ _ f5,nofun,nofun,nofun,nofun,nofun⟩
   ·exact⟨p6,2,2,rfl,u6 _ _ f6,nofun,nofun,nofun,nofun,nofun⟩
   ·exact⟨p7,1,4,rfl,u7 _ _ f7,nofun,nofun,nofun,nofun,nofun⟩
   ·exact⟨p8,4,1,rfl,u8 _ _ f8,nofun,nofun,nofun,nofun,nofun⟩
  clear z1 z2 z3 z4 z5 z6 z7 z8 z9 g5 d5 b2 S U O I C f1 f2 f3 f4 f5 f6 f7 f8 t1 t2 t3 t4 t5 t6 t7 t8 u1 u2 u3 u4 u5 u6 u7 u8;symm;have hsl:=gL b1;obtain⟨ez,h6,ez0,ez1⟩:∃ez:Int,(if decide (((tx B).length:Int)=3)=true then(1:Int) else 0)=ez/\0<=ez/\ez<=1:=⟨_,rfl,by split<;>omega,by split<;>omega⟩;obtain⟨kz,l4⟩:∃kz:Nat,c2%(8-3*ez)=(kz:Int):=⟨_,(Mr (Mp _ ⋯)).symm⟩;have h5:kz<8:=by have:=Mq c2 (b:=8-3*ez) ⋯;omega
  obtain⟨pk,r,c,h9,g4,r1,r4,c1,c4,k2⟩:=e8 kz h5;refine⟨_,cK.of (a0 _ _ m),_,rfl,tx B,rfl,by rw[aw];exact am ⋯,_,rfl,ez,q0R V.int h6,⋯,_,aI.of f9,_,by rw[l4];exact h9,pk,rfl,_,cK.of g4,rfl,_,_,rfl,_,_,rfl,rfl,h1 _ _ ?_⟩;clear h1 e8 h9 g4 h6;have g9:=g.up a0;have d7:=a0 _ _ d7;have m:=a0 _ _ m;have d3:=g.ro;have Z:=g9.rows;have hl2:=Z.2.1;have hts:0<ts.length:=by
   match zs,l0,g.good with
   | [],h,_=>exact q0Q rfl h
   |z::_,_,hg=>have:=(hg z q0B).rn;omega
  symm;obtain⟨jn,l6⟩:∃j:Nat,c2/8%(ts.length:Int)=(j:Int):=⟨_,(Mr (Mp _ ⋯)).symm⟩;have c3:jn<ts.length:=by have:=Mq (c2/8) (b:=(ts.length:Int)) ⋯;omega
  have i1:ts[jn]?=some (ts[jn]'c3):=Lz c3;have e6:rs[jn]?=some (rs[jn]'⋯):=Lz ⋯;have g1:=Z.2.2 jn _ _ i1 e6;have b3:=LG e6;have a7:∀r∈rs,kH r:=λr hr=>(d3 r hr).good;have c6:=Cn (a7 _ b3).k4;generalize(rs[jn]'⋯)=rn at b3 c6 g1 e6;refine⟨_,aI.of Z.1,by rw[LC];omega,_,aI.of Z.1,_,by rw[LC,l6];exact bH (by rw[LF,i1];rfl),_,rfl,_,cK.of g1,_,c6,h1 _ _ ?_⟩;clear h1;have a4:0<p.length:=by omega
  have g6:p[0]?=some (p[0]'a4):=Lz a4;have T:p[0]'a4∈p:=LK a4;generalize p[0]'a4=st at g6 T;have hstn:=jf (d4 _ T);have m8:ip (av p) 0=some (V.str (tx st)):=(show ip _ ((0:Nat):Int)=_ from bH (by unfold av;rw[LF,g6];rfl));obtain⟨b0,h0,b4,hnl2,hnp⟩:=EK T d3;symm;refine⟨_,cK.of m,_,rfl,_,cK.of m,_,rfl,lb,rfl,_,aI.of d7,_,m8,lr,B,st,ts,rs,rfl,Z,a7,⋯,⋯,⋯,AV b1 T d4 ⋯ ⋯ d3,λgr gd ga HA gA sA=>h1 _ _ ?_⟩;clear h1;have g3:B.length ^ (r*c)<=300:=L9 (Nat.pow_le_pow_left (show B.length<=4 by omega) (r*c)) (L9 (Nat.pow_le_pow_right nofun k2) nofun);have hE:Hd rs b0 B r c:=⟨r1,⋯,c1,⋯,⋯,⋯,λs hs e=>by
   have:=nK b1 hs;rw[e]at this;exact q0Q this (by decide +kernel),a7,b4,⋯,⋯,λp hp _=>IP hp ⋯ ⋯ ⋯⟩
  symm;refine⟨gr,gd,B,st,rn.2.n,ga,rs,b0,r,c,rfl,gA,h0,hE,λhno=>q0Q (b4 _ b3) hno,λ_ hb=>q0Q hb ⋯,λ_ _ lf HB e9 fs ss hlf a8 ybe hF m5 j0 sB=>h1 _ _ ?_⟩;grind;refine λld d6=>h1 _ _ ?_;clear h1;generalize zd:aD HB ld _=HC;obtain⟨sC,Y⟩:=gn d6 zd;symm;have d:=sC _ _ m5;have a6:∀y∈fs,rect y.1 r c/\bK y.1:=λy M=>by
   obtain⟨h1,h2⟩:=eJ.mp (hF.mem y M);exact⟨h1,λrow a2 e4=>hE.sl 47 (a8.mem_iff.mp (h2 row a2 47 e4)) rfl⟩
  have d2:∀y∈fs,vH y.1:=λy M=>dA (a6 y M).1 (a6 y M).2 (bd.self (a6 y M).1 r1 c1);have j1:aO qa HC e9 fs:=j0.mono λt y _ _ h=>h.up sC;refine⟨⟨_,aI.of d⟩,?_⟩;refine bB (xs:=e9.map V.ref) (λi σ H'=>∃(L J:Option V) (l:List (cO×V)),σ=[some (V.ref a),some (V.ref td),some (V.ref lr),some (V.ref ls),some (V.int c2),some (V.ref lz),some (V.int (r:Int)),some (V.int (c:Int)),some (V.str (tx rn.2.n)),some (V.ref gr),some (V.ref lf),some (V.ref ld),L,J,none,none]/\H' ld=some (.dK l)/\aT ld HC H'/\l.length<=i/\Hg l (fs.take i)) ⟨_,_,[],rfl,Y,aT.of λ_ _ h=>h,L1 _,?_⟩ (λi σ H' _ h=>?_) ?_ ?_
  ·exact⟨(λy M=>nomatch M),(λz w hw=>nomatch hw)⟩
  ·obtain⟨_,_,_,_,_,sx,_⟩:=h
   exact aI.of (sx _ _ (λz=>by rw[z,Y]at d;cases d) d)
  ·rintro i x σ H' hx ⟨L,J,l,rfl,e7,sx,l5,hT⟩
   rw[LF]at hx;obtain⟨t,ht,rfl⟩:=L6.mp hx;obtain⟨y,M,b,h3,h4⟩:=j1.get ht;have G:=LG M;have l1:=a6 y G;have k5:t≠ld:=λz=>by rw[z,Y]at h3;cases h3
   have k7:b≠ld:=λz=>by rw[z]at h4;rw[show HC ld=_ from h4]at Y;cases Y
   have small:dw y.1:=dw.of l1.1 ⋯ ⋯;have l7:=hF.len;rw[nZ,a8.length_eq,Nat.mul_comm]at l7;have hi:i<fs.length:=(LA.mp M).1;ext;refine⟨_,cK.of (sx _ _ k5 h3),rfl,_,_,rfl,_,_,rfl,rfl,rfl,b,rfl,y.1.map tx,.inl (by rw[<- fK];exact aI.of (sx _ _ k7 h4)),?_,_,by rw[nM];exact tY.k (k:=.inr (tx (bp y.1))) e7 (aU ⋯),_,ae,sx.put,L9 (eO _ _ _) ⋯,⟨λu hu=>?_,λz w hw=>?_⟩⟩
   ·have:=jp small.2
    have h1:=small.1;have e0:(Str.ofString "/").length=1:=rfl;rw[LC,e0];have h2:y.1.length*64<=64*64:=Nat.mul_le_mul_right _ h1;omega
   ·rw[wb]
    rw[q0E,M]at hu;rcases LP.mp hu with hu | hu
    ·have g0:=q0H hu
     by_cases e:(Sum.inr (tx (bp u.1)):cO)=.inr (tx (bp y.1))
     ·rw[q07 e]
      have e2:u.1=y.1:=(d2 u g0).inj (d2 y G) (cN (Sum.inr.inj e));have m1:=hF.mn u g0;rw[e2]at m1;rw[(hF.mn y G).uniq m1]
     ·rw[q06 e];exact hT.1 u hu
    ·have e:u=y:=by simpa using hu
     rw[e,q07 rfl]
   ·rw[wb]at hw
    rw[q0E,M]
    by_cases e:(Sum.inr z:cO)=.inr (tx (bp y.1))
    ·rw[q07 e]at hw
     cases hw;exact⟨y,by simp,Sum.inr.inj e,rfl⟩
    ·rw[q06 e]at hw
     obtain⟨u,hu,e1,e2⟩:=hT.2 z w hw;exact⟨u,LP.mpr (.inl hu),e1,e2⟩
  ·rintro σ H' ⟨L,J,l,rfl,e7,sx,l5,hT⟩
   refine h1 _ _ ?_;grind;refine h1 _ _ ?_;clear h1;rw[LC,j1.1,Md]at hT;have k0:=sA.trans (sB.trans sC);have eg:∀{H2:Hp},aT ld HC H2->ax G9 H2:=fun{H2} s b o h=>s b o (λz=>by
    have:=(sA.trans sB) _ _ h;rw[z,d6]at this;cases this) (k0 b o h)
   symm;refine⟨_,cK.of (eg sx _ _ m),_,rfl,B,r,c,rfl,r1,⋯,c1,⋯,⋯,⋯,g3,λla HD bs hla i3 j2 sD=>⟨la,rfl,⟨_,aI.of i3⟩,?_⟩⟩;have m7:=sD _ _ e7;have sgD:=(eg sx).trans sD;have k6:lf≠ld:=λz=>by rw[z,Y]at d;cases d
   have i2:=sD _ _ (sx _ _ k6 d);have hpl2:(ia B r c).length<=300:=by rw[nZ,Nat.mul_comm];exact g3
   have m2:=j2.1;have k1:ax HA HD:=λb o h=>sD _ _ (sx b o (λz=>by have:=sB _ _ h;rw[z,d6]at this;cases this) ((sB.trans sC) _ _ h));have m4:=gA.up k1;refine bB (xs:=bs.map V.ref) (λi σ H2=>∃(L J c9:Option V),σ=[some (V.ref a),some (V.ref td),some (V.ref lr),some (V.ref ls),some (V.int c2),some (V.ref lz),some (V.int (r:Int)),some (V.int (c:Int)),some (V.str (tx rn.2.n)),some (V.ref gr),some (V.ref lf),some (V.ref ld),L,J,some (V.int ((((ia B r c).take i).filter (xo fs)).length:Int)),c9]/\ax HD H2) ⟨_,_,_,rfl,ax.refl _⟩ (λi σ H2 _ h=>?_) ?_ ?_
   ·obtain⟨_,_,_,_,s⟩:=h
    exact aI.of (s _ _ i3)
   ·rintro i x σ H2 hx ⟨L,J,c9,rfl,s2⟩
    rw[LF]at hx;obtain⟨b,hb,rfl⟩:=L6.mp hx;obtain⟨y,M,h7⟩:=j2.get hb;have G:=LG M;have a1:y∈ia ss r c:=(rM a8 r c).mem_iff.mpr G;have a3:rect y r c:=(eJ.mp G).1;have g7:bK y:=λrow a2 e4=>hE.sl 47 ((eJ.mp G).2 row a2 47 e4) rfl;have Ep:kY rs b0 y r c:=⟨a3,r1,c1,⋯,⋯,g7,a7,b4,⋯,⋯,hE.few _ a3 (eJ.mp G).2⟩;ac_nf;refine⟨gr,gd,b,B,st,ga,rs,b0,y,r,c,_,rfl,m4.up s2,h0,Ep,s2 _ _ h7,.inr ⟨rn.2.n,rfl,λ_ H4 tb hB s4=>h2 _ _ ?_,λh=>q0Q (b4 _ b3) h⟩⟩;walk_at "oc";have a9:=s2.trans s4;have b5:=a9 _ _ m7;have h8:=a9 _ _ h7;have small:dw y:=dw.of a3 ⋯ ⋯;have b8:((y.map tx).map λx=>x.length).sum+(y.map tx).length*(Str.ofString "/").length<=16777216:=by
     have:=jp small.2;have h1:=small.1;have e0:(Str.ofString "/").length=1:=rfl;rw[LC,e0];have h2:y.length*64<=64*64:=Nat.mul_le_mul_right _ h1;omega
    have k3:vH y:=dA a3 g7 (bd.self a3 r1 c1);have i0:((ia B r c).take (i+1)).filter (xo fs)=((ia B r c).take i).filter (xo fs)++[y].filter (xo fs):=by rw[q0E,M,List.filter_append];rfl
    rcases hF.has y a1 with⟨v,hv⟩ | hno
    ·have hM:=hF.mn (y,v) hv
     have hn:aN tb (bp y,rn.2.n)=some v:=by
      obtain⟨v',l',h'⟩:=hB.min Ep (bd.self Ep.hp Ep.r0 Ep.c0) hM.1;rw[h',Int.le_antisymm l' (hM.2 _ (hB.key _ _ h').2.2.1)]
     have a5:cJ l (.inr (tx (bp y)))=some (.int v):=hT.1 (y,v) hv;rw[hn];rw[q07 (λh=>nomatch h)];refine⟨v,rfl,true,rfl,?_⟩;rw[q06 nofun];refine⟨.inl ⟨_,.inl b5⟩,rfl,y.map tx,.inl (by rw[<- fK];exact aI.of h8),b8,some (.int v),by rw[nM];exact .inl ⟨l,.inr _,.inl b5,rfl,a5.symm⟩,rfl,?_⟩;rw[q06 (λh=>h rfl)];refine h2 _ _ ?_;ext;refine⟨_,rfl,1,rfl,?_,a9⟩;rw[i0,LZ,List.filter_cons,q07 ((hF.hits a1).mpr ⟨v,hM.1⟩)]
     rfl
    ·have hn:aN tb (bp y,rn.2.n)=none:=by
      cases h:aN tb (bp y,rn.2.n) with
      |none=>rfl
      |some v=>exact q0Q (hB.key _ _ h).2.2.1 (hno v)
     have a5:cJ l (.inr (tx (bp y)))=none:=by
      cases h:cJ l (.inr (tx (bp y))) with
      |none=>rfl
      |some w=>
       obtain⟨u,hu,e1,_⟩:=hT.2 _ _ h;have e2:y=u.1:=k3.inj (d2 u hu) (cN e1);exact q0Q (by rw[e2];exact(hF.mn u hu).1) (hno u.2)
     rw[hn];rw[q06 (λh=>h rfl)];refine⟨.inl ⟨_,.inl b5⟩,rfl,y.map tx,.inl (by rw[<- fK];exact aI.of h8),b8,none,by rw[nM];exact .inl ⟨l,.inr _,.inl b5,rfl,a5.symm⟩,rfl,?_⟩;rw[q06 (λh=>h rfl)];refine h2 _ _ ?_;ext;refine⟨_,rfl,0,rfl,?_,a9⟩;rw[i0,LZ,List.filter_cons,q06 (λe=>by obtain⟨v,hv⟩:=(hF.hits a1).mp e;exact hno v hv)]
     rfl
   ·rintro σ H2 ⟨L,J,c9,rfl,s2⟩
    refine h1 _ _ ?_;ext;refine⟨_,aI.of (s2 _ _ i2),?_⟩;have hc:((ia B r c).filter (xo fs)).length=fs.length:=by
     rw[<- ((rM a8 r c).filter _).length_eq];exact hF.count _ λp hp=>hF.hits hp
    rw[LC,LC,m2,Md,hc,j0.1];rw[q09 rfl];exact q H2
end
theorem bdc{n:Nat}{P:List Value->Prop}(h:∀a us,us.length=n->P (a::us)):∀us:List Value,us.length=n+1->P us:=by
 intro us e;cases us with|nil=>cases e|cons a us=>exact h a us (Nat.succ.inj e)
theorem bd0{P:List Value->Prop}(h:P []):∀us:List Value,us.length=0->P us:=by
 intro us e;cases us with|nil=>exact h|cons a us=>cases e
theorem bd1{P:List Value->Prop}(h:∀a,P [a]):∀us:List Value,us.length=1->P us:=bdc λa=>bd0 (P:=λus=>P (a::us)) (h a)
theorem bd2{P:List Value->Prop}(h:∀a b,P [a,b]):∀us:List Value,us.length=2->P us:=bdc λa=>bd1 (P:=λus=>P (a::us)) (h a)
theorem bd3{P:List Value->Prop}(h:∀a b c,P [a,b,c]):∀us:List Value,us.length=3->P us:=bdc λa=>bd2 (P:=λus=>P (a::us)) (h a)
theorem bd4{P:List Value->Prop}(h:∀a b c d,P [a,b,c,d]):∀us:List Value,us.length=4->P us:=bdc λa=>bd3 (P:=λus=>P (a::us)) (h a)
theorem bd5{P:List Value->Prop}(h:∀a b c d e,P [a,b,c,d,e]):∀us:List Value,us.length=5->P us:=bdc λa=>bd4 (P:=λus=>P (a::us)) (h a)
theorem bd6{P:List Value->Prop}(h:∀a b c d e f,P [a,b,c,d,e,f]):∀us:List Value,us.length=6->P us:=bdc λa=>bd5 (P:=λus=>P (a::us)) (h a)
def FK(K:W.Frag)(x:Str)(st:Stmt)(f:Addr):Prop:=W.nsIn K mainGlobals x=some (some (.ref f))/\∃oc od osl kV doc pm an cdv ct,K.lookup f=some ⟨oc,od,.func (W.fnOf x x (cX st) (cB st) (ao st) .none kV doc pm an cdv ct),osl⟩/\W.codeIn K cdv x=true/\W.keepIn K (.ref f)=true
theorem fk_mk{K:W.Frag}{st:Stmt}{f:Addr}{oc:Value}{od an:ML}{osl:Array (Option Value)}{kV doc pm cdv ct:Value}(a:W.nsIn K mainGlobals x=some (some (.ref f)))(l:K.lookup f=some ⟨oc,od,.func (W.fnOf x x (cX st) (cB st) (ao st) .none kV doc pm an cdv ct),osl⟩)(c:W.codeIn K cdv x=true)(k:W.keepIn K (.ref f)=true):FK K x st f:=⟨a,oc,od,osl,kV,doc,pm,an,cdv,ct,l,c,k⟩
def MK(K:W.Frag)(x q:Str)(st:Stmt)(f:Addr):Prop:=∃oc od osl kV doc pm an cdv ct,K.lookup f=some ⟨oc,od,.func (W.fnOf x q (cX st) (cB st) (ao st) .none kV doc pm an cdv ct),osl⟩/\W.codeIn K cdv q=true/\W.keepIn K (.ref f)=true/\W.isFn K (.ref f)=true
theorem mk_mk{K:W.Frag}{st:Stmt}{f:Addr}{oc:Value}{od an:ML}{osl:Array (Option Value)}{kV doc pm cdv ct:Value}(l:K.lookup f=some ⟨oc,od,.func (W.fnOf x q (cX st) (cB st) (ao st) .none kV doc pm an cdv ct),osl⟩)(c:W.codeIn K cdv q=true)(k:W.keepIn K (.ref f)=true)(i:W.isFn K (.ref f)=true):MK K x q st f:=⟨oc,od,osl,kV,doc,pm,an,cdv,ct,l,c,k,i⟩
theorem FK.cal{K:W.Frag}{st:Stmt}{f:Addr}{mg:MB}{CX:iR}{k:Nat}{ps:MF}{sp:Sp}(P:ME)(w:MJ)(base:Heap)(q:FK K x st f)(X:K.In h)(G:h.Ns mainGlobals mg)
  (ok:∀fd,cZ K x x st f fd->mg x=some (.ref f)->W.keepIn K (.ref f)=true->dW K fd ps []->aY P w K mg base CX k f fd ps sp)
  (hb:∀(kV doc pm:Value) (an:ML) (cdv ct:Value) (us:Mz),us.length=ps.length->bindArgs (W.fnOf x x (cX st) (cB st) (ao st) .none kV doc pm an cdv ct) ⟨us,[]⟩=pure (ps.zip us):=by first|exact λ_ _ _ _ _ _=>bd1 λ_=>rfl|exact λ_ _ _ _ _ _=>bd2 λ_ _=>rfl|exact λ_ _ _ _ _ _=>bd3 λ_ _ _=>rfl|exact λ_ _ _ _ _ _=>bd4 λ_ _ _ _=>rfl):dk P w K mg base CX k x ps sp:=by
 obtain⟨a,oc,od,osl,kV,doc,pm,an,cdv,ct,l,c,d⟩:=q;have F:=cP l c d;have b:=F.binds hb;exact⟨_,_,ok _ F (W.mg_of X G a) d b,W.mg_of X G a,d,b⟩
def HE(K:W.Frag)(x:Str)(st:Stmt)(f:Addr):Prop:=W.nsIn K mainGlobals x=some (some (.ref f))/\∃oc od osl kV doc pm an cdv ct dT o n,K.lookup f=some ⟨oc,od,.func (W.fnOf x x (cX st) (cB st) (ao st) (.ref dT) kV doc pm an cdv ct),osl⟩/\W.codeIn K cdv x=true/\W.keepIn K (.ref f)=true/\K.lookup dT=some o/\o.data=.seq #[.none] n
theorem fkd_mk{K:W.Frag}{st:Stmt}{f dT:Addr}{oc:Value}{od an:ML}{osl:Array (Option Value)}{kV doc pm cdv ct:Value}{o:Obj}{n:Nat}(a:W.nsIn K mainGlobals x=some (some (.ref f)))(l:K.lookup f=some ⟨oc,od,.func (W.fnOf x x (cX st) (cB st) (ao st) (.ref dT) kV doc pm an cdv ct),osl⟩)(c:W.codeIn K cdv x=true)(k:W.keepIn K (.ref f)=true)(t:K.lookup dT=some o)(d:o.data=.seq #[.none] n):HE K x st f:=⟨a,oc,od,osl,kV,doc,pm,an,cdv,ct,dT,o,n,l,c,k,t,d⟩
theorem HE.cal{K:W.Frag}{st:Stmt}{f:Addr}{base:Heap}{mg:MB}{CX:iR}{k:Nat}{ps:MF}{sp:Sp}(q:HE K x st f)(X:K.In h)(G:h.Ns mainGlobals mg)
  (ok:∀fd dT,D9 K x x st f fd dT->aY P w K mg base CX k f fd ps sp)
  (hb:∀(dT:Addr) (kV doc pm:Value) (an:ML) (cdv ct:Value) (us:Mz),us.length=ps.length->∃g,bindArgs (W.fnOf x x (cX st) (cB st) (ao st) (.ref dT) kV doc pm an cdv ct) ⟨us,[]⟩=seqItems? (.ref dT) >>= g/\g (some #[.none])=pure (ps.zip us)):dk P w K mg base CX k x ps sp:=by
 obtain⟨a,j,i,b,kV,doc,pm,an,cdv,ct,dT,o,n,l,c,m,t,d⟩:=q;refine⟨f,_,ok _ dT ⟨j,i,kV,doc,pm,an,cdv,ct,b,rfl,l,c⟩,W.mg_of X G a,m,λs us p e=>?_⟩;rw[Ma]at e ⊢;obtain⟨g,h1,h2⟩:=hb dT kV doc pm an cdv ct us e;exact BindsTo.of_defaults rfl (p _ _ t) d h1 h2
theorem all_mk{l:W.OpenLaw}{K:W.Frag}{mg:MB}{fa:Addr}(X:K.In h)(G:h.Ns mainGlobals mg)(K':mg "law"=some (.ref fa))
  (a1:FK K "only_of" lI f1) (a2:FK K "is_name" l8 f2) (a3:FK K "are_signs" iZ f3) (a4:FK K "check_made_of" eS f4) (a5:FK K "numbers_by_name" dX f5) (a6:FK K "mirror" nX f6) (a7:FK K "column_from_below" dt f7) (a8:FK K "quarter" lE f8) (a9:FK K "turned" pA f9) (Kg:FK K "after" sO f10) (Kc:FK K "back" xB f11) (KD:FK K "shown" uB f12) (Js:FK K "windows_of" ik f13) (Jv:FK K "cut_out" lT f14) (KN:FK K "cells_then_rows" dU f15) (JF:FK K "seen_in" mx f16) (Ke:FK K "parted" oH f17) (Jy:FK K "parted_texts" fH f18) (Lb:FK K "cost_by" my f19) (JV:FK K "coming" oG f20) (K9:FK K "lower" uv f21) (Jm:FK K "put_together" fE f22) (JI:FK K "turn_about" ic f23) (J3:FK K "enter_turnings" d0 f24) (Kv:FK K "enter_seen" gU f25) (KK:FK K "table_of" j9 f26) (Kn:FK K "name_asked" gQ f27) (J0:HE K "least_cost" gK f28) (JX:FK K "how_many" j_ f29) (Kt:FK K "chains" oV f30) (JB:FK K "all_pictures" fJ f31) (Jz:FK K "pictures_of" gq f32) (JT:FK K "_law_cell" oO f33) (Lf:FK K "_law_cells" lW f34) (JL:FK K "_law_whole" ma f35) (K1:FK K "_law_signs" mD f36) (JR:FK K "_law_any_names" gl f37) (Kb:FK K "_law_names" lO f38) (J':FK K "_law_rule" oF f39) (JO:FK K "_law_grammar" iL f40) (KU:FK K "_law_turned" ke f41) (KY:FK K "_law_joined" jP f42) (Lo:FK K "_law_noted" lX f43) (Jn:FK K "_law_put" sJ f44) (JW:FK K "_law_any_rule" hV f45) (Jg:FK K "_law_step" pE f46) (J4:FK K "_law_grown" mj f47) (Jj:FK K "_law_all" ud f48) (K5:FK K "law" rP f49)
  {yac yae zya zda zna zaa zia zba zla zca zoa zga zza zsa zua zAa zea zpa zLa zBa zCa zma yaa ybb ya8 yad:Addr} {yby ybs ybo ybr ybt ybp ybD ybq ybj:Tok} {ybG ybk:ML} {ybC ybE:ClassData} {ybw ybB:Array (Option Value)}  (DD:W.nsIn K mainGlobals "NoName"=some (some (.ref yac))) (Cc:K.lookup yac=some ⟨.type "type",ybG,.cls ybC,ybw⟩) (wo:W.excIn K yac [.type "ValueError",.type "Exception",.type "BaseException",.type "object"] "ValueError.__new__"=true) (zC:W.findIn K (.ref yac) "__getattribute__"=some (some (.builtin "BaseException.__getattribute__"))) (zJ:W.findIn K (.ref yac) "__getattr__"=some none) (zZ:W.mroIn K yac (.type "BaseException")=some true) (AG:W.mroIn K yac (.type "object")=some true) (zF:W.findIn K (.ref yac) "__class__"=some (some (.builtin "object.__class__"))) (Fg:W.specialIn K (.builtin "object.__class__") "__get__"=some (some (.builtin "getset_descriptor.__get__"))) (EY:W.takesIn K (.builtin "object.__class__")=some true) (AN:W.nsIn K mainGlobals "CAPITALS"=some (some (.str "ABCDEFGHIJKLMNOPQRSTUVWXYZ" yby))) (DI:W.nsIn K mainGlobals "SMALLS"=some (some (.str "abcdefghijklmnopqrstuvwxyz" ybs))) (p9:W.nsIn K mainGlobals "LONGEST_NAME"=some (some (.int 4 ybo))) (GZ:W.nsIn K mainGlobals "Rule"=some (some (.ref yae))) (Gj:W.specialIn K (.ref yae) "__getattribute__"=some (some (.builtin "type.__getattribute__"))) (FP:W.readsIn K yae (.type "type")=true) (mX:W.findCls K (.ref yae) (.type "type") "__init__"=some (.val (.ref zya))) (nr:MK K "__init__" "Rule.__init__" gb zya) (AO:W.nsIn K mainGlobals "CellRule"=some (some (.ref zda))) (Jl:W.plainGet K zda Str.empty=true) (Lk:W.hasDictIn K zda=true) (KF:W.plainOver K zda=true) (K_:W.findIn K (.ref zda) "__setattr__"=some (some (.builtin "object.__setattr__"))) (Kk:W.findIn K (.ref zda) "__class__"=some (some (.builtin "object.__class__"))) (Kj:W.mroIn K zda (.type "object")=some true) (K7:W.findIn K (.ref zda) "name"=some none) (JU:W.findIn K (.ref zda) "cost"=some none) (Jw:W.findIn K (.ref zda) "part_names"=some none) (Kh:W.findIn K (.ref zda) "sign"=some none) (xP:W.makesIn K zda=true) (xr:W.findIn K (.ref zda) "__init__"=some (some (.ref zna))) (jC:MK K "__init__" "CellRule.__init__" fY zna) (yq:W.keepIn K (.ref zda)=true) (Ld:W.kitOne K (.ref zda) (.ref yae)=some true) (IU:W.kitOne K (.ref zda) (.ref zda)=some true) (v5:W.nsIn K mainGlobals "BesideRule"=some (some (.ref zaa))) (J7:W.plainGet K zaa Str.empty=true) (KI:W.hasDictIn K zaa=true) (Li:W.plainOver K zaa=true) (KR:W.findIn K (.ref zaa) "__setattr__"=some (some (.builtin "object.__setattr__"))) (Jh:W.findIn K (.ref zaa) "__class__"=some (some (.builtin "object.__class__"))) (KA:W.mroIn K zaa (.type "object")=some true) (Lh:W.findIn K (.ref zaa) "name"=some none) (K4:W.findIn K (.ref zaa) "cost"=some none) (Lq:W.findIn K (.ref zaa) "part_names"=some none) (JD:W.findIn K (.ref zaa) "one"=some none) (JK:W.findIn K (.ref zaa) "other"=some none) (uq:W.makesIn K zaa=true) (uy:W.findIn K (.ref zaa) "__init__"=some (some (.ref zia))) (iD:MK K "__init__" "BesideRule.__init__" eD zia) (sv:W.keepIn K (.ref zaa)=true) (Kd:W.kitOne K (.ref zaa) (.ref yae)=some true) (IV:W.kitOne K (.ref zaa) (.ref zaa)=some true) (xA:W.nsIn K mainGlobals "AboveRule"=some (some (.ref zba))) (Ls:W.plainGet K zba Str.empty=true) (KJ:W.hasDictIn K zba=true) (Jp:W.plainOver K zba=true) (Ji:W.findIn K (.ref zba) "__setattr__"=some (some (.builtin "object.__setattr__"))) (KZ:W.findIn K (.ref zba) "__class__"=some (some (.builtin "object.__class__"))) (JA:W.mroIn K zba (.type "object")=some true) (KO:W.findIn K (.ref zba) "name"=some none) (Kq:W.findIn K (.ref zba) "cost"=some none) (Ju:W.findIn K (.ref zba) "part_names"=some none) (JE:W.findIn K (.ref zba) "one"=some none) (Ln:W.findIn K (.ref zba) "other"=some none) (v3:W.makesIn K zba=true) (v7:W.findIn K (.ref zba) "__init__"=some (some (.ref zla))) (i6:MK K "__init__" "AboveRule.__init__" fo zla) (vW:W.keepIn K (.ref zba)=true) (JZ:W.kitOne K (.ref zba) (.ref yae)=some true) (I0:W.kitOne K (.ref zba) (.ref zba)=some true) (zE:W.nsIn K mainGlobals "TurnRule"=some (some (.ref zca))) (Ku:W.plainGet K zca Str.empty=true) (KL:W.hasDictIn K zca=true) (K6:W.plainOver K zca=true) (Jt:W.findIn K (.ref zca) "__setattr__"=some (some (.builtin "object.__setattr__"))) (Kx:W.findIn K (.ref zca) "__class__"=some (some (.builtin "object.__class__"))) (Le:W.mroIn K zca (.type "object")=some true) (JS:W.findIn K (.ref zca) "name"=some none) (Ka:W.findIn K (.ref zca) "cost"=some none) (Jr:W.findIn K (.ref zca) "part_names"=some none) (Kz:W.findIn K (.ref zca) "part"=some none) (K2:W.findIn K (.ref zca) "turning"=some none) (wH:W.makesIn K zca=true) (xg:W.findIn K (.ref zca) "__init__"=some (some (.ref zoa))) (jE:MK K "__init__" "TurnRule.__init__" fU zoa) (xb:W.keepIn K (.ref zca)=true) (J9:W.kitOne K (.ref zca) (.ref yae)=some true) (Jb:W.kitOne K (.ref zca) (.ref zca)=some true) (vA:W.nsIn K mainGlobals "MOST_SIGNS"=some (some (.int 4 ybr))) (wk:W.nsIn K mainGlobals "MOST_RULES"=some (some (.int 24 ybt))) (uO:W.nsIn K mainGlobals "MOST_NAMES"=some (some (.int 8 ybp))) (Aq:W.nsIn K mainGlobals "TURNINGS"=some (some (.int 8 ybD))) (KP:W.kitOne K (.ref zda) (.ref zaa)=some false) (J8:W.kitOne K (.ref zda) (.ref zba)=some false) (KG:W.kitOne K (.ref zda) (.ref zca)=some false) (Ko:W.kitOne K (.ref zaa) (.ref zda)=some false) (JJ:W.kitOne K (.ref zaa) (.ref zba)=some false) (Lr:W.kitOne K (.ref zaa) (.ref zca)=some false) (Jk:W.kitOne K (.ref zba) (.ref zda)=some false) (Jx:W.kitOne K (.ref zba) (.ref zaa)=some false) (Lc:W.kitOne K (.ref zba) (.ref zca)=some false) (Kw:W.kitOne K (.ref zca) (.ref zda)=some false) (J2:W.kitOne K (.ref zca) (.ref zaa)=some false) (KW:W.kitOne K (.ref zca) (.ref zba)=some false) (lY:W.findIn K (.ref zda) "parts"=some (some (.ref zga))) (ug:MK K "parts" "Rule.parts" fe zga) (ng:W.findIn K (.ref zda) "ways"=some (some (.ref zza))) (m7:MK K "ways" "CellRule.ways" fS zza) (j0:W.findIn K (.ref zaa) "parts"=some (some (.ref zga))) (ku:W.findIn K (.ref zaa) "ways"=some (some (.ref zsa))) (ly:MK K "ways" "BesideRule.ways" d9 zsa) (kh:W.findIn K (.ref zba) "parts"=some (some (.ref zga))) (lK:W.findIn K (.ref zba) "ways"=some (some (.ref zua))) (l_:MK K "ways" "AboveRule.ways" ft zua) (lM:W.findIn K (.ref zca) "parts"=some (some (.ref zga))) (nh:W.findIn K (.ref zca) "ways"=some (some (.ref zAa))) (m8:MK K "ways" "TurnRule.ways" fW zAa) (B5:W.nsIn K mainGlobals "Grammar"=some (some (.ref zea))) (Je:W.plainGet K zea Str.empty=true) (JG:W.hasDictIn K zea=true) (JQ:W.plainOver K zea=true) (K0:W.findIn K (.ref zea) "__setattr__"=some (some (.builtin "object.__setattr__"))) (JH:W.findIn K (.ref zea) "__class__"=some (some (.builtin "object.__class__"))) (Ki:W.mroIn K zea (.type "object")=some true) (Km:W.findIn K (.ref zea) "signs"=some none) (J1:W.findIn K (.ref zea) "start"=some none) (JY:W.findIn K (.ref zea) "kept"=some none) (J6:W.findIn K (.ref zea) "numbers"=some none) (zY:W.makesIn K zea=true) (zu:W.findIn K (.ref zea) "__init__"=some (some (.ref zpa))) (jS:MK K "__init__" "Grammar.__init__" f_ zpa) (Am:W.keepIn K (.ref zea)=true) (oJ:W.findIn K (.ref zea) "rule"=some (some (.ref zLa))) (oz:MK K "rule" "Grammar.rule" f' zLa) (nk:W.findIn K (.ref zea) "rules"=some (some (.ref zBa))) (mV:MK K "rules" "Grammar.rules" fu zBa) (mZ:W.findIn K (.ref zea) "names"=some (some (.ref zCa))) (m_:MK K "names" "Grammar.names" eZ zCa) (iP:W.findIn K (.ref zea) "numbers_of"=some (some (.ref zma))) (iV:MK K "numbers_of" "Grammar.numbers_of" cY zma) (Hs:W.nsIn K mainGlobals "Cuts"=some (some (.ref yaa))) (GC:W.plainGet K yaa Str.empty=true) (Gu:W.hasDictIn K yaa=true) (Gw:W.plainOver K yaa=true) (FX:W.findIn K (.ref yaa) "__setattr__"=some (some (.builtin "object.__setattr__"))) (GD:W.findIn K (.ref yaa) "__class__"=some (some (.builtin "object.__class__"))) (FE:W.mroIn K yaa (.type "object")=some true) (oo:W.findIn K (.ref yaa) "picture"=some none) (vy:W.findIn K (.ref yaa) "text"=some none) (jx:W.findIn K (.ref yaa) "beside_texts"=some none) (jZ:W.findIn K (.ref yaa) "above_texts"=some none) (F9:W.makesIn K yaa=true) (Gy:W.findIn K (.ref yaa) "__init__"=some (some (.ref ybb))) (nn:MK K "__init__" "Cuts.__init__" gc ybb) (FF:W.keepIn K (.ref yaa)=true) (jO:W.findIn K (.ref yaa) "turned_text"=some (some (.ref ya8))) (ka:MK K "turned_text" "Cuts.turned_text" d_ ya8) (G_:W.nsIn K mainGlobals "MOST"=some (some (.int 6 ybq))) (o0:W.nsIn K mainGlobals "MOST_PICTURES"=some (some (.int 300 ybj))) (C7:W.nsIn K mainGlobals "TooMany"=some (some (.ref yad))) (Ag:K.lookup yad=some ⟨.type "type",ybk,.cls ybE,ybB⟩) (qP:W.excIn K yad [.type "ValueError",.type "Exception",.type "BaseException",.type "object"] "ValueError.__new__"=true) (wU:W.findIn K (.ref yad) "__getattribute__"=some (some (.builtin "BaseException.__getattribute__"))) (xO:W.findIn K (.ref yad) "__getattr__"=some none) (xN:W.mroIn K yad (.type "BaseException")=some true) (wY:W.mroIn K yad (.type "object")=some true) (wZ:W.findIn K (.ref yad) "__class__"=some (some (.builtin "object.__class__")))
  (z0:W.nsIn K mainGlobals "len"=some none) (z1:W.nsIn K mainGlobals "range"=some none) (z2:W.nsIn K mainGlobals "list"=some none) (z3:W.nsIn K mainGlobals "tuple"=some none) (z4:W.nsIn K mainGlobals "isinstance"=some none) (z5:W.nsIn K mainGlobals "int"=some none) (z6:W.nsIn K mainGlobals "bool"=some none) (z7:W.nsIn K mainGlobals "str"=some none) (z8:W.nsIn K mainGlobals "reversed"=some none) (z9:W.nsIn K mainGlobals "all"=some none) (Lg:W.nsIn K mainGlobals "enumerate"=some none) (Kl:W.nsIn K mainGlobals "zip"=some none) (JP:W.nsIn K mainGlobals "sorted"=some none) (KM:W.nsIn K mainGlobals "set"=some none) (KQ:W.nsIn K mainGlobals "dict"=some none) (Iq:W.nsIn K mainGlobals "min"=some none) (KC:W.nsIn K mainGlobals "max"=some none) (J5:W.nsIn K mainGlobals "sum"=some none) (KH:W.nsIn K mainGlobals "ValueError"=some none) :
  ∃fd:FuncData,(∀(s:My) (v:Value),BindsTo s fd ⟨[v],[]⟩ [("_law_script",v)])/\∀base:Heap,K.In base->base.Ns mainGlobals mg->aY l.prog w K mg base bg 12 fa fd ["_law_script"] (ul K):=by
 obtain⟨an,oc,od,osl,kV,doc,pm,ann,cdv,ct,hl,hc,hk⟩:=K5;have e:=K'.symm.trans (W.mg_of X G an);cases e;have FL:=cP hl hc hk;have nb:NB mg:=⟨W.mg_none_of X G z0,W.mg_none_of X G z1,W.mg_none_of X G z2,W.mg_none_of X G z3,W.mg_none_of X G z4,W.mg_none_of X G z5,W.mg_none_of X G z6,W.mg_none_of X G z7,W.mg_none_of X G z8,W.mg_none_of X G z9,W.mg_none_of X G Lg,W.mg_none_of X G Kl,W.mg_none_of X G JP,W.mg_none_of X G KM,W.mg_none_of X G KQ,W.mg_none_of X G Iq,W.mg_none_of X G KC,W.mg_none_of X G J5,W.mg_none_of X G KH⟩;refine⟨W.fnOf "law" "law" (cX rP) (cB rP) (ao rP) .none kV doc pm ann cdv ct,λs v=>.of_eq rfl,λbase _ _=>?_⟩;have yaN:=W.mg_of X G DD;have xc_NoName:Ba K yac [.type "ValueError",.type "Exception",.type "BaseException",.type "object"] "ValueError.__new__":=⟨wo⟩;have ya4:XR K yac:=⟨_,_,_,_,_,_,_,_,⟨wo⟩,PySem.F.excBase_ValueError,rfl,PySem.F.excBase_ValueError⟩;have xt_NoName:W.XTy K yac:=⟨zC,zJ,zZ,AG,zF,Fg,EY,_,_,_,Cc⟩;have ya3:=W.mg_of X G AN;have yan:=W.mg_of X G DI;have yaS:=W.mg_of X G p9;have ybA:=W.mg_of X G GZ;obtain⟨_,_,_,_,_,_,_,_,_,mlRule___init__,mcRule___init__,zZa,mfRule___init__⟩:=nr;have zab:=cP (st:=gb) mlRule___init__ mcRule___init__ zZa;have zuc:=zab.binds (ps:=["self","name","cost","part_names"]) λ_ _ _ _ _ _=>bd4 λ_ _ _ _=>rfl
 have ybv:Du K yae "__init__" zya:=⟨Gj,FP,mX,zZa⟩;have zTa:=W.mg_of X G AO;have zMa:jB K zda:=⟨⟨Jl,Lk,KF,K_⟩,Kk,Fg,EY,Kj⟩;obtain⟨_,_,_,_,_,_,_,_,_,mlCellRule___init__,mcCellRule___init__,zAb,mfCellRule___init__⟩:=jC;have zIa:=cP (st:=fY) mlCellRule___init__ mcCellRule___init__ zAb;have zBb:=zIa.binds (ps:=["self","name","cost","sign"]) λ_ _ _ _ _ _=>bd4 λ_ _ _ _=>rfl
 have zVc:Mk K zda zna:=⟨xP,xr,mfCellRule___init__,yq⟩;have zMc:=W.mg_of X G v5;have zta:jB K zaa:=⟨⟨J7,KI,Li,KR⟩,Jh,Fg,EY,KA⟩;obtain⟨_,_,_,_,_,_,_,_,_,mlBesideRule___init__,mcBesideRule___init__,zpb,mfBesideRule___init__⟩:=iD;have zwa:=cP (st:=eD) mlBesideRule___init__ mcBesideRule___init__ zpb;have zqb:=zwa.binds (ps:=["self","name","cost","one","other"]) λ_ _ _ _ _ _=>bd5 λ_ _ _ _ _=>rfl
 have zFc:Mk K zaa zia:=⟨uq,uy,mfBesideRule___init__,sv⟩;have zWc:=W.mg_of X G xA;have zDa:jB K zba:=⟨⟨Ls,KJ,Jp,Ji⟩,KZ,Fg,EY,JA⟩;obtain⟨_,_,_,_,_,_,_,_,_,mlAboveRule___init__,mcAboveRule___init__,zxb,mfAboveRule___init__⟩:=i6;have zEa:=cP (st:=fo) mlAboveRule___init__ mcAboveRule___init__ zxb;have zyb:=zEa.binds (ps:=["self","name","cost","one","other"]) λ_ _ _ _ _ _=>bd5 λ_ _ _ _ _=>rfl
 have zNc:Mk K zba zla:=⟨v3,v7,mfAboveRule___init__,vW⟩;have zxa:=W.mg_of X G zE;have zNa:jB K zca:=⟨⟨Ku,KL,K6,Jt⟩,Kx,Fg,EY,Le⟩;obtain⟨_,_,_,_,_,_,_,_,_,mlTurnRule___init__,mcTurnRule___init__,zCb,mfTurnRule___init__⟩:=jE;have zJa:=cP (st:=fU) mlTurnRule___init__ mcTurnRule___init__ zCb;have zDb:=zJa.binds (ps:=["self","name","cost","part","turning"]) λ_ _ _ _ _ _=>bd5 λ_ _ _ _ _=>rfl
 have zXc:Mk K zca zoa:=⟨wH,xg,mfTurnRule___init__,xb⟩
 let R:RC:=⟨yae,zda,zaa,zba,zca⟩
 have rk:lF K R:=⟨zMa,zta,zDa,zNa,⟨K7,JU,Jw,Kh⟩,⟨Lh,K4,Lq,JD,JK⟩,⟨KO,Kq,Ju,JE,Ln⟩,⟨JS,Ka,Jr,Kz,K2⟩,Ld,Kd,JZ,J9,IU,IV,I0,Jb⟩;have ya0:=W.mg_of X G vA;have yaR:=W.mg_of X G wk;have yaZ:=W.mg_of X G uO;have yam:=W.mg_of X G Aq;have rk4:BP K R:=⟨λi j hi hj=>by rcases fk hi with rfl | rfl | rfl | rfl<;>rcases fk hj with rfl | rfl | rfl | rfl;exact IU;exact KP;exact J8;exact KG;exact Ko;exact IV;exact JJ;exact Lr;exact Jk;exact Jx;exact I0;exact Lc;exact Kw;exact J2;exact KW;exact Jb⟩;obtain⟨_,_,_,_,_,_,_,_,_,mlRule_parts,mcRule_parts,zqa,mfRule_parts⟩:=ug;have zra:=cP (st:=fe) mlRule_parts mcRule_parts zqa;have zFa:=zra.binds (ps:=["self"]) λ_ _ _ _ _ _=>bd1 λ_=>rfl
 have zVb:iC K zda "parts" zga:=⟨lY,mfRule_parts,zqa⟩;obtain⟨_,_,_,_,_,_,_,_,_,mlCellRule_ways,mcCellRule_ways,zbb,mfCellRule_ways⟩:=m7;have zcb:=cP (st:=fS) mlCellRule_ways mcCellRule_ways zbb;have zvc:=zcb.binds (ps:=["self","cuts"]) λ_ _ _ _ _ _=>bd2 λ_ _=>rfl
 have zfc:iC K zda "ways" zza:=⟨ng,mfCellRule_ways,zbb⟩;have zEb:iC K zaa "parts" zga:=⟨j0,mfRule_parts,zqa⟩;obtain⟨_,_,_,_,_,_,_,_,_,mlBesideRule_ways,mcBesideRule_ways,zRa,mfBesideRule_ways⟩:=ly;have zSa:=cP (st:=d9) mlBesideRule_ways mcBesideRule_ways zRa;have zWb:=zSa.binds (ps:=["self","cuts"]) λ_ _ _ _ _ _=>bd2 λ_ _=>rfl
 have zNb:iC K zaa "ways" zsa:=⟨ku,mfBesideRule_ways,zRa⟩;have zOb:iC K zba "parts" zga:=⟨kh,mfRule_parts,zqa⟩;obtain⟨_,_,_,_,_,_,_,_,_,mlAboveRule_ways,mcAboveRule_ways,zWa,mfAboveRule_ways⟩:=l_;have zXa:=cP (st:=ft) mlAboveRule_ways mcAboveRule_ways zWa;have zgc:=zXa.binds (ps:=["self","cuts"]) λ_ _ _ _ _ _=>bd2 λ_ _=>rfl
 have zXb:iC K zba "ways" zua:=⟨lK,mfAboveRule_ways,zWa⟩;have zYb:iC K zca "parts" zga:=⟨lM,mfRule_parts,zqa⟩;obtain⟨_,_,_,_,_,_,_,_,_,mlTurnRule_ways,mcTurnRule_ways,zdb,mfTurnRule_ways⟩:=m8;have zeb:=cP (st:=fW) mlTurnRule_ways mcTurnRule_ways zdb;have zwc:=zeb.binds (ps:=["self","cuts"]) λ_ _ _ _ _ _=>bd2 λ_ _=>rfl
 have zhc:iC K zca "ways" zAa:=⟨nh,mfTurnRule_ways,zdb⟩;have zvd:=W.mg_of X G B5;have zha:jB K zea:=⟨⟨Je,JG,JQ,K0⟩,JH,Fg,EY,Ki⟩;obtain⟨_,_,_,_,_,_,_,_,_,mlGrammar___init__,mcGrammar___init__,zPb,mfGrammar___init__⟩:=jS;have zOa:=cP (st:=f_) mlGrammar___init__ mcGrammar___init__ zPb;have zQb:=zOa.binds (ps:=["self","signs","start","rules"]) λ_ _ _ _ _ _=>bd4 λ_ _ _ _=>rfl
 have zld:Mk K zea zpa:=⟨zY,zu,mfGrammar___init__,Am⟩;have gk:IY K zea:=⟨zha,Km,J1,JY,J6⟩;obtain⟨_,_,_,_,_,_,_,_,_,mlGrammar_rule,mcGrammar_rule,zrb,mfGrammar_rule⟩:=oz;have zsb:=cP (st:=f') mlGrammar_rule mcGrammar_rule zrb;have zCc:=zsb.binds (ps:=["self","k"]) λ_ _ _ _ _ _=>bd2 λ_ _=>rfl
 have zxc:iC K zea "rule" zLa:=⟨oJ,mfGrammar_rule,zrb⟩;obtain⟨_,_,_,_,_,_,_,_,_,mlGrammar_rules,mcGrammar_rules,zfb,mfGrammar_rules⟩:=mV;have zgb:=cP (st:=fu) mlGrammar_rules mcGrammar_rules zfb;have zyc:=zgb.binds (ps:=["self"]) λ_ _ _ _ _ _=>bd1 λ_=>rfl
 have zic:iC K zea "rules" zBa:=⟨nk,mfGrammar_rules,zfb⟩;obtain⟨_,_,_,_,_,_,_,_,_,mlGrammar_names,mcGrammar_names,zhb,mfGrammar_names⟩:=m_;have zib:=cP (st:=eZ) mlGrammar_names mcGrammar_names zhb;have zzc:=zib.binds (ps:=["self"]) λ_ _ _ _ _ _=>bd1 λ_=>rfl
 have zjc:iC K zea "names" zCa:=⟨mZ,mfGrammar_names,zhb⟩;obtain⟨_,_,_,_,_,_,_,_,_,mlGrammar_numbers_of,mcGrammar_numbers_of,zGa,mfGrammar_numbers_of⟩:=iV;have zHa:=cP (st:=cY) mlGrammar_numbers_of mcGrammar_numbers_of zGa;have zzb:=zHa.binds (ps:=["self","name"]) λ_ _ _ _ _ _=>bd2 λ_ _=>rfl
 have ztb:iC K zea "numbers_of" zma:=⟨iP,mfGrammar_numbers_of,zGa⟩;have ybl:=W.mg_of X G Hs;have yah:jB K yaa:=⟨⟨GC,Gu,Gw,FX⟩,GD,Fg,EY,FE⟩;obtain⟨_,_,_,_,_,_,_,_,_,mlCuts___init__,mcCuts___init__,mkCuts___init__,mfCuts___init__⟩:=nn;have ybf:=cP (st:=gc) mlCuts___init__ mcCuts___init__ mkCuts___init__;have ybz:=ybf.binds (ps:=["self","picture"]) λ_ _ _ _ _ _=>bd2 λ_ _=>rfl
 have ybF:Mk K yaa ybb:=⟨F9,Gy,mfCuts___init__,FF⟩;obtain⟨_,_,_,_,_,_,_,_,_,mlCuts_turned_text,mcCuts_turned_text,mkCuts_turned_text,mfCuts_turned_text⟩:=ka;have ybg:=cP (st:=d_) mlCuts_turned_text mcCuts_turned_text mkCuts_turned_text;have ybx:=ybg.binds (ps:=["self","t"]) λ_ _ _ _ _ _=>bd2 λ_ _=>rfl
 have ybn:iC K yaa "turned_text" ya8:=⟨jO,mfCuts_turned_text,mkCuts_turned_text⟩;have nc:Ff K yaa:=⟨oo,vy,jx,jZ⟩;have yat:=W.mg_of X G G_;have yaQ:=W.mg_of X G o0;have ya5:=W.mg_of X G C7;have xc_TooMany:Ba K yad [.type "ValueError",.type "Exception",.type "BaseException",.type "object"] "ValueError.__new__":=⟨qP⟩;have ya1:XR K yad:=⟨_,_,_,_,_,_,_,_,⟨qP⟩,PySem.F.excBase_ValueError,rfl,PySem.F.excBase_ValueError⟩;have xt_TooMany:W.XTy K yad:=⟨wU,xO,xN,wY,wZ,Fg,EY,_,_,_,Ag⟩;have yaf:=a1∣wC F nb;have yal:=a2∣wB F nb yaS ya3 yaf;have zfa:A1 l.prog w K mg base bg 3 "Rule" "__init__" ["self","name","cost","part_names"] (dr K):=⟨_,_,_,tu zab nb yal,ybA,ybv,zuc⟩;have zjb:lR l.prog w K mg base bg 4 "CellRule" zda ["self","name","cost","sign"] (gP K):=⟨_,_,uA zIa nb yan yaf zfa,zTa,zVc,zBb⟩;have zPa:lR l.prog w K mg base bg 4 "BesideRule" zaa ["self","name","cost","one","other"] (dq K):=⟨_,_,ol zwa nb zfa,zMc,zFc,zqb⟩;have zUa:lR l.prog w K mg base bg 4 "AboveRule" zba ["self","name","cost","one","other"] (dq K):=⟨_,_,qw zEa nb zfa,zWc,zNc,zyb⟩;have zkb:lR l.prog w K mg base bg 4 "TurnRule" zca ["self","name","cost","part","turning"] (ig K):=⟨_,_,sZ zJa nb zfa,zxa,zXc,zDb⟩;have yaY:xK l.prog w K mg base bg 1 "parts" (n9 K R):=E5 ⟨_,_,_,eF zra nb,zMa.cl,zVb,zFa⟩ ⟨_,_,_,eF zra nb,zta.cl,zEb,zFa⟩ ⟨_,_,_,eF zra nb,zDa.cl,zOb,zFa⟩ ⟨_,_,_,eF zra nb,zNa.cl,zYb,zFa⟩;have yaJ:=a3∣sM F nb ya0 yan yaf;have yaM:=a4∣lV F nb rk rk4 yaR zTa yaJ yal;have ybd:=a5∣kc F nb rk yaY;have zub:lR l.prog w K mg base bg 4 "Grammar" zea ["self","signs","start","rules"] (ie K R):=⟨_,_,tz zOa nb yaZ yaM ybd,zvd,zld,zQb⟩;have yao:ij l.prog w K mg base bg 1 zea "rule" ["self","k"] (fq R zea):=⟨_,_,tW zsb nb zha.cl gk.na,zha.cl,zxc,zCc⟩;have yax:ij l.prog w K mg base bg 1 zea "rules" ["self"] (gs R zea):=⟨_,_,qA zgb nb zha.cl gk.na,zha.cl,zic,zyc⟩;have yaB:ij l.prog w K mg base bg 1 zea "names" ["self"] (gg R zea):=⟨_,_,pY zib nb zha.cl gk.na,zha.cl,zjc,zzc⟩;have yai:ij l.prog w K mg base (kU l.prog w) 1 zea "numbers_of" ["self","name"] (cR R zea yac):=⟨_,_,j8 zHa nb zha.cl gk.na yaN ya4,zha.cl,ztb,zzb⟩;have ya2:=a6∣A2 F nb;have yaA:=a7∣AW F nb;have yaz:=a8∣xy F nb yaA;have zja:=a9∣AK F nb ya2 yaz;have yaK:=Kg∣BF F;have yaI:=Kc∣D3 F;have yab:=KD∣Ci F;have ybc:=Js∣qi F nb;have yay:=Jv∣xm F nb;have ya6:=KN∣j6 F nb;have yaU:=JF∣yo F nb yam ybc yay zja yab ya6;have yaP:=Ke∣zD F nb;have yar:=Jy∣m9 F nb yaP yab;have yaF:lR l.prog w K mg base bg 3 "Cuts" yaa ["self","picture"] (gR K):=⟨_,_,tD ybf nb yab yar,ybl,ybF,ybz⟩;have zKa:ij l.prog w K mg base bg 4 yaa "turned_text" ["self","t"] (fA yaa):=⟨_,_,ow ybg nb yah.cl nc zja yab,yah.cl,ybn,ybx⟩;have ya7:xK l.prog w K mg base bg 5 "ways" (pi R yaa):=E5 ⟨_,_,_,(tP zcb yah.cl nc zMa.cl rk.a0.2.2.2).mono nofun,zMa.cl,zfc,zvc⟩ ⟨_,_,_,(pM zSa yah.cl nc zta.cl ⟨rk.a1.2.2.2.1,rk.a1.2.2.2.2⟩).mono nofun,zta.cl,zNb,zWb⟩ ⟨_,_,_,(ql zXa yah.cl nc zDa.cl ⟨rk.a2.2.2.2.1,rk.a2.2.2.2.2⟩).mono nofun,zDa.cl,zXb,zgc⟩ ⟨_,_,_,tF zeb yah zNa.cl ⟨rk.a3.2.2.2.1,rk.a3.2.2.2.2⟩ zKa yaI,zNa.cl,zhc,zwc⟩;have yba:=Lb∣yf F nb rk;have yaC:=JV∣Ap F nb yao ya7 yba;have yak:=K9∣Bw F nb;have yaL:=Jm∣m6 F nb rk yah.cl nc yao yaC yak;have yaV:=JI∣qz F nb rk yaK yak;have yaG:=J3∣km F nb rk rk4 yah nc yam zxa yax yaB yaF zja yaL yaV;have yaj:=Kv∣qx F nb yaU yab yaG;have yaW:=KK∣wg F nb yaj
 have yaH:=Kn∣qB F nb zha.cl gk.na yai;have yaT:=J0.cal (P:=l.prog) (w:=w) (base:=base) X G (λ_ _ F=>pX F nb yaH yaW yab) λ_ _ _ _ _ _ _ us hl=>match us,hl with | [_,_,_],_=>⟨_,rfl,rfl⟩
 have yaO:=JX∣vN F nb;have yav:=Kt∣AT F nb;have ya9:=JB∣mY F nb yat yav;have yaE:=Jz∣oi F nb zha.cl gk.na yaQ ya5 ya1 yai yaO ya9 yaj yab;have zka:=JT∣Ai F nb;have zGb:=Lf∣ya F nb zka;have zHb:=JL∣yd F nb;have zIb:=K1∣xL F nb;have zQa:=JR∣ou F nb;have zJb:=Kb∣xR F nb zQa;have zac:=J'∣Aw F nb rk zjb zPa zUa zkb;have zlb:=JO∣uC F nb gk zac zub;have zvb:=KU∣uV F nb;have zwb:=KY∣vb F nb;have zFb:=Lo∣xl F nb;have zva:=Jn.cal l.prog w base X G (λ_ F m k b=>CO F nb nb.sum zFb) (λ_ _ _ _ _ _=>bd6 λ_ _ _ _ _ _=>rfl);have zVa:=JW∣qG F nb;have zbc:=Jg∣zN F nb zVa zva zvb zwb;have zKb:=J4∣xW F nb zva zbc;have zAc:=Jj∣Bx F nb;exact F_ FL nb zka zGb zHb zIb zJb zKb zlb yaE yaT zAc
theorem walk{l:W.OpenLaw}{loose:MF}{XP:(Str->Option Value)->Heap->Prop}{YP:World->Heap->Prop}{d:DefRec}{K:Params->W.Frag}(hn:l.most=some 63)(hdf:d.params.defaults=[])
  (hY:∀(w:MJ) (h:Heap),YP w h->(K w.params).In h)
  (F:∀(w:MJ) (mg:MB) (fa:Addr) (h:Heap),(K w.params).In h->h.Ns mainGlobals mg->mg d.name=some (.ref fa) ->
   ∃fd:FuncData,(∀(s:My) (u:Value),BindsTo s fd ⟨[u],[]⟩ [("_law_script",u)])/\∀base:Heap,(K w.params).In base->base.Ns mainGlobals mg->aY l.prog w (K w.params) mg base bg 12 fa fd ["_law_script"] (ul (K w.params))) :
  W.WalkO q loose XP YP l.row.toRowW d [] (λf vs=>PySem.call f vs):=
 L2.walk_of (n:=63) (k:=12) (x:="_law_script") (CX:=λ_=>bg) (sp:=λw=>ul (K w.params)) hn nofun hdf ⟨rfl,nofun,nofun⟩ hY F (λ_ _ a ns hl _ hS=>⟨a,ns,rfl,hS,λ_=>rfl⟩) λ_ _ _ _ _ z=>z
end Q55
open PySem PySem.W PyProof.Rows
local macro_rules | `(tactic| walk_at "kk")=>`(tactic| first | (refine' Q55.fk_mk ?p ?q ?r ?s;(case p=>k_is);(case q=>k_is);(case r=>k_is);(case s=>k_is)) | (refine' Q55.fkd_mk ?p ?q ?r ?s ?t ?u;(case p=>k_is);(case q=>k_is);(case r=>k_is);(case s=>k_is);(case t=>k_is);(case u=>rfl)) | (refine' Q55.mk_mk ?p ?q ?r ?s;(case p=>k_is);(case q=>k_is);(case r=>k_is);(case s=>k_is)) | k_is | kernel_rfl | rfl | decide +kernel)
set_option maxRecDepth 100000 in
set_option maxHeartbeats 0 in
theorem PySem.Challenge.cw_quiltlaw_k55_whole_sizes_and_costs_holds : PySem.Challenge.rw_quiltlaw_k55_whole_sizes_and_costs.Holds := by
 w_on;o_law;k_head;(case hw=>w_witness2)
 k_fill
 refine Q55.walk (l:=PySem.Challenge.rw_quiltlaw_k55_whole_sizes_and_costs) rfl rfl (λw h Y=>PySem.W.kIn_of Y) ?F
 case F=>
  intro w mg fa h KX G hmg
  apply Q55.all_mk KX G hmg
  all_goals (try walk_at "kk")
